import PyProof.Rows.All
import Wide.All
import OpenK.AllK
import Wide.FinOn
import Lean
import PyProof.EqAt
import PyProof.EqKinds
import PyProof.TupleCall
import PyProof.NeKinds
import PyProof.EnumMake
import PyProof.ConsumeWalk
import PyProof.StrWalks
import PyProof.WalksMore
import PyProof.StrLawsNeg
import KE.KDictList
import KE.KLam
import KE.KMinKey
import KE.KSortTup
import KE.KUnpack
import PySem.Challenge.RW_citeward_k39_whole_any_order
set_option Elab.async false
set_option linter.all false
set_option genSizeOf false
set_option genSizeOfSpec false
set_option maxRecDepth 100000
set_option maxHeartbeats 4000000
open Option renaming bind_eq_some_iff->aa,map_eq_some_iff->cm,some->cz,bind_some->c6
open PySem renaming wpAny_bind->ac,wpAny_pure->ag,Value->ah,Addr->aj,Shared->am,starEach->a9,sizeLine->bd,wpAny->bg,model->b4,Program->b6,mainGlobals->b7,FuncData->ci,Expr->cj,World->c7,Around->dh,wpAny_call_entry->dr,wpAny_loadPart'->du,Heap->d6,wpAny_newObj_type->ff,sizeLine_eq->fu,cLine->f6,wpAny_callSpecial?_slot->gd,wpAny_holding->gm,eval->gp,backTo->gq,SetTable->g7,compareOp->g9,strIterType->h9
open PySem.W renaming Frag->ad,keepIn->bu,nsIn->cr,mg_of->dw,mg_none_of->gr
open List renaming mem_cons_self->af,mem_cons_of_mem->ao,length_map->aq,mem_singleton->ar,getElem?_eq_getElem->av,length_append->aw,mem_map->ax,getElem?_map->az,getElem?_eq_some_iff->a8,map_cons->bc,length_cons->bf,mem_append_right->bh,mem_append_left->bj,getD_eq_getElem?_getD->bn,size_toArray->bq,mem_cons->bx,mem_append->bz,mem_of_getElem?->b5,map_append->b9,map_map->cg,range->cq,mem_range->cu,not_lt->de,nodup_nil->df,getElem?_append_left->dg,nodup_cons->dm,replicate->dn,nodup_append->dq,getElem?_eq_none->dy,getElem?_set_self->d5,nil_append->d7,getElem_of_mem->eh,lt_irrefl->fg,getElem?_set_ne->fj,length_singleton->f8,mem_flatMap->gg,getElem?_append_right->gh,append_assoc->gn,length_take->gv,cons_lt_cons_iff->gx,exists_cons_of_ne_nil->ic,toArray->ik,lookup_cons->im
open PySem.Heap renaming get?_push_of_some->au,lt_size->bo,get?_push_size->bp,get?_update_self->g6,SameBut->io
open Array renaming length_toList->ay,getElem?_toList->c9,getElem?_eq_some_iff->gk
open Nat renaming le_refl->ba,ne_of_lt->cf,lt_of_lt_of_le->c8,le_trans->dk,lt_or_ge->dv,not_lt_zero->dz,zero_le->f7,lt_of_le_of_lt->ib,lt_irrefl->ii
open Bool renaming false_eq_true->bi,false_ne_true->bv,not_true->fq
open PySem.Value renaming ref->b8,none->ck
open PySem.PassesOwn renaming never->cw
open List.Nodup renaming length_le_of_subset->da
open PySem.Obj renaming mapSeq->di
open PySem.Builtin.Str renaming occurrences->dj
open Sum renaming inr->d3
open PyProof.Rows renaming seqObj->d4
open Int renaming emod_lt_of_pos->d8,emod_nonneg->f9,toNat_natCast->g8
open PySem.F renaming slot_dict_keyiterator_next->gu
open Or renaming inr->gw
open List.Pairwise renaming and_mem->gz
open PySem.Around renaming under_plainId->ie
open PySem.Paired renaming length->ig
open PySem.NameKind renaming free->ij
open Option renaming some->aA,none->aB
open Bool renaming true->aC,false->aD
set_option bootstrap.genMatcherCode false
noncomputable section
namespace L2
open PySem PySem.Spec PyProof.Rows
noncomputable abbrev Key:=Sum Int Str
def Gn:Key->ah->Bool
 | .inl k,v=>Value.isInt k v
 | .inr x,v=>Value.isStrOf x v
def Zt8(w:c7):Key->Int
 | .inl k=>hashInt k
 | .inr x=>hashStr w x
theorem Z6:∀{k:Key} {v:ah},Gn k v=aC->(∃i t,k=Sum.inl i/\v=Value.int i t)\/(∃x t,k=d3 x/\v=Value.str x t)
 | .inl i,v,h=>by obtain⟨t,e⟩:=Value.isInt_shape (k:=i) (v:=v) h;exact .inl ⟨i,t,rfl,e⟩
 | .inr x,v,h=>by obtain⟨t,e⟩:=Value.isStrOf_shape (x:=x) (v:=v) h;exact .inr ⟨x,t,rfl,e⟩
theorem Za4(i t):Gn (.inl i) (.int i t)=aC:=by simp[Gn,Value.isInt]
theorem Za5(x t):Gn (.inr x) (.str x t)=aC:=by simp[Gn,Value.isStrOf]
theorem Zlo(a b):decide ((Sum.inl a:Key)=Sum.inl b)=(a==b):=by
 by_cases e:a=b
 .subst e;simp
 .have h:¬(Sum.inl a:Key)=Sum.inl b:=λq=>e (Sum.inl.inj q);rw[decide_eq_false h];exact(beq_eq_false_iff_ne.mpr e).symm
theorem Zlp(a b):decide ((d3 a:Key)=d3 b)=decide (a=b):=by
 by_cases e:a=b
 .subst e;simp
 .have h:¬(d3 a:Key)=d3 b:=λq=>e (d3.inj q);rw[decide_eq_false h,decide_eq_false e]
theorem Zlq(a b):decide ((Sum.inl a:Key)=d3 b)=aD:=decide_eq_false (λq=>nomatch q)
theorem Zlr(a b):decide ((d3 a:Key)=Sum.inl b)=aD:=decide_eq_false (λq=>nomatch q)
def Zr(prog:b6)(w:c7):PySem.KeyKind prog w Key where
 is:=Gn
 hash:=Zt8 w
 inj:=λv a b ha hb=>by
  rcases Z6 ha with⟨i,t,rfl,rfl⟩|⟨x,t,rfl,rfl⟩
  .rcases Z6 hb with⟨j,u,rfl,e⟩|⟨y,u,rfl,e⟩
   .injection e with e1 _;rw[e1]
   .exact nomatch e
  .rcases Z6 hb with⟨j,u,rfl,e⟩|⟨y,u,rfl,e⟩
   .exact nomatch e
   .injection e with e1 _;rw[e1]
 byValue:=λk v h=>by rcases Z6 h with⟨i,t,rfl,rfl⟩|⟨x,t,rfl,rfl⟩<;> rfl
 pyHash:=λhv h=>by
  rcases Z6 hv with⟨i,t,rfl,rfl⟩|⟨x,t,rfl,rfl⟩
  .exact wpAny_pyHash_int h
  .exact wpAny_pyHash_str h
 eqBool:=λhu hv h=>by
  rcases Z6 hu with⟨i,t,rfl,rfl⟩|⟨x,t,rfl,rfl⟩
  .rcases Z6 hv with⟨j,u,rfl,rfl⟩|⟨y,u,rfl,rfl⟩
   .rw[Zlo]at h;exact wpAny_eqBool_int h
   .rw[Zlq]at h;exact SeqAt.EqAt.int_str i t y u _ _ _ _ h
  .rcases Z6 hv with⟨j,u,rfl,rfl⟩|⟨y,u,rfl,rfl⟩
   .rw[Zlr]at h;exact SeqAt.EqAt.str_int x t j u _ _ _ _ h
   .rw[Zlp]at h;exact wpAny_eqBool_str h
 «strs»:=λk x t v h=>by
  rcases Z6 h with⟨i,u,rfl,e⟩|⟨y,u,rfl,e⟩
  .exact nomatch e
  .injection e with e1 _;subst e1;cases v<;> rfl
theorem Zls(prog w k v):(Zr prog w).is k v=Gn k v:=rfl
theorem Pk(prog w i t):(Zr prog w).is (.inl i) (.int i t)=aC:=Za4 i t
theorem Pl(prog w x t):(Zr prog w).is (.inr x) (.str x t)=aC:=Za5 x t
noncomputable abbrev Zl:=Sum (List Str) (Int×List Str)
def Gj(l:List Str):List Key:=l.map d3
theorem Li(h:Gj a=Gj b):a=b:=by
 induction a generalizing b with
 |nil=>cases b with
  |nil=>rfl
  |cons y b=>simp[Gj]at h
 |cons x a ih=>cases b with
  |nil=>simp[Gj]at h
  |cons y b=>simp only[Gj,bc,List.cons.injEq]at h;rw[d3.inj h.1,ih h.2]
theorem Hs(a b):decide (Gj a=Gj b)=decide (a=b):=by
 by_cases e:a=b
 .rw[e];simp
 .rw[decide_eq_false e,decide_eq_false λz=>e (Li z)]
def Om(prog:b6)(w:c7)(h:d6):Zl->aj->Prop
 | .inl l,a=>IsTupleKey (Zr prog w) h (Gj l) a
 | .inr (n,l),a=>∃o items m t b,h.get? a=aA o/\o.cls= .type "tuple"/\o.data= .seq items m/\items.toList=[.int n t,.ref b]/\IsTupleKey (Zr prog w) h (Gj l) b
def Ye(prog:b6)(w:c7):Zl->Int
 | .inl l=>tupleKeyHash (Zr prog w) (Gj l)
 | .inr (n,l)=>reduceHash (Builtin.Tuple.tupleHashOf [hashInt n,tupleKeyHash (Zr prog w) (Gj l)])
def T7:Zl->Nat
 | .inl l=>(Gj l).length+1
 | .inr (_,l)=>1+((Gj l).length+1)+1
section
variable{prog:b6}{w:c7}{s:am}
theorem Om.typeIs(x:Om prog w s.heap k a):s.TypeIs (.ref a) "tuple":=by
 cases k with
 |inl l=>exact IsTupleKey.typeIs (show IsTupleKey (Zr prog w) s.heap (Gj l) a from x)
 |inr p=>obtain⟨o,_,_,_,_,ho,hc,_⟩:=x;exact⟨o,ho,hc⟩
theorem T8(h:ItemsAre (Zr prog w) (Gj l) (.int n t::vs)):False:=by
 cases l with
 |nil=>cases h
 |cons x l=>
  cases h with
  |cons h1 _=>
   rcases Z6 (k:=.inr x) (v:=.int n t) h1 with⟨_,_,e,_⟩|⟨_,_,_,e⟩
   .cases e
   .cases e
theorem Om.inj(hx:Om prog w h x a)(hy:Om prog w h y a):x=y:=by
 have mix:∀{l:List Str} {n:Int} {l2:List Str},Om prog w h (.inl l) a->Om prog w h (.inr (n,l2)) a->False:=fun{l n l2} h1 h2=>by obtain⟨o,items,m,ho,_,hd,hi⟩:=h1;obtain⟨o',items',m',t,b,ho',_,hd',e,_⟩:=h2;obtain rfl:o=o':=cz.inj (ho.symm.trans ho');rw[hd]at hd';injection hd' with z _;subst z;rw[e]at hi;exact T8 hi
 cases x with
 |inl l=>cases y with
  |inl l2=>rw[Li (IsTupleKey.inj (show IsTupleKey (Zr prog w) h (Gj l) a from hx) hy)]
  |inr p=>exact(mix hx hy).elim
 |inr p=>cases y with
  |inl l2=>exact(mix hy hx).elim
  |inr q=>obtain⟨n,l⟩:=p;obtain⟨n2,l2⟩:=q;obtain⟨o,items,m,t,b,ho,_,hd,e,hb⟩:=hx;obtain⟨o',items',m',t',b',ho',_,hd',e',hb'⟩:=hy;obtain rfl:o=o':=cz.inj (ho.symm.trans ho');rw[hd]at hd';injection hd' with z _;subst z;rw[e]at e';injection e' with e1 e2;injection e1 with e1 _;injection e2 with e2 _;injection e2 with e2;subst e1 e2;rw[Li (hb.inj hb')]
theorem Om.keeps (x:Om prog w h k a)(ho:h.get? d=aA o)(hd:o.data= .dict es ep)(hs:io d h h'):Om prog w h' k a:=by
 cases k with
 |inl l=>exact IsTupleKey.keeps (show IsTupleKey (Zr prog w) h (Gj l) a from x) ho hd hs
 |inr p=>
  obtain⟨o',items,m,t,b,ho',hc,hd',e,hb⟩:=x;have hne:a≠d:=by rintro rfl;obtain rfl:o'=o:=cz.inj (ho'.symm.trans ho);rw[hd]at hd';exact nomatch hd'
  exact⟨o',items,m,t,b,(hs.2 a hne).trans ho',hc,hd',e,hb.keeps ho hd hs⟩
theorem Om.mono(x:Om prog w h k a)(hk:∀b o,h.get? b=aA o->h'.get? b=aA o):Om prog w h' k a:=by
 cases k with
 |inl l=>obtain⟨o,items,m,ho,r⟩:=x;exact⟨o,items,m,hk _ _ ho,r⟩
 |inr p=>obtain⟨o,items,m,t,b,ho,hc,hd,e,⟨o2,i2,m2,ho2,r2⟩⟩:=x;exact⟨o,items,m,t,b,hk _ _ ho,hc,hd,e,o2,i2,m2,hk _ _ ho2,r2⟩
theorem Zcx(hu:A.units+1<f6)(hk:Om prog w s.heap k a)(h:Q (Ye prog w k) {s with toks:=s.toks+T7 k}):bg (b4 prog w) A (pyHash (.ref a)) Q E s:=by
 cases k with
 |inl l=>exact wpAny_pyHash_tuple (knd:=Zr prog w) (by omega) hk h
 |inr p=>
  have hT:=hk.typeIs;obtain⟨n,l⟩:=p;obtain⟨o,items,m,t,b,ho,_,hd,hi,hb⟩:=hk;unfold pyHash
  first|unfold pyHashByItsType|skip
  first|refine ac (wpAny_cRoomFor_or (.inr (by omega)) ?_)|skip
  refine ac (wpAny_specialOf hT F.slot_tuple_hash.lookup ?_);show bg _ _ (if(aA (Value.builtin "tuple.__hash__")==aA ck)=aC then _ else _) Q E s;rw[if_neg (by rw[beq_builtin_none];exact bv)];refine ac (wpAny_specialOf hT F.slot_tuple_hash.lookup ?_);show bg _ _ (callSpecialIfBoundUnlessNone? (.ref a) "__hash__" _ >>=_) Q E s;refine ac (wpAny_callSpecialIfBoundUnlessNone?_slot hT F.slot_tuple_hash (dr F.slot_tuple_hash hT F.entry_tuple_hash ?_ (F.args_tuple_hash_1 _)));show bg _ _ (Builtin.Tuple.tupleItemsOf (.ref a) >>=_) _ _ s;refine ac (wpAny_tupleItemsOf ho hd ?_);refine ac ?_;rw[<-Array.forIn_toList,hi];simp only[List.forIn_cons,List.forIn_nil];have hu1:A.in1.units<cLine:=hu;refine ac (ac (wpAny_pyHash_int ?_));refine ag ?_;dsimp only;refine ac (ac (wpAny_pyHash_tuple (knd:=Zr prog w) (s:={s with toks:=s.toks+1}) hu1 hb ?_));refine ag ?_;refine ag ?_;generalize hg:tupleKeyHash (Zr prog w) (Gj l)=g at h⊢;show bg _ _ (retInt (Builtin.Tuple.tupleHashOf [hashInt n,g])) _ _ _;refine wpAny_ret_mkInt ?_;unfold Ye at h;dsimp only at h;rw[hg]at h;generalize Builtin.Tuple.tupleHashOf [hashInt n,g]=z at h⊢;show bg _ _ (if(decide (-(2:Int)^63<=z)&&decide (z<2^63))=aC then _ else _) Q E _;unfold reduceHash at h;by_cases hr:(decide (-(2:Int)^63<=z)&&decide (z<2^63))=aC
  .rw[if_pos hr];rw[if_pos hr]at h;exact ag (by simpa[T7,Nat.add_assoc]using h)
  .rw[if_neg hr];rw[if_neg hr]at h;exact ac (wpAny_rule (ag (by simpa[T7,Nat.add_assoc]using h)))
theorem Za6(hu:A.units<f6)(hx:Om prog w s.heap x a)(hy:Om prog w s.heap y b)(h:P (.done (.ret (.bool (decide (x=y))))) s):
  bg (b4 prog w) A (Builtin.«tuple.__eq__» ⟨[.ref a,.ref b],[]⟩) P E s:=by
 have mixS:∀(x:Str) (tx:Tok) (n:Int) (tn:Tok) {Q:Bool->am->Prop},Q aD s->bg (b4 prog w) A (eqBool (.str x tx) (.int n tn)) Q E s:=λx tx n tn Q q=>SeqAt.EqAt.str_int x tx n tn _ _ _ _ q;have mixI:∀(x:Str) (tx:Tok) (n:Int) (tn:Tok) {Q:Bool->am->Prop},Q aD s->bg (b4 prog w) A (eqBool (.int n tn) (.str x tx)) Q E s:=λx tx n tn Q q=>SeqAt.EqAt.int_str n tn x tx _ _ _ _ q;have hTb:=hy.typeIs;cases x with
 |inl l=>cases y with
  |inl l2=>
   refine tuple_eq_tree (knd:=Zr prog w) (x:=Gj l) (y:=Gj l2) hx hy ?_;rw[Hs];have:decide ((Sum.inl l:Zl)=Sum.inl l2)=decide (l=l2):=by
    by_cases e:l=l2
    .rw[e];simp
    .rw[decide_eq_false e,decide_eq_false λz=>e (Sum.inl.inj z)]
   rw[this]at h;exact h
  |inr p=>
   obtain⟨n,l2⟩:=p;obtain⟨oa,xs,na,hoa,_,hda,hia⟩:=hx;obtain⟨ob,ys,nb,t,c,hob,_,hdb,e,hc⟩:=hy;have hf:decide ((Sum.inl l:Zl)=d3 (n,l2))=aD:=decide_eq_false λz=>nomatch z;rw[hf]at h;show bg _ _ (isInstance (.ref b) (.type "tuple") >>=_) _ _ s;refine ac (wpAny_isInstance hTb isSubtype_tuple_tuple ?_);simp only[fq,bi,if_false];refine ac (wpAny_tupleItemsOf hoa hda ?_);refine ac (wpAny_tupleItemsOf hob hdb ?_);rw[e];have sy:ys.size=2:=by rw[<-ay,e];rfl
   cases l with
   |nil=>
    generalize hxs:xs.toList=vs at hia;cases hia;have sx:xs.size=0:=by rw[<-ay,hxs];rfl
    simp only[List.zip_nil_left,List.forIn_nil];refine ac (ag ?_);refine ag ?_;show P (.done (.ret (.bool (xs.size==ys.size)))) s;rw[sx,sy];exact h
   |cons x l=>
    generalize hxs:xs.toList=vs at hia;cases hia with
    | @cons _ v _ vs h1 _=>
     rcases Z6 (k:=.inr x) (v:=v) h1 with⟨_,_,z,_⟩|⟨_,tx,z,rfl⟩
     .cases z
     .simp only[List.zip_cons_cons,List.forIn_cons];refine ac (ac (ac (mixS _ _ _ _ ?_)));simp only[Bool.not_false,if_true];exact ac (ag (ag (ag (ag h))))
 |inr p=>cases y with
  |inl l=>
   obtain⟨n,l2⟩:=p;obtain⟨ob,ys,nb,t,c,hob,_,hdb,e,hc⟩:=hx;obtain⟨oa,xs,na,hoa,_,hda,hia⟩:=hy;have hf:decide ((d3 (n,l2):Zl)=Sum.inl l)=aD:=decide_eq_false λz=>nomatch z;rw[hf]at h;show bg _ _ (isInstance (.ref b) (.type "tuple") >>=_) _ _ s;refine ac (wpAny_isInstance hTb isSubtype_tuple_tuple ?_);simp only[fq,bi,if_false];refine ac (wpAny_tupleItemsOf hob hdb ?_);refine ac (wpAny_tupleItemsOf hoa hda ?_);rw[e];have sy:ys.size=2:=by rw[<-ay,e];rfl
   cases l with
   |nil=>
    generalize hxs:xs.toList=vs at hia;cases hia;have sx:xs.size=0:=by rw[<-ay,hxs];rfl
    simp only[List.zip_nil_right,List.forIn_nil];refine ac (ag ?_);refine ag ?_;show P (.done (.ret (.bool (ys.size==xs.size)))) s;rw[sx,sy];exact h
   |cons x l=>
    generalize hxs:xs.toList=vs at hia;cases hia with
    | @cons _ v _ vs h1 _=>
     rcases Z6 (k:=.inr x) (v:=v) h1 with⟨_,_,z,_⟩|⟨_,tx,z,rfl⟩
     .cases z
     .simp only[List.zip_cons_cons,List.forIn_cons];refine ac (ac (ac (mixI _ _ _ _ ?_)));simp only[Bool.not_false,if_true];exact ac (ag (ag (ag (ag h))))
  |inr q=>
   obtain⟨n,l⟩:=p;obtain⟨n2,l2⟩:=q;obtain⟨oa,xs,na,ta,ca,hoa,_,hda,ea,hca⟩:=hx;obtain⟨ob,ys,nb,tb,cb,hob,_,hdb,eb,hcb⟩:=hy;show bg _ _ (isInstance (.ref b) (.type "tuple") >>=_) _ _ s;refine ac (wpAny_isInstance hTb isSubtype_tuple_tuple ?_);simp only[fq,bi,if_false];refine ac (wpAny_tupleItemsOf hoa hda ?_);refine ac (wpAny_tupleItemsOf hob hdb ?_);rw[ea,eb];have sx:xs.size=2:=by rw[<-ay,ea];rfl
   have sy:ys.size=2:=by rw[<-ay,eb];rfl
   simp only[List.zip_cons_cons,List.zip_nil_left,List.forIn_cons,List.forIn_nil];refine ac (ac (ac (wpAny_eqBool_int ?_)));by_cases hn:n=n2
   .subst hn;simp only[beq_self_eq_true,fq,bi,if_false];refine ag ?_;dsimp only;refine ac (ac (wpAny_eqBool_tuple (knd:=Zr prog w) hu hca hcb ?_));rw[Hs];by_cases hl:l=l2
    .subst hl;simp only[decide_true,fq,bi,if_false];refine ag (ag (ag ?_));show P (.done (.ret (.bool (xs.size==ys.size)))) s;rw[sx,sy];simpa using h
    .simp only[decide_eq_false hl,Bool.not_false,if_true];have hf:decide ((d3 (n,l):Zl)=d3 (n,l2))=aD:=decide_eq_false λz=>hl (by injection z with z;injection z);rw[hf]at h;exact ac (ag (ag (ag (ag h))))
   .have hb:(n==n2)=aD:=beq_eq_false_iff_ne.mpr hn;simp only[hb,Bool.not_false,if_true];have hf:decide ((d3 (n,l):Zl)=d3 (n2,l2))=aD:=decide_eq_false λz=>hn (by injection z with z;injection z);rw[hf]at h;exact ac (ag (ag (ag (ag h))))
theorem Zow(hu:A.units+1<f6)(hx:Om prog w s.heap x a)(hy:Om prog w s.heap y b)(h:Q (decide (x=y)) s):bg (b4 prog w) A (eqBool (.ref a) (.ref b)) Q E s:=by
 unfold eqBool
 try with_reducible refine gm ?_
 show bg _ _ (if(b8 a==b8 b)=aC then _ else _) Q E s;by_cases hab:(b8 a==b8 b)=aC
 .rw[if_pos hab];have e:a=b:=by have:=eq_of_beq hab;injection this
  subst e;obtain rfl:=hx.inj hy;exact ac (wpAny_rule (ag (by simpa using h)))
 .rw[if_neg hab];exact ac (wpAny_richCompare_same_room (op:=.Eq) hx.typeIs hy.typeIs F.slot_tuple_eq
   (dr F.slot_tuple_eq hx.typeIs F.entry_tuple_eq (Za6 (A:=A.in1) hu hx hy ⟨_,rfl,(λe=>nomatch e),wpAny_truthy_bool h⟩) (F.args_tuple_eq_2 _ _)) (by omega))
theorem Ht(hk:IsTupleKey (Zr prog w) s.heap ks a)(h:Q aC s):bg (b4 prog w) A (eqIsQuiet (m+1) (.ref a)) Q E s:=by
 have hT:=hk.typeIs;obtain⟨o,items,n,ho,_,hd,hi⟩:=hk;unfold eqIsQuiet;refine ac (wpAny_specialOf hT F.slot_tuple_eq.lookup ?_);show bg _ _ (isInstance (.ref a) (.type "tuple") >>=_) _ _ s;refine ac (wpAny_isInstance hT isSubtype_tuple_tuple ?_);simp only[fq,bi,if_false];refine ac (wpAny_seqItems ho hd ?_);refine ac ?_;show bg _ _ (forIn items _ _) _ _ s;rw[<-Array.forIn_toList];refine wpAny_forIn_list _ (λrest r s'=>r.1=aB/\s'=s/\∀v∈rest,carriedByValue v=aC) _ ?_ ?_ _ _ ⟨rfl,rfl,hi.byValue⟩
 .rintro v rest r s' ⟨hr,rfl,hall⟩;rw[eqIsQuiet_byValue _ (hall v af)];refine ac (ag ?_);simp only[fq,bi,if_false];exact ag ⟨rfl,rfl,λu hu'=>hall u (ao _ hu')⟩
 .rintro⟨r1,r2⟩ s' ⟨hr,rfl,_⟩;simp only at hr;subst hr;exact ag h
theorem Lj(hk:Om prog w s.heap k a)(h:Q aC s):bg (b4 prog w) A (eqIsQuiet 8 (.ref a)) Q E s:=by
 cases k with
 |inl l=>exact Ht hk h
 |inr p=>have hT:=hk.typeIs;obtain⟨n,l⟩:=p;obtain⟨o,items,m,t,b,ho,_,hd,hi,hb⟩:=hk;unfold eqIsQuiet;refine ac (wpAny_specialOf hT F.slot_tuple_eq.lookup ?_);show bg _ _ (isInstance (.ref a) (.type "tuple") >>=_) _ _ s;refine ac (wpAny_isInstance hT isSubtype_tuple_tuple ?_);simp only[fq,bi,if_false];refine ac (wpAny_seqItems ho hd ?_);refine ac ?_;show bg _ _ (forIn items _ _) _ _ s;rw[<-Array.forIn_toList,hi];simp only[List.forIn_cons,List.forIn_nil];rw[eqIsQuiet_byValue _ (v:=Value.int n t) rfl];refine ac (ac (ag ?_));simp only[fq,bi,if_false];refine ag ?_;dsimp only;refine ac (ac (Ht hb ?_));simp only[fq,bi,if_false];exact ag (ag (ag h))
end
def Fj(prog:b6)(w:c7):HeapKind prog w Zl where
 is:=Om prog w
 hash:=Ye prog w
 draws:=T7
 room:=λA=>A.units+1<f6
 inj:=λhx hy=>hx.inj hy
 keeps:=λx ho hd hs=>x.keeps ho hd hs
 pyHash:=λhu hk h=>Zcx hu hk h
 eqBool:=λhu hx hy h=>Zow hu hx hy h
 quiet:=λhk h=>Lj hk h
inductive V where
 |non|bl (b:Bool)|int (i:Int)|str (x:Str)|byt (b:Array UInt8)|flt (b:UInt64)|ref (a:aj)|ty (n:String)
 deriving DecidableEq
def Zy:V->ah->Prop
 | .non,u=>u=ck
 | .bl b,u=>u=Value.bool b
 | .int i,u=>∃t,u=Value.int i t
 | .str x,u=>∃t,u=Value.str x t
 | .byt b,u=>∃t,u=Value.bytes b t
 | .flt b,u=>∃t,u=Value.float b t
 | .ref a,u=>u=b8 a
 | .ty n,u=>u=Value.type n
abbrev Z2:List V->List ah->Prop:=Paired Zy
theorem Z2.length(r:Z2 xs us):xs.length=us.length:=ig r
theorem Z2.get:∀{xs:List V} {us:List ah} {i:Nat} {x:V},Z2 xs us->xs[i]? =aA x->∃u,us[i]? =aA u/\Zy x u
 |_,_,_,_,.nil,e=>by simp at e
 |_,_,0,_,.cons r _,e=>by simp at e;subst e;exact⟨_,rfl,r⟩
 |_,_,i+1,x,.cons _ t,e=>by obtain⟨u,h1,h2⟩:=Z2.get (i:=i) (x:=x) t (by simpa using e);exact⟨u,by simpa using h1,h2⟩
theorem Z2.set(r:Zy x u):∀{xs:List V} {us:List ah} i,Z2 xs us->Z2 (xs.set i x) (us.set i u)
 |_,_,_,.nil=>.nil
 |_,_,0,.cons _ t=>.cons r t
 |_,_,i+1,.cons q t=>.cons q (Z2.set r i t)
theorem Z2.append:∀{xs ys:List V} {us ws:List ah},Z2 xs us->Z2 ys ws->Z2 (xs++ys) (us++ws)
 |_,_,_,_,.nil,s=>s
 |_,_,_,_,.cons r t,s=>.cons r (Z2.append t s)
theorem Z2.take:∀{xs:List V} {us:List ah} n,Z2 xs us->Z2 (xs.take n) (us.take n)
 |_,_,0,_=>.nil
 |_,_,_+1,.nil=>.nil
 |_,_,n+1,.cons r t=>.cons r (Z2.take n t)
theorem Z2.drop:∀{xs:List V} {us:List ah} n,Z2 xs us->Z2 (xs.drop n) (us.drop n)
 |_,_,0,r=>r
 |_,_,_+1,.nil=>.nil
 |_,_,n+1,.cons _ t=>Z2.drop n t
def Ti:Option V->Option ah->Prop
 |some v,aA u=>Zy v u
 |none,aB=>True
 |_,_=>False
def KV{κ:Type}:List (κ×V)->List (κ×ah)->Prop:=Paired λ(p:κ×V) (q:κ×ah)=>p.1=q.1/\Zy p.2 q.2
def kV:Key->V
 | .inl i=>.int i
 | .inr x=>.str x
inductive HO where
 |lst (xs:List V)
 |tup (xs:List V)
 |dK (kvs:List (Key×V)) (ep:Nat)|dT (kvs:List (List Key×V)) (ep:Nat) (bs:List aj)|dN (kvs:List (Zl×V)) (ep:Nat) (bs:List aj)
 |set (S:Int->Bool) (n:Nat)
 |ins (C dx:aj) (fs:List (Str×V))
 |own (x:aj)
 |xd (fs:List (Str×V))
 |met (f x:aj)
 |rng (lo hi:Int)
 |frz (o:Obj) (u:HO)
 |tbl (ps:Array ah)
 |tab (q:Str)
 |ext (φ:d6->Prop)
noncomputable abbrev Hp:=aj->Option HO
def Z9(H:Hp)(a:aj)(o:HO):Hp:=λb=>if b=a then aA o else H b
theorem Z3:Z9 H a o a=aA o:=by unfold Z9;rw[if_pos rfl]
theorem Zw(h:b≠a):Z9 H a o b=H b:=by unfold Z9;rw[if_neg h]
theorem Zg9:Z9 (Z9 H a o) a u=Z9 H a u:=by funext b;unfold Z9;split<;> rfl
theorem T9{H:Hp}(h:H a=aA o)(h':H b=aA u)(d:o≠u):a≠b:=by intro e;subst e;rw[h]at h';exact d (cz.inj h')
theorem Y6{H:Hp}(h:H a=aA o)(h':H b=aB):a≠b:=by intro e;subst e;rw[h]at h';cases h'
def Q4(H:Hp):Zl->aj->Prop
 | .inl l,b=>H b=aA (.tup ((Gj l).map kV))
 | .inr (n,l),b=>∃c,H b=aA (.tup [.int n,.ref c])/\H c=aA (.tup ((Gj l).map kV))
theorem Q4.mono(h:Q4 H k b)(ht:∀b xs,H b=aA (.tup xs)->H' b=aA (.tup xs)):Q4 H' k b:=by
 cases k with
 |inl l=>exact ht _ _ h
 |inr p=>obtain⟨c,h1,h2⟩:=h;exact⟨c,ht _ _ h1,ht _ _ h2⟩
section
variable(P:b6)(w:c7)
def Yj(H:Hp)(h:d6)(a:aj):HO->Prop
 | .lst xs=>xs.length<=sizeLine/\∃(its:List ah) (n:Nat),Z2 xs its/\h.get? a=aA {cls:=.type "list",data:=.seq its.toArray n}
 | .tup xs=>xs.length<=sizeLine/\∃its:List ah,Z2 xs its/\IsTup h a its.toArray
 | .dK kvs ep=>kvs.length<=sizeLine/\(a==sysModules)=aD/\∃vs,KV kvs vs/\h.DictAt (Zr P w) a vs ep
 | .dT kvs ep bs=>kvs.length<=sizeLine/\(a==sysModules)=aD/\∃xs:List (List Key×aj×ah),
   Paired (λ(p:List Key×V) (q:List Key×aj×ah)=>p.1=q.1/\H q.2.1=aA (.tup (p.1.map kV))/\Zy p.2 q.2.2) kvs xs/\
   ∃o es,h.get? a=aA o/\o.ExactDict/\o.data= .dict es ep/\es.toList=xs.map (entryOfKey (tupleKind (Zr P w)))/\(xs.map (·.1)).Nodup/\(xs.map λx=>x.2.1)=bs
 | .dN kvs ep bs=>kvs.length<=sizeLine/\(a==sysModules)=aD/\∃xs:List (Zl×aj×ah),
   Paired (λ(p:Zl×V) (q:Zl×aj×ah)=>p.1=q.1/\Q4 H p.1 q.2.1/\Zy p.2 q.2.2) kvs xs/\
   ∃o es,h.get? a=aA o/\o.ExactDict/\o.data= .dict es ep/\es.toList=xs.map (entryOfKey (Fj P w))/\(xs.map (·.1)).Nodup/\(xs.map λx=>x.2.1)=bs
 | .set S n=>h.SetOf (intKind P w) a S n
 | .ins C dx fs=>H dx=aA (.own a)/\fs.length<=1000/\dx≠a/\h.get? a=aA (PySem.W.instObj C dx)/\
   ∃mA,h.Ns1 dx mA/\(∀f,Ti (fs.lookup f) (mA f))/\PySem.Within mA (fs.map (·.1))
 | .own _=>∃o,h.get? a=aA o
 | .xd fs=>∃mA,h.Ns1 a mA/\∀f,Ti (fs.lookup f) (mA f)
 | .rng lo hi=>∃t u v,h.get? a=aA {cls:=.type "range",data:=.fields #[.int lo t,.int hi u,.int 1 v]}
 | .frz o u=>h.get? a=aA o/\Yj H h a u
 | .tbl ps=>h.get? a=aA {cls:=.none,data:=.fields ps}
 | .met f x=>h.get? a=aA (PySem.W.methodObj (.ref f) (.ref x))
 | .tab q=>∃ps:Array ah,h.get? a=aA {cls:=.none,data:=.fields ps}/\TriplesOk ps.toList/\∀pos cv,codeAmong pos ps.toList=aA cv->∃c o vs t,cv= .ref c/\H c=aA (.frz o (.own a))/\o.data= .fields vs/\vs[1]? =aA (.str q t)
 | .ext φ=>φ h/\(∃o,h.get? a=aA o)/\∀h1 h2:d6,φ h1->(∀o,h1.get? a=aA o->h2.get? a=aA o)->φ h2
def Go(H:Hp)(h:d6):Prop:=∀a o,H a=aA o->Yj P w H h a o
end
section
variable{P:b6}{w:c7}{H H':Hp}{h h':d6}{a:aj}{o:HO}
theorem Yj.lt(x:Yj P w H h a o):a<h.objs.size:=by
 cases o with
 |lst xs=>obtain⟨_,_,_,_,e⟩:=x;exact bo e
 |tup xs=>obtain⟨_,_,_,p⟩:=x;exact p.lt
 |dK kvs ep=>obtain⟨_,_,_,_,o,_,e,_⟩:=x;exact bo e
 |dT kvs ep bs=>obtain⟨_,_,_,_,o,_,e,_⟩:=x;exact bo e
 |dN kvs ep bs=>obtain⟨_,_,_,_,o,_,e,_⟩:=x;exact bo e
 |set S n=>obtain⟨o,_,_,_,e,_⟩:=x;exact bo e
 |ins C dx fs=>obtain⟨_,_,_,e,_⟩:=x;exact bo e
 |own y=>obtain⟨_,e⟩:=x;exact bo e
 |xd fs=>obtain⟨_,⟨_,_,_,e,_⟩,_⟩:=x;exact bo e
 |rng lo hi=>obtain⟨_,_,_,e⟩:=x;exact bo e
 |frz ob u=>obtain⟨e,_⟩:=x;exact bo e
 |tbl ps=>exact bo (show h.get? a=aA _ from x)
 |met f y=>exact bo (show h.get? a=aA _ from x)
 |tab q=>obtain⟨_,e,_⟩:=x;exact bo e
 |ext φ=>obtain⟨_,⟨_,e⟩,_⟩:=x;exact bo e
theorem Paired.mapP{l₁:List α}{l₂:List β}(h:Paired F l₁ l₂)(f:∀a b,F a b->G a b):Paired G l₁ l₂:=by
 induction h with
 |nil=>exact .nil
 |cons r _ ih=>exact .cons (f _ _ r) ih
theorem Yj.stay(x:Yj P w H h a o)(k:∀b u,(b=a\/H b=aA (.own a))->h.get? b=aA u->h'.get? b=aA u)(ho:∀b,H b=aA (.own a)->H' b=aA (.own a))(ht:∀b xs,H b=aA (.tup xs)->H' b=aA (.tup xs))(hz:∀b o,H b=aA (.frz o (.own a))->H' b=aA (.frz o (.own a)):=by first|exact λ_ _ q=>q| (intro b o q;rw[Zw (Y6 q (by assumption))];exact q)):Yj P w H' h' a o:=by
 induction o with
 |lst xs=>obtain⟨z,its,n,r,e⟩:=x;exact⟨z,its,n,r,k _ _ (.inl rfl) e⟩
 |tup xs=>obtain⟨z,its,r,ob,e,c⟩:=x;exact⟨z,its,r,ob,k _ _ (.inl rfl) e,c⟩
 |dK kvs ep=>obtain⟨z,y,vs,r,ob,es,e,c⟩:=x;exact⟨z,y,vs,r,ob,es,k _ _ (.inl rfl) e,c⟩
 |dT kvs ep bs=>obtain⟨z,y,xs,r,ob,es,e,c⟩:=x;exact⟨z,y,xs,Paired.mapP r λp q z=>⟨z.1,ht _ _ z.2.1,z.2.2⟩,ob,es,k _ _ (.inl rfl) e,c⟩
 |dN kvs ep bs=>obtain⟨z,y,xs,r,ob,es,e,c⟩:=x;exact⟨z,y,xs,Paired.mapP r λp q z=>⟨z.1,z.2.1.mono ht,z.2.2⟩,ob,es,k _ _ (.inl rfl) e,c⟩
 |set S n=>obtain⟨ob,es,ep,t,e,c⟩:=x;exact⟨ob,es,ep,t,k _ _ (.inl rfl) e,c⟩
 |ins C dx fs=>obtain⟨d,z,ne,e,mA,⟨od,es,ep,e2,c⟩,r⟩:=x;exact⟨ho _ d,z,ne,k _ _ (.inl rfl) e,mA,⟨od,es,ep,k _ _ (.inr d) e2,c⟩,r⟩
 |own y=>obtain⟨ob,e⟩:=x;exact⟨ob,k _ _ (.inl rfl) e⟩
 |xd fs=>obtain⟨mA,⟨od,es,ep,e,c⟩,r⟩:=x;exact⟨mA,⟨od,es,ep,k _ _ (.inl rfl) e,c⟩,r⟩
 |rng lo hi=>obtain⟨t,u,v,e⟩:=x;exact⟨t,u,v,k _ _ (.inl rfl) e⟩
 |frz ob u ih=>obtain⟨e,q⟩:=x;exact⟨k _ _ (.inl rfl) e,ih q⟩
 |tbl ps=>have e:h.get? a=aA {cls:=.none,data:=.fields ps}:=x;show h'.get? a=aA {cls:=.none,data:=.fields ps};exact k a _ (.inl rfl) e
 |met f y=>have e:h.get? a=aA (PySem.W.methodObj (.ref f) (.ref y)):=x;show h'.get? a=aA (PySem.W.methodObj (.ref f) (.ref y));exact k a _ (.inl rfl) e
 |tab q=>obtain⟨ps,e,t,c⟩:=x;refine⟨ps,k _ _ (.inl rfl) e,t,λpos cv z=>?_⟩;obtain⟨c1,o1,vs,tt,e1,e2,r⟩:=c pos cv z;exact⟨c1,o1,vs,tt,e1,hz _ _ e2,r⟩
 |ext φ=>obtain⟨p,⟨o,e⟩,st⟩:=x;exact⟨st _ _ p λo q=>k _ _ (.inl rfl) q,⟨o,k _ _ (.inl rfl) e⟩,st⟩
theorem Go.lt(x:Go P w H h)(e:H a=aA o):a<h.objs.size:=(x a o e).lt
theorem Go.fresh(x:Go P w H h)(e:h.objs.size<=a):H a=aB:=by
 cases q:H a with
 |none=>rfl
 |some u=>exact absurd (c8 (x.lt q) e) (ii _)
theorem Go.kept(x:Go P w H h)(k:∀b u,h.get? b=aA u->h'.get? b=aA u):Go P w H h':=λa o e=>
 (x a o e).stay (λb u _ q=>k b u q) (λ_ q=>q) λ_ _ q=>q
theorem Go.laid(x:Go P w H h)(k:∀b u,h.get? b=aA u->h'.get? b=aA u)(hp:h.objs.size<=a)(new:Yj P w (Z9 H a o) h' a o):Go P w (Z9 H a o) h':=λb u e=>by
 have hn:=x.fresh hp;by_cases hb:b=a
 .subst hb;rw[Z3]at e;cases e;exact new
 .rw[Zw hb]at e;exact(x b u e).stay (λc v _ q=>k c v q) (λc q=>by rw[Zw (Y6 q hn)];exact q) λc xs q=>by rw[Zw (Y6 q hn)];exact q
end
def Rd(H:Hp)(a:aj)(u:HO):Prop:=H a=aA u\/∃o,H a=aA (.frz o u)
theorem Rd.ok(r:Rd H a u)(x:Go P w H h):Yj P w H h a u:=by
 rcases r with r|⟨o,r⟩
 .exact x a u r
 .obtain⟨_,q⟩:=x a _ r;exact q
def HK(H:Hp)(a:aj)(kvs:List (Key×V)):Prop:=∃ep,H a=aA (.dK kvs ep)
def HTt(H:Hp)(a:aj)(kvs:List (List Key×V)):Prop:=∃ep bs,H a=aA (.dT kvs ep bs)
def RdK(H:Hp)(a:aj)(kvs:List (Key×V)):Prop:=∃ep,Rd H a (.dK kvs ep)
def RdT(H:Hp)(a:aj)(kvs:List (List Key×V)):Prop:=∃ep bs,Rd H a (.dT kvs ep bs)
theorem HK.rd(h:HK H a kvs):RdK H a kvs:=let⟨ep,h⟩:=h;⟨ep,.inl h⟩
def Pn(kvs:List (List Key×V))(bs:List aj)(k:List Key)(b:aj):List Addr:=if(kvs.any λkv=>decide (kv.1=k))=aC then bs else bs++[b]
theorem HTt.rd(h:HTt H a kvs):RdT H a kvs:=let⟨ep,bs,h⟩:=h;⟨ep,bs,.inl h⟩
def Mut:Option HO->Prop
 |some (.lst _)=>True
 |some (.dK _ _)=>True
 |some (.dT _ _ _)=>True
 |some (.dN _ _ _)=>True
 |some (.set _ _)=>True
 |some (.ins _ _ _)=>True
 |some (.ext _)=>True
 |_=>False
theorem Go.write(ok:Go P w H h)(mu:Mut (H x))(he:e=x\/H e=aA (.own x))(k:∀b u,b≠e->h.get? b=aA u->h'.get? b=aA u)(heo:∃u,h'.get? e=aA u)(new:Yj P w (Z9 H x o') h' x o'):Go P w (Z9 H x o') h':=λb u q=>by
 have nown:∀c y,H c=aA (.own y)->c≠x:=λc y r z=>by subst z;rw[r]at mu;exact mu
 have ntup:∀c xs,H c=aA (.tup xs)->c≠x:=λc xs r z=>by subst z;rw[r]at mu;exact mu
 by_cases hb:b=x
 .subst hb;rw[Z3]at q;cases q;exact new
 .rw[Zw hb]at q;by_cases hbe:b=e
  .have q':H b=aA (.own x):=by
    rcases he with z|z
    .exact absurd (hbe.trans z) hb
    .rw[hbe];exact z
   rw[q]at q';cases q';obtain⟨v,hv⟩:=heo;exact⟨v,by rw[hbe];exact hv⟩
  .refine(ok b u q).stay (λc v hc r=>k c v ?_ r) (λc r=>by rw[Zw (nown c b r)];exact r) (λc xs r=>by rw[Zw (ntup c xs r)];exact r) λc o r=>by rw[Zw (λz=>by subst z;rw[r]at mu;exact mu)];exact r
   rcases hc with rfl|hc
   .exact hbe
   .rintro rfl;rcases he with z|z
    .exact nown c b hc z
    .rw[hc]at z;cases z;exact hb rfl
structure Un(fs ex:List aj)(H H':Hp)(h h':d6):Prop where
 keep:∀b o,h.get? b=aA o->H b=aB->b∉fs->b∉ex->h'.get? b=aA o
 slot:∀b o,h.get? b=aA o->H b=aB->b∈fs->b∉ex->∃sl,h'.get? b=aA {o with slots:=sl}
 free:∀b o,h.get? b=aA o->H b=aB->b∉ex->H' b=aB
 there:∀b o,h.get? b=aA o->b∉ex->∃o',h'.get? b=aA o'
 tups:∀b xs,H b=aA (.tup xs)->H' b=aA (.tup xs)
 frzs:∀b o u,H b=aA (.frz o u)->H' b=aA (.frz o u)
 tbls:∀b ps,H b=aA (.tbl ps)->∃more,H' b=aA (.tbl (ps++more))
section
variable{fs fs' ex ex':List aj}{H H1 H2:Hp}{h h1 h2 h':d6}{a x e:aj}{o:HO}
theorem Un.any(u:Un fs ex H H1 h h1)(q:h.get? b=aA ob)(n:H b=aB)(hx:b∉ex):∃sl,h1.get? b=aA {ob with slots:=sl}:=by
 by_cases hb:b∈fs
 .exact u.slot b ob q n hb hx
 .exact⟨ob.slots,u.keep b ob q n hb hx⟩
theorem Un.kept(k:∀b u,h.get? b=aA u->h'.get? b=aA u):Un fs ex H H h h':=
 ⟨λb ob q _ _ _=>k b ob q,λb ob q _ _ _=>⟨ob.slots,k b ob q⟩,λ_ _ _ n _=>n,λb ob q _=>⟨ob,k b ob q⟩,λ_ _ q=>q,λ_ _ _ q=>q,λ_ ps q=>⟨#[],by rw[q];simp⟩⟩
theorem Un.refl:Un fs ex H H h h:=Un.kept λ_ _ q=>q
theorem Un.laid(k:∀b u,h.get? b=aA u->h'.get? b=aA u)(hp:h.objs.size<=a)(hn:H a=aB):Un fs ex H (Z9 H a o) h h' where
 keep:=λb u q _ _ _=>k b u q
 slot:=λb u q _ _ _=>⟨u.slots,k b u q⟩
 free:=λb u q n _=>by rw[Zw (cf (c8 (bo q) hp))];exact n
 there:=λb u q _=>⟨u,k b u q⟩
 tups:=λb xs q=>by rw[Zw (Y6 q hn)];exact q
 frzs:=λb u xs q=>by rw[Zw (Y6 q hn)];exact q
 tbls:=λb ps q=>⟨#[],by rw[Zw (Y6 q hn),q];simp⟩
theorem Un.write(mu:Mut (H x))(he:e=x\/H e=aA (.own x))(k:∀b u,b≠e->h.get? b=aA u->h'.get? b=aA u)(heo:∃u,h'.get? e=aA u):Un fs ex H (Z9 H x o) h h':=by
 have hx:∀b,H b=aB->b≠x:=λb n z=>by subst z;rw[n]at mu;exact mu
 have hb:∀b,H b=aB->b≠e:=λb n z=>by
  subst z;rcases he with r|r
  .exact hx b n r
  .rw[n]at r;cases r
 have hm:∀b u,H b=aA u->¬Mut (aA u)->b≠x:=λb u q nm z=>by subst z;rw[q]at mu;exact nm mu
 refine⟨λb u q n _ _=>k b u (hb b n) q,λb u q n _ _=>⟨u.slots,k b u (hb b n) q⟩,λb u q n _=>by rw[Zw (hx b n)];exact n,λb u q _=>?_,
  λb xs q=>by rw[Zw (hm b _ q λz=>z)];exact q,λb u xs q=>by rw[Zw (hm b _ q λz=>z)];exact q,λb ps q=>⟨#[],by rw[Zw (hm b _ q λz=>z),q];simp⟩⟩
 by_cases hbe:b=e
 .subst hbe;exact heo
 .exact⟨u,k b u hbe q⟩
end
def trk(h:d6)(H:Hp):List Addr:=(cq h.objs.size).filter λa=>(H a).isSome
def Ll(h:d6)(H:Hp):Heap:=PySem.W.hideAll h (trk h H)
theorem Za7(h H):(Ll h H).objs.size=h.objs.size:=PySem.W.hideAll_size _ _
theorem Zcy(e:h.get? b=aA o)(n:H b=aB):(Ll h H).get? b=aA o:=
 PySem.W.hideAll_get _ e λhm=>by have q:(H b).isSome=aC:=(List.mem_filter.mp hm).2;rw[n]at q;simp at q
theorem Zha(e:(Ll h H).get? b=aA o):h.get? b=aA o/\H b=aB:=by
 have e':h.get? b=aA o:=PySem.W.of_hideAll (trk h H) e;refine⟨e',?_⟩;cases q:H b with
 |none=>rfl
 |some x=>have hm:b∈trk h H:=List.mem_filter.mpr ⟨cu.mpr (bo e'),by simp[q]⟩;have z:(Ll h H).get? b=aB:=PySem.W.hideAll_none (trk h H) hm;rw[z]at e;cases e
noncomputable def Zhb(g h:d6)(L:aj):List (aj×Obj):=(cq h.objs.size).filterMap λa=>if a=L\/(g.get? a).isSome=aC then aB else(h.get? a).map λo=>(a,o)
def rest(g h:d6)(L d:aj):List (aj×Obj):=(Zhb g h L).filter λp=>decide (p.1≠d)
structure Mod(K:ad)(mg:Str->Option ah)(base:d6):Prop where
 kin:K.In base
 glob:base.Ns b7 mg
 blt:∃mb,base.Ns builtinsNs mb/\∀x:Str,x≠"__name__"->mb x=bootBuiltins x
 nolimit:base.NoLimit
set_option genInjectivity false in
structure Cx where
 prog:b6
 w:c7
 K:ad
 mg:Str->Option ah
 base:d6
 A:dh
 N:List Str
 s₀:am
 H₀:Hp
 env:Env
 outer:List Env
 stack:List Env
 ex:List aj
 fn:Str->Bool
 calm:Bool
 pn:List (aj×Obj)
 xe:ah->am->Prop
noncomputable def frs(l:List Env):List Addr:=l.filterMap (·.frame)
abbrev Cx.fs(X:Cx):List Addr:=frs X.outer
def Vs(sc:Scope)(x:Str):Prop:=sc.names.lookup x=aA .local\/sc.names.lookup x=aA .cell\/sc.names.lookup x=aA .free
def Loc(sc:Scope)(x:Str):Prop:=sc.names.lookup x=aA .local\/sc.names.lookup x=aA .cell
def Zoy(env:Env)(h:d6)(m:Str->Option ah)(x:Str)(u:ah):Prop:=
 (env.kindOf x=aA .local/\m x=aA u)\/((env.kindOf x=aA .cell\/env.kindOf x=aA .free)/\∃c,env.cells.lookup x=aA c/\h.IsCell c (aA u))
set_option genInjectivity false in
structure Cx.Ok(X:Cx):Prop where
 mod:Mod X.K X.mg X.base
 kind:X.env.scope.kind= .function
 glob:X.env.globals=b7
 blt:X.env.builtins=builtinsNs
 above:X.s₀.heap.objs.size<=X.env.locals
 inj:∀x y c,X.env.cells.lookup x=aA c->X.env.cells.lookup y=aA c->x=y
 has:∀x,(X.env.kindOf x=aA .cell\/X.env.kindOf x=aA .free)->∃c,X.env.cells.lookup x=aA c
 cab:∀x c,X.fn x=aC->X.env.cells.lookup x=aA c->X.s₀.heap.objs.size<=c
 hd:X.calm=aC->X.A.handled=aB
 frames:X.A.frames=aA X.stack
 stk:X.stack=X.outer\/(X.stack=X.env::X.outer/\X.env.frame=aA X.env.locals)
 exf:∀b∈X.ex,b≠X.env.locals/\∀x c,X.env.cells.lookup x=aA c->c≠b
 bs:∀b o,X.base.get? b=aA o->X.s₀.heap.get? b=aA o/\X.H₀ b=aB
 bsz:X.base.objs.size<=X.s₀.heap.objs.size
 noex:∀b o,X.base.get? b=aA o->b∉X.ex
 exfs:∀b∈X.ex,b∉X.fs
 funs:X.s₀.heap.FunFrames X.base X.outer
 frf:∀b∈X.fs,X.H₀ b=aB
structure Inv(X:Cx)(pins:List (aj×Obj))(σ:List (Option V))(H:Hp)(s:am):Prop where
 ok:X.Ok
 os:s.os=X.s₀.os
 bare:AllBare s.gens
 base:Un X.fs X.ex X.H₀ H X.s₀.heap s.heap
 loc:∃m,s.heap.Ns X.env.locals m/\∀(i:Nat) (x:Str) (v:V),X.N[i]? =aA x->σ[i]? =aA (aA v)->Vs X.env.scope x->∃u,Zy v u/\Zoy X.env s.heap m x u
 cell:∀x c,X.env.cells.lookup x=aA c->∃v,s.heap.IsCell c v
 free:H X.env.locals=aB
 freeC:∀x c,X.env.cells.lookup x=aA c->H c=aB
 pin:∀p∈X.pn++pins,s.heap.get? p.1=aA p.2/\H p.1=aB/\p.1≠X.env.locals/\p.1∉X.fs/\∀v,p.2.data≠.cell v
 hok:Go X.prog X.w H s.heap
 len:σ.length=X.N.length
section
variable{X:Cx}{pins:List (aj×Obj)}{σ:List (Option V)}{H H':Hp}{s:am}{h':d6}
theorem Cx.Ok.nofr(ok:X.Ok)(e:X.base.get? b=aA o):b∉X.fs:=λhb=>by have:=(ok.funs.mem hb).1;rw[e]at this;cases this
theorem Inv.bs(I:Inv X pins σ H s):∀b o,X.base.get? b=aA o->s.heap.get? b=aA o/\H b=aB:=λb o e=>
 ⟨I.base.keep b o (I.ok.bs b o e).1 (I.ok.bs b o e).2 (I.ok.nofr e) (I.ok.noex b o e),I.base.free b o (I.ok.bs b o e).1 (I.ok.bs b o e).2 (I.ok.noex b o e)⟩
theorem Inv.bk(I:Inv X pins σ H s):∀b o,X.base.get? b=aA o->s.heap.get? b=aA o:=λb o e=>(I.bs b o e).1
theorem Inv.mod(I:Inv X pins σ H s):Mod X.K X.mg X.base:=I.ok.mod
theorem Inv.kIn(I:Inv X pins σ H s):X.K.In s.heap:=I.ok.mod.kin.keeps I.bk
theorem Inv.lt(I:Inv X pins σ H s):X.env.locals<s.heap.objs.size:=let⟨_,hn,_⟩:=I.loc;hn.lt
theorem Inv.sz(I:Inv X pins σ H s):X.s₀.heap.objs.size<=s.heap.objs.size:=dk I.ok.above (Nat.le_of_lt I.lt)
theorem Inv.nofs(I:Inv X pins σ H s){a:aj}(h:s.heap.objs.size<=a):a∉X.fs:=λhb=>by obtain⟨_,o,ho,_⟩:=I.ok.funs.mem hb;exact absurd (c8 (bo ho) (dk I.sz h)) (ii _)
theorem Inv.cne(I:Inv X pins σ H s):∀x c,X.env.cells.lookup x=aA c->c≠X.env.locals:=λx c e z=>by obtain⟨v,o,ho,hd⟩:=I.cell x c e;obtain⟨m,⟨o',es,ep,ho',hd',_⟩,_⟩:=I.loc;rw[z,ho']at ho;cases ho;rw[hd']at hd;cases hd
theorem Inv.funs(I:Inv X pins σ H s):s.heap.FunFrames X.base X.outer:=by
 have all:∀(l:List Env),(∀b∈frs l,b∈X.fs)->X.s₀.heap.FunFrames X.base l->s.heap.FunFrames X.base l:=by
  intro l;induction l with
  |nil=>intro _ _;trivial
  |cons env r ih=>intro hs hl;obtain⟨hk,⟨L,o,hf,hn,ho,hd⟩,hr⟩:=hl;have hL:L∈X.fs:=hs L (by unfold frs;rw[List.filterMap_cons,hf];exact af);obtain⟨sl,e⟩:=I.base.slot L o ho (I.ok.frf L hL) hL λz=>I.ok.exfs L z hL;exact⟨hk,⟨L,_,hf,hn,e,hd⟩,ih (λb hb=>hs b (by unfold frs;rw[List.filterMap_cons,hf];exact ao _ hb)) hr⟩
 exact all X.outer (λ_ hb=>hb) I.ok.funs
theorem Inv.stack(I:Inv X pins σ H s):s.heap.FunFrames X.base X.stack:=by
 rcases I.ok.stk with e|⟨e,hf⟩
 .rw[e];exact I.funs
 .rw[e];obtain⟨m,hn,_⟩:=I.loc;refine .cons (by rw[I.ok.kind];decide) hf hn ?_ I.funs;exact Heap.get?_none_of_le (dk I.ok.bsz I.ok.above)
theorem Inv.stkSub(I:Inv X pins σ H s):∀b∈frs X.stack,b∈X.env.locals::X.fs:=λb hb=>by
 rcases I.ok.stk with e|⟨e,hf⟩
 .rw[e]at hb;exact ao _ hb
 .rw[e]at hb;unfold frs at hb;rw[List.filterMap_cons,hf]at hb;exact hb
theorem Inv.stkFree(I:Inv X pins σ H s):∀b∈frs X.stack,H b=aB:=λb hb=>by
 rcases bx.mp (I.stkSub b hb)with e|hb
 .rw[e];exact I.free
 .obtain⟨_,o,ho,_⟩:=I.ok.funs.mem hb;exact I.base.free b o ho (I.ok.frf b hb) λz=>I.ok.exfs b z hb
theorem Inv.step{d'}{ch:List aj}(I:Inv X pins σ H s)(hch:∀b∈ch,(b∈X.ex\/X.s₀.heap.objs.size<=b)/\b≠X.env.locals/\(∀x c,X.env.cells.lookup x=aA c->c≠b)/\∀p∈X.pn++pins,p.1≠b)(keep:∀b o,b≠X.env.locals->b∉X.fs->b∉ch->s.heap.get? b=aA o->H b=aB->h'.get? b=aA o)(slot:∀b o,b≠X.env.locals->b∈X.fs->b∉ch->s.heap.get? b=aA o->H b=aB->∃sl,h'.get? b=aA {o with slots:=sl})(free:∀b o,b∉ch->s.heap.get? b=aA o->H b=aB->H' b=aB)(there:∀b o,b∉ch->s.heap.get? b=aA o->∃o',h'.get? b=aA o')(tups:∀b xs,H b=aA (.tup xs)->H' b=aA (.tup xs))(frzs:∀b o u,H b=aA (.frz o u)->H' b=aA (.frz o u))(tbls:∀b ps,H b=aA (.tbl ps)->∃more,H' b=aA (.tbl (ps++more)))(ns:∀m,s.heap.Ns X.env.locals m->h'.Ns X.env.locals m)(hok:Go X.prog X.w H' h')(hg:AllBare g'):
  Inv X pins σ H' {s with heap:=h',gens:=g',drawn:=d',toks:=t'}:=by
 have neL:∀b o,X.s₀.heap.get? b=aA o->b≠X.env.locals:=λb o e=>cf (c8 (bo e) I.ok.above);have neC:∀b o,X.s₀.heap.get? b=aA o->b∉X.ex->b∉ch:=λb o e hx hb=>by
  rcases(hch b hb).1 with z|z
  .exact hx z
  .exact absurd (c8 (bo e) z) (ii _)
 have cellK:∀x c,X.env.cells.lookup x=aA c->∀v,s.heap.IsCell c v->h'.IsCell c v:=λx c e v ⟨o,ho,hd⟩=>by
  have nch:c∉ch:=λz=>(hch c z).2.2.1 x c e rfl;by_cases hc:c∈X.fs
  .obtain⟨sl,q⟩:=slot c o (I.cne x c e) hc nch ho (I.freeC x c e);exact⟨_,q,hd⟩
  .exact⟨o,keep c o (I.cne x c e) hc nch ho (I.freeC x c e),hd⟩
 refine⟨I.ok,I.os,hg,⟨λb o e n hb hx=>?_,λb o e n hb hx=>?_,λb o e n hx=>?_,λb o e hx=>?_,λb xs e=>tups b xs (I.base.tups b xs e),λb o xs e=>frzs b o xs (I.base.frzs b o xs e),λb ps e=>?_⟩,?_,λx c e=>?_,?_,λx c e=>?_,λp hp=>?_,hok,I.len⟩
 .exact keep b o (neL b o e) hb (neC b o e hx) (I.base.keep b o e n hb hx) (I.base.free b o e n hx)
 .obtain⟨sl,e1⟩:=I.base.slot b o e n hb hx;obtain⟨sl',e2⟩:=slot b _ (neL b o e) hb (neC b o e hx) e1 (I.base.free b o e n hx);exact⟨sl',e2⟩
 .obtain⟨o',e1⟩:=I.base.there b o e hx;exact free b o' (neC b o e hx) e1 (I.base.free b o e n hx)
 .obtain⟨o',e1⟩:=I.base.there b o e hx;exact there b o' (neC b o e hx) e1
 .obtain⟨m1,e1⟩:=I.base.tbls b ps e;obtain⟨m2,e2⟩:=tbls b _ e1;exact⟨m1++m2,by rw[e2,Array.append_assoc]⟩
 .obtain⟨m,hn,hl⟩:=I.loc;refine⟨m,ns m hn,λi x v e1 e2 e3=>?_⟩;obtain⟨u,r,l⟩:=hl i x v e1 e2 e3;refine⟨u,r,?_⟩;rcases l with l|⟨k,c,e,z⟩
  .exact .inl l
  .exact .inr ⟨k,c,e,cellK x c e _ z⟩
 .obtain⟨v,z⟩:=I.cell x c e;exact⟨v,cellK x c e v z⟩
 .obtain⟨m,⟨o,_,_,ho,_⟩,_⟩:=I.loc;exact free _ o (λz=>(hch _ z).2.1 rfl) ho I.free
 .obtain⟨v,o,ho,hd⟩:=I.cell x c e;exact free c o (λz=>(hch c z).2.2.1 x c e rfl) ho (I.freeC x c e)
 .obtain⟨e,n,ne,nf,d⟩:=I.pin p hp;have nch:p.1∉ch:=λz=>(hch p.1 z).2.2.2 p hp rfl;exact⟨keep p.1 p.2 ne nf nch e n,free p.1 p.2 nch e n,ne,nf,d⟩
theorem Inv.un(I:Inv X pins σ H s)(u:Un X.fs [] H H' s.heap h')(hok:Go X.prog X.w H' h'):Inv X pins σ H' {s with heap:=h',toks:=t'}:=by
 obtain⟨m,⟨o,es,ep,ho,r⟩,_⟩:=id I.loc;obtain⟨sl,hL⟩:=u.any ho I.free (by simp);exact I.step (g':=s.gens) (d':=s.drawn) (ch:=[]) (λ_ z=>nomatch z) (λb o _ hb _ e n=>u.keep b o e n hb (by simp)) (λb o _ hb _ e n=>u.slot b o e n hb (by simp)) (λb o _ e n=>u.free b o e n (by simp)) (λb o _ e=>u.there b o e (by simp)) u.tups u.frzs u.tbls (λm' hm=>by
  obtain⟨o',es',ep',ho',r'⟩:=hm;rw[ho]at ho';cases ho';exact⟨_,es',ep',hL,r'⟩) hok I.bare
theorem Inv.call(I:Inv X pins σ H s)(u:Un (frs X.stack) ch H H' s.heap h')(hok:Go X.prog X.w H' h')(hg:AllBare g')(hch:∀b∈ch,(b∈X.ex\/X.s₀.heap.objs.size<=b)/\b≠X.env.locals/\(∀x c,X.env.cells.lookup x=aA c->c≠b)/\∀p∈X.pn++pins,p.1≠b):
  Inv X pins σ H' {s with heap:=h',gens:=g',drawn:=d',toks:=t'}:=by
 obtain⟨m,⟨o,es,ep,ho,r⟩,_⟩:=id I.loc;obtain⟨sl,hL⟩:=u.any ho I.free λz=>(hch _ z).2.1 rfl;exact I.step (ch:=ch) hch (λb o hL hb hc e n=>u.keep b o e n (λz=>(bx.mp (I.stkSub b z)).elim hL hb) hc) (λb o _ _ hc e n=>u.any e n hc) (λb o hc e n=>u.free b o e n hc) (λb o hc e=>u.there b o e hc) u.tups u.frzs u.tbls (λm' hm=>by
  obtain⟨o',es',ep',ho',r'⟩:=hm;rw[ho]at ho';cases ho';exact⟨_,es',ep',hL,r'⟩) hok hg
theorem Inv.turned(I:Inv X pins σ H s)(k:∀b o,b≠it->s.heap.get? b=aA o->h'.get? b=aA o)(hn:H it=aB)(hL:it≠X.env.locals)(h1:it∈X.ex\/X.s₀.heap.objs.size<=it)(h2:∀x c,X.env.cells.lookup x=aA c->c≠it)(h3:∀p∈X.pn++pins,p.1≠it):Inv X pins σ H {s with heap:=h',toks:=t'}:=by
 have nit:∀b u,H b=aA u->b≠it:=λb u e z=>by rw[z,hn]at e;cases e
 refine I.step (g':=s.gens) (d':=s.drawn) (ch:=[it]) (λb hb=>?_) (λb o _ _ hc e _=>k b o (λz=>hc (by simp[z])) e) (λb o _ _ hc e _=>⟨o.slots,k b o (λz=>hc (by simp[z])) e⟩) (λ_ _ _ _ n=>n)
  (λb o hc e=>⟨o,k b o (λz=>hc (by simp[z])) e⟩) (λ_ _ e=>e) (λ_ _ _ e=>e) (λb ps e=>⟨#[],by rw[e];simp⟩) (λm hm=>?_) (λb u e=>?_) I.bare
 .have e:b=it:=by simpa using hb
  subst e;exact⟨h1,hL,h2,h3⟩
 .obtain⟨o,es,ep,ho,r⟩:=hm;exact⟨o,es,ep,k _ o (Ne.symm hL) ho,r⟩
 .refine(I.hok b u e).stay (λc v hc q=>k c v ?_ q) (λ_ q=>q) λ_ _ q=>q;rcases hc with z|z
  .rw[z];exact nit b u e
  .exact nit c _ z
theorem Inv.tok(I:Inv X pins σ H s)(t):Inv X pins σ H {s with toks:=t}:=I.un (h':=s.heap) (t':=t) Un.refl I.hok
theorem Inv.kept(I:Inv X pins σ H s)(k:∀b u,s.heap.get? b=aA u->h'.get? b=aA u):Inv X pins σ H {s with heap:=h',toks:=t'}:=I.un (Un.kept k) (I.hok.kept k)
theorem Inv.laid{a:aj}(I:Inv X pins σ H s)(k:∀b u,s.heap.get? b=aA u->h'.get? b=aA u)(hp:s.heap.objs.size<=a)(new:Yj X.prog X.w (Z9 H a o) h' a o):
  Inv X pins σ (Z9 H a o) {s with heap:=h',toks:=t'}:=I.un (Un.laid k hp (I.hok.fresh hp)) (I.hok.laid k hp new)
theorem Inv.write(I:Inv X pins σ H s)(mu:Mut (H x))(he:e=x\/H e=aA (.own x))(k:∀b u,b≠e->s.heap.get? b=aA u->h'.get? b=aA u)(heo:∃u,h'.get? e=aA u)(new:Yj X.prog X.w (Z9 H x o) h' x o):Inv X pins σ (Z9 H x o) {s with heap:=h',toks:=t'}:=I.un (Un.write mu he k heo) (I.hok.write mu he k heo new)
theorem Inv.pins_of(I:Inv X pins σ H s)(h:∀p∈pins',s.heap.get? p.1=aA p.2/\H p.1=aB/\p.1≠X.env.locals/\p.1∉X.fs/\∀v,p.2.data≠.cell v):Inv X pins' σ H s:=
 ⟨I.ok,I.os,I.bare,I.base,I.loc,I.cell,I.free,I.freeC,λp hp=>(bz.mp hp).elim (λz=>I.pin p (bj _ z)) (h p),I.hok,I.len⟩
theorem Po{N:List Str}(hN:N.Nodup){i:Nat}(a:N[i]? =aA x)(b:N[j]? =aA x):i=j:=by obtain⟨h1,e1⟩:=a8.mp a;obtain⟨h2,e2⟩:=a8.mp b;exact(List.getElem_inj hN).mp (e1.trans e2.symm)
theorem Fk(I:Inv X pins σ H s)(hN:X.N.Nodup)(hi:X.N[i]? =aA x)(hx:Loc X.env.scope x)(r:Zy v u)(h:∀s',Inv X pins (σ.set i (aA v)) H s'->(∃a,io a s.heap s'.heap/\(a=X.env.locals\/X.env.cells.lookup x=aA a))->Q () s')(hf:X.fn x=aC\/X.env.scope.names.lookup x=aA .local:=by first|exact .inl rfl|exact .inr rfl|assumption):bg M A (storeName X.env x u) Q E s:=by
 obtain⟨m,hn,hl⟩:=id I.loc;have hcls:(X.env.scope.kind== .class|| (X.env.scope.kind== .module&&X.env.locals !=X.env.globals))=aD:=by rw[I.ok.kind];rfl
 have hiσ:i<σ.length:=by rw[I.len];exact(a8.mp hi).1
 have cne:=I.cne;have tracked:∀{a:aj} {h':d6},(∃o,s.heap.get? a=aA o/\H a=aB)->io a s.heap h'->Go X.prog X.w H h':=fun{a h'} ha hs b ob e=>by
  obtain⟨_,_,hfree⟩:=ha;refine(I.hok b ob e).stay (λc w' hc q=>(hs.2 c ?_).trans q) (λ_ q=>q) λ_ _ q=>q;rintro rfl;rcases hc with rfl|hc
  .rw[hfree]at e;cases e
  .rw[hfree]at hc;cases hc
 rcases hx with hk|hk
 .refine wpAny_storeName_local hk hn (λh' hn' hs=>?_) hcls;obtain⟨oL,_,_,hoL,_⟩:=id hn;refine h _ ⟨I.ok,I.os,I.bare,⟨λb o e n hb hx=>?_,λb o e n hb hx=>?_,I.base.free,λb o e hx=>?_,I.base.tups,I.base.frzs,I.base.tbls⟩,⟨_,hn',λj y v' e1 e2 e3=>?_⟩,λy c e=>?_,I.free,I.freeC,λp hp=>?_,tracked ⟨oL,hoL,I.free⟩ hs,by simpa using I.len⟩ ⟨_,hs,.inl rfl⟩
  .exact(hs.2 b (cf (c8 (bo e) I.ok.above))).trans (I.base.keep b o e n hb hx)
  .obtain⟨sl,e1⟩:=I.base.slot b o e n hb hx;exact⟨sl,(hs.2 b (cf (c8 (bo e) I.ok.above))).trans e1⟩
  .obtain⟨o',e1⟩:=I.base.there b o e hx;exact⟨o',(hs.2 b (cf (c8 (bo e) I.ok.above))).trans e1⟩
  .by_cases hj:j=i
   .subst hj;rw[hi]at e1;cases e1;rw[d5 hiσ]at e2;cases e2;exact⟨u,r,.inl ⟨hk,by simp⟩⟩
   .rw[fj (Ne.symm hj)]at e2;obtain⟨u',r',q⟩:=hl j y v' e1 e2 e3;refine⟨u',r',?_⟩;rcases q with⟨k,e⟩|⟨k,c,e,z⟩
    .refine .inl ⟨k,?_⟩;have:y≠x:=λe=>hj (Po hN e1 (e▸hi));simp[this,e]
    .exact .inr ⟨k,c,e,z.sameBut hs (cne y c e)⟩
  .obtain⟨w',z⟩:=I.cell y c e;exact⟨w',z.sameBut hs (cne y c e)⟩
  .obtain⟨e,n,ne,nf,d⟩:=I.pin p hp;exact⟨(hs.2 p.1 ne).trans e,n,ne,nf,d⟩
 .have hfn:X.fn x=aC:=by
   rcases hf with z|z
   .exact z
   .rw[z]at hk;cases hk
  obtain⟨c,hc⟩:=I.ok.has x (.inl hk);obtain⟨w',z⟩:=I.cell x c hc;refine wpAny_storeName_cell I.ok.kind hk hc z (λh' hc' hs=>?_);obtain⟨oc,hoc,hocd⟩:=id z;refine h {s with heap:=h'} ⟨I.ok,I.os,I.bare,⟨λb o e n hb hx=>?_,λb o e n hb hx=>?_,I.base.free,λb o e hx=>?_,I.base.tups,I.base.frzs,I.base.tbls⟩,⟨m,hn.sameBut hs (Ne.symm (cne x c hc)),λj y v' e1 e2 e3=>?_⟩,λy c' e=>?_,I.free,I.freeC,λp hp=>?_,tracked ⟨oc,hoc,I.freeC x c hc⟩ hs,by simpa using I.len⟩ ⟨c,hs,.inr hc⟩
  .exact(hs.2 b (cf (c8 (bo e) (I.ok.cab x c hfn hc)))).trans (I.base.keep b o e n hb hx)
  .obtain⟨sl,e1⟩:=I.base.slot b o e n hb hx;exact⟨sl,(hs.2 b (cf (c8 (bo e) (I.ok.cab x c hfn hc)))).trans e1⟩
  .obtain⟨o',e1⟩:=I.base.there b o e hx;exact⟨o',(hs.2 b (cf (c8 (bo e) (I.ok.cab x c hfn hc)))).trans e1⟩
  .by_cases hj:j=i
   .subst hj;rw[hi]at e1;cases e1;rw[d5 hiσ]at e2;cases e2;exact⟨u,r,.inr ⟨.inl hk,c,hc,hc'⟩⟩
   .rw[fj (Ne.symm hj)]at e2;obtain⟨u',r',q⟩:=hl j y v' e1 e2 e3;refine⟨u',r',?_⟩;rcases q with q|⟨k,c',e,z'⟩
    .exact .inl q
    .refine .inr ⟨k,c',e,z'.sameBut hs ?_⟩;rintro rfl;exact hj (Po hN e1 (I.ok.inj _ _ _ e hc▸hi))
  .by_cases hcc:c'=c
   .subst hcc;exact⟨_,hc'⟩
   .obtain⟨w2,z2⟩:=I.cell y c' e;exact⟨w2,z2.sameBut hs hcc⟩
  .obtain⟨e,n,ne,nf,d⟩:=I.pin p hp;refine⟨(hs.2 p.1 ?_).trans e,n,ne,nf,d⟩;intro q;rw[q,hoc]at e;have q':oc=p.2:=cz.inj e;exact d w' (by rw[<-q'];exact hocd)
theorem Pp(I:Inv X pins σ H s)(hN:X.N.Nodup)(hi:X.N[i]? =aA x)(hx:Loc X.env.scope x)(r:Zy v u)(h:∀s',Inv X pins (σ.set i (aA v)) H s'->Q () s')(hf:X.fn x=aC\/X.env.scope.names.lookup x=aA .local:=by first|exact .inl rfl|exact .inr rfl|assumption):bg M A (storeName X.env x u) Q E s:=
 Fk I hN hi hx r (λs' I' _=>h s' I') hf
theorem Inv.call'(I:Inv X pins σ H s)(ho:s'.os=s.os)(u:Un (frs X.stack) ch H H' s.heap s'.heap)(hok:Go X.prog X.w H' s'.heap)(hg:AllBare s'.gens)(hch:∀b∈ch,(b∈X.ex\/X.s₀.heap.objs.size<=b)/\b≠X.env.locals/\(∀x c,X.env.cells.lookup x=aA c->c≠b)/\∀p∈X.pn++pins,p.1≠b):Inv X pins σ H' s':=by
 obtain⟨h',g',d',t',o'⟩:=s';have e:o'=s.os:=ho;subst e;exact I.call (g':=g') (t':=t') (d':=d') u hok hg hch
end
abbrev XK:=ah->Option aj->Hp->Prop
noncomputable abbrev St:=List (Option V)
abbrev VK:=V->Hp->Prop
abbrev TE:=St->Hp->VK->Prop
abbrev TT:=St->Hp->(Bool->Hp->Prop)->Prop
abbrev TA:=St->Hp->(List V->Hp->Prop)->Prop
set_option genInjectivity false in
structure Ends where
 nx:St->Hp->Prop
 rt:VK
 bk:St->Hp->Prop:=λ_ _=>False
 ct:St->Hp->Prop:=λ_ _=>False
abbrev TS:=Ends->St->Hp->Prop
def EP(X:Cx)(pins:List (aj×Obj))(σ:St)(Q:VK)(u:ah)(s':am):Prop:=∃v H',Inv X pins σ H' s'/\Zy v u/\Q v H'
def TP(X:Cx)(pins:List (aj×Obj))(σ:St)(Q:Bool->Hp->Prop)(b:Bool)(s':am):Prop:=∃H',Inv X pins σ H' s'/\Q b H'
def AP(X:Cx)(pins:List (aj×Obj))(σ:St)(Q:List V->Hp->Prop)(us:List ah)(s':am):Prop:=∃vs H',Inv X pins σ H' s'/\Z2 vs us/\Q vs H'
def SP(X:Cx)(pins:List (aj×Obj))(D:Ends)(f:Flow)(s':am):Prop:=
 match f with
 | .next=>∃σ' H',Inv X pins σ' H' s'/\D.nx σ' H'
 | .brk=>∃σ' H',Inv X pins σ' H' s'/\D.bk σ' H'
 | .cont=>∃σ' H',Inv X pins σ' H' s'/\D.ct σ' H'
 | .ret u=>∃v σ' H',Inv X pins σ' H' s'/\Zy v u/\D.rt v H'
def PE(X:Cx)(e:cj)(t:TE):Prop:=
 ∀(pins:List (aj×Obj)) (s:am) (σ:St) (H:Hp) (Q:VK),Inv X pins σ H s->t σ H Q->bg (b4 X.prog X.w) X.A (gp e X.env) (EP X pins σ Q) X.xe s
def PT(X:Cx)(e:cj)(t:TT):Prop:=
 ∀(pins:List (aj×Obj)) (s:am) (σ:St) (H:Hp) (Q:Bool->Hp->Prop),Inv X pins σ H s->t σ H Q->bg (b4 X.prog X.w) X.A (isTrue e X.env (gp e X.env)) (TP X pins σ Q) X.xe s
def PW(X:Cx)(e:cj)(t:TT):Prop:=
 ∀(whole:Sem ah) (pins:List (aj×Obj)) (s:am) (σ:St) (H:Hp) (Q:Bool->Hp->Prop),Inv X pins σ H s->t σ H Q->bg (b4 X.prog X.w) X.A (isTrue e X.env whole) (TP X pins σ Q) X.xe s
theorem PW.pt(h:PW X e t):PT X e t:=h _
def PA(X:Cx)(es:List cj)(t:TA):Prop:=
 ∀(pos:Pos) (pins:List (aj×Obj)) (s:am) (σ:St) (H:Hp) (Q:List V->Hp->Prop),Inv X pins σ H s->t σ H Q->bg (b4 X.prog X.w) X.A (spliced (gq pos (a9 es X.env))) (AP X pins σ Q) X.xe s
def PS(X:Cx)(st:Stmt)(t:TS):Prop:=
 ∀(pins:List (aj×Obj)) (s:am) (σ:St) (H:Hp) (D:Ends),Inv X pins σ H s->t D σ H->bg (b4 X.prog X.w) X.A (exec st X.env) (SP X pins D) X.xe s
def Ta(X:Cx)(st:List Stmt)(t:TS):Prop:=
 ∀(pins:List (aj×Obj)) (s:am) (σ:St) (H:Hp) (D:Ends),Inv X pins σ H s->t D σ H->bg (b4 X.prog X.w) X.A (execs st X.env) (SP X pins D) X.xe s
theorem Wp{Q:α->am->Prop}(h:bg M A t Q E s)(hQ:∀a s,Q a s->Q' a s):bg M A t Q' E s:=wpAny_mono h hQ λ_ _ x=>x
section
variable{X:Cx}
def Bg(i:Nat):TE:=λσ H Q=>∃v,σ[i]? =aA (aA v)/\Q v H
def tC(v:V):TE:=λ_ H Q=>Q v H
theorem Jy{pos}(hN:X.N[i]? =aA x)(hv:Vs X.env.scope x)(hd:(x==("__debug__":Str))=aD:=by decide)(hcd:(x==("__classdict__":Str))=aD:=by decide):PE X (.Name x pos) (Bg i):=by
 intro pins s σ H Q I h;obtain⟨v,e,h⟩:=h;obtain⟨m,hn,hl⟩:=I.loc;obtain⟨u,r,l⟩:=hl i x v hN e hv;have fin:EP X pins σ Q u s:=⟨v,H,I,r,h⟩
 rcases l with⟨hk,hm⟩|⟨hk,c,hc,hcell⟩
 .exact wpAny_Name (wpAny_loadName_local I.ok.kind hk hn hm fin) hd
 .rcases hk with hk|hk
  .exact wpAny_Name (wpAny_loadName_cell I.ok.kind hk hc hcell fin) hd
  .exact wpAny_Name (wpAny_loadName_free I.ok.kind hk hc hcell fin hcd) hd
theorem Zlt:PE X (.Constant (.int i) j pos) (tC (.int i)):=λ_ _ _ H _ I h=>wpAny_Constant_int ⟨.int i,H,I.tok _,⟨_,rfl⟩,h⟩
theorem Zoz:PE X (.Constant (.bool b) j pos) (tC (.bl b)):=λ_ _ _ H _ I h=>Constant_bool ⟨.bl b,H,I,rfl,h⟩
theorem Zcz:PE X (.Constant (.str x) j pos) (tC (.str x)):=λ_ _ _ H _ I h=>Calls.Constant_str ⟨.str x,H,I.tok _,⟨_,rfl⟩,h⟩
def Gl(X:Cx)(x:Str):Prop:=X.env.kindOf x=aA .globalImplicit
theorem Zhc{σ:St}(I:Inv X pins σ H s)(hg:Gl X x)(hm:X.mg x=aA u)(h:Q u s)(hd:(x==("__debug__":Str))=aD:=by decide):bg (b4 X.prog X.w) X.A (gp (.Name x pos) X.env) Q E s:=
 Calls.Name_function_global I.ok.kind hg (Calls.loadGlobal_global (by rw[I.ok.glob];exact I.mod.glob.keeps I.bk) hm h) hd
theorem Bh{E}{σ:St}{pos}(I:Inv X pins σ H s)(hg:Gl X x)(hm:X.mg x=aB)(hv:bootBuiltins x=aA u)(h:Q u s)(hn:x≠"__name__":=by decide)(hd:(x==("__debug__":Str))=aD:=by decide):bg (b4 X.prog X.w) X.A (gp (.Name x pos) X.env) Q E s:=by
 obtain⟨mb,h1,h2⟩:=I.mod.blt;exact Calls.Name_function_global I.ok.kind hg (Calls.loadGlobal_builtin (by rw[I.ok.glob];exact I.mod.glob.keeps I.bk) hm (by rw[I.ok.blt];exact h1.keeps I.bk) ((h2 x hn).trans hv) h) hd
def t2I(ta tb:TE)(k:Int->Int->Hp->Prop):St->Hp->Prop:=λσ H=>ta σ H λx H1=>tb σ H1 λy H2=>∃i j,x= .int i/\y= .int j/\k i j H2
def Zy8(ta tb:TE):TE:=λσ H Q=>t2I ta tb (λi j H2=>Q (.int (i+j)) H2) σ H
def Zy9(ta tb:TE):TE:=λσ H Q=>t2I ta tb (λi j H2=>Q (.int (i- j)) H2) σ H
def Zza(ta tb:TE):TE:=λσ H Q=>t2I ta tb (λi j H2=>(-(2^64)<i/\i<2^64)/\Q (.int (i*j)) H2) σ H
variable{a b:cj}{ta tb:TE}{pos:Pos}
def PC(X:Cx)(op:CmpOp)(a b:cj)(t:TE):Prop:=
 ∀(pins:List (aj×Obj)) (s:am) (σ:St) (H:Hp) (Q:VK),Inv X pins σ H s->t σ H Q->
  bg (b4 X.prog X.w) X.A (gp a X.env) (λv s₁=>bg (b4 X.prog X.w) X.A (gp b X.env) (λu s₂=>bg (b4 X.prog X.w) X.A (g9 op v u) (EP X pins σ Q) X.xe s₂) X.xe s₁) X.xe s
def Za9(p:Int->Int->Bool)(ta tb:TE):TE:=λσ H Q=>t2I ta tb (λi j H2=>Q (.bl (p i j)) H2) σ H
abbrev tLt:TE->TE->TE:=Za9 λi j=>decide (i<j)
abbrev tLe:TE->TE->TE:=Za9 λi j=>decide (i<=j)
abbrev tGt:TE->TE->TE:=Za9 λi j=>decide (j<i)
abbrev tGe:TE->TE->TE:=Za9 λi j=>decide (j<=i)
abbrev Zzb:TE->TE->TE:=Za9 λi j=>decide (i=j)
abbrev Zzc:TE->TE->TE:=Za9 λi j=>!decide (i=j)
def Zzd(ta:TE):TE:=λσ H Q=>ta σ H λx H1=>Q (.bl (decide (x= .non))) H1
def Zw5(ta:TE):TE:=λσ H Q=>ta σ H λx H1=>Q (.bl (!decide (x= .non))) H1
def tB(t:TE):TT:=λσ H Q=>t σ H λx H1=>∃c,x= .bl c/\Q c H1
theorem Zlu(h:PE X e t)(he:∀whole,isTrue e X.env whole=(do let v<-whole;standAt e.pos;holding [v] (truthy v)):=by intro _;rfl):PT X e (tB t):=by intro pins s σ H Q I hw;refine isTrue_plain (Wp (h pins s σ H _ I hw) λv s1 ⟨x,H1,I1,r1,q1⟩=>?_) (he _);obtain⟨d,rfl,q⟩:=q1;cases r1;exact wpAny_truthy_bool ⟨H1,I1,q⟩
variable{tA tB':TT}{rest:List cj}
def Zo0(t u:TT):TT:=λσ H Q=>t σ H λc H1=>if c=aC then u σ H1 Q else Q aD H1
def tOr(t u:TT):TT:=λσ H Q=>t σ H λc H1=>if c=aC then Q aC H1 else u σ H1 Q
def Zo1(t:TT):TT:=λσ H Q=>t σ H λc H1=>Q (!c) H1
theorem Zhd(ha:PT X a tA):PW X (.BoolOp .And [a] pos) tA:=by
 intro wh pins s σ H Q I h;refine isTrue_and (Wp (ha pins s σ H Q I h) λc s1 e=>?_);cases c with
 |true=>exact isTrue_and_nil e
 |false=>exact e
theorem Zlv(ha:PT X a tA):PW X (.BoolOp .Or [a] pos) tA:=by
 intro wh pins s σ H Q I h;refine isTrue_or (Wp (ha pins s σ H Q I h) λc s1 e=>?_);cases c with
 |false=>exact isTrue_or_nil e
 |true=>exact e
theorem Zlw(ha:PT X a tA)(hb:PW X (.BoolOp .And (b::rest) pos) tB'):PW X (.BoolOp .And (a::b::rest) pos) (Zo0 tA tB'):=by
 intro wh pins s σ H Q I h;refine isTrue_and (Wp (ha pins s σ H _ I h) λc s1 zq9=>?_);obtain⟨H1,I1,q1⟩:=zq9;cases c with
 |true=>exact hb wh pins s1 σ H1 Q I1 q1
 |false=>exact⟨H1,I1,q1⟩
theorem Zo2(ha:PT X a tA)(hb:PW X (.BoolOp .Or (b::rest) pos) tB'):PW X (.BoolOp .Or (a::b::rest) pos) (tOr tA tB'):=by
 intro wh pins s σ H Q I h;refine isTrue_or (Wp (ha pins s σ H _ I h) λc s1 zq9=>?_);obtain⟨H1,I1,q1⟩:=zq9;cases c with
 |true=>exact⟨H1,I1,q1⟩
 |false=>exact hb wh pins s1 σ H1 Q I1 q1
theorem Zlx(ha:PT X a tA):PT X (.UnaryOp .Not a pos) (Zo1 tA):=by intro pins s σ H Q I h;exact isTrue_not (ha pins s σ H (λc H1=>Q (!c) H1) I h)
def Zj3(ta tb:TE):TE:=λσ H Q=>ta σ H λx H1=>∃c,x= .bl c/\if c=aC then tb σ H1 Q else Q (.bl aD) H1
def Zze(ta tb:TE):TE:=λσ H Q=>ta σ H λx H1=>∃c,x= .bl c/\if c=aC then Q (.bl aC) H1 else tb σ H1 Q
def Zw7(ta:TE):TE:=λσ H Q=>ta σ H λx H1=>∃c,x= .bl c/\Q (.bl (!c)) H1
theorem Zly  (h:PE X a t):PE X (.BoolOp op [a] pos) t:=λpins s σ H Q I hw=>BoolOp_one (h pins s σ H Q I hw)
theorem Zlz(ha:PE X a ta)(hb:PE X (.BoolOp .And (b::rest) pos) tb):PE X (.BoolOp .And (a::b::rest) pos) (Zj3 ta tb):=by
 intro pins s σ H Q I h;refine BoolOp_and (Wp (ha pins s σ H _ I h) λv s1 zq9=>?_);obtain⟨x,H1,I1,r1,q1⟩:=zq9;obtain⟨c,rfl,q1⟩:=q1;cases r1;refine wpAny_truthy_bool ?_;cases c with
 |true=>exact hb pins s1 σ H1 Q I1 q1
 |false=>exact⟨.bl aD,H1,I1,rfl,q1⟩
def tIf(t:TT)(ta tb:TE):TE:=λσ H Q=>t σ H λc H1=>if c=aC then ta σ H1 Q else tb σ H1 Q
end
def W5(K:ad)(H:Hp)(a:aj)(xs:List V):Prop:=
 Rd H a (.lst xs)\/
  ∃(o:Obj) (its:Array ah) (n:Nat),K.lookup a=aA o/\o.cls= .type "list"/\o.dict=aB/\o.data= .seq its n/\its.size<=sizeLine/\Z2 xs its.toList
def Ob(K:ad)(H:Hp)(a:aj)(xs:List V):Prop:=
 Rd H a (.tup xs)\/
  ∃(o:Obj) (its:Array ah) (n:Nat),K.lookup a=aA o/\o.cls= .type "tuple"/\o.data= .seq its n/\its.size<=sizeLine/\Z2 xs its.toList
noncomputable def Zua:ah->Option V
 | .none=>aA .non
 | .bool b=>aA (.bl b)
 | .int i _=>aA (.int i)
 | .str x _=>aA (.str x)
 | .bytes b _=>aA (.byt b)
 | .float b _=>aA (.flt b)
 | .ref a=>aA (.ref a)
 | .type n=>aA (.ty n)
 |_=>aB
theorem Zy.abs(r:Zy x u):Zua u=aA x:=by
 cases x with
 |non=>cases r;rfl
 |bl _=>cases r;rfl
 |int _=>obtain⟨t,rfl⟩:=r;rfl
 |str _=>obtain⟨t,rfl⟩:=r;rfl
 |byt _=>obtain⟨t,rfl⟩:=r;rfl
 |flt _=>obtain⟨t,rfl⟩:=r;rfl
 |ref _=>cases r;rfl
 |ty _=>cases r;rfl
theorem Zy.inj(r:Zy x u)(q:Zy y u):x=y:=cz.inj (r.abs.symm.trans q.abs)
theorem Z2.inj:∀{ys:List V} {us:List ah},Z2 xs us->Z2 ys us->xs=ys:=by
 induction xs with
 |nil=>intro ys us h g;cases h;cases g;rfl
 |cons x xs ih=>
  intro ys us h g;cases h with
  |cons r t=>
   cases g with
   |cons r' t'=>rw[r.inj r',ih t t']
section
variable{X:Cx}{pins:List (aj×Obj)}{σ:St}{H:Hp}{s:am}{a:aj}{xs ys:List V}
theorem Inv.list(I:Inv X pins σ H s)(h:W5 X.K H a xs):∃its,Z2 xs its/\PlainL s.heap a its.toArray/\xs.length<=sizeLine:=by
 rcases h with h|⟨o,its,n,hk,hc,hd,hs,hz,r⟩
 .obtain⟨z,its,n,r,e⟩:=h.ok I.hok;exact⟨its,r,⟨_,n,e,rfl,rfl,rfl⟩,z⟩
 .refine⟨its.toList,r,⟨o,n,I.kIn a o hk,hc,hd,by simpa using hs⟩,?_⟩;have e:=r.length;simp only[ay]at e;omega
theorem Inv.tuple(I:Inv X pins σ H s)(h:Ob X.K H a xs):∃its,Z2 xs its/\IsTup s.heap a its.toArray/\xs.length<=sizeLine:=by
 rcases h with h|⟨o,its,n,hk,hc,hs,hz,r⟩
 .obtain⟨z,its,r,p⟩:=h.ok I.hok;exact⟨its,r,p,z⟩
 .refine⟨its.toList,r,⟨o,I.kIn a o hk,hc,n,by simpa using hs⟩,?_⟩;have e:=r.length;simp only[ay]at e;omega
theorem Inv.list_inj(I:Inv X pins σ H s)(h:W5 X.K H a xs)(h':W5 X.K H a ys):xs=ys:=by
 obtain⟨its,r,⟨o,n,e,_,_,d⟩,_⟩:=I.list h;obtain⟨its',r',⟨o',n',e',_,_,d'⟩,_⟩:=I.list h';rw[e]at e';cases e';rw[d]at d';injection d' with d1 _
 have:its=its':=by simpa using congrArg Array.toList d1
 subst this;exact r.inj r'
theorem Inv.tuple_inj(I:Inv X pins σ H s)(h:Ob X.K H a xs)(h':Ob X.K H a ys):xs=ys:=by
 obtain⟨its,r,⟨o,e,_,n,d⟩,_⟩:=I.tuple h;obtain⟨its',r',⟨o',e',_,n',d'⟩,_⟩:=I.tuple h';rw[e]at e';cases e';rw[d]at d';injection d' with d1 _
 have:its=its':=by simpa using congrArg Array.toList d1
 subst this;exact r.inj r'
end
noncomputable abbrev Cx.wish(X:Cx)(E:ah->am->Prop):Cx:={X with xe:=E}
noncomputable abbrev Cx.nox(X:Cx):Cx:=X.wish λ_ _=>False
theorem Cx.Ok.wish{X:Cx}(ok:X.Ok)(E):(X.wish E).Ok:=
 ⟨ok.mod,ok.kind,ok.glob,ok.blt,ok.above,ok.inj,ok.has,ok.cab,ok.hd,ok.frames,ok.stk,ok.exf,ok.bs,ok.bsz,ok.noex,ok.exfs,ok.funs,ok.frf⟩
theorem Cx.Ok.unwish{X:Cx}(ok:(X.wish E).Ok):X.Ok:=
 ⟨ok.mod,ok.kind,ok.glob,ok.blt,ok.above,ok.inj,ok.has,ok.cab,ok.hd,ok.frames,ok.stk,ok.exf,ok.bs,ok.bsz,ok.noex,ok.exfs,ok.funs,ok.frf⟩
section
variable{X:Cx}{pins:List (aj×Obj)}{σ:St}{H:Hp}{s:am}{E:ah->am->Prop}
theorem Inv.wish(I:Inv X pins σ H s)(E):Inv (X.wish E) pins σ H s:=⟨I.ok.wish E,I.os,I.bare,I.base,I.loc,I.cell,I.free,I.freeC,I.pin,I.hok,I.len⟩
theorem Inv.unwish(I:Inv (X.wish E) pins σ H s):Inv X pins σ H s:=⟨I.ok.unwish,I.os,I.bare,I.base,I.loc,I.cell,I.free,I.freeC,I.pin,I.hok,I.len⟩
theorem SP.unwish(h:SP (X.wish E) pins D f s'):SP X pins D f s':=by
 cases f with
 |next=>obtain⟨σ',H',I,q⟩:=h;exact⟨σ',H',I.unwish,q⟩
 |brk=>obtain⟨σ',H',I,q⟩:=h;exact⟨σ',H',I.unwish,q⟩
 |cont=>obtain⟨σ',H',I,q⟩:=h;exact⟨σ',H',I.unwish,q⟩
 |ret u=>obtain⟨v,σ',H',I,r,q⟩:=h;exact⟨v,σ',H',I.unwish,r,q⟩
theorem Ta.nox{st}(h:Ta X.nox st t):Ta X st t:=λpins s σ H D I hw=>
 wpAny_mono (h pins s σ H D (I.wish _) hw) (λ_ _ q=>q.unwish) λ_ _ z=>False.elim z
end
section
variable{X:Cx}{st:Stmt}{rest:List Stmt}{t u:TS}
def Zj4:TS:=λD σ H=>D.nx σ H
def Zl0(t u:TS):TS:=λD σ H=>t {D with nx:=u D} σ H
theorem Zhe:Ta X [] Zj4:=λ_ _ σ H _ I h=>wpAny_execs_nil ⟨σ,H,I,h⟩
theorem Zc0(h1:PS X st t)(h2:Ta X rest u):Ta X (st::rest) (Zl0 t u):=by
 intro pins s σ H D I h;refine wpAny_execs_cons (Wp (h1 pins s σ H {D with nx:=u D} I h) λf s1 q=>?_);cases f with
 |next=>obtain⟨σ',H',I',q⟩:=q;exact h2 pins s1 σ' H' D I' q
 |ret v=>exact q
 |brk=>exact q
 |cont=>exact q
theorem Zhf(h1:PS X st t):Ta X [st] t:=by
 intro pins s σ H D I h;refine wpAny_execs_cons (Wp (h1 pins s σ H D I h) λf s1 q=>?_);cases f with
 |next=>exact wpAny_execs_nil q
 |ret v=>exact q
 |brk=>exact q
 |cont=>exact q
def Zub:TS:=λD σ H=>D.bk σ H
def Zw8:TS:=λD σ H=>D.ct σ H
theorem Inv.quiet{σ:St}(I:Inv X pins σ H s):interactive X.env=aD:=by simp[interactive,I.ok.kind]
def Hu(te:TE):TS:=λD σ H=>te σ H λ_ H1=>D.nx σ H1
theorem Tt(he:PE X e te)(hs:swapsWith e aB pos.line X.env=pure aD:=by rfl):PS X (.Expr e pos) (Hu te):=by intro pins s σ H D I h;exact wpAny_Expr_any (Wp (he pins s σ H _ I h) λv s1 ⟨x,H1,I1,r1,q1⟩=>⟨σ,H1,I1,q1⟩) I.quiet hs
def Zl1(te:TE):TS:=λD σ H=>te σ H D.rt
theorem Zc1(he:PE X e te):PS X (.Return (aA e) pos) (Zl1 te):=by intro pins s σ H D I h;exact wpAny_Return_some (Wp (he pins s σ H _ I h) λv s1 ⟨x,H1,I1,r1,q1⟩=>⟨x,σ,H1,I1,r1,q1⟩)
def Zw9:TS:=λD _ H=>D.rt .non H
def Zo3(c:TT)(t u:TS):TS:=λD σ H=>c σ H λb H1=>if b=aC then t D σ H1 else u D σ H1
theorem Zo4(hc:PT X c tc)(ha:Ta X a t)(hb:Ta X b u):PS X (.If c a b pos) (Zo3 tc t u):=by
 intro pins s σ H D I h;refine wpAny_If (Wp (hc pins s σ H _ I h) λd s1 zq9=>?_);obtain⟨H1,I1,q1⟩:=zq9;cases d with
 |true=>exact ha pins s1 σ H1 D I1 q1
 |false=>exact hb pins s1 σ H1 D I1 q1
def Zuc:TS:=λ_ _ _=>False
end
abbrev TG:=V->St->Hp->(St->Hp->Prop)->Prop
abbrev TGs:=List V->St->Hp->(St->Hp->Prop)->Prop
def PG(X:Cx)(target:cj)(t:TG):Prop:=
 ∀(pins:List (aj×Obj)) (s:am) (σ:St) (H:Hp) (v:V) (u:ah) (Q:St->Hp->Prop),Inv X pins σ H s->Zy v u->t v σ H Q->
  bg (b4 X.prog X.w) X.A (assign target X.env u) (λ_ s'=>∃σ' H',Inv X pins σ' H' s'/\Q σ' H') X.xe s
def PGs(X:Cx)(ts:List cj)(t:TGs):Prop:=
 ∀(pins:List (aj×Obj)) (s:am) (σ:St) (H:Hp) (vs:List V) (us:List ah) (Q:St->Hp->Prop),Inv X pins σ H s->Z2 vs us->t vs σ H Q->
  bg (b4 X.prog X.w) X.A (assignInOrder ((assignEach ts X.env).map (·.2)) us) (λ_ s'=>∃σ' H',Inv X pins σ' H' s'/\Q σ' H') X.xe s
abbrev Zhg:=V->V->V->Hp->(Hp->Prop)->Prop
def Zo5(X:Cx)(t:Zhg):Prop:=
 ∀(pins:List (aj×Obj)) (s:am) (σ:St) (H:Hp) (o i v:V) (ov iv u:ah) (Q:Hp->Prop),Inv X pins σ H s->Zy o ov->Zy i iv->Zy v u->t o i v H Q->
  bg (b4 X.prog X.w) X.A (setItem ov iv u) (λ_ s'=>∃H',Inv X pins σ H' s'/\Q H') X.xe s
abbrev TIp:=V->V->Hp->VK->Prop
def PIp(X:Cx)(op:Operator)(t:TIp):Prop:=
 ∀(pins:List (aj×Obj)) (s:am) (σ:St) (H:Hp) (x y:V) (v u:ah) (Q:VK),Inv X pins σ H s->Zy x v->Zy y u->t x y H Q->
  bg (b4 X.prog X.w) X.A (inplaceOp op v u) (EP X pins σ Q) X.xe s
section
variable{pos:Pos}
def Aa(i:Nat):TG:=λv σ H Q=>Q (σ.set i (aA v)) H
theorem Zhh(hN:X.N.Nodup)(hi:X.N[i]? =aA x)(hx:Loc X.env.scope x)(hf:X.fn x=aC\/X.env.scope.names.lookup x=aA .local:=by first|exact .inl rfl|exact .inr rfl|assumption):PG X (.Name x pos) (Aa i):=by intro pins s σ H v u Q I r h;exact wpAny_assign_Name (Pp I hN hi hx r (λs' I'=>⟨_,H,I',h⟩) hf)
def Zo6:TGs:=λvs σ H Q=>vs=[]/\Q σ H
def Zj5(t:TG)(u:TGs):TGs:=λvs σ H Q=>∃v r,vs=v::r/\t v σ H λσ' H'=>u r σ' H' Q
theorem Zhi:PGs X [] Zo6:=by intro pins s σ H vs us Q I r h;obtain⟨e,h⟩:=h;subst e;cases r;exact assignInOrder_nil ⟨σ,H,I,h⟩
theorem Zc3(h1:PG X e t)(h2:PGs X es u)(hs:(assignEach (e::es) X.env).map (·.2)=assign e X.env::(assignEach es X.env).map (·.2):=by rfl):PGs X (e::es) (Zj5 t u):=by
 intro pins s σ H vs us Q I r h;obtain⟨v,vr,e1,h⟩:=h;subst e1;cases r with
 |cons r rr=>rw[hs];refine assignInOrder_cons (Wp (h1 pins s σ H _ _ _ I r h) λ_ s1 zq9=>?_);obtain⟨σ1,H1,I1,q1⟩:=zq9;exact h2 pins s1 σ1 H1 _ _ Q I1 rr q1
def Zo7(K:ad)(n:Nat)(t:TGs):TG:=λv σ H Q=>∃a xs,v= .ref a/\Ob K H a xs/\xs.length=n/\t xs σ H Q
theorem Zl2{k}(hc:X.calm=aC)(h:PGs X es t)(hn:(assignEach es X.env).length=n:=by rfl)(hst:(assignEach es X.env).findIdx? (·.1)=aB:=by rfl):PG X (.Tuple es k pos) (Zo7 X.K n t):=by
 intro pins s σ H v u Q I r hw;obtain⟨a,xs,e1,hq,hl,hw⟩:=hw;subst e1;cases r;obtain⟨its,rv,ht,hz⟩:=I.tuple hq;refine assign_Tuple_tuple (I.ok.hd hc) ht (by simp[hn,<-hl,rv.length]) hst λh' hx=>?_;have I1:Inv X pins σ H {s with heap:=h'}:=I.kept (t':=s.toks) λb o e=>hx b o (cf (bo e)) e;exact h pins _ σ H xs _ Q I1 (by simpa using rv) hw
def Zo8(to ti:TE)(t:Zhg):TG:=λv σ H Q=>to σ H λo H1=>ti σ H1 λi H2=>t o i v H2 λH3=>Q σ H3
theorem Zl3(ho:PE X o to)(hi:PE X i ti)(hs:Zo5 X t)(ha:∀v,assign (.Subscript o i pos) X.env v=(do
   let ov<-holding [v] (gp o X.env);let iv<-holding [v,ov] (gp i X.env)
   standAt pos
   holding [v,ov,iv] (setItem ov iv v)
   release [v,ov,iv] []):=by intro _;rfl):PG X (.Subscript o i pos) (Zo8 to ti t):=by
 intro pins s σ H v u Q I r h;rw[ha];refine ac (gm (Wp (ho pins s σ H _ I h) λov s1 zq9=>?_));obtain⟨x,H1,I1,r1,q1⟩:=zq9;refine ac (gm (Wp (hi pins s1 σ H1 _ I1 q1) λiv s2 zq9=>?_));obtain⟨y,H2,I2,r2,q2⟩:=zq9;refine ac (wpAny_standAt (ac (gm (Wp (hs pins s2 σ H2 x y v ov iv u _ I2 r1 r2 r q2) λ_ s3 zq9=>?_))));obtain⟨H3,I3,q3⟩:=zq9;exact wpAny_release ⟨σ,H3,I3,q3⟩
def Vx(te:TE)(g:TG):TS:=λD σ H=>te σ H λx H1=>g x σ H1 D.nx
theorem Zc4(he:PE X e te)(hg:PG X tg g)(hs:swapsWithSole [tg] e pos.line X.env=pure aD:=by rfl)(hw:swappedStores [tg] e X.env=pure aB:=by rfl)(h1:(assignEach [tg] X.env).map (·.2)=[assign tg X.env]:=by rfl):PS X (.Assign [tg] e pos) (Vx te g):=by
 intro pins s σ H D I h;refine wpAny_Assign_stores (Wp (he pins s σ H _ I h) λv s1 ⟨x,H1,I1,r1,q1⟩=>?_) hs hw;rw[h1];exact Wp (hg pins s1 σ H1 x v _ I1 r1 q1) λ_ s2 q=>q
theorem Zc5(hN:X.N.Nodup)(hi:X.N[i]? =aA x)(hx:Loc X.env.scope x)(he:PE X e te)(hs:swapsWith e (aA (.Name x pos')) pos.line X.env=pure aD:=by rfl)(hf:X.fn x=aC\/X.env.scope.names.lookup x=aA .local:=by first|exact .inl rfl|exact .inr rfl|assumption):
  PS X (.Assign [.Name x pos'] e pos) (Vx te (Aa i)):=by
 intro pins s σ H D I h;refine wpAny_Assign_Name (Wp (he pins s σ H _ I h) λv s1 ⟨y,H1,I1,r1,q1⟩=>?_) hs;exact Pp I1 hN hi hx r1 (λs2 I2=>⟨_,H1,I2,q1⟩) hf
def Zzf(i j:Nat)(ta:TA):TS:=λD σ H=>ta σ H λvs H1=>∃v w,vs=[v,w]/\D.nx ((σ.set i (aA v)).set j (aA w)) H1
def Zzg(i:Nat)(te:TE)(ti:TIp):TS:=λD σ H=>∃x,σ[i]? =aA (aA x)/\te σ H λy H1=>ti x y H1 λz H2=>D.nx (σ.set i (aA z)) H2
def Zxa(to ti te:TE)(tget:V->V->Hp->VK->Prop)(tip:TIp)(tset:Zhg):TS:=λD σ H=>to σ H λo H1=>ti σ H1 λi H2=>tget o i H2 λx H3=>te σ H3 λy H4=>tip x y H4 λz H5=>tset o i z H5 λH6=>D.nx σ H6
def Zzh(X:Cx)(t:V->V->Hp->VK->Prop):Prop:=
 ∀(pins:List (aj×Obj)) (s:am) (σ:St) (H:Hp) (o i:V) (ov iv:ah) (Q:VK),Inv X pins σ H s->Zy o ov->Zy i iv->t o i H Q->
  bg (b4 X.prog X.w) X.A (getItem ov iv) (EP X pins σ Q) X.xe s
def ipI(f:Int->Int->Int):TIp:=λx y H Q=>∃i j,x= .int i/\y= .int j/\Q (.int (f i j)) H
def Zc6(c:TT)(tb:TS):TS:=λD σ H=>∃W:Nat->St->Hp->Prop,(∃m,W m σ H)/\∀m σ H,W m σ H->
 c σ H λb H1=>if b=aC then∃N:St->Hp->Prop,(∀σ' H',N σ' H'->∃m',m'<m/\W m' σ' H')/\tb {D with nx:=N,ct:=N,bk:=D.nx} σ H1 else D.nx σ H1
theorem Zc7(hp:PassesOwn (b4 X.prog X.w) X.A X.env X.xe)(hc:PT X c tc)(hb:Ta X body tb):PS X (.While c body [] pos) (Zc6 tc tb):=by
 intro pins s σ H D I h;obtain⟨W,⟨m0,w0⟩,turn⟩:=h;refine wpAny_While (codeAny_whileLoop (λn s'=>∃σ' H',Inv X pins σ' H' s'/\W n σ' H') ?_ m0 ⟨σ,H,I,w0⟩);rintro n s1 ⟨σ1,H1,I1,w1⟩;refine wpAny_passesOwn hp (Wp (hc pins s1 σ1 H1 _ I1 (turn n σ1 H1 w1)) λb s2 zq9=>?_);obtain⟨H2,I2,q2⟩:=zq9;cases b with
 |true=>
  obtain⟨N,hN,q2⟩:=q2;rw[if_pos rfl];refine wpAny_passesOwn hp (Wp (hb pins s2 σ1 H2 _ I2 q2) λf s3 q3=>?_);cases f with
  |next=>obtain⟨σ3,H3,I3,n3⟩:=q3;obtain⟨m',hm,w3⟩:=hN σ3 H3 n3;exact⟨m',hm,σ3,H3,I3,w3⟩
  |cont=>obtain⟨σ3,H3,I3,n3⟩:=q3;obtain⟨m',hm,w3⟩:=hN σ3 H3 n3;exact⟨m',hm,σ3,H3,I3,w3⟩
  |brk=>exact q3
  |ret v=>exact q3
 |false=>rw[if_neg bv];exact wpAny_execs_nil ⟨σ1,H2,I2,q2⟩
end
set_option genInjectivity false in
structure It where
 go:Nat->Hp->Prop
 yld:Nat->Hp->V->Hp->Prop
 stop:Nat->Hp->Prop
def Jz(X:Cx)(pins:List (aj×Obj))(H:Hp)(b:aj):Prop:=
 H b=aB/\b≠X.env.locals/\b∉X.fs/\(b∈X.ex\/X.s₀.heap.objs.size<=b)/\(∀x c,X.env.cells.lookup x=aA c->c≠b)/\∀p∈X.pn++pins,p.1≠b
theorem Inv.fpOk{σ:St}{b:aj}(I:Inv X pins σ H s)(hb:s.heap.objs.size<=b)(hn:H' b=aB):Jz X pins H' b:=by
 refine⟨hn,Nat.ne_of_gt (c8 I.lt hb),I.nofs hb,.inr (dk I.sz hb),λx c e z=>?_,λp hp z=>?_⟩
 .obtain⟨v,q⟩:=I.cell x c e;exact absurd (c8 q.lt (by rw[z];exact hb)) (ii _)
 .exact absurd (c8 (bo (I.pin p hp).1) (by rw[z];exact hb)) (ii _)
structure Turn(P:b6)(w:c7)(K:ad)(tg:cj)(J:It)(fp:List aj)(it:aj)(tn:Nat->d6->Prop):Prop where
 mem:it∈fp
 obj:∀i h,tn i h->∀b∈fp,∃o,h.get? b=aA o/\∀v,o.data≠.cell v
 keep:∀i h h',tn i h->(∀b∈fp,∀o,h.get? b=aA o->h'.get? b=aA o)->tn i h'
 item:∀(X:Cx),X.prog=P->X.w=w->X.K=K->X.calm=aC->∀(i:Nat) (pins:List (aj×Obj)) (s:am) (σ:St) (H:Hp) (E:ah->am->Prop),Inv X pins σ H s->(∀b∈fp,Jz X pins H b)->tn i s.heap->J.go i H->
  bg (b4 P w) X.A (pyNext (.ref it)) (λr s1=>∃u,r=aA u/\
   bg (b4 P w) X.A (letOwnedTupleGo tg (.ref it) u) (λ_ s2=>∃x H',Inv X pins σ H' s2/\Zy x u/\J.yld i H x H'/\tn (i+1) s2.heap/\∀b∈fp,H' b=aB) E s1) E s
 done:∀(X:Cx),X.prog=P->X.w=w->X.K=K->X.calm=aC->∀(i:Nat) (pins:List (aj×Obj)) (s:am) (σ:St) (H:Hp) (E:ah->am->Prop),Inv X pins σ H s->(∀b∈fp,Jz X pins H b)->tn i s.heap->J.stop i H->
  bg (b4 P w) X.A (pyNext (.ref it)) (λr s1=>r=aB/\Inv X pins σ H s1) E s
 self:∀(A:dh) (i:Nat) (s:am) (Q:ah->am->Prop) (E:ah->am->Prop),tn i s.heap->Q (.ref it) s->bg (b4 P w) A (pyIter (.ref it)) Q E s
abbrev TI:=St->Hp->(It->Hp->Prop)->Prop
def PIE(X:Cx)(pins:List (aj×Obj))(σ:St)(tg:cj)(R:It->Hp->Prop)(itv:ah)(s2:am):Prop:=
 ∃(it:aj) (fp:List aj) (tn:Nat->d6->Prop) (J:It) (H':Hp),itv= .ref it/\Inv X pins σ H' s2/\Turn X.prog X.w X.K tg J fp it tn/\tn 0 s2.heap/\(∀b∈fp,Jz X pins H' b)/\R J H'
def PI(X:Cx)(tg iter:cj)(wi:TI):Prop:=
 ∀(pins:List (aj×Obj)) (s:am) (σ:St) (H:Hp) (R:It->Hp->Prop),Inv X pins σ H s->wi σ H R->
  bg (b4 X.prog X.w) X.A (gp iter X.env) (λv s1=>bg (b4 X.prog X.w) X.A (pyIter v) (PIE X pins σ tg R) X.xe s1) X.xe s
theorem Ab(ho:s.heap.get? it=aA o)(hc:o.cls= .type n)(hd:o.data= .fields vs)(hn:["enumerate","zip","dict_itemiterator","dict_reverseitemiterator","odict_iterator","itertools.zip_longest","itertools.pairwise"].contains n=aD)(hQ:Q () s):bg M A (letOwnedTupleGo tg (.ref it) u) Q E s:=by
  unfold letOwnedTupleGo;cases tg<;> first
    |exact ag hQ
    | (cases u<;> first
        |exact ag hQ
        | (refine ac (wpAny_load ho ?_)
           rw[hc,hd];show bg M A (if(["enumerate","zip","dict_itemiterator","dict_reverseitemiterator","odict_iterator","itertools.zip_longest","itertools.pairwise"].contains n&&vs[0]? ==aA (rawInt _))=aC then _ else _) Q E s;rw[if_neg (by intro h;rw[hn,Bool.false_and]at h;cases h)];exact ag hQ))
noncomputable def Itl(K:ad)(a:aj):It:=
 ⟨λi H=>∃xs x,W5 K H a xs/\xs[i]? =aA x,λi H x H'=>H'=H/\∀xs,W5 K H a xs->xs[i]? =aA x,λi H=>∃xs,W5 K H a xs/\xs.length<=i⟩
noncomputable def Itt(K:ad)(a:aj):It:=
 ⟨λi H=>∃xs x,Ob K H a xs/\xs[i]? =aA x,λi H x H'=>H'=H/\∀xs,Ob K H a xs->xs[i]? =aA x,λi H=>∃xs,Ob K H a xs/\xs.length<=i⟩
noncomputable def Itr(lo:Int)(n:Nat):It:=⟨λi _=>i<n,λi H x H'=>H'=H/\x= .int (lo+i),λi _=>n<=i⟩
theorem Zbb{P:b6}{w:c7}{K:ad}{tg:cj}(a it:aj):Turn P w K tg (Itl K a) [it] it (λi h=>h.IsListIter it a i)where
 mem:=by simp
 obj:=λi h st b hb=>by
  have e:b=it:=by simpa using hb
  subst e;obtain⟨o,e,c,d⟩:=st;exact⟨o,e,λv z=>by rw[d]at z;cases z⟩
 keep:=λi h h' st k=>st.at λo e=>k it (by simp) o e
 item:=by intro X hP hw hK hc i pins s σ H E I hf st hg;subst hP hw hK;obtain⟨xs,x,hq,hx⟩:=hg;obtain⟨its,rv,p,hz⟩:=I.list hq;obtain⟨u,hu,ru⟩:=rv.get hx;obtain⟨f0,f1,f2,f3,f4,f5⟩:=hf it (by simp);refine wpAny_pyNext_list_item st p.isList (x:=u) (by simpa using hu) λh' st' sb=>?_;have I1:Inv X pins σ H {s with heap:=h'}:=I.turned (t':=s.toks) (λb o hb e=>(sb.2 b hb).trans e) f0 f1 f3 f4 f5;obtain⟨o,e,c,d⟩:=id st';exact⟨u,rfl,Ab (s:={s with heap:=h'}) e c d (by decide) ⟨x,H,I1,ru,⟨rfl,λys hy=>by rw[I.list_inj hy hq];exact hx⟩,st',λb hb=>(hf b hb).1⟩⟩
 done:=by intro X hP hw hK hc i pins s σ H E I hf st hg;subst hP hw hK;obtain⟨xs,hq,hx⟩:=hg;obtain⟨its,rv,p,hz⟩:=I.list hq;obtain⟨f0,f1,f2,f3,f4,f5⟩:=hf it (by simp);have hl:=rv.length;exact wpAny_pyNext_list_end (I.ok.hd hc) st p.isList (by simp;omega) λh' eb=>⟨rfl,I.turned (t':=s.toks) (λb o hb e=>eb b o hb e) f0 f1 f3 f4 f5⟩
 self:=λ_ _ _ _ _ st h=>wpAny_pyIter_listiter st h
theorem Vy{P:b6}{w:c7}{K:ad}{tg:cj}(a it:aj):Turn P w K tg (Itt K a) [it] it (λi h=>h.IsTupleIter it a i)where
 mem:=by simp
 obj:=λi h st b hb=>by
  have e:b=it:=by simpa using hb
  subst e;obtain⟨o,e,c,d⟩:=st;exact⟨o,e,λv z=>by rw[d]at z;cases z⟩
 keep:=λi h h' st k=>st.at λo e=>k it (by simp) o e
 item:=by intro X hP hw hK hc i pins s σ H E I hf st hg;subst hP hw hK;obtain⟨xs,x,hq,hx⟩:=hg;obtain⟨its,rv,p,hz⟩:=I.tuple hq;obtain⟨u,hu,ru⟩:=rv.get hx;obtain⟨f0,f1,f2,f3,f4,f5⟩:=hf it (by simp);refine wpAny_pyNext_tuple_item st (show s.heap.IsTuple a its.toArray from p) (x:=u) (by simpa using hu) λh' st' sb=>?_;have I1:Inv X pins σ H {s with heap:=h'}:=I.turned (t':=s.toks) (λb o hb e=>(sb.2 b hb).trans e) f0 f1 f3 f4 f5;obtain⟨o,e,c,d⟩:=id st';exact⟨u,rfl,Ab (s:={s with heap:=h'}) e c d (by decide) ⟨x,H,I1,ru,⟨rfl,λys hy=>by rw[I.tuple_inj hy hq];exact hx⟩,st',λb hb=>(hf b hb).1⟩⟩
 done:=by intro X hP hw hK hc i pins s σ H E I hf st hg;subst hP hw hK;obtain⟨xs,hq,hx⟩:=hg;obtain⟨its,rv,p,hz⟩:=I.tuple hq;obtain⟨f0,f1,f2,f3,f4,f5⟩:=hf it (by simp);have hl:=rv.length;exact wpAny_pyNext_tuple_end (I.ok.hd hc) st (show s.heap.IsTuple a its.toArray from p) (by simp;omega) λh' eb=>⟨rfl,I.turned (t':=s.toks) (λb o hb e=>eb b o hb e) f0 f1 f3 f4 f5⟩
 self:=λ_ _ _ _ _ st h=>wpAny_pyIter_tupleiter st h
theorem Vz{P:b6}{w:c7}{K:ad}{tg:cj}(it:aj)(lo:Int)(n:Nat):Turn P w K tg (Itr lo n) [it] it (λi h=>IsRangeIter h it (lo+(i:Nat)*1) ((n:Int)- (i:Nat)) 1)where
 mem:=by simp
 obj:=λi h st b hb=>by
  have e:b=it:=by simpa using hb
  subst e;exact⟨_,st,λv z=>by
   have z':Data.fields _=Data.cell v:=z;cases z'⟩
 keep:=λi h h' st k=>k it (by simp) _ st
 item:=by intro X hP hw hK hc i pins s σ H E I hf st hg;subst hP hw hK;obtain⟨f0,f1,f2,f3,f4,f5⟩:=hf it (by simp);have W:=Walks.range (prog:=X.prog) (w:=X.w) (I.ok.hd hc) it lo 1 n;refine W.item i s _ _ hg st λv h' tk hv st' kk=>?_;obtain⟨t,rfl⟩:=hv;have I1:Inv X pins σ H {s with heap:=h',toks:=tk}:=I.turned (λb o hb e=>kk b o (by simpa using hb) e) f0 f1 f3 f4 f5;refine⟨_,rfl,Ab (s:={s with heap:=h',toks:=tk}) (n:="range_iterator") st' rfl rfl (by decide) ⟨.int (lo+i),H,I1,⟨t,?_⟩,⟨rfl,rfl⟩,st',λb hb=>(hf b hb).1⟩⟩;rw[Int.mul_one]
 done:=by intro X hP hw hK hc i pins s σ H E I hf st hg;subst hP hw hK;obtain⟨f0,f1,f2,f3,f4,f5⟩:=hf it (by simp);exact wpAny_pyNext_range_end (I.ok.hd hc) st (by have:n<=i:=hg;omega) λh' eb=>⟨rfl,I.turned (t':=s.toks) (λb o hb e=>eb b o hb e) f0 f1 f3 f4 f5⟩
 self:=λ_ _ _ _ _ st h=>wpAny_pyIter_rangeiter st h
def Zxc(K:ad)(tl:TE):TI:=λσ H R=>tl σ H λx H1=>∃a,x= .ref a/\(∃xs,W5 K H1 a xs)/\R (Itl K a) H1
def Zzi(K:ad)(tl:TE):TI:=λσ H R=>tl σ H λx H1=>∃a,x= .ref a/\(∃xs,Ob K H1 a xs)/\R (Itt K a) H1
theorem Zc8{σ:St}{lo:Int}(I:Inv X pins σ H s)(h1:-(2^62)<=lo)(h2:lo<2^62)(h3:-(2^62)<=hi)(h4:hi<2^62)(q:R (Itr lo (hi- lo).toNat) H):bg (b4 X.prog X.w) X.A (pyIter (.ref s.heap.objs.size)) (PIE X pins σ tg R) E {s with heap:=s.heap.push {cls:=.type "range",data:=.fields #[.int lo t,.int hi u,.int 1 v]},toks:=tk}:=by
 refine wpAny_pyIter_range (IsRange.new ..) (small_one h1 h2 h3 h4) ?_;have I1:Inv X pins σ H {s with heap:=s.heap.push {cls:=.type "range",data:=.fields #[.int lo t,.int hi u,.int 1 v]},toks:=tk}:=I.kept λb o e=>au _ e;refine⟨(s.heap.push {cls:=.type "range",data:=.fields #[.int lo t,.int hi u,.int 1 v]}).objs.size,[(s.heap.push {cls:=.type "range",data:=.fields #[.int lo t,.int hi u,.int 1 v]}).objs.size],_,_,H,rfl,
  I1.kept (t':=tk) λb o e=>au _ e,Vz _ lo (hi- lo).toNat,?_,λb hb=>?_,q⟩
 .have e1:lo+((0:Nat):Int)*1=lo:=by simp
  have e2:(((hi- lo).toNat:Nat):Int)- ((0:Nat):Int)=Builtin.Range.rangeSize lo hi 1:=by rw[rangeSize_one];split<;> omega
  show IsRangeIter _ _ (lo+((0:Nat):Int)*1) ((((hi- lo).toNat:Nat):Int)- ((0:Nat):Int)) 1;rw[e1,e2];exact bp _ rfl
 .have e:b=(s.heap.push {cls:=.type "range",data:=.fields #[.int lo t,.int hi u,.int 1 v]}).objs.size:=by simpa using hb
  subst e;exact I1.fpOk (ba _) (I1.hok.fresh (ba _))
def Zj6(ta:TA):TI:=λσ H R=>ta σ H λvs H1=>∃j:Int,vs=[.int j]/\-(2^62)<=j/\j<2^62/\R (Itr 0 j.toNat) H1
def Zxd(ta:TA):TI:=λσ H R=>ta σ H λvs H1=>∃i j:Int,vs=[.int i,.int j]/\(-(2^62)<=i/\i<2^62/\-(2^62)<=j/\j<2^62)/\R (Itr i (j- i).toNat) H1
theorem Zbc(hg:Gl X "range")(hm:X.mg "range"=aB)(ha:PA X [a] ta)(hs:a9 [a] X.env=[(aD,gp a X.env)]:=by rfl):PI X tg (.Call (.Name "range" p) [a] [] pos) (Zj6 ta):=by
 intro pins s σ H R I h;refine Call_ (Bh I hg hm boot_range (PyProof.Rows.callWith_type1 (Wp (ha pos pins s σ H _ I h) λus s1 ⟨vs,H1,I1,r1,q1⟩=>?_) hs rfl));obtain⟨j,e,q1,q2,q⟩:=q1;subst e;cases r1 with
 |cons r rr=>cases rr;obtain⟨t,rfl⟩:=r;exact call_range_1 (Zc8 I1 (by omega) (by omega) q1 q2 (by simpa using q))
def Zpc(wi:TI)(g:TG)(tb:TS):TS:=λD σ H=>wi σ H λJ H1=>∃W:Nat->Nat->St->Hp->Prop,(∃m,W 0 m σ H1)/\∀i m σ H,W i m σ H->
 (J.stop i H/\D.nx σ H)\/(J.go i H/\∃N:St->Hp->Prop,(∀σ' H',N σ' H'->∃m',m'<m/\W (i+1) m' σ' H')/\∀x H',J.yld i H x H'->g x σ H' λσ2 H2=>tb {D with nx:=N,ct:=N,bk:=D.nx} σ2 H2)
noncomputable def Ac(fp:List aj)(h:d6):List (aj×Obj):=fp.filterMap λb=>(h.get? b).map λo=>(b,o)
theorem Bi(hb:b∈fp)(e:h.get? b=aA o):(b,o)∈Ac fp h:=List.mem_filterMap.mpr ⟨b,hb,by rw[e];rfl⟩
theorem Zbd(hp:p∈Ac fp h):p.1∈fp/\h.get? p.1=aA p.2:=by
 obtain⟨b,hb,e⟩:=List.mem_filterMap.mp hp;cases q:h.get? b with
 |none=>rw[q]at e;cases e
 |some o=>rw[q]at e;have e':(b,o)=p:=cz.inj e;subst e';exact⟨hb,q⟩
theorem Inv.pinned{σ:St}(I:Inv X pins σ H s)(hf:∀b∈fp,Jz X pins H b)(ho:∀b∈fp,∃o,s.heap.get? b=aA o/\∀v,o.data≠.cell v):Inv X (pins++Ac fp s.heap) σ H s:=
 I.pins_of λp hp=>(bz.mp hp).elim (λz=>I.pin p (bh _ z)) λz=>by obtain⟨hb,e⟩:=Zbd z;obtain⟨f0,f1,f2,_⟩:=hf p.1 hb;obtain⟨o,e',d⟩:=ho p.1 hb;rw[e]at e';cases e';exact⟨e,f0,f1,f2,d⟩
theorem Inv.unpinned{σ:St}(I:Inv X (pins++pl) σ H s):Inv X pins σ H s:=I.pins_of λp hp=>I.pin p (bh _ (bj _ hp))
theorem Zl4 {iter : cj}{body : List Stmt}{wi : TI}{g : TG}{tb : TS}{pos : Pos}(hp : PassesOwn (b4 X.prog X.w) X.A X.env X.xe)(hc : X.calm = aC)(hi : PI X tg iter wi)(hg : PG X tg g)(hb : Ta X body tb)(hs : ∀ x, foldedSetIterable iter X.env x = pure x := by intro _; rfl) : PS X (.For tg iter body [] pos) (Zpc wi g tb) := by
  intro pins s σ H D I h;refine wpAny_For (Wp (hi pins s σ H _ I h) λv s1 h1 => Wp h1 λitv s2 h2 => ?_) hs;obtain ⟨it, fp, tn, J, H2, e, I2, T, st2, f2, W, ⟨m0, w0⟩, turn⟩ := h2;subst e
  -- what stays aC of the iterator's objects through the loop
  have stat : ∀ {H' : Hp}, (∀ b ∈ fp, H' b = aB) -> ∀ b ∈ fp, Jz X pins H' b := λhn b hb => ⟨hn b hb, (f2 b hb).2⟩
  refine codeAny_forLoop_any (λn s' => ∃ i σ' H', Inv X pins σ' H' s' /\ tn i s'.heap /\ (∀ b ∈ fp, H' b = aB) /\ W i n σ' H') ?_ m0 ⟨0, σ, H2, I2, st2, λb hb => (f2 b hb).1, w0⟩;rintro n s3 ⟨i, σ3, H3, I3, st3, fr3, w3⟩;rcases turn i n σ3 H3 w3 with ⟨stop, qn⟩ | ⟨go, N, hN, step⟩
  · refine wpAny_passesOwn hp (Wp (T.done X rfl rfl rfl hc i pins s3 σ3 H3 X.xe I3 (stat fr3) st3 stop) λr s4 ⟨hr, I4⟩ => ?_)
    subst hr;exact wpAny_execs_nil ⟨σ3, H3, I4, qn⟩
  · refine wpAny_passesOwn hp (Wp (T.item X rfl rfl rfl hc i pins s3 σ3 H3 X.xe I3 (stat fr3) st3 go) λr s4 ⟨u, hr, h4⟩ => ?_)
    subst hr;refine wpAny_passesOwn hp (Wp h4 λ_ s5 zq9 => ?_);obtain ⟨x, H5, I5, r5, y5, st5, fr5⟩ := zq9;have I5' := I5.pinned (stat fr5) (T.obj _ _ st5);refine wpAny_passesOwn hp (Wp (hg _ s5 σ3 H5 x u _ I5' r5 (step x H5 y5)) λ_ s6 zq9 => ?_);obtain ⟨σ6, H6, I6, q6⟩ := zq9;refine wpAny_passesOwn hp (Wp (hb _ s6 σ6 H6 _ I6 q6) λf s7 q7 => ?_);have again : ∀ {σ7 : St} {H7 : Hp}, Inv X (pins ++ Ac fp s5.heap) σ7 H7 s7 -> N σ7 H7 -> ∃ m, m < n /\ ∃ i σ' H', Inv X pins σ' H' s7 /\ tn i s7.heap /\ (∀ b ∈ fp, H' b = aB) /\ W i m σ' H' := λ{σ7 H7} I7 n7 => by obtain ⟨m', hm, w7⟩ := hN σ7 H7 n7;refine ⟨m', hm, i + 1, σ7, H7, I7.unpinned, T.keep _ _ _ st5 λb hb o e => (I7.pin (b, o) (bh _ (bh _ (Bi hb e)))).1, λb hb => ?_, w7⟩;obtain ⟨o, e, d⟩ := T.obj _ _ st5 b hb;exact (I7.pin (b, o) (bh _ (bh _ (Bi hb e)))).2.1
    cases f with
    | next => obtain ⟨σ7, H7, I7, n7⟩ := q7; exact again I7 n7
    | cont => obtain ⟨σ7, H7, I7, n7⟩ := q7; exact again I7 n7
    | brk => obtain ⟨σ7, H7, I7, q7⟩ := q7; exact ⟨σ7, H7, I7.unpinned, q7⟩
    | ret v => obtain ⟨x7, σ7, H7, I7, r7, q7⟩ := q7; exact ⟨x7, σ7, H7, I7.unpinned, r7, q7⟩
abbrev R2:=V->V->Hp->VK->Prop
def Cf(X:Cx)(f:ah->ah->Sem ah)(r:R2):Prop:=
 ∀(pins:List (aj×Obj)) (s:am) (σ:St) (H:Hp) (x y:V) (v u:ah) (Q:VK),Inv X pins σ H s->Zy x v->Zy y u->r x y H Q->
  bg (b4 X.prog X.w) X.A (f v u) (EP X pins σ Q) X.xe s
def UnR(X:Cx)(f:ah->Sem ah)(r:V->Hp->VK->Prop):Prop:=
 ∀(pins:List (aj×Obj)) (s:am) (σ:St) (H:Hp) (x:V) (v:ah) (Q:VK),Inv X pins σ H s->Zy x v->r x H Q->
  bg (b4 X.prog X.w) X.A (f v) (EP X pins σ Q) X.xe s
def Jo(X:Cx)(f:ah)(r:List V->Hp->VK->Prop):Prop:=
 ∀(pins:List (aj×Obj)) (s:am) (σ:St) (H:Hp) (xs:List V) (us:List ah) (Q:VK),Inv X pins σ H s->Z2 xs us->r xs H Q->
  bg (b4 X.prog X.w) X.A (call f us) (EP X pins σ Q) X.xe s
def Zzj(X:Cx)(r:V->Hp->(Bool->Hp->Prop)->Prop):Prop:=
 ∀(pins:List (aj×Obj)) (s:am) (σ:St) (H:Hp) (x:V) (v:ah) (Q:Bool->Hp->Prop),Inv X pins σ H s->Zy x v->r x H Q->
  bg (b4 X.prog X.w) X.A (truthy v) (TP X pins σ Q) X.xe s
def tOp(r:R2)(ta tb:TE):TE:=λσ H Q=>ta σ H λx H1=>tb σ H1 λy H2=>r x y H2 Q
def tUn(r:V->Hp->VK->Prop)(ta:TE):TE:=λσ H Q=>ta σ H λx H1=>r x H1 Q
def rI(C:Int->Int->Prop)(g:Int->Int->V):R2:=λx y H Q=>∃i j,x= .int i/\y= .int j/\C i j/\Q (g i j) H
def rI0(g:Int->Int->V):R2:=λx y H Q=>∃i j,x= .int i/\y= .int j/\Q (g i j) H
def rU(g:Int->V):V->Hp->VK->Prop:=λx H Q=>∃i,x= .int i/\Q (g i) H
theorem Zl5(ha:PE X a ta)(hb:PE X b tb){σ:St}{R:V->V->Hp->Prop}(I:Inv X pins σ H s)(h:ta σ H λx H1=>tb σ H1 λy H2=>R x y H2){f:ah->ah->Sem ah}(hf:∀v u s2 x y H2,Inv X pins σ H2 s2->Zy x v->Zy y u->R x y H2->bg (b4 X.prog X.w) X.A (f v u) Q X.xe s2):
  bg (b4 X.prog X.w) X.A (gp a X.env) (λv s₁=>bg (b4 X.prog X.w) X.A (gp b X.env) (λu s₂=>bg (b4 X.prog X.w) X.A (f v u) Q X.xe s₂) X.xe s₁) X.xe s:=by
 refine Wp (ha pins s σ H _ I h) λv s1 zq9=>?_;obtain⟨x,H1,I1,r1,q1⟩:=zq9;refine Wp (hb pins s1 σ H1 _ I1 q1) λu s2 zq9=>?_;obtain⟨y,H2,I2,r2,q2⟩:=zq9;exact hf v u s2 x y H2 I2 r1 r2 q2
theorem Zpd(ho:Cf X (binaryOp op) r)(ha:PE X a ta)(hb:PE X b tb):PE X (.BinOp a op b pos) (tOp r ta tb):=by intro pins s σ H Q I h;exact wpAny_BinOp (Zl5 ha hb I h λv u s2 x y H2 I2 rx ry q=>ho pins s2 σ H2 x y v u Q I2 rx ry q)
theorem opI{g:Int->Int->Int}(rule:∀i j t u s Q E,C i j->Q (.int (g i j) s.toks) {s with toks:=s.toks+1}->bg (b4 X.prog X.w) X.A (f (.int i t) (.int j u)) Q E s):
  Cf X f (rI C λi j=>.int (g i j)):=by
 intro pins s σ H x y v u Q I rx ry h;obtain⟨i,j,rfl,rfl,hc,q⟩:=h;obtain⟨t,rfl⟩:=rx;obtain⟨t',rfl⟩:=ry;exact rule i j t t' s _ _ hc ⟨.int (g i j),H,I.tok _,⟨_,rfl⟩,q⟩
theorem Zue{g:Int->Int->Int}(rule:∀i j t u s Q E,Q (.int (g i j) s.toks) {s with toks:=s.toks+1}->bg (b4 X.prog X.w) X.A (f (.int i t) (.int j u)) Q E s):
  Cf X f (rI0 λi j=>.int (g i j)):=by
 intro pins s σ H x y v u Q I rx ry h;obtain⟨i,j,rfl,rfl,q⟩:=h;obtain⟨t,rfl⟩:=rx;obtain⟨t',rfl⟩:=ry;exact rule i j t t' s _ _ ⟨.int (g i j),H,I.tok _,⟨_,rfl⟩,q⟩
theorem Zpe{g:Int->Int->Bool}(rule:∀i j t u s Q E,Q (.bool (g i j)) s->bg (b4 X.prog X.w) X.A (f (.int i t) (.int j u)) Q E s):
  Cf X f (rI0 λi j=>.bl (g i j)):=by
 intro pins s σ H x y v u Q I rx ry h;obtain⟨i,j,rfl,rfl,q⟩:=h;obtain⟨t,rfl⟩:=rx;obtain⟨t',rfl⟩:=ry;exact rule i j t t' s _ _ ⟨.bl (g i j),H,I,rfl,q⟩
def Zpf(i j:Int):Prop:=0<j/\j<1073741824
def Zxe(i j:Int):Prop:=j≠0/\j.natAbs<1073741824
def Zzk(i j:Int):Prop:=0<=j/\j<=1000000/\i.natAbs<2^64
def Zc9(i j:Int):Prop:=(-(2^64)<i/\i<2^64)\/(-(2^64)<j/\j<2^64)
theorem Zc9.ok(h:Zc9 i j):IntMulOk i j:=by
 rcases h with⟨h1,h2⟩|⟨h1,h2⟩
 .exact .of_left (intBits_le_64 h1 h2)
 .exact .of_right (intBits_le_64 h1 h2)
theorem Zl6:Cf X (binaryOp .Add) (rI0 λi j=>.int (i+j)):=Zue λ_ _ _ _ _ _ _ q=>add_int q
theorem Zl7:Cf X (binaryOp .Mult) (rI Zc9 λi j=>.int (i*j)):=opI λ_ _ _ _ _ _ _ hc q=>mul_int q hc.ok
theorem Zhk:Cf X (binaryOp .FloorDiv) (rI Zpf λi j=>.int (i / j)):=opI λi j _ _ _ _ _ hc q=>by have h1:(0:Int)<j:=hc.1;have h2:j<1073741824:=hc.2;exact floordiv_int (by omega) (by rw[Int.fdiv_eq_ediv_of_nonneg i (by omega)];exact q) (.inl (PyProof.noPylong_small (by omega)))
theorem Zl8:Cf X (binaryOp .Mod) (rI (λ_ j=>0<j) λi j=>.int (i % j)):=opI λi j _ _ _ _ _ hc q=>by have h1:(0:Int)<j:=hc;exact mod_int' (by omega) (by rw[Int.fmod_eq_emod_of_nonneg i (by omega)];exact q)
noncomputable def scal:V->V->Bool
 | .non,.non=>aC| .non,.int _=>aC| .int _,.non=>aC| .non,.bl _=>aC| .bl _,.non=>aC| .non,.str _=>aC| .str _,.non=>aC
 | .int _,.int _=>aC| .bl _,.bl _=>aC| .str _,.str _=>aC| .byt _,.byt _=>aC
 | .int _,.str _=>aC| .str _,.int _=>aC| .bl _,.str _=>aC| .str _,.bl _=>aC
 |_,_=>aD
def rEq:R2:=λx y H Q=>scal x y=aC/\Q (.bl (decide (x=y))) H
def rNe:R2:=λx y H Q=>scal x y=aC/\Q (.bl (!decide (x=y))) H
theorem Hv:decide (V.int i=V.int j)=(i==j):=by rw[Bool.eq_iff_iff];simp
theorem Zda:decide (V.bl i=V.bl j)=(i==j):=by rw[Bool.eq_iff_iff];simp
theorem Hw:decide (V.str i=V.str j)=(i==j):=by rw[Bool.eq_iff_iff];simp
theorem Hx:decide (V.byt i=V.byt j)=(i.toList==j.toList):=by rw[Bool.eq_iff_iff];cases i;cases j;simp
theorem Yg{σ:St}(I:Inv X pins σ H s)(q:Q (.bl k) H)(e:k=k'):EP X pins σ Q (.bool k') s:=by subst e;exact⟨.bl k,H,I,rfl,q⟩
theorem Zj7:Cf X (g9 .Eq) rEq:=by
 intro pins s σ H x y v u Q I rx ry h;obtain⟨hs,q⟩:=h;cases x with
 |non=>
  cases rx;cases y with
  |non=>cases ry;exact PySem.EqNone.eq_none_none (Yg I q (by simp))
  |bl j=>cases ry;exact PySem.EqNone.eq_none_bool (Yg I q (by simp))
  |int j=>obtain⟨t',rfl⟩:=ry;exact PySem.EqNone.eq_none_int (Yg I q (by simp))
  |str j=>obtain⟨t',rfl⟩:=ry;exact PySem.EqNone.eq_none_str (Yg I q (by simp))
  |_=>exact absurd (show aD=aC from hs) bv
 |bl i=>
  cases rx;cases y with
  |non=>cases ry;exact PySem.EqNone.eq_bool_none (Yg I q (by simp))
  |bl j=>cases ry;exact eq_bool (Yg I q Zda)
  |str j=>obtain⟨t',rfl⟩:=ry;exact PySem.EqMixed.eq_bool_str (Yg I q (by simp))
  |_=>exact absurd (show aD=aC from hs) bv
 |int i=>
  obtain⟨t,rfl⟩:=rx;cases y with
  |non=>cases ry;exact PySem.EqNone.eq_int_none (Yg I q (by simp))
  |int j=>obtain⟨t',rfl⟩:=ry;exact eq_int (Yg I q Hv)
  |str j=>obtain⟨t',rfl⟩:=ry;exact PySem.EqMixed.eq_int_str (Yg I q (by simp))
  |_=>exact absurd (show aD=aC from hs) bv
 |str i=>
  obtain⟨t,rfl⟩:=rx;cases y with
  |non=>cases ry;exact PySem.EqNone.eq_str_none (Yg I q (by simp))
  |bl j=>cases ry;exact PySem.EqMixed.eq_str_bool (Yg I q (by simp))
  |int j=>obtain⟨t',rfl⟩:=ry;exact PySem.EqMixed.eq_str_int (Yg I q (by simp))
  |str j=>obtain⟨t',rfl⟩:=ry;exact eq_str (Yg I q Hw)
  |_=>exact absurd (show aD=aC from hs) bv
 |byt i=>
  obtain⟨t,rfl⟩:=rx;cases y with
  |byt j=>obtain⟨t',rfl⟩:=ry;exact PySem.W.eq_bytes (Yg I q Hx)
  |_=>exact absurd (show aD=aC from hs) bv
 |_=>cases y<;> exact absurd (show aD=aC from hs) bv
theorem Zpg:Cf X (g9 .NotEq) rNe:=by
 intro pins s σ H x y v u Q I rx ry h;obtain⟨hs,q⟩:=h;cases x with
 |non=>
  cases rx;cases y with
  |non=>cases ry;exact PySem.EqNone.ne_none_none (Yg I q (by simp))
  |bl j=>cases ry;exact PySem.EqNone.ne_none_bool (Yg I q (by simp))
  |int j=>obtain⟨t',rfl⟩:=ry;exact PySem.EqNone.ne_none_int (Yg I q (by simp))
  |str j=>obtain⟨t',rfl⟩:=ry;exact PySem.EqNone.ne_none_str (Yg I q (by simp))
  |_=>exact absurd (show aD=aC from hs) bv
 |bl i=>
  cases rx;cases y with
  |non=>cases ry;exact PySem.EqNone.ne_bool_none (Yg I q (by simp))
  |bl j=>cases ry;exact ne_bool (Yg I q (congrArg not Zda))
  |str j=>obtain⟨t',rfl⟩:=ry;exact PySem.EqMixed.ne_bool_str (Yg I q (by simp))
  |_=>exact absurd (show aD=aC from hs) bv
 |int i=>
  obtain⟨t,rfl⟩:=rx;cases y with
  |non=>cases ry;exact PySem.EqNone.ne_int_none (Yg I q (by simp))
  |int j=>obtain⟨t',rfl⟩:=ry;exact ne_int (Yg I q (congrArg not Hv))
  |str j=>obtain⟨t',rfl⟩:=ry;exact PySem.EqMixed.ne_int_str (Yg I q (by simp))
  |_=>exact absurd (show aD=aC from hs) bv
 |str i=>
  obtain⟨t,rfl⟩:=rx;cases y with
  |non=>cases ry;exact PySem.EqNone.ne_str_none (Yg I q (by simp))
  |bl j=>cases ry;exact PySem.EqMixed.ne_str_bool (Yg I q (by simp))
  |int j=>obtain⟨t',rfl⟩:=ry;exact PySem.EqMixed.ne_str_int (Yg I q (by simp))
  |str j=>obtain⟨t',rfl⟩:=ry;exact ne_str (Yg I q (congrArg not Hw))
  |_=>exact absurd (show aD=aC from hs) bv
 |byt i=>
  obtain⟨t,rfl⟩:=rx;cases y with
  |byt j=>obtain⟨t',rfl⟩:=ry;exact PySem.W.ne_bytes (Yg I q (congrArg not Hx))
  |_=>exact absurd (show aD=aC from hs) bv
 |_=>cases y<;> exact absurd (show aD=aC from hs) bv
theorem Zph:Cf X (g9 .Lt) (rI0 λi j=>.bl (decide (i<j))):=Zpe λ_ _ _ _ _ _ _ q=>lt_int q
theorem Zpi:Cf X (g9 .Gt) (rI0 λi j=>.bl (decide (j<i))):=Zpe λ_ _ _ _ _ _ _ q=>gt_int q
theorem Zbe:Cf X (g9 .In) (λx y H Q=>∃i j,x= .str i/\y= .str j/\Q (.bl (!(dj j i 0 j.length 1).isEmpty)) H):=by intro pins s σ H x y v u Q I rx ry h;obtain⟨i,j,rfl,rfl,q⟩:=h;obtain⟨t,rfl⟩:=rx;obtain⟨t',rfl⟩:=ry;exact in_str (Yg I q rfl)
noncomputable def Zxf:HO->Bool
 | .lst _=>aC
 | .ins _ _ _=>aC
 |_=>aD
theorem Cf.or(h:Cf X f r)(h':Cf X f r'):Cf X f (λx y H Q=>r x y H Q\/r' x y H Q):=by
 intro pins s σ H x y v u Q I rx ry q;rcases q with q|q
 .exact h pins s σ H x y v u Q I rx ry q
 .exact h' pins s σ H x y v u Q I rx ry q
theorem Ad(b)(h:op≠.In:=by decide)(h2:op≠.NotIn:=by decide):behindInMarks op b=aD:=by
 have e1:(op==CmpOp.In)=aD:=by cases op<;> first|rfl|exact absurd rfl h
 have e2:(op==CmpOp.NotIn)=aD:=by cases op<;> first|rfl|exact absurd rfl h2
 cases b<;> simp[behindInMarks,e1,e2]
theorem Zhl(ho:Cf X (g9 op) r)(ha:PE X a ta)(hb:PE X b tb)(hm:behindInMarks op b=aD):PE X (.Compare a [op] [b] pos) (tOp r ta tb):=by intro pins s σ H Q I h;exact wpAny_Compare1 (Zl5 ha hb I h λv u s2 x y H2 I2 rx ry q=>ho pins s2 σ H2 x y v u Q I2 rx ry q) hm
def Zj8(t:TE):TT:=λσ H Q=>t σ H λx H'=>∃k,x= .bl k/\Q k H'
theorem Zhm(ho:Cf X (g9 op) r)(ha:PE X a ta)(hb:PE X b tb)(hm:behindInMarks op b=aD):PT X (.Compare a [op] [b] pos) (Zj8 (tOp r ta tb)):=by
 intro pins s σ H Q I h;refine wpAny_isTrue_Compare1 (Wp (ha pins s σ H _ I h) λv s1 ⟨x,H1,I1,r1,q1⟩=>Wp (hb pins s1 σ H1 _ I1 q1) λu s2 ⟨y,H2,I2,r2,q2⟩=>
  Wp (ho pins s2 σ H2 x y v u _ I2 r1 r2 q2) λc s3 ⟨z,H3,I3,r3,k,e,q3⟩=>?_) hm
 subst e;cases r3;exact wpAny_truthy_bool ⟨H3,I3,q3⟩
def Zuh(r r':R2)(ta tb tc:TE):TE:=λσ H Q=>ta σ H λx H1=>tb σ H1 λy H2=>r x y H2 λz H3=>∃k,z= .bl k/\
 (if k=aC then tc σ H3 λw' H4=>r' y w' H4 Q else Q (.bl aD) H3)
def Zzl(K:ad)(x:V)(H:Hp)(k:Bool):Prop:=
 match x with
 | .non=>k=aD
 | .bl b=>k=b
 | .int i=>k=(i !=0)
 | .str y=>y.length<=sizeLine/\k=((y.length:Int) !=0)
 | .byt y=>y.size<=sizeLine/\k=((y.size:Int) !=0)
 | .ref p=>(∃xs,W5 K H p xs/\k= !xs.isEmpty)\/(∃xs,Ob K H p xs/\k= !xs.isEmpty)\/∃kvs,HK H p kvs/\k= !kvs.isEmpty
 |_=>False
theorem Mf:(sizeLine:Nat)<2^63:=by rw[fu];decide
theorem V0:Cf X (binaryOp .Add) (λx y H Q=>∃i j,x= .str i/\y= .str j/\i.length+j.length<=sizeLine/\Q (.str (i++j)) H):=by intro pins s σ H x y v u Q I rx ry h;obtain⟨i,j,rfl,rfl,hz,q⟩:=h;obtain⟨t,rfl⟩:=rx;obtain⟨t',rfl⟩:=ry;exact add_str (λt' tk=>⟨.str (i++j),H,I.tok _,⟨_,rfl⟩,q⟩) hz
def Zpj(b:cj):Prop:=∀o i,subscripted b aD o i=operate [o,i] (getItem o i)
theorem Oc(r:Z2 [x] us):∃u,us=[u]/\Zy x u:=by
 cases r with
 |cons r1 r2=>cases r2;exact⟨_,rfl,r1⟩
theorem Zbf:Jo X (.type "int") (λxs H Q=>(∃i,xs=[.int i]/\Q (.int i) H)\/∃k,xs=[.bl k]/\Q (.int (if k then 1 else 0)) H):=by
 intro pins s σ H xs us Q I r h;rcases h with⟨i,rfl,q⟩|⟨k,rfl,q⟩
 .obtain⟨u,rfl,t,rfl⟩:=Oc r;exact call_int_int ⟨.int i,H,I,⟨_,rfl⟩,q⟩
 .obtain⟨u,rfl,r1⟩:=Oc r;cases r1;exact call_int_bool ⟨.int (if k then 1 else 0),H,I.tok _,⟨_,rfl⟩,q⟩
theorem Lm:Jo X (.type "str") (λxs H Q=>∃i,xs=[.int i]/\i.natAbs.log2<1920/\Q (.str (toString i)) H):=by intro pins s σ H xs us Q I r h;obtain⟨i,rfl,hz,q⟩:=h;obtain⟨u,rfl,t,rfl⟩:=Oc r;exact PySem.P.str_of_int hz ⟨.str _,H,I.tok _,⟨_,rfl⟩,q⟩
def Zzm(K:ad)(x:V)(H:Hp)(n:Nat):Prop:=
 match x with
 | .str y=>y.length<=sizeLine/\n=y.length
 | .byt y=>y.size<=sizeLine/\n=y.size
 | .ref p=>(∃xs,W5 K H p xs/\n=xs.length)\/∃xs,Ob K H p xs/\n=xs.length
 |_=>False
structure ObjM(h:d6)(x dx C:aj)(mA:Str->Option ah):Prop where
 obj:h.get? x=aA (PySem.W.instObj C dx)
 ns:h.Ns1 dx mA
 ne:dx≠x
noncomputable def Ir(f:Str)(v:V):List (Str×V)->List (Str×V)
  | []=>[(f,v)]
  | (g,x)::r=>if g=f then(g,v)::r else(g,x)::Ir f v r
theorem Ti.some_of(r:Ti (aA v) o):∃u,o=aA u/\Zy v u:=by
 cases o with
 |none=>exact(show False from r).elim
 |some u=>exact⟨u,rfl,r⟩
structure Cls(K:ad)(C:aj):Prop where
 pg:PySem.W.plainGet K C Str.empty=aC
 hd:PySem.W.hasDictIn K C=aC
 po:PySem.W.plainOver K C=aC
 sa:PySem.W.findIn K (.ref C) "__setattr__"=aA (aA (.builtin "object.__setattr__"))
def V2(K:ad)(C:aj)(f:Str):Prop:=PySem.W.findIn K (.ref C) f=aA aB
structure Con(K:ad)(C:aj)(f:Str)(v:V)(u:ah):Prop where
 at_:PySem.W.findIn K (.ref C) f=aA (aA u)
 rel:Zy v u
 get:PySem.W.specialIn K u "__get__"=aA aB
 cp:PySem.W.copiedNames.contains f=aD
structure Meth(K:ad)(C:aj)(m:Str)(f:aj):Prop where
 at_:PySem.W.findIn K (.ref C) m=aA (aA (.ref f))
 fn:PySem.W.isFn K (.ref f)=aC
 kp:bu K (.ref f)=aC
def Zzn(K:ad)(ta:TE)(f:Str):TE:=λσ H Q=>ta σ H λx H1=>∃a C dx fs v,x= .ref a/\H1 a=aA (.ins C dx fs)/\Cls K C/\V2 K C f/\fs.lookup f=aA v/\Q v H1
def Zzo(K:ad)(ta:TE)(f:Str):TE:=λσ H Q=>ta σ H λx H1=>∃a C dx fs v u,x= .ref a/\H1 a=aA (.ins C dx fs)/\Cls K C/\Con K C f v u/\fs.lookup f=aB/\Q v H1
def Zzp(K:ad)(ta tv:TE)(f:Str):TS:=λD σ H=>tv σ H λy H1=>ta σ H1 λx H2=>∃a C dx fs,x= .ref a/\H2 a=aA (.ins C dx fs)/\Cls K C/\V2 K C f/\fs.length<1000/\
 D.nx σ (Z9 H2 a (.ins C dx (Ir f y fs)))
def Zzq(X:Cx)(op:Operator)(rd:V->V->Hp->VK->Prop):Prop:=
 ∀(pins:List (aj×Obj)) (s:am) (σ:St) (H:Hp) (x y:V) (u v:ah) (Q:VK),Inv X pins σ H s->Zy x u->Zy y v->rd x y H Q->bg (b4 X.prog X.w) X.A (inplaceOp op u v) (EP X pins σ Q) X.xe s
def Zsx(K:ad)(ta tv:TE)(rd:V->V->Hp->VK->Prop)(f:Str):TS:=λD σ H=>ta σ H λx H1=>∃a C dx fs v,x= .ref a/\H1 a=aA (.ins C dx fs)/\Cls K C/\V2 K C f/\fs.lookup f=aA v/\
 tv σ H1 λy H2=>rd v y H2 λz H3=>∃dx' fs',H3 a=aA (.ins C dx' fs')/\fs'.length<1000/\D.nx σ (Z9 H3 a (.ins C dx' (Ir f z fs')))
def Zzr:V->V->Hp->VK->Prop:=λx y H Q=>∃i j,x= .int i/\y= .int j/\Q (.int (i+j)) H
def Zzs:V->V->Hp->VK->Prop:=λx y H Q=>∃i j,x= .int i/\y= .int j/\Q (.int (i- j)) H
section
variable{H:Hp}
inductive TyOf(K:ad)(H:Hp):V->ah->Prop where
 |non:TyOf K H .non (.type "NoneType")
 |bl (x:Bool):TyOf K H (.bl x) (.type "bool")
 |int (i:Int):TyOf K H (.int i) (.type "int")
 |str (x:Str):TyOf K H (.str x) (.type "str")
 |flt (x:UInt64):TyOf K H (.flt x) (.type "float")
 |lst {a:aj} {xs:List V} (e:H a=aA (.lst xs)):TyOf K H (.ref a) (.type "list")
 |frz {a:aj} {o:Obj} {xs:List V} (e:H a=aA (.frz o (.lst xs))):TyOf K H (.ref a) (.type "list")
 |tup {a:aj} {xs:List V} (e:H a=aA (.tup xs)):TyOf K H (.ref a) (.type "tuple")
 |dK {a:aj} {kvs:List (Key×V)} {ep:Nat} (e:H a=aA (.dK kvs ep)):TyOf K H (.ref a) (.type "dict")
 |dT {a:aj} {kvs:List (List Key×V)} {ep:Nat} {bs:List aj} (e:H a=aA (.dT kvs ep bs)):TyOf K H (.ref a) (.type "dict")
 |ins {a C dx:aj} {fs:List (Str×V)} (e:H a=aA (.ins C dx fs)) (cl:Cls K C) (ha:PySem.W.findIn K (.ref C) "__class__"=aA (aA (.builtin "object.__class__")))
   (hn:PySem.W.specialIn K (.builtin "object.__class__") "__get__"=aA (aA (.builtin "getset_descriptor.__get__"))) (htk:PySem.W.takesIn K (.builtin "object.__class__")=aA aC)
   (hm:PySem.W.mroIn K C (.type "object")=aA aC):TyOf K H (.ref a) (.ref C)
end
structure Room(k:Nat)(A:dh):Prop where
 hd:A.handled=aB
 dp:A.depth+3*k+5<recursionLimit
 un:A.units+16*k+200<f6
theorem Room.mono(r:Room k A)(h:j<=k):Room j A:=⟨r.hd,by have:=r.dp;omega,by have:=r.un;omega⟩
theorem Room.deeper(r:Room (k+1) A)(env):Room k (A.deeper env):=
 ⟨r.hd,by have:=r.dp;show A.depth+1+3*k+5<_;omega,by have:=r.un;show A.units+3+16*k+200<_;omega⟩
theorem Room.depth(r:Room k A):A.depth<recursionLimit:=by have:=r.dp;omega
theorem Room.units(r:Room k A):A.units+64<cLine:=by have:=r.un;omega
def Pq:TA:=λ_ H Q=>Q [] H
def Rm(ta:TE)(tr:TA):TA:=λσ H Q=>ta σ H λx H1=>tr σ H1 λxs H2=>Q (x::xs) H2
theorem Bj:PA X [] Pq:=λ_ _ _ _ H Q I h=>Calls.spliced_nil ⟨[],H,I,.nil,h⟩
theorem Jf(ha:PE X e te)(hr:PA X es t)(hs:a9 (e::es) X.env=(aD,gp e X.env)::a9 es X.env:=by rfl):PA X (e::es) (Rm te t):=by intro pos pins s σ H Q I h;rw[hs];show bg _ _ (spliced ((aD,gp e X.env)::gq pos (a9 es X.env))) _ _ s;refine Calls.spliced_cons (Wp (ha pins s σ H _ I h) λu s1 zq9=>?_);obtain⟨x,H1,I1,r1,q1⟩:=zq9;exact Wp (hr pos pins s1 σ H1 _ I1 q1) λus s2 ⟨xs,H2,I2,r2,q2⟩=>⟨x::xs,H2,I2,.cons r1 r2,q2⟩
def Zpk(t:TA):TE:=λσ H Q=>t σ H λxs H1=>xs.length<=sizeLine/\∀p,H1 p=aB->Q (.ref p) (Z9 H1 p (.tup xs))
def Zhn(t:TA):TE:=λσ H Q=>t σ H λxs H1=>xs.length<=sizeLine/\∀p,H1 p=aB->Q (.ref p) (Z9 H1 p (.lst xs))
theorem Zl9 (h:PA X es t):PE X (.Tuple es x1 pos) (Zpk t):=by intro pins s σ H Q I hq;refine wpAny_Tuple_spliced (Wp (h pos pins s σ H _ I hq) λus s1 ⟨xs,H1,I1,r,z,q⟩=>⟨by rw[<-r.length];exact z,?_⟩);have hf:H1 s1.heap.objs.size=aB:=I1.hok.fresh (ba _);refine⟨.ref s1.heap.objs.size,Z9 H1 s1.heap.objs.size (.tup xs),I1.laid (t':=s1.toks) (λb u e=>au _ e) (ba _) ?_,rfl,q _ hf⟩;exact⟨z,us,r,⟨_,bp _ rfl,rfl,_,rfl⟩⟩
theorem Ln(h:PA X es t):PE X (.List es pos) (Zhn t):=by intro pins s σ H Q I hq;refine wpAny_List_spliced (Wp (h pos pins s σ H _ I hq) λus s1 ⟨xs,H1,I1,r,z,q⟩=>⟨by rw[<-r.length];exact z,?_⟩);have hf:H1 s1.heap.objs.size=aB:=I1.hok.fresh (ba _);refine⟨.ref s1.heap.objs.size,Z9 H1 s1.heap.objs.size (.lst xs),I1.laid (t':=s1.toks) (λb u e=>au _ e) (ba _) ?_,rfl,q _ hf⟩;exact⟨z,us,0,r,bp _ rfl⟩
abbrev Sp:=List V->Hp->VK->XK->Prop
abbrev CXT:=List Env->Hp->am->XK->ah->am->Prop
structure Env0(P:b6)(w:c7)(K:ad)(mg:Str->Option ah)(base:d6)(A:dh)(outer:List Env)(s:am)(H:Hp):Prop where
 frames:A.frames=aA outer
 mod:Mod K mg base
 bs:∀b o,base.get? b=aA o->s.heap.get? b=aA o/\H b=aB
 bsz:base.objs.size<=s.heap.objs.size
 funs:s.heap.FunFrames base outer
 frf:∀b∈frs outer,H b=aB
 hok:Go P w H s.heap
 bare:AllBare s.gens
def CE(outer:List Env)(P:b6)(w:c7)(H:Hp)(s:am)(Q:VK)(u:ah)(s':am):Prop:=
 ∃v H',s'.os=s.os/\AllBare s'.gens/\Un (frs outer) [] H H' s.heap s'.heap/\Go P w H' s'.heap/\Zy v u/\Q v H'
def CR(CX:CXT)(outer:List Env)(P:b6)(w:c7)(H:Hp)(s:am)(Q:VK)(E:XK)(r:Result)(s':am):Prop:=
 match r with
 | .ok (.ret u)=>CE outer P w H s Q u s'
 | .ok _=>False
 | .error e=>CX outer H s E e s'
structure FnOk(P:b6)(w:c7)(K:ad)(mg:Str->Option ah)(base:d6)(CX:CXT)(k:Nat)(f:aj)(fd:ci)(ps:List Str)(sp:Sp):Prop where
 len:∀vs H Q E,sp vs H Q E->vs.length=ps.length
 run:∀(A:dh) (outer:List Env) (s:am) (H:Hp) (args:Args) (us:List ah) (vs:List V) (Q:VK) (E:XK),Room k A->Env0 P w K mg base A outer s H->BindsTo s fd args (ps.zip us)->Z2 vs us->sp vs H Q E->
  codeAny (b4 P w) A (.call (.ref f) args) (CR CX outer P w H s Q E) s
section
variable{X:Cx}{pins:List (aj×Obj)}{σ:St}{H:Hp}{s s':am}
theorem Inv.env0(I:Inv X pins σ H s):Env0 X.prog X.w X.K X.mg X.base X.A X.stack s H:=
 ⟨I.ok.frames,I.ok.mod,I.bs,dk I.ok.bsz I.sz,I.stack,I.stkFree,I.hok,I.bare⟩
theorem Inv.after(I:Inv X pins σ H s)(h:CE X.stack X.prog X.w H s Q u s'):EP X pins σ Q u s':=by obtain⟨v,H',os,bare,un,hok,r,q⟩:=h;obtain⟨hh,g,d,t,os'⟩:=s';obtain rfl:os'=s.os:=os;exact⟨v,H',I.call (h':=hh) (g':=g) (d':=d) (t':=t) (ch:=[]) un hok bare (λb z=>absurd z (by simp)),r,q⟩
end
def Zj9(sp:Sp)(dvs:List V)(E:XK)(t:TA):TE:=λσ H Q=>t σ H λvs H1=>sp (vs++dvs) H1 Q E
def Zxg(C:aj)(m:Str)(sp:Sp)(dvs:List V)(E:XK)(ta:TE)(t:TA):TE:=λσ H Q=>ta σ H λx H1=>∃a dx fs,x= .ref a/\H1 a=aA (.ins C dx fs)/\fs.lookup m=aB/\
 t σ H1 λvs H2=>sp (x::(vs++dvs)) H2 Q E
def Zxh(C:aj)(sp:Sp)(dvs:List V)(E:XK)(t:TA):TE:=λσ H Q=>t σ H λvs H1=>∀x dx,H1 x=aB->H1 dx=aB->dx≠x->
 sp (.ref x::(vs++dvs)) (Z9 (Z9 H1 dx (.own x)) x (.ins C dx [])) (λv H2=>v= .non/\Q (.ref x) H2) E
def Wh(K:ad)(fd:ci)(ps:List Str)(ds:List ah):Prop:=
 ∀(s:am) (us:List ah),K.In s.heap->(us++ds).length=ps.length->BindsTo s fd ⟨us,[]⟩ (ps.zip (us++ds))
theorem Wh.all{K}(h:∀us,us.length=ps.length->bindArgs fd ⟨us,[]⟩=pure (ps.zip us)):Wh K fd ps []:=λs us _ hl=>by rw[List.append_nil]at hl⊢;exact .of_eq (h us hl)
def V3(CX:CXT)(X:Cx)(E:XK):Prop:=∀(pins:List (aj×Obj)) (σ:St) (H:Hp) (s:am) (e:ah) (s':am),Inv X pins σ H s->CX X.stack H s E e s'->X.xe e s'
section
variable{X:Cx}{CX:CXT}{k:Nat}{f C:aj}{fd:ci}{ps:List Str}{sp:Sp}{dvs:List V}{ds:List ah}{E:XK}{x m:Str}{p pos apos:Pos}{e o:cj}{es:List cj}{t:TA}
theorem Zma{σ:St}(F:FnOk X.prog X.w X.K X.mg X.base CX k f fd ps sp)(hr:Room k X.A)(hb:Wh X.K fd ps ds)(hd:Z2 dvs ds)(hx:V3 CX X E)(I:Inv X pins σ H s)(r:Z2 vs us)(h:sp (vs++dvs) H Q E):bg (b4 X.prog X.w) X.A (call (.ref f) us) (EP X pins σ Q) X.xe s:=by
 have r2:Z2 (vs++dvs) (us++ds):=r.append hd;have hl:(us++ds).length=ps.length:=by rw[<-r2.length];exact F.len _ _ _ _ h
 refine wpAny_call (codeAny_mono (F.run X.A X.stack s H ⟨us,[]⟩ (us++ds) (vs++dvs) Q E hr I.env0 (hb s us I.kIn hl) r2 h) λr s' hq=>?_);cases r with
 |error e=>exact hx pins σ H s e s' I hq
 |ok fl=>
  cases fl with
  |ret u=>exact I.after hq
  |next=>exact False.elim hq
  |brk=>exact False.elim hq
  |cont=>exact False.elim hq
theorem Zho(F:FnOk X.prog X.w X.K X.mg X.base CX k f fd ps sp)(hr:Room k X.A)(hg:Gl X x)(hm:X.mg x=aA (.ref f))(hk:bu X.K (.ref f)=aC)(hb:Wh X.K fd ps ds)(hd:Z2 dvs ds)(hx:V3 CX X E)(ha:PA X (e::es) t)(hdb:(x==("__debug__":Str))=aD:=by decide)(he:a9 (e::es) X.env=(aD,gp e X.env)::a9 es X.env:=by rfl)(hpl:(gq pos (a9 es X.env)).any (·.1)=aD:=by rfl):
  PE X (.Call (.Name x p) (e::es) [] pos) (Zj9 sp dvs E t):=by
 intro pins s σ H Q I h;refine wpAny_Call_Name_kw (Zhc I hg hm ?_ hdb);refine PySem.W.callWith_K (h₀:=X.base) I.ok.mod.kin hk (Wp (ha pos pins s σ H _ I h) λus s1 ⟨vs,H1,I1,r,q⟩=>⟨I1.kIn,?_⟩) he hpl;exact Zma F hr hb hd hx I1 r q
structure Mk(K:ad)(C f:aj):Prop where
 makes:PySem.W.makesIn K C=aC
 init:PySem.W.findIn K (.ref C) "__init__"=aA (aA (.ref f))
 fn:PySem.W.isFn K (.ref f)=aC
 kp:bu K (.ref C)=aC
end
def PK(X:Cx)(kws:List Keyword)(t:TA):Prop:=
 ∀(pos:Pos) (pins:List (aj×Obj)) (s:am) (σ:St) (H:Hp) (Q:List V->Hp->Prop),Inv X pins σ H s->t σ H Q->bg (b4 X.prog X.w) X.A (evalAll ((backToKw pos (keywordEach kws X.env)).map (·.2))) (AP X pins σ Q) X.xe s
section
variable{fd:ci}{ps ks:List Str}
structure KBinds(K:ad)(fd:ci)(ps ks:List Str)(g:List ah->List ah->List ah)(gV:List V->List V->List V):Prop where
 to:∀(s:am) (us ws:List ah),K.In s.heap->(g us ws).length=ps.length->BindsTo s fd ⟨us,ks.zip ws⟩ (ps.zip (g us ws))
 rel:∀{vs:List V} {us:List ah} {zs:List V} {ws:List ah},Z2 vs us->Z2 zs ws->Z2 (gV vs zs) (g us ws)
def Zui(sp:Sp)(gV:List V->List V->List V)(E:XK)(t tk:TA):TE:=λσ H Q=>t σ H λvs H1=>tk σ H1 λzs H2=>sp (gV vs zs) H2 Q E
end
structure FnScope(N P:List Str)(sc:Scope):Prop where
 kind:sc.kind= .function
 co:sc.isCoroutine=aD
 gen:sc.isGenerator=aD
 nd:N.Nodup
 pre:N.take P.length=P
 par:∀x∈P,sc.names.lookup x=aA .local\/sc.names.lookup x=aA .cell
 nofree:∀y∈sc.names,y.2≠.free
theorem Fm{kindOf}:∀{binds:List (Str×ah)} {m:Str->Option ah},(∀v,(x,v)∉binds)->bindL kindOf binds m x=m x
  | [],_,_=>rfl
  | (n,v)::r,m,h=>by
    unfold bindL;rw[Fm λw hw=>h w (ao _ hw)];split
    · have:x≠n:=by rintro rfl;exact h v af
      simp[this]
    · rfl
theorem Fn{kindOf}:∀{binds:List (Str×ah)} {m:Str->Option ah},(∀v,(x,v)∉binds)->bindC kindOf binds m x=m x
  | [],_,_=>rfl
  | (n,v)::r,m,h=>by
    unfold bindC;rw[Fn λw hw=>h w (ao _ hw)];split
    · rfl
    · have:x≠n:=by rintro rfl;exact h v af
      simp[this]
theorem Fo{kindOf}:∀{P:List Str} {vs:List ah} {i:Nat} {m:Str->Option ah},P.Nodup->P[i]? =aA x->vs[i]? =aA v->kindOf x=aA .local->
  bindL kindOf (P.zip vs) m x=aA v
 | [],_,_,_,_,h,_,_=>by simp at h
 |_::_,[],_,_,_,_,h,_=>by simp at h
 |p::P,w::vs,0,m,nd,h1,h2,hk=>by simp at h1 h2;subst h1;subst h2;show bindL kindOf ((p,w)::P.zip vs) m p=_;unfold bindL;rw[Fm λv hv=>(dm.mp nd).1 (List.of_mem_zip hv).1,if_pos hk];simp
 |p::P,w::vs,i+1,m,nd,h1,h2,hk=>by show bindL kindOf ((p,w)::P.zip vs) m x=_;unfold bindL;exact Fo (i:=i) (dm.mp nd).2 (by simpa using h1) (by simpa using h2) hk
theorem Fp{kindOf}:∀{P:List Str} {vs:List ah} {i:Nat} {m:Str->Option ah},P.Nodup->P[i]? =aA x->vs[i]? =aA v->kindOf x≠aA .local->
  bindC kindOf (P.zip vs) m x=aA v
 | [],_,_,_,_,h,_,_=>by simp at h
 |_::_,[],_,_,_,_,h,_=>by simp at h
 |p::P,w::vs,0,m,nd,h1,h2,hk=>by simp at h1 h2;subst h1;subst h2;show bindC kindOf ((p,w)::P.zip vs) m p=_;unfold bindC;rw[Fn λv hv=>(dm.mp nd).1 (List.of_mem_zip hv).1,if_neg hk];simp
 |p::P,w::vs,i+1,m,nd,h1,h2,hk=>by show bindC kindOf ((p,w)::P.zip vs) m x=_;unfold bindC;exact Fp (i:=i) (dm.mp nd).2 (by simpa using h1) (by simpa using h2) hk
def Ca(N:List Str)(vs:List V):St:=vs.map aA++dn (N.length- vs.length) aB
def V4(CX:CXT)(P:b6)(w:c7)(K:ad)(mg:Str->Option ah)(base:d6)(N:List Str)(qual:Str)(scope:Scope)(f:aj)(cd:ah)(A:dh)(outer:List Env)(s:am)(H:Hp)(E:XK):Cx where
 prog:=P
 w:=w
 K:=K
 mg:=mg
 base:=base
 A:=A.deeper (envOfC qual scope s.heap.objs.size f cd)
 N:=N
 s₀:=s
 H₀:=H
 env:=envOfC qual scope s.heap.objs.size f cd
 outer:=outer
 stack:=envOfC qual scope s.heap.objs.size f cd::outer
 ex:=[]
 calm:=aC
 fn:=λ_=>aC
 pn:=[]
 xe:=λe s'=>bg (b4 P w) (A.deeper (envOfC qual scope s.heap.objs.size f cd)) (leaving (envOfC qual scope s.heap.objs.size f cd) e) (λ_ s''=>CX outer H s E e s'') (λe' s''=>CX outer H s E e' s'') s'
theorem Pr{sc:Scope}(h:sc.names.lookup x=aA .cell):∃c,(cellsFrom n sc.names []).lookup x=aA c:=by have q:=PySem.W.cellsFrom_some sc.names n [] (.inl h);exact Option.isSome_iff_exists.mp q
theorem Zbh{K}(S:FnScope N ps scope)(hd:A.handled=aB)(e0:Env0 P w K mg base A outer s H)(hl:vs.length=ps.length)(r:Z2 vs us)(x:InCallC s s.heap.objs.size (bindL (envOfC qual scope s.heap.objs.size f cd).kindOf (ps.zip us) λ_=>aB) (cellsFrom (s.heap.objs.size+1) scope.names []) (bindC (envOfC qual scope s.heap.objs.size f cd).kindOf (ps.zip us) λ_=>aB) s1):
  Inv (V4 CX P w K mg base N qual scope f cd A outer s H E) [] (Ca N vs) H s1:=by
 have hpl:ps.length<=N.length:=by have:=congrArg List.length S.pre;rw[gv]at this;omega
 obtain⟨h1,tk,rfl,hk⟩:=x.done;have noA:∀b:aj,b∉(V4 CX P w K mg base N qual scope f cd A outer s H E).ex:=λb z=>absurd (show b∈([]:List aj)from z) (by simp);refine⟨⟨e0.mod,S.kind,rfl,rfl,ba _,λy z c h1 h2=>?_,λy hy=>?_,λy c _ h=>?_,λ_=>hd,Around.frames_deeper e0.frames,.inr ⟨rfl,rfl⟩,λb z=>absurd z (noA b),e0.bs,e0.bsz,λb _ _=>noA b,λb z=>absurd z (noA b),e0.funs,e0.frf⟩,
  rfl,e0.bare,Un.kept hk,⟨_,x.toInCall.ns,λi y v h1 h2 h3=>?_⟩,λy c h=>⟨_,x.cell y c h⟩,e0.hok.fresh (ba _),λy c h=>?_,λp hp=>absurd (show p∈([]:List (aj×Obj))from hp) (by simp),e0.hok.kept hk,?_⟩
 .exact name_of_addr x.apart (PySem.mem_of_lookup h1) (PySem.mem_of_lookup h2)
 .have hy:scope.names.lookup y=aA .cell\/scope.names.lookup y=aA .free:=hy;rcases hy with hy|hy
  .exact Pr hy
  .exact absurd rfl (S.nofree _ (PySem.mem_of_lookup hy))
 .exact Nat.le_of_lt (x.above y c (PySem.mem_of_lookup h))
 .have hi:i<vs.length:=by
   unfold Ca at h2;by_cases hi:i<vs.length
   .exact hi
   .rw[gh (by simpa using hi)]at h2;rw[List.getElem?_replicate]at h2;split at h2<;> cases h2
  have ha:vs[i]? =aA v:=by
   unfold Ca at h2;rw[dg (by simpa using hi),az]at h2;cases e:vs[i]? with
   |none=>rw[e]at h2;cases h2
   |some a=>rw[e]at h2;cases h2;rfl
  obtain⟨u,hu,rv⟩:=r.get ha;have hp:ps[i]? =aA y:=by rw[<-S.pre,List.getElem?_take_of_lt (by omega)];exact h1
  have ndP:ps.Nodup:=by rw[<-S.pre];exact S.nd.sublist (List.take_sublist _ _)
  refine⟨u,rv,?_⟩;rcases S.par y (b5 hp)with k|k
  .exact .inl ⟨k,Fo ndP hp hu k⟩
  .obtain⟨c,e⟩:=Pr (n:=s.heap.objs.size+1) k;refine .inr ⟨.inl k,c,e,?_⟩;have q:=x.cell y c e;rw[Fp ndP hp hu (by show scope.names.lookup y≠_;rw[k];decide)]at q;exact q
 .exact e0.hok.fresh (Nat.le_of_lt (x.above y c (PySem.mem_of_lookup h)))
 .unfold Ca;show _=N.length;rw[aw,aq,List.length_replicate];omega
theorem Zpl{K}{dV kV doc pm cdv ct oc}(lk:K.lookup f=aA ⟨oc,od,.func (PySem.W.fnOf name qual params body scope dV kV doc pm an cdv ct),osl⟩)(hcd:PySem.W.codeIn K cdv qual=aC)(S:FnScope N ps scope)(len:∀vs H Q E,sp vs H Q E->vs.length=ps.length)(hbody:∀A outer s H vs Q E,Room k (A.deeper (envOfC qual scope s.heap.objs.size f cdv))->sp vs H Q E->
   ∃t,Ta (V4 CX P w K mg base N qual scope f cdv A outer s H E) body t/\t {nx:=λ_ H'=>Q .non H',rt:=Q} (Ca N vs) H):
  FnOk P w K mg base CX (k+1) f (PySem.W.fnOf name qual params body scope dV kV doc pm an cdv ct) ps sp:=by
 refine⟨len,λA outer s H args us vs Q E hr e0 hb r hsp=>?_⟩;have hl:=len _ _ _ _ hsp;have KX:K.In s.heap:=e0.mod.kin.keeps λb o e=>(e0.bs b o e).1;have lim:s.heap.NoLimit:=e0.mod.nolimit.keeps λb o e=>(e0.bs b o e).1;have hkind:∀y∈ps.zip us,scope.names.lookup y.1=aA .local\/(scope.names.lookup y.1=aA .cell/\((cellsFrom (s.heap.objs.size+1) scope.names []).lookup y.1).isSome=aC):=λ⟨n,v⟩ hy=>by
  rcases S.par n (List.of_mem_zip hy).1 with q|q
  .exact .inl q
  .exact .inr ⟨q,PySem.W.cellsFrom_some _ _ _ (.inl q)⟩
 refine codeAny_call_function hr.depth (KX _ _ lk) rfl S.co S.gen rfl (PySem.W.codeRec_of KX hcd) (hb _ _ _ _ ?_);refine wpAny_newFunctionEnv_cells S.kind hkind λenv he s1 x=>?_;subst he;refine⟨lim.keeps x.toInCall.keep,codeAny_func ?_⟩;obtain⟨t,ht,hq⟩:=hbody A outer s H vs Q E (hr.deeper _) hsp;have I:Inv (V4 CX P w K mg base N qual scope f cdv A outer s H E) [] (Ca N vs) H s1:=Zbh S hr.hd e0 hl r x;refine wpAny_mono (ht [] s1 (Ca N vs) H _ I hq) (λfl s' hs=>?_) λe s' hs=>hs;have fin:∀{σ':St} {H':Hp} {v:V} {u:ah},Inv (V4 CX P w K mg base N qual scope f cdv A outer s H E) [] σ' H' s'->Zy v u->Q v H'->CE outer P w H s Q u s':=
  fun{σ' H' v u} J rv q=>⟨v,H',J.os,J.bare,J.base,J.hok,rv,q⟩
 cases fl with
 |ret u=>obtain⟨v,σ',H',J,rv,q⟩:=hs;exact fin J rv q
 |next=>obtain⟨σ',H',J,q⟩:=hs;exact fin (v:=V.non) (u:=ck) J rfl q
 |brk=>obtain⟨_,_,_,q⟩:=hs;exact False.elim q
 |cont=>obtain⟨_,_,_,q⟩:=hs;exact False.elim q
section
variable{X:Cx}{x:Str}{p pos:Pos}{e:cj}{es:List cj}{t:TA}{id T:String}{r:List V->Hp->VK->Prop}
def tCB(r:List V->Hp->VK->Prop)(t:TA):TE:=λσ H Q=>t σ H λvs H1=>r vs H1 Q
theorem Zdb(hc:Jo X (.builtin id) r)(hg:Gl X x)(hm:X.mg x=aB)(hv:bootBuiltins x=aA (.builtin id))(ha:PA X (e::es) t)(hn:x≠"__name__":=by decide)(hdb:(x==("__debug__":Str))=aD:=by decide)(he:a9 (e::es) X.env=(aD,gp e X.env)::a9 es X.env:=by rfl)(hpl:(gq pos (a9 es X.env)).any (·.1)=aD:=by rfl):PE X (.Call (.Name x p) (e::es) [] pos) (tCB r t):=by
 intro pins s σ H Q I h;refine wpAny_Call_Name_kw (Bh I hg hm hv ?_ hn hdb);exact PyProof.Rows.callWith_builtin1 (Wp (ha pos pins s σ H _ I h) λus s1 ⟨vs,H1,I1,r1,q1⟩=>hc pins s1 σ H1 vs us Q I1 r1 q1) he hpl
theorem Zbi(hc:Jo X (.type T) r)(hg:Gl X x)(hm:X.mg x=aB)(hv:bootBuiltins x=aA (.type T))(ha:PA X (e::es) t)(hn:x≠"__name__":=by decide)(hdb:(x==("__debug__":Str))=aD:=by decide)(he:a9 (e::es) X.env=(aD,gp e X.env)::a9 es X.env:=by rfl)(hpl:(gq pos (a9 es X.env)).any (·.1)=aD:=by rfl):PE X (.Call (.Name x p) (e::es) [] pos) (tCB r t):=by
 intro pins s σ H Q I h;refine wpAny_Call_Name_kw (Bh I hg hm hv ?_ hn hdb);exact PyProof.Rows.callWith_type1 (Wp (ha pos pins s σ H _ I h) λus s1 ⟨vs,H1,I1,r1,q1⟩=>hc pins s1 σ H1 vs us Q I1 r1 q1) he hpl
end
end L2
namespace HT
open PySem PyProof.Rows
noncomputable def lexLt:List Int->List Int->Bool
 | [],[]=>aD
 | [],_::_=>aC
 |_::_,[]=>aD
 |x::xs,y::ys=>if x=y then lexLt xs ys else decide (x<y)
theorem Zmb(x y xs ys):lexLt (x::xs) (y::ys)=if x=y then lexLt xs ys else decide (x<y):=rfl
theorem Zg6:lexLt [] []=aD:=rfl
theorem Zdc(y ys):lexLt [] (y::ys)=aC:=rfl
theorem Zdd(x xs):lexLt (x::xs) []=aD:=rfl
noncomputable def sIx(n d:Nat):Option Int->Nat
 |none=>d
 |some v=>if v<0 then(v+(n:Int)).toNat else min v.toNat n
theorem Zpn(n d):sIx n d aB=d:=rfl
theorem sIx_nat(n d k:Nat):sIx n d (aA (k:Int))=min k n:=by show(if(k:Int)<0 then((k:Int)+(n:Int)).toNat else min (k:Int).toNat n)=min k n;rw[if_neg (by omega),g8]
end HT
namespace L2
open PySem PySem.Spec PyProof.Rows
abbrev TO:=St->Hp->(Option Int->Hp->Prop)->Prop
def PO(X:Cx)(e:Option cj)(t:TO):Prop:=
 ∀(pins:List (aj×Obj)) (s:am) (σ:St) (H:Hp) (Q:Option Int->Hp->Prop),Inv X pins σ H s->t σ H Q->
  bg (b4 X.prog X.w) X.A (evalPart e X.env) (λu s'=>∃o H',Inv X pins σ H' s'/\IsPart u o/\Q o H') X.xe s
def Zsy:TO:=λ_ H Q=>Q aB H
def Zka(t:TE):TO:=λσ H Q=>t σ H λx H1=>∃i,x= .int i/\Q (aA i) H1
theorem Zhp(h:PE X e te):PO X (aA e) (Zka te):=by intro pins s σ H Q I hw;rw[evalPart_some];refine Wp (h pins s σ H _ I hw) λu s1 zq9=>?_;obtain⟨x,H1,I1,r1,q1⟩:=zq9;obtain⟨i,rfl,q⟩:=q1;obtain⟨t,rfl⟩:=r1;exact⟨aA i,H1,I1,.int i t,q⟩
def SlR(X:Cx)(r:V->Option Int->Option Int->Hp->VK->Prop):Prop:=
 ∀(pins:List (aj×Obj)) (s:am) (σ:St) (H:Hp) (x:V) (v vl vu:ah) (lo hi:Option Int) (sl:aj) (Q:VK),Inv X pins σ H s->Zy x v->s.heap.IsSliceOf sl vl vu .none->IsPart vl lo->IsPart vu hi->r x lo hi H Q->
  ∃T id,typeLookup (.type T) "__getitem__"=pure (aA (.builtin id))/\s.TypeIs v T/\bg (b4 X.prog X.w) X.A (getItem v (.ref sl)) (EP X pins σ Q) X.xe s
theorem SlR.or(h:SlR X r)(h':SlR X r'):SlR X (λx lo hi H Q=>r x lo hi H Q\/r' x lo hi H Q):=by
 intro pins s σ H x v vl vu lo hi sl Q I rx hs pl pu q;rcases q with q|q
 .exact h pins s σ H x v vl vu lo hi sl Q I rx hs pl pu q
 .exact h' pins s σ H x v vl vu lo hi sl Q I rx hs pl pu q
def tSl(r:V->Option Int->Option Int->Hp->VK->Prop)(te:TE)(tl th:TO):TE:=λσ H Q=>te σ H λx H1=>tl σ H1 λl H2=>th σ H2 λu H3=>r x l u H3 Q
theorem Zde{lo hi:Option cj}(hr:SlR X r)(he:PE X e te)(hl:PO X lo tl)(hu:PO X hi th):PE X (.Subscript e (.Slice lo hi aB p2) pos) (tSl r te tl th):=by intro pins s σ H Q I h;refine Subscript_ (Wp (he pins s σ H _ I h) λv s1 zq9=>?_);obtain⟨x,H1,I1,r1,q1⟩:=zq9;refine wpAny_Slice (Wp (hl pins s1 σ H1 _ I1 q1) λvl s2 ⟨l,H2,I2,pl,q2⟩=>Wp (hu pins s2 σ H2 _ I2 q2) λvu s3 zq9=>?_);obtain⟨u,H3,I3,pu,q3⟩:=zq9;rw[evalPart_none];refine ag ?_;have I4:Inv X pins σ H3 {s3 with heap:=s3.heap.push {cls:=.type "slice",data:=.fields #[vl,vu,.none]}}:=I3.kept (t':=s3.toks) λb ob q=>au _ q;obtain⟨T,id,hT,ht,hg⟩:=hr pins {s3 with heap:=s3.heap.push {cls:=.type "slice",data:=.fields #[vl,vu,.none]}} σ H3 x v vl vu l u s3.heap.objs.size Q I4 r1 (Heap.IsSliceOf.new ..) pl pu q3;show bg (b4 X.prog X.w) X.A (subscriptTail e (.Slice lo hi aB p2) v (.ref s3.heap.objs.size)) (EP X pins σ Q) X.xe {s3 with heap:=s3.heap.push {cls:=.type "slice",data:=.fields #[vl,vu,.none]}};exact tail_any (ops:=[.ref s3.heap.objs.size,v]) ht hT hg (by with_unfolding_all rfl)
def V5(xs:List V)(lo hi:Option Int):List V:=(xs.drop (HT.sIx xs.length 0 lo)).take (HT.sIx xs.length xs.length hi- HT.sIx xs.length 0 lo)
theorem Pt(xs lo hi):(V5 xs lo hi).length<=xs.length:=by unfold V5;rw[gv,List.length_drop];omega
def Zzt(K:ad):V->Option Int->Option Int->Hp->VK->Prop:=λx lo hi H Q=>∃a xs,x= .ref a/\Ob K H a xs/\
 ¬(HT.sIx xs.length 0 lo=0/\HT.sIx xs.length xs.length hi=xs.length)/\∀p,H p=aB->Q (.ref p) (Z9 H p (.tup (V5 xs lo hi)))
def Zzu(K:ad):R2:=λx y H Q=>∃a b ns ms,x= .ref a/\y= .ref b/\Ob K H a (ns.map V.int)/\Ob K H b (ms.map V.int)/\Q (.bl (HT.lexLt ns ms)) H
def Zxj(K:ad):R2:=λx y H Q=>∃a b xs ys,x= .ref a/\y= .ref b/\Ob K H a xs/\Ob K H b ys/\xs≠[]/\xs.length+ys.length<=sizeLine/\
 (ys=[]->Q (.ref a) H)/\(ys≠[]->∀p,H p=aB->Q (.ref p) (Z9 H p (.tup (xs++ys))))
noncomputable def ixN(n:Nat)(i:Int):Option Nat:=if 0<=i then(if i<n then aA i.toNat else aB)else if-(n:Int)<=i then aA (i+n).toNat else aB
def atI{α:Type}(xs:List α)(i:Int):Option α:=(ixN xs.length i).bind λj=>xs[j]?
theorem Lo(h:ixN n i=aA j):seqIndex? i n=aA j/\j<n/\-(n:Int)<=i/\i<n:=by
 unfold ixN at h;by_cases h0:0<=i
 .rw[if_pos h0]at h;by_cases h1:i<n
  .rw[if_pos h1]at h;have e:i.toNat=j:=cz.inj h;exact⟨by rw[seqIndex_of h0 h1,e],by omega,by omega,h1⟩
  .rw[if_neg h1]at h;cases h
 .rw[if_neg h0]at h;by_cases h1:-(n:Int)<=i
  .rw[if_pos h1]at h;have e:(i+n).toNat=j:=cz.inj h;exact⟨by rw[seqIndex_neg (by omega) h1,e],by omega,h1,by omega⟩
  .rw[if_neg h1]at h;cases h
theorem Lp{v:α}(h:atI xs i=aA v):∃j,seqIndex? i xs.length=aA j/\xs[j]? =aA v/\j<xs.length/\-(xs.length:Int)<=i/\i<xs.length:=by
 unfold atI at h;cases e:ixN xs.length i with
 |none=>rw[e]at h;cases h
 |some j=>rw[e]at h;obtain⟨h1,h2,h3,h4⟩:=Lo e;exact⟨j,h1,h,h2,h3,h4⟩
def Tu(b:cj):Prop:=∀o i,subscripted b aD o i=operate [o,i] (getItem o i)
def IxR(X:Cx)(r:R2):Prop:=
 ∀(value slice:cj) (pins:List (aj×Obj)) (s:am) (σ:St) (H:Hp) (x y:V) (v u:ah) (Q:VK),Inv X pins σ H s->Zy x v->Zy y u->r x y H Q->
  subscripted slice aD v u=operate [v,u] (getItem v u)->bg (b4 X.prog X.w) X.A (subscriptTail value slice v u) (EP X pins σ Q) X.xe s
def MtR(X:Cx)(id:String)(r:V->List V->Hp->VK->Prop):Prop:=
 ∀(pins:List (aj×Obj)) (s:am) (σ:St) (H:Hp) (x:V) (xs:List V) (v:ah) (us:List ah) (Q:VK),Inv X pins σ H s->Zy x v->Z2 xs us->r x xs H Q->
  bg (b4 X.prog X.w) X.A (call (.builtin id) (v::us)) (EP X pins σ Q) X.xe s
section
variable{X:Cx}
theorem IxR.or(h:IxR X r)(h':IxR X r'):IxR X (λx y H Q=>r x y H Q\/r' x y H Q):=by
 intro value slice pins s σ H x y v u Q I rx ry q hs;rcases q with q|q
 .exact h value slice pins s σ H x y v u Q I rx ry q hs
 .exact h' value slice pins s σ H x y v u Q I rx ry q hs
theorem Zdf(hr:IxR X r)(ha:PE X a ta)(hb:PE X b tb)(hs:Tu b):PE X (.Subscript a b pos) (tOp r ta tb):=by intro pins s σ H Q I h;exact Subscript_ (Zl5 ha hb I h λv u s2 x y H2 I2 rx ry q=>hr a b pins s2 σ H2 x y v u Q I2 rx ry q (hs _ _))
def Zhr(K:ad):R2:=λx y H Q=>∃p xs i v,x= .ref p/\y= .int i/\W5 K H p xs/\atI xs i=aA v/\Q v H
def Zpo(K:ad):R2:=λx y H Q=>∃p xs i v,x= .ref p/\y= .int i/\Ob K H p xs/\atI xs i=aA v/\Q v H
def Zpp:R2:=λx y H Q=>∃z i c,x= .str z/\y= .int i/\z.length<=sizeLine/\atI z.cps.toList i=aA c/\Q (.str ⟨#[c]⟩) H
theorem Hy:IxR X (Zhr X.K):=by
 intro value slice pins s σ H x y v u Q I rx ry h hs;obtain⟨p,xs,i,z,rfl,rfl,hq,he,q⟩:=h;cases rx;obtain⟨t,rfl⟩:=ry;obtain⟨its,r,pl,hz⟩:=I.list hq;obtain⟨j,h1,h2,h3,h4,h5⟩:=Lp he;obtain⟨w,ew,rw'⟩:=r.get h2;have hl:=r.length;have hn:=Mf;have fin:EP X pins σ Q w s:=⟨z,H,I,rw',q⟩
 by_cases h0:0<=i
 .have hj:i.toNat=j:=by rw[seqIndex_of h0 h5]at h1;exact cz.inj h1
  exact item_listR pl.isList h0 (by omega) (by rw[hj];simpa using ew) fin hs
 .have hj:(i+(its.toArray.size:Int)).toNat=j:=by rw[seqIndex_neg (by omega) h4]at h1;rw[bq,<-hl];exact cz.inj h1
  exact subscriptTail_builtinR (x:=w) pl.isList.typeIs slot_list_getitem.lookup
   (wpAny_getItem_list_neg (Q:=λr s'=>r=w/\EP X pins σ Q r s') pl.isList (by omega) (by rw[bq]<;> omega) (by omega) (by rw[hj];simpa using ew) ⟨rfl,fin⟩) hs
theorem Zmd:IxR X (Zpo X.K):=by
 intro value slice pins s σ H x y v u Q I rx ry h hs;obtain⟨p,xs,i,z,rfl,rfl,hq,he,q⟩:=h;cases rx;obtain⟨t,rfl⟩:=ry;obtain⟨its,r,pl,hz⟩:=I.tuple hq;obtain⟨j,h1,h2,h3,h4,h5⟩:=Lp he;obtain⟨w,ew,rw'⟩:=r.get h2;have hl:=r.length;have hn:=Mf;have fin:EP X pins σ Q w s:=⟨z,H,I,rw',q⟩
 exact subscriptTail_builtinR (x:=w) pl.typeIs slot_tuple_getitem.lookup
  (getItem_tuple (j:=j) (Q:=λr s'=>r=w/\EP X pins σ Q r s') pl (by omega) (by omega) (by rw[bq,<-hl];exact h1) (by simpa using ew) ⟨rfl,fin⟩) hs
theorem Zme:IxR X Zpp:=by
 intro value slice pins s σ H x y v u Q I rx ry h hs;obtain⟨z,i,c,rfl,rfl,hz,he,q⟩:=h;obtain⟨t,rfl⟩:=rx;obtain⟨t',rfl⟩:=ry;obtain⟨j,h1,h2,h3,h4,h5⟩:=Lp he;have hl:z.cps.toList.length=z.length:=by simp[Str.length]
 rw[hl]at h1 h4 h5;have hn:=Mf;exact tail_any (typeIs_str s z t) slot_str_getitem.lookup (getItem_str (c:=c) (by
  have e1:decide (i< -(2^63:Int))=aD:=decide_eq_false (by omega);have e2:decide (i>=2^63)=aD:=decide_eq_false (by omega);rw[e1,e2,Bool.or_false]) (by rw[h1];simpa using h2) ⟨.str ⟨#[c]⟩,H,I.tok _,⟨_,rfl⟩,q⟩) hs
def rIx(K:ad):R2:=λx y H Q=>Zhr K x y H Q\/Zpo K x y H Q\/Zpp x y H Q
theorem Zdg:IxR X (rIx X.K):=Hy.or (Zmd.or Zme)
theorem V6(its:List ah)(n j u):di (·.setIfInBounds j u) {cls:=.type "list",data:=.seq its.toArray n}={cls:=.type "list",data:=.seq (its.set j u).toArray n}:=by simp[di]
theorem Inv.lst{σ:St}{H}{s}{p}{xs}(I:Inv X pins σ H s)(h:H p=aA (.lst xs)):
  ∃(its:List ah) (n:Nat),Z2 xs its/\s.heap.get? p=aA {cls:=.type "list",data:=.seq its.toArray n}/\xs.length<=sizeLine:=by
 obtain⟨z,its,n,r,e⟩:=I.hok p _ h;exact⟨its,n,r,e,z⟩
theorem Inv.lstUpd{σ:St}{its:List ah}(I:Inv X pins σ H s)(h:H p=aA (.lst xs))(ho:s.heap.get? p=aA {cls:=.type "list",data:=.seq its.toArray n})(hf:f {cls:=.type "list",data:=.seq its.toArray n}={cls:=.type "list",data:=.seq its'.toArray n'})(r:Z2 ys its')(hz:ys.length<=sizeLine)(t):
  Inv X pins σ (Z9 H p (.lst ys)) {s with heap:=s.heap.update p f,toks:=t}:=by
 have e:(s.heap.update p f).get? p=aA {cls:=.type "list",data:=.seq its'.toArray n'}:=by rw[g6 f ho (by rw[hf]<;> rfl),hf]
 refine I.write (x:=p) (e:=p) (by rw[h];trivial) (.inl rfl) (λb u hb q=>(Heap.get?_update_other _ _ (Ne.symm hb)).trans q) ⟨_,e⟩ ?_;exact⟨hz,its',n',r,e⟩
def Zkb:V->V->V->Hp->(Hp->Prop)->Prop:=λo i v H Q=>∃p xs k j,o= .ref p/\i= .int k/\H p=aA (.lst xs)/\ixN xs.length k=aA j/\Q (Z9 H p (.lst (xs.set j v)))
theorem Zdh:Zo5 X Zkb:=by
 intro pins s σ H o i v ov iv u Q I ro ri rv h;obtain⟨p,xs,k,j,rfl,rfl,hp,hj,q⟩:=h;cases ro;obtain⟨t,rfl⟩:=ri;obtain⟨its,n,r,ho,hz⟩:=I.lst hp;obtain⟨h1,h2,h3,h4⟩:=Lo hj;have hl:=r.length;have hn:=Mf;have I':Inv X pins σ (Z9 H p (.lst (xs.set j v))) {s with heap:=s.heap.update p (di (·.setIfInBounds j u))}:=
  I.lstUpd hp ho (V6 its n j u) (r.set rv j) (by rw[List.length_set];exact hz) s.toks
 by_cases h0:0<=k
 .have hk:k.toNat=j:=by rw[seqIndex_of h0 h4]at h1;exact cz.inj h1
  exact PySem.W.ki_setAt ho h0 (by omega) (by rw[bq,<-hl];exact h4) (by rw[hk];exact⟨_,I',q⟩)
 .have hk:(k+(its.toArray.size:Int)).toNat=j:=by rw[seqIndex_neg (by omega) h3]at h1;rw[bq,<-hl];exact cz.inj h1
  exact PySem.W.ki_setBack ho (by omega) (by rw[bq,<-hl];exact h3) (by omega) (by rw[hk];exact⟨_,I',q⟩)
theorem Lq(lo hi n):(sliceBounds lo hi aB n).1=((HT.sIx n 0 lo:Nat):Int)/\(sliceBounds lo hi aB n).2.1=((HT.sIx n n hi:Nat):Int)/\(sliceBounds lo hi aB n).2.2=1:=by
 refine⟨?_,?_,rfl⟩
 .cases lo with
  |none=>simp[sliceBounds,HT.sIx]
  |some i=>
   simp only[sliceBounds,HT.sIx,Option.getD_none,show(1:Int) > 0 by decide,if_true];by_cases h:i<0
   .simp only[h,if_true]<;> omega
   .simp only[h,if_false]<;> omega
 .cases hi with
  |none=>simp[sliceBounds,HT.sIx]
  |some i=>
   simp only[sliceBounds,HT.sIx,Option.getD_none,show(1:Int) > 0 by decide,if_true];by_cases h:i<0
   .simp only[h,if_true]<;> omega
   .simp only[h,if_false]<;> omega
theorem Iu(its:List ah)(lo hi):slicePick its.toArray lo hi aB=((its.drop (HT.sIx its.length 0 lo)).take (HT.sIx its.length its.length hi- HT.sIx its.length 0 lo)).toArray:=by obtain⟨h1,h2,h3⟩:=Lq lo hi its.toArray.size;unfold slicePick;rw[h1,h2,h3];simp only[sliceRange_one,pick_run,bq]<;> rfl
def Zpr(K:ad):V->Option Int->Option Int->Hp->VK->Prop:=λx lo hi H Q=>∃a xs,x= .ref a/\W5 K H a xs/\∀p,H p=aB->Q (.ref p) (Z9 H p (.lst (V5 xs lo hi)))
theorem Zhs:SlR X (Zpr X.K):=by intro pins s σ H x v vl vu lo hi sl Q I rx hs pl pu h;obtain⟨a,xs,rfl,hx,q⟩:=h;cases rx;obtain⟨its,r,ht,hz⟩:=I.list hx;have hlen:=r.length;refine⟨"list",_,slot_list_getitem.lookup,ht.isList.typeIs,?_⟩;refine wpAny_getItem_list_slice ht.isList hs pl pu .none (by simp) ?_ (by rw[bq]<;> omega);rw[Iu,<-hlen];refine⟨.ref s.heap.objs.size,_,I.laid (t':=s.toks) (o:=.lst (V5 xs lo hi)) (λb ob q=>au _ q) (ba _) ?_,rfl,q _ (I.hok.fresh (ba _))⟩;exact⟨dk (Pt xs lo hi) hz,_,0,(r.drop (HT.sIx xs.length 0 lo)).take (HT.sIx xs.length xs.length hi- HT.sIx xs.length 0 lo),bp _ rfl⟩
noncomputable def Y2:V->Bool
 | .non=>aC
 | .bl _=>aC
 | .int _=>aC
 | .str _=>aC
 |_=>aD
noncomputable def Pu:V->V->Bool
 | .non,.non=>aC
 | .bl a,.bl b=>a==b
 | .bl a,.int b=>(if a then 1 else 0)==b
 | .int a,.bl b=>a==(if b then 1 else 0)
 | .int a,.int b=>a==b
 | .str a,.str b=>a==b
 |_,_=>aD
theorem Zdi(ry:Zy y u)(rx:Zy x v)(fy:Y2 y=aC)(fx:Y2 x=aC):SeqAt.EqAt A s u v (Pu y x):=by
 cases y with
 |non=>
  cases ry;cases x with
  |non=>cases rx;exact SeqAt.EqAt.same _
  |bl b=>cases rx;exact SeqAt.EqAt.none_bool b
  |int b=>obtain⟨t,rfl⟩:=rx;exact SeqAt.EqAt.none_int b t
  |str b=>obtain⟨t,rfl⟩:=rx;exact SeqAt.EqAt.none_str b t
  |_=>exact absurd (show aD=aC from fx) bv
 |bl a=>
  cases ry;cases x with
  |non=>cases rx;exact SeqAt.EqAt.bool_none a
  |bl b=>cases rx;exact SeqAt.EqAt.bool_bool a b
  |int b=>obtain⟨t,rfl⟩:=rx;exact SeqAt.EqAt.bool_int a b t
  |str b=>obtain⟨t,rfl⟩:=rx;exact SeqAt.EqAt.bool_str a b t
  |_=>exact absurd (show aD=aC from fx) bv
 |int a=>
  obtain⟨t',rfl⟩:=ry;cases x with
  |non=>cases rx;exact SeqAt.EqAt.int_none a t'
  |bl b=>cases rx;exact SeqAt.EqAt.int_bool a t' b
  |int b=>obtain⟨t,rfl⟩:=rx;exact SeqAt.EqAt.int_int a t' b t
  |str b=>obtain⟨t,rfl⟩:=rx;exact SeqAt.EqAt.int_str a t' b t
  |_=>exact absurd (show aD=aC from fx) bv
 |str a=>
  obtain⟨t',rfl⟩:=ry;cases x with
  |non=>cases rx;exact SeqAt.EqAt.str_none a t'
  |bl b=>cases rx;exact SeqAt.EqAt.str_bool a t' b
  |int b=>obtain⟨t,rfl⟩:=rx;exact SeqAt.EqAt.str_int a t' b t
  |str b=>obtain⟨t,rfl⟩:=rx;exact SeqAt.EqAt.str_str a t' b t
  |_=>exact absurd (show aD=aC from fx) bv
 |_=>exact absurd (show aD=aC from fy) bv
def V7(x:V)(u:ah):Bool:=match u with
 | .none=>Pu .non x
 | .bool b=>Pu (.bl b) x
 | .int i _=>Pu (.int i) x
 | .str z _=>Pu (.str z) x
 |_=>aD
theorem Zdj(r:Zy y u)(f:Y2 y=aC):V7 x u=Pu y x:=by
 cases y with
 |non=>cases r;rfl
 |bl b=>cases r;rfl
 |int i=>obtain⟨t,rfl⟩:=r;rfl
 |str z=>obtain⟨t,rfl⟩:=r;rfl
 |_=>exact absurd (show aD=aC from f) bv
theorem Rn:∀{xs:List V} {us:List ah},Z2 xs us->xs.all Y2=aC->us.any (V7 x)=xs.any λy=>Pu y x
 |_,_,.nil,_=>rfl
 |y::xs,u::us,.cons r t,f=>by rw[List.all_cons,Bool.and_eq_true]at f;rw[List.any_cons,List.any_cons,Zdj r f.1,Rn t f.2]
theorem Cg(rx:Zy x v)(fx:Y2 x=aC):∀{xs:List V} {us:List ah},Z2 xs us->xs.all Y2=aC->∀u∈us,SeqAt.EqAt A s u v (V7 x u)
 |_,_,.nil,_=>λu hu=>by cases hu
 |y::xs,u::us,.cons r t,f=>λu' hu=>by
  rw[List.all_cons,Bool.and_eq_true]at f;rcases bx.mp hu with rfl|hu
  .rw[Zdj r f.1];exact Zdi r rx f.1 fx
  .exact Cg rx fx t f.2 u' hu
def inV(x:V)(xs:List V):Bool:=xs.any λy=>Pu y x
def rIn(K:ad)(neg:Bool):R2:=λx y H Q=>∃p xs,y= .ref p/\(W5 K H p xs\/Ob K H p xs)/\Y2 x=aC/\xs.all Y2=aC/\Q (.bl (if neg then !inV x xs else inV x xs)) H
theorem Zbj:Cf X (g9 .In) (rIn X.K aD):=by
 intro pins s σ H x y v u Q I rx ry h;obtain⟨p,xs,rfl,hq,fx,fs,q⟩:=h;cases ry;rcases hq with hq|hq
 .obtain⟨its,r,pl,hz⟩:=I.list hq;refine SeqAt.in_listAt (V7 x) pl.isList (λw hw=>Cg rx fx r fs w (by simpa using hw)) ⟨.bl _,H,I,rfl,?_⟩;rw[show its.toArray.any (V7 x)=its.any (V7 x) by simp,Rn r fs];exact q
 .obtain⟨its,r,pl,hz⟩:=I.tuple hq;refine SeqAt.in_tupleAt (V7 x) pl (λw hw=>Cg rx fx r fs w (by simpa using hw)) ⟨.bl _,H,I,rfl,?_⟩;rw[show its.toArray.any (V7 x)=its.any (V7 x) by simp,Rn r fs];exact q
theorem Lr:Cf X (g9 .NotIn) (rIn X.K aC):=by
 intro pins s σ H x y v u Q I rx ry h;obtain⟨p,xs,rfl,hq,fx,fs,q⟩:=h;cases ry;rcases hq with hq|hq
 .obtain⟨its,r,pl,hz⟩:=I.list hq;refine SeqAt.notIn_listAt (V7 x) pl.isList (λw hw=>Cg rx fx r fs w (by simpa using hw)) ⟨.bl _,H,I,rfl,?_⟩;rw[show its.toArray.any (V7 x)=its.any (V7 x) by simp,Rn r fs];exact q
 .obtain⟨its,r,pl,hz⟩:=I.tuple hq;refine SeqAt.notIn_tupleAt (V7 x) pl (λw hw=>Cg rx fx r fs w (by simpa using hw)) ⟨.bl _,H,I,rfl,?_⟩;rw[show its.toArray.any (V7 x)=its.any (V7 x) by simp,Rn r fs];exact q
theorem Ls:Cf X (g9 .NotIn) (λx y H Q=>∃i j,x= .str i/\y= .str j/\Q (.bl (!(!(dj j i 0 j.length 1).isEmpty))) H):=by intro pins s σ H x y v u Q I rx ry h;obtain⟨i,j,rfl,rfl,q⟩:=h;obtain⟨t,rfl⟩:=rx;obtain⟨t',rfl⟩:=ry;exact notIn_str ⟨.bl _,H,I,rfl,q⟩
theorem Lu:Jo X (.builtin "len") (λxs H Q=>∃p ys,xs=[.ref p]/\(W5 X.K H p ys\/Ob X.K H p ys)/\Q (.int ys.length) H):=by
 intro pins s σ H xs us Q I r h;obtain⟨p,ys,rfl,hq,q⟩:=h;obtain⟨u,rfl,rx⟩:=Oc r;cases rx;have hn:=Mf;rcases hq with hq|hq
 .obtain⟨its,r',pl,hz⟩:=I.list hq;have hlen:=r'.length;exact Calls.call_len_list pl.isList (by simp only[bq]<;> omega) ⟨.int ys.length,H,I.tok _,⟨s.toks+1,by rw[bq,hlen]⟩,q⟩
 .obtain⟨its,r',pl,hz⟩:=I.tuple hq;have hlen:=r'.length;exact len_tuple pl (by simp only[bq]<;> omega) ⟨.int ys.length,H,I.tok _,⟨s.toks+1,by rw[bq,hlen]⟩,q⟩
theorem Lv:Jo X (.builtin "len") (λxs H Q=>∃z,xs=[.str z]/\z.length<=sizeLine/\Q (.int z.length) H):=by intro pins s σ H xs us Q I r h;obtain⟨z,rfl,hz,q⟩:=h;obtain⟨u,rfl,t,rfl⟩:=Oc r;have hn:=Mf;exact len_str (by omega) ⟨.int z.length,H,I.tok _,⟨_,rfl⟩,q⟩
theorem Jo.or(h:Jo X f r)(h':Jo X f r'):Jo X f (λxs H Q=>r xs H Q\/r' xs H Q):=by
 intro pins s σ H xs us Q I rs q;rcases q with q|q
 .exact h pins s σ H xs us Q I rs q
 .exact h' pins s σ H xs us Q I rs q
theorem Iv:Jo X (.type "tuple") (λxs H Q=>∃p ys,xs=[.ref p]/\((W5 X.K H p ys/\∀l,H l=aB->Q (.ref l) (Z9 H l (.tup ys)))\/(Ob X.K H p ys/\Q (.ref p) H))):=by
 intro pins s σ H xs us Q I r h;obtain⟨p,ys,rfl,h⟩:=h;obtain⟨u,rfl,rx⟩:=Oc r;cases rx;rcases h with⟨hq,q⟩|⟨hq,q⟩
 .obtain⟨its,r',pl,hz⟩:=I.list hq;have hlen:=r'.length;refine call_tuple_list pl.isList (λh' kp=>?_) (by simp only[bq]<;> omega);have I1:Inv X pins σ H {s with heap:=h'}:=I.kept (t':=s.toks) kp;have I2:Inv X pins σ (Z9 H h'.objs.size (.tup ys)) {s with heap:=h'.push {cls:=.type "tuple",data:=.seq its.toArray}}:=
   I1.laid (t':=s.toks) (λb o e=>au _ e) (ba _) (show Yj X.prog X.w _ _ _ (.tup ys)from⟨hz,its,r',IsTup.new _ _⟩)
  exact⟨.ref h'.objs.size,_,I2,rfl,q _ (I1.hok.fresh (ba _))⟩
 .obtain⟨its,r',pl,hz⟩:=I.tuple hq;exact call_tuple_same pl ⟨.ref p,H,I,rfl,q⟩
def tyV(K:ad)(T:String)(x:V)(H:Hp):Prop:=match x with
 | .str _=>T="str"
 | .int _=>T="int"
 | .ref p=>(T="list"/\∃xs,W5 K H p xs)\/(T="tuple"/\∃o,K.lookup p=aA o/\o.cls= .type "tuple"/\o.dict=aB)\/
   (T="dict"/\((∃kvs,HK H p kvs)\/∃kvs,HTt H p kvs))\/(T="set"/\∃S n,H p=aA (.set S n))
 |_=>False
theorem Zdk{σ:St}(I:Inv X pins σ H s)(r:Zy x v)(ty:tyV X.K T x H):
  s.TypeIs v T/\∀a,v= .ref a->∃ob,s.heap.get? a=aA ob/\ob.dict=aB:=by
 cases x with
 |str z=>obtain⟨t,rfl⟩:=r;cases(show T="str"from ty);exact⟨typeIs_str s z t,λ_ e=>nomatch e⟩
 |int i=>obtain⟨t,rfl⟩:=r;cases(show T="int"from ty);exact⟨typeIs_int s i t,λ_ e=>nomatch e⟩
 |ref p=>
  cases r;rcases ty with⟨rfl,xs,hq⟩|⟨rfl,o,hk,hc,hd⟩|⟨rfl,hk⟩|⟨rfl,S,n,hk⟩
  .obtain⟨its,_,pl,_⟩:=I.list hq;refine⟨pl.isList.typeIs,λa e=>?_⟩;cases e;obtain⟨o,n,e,c,hd,_⟩:=pl;exact⟨o,e,hd⟩
  .refine⟨⟨o,I.kIn p o hk,hc⟩,λa e=>?_⟩;cases e;exact⟨o,I.kIn _ o hk,hd⟩
  .have z:∃o,s.heap.get? p=aA o/\o.ExactDict:=by
    rcases hk with⟨kvs,ep,hk⟩|⟨kvs,ep,bs,hk⟩
    .obtain⟨_,_,_,_,o,_,e,ex,_⟩:=I.hok p _ hk;exact⟨o,e,ex⟩
    .obtain⟨_,_,_,_,o,_,e,ex,_⟩:=I.hok p _ hk;exact⟨o,e,ex⟩
   obtain⟨o,e,ex⟩:=z;refine⟨⟨o,e,ex.1⟩,λa e2=>?_⟩;cases e2;exact⟨o,e,ex.2.1⟩
  .obtain⟨o,_,_,_,e,ex,_⟩:=I.hok p _ hk;refine⟨⟨o,e,ex.1⟩,λa e2=>?_⟩;cases e2;exact⟨o,e,ex.2.1⟩
 |_=>exact False.elim ty
def Zps(K:ad)(T:String)(r:V->List V->Hp->VK->Prop)(to:TE):TE:=λσ H Q=>to σ H λx H1=>tyV K T x H1/\r x [] H1 Q
def tBM(K:ad)(T:String)(r:V->List V->Hp->VK->Prop)(to:TE)(t:TA):TE:=λσ H Q=>to σ H λx H1=>tyV K T x H1/\t σ H1 λxs H2=>r x xs H2 Q
variable{o e:cj}{es:List cj}{to:TE}{t:TA}{name:Str}{apos cpos:Pos}{T id:String}{r:V->List V->Hp->VK->Prop}
theorem Zmf(pa:PlainAttrs T)(slot:Slot T name id)(hty:typeOf (.builtin id)=pure (.type "method_descriptor"))(hm:MtR X id r)(ho:PE X o to)(hbase:attributeBase o name X.env (gp o X.env)=gp o X.env:=by rfl)(hline:(apos.endLine==cpos.line)=aC:=by rfl):PE X (.Call (.Attribute o name apos) [] [] cpos) (Zps X.K T r to):=by
 intro pins s σ H Q I h;refine wpAny_Call_method0_late hbase hline (Wp (ho pins s σ H _ I h) λv s1 zq9=>?_);obtain⟨x,H1,I1,r1,ty,q1⟩:=zq9;obtain⟨h1,h2⟩:=Zdk I1 r1 ty;exact⟨T,id,pa,slot,hty,h1,h2,Calls.callWith_builtin rfl (PySem.evalArgs_none (hm pins s1 σ H1 x [] v [] Q I1 r1 .nil q1))⟩
theorem Hz(pa:PlainAttrs T)(slot:Slot T name id)(hty:typeOf (.builtin id)=pure (.type "method_descriptor"))(hm:MtR X id r)(ho:PE X o to)(ha:PA X (e::es) t)(hbase:attributeBase o name X.env (gp o X.env)=gp o X.env:=by rfl)(hfew:((gq cpos (a9 (e::es) X.env)).all (λx=>!x.1)&&(backToKw cpos (keywordEach [] X.env)).all (λx=>x.1.isSome)
   &&decide ((e::es).length+([]:List Keyword).length+(if([]:List Keyword).isEmpty then 0 else 1)<30))=aC:=by rfl)(hline:(apos.endLine==cpos.line)=aC:=by rfl)(hs:a9 (e::es) X.env=(aD,gp e X.env)::a9 es X.env:=by rfl)(hplain:(gq cpos (a9 es X.env)).any (·.1)=aD:=by rfl):
  PE X (.Call (.Attribute o name apos) (e::es) [] cpos) (tBM X.K T r to t):=by
 intro pins s σ H Q I h;refine wpAny_Call_method_late hbase hfew hline rfl (Wp (ho pins s σ H _ I h) λv s1 zq9=>?_);obtain⟨x,H1,I1,r1,ty,q1⟩:=zq9;obtain⟨h1,h2⟩:=Zdk I1 r1 ty;refine⟨T,id,pa,slot,hty,h1,h2,?_⟩;have hA:=ha cpos pins s1 σ H1 _ I1 q1;rw[hs]at hA⊢;refine Calls.callWith_builtin (by show(aD|| (gq cpos (a9 es X.env)).any (·.1))=aD;rw[hplain]<;> rfl) (Calls.evalArgs_plain ?_);exact Wp hA λus s2 ⟨vs,H2,I2,r2,q2⟩=>hm pins s2 σ H2 x vs v us Q I2 r1 r2 q2
end
def MtM(X:Cx)(id:String)(r:V->List V->Hp->VK->Prop):Prop:=
 ∀(pins:List (aj×Obj)) (s:am) (σ:St) (H:Hp) (x:V) (xs:List V) (v:ah) (us:List ah) (Q:VK),Inv X pins σ H s->Zy x v->Z2 xs us->r x xs H Q->
  bg (b4 X.prog X.w) X.A (call (.builtin id) (v::us)) (EP X pins σ Q) X.xe s
theorem Z2.one(h:Z2 [x] us):∃u,us=[u]/\Zy x u:=by
 cases h with
 |cons r t=>cases t;exact⟨_,rfl,r⟩
theorem Z2.zero:∀{us:List ah},Z2 [] us->us=[]
 |_,.nil=>rfl
theorem Z2.dropLast(h:Z2 xs us):Z2 xs.dropLast us.dropLast:=by
 induction h with
 |nil=>exact .nil
 |cons r t ih=>
  cases t with
  |nil=>exact .nil
  |cons q t'=>exact .cons r ih
theorem V8{α:Type}(l:List α):l.eraseIdx (l.length- 1)=l.dropLast:=by
 induction l with
 |nil=>rfl
 |cons a r ih=>
  cases r with
  |nil=>rfl
  |cons b r=>
   have e:(a::b::r).length- 1=((b::r).length- 1)+1:=by have h1:(a::b::r).length=r.length+2:=rfl;have h2:(b::r).length=r.length+1:=rfl;omega
   rw[e,List.eraseIdx_cons_succ,ih]
   all_goals rfl
section
variable{X:Cx}{pins:List (aj×Obj)}{σ:St}{H:Hp}{s:am}{l b:aj}{xs ys zs:List V}
theorem Inv.lset{its:List ah}(I:Inv X pins σ H s)(hH:H l=aA (.lst xs))(e:s.heap.get? l=aA {cls:=.type "list",data:=.seq its.toArray n})(hf:f its.toArray=its'.toArray)(hv:Z2 ys its')(hz:ys.length<=sizeLine):
  Inv X pins σ (Z9 H l (.lst ys)) {s with heap:=s.heap.update l (di f),toks:=t'}:=by
 have q:=PySem.IsL.update e f;rw[hf]at q;refine I.write (x:=l) (e:=l) (by rw[hH];exact trivial) (.inl rfl) (λb' u hb hu=>(Heap.get?_update_other s.heap (di f) (Ne.symm hb)).trans hu) ⟨_,q⟩ ?_;exact⟨hz,its',_,hv,q⟩
theorem Inv.lnew(I:Inv X pins σ H s)(hv:Z2 ys its)(hz:ys.length<=sizeLine):
  Inv X pins σ (Z9 H s.heap.objs.size (.lst ys)) {s with heap:=s.heap.push {cls:=.type "list",data:=.seq its.toArray},toks:=t'}:=
 I.laid (λ_ _ q=>au _ q) (ba _) ⟨hz,its,0,hv,bp _ rfl⟩
theorem Inv.fresh(I:Inv X pins σ H s):H s.heap.objs.size=aB:=I.hok.fresh (ba _)
theorem Inv.lstM(I:Inv X pins σ H s)(hH:H l=aA (.lst xs)):xs.length<=sizeLine/\∃its n,Z2 xs its/\xs.length=its.length/\s.heap.get? l=aA {cls:=.type "list",data:=.seq its.toArray n}:=by obtain⟨z,its,n,r,e⟩:=I.hok l _ hH;exact⟨z,its,n,r,r.length,e⟩
theorem Zdl(h:n<=sizeLine):Builtin.List.listTooLong n=aD:=by unfold Builtin.List.listTooLong;exact decide_eq_false (by omega)
end
def Bk:V->List V->Hp->VK->Prop:=λx vs H Q=>∃l xs y,x= .ref l/\vs=[y]/\H l=aA (.lst xs)/\xs.length<sizeLine/\Q .non (Z9 H l (.lst (xs++[y])))
theorem Mg:MtM X "list.append" Bk:=by intro pins s σ H x vs v us Q I rx rv h;obtain⟨l,xs,y,rfl,rfl,hH,hz,q⟩:=h;cases rx;obtain⟨u,rfl,ru⟩:=rv.one;obtain⟨z,its,n,r,hl,e⟩:=I.lstM hH;refine call_meets F.slot_list_append ⟨_,e,rfl⟩ F.entry_list_append (F.args_list_append_2 _ _) (PySem.list_append l its.toArray n u (by rw[bq];omega)) ⟨e,?_⟩;refine⟨.non,_,I.lset (its':=its++[u]) hH e (by simp) (r.append (.cons ru .nil)) ?_,rfl,q⟩;rw[aw,f8];omega
def Zs2:V->List V->Hp->VK->Prop:=λx vs H Q=>∃l b xs zs,x= .ref l/\vs=[.ref b]/\H l=aA (.lst xs)/\H b=aA (.lst zs)/\xs.length+zs.length<=sizeLine/\Q .non (Z9 H l (.lst (xs++zs)))
def Zpt:V->List V->Hp->VK->Prop:=λx vs H Q=>∃l xs y,x= .ref l/\vs=[]/\H l=aA (.lst xs)/\xs[xs.length- 1]? =aA y/\Q y (Z9 H l (.lst xs.dropLast))
theorem Zmg:MtM X "list.pop" Zpt:=by
 intro pins s σ H x vs v us Q I rx rv h;obtain⟨l,xs,y,rfl,rfl,hH,hy,q⟩:=h;cases rx;have hus:=rv.zero;subst hus;obtain⟨z,its,n,r,hl,e⟩:=I.lstM hH;obtain⟨u,hu,ru⟩:=r.get hy;have hy':its.toArray[its.toArray.size- 1]? =aA u:=by show its.toArray[its.length- 1]? =aA u;rw[<-c9,<-hl];exact hu
 refine call_meets F.slot_list_pop ⟨_,e,rfl⟩ F.entry_list_pop (F.args_list_pop_1 _) (MeetsSeq.list_pop_last l its.toArray n u hy' (by rw[bq];omega)) ⟨e,?_⟩;refine⟨y,_,I.lset (its':=its.dropLast) hH e ?_ r.dropLast ?_,ru,q⟩
 .show its.toArray.eraseIdxIfInBounds (its.toArray.size- 1)=its.dropLast.toArray;rw[bq,List.eraseIdxIfInBounds_toArray,V8]
 .rw[List.length_dropLast];omega
def Zul:V->List V->Hp->VK->Prop:=λx vs H Q=>∃l xs i k y,x= .ref l/\vs=[.int i]/\H l=aA (.lst xs)/\-(2^63)<=i/\i<2^63/\seqIndex? i xs.length=aA k/\xs[k]? =aA y/\Q y (Z9 H l (.lst (xs.eraseIdx k)))
def Zpu:V->List V->Hp->VK->Prop:=λx vs H Q=>∃l xs,x= .ref l/\vs=[]/\H l=aA (.lst xs)/\Q .non (Z9 H l (.lst xs.reverse))
def Zum:V->List V->Hp->VK->Prop:=λx vs H Q=>∃l xs,x= .ref l/\vs=[]/\H l=aA (.lst xs)/\Q .non (Z9 H l (.lst []))
def Zzv:R2:=λx y H Q=>∃l b xs zs,x= .ref l/\y= .ref b/\H l=aA (.lst xs)/\H b=aA (.lst zs)/\xs.length+zs.length<=sizeLine/\∀p,H p=aB->Q (.ref p) (Z9 H p (.lst (xs++zs)))
def Zzw:R2:=λx y H Q=>∃l k xs,x= .ref l/\y= .int k/\H l=aA (.lst xs)/\-(2^63)<=k/\k<2^63/\xs.length*k.toNat<=sizeLine/\
 ∀p,H p=aB->Q (.ref p) (Z9 H p (.lst (dn k.toNat xs).flatten))
section
variable{κ:Type}[DecidableEq κ]
noncomputable def Qd(kvs:List (κ×V))(k:κ):Option V:=(kvs.find? λkv=>decide (kv.1=k)).map (·.2)
noncomputable def Qe(kvs:List (κ×V))(k:κ)(v:V):List (κ×V):=
 if(kvs.any λkv=>decide (kv.1=k))=aC then kvs.map (λkv=>if kv.1=k then(kv.1,v)else kv)else kvs++[(k,v)]
noncomputable def Zdm(kvs:List (κ×V))(k:κ):List (κ×V):=kvs.filter λkv=>decide (kv.1≠k)
theorem Zdn:Qd ([]:List (κ×V)) k=aB:=rfl
theorem O6{k:κ}(e:p.1=k):Qd (p::r) k=aA p.2:=by simp[Qd,List.find?_cons,e]
theorem Uq{k:κ}(e:¬p.1=k):Qd (p::r) k=Qd r k:=by simp[Qd,List.find?_cons,e]
theorem Ae(k):∀kvs:List (κ×V),(kvs.any λkv=>decide (kv.1=k))=(Qd kvs k).isSome
 | []=>rfl
 |p::r=>by
  rw[List.any_cons];by_cases e:p.1=k
  .simp only[O6 e,decide_eq_true e,Bool.true_or,Option.isSome_some]
  .rw[Uq e,decide_eq_false e,Bool.false_or];exact Ae k r
theorem Ch(kvs)(k:κ)(v):(Qe kvs k v).length<=kvs.length+1:=by
 unfold Qe;split
 .rw[aq];omega
 .rw[aw,bf,List.length_nil];omega
theorem Ti.isSome_eq(r:Ti o u):o.isSome=u.isSome:=by
 cases o with
 |none=>cases u with
  |none=>rfl
  |some _=>exact(show False from r).elim
 |some _=>cases u with
  |none=>exact(show False from r).elim
  |some _=>rfl
theorem KV.val(r:KV kvs vs)(k:κ):Ti (Qd kvs k) (valueAt vs k):=by
 unfold KV at r;induction r with
 |nil=>exact True.intro
 | @cons p q ps qs h t ih=>
  obtain⟨h1,h2⟩:=h;by_cases e:p.1=k
  .have e':q.1=k:=h1.symm.trans e;have b:valueAt (q::qs) k=aA q.2:=by simp[valueAt,List.find?_cons,e']
   rw[O6 e,b];exact h2
  .have e':¬q.1=k:=λz=>e (h1.trans z);have b:valueAt (q::qs) k=valueAt qs k:=by simp[valueAt,List.find?_cons,e']
   rw[Uq e,b];exact ih
theorem KV.any(r:KV kvs vs)(k:κ):(kvs.any λkv=>decide (kv.1=k))=vs.any λkv=>decide (kv.1=k):=by
 unfold KV at r;induction r with
 |nil=>rfl
 |cons h t ih=>rw[List.any_cons,List.any_cons,ih,h.1]
theorem KV.repl(r:KV kvs vs)(k:κ)(ry:Zy y u):
  KV (kvs.map λkv=>if kv.1=k then(kv.1,y)else kv) (vs.map λkv=>if kv.1=k then(kv.1,u)else kv):=by
 unfold KV at r⊢;induction r with
 |nil=>exact .nil
 | @cons p q ps qs h t ih=>
  rw[bc,bc];refine .cons ?_ ih;obtain⟨h1,h2⟩:=h;by_cases e:p.1=k
  .rw[if_pos e,if_pos (h1.symm.trans e)];exact⟨h1,ry⟩
  .rw[if_neg e,if_neg (λz=>e (h1.trans z))];exact⟨h1,h2⟩
theorem KV.put(r:KV kvs vs)(k:κ)(ry:Zy y u):KV (Qe kvs k y) (stored vs k u):=by
 unfold Qe stored;rw[r.any k];by_cases e:(vs.any λkv=>decide (kv.1=k))=aC
 .rw[if_pos e,if_pos e];exact r.repl k ry
 .rw[if_neg e,if_neg e];exact Paired.snoc r ⟨rfl,ry⟩
theorem KV.length{vs:List (κ×ah)}(r:KV kvs vs):kvs.length=vs.length:=ig r
end
theorem Fq(r:Zy (kV k) u):(Zr P w).is k u=aC:=by
 cases k with
 |inl i=>obtain⟨t,e⟩:=(show∃t,u=Value.int i t from r);subst e;exact Pk P w i t
 |inr x=>obtain⟨t,e⟩:=(show∃t,u=Value.str x t from r);subst e;exact Pl P w x t
theorem Fr:∀{ks:List Key} {us:List ah},Z2 (ks.map kV) us->ItemsAre (Zr P w) ks us
 | [],_,r=>by rw[List.map_nil]at r;cases r;exact .nil
 |k::ks,_,r=>by
  rw[bc]at r;cases r with
  |cons h t=>exact .cons (Fq h) (Fr t)
abbrev KT(H:Hp):List (List Key×V)->List (List Key×aj×ah)->Prop:=Paired λp q=>p.1=q.1/\H q.2.1=aA (.tup (p.1.map kV))/\Zy p.2 q.2.2
theorem KT.val(r:KT H kvs xs)(k):Ti (Qd kvs k) ((atKey xs k).map (·.2)):=by
 induction r with
 |nil=>exact True.intro
 | @cons p q ps qs h t ih=>
  obtain⟨h1,_,h2⟩:=h;by_cases e:p.1=k
  .have e':q.1=k:=h1.symm.trans e;have b:atKey (q::qs) k=aA q.2:=by simp[atKey,List.find?_cons,e']
   rw[O6 e,b];exact h2
  .have e':¬q.1=k:=λz=>e (h1.trans z);have b:atKey (q::qs) k=atKey qs k:=by simp[atKey,List.find?_cons,e']
   rw[Uq e,b];exact ih
theorem KT.repl(r:KT H kvs xs)(k)(ry:Zy y u):
  KT H (kvs.map λkv=>if kv.1=k then(kv.1,y)else kv) (xs.map (putAt k u)):=by
 induction r with
 |nil=>exact .nil
 | @cons p q ps qs h t ih=>
  rw[bc,bc];refine .cons ?_ ih;obtain⟨h1,h2,h3⟩:=h;unfold putAt;by_cases e:p.1=k
  .rw[if_pos e,if_pos (h1.symm.trans e)];exact⟨h1,h2,ry⟩
  .rw[if_neg e,if_neg (λz=>e (h1.trans z))];exact⟨h1,h2,h3⟩
theorem KT.put(r:KT H kvs xs)(k)(hb:H b=aA (.tup (k.map kV)))(ry:Zy y u):
  KT H (Qe kvs k y) (storedH xs k b u):=by
 have e:(kvs.any λkv=>decide (kv.1=k))=(atKey xs k).isSome:=by rw[Ae,(r.val k).isSome_eq,Option.isSome_map]
 unfold Qe storedH;rw[e];by_cases q:(atKey xs k).isSome=aC
 .rw[if_pos q,if_pos q];exact r.repl k ry
 .rw[if_neg q,if_neg q];exact Paired.snoc r ⟨rfl,hb,ry⟩
theorem KT.keeps(r:KT H kvs xs)(ht:∀b ys,H b=aA (.tup ys)->H' b=aA (.tup ys)):KT H' kvs xs:=
 Paired.mapP r λ_ _ z=>⟨z.1,ht _ _ z.2.1,z.2.2⟩
theorem Zdo(ok:Go P w H h)(e:Rd H a u):Yj P w H h a u:=e.ok ok
theorem Tc(ok:Go P w H h)(e:RdK H a kvs):kvs.length<=sizeLine/\(a==sysModules)=aD/\∃vs,KV kvs vs/\h.DictOf (Zr P w) a vs:=
 let⟨ep,e⟩:=e;let⟨z,y,vs,r,d⟩:=(show Yj P w H h a (.dK kvs ep)from Zdo ok e);⟨z,y,vs,r,d.dictOf⟩
theorem Zkc(ok:Go P w H h)(e:HK H a kvs):kvs.length<=sizeLine/\(a==sysModules)=aD/\∃vs,KV kvs vs/\h.DictOf (Zr P w) a vs:=Tc ok e.rd
theorem Gz(ok:Go P w H h)(e:H a=aA (.tup (ks.map kV))):(tupleKind (Zr P w)).is h ks a:=by
 obtain⟨_,its,r,o,h1,h2,n,h3⟩:=(show Yj P w H h a (.tup (ks.map kV))from ok a _ e)
 exact⟨o,its.toArray,n,h1,h2,h3,by simpa using Fr r⟩
theorem Pv(ok:Go P w H h)(e:RdT H a kvs):kvs.length<=sizeLine/\(a==sysModules)=aD/\
  ∃xs,KT H kvs xs/\h.DictOfH (tupleKind (Zr P w)) a xs:=by
 obtain⟨ep,bs,e⟩:=e;obtain⟨z,y,xs,r,o,es,h1,h2,h3,h4,h5,_⟩:=(show Yj P w H h a (.dT kvs ep bs)from Zdo ok e)
 refine⟨z,y,xs,r,o,es,ep,h1,h2,h3,h4,λx hx=>?_,h5⟩;have all:∀{l:List (List Key×V)} {m:List (List Key×aj×ah)},KT H l m->∀x∈m,(tupleKind (Zr P w)).is h x.1 x.2.1:=by
  intro l m q;induction q with
  |nil=>intro x hx;exact nomatch hx
  | @cons p q ps qs hq t ih=>
   intro x hx;rcases bx.mp hx with e|hx
   .subst e;exact Gz ok (by rw[<-hq.1];exact hq.2.1)
   .exact ih x hx
 exact all r x hx
theorem Zpv(ok:Go P w H h)(e:HTt H a kvs):kvs.length<=sizeLine/\(a==sysModules)=aD/\
  ∃xs,KT H kvs xs/\h.DictOfH (tupleKind (Zr P w)) a xs:=Pv ok e.rd
def Ur(H:Hp)(a:aj)(y:V)(r:Option V):Prop:=
 (∃kvs k,RdK H a kvs/\y=kV k/\r=Qd kvs k)\/∃kvs k b,RdT H a kvs/\y= .ref b/\H b=aA (.tup (k.map kV))/\r=Qd kvs k
def Af(H:Hp)(a:aj)(y v:V)(R:Hp->Prop):Prop:=
 (∃kvs k,HK H a kvs/\y=kV k/\kvs.length<sizeLine/\∀ep,R (Z9 H a (.dK (Qe kvs k v) ep)))\/
 ∃kvs k b,HTt H a kvs/\y= .ref b/\H b=aA (.tup (k.map kV))/\kvs.length<sizeLine/\∀ep ep0 bs,H a=aA (.dT kvs ep0 bs)->R (Z9 H a (.dT (Qe kvs k v) ep (Pn kvs bs k b)))
theorem Ur.k{k:Key}(e:HK H a kvs):Ur H a (kV k) (Qd kvs k):=.inl ⟨kvs,k,e.rd,rfl,rfl⟩
theorem Ur.t{k}(e:HTt H a kvs)(eb:H b=aA (.tup (k.map kV))):Ur H a (.ref b) (Qd kvs k):=.inr ⟨kvs,k,b,e.rd,rfl,eb,rfl⟩
theorem Af.k{k:Key}(e:HK H a kvs)(hl:kvs.length<sizeLine)(h:∀ep,R (Z9 H a (.dK (Qe kvs k v) ep))):Af H a (kV k) v R:=.inl ⟨kvs,k,e,rfl,hl,h⟩
theorem Af.t{k}(e:HTt H a kvs)(eb:H b=aA (.tup (k.map kV)))(hl:kvs.length<sizeLine)(h:∀ep ep0 bs,H a=aA (.dT kvs ep0 bs)->R (Z9 H a (.dT (Qe kvs k v) ep (Pn kvs bs k b)))):
  Af H a (.ref b) v R:=.inr ⟨kvs,k,b,e,rfl,eb,hl,h⟩
section
variable{X:Cx}{pins:List (aj×Obj)}{σ:St}{H:Hp}{s:am}{a:aj}{y v:V}{u r:ah}{o:Option V}{A:dh}{E:ah->am->Prop}
theorem Inv.big(I:Inv X pins σ H s):sysModules<s.heap.objs.size:=by have h:b7<s.heap.objs.size:=(I.mod.glob.keeps I.bk).lt;exact Nat.lt_trans (by decide) h
theorem Zbk(hu:A.units+1<f6)(I:Inv X pins σ H s)(g:Ur H a y (aA v))(ry:Zy y u)(h:∀w' s',Inv X pins σ H s'->Zy v w'->Q w' s'):
  bg (b4 X.prog X.w) A (getItem (.ref a) u) Q E s:=by
 rcases g with⟨kvs,k,e,ey,l⟩|⟨kvs,k,b,e,ey,eb,l⟩
 .subst ey;obtain⟨z,hd,vs,rel,dd⟩:=Tc I.hok e;obtain⟨w',hw,rw'⟩:=Ti.some_of (v:=v) (o:=valueAt vs k) (by rw[l];exact rel.val k);exact wpAny_getItem_of (Fq ry) dd.mapOf hw (h w' _ (I.tok _) rw')
 .subst ey;cases(show u=b8 b from ry);obtain⟨z,hd,xs,rel,dd⟩:=Pv I.hok e;obtain⟨w',hw,rw'⟩:=Ti.some_of (v:=v) (o:=(atKey xs k).map (·.2)) (by rw[l];exact rel.val k);obtain⟨p,hp,hp2⟩:=cm.mp hw;refine wpAny_getItem_heap (tupleKind_room_in1 hu) (Gz I.hok eb) dd hp ?_;rw[hp2];exact h w' _ (I.tok _) rw'
theorem Zun(hu:A.units+1<f6)(I:Inv X pins σ H s)(g:Ur H a y o)(ry:Zy y u)(h:∀s',Inv X pins σ H s'->Q (.bool o.isSome) s'):
  bg (b4 X.prog X.w) A (g9 .In u (.ref a)) Q E s:=by
 rcases g with⟨kvs,k,e,ey,l⟩|⟨kvs,k,b,e,ey,eb,l⟩
 .subst ey;obtain⟨z,hd,vs,rel,dd⟩:=Tc I.hok e;refine wpAny_in_of (Fq ry) hd dd.mapOf ?_;rw[<-(rel.val k).isSome_eq,<-l];exact h _ (I.tok _)
 .subst ey;cases(show u=b8 b from ry);obtain⟨z,hd,xs,rel,dd⟩:=Pv I.hok e;refine wpAny_in_heap (tupleKind_room_in1 hu) (Gz I.hok eb) hd dd ?_;have q:=(rel.val k).isSome_eq;rw[Option.isSome_map]at q;rw[<-q,<-l];exact h _ (I.tok _)
theorem Zht(hu:A.units+1<f6)(I:Inv X pins σ H s)(g:Ur H a y o)(ry:Zy y u)(h:∀s',Inv X pins σ H s'->Q (.bool (!o.isSome)) s'):
  bg (b4 X.prog X.w) A (g9 .NotIn u (.ref a)) Q E s:=by
 rcases g with⟨kvs,k,e,ey,l⟩|⟨kvs,k,b,e,ey,eb,l⟩
 .subst ey;obtain⟨z,hd,vs,rel,dd⟩:=Tc I.hok e;refine wpAny_notIn_of (Fq ry) hd dd.mapOf ?_;rw[<-(rel.val k).isSome_eq,<-l];exact h _ (I.tok _)
 .subst ey;cases(show u=b8 b from ry);obtain⟨z,hd,xs,rel,dd⟩:=Pv I.hok e;refine wpAny_notIn_heap (tupleKind_room_in1 hu) (Gz I.hok eb) hd dd ?_;have q:=(rel.val k).isSome_eq;rw[Option.isSome_map]at q;rw[<-q,<-l];exact h _ (I.tok _)
theorem Tv(I:Inv X pins σ H s)(mu:Mut (H a))(hs:io a s.heap h')(he:∃q,h'.get? a=aA q)(new:Yj X.prog X.w (Z9 H a ob) h' a ob):
  Inv X pins σ (Z9 H a ob) {s with heap:=h',toks:=t'}:=
 I.write (x:=a) (e:=a) mu (.inl rfl) (λb q hb z=>(hs.2 b hb).trans z) he new
theorem V9(z:kvs.length<=sizeLine)(hd:(a==sysModules)=aD)(rel:KV kvs vs)(dd:h'.DictOf (Zr P w) a vs):
  ∃ep,∀H',Yj P w H' h' a (.dK kvs ep):=let⟨ep,dd⟩:=dd.dictAt;⟨ep,λ_=>⟨z,hd,vs,rel,dd⟩⟩
theorem Zbl(hu:A.units+1<f6)(I:Inv X pins σ H s)(g:Af H a y v R)(ry:Zy y u)(rv:Zy v r)(h:∀H' s',R H'->Inv X pins σ H' s'->Q () s'):
  bg (b4 X.prog X.w) A (setItem (.ref a) u r) Q E s:=by
 rcases g with⟨kvs,k,e,ey,l,eH⟩|⟨kvs,k,b,e,ey,eb,l,eH⟩
 .subst ey;obtain⟨z,hd,vs,rel,dd⟩:=Zkc I.hok e;have hz:vs.length<=sizeLine:=by rw[<-rel.length];exact z
  have hl:(Qe kvs k v).length<=sizeLine:=by have:=Ch kvs k v;omega
  refine wpAny_setItem_pairs (hsz:=hz) (Fq ry) dd λh' dd' hs=>?_;have he:∃q,h'.get? a=aA q:=let⟨q,_,_,hq,_⟩:=dd';⟨q,hq⟩
  obtain⟨ep,ok⟩:=V9 hl hd (rel.put k rv) dd';exact h _ _ (eH ep) (Tv I (by obtain⟨e0,e⟩:=e;rw[e];exact True.intro) hs he (ok _))
 .subst ey;cases(show u=b8 b from ry);obtain⟨z,hd,xs,rel,dd⟩:=Zpv I.hok e;have hz:xs.length<=sizeLine:=by rw[<-ig rel];exact z
  have hl:(Qe kvs k v).length<=sizeLine:=by have:=Ch kvs k v;omega
  refine wpAny_setItem_heap (hsz:=hz) (tupleKind_room_in1 hu) (Gz I.hok eb) dd λh' dd' hs=>?_;obtain⟨q,es,ep,hq,h2,h3,h4,_,h5⟩:=dd';obtain⟨e0,bs,e⟩:=e;have hb:(xs.map λx=>x.2.1)=bs:=by
   obtain⟨_,_,xs',r',_,_,w1,_,w3,w4,_,w6⟩:=(show Yj X.prog X.w H s.heap a (.dT kvs e0 bs)from I.hok a _ e)
   obtain⟨_,_,_,y1,_,y3,y4,_⟩:=dd;rw[w1]at y1;cases y1;rw[w3]at y3;cases y3;have:xs'.map (λx=>x.2.1)=xs.map λx=>x.2.1:=by
    have z:=congrArg (List.map DictEntry.key) (w4.symm.trans y4);rw[cg,cg]at z;have inj:∀{l m:List (List Key×aj×ah)},l.map (DictEntry.key∘entryOfKey (tupleKind (Zr X.prog X.w)))=m.map (DictEntry.key∘entryOfKey (tupleKind (Zr X.prog X.w)))->(l.map λx=>x.2.1)=m.map λx=>x.2.1:=by
     intro l;induction l with
     |nil=>intro m z;cases m with
      |nil=>rfl
      |cons _ _=>cases z
     |cons x l ih=>intro m z;cases m with
      |nil=>cases z
      |cons y m=>rw[bc,bc]at z⊢;injection z with z1 z2;have z1':b8 x.2.1=b8 y.2.1:=z1;injection z1' with z1';rw[z1',ih z2]
    exact inj z
   rw[<-this];exact w6
  have hb2:((storedH xs k b r).map λx=>x.2.1)=Pn kvs bs k b:=by
   have ee:(kvs.any λkv=>decide (kv.1=k))=(atKey xs k).isSome:=by rw[Ae,(rel.val k).isSome_eq,Option.isSome_map]
   unfold Pn storedH;rw[ee];by_cases qq:(atKey xs k).isSome=aC
   .rw[if_pos qq,if_pos qq,cg,<-hb];refine List.map_congr_left λx _=>?_;show(putAt k r x).2.1=x.2.1;unfold putAt;split<;> rfl
   .rw[if_neg qq,if_neg qq,b9,hb];rfl
  refine h _ _ (eH ep e0 bs e) (Tv I (by rw[e];exact True.intro) hs ⟨q,hq⟩ ⟨hl,hd,_,(rel.put k eb rv).keeps λc ys ec=>?_,q,es,hq,h2,h3,h4,h5,hb2⟩);rw[Zw (T9 ec e (λz=>nomatch z))];exact ec
end
def Zmh(i:cj):Prop:=∀ov iv,subscripted i aD ov iv=operate [ov,iv] (getItem ov iv)
theorem Da{id:String}(hl:typeLookup (.type T) "__getitem__"=pure (aA (.builtin id)))(hs:Zmh slice)(h:bg (b4 prog w) A (gp value env) (λo s₁=>bg (b4 prog w) A (gp slice env) (λi s₂=>s₂.TypeIs o T/\bg (b4 prog w) A (getItem o i) Q E s₂) E s₁) E s):
  bg (b4 prog w) A (gp (.Subscript value slice pos) env) Q E s:=by
 refine Subscript_ (wpAny_mono h (λo s₁ h₁=>wpAny_mono h₁ (λi s₂ h₂=>?_) λ_ _ x=>x) λ_ _ x=>x);obtain⟨hT,h₂⟩:=h₂;unfold subscriptTail;refine ac ?_;rw[getitemInPython_of_ne hT.not_modules];refine ac (wpAny_specialOf hT hl ?_);have fin:bg (b4 prog w) A (subscripted slice aD o i) (λr s₃=>bg (b4 prog w) A (letTemporaryGo value o r >>=λ_=>pure r) Q E s₃) E s₂:=by rw[hs o i];exact wpAny_operating (wpAny_mono h₂ (λr s₃ h₃=>ac (wpAny_letTemporaryGo (ag h₃))) λ_ _ x=>x)
 first
  |exact ag (ac fin)
  |exact ac (ag (ac fin))
  |exact ac fin
theorem Pw{σ:St}(I:Inv X pins σ H s)(g:Ur H a y o):s.TypeIs (.ref a) "dict":=by
 rcases g with⟨kvs,k,e,_,_⟩|⟨kvs,k,b,e,_,_,_⟩
 .obtain⟨_,_,vs,_,dd⟩:=Tc I.hok e;exact dd.typeIs
 .obtain⟨_,_,xs,_,dd⟩:=Pv I.hok e;exact dd.typeIs
def Zkd(td ty:TE):TE:=λσ H Q=>td σ H λx H1=>ty σ H1 λy H2=>∃a v,x= .ref a/\Ur H2 a y (aA v)/\Q v H2
def Zzx(ty td:TE):TE:=λσ H Q=>ty σ H λy H1=>td σ H1 λx H2=>∃a o,x= .ref a/\Ur H2 a y o/\Q (.bl o.isSome) H2
def Zs3(ty td:TE):TE:=λσ H Q=>ty σ H λy H1=>td σ H1 λx H2=>∃a o,x= .ref a/\Ur H2 a y o/\Q (.bl (!o.isSome)) H2
def Zdp(td ty tv:TE):TS:=λD σ H=>tv σ H λv H1=>td σ H1 λx H2=>ty σ H2 λy H3=>∃a,x= .ref a/\Af H3 a y v (D.nx σ)
def Zxl(td ty tv:TE)(rd:V->V->Hp->VK->Prop):TS:=λD σ H=>td σ H λx H1=>ty σ H1 λy H2=>∃a v,x= .ref a/\Ur H2 a y (aA v)/\
 tv σ H2 λy2 H3=>rd v y2 H3 λz H4=>Af H4 a y z (D.nx σ)
def Zxm(td ty:TE):TS:=λD σ H=>td σ H λx H1=>ty σ H1 λy H2=>∃a kvs k,x= .ref a/\HK H2 a kvs/\y=kV k/\(Qd kvs k).isSome=aC/\∀ep,D.nx σ (Z9 H2 a (.dK (Zdm kvs k) ep))
theorem Zhu(hu:X.A.units+1<f6)(ho:PE X o td)(hi:PE X i ty)(hs:Zmh i):PE X (.Subscript o i pos) (Zkd td ty):=by intro pins s σ H Q I h;refine Da PySem.F.slot_dict_getitem.lookup hs (Wp (ho pins s σ H _ I h) λu s1 ⟨x,H1,I1,rx,q1⟩=>Wp (hi pins s1 σ H1 _ I1 q1) λiv s2 zq9=>?_);obtain⟨y,H2,I2,ry,a,v,ex,g,q2⟩:=zq9;subst ex;obtain rfl:u=b8 a:=rx;exact⟨Pw I2 g,Zbk hu I2 g ry λw' s3 I3 rw'=>⟨v,H2,I3,rw',q2⟩⟩
theorem Db(hu:X.A.units+1<f6)(ho:PE X o td)(hi:PE X i ty)(hv:PE X value tv)(hs:swapsWith value (aA (.Subscript o i pos')) pos.line X.env=pure aD):
  PS X (.Assign [.Subscript o i pos'] value pos) (Zdp td ty tv):=by
 intro pins s σ H D I h;refine wpAny_Assign_Subscript (Wp (hv pins s σ H _ I h) λr s1 ⟨v,H1,I1,rv,q1⟩=>Wp (ho pins s1 σ H1 _ I1 q1) λu s2 ⟨x,H2,I2,rx,q2⟩=>Wp (hi pins s2 σ H2 _ I2 q2) λiv s3 ⟨y,H3,I3,ry,a,ex,g⟩=>?_) hs;subst ex;obtain rfl:u=b8 a:=rx;exact Zbl hu I3 g ry rv λH4 s4 q3 I4=>⟨σ,H4,I4,q3⟩
theorem Px(h:d6)(hb:sysModules<h.objs.size):Yj P w H (h.push {cls:=.type "dict",data:=.dict #[]}) h.objs.size (.dK [] 0):=
 ⟨f7 _,beq_eq_false_iff_ne.mpr (Ne.symm (cf hb)),[],.nil,_, #[],bp _ rfl,⟨rfl,rfl,rfl⟩,rfl,λ_ he=>by simp at he,Pairs.nil,df⟩
def Ag:TE:=λ_ H Q=>∀p,H p=aB->Q (.ref p) (Z9 H p (.dK [] 0))
def Zuo:TE:=λ_ H Q=>∀p,H p=aB->Q (.ref p) (Z9 H p (.dT [] 0 []))
theorem Ro:PE X (.Dict [] [] pos) Ag:=λpins s σ H Q I h=>
 wpAny_Dict_empty ⟨.ref s.heap.objs.size,_,I.laid (a:=s.heap.objs.size) (o:=.dK [] 0) (t':=s.toks) (λ_ _ q=>au _ q) (ba _) (Px s.heap I.big),rfl,h _ (I.hok.fresh (ba _))⟩
def Lw:List (TE×TE)->St->Hp->(List (V×V)->Hp->Prop)->Prop
  | [],_,H,Q=>Q [] H
  | (tk,tv)::r,σ,H,Q=>tk σ H λx H1=>tv σ H1 λy H2=>Lw r σ H2 λps H3=>Q ((x,y)::ps) H3
abbrev VV:List (V×V)->List (ah×ah)->Prop:=Paired λp q=>Zy p.1 q.1/\Zy p.2 q.2
def PPs(X:Cx)(pos:Pos)(keys:List (Option cj))(values:List cj)(trs:List (TE×TE)):Prop:=
 ∀(pins:List (aj×Obj)) (s:am) (σ:St) (H:Hp) (Q:List (V×V)->Hp->Prop),Inv X pins σ H s->Lw trs σ H Q->
  bg (b4 X.prog X.w) X.A (evalPairs (pairTrees keys values X.env pos)) (λvs s'=>∃ps H',Inv X pins σ H' s'/\VV ps vs/\Q ps H') X.xe s
theorem Zhv:PPs X pos [] [] []:=λpins s σ H Q I h=>pairTrees_nil_walk ⟨[],H,I,.nil,h⟩
theorem Zdq(hk:PE X k tk)(hv:PE X v tv)(hr:PPs X pos ks vs trs):
  PPs X pos (aA k::ks) (v::vs) ((tk,tv)::trs):=λpins s σ H Q I h=>
 pairTrees_cons_walk (Wp (hk pins s σ H _ I h) λu s1 ⟨x,H1,I1,rx,q1⟩=>Wp (hv pins s1 σ H1 _ I1 q1) λw2 s2 ⟨y,H2,I2,ry,q2⟩=>
  Wp (hr pins s2 σ H2 _ I2 q2) λws s3 ⟨ps,H3,I3,rel,q3⟩=>⟨(x,y)::ps,H3,I3,.cons ⟨rx,ry⟩ rel,q3⟩)
def On(kvs more:List (Key×V)):List (Key×V):=more.foldl (λacc kv=>Qe acc kv.1 kv.2) kvs
theorem KV.merge:∀{more:List (Key×V)} {rs:List (Key×ah)} {kvs:List (Key×V)} {vs:List (Key×ah)},KV more rs->KV kvs vs->KV (On kvs more) (merged vs rs):=by
 intro more rs kvs vs r;unfold KV at r;induction r generalizing kvs vs with
 |nil=>intro q;exact q
 | @cons p q ps qs h t ih=>
  intro r0;have e:KV (Qe kvs p.1 p.2) (stored vs q.1 q.2):=by have:=r0.put p.1 h.2;rw[<-h.1];exact this
  exact ih e
theorem Gp:∀more kvs,(On kvs more).length<=kvs.length+more.length
 | [],kvs=>by show kvs.length<=kvs.length+0;omega
 |p::r,kvs=>by have h1:=Gp r (Qe kvs p.1 p.2);have h2:=Ch kvs p.1 p.2;show(On (Qe kvs p.1 p.2) r).length<=_;rw[bf];omega
theorem Ah:∀{kvs:List (Key×V)} {ws:List (ah×ah)},VV (kvs.map λkv=>(kV kv.1,kv.2)) ws->∃rs,Carries (Zr P w) ws rs/\KV kvs rs
 | [],_,r=>by rw[List.map_nil]at r;cases r;exact⟨[],True.intro,.nil⟩
 |p::kvs,_,r=>by
  rw[bc]at r;cases r with
  | @cons a b as bs h t=>obtain⟨rs,c,q⟩:=Ah (P:=P) (w:=w) t;obtain⟨b1,b2⟩:=b;exact⟨(p.1,b2)::rs,⟨Fq h.1,rfl,c⟩,.cons ⟨rfl,h.2⟩ q⟩
def Zxn(trs:List (TE×TE)):TE:=λσ H Q=>∀p,H p=aB->Lw trs σ (Z9 H p (.dK [] 0)) λps H2=>H2 p=aA (.dK [] 0)/\∃kvs:List (Key×V),ps=kvs.map (λkv=>(kV kv.1,kv.2))/\kvs.length<=15/\∀ep,Q (.ref p) (Z9 H2 p (.dK (On [] kvs) ep))
structure M1(X:Cx)(o:cj)(m:Str)(apos:Pos)(e:cj)(cpos:Pos):Prop where
 base:attributeBase o m X.env (gp o X.env)=gp o X.env
 few:((gq cpos (a9 [e] X.env)).all (λx=>!x.1)&&(backToKw cpos (keywordEach [] X.env)).all (λx=>x.1.isSome)
  &&decide (([e]:List cj).length+([]:List Keyword).length+(if([]:List Keyword).isEmpty then 0 else 1)<30))=aC
 line:(apos.endLine==cpos.line)=aC
 trees:gq cpos (a9 [e] X.env)=[(aD,gp e X.env)]
structure M2(X:Cx)(o:cj)(m:Str)(apos:Pos)(e f:cj)(cpos:Pos):Prop where
 base:attributeBase o m X.env (gp o X.env)=gp o X.env
 few:((gq cpos (a9 [e,f] X.env)).all (λx=>!x.1)&&(backToKw cpos (keywordEach [] X.env)).all (λx=>x.1.isSome)
  &&decide (([e,f]:List cj).length+([]:List Keyword).length+(if([]:List Keyword).isEmpty then 0 else 1)<30))=aC
 line:(apos.endLine==cpos.line)=aC
 trees:gq cpos (a9 [e,f] X.env)=[(aD,gp e X.env),(aD,gp f X.env)]
def IsD(H:Hp)(a:aj):Prop:=(∃kvs,RdK H a kvs)\/∃kvs,RdT H a kvs
def Zup(td ty:TE):TE:=λσ H Q=>td σ H λx H1=>∃a,x= .ref a/\IsD H1 a/\ty σ H1 λy H2=>∃o,Ur H2 a y o/\Q (o.getD .non) H2
def Zuq(td ty tx:TE):TE:=λσ H Q=>td σ H λx H1=>∃a,x= .ref a/\IsD H1 a/\ty σ H1 λy H2=>tx σ H2 λz H3=>∃o,Ur H3 a y o/\Q (o.getD z) H3
def Zur(td ty:TE):TE:=λσ H Q=>td σ H λx H1=>∃a,x= .ref a/\IsD H1 a/\ty σ H1 λy H2=>∃kvs k v,HK H2 a kvs/\y=kV k/\Qd kvs k=aA v/\∀ep,Q v (Z9 H2 a (.dK (Zdm kvs k) ep))
def Zus(td ty tx:TE):TE:=λσ H Q=>td σ H λx H1=>∃a,x= .ref a/\IsD H1 a/\ty σ H1 λy H2=>tx σ H2 λz H3=>∃kvs k,HK H3 a kvs/\y=kV k/\
 (∀v ep,Qd kvs k=aA v->Q v (Z9 H3 a (.dK (Zdm kvs k) ep)))/\(Qd kvs k=aB->Q z H3)
theorem Zdr{σ:St}(I:Inv X pins σ H s)(e:RdK H a kvs)(h:∀p ep s',H p=aB->Inv X pins σ (Z9 H p (.dK kvs ep)) s'->Q (.ref p) s'):bg (b4 X.prog X.w) A (call (.type "dict") [.ref a]) Q E s:=by obtain⟨z,hd,vs,rel,dd⟩:=Tc I.hok e;refine kt_call_dict hd dd (by rw[<-rel.length];exact z) λh' dd' hs=>?_;obtain⟨ep,ok⟩:=V9 z (beq_eq_false_iff_ne.mpr (Ne.symm (cf I.big))) rel dd';refine h _ ep _ (I.hok.fresh (ba _)) (I.laid (a:=s.heap.objs.size) (o:=.dK kvs ep) (t':=s.toks) (λb q hq=>?_) (ba _) (ok _));exact(hs.2 b (cf (bo hq))).trans (au _ hq)
end L2
namespace Att
open PySem PySem.W PySem.Calls PyProof.Rows
theorem Tj:∀ns vs,WellAll P h vs (ns.map WData.int)->IntsAre vs ns:=by
 intro ns;induction ns with
 |nil=>intro vs w;rw[List.map_nil]at w;cases w;exact .nil
 |cons n ns ih=>
  intro vs w;rw[bc]at w;cases w with
  |cons a b=>cases a;exact .cons _ _ (ih _ b)
theorem Zbm{l:OpenLaw}(hn:l.most=aA n)(hpre:l.row.toRowW.claim.pre args=aC)(hwl:WellAll P h vals args):
  ∃a vs ns,vals=[b8 a]/\args=[WData.list (ns.map WData.int)]/\h.get? a=aA {cls:=.type "list",data:=.seq vs.toArray}/\IntsAre vs ns/\ns.length<=n:=by
 have hsh:WShape.hasAll [] args [.list .int]=aC:=(pre_splitW hpre).1;have hc:l.pre.holds [] {args:=args}=aC:=(pre_splitW hpre).2;obtain⟨d,r,rfl,h1,h2⟩:=hasAllW_cons hsh;obtain rfl:=hasAllW_nil h2;obtain⟨xs,rfl,h3⟩:=hasW_list h1;obtain⟨ns,rfl⟩:=items_int h3;have hlen:ns.length<=n:=by
  unfold OpenLaw.pre at hc;have h4:(WTm.not (.lt (.lit (.int (n:Int))) (.len (.arg 0)))).holds [] {args:=[.list (ns.map .int)]}=aC:=by have h4:=(holds_andW hc).1;rw[hn]at h4;exact h4
  have h5:=condW_of h4 (w_not (w_lt w_lit (w_len_list (w_arg rfl))));rw[aq]at h5;refine Nat.le_of_not_lt λq=>?_;have q':(n:Int)<((ns.length:Nat):Int):=by omega
  first
   | (rw[decide_eq_true q']at h5;exact absurd h5 (by decide))
   | (simp at h5;omega)
 cases hwl with
 |cons w1 w2=>
  cases w2;cases w1 with
  |list ho hall=>exact⟨_,_,ns,rfl,rfl,ho,Tj ns _ hall,hlen⟩
theorem Zbn(l:OpenLaw)(args):l.row.toRowW.claim.post args (.bool aC) args=aC:=
 postW_of (r:=l.row.toRowW) (X:=(aC==aC))
  (show WShape.has [] (.bool aC) .bool=aC by first|rfl|decide|simp[WShape.has,WShape.arms,WShape.armsAll])
  (show(WTm.eq .res (.lit (.bool aC))).value [] {args:=args,res:=aA (.bool aC),after:=args}=aA (.bool (aC==aC))from w_eq_bool (w_res rfl) w_lit) rfl
theorem attach_call{l:OpenLaw}(hn:l.most=aA n)(hdf:d.params.defaults=[])(call:∀w s₀ s₁ mg mb fa o pm cd doc a vs ns,
   Ground q loose [] XP w s₀ mg mb s₁.heap->YP w s₁.heap->
   s₁.heap.get? fa=aA o->o.data= .func (docDef d.name d.params d.body d.scope pm cd doc)->s₁.heap.CodeRec cd d.name->mg d.name=aA (.ref fa)->
   s₁.heap.get? a=aA {cls:=.type "list",data:=.seq vs.toArray}->IntsAre vs ns->ns.length<=n->s₁.gens= #[]->
   codeAny (b4 l.prog w) callerA (.call (.ref fa) ⟨[.ref a],[]⟩) (λr s'=>r= .ok (.ret (.bool aC))/\OldK s₁.heap s'.heap/\s'.os=s₁.os/\AllBare s'.gens) s₁):
  WalkO q loose XP YP l.row.toRowW d [] (λf vs=>PySem.call f vs):=by
 intro w s₀ s₁ mg mb G Y fa o pm cd doc dV kV ho hd hcd hD hmg hg args vals as hpre hlay hrd hwl hlo;obtain rfl:dV= .none:=Dflts.none hD hdf;obtain rfl:kV= .none:=Dflts.noKw hD;obtain⟨a,vs,ns,rfl,rfl,hobj,hints,hlen⟩:=Zbm hn hpre hwl;refine enter_call (codeAny_mono (call w s₀ s₁ mg mb fa o pm cd doc a vs ns G Y ho (fd_plain hd) hcd hmg hobj hints hlen hg) λr s' hq=>?_);obtain⟨rfl,h2,h3,h4⟩:=hq;exact⟨.inl ⟨.bool aC,.bool aC,[],rfl,λ_=>rfl,.bool aC,Zbn l _,λ_=>⟨List.Pairwise.nil,λ_ hm=>(nomatch hm)⟩⟩,h2,h3,h4⟩
noncomputable def Zut(h:d6):Heap:={h with objs:= #[]}
noncomputable def Zuu(h:d6)(L d:aj):List (aj×Obj):=(cq h.objs.size).filterMap λa=>if a=L\/a=d then aB else(h.get? a).map λo=>(a,o)
end Att
namespace L2
open PySem PySem.Spec PyProof.Rows
theorem Fs:∀{vs:List ah} {ns:List Int},IntsAre vs ns->Z2 (ns.map V.int) vs
 |_,_,.nil=>.nil
 |_,_,.cons n t h=>.cons ⟨t,rfl⟩ (Fs h)
def Zds(H:Hp):Prop:=∀b,H b=aB\/∃o xs,H b=aA (.frz o (.lst xs))
theorem Zdt {P : b6} {w : c7} {K : ad} {mg mb : Str -> Option ah} {CX : CXT} {k : Nat} {fa a : aj} {fd : ci} {x : Str} {sp : Sp} {s₁ : am} {vs : List ah} {ns : List Int}
    (KX : K.In s₁.heap) (hns : s₁.heap.Ns b7 mg) (hb : s₁.heap.Ns builtinsNs mb) (hbb : ∀ x : Str, x ≠ "__name__" -> mb x = bootBuiltins x) (hlim : s₁.heap.NoLimit) (hg : s₁.gens = #[])
    (ha : s₁.heap.get? a = aA { cls := .type "list", data := .seq vs.toArray }) (hi : IntsAre vs ns) (hl : ns.length <= sizeLine) (hr : Room k callerA)
    (F : ∀ base : d6, K.In base -> base.Ns b7 mg -> FnOk P w K mg base CX k fa fd [x] sp) (hbind : ∀ (s : am) (u : ah), BindsTo s fd ⟨[u], []⟩ [(x, u)])
    (hsp : ∀ H : Hp, Zds H -> W5 K H a (ns.map V.int) -> sp [.ref a] H (λv _ => v = .bl aC) λ_ _ _ => False)
    (hCX : ∀ H e s', CX [] H s₁ (λ_ _ _ => False) e s' -> False) :
    codeAny (b4 P w) callerA (.call (.ref fa) ⟨[.ref a], []⟩) (λr s' => r = .ok (.ret (.bool aC)) /\ OldK s₁.heap s'.heap /\ s'.os = s₁.os /\ AllBare s'.gens) s₁ := by
  have rv := Fs hi;have lenV := hi.length
  -- from an abstract heap in which nothing but the script may be tracked
  have core : ∀ H : Hp, Zds H -> W5 K H a (ns.map V.int) -> Go P w H s₁.heap -> (∀ b, H b ≠ aB -> b = a) -> (H a ≠ aB -> K.lookup a = aB) ->
      codeAny (b4 P w) callerA (.call (.ref fa) ⟨[.ref a], []⟩) (λr s' => r = .ok (.ret (.bool aC)) /\ OldK s₁.heap s'.heap /\ s'.os = s₁.os /\ AllBare s'.gens) s₁ := by
    intro H hO hS hok hA hK;have base_of : ∀ {b : aj} {o : Obj}, s₁.heap.get? b = aA o -> H b = aB -> (Ll s₁.heap H).get? b = aA o := λe n => Zcy e n;have noA : ∀ {b : aj} {o : Obj} {es : Array DictEntry} {ep : Nat}, s₁.heap.get? b = aA o -> o.data = .dict es ep -> H b = aB := λ{b o es ep} e d => by
      cases q : H b with
      | none => rfl
      | some u =>have e' : b = a := hA b (by rw [q]; simp);subst e';rw [ha] at e; cases e;have d' : Data.seq vs.toArray _ = Data.dict es ep := d;cases d'
    have nsK : ∀ {b : aj} {m : Str -> Option ah}, s₁.heap.Ns b m -> (Ll s₁.heap H).Ns b m := λ{b m} ⟨o, es, ep, e, d, r⟩ => ⟨o, es, ep, base_of e (noA e d), d, r⟩
    have hKb : K.In (Ll s₁.heap H) := λb o e => base_of (KX b o e) (by
      cases q : H b with
      | none => rfl
      | some u =>
        have e' : b = a := hA b (by rw [q]; simp);subst e';rw [hK (by rw [q]; simp)] at e; cases e)
    have hM : Mod K mg (Ll s₁.heap H) := ⟨hKb, nsK hns, ⟨mb, nsK hb, hbb⟩, let ⟨mc, h1, h2⟩ := hlim; ⟨mc, nsK h1, h2⟩⟩
    have e0 : Env0 P w K mg (Ll s₁.heap H) callerA [] s₁ H := ⟨rfl, hM, λb o e => Zha e, Nat.le_of_eq (Za7 _ _), trivial, λb hb => absurd (show b ∈ ([] : List aj) from hb) (by simp), hok, .of_eq hg⟩
    refine codeAny_mono ((F _ hKb (nsK hns)).run callerA [] s₁ H ⟨[.ref a], []⟩ [.ref a] [.ref a] _ _ hr e0 (hbind s₁ (.ref a)) (.cons rfl .nil) (hsp H hO hS)) λr s' h => ?_;cases r with
    | error e => exact (hCX H e s' h).elim
    | ok fl =>
      cases fl with
      | next => exact False.elim h
      | brk => exact False.elim h
      | cont => exact False.elim h
      | ret u =>
        obtain ⟨v, H', os, bare, un, hok', r', q⟩ := h;have q' : v = .bl aC := q;subst q';obtain rfl : u = Value.bool aC := r';refine ⟨rfl, OldK.of_keep λb o e => ?_, os, bare⟩;cases q : H b with
        | none => exact un.keep b o e q (by intro z; exact absurd (show b ∈ ([] : List aj) from z) (by simp)) (by simp)
        | some u =>
          rcases hO b with z | ⟨ob, xs, z⟩
          · rw [q] at z; cases z
          · have z2 := un.frzs b ob _ z
            obtain ⟨e1, _⟩ := hok b _ z;obtain ⟨e2, _⟩ := hok' b _ z2;rw [e] at e1; cases e1;exact e2
  cases hk : K.lookup a with
  | some o =>
    -- the script is one of the module's own objects
    have e := KX a o hk;rw [ha] at e;cases e;refine core (λ_ => aB) (λ_ => .inl rfl) (.inr ⟨_, vs.toArray, _, hk, rfl, rfl, rfl, by rw [bq, lenV]; exact hl, by simpa using rv⟩) (λb u z => by have z' : (aB : Option HO) = aA u := z; cases z') (λb z => absurd rfl z) λz => absurd rfl z
  | none =>
    refine core (λb => if b = a then aA (.frz { cls := .type "list", data := .seq vs.toArray } (.lst (ns.map V.int))) else aB) (λb => ?_) (.inl (.inr ⟨{ cls := .type "list", data := .seq vs.toArray }, if_pos rfl⟩)) (λb u z => ?_) (λb z => ?_) λ_ => hk
    · by_cases hb : b = a
      · exact .inr ⟨_, _, if_pos hb⟩
      · exact .inl (if_neg hb)
    · by_cases hb : b = a
      · have z' := (if_pos hb).symm.trans z
        cases z';subst hb;exact ⟨ha, by rw [aq]; exact hl, vs, _, rv, ha⟩
      · have z' := (if_neg hb).symm.trans z
        cases z'
    · by_cases hb : b = a
      · exact hb
      · exact absurd (if_neg hb) z
noncomputable abbrev KOf{K:ad}{h:d6}(_:K.In h):PySem.W.Frag:=K
theorem Zhw{l:PySem.W.OpenLaw}{K:Params->ad}{CX:c7->CXT}{sp:c7->Sp}(hn:l.most=aA n)(hn2:n<=sizeLine)(hdf:d.params.defaults=[])(hr:Room k callerA)(hY:∀w h,YP w h->(K w.params).In h)(F:∀w mg fa h,(K w.params).In h->h.Ns b7 mg->mg d.name=aA (.ref fa)->
   ∃fd,(∀s u,BindsTo s fd ⟨[u],[]⟩ [(x,u)])/\
    ∀base,(K w.params).In base->base.Ns b7 mg->FnOk l.prog w (K w.params) mg base (CX w) k fa fd [x] (sp w))(hsp:∀w H a (ns:List Int),ns.length<=n->Zds H->W5 (K w.params) H a (ns.map V.int)->sp w [.ref a] H (λv _=>v= .bl aC) λ_ _ _=>False)(hCX:∀w H s e s',CX w [] H s (λ_ _ _=>False) e s'->False):
  PySem.W.WalkO q loose XP YP l.row.toRowW d [] (λf vs=>PySem.call f vs):=by
 refine Att.attach_call hn hdf λw s₀ s₁ mg mb fa o pm cd doc a vs ns G Y ho hd hcd hmg hobj hints hlen hg=>?_;have KX:=hY w _ Y;obtain⟨fd,hb,hF⟩:=F w mg fa _ KX G.T.g hmg;exact Zdt KX G.T.g G.T.b G.T.builtins G.T.nolimit hg hobj hints (dk hlen hn2) hr hF hb (λH hO hS=>hsp w H a ns hlen hO hS) λH e s'=>hCX w H s₁ e s'
theorem Zdu{l:PySem.W.OpenLaw}{K:Params->ad}{sp:ad->Sp}(hn:l.most=aA n)(hn2:n<=sizeLine)(hdf:d.params.defaults=[])(hr:Room k callerA)(hY:∀w h,YP w h->(K w.params).In h)(F:∀w mg fa h,(K w.params).In h->h.Ns b7 mg->mg d.name=aA (.ref fa)->
   ∃fd,(∀s u,BindsTo s fd ⟨[u],[]⟩ [(x,u)])/\
    ∀base,(K w.params).In base->base.Ns b7 mg->FnOk l.prog w (K w.params) mg base CX k fa fd [x] (sp (K w.params)))(hsp:∀K H a (ns:List Int),ns.length<=n->Zds H->W5 K H a (ns.map V.int)->sp K [.ref a] H (λv _=>v= .bl aC) λ_ _ _=>False)(hCX:∀H s e s',CX [] H s (λ_ _ _=>False) e s'->False):
  PySem.W.WalkO q loose XP YP l.row.toRowW d [] (λf vs=>PySem.call f vs):=
 Zhw (K:=K) (CX:=λ_=>CX) (sp:=λw=>sp (K w.params)) hn hn2 hdf hr hY F (λw H a ns h1 h2 h3=>hsp (K w.params) H a ns h1 h2 h3) λ_ H s e s'=>hCX H s e s'
noncomputable def Zs5(s:Stmt)(j:Nat):Stmt:=match s with
 | .ClassDef _ _ _ body _ _ _ _ _ _ _=>body.getD j (.Pass ⟨0,0,0,0⟩)
 |_=>.Pass ⟨0,0,0,0⟩
noncomputable def Bl(s:Stmt):Arguments:=match s with
 | .FunctionDef _ a _ _ _ _ _ _ _ _=>a
 |_=>{posonlyargs:=[],args:=[],vararg:=aB,kwonlyargs:=[],kw_defaults:=[],kwarg:=aB,defaults:=[]}
noncomputable def Uc(s:Stmt):List Stmt:=match s with
 | .FunctionDef _ _ b _ _ _ _ _ _ _=>b
 |_=>[]
noncomputable def Zx(s:Stmt):Scope:=match s with
 | .FunctionDef _ _ _ _ _ _ sc _ _ _=>sc
 |_=>{kind:=.function,names:=[],isGenerator:=aD,isCoroutine:=aD}
abbrev Ud:CXT:=λ_ _ _ _ _ _=>False
abbrev E0:XK:=λ_ _ _=>False
theorem Zpx:V3 Ud X E0:=λ_ _ _ _ _ _ _ h=>h.elim
structure Fun(K:ad)(x qual:Str)(st:Stmt)(f:aj)(fd:ci):Prop where
 ex:∃(oc:ah) (od:Option aj) (kV doc pm:ah) (an:Option aj) (cdv ct:ah) (osl:Array (Option ah)),
  fd=PySem.W.fnOf x qual (Bl st) (Uc st) (Zx st) .none kV doc pm an cdv ct/\K.lookup f=aA ⟨oc,od,.func fd,osl⟩/\PySem.W.codeIn K cdv qual=aC
 kp:bu K (.ref f)=aC
section
variable{K:ad}
theorem Fun.ok{st}(F:Fun K x qual st f fd)(S:FnScope N ps (Zx st))(len:∀vs H Q E,sp vs H Q E->vs.length=ps.length)(hbody:∀cdv A outer s H vs Q E,Room k (A.deeper (envOfC qual (Zx st) s.heap.objs.size f cdv))->sp vs H Q E->
   ∃t,Ta (V4 Ud P w K mg base N qual (Zx st) f cdv A outer s H E).nox (Uc st) t/\t {nx:=λ_ H'=>Q .non H',rt:=Q} (Ca N vs) H):FnOk P w K mg base Ud (k+1) f fd ps sp:=by
 obtain⟨oc,od,kV,doc,pm,an,cdv,ct,osl,rfl,lk,hcd⟩:=F.ex;refine Zpl lk hcd S len λA outer s H vs Q E hr hsp=>?_;obtain⟨t,h,q⟩:=hbody cdv A outer s H vs Q E hr hsp;exact⟨t,h.nox,q⟩
theorem Fun.binds{st}(F:Fun K x qual st f fd)(h:∀kV doc pm an cdv ct us,us.length=ps.length->bindArgs (PySem.W.fnOf x qual (Bl st) (Uc st) (Zx st) .none kV doc pm an cdv ct) ⟨us,[]⟩=pure (ps.zip us)):Wh K fd ps []:=by
 obtain⟨oc,od,kV,doc,pm,an,cdv,ct,osl,rfl,lk,hcd⟩:=F.ex;exact .all (h kV doc pm an cdv ct)
theorem Wq{st}{kV doc pm cdv ct}(l:K.lookup f=aA ⟨oc,od,.func (PySem.W.fnOf x qual (Bl st) (Uc st) (Zx st) .none kV doc pm an cdv ct),osl⟩)(c:PySem.W.codeIn K cdv qual=aC)(k:bu K (.ref f)=aC):Fun K x qual st f (PySem.W.fnOf x qual (Bl st) (Uc st) (Zx st) .none kV doc pm an cdv ct):=⟨⟨oc,od,kV,doc,pm,an,cdv,ct,osl,rfl,l,c⟩,k⟩
end
theorem Zpy(hr:Room k A):A.units+1<cLine:=ib (Nat.add_le_add_left (by decide:1<=64) _) hr.units
def Zi(H H':Hp):Prop:=∀b o,H b=aA o->H' b=aA o
theorem Zi.refl(H):Zi H H:=λ_ _ h=>h
theorem Zi.trans(a:Zi H H1)(b:Zi H1 H2):Zi H H2:=λc o h=>b c o (a c o h)
theorem Zi.free(e:Zi H H')(h:H' l=Option.none):H l=Option.none:=by
 cases q:H l with
 |none=>rfl
 |some o=>rw[e l o q]at h;cases h
theorem PE.imp(h:PE X e t)(w:∀σ H Q,t' σ H Q->t σ H Q):PE X e t':=λpins s σ H Q I q=>h pins s σ H Q I (w σ H Q q)
theorem PT.imp(h:PT X e t)(w:∀σ H Q,t' σ H Q->t σ H Q):PT X e t':=λpins s σ H Q I q=>h pins s σ H Q I (w σ H Q q)
theorem PW.imp(h:PW X e t)(w:∀σ H Q,t' σ H Q->t σ H Q):PW X e t':=λwh pins s σ H Q I q=>h wh pins s σ H Q I (w σ H Q q)
theorem PA.imp(h:PA X e t)(w:∀σ H Q,t' σ H Q->t σ H Q):PA X e t':=λpos pins s σ H Q I q=>h pos pins s σ H Q I (w σ H Q q)
theorem PS.imp(h:PS X e t)(w:∀D σ H,t' D σ H->t D σ H):PS X e t':=λpins s σ H D I q=>h pins s σ H D I (w D σ H q)
theorem Ta.imp(h:Ta X e t)(w:∀D σ H,t' D σ H->t D σ H):Ta X e t':=λpins s σ H D I q=>h pins s σ H D I (w D σ H q)
theorem PG.imp(h:PG X e t)(w:∀v σ H Q,t' v σ H Q->t v σ H Q):PG X e t':=λpins s σ H v u Q I r q=>h pins s σ H v u Q I r (w v σ H Q q)
theorem PGs.imp(h:PGs X e t)(w:∀v σ H Q,t' v σ H Q->t v σ H Q):PGs X e t':=λpins s σ H vs us Q I r q=>h pins s σ H vs us Q I r (w vs σ H Q q)
theorem PI.imp(h:PI X tg e t)(w:∀σ H R,t' σ H R->t σ H R):PI X tg e t':=λpins s σ H R I q=>h pins s σ H R I (w σ H R q)
noncomputable def Mh(cells:List (Str×aj)):List (Str×NameKind)->List (Str×aj)->List (Str×aj)
 | [],cs=>cs
 | (n,k)::r,cs=>Mh cells r (if k= .free then(n,(cells.lookup n).getD 0)::cs else cs)
theorem G0:∀names cs,(∀y∈names,y.2= .free->∃c,env.cells.lookup y.1=aA c)->
    (forIn names cs (λx r=>if(x.2==ij)=aC then do let a<-cellOf env x.1;pure (ForInStep.yield ((x.1,a)::r))else pure (ForInStep.yield r)):Sem (List (Str×aj)))=pure (Mh env.cells names cs)
  | [],cs,_=>by rw[List.forIn_nil];rfl
  | (n,k)::r,cs,h=>by
    rw[List.forIn_cons];by_cases hk:k= .free
    · obtain⟨c,hc⟩:=h (n,k) af hk
      subst hk;have e1:cellOf env n=pure c:=by unfold cellOf;rw[hc]
      show((if(ij==ij)=aC then(cellOf env n >>=λa=>pure (ForInStep.yield ((n,a)::cs)))else pure (ForInStep.yield cs)) >>=λs=>_)=_;rw[if_pos (show(ij==ij)=aC by decide),e1];show(forIn r ((n,c)::cs) _:Sem (List (Str×aj)))=_;rw[G0 r _ λy hy=>h y (ao _ hy)];show _=pure (Mh env.cells r (if ij=ij then(n,(env.cells.lookup n).getD 0)::cs else cs));rw[if_pos rfl,hc];rfl
    · have hb:(k==ij)=aD:=by simpa using hk
      show((if(k==ij)=aC then(cellOf env n >>=λa=>pure (ForInStep.yield ((n,a)::cs)))else pure (ForInStep.yield cs)) >>=λs=>_)=_;rw[hb,if_neg bv];show(forIn r cs _:Sem (List (Str×aj)))=_;rw[G0 r _ λy hy=>h y (ao _ hy)];show _=pure (Mh env.cells r (if k=ij then _ else cs));rw[if_neg hk]
theorem Gq(h:∀y∈scope.names,y.2= .free->∃c,env.cells.lookup y.1=aA c):closureFor scope env=pure (Mh env.cells scope.names []):=by simp only[closureFor];rw[G0 scope.names [] h];rfl
theorem Py:∀{names:List (Str×NameKind)} {cs:List (Str×aj)},(∀y∈names,y.2= .free->∃c,cells.lookup y.1=aA c)->
    (cs.lookup x=aA c->cells.lookup x=aA c)->(Mh cells names cs).lookup x=aA c->cells.lookup x=aA c
  | [],_,_,h0,e=>h0 e
  | (n,k)::r,cs,h,h0,e=>by
    refine Py (names:=r) (λy hy=>h y (ao _ hy)) ?_ e;intro e';by_cases hk:k= .free
    · rw[if_pos hk]at e'
      obtain⟨c',hc⟩:=h (n,k) af hk;rw[hc]at e';by_cases hx:x==n
      · simp only[im,hx]at e'
        cases e';have:x=n:=by simpa using hx
        rw[this];exact hc
      · have hx':(x==n)=aD:=by simpa using hx
        simp only[im,hx']at e';exact h0 e'
    · rw[if_neg hk]at e';exact h0 e'
theorem Ft:∀{names:List (Str×NameKind)} {cs:List (Str×aj)},(∃c,cs.lookup x=aA c)->∃c,(Mh cells names cs).lookup x=aA c
  | [],_,h=>h
  | (n,k)::r,cs,⟨c,h⟩=>by
    refine Ft (names:=r) ?_;by_cases hk:k= .free
    · rw[if_pos hk]
      by_cases hx:x==n
      · exact⟨(cells.lookup n).getD 0,by simp only[im,hx]⟩
      · have hx':(x==n)=aD:=by simpa using hx
        exact⟨c,by simp only[im,hx'];exact h⟩
    · rw[if_neg hk];exact⟨c,h⟩
theorem Rp:∀{names:List (Str×NameKind)} {cs:List (Str×aj)},(x,ij)∈names->∃c,(Mh cells names cs).lookup x=aA c
  | [],_,h=>nomatch h
  | (n,k)::r,cs,h=>by
    rcases bx.mp h with e|e
    · cases e
      refine Ft (names:=r) ⟨(cells.lookup x).getD 0,?_⟩;rw[if_pos rfl];simp[im]
    · exact Rp (names:=r) e
noncomputable def rlF(env:Env):Str×NameKind->Str×NameKind:=λ(n,k)=>if(k==ij&&env.scope.kind== .function&&env.kindOf n==aA .cell)then(n,NameKind.cell)else(n,k)
theorem Lx(env p):(rlF env p).1=p.1:=by obtain⟨n,k⟩:=p;unfold rlF;dsimp only;split<;> rfl
theorem Od{f:Str×NameKind->Str×NameKind}(h:∀p,(f p).1=p.1)(x):∀names:List (Str×NameKind),(names.map f).lookup x=(names.lookup x).map λk=>(f (x,k)).2
  | []=>rfl
  | (n,k)::r=>by
    have ih:=Od h x r;have e:f (n,k)=(n,(f (n,k)).2):=Prod.ext (h (n,k)) rfl;rw[bc,e,im,im];cases hx:x==n with
    |true=>
      have:x=n:=by simpa using hx
      subst this;rfl
    |false=>exact ih
theorem Ai:∀{names:List (Str×NameKind)},names.lookup x=aA k->(x,k)∈names
  | [],h=>by simp at h
  | (n,k')::r,h=>by
    rw[im]at h;cases hx:x==n with
    |true=>
      rw[hx]at h;have:x=n:=by simpa using hx
      subst this;cases h;exact af
    |false=>rw[hx]at h;exact ao _ (Ai h)
theorem Bm{names:List (Str×NameKind)}(hn:∀y∈names,y.2≠.cell)(hk:kk= .cell\/kk= .free)(h:(names.map (rlF env)).lookup x=aA kk):(x,ij)∈names:=by
 rw[Od (Lx env)]at h;obtain⟨k,h1,h2⟩:=cm.mp h;have hm:=Ai h1;have hc:k≠.cell:=hn _ hm;by_cases hf:k= .free
 .subst hf;exact hm
 .exfalso;have hb:(k==ij)=aD:=by simpa using hf
  unfold rlF at h2;simp only[hb,Bool.false_and,bi,if_false]at h2;rcases hk with e|e
  .exact hc (h2.trans e)
  .exact hf (h2.trans e)
inductive BSrc where
 |own|cap (j:Nat)|acc
def Zkf(σ:St)(acc:aj):BSrc->Option V
 | .own=>aB
 | .cap j=>(σ[j]?).join
 | .acc=>aA (.ref acc)
def Vt(src:List BSrc)(σ:St)(acc:aj):St:=src.map (Zkf σ acc)
abbrev Cx.block(X:Cx)(N':List Str)(scope:Scope)(C:aj)(s₀:am)(H₀:Hp)(ex:List aj):Cx:=
 {X with N:=N',env:=compEnvC scope (Mh X.env.cells scope.names []) C X.env,s₀:=s₀,H₀:=H₀,outer:=X.stack,stack:=X.stack,ex:=ex,fn:=λ_=>aD,pn:=[],xe:=λ_ _=>False}
structure CompScope(X:Cx)(N':List Str)(scope:Scope)(src:List BSrc):Prop where
 kind:scope.kind= .function
 nocell:∀y∈scope.names,y.2≠.cell
 names:∀y∈scope.names,y.2= .local->scope.names.lookup y.1=aA .local
 free:∀y∈scope.names,y.2= .free->X.env.kindOf y.1=aA .cell\/X.env.kindOf y.1=aA .free
 len:src.length=N'.length
 cap:∀(k j:Nat) (x:Str),src[k]? =aA (.cap j)->N'[k]? =aA x->X.N[j]? =aA x/\(X.env.kindOf x=aA .cell\/X.env.kindOf x=aA .free)/\scope.names.lookup x=aA .free
 acc:∀(k:Nat) (x:Str),src[k]? =aA .acc->N'[k]? =aA x->scope.names.lookup x=aB
theorem Gk{names:List (Str×NameKind)}(h:names.lookup x=aB):(names.map (rlF env)).lookup x=aB:=by rw[Od (Lx env),h];rfl
theorem Gm{names:List (Str×NameKind)}(h:names.lookup x=aA .free):(names.map (rlF env)).lookup x=aA .cell\/(names.map (rlF env)).lookup x=aA .free:=by
 rw[Od (Lx env),h];unfold rlF;dsimp only[Option.map];split
 .exact .inl rfl
 .exact .inr rfl
section
variable{X:Cx}{N':List Str}{scope:Scope}{src:List BSrc}{pins:List (aj×Obj)}{σ:St}{H:Hp}{s:am}{C acc:aj}{fp:List aj}
theorem Pz(S:CompScope X N' scope src)(I:Inv X pins σ H s)(hC:C=s.heap.objs.size)(hf:∀b∈fp,Jz X pins H b)(hfo:∀b∈fp,∃o,s.heap.get? b=aA o)(hns:h1.Ns C λ_=>aB)(hk:∀b o,s.heap.get? b=aA o->h1.get? b=aA o):
  Inv (X.block N' scope C s H fp) [] (Vt src σ acc) H {s with heap:=h1,toks:=tk}:=by
 have cellf:∀y∈scope.names,y.2= .free->∃c,X.env.cells.lookup y.1=aA c:=λy hy e=>I.ok.has y.1 (S.free y hy e);have sub:∀x c,(Mh X.env.cells scope.names []).lookup x=aA c->X.env.cells.lookup x=aA c:=λx c e=>Py cellf (λh=>by simp at h) e;have gt:∀b,b<s.heap.objs.size->b≠C:=λb hb e=>by rw[e,hC]at hb;exact ii _ hb
 refine⟨⟨I.ok.mod,S.kind,I.ok.glob,I.ok.blt,by rw[hC];exact ba _,λx y c h1 h2=>I.ok.inj x y c (sub x c h1) (sub y c h2),λx hx=>?_,λx c h=>absurd h bv,I.ok.hd,I.ok.frames,.inl rfl,λb hb=>?_,I.bs,
  dk I.ok.bsz I.sz,λb o e hb=>?_,λb hb hs=>?_,I.stack,I.stkFree⟩,rfl,I.bare,Un.kept hk,⟨_,hns,λi x v e1 e2 e3=>?_⟩,λx c e=>?_,?_,λx c e=>I.freeC x c (sub x c e),λp hp=>?_,I.hok.kept hk,?_⟩
 .rcases hx with hx|hx
  .exact Rp (Bm S.nocell (.inl rfl) hx)
  .exact Rp (Bm S.nocell (.inr rfl) hx)
 .obtain⟨f0,f1,f2,f3,f4,f5⟩:=hf b hb;refine⟨?_,λx c e=>f4 x c (sub x c e)⟩;show b≠C;obtain⟨o,ho⟩:=hfo b hb;exact gt b (bo ho)
 .obtain⟨f0,f1,f2,f3,f4,f5⟩:=hf b hb;rcases f3 with z|z
  .exact I.ok.noex b o e z
  .exact absurd (c8 (bo e) (dk I.ok.bsz z)) (ii _)
 .obtain⟨f0,f1,f2,f3,f4,f5⟩:=hf b hb;rcases bx.mp (I.stkSub b hs)with z|z
  .exact f1 z
  .exact f2 z
 .have hsrc:∃q,src[i]? =aA q:=by
   cases q:src[i]? with
   |some q0=>exact⟨q0,rfl⟩
   |none=>have e2':(Vt src σ acc)[i]? =aA (aA v):=e2;unfold Vt at e2';rw[az,q]at e2';cases e2'
  obtain⟨q,hq⟩:=hsrc;have e2':(Vt src σ acc)[i]? =aA (aA v):=e2;unfold Vt at e2';rw[az,hq]at e2';have e2'':Zkf σ acc q=aA v:=cz.inj e2';cases q with
  |own=>cases e2''
  |acc=>
   exfalso;have hno:=Gk (env:=X.env) (S.acc i x hq e1);have hno':(relabel scope X.env).names.lookup x=aB:=hno;have e3':Vs (relabel scope X.env) x:=e3;rcases e3' with z|z|z
   .rw[hno']at z;cases z
   .rw[hno']at z;cases z
   .rw[hno']at z;cases z
  |cap j=>
   obtain⟨hj,hkind,hfr⟩:=S.cap i j x hq e1;have hσ:σ[j]? =aA (aA v):=by
    have e4:(σ[j]?).join=aA v:=e2'';cases r:σ[j]? with
    |none=>rw[r]at e4;cases e4
    |some o=>rw[r]at e4;cases o with
     |none=>cases e4
     |some w'=>cases e4;rfl
   obtain⟨m,hn,hl⟩:=I.loc;obtain⟨u,ru,l⟩:=hl j x v hj hσ (by rcases hkind with z|z;exact .inr (.inl z);exact .inr (.inr z));refine⟨u,ru,?_⟩;rcases l with⟨z,_⟩|⟨_,c,hc,hcell⟩
   .rcases hkind with y|y
    .rw[y]at z;cases z
    .rw[y]at z;cases z
   .have e3':Vs (relabel scope X.env) x:=e3;have fin:∀kk,kk= .cell\/kk= .free->(relabel scope X.env).names.lookup x=aA kk->Zoy (X.block N' scope C s H fp).env h1 (λ_=>aB) x u:=λkk hkk hx=>by
     obtain⟨c',hc'⟩:=Rp (cells:=X.env.cells) (cs:=[]) (Bm S.nocell hkk hx);have:=sub x c' hc';rw[hc]at this;cases this;obtain⟨oc,hoc,hocd⟩:=hcell;refine .inr ⟨?_,c,hc',oc,hk c oc hoc,hocd⟩;rcases hkk with y|y
     .subst y;exact .inl hx
     .subst y;exact .inr hx
    rcases e3' with z|z|z
    .exfalso;have z':(relabel scope X.env).names.lookup x=aA .local:=z;rcases Gm (env:=X.env) hfr with y|y
     .have y':(relabel scope X.env).names.lookup x=aA .cell:=y;rw[z']at y';cases y'
     .have y':(relabel scope X.env).names.lookup x=aA .free:=y;rw[z']at y';cases y'
    .exact fin .cell (.inl rfl) z
    .exact fin .free (.inr rfl) z
 .obtain⟨v,oc,hoc,hocd⟩:=I.cell x c (sub x c e);exact⟨v,oc,hk c oc hoc,hocd⟩
 .show H C=aB;rw[hC];exact I.hok.fresh (ba _)
 .have hp':p∈([]:List (aj×Obj)):=by simpa using hp
  exact nomatch hp'
 .show(Vt src σ acc).length=N'.length;unfold Vt;rw[aq];exact S.len
def Zdv(src:List BSrc)(wi:TI)(g:TG)(tt:TT)(te:TE):TE:=λσ H Q=>wi σ H λJ H1=>∀acc,H1 acc=aB->
 ∃W:Nat->Nat->St->Hp->Prop,(∃m,W 0 m (Vt src σ acc) (Z9 H1 acc (.lst [])))/\∀i m σ' H,W i m σ' H->(J.stop i H/\Q (.ref acc) H)\/
  (J.go i H/\∀x H',J.yld i H x H'->g x σ' H' λσ2 H2=>tt σ2 H2 λb H3=>if b=aC then te σ2 H3 λy H4=>Bk (.ref acc) [y] H4 λ_ H5=>∃m',m'<m/\W (i+1) m' σ2 H5 else∃m',m'<m/\W (i+1) m' σ2 H3)
def PTs(X:Cx)(ifs:List cj)(t:TT):Prop:=
 ∀(pins:List (aj×Obj)) (s:am) (σ:St) (H:Hp) (Q:Bool->Hp->Prop),Inv X pins σ H s->t σ H Q->
  bg (b4 X.prog X.w) X.A (forIn ifs aC λc r=>if r=aC then do let ok<-isTrue c X.env (gp c X.env);pure (ForInStep.yield ok)else pure (ForInStep.yield r)) (TP X pins σ Q) X.xe s
def Zpz:TT:=λ_ H Q=>Q aC H
theorem Zhy:PTs X [] Zpz:=λ_ s σ H Q I h=>wpAny_tests_nil ⟨H,I,h⟩
theorem Zhz(h:PT X c t):PTs X [c] t:=λpins s σ H Q I q=>wpAny_tests_one (h pins s σ H Q I q)
theorem Zbo{acc:ah}(I:Nat->am->Prop)(turn:∀n s,I n s->bg (b4 prog w) A (pyNext it) (λr s₁=>match r with
   |none=>R (.ok .next) s₁
   |some v=>bg (b4 prog w) A (letOwnedTupleGo target it v) (λ_ s₀=>bg (b4 prog w) A (assign target env v) (λ_ s₂=>
     bg (b4 prog w) A (forIn ifs aC λc r=>if r=aC then do let ok<-isTrue c env (gp c env);pure (ForInStep.yield ok)else pure (ForInStep.yield r)) (λok s₃=>if ok=aC then bg (b4 prog w) A (gp elt env) (λx s₄=>
      bg (b4 prog w) A (call (.builtin "list.append") [acc,x]) (λ_ s₅=>∃m,m<n/\I m s₅) (λ_ _=>False) s₄) (λ_ _=>False) s₃
      else∃m,m<n/\I m s₃) (λ_ _=>False) s₂)
     (λ_ _=>False) s₀) (λ_ _=>False) s₁) (λ_ _=>False) s)(n)(h:I n s):codeAny (b4 prog w) A (.compLoop (.ListComp elt [⟨target,iter,ifs,0⟩] scope pos) 0 it acc env) R s:=by
 refine codeAny_loop rfl I (λn s hI=>?_) n h;show bg _ A ((compTurn (.ListComp elt [⟨target,iter,ifs,0⟩] scope pos) 0 it acc env).onRaise (λx=>do noteFrame x env;theTreesLotGoes x)) _ _ s;refine wpAny_noted ?_;rw[compTurn_list];refine ac (wpAny_standAt (ac (wpAny_mono (turn n s hI) (λr s₁ h₁=>?_) λ_ _ f=>f.elim)));cases r with
 |none=>exact ag h₁
 |some v=>
  refine ac (wpAny_mono h₁ (λ_ s₀ h₀'=>?_) λ_ _ f=>f.elim);refine ac (wpAny_mono h₀' (λ_ s₂ h₂=>?_) λ_ _ f=>f.elim);refine ac (wpAny_mono h₂ (λokb s₃ h₃=>?_) λ_ _ f=>f.elim);cases okb with
  |false=>exact ag ⟨rfl,h₃⟩
  |true=>exact ac (ac (wpAny_mono h₃ (λx s₄ h₄=>ac (wpAny_mono h₄ (λ_ s₅ h₅=>ag (ag ⟨rfl,h₅⟩)) λ_ _ f=>f.elim)) λ_ _ f=>f.elim))
theorem Aj{Q:VK}{RR:ah->aj->Result->am->Prop}(hc:X.calm=aC)(S:CompScope X N' scope src)(hg:∀C s₀ H₀ ex,PG (X.block N' scope C s₀ H₀ ex) tg g)(ht:∀C s₀ H₀ ex,PTs (X.block N' scope C s₀ H₀ ex) ifs tt)(he:∀C s₀ H₀ ex,PE (X.block N' scope C s₀ H₀ ex) elt te)(I:Inv X pins σ H s)(T:Turn X.prog X.w X.K tg J fp it tn)(st:tn 0 s.heap)(hf:∀b∈fp,Jz X pins H b)(q:∀acc,H acc=aB->∃W:Nat->Nat->St->Hp->Prop,(∃m,W 0 m (Vt src σ acc) (Z9 H acc (.lst [])))/\∀i m σ' H,W i m σ' H->(J.stop i H/\Q (.ref acc) H)\/
   (J.go i H/\∀x H',J.yld i H x H'->g x σ' H' λσ2 H2=>tt σ2 H2 λb H3=>if b=aC then te σ2 H3 λy H4=>Bk (.ref acc) [y] H4 λ_ H5=>∃m',m'<m/\W (i+1) m' σ2 H5 else∃m',m'<m/\W (i+1) m' σ2 H3))(hRR:∀acc C s' H' m,Inv X pins σ H' s'->Q (.ref acc) H'->s'.heap.Ns C m->H' C=aB->C≠X.env.locals->X.s₀.heap.objs.size<=C->(∀x c,X.env.cells.lookup x=aA c->c≠C)->(∀p∈X.pn++pins,p.1≠C)->
   RR (.ref acc) C (.ok .next) s'):
  bg (b4 X.prog X.w) X.A (newList []) (λacc s₃=>bg (b4 X.prog X.w) X.A (newFunctionEnv scope X.env.globals (Mh X.env.cells scope.names []) [] X.env.qual aB .none (aA X.env)) (λcenv s₄=>
   codeAny (b4 X.prog X.w) X.A (.compStart (.ListComp elt [⟨tg,iter,ifs,0⟩] scope pos) 0 (.ref it) acc {cenv with scope:=relabel scope X.env}) (RR acc cenv.locals) s₄) E s₃) E s:=by
 have hfo:∀b∈fp,∃o,s.heap.get? b=aA o:=λb hb=>let⟨o,e,_⟩:=T.obj 0 _ st b hb;⟨o,e⟩
 refine ff (wpAny_newFunctionEnv S.nocell (by intro y hy;simp at hy) (λh₁ hns₁ hsb₁=>?_) S.kind);dsimp only at hns₁ hsb₁⊢;have hacc:H s.heap.objs.size=aB:=I.hok.fresh (ba _);have I3:Inv X pins σ (Z9 H s.heap.objs.size (.lst [])) {s with heap:=s.heap.push {cls:=.type "list",dict:=aB,data:=.seq ([]:List ah).toArray}}:=I.lnew (t':=s.toks) (its:=[]) (ys:=[]) .nil (f7 _);have hf3:∀b∈fp,Jz X pins (Z9 H s.heap.objs.size (.lst [])) b:=λb hb=>by obtain⟨f0,f⟩:=hf b hb;obtain⟨o,ho⟩:=hfo b hb;exact⟨by rw[Zw (cf (bo ho))];exact f0,f⟩
 have hfo3:∀b∈fp,∃o,(s.heap.push {cls:=.type "list",dict:=aB,data:=.seq ([]:List ah).toArray}).get? b=aA o:=λb hb=>let⟨o,e⟩:=hfo b hb;⟨o,au _ e⟩
 obtain⟨W,⟨m0,w0⟩,turn⟩:=q _ hacc;generalize hH2:s.heap.push {cls:=.type "list",dict:=aB,data:=.seq ([]:List ah).toArray}=H2 at hns₁ hsb₁ I3 hfo3⊢;have keep:∀b o,H2.get? b=aA o->h₁.get? b=aA o:=λb o e=>hsb₁.extBut b o (cf (bo e)) (au _ e);have J0:=Pz (N':=N') (scope:=scope) (src:=src) (acc:=s.heap.objs.size) (tk:=s.toks+([]:List (Str×ah)).length) (C:=H2.objs.size) S I3 rfl hf3 hfo3 (show h₁.Ns H2.objs.size (λ_=>aB)from hns₁) keep;have st1:tn 0 h₁:=T.keep 0 s.heap h₁ st λb hb o e=>keep b o (by rw[<-hH2];exact au _ e);have cne:H2.objs.size≠X.env.locals:=Nat.ne_of_gt I3.lt;have csz:X.s₀.heap.objs.size<=H2.objs.size:=I3.sz;have ccell:∀x c,X.env.cells.lookup x=aA c->c≠H2.objs.size:=λx c e z=>by obtain⟨v,oc,hoc,_⟩:=I3.cell x c e;exact absurd (bo hoc) (by rw[z];exact ii _)
 have cpin:∀p∈X.pn++pins,p.1≠H2.objs.size:=λp hp z=>absurd (bo (I3.pin p hp).1) (by rw[z];exact ii _);have loop:∀s₃:am,s₃={s with heap:=h₁,toks:=s.toks+([]:List (Str×ah)).length}->
   codeAny (b4 X.prog X.w) X.A (.compLoop (.ListComp elt [⟨tg,iter,ifs,0⟩] scope pos) 0 (.ref it) (.ref s.heap.objs.size) (compEnvC scope (Mh X.env.cells scope.names []) H2.objs.size X.env)) (RR (.ref s.heap.objs.size) H2.objs.size) s₃:=by
  rintro s₃ rfl;refine Zbo (λn s'=>∃i σ' H',Inv (X.block N' scope H2.objs.size {s with heap:=H2} (Z9 H s.heap.objs.size (.lst [])) fp) [] σ' H' s'/\tn i s'.heap/\(∀b∈fp,H' b=aB)/\W i n σ' H') ?_ m0 ⟨0,_,_,J0,st1,λb hb=>(hf3 b hb).1,w0⟩;rintro n s4 ⟨i,σ4,H4,J4,st4,fr4,w4⟩;have fok:∀{H':Hp},(∀b∈fp,H' b=aB)->∀b∈fp,Jz (X.block N' scope H2.objs.size {s with heap:=H2} (Z9 H s.heap.objs.size (.lst [])) fp) [] H' b:=fun{H'} hn b hb=>by
   obtain⟨f0,f1,f2,f3,f4,f5⟩:=hf3 b hb;refine⟨hn b hb,?_,λz=>J4.ok.exfs b hb z,.inl hb,λx c e=>(J4.ok.exf b hb).2 x c e,λp hp=>?_⟩
   .exact(J4.ok.exf b hb).1
   .have hp':p∈([]:List (aj×Obj)):=by simpa using hp
    exact nomatch hp'
  rcases turn i n σ4 H4 w4 with⟨stop,qn⟩|⟨go,step⟩
  .refine Wp (T.done (X.block N' scope H2.objs.size {s with heap:=H2} (Z9 H s.heap.objs.size (.lst [])) fp) rfl rfl rfl hc i [] s4 σ4 H4 _ J4 (fok fr4) st4 stop) λr s5 ⟨hr,J5⟩=>?_;subst hr;obtain⟨m5,hn5,_⟩:=J5.loc;have I5:Inv X pins σ H4 s5:=I3.call' (ch:=fp) J5.os J5.base J5.hok J5.bare λb hb=>by obtain⟨f0,f1,f2,f3,f4,f5⟩:=hf3 b hb;exact⟨f3,f1,f4,f5⟩
   exact hRR _ _ s5 H4 m5 I5 qn hn5 J5.free cne csz ccell cpin
  .refine Wp (T.item (X.block N' scope H2.objs.size {s with heap:=H2} (Z9 H s.heap.objs.size (.lst [])) fp) rfl rfl rfl hc i [] s4 σ4 H4 _ J4 (fok fr4) st4 go) λr s5 ⟨u,hr,h5⟩=>?_;subst hr;refine Wp h5 λ_ s6 zq9=>?_;obtain⟨x,H6,J6,r6,y6,st6,fr6⟩:=zq9;have J6':=J6.pinned (fok fr6) (T.obj _ _ st6);have again:∀{σ7:St} {H7:Hp} {s7:am},Inv (X.block N' scope H2.objs.size {s with heap:=H2} (Z9 H s.heap.objs.size (.lst [])) fp) ([]++Ac fp s6.heap) σ7 H7 s7->(∃m',m'<n/\W (i+1) m' σ7 H7)->
     ∃m,m<n/\∃i σ' H',Inv (X.block N' scope H2.objs.size {s with heap:=H2} (Z9 H s.heap.objs.size (.lst [])) fp) [] σ' H' s7/\tn i s7.heap/\(∀b∈fp,H' b=aB)/\W i m σ' H':=fun{σ7 H7 s7} J7 ⟨m',hm,w7⟩=>by
    refine⟨m',hm,i+1,σ7,H7,J7.unpinned,T.keep _ _ _ st6 λb hb o e=>(J7.pin (b,o) (bh _ (bh _ (Bi hb e)))).1,λb hb=>?_,w7⟩;obtain⟨o,e,d⟩:=T.obj _ _ st6 b hb;exact(J7.pin (b,o) (bh _ (bh _ (Bi hb e)))).2.1
   refine Wp (hg _ _ _ _ _ s6 σ4 H6 x u _ J6' r6 (step x H6 y6)) λ_ s7 zq9=>?_;obtain⟨σ7,H7,J7,q7⟩:=zq9;refine Wp (ht _ _ _ _ _ s7 σ7 H7 _ J7 q7) λb s8 zq9=>?_;obtain⟨H8,J8,q8⟩:=zq9;cases b with
   |false=>rw[if_neg bv]at q8⊢;exact again J8 q8
   |true=>rw[if_pos rfl]at q8⊢;refine Wp (he _ _ _ _ _ s8 σ7 H8 _ J8 q8) λy s9 zq9=>?_;obtain⟨vy,H9,J9,r9,q9⟩:=zq9;refine Wp (Mg _ s9 σ7 H9 (.ref s.heap.objs.size) [vy] (.ref s.heap.objs.size) [y] _ J9 rfl (.cons r9 .nil) q9) λ_ s10 ⟨_,H10,J10,_,q10⟩=>again J10 q10
 exact codeAny_compStart_list (loop _ rfl) (T.self X.A 0 _ _ _ st1 (loop _ rfl))
theorem Zh0(hc:X.calm=aC)(S:CompScope X N' scope src)(hi:PI X tg iter wi)(hg:∀C s₀ H₀ ex,PG (X.block N' scope C s₀ H₀ ex) tg g)(ht:∀C s₀ H₀ ex,PTs (X.block N' scope C s₀ H₀ ex) ifs tt)(he:∀C s₀ H₀ ex,PE (X.block N' scope C s₀ H₀ ex) elt te)(hs:∀x,foldedSetIterable iter X.env x=pure x:=by intro _;rfl):PE X (.ListComp elt [⟨tg,iter,ifs,0⟩] scope pos) (Zdv src wi g tt te):=by
 intro pins s σ H Q I h;rw[eval_ListComp];refine wpAny_comprehension_free (use:=aB) rfl hs (Gq λy hy e=>I.ok.has y.1 (S.free y hy e)) S.kind S.names (Wp (hi pins s σ H _ I h) λv s1 h1=>Wp h1 λitv s2 h2=>?_);obtain⟨it,fp,tn,J,H2,e,I2,T,st2,f2,q⟩:=h2;subst e;refine Aj hc S hg ht he I2 T st2 f2 q λacc C s' H' m I' q' hn hC c1 c2 c3 c4=>⟨m,hn,λh' hs'=>?_⟩
 exact⟨.ref acc,H',I'.turned (t':=s'.toks) (λb o hb e=>(hs'.2 b hb).trans e) hC c1 (.inr c2) c3 c4,rfl,q'⟩
theorem Xa(hc:X.calm=aC)(S:CompScope X N' scope src)(hi:PI X tg iter wi)(hg:∀C s₀ H₀ ex,PG (X.block N' scope C s₀ H₀ ex) tg g)(ht:∀C s₀ H₀ ex,PTs (X.block N' scope C s₀ H₀ ex) ifs tt)(he:∀C s₀ H₀ ex,PE (X.block N' scope C s₀ H₀ ex) elt te)(hN:X.N.Nodup)(hiy:X.N[i]? =aA y)(hx:X.env.scope.names.lookup y=aA .local)(hsw:swapsWith (.ListComp elt [⟨tg,iter,ifs,0⟩] scope pos) (aA (.Name y py)) spos.line X.env=pure aC)(hs:∀x,foldedSetIterable iter X.env x=pure x:=by intro _;rfl):PS X (.Assign [.Name y py] (.ListComp elt [⟨tg,iter,ifs,0⟩] scope pos) spos) (Vx (Zdv src wi g tt te) (Aa i)):=by
 intro pins s σ H D I h;rw[exec_Assign_Name_used _ _ _ _ hsw];refine ac (wpAny_standAt (ac ?_));show bg _ X.A (do let _<-comprehension (.ListComp elt [⟨tg,iter,ifs,0⟩] scope pos) scope X.env _ (newList []) aD (gp iter X.env) (aA (assign (.Name y py) X.env))) _ _ s;refine ac (wpAny_mono (wpAny_comprehension_free (use:=aA (assign (.Name y py) X.env)) (Q:=λ_ s'=>SP X pins D .next s') rfl hs (Gq λy hy e=>I.ok.has y.1 (S.free y hy e)) S.kind S.names
  (Wp (hi pins s σ H _ I h) λv s1 h1=>Wp h1 λitv s2 h2=>?_)) (λ_ s' hq=>ag (ag hq)) λ_ _ e=>e)
 obtain⟨it,fp,tn,J,H2,e,I2,T,st2,f2,q⟩:=h2;subst e;refine Aj (Q:=λx H1=>Aa i x σ H1 D.nx) hc S hg ht he I2 T st2 f2 q λacc C s' H' m I' q' hn hC c1 c2 c3 c4=>?_;refine wpAny_assign_Name (Fk I' hN hiy (.inl hx) (v:=.ref acc) (u:=.ref acc) rfl (λs'' I'' ⟨a,hsb,ha⟩=>?_) (.inr hx));have hCa:C≠a:=by
  rcases ha with z|z
  .rw[z];exact c1
  .exact Ne.symm (c3 _ _ z)
 refine⟨m,hn.sameBut hsb hCa,λh' hs'=>?_⟩;exact⟨_,H',I''.turned (t':=s''.toks) (λb o hb e=>(hs'.2 b hb).trans e) hC c1 (.inr c2) c3 c4,q'⟩
end
noncomputable def without(h:d6)(xs:List aj):Heap:={objs:=(Array.range h.objs.size).map λa=>if a∈xs then{cls:=.none,data:=.freed}else(h.objs[a]?).getD {cls:=.none,data:=.freed}}
structure Raised(h:d6)(e:aj)(cls:ah)(dx tb:Option aj):Prop where
 obj:∃oe vs,h.get? e=aA oe/\oe.cls=cls/\oe.dict=dx/\oe.data= .fields vs/\vs[1]? =aA (match tb with|none=>.none|some T=>.ref T)
 tr:∀T,tb=aA T->T≠e/\∃oT ts fl,h.get? T=aA oT/\oT.data= .fields ts/\ts[3]? =aA fl
noncomputable def Zuv:Option aj->List aj
 |none=>[]
 |some T=>[T]
structure Noted(l:List aj)(h h':d6)(e:aj)(cls:ah)(dx tb:Option aj)(T:aj):Prop where
 keep:∀b o,b≠e->b∉Zuv tb->b∉l->h.get? b=aA o->h'.get? b=aA o
 slot:∀b o,b∈l->h.get? b=aA o->∃sl,h'.get? b=aA {o with slots:=sl}
 new:h.get? T=aB\/aA T=tb
 r:Raised h' e cls dx (aA T)
def CX1(P:b6)(w:c7):CXT:=λouter H s E e s'=>∃(a:aj) (cls:ah) (dx:Option aj) (T:aj) (H':Hp),e= .ref a/\s'.os=s.os/\AllBare s'.gens/\Un (frs outer) [] H H' s.heap s'.heap/\Go P w H' s'.heap/\
 Raised s'.heap a cls dx (aA T)/\s.heap.get? a=aB/\s.heap.get? T=aB/\H' a=aB/\H' T=aB/\E cls dx H'
def Zuw(X:Cx)(EX:XK):Prop:=∀(pins:List (aj×Obj)) (σ:St) (H:Hp) (s:am) (e:aj) (cls:ah) (dx tb:Option aj),Inv X pins σ H s->Raised s.heap e cls dx tb->X.s₀.heap.get? e=aB->H e=aB->
 (∀T,tb=aA T->X.s₀.heap.get? T=aB/\H T=aB)->EX cls dx H->X.xe (.ref e) s
abbrev VEB:List Value:=[.type "ValueError",.type "Exception",.type "BaseException",.type "object"]
def Zuy(EX:XK)(C:aj)(t:TA):TS:=λ_ σ H=>t σ H λvs H1=>vs.length<=sizeLine/\EX (.ref C) aB H1
abbrev EXT:=ah->Option aj->St->Hp->Prop
def Zs6(X:Cx)(EX:EXT):Prop:=∀(pins:List (aj×Obj)) (σ:St) (H:Hp) (s:am) (e:aj) (cls:ah) (dx:Option aj) (T:aj),Inv X pins σ H s->Raised s.heap e cls dx (aA T)->X.s₀.heap.get? e=aB->H e=aB->
 X.s₀.heap.get? T=aB->H T=aB->(∀p∈X.pn++pins,p.1≠e/\p.1≠T)->(e≠X.env.locals/\T≠X.env.locals)->(∀x c,X.env.cells.lookup x=aA c->c≠e/\c≠T)->EX cls dx σ H->X.xe (.ref e) s
def Zxo(X:Cx)(EX:EXT):Prop:=∀(pins:List (aj×Obj)) (σ:St) (H:Hp) (s:am) (e:ah) (s':am),Inv X pins σ H s->CX1 X.prog X.w X.stack H s (λcls od H'=>EX cls od σ H') e s'->X.xe e s'
def Zuz(sp:Sp)(EX:EXT)(t:TA):TE:=λσ H Q=>t σ H λvs H1=>sp vs H1 Q λcls od H'=>EX cls od σ H'
structure Air(X:Cx)(pins:List (aj×Obj))(H:Hp)(s:am)(e:aj)(cls:ah)(dx:Option aj)(T:aj):Prop where
 r:Raised s.heap e cls dx (aA T)
 e0:X.s₀.heap.get? e=aB
 eH:H e=aB
 t0:X.s₀.heap.get? T=aB
 tH:H T=aB
 pe:∀p∈X.pn++pins,p.1≠e/\p.1≠T
 le:e≠X.env.locals/\T≠X.env.locals
 ce:∀x c,X.env.cells.lookup x=aA c->c≠e/\c≠T
noncomputable abbrev Cx.inTry(X:Cx)(pn:List (aj×Obj))(xe:ah->am->Prop):Cx:={X with pn:=pn,xe:=xe}
noncomputable abbrev Cx.inSuite(X:Cx)(a:aj):Cx:={X with A:=X.A.mark (aA (.ref a)),calm:=aD,xe:=λ_ _=>False}
def Fu(a C:aj)(dx:Option aj):d6->Prop:=λh=>∃o,h.get? a=aA o/\o.cls= .ref C/\o.dict=dx/\PySem.W.notCls o=aC
set_option genInjectivity false in
structure Hd where
 x:Str
 np:Pos
 nm:Option (Str×Nat)
 b0:Stmt
 suite:List Stmt
 pos:Pos
 B:aj
 t:TS
noncomputable def Hd.ast(h:Hd):ExceptHandler:=.ExceptHandler (aA (.Name h.x h.np)) (h.nm.map (·.1)) (h.b0::h.suite) h.pos
noncomputable def Ends.but(D:Ends)(i:Nat):Ends:={nx:=λσ H=>D.nx (σ.set i aB) H,bk:=λσ H=>D.bk (σ.set i aB) H,ct:=λσ H=>D.ct (σ.set i aB) H,rt:=D.rt}
def Hd.run(h:Hd)(C:aj)(dx:Option aj)(D:Ends)(σ:St)(H:Hp):Prop:=match h.nm with
 |none=>h.t D σ H
 |some (_,i)=>∀a,H a=aB->h.t (D.but i) (σ.set i (aA (.ref a))) (Z9 H a (.ext (Fu a C dx)))
noncomputable def Zkg(K:ad)(C:aj):List Hd->Option Hd
 | []=>aB
 |h::r=>match PySem.W.mroIn K C (.ref h.B)with
  |some aC=>aA h
  |some aD=>Zkg K C r
  |none=>aB
set_option genInjectivity false in
structure Hd.Ok(X:Cx)(h:Hd):Prop where
 gl:Gl X h.x
 mg:X.mg h.x=aA (.ref h.B)
 ty:PySem.W.typeIn X.K (.ref h.B)=aA (.type "type")
 cl:PySem.W.isClsIn X.K h.B=aC
 bs:PySem.W.mroIn X.K h.B (.type "BaseException")=aA aC
 db:(h.x==("__debug__":Str))=aD
 nm:∀n i,h.nm=aA (n,i)->X.N.Nodup/\X.N[i]? =aA n/\Loc X.env.scope n/\X.env.kindOf n=aA .local/\X.env.scope.names.lookup n=aA .local
 su:∀a,Ta (X.inSuite a) (h.b0::h.suite) h.t
def Zzz(K:ad)(tb:EXT->TS)(hs:List Hd):TS:=λD σ H=>tb (λcls dx σ' H'=>∃C h,cls= .ref C/\Zkg K C hs=aA h/\h.run C dx D σ' H') D σ H
end L2
namespace L2
open PySem PySem.Spec PySem.Calls PyProof.Rows Builtin.ObjectAttr Builtin.Getset_descriptor
structure ExcKit(K:ad)(C:aj):Prop where
 cl:PySem.W.isClsIn K C=aC
 ga:PySem.W.findIn K (.ref C) "__getattribute__"=aA (aA (.builtin "BaseException.__getattribute__"))
 gt:PySem.W.findIn K (.ref C) "__getattr__"=aA aB
 ca:PySem.W.findIn K (.ref C) "__class__"=aA (aA (.builtin "object.__class__"))
 gs:PySem.W.specialIn K (.builtin "object.__class__") "__get__"=aA (aA (.builtin "getset_descriptor.__get__"))
 tk:PySem.W.takesIn K (.builtin "object.__class__")=aA aC
 ob:PySem.W.mroIn K C (.type "object")=aA aC
 be:PySem.W.mroIn K C (.type "BaseException")=aA aC
def Zz0(K:ad)(c:V)(cv:ah):List V->Hp->VK->Prop:=λxs H Q=>∃a C dx b,xs=[.ref a,c]/\H a=aA (.ext (Fu a C dx))/\ExcKit K C/\PySem.W.kitOne K (.ref C) cv=aA b/\Q (.bl b) H
def Zxp(K:ad)(Bs:List aj):List V->Hp->VK->Prop:=λxs H Q=>∃a C dx p b,xs=[.ref a,.ref p]/\H a=aA (.ext (Fu a C dx))/\ExcKit K C/\H p=aA (.tup (Bs.map V.ref))/\PySem.W.kitAny K (.ref C) (Bs.map b8)=aA b/\Q (.bl b) H
theorem Dc:∀{Bs:List aj} {us:List ah},Z2 (Bs.map V.ref) us->us=Bs.map b8
 | [],_,r=>by rw[List.map_nil]at r;cases r;rfl
 |B::Bs,_,r=>by
  rw[bc]at r;cases r with
  |cons h t=>rw[show _=b8 B from h,Dc t];rfl
end L2
namespace L2
open PySem PySem.Spec PyProof.Rows
abbrev Cx.blockX(X:Cx)(N':List Str)(scope:Scope)(C:aj)(s₀:am)(H₀:Hp)(ex:List aj)(xe:ah->am->Prop):Cx:=
 {X with N:=N',env:=compEnvC scope (Mh X.env.cells scope.names []) C X.env,s₀:=s₀,H₀:=H₀,outer:=X.stack,stack:=X.stack,ex:=ex,fn:=λ_=>aD,pn:=[],xe:=xe}
def Zu0(src:List BSrc)(wi:TI)(g:TG)(tt:TT)(te:EXT->TE)(EX:EXT):TE:=λσ H Q=>wi σ H λJ H1=>∀acc,H1 acc=aB->
 ∃W:Nat->Nat->St->Hp->Prop,(∃m,W 0 m (Vt src σ acc) (Z9 H1 acc (.lst [])))/\∀i m σ' H,W i m σ' H->(J.stop i H/\Q (.ref acc) H)\/
  (J.go i H/\∀x H',J.yld i H x H'->g x σ' H' λσ2 H2=>tt σ2 H2 λb H3=>if b=aC then te (λcls od _ H'=>EX cls od σ H') σ2 H3 λy H4=>Bk (.ref acc) [y] H4 λ_ H5=>∃m',m'<m/\W (i+1) m' σ2 H5 else∃m',m'<m/\W (i+1) m' σ2 H3)
end L2
namespace PySem
open Sem (wp)
end PySem
namespace L2
open PySem PySem.Spec PySem.Calls PyProof.Rows Builtin.ObjectAttr
noncomputable def Zdw:List ah->Bool
 | .ref _::r=>Zdw r
 |l=>l==VEB
structure ExcSet(K:ad)(C:aj)(name:Str):Prop where
 sa:PySem.W.findIn K (.ref C) "__setattr__"=aA (aA (.builtin "object.__setattr__"))
 ob:PySem.W.mroIn K C (.type "object")=aA aC
 na:PySem.W.findIn K (.ref C) name=aA aB
 mr:((PySem.W.clsIn K C).any λcd=>Zdw cd.mro&&cd.hasDict)=aC
def Ci(a C:aj)(dx:Option aj):d6->Prop:=λh=>∃o t,h.get? a=aA o/\o.cls= .ref C/\o.dict=dx/\o.data= .fields #[.ref t,.none,.none,.none,.bool aD,.none]
end L2
namespace L2
open PySem PySem.Spec PyProof.Rows
noncomputable def Zu1(K:ad)(C f:aj):Bool:=match K.lookup C with
 |some ⟨.type "type",_,.cls cd,sl⟩=>(match cd.mro,sl.toList with
  | .ref B::r,[_,_,_,_,aA (.builtin i),_]=>B==C&&i=="ValueError.__new__" && !cd.hasDel&&PySem.W.tailIn K VEB r&&PySem.W.nsOkIn K cd.ns&&cr K cd.ns "__init__"==aA (aA (.ref f))
  |_,_=>aD)
 |_=>aD
def Zs7(C f:aj)(h:d6):Prop:=∃(bm:List ah) (N:aj) (nm q:Str) (bs:List ah) (hdct:Bool) (sn:List Str) (sub:List ah) (ab:Bool) (col:Option Bool) (dd:Option aj) (k0 k1 k2 k3 k5:Option ah) (mN:Str->Option ah),
 h.get? C=aA (excClassObj nm q C N bs bm hdct sn sub ab col dd k0 k1 k2 k3 k5 "ValueError.__new__")/\h.Ns N mN/\mN "__init__"=aA (.ref f)/\OwnTail h VEB bm
def drop(H:Hp)(e:aj):Hp:=λb=>if b=e then aB else H b
structure ExcGet(K:ad)(C:aj)(f:Str):Prop where
 kit:ExcKit K C
 na:PySem.W.findIn K (.ref C) f=aA aB
 mr:((PySem.W.clsIn K C).any λcd=>cd.hasDict)=aC
def Zu2(K:ad)(ta:TE)(f:Str):TE:=λσ H Q=>ta σ H λx H1=>∃a C dx fs v,x= .ref a/\H1 a=aA (.ext (Fu a C (aA dx)))/\H1 dx=aA (.xd fs)/\ExcGet K C f/\fs.lookup f=aA v/\Q v H1
def Zu3(K:ad)(ta tv:TE)(f:Str):TS:=λD σ H=>tv σ H λy H1=>ta σ H1 λx H2=>∃a C,x= .ref a/\H2 a=aA (.ext (Ci a C aB))/\ExcSet K C f/\
 ∀dx,H2 dx=aB->D.nx σ (Z9 (Z9 H2 dx (.xd [(f,y)])) a (.ext (Ci a C (aA dx))))
def Zs8(EX:XK)(C:aj)(sp:Sp)(t:TA):TS:=λ_ σ H=>t σ H λvs H1=>vs.length<=sizeLine/\∀e,H1 e=aB->sp (.ref e::vs) (Z9 H1 e (.ext (Ci e C aB))) (λv H2=>v= .non/\∃dx,H2 e=aA (.ext (Ci e C dx))/\EX (.ref C) dx (drop H2 e)) E0
end L2
namespace DL
open PySem L2
variable{K:ad}
inductive D where
 |non|bl (b:Bool)|int (i:Int)|str (x:Str)
 |tup (xs:List D)|lst (xs:List D)
 |dK (ks:List Key) (vs:List D)|dT (ks:List (List Key)) (vs:List D)|dX (ks:List Zl) (vs:List D)
 |exc (c:Str) (ks:List Str) (vs:List D)
def Ak(K:ad)(c:Str)(C:aj):Prop:=cr K b7 c=aA (aA (.ref C))
def KB(F:Hp)(kvs:List (List Key×V))(bs:List aj):Prop:=Paired (λ(p:List Key×V) (b:aj)=>F b=aA (.tup (p.1.map kV))) kvs bs
def KN(F:Hp)(kvs:List (Zl×V))(bs:List aj):Prop:=Paired (λ(p:Zl×V) (b:aj)=>Q4 F p.1 b) kvs bs
mutual
inductive Rep(K:ad)(F:Hp):D->V->Prop where
 |non:Rep K F .non .non
 |bl (b:Bool):Rep K F (.bl b) (.bl b)
 |int (i:Int):Rep K F (.int i) (.int i)
 |str (x:Str):Rep K F (.str x) (.str x)
 |tup {a:aj} {xs:List D} {vs:List V} (h:F a=aA (.tup vs)) (r:Reps K F xs vs):Rep K F (.tup xs) (.ref a)
 |lst {a:aj} {xs:List D} {vs:List V} (h:W5 K F a vs) (o:F a=aA (.lst vs)\/∀d∈xs,∃i,d= .int i) (r:Reps K F xs vs):Rep K F (.lst xs) (.ref a)
 |dK {a:aj} {ks:List Key} {ds:List D} {kvs:List (Key×V)} {ep:Nat} (h:F a=aA (.dK kvs ep)) (e:kvs.map (·.1)=ks) (r:Reps K F ds (kvs.map (·.2))):Rep K F (.dK ks ds) (.ref a)
 |dT {a:aj} {ks:List (List Key)} {ds:List D} {kvs:List (List Key×V)} {ep:Nat} {bs:List aj} (h:F a=aA (.dT kvs ep bs)) (kb:KB F kvs bs) (e:kvs.map (·.1)=ks) (r:Reps K F ds (kvs.map (·.2))):Rep K F (.dT ks ds) (.ref a)
 |dX {a:aj} {ks:List Zl} {ds:List D} {kvs:List (Zl×V)} {ep:Nat} {bs:List aj} (h:F a=aA (.dN kvs ep bs)) (kb:KN F kvs bs) (e:kvs.map (·.1)=ks) (r:Reps K F ds (kvs.map (·.2))):Rep K F (.dX ks ds) (.ref a)
 |exc {a C:aj} {c:Str} (cl:Ak K c C) (h:F a=aA (.ext (Fu a C aB))):Rep K F (.exc c [] []) (.ref a)
 |exd {a C dx:aj} {c:Str} {ks:List Str} {ds:List D} {fs:List (Str×V)} (cl:Ak K c C) (h:F a=aA (.ext (Fu a C (aA dx)))) (hx:F dx=aA (.xd fs)) (e:fs.map (·.1)=ks) (r:Reps K F ds (fs.map (·.2))):Rep K F (.exc c ks ds) (.ref a)
inductive Reps(K:ad)(F:Hp):List D->List V->Prop where
 |nil:Reps K F [] []
 |cons {d:D} {v:V} {ds:List D} {vs:List V} (h:Rep K F d v) (t:Reps K F ds vs):Reps K F (d::ds) (v::vs)
end
theorem KB.mono(s:Zi F F')(h:KB F kvs bs):KB F' kvs bs:=Paired.mapP h λ_ _ z=>s _ _ z
theorem KN.mono(s:Zi F F')(h:KN F kvs bs):KN F' kvs bs:=Paired.mapP h λ_ _ z=>z.mono λ_ _ q=>s _ _ q
theorem Zdx(s:Zi F F')(h:Rd F a u):Rd F' a u:=by
 rcases h with h|⟨o,h⟩
 .exact .inl (s _ _ h)
 .exact .inr ⟨o,s _ _ h⟩
theorem Wb(s:Zi F F')(h:W5 K F a xs):W5 K F' a xs:=by
 rcases h with h|h
 .exact .inl (Zdx s h)
 .exact .inr h
theorem Qf(s:Zi F F')(h:Ob K F a xs):Ob K F' a xs:=by
 rcases h with h|h
 .exact .inl (Zdx s h)
 .exact .inr h
theorem Gr(h:F a=aA (.tup vs)):Ob K F a vs:=.inl (.inl h)
mutual
theorem Rep.mono{F F':Hp}(s:Zi F F'):∀{d:D} {v:V},Rep K F d v->Rep K F' d v
 |_,_,.non=>.non
 |_,_,.bl b=>.bl b
 |_,_,.int i=>.int i
 |_,_,.str x=>.str x
 |_,_,.tup h r=>.tup (s _ _ h) (Reps.mono s r)
 |_,_,.lst h o r=>.lst (Wb s h) (o.imp (λz=>s _ _ z) id) (Reps.mono s r)
 |_,_,.dK h e r=>.dK (s _ _ h) e (Reps.mono s r)
 |_,_,.dT h kb e r=>.dT (s _ _ h) (kb.mono s) e (Reps.mono s r)
 |_,_,.dX h kb e r=>.dX (s _ _ h) (kb.mono s) e (Reps.mono s r)
 |_,_,.exc cl h=>.exc cl (s _ _ h)
 |_,_,.exd cl h hx e r=>.exd cl (s _ _ h) (s _ _ hx) e (Reps.mono s r)
theorem Reps.mono{F F':Hp}(s:Zi F F'):∀{ds:List D} {vs:List V},Reps K F ds vs->Reps K F' ds vs
 |_,_,.nil=>.nil
 |_,_,.cons h t=>.cons (Rep.mono s h) (Reps.mono s t)
end
theorem Reps.length:∀{vs:List V},Reps K F ds vs->ds.length=vs.length:=by
 induction ds with
 |nil=>intro vs h;cases h;rfl
 |cons d ds ih=>
  intro vs h;cases h with
  |cons _ t=>rw[bf,bf,ih t]
theorem Reps.append(h:Reps K F ds vs)(q:Reps K F es us):Reps K F (ds++es) (vs++us):=by
 induction ds generalizing vs with
 |nil=>cases h;exact q
 |cons d ds ih=>
  cases h with
  |cons h t=>exact .cons h (ih t)
theorem Reps.snoc(r:Reps K F ds vs)(h:Rep K F d v):Reps K F (ds++[d]) (vs++[v]):=r.append (.cons h .nil)
theorem Reps.get:∀{ds:List D} {vs:List V} {i:Nat} {d:D},Reps K F ds vs->ds[i]? =aA d->∃v,vs[i]? =aA v/\Rep K F d v
 |_,_,_,_,.nil,e=>by simp at e
 |_,_,0,_,.cons h t,e=>by simp at e;subst e;exact⟨_,rfl,h⟩
 |_,_,i+1,d,.cons h t,e=>by obtain⟨v,h1,h2⟩:=Reps.get (i:=i) (d:=d) t (by simpa using e);exact⟨v,by simpa using h1,h2⟩
theorem Reps.take:∀{ds:List D} {vs:List V} n,Reps K F ds vs->Reps K F (ds.take n) (vs.take n)
 |_,_,0,_=>.nil
 |_,_,_+1,.nil=>.nil
 |_,_,n+1,.cons h t=>.cons h (t.take n)
theorem Reps.drop:∀{ds:List D} {vs:List V} n,Reps K F ds vs->Reps K F (ds.drop n) (vs.drop n)
 |_,_,0,r=>r
 |_,_,_+1,.nil=>.nil
 |_,_,n+1,.cons h t=>t.drop n
inductive SV where
 |fz (d:D)|ol (xs:List D)|oK (ks:List Key) (vs:List D)|oT (ks:List (List Key)) (vs:List D)|oN (ks:List Key) (xss:List (List D))|oL (pin:Option aj) (xss:List (List D))|oQ (pin:aj) (ks:List Key) (vs:List D)|oX (ks:List Zl) (xss:List (List D))|oD (dss:List (List Key×List D))|oM (ks:List Zl) (vs:List D)
@[simp]noncomputable def SV.toD:SV->D
 | .fz d=>d
 | .ol xs=>.lst xs
 | .oK ks vs=>.dK ks vs
 | .oT ks vs=>.dT ks vs
 | .oN ks xss=>.dK ks (xss.map D.lst)
 | .oL _ xss=>.lst (xss.map D.lst)
 | .oQ _ ks vs=>.dK ks vs
 | .oX ks xss=>.dX ks (xss.map D.lst)
 | .oD dss=>.lst (dss.map λp=>.dK p.1 p.2)
 | .oM ks vs=>.dX ks vs
noncomputable abbrev Zo:=List (aj×HO)
inductive Kids(K:ad)(F:Hp):List (List D)->List V->Zo->Prop where
 |nil:Kids K F [] [] []
 |cons {xs:List D} {xss:List (List D)} {b:aj} {vs:List V} {ws:List V} {ns:Zo} (r:Reps K F xs vs) (t:Kids K F xss ws ns):Kids K F (xs::xss) (.ref b::ws) ((b,.lst vs)::ns)
inductive KidD(K:ad)(F:Hp):List (List Key×List D)->List V->Zo->Prop where
 |nil:KidD K F [] [] []
 |cons {ds:List D} {dss:List (List Key×List D)} {b:aj} {kvs:List (Key×V)} {ep:Nat} {ws:List V} {ns:Zo} (r:Reps K F ds (kvs.map (·.2))) (t:KidD K F dss ws ns):KidD K F ((kvs.map (·.1),ds)::dss) (.ref b::ws) ((b,.dK kvs ep)::ns)
inductive Shape(K:ad)(F:Hp):SV->V->Zo->Prop where
 |fz {d:D} {v:V} (h:Rep K F d v):Shape K F (.fz d) v []
 |ol {a:aj} {xs:List D} {vs:List V} (r:Reps K F xs vs):Shape K F (.ol xs) (.ref a) [(a,.lst vs)]
 |oK {a:aj} {ks:List Key} {ds:List D} {kvs:List (Key×V)} {ep:Nat} (e:kvs.map (·.1)=ks) (r:Reps K F ds (kvs.map (·.2))):Shape K F (.oK ks ds) (.ref a) [(a,.dK kvs ep)]
 |oT {a:aj} {ks:List (List Key)} {ds:List D} {kvs:List (List Key×V)} {ep:Nat} {bs:List aj} (kb:KB F kvs bs) (e:kvs.map (·.1)=ks) (r:Reps K F ds (kvs.map (·.2))):Shape K F (.oT ks ds) (.ref a) [(a,.dT kvs ep bs)]
 |oN {a:aj} {ks:List Key} {xss:List (List D)} {kvs:List (Key×V)} {ns:Zo} {ep:Nat} (e:kvs.map (·.1)=ks) (r:Kids K F xss (kvs.map (·.2)) ns):Shape K F (.oN ks xss) (.ref a) ((a,.dK kvs ep)::ns)
 |oL {pin:Option aj} {a:aj} {xss:List (List D)} {ws:List V} {ns:Zo} (hp:∀b,pin=aA b->b=a) (r:Kids K F xss ws ns):Shape K F (.oL pin xss) (.ref a) ((a,.lst ws)::ns)
 |oQ {a:aj} {ks:List Key} {ds:List D} {kvs:List (Key×V)} {ep:Nat} (e:kvs.map (·.1)=ks) (r:Reps K F ds (kvs.map (·.2))):Shape K F (.oQ a ks ds) (.ref a) [(a,.dK kvs ep)]
 |oX {a:aj} {ks:List Zl} {xss:List (List D)} {kvs:List (Zl×V)} {ns:Zo} {ep:Nat} {bs:List aj} (kb:KN F kvs bs) (e:kvs.map (·.1)=ks) (r:Kids K F xss (kvs.map (·.2)) ns):Shape K F (.oX ks xss) (.ref a) ((a,.dN kvs ep bs)::ns)
 |oD {a:aj} {dss:List (List Key×List D)} {ws:List V} {ns:Zo} (r:KidD K F dss ws ns):Shape K F (.oD dss) (.ref a) ((a,.lst ws)::ns)
 |oM {a:aj} {ks:List Zl} {ds:List D} {kvs:List (Zl×V)} {ep:Nat} {bs:List aj} (kb:KN F kvs bs) (e:kvs.map (·.1)=ks) (r:Reps K F ds (kvs.map (·.2))):Shape K F (.oM ks ds) (.ref a) [(a,.dN kvs ep bs)]
theorem KidD.mono(s:Zi F F'):∀{dss:List (List Key×List D)} {ws:List V} {ns:Zo},KidD K F dss ws ns->KidD K F' dss ws ns
 |_,_,_,.nil=>.nil
 |_,_,_,.cons r t=>.cons (r.mono s) (t.mono s)
theorem Kids.mono(s:Zi F F')(h:Kids K F xss ws ns):Kids K F' xss ws ns:=by
 induction h with
 |nil=>exact .nil
 |cons r _ ih=>exact .cons (r.mono s) ih
theorem Shape.mono(s:Zi F F')(h:Shape K F sv v ns):Shape K F' sv v ns:=by
 cases h with
 |fz h=>exact .fz (h.mono s)
 |ol r=>exact .ol (r.mono s)
 |oK e r=>exact .oK e (r.mono s)
 |oT kb e r=>exact .oT (kb.mono s) e (r.mono s)
 |oN e r=>exact .oN e (r.mono s)
 |oL hp r=>exact .oL hp (r.mono s)
 |oQ e r=>exact .oQ e (r.mono s)
 |oX kb e r=>exact .oX (kb.mono s) e (r.mono s)
 |oD r=>exact .oD (r.mono s)
 |oM kb e r=>exact .oM (kb.mono s) e (r.mono s)
def Ue(F:Hp):Zo->Hp
 | []=>F
 |p::r=>Z9 (Ue F r) p.1 p.2
abbrev Bf(ns:Zo):List Addr:=ns.map (·.1)
theorem O7:∀{ns:Zo},b∉Bf ns->Ue F ns b=F b
 | [],_=>rfl
 |p::r,h=>by have h1:b≠p.1:=λe=>h (by rw[e];exact af);have h2:b∉Bf r:=λe=>h (ao _ e);show Z9 (Ue F r) p.1 p.2 b=F b;rw[Zw h1,O7 h2]
theorem Al:∀{ns:Zo},(Bf ns).Nodup->p∈ns->Ue F ns p.1=aA p.2
 | [],_,h=>nomatch h
 |q::r,nd,h=>by
  obtain⟨n1,n2⟩:=dm.mp nd;show Z9 (Ue F r) q.1 q.2 p.1=aA p.2;rcases bx.mp h with e|e
  .subst e;exact Z3
  .rw[Zw λz=>n1 (ax.mpr ⟨p,e,z⟩)];exact Al n2 e
theorem Ql(h:∀p∈ns,F p.1=aB):Zi F (Ue F ns):=λb o e=>by
 by_cases hb:b∈Bf ns
 .obtain⟨p,hp,ep⟩:=ax.mp hb;subst ep;rw[h p hp]at e;cases e
 .rw[O7 hb];exact e
theorem Dd(nd:(Bf ns).Nodup)(le:Zi F H)(h:∀p∈ns,H p.1=aA p.2):Zi (Ue F ns) H:=λb o e=>by
 by_cases hb:b∈Bf ns
 .obtain⟨p,hp,ep⟩:=ax.mp hb;subst ep;rw[Al nd hp]at e;cases e;exact h p hp
 .rw[O7 hb]at e;exact le b o e
theorem P0{Z:Hp×Hp}(nd:(Bf ns).Nodup)(fro:∀b o,F b=aA o->Z.2 b=aA o\/Z.1 b=aB)(hz:∀p∈ns,Z.1 p.1=aB):∀b o,Ue F ns b=aA o->Z.2 b=aA o\/Z.1 b=aB:=λb o e=>by
 by_cases hb:b∈Bf ns
 .obtain⟨p,hp,ep⟩:=ax.mp hb;subst ep;exact .inr (hz p hp)
 .rw[O7 hb]at e;exact fro b o e
theorem Kids.rep(s:Zi F F'):∀{xss:List (List D)} {ws:List V} {ns:Zo},Kids K F xss ws ns->(∀p∈ns,F' p.1=aA p.2)->Reps K F' (xss.map D.lst) ws
 |_,_,_,.nil,_=>.nil
 |_,_,_,.cons r t,h=>.cons (.lst (.inl (.inl (h _ af))) (.inl (h _ af)) (r.mono s)) (t.rep s λp hp=>h p (ao _ hp))
theorem KidD.rep(s:Zi F F'):∀{dss:List (List Key×List D)} {ws:List V} {ns:Zo},KidD K F dss ws ns->(∀p∈ns,F' p.1=aA p.2)->Reps K F' (dss.map λp=>.dK p.1 p.2) ws
 |_,_,_,.nil,_=>.nil
 |_,_,_,.cons r t,h=>.cons (.dK (h _ af) rfl (r.mono s)) (t.rep s λp hp=>h p (ao _ hp))
theorem Shape.rep(h:Shape K F sv v ns)(nd:(Bf ns).Nodup)(hn:∀p∈ns,F p.1=aB):Rep K (Ue F ns) sv.toD v:=by
 have s:=Ql hn;have a:∀p∈ns,Ue F ns p.1=aA p.2:=λp hp=>Al nd hp;cases h with
 |fz h=>exact h
 |ol r=>exact .lst (.inl (.inl (a (_,_) af))) (.inl (a (_,_) af)) (r.mono s)
 |oK e r=>exact .dK (a (_,_) af) e (r.mono s)
 |oT kb e r=>exact .dT (a (_,_) af) (kb.mono s) e (r.mono s)
 |oN e r=>exact .dK (a (_,_) af) e (r.rep s λp hp=>a p (ao _ hp))
 |oL _ r=>exact .lst (.inl (.inl (a (_,_) af))) (.inl (a (_,_) af)) (r.rep s λp hp=>a p (ao _ hp))
 |oQ e r=>exact .dK (a (_,_) af) e (r.mono s)
 |oX kb e r=>exact .dX (a (_,_) af) (kb.mono s) e (r.rep s λp hp=>a p (ao _ hp))
 |oD r=>exact .lst (.inl (.inl (a (_,_) af))) (.inl (a (_,_) af)) (r.rep s λp hp=>a p (ao _ hp))
 |oM kb e r=>exact .dX (a (_,_) af) (kb.mono s) e (r.mono s)
noncomputable abbrev Yk:=List (Option SV)
set_option genInjectivity false in
structure Ent(K:ad)where
 h:Hp
 f:Hp
 x:EXT
abbrev ent(H F:Hp):Ent K:=⟨H,F,λ_ _ _ _=>False⟩
set_option genInjectivity false in
structure Exn where
 c:Str
 ks:List Str:=[]
 vs:List D:=[]
def Lz(K:ad)(F:Hp)(e:Exn)(cls:ah)(od:Option aj):Prop:=∃C,Ak K e.c C/\cls= .ref C/\match od with
 |none=>e.ks=[]/\e.vs=[]
 |some dx=>∃fs:List (Str×V),F dx=aA (.xd fs)/\fs.map (·.1)=e.ks/\Reps K F e.vs (fs.map (·.2))
structure SR(Z:Ent K)(F H:Hp)(σ:St)(δ:Yk)(own:Nat->Zo):Prop where
 le:Zi F H
 fro:∀(b:aj) (o:HO),F b=aA o->Z.f b=aA o\/Z.h b=aB
 old:Zi Z.h H
 len:σ.length=δ.length
 at':∀(i:Nat) (sv:SV),δ[i]? =aA (aA sv)->∃v,σ[i]? =aA (aA v)/\Shape K F sv v (own i)
 nod:∀i:Nat,(Bf (own i)).Nodup
 ok:∀(i:Nat) (p:aj×HO),p∈own i->F p.1=aB/\Z.h p.1=aB/\H p.1=aA p.2
 sep:∀(i j:Nat) (p q:aj×HO),i≠j->p∈own i->q∈own j->p.1≠q.1
inductive RV where
 |tmp (sv:SV)|bw (i:Nat)
structure TmpOk(Z:Ent K)(F H:Hp)(own:Nat->Zo)(sv:SV)(v:V)(ns:Zo):Prop where
 sh:Shape K F sv v ns
 nd:(Bf ns).Nodup
 ok:∀p∈ns,F p.1=aB/\Z.h p.1=aB/\H p.1=aA p.2
 sep:∀(i:Nat) (p q:aj×HO),p∈ns->q∈own i->p.1≠q.1
def P3(Z:Ent K)(F H:Hp)(σ:St)(own:Nat->Zo):RV->V->Prop
 | .tmp sv,v=>∃ns,TmpOk Z F H own sv v ns
 | .bw i,v=>σ[i]? =aA (aA v)
theorem TmpOk.fz{Z:Ent K}(h:Rep K F d v):TmpOk Z F H own (.fz d) v []:=
 ⟨.fz h,df,λ_ h=>(nomatch h),λ_ _ _ h=>(nomatch h)⟩
theorem Ws(h:H p=aB):Zi H (Z9 H p o):=λb u e=>by rw[Zw λz=>by rw[z,h]at e;cases e];exact e
theorem SR.grow{Z:Ent K}(s:SR Z F H σ δ own)(h:Zi H H'):SR Z F H' σ δ own:=
 ⟨s.le.trans h,s.fro,s.old.trans h,s.len,s.at',s.nod,λi p hp=>let⟨a,b,c⟩:=s.ok i p hp;⟨a,b,h _ _ c⟩,s.sep⟩
theorem SR.addF{Z:Ent K}(s:SR Z F H σ δ own)(nd:(Bf ns).Nodup)(hn:∀p∈ns,F p.1=aB)(hH:∀p∈ns,H p.1=aA p.2)(hz:∀p∈ns,Z.h p.1=aB)(hs:∀i p q,p∈ns->q∈own i->p.1≠q.1):SR Z (Ue F ns) H σ δ own:=by
 have sm:=Ql hn;refine⟨Dd nd s.le hH,P0 (Z:=(Z.h,Z.f)) nd s.fro hz,s.old,s.len,λi sv e=>?_,s.nod,λi p hp=>?_,s.sep⟩
 .obtain⟨v,h1,h2⟩:=s.at' i sv e;exact⟨v,h1,h2.mono sm⟩
 .obtain⟨a,b,c⟩:=s.ok i p hp;refine⟨?_,b,c⟩;rw[O7 λhb=>?_]
  .exact a
  .obtain⟨q,hq,e⟩:=ax.mp hb;exact hs i q p hq hp e
theorem SR.settle{Z:Ent K}(s:SR Z F H σ δ own)(t:TmpOk Z F H own sv v ns):
  ∃F1,Zi F F1/\SR Z F1 H σ δ own/\Rep K F1 sv.toD v:=
 ⟨Ue F ns,Ql λp hp=>(t.ok p hp).1,s.addF t.nd (λp hp=>(t.ok p hp).1) (λp hp=>(t.ok p hp).2.2) (λp hp=>(t.ok p hp).2.1) t.sep,t.sh.rep t.nd λp hp=>(t.ok p hp).1⟩
def put(own:Nat->Zo)(i:Nat)(ns:Zo):Nat->Zo:=λj=>if j=i then ns else own j
theorem Yh:put own i ns i=ns:=if_pos rfl
theorem Yw(h:j≠i):put own i ns j=own j:=if_neg h
theorem SR.freeze{Z:Ent K}(s:SR Z F H σ δ own)(e:δ[i]? =aA (aA sv)):
  ∃F1 v,Zi F F1/\σ[i]? =aA (aA v)/\Rep K F1 sv.toD v/\SR Z F1 H σ (δ.set i (aA (.fz sv.toD))) (put own i []):=by
 obtain⟨v,h1,h2⟩:=s.at' i sv e;have hn:∀p∈own i,F p.1=aB:=λp hp=>(s.ok i p hp).1;have sm:=Ql hn;have hi:i<δ.length:=(a8.mp e).1;refine⟨Ue F (own i),v,sm,h1,h2.rep (s.nod i) hn,⟨Dd (s.nod i) s.le λp hp=>(s.ok i p hp).2.2,P0 (Z:=(Z.h,Z.f)) (s.nod i) s.fro λp hp=>(s.ok i p hp).2.1,s.old,by rw[List.length_set];exact s.len,λj sw ej=>?_,λj=>?_,λj p hp=>?_,λj k p q hjk hp hq=>?_⟩⟩
 .by_cases hj:j=i
  .subst hj;rw[d5 hi]at ej;cases ej;rw[Yh];exact⟨v,h1,.fz (h2.rep (s.nod j) hn)⟩
  .rw[fj (Ne.symm hj)]at ej;obtain⟨w,g1,g2⟩:=s.at' j sw ej;rw[Yw hj];exact⟨w,g1,g2.mono sm⟩
 .by_cases hj:j=i
  .subst hj;rw[Yh];exact df
  .rw[Yw hj];exact s.nod j
 .by_cases hj:j=i
  .subst hj;rw[Yh]at hp;exact nomatch hp
  .rw[Yw hj]at hp;obtain⟨a,b,c⟩:=s.ok j p hp;refine⟨?_,b,c⟩;rw[O7 λhb=>?_]
   .exact a
   .obtain⟨q,hq,z⟩:=ax.mp hb;exact s.sep i j q p (Ne.symm hj) hq hp z
 .by_cases hj:j=i
  .subst hj;rw[Yh]at hp;exact nomatch hp
  .by_cases hk:k=i
   .subst hk;rw[Yh]at hq;exact nomatch hq
   .rw[Yw hj]at hp;rw[Yw hk]at hq;exact s.sep j k p q hjk hp hq
theorem SR.store{Z:Ent K}(s:SR Z F H σ δ own)(t:TmpOk Z F H own sv v ns)(hi:i<σ.length):
  SR Z F H (σ.set i (aA v)) (δ.set i (aA sv)) (put own i ns):=by
 refine⟨s.le,s.fro,s.old,by rw[List.length_set,List.length_set];exact s.len,λj sw ej=>?_,λj=>?_,λj p hp=>?_,λj k p q hjk hp hq=>?_⟩
 .by_cases hj:j=i
  .subst hj;have hd:j<δ.length:=by have:=(a8.mp ej).1;simpa using this
   rw[d5 hd]at ej;cases ej;rw[Yh,d5 hi];exact⟨v,rfl,t.sh⟩
  .rw[fj (Ne.symm hj)]at ej;rw[Yw hj,fj (Ne.symm hj)];exact s.at' j sw ej
 .by_cases hj:j=i
  .subst hj;rw[Yh];exact t.nd
  .rw[Yw hj];exact s.nod j
 .by_cases hj:j=i
  .subst hj;rw[Yh]at hp;exact t.ok p hp
  .rw[Yw hj]at hp;exact s.ok j p hp
 .by_cases hj:j=i
  .subst hj;rw[Yh]at hp;rw[Yw (Ne.symm hjk)]at hq;exact t.sep k p q hp hq
  .by_cases hk:k=i
   .subst hk;rw[Yh]at hq;rw[Yw hj]at hp;exact Ne.symm (t.sep j q p hq hp)
   .rw[Yw hj]at hp;rw[Yw hk]at hq;exact s.sep j k p q hjk hp hq
theorem SR.change{Z:Ent K}(s:SR Z F H σ δ own)(e:δ[i]? =aA (aA sv))(hv:σ[i]? =aA (aA v))(ha:(a,o)∈own i)(hs:Shape K F sv' v ns')(hns:∀p∈ns',p=(a,o')\/(p∈own i/\p.1≠a))(nd:(Bf ns').Nodup):SR Z F (Z9 H a o') σ (δ.set i (aA sv')) (put own i ns'):=by
 obtain⟨fa,ha0,hHa⟩:=s.ok i (a,o) ha;have hi:i<δ.length:=(a8.mp e).1;refine⟨λb u eb=>?_,s.fro,λb u eb=>?_,by rw[List.length_set];exact s.len,λj sw ej=>?_,λj=>?_,λj p hp=>?_,λj k p q hjk hp hq=>?_⟩
 .rw[Zw λz=>by rw[z]at eb;rw[fa]at eb;cases eb];exact s.le b u eb
 .rw[Zw λz=>by rw[z]at eb;rw[ha0]at eb;cases eb];exact s.old b u eb
 .by_cases hj:j=i
  .subst hj;rw[d5 hi]at ej;cases ej;rw[Yh];exact⟨v,hv,hs⟩
  .rw[fj (Ne.symm hj)]at ej;rw[Yw hj];exact s.at' j sw ej
 .by_cases hj:j=i
  .subst hj;rw[Yh];exact nd
  .rw[Yw hj];exact s.nod j
 .by_cases hj:j=i
  .subst hj;rw[Yh]at hp;rcases hns p hp with z|⟨z,ne⟩
   .subst z;exact⟨fa,ha0,Z3⟩
   .obtain⟨x,y,w⟩:=s.ok j p z;exact⟨x,y,by rw[Zw ne];exact w⟩
  .rw[Yw hj]at hp;obtain⟨x,y,w⟩:=s.ok j p hp;exact⟨x,y,by rw[Zw (s.sep j i p (a,o) hj hp ha)];exact w⟩
 .have own':∀r∈ns',∃r'∈own i,r.1=r'.1:=λr hr=>by
   rcases hns r hr with z|⟨z,_⟩
   .subst z;exact⟨(a,o),ha,rfl⟩
   .exact⟨r,z,rfl⟩
  by_cases hj:j=i
  .subst hj;rw[Yh]at hp;rw[Yw (Ne.symm hjk)]at hq;obtain⟨r',hr',er⟩:=own' p hp;rw[er];exact s.sep j k r' q hjk hr' hq
  .by_cases hk:k=i
   .subst hk;rw[Yh]at hq;rw[Yw hj]at hp;obtain⟨r',hr',er⟩:=own' q hq;rw[er];exact s.sep j k p r' hjk hp hr'
   .rw[Yw hj]at hp;rw[Yw hk]at hq;exact s.sep j k p q hjk hp hq
end DL
namespace DL
open PySem L2
variable{K:ad}
abbrev FE:=Yk->Option (RV×Yk)
abbrev FT:=Yk->Option (Bool×Yk)
abbrev FA:=Yk->Option (List RV×Yk)
abbrev FD:=Yk->Option (List D×Yk)
@[simp]noncomputable def SV.nested:SV->Bool
 | .oN _ _=>aC
 | .oL _ _=>aC
 | .oX _ _=>aC
 | .oD _=>aC
 | .oM _ _=>aC
 |_=>aD
@[simp]def Iw:RV->Yk->Option D
 | .tmp sv,_=>aA sv.toD
 | .bw i,δ=>(δ[i]?.join).bind λsv=>if sv.nested then aB else aA sv.toD
@[simp]def frz:RV->Yk->Option (D×Yk)
 | .tmp sv,δ=>aA (sv.toD,δ)
 | .bw i,δ=>(δ[i]?.join).bind λsv=>aA (sv.toD,δ.set i (aA (.fz sv.toD)))
theorem O8{δ:Yk}{i:Nat}(h:δ[i]?.join=aA sv):δ[i]? =aA (aA sv):=by
 cases e:δ[i]? with
 |none=>rw[e]at h;cases h
 |some o=>rw[e]at h;cases o with
  |none=>cases h
  |some s=>cases h;rfl
def Ze(Z:Ent K)(f:FE):TE:=λσ H Q=>∃F δ own rv δ',SR Z F H σ δ own/\f δ=aA (rv,δ')/\
 ∀v H' F' own',Zi H H'->Zi F F'->SR Z F' H' σ δ' own'->P3 Z F' H' σ own' rv v->Q v H'
def Yl(Z:Ent K)(f:FT):TT:=λσ H Q=>∃F δ own b δ',SR Z F H σ δ own/\f δ=aA (b,δ')/\
 ∀H' F' own',Zi H H'->Zi F F'->SR Z F' H' σ δ' own'->Q b H'
def RVS(K:ad)(F:Hp)(σ:St):RV->V->Prop
 | .tmp sv,v=>Rep K F sv.toD v
 | .bw i,v=>σ[i]? =aA (aA v)
inductive RVSs(K:ad)(F:Hp)(σ:St):List RV->List V->Prop where
 |nil:RVSs K F σ [] []
 |cons {rv:RV} {v:V} {rvs:List RV} {vs:List V} (h:RVS K F σ rv v) (t:RVSs K F σ rvs vs):RVSs K F σ (rv::rvs) (v::vs)
def Cb(Z:Ent K)(f:FA):TA:=λσ H Q=>∃F δ own rvs δ',SR Z F H σ δ own/\f δ=aA (rvs,δ')/\
 ∀vs H' F' own',Zi H H'->Zi F F'->SR Z F' H' σ δ' own'->RVSs K F' σ rvs vs->Q vs H'
def Qu(Z:Ent K)(f:FD):TA:=λσ H Q=>∃F δ own ds δ',SR Z F H σ δ own/\f δ=aA (ds,δ')/\
 ∀vs H' F' own',Zi H H'->Zi F F'->SR Z F' H' σ δ' own'->Reps K F' ds vs->Q vs H'
section
variable{Z:Ent K}{F H F' H':Hp}{σ:St}{δ δ':Yk}{own:Nat->Zo}{rv:RV}{v:V}{d:D}
theorem RVS.mono(s:Zi F F')(h:RVS K F σ rv v):RVS K F' σ rv v:=by
 cases rv with
 |tmp sv=>exact Rep.mono s h
 |bw i=>exact h
theorem SR.settleR(s:SR Z F H σ δ own)(h:P3 Z F H σ own rv v):∃F1,Zi F F1/\SR Z F1 H σ δ own/\RVS K F1 σ rv v:=by
 cases rv with
 |tmp sv=>obtain⟨ns,t⟩:=h;exact s.settle t
 |bw i=>exact⟨F,Zi.refl F,s,h⟩
theorem SR.frzR(s:SR Z F H σ δ own)(h:RVS K F σ rv v)(e:frz rv δ=aA (d,δ')):∃F1 own1,Zi F F1/\SR Z F1 H σ δ' own1/\Rep K F1 d v:=by
 cases rv with
 |tmp sv=>cases e;exact⟨F,own,Zi.refl F,s,h⟩
 |bw i=>obtain⟨sv,e1,e2⟩:=aa.mp e;cases e2;obtain⟨F1,w,h1,h2,h3,h4⟩:=s.freeze (O8 e1);have h':σ[i]? =aA (aA v):=h;rw[h']at h2;cases h2;exact⟨F1,_,h1,h4,h3⟩
def Yi(K:ad)(F H:Hp)(d:D)(v:V):Prop:=∃sv ns,sv.toD=d/\sv.nested=aD/\Shape K F sv v ns/\∀p∈ns,H p.1=aA p.2
theorem Yi.of(h:Rep K F d v):Yi K F H d v:=⟨.fz d,[],rfl,rfl,.fz h,λ_ h=>nomatch h⟩
theorem SR.rd(s:SR Z F H σ δ own)(h:RVS K F σ rv v)(e:Iw rv δ=aA d):Yi K F H d v:=by
 cases rv with
 |tmp sv=>cases e;exact Yi.of h
 |bw i=>
  obtain⟨sv,e1,e2⟩:=aa.mp e;cases hn:sv.nested with
  |true=>rw[hn]at e2;cases e2
  |false=>rw[hn]at e2;cases e2;obtain⟨w,h1,h2⟩:=s.at' i sv (O8 e1);have h':σ[i]? =aA (aA v):=h;rw[h']at h1;cases h1;exact⟨sv,own i,rfl,hn,h2,λp hp=>(s.ok i p hp).2.2⟩
inductive RepNs(K:ad)(F H:Hp):List D->List V->Prop where
 |nil:RepNs K F H [] []
 |cons {d:D} {v:V} {ds:List D} {vs:List V} (h:Yi K F H d v) (t:RepNs K F H ds vs):RepNs K F H (d::ds) (v::vs)
theorem Yi.non(h:Yi K F H .non v):v= .non:=by
 obtain⟨sv,ns,e,n,sh,hp⟩:=h;cases sh with
 |fz r=>cases e;cases r;rfl
 |ol r=>cases e
 |oK e' r=>cases e
 |oT kb e' r=>cases e
 |oN e' r=>cases n
 |oX kb' e' r=>cases n
 |oD r=>cases n
 |oM kb' e' r=>cases n
 |oL _ r=>cases n
 |oQ e' r=>cases e
theorem Yi.bl(h:Yi K F H (.bl b) v):v= .bl b:=by
 obtain⟨sv,ns,e,n,sh,hp⟩:=h;cases sh with
 |fz r=>cases e;cases r;rfl
 |ol r=>cases e
 |oK e' r=>cases e
 |oT kb e' r=>cases e
 |oN e' r=>cases n
 |oX kb' e' r=>cases n
 |oD r=>cases n
 |oM kb' e' r=>cases n
 |oL _ r=>cases n
 |oQ e' r=>cases e
theorem Yi.int(h:Yi K F H (.int i) v):v= .int i:=by
 obtain⟨sv,ns,e,n,sh,hp⟩:=h;cases sh with
 |fz r=>cases e;cases r;rfl
 |ol r=>cases e
 |oK e' r=>cases e
 |oT kb e' r=>cases e
 |oN e' r=>cases n
 |oX kb' e' r=>cases n
 |oD r=>cases n
 |oM kb' e' r=>cases n
 |oL _ r=>cases n
 |oQ e' r=>cases e
theorem Yi.str(h:Yi K F H (.str x) v):v= .str x:=by
 obtain⟨sv,ns,e,n,sh,hp⟩:=h;cases sh with
 |fz r=>cases e;cases r;rfl
 |ol r=>cases e
 |oK e' r=>cases e
 |oT kb e' r=>cases e
 |oN e' r=>cases n
 |oX kb' e' r=>cases n
 |oD r=>cases n
 |oM kb' e' r=>cases n
 |oL _ r=>cases n
 |oQ e' r=>cases e
theorem Yi.tup(le:Zi F H)(h:Yi K F H (.tup xs) v):∃a vs,v= .ref a/\Ob K H a vs/\Reps K F xs vs:=by
 obtain⟨sv,ns,e,n,sh,hp⟩:=h;cases sh with
 |fz r=>cases e;cases r with|tup h r=>exact⟨_,_,rfl,Qf le (Gr h),r⟩
 |ol r=>cases e
 |oK e' r=>cases e
 |oT kb e' r=>cases e
 |oN e' r=>cases n
 |oX kb' e' r=>cases n
 |oD r=>cases n
 |oM kb' e' r=>cases n
 |oL _ r=>cases n
 |oQ e' r=>cases e
theorem Yi.lst(le:Zi F H)(h:Yi K F H (.lst xs) v):∃a vs,v= .ref a/\W5 K H a vs/\Reps K F xs vs:=by
 obtain⟨sv,ns,e,n,sh,hp⟩:=h;cases sh with
 |fz r=>cases e;cases r with|lst h _ r=>exact⟨_,_,rfl,Wb le h,r⟩
 |ol r=>cases e;exact⟨_,_,rfl,.inl (.inl (hp _ af)),r⟩
 |oK e' r=>cases e
 |oT kb e' r=>cases e
 |oN e' r=>cases n
 |oX kb' e' r=>cases n
 |oD r=>cases n
 |oM kb' e' r=>cases n
 |oL _ r=>cases n
 |oQ e' r=>cases e
theorem Yi.dK(le:Zi F H)(h:Yi K F H (.dK ks ds) v):∃a kvs,v= .ref a/\HK H a kvs/\kvs.map (·.1)=ks/\Reps K F ds (kvs.map (·.2)):=by
 obtain⟨sv,ns,e,n,sh,hp⟩:=h;cases sh with
 |fz r=>cases e;cases r with|dK h e r=>exact⟨_,_,rfl,⟨_,le _ _ h⟩,e,r⟩
 |ol r=>cases e
 |oK e' r=>cases e;exact⟨_,_,rfl,⟨_,hp _ af⟩,e',r⟩
 |oT kb e' r=>cases e
 |oN e' r=>cases n
 |oX kb' e' r=>cases n
 |oD r=>cases n
 |oM kb' e' r=>cases n
 |oL _ r=>cases n
 |oQ e' r=>cases e;exact⟨_,_,rfl,⟨_,hp _ af⟩,e',r⟩
theorem Yi.dT(le:Zi F H)(h:Yi K F H (.dT ks ds) v):∃a kvs,v= .ref a/\HTt H a kvs/\kvs.map (·.1)=ks/\Reps K F ds (kvs.map (·.2)):=by
 obtain⟨sv,ns,e,n,sh,hp⟩:=h;cases sh with
 |fz r=>cases e;cases r with|dT h kb e r=>exact⟨_,_,rfl,⟨_,_,le _ _ h⟩,e,r⟩
 |ol r=>cases e
 |oK e' r=>cases e
 |oT kb e' r=>cases e;exact⟨_,_,rfl,⟨_,_,hp _ af⟩,e',r⟩
 |oN e' r=>cases n
 |oX kb' e' r=>cases n
 |oD r=>cases n
 |oM kb' e' r=>cases n
 |oL _ r=>cases n
 |oQ e' r=>cases e
end
theorem Ix:([a]:List aj).Nodup:=dm.mpr ⟨λh=>(nomatch h),df⟩
def Fin(Z:Ent K)(F H:Hp)(σ:St)(δ:Yk)(own:Nat->Zo)(sv:SV)(Q:VK):Prop:=
 ∀v H' F' ns,Zi H H'->Zi F F'->SR Z F' H' σ δ own->TmpOk Z F' H' own sv v ns->Q v H'
section
variable{Z:Ent K}{F H:Hp}{σ:St}{δ:Yk}{own:Nat->Zo}{Q:VK}
theorem Fin.fz(f:Fin Z F H σ δ own (.fz d) Q)(s:SR Z F H σ δ own)(h:Rep K F d v):Q v H:=f v H F [] (Zi.refl H) (Zi.refl F) s (.fz h)
theorem Fin.one(f:Fin Z F H σ δ own sv Q)(s:SR Z F H σ δ own)(sh:Shape K F sv (.ref p) [(p,o)])(hp:H p=aB):Q (.ref p) (Z9 H p o):=by
 have sm:=Ws (o:=o) hp;refine f (.ref p) (Z9 H p o) F [(p,o)] sm (Zi.refl F) (s.grow sm) ⟨sh,Ix,λq hq=>?_,λi q r hq hr=>?_⟩
 .obtain rfl:=ar.mp hq;exact⟨s.le.free hp,s.old.free hp,Z3⟩
 .obtain rfl:=ar.mp hq;intro e;have e':p=r.1:=e;have z:=(s.ok i r hr).2.2;rw[<-e',hp]at z;cases z
theorem Fin.lst(f:Fin Z F H σ δ own (.ol xs) Q)(s:SR Z F H σ δ own)(r:Reps K F xs vs)(hp:H p=aB):Q (.ref p) (Z9 H p (.lst vs)):=f.one s (.ol r) hp
theorem Fin.tup(f:Fin Z F H σ δ own (.fz (.tup xs)) Q)(s:SR Z F H σ δ own)(r:Reps K F xs vs)(hp:H p=aB):Q (.ref p) (Z9 H p (.tup vs)):=by
 have sm:=Ws (o:=.tup vs) hp;have sF:Zi F (Ue F [(p,.tup vs)]):=Ql λq hq=>by obtain rfl:=ar.mp hq;exact s.le.free hp
 refine f (.ref p) (Z9 H p (.tup vs)) (Ue F [(p,.tup vs)]) [] sm sF ?_ (.fz (.tup Z3 (r.mono sF)));refine(s.grow sm).addF (Ix) (λq hq=>?_) (λq hq=>?_) (λq hq=>?_) λi q u hq hu=>?_
 .obtain rfl:=ar.mp hq;exact s.le.free hp
 .obtain rfl:=ar.mp hq;exact Z3
 .obtain rfl:=ar.mp hq;exact s.old.free hp
 .obtain rfl:=ar.mp hq;intro e;have e':p=u.1:=e;have z:=(s.ok i u hu).2.2;rw[<-e',hp]at z;cases z
end
theorem Jp(h:Shape K F (.fz d) v ns):Rep K F d v:=by
 cases h with
 |fz r=>exact r
section
variable{Z:Ent K}{H:Hp}{σ:St}
@[simp]def Za(i:Nat):FE:=λδ=>match δ[i]? with
 |some (aA (.fz d))=>aA (.tmp (.fz d),δ)
 |some (aA _)=>aA (.bw i,δ)
 |_=>aB
theorem Zp0(h:Ze Z (Za i) σ H Q):Bg i σ H Q:=by
 obtain⟨F,δ,own,rv,δ',s,e,k⟩:=h;unfold Za at e;split at e
 .rename_i d hd;cases e;obtain⟨v,h1,h2⟩:=s.at' i _ hd;exact⟨v,h1,k v H F own (Zi.refl H) (Zi.refl F) s ⟨[],.fz (Jp h2)⟩⟩
 .rename_i sv hsv hd;cases e;obtain⟨v,h1,h2⟩:=s.at' i _ hd;exact⟨v,h1,k v H F own (Zi.refl H) (Zi.refl F) s h1⟩
 .cases e
@[simp]def Zf(d:D):FE:=λδ=>some (.tmp (.fz d),δ)
theorem L0(hr:∀F,Rep K F d v)(h:Ze Z (Zf d) σ H Q):tC v σ H Q:=by obtain⟨F,δ,own,rv,δ',s,e,k⟩:=h;cases e;exact k v H F own (Zi.refl H) (Zi.refl F) s ⟨[],.fz (hr F)⟩
@[simp]def Zj:FA:=λδ=>some ([],δ)
@[simp]def Zc(fe:FE)(fa:FA):FA:=λδ=>(fe δ).bind λp=>(fa p.2).bind λq=>some (p.1::q.1,q.2)
theorem Zdy(h:Cb Z Zj σ H R):Pq σ H R:=by obtain⟨F,δ,own,rvs,δ',s,e,k⟩:=h;cases e;exact k [] H F own (Zi.refl H) (Zi.refl F) s .nil
theorem Zbp(h:Cb Z (Zc fe fa) σ H R):Rm (Ze Z fe) (Cb Z fa) σ H R:=by obtain⟨F,δ,own,rvs,δ',s,e,k⟩:=h;obtain⟨⟨rv,δ1⟩,e1,e2⟩:=aa.mp e;obtain⟨⟨rr,δ2⟩,e3,e4⟩:=aa.mp e2;cases e4;refine⟨F,δ,own,rv,δ1,s,e1,λv H1 F1 own1 sH sF s1 r1=>?_⟩;obtain⟨F2,sF2,s2,r2⟩:=s1.settleR r1;exact⟨F2,δ1,own1,rr,δ2,s2,e3,λvs H3 F3 own3 sH3 sF3 s3 r3=>k _ H3 F3 own3 (sH.trans sH3) (sF.trans (sF2.trans sF3)) s3 (.cons (r2.mono sF3) r3)⟩
@[simp]def Oe:List RV->Yk->Option (List D)
 | [],_=>aA []
 |rv::r,δ=>(Iw rv δ).bind λd=>(Oe r δ).bind λds=>aA (d::ds)
theorem SR.rdAll(s:SR Z F H σ δ own):∀{rvs:List RV} {vs:List V} {ds:List D},RVSs K F σ rvs vs->Oe rvs δ=aA ds->RepNs K F H ds vs
 |_,_,_,.nil,e=>by cases e;exact .nil
 |_,_,_,.cons h t,e=>by obtain⟨d,e1,e2⟩:=aa.mp e;obtain⟨ds,e3,e4⟩:=aa.mp e2;cases e4;exact .cons (s.rd h e1) (s.rdAll t e3)
@[simp]def Yq(g:List D->Option SV)(fa:FA):FE:=λδ=>(fa δ).bind λp=>(Oe p.1 p.2).bind λds=>(g ds).bind λsv=>some (.tmp sv,p.2)
def Us(Z:Ent K)(r:List V->Hp->VK->Prop)(g:List D->Option SV):Prop:=
 ∀(F H:Hp) (σ:St) (δ:Yk) (own:Nat->Zo) (vs:List V) (ds:List D) (sv:SV) (Q:VK),SR Z F H σ δ own->RepNs K F H ds vs->g ds=aA sv->Fin Z F H σ δ own sv Q->r vs H Q
theorem Am(hg:Us Z r g)(h:Ze Z (Yq g fa) σ H Q):tCB r (Cb Z fa) σ H Q:=by obtain⟨F,δ,own,rv,δ',s,e,k⟩:=h;obtain⟨⟨rvs,δ1⟩,e1,e2⟩:=aa.mp e;obtain⟨ds,e3,e4⟩:=aa.mp e2;obtain⟨sv,e5,e6⟩:=aa.mp e4;cases e6;refine⟨F,δ,own,rvs,δ1,s,e1,λvs H1 F1 own1 sH sF s1 r1=>?_⟩;exact hg F1 H1 σ δ1 own1 vs ds sv Q s1 (s1.rdAll r1 e3) e5 λv H2 F2 ns sH2 sF2 s2 t=>k v H2 F2 own1 (sH.trans sH2) (sF.trans sF2) s2 ⟨ns,t⟩
@[simp]noncomputable def g2(g:D->D->Option SV):List D->Option SV
 | [x,y]=>g x y
 |_=>aB
@[simp]def Zm(g:D->D->Option SV)(fa fb:FE):FE:=Yq (g2 g) (Zc fa (Zc fb Zj))
def Y7(Z:Ent K)(r:R2)(g:D->D->Option SV):Prop:=
 ∀(F H:Hp) (σ:St) (δ:Yk) (own:Nat->Zo) (x y:V) (d1 d2:D) (sv:SV) (Q:VK),SR Z F H σ δ own->Yi K F H d1 x->Yi K F H d2 y->g d1 d2=aA sv->Fin Z F H σ δ own sv Q->r x y H Q
theorem Fv(hg:Y7 Z r g)(h:Ze Z (Zm g fa fb) σ H Q):tOp r (Ze Z fa) (Ze Z fb) σ H Q:=by
 have hN:Us Z (λvs H Q=>∃x y,vs=[x,y]/\r x y H Q) (g2 g):=by
  intro F H σ δ own vs ds sv Q s rs e f;cases rs with
  |nil=>cases e
  |cons h1 t1=>
   cases t1 with
   |nil=>cases e
   |cons h2 t2=>
    cases t2 with
    |nil=>exact⟨_,_,rfl,hg F H σ δ own _ _ _ _ sv Q s h1 h2 e f⟩
    |cons h3 t3=>cases e
 obtain⟨F,δ,own,rv,δ',s,e,k⟩:=Am hN h;obtain⟨⟨rv1,δ1⟩,e1,e2⟩:=aa.mp e;obtain⟨⟨rr,δ2⟩,e3,e4⟩:=aa.mp e2;cases e4;obtain⟨⟨rv2,δ3⟩,e5,e6⟩:=aa.mp e3;obtain⟨⟨rr',δ4⟩,e7,e8⟩:=aa.mp e6;cases e8;cases e7;refine⟨F,δ,own,rv1,δ1,s,e1,λv H1 F1 own1 sH sF s1 r1=>?_⟩;obtain⟨F2,sF2,s2,r2⟩:=s1.settleR r1;refine⟨F2,δ1,own1,rv2,δ3,s2,e5,λu H3 F3 own3 sH3 sF3 s3 r3=>?_⟩;obtain⟨F4,sF4,s4,r4⟩:=s3.settleR r3;obtain⟨x,y,exy,q⟩:=k [v,u] H3 F4 own3 (sH.trans sH3) (sF.trans (sF2.trans (sF3.trans sF4))) s4 (.cons (r2.mono (sF3.trans sF4)) (.cons r4 .nil));injection exy with ex ey
 injection ey with ey _;subst ex ey;exact q
@[simp]def unF(g:D->Option SV)(fa:FE):FE:=Yq (λ| [x]=>g x|_=>none) (Zc fa Zj)
def Zxq(Z:Ent K)(r:V->Hp->VK->Prop)(g:D->Option SV):Prop:=
 ∀(F H:Hp) (σ:St) (δ:Yk) (own:Nat->Zo) (x:V) (d:D) (sv:SV) (Q:VK),SR Z F H σ δ own->Yi K F H d x->g d=aA sv->Fin Z F H σ δ own sv Q->r x H Q
@[simp]def Zs:FD:=λδ=>some ([],δ)
@[simp]def Zh(fe:FE)(fd:FD):FD:=λδ=>(fe δ).bind λp=>(frz p.1 p.2).bind λq=>(fd q.2).bind λr=>some (q.1::r.1,r.2)
theorem Fw(h:Qu Z Zs σ H R):Pq σ H R:=by obtain⟨F,δ,own,rvs,δ',s,e,k⟩:=h;cases e;exact k [] H F own (Zi.refl H) (Zi.refl F) s .nil
theorem An(h:Qu Z (Zh fe fd) σ H R):Rm (Ze Z fe) (Qu Z fd) σ H R:=by obtain⟨F,δ,own,rvs,δ',s,e,k⟩:=h;obtain⟨⟨rv,δ1⟩,e1,e2⟩:=aa.mp e;obtain⟨⟨d,δ2⟩,e3,e4⟩:=aa.mp e2;obtain⟨⟨ds,δ3⟩,e5,e6⟩:=aa.mp e4;cases e6;refine⟨F,δ,own,rv,δ1,s,e1,λv H1 F1 own1 sH sF s1 r1=>?_⟩;obtain⟨F2,sF2,s2,r2⟩:=s1.settleR r1;obtain⟨F3,own3,sF3,s3,r3⟩:=s2.frzR r2 e3;exact⟨F3,δ2,own3,ds,δ3,s3,e5,λvs H4 F4 own4 sH4 sF4 s4 r4=>k _ H4 F4 own4 (sH.trans sH4) (sF.trans (sF2.trans (sF3.trans sF4))) s4 (.cons (r3.mono sF4) r4)⟩
@[simp]def tupF(fd:FD):FE:=λδ=>(fd δ).bind λp=>if p.1.length<=bd then some (.tmp (.fz (.tup p.1)),p.2)else none
@[simp]def U9(fd:FD):FE:=λδ=>(fd δ).bind λp=>if p.1.length<=bd then some (.tmp (.ol p.1),p.2)else none
theorem Zp1(h:Ze Z (tupF fd) σ H Q):Zpk (Qu Z fd) σ H Q:=by
 obtain⟨F,δ,own,rv,δ',s,e,k⟩:=h;obtain⟨⟨ds,δ1⟩,e1,e2⟩:=aa.mp e;by_cases hz:ds.length<=bd
 .rw[if_pos hz]at e2;cases e2;refine⟨F,δ,own,ds,δ1,s,e1,λvs H1 F1 own1 sH sF s1 r1=>⟨by rw[<-r1.length];exact hz,λp hp=>?_⟩⟩;exact Fin.tup (λv H2 F2 ns a b c t=>k v H2 F2 own1 (sH.trans a) (sF.trans b) c ⟨ns,t⟩) s1 r1 hp
 .rw[if_neg hz]at e2;cases e2
theorem Zp2(h:Ze Z (U9 fd) σ H Q):Zhn (Qu Z fd) σ H Q:=by
 obtain⟨F,δ,own,rv,δ',s,e,k⟩:=h;obtain⟨⟨ds,δ1⟩,e1,e2⟩:=aa.mp e;by_cases hz:ds.length<=bd
 .rw[if_pos hz]at e2;cases e2;refine⟨F,δ,own,ds,δ1,s,e1,λvs H1 F1 own1 sH sF s1 r1=>⟨by rw[<-r1.length];exact hz,λp hp=>?_⟩⟩;exact Fin.lst (λv H2 F2 ns a b c t=>k v H2 F2 own1 (sH.trans a) (sF.trans b) c ⟨ns,t⟩) s1 r1 hp
 .rw[if_neg hz]at e2;cases e2
end
@[simp]noncomputable def SV.scal:SV->Bool
 | .fz .non=>aC
 | .fz (.bl _)=>aC
 | .fz (.int _)=>aC
 | .fz (.str _)=>aC
 |_=>aD
def Y1(K:ad)(n:Nat)(g:List D->Option SV):Sp:=λvs H Q _=>∃F ds sv,Zi F H/\Reps K F ds vs/\ds.length=n/\g ds=aA sv/\
 ∀v H' F' ns,Zi H H'->Zi F F'->Zi F' H'->(∀(b:aj) (o:HO),F' b=aA o->F b=aA o\/H b=aB)->Shape K F' sv v ns->(Bf ns).Nodup->(∀p∈ns,F' p.1=aB/\H p.1=aB/\H' p.1=aA p.2)->Q v H'
@[simp]def frzAll:List RV->Yk->Option (List D×Yk)
 | [],δ=>aA ([],δ)
 |rv::r,δ=>(frz rv δ).bind λp=>(frzAll r p.2).bind λq=>aA (p.1::q.1,q.2)
theorem RVSs.mono(s:Zi F F')(h:RVSs K F σ rvs vs):RVSs K F' σ rvs vs:=by
 induction h with
 |nil=>exact .nil
 |cons h _ ih=>exact .cons (h.mono s) ih
section
variable{Z:Ent K}{H:Hp}{σ:St}
theorem SR.frzAll{F:Hp}{δ:Yk}{own:Nat->Zo}:∀{rvs:List RV} {vs:List V} {ds:List D} {δ':Yk} {F:Hp} {δ:Yk} {own:Nat->Zo},SR Z F H σ δ own->RVSs K F σ rvs vs->DL.frzAll rvs δ=aA (ds,δ')->
  ∃F1 own1,Zi F F1/\SR Z F1 H σ δ' own1/\Reps K F1 ds vs
 |_,_,_,_,F,_,own,s,.nil,e=>by cases e;exact⟨F,own,Zi.refl F,s,.nil⟩
 |_,_,_,_,F,_,own,s,.cons h t,e=>by obtain⟨⟨d,δ1⟩,e1,e2⟩:=aa.mp e;obtain⟨⟨ds,δ2⟩,e3,e4⟩:=aa.mp e2;cases e4;obtain⟨F1,own1,sF1,s1,r1⟩:=s.frzR h e1;obtain⟨F2,own2,sF2,s2,r2⟩:=SR.frzAll (own:=own) (F:=F) (δ:=δ1) s1 (t.mono sF1) e3;exact⟨F2,own2,sF1.trans sF2,s2,.cons (r1.mono sF2) r2⟩
@[simp]def Yc(n:Nat)(g:List D->Option SV)(fa:FA):FE:=λδ=>(fa δ).bind λp=>(DL.frzAll p.1 p.2).bind λq=>if q.1.length=n then(g q.1).bind λsv=>some (.tmp sv,if sv.scal then p.2 else q.2)else none
theorem Zdz(h:sv.scal=aC)(sh:Shape K F sv v ns):ns=[]/\Shape K F' sv v []:=by
 cases sh with
 |fz r=>
  refine⟨rfl,.fz ?_⟩;cases r with
  |non=>exact .non
  |bl b=>exact .bl b
  |int i=>exact .int i
  |str x=>exact .str x
  |tup _ _=>cases h
  |lst _ _ _=>cases h
  |dK _ _ _=>cases h
  |dT _ _ _ _=>cases h
  |exc _ _=>cases h
  |dX _ _ _ _=>cases h
  |exd _ _ _ _ _=>cases h
 |ol _=>cases h
 |oK _ _=>cases h
 |oT _ _ _=>cases h
 |oN _ _=>cases h
 |oX _ _ _=>cases h
 |oD _=>cases h
 |oM _ _ _=>cases h
 |oL _ _=>cases h
 |oQ _ _=>cases h
theorem Zmi(h:Ze Z (Yc n g fa) σ H Q):Zj9 (Y1 K n g) [] E (Cb Z fa) σ H Q:=by
 obtain⟨F,δ,own,rv,δ',s,e,k⟩:=h;obtain⟨⟨rvs,δ1⟩,e1,e2⟩:=aa.mp e;obtain⟨⟨ds,δ2⟩,e3,e4⟩:=aa.mp e2;by_cases hn:ds.length=n
 .rw[if_pos hn]at e4;obtain⟨sv,e5,e6⟩:=aa.mp e4;refine⟨F,δ,own,rvs,δ1,s,e1,λvs H1 F1 own1 sH sF s1 r1=>?_⟩;obtain⟨F2,own2,sF2,s2,r2⟩:=s1.frzAll (own:=own) (F:=F) (δ:=δ) r1 e3;rw[List.append_nil];refine⟨F2,ds,sv,s2.le,r2,hn,e5,λv H3 F3 ns sH3 sF3 le3 fro3 sh nd ok=>?_⟩;by_cases hs:sv.scal=aC
  .rw[if_pos hs]at e6;cases e6;obtain⟨_,sh'⟩:=Zdz (F':=F1) hs sh;exact k v H3 F1 own1 (sH.trans sH3) sF (s1.grow sH3) ⟨[],sh',df,λ_ h=>(nomatch h),λ_ _ _ h=>(nomatch h)⟩
  .rw[if_neg hs]at e6;cases e6;have s3:SR Z F3 H3 σ δ2 own2:=by
    refine⟨le3,λb o e=>?_,s2.old.trans sH3,s2.len,λi sw ei=>?_,s2.nod,λi p hp=>?_,s2.sep⟩
    .rcases fro3 b o e with z|z
     .exact s2.fro b o z
     .exact .inr (s2.old.free z)
    .obtain⟨w,h1,h2⟩:=s2.at' i sw ei;exact⟨w,h1,h2.mono sF3⟩
    .obtain⟨a,b,c⟩:=s2.ok i p hp;refine⟨?_,b,sH3 _ _ c⟩;cases z:F3 p.1 with
     |none=>rfl
     |some u=>
      rcases fro3 _ u z with y|y
      .rw[a]at y;cases y
      .rw[c]at y;cases y
   exact k v H3 F3 own2 (sH.trans sH3) (sF.trans (sF2.trans sF3)) s3 ⟨ns,sh,nd,λp hp=>⟨(ok p hp).1,(s2.old).free (ok p hp).2.1,(ok p hp).2.2⟩,λi p q hp hq e=>by
    have z:=(s2.ok i q hq).2.2;rw[<-e,(ok p hp).2.1]at z;cases z⟩
 .rw[if_neg hn]at e4;cases e4
end
end DL
namespace DL
open PySem L2
variable{K:ad}
section
variable{Z:Ent K}{H:Hp}{σ:St}{R:Bool->Hp->Prop}{Q:VK}
@[simp]def Ys(fe:FE):FT:=λδ=>(fe δ).bind λp=>match p.1 with
 | .tmp (.fz (.bl b))=>aA (b,p.2)
 |_=>aB
theorem Xb(h:Yl Z (Ys fe) σ H R):Zj8 (Ze Z fe) σ H R:=by
 obtain⟨F,δ,own,b,δ',s,e,k⟩:=h;obtain⟨⟨rv,δ1⟩,e1,e2⟩:=aa.mp e;refine⟨F,δ,own,rv,δ1,s,e1,λv H1 F1 own1 sH sF s1 r1=>?_⟩;dsimp only at e2;split at e2
 .cases e2;obtain⟨ns,t⟩:=r1;cases Jp t.sh;exact⟨_,rfl,k H1 F1 own1 sH sF s1⟩
 .cases e2
theorem Zh2(h:Yl Z (Ys fe) σ H R):tB (Ze Z fe) σ H R:=Xb h
@[simp]def Zmj(f g:FT):FT:=λδ=>(f δ).bind λp=>if p.1=true then g p.2 else some (false,p.2)
@[simp]def orF(f g:FT):FT:=λδ=>(f δ).bind λp=>if p.1=true then some (true,p.2)else g p.2
@[simp]def Zh3(f:FT):FT:=λδ=>(f δ).bind λp=>some (!p.1,p.2)
theorem Zp3(h:Yl Z (Zmj f g) σ H R):Zo0 (Yl Z f) (Yl Z g) σ H R:=by
 obtain⟨F,δ,own,b,δ',s,e,k⟩:=h;obtain⟨⟨c,δ1⟩,e1,e2⟩:=aa.mp e;refine⟨F,δ,own,c,δ1,s,e1,λH1 F1 own1 sH sF s1=>?_⟩;cases c with
 |true=>rw[if_pos rfl]at e2⊢;exact⟨F1,δ1,own1,b,δ',s1,e2,λH2 F2 own2 a c d=>k H2 F2 own2 (sH.trans a) (sF.trans c) d⟩
 |false=>rw[if_neg bv]at e2⊢;cases e2;exact k H1 F1 own1 sH sF s1
theorem Zu4(h:Yl Z (orF f g) σ H R):tOr (Yl Z f) (Yl Z g) σ H R:=by
 obtain⟨F,δ,own,b,δ',s,e,k⟩:=h;obtain⟨⟨c,δ1⟩,e1,e2⟩:=aa.mp e;refine⟨F,δ,own,c,δ1,s,e1,λH1 F1 own1 sH sF s1=>?_⟩;cases c with
 |true=>rw[if_pos rfl]at e2⊢;cases e2;exact k H1 F1 own1 sH sF s1
 |false=>rw[if_neg bv]at e2⊢;exact⟨F1,δ1,own1,b,δ',s1,e2,λH2 F2 own2 a c d=>k H2 F2 own2 (sH.trans a) (sF.trans c) d⟩
theorem Zp4(h:Yl Z (Zh3 f) σ H R):Zo1 (Yl Z f) σ H R:=by obtain⟨F,δ,own,b,δ',s,e,k⟩:=h;obtain⟨⟨c,δ1⟩,e1,e2⟩:=aa.mp e;cases e2;exact⟨F,δ,own,c,δ1,s,e1,k⟩
@[simp]def Zmk(f g:FE):FE:=λδ=>(Ys f δ).bind λp=>if p.1=true then g p.2 else some (.tmp (.fz (.bl false)),p.2)
@[simp]def orV(f g:FE):FE:=λδ=>(Ys f δ).bind λp=>if p.1=true then some (.tmp (.fz (.bl true)),p.2)else g p.2
@[simp]def Zz1(f:FE):FE:=λδ=>(Ys f δ).bind λp=>some (.tmp (.fz (.bl (!p.1))),p.2)
theorem Zp5:P3 Z F H σ own (.tmp (.fz (.bl b))) (.bl b):=⟨[],.fz (.bl b)⟩
theorem Zml(h:Ze Z (Zmk f g) σ H Q):Zj3 (Ze Z f) (Ze Z g) σ H Q:=by
 obtain⟨F,δ,own,rv,δ',s,e,k⟩:=h;obtain⟨⟨c,δ1⟩,e1,e2⟩:=aa.mp e;refine Xb ⟨F,δ,own,c,δ1,s,e1,λH1 F1 own1 sH sF s1=>?_⟩;cases c with
 |true=>rw[if_pos rfl]at e2⊢;exact⟨F1,δ1,own1,rv,δ',s1,e2,λv H2 F2 own2 a c d=>k v H2 F2 own2 (sH.trans a) (sF.trans c) d⟩
 |false=>rw[if_neg bv]at e2⊢;cases e2;exact k _ H1 F1 own1 sH sF s1 Zp5
@[simp]def ifF(t:FT)(f g:FE):FE:=λδ=>(t δ).bind λp=>if p.1=true then f p.2 else g p.2
@[simp]def Zu5(g g':D->D->Option SV)(fa fb fc:FE):FE:=λδ=>(fa δ).bind λp=>(fb p.2).bind λq=>(Iw p.1 q.2).bind λx=>(Iw q.1 q.2).bind λy=>(g x y).bind fun
 | .fz (.bl aC)=>(fc q.2).bind λr=>(Iw q.1 r.2).bind λy'=>(Iw r.1 r.2).bind λz=>(g' y' z).bind λsv=>aA (.tmp sv,r.2)
 | .fz (.bl aD)=>aA (.tmp (.fz (.bl aD)),q.2)
 |_=>aB
end
inductive Fl where
 |nx (δ:Yk)|bk (δ:Yk)|ct (δ:Yk)|rt (sv:SV)|ex (e:Exn) (δ:Yk)
abbrev FS:=Yk->Option Fl
def L1(Z:Ent K)(F:Hp)(D:Ends):Fl->Prop
 | .nx δ=>∀σ' H' F' own',Zi F F'->SR Z F' H' σ' δ own'->D.nx σ' H'
 | .bk δ=>∀σ' H' F' own',Zi F F'->SR Z F' H' σ' δ own'->D.bk σ' H'
 | .ct δ=>∀σ' H' F' own',Zi F F'->SR Z F' H' σ' δ own'->D.ct σ' H'
 | .rt sv=>∀v H' F' ns,Zi F F'->Zi F' H'->(∀(b:aj) (o:HO),F' b=aA o->Z.f b=aA o\/Z.h b=aB)->Zi Z.h H'->Shape K F' sv v ns->(Bf ns).Nodup->
   (∀p∈ns,F' p.1=aB/\Z.h p.1=aB/\H' p.1=aA p.2)->D.rt v H'
 | .ex x δ=>∀σ' H' F' own' cls od,Zi F F'->SR Z F' H' σ' δ own'->Lz K F' x cls od->Z.x cls od σ' H'
theorem L1.mono{Z:Ent K}{D}(s:Zi F F'):∀{fl:Fl},L1 Z F D fl->L1 Z F' D fl
 | .nx _,h=>λσ' H' F2 own' a b=>h σ' H' F2 own' (s.trans a) b
 | .bk _,h=>λσ' H' F2 own' a b=>h σ' H' F2 own' (s.trans a) b
 | .ct _,h=>λσ' H' F2 own' a b=>h σ' H' F2 own' (s.trans a) b
 | .rt _,h=>λv H' F2 ns a=>h v H' F2 ns (s.trans a)
 | .ex _ _,h=>λσ' H' F2 own' cls od a=>h σ' H' F2 own' cls od (s.trans a)
def Z5(Z:Ent K)(f:FS):TS:=λD σ H=>∃F δ own fl,SR Z F H σ δ own/\f δ=aA fl/\L1 Z F D fl
section
variable{Z:Ent K}{H:Hp}{σ:St}
@[simp]def Ut:FS:=λδ=>some (.nx δ)
@[simp]def Zu6:FS:=λδ=>some (.bk δ)
@[simp]def Zxr:FS:=λδ=>some (.ct δ)
theorem Zmm(h:Z5 Z Ut E σ H):Zj4 E σ H:=by obtain⟨F,δ,own,fl,s,e,k⟩:=h;cases e;exact k σ H F own (Zi.refl F) s
@[simp]def Z4(f g:FS):FS:=λδ=>(f δ).bind fun
 | .nx δ'=>g δ'
 |fl=>aA fl
theorem Zp6(h:Z5 Z (Z4 f g) E σ H):Zl0 (Z5 Z f) (Z5 Z g) E σ H:=by
 obtain⟨F,δ,own,fl,s,e,k⟩:=h;obtain⟨f1,e1,e2⟩:=aa.mp e;refine⟨F,δ,own,f1,s,e1,?_⟩;cases f1 with
 |nx δ1=>exact λσ' H' F' own' sF s'=>⟨F',δ1,own',fl,s',e2,k.mono sF⟩
 |bk δ1=>cases e2;exact k
 |ct δ1=>cases e2;exact k
 |rt sv=>cases e2;exact k
 |ex x δ1=>cases e2;exact k
@[simp]def Xc(t:FT)(f g:FS):FS:=λδ=>(t δ).bind λp=>if p.1=true then f p.2 else g p.2
theorem Zp7(h:Z5 Z (Xc t f g) E σ H):Zo3 (Yl Z t) (Z5 Z f) (Z5 Z g) E σ H:=by
 obtain⟨F,δ,own,fl,s,e,k⟩:=h;obtain⟨⟨c,δ1⟩,e1,e2⟩:=aa.mp e;refine⟨F,δ,own,c,δ1,s,e1,λH1 F1 own1 sH sF s1=>?_⟩;cases c with
 |true=>rw[if_pos rfl]at e2⊢;exact⟨F1,δ1,own1,fl,s1,e2,k.mono sF⟩
 |false=>rw[if_neg bv]at e2⊢;exact⟨F1,δ1,own1,fl,s1,e2,k.mono sF⟩
@[simp]def Zxs(fe:FE):FS:=λδ=>(fe δ).bind λp=>some (.nx p.2)
@[simp]def Zp8:RV->Yk->Option SV
 | .tmp sv,_=>aA sv
 | .bw i,δ=>δ[i]?.join
@[simp]def Jq(fe:FE):FS:=λδ=>(fe δ).bind λp=>(Zp8 p.1 p.2).bind λsv=>some (.rt sv)
theorem Zp9(h:Z5 Z (Jq fe) E σ H):Zl1 (Ze Z fe) E σ H:=by
 obtain⟨F,δ,own,fl,s,e,k⟩:=h;obtain⟨⟨rv,δ1⟩,e1,e2⟩:=aa.mp e;obtain⟨sv,e3,e4⟩:=aa.mp e2;cases e4;refine⟨F,δ,own,rv,δ1,s,e1,λv H1 F1 own1 sH sF s1 r1=>?_⟩;cases rv with
 |tmp sw=>cases e3;obtain⟨ns,t⟩:=r1;exact k v H1 F1 ns sF s1.le s1.fro s1.old t.sh t.nd t.ok
 |bw i=>obtain⟨w,h1,h2⟩:=s1.at' i sv (O8 e3);have r1':σ[i]? =aA (aA v):=r1;rw[r1']at h1;cases h1;exact k v H1 F1 (own1 i) sF s1.le s1.fro s1.old h2 (s1.nod i) (s1.ok i)
@[simp]def Zz2:FS:=λδ=>some (.rt (.fz .non))
@[simp]def stow(i:Nat):RV->Yk->Option Yk
 | .tmp sv,δ=>if i<δ.length then aA (δ.set i (aA sv))else aB
 | .bw j,δ=>(frz (.bw j) δ).bind λp=>if i<p.2.length then aA (p.2.set i (aA (.fz p.1)))else aB
theorem SR.stow(s:SR Z F H σ δ own)(r:P3 Z F H σ own rv v)(e:DL.stow i rv δ=aA δ'):∃F' own',Zi F F'/\SR Z F' H (σ.set i (aA v)) δ' own':=by
 cases rv with
 |tmp sv=>
  obtain⟨ns,t⟩:=r;have e:(if i<δ.length then aA (δ.set i (aA sv))else aB)=aA δ':=e;by_cases hi:i<δ.length
  .rw[if_pos hi]at e;cases e;exact⟨F,_,Zi.refl F,s.store t (by rw[s.len];exact hi)⟩
  .rw[if_neg hi]at e;cases e
 |bw j=>
  obtain⟨⟨d,δ1⟩,e1,e2⟩:=aa.mp e;obtain⟨F1,own1,sF,s1,r1⟩:=s.frzR (rv:=.bw j) (v:=v) r e1;by_cases hi:i<δ1.length
  .rw[if_pos hi]at e2;cases e2;exact⟨F1,_,sF,s1.store (.fz r1) (by rw[s1.len];exact hi)⟩
  .rw[if_neg hi]at e2;cases e2
@[simp]def Y0(i:Nat)(fe:FE):FS:=λδ=>(fe δ).bind λp=>(stow i p.1 p.2).bind λδ'=>some (.nx δ')
theorem Zki(h:Z5 Z (Y0 i fe) E σ H):Vx (Ze Z fe) (Aa i) E σ H:=by obtain⟨F,δ,own,fl,s,e,k⟩:=h;obtain⟨⟨rv,δ1⟩,e1,e2⟩:=aa.mp e;obtain⟨δ2,e3,e4⟩:=aa.mp e2;cases e4;refine⟨F,δ,own,rv,δ1,s,e1,λv H1 F1 own1 sH sF s1 r1=>?_⟩;obtain⟨F2,own2,sF2,s2⟩:=s1.stow r1 e3;exact k _ H1 F2 own2 (sF.trans sF2) s2
set_option genInjectivity false in
structure FG where
 run:D->Yk->Option Yk
 tch:List Nat
set_option genInjectivity false in
structure FGs where
 run:List D->Yk->Option Yk
 tch:List Nat
def Of(Z:Ent K)(g:FG):TG:=λv σ H Q=>∃F δ own d δ',SR Z F H σ δ own/\Rep K F d v/\g.run d δ=aA δ'/\∀σ' own',SR Z F H σ' δ' own'->(∀j:Nat,j∉g.tch->σ'[j]? =σ[j]?)->Q σ' H
def Op(Z:Ent K)(g:FGs):TGs:=λvs σ H Q=>∃F δ own ds δ',SR Z F H σ δ own/\Reps K F ds vs/\g.run ds δ=aA δ'/\∀σ' own',SR Z F H σ' δ' own'->(∀j:Nat,j∉g.tch->σ'[j]? =σ[j]?)->Q σ' H
noncomputable def Zd(i:Nat):FG:=⟨λd δ=>if i<δ.length then aA (δ.set i (aA (.fz d)))else aB,[i]⟩
theorem Zh4(h:Of Z (Zd i) v σ H Q):Aa i v σ H Q:=by
 obtain⟨F,δ,own,d,δ',s,r,e,k⟩:=h;have e:(if i<δ.length then aA (δ.set i (aA (.fz d)))else aB)=aA δ':=e;by_cases hi:i<δ.length
 .rw[if_pos hi]at e;cases e;exact k _ _ (s.store (.fz r) (by rw[s.len];exact hi)) λj hj=>fj λz=>hj (by rw[z];exact af)
 .rw[if_neg hi]at e;cases e
noncomputable def Wi:FGs:=⟨λds δ=>match ds with
 | []=>aA δ
 |_=>aB,[]⟩
noncomputable def Zt(g:FG)(r:FGs):FGs:=⟨λds δ=>match ds with
 |d::t=>(g.run d δ).bind λδ1=>r.run t δ1
 | []=>aB,g.tch++r.tch⟩
@[simp]theorem Zop(i d δ):(Zd i).run d δ=if i<δ.length then some (δ.set i (some (.fz d)))else none:=rfl
@[simp]theorem Zqa(δ):Wi.run [] δ=some δ:=rfl
@[simp]theorem Zoq(g r d t δ):(Zt g r).run (d::t) δ=(g.run d δ).bind λδ1=>r.run t δ1:=rfl
theorem Zmn(h:Op Z Wi vs σ H Q):Zo6 vs σ H Q:=by
 obtain⟨F,δ,own,ds,δ',s,r,e,k⟩:=h;cases r with
 |nil=>cases e;exact⟨rfl,k σ own s λ_ _=>rfl⟩
 |cons h t=>cases e
theorem Zh5(h:Op Z (Zt g r) vs σ H Q):Zj5 (Of Z g) (Op Z r) vs σ H Q:=by
 obtain⟨F,δ,own,ds,δ',s,rr,e,k⟩:=h;cases rr with
 |nil=>cases e
 |cons h t=>obtain⟨δ1,e1,e2⟩:=aa.mp e;exact⟨_,_,rfl,F,δ,own,_,δ1,s,h,e1,λσ1 own1 s1 t1=>⟨F,δ1,own1,_,δ',s1,t,e2,λσ2 own2 s2 t2=>k σ2 own2 s2 λj hj=>(t2 j λz=>hj (bh _ z)).trans (t1 j λz=>hj (bj _ z))⟩⟩
noncomputable def Wj(n:Nat)(g:FGs):FG:=⟨λd δ=>match d with
 | .tup xs=>if xs.length=n then g.run xs δ else aB
 |_=>aB,g.tch⟩
@[simp]theorem Zqb(n g xs δ):(Wj n g).run (.tup xs) δ=if xs.length=n then g.run xs δ else none:=rfl
theorem Zmo(h:Of Z (Wj n g) v σ H Q):Zo7 K n (Op Z g) v σ H Q:=by
 obtain⟨F,δ,own,d,δ',s,r,e,k⟩:=h;dsimp only[Wj]at e;split at e
 .rename_i xs;by_cases hn:xs.length=n
  .rw[if_pos hn]at e;cases r with
   |tup h r=>exact⟨_,_,rfl,Qf s.le (Gr h),by rw[<-r.length];exact hn,F,δ,own,_,δ',s,r,e,k⟩
  .rw[if_neg hn]at e;cases e
 .cases e
@[simp]def L3(g:FG)(fe:FE):FS:=λδ=>(fe δ).bind λp=>(frz p.1 p.2).bind λq=>(g.run q.1 q.2).bind λδ'=>some (.nx δ')
theorem Zd0(h:Z5 Z (L3 g fe) E σ H):Vx (Ze Z fe) (Of Z g) E σ H:=by obtain⟨F,δ,own,fl,s,e,k⟩:=h;obtain⟨⟨rv,δ1⟩,e1,e2⟩:=aa.mp e;obtain⟨⟨d,δ2⟩,e3,e4⟩:=aa.mp e2;obtain⟨δ3,e5,e6⟩:=aa.mp e4;cases e6;refine⟨F,δ,own,rv,δ1,s,e1,λv H1 F1 own1 sH sF s1 r1=>?_⟩;obtain⟨F2,sF2,s2,r2⟩:=s1.settleR r1;obtain⟨F3,own3,sF3,s3,r3⟩:=s2.frzR r2 e3;exact⟨F3,δ2,own3,d,δ3,s3,r3,e5,λσ' own' s' _=>k σ' H1 F3 own' (sF.trans (sF2.trans sF3)) s'⟩
@[simp]def Z7(tg:FG)(body:FS):List D->Yk->Option Fl
 | [],δ=>aA (.nx δ)
 |d::ds,δ=>(tg.run d δ).bind λδ1=>(body δ1).bind fun
  | .nx δ2=>Z7 tg body ds δ2
  | .ct δ2=>Z7 tg body ds δ2
  | .bk δ2=>aA (.nx δ2)
  | .rt sv=>aA (.rt sv)
  | .ex x δ2=>aA (.ex x δ2)
def Oq(K:ad)(J:It)(F:Hp)(ds:List D):Prop:=∀F' H,Zi F F'->Zi F' H->∀i:Nat,
 (∀d,ds[i]? =aA d->J.go i H/\∀x H',J.yld i H x H'->Zi H H'/\∃ns,(Bf ns).Nodup/\(∀p∈ns,H p.1=aB/\H' p.1=aA p.2)/\Rep K (Ue F' ns) d x)/\(ds.length<=i->J.stop i H)
def Qm(Z:Ent K)(f:FD):TI:=λσ H R=>∃F δ own ds δ',SR Z F H σ δ own/\f δ=aA (ds,δ')/\
 ∀J H' F' own',Zi H H'->Zi F F'->SR Z F' H' σ δ' own'->Oq K J F' ds->R J H'
@[simp]def J1(fi:FD)(tg:FG)(body:FS):FS:=λδ=>(fi δ).bind λp=>Z7 tg body p.1 p.2
theorem SR.fresh(s:SR Z F H σ δ own)(sm:Zi H H')(nd:(Bf ns).Nodup)(h:∀p∈ns,H p.1=aB/\H' p.1=aA p.2):Zi F (Ue F ns)/\SR Z (Ue F ns) H' σ δ own:=by refine⟨Ql λp hp=>s.le.free (h p hp).1,(s.grow sm).addF nd (λp hp=>s.le.free (h p hp).1) (λp hp=>(h p hp).2) (λp hp=>s.old.free (h p hp).1) λi p q hp hq e=>?_⟩;have z:=(s.ok i q hq).2.2;rw[<-e,(h p hp).1]at z;cases z
theorem Zqc(h:Z5 Z (J1 fi tg body) E σ H):Zpc (Qm Z fi) (Of Z tg) (Z5 Z body) E σ H:=by
 obtain⟨F,δ,own,fl,s,e,k⟩:=h;obtain⟨⟨ds,δ1⟩,e1,e2⟩:=aa.mp e;refine⟨F,δ,own,ds,δ1,s,e1,λJ H1 F1 own1 sH sF s1 yl=>?_⟩;refine⟨λi m σ H=>m=ds.length- i/\i<=ds.length/\∃F δ own,Zi F1 F/\SR Z F H σ δ own/\Z7 tg body (ds.drop i) δ=aA fl,⟨ds.length,by simp,f7 _,F1,δ1,own1,Zi.refl F1,s1,e2⟩,?_⟩;rintro i m σ' H' ⟨rfl,hi,F2,δ2,own2,sF2,s2,ef⟩;by_cases hlt:i<ds.length
 .have hd:ds[i]? =aA ds[i]:=by simp[hlt]
  obtain⟨go,yy⟩:=(yl F2 H' sF2 s2.le i).1 _ hd;rw[List.drop_eq_getElem_cons hlt]at ef;obtain⟨δ3,e3,e4⟩:=aa.mp ef;obtain⟨f1,e5,e6⟩:=aa.mp e4;refine .inr ⟨go,λσ4 H4=>∃F δ own,Zi F1 F/\SR Z F H4 σ4 δ own/\Z7 tg body (ds.drop (i+1)) δ=aA fl,λσ4 H4 ⟨F4,δ4,own4,a,b,c⟩=>⟨ds.length- (i+1),by omega,rfl,hlt,F4,δ4,own4,a,b,c⟩,λx H3 hy=>?_⟩;obtain⟨sm,ns,nd,hn,rp⟩:=yy x H3 hy;obtain⟨sFn,sn⟩:=s2.fresh sm nd hn;refine⟨Ue F2 ns,δ2,own2,_,δ3,sn,rp,e3,λσ5 own5 s5 _=>⟨Ue F2 ns,δ3,own5,f1,s5,e5,?_⟩⟩;cases f1 with
  |nx δ6=>exact λσ6 H6 F6 own6 a b=>⟨F6,δ6,own6,sF2.trans (sFn.trans a),b,e6⟩
  |ct δ6=>exact λσ6 H6 F6 own6 a b=>⟨F6,δ6,own6,sF2.trans (sFn.trans a),b,e6⟩
  |bk δ6=>cases e6;exact λσ6 H6 F6 own6 a b=>k σ6 H6 F6 own6 (sF.trans (sF2.trans (sFn.trans a))) b
  |rt sv=>cases e6;exact λv H6 F6 ns6 a=>k v H6 F6 ns6 (sF.trans (sF2.trans (sFn.trans a)))
  |ex x δ6=>cases e6;exact λσ6 H6 F6 own6 cls od a=>k σ6 H6 F6 own6 cls od (sF.trans (sF2.trans (sFn.trans a)))
 .have hz:i=ds.length:=by omega
  subst hz;rw[List.drop_length]at ef;cases ef;exact .inl ⟨(yl F2 H' sF2 s2.le _).2 (ba _),k σ' H' F2 own2 (sF.trans sF2) s2⟩
def Uu(t:FT)(body:FS):Nat->Yk->Option Fl
 |0,_=>aB
 |n+1,δ=>(t δ).bind λp=>if p.1=aC then(body p.2).bind (fun
  | .nx δ2=>Uu t body n δ2
  | .ct δ2=>Uu t body n δ2
  | .bk δ2=>aA (.nx δ2)
  | .rt sv=>aA (.rt sv)
  | .ex x δ2=>aA (.ex x δ2))else aA (.nx p.2)
theorem Zh6(h:Z5 Z (Uu t body n) E σ H):Zc6 (Yl Z t) (Z5 Z body) E σ H:=by
 obtain⟨F,δ,own,fl,s,e,k⟩:=h;refine⟨λm σ H=>∃F2 δ own,Zi F F2/\SR Z F2 H σ δ own/\Uu t body m δ=aA fl,⟨n,F,δ,own,Zi.refl F,s,e⟩,?_⟩;rintro m σ1 H1 ⟨F1,δ1,own1,sF1,s1,e1⟩;cases m with
 |zero=>cases e1
 |succ m=>
  obtain⟨⟨c,δ2⟩,e2,e3⟩:=aa.mp e1;refine⟨F1,δ1,own1,c,δ2,s1,e2,λH2 F2 own2 sH sF2 s2=>?_⟩;cases c with
  |false=>rw[if_neg bv]at e3⊢;cases e3;exact k σ1 H2 F2 own2 (sF1.trans sF2) s2
  |true=>
   rw[if_pos rfl]at e3⊢;obtain⟨f1,e4,e5⟩:=aa.mp e3;refine⟨λσ' H'=>∃F2 δ own,Zi F F2/\SR Z F2 H' σ' δ own/\Uu t body m δ=aA fl,λσ' H' w=>⟨m,Nat.lt_succ_self m,w⟩,F2,δ2,own2,f1,s2,e4,?_⟩;cases f1 with
   |nx δ6=>exact λσ6 H6 F6 own6 a b=>⟨F6,δ6,own6,sF1.trans (sF2.trans a),b,e5⟩
   |ct δ6=>exact λσ6 H6 F6 own6 a b=>⟨F6,δ6,own6,sF1.trans (sF2.trans a),b,e5⟩
   |bk δ6=>cases e5;exact λσ6 H6 F6 own6 a b=>k σ6 H6 F6 own6 (sF1.trans (sF2.trans a)) b
   |rt sv=>cases e5;exact λv H6 F6 ns6 a=>k v H6 F6 ns6 (sF1.trans (sF2.trans a))
   |ex x δ6=>cases e5;exact λσ6 H6 F6 own6 cls od a=>k σ6 H6 F6 own6 cls od (sF1.trans (sF2.trans a))
@[simp]def Zz3(fe:FE):FD:=λδ=>(fe δ).bind λp=>(frz p.1 p.2).bind λq=>match q.1 with
 | .lst xs=>aA (xs,q.2)
 | .tup xs=>aA (xs,q.2)
 |_=>aB
def Zz4(K:ad)(tl:TE):TI:=λσ H R=>tl σ H λx H1=>(∃a,x= .ref a/\(∃xs,W5 K H1 a xs)/\R (Itl K a) H1)\/(∃a,x= .ref a/\(∃xs,Ob K H1 a xs)/\R (Itt K a) H1)
theorem P4(h:W5 K F a vs)(r:Reps K F xs vs):Oq K (Itl K a) F xs:=λF' H sF sH i=>by have q:W5 K H a vs:=Wb (sF.trans sH) h;refine⟨λd hd=>?_,λhl=>⟨vs,q,by rw[<-r.length];exact hl⟩⟩;obtain⟨v,h1,h2⟩:=r.get hd;refine⟨⟨vs,v,q,h1⟩,λx H' zq9=>?_⟩;obtain⟨e1,e2⟩:=zq9;subst e1;have e3:=e2 vs q;rw[h1]at e3;cases e3;exact⟨Zi.refl _,[],df,λ_ h=>(nomatch h),h2.mono sF⟩
theorem Xd(h:Ob K F a vs)(r:Reps K F xs vs):Oq K (Itt K a) F xs:=λF' H sF sH i=>by have q:Ob K H a vs:=Qf (sF.trans sH) h;refine⟨λd hd=>?_,λhl=>⟨vs,q,by rw[<-r.length];exact hl⟩⟩;obtain⟨v,h1,h2⟩:=r.get hd;refine⟨⟨vs,v,q,h1⟩,λx H' zq9=>?_⟩;obtain⟨e1,e2⟩:=zq9;subst e1;have e3:=e2 vs q;rw[h1]at e3;cases e3;exact⟨Zi.refl _,[],df,λ_ h=>(nomatch h),h2.mono sF⟩
noncomputable def Td(lo:Int)(n:Nat):List D:=(cq n).map λi=>.int (lo+(i:Nat))
theorem L4:Oq K (Itr lo n) F (Td lo n):=λF' H sF sH i=>by
 have hl:(Td lo n).length=n:=by unfold Td;rw[aq,List.length_range]
 refine⟨λd hd=>?_,λh=>by rw[hl]at h;exact h⟩;have hi:i<n:=by have:=(a8.mp hd).1;rw[hl]at this;exact this
 refine⟨hi,λx H' zq9=>?_⟩;obtain⟨e1,e2⟩:=zq9;subst e1 e2;unfold Td at hd;rw[az,List.getElem?_range hi]at hd;cases hd;exact⟨Zi.refl _,[],df,λ_ h=>(nomatch h),.int _⟩
def Mi(j:Int):Prop:=-(2^62)<=j/\j<2^62
theorem Zh7(h0:0<=j)(h:j<=16777216):Mi j:=⟨by omega,by omega⟩
theorem Uv{n:Nat}(h:n<=16777216):Mi (n:Int):=Zh7 (by omega) (by omega)
open Classical in
@[simp]def Tk(fa:FA):FD:=λδ=>(fa δ).bind λp=>match Oe p.1 p.2 with
 |some [.int j]=>if Mi j then aA (Td 0 j.toNat,p.2)else aB
 |_=>aB
theorem Zmp(h:Qm Z (Tk fa) σ H R):Zj6 (Cb Z fa) σ H R:=by
 obtain⟨F,δ,own,ds,δ',s,e,k⟩:=h;obtain⟨⟨rvs,δ1⟩,e1,e2⟩:=aa.mp e;refine⟨F,δ,own,rvs,δ1,s,e1,λvs H1 F1 own1 sH sF s1 r1=>?_⟩;dsimp only at e2;split at e2
 .rename_i j hj;have rn:=s1.rdAll r1 hj;cases rn with
  |cons h t=>
   cases t;by_cases hb:Mi j
   .rw[if_pos hb]at e2;cases e2;exact⟨j,by rw[h.int],hb.1,hb.2,k _ H1 F1 own1 sH sF s1 L4⟩
   .rw[if_neg hb]at e2;cases e2
 .cases e2
@[simp]def Rq(i:Nat)(fe:FE):FS:=λδ=>match δ[i]? with
 |some (aA (.ol _))=>(fe δ).bind λp=>(frz p.1 p.2).bind λq=>match q.2[i]? with
  |some (aA (.ol xs))=>if xs.length<bd then aA (.nx (q.2.set i (aA (.ol (xs++[q.1])))))else aB
  |_=>aB
 |_=>aB
theorem Jr(h:Shape K F (.ol xs) v ns):∃a vs,v= .ref a/\ns=[(a,.lst vs)]/\Reps K F xs vs:=by
 cases h with
 |ol r=>exact⟨_,_,rfl,rfl,r⟩
theorem Zqd(h:Z5 Z (Rq i fe) E σ H):Hu (tBM K "list" Bk (Bg i) (Rm (Ze Z fe) Pq)) E σ H:=by
 obtain⟨F,δ,own,fl,s,e,k⟩:=h;unfold Rq at e;split at e
 .rename_i xs0 hx0;obtain⟨⟨rv,δ1⟩,e1,e2⟩:=aa.mp e;obtain⟨⟨d,δ2⟩,e3,e4⟩:=aa.mp e2;obtain⟨v,hv,sh⟩:=s.at' i _ hx0;obtain⟨a,vs0,ev,en,r0⟩:=Jr sh;refine⟨v,hv,?_,F,δ,own,rv,δ1,s,e1,λy H1 F1 own1 sH sF s1 r1=>?_⟩
  .subst ev;exact .inl ⟨rfl,vs0,.inl (.inl (s.ok i (a,.lst vs0) (by rw[en];exact af)).2.2)⟩
  obtain⟨F2,sF2,s2,r2⟩:=s1.settleR r1;obtain⟨F3,own3,sF3,s3,r3⟩:=s2.frzR r2 e3;dsimp only at e4;split at e4
  .rename_i xs hx;by_cases hz:xs.length<bd
   .rw[if_pos hz]at e4;cases e4;obtain⟨v',hv',sh'⟩:=s3.at' i _ hx;rw[hv]at hv';cases hv';obtain⟨b,vs,eb,en',r'⟩:=Jr sh';have mb:(b,HO.lst vs)∈own3 i:=by rw[en'];exact af
    subst eb;refine⟨b,vs,y,rfl,rfl,(s3.ok i _ mb).2.2,by rw[<-r'.length];exact hz,?_⟩;exact k σ _ F3 _ (sF.trans (sF2.trans sF3)) (s3.change (sv':=.ol (xs++[d])) (o':=.lst (vs++[y])) (ns':=[(b,.lst (vs++[y]))]) hx hv mb (.ol (r'.snoc r3)) (λp hp=>.inl (ar.mp hp)) Ix)
   .rw[if_neg hz]at e4;cases e4
  .cases e4
 .cases e
end
@[simp]def Ao(n:Nat)(ds:List D):Yk:=ds.map (λd=>some (.fz d))++dn (n- ds.length) none
theorem P5(le:Zi F H)(r:Reps K F ds vs):SR (ent H F:Ent K) F H (L2.Ca N vs) (Ao N.length ds) λ_=>[]:=by
 have hl:=r.length;refine⟨le,λb o e=>.inl e,Zi.refl H,?_,λi sv e=>?_,λ_=>df,λ_ _ h=>(nomatch h),λ_ _ _ _ _ h=>(nomatch h)⟩
 .unfold L2.Ca Ao;rw[aw,aw,aq,aq,List.length_replicate,List.length_replicate,hl]
 .unfold Ao at e;by_cases hi:i<ds.length
  .rw[dg (by simpa using hi),az]at e;cases hd:ds[i]? with
   |none=>rw[hd]at e;cases e
   |some d=>rw[hd]at e;cases e;obtain⟨v,h1,h2⟩:=r.get hd;refine⟨v,?_,.fz h2⟩;unfold L2.Ca;rw[dg (by rw[aq];omega),az,h1];rfl
  .rw[gh (by simpa using hi),List.getElem?_replicate]at e;split at e<;> cases e
theorem Zd1(h:Y1 K n g vs H Q E):vs.length=n:=by obtain⟨F,ds,sv,le,r,hn,e,k⟩:=h;rw[<-r.length];exact hn
end DL
namespace DL
open PySem L2
variable{K:ad}
def xG(K:ad)(g:FG):TG:=λv σ H Q=>∃Z:Ent K,Of Z g v σ H Q
def xT(K:ad)(f:FT):TT:=λσ H Q=>∃Z:Ent K,Yl Z f σ H Q
def xE(K:ad)(f:FE):TE:=λσ H Q=>∃Z:Ent K,Ze Z f σ H Q
def Q7:FT:=λδ=>aA (aC,δ)
@[simp]theorem Zqe(δ):Q7 δ=some (true,δ):=rfl
@[simp]noncomputable def caps(src:List BSrc):List RV:=src.filterMap fun
 | .cap j=>aA (.bw j)
 |_=>aB
@[simp]def Xe(δ:Yk):BSrc->Option SV
 | .own=>aB
 | .cap j=>match δ[j]?.join with
  |some (.fz d)=>aA (.fz d)
  |_=>aB
 | .acc=>aA (.ol [])
@[simp]def bD(src:List BSrc)(δ:Yk):Yk:=src.map (Xe δ)
@[simp]noncomputable def resetSlot:BSrc->Option SV->Option SV
 | .own,_=>aB
 |_,o=>o
@[simp]def O9:List BSrc->Yk->Yk
 |b::r,o::t=>resetSlot b o::O9 r t
 |_,t=>t
@[simp]def Yb(src:List BSrc)(k:Nat)(g:FG)(tt:FT)(te:FE):List D->Yk->Option Yk
 | [],δ=>aA δ
 |d::ds,δ=>(g.run d δ).bind λδ1=>(tt δ1).bind λp=>if p.1=aC then(te p.2).bind λq=>(frz q.1 q.2).bind λr=>match r.2[k]? with
   |some (aA (.ol zs))=>if zs.length<bd then Yb src k g tt te ds (O9 src (r.2.set k (aA (.ol (zs++[r.1])))))else aB
   |_=>aB
  else Yb src k g tt te ds (O9 src p.2)
@[simp]def Og(src:List BSrc)(k:Nat)(fi:FD)(g:FG)(tt:FT)(te:FE):FE:=λδ=>(fi δ).bind λp=>(frzAll (caps src) p.2).bind λc=>(Yb src k g tt te p.1 (bD src c.2)).bind λδb=>match δb[k]? with
 |some (aA (.ol ys))=>aA (.tmp (.ol ys),c.2)
 |_=>aB
theorem Mj:∀src δ,(O9 src δ).length=δ.length
 | [],t=>by unfold O9;rfl
 |_::_,[]=>by unfold O9;rfl
 |b::r,o::t=>by show(resetSlot b o::O9 r t).length=_;rw[bf,bf,Mj r t]
theorem Ml:∀{src:List BSrc} {δ:Yk} {i:Nat} {sv:SV},(O9 src δ)[i]? =aA (aA sv)->δ[i]? =aA (aA sv)
 | [],_,_,_,h=>h
 |_::_,[],_,_,h=>h
 |b::r,o::t,0,sv,h=>by
  have h:aA (resetSlot b o)=aA (aA sv):=h;cases b with
  |own=>cases h
  |cap j=>exact h
  |acc=>exact h
 |b::r,o::t,i+1,sv,h=>by have h:(O9 r t)[i]? =aA (aA sv):=h;show t[i]? =_;exact Ml h
section
variable{Z:Ent K}{F H:Hp}{σ:St}{δ δ':Yk}{own:Nat->Zo}
theorem SR.forget(s:SR Z F H σ δ own)(hl:δ'.length=δ.length)(h:∀(i:Nat) sv,δ'[i]? =aA (aA sv)->δ[i]? =aA (aA sv)):SR Z F H σ δ' own:=
 ⟨s.le,s.fro,s.old,s.len.trans hl.symm,λi sv e=>s.at' i sv (h i sv e),s.nod,s.ok,s.sep⟩
theorem SR.caps:∀{rvs:List RV} {ds:List D} {δ δ':Yk} {F:Hp} {own:Nat->Zo},(∀rv∈rvs,∃j,rv= .bw j)->SR Z F H σ δ own->DL.frzAll rvs δ=aA (ds,δ')->∃F1 own1,Zi F F1/\SR Z F1 H σ δ' own1
 | [],_,_,_,F,own,_,s,e=>by cases e;exact⟨F,own,Zi.refl F,s⟩
 |rv::r,_,_,_,F,own,hb,s,e=>by obtain⟨⟨d,δ1⟩,e1,e2⟩:=aa.mp e;obtain⟨⟨ds,δ2⟩,e3,e4⟩:=aa.mp e2;cases e4;obtain⟨j,rfl⟩:=hb rv af;obtain⟨sv,e5,e6⟩:=aa.mp e1;cases e6;obtain⟨F1,v,sF,_,_,s1⟩:=s.freeze (O8 e5);obtain⟨F2,own2,sF2,s2⟩:=SR.caps (λrv h=>hb rv (ao _ h)) s1 e3;exact⟨F2,own2,sF.trans sF2,s2⟩
theorem SR.after(s2:SR Z F H σ δ own)(sH3:Zi H H3)(sF3:Zi F F3)(le3:Zi F3 H3)(fro3:∀b o,F3 b=aA o->F b=aA o\/H b=aB):SR Z F3 H3 σ δ own:=by
 refine⟨le3,λb o e=>?_,s2.old.trans sH3,s2.len,λi sw ei=>?_,s2.nod,λi p hp=>?_,s2.sep⟩
 .rcases fro3 b o e with z|z
  .exact s2.fro b o z
  .exact .inr (s2.old.free z)
 .obtain⟨w,h1,h2⟩:=s2.at' i sw ei;exact⟨w,h1,h2.mono sF3⟩
 .obtain⟨a,b,c⟩:=s2.ok i p hp;refine⟨?_,b,sH3 _ _ c⟩;cases z:F3 p.1 with
  |none=>rfl
  |some u=>
   rcases fro3 _ u z with y|y
   .rw[a]at y;cases y
   .rw[c]at y;cases y
end
structure SrcOk(src:List BSrc)(k:Nat):Prop where
 acc:src[k]? =aA .acc
 uni:∀i:Nat,src[i]? =aA .acc->i=k
theorem Zd2{Z:Ent K}(S:SrcOk src k)(s:SR Z F H σ δ own)(ha:H acc=aB):
  SR (ent H F:Ent K) F (Z9 H acc (.lst [])) (Vt src σ acc) (bD src δ) (λi=>if i=k then[(acc,.lst [])]else[]):=by
 have mem:∀{i:Nat} {p:aj×HO},p∈(if i=k then[(acc,HO.lst [])]else[])->i=k/\p=(acc,.lst []):=fun{i p} h=>by
  by_cases hi:i=k
  .rw[if_pos hi]at h;exact⟨hi,ar.mp h⟩
  .rw[if_neg hi]at h;exact nomatch h
 refine⟨s.le.trans (Ws ha),λb o e=>.inl e,Ws ha,by unfold Vt bD;rw[aq,aq],λi sv e=>?_,λi=>?_,λi p hp=>?_,λi j p q hij hp hq=>?_⟩
 .unfold bD at e;rw[az]at e;cases hq:src[i]? with
  |none=>rw[hq]at e;cases e
  |some q=>
   rw[hq]at e;have e:Xe δ q=aA sv:=cz.inj e;cases q with
   |own=>cases e
   |acc=>cases e;have hi:=S.uni i hq;refine⟨.ref acc,by unfold Vt;rw[az,hq];rfl,?_⟩;show Shape K F (.ol []) (.ref acc) (if i=k then[(acc,.lst [])]else[]);rw[if_pos hi];exact .ol .nil
   |cap j=>
    have hi:i≠k:=λz=>by rw[z,S.acc]at hq;cases hq
    unfold Xe at e;dsimp only at e;split at e
    .rename_i d hd;cases e;obtain⟨v,h1,h2⟩:=s.at' j _ (O8 hd);refine⟨v,by unfold Vt;rw[az,hq];show aA (σ[j]?).join=_;rw[h1];rfl,?_⟩;show Shape K F (.fz d) v (if i=k then[(acc,.lst [])]else[]);rw[if_neg hi];exact .fz (Jp h2)
    .cases e
 .show(Bf (if i=k then[(acc,HO.lst [])]else[])).Nodup;by_cases hi:i=k
  .rw[if_pos hi];exact Ix
  .rw[if_neg hi];exact df
 .obtain⟨_,rfl⟩:=mem hp;exact⟨s.le.free ha,ha,Z3⟩
 .obtain⟨z,_⟩:=mem hp;obtain⟨y,_⟩:=mem hq;exact absurd (z.trans y.symm) hij
theorem Zd3{Z:Ent K}(S:SrcOk src k)(hk:k∉g.tch)(h:Ze Z (Og src k fi g tt te) σ H Q):
  Zdv src (Qm Z fi) (xG K g) (xT K tt) (xE K te) σ H Q:=by
 obtain⟨F,δ,own,rv,δ',s,e,k0⟩:=h;obtain⟨⟨ds,δ1⟩,e1,e2⟩:=aa.mp e;obtain⟨⟨cs,δ2⟩,e3,e4⟩:=aa.mp e2;obtain⟨δf,e5,e6⟩:=aa.mp e4;refine⟨F,δ,own,ds,δ1,s,e1,λJ H1 F1 own1 sH sF s1 yl acc ha=>?_⟩;obtain⟨F2,own2,sF2,s2⟩:=s1.caps (λrv hr=>by
  unfold DL.caps at hr;obtain⟨b,_,hb⟩:=List.mem_filterMap.mp hr;cases b with
  |own=>cases hb
  |acc=>cases hb
  |cap j=>cases hb;exact⟨j,rfl⟩) e3
 have s3:=Zd2 S s2 ha;have hacc0:(Vt src σ acc)[k]? =aA (aA (.ref acc)):=by unfold Vt;rw[az,S.acc];rfl
 refine⟨λi m σ' H=>m=ds.length- i/\i<=ds.length/\σ'[k]? =aA (aA (.ref acc))/\∃F δ own,Zi F2 F/\SR (ent H1 F2:Ent K) F H σ' δ own/\Yb src k g tt te (ds.drop i) δ=aA δf,
  ⟨ds.length,by simp,f7 _,hacc0,F2,_,_,Zi.refl F2,s3,e5⟩,?_⟩
 rintro i m σ4 H4 ⟨rfl,hi,hacc,F4,δ4,own4,sF4,s4,ef⟩;by_cases hlt:i<ds.length
 .have hd:ds[i]? =aA ds[i]:=by simp[hlt]
  obtain⟨go,yy⟩:=(yl F4 H4 (sF2.trans sF4) s4.le i).1 _ hd;rw[List.drop_eq_getElem_cons hlt]at ef;obtain⟨δ5,e7,e8⟩:=aa.mp ef;obtain⟨⟨b,δ6⟩,e9,e10⟩:=aa.mp e8;refine .inr ⟨go,λx H5 hy=>?_⟩;obtain⟨sm,ns,nd,hn,rp⟩:=yy x H5 hy;obtain⟨sFn,sn⟩:=s4.fresh sm nd hn;refine⟨(ent H1 F2:Ent K),Ue F4 ns,δ4,own4,_,δ5,sn,rp,e7,λσ6 own6 s6 t6=>⟨(ent H1 F2:Ent K),Ue F4 ns,δ5,own6,b,δ6,s6,e9,λH7 F7 own7 sH7 sF7 s7=>?_⟩⟩;have hacc6:σ6[k]? =aA (aA (.ref acc)):=(t6 k hk).trans hacc;cases b with
  |false=>dsimp only;rw[if_neg bv]at e10⊢;exact⟨ds.length- (i+1),by omega,rfl,hlt,hacc6,F7,_,own7,sF4.trans (sFn.trans sF7),s7.forget (Mj src δ6) (λj sv hj=>Ml hj),e10⟩
  |true=>
   dsimp only;rw[if_pos rfl]at e10⊢;obtain⟨⟨rv8,δ8⟩,e11,e12⟩:=aa.mp e10;obtain⟨⟨d9,δ9⟩,e13,e14⟩:=aa.mp e12;refine⟨(ent H1 F2:Ent K),F7,δ6,own7,rv8,δ8,s7,e11,λy H8 F8 own8 sH8 sF8 s8 r8=>?_⟩;obtain⟨F9,sF9,s9,r9⟩:=s8.settleR r8;obtain⟨F10,own10,sF10,s10,r10⟩:=s9.frzR r9 e13;dsimp only at e14;split at e14
   .rename_i zs hz;by_cases hzl:zs.length<bd
    .rw[if_pos hzl]at e14;obtain⟨v',hv',sh'⟩:=s10.at' k _ hz;rw[hacc6]at hv';cases hv';obtain⟨b,vs,eb,en',r'⟩:=Jr sh';cases eb;have mb:(acc,HO.lst vs)∈own10 k:=by rw[en'];exact af
     refine⟨acc,vs,y,rfl,rfl,(s10.ok k _ mb).2.2,by rw[<-r'.length];exact hzl,?_⟩;have s11:=s10.change (sv':=.ol (zs++[d9])) (o':=.lst (vs++[y])) (ns':=[(acc,.lst (vs++[y]))]) hz hacc6 mb (.ol (r'.snoc r10)) (λp hp=>.inl (ar.mp hp)) Ix;exact⟨ds.length- (i+1),by omega,rfl,hlt,hacc6,F10,_,_,sF4.trans (sFn.trans (sF7.trans (sF8.trans (sF9.trans sF10)))),s11.forget (Mj src _) (λj sv hj=>Ml hj),e14⟩
    .rw[if_neg hzl]at e14;cases e14
   .cases e14
 .have hz:i=ds.length:=by omega
  subst hz;rw[List.drop_length]at ef;cases ef;refine .inl ⟨(yl F4 H4 (sF2.trans sF4) s4.le _).2 (ba _),?_⟩;dsimp only at e6;split at e6
  .rename_i ys hys;cases e6;obtain⟨v',hv',sh'⟩:=s4.at' k _ hys;rw[hacc]at hv';cases hv';obtain⟨b,vs,eb,en',r'⟩:=Jr sh';cases eb;have mb:(acc,HO.lst vs)∈own4 k:=by rw[en'];exact af
   obtain⟨o1,o2,o3⟩:=s4.ok k _ mb;refine k0 (.ref acc) H4 F4 own2 (sH.trans s4.old) (sF.trans (sF2.trans sF4)) (s2.after s4.old sF4 s4.le λb o e=>s4.fro b o e) ⟨[(acc,.lst vs)],.ol r',Ix,λp hp=>?_,λj p q hp hq e=>?_⟩
   .obtain rfl:=ar.mp hp;exact⟨o1,s2.old.free ha,o3⟩
   .obtain rfl:=ar.mp hp;have z:=(s2.ok j q hq).2.2;have e':acc=q.1:=e;rw[<-e',ha]at z;cases z
  .cases e6
end DL
namespace DL
open PySem PySem.Spec PyProof.Rows L2
variable{K:ad}
variable{Z:Ent K}
@[simp]noncomputable def Xf(f:Int->Int->D):D->D->Option SV
 | .int i,.int j=>aA (.fz (f i j))
 |_,_=>aB
@[simp]noncomputable def Zbq(C:Int->Int->Bool)(f:Int->Int->D):D->D->Option SV
 | .int i,.int j=>if C i j=aC then aA (.fz (f i j))else aB
 |_,_=>aB
theorem Zkj(hr:∀F i j,Rep K F (f i j) (g i j)):Y7 Z (rI0 g) (Xf f):=by
 intro F H σ δ own x y d1 d2 sv Q s r1 r2 e k;unfold Xf at e;split at e
 .cases e;exact⟨_,_,r1.int,r2.int,k.fz s (hr _ _ _)⟩
 .cases e
theorem Zmq(hc:∀i j,c i j=aC->C i j)(hr:∀F i j,Rep K F (f i j) (g i j)):Y7 Z (rI C g) (Zbq c f):=by
 intro F H σ δ own x y d1 d2 sv Q s r1 r2 e k;unfold Zbq at e;split at e
 .split at e
  .rename_i hcc;cases e;exact⟨_,_,r1.int,r2.int,hc _ _ hcc,k.fz s (hr _ _ _)⟩
  .cases e
 .cases e
@[simp]def Zz5:D->D->Option SV:=Xf λi j=>.int (i- j)
noncomputable def Zd4(i j:Int):Bool:=(decide (-(2^64)<i)&&decide (i<2^64))|| (decide (-(2^64)<j)&&decide (j<2^64))
@[simp]def Zqf:D->D->Option SV:=Zbq Zd4 λi j=>.int (i*j)
@[simp]noncomputable def Zqg(i j:Int):Bool:=decide (0<j)&&decide (j<1073741824)
@[simp]def Rr:D->D->Option SV:=Zbq Zqg λi j=>.int (i / j)
@[simp]noncomputable def Zqh(i j:Int):Bool:=decide (0<j)
@[simp]def Uf:D->D->Option SV:=Zbq Zqh λi j=>.int (i % j)
@[simp]noncomputable def Zu7(i j:Int):Bool:=decide (0<=j)&&decide (j<=1000000)&&decide (i.natAbs<2^64)
@[simp]def Zz6:D->D->Option SV:=Zbq Zu7 λi j=>.int (i^j.toNat)
theorem Zqi:Y7 Z (rI Zc9 λi j=>V.int (i*j)) Zqf:=Zmq (λi j h=>by
 unfold Zd4 at h;simp only[Bool.or_eq_true,Bool.and_eq_true,decide_eq_true_eq]at h;exact h) λ_ _ _=>.int _
theorem Zmr:Y7 Z (rI Zpf λi j=>V.int (i / j)) Rr:=Zmq (λi j h=>by
 unfold Zqg at h;simp only[Bool.and_eq_true,decide_eq_true_eq]at h;exact h) λ_ _ _=>.int _
theorem Zqj:Y7 Z (rI (λ_ j=>0<j) λi j=>V.int (i % j)) Uf:=Zmq (λi j h=>by
 unfold Zqh at h;simp only[decide_eq_true_eq]at h;exact h) λ_ _ _=>.int _
@[simp]def Ug:D->D->Option SV:=Xf λi j=>.bl (decide (i<j))
@[simp]def leD:D->D->Option SV:=Xf λi j=>.bl (decide (i<=j))
@[simp]def gtD:D->D->Option SV:=Xf λi j=>.bl (decide (j<i))
@[simp]def geD:D->D->Option SV:=Xf λi j=>.bl (decide (j<=i))
theorem Zu8:Y7 Z (rI0 λi j=>V.bl (decide (i<j))) Ug:=Zkj λ_ _ _=>.bl _
theorem Zu9:Y7 Z (rI0 λi j=>V.bl (decide (j<i))) gtD:=Zkj λ_ _ _=>.bl _
def Zva:R2:=λx y H Q=>∃i j,x= .str i/\y= .str j/\i.length+j.length<=bd/\Q (.str (i++j)) H
def Zkk(K:ad):R2:=λx y H Q=>∃l b xs zs,x= .ref l/\y= .ref b/\W5 K H l xs/\W5 K H b zs/\xs.length+zs.length<=bd/\∀p,H p=aB->Q (.ref p) (Z9 H p (.lst (xs++zs)))
theorem Zh8:Cf X (binaryOp .Add) (Zkk X.K):=by
 intro pins s σ H x y v u Q I rx ry h;obtain⟨l,b,xs,zs,rfl,rfl,hH,hB,hz,q⟩:=h;cases rx;cases ry;obtain⟨its,r,pl,z⟩:=I.list hH;obtain⟨its2,r2,pl2,z2⟩:=I.list hB;have hl:=r.length;have hl2:=r2.length;obtain⟨⟨cls,dd,data,sl⟩,ho,hc,n,hd⟩:=pl.isList;obtain⟨⟨cls2,dd2,data2,sl2⟩,ho2,hc2,n2,hd2⟩:=pl2.isList;simp only at hc hd hc2 hd2;subst hc hd hc2 hd2;have ea:its.toArray++its2.toArray=(its++its2).toArray:=by simp
 refine concat_meets ⟨_,ho,rfl⟩ ⟨_,ho2,rfl⟩ noFill_list_add seq_list_add PySem.F.slot_list_add PySem.F.entry_list_add (PySem.F.args_list_add_2 _ _) (list_addW l b its.toArray its2.toArray n n2 dd dd2 sl sl2 (by rw[bq,bq];omega)) ⟨ho,ho2,?_⟩;rw[ea];exact⟨.ref _,_,I.lnew (t':=s.toks) (r.append r2) (by rw[aw];omega),rfl,q _ I.fresh⟩
def Zkl(K:ad):R2:=λx y H Q=>rI0 (λi j=>V.int (i+j)) x y H Q\/(Zva x y H Q\/Zkk K x y H Q)
theorem Zh9:Cf X (binaryOp .Add) (Zkl X.K):=Zl6.or (V0.or Zh8)
@[simp]noncomputable def Os:D->D->Option SV
 | .int i,.int j=>aA (.fz (.int (i+j)))
 | .str x,.str y=>if x.length+y.length<=bd then aA (.fz (.str (x++y)))else aB
 | .lst xs,.lst ys=>if xs.length+ys.length<=bd then aA (.ol (xs++ys))else aB
 |_,_=>aB
theorem Zqk:Y7 Z (Zkl K) Os:=by
 intro F H σ δ own x y d1 d2 sv Q s r1 r2 e k;unfold Os at e;split at e
 .cases e;exact .inl ⟨_,_,r1.int,r2.int,k.fz s (.int _)⟩
 .split at e
  .rename_i hz;cases e;exact .inr (.inl ⟨_,_,r1.str,r2.str,hz,k.fz s (.str _)⟩)
  .cases e
 .split at e
  .rename_i hz;cases e;obtain⟨a,vs,ex,ha,ra⟩:=r1.lst s.le;obtain⟨b,us,ey,hb,rb⟩:=r2.lst s.le;exact .inr (.inr ⟨a,b,vs,us,ex,ey,ha,hb,by rw[<-ra.length,<-rb.length];exact hz,λp hp=>k.lst s (ra.append rb) hp⟩)
  .cases e
 .cases e
@[simp]noncomputable def eqS:D->D->Option Bool
 | .non,.non=>aA aC
 | .non,.int _=>aA aD
 | .int _,.non=>aA aD
 | .non,.bl _=>aA aD
 | .bl _,.non=>aA aD
 | .non,.str _=>aA aD
 | .str _,.non=>aA aD
 | .int i,.int j=>aA (decide (i=j))
 | .bl i,.bl j=>aA (decide (i=j))
 | .str i,.str j=>aA (decide (i=j))
 | .int _,.str _=>aA aD
 | .str _,.int _=>aA aD
 | .bl _,.str _=>aA aD
 | .str _,.bl _=>aA aD
 |_,_=>aB
theorem Zd5(e:eqS d1 d2=aA b)(r1:Yi K F H d1 x)(r2:Yi K F H d2 y):scal x y=aC/\b=decide (x=y):=by
 unfold eqS at e;split at e<;> cases e
 .rw[r1.non,r2.non];exact⟨rfl,by simp⟩
 .rw[r1.non,r2.int];exact⟨rfl,by simp⟩
 .rw[r1.int,r2.non];exact⟨rfl,by simp⟩
 .rw[r1.non,r2.bl];exact⟨rfl,by simp⟩
 .rw[r1.bl,r2.non];exact⟨rfl,by simp⟩
 .rw[r1.non,r2.str];exact⟨rfl,by simp⟩
 .rw[r1.str,r2.non];exact⟨rfl,by simp⟩
 .rw[r1.int,r2.int];exact⟨rfl,by simp⟩
 .rw[r1.bl,r2.bl];exact⟨rfl,by simp⟩
 .rw[r1.str,r2.str];exact⟨rfl,by simp⟩
 .rw[r1.int,r2.str];exact⟨rfl,by simp⟩
 .rw[r1.str,r2.int];exact⟨rfl,by simp⟩
 .rw[r1.bl,r2.str];exact⟨rfl,by simp⟩
 .rw[r1.str,r2.bl];exact⟨rfl,by simp⟩
@[simp]def eqD(d1 d2:D):Option SV:=(eqS d1 d2).bind λb=>some (.fz (.bl b))
@[simp]def neD(d1 d2:D):Option SV:=(eqS d1 d2).bind λb=>some (.fz (.bl (!b)))
theorem Zvd:Y7 Z rEq eqD:=by intro F H σ δ own x y d1 d2 sv Q s r1 r2 e k;obtain⟨b,e1,e2⟩:=aa.mp e;cases e2;obtain⟨h1,h2⟩:=Zd5 e1 r1 r2;subst h2;exact⟨h1,k.fz s (.bl _)⟩
theorem Zve:Y7 Z rNe neD:=by intro F H σ δ own x y d1 d2 sv Q s r1 r2 e k;obtain⟨b,e1,e2⟩:=aa.mp e;cases e2;obtain⟨h1,h2⟩:=Zd5 e1 r1 r2;subst h2;exact⟨h1,k.fz s (.bl _)⟩
@[simp]noncomputable def D.isNon:D->Bool
 | .non=>aC
 |_=>aD
@[simp]noncomputable def Zz7(d1 d2:D):Option SV:=if d2.isNon=true then some (.fz (.bl d1.isNon))else none
@[simp]noncomputable def Zxt(d1 d2:D):Option SV:=if d2.isNon=true then some (.fz (.bl (!d1.isNon)))else none
theorem Reps.atI(r:Reps K F xs vs)(e:L2.atI xs i=aA d):∃v,L2.atI vs i=aA v/\Rep K F d v:=by unfold L2.atI at e⊢;obtain⟨j,e1,e2⟩:=aa.mp e;obtain⟨v,h1,h2⟩:=r.get e2;exact⟨v,aa.mpr ⟨j,by rw[<-r.length];exact e1,h1⟩,h2⟩
@[simp]def ixD:D->D->Option SV
 | .lst xs,.int i=>(L2.atI xs i).bind λd=>aA (.fz d)
 | .tup xs,.int i=>(L2.atI xs i).bind λd=>aA (.fz d)
 | .str z,.int i=>if z.length<=bd then(L2.atI z.cps.toList i).bind λc=>aA (.fz (.str ⟨#[c]⟩))else aB
 |_,_=>aB
theorem Zqm:Y7 Z (rIx K) ixD:=by
 intro F H σ δ own x y d1 d2 sv Q s r1 r2 e k;unfold ixD at e;split at e
 .obtain⟨d,e1,e2⟩:=aa.mp e;cases e2;obtain⟨a,vs,ex,ha,ra⟩:=r1.lst s.le;obtain⟨v,h1,h2⟩:=ra.atI e1;exact .inl ⟨a,vs,_,v,ex,r2.int,ha,h1,k.fz s h2⟩
 .obtain⟨d,e1,e2⟩:=aa.mp e;cases e2;obtain⟨a,vs,ex,ha,ra⟩:=r1.tup s.le;obtain⟨v,h1,h2⟩:=ra.atI e1;exact .inr (.inl ⟨a,vs,_,v,ex,r2.int,ha,h1,k.fz s h2⟩)
 .split at e
  .rename_i hz;obtain⟨c,e1,e2⟩:=aa.mp e;cases e2;exact .inr (.inr ⟨_,_,c,r1.str,r2.int,hz,e1,k.fz s (.str _)⟩)
  .cases e
 .cases e
abbrev FO:=Yk->Option (Option Int×Yk)
def Fx(Z:Ent K)(f:FO):TO:=λσ H Q=>∃F δ own o δ',SR Z F H σ δ own/\f δ=aA (o,δ')/\∀H' F' own',Zi H H'->Zi F F'->SR Z F' H' σ δ' own'->Q o H'
@[simp]def Zvf:FO:=λδ=>some (none,δ)
@[simp]def De(fe:FE):FO:=λδ=>(fe δ).bind λp=>match p.1 with
 | .tmp (.fz (.int i))=>aA (aA i,p.2)
 |_=>aB
section
variable{H:Hp}{σ:L2.St}{Q:VK}{R:Option Int->Hp->Prop}
theorem Zms(h:Fx Z (De fe) σ H R):Zka (Ze Z fe) σ H R:=by
 obtain⟨F,δ,own,b,δ',s,e,k⟩:=h;obtain⟨⟨rv,δ1⟩,e1,e2⟩:=aa.mp e;refine⟨F,δ,own,rv,δ1,s,e1,λv H1 F1 own1 sH sF s1 r1=>?_⟩;dsimp only at e2;split at e2
 .cases e2;obtain⟨ns,t⟩:=r1;cases Jp t.sh;exact⟨_,rfl,k H1 F1 own1 sH sF s1⟩
 .cases e2
@[simp]def slF(g:D->Option Int->Option Int->Option SV)(fe:FE)(fl fh:FO):FE:=λδ=>(fe δ).bind λp=>(fl p.2).bind λl=>(fh l.2).bind λh=>(Iw p.1 h.2).bind λd=>(g d l.1 h.1).bind λsv=>some (.tmp sv,h.2)
def Zkn(Z:Ent K)(r:V->Option Int->Option Int->Hp->VK->Prop)(g:D->Option Int->Option Int->Option SV):Prop:=
 ∀(F H:Hp) (σ:L2.St) (δ:Yk) (own:Nat->Zo) (x:V) (d:D) (lo hi:Option Int) (sv:SV) (Q:VK),SR Z F H σ δ own->Yi K F H d x->g d lo hi=aA sv->Fin Z F H σ δ own sv Q->r x lo hi H Q
theorem Zvh(hg:Zkn Z r g)(h:Ze Z (slF g fe fl fh) σ H Q):tSl r (Ze Z fe) (Fx Z fl) (Fx Z fh) σ H Q:=by
 obtain⟨F,δ,own,rv,δ',s,e,k⟩:=h;obtain⟨⟨rv1,δ1⟩,e1,e⟩:=aa.mp e;obtain⟨⟨lo,δ2⟩,e2,e⟩:=aa.mp e;obtain⟨⟨hi,δ3⟩,e3,e⟩:=aa.mp e;obtain⟨d,e4,e⟩:=aa.mp e;obtain⟨sv,e5,e⟩:=aa.mp e;cases e;refine⟨F,δ,own,rv1,δ1,s,e1,λv H1 F1 own1 sH1 sF1 s1 r1=>?_⟩;obtain⟨F1',sF1',s1',r1'⟩:=s1.settleR r1;refine⟨F1',δ1,own1,lo,δ2,s1',e2,λH2 F2 own2 sH2 sF2 s2=>⟨F2,δ2,own2,hi,δ3,s2,e3,λH3 F3 own3 sH3 sF3 s3=>?_⟩⟩;exact hg F3 H3 σ δ3 own3 v d lo hi sv Q s3 (s3.rd (r1'.mono (sF2.trans sF3)) e4) e5 λq H4 F4 ns sH4 sF4 s4 t4=>
  k q H4 F4 own3 (sH1.trans (sH2.trans (sH3.trans sH4))) (sF1.trans (sF1'.trans (sF2.trans (sF3.trans sF4)))) s4 ⟨ns,t4⟩
end
def L5(xs:List D)(lo hi:Option Int):List D:=(xs.drop (HT.sIx xs.length 0 lo)).take (HT.sIx xs.length xs.length hi- HT.sIx xs.length 0 lo)
theorem Reps.cut(r:Reps K F xs vs)(lo hi):Reps K F (L5 xs lo hi) (V5 vs lo hi):=by unfold L5 V5;rw[r.length];exact(r.drop _).take _
def Zqn:V->Option Int->Option Int->Hp->VK->Prop:=λx lo hi H Q=>∃z,x= .str z/\z.length<=bd/\Q (.str (Txt.slice z lo hi)) H
theorem Zmt:SlR X Zqn:=by
 intro pins s σ H x v vl vu lo hi sl Q I rx hs pl pu h;obtain⟨z,rfl,hz,q⟩:=h;obtain⟨t,rfl⟩:=rx;refine⟨"str",_,F.slot_str_getitem.lookup,typeIs_str _ _ _,?_⟩;have fin:∀(t':Tok) (k:Nat),EP X pins σ Q (.str (Txt.slice z lo hi) t') {s with toks:=k}:=λt' k=>⟨.str (Txt.slice z lo hi),H,I.tok _,⟨_,rfl⟩,q⟩
 cases pl with
 |none=>cases pu with
  |none=>exact wpAny_getItem_str_slice (l:=aB) (u:=aB) (st:=aB) hs rfl (post_val_or_str ⟨dk (Txt.slice_le z _ _) hz,fin⟩)
  |int j tj=>exact wpAny_getItem_str_slice (l:=aB) (u:=aA (j,tj)) (st:=aB) hs rfl (post_val_or_str ⟨dk (Txt.slice_le z _ _) hz,fin⟩)
 |int i ti=>cases pu with
  |none=>exact wpAny_getItem_str_slice (l:=aA (i,ti)) (u:=aB) (st:=aB) hs rfl (post_val_or_str ⟨dk (Txt.slice_le z _ _) hz,fin⟩)
  |int j tj=>exact wpAny_getItem_str_slice (l:=aA (i,ti)) (u:=aA (j,tj)) (st:=aB) hs rfl (post_val_or_str ⟨dk (Txt.slice_le z _ _) hz,fin⟩)
@[simp]def slD:D->Option Int->Option Int->Option SV
 | .lst xs,lo,hi=>aA (.ol (L5 xs lo hi))
 | .str z,lo,hi=>if z.length<=bd then aA (.fz (.str (Txt.slice z lo hi)))else aB
 |_,_,_=>aB
theorem Zvi:Zkn Z (λx lo hi H Q=>Zpr K x lo hi H Q\/Zqn x lo hi H Q) slD:=by
 intro F H σ δ own x d lo hi sv Q s r1 e k;unfold slD at e;split at e
 .cases e;obtain⟨a,vs,ex,ha,ra⟩:=r1.lst s.le;exact .inl ⟨a,vs,ex,ha,λp hp=>k.lst s (ra.cut _ _) hp⟩
 .split at e
  .rename_i hz;cases e;exact .inr ⟨_,r1.str,hz,k.fz s (.str _)⟩
  .cases e
 .cases e
end DL
namespace L2
open PySem PySem.Spec PyProof.Rows
section
variable{X:Cx}
def Ite(K:ad)(a:aj):It:=
 ⟨λi H=>∃xs x,W5 K H a xs/\xs[i]? =aA x,λi H x H'=>∃p v,x= .ref p/\H p=aB/\H'=Z9 H p (.tup [.int (i:Nat),v])/\∀xs,W5 K H a xs->xs[i]? =aA v,λi H=>∃xs,W5 K H a xs/\xs.length<=i⟩
theorem Inv.turnedT{σ:L2.St}{T:aj}(I:Inv X pins σ H s)(k:∀b o,b≠e->b≠it->s.heap.get? b=aA o->h'.get? b=aA o)(f1:Jz X pins H e)(f2:Jz X pins H it)(hT:T=s.heap.objs.size)(ht:IsTup h' T its.toArray)(rv:Z2 xs its)(hz:xs.length<=sizeLine)(he:∃o,h'.get? e=aA o)(hi:∃o,h'.get? it=aA o):
  Inv X pins σ (Z9 H T (.tup xs)) {s with heap:=h',toks:=t'}:=by
 have hTn:H T=aB:=by rw[hT];exact I.hok.fresh (ba _)
 have neT:∀b o,s.heap.get? b=aA o->b≠T:=λb o q=>by rw[hT];exact cf (bo q)
 have ntr:∀b u,H b=aA u->b≠e/\b≠it:=λb u q=>⟨(λz=>by rw[z,f1.1]at q;cases q),(λz=>by rw[z,f2.1]at q;cases q)⟩
 refine I.step (g':=s.gens) (d':=s.drawn) (ch:=[e,it]) (λb hb=>?_) (λb o _ _ hc q _=>k b o (λz=>hc (by simp[z])) (λz=>hc (by simp[z])) q)
  (λb o _ _ hc q _=>⟨o.slots,k b o (λz=>hc (by simp[z])) (λz=>hc (by simp[z])) q⟩) (λb o _ q n=>by rw[Zw (neT b o q)];exact n)
  (λb o hc q=>⟨o,k b o (λz=>hc (by simp[z])) (λz=>hc (by simp[z])) q⟩) (λb ys q=>by rw[Zw (Y6 q hTn)];exact q) (λb o u q=>by rw[Zw (Y6 q hTn)];exact q)
  (λb ps q=>⟨#[],by rw[Zw (Y6 q hTn),q];simp⟩) (λm hm=>?_) (λb u q=>?_) I.bare
 .have hb':b=e\/b=it:=by simpa using hb
  rcases hb' with z|z
  .subst z;obtain⟨_,a1,_,a3,a4,a5⟩:=f1;exact⟨a3,a1,a4,a5⟩
  .subst z;obtain⟨_,a1,_,a3,a4,a5⟩:=f2;exact⟨a3,a1,a4,a5⟩
 .obtain⟨o,es,ep,ho,r⟩:=hm;exact⟨o,es,ep,k _ o (Ne.symm f1.2.1) (Ne.symm f2.2.1) ho,r⟩
 .by_cases hb:b=T
  .subst hb;rw[Z3]at q;cases q;exact⟨hz,its,rv,ht⟩
  .rw[Zw hb]at q;refine(I.hok b u q).stay (λc v hc z=>?_) (λc z=>by rw[Zw (Y6 z hTn)];exact z) λc ys z=>by rw[Zw (Y6 z hTn)];exact z
   rcases hc with y|y
   .rw[y]at z⊢;exact k _ _ (ntr b u q).1 (ntr b u q).2 z
   .exact k _ _ (ntr c _ y).1 (ntr c _ y).2 z
theorem Zbr{P:b6}{w:c7}{K:ad}{elts:List cj}{kk:Nat}{tpos:Pos}(a e it:aj)(hei:e≠it):Turn P w K (.Tuple elts kk tpos) (Ite K a) [e,it] e (λi h=>(∃old,IsEnum h e it ((i:Nat):Int) old)/\h.IsListIter it a i)where
 mem:=by simp
 obj:=λi h st b hb=>by
  have hb':b=e\/b=it:=by simpa using hb
  rcases hb' with z|z
  .subst z;obtain⟨old,q⟩:=st.1;exact⟨_,q,λv y=>by
    have y':Data.fields _=Data.cell v:=y;cases y'⟩
  .subst z;obtain⟨o,q,c,d⟩:=st.2;exact⟨o,q,λv y=>by rw[d]at y;cases y⟩
 keep:=λi h h' st k=>⟨let⟨old,q⟩:=st.1;⟨old,k e (by simp) _ q⟩,st.2.at λo q=>k it (by simp) o q⟩
 item:=by
  intro X hP hw hK hc i pins s σ H E I hf st hg;subst hP hw hK;obtain⟨xs,x,hq,hx⟩:=hg;obtain⟨its,rv,p,hz⟩:=I.list hq;obtain⟨u,hu,ru⟩:=rv.get hx;obtain⟨⟨old,he⟩,hit⟩:=st;have hl:s.heap.IsList a its.toArray:=p.isList;have ai:a≠it:=λz=>by obtain⟨o1,q1,c1,_⟩:=hit;obtain⟨o2,q2,c2,_⟩:=hl;rw[z,q1]at q2;cases q2;rw[c1]at c2;exact absurd c2 (by decide)
  have ae:e∉[it,a]:=λz=>by
   have z':e=it\/e=a:=by simpa using z
   rcases z' with z|z
   .exact hei z
   .obtain⟨o2,q2,c2,_⟩:=hl;rw[<-z,he]at q2;cases q2;exact absurd (show Value.type "enumerate"=Value.type "list"from c2) (by decide)
  have D:=Draws.list (prog:=X.prog) (w:=X.w) (A:=X.A.in1) (by first|exact I.ok.hd hc| (rw[show X.A.in1.handled=X.A.handled from rfl];exact I.ok.hd hc)) it a ai its.toArray;have hlt:i<its.toArray.size:=by have:=(a8.mp hu).1;rw[bq];exact this
  refine wpAny_pyNext_enum_itemD D he ⟨hit,hl⟩ hlt hei ae λy h' tk hy hout st' hT hsz hk=>⟨.ref s.heap.objs.size,rfl,?_⟩
  refine wpAny_letOwnedTupleGo_enum hout λh2 he2 hs2=>?_;have hy':its.toArray[i]? =aA y:=hy;have ey:y=u:=by
   have:its[i]? =aA y:=by simpa using hy'
   rw[hu]at this;cases this;rfl
  subst ey;have kk:∀b o,b≠e->b≠it->s.heap.get? b=aA o->h2.get? b=aA o:=λb o h1 h3 q=>(hs2.2 b h1).trans (hk b o h1 h3 q);have neT:s.heap.objs.size≠e:=Nat.ne_of_gt (bo he);have I2:=I.turnedT (h':=h2) (t':=tk+1) (e:=e) (it:=it) (T:=s.heap.objs.size) (xs:=[.int (i:Nat),x]) (its:=[.int i tk,y]) kk (hf e (by simp)) (hf it (by simp)) rfl ⟨_,(hs2.2 _ neT).trans hT,rfl,_,rfl⟩ (.cons ⟨tk,rfl⟩ (.cons ru .nil)) (by show 2<=sizeLine;decide)
   ⟨_,he2⟩ (let⟨o,q,_⟩:=st'.1;⟨o,(hs2.2 it (Ne.symm hei)).trans q⟩)
  refine⟨.ref s.heap.objs.size,_,I2,rfl,⟨s.heap.objs.size,x,rfl,I.hok.fresh (ba _),rfl,λys hy2=>by rw[I.list_inj hy2 hq];exact hx⟩,⟨⟨_,he2⟩,st'.1.at λo q=>(hs2.2 it (Ne.symm hei)).trans q⟩,λb hb=>?_⟩;rw[Zw λz=>?_]
  .exact(hf b hb).1
  .have hb':b=e\/b=it:=by simpa using hb
   rcases hb' with y|y
   .rw[<-z,y]at neT;exact neT rfl
   .obtain⟨o,q,_⟩:=hit;rw[y]at z;exact absurd (bo q) (by rw[z];exact ii _)
 done:=by intro X hP hw hK hc i pins s σ H E I hf st hg;subst hP hw hK;obtain⟨xs,hq,hx⟩:=hg;obtain⟨its,rv,p,hz⟩:=I.list hq;obtain⟨⟨old,he⟩,hit⟩:=st;obtain⟨f0,f1,f2,f3,f4,f5⟩:=hf it (by simp);have hl:=rv.length;exact wpAny_pyNext_enum_end (I.ok.hd hc) he hit p.isList (by simp;omega) λh' eb=>⟨rfl,I.turned (t':=s.toks) (λb o hb q=>eb b o hb q) f0 f1 f3 f4 f5⟩
 self:=λ_ _ _ _ _ st h=>let⟨⟨old,he⟩,_⟩:=st;wpAny_pyIter_enum he h
def Zko(K:ad)(ta:TA):TI:=λσ H R=>ta σ H λvs H1=>∃a xs,vs=[.ref a]/\W5 K H1 a xs/\R (Ite K a) H1
theorem Zia(hg:Gl X "enumerate")(hm:X.mg "enumerate"=aB)(ha:PA X [l] ta)(hs:a9 [l] X.env=[(aD,gp l X.env)]:=by rfl):
  PI X (.Tuple elts kk tpos) (.Call (.Name "enumerate" p) [l] [] pos) (Zko X.K ta):=by
 intro pins s σ H R I h;refine Call_ (Bh I hg hm boot_enumerate (PyProof.Rows.callWith_type1 (Wp (ha pos pins s σ H _ I h) λus s1 ⟨vs,H1,I1,r1,q1⟩=>?_) hs rfl));obtain⟨a,xs,e,hq,q⟩:=q1;subst e;obtain⟨u,rfl,ru⟩:=Oc r1;cases ru;obtain⟨its,rv,p,hz⟩:=I1.list hq;refine call_enumerate_list p.isList λh' he hit hsz hk=>wpAny_pyIter_enum he ?_;have I2:Inv X pins σ H1 {s1 with heap:=h'}:=I1.kept (t':=s1.toks) hk;refine⟨s1.heap.objs.size+1,[s1.heap.objs.size+1,s1.heap.objs.size],_,_,H1,rfl,I2,Zbr a _ _ (Nat.succ_ne_self _),⟨⟨.none,by simpa using he⟩,hit⟩,λb hb=>?_,q⟩;have hb':b=s1.heap.objs.size+1\/b=s1.heap.objs.size:=by simpa using hb
 rcases hb' with z|z
 .subst z;exact I1.fpOk (Nat.le_succ _) (I1.hok.fresh (Nat.le_succ _))
 .subst z;exact I1.fpOk (ba _) (I1.hok.fresh (ba _))
def Zxu(K:ad):V->List V->Hp->VK->Prop:=λx xs H Q=>∃sep p ys,x= .str sep/\xs=[.ref p]/\W5 K H p (ys.map V.str)/\JoinOk sep ys=aC/\Q (.str (Txt.join sep ys)) H
inductive TyX(K:ad)(H:Hp):V->String->Prop where
 |non:TyX K H .non "NoneType"
 |bl (x:Bool):TyX K H (.bl x) "bool"
 |int (i:Int):TyX K H (.int i) "int"
 |str (x:Str):TyX K H (.str x) "str"
 |lst {a:aj} {xs:List V} (e:W5 K H a xs):TyX K H (.ref a) "list"
 |tup {a:aj} {xs:List V} (e:Ob K H a xs):TyX K H (.ref a) "tuple"
 |dK {a:aj} {kvs:List (Key×V)} {ep:Nat} (e:H a=aA (.dK kvs ep)):TyX K H (.ref a) "dict"
 |dT {a:aj} {kvs:List (List Key×V)} {ep:Nat} {bs:List aj} (e:H a=aA (.dT kvs ep bs)):TyX K H (.ref a) "dict"
def Zz8(K:ad)(c:String):List V->Hp->VK->Prop:=λxs H Q=>∃x t b,xs=[x,.ty c]/\TyX K H x t/\PySem.W.kitOne K (.type t) (.type c)=aA b/\Q (.bl b) H
end
end L2
namespace DL
open PySem PySem.Spec PyProof.Rows L2
variable{K:ad}
noncomputable def Js(xs:List D):List D:=xs.zipIdx.map λp=>.tup [.int (p.2:Nat),p.1]
theorem Fy{d:D}(h:(Js xs)[i]? =aA d):∃x,xs[i]? =aA x/\d= .tup [.int (i:Nat),x]:=by
 unfold Js at h;rw[az,List.getElem?_zipIdx]at h;cases e:xs[i]? with
 |none=>rw[e]at h;cases h
 |some x=>rw[e]at h;cases h;exact⟨x,rfl,by simp⟩
theorem Fz(xs):(Js xs).length=xs.length:=by unfold Js;rw[aq,List.length_zipIdx]
theorem P6(h:W5 K F a vs)(r:Reps K F xs vs):Oq K (Ite K a) F (Js xs):=λF' H sF sH i=>by
 have q:W5 K H a vs:=Wb (sF.trans sH) h;refine⟨λd hd=>?_,λhl=>⟨vs,q,by rw[<-r.length,<-Fz];exact hl⟩⟩;obtain⟨x,hx,rfl⟩:=Fy hd;obtain⟨v,h1,h2⟩:=r.get hx;refine⟨⟨vs,v,q,h1⟩,λy H' zq9=>?_⟩;obtain⟨p,w,e1,e2,e3,e4⟩:=zq9;subst e1 e3;have e5:=e4 vs q;rw[h1]at e5;cases e5;have hp:F' p=aB:=sH.free e2;have sm:Zi F' (Ue F' [(p,.tup [.int (i:Nat),v])]):=Ql λz hz=>by obtain rfl:=ar.mp hz;exact hp
 refine⟨Ws e2,[(p,.tup [.int (i:Nat),v])],Ix,λz hz=>?_,.tup Z3 (.cons (.int _) (.cons (h2.mono (sF.trans sm)) .nil))⟩;obtain rfl:=ar.mp hz;exact⟨e2,Z3⟩
section
variable{Z:Ent K}{H:Hp}{σ:L2.St}{Q:VK}
@[simp]def Zkp(fd:FD):FD:=λδ=>(fd δ).bind λp=>match p.1 with
 | [.lst xs]=>aA (Js xs,p.2)
 |_=>aB
theorem Zib(h:Qm Z (Zkp fd) σ H R):Zko K (Qu Z fd) σ H R:=by
 obtain⟨F,δ,own,ds,δ',s,e,k⟩:=h;obtain⟨⟨ds1,δ1⟩,e1,e2⟩:=aa.mp e;refine⟨F,δ,own,ds1,δ1,s,e1,λvs H1 F1 own1 sH sF s1 r1=>?_⟩;dsimp only at e2;split at e2
 .rename_i xs;cases e2;cases r1 with
  |cons h t=>
   cases t;cases h with
   |lst h _ r=>exact⟨_,_,rfl,Wb s1.le h,k _ H1 F1 own1 sH sF s1 (P6 h r)⟩
 .cases e2
@[simp]noncomputable def D.ty:D->String
 | .str _=>"str"
 | .int _=>"int"
 | .lst _=>"list"
 | .dK _ _=>"dict"
 | .dT _ _=>"dict"
 |_=>"?"
@[simp]noncomputable def Zmu(T:String)(d:D):Bool:=T==d.ty&&(T=="str" ||T=="list" ||T=="dict")
@[simp]def bmF(T:String)(g:List D->Option SV)(fo:FE)(fa:FA):FE:=λδ=>(fo δ).bind λp=>(Iw p.1 p.2).bind λd0=>if Zmu T d0=true then(fa p.2).bind λq=>(Oe (p.1::q.1) q.2).bind λds=>(g ds).bind λsv=>some (.tmp sv,q.2)else none
def Zxv(Z:Ent K)(r:V->List V->Hp->VK->Prop)(g:List D->Option SV):Prop:=Us Z (λvs H Q=>∃x xs,vs=x::xs/\r x xs H Q) g
end
@[simp]noncomputable def strs?:List D->Option (List Str)
 | []=>aA []
 | .str x::r=>(strs? r).bind λt=>aA (x::t)
 |_=>aB
@[simp]def Zxw:List D->Option SV
 | [.str sep,.lst xs]=>(strs? xs).bind λys=>if JoinOk sep ys=aC then aA (.fz (.str (Txt.join sep ys)))else aB
 |_=>aB
variable{Z:Ent K}
@[simp]noncomputable def D.pyTy:D->String
 | .non=>"NoneType"
 | .bl _=>"bool"
 | .int _=>"int"
 | .str _=>"str"
 | .tup _=>"tuple"
 | .lst _=>"list"
 | .dK _ _=>"dict"
 | .dT _ _=>"dict"
 | .dX _ _=>"?"
 | .exc _ _ _=>"?"
@[simp]noncomputable def D.isExc:D->Bool
 | .exc _ _ _=>aC
 | .dX _ _=>aC
 |_=>aD
@[simp]noncomputable def Zz9(c:String)(d:D):Option SV:=if d.isExc=true then none else some (.fz (.bl (d.pyTy==c|| (c=="int" &&d.pyTy=="bool"))))
@[simp]noncomputable def Iy:List D->Option SV
 | [.lst xs]=>aA (.fz (.int (xs.length:Nat)))
 | [.tup xs]=>aA (.fz (.int (xs.length:Nat)))
 | [.str x]=>if x.length<=bd then aA (.fz (.int (x.length:Nat)))else aB
 |_=>aB
theorem Zqo:Us Z (λxs H Q=>(∃p ys,xs=[V.ref p]/\(W5 K H p ys\/Ob K H p ys)/\Q (.int ys.length) H)\/(∃z,xs=[V.str z]/\z.length<=bd/\Q (.int z.length) H)) Iy:=by
 intro F H σ δ own vs ds sv Q s r e k;unfold Iy at e;split at e
 .cases e;cases r with
  |cons h t=>cases t;obtain⟨a,us,ex,ha,ra⟩:=h.lst s.le;subst ex;exact .inl ⟨a,us,rfl,.inl ha,by rw[<-ra.length];exact k.fz s (.int _)⟩
 .cases e;cases r with
  |cons h t=>cases t;obtain⟨a,us,ex,ha,ra⟩:=h.tup s.le;subst ex;exact .inl ⟨a,us,rfl,.inr ha,by rw[<-ra.length];exact k.fz s (.int _)⟩
 .split at e
  .rename_i hz;cases e;cases r with
   |cons h t=>cases t;exact .inr ⟨_,by rw[h.str],hz,k.fz s (.int _)⟩
  .cases e
 .cases e
@[simp]noncomputable def Zxx:List D->Option SV
 | [.lst xs]=>aA (.ol xs)
 | [.tup xs]=>aA (.ol xs)
 |_=>aB
@[simp]noncomputable def L6:List D->Option SV
 | [.lst xs]=>aA (.fz (.tup xs))
 |_=>aB
theorem Zic:Us Z (λxs H Q=>∃p ys,xs=[V.ref p]/\((W5 K H p ys/\∀l,H l=aB->Q (.ref l) (Z9 H l (.tup ys)))\/(Ob K H p ys/\Q (.ref p) H))) L6:=by
 intro F H σ δ own vs ds sv Q s r e k;unfold L6 at e;split at e
 .cases e;cases r with
  |cons h t=>cases t;obtain⟨a,us,ex,ha,ra⟩:=h.lst s.le;subst ex;exact⟨a,us,rfl,.inl ⟨ha,λl hl=>k.tup s ra hl⟩⟩
 .cases e
@[simp]noncomputable def Zid:List D->Option SV
 | [.int i]=>aA (.fz (.int i))
 | [.bl b]=>aA (.fz (.int (if b then 1 else 0)))
 |_=>aB
theorem Zqp:Us Z (λxs H Q=>(∃i,xs=[V.int i]/\Q (.int i) H)\/∃k,xs=[V.bl k]/\Q (.int (if k then 1 else 0)) H) Zid:=by
 intro F H σ δ own vs ds sv Q s r e k;unfold Zid at e;split at e
 .cases e;cases r with
  |cons h t=>cases t;exact .inl ⟨_,by rw[h.int],k.fz s (.int _)⟩
 .cases e;cases r with
  |cons h t=>cases t;exact .inr ⟨_,by rw[h.bl],k.fz s (.int _)⟩
 .cases e
section
variable{X:Cx}{Z:Ent X.K}{a b c:cj}{fa fb fc:FE}{pos:Pos}
theorem Zb(i)(hN:X.N[i]? =aA x:=by rfl)(hv:Vs X.env.scope x:=by first|exact Or.inl rfl|exact gw (Or.inl rfl)|exact gw (gw rfl))(hd:(x==("__debug__":Str))=aD:=by decide)(hcd:(x==("__classdict__":Str))=aD:=by decide):PE X (.Name x pos) (Ze Z (Za i)):=(Jy hN hv hd hcd).imp λ_ _ _ h=>Zp0 h
theorem Zp:PE X (.Constant (.int i) j pos) (Ze Z (Zf (.int i))):=Zlt.imp λ_ _ _ h=>L0 (λ_=>.int _) h
theorem L7:PE X (.Constant (.bool i) j pos) (Ze Z (Zf (.bl i))):=Zoz.imp λ_ _ _ h=>L0 (λ_=>.bl _) h
theorem Ka:PE X (.Constant (.str i) j pos) (Ze Z (Zf (.str i))):=Zcz.imp λ_ _ _ h=>L0 (λ_=>.str _) h
theorem Df(ho:Cf X (binaryOp op) r)(hp:Y7 Z r g)(ha:PE X a (Ze Z fa))(hb:PE X b (Ze Z fb)):PE X (.BinOp a op b pos) (Ze Z (Zm g fa fb)):=(Zpd ho ha hb).imp λ_ _ _ h=>Fv hp h
theorem Q8(ha:PE X a (Ze Z fa))(hb:PE X b (Ze Z fb)):PE X (.BinOp a .Add b pos) (Ze Z (Zm Os fa fb)):=Df Zh9 Zqk ha hb
theorem Mm(ha:PE X a (Ze Z fa))(hb:PE X b (Ze Z fb)):PE X (.BinOp a .FloorDiv b pos) (Ze Z (Zm Rr fa fb)):=Df Zhk Zmr ha hb
theorem Qn(ha:PE X a (Ze Z fa))(hb:PE X b (Ze Z fb)):PE X (.BinOp a .Mod b pos) (Ze Z (Zm Uf fa fb)):=Df Zl8 Zqj ha hb
theorem Zkq(ho:Cf X (g9 op) r)(hp:Y7 Z r g)(ha:PE X a (Ze Z fa))(hb:PE X b (Ze Z fb))(hm:behindInMarks op b=aD):PE X (.Compare a [op] [b] pos) (Ze Z (Zm g fa fb)):=(Zhl ho ha hb hm).imp λ_ _ _ h=>Fv hp h
theorem Kb(ho:Cf X (g9 op) r)(hp:Y7 Z r g)(ha:PE X a (Ze Z fa))(hb:PE X b (Ze Z fb))(hm:behindInMarks op b=aD):PT X (.Compare a [op] [b] pos) (Yl Z (Ys (Zm g fa fb))):=
 (Zhm ho ha hb hm).imp λσ H Q h=>by obtain⟨F,δ,own,rv,δ',s,e,k⟩:=Xb h;exact Fv hp ⟨F,δ,own,rv,δ',s,e,k⟩
theorem Zqq(ha:PE X a (Ze Z fa))(hb:PE X b (Ze Z fb)):PT X (.Compare a [.Lt] [b] pos) (Yl Z (Ys (Zm Ug fa fb))):=Kb Zph Zu8 ha hb (Ad _)
theorem Zqr(ha:PE X a (Ze Z fa))(hb:PE X b (Ze Z fb)):PT X (.Compare a [.Gt] [b] pos) (Yl Z (Ys (Zm gtD fa fb))):=Kb Zpi Zu9 ha hb (Ad _)
theorem Zmv(ha:PT X a (Yl Z f)):PW X (.BoolOp .And [a] pos) (Yl Z f):=Zhd ha
theorem Zd6(ha:PT X a (Yl Z f)):PW X (.BoolOp .Or [a] pos) (Yl Z f):=Zlv ha
theorem Zqs{rest}(ha:PT X a (Yl Z f))(hb:PW X (.BoolOp .And (b::rest) pos) (Yl Z g)):PW X (.BoolOp .And (a::b::rest) pos) (Yl Z (Zmj f g)):=(Zlw ha hb).imp λ_ _ _ h=>Zp3 h
theorem Zie{rest}(ha:PT X a (Yl Z f))(hb:PW X (.BoolOp .Or (b::rest) pos) (Yl Z g)):PW X (.BoolOp .Or (a::b::rest) pos) (Yl Z (orF f g)):=(Zo2 ha hb).imp λ_ _ _ h=>Zu4 h
theorem Zkr(ha:PT X a (Yl Z f)):PT X (.UnaryOp .Not a pos) (Yl Z (Zh3 f)):=(Zlx ha).imp λ_ _ _ h=>Zp4 h
theorem Zd7(h:PE X a (Ze Z fa))(he:∀whole,isTrue a X.env whole=(do let v<-whole;standAt a.pos;holding [v] (truthy v)):=by intro _;rfl):PT X a (Yl Z (Ys fa)):=(Zlu h he).imp λ_ _ _ h=>Zh2 h
theorem Zqt(h:PE X a (Ze Z fa)):PE X (.BoolOp op [a] pos) (Ze Z fa):=Zly h
theorem Zqu{rest}(ha:PE X a (Ze Z fa))(hb:PE X (.BoolOp .And (b::rest) pos) (Ze Z fb)):PE X (.BoolOp .And (a::b::rest) pos) (Ze Z (Zmk fa fb)):=(Zlz ha hb).imp λ_ _ _ h=>Zml h
theorem Ya:PA X [] (Cb Z Zj):=Bj.imp λ_ _ _ h=>Zdy h
theorem Zk(ha:PE X a (Ze Z fa))(hr:PA X es (Cb Z fr))(hs:a9 (a::es) X.env=(aD,gp a X.env)::a9 es X.env:=by rfl):PA X (a::es) (Cb Z (Zc fa fr)):=(Jf ha hr hs).imp λ_ _ _ h=>Zbp h
theorem Yn:PA X [] (Qu Z Zs):=Bj.imp λ_ _ _ h=>Fw h
theorem Zv(ha:PE X a (Ze Z fa))(hr:PA X es (Qu Z fr))(hs:a9 (a::es) X.env=(aD,gp a X.env)::a9 es X.env:=by rfl):PA X (a::es) (Qu Z (Zh fa fr)):=(Jf ha hr hs).imp λ_ _ _ h=>An h
theorem Uw(h:PA X es (Qu Z fd)):PE X (.Tuple es k pos) (Ze Z (tupF fd)):=(Zl9 h).imp λ_ _ _ h=>Zp1 h
theorem Qo(h:PA X es (Qu Z fd)):PE X (.List es pos) (Ze Z (U9 fd)):=(Ln h).imp λ_ _ _ h=>Zp2 h
theorem Zd8(ha:PE X a (Ze Z fa)):PO X (aA a) (Fx Z (De fa)):=λpins s σ H Q I h=>Zhp ha pins s σ H Q I (Zms h)
theorem Zvk{lo:Option cj}(ha:PE X a (Ze Z fa))(hl:PO X lo (Fx Z fl))(hh:PO X hi (Fx Z fh)):PE X (.Subscript a (.Slice lo hi aB p2) pos) (Ze Z (slF slD fa fl fh)):=
 (Zde (Zhs.or Zmt) ha hl hh).imp λ_ _ _ h=>Zvh Zvi h
theorem Z8{p}(F:FnOk X.prog X.w X.K X.mg X.base Ud k f fd ps (Y1 X.K n g))(hr:Room k X.A)(hm:X.mg x=aA (.ref f))(hk:bu X.K (.ref f)=aC)(hb:Wh X.K fd ps [])(ha:PA X (a::es) (Cb Z fr))(hg:Gl X x:=by rfl)(hdb:(x==("__debug__":Str))=aD:=by decide)(he:a9 (a::es) X.env=(aD,gp a X.env)::a9 es X.env:=by rfl)(hpl:(gq pos (a9 es X.env)).any (·.1)=aD:=by rfl):
  PE X (.Call (.Name x p) (a::es) [] pos) (Ze Z (Yc n g fr)):=(Zho F hr hg hm hk hb .nil Zpx ha hdb he hpl).imp λ_ _ _ h=>Zmi h
theorem L8{id}{p}(hc:Jo X (.builtin id) r)(hp:Us Z r g)(hm:X.mg x=aB)(hv:bootBuiltins x=aA (.builtin id))(ha:PA X (a::es) (Cb Z fr))(hg:Gl X x:=by rfl)(hn:x≠"__name__":=by decide)(hdb:(x==("__debug__":Str))=aD:=by decide)(he:a9 (a::es) X.env=(aD,gp a X.env)::a9 es X.env:=by rfl)(hpl:(gq pos (a9 es X.env)).any (·.1)=aD:=by rfl):PE X (.Call (.Name x p) (a::es) [] pos) (Ze Z (Yq g fr)):=(Zdb hc hg hm hv ha hn hdb he hpl).imp λ_ _ _ h=>Am hp h
theorem Rs{p}(hc:Jo X (.type T) r)(hp:Us Z r g)(hm:X.mg x=aB)(hv:bootBuiltins x=aA (.type T))(ha:PA X (a::es) (Cb Z fr))(hg:Gl X x:=by rfl)(hn:x≠"__name__":=by decide)(hdb:(x==("__debug__":Str))=aD:=by decide)(he:a9 (a::es) X.env=(aD,gp a X.env)::a9 es X.env:=by rfl)(hpl:(gq pos (a9 es X.env)).any (·.1)=aD:=by rfl):PE X (.Call (.Name x p) (a::es) [] pos) (Ze Z (Yq g fr)):=(Zbi hc hg hm hv ha hn hdb he hpl).imp λ_ _ _ h=>Am hp h
theorem Ap{p}(hm:X.mg "len"=aB)(ha:PE X a (Ze Z fa))(hg:Gl X "len":=by rfl)(he:a9 [a] X.env=(aD,gp a X.env)::a9 [] X.env:=by rfl)(hpl:(gq pos (a9 [] X.env)).any (·.1)=aD:=by rfl):PE X (.Call (.Name "len" p) [a] [] pos) (Ze Z (Yq Iy (Zc fa Zj))):=
 L8 (Lu.or Lv) Zqo hm PySem.boot_len (Zk ha Ya he) hg (by decide) (by decide) he hpl
theorem Zif{p}(hm:X.mg "tuple"=aB)(ha:PE X a (Ze Z fa))(hg:Gl X "tuple":=by rfl)(he:a9 [a] X.env=(aD,gp a X.env)::a9 [] X.env:=by rfl)(hpl:(gq pos (a9 [] X.env)).any (·.1)=aD:=by rfl):PE X (.Call (.Name "tuple" p) [a] [] pos) (Ze Z (Yq L6 (Zc fa Zj))):=
 Rs Iv Zic hm boot_tuple (Zk ha Ya he) hg (by decide) (by decide) he hpl
theorem Zmw{p}(hm:X.mg "int"=aB)(ha:PE X a (Ze Z fa))(hg:Gl X "int":=by rfl)(he:a9 [a] X.env=(aD,gp a X.env)::a9 [] X.env:=by rfl)(hpl:(gq pos (a9 [] X.env)).any (·.1)=aD:=by rfl):PE X (.Call (.Name "int" p) [a] [] pos) (Ze Z (Yq Zid (Zc fa Zj))):=
 Rs Zbf Zqp hm boot_int (Zk ha Ya he) hg (by decide) (by decide) he hpl
theorem Z1(i)(hN:X.N.Nodup)(hi:X.N[i]? =aA x:=by rfl)(hx:Loc X.env.scope x:=by first|exact Or.inl rfl|exact gw rfl)(hf:X.fn x=aC\/X.env.scope.names.lookup x=aA .local:=by first|exact .inl rfl|exact .inr rfl):PG X (.Name x pos) (Of Z (Zd i)):=(Zhh hN hi hx hf).imp λ_ _ _ _ h=>Zh4 h
theorem G1:PGs X [] (Op Z Wi):=Zhi.imp λ_ _ _ _ h=>Zmn h
theorem Wc(h1:PG X a (Of Z g))(h2:PGs X es (Op Z r))(hs:(assignEach (a::es) X.env).map (·.2)=assign a X.env::(assignEach es X.env).map (·.2):=by rfl):PGs X (a::es) (Op Z (Zt g r)):=(Zc3 h1 h2 hs).imp λ_ _ _ _ h=>Zh5 h
theorem Kc{k:Nat}(hc:X.calm=aC)(h:PGs X es (Op Z g))(hn:(assignEach es X.env).length=n:=by rfl)(hst:(assignEach es X.env).findIdx? (·.1)=aB:=by rfl):PG X (.Tuple es k pos) (Of Z (Wj n g)):=(Zl2 hc h hn hst).imp λ_ _ _ _ h=>Zmo h
theorem Gs{tg}{p}(hm:X.mg "range"=aB)(ha:PE X a (Ze Z fa))(hg:Gl X "range":=by rfl)(hs:a9 [a] X.env=[(aD,gp a X.env)]:=by rfl):PI X tg (.Call (.Name "range" p) [a] [] pos) (Qm Z (Tk (Zc fa Zj))):=(Zbc hg hm (Zk ha Ya hs) hs).imp λ_ _ _ h=>Zmp h
theorem Wl{src:List BSrc}(kind:scope.kind= .function)(nocell:(scope.names.all λy=>!(y.2== .cell))=aC)(names:(scope.names.all λy=>!(y.2== .local)|| (scope.names.lookup y.1==aA .local))=aC)(free:(scope.names.all λy=>!(y.2== .free)|| (X.env.kindOf y.1==aA .cell)|| (X.env.kindOf y.1==aA .free))=aC)(len:src.length=N'.length)(cap:((cq src.length).all λk=>match src[k]?,N'[k]? with
   |some (.cap j),aA x=>(X.N[j]? ==aA x)&&((X.env.kindOf x==aA .cell)|| (X.env.kindOf x==aA .free))&&(scope.names.lookup x==aA .free)
   |some .acc,aA x=>scope.names.lookup x==aB
   |_,_=>aC)=aC):CompScope X N' scope src:=by
 have capk:∀(k:Nat) (q:BSrc) (x:Str),src[k]? =aA q->N'[k]? =aA x->(match aA q,aA x with
   |some (.cap j),aA x=>(X.N[j]? ==aA x)&&((X.env.kindOf x==aA .cell)|| (X.env.kindOf x==aA .free))&&(scope.names.lookup x==aA .free)
   |some .acc,aA x=>scope.names.lookup x==aB
   |_,_=>aC)=aC:=λk q x h1 h2=>by
  have hk:k<src.length:=(a8.mp h1).1;have:=List.all_eq_true.mp cap k (cu.mpr hk);rw[h1,h2]at this;exact this
 refine⟨kind,λy hy e=>?_,λy hy e=>?_,λy hy e=>?_,len,λk j x h1 h2=>?_,λk x h1 h2=>?_⟩
 .have:=List.all_eq_true.mp nocell y hy;rw[e]at this;cases this
 .have:=List.all_eq_true.mp names y hy;rw[e]at this;simpa using this
 .have:=List.all_eq_true.mp free y hy;rw[e]at this;simpa using this
 .have:=capk k (.cap j) x h1 h2;simp only[Bool.and_eq_true,Bool.or_eq_true,beq_iff_eq]at this;exact⟨this.1.1,this.1.2,this.2⟩
 .have:=capk k .acc x h1 h2;simpa using this
theorem Cj{src:List BSrc}(k)(acc:src[k]? =aA .acc)(uni:((cq src.length).all λi=>match src[i]? with
   |some .acc=>i==k
   |_=>aC)=aC):SrcOk src k:=⟨acc,λi h=>by
  have hi:i<src.length:=(a8.mp h).1;have:=List.all_eq_true.mp uni i (cu.mpr hi);rw[h]at this;simpa using this⟩
theorem xg(h:∀Z:Ent X.K,PG X tg (Of Z g)):PG X tg (xG X.K g):=λpins s σ H v u Q I r ⟨Z,q⟩=>h Z pins s σ H v u Q I r q
theorem xe(h:∀Z:Ent X.K,PE X e (Ze Z f)):PE X e (xE X.K f):=λpins s σ H Q I ⟨Z,q⟩=>h Z pins s σ H Q I q
theorem xt(h:∀Z:Ent X.K,PT X e (Yl Z f)):PTs X [e] (xT X.K f):=λpins s σ H Q I ⟨Z,q⟩=>Zhz (h Z) pins s σ H Q I q
theorem xt0:PTs X [] (xT X.K Q7):=λpins s σ H Q I ⟨Z,q⟩=>by obtain⟨F,δ,own,b,δ',sr,e,k⟩:=q;cases e;exact Zhy pins s σ H Q I (k H F own (Zi.refl H) (Zi.refl F) sr)
theorem G2(hc:X.calm=aC)(S:CompScope X N' scope src)(So:SrcOk src k)(hk:k∉g.tch)(hi:PI X tg iter (Qm Z fi))(hg:∀C s₀ H₀ ex,PG (X.block N' scope C s₀ H₀ ex) tg (xG X.K g))(ht:∀C s₀ H₀ ex,PTs (X.block N' scope C s₀ H₀ ex) ifs (xT X.K tt))(he:∀C s₀ H₀ ex,PE (X.block N' scope C s₀ H₀ ex) elt (xE X.K te))(hs:∀x,foldedSetIterable iter X.env x=pure x:=by intro _;rfl):PE X (.ListComp elt [⟨tg,iter,ifs,0⟩] scope pos) (Ze Z (Og src k fi g tt te)):=(Zh0 hc S hi hg ht he hs).imp λ_ _ _ h=>Zd3 So hk h
theorem J2:Ta X [] (Z5 Z Ut):=Zhe.imp λ_ _ _ h=>Zmm h
theorem Zg{st}{rest}(h1:PS X st (Z5 Z f))(h2:Ta X rest (Z5 Z g)):Ta X (st::rest) (Z5 Z (Z4 f g)):=(Zc0 h1 h2).imp λ_ _ _ h=>Zp6 h
theorem Zu{st}(h:PS X st (Z5 Z f)):Ta X [st] (Z5 Z f):=Zhf h
def Zvl:FS:=λ_=>aB
theorem Wu(h:PE X a (Ze Z fa)):PS X (.Return (aA a) pos) (Z5 Z (Jq fa)):=(Zc1 h).imp λ_ _ _ h=>Zp9 h
theorem Tl(hc:PT X c (Yl Z t))(ha:Ta X bt (Z5 Z f))(hb:Ta X be (Z5 Z g)):PS X (.If c bt be pos) (Z5 Z (Xc t f g)):=(Zo4 hc ha hb).imp λ_ _ _ h=>Zp7 h
theorem Yf(i){pos'}(hN:X.N.Nodup)(he:PE X a (Ze Z fa))(hi:X.N[i]? =aA x:=by rfl)(hx:Loc X.env.scope x:=by first|exact Or.inl rfl|exact gw rfl)(hs:swapsWith a (aA (.Name x pos')) pos.line X.env=pure aD:=by rfl)(hf:X.fn x=aC\/X.env.scope.names.lookup x=aA .local:=by first|exact .inl rfl|exact .inr rfl):
  PS X (.Assign [.Name x pos'] a pos) (Z5 Z (Y0 i fa)):=(Zc5 hN hi hx he hs hf).imp λ_ _ _ h=>Zki h
theorem C9(i){py spos}(hc:X.calm=aC)(S:CompScope X N' scope src)(So:SrcOk src k)(hk:k∉g.tch)(hi:PI X tg iter (Qm Z fi))(hg:∀C s₀ H₀ ex,PG (X.block N' scope C s₀ H₀ ex) tg (xG X.K g))(ht:∀C s₀ H₀ ex,PTs (X.block N' scope C s₀ H₀ ex) ifs (xT X.K tt))(he:∀C s₀ H₀ ex,PE (X.block N' scope C s₀ H₀ ex) elt (xE X.K te))(hN:X.N.Nodup)(hiy:X.N[i]? =aA y:=by rfl)(hx:X.env.scope.names.lookup y=aA .local:=by rfl)(hsw:swapsWith (.ListComp elt [⟨tg,iter,ifs,0⟩] scope pos) (aA (.Name y py)) spos.line X.env=pure aC:=by rfl)(hs:∀x,foldedSetIterable iter X.env x=pure x:=by intro _;rfl):PS X (.Assign [.Name y py] (.ListComp elt [⟨tg,iter,ifs,0⟩] scope pos) spos) (Z5 Z (Y0 i (Og src k fi g tt te))):=
 (Xa hc S hi hg ht he hN hiy hx hsw hs).imp λD σ H h=>by obtain⟨F,δ,own,rv,δ',s,e,q⟩:=Zki h;exact Zd3 So hk ⟨F,δ,own,rv,δ',s,e,q⟩
theorem Zd9(he:PE X a (Ze Z fa))(hg:PG X tg (Of Z g))(hs:swapsWithSole [tg] a pos.line X.env=pure aD:=by rfl)(hw:swappedStores [tg] a X.env=pure aB:=by rfl)(h1:(assignEach [tg] X.env).map (·.2)=[assign tg X.env]:=by rfl):
  PS X (.Assign [tg] a pos) (Z5 Z (L3 g fa)):=(Zc4 he hg hs hw h1).imp λ_ _ _ h=>Zd0 h
theorem Wx(hp:PassesOwn (b4 X.prog X.w) X.A X.env X.xe)(hc:X.calm=aC)(hi:PI X tg iter (Qm Z fi))(hg:PG X tg (Of Z g))(hb:Ta X body (Z5 Z f))(hs:∀x,foldedSetIterable iter X.env x=pure x:=by intro _;rfl):
  PS X (.For tg iter body [] pos) (Z5 Z (J1 fi g f)):=(Zl4 hp hc hi hg hb hs).imp λ_ _ _ h=>Zqc h
theorem Zig(n)(hp:PassesOwn (b4 X.prog X.w) X.A X.env X.xe)(hc:PT X c (Yl Z t))(hb:Ta X body (Z5 Z f)):PS X (.While c body [] pos) (Z5 Z (Uu t f n)):=(Zc7 hp hc hb).imp λ_ _ _ h=>Zh6 h
theorem Gu(i){px apos cpos}(hb:PE X b (Ze Z fb))(hN:X.N[i]? =aA x:=by rfl)(hv:Vs X.env.scope x:=by first|exact Or.inl rfl|exact gw (Or.inl rfl)|exact gw (gw rfl))(hd:(x==("__debug__":Str))=aD:=by decide)(hcd:(x==("__classdict__":Str))=aD:=by decide)(hbase:attributeBase (.Name x px) "append" X.env (gp (.Name x px) X.env)=gp (.Name x px) X.env:=by rfl)(hfew:((gq cpos (a9 [b] X.env)).all (λx=>!x.1)&&(backToKw cpos (keywordEach [] X.env)).all (λx=>x.1.isSome)&&decide ([b].length+([]:List Keyword).length+(if([]:List Keyword).isEmpty then 0 else 1)<30))=aC:=by rfl)(hline:(apos.endLine==cpos.line)=aC:=by rfl)(hs:a9 [b] X.env=(aD,gp b X.env)::a9 [] X.env:=by rfl)(hpl:(gq cpos (a9 [] X.env)).any (·.1)=aD:=by rfl)(hsw:swapsWith (.Call (.Attribute (.Name x px) "append" apos) [b] [] cpos) aB pos.line X.env=pure aD:=by rfl):
  PS X (.Expr (.Call (.Attribute (.Name x px) "append" apos) [b] [] cpos) pos) (Z5 Z (Rq i fb)):=
 (Tt (Hz PySem.F.plainAttrs_list PySem.F.slot_list_append PySem.F.type_list_append Mg (Jy (i:=i) hN hv hd hcd) (Jf hb Bj hs) hbase hfew hline hs hpl) hsw).imp λ_ _ _ h=>Zqd h
end
@[simp]def Qa(f:FS)(n:Nat)(ds:List D):Option SV:=match f (Ao n ds)with
 |some (.rt sv)=>aA sv
 |some (.nx _)=>aA (.fz .non)
 |_=>aB
theorem Zea(h:Y1 K n (Qa f N.length) vs H Q E):∃F,Z5 (ent H F:Ent K) f {nx:=λ_ H'=>Q .non H',rt:=Q} (L2.Ca N vs) H:=by
 obtain⟨F,ds,sv,le,r,hn,e,k⟩:=h;unfold Qa at e;split at e
 .rename_i sw hf;cases e;exact⟨F,F,_,_,.rt sv,P5 (N:=N) le r,hf,λv H' F' ns a b c d e' nd ok=>k v H' F' ns d a b c e' nd ok⟩
 .rename_i δ hf;cases e;exact⟨F,F,_,_,.nx δ,P5 (N:=N) le r,hf,λσ' H' F' own' a s'=>k .non H' F' [] s'.old a s'.le s'.fro (.fz .non) df λ_ h=>(nomatch h)⟩
 .cases e
def Zxy(K:ad):Sp:=λvs H Q _=>∃(a:aj) (ns:List Int),vs=[.ref a]/\W5 K H a (ns.map V.int)/\ns.length<=63/\∀H',Q (.bl aC) H'
theorem P7:∀ns:List Int,Reps K F (ns.map D.int) (ns.map V.int)
 | []=>.nil
 |n::r=>.cons (.int n) (P7 r)
end DL
namespace DL
open PySem PySem.Spec PyProof.Rows L2
variable{K:ad}
@[simp]noncomputable def Ba(f:D->D->Option Bool):List D->List D->Option Bool
 |x::xs,y::ys=>(f x y).bind λb=>(Ba f xs ys).bind λc=>aA (b&&c)
 |_,_=>aA aC
@[simp]def G3(f:D->D->Option Bool):D->D->Option Bool
 | .lst xs,.lst ys=>if xs.length=ys.length then Ba f xs ys else aA aD
 | .tup xs,.tup ys=>(Ba f xs ys).bind λb=>aA (b&&decide (xs.length=ys.length))
 | .lst _,.tup _=>aA aD
 | .tup _,.lst _=>aA aD
 |d1,d2=>eqS d1 d2
@[simp]def We:Nat->D->D->Option Bool
 |0=>λ_ _=>aB
 |n+1=>G3 (We n)
theorem Aq(e:eqS d1 d2=aA b)(r1:Yi K F H d1 x)(r2:Yi K F H d2 y):Y2 x=aC/\Y2 y=aC/\b=Pu x y:=by unfold eqS at e;split at e<;> cases e<;> (first|obtain rfl:=r1.non|obtain rfl:=r1.int|obtain rfl:=r1.bl|obtain rfl:=r1.str)<;> (first|obtain rfl:=r2.non|obtain rfl:=r2.int|obtain rfl:=r2.bl|obtain rfl:=r2.str)<;> refine⟨rfl,rfl,?_⟩<;> first|rfl|simp[Pu]
section
variable{X:Cx}{pins:List (aj×Obj)}{σ:L2.St}{F H:Hp}{s:am}
theorem Zeb(rx:Zy x v)(ry:Zy y v)(fx:Y2 x=aC)(fy:Y2 y=aC):Pu x y=aC:=by
 cases x with
 |non=>cases rx;cases y with
  |non=>rfl
  |bl b=>cases ry
  |int b=>obtain⟨t,e⟩:=ry;cases e
  |str b=>obtain⟨t,e⟩:=ry;cases e
  |_=>cases fy
 |bl a=>cases rx;cases y with
  |non=>cases ry
  |bl b=>cases ry;simp[Pu]
  |int b=>obtain⟨t,e⟩:=ry;cases e
  |str b=>obtain⟨t,e⟩:=ry;cases e
  |_=>cases fy
 |int a=>obtain⟨t,rfl⟩:=rx;cases y with
  |non=>cases ry
  |bl b=>cases ry
  |int b=>obtain⟨t,e⟩:=ry;cases e;simp[Pu]
  |str b=>obtain⟨t,e⟩:=ry;cases e
  |_=>cases fy
 |str a=>obtain⟨t,rfl⟩:=rx;cases y with
  |non=>cases ry
  |bl b=>cases ry
  |int b=>obtain⟨t,e⟩:=ry;cases e
  |str b=>obtain⟨t,e⟩:=ry;cases e;simp[Pu]
  |_=>cases fy
 |_=>cases fx
theorem Xg{h:d6}(h1:h.IsList a i1)(h2:h.IsList a i2):i1=i2:=by obtain⟨o,e1,c1,n1,d1⟩:=h1;obtain⟨o2,e2,c2,n2,d2⟩:=h2;rw[e1]at e2;cases e2;rw[d1]at d2;cases d2;rfl
theorem P8{h:d6}(h1:h.IsTuple a i1)(h2:h.IsTuple a i2):i1=i2:=by obtain⟨o,e1,c1,n1,d1⟩:=h1;obtain⟨o2,e2,c2,n2,d2⟩:=h2;rw[e1]at e2;cases e2;rw[d1]at d2;cases d2;rfl
theorem Dg(hf:∀d1 d2 b x y v,Rep X.K F d1 x->Zy x v->Rep X.K F d2 y->Zy y v->f d1 d2=aA b->b=aC):∀{ys:List D} {vs ws:List V} {us:List ah} {b:Bool},Reps X.K F xs vs->Z2 vs us->Reps X.K F ys ws->Z2 ws us->Ba f xs ys=aA b->b=aC:=by
 induction xs with
 |nil=>intro ys vs ws us b _ _ _ _ e;cases e;rfl
 |cons x xs ih=>
  intro ys vs ws us b r1 v1 r2 v2 e;cases r1 with
  |cons h1 t1=>
   cases v1 with
   |cons a1 w1=>
    cases v2 with
    |cons a2 w2=>
     cases r2 with
     |cons h2 t2=>obtain⟨b,e1,e2⟩:=aa.mp e;obtain⟨c,e3,e4⟩:=aa.mp e2;cases e4;rw[hf _ _ _ _ _ _ h1 a1 h2 a2 e1,ih t1 w1 t2 w2 e3];rfl
theorem Zbs(I:Inv X pins σ H s)(le:Zi F H)(ih:∀d1 d2 b x y v,Rep X.K F d1 x->Zy x v->Rep X.K F d2 y->Zy y v->f d1 d2=aA b->b=aC)(d1 d2 b x y v)(r1:Rep X.K F d1 x)(v1:Zy x v)(r2:Rep X.K F d2 y)(v2:Zy y v)(e:G3 f d1 d2=aA b):b=aC:=by
  unfold G3 at e;split at e
  .rename_i xs ys;cases r1 with
   |lst q1 _ p1=>
   cases r2 with
   |lst q2 _ p2=>
   cases v1;cases v2;obtain⟨i1,w1,l1,_⟩:=I.list (Wb le q1);obtain⟨i2,w2,l2,_⟩:=I.list (Wb le q2);have z:=Xg l1.isList l2.isList;have z:i1=i2:=by simpa using z
   subst z;split at e
   .exact Dg (ih) p1 w1 p2 w2 e
   .rename_i hl;have h1:=w1.length;have h2:=w2.length;have h3:=p1.length;have h4:=p2.length;exact absurd (by omega) hl
  .rename_i xs ys;cases r1 with
   |tup q1 p1=>
   cases r2 with
   |tup q2 p2=>
   cases v1;cases v2;obtain⟨i1,w1,l1,_⟩:=I.tuple (Qf le (Gr q1));obtain⟨i2,w2,l2,_⟩:=I.tuple (Qf le (Gr q2));have z:=P8 l1 l2;have z:i1=i2:=by simpa using z
   subst z;obtain⟨c,e1,e2⟩:=aa.mp e;cases e2;have h1:=w1.length;have h2:=w2.length;have h3:=p1.length;have h4:=p2.length;rw[Dg (ih) p1 w1 p2 w2 e1,decide_eq_true (by omega)];rfl
  .cases r1 with
   |lst q1 _ p1=>
   cases r2 with
   |tup q2 p2=>
   cases v1;cases v2;obtain⟨i1,w1,l1,_⟩:=I.list (Wb le q1);obtain⟨i2,w2,l2,_⟩:=I.tuple (Qf le (Gr q2));exact absurd rfl (SeqAt.ne_of_list_tuple (s:=s) l1.isList l2)
  .cases r1 with
   |tup q1 p1=>
   cases r2 with
   |lst q2 _ p2=>
   cases v1;cases v2;obtain⟨i1,w1,l1,_⟩:=I.tuple (Qf le (Gr q1));obtain⟨i2,w2,l2,_⟩:=I.list (Wb le q2);exact absurd rfl (SeqAt.ne_of_list_tuple (s:=s) l2.isList l1)
  .obtain⟨f1,f2,rfl⟩:=Aq (H:=H) e (Yi.of r1) (Yi.of r2);exact Zeb v1 v2 f1 f2
theorem P9(I:Inv X pins σ H s)(le:Zi F H):∀n d1 d2 b x y v,Rep X.K F d1 x->Zy x v->Rep X.K F d2 y->Zy y v->We n d1 d2=aA b->b=aC
 |0,_,_,_,_,_,_,_,_,_,_,e=>by cases e
 |n+1,d1,d2,b,x,y,v,r1,v1,r2,v2,e=>Zbs I le (P9 I le n) d1 d2 b x y v r1 v1 r2 v2 e
theorem Sa(hf:∀d1 d2 b x y v u,Rep X.K F d1 x->Zy x v->Rep X.K F d2 y->Zy y u->f d1 d2=aA b->SeqAt.EqAt A s v u b):∀{ys:List D} {vs ws:List V} {us zs:List ah} {b:Bool},Reps X.K F xs vs->Z2 vs us->Reps X.K F ys ws->Z2 ws zs->Ba f xs ys=aA b->
  ∃e,(∀j h1 (h2:j<zs.length),SeqAt.EqAt A s us[j] zs[j] (e j))/\(cq (min us.length zs.length)).all e=b:=by
 induction xs with
 |nil=>intro ys vs ws us zs b r1 v1 _ _ e;cases r1;cases v1;cases e;exact⟨λ_=>aC,λj h1=>absurd h1 (dz _),by rw[List.length_nil,Nat.zero_min];rfl⟩
 |cons x xs ih=>
  intro ys vs ws us zs b r1 v1 r2 v2 e;cases r1 with
  |cons h1 t1=>
   cases v1 with
   |cons a1 w1=>
    cases v2 with
    |nil=>cases r2;cases e;exact⟨λ_=>aC,λj _ h2=>absurd h2 (dz _),by rw[List.length_nil,Nat.min_zero];rfl⟩
    |cons a2 w2=>
     cases r2 with
     |cons h2 t2=>
      obtain⟨b,e1,e2⟩:=aa.mp e;obtain⟨c,e3,e4⟩:=aa.mp e2;cases e4;obtain⟨g,g1,g2⟩:=ih t1 w1 t2 w2 e3;refine⟨λj=>Nat.casesOn j b g,λj h1 h2=>?_,?_⟩
      .cases j with
       |zero=>exact hf _ _ _ _ _ _ _ ‹_› a1 ‹_› a2 e1
       |succ j=>exact g1 j (Nat.lt_of_succ_lt_succ h1) (Nat.lt_of_succ_lt_succ h2)
      .rw[bf,bf,Nat.succ_min_succ,List.range_succ_eq_map,List.all_cons,List.all_map,<-g2];rfl
theorem rcN(I:Inv X pins σ H s)(le:Zi F H)(ih:∀d1 d2 b x y v u,Rep X.K F d1 x->Zy x v->Rep X.K F d2 y->Zy y u->f d1 d2=aA b->SeqAt.EqAt A.in1 s v u b)(r1:Yi X.K F H d1 x)(v1:Zy x v)(r2:Yi X.K F H d2 y)(v2:Zy y u)(e:G3 f d1 d2=aA b)(hu:A.units<f6)(hr:Y2 x=aD\/Y2 y=aD):(∃a c,v= .ref a/\u= .ref c)/\SeqAt.RcAt A s v u b/\SeqAt.RcNeAt A s v u (!b):=by
 unfold G3 at e;split at e
 .obtain⟨a1,vs1,rfl,q1,p1⟩:=r1.lst le;obtain⟨a2,vs2,rfl,q2,p2⟩:=r2.lst le;cases v1;cases v2;obtain⟨i1,w1,l1,_⟩:=I.list q1;obtain⟨i2,w2,l2,_⟩:=I.list q2;have h1:=w1.length;have h2:=w2.length;have h3:=p1.length;have h4:=p2.length;refine⟨⟨_,_,rfl,rfl⟩,?_⟩;split at e
  .rename_i hl;obtain⟨g,g1,g2⟩:=Sa ih p1 w1 p2 w2 e;have hm:min i1.length i2.length=i1.toArray.size:=by simp;omega
   rw[hm]at g2;subst g2;have hz:i1.toArray.size=i2.toArray.size:=by simp;omega
   exact⟨SeqAt.RcAt.lists l1.isList l2.isList hz hu (λj j1 j2=>by simpa using g1 j (by simpa using j1) (by simpa using j2)),SeqAt.RcNeAt.lists l1.isList l2.isList hz hu (λj j1 j2=>by simpa using g1 j (by simpa using j1) (by simpa using j2))⟩
  .rename_i hl;cases e;have hz:(i1.toArray.size !=i2.toArray.size)=aC:=by simp;omega
   exact⟨SeqAt.RcAt.lists_lengths l1.isList l2.isList hz hu,SeqAt.RcNeAt.lists_lengths l1.isList l2.isList hz hu⟩
 .rename_i xs ys;obtain⟨a1,vs1,rfl,q1,p1⟩:=r1.tup le;obtain⟨a2,vs2,rfl,q2,p2⟩:=r2.tup le;cases v1;cases v2;obtain⟨i1,w1,l1,_⟩:=I.tuple q1;obtain⟨i2,w2,l2,_⟩:=I.tuple q2;have h1:=w1.length;have h2:=w2.length;have h3:=p1.length;have h4:=p2.length;obtain⟨c,e1,e2⟩:=aa.mp e;cases e2;refine⟨⟨_,_,rfl,rfl⟩,?_⟩;obtain⟨g,g1,g2⟩:=Sa ih p1 w1 p2 w2 e1;subst g2;have e3:((cq (min i1.length i2.length)).all g&&decide (xs.length=ys.length))=((cq (min i1.toArray.size i2.toArray.size)).all g&&i1.toArray.size==i2.toArray.size):=by
   have:(i1.toArray.size==i2.toArray.size)=decide (xs.length=ys.length):=by rw[bq,bq,<-h1,<-h2,<-h3,<-h4];rfl
   rw[this];simp
  rw[e3];exact⟨SeqAt.RcAt.tuples l1 l2 hu (λj j1 j2=>by simpa using g1 j (by simpa using j1) (by simpa using j2)),SeqAt.RcNeAt.tuples l1 l2 hu (λj j1 j2=>by simpa using g1 j (by simpa using j1) (by simpa using j2))⟩
 .obtain⟨a1,vs1,rfl,q1,p1⟩:=r1.lst le;obtain⟨a2,vs2,rfl,q2,p2⟩:=r2.tup le;cases v1;cases v2;cases e;obtain⟨i1,w1,l1,_⟩:=I.list q1;obtain⟨i2,w2,l2,_⟩:=I.tuple q2;exact⟨⟨_,_,rfl,rfl⟩,SeqAt.RcAt.list_tuple l1.isList l2 hu,SeqAt.RcNeAt.list_tuple l1.isList l2 hu⟩
 .obtain⟨a1,vs1,rfl,q1,p1⟩:=r1.tup le;obtain⟨a2,vs2,rfl,q2,p2⟩:=r2.lst le;cases v1;cases v2;cases e;obtain⟨i1,w1,l1,_⟩:=I.tuple q1;obtain⟨i2,w2,l2,_⟩:=I.list q2;exact⟨⟨_,_,rfl,rfl⟩,SeqAt.RcAt.tuple_list l1 l2.isList hu,SeqAt.RcNeAt.tuple_list l1 l2.isList hu⟩
 .obtain⟨f1,f2,_⟩:=Aq e r1 r2;rcases hr with hr|hr
  .rw[f1]at hr;cases hr
  .rw[f2]at hr;cases hr
theorem Mn(I:Inv X pins σ H s)(le:Zi F H):∀n A d1 d2 b x y v u,A.units+n<f6->Rep X.K F d1 x->Zy x v->Rep X.K F d2 y->Zy y u->We n d1 d2=aA b->SeqAt.EqAt A s v u b
 |0,_,_,_,_,_,_,_,_,_,_,_,_,_,e=>by cases e
 |n+1,A,d1,d2,b,x,y,v,u,hu,r1,v1,r2,v2,e=>by
  by_cases hf:Y2 x=aC/\Y2 y=aC
  .have e':eqS d1 d2=aA b:=by
    unfold We G3 at e;split at e
    .cases r1;cases hf.1
    .cases r1;cases hf.1
    .cases r1;cases hf.1
    .cases r1;cases hf.1
    .exact e
   obtain⟨f1,f2,rfl⟩:=Aq (H:=H) e' (Yi.of r1) (Yi.of r2);exact Zdi v1 v2 f1 f2
  .have hf':Y2 x=aD\/Y2 y=aD:=by
    cases h1:Y2 x with
    |false=>exact .inl rfl
    |true=>cases h2:Y2 y with
     |false=>exact .inr rfl
     |true=>exact absurd ⟨h1,h2⟩ hf
   obtain⟨⟨a,c,rfl,rfl⟩,h1,_⟩:=rcN I le (A:=A) (f:=We n) (λd1 d2 b x y v u q1 w1 q2 w2 e=>Mn I le n A.in1 d1 d2 b x y v u (by have:A.in1.units=A.units+1:=rfl;omega) q1 w1 q2 w2 e) (Yi.of r1) v1 (Yi.of r2) v2 e (by omega) hf';by_cases hac:a=c
   .subst hac;rw[P9 I le (n+1) d1 d2 b x y _ r1 v1 r2 v2 e];exact SeqAt.EqAt.same _
   .exact SeqAt.EqAt.of_refs hac h1
def Zih(K:ad)(neg:Bool):R2:=λx y H Q=>∃F d1 d2 b,Zi F H/\Yi K F H d1 x/\Yi K F H d2 y/\We 48 d1 d2=aA b/\(Y2 x=aD\/Y2 y=aD)/\Q (.bl (if neg then !b else b)) H
theorem Zec(hu:X.A.units+64<f6):Cf X (g9 .Eq) (Zih X.K aD):=by intro pins s σ H x y v u Q I rx ry h;obtain⟨F,d1,d2,b,le,r1,r2,e,hf,q⟩:=h;obtain⟨_,h1,_⟩:=rcN I le (A:=X.A) (f:=We 47) (λd1 d2 b x y v u q1 w1 q2 w2 e=>Mn I le 47 X.A.in1 d1 d2 b x y v u (by have:X.A.in1.units=X.A.units+1:=rfl;omega) q1 w1 q2 w2 e) r1 rx r2 ry e (by omega) hf;exact h1 X.prog X.w X.xe _ ⟨.bl b,H,I,rfl,q⟩
theorem Zmx(hu:X.A.units+64<f6):Cf X (g9 .NotEq) (Zih X.K aC):=by intro pins s σ H x y v u Q I rx ry h;obtain⟨F,d1,d2,b,le,r1,r2,e,hf,q⟩:=h;obtain⟨_,_,h1⟩:=rcN I le (A:=X.A) (f:=We 47) (λd1 d2 b x y v u q1 w1 q2 w2 e=>Mn I le 47 X.A.in1 d1 d2 b x y v u (by have:X.A.in1.units=X.A.units+1:=rfl;omega) q1 w1 q2 w2 e) r1 rx r2 ry e (by omega) hf;exact h1 X.prog X.w X.xe _ ⟨.bl !b,H,I,rfl,q⟩
end
@[simp]noncomputable def D.isFlat:D->Bool
 | .non=>aC| .bl _=>aC| .int _=>aC| .str _=>aC|_=>aD
@[simp]def eqX(d1 d2:D):Option SV:=if d1.isFlat=true/\d2.isFlat=true then eqD d1 d2 else(We 48 d1 d2).bind λb=>some (.fz (.bl b))
@[simp]def neX(d1 d2:D):Option SV:=if d1.isFlat=true/\d2.isFlat=true then neD d1 d2 else(We 48 d1 d2).bind λb=>some (.fz (.bl !b))
theorem Bo(r:Yi K F H d x)(h:d.isFlat=aD):Y2 x=aD:=by
 obtain⟨sv,ns,e,n,sh,hp⟩:=r;cases sh with
 |fz r=>cases e;cases r<;> first|rfl|cases h
 |ol r=>rfl
 |oK e' r=>rfl
 |oT kb e' r=>rfl
 |oN e' r=>rfl
 |oX kb' e' r=>rfl
 |oD r=>rfl
 |oM kb' e' r=>rfl
 |oL _ r=>rfl
 |oQ e' r=>rfl
section
variable{Z:Ent K}
theorem Zkt:Y7 Z (λx y H Q=>rEq x y H Q\/Zih K aD x y H Q) eqX:=by
 intro F H σ δ own x y d1 d2 sv Q s r1 r2 e k;unfold eqX at e;split at e
 .exact .inl (Zvd F H σ δ own x y d1 d2 sv Q s r1 r2 e k)
 .rename_i hf;obtain⟨b,e1,e2⟩:=aa.mp e;cases e2;refine .inr ⟨F,d1,d2,b,s.le,r1,r2,e1,?_,k.fz s (.bl _)⟩;cases h1:d1.isFlat with
  |false=>exact .inl (Bo r1 h1)
  |true=>cases h2:d2.isFlat with
   |false=>exact .inr (Bo r2 h2)
   |true=>exact absurd ⟨h1,h2⟩ hf
theorem Zqv:Y7 Z (λx y H Q=>rNe x y H Q\/Zih K aC x y H Q) neX:=by
 intro F H σ δ own x y d1 d2 sv Q s r1 r2 e k;unfold neX at e;split at e
 .exact .inl (Zve F H σ δ own x y d1 d2 sv Q s r1 r2 e k)
 .rename_i hf;obtain⟨b,e1,e2⟩:=aa.mp e;cases e2;refine .inr ⟨F,d1,d2,b,s.le,r1,r2,e1,?_,k.fz s (.bl _)⟩;cases h1:d1.isFlat with
  |false=>exact .inl (Bo r1 h1)
  |true=>cases h2:d2.isFlat with
   |false=>exact .inr (Bo r2 h2)
   |true=>exact absurd ⟨h1,h2⟩ hf
@[simp]noncomputable def Z0a:D->Option SV
 | .int i=>aA (.fz (.int (-i)))
 |_=>aB
end
section
variable{X:Cx}{Z:Ent X.K}{a b c:cj}{fa fb fc:FE}{pos:Pos}
theorem Dh(hv:X.A.units+64<f6)(ha:PE X a (Ze Z fa))(hb:PE X b (Ze Z fb)):PE X (.Compare a [.Eq] [b] pos) (Ze Z (Zm eqX fa fb)):=Zkq (Zj7.or (Zec hv)) Zkt ha hb (Ad _)
theorem Zku(hv:X.A.units+64<f6)(ha:PE X a (Ze Z fa))(hb:PE X b (Ze Z fb)):PT X (.Compare a [.Eq] [b] pos) (Yl Z (Ys (Zm eqX fa fb))):=Kb (Zj7.or (Zec hv)) Zkt ha hb (Ad _)
theorem Rt(hv:X.A.units+64<f6)(ha:PE X a (Ze Z fa))(hb:PE X b (Ze Z fb)):PT X (.Compare a [.NotEq] [b] pos) (Yl Z (Ys (Zm neX fa fb))):=Kb (Zpg.or (Zmx hv)) Zqv ha hb (Ad _)
end
end DL
namespace L2
open PySem PySem.Spec PyProof.Rows
section
variable{X:Cx}{tg:cj}
noncomputable def Its(z:Str):It:=⟨λi _=>i<z.length,λi H x H'=>H'=H/\∃c,z.cps[i]? =aA c/\x= .str ⟨#[c]⟩,λi _=>z.length<=i⟩
theorem Zbu{P:b6}{w:c7}{K:ad}{tg:cj}(z:Str)(t:Tok)(it:aj):Turn P w K tg (Its z) [it] it (λi h=>h.IsStrIter it (h9 z) z t i)where
 mem:=by simp
 obj:=λi h st b hb=>by
  have e:b=it:=by simpa using hb
  subst e;obtain⟨o,e,c,d⟩:=st;exact⟨o,e,λv q=>by rw[d]at q;cases q⟩
 keep:=λi h h' st k=>by obtain⟨o,e,c,d⟩:=st;exact⟨o,k it (by simp) o e,c,d⟩
 item:=by
  intro X hP hw hK hc i pins s σ H E I hf st hg;subst hP hw hK;obtain⟨f0,f1,f2,f3,f4,f5⟩:=hf it (by simp);have hlt:i<z.cps.size:=hg;have hx:z.cps[i]? =aA z.cps[i]:=by simp[hlt]
  have fin:∀h',h'.IsStrIter it (h9 z) z t (i+1)->io it s.heap h'->∃u,aA (Value.str ⟨#[z.cps[i]]⟩ s.toks)=aA u/\bg (b4 X.prog X.w) X.A (letOwnedTupleGo tg (.ref it) u) (λ_ s2=>∃x H',Inv X pins σ H' s2/\Zy x u/\(Its z).yld i H x H'/\s2.heap.IsStrIter it (h9 z) z t (i+1)/\∀b∈[it],H' b=aB) E {s with heap:=h',toks:=s.toks+1}:=λh' st' sb=>by
   have I1:Inv X pins σ H {s with heap:=h',toks:=s.toks+1}:=I.turned (t':=s.toks+1) (λb o hb q=>(sb.2 b hb).trans q) f0 f1 f3 f4 f5;obtain⟨o,e,c,d⟩:=id st';have hn:["enumerate","zip","dict_itemiterator","dict_reverseitemiterator","odict_iterator","itertools.zip_longest","itertools.pairwise"].contains (h9 z)=aD:=by unfold h9;split<;> decide
   exact⟨_,rfl,Ab (s:={s with heap:=h',toks:=s.toks+1}) e c d hn ⟨.str ⟨#[z.cps[i]]⟩,H,I1,⟨_,rfl⟩,⟨rfl,_,hx,rfl⟩,st',λb hb=>(hf b hb).1⟩⟩
  cases ha:z.cps.all (· <128)with
  |false=>
   have et:h9 z="str_iterator":=by unfold h9;rw[ha];rfl
   rw[et]at st fin;rw[et];exact wpAny_pyNext_wide_item st hx fin
  |true=>
   have et:h9 z="str_ascii_iterator":=by unfold h9;rw[ha];rfl
   rw[et]at st fin;rw[et];exact wpAny_pyNext_ascii_item st hx fin
 done:=by
  intro X hP hw hK hc i pins s σ H E I hf st hg;subst hP hw hK;obtain⟨f0,f1,f2,f3,f4,f5⟩:=hf it (by simp);have hge:z.cps.size<=i:=hg;have hx:z.cps[i]? =aB:=by simp[hge]
  cases ha:z.cps.all (· <128)with
  |false=>
   have et:h9 z="str_iterator":=by unfold h9;rw[ha];rfl
   rw[et]at st;exact wpAny_pyNext_wide_end (I.ok.hd hc) st hx λh' eb=>⟨rfl,I.turned (t':=s.toks) (λb o hb q=>eb b o hb q) f0 f1 f3 f4 f5⟩
  |true=>
   have et:h9 z="str_ascii_iterator":=by unfold h9;rw[ha];rfl
   rw[et]at st;exact wpAny_pyNext_ascii_end (I.ok.hd hc) st hx λh' eb=>⟨rfl,I.turned (t':=s.toks) (λb o hb q=>eb b o hb q) f0 f1 f3 f4 f5⟩
 self:=λ_ _ _ _ _ st h=>by
  cases ha:z.cps.all (· <128)with
  |false=>
   have et:h9 z="str_iterator":=by unfold h9;rw[ha];rfl
   rw[et]at st;exact wpAny_pyIter_striter_wide st h
  |true=>
   have et:h9 z="str_ascii_iterator":=by unfold h9;rw[ha];rfl
   rw[et]at st;exact wpAny_pyIter_striter_ascii st h
def Zqw(K:ad)(tl:TE):TI:=λσ H R=>tl σ H λx H1=>(∃a,x= .ref a/\(∃xs,W5 K H1 a xs)/\R (Itl K a) H1)\/(∃a,x= .ref a/\(∃xs,Ob K H1 a xs)/\R (Itt K a) H1)\/(∃z,x= .str z/\R (Its z) H1)
theorem Zmy(hl:PE X l tl):PI X tg l (Zqw X.K tl):=by
 intro pins s σ H R I h;refine Wp (hl pins s σ H _ I h) λv s1 zq9=>?_;obtain⟨x,H1,I1,r1,q1⟩:=zq9;rcases q1 with⟨a,e,⟨xs,hq⟩,q⟩|⟨a,e,⟨xs,hq⟩,q⟩|⟨z,e,q⟩
 .subst e;cases r1;obtain⟨its,rv,p,hz⟩:=I1.list hq;refine wpAny_pyIter_list p.isList ?_;refine⟨s1.heap.objs.size,[s1.heap.objs.size],_,_,H1,rfl,I1.kept (t':=s1.toks) λb o e=>au _ e,Zbb a _,⟨_,bp _ rfl,rfl,rfl⟩,λb hb=>?_,q⟩;have e:b=s1.heap.objs.size:=by simpa using hb
  subst e;exact I1.fpOk (ba _) (I1.hok.fresh (ba _))
 .subst e;cases r1;obtain⟨its,rv,p,hz⟩:=I1.tuple hq;refine wpAny_pyIter_tuple (show s1.heap.IsTuple a its.toArray from p) ?_;refine⟨s1.heap.objs.size,[s1.heap.objs.size],_,_,H1,rfl,I1.kept (t':=s1.toks) λb o e=>au _ e,Vy a _,⟨_,bp _ rfl,rfl,rfl⟩,λb hb=>?_,q⟩;have e:b=s1.heap.objs.size:=by simpa using hb
  subst e;exact I1.fpOk (ba _) (I1.hok.fresh (ba _))
 .subst e;obtain⟨t,rfl⟩:=r1;refine wpAny_pyIter_strU ?_;refine⟨s1.heap.objs.size,[s1.heap.objs.size],_,_,H1,rfl,I1.kept (t':=s1.toks) λb o e=>au _ e,Zbu z t _,⟨_,bp _ rfl,rfl,rfl⟩,λb hb=>?_,q⟩;have e:b=s1.heap.objs.size:=by simpa using hb
  subst e;exact I1.fpOk (ba _) (I1.hok.fresh (ba _))
def Zvn:V->List V->Hp->VK->Prop:=λx xs H Q=>∃a b,x= .str a/\xs=[.str b]/\(b.length==0)=aD/\a.length<=sizeLine/\(Txt.split a b).length<=sizeLine/\∀p,H p=aB->Q (.ref p) (Z9 H p (.lst ((Txt.split a b).map V.str)))
def Zxz:V->List V->Hp->VK->Prop:=λx xs H Q=>∃a b,x= .str a/\xs=[.str b]/\(b.length==0)=aD/\a.length<=sizeLine/\∀p,H p=aB->Q (.ref p) (Z9 H p (.tup [.str (Txt.partition a b).1,.str (Txt.partition a b).2.1,.str (Txt.partition a b).2.2]))
def Zqx(K:ad):List V->Hp->VK->Prop:=λxs H Q=>∃(p:aj) (bs:List Bool),xs=[.ref p]/\W5 K H p (bs.map V.bl)/\Q (.bl (bs.all id)) H
theorem Sb:∀{bs:List Bool} {us:List ah},Z2 (bs.map V.bl) us->us=bs.map Value.bool
 | [],_,r=>by rw[List.map_nil]at r;cases r;rfl
 |b::bs,_,r=>by
  rw[bc]at r;cases r with
  |cons h t=>cases(show _=Value.bool b from h);rw[Sb t];rfl
theorem Kd:∀bs:List Bool,(cq bs.length).all (λi=>(bs[i]?).getD aC)=bs.all id
 | []=>rfl
 |b::bs=>by rw[bf,List.range_succ_eq_map,List.all_cons,List.all_map,List.all_cons,<-Kd bs];rfl
theorem Zee(hc:X.calm=aC):Jo X (.builtin "all") (Zqx X.K):=by
 intro pins s σ H xs us Q I rs h;obtain⟨p,bs,rfl,hq,q⟩:=h;obtain⟨u,rfl,ru⟩:=Oc rs;cases ru;obtain⟨its,rv,pl,hz⟩:=I.list hq;have e:=Sb rv;subst e;refine call_all_walk (wpAny_pyIter_list pl.isList ?_);have hne:p≠s.heap.objs.size:=λz=>by obtain⟨o,ho,_⟩:=pl.isList;have:=bo ho;rw[z]at this;exact ii _ this
 refine⟨s.heap.objs.size,_,_,_,_,_,λi=>(bs[i]?).getD aC,rfl,Walks.list (by first|exact I.ok.hd hc| (rw[show X.A.in1.handled=X.A.handled from rfl];exact I.ok.hd hc)) _ p hne (bs.map Value.bool).toArray,⟨⟨_,bp _ rfl,rfl,rfl⟩,pl.isList.at λo e=>au _ e⟩,?_,λh' tk hk=>?_⟩
 .intro i v s' Q' E' hP hQ;have hP':(bs.map Value.bool)[i]? =aA v:=by simpa using hP
  rw[az]at hP';cases hb:bs[i]? with
  |none=>rw[hb]at hP';cases hP'
  |some b=>rw[hb]at hP';cases hP';dsimp only at hQ;rw[hb]at hQ;exact wpAny_truthy_bool hQ
 .have e:(cq (bs.map Value.bool).toArray.size).all (λi=>(bs[i]?).getD aC)=bs.all id:=by rw[bq,aq];exact Kd bs
  rw[e];refine⟨.bl _,H,I.kept (t':=tk) λb o hb=>hk b o (λz=>?_) (au _ hb),rfl,q⟩;have z':b=s.heap.objs.size:=by simpa using z
  have:=bo hb;rw[z']at this;exact ii _ this
end
end L2
namespace DL
open PySem PySem.Spec PyProof.Rows L2
variable{K:ad}
noncomputable def Sc(z:Str):List D:=z.cps.toList.map λc=>.str ⟨#[c]⟩
theorem Sd:Oq K (Its z) F (Sc z):=λF' H sF sH i=>by
 have hl:(Sc z).length=z.length:=by unfold Sc;rw[aq];rfl
 refine⟨λd hd=>?_,λh=>by rw[hl]at h;exact h⟩;have hi:i<z.length:=by have:=(a8.mp hd).1;rw[hl]at this;exact this
 refine⟨hi,λx H' zq9=>?_⟩;obtain⟨e1,c,e2,e3⟩:=zq9;subst e1 e3;unfold Sc at hd;rw[az]at hd;have e4:z.cps.toList[i]? =aA c:=by simpa using e2
 rw[e4]at hd;cases hd;exact⟨Zi.refl _,[],df,λ_ h=>(nomatch h),.str _⟩
section
variable{Z:Ent K}{H:Hp}{σ:L2.St}{Q:VK}
@[simp]def Cd(fe:FE):FD:=λδ=>(fe δ).bind λp=>(frz p.1 p.2).bind λq=>match q.1 with
 | .lst xs=>aA (xs,q.2)
 | .tup xs=>aA (xs,q.2)
 | .str z=>aA (Sc z,q.2)
 |_=>aB
theorem Zmz(h:Qm Z (Cd fe) σ H R):Zqw K (Ze Z fe) σ H R:=by
 obtain⟨F,δ,own,ds,δ',s,e,k⟩:=h;obtain⟨⟨rv,δ1⟩,e1,e2⟩:=aa.mp e;obtain⟨⟨d,δ2⟩,e3,e4⟩:=aa.mp e2;refine⟨F,δ,own,rv,δ1,s,e1,λv H1 F1 own1 sH sF s1 r1=>?_⟩;obtain⟨F2,sF2,s2,r2⟩:=s1.settleR r1;obtain⟨F3,own3,sF3,s3,r3⟩:=s2.frzR r2 e3;dsimp only at e4;split at e4
 .cases e4;cases r3 with
  |lst h _ r=>exact .inl ⟨_,rfl,⟨_,Wb s3.le h⟩,k _ H1 F3 own3 sH (sF.trans (sF2.trans sF3)) s3 (P4 h r)⟩
 .cases e4;cases r3 with
  |tup h r=>exact .inr (.inl ⟨_,rfl,⟨_,Qf s3.le (Gr h)⟩,k _ H1 F3 own3 sH (sF.trans (sF2.trans sF3)) s3 (Xd (Gr h) r)⟩)
 .cases e4;cases r3 with
  |str x=>exact .inr (.inr ⟨_,rfl,k _ H1 F3 own3 sH (sF.trans (sF2.trans sF3)) s3 Sd⟩)
 .cases e4
@[simp]noncomputable def inS(i j:Str):Bool:=!(dj j i 0 j.length 1).isEmpty
@[simp]def inD:D->D->Option SV
 | .str i,.str j=>aA (.fz (.bl (inS i j)))
 |_,_=>aB
@[simp]def L9:D->D->Option SV
 | .str i,.str j=>aA (.fz (.bl (!inS i j)))
 |_,_=>aB
theorem Zvo:Y7 Z (λx y H Q=>∃i j,x= .str i/\y= .str j/\Q (.bl (!(dj j i 0 j.length 1).isEmpty)) H) inD:=by
 intro F H σ δ own x y d1 d2 sv Q s r1 r2 e k;unfold inD at e;split at e
 .cases e;exact⟨_,_,r1.str,r2.str,k.fz s (.bl _)⟩
 .cases e
theorem Zii:Y7 Z (λx y H Q=>∃i j,x= .str i/\y= .str j/\Q (.bl (!(!(dj j i 0 j.length 1).isEmpty))) H) L9:=by
 intro F H σ δ own x y d1 d2 sv Q s r1 r2 e k;unfold L9 at e;split at e
 .cases e;exact⟨_,_,r1.str,r2.str,k.fz s (.bl _)⟩
 .cases e
@[simp]noncomputable def Zvp:List D->Option SV
 | [.str a,.str b]=>if(b.length==0)=aD/\a.length<=bd/\(Txt.split a b).length<=bd then aA (.ol ((Txt.split a b).map D.str))else aB
 |_=>aB
@[simp]noncomputable def Zm0:List D->Option SV
 | [.str a,.str b]=>if(b.length==0)=aD/\a.length<=bd then aA (.fz (.tup [.str (Txt.partition a b).1,.str (Txt.partition a b).2.1,.str (Txt.partition a b).2.2]))else aB
 |_=>aB
@[simp]noncomputable def bools?:List D->Option (List Bool)
 | []=>aA []
 | .bl x::r=>(bools? r).bind λt=>aA (x::t)
 |_=>aB
theorem Se:∀{ds:List D} {xs:List Bool} {vs:List V},bools? ds=aA xs->Reps K F ds vs->vs=xs.map V.bl
 | [],_,_,e,r=>by cases e;cases r;rfl
 |d::ds,_,_,e,r=>by
  cases r with
  |cons h t=>
   unfold bools? at e;split at e
   .rename_i e0;cases e0
   .rename_i x r0 e0;cases e0;obtain⟨ys,e1,e2⟩:=aa.mp e;cases e2;cases h;rw[Se e1 t];rfl
   .cases e
@[simp]def Zij:List D->Option SV
 | [.lst xs]=>(bools? xs).bind λbs=>aA (.fz (.bl (bs.all id)))
 |_=>aB
theorem Zqy:Us Z (Zqx K) Zij:=by
 intro F H σ δ own vs ds sv Q s r e k;unfold Zij at e;split at e
 .obtain⟨bs,e1,e2⟩:=aa.mp e;cases e2;cases r with
  |cons h1 t=>cases t;obtain⟨a,vs,rfl,ha,ra⟩:=h1.lst s.le;rw[Se e1 ra]at ha;exact⟨a,bs,rfl,ha,k.fz s (.bl _)⟩
 .cases e
@[simp]def Zvq(i:Nat):FS:=λδ=>match δ[i]? with
 |some (aA (.ol _))=>aA (.nx (δ.set i (aA (.ol []))))
 |_=>aB
end
section
variable{X:Cx}{Z:Ent X.K}{a b c:cj}{fa fb fc:FE}{pos:Pos}{tg:cj}
theorem Ua(ha:PE X a (Ze Z fa)):PI X tg a (Qm Z (Cd fa)):=λpins s σ H R I h=>Zmy ha pins s σ H R I (Zmz h)
theorem Zqz{p}(hm:X.mg "all"=aB)(ha:PE X a (Ze Z fa))(hc:X.calm=aC:=by rfl)(hg:Gl X "all":=by rfl)(he:a9 [a] X.env=(aD,gp a X.env)::a9 [] X.env:=by rfl)(hpl:(gq pos (a9 [] X.env)).any (·.1)=aD:=by rfl):PE X (.Call (.Name "all" p) [a] [] pos) (Ze Z (Yq Zij (Zc fa Zj))):=
 L8 (Zee hc) Zqy hm boot_all (Zk ha Ya he) hg (by decide) (by decide) he hpl
end
end DL
namespace L2
open PySem PySem.Spec PyProof.Rows
open AutoSeq1 (wpAny_loadPart')
section
variable{prog:b6}{w:c7}{A:dh}{E:ah->am->Prop}{s:am}
theorem Tm(hit:s.heap.IsTupleIter it t i)(ht:s.heap.IsTuple t items)(hx:items[i]? =aA x)(hQ:∀h',h'.IsTupleIter it t (i+1)->io it s.heap h'->Q x {s with heap:=h'}):bg (b4 prog w) A (Builtin.SmallTypes.nextOf (.ref it)) Q E s:=by
 obtain⟨o,ho,hc,hd⟩:=id hit;obtain⟨ol,hol,_,nl,hdl⟩:=ht;unfold Builtin.SmallTypes.nextOf;refine ac (gd (name:=Str.ofString "__next__") hit.typeIs F.slot_tuple_iterator_next (dr F.slot_tuple_iterator_next hit.typeIs F.entry_tuple_iterator_next ?_ (F.args_tuple_iterator_next_1 _)));show bg _ _ (field (.ref it) 0 >>=_) _ _ s;refine ac (wpAny_field ho hd (x:=.ref t) rfl ?_);show bg _ _ (if(b8 t==ck)=aC then _ else _) _ _ s;rw[if_neg (show¬((b8 t==ck)=aC)from bv)];show bg _ _ (field (.ref it) 1 >>=_) _ _ s;refine ac (wpAny_field ho hd (x:=.int i 0) rfl ?_);show bg _ _ (seqItems? (.ref t) >>=_) _ _ s;refine ac (wpAny_seqItems hol hdl ?_);simp only[g8,hx];refine ac (wpAny_setField ho hd (by simp) (ag ⟨x,rfl,ag (hQ _ ⟨_,g6 _ ho (Obj.isFreed_of_fields (Obj.data_mapFields hd _)),(Obj.cls_mapFields ..).trans hc,by rw[Obj.data_mapFields hd];simp[rawInt]⟩ (Heap.SameBut.update ..))⟩))
theorem Ck(hh:A.handled=aB)(hit:s.heap.IsTupleIter it t i)(ht:s.heap.IsTuple t items)(hx:items[i]? =aB)(hE:∀h' e,Heap.ExtBut it s.heap h'->(∃o,h'.get? e=aA o/\o.cls= .type "StopIteration")->E (.ref e) {s with heap:=h'}):bg (b4 prog w) A (Builtin.SmallTypes.nextOf (.ref it)) Q E s:=by
 obtain⟨o,ho,hc,hd⟩:=id hit;obtain⟨ol,hol,_,nl,hdl⟩:=ht;unfold Builtin.SmallTypes.nextOf;refine ac (gd (name:=Str.ofString "__next__") hit.typeIs F.slot_tuple_iterator_next (dr F.slot_tuple_iterator_next hit.typeIs F.entry_tuple_iterator_next ?_ (F.args_tuple_iterator_next_1 _)));show bg _ _ (field (.ref it) 0 >>=_) _ _ s;refine ac (wpAny_field ho hd (x:=.ref t) rfl ?_);show bg _ _ (if(b8 t==ck)=aC then _ else _) _ _ s;rw[if_neg (show¬((b8 t==ck)=aC)from bv)];show bg _ _ (field (.ref it) 1 >>=_) _ _ s;refine ac (wpAny_field ho hd (x:=.int i 0) rfl ?_);show bg _ _ (seqItems? (.ref t) >>=_) _ _ s;refine ac (wpAny_seqItems hol hdl ?_);simp only[g8,hx];refine ac (wpAny_rule (ac (wpAny_setField ho hd (by simp) ?_)));show bg _ _ (newExc (.type "StopIteration") [] >>=_) _ _ _;refine ac ?_;simp only[newExc,newTuple];refine ac (ff ?_ (by size_fits));refine ac (m:=firstArgMember _ _) (wpAny_of_eq (a:=ck) (by first|rfl| (simp only[firstArgMember];rfl)) ?_);refine ff ?_ (by size_fits);simp only[raiseNew];refine ac (wpAny_handled ?_);first|rw[show A.in1.handled=aB from hh]|rw[hh]
 refine ac (ag (wpAny_throw ?_));exact hE _ _ (((Heap.SameBut.update ..).extBut.push _).push _) ⟨_,bp _ rfl,rfl⟩
theorem Sf(x:h.IsTuple t items)(hs:Heap.ExtBut it h h')(hne:t≠it):h'.IsTuple t items:=let⟨o,ho,r⟩:=x;⟨o,hs t o hne ho,r⟩
theorem Zbv{prog:b6}{w:c7}{A:dh}(hh:A.handled=aB)(it l:aj)(hne:l≠it)(items:Array ah):
  Draws prog w A it [it,l] items.size (λi v=>items[i]? =aA v) (λi h=>h.IsTupleIter it l i/\h.IsTuple l items)where
 live:=λ_ _ st=>let⟨o,ho,_⟩:=st.1;⟨o,ho⟩
 frame:=λ_ _ _ st hk=>⟨st.1.at λo e=>hk it (by simp) o e,let⟨o,ho,r⟩:=st.2;⟨o,hk l (by simp) o ho,r⟩⟩
 item:=λi s Q E hi st hQ=>by refine Tm st.1 st.2 (x:=items[i]) (by simp[hi]) λh' hit' hs'=>?_;exact hQ _ h' s.toks (by simp[hi]) ⟨hit',Sf st.2 hs'.extBut hne⟩ hs'
 done:=λs Q E st hE=>Ck hh st.1 st.2 (by simp) hE
theorem Na(l items n dct sl):
  Meets (Builtin.«enumerate.__new__» ⟨[.type "enumerate",.ref l],[]⟩) (λ_ R s=>s.heap.get? l=aA {cls:=.type "tuple",dict:=dct,data:=.seq items n,slots:=sl}/\
   R (.ok (.ret (.ref (s.heap.push {cls:=.type "tuple_iterator",data:=.fields #[.ref l,.int 0 0]}).objs.size))) {s with heap:=(s.heap.push {cls:=.type "tuple_iterator",data:=.fields #[.ref l,.int 0 0]}).push {cls:=.type "enumerate",data:=.fields #[.none,.bool aD,.ref s.heap.objs.size,rawInt 0,.none,.none]}}):=
 .of_wp λprog w A R s h=>by
  obtain⟨hp,g,d,tk,os⟩:=s;obtain⟨hl,h⟩:=h;have hsub:=sub_enumerate;have hL:Heap.IsTuple (Shared.heap ⟨hp,g,d,tk,os⟩) l items:=⟨_,hl,rfl,n,rfl⟩
  wp_walk using du hl;refine wpAny_stack_any λst=>ag ?_;split
  .rename_i c _ _ _ _ _;cases(c==Value.type "enumerate")
   .wp_walk using du hl,wpAny_pyIter_tuple hL;exact⟨_,rfl,h⟩
   .wp_walk using du hl,wpAny_pyIter_tuple hL;exact⟨_,rfl,h⟩
  .wp_walk using du hl,wpAny_pyIter_tuple hL;exact⟨_,rfl,h⟩
theorem Iz(hL:s.heap.IsTuple l items)(h:∀h',IsEnum h' (s.heap.objs.size+1) s.heap.objs.size 0 .none->h'.IsTupleIter s.heap.objs.size l 0->h'.objs.size=s.heap.objs.size+2->(∀b o,s.heap.get? b=aA o->h'.get? b=aA o)->Q (.ref (s.heap.objs.size+1)) {s with heap:=h'}):
  bg (b4 prog w) A (call (.type "enumerate") [.ref l]) Q E s:=by
 obtain⟨⟨c,dct,dt,sl⟩,hl,hc,n,hd⟩:=hL;replace hc:c= .type "tuple":=hc;replace hd:dt= .seq items n:=hd;subst hc hd;refine callType_new F.called_enumerate (by decide) (F.typeCall_enumerate_1 _) (F.newCall_enumerate_1 _) (λobj=>F.args_object_init_2 obj _) F.entry_enumerate_new (Na l items n dct sl) ⟨hl,?_⟩;have hz:(s.heap.push {cls:=.type "tuple_iterator",data:=.fields #[.ref l,.int 0 0]}).objs.size=s.heap.objs.size+1:=Heap.size_push ..;show _/\_;rw[hz];have he:IsEnum ((s.heap.push {cls:=.type "tuple_iterator",data:=.fields #[.ref l,.int 0 0]}).push {cls:=.type "enumerate",data:=.fields #[.none,.bool aD,.ref s.heap.objs.size,rawInt 0,.none,.none]}) (s.heap.objs.size+1) s.heap.objs.size 0 .none:=by have:=bp (s.heap.push {cls:=.type "tuple_iterator",data:=.fields #[.ref l,.int 0 0]}) (o:={cls:=.type "enumerate",data:=.fields #[.none,.bool aD,.ref s.heap.objs.size,rawInt 0,.none,.none]}) rfl;rw[hz]at this;exact this
 exact⟨⟨_,he,rfl⟩,h _ he ⟨_,au _ (bp _ rfl),rfl,rfl⟩ (by rw[Heap.size_push,hz]) λb o x=>au _ (au _ x)⟩
theorem Nb{i:Nat}(hh:A.handled=aB)(he:IsEnum s.heap e it i old)(hit:s.heap.IsTupleIter it l i)(hl:s.heap.IsTuple l items)(hx:items[i]? =aB)(hQ:∀h',Heap.ExtBut it s.heap h'->Q aB {s with heap:=h'}):bg (b4 prog w) A (pyNext (.ref e)) Q E s:=by
 have hT:s.TypeIs (.ref e) "enumerate":=⟨_,he,rfl⟩;unfold pyNext;refine ac (wpAny_attempt (gd (name:=Str.ofString "__next__") hT F.slot_enumerate_next (dr F.slot_enumerate_next hT F.entry_enumerate_next ?_ (F.args_enumerate_next_1 _))));show bg _ _ (field (.ref e) 2 >>=_) _ _ _;refine ac (wpAny_field he rfl (x:=.ref it) rfl ?_);refine ac (Ck (by first|exact hh| (rw[show A.in1.handled=A.handled from rfl];exact hh)) hit hl hx λh' x he' hx'=>?_);obtain⟨o,ho,hc⟩:=hx';refine ac (wpAny_isInstance (T:="StopIteration") (b:=aC) ⟨o,ho,hc⟩ isSubtype_stop ?_);exact ag (hQ _ he')
end
section
variable{X:Cx}
def Zm1(K:ad)(a:aj):It:=
 ⟨λi H=>∃xs x,Ob K H a xs/\xs[i]? =aA x,λi H x H'=>∃p v,x= .ref p/\H p=aB/\H'=Z9 H p (.tup [.int (i:Nat),v])/\∀xs,Ob K H a xs->xs[i]? =aA v,λi H=>∃xs,Ob K H a xs/\xs.length<=i⟩
theorem Xh{P:b6}{w:c7}{K:ad}{elts:List cj}{kk:Nat}{tpos:Pos}(a e it:aj)(hei:e≠it):Turn P w K (.Tuple elts kk tpos) (Zm1 K a) [e,it] e (λi h=>(∃old,IsEnum h e it ((i:Nat):Int) old)/\h.IsTupleIter it a i)where
 mem:=by simp
 obj:=λi h st b hb=>by
  have hb':b=e\/b=it:=by simpa using hb
  rcases hb' with z|z
  .subst z;obtain⟨old,q⟩:=st.1;exact⟨_,q,λv y=>by
    have y':Data.fields _=Data.cell v:=y;cases y'⟩
  .subst z;obtain⟨o,q,c,d⟩:=st.2;exact⟨o,q,λv y=>by rw[d]at y;cases y⟩
 keep:=λi h h' st k=>⟨let⟨old,q⟩:=st.1;⟨old,k e (by simp) _ q⟩,st.2.at λo q=>k it (by simp) o q⟩
 item:=by
  intro X hP hw hK hc i pins s σ H E I hf st hg;subst hP hw hK;obtain⟨xs,x,hq,hx⟩:=hg;obtain⟨its,rv,p,hz⟩:=I.tuple hq;obtain⟨u,hu,ru⟩:=rv.get hx;obtain⟨⟨old,he⟩,hit⟩:=st;have hl:s.heap.IsTuple a its.toArray:=p;have ai:a≠it:=λz=>by obtain⟨o1,q1,c1,_⟩:=hit;obtain⟨o2,q2,c2,_⟩:=hl;rw[z,q1]at q2;cases q2;rw[c1]at c2;exact absurd c2 (by decide)
  have ae:e∉[it,a]:=λz=>by
   have z':e=it\/e=a:=by simpa using z
   rcases z' with z|z
   .exact hei z
   .obtain⟨o2,q2,c2,_⟩:=hl;rw[<-z,he]at q2;cases q2;exact absurd (show Value.type "enumerate"=Value.type "tuple"from c2) (by decide)
  have D:=Zbv (prog:=X.prog) (w:=X.w) (A:=X.A.in1) (by first|exact I.ok.hd hc| (rw[show X.A.in1.handled=X.A.handled from rfl];exact I.ok.hd hc)) it a ai its.toArray;have hlt:i<its.toArray.size:=by have:=(a8.mp hu).1;rw[bq];exact this
  refine wpAny_pyNext_enum_itemD D he ⟨hit,hl⟩ hlt hei ae λy h' tk hy hout st' hT hsz hk=>⟨.ref s.heap.objs.size,rfl,?_⟩
  refine wpAny_letOwnedTupleGo_enum hout λh2 he2 hs2=>?_;have hy':its.toArray[i]? =aA y:=hy;have ey:y=u:=by
   have:its[i]? =aA y:=by simpa using hy'
   rw[hu]at this;cases this;rfl
  subst ey;have kk:∀b o,b≠e->b≠it->s.heap.get? b=aA o->h2.get? b=aA o:=λb o h1 h3 q=>(hs2.2 b h1).trans (hk b o h1 h3 q);have neT:s.heap.objs.size≠e:=Nat.ne_of_gt (bo he);have I2:=I.turnedT (h':=h2) (t':=tk+1) (e:=e) (it:=it) (T:=s.heap.objs.size) (xs:=[.int (i:Nat),x]) (its:=[.int i tk,y]) kk (hf e (by simp)) (hf it (by simp)) rfl ⟨_,(hs2.2 _ neT).trans hT,rfl,_,rfl⟩ (.cons ⟨tk,rfl⟩ (.cons ru .nil)) (by show 2<=sizeLine;decide)
   ⟨_,he2⟩ (let⟨o,q,_⟩:=st'.1;⟨o,(hs2.2 it (Ne.symm hei)).trans q⟩)
  refine⟨.ref s.heap.objs.size,_,I2,rfl,⟨s.heap.objs.size,x,rfl,I.hok.fresh (ba _),rfl,λys hy2=>by rw[I.tuple_inj hy2 hq];exact hx⟩,⟨⟨_,he2⟩,st'.1.at λo q=>(hs2.2 it (Ne.symm hei)).trans q⟩,λb hb=>?_⟩;rw[Zw λz=>?_]
  .exact(hf b hb).1
  .have hb':b=e\/b=it:=by simpa using hb
   rcases hb' with y|y
   .rw[<-z,y]at neT;exact neT rfl
   .obtain⟨o,q,_⟩:=hit;rw[y]at z;exact absurd (bo q) (by rw[z];exact ii _)
 done:=by intro X hP hw hK hc i pins s σ H E I hf st hg;subst hP hw hK;obtain⟨xs,hq,hx⟩:=hg;obtain⟨its,rv,p,hz⟩:=I.tuple hq;obtain⟨⟨old,he⟩,hit⟩:=st;obtain⟨f0,f1,f2,f3,f4,f5⟩:=hf it (by simp);have hl:=rv.length;exact Nb (I.ok.hd hc) he hit (show s.heap.IsTuple a its.toArray from p) (by simp;omega) λh' eb=>⟨rfl,I.turned (t':=s.toks) (λb o hb q=>eb b o hb q) f0 f1 f3 f4 f5⟩
 self:=λ_ _ _ _ _ st h=>let⟨⟨old,he⟩,_⟩:=st;wpAny_pyIter_enum he h
def Zef(K:ad)(ta:TA):TI:=λσ H R=>ta σ H λvs H1=>∃a xs,vs=[.ref a]/\Ob K H1 a xs/\R (Zm1 K a) H1
theorem Zeg(hg:Gl X "enumerate")(hm:X.mg "enumerate"=aB)(ha:PA X [l] ta)(hs:a9 [l] X.env=[(aD,gp l X.env)]:=by rfl):
  PI X (.Tuple elts kk tpos) (.Call (.Name "enumerate" p) [l] [] pos) (Zef X.K ta):=by
 intro pins s σ H R I h;refine Call_ (Bh I hg hm boot_enumerate (PyProof.Rows.callWith_type1 (Wp (ha pos pins s σ H _ I h) λus s1 ⟨vs,H1,I1,r1,q1⟩=>?_) hs rfl));obtain⟨a,xs,e,hq,q⟩:=q1;subst e;obtain⟨u,rfl,ru⟩:=Oc r1;cases ru;obtain⟨its,rv,p,hz⟩:=I1.tuple hq;refine Iz (show s1.heap.IsTuple a its.toArray from p) λh' he hit hsz hk=>wpAny_pyIter_enum he ?_;have I2:Inv X pins σ H1 {s1 with heap:=h'}:=I1.kept (t':=s1.toks) hk;refine⟨s1.heap.objs.size+1,[s1.heap.objs.size+1,s1.heap.objs.size],_,_,H1,rfl,I2,Xh a _ _ (Nat.succ_ne_self _),⟨⟨.none,by simpa using he⟩,hit⟩,λb hb=>?_,q⟩;have hb':b=s1.heap.objs.size+1\/b=s1.heap.objs.size:=by simpa using hb
 rcases hb' with z|z
 .subst z;exact I1.fpOk (Nat.le_succ _) (I1.hok.fresh (Nat.le_succ _))
 .subst z;exact I1.fpOk (ba _) (I1.hok.fresh (ba _))
end
end L2
namespace DL
open PySem PySem.Spec PyProof.Rows L2
variable{K:ad}
theorem Nc(h:Ob K F a vs)(r:Reps K F xs vs):Oq K (Zm1 K a) F (Js xs):=λF' H sF sH i=>by
 have q:Ob K H a vs:=Qf (sF.trans sH) h;refine⟨λd hd=>?_,λhl=>⟨vs,q,by rw[<-r.length,<-Fz];exact hl⟩⟩;obtain⟨x,hx,rfl⟩:=Fy hd;obtain⟨v,h1,h2⟩:=r.get hx;refine⟨⟨vs,v,q,h1⟩,λy H' zq9=>?_⟩;obtain⟨p,w,e1,e2,e3,e4⟩:=zq9;subst e1 e3;have e5:=e4 vs q;rw[h1]at e5;cases e5;have hp:F' p=aB:=sH.free e2;have sm:Zi F' (Ue F' [(p,.tup [.int (i:Nat),v])]):=Ql λz hz=>by obtain rfl:=ar.mp hz;exact hp
 refine⟨Ws e2,[(p,.tup [.int (i:Nat),v])],Ix,λz hz=>?_,.tup Z3 (.cons (.int _) (.cons (h2.mono (sF.trans sm)) .nil))⟩;obtain rfl:=ar.mp hz;exact⟨e2,Z3⟩
section
variable{Z:Ent K}{H:Hp}{σ:L2.St}
@[simp]def Zeh(fd:FD):FD:=λδ=>(fd δ).bind λp=>match p.1 with
 | [.tup xs]=>aA (Js xs,p.2)
 |_=>aB
theorem Zei(h:Qm Z (Zeh fd) σ H R):Zef K (Qu Z fd) σ H R:=by
 obtain⟨F,δ,own,ds,δ',s,e,k⟩:=h;obtain⟨⟨ds1,δ1⟩,e1,e2⟩:=aa.mp e;refine⟨F,δ,own,ds1,δ1,s,e1,λvs H1 F1 own1 sH sF s1 r1=>?_⟩;dsimp only at e2;split at e2
 .rename_i xs;cases e2;cases r1 with
  |cons h t=>
   cases t;cases h with
   |tup h r=>exact⟨_,_,rfl,Qf s1.le (Gr h),k _ H1 F1 own1 sH sF s1 (Nc (Gr h) r)⟩
 .cases e2
end
section
variable{X:Cx}{Z:Ent X.K}{a:cj}{pos:Pos}
@[simp]def Mo(fd:FD):FD:=λδ=>(fd δ).bind λp=>match p.1 with
 | [.lst xs]=>aA (Js xs,p.2)
 | [.tup xs]=>aA (Js xs,p.2)
 |_=>aB
theorem Zej(h:Qm Z (Mo fd) σ H R):Qm Z (Zkp fd) σ H R\/Qm Z (Zeh fd) σ H R:=by
 obtain⟨F,δ,own,ds,δ',s,e,k⟩:=h;obtain⟨⟨ds1,δ1⟩,e1,e2⟩:=aa.mp e;dsimp only at e2;split at e2
 .rename_i xs;exact .inl ⟨F,δ,own,ds,δ',s,aa.mpr ⟨_,e1,e2⟩,k⟩
 .rename_i xs;exact .inr ⟨F,δ,own,ds,δ',s,aa.mpr ⟨_,e1,e2⟩,k⟩
 .cases e2
theorem Tw{elts}{kk}{tpos p}(hm:X.mg "enumerate"=aB)(ha:PA X [a] (Qu Z fd))(hg:Gl X "enumerate":=by rfl)(hs:a9 [a] X.env=[(aD,gp a X.env)]:=by rfl):
  PI X (.Tuple elts kk tpos) (.Call (.Name "enumerate" p) [a] [] pos) (Qm Z (Mo fd)):=λpins s σ H R I h=>by
 rcases Zej h with h|h
 .exact Zia hg hm ha hs pins s σ H R I (Zib h)
 .exact Zeg hg hm ha hs pins s σ H R I (Zei h)
end
end DL
namespace L2
open PySem PySem.Spec PyProof.Rows
def Zvr(K:ad):V->List V->Hp->VK->Prop:=λx xs H Q=>∃sep p ys,x= .str sep/\xs=[.ref p]/\(W5 K H p (ys.map V.str)\/Ob K H p (ys.map V.str))/\JoinOk sep ys=aC/\Q (.str (Txt.join sep ys)) H
end L2
namespace DL
open PySem PySem.Spec PyProof.Rows L2
@[simp]def Zvs:List D->Option SV
 | [.str sep,.lst xs]=>(strs? xs).bind λys=>if JoinOk sep ys=aC then aA (.fz (.str (Txt.join sep ys)))else aB
 | [.str sep,.tup xs]=>(strs? xs).bind λys=>if JoinOk sep ys=aC then aA (.fz (.str (Txt.join sep ys)))else aB
 |_=>aB
end DL
namespace L2
open PySem PySem.Spec PyProof.Rows
def Zq0:R2:=λx y H Q=>∃a v,x= .ref a/\Ur H a y (aA v)/\Q v H
def Zek:R2:=λy x H Q=>∃a o,x= .ref a/\Ur H a y o/\Q (.bl o.isSome) H
def Ru:R2:=λy x H Q=>∃a o,x= .ref a/\Ur H a y o/\Q (.bl (!o.isSome)) H
theorem Xi(hu:X.A.units+1<f6):Cf X (g9 .In) Zek:=by intro pins s σ H y x v u Q I ry rx h;obtain⟨a,o,rfl,g,q⟩:=h;cases rx;exact Zun hu I g ry λs' I'=>⟨.bl o.isSome,H,I',rfl,q⟩
theorem I8(hu:X.A.units+1<f6):Cf X (g9 .NotIn) Ru:=by intro pins s σ H y x v u Q I ry rx h;obtain⟨a,o,rfl,g,q⟩:=h;cases rx;exact Zht hu I g ry λs' I'=>⟨.bl (!o.isSome),H,I',rfl,q⟩
end L2
namespace DL
open PySem PySem.Spec PyProof.Rows L2
variable{K:ad}
@[simp]def D.key?:D->Option Key
 | .int i=>aA (.inl i)
 | .str x=>aA (.inr x)
 |_=>aB
@[simp]def keys?:List D->Option (List Key)
 | []=>aA []
 |d::r=>d.key?.bind λk=>(keys? r).bind λt=>aA (k::t)
section
variable{κ:Type}[DecidableEq κ]
@[simp]noncomputable def look(ks:List κ)(vs:List D)(k:κ):Option D:=match ks,vs with
 |a::ks,v::vs=>if a=k then aA v else look ks vs k
 |_,_=>aB
theorem Tx{F:Hp}(k:κ):∀(kvs:List (κ×V)) (ds:List D),Reps K F ds (kvs.map (·.2))->match look (kvs.map (·.1)) ds k with
  |some d=>∃v,Qd kvs k=aA v/\Rep K F d v
  |none=>Qd kvs k=aB
 | [],_,r=>by cases r;exact Zdn
 |p::kvs,_,r=>by
  cases r with
  | @cons d v ds vs h t=>
   show match(if p.1=k then aA d else look (kvs.map (·.1)) ds k)with
    |some d=>∃v,Qd (p::kvs) k=aA v/\Rep K F d v
    |none=>Qd (p::kvs) k=aB
   by_cases e:p.1=k
   .rw[if_pos e];exact⟨p.2,O6 e,h⟩
   .rw[if_neg e,Uq e];exact Tx k kvs ds t
@[simp]noncomputable def Wv(ks:List κ)(vs:List D)(k:κ)(v:D):List κ×List D:=
 if k∈ks then(ks,(ks.zip vs).map λp=>if p.1=k then v else p.2)else(ks++[k],vs++[v])
theorem Reps.length_map{α:Type}{kvs:List (α×V)}(r:Reps K F ds (kvs.map (·.2))):ds.length=kvs.length:=by rw[r.length,aq]
theorem Di(hd:Rep K F d v):∀(kvs:List (κ×V)) ds,Reps K F ds (kvs.map (·.2))->
  Reps K F (((kvs.map (·.1)).zip ds).map λp=>if p.1=k then d else p.2) ((kvs.map λkv=>if kv.1=k then(kv.1,v)else kv).map (·.2))
 | [],_,r=>by cases r;exact .nil
 |p::kvs,_,r=>by
  cases r with
  | @cons d' v' ds vs h t=>
   have ih:=Di (k:=k) hd kvs ds t;show Reps K F ((if p.1=k then d else d')::(((kvs.map (·.1)).zip ds).map λp=>if p.1=k then d else p.2)) ((if p.1=k then(p.1,v)else p).2::((kvs.map λkv=>if kv.1=k then(kv.1,v)else kv).map (·.2)));refine .cons ?_ ih;by_cases e:p.1=k
   .rw[if_pos e,if_pos e];exact hd
   .rw[if_neg e,if_neg e];exact h
theorem Zel(kvs:List (κ×V)):(kvs.map λkv=>if kv.1=k then(kv.1,v)else kv).map (·.1)=kvs.map (·.1):=by rw[cg];refine List.map_congr_left λp _=>?_;show(if p.1=k then(p.1,v)else p).1=p.1;split<;> rfl
theorem Rv(k)(kvs:List (κ×V)):(kvs.any λkv=>decide (kv.1=k))=aC↔k∈kvs.map (·.1):=by
 rw[List.any_eq_true,ax];constructor
 .rintro⟨p,h1,h2⟩;exact⟨p,h1,of_decide_eq_true h2⟩
 .rintro⟨p,h1,h2⟩;exact⟨p,h1,decide_eq_true h2⟩
theorem Nd(hd:Rep K F d v)(kvs:List (κ×V))(ds)(r:Reps K F ds (kvs.map (·.2))):
  (Qe kvs k v).map (·.1)=(Wv (kvs.map (·.1)) ds k d).1/\Reps K F (Wv (kvs.map (·.1)) ds k d).2 ((Qe kvs k v).map (·.2)):=by
 unfold Qe Wv;by_cases h:k∈kvs.map (·.1)
 .rw[if_pos h,if_pos ((Rv k kvs).mpr h)];exact⟨Zel kvs,Di hd kvs ds r⟩
 .rw[if_neg h,if_neg λz=>h ((Rv k kvs).mp z),b9,b9];exact⟨rfl,r.snoc hd⟩
end
theorem Ar(e:d.key? =aA k)(r:Yi K F H d y):y=kV k:=by
 cases d with
 |int i=>cases e;exact r.int
 |str x=>cases e;exact r.str
 |_=>cases e
theorem Dj(e:d.key? =aA k)(r:Rep K F d y):y=kV k:=Ar (H:=F) e (Yi.of r)
theorem Nf:∀{ds:List D} {ks:List Key} {vs:List V},keys? ds=aA ks->Reps K F ds vs->vs=ks.map kV
 | [],_,_,e,r=>by cases e;cases r;rfl
 |d::ds,_,_,e,r=>by
  cases r with
  |cons h t=>obtain⟨k,e1,e2⟩:=aa.mp e;obtain⟨t',e3,e4⟩:=aa.mp e2;cases e4;rw[Dj e1 h,Nf e3 t];rfl
theorem Yi.tupH(le:Zi F H)(h:Yi K F H (.tup xs) v):∃a vs,v= .ref a/\H a=aA (.tup vs)/\Reps K F xs vs:=by
 obtain⟨sv,ns,e,n,sh,hp⟩:=h;cases sh with
 |fz r=>cases e;cases r with|tup h r=>exact⟨_,_,rfl,le _ _ h,r⟩
 |ol r=>cases e
 |oK e' r=>cases e
 |oT kb e' r=>cases e
 |oN e' r=>cases n
 |oX kb' e' r=>cases n
 |oD r=>cases n
 |oM kb' e' r=>cases n
 |oL _ r=>cases n
 |oQ e' r=>cases e
@[simp]def Xj:D->D->Option (Option D)
 | .dK ks vs,d=>d.key?.bind λk=>aA (look ks vs k)
 | .dT ks vs,.tup xs=>(keys? xs).bind λk=>aA (look ks vs k)
 |_,_=>aB
theorem Xk{F H:Hp}{d1 d2:D}{x y:V}{o:Option D}(le:Zi F H)(e:Xj d1 d2=aA o)(r1:Yi K F H d1 x)(r2:Yi K F H d2 y):
  ∃a,x= .ref a/\IsD H a/\match o with
   |some d=>∃v,Ur H a y (aA v)/\Rep K F d v
   |none=>Ur H a y aB:=by
 unfold Xj at e;split at e
 .obtain⟨k,e1,e2⟩:=aa.mp e;obtain⟨a,kvs,rfl,ha,rfl,rr⟩:=r1.dK le;refine⟨a,rfl,.inl ⟨kvs,ha.rd⟩,?_⟩;rw[Ar e1 r2];have z:=Tx k kvs _ rr;have g:=Ur.k (k:=k) ha;rw[cz.inj e2]at z;cases o with
  |none=>rw[show Qd kvs k=aB from z]at g;exact g
  |some d=>obtain⟨v,z1,z2⟩:=z;rw[z1]at g;exact⟨v,g,z2⟩
 .obtain⟨k,e1,e2⟩:=aa.mp e;obtain⟨a,kvs,rfl,ha,rfl,rr⟩:=r1.dT le;obtain⟨b,vs,rfl,hb,rb⟩:=r2.tupH le;refine⟨a,rfl,.inr ⟨kvs,ha.rd⟩,?_⟩;rw[Nf e1 rb]at hb;have z:=Tx k kvs _ rr;have g:=Ur.t ha hb;rw[cz.inj e2]at z;cases o with
  |none=>rw[show Qd kvs k=aB from z]at g;exact g
  |some d=>obtain⟨v,z1,z2⟩:=z;rw[z1]at g;exact⟨v,g,z2⟩
 .cases e
section
variable{Z:Ent K}
@[simp]def Zem(d1 d2:D):Option SV:=(Xj d1 d2).bind λo=>o.bind λd=>some (.fz d)
theorem Zm2:Y7 Z Zq0 Zem:=by intro F H σ δ own x y d1 d2 sv Q s r1 r2 e k;obtain⟨o,e1,e2⟩:=aa.mp e;obtain⟨d,e3,e4⟩:=aa.mp e2;cases e4;subst e3;obtain⟨a,rfl,_,v,g,rv⟩:=Xk s.le e1 r1 r2;exact⟨a,v,rfl,g,k.fz s rv⟩
@[simp]def Zq1(d1 d2:D):Option SV:=(Xj d2 d1).bind λo=>some (.fz (.bl o.isSome))
@[simp]def Dk(d1 d2:D):Option SV:=(Xj d2 d1).bind λo=>some (.fz (.bl (!o.isSome)))
theorem Zm3:Y7 Z Zek Zq1:=by
 intro F H σ δ own x y d1 d2 sv Q s r1 r2 e k;obtain⟨o,e1,e2⟩:=aa.mp e;cases e2;obtain⟨a,rfl,_,g⟩:=Xk s.le e1 r2 r1;cases o with
 |none=>exact⟨a,aB,rfl,g,k.fz s (.bl _)⟩
 |some d=>obtain⟨v,g,_⟩:=g;exact⟨a,aA v,rfl,g,k.fz s (.bl _)⟩
theorem Zbw:Y7 Z Ru Dk:=by
 intro F H σ δ own x y d1 d2 sv Q s r1 r2 e k;obtain⟨o,e1,e2⟩:=aa.mp e;cases e2;obtain⟨a,rfl,_,g⟩:=Xk s.le e1 r2 r1;cases o with
 |none=>exact⟨a,aB,rfl,g,k.fz s (.bl _)⟩
 |some d=>obtain⟨v,g,_⟩:=g;exact⟨a,aA v,rfl,g,k.fz s (.bl _)⟩
@[simp]noncomputable def D.isD:D->Bool
 | .dK _ _=>aC| .dT _ _=>aC|_=>aD
@[simp]def O5(d1 d2:D):Option SV:=if d1.isD=true then Zem d1 d2 else ixD d1 d2
@[simp]def inX(d1 d2:D):Option SV:=if d2.isD=true then Zq1 d1 d2 else inD d1 d2
@[simp]def Xl(d1 d2:D):Option SV:=if d2.isD=true then Dk d1 d2 else L9 d1 d2
theorem Zbx(hg:∀d1 d2 sv,g d1 d2=aA sv->g1 d1 d2=aA sv\/g2' d1 d2=aA sv)(h:Ze Z (Zm g fa fb) σ H Q):Ze Z (Zm g1 fa fb) σ H Q\/Ze Z (Zm g2' fa fb) σ H Q:=by
 obtain⟨F,δ,own,rv,δ',s,e,k⟩:=h;obtain⟨⟨rvs,δ1⟩,e1,e2⟩:=aa.mp e;obtain⟨ds,e3,e4⟩:=aa.mp e2;obtain⟨sv,e5,e6⟩:=aa.mp e4;have:(g2 g1) ds=aA sv\/(g2 g2') ds=aA sv:=by
  unfold g2 at e5⊢;split at e5
  .exact hg _ _ _ e5
  .cases e5
 rcases this with z|z
 .exact .inl ⟨F,δ,own,rv,δ',s,aa.mpr ⟨_,e1,aa.mpr ⟨_,e3,aa.mpr ⟨_,z,e6⟩⟩⟩,k⟩
 .exact .inr ⟨F,δ,own,rv,δ',s,aa.mpr ⟨_,e1,aa.mpr ⟨_,e3,aa.mpr ⟨_,z,e6⟩⟩⟩,k⟩
theorem Zq2:Y7 Z (λx y H Q=>(∃i j,x= .str i/\y= .str j/\Q (.bl (!(dj j i 0 j.length 1).isEmpty)) H)\/Zek x y H Q) inX:=by
 intro F H σ δ own x y d1 d2 sv Q s r1 r2 e k;unfold inX at e;split at e
 .exact .inr (Zm3 F H σ δ own x y d1 d2 sv Q s r1 r2 e k)
 .exact .inl (Zvo F H σ δ own x y d1 d2 sv Q s r1 r2 e k)
theorem Zen:Y7 Z (λx y H Q=>(∃i j,x= .str i/\y= .str j/\Q (.bl (!(!(dj j i 0 j.length 1).isEmpty))) H)\/Ru x y H Q) Xl:=by
 intro F H σ δ own x y d1 d2 sv Q s r1 r2 e k;unfold Xl at e;split at e
 .exact .inr (Zbw F H σ δ own x y d1 d2 sv Q s r1 r2 e k)
 .exact .inl (Zii F H σ δ own x y d1 d2 sv Q s r1 r2 e k)
end
section
variable{X:Cx}{Z:Ent X.K}{a b c:cj}{fa fb fc:FE}{pos:Pos}
theorem Yo(hu:X.A.units+1<f6)(ha:PE X a (Ze Z fa))(hb:PE X b (Ze Z fb))(hs:Tu b:=by intro _ _;rfl):PE X (.Subscript a b pos) (Ze Z (Zm O5 fa fb)):=λpins s σ H Q I h=>by
 rcases Zbx (g1:=Zem) (g2':=ixD) (λd1 d2 sv e=>by
  unfold O5 at e;split at e
  .exact .inl e
  .exact .inr e) h with h|h
 .exact Zhu hu ha hb hs pins s σ H Q I (Fv Zm2 h)
 .exact Zdf Zdg ha hb hs pins s σ H Q I (Fv Zqm h)
end
end DL
namespace L2
open PySem PySem.Spec PyProof.Rows
def Zvu:V->List V->Hp->VK->Prop:=λx xs H Q=>∃a,x= .ref a/\((∃y o,xs=[y]/\Ur H a y o/\Q (o.getD .non) H)\/(∃y z o,xs=[y,z]/\Ur H a y o/\Q (o.getD z) H))
end L2
namespace DL
open PySem PySem.Spec PyProof.Rows L2
variable{K:ad}
section
variable{Z:Ent K}{H:Hp}{σ:L2.St}{Q:VK}{E:Ends}
@[simp]def Dl:FE:=λδ=>some (.tmp (.oK [] []),δ)
@[simp]def Zx0:FE:=λδ=>some (.tmp (.oT [] []),δ)
theorem Zik(h:Ze Z Dl σ H Q):Ag σ H Q:=by obtain⟨F,δ,own,rv,δ',s,e,k⟩:=h;cases e;intro p hp;have f:Fin Z F H σ δ own (.oK [] []) Q:=λv H' F' ns a b c t=>k v H' F' own a b c ⟨ns,t⟩;exact f.one s (.oK (kvs:=[]) rfl .nil) hp
@[simp]noncomputable def SV.isOD:Option (Option SV)->Bool
 |some (aA (.oK _ _))=>aC
 |some (aA (.oT _ _))=>aC
 |some (aA (.oQ _ _ _))=>aC
 |_=>aD
@[simp]def Zq3(kd d:D):Option (Option SV)->Option SV
 |some (aA (.oK ks vs))=>kd.key?.bind λk=>if vs.length<bd then aA (.oK (Wv ks vs k d).1 (Wv ks vs k d).2)else aB
 |some (aA (.oT ks vs))=>match kd with
  | .tup xs=>(keys? xs).bind λk=>if vs.length<bd then aA (.oT (Wv ks vs k d).1 (Wv ks vs k d).2)else aB
  |_=>aB
 |some (aA (.oQ q ks vs))=>kd.key?.bind λk=>if vs.length<bd then aA (.oQ q (Wv ks vs k d).1 (Wv ks vs k d).2)else aB
 |_=>aB
@[simp]def Ir(i:Nat)(fk fv:FE):FS:=λδ=>(fv δ).bind λp=>(frz p.1 p.2).bind λq=>if SV.isOD (q.2[i]?)=true then(fk q.2).bind λr=>(Iw r.1 r.2).bind λkd=>(Zq3 kd q.1 (r.2[i]?)).bind λsv=>some (.nx (r.2.set i (some sv)))else none
theorem Zeo(h:Shape K F (.oK ks ds) v ns):∃a kvs ep,v= .ref a/\ns=[(a,.dK kvs ep)]/\kvs.map (·.1)=ks/\Reps K F ds (kvs.map (·.2)):=by
 cases h with
 |oK e r=>exact⟨_,_,_,rfl,rfl,e,r⟩
theorem Zep(h:Shape K F (.oQ q ks ds) v ns):∃kvs ep,v= .ref q/\ns=[(q,.dK kvs ep)]/\kvs.map (·.1)=ks/\Reps K F ds (kvs.map (·.2)):=by
 cases h with
 |oQ e r=>exact⟨_,_,rfl,rfl,e,r⟩
theorem Zeq(h:Shape K F (.oT ks ds) v ns):∃a kvs ep bs,v= .ref a/\ns=[(a,.dT kvs ep bs)]/\KB F kvs bs/\kvs.map (·.1)=ks/\Reps K F ds (kvs.map (·.2)):=by
 cases h with
 |oT kb e r=>exact⟨_,_,_,_,rfl,rfl,kb,e,r⟩
theorem KB.put(h:KB F kvs bs)(hb:F b=aA (.tup (k.map kV))):KB F (Qe kvs k v) (Pn kvs bs k b):=by
 unfold Qe Pn;split
 .unfold KB at*;clear hb;rename_i hq;clear hq;induction h with
  |nil=>exact .nil
  | @cons p c ps cs h1 t ih=>
   rw[bc];refine .cons ?_ ih;by_cases e:p.1=k
   .rw[if_pos e];exact h1
   .rw[if_neg e];exact h1
 .exact Paired.snoc h hb
theorem Yi.tupF(h:Yi K F H (.tup xs) v):∃a vs,v= .ref a/\F a=aA (.tup vs)/\Reps K F xs vs:=by
 obtain⟨sv,ns,e,n,sh,hp⟩:=h;cases sh with
 |fz r=>cases e;cases r with|tup h r=>exact⟨_,_,rfl,h,r⟩
 |ol r=>cases e
 |oK e' r=>cases e
 |oT kb e' r=>cases e
 |oN e' r=>cases n
 |oX kb' e' r=>cases n
 |oD r=>cases n
 |oM kb' e' r=>cases n
 |oL _ r=>cases n
 |oQ e' r=>cases e
theorem Zil(h:SV.isOD o=aC):∃sv,o=aA (aA sv):=by
 unfold SV.isOD at h;split at h
 .exact⟨_,rfl⟩
 .exact⟨_,rfl⟩
 .exact⟨_,rfl⟩
 .cases h
theorem Zq4(h:Z5 Z (Ir i fk fv) E σ H):Zdp (Bg i) (Ze Z fk) (Ze Z fv) E σ H:=by
 obtain⟨F,δ,own,fl,s,e,k⟩:=h;obtain⟨⟨rv,δ1⟩,e1,e⟩:=aa.mp e;obtain⟨⟨d,δ2⟩,e2,e⟩:=aa.mp e;dsimp only at e;split at e
 .rename_i hod;obtain⟨⟨rk,δ3⟩,e3,e⟩:=aa.mp e;obtain⟨kd,e4,e⟩:=aa.mp e;obtain⟨sv,e5,e⟩:=aa.mp e;cases e;refine⟨F,δ,own,rv,δ1,s,e1,λv H1 F1 own1 sH1 sF1 s1 r1=>?_⟩;obtain⟨F2,sF2,s2,r2⟩:=s1.settleR r1;obtain⟨F3,own3,sF3,s3,r3⟩:=s2.frzR r2 e2;obtain⟨sv0,hsv0⟩:=Zil hod;obtain⟨x,hx,_⟩:=s3.at' i sv0 hsv0;refine⟨x,hx,F3,δ2,own3,rk,δ3,s3,e3,λy H4 F4 own4 sH4 sF4 s4 r4=>?_⟩;obtain⟨F5,sF5,s5,r5⟩:=s4.settleR r4;have rk':=s5.rd r5 e4;have rd:Rep K F5 d v:=r3.mono (sF4.trans sF5);have sF:Zi F F5:=sF1.trans (sF2.trans (sF3.trans (sF4.trans sF5)));dsimp only at e5;generalize ho:δ3[i]? =o at e5;unfold Zq3 at e5;split at e5
  .rename_i ks vs;obtain⟨kk,f1,f2⟩:=aa.mp e5;split at f2
   .rename_i hz;cases f2;obtain⟨x',hx',sh⟩:=s5.at' i _ ho;rw[hx]at hx';cases hx';obtain⟨a,kvs,ep0,ea,en,rfl,rr⟩:=Zeo sh;subst ea;have mb:(a,HO.dK kvs ep0)∈own4 i:=by rw[en];exact af
    have hH:=(s5.ok i _ mb).2.2;have z:=Nd (k:=kk) rd kvs vs rr;refine⟨a,rfl,?_⟩;rw[Ar f1 rk'];refine Af.k ⟨_,hH⟩ (by rw[<-rr.length_map];exact hz) λep=>?_;exact k σ _ F5 _ sF (s5.change (sv':=.oK (Wv (kvs.map (·.1)) vs kk d).1 (Wv (kvs.map (·.1)) vs kk d).2) (o':=.dK (Qe kvs kk v) ep) (ns':=[(a,.dK (Qe kvs kk v) ep)]) ho hx mb (.oK z.1 z.2) (λp hp=>.inl (ar.mp hp)) Ix)
   .cases f2
  .rename_i ks vs;split at e5
   .rename_i xs;obtain⟨kk,f1,f2⟩:=aa.mp e5;split at f2
    .rename_i hz;cases f2;obtain⟨x',hx',sh⟩:=s5.at' i _ ho;rw[hx]at hx';cases hx';obtain⟨a,kvs,ep0,bs0,ea,en,kb,rfl,rr⟩:=Zeq sh;subst ea;have mb:(a,HO.dT kvs ep0 bs0)∈own4 i:=by rw[en];exact af
     have hH:=(s5.ok i _ mb).2.2;have z:=Nd (k:=kk) rd kvs vs rr;obtain⟨b,us,rfl,hbF,rb⟩:=rk'.tupF;rw[Nf f1 rb]at hbF;refine⟨a,rfl,Af.t ⟨_,_,hH⟩ (s5.le _ _ hbF) (by rw[<-rr.length_map];exact hz) λep ep1 bs1 hq=>?_⟩;rw[hH]at hq;cases hq;exact k σ _ F5 _ sF (s5.change (sv':=.oT (Wv (kvs.map (·.1)) vs kk d).1 (Wv (kvs.map (·.1)) vs kk d).2) (o':=.dT (Qe kvs kk v) ep (Pn kvs bs0 kk b)) (ns':=[(a,.dT (Qe kvs kk v) ep (Pn kvs bs0 kk b))]) ho hx mb (.oT (kb.put hbF) z.1 z.2) (λp hp=>.inl (ar.mp hp)) Ix)
    .cases f2
   .cases e5
  .rename_i q ks vs;obtain⟨kk,f1,f2⟩:=aa.mp e5;split at f2
   .rename_i hz;cases f2;obtain⟨x',hx',sh⟩:=s5.at' i _ ho;rw[hx]at hx';cases hx';obtain⟨kvs,ep0,ea,en,rfl,rr⟩:=Zep sh;subst ea;have mb:(q,HO.dK kvs ep0)∈own4 i:=by rw[en];exact af
    have hH:=(s5.ok i _ mb).2.2;have z:=Nd (k:=kk) rd kvs vs rr;refine⟨q,rfl,?_⟩;rw[Ar f1 rk'];refine Af.k ⟨_,hH⟩ (by rw[<-rr.length_map];exact hz) λep=>?_;exact k σ _ F5 _ sF (s5.change (sv':=.oQ q (Wv (kvs.map (·.1)) vs kk d).1 (Wv (kvs.map (·.1)) vs kk d).2) (o':=.dK (Qe kvs kk v) ep) (ns':=[(q,.dK (Qe kvs kk v) ep)]) ho hx mb (.oQ z.1 z.2) (λp hp=>.inl (ar.mp hp)) Ix)
   .cases f2
  .cases e5
 .cases e
@[simp]def Z0b(T:String)(g:D->List D->Option SV)(fo:FE)(fd:FD):FE:=λδ=>(fo δ).bind λp=>(Iw p.1 p.2).bind λd0=>if Zmu T d0=true then(fd p.2).bind λq=>(Iw p.1 q.2).bind λd1=>(g d1 q.1).bind λsv=>some (.tmp sv,q.2)else none
def Zx1(Z:Ent K)(r:V->List V->Hp->VK->Prop)(g:D->List D->Option SV):Prop:=
 ∀(F H:Hp) (σ:L2.St) (δ:Yk) (own:Nat->Zo) (x:V) (d:D) (vs:List V) (ds:List D) (sv:SV) (Q:VK),SR Z F H σ δ own->Yi K F H d x->Reps K F ds vs->g d ds=aA sv->Fin Z F H σ δ own sv Q->r x vs H Q
@[simp]def Zvv:D->List D->Option SV
 |d,[y]=>(Xj d y).bind λo=>aA (.fz (o.getD .non))
 |d,[y,z]=>(Xj d y).bind λo=>aA (.fz (o.getD z))
 |_,_=>aB
end
section
variable{X:Cx}{Z:Ent X.K}{a b c:cj}{fa fb fc:FE}{pos:Pos}
theorem Dm:PE X (.Dict [] [] pos) (Ze Z Dl):=Ro.imp λ_ _ _ h=>Zik h
theorem Dn(i){px p1}(hu:X.A.units+1<f6)(hb:PE X b (Ze Z fb))(hv':PE X a (Ze Z fa))(hN:X.N[i]? =aA x:=by rfl)(hv:Vs X.env.scope x:=by first|exact Or.inl rfl|exact gw (Or.inl rfl)|exact gw (gw rfl))(hd:(x==("__debug__":Str))=aD:=by decide)(hcd:(x==("__classdict__":Str))=aD:=by decide)(hs:swapsWith a (aA (.Subscript (.Name x px) b p1)) pos.line X.env=pure aD:=by rfl):
  PS X (.Assign [.Subscript (.Name x px) b p1] a pos) (Z5 Z (Ir i fb fa)):=(Db hu (Jy (i:=i) hN hv hd hcd) hb hv' hs).imp λ_ _ _ h=>Zq4 h
end
end DL
namespace L2
open PySem PySem.Spec PyProof.Rows
def Dp:List V->Hp->VK->Prop:=λxs H Q=>∃a kvs,xs=[.ref a]/\RdK H a kvs/\∀p ep,H p=aB->Q (.ref p) (Z9 H p (.dK kvs ep))
theorem Sg:Jo X (.type "dict") Dp:=by intro pins s σ H xs us Q I rs h;obtain⟨a,kvs,rfl,e,q⟩:=h;obtain⟨u,rfl,ru⟩:=Oc rs;cases ru;exact Zdr I e λp ep s' hp I'=>⟨.ref p,_,I',rfl,q p ep hp⟩
end L2
namespace DL
open PySem PySem.Spec PyProof.Rows L2
variable{K:ad}
section
variable{Z:Ent K}{H:Hp}{σ:L2.St}{Q:VK}
@[simp]noncomputable def Dq:List D->Option SV
 | [.dK ks vs]=>aA (.oK ks vs)
 |_=>aB
theorem Zer:Us Z Dp Dq:=by
 intro F H σ δ own vs ds sv Q s r e k;unfold Dq at e;split at e
 .cases e;cases r with
  |cons h t=>cases t;obtain⟨a,kvs,rfl,ha,ek,rr⟩:=h.dK s.le;exact⟨a,kvs,rfl,ha.rd,λp ep hp=>k.one s (.oK ek rr) hp⟩
 .cases e
@[simp]def Zvw(k:Str)(i:Nat):FE:=λδ=>match δ[i]? with
 |some (aA sv)=>aA (.tmp (.oK [.inr k] [sv.toD]),δ.set i (aA (.fz sv.toD)))
 |_=>aB
@[simp]def Zkv(ks:List Key)(vs:List D)(k:Key):List Key×List D:=(((ks.zip vs).filter λp=>decide (p.1≠k)).map (·.1),((ks.zip vs).filter λp=>decide (p.1≠k)).map (·.2))
@[simp]def Z0c(i:Nat)(fk:FE):FS:=λδ=>match δ[i]? with
 |some (aA (.oK _ _))=>(fk δ).bind λr=>(Iw r.1 r.2).bind λkd=>kd.key?.bind λk=>match r.2[i]? with
  |some (aA (.oK ks vs))=>if(look ks vs k).isSome=aC then aA (.nx (r.2.set i (aA (.oK (Zkv ks vs k).1 (Zkv ks vs k).2))))else aB
  |_=>aB
 |_=>aB
end
section
variable{X:Cx}{Z:Ent X.K}{a b c:cj}{fa fb fc:FE}{pos:Pos}
theorem Zes{p}(hm:X.mg "dict"=aB)(ha:PE X a (Ze Z fa))(hg:Gl X "dict":=by rfl)(he:a9 [a] X.env=(aD,gp a X.env)::a9 [] X.env:=by rfl)(hpl:(gq pos (a9 [] X.env)).any (·.1)=aD:=by rfl):PE X (.Call (.Name "dict" p) [a] [] pos) (Ze Z (Yq Dq (Zc fa Zj))):=
 Rs Sg Zer hm boot_dict (Zk ha Ya he) hg (by decide) (by decide) he hpl
end
end DL
namespace L2
open PySem PySem.Spec PyProof.Rows
theorem Xm(h:Q 0xFCA86420 {s with toks:=s.toks+1}):bg (b4 prog w) A (pyHash .none) Q E s:=by have hT:s.TypeIs .none "NoneType":=rfl;refine PySem.W.pyHash_slot (v:=.none) (Q:=Q) hT F.slot_NoneType_hash F.entry_NoneType_hash (F.args_NoneType_hash_1 _) rfl (.inl rfl) ?_;show bg (b4 prog w) A.in1 (mkInt 0xFCA86420 >>=λv=>ret v) _ E s;refine ac (wpAny_mkInt ?_);exact ag ⟨_,_,rfl,h⟩
def Zet:Option Key->ah->Bool
 |none,.none=>aC
 |none,_=>aD
 |some k,v=>Gn k v
theorem Y3(h:Zet k v=aC):(k=aB/\v= .none)\/∃j,k=aA j/\Gn j v=aC:=by
 cases k with
 |none=>cases v<;> first|exact .inl ⟨rfl,rfl⟩|cases h
 |some j=>exact .inr ⟨j,rfl,h⟩
theorem As(h:Gn j .none=aC):False:=by rcases Z6 h with⟨i,t,_,e⟩|⟨x,t,_,e⟩<;> cases e
def Ng(prog:b6)(w:c7):PySem.KeyKind prog w (Option Key)where
 is:=Zet
 hash:=λ|none=>0xFCA86420|some k=>(Zr prog w).hash k
 inj:=λv a b ha hb=>by
  rcases Y3 ha with⟨rfl,rfl⟩|⟨i,rfl,hi⟩
  .rcases Y3 hb with⟨rfl,_⟩|⟨j,rfl,hj⟩
   .rfl
   .exact(As hj).elim
  .rcases Y3 hb with⟨rfl,rfl⟩|⟨j,rfl,hj⟩
   .exact(As hi).elim
   .rw[(Zr prog w).inj v i j hi hj]
 byValue:=λk v h=>by
  rcases Y3 h with⟨rfl,rfl⟩|⟨i,rfl,hi⟩
  .rfl
  .exact(Zr prog w).byValue i v hi
 pyHash:=fun{A E s k v Q} hv h=>by
  rcases Y3 hv with⟨rfl,rfl⟩|⟨i,rfl,hi⟩
  .exact Xm h
  .exact(Zr prog w).pyHash hi h
 eqBool:=fun{A E s a b u v Q} hu hv h=>by
  rcases Y3 hu with⟨rfl,rfl⟩|⟨i,rfl,hi⟩
  .rcases Y3 hv with⟨rfl,rfl⟩|⟨j,rfl,hj⟩
   .exact SeqAt.EqAt.same _ _ _ _ _ (by simpa using h)
   .rw[decide_eq_false (λz=>nomatch z)]at h;rcases Z6 hj with⟨i,t,rfl,rfl⟩|⟨x,t,rfl,rfl⟩
    .exact SeqAt.EqAt.none_int i t _ _ _ _ h
    .exact SeqAt.EqAt.none_str x t _ _ _ _ h
  .rcases Y3 hv with⟨rfl,rfl⟩|⟨j,rfl,hj⟩
   .rw[decide_eq_false (λz=>nomatch z)]at h;rcases Z6 hi with⟨i,t,rfl,rfl⟩|⟨x,t,rfl,rfl⟩
    .exact SeqAt.EqAt.int_none i t _ _ _ _ h
    .exact SeqAt.EqAt.str_none x t _ _ _ _ h
   .refine(Zr prog w).eqBool hi hj ?_;have e:decide (aA i=aA j)=decide (i=j):=by simp
    rw[<-e];exact h
 «strs»:=λk x t v h=>by
  rcases Y3 h with⟨rfl,e⟩|⟨i,rfl,hi⟩
  .cases e
  .exact(Zr prog w).strs i x t v hi
theorem Dr{h:d6}(d:h.DictOf (Zr P w) a vs):h.MapOf (Ng P w) a (λ|none=>aB|some k=>valueAt vs k):=by
 obtain⟨o,es,ep,ho,hc,hd,hk,hf⟩:=d.mapOf;refine⟨o,es,ep,ho,hc,hd,λe he=>?_,λk=>?_⟩
 .obtain⟨k,h1,h2⟩:=hk e he;exact⟨aA k,h1,h2⟩
 .cases k with
  |some k=>exact hf k
  |none=>
   show(es.find? λe=>Zet aB e.key).map (·.val)=aB;rw[Array.find?_eq_none.mpr λe he z=>?_]
   .rfl
   .obtain⟨k,h1,_⟩:=hk e he;rcases Y3 z with⟨_,e2⟩|⟨j,e2,_⟩
    .rw[e2]at h1;exact As h1
    .cases e2
def Mp(neg:Bool):R2:=λy x H Q=>∃a kvs,y= .non/\x= .ref a/\RdK H a kvs/\Q (.bl neg) H
theorem Zby:Cf X (g9 .In) (Mp aD):=by intro pins s σ H y x v u Q I ry rx h;obtain⟨a,kvs,rfl,rfl,e,q⟩:=h;cases ry;cases rx;obtain⟨z,hd,vs,rel,dd⟩:=Tc I.hok e;exact wpAny_in_of (knd:=Ng X.prog X.w) (k:=aB) rfl hd (Dr dd) ⟨.bl aD,H,I.tok _,rfl,q⟩
theorem Nh:Cf X (g9 .NotIn) (Mp aC):=by intro pins s σ H y x v u Q I ry rx h;obtain⟨a,kvs,rfl,rfl,e,q⟩:=h;cases ry;cases rx;obtain⟨z,hd,vs,rel,dd⟩:=Tc I.hok e;exact wpAny_notIn_of (knd:=Ng X.prog X.w) (k:=aB) rfl hd (Dr dd) ⟨.bl aC,H,I.tok _,rfl,q⟩
end L2
namespace L2
open PySem PySem.Spec PyProof.Rows
def Zm4(es:Array DictEntry)(kvs:List (Str×ah)):Prop:=es.size=kvs.length/\∀(i:Nat) (p:Str×ah),kvs[i]? =aA p->∃e t,es[i]? =aA e/\e.key= .str p.1 t/\e.val=p.2
def Zx2(h:d6)(a:aj)(kvs:List (Str×ah)):Prop:=∃o es ep,h.get? a=aA o/\o.ExactDict/\o.data= .dict es ep/\Zm4 es kvs
noncomputable def place(kvs:List (Str×ah))(x:Str):Option Nat:=kvs.findIdx? λp=>decide (p.1=x)
inductive SHits(A:dh)(s:am)(kb:List (Str×ah)):List (Str×ah)->Bool->Prop where
 |nil:SHits A s kb [] aC
 |miss {k:Str} {v:ah} {r:List (Str×ah)}:place kb k=aB->SHits A s kb ((k,v)::r) aD
 |hit {k:Str} {v:ah} {r:List (Str×ah)} {j:Nat} {p:Str×ah} {e b:Bool}:place kb k=aA j->kb[j]? =aA p->SeqAt.EqAt A s v p.2 e->SHits A s kb r b->SHits A s kb ((k,v)::r) (e&&b)
end L2
namespace DL
open PySem PySem.Spec PyProof.Rows L2
@[simp]def strK?:List Key->Option (List Str)
 | []=>aA []
 | .inr x::r=>(strK? r).bind λt=>aA (x::t)
 |_=>aB
@[simp]def Zq5(f:D->D->Option Bool)(ys:List Str)(us:List D):List Str->List D->Option Bool
 |x::xs,v::vs=>match look ys us x with
  |none=>aA aD
  |some u=>(f v u).bind λb=>(Zq5 f ys us xs vs).bind λc=>aA (b&&c)
 |_,_=>aA aC
@[simp]def Zim(f:D->D->Option Bool):D->D->Option Bool
 | .dK ks vs,.dK ks' vs'=>(strK? ks).bind λxs=>(strK? ks').bind λys=>if xs.length=ys.length then Zq5 f ys vs' xs vs else aA aD
 |d1,d2=>G3 f d1 d2
@[simp]def eqM:Nat->D->D->Option Bool
 |0=>λ_ _=>aB
 |n+1=>Zim (eqM n)
end DL
namespace DL
open PySem PySem.Spec PyProof.Rows L2
def Z0d(K:ad)(neg:Bool):R2:=λx y H Q=>∃F d1 d2 b,Zi F H/\Yi K F H d1 x/\Yi K F H d2 y/\eqM 48 d1 d2=aA b/\(Y2 x=aD\/Y2 y=aD)/\Q (.bl (if neg then !b else b)) H
end DL
namespace DL
open PySem PySem.Spec PyProof.Rows L2
variable{K:ad}
@[simp]def eqY(d1 d2:D):Option SV:=if d1.isFlat=true/\d2.isFlat=true then eqD d1 d2 else(eqM 48 d1 d2).bind λb=>some (.fz (.bl b))
@[simp]def neY(d1 d2:D):Option SV:=if d1.isFlat=true/\d2.isFlat=true then neD d1 d2 else(eqM 48 d1 d2).bind λb=>some (.fz (.bl !b))
@[simp]def inY(d1 d2:D):Option SV:=match d1,d2 with
 | .non,.dK _ _=>aA (.fz (.bl aD))
 |_,_=>inX d1 d2
@[simp]def Xn(d1 d2:D):Option SV:=match d1,d2 with
 | .non,.dK _ _=>aA (.fz (.bl aC))
 |_,_=>Xl d1 d2
section
variable{Z:Ent K}
theorem Zq6:Y7 Z (λx y H Q=>((∃i j,x= .str i/\y= .str j/\Q (.bl (!(dj j i 0 j.length 1).isEmpty)) H)\/Zek x y H Q)\/Mp aD x y H Q) inY:=by
 intro F H σ δ own x y d1 d2 sv Q s r1 r2 e k;unfold inY at e;split at e
 .cases e;obtain⟨a,kvs,rfl,ha,_,_⟩:=r2.dK s.le;exact .inr ⟨a,kvs,r1.non,rfl,ha.rd,k.fz s (.bl _)⟩
 .exact .inl (Zq2 F H σ δ own x y d1 d2 sv Q s r1 r2 e k)
theorem Zeu:Y7 Z (λx y H Q=>((∃i j,x= .str i/\y= .str j/\Q (.bl (!(!(dj j i 0 j.length 1).isEmpty))) H)\/Ru x y H Q)\/Mp aC x y H Q) Xn:=by
 intro F H σ δ own x y d1 d2 sv Q s r1 r2 e k;unfold Xn at e;split at e
 .cases e;obtain⟨a,kvs,rfl,ha,_,_⟩:=r2.dK s.le;exact .inr ⟨a,kvs,r1.non,rfl,ha.rd,k.fz s (.bl _)⟩
 .exact .inl (Zen F H σ δ own x y d1 d2 sv Q s r1 r2 e k)
end
end DL
namespace DL
open PySem PySem.Spec PyProof.Rows L2
variable{K:ad}
theorem SR.changeT{Z:Ent K}(s:SR Z F H σ δ own)(t:TmpOk Z F H own svT vT nsT)(e:δ[i]? =aA (aA sv))(hv:σ[i]? =aA (aA v))(ha:(a,o)∈own i)(hs:Shape K F sv' v ns')(hns:∀p∈ns',p=(a,o')\/(p∈own i/\p.1≠a)\/p∈nsT)(nd:(Bf ns').Nodup):SR Z F (Z9 H a o') σ (δ.set i (aA sv')) (put own i ns'):=by
 obtain⟨fa,ha0,hHa⟩:=s.ok i (a,o) ha;have hi:i<δ.length:=(a8.mp e).1;refine⟨λb u eb=>?_,s.fro,λb u eb=>?_,by rw[List.length_set];exact s.len,λj sw ej=>?_,λj=>?_,λj p hp=>?_,λj k p q hjk hp hq=>?_⟩
 .rw[Zw λz=>by rw[z]at eb;rw[fa]at eb;cases eb];exact s.le b u eb
 .rw[Zw λz=>by rw[z]at eb;rw[ha0]at eb;cases eb];exact s.old b u eb
 .by_cases hj:j=i
  .subst hj;rw[d5 hi]at ej;cases ej;rw[Yh];exact⟨v,hv,hs⟩
  .rw[fj (Ne.symm hj)]at ej;rw[Yw hj];exact s.at' j sw ej
 .by_cases hj:j=i
  .subst hj;rw[Yh];exact nd
  .rw[Yw hj];exact s.nod j
 .by_cases hj:j=i
  .subst hj;rw[Yh]at hp;rcases hns p hp with z|⟨z,ne⟩|z
   .subst z;exact⟨fa,ha0,Z3⟩
   .obtain⟨x,y,w⟩:=s.ok j p z;exact⟨x,y,by rw[Zw ne];exact w⟩
   .obtain⟨x,y,w⟩:=t.ok p z;exact⟨x,y,by rw[Zw (t.sep j p (a,o) z ha)];exact w⟩
  .rw[Yw hj]at hp;obtain⟨x,y,w⟩:=s.ok j p hp;exact⟨x,y,by rw[Zw (s.sep j i p (a,o) hj hp ha)];exact w⟩
 .have far:∀(l:Nat) (r q:aj×HO),l≠i->r∈ns'->q∈own l->r.1≠q.1:=λl r q hl hr hq=>by
   rcases hns r hr with z|⟨z,_⟩|z
   .subst z;exact s.sep i l (a,o) q (Ne.symm hl) ha hq
   .exact s.sep i l r q (Ne.symm hl) z hq
   .exact t.sep l r q z hq
  by_cases hj:j=i
  .subst hj;rw[Yh]at hp;rw[Yw (Ne.symm hjk)]at hq;exact far k p q (Ne.symm hjk) hp hq
  .by_cases hk:k=i
   .subst hk;rw[Yh]at hq;rw[Yw hj]at hp;exact λz=>far j q p hj hq hp z.symm
   .rw[Yw hj]at hp;rw[Yw hk]at hq;exact s.sep j k p q hjk hp hq
theorem Kids.snoc:∀{xss:List (List D)} {ws:List V} {ns:Zo} {xs:List D} {b:aj} {vs:List V},Kids K F xss ws ns->Reps K F xs vs->Kids K F (xss++[xs]) (ws++[.ref b]) (ns++[(b,.lst vs)])
 |_,_,_,_,_,_,.nil,r=>.cons r .nil
 |_,_,_,_,_,_,.cons h t,r=>.cons h (t.snoc r)
@[simp]def Zx3:FE:=λδ=>some (.tmp (.oN [] []),δ)
@[simp]def Zx4(i j:Nat):FS:=λδ=>match δ[i]?,δ[j]? with
 |some (aA (.oN ks xss)),aA (aA (.fz kd))=>kd.key?.bind λk=>if(ks.any λx=>decide (x=k))=aD/\xss.length<bd then aA (.nx (δ.set i (aA (.oN (ks++[k]) (xss++[[]])))))else aB
 |_,_=>aB
theorem Kids.length:∀{xss:List (List D)} {ws:List V} {ns:Zo},Kids K F xss ws ns->xss.length=ws.length
 |_,_,_,.nil=>rfl
 |_,_,_,.cons _ t=>by rw[bf,bf,t.length]
theorem Kids.ref:∀{xss:List (List D)} {ws:List V} {ns:Zo} {p:Nat} {v:V},Kids K F xss ws ns->ws[p]? =aA v->∃b,v= .ref b
 |_,_,_,_,_,.nil,e=>by simp at e
 |_,_,_,0,_,.cons _ _,e=>by simp at e;exact⟨_,e.symm⟩
 |_,_,_,p+1,_,.cons _ t,e=>t.ref (p:=p) (by simpa using e)
@[simp]def Zev:List Key->Key->Option Nat
 | [],_=>aB
 |a::r,k=>if a=k then aA 0 else(Zev r k).map (· +1)
@[simp]def Zx5(i j:Nat)(fe:FE):FS:=λδ=>match δ[i]?,δ[j]? with
 |some (aA (.oN ks _)),aA (aA (.fz kd))=>kd.key?.bind λk=>(Zev ks k).bind λp=>(fe δ).bind λq=>(frz q.1 q.2).bind λr=>match r.2[i]? with
  |some (aA (.oN ks' xss))=>if ks'=ks then(xss[p]?).bind λxs=>if xs.length<bd then aA (.nx (r.2.set i (aA (.oN ks (xss.set p (xs++[r.1]))))))else aB else aB
  |_=>aB
 |_,_=>aB
end DL
namespace DL
open PySem PySem.Spec PyProof.Rows L2
variable{K:ad}
@[simp]def Zin(fe:FE):FS:=λδ=>(fe δ).bind λp=>(frz p.1 p.2).bind λq=>some (.rt (.fz q.1))
theorem Zm5{Z:Ent K}(h:Z5 Z (Zin fe) E σ H):Zl1 (Ze Z fe) E σ H:=by obtain⟨F,δ,own,fl,s,e,k⟩:=h;obtain⟨⟨rv,δ1⟩,e1,e2⟩:=aa.mp e;obtain⟨⟨d,δ2⟩,e3,e4⟩:=aa.mp e2;cases e4;refine⟨F,δ,own,rv,δ1,s,e1,λv H1 F1 own1 sH sF s1 r1=>?_⟩;obtain⟨F2,sF2,s2,r2⟩:=s1.settleR r1;obtain⟨F3,own3,sF3,s3,r3⟩:=s2.frzR r2 e3;exact k v H1 F3 [] (sF.trans (sF2.trans sF3)) s3.le s3.fro s3.old (.fz r3) df λ_ h=>(nomatch h)
section
variable{X:Cx}{Z:Ent X.K}{a b c:cj}{fa fb fc:FE}{pos:Pos}
theorem Zew(h:PE X a (Ze Z fa)):PS X (.Return (aA a) pos) (Z5 Z (Zin fa)):=(Zc1 h).imp λ_ _ _ h=>Zm5 h
end
end DL
namespace L2
open PySem PySem.Spec PyProof.Rows
def Ztf(K:ad):V->List V->Hp->VK->Prop:=λx xs H Q=>∃p ys y j,x= .ref p/\xs=[y]/\W5 K H p ys/\Y2 y=aC/\ys.all Y2=aC/\(ys.findIdx? λz=>Pu z y)=aA j/\Q (.int (j:Nat)) H
def Ztg:V->List V->Hp->VK->Prop:=λx xs H Q=>∃a b i rest,x= .str a/\xs=[.str b]/\dj a b 0 a.length 1=i::rest/\Q (.int (i:Nat)) H
def Zth:V->List V->Hp->VK->Prop:=λx xs H Q=>∃a b,x= .str a/\xs=[.str b]/\a.length<=sizeLine/\Q (.str (Txt.rstripChars a b)) H
def Zkw:R2:=λx y H Q=>∃a k,x= .str a/\y= .int k/\MulOk a k/\Q (.str (Txt.mul a k)) H
theorem Zio:Cf X (binaryOp .Mult) Zkw:=by intro pins s σ H x y v u Q I rx ry h;obtain⟨a,k,rfl,rfl,hm,q⟩:=h;obtain⟨t,rfl⟩:=rx;obtain⟨t',rfl⟩:=ry;exact SB.mul hm λt' k=>⟨.str _,H,I.tok _,⟨_,rfl⟩,q⟩
end L2
namespace DL
open PySem PySem.Spec PyProof.Rows L2
variable{K:ad}
@[simp]noncomputable def D.fv:D->V
 | .bl b=>.bl b
 | .int i=>.int i
 | .str x=>.str x
 |_=>.non
theorem Zex(r:Yi K F H d x)(h:d.isFlat=aC):x=d.fv/\Y2 x=aC:=by
 cases d with
 |non=>rw[r.non];exact⟨rfl,rfl⟩
 |bl b=>rw[r.bl];exact⟨rfl,rfl⟩
 |int i=>rw[r.int];exact⟨rfl,rfl⟩
 |str y=>rw[r.str];exact⟨rfl,rfl⟩
 |_=>cases h
theorem Xo:∀{ds:List D} {vs:List V},Reps K F ds vs->ds.all D.isFlat=aC->vs=ds.map D.fv/\vs.all Y2=aC
 |_,_,.nil,_=>⟨rfl,rfl⟩
 |_,_,.cons h t,e=>by rw[List.all_cons,Bool.and_eq_true]at e;obtain⟨a1,a2⟩:=Zex (H:=F) (Yi.of h) e.1;obtain⟨b1,b2⟩:=Xo t e.2;refine⟨by rw[bc,<-a1,<-b1],by rw[List.all_cons,a2,b2];rfl⟩
def Xp(y x:D):Bool:=Pu y.fv x.fv
@[simp]theorem Zq7(a b):Xp (.str a) (.str b)=decide (a=b):=by
 show(a==b)=decide (a=b);by_cases h:a=b
 .subst h;simp
 .rw[decide_eq_false h];exact beq_eq_false_iff_ne.mpr h
@[simp]theorem Zti(a b):Xp (.bl a) (.bl b)=decide (a=b):=by cases a<;> cases b<;> rfl
@[simp]theorem Zq8:Xp .non .non=true:=rfl
@[simp]theorem Ztj(a):Xp (.str a) .non=false:=rfl
def Zbz(x:D)(xs:List D):Bool:=xs.any λy=>Xp y x
theorem Ds:inV d.fv (ds.map D.fv)=Zbz d ds:=by unfold inV Zbz;rw[List.any_map];rfl
noncomputable def D.seq?:D->Option (List D)
 | .lst xs=>aA xs
 | .tup xs=>aA xs
 |_=>aB
@[simp]theorem Ztk(xs):D.seq? (.lst xs)=some xs:=rfl
@[simp]theorem Ztl(xs):D.seq? (.tup xs)=some xs:=rfl
@[simp]theorem Ztm(x):D.seq? (.str x)=none:=rfl
@[simp]theorem Zvy(ks vs):D.seq? (.dK ks vs)=none:=rfl
@[simp]theorem Zvz(ks vs):D.seq? (.dT ks vs)=none:=rfl
@[simp]def inZ(d1 d2:D):Option SV:=match d2.seq? with
 |some xs=>if d1.isFlat=aC/\xs.all D.isFlat=aC then aA (.fz (.bl (Zbz d1 xs)))else aB
 |none=>inY d1 d2
@[simp]def Au(d1 d2:D):Option SV:=match d2.seq? with
 |some xs=>if d1.isFlat=aC/\xs.all D.isFlat=aC then aA (.fz (.bl (!Zbz d1 xs)))else aB
 |none=>Xn d1 d2
section
variable{Z:Ent K}{H:Hp}{σ:L2.St}{Q:VK}{E:Ends}
theorem Zey(le:Zi F H)(r:Yi K F H d x)(h:d.seq? =aA xs):∃a vs,x= .ref a/\(W5 K H a vs\/Ob K H a vs)/\Reps K F xs vs:=by
 cases d with
 |lst ys=>cases h;obtain⟨a,vs,e,q,rr⟩:=r.lst le;exact⟨a,vs,e,.inl q,rr⟩
 |tup ys=>cases h;obtain⟨a,vs,e,q,rr⟩:=r.tup le;exact⟨a,vs,e,.inr q,rr⟩
 |_=>cases h
theorem Zq9:Y7 Z (λx y H Q=>(((∃i j,x= .str i/\y= .str j/\Q (.bl (!(dj j i 0 j.length 1).isEmpty)) H)\/Zek x y H Q)\/Mp aD x y H Q)\/rIn K aD x y H Q) inZ:=by
 intro F H σ δ own x y d1 d2 sv Q s r1 r2 e k;unfold inZ at e;split at e
 .rename_i xs hx;split at e
  .rename_i hf;cases e;obtain⟨a,vs,rfl,hq,rr⟩:=Zey s.le r2 hx;obtain⟨e1,f1⟩:=Zex r1 hf.1;obtain⟨e2,f2⟩:=Xo rr hf.2;refine .inr ⟨a,vs,rfl,hq,f1,f2,?_⟩;rw[e1,e2,Ds];exact k.fz s (.bl _)
  .cases e
 .exact .inl (Zq6 F H σ δ own x y d1 d2 sv Q s r1 r2 e k)
theorem Zez:Y7 Z (λx y H Q=>(((∃i j,x= .str i/\y= .str j/\Q (.bl (!(!(dj j i 0 j.length 1).isEmpty))) H)\/Ru x y H Q)\/Mp aC x y H Q)\/rIn K aC x y H Q) Au:=by
 intro F H σ δ own x y d1 d2 sv Q s r1 r2 e k;unfold Au at e;split at e
 .rename_i xs hx;split at e
  .rename_i hf;cases e;obtain⟨a,vs,rfl,hq,rr⟩:=Zey s.le r2 hx;obtain⟨e1,f1⟩:=Zex r1 hf.1;obtain⟨e2,f2⟩:=Xo rr hf.2;refine .inr ⟨a,vs,rfl,hq,f1,f2,?_⟩;rw[e1,e2,Ds];exact k.fz s (.bl _)
  .cases e
 .exact .inl (Zeu F H σ δ own x y d1 d2 sv Q s r1 r2 e k)
@[simp]def Zv0:List D->Option SV
 | [.lst xs,x]=>if x.isFlat=aC/\xs.all D.isFlat=aC then(xs.findIdx? λy=>Xp y x).bind λj=>aA (.fz (.int (j:Nat)))else aB
 |_=>aB
@[simp]noncomputable def Zto:List D->Option SV
 | [.str a,.str b]=>match dj a b 0 a.length 1 with
  |i::_=>aA (.fz (.int (i:Nat)))
  | []=>aB
 |_=>aB
@[simp]noncomputable def Ztp:List D->Option SV
 | [.str a,.str b]=>if a.length<=bd then aA (.fz (.str (Txt.rstripChars a b)))else aB
 |_=>aB
open Classical in
noncomputable def Zip(a:Str)(k:Int):Option SV:=if MulOk a k then aA (.fz (.str (Txt.mul a k)))else aB
theorem Ziq(h:Zip a k=aA sv):MulOk a k/\sv= .fz (.str (Txt.mul a k)):=by
 unfold Zip at h;split at h
 .rename_i hm;cases h;exact⟨hm,rfl⟩
 .cases h
def Dt(i j:Int):Prop:=Zd4 i j=aC
open Classical in
noncomputable def Si(i j:Int):Option SV:=if Dt i j then aA (.fz (.int (i*j)))else aB
theorem Zir(h:Si i j=aA sv):Zqf (.int i) (.int j)=aA sv:=by
 unfold Si at h;split at h
 .rename_i hc;cases h;unfold Dt at hc;simp[hc]
 .cases h
theorem Xq(h:-(2^64)<j/\j<2^64):Si i j=aA (.fz (.int (i*j))):=by unfold Si;rw[if_pos];unfold Dt Zd4;rw[decide_eq_true h.1,decide_eq_true h.2];simp
theorem Xr(h:-(2^64)<i/\i<2^64):Si i j=aA (.fz (.int (i*j))):=by unfold Si;rw[if_pos];unfold Dt Zd4;rw[decide_eq_true h.1,decide_eq_true h.2];simp
def Av:D->D->Option SV
 | .str a,.int k=>Zip a k
 | .int i,.int j=>Si i j
 |_,_=>aB
@[simp]theorem Ztq(a k):Av (.str a) (.int k)=Zip a k:=rfl
@[simp]theorem Ztr(i j):Av (.int i) (.int j)=Si i j:=rfl
theorem Zm6:Y7 Z (λx y H Q=>rI Zc9 (λi j=>V.int (i*j)) x y H Q\/Zkw x y H Q) Av:=by
 intro F H σ δ own x y d1 d2 sv Q s r1 r2 e k;unfold Av at e;split at e
 .obtain⟨hm,rfl⟩:=Ziq e;exact .inr ⟨_,_,r1.str,r2.int,hm,k.fz s (.str _)⟩
 .exact .inl (Zqi F H σ δ own x y _ _ sv Q s r1 r2 (Zir e) k)
 .cases e
@[simp]noncomputable def Zb0:List D->Option SV
 | [.int i]=>if i.natAbs.log2<1920 then aA (.fz (.str (toString i)))else aB
 |_=>aB
theorem Zm7:Us Z (λxs H Q=>∃i,xs=[.int i]/\i.natAbs.log2<1920/\Q (.str (toString i)) H) Zb0:=by
 intro F H σ δ own vs ds sv Q s r e k;unfold Zb0 at e;split at e
 .split at e
  .rename_i hm;cases e;cases r with
   |cons h1 t=>cases t;exact⟨_,by rw[h1.int],hm,k.fz s (.str _)⟩
  .cases e
 .cases e
@[simp]def Zkx(kd d:D):Option (Option SV)->Option SV
 |some (aA (.ol xs))=>match kd with
  | .int i=>(ixN xs.length i).bind λj=>aA (.ol (xs.set j d))
  |_=>aB
 |_=>aB
@[simp]noncomputable def SV.isOL:Option (Option SV)->Bool
 |some (aA (.ol _))=>aC
 |_=>aD
theorem Zis(h:SV.isOL o=aC):∃xs,o=aA (aA (.ol xs)):=by
 unfold SV.isOL at h;split at h
 .exact⟨_,rfl⟩
 .cases h
@[simp]def Du(i:Nat)(fk fv:FE):FS:=λδ=>(fv δ).bind λp=>(frz p.1 p.2).bind λq=>if SV.isOL (q.2[i]?)=true then(fk q.2).bind λr=>(Iw r.1 r.2).bind λkd=>(Zkx kd q.1 (r.2[i]?)).bind λsv=>some (.nx (r.2.set i (some sv)))else none
theorem Reps.set(h:Rep K F d v):∀{ds:List D} {vs:List V} j,Reps K F ds vs->Reps K F (ds.set j d) (vs.set j v)
 |_,_,_,.nil=>.nil
 |_,_,0,.cons _ t=>.cons h t
 |_,_,j+1,.cons g t=>.cons g (Reps.set h j t)
theorem Zm8(h:Z5 Z (Du i fk fv) E σ H):Vx (Ze Z fv) (Zo8 (Bg i) (Ze Z fk) Zkb) E σ H:=by
 obtain⟨F,δ,own,fl,s,e,k⟩:=h;obtain⟨⟨rv,δ1⟩,e1,e⟩:=aa.mp e;obtain⟨⟨d,δ2⟩,e2,e⟩:=aa.mp e;dsimp only at e;split at e
 .rename_i hol;obtain⟨⟨rk,δ3⟩,e3,e⟩:=aa.mp e;obtain⟨kd,e4,e⟩:=aa.mp e;obtain⟨sv,e5,e⟩:=aa.mp e;cases e;refine⟨F,δ,own,rv,δ1,s,e1,λv H1 F1 own1 sH1 sF1 s1 r1=>?_⟩;obtain⟨F2,sF2,s2,r2⟩:=s1.settleR r1;obtain⟨F3,own3,sF3,s3,r3⟩:=s2.frzR r2 e2;obtain⟨xs0,hxs0⟩:=Zis hol;obtain⟨x,hx,_⟩:=s3.at' i _ hxs0;refine⟨x,hx,F3,δ2,own3,rk,δ3,s3,e3,λy H4 F4 own4 sH4 sF4 s4 r4=>?_⟩;obtain⟨F5,sF5,s5,r5⟩:=s4.settleR r4;have rk':=s5.rd r5 e4;have rd:Rep K F5 d v:=r3.mono (sF4.trans sF5);have sF:Zi F F5:=sF1.trans (sF2.trans (sF3.trans (sF4.trans sF5)));dsimp only at e5;generalize ho:δ3[i]? =o at e5;unfold Zkx at e5;split at e5
  .rename_i xs;split at e5
   .rename_i n;obtain⟨j,f1,f2⟩:=aa.mp e5;cases f2;obtain⟨x',hx',sh⟩:=s5.at' i _ ho;rw[hx]at hx';cases hx';obtain⟨a,vs,ea,en,rr⟩:=Jr sh;subst ea;have mb:(a,HO.lst vs)∈own4 i:=by rw[en];exact af
    have hH:=(s5.ok i _ mb).2.2;refine⟨a,vs,n,j,rfl,rk'.int,hH,by rw[<-rr.length];exact f1,?_⟩;exact k σ _ F5 _ sF (s5.change (sv':=.ol (xs.set j d)) (o':=.lst (vs.set j v)) (ns':=[(a,.lst (vs.set j v))]) ho hx mb (.ol (Reps.set rd j rr)) (λp hp=>.inl (ar.mp hp)) Ix)
   .cases e5
  .cases e5
 .cases e
@[simp]noncomputable def SV.ol?:RV->Option (List D)
 | .tmp (.ol ys)=>aA ys
 |_=>aB
@[simp]def Zv1(i:Nat)(fe:FE):FS:=λδ=>match δ[i]? with
 |some (aA (.ol _))=>(fe δ).bind λp=>(SV.ol? p.1).bind λys=>match p.2[i]? with
  |some (aA (.ol xs))=>if xs.length+ys.length<=bd then aA (.nx (p.2.set i (aA (.ol (xs++ys)))))else aB
  |_=>aB
 |_=>aB
end
section
variable{X:Cx}{Z:Ent X.K}{a b c:cj}{fa fb fc:FE}{pos:Pos}
theorem Zra(hu:X.A.units+1<f6)(ha:PE X a (Ze Z fa))(hb:PE X b (Ze Z fb))(hm:behindInMarks .In b=aD:=by rfl):PE X (.Compare a [.In] [b] pos) (Ze Z (Zm inZ fa fb)):=Zkq (((Zbe.or (Xi hu)).or Zby).or Zbj) Zq9 ha hb hm
theorem Sj(hu:X.A.units+1<f6)(ha:PE X a (Ze Z fa))(hb:PE X b (Ze Z fb))(hm:behindInMarks .NotIn b=aD:=by rfl):PT X (.Compare a [.NotIn] [b] pos) (Yl Z (Ys (Zm Au fa fb))):=Kb (((Ls.or (I8 hu)).or Nh).or Lr) Zez ha hb hm
theorem Mq(ha:PE X a (Ze Z fa))(hb:PE X b (Ze Z fb)):PE X (.BinOp a .Mult b pos) (Ze Z (Zm Av fa fb)):=Df (Zl7.or Zio) Zm6 ha hb
theorem Zm9{p}(hm:X.mg "str"=aB)(ha:PE X a (Ze Z fa))(hg:Gl X "str":=by rfl)(he:a9 [a] X.env=(aD,gp a X.env)::a9 [] X.env:=by rfl)(hpl:(gq pos (a9 [] X.env)).any (·.1)=aD:=by rfl):PE X (.Call (.Name "str" p) [a] [] pos) (Ze Z (Yq Zb0 (Zc fa Zj))):=
 Rs Lm Zm7 hm boot_str (Zk ha Ya he) hg (by decide) (by decide) he hpl
theorem Zna(i){px p1}(hb:PE X b (Ze Z fb))(hv':PE X a (Ze Z fa))(hN:X.N[i]? =aA x:=by rfl)(hv:Vs X.env.scope x:=by first|exact Or.inl rfl|exact gw (Or.inl rfl)|exact gw (gw rfl))(hd:(x==("__debug__":Str))=aD:=by decide)(hcd:(x==("__classdict__":Str))=aD:=by decide)(hs:swapsWithSole [.Subscript (.Name x px) b p1] a pos.line X.env=pure aD:=by rfl)(hw:swappedStores [.Subscript (.Name x px) b p1] a X.env=pure aB:=by rfl)(h1:(assignEach [.Subscript (.Name x px) b p1] X.env).map (·.2)=[assign (.Subscript (.Name x px) b p1) X.env]:=by rfl)(ha:∀v,assign (.Subscript (.Name x px) b p1) X.env v=(do
   let ov<-holding [v] (gp (.Name x px) X.env);let iv<-holding [v,ov] (gp b X.env)
   standAt p1
   holding [v,ov,iv] (setItem ov iv v)
   release [v,ov,iv] []):=by intro _;rfl):
  PS X (.Assign [.Subscript (.Name x px) b p1] a pos) (Z5 Z (Du i fb fa)):=(Zc4 hv' (Zl3 (Jy (i:=i) hN hv hd hcd) hb Zdh ha) hs hw h1).imp λ_ _ _ h=>Zm8 h
end
end DL
namespace DL
open PySem PySem.Spec PyProof.Rows L2
end DL
namespace DL
open PySem PySem.Spec PyProof.Rows L2
variable{K:ad}
@[simp]def Dv(f:FT):FT:=λδ=>(f δ).bind λp=>some (p.1,δ)
theorem Zit{Z:Ent K}(h:Yl Z (Dv f) σ H Q):Yl Z f σ H Q:=by obtain⟨F,δ,own,b,δ',s,e,k⟩:=h;obtain⟨⟨b1,δ1⟩,e1,e2⟩:=aa.mp e;cases e2;exact⟨F,δ,own,b1,δ1,s,e1,λH' F' own' sH sF s'=>k H' F own sH (Zi.refl F) (s.grow sH)⟩
section
variable{X:Cx}{Z:Ent X.K}{a:cj}{ft:FT}
theorem Ze0(ha:PT X a (Yl Z ft)):PT X a (Yl Z (Dv ft)):=ha.imp λ_ _ _ h=>Zit h
end
end DL
namespace DL
open PySem PySem.Spec PyProof.Rows L2
def Zrb(n:Nat)(k:Int):Prop:=-(2^63)<=k/\k<2^63/\n*k.toNat<=bd
open Classical in
noncomputable def Znb(xs:List D):D->Option SV
 | .int k=>if Zrb xs.length k then aA (.ol (dn k.toNat xs).flatten)else aB
 |_=>aB
@[simp]theorem Zrc(h:Zrb xs.length k):Znb xs (.int k)=some (.ol (dn k.toNat xs).flatten):=by unfold Znb;dsimp only;rw[if_pos h]
@[simp]def Z0e(fa fb:FE):FE:=λδ=>(fa δ).bind λp=>(SV.ol? p.1).bind λxs=>(fb p.2).bind λq=>(Iw q.1 q.2).bind λd=>(Znb xs d).bind λsv=>some (.tmp sv,q.2)
end DL
namespace DL
open PySem PySem.Spec PyProof.Rows L2
@[simp]def slT:D->Option Int->Option Int->Option SV
 | .tup xs,lo,hi=>if¬(HT.sIx xs.length 0 lo=0/\HT.sIx xs.length xs.length hi=xs.length)then aA (.fz (.tup (L5 xs lo hi)))else aB
 |_,_,_=>aB
end DL
namespace DL
open PySem L2
variable{K:ad}
inductive RX where
 |v (rv:RV) (δ:Yk)|x (e:Exn) (δ:Yk)
inductive RL(α:Type)where
 |v (xs:List α) (δ:Yk)|x (e:Exn) (δ:Yk)
abbrev FX:=Yk->Option RX
abbrev FAX:=Yk->Option (RL RV)
abbrev FDX:=Yk->Option (RL D)
def XOk(Z:Ent K)(F:Hp)(σ:St)(e:Exn)(δ:Yk):Prop:=∀H' F' own' cls od,Zi F F'->SR Z F' H' σ δ own'->Lz K F' e cls od->Z.x cls od σ H'
def Zre(Z:Ent K)(f:FX):TE:=λσ H Q=>∃F δ own r,SR Z F H σ δ own/\f δ=aA r/\match r with
 | .v rv δ'=>∀v H' F' own',Zi H H'->Zi F F'->SR Z F' H' σ δ' own'->P3 Z F' H' σ own' rv v->Q v H'
 | .x e δ'=>XOk Z F σ e δ'
def Zv3(Z:Ent K)(f:FAX):TA:=λσ H Q=>∃F δ own r,SR Z F H σ δ own/\f δ=aA r/\match r with
 | .v rvs δ'=>∀vs H' F' own',Zi H H'->Zi F F'->SR Z F' H' σ δ' own'->RVSs K F' σ rvs vs->Q vs H'
 | .x e δ'=>XOk Z F σ e δ'
def Zv4(Z:Ent K)(f:FDX):TA:=λσ H Q=>∃F δ own r,SR Z F H σ δ own/\f δ=aA r/\match r with
 | .v ds δ'=>∀vs H' F' own',Zi H H'->Zi F F'->SR Z F' H' σ δ' own'->Reps K F' ds vs->Q vs H'
 | .x e δ'=>XOk Z F σ e δ'
@[simp]def FX.val(f:FX):FE:=λδ=>match f δ with
 |some (.v rv δ')=>aA (rv,δ')
 |_=>aB
@[simp]def Zx6(fe:FE):FX:=λδ=>(fe δ).bind λp=>some (.v p.1 p.2)
@[simp]def Zts:FAX:=λδ=>some (.v [] δ)
@[simp]def Zrf(fx:FX)(fa:FAX):FAX:=λδ=>(fx δ).bind fun
 | .v rv δ1=>(fa δ1).bind fun
  | .v rvs δ2=>aA (.v (rv::rvs) δ2)
  | .x e δ2=>aA (.x e δ2)
 | .x e δ1=>aA (.x e δ1)
@[simp]def Zrg:FDX:=λδ=>some (.v [] δ)
@[simp]def Zor(fx:FX)(fd:FDX):FDX:=λδ=>(fx δ).bind fun
 | .v rv δ1=>(frz rv δ1).bind λq=>(fd q.2).bind fun
  | .v ds δ2=>aA (.v (q.1::ds) δ2)
  | .x e δ2=>aA (.x e δ2)
 | .x e δ1=>aA (.x e δ1)
@[simp]def Z0f(fd:FDX):FX:=λδ=>(fd δ).bind fun
 | .v ds δ1=>if ds.length<=bd then aA (.v (.tmp (.fz (.tup ds))) δ1)else aB
 | .x e δ1=>aA (.x e δ1)
@[simp]def Zx7(g:List D->Option SV)(fa:FAX):FX:=λδ=>(fa δ).bind fun
 | .v rvs δ1=>(Oe rvs δ1).bind λds=>(g ds).bind λsv=>aA (.v (.tmp sv) δ1)
 | .x e δ1=>aA (.x e δ1)
@[simp]def Z0g(g:D->D->Option SV)(fa fb:FX):FX:=λδ=>(fa δ).bind fun
 | .x e δ1=>aA (.x e δ1)
 | .v r1 δ1=>(fb δ1).bind fun
  | .x e δ2=>aA (.x e δ2)
  | .v r2 δ2=>(Iw r1 δ2).bind λd1=>(Iw r2 δ2).bind λd2=>(g d1 d2).bind λsv=>aA (.v (.tmp sv) δ2)
inductive XO where
 |v (sv:SV)|x (e:Exn)
def spX(K:ad)(n:Nat)(g:List D->Option XO):Sp:=λvs H Q E=>∃F ds o,Zi F H/\Reps K F ds vs/\ds.length=n/\g ds=aA o/\match o with
 | .v sv=>∀v H' F' ns,Zi H H'->Zi F F'->Zi F' H'->(∀(b:aj) (o:HO),F' b=aA o->F b=aA o\/H b=aB)->Shape K F' sv v ns->(Bf ns).Nodup->(∀p∈ns,F' p.1=aB/\H p.1=aB/\H' p.1=aA p.2)->Q v H'
 | .x e=>∀cls od H' F',Zi H H'->Zi F F'->Zi F' H'->(∀(b:aj) (o:HO),F' b=aA o->F b=aA o\/H b=aB)->Lz K F' e cls od->E cls od H'
@[simp]def Z0h(f:FS)(n:Nat)(ds:List D):Option XO:=match f (Ao n ds)with
 |some (.rt sv)=>aA (.v sv)
 |some (.nx _)=>aA (.v (.fz .non))
 |some (.ex e _)=>aA (.x e)
 |_=>aB
@[simp]noncomputable def Z0i(h:List D->Option XO)(ds:List D):Option SV:=match h ds with
 |some (.v sv)=>aA sv
 |_=>aB
abbrev Z0j(H F:Hp)(E:XK):Ent K:=⟨H,F,λcls od _ H'=>E cls od H'⟩
@[simp]def Zx8(n:Nat)(g:List D->Option XO)(fa:FAX):FX:=λδ=>(fa δ).bind fun
 | .x e δ1=>aA (.x e δ1)
 | .v rvs δ1=>(DL.frzAll rvs δ1).bind λq=>if q.1.length=n then(g q.1).bind (fun
  | .v sv=>aA (.v (.tmp sv) (if sv.scal then δ1 else q.2))
  | .x e=>aA (.x e q.2))else aB
@[simp]noncomputable def Zv5(g:List D->Option SV)(ds:List D):Option XO:=(g ds).bind λsv=>some (.v sv)
@[simp]def Z0k(i:Nat)(fx:FX):FS:=λδ=>(fx δ).bind fun
 | .v rv δ1=>(stow i rv δ1).bind λδ'=>aA (.nx δ')
 | .x e δ1=>aA (.ex e δ1)
@[simp]def Z0l(fx:FX):FS:=λδ=>(fx δ).bind fun
 | .v rv δ1=>(Zp8 rv δ1).bind λsv=>aA (.rt sv)
 | .x e δ1=>aA (.ex e δ1)
@[simp]def Zx9(fx:FX):FS:=λδ=>(fx δ).bind fun
 | .v _ δ1=>aA (.nx δ1)
 | .x e δ1=>aA (.ex e δ1)
@[simp]def Z0m(i:Nat)(fx:FX):FS:=λδ=>match fx δ with
 |some (.x e δ1)=>(match δ[i]? with
  |some (aA (.ol _))=>aA (.ex e δ1)
  |_=>aB)
 |_=>Rq i fx.val δ
@[simp]def Z0n(i:Nat)(fx:FX):FS:=λδ=>match fx δ with
 |some (.x e δ1)=>(match δ[i]? with
  |some (aA (.ol _))=>aA (.ex e δ1)
  |_=>aB)
 |_=>Zv1 i fx.val δ
@[simp]def Zv6(c:Str):FS:=λδ=>some (.ex ⟨c,[],[]⟩ δ)
set_option genInjectivity false in
structure HX where
 x:Str
 np:Pos
 nm:Option (Str×Nat)
 b0:Stmt
 suite:List Stmt
 pos:Pos
 B:aj
 yes:List Str
 no:List Str
 f:FS
set_option genInjectivity false in
structure HX.Sub(K:ad)(h:HX):Prop where
 yes:∀c∈h.yes,∀C,Ak K c C->PySem.W.mroIn K C (.ref h.B)=aA aC
 no:∀c∈h.no,∀C,Ak K c C->PySem.W.mroIn K C (.ref h.B)=aA aD
def HX.hd(Z:Ent K)(h:HX):Hd:=⟨h.x,h.np,h.nm,h.b0,h.suite,h.pos,h.B,Z5 Z h.f⟩
set_option genInjectivity false in
structure HF where
 i:Option Nat
 yes:List Str
 no:List Str
 f:FS
@[simp]noncomputable def HX.hf(h:HX):HF:=⟨h.nm.map (·.2),h.yes,h.no,h.f⟩
@[simp]noncomputable def Zky(c:Str):List HF->Option HF
 | []=>aB
 |h::r=>if c∈h.yes then aA h else if c∈h.no then Zky c r else aB
@[simp]noncomputable def Fl.but(i:Nat):Fl->Fl
 | .nx δ=>.nx (δ.set i aB)
 | .bk δ=>.bk (δ.set i aB)
 | .ct δ=>.ct (δ.set i aB)
 | .ex e δ=>.ex e (δ.set i aB)
 | .rt sv=>.rt sv
@[simp]noncomputable def Fl.isEx:Fl->Bool
 | .ex _ _=>aC
 |_=>aD
@[simp]def HF.run(h:HF)(x:Exn)(δ:Yk):Option Fl:=match h.i with
 |none=>h.f δ
 |some i=>if i<δ.length then(h.f (δ.set i (aA (.fz (.exc x.c x.ks x.vs))))).bind λfl=>if fl.isEx=aC then aB else aA (fl.but i)else aB
@[simp]def Z0o(fb:FS)(hs:List HF):FS:=λδ=>(fb δ).bind fun
 | .ex x δ1=>(Zky x.c hs).bind λh=>h.run x δ1
 |fl=>aA fl
abbrev Ent.wish(Z:Ent K)(EX:EXT):Ent K:=⟨Z.h,Z.f,EX⟩
end DL
namespace DL
open PySem PySem.Spec PyProof.Rows L2
@[simp]noncomputable def Z0p(yes no:List Str):D->Option SV
 | .exc c _ _=>if c∈yes then aA (.fz (.bl aC))else if c∈no then aA (.fz (.bl aD))else aB
 |_=>aB
def Kn(K:ad)(r:aj->Bool->Prop)(yes no:List Str):Prop:=(∀c∈yes,∀C,Ak K c C->ExcKit K C/\r C aC)/\∀c∈no,∀C,Ak K c C->ExcKit K C/\r C aD
def Zv7(Bs:List aj):TA:=λ_ H R=>R (Bs.map V.ref) H
end DL
namespace DL
open PySem PySem.Spec PyProof.Rows L2
theorem Inv.trackO{σ:L2.St}(I:Inv X pins σ H s)(e0:X.s₀.heap.get? a=aB)(eH:H a=aB)(le:a≠X.env.locals)(ce:∀x c,X.env.cells.lookup x=aA c->c≠a)(pe:∀p∈X.pn++pins,p.1≠a)(new:Yj X.prog X.w (Z9 H a o) s.heap a o):Inv X pins σ (Z9 H a o) s:=by
 refine⟨I.ok,I.os,I.bare,⟨I.base.keep,I.base.slot,λb o q n hx=>?_,I.base.there,λb xs q=>?_,λb o u q=>?_,λb ps q=>?_⟩,I.loc,I.cell,?_,λx c ec=>?_,λp hp=>?_,λb u q=>?_,I.len⟩
 .rw[Zw (λz=>by rw[z,e0]at q;cases q)];exact I.base.free b o q n hx
 .have:=I.base.tups b xs q;rw[Zw (λz=>by rw[z,eH]at this;cases this)];exact this
 .have:=I.base.frzs b o u q;rw[Zw (λz=>by rw[z,eH]at this;cases this)];exact this
 .obtain⟨m,this⟩:=I.base.tbls b ps q;exact⟨m,by rw[Zw (λz=>by rw[z,eH]at this;cases this)];exact this⟩
 .rw[Zw (Ne.symm le)];exact I.free
 .rw[Zw (ce x c ec)];exact I.freeC x c ec
 .obtain⟨q,n,r⟩:=I.pin p hp;exact⟨q,by rw[Zw (pe p hp)];exact n,r⟩
 .by_cases hb:b=a
  .subst hb;rw[Z3]at q;cases q;exact new
  .rw[Zw hb]at q;exact(I.hok b u q).stay (λc v _ z=>z) (λc z=>by rw[Zw (λy=>by rw[y,eH]at z;cases z)];exact z) (λc xs z=>by rw[Zw (λy=>by rw[y,eH]at z;cases z)];exact z) λc o z=>by rw[Zw (λy=>by rw[y,eH]at z;cases z)];exact z
def Ze1(trs:List (TE×TE)):TE:=λσ H Q=>Lw trs σ H λps H2=>∃kvs:List (Key×V),ps=kvs.map (λkv=>(kV kv.1,kv.2))/\kvs.length<=15/\∀p ep,H2 p=aB->Q (.ref p) (Z9 H2 p (.dK (On [] kvs) ep))
theorem Ze2(h:PPs X pos keys values trs)(hall:keys.all (·.isSome)=aC)(hl:keys.length=values.length)(h0:keys≠[])(h15:keys.length<=15):PE X (.Dict keys values pos) (Ze1 trs):=by
 intro pins s σ H Q I q;have hn:=I.hok.fresh (ba s.heap.objs.size);have I0:=I.kept (h':=s.heap.push {cls:=.type "dict",data:=.dict #[]}) (t':=s.toks) (λ_ _ q=>au _ q);have hob:(s.heap.push {cls:=.type "dict",data:=.dict #[]}).get? s.heap.objs.size=aA {cls:=.type "dict",data:=.dict #[]}:=bp _ rfl;have old:∀b o,s.heap.get? b=aA o->b≠s.heap.objs.size:=λb o z=>cf (bo z);have apart:∀p∈X.pn++pins,p.1≠s.heap.objs.size:=λp hp=>old _ _ (I.pin p hp).1;have hloc:s.heap.objs.size≠X.env.locals:=λz=>ii _ (c8 (z▸I.lt) (ba _));have hcel:∀x c,X.env.cells.lookup x=aA c->c≠s.heap.objs.size:=λx c ec=>by obtain⟨v,o,ho,_⟩:=I.cell x c ec;exact old _ _ ho
 have hs0:X.s₀.heap.get? s.heap.objs.size=aB:=Heap.get?_none_of_le I.sz;have I1:=I0.pins_of (pins':=(s.heap.objs.size,{cls:=.type "dict",data:=.dict #[]})::pins) λp hp=>by
  rcases bx.mp hp with z|z
  .subst z;exact⟨hob,hn,hloc,I.nofs (ba _),λv z=>nomatch z⟩
  .exact I0.pin p (bh _ z)
 refine wpAny_Dict_walk (knd:=Zr X.prog X.w) hall hl h0 h15 (Wp (h _ _ σ _ _ I1 q) λws s2 zq9=>?_);obtain⟨ps,H2,I2,rel,kvs,ep,lk,q2⟩:=zq9;subst ep;obtain⟨rs,c,rk⟩:=Ah (P:=X.prog) (w:=X.w) rel;obtain⟨p1,p2,p3,p4,p5⟩:=I2.pin (s.heap.objs.size,{cls:=.type "dict",data:=.dict #[]}) (bh _ af);have new0:Yj X.prog X.w (Z9 H2 s.heap.objs.size (.dK [] 0)) s2.heap s.heap.objs.size (.dK [] 0):=(show Yj X.prog X.w (λ_=>aB) _ _ (.dK [] 0)from Px s.heap I.big).stay (λb u hb z=>by
  rcases hb with rfl|hb
  .rw[hob]at z;cases z;exact p1
  .cases hb) (λ_ z=>nomatch z) (λ_ _ z=>nomatch z) λ_ _ z=>nomatch z
 have I3:Inv X pins σ (Z9 H2 s.heap.objs.size (.dK [] 0)) s2:=Inv.trackO (I2.pins_of (pins':=pins) λp hp=>I2.pin p (bh _ (ao _ hp))) hs0 p2 hloc hcel apart new0;obtain⟨z,hd,vs0,r0,dd⟩:=Zkc I3.hok ⟨_,(show Z9 H2 s.heap.objs.size (.dK [] 0) s.heap.objs.size=aA (.dK [] 0)from Z3)⟩;cases r0;refine⟨rs,c,dd,λh' dd' hs=>?_⟩;have hz:(On [] kvs).length<=sizeLine:=by have h1:=Gp kvs [];rw[List.length_nil]at h1;rw[fu];omega
 have he:∃q,h'.get? s.heap.objs.size=aA q:=let⟨q,_,_,hq,_⟩:=dd';⟨q,hq⟩
 obtain⟨ep,ok⟩:=V9 hz hd (rk.merge .nil) dd';have I4:L2.Inv X pins σ (Z9 (Z9 H2 s.heap.objs.size (.dK [] 0)) s.heap.objs.size (.dK (On [] kvs) ep)) {s2 with heap:=h',toks:=s2.toks+ws.length}:=Tv I3 (by rw[Z3];exact True.intro) hs he (ok _);rw[Zg9]at I4;exact⟨.ref s.heap.objs.size,_,I4,rfl,q2 _ ep p2⟩
section
variable{K:ad}{Z:Ent K}
theorem Xs(m:∀v H,Q v H->Q' v H)(h:Ze Z f σ H Q):Ze Z f σ H Q':=by obtain⟨F,δ,own,rv,δ',s,e,k⟩:=h;exact⟨F,δ,own,rv,δ',s,e,λv H' F' own' a b c d=>m _ _ (k v H' F' own' a b c d)⟩
def tPD(Z:Ent K)(l:List (Str×FE)):List (TE×TE):=l.map λp=>(tC (.str p.1),Ze Z p.2)
@[simp]def Ze3:List (Str×FE)->FD
 | []=>Zs
 |p::r=>Zh p.2 (Ze3 r)
@[simp]def Zv8(l:List (Str×FE)):FE:=λδ=>(Ze3 l δ).bind λp=>if p.1.length=l.length then some (.tmp (.oK (l.map λq=>.inr q.1) p.1),p.2)else none
theorem Ke:∀more acc,((acc++more).map (·.1)).Nodup->On acc more=acc++more
 | [],acc,_=>by show acc=acc++[];rw[List.append_nil]
 |p::r,acc,h=>by
  have e:Qe acc p.1 p.2=acc++[p]:=by unfold Qe;rw[if_neg];intro z;obtain⟨q,hq,z⟩:=List.any_eq_true.mp z;rw[b9,dq]at h;exact h.2.2 p.1 (ax.mpr ⟨q,hq,of_decide_eq_true z⟩) p.1 (by simp) rfl
  show On (Qe acc p.1 p.2) r=_;rw[e,Ke r (acc++[p]) (by simpa using h)];simp
@[simp]noncomputable def Z0q:List D->Option SV
 | [.int i,.int j]=>aA (.fz (.int (if j<i then j else i)))
 |_=>aB
end
end DL
namespace DL
open PySem PySem.Spec PyProof.Rows L2
@[simp]def Xt(ss:List Str)(fd:FD):FD:=λδ=>(fd δ).bind λp=>some (ss.map D.str++p.1,p.2)
theorem Ziu{K}{Z:Ent K}:∀ss {R:List V->Hp->Prop},Qu Z (Xt ss fd) σ H R->Qu Z fd σ H λvs H'=>R (ss.map V.str++vs) H'
 |ss,R,h=>by obtain⟨F,δ,own,ds,δ',s,e,k⟩:=h;obtain⟨⟨ds1,δ1⟩,e1,e2⟩:=aa.mp e;cases e2;refine⟨F,δ,own,ds1,δ1,s,e1,λvs H' F' own' a b c r=>k _ H' F' own' a b c ?_⟩;exact Reps.append (strs_rep ss) r
where strs_rep {F:Hp}:∀ss:List Str,Reps K F (ss.map D.str) (ss.map V.str)
 | []=>.nil
 |x::r=>.cons (.str x) (strs_rep r)
section
variable{X:Cx}{Z:Ent X.K}
noncomputable abbrev cst(x:Str×Nat×Pos):Expr:=.Constant (.str x.1) x.2.1 x.2.2
theorem Sk(h:PA X es t):∀l:List (Str×Nat×Pos),PA X (l.map cst++es) λσ H R=>t σ H λvs H'=>R ((l.map λx=>V.str x.1)++vs) H'
 | []=>h
 |x::r=>(Jf (e:=cst x) (es:=r.map cst++es) Zcz (Sk h r) rfl).imp λσ H R q=>q
theorem Ziv(l:List (Str×Nat×Pos))(h:PA X es (Qu Z fd)):PA X (l.map cst++es) (Qu Z (Xt (l.map (·.1)) fd)):=
 (Sk h l).imp λσ H R q=>by have:=Ziu (l.map (·.1)) q;rw[cg]at this;exact this
end
end DL
namespace DL
open PySem PySem.Spec PyProof.Rows L2
inductive RC where
 |v (δ:Yk)|x (e:Exn)
def xX(K:ad)(f:FX)(EX:EXT):TE:=λσ H Q=>∃Z:Ent K,Z.x=EX/\Zre Z f σ H Q
@[simp]def Xu(src:List BSrc)(k:Nat)(g:FG)(tt:FT)(te:FX):List D->Yk->Option RC
 | [],δ=>aA (.v δ)
 |d::ds,δ=>(g.run d δ).bind λδ1=>(tt δ1).bind λp=>if p.1=aC then(te p.2).bind (fun
  | .x e _=>aA (.x e)
  | .v rv δ2=>(frz rv δ2).bind λr=>match r.2[k]? with
   |some (aA (.ol zs))=>if zs.length<bd then Xu src k g tt te ds (O9 src (r.2.set k (aA (.ol (zs++[r.1])))))else aB
   |_=>aB)
  else Xu src k g tt te ds (O9 src p.2)
@[simp]def Zya(src:List BSrc)(k:Nat)(fi:FD)(g:FG)(tt:FT)(te:FX):FX:=λδ=>(fi δ).bind λp=>(frzAll (caps src) p.2).bind λc=>(Xu src k g tt te p.1 (bD src c.2)).bind fun
 | .x e=>aA (.x e c.2)
 | .v δb=>match δb[k]? with
  |some (aA (.ol ys))=>aA (.v (.tmp (.ol ys)) c.2)
  |_=>aB
end DL
namespace L2
open PySem PySem.Spec PyProof.Rows
noncomputable def Zkz{α:Type}(xs:List α)(lo hi st:Option Int):List α:=
 (sliceRange (sliceBounds lo hi st xs.length).1 (sliceBounds lo hi st xs.length).2.1 (sliceBounds lo hi st xs.length).2.2).filterMap (xs[·]?)
def Z0r(X:Cx)(r:V->Option Int->Option Int->Option Int->Hp->VK->Prop):Prop:=
 ∀(pins:List (aj×Obj)) (s:am) (σ:St) (H:Hp) (x:V) (v vl vu vs:ah) (lo hi st:Option Int) (sl:aj) (Q:VK),Inv X pins σ H s->Zy x v->s.heap.IsSliceOf sl vl vu vs->IsPart vl lo->IsPart vu hi->IsPart vs st->r x lo hi st H Q->
  ∃T id,typeLookup (.type T) "__getitem__"=pure (aA (.builtin id))/\s.TypeIs v T/\bg (b4 X.prog X.w) X.A (getItem v (.ref sl)) (EP X pins σ Q) X.xe s
def Z0s(r:V->Option Int->Option Int->Option Int->Hp->VK->Prop)(te:TE)(tl th ts:TO):TE:=λσ H Q=>te σ H λx H1=>tl σ H1 λl H2=>th σ H2 λu H3=>ts σ H3 λw H4=>r x l u w H4 Q
def Z0t(K:ad):V->Option Int->Option Int->Option Int->Hp->VK->Prop:=λx lo hi st H Q=>∃a xs,x= .ref a/\W5 K H a xs/\st≠aA 0/\∀p,H p=aB->Q (.ref p) (Z9 H p (.lst (Zkz xs lo hi st)))
end L2
namespace DL
open PySem PySem.Spec PyProof.Rows L2
@[simp]def Z0u(g:D->Option Int->Option Int->Option Int->Option SV)(fe:FE)(fl fh fs:FO):FE:=λδ=>(fe δ).bind λp=>(fl p.2).bind λl=>(fh l.2).bind λh=>(fs h.2).bind λw=>(Iw p.1 w.2).bind λd=>(g d l.1 h.1 w.1).bind λsv=>some (.tmp sv,w.2)
section
variable{K:ad}{Z:Ent K}{H:Hp}{σ:L2.St}{Q:VK}
def Zv9(Z:Ent K)(r:V->Option Int->Option Int->Option Int->Hp->VK->Prop)(g:D->Option Int->Option Int->Option Int->Option SV):Prop:=
 ∀(F H:Hp) (σ:L2.St) (δ:Yk) (own:Nat->Zo) (x:V) (d:D) (lo hi st:Option Int) (sv:SV) (Q:VK),SR Z F H σ δ own->Yi K F H d x->g d lo hi st=aA sv->Fin Z F H σ δ own sv Q->r x lo hi st H Q
@[simp]def Z0v:D->Option Int->Option Int->Option Int->Option SV
 | .lst xs,lo,hi,st=>if st≠aA 0 then aA (.ol (Zkz xs lo hi st))else aB
 |_,_,_,_=>aB
end
end DL
namespace DL
section
variable{α:Type}{P:List α->Prop}
@[elab_as_elim]theorem of0(h:P [])(us)(hl:us.length=0):P us:=by have:us=[]:=List.eq_nil_of_length_eq_zero hl;rw[this];exact h
@[elab_as_elim]theorem of1(h:∀a,P [a])(us)(hl:us.length=1):P us:=by obtain⟨a,e⟩:=List.length_eq_one_iff.mp hl;rw[e];exact h a
theorem ofC(h:∀a us,us.length=n->P (a::us))(us)(hl:us.length=n+1):P us:=by
 cases us with
 |nil=>exact absurd hl (by simp)
 |cons a r=>exact h a r (by simpa using hl)
@[elab_as_elim]theorem of2(h:∀a b,P [a,b])(us)(hl:us.length=2):P us:=ofC (λa=>of1 (P:=λus=>P (a::us)) (h a)) us hl
@[elab_as_elim]theorem of3(h:∀a b c,P [a,b,c])(us)(hl:us.length=3):P us:=ofC (λa=>of2 (P:=λus=>P (a::us)) (h a)) us hl
@[elab_as_elim]theorem of4(h:∀a b c d,P [a,b,c,d])(us)(hl:us.length=4):P us:=ofC (λa=>of3 (P:=λus=>P (a::us)) (h a)) us hl
@[elab_as_elim]theorem of5(h:∀a b c d e,P [a,b,c,d,e])(us)(hl:us.length=5):P us:=ofC (λa=>of4 (P:=λus=>P (a::us)) (h a)) us hl
@[elab_as_elim]theorem of6(h:∀a b c d e f,P [a,b,c,d,e,f])(us)(hl:us.length=6):P us:=ofC (λa=>of5 (P:=λus=>P (a::us)) (h a)) us hl
end
end DL
namespace L2
open PySem PySem.Spec PyProof.Rows
theorem Aw(hs:(d==sysModules)=aD)(g:s.heap.get? d=aA od)(x:od.ExactDict)(c:od.data= .dict es ep)(k:Q (.ref s.heap.objs.size) {s with heap:=s.heap.push {cls:=.type "dict_keyiterator",data:=.fields #[.ref d,.int 0 0,.int es.size 0,.int ep 0]}}):bg (b4 prog w) A (pyIter (.ref d)) Q E s:=by
 have T:s.TypeIs (.ref d) "dict":=⟨od,g,x.1⟩
 refine wpAny_pyIter_slot T PySem.F.slot_dict_iter (dr PySem.F.slot_dict_iter T PySem.F.entry_dict_iter (show bg _ _ (Builtin.«dict.__iter__» _) _ _ _ from ?_) (PySem.F.args_dict_iter_1 _));unfold Builtin.«dict.__iter__» Builtin.Dict.dictSlotNone;refine ac (ac (wpAny_notOrdered_dict T (show bg _ _ (pure (b8 d)) _ _ s from ag ?_)));show bg _ _ (Builtin.Dict.showsAll d >>=_) _ _ s;unfold Builtin.Dict.showsAll;rw[if_neg (by rw[hs];decide)];refine ac (ag (ac (wpAny_dictEntries g c (ac (wpAny_dictEpoch g c (ac (ff (ag ⟨_,rfl,"dict_keyiterator",_,⟨_,bp _ rfl,rfl⟩,gu.lookup,?_⟩))))))));simpa[rawInt]using k
theorem Ax(t:s.heap.IsKeyIter q d i n ep)(g:s.heap.get? d=aA od)(c:od.data= .dict es ep)(hn:es.size=n)(he:es[i]? =aA e)(k:∀h',h'.IsKeyIter q d (i+1) n ep->io q s.heap h'->Q (aA e.key) {s with heap:=h'}):bg (b4 prog w) A (pyNext (.ref q)) Q E s:=by
 obtain⟨o,ho,hc,hd⟩:=id t;have T:=t.typeIs;unfold pyNext;refine ac (wpAny_attempt (gd (name:="__next__") T gu (dr gu T PySem.F.entry_dict_keyiterator_next (ac (ag (ac (ac ?_)))) (PySem.F.args_dict_keyiterator_next_1 _))))
 first| (refine ac (wpAny_typeNameOfWhole_keyiter T (ag (ac (wpAny_fieldsOf ho hd ?_)))))| (refine ac (wpAny_typeNameOf_keyiter T (ag (ac (wpAny_fieldsOf ho hd ?_)))))
 have z0:Builtin.Dict_items.ownsTuple "dict_keyiterator"=aD:=rfl;rw[z0];simp only[bi,if_false];show bg _ _ (ite ((b8 d==ck)=aC) _ _) _ _ s;rw[if_neg (show¬(b8 d==ck)=aC from λz=>bv z)];refine ac (ag (ac (wpAny_dictEntries g c ?_)));rw[if_neg (by rw[hn];simp)];refine ac (ag (ac (wpAny_dictEpoch g c ?_)));rw[if_neg (by simp)];have hi:i<es.size:=(gk.mp he).1;refine ag ?_;simp only[show¬((i:Int)<0) by omega,if_false,g8,he];refine ac ?_
 first| (refine ac (wpAny_typeNameOfWhole_keyiter T (ag (ac (wpAny_isOneOf_keyiter T ?_)))))| (refine ac (wpAny_typeNameOf_keyiter T (ag (ac (wpAny_isOneOf_keyiter T ?_)))))
 show bg _ _ (setField (.ref q) 1 (rawInt ((i:Int)+1)) >>=_) _ _ s;refine ac (wpAny_setField ho hd (by simp) ?_);have t':(s.heap.update q (Obj.mapFields (·.setIfInBounds 1 (rawInt ((i:Int)+1))))).IsKeyIter q d (i+1) n ep:=⟨_,g6 _ ho (Obj.isFreed_of_fields (Obj.data_mapFields hd _)),(Obj.cls_mapFields ..).trans hc,(Obj.data_mapFields hd _).trans (by simp[rawInt])⟩
 refine ac (gm (ac (wpAny_isOneOf_keyiter (s:={s with heap:=s.heap.update q (Obj.mapFields (·.setIfInBounds 1 (rawInt ((i:Int)+1))))}) t'.typeIs (show bg _ _ (pure e.key) _ _ _ from ag (ag ⟨_,rfl,ag (k _ t' (Heap.SameBut.update ..))⟩)))))
theorem Ay(hh:A.handled=aB)(t:s.heap.IsKeyIter q d i n ep)(g:s.heap.get? d=aA od)(c:od.data= .dict es ep)(hn:es.size=n)(hi:n<=i)(k:∀h',Heap.ExtBut q s.heap h'->Q aB {s with heap:=h'}):bg (b4 prog w) A (pyNext (.ref q)) Q E s:=by
 obtain⟨o,ho,hc,hd⟩:=id t;have T:=t.typeIs;unfold pyNext;refine ac (wpAny_attempt (gd (name:="__next__") T gu (dr gu T PySem.F.entry_dict_keyiterator_next (ac (ag (ac (ac ?_)))) (PySem.F.args_dict_keyiterator_next_1 _))))
 first| (refine ac (wpAny_typeNameOfWhole_keyiter T (ag (ac (wpAny_fieldsOf ho hd ?_)))))| (refine ac (wpAny_typeNameOf_keyiter T (ag (ac (wpAny_fieldsOf ho hd ?_)))))
 have z0:Builtin.Dict_items.ownsTuple "dict_keyiterator"=aD:=rfl;rw[z0];simp only[bi,if_false];show bg _ _ (ite ((b8 d==ck)=aC) _ _) _ _ s;rw[if_neg (show¬(b8 d==ck)=aC from λz=>bv z)];refine ac (ag (ac (wpAny_dictEntries g c ?_)));rw[if_neg (by rw[hn];simp)];refine ac (ag (ac (wpAny_dictEpoch g c ?_)));rw[if_neg (by simp)];have he:es[i]? =aB:=Array.getElem?_eq_none (by omega);refine ag ?_;simp only[show¬((i:Int)<0) by omega,if_false,g8,he];refine ac ?_
 first| (refine ac (wpAny_typeNameOfWhole_keyiter T (ag ?_)))| (refine ac (wpAny_typeNameOf_keyiter T (ag ?_)))
 show bg _ _ (setField (.ref q) 0 ck >>=_) _ _ s;refine ac (wpAny_setField ho hd (by simp) (show bg _ _ (newExc (.type "StopIteration") [] >>=_) _ _ _ from ac ?_));simp only[newExc,newTuple];refine ac (ff (ac (m:=firstArgMember _ _) (wpAny_of_eq (a:=ck) (by first|rfl| (simp only[firstArgMember];rfl)) (ff ?_ (by size_fits)))) (by size_fits));simp only[raiseNew];refine ac (wpAny_handled ?_);rw[show A.in1.handled=Option.none from hh];refine ac (ag (wpAny_throw ?_));refine ac (wpAny_isInstance (T:="StopIteration") (b:=aC) (by exact⟨_,bp _ rfl,rfl⟩) isSubtype_stop ?_);exact ag (k _ (((Heap.SameBut.update ..).extBut.push _).push _))
theorem Dw(h:(Zr P w).is k u=aC):Zy (kV k) u:=by
 rcases Z6 h with⟨i,t,rfl,rfl⟩|⟨x,t,rfl,rfl⟩
 .exact⟨t,rfl⟩
 .exact⟨t,rfl⟩
def Itk(a:aj)(n ep:Nat):It:=
 ⟨λi H=>∃kvs,H a=aA (.dK kvs ep)/\kvs.length=n/\i<n,λi H x H'=>H'=H/\∃kvs kv,H a=aA (.dK kvs ep)/\kvs[i]? =aA kv/\x=kV kv.1,λi H=>∃kvs,H a=aA (.dK kvs ep)/\kvs.length=n/\n<=i⟩
noncomputable def Itd(a:aj)(n ep:Nat):It:=
 ⟨λi H=>∃kvs bs,H a=aA (.dT kvs ep bs)/\kvs.length=n/\i<n,λi H x H'=>H'=H/\∃kvs bs b,H a=aA (.dT kvs ep bs)/\bs[i]? =aA b/\x= .ref b,λi H=>∃kvs bs,H a=aA (.dT kvs ep bs)/\kvs.length=n/\n<=i⟩
theorem Ni{h h':d6}(t:h.IsKeyIter q d i n ep)(k:∀o,h.get? q=aA o->h'.get? q=aA o):h'.IsKeyIter q d i n ep:=let⟨o,e,r⟩:=t;⟨o,k o e,r⟩
theorem Ze4(h:Pairs (Zr P w) es vs){i:Nat}(hi:vs[i]? =aA kv):∃e,es[i]? =aA e/\(Zr P w).is kv.1 e.key=aC:=by
 induction h generalizing i with
 |nil=>simp at hi
 | @cons e0 kv0 es0 kvs0 h1 h2 _ ih=>
  cases i with
  |zero=>simp at hi;subst hi;exact⟨e0,by simp,h1⟩
  |succ j=>obtain⟨e,a1,a2⟩:=ih (i:=j) (by simpa using hi);exact⟨e,by simpa using a1,a2⟩
theorem Mr(h:Pairs (Zr P w) es vs):es.length=vs.length:=by
 induction h with
 |nil=>rfl
 |cons _ _ _ ih=>rw[bf,bf,ih]
theorem Uo{l:List α}{m:List β}(h:Paired R l m):∀{i:Nat} {x:α},l[i]? =aA x->∃y,m[i]? =aA y/\R x y:=by
 induction h with
 |nil=>intro i x hi;simp at hi
 | @cons a b as bs h1 t ih=>
  intro i x hi;cases i with
  |zero=>simp at hi;subst hi;exact⟨b,by simp,h1⟩
  |succ j=>obtain⟨y,a1,a2⟩:=ih (i:=j) (by simpa using hi);exact⟨y,by simpa using a1,a2⟩
theorem Bp{P:b6}{w:c7}{K:ad}{tg:cj}(a it:aj)(n ep:Nat):Turn P w K tg (Itk a n ep) [it] it (λi h=>h.IsKeyIter it a i n ep)where
 mem:=af
 obj:=λi h st b hb=>by obtain rfl:=ar.mp hb;obtain⟨o,e,c,d⟩:=st;exact⟨o,e,λv z=>by rw[d]at z;cases z⟩
 keep:=λi h h' st k=>Ni st λo e=>k it af o e
 item:=by
  intro X hP hw hK hc i pins s σ H E I hf st hg;subst hP hw hK;obtain⟨kvs,hq,hn,hi⟩:=hg;obtain⟨z,hd,vs,rel,od,es,g,x,c,ko,pr,nd⟩:=(show Yj X.prog X.w H s.heap a (.dK kvs ep)from I.hok a _ hq)
  obtain⟨f0,f1,f2,f3,f4,f5⟩:=hf it af;have hkv:kvs[i]? =aA (kvs[i]'(by omega)):=av (by omega);obtain⟨vv,hv,hr⟩:=Uo rel hkv;obtain⟨e,he,hke⟩:=Ze4 pr hv;have hz:es.size=n:=by rw[<-ay,Mr pr,<-ig rel,hn]
  refine Ax st g c hz (e:=e) (by rw[<-c9];exact he) λh' st' sb=>?_;have I1:Inv X pins σ H {s with heap:=h'}:=I.turned (t':=s.toks) (λb o hb e=>(sb.2 b hb).trans e) f0 f1 f3 f4 f5;obtain⟨o,e1,c1,d1⟩:=id st';exact⟨e.key,rfl,Ab (s:={s with heap:=h'}) e1 c1 d1 (by decide) ⟨kV (kvs[i]'(by omega)).1,H,I1,Dw (by rw[hr.1];exact hke),⟨rfl,kvs,_,hq,hkv,rfl⟩,st',λb hb=>(hf b hb).1⟩⟩
 done:=by
  intro X hP hw hK hc i pins s σ H E I hf st hg;subst hP hw hK;obtain⟨kvs,hq,hn,hi⟩:=hg;obtain⟨z,hd,vs,rel,od,es,g,x,c,ko,pr,nd⟩:=(show Yj X.prog X.w H s.heap a (.dK kvs ep)from I.hok a _ hq)
  obtain⟨f0,f1,f2,f3,f4,f5⟩:=hf it af;have hz:es.size=n:=by rw[<-ay,Mr pr,<-ig rel,hn]
  exact Ay (I.ok.hd hc) st g c hz hi λh' eb=>⟨rfl,I.turned (t':=s.toks) (λb o hb e=>eb b o hb e) f0 f1 f3 f4 f5⟩
 self:=λ_ _ s _ _ st h=>by exact wpAny_pyIter_slot st.typeIs PySem.F.slot_dict_keyiterator_iter (dr PySem.F.slot_dict_keyiterator_iter st.typeIs PySem.F.entry_dict_keyiterator_iter (by exact ag ⟨_,rfl,"dict_keyiterator",_,st.typeIs,gu.lookup,h⟩) (PySem.F.args_dict_keyiterator_iter_1 _))
theorem Ziw{P:b6}{w:c7}{K:ad}{tg:cj}(a it:aj)(n ep:Nat):Turn P w K tg (Itd a n ep) [it] it (λi h=>h.IsKeyIter it a i n ep)where
 mem:=af
 obj:=(Bp (P:=P) (w:=w) (K:=K) (tg:=tg) a it n ep).obj
 keep:=(Bp (P:=P) (w:=w) (K:=K) (tg:=tg) a it n ep).keep
 item:=by
  intro X hP hw hK hc i pins s σ H E I hf st hg;subst hP hw hK;obtain⟨kvs,bs,hq,hn,hi⟩:=hg;obtain⟨z,hd,xs,rel,od,es,g,x,c,en,nd,hbs⟩:=(show Yj X.prog X.w H s.heap a (.dT kvs ep bs)from I.hok a _ hq)
  obtain⟨f0,f1,f2,f3,f4,f5⟩:=hf it af;have hkv:kvs[i]? =aA (kvs[i]'(by omega)):=av (by omega);obtain⟨vv,hv,hr⟩:=Uo rel hkv;have hz:es.size=n:=by rw[<-ay,en,aq,<-ig rel,hn]
  have he:es[i]? =aA (entryOfKey (tupleKind (Zr X.prog X.w)) vv):=by rw[<-c9,en,az,hv];rfl
  refine Ax st g c hz he λh' st' sb=>?_;have I1:Inv X pins σ H {s with heap:=h'}:=I.turned (t':=s.toks) (λb o hb e=>(sb.2 b hb).trans e) f0 f1 f3 f4 f5;obtain⟨o,e1,c1,d1⟩:=id st';exact⟨.ref vv.2.1,rfl,Ab (s:={s with heap:=h'}) e1 c1 d1 (by decide) ⟨.ref vv.2.1,H,I1,rfl,⟨rfl,kvs,bs,vv.2.1,hq,by rw[<-hbs,az,hv];rfl,rfl⟩,st',λb hb=>(hf b hb).1⟩⟩
 done:=by
  intro X hP hw hK hc i pins s σ H E I hf st hg;subst hP hw hK;obtain⟨kvs,bs,hq,hn,hi⟩:=hg;obtain⟨z,hd,xs,rel,od,es,g,x,c,en,nd,hbs⟩:=(show Yj X.prog X.w H s.heap a (.dT kvs ep bs)from I.hok a _ hq)
  obtain⟨f0,f1,f2,f3,f4,f5⟩:=hf it af;have hz:es.size=n:=by rw[<-ay,en,aq,<-ig rel,hn]
  exact Ay (I.ok.hd hc) st g c hz hi λh' eb=>⟨rfl,I.turned (t':=s.toks) (λb o hb e=>eb b o hb e) f0 f1 f3 f4 f5⟩
 self:=(Bp (P:=P) (w:=w) (K:=K) (tg:=tg) a it n ep).self
def Zri(tl:TE):TI:=λσ H R=>tl σ H λx H1=>(∃a kvs ep,x= .ref a/\H1 a=aA (.dK kvs ep)/\R (Itk a kvs.length ep) H1)\/(∃a kvs ep bs,x= .ref a/\H1 a=aA (.dT kvs ep bs)/\R (Itd a kvs.length ep) H1)
theorem Znd(hl:PE X l tl):PI X tg l (Zri tl):=by
 intro pins s σ H R I h;refine Wp (hl pins s σ H _ I h) λv s1 zq9=>?_;obtain⟨x,H1,I1,r1,q1⟩:=zq9;rcases q1 with⟨a,kvs,ep,rfl,hq,q⟩|⟨a,kvs,ep,bs,rfl,hq,q⟩
 .cases r1;obtain⟨z,hd,vs,rel,od,es,g,x,c,ko,pr,nd⟩:=(show Yj X.prog X.w H1 s1.heap a (.dK kvs ep)from I1.hok a _ hq)
  have hz:es.size=kvs.length:=by rw[<-ay,Mr pr,<-ig rel]
  refine Aw hd g x c ⟨s1.heap.objs.size,[s1.heap.objs.size],_,_,H1,rfl,I1.kept (t':=s1.toks) λb o e=>au _ e,Bp a _ kvs.length ep,⟨_,bp _ rfl,rfl,by rw[hz];rfl⟩,λb hb=>?_,q⟩;obtain rfl:=ar.mp hb;exact I1.fpOk (ba _) (I1.hok.fresh (ba _))
 .cases r1;obtain⟨z,hd,xs,rel,od,es,g,x,c,en,nd,hbs⟩:=(show Yj X.prog X.w H1 s1.heap a (.dT kvs ep bs)from I1.hok a _ hq)
  have hz:es.size=kvs.length:=by rw[<-ay,en,aq,<-ig rel]
  refine Aw hd g x c ⟨s1.heap.objs.size,[s1.heap.objs.size],_,_,H1,rfl,I1.kept (t':=s1.toks) λb o e=>au _ e,Ziw a _ kvs.length ep,⟨_,bp _ rfl,rfl,by rw[hz];rfl⟩,λb hb=>?_,q⟩;obtain rfl:=ar.mp hb;exact I1.fpOk (ba _) (I1.hok.fresh (ba _))
end L2
namespace DL
open PySem PySem.Spec PyProof.Rows L2
variable{K:ad}
@[simp]def Rw:Key->D
 | .inl i=>.int i
 | .inr x=>.str x
theorem Sl(k):Rep K F (Rw k) (kV k):=by
 cases k with
 |inl i=>exact .int i
 |inr x=>exact .str x
theorem Ms:∀k:List Key,Reps K F (k.map Rw) (k.map kV)
 | []=>.nil
 |k::r=>.cons (Sl k) (Ms r)
theorem Zb1(h:F a=aA (.dK kvs ep)):Oq K (Itk a kvs.length ep) F ((kvs.map (·.1)).map Rw):=λF' H sF sH i=>by have q:H a=aA (.dK kvs ep):=sH _ _ (sF _ _ h);refine⟨λd hd=>?_,λhl=>⟨kvs,q,rfl,by simpa using hl⟩⟩;rw[cg,az]at hd;obtain⟨kv,h1,h2⟩:=cm.mp hd;refine⟨⟨kvs,q,rfl,(a8.mp h1).1⟩,λx H' ⟨e1,kvs',kv',e2,e3,e4⟩=>?_⟩;subst e1;rw[q]at e2;cases e2;rw[h1]at e3;cases e3;subst e4;rw[<-h2];exact⟨Zi.refl _,[],df,λ_ h=>(nomatch h),Sl _⟩
theorem Zb2(h:F a=aA (.dT kvs ep bs))(kb:KB F kvs bs):Oq K (Itd a kvs.length ep) F ((kvs.map (·.1)).map λk=>D.tup (k.map Rw)):=λF' H sF sH i=>by have q:H a=aA (.dT kvs ep bs):=sH _ _ (sF _ _ h);refine⟨λd hd=>?_,λhl=>⟨kvs,bs,q,rfl,by simpa using hl⟩⟩;rw[cg,az]at hd;obtain⟨kv,h1,h2⟩:=cm.mp hd;refine⟨⟨kvs,bs,q,rfl,(a8.mp h1).1⟩,λx H' ⟨e1,kvs',bs',b,e2,e3,e4⟩=>?_⟩;subst e1;rw[q]at e2;cases e2;subst e4;obtain⟨b',g1,g2⟩:=Uo (kb.mono sF) h1;rw[e3]at g1;cases g1;rw[<-h2];exact⟨Zi.refl _,[],df,λ_ h=>(nomatch h),.tup g2 (Ms _)⟩
@[simp]def Xv(fe:FE):FD:=λδ=>(fe δ).bind λp=>(frz p.1 p.2).bind λq=>match q.1 with
 | .dK ks _=>aA (ks.map Rw,q.2)
 | .dT ks _=>aA (ks.map λk=>D.tup (k.map Rw),q.2)
 |_=>aB
theorem Zne{Z:Ent K}(h:Qm Z (Xv fe) σ H R):Zri (Ze Z fe) σ H R:=by
 obtain⟨F,δ,own,ds,δ',s,e,k⟩:=h;obtain⟨⟨rv,δ1⟩,e1,e2⟩:=aa.mp e;obtain⟨⟨d,δ2⟩,e3,e4⟩:=aa.mp e2;refine⟨F,δ,own,rv,δ1,s,e1,λv H1 F1 own1 sH sF s1 r1=>?_⟩;obtain⟨F2,sF2,s2,r2⟩:=s1.settleR r1;obtain⟨F3,own3,sF3,s3,r3⟩:=s2.frzR r2 e3;dsimp only at e4;split at e4
 .cases e4;cases r3 with
  |dK h e r=>subst e;exact .inl ⟨_,_,_,rfl,s3.le _ _ h,k _ H1 F3 own3 sH (sF.trans (sF2.trans sF3)) s3 (Zb1 h)⟩
 .cases e4;cases r3 with
  |dT h kb e r=>subst e;exact .inr ⟨_,_,_,_,rfl,s3.le _ _ h,k _ H1 F3 own3 sH (sF.trans (sF2.trans sF3)) s3 (Zb2 h kb)⟩
 .cases e4
theorem Ze5{Z:Ent X.K}(ha:PE X a (Ze Z fa)):PI X tg a (Qm Z (Xv fa)):=λpins s σ H R I h=>Znd ha pins s σ H R I (Zne h)
end DL
namespace DL
open PySem PySem.Spec PyProof.Rows L2
@[simp]def inW(d1 d2:D):Option SV:=match d2.seq? with
 |some xs=>if d1.isFlat=aC/\xs.all D.isFlat=aC then aA (.fz (.bl (Zbz d1 xs)))else aB
 |none=>inD d1 d2
@[simp]def Zwc(d1 d2:D):Option SV:=match d2.seq? with
 |some xs=>if d1.isFlat=aC/\xs.all D.isFlat=aC then aA (.fz (.bl (!Zbz d1 xs)))else aB
 |none=>L9 d1 d2
end DL
namespace L2
open PySem PySem.Spec PyProof.Rows
def Z0x:R2:=λx y H Q=>∃a b kvs,x= .ref a/\y= .ref b/\HTt H a kvs/\HTt H b kvs/\(∀p∈kvs,Y2 p.2=aC)/\Q (.bl aC) H
end L2
namespace DL
open PySem PySem.Spec PyProof.Rows L2
def Zrj(ks ks':List (List Key))(vs vs':List D):Bool:=@decide (ks=ks'/\vs=vs'/\vs.all D.isFlat=aC) (Classical.propDecidable _)
@[simp]def Z0y(d1 d2:D):Option SV:=match d1,d2 with
 | .dT ks vs,.dT ks' vs'=>if Zrj ks ks' vs vs'=aC then aA (.fz (.bl aC))else aB
 |_,_=>aB
end DL
namespace DL
open PySem PySem.Spec PyProof.Rows L2
end DL
namespace DL
open PySem PySem.Spec PyProof.Rows L2
@[simp]def Xw(src:List BSrc)(k:Nat)(g:FG)(tt:FT)(te:FE):List D->Yk->Option Yk
 | [],δ=>aA δ
 |d::ds,δ=>(g.run d δ).bind λδ1=>(tt δ1).bind λp=>if p.1=aC then(te p.2).bind λq=>match q.1,q.2[k]? with
   | .tmp (.ol xs),aA (aA (.oL aB zs))=>if zs.length<bd then Xw src k g tt te ds (O9 src (q.2.set k (aA (.oL aB (zs++[xs])))))else aB
   |_,_=>aB
  else Xw src k g tt te ds (O9 src p.2)
@[simp]def Zwd(src:List BSrc)(k:Nat)(fi:FD)(g:FG)(tt:FT)(te:FE):FE:=λδ=>(fi δ).bind λp=>(frzAll (caps src) p.2).bind λc=>(Xw src k g tt te p.1 ((bD src c.2).set k (some (.oL none [])))).bind λδb=>match δb[k]? with
 |some (aA (.oL aB ys))=>aA (.tmp (.oL aB ys),c.2)
 |_=>aB
def Zk0(i p q:Nat):FE:=λδ=>match δ[i]?,δ[p]?,δ[q]? with
 |some (aA (.oL aB xss)),aA (aA (.fz (.int n))),aA (aA (.fz (.lst xs)))=>if 0<=n/\n.toNat<=xss.length/\xss.length+1<=bd then aA (.tmp (.oL aB (xss.take n.toNat++[xs]++xss.drop n.toNat)),δ.set i aB)else aB
 |_,_,_=>aB
@[simp]theorem Zrk(hi:δ[i]? =some (some (.oL none xss)))(hp:δ[p]? =some (some (.fz (.int (n:Nat)))))(hq:δ[q]? =some (some (.fz (.lst xs))))(hn:n<=xss.length)(hz:xss.length+1<=bd):
  Zk0 i p q δ=aA (.tmp (.oL aB (xss.take n++[xs]++xss.drop n)),δ.set i aB):=by
 unfold Zk0;rw[hi,hp,hq];dsimp only;rw[if_pos ⟨by omega,by omega,hz⟩,g8]
abbrev Z0z(K:ad):List V->Hp->VK->Prop:=λxs H Q=>∃p ys,xs=[V.ref p]/\(W5 K H p ys\/Ob K H p ys)/\∀l,H l=aB->Q (.ref l) (Z9 H l (.lst ys))
@[simp]def apT(c:Str)(n:Nat)(xss:List (List D)):List (List D):=(xss.take n).map (· ++[.str c])++xss.drop n
def Dx(i j:Nat)(c:Str):FS:=λδ=>match δ[i]? with
 |some (aA (.oL aB xss))=>if i≠j/\j<δ.length/\(∀xs∈xss,xs.length<bd)then aA (.nx ((δ.set j aB).set i (aA (.oL aB (xss.map (· ++[.str c]))))))else aB
 |_=>aB
@[simp]theorem Znf(hi:δ[i]? =some (some (.oL none xss)))(hij:i≠j)(hj:j<δ.length)(hz:∀xs∈xss,xs.length<bd):Dx i j c δ=some (.nx ((δ.set j none).set i (some (.oL none (xss.map (· ++[.str c])))))):=by unfold Dx;rw[hi];dsimp only;rw[if_pos ⟨hij,hj,hz⟩]
def Dy(i:Nat):FS:=λδ=>match δ[i]? with
 |some (aA (.oL aB _))=>aA (.nx (δ.set i (aA (.ol []))))
 |_=>aB
@[simp]theorem Zng(hi:δ[i]? =some (some (.oL none xss))):Dy i δ=some (.nx (δ.set i (some (.ol [])))):=by unfold Dy;rw[hi]
end DL
namespace DL
open PySem PySem.Spec PyProof.Rows L2
section
variable{X:Cx}{pos:Pos}
theorem Zk1(i)(hN:X.N[i]? =aA x:=by rfl)(hv:Vs X.env.scope x:=by first|exact Or.inl rfl|exact gw (Or.inl rfl)|exact gw (gw rfl))(hd:(x==("__debug__":Str))=aD:=by decide)(hcd:(x==("__classdict__":Str))=aD:=by decide):PE X (.Name x pos) (Bg i):=Jy hN hv hd hcd
end
end DL
namespace DL
open PySem PySem.Spec PyProof.Rows L2
def Ztv(K:ad)(C:aj)(f:Str):Sp:=λvs H Q _=>∃e p ys,vs=[.ref e,.ref p]/\H e=aA (.ext (Ci e C aB))/\(W5 K H p ys\/Ob K H p ys)/\
 ∀l,H l=aB->∀dx,Z9 H l (.lst ys) dx=aB->Q .non (Z9 (Z9 (Z9 H l (.lst ys)) dx (.xd [(f,.ref l)])) e (.ext (Ci e C (aA dx))))
def Ztw(C:aj)(f:Str):Sp:=λvs H Q _=>∃e v,vs=[.ref e,v]/\H e=aA (.ext (Ci e C aB))/\
 ∀dx,H dx=aB->Q .non (Z9 (Z9 H dx (.xd [(f,v)])) e (.ext (Ci e C (aA dx))))
@[simp]def Zwe(c f:Str)(fe:FE):FS:=λδ=>(fe δ).bind λp=>(frz p.1 p.2).bind λq=>match q.1 with
 | .lst ds=>aA (.ex ⟨c,[f],[.lst ds]⟩ q.2)
 |_=>aB
@[simp]def Zwf(c f:Str)(fe:FE):FS:=λδ=>(fe δ).bind λp=>(frz p.1 p.2).bind λq=>some (.ex ⟨c,[f],[q.1]⟩ q.2)
@[simp]noncomputable def Zyc(cs:List Str)(f:Str):D->Option SV
 | .exc c ks vs=>if c∈cs then((ks.zip vs).lookup f).bind λd=>aA (.fz d)else aB
 |_=>aB
end DL
namespace DL
open PySem PySem.Spec PyProof.Rows L2
theorem Sm:∀{xs ys:List Str},xs.map V.str=ys.map V.str->xs=ys
 | [],[],_=>rfl
 | [],_::_,h=>by simp at h
 |_::_,[],h=>by simp at h
 |x::xs,y::ys,h=>by simp only[bc,List.cons.injEq]at h;obtain⟨h1,h2⟩:=h;cases h1;rw[Sm h2]
abbrev Ze6(H:Hp)(bs:List aj)(xss:List (List Str)):Prop:=Paired (λ(b:aj) (xs:List Str)=>H b=aA (.tup (xs.map V.str))) bs xss
open Classical in
def eqT(H:Hp)(ss:List Str):ah->Bool:=λw=>decide (∃b,w= .ref b/\H b=aA (.tup (ss.map V.str)))
def Z00(K:ad)(neg:Bool):R2:=λx y H Q=>∃b ss a bs xss,x= .ref b/\H b=aA (.tup (ss.map V.str))/\y= .ref a/\W5 K H a (bs.map V.ref)/\Ze6 H bs xss/\Q (.bl (if neg then !(xss.any λxs=>decide (xs=ss))else xss.any λxs=>decide (xs=ss))) H
def Ztx(K:ad):V->List V->Hp->VK->Prop:=λx xs H Q=>∃b ss a bs xss j,xs=[.ref b]/\H b=aA (.tup (ss.map V.str))/\x= .ref a/\W5 K H a (bs.map V.ref)/\Ze6 H bs xss/\(xss.findIdx? λxs=>decide (xs=ss))=aA j/\Q (.int (j:Nat)) H
@[simp]def tl?:List D->Option (List (List Str))
 | []=>aA []
 | .tup ds::r=>(strs? ds).bind λx=>(tl? r).bind λt=>aA (x::t)
 |_=>aB
@[simp]def inP:D->D->Option SV
 | .tup a,.lst xs=>(strs? a).bind λss=>(tl? xs).bind λxss=>aA (.fz (.bl (xss.any λx=>decide (x=ss))))
 |_,_=>aB
@[simp]def Zwg:D->D->Option SV
 | .tup a,.lst xs=>(strs? a).bind λss=>(tl? xs).bind λxss=>aA (.fz (.bl (!(xss.any λx=>decide (x=ss)))))
 |_,_=>aB
@[simp]def Zwh:List D->Option SV
 | [.lst xs,.tup a]=>(strs? a).bind λss=>(tl? xs).bind λxss=>(xss.findIdx? λx=>decide (x=ss)).bind λj=>aA (.fz (.int (j:Nat)))
 |_=>aB
end DL
namespace DL
open PySem PySem.Spec PyProof.Rows L2
@[simp]def Zyd(k0:Str)(f0:FE)(j:Nat)(f1:FE):FE:=λδ=>match δ[j]? with
 |some (aA (.fz (.str x)))=>(Zh f0 (Zh f1 Zs) δ).bind λp=>match p.1 with
  | [v0,v1]=>if k0=x then aB else aA (.tmp (.oK [.inr k0,.inr x] [v0,v1]),p.2)
  |_=>aB
 |_=>aB
end DL
namespace L2
open PySem PySem.Spec PyProof.Rows
def Zty(K:ad):V->List V->Hp->VK->Prop:=λx xs H Q=>∃p ys y,x= .ref p/\xs=[y]/\W5 K H p ys/\Y2 y=aC/\ys.all Y2=aC/\Q (.int ((ys.countP λz=>Pu z y):Nat)) H
def Zwi:V->List V->Hp->VK->Prop:=λx xs H Q=>∃a b i,x= .str a/\xs=[.str b,.int i]/\Q (.int (Txt.find3 a b i)) H
end L2
namespace DL
open PySem PySem.Spec PyProof.Rows L2
@[simp]def Zwj:List D->Option SV
 | [.lst xs,x]=>if x.isFlat=aC/\xs.all D.isFlat=aC then aA (.fz (.int ((xs.countP λy=>Xp y x):Nat)))else aB
 |_=>aB
@[simp]noncomputable def Zwk:List D->Option SV
 | [.str a,.str b,.int i]=>aA (.fz (.int (Txt.find3 a b i)))
 |_=>aB
@[simp]def Z01(i:Nat)(j:Int):FS:=λδ=>match δ[i]? with
 |some (aA (.fz (.int x)))=>aA (.nx (δ.set i (aA (.fz (.int (x+j))))))
 |_=>aB
@[simp]def Zye:FE:=λδ=>some (.tmp (.oL none [[]]),δ)
def Zk2(i:Nat):FS:=λδ=>match δ[i]? with
 |some (aA (.oL p xss))=>if xss.length<bd then aA (.nx (δ.set i (aA (.oL p (xss++[[]])))))else aB
 |_=>aB
@[simp]theorem Zrl(hi:δ[i]? =some (some (.oL p xss)))(hz:xss.length<bd):Zk2 i δ=some (.nx (δ.set i (some (.oL p (xss++[[]]))))):=by unfold Zk2;rw[hi];exact if_pos hz
abbrev Z02(K:ad)(i:Nat):TE:=tOp (Zhr K) (Bg i) (tC (.int (-1)))
def Zrm(i:Nat)(fe:FE):FS:=λδ=>match δ[i]? with
 |some (aA (.oL _ xss0))=>if xss0.length=0 then aB else(fe δ).bind λq=>(frz q.1 q.2).bind λr=>match r.2[i]? with
  |some (aA (.oL p xss))=>(xss[xss.length- 1]?).bind λxs=>if xs.length<bd then aA (.nx (r.2.set i (aA (.oL p (xss.set (xss.length- 1) (xs++[r.1]))))))else aB
  |_=>aB
 |_=>aB
end DL
namespace DL
open PySem PySem.Spec PyProof.Rows L2
def Zk3(i:Nat):FE:=λδ=>match δ[i]? with
 |some (aA (.oL _ xss))=>aA (.tmp (.fz (.int (xss.length:Nat))),δ)
 |_=>aB
@[simp]theorem Zrn(hi:δ[i]? =some (some (.oL p xss))):Zk3 i δ=some (.tmp (.fz (.int (xss.length:Nat))),δ):=by unfold Zk3;rw[hi]
abbrev Zyf(K:ad):List V->Hp->VK->Prop:=λxs H Q=>∃p ys,xs=[V.ref p]/\(W5 K H p ys\/Ob K H p ys)/\Q (.int ys.length) H
def Ztz(i:Nat):FE:=λδ=>match δ[i]? with
 |some (aA (.oL _ xss))=>(xss[xss.length- 1]?).bind λxs=>aA (.tmp (.fz (.int (xs.length:Nat))),δ)
 |_=>aB
def Zt0(i:Nat):FE:=λδ=>match δ[i]? with
 |some (aA (.oL _ xss))=>(xss[xss.length- 1]?).bind λxs=>(xs[xs.length- 1]?).bind λd=>aA (.tmp (.fz d),δ)
 |_=>aB
def Sn(i:Nat):FE:=λδ=>match δ[i]? with
 |some (aA (.oL _ (xs::_)))=>aA (.tmp (.fz (.tup xs)),δ)
 |_=>aB
@[simp]theorem Zk4(hi:δ[i]? =some (some (.oL p (xs::xss)))):Sn i δ=some (.tmp (.fz (.tup xs)),δ):=by unfold Sn;rw[hi]
abbrev Zyg(K:ad):List V->Hp->VK->Prop:=λxs H Q=>∃p ys,xs=[V.ref p]/\((W5 K H p ys/\∀l,H l=aB->Q (.ref l) (Z9 H l (.tup ys)))\/(Ob K H p ys/\Q (.ref p) H))
def Zyh(j i:Nat):FS:=λδ=>match δ[i]? with
 |some (aA (.oL p xss))=>(xss[xss.length- 1]?).bind λxs=>if i≠j/\j<δ.length then aA (.nx ((δ.set i (aA (.oL p xss.dropLast))).set j (aA (.ol xs))))else aB
 |_=>aB
def I9(H:Hp)(ns:Zo):Hp:=λb=>if b∈Bf ns then aB else H b
def spM(K:ad)(g:aj->List (List D)->Option (List (List D))):Sp:=λvs H Q _=>∃F a xss ws ns yss,vs=[V.ref a]/\Zi F H/\Kids K F xss ws ns/\(Bf ((a,HO.lst ws)::ns)).Nodup/\(∀p∈(a,HO.lst ws)::ns,F p.1=aB/\H p.1=aA p.2)/\g a xss=aA yss/\
 ∀H' F' ws' ns',Zi (I9 H ((a,.lst ws)::ns)) H'->Zi F F'->Zi F' H'->(∀(b:aj) (o:HO),F' b=aA o->F b=aA o\/I9 H ((a,.lst ws)::ns) b=aB)->Kids K F' yss ws' ns'->(Bf ((a,HO.lst ws')::ns')).Nodup->
  (∀p∈(a,HO.lst ws')::ns',F' p.1=aB/\I9 H ((a,.lst ws)::ns) p.1=aB/\H' p.1=aA p.2)->Q .non H'
@[simp]def Ze7(n:Nat)(a:aj)(xss:List (List D)):Yk:=some (.oL (some a) xss)::dn (n- 1) none
@[simp]noncomputable def Zk5(a:aj)(o:Option (Option SV)):Option (List (List D)):=match o with
 |some (aA (.oL (aA b) yss))=>if b=a then aA yss else aB
 |_=>aB
@[simp]def Z03(f:FS)(n:Nat)(a:aj)(xss:List (List D)):Option (List (List D)):=match f (Ze7 n a xss)with
 |some (.nx δ)=>Zk5 a δ[0]?
 |_=>aB
open Classical in
def Z04(i:Nat)(g:aj->List (List D)->Option (List (List D))):FS:=λδ=>match δ[i]? with
 |some (aA (.oL p xss))=>if h:∃o,∀a,g a xss=aA o then aA (.nx (δ.set i (aA (.oL p h.choose))))else aB
 |_=>aB
end DL
namespace DL
open PySem PySem.Spec PyProof.Rows L2
end DL
namespace L2
open PySem PySem.Spec PyProof.Rows
abbrev Zyi:List V->Hp->VK->Prop:=λxs H Q=>∃(x:Str) (n:Int),xs=[V.str x]/\PySem.intText? x=aA n/\x.length<=640/\Q (.int n) H
end L2
namespace DL
open PySem PySem.Spec PyProof.Rows L2
noncomputable def Zyj:List D->Option SV
 | [.str x]=>if x.length<=640 then(PySem.intText? x).bind λn=>aA (.fz (.int n))else aB
 |_=>aB
end DL
namespace L2
open PySem PySem.Spec PyProof.Rows
def Zyk(K:ad):V->List V->Hp->VK->Prop:=λx vs H Q=>∃l b xs zs,x= .ref l/\vs=[.ref b]/\H l=aA (.lst xs)/\Ob K H b zs/\xs.length+zs.length<=sizeLine/\Q .non (Z9 H l (.lst (xs++zs)))
theorem Sq:∀{xs:List V} {its:List ah},xs.length=its.length->(∀(j:Nat) x v,xs[j]? =aA x->its[j]? =aA v->Zy x v)->Z2 xs its
 | [],[],_,_=>.nil
 |x::xs,v::its,h,g=>.cons (g 0 x v rfl rfl) (Sq (by simpa using h) λj x v a b=>g (j+1) x v (by simpa using a) (by simpa using b))
 | [],_::_,h,_=>nomatch h
 |_::_,[],h,_=>nomatch h
def Ze8:List V->Hp->VK->Prop:=λxs H Q=>∃p kvs,xs=[.ref p]/\RdK H p kvs/\∀l,H l=aB->Q (.ref l) (Z9 H l (.lst (kvs.map λkv=>kV kv.1)))
theorem Az(hc:X.calm=aC):Jo X (.type "list") Ze8:=by
 intro pins s σ H xs us Q I r h;obtain⟨p,kvs,rfl,⟨ep,e⟩,q⟩:=h;obtain⟨u,rfl,rx⟩:=Oc r;cases rx;obtain⟨z,hd,vs,rel,dd⟩:=(show Yj X.prog X.w H s.heap p (.dK kvs ep)from Zdo I.hok e)
 have hl:vs.length=kvs.length:=(ig rel).symm;refine PySem.W.kdl_call (PySem.W.kdl_dict (knd:=Zr X.prog X.w) (kvs:=vs) (ep:=ep) hd) (I.ok.hd hc) dd (by rw[hl];exact z) λh' tk acc' c' hk hD hacc=>?_;have hv:Z2 (kvs.map λkv=>kV kv.1) acc'.toList:=by refine Sq ((aq _).trans (hl.symm.trans (hacc.1.symm.trans (ay).symm))) λj x v hx hv=>?_;obtain⟨k,y,e1,e2⟩:=hacc.2 j v (by rw[<-c9];exact hv);rw[az]at hx;obtain⟨kv,e3,e4⟩:=cm.mp hx;obtain⟨q',e5,e6,_⟩:=Uo rel e3;rw[e5]at e1;cases e1;rw[<-e4,e6];exact Dw e2
 exact⟨.ref s.heap.objs.size,_,I.laid (t':=tk) hk (ba _) (show Yj X.prog X.w _ h' _ (.lst (kvs.map λkv=>kV kv.1))from⟨by rw[aq];exact z,acc'.toList,c',hv,by simpa using hD⟩),rfl,q _ (I.hok.fresh (ba _))⟩
end L2
namespace DL
open PySem PySem.Spec PyProof.Rows L2
variable{K:ad}
def Sr:List D->Option SV
 | [.dK ks _]=>aA (.ol (ks.map Rw))
 |_=>aB
@[simp]theorem Zro(ks vs):Sr [.dK ks vs]=some (.ol (ks.map Rw)):=rfl
section
variable{Z:Ent K}{H:Hp}{σ:L2.St}{Q:VK}
theorem Znh:Us Z Ze8 Sr:=by
 intro F H σ δ own vs ds sv Q s r e k;unfold Sr at e;split at e
 .cases e;cases r with
  |cons h t=>
   cases t;obtain⟨a,kvs,rfl,ha,ek,rr⟩:=h.dK s.le;refine⟨a,kvs,rfl,ha.rd,λl hl=>?_⟩;rw[<-ek]at k;have hr:=Ms (K:=K) (F:=F) (kvs.map (·.1));have hr:Reps K F ((kvs.map (·.1)).map Rw) (kvs.map λkv=>kV kv.1):=by rw[cg (g:=kV)]at hr;exact hr
   exact k.one s (.ol hr) hl
 .cases e
@[simp]noncomputable def SV.tup?:RV->Option (List D)
 | .tmp (.fz (.tup ys))=>aA ys
 |_=>aB
@[simp]def Zyl(i:Nat)(fe:FE):FS:=λδ=>match δ[i]? with
 |some (aA (.ol _))=>(fe δ).bind λp=>(SV.tup? p.1).bind λys=>match p.2[i]? with
  |some (aA (.ol xs))=>if xs.length+ys.length<=bd then aA (.nx (p.2.set i (aA (.ol (xs++ys)))))else aB
  |_=>aB
 |_=>aB
end
section
variable{X:Cx}{Z:Ent X.K}{a b c:cj}{fa fb fc:FE}{pos:Pos}
theorem Zni{p}(hc:X.calm=aC)(hm:X.mg "list"=aB)(ha:PE X a (Ze Z fa))(hg:Gl X "list":=by rfl)(he:a9 [a] X.env=(aD,gp a X.env)::a9 [] X.env:=by rfl)(hpl:(gq pos (a9 [] X.env)).any (·.1)=aD:=by rfl):PE X (.Call (.Name "list" p) [a] [] pos) (Ze Z (Yq Sr (Zc fa Zj))):=
 Rs (Az hc) Znh hm boot_list (Zk ha Ya he) hg (by decide) (by decide) he hpl
end
end DL
namespace DL
open PySem PySem.Spec PyProof.Rows L2
@[simp]def bmX(T:String)(g:List D->Option SV)(fo:FE)(fa:FAX):FX:=λδ=>(fo δ).bind λp=>(Iw p.1 p.2).bind λd0=>if Zmu T d0=true then(fa p.2).bind fun
 | .x e δ2=>aA (.x e δ2)
 | .v rvs δ2=>(Oe (p.1::rvs) δ2).bind λds=>(g ds).bind λsv=>aA (.v (.tmp sv) δ2)else aB
end DL
namespace DL
open PySem PySem.Spec PyProof.Rows L2
inductive MR where
 |v (yss:List (List D))|x (e:Exn)
def Z05(K:ad)(g:aj->List (List D)->Option MR):Sp:=λvs H Q E=>∃F a xss ws ns r,vs=[V.ref a]/\Zi F H/\Kids K F xss ws ns/\(Bf ((a,HO.lst ws)::ns)).Nodup/\(∀p∈(a,HO.lst ws)::ns,F p.1=aB/\H p.1=aA p.2)/\g a xss=aA r/\match r with
 | .v yss=>∀H' F' ws' ns',Zi (I9 H ((a,.lst ws)::ns)) H'->Zi F F'->Zi F' H'->(∀(b:aj) (o:HO),F' b=aA o->F b=aA o\/I9 H ((a,.lst ws)::ns) b=aB)->Kids K F' yss ws' ns'->(Bf ((a,HO.lst ws')::ns')).Nodup->
   (∀p∈(a,HO.lst ws')::ns',F' p.1=aB/\I9 H ((a,.lst ws)::ns) p.1=aB/\H' p.1=aA p.2)->Q .non H'
 | .x e=>∀cls od H' F',Zi (I9 H ((a,.lst ws)::ns)) H'->Zi F F'->Zi F' H'->(∀(b:aj) (o:HO),F' b=aA o->F b=aA o\/I9 H ((a,.lst ws)::ns) b=aB)->Lz K F' e cls od->E cls od H'
@[simp]def Zym(f:FS)(n:Nat)(a:aj)(xss:List (List D)):Option MR:=match f (Ze7 n a xss)with
 |some (.nx δ)=>(Zk5 a δ[0]?).map .v
 |some (.ex e _)=>aA (.x e)
 |_=>aB
open Classical in
def Zyn(i:Nat)(g:aj->List (List D)->Option MR):FS:=λδ=>match δ[i]? with
 |some (aA (.oL p xss))=>if h:∃o,∀a,g a xss=aA o then(match h.choose with
  | .v yss=>aA (.nx (δ.set i (aA (.oL p yss))))
  | .x e=>aA (.ex e (δ.set i aB)))else aB
 |_=>aB
def Zrp(i:Nat)(fx:FX):FS:=λδ=>match δ[i]? with
 |some (aA (.oL _ xss0))=>if xss0.length=0 then aB else(fx δ).bind fun
  | .x e δ1=>aA (.ex e δ1)
  | .v rv δ1=>(frz rv δ1).bind λr=>match r.2[i]? with
   |some (aA (.oL p xss))=>(xss[xss.length- 1]?).bind λxs=>if xs.length<bd then aA (.nx (r.2.set i (aA (.oL p (xss.set (xss.length- 1) (xs++[r.1]))))))else aB
   |_=>aB
 |_=>aB
end DL
namespace L2
open PySem PySem.Spec PyProof.Rows
end L2
namespace L2
open PySem PySem.Spec PyProof.Rows
def Zyo(K:ad):R2:=λx y H Q=>∃a k xs,x= .ref a/\y= .int k/\Ob K H a xs/\xs≠[]/\2<=k/\k<=1000/\xs.length<=1000/\∀p,H p=aB->Q (.ref p) (Z9 H p (.tup (dn k.toNat xs).flatten))
end L2
namespace DL
open PySem PySem.Spec PyProof.Rows L2
noncomputable def Zyp:D->D->Option SV
 | .tup xs,.int k=>if xs.isEmpty=aD/\2<=k/\k<=1000/\xs.length<=1000 then aA (.fz (.tup (dn k.toNat xs).flatten))else aB
 |_,_=>aB
end DL
namespace L2
open PySem PySem.Spec PyProof.Rows
def Zt1:V->List V->Hp->VK->Prop:=λx xs H Q=>∃a b k,x= .str a/\xs=[.str b,.int k]/\(b.length==0)=aD/\0<=k/\k<=1000/\a.length<=sizeLine/\(Txt.splitMax a b k).length<=sizeLine/\∀p,H p=aB->Q (.ref p) (Z9 H p (.lst ((Txt.splitMax a b k).map V.str)))
end L2
namespace DL
open PySem PySem.Spec PyProof.Rows L2
@[simp]noncomputable def Zt2:List D->Option SV
 | [.str a,.str b,.int k]=>if(b.length==0)=aD/\0<=k/\k<=1000/\a.length<=bd/\(Txt.splitMax a b k).length<=bd then aA (.ol ((Txt.splitMax a b k).map D.str))else aB
 |_=>aB
end DL
namespace L2
open PySem PySem.Spec PyProof.Rows
def Zwl(K:ad)(a:aj):It:=
 ⟨λi H=>∃xs x,W5 K H a xs/\xs[i]? =aA x,λi H x H'=>∃p v,x= .ref p/\H p=aB/\H'=Z9 H p (.tup [.int ((i+1:Nat):Int),v])/\∀xs,W5 K H a xs->xs[i]? =aA v,λi H=>∃xs,W5 K H a xs/\xs.length<=i⟩
def Zwm(K:ad)(ta:TA):TI:=λσ H R=>ta σ H λvs H1=>∃a xs,vs=[.ref a]/\W5 K H1 a xs/\R (Zwl K a) H1
end L2
namespace DL
open PySem PySem.Spec PyProof.Rows L2
noncomputable def Znj(xs:List D):List D:=(xs.zipIdx 1).map λp=>.tup [.int (p.2:Nat),p.1]
@[simp]def Zwn(fd:FD):FD:=λδ=>(fd δ).bind λp=>match p.1 with
 | [.lst xs]=>aA (Znj xs,p.2)
 |_=>aB
end DL
namespace DL
open PySem PySem.Spec PyProof.Rows L2
@[simp]noncomputable def Zyq:List D->Option SV
 | [.lst xs]=>aA (.fz (.int (xs.length:Nat)))
 | [.tup xs]=>aA (.fz (.int (xs.length:Nat)))
 | [.str x]=>if x.length<=bd then aA (.fz (.int (x.length:Nat)))else aB
 | [.dK ks _]=>aA (.fz (.int (ks.length:Nat)))
 |_=>aB
end DL
namespace DL
open PySem PySem.Spec PyProof.Rows L2
variable{K:ad}
section
variable{Z:Ent K}{H:Hp}{σ:L2.St}{Q:VK}
abbrev UR:=D×List Key×List D
abbrev UG:=aj->List D->List Key->List D->Option UR
def spU(K:ad)(n:Nat)(g:UG):Sp:=λvs H Q _=>∃F a us ds kvs ep es r,vs=us++[V.ref a]/\Zi F H/\Reps K F ds us/\ds.length=n/\Reps K F es (kvs.map (·.2))/\F a=aB/\H a=aA (.dK kvs ep)/\g a ds (kvs.map (·.1)) es=aA r/\
 ∀v H' F' kvs' ep',Zi (I9 H [(a,.dK kvs ep)]) H'->Zi F F'->Zi F' H'->(∀(b:aj) (o:HO),F' b=aA o->F b=aA o\/I9 H [(a,.dK kvs ep)] b=aB)->Rep K F' r.1 v->kvs'.map (·.1)=r.2.1->Reps K F' r.2.2 (kvs'.map (·.2))->F' a=aB->H' a=aA (.dK kvs' ep')->Q v H'
@[simp]def Zrq:List FS->Yk->Option Yk
 | [],δ=>aA δ
 |f::r,δ=>match f δ with
  |some (.nx δ1)=>Zrq r δ1
  |_=>aB
def Zrr(Z:Ent K):List FS->TS->TS
 | [],t=>t
 |f::r,t=>Zl0 (Z5 Z f) (Zrr Z r t)
@[simp]def Znk(n:Nat)(a:aj)(ds:List D)(ks:List Key)(es:List D):Yk:=ds.map (λd=>some (.fz d))++some (.oQ a ks es)::dn (n- ds.length- 1) none
@[simp]def Zrs(a:aj)(d:D):Option (Option SV)->Option UR
 |some (aA (.oQ b ks es))=>if b=a then aA (d,ks,es)else aB
 |_=>aB
@[simp]def Z06(fs:List FS)(fe:FE)(n:Nat):UG:=λa ds ks es=>(Zrq fs (Znk n a ds ks es)).bind λδ=>(fe δ).bind λp=>(frz p.1 p.2).bind λq=>Zrs a q.1 (q.2[ds.length]?)
def Zyr(Z:Ent K)(f:FE):TE:=λσ H Q=>∃F δ own rv δ',SR Z F H σ δ own/\f δ=aA (rv,δ')/\
 ∀v H' F' own',Zi F F'->SR Z F' H' σ δ' own'->RVS K F' σ rv v->Q v H'
def Zwo(Z:Ent K)(i:Nat)(fd:FD):TA:=λσ H R=>Qu Z fd σ H λvs H1=>∃x,σ[i]? =aA (aA x)/\R (vs++[x]) H1
open Classical in
def Zwp(i n:Nat)(g:UG)(fd:FD):FE:=λδ=>(fd δ).bind λp=>if p.1.length=n then match p.2[i]? with
 |some (aA (.oK ks es))=>if h:∃r,∀a,g a p.1 ks es=aA r then aA (.tmp (.fz h.choose.1),p.2.set i (aA (.oK h.choose.2.1 h.choose.2.2)))else aB
 |_=>aB else aB
@[simp]def Zys(g:D->D->Option SV)(fa fb:FE):FE:=λδ=>(fa δ).bind λp=>(frz p.1 p.2).bind λq=>(fb q.2).bind λr=>(Iw r.1 r.2).bind λd2=>(g q.1 d2).bind λsv=>if sv.scal then some (.tmp sv,r.2)else none
@[simp]def Zyt(i:Nat)(fe:FE):FS:=λδ=>match δ[i]? with
 |some (aA (.ol _))=>(fe δ).bind λp=>(frz p.1 p.2).bind λq=>match q.2[i]? with
  |some (aA (.ol xs))=>if xs.length<bd then aA (.nx (q.2.set i (aA (.ol (xs++[q.1])))))else aB
  |_=>aB
 |_=>aB
end
end DL
namespace DL
open PySem PySem.Spec PyProof.Rows L2
variable{K:ad}
def SkD(ks:List Key)(m:Nat)(d:D):Prop:=∃vs,d= .dK ks vs/\ks.length=vs.length/\∀v∈vs,∃(x:Str) (ks2:List Key) (ys:List Str),v= .tup [.str x,.dK ks2 (ys.map D.str)]/\ys.length<=m
def Z07(W:aj->Prop)(H:Hp)(ks:List Key)(m:Nat)(v:V):Prop:=∃a kvs ep,v= .ref a/\W a/\H a=aA (.dK kvs ep)/\kvs.map (·.1)=ks/\∀p∈kvs,∃t x b kvs2 ep2,p.2= .ref t/\W t/\H t=aA (.tup [.str x,.ref b])/\W b/\H b=aA (.dK kvs2 ep2)/\kvs2.length<=m/\∀q∈kvs2,∃y,q.2= .str y
def Zyv(Z:Ent K)(F:Hp)(own:Nat->Zo)(W:aj->Prop):Prop:=∀b,W b->F b=aB/\Z.h b=aB/\∀i p,p∈own i->p.1≠b
section
variable{Z:Ent K}{F H:Hp}{W:aj->Prop}
open Classical in
def wH(W:aj->Prop)(H F:Hp):Hp:=λb=>if W b then H b else F b
def Z08(Z:Ent K)(W:aj->Prop)(H F:Hp):Ent K:=⟨wH W H Z.h,F,Z.x⟩
end
def Zrt(i j n:Nat)(ds:List D)(δ1:Yk)(sv:SV)(T1 T2:FT)(is:List D)(δ3:Yk):Prop:=
 ds.length=n/\(∀d∈ds,SV.scal (.fz d)=aC)/\i≠j/\i<δ1.length/\j<δ1.length/\∃(ks:List Key) (m:Nat) (ks':List Key),SkD ks m sv.toD/\(∃δ2,T1 (δ1.set i (aA (.fz sv.toD)))=aA (aD,δ2))/\is=ks'.map Rw/\(∀k∈ks',k∈ks)/\m+ks'.length<bd/\
  ∀k∈ks',∀m' d,SkD ks m' d->∃δ4,T2 ((δ3.set i (aA (.fz d))).set j (aA (.fz (Rw k))))=aA (aD,δ4)
open Classical in
def Zyw(i j n:Nat)(g:List D->Option SV)(fd:FD)(T1:FT)(fi:FE)(T2:FT):FS:=λδ=>(fd δ).bind λp=>(g p.1).bind λsv=>(Xv fi (p.2.set i aB)).bind λq=>
 if Zrt i j n p.1 p.2 sv T1 T2 q.1 q.2 then aA (.nx ((q.2.set i aB).set j aB))else aB
abbrev Z09(i j:Nat)(K:ad):TE:=tOp (rIx K) (Zkd (Bg i) (Bg j)) (tC (.int 1))
def Z1a(K:ad)(fi:FE):TI:=λσ H R=>∃Z':Ent K,Qm Z' (Xv fi) σ H R
end DL
namespace SX
open PySem
def G4(l:List Nat):Prop:=l.Pairwise (· < ·)
def At(xs:Array Nat)(j p:Nat):Prop:=p<=xs.size/\(∀i y,i<p->xs[i]? =aA y->y<j)/\∀i y,p<=i->xs[i]? =aA y->j<=y
theorem Bq{xs:Array Nat}(h:G4 xs.toList){i:Nat}(hi:xs[i]? =aA y)(hk:xs[k]? =aA z)(hik:i<k):y<z:=by rw[<-c9]at hi hk;obtain⟨a,ha⟩:=a8.mp hi;obtain⟨b,hb⟩:=a8.mp hk;have:=List.pairwise_iff_getElem.mp h i k a b hik;rw[ha,hb]at this;exact this
theorem Ze9(h:G4 xs.toList):∀fuel lo hi,hi<=lo+fuel->lo<=hi->hi<=xs.size->(∀i y,i<lo->xs[i]? =aA y->y<j)->(∀i y,hi<=i->xs[i]? =aA y->j<=y)->At xs j (SetTable.below.go xs j fuel lo hi)
 |0,lo,hi,h1,h2,h3,a,b=>by
  have:lo=hi:=by omega
  subst this;unfold SetTable.below.go;exact⟨h3,a,b⟩
 |fuel+1,lo,hi,h1,h2,h3,a,b=>by
  unfold SetTable.below.go;by_cases hl:lo<hi
  .rw[if_pos hl];dsimp only;have hm:(lo+hi) / 2<xs.size:=by omega
   have hg:xs.getD ((lo+hi) / 2) j=xs[(lo+hi) / 2]:=by simp[Array.getD,hm]
   have he:xs[(lo+hi) / 2]? =aA xs[(lo+hi) / 2]:=by simp[hm]
   by_cases hc:xs.getD ((lo+hi) / 2) j<j
   .rw[if_pos hc];refine Ze9 h fuel _ hi (by omega) (by omega) h3 (λi y hi' e=>?_) b;by_cases hq:i=(lo+hi) / 2
    .subst hq;rw[he]at e;cases e;rw[<-hg];exact hc
    .have:=Bq h e he (by omega);rw[hg]at hc;omega
   .rw[if_neg hc];refine Ze9 h fuel lo _ (by omega) (by omega) (by omega) a (λi y hi' e=>?_);by_cases hq:i=(lo+hi) / 2
    .subst hq;rw[he]at e;cases e;rw[<-hg];omega
    .have:=Bq h he e (by omega);rw[hg]at hc;omega
  .rw[if_neg hl];have:lo=hi:=by omega
   subst this;exact⟨h3,a,b⟩
theorem A8(h:G4 xs.toList)(j):At xs j (SetTable.below xs j):=
 Ze9 h xs.size 0 xs.size (by omega) (f7 _) (ba _) (λi _ z=>absurd z (by omega)) λi y z e=>by have:=(gk.mp e).1;omega
theorem Dz(a:At xs j p)(b:At xs j q):p=q:=by
 rcases Nat.lt_trichotomy p q with h|h|h
 .have hp:p<xs.size:=by have:=b.1;omega
  have e:xs[p]? =aA xs[p]:=by simp[hp]
  have:=a.2.2 p _ (ba _) e;have:=b.2.1 p _ h e;omega
 .exact h
 .have hq:q<xs.size:=by have:=a.1;omega
  have e:xs[q]? =aA xs[q]:=by simp[hq]
  have:=b.2.2 q _ (ba _) e;have:=a.2.1 q _ h e;omega
theorem Zfa(h:G4 xs.toList)(hn:xs[SetTable.below xs j]?≠aA j):G4 (SetTable.insertAt xs (SetTable.below xs j) j).toList:=by
 have a:=A8 h j;generalize SetTable.below xs j=p at*;rw[SetTable.toList_insertAt];obtain⟨a1,a2,a3⟩:=a;have lo:∀y∈xs.toList.take p,y<j:=λy hy=>by
  obtain⟨i,hi,e⟩:=eh hy;rw[List.getElem_take]at e;have hi':i<p:=by simp at hi;omega
  refine a2 i y hi' ?_;rw[<-c9,a8];exact⟨_,e⟩
 have hi:∀y∈xs.toList.drop p,j<y:=λy hy=>by
  obtain⟨i,hi,e⟩:=eh hy;rw[List.getElem_drop]at e;have ep:xs[p+i]? =aA y:=by rw[<-c9,a8];exact⟨_,e⟩
  have h1:=a3 (p+i) y (by omega) ep;rcases Nat.lt_or_eq_of_le h1 with z|z
  .exact z
  .subst z;cases i with
   |zero=>exact absurd ep hn
   |succ i=>
    have hp:p<xs.size:=by have:=(gk.mp ep).1;omega
    have e0:xs[p]? =aA xs[p]:=by simp[hp]
    have q1:=a3 p _ (ba _) e0;have q2:=Bq h e0 ep (by omega);omega
 refine List.pairwise_append.mpr ⟨h.sublist (List.take_sublist _ _),List.pairwise_cons.mpr ⟨hi,h.sublist (List.drop_sublist _ _)⟩,λa ha b hb=>?_⟩;rcases bx.mp hb with z|z
 .rw[z];exact lo a ha
 .exact Nat.lt_trans (lo a ha) (hi b z)
structure Tab(B:Bool)(t:g7):Prop where
 led:t.led= !B
 dum:t.dummies= #[]
 rise:t.plain=aC->G4 t.place.toList
theorem D0(j):SetTable.has #[] j=aD:=by unfold SetTable.has;simp
end SX
namespace SX
open PySem PyProof.Rows
noncomputable abbrev Zwq(l:List (Int×ah)):List Int:=l.map λe=>numOf e.2
def Own(prog:b6)(w:c7)(B:Bool)(o:Obj)(ks:List Int):Prop:=∃es ep t,o.ExactSet/\o.data= .set es ep t/\ElemsOf (intKind prog w) es.toList/\(Zwq es.toList).Perm ks/\t.fits es.size=aC/\Tab B t/\es.size<scanBound
end SX
namespace SX
open PySem PySem.Spec PyProof.Rows
noncomputable def dd(val:Nat->Int):Nat->List Int
 |0=>[]
 |i+1=>if val i∈dd val i then dd val i else dd val i++[val i]
noncomputable abbrev By(w:c7):Bool:=w.params.followText "set-order"
abbrev Mu(w:c7):Obj:={cls:=.type "set",dict:=aB,data:=.set #[] 0 (.fresh 0 0 (!By w))}
theorem Zix(a)(h:Q (.ref s.heap.objs.size) {s with heap:=s.heap.push (Mu w)}):
  codeAny (b4 prog w) A (.call (.builtin "set.__new__") ⟨[.type "set",a],[]⟩) (wants Q E) s:=by
 refine codeAny_of_tree ?_;show bg _ A.in1 (checkBuiltinCall "set.__new__" ⟨[.type "set",a],[]⟩>>=λ_=>again (.builtin "set.__new__" ⟨[.type "set",a],[]⟩)) _ _ s;refine ac (wpAny_of_eq (PySem.F.newCall_set_1 a) (ag ⟨plainId_quiet PySem.F.plain_set_new _,codeAny_builtin PySem.F.entry_set_new ?_⟩));rw[ie PySem.F.plain_set_new _];have hs:=sub_set_self;obtain⟨hp,g,d,tk,os⟩:=s;unfold Builtin.«set.__new__» Builtin.Frozenset.newClass;dsimp only;wp_walk;refine wpAny_askSetting (ag ?_);dsimp only;simp only[newObj];exact ac (wpAny_alloc (ag (ag h)))
end SX
namespace SX
open PySem PySem.Spec PyProof.Rows
theorem Wt:Slot "set_iterator" "__next__" "set_iterator.__next__":=
 .of (owner:="set_iterator") (n:="__next__") (by rw[typeLookup_type,builtinLookup_eq_fast];kernel_rfl) (by decide+kernel) (by decide+kernel) (by decide+kernel) (by first|exact .inl (by decide+kernel)|exact .inr (by decide+kernel)) (by rw[isSubtype_type];kernel_rfl)
theorem Br:entryFor table "set_iterator.__next__"=aA Builtin.«set_iterator.__next__»:=entryFor_of_tree (by kernel_rfl)
theorem Ga(a):argsOk "set_iterator.__next__" ⟨[a],[]⟩:=by unfold argsOk;kernel_rfl
theorem Xx:entryFor table "set.__iter__"=aA Builtin.«frozenset.__iter__»:=entryFor_alias (id':="frozenset.__iter__") (by kernel_rfl) rfl (by decide+kernel) (by kernel_rfl)
theorem Zfb(hn:n≠0)(h:∀i d,i<n->Q i {s with drawn:=d}):bg (b4 prog w) A (choose src n) Q E s:=
 λ_ _ _=>⟨hn,h _ _ (Nat.mod_lt _ (Nat.pos_of_ne_zero hn))⟩
theorem Mv{α:Type}:∀(l:List α) i h,(l[i]::l.eraseIdx i).Perm l
 |x::l,0,_=>List.Perm.refl _
 |x::l,i+1,h=>(List.Perm.swap x _ _).trans ((Mv l i (by simpa using h)).cons x)
theorem Zfc:∀n xs s {Q:List α->am->Prop},n=xs.length->(∀ys d,ys.Perm xs->Q ys {s with drawn:=d})->bg (b4 prog w) A (drawOrder n xs) Q E s
 |0,[],s,Q,_,h=>by unfold drawOrder;exact ag (h [] s.drawn (List.Perm.refl _))
 |n+1,x::xs,s,Q,hn,h=>by
  unfold drawOrder;refine ac (Zfb (by simp) λi d hi=>?_);have e:(x::xs)[i]? =aA (x::xs)[i]:=av hi;rw[e];dsimp only;have hl:n=((x::xs).eraseIdx i).length:=by rw[List.length_eraseIdx_of_lt hi];simpa using hn
  refine ac (Zfc n ((x::xs).eraseIdx i) _ hl λys d' hp=>ag (h _ d' ?_));exact(hp.cons _).trans (Mv _ i hi)
 |0,_::_,_,_,hn,_=>by simp at hn
 |_+1,[],_,_,hn,_=>by simp at hn
noncomputable abbrev Vu(first:ah)(i:Nat)(r:aj)(n ep:Nat):Obj:={cls:=.type "set_iterator",dict:=aB,data:=.fields #[first,.int (i:Int) 0,.ref r,.int (n:Int) 0,.int (ep:Int) 0],slots:= #[]}
noncomputable abbrev Mw(ps:List Nat):Obj:={cls:=.type "tuple",data:=.seq (ps.map λi:Nat=>rawInt i).toArray}
theorem Ziy(ho:s.heap.get? r=aA o)(hx:o.ExactSet)(hd:o.data= .set es ep t)(hf:t.fits es.size=aC)(hb:es.size<scanBound)(hN:(!By w&&(!t.plain&&decide (es.size > 1)))=aD->Q (.ref s.heap.objs.size) {s with heap:=s.heap.push (Vu (.int 0 0) 0 r es.size ep)})(hD:(!By w&&(!t.plain&&decide (es.size > 1)))=aC->∀ps d,ps.Perm (cq es.size)->Q (.ref (s.heap.objs.size+1)) {s with heap:=(s.heap.push (Mw ps)).push (Vu (.ref s.heap.objs.size) 0 r es.size ep),drawn:=d}):
  bg (b4 prog w) A (pyIter (.ref r)) Q E s:=by
 have hT:s.TypeIs (.ref r) "set":=⟨o,ho,hx.1⟩
 refine wpAny_pyIter_slot hT PySem.F.slot_set_iter (dr PySem.F.slot_set_iter hT Xx ?_ (PySem.F.args_set_iter_1 _));unfold Builtin.«frozenset.__iter__»;refine ac (m:=Builtin.Frozenset.slot0 "__iter__" ⟨[.ref r],[]⟩) (Q:=_) (ag ?_);refine ac (m:=Builtin.Frozenset.sizeOf r) ?_;unfold Builtin.Frozenset.sizeOf;refine ac (wpAny_setEntries_of ho hd hf (ag ?_));refine ac ?_;unfold setDrawn;refine ac (wpAny_setState_of ho hd hf ?_);unfold setsByText;refine ac (ac (wpAny_askSetting (ag ?_)));refine ag ?_;show bg _ _ (if(!By w&&(!t.plain&&decide (es.size > 1)))=aC then _ else _) _ _ _;cases hc:(!By w&&(!t.plain&&decide (es.size > 1)))with
 |false=>rw[if_neg (by simp)];refine ac (ag ?_);refine ac (wpAny_setEpoch_of ho hd hf ?_);refine ac (m:=newFields _ _) (ff (ag ⟨_,rfl,"set_iterator",_,⟨_,bp _ rfl,rfl⟩,Wt.lookup,hN hc⟩))
 |true=>rw[if_pos rfl];have hl:(cq es.size).length=es.size:=List.length_range;refine ac ?_;refine Zfc _ (cq es.size) _ hl.symm λps d hp=>?_;have pl:ps.length=es.size:=hp.length_eq.trans hl;refine ac (wpAny_newTuple ?_ (by rw[aq,pl];exact fits_of_scanBound hb));have ho2:(s.heap.push (Mw ps)).get? r=aA o:=au _ ho;refine ac (wpAny_setEpoch_of (s:={s with heap:=s.heap.push (Mw ps),drawn:=d}) ho2 hd hf ?_);have sz:(s.heap.push (Mw ps)).objs.size=s.heap.objs.size+1:=Heap.size_push _ _;refine ac (m:=newFields _ _) (ff (ag ⟨_,rfl,"set_iterator",_,⟨_,bp _ rfl,rfl⟩,Wt.lookup,?_⟩));have z:=hD hc ps d hp;rw[<-sz]at z;exact z
end SX
namespace SX
open PySem PySem.Spec PyProof.Rows
section
variable{prog:b6}{w:c7}{A:dh}{E:ah->am->Prop}{s:am}{I r:aj}{o:Obj}{es:Array (Int×ah)}{ep:Nat}{t:g7}{slot i nx:Nat}{x:ah}{Q:Option ah->am->Prop}
abbrev Nj(prog:b6)(w:c7)(A:dh)(s:am)(r:aj)(slot i ep:Nat)(y:Option (ah×Nat)):Prop:=∀(R:Option (ah×Nat)->am->Prop) (E':ah->am->Prop),R y s->bg (b4 prog w) A (setNext r slot i ep) R E' s
theorem Zk6(hI:s.heap.get? I=aA (Vu (.int (slot:Int) 0) i r es.size ep))(ho:s.heap.get? r=aA o)(hd:o.data= .set es ep t)(hf:t.fits es.size=aC)(hn:Nj prog w A.in1 s r slot i ep (aA (x,nx)))(hQ:∀h',h'.get? I=aA (Vu (.int (nx:Int) 0) (i+1) r es.size ep)->io I s.heap h'->Q (aA x) {s with heap:=h'}):bg (b4 prog w) A (pyNext (.ref I)) Q E s:=by
 have hT:s.TypeIs (.ref I) "set_iterator":=⟨_,hI,rfl⟩
 unfold pyNext;refine ac (wpAny_attempt (gd (name:=Str.ofString "__next__") hT Wt (dr Wt hT Br ?_ (Ga _))));unfold Builtin.«set_iterator.__next__»;refine ac (m:=slotArgs "__next__" 0 ⟨[.ref I],[]⟩) (ag ?_);refine ac (wpAny_fieldsOf hI rfl ?_);dsimp only;refine ac (wpAny_setEntries_of ho hd hf ?_);rw[if_neg (by simp)];simp only[g8];refine ac (hn _ _ ?_);dsimp only;refine ac (wpAny_setField_rec hI (by simp) λh1 g1 b1=>?_);refine ac (wpAny_setField_rec (s:={s with heap:=h1}) g1 (by simp) λh2 g2 b2=>?_);refine ag ⟨_,rfl,ag (hQ h2 ?_ (b1.trans b2))⟩;rw[g2];rfl
theorem Zk7(hh:A.handled=aB)(hI:s.heap.get? I=aA (Vu (.int (slot:Int) 0) i r es.size ep))(ho:s.heap.get? r=aA o)(hd:o.data= .set es ep t)(hf:t.fits es.size=aC)(hn:Nj prog w A.in1 s r slot i ep aB)(hQ:∀h',Heap.ExtBut I s.heap h'->Q aB {s with heap:=h'}):bg (b4 prog w) A (pyNext (.ref I)) Q E s:=by
 have hT:s.TypeIs (.ref I) "set_iterator":=⟨_,hI,rfl⟩
 unfold pyNext;refine ac (wpAny_attempt (gd (name:=Str.ofString "__next__") hT Wt (dr Wt hT Br ?_ (Ga _))));unfold Builtin.«set_iterator.__next__»;refine ac (m:=slotArgs "__next__" 0 ⟨[.ref I],[]⟩) (ag ?_);refine ac (wpAny_fieldsOf hI rfl ?_);dsimp only;refine ac (wpAny_setEntries_of ho hd hf ?_);rw[if_neg (by simp)];simp only[g8];refine ac (hn _ _ ?_);dsimp only;refine ac (wpAny_setField_rec hI (by simp) λh1 g1 b1=>?_);refine ac (m:=newExc (.type "StopIteration") []) ?_;simp only[newExc,newTuple];refine ac (ff ?_ (by size_fits));refine ac (m:=firstArgMember _ _) (wpAny_of_eq (a:=ck) (by first|rfl| (simp only[firstArgMember];rfl)) ?_);refine ff ?_ (by size_fits);simp only[raiseNew];refine ac (wpAny_handled ?_);rw[show A.in1.handled=aB from hh];refine ac (ag (wpAny_throw ?_));refine ac (wpAny_isInstance (T:="StopIteration") (b:=aC) ⟨_,bp _ rfl,rfl⟩ isSubtype_stop ?_);exact ag (hQ _ ((b1.extBut.push _).push _))
theorem Kf(hB:By w=aD)(ho:s.heap.get? r=aA o)(hd:o.data= .set es ep t)(hf:t.fits es.size=aC)(hl:t.led=aC)(hr:(!t.plain&&decide (es.size > 1))=aD):
  Nj prog w A s r slot i ep (match es[SetTable.below t.place slot]?,t.place[SetTable.below t.place slot]? with
   |some (_,x),aA j=>aA (x,j+1)
   |_,_=>aB):=by
 intro R E' h;unfold setNext;refine ac (wpAny_setState_of ho hd hf ?_);dsimp only;unfold setsByText;refine ac (ac (wpAny_askSetting (ag ?_)));have e1:(b4 prog w).w.params.followText "set-order"=aD:=hB;dsimp only;rw[if_neg (by rw[e1];simp)];show bg _ _ (if(!t.plain&&decide (es.size > 1))=aC then _ else _) _ _ _;rw[if_neg (by rw[hr];simp)];refine ac ?_;show bg _ _ (if(!t.led&& !es.isEmpty)=aC then _ else _) _ _ _;rw[if_neg (by rw[hl];simp)];exact ag (ag h)
theorem Ss(hB:By w=aC)(ho:s.heap.get? r=aA o)(hd:o.data= .set es ep t)(hf:t.fits es.size=aC):
  Nj prog w A s r slot i ep (((pickOrder (w.params.setOrder r ep) es)[i]?).map λe=>(e.2,slot)):=by
 intro R E' h;unfold setNext;refine ac (wpAny_setState_of ho hd hf ?_);dsimp only;unfold setsByText;refine ac (ac (wpAny_askSetting (ag ?_)));have e1:(b4 prog w).w.params.followText "set-order"=aC:=hB;dsimp only;rw[if_pos (by rw[e1])];rw[if_neg (by simp)];refine ac ?_;unfold setWalk;refine ac (wpAny_setState_of ho hd hf ?_);dsimp only;unfold setsByText;refine ac (ac (wpAny_askSetting (ag ?_)));dsimp only;rw[if_pos (by rw[e1])];refine ac (wpAny_askSetting (ag ?_));exact ag h
theorem Zrv(hI:s.heap.get? I=aA (Vu (.ref T) i r es.size ep))(hT0:s.heap.get? T=aA (Mw ps))(hp:ps[i]? =aA p)(he:es[p]? =aA (hx,x))(ho:s.heap.get? r=aA o)(hd:o.data= .set es ep t)(hf:t.fits es.size=aC)(hQ:∀h',h'.get? I=aA (Vu (.ref T) (i+1) r es.size ep)->io I s.heap h'->Q (aA x) {s with heap:=h'}):bg (b4 prog w) A (pyNext (.ref I)) Q E s:=by
 have hT:s.TypeIs (.ref I) "set_iterator":=⟨_,hI,rfl⟩
 unfold pyNext;refine ac (wpAny_attempt (gd (name:=Str.ofString "__next__") hT Wt (dr Wt hT Br ?_ (Ga _))));unfold Builtin.«set_iterator.__next__»;refine ac (m:=slotArgs "__next__" 0 ⟨[.ref I],[]⟩) (ag ?_);refine ac (wpAny_fieldsOf hI rfl ?_);dsimp only;refine ac (wpAny_setEntries_of ho hd hf ?_);rw[if_neg (by simp)];refine ac (m:=seqItems? (.ref T)) ?_;unfold seqItems?;refine ac (wpAny_load hT0 (ag ?_));dsimp only;have e1:(ps.map λi:Nat=>rawInt i).toArray[((i:Nat):Int).toNat]? =aA (.int (p:Int) 0):=by simp[hp,rawInt]
 rw[e1];dsimp only;refine ac ?_;unfold setNextDrawn;refine ac (wpAny_setState_of ho hd hf ?_);dsimp only;rw[if_neg (by simp)];have e2:es[((p:Nat):Int).toNat]? =aA (hx,x):=by simpa using he
 rw[e2];refine ag ?_;refine ac (wpAny_setField_rec hI (by simp) λh1 g1 b1=>?_);refine ag ⟨_,rfl,ag (hQ h1 ?_ b1)⟩;rw[g1];rfl
theorem Zrw(hh:A.handled=aB)(hI:s.heap.get? I=aA (Vu (.ref T) i r es.size ep))(hT0:s.heap.get? T=aA (Mw ps))(hp:ps[i]? =aB)(ho:s.heap.get? r=aA o)(hd:o.data= .set es ep t)(hf:t.fits es.size=aC)(hQ:∀h',Heap.ExtBut I s.heap h'->Q aB {s with heap:=h'}):bg (b4 prog w) A (pyNext (.ref I)) Q E s:=by
 have hT:s.TypeIs (.ref I) "set_iterator":=⟨_,hI,rfl⟩
 unfold pyNext;refine ac (wpAny_attempt (gd (name:=Str.ofString "__next__") hT Wt (dr Wt hT Br ?_ (Ga _))));unfold Builtin.«set_iterator.__next__»;refine ac (m:=slotArgs "__next__" 0 ⟨[.ref I],[]⟩) (ag ?_);refine ac (wpAny_fieldsOf hI rfl ?_);dsimp only;refine ac (wpAny_setEntries_of ho hd hf ?_);rw[if_neg (by simp)];refine ac (m:=seqItems? (.ref T)) ?_;unfold seqItems?;refine ac (wpAny_load hT0 (ag ?_));dsimp only;have e1:(ps.map λi:Nat=>rawInt i).toArray[((i:Nat):Int).toNat]? =aB:=by simp only[g8,List.getElem?_toArray,az,hp,Option.map_none]
 rw[e1];dsimp only;refine ac (wpAny_setField_rec hI (by simp) λh1 g1 b1=>?_);refine ac (wpAny_setField_rec (s:={s with heap:=h1}) g1 (by simp) λh2 g2 b2=>?_);refine ac (m:=newExc (.type "StopIteration") []) ?_;simp only[newExc,newTuple];refine ac (ff ?_ (by size_fits));refine ac (m:=firstArgMember _ _) (wpAny_of_eq (a:=ck) (by first|rfl| (simp only[firstArgMember];rfl)) ?_);refine ff ?_ (by size_fits);simp only[raiseNew];refine ac (wpAny_handled ?_);rw[show A.in1.handled=aB from hh];refine ac (ag (wpAny_throw ?_));refine ac (wpAny_isInstance (T:="StopIteration") (b:=aC) ⟨_,bp _ rfl,rfl⟩ isSubtype_stop ?_);exact ag (hQ _ (((b1.trans b2).extBut.push _).push _))
end
end SX
namespace SX
open PySem PySem.Spec PyProof.Rows
noncomputable abbrev Fa(acc:Array ah)(c:Nat):Obj:={cls:=.type "list",dict:=aB,data:=.seq acc c,slots:= #[]}
structure Tells(prog:b6)(w:c7)(A:dh)(I:aj)(fp:List aj)(ord:List ah)(St:Nat->d6->Prop):Prop where
 mem:I∈fp
 keep:∀i h h',St i h->(∀b∈fp,∀o,h.get? b=aA o->h'.get? b=aA o)->St i h'
 step:∀i (s:am) x (Q:Option ah->am->Prop) (E:ah->am->Prop),St i s.heap->ord[i]? =aA x->(∀h',St (i+1) h'->io I s.heap h'->Q (aA x) {s with heap:=h'})->bg (b4 prog w) A (pyNext (.ref I)) Q E s
 stop:∀(s:am) (Q:Option ah->am->Prop) (E:ah->am->Prop),St ord.length s.heap->(∀h',Heap.ExtBut I s.heap h'->Q aB {s with heap:=h'})->bg (b4 prog w) A (pyNext (.ref I)) Q E s
section
variable{prog:b6}{w:c7}{A:dh}{R:Result->am->Prop}{I S:aj}{fp:List aj}{ord:List ah}{St:Nat->d6->Prop}
theorem D1(T:Tells prog w A.in1 I fp ord St)(hS:S∉fp)(hz:ord.length<=10000)(res):∀m i s c,i+m=ord.length->St i s.heap->s.heap.get? S=aA (Fa (ord.take i).toArray c)->
  (∀h' c',(∀b x,b≠S->b≠I->s.heap.get? b=aA x->h'.get? b=aA x)->h'.get? S=aA (Fa ord.toArray c')->R (.ok (.ret res)) {s with heap:=h'})->codeAny (b4 prog w) A (.builtin "list.extend.loop" ⟨[.ref S,.ref I,res],[]⟩) R s:=by
 have hSI:S≠I:=λz=>hS (z▸T.mem);intro m;induction m with
 |zero=>intro i s c hi st hl hR;obtain rfl:i=ord.length:=hi;rw[List.take_length]at hl;refine codeAny_builtin PySem.F.entry_extend_loop ?_;rw[ie PySem.F.plain_extend_loop _];show bg _ A.in1 (pyNext (.ref I) >>=_) _ _ s;refine ac (T.stop s _ _ st λh' ex=>?_);exact ag (hR h' c (λb x _ hb e=>ex b x hb e) (ex S _ hSI hl))
 |succ m ih=>
  intro i s c hi st hl hR;have hlt:i<ord.length:=by omega
  refine codeAny_builtin PySem.F.entry_extend_loop ?_;rw[ie PySem.F.plain_extend_loop _];show bg _ A.in1 (pyNext (.ref I) >>=_) _ _ s;refine ac (T.step i s ord[i] _ _ st (by simp[hlt]) λh1 st1 b1=>?_);have l1:h1.get? S=aA (Fa (ord.take i).toArray c):=(b1.2 S hSI).trans hl;have tk:(ord.take i).toArray.push ord[i]=(ord.take (i+1)).toArray:=by rw[List.take_add_one,av hlt];simp
  show bg _ A.in1 (updateSeq S (·.push ord[i]) >>=_) _ _ _;refine ac (wpAny_updateSeq l1 rfl (ag ⟨plainId_quiet PySem.F.plain_extend_loop _,?_⟩) (by rw[bq,gv,fu];omega) (by show((ord.take i).toArray.push ord[i]).size<=_;rw[tk,bq,gv,fu];omega));have g2:=g6 (di (·.push ord[i])) l1 rfl;have hm:∃c',di (·.push ord[i]) (Fa (ord.take i).toArray c)=Fa (ord.take (i+1)).toArray c':=by rw[<-tk];exact⟨_,rfl⟩
  obtain⟨c',hc'⟩:=hm;rw[hc']at g2;refine ih (i+1) _ c' (by omega) (T.keep _ _ _ st1 λb hb x e=>(Heap.get?_update_other _ _ (λz:S=b=>hS (by rw[z];exact hb))).trans e) g2 λh3 c3 k3 g3=>?_;exact hR h3 c3 (λb x hb hbI e=>k3 b x hb hbI ((Heap.get?_update_other _ _ (Ne.symm hb)).trans ((b1.2 b hbI).trans e))) g3
theorem Ziz(hT:s.TypeIs (.ref r) "set")(h:Q aD s):bg (b4 prog w) A (Builtin.List.listLengthHint (.ref r)) Q E s:=by
 unfold Builtin.List.listLengthHint;refine ac (wpAny_specialOf hT PySem.F.slot_set_len.lookup ?_);generalize hid:("set.__len__":String)=id0
 wp_delta
 rw[show splitId id0=aA ("set","__len__")from by subst hid;decide+kernel];subst hid;refine ac (wpAny_isInstance (T:="set") (b:=aC) hT sub_set_self ?_);refine wpAny_ite_split (λz=>absurd z (by decide)) λ_=>?_;refine wpAny_ite_split (λ_=>?_) λz=>absurd (by decide+kernel) z;exact ac (wpAny_typeOf hT (ag h))
theorem D2(f):∀n k l (out:Array α),n=l.length->(pickOrder.go f n k l out).toList.Perm (out.toList++l)
 |0,k,l,out,h=>by have:l=[]:=List.eq_nil_of_length_eq_zero h.symm;subst this;unfold pickOrder.go;simp
 |n+1,k,l,out,h=>by
  unfold pickOrder.go;have hp:0<l.length:=by omega
  have hm:f k % l.length<l.length:=Nat.mod_lt _ hp;rw[av hm];dsimp only;refine(D2 f n (k+1) _ _ (by rw[List.length_eraseIdx_of_lt hm];omega)).trans ?_;rw[Array.toList_push,gn];exact(Mv l _ hm).append_left _
theorem Zfd(f)(xs:Array α):(pickOrder f xs).toList.Perm xs.toList:=by have:=D2 f xs.size 0 xs.toList #[] (ay).symm;simpa[pickOrder]using this
end
end SX
namespace SX
open PySem PySem.Spec PyProof.Rows
noncomputable def sl(t:g7):Nat->Nat
 |0=>0
 |i+1=>t.place.getD i 0+1
theorem Zk8(h:G4 t.place.toList)(hi:i<=t.place.size):SetTable.below t.place (sl t i)=i:=by
 refine Dz (A8 h _) ⟨hi,λk y hk e=>?_,λk y hk e=>?_⟩
 .cases i with
  |zero=>omega
  |succ i=>
   have hp:i<t.place.size:=by omega
   have e2:t.place[i]? =aA t.place[i]:=by simp[hp]
   have eg:sl t (i+1)=t.place[i]+1:=by unfold sl;simp[Array.getD,hp]
   rw[eg];by_cases z:k=i
   .subst z;rw[e2]at e;cases e;omega
   .have:=Bq h e e2 (by omega);omega
 .cases i with
  |zero=>exact f7 _
  |succ i=>
   have hp:i<t.place.size:=by omega
   have e2:t.place[i]? =aA t.place[i]:=by simp[hp]
   have eg:sl t (i+1)=t.place[i]+1:=by unfold sl;simp[Array.getD,hp]
   rw[eg];have:=Bq h e2 e (by omega);omega
theorem T9(h:r≠I)(b:io I h1 h2)(e:h1.get? r=aA x):h2.get? r=aA x:=(b.2 r h).trans e
theorem Xy(hh:A.handled=aB)(hr:r≠I)(hd:o.data= .set es ep t)(hf:t.fits es.size=aC)(hB:By w=aD)(hl:t.led=aC)(hp:(!t.plain&&decide (es.size > 1))=aD)(rise:G4 t.place.toList)(sz:t.place.size=es.size):
  Tells prog w A I [I,r] (es.toList.map (·.2)) (λi h=>h.get? I=aA (Vu (.int (sl t i:Int) 0) i r es.size ep)/\h.get? r=aA o):=by
 refine⟨by simp,λi h h' st k=>⟨k I (by simp) _ st.1,k r (by simp) _ st.2⟩,λi s x Q E st hx hQ=>?_,λs Q E st hQ=>?_⟩
 .rw[az]at hx;obtain⟨e,he,rfl⟩:=cm.mp hx;rw[c9]at he;have hi:i<es.size:=(gk.mp he).1;have hi':i<t.place.size:=by omega
  have e2:t.place[i]? =aA t.place[i]:=by simp[hi']
  have nx:=Kf (prog:=prog) (w:=w) (A:=A.in1) (s:=s) (slot:=sl t i) (i:=i) hB st.2 hd hf hl hp;rw[Zk8 rise (by omega),he,e2]at nx;refine Zk6 st.1 st.2 hd hf nx λh' g b=>hQ h' ⟨?_,T9 hr b st.2⟩ b;have eg:sl t (i+1)=t.place[i]+1:=by unfold sl;simp[Array.getD,hi']
  rw[eg];exact g
 .have hn:(es.toList.map (·.2)).length=es.size:=by rw[aq,ay]
  rw[hn]at st;have nx:=Kf (prog:=prog) (w:=w) (A:=A.in1) (s:=s) (slot:=sl t es.size) (i:=es.size) hB st.2 hd hf hl hp;rw[Zk8 rise (by omega),show es[es.size]? =aB by simp]at nx;exact Zk7 hh st.1 st.2 hd hf nx hQ
theorem Zb3(hh:A.handled=aB)(hr:r≠I)(hd:o.data= .set es ep t)(hf:t.fits es.size=aC)(hB:By w=aC):
  Tells prog w A I [I,r] ((pickOrder (w.params.setOrder r ep) es).toList.map (·.2)) (λi h=>h.get? I=aA (Vu (.int ((0:Nat):Int) 0) i r es.size ep)/\h.get? r=aA o):=by
 refine⟨by simp,λi h h' st k=>⟨k I (by simp) _ st.1,k r (by simp) _ st.2⟩,λi s x Q E st hx hQ=>?_,λs Q E st hQ=>?_⟩
 .rw[az]at hx;obtain⟨e,he,rfl⟩:=cm.mp hx;rw[c9]at he;have nx:=Ss (prog:=prog) (w:=w) (A:=A.in1) (s:=s) (slot:=0) (i:=i) hB st.2 hd hf;rw[he]at nx;exact Zk6 st.1 st.2 hd hf nx λh' g b=>hQ h' ⟨g,T9 hr b st.2⟩ b
 .have nx:=Ss (prog:=prog) (w:=w) (A:=A.in1) (s:=s) (slot:=0) (i:=((pickOrder (w.params.setOrder r ep) es).toList.map (·.2)).length) hB st.2 hd hf;rw[aq,ay,show(pickOrder (w.params.setOrder r ep) es)[(pickOrder (w.params.setOrder r ep) es).size]? =aB by simp]at nx;rw[aq,ay]at st;exact Zk7 hh st.1 st.2 hd hf nx hQ
theorem Xz(hh:A.handled=aB)(hr:r≠I)(hT:T≠I)(hd:o.data= .set es ep t)(hf:t.fits es.size=aC)(hp:∀p∈ps,p<es.size):
  Tells prog w A I [I,r,T] (ps.map λp=>(es.getD p (0,.none)).2) (λi h=>h.get? I=aA (Vu (.ref T) i r es.size ep)/\h.get? r=aA o/\h.get? T=aA (Mw ps)):=by
 refine⟨by simp,λi h h' st k=>⟨k I (by simp) _ st.1,k r (by simp) _ st.2.1,k T (by simp) _ st.2.2⟩,λi s x Q E st hx hQ=>?_,λs Q E st hQ=>?_⟩
 .rw[az]at hx;obtain⟨p,he,rfl⟩:=cm.mp hx;have lt:=hp p (b5 he);have e2:es[p]? =aA ((es.getD p (0,.none)).1,(es.getD p (0,.none)).2):=by simp[Array.getD,lt]
  exact Zrv st.1 st.2.2 he e2 st.2.1 hd hf λh' g b=>hQ h' ⟨g,T9 hr b st.2.1,T9 hT b st.2.2⟩ b
 .rw[aq]at st;exact Zrw hh st.1 st.2.2 (by simp) st.2.1 hd hf hQ
end SX
namespace SX
open PySem PySem.Spec PyProof.Rows
theorem Nk{St}(T:Tells prog w A.in1 I fp ord St)(hS:S∉fp)(hz:ord.length<=10000)(hT:s.TypeIs (.ref r) "set")(st:St 0 s.heap)(hl:s.heap.get? S=aA (Fa #[] c)){f:Bool->Bool}(hR:∀h' c',(∀b x,b≠S->b≠I->s.heap.get? b=aA x->h'.get? b=aA x)->h'.get? S=aA (Fa ord.toArray c')->R (.ok (.ret res)) {s with heap:=h'}):
  bg (b4 prog w) A.in1 (do
   let room<-holding [.ref I] (Builtin.List.listLengthHint (.ref r))
   if f room=aC then do
    rule "list.extend.makes-room"
    Builtin.List.listTouch (.ref S)
    again (.builtin "list.extend.loop" ⟨[.ref S,.ref I,res],[]⟩)
   else again (.builtin "list.extend.loop" ⟨[.ref S,.ref I,res],[]⟩))
   (λfin s'=>match fin with| .done f=>R (.ok f) s'| .again c'=>c'.quiet=aC/\codeAny (b4 prog w) A c' R s') (λe s'=>R (.error e) s') s:=by
 refine ac (gm (Ziz hT ?_));refine wpAny_ite_split (λ_=>?_) (λ_=>ag ⟨plainId_quiet PySem.F.plain_extend_loop _,D1 T hS hz res ord.length 0 s c (by omega) st (by simpa using hl) hR⟩);refine ac (wpAny_rule (ac ?_));show bg _ _ (updateSeq S (·.push .none) >>=λ_=>updateSeq S (·.pop)) _ _ _;refine ac (wpAny_updateSeq hl rfl ?_);have l2:=g6 (di (·.push ck)) hl rfl;refine wpAny_updateSeq (hz:=by seq_fits) l2 rfl ?_;have l3:=g6 (di (·.pop)) l2 rfl;have oth:∀b x,b≠S->s.heap.get? b=aA x->((s.heap.update S (di (·.push ck))).update S (di (·.pop))).get? b=aA x:=
  λb x hb e=>(Heap.get?_update_other _ _ (Ne.symm hb)).trans ((Heap.get?_update_other _ _ (Ne.symm hb)).trans e)
 refine ag ⟨plainId_quiet PySem.F.plain_extend_loop _,D1 T hS hz res ord.length 0 _ _ (by omega) (T.keep _ _ _ st λb hb x e=>oth b x (λz=>hS (z▸hb)) e) l3 λh' c' k g=>?_⟩;exact hR h' c' (λb x hb hI e=>k b x hb hI (oth b x hb e)) g
end SX
namespace SX
open PySem PySem.Spec PyProof.Rows
end SX
namespace SX
open PySem PySem.Spec PyProof.Rows
def srt(ns:List Int):List Int:=(dd (λi=>ns.getD i 0) ns.length).mergeSort λa b=>decide (a<=b)
end SX
namespace L2
open PySem PySem.Spec PyProof.Rows SX
theorem Inv.drawnAt{σ:St}(I:Inv X pins σ H s)(d):Inv X pins σ H {s with drawn:=d}:=
 ⟨I.ok,I.os,I.bare,I.base,I.loc,I.cell,I.free,I.freeC,I.pin,I.hok,I.len⟩
def rSS(K:ad):List V->Hp->VK->Prop:=λxs H Q=>∃l ns,xs=[.ref l]/\W5 K H l (ns.map V.int)/\ns.length<64/\∀q,H q=aB->Q (.ref q) (Z9 H q (.lst ((srt ns).map V.int)))
theorem Te:bootBuiltins "sorted"=aA (.builtin "sorted"):=by kernel_rfl
theorem Su:bootBuiltins "set"=aA (.type "set"):=by kernel_rfl
end L2
namespace DL
open PySem PySem.Spec PyProof.Rows L2 SX
@[simp]noncomputable def ints?:List D->Option (List Int)
 | []=>aA []
 | .int i::r=>(ints? r).bind λl=>aA (i::l)
 |_=>aB
def Z1b:List D->Option SV
 | [.lst xs]=>(ints? xs).bind λns=>if ns.length<64 then aA (.ol ((srt ns).map D.int))else aB
 |_=>aB
end DL
namespace TX
open PySem PySem.W PyProof.Rows
def W6{α:Type}(lt:Nat->Nat->Bool)(n:Nat)(R:α->Prop):KasT α->Prop
 | .ret a=>R a
 | .ask i j k=>i<n/\j<n/\W6 lt n R (k (lt i j))
theorem W6.bind{f:α->KasT β}(h:∀a,R a->W6 lt n S (f a)):∀{t:KasT α},W6 lt n R t->W6 lt n S (t.bind f)
 | .ret a,g=>h a g
 | .ask i j k,g=>⟨g.1,g.2.1,W6.bind h (t:=k (lt i j)) g.2.2⟩
theorem W6.mono{R:α->Prop}(h:∀a,R a->S a):∀{t:KasT α},W6 lt n R t->W6 lt n S t
 | .ret a,g=>h a g
 | .ask i j k,g=>⟨g.1,g.2.1,W6.mono h (t:=k (lt i j)) g.2.2⟩
theorem W6.wp{I:am->Prop}{Q:α->am->Prop}(hc:∀i j C s,i<n->j<n->I s->(∀s',I s'->C (lt i j) s')->cmp i j C s)(hq:∀a s,R a->I s->Q a s):∀{t:KasT α} {s:am},W6 lt n R t->I s->t.kasWp cmp Q s
 | .ret a,s,g,i=>hq a s g i
 | .ask i j k,s,g,x=>hc i j _ s g.1 g.2.1 x λs' x'=>W6.wp hc hq (t:=k (lt i j)) g.2.2 x'
section
variable{O:KeyOrd}{key:Nat->O.α}{n:Nat}
noncomputable abbrev Fb(O:KeyOrd)(key:Nat->O.α)(i j:Nat):Bool:=O.blt (key i) (key j)
noncomputable def Kp(key:Nat->O.α)(p:Array Nat)(i:Nat):O.α:=key (p.getD i 0)
def Nl(key:Nat->O.α)(p:Array Nat)(k:Nat):Prop:=∀i j,i<=j->j<k->O.kle (Kp key p i) (Kp key p j)
def Dec(key:Nat->O.α)(p:Array Nat)(k:Nat):Prop:=∀i j,i<=j->j<k->O.kle (Kp key p j) (Kp key p i)
def Pm(n:Nat)(p:Array Nat):Prop:=p.Perm (ik (cq n))
theorem Pm.size(h:Pm n p):p.size=n:=by have:=(Array.perm_iff_toList_perm.mp h).length_eq;simpa using this
theorem Pm.lt(h:Pm n p){i}(hi:i<n):p.getD i 0<n:=by
 have hs:i<p.size:=by rw[h.size];exact hi
 have hm:p[i]∈(cq n):=(Array.perm_iff_toList_perm.mp h).mem_iff.mp (by simp);rw[Array.getD_eq_getD_getElem?,getElem?_pos p i hs];exact cu.mp hm
theorem Cl(h:p[i]? =q[j]?):Kp key p i=Kp key q j:=by unfold Kp;rw[Array.getD_eq_getD_getElem?,Array.getD_eq_getD_getElem?,h]
theorem A9(hj:j<=p.size)(k):Kp key (kas_rev p i j) k=if i<=k/\k<j then Kp key p (i+j- 1- k)else Kp key p k:=by
 have e:=getElem?_mirror_all (xs:=p) (i:=i) hj k;unfold kas_rev;by_cases h:i<=k/\k<j
 .rw[if_pos h]at e⊢;exact Cl e
 .rw[if_neg h]at e⊢;exact Cl e
theorem Zfe(hs:src<p.size)(hd:d<=src)(k):Kp key (bubble p src d) k=if k=src- d then Kp key p src else if src- d<k/\k<=src then Kp key p (k- 1)else Kp key p k:=by
 have e:=getElem?_bubble hs d hd k;by_cases h1:k=src- d
 .rw[if_pos h1]at e⊢;exact Cl e
 .rw[if_neg h1]at e⊢;by_cases h2:src- d<k/\k<=src
  .rw[if_pos h2]at e⊢;exact Cl e
  .rw[if_neg h2]at e⊢;exact Cl e
theorem Pm.rev(h:Pm n p)(i j):Pm n (kas_rev p i j):=(mirror_perm p i j _).trans h
theorem Pm.bub(h:Pm n p)(i j):Pm n (bubble p i j):=(bubble_perm p i j).trans h
theorem Ea(hp:Pm n p):∀f m,1<=m->m+f<=n->Nl key p m->
  W6 (Fb O key) n (λr=>m<=r/\r<=m+f/\Nl key p r/\(r=m+f\/O.klt (Kp key p r) (Kp key p (r- 1)))) (kas_asc p f m)
 |0,m,_,_,hs=>⟨ba _,ba _,hs,.inl rfl⟩
 |f+1,m,h1,hm,hs=>by
  refine⟨hp.lt (by omega),hp.lt (by omega),?_⟩;show W6 _ _ _ (if O.blt (Kp key p m) (Kp key p (m- 1))=aC then _ else _);by_cases c:O.blt (Kp key p m) (Kp key p (m- 1))=aC
  .rw[if_pos c];exact⟨ba _,by omega,hs,.inr c⟩
  .rw[if_neg c];refine(Ea hp f (m+1) (by omega) (by omega) λi j hij hj=>?_).mono λr ⟨a,b,d,e⟩=>⟨by omega,by omega,d,by rcases e with e|e;exact .inl (by omega);exact .inr e⟩
   by_cases hjm:j<m
   .exact hs i j hij hjm
   .have:j=m:=by omega
    subst this;by_cases hi:i=j
    .subst hi;exact KeyOrd.kle_refl _
    .exact KeyOrd.kle_trans (hs i (j- 1) (by omega) (by omega)) (KeyOrd.kle_of_not_klt c)
theorem Gb:∀f p m q,Pm n p->1<=m->m+f<=n->Dec key p m->q+1<=m->(∀i,m- (q+1)<=i->i<m->Kp key p i=Kp key p (m- 1))->
  W6 (Fb O key) n (λr=>Pm n r.1/\m<=r.2.1/\r.2.1<=m+f/\Dec key r.1 r.2.1/\r.2.2+1<=r.2.1/\∀i,r.2.1- (r.2.2+1)<=i->i<r.2.1->Kp key r.1 i=Kp key r.1 (r.2.1- 1)) (kas_desc f p m q)
 |0,p,m,q,hp,_,_,hs,hq,he=>⟨hp,ba _,ba _,hs,hq,he⟩
 |f+1,p,m,q,hp,h1,hm,hs,hq,he=>by
  have hsz:m<=p.size:=by rw[hp.size];omega
  refine⟨hp.lt (by omega),hp.lt (by omega),?_⟩;show W6 _ _ _ (if O.blt (Kp key p m) (Kp key p (m- 1))=aC then _ else _);have up:∀{r:Array Nat×Nat×Nat},(Pm n r.1/\m+1<=r.2.1/\r.2.1<=m+1+f/\Dec key r.1 r.2.1/\r.2.2+1<=r.2.1/\∀i,r.2.1- (r.2.2+1)<=i->i<r.2.1->Kp key r.1 i=Kp key r.1 (r.2.1- 1))->
    (Pm n r.1/\m<=r.2.1/\r.2.1<=m+(f+1)/\Dec key r.1 r.2.1/\r.2.2+1<=r.2.1/\∀i,r.2.1- (r.2.2+1)<=i->i<r.2.1->Kp key r.1 i=Kp key r.1 (r.2.1- 1)):=
   λ⟨a,b,c,d⟩=>⟨a,by omega,by omega,d⟩
  have step1:∀x:Array Nat,O.blt (Kp key p m) (Kp key p (m- 1))=aC->(∀k,Kp key x k=Kp key p k)->Dec key x (m+1):=by
   intro x c hk i j hij hj;rw[hk,hk];by_cases hjx:j<m
   .exact hs i j hij hjx
   .have hj':j=m:=by omega
    subst hj';by_cases hi':i=j
    .subst hi';exact KeyOrd.kle_refl _
    .exact KeyOrd.kle_trans (KeyOrd.kle_of_klt c) (hs i (j- 1) (by omega) (by omega))
  have one:∀x:Array Nat,∀i,m+1- (0+1)<=i->i<m+1->Kp key x i=Kp key x (m+1- 1):=λx i a b=>by congr 1;omega
  by_cases c:O.blt (Kp key p m) (Kp key p (m- 1))=aC
  .rw[if_pos c];by_cases hq0:q > 0
   .rw[if_pos hq0];refine(Gb f (kas_rev p (m- (q+1)) m) (m+1) 0 (hp.rev _ _) (by omega) (by omega) (step1 _ c λk=>?_) (by omega) (one _)).mono λr=>up;rw[A9 hsz];by_cases hk:m- (q+1)<=k/\k<m
    .rw[if_pos hk,he _ (by omega) (by omega),he k hk.1 hk.2]
    .rw[if_neg hk]
   .rw[if_neg hq0];exact(Gb f p (m+1) 0 hp (by omega) (by omega) (step1 _ c λ_=>rfl) (by omega) (one _)).mono λr=>up
  .rw[if_neg c];refine⟨hp.lt (by omega),hp.lt (by omega),?_⟩;show W6 _ _ _ (if O.blt (Kp key p (m- 1)) (Kp key p m)=aC then _ else _);by_cases d:O.blt (Kp key p (m- 1)) (Kp key p m)=aC
   .rw[if_pos d];exact⟨hp,ba _,Nat.le_add_right _ _,hs,hq,he⟩
   .rw[if_neg d];have ex:Kp key p m=Kp key p (m- 1):=KeyOrd.kle_antisymm (by simpa[KeyOrd.kle]using d) (by simpa[KeyOrd.kle]using c);refine(Gb f p (m+1) (q+1) hp (by omega) (by omega) (λi j hij hj=>?_) (by omega) λi a b=>?_).mono λr=>up
    .by_cases hjx:j<m
     .exact hs i j hij hjx
     .have hj':j=m:=by omega
      subst hj';by_cases hi':i=j
      .subst hi';exact KeyOrd.kle_refl _
      .rw[ex];exact hs i (j- 1) (by omega) (by omega)
    .rw[show m+1- 1=m by omega];by_cases hix:i=m
     .subst hix;rfl
     .rw[ex];exact he i (by omega) (by omega)
abbrev Ct(key:Nat->O.α)(n:Nat)(r:Nat×Array Nat):Prop:=Pm n r.2/\1<=r.1/\r.1<=n/\Nl key r.2 r.1
theorem Eb(hp:Pm n p)(h1:1<=m)(hm:m<=n)(hs:Dec key p m):W6 (Fb O key) n (Ct key n) (kas_tail3 m n p):=by
 have hsz:m<=p.size:=by rw[hp.size];exact hm
 refine W6.bind (R:=λr=>m<=r/\r<=m+(n- m)/\Nl key (kas_rev p 0 m) r/\_) (λr ⟨a,b,c,_⟩=>⟨hp.rev _ _,by show 1<=r;omega,by show r<=n;omega,c⟩) (Ea (hp.rev 0 m) (n- m) m h1 (by omega) λi j hij hj=>?_);rw[A9 hsz,A9 hsz,if_pos (by omega),if_pos (by omega)];exact hs _ _ (by omega) (by omega)
theorem Gv(hp:Pm n p)(hm:m+1<=n)(hs:Dec key p (m+1)):W6 (Fb O key) n (Ct key n) (kas_descPart m n p):=by
 refine W6.bind (λr h=>?_) (Gb (n- (m+1)) p (m+1) 0 hp (by omega) (by omega) hs (by omega) λi a b=>by congr 1;omega);obtain⟨a,b,c,d,e,g⟩:=h;have hsz:r.2.1<=r.1.size:=by rw[a.size];omega
 by_cases hq:r.2.2 > 0
 .rw[if_pos hq];refine Eb (a.rev _ _) (by omega) (by omega) λi j hij hj=>?_;have k:∀x,Kp key (kas_rev r.1 (r.2.1- (r.2.2+1)) r.2.1) x=Kp key r.1 x:=λx=>by
   rw[A9 hsz];by_cases hk:r.2.1- (r.2.2+1)<=x/\x<r.2.1
   .rw[if_pos hk,g _ (by omega) (by omega),g x hk.1 hk.2]
   .rw[if_neg hk]
  rw[k,k];exact d i j hij hj
 .rw[if_neg hq];exact Eb a (by omega) (by omega) d
theorem X3(hp:Pm n p)(h1:1<=n):W6 (Fb O key) n (Ct key n) (kas_count n p):=by
 refine W6.bind (λm h=>?_) (Ea (key:=key) hp (n- 1) 1 (ba _) (by omega) λi j hij hj=>by(have:i=j:=by omega);subst this;exact KeyOrd.kle_refl _);obtain⟨a,b,c,d⟩:=h;by_cases hm:(m==n)=aC
 .rw[if_pos hm];exact⟨hp,a,by show m<=n;omega,c⟩
 .rw[if_neg hm];have hne:m≠n:=λz=>hm (by rw[z];exact beq_self_eq_true n);have br:O.klt (Kp key p m) (Kp key p (m- 1)):=by
   rcases d with d|d
   .omega
   .exact d
  by_cases h2:m > 1
  .rw[if_pos h2];refine⟨hp.lt (by omega),hp.lt (by omega),?_⟩;show W6 _ _ _ (if O.blt (Kp key p 0) (Kp key p (m- 1))=aC then _ else _);by_cases c0:O.blt (Kp key p 0) (Kp key p (m- 1))=aC
   .rw[if_pos c0];exact⟨hp,a,by show m<=n;omega,c⟩
   .rw[if_neg c0];have hsz:m<=p.size:=by rw[hp.size];omega
    have eq:∀i,i<m->Kp key p i=Kp key p (m- 1):=λi hi=>
     KeyOrd.kle_antisymm (c i (m- 1) (by omega) (by omega)) (KeyOrd.kle_trans (by simpa[KeyOrd.kle]using c0) (c 0 i (by omega) hi))
    have k:∀x,Kp key (kas_rev p 0 m) x=Kp key p x:=λx=>by
     rw[A9 hsz];by_cases hk:0<=x/\x<m
     .rw[if_pos hk,eq _ (by omega),eq x hk.2]
     .rw[if_neg hk]
    refine Gv (hp.rev 0 m) (by omega) λi j hij hj=>?_;rw[k,k];by_cases hjm:j=m
    .subst hjm;by_cases hi:i=j
     .subst hi;exact KeyOrd.kle_refl _
     .rw[eq i (by omega)];exact KeyOrd.kle_of_klt br
    .rw[eq i (by omega),eq j (by omega)];exact KeyOrd.kle_refl _
  .rw[if_neg h2];have:m=1:=by omega
   subst this;refine Gv hp (by omega) λi j hij hj=>?_;by_cases hi:i=j
   .subst hi;exact KeyOrd.kle_refl _
   .have:i=0:=by omega
    subst this;have:j=1:=by omega
    subst this;exact KeyOrd.kle_of_klt br
theorem G5(hp:Pm n p)(hk:k<n)(hs:Nl key p k):∀f l r,l<=r->r<=k->r- l<=f->(∀i,i<l->O.kle (Kp key p i) (Kp key p k))->(∀i,r<=i->i<k->O.kle (Kp key p k) (Kp key p i))->
  W6 (Fb O key) n (λm=>m<=k/\(∀i,i<m->O.kle (Kp key p i) (Kp key p k))/\∀i,m<=i->i<k->O.kle (Kp key p k) (Kp key p i)) (kas_place p k f l r)
 |0,l,r,hlr,hr,hf,h1,h2=>⟨by omega,h1,λi a b=>h2 i (by omega) b⟩
 |f+1,l,r,hlr,hr,hf,h1,h2=>by
  show W6 _ _ _ (if l>=r then _ else _);by_cases c:l>=r
  .rw[if_pos c];exact⟨by omega,h1,λi a b=>h2 i (by omega) b⟩
  .rw[if_neg c];refine⟨hp.lt hk,hp.lt (by omega),?_⟩;show W6 _ _ _ (if O.blt (Kp key p k) (Kp key p ((l+r) / 2))=aC then _ else _);by_cases d:O.blt (Kp key p k) (Kp key p ((l+r) / 2))=aC
   .rw[if_pos d];exact G5 hp hk hs f l ((l+r) / 2) (by omega) (by omega) (by omega) h1 λi a b=>KeyOrd.kle_trans (KeyOrd.kle_of_klt d) (hs _ i a b)
   .rw[if_neg d];exact G5 hp hk hs f ((l+r) / 2+1) r (by omega) hr (by omega) (λi a=>KeyOrd.kle_trans (hs i ((l+r) / 2) (by omega) (by omega)) (KeyOrd.kle_of_not_klt d)) h2
theorem Sv:∀f p k,Pm n p->k+f=n->Nl key p k->W6 (Fb O key) n (λq=>Pm n q/\Nl key q n) (kas_bin f p k)
 |0,p,k,hp,hk,hs=>⟨hp,by(have:k=n:=hk);rw[<-this];exact hs⟩
 |f+1,p,k,hp,hk,hs=>by
  refine W6.bind (λl h=>?_) (G5 hp (by omega) hs k 0 k (f7 _) (ba _) (by omega) (λi hi=>absurd hi (dz _)) λi a b=>absurd b (by omega));obtain⟨hl,a,b⟩:=h;have hsz:k<p.size:=by rw[hp.size];omega
  refine Sv f (bubble p k (k- l)) (k+1) (hp.bub _ _) (by omega) λi j hij hj=>?_;rw[Zfe hsz (by omega),Zfe hsz (by omega)];have e:k- (k- l)=l:=by omega
  rw[e];by_cases i1:i=l
  .rw[if_pos i1];by_cases j1:j=l
   .rw[if_pos j1];exact KeyOrd.kle_refl _
   .rw[if_neg j1,if_pos (by omega)];exact b (j- 1) (by omega) (by omega)
  .rw[if_neg i1];by_cases i2:l<i/\i<=k
   .rw[if_pos i2,if_neg (by omega),if_pos (by omega)];exact hs _ _ (by omega) (by omega)
   .rw[if_neg i2];by_cases j1:j=l
    .rw[if_pos j1];exact a i (by omega)
    .rw[if_neg j1];by_cases j2:l<j/\j<=k
     .rw[if_pos j2];exact hs _ _ (by omega) (by omega)
     .rw[if_neg j2];exact hs _ _ hij (by omega)
theorem Kg(h1:1<=n):W6 (Fb O key) n (λq=>Pm n q/\Nl key q n) (kas_sort n):=by
 refine W6.bind (λr h=>?_) (X3 (key:=key) (Array.Perm.refl _) h1);obtain⟨a,b,c,d⟩:=h;by_cases hr:r.1<n
 .rw[if_pos hr];have e:max r.1 1=r.1:=by omega
  rw[e];exact Sv _ _ _ a (by omega) d
 .rw[if_neg hr];have:r.1=n:=by omega
  exact⟨a,by rw[this]at d;exact d⟩
end
end TX
namespace TX
open PySem PySem.SeqAt
open AutoSeq1 (wpAny_loadPart')
open MeetsSeq MeetsSeq2 MeetsSeq3 SeqRoads2
def Ot(A:dh)(s:am)(y x:ah)(b:Bool):Prop:=
 ∀(prog:b6) (w:c7) (E:ah->am->Prop) (Q:ah->am->Prop),Q (.bool b) s->bg (b4 prog w) A (richCompare .Lt y x) Q E s
noncomputable def Uh(fin:Bool)(e l:Nat->Bool):Nat->Nat->Bool
 |0,_=>fin
 |k+1,i=>if e i=aC then Uh fin e l k (i+1)else l i
theorem Zb5(l b items items2 n n2 dd dd2 sl sl2 e lt k):
  ∀i:Nat,(∀j,j<i->e j=aC)->min items.size items2.size- i=k->Meets (Builtin.«list.__eq__.loop» ⟨[.ref l,.ref b,rawInt i,rawInt 0],[]⟩)
   (λA R s=>s.heap.get? l=aA {cls:=.type "list",dict:=dd,data:=.seq items n,slots:=sl}/\s.heap.get? b=aA {cls:=.type "list",dict:=dd2,data:=.seq items2 n2,slots:=sl2}/\
    (∀j h1 (h2:j<items2.size),(∀i,i<j->e i=aC)->EqAt A.in1 s items[j] items2[j] (e j))/\(∀j h1 (h2:j<items2.size),(∀i,i<j->e i=aC)->e j=aD->Ot A.in1 s items[j] items2[j] (lt j))/\
    R (.ok (.ret (.bool (Uh (decide (items.size<items2.size)) e lt k i)))) s):=by
 induction k with
 |zero=>
  intro i hpre hk prog w A R s h;obtain⟨hp,g,d,tk,os⟩:=s;obtain⟨hl,hb,he,ht,h⟩:=h;wp_walk using du hl,du hb;have hi:items[((i:Nat):Int).toNat]? =aB\/items2[((i:Nat):Int).toNat]? =aB:=by
   rcases dv i items.size with z|z
   .right;simp;omega
   .left;simp;omega
  rcases h1:items[((i:Nat):Int).toNat]? with _|x
  .wp_walk using du hl,du hb;exact h
  .rcases hi with hi|hi
   .rw[h1]at hi;cases hi
   .rw[hi];wp_walk using du hl,du hb;exact h
 |succ k ih=>
  intro i hpre hk prog w A R s h;obtain⟨hp,g,d,tk,os⟩:=s;obtain⟨hl,hb,he,ht,h⟩:=h;wp_walk using du hl,du hb;have hlt:i<items.size:=by omega
  have hlt2:i<items2.size:=by omega
  have hi1:items[((i:Nat):Int).toNat]? =aA items[i]:=by simp[hlt]
  have hi2:items2[((i:Nat):Int).toNat]? =aA items2[i]:=by simp[hlt2]
  have hc:((i:Int)+1)=((i+1:Nat):Int):=by push_cast;rfl
  rw[hi1,hi2];refine ac (he i hlt hlt2 hpre prog w _ _ ?_);cases hb':e i with
  |true=>
   have h':R (.ok (.ret (.bool (Uh (decide (items.size<items2.size)) e lt k (i+1))))) ⟨hp,g,d,tk,os⟩:=by have z:=h;unfold Uh at z;rw[if_pos hb']at z;exact z
   wp_walk;rw[hc];exact⟨plainId_quiet plain_eq_loop _,codeAny_builtin entry_eq_loop (by
    rw[ie plain_eq_loop _];exact ih (i+1) (λj hj=>by
     rcases dv j i with z|z
     .exact hpre j z
     .have:j=i:=by omega
      rw[this];exact hb') (by omega) prog w A R _ ⟨hl,hb,he,ht,h'⟩)⟩
  |false=>
   have h':R (.ok (.ret (.bool (lt i)))) ⟨hp,g,d,tk,os⟩:=by have z:=h;unfold Uh at z;rw[if_neg (by rw[hb'];simp)]at z;exact z
   wp_walk using du hl,du hb;rw[hi1,hi2];refine ac (ht i hlt hlt2 hpre hb' prog w _ _ ?_);wp_walk;exact h'
theorem Kh(l b items items2 n n2 dd dd2 sl sl2 e lt):
  Meets (Builtin.«list.__lt__» ⟨[.ref l,.ref b],[]⟩)
   (λA R s=>s.heap.get? l=aA {cls:=.type "list",dict:=dd,data:=.seq items n,slots:=sl}/\s.heap.get? b=aA {cls:=.type "list",dict:=dd2,data:=.seq items2 n2,slots:=sl2}/\
    (∀j h1 (h2:j<items2.size),(∀i,i<j->e i=aC)->EqAt A.in1 s items[j] items2[j] (e j))/\(∀j h1 (h2:j<items2.size),(∀i,i<j->e i=aC)->e j=aD->Ot A.in1 s items[j] items2[j] (lt j))/\
    R (.ok (.ret (.bool (Uh (decide (items.size<items2.size)) e lt (min items.size items2.size) 0)))) s):=by
 intro prog w A R s h;obtain⟨hp,g,d,tk,os⟩:=s;obtain⟨hl,hb,he,ht,h⟩:=h;have f3:=AutoSeq1.sub_list_list;wp_walk using du hl,du hb;exact⟨plainId_quiet plain_eq_loop _,codeAny_builtin entry_eq_loop (by
  rw[ie plain_eq_loop _];exact Zb5 l b items items2 n n2 dd dd2 sl sl2 e lt _ 0 (λj hj=>absurd hj (dz _)) rfl prog w A R _ ⟨hl,hb,he,ht,h⟩)⟩
theorem X4(l b items items2 n n2 dd dd2 sl sl2 e lt):
  Meets (Builtin.«tuple.__lt__» ⟨[.ref l,.ref b],[]⟩)
   (λA R s=>s.heap.get? l=aA {cls:=.type "tuple",dict:=dd,data:=.seq items n,slots:=sl}/\s.heap.get? b=aA {cls:=.type "tuple",dict:=dd2,data:=.seq items2 n2,slots:=sl2}/\
    (∀j h1 (h2:j<items2.size),(∀i,i<j->e i=aC)->EqAt A.in1 s items[j] items2[j] (e j))/\(∀j h1 (h2:j<items2.size),(∀i,i<j->e i=aC)->e j=aD->Ot A.in1 s items[j] items2[j] (lt j))/\
    R (.ok (.ret (.bool (Uh (decide (items.size<items2.size)) e lt (min items.size items2.size) 0)))) s):=
 .of_wp λprog w A R s h=>by
  obtain⟨hp,g,d,tk,os⟩:=s;obtain⟨hl,hb,he,ht,h⟩:=h;have f2:=AutoSeq1.sub_tuple_tuple;have hZ:(items.toList.zip items2.toList).length=min items.size items2.size:=by simp
  wp_walk using du hl,du hb,wpAny_forIn_list _ (λrest b s'=>b.1=aB/\s'=⟨hp,g,d,tk,os⟩/\∃i,rest=(items.toList.zip items2.toList).drop i/\(∀j,j<i->e j=aC)/\
   R (.ok (.ret (.bool (Uh (decide (items.size<items2.size)) e lt (min items.size items2.size- i) i)))) ⟨hp,g,d,tk,os⟩) _
  case turn=>
   rintro⟨y,x⟩ rest b s' ⟨hb',rfl,i,hz,hpre,hR⟩;have hlt:i<(items.toList.zip items2.toList).length:=by
    rcases dv i (items.toList.zip items2.toList).length with h'|h'
    .exact h'
    .rw[List.drop_of_length_le h']at hz;cases hz
   have hm:i<min items.size items2.size:=hZ▸hlt;have h1:i<items.size:=c8 hm (Nat.min_le_left _ _);have h2:i<items2.size:=c8 hm (Nat.min_le_right _ _);rw[List.drop_eq_getElem_cons hlt]at hz;injection hz with hyx hrest;have hy:y=items[i]:=by have:=congrArg Prod.fst hyx;simpa using this
   have hx:x=items2[i]:=by have:=congrArg Prod.snd hyx;simpa using this
   subst hy hx;have hk:min items.size items2.size- i=(min items.size items2.size- (i+1))+1:=by omega
   rw[hk]at hR;unfold Uh at hR;refine ac (he i h1 h2 hpre prog w _ _ ?_);cases hy:e i with
   |true=>
    rw[if_pos hy]at hR;wp_walk;exact⟨rfl,rfl,i+1,hrest,λj hj=>by
     rcases dv j i with z|z
     .exact hpre j z
     .have:j=i:=by omega
      rw[this];exact hy,hR⟩
   |false=>rw[if_neg (by rw[hy];simp)]at hR;simp only[Bool.not_false,if_true];refine ac (wpAny_rule (ac (ht i h1 h2 hpre hy prog w _ _ ?_)));wp_walk;exact⟨_,rfl,hR⟩
  case fin=>
   rintro⟨b1,b2⟩ s' ⟨hb',rfl,i,hz,hpre,hR⟩;simp only at hb';subst hb';have hge:min items.size items2.size<=i:=by
    rcases dv i (items.toList.zip items2.toList).length with h'|h'
    .rw[List.drop_eq_getElem_cons h']at hz;cases hz
    .exact hZ▸h'
   have hk:min items.size items2.size- i=0:=by omega
   rw[hk]at hR;wp_walk;exact⟨_,rfl,hR⟩
  case h=>
   exact⟨rfl,rfl,0,rfl,λj hj=>absurd hj (dz _),by simpa using h⟩
theorem Ot.lists(hl:s.heap.IsList l items)(hb:s.heap.IsList b items2)(hu:A.units<f6)(he:∀j h1 (h2:j<items2.size),(∀i,i<j->e i=aC)->EqAt A.in1 s items[j] items2[j] (e j))(ht:∀j h1 (h2:j<items2.size),(∀i,i<j->e i=aC)->e j=aD->Ot A.in1 s items[j] items2[j] (lt j)):
  Ot A s (.ref l) (.ref b) (Uh (decide (items.size<items2.size)) e lt (min items.size items2.size) 0):=λprog w E Q h=>by
 obtain⟨⟨cls,dd,data,sl⟩,ho,hc,n,hd⟩:=id hl;obtain⟨⟨cls2,dd2,data2,sl2⟩,ho2,hc2,n2,hd2⟩:=id hb;simp only at hc hd hc2 hd2;subst hc hd hc2 hd2;exact richCompare_meets_room (op:=.Lt) ⟨_,ho,rfl⟩ ⟨_,ho2,rfl⟩ F.slot_list_lt F.entry_list_lt (F.args_list_lt_2 _ _) (Kh l b items items2 n n2 dd dd2 sl sl2 e lt)
  ⟨ho,ho2,he,ht,show Value.bool (Uh (decide (items.size<items2.size)) e lt (min items.size items2.size) 0)≠Value.notImplemented/\Q (.bool (Uh (decide (items.size<items2.size)) e lt (min items.size items2.size) 0)) s from⟨(λx=>nomatch x),h⟩⟩ hu
theorem Ot.tuples(hl:s.heap.IsTuple l items)(hb:s.heap.IsTuple b items2)(hu:A.units<f6)(he:∀j h1 (h2:j<items2.size),(∀i,i<j->e i=aC)->EqAt A.in1 s items[j] items2[j] (e j))(ht:∀j h1 (h2:j<items2.size),(∀i,i<j->e i=aC)->e j=aD->Ot A.in1 s items[j] items2[j] (lt j)):
  Ot A s (.ref l) (.ref b) (Uh (decide (items.size<items2.size)) e lt (min items.size items2.size) 0):=λprog w E Q h=>by
 obtain⟨⟨cls,dd,data,sl⟩,ho,hc,n,hd⟩:=id hl;obtain⟨⟨cls2,dd2,data2,sl2⟩,ho2,hc2,n2,hd2⟩:=id hb;simp only at hc hd hc2 hd2;subst hc hd hc2 hd2;exact richCompare_meets_room (op:=.Lt) ⟨_,ho,rfl⟩ ⟨_,ho2,rfl⟩ F.slot_tuple_lt F.entry_tuple_lt (F.args_tuple_lt_2 _ _) (X4 l b items items2 n n2 dd dd2 sl sl2 e lt)
  ⟨ho,ho2,he,ht,show Value.bool (Uh (decide (items.size<items2.size)) e lt (min items.size items2.size) 0)≠Value.notImplemented/\Q (.bool (Uh (decide (items.size<items2.size)) e lt (min items.size items2.size) 0)) s from⟨(λx=>nomatch x),h⟩⟩ hu
def Gw(A:dh)(s:am)(y x:ah)(b:Bool):Prop:=
 ∀(prog:b6) (w:c7) (E:ah->am->Prop) (Q:Bool->am->Prop),Q b s->bg (b4 prog w) A (PyProof.Rows.oneLt' aC y x) Q E s
theorem Gw.lists(hl:s.heap.IsList l items)(hb:s.heap.IsList b items2)(hu:A.units<f6)(he:∀j h1 (h2:j<items2.size),(∀i,i<j->e i=aC)->EqAt A.in1 s items[j] items2[j] (e j))(ht:∀j h1 (h2:j<items2.size),(∀i,i<j->e i=aC)->e j=aD->Ot A.in1 s items[j] items2[j] (lt j)):
  Gw A s (.ref l) (.ref b) (Uh (decide (items.size<items2.size)) e lt (min items.size items2.size) 0):=λprog w E Q h=>by
 obtain⟨⟨cls,dd,data,sl⟩,ho,hc,n,hd⟩:=id hl;obtain⟨⟨cls2,dd2,data2,sl2⟩,ho2,hc2,n2,hd2⟩:=id hb;simp only at hc hd hc2 hd2;subst hc hd hc2 hd2;rw[PyProof.Rows.oneLt'_eq];simp only[if_true];refine ac (wpAny_cRoomFor hu ?_);refine ac (wpAny_callSpecialIfBound?_slot ⟨_,ho,rfl⟩ F.slot_list_lt (call_meets F.slot_list_lt ⟨_,ho,rfl⟩ F.entry_list_lt (F.args_list_lt_2 _ _) (Kh l b items items2 n n2 dd dd2 sl sl2 e lt) ⟨ho,ho2,he,ht,?_⟩));exact wpAny_truthy_bool h
theorem Gw.int(a t b u):Gw A s (.int a t) (.int b u) (decide (a<b)):=λprog w E Q h=>PyProof.Rows.oneLt_int h
theorem Gw.str(a t b u):Gw A s (.str a t) (.str b u) (decide (a.cps.toList<b.cps.toList)):=λprog w E Q h=>PyProof.Rows.oneLt_str h
theorem Ot.int(a t b u):Ot A s (.int a t) (.int b u) (decide (a<b)):=λprog w E Q h=>wpAny_lt_int h
theorem Ot.str(a t b u):Ot A s (.str a t) (.str b u) (decide (a.cps.toList<b.cps.toList)):=λprog w E Q h=>PySem.P.lt_str h
end TX
namespace TX
open PySem PySem.Spec PyProof.Rows L2
open PySem.W (kla_fn kla_obj kla_callFunE kla_codeExpr envX)
structure LamS(x:Str)(fs:List Str)(sc:Scope):Prop where
 kind:sc.kind= .function
 co:sc.isCoroutine=aD
 gen:sc.isGenerator=aD
 par:sc.names.lookup x=aA .local
 nocell:∀y∈sc.names,y.2≠.cell
 nd:x∉fs
noncomputable abbrev Znm(qual:Str)(sc:Scope)(L f:aj)(c:aj)(cl:List (Str×aj)):Env:=envX qual sc L f (.ref c) cl
def cxL(X:Cx)(N:List Str)(qual:Str)(sc:Scope)(f c:aj)(cl:List (Str×aj))(A:dh)(s:am)(H:Hp):Cx where
 prog:=X.prog
 w:=X.w
 K:=X.K
 mg:=X.mg
 base:=X.base
 A:=A.deeper (Znm qual sc s.heap.objs.size f c cl)
 N:=N
 s₀:=s
 H₀:=H
 env:=Znm qual sc s.heap.objs.size f c cl
 outer:=X.stack
 stack:=Znm qual sc s.heap.objs.size f c cl::X.stack
 ex:=[]
 calm:=aC
 fn:=λ_=>aD
 pn:=[]
 xe:=λ_ _=>False
end TX
namespace TX
open PySem PySem.Spec PyProof.Rows L2
open PySem.W (kla_fn kla_obj kla_eval kla_makeFunction kla_makeFunctionHit CodeHd tabObj)
def Zyx(mg:Str->Option ah)(h:d6):Prop:=∃bm ob,mg "__builtins__"=aA (.ref bm)/\bm≠builtinsNs/\h.get? bm=aA ob/\ob.cls= .type "module"/\ob.dict=aA builtinsNs/\ob.data= .plain
def Z1c(o:Obj)(q:Str):Prop:=∃vs t,o.data= .fields vs/\vs[1]? =aA (.str q t)
end TX
namespace TX
open PySem PySem.Spec PyProof.Rows L2 DL
open PySem.SeqAt (EqAt)
variable{K:ad}
@[simp]noncomputable def Rx(eq lt:D->D->Option Bool):List D->List D->Option Bool
 | [],ys=>aA (!ys.isEmpty)
 |_::_,[]=>aA aD
 |x::xs,y::ys=>(eq x y).bind λb=>if b=aC then Rx eq lt xs ys else lt x y
@[simp]def X5(eq lt:D->D->Option Bool):D->D->Option Bool
 | .int i,.int j=>aA (decide (i<j))
 | .str a,.str b=>aA (decide (a.cps.toList<b.cps.toList))
 | .lst xs,.lst ys=>Rx eq lt xs ys
 | .tup xs,.tup ys=>Rx eq lt xs ys
 |_,_=>aB
@[simp]def Ug:Nat->D->D->Option Bool
 |0=>λ_ _=>aB
 |n+1=>X5 (We n) (Ug n)
noncomputable def isT:Option Bool->Bool
 |some aC=>aC
 |_=>aD
abbrev eJ(f:D->D->Option Bool)(xs ys:List D)(j:Nat):Bool:=isT (f (xs.getD j .non) (ys.getD j .non))
theorem Ec:∀k i,Uh fin e l k (i+1)=Uh fin (λj=>e (j+1)) (λj=>l (j+1)) k i
 |0,_=>rfl
 |k+1,i=>by
  show(if e (i+1)=aC then Uh fin e l k (i+1+1)else l (i+1))=(if e (i+1)=aC then _ else _)
  rw[Ec k (i+1)]
theorem Ki:∀{xs ys:List D} {b:Bool},Rx eq lt xs ys=aA b->
  Uh (decide (xs.length<ys.length)) (eJ eq xs ys) (eJ lt xs ys) (min xs.length ys.length) 0=b/\
  ∀j,j<xs.length->j<ys.length->(∀i,i<j->eJ eq xs ys i=aC)->eq (xs.getD j .non) (ys.getD j .non)=aA (eJ eq xs ys j)/\(eJ eq xs ys j=aD->lt (xs.getD j .non) (ys.getD j .non)=aA (eJ lt xs ys j))
 | [],ys,b,h=>by
  refine⟨?_,λj hj=>absurd hj (dz _)⟩;obtain rfl:(!ys.isEmpty)=b:=by simpa using h
  cases ys<;> simp[Uh]
 |x::xs,[],b,h=>by
  refine⟨?_,λj _ hj=>absurd hj (dz _)⟩;obtain rfl:aD=b:=by simpa using h
  simp[Uh]
 |x::xs,y::ys,b,h=>by
  have h:(eq x y).bind (λb=>if b=aC then Rx eq lt xs ys else lt x y)=aA b:=h;obtain⟨c,hc,h2⟩:=aa.mp h;have e0:eJ eq (x::xs) (y::ys) 0=c:=by show isT (eq x y)=c;rw[hc];cases c<;> rfl
  have hm:min (x::xs).length (y::ys).length=min xs.length ys.length+1:=by simp only[bf];omega
  have hfin:decide ((x::xs).length<(y::ys).length)=decide (xs.length<ys.length):=by simp
  rw[hm,hfin];cases c with
  |false=>
   have h2:lt x y=aA b:=by simpa using h2
   refine⟨?_,λj hj1 hj2 hp=>?_⟩
   .show(if eJ eq (x::xs) (y::ys) 0=aC then _ else eJ lt (x::xs) (y::ys) 0)=b;rw[e0,if_neg (by simp)];show isT (lt x y)=b;rw[h2];cases b<;> rfl
   .cases j with
    |zero=>refine⟨by rw[e0];exact hc,λ_=>?_⟩;show lt x y=aA (isT (lt x y));rw[h2];cases b<;> rfl
    |succ j=>have:=hp 0 (Nat.succ_pos _);rw[e0]at this;cases this
  |true=>
   have h2:Rx eq lt xs ys=aA b:=by simpa using h2
   obtain⟨i1,i2⟩:=Ki h2;refine⟨?_,λj hj1 hj2 hp=>?_⟩
   .show(if eJ eq (x::xs) (y::ys) 0=aC then Uh _ _ _ _ (0+1)else eJ lt (x::xs) (y::ys) 0)=b;rw[e0,if_pos rfl,Ec];exact i1
   .cases j with
    |zero=>refine⟨by rw[e0];exact hc,λz=>?_⟩;rw[e0]at z;cases z
    |succ j=>exact i2 j (by simpa using hj1) (by simpa using hj2) λi hi=>hp (i+1) (by omega)
theorem Reps.getD:∀{ds:List D} {vs:List V} {its:List ah},Reps K F ds vs->Z2 vs its->∀j hj,∃v,Rep K F (ds.getD j .non) v/\Zy v its[j]/\j<ds.length
 |_,_,_,.nil,.nil,j,hj=>absurd hj (dz _)
 |_,_,_,.cons h t,.cons q qs,0,_=>⟨_,h,q,Nat.succ_pos _⟩
 |_,_,_,.cons h t,.cons q qs,j+1,hj=>by obtain⟨v,a,b,c⟩:=Reps.getD t qs j (Nat.lt_of_succ_lt_succ hj);exact⟨v,a,b,Nat.succ_lt_succ c⟩
theorem Reps.lenV:∀{ds:List D} {vs:List V} {its:List ah},Reps K F ds vs->Z2 vs its->ds.length=its.length
 |_,_,_,.nil,.nil=>rfl
 |_,_,_,.cons h t,.cons q qs=>congrArg (· +1) (Reps.lenV t qs)
section
variable{X:Cx}{pins:List (aj×Obj)}{σ:L2.St}{F H:Hp}{s:am}
theorem Ux(I:Inv X pins σ H s)(le:Zi F H)(h:W5 X.K F a vs):∃its,Z2 vs its/\s.heap.IsList a its.toArray:=by obtain⟨its,rv,⟨o,n,ho,hcl,_,hd⟩,_⟩:=I.list (Wb le h);exact⟨its,rv,o,ho,hcl,n,hd⟩
theorem Q9(I:Inv X pins σ H s)(le:Zi F H)(h:F a=aA (.tup vs)):∃its,Z2 vs its/\s.heap.IsTuple a its.toArray:=by obtain⟨_,its,rv,p⟩:=I.hok a _ (le _ _ h);obtain⟨o,ho,hc,n,hd⟩:=p;exact⟨its,rv,o,ho,hc,n,hd⟩
theorem Ed(I:Inv X pins σ H s)(le:Zi F H)(hu:A.units+n<f6)(ih:∀d1 d2 b x y v u,Rep X.K F d1 x->Zy x v->Rep X.K F d2 y->Zy y u->Ug n d1 d2=aA b->Ot A s v u b)(r1:Reps X.K F ds vs)(rv1:Z2 vs its)(r2:Reps X.K F es ws)(rv2:Z2 ws jts)(h:Rx (We n) (Ug n) ds es=aA b):
  Uh (decide (its.toArray.size<jts.toArray.size)) (eJ (We n) ds es) (eJ (Ug n) ds es) (min its.toArray.size jts.toArray.size) 0=b/\
  (∀j h1 (h2:j<jts.toArray.size),(∀i,i<j->eJ (We n) ds es i=aC)->EqAt A s its.toArray[j] jts.toArray[j] (eJ (We n) ds es j))/\
  (∀j h1 (h2:j<jts.toArray.size),(∀i,i<j->eJ (We n) ds es i=aC)->eJ (We n) ds es j=aD->Ot A s its.toArray[j] jts.toArray[j] (eJ (Ug n) ds es j)):=by
 obtain⟨a,c⟩:=Ki h;rw[Reps.lenV r1 rv1,Reps.lenV r2 rv2]at a;refine⟨by simpa using a,λj h1 h2 hp=>?_,λj h1 h2 hp hf=>?_⟩
 .have h1':j<its.length:=by simpa using h1
  have h2':j<jts.length:=by simpa using h2
  obtain⟨v,p1,p2,p3⟩:=Reps.getD r1 rv1 j h1';obtain⟨w,q1,q2,q3⟩:=Reps.getD r2 rv2 j h2';exact Mn I le n A _ _ _ _ _ _ _ hu p1 (by simpa using p2) q1 (by simpa using q2) (c j p3 q3 hp).1
 .have h1':j<its.length:=by simpa using h1
  have h2':j<jts.length:=by simpa using h2
  obtain⟨v,p1,p2,p3⟩:=Reps.getD r1 rv1 j h1';obtain⟨w,q1,q2,q3⟩:=Reps.getD r2 rv2 j h2';exact ih _ _ _ _ _ _ _ p1 (by simpa using p2) q1 (by simpa using q2) ((c j p3 q3 hp).2 hf)
theorem X6(I:Inv X pins σ H s)(le:Zi F H):∀n A d1 d2 b x y v u,A.units+n<f6->Rep X.K F d1 x->Zy x v->Rep X.K F d2 y->Zy y u->Ug n d1 d2=aA b->Ot A s v u b
 |0,_,_,_,_,_,_,_,_,_,_,_,_,_,e=>by cases e
 |n+1,A,d1,d2,b,x,y,v,u,hu,r1,v1,r2,v2,e=>by
  have e:X5 (We n) (Ug n) d1 d2=aA b:=e;have hi:A.in1.units+n<cLine:=by have:A.in1.units=A.units+1:=rfl;omega
  have ih:=λ(d1 d2:D) (b:Bool) (x y:V) (v u:ah)=>X6 I le n A.in1 d1 d2 b x y v u hi;cases r1 with
  |int i=>cases r2 with
   |int j=>
    obtain⟨t1,rfl⟩:=v1;obtain⟨t2,rfl⟩:=v2;obtain rfl:decide (i<j)=b:=by simpa using e
    exact Ot.int i t1 j t2
   |_=>cases e
  |str i=>cases r2 with
   |str j=>
    obtain⟨t1,rfl⟩:=v1;obtain⟨t2,rfl⟩:=v2;obtain rfl:decide (i.cps.toList<j.cps.toList)=b:=by simpa using e
    exact Ot.str i t1 j t2
   |_=>cases e
  |lst h _ r=>cases r2 with
   |lst h' _ r'=>cases v1;cases v2;obtain⟨its,rv,hl⟩:=Ux I le h;obtain⟨jts,rv',hl'⟩:=Ux I le h';obtain⟨a,c,d⟩:=Ed I le hi ih r rv r' rv' e;rw[<-a];exact Ot.lists hl hl' (by omega) c d
   |_=>cases e
  |tup h r=>cases r2 with
   |tup h' r'=>cases v1;cases v2;obtain⟨its,rv,hl⟩:=Q9 I le h;obtain⟨jts,rv',hl'⟩:=Q9 I le h';obtain⟨a,c,d⟩:=Ed I le hi ih r rv r' rv' e;rw[<-a];exact Ot.tuples hl hl' (by omega) c d
   |_=>cases e
  |_=>cases e
theorem Znn(I:Inv X pins σ H s)(le:Zi F H)(hu:A.units+(n+1)<f6)(r1:Rep X.K F d1 x)(v1:Zy x v)(r2:Rep X.K F d2 y)(v2:Zy y u)(e:Ug (n+1) d1 d2=aA b)(hn:∀xs,d1≠.tup xs):Gw A s v u b:=by
 have e:X5 (We n) (Ug n) d1 d2=aA b:=e;have hi:A.in1.units+n<cLine:=by have:A.in1.units=A.units+1:=rfl;omega
 have ih:=λ(d1 d2:D) (b:Bool) (x y:V) (v u:ah)=>X6 I le n A.in1 d1 d2 b x y v u hi;cases r1 with
 |int i=>cases r2 with
  |int j=>
   obtain⟨t1,rfl⟩:=v1;obtain⟨t2,rfl⟩:=v2;obtain rfl:decide (i<j)=b:=by simpa using e
   exact Gw.int i t1 j t2
  |_=>cases e
 |str i=>cases r2 with
  |str j=>
   obtain⟨t1,rfl⟩:=v1;obtain⟨t2,rfl⟩:=v2;obtain rfl:decide (i.cps.toList<j.cps.toList)=b:=by simpa using e
   exact Gw.str i t1 j t2
  |_=>cases e
 |lst h _ r=>cases r2 with
  |lst h' _ r'=>cases v1;cases v2;obtain⟨its,rv,hl⟩:=Ux I le h;obtain⟨jts,rv',hl'⟩:=Ux I le h';obtain⟨a,c,d⟩:=Ed I le hi ih r rv r' rv' e;rw[<-a];exact Gw.lists hl hl' (by omega) c d
  |_=>cases e
 |tup h r=>exact absurd rfl (hn _)
 |_=>cases e
end
end TX
namespace TX
open PySem PySem.Spec PyProof.Rows L2 DL
open PySem.W (kas_sort kas_ask kas_item kat_run kat_snds)
section
variable{X:Cx}{pins:List (aj×Obj)}{σ:L2.St}{H:Hp}{s:am}
theorem D3{D}{o:Obj}{xs ys:Array ah}{n:Nat}(I:Inv X pins σ H s)(fD:Jz X pins H D):Inv X pins σ H {s with heap:=s.heap.update D (di g),toks:=t'}:=
 I.turned (λb o hb e=>by rw[Heap.get?_update_ne _ _ _ _ hb];exact e) fD.1 fD.2.1 fD.2.2.2.1 fD.2.2.2.2.1 fD.2.2.2.2.2
def KS(X:Cx)(pins:List (aj×Obj))(σ:L2.St)(H0:Hp)(f:aj)(fo:Obj)(D kS:aj)(e1:Nat)(KeyOk:Nat->V->Hp->Prop)(i:Nat)(s:am):Prop:=
 ∃H ks kvs e,Zi H0 H/\Inv X pins σ H s/\Jz X pins H D/\Jz X pins H kS/\Jz X pins H f/\s.heap.get? D=aA (d4 "list" #[] e1)/\s.heap.get? kS=aA (d4 "list" (ik ks) e)/\s.heap.get? f=aA fo/\
  Z2 kvs ks/\ks.length=i/\∀j kv,kvs[j]? =aA kv->KeyOk j kv H
end
end TX
namespace TX
open PySem PySem.Spec PyProof.Rows L2 DL
open PySem.W (kas_sort kas_ask kas_item kat_run kat_snds)
def Out(X:Cx)(pins:List (aj×Obj))(σ:L2.St)(H0:Hp)(D:aj)(out:List ah)(s:am):Prop:=
 ∃H c,Zi H0 H/\Inv X pins σ H s/\Jz X pins H D/\s.heap.get? D=aA (d4 "list" (ik out) c)
def Cmp(X:Cx)(pins:List (aj×Obj))(σ:L2.St)(H0:Hp)(A:dh)(KeyOk:Nat->V->Hp->Prop)(O:KeyOrd)(key:Nat->O.α)(n:Nat):Prop:=
 ∀H2 s2 ks kvs,Zi H0 H2->Inv X pins σ H2 s2->Z2 kvs ks->ks.length=n->(∀j kv,kvs[j]? =aA kv->KeyOk j kv H2)->2<=n->
  ∃κ,(∀Q:SortKind->am->Prop,Q κ s2->bg (b4 X.prog X.w) A (keyKind' (ik ks)) Q (λ_ _=>False) s2)/\
   ∀i j (Q:Bool->am->Prop),i<n->j<n->Q (O.blt (key i) (key j)) s2->bg (b4 X.prog X.w) A (keyLt' κ (ks.getD i .none) (ks.getD j .none)) Q (λ_ _=>False) s2
end TX
namespace TX
open PySem PySem.Spec PySem.Calls PyProof.Rows L2 DL
end TX
namespace TX
open PySem PySem.Spec PySem.Calls PyProof.Rows L2 DL
open PySem.W (KatLex kat_lt kat_kind KatTups kat_one kat_nil kat_cons kat_yes kat_no)
section
variable{σ:L2.St}
theorem Zff(I:Inv X pins σ H s)(le:Zi F H)(hu:A.units+(n+1)<f6):∀{ds es:List D} {vs ws:List V} {its jts:List ah} {b:Bool} i,
  Reps X.K F ds vs->Z2 vs its->Reps X.K F es ws->Z2 ws jts->(i=0->∀d,ds.head? =aA d->∀xs,d≠.tup xs)->Rx (We (n+1)) (Ug (n+1)) ds es=aA b->(its.length=jts.length->fin=aD)->(its.length<jts.length->fin=aC)->(jts.length<its.length->fin=aD)->Q b s->
  KatLex X.prog X.w A aC fin Q (its.zip jts) i s
 |_,_,_,_,_,_,b,i,.nil,.nil,.nil,.nil,_,e,f1,_,_,q=>by
  obtain rfl:aD=b:=by simpa using e
  show Q fin s;rw[f1 rfl];exact q
 |_,_,_,_,_,_,b,i,.nil,.nil,.cons _ _,.cons _ _,_,e,_,f2,_,q=>by
  obtain rfl:aC=b:=by simpa using e
  show Q fin s;rw[f2 (by simp)];exact q
 |_,_,_,_,_,_,b,i,.cons _ _,.cons _ _,.nil,.nil,_,e,_,_,f3,q=>by
  obtain rfl:aD=b:=by simpa using e
  show Q fin s;rw[f3 (by simp)];exact q
 |d::ds,d'::es,_,_,_,_,b,i,.cons h t,.cons r rs,.cons h' t',.cons r' rs',hd,e,f1,f2,f3,q=>by
  have e:(We (n+1) d d').bind (λb=>if b=aC then Rx (We (n+1)) (Ug (n+1)) ds es else Ug (n+1) d d')=aA b:=e;obtain⟨c,hc,e2⟩:=aa.mp e;refine kat_cons (Mn I le (n+1) A _ _ _ _ _ _ _ (by omega) h r h' r' hc X.prog X.w _ _ ?_);cases c with
  |true=>
   have e2:Rx (We (n+1)) (Ug (n+1)) ds es=aA b:=by simpa using e2
   exact kat_yes (Zff I le hu (i+1) t rs t' rs' (λz=>absurd z (Nat.succ_ne_zero i)) e2 (λz=>f1 (by simp[z])) (λz=>f2 (by simpa using z)) (λz=>f3 (by simpa using z)) q)
  |false=>
   have e2:Ug (n+1) d d'=aA b:=by simpa using e2
   refine kat_no ?_;cases i with
   |zero=>exact Znn I le hu h r h' r' e2 (hd rfl d rfl) X.prog X.w _ _ q
   |succ i=>
    have:(aC&&(i+1==0))=aD:=by simp
    rw[this];refine kat_one _ _ (X6 I le (n+1) A _ _ _ _ _ _ _ (by omega) h r h' r' e2 X.prog X.w _ _ ?_);exact q
inductive KK where
 |lst|str|int
inductive IsKey:KK->D->Prop where
 |lst (xs:List D) (r:List D):IsKey .lst (.tup (.lst xs::r))
 |str (x:Str) (r:List D):IsKey .str (.tup (.str x::r))
 |int (i:Int) (r:List D):IsKey .int (.tup (.int i::r))
theorem IsKey.shape(h:IsKey b d):∃e r,d= .tup (e::r)/\∀xs,e≠.tup xs:=by
 cases h with
 |lst xs r=>exact⟨_,r,rfl,λ_ z=>by cases z⟩
 |str x r=>exact⟨_,r,rfl,λ_ z=>by cases z⟩
 |int x r=>exact⟨_,r,rfl,λ_ z=>by cases z⟩
noncomputable def kT:KK->String
 | .lst=>"list"
 | .str=>"str"
 | .int=>"int"
theorem Zno(I:Inv X pins σ H s)(le:Zi F H)(hu:A.units+(n+2)<f6)(k1:IsKey k d1)(k2:IsKey k d2)(r1:Rep X.K F d1 x)(v1:Zy x v)(r2:Rep X.K F d2 y)(v2:Zy y u)(e:Ug (n+2) d1 d2=aA b)(q:Q b s):bg (b4 X.prog X.w) A (keyLt' (tuples' aC) v u) Q E s:=by
 obtain⟨e1,rs1,rfl,hn1⟩:=k1.shape;obtain⟨e2,rs2,rfl,_⟩:=k2.shape;cases r1 with
 |tup h1 p1=>cases r2 with
  |tup h2 p2=>
   cases v1;cases v2;obtain⟨its,rv,o,ho,hc,m,hd⟩:=Q9 I le h1;obtain⟨jts,rw',o',ho',hc',m',hd'⟩:=Q9 I le h2;have e:Rx (We (n+1)) (Ug (n+1)) (e1::rs1) (e2::rs2)=aA b:=e;refine kat_lt ho hd ho' hd' ?_;refine Zff I le (by omega) 0 p1 rv p2 rw' (λ_ d z xs=>?_) e (λz=>?_) (λz=>?_) (λz=>?_) q
   .obtain rfl:e1=d:=by simpa using z
    exact hn1 xs
   .simp[z]
   .simpa using z
   .have z:jts.length<its.length:=by simpa using z
    simp;omega
theorem Kj(I:Inv X pins σ H s)(le:Zi F H):∀{ds:List D} {vs:List V} {its:List ah},(∀d∈ds,IsKey k d)->Reps X.K F ds vs->Z2 vs its->∃fs,KatTups s.heap its fs/\fs.length=its.length/\∀v∈fs,PySem.W.Looks (b4 X.prog X.w) s.heap (typeOf v) (.type (kT k))
 |_,_,_,_,.nil,.nil=>⟨[],trivial,rfl,λ_ z=>nomatch z⟩
 |d::ds,_,_,hk,.cons h t,.cons r rs=>by
  obtain⟨fs,a,b,c⟩:=Kj I le (λd z=>hk d (ao _ z)) t rs;cases hk d af with
  |lst xs rr=>cases h with
   |tup h1 p1=>
    cases r;obtain⟨its,rv,o,ho,hc,m,hd⟩:=Q9 I le h1;cases p1 with
    |cons q1 q2=>cases rv with
     |cons w1 w2=>cases q1 with
      |lst g1 _ g2=>
       cases w1;obtain⟨jts,_,o2,ho2,hc2,_⟩:=Ux I le g1;refine⟨_::fs,KatTups.cons ho hc hd rfl a,by simp[b],λv z=>?_⟩;rcases bx.mp z with z|z
       .subst z;exact λA Q E s' k q=>wpAny_typeOf (T:="list") ⟨o2,k _ _ ho2,hc2⟩ q
       .exact c v z
  |str x rr=>cases h with
   |tup h1 p1=>
    cases r;obtain⟨its,rv,o,ho,hc,m,hd⟩:=Q9 I le h1;cases p1 with
    |cons q1 q2=>cases rv with
     |cons w1 w2=>cases q1 with
      |str y=>
       obtain⟨tk,rfl⟩:=w1;refine⟨_::fs,KatTups.cons ho hc hd rfl a,by simp[b],λv z=>?_⟩;rcases bx.mp z with z|z
       .subst z;exact λA Q E s' k q=>wpAny_typeOf (T:="str") (typeIs_str s' x tk) q
       .exact c v z
  |int x rr=>cases h with
   |tup h1 p1=>
    cases r;obtain⟨its,rv,o,ho,hc,m,hd⟩:=Q9 I le h1;cases p1 with
    |cons q1 q2=>cases rv with
     |cons w1 w2=>cases q1 with
      |int y=>
       obtain⟨tk,rfl⟩:=w1;refine⟨_::fs,KatTups.cons ho hc hd rfl a,by simp[b],λv z=>?_⟩;rcases bx.mp z with z|z
       .subst z;exact λA Q E s' k q=>wpAny_typeOf (T:="int") (typeIs_int s' x tk) q
       .exact c v z
theorem Zfg(I:Inv X pins σ H s)(le:Zi F H)(hk:∀d∈ds,IsKey k d)(r:Reps X.K F ds vs)(rv:Z2 vs its)(h2:0<its.length)(q:Q (tuples' aC) s):
  bg (b4 X.prog X.w) A (keyKind' (ik its)) Q E s:=by
 obtain⟨fs,a,b,c⟩:=Kj I le hk r rv;refine kat_kind (T:=.type (kT k)) a (by omega) c (by cases k<;> decide) ?_;cases k<;> exact q
end
end TX
namespace TX
open PySem PySem.Spec PySem.Calls PyProof.Rows L2 DL
structure KeysOk(ks:List D):Prop where
 key:∃k,∀d∈ks,IsKey k d
 ord:∃enc:D->List Nat,(∀a∈ks,∀b∈ks,Ug 16 a b=aA (decide (enc a<enc b)))/\∀i j:Nat,i<ks.length->j<ks.length->enc (ks.getD i .non)=enc (ks.getD j .non)->i=j
def Ry(ks:List D)(p:List Nat):Prop:=p.Perm (cq ks.length)/\p.Pairwise λi j=>Ug 16 (ks.getD j .non) (ks.getD i .non)=aA aD
theorem X7(h:KeysOk ks)(hp:Ry ks p)(hq:Ry ks q):p=q:=by
 obtain⟨enc,he,hd⟩:=h.ord;have get:∀i,i<ks.length->ks.getD i .non∈ks:=λi hi=>by rw[bn,av hi];exact List.getElem_mem hi
 have mp:∀i∈p,i<ks.length:=λi hi=>cu.mp (hp.1.mem_iff.mp hi);have mq:∀i∈q,i<ks.length:=λi hi=>cu.mp (hq.1.mem_iff.mp hi);refine List.Perm.eq_of_pairwise (le:=λi j=>Ug 16 (ks.getD j .non) (ks.getD i .non)=aA aD) (λa b ha hb h1 h2=>?_) hp.2 hq.2 (hp.1.trans hq.1.symm);rw[he _ (get _ (mq b hb)) _ (get _ (mp a ha))]at h1;rw[he _ (get _ (mp a ha)) _ (get _ (mq b hb))]at h2;have h1:¬enc (ks.getD b .non)<enc (ks.getD a .non):=by simpa using h1
 have h2:¬enc (ks.getD a .non)<enc (ks.getD b .non):=by simpa using h2
 exact hd a b (mp a ha) (mq b hb) (List.le_antisymm (de.mp h1) (de.mp h2))
theorem Bt(h:KeysOk ks):∃p,Ry ks p:=by
 obtain⟨enc,he,hd⟩:=h.ord;have get:∀i,i<ks.length->ks.getD i .non∈ks:=λi hi=>by rw[bn,av hi];exact List.getElem_mem hi
 refine⟨(cq ks.length).mergeSort λi j=>decide (¬enc (ks.getD j .non)<enc (ks.getD i .non)),List.mergeSort_perm _ _,?_⟩;have pw:=List.pairwise_mergeSort (le:=λi j:Nat=>decide (¬enc (ks.getD j .non)<enc (ks.getD i .non)))
  (λa b c h1 h2=>by
   simp only[decide_eq_true_eq]at*;exact de.mpr (List.le_trans (de.mp h1) (de.mp h2)))
  (λa b=>by
   simp only[Bool.or_eq_true,decide_eq_true_eq];rcases List.le_total (enc (ks.getD a .non)) (enc (ks.getD b .non))with z|z
   .exact .inl (de.mpr z)
   .exact .inr (de.mpr z)) (cq ks.length)
 refine(List.Pairwise.imp_of_mem ?_ pw);intro i j hi hj z;have hi:i<ks.length:=cu.mp ((List.mergeSort_perm _ _).mem_iff.mp hi);have hj:j<ks.length:=cu.mp ((List.mergeSort_perm _ _).mem_iff.mp hj);rw[he _ (get j hj) _ (get i hi)];simpa using z
open Classical in
noncomputable def Tn(ks xs:List D):Option SV:=
 if h:ks.length=xs.length/\xs.length<64/\KeysOk ks then aA (.ol ((Classical.choose (Bt h.2.2)).map λi=>xs.getD i .non))else aB
theorem Zi0(e:Tn ks xs=aA sv):ks.length=xs.length/\xs.length<64/\KeysOk ks/\∃p,Ry ks p/\sv= .ol (p.map λi=>xs.getD i .non):=by
 unfold Tn at e;split at e
 .rename_i h;cases e;exact⟨h.1,h.2.1,h.2.2,_,Classical.choose_spec (Bt h.2.2),rfl⟩
 .cases e
theorem Zi1(h1:ks.length=xs.length)(h2:xs.length<64)(h3:KeysOk ks):∃p,Ry ks p/\Tn ks xs=aA (.ol (p.map λi=>xs.getD i .non)):=by refine⟨_,Classical.choose_spec (Bt h3),?_⟩;unfold Tn;rw[dif_pos ⟨h1,h2,h3⟩]
@[simp]def Zws(fb:FE)(cs:List D)(d:D):Option D:=(fb (some (.fz d)::cs.map λc=>some (.fz c))).bind λp=>(frz p.1 p.2).bind λq=>some q.1
@[simp]def Zfh(fb:FE)(cs:List D):List D->Option (List D)
 | []=>aA []
 |d::ds=>(Zws fb cs d).bind λk=>(Zfh fb cs ds).bind λks=>aA (k::ks)
@[simp]def Zrx(fb:FE)(js:List Nat)(d:D)(δ:Yk):Option (RV×Yk):=match d with
 | .lst xs=>(frzAll (js.map RV.bw) δ).bind λr=>(Zfh fb r.1 xs).bind λks=>(Tn ks xs).bind λsv=>aA (.tmp sv,r.2)
 |_=>aB
@[simp]def Zwt(fa:FE)(js:List Nat)(fb:FE):FE:=λδ=>(fa δ).bind λp=>(frz p.1 p.2).bind λq=>Zrx fb js q.1 q.2
section
variable{K:ad}
theorem Reps.len2:∀{ds:List D} {vs:List V},Reps K F ds vs->ds.length=vs.length
 |_,_,.nil=>rfl
 |_,_,.cons _ t=>congrArg (· +1) (Reps.len2 t)
end
end TX
namespace TX
open PySem PySem.Spec PySem.Calls PyProof.Rows L2 DL
open PySem.W (CodeHd kla_fn kla_obj)
theorem D4{K}:∀{ks:List D} {kvs:List V},kvs.length=ks.length->(∀j kv,kvs[j]? =aA kv->Rep K F (ks.getD j .non) kv)->Reps K F ks kvs
 | [],[],_,_=>.nil
 |k::ks,v::kvs,hl,h=>.cons (h 0 v rfl) (D4 (by simpa using hl) λj kv e=>h (j+1) kv (by simpa using e))
theorem Zb6:∀{ws:List V} {its:List ah},Z2 ws its->∀{p:List Nat},(∀i∈p,i<its.length)->Z2 (p.map λi=>ws.getD i .non) (p.map λi=>its.getD i ck):=by
 intro ws its h p hp;have at':∀{ws:List V} {its:List ah},Z2 ws its->∀i,i<its.length->Zy (ws.getD i .non) (its.getD i ck):=by
  intro ws its h;induction h with
  |nil=>intro i hi;simp at hi
  |cons r t ih=>intro i hi;cases i with
   |zero=>exact r
   |succ i=>exact ih i (by simpa using hi)
 induction p with
 |nil=>exact .nil
 |cons i r ih=>exact .cons (at' h i (hp i af)) (ih λj hj=>hp j (ao _ hj))
theorem Nm{K}:∀{xs:List D} {ws:List V},Reps K F xs ws->∀i,i<xs.length->Rep K F (xs.getD i .non) (ws.getD i .non)
 |_,_,.nil,i,hi=>absurd hi (dz _)
 |_,_,.cons h t,0,_=>h
 |_,_,.cons h t,i+1,hi=>Nm t i (Nat.lt_of_succ_lt_succ hi)
theorem Kk{K}(h:Reps K F xs ws):∀{p:List Nat},(∀i∈p,i<xs.length)->Reps K F (p.map λi=>xs.getD i .non) (p.map λi=>ws.getD i .non)
 | [],_=>.nil
 |i::r,hp=>.cons (Nm h i (hp i af)) (Kk h λj hj=>hp j (ao _ hj))
noncomputable abbrev D5(enc:D->List Nat)(ks:List D)(i:Nat):strKind.toKeyOrd.α:=enc (ks.getD i .non)
theorem Zfi(hu:A.units+16<f6)(hk:∀d∈ks,IsKey kb d)(he:∀a∈ks,∀b∈ks,Ug 16 a b=aA (decide (enc a<enc b)))(hn:ks.length=n):
  Cmp X pins σ H A (λj kv H=>Rep X.K H (ks.getD j .non) kv) strKind.toKeyOrd (D5 enc ks) n:=by
 intro H2 s2 ksV kvs sm I2 rv hl hkv h2;have hlk:kvs.length=ks.length:=by have:=rv.length;omega
 have rr:=D4 hlk hkv;have get:∀i,i<ks.length->ks.getD i .non∈ks:=λi hi=>by rw[bn,av hi];exact List.getElem_mem hi
 refine⟨tuples' aC,λQ q=>Zfg I2 (Zi.refl H2) hk rr rv (by omega) q,λi j Q hi hj q=>?_⟩;obtain⟨v,a1,a2,a3⟩:=Reps.getD rr rv i (by omega);obtain⟨w,b1,b2,b3⟩:=Reps.getD rr rv j (by omega);have e1:ksV.getD i ck=ksV[i]:=by simp[bn,av (show i<ksV.length by omega)]
 have e2:ksV.getD j ck=ksV[j]:=by simp[bn,av (show j<ksV.length by omega)]
 rw[e1,e2];exact Zno I2 (Zi.refl H2) (n:=14) hu (hk _ (get i a3)) (hk _ (get j b3)) a1 a2 b1 b2 (he _ (get i a3) _ (get j b3)) q
theorem Zfj(he:∀a∈ks,∀b∈ks,Ug 16 a b=aA (decide (enc a<enc b)))(hn:ks.length=n)(hp:Pm n p)(hs:Nl (O:=strKind.toKeyOrd) (D5 enc ks) p n):Ry ks p.toList:=by
 subst hn;have pt:p.toList.Perm (cq ks.length):=Array.perm_iff_toList_perm.mp hp;have get:∀i,i<ks.length->ks.getD i .non∈ks:=λi hi=>by rw[bn,av hi];exact List.getElem_mem hi
 refine⟨pt,List.pairwise_iff_getElem.mpr λi j hi hj hij=>?_⟩;have hj':j<ks.length:=by have:=pt.length_eq;rw[List.length_range]at this;omega
 have mi:p.toList[i]<ks.length:=cu.mp (pt.mem_iff.mp (List.getElem_mem hi));have mj:p.toList[j]<ks.length:=cu.mp (pt.mem_iff.mp (List.getElem_mem hj));rw[he _ (get _ mj) _ (get _ mi)];have z:=hs i j (Nat.le_of_lt hij) hj';unfold Kp at z;have ei:p.getD i 0=p.toList[i]:=by rw[Array.getD_eq_getD_getElem?];simp at hi⊢;simp[hi]
 have ej:p.getD j 0=p.toList[j]:=by rw[Array.getD_eq_getD_getElem?];simp at hj⊢;simp[hj]
 rw[ei,ej]at z;have z:decide (enc (ks.getD p.toList[j] .non)<enc (ks.getD p.toList[i] .non))=aD:=z;rw[z]
end TX
namespace TX
open PySem PySem.Spec PySem.Calls PyProof.Rows L2 DL
open PySem.W (CodeHd tabObj)
abbrev spT(P:aj)(q:Str)(sp:Sp):Sp:=λvs H Q E=>H P=aA (.tab q)/\sp vs H Q E
structure FunC(K:ad)(x qual:Str)(st:Stmt)(f:aj)(fd:ci)(c:aj):Prop where
 ex:∃(oc:ah) (od:Option aj) (kV doc pm:ah) (an:Option aj) (ct:ah) (osl:Array (Option ah)),
  fd=PySem.W.fnOf x qual (Bl st) (Uc st) (Zx st) .none kV doc pm an (.ref c) ct/\K.lookup f=aA ⟨oc,od,.func fd,osl⟩/\PySem.W.codeIn K (.ref c) qual=aC
 kp:bu K (.ref f)=aC
end TX
namespace TX
open PySem PySem.Spec PySem.Calls PyProof.Rows L2 DL
noncomputable def leS(a b:Str):Bool:=decide (¬b.cps.toList<a.cps.toList)
def Zi2(ss:List Str):List Str:=ss.mergeSort leS
end TX
namespace L2
open PySem PySem.Spec PySem.Calls PyProof.Rows TX
def Zyy(K:ad):List V->Hp->VK->Prop:=λxs H Q=>∃l ss,xs=[.ref l]/\W5 K H l (ss.map V.str)/\ss.length<64/\∀q,H q=aB->Q (.ref q) (Z9 H q (.lst ((Zi2 ss).map V.str)))
end L2
namespace DL
open PySem PySem.Spec PySem.Calls PyProof.Rows L2 TX
@[simp]noncomputable def txs?:List D->Option (List Str)
 | []=>aA []
 | .str i::r=>(txs? r).bind λl=>aA (i::l)
 |_=>aB
def Zyz:List D->Option SV
 | [.lst xs]=>(txs? xs).bind λns=>if ns.length<64 then aA (.ol ((Zi2 ns).map D.str))else aB
 |_=>aB
@[simp]noncomputable def ltS:D->D->Option SV
 | .str a,.str b=>aA (.fz (.bl (decide (a.cps.toList<b.cps.toList))))
 |_,_=>aB
end DL
namespace TX
open PySem PySem.Spec PySem.Calls PyProof.Rows L2 DL
open PySem.W (CodeHd tabObj)
noncomputable def Z1e(names:List (Str×NameKind))(cl:List (Str×aj)):Bool:=names.all λp=>p.2 != .free|| (cl.lookup p.1).isSome
noncomputable def jsB(N:List Str)(sc lc:List (Str×NameKind)):List Nat->List Str->Bool
 |j::js,y::fs=>N[j]? ==aA y&&sc.lookup y==aA .cell&&lc.lookup y==aA .free&&jsB N sc lc js fs
 | [],[]=>aC
 |_,_=>aD
end TX
namespace DL
open PySem PySem.Spec PySem.Calls PyProof.Rows L2 TX
end DL
namespace DL
open PySem PySem.Spec PySem.Calls PyProof.Rows L2
open Classical in
@[simp]def Zy0(fa:FA):FD:=λδ=>(fa δ).bind λp=>match Oe p.1 p.2 with
 |some [.int i,.int j]=>if Mi i/\Mi j then aA (Td i (j- i).toNat,p.2)else aB
 |_=>aB
end DL
namespace TX
open PySem PySem.Spec PySem.Calls PyProof.Rows L2 DL
open PySem.W (kas_sort kas_ask kas_item kat_run kat_snds)
theorem X8{σ:L2.St}(I:Inv X pins σ H s)(hl:s.heap.IsList l its.toArray)(h64:its.length<64)(rv:Z2 kvs its)(hk:∀j kv,kvs[j]? =aA kv->KeyOk j kv H)(hc:Cmp X pins σ H X.A.in1.in1 KeyOk O key its.length)(hQ:∀p D s' c,Pm its.length p->Nl key p its.length->X.s₀.heap.get? D=aB->Inv X pins σ H s'->Jz X pins H D->s'.heap.get? D=aA (d4 "list" (ik (p.toList.map λi=>its.getD i ck)) c)->Q (.ref D) s'):
  bg (b4 X.prog X.w) X.A (call (.builtin "sorted") [.ref l]) Q E s:=by
 refine Calls.call_function_entry kind_sorted plain_sorted entry_sorted (args_sorted1 _) ?_;unfold Builtin.«sorted»;refine ac (m:=checkCount "sorted" 1 1 _) (ag ?_);refine ac (collect_list hl ?_ (by rw[fu];omega));refine ac (wpAny_newList ?_ (by rw[fu];omega));have hsz:((s.heap.push (d4 "list" #[] 0)).update s.heap.objs.size (di (· ++its.toArray))).objs.size=s.heap.objs.size+1:=by rw[Heap.size_update,size_push']
 have hoL:(((s.heap.push (d4 "list" #[] 0)).update s.heap.objs.size (di (· ++its.toArray))).push (d4 "list" its.toArray 0)).get? (s.heap.objs.size+1)=aA (d4 "list" its.toArray 0):=by rw[<-hsz];exact bp _ rfl
 have keep:∀b o,s.heap.get? b=aA o->(((s.heap.push (d4 "list" #[] 0)).update s.heap.objs.size (di (· ++its.toArray))).push (d4 "list" its.toArray 0)).get? b=aA o:=λb o q=>by have hlt:b<s.heap.objs.size:=bo q;rw[Heap.get?_push_ne _ _ _ (by rw[hsz];exact cf (Nat.lt_succ_of_lt hlt)),Heap.get?_update_ne _ _ _ _ (cf hlt),Heap.get?_push_ne _ _ _ (cf hlt)];exact q
 show bg _ _ _ _ _ {s with heap:=((s.heap.push (d4 "list" #[] 0)).update s.heap.objs.size (di (· ++its.toArray))).push (d4 "list" its.toArray 0)};rw[hsz];refine ac (gm (dr slot_list_sort ⟨_,hoL,rfl⟩ entry_list_sort ?body (args_list_sort _)))
 case body=>
  rw[list_sort_plain];have hs2:(((s.heap.push (d4 "list" #[] 0)).update s.heap.objs.size (di (· ++its.toArray))).push (d4 "list" its.toArray 0)).objs.size=s.heap.objs.size+2:=by rw[size_push',hsz]
  generalize hh:(((s.heap.push (d4 "list" #[] 0)).update s.heap.objs.size (di (· ++its.toArray))).push (d4 "list" its.toArray 0))=h1 at hoL keep hs2⊢;generalize hD:s.heap.objs.size+1=D at hoL⊢;have hDn: @Eq Nat D (s.heap.objs.size+1):=hD.symm;obtain⟨e1,ho1⟩:∃e1,(h1.update D (di λ_=>(#[]:Array ah))).get? D=aA (d4 "list" #[] e1):=⟨_,get?_update_seq hoL λ_=> #[]⟩
  refine ac (listItems_at hoL rfl ?_);refine ac (listUpdate_at hoL rfl ?_ (by rw[bq,fu];omega) (f7 _));refine ac (seqEpoch_at ho1 rfl ?_);refine ac (wpAny_newTuple ?_ (by show its.length<=_;rw[fu];omega));refine ac (wpAny_newList ?_ (f7 _));refine gm ?_;have kp:∀b o,s.heap.get? b=aA o->(((h1.update D (di λ_=>(#[]:Array ah))).push (d4 "tuple" its.toArray 0)).push (d4 "list" #[] 0)).get? b=aA o:=λb o q=>by have hlt: @LT.lt Nat _ b s.heap.objs.size:=bo q;have:=keep b o q;refine au _ (au _ ?_);rw[Heap.get?_update_ne _ _ _ _ (cf (show @LT.lt Nat _ b D by omega))];exact this
  have nD:H D=aB:=I.hok.fresh (by omega);have fD:Jz X pins H D:=I.fpOk (by omega) nD;have ho6:(((h1.update D (di λ_=>(#[]:Array ah))).push (d4 "tuple" its.toArray 0)).push (d4 "list" #[] 0)).get? D=aA (d4 "list" #[] e1):=au _ (au _ ho1);have I6:Inv X pins σ H {s with heap:=((h1.update D (di λ_=>(#[]:Array ah))).push (d4 "tuple" its.toArray 0)).push (d4 "list" #[] 0)}:=I.kept kp;show bg (b4 X.prog X.w) X.A.in1.in1 _ _ _ {s with heap:=((h1.update D (di λ_=>(#[]:Array ah))).push (d4 "tuple" its.toArray 0)).push (d4 "list" #[] 0)};have hD0:X.s₀.heap.get? D=aB:=Heap.get?_none_of_le (dk I.sz (by omega));generalize hs6:({s with heap:=((h1.update D (di λ_=>(#[]:Array ah))).push (d4 "tuple" its.toArray 0)).push (d4 "list" #[] 0)}:am)=s6 at I6⊢;have ho6:s6.heap.get? D=aA (d4 "list" #[] e1):=by rw[<-hs6];exact ho6
  have fin:∀(p:Array Nat) (out:Array ah),out=ik (p.toList.map λi=>its.getD i ck)->out.size<64->Pm its.length p->Nl key p its.length->
    Q (.ref D) {s6 with heap:=s6.heap.update D (di λ_=>out)}:=λp out ho hz z1 z2=>by
   subst ho;exact hQ p D _ _ z1 z2 hD0 (D3 (o:=d4 "list" #[] 0) (xs:= #[]) (ys:= #[]) (n:=0) I6 fD) fD (get?_update_seq ho6 λ_=>_)
  try dsimp only
  by_cases h2:its.toArray.size<2
  .rw[if_pos h2,if_pos h2];have h2':its.length<2:=by simpa using h2
   refine ac (ag ?_);rw[StateT.run_pure];refine ac (ag ?_)
   try dsimp only
   have eo:(arrOf (SortSt.mk' general' (its.toArray.zip its.toArray) #[] 7 aB)).map (·.2)=ik ((ik (cq its.length)).toList.map λi=>its.getD i ck):=by
    show(its.toArray.zip its.toArray).map (·.2)=_;apply Array.toList_inj.mp;rw[Array.toList_map,ksk_zip];simp only[List.toList_toArray];rw[List.map_snd_zip (by omega)];apply List.ext_getElem
    .simp
    .intro i a b;simp[a]
   rw[eo];refine ac (seqEpoch_at ho6 rfl ?_);refine ac (listUpdate_at ho6 rfl ?_ (f7 _) (by rw[bq,fu];simp;omega));show bg _ _ (if((e1 !=e1)=aC)then _ else _) _ _ _;simp only[bne_self_eq_false,bi,if_false];refine ag ⟨_,rfl,ag ⟨_,rfl,fin (ik (cq its.length)) _ rfl (by simp;omega) (Array.Perm.refl _) (λi j hij hj=>?_)⟩⟩;have:i=j:=by omega
   subst this;exact KeyOrd.kle_refl _
  .rw[if_neg h2,if_neg h2];have h2':2<=its.length:=Nat.le_of_not_lt (by simpa using h2);obtain⟨κ,hκ,hlt⟩:=hc H s6 its kvs (Zi.refl H) I6 rv rfl hk h2';refine ac (wpAny_mono (hκ (λκ' s'=>κ'=κ/\s'=s6) ⟨rfl,rfl⟩) (λκ' s' z=>?_) λ_ _ z=>z.elim);obtain⟨rfl,rfl⟩:=z;have g:=W6.wp (lt:=Fb O key) (n:=its.length) (R:=λq=>Pm its.length q/\Nl key q its.length) (cmp:=kas_ask X.prog X.w X.A.in1.in1 κ' its) (I:=λs''=>s''=s') (Q:=λq s''=>s''=s'/\Pm its.length q/\Nl key q its.length)
    (λi j C s'' hi hj z hC=>by subst z;exact hlt i j C hi hj (hC _ rfl)) (λq s'' z1 z2=>⟨z2,z1⟩) (Kg (key:=key) (by omega)) rfl
   refine ac (wpAny_mono (kat_run (Q:=λst s''=>∃p:Array Nat,s''=s'/\Pm its.length p/\Nl key p its.length/\arrOf st=p.map (kas_item (its.toArray.zip its.toArray))/\failedOf st=aB) rfl h2' h64
    (λp st s'' _ a1 a2 z=>⟨p,z.1,z.2.1,z.2.2,a1,a2⟩) g) (λr s'' z=>?_) λ_ _ z=>z)
   obtain⟨⟨⟩,st⟩:=r;obtain⟨p,rfl,z1,z2,z3,z4⟩:=z
   try dsimp only
   rw[kat_snds rfl z3];refine ac (seqEpoch_at ho6 rfl ?_);refine ac (listUpdate_at ho6 rfl ?_ (f7 _) (by rw[bq,aq,ay,z1.size,fu];omega));rw[z4];simp only[bne_self_eq_false,bi,if_false];exact ag ⟨_,rfl,ag ⟨_,rfl,fin p _ rfl (by rw[bq,aq,ay,z1.size];exact h64) z1 z2⟩⟩
end TX
namespace L2
open PySem PySem.Spec PySem.Calls PyProof.Rows DL TX
def Zk9(K:ad):List V->Hp->VK->Prop:=λvs H Q=>∃l F ds ws p,vs=[.ref l]/\Zi F H/\W5 K H l ws/\Reps K F ds ws/\KeysOk ds/\Ry ds p/\ws.length<64/\∀q,H q=aB->Q (.ref q) (Z9 H q (.lst (p.map λi=>ws.getD i .non)))
theorem Zb7(hu:X.A.units+64<f6):Jo X (.builtin "sorted") (Zk9 X.K):=by
 intro pins s σ H xs us Q I r h;obtain⟨l,F,ds,ws,p0,rfl,le,hl,rr,ko,hp0,hz,q⟩:=h;obtain⟨u,rfl,ru⟩:=Oc r;cases ru;obtain⟨its,rvi,⟨o,n,ho,hcl,_,hd⟩,_⟩:=I.list hl;have hlen:ds.length=its.length:=TX.Reps.lenV rr rvi;have wlen:ws.length=its.length:=rvi.length;obtain⟨enc,he,hdis⟩:=id ko.ord;obtain⟨kb,hkb⟩:=id ko.key;have hu2:X.A.in1.in1.units+16<cLine:=by show X.A.units+1+1+16<f6;omega
 refine X8 (KeyOk:=λj kv H=>Rep X.K H (ds.getD j .non) kv) (O:=strKind.toKeyOrd) (key:=D5 enc ds) I ⟨o,ho,hcl,n,hd⟩ (by omega) rvi (λj kv e=>?_) (Zfi hu2 hkb he hlen) ?hQ
 .have hj:j<ws.length:=(a8.mp e).1;have h1:=Nm rr j (by omega);have:ws.getD j .non=kv:=by rw[bn,e];rfl
  rw[this]at h1;exact h1.mono le
 case hQ=>
  intro p D s3 cc hp hs hD0 I3 fD gD;have ep:p.toList=p0:=X7 ko (Zfj he hlen hp hs) hp0;rw[ep]at gD;have bnd:∀i∈p0,i<its.length:=λi hi=>by have:=cu.mp (hp0.1.mem_iff.mp hi);omega
  have new:Yj X.prog X.w (Z9 H D (.lst (p0.map λi=>ws.getD i .non))) s3.heap D (.lst (p0.map λi=>ws.getD i .non)):=by refine⟨?_,p0.map λi=>its.getD i ck,cc,Zb6 rvi bnd,gD⟩;have:=hp0.1.length_eq;rw[List.length_range]at this;rw[aq,this,fu];omega
  exact⟨.ref D,_,Inv.trackO I3 hD0 fD.1 fD.2.1 fD.2.2.2.2.1 fD.2.2.2.2.2 new,rfl,q D fD.1⟩
end L2
namespace DL
open PySem PySem.Spec PySem.Calls PyProof.Rows L2 TX
variable{K:ad}
def Cm:List D->Option SV
 | [.lst xs]=>Tn xs xs
 |_=>aB
section
variable{Z:Ent K}{H:Hp}{σ:L2.St}{Q:VK}
theorem Znp:Us Z (Zk9 K) Cm:=by
 intro F H σ δ own vs ds sv Q s r e k;unfold Cm at e;split at e
 .rename_i xs;obtain⟨_,hz,ko,p,hp,rfl⟩:=Zi0 e;cases r with
  |cons h t=>cases t;obtain⟨a,us,rfl,ha,ru⟩:=h.lst s.le;have bnd:∀i∈p,i<xs.length:=λi hi=>cu.mp (hp.1.mem_iff.mp hi);exact⟨a,F,xs,us,p,rfl,s.le,ha,ru,ko,hp,by rw[<-Reps.len2 ru];exact hz,λq hq=>k.lst s (Kk ru bnd) hq⟩
 .cases e
end
section
variable{X:Cx}{Z:Ent X.K}{a b c:cj}{fa fb fc:FE}{pos:Pos}
theorem Nn{p}(hv:X.A.units+64<f6)(hm:X.mg "sorted"=aB)(ha:PE X a (Ze Z fa))(hg:Gl X "sorted":=by rfl)(he:a9 [a] X.env=(aD,gp a X.env)::a9 [] X.env:=by rfl)(hpl:(gq pos (a9 [] X.env)).any (·.1)=aD:=by rfl):
  PE X (.Call (.Name "sorted" p) [a] [] pos) (Ze Z (Yq Cm (Zc fa Zj))):=L8 (Zb7 hv) Znp hm L2.Te (Zk ha Ya he) hg (by decide) (by decide) he hpl
end
end DL
namespace TX
open PySem PySem.Spec PySem.Calls PyProof.Rows L2 DL
@[simp]noncomputable def Znq(lt:D->D->Option Bool):Nat->D->List D->Nat->Option Nat
 |b,_,[],_=>aA b
 |b,kb,k::ks,j=>(lt k kb).bind λc=>if c=aC then Znq lt j k ks (j+1)else Znq lt b kb ks (j+1)
def MSt(X:Cx)(pins:List (aj×Obj))(σ:L2.St)(H0:Hp)(f:aj)(fo:Obj)(I S l:aj)(j:Nat)(best:Array ah)(H:Hp)(s:am):Prop:=
 Zi H0 H/\Inv X pins σ H s/\Jz X pins H I/\Jz X pins H S/\Jz X pins H f/\s.heap.IsListIter I l j/\(∃c,s.heap.get? S=aA (d4 "list" best c))/\s.heap.get? f=aA fo
def Zwu(X:Cx)(pins:List (aj×Obj))(σ:L2.St)(H:Hp)(A:dh)(f:aj)(fo:Obj)(ws:List V)(ks:List D):Prop:=
 ∀(j:Nat) (u:ah) (H1:Hp) (s1:am),j<ws.length->Zy (ws.getD j .non) u->Zi H H1->Inv X pins σ H1 s1->s1.heap.get? f=aA fo->Jz X pins H1 f->
  bg (b4 X.prog X.w) A (call (.ref f) [u]) (λk s2=>∃kv H2,Zi H1 H2/\Inv X pins σ H2 s2/\Un (frs X.stack) [] H1 H2 s1.heap s2.heap/\Zy kv k/\Rep X.K H2 (ks.getD j .non) kv) (λ_ _=>False) s1
end TX
namespace TX
open PySem PySem.Spec PySem.Calls PyProof.Rows L2 DL
open PySem.W (CodeHd kla_fn kla_obj)
@[simp]def Zwv(lt:D->D->Option Bool):List D->Option (Option Nat)
 | []=>aA aB
 |k::ks=>(Znq lt 0 k ks 1).bind λm=>aA (aA m)
end TX
namespace TX
open PySem PySem.Spec PySem.Calls PyProof.Rows L2 DL
open PySem.W (CodeHd kla_fn kla_obj)
@[simp]def Zww(fb:FE)(js:List Nat)(d:D)(δ:Yk):Option (RV×Yk):=match d with
 | .lst xs=>(frzAll (js.map RV.bw) δ).bind λr=>(Zfh fb r.1 xs).bind λks=>(Zwv (Ug 16) ks).bind λm=>aA (.tmp (.fz ((m.map λi=>xs.getD i .non).getD .non)),r.2)
 |_=>aB
@[simp]def Zy1(fa:FE)(js:List Nat)(fb:FE):FE:=λδ=>(fa δ).bind λp=>(frz p.1 p.2).bind λq=>Zww fb js q.1 q.2
end TX
namespace DL
open PySem PySem.Spec PySem.Calls PyProof.Rows L2 TX
end DL
namespace TX
open PySem PySem.Spec PySem.Calls PyProof.Rows L2 DL
end TX
namespace TX
open PySem PySem.Spec PySem.Calls PyProof.Rows L2 DL
open PySem.W (kas_sort kas_ask kas_item kat_run kat_snds)
theorem Zb8{σ:L2.St}{Q:ah->am->Prop}(I:Inv X pins σ H s)(h64:its.length<64)(rv:Z2 kvs its)(hk:∀j kv,kvs[j]? =aA kv->KeyOk j kv H)(hc:Cmp X pins σ H X.A.in1.in1 KeyOk O key its.length)(hQ:∀p D s' c,Pm its.length p->Nl key p its.length->X.s₀.heap.get? D=aB->Inv X pins σ H s'->Jz X pins H D->s'.heap.get? D=aA (d4 "list" (ik (p.toList.map λi=>its.getD i ck)) c)->Q (.ref D) s'):
  bg (b4 X.prog X.w) X.A.in1 (do
   let l<-newList its;let _<-holding [l] (call (.builtin "list.sort") [l] [])
   ret l) (λfin s'=>∃v,fin= .done (.ret v)/\Q v s') E s:=by
 refine ac (wpAny_newList ?_ (by rw[fu];omega));have hoL:(s.heap.push (d4 "list" its.toArray 0)).get? s.heap.objs.size=aA (d4 "list" its.toArray 0):=bp _ rfl;have keep:∀b o,s.heap.get? b=aA o->(s.heap.push (d4 "list" its.toArray 0)).get? b=aA o:=λb o q=>au _ q;refine ac (gm (dr (s:={s with heap:=s.heap.push (d4 "list" its.toArray 0)}) slot_list_sort ⟨_,hoL,rfl⟩ entry_list_sort ?body (args_list_sort _)))
 case body=>
  rw[list_sort_plain];have hs2:(s.heap.push (d4 "list" its.toArray 0)).objs.size=s.heap.objs.size+1:=size_push' ..;generalize hh:(s.heap.push (d4 "list" its.toArray 0))=h1 at hoL keep hs2⊢;generalize hD:s.heap.objs.size=D at hoL⊢;have hDn: @Eq Nat D s.heap.objs.size:=hD.symm;obtain⟨e1,ho1⟩:∃e1,(h1.update D (di λ_=>(#[]:Array ah))).get? D=aA (d4 "list" #[] e1):=⟨_,get?_update_seq hoL λ_=> #[]⟩
  refine ac (listItems_at hoL rfl ?_);refine ac (listUpdate_at hoL rfl ?_ (by rw[bq,fu];omega) (f7 _));refine ac (seqEpoch_at ho1 rfl ?_);refine ac (wpAny_newTuple ?_ (by show its.length<=_;rw[fu];omega));refine ac (wpAny_newList ?_ (f7 _));refine gm ?_;have kp:∀b o,s.heap.get? b=aA o->(((h1.update D (di λ_=>(#[]:Array ah))).push (d4 "tuple" its.toArray 0)).push (d4 "list" #[] 0)).get? b=aA o:=λb o q=>by have hlt: @LT.lt Nat _ b s.heap.objs.size:=bo q;have:=keep b o q;refine au _ (au _ ?_);rw[Heap.get?_update_ne _ _ _ _ (cf (show @LT.lt Nat _ b D by omega))];exact this
  have nD:H D=aB:=I.hok.fresh (by omega);have fD:Jz X pins H D:=I.fpOk (by omega) nD;have ho6:(((h1.update D (di λ_=>(#[]:Array ah))).push (d4 "tuple" its.toArray 0)).push (d4 "list" #[] 0)).get? D=aA (d4 "list" #[] e1):=au _ (au _ ho1);have I6:Inv X pins σ H {s with heap:=((h1.update D (di λ_=>(#[]:Array ah))).push (d4 "tuple" its.toArray 0)).push (d4 "list" #[] 0)}:=I.kept kp;show bg (b4 X.prog X.w) X.A.in1.in1 _ _ _ {s with heap:=((h1.update D (di λ_=>(#[]:Array ah))).push (d4 "tuple" its.toArray 0)).push (d4 "list" #[] 0)};have hD0:X.s₀.heap.get? D=aB:=Heap.get?_none_of_le (dk I.sz (by omega));generalize hs6:({s with heap:=((h1.update D (di λ_=>(#[]:Array ah))).push (d4 "tuple" its.toArray 0)).push (d4 "list" #[] 0)}:am)=s6 at I6⊢;have ho6:s6.heap.get? D=aA (d4 "list" #[] e1):=by rw[<-hs6];exact ho6
  have fin:∀(p:Array Nat) (out:Array ah),out=ik (p.toList.map λi=>its.getD i ck)->out.size<64->Pm its.length p->Nl key p its.length->
    Q (.ref D) {s6 with heap:=s6.heap.update D (di λ_=>out)}:=λp out ho hz z1 z2=>by
   subst ho;exact hQ p D _ _ z1 z2 hD0 (D3 (o:=d4 "list" #[] 0) (xs:= #[]) (ys:= #[]) (n:=0) I6 fD) fD (get?_update_seq ho6 λ_=>_)
  try dsimp only
  by_cases h2:its.toArray.size<2
  .rw[if_pos h2,if_pos h2];have h2':its.length<2:=by simpa using h2
   refine ac (ag ?_);rw[StateT.run_pure];refine ac (ag ?_)
   try dsimp only
   have eo:(arrOf (SortSt.mk' general' (its.toArray.zip its.toArray) #[] 7 aB)).map (·.2)=ik ((ik (cq its.length)).toList.map λi=>its.getD i ck):=by
    show(its.toArray.zip its.toArray).map (·.2)=_;apply Array.toList_inj.mp;rw[Array.toList_map,ksk_zip];simp only[List.toList_toArray];rw[List.map_snd_zip (by omega)];apply List.ext_getElem
    .simp
    .intro i a b;simp[a]
   rw[eo];refine ac (seqEpoch_at ho6 rfl ?_);refine ac (listUpdate_at ho6 rfl ?_ (f7 _) (by rw[bq,fu];simp;omega));show bg _ _ (if((e1 !=e1)=aC)then _ else _) _ _ _;simp only[bne_self_eq_false,bi,if_false];refine ag ⟨_,rfl,ag ⟨_,rfl,fin (ik (cq its.length)) _ rfl (by simp;omega) (Array.Perm.refl _) (λi j hij hj=>?_)⟩⟩;have:i=j:=by omega
   subst this;exact KeyOrd.kle_refl _
  .rw[if_neg h2,if_neg h2];have h2':2<=its.length:=Nat.le_of_not_lt (by simpa using h2);obtain⟨κ,hκ,hlt⟩:=hc H s6 its kvs (Zi.refl H) I6 rv rfl hk h2';refine ac (wpAny_mono (hκ (λκ' s'=>κ'=κ/\s'=s6) ⟨rfl,rfl⟩) (λκ' s' z=>?_) λ_ _ z=>z.elim);obtain⟨rfl,rfl⟩:=z;have g:=W6.wp (lt:=Fb O key) (n:=its.length) (R:=λq=>Pm its.length q/\Nl key q its.length) (cmp:=kas_ask X.prog X.w X.A.in1.in1 κ' its) (I:=λs''=>s''=s') (Q:=λq s''=>s''=s'/\Pm its.length q/\Nl key q its.length)
    (λi j C s'' hi hj z hC=>by subst z;exact hlt i j C hi hj (hC _ rfl)) (λq s'' z1 z2=>⟨z2,z1⟩) (Kg (key:=key) (by omega)) rfl
   refine ac (wpAny_mono (kat_run (Q:=λst s''=>∃p:Array Nat,s''=s'/\Pm its.length p/\Nl key p its.length/\arrOf st=p.map (kas_item (its.toArray.zip its.toArray))/\failedOf st=aB) rfl h2' h64
    (λp st s'' _ a1 a2 z=>⟨p,z.1,z.2.1,z.2.2,a1,a2⟩) g) (λr s'' z=>?_) λ_ _ z=>z)
   obtain⟨⟨⟩,st⟩:=r;obtain⟨p,rfl,z1,z2,z3,z4⟩:=z
   try dsimp only
   rw[kat_snds rfl z3];refine ac (seqEpoch_at ho6 rfl ?_);refine ac (listUpdate_at ho6 rfl ?_ (f7 _) (by rw[bq,aq,ay,z1.size,fu];omega));rw[z4];simp only[bne_self_eq_false,bi,if_false];exact ag ⟨_,rfl,ag ⟨_,rfl,fin p _ rfl (by rw[bq,aq,ay,z1.size];exact h64) z1 z2⟩⟩
end TX
namespace L2
open PySem PySem.Spec PySem.Calls PyProof.Rows DL TX
def Zy2(K:ad):List V->Hp->VK->Prop:=λvs H Q=>∃a kvs ep bs F ds p,vs=[.ref a]/\Zi F H/\H a=aA (.dT kvs ep bs)/\Reps K F ds (bs.map V.ref)/\KeysOk ds/\Ry ds p/\bs.length<64/\∀q,H q=aB->Q (.ref q) (Z9 H q (.lst (p.map λi=>(bs.map V.ref).getD i .non)))
end L2
namespace DL
open PySem PySem.Spec PySem.Calls PyProof.Rows L2 TX
abbrev Zla(k:List Key):D:=.tup (k.map Rw)
def Zy3:List D->Option SV
 | [.dT ks _]=>Tn (ks.map Zla) (ks.map Zla)
 |_=>aB
end DL
namespace L2
open PySem PySem.Spec PyProof.Rows
def Zry(K:ad)(n:Nat)(t:TGs):TG:=λv σ H Q=>∃a xs,v= .ref a/\W5 K H a xs/\xs.length=n/\t xs σ H Q
theorem Znr{pos:Pos}{k}(hc:X.calm=aC)(h:PGs X es t)(hn:(assignEach es X.env).length=n:=by rfl)(hst:(assignEach es X.env).findIdx? (·.1)=aB:=by rfl):PG X (.Tuple es k pos) (Zry X.K n t):=by
 intro pins s σ H v u Q I r hw;obtain⟨a,xs,e1,hq,hl,hw⟩:=hw;subst e1;cases r;obtain⟨its,rv,pl,hz⟩:=I.list hq;rw[assign_Tuple];refine ac (wpAny_standAt ?_);unfold unpack;rw[hst,show(assignEach es X.env).length=its.toArray.size by simp[hn,<-hl,rv.length]];refine ac (gm (PySem.W.kun_itemsOf (I.ok.hd hc) pl.isList λh' hx=>?_));have I1:Inv X pins σ H {s with heap:=h'}:=I.kept (t':=s.toks) λb o e=>hx b o (cf (bo e)) e;exact h pins _ σ H xs _ Q I1 (by simpa using rv) hw
end L2
namespace DL
open PySem PySem.Spec PyProof.Rows L2
variable{K:ad}{Z:Ent K}
noncomputable def Sw(n:Nat)(g:FGs):FG:=⟨λd δ=>match d with
 | .lst xs=>if xs.length=n then g.run xs δ else aB
 |_=>aB,g.tch⟩
@[simp]theorem Zrz(n g xs δ):(Sw n g).run (.lst xs) δ=if xs.length=n then g.run xs δ else none:=rfl
theorem Zns(h:Of Z (Sw n g) v σ H Q):Zry K n (Op Z g) v σ H Q:=by
 obtain⟨F,δ,own,d,δ',s,r,e,k⟩:=h;dsimp only[Sw]at e;split at e
 .rename_i xs;by_cases hn:xs.length=n
  .rw[if_pos hn]at e;cases r with
   |lst h _ r=>exact⟨_,_,rfl,Wb s.le h,by rw[<-r.length];exact hn,F,δ,own,_,δ',s,r,e,k⟩
  .rw[if_neg hn]at e;cases e
 .cases e
variable{X:Cx}{Z:Ent X.K}{pos:Pos}
theorem Zr0{k:Nat}(hc:X.calm=aC)(h:PGs X es (Op Z g))(hn:(assignEach es X.env).length=n:=by rfl)(hst:(assignEach es X.env).findIdx? (·.1)=aB:=by rfl):PG X (.Tuple es k pos) (Of Z (Sw n g)):=(Znr hc h hn hst).imp λ_ _ _ _ h=>Zns h
end DL
namespace TT
open PySem PySem.SetTable SX
noncomputable def X9(m:Nat)(p:Probe):Probe:=
 if p.more > 0 then{p with j:=p.j+1,more:=p.more- 1}else
 {p with j:=(leap m p.i p.perturb).1,more:=runEnd m (leap m p.i p.perturb).1- (leap m p.i p.perturb).1,i:=(leap m p.i p.perturb).1,perturb:=(leap m p.i p.perturb).2}
theorem Znt(t:g7)(p:Probe):t.advance p=X9 t.mask p:=rfl
def Wr(m:Nat):Nat->Probe->Probe
 |0,p=>p
 |n+1,p=>Wr m n (X9 m p)
theorem Qv(m):∀a b p,Wr m (a+b) p=Wr m b (Wr m a p)
 |0,b,p=>by rw[Nat.zero_add];rfl
 |a+1,b,p=>by rw[Nat.add_right_comm];exact Qv m a b (X9 m p)
noncomputable def Rz(m i q:Nat):Probe:={j:=i,more:=runEnd m i- i,i:=i,perturb:=q,dummy:=aB}
theorem D6(m)(p:Probe):(X9 m p).dummy=p.dummy:=by unfold X9;split<;> rfl
theorem Sx(m):∀n p,(Wr m n p).dummy=p.dummy
 |0,_=>rfl
 |n+1,p=>(Sx m n (X9 m p)).trans (D6 m p)
theorem Znu(m i):runEnd m i- i<=9:=by unfold runEnd;split<;> omega
theorem Zfk(h:i<=m):runEnd m i<=m:=by unfold runEnd;split<;> omega
theorem Np(m i):i<=runEnd m i:=by unfold runEnd;split<;> omega
theorem Up:∀{k:Nat},k<=runEnd m i- i->Wr m k (Rz m i q)={j:=i+k,more:=runEnd m i- i- k,i:=i,perturb:=q,dummy:=aB}
 |0,_=>rfl
 |k+1,h=>by rw[Qv m k 1,Up (by omega)];show X9 m _=_;unfold X9;rw[if_pos (by show runEnd m i- i- k > 0;omega)];rfl
theorem Bu(m i q):Wr m (runEnd m i- i+1) (Rz m i q)=Rz m (leap m i q).1 (leap m i q).2:=by rw[Qv m _ 1,Up (ba _)];show X9 m _=_;unfold X9;rw[if_neg (by show¬runEnd m i- i- (runEnd m i- i) > 0;omega)];rfl
noncomputable def Ub(m:Nat):Nat->Nat×Nat->Nat×Nat
 |0,x=>x
 |n+1,x=>Ub m n (leap m x.1 x.2)
theorem Kl(m):∀a b x,Ub m (a+b) x=Ub m b (Ub m a x)
 |0,b,x=>by rw[Nat.zero_add];rfl
 |a+1,b,x=>by rw[Nat.add_right_comm];exact Kl m a b _
theorem Sy:∀n x,x.1<=m->(Ub m n x).1<=m
 |0,_,h=>h
 |n+1,x,_=>Sy n _ (Nat.le_of_lt_succ (Nat.mod_lt (x.1*5+1+x.2 / 32) (Nat.succ_pos m)))
theorem Km(m):∀n x,(Ub m n x).2=x.2 / 32^n
 |0,x=>by simp[Ub]
 |n+1,x=>by show(Ub m n (leap m x.1 x.2)).2=_;rw[Km m n];show x.2 / 32 / 32^n=_;rw[Nat.div_div_eq_div_mul,Nat.pow_succ,Nat.mul_comm]
noncomputable def orb(m:Nat):Nat->Nat->Nat
 |0,_=>0
 |n+1,i=>(1<<<i)|||orb m n ((i*5+1) % (m+1))
theorem D7:∀n i j,(orb m n i).testBit j=aC->∃c,c<n/\(Ub m c (i,0)).1=j
 |0,i,j,h=>by simp[orb]at h
 |n+1,i,j,h=>by
  unfold orb at h;rw[Nat.testBit_or,Bool.or_eq_true]at h;rcases h with h|h
  .refine⟨0,by omega,?_⟩;rw[Nat.one_shiftLeft,Nat.testBit_two_pow]at h;show i=j;exact of_decide_eq_true h
  .obtain⟨c,hc,e⟩:=D7 n _ j h;refine⟨c+1,by omega,?_⟩;show(Ub m c (leap m i 0)).1=j;have:leap m i 0=((i*5+1) % (m+1),0):=by simp[leap]
   rw[this];exact e
def Msk(m:Nat):Prop:=m=7\/m=31\/m=127
theorem Zi3(h:Msk m):(cq (m+1)).all (λi=>orb m (m+1) i==2^(m+1)- 1)=aC:=by rcases h with rfl|rfl|rfl<;> decide+kernel
theorem Zlc(h:Msk m)(hi:i<=m)(hq:q<2^64)(hj:j<=m):∃c,c<m+15/\(Ub m c (i,q)).1=j:=by
 have h13:(Ub m 13 (i,q)).2=0:=by rw[Km];exact Nat.div_eq_of_lt (c8 hq (by decide))
 have hle:=Sy (m:=m) 13 (i,q) hi;generalize hx:Ub m 13 (i,q)=x at h13 hle;obtain⟨a,b⟩:=x;simp only at h13 hle;subst h13;have ho:=List.all_eq_true.mp (Zi3 h) a (cu.mpr (by omega));have ho:orb m (m+1) a=2^(m+1)- 1:=by simpa using ho
 obtain⟨c,hc,e⟩:=D7 (m+1) a j (by rw[ho,Nat.testBit_two_pow_sub_one];simpa using by omega);exact⟨13+c,by omega,by rw[Kl,hx];exact e⟩
theorem Zfl(m):∀c i q,∃n,n<=10*c/\Wr m n (Rz m i q)=Rz m (Ub m c (i,q)).1 (Ub m c (i,q)).2
 |0,i,q=>⟨0,by omega,rfl⟩
 |c+1,i,q=>by obtain⟨n,hn,e⟩:=Zfl m c (leap m i q).1 (leap m i q).2;refine⟨runEnd m i- i+1+n,by have:=Znu m i;omega,?_⟩;rw[Qv,Bu,e];rfl
abbrev Ja(m:Nat)(h:Int):Probe:=Rz m (bits h % (m+1)) (bits h)
theorem Zr1(t:g7)(h):t.probeStart h=Ja t.mask h:=rfl
theorem D8(h):bits h<2^64:=by unfold bits;have h1:=d8 h (show(0:Int)<2^64 by decide);have h2:=f9 h (show(2^64:Int)≠0 by decide);omega
theorem Zr2(hm:Msk m)(h)(hj:j<=m):∃n,n<10*turns m/\(Wr m n (Ja m h)).j=j:=by obtain⟨c,hc,e⟩:=Zlc (q:=bits h) hm (Nat.le_of_lt_succ (Nat.mod_lt (bits h) (Nat.succ_pos m))) (D8 h) hj;obtain⟨n,hn,e2⟩:=Zfl m c (bits h % (m+1)) (bits h);exact⟨n,by unfold turns;omega,by rw[e2];exact e⟩
abbrev sq(m:Nat)(h:Int)(n:Nat):Nat:=(Wr m n (Ja m h)).j
theorem D9:∀n p,p.i<=m->p.j+p.more<=m->(Wr m n p).j<=m
 |0,p,_,h=>by show p.j<=m;omega
 |n+1,p,hi,h=>by
  refine D9 n (X9 m p) ?_ ?_
  .unfold X9;split
   .exact hi
   .exact Nat.le_of_lt_succ (Nat.mod_lt (p.i*5+1+p.perturb / 32) (Nat.succ_pos m))
  .unfold X9;split
   .show p.j+1+(p.more- 1)<=m;omega
   .have hl:(leap m p.i p.perturb).1<=m:=Nat.le_of_lt_succ (Nat.mod_lt (p.i*5+1+p.perturb / 32) (Nat.succ_pos m));have:=Zfk hl;have:=Np m (leap m p.i p.perturb).1;show(leap m p.i p.perturb).1+(runEnd m (leap m p.i p.perturb).1- (leap m p.i p.perturb).1)<=m;omega
theorem Zfm(m h n):sq m h n<=m:=by have h1:bits h % (m+1)<=m:=Nat.le_of_lt_succ (Nat.mod_lt _ (Nat.succ_pos m));refine D9 n _ h1 ?_;have:=Zfk h1;have:=Np m (bits h % (m+1));show bits h % (m+1)+(runEnd m (bits h % (m+1))- bits h % (m+1))<=m;omega
theorem Mx{t:g7}(hr:G4 t.place.toList)(h:t.place[i]? =aA j):t.slot j= .live i:=by
 have hi:i<t.place.size:=(gk.mp h).1;have a:At t.place j i:=by
  refine⟨by omega,λk y hk e=>Bq hr e h hk,λk y hk e=>?_⟩;rcases Nat.lt_or_eq_of_le hk with z|z
  .exact Nat.le_of_lt (Bq hr h e z)
  .subst z;rw[h]at e;cases e;exact ba _
 have e:=Dz (A8 hr j) a;unfold SetTable.slot;dsimp only;rw[e,h,if_pos (by simp)]
theorem Nq{t:g7}(h:t.slot j= .live i):t.place[i]? =aA j:=by
 unfold SetTable.slot at h;dsimp only at h;split at h
 .rename_i e;cases h;simpa using e
 .split at h<;> cases h
theorem Zaa{t:g7}(hr:G4 t.place.toList)(h:t.slot j= .empty):j∉t.place.toList:=λz=>by
 obtain⟨i,hi,e⟩:=eh z;have:t.place[i]? =aA j:=by rw[<-c9,a8];exact⟨hi,e⟩
 rw[Mx hr this]at h;cases h
theorem Ee{t:g7}(hd:t.dummies= #[])(j):t.slot j= .empty\/∃i,t.slot j= .live i:=by
 unfold SetTable.slot;dsimp only;split
 .exact .inr ⟨_,rfl⟩
 .rw[hd,D0];exact .inl (by simp)
theorem Ef{t:g7}(hd:t.dummies= #[])(h:j∉t.place.toList):t.slot j= .empty:=by
 rcases Ee hd j with z|⟨i,z⟩
 .exact z
 .have:=Nq z;rw[<-c9]at this;exact absurd (b5 this) h
theorem Zab(hd:t.dummies= #[])(f h):∀fuel p,p.dummy=aB->(∃n,n<fuel/\t.slot (Wr t.mask n p).j= .empty)->
  (∃n,n<fuel/\SetTable.probe.go t f h fuel p=aA (.empty (Wr t.mask n p).j aB)/\t.slot (Wr t.mask n p).j= .empty/\∀k,k<n->∃i,t.slot (Wr t.mask k p).j= .live i/\f i≠h)\/
  (∃n i,n<fuel/\SetTable.probe.go t f h fuel p=aA (.candidate (Wr t.mask n p).j i (Wr t.mask (n+1) p))/\t.slot (Wr t.mask n p).j= .live i/\f i=h/\∀k,k<n->∃i,t.slot (Wr t.mask k p).j= .live i/\f i≠h)
 |0,p,_,⟨n,hn,_⟩=>absurd hn (dz _)
 |fuel+1,p,hp,⟨n,hn,he⟩=>by
  unfold SetTable.probe.go;rcases Ee hd p.j with hs|⟨i,hs⟩
  .refine .inl ⟨0,by omega,?_,hs,λk hk=>absurd hk (dz _)⟩;rw[hs];show aA (Met.empty p.j p.dummy)=_;rw[hp];rfl
  .rw[hs];dsimp only;by_cases hf:f i=h
   .refine .inr ⟨0,i,by omega,?_,hs,hf,λk hk=>absurd hk (dz _)⟩;rw[if_pos (by simpa using hf)];rfl
   .rw[if_neg (by simpa using hf),Znt];cases n with
    |zero=>have he:t.slot p.j= .empty:=he;rw[hs]at he;cases he
    |succ n=>
     have first:∀n,(∀k,k<n->∃i,t.slot (Wr t.mask k (X9 t.mask p)).j= .live i/\f i≠h)->∀k,k<n+1->∃i,t.slot (Wr t.mask k p).j= .live i/\f i≠h:=λn a k hk=>by
      cases k with
      |zero=>exact⟨i,hs,hf⟩
      |succ k=>exact a k (by omega)
     rcases Zab hd f h fuel (X9 t.mask p) ((D6 _ _).trans hp) ⟨n,by omega,he⟩with⟨n',h1,h2,h3,h4⟩|⟨n',i',h1,h2,h3,h4,h5⟩
     .exact .inl ⟨n'+1,by omega,h2,h3,first n' h4⟩
     .exact .inr ⟨n'+1,i',by omega,h2,h3,h4,first n' h5⟩
def Lk(m:Nat)(pl:List Nat)(h:Int)(j:Nat):Prop:=∃n,sq m h n=j/\∀k,k<n->sq m h k∈pl
theorem Lk.mono(hs:∀x∈pl,x∈pl')(l:Lk m pl h j):Lk m pl' h j:=let⟨n,a,b⟩:=l;⟨n,a,λk hk=>hs _ (b k hk)⟩
structure Tb(t:g7)(hs:List Int):Prop where
 dum:t.dummies= #[]
 msk:Msk t.mask
 rise:G4 t.place.toList
 le:∀j∈t.place.toList,j<=t.mask
 len:t.place.toList.length=hs.length
 room:hs.length<=t.mask
 look:∀e∈hs.zip t.place.toList,Lk t.mask t.place.toList e.1 e.2
theorem Tb.fits(b:Tb t hs)(hn:n=hs.length):t.fits n=aC:=by
 have h1:=b.len;have h2:=b.room;have h3:t.place.size=hs.length:=by rw[<-h1,ay]
 unfold SetTable.fits SetTable.fill;rw[b.dum,h3,hn];simp;omega
theorem Tb.gave(b:Tb t hs):t.gaveWay=aD:=by unfold SetTable.gaveWay;rcases b.msk with e|e|e<;> rw[e]<;> rfl
theorem G6(h:G4 l):l.Nodup:=h.imp λz=>cf z
theorem Zac{pl:List Nat}(nd:pl.Nodup)(hl:pl.length<=m):∃j,j<=m/\j∉pl:=by apply Classical.byContradiction;intro hn;have all:∀j,j<=m->j∈pl:=λj hj=>Classical.byContradiction λz=>hn ⟨j,hj,z⟩;have:(cq (m+1)).length<=pl.length:=da List.nodup_range λj hj=>all j (by have:=cu.mp hj;omega);rw[List.length_range]at this;omega
theorem Tb.empty(b:Tb t hs)(h):∃n,n<10*turns t.mask/\t.slot (sq t.mask h n)= .empty:=by obtain⟨j,hj,hn⟩:=Zac (G6 b.rise) (by rw[b.len];exact b.room);obtain⟨n,h1,h2⟩:=Zr2 b.msk h hj;exact⟨n,h1,by show t.slot (Wr t.mask n (Ja t.mask h)).j= .empty;rw[h2];exact Ef b.dum hn⟩
theorem Tb.fresh(f m l):Tb (SetTable.fresh f m l) []:=⟨rfl,.inl rfl,List.Pairwise.nil,(λ_ z=>nomatch z),rfl,f7 _,(λ_ z=>nomatch z)⟩
theorem Zi4{α β:Type}(p){as:List α}{bs}(h:as.length=bs.length)(a)(b:β):(as.take p++a::as.drop p).zip (bs.take p++b::bs.drop p)=(as.zip bs).take p++(a,b)::(as.zip bs).drop p:=by rw[List.zip_append (by simp[h]),List.zip_cons_cons];simp only[List.zip_eq_zipWith,List.take_zipWith,List.drop_zipWith]
theorem Tb.put(b:Tb t hs)(h)(he:t.slot (sq t.mask h n)= .empty)(hb:∀k,k<n->t.slot (sq t.mask h k)≠.empty)(hr:hs.length+1<=t.mask):
  Tb (t.put (sq t.mask h n)).1 (hs.take (below t.place (sq t.mask h n))++h::hs.drop (below t.place (sq t.mask h n))):=by
 have hn:t.place[SetTable.below t.place (sq t.mask h n)]?≠aA (sq t.mask h n):=λz=>by rw[Mx b.rise z]at he;cases he
 have hni:=Zaa b.rise he;have hbm:∀k,k<n->sq t.mask h k∈t.place.toList:=λk hk=>Classical.byContradiction λz=>hb k hk (Ef b.dum z);have hjle:=Zfm t.mask h n;have hlk:Lk t.mask t.place.toList h (sq t.mask h n):=⟨n,rfl,hbm⟩
 generalize sq t.mask h n=j at*;have hpl:(t.put j).1.place.toList=t.place.toList.take (below t.place j)++j::t.place.toList.drop (below t.place j):=SetTable.toList_insertAt _ _ _;have hsub:∀x∈t.place.toList,x∈(t.put j).1.place.toList:=λx hx=>by
  rw[hpl];rw[<-List.take_append_drop (below t.place j) t.place.toList]at hx;rcases bz.mp hx with z|z
  .exact bj _ z
  .exact bh _ (ao _ z)
 have hm:(t.put j).1.mask=t.mask:=rfl;refine⟨?_,by rw[hm];exact b.msk,Zfa b.rise hn,λx hx=>?_,?_,?_,λe he'=>?_⟩
 .show(if has t.dummies j then _ else t.dummies)= #[];rw[b.dum,D0];rfl
 .rw[hm];rw[hpl]at hx;rcases bz.mp hx with z|z
  .exact b.le x (List.mem_of_mem_take z)
  .rcases bx.mp z with z|z
   .rw[z];exact hjle
   .exact b.le x (List.mem_of_mem_drop z)
 .rw[hpl];have:=b.len;simp only[aw,gv,bf,List.length_drop];omega
 .rw[hm];simp only[aw,gv,bf,List.length_drop];omega
 .rw[hpl,Zi4 _ b.len.symm]at he';rw[hm];rcases bz.mp he' with z|z
  .exact(b.look e (List.mem_of_mem_take z)).mono hsub
  .rcases bx.mp z with z|z
   .rw[z];exact hlk.mono hsub
   .exact(b.look e (List.mem_of_mem_drop z)).mono hsub
theorem Tb.plainOff(b:Tb t hs):Tb {t with plain:=aD} hs:=⟨b.dum,b.msk,b.rise,b.le,b.len,b.room,b.look⟩
end TT
namespace TT
open PySem PySem.SetTable SX
def Ow(owner:Array (Option Nat))(j:Nat):Prop:=(owner.getD j (aA 0)).isNone=aD
theorem Ko:∀fuel i q,(∃c,c<fuel/\¬Ow owner (Ub m c (i,q)).1)->
  ∃n,layClean.free m owner fuel i q=aA (Wr m n (Rz m i q)).j/\¬Ow owner (Wr m n (Rz m i q)).j/\∀k,k<n->Ow owner (Wr m k (Rz m i q)).j
 |0,i,q,⟨c,hc,_⟩=>absurd hc (dz _)
 |fuel+1,i,q,⟨c,hc,hn⟩=>by
  unfold layClean.free;cases hf:(cq (runEnd m i+1- i)).find? λk=>(owner.getD (i+k) (aA 0)).isNone with
  |some k=>
   have hk:=List.find?_range_eq_some.mp hf;have hr:=Np m i;have hkl:k<=runEnd m i- i:=by have:=cu.mp hk.2.1;omega
   refine⟨k,?_,?_,λk' hk'=>?_⟩
   .rw[Up hkl]
   .rw[Up hkl];intro z;unfold Ow at z;dsimp only at z;rw[hk.1]at z;cases z
   .rw[Up (by omega)];have:=hk.2.2 k' hk';unfold Ow;dsimp only;simpa using this
  |none=>
   have hall:=List.find?_eq_none.mp hf;have hr:=Np m i;have own:∀k,k<=runEnd m i- i->Ow owner (i+k):=λk hk=>by
    have:=hall k (cu.mpr (by omega));unfold Ow;cases z:(owner.getD (i+k) (aA 0)).isNone with
    |false=>rfl
    |true=>exact absurd z this
   cases c with
   |zero=>exact absurd (own 0 (f7 _)) hn
   |succ c=>
    obtain⟨n,h1,h2,h3⟩:=Ko fuel (leap m i q).1 (leap m i q).2 ⟨c,by omega,hn⟩;refine⟨runEnd m i- i+1+n,?_,?_,λk hk=>?_⟩
    .rw[Qv,Bu];exact h1
    .rw[Qv,Bu];exact h2
    .by_cases hk2:k<=runEnd m i- i
     .rw[Up hk2];exact own k hk2
     .have e:k=runEnd m i- i+1+(k- (runEnd m i- i+1)):=by omega
      rw[e,Qv,Bu];exact h3 _ (by omega)
structure Ly(m:Nat)(hs:List Int)(owner:Array (Option Nat))(js:List Nat):Prop where
 size:owner.size=m+1
 len:js.length=hs.length
 nd:js.Nodup
 le:∀j∈js,j<=m
 own:∀j k,j<=m->(owner.getD j aB=aA k↔js[k]? =aA j)
 look:∀e∈hs.zip js,Lk m js e.1 e.2
theorem Ly.ow(l:Ly m hs owner js)(hj:j<=m):Ow owner j↔j∈js:=by
 have hs:j<owner.size:=by rw[l.size];omega
 have e1:owner.getD j (aA 0)=owner[j]:=by simp[Array.getD,hs]
 have e2:owner.getD j aB=owner[j]:=by simp[Array.getD,hs]
 unfold Ow;rw[e1];constructor
 .intro h;cases z:owner[j]with
  |none=>rw[z]at h;cases h
  |some k=>exact b5 ((l.own j k hj).mp (by rw[e2];exact z))
 .intro h;obtain⟨k,hk,e⟩:=eh h;have:=(l.own j k hj).mpr (a8.mpr ⟨hk,e⟩);rw[e2]at this;rw[this];rfl
theorem Ly.nil(m):Ly m [] (Array.replicate (m+1) aB) []:=by
 refine⟨by simp,rfl,df,(λ_ z=>nomatch z),λj k hj=>?_,(λ_ z=>nomatch z)⟩;have:(Array.replicate (m+1) (aB:Option Nat)).getD j aB=aB:=by simp[Array.getD]
 rw[this];simp
theorem Ly.step(hm:Msk m)(l:Ly m hs owner js)(hl:hs.length<=m)(h):
  ∃j,layClean.free m owner (turns m) (bits h % (m+1)) (bits h)=aA j/\Ly m (hs++[h]) (owner.setIfInBounds j (aA hs.length)) (js++[j]):=by
 obtain⟨j0,hj0,hn0⟩:=Zac l.nd (by rw[l.len];exact hl);obtain⟨c,hc,e⟩:=Zlc (q:=bits h) hm (Nat.le_of_lt_succ (Nat.mod_lt (bits h) (Nat.succ_pos m))) (D8 h) hj0;obtain⟨n,h1,h2,h3⟩:=Ko (m:=m) (owner:=owner) (turns m) (bits h % (m+1)) (bits h) ⟨c,hc,by rw[e,l.ow hj0];exact hn0⟩;have hle:=Zfm m h n;have hlk:Lk m js h (sq m h n):=⟨n,rfl,λk hk=>(l.ow (Zfm m h k)).mp (h3 k hk)⟩
 have hnj:sq m h n∉js:=λz=>h2 ((l.ow hle).mpr z);refine⟨sq m h n,h1,?_⟩;generalize sq m h n=j at*;have hsz:j<owner.size:=by rw[l.size];omega
 refine⟨by simp[l.size],by simp[l.len],dq.mpr ⟨l.nd,by simp,λa ha b hb=>?_⟩,λx hx=>?_,λx k hx=>?_,λe he=>?_⟩
 .rw[ar.mp hb];exact λz=>hnj (z▸ha)
 .rcases bz.mp hx with z|z
  .exact l.le x z
  .rw[ar.mp z];exact hle
 .by_cases hxj:x=j
  .subst hxj;have:(owner.setIfInBounds x (aA hs.length)).getD x aB=aA hs.length:=by simp[Array.getD,hsz]
   rw[this];constructor
   .intro z;cases z;rw[<-l.len];simp
   .intro z;by_cases hk:k<js.length
    .rw[dg hk]at z;exact absurd (b5 z) hnj
    .have hk2:=(a8.mp z).1;rw[aw,f8]at hk2;rw[<-l.len,show k=js.length by omega]
  .have hxs:x<owner.size:=by rw[l.size];omega
   have:(owner.setIfInBounds j (aA hs.length)).getD x aB=owner.getD x aB:=by simp[Array.getD,hxs,Array.getElem_setIfInBounds,Ne.symm hxj]
   rw[this,l.own x k hx];by_cases hk:k<js.length
   .rw[dg hk]
   .rw[dy (by omega)];constructor
    .intro z;cases z
    .intro z;have hk2:=(a8.mp z).1;rw[aw,f8]at hk2;have:k=js.length:=by omega
     subst this;rw[gh (ba _)]at z;simp at z;exact absurd z.symm hxj
 .rw[List.zip_append l.len.symm]at he;rcases bz.mp he with z|z
  .exact(l.look e z).mono λx hx=>bj _ hx
  .simp at z;rw[z];exact hlk.mono λx hx=>bj _ hx
theorem Zad(hm:Msk m):∀rest hs owner js,Ly m hs owner js->hs.length+rest.length<=m+1->
  ∃owner' js',rest.foldl (λ acc h=>do
   let(owner,k)<-acc;let j<-layClean.free m owner (turns m) (bits h % (m+1)) (bits h)
   pure (owner.setIfInBounds j (aA k),k+1)) (aA (owner,hs.length))=aA (owner',(hs++rest).length)/\Ly m (hs++rest) owner' js'
 | [],hs,owner,js,l,_=>⟨owner,js,by simp,by simpa using l⟩
 |h::rest,hs,owner,js,l,hl=>by
  obtain⟨j,e,l2⟩:=l.step hm (by simp only[bf]at hl;omega) h;obtain⟨owner',js',e2,l3⟩:=Zad hm rest (hs++[h]) _ _ l2 (by simp only[aw,bf,List.length_nil]at hl⊢;omega);refine⟨owner',js',?_,by simpa using l3⟩;rw[List.foldl_cons];have z:(do
   let(owner,k)<-(aA (owner,hs.length):Option (Array (Option Nat)×Nat));let j<-layClean.free m owner (turns m) (bits h % (m+1)) (bits h)
   pure (owner.setIfInBounds j (aA k),k+1))=aA (owner.setIfInBounds j (aA hs.length),(hs++[h]).length):=by
   show(layClean.free m owner (turns m) (bits h % (m+1)) (bits h) >>=λj=>pure (owner.setIfInBounds j (aA hs.length),hs.length+1))=_;rw[e];simp
  rw[z,e2];simp
theorem Zb9{t:g7}{es:Array (Int×ah)}(hm:Msk (sizeAbove wanted- 1))(hl:es.size<=sizeAbove wanted- 1):
  ∃t' order,t.relaid (es.map λ e=>e.1) wanted=aA (t',order)/\t'.led=t.led/\(order.filterMap λi=>es[i]?).toList.Perm es.toList/\Tb t' ((order.filterMap λi=>es[i]?).toList.map λ e=>e.1):=by
 unfold SetTable.relaid SetTable.laid SetTable.layClean;generalize sizeAbove wanted- 1=m at*;have hsl:(es.map (·.1)).toList.length=es.size:=by simp
 obtain⟨owner,js,e,l⟩:=Zad hm (es.map λe=>e.1).toList [] _ [] (Ly.nil m) (by rw[hsl];simp;omega);rw[<-Array.foldl_toList];have e:((es.map (·.1)).toList.foldl (λ(acc:Option (Array (Option Nat)×Nat)) h=>do
   let(owner,k)<-acc;let j<-layClean.free m owner (turns m) (bits h % (m+1)) (bits h)
   pure (owner.setIfInBounds j (aA k),k+1)) (aA (Array.replicate (m+1) aB,0)))=aA (owner,(([]:List Int)++(es.map λ(e:Int×ah)=>e.1).toList).length):=e
 rw[e];rw[d7]at l;have jl:js.length=es.size:=by rw[l.len,hsl]
 generalize hlive:((cq (m+1)).filterMap λj=>(owner.getD j aB).map (j,·))=live;have mem:∀j k,(j,k)∈live↔j<=m/\js[k]? =aA j:=λj k=>by
  rw[<-hlive,List.mem_filterMap];constructor
  .rintro⟨j',hj',z⟩;obtain⟨k',z1,z2⟩:=cm.mp z;cases z2;have hj:j<=m:=by have:=cu.mp hj';omega
   exact⟨hj,(l.own j k hj).mp z1⟩
  .rintro⟨hj,z⟩;exact⟨j,cu.mpr (by omega),by rw[(l.own j k hj).mpr z];rfl⟩
 have rise:G4 (live.map (·.1)):=by rw[<-hlive];unfold G4;rw[List.pairwise_map];refine List.Pairwise.filterMap _ (λa b hab c hc d hd=>?_) List.pairwise_lt_range;obtain⟨_,_,rfl⟩:=cm.mp hc;obtain⟨_,_,rfl⟩:=cm.mp hd;exact hab
 have pmem:∀x,x∈live.map (·.1)↔x∈js:=λx=>by
  rw[ax];constructor
  .rintro⟨⟨j,k⟩,hp,rfl⟩;exact b5 ((mem j k).mp hp).2
  .intro hx;obtain⟨k,hk,e⟩:=eh hx;exact⟨(x,k),(mem x k).mpr ⟨l.le x hx,a8.mpr ⟨hk,e⟩⟩,rfl⟩
 have plen:live.length=es.size:=by have p:(live.map (·.1)).Perm js:=(List.perm_ext_iff_of_nodup (G6 rise) l.nd).mpr pmem;have:=p.length_eq;rw[aq]at this;omega
 have ond:(live.map (·.2)).Nodup:=by have Ix:live.Pairwise λa b=>a.1≠b.1:=List.pairwise_map.mp (G6 rise);refine List.pairwise_map.mpr (List.Pairwise.imp_of_mem (fun{a b} ha hb hab z=>?_) Ix);obtain⟨j1,k1⟩:=a;obtain⟨j2,k2⟩:=b;simp only at z hab;subst z;have z1:=((mem j1 k1).mp ha).2;have z2:=((mem j2 k1).mp hb).2;rw[z1]at z2;exact hab (cz.inj z2)
 have operm:(live.map (·.2)).Perm (cq es.size):=by
  refine(List.perm_ext_iff_of_nodup ond List.nodup_range).mpr λk=>?_;rw[ax,cu];constructor
  .rintro⟨⟨j,k⟩,hp,rfl⟩;have:=(a8.mp ((mem j k).mp hp).2).1;omega
  .intro hk;have hk':k<js.length:=by omega
   exact⟨(js[k],k),(mem _ _).mpr ⟨l.le _ (List.getElem_mem hk'),av hk'⟩,rfl⟩
 refine⟨{mask:=m,place:=(live.map (·.1)).toArray,dummies:= #[],finger:=t.finger,led:=t.led,moves:=t.movedTo m,plain:=t.plain},(live.map (·.2)).toArray,by rw[<-hlive];rfl,rfl,?_,?_⟩
 .rw[Array.toList_filterMap];exact(operm.filterMap _).trans (by rw[filterMap_getElem?_range])
 .have ge:∀p∈live,∃v,es[p.2]? =aA v:=λp hp=>by have:=cu.mp (operm.mem_iff.mp (ax.mpr ⟨p,hp,rfl⟩));exact⟨es[p.2],by simp[this]⟩
  have fm:∀l:List (Nat×Nat),(∀p∈l,∃v,es[p.2]? =aA v)->(l.map (·.2)).filterMap (λi=>es[i]?)=l.map λp=>es.getD p.2 (0,ck):=by
   intro l;induction l with
   |nil=>intro _;rfl
   |cons p l ih=>intro h;obtain⟨v,hv⟩:=h p af;have hv2:=gk.mp hv;rw[bc,List.filterMap_cons_some hv,ih λq hq=>h q (ao _ hq),bc];congr 1;simp only[Array.getD,hv2.1,↓reduceDIte];exact hv2.2.symm
  have el:(((live.map (·.2)).toArray.filterMap λi=>es[i]?).toList.map λ(e:Int×ah)=>e.1)=live.map λp=>(es.getD p.2 (0,ck)).1:=by rw[Array.toList_filterMap,List.toList_toArray,fm live ge,cg];rfl
  rw[el];refine⟨rfl,hm,by simpa using rise,λj hj=>?_,?_,?_,λe he=>?_⟩
  .exact l.le j ((pmem j).mp (by simpa using hj))
  .simp
  .rw[aq,plen];exact hl
  .have:e∈(live.map λp=>(es.getD p.2 (0,ck)).1).zip (live.map (·.1)):=by simpa using he
   rw[List.zip_map']at this;obtain⟨⟨j,k⟩,hp,rfl⟩:=ax.mp this;obtain⟨hj,hk⟩:=(mem j k).mp hp;have hkl:=(a8.mp hk).1;have hke:k<es.size:=by omega
   have hz:((es.getD k (0,ck)).1,j)∈(es.map (·.1)).toList.zip js:=by rw[List.mem_iff_getElem?];refine⟨k,?_⟩;rw[List.getElem?_zip_eq_some];refine⟨?_,hk⟩;simp[hke,Array.getD]
   have lk:=l.look _ hz;show Lk m _ _ _;refine lk.mono λx hx=>?_;have:=(pmem x).mpr hx;simpa using this
end TT
namespace TT
open PySem PySem.SetTable PySem.Spec PyProof.Rows SX L2
section
variable{prog:b6}{w:c7}
theorem Zae(n)(h:carriedByValue v=aC):ofAClassStatement n v=pure aD:=by
 cases v with
 |ref a=>simp[carriedByValue]at h
 |_=>first|rfl| (unfold ofAClassStatement;rfl)
theorem Sz(hk:IsTupleKey (Zr prog w) s.heap ks a)(h:Q aD s):bg (b4 prog w) A (ofAClassStatement (m+1) (.ref a)) Q E s:=by
 have hT:=hk.typeIs;obtain⟨o,items,n,ho,_,hd,hi⟩:=hk;unfold ofAClassStatement;refine ac (wpAny_typeOf hT ?_);dsimp only;rw[if_pos (by decide)];refine ac (ag ?_);simp only[fq,bi,if_false];refine ac (wpAny_seqItems ho hd ?_);dsimp only;refine ac ?_;rw[<-Array.forIn_toList];refine wpAny_forIn_list _ (λrest r s'=>r.1=aB/\s'=s/\∀v∈rest,carriedByValue v=aC) _ ?_ ?_ _ _ ⟨rfl,rfl,hi.byValue⟩
 .rintro v rest r s' ⟨hr,rfl,hall⟩;rw[Zae _ (hall v af)];refine ac (ag ?_);simp only[bi,if_false];exact ag ⟨rfl,rfl,λu hu'=>hall u (ao _ hu')⟩
 .rintro⟨r1,r2⟩ s' ⟨hr,rfl,_⟩;simp only at hr;subst hr;exact ag h
theorem Zld(hk:Om prog w s.heap k a)(h:Q aD s):bg (b4 prog w) A (ofAClassStatement 8 (.ref a)) Q E s:=by
 cases k with
 |inl l=>exact Sz hk h
 |inr p=>have hT:=hk.typeIs;obtain⟨n,l⟩:=p;obtain⟨o,items,m,t,b,ho,_,hd,hi,hb⟩:=hk;unfold ofAClassStatement;refine ac (wpAny_typeOf hT ?_);dsimp only;rw[if_pos (by decide)];refine ac (ag ?_);simp only[fq,bi,if_false];refine ac (wpAny_seqItems ho hd ?_);dsimp only;refine ac ?_;rw[<-Array.forIn_toList,hi];simp only[List.forIn_cons,List.forIn_nil];rw[Zae _ (v:=Value.int n t) rfl];refine ac (ac (ag ?_));simp only[bi,if_false];refine ag ?_;dsimp only;refine ac (ac (Sz hb ?_));simp only[bi,if_false];exact ag (ag (ag h))
theorem Zi5(n)(h:carriedByValue v=aC):∃b,hashByValue n v=pure b:=by
 cases v with
 |ref a=>simp[carriedByValue]at h
 |_=>unfold hashByValue;exact⟨_,rfl⟩
theorem S0(hk:IsTupleKey (Zr prog w) s.heap ks a)(h:∀b,Q b s):bg (b4 prog w) A (hashByValue (m+1) (.ref a)) Q E s:=by
 have hT:=hk.typeIs;obtain⟨o,items,n,ho,_,hd,hi⟩:=hk;unfold hashByValue;refine ac (wpAny_specialOf hT F.slot_tuple_hash.lookup ?_);refine ac (wpAny_seqItems ho hd ?_);refine ac ?_;show bg _ _ (forIn items _ _) _ _ s;rw[<-Array.forIn_toList];refine wpAny_forIn_list _ (λrest r s'=>r.1=aB/\s'=s/\∀v∈rest,carriedByValue v=aC) _ ?_ ?_ _ _ ⟨rfl,rfl,hi.byValue⟩
 .rintro v rest r s' ⟨hr,rfl,hall⟩;obtain⟨b,hb⟩:=Zi5 m (hall v af);rw[hb];refine ac (ag ?_);cases b with
  |true=>simp only[fq,bi,if_false];exact ag ⟨rfl,rfl,λu hu'=>hall u (ao _ hu')⟩
  |false=>simp only[Bool.not_false,if_true];exact ag (ag (h _))
 .rintro⟨r1,r2⟩ s' ⟨hr,rfl,_⟩;simp only at hr;subst hr;exact ag (h _)
theorem Zr3(hk:Om prog w s.heap k a)(h:∀b,Q b s):bg (b4 prog w) A (hashByValue 8 (.ref a)) Q E s:=by
 cases k with
 |inl l=>exact S0 hk h
 |inr p=>
  have hT:=hk.typeIs;obtain⟨n,l⟩:=p;obtain⟨o,items,m,t,b,ho,_,hd,hi,hb⟩:=hk;unfold hashByValue;refine ac (wpAny_specialOf hT F.slot_tuple_hash.lookup ?_);refine ac (wpAny_seqItems ho hd ?_);refine ac ?_;show bg _ _ (forIn items _ _) _ _ s;rw[<-Array.forIn_toList,hi];simp only[List.forIn_cons,List.forIn_nil];have e:hashByValue 7 (Value.int n t)=pure aC:=by unfold hashByValue;rfl
  rw[e];refine ac (ac (ag ?_));simp only[fq,bi,if_false];refine ag ?_;dsimp only;refine ac (ac (S0 hb λbb=>?_));cases bb with
  |true=>simp only[fq,bi,if_false];exact ag (ag (ag (h _)))
  |false=>simp only[Bool.not_false,if_true];exact ag (ag (ag (h _)))
theorem Znv(hk:Om prog w s.heap k a)(hy:∀v∈ys,∃k' b,v= .ref b/\Om prog w s.heap k' b)(h:Q aD s):bg (b4 prog w) A (searchCouldBeSeen (.ref a) ys) Q E s:=by
 unfold searchCouldBeSeen;refine ac ?_;refine wpAny_forIn_list _ (λrest r s'=>r.1=aB/\s'=s/\∀v∈rest,∃k' b,v= .ref b/\Om prog w s.heap k' b) _ ?_ ?_ _ _ ⟨rfl,rfl,hy⟩
 .rintro v rest r s' ⟨hr,rfl,hall⟩;obtain⟨k',b,rfl,hb⟩:=hall v af;have go:∀u∈rest,∃k' b,u= .ref b/\Om prog w s'.heap k' b:=λu hu=>hall u (ao _ hu);dsimp only;by_cases hab:(a==b|| (carriedByValue (.ref a)&&carriedByValue (.ref b)))=aC
  .rw[if_pos hab];exact ag ⟨rfl,rfl,go⟩
  .rw[if_neg hab];refine ac (Lj hk ?_);simp only[fq,bi,if_false];refine ac (Lj hb ?_);simp only[fq,bi,if_false];refine ac (Zld hk ?_);simp only[bi,if_false];refine ac (Zld hb ?_);simp only[bi,if_false];exact ag ⟨rfl,rfl,go⟩
 .rintro⟨r1,r2⟩ s' ⟨hr,rfl,_⟩;simp only at hr;subst hr;exact ag h
theorem Zca[Decidable c]{K:Sem α}(hm:∀Q',Q' aD s->bg (b4 prog w) A m Q' E s)(hK:bg (b4 prog w) A K Q E s):
  bg (b4 prog w) A (if c then m >>=λr=>if r=aC then X else K else K) Q E s:=by
 split
 .refine ac (hm _ ?_);simp only[bi,if_false];exact hK
 .exact hK
abbrev ent(prog:b6)(w:c7)(z:Zl×aj):Int×Value:=(Ye prog w z.1,b8 z.2)
variable{es:Array (Int×ah)}{t:g7}{zs:List (Zl×aj)}{k:Zl}
theorem Zfn(he:es.toList=zs.map (ent prog w))(i:Nat):es[i]? =(zs[i]?).map (ent prog w):=by rw[<-c9,he,az]
theorem Znw(he:es.toList=zs.map (ent prog w))(tb:Tb t (es.toList.map (·.1)))(hz:zs[i]? =aA z):∃n,t.slot (sq t.mask (Ye prog w z.1) n)= .live i/\∀k,k<n->t.slot (sq t.mask (Ye prog w z.1) k)≠.empty:=by
 have hl:zs.length=t.place.toList.length:=by rw[tb.len,he,aq,aq]
 have hi:i<zs.length:=(a8.mp hz).1;have hp:t.place.toList[i]? =aA (t.place.toList[i]'(by omega)):=av _;have hh:(es.toList.map (·.1))[i]? =aA (Ye prog w z.1):=by rw[he,az,az,hz];rfl
 obtain⟨n,e1,e2⟩:=tb.look (Ye prog w z.1,t.place.toList[i]'(by omega)) (List.mem_iff_getElem?.mpr ⟨i,List.getElem?_zip_eq_some.mpr ⟨hh,hp⟩⟩);refine⟨n,?_,λk hk=>?_⟩
 .refine Mx tb.rise ?_;rw[<-c9,hp];exact congrArg aA e1.symm
 .have:=e2 k hk;intro z;exact Zaa tb.rise z this
theorem Zaf(hu:A.units+1<f6)(hk:Om prog w s.heap k b)(ho:s.heap.get? a=aA o)(hd:o.data= .set es ep t)(he:es.toList=zs.map (ent prog w))(his:∀z∈zs,Om prog w s.heap z.1 z.2)(tb:Tb t (es.toList.map (·.1)))(hN:N<10*turns t.mask)(hE:t.slot (sq t.mask (Ye prog w k) N)= .empty)(hfound:k∈zs.map (·.1)->∀r,Q (.there r) s)(hfree:∀n,k∉zs.map (·.1)->t.slot (sq t.mask (Ye prog w k) n)= .empty->(∀j,j<n->t.slot (sq t.mask (Ye prog w k) j)≠.empty)->Q (.free (sq t.mask (Ye prog w k) n) aD) s):
  ∀fuel n st,st.getD (t.probeStart (Ye prog w k))=Wr t.mask n (Ja t.mask (Ye prog w k))->n<=N->N<n+fuel->(∀j,j<n->∃i z,t.slot (sq t.mask (Ye prog w k) j)= .live i/\zs[i]? =aA z/\z.1≠k)->
   bg (b4 prog w) A (setSearchFrom a (.ref b) (Ye prog w k) aC fuel st) Q E s
 |0,n,st,_,h1,h2,_=>by omega
 |fuel+1,n,st,hst,h1,h2,hb=>by
  have hfit:t.fits es.size=aC:=tb.fits (by simp);unfold setSearchFrom;refine ac (wpAny_setState_of ho hd hfit ?_);dsimp only;rw[tb.gave];simp only[bi,if_false];rw[hst];have hj:∀j,(Wr t.mask j (Wr t.mask n (Ja t.mask (Ye prog w k)))).j=sq t.mask (Ye prog w k) (n+j):=λj=>by rw[<-Qv]
  unfold SetTable.probe;rcases Zab tb.dum (λi=>(es[i]?.map (·.1)).getD 0) (Ye prog w k) (10*turns t.mask) (Wr t.mask n (Ja t.mask (Ye prog w k))) ((Sx _ _ _).trans rfl) ⟨N- n,by omega,by rw[hj,show n+(N- n)=N by omega];exact hE⟩with⟨m,g1,g2,g3,g4⟩|⟨m,i,g1,g2,g3,g4,g5⟩
  .have key:∀f:Nat->Int,f=(λi=>(es[i]?.map (·.1)).getD 0)->SetTable.probe.go t f (Ye prog w k) (10*turns t.mask) (Wr t.mask n (Ja t.mask (Ye prog w k)))=aA (.empty (Wr t.mask m (Wr t.mask n (Ja t.mask (Ye prog w k)))).j aB):=λf hf=>by rw[hf];exact g2
   rw[key]
   case a=>rfl
   dsimp only;rw[hj]at g3⊢;refine ag (hfree (n+m) ?_ g3 λj hjm=>?_)
   .intro hin;obtain⟨z,hz,ez⟩:=ax.mp hin;obtain⟨i0,hi0,e0⟩:=eh hz;have hz0:zs[i0]? =aA z:=a8.mpr ⟨hi0,e0⟩;obtain⟨n0,q1,q2⟩:=Znw he tb hz0;rw[ez]at q1 q2;rcases Nat.lt_trichotomy n0 (n+m)with c|c|c
    .rcases dv n0 n with c'|c'
     .obtain⟨i,z',w1,w2,w3⟩:=hb n0 c';rw[q1]at w1;cases w1;rw[hz0]at w2;cases w2;exact w3 ez
     .obtain⟨i,w1,w2⟩:=g4 (n0- n) (by omega);rw[hj,show n+(n0- n)=n0 by omega,q1]at w1;cases w1;apply w2;show(es[i0]?.map (·.1)).getD 0=_;rw[Zfn he,hz0,<-ez];rfl
    .rw[<-c,q1]at g3;cases g3
    .exact q2 _ c g3
   .rcases dv j n with c|c
    .obtain⟨i,z',w1,_⟩:=hb j c;rw[w1];exact λz=>nomatch z
    .obtain⟨i,w1,_⟩:=g4 (j- n) (by omega);rw[hj,show n+(j- n)=j by omega]at w1;rw[w1];exact λz=>nomatch z
  .have key:∀f:Nat->Int,f=(λi=>(es[i]?.map (·.1)).getD 0)->SetTable.probe.go t f (Ye prog w k) (10*turns t.mask) (Wr t.mask n (Ja t.mask (Ye prog w k)))=aA (.candidate (Wr t.mask m (Wr t.mask n (Ja t.mask (Ye prog w k)))).j i (Wr t.mask (m+1) (Wr t.mask n (Ja t.mask (Ye prog w k))))):=λf hf=>by rw[hf];exact g2
   rw[key]
   case a=>rfl
   dsimp only;have hp:=Nq g3;have hil:i<zs.length:=by have:=(gk.mp hp).1;have l:=tb.len;rw[he,aq,aq,ay]at l;omega
   have hz0:zs[i]? =aA zs[i]:=av hil;have hzi:=his zs[i] (List.getElem_mem hil);generalize zs[i]=z at hz0 hzi;have hes:es[i]? =aA (Ye prog w z.1,b8 z.2):=by rw[Zfn he,hz0];rfl
   refine Zca (λQ' q=>Znv hk (λv hv=>?_) q) ?_
   .obtain⟨e,hem,rfl⟩:=ax.mp hv;have:e∈es.toList:=by have:=Array.mem_toList_iff.mp hem;exact Array.mem_toList_iff.mpr (Array.mem_filter.mp this).1
    rw[he]at this;obtain⟨z',hz',rfl⟩:=ax.mp this;exact⟨z'.1,z'.2,rfl,his z' hz'⟩
   rw[hes];dsimp only;refine ac (gm (Zow hu hzi hk ?_));refine ac (wpAny_setState_of ho hd hfit ?_);dsimp only;by_cases hzk:z.1=k
   .rw[decide_eq_true hzk];simp only[Bool.and_self,if_true];exact ag (hfound (ax.mpr ⟨z,b5 hz0,hzk⟩) _)
   .rw[decide_eq_false hzk];simp only[Bool.and_false,bi,if_false];have hsm:t.sameMemory t.moves t.mask=aA aC:=by unfold SetTable.sameMemory;simp
    rw[hsm];simp only[if_true];rw[g3];dsimp only;rw[hes];dsimp only;refine ac (wpAny_isSame_ref_self ?_);simp only[if_true];refine ac (ag ?_);dsimp only;have hNle:n+m+1<=N:=by
     have:¬N<=n+m:=λc=>by
      rcases Nat.lt_or_eq_of_le c with c|c
      .rcases dv N n with c'|c'
       .omega
       .obtain⟨i',w1,_⟩:=g5 (N- n) (by omega);rw[hj,show n+(N- n)=N by omega,hE]at w1;cases w1
      .rw[hj,<-c,hE]at g3;cases g3
     omega
    refine Zaf hu hk ho hd he his tb hN hE hfound hfree fuel (n+m+1) _ ?_ hNle (by omega) λj hjm=>?_
    .show Wr t.mask (m+1) (Wr t.mask n (Ja t.mask (Ye prog w k)))=_;rw[<-Qv,<-Nat.add_assoc]
    .rcases dv j n with c|c
     .exact hb j c
     .rcases dv j (n+m)with c'|c'
      .obtain⟨i',w1,w2⟩:=g5 (j- n) (by omega);rw[hj,show n+(j- n)=j by omega]at w1;have hp':=Nq w1;have hil':i'<zs.length:=by have:=(gk.mp hp').1;have l:=tb.len;rw[he,aq,aq,ay]at l;omega
       refine⟨i',zs[i'],w1,av hil',λzz=>w2 ?_⟩;show(es[i']?.map (·.1)).getD 0=_;rw[Zfn he,av hil',<-zz];rfl
      .have:j=n+m:=by omega
       subst this;rw[hj]at g3;exact⟨i,z,g3,hz0,hzk⟩
end
end TT
namespace TT
open PySem PySem.SetTable PySem.Spec PyProof.Rows SX L2
def To(prog:b6)(w:c7)(B:Bool)(h:d6)(o:Obj)(xs:List (Zl×aj)):Prop:=
 ∃(es:Array (Int×ah)) (ep:Nat) (t:g7) (zs:List (Zl×aj)),o.ExactSet/\o.data= .set es ep t/\es.toList=zs.map (ent prog w)/\zs.Perm xs/\(xs.map (·.1)).Nodup/\(∀z∈xs,Om prog w h z.1 z.2)/\Tb t (es.toList.map (·.1))/\t.led= !B/\es.size*5<t.mask*3
def G7(xs:List (Zl×aj))(k:Zl)(b:aj):List (Zl×aj):=if(xs.any λz=>decide (z.1=k))=aC then xs else xs++[(k,b)]
theorem Rv{xs:List (Zl×aj)}:(xs.any λz=>decide (z.1=k))=aC↔k∈xs.map (·.1):=by
 rw[List.any_eq_true,ax];constructor
 .rintro⟨z,hz,e⟩;exact⟨z,hz,of_decide_eq_true e⟩
 .rintro⟨z,hz,e⟩;exact⟨z,hz,decide_eq_true e⟩
theorem Om.but(x:Om prog w h k a)(ho:h.get? d=aA o)(hd:o.data= .set es ep t)(hs:∀b u,b≠d->h.get? b=aA u->h'.get? b=aA u):Om prog w h' k a:=by
 have ne:∀{c:aj} {u:Obj} {its n},h.get? c=aA u->u.data= .seq its n->c≠d:=fun{c u its n} e1 e2 z=>by subst z;rw[ho]at e1;cases e1;rw[hd]at e2;cases e2
 cases k with
 |inl l=>obtain⟨u,its,n,e,c,d',r⟩:=x;exact⟨u,its,n,hs _ _ (ne e d') e,c,d',r⟩
 |inr p=>obtain⟨u,its,n,tt,b,e,c,d',ei,⟨u2,i2,n2,e2,c2,d2,r2⟩⟩:=x;exact⟨u,its,n,tt,b,hs _ _ (ne e d') e,c,d',ei,u2,i2,n2,hs _ _ (ne e2 d2) e2,c2,d2,r2⟩
theorem R0{α β:Type}{f}{l}{m:List β}(p:l.Perm m):∀zs,m=zs.map f->∃l':List α,l'.Perm zs/\l=l'.map f:=by
 induction p with
 |nil=>intro zs e;cases zs with
  |nil=>exact⟨[],List.Perm.nil,rfl⟩
  |cons z zs=>cases e
 | @cons x l1 l2 _ ih=>intro zs e;cases zs with
  |nil=>cases e
  |cons z zs=>injection e with e1 e2;obtain⟨l',p',e'⟩:=ih zs e2;exact⟨z::l',p'.cons z,by rw[bc,e1,e']⟩
 |swap x y l=>intro zs e;cases zs with
  |nil=>cases e
  |cons z zs=>cases zs with
   |nil=>cases e
   |cons z2 zs=>injection e with e1 e2;injection e2 with e2 e3;exact⟨z2::z::zs,List.Perm.swap z z2 zs,by rw[bc,bc,e1,e2,e3]⟩
 |trans _ _ ih1 ih2=>intro zs e;obtain⟨l2,p2,e2⟩:=ih2 zs e;obtain⟨l3,p3,e3⟩:=ih1 l2 e2;exact⟨l3,p3.trans p2,e3⟩
theorem Zwx(hu:A.units+1<f6)(ho:s.heap.get? a=aA o)(hO:To prog w B s.heap o xs)(hk:Om prog w s.heap k b)(hr:xs.length+1<=76)(h:∀h' o' r,io a s.heap h'->h'.get? a=aA o'->To prog w B h' o' (G7 xs k b)->Q r {s with heap:=h'}):
  bg (b4 prog w) A (setAddHashed a (.ref b) (Ye prog w k)) Q E s:=by
 obtain⟨es,ep,t,zs,hx,hd,he,pm,nd,his,tb,hled,hroom⟩:=hO;have hisz:∀z∈zs,Om prog w s.heap z.1 z.2:=λz hz=>his z (pm.mem_iff.mp hz);have hfit:t.fits es.size=aC:=tb.fits (by simp);have zl:zs.length=es.size:=by rw[<-ay,he,aq]
 have xl:xs.length=es.size:=by rw[<-pm.length_eq,zl]
 have kz:k∈zs.map (·.1)↔k∈xs.map (·.1):=(pm.map _).mem_iff;unfold setAddHashed;refine gm ?_;unfold setAddHashedIn;refine ac (wpAny_setState_of ho hd hfit ?_);dsimp only;rw[show byScan (b8 b) es=aD from rfl];simp only[bi,if_false];obtain⟨N,hN,hE⟩:=tb.empty (Ye prog w k);unfold setSearch;have hmask:t.mask<=127:=by rcases tb.msk with e|e|e<;> omega
 refine ac (Zaf hu hk ho hd he hisz tb hN hE (λhin r=>?_) (λn hni hEn hbn=>?_) 100000 0 aB rfl (f7 _) (by unfold turns at hN;omega) (λj hj=>absurd hj (dz _)))
 .dsimp only;refine ag ?_;refine h s.heap o aD (Heap.SameBut.refl a s.heap) ho ?_;unfold G7;rw[if_pos (Rv.mpr (kz.mp hin))];exact⟨es,ep,t,zs,hx,hd,he,pm,nd,his,tb,hled,hroom⟩
 .dsimp only;have hni':k∉xs.map (·.1):=λz=>hni (kz.mpr z);refine ac (wpAny_setState_of ho hd hfit ?_);dsimp only;have hcase:es.size+1<=t.mask:=by rcases tb.msk with e|e|e<;> omega
  have tb1:=tb.put (Ye prog w k) hEn hbn (by rw[aq,ay];exact hcase);have hput:(t.put (sq t.mask (Ye prog w k) n)).2=below t.place (sq t.mask (Ye prog w k) n):=rfl;have hmk:(t.put (sq t.mask (Ye prog w k) n)).1.mask=t.mask:=rfl;have hld:(t.put (sq t.mask (Ye prog w k) n)).1.led=t.led:=rfl;rw[hput];generalize below t.place (sq t.mask (Ye prog w k) n)=p at tb1⊢;generalize (t.put (sq t.mask (Ye prog w k) n)).1=t1 at tb1 hmk hld⊢;have he1:(insertAt es p (Ye prog w k,b8 b)).toList=(zs.take p++(k,b)::zs.drop p).map (ent prog w):=by rw[SetTable.toList_insertAt,he,b9,bc,List.map_take,List.map_drop]
  have hh1:(insertAt es p (Ye prog w k,b8 b)).toList.map (·.1)=(es.toList.map (·.1)).take p++Ye prog w k::(es.toList.map (·.1)).drop p:=by rw[SetTable.toList_insertAt,b9,bc,List.map_take,List.map_drop]
  have sz1:(insertAt es p (Ye prog w k,b8 b)).size=es.size+1:=by rw[<-ay,SetTable.toList_insertAt,aw,bf,gv,List.length_drop,ay];omega
  rw[<-hh1]at tb1;have pm1:(zs.take p++(k,b)::zs.drop p).Perm (xs++[(k,b)]):=by refine List.perm_middle.trans ?_;rw[List.take_append_drop];exact(pm.cons _).trans (List.perm_append_singleton _ _).symm
  have Ix:((xs++[(k,b)]).map (·.1)).Nodup:=by rw[b9,dq];refine⟨nd,by simp,λx hx y hy=>?_⟩;simp only[bc,List.map_nil,ar]at hy;subst hy;exact λz=>hni' (z▸hx)
  generalize insertAt es p (Ye prog w k,b8 b)=es1 at he1 tb1 sz1⊢;generalize zs.take p++(k,b)::zs.drop p=zs1 at he1 pm1;have hfin:∀h' o' r,io a s.heap h'->h'.get? a=aA o'->To prog w B h' o' (xs++[(k,b)])->Q r {s with heap:=h'}:=λh' o' r x y z=>h h' o' r x y (by unfold G7;rw[if_neg λy=>hni' (Rv.mp y)];exact z);have his1:∀h',io a s.heap h'->∀z∈xs++[(k,b)],Om prog w h' z.1 z.2:=λh' sb z hz=>by
   have hold:Om prog w s.heap z.1 z.2:=by
    rcases bz.mp hz with q|q
    .exact his z q
    .rw[ar.mp q];exact hk
   exact Om.but hold ho hd λc u hc e=>(sb.2 c hc).trans e
  have tail:∀(t2:g7),Tb t2 (es1.toList.map (·.1))->t2.mask=t.mask->t2.led=t.led->bg (b4 prog w) A (do
    storeSet a es1 t2
    if(!aD&&t2.tooFull)=aC then do
     setRelay a (grown (es.size+1))
     pure aC
    else pure aC) Q E s:=λt2 tb2 m2 l2=>by
   refine ac (wpAny_storeSet_of ho hd ?_ (by rw[sz1,fu];omega));have o1:(s.heap.update a (Obj.putSet es1 t2)).get? a=aA {o with data:=.set es1 (ep+1) t2}:=by have z:=g6 (Obj.putSet es1 t2) ho (by rw[putSet_of es1 t2 hd];rfl);rw[putSet_of es1 t2 hd]at z;exact z
   have b1:=Heap.SameBut.update s.heap a (Obj.putSet es1 t2);have fl:t2.fill=es.size+1:=by unfold SetTable.fill;have:=tb2.len;rw[aq,ay,ay]at this;rw[tb2.dum,this,sz1];rfl
   by_cases hf:t2.tooFull=aC
   .rw[if_pos (by rw[hf];rfl)];have hge:(es.size+1)*5>=t.mask*3:=by unfold SetTable.tooFull at hf;rw[fl,m2]at hf;exact of_decide_eq_true hf
    have hS:Msk (sizeAbove (grown (es.size+1))- 1)/\es1.size<=sizeAbove (grown (es.size+1))- 1/\es1.size*5<(sizeAbove (grown (es.size+1))- 1)*3/\sizeAbove (grown (es.size+1))<=128:=by
     rw[sz1];rcases tb.msk with e|e|e
     .have:es.size=4:=by omega
      rw[this];exact⟨.inr (.inl (by decide)),by decide,by decide,by decide⟩
     .have:es.size=18:=by omega
      rw[this];exact⟨.inr (.inr (by decide)),by decide,by decide,by decide⟩
     .omega
    refine ac ?_;unfold setRelay;refine ac (wpAny_setState_of (s:={s with heap:=s.heap.update a (Obj.putSet es1 t2)}) o1 rfl (tb2.fits (by simp)) ?_);dsimp only;rw[if_neg (by rw[fu];have:=hS.2.2.2;omega)];obtain⟨t3,order,q1,q2,q3,q4⟩:=Zb9 (t:=t2) (es:=es1) hS.1 hS.2.1;have q1':t2.relaid (es1.map (·.1)) (grown (es.size+1))=aA (t3,order):=q1;rw[q1'];have hmk3:t3.mask=sizeAbove (grown (es.size+1))- 1:=by unfold SetTable.relaid SetTable.laid at q1;obtain⟨ow,_,z⟩:=aa.mp q1;cases z;rfl
    have sz3:(order.filterMap λi=>es1[i]?).size=es1.size:=by rw[<-ay,q3.length_eq,ay]
    refine ac ?_;show bg _ _ (if((order.filterMap λi=>es1[i]?).size !=es1.size)=aC then _ else _) _ _ _;rw[if_neg (by rw[sz3];simp)];refine ag ?_;dsimp only;refine wpAny_storeSet_of (s:={s with heap:=s.heap.update a (Obj.putSet es1 t2)}) o1 rfl ?_ (by rw[sz3,sz1,fu];omega);have o2:=g6 (Obj.putSet (order.filterMap λi=>es1[i]?) t3) o1 (by rw[putSet_of _ t3 rfl];rfl);rw[putSet_of _ t3 rfl]at o2;have b2:=b1.trans (Heap.SameBut.update _ a (Obj.putSet (order.filterMap λi=>es1[i]?) t3));generalize (order.filterMap λi=>es1[i]?)=es3 at q3 q4 sz3 o2 b2⊢;have he3:∃zs3:List (Zl×aj),es3.toList=zs3.map (ent prog w)/\zs3.Perm zs1:=by rw[he1]at q3;obtain⟨l3,r1,r2⟩:=R0 q3 zs1 rfl;exact⟨l3,r2,r1⟩
    obtain⟨zs3,r1,r2⟩:=he3;refine ag (hfin _ _ aC b2 o2 ⟨es3,_,t3,zs3,hx,rfl,r1,r2.trans pm1,Ix,his1 _ b2,q4,by rw[q2,l2];exact hled,?_⟩);rw[sz3,hmk3];exact hS.2.2.1
   .rw[if_neg (by simpa using hf)];refine ag (hfin _ _ aC b1 o1 ⟨es1,_,t2,zs1,hx,rfl,he1,pm1,Ix,his1 _ b1,tb2,by rw[l2];exact hled,?_⟩);unfold SetTable.tooFull at hf;rw[fl,m2]at hf;rw[sz1,m2];have:¬(es.size+1)*5>=t.mask*3:=λz=>hf (decide_eq_true z);omega
  by_cases hpl:t1.plain=aC
  .rw[if_pos hpl];refine ac (Zr3 hk λbb=>?_);cases bb with
   |true=>exact tail t1 tb1 hmk hld
   |false=>exact tail {t1 with plain:=aD} tb1.plainOff hmk hld
  .rw[if_neg hpl];refine ac (ag ?_);exact tail t1 tb1 hmk hld
end TT
namespace TT
open PySem PySem.SetTable PySem.Spec PyProof.Rows SX L2
def Iq(ys:List (Zl×aj)):List (Zl×aj):=ys.foldl (λacc y=>G7 acc y.1 y.2) []
theorem Zfo(xs k b):(G7 xs k b).length<=xs.length+1:=by
 unfold G7;split
 .omega
 .simp
theorem Zfp(h:z∈G7 xs k b):z∈xs\/z=(k,b):=by
 unfold G7 at h;split at h
 .exact .inl h
 .rcases bz.mp h with q|q
  .exact .inl q
  .exact .inr (ar.mp q)
theorem Zfq{ys:List (Zl×aj)}(h:ys[i]? =aA y):Iq (ys.take (i+1))=G7 (Iq (ys.take i)) y.1 y.2:=by unfold Iq;rw[List.take_add_one,h];simp
theorem Tf:∀(ys acc:List (Zl×aj)),(ys.foldl (λacc y=>G7 acc y.1 y.2) acc).length<=acc.length+ys.length
 | [],acc=>by simp
 |y::ys,acc=>by rw[List.foldl_cons];have h1:=Tf ys (G7 acc y.1 y.2);have h2:=Zfo acc y.1 y.2;rw[bf];omega
theorem Zag(ys):(Iq ys).length<=ys.length:=by have:=Tf ys [];simpa[Iq]using this
theorem Tg:∀(ys acc:List (Zl×aj)) z,z∈ys.foldl (λacc y=>G7 acc y.1 y.2) acc->z∈acc\/z∈ys
 | [],acc,z,h=>.inl h
 |y::ys,acc,z,h=>by
  rw[List.foldl_cons]at h;rcases Tg ys _ z h with q|q
  .rcases Zfp q with r|r
   .exact .inl r
   .exact .inr (by rw[r];exact af)
  .exact .inr (ao _ q)
theorem Nr(h:z∈Iq ys):z∈ys:=by
 rcases Tg ys [] z h with q|q
 .exact nomatch q
 .exact q
theorem To.re(x:To prog w B h o xs)(hk:∀z∈xs,Om prog w h' z.1 z.2):To prog w B h' o xs:=by obtain⟨es,ep,t,zs,a,b,c,d,e,_,f⟩:=x;exact⟨es,ep,t,zs,a,b,c,d,e,hk,f⟩
def Kpt(h0 h:d6):Prop:=∀b o,h0.get? b=aA o->h.get? b=aA o
theorem Zr4{St:Nat->am->Prop}(W:WalksS prog w A.in1 I fp wr G n P St)(S)(hS:S∉fp)(hu:A.in1.units+1<f6)(hS0:h0.get? S=aB)(hw0:∀b∈wr,h0.get? b=aB)(ys)(hl:ys.length=n)(hv:∀i v,P i v->∃y,ys[i]? =aA y/\v= .ref y.2)(hys:∀y∈ys,Om prog w h0 y.1 y.2)(hb:n<=75):
  ∀m i s o,i+m=n->St i s->Kpt h0 s.heap->s.heap.get? S=aA o->To prog w B s.heap o (Iq (ys.take i))->
  (∀s' o',Moved (S::wr) G s s'->Kpt h0 s'.heap->s'.heap.get? S=aA o'->To prog w B s'.heap o' (Iq ys)->R (.ok (.ret .none)) s')->codeAny (b4 prog w) A (.builtin "set.update.loop" ⟨[.ref S,.ref I],[]⟩) R s:=by
 have nw:S∉wr:=λz=>hS (W.sub _ z);have up:∀b∈wr,b∈S::wr:=λ_ z=>ao _ z;have kz:∀{l:List (Zl×aj)} {h:d6},Kpt h0 h->(∀z∈l,z∈ys)->∀z∈Iq l,Om prog w h z.1 z.2:=fun{l h} kp hl z hz=>(hys z (hl z (Nr hz))).mono kp;have tk:∀i,∀z∈ys.take i,z∈ys:=λi z hz=>List.mem_of_mem_take hz;intro m;induction m with
 |zero=>intro i s o hi st kp ho hO hR;obtain rfl:i=n:=hi;refine codeAny_builtin PyProof.Rows.F.entry_set_update_loop ?_;rw[ie PyProof.Rows.F.plain_set_update_loop _];show bg _ A.in1 (pyNext (.ref I) >>=_) _ _ s;refine ac (W.done s _ _ st λs' mv=>?_);have kp':Kpt h0 s'.heap:=λb x e=>mv.heap b x (λz=>by rw[hw0 b z]at e;cases e) (kp b x e);rw[<-hl,List.take_length]at hO;exact ag (hR s' o (mv.mono up) kp' (mv.heap S _ nw ho) (hO.re (kz kp' λ_ z=>z)))
 |succ m ih=>
  intro i s o hi st kp ho hO hR;have hlt:i<n:=by omega
  refine codeAny_builtin PyProof.Rows.F.entry_set_update_loop ?_;rw[ie PyProof.Rows.F.plain_set_update_loop _];show bg _ A.in1 (pyNext (.ref I) >>=_) _ _ s;refine ac (W.item i s _ _ hlt st λv s1 pv st1 mv=>?_);obtain⟨y,hy,rfl⟩:=hv i v pv;have ho1:=mv.heap S _ nw ho;have kp1:Kpt h0 s1.heap:=λb x e=>mv.heap b x (λz=>by rw[hw0 b z]at e;cases e) (kp b x e);have hny:Om prog w s1.heap y.1 y.2:=(hys y (b5 hy)).mono kp1;show bg _ A.in1 (holding [b8 y.2] (setAdd S (.ref y.2)) >>=_) _ _ s1;refine ac (gm ?_);unfold setAdd;refine gm (ac (Zcx hu hny ?_));refine Zwx (s:={s1 with toks:=s1.toks+T7 y.1}) (B:=B) (xs:=Iq (ys.take i)) hu ho1 (hO.re (kz kp1 (tk i))) hny (by have:=Zag (ys.take i);rw[gv]at this;omega) λh2 o2 b sb g2 O2=>?_;have kp2:Kpt h0 h2:=λc x e=>by
   have hc:c≠S:=λz=>by rw[z,hS0]at e;cases e
   rw[sb.2 c hc];exact kp1 c x e
  refine ag ⟨plainId_quiet PyProof.Rows.F.plain_set_update_loop _,ih (i+1) _ o2 (by omega) (W.frame _ s1 _ _ st1 (Nat.le_add_right _ _) λc hc x e=>?_) kp2 g2 ?_ λs3 o3 m3 k3 g3 O3=>?_⟩
  .rw[sb.2 c λz=>hS (z▸hc)];exact e
  .rw[Zfq hy];exact O2
  .refine hR s3 o3 (Moved.trans W.gtrans ((mv.mono up).then_heap (Nat.le_add_right _ _) λc x hc e=>?_) m3) k3 g3 O3;rw[sb.2 c λz=>hc (z▸af)];exact e
theorem Zr5:To prog w (By w) h (Mu w) []:=⟨#[],0,_,[],⟨rfl,rfl,rfl⟩,rfl,rfl,List.Perm.nil,df,(λz hz=>nomatch hz),Tb.fresh _ _ _,rfl,by show 0*5<7*3;decide⟩
theorem S5{s:am}(hh:A.handled=aB)(hu:A.units+5<f6)(hl:s.heap.IsList l its)(hi:its.toList=ys.map λy=>b8 y.2)(hys:∀y∈ys,Om prog w s.heap y.1 y.2)(hb:ys.length<=75)(h:∀h' tk o,h'.get? s.heap.objs.size=aA o->To prog w (By w) h' o (Iq ys)->(∀b x,b<s.heap.objs.size->s.heap.get? b=aA x->h'.get? b=aA x)->Q (.ref s.heap.objs.size) {s with heap:=h',toks:=tk}):
  bg (b4 prog w) A (call (.type "set") [.ref l]) Q E s:=by
 have hsz:its.size=ys.length:=by rw[<-ay,hi,aq]
 obtain⟨c,tl,hmro⟩:=PySem.F.called_set.mro;have hmade:=PySem.F.called_set.made;have hsub:=PySem.F.called_set.sub;have h1:=PySem.F.called_set.notType;have h2:=PySem.F.called_set.canCreate;have hct:=PySem.F.typeCall_set_1 (.ref l);refine wpAny_call (codeAny_of_tree ?_);show bg _ _ (callAny (.type "set") _) _ _ _;refine ag ⟨Code.quiet_builtin _ (by decide+kernel),codeAny_builtin PySem.F.entry_type_call ?_⟩;rw[Around.under_plain (weight_type_call_type "set" [.ref l] []) rfl]
 repeat (any_goals (first|assumption|wp_step))
 refine codeAny_mono (Zix (.ref l) (E:=E) (Q:=λv s1=>v= .ref s.heap.objs.size/\s1={s with heap:=s.heap.push (Mu w)}) ⟨rfl,rfl⟩) λr s1 hr=>?_;cases r with
 |error e=>exact hr
 |ok fl=>
  cases fl with
  |ret obj=>
   obtain⟨rfl,rfl⟩:=hr;have hS:(s.heap.push (Mu w)).get? s.heap.objs.size=aA (Mu w):=bp _ rfl;have hT:Shared.TypeIs {s with heap:=s.heap.push (Mu w)} (.ref s.heap.objs.size) "set":=⟨_,hS,rfl⟩
   have hli:=PySem.F.called_set.init.lookup;have hbi:=PySem.F.called_set.init.bind (.ref s.heap.objs.size)
   repeat (any_goals (first|assumption|wp_step))
   refine codeAny_mono (codeAny_call_builtin (R:=wants (λr s2=>r= .none/\∃h' tk o,s2={s with heap:=h',toks:=tk}/\h'.get? s.heap.objs.size=aA o/\To prog w (By w) h' o (Iq ys)/\(∀b x,b<s.heap.objs.size->s.heap.get? b=aA x->h'.get? b=aA x)) E)
    PySem.F.called_set.init.plain PySem.F.entry_set_init (check_set_init_1 hT ?_)) λr2 s2 hr2=>?_
   .obtain⟨ol,hol,hcl,nl,hdl⟩:=hl;obtain⟨ocls,od,odata,osl⟩:=ol;simp only at hcl hdl;subst hcl hdl;have hol':(s.heap.push (Mu w)).get? l=aA {cls:=.type "list",dict:=od,data:=.seq its nl,slots:=osl}:=au _ hol;have hsa:=PySem.F.sub_list_set;have hsb:=PySem.F.sub_list_frozenset;have hsc:(Value.type "list"==Value.type "dict")=aD:=by decide
    have hl1:(s.heap.push (Mu w)).IsList l its:=⟨_,hol',rfl,nl,rfl⟩
    unfold Builtin.«set.__init__» noKeywords Builtin.Frozenset.updateFrom;generalize hPI:pyIter=PI;wp_walk;subst hPI;refine wpAny_pyIter_list hl1 (ac (wpAny_runValue ?_));have ll:l<s.heap.objs.size:=bo hol;have hh3:A.in1.in1.in1.handled=aB:=by simp[hh]
    have sz:(s.heap.push (Mu w)).objs.size=s.heap.objs.size+1:=Heap.size_push _ _;have ne:l≠(s.heap.push (Mu w)).objs.size:=by rw[sz];exact cf (Nat.lt_succ_of_lt ll)
    have nf:s.heap.objs.size∉[(s.heap.push (Mu w)).objs.size,l]:=by rw[sz];simp only[bx,List.not_mem_nil,or_false,not_or];exact⟨cf (Nat.lt_succ_self _),Nat.ne_of_gt ll⟩
    refine Zr4 (h0:=s.heap) ((Walks.list hh3 _ l ne its).toS) s.heap.objs.size nf (by show A.units+1+1+1+1<f6;omega) (Heap.get?_none_of_le (ba _)) (λb hb'=>?_) ys hsz.symm (λi v hv=>?_) hys (by omega) its.size 0 _ (Mu w) (by omega)
     ⟨⟨_,bp _ rfl,rfl,rfl⟩,(hl1.push _)⟩ (λb o e=>au _ (au _ e)) (au _ hS) Zr5 λs' o' mv kp go Oo=>?_
    .have:b=(s.heap.push (Mu w)).objs.size:=by simpa using hb'
     rw[this,sz];exact Heap.get?_none_of_le (Nat.le_succ _)
    .have hv':its[i]? =aA v:=hv;rw[<-c9,hi,az]at hv';obtain⟨y,hy,rfl⟩:=cm.mp hv';exact⟨y,hy,rfl⟩
    have eg:s'.gens=s.gens:=mv.gens;have ed:s'.drawn=s.drawn:=mv.drawn;have eo:s'.os=s.os:=mv.os;have es:s'={s with heap:=s'.heap,toks:=s'.toks}:=by cases s';simp only at eg ed eo;subst eg ed eo;rfl
    show bg _ _ _ _ _ _;refine ag ?_;show bg _ _ (ret ck) _ _ _;exact ag ⟨rfl,s'.heap,s'.toks,o',es,go,Oo,λb x hb e=>kp b x e⟩
   .cases r2 with
    |error e=>exact hr2
    |ok f2=>
     cases f2 with
     |ret r=>
      obtain⟨rfl,h',tk,o',rfl,g',O',k'⟩:=hr2
      repeat (any_goals (first|assumption|wp_step))
      exact h _ _ _ g' O' k'
     |_=>exact hr2.elim
  |_=>exact hr.elim
theorem Zwy(hh:A.handled=aB)(ho:s.heap.get? r=aA o)(hx:o.ExactSet)(hd:o.data= .set es ep t)(hf:t.fits es.size=aC)(hled:t.led= !By w)(rise:G4 t.place.toList)(hr:es.size<=1000)(hS:S≠r)(hl:s.heap.get? S=aA (Fa #[] c))(hR:∀h' d c' (ord:List ah),ord.Perm (es.toList.map (·.2))->(∀b x,b≠S->s.heap.get? b=aA x->h'.get? b=aA x)->h'.get? S=aA (Fa ord.toArray c')->R (.ok (.ret res)) {s with heap:=h',drawn:=d}):
  bg (b4 prog w) A.in1 (Builtin.List.listExtendWith (.ref S) (.ref r) res) (λfin s'=>match fin with| .done f=>R (.ok f) s'| .again c'=>c'.quiet=aC/\codeAny (b4 prog w) A c' R s') (λe s'=>R (.error e) s') s:=by
 have hb:es.size<scanBound:=by unfold scanBound;omega
 have psz:t.place.size=es.size:=by unfold SetTable.fits at hf;simp only[Bool.and_eq_true,beq_iff_eq]at hf;exact hf.1
 have hT:s.TypeIs (.ref r) "set":=⟨o,ho,hx.1⟩
 have hlS:S<s.heap.objs.size:=bo hl;have hlr:r<s.heap.objs.size:=bo ho;unfold Builtin.List.listExtendWith;refine ac (wpAny_typeOf (T:="set") hT ?_);have z1:Builtin.List.listSameRef (.ref S) (.ref r)=aD:=by simp[Builtin.List.listSameRef,hS]
 have z2:(Value.type "set"==Value.type "list")=aD:=by decide
 have z3:(Value.type "set"==Value.type "tuple")=aD:=by decide
 simp only[z1,z2,z3,Bool.or_false,bi,if_false];have hh':A.in1.handled=aB:=hh;refine ac (Ziy ho hx hd hf hb (λhc=>?_) λhc ps d hp=>?_)
 .have rI:r≠s.heap.objs.size:=cf hlr;have SI:S≠s.heap.objs.size:=cf hlS;have nf:S∉[s.heap.objs.size,r]:=by simp only[bx,List.not_mem_nil,or_false,not_or];exact⟨SI,hS⟩
  have old:∀b x,s.heap.get? b=aA x->b≠s.heap.objs.size:=λb x e=>cf (bo e);cases hB:By w with
  |false=>
   have hl':t.led=aC:=by rw[hled,hB];rfl
   have hp:(!t.plain&&decide (es.size > 1))=aD:=by rw[hB]at hc;simpa using hc
   refine Nk (Xy hh' rI hd hf hB hl' hp rise psz) nf (by rw[aq,ay];omega) ⟨o,au _ ho,hx.1⟩ ⟨bp _ rfl,au _ ho⟩ (au _ hl) (f:=λb=>b||_) λh' c' k g=>?_;exact hR h' s.drawn c' _ (List.Perm.refl _) (λb x hb e=>k b x hb (old b x e) (au _ e)) g
  |true=>have pp:=Zfd (w.params.setOrder r ep) es;refine Nk (Zb3 hh' rI hd hf hB) nf (by rw[aq,pp.length_eq,ay];omega) ⟨o,au _ ho,hx.1⟩ ⟨bp _ rfl,au _ ho⟩ (au _ hl) (f:=λb=>b||_) λh' c' k g=>?_;exact hR h' s.drawn c' _ (pp.map _) (λb x hb e=>k b x hb (old b x e) (au _ e)) g
 .have pm0:∀p∈ps,p<es.size:=λp hq=>cu.mp (hp.mem_iff.mp hq);have rI:r≠s.heap.objs.size+1:=cf (Nat.lt_succ_of_lt hlr);have TI:s.heap.objs.size≠s.heap.objs.size+1:=cf (Nat.lt_succ_self _);have nf:S∉[s.heap.objs.size+1,r,s.heap.objs.size]:=by simp only[bx,List.not_mem_nil,or_false,not_or];exact⟨cf (Nat.lt_succ_of_lt hlS),hS,cf hlS⟩
  have up:∀b x,s.heap.get? b=aA x->((s.heap.push (Mw ps)).push (Vu (.ref s.heap.objs.size) 0 r es.size ep)).get? b=aA x:=λb x e=>au _ (au _ e);have sz2:(s.heap.push (Mw ps)).objs.size=s.heap.objs.size+1:=Heap.size_push _ _;have gI:((s.heap.push (Mw ps)).push (Vu (.ref s.heap.objs.size) 0 r es.size ep)).get? (s.heap.objs.size+1)=aA (Vu (.ref s.heap.objs.size) 0 r es.size ep):=by rw[<-sz2];exact bp _ rfl
  have gT:((s.heap.push (Mw ps)).push (Vu (.ref s.heap.objs.size) 0 r es.size ep)).get? s.heap.objs.size=aA (Mw ps):=au _ (bp _ rfl);have pl:(ps.map λp=>es.getD p (0,ck)).Perm es.toList:=by
   refine(hp.map _).trans ?_;have:(cq es.size).map (λp=>es.getD p (0,ck))=es.toList:=by
    apply List.ext_getElem?;intro i;rw[az];by_cases hi:i<es.size
    .rw[List.getElem?_range hi,c9];simp[Array.getD,hi]
    .rw[dy (by simpa using hi),dy (by simpa using hi)];rfl
   rw[this]
  have eo:(ps.map λp=>(es.getD p (0,ck)).2)=(ps.map λp=>es.getD p (0,ck)).map (·.2):=by rw[cg];rfl
  refine Nk (s:={s with heap:=(s.heap.push (Mw ps)).push (Vu (.ref s.heap.objs.size) 0 r es.size ep),drawn:=d}) (Xz hh' rI TI hd hf pm0) nf (by rw[aq,hp.length_eq,List.length_range];omega) ⟨o,up _ _ ho,hx.1⟩ ⟨gI,up _ _ ho,gT⟩ (up _ _ hl) (f:=λb=>b||_) λh' c' k g=>?_;rw[eo]at g;exact hR h' d c' _ (pl.map _) (λb x hb e=>k b x hb (cf (Nat.lt_succ_of_lt (bo e))) (up b x e)) g
theorem Zfr(hh:A.handled=aB)(ho:s.heap.get? r=aA o)(hO:To prog w (By w) s.heap o xs)(hr:xs.length<=1000)(h:∀(zs:List (Zl×aj)) h' d,zs.Perm xs->(∀b x,s.heap.get? b=aA x->h'.get? b=aA x)->s.heap.objs.size<=h'.objs.size->Q (zs.map λz=>b8 z.2) {s with heap:=h',drawn:=d}):bg (b4 prog w) A (collect (.ref r)) Q E s:=by
 obtain⟨es,ep,t,zs,hx,hd,he,pm,nd,his,tb,hled,hroom⟩:=hO;have zl:zs.length=es.size:=by rw[<-ay,he,aq]
 have xl:xs.length=es.size:=by rw[<-pm.length_eq,zl]
 have hlr:r<s.heap.objs.size:=bo ho;have nS:s.heap.objs.size≠r:=Nat.ne_of_gt hlr;unfold collect;refine ac (wpAny_runValue (codeAny_builtin PySem.F.entry_proto_collect ?_));rw[ie PySem.F.plain_proto_collect _];show bg _ A.in1 (newList [] >>=λl=>again (.builtin "list.__iadd__" ⟨[l,.ref r],[]⟩)) _ _ s;refine ac (ff ?_);refine ag ⟨plainId_quiet PySem.F.plain_list_iadd _,codeAny_builtin PySem.F.entry_list_iadd ?_⟩;rw[ie PySem.F.plain_list_iadd _];show bg _ A.in1 (Builtin.List.listExtendWith (.ref s.heap.objs.size) (.ref r) (.ref s.heap.objs.size)) _ _ _;refine Zwy (R:=λrr s'=>match rr with
  | .ok (.ret v)=>bg (b4 prog w) A (match v with
   | .ref a=>(load a >>=λx=>match x.data with
    | .seq xs _=>pure xs.toList
    |_=>unsupported "internal:collect")
   |_=>unsupported "internal:collect") Q E s'
  | .ok _=>False
  | .error e=>E e s') (s:={s with heap:=s.heap.push (Fa #[] 0)}) (c:=0) hh (au _ ho) hx hd (tb.fits (by simp)) hled tb.rise (by omega) nS (bp _ rfl) λh' d c' ord hp hk g=>?_
 show bg _ A (load s.heap.objs.size >>=_) _ _ _;refine ac (wpAny_load g ?_);refine ag ?_;have e:ord.toArray.toList=ord:=by simp
 show Q ord.toArray.toList _;rw[e];rw[he,cg]at hp;obtain⟨zs',p',e'⟩:=R0 hp zs rfl;rw[e'];exact h zs' h' d (p'.trans pm) (λb x e=>hk b x (cf (bo e)) (au _ e)) (Nat.le_of_lt (bo g))
end TT
namespace TT
open PySem PySem.Spec PyProof.Rows L2 DL TX SX
def Zn:Zl->D
 | .inl l=>.tup (l.map D.str)
 | .inr (n,l)=>.tup [.int n,.tup (l.map D.str)]
def Tp(ks:List Zl)(k:Zl):List Zl:=if(ks.any λz=>decide (z=k))=aC then ks else ks++[k]
def Eg(ks:List Zl):List Zl:=ks.foldl Tp []
theorem Zfs(xs k b):(G7 xs k b).map (·.1)=Tp (xs.map (·.1)) k:=by
 unfold G7 Tp;have e:((xs.map (·.1)).any λz=>decide (z=k))=xs.any λz=>decide (z.1=k):=by rw[List.any_map];rfl
 rw[e];split
 .rfl
 .rw[b9];rfl
theorem Nt(ys):(Iq ys).map (·.1)=Eg (ys.map (·.1)):=by
 have go:∀(ys acc:List (Zl×aj)),(ys.foldl (λacc y=>G7 acc y.1 y.2) acc).map (·.1)=(ys.map (·.1)).foldl Tp (acc.map (·.1)):=by
  intro ys;induction ys with
  |nil=>intro acc;rfl
  |cons y ys ih=>intro acc;rw[List.foldl_cons,ih,bc,List.foldl_cons,Zfs]
 exact go ys []
def R1(ds out:List D):Prop:=out.Perm ds/\out.Pairwise λa b=>Ug 16 b a=aA aD
theorem Zcb{ks:List D}{enc:D->List Nat}(hd:∀i j,i<ks.length->j<ks.length->enc (ks.getD i .non)=enc (ks.getD j .non)->i=j)(ha:a∈ks)(hb:b∈ks)(e:enc a=enc b):a=b:=by
 obtain⟨i,hi,rfl⟩:=eh ha;obtain⟨j,hj,rfl⟩:=eh hb;have gi:ks.getD i .non=ks[i]:=by rw[bn,av hi];rfl
 have gj:ks.getD j .non=ks[j]:=by rw[bn,av hj];rfl
 have:=hd i j hi hj (by rw[gi,gj];exact e);subst this;rfl
theorem G8(h:KeysOk ds)(ha:R1 ds a)(hb:R1 ds b):a=b:=by
 obtain⟨enc,he,hd⟩:=h.ord;refine List.Perm.eq_of_pairwise (le:=λa b=>Ug 16 b a=aA aD) (λx y hx hy h1 h2=>?_) ha.2 hb.2 (ha.1.trans hb.1.symm);have mx:=ha.1.mem_iff.mp hx;have my:=hb.1.mem_iff.mp hy;rw[he _ my _ mx]at h1;rw[he _ mx _ my]at h2;have h1:¬enc y<enc x:=by simpa using h1
 have h2:¬enc x<enc y:=by simpa using h2
 exact Zcb hd mx my (List.le_antisymm (de.mp h1) (de.mp h2))
theorem Eh(h:Ry ds p):R1 ds (p.map λi=>ds.getD i .non):=by
 refine⟨?_,List.pairwise_map.mpr h.2⟩;refine(h.1.map _).trans ?_;have:(cq ds.length).map (λi=>ds.getD i .non)=ds:=by
  apply List.ext_getElem
  .simp
  .intro i h1 h2;simp[bn,av h2]
 rw[this]
theorem G9(h:KeysOk ds):∃out,R1 ds out:=let⟨_,hp⟩:=Bt h;⟨_,Eh hp⟩
theorem Gc{ks:List D}{enc:D->List Nat}:(∀i j,i<ks.length->j<ks.length->enc (ks.getD i .non)=enc (ks.getD j .non)->i=j)↔(ks.map enc).Nodup:=by
 have gi:∀i (hi:i<ks.length),ks.getD i .non=ks[i]:=λi hi=>by rw[bn,av hi];rfl
 constructor
 .intro h;refine List.pairwise_iff_getElem.mpr λi j hi hj hij e=>?_;rw[aq]at hi hj;rw[List.getElem_map,List.getElem_map]at e;have:=h i j hi hj (by rw[gi i hi,gi j hj];exact e);omega
 .intro h i j hi hj e;rw[gi i hi,gi j hj]at e;have:=(List.getElem?_inj (i:=i) (j:=j) (by rw[aq];exact hi) h).mp (by simp[hi,hj,e]);exact this
theorem S6(h:KeysOk ds)(p:es.Perm ds):KeysOk es:=by obtain⟨k,hk⟩:=h.key;obtain⟨enc,he,hd⟩:=h.ord;refine⟨⟨k,λd hd=>hk d (p.mem_iff.mp hd)⟩,enc,λa ha b hb=>he a (p.mem_iff.mp ha) b (p.mem_iff.mp hb),?_⟩;exact Gc.mpr ((p.map enc).nodup_iff.mpr (Gc.mp hd))
end TT
namespace L2
open PySem PySem.Spec PySem.Calls PyProof.Rows DL TX SX TT
theorem Ei(ok:Go P w H h)(e:Q4 H k b):Om P w h k b:=by
 cases k with
 |inl l=>exact Gz ok e
 |inr p=>
  obtain⟨n,l⟩:=p;obtain⟨c,h1,h2⟩:=e;obtain⟨_,its,r,o,q1,q2,m,q3⟩:=(show Yj P w H h b (.tup [.int n,.ref c])from ok b _ h1)
  cases r with
  |cons r1 t=>cases t with
   |cons r2 t=>cases t;obtain⟨tk,rfl⟩:=r1;cases r2;exact⟨o,_,m,tk,c,q1,q2,q3,rfl,Gz ok h2⟩
theorem Cn{K}(e:Q4 F k b):Rep K F (Zn k) (.ref b):=by
 have tx:∀l:List Str,Reps K F (l.map D.str) ((Gj l).map kV):=λl=>by
  induction l with
  |nil=>exact .nil
  |cons x l ih=>exact .cons (.str x) ih
 cases k with
 |inl l=>exact .tup e (tx l)
 |inr p=>obtain⟨n,l⟩:=p;obtain⟨c,h1,h2⟩:=e;exact .tup h1 (.cons (.int n) (.cons (.tup h2 (tx l)) .nil))
theorem R3{K}(r:Rep K F (Zn k) v):∃b,v= .ref b/\Q4 F k b:=by
 have tx:∀{l:List Str} {vs:List V},Reps K F (l.map D.str) vs->vs=(Gj l).map kV:=fun{l}=>by
  induction l with
  |nil=>intro vs h;cases h;rfl
  |cons x l ih=>intro vs h;cases h with
   |cons h t=>cases h;rw[ih t];rfl
 cases k with
 |inl l=>cases r with
  |tup h r=>rw[tx r]at h;exact⟨_,rfl,h⟩
 |inr p=>
  obtain⟨n,l⟩:=p;cases r with
  |tup h r=>cases r with
   |cons r1 t=>cases r1;cases t with
    |cons r2 t=>cases t;cases r2 with
     |tup h2 r2=>rw[tx r2]at h2;exact⟨_,rfl,_,h,h2⟩
def rSN(K:ad):List V->Hp->VK->Prop:=λvs H Q=>∃(l:aj) (ys:List (Zl×aj)),vs=[.ref l]/\W5 K H l (ys.map λy=>V.ref y.2)/\(∀y∈ys,Q4 H y.1 y.2)/\ys.length<=75/\(Iq ys).length<64/\KeysOk ((Iq ys).map λy=>Zn y.1)/\
 ∀(zs:List (Zl×aj)) (q:aj),zs.Perm (Iq ys)->R1 ((Iq ys).map λy=>Zn y.1) (zs.map λy=>Zn y.1)->H q=aB->Q (.ref q) (Z9 H q (.lst (zs.map λz=>V.ref z.2)))
theorem Znx:∀{ys:List (Zl×aj)} {its:List ah},Z2 (ys.map λy=>V.ref y.2) its->its=ys.map λy=>b8 y.2
 | [],_,h=>by cases h;rfl
 |y::ys,_,h=>by
  cases h with
  |cons r t=>cases r;rw[Znx t];rfl
theorem Zft:∀ys:List (Zl×aj),Z2 (ys.map λy=>V.ref y.2) (ys.map λy=>b8 y.2)
 | []=>.nil
 |y::ys=>.cons rfl (Zft ys)
theorem Zi6(hc:X.calm=aC)(hu:X.A.units+64<f6)(h1:X.mg "sorted"=aB)(h2:X.mg "set"=aB)(ha:PA X [a] t)(g1:Gl X "sorted")(g2:Gl X "set")(he1:a9 [.Call (.Name "set" q1) [a] [] q2] X.env=(aD,gp (.Call (.Name "set" q1) [a] [] q2) X.env)::a9 [] X.env)(hp1:(gq p2 (a9 [] X.env)).any (·.1)=aD)(he2:a9 [a] X.env=(aD,gp a X.env)::a9 [] X.env)(hp2:(gq q2 (a9 [] X.env)).any (·.1)=aD):
  PE X (.Call (.Name "sorted" p1) [.Call (.Name "set" q1) [a] [] q2] [] p2) (tCB (rSN X.K) t):=by
 intro pins s σ H Q I h;refine wpAny_Call_Name_kw (Bh I g1 h1 Te ?_);refine PyProof.Rows.callWith_builtin1 ?_ he1 hp1;rw[he1];show bg _ _ (spliced ((aD,gp (.Call (.Name "set" q1) [a] [] q2) X.env)::gq p2 (a9 [] X.env))) _ _ s;refine Calls.spliced_cons (wpAny_Call_Name_kw (Bh I g2 h2 Su ?_));refine PyProof.Rows.callWith_type1 (Wp (ha q2 pins s σ H _ I h) λus s1 ⟨vs,H1,I1,r1,z1⟩=>?_) he2 hp2;obtain⟨l,ys,rfl,hl,hn,hz,hz2,ko,q⟩:=z1;obtain⟨u,rfl,ru⟩:=Oc r1;cases ru;obtain⟨its,rv,⟨o,n,ho,hcl,_,hd⟩,_⟩:=I1.list hl;have hits:=Znx rv;have hh:=I1.ok.hd hc;refine S5 (its:=its.toArray) (ys:=ys) hh (by omega) ⟨o,ho,hcl,n,hd⟩ (by simpa using hits) (λy hy=>Ei I1.hok (hn y hy)) hz λh' tk o' ho' hO hk=>?_;show bg _ _ (spliced []) _ _ _;refine Calls.spliced_nil ?_;have kept:∀b x,s1.heap.get? b=aA x->h'.get? b=aA x:=λb x e=>hk b x (bo e) e;have I2:Inv X pins σ H1 {s1 with heap:=h',toks:=tk}:=I1.kept kept;refine Calls.call_function_entry kind_sorted plain_sorted entry_sorted (args_sorted1 _) ?_;unfold Builtin.«sorted»;refine ac (m:=checkCount "sorted" 1 1 _) (ag ?_);refine ac (Zfr (A:=X.A.in1) (s:={s1 with heap:=h',toks:=tk}) hh ho' hO (by omega) λzs h3 d hp hk3 ge=>?_);have I3:Inv X pins σ H1 {s1 with heap:=h3,toks:=tk,drawn:=d}:=(I2.kept (t':=tk) hk3).drawnAt d;have kz:KeysOk (zs.map λy=>Zn y.1):=S6 ko (hp.map _);obtain⟨enc,he,hdis⟩:=id kz.ord;obtain⟨kb,hkb⟩:=id kz.key;have hu2:X.A.in1.in1.units+16<cLine:=by show X.A.units+1+1+16<f6;omega
 have zl:zs.length=(Iq ys).length:=hp.length_eq;have dl:(zs.map λy=>Zn y.1).length=(zs.map λz=>b8 z.2).length:=by simp
 have hnz:∀z∈zs,Q4 H1 z.1 z.2:=λz hz'=>hn z (Nr (hp.mem_iff.mp hz'));refine Zb8 (its:=zs.map λz=>b8 z.2) (kvs:=zs.map λz=>V.ref z.2) (KeyOk:=λj kv H=>Rep X.K H ((zs.map λy=>Zn y.1).getD j .non) kv) (O:=strKind.toKeyOrd) (key:=D5 enc (zs.map λy=>Zn y.1)) I3 (by rw[aq];omega) (Zft zs) (λj kv e=>?_) (Zfi hu2 hkb he dl) ?hQ
 .rw[az]at e;obtain⟨z,ez,rfl⟩:=cm.mp e;have:(zs.map λy=>Zn y.1).getD j .non=Zn z.1:=by rw[bn,az,ez];rfl
  rw[this];exact Cn (hnz z (b5 ez))
 case hQ=>
  intro p D s3 cc hp2' hs hD0 I4 fD gD;have sb:=Zfj he dl hp2' hs;have pt:p.toList.Perm (cq zs.length):=by have:=sb.1;rw[aq]at this;exact this
  have bnd:∀i∈p.toList,i<zs.length:=λi hi=>cu.mp (pt.mem_iff.mp hi);have g1':∀i∈p.toList,(zs.map λz=>b8 z.2).getD i ck=b8 (zs.getD i (.inl [],0)).2:=λi hi=>by have hb:=bnd i hi;simp[bn,az,av hb]
  have g2':∀i∈p.toList,(zs.map λy=>Zn y.1).getD i .non=Zn (zs.getD i (.inl [],0)).1:=λi hi=>by have hb:=bnd i hi;simp[bn,az,av hb]
  generalize hzs2:p.toList.map (λi=>zs.getD i (.inl [],0))=zs2;have e1:(p.toList.map λi=>(zs.map λz=>b8 z.2).getD i ck)=zs2.map λz=>b8 z.2:=by rw[<-hzs2,cg];exact List.map_congr_left g1'
  have e2:(p.toList.map λi=>(zs.map λy=>Zn y.1).getD i .non)=zs2.map λy=>Zn y.1:=by rw[<-hzs2,cg];exact List.map_congr_left g2'
  have pz:zs2.Perm zs:=by
   rw[<-hzs2];refine(pt.map _).trans ?_;have:(cq zs.length).map (λi=>zs.getD i (.inl [],0))=zs:=by
    apply List.ext_getElem
    .simp
    .intro i h1 h2;simp[bn,av h2]
   rw[this]
  have so:=Eh sb;rw[e2]at so;have so2:R1 ((Iq ys).map λy=>Zn y.1) (zs2.map λy=>Zn y.1):=⟨so.1.trans (hp.map _),so.2⟩
  rw[e1]at gD;have new:Yj X.prog X.w (Z9 H1 D (.lst (zs2.map λz=>V.ref z.2))) s3.heap D (.lst (zs2.map λz=>V.ref z.2)):=by refine⟨?_,zs2.map λz=>b8 z.2,cc,Zft zs2,gD⟩;rw[aq,pz.length_eq,fu];omega
  exact⟨.ref D,_,Inv.trackO I4 hD0 fD.1 fD.2.1 fD.2.2.2.2.1 fD.2.2.2.2.2 new,rfl,q zs2 D (pz.trans hp) so2 fD.1⟩
end L2
namespace DL
open PySem PySem.Spec PyProof.Rows L2 SX TT TX
variable{K:ad}
def nk?:D->Option Zl
 | .tup xs=>match strs? xs with
  |some l=>aA (.inl l)
  |none=>match xs with
   | [.int n,.tup ys]=>(strs? ys).bind λl=>aA (.inr (n,l))
   |_=>aB
 |_=>aB
theorem Ej:∀l,strs? (l.map D.str)=aA l
 | []=>rfl
 |x::l=>by rw[bc,strs?,Ej l];rfl
theorem Nu:∀{xs:List D} {l:List Str},strs? xs=aA l->xs=l.map D.str
 | [],_,h=>by cases h;rfl
 |x::xs,l,h=>by
  unfold strs? at h;split at h
  .rename_i e;cases e
  .rename_i y r e;cases e;obtain⟨t,h1,h2⟩:=aa.mp h;cases h2;rw[Nu h1];rfl
  .cases h
@[simp]theorem Co(k):nk? (Zn k)=some k:=by
 cases k with
 |inl l=>show(match strs? (l.map D.str)with|some l=>_|none=>_)=_;rw[Ej]
 |inr p=>obtain⟨n,l⟩:=p;show(strs? (l.map D.str)).bind _=_;rw[Ej];rfl
theorem Zfu(h:nk? d=aA k):d=Zn k:=by
 unfold nk? at h;split at h
 .rename_i xs;split at h
  .rename_i l hl;cases h;rw[Nu hl];rfl
  .split at h
   .obtain⟨l,h1,h2⟩:=aa.mp h;cases h2;rw[Nu h1];rfl
   .cases h
 .cases h
def nks?:List D->Option (List Zl)
 | []=>aA []
 |d::r=>(nk? d).bind λk=>(nks? r).bind λks=>aA (k::ks)
@[simp]theorem Ty:∀ks,nks? (ks.map Zn)=some ks
 | []=>rfl
 |k::ks=>by rw[bc,nks?,Co,Ty ks];rfl
theorem Nv:∀{ds:List D} {ks:List Zl},nks? ds=aA ks->ds=ks.map Zn
 | [],_,h=>by cases h;rfl
 |d::ds,_,h=>by obtain⟨k,h1,h2⟩:=aa.mp (show(nk? d).bind _=_ from h);obtain⟨ks,h3,h4⟩:=aa.mp h2;cases h4;rw[Zfu h1,Nv h3];rfl
theorem Ek:∀{ks:List Zl} {vs:List V},Reps K F (ks.map Zn) vs->∃ys:List (Zl×aj),ys.map (·.1)=ks/\vs=ys.map (λy=>V.ref y.2)/\∀y∈ys,Q4 F y.1 y.2
 | [],_,h=>by cases h;exact⟨[],rfl,rfl,λ_ z=>nomatch z⟩
 |k::ks,_,h=>by
  cases h with
  |cons h t=>
   obtain⟨b,rfl,hb⟩:=R3 h;obtain⟨ys,rfl,rfl,hy⟩:=Ek t;refine⟨(k,b)::ys,rfl,rfl,λy hy'=>?_⟩;rcases bx.mp hy' with z|z
   .rw[z];exact hb
   .exact hy y z
theorem Kq:∀{ys:List (Zl×aj)},(∀y∈ys,Q4 F y.1 y.2)->Reps K F (ys.map λy=>Zn y.1) (ys.map λy=>V.ref y.2)
 | [],_=>.nil
 |y::ys,h=>.cons (Cn (h y af)) (Kq λz hz=>h z (ao _ hz))
open Classical in
def El(ks:List Zl):Option SV:=
 if h:ks.length<=75/\(Eg ks).length<64/\KeysOk ((Eg ks).map Zn)then aA (.ol (Classical.choose (G9 h.2.2)))else aB
theorem Zfv(e:El ks=aA sv):ks.length<=75/\(Eg ks).length<64/\KeysOk ((Eg ks).map Zn)/\∃out,R1 ((Eg ks).map Zn) out/\sv= .ol out:=by
 unfold El at e;split at e
 .rename_i h;cases e;exact⟨h.1,h.2.1,h.2.2,_,Classical.choose_spec (G9 h.2.2),rfl⟩
 .cases e
theorem Zfw(h1:ks.length<=75)(h2:(Eg ks).length<64)(h3:KeysOk ((Eg ks).map Zn))(h4:R1 ((Eg ks).map Zn) out):El ks=aA (.ol out):=by unfold El;rw[dif_pos ⟨h1,h2,h3⟩,G8 h3 (Classical.choose_spec (G9 h3)) h4]
def Cp:List D->Option SV
 | [.lst xs]=>(nks? xs).bind El
 |_=>aB
@[simp]theorem Kr(ks):Cp [.lst (ks.map Zn)]=El ks:=by show(nks? (ks.map Zn)).bind _=_;rw[Ty];rfl
section
variable{Z:Ent K}{H:Hp}{σ:L2.St}{Q:VK}
theorem Zny:Us Z (rSN K) Cp:=by
 intro F H σ δ own vs ds sv Q s r e k;unfold Cp at e;split at e
 .obtain⟨ks,e1,e2⟩:=aa.mp e;obtain⟨z1,z2,ko,out,ho,rfl⟩:=Zfv e2;have:=Nv e1;subst this;cases r with
  |cons h t=>
   cases t;obtain⟨a,us,rfl,ha,ru⟩:=h.lst s.le;obtain⟨ys,rfl,rfl,hy⟩:=Ek ru;have ek:(Iq ys).map (λy=>Zn y.1)=(Eg (ys.map (·.1))).map Zn:=by rw[<-Nt,cg];rfl
   refine⟨a,ys,rfl,ha,λy hy'=>(hy y hy').mono λ_ _ q=>s.le _ _ q,by simpa using z1,?_,by rw[ek];exact ko,λzs q hp so hq=>?_⟩
   .have:=congrArg List.length (Nt ys);rw[aq]at this;omega
   .have eo:out=zs.map λy=>Zn y.1:=by rw[ek]at so;exact G8 ko ho so
    rw[eo]at k;exact k.lst s (Kq λz hz=>hy z (Nr (hp.mem_iff.mp hz))) hq
 .cases e
end
section
variable{X:Cx}{Z:Ent X.K}{a b c:cj}{fa fb fc:FE}{pos:Pos}
theorem Nw{p1 q1 q2}(hc:X.calm=aC)(hv:X.A.units+64<f6)(h1:X.mg "sorted"=aB)(h2:X.mg "set"=aB)(ha:PE X a (Ze Z fa))(g1:Gl X "sorted":=by rfl)(g2:Gl X "set":=by rfl)(he1:a9 [.Call (.Name "set" q1) [a] [] q2] X.env=(aD,gp (.Call (.Name "set" q1) [a] [] q2) X.env)::a9 [] X.env:=by rfl)(hp1:(gq pos (a9 [] X.env)).any (·.1)=aD:=by rfl)(he2:a9 [a] X.env=(aD,gp a X.env)::a9 [] X.env:=by rfl)(hp2:(gq q2 (a9 [] X.env)).any (·.1)=aD:=by rfl):
  PE X (.Call (.Name "sorted" p1) [.Call (.Name "set" q1) [a] [] q2] [] pos) (Ze Z (Yq Cp (Zc fa Zj))):=
 (Zi6 hc hv h1 h2 (Zk ha Ya he2) g1 g2 he1 hp1 he2 hp2).imp λ_ _ _ h=>Am Zny h
end
end DL
namespace L2
open PySem PySem.Spec PySem.Calls PyProof.Rows
section
variable{prog:b6}{w:c7}{K:Type}[DecidableEq K]{knd:HeapKind prog w K}{A:dh}{E:ah->am->Prop}{s:am}
theorem S7(hu:knd.room A)(hkey:knd.is s.heap k a)(hm:s.heap.DictOfH knd d xs)(hold:∀p,atKey xs k=aA p->Q p.2 {s with toks:=s.toks+knd.draws k})(hnew:atKey xs k=aB->∀h',h'.DictOfH knd d (xs++[(k,a,v)])->io d s.heap h'->Q v {s with heap:=h',toks:=s.toks+knd.draws k})(hsz:xs.length<=sizeLine):
  bg (b4 prog w) A (dictSetDefault d (.ref a) v) Q E s:=by
 obtain⟨o,es,ep,ho,hc,hd,he,his,hn⟩:=hm;unfold dictSetDefault
 try with_reducible refine gm ?_
 refine ac (knd.pyHash hu hkey (ac (wpAny_dictFind_heap (s:={s with toks:=s.toks+knd.draws k}) hu hkey ho hd he his hn ?_ ?_)))
 .intro hno;have hnot:k∉xs.map (·.1):=not_mem_keys_of_get hno;dsimp only;refine ac (wpAny_rule (ac (wpAny_updateDictKeys (hz:=by have e:=size_of_entries he;omega) (s:={s with toks:=s.toks+knd.draws k}) ho hd (ag (hnew (atKey_none_of_get hno) _ ⟨_,_,ep+1,g6 _ ho (Obj.isFreed_of_dict (Obj.data_mapDictKeys hd _)),
   hc.mapDictKeys _,Obj.data_mapDictKeys hd _,?_,?_,?_⟩ (Heap.SameBut.update ..))))))
  .simp[he,entryOfKey]
  .intro x hx;rcases bz.mp hx with hx|hx
   .exact knd.keeps (his x hx) ho hd (Heap.SameBut.update ..)
   .simp only[ar]at hx;subst hx;exact knd.keeps hkey ho hd (Heap.SameBut.update ..)
  .rw[b9,dq];refine⟨hn,by simp,?_⟩;intro x hx y hy;simp only[bc,List.map_nil,ar]at hy;subst hy;exact λe=>hnot (e▸hx)
 .intro j p hj;dsimp only;refine ac (wpAny_dictEntries (s:={s with toks:=s.toks+knd.draws k}) ho hd ?_);rw[entry_at he j,hj];exact ac (wpAny_rule (ag (hold p (atKey_of_get hn hj))))
end
def KNt(H:Hp):List (Zl×V)->List (Zl×aj×ah)->Prop:=Paired λ(p:Zl×V) (q:Zl×aj×ah)=>p.1=q.1/\Q4 H p.1 q.2.1/\Zy p.2 q.2.2
theorem Zfx(ok:Go P w H h)(e:H a=aA (.dN kvs ep bs)):kvs.length<=sizeLine/\(a==sysModules)=aD/\
  ∃xs,KNt H kvs xs/\h.DictOfH (Fj P w) a xs/\(xs.map λx=>x.2.1)=bs:=by
 obtain⟨z,y,xs,r,o,es,h1,h2,h3,h4,h5,h6⟩:=(show Yj P w H h a (.dN kvs ep bs)from ok a _ e)
 refine⟨z,y,xs,r,⟨o,es,ep,h1,h2,h3,h4,λx hx=>?_,h5⟩,h6⟩;have all:∀{l:List (Zl×V)} {m:List (Zl×aj×ah)},KNt H l m->∀x∈m,(Fj P w).is h x.1 x.2.1:=by
  intro l m q;induction q with
  |nil=>intro x hx;exact nomatch hx
  | @cons p q ps qs hq t ih=>
   intro x hx;rcases bx.mp hx with e|hx
   .subst e;exact Ei ok (by rw[<-hq.1];exact hq.2.1)
   .exact ih x hx
 exact all r x hx
theorem KNt.val(r:KNt H kvs xs)(k):Ti (Qd kvs k) ((atKey xs k).map (·.2)):=by
 induction r with
 |nil=>exact True.intro
 | @cons p q ps qs hq t ih=>
  by_cases e:p.1=k
  .rw[O6 e];have:atKey (q::qs) k=aA q.2:=by unfold atKey;rw[List.find?_cons_of_pos (by rw[<-hq.1];exact decide_eq_true e)];rfl
   rw[this];exact hq.2.2
  .rw[Uq e];have:atKey (q::qs) k=atKey qs k:=by unfold atKey;rw[List.find?_cons_of_neg (by rw[<-hq.1];simpa using e)]
   rw[this];exact ih
def IsN(H:Hp)(a:aj):Prop:=∃kvs ep bs,H a=aA (.dN kvs ep bs)
def Zr7(td ty:TE):TE:=λσ H Q=>td σ H λx H1=>ty σ H1 λy H2=>∃a b kvs ep bs k v,x= .ref a/\y= .ref b/\H2 a=aA (.dN kvs ep bs)/\Q4 H2 k b/\Qd kvs k=aA v/\Q v H2
def Zle(td ty tx:TE):TE:=λσ H Q=>td σ H λx H1=>∃a,x= .ref a/\IsN H1 a/\ty σ H1 λy H2=>tx σ H2 λz H3=>∃kvs ep bs k b,y= .ref b/\H3 a=aA (.dN kvs ep bs)/\Q4 H3 k b/\kvs.length<sizeLine/\
 ((∃v,Qd kvs k=aA v/\Q v H3)\/(Qd kvs k=aB/\∀ep',Q z (Z9 H3 a (.dN (kvs++[(k,z)]) ep' (bs++[b])))))
theorem Zlf{A:dh}(hu:A.units+2<f6):(Fj P w).room A.in1:=hu
theorem Zi7(hu:X.A.units+2<f6)(ho:PE X o td)(hi:PE X i ty)(hs:Zmh i):PE X (.Subscript o i pos) (Zr7 td ty):=by intro pins s σ H Q I h;refine Da PySem.F.slot_dict_getitem.lookup hs (Wp (ho pins s σ H _ I h) λu s1 ⟨x,H1,I1,rx,q1⟩=>Wp (hi pins s1 σ H1 _ I1 q1) λiv s2 zq9=>?_);obtain⟨y,H2,I2,ry,a,b,kvs,ep,bs,k,v,ex,ey,ea,eb,ev,q2⟩:=zq9;subst ex ey;obtain rfl:u=b8 a:=rx;obtain rfl:iv=b8 b:=ry;obtain⟨z,hd,xs,rel,dd,_⟩:=Zfx I2.hok ea;obtain⟨w',hw,rw'⟩:=Ti.some_of (v:=v) (o:=(atKey xs k).map (·.2)) (by rw[<-ev];exact rel.val k);obtain⟨p,hp,hp2⟩:=cm.mp hw;refine⟨dd.typeIs,wpAny_getItem_heap (Zlf hu) (Ei I2.hok eb) dd hp ?_⟩;rw[hp2];exact⟨v,H2,I2.tok _,rw',q2⟩
theorem Zah(hu:X.A.units+2<f6)(ho:PE X o td)(he:PE X e ty)(hf:PE X f tx)(m:M2 X o "setdefault" apos e f cpos):PE X (.Call (.Attribute o "setdefault" apos) [e,f] [] cpos) (Zle td ty tx):=by
 intro pins s σ H Q I h;refine wpAny_Call_method m.base m.few m.line PySem.F.plainAttrs_dict PySem.F.slot_dict_setdefault PySem.F.type_dict_setdefault (Wp (ho pins s σ H _ I h) λu s1 zq9=>?_);obtain⟨x,H1,I1,rx,a,ex,d,q1⟩:=zq9;subst ex;obtain rfl:u=b8 a:=rx;obtain⟨kvs1,ep1,bs1,ea1⟩:=d;obtain⟨_,_,xs1,_,dd1,_⟩:=Zfx I1.hok ea1;refine⟨dd1.typeIs,λb q=>?_,?_⟩
 .cases q;obtain⟨ob,_,_,h1,h2,_⟩:=dd1;exact⟨ob,h1,h2.2.1⟩
 rw[m.trees];refine Calls.callWith_builtin rfl (Calls.evalArgs_plain (Calls.spliced_cons (Wp (he pins s1 σ H1 _ I1 q1) λiv s2 ⟨y,H2,I2,ry,q2⟩=>
  Calls.spliced_cons (Wp (hf pins s2 σ H2 _ I2 q2) λfv s3 ⟨z,H3,I3,rz,kvs,ep,bs,k,b,ey,ea,eb,hl,q3⟩=>Calls.spliced_nil ?_))))
 subst ey;obtain rfl:iv=b8 b:=ry;obtain⟨hz,hd,xs,rel,dd,hbs⟩:=Zfx I3.hok ea;have hxl:xs.length=kvs.length:=(ig rel).symm;refine dr PySem.F.slot_dict_setdefault dd.typeIs PySem.F.entry_dict_setdefault ?_ (PySem.F.args_dict_setdefault_3 _ _ _);unfold Builtin.«dict.setdefault»;refine ac (m:=Builtin.Dict.keyAndDefault "setdefault" ⟨[.ref a,.ref b,fv],[]⟩) ?_;show bg _ _ (Builtin.Dict.notOrdered "setdefault" ⟨[.ref a,.ref b,fv],[]⟩>>=_) _ _ s3;refine ac (wpAny_notOrdered_dict dd.typeIs ?_);refine ag (a:=(a,b8 b,aA fv)) ?_;dsimp only;rw[if_neg (by rw[hd];simp)];refine ac (S7 (knd:=Fj X.prog X.w) (Zlf hu) (Ei I3.hok eb) dd (λp hp=>?_) (λhno h' dd' hs=>?_) (by omega))
 .rcases q3 with⟨v,ev,q⟩|⟨ev,_⟩
  .have r:=rel.val k;rw[hp,ev]at r;exact ag ⟨_,rfl,v,H3,I3.tok _,r,q⟩
  .have r:=rel.val k;rw[hp,ev]at r;exact r.elim
 .rcases q3 with⟨v,ev,q⟩|⟨ev,q⟩
  .have r:=rel.val k;rw[hno,ev]at r;exact r.elim
  .obtain⟨ob,es,ep',hq,h2,h3,h4,_,h5⟩:=dd';refine ag ⟨_,rfl,z,_,Tv I3 (ob:=.dN (kvs++[(k,z)]) ep' (bs++[b])) (by rw[ea];exact True.intro) hs ⟨ob,hq⟩ ⟨by rw[aw,f8];omega,hd,xs++[(k,b,fv)],?_,ob,es,hq,h2,h3,h4,h5,by rw[b9,hbs];rfl⟩,rz,q ep'⟩;have app:∀{l:List (Zl×V)} {m:List (Zl×aj×ah)},KNt H3 l m->Paired (λ(p:Zl×V) (q:Zl×aj×ah)=>p.1=q.1/\Q4 (Z9 H3 a (.dN (kvs++[(k,z)]) ep' (bs++[b]))) p.1 q.2.1/\Zy p.2 q.2.2) (l++[(k,z)]) (m++[(k,b,fv)]):=by
    have up:∀c ys,H3 c=aA (.tup ys)->Z9 H3 a (.dN (kvs++[(k,z)]) ep' (bs++[b])) c=aA (.tup ys):=λc ys ec=>by rw[Zw (T9 ec ea (λz=>nomatch z))];exact ec
    intro l m r;induction r with
    |nil=>exact .cons ⟨rfl,eb.mono up,rz⟩ .nil
    |cons hq t ih=>exact .cons ⟨hq.1,hq.2.1.mono up,hq.2.2⟩ ih
   exact app rel
theorem Zfy(h:d6)(hb:sysModules<h.objs.size):Yj P w H (h.push {cls:=.type "dict",data:=.dict #[]}) h.objs.size (.dN [] 0 []):=
 ⟨f7 _,beq_eq_false_iff_ne.mpr (Ne.symm (cf hb)),[],.nil,_, #[],bp _ rfl,⟨rfl,rfl,rfl⟩,rfl,rfl,df,rfl⟩
def Zfz:TE:=λ_ H Q=>∀p,H p=aB->Q (.ref p) (Z9 H p (.dN [] 0 []))
theorem Zf0:PE X (.Dict [] [] pos) Zfz:=λpins s σ H Q I h=>
 wpAny_Dict_empty ⟨.ref s.heap.objs.size,_,I.laid (a:=s.heap.objs.size) (o:=.dN [] 0 []) (t':=s.toks) (λ_ _ q=>au _ q) (ba _) (Zfy s.heap I.big),rfl,h _ (I.hok.fresh (ba _))⟩
def Zai(K:ad):V->List V->Hp->VK->Prop:=λx vs H Q=>∃l b xs zs,x= .ref l/\vs=[.ref b]/\H l=aA (.lst xs)/\W5 K H b zs/\xs.length+zs.length<=sizeLine/\Q .non (Z9 H l (.lst (xs++zs)))
end L2
namespace L2
open PySem PySem.Spec PySem.Calls PyProof.Rows
theorem Zi8(l items n b items2 n2 dc sl)(hs0:¬(!items.isEmpty&&Builtin.List.listTooLong (items.size+items2.size))=aC)(hs1:items.size<=sizeLine)(hs2:items.size+items2.size<=sizeLine+1):
  Meets (Builtin.«list.extend» ⟨[.ref l,.ref b],[]⟩) (λ_ R s=>s.heap.get? l=aA {cls:=.type "list",dict:=aB,data:=.seq items n,slots:= #[]}/\s.heap.get? b=aA {cls:=.type "list",dict:=dc,data:=.seq items2 n2,slots:=sl}/\R (.ok (.ret ck)) {s with heap:=s.heap.update l (di λx=>x++items2),toks:=s.toks}):=
 .of_wp λprog w A R s h=>by
  obtain⟨hp,g,d,tk,os⟩:=s;obtain⟨hl,hb,h⟩:=h;have f1:=AutoSeq1.idx_int;have f2:=AutoSeq1.sub_tuple_tuple;have f3:=AutoSeq1.sub_list_list;have f4:=AutoSeq1.sub_tuple_list;have f5:=AutoSeq1.sub_list_tuple;have hz':(items++items2).size<=sizeLine+1:=by rw[Array.size_append];exact hs2
  wp_walk using(wpAny_updateSeq hl rfl (hz:=hs1) (_hz':=hz')),AutoSeq1.wpAny_loadPart' hl,AutoSeq1.wpAny_loadPart' hb;exact⟨_,rfl,h⟩
theorem Zaj:MtM X "list.extend" (Zai X.K):=by
 intro pins s σ H x vs v us Q I rx rv h;obtain⟨l,b,xs,zs,rfl,rfl,hH,hB,hz,q⟩:=h;cases rx;obtain⟨u,rfl,ru⟩:=rv.one;cases ru;obtain⟨z,its,n,r,hl,e⟩:=I.lstM hH;obtain⟨its2,r2,⟨o,n2,ho,hc,hdn,hd⟩,z2⟩:=I.list hB;have hl2:=r2.length;obtain⟨cls,dc,data,sl⟩:=o;cases hc;cases hd;have hsz:its.toArray.size+its2.toArray.size<=sizeLine:=by rw[bq,bq];omega
 have hlong:¬(!its.toArray.isEmpty&&Builtin.List.listTooLong (its.toArray.size+its2.toArray.size))=aC:=by rw[Zdl hsz,Bool.and_false];exact bv
 refine call_meets F.slot_list_extend ⟨_,e,rfl⟩ F.entry_list_extend (F.args_list_extend_2 _ _)
  (Zi8 l its.toArray n b its2.toArray n2 dc sl hlong (by rw[bq];omega) (by omega)) ⟨e,ho,?_⟩
 refine⟨.non,_,I.lset (its':=its++its2) hH e (by simp) (r.append r2) ?_,rfl,q⟩;rw[aw];omega
end L2
namespace DL
open PySem PySem.Spec PyProof.Rows L2 TT
variable{K:ad}
theorem Kids.appL:∀{xss:List (List D)} {ws:List V} {ns:Zo} {p:Nat} {b:aj},Kids K F xss ws ns->ws[p]? =aA (.ref b)->(Bf ns).Nodup->
  ∃xs vs,xss[p]? =aA xs/\(b,HO.lst vs)∈ns/\Reps K F xs vs/\∀{ys:List D} {us:List V},Reps K F ys us->∃ns',Kids K F (xss.set p (xs++ys)) ws ns'/\Bf ns'=Bf ns/\∀q∈ns',q=(b,HO.lst (vs++us))\/(q∈ns/\q.1≠b)
 |_,_,_,_,_,.nil,e,_=>by simp at e
 |_,_,_,0,b,@Kids.cons _ _ xs xss b' vs ws ns r t,e,nd=>by
  have e':b'=b:=by simpa using e
  subst e';obtain⟨n1,n2⟩:=dm.mp nd;refine⟨xs,vs,rfl,af,r,fun{ys us} hd=>⟨(b',.lst (vs++us))::ns,.cons (r.append hd) t,rfl,λq hq=>?_⟩⟩;rcases bx.mp hq with z|z
  .exact .inl z
  .exact .inr ⟨ao _ z,λw=>n1 (ax.mpr ⟨q,z,w⟩)⟩
 |_,_,_,p+1,b,@Kids.cons _ _ xs0 xss b' vs0 ws ns r t,e,nd=>by
  obtain⟨n1,n2⟩:=dm.mp nd;obtain⟨xs,vs,h1,h2,h3,h4⟩:=Kids.appL (p:=p) (b:=b) t (by simpa using e) n2;refine⟨xs,vs,by simpa using h1,ao _ h2,h3,fun{ys us} hd=>?_⟩;obtain⟨ns',k1,k2,k3⟩:=h4 hd;refine⟨(b',.lst vs0)::ns',by rw[List.set_cons_succ];exact .cons r k1,by show b'::Bf ns'=b'::Bf ns;rw[k2],λq hq=>?_⟩;rcases bx.mp hq with z|z
  .refine .inr ⟨by rw[z];exact af,λw=>n1 ?_⟩;rw[z]at w;exact ax.mpr ⟨_,h2,w.symm⟩
  .rcases k3 q z with w|⟨w,w2⟩
   .exact .inl w
   .exact .inr ⟨ao _ w,w2⟩
@[simp]def Y8:List Zl->Zl->Option Nat
 | [],_=>aB
 |a::r,k=>if a=k then aA 0 else(Y8 r k).map (· +1)
theorem Ks:∀{kvs:List (Zl×V)} {p:Nat},Y8 (kvs.map (·.1)) k=aA p->∃v,(kvs.map (·.2))[p]? =aA v/\Qd kvs k=aA v
 | [],_,e=>by cases e
 |q::r,p,e=>by
  have e:(if q.1=k then aA 0 else(Y8 (r.map (·.1)) k).map (· +1))=aA p:=e;by_cases h:q.1=k
  .rw[if_pos h]at e;cases e;exact⟨q.2,rfl,O6 h⟩
  .rw[if_neg h]at e;obtain⟨p',e1,e2⟩:=cm.mp e;subst e2;obtain⟨v,h1,h2⟩:=Ks e1;exact⟨v,by simpa using h1,by rw[Uq h];exact h2⟩
theorem Kt:∀{kvs:List (Zl×V)},Y8 (kvs.map (·.1)) k=aB->Qd kvs k=aB
 | [],_=>rfl
 |q::r,e=>by
  have e:(if q.1=k then aA 0 else(Y8 (r.map (·.1)) k).map (· +1))=aB:=e;by_cases h:q.1=k
  .rw[if_pos h]at e;cases e
  .rw[if_neg h]at e;rw[Uq h];exact Kt (Option.map_eq_none_iff.mp e)
theorem KN.snoc(h:KN F kvs bs)(hb:Q4 F k b):KN F (kvs++[(k,v)]) (bs++[b]):=by
 induction h with
 |nil=>exact .cons hb .nil
 |cons r t ih=>exact .cons r ih
theorem Zf1(h:Shape K F (.oX ks xss) v ns):∃a kvs ns' ep bs,v= .ref a/\ns=(a,.dN kvs ep bs)::ns'/\KN F kvs bs/\kvs.map (·.1)=ks/\Kids K F xss (kvs.map (·.2)) ns':=by
 cases h with
 |oX kb e r=>exact⟨_,_,_,_,_,rfl,rfl,kb,e,r⟩
section
variable{Z:Ent K}{H:Hp}{σ:L2.St}{Q:VK}{E:Ends}
@[simp]def Ku:FE:=λδ=>some (.tmp (.oX [] []),δ)
theorem Zi9(h:Ze Z Ku σ H Q):Zfz σ H Q:=by obtain⟨F,δ,own,rv,δ',s,e,k⟩:=h;cases e;intro p hp;have f:Fin Z F H σ δ own (.oX [] []) Q:=λv H' F' ns a b c t=>k v H' F' own a b c ⟨ns,t⟩;exact f.one s (.oX (kvs:=[]) .nil rfl .nil) hp
theorem R4(s:SR Z F H σ δ own)(e:δ[i]? =aA (aA (.oX ks xss))):∃a kvs ep bs ns',σ[i]? =aA (aA (.ref a))/\own i=(a,.dN kvs ep bs)::ns'/\H a=aA (.dN kvs ep bs)/\KN F kvs bs/\kvs.map (·.1)=ks/\Kids K F xss (kvs.map (·.2)) ns':=by obtain⟨x,hx,sh⟩:=s.at' i _ e;obtain⟨a,kvs,ns',ep,bs,rfl,en,kb,ek,kd⟩:=Zf1 sh;exact⟨a,kvs,ep,bs,ns',hx,en,(s.ok i (a,.dN kvs ep bs) (by rw[en];exact af)).2.2,kb,ek,kd⟩
theorem Zr8(s:SR Z F H σ δ own)(e:δ[i]? =aA (aA (.oX ks xss)))(hp:Y8 ks k=aA p):
  ∃a kvs ep bs c vs xs,σ[i]? =aA (aA (.ref a))/\H a=aA (.dN kvs ep bs)/\kvs.length=xss.length/\Qd kvs k=aA (.ref c)/\H c=aA (.lst vs)/\xss[p]? =aA xs/\xs.length=vs.length/\F c=aB/\
   ∀ys us,Reps K F ys us->∃own',SR Z F (Z9 H c (.lst (vs++us))) σ (δ.set i (aA (.oX ks (xss.set p (xs++ys))))) own':=by
 obtain⟨a,kvs,ep,bs,ns',hx,en,hH,kb,ek,kd⟩:=R4 s e;rw[<-ek]at hp;obtain⟨v,g1,g2⟩:=Ks hp;obtain⟨c,rfl⟩:=kd.ref g1;have nd:=s.nod i;rw[en]at nd;obtain⟨n1,n2⟩:=dm.mp nd;obtain⟨xs,vs,q1,q2,q3,q4⟩:=kd.appL g1 n2;have mb:(c,HO.lst vs)∈own i:=by rw[en];exact ao _ q2
 obtain⟨fc,_,hHc⟩:=s.ok i _ mb;refine⟨a,kvs,ep,bs,c,vs,xs,hx,hH,by have:=kd.length;rw[aq]at this;exact this.symm,g2,hHc,q1,q3.length,fc,λys us r=>?_⟩;obtain⟨ns2,k1,k2,k3⟩:=q4 r;have hac:a≠c:=λz=>n1 (ax.mpr ⟨_,q2,z.symm⟩);refine⟨_,s.change (sv':=.oX ks (xss.set p (xs++ys))) (o':=.lst (vs++us)) (ns':=(a,.dN kvs ep bs)::ns2) e hx mb (.oX kb ek k1) (λq hq=>?_) ?_⟩
 .rcases bx.mp hq with z|z
  .exact .inr ⟨by rw[en,z];exact af,by rw[z];exact hac⟩
  .rcases k3 q z with w|⟨w,w2⟩
   .exact .inl w
   .exact .inr ⟨by rw[en];exact ao _ w,w2⟩
 .show(a::Bf ns2).Nodup;rw[k2];exact nd
theorem Zr9(s:SR Z F H σ δ own)(e:δ[i]? =aA (aA (.oX ks xss)))(hp:Y8 ks k=aB):
  ∃a kvs ep bs,σ[i]? =aA (aA (.ref a))/\H a=aA (.dN kvs ep bs)/\kvs.length=xss.length/\Qd kvs k=aB/\
   ∀l b ys us ep',H l=aB->Q4 F k b->Reps K F ys us->∃own',SR Z F (Z9 (Z9 (Z9 H l (.lst [])) a (.dN (kvs++[(k,.ref l)]) ep' (bs++[b]))) l (.lst us)) σ (δ.set i (aA (.oX (ks++[k]) (xss++[ys])))) own':=by
 obtain⟨a,kvs,ep,bs,ns',hx,en,hH,kb,ek,kd⟩:=R4 s e;rw[<-ek]at hp;have nd:=s.nod i;rw[en]at nd;obtain⟨n1,n2⟩:=dm.mp nd;have mb:(a,HO.dN kvs ep bs)∈own i:=by rw[en];exact af
 refine⟨a,kvs,ep,bs,hx,hH,by have:=kd.length;rw[aq]at this;exact this.symm,Kt hp,λl b ys us ep' hl hb r=>?_⟩;have hla:l≠a:=λz=>by rw[z,hH]at hl;cases hl
 have eH:Z9 (Z9 (Z9 H l (.lst [])) a (.dN (kvs++[(k,.ref l)]) ep' (bs++[b]))) l (.lst us)=Z9 (Z9 H l (.lst us)) a (.dN (kvs++[(k,.ref l)]) ep' (bs++[b])):=by
  funext c;unfold Z9;by_cases h1:c=l
  .rw[if_pos h1];by_cases h2:c=a
   .exact absurd (h1.symm.trans h2) hla
   .rw[if_neg h2,if_pos h1]
  .rw[if_neg h1];by_cases h2:c=a
   .rw[if_pos h2,if_pos h2]
   .rw[if_neg h2,if_neg h2,if_neg h1,if_neg h1]
 rw[eH];have sm:=Ws (o:=HO.lst us) hl;have s1:=s.grow sm;have t:TmpOk Z F (Z9 H l (.lst us)) own (.ol ys) (.ref l) [(l,.lst us)]:=by
  refine⟨.ol r,Ix,λq hq=>?_,λj q r hq hr z=>?_⟩
  .obtain rfl:=ar.mp hq;exact⟨s.le.free hl,s.old.free hl,Z3⟩
  .obtain rfl:=ar.mp hq;have z':l=r.1:=z;have:=(s.ok j r hr).2.2;rw[<-z',hl]at this;cases this
 have hb':∀p∈own i,p.1≠l:=λp hp z=>t.sep i (l,.lst us) p af hp z.symm;refine⟨_,s1.changeT (o':=.dN (kvs++[(k,.ref l)]) ep' (bs++[b])) (ns':=(a,.dN (kvs++[(k,.ref l)]) ep' (bs++[b]))::(ns'++[(l,.lst us)])) t e hx mb (.oX (kb.snoc hb) (by rw[b9,ek];rfl) (by rw[b9];exact kd.snoc r)) (λp hp=>?_) ?_⟩
 .rcases bx.mp hp with z|z
  .exact .inl z
  .rcases bz.mp z with z|z
   .exact .inr (.inl ⟨by rw[en];exact ao _ z,λw=>n1 (ax.mpr ⟨p,z,w⟩)⟩)
   .exact .inr (.inr z)
 .show(a::(ns'++[(l,HO.lst us)]).map (·.1)).Nodup;rw[b9];refine dm.mpr ⟨λz=>?_,?_⟩
  .rcases bz.mp z with z|z
   .exact n1 z
   .exact hb' _ mb (ar.mp z)
  .refine dq.mpr ⟨n2,Ix,λx hx y hy z=>?_⟩;obtain⟨p,hp,ep⟩:=ax.mp hx;have hy':y=l:=ar.mp hy;exact hb' p (by rw[en];exact ao _ hp) (by rw[ep,z,hy'])
@[simp]def Tq(ks:List Zl)(xss:List (List D))(k:Zl)(ys:List D):List Zl×List (List D):=match Y8 ks k with
 |some p=>(ks,xss.set p (xss.getD p []++ys))
 |none=>(ks++[k],xss++[ys])
def okX(xss:List (List D))(n:Nat):Prop:=xss.length<bd/\n<bd/\∀xs∈xss,xs.length+n<bd
open Classical in
def Th(i:Nat)(fk:FE)(j:Nat)(ext:Bool):FS:=λδ=>match δ[i]? with
 |some (aA (.oX _ _))=>(fk δ).bind λp=>(frz p.1 p.2).bind λq=>(nk? q.1).bind λk=>match q.2[i]?,q.2[j]? with
  |some (aA (.oX ks xss)),aA (aA (.fz d))=>(if ext=aC then(match d with| .lst ys=>aA ys|_=>aB)else aA [d]).bind λys=>if okX xss ys.length then aA (.nx (q.2.set i (aA (.oX (Tq ks xss k ys).1 (Tq ks xss k ys).2))))else aB
  |_,_=>aB
 |_=>aB
theorem Zak(h:Z5 Z (Th i fk j ext) E σ H):Hu (tBM K "list" (if ext=aC then Zai K else Bk) (Zle (Bg i) (Ze Z fk) (Zhn Pq)) (Rm (Bg j) Pq)) E σ H:=by
 obtain⟨F,δ,own,fl,s,e,k⟩:=h;unfold Th at e;split at e
 .rename_i ks0 xss0 hi0;obtain⟨⟨rv,δ1⟩,e1,e⟩:=aa.mp e;obtain⟨⟨kd,δ2⟩,e2,e⟩:=aa.mp e;obtain⟨kk,e3,e⟩:=aa.mp e;dsimp only at e2 e3 e;split at e
  .rename_i ks xss d hi hj;obtain⟨ys,e4,e⟩:=aa.mp e;split at e
   .rename_i hok;cases e;obtain⟨a,kvs0,ep0,bs0,ns0,hx0,en0,hH0,_⟩:=R4 s hi0;refine⟨.ref a,hx0,a,rfl,⟨_,_,_,hH0⟩,F,δ,own,rv,δ1,s,e1,λv H1 F1 own1 sH sF s1 r1=>?_⟩;obtain⟨F2,sF2,s2,r2⟩:=s1.settleR r1;obtain⟨F3,own3,sF3,s3,r3⟩:=s2.frzR r2 e2;rw[Zfu e3]at r3;obtain⟨b,rfl,hb⟩:=R3 r3;obtain⟨y,hy,shy⟩:=s3.at' j _ hj;have ry:=Jp shy;have hus:∃us,Reps K F3 ys us/\(∀{c:aj} {vs:List V} {H4:Hp} {Q:VK},Zi F3 H4->H4 c=aA (.lst vs)->F3 c=aB->vs.length+ys.length<bd->Q .non (Z9 H4 c (.lst (vs++us)))->(if ext=aC then Zai K else Bk) (.ref c) [y] H4 Q):=by
     cases ext with
     |false=>
      obtain rfl:[d]=ys:=by simpa using e4
      refine⟨[y],.cons ry .nil,fun{c vs H4 Q} le hc hf hz q=>?_⟩;exact⟨c,vs,y,rfl,rfl,hc,by simpa using(by simp at hz;omega:vs.length<bd),q⟩
     |true=>
      simp only[if_true]at e4;split at e4
      .rename_i zs;cases e4;cases ry with
       | @lst l _ us hl _ ru=>refine⟨us,ru,fun{c vs H4 Q} le hc hf hz q=>?_⟩;exact⟨c,l,vs,us,rfl,rfl,hc,Wb le hl,by rw[<-ru.length];omega,q⟩
      .cases e4
    obtain⟨us,ru,step⟩:=hus;have lu:=ru.length;have sFt:=sF.trans (sF2.trans sF3);refine⟨f7 _,λl hl=>?_⟩;have sml:=Ws (o:=HO.lst []) hl;cases hp:Y8 ks kk with
    |some p=>
     obtain⟨a',kvs,ep,bs,c,vs,xs,hx,hH,hlen,hv,hHc,q1,q2,fc,q3⟩:=Zr8 (s3.grow sml) hi hp;rw[hx0]at hx;cases hx;have hxs:=b5 q1;have hz:=hok.2.2 xs hxs;refine⟨kvs,ep,bs,kk,b,rfl,hH,hb.mono λ_ _ q=>(s3.grow sml).le _ _ q,by rw[hlen];exact hok.1,.inl ⟨.ref c,hv,.inl ⟨rfl,vs,.inl (.inl hHc)⟩,y,hy,?_⟩⟩;refine step (s3.grow sml).le hHc fc (by omega) ?_;obtain⟨own',sr⟩:=q3 ys us ru;refine k σ _ F3 own' sFt ?_;have:Tq ks xss kk ys=(ks,xss.set p (xs++ys)):=by
      unfold Tq;rw[hp];have:xss.getD p []=xs:=by rw[bn,q1];rfl
      show(ks,xss.set p (xss.getD p []++ys))=_;rw[this]
     rw[this];exact sr
    |none=>
     obtain⟨a',kvs,ep,bs,hx,hH,hlen,hv,q3⟩:=Zr9 s3 hi hp;rw[hx0]at hx;cases hx;have hH':(Z9 H1 l (.lst [])) a=aA (.dN kvs ep bs):=sml _ _ hH;refine⟨kvs,ep,bs,kk,b,rfl,hH',hb.mono λ_ _ q=>(s3.grow sml).le _ _ q,by rw[hlen];exact hok.1,.inr ⟨hv,λep'=>?_⟩⟩;have hla:l≠a:=λz=>by rw[z,hH]at hl;cases hl
     have hHl:(Z9 (Z9 H1 l (.lst [])) a (.dN (kvs++[(kk,.ref l)]) ep' (bs++[b]))) l=aA (.lst []):=by rw[Zw hla,Z3]
     have leN:Zi F3 (Z9 (Z9 H1 l (.lst [])) a (.dN (kvs++[(kk,.ref l)]) ep' (bs++[b]))):=λc u ec=>by
      have hca:c≠a:=λz=>by obtain⟨a2,kvs2,ep2,bs2,ns2,hx2,en2,_⟩:=R4 s3 hi;rw[hx0]at hx2;cases hx2;have:=(s3.ok i (a,.dN kvs2 ep2 bs2) (by rw[en2];exact af)).1;rw[z,this]at ec;cases ec
      rw[Zw hca];exact(s3.grow sml).le _ _ ec
     refine⟨.inl ⟨rfl,[],.inl (.inl hHl)⟩,y,hy,?_⟩;refine step (vs:=[]) leN hHl (s3.le.free hl) (by have h1:=hok.2.1;simpa using h1) ?_;obtain⟨own',sr⟩:=q3 l b ys us ep' hl hb ru;refine k σ _ F3 own' sFt ?_;have:Tq ks xss kk ys=(ks++[kk],xss++[ys]):=by unfold Tq;rw[hp]
     rw[this];exact sr
   .cases e
  .cases e
 .cases e
end
section
variable{X:Cx}{Z:Ent X.K}{pos:Pos}
theorem Zal:PE X (.Dict [] [] pos) (Ze Z Ku):=Zf0.imp λ_ _ _ h=>Zi9 h
theorem Zja(i j){y:Str}{px py p2 ap1 cp1 apos cpos}(hu:X.A.units+64<f6)(hk:PE X k (Ze Z fk))(hN:X.N[i]? =aA x:=by rfl)(hv:Vs X.env.scope x:=by first|exact Or.inl rfl|exact gw (Or.inl rfl)|exact gw (gw rfl))(hd:(x==("__debug__":Str))=aD:=by decide)(hcd:(x==("__classdict__":Str))=aD:=by decide)(hN':X.N[j]? =aA y:=by rfl)(hv':Vs X.env.scope y:=by first|exact Or.inl rfl|exact gw (Or.inl rfl)|exact gw (gw rfl))(hd':(y==("__debug__":Str))=aD:=by decide)(hcd':(y==("__classdict__":Str))=aD:=by decide)(m:M2 X (.Name x px) "setdefault" ap1 k (.List [] p2) cp1:=by exact⟨rfl,rfl,rfl,rfl⟩)(hbase:attributeBase (.Call (.Attribute (.Name x px) "setdefault" ap1) [k,.List [] p2] [] cp1) "append" X.env (gp (.Call (.Attribute (.Name x px) "setdefault" ap1) [k,.List [] p2] [] cp1) X.env)=gp (.Call (.Attribute (.Name x px) "setdefault" ap1) [k,.List [] p2] [] cp1) X.env:=by rfl)(hfew:((gq cpos (a9 [.Name y py] X.env)).all (λx=>!x.1)&&(backToKw cpos (keywordEach [] X.env)).all (λx=>x.1.isSome)&&decide ([Expr.Name y py].length+([]:List Keyword).length+(if([]:List Keyword).isEmpty then 0 else 1)<30))=aC:=by rfl)(hline:(apos.endLine==cpos.line)=aC:=by rfl)(hs:a9 [.Name y py] X.env=(aD,gp (.Name y py) X.env)::a9 [] X.env:=by rfl)(hpl:(gq cpos (a9 [] X.env)).any (·.1)=aD:=by rfl)(hsw:swapsWith (.Call (.Attribute (.Call (.Attribute (.Name x px) "setdefault" ap1) [k,.List [] p2] [] cp1) "append" apos) [.Name y py] [] cpos) aB pos.line X.env=pure aD:=by rfl):
  PS X (.Expr (.Call (.Attribute (.Call (.Attribute (.Name x px) "setdefault" ap1) [k,.List [] p2] [] cp1) "append" apos) [.Name y py] [] cpos) pos) (Z5 Z (Th i fk j aD)):=
 (Tt (Hz PySem.F.plainAttrs_list PySem.F.slot_list_append PySem.F.type_list_append Mg (Zah (by omega) (Jy (i:=i) hN hv hd hcd) hk (Ln Bj) m) (Jf (Jy (i:=j) hN' hv' hd' hcd') Bj hs) hbase hfew hline hs hpl) hsw).imp λ_ _ _ h=>Zak (ext:=aD) h
theorem Zjb(i j){y:Str}{px py p2 ap1 cp1 apos cpos}(hu:X.A.units+64<f6)(hk:PE X k (Ze Z fk))(hN:X.N[i]? =aA x:=by rfl)(hv:Vs X.env.scope x:=by first|exact Or.inl rfl|exact gw (Or.inl rfl)|exact gw (gw rfl))(hd:(x==("__debug__":Str))=aD:=by decide)(hcd:(x==("__classdict__":Str))=aD:=by decide)(hN':X.N[j]? =aA y:=by rfl)(hv':Vs X.env.scope y:=by first|exact Or.inl rfl|exact gw (Or.inl rfl)|exact gw (gw rfl))(hd':(y==("__debug__":Str))=aD:=by decide)(hcd':(y==("__classdict__":Str))=aD:=by decide)(m:M2 X (.Name x px) "setdefault" ap1 k (.List [] p2) cp1:=by exact⟨rfl,rfl,rfl,rfl⟩)(hbase:attributeBase (.Call (.Attribute (.Name x px) "setdefault" ap1) [k,.List [] p2] [] cp1) "extend" X.env (gp (.Call (.Attribute (.Name x px) "setdefault" ap1) [k,.List [] p2] [] cp1) X.env)=gp (.Call (.Attribute (.Name x px) "setdefault" ap1) [k,.List [] p2] [] cp1) X.env:=by rfl)(hfew:((gq cpos (a9 [.Name y py] X.env)).all (λx=>!x.1)&&(backToKw cpos (keywordEach [] X.env)).all (λx=>x.1.isSome)&&decide ([Expr.Name y py].length+([]:List Keyword).length+(if([]:List Keyword).isEmpty then 0 else 1)<30))=aC:=by rfl)(hline:(apos.endLine==cpos.line)=aC:=by rfl)(hs:a9 [.Name y py] X.env=(aD,gp (.Name y py) X.env)::a9 [] X.env:=by rfl)(hpl:(gq cpos (a9 [] X.env)).any (·.1)=aD:=by rfl)(hsw:swapsWith (.Call (.Attribute (.Call (.Attribute (.Name x px) "setdefault" ap1) [k,.List [] p2] [] cp1) "extend" apos) [.Name y py] [] cpos) aB pos.line X.env=pure aD:=by rfl):
  PS X (.Expr (.Call (.Attribute (.Call (.Attribute (.Name x px) "setdefault" ap1) [k,.List [] p2] [] cp1) "extend" apos) [.Name y py] [] cpos) pos) (Z5 Z (Th i fk j aC)):=
 (Tt (Hz PySem.F.plainAttrs_list PySem.F.slot_list_extend PySem.F.type_list_extend Zaj (Zah (by omega) (Jy (i:=i) hN hv hd hcd) hk (Ln Bj) m) (Jf (Jy (i:=j) hN' hv' hd' hcd') Bj hs) hbase hfew hline hs hpl) hsw).imp λ_ _ _ h=>Zak (ext:=aC) h
end
end DL
namespace L2
open PySem PySem.Spec PySem.Calls PyProof.Rows
def Zsb:V->V->Hp->VK->Prop:=λx y H Q=>∃a b kvs ep bs k v,x= .ref a/\y= .ref b/\H a=aA (.dN kvs ep bs)/\Q4 H k b/\Qd kvs k=aA v/\Q v H
noncomputable def Itn(a:aj)(n ep:Nat):It:=
 ⟨λi H=>∃kvs bs,H a=aA (.dN kvs ep bs)/\kvs.length=n/\i<n,λi H x H'=>H'=H/\∃kvs bs b,H a=aA (.dN kvs ep bs)/\bs[i]? =aA b/\x= .ref b,λi H=>∃kvs bs,H a=aA (.dN kvs ep bs)/\kvs.length=n/\n<=i⟩
theorem Zjc{P:b6}{w:c7}{K:ad}{tg:cj}(a it:aj)(n ep:Nat):Turn P w K tg (Itn a n ep) [it] it (λi h=>h.IsKeyIter it a i n ep)where
 mem:=af
 obj:=(Bp (P:=P) (w:=w) (K:=K) (tg:=tg) a it n ep).obj
 keep:=(Bp (P:=P) (w:=w) (K:=K) (tg:=tg) a it n ep).keep
 item:=by
  intro X hP hw hK hc i pins s σ H E I hf st hg;subst hP hw hK;obtain⟨kvs,bs,hq,hn,hi⟩:=hg;obtain⟨z,hd,xs,rel,od,es,g,x,c,en,nd,hbs⟩:=(show Yj X.prog X.w H s.heap a (.dN kvs ep bs)from I.hok a _ hq)
  obtain⟨f0,f1,f2,f3,f4,f5⟩:=hf it af;have hkv:kvs[i]? =aA (kvs[i]'(by omega)):=av (by omega);obtain⟨vv,hv,hr⟩:=Uo rel hkv;have hz:es.size=n:=by rw[<-ay,en,aq,<-ig rel,hn]
  have he:es[i]? =aA (entryOfKey (Fj X.prog X.w) vv):=by rw[<-c9,en,az,hv];rfl
  refine Ax st g c hz he λh' st' sb=>?_;have I1:Inv X pins σ H {s with heap:=h'}:=I.turned (t':=s.toks) (λb o hb e=>(sb.2 b hb).trans e) f0 f1 f3 f4 f5;obtain⟨o,e1,c1,d1⟩:=id st';exact⟨.ref vv.2.1,rfl,Ab (s:={s with heap:=h'}) e1 c1 d1 (by decide) ⟨.ref vv.2.1,H,I1,rfl,⟨rfl,kvs,bs,vv.2.1,hq,by rw[<-hbs,az,hv];rfl,rfl⟩,st',λb hb=>(hf b hb).1⟩⟩
 done:=by
  intro X hP hw hK hc i pins s σ H E I hf st hg;subst hP hw hK;obtain⟨kvs,bs,hq,hn,hi⟩:=hg;obtain⟨z,hd,xs,rel,od,es,g,x,c,en,nd,hbs⟩:=(show Yj X.prog X.w H s.heap a (.dN kvs ep bs)from I.hok a _ hq)
  obtain⟨f0,f1,f2,f3,f4,f5⟩:=hf it af;have hz:es.size=n:=by rw[<-ay,en,aq,<-ig rel,hn]
  exact Ay (I.ok.hd hc) st g c hz hi λh' eb=>⟨rfl,I.turned (t':=s.toks) (λb o hb e=>eb b o hb e) f0 f1 f3 f4 f5⟩
 self:=(Bp (P:=P) (w:=w) (K:=K) (tg:=tg) a it n ep).self
def Zlg(tl:TE):TI:=λσ H R=>tl σ H λx H1=>∃a kvs ep bs,x= .ref a/\H1 a=aA (.dN kvs ep bs)/\R (Itn a kvs.length ep) H1
theorem Zjd(hl:PE X l tl):PI X tg l (Zlg tl):=by
 intro pins s σ H R I h;refine Wp (hl pins s σ H _ I h) λv s1 zq9=>?_;obtain⟨x,H1,I1,r1,q1⟩:=zq9;obtain⟨a,kvs,ep,bs,rfl,hq,q⟩:=q1;cases r1;obtain⟨z,hd,xs,rel,od,es,g,x,c,en,nd,hbs⟩:=(show Yj X.prog X.w H1 s1.heap a (.dN kvs ep bs)from I1.hok a _ hq)
 have hz:es.size=kvs.length:=by rw[<-ay,en,aq,<-ig rel]
 refine Aw hd g x c ⟨s1.heap.objs.size,[s1.heap.objs.size],_,_,H1,rfl,I1.kept (t':=s1.toks) λb o e=>au _ e,Zjc a _ kvs.length ep,⟨_,bp _ rfl,rfl,by rw[hz];rfl⟩,λb hb=>?_,q⟩;obtain rfl:=ar.mp hb;exact I1.fpOk (ba _) (I1.hok.fresh (ba _))
end L2
namespace DL
open PySem PySem.Spec PyProof.Rows L2 TT
variable{K:ad}
theorem Zcc(h:F a=aA (.dN kvs ep bs))(kb:KN F kvs bs):Oq K (Itn a kvs.length ep) F ((kvs.map (·.1)).map Zn):=λF' H sF sH i=>by have q:H a=aA (.dN kvs ep bs):=sH _ _ (sF _ _ h);refine⟨λd hd=>?_,λhl=>⟨kvs,bs,q,rfl,by simpa using hl⟩⟩;rw[cg,az]at hd;obtain⟨kv,h1,h2⟩:=cm.mp hd;refine⟨⟨kvs,bs,q,rfl,(a8.mp h1).1⟩,λx H' ⟨e1,kvs',bs',b,e2,e3,e4⟩=>?_⟩;subst e1;rw[q]at e2;cases e2;subst e4;obtain⟨b',g1,g2⟩:=Uo (kb.mono sF) h1;rw[e3]at g1;cases g1;rw[<-h2];exact⟨Zi.refl _,[],df,λ_ h=>(nomatch h),Cn g2⟩
theorem Yi.dX(le:Zi F H)(h:Yi K F H (.dX ks ds) v):∃a kvs ep bs,v= .ref a/\H a=aA (.dN kvs ep bs)/\kvs.map (·.1)=ks/\Reps K F ds (kvs.map (·.2)):=by
 obtain⟨sv,ns,e,n,sh,hp⟩:=h;cases sh with
 |fz r=>cases e;cases r with|dX h kb e r=>exact⟨_,_,_,_,rfl,le _ _ h,e,r⟩
 |ol r=>cases e
 |oK e' r=>cases e
 |oT kb e' r=>cases e
 |oN e' r=>cases n
 |oX kb' e' r=>cases n
 |oD r=>cases n
 |oM kb' e' r=>cases n
 |oL _ r=>cases n
 |oQ e' r=>cases e
theorem Yi.nk(le:Zi F H)(e0:nk? d=aA k)(h:Yi K F H d v):∃b,v= .ref b/\Q4 H k b:=by
 rw[Zfu e0]at h;obtain⟨sv,ns,e,n,sh,hp⟩:=h;have nt:∀{xs:List D},Zn k≠.lst xs:=fun{xs} z=>by cases k<;> cases z
 have nd:∀{ks:List Key} {xs:List D},Zn k≠.dK ks xs:=fun{ks xs} z=>by cases k<;> cases z
 have ndt:∀{ks:List (List Key)} {xs:List D},Zn k≠.dT ks xs:=fun{ks xs} z=>by cases k<;> cases z
 cases sh with
 |fz r=>have e:_=Zn k:=e;simp only[SV.toD]at e;subst e;obtain⟨b,rfl,hb⟩:=R3 r;exact⟨b,rfl,hb.mono λ_ _ q=>le _ _ q⟩
 |ol r=>exact absurd e.symm nt
 |oK e' r=>exact absurd e.symm nd
 |oT kb e' r=>exact absurd e.symm ndt
 |oN e' r=>cases n
 |oX kb' e' r=>cases n
 |oD r=>cases n
 |oM kb' e' r=>cases n
 |oL _ r=>cases n
 |oQ e' r=>exact absurd e.symm nd
section
variable{Z:Ent K}{H:Hp}{σ:L2.St}{Q:VK}{E:Ends}
@[simp]def Zf2(fe:FE):FD:=λδ=>(fe δ).bind λp=>(frz p.1 p.2).bind λq=>match q.1 with
 | .dX ks _=>aA (ks.map Zn,q.2)
 |_=>aB
theorem Zje(h:Qm Z (Zf2 fe) σ H R):Zlg (Ze Z fe) σ H R:=by
 obtain⟨F,δ,own,ds,δ',s,e,k⟩:=h;obtain⟨⟨rv,δ1⟩,e1,e2⟩:=aa.mp e;obtain⟨⟨d,δ2⟩,e3,e4⟩:=aa.mp e2;refine⟨F,δ,own,rv,δ1,s,e1,λv H1 F1 own1 sH sF s1 r1=>?_⟩;obtain⟨F2,sF2,s2,r2⟩:=s1.settleR r1;obtain⟨F3,own3,sF3,s3,r3⟩:=s2.frzR r2 e3;dsimp only at e4;split at e4
 .cases e4;cases r3 with
  |dX h kb e r=>subst e;exact⟨_,_,_,_,rfl,s3.le _ _ h,k _ H1 F3 own3 sH (sF.trans (sF2.trans sF3)) s3 (Zcc h kb)⟩
 .cases e4
@[simp]def Zf3(d1 d2:D):Option SV:=match d1 with
 | .dX ks vs=>(nk? d2).bind λk=>(look ks vs k).bind λd=>aA (.fz d)
 |_=>aB
theorem Zsc:Y7 Z Zsb Zf3:=by
 intro F H σ δ own x y d1 d2 sv Q s r1 r2 e k;unfold Zf3 at e;split at e
 .rename_i ks vs;obtain⟨kk,e1,e2⟩:=aa.mp e;obtain⟨d,e3,e4⟩:=aa.mp e2;cases e4;obtain⟨a,kvs,ep,bs,rfl,ha,rfl,rr⟩:=r1.dX s.le;obtain⟨b,rfl,hb⟩:=r2.nk s.le e1;have z:=Tx kk kvs _ rr;rw[e3]at z;obtain⟨v,z1,z2⟩:=z;exact⟨a,b,kvs,ep,bs,kk,v,rfl,rfl,ha,hb,z1,k.fz s z2⟩
 .cases e
@[simp]def Em(i:Nat)(fe:FE):FS:=λδ=>match δ[i]? with
 |some (aA (.ol _))=>(fe δ).bind λp=>(frz p.1 p.2).bind λq=>match q.1,q.2[i]? with
  | .lst ys,aA (aA (.ol xs))=>if xs.length+ys.length<=bd then aA (.nx (q.2.set i (aA (.ol (xs++ys)))))else aB
  |_,_=>aB
 |_=>aB
theorem Znz(h:Z5 Z (Em i fe) E σ H):Hu (tBM K "list" (Zai K) (Bg i) (Rm (Ze Z fe) Pq)) E σ H:=by
 obtain⟨F,δ,own,fl,s,e,k⟩:=h;unfold Em at e;split at e
 .rename_i xs0 hx0;obtain⟨⟨rv,δ1⟩,e1,e2⟩:=aa.mp e;obtain⟨⟨d,δ2⟩,e3,e4⟩:=aa.mp e2;obtain⟨v,hv,sh⟩:=s.at' i _ hx0;obtain⟨a,vs0,ev,en,r0⟩:=Jr sh;refine⟨v,hv,?_,F,δ,own,rv,δ1,s,e1,λy H1 F1 own1 sH sF s1 r1=>?_⟩
  .subst ev;exact .inl ⟨rfl,vs0,.inl (.inl (s.ok i (a,.lst vs0) (by rw[en];exact af)).2.2)⟩
  obtain⟨F2,sF2,s2,r2⟩:=s1.settleR r1;obtain⟨F3,own3,sF3,s3,r3⟩:=s2.frzR r2 e3;dsimp only at e4;split at e4
  .rename_i ys xs hx;by_cases hz:xs.length+ys.length<=bd
   .rw[if_pos hz]at e4;cases e4;obtain⟨v',hv',sh'⟩:=s3.at' i _ hx;rw[hv]at hv';cases hv';obtain⟨b,vs,eb,en',r'⟩:=Jr sh';have mb:(b,HO.lst vs)∈own3 i:=by rw[en'];exact af
    subst eb;cases r3 with
    | @lst l _ us hl _ ru=>refine⟨b,l,vs,us,rfl,rfl,(s3.ok i _ mb).2.2,Wb s3.le hl,by rw[<-r'.length,<-ru.length];exact hz,?_⟩;exact k σ _ F3 _ (sF.trans (sF2.trans sF3)) (s3.change (sv':=.ol (xs++ys)) (o':=.lst (vs++us)) (ns':=[(b,.lst (vs++us))]) hx hv mb (.ol (r'.append ru)) (λp hp=>.inl (ar.mp hp)) Ix)
   .rw[if_neg hz]at e4;cases e4
  .cases e4
 .cases e
@[simp]def Nx(j ia il:Nat):FS:=λδ=>match δ[ia]?,δ[il]? with
 |some (aA (.fz (.lst hs))),aA (aA (.ol xs))=>(xs[xs.length- 1]?).bind λd=>(ixD (.lst hs) d).bind λsv=>(stow j (.tmp sv) (δ.set il (aA (.ol xs.dropLast)))).bind λδ'=>aA (.nx δ')
 |_,_=>aB
theorem Reps.dropLast(r:Reps K F ds vs):Reps K F ds.dropLast vs.dropLast:=by rw[List.dropLast_eq_take,List.dropLast_eq_take,<-r.length];exact r.take _
theorem Zjf(h:Z5 Z (Nx j ia il) E σ H):Vx (tOp (rIx K) (Bg ia) (Zps K "list" Zpt (Bg il))) (Aa j) E σ H:=by
 obtain⟨F,δ,own,fl,s,e,k⟩:=h;unfold Nx at e;split at e
 .rename_i hs xs hia hil;obtain⟨d,e1,e⟩:=aa.mp e;obtain⟨sv,e2,e⟩:=aa.mp e;obtain⟨δ2,e3,e⟩:=aa.mp e;cases e;obtain⟨x,hx,shx⟩:=s.at' ia _ hia;have rx:=Jp shx;obtain⟨y,hy,shy⟩:=s.at' il _ hil;obtain⟨a,vs,ea,en,ra⟩:=Jr shy;subst ea;have mb:(a,HO.lst vs)∈own il:=by rw[en];exact af
  have hHa:=(s.ok il _ mb).2.2;obtain⟨v,hv,rv⟩:=ra.get e1;have hl:=ra.length;refine⟨x,hx,.ref a,hy,.inl ⟨rfl,vs,.inl (.inl hHa)⟩,a,vs,v,rfl,rfl,hHa,by rw[<-hl];exact hv,?_⟩;have s2:=s.change (sv':=.ol xs.dropLast) (o':=.lst vs.dropLast) (ns':=[(a,.lst vs.dropLast)]) hil hy mb (.ol ra.dropLast) (λp hp=>.inl (ar.mp hp)) Ix;refine Zqm F _ σ _ _ x v (.lst hs) d sv _ s2 (Yi.of rx) (Yi.of rv) e2 λw H3 F3 ns sH sF s3 t3=>?_;obtain⟨F4,own4,sF4,s4⟩:=s3.stow (rv:=.tmp sv) (v:=w) ⟨ns,t3⟩ e3;exact k _ H3 F4 own4 (sF.trans sF4) s4
 .cases e
@[simp]def Zam(j:Nat)(f1:FE):FE:=λδ=>match δ[j]? with
 |some (aA (.fz kd))=>kd.key?.bind λk=>(Zh f1 Zs δ).bind λp=>match p.1 with
  | [v1]=>aA (.tmp (.oK [k] [v1]),p.2)
  |_=>aB
 |_=>aB
theorem Zjg(h:Ze Z (Zam j f1) σ H Q):Ze1 [(Bg j,Ze Z f1)] σ H Q:=by
 obtain⟨F,δ,own,rv,δ',s,e,k⟩:=h;unfold Zam at e;split at e
 .rename_i kd hx;obtain⟨kk,e0,e⟩:=aa.mp e;obtain⟨⟨ds,δ1⟩,e1,e2⟩:=aa.mp e;dsimp only at e2;split at e2
  .rename_i v1;cases e2;obtain⟨v,hv,sh⟩:=s.at' j _ hx;have r:=Jp sh;have ev:v=kV kk:=Dj e0 r;have hd:Qu Z (Zh f1 Zs) σ H (λvs H'=>∃kvs:List (Key×V),([kV kk].zip vs)=kvs.map (λkv=>(kV kv.1,kv.2))/\kvs.length<=15/\∀p ep,H' p=aB->Q (.ref p) (Z9 H' p (.dK (On [] kvs) ep))):=by
    refine⟨F,δ,own,[v1],_,s,e1,λvs H1 F1 own1 sH sF s1 r1=>?_⟩;obtain⟨w1,rfl⟩:∃w1,vs=[w1]:=by
     cases r1 with
     |cons h t=>cases t;exact⟨_,rfl⟩
    refine⟨[(kk,w1)],rfl,by show 1<=15;decide,λp ep hp=>?_⟩;have nd:((([]:List (Key×V))++[(kk,w1)]).map (·.1)).Nodup:=by simp
    rw[Ke _ [] nd,d7];exact Fin.one (λw H' F' ns a b c t=>k w H' F' own1 (sH.trans a) (sF.trans b) c ⟨ns,t⟩) s1 (.oK rfl r1) hp
   have h2:=An (fe:=f1) (fd:=Zs) hd;refine⟨v,hv,?_⟩;rw[ev];refine Xs (λu H1 q=>?_) h2;have z:=Fw q;exact z
  .cases e2
 .cases e
end
section
variable{X:Cx}{Z:Ent X.K}{a b c:cj}{fa fb fc:FE}{pos:Pos}
theorem Zn0(ha:PE X a (Ze Z fa)):PI X tg a (Qm Z (Zf2 fa)):=λpins s σ H R I h=>Zjd ha pins s σ H R I (Zje h)
theorem Zlh(hu:X.A.units+64<f6)(ha:PE X a (Ze Z fa))(hb:PE X b (Ze Z fb))(hs:Tu b:=by intro _ _;rfl):PE X (.Subscript a b pos) (Ze Z (Zm Zf3 fa fb)):=λpins s σ H Q I h=>Zi7 (by omega) ha hb hs pins s σ H Q I (Fv Zsc h)
theorem Ny(i){px apos cpos}(hb:PE X b (Ze Z fb))(hN:X.N[i]? =aA x:=by rfl)(hv:Vs X.env.scope x:=by first|exact Or.inl rfl|exact gw (Or.inl rfl)|exact gw (gw rfl))(hd:(x==("__debug__":Str))=aD:=by decide)(hcd:(x==("__classdict__":Str))=aD:=by decide)(hbase:attributeBase (.Name x px) "extend" X.env (gp (.Name x px) X.env)=gp (.Name x px) X.env:=by rfl)(hfew:((gq cpos (a9 [b] X.env)).all (λx=>!x.1)&&(backToKw cpos (keywordEach [] X.env)).all (λx=>x.1.isSome)&&decide ([b].length+([]:List Keyword).length+(if([]:List Keyword).isEmpty then 0 else 1)<30))=aC:=by rfl)(hline:(apos.endLine==cpos.line)=aC:=by rfl)(hs:a9 [b] X.env=(aD,gp b X.env)::a9 [] X.env:=by rfl)(hpl:(gq cpos (a9 [] X.env)).any (·.1)=aD:=by rfl)(hsw:swapsWith (.Call (.Attribute (.Name x px) "extend" apos) [b] [] cpos) aB pos.line X.env=pure aD:=by rfl):
  PS X (.Expr (.Call (.Attribute (.Name x px) "extend" apos) [b] [] cpos) pos) (Z5 Z (Em i fb)):=
 (Tt (Hz PySem.F.plainAttrs_list PySem.F.slot_list_extend PySem.F.type_list_extend Zaj (Jy (i:=i) hN hv hd hcd) (Jf hb Bj hs) hbase hfew hline hs hpl) hsw).imp λ_ _ _ h=>Znz h
theorem Zjh(j ia il){py pz apos cpos p1 p2}(hn:X.N.Nodup)(hy:PE X (.Name y py) (Bg ia))(hz:PE X (.Name z pz) (Bg il))(hj:X.N[j]? =aA x:=by rfl)(hl:Loc X.env.scope x:=by first|exact Or.inl rfl|exact gw rfl)(hbase:attributeBase (.Name z pz) "pop" X.env (gp (.Name z pz) X.env)=gp (.Name z pz) X.env:=by rfl)(hline:(apos.endLine==cpos.line)=aC:=by rfl)(hs:swapsWith (.Subscript (.Name y py) (.Call (.Attribute (.Name z pz) "pop" apos) [] [] cpos) p2) (aA (.Name x p1)) pos.line X.env=pure aD:=by rfl)(hf:X.fn x=aC\/X.env.scope.names.lookup x=aA .local:=by first|exact .inl rfl|exact .inr rfl):
  PS X (.Assign [.Name x p1] (.Subscript (.Name y py) (.Call (.Attribute (.Name z pz) "pop" apos) [] [] cpos) p2) pos) (Z5 Z (Nx j ia il)):=
 (Zc5 hn hj hl (Zdf Zdg hy (Zmf PySem.F.plainAttrs_list PySem.F.slot_list_pop PySem.F.type_list_pop Zmg hz hbase hline) (by intro _ _;rfl)) hs hf).imp λ_ _ _ h=>Zjf h
theorem Zji(j){p2}(hb:PE X b (Ze Z fb))(hN:X.N[j]? =aA x:=by rfl)(hv:Vs X.env.scope x:=by first|exact Or.inl rfl|exact gw (Or.inl rfl)|exact gw (gw rfl))(hd:(x==("__debug__":Str))=aD:=by decide)(hcd:(x==("__classdict__":Str))=aD:=by decide):PE X (.Dict [aA (.Name x p2)] [b] pos) (Ze Z (Zam j fb)):=
 (Ze2 (Zdq (Jy (i:=j) hN hv hd hcd) hb Zhv) (by rfl) (by rfl) (by simp) (by show 1<=15;decide)).imp λ_ _ _ h=>Zjg h
end
end DL
namespace L2
open PySem PySem.Spec PySem.Calls PyProof.Rows DL TX
def Zw0(_:ad):List V->Hp->VK->Prop:=λvs H Q=>∃a kvs ep ss,vs=[.ref a]/\H a=aA (.dK kvs ep)/\kvs.map (·.1)=ss.map d3/\ss.length<64/\∀q,H q=aB->Q (.ref q) (Z9 H q (.lst ((Zi2 ss).map V.str)))
end L2
namespace DL
open PySem PySem.Spec PySem.Calls PyProof.Rows L2 TX
def txk?:List Key->Option (List Str)
 | []=>aA []
 | .inr x::r=>(txk? r).bind λl=>aA (x::l)
 | .inl _::_=>aB
@[simp]theorem Zjj:∀ss,txk? (ss.map d3)=some ss
 | []=>rfl
 |s::ss=>by rw[bc,txk?,Zjj ss];rfl
def Zw1:List D->Option SV
 | [.dK ks _]=>(txk? ks).bind λss=>if ss.length<64 then aA (.ol ((Zi2 ss).map D.str))else aB
 |_=>aB
end DL
namespace DL
open PySem PySem.Spec PyProof.Rows L2 TT
open Classical in
def res(S:aj->Prop)(F:Hp):Hp:=λb=>if S b then F b else aB
inductive AR:D->Prop where
 |non:AR .non
 |bl (b:Bool):AR (.bl b)
 |int (i:Int):AR (.int i)
 |str (x:Str):AR (.str x)
 |tup {xs:List D} (h:∀d∈xs,AR d):AR (.tup xs)
 |dK {ks:List Key} {vs:List D} (h:∀d∈vs,AR d):AR (.dK ks vs)
 |txs {ss:List Str} (h:ss≠[]):AR (.lst (ss.map D.str))
 |lsts {xss:List (List Str)} (h:∀ss∈xss,ss≠[]):AR (.lst (xss.map λss=>.lst (ss.map D.str)))
def Zn1(F:Hp)(b:aj):Prop:=∀t rest,F b=aA (.lst (.ref t::rest))->∃us,F t=aA (.lst us)
def Cut(K:ad)(F:Hp)(d:D):Prop:=∀v,Rep K F d v->∃S:aj->Prop,Rep K (res S F) d v/\∀b,S b->Zn1 F b
def FlV(G:Hp)(u:V):Prop:=∃t l,u= .ref t/\G t=aA (.tup ((Gj l).map kV))
def Mt(G:Hp)(b:aj):Prop:=∃t rest x ws,G b=aA (.lst (.ref t::rest))/\G t=aA (.tup (.str x::ws))
def Chg(B:Nat)(G G':Hp):Prop:=∀b o,G b=aA o->G' b=aA o\/(Mt G b/\∃us,G' b=aA (.lst us)/\us.length<=B/\∀u∈us,FlV G' u)
inductive PlD:D->Prop where
 |non:PlD .non
 |bl (b:Bool):PlD (.bl b)
 |int (i:Int):PlD (.int i)
 |str (x:Str):PlD (.str x)
 |tup {xs:List D} (h:∀d∈xs,PlD d):PlD (.tup xs)
 |lst {xs:List D} (h:∀d∈xs,PlD d):PlD (.lst xs)
def Z1i(K:ad)(G G':Hp)(d:D):Prop:=∀v,Rep K G d v->∃d',Rep K G' d' v/\((∃xs,d= .lst xs)->∃xs',d'= .lst xs')
def FlL(m:Nat)(xs:List D):Prop:=xs≠[]/\xs.length<=m/\∀e∈xs,∃(x:Str) (l:List Str),e= .tup ((x::l).map D.str)
def HpD(m:Nat)(d:D):Prop:=∃xs ys zs,d= .tup [.lst xs,.lst ys,.lst zs]/\FlL m xs/\zs≠[]/\(∀e∈zs,∃(x:Str) (r:List D),e= .tup (.str x::r))/\PlD (.lst xs)/\PlD (.lst ys)/\PlD (.lst zs)
def Zsd(i j n:Nat)(ds:List D)(δ1:Yk)(sv:SV)(T1 T2:FT):Prop:=
 ds.length=n/\(∀d∈ds,AR d)/\i≠j/\i<δ1.length/\j<δ1.length/\∃(m:Nat) (hs:List D),sv.toD= .lst hs/\(∀h∈hs,HpD m h)/\m+hs.length<bd/\(∃δ2,T1 (δ1.set i (aA (.fz sv.toD)))=aA (aD,δ2))/\
  ∀xs ys zs,∃δ4,T2 ((δ1.set i aB).set j (aA (.fz (.tup [.lst xs,.lst ys,.lst zs]))))=aA (aD,δ4)
open Classical in
def Zw2(i j n:Nat)(g:List D->Option SV)(fd:FD)(T1 T2:FT):FS:=λδ=>(fd δ).bind λp=>(g p.1).bind λsv=>
 if Zsd i j n p.1 p.2 sv T1 T2 then aA (.nx ((p.2.set i aB).set j aB))else aB
abbrev tAt(j:Nat)(k:Int)(K:ad):TE:=tOp (rIx K) (Bg j) (tC (.int k))
end DL
namespace DL
open PySem PySem.Spec PyProof.Rows L2 TT
end DL
namespace DL
open PySem PySem.Spec PyProof.Rows L2 TX TT
variable{K:ad}
abbrev NTs(H:Hp)(bs:List aj)(ks:List Zl):Prop:=Paired (λ(b:aj) (k:Zl)=>Q4 H k b) bs ks
open Classical in
def Ha(H:Hp)(k:Zl):ah->Bool:=λw=>decide (∃b,w= .ref b/\Q4 H k b)
theorem Zan(h:(Gj a).map kV=(Gj b).map kV):a=b:=by
 have e:∀l:List Str,(Gj l).map kV=l.map V.str:=λl=>by unfold Gj;rw[cg];rfl
 rw[e,e]at h;exact Sm h
theorem Zf4(h:Q4 H k b)(h':Q4 H k' b):k=k':=by
 cases k with
 |inl l=>
  cases k' with
  |inl l'=>have e:=HO.tup.inj (cz.inj ((show H b=_ from h).symm.trans h'));rw[Zan e]
  |inr p=>
   obtain⟨c,h1,h2⟩:=h';have e:=HO.tup.inj (cz.inj ((show H b=_ from h).symm.trans h1));cases l with
   |nil=>simp[Gj]at e
   |cons x l=>simp[Gj,kV]at e
 |inr p=>
  obtain⟨c,h1,h2⟩:=h;cases k' with
  |inl l'=>
   have e:=HO.tup.inj (cz.inj (h1.symm.trans (show H b=_ from h')));cases l' with
   |nil=>simp[Gj]at e
   |cons x l=>simp[Gj,kV]at e
  |inr p'=>obtain⟨c',h1',h2'⟩:=h';have e:=HO.tup.inj (cz.inj (h1.symm.trans h1'));simp at e;obtain⟨e1,e2⟩:=e;subst e2;have e3:=HO.tup.inj (cz.inj (h2.symm.trans h2'));obtain⟨n,l⟩:=p;obtain⟨n',l'⟩:=p';rw[show n=n' from e1,show l=l' from Zan e3]
theorem S8(h:Q4 H k' b):Ha H k (.ref b)=decide (k'=k):=by
 unfold Ha;by_cases e:k'=k
 .subst e;rw[decide_eq_true rfl];exact @decide_eq_true _ (Classical.propDecidable _) ⟨b,rfl,h⟩
 .rw[decide_eq_false e];exact @decide_eq_false _ (Classical.propDecidable _) λ⟨b',z,q⟩=>by cases z;exact e (Zf4 h q)
theorem S9:∀{bs:List aj} {ks:List Zl},NTs H bs ks->(bs.map b8).any (Ha H k)=ks.any λx=>decide (x=k)
 |_,_,.nil=>rfl
 |c::bs,x::ks,.cons h t=>by rw[bc,List.any_cons,List.any_cons,S8 h,S9 t]
def Zse(K:ad)(neg:Bool):R2:=λx y H Q=>∃b k a bs ks,x= .ref b/\Q4 H k b/\y= .ref a/\W5 K H a (bs.map V.ref)/\NTs H bs ks/\(∀k'∈ks,We 48 (Zn k') (Zn k)=aA (decide (k'=k)))/\Q (.bl (if neg then !(ks.any λx=>decide (x=k))else ks.any λx=>decide (x=k))) H
section
variable{X:Cx}{pins:List (aj×Obj)}{σ:L2.St}{H:Hp}{s:am}
theorem Va(I:Inv X pins σ H s)(hu:A.units+48<f6)(hb:Q4 H k b):∀{bs:List aj} {ks:List Zl},NTs H bs ks->(∀k'∈ks,We 48 (Zn k') (Zn k)=aA (decide (k'=k)))->∀u∈bs.map b8,SeqAt.EqAt A s u (.ref b) (Ha H k u)
 |_,_,.nil,_,u,hm=>nomatch hm
 |c::bs,x::ks,.cons h t,hq,u,hm=>by
  rw[bc]at hm;rcases bx.mp hm with z|z
  .subst z;rw[S8 h];exact Mn I (Zi.refl H) 48 A (Zn x) (Zn k) _ (.ref c) (.ref b) _ _ hu (Cn h) rfl (Cn hb) rfl (hq x af)
  .exact Va I hu hb t (λk' hk=>hq k' (ao _ hk)) u z
theorem Zn2(hu:X.A.units+64<f6):Cf X (g9 .In) (Zse X.K aD):=by intro pins s σ H x y v u Q I rx ry h;obtain⟨b,k,a,bs,ks,rfl,hb,rfl,hq,ht,he,q⟩:=h;cases rx;cases ry;obtain⟨its,r,pl,hz⟩:=I.list hq;have ei:=Dc r;subst ei;refine SeqAt.in_listAt (Ha H k) pl.isList (λw hw=>Va I (by have:X.A.in1.units=X.A.units+1:=rfl;omega) hb ht he w (by simpa using hw)) ⟨.bl _,H,I,rfl,?_⟩;rw[show(bs.map b8).toArray.any (Ha H k)=(bs.map b8).any (Ha H k) by simp,S9 ht];exact q
end
open Classical in
def inN(d1 d2:D):Option SV:=match d2 with
 | .lst xs=>(nk? d1).bind λk=>(nks? xs).bind λks=>if(∀k'∈ks,We 48 (Zn k') (Zn k)=aA (decide (k'=k)))then aA (.fz (.bl (ks.any λx=>decide (x=k))))else aB
 |_=>aB
open Classical in
def Zw3(d1 d2:D):Option SV:=match d2 with
 | .lst xs=>(nk? d1).bind λk=>(nks? xs).bind λks=>if(∀k'∈ks,We 48 (Zn k') (Zn k)=aA (decide (k'=k)))then aA (.fz (.bl (!(ks.any λx=>decide (x=k)))))else aB
 |_=>aB
theorem Zn3{ks:List Zl}(h:∀k'∈ks,We 48 (Zn k') (Zn k)=aA (decide (k'=k))):inN (Zn k) (.lst (ks.map Zn))=aA (.fz (.bl (ks.any λx=>decide (x=k)))):=by unfold inN;dsimp only;rw[Co];dsimp only[c6];rw[Ty];dsimp only[c6];rw[if_pos h]
theorem Zf5:∀{ks:List Zl} {vs:List V},Reps K F (ks.map Zn) vs->∃bs,vs=bs.map V.ref/\NTs F bs ks
 | [],_,h=>by cases h;exact⟨[],rfl,.nil⟩
 |k::ks,_,h=>by
  cases h with
  |cons h t=>obtain⟨b,rfl,hb⟩:=R3 h;obtain⟨bs,rfl,hbs⟩:=Zf5 t;exact⟨b::bs,rfl,.cons hb hbs⟩
theorem Zsf{Z:Ent K}:Y7 Z (Zse K aD) inN:=by
 intro F H σ δ own x y d1 d2 sv Q s r1 r2 e k;unfold inN at e;split at e
 .obtain⟨kk,e1,e⟩:=aa.mp e;obtain⟨ks,e2,e⟩:=aa.mp e;split at e
  .rename_i hq;cases e;obtain⟨b,rfl,hb⟩:=r1.nk s.le e1;obtain⟨a,us,rfl,hs,ru⟩:=r2.lst s.le;rw[Nv e2]at ru;obtain⟨bs,rfl,tb⟩:=Zf5 ru;exact⟨b,kk,a,bs,ks,rfl,hb,rfl,hs,Paired.mapP tb λ_ _ z=>z.mono λ_ _ w=>s.le _ _ w,hq,k.fz s (.bl _)⟩
  .cases e
 .cases e
end DL
namespace RV
open PySem PyProof.Rows
end RV
namespace RV
open PySem PyProof.Rows
def Zy5(h:d6)(it a:aj)(j:Int):Prop:=∃o,h.get? it=aA o/\o.cls= .type "list_reverseiterator"/\o.data= .fields #[.ref a,.int j 0]
end RV
namespace L2
open PySem PySem.Spec PyProof.Rows RV
noncomputable def Itv(K:ad)(a:aj)(n:Nat):It:=
 ⟨λi H=>∃xs x,W5 K H a xs/\xs.length=n/\xs.reverse[i]? =aA x,λi H x H'=>H'=H/\∀xs,W5 K H a xs->xs.reverse[i]? =aA x,λi H=>n<=i⟩
def Z1m(K:ad)(ta:TA):TI:=λσ H R=>ta σ H λvs H1=>∃a xs,vs=[.ref a]/\W5 K H1 a xs/\R (Itv K a xs.length) H1
end L2
namespace DL
open PySem PySem.Spec PyProof.Rows L2
variable{K:ad}{Z:Ent K}
@[simp]def Z1n(fd:FD):FD:=λδ=>(fd δ).bind λp=>match p.1 with
 | [.lst xs]=>aA (xs.reverse,p.2)
 |_=>aB
section
variable{X:Cx}{Z:Ent X.K}{a b c:cj}{fa fb fc:FE}{pos:Pos}
theorem Zsg(hv:X.A.units+64<f6)(ha:PE X a (Ze Z fa))(hb:PE X b (Ze Z fb))(hm:behindInMarks .In b=aD:=by rfl):PT X (.Compare a [.In] [b] pos) (Yl Z (Ys (Zm inN fa fb))):=Kb (Zn2 hv) Zsf ha hb hm
end
end DL
namespace DL
open PySem PySem.Spec PyProof.Rows L2
variable{K:ad}
theorem KidD.length:∀{dss:List (List Key×List D)} {ws:List V} {ns:Zo},KidD K F dss ws ns->dss.length=ws.length
 |_,_,_,.nil=>rfl
 |_,_,_,.cons _ t=>by rw[bf,bf,t.length]
theorem KidD.ref:∀{dss:List (List Key×List D)} {ws:List V} {ns:Zo} {p:Nat} {v:V},KidD K F dss ws ns->ws[p]? =aA v->∃b,v= .ref b
 |_,_,_,_,_,.nil,e=>by simp at e
 |_,_,_,0,_,.cons _ _,e=>⟨_,by simpa using e.symm⟩
 |_,_,_,p+1,_,.cons _ t,e=>t.ref (p:=p) (by simpa using e)
theorem KidD.put:∀{dss:List (List Key×List D)} {ws:List V} {ns:Zo} {p:Nat} {b:aj},KidD K F dss ws ns->ws[p]? =aA (.ref b)->(Bf ns).Nodup->
  ∃kvs ds ep,dss[p]? =aA (kvs.map (·.1),ds)/\(b,HO.dK kvs ep)∈ns/\Reps K F ds (kvs.map (·.2))/\∀{kvs':List (Key×V)} {ds':List D} {ep':Nat},Reps K F ds' (kvs'.map (·.2))->∃ns',KidD K F (dss.set p (kvs'.map (·.1),ds')) ws ns'/\Bf ns'=Bf ns/\∀q∈ns',q=(b,HO.dK kvs' ep')\/(q∈ns/\q.1≠b)
 |_,_,_,_,_,.nil,e,_=>by simp at e
 |_,_,_,0,b,@KidD.cons _ _ ds dss b' kvs ep ws ns r t,e,nd=>by
  have e':b'=b:=by simpa using e
  subst e';obtain⟨n1,n2⟩:=dm.mp nd;refine⟨kvs,ds,ep,rfl,af,r,fun{kvs' ds' ep'} hd=>⟨(b',.dK kvs' ep')::ns,.cons hd t,rfl,λq hq=>?_⟩⟩;rcases bx.mp hq with z|z
  .exact .inl z
  .exact .inr ⟨ao _ z,λw=>n1 (ax.mpr ⟨q,z,w⟩)⟩
 |_,_,_,p+1,b,@KidD.cons _ _ ds0 dss b' kvs0 ep0 ws ns r t,e,nd=>by
  obtain⟨n1,n2⟩:=dm.mp nd;obtain⟨kvs,ds,ep,h1,h2,h3,h4⟩:=KidD.put (p:=p) (b:=b) t (by simpa using e) n2;refine⟨kvs,ds,ep,by simpa using h1,ao _ h2,h3,fun{kvs' ds' ep'} hd=>?_⟩;obtain⟨ns',k1,k2,k3⟩:=h4 (ep':=ep') hd;refine⟨(b',.dK kvs0 ep0)::ns',by rw[List.set_cons_succ];exact .cons r k1,by show b'::Bf ns'=b'::Bf ns;rw[k2],λq hq=>?_⟩;rcases bx.mp hq with z|z
  .refine .inr ⟨by rw[z];exact af,λw=>n1 ?_⟩;rw[z]at w;exact ax.mpr ⟨_,h2,w.symm⟩
  .rcases k3 q z with w|⟨w,w2⟩
   .exact .inl w
   .exact .inr ⟨ao _ w,w2⟩
theorem Zf6(h:Shape K F (.oD dss) v ns):∃a ws ns',v= .ref a/\ns=(a,.lst ws)::ns'/\KidD K F dss ws ns':=by
 cases h with
 |oD r=>exact⟨_,_,_,rfl,rfl,r⟩
section
variable{Z:Ent K}{H:Hp}{σ:L2.St}{Q:VK}{E:Ends}
theorem Zf7(s:SR Z F H σ δ own)(h:δ[i]? =aA (aA (.oD dss))):
  ∃a ws ns,σ[i]? =aA (aA (.ref a))/\own i=(a,HO.lst ws)::ns/\KidD K F dss ws ns/\H a=aA (.lst ws)/\a∉Bf ns/\(Bf ns).Nodup:=by
 obtain⟨v,hv,sh⟩:=s.at' i _ h;obtain⟨a,ws,ns,rfl,en,kd⟩:=Zf6 sh;have nd:=s.nod i;rw[en]at nd;obtain⟨q1,q2⟩:=dm.mp nd;exact⟨a,ws,ns,hv,en,kd,(s.ok i (a,.lst ws) (by rw[en];exact af)).2.2,q1,q2⟩
@[simp]def Zf8:FE:=λδ=>some (.tmp (.oD [([],[]),([],[]),([],[])]),δ)
theorem Zjk(h:Ze Z Zf8 σ H Q):Zhn (Rm Ag (Rm Ag (Rm Ag Pq))) σ H Q:=by
 obtain⟨F,δ,own,rv,δ',s,e,k⟩:=h;cases e;intro b1 h1 b2 h2 b3 h3;refine⟨by show 3<=_;decide,λa ha=>?_⟩;have S1:=Ws (o:=HO.dK [] 0) h1;have S2:=Ws (o:=HO.dK [] 0) h2;have S3:=Ws (o:=HO.dK [] 0) h3;have S4:=Ws (o:=HO.lst [.ref b1,.ref b2,.ref b3]) ha;have f2:H b2=aB:=S1.free h2;have f3:H b3=aB:=S1.free (S2.free h3);have f0:H a=aB:=S1.free (S2.free (S3.free ha));have n21:b2≠b1:=λz=>by rw[z,Z3]at h2;cases h2
 have n32:b3≠b2:=λz=>by rw[z,Z3]at h3;cases h3
 have n31:b3≠b1:=λz=>by rw[z,S2 b1 _ Z3]at h3;cases h3
 have n03:a≠b3:=λz=>by rw[z,Z3]at ha;cases ha
 have n02:a≠b2:=λz=>by rw[z,S3 b2 _ Z3]at ha;cases ha
 have n01:a≠b1:=λz=>by rw[z,S3 b1 _ (S2 b1 _ Z3)]at ha;cases ha
 have ST:=S1.trans (S2.trans (S3.trans S4));have nd:(Bf [(a,HO.lst [.ref b1,.ref b2,.ref b3]),(b1,HO.dK [] 0),(b2,HO.dK [] 0),(b3,HO.dK [] 0)]).Nodup:=by simp[n01,n02,n03,Ne.symm n21,Ne.symm n31,Ne.symm n32]
 have all:∀p∈[(a,HO.lst [.ref b1,.ref b2,.ref b3]),(b1,HO.dK [] 0),(b2,HO.dK [] 0),(b3,HO.dK [] 0)],H p.1=aB/\(Z9 (Z9 (Z9 (Z9 H b1 (HO.dK [] 0)) b2 (HO.dK [] 0)) b3 (HO.dK [] 0)) a (HO.lst [.ref b1,.ref b2,.ref b3])) p.1=aA p.2:=λp hp=>by
  simp only[bx,List.not_mem_nil,or_false]at hp;rcases hp with rfl|rfl|rfl|rfl
  .exact⟨f0,Z3⟩
  .exact⟨h1,S4 _ _ (S3 _ _ (S2 _ _ Z3))⟩
  .exact⟨f2,S4 _ _ (S3 _ _ Z3)⟩
  .exact⟨f3,S4 _ _ Z3⟩
 refine k (.ref a) _ F own ST (Zi.refl F) (s.grow ST) ⟨[(a,.lst [.ref b1,.ref b2,.ref b3]),(b1,.dK [] 0),(b2,.dK [] 0),(b3,.dK [] 0)],.oD (.cons (kvs:=[]) .nil (.cons (kvs:=[]) .nil (.cons (kvs:=[]) .nil .nil))),nd,λp hp=>?_,λi p q hp hq e=>?_⟩
 .obtain⟨z1,z2⟩:=all p hp;exact⟨s.le.free z1,s.old.free z1,z2⟩
 .have hq':=(s.ok i q hq).2.2;rw[<-e,(all p hp).1]at hq';cases hq'
def Vb(i:Nat)(fi fk fv:FE):FS:=λδ=>(fv δ).bind λq=>(frz q.1 q.2).bind λr=>match r.2[i]? with
 |some (aA (.oD dss0))=>(fi r.2).bind λq2=>(Iw q2.1 q2.2).bind λjd=>match jd with
  | .int j=>(ixN dss0.length j).bind λn=>(fk q2.2).bind λq3=>(Iw q3.1 q3.2).bind λkd=>kd.key?.bind λkk=>match q3.2[i]? with
   |some (aA (.oD dss))=>(dss[n]?).bind λp=>if p.2.length<bd then aA (.nx (q3.2.set i (aA (.oD (dss.set n (Wv p.1 p.2 kk r.1))))))else aB
   |_=>aB
  |_=>aB
 |_=>aB
theorem Zn4(h:Z5 Z (Vb i fi fk fv) E σ H):Zdp (tOp (Zhr K) (Bg i) (Ze Z fi)) (Ze Z fk) (Ze Z fv) E σ H:=by
 obtain⟨F,δ,own,fl,s,e,k⟩:=h;unfold Vb at e;obtain⟨⟨rv,δ1⟩,e1,e⟩:=aa.mp e;obtain⟨⟨d,δ2⟩,e2,e⟩:=aa.mp e;dsimp only at e2 e;split at e
 .rename_i dss0 hi0;obtain⟨⟨ri,δ3⟩,e3,e⟩:=aa.mp e;obtain⟨jd,e4,e⟩:=aa.mp e;dsimp only at e4 e;split at e
  .rename_i j;obtain⟨n,e8,e⟩:=aa.mp e;obtain⟨⟨rk,δ4⟩,e5,e⟩:=aa.mp e;obtain⟨kd,e6,e⟩:=aa.mp e;obtain⟨kk,e7,e⟩:=aa.mp e;dsimp only at e6 e;split at e
   .rename_i dss hi;obtain⟨p,e9,e⟩:=aa.mp e;split at e
    .rename_i hz;cases e;refine⟨F,δ,own,rv,δ1,s,e1,λv H1 F1 own1 sH1 sF1 s1 r1=>?_⟩;obtain⟨F2,sF2,s2,r2⟩:=s1.settleR r1;obtain⟨F3,own3,sF3,s3,r3⟩:=s2.frzR r2 e2;obtain⟨a,ws,ns,hv,en,kd0,hH,q1,q2⟩:=Zf7 s3 hi0;have hl:=kd0.length;rw[hl]at e8;have hn:n<ws.length:=(Lo e8).2.1;obtain⟨b,hb⟩:=kd0.ref (av hn);have hwn:ws[n]? =aA (.ref b):=by rw[av hn,hb]
     refine⟨.ref a,hv,F3,δ2,own3,ri,δ3,s3,e3,λy H4 F4 own4 sH4 sF4 s4 r4=>?_⟩;obtain⟨F5,sF5,s5,r5⟩:=s4.settleR r4;obtain rfl:=(s5.rd r5 e4).int;have hH4:=sH4 _ _ hH;refine⟨a,ws,j,.ref b,rfl,rfl,.inl (.inl hH4),by unfold atI;rw[e8];exact hwn,F5,δ3,own4,rk,δ4,s5,e5,λy2 H6 F6 own6 sH6 sF6 s6 r6=>?_⟩;obtain⟨F7,sF7,s7,r7⟩:=s6.settleR r6;have rk':=s7.rd r7 e6;obtain⟨a7,ws7,ns7,hv7,en7,kd7,hH7,r1',r2'⟩:=Zf7 s7 hi;rw[hv]at hv7;cases hv7;have:aA (HO.lst ws7)=aA (HO.lst ws):=hH7.symm.trans (sH6 _ _ hH4);cases this;obtain⟨kvs,ds,ep,k1,k2,k3,k4⟩:=kd7.put hwn r2';rw[e9]at k1;cases k1;have sFF:Zi F3 F7:=sF4.trans (sF5.trans (sF6.trans sF7));have rd:Rep K F7 d v:=r3.mono sFF;have z:=Nd (k:=kk) rd kvs ds k3;have mb3:(a,HO.lst ws)∈own6 i:=by rw[en7];exact af
     have mbb:(b,HO.dK kvs ep)∈own6 i:=by rw[en7];exact ao _ k2
     have hne:a≠b:=λz=>r1' (ax.mpr ⟨_,k2,z.symm⟩);refine⟨b,rfl,?_⟩;rw[Ar e7 rk'];refine Af.k ⟨_,(s7.ok i _ mbb).2.2⟩ (by rw[<-k3.length_map];exact hz) λep'=>?_;obtain⟨ns',j1,j2,j3⟩:=k4 (kvs':=Qe kvs kk v) (ds':=(Wv (kvs.map (·.1)) ds kk d).2) (ep':=ep') z.2;rw[z.1]at j1;refine k σ _ F7 _ (sF1.trans (sF2.trans (sF3.trans sFF))) (s7.change (sv':=.oD (dss.set n (Wv (kvs.map (·.1)) ds kk d))) (o':=.dK (Qe kvs kk v) ep') (ns':=(a,.lst ws)::ns') hi hv mbb (.oD j1) (λq hq=>?_) ?_)
     .rcases bx.mp hq with z|z
      .exact .inr ⟨by rw[z];exact mb3,by rw[z];exact hne⟩
      .rcases j3 q z with z|⟨z,z2⟩
       .exact .inl z
       .exact .inr ⟨by rw[en7];exact ao _ z,z2⟩
     .show(a::Bf ns').Nodup;rw[j2];exact dm.mpr ⟨r1',r2'⟩
    .cases e
   .cases e
  .cases e
 .cases e
end
section
variable{X:Cx}{Z:Ent X.K}{a b c:cj}{fa fb fc:FE}{pos:Pos}
theorem Zjl(he:a9 [.Dict [] [] p1,.Dict [] [] p2,.Dict [] [] p3] X.env=(aD,gp (.Dict [] [] p1) X.env)::a9 [.Dict [] [] p2,.Dict [] [] p3] X.env:=by rfl)(he2:a9 [.Dict [] [] p2,.Dict [] [] p3] X.env=(aD,gp (.Dict [] [] p2) X.env)::a9 [.Dict [] [] p3] X.env:=by rfl)(he3:a9 [.Dict [] [] p3] X.env=(aD,gp (.Dict [] [] p3) X.env)::a9 [] X.env:=by rfl):
  PE X (.List [.Dict [] [] p1,.Dict [] [] p2,.Dict [] [] p3] pos) (Ze Z Zf8):=(Ln (Jf Ro (Jf Ro (Jf Ro Bj he3) he2) he)).imp λ_ _ _ h=>Zjk h
theorem Zn5(i){px p0 p1}(hu:X.A.units+1<f6)(hc:PE X c (Ze Z fc))(hb:PE X b (Ze Z fb))(hv':PE X a (Ze Z fa))(hN:X.N[i]? =aA x:=by rfl)(hv:Vs X.env.scope x:=by first|exact Or.inl rfl|exact gw (Or.inl rfl)|exact gw (gw rfl))(hd:(x==("__debug__":Str))=aD:=by decide)(hcd:(x==("__classdict__":Str))=aD:=by decide)(hpl:Tu c:=by intro _ _;rfl)(hs:swapsWith a (aA (.Subscript (.Subscript (.Name x px) c p0) b p1)) pos.line X.env=pure aD:=by rfl):
  PS X (.Assign [.Subscript (.Subscript (.Name x px) c p0) b p1] a pos) (Z5 Z (Vb i fc fb fa)):=(Db hu (Zdf Hy (Jy (i:=i) hN hv hd hcd) hc hpl) hb hv' hs).imp λ_ _ _ h=>Zn4 h
end
end DL
namespace L2
open PySem PySem.Spec PyProof.Rows SX TT TX DL
def rLS(K:ad):List V->Hp->VK->Prop:=λvs H Q=>∃(l:aj) (ys:List (Zl×aj)),vs=[.ref l]/\W5 K H l (ys.map λy=>V.ref y.2)/\(∀y∈ys,Q4 H y.1 y.2)/\ys.length<=75/\Q (.int ((Iq ys).length:Nat)) H
theorem Zjm(hc:X.calm=aC)(hu:X.A.units+64<f6)(h1:X.mg "len"=aB)(h2:X.mg "set"=aB)(ha:PA X [a] t)(g1:Gl X "len")(g2:Gl X "set")(he1:a9 [.Call (.Name "set" q1) [a] [] q2] X.env=(aD,gp (.Call (.Name "set" q1) [a] [] q2) X.env)::a9 [] X.env)(hp1:(gq p2 (a9 [] X.env)).any (·.1)=aD)(he2:a9 [a] X.env=(aD,gp a X.env)::a9 [] X.env)(hp2:(gq q2 (a9 [] X.env)).any (·.1)=aD):
  PE X (.Call (.Name "len" p1) [.Call (.Name "set" q1) [a] [] q2] [] p2) (tCB (rLS X.K) t):=by
 intro pins s σ H Q I h;refine wpAny_Call_Name_kw (Bh I g1 h1 boot_len ?_);refine PyProof.Rows.callWith_builtin1 ?_ he1 hp1;rw[he1];show bg _ _ (spliced ((aD,gp (.Call (.Name "set" q1) [a] [] q2) X.env)::gq p2 (a9 [] X.env))) _ _ s;refine Calls.spliced_cons (wpAny_Call_Name_kw (Bh I g2 h2 Su ?_));refine PyProof.Rows.callWith_type1 (Wp (ha q2 pins s σ H _ I h) λus s1 ⟨vs,H1,I1,r1,z1⟩=>?_) he2 hp2;obtain⟨l,ys,rfl,hl,hn,hz,q⟩:=z1;obtain⟨u,rfl,ru⟩:=Oc r1;cases ru;obtain⟨its,rv,⟨o,n,ho,hcl,_,hd⟩,_⟩:=I1.list hl;have hits:=Znx rv;have hh:=I1.ok.hd hc;refine S5 (its:=its.toArray) (ys:=ys) hh (by omega) ⟨o,ho,hcl,n,hd⟩ (by simpa using hits) (λy hy=>Ei I1.hok (hn y hy)) hz λh' tk o' ho' hO hk=>?_;show bg _ _ (spliced []) _ _ _;refine Calls.spliced_nil ?_;have kept:∀b x,s1.heap.get? b=aA x->h'.get? b=aA x:=λb x e=>hk b x (bo e) e;have I2:Inv X pins σ H1 {s1 with heap:=h',toks:=tk+1+1}:=I1.kept kept;obtain⟨es,ep,tt,zs,hx,hdt,he,pm,nd,his,tb,hled,hroom⟩:=hO;have zl:zs.length=es.size:=by rw[<-ay,he,aq]
 have xl:(Iq ys).length=es.size:=by rw[<-pm.length_eq,zl]
 have yl:=Zag ys;refine call_len_set (s:={s1 with heap:=h',toks:=tk}) ho' hx hdt (tb.fits (by simp)) (by omega) ?_;rw[xl]at q;exact⟨.int (es.size:Nat),H1,I2,⟨_,rfl⟩,q⟩
end L2
namespace DL
open PySem PySem.Spec PyProof.Rows L2 SX TT TX
variable{K:ad}
def Kv:List D->Option SV
 | [.lst xs]=>(nks? xs).bind λks=>if ks.length<=75 then aA (.fz (.int ((Eg ks).length:Nat)))else aB
 |_=>aB
theorem Kw(h:ks.length<=75):Kv [.lst (ks.map Zn)]=aA (.fz (.int ((Eg ks).length:Nat))):=by show(nks? (ks.map Zn)).bind _=_;rw[Ty];exact if_pos h
section
variable{Z:Ent K}{H:Hp}{σ:L2.St}{Q:VK}
theorem Zn6:Us Z (rLS K) Kv:=by
 intro F H σ δ own vs ds sv Q s r e k;unfold Kv at e;split at e
 .obtain⟨ks,e1,e2⟩:=aa.mp e;split at e2
  .rename_i hz;cases e2;have:=Nv e1;subst this;cases r with
   |cons h t=>cases t;obtain⟨a,us,rfl,ha,ru⟩:=h.lst s.le;obtain⟨ys,rfl,rfl,hy⟩:=Ek ru;have ek:=congrArg List.length (Nt ys);rw[aq]at ek;refine⟨a,ys,rfl,ha,λy hy'=>(hy y hy').mono λ_ _ q=>s.le _ _ q,by simpa using hz,?_⟩;rw[ek];exact k.fz s (.int _)
  .cases e2
 .cases e
end
section
variable{X:Cx}{Z:Ent X.K}{a b c:cj}{fa fb fc:FE}{pos:Pos}
theorem Zf9{p1 q1 q2}(hc:X.calm=aC)(hv:X.A.units+64<f6)(h1:X.mg "len"=aB)(h2:X.mg "set"=aB)(ha:PE X a (Ze Z fa))(g1:Gl X "len":=by rfl)(g2:Gl X "set":=by rfl)(he1:a9 [.Call (.Name "set" q1) [a] [] q2] X.env=(aD,gp (.Call (.Name "set" q1) [a] [] q2) X.env)::a9 [] X.env:=by rfl)(hp1:(gq pos (a9 [] X.env)).any (·.1)=aD:=by rfl)(he2:a9 [a] X.env=(aD,gp a X.env)::a9 [] X.env:=by rfl)(hp2:(gq q2 (a9 [] X.env)).any (·.1)=aD:=by rfl):
  PE X (.Call (.Name "len" p1) [.Call (.Name "set" q1) [a] [] q2] [] pos) (Ze Z (Yq Kv (Zc fa Zj))):=
 (Zjm hc hv h1 h2 (Zk ha Ya he2) g1 g2 he1 hp1 he2 hp2).imp λ_ _ _ h=>Am Zn6 h
end
end DL
namespace My
open DL PySem
theorem Qw(h:n<=16777216):n<=PySem.sizeLine:=h
theorem Yd(h:n<16777216):n<PySem.sizeLine:=h
noncomputable abbrev LET:Str:="ABCDEFGHIJKLMNOPQRSTUVWXYZabcdefghijklmnopqrstuvwxyz"
theorem Zt5(c):(⟨#[c]⟩:Str).length=1:=rfl
theorem Zjn(ns:List Int)(lo hi):∃ms:List Int,L5 (ns.map D.int) lo hi=ms.map D.int/\ms.length<=ns.length:=by unfold L5;refine⟨(ns.drop _).take _,by rw[List.map_take,List.map_drop],?_⟩;rw[gv,List.length_drop];omega
noncomputable def cat:List Str->Str
 | []=>""
 |x::r=>x++cat r
theorem Cq{te:FE}:∀xs ys,(∀x∈xs,∀zs,te [aA (.fz x),c,aA (.ol zs)]=aA (.tmp (.fz (f x)),[aA (.fz x),c,aA (.ol zs)]))->ys.length+xs.length<=16777216->
  Yb [.own,.cap j,.acc] 2 (Zd 0) Q7 te xs [aB,c,aA (.ol ys)]=aA [aB,c,aA (.ol (ys++xs.map f))]
 | [],ys,_,_=>by simp
 |x::xs,ys,h,hl=>by rw[bf]at hl;have ih:=Cq (te:=te) (f:=f) (c:=c) (j:=j) xs (ys++[f x]) (λy hy=>h y (ao _ hy)) (by rw[aw];simp;omega);have e1:=h x af ys;have h4:ys.length<PySem.sizeLine:=Yd (by omega);simp[e1,h4];simpa using ih
theorem Ra:∀xs,(∀x∈xs,f x x=aA aC)->Ba f xs xs=aA aC
 | [],_=>rfl
 |x::r,h=>by simp[h x af,Ra r λy hy=>h y (ao _ hy)]
end My
namespace My
open DL PySem StrLaws Builtin.Str
def gap(n:Nat):Nat->List Nat->Prop
 |_,[]=>True
 |a,p::r=>a<=p/\gap n (p+n) r
noncomputable def jl(y:List Nat):List (List Nat)->List Nat
 | []=>[]
 | [p]=>p
 |p::q::r=>p++y++jl y (q::r)
noncomputable def pos(n:Nat):Nat->List (List Nat)->List Nat
 |_,[]=>[]
 |_,[_]=>[]
 |a,p::q::r=>(a+p.length)::pos n (a+p.length+n) (q::r)
structure Sep(y:Str)(c o:Nat):Prop where
 at':y.cps.toList[o]? =aA c
 one:∀j,y.cps.toList[j]? =aA c->j=o
end My
namespace My
open DL PySem
theorem W7(h1:tg.run d δ=aA δ1)(h2:body δ1=aA (.nx δ2)):Z7 tg body (d::ds) δ=Z7 tg body ds δ2:=by show(tg.run d δ).bind _=_;rw[h1,c6,h2,c6]
noncomputable abbrev S(l:List Nat):Str:=⟨l.toArray⟩
theorem Zli(l):(S l).length=l.length:=by show l.toArray.size=_;simp
theorem Zsh(a b):S a++S b=S (a++b):=by
 show(⟨a.toArray++b.toArray⟩:Str)=⟨(a++b).toArray⟩
 simp
theorem Zsi(h:S a=S b):a=b:=by have:a.toArray=b.toArray:=congrArg Str.cps h;simpa using this
theorem Zsj(x):x=S x.cps.toList:=by cases x;simp
theorem Zn7(l):(S l).cps.toList=l:=by simp
theorem En(p)(i:Nat)(c:α)(h:p[i]? =aA c):L2.atI p (i:Int)=aA c:=by have hl:=(a8.mp h).1;unfold L2.atI L2.ixN;rw[if_pos (by omega),if_pos (by omega)];simpa using h
end My
namespace My
open DL PySem
noncomputable abbrev Ce(s n:Nat):List D:=(List.range' s n).map λi:Nat=>D.int (i:Int)
theorem Qp(n):Td 0 n=Ce 0 n:=by unfold Td;rw[List.range_eq_range'];refine List.map_congr_left λi _=>?_;simp
theorem Gd{P:Nat->Yk->Prop}:∀n s δ,P s δ->(∀i,s<=i->i<s+n->∀δ,P i δ->∃δ1 δ2,tg.run (.int (i:Int)) δ=aA δ1/\body δ1=aA (.nx δ2)/\P (i+1) δ2)->
  ∃δ',Z7 tg body (Ce s n) δ=aA (.nx δ')/\P (s+n) δ'
 |0,s,δ,h,_=>⟨δ,rfl,h⟩
 |n+1,s,δ,h,k=>by obtain⟨δ1,δ2,h1,h2,h3⟩:=k s (ba _) (by omega) δ h;obtain⟨δ',e,h'⟩:=Gd (tg:=tg) (body:=body) (P:=P) n (s+1) δ2 h3 λi hi hj=>k i (by omega) (by omega);refine⟨δ',?_,by rw[show s+(n+1)=s+1+n by omega];exact h'⟩;show Z7 tg body (.int (s:Int)::Ce (s+1) n) δ=_;rw[W7 h1 h2];exact e
noncomputable def Zsk(i:Nat):List D->List D
 | []=>[]
 |x::r=>.tup [.int (i:Int),x]::Zsk (i+1) r
end My
namespace My
open DL PySem StrLaws Builtin.Str
end My
namespace My
open DL PySem
abbrev Yt(xs:List Str):List L2.Key:=xs.map d3
theorem Cr(k):∀xs vs,look (Yt xs) vs (d3 k)=look xs vs k
 | [],[]=>rfl
 | [],_::_=>rfl
 |_::_,[]=>rfl
 |x::xs,v::vs=>by
  show(if(d3 x:L2.Key)=d3 k then aA v else look (Yt xs) vs (d3 k))=if x=k then aA v else look xs vs k;rw[Cr k xs vs];by_cases h:x=k
  .rw[if_pos h,if_pos (by rw[h])]
  .rw[if_neg h,if_neg λe=>h (d3.inj e)]
theorem Eo(k v xs vs):Wv (Yt xs) vs (d3 k) v=(Yt (Wv xs vs k v).1,(Wv xs vs k v).2):=by
 have hm:((d3 k:L2.Key)∈Yt xs)↔k∈xs:=by
  constructor
  .intro h;obtain⟨y,hy,e⟩:=ax.mp h;rw[<-d3.inj e];exact hy
  .exact λh=>ax.mpr ⟨k,h,rfl⟩
 unfold Wv;by_cases h:k∈xs
 .rw[if_pos h,if_pos (hm.mpr h)];congr 1;have:∀(xs:List Str) (vs:List D),((Yt xs).zip vs).map (λp=>if p.1=(d3 k:L2.Key)then v else p.2)=(xs.zip vs).map λp=>if p.1=k then v else p.2:=by
   intro xs;induction xs with
   |nil=>intro vs;rfl
   |cons x xs ih=>
    intro vs;cases vs with
    |nil=>rfl
    |cons u vs=>
     show(if(d3 x:L2.Key)=d3 k then v else u)::((Yt xs).zip vs).map (λp=>if p.1=(d3 k:L2.Key)then v else p.2)=(if x=k then v else u)::(xs.zip vs).map λp=>if p.1=k then v else p.2;rw[ih vs];by_cases hx:x=k
     .rw[if_pos hx,if_pos (by rw[hx])]
     .rw[if_neg hx,if_neg λe=>hx (d3.inj e)]
  exact this xs vs
 .rw[if_neg h,if_neg λe=>h (hm.mp e)];simp[Yt]
theorem Ep{xs:List Str}(h:k∉xs):Wv xs vs k v=(xs++[k],vs++[v]):=by unfold Wv;rw[if_neg h]
structure Dic(xs:List Str)(vs:List D):Prop where
 nd:xs.Nodup
 len:xs.length=vs.length
theorem Zga:∀{vs:List D},xs.Nodup->xs.length=vs.length->∀(i:Nat) (x:Str) v,xs[i]? =aA x->vs[i]? =aA v->look xs vs x=aA v:=by
 induction xs with
 |nil=>intro vs _ _ i x v h;simp at h
 |cons y xs ih=>
  intro vs nd hl i x v hx hv;cases vs with
  |nil=>simp at hv
  |cons u vs=>
   obtain⟨n1,n2⟩:=dm.mp nd;show(if y=x then aA u else look xs vs x)=aA v;cases i with
   |zero=>simp at hx hv;rw[if_pos hx,hv]
   |succ i=>simp at hx hv;have hm:=b5 hx;rw[if_neg λe=>n1 (by rw[e];exact hm)];exact ih n2 (by simpa using hl) i x v hx hv
end My
namespace My
open DL PySem TT
theorem R5(n xs)(h:∀x∈xs,We n x x=aA aC):We (n+1) (.lst xs) (.lst xs)=aA aC:=by simp[Ra xs h]
theorem Zao(n xs)(h:∀x∈xs,We n x x=aA aC):We (n+1) (.tup xs) (.tup xs)=aA aC:=by simp[Ra xs h]
theorem Zap(n x):We (n+1) (.str x) (.str x)=aA aC:=by simp
abbrev NK:=L2.Zl
noncomputable def tE(s:List Nat):List Nat:=s.map (· +1)++[0]
theorem Zaq:∀s t u v,(tE s++u<tE t++v)↔(s<t\/(s=t/\u<v))
 | [],[],u,v=>by show(0::u<0::v)↔_;rw[gx];simp
 | [],b::t,u,v=>by show(0::u<(b+1)::(tE t++v))↔_;rw[gx];simp
 |a::s,[],u,v=>by show((a+1)::(tE s++u)<0::v)↔_;rw[gx];simp
 |a::s,b::t,u,v=>by
  show((a+1)::(tE s++u)<(b+1)::(tE t++v))↔_;rw[gx,Zaq s t u v,gx];constructor
  .rintro(h|⟨h1,h2|⟨h2,h3⟩⟩)
   .exact .inl (.inl (by omega))
   .exact .inl (.inr ⟨by omega,h2⟩)
   .exact .inr ⟨by rw[h2,show a=b by omega],h3⟩
  .rintro((h|⟨h1,h2⟩)|⟨h1,h2⟩)
   .exact .inl (by omega)
   .exact .inr ⟨by omega,.inl h2⟩
   .cases h1;exact .inr ⟨rfl,.inr ⟨rfl,h2⟩⟩
theorem Zn8:∀s t u v,tE s++u=tE t++v->s=t/\u=v:=by
 intro s;induction s with
 |nil=>intro t u v z;cases t with
  |nil=>exact⟨rfl,by simpa[tE]using z⟩
  |cons b t=>simp[tE]at z
 |cons a s ih=>intro t u v z;cases t with
  |nil=>simp[tE]at z
  |cons b t=>have z:(a+1)::(tE s++u)=(b+1)::(tE t++v):=z;obtain⟨z1,z2⟩:=List.cons.inj z;obtain⟨i1,i2⟩:=ih t u v z2;exact⟨by rw[i1,show a=b by omega],i2⟩
theorem Er{a:Str}(h:a.cps.toList=b.cps.toList):a=b:=by rw[Zsj a,Zsj b,h]
def Ou:List Str->List Nat
 | []=>[0]
 |x::l=>1::(tE x.cps.toList++Ou l)
theorem Es:∀{a b:List Str},Ou a=Ou b->a=b
 | [],[],_=>rfl
 | [],_::_,h=>by simp[Ou]at h
 |_::_,[],h=>by simp[Ou]at h
 |x::a,y::b,h=>by obtain⟨_,h2⟩:=List.cons.inj h;obtain⟨e1,e2⟩:=Zn8 _ _ _ _ h2;rw[Er e1,Es e2]
theorem Nz(n x y):We (n+1) (.str x) (.str y)=aA (decide (x=y)):=by simp
theorem Hb(n x y):TX.Ug (n+1) (.str x) (.str y)=aA (decide (x.cps.toList<y.cps.toList)):=rfl
theorem Et(n):∀a b,TX.Rx (We (n+1)) (TX.Ug (n+1)) (a.map D.str) (b.map D.str)=aA (decide (Ou a<Ou b))
 | [],[]=>by show aA aD=_;exact congrArg aA (by decide)
 | [],y::b=>by show aA aC=_;refine congrArg aA (decide_eq_true ?_).symm;show[0]<1::_;rw[gx];exact .inl (by decide)
 |x::a,[]=>by show aA aD=_;refine congrArg aA (decide_eq_false ?_).symm;show¬(1::_< [0]);rw[gx];rintro(h|⟨h,_⟩)<;> omega
 |x::a,y::b=>by
  show(We (n+1) (.str x) (.str y)).bind (λc=>if c=aC then TX.Rx (We (n+1)) (TX.Ug (n+1)) (a.map D.str) (b.map D.str)else TX.Ug (n+1) (.str x) (.str y))=_;rw[Nz,Et n a b,Hb];have e:(Ou (x::a)<Ou (y::b))↔(x.cps.toList<y.cps.toList\/(x.cps.toList=y.cps.toList/\Ou a<Ou b)):=by
   show(1::(tE x.cps.toList++Ou a)<1::(tE y.cps.toList++Ou b))↔_;rw[gx,Zaq];constructor
   .rintro(h|⟨_,h⟩)
    .omega
    .exact h
   .exact λh=>.inr ⟨rfl,h⟩
  by_cases h:x=y
  .subst h;have i:=fg x.cps.toList;rw[decide_eq_true rfl];show aA (decide (Ou a<Ou b))=_;refine congrArg aA (decide_eq_decide.mpr ?_);rw[e];exact⟨λz=>.inr ⟨rfl,z⟩,λz=>z.elim (λz=>absurd z i) λz=>z.2⟩
  .rw[decide_eq_false h];show aA (decide (x.cps.toList<y.cps.toList))=_;refine congrArg aA (decide_eq_decide.mpr ?_);rw[e];exact⟨.inl,λz=>z.elim id λz=>absurd (Er z.1) h⟩
theorem Eu(n):∀a b:List Str,∃c,Ba (We (n+1)) (a.map D.str) (b.map D.str)=aA c/\(c&&decide ((a.map D.str).length=(b.map D.str).length))=decide (a=b)
 | [],[]=>⟨aC,rfl,by simp⟩
 | [],y::b=>⟨aC,rfl,by simp⟩
 |x::a,[]=>⟨aC,rfl,by simp⟩
 |x::a,y::b=>by
  obtain⟨c,e1,e2⟩:=Eu n a b;refine⟨decide (x=y)&&c,?_,?_⟩
  .show(We (n+1) (.str x) (.str y)).bind (λb'=>(Ba (We (n+1)) (a.map D.str) (b.map D.str)).bind λc'=>aA (b'&&c'))=_;rw[Nz,e1];rfl
  .rw[Bool.and_assoc];have:decide (((x::a).map D.str).length=((y::b).map D.str).length)=decide ((a.map D.str).length=(b.map D.str).length):=by simp
   rw[this,e2];by_cases h:x=y
   .by_cases h2:a=b<;> simp[h,h2]
   .simp[h]
theorem Hc(n)(a b:List Str):We (n+2) (.tup (a.map D.str)) (.tup (b.map D.str))=aA (decide (a=b)):=by obtain⟨c,e1,e2⟩:=Eu n a b;show(Ba (We (n+1)) (a.map D.str) (b.map D.str)).bind (λb'=>aA (b'&&decide ((a.map D.str).length=(b.map D.str).length)))=_;rw[e1];show aA (c&&_)=_;rw[e2]
inductive OneK:NK->NK->Prop where
 |nm (a b:List Str):OneK (.inl a) (.inl b)
 |mk (n m:Nat) (a b:List Str):OneK (.inr ((n:Int),a)) (.inr ((m:Int),b))
def Ov:NK->List Nat
 | .inl l=>Ou l
 | .inr (n,l)=>n.toNat::Ou l
theorem Ev(h:OneK a b)(e:Ov a=Ov b):a=b:=by
 cases h with
 |nm a b=>rw[Es e]
 |mk n m a b=>obtain⟨e1,e2⟩:=List.cons.inj e;rw[Es e2,show n=m by simpa using e1]
theorem Zar(n)(h:OneK a b):We (n+3) (Zn a) (Zn b)=aA (decide (a=b)):=by
 cases h with
 |nm a b=>show We (n+3) (.tup (a.map D.str)) (.tup (b.map D.str))=_;rw[show n+3=n+1+2 from rfl,Hc];exact congrArg aA (decide_eq_decide.mpr ⟨λz=>by rw[z],λz=>Sum.inl.inj z⟩)
 |mk n1 m1 a b=>
  have e:=Hc n a b;show(Ba (We (n+2)) [.int (n1:Int),.tup (a.map D.str)] [.int (m1:Int),.tup (b.map D.str)]).bind (λb'=>aA (b'&&decide (2=2)))=_;show((We (n+2) (.int (n1:Int)) (.int (m1:Int))).bind λb'=>((We (n+2) (.tup (a.map D.str)) (.tup (b.map D.str))).bind λc1=>(aA aC).bind λc2=>aA (c1&&c2)).bind λc'=>aA (b'&&c')).bind (λb'=>aA (b'&&decide (2=2)))=_;rw[e,show We (n+2) (.int (n1:Int)) (.int (m1:Int))=aA (decide ((n1:Int)=m1)) by simp];show aA _=_;refine congrArg aA ?_;by_cases h1:n1=m1
  .by_cases h2:a=b
   .subst h1 h2;simp
   .subst h1;have hf:decide ((d3 ((n1:Int),a):NK)=d3 ((n1:Int),b))=aD:=decide_eq_false λz=>h2 (Prod.mk.inj (d3.inj z)).2;rw[hf,decide_eq_false h2];simp
  .have hf:decide ((d3 ((n1:Int),a):NK)=d3 ((m1:Int),b))=aD:=decide_eq_false λz=>h1 (by have:=(Prod.mk.inj (d3.inj z)).1;omega);rw[hf,decide_eq_false (show¬(n1:Int)=m1 by omega)];simp
theorem Zas(n)(h:OneK a b):TX.Ug (n+4) (Zn a) (Zn b)=aA (decide (Ov a<Ov b)):=by
 cases h with
 |nm a b=>exact Et (n+2) a b
 |mk n1 m1 a b=>
  have e:=Hc (n+1) a b;have e2:=Et (n+1) a b;show(We (n+3) (.int (n1:Int)) (.int (m1:Int))).bind (λc=>if c=aC then(We (n+3) (.tup (a.map D.str)) (.tup (b.map D.str))).bind (λc=>if c=aC then aA aD else TX.Ug (n+3) (.tup (a.map D.str)) (.tup (b.map D.str)))else TX.Ug (n+3) (.int (n1:Int)) (.int (m1:Int)))=_;rw[e,show We (n+3) (.int (n1:Int)) (.int (m1:Int))=aA (decide ((n1:Int)=m1)) by simp];show(if decide ((n1:Int)=m1)=aC then(if decide (a=b)=aC then aA aD else TX.Rx (We (n+2)) (TX.Ug (n+2)) (a.map D.str) (b.map D.str))else aA (decide ((n1:Int)<m1)))=_;rw[e2];have el:(Ov (.inr ((n1:Int),a))<Ov (.inr ((m1:Int),b)))↔(n1<m1\/(n1=m1/\Ou a<Ou b)):=by show((n1:Int).toNat::Ou a<(m1:Int).toNat::Ou b)↔_;rw[gx];simp
  by_cases h1:n1=m1
  .rw[if_pos (by simp[h1])];by_cases h2:a=b
   .rw[if_pos (by simp[h2])];refine congrArg aA (decide_eq_false ?_).symm;rw[el];subst h1 h2;rintro(z|⟨_,z⟩)
    .omega
    .exact fg _ z
   .rw[if_neg (by simp[h2])];refine congrArg aA (decide_eq_decide.mpr ?_);rw[el];exact⟨λz=>.inr ⟨h1,z⟩,λz=>z.elim (λz=>by omega) λz=>z.2⟩
  .rw[if_neg (by simp;omega)];refine congrArg aA (decide_eq_decide.mpr ?_);rw[el];exact⟨λz=>.inl (by omega),λz=>z.elim (λz=>by omega) λz=>absurd z.1 h1⟩
def Cc(ks:List NK):Prop:=(∀k∈ks,∃(x:Str) (l:List Str),k= .inl (x::l))\/∀k∈ks,∃(n:Nat) (l:List Str),k= .inr ((n:Int),l)
theorem Cc.one(h:Cc ks)(ha:a∈ks)(hb:b∈ks):OneK a b:=by
 rcases h with h|h
 .obtain⟨x,l,rfl⟩:=h a ha;obtain⟨y,m,rfl⟩:=h b hb;exact .nm _ _
 .obtain⟨x,l,rfl⟩:=h a ha;obtain⟨y,m,rfl⟩:=h b hb;exact .mk _ _ _ _
theorem Cc.sub(h:Cc ks)(hs:∀k∈js,k∈ks):Cc js:=h.imp (λh k hk=>h k (hs k hk)) λh k hk=>h k (hs k hk)
def Zgb(d:D):List Nat:=Ov ((nk? d).getD (.inl []))
theorem Tz(k:NK):Zgb (Zn k)=Ov k:=by unfold Zgb;rw[Co];rfl
theorem Kx(h:Cc ks)(nd:ks.Nodup):TX.KeysOk (ks.map Zn):=by
 refine⟨?_,Zgb,λa ha b hb=>?_,?_⟩
 .rcases h with h|h
  .refine⟨.str,λd hd=>?_⟩;obtain⟨k,hk,rfl⟩:=ax.mp hd;obtain⟨x,l,rfl⟩:=h k hk;exact .str _ _
  .refine⟨.int,λd hd=>?_⟩;obtain⟨k,hk,rfl⟩:=ax.mp hd;obtain⟨x,l,rfl⟩:=h k hk;exact .int _ _
 .obtain⟨k,hk,rfl⟩:=ax.mp ha;obtain⟨l,hl,rfl⟩:=ax.mp hb;rw[Tz,Tz];exact Zas 12 (h.one hk hl)
 .refine Gc.mpr ?_;rw[cg];refine List.Pairwise.map _ (R:=λa b=>a≠b/\a∈ks/\b∈ks) (λa b ⟨h1,h2,h3⟩ e=>h1 ?_) ?_
  .have e:Zgb (Zn a)=Zgb (Zn b):=e;rw[Tz,Tz]at e;exact Ev (h.one h2 h3) e
  .exact(gz.mp nd).imp fun{a b} z=>⟨z.2.2,z.1,z.2.1⟩
theorem Zgc{ks:List NK}{k x:NK}:x∈Tp ks k↔x∈ks\/x=k:=by
 unfold Tp;have e:(ks.any λz=>decide (z=k))=aC↔k∈ks:=by rw[List.any_eq_true];exact⟨λ⟨z,hz,e⟩=>by have:z=k:=of_decide_eq_true e;rw[<-this];exact hz,λh=>⟨k,h,decide_eq_true rfl⟩⟩
 split
 .rename_i h;exact⟨.inl,λz=>z.elim id λz=>by rw[z];exact e.mp h⟩
 .rw[bz,ar]
theorem Zjo{ks:List NK}{k:NK}(h:ks.Nodup):(Tp ks k).Nodup:=by
 unfold Tp;split
 .exact h
 .rename_i hn;refine dq.mpr ⟨h,by simp,λa ha b hb z=>hn ?_⟩;rw[ar.mp hb]at z;rw[List.any_eq_true];exact⟨a,ha,decide_eq_true z⟩
theorem Ew:∀(ks acc:List NK),acc.Nodup->(ks.foldl Tp acc).Nodup/\∀x,x∈ks.foldl Tp acc↔x∈acc\/x∈ks
 | [],acc,h=>⟨h,λx=>by simp⟩
 |k::ks,acc,h=>by obtain⟨a,b⟩:=Ew ks (Tp acc k) (Zjo h);refine⟨a,λx=>?_⟩;rw[List.foldl_cons,b x,Zgc,bx];exact⟨λz=>by rcases z with(z|z)|z;(· exact .inl z);(· exact .inr (.inl z));exact .inr (.inr z),λz=>by rcases z with z|z|z;(· exact .inl (.inl z));(· exact .inl (.inr z));exact .inr z⟩
theorem Ex(ks:List NK):(Eg ks).Nodup:=(Ew ks [] df).1
theorem R6(ks:List NK)(x:NK):x∈Eg ks↔x∈ks:=by rw[show Eg ks=ks.foldl Tp []from rfl,(Ew ks [] df).2 x];simp
theorem Zjp(ks:List NK):(Eg ks).length<=ks.length:=da (Ex ks) λx hx=>(R6 ks x).mp hx
theorem Zgd{out:List NK}(h:Cc ks)(hl:ks.length<64)(hm:∀x,x∈out↔x∈ks)(hs:out.Pairwise λa b=>Ov a<Ov b):El ks=aA (.ol (out.map Zn)):=by
 have nd:out.Nodup:=hs.imp fun{a b} z e=>by rw[e]at z;exact fg _ z
 have pm:out.Perm (Eg ks):=(List.perm_ext_iff_of_nodup nd (Ex ks)).mpr λx=>by rw[hm,R6]
 have hk:=h.sub λk hk=>(R6 ks k).mp hk;refine Zfw (by omega) (by have:=Zjp ks;omega) (Kx hk (Ex ks)) ⟨pm.map _,List.pairwise_map.mpr ?_⟩;refine(gz.mp hs).imp fun{a b} ⟨ha,hb,z⟩=>?_;rw[Zas 12 (h.one ((hm b).mp hb) ((hm a).mp ha))];exact congrArg aA (decide_eq_false λy=>fg _ (List.lt_trans y z))
end My
namespace My
open DL PySem TT
theorem Zat(hk:TX.KeysOk ds)(hl:ds.length<64)(so:R1 ds out):TX.Tn ds ds=aA (.ol out):=by obtain⟨p,hp,e⟩:=TX.Zi1 (ks:=ds) (xs:=ds) rfl hl hk;rw[e,G8 hk (Eh hp) so]
open Classical in
theorem Zau{α:Type}{f:α->D}{enc:α->List Nat}{xs out:List α}{kk:TX.KK}(hk:∀a∈xs,TX.IsKey kk (f a))(hlt:∀a∈xs,∀b∈xs,TX.Ug 16 (f a) (f b)=aA (decide (enc a<enc b)))(nd:(xs.map enc).Nodup)(hl:xs.length<64)
  (hp:out.Perm xs) (hs:out.Pairwise λa b=>¬enc b<enc a):TX.Tn (xs.map f) (xs.map f)=aA (.ol (out.map f)):=by
 have same:∀a∈xs,∀b∈xs,f a=f b->enc a=enc b:=λa ha b hb e=>by
  have h1:=hlt a ha b hb;have h2:=hlt b hb a ha;rw[<-e,hlt a ha a ha]at h1;rw[<-e,hlt a ha a ha]at h2;have i:¬enc a<enc a:=fg _;have h1:decide (enc a<enc b)=aD:=by rw[<-cz.inj h1];exact decide_eq_false i
  have h2:decide (enc b<enc a)=aD:=by rw[<-cz.inj h2];exact decide_eq_false i
  exact List.le_antisymm (de.mp (of_decide_eq_false h2)) (de.mp (of_decide_eq_false h1))
 let e:D->List Nat:=λd=>if h:∃a,a∈xs/\f a=d then enc (Classical.choose h)else[]
 have ee:∀a∈xs,e (f a)=enc a:=λa ha=>by
  have h:∃a',a'∈xs/\f a'=f a:=⟨a,ha,rfl⟩
  show(if h:∃a',a'∈xs/\f a'=f a then enc (Classical.choose h)else[])=enc a;rw[dif_pos h];exact same _ (Classical.choose_spec h).1 a ha (Classical.choose_spec h).2
 have ko:TX.KeysOk (xs.map f):=by
  refine⟨⟨kk,λd hd=>?_⟩,e,λa ha b hb=>?_,?_⟩
  .obtain⟨a,ha,rfl⟩:=ax.mp hd;exact hk a ha
  .obtain⟨x,hx,rfl⟩:=ax.mp ha;obtain⟨y,hy,rfl⟩:=ax.mp hb;rw[ee x hx,ee y hy];exact hlt x hx y hy
  .refine Gc.mpr ?_;rw[cg];have:xs.map (e∘f)=xs.map enc:=List.map_congr_left λa ha=>ee a ha;rw[this];exact nd
 refine Zat ko (by rw[aq];exact hl) ⟨hp.map f,List.pairwise_map.mpr ?_⟩;refine(gz.mp hs).imp fun{a b} ⟨ha,hb,z⟩=>?_;rw[hlt b (hp.mem_iff.mp hb) a (hp.mem_iff.mp ha)];exact congrArg aA (decide_eq_false z)
abbrev T0:=Str×Str×List NK
abbrev Wm(t:T0):D:=.tup [.str t.1,.str t.2.1,.lst (t.2.2.map Zn)]
structure HP where
 ns:List NK
 ms:List NK
 fs:List T0
abbrev Z0(h:HP):D:=.tup [.lst (h.ns.map Zn),.lst (h.ms.map Zn),.lst (h.fs.map Wm)]
def Rb(k:NK):Prop:=∃(x:Str) (l:List Str),k= .inl (x::l)
def isM(k:NK):Prop:=∃(n:Nat) (l:List Str),k= .inr ((n:Int),l)
structure HPok(h:HP):Prop where
 ne:h.ns≠[]
 nm:∀k∈h.ns,Rb k
 mr:∀k∈h.ms,isM k
 fl:∀t∈h.fs,∀k∈t.2.2,Rb k
theorem Vc(n):∀as bs,Cc (as++bs)->as.length=bs.length->Ba (We (n+3)) (as.map Zn) (bs.map Zn)=aA (decide (as=bs))
 | [],[],_,_=>rfl
 | [],_::_,_,h=>by simp at h
 |_::_,[],_,h=>by simp at h
 |a::as,b::bs,ho,hl=>by
  have h1:OneK a b:=ho.one (by simp) (by simp);have ih:=Vc n as bs (ho.sub λk hk=>by
   rcases bz.mp hk with z|z
   .simp[z]
   .simp[z]) (by simpa using hl)
  show(We (n+3) (Zn a) (Zn b)).bind (λb'=>(Ba (We (n+3)) (as.map Zn) (bs.map Zn)).bind λc'=>aA (b'&&c'))=_;rw[Zar n h1,ih];show aA _=_;refine congrArg aA ?_;by_cases h:a=b
  .by_cases h2:as=bs
   .simp[h,h2]
   .rw[decide_eq_false h2,decide_eq_false λz=>h2 (List.cons.inj z).2];simp
  .rw[decide_eq_false h,decide_eq_false λz=>h (List.cons.inj z).1];simp
theorem Zn9(n)(ho:Cc (as++bs)):We (n+4) (.lst (as.map Zn)) (.lst (bs.map Zn))=aA (decide (as=bs)):=by
 show(if(as.map Zn).length=(bs.map Zn).length then Ba (We (n+3)) (as.map Zn) (bs.map Zn)else aA aD)=_;rw[aq,aq];by_cases h:as.length=bs.length
 .rw[if_pos h,Vc n as bs ho h]
 .rw[if_neg h];exact congrArg aA (decide_eq_false λz=>h (by rw[z])).symm
theorem Zoa(n k)(h:Rb k\/isM k):We (n+3) (Zn k) (Zn k)=aA aC:=by
 have:OneK k k:=by
  rcases h with⟨x,l,rfl⟩|⟨x,l,rfl⟩
  .exact .nm _ _
  .exact .mk _ _ _ _
 rw[Zar n this];simp
theorem Ge(n)(ks:List NK)(h:∀k∈ks,Rb k\/isM k):We (n+4) (.lst (ks.map Zn)) (.lst (ks.map Zn))=aA aC:=R5 (n+3) _ λx hx=>by obtain⟨k,hk,rfl⟩:=ax.mp hx;exact Zoa n k (h k hk)
theorem Zav(n t)(h:∀k∈t.2.2,Rb k):We (n+5) (Wm t) (Wm t)=aA aC:=Zao (n+4) _ λx hx=>by
 simp only[bx,List.not_mem_nil,or_false]at hx;rcases hx with rfl|rfl|rfl
 .exact Zap (n+3) _
 .exact Zap (n+3) _
 .exact Ge n _ λk hk=>.inl (h k hk)
theorem Zob(n h)(ok:HPok h):We (n+7) (Z0 h) (Z0 h)=aA aC:=Zao (n+6) _ λx hx=>by
 simp only[bx,List.not_mem_nil,or_false]at hx;rcases hx with rfl|rfl|rfl
 .exact Ge (n+2) _ λk hk=>.inl (ok.nm k hk)
 .exact Ge (n+2) _ λk hk=>.inr (ok.mr k hk)
 .exact R5 (n+5) _ λx hx=>by obtain⟨t,ht,rfl⟩:=ax.mp hx;exact Zav n t (ok.fl t ht)
theorem R7(n)(hs:List HP)(ok:∀h∈hs,HPok h):We (n+8) (.lst (hs.map Z0)) (.lst (hs.map Z0))=aA aC:=R5 (n+7) _ λx hx=>by obtain⟨h,hh,rfl⟩:=ax.mp hx;exact Zob n h (ok h hh)
def Ww(t:T0):List Nat:=tE t.1.cps.toList++(tE t.2.1.cps.toList++[])
theorem Zge(h:Ww s=Ww t):s.1=t.1/\s.2.1=t.2.1:=by obtain⟨h1,h2⟩:=Zn8 _ _ _ _ h;exact⟨Er h1,Er (Zn8 _ _ _ _ h2).1⟩
theorem Zoc(s t)(hs:∀k∈s.2.2,Rb k)(h:Ww s=Ww t->s=t):TX.Ug 16 (Wm s) (Wm t)=aA (decide (Ww s<Ww t)):=by
 have el:(Ww s<Ww t)↔(s.1.cps.toList<t.1.cps.toList\/(s.1.cps.toList=t.1.cps.toList/\s.2.1.cps.toList<t.2.1.cps.toList)):=by
  unfold Ww;rw[Zaq,Zaq];constructor
  .rintro(z|⟨z,w|⟨_,w⟩⟩)
   .exact .inl z
   .exact .inr ⟨z,w⟩
   .exact absurd w (fg _)
  .rintro(z|⟨z,w⟩)
   .exact .inl z
   .exact .inr ⟨z,.inl w⟩
 show(We 15 (.str s.1) (.str t.1)).bind (λc=>if c=aC then(We 15 (.str s.2.1) (.str t.2.1)).bind (λc=>if c=aC then(We 15 (.lst (s.2.2.map Zn)) (.lst (t.2.2.map Zn))).bind (λc=>if c=aC then aA aD else TX.Ug 15 (.lst (s.2.2.map Zn)) (.lst (t.2.2.map Zn)))else TX.Ug 15 (.str s.2.1) (.str t.2.1))else TX.Ug 15 (.str s.1) (.str t.1))=_;rw[Nz,Nz,Hb,Hb];by_cases h1:s.1=t.1
 .rw[decide_eq_true h1];by_cases h2:s.2.1=t.2.1
  .rw[decide_eq_true h2];have e:s=t:=h (by unfold Ww;rw[h1,h2]);subst e;rw[Ge 11 _ λk hk=>.inl (hs k hk)];show aA aD=_;exact congrArg aA (decide_eq_false (fg _)).symm
  .rw[decide_eq_false h2];show aA (decide (s.2.1.cps.toList<t.2.1.cps.toList))=_;refine congrArg aA (decide_eq_decide.mpr ?_);rw[el,h1];exact⟨λz=>.inr ⟨rfl,z⟩,λz=>z.elim (λz=>absurd z (fg _)) λz=>z.2⟩
 .rw[decide_eq_false h1];show aA (decide (s.1.cps.toList<t.1.cps.toList))=_;refine congrArg aA (decide_eq_decide.mpr ?_);rw[el];exact⟨.inl,λz=>z.elim id λz=>absurd (Er z.1) h1⟩
theorem Zgf{α β:Type}{f:α->β}{xs:List α}(h:(xs.map f).Nodup){a b}(ha:a∈xs)(hb:b∈xs)(e:f a=f b):a=b:=by obtain⟨i,hi,rfl⟩:=eh ha;obtain⟨j,hj,rfl⟩:=eh hb;have:i=j:=(List.getElem?_inj (by rw[aq];exact hi) h).mp (by simp[hi,hj,e]);subst this;rfl
theorem Zjq{out:List T0}(hf:∀t∈ts,∀k∈t.2.2,Rb k)(nd:(ts.map Ww).Nodup)(hl:ts.length<64)(hp:out.Perm ts)(hs:out.Pairwise λa b=>¬Ww b<Ww a):TX.Tn (ts.map Wm) (ts.map Wm)=aA (.ol (out.map Wm)):=
 Zau (enc:=Ww) (kk:=.str) (λa _=>.str _ _) (λa ha b hb=>Zoc a b (hf a ha) λe=>Zgf nd ha hb e) nd hl hp hs
def Qs(h:HP):List Nat:=Ov (h.ns.headD (.inl []))
theorem Zsl(a b)(oa:HPok a)(ob:HPok b)(h:Qs a=Qs b->a=b):TX.Ug 16 (Z0 a) (Z0 b)=aA (decide (Qs a<Qs b)):=by
 show(We 15 (.lst (a.ns.map Zn)) (.lst (b.ns.map Zn))).bind (λc=>if c=aC then(We 15 (.lst (a.ms.map Zn)) (.lst (b.ms.map Zn))).bind (λc=>if c=aC then(We 15 (.lst (a.fs.map Wm)) (.lst (b.fs.map Wm))).bind (λc=>if c=aC then aA aD else TX.Ug 15 (.lst (a.fs.map Wm)) (.lst (b.fs.map Wm)))else TX.Ug 15 (.lst (a.ms.map Zn)) (.lst (b.ms.map Zn)))else TX.Ug 15 (.lst (a.ns.map Zn)) (.lst (b.ns.map Zn)))=_;have on:Cc (a.ns++b.ns):=.inl λk hk=>by
  rcases bz.mp hk with z|z
  .exact oa.nm k z
  .exact ob.nm k z
 rw[Zn9 11 on];by_cases hn:Qs a=Qs b
 .have e:=h hn;subst e;rw[decide_eq_true rfl,Ge 11 _ λk hk=>.inr (oa.mr k hk)];have e3:We 15 (.lst (a.fs.map Wm)) (.lst (a.fs.map Wm))=aA aC:=R5 14 _ λx hx=>by obtain⟨t,ht,rfl⟩:=ax.mp hx;exact Zav 9 t (oa.fl t ht)
  rw[e3];show aA aD=_;exact congrArg aA (decide_eq_false (fg _)).symm
 .obtain⟨x,as,ea⟩:=ic oa.ne;obtain⟨y,bs,eb⟩:=ic ob.ne;have hxy:x≠y:=λz=>hn (by unfold Qs;rw[ea,eb,z];rfl);rw[decide_eq_false λz=>hxy (by rw[ea,eb]at z;exact(List.cons.inj z).1)];show TX.Ug 15 (.lst (a.ns.map Zn)) (.lst (b.ns.map Zn))=_;unfold Qs;rw[ea,eb];have ok:OneK x y:=on.one (by rw[ea];simp) (by rw[eb];simp);show(We 14 (Zn x) (Zn y)).bind (λc=>if c=aC then _ else TX.Ug 14 (Zn x) (Zn y))=_;rw[Zar 11 ok,decide_eq_false hxy];show TX.Ug 14 (Zn x) (Zn y)=_;exact Zas 10 ok
theorem Zgg{out:List HP}(ok:∀h∈hs,HPok h)(nd:(hs.map Qs).Nodup)(hl:hs.length<64)(hp:out.Perm hs)(hsr:out.Pairwise λa b=>¬Qs b<Qs a):TX.Tn (hs.map Z0) (hs.map Z0)=aA (.ol (out.map Z0)):=
 Zau (enc:=Qs) (kk:=.lst) (λa _=>.lst _ _) (λa ha b hb=>Zsl a b (ok a ha) (ok b hb) λe=>Zgf nd ha hb e) nd hl hp hsr
end My
namespace My
open DL PySem TT
abbrev Ui(h:HP):List NK:=h.ns++h.ms
abbrev kLt(a b:NK):Prop:=Ov a<Ov b
abbrev tLt(a b:T0):Prop:=Ww a<Ww b
theorem Zaw{a:List Nat}(h:a<b):¬b<a:=λz=>fg _ (List.lt_trans h z)
theorem W8{α:Type}{f:α->List Nat}{l:List α}(h:l.Pairwise λa b=>f a<f b):l.Nodup:=h.imp fun{a b} h e=>by subst e;exact fg _ h
theorem Jt{α:Type}{f:α->List Nat}{l m:List α}(h1:l.Pairwise λa b=>f a<f b)(h2:m.Pairwise λa b=>f a<f b)(hm:∀x,x∈l↔x∈m):l=m:=
 List.Perm.eq_of_pairwise (λx y _ _ z1 z2=>absurd z2 (Zaw z1)) h1 h2 ((List.perm_ext_iff_of_nodup (W8 h1) (W8 h2)).mpr hm)
structure IsMerge(G:HP->Prop)(h:HP):Prop where
 ns_s:h.ns.Pairwise kLt
 ns_m:∀k,k∈h.ns↔∃a,G a/\k∈a.ns
 ms_s:h.ms.Pairwise kLt
 ms_m:∀k,k∈h.ms↔∃a,G a/\k∈a.ms
 fs_s:h.fs.Pairwise tLt
 fs_m:∀f v,(∃l,(f,v,l)∈h.fs)↔∃a,G a/\∃l,(f,v,l)∈a.fs
 fs_l:∀t∈h.fs,t.2.2.Pairwise kLt/\∀k,k∈t.2.2↔∃a,G a/\∃l,(t.1,t.2.1,l)∈a.fs/\k∈l
theorem IsMerge.uniq(m:IsMerge G h)(m':IsMerge G' h')(e:∀a,G a↔G' a):h=h':=by
 have e1:h.ns=h'.ns:=Jt m.ns_s m'.ns_s λk=>by rw[m.ns_m,m'.ns_m];simp only[e]
 have e2:h.ms=h'.ms:=Jt m.ms_s m'.ms_s λk=>by rw[m.ms_m,m'.ms_m];simp only[e]
 have one:∀{G G':HP->Prop} {h h':HP},IsMerge G h->IsMerge G' h'->(∀a,G a↔G' a)->∀t∈h.fs,t∈h'.fs:=fun{G G' h h'} m m' e t ht=>by
  have h1:=(m.fs_m t.1 t.2.1).mp ⟨t.2.2,ht⟩;simp only[e]at h1;obtain⟨l,hl⟩:=(m'.fs_m t.1 t.2.1).mpr h1;have:t.2.2=l:=Jt (m.fs_l t ht).1 (m'.fs_l _ hl).1 λk=>by rw[(m.fs_l t ht).2,(m'.fs_l _ hl).2];simp only[e]
  rw[<-this]at hl;exact hl
 have e3:h.fs=h'.fs:=Jt m.fs_s m'.fs_s λt=>⟨one m m' e t,one m' m (λa=>(e a).symm) t⟩
 cases h;cases h';simp only at e1 e2 e3;rw[e1,e2,e3]
def shr(a b:HP):Prop:=∃t,t∈Ui a/\t∈Ui b
theorem Zgh(h:shr a b):shr b a:=let⟨t,h1,h2⟩:=h;⟨t,h2,h1⟩
inductive Conn(S:HP->Prop):HP->HP->Prop where
 |here {a:HP}:S a->Conn S a a
 |step {a b c:HP}:Conn S a b->S c->shr b c->Conn S a c
theorem Conn.right{S}(h:Conn S a b):S b:=by
 cases h with
 |here h=>exact h
 |step _ h _=>exact h
theorem Conn.trans{S}(h:Conn S a b)(k:Conn S b c):Conn S a c:=by
 induction k with
 |here _=>exact h
 |step _ hc sh ih=>exact .step ih hc sh
theorem Conn.symm{S}(h:Conn S a b):Conn S b a:=by
 induction h with
 |here h=>exact .here h
 | @step b c k hc sh ih=>exact(Conn.step (.here hc) k.right (Zgh sh)).trans ih
theorem Conn.mono{S:HP->Prop}(hs:∀a,S a->T a)(h:Conn S a b):Conn T a b:=by
 induction h with
 |here h=>exact .here (hs _ h)
 |step _ hc sh ih=>exact .step ih (hs _ hc) sh
theorem Conn.congr{S:HP->Prop}(hs:∀a,S a↔T a)(a b):Conn S a b↔Conn T a b:=⟨Conn.mono λa h=>(hs a).mp h,Conn.mono λa h=>(hs a).mpr h⟩
structure IsPool(S:HP->Prop)(out:List HP):Prop where
 sorted:out.Pairwise λa b=>Qs a<Qs b
 each:∀h∈out,∃a,S a/\IsMerge (Conn S a) h
 all:∀a,S a->∃h∈out,IsMerge (Conn S a) h
theorem IsPool.uniq{S:HP->Prop}(p:IsPool S out)(q:IsPool T out')(e:∀a,S a↔T a):out=out':=by
 have one:∀{S T:HP->Prop} {out out':List HP},IsPool S out->IsPool T out'->(∀a,S a↔T a)->∀h∈out,h∈out':=fun{S T out out'} p q e h hh=>by obtain⟨a,sa,m⟩:=p.each h hh;obtain⟨h',hh',m'⟩:=q.all a ((e a).mp sa);rw[m.uniq m' (Conn.congr e a)];exact hh'
 exact Jt p.sorted q.sorted λh=>⟨one p q e h,one q p (λa=>(e a).symm) h⟩
theorem IsMerge.tie(m:IsMerge G h)(t):t∈Ui h↔∃a,G a/\t∈Ui a:=by
 constructor
 .intro z;rcases bz.mp z with z|z
  .obtain⟨a,g,z⟩:=(m.ns_m t).mp z;exact⟨a,g,bj _ z⟩
  .obtain⟨a,g,z⟩:=(m.ms_m t).mp z;exact⟨a,g,bh _ z⟩
 .rintro⟨a,g,z⟩;rcases bz.mp z with z|z
  .exact bj _ ((m.ns_m t).mpr ⟨a,g,z⟩)
  .exact bh _ ((m.ms_m t).mpr ⟨a,g,z⟩)
theorem IsMerge.of{part:HP->HP->Prop}(m:IsMerge P h)(hp:∀p,P p->IsMerge (part p) p)(e:∀a,G a↔∃p,P p/\part p a):IsMerge G h:=by
 refine⟨m.ns_s,λk=>?_,m.ms_s,λk=>?_,m.fs_s,λf v=>?_,λt ht=>⟨(m.fs_l t ht).1,λk=>?_⟩⟩
 .rw[m.ns_m];constructor
  .rintro⟨p,hP,hk⟩;obtain⟨a,g,hk⟩:=((hp p hP).ns_m k).mp hk;exact⟨a,(e a).mpr ⟨p,hP,g⟩,hk⟩
  .rintro⟨a,g,hk⟩;obtain⟨p,hP,g⟩:=(e a).mp g;exact⟨p,hP,((hp p hP).ns_m k).mpr ⟨a,g,hk⟩⟩
 .rw[m.ms_m];constructor
  .rintro⟨p,hP,hk⟩;obtain⟨a,g,hk⟩:=((hp p hP).ms_m k).mp hk;exact⟨a,(e a).mpr ⟨p,hP,g⟩,hk⟩
  .rintro⟨a,g,hk⟩;obtain⟨p,hP,g⟩:=(e a).mp g;exact⟨p,hP,((hp p hP).ms_m k).mpr ⟨a,g,hk⟩⟩
 .rw[m.fs_m];constructor
  .rintro⟨p,hP,hk⟩;obtain⟨a,g,hk⟩:=((hp p hP).fs_m f v).mp hk;exact⟨a,(e a).mpr ⟨p,hP,g⟩,hk⟩
  .rintro⟨a,g,hk⟩;obtain⟨p,hP,g⟩:=(e a).mp g;exact⟨p,hP,((hp p hP).fs_m f v).mpr ⟨a,g,hk⟩⟩
 .rw[(m.fs_l t ht).2];constructor
  .rintro⟨p,hP,l,hl,hk⟩;obtain⟨a,g,l',hl',hk⟩:=(((hp p hP).fs_l _ hl).2 k).mp hk;exact⟨a,(e a).mpr ⟨p,hP,g⟩,l',hl',hk⟩
  .rintro⟨a,g,l,hl,hk⟩;obtain⟨p,hP,g⟩:=(e a).mp g;obtain⟨l',hl'⟩:=((hp p hP).fs_m t.1 t.2.1).mpr ⟨a,g,l,hl⟩;exact⟨p,hP,l',hl',(((hp p hP).fs_l _ hl').2 k).mpr ⟨a,g,l,hl,hk⟩⟩
theorem IsMerge.sum(h0:∃G,IsMerge G h/\∀b,G b->X b)(h1:∀b,X b->∃G,IsMerge G h/\G b):IsMerge X h:=by
 obtain⟨G,m,hG⟩:=h0;refine⟨m.ns_s,λk=>⟨λz=>?_,λz=>?_⟩,m.ms_s,λk=>⟨λz=>?_,λz=>?_⟩,m.fs_s,λf v=>⟨λz=>?_,λz=>?_⟩,λt ht=>⟨(m.fs_l t ht).1,λk=>⟨λz=>?_,λz=>?_⟩⟩⟩
 .obtain⟨a,g,z⟩:=(m.ns_m k).mp z;exact⟨a,hG a g,z⟩
 .obtain⟨a,x,z⟩:=z;obtain⟨G',m',g'⟩:=h1 a x;exact(m'.ns_m k).mpr ⟨a,g',z⟩
 .obtain⟨a,g,z⟩:=(m.ms_m k).mp z;exact⟨a,hG a g,z⟩
 .obtain⟨a,x,z⟩:=z;obtain⟨G',m',g'⟩:=h1 a x;exact(m'.ms_m k).mpr ⟨a,g',z⟩
 .obtain⟨a,g,z⟩:=(m.fs_m f v).mp z;exact⟨a,hG a g,z⟩
 .obtain⟨a,x,z⟩:=z;obtain⟨G',m',g'⟩:=h1 a x;exact(m'.fs_m f v).mpr ⟨a,g',z⟩
 .obtain⟨a,g,z⟩:=((m.fs_l t ht).2 k).mp z;exact⟨a,hG a g,z⟩
 .obtain⟨a,x,z⟩:=z;obtain⟨G',m',g'⟩:=h1 a x;exact((m'.fs_l t ht).2 k).mpr ⟨a,g',z⟩
theorem IsPool.pour {S T : HP -> Prop} {P Q R : List HP} (nS : ∀ a, S a -> a.ns ≠ []) (nT : ∀ a, T a -> a.ns ≠ []) (p : IsPool S P) (q : IsPool T Q) (r : IsPool (λh => h ∈ P \/ h ∈ Q) R) : IsPool (λa => S a \/ T a) R := by
  let part : HP -> HP -> Prop := λh b => (∃ a, h ∈ P /\ IsMerge (Conn S a) h /\ Conn S a b) \/ (∃ a, h ∈ Q /\ IsMerge (Conn T a) h /\ Conn T a b);have pm : ∀ h b, part h b -> ∃ G, IsMerge G h /\ G b := λh b z => by
    rcases z with ⟨a, _, m, c⟩ | ⟨a, _, m, c⟩
    · exact ⟨_, m, c⟩
    · exact ⟨_, m, c⟩
  have pu : ∀ h b, part h b -> (S b \/ T b) /\ (h ∈ P \/ h ∈ Q) := λh b z => by
    rcases z with ⟨a, hp, m, c⟩ | ⟨a, hq, m, c⟩
    · exact ⟨.inl c.right, .inl hp⟩
    · exact ⟨.inr c.right, .inr hq⟩
  have pe : ∀ h, h ∈ P \/ h ∈ Q -> ∃ G a, IsMerge G h /\ G a /\ ∀ b, G b -> part h b := λh hh => by
    rcases hh with z | z
    · obtain ⟨a, sa, m⟩ := p.each h z
      exact ⟨_, a, m, .here sa, λb c => .inl ⟨a, z, m, c⟩⟩
    · obtain ⟨a, sa, m⟩ := q.each h z
      exact ⟨_, a, m, .here sa, λb c => .inr ⟨a, z, m, c⟩⟩
  have mp : ∀ h, h ∈ P \/ h ∈ Q -> IsMerge (part h) h := λh hh => by obtain ⟨G, a, m, ga, hG⟩ := pe h hh;exact .sum ⟨G, m, hG⟩ (pm h)
  have tie : ∀ h t, h ∈ P \/ h ∈ Q -> (t ∈ Ui h ↔ ∃ b, part h b /\ t ∈ Ui b) := λh t hh => (mp h hh).tie t
  -- the members of one part hang together
  have up : ∀ h b c, part h b -> part h c -> (∀ G, IsMerge G h -> G b -> (∀ x, G x -> Conn (λa => S a \/ T a) b x) -> ∀ G', IsMerge G' h -> G' c -> (∀ x, G' x -> Conn (λa => S a \/ T a) c x) -> Conn (λa => S a \/ T a) b c) := λh b c hb hc G m gb cb G' m' gc cc => by
    have nb : b.ns ≠ [] := (pu h b hb).1.elim (nS b) (nT b);obtain ⟨k, l, ek⟩ := ic nb;have kb : k ∈ b.ns := by rw [ek]; exact af
    have kh := (m.ns_m k).mpr ⟨b, gb, kb⟩;obtain ⟨y, gy, ky⟩ := (m'.ns_m k).mp kh;have sb : shr b y := ⟨k, bj _ kb, bj _ ky⟩
    have cy := cc y gy;exact (Conn.step (.here (pu h b hb).1) cy.right sb).trans cy.symm
  have inS : ∀ {a b}, Conn S a b -> Conn (λa => S a \/ T a) a b := λh => h.mono λ_ z => .inl z;have inT : ∀ {a b}, Conn T a b -> Conn (λa => S a \/ T a) a b := λh => h.mono λ_ z => .inr z;have tog : ∀ h b, part h b -> ∃ G, IsMerge G h /\ G b /\ ∀ x, G x -> Conn (λa => S a \/ T a) b x := λh b z => by
    rcases z with ⟨a, _, m, c⟩ | ⟨a, _, m, c⟩
    · exact ⟨_, m, c, λx cx => inS (c.symm.trans cx)⟩
    · exact ⟨_, m, c, λx cx => inT (c.symm.trans cx)⟩
  have same : ∀ h b c, part h b -> part h c -> Conn (λa => S a \/ T a) b c := λh b c hb hc => by obtain ⟨G, m, gb, cb⟩ := tog h b hb;obtain ⟨G', m', gc, cc⟩ := tog h c hc;exact up h b c hb hc G m gb cb G' m' gc cc
  have key : ∀ h0 a0, (h0 ∈ P \/ h0 ∈ Q) -> part h0 a0 -> ∀ b, Conn (λa => S a \/ T a) a0 b ↔ ∃ h, Conn (λh => h ∈ P \/ h ∈ Q) h0 h /\ part h b := λh0 a0 hh0 ha0 b => by
    constructor
    · intro c
      have : ∀ {x y}, Conn (λa => S a \/ T a) x y -> part h0 x -> ∃ h, Conn (λh => h ∈ P \/ h ∈ Q) h0 h /\ part h y := λ{x y} c => by
        induction c with
        | here _ => exact λz => ⟨h0, .here hh0, z⟩
        | @step x y c' uc sh ih =>
          intro z;rename_i y' c2;obtain ⟨h, ch, ph⟩ := ih z;obtain ⟨h', hh', m', g'⟩ : ∃ h', (h' ∈ P \/ h' ∈ Q) /\ part h' y /\ True := by
            rcases uc with uc | uc
            · obtain ⟨h', hh', m'⟩ := p.all _ uc
              exact ⟨h', .inl hh', .inl ⟨_, hh', m', .here uc⟩, trivial⟩
            · obtain ⟨h', hh', m'⟩ := q.all _ uc
              exact ⟨h', .inr hh', .inr ⟨_, hh', m', .here uc⟩, trivial⟩
          obtain ⟨t, t1, t2⟩ := sh;exact ⟨h', .step ch hh' ⟨t, (tie h t ch.right).mpr ⟨_, ph, t1⟩, (tie h' t hh').mpr ⟨_, m', t2⟩⟩, m'⟩
      exact this c ha0
    · rintro ⟨h, ch, ph⟩
      have : ∀ {x y}, Conn (λh => h ∈ P \/ h ∈ Q) x y -> part x a0 -> ∀ b, part y b -> Conn (λa => S a \/ T a) a0 b := λ{x y} c => by
        induction c with
        | here _ => exact λz b hb => same _ _ _ z hb
        | step c' hc sh ih =>intro z b hb;obtain ⟨t, t1, t2⟩ := sh;obtain ⟨u, pu1, tu⟩ := (tie _ t c'.right).mp t1;obtain ⟨v, pv1, tv⟩ := (tie _ t hc).mp t2;exact (Conn.step (ih z u pu1) (pu _ v pv1).1 ⟨t, tu, tv⟩).trans (same _ _ _ pv1 hb)
      exact this ch ha0 b ph
  have mk : ∀ h0 a0 r0, (h0 ∈ P \/ h0 ∈ Q) -> part h0 a0 -> IsMerge (Conn (λh => h ∈ P \/ h ∈ Q) h0) r0 -> IsMerge (Conn (λa => S a \/ T a) a0) r0 := λh0 a0 r0 hh0 ha0 m =>
    m.of (λh ch => mp h ch.right) (key h0 a0 hh0 ha0)
  refine ⟨r.sorted, λr0 hr => ?_, λa ua => ?_⟩
  · obtain ⟨h0, hh0, m⟩ := r.each r0 hr
    obtain ⟨G, a0, _, g, hG⟩ := pe h0 hh0;exact ⟨a0, (pu h0 a0 (hG a0 g)).1, mk h0 a0 r0 hh0 (hG a0 g) m⟩
  · obtain ⟨h', hh', ph⟩ : ∃ h', (h' ∈ P \/ h' ∈ Q) /\ part h' a := by
      rcases ua with uc | uc
      · obtain ⟨h', hh', m'⟩ := p.all _ uc
        exact ⟨h', .inl hh', .inl ⟨_, hh', m', .here uc⟩⟩
      · obtain ⟨h', hh', m'⟩ := q.all _ uc
        exact ⟨h', .inr hh', .inr ⟨_, hh', m', .here uc⟩⟩
    obtain ⟨r0, hr, m⟩ := r.all h' hh';exact ⟨r0, hr, mk h' a r0 hh' ph m⟩
end My
noncomputable section
namespace Gen
open PySem PySem.Spec PyProof.Rows L2 DL
noncomputable def N0(i:Nat):Stmt:=PySem.Challenge.pw_citeward_k39_whole_any_order.main.body.getD i (.Pass ⟨0,0,0,0⟩)
noncomputable abbrev Zod:Nat:=1000
abbrev Bv:Stmt:=N0 13
abbrev Uy:Stmt:=N0 14
abbrev Bw:Stmt:=N0 15
abbrev Uz:Stmt:=N0 16
abbrev Ox:Stmt:=N0 7
abbrev N3:Stmt:=N0 8
abbrev Oy:Stmt:=N0 9
abbrev Mz:Stmt:=N0 6
abbrev N4:Stmt:=N0 5
abbrev Rc:Stmt:=N0 17
abbrev Bx:Stmt:=N0 12
abbrev U0:Stmt:=N0 11
abbrev Bz:Stmt:=N0 3
abbrev Cs:Stmt:=N0 4
abbrev B0:Stmt:=N0 2
abbrev Re:Stmt:=N0 1
abbrev B2:Stmt:=N0 18
abbrev Oz:Stmt:=N0 19
abbrev B3:Stmt:=N0 20
def Wf:FS:=
 Z4 (Y0 9 (Zm Av (Za 6) (Yq Zid (Zc (Zm eqX (Za 8) (Za 4)) Zj)))) (Y0 7 (Zm Os (Za 7) (Zm O5 (Za 2) (Zm Uf (Zm Os (Zm Rr (Za 0) (Zm Os (Za 8) (Zf (.int 2)))) (Za 9)) (Zf (.int 22))))))
def Jg:FS:=
 Z4 (Y0 7 (Zf (.str ""))) (Z4 (J1 (Tk (Zc (Za 3) Zj)) (Zd 8) Wf) (Rq 5 (Za 7)))
def Cu:FS:=
 Z4 (Y0 2 (Zf (.str "abcdefghjlmpqrstuvwxyz"))) (Z4 (Y0 3 (Zm Os (Zf (.int 1)) (Zm Uf (Za 0) (Zf (.int 8))))) (Z4 (Y0 4 (Zm Uf (Zm Rr (Za 0) (Zf (.int 8))) (Za 3))) (Z4 (Y0 5 (U9 (Zs))) (Z4 (J1 (Tk (Zc (Za 1) Zj)) (Zd 6) Jg) (Jq (Za 5))))))
def Yx:List D->Option SV:=Qa Cu 10
def Qj:FS:=
 Z4 (Rq 2 (Zm Uf (Za 3) (Zf (.int 5040)))) (Y0 3 (Zm Rr (Za 3) (Zf (.int 5040))))
def Qk:FS:=
 Z4 (Y0 3 (Zm Uf (Zm Av (Zm Os (Zm Os (Za 3) (Za 4)) (Zf (.int 1))) (Zf (.int 48271))) (Zf (.int 2147483647)))) (Rq 2 (Zm Uf (Zm Av (Za 3) (Zf (.int 69621))) (Zf (.int 2147483629))))
def Jh:FS:=
 Z4 (Y0 2 (U9 (Zs))) (Z4 (Y0 3 (Zm Rr (Za 0) (Zf (.int 2)))) (Z4 (Xc (Ys (Zm eqX (Zm Uf (Za 0) (Zf (.int 2))) (Zf (.int 1)))) (Z4 (J1 (Tk (Zc (Za 1) Zj)) (Zd 4) Qj) (Jq (Za 2))) (Ut)) (Z4 (Y0 3 (Zm Uf (Za 3) (Zf (.int 2147483647)))) (Z4 (J1 (Tk (Zc (Za 1) Zj)) (Zd 4) Qk) (Jq (Za 2))))))
def Ym:List D->Option SV:=Qa Jh 5
def Ji:FS:=
 Rq 5 (Zm O5 (Zm Os (Za 0) (U9 (Zh (Zf (.str "kind")) (Zs)))) (Zm Uf (Zm O5 (Za 2) (Zm Os (Zm Os (Zf (.int 2)) (Zm Av (Zf (.int 3)) (Za 4))) (Za 6))) (Zf (.int 4))))
def Jj:FS:=
 Z4 (Y0 5 (U9 (Zs))) (Z4 (J1 (Tk (Zc (Zm Os (Zf (.int 1)) (Zm Uf (Zm O5 (Za 2) (Zm Os (Zf (.int 1)) (Zm Av (Zf (.int 3)) (Za 4)))) (Zf (.int 2)))) Zj)) (Zd 6) Ji) (Rq 3 (Za 5)))
def Cv:FS:=
 Z4 (Y0 2 (Yc 2 Ym (Zc (Za 1) (Zc (Zf (.int 10)) (Zj))))) (Z4 (Y0 3 (U9 (Zs))) (Z4 (J1 (Tk (Zc (Zm Uf (Zm O5 (Za 2) (Zf (.int 0))) (Zf (.int 4))) Zj)) (Zd 4) Jj) (Jq (Za 3))))
def Ju:List D->Option SV:=Qa Cv 7
def Y9:FS:=
 Xc (Ys (Zm gtD (Zm Uf (Zm O5 (Za 7) (Za 9)) (Zf (.int 4))) (Zf (.int 0)))) (Ir 8 (Za 10) (Zm Os (Zf (.str "It's ")) (Yq Zb0 (Zc (Zm Uf (Zm O5 (Za 7) (Zm Os (Zf (.int 3)) (Za 9))) (Za 3)) Zj)))) (Ut)
def Wa:FS:=
 Z4 (Y0 7 (Yc 2 Ym (Zc (Za 6) (Zc (Zf (.int 7)) (Zj))))) (Z4 (Y0 8 (Dl)) (Z4 (J1 (Mo (Zh (Za 1) Zs)) (Wj 2 (Zt (Zd 9) (Zt (Zd 10) (Wi)))) Y9) (Vb 4 (Zm Uf (Za 5) (Zf (.int 3))) (Zm O5 (Za 0) (Zm Rr (Za 5) (Zf (.int 3)))) (tupF (Zh (Zm O5 (U9 (Xt ["book","part"] (Zs))) (Zm Uf (Zm O5 (Za 7) (Zf (.int 6))) (Zf (.int 2)))) (Zh (Za 8) (Zs)))))))
def O0:FS:=
 Z4 (Y0 4 (Zf8)) (Z4 (J1 (Mo (Zh (Za 2) Zs)) (Wj 2 (Zt (Zd 5) (Zt (Zd 6) (Wi)))) Wa) (Zin (Za 4)))
def Qg:List D->Option SV:=Qa O0 11
def U1:FS:=
 Th 1 (Za 4) 2 aD
def Wy:FS:=
 J1 (Cd (Zm Os (Zm O5 (Za 3) (Zf (.int 0))) (Zm O5 (Za 3) (Zf (.int 1))))) (Zd 4) U1
def B4:FS:=
 Z4 (Y0 1 (Ku)) (Z4 (J1 (Mo (Zh (Za 0) Zs)) (Wj 2 (Zt (Zd 2) (Zt (Zd 3) (Wi)))) Wy) (Zin (Za 1)))
def Qx:List D->Option SV:=Qa B4 5
def U2:FS:=
 Xc (Ys (Zm Au (Za 7) (Za 3))) (Z4 (Ir 3 (Za 7) (Zf (.bl aC))) (Rq 4 (Za 7))) (Ut)
def R8:FS:=
 J1 (Cd (Zm Zf3 (Za 1) (Za 6))) (Zd 7) U2
def U3:FT:=
 Ys (Zm gtD (Yq Iy (Zc (Za 4) Zj)) (Zf (.int 0)))
def Cw:FS:=
 Z4 (Nx 5 0 4) (J1 (Cd (Zm Os (Zm O5 (Za 5) (Zf (.int 0))) (Zm O5 (Za 5) (Zf (.int 1))))) (Zd 6) R8)
def He:FS:=
 Z4 (Y0 3 (Zam 2 (Zf (.bl aC)))) (Z4 (Y0 4 (U9 (Zh (Za 2) (Zs)))) (Z4 (Uu U3 Cw Zod) (Jq (Yq Sr (Zc (Za 3) Zj)))))
def Ey:List D->Option SV:=Qa He 8
def U4:FS:=
 Th 3 (tupF (Zh (Za 5) (Zh (Za 6) (Zs)))) 7 aC
def Wz:FS:=
 Z4 (Em 1 (Zm O5 (Za 4) (Zf (.int 0)))) (Z4 (Em 2 (Zm O5 (Za 4) (Zf (.int 1)))) (J1 (Cd (Zm O5 (Za 4) (Zf (.int 2)))) (Wj 3 (Zt (Zd 5) (Zt (Zd 6) (Zt (Zd 7) (Wi))))) U4))
def Qy:FE:=
 tupF (Zh (Zm O5 (Za 0) (Zf (.int 0))) (Zh (Zm O5 (Za 0) (Zf (.int 1))) (Zh (Yq Cp (Zc (Zm Zf3 (Za 1) (Za 0)) Zj)) (Zs))))
def B5:FS:=
 Z4 (Y0 1 (U9 (Zs))) (Z4 (Y0 2 (U9 (Zs))) (Z4 (Y0 3 (Ku)) (Z4 (J1 (Cd (Za 0)) (Zd 4) Wz) (Z4 (Y0 8 (Og [.own,.cap 3,.acc] 2 (Zf2 (Za 3)) (Zd 0) (Q7) Qy)) (Jq (tupF (Zh (Yq Cp (Zc (Za 1) Zj)) (Zh (Yq Cp (Zc (Za 2) Zj)) (Zh (Yq Cm (Zc (Za 8) Zj)) (Zs))))))))))
def Qz:List D->Option SV:=Qa B5 9
def U5:FS:=
 Ir 3 (Za 6) (Zf (.bl aC))
def B6:FE:=
 Zm O5 (Za 1) (Za 0)
def Jb:FS:=
 Xc (Ys (Zm Au (Za 4) (Za 3))) (Z4 (Y0 5 (Yc 3 Ey (Zc (Za 0) (Zc (Za 1) (Zc (Za 4) (Zj)))))) (Z4 (J1 (Cd (Za 5)) (Zd 6) U5) (Rq 2 (Yc 1 Qz (Zc (Og [.own,.cap 0,.acc] 2 (Cd (Za 5)) (Zd 0) (Q7) B6) (Zj)))))) (Ut)
def Ez:FS:=
 Z4 (Y0 1 (Yc 1 Qx (Zc (Za 0) (Zj)))) (Z4 (Y0 2 (U9 (Zs))) (Z4 (Y0 3 (Dl)) (Z4 (J1 (Tk (Zc (Yq Iy (Zc (Za 0) Zj)) Zj)) (Zd 4) Jb) (Jq (Yq Cm (Zc (Za 2) Zj))))))
def U6:List D->Option SV:=Qa Ez 7
def Hf:FS:=
 Jq (Yc 1 U6 (Zc (Zm Os (Za 0) (Za 1)) (Zj)))
def Wg:List D->Option SV:=Qa Hf 2
def Jv:FS:=
 Z4 (Rq 4 (Yc 2 Wg (Zc (Yc 2 Wg (Zc (Za 5) (Zc (Za 6) (Zj)))) (Zc (Za 7) (Zj))))) (Rq 4 (Yc 2 Wg (Zc (Za 5) (Zc (Yc 2 Wg (Zc (Za 6) (Zc (Za 7) (Zj)))) (Zj)))))
def M0:FS:=
 Z4 (L3 (Sw 3 (Zt (Zd 1) (Zt (Zd 2) (Zt (Zd 3) (Wi))))) (Za 0)) (Z4 (Y0 4 (U9 (Zs))) (Z4 (J1 (Cd (U9 (Zh (tupF (Zh (Za 1) (Zh (Za 2) (Zh (Za 3) (Zs))))) (Zh (tupF (Zh (Za 1) (Zh (Za 3) (Zh (Za 2) (Zs))))) (Zh (tupF (Zh (Za 2) (Zh (Za 1) (Zh (Za 3) (Zs))))) (Zh (tupF (Zh (Za 2) (Zh (Za 3) (Zh (Za 1) (Zs))))) (Zh (tupF (Zh (Za 3) (Zh (Za 1) (Zh (Za 2) (Zs))))) (Zh (tupF (Zh (Za 3) (Zh (Za 2) (Zh (Za 1) (Zs))))) (Zs))))))))) (Wj 3 (Zt (Zd 5) (Zt (Zd 6) (Zt (Zd 7) (Wi))))) Jv) (Jq (Za 4))))
def Bb:List D->Option SV:=Qa M0 8
def Cy:FS:=
 Jq (Zm Uf (Zm Av (Zm Uf (Za 0) (Zf (.int 2147483647))) (Za 1)) (Zf (.int 2147483647)))
def Wo:List D->Option SV:=Qa Cy 2
def Jk:FS:=
 Z4 (Xc (Ys (Zm Ug (Za 1) (Yq Iy (Zc (Za 0) Zj)))) (Jq (Zm O5 (Za 0) (Za 1))) (Ut)) (Jq (Zf (.int 0)))
def Zq:List D->Option SV:=Qa Jk 2
def Cz:FS:=
 Z4 (Y0 1 (Yq Dq (Zc (Zm O5 (Za 0) (Zf (.int 1))) Zj))) (Z4 (Ir 1 (Zf (.str "kind")) (Zm O5 (Za 0) (Zf (.int 0)))) (Jq (Za 1)))
def Qq:List D->Option SV:=Qa Cz 2
def Uj:FE:=
 Zm inZ (Za 0) (Za 1)
def Uk:FE:=
 Zm O5 (Za 1) (Za 0)
def Q0:FS:=
 Xc (Ys (Yq Zij (Zc (Og [.own,.cap 0,.acc] 2 (Cd (Za 4)) (Zd 0) (Q7) Uj) Zj))) (Rq 2 (tupF (Zh (Za 3) (Zh (Yq L6 (Zc (Og [.own,.cap 0,.acc] 2 (Cd (Za 4)) (Zd 0) (Q7) Uk) Zj)) (Zs))))) (Ut)
def Rf:FS:=
 Z4 (Y0 2 (U9 (Zs))) (Z4 (J1 (Mo (Zh (Za 1) Zs)) (Wj 2 (Zt (Zd 3) (Zt (Zd 4) (Wi)))) Q0) (Jq (Za 2)))
def U7:List D->Option SV:=Qa Rf 5
def Qh:FT:=
 Ys (Zm neX (Za 0) (Zf (.str "note")))
def Jl:FE:=
 tupF (Zh (Za 0) (Zh (Zm O5 (Za 1) (Za 0)) (Zh (U9 (Zh (Za 2) (Zs))) (Zs))))
def C0:FS:=
 Z4 (Y0 3 (Yc 1 Qq (Zc (Za 1) (Zj)))) (Z4 (Y0 4 (Og [.own,.cap 3,.cap 0,.acc] 3 (Xv (Za 3)) (Zd 0) (Qh) Jl)) (Jq (tupF (Zh (U9 (Zh (Za 0) (Zs))) (Zh (Yc 2 U7 (Zc (Za 3) (Zc (Za 2) (Zj)))) (Zh (Za 4) (Zs)))))))
def Qr:List D->Option SV:=Qa C0 5
def Oh:FE:=
 Yc 3 Qr (Zc (tupF (Zh (Za 2) (Zh (Za 0) (Zs)))) (Zc (Zm O5 (Za 3) (Za 0)) (Zc (Za 1) (Zj))))
def M3:FS:=
 Jq (Yc 1 U6 (Zc (Og [.own,.cap 2,.cap 0,.cap 1,.acc] 4 (Xv (Za 1)) (Zd 0) (Q7) Oh) (Zj)))
def Wn:List D->Option SV:=Qa M3 3
def Jm:FS:=
 Z4 (Em 2 (Zm O5 (Za 4) (Zf (.int 0)))) (Em 3 (Zm O5 (Za 4) (Zf (.int 1))))
def C2:FS:=
 Z4 (Y0 2 (U9 (Zs))) (Z4 (Y0 3 (U9 (Zs))) (Z4 (J1 (Cd (Za 0)) (Zd 4) Jm) (Z4 (Xc (orF (Ys (Zm neX (Yq Kv (Zc (Za 2) Zj)) (Yq Iy (Zc (Za 2) Zj)))) (Ys (Zm neX (Yq Kv (Zc (Za 3) Zj)) (Yq Iy (Zc (Za 3) Zj))))) (Jq (Zf (.bl aD))) (Ut)) (Jq (Zm eqX (Yq Cm (Zc (Za 2) Zj)) (Yq Cp (Zc (Za 1) Zj)))))))
def Jw:List D->Option SV:=Qa C2 5
def Q1:FT:=
 Ys (Zm inN (Za 0) (Zm O5 (Za 1) (Zf (.int 0))))
def Q2:FE:=
 Za 0
def W0:FS:=
 Z4 (Y0 4 (Og [.own,.cap 3,.acc] 2 (Cd (Zm O5 (Za 2) (Zf (.int 0)))) (Zd 0) (Q1) Q2)) (Xc (Zmj (Ys (Zm neX (Za 4) (U9 (Zs)))) (Ys (Zm Ug (Yq Iy (Zc (Za 4) Zj)) (Yq Iy (Zc (Zm O5 (Za 2) (Zf (.int 0))) Zj))))) (Jq (Zf (.bl aD))) (Ut))
def Q3:FS:=
 J1 (Cd (Za 1)) (Zd 3) W0
def B7:FS:=
 Z4 (J1 (Cd (Za 0)) (Zd 2) Q3) (Jq (Zf (.bl aC)))
def Wd:List D->Option SV:=Qa B7 5
def R9:FE:=
 Yc 3 Wn (Zc (Zm O5 (Za 2) (Za 0)) (Zc (Zm O5 (Za 3) (Za 0)) (Zc (Za 1) (Zj))))
def T3:FE:=
 tupF (Zh (Zm O5 (Za 1) (Za 2)) (Zh (Za 0) (Zs)))
def Ma:FS:=
 Y0 7 (Zm Os (Za 7) (Og [.own,.cap 1,.cap 8,.acc] 3 (Xv (Zm O5 (Za 5) (Za 8))) (Zd 0) (Q7) T3))
def T4:FT:=
 Ys (Zm neX (Za 0) (Za 1))
def Zax:FE:=
 Za 0
def Zay:FE:=
 Yc 3 Wn (Zc (Zm O5 (Za 2) (Za 0)) (Zc (Zm O5 (Za 3) (Za 0)) (Zc (Za 1) (Zj))))
def T5:FS:=
 Xc (orF (Ys (Zm neX (Yc 2 Wg (Zc (Za 10) (Zc (Za 11) (Zj)))) (Za 10))) (orF (Ys (Zm neX (Yc 2 Wg (Zc (Za 11) (Zc (Za 10) (Zj)))) (Za 10))) (Zh3 (Ys (Yc 2 Wd (Zc (Za 11) (Zc (Za 10) (Zj)))))))) (Jq (Zf (.bl aD))) (Ut)
def Mb:FS:=
 Z4 (Y0 2 (Yc 2 Yx (Zc (Yc 2 Wo (Zc (Yc 2 Zq (Zc (Za 0) (Zc (Zf (.int 1)) (Zj)))) (Zc (Zf (.int 16807)) (Zj)))) (Zc (Zf (.int 4)) (Zj))))) (Z4 (Y0 3 (Yc 2 Yx (Zc (Yc 2 Wo (Zc (Yc 2 Zq (Zc (Za 0) (Zc (Zf (.int 2)) (Zj)))) (Zc (Zf (.int 16807)) (Zj)))) (Zc (Zf (.int 3)) (Zj))))) (Z4 (Y0 4 (Yc 2 Ju (Zc (Za 3) (Zc (Yc 2 Zq (Zc (Za 0) (Zc (Zf (.int 3)) (Zj)))) (Zj))))) (Z4 (Y0 5 (Yc 4 Qg (Zc (Za 2) (Zc (Za 3) (Zc (slF slD (Za 0) (De (Zf (.int 6))) (De (Zf (.int 15)))) (Zc (Zm Os (Zf (.int 2)) (Zm Uf (Yc 2 Zq (Zc (Za 0) (Zc (Zf (.int 5)) (Zj)))) (Zf (.int 9)))) (Zj))))))) (Z4 (Y0 6 (Og [.own,.cap 4,.cap 1,.cap 5,.acc] 4 (Tk (Zc (Zf (.int 3)) Zj)) (Zd 0) (Q7) R9)) (Z4 (Y0 7 (U9 (Zs))) (Z4 (J1 (Tk (Zc (Zf (.int 3)) Zj)) (Zd 8) Ma) (Z4 (Y0 9 (Yc 1 Bb (Zc (Za 6) (Zj)))) (Z4 (Y0 10 (Zm O5 (Za 9) (Zf (.int 0)))) (Z4 (Xc (orF (Dv (Ys (Zm neX (Og [.own,.cap 10,.acc] 2 (Cd (Za 9)) (Zd 0) (T4) Zax) (U9 (Zs))))) (Zh3 (Ys (Yc 2 Jw (Zc (Za 10) (Zc (Za 7) (Zj))))))) (Jq (Zf (.bl aD))) (Ut)) (Z4 (Xc (Dv (Ys (Zm neX (Za 6) (Og [.own,.cap 4,.cap 1,.cap 5,.acc] 4 (Tk (Zc (Zf (.int 3)) Zj)) (Zd 0) (Q7) Zay)))) (Jq (Zf (.bl aD))) (Ut)) (Z4 (J1 (Cd (Za 6)) (Zd 11) T5) (Jq (Zmk (Zm eqX (Yc 2 Wg (Zc (Za 10) (Zc (Za 10) (Zj)))) (Za 10)) (Zm eqX (Za 10) (Yq Cm (Zc (Za 10) Zj))))))))))))))))
def Zaz:FS:=
 Z4 (Y0 1 (Yc 2 Yx (Zc (Yc 2 Wo (Zc (Yc 2 Zq (Zc (Za 0) (Zc (Zf (.int 0)) (Zj)))) (Zc (Zf (.int 16807)) (Zj)))) (Zc (Zf (.int 3)) (Zj))))) (Z4 (Xc (Ys (Zm eqX (Zm Uf (Yc 2 Zq (Zc (Za 0) (Zc (Zf (.int 4)) (Zj)))) (Zf (.int 3))) (Zf (.int 1)))) (Du 1 (Zf (.int 2)) (Zm O5 (Za 1) (Zm Uf (Zm Rr (Yc 2 Zq (Zc (Za 0) (Zc (Zf (.int 4)) (Zj)))) (Zf (.int 3))) (Zf (.int 2))))) (Ut)) Mb)
def Mc:List D->Option SV:=Qa Zaz 12
end Gen
namespace Gen
open PySem PySem.Spec PyProof.Rows L2 DL
structure Txt(K:ad)(mg:Str->Option ah)(fx0 fx1 fx2 fx3 fx4 fx5 fx6 fx7 fx8 fx9 fx10 fx11 fx12 fx13 fx14 fx15 fx16 fx17 fx18:aj):Prop where
 z_all:mg "all"=aB
 z_dict:mg "dict"=aB
 z_enumerate:mg "enumerate"=aB
 z_int:mg "int"=aB
 z_len:mg "len"=aB
 z_list:mg "list"=aB
 z_range:mg "range"=aB
 z_set:mg "set"=aB
 z_sorted:mg "sorted"=aB
 z_str:mg "str"=aB
 z_tuple:mg "tuple"=aB
 m_0:mg "_law_names"=aA (.ref fx0)
 k_0:bu K (.ref fx0)=aC
 m_1:mg "_law_numbers"=aA (.ref fx1)
 k_1:bu K (.ref fx1)=aC
 m_2:mg "_law_rules"=aA (.ref fx2)
 k_2:bu K (.ref fx2)=aC
 m_3:mg "_law_shelves"=aA (.ref fx3)
 k_3:bu K (.ref fx3)=aC
 m_4:mg "holders_of"=aA (.ref fx4)
 k_4:bu K (.ref fx4)=aC
 m_5:mg "tied"=aA (.ref fx5)
 k_5:bu K (.ref fx5)=aC
 m_6:mg "join_heaps"=aA (.ref fx6)
 k_6:bu K (.ref fx6)=aC
 m_7:mg "joined"=aA (.ref fx7)
 k_7:bu K (.ref fx7)=aC
 m_8:mg "pour"=aA (.ref fx8)
 k_8:bu K (.ref fx8)=aC
 m_9:mg "_law_all"=aA (.ref fx9)
 k_9:bu K (.ref fx9)=aC
 m_10:mg "_law_mixed"=aA (.ref fx10)
 k_10:bu K (.ref fx10)=aC
 m_11:mg "_law_cell_at"=aA (.ref fx11)
 k_11:bu K (.ref fx11)=aC
 m_12:mg "own_texts"=aA (.ref fx12)
 k_12:bu K (.ref fx12)=aC
 m_13:mg "marks_of"=aA (.ref fx13)
 k_13:bu K (.ref fx13)=aC
 m_14:mg "lone_heap"=aA (.ref fx14)
 k_14:bu K (.ref fx14)=aC
 m_15:mg "pool_of"=aA (.ref fx15)
 k_15:bu K (.ref fx15)=aC
 m_16:mg "_law_apart"=aA (.ref fx16)
 k_16:bu K (.ref fx16)=aC
 m_17:mg "_law_within"=aA (.ref fx17)
 k_17:bu K (.ref fx17)=aC
 m_18:mg "law"=aA (.ref fx18)
 k_18:bu K (.ref fx18)=aC
section
variable{P:b6}{w:c7}{K:ad}{mg:Str->Option ah}{base:d6}{fx0 fx1 fx2 fx3 fx4 fx5 fx6 fx7 fx8 fx9 fx10 fx11 fx12 fx13 fx14 fx15 fx16 fx17 fx18:aj}
theorem Yu:FnScope ["_law_number","_law_many","_law_letters","_law_size","_law_at","_law_names_here","_law_turn","_law_name","_law_k","_law_step"] ["_law_number","_law_many"] (Zx Bv):=⟨rfl,rfl,rfl,by decide+kernel,rfl,by decide+kernel,by decide+kernel⟩
theorem Yy:FnScope ["_law_cell","_law_many","_law_found","_law_number","_law_k"] ["_law_cell","_law_many"] (Zx Uy):=⟨rfl,rfl,rfl,by decide+kernel,rfl,by decide+kernel,by decide+kernel⟩
theorem W9:FnScope ["_law_fields","_law_cell","_law_some","_law_rules_here","_law_k","_law_rule","_law_j"] ["_law_fields","_law_cell"] (Zx Bw):=⟨rfl,rfl,rfl,by decide+kernel,rfl,by decide+kernel,by decide+kernel⟩
theorem Yz:FnScope ["_law_keys","_law_fields","_law_cells","_law_wide","_law_shelves_here","_law_k","_law_cell","_law_some","_law_own","_law_j","_law_field"] ["_law_keys","_law_fields","_law_cells","_law_wide"] (Zx Uz):=⟨rfl,rfl,rfl,by decide+kernel,rfl,by decide+kernel,by decide+kernel⟩
theorem Qi:FnScope ["heaps","holders","place","heap","tie"] ["heaps"] (Zx Ox):=⟨rfl,rfl,rfl,by decide+kernel,rfl,by decide+kernel,by decide+kernel⟩
theorem Gf:FnScope ["heaps","holders","place","found","left","heap","tie","other"] ["heaps","holders","place"] (Zx N3):=⟨rfl,rfl,rfl,by decide+kernel,rfl,by decide+kernel,by decide+kernel⟩
theorem Yv:FnScope ["heaps","names","marks","tellers","heap","field","value","told_by","fields"] ["heaps"] (Zx Oy):=⟨rfl,rfl,rfl,by decide+kernel,rfl,by decide+kernel,by decide+kernel⟩
theorem Jc:FnScope ["heaps","holders","pool","seen","place","group","other"] ["heaps"] (Zx Mz):=⟨rfl,rfl,rfl,by decide+kernel,rfl,by decide+kernel,by decide+kernel⟩
theorem Zjr:FnScope ["one","other"] ["one","other"] (Zx N4):=⟨rfl,rfl,rfl,by decide+kernel,rfl,by decide+kernel,by decide+kernel⟩
theorem W1:FnScope ["_law_pools","_law_a","_law_b","_law_c","_law_found","_law_one","_law_two","_law_three"] ["_law_pools"] (Zx Rc):=⟨rfl,rfl,rfl,by decide+kernel,rfl,by decide+kernel,by decide+kernel⟩
theorem N5:FnScope ["_law_cell","_law_by"] ["_law_cell","_law_by"] (Zx Bx):=⟨rfl,rfl,rfl,by decide+kernel,rfl,by decide+kernel,by decide+kernel⟩
theorem E1:FnScope ["_law_script","_law_k"] ["_law_script","_law_k"] (Zx U0):=⟨rfl,rfl,rfl,by decide+kernel,rfl,by decide+kernel,by decide+kernel⟩
theorem Md:FnScope ["work","texts"] ["work"] (Zx Bz):=⟨rfl,rfl,rfl,by decide+kernel,rfl,by decide+kernel,by decide+kernel⟩
theorem Oi:FnScope ["texts","rules","marks","number","rule"] ["texts","rules"] (Zx Cs):=⟨rfl,rfl,rfl,by decide+kernel,rfl,by decide+kernel,by decide+kernel⟩
theorem B8:FnScope ["name","work","rules","texts","fields"] ["name","work","rules"] (Zx B0):=⟨rfl,rfl,rfl,by decide+kernel,rfl,by decide+kernel,by decide+kernel⟩
theorem Hg:FnScope ["book","shelf","rules"] ["book","shelf","rules"] (Zx Re):=⟨rfl,rfl,rfl,by decide+kernel,rfl,by decide+kernel,by decide+kernel⟩
theorem Ul:FnScope ["_law_pool","_law_names_here","_law_told","_law_marks","_law_heap"] ["_law_pool","_law_names_here"] (Zx B2):=⟨rfl,rfl,rfl,by decide+kernel,rfl,by decide+kernel,by decide+kernel⟩
theorem Jn:FnScope ["_law_part","_law_pool","_law_heap","_law_other","_law_some"] ["_law_part","_law_pool"] (Zx Oz):=⟨rfl,rfl,rfl,by decide+kernel,rfl,by decide+kernel,by decide+kernel⟩
theorem Jd:FnScope ["_law_script","_law_books","_law_keys","_law_fields","_law_rules_here","_law_shelves_here","_law_pools","_law_names_here","_law_k","_law_found","_law_pool","_law_part"] ["_law_script"] (Zx B3):=⟨rfl,rfl,rfl,by decide+kernel,rfl,by decide+kernel,by decide+kernel⟩
theorem N6{st}(F:Fun K x qual st f fd)(S:FnScope N ps (Zx st))(hn:n=ps.length)(f0)(hb:∀cdv A outer s H F0 E,Room k (A.deeper (envOfC qual (Zx st) s.heap.objs.size f cdv))->(A.deeper (envOfC qual (Zx st) s.heap.objs.size f cdv)).units+1<f6->(A.deeper (envOfC qual (Zx st) s.heap.objs.size f cdv)).units+64<f6->Ta (V4 Ud P w K mg base N qual (Zx st) f cdv A outer s H E).nox (Uc st) (Z5 (ent H F0:Ent K) f0)):FnOk P w K mg base Ud (k+1) f fd ps (Y1 K n (Qa f0 N.length)):=
 F.ok S (λ_ _ _ _ h=>(Zd1 h).trans hn) λcdv A outer s H vs Q E hr h=>by obtain⟨F0,h⟩:=Zea (N:=N) (f:=f0) h;exact⟨_,hb cdv A outer s H F0 E hr (Zpy hr) hr.units,h⟩
variable(T:Txt K mg fx0 fx1 fx2 fx3 fx4 fx5 fx6 fx7 fx8 fx9 fx10 fx11 fx12 fx13 fx14 fx15 fx16 fx17 fx18)
include T
theorem N7(F:Fun K "_law_names" "_law_names" Bv fx0 fd):
  FnOk P w K mg base Ud 1 fx0 fd ["_law_number","_law_many"] (Y1 K 2 Yx):=by
 refine N6 F Yu rfl Cu λ_ _ _ _ _ _ _ hr hu hv=>?_;exact(Zg (Yf 2 Yu.nd Ka) (Zg (Yf 3 Yu.nd (Q8 Zp (Qn (Zb 0) Zp))) (Zg (Yf 4 Yu.nd (Qn (Mm (Zb 0) Zp) (Zb 3))) (Zg (Yf 5 Yu.nd (Qo Yn)) (Zg (Wx cw rfl (Gs T.z_range (Zb 1)) (Z1 6 Yu.nd) (Zg (Yf 7 Yu.nd Ka) (Zg (Wx cw rfl (Gs T.z_range (Zb 3)) (Z1 8 Yu.nd) (Zg (Yf 9 Yu.nd (Mq (Zb 6) (Zmw T.z_int (Dh hv (Zb 8) (Zb 4))))) (Zu (Yf 7 Yu.nd (Q8 (Zb 7) (Yo hu (Zb 2) (Qn (Q8 (Mm (Zb 0) (Q8 (Zb 8) Zp)) (Zb 9)) Zp))))))) (Zu (Gu 5 (Zb 7)))))) (Zu (Wu (Zb 5))))))))
theorem E2(F:Fun K "_law_numbers" "_law_numbers" Uy fx1 fd):
  FnOk P w K mg base Ud 1 fx1 fd ["_law_cell","_law_many"] (Y1 K 2 Ym):=by
 refine N6 F Yy rfl Jh λ_ _ _ _ _ _ _ hr hu hv=>?_;exact(Zg (Yf 2 Yy.nd (Qo Yn)) (Zg (Yf 3 Yy.nd (Mm (Zb 0) Zp)) (Zg (Tl (Zku hv (Qn (Zb 0) Zp) Zp) (Zg (Wx cw rfl (Gs T.z_range (Zb 1)) (Z1 4 Yy.nd) (Zg (Gu 2 (Qn (Zb 3) Zp)) (Zu (Yf 3 Yy.nd (Mm (Zb 3) Zp))))) (Zu (Wu (Zb 2)))) J2) (Zg (Yf 3 Yy.nd (Qn (Zb 3) Zp)) (Zg (Wx cw rfl (Gs T.z_range (Zb 1)) (Z1 4 Yy.nd) (Zg (Yf 3 Yy.nd (Qn (Mq (Q8 (Q8 (Zb 3) (Zb 4)) Zp) Zp) Zp)) (Zu (Gu 2 (Qn (Mq (Zb 3) Zp) Zp))))) (Zu (Wu (Zb 2))))))))
theorem N8(F:Fun K "_law_rules" "_law_rules" Bw fx2 fd)(Vx1:FnOk P w K mg base Ud 1 fx1 dx1 ["_law_cell","_law_many"] (Y1 K 2 Ym))(Wx1:Wh K dx1 ["_law_cell","_law_many"] []):
  FnOk P w K mg base Ud 2 fx2 fd ["_law_fields","_law_cell"] (Y1 K 2 Ju):=by
 refine N6 F W9 rfl Cv λ_ _ _ _ _ _ _ hr hu hv=>?_;exact(Zg (Yf 2 W9.nd (Z8 Vx1 (hr.mono (by decide)) T.m_1 T.k_1 Wx1 (Zk (Zb 1) (Zk Zp Ya)))) (Zg (Yf 3 W9.nd (Qo Yn)) (Zg (Wx cw rfl (Gs T.z_range (Qn (Yo hu (Zb 2) Zp) Zp)) (Z1 4 W9.nd) (Zg (Yf 5 W9.nd (Qo Yn)) (Zg (Wx cw rfl (Gs T.z_range (Q8 Zp (Qn (Yo hu (Zb 2) (Q8 Zp (Mq Zp (Zb 4)))) Zp))) (Z1 6 W9.nd) (Zu (Gu 5 (Yo hu (Q8 (Zb 0) (Qo (Zv Ka Yn))) (Qn (Yo hu (Zb 2) (Q8 (Q8 Zp (Mq Zp (Zb 4))) (Zb 6))) Zp))))) (Zu (Gu 3 (Zb 5)))))) (Zu (Wu (Zb 3))))))
theorem E3(F:Fun K "_law_shelves" "_law_shelves" Uz fx3 fd)(Vx1:FnOk P w K mg base Ud 1 fx1 dx1 ["_law_cell","_law_many"] (Y1 K 2 Ym))(Wx1:Wh K dx1 ["_law_cell","_law_many"] []):
  FnOk P w K mg base Ud 2 fx3 fd ["_law_keys","_law_fields","_law_cells","_law_wide"] (Y1 K 4 Qg):=by
 refine N6 F Yz rfl O0 λ_ _ _ _ _ _ _ hr hu hv=>?_;exact(Zg (Yf 4 Yz.nd Zjl) (Zg (Wx cw rfl (Tw T.z_enumerate (Zv (Zb 2) Yn)) (Kc rfl (Wc (Z1 5 Yz.nd) (Wc (Z1 6 Yz.nd) G1))) (Zg (Yf 7 Yz.nd (Z8 Vx1 (hr.mono (by decide)) T.m_1 T.k_1 Wx1 (Zk (Zb 6) (Zk Zp Ya)))) (Zg (Yf 8 Yz.nd Dm) (Zg (Wx cw rfl (Tw T.z_enumerate (Zv (Zb 1) Yn)) (Kc rfl (Wc (Z1 9 Yz.nd) (Wc (Z1 10 Yz.nd) G1))) (Zu (Tl (Zqr (Qn (Yo hu (Zb 7) (Zb 9)) Zp) Zp) (Zu (Dn 8 hu (Zb 10) (Q8 Ka (Zm9 T.z_str (Qn (Yo hu (Zb 7) (Q8 Zp (Zb 9))) (Zb 3)))))) J2))) (Zu (Zn5 4 hu (Qn (Zb 5) Zp) (Yo hu (Zb 0) (Mm (Zb 5) Zp)) (Uw (Zv (Yo hu (Qo (Ziv [("book",_,_),("part",_,_)] Yn)) (Qn (Yo hu (Zb 7) Zp) Zp)) (Zv (Zb 8) Yn))))))))) (Zu (Zew (Zb 4)))))
theorem Fc(F:Fun K "holders_of" "holders_of" Ox fx4 fd):
  FnOk P w K mg base Ud 1 fx4 fd ["heaps"] (Y1 K 1 Qx):=by
 refine N6 F Qi rfl B4 λ_ _ _ _ _ _ _ hr hu hv=>?_;exact(Zg (Yf 1 Qi.nd Zal) (Zg (Wx cw rfl (Tw T.z_enumerate (Zv (Zb 0) Yn)) (Kc rfl (Wc (Z1 2 Qi.nd) (Wc (Z1 3 Qi.nd) G1))) (Zu (Wx cw rfl (Ua (Q8 (Yo hu (Zb 3) Zp) (Yo hu (Zb 3) Zp))) (Z1 4 Qi.nd) (Zu (Zja 1 2 hv (Zb 4)))))) (Zu (Zew (Zb 1)))))
theorem Zjs(F:Fun K "tied" "tied" N3 fx5 fd):
  FnOk P w K mg base Ud 1 fx5 fd ["heaps","holders","place"] (Y1 K 3 Ey):=by
 refine N6 F Gf rfl He λ_ _ _ _ _ _ _ hr hu hv=>?_;exact(Zg (Yf 3 Gf.nd (Zji 2 L7)) (Zg (Yf 4 Gf.nd (Qo (Zv (Zb 2) Yn))) (Zg (Zig Zod cw (Zqr (Ap T.z_len (Zb 4)) Zp) (Zg (Zjh 5 0 4 Gf.nd (Zk1 0) (Zk1 4)) (Zu (Wx cw rfl (Ua (Q8 (Yo hu (Zb 5) Zp) (Yo hu (Zb 5) Zp))) (Z1 6 Gf.nd) (Zu (Wx cw rfl (Ua (Zlh hv (Zb 1) (Zb 6))) (Z1 7 Gf.nd) (Zu (Tl (Sj hu (Zb 7) (Zb 3)) (Zg (Dn 3 hu (Zb 7) L7) (Zu (Gu 4 (Zb 7)))) J2)))))))) (Zu (Wu (Zni rfl T.z_list (Zb 3)))))))
theorem Fd(F:Fun K "join_heaps" "join_heaps" Oy fx6 fd):
  FnOk P w K mg base Ud 1 fx6 fd ["heaps"] (Y1 K 1 Qz):=by
 refine N6 F Yv rfl B5 λ_ _ _ _ _ _ _ hr hu hv=>?_;exact(Zg (Yf 1 Yv.nd (Qo Yn)) (Zg (Yf 2 Yv.nd (Qo Yn)) (Zg (Yf 3 Yv.nd Zal) (Zg (Wx cw rfl (Ua (Zb 0)) (Z1 4 Yv.nd) (Zg (Ny 1 (Yo hu (Zb 4) Zp)) (Zg (Ny 2 (Yo hu (Zb 4) Zp)) (Zu (Wx cw rfl (Ua (Yo hu (Zb 4) Zp)) (Kc rfl (Wc (Z1 5 Yv.nd) (Wc (Z1 6 Yv.nd) (Wc (Z1 7 Yv.nd) G1)))) (Zu (Zjb 3 7 hv (Uw (Zv (Zb 5) (Zv (Zb 6) Yn)))))))))) (Zg (C9 8 rfl (Wl (N':=["pair","tellers",".acc"]) (src:=[.own,.cap 3,.acc]) (by rfl) (by rfl) (by rfl) (by rfl) (by rfl) (by rfl)) (Cj 2 (by rfl) (by rfl)) (by decide) (Zn0 (Zb 3)) (λ_ _ _ _=>xg λ_=>(Z1 0 (show(["pair","tellers",".acc"]:List Str).Nodup by decide+kernel))) (λ_ _ _ _=>xt0) (λ_ _ _ _=>xe λ_=>(Uw (Zv (Yo hu (Zb 0) Zp) (Zv (Yo hu (Zb 0) Zp) (Zv (Nw rfl hv T.z_sorted T.z_set (Zlh hv (Zb 1) (Zb 0))) Yn))))) Yv.nd) (Zu (Wu (Uw (Zv (Nw rfl hv T.z_sorted T.z_set (Zb 1)) (Zv (Nw rfl hv T.z_sorted T.z_set (Zb 2)) (Zv (Nn hv T.z_sorted (Zb 8)) Yn)))))))))))
theorem Zce(F:Fun K "joined" "joined" Mz fx7 fd)(Vx4:FnOk P w K mg base Ud 1 fx4 dx4 ["heaps"] (Y1 K 1 Qx))(Wx4:Wh K dx4 ["heaps"] [])(Vx5:FnOk P w K mg base Ud 1 fx5 dx5 ["heaps","holders","place"] (Y1 K 3 Ey))(Wx5:Wh K dx5 ["heaps","holders","place"] [])(Vx6:FnOk P w K mg base Ud 1 fx6 dx6 ["heaps"] (Y1 K 1 Qz))(Wx6:Wh K dx6 ["heaps"] []):
  FnOk P w K mg base Ud 2 fx7 fd ["heaps"] (Y1 K 1 U6):=by
 refine N6 F Jc rfl Ez λ_ _ _ _ _ _ _ hr hu hv=>?_;exact(Zg (Yf 1 Jc.nd (Z8 Vx4 (hr.mono (by decide)) T.m_4 T.k_4 Wx4 (Zk (Zb 0) Ya))) (Zg (Yf 2 Jc.nd (Qo Yn)) (Zg (Yf 3 Jc.nd Dm) (Zg (Wx cw rfl (Gs T.z_range (Ap T.z_len (Zb 0))) (Z1 4 Jc.nd) (Zu (Tl (Sj hu (Zb 4) (Zb 3)) (Zg (Yf 5 Jc.nd (Z8 Vx5 (hr.mono (by decide)) T.m_5 T.k_5 Wx5 (Zk (Zb 0) (Zk (Zb 1) (Zk (Zb 4) Ya))))) (Zg (Wx cw rfl (Ua (Zb 5)) (Z1 6 Jc.nd) (Zu (Dn 3 hu (Zb 6) L7))) (Zu (Gu 2 (Z8 Vx6 (hr.mono (by decide)) T.m_6 T.k_6 Wx6 (Zk (G2 rfl (Wl (N':=["other","heaps",".acc"]) (src:=[.own,.cap 0,.acc]) (by rfl) (by rfl) (by rfl) (by rfl) (by rfl) (by rfl)) (Cj 2 (by rfl) (by rfl)) (by decide) (Ua (Zb 5)) (λ_ _ _ _=>xg λ_=>(Z1 0 (show(["other","heaps",".acc"]:List Str).Nodup by decide+kernel))) (λ_ _ _ _=>xt0) (λ_ _ _ _=>xe λ_=>(Yo hu (Zb 1) (Zb 0)))) Ya)))))) J2))) (Zu (Wu (Nn hv T.z_sorted (Zb 2))))))))
theorem Zjt(F:Fun K "pour" "pour" N4 fx8 fd)(Vx7:FnOk P w K mg base Ud 2 fx7 dx7 ["heaps"] (Y1 K 1 U6))(Wx7:Wh K dx7 ["heaps"] []):
  FnOk P w K mg base Ud 3 fx8 fd ["one","other"] (Y1 K 2 Wg):=by
 refine N6 F Zjr rfl Hf λ_ _ _ _ _ _ _ hr hu hv=>?_;exact(Zu (Wu (Z8 Vx7 (hr.mono (by decide)) T.m_7 T.k_7 Wx7 (Zk (Q8 (Zb 0) (Zb 1)) Ya))))
theorem Hh(F:Fun K "_law_all" "_law_all" Rc fx9 fd)(Vx8:FnOk P w K mg base Ud 3 fx8 dx8 ["one","other"] (Y1 K 2 Wg))(Wx8:Wh K dx8 ["one","other"] []):
  FnOk P w K mg base Ud 4 fx9 fd ["_law_pools"] (Y1 K 1 Bb):=by
 refine N6 F W1 rfl M0 λ_ _ _ _ _ _ _ hr hu hv=>?_;exact(Zg (Zd9 (Zb 0) (Zr0 rfl (Wc (Z1 1 W1.nd) (Wc (Z1 2 W1.nd) (Wc (Z1 3 W1.nd) G1))))) (Zg (Yf 4 W1.nd (Qo Yn)) (Zg (Wx cw rfl (Ua (Qo (Zv (Uw (Zv (Zb 1) (Zv (Zb 2) (Zv (Zb 3) Yn)))) (Zv (Uw (Zv (Zb 1) (Zv (Zb 3) (Zv (Zb 2) Yn)))) (Zv (Uw (Zv (Zb 2) (Zv (Zb 1) (Zv (Zb 3) Yn)))) (Zv (Uw (Zv (Zb 2) (Zv (Zb 3) (Zv (Zb 1) Yn)))) (Zv (Uw (Zv (Zb 3) (Zv (Zb 1) (Zv (Zb 2) Yn)))) (Zv (Uw (Zv (Zb 3) (Zv (Zb 2) (Zv (Zb 1) Yn)))) Yn)))))))) (Kc rfl (Wc (Z1 5 W1.nd) (Wc (Z1 6 W1.nd) (Wc (Z1 7 W1.nd) G1)))) (Zg (Gu 4 (Z8 Vx8 (hr.mono (by decide)) T.m_8 T.k_8 Wx8 (Zk (Z8 Vx8 (hr.mono (by decide)) T.m_8 T.k_8 Wx8 (Zk (Zb 5) (Zk (Zb 6) Ya))) (Zk (Zb 7) Ya)))) (Zu (Gu 4 (Z8 Vx8 (hr.mono (by decide)) T.m_8 T.k_8 Wx8 (Zk (Zb 5) (Zk (Z8 Vx8 (hr.mono (by decide)) T.m_8 T.k_8 Wx8 (Zk (Zb 6) (Zk (Zb 7) Ya))) Ya))))))) (Zu (Wu (Zb 4))))))
theorem N9(F:Fun K "_law_mixed" "_law_mixed" Bx fx10 fd):
  FnOk P w K mg base Ud 1 fx10 fd ["_law_cell","_law_by"] (Y1 K 2 Wo):=by
 refine N6 F N5 rfl Cy λ_ _ _ _ _ _ _ hr hu hv=>?_;exact(Zu (Wu (Qn (Mq (Qn (Zb 0) Zp) (Zb 1)) Zp)))
theorem E4(F:Fun K "_law_cell_at" "_law_cell_at" U0 fx11 fd):
  FnOk P w K mg base Ud 1 fx11 fd ["_law_script","_law_k"] (Y1 K 2 Zq):=by
 refine N6 F E1 rfl Jk λ_ _ _ _ _ _ _ hr hu hv=>?_;exact(Zg (Tl (Zqq (Zb 1) (Ap T.z_len (Zb 0))) (Zu (Wu (Yo hu (Zb 0) (Zb 1)))) J2) (Zu (Wu Zp)))
theorem Pa(F:Fun K "own_texts" "own_texts" Bz fx12 fd):
  FnOk P w K mg base Ud 1 fx12 fd ["work"] (Y1 K 1 Qq):=by
 refine N6 F Md rfl Cz λ_ _ _ _ _ _ _ hr hu hv=>?_;exact(Zg (Yf 1 Md.nd (Zes T.z_dict (Yo hu (Zb 0) Zp))) (Zg (Dn 1 hu Ka (Yo hu (Zb 0) Zp)) (Zu (Wu (Zb 1)))))
theorem Vd(F:Fun K "marks_of" "marks_of" Cs fx13 fd):
  FnOk P w K mg base Ud 1 fx13 fd ["texts","rules"] (Y1 K 2 U7):=by
 refine N6 F Oi rfl Rf λ_ _ _ _ _ _ _ hr hu hv=>?_;exact(Zg (Yf 2 Oi.nd (Qo Yn)) (Zg (Wx cw rfl (Tw T.z_enumerate (Zv (Zb 1) Yn)) (Kc rfl (Wc (Z1 3 Oi.nd) (Wc (Z1 4 Oi.nd) G1))) (Zu (Tl (Zd7 (Zqz T.z_all (G2 rfl (Wl (N':=["field","texts",".acc"]) (src:=[.own,.cap 0,.acc]) (by rfl) (by rfl) (by rfl) (by rfl) (by rfl) (by rfl)) (Cj 2 (by rfl) (by rfl)) (by decide) (Ua (Zb 4)) (λ_ _ _ _=>xg λ_=>(Z1 0 (show(["field","texts",".acc"]:List Str).Nodup by decide+kernel))) (λ_ _ _ _=>xt0) (λ_ _ _ _=>xe λ_=>(Zra hu (Zb 0) (Zb 1)))))) (Zu (Gu 2 (Uw (Zv (Zb 3) (Zv (Zif T.z_tuple (G2 rfl (Wl (N':=["field","texts",".acc"]) (src:=[.own,.cap 0,.acc]) (by rfl) (by rfl) (by rfl) (by rfl) (by rfl) (by rfl)) (Cj 2 (by rfl) (by rfl)) (by decide) (Ua (Zb 4)) (λ_ _ _ _=>xg λ_=>(Z1 0 (show(["field","texts",".acc"]:List Str).Nodup by decide+kernel))) (λ_ _ _ _=>xt0) (λ_ _ _ _=>xe λ_=>(Yo hu (Zb 1) (Zb 0))))) Yn))))) J2))) (Zu (Wu (Zb 2)))))
theorem Pb(F:Fun K "lone_heap" "lone_heap" B0 fx14 fd)(Vx12:FnOk P w K mg base Ud 1 fx12 dx12 ["work"] (Y1 K 1 Qq))(Wx12:Wh K dx12 ["work"] [])(Vx13:FnOk P w K mg base Ud 1 fx13 dx13 ["texts","rules"] (Y1 K 2 U7))(Wx13:Wh K dx13 ["texts","rules"] []):
  FnOk P w K mg base Ud 2 fx14 fd ["name","work","rules"] (Y1 K 3 Qr):=by
 refine N6 F B8 rfl C0 λ_ _ _ _ _ _ _ hr hu hv=>?_;exact(Zg (Yf 3 B8.nd (Z8 Vx12 (hr.mono (by decide)) T.m_12 T.k_12 Wx12 (Zk (Zb 1) Ya))) (Zg (C9 4 rfl (Wl (N':=["field","texts","name",".acc"]) (src:=[.own,.cap 3,.cap 0,.acc]) (by rfl) (by rfl) (by rfl) (by rfl) (by rfl) (by rfl)) (Cj 3 (by rfl) (by rfl)) (by decide) (Ze5 (Zb 3)) (λ_ _ _ _=>xg λ_=>(Z1 0 (show(["field","texts","name",".acc"]:List Str).Nodup by decide+kernel))) (λ_ _ _ _=>xt λ_=>(Rt hv (Zb 0) Ka)) (λ_ _ _ _=>xe λ_=>(Uw (Zv (Zb 0) (Zv (Yo hu (Zb 1) (Zb 0)) (Zv (Qo (Zv (Zb 2) Yn)) Yn))))) B8.nd) (Zu (Wu (Uw (Zv (Qo (Zv (Zb 0) Yn)) (Zv (Z8 Vx13 (hr.mono (by decide)) T.m_13 T.k_13 Wx13 (Zk (Zb 3) (Zk (Zb 2) Ya))) (Zv (Zb 4) Yn))))))))
theorem Hi(F:Fun K "pool_of" "pool_of" Re fx15 fd)(Vx7:FnOk P w K mg base Ud 2 fx7 dx7 ["heaps"] (Y1 K 1 U6))(Wx7:Wh K dx7 ["heaps"] [])(Vx14:FnOk P w K mg base Ud 2 fx14 dx14 ["name","work","rules"] (Y1 K 3 Qr))(Wx14:Wh K dx14 ["name","work","rules"] []):
  FnOk P w K mg base Ud 3 fx15 fd ["book","shelf","rules"] (Y1 K 3 Wn):=by
 refine N6 F Hg rfl M3 λ_ _ _ _ _ _ _ hr hu hv=>?_;exact(Zu (Wu (Z8 Vx7 (hr.mono (by decide)) T.m_7 T.k_7 Wx7 (Zk (G2 rfl (Wl (N':=["key","rules","book","shelf",".acc"]) (src:=[.own,.cap 2,.cap 0,.cap 1,.acc]) (by rfl) (by rfl) (by rfl) (by rfl) (by rfl) (by rfl)) (Cj 4 (by rfl) (by rfl)) (by decide) (Ze5 (Zb 1)) (λ_ _ _ _=>xg λ_=>(Z1 0 (show(["key","rules","book","shelf",".acc"]:List Str).Nodup by decide+kernel))) (λ_ _ _ _=>xt0) (λ_ _ _ _=>xe λ_=>(Z8 Vx14 (hr.mono (by decide)) T.m_14 T.k_14 Wx14 (Zk (Uw (Zv (Zb 2) (Zv (Zb 0) Yn))) (Zk (Yo hu (Zb 3) (Zb 0)) (Zk (Zb 1) Ya)))))) Ya))))
theorem Pc(F:Fun K "_law_apart" "_law_apart" B2 fx16 fd):
  FnOk P w K mg base Ud 1 fx16 fd ["_law_pool","_law_names_here"] (Y1 K 2 Jw):=by
 refine N6 F Ul rfl C2 λ_ _ _ _ _ _ _ hr hu hv=>?_;exact(Zg (Yf 2 Ul.nd (Qo Yn)) (Zg (Yf 3 Ul.nd (Qo Yn)) (Zg (Wx cw rfl (Ua (Zb 0)) (Z1 4 Ul.nd) (Zg (Ny 2 (Yo hu (Zb 4) Zp)) (Zu (Ny 3 (Yo hu (Zb 4) Zp))))) (Zg (Tl (PW.pt (Zie (Rt hv (Zf9 rfl hv T.z_len T.z_set (Zb 2)) (Ap T.z_len (Zb 2))) (Zd6 (Rt hv (Zf9 rfl hv T.z_len T.z_set (Zb 3)) (Ap T.z_len (Zb 3)))))) (Zu (Wu L7)) J2) (Zu (Wu (Dh hv (Nn hv T.z_sorted (Zb 2)) (Nw rfl hv T.z_sorted T.z_set (Zb 1)))))))))
theorem Fe(F:Fun K "_law_within" "_law_within" Oz fx17 fd):
  FnOk P w K mg base Ud 1 fx17 fd ["_law_part","_law_pool"] (Y1 K 2 Wd):=by
 refine N6 F Jn rfl B7 λ_ _ _ _ _ _ _ hr hu hv=>?_;exact(Zg (Wx cw rfl (Ua (Zb 0)) (Z1 2 Jn.nd) (Zu (Wx cw rfl (Ua (Zb 1)) (Z1 3 Jn.nd) (Zg (C9 4 rfl (Wl (N':=["_law_name","_law_other",".acc"]) (src:=[.own,.cap 3,.acc]) (by rfl) (by rfl) (by rfl) (by rfl) (by rfl) (by rfl)) (Cj 2 (by rfl) (by rfl)) (by decide) (Ua (Yo hu (Zb 2) Zp)) (λ_ _ _ _=>xg λ_=>(Z1 0 (show(["_law_name","_law_other",".acc"]:List Str).Nodup by decide+kernel))) (λ_ _ _ _=>xt λ_=>(Zsg hv (Zb 0) (Yo hu (Zb 1) Zp))) (λ_ _ _ _=>xe λ_=>(Zb 0)) Jn.nd) (Zu (Tl (PW.pt (Zqs (Rt hv (Zb 4) (Qo Yn)) (Zmv (Zqq (Ap T.z_len (Zb 4)) (Ap T.z_len (Yo hu (Zb 2) Zp)))))) (Zu (Wu L7)) J2)))))) (Zu (Wu L7)))
theorem Zoe(F:Fun K "law" "law" B3 fx18 fd)(Vx0:FnOk P w K mg base Ud 1 fx0 dx0 ["_law_number","_law_many"] (Y1 K 2 Yx))(Wx0:Wh K dx0 ["_law_number","_law_many"] [])(Vx2:FnOk P w K mg base Ud 2 fx2 dx2 ["_law_fields","_law_cell"] (Y1 K 2 Ju))(Wx2:Wh K dx2 ["_law_fields","_law_cell"] [])(Vx3:FnOk P w K mg base Ud 2 fx3 dx3 ["_law_keys","_law_fields","_law_cells","_law_wide"] (Y1 K 4 Qg))(Wx3:Wh K dx3 ["_law_keys","_law_fields","_law_cells","_law_wide"] [])(Vx8:FnOk P w K mg base Ud 3 fx8 dx8 ["one","other"] (Y1 K 2 Wg))(Wx8:Wh K dx8 ["one","other"] [])(Vx9:FnOk P w K mg base Ud 4 fx9 dx9 ["_law_pools"] (Y1 K 1 Bb))(Wx9:Wh K dx9 ["_law_pools"] [])(Vx10:FnOk P w K mg base Ud 1 fx10 dx10 ["_law_cell","_law_by"] (Y1 K 2 Wo))(Wx10:Wh K dx10 ["_law_cell","_law_by"] [])(Vx11:FnOk P w K mg base Ud 1 fx11 dx11 ["_law_script","_law_k"] (Y1 K 2 Zq))(Wx11:Wh K dx11 ["_law_script","_law_k"] [])(Vx15:FnOk P w K mg base Ud 3 fx15 dx15 ["book","shelf","rules"] (Y1 K 3 Wn))(Wx15:Wh K dx15 ["book","shelf","rules"] [])(Vx16:FnOk P w K mg base Ud 1 fx16 dx16 ["_law_pool","_law_names_here"] (Y1 K 2 Jw))(Wx16:Wh K dx16 ["_law_pool","_law_names_here"] [])(Vx17:FnOk P w K mg base Ud 1 fx17 dx17 ["_law_part","_law_pool"] (Y1 K 2 Wd))(Wx17:Wh K dx17 ["_law_part","_law_pool"] []):
  FnOk P w K mg base Ud 5 fx18 fd ["_law_script"] (Y1 K 1 Mc):=by
 refine N6 F Jd rfl Zaz λ_ _ _ _ _ _ _ hr hu hv=>?_;exact(Zg (Yf 1 Jd.nd (Z8 Vx0 (hr.mono (by decide)) T.m_0 T.k_0 Wx0 (Zk (Z8 Vx10 (hr.mono (by decide)) T.m_10 T.k_10 Wx10 (Zk (Z8 Vx11 (hr.mono (by decide)) T.m_11 T.k_11 Wx11 (Zk (Zb 0) (Zk Zp Ya))) (Zk Zp Ya))) (Zk Zp Ya)))) (Zg (Tl (Zku hv (Qn (Z8 Vx11 (hr.mono (by decide)) T.m_11 T.k_11 Wx11 (Zk (Zb 0) (Zk Zp Ya))) Zp) Zp) (Zu (Zna 1 Zp (Yo hu (Zb 1) (Qn (Mm (Z8 Vx11 (hr.mono (by decide)) T.m_11 T.k_11 Wx11 (Zk (Zb 0) (Zk Zp Ya))) Zp) Zp)))) J2) (Zg (Yf 2 Jd.nd (Z8 Vx0 (hr.mono (by decide)) T.m_0 T.k_0 Wx0 (Zk (Z8 Vx10 (hr.mono (by decide)) T.m_10 T.k_10 Wx10 (Zk (Z8 Vx11 (hr.mono (by decide)) T.m_11 T.k_11 Wx11 (Zk (Zb 0) (Zk Zp Ya))) (Zk Zp Ya))) (Zk Zp Ya)))) (Zg (Yf 3 Jd.nd (Z8 Vx0 (hr.mono (by decide)) T.m_0 T.k_0 Wx0 (Zk (Z8 Vx10 (hr.mono (by decide)) T.m_10 T.k_10 Wx10 (Zk (Z8 Vx11 (hr.mono (by decide)) T.m_11 T.k_11 Wx11 (Zk (Zb 0) (Zk Zp Ya))) (Zk Zp Ya))) (Zk Zp Ya)))) (Zg (Yf 4 Jd.nd (Z8 Vx2 (hr.mono (by decide)) T.m_2 T.k_2 Wx2 (Zk (Zb 3) (Zk (Z8 Vx11 (hr.mono (by decide)) T.m_11 T.k_11 Wx11 (Zk (Zb 0) (Zk Zp Ya))) Ya)))) (Zg (Yf 5 Jd.nd (Z8 Vx3 (hr.mono (by decide)) T.m_3 T.k_3 Wx3 (Zk (Zb 2) (Zk (Zb 3) (Zk (Zvk (Zb 0) (Zd8 Zp) (Zd8 Zp)) (Zk (Q8 Zp (Qn (Z8 Vx11 (hr.mono (by decide)) T.m_11 T.k_11 Wx11 (Zk (Zb 0) (Zk Zp Ya))) Zp)) Ya)))))) (Zg (C9 6 rfl (Wl (N':=["_law_k","_law_rules_here","_law_books","_law_shelves_here",".acc"]) (src:=[.own,.cap 4,.cap 1,.cap 5,.acc]) (by rfl) (by rfl) (by rfl) (by rfl) (by rfl) (by rfl)) (Cj 4 (by rfl) (by rfl)) (by decide) (Gs T.z_range Zp) (λ_ _ _ _=>xg λ_=>(Z1 0 (show(["_law_k","_law_rules_here","_law_books","_law_shelves_here",".acc"]:List Str).Nodup by decide+kernel))) (λ_ _ _ _=>xt0) (λ_ _ _ _=>xe λ_=>(Z8 Vx15 (hr.mono (by decide)) T.m_15 T.k_15 Wx15 (Zk (Yo hu (Zb 2) (Zb 0)) (Zk (Yo hu (Zb 3) (Zb 0)) (Zk (Zb 1) Ya))))) Jd.nd) (Zg (Yf 7 Jd.nd (Qo Yn)) (Zg (Wx cw rfl (Gs T.z_range Zp) (Z1 8 Jd.nd) (Zu (Yf 7 Jd.nd (Q8 (Zb 7) (G2 rfl (Wl (N':=["_law_key","_law_books","_law_k",".acc"]) (src:=[.own,.cap 1,.cap 8,.acc]) (by rfl) (by rfl) (by rfl) (by rfl) (by rfl) (by rfl)) (Cj 3 (by rfl) (by rfl)) (by decide) (Ze5 (Yo hu (Zb 5) (Zb 8))) (λ_ _ _ _=>xg λ_=>(Z1 0 (show(["_law_key","_law_books","_law_k",".acc"]:List Str).Nodup by decide+kernel))) (λ_ _ _ _=>xt0) (λ_ _ _ _=>xe λ_=>(Uw (Zv (Yo hu (Zb 1) (Zb 2)) (Zv (Zb 0) Yn))))))))) (Zg (Yf 9 Jd.nd (Z8 Vx9 (hr.mono (by decide)) T.m_9 T.k_9 Wx9 (Zk (Zb 6) Ya))) (Zg (Yf 10 Jd.nd (Yo hu (Zb 9) Zp)) (Zg (Tl (PW.pt (Zie (Ze0 (Rt hv (G2 rfl (Wl (N':=["_law_one","_law_pool",".acc"]) (src:=[.own,.cap 10,.acc]) (by rfl) (by rfl) (by rfl) (by rfl) (by rfl) (by rfl)) (Cj 2 (by rfl) (by rfl)) (by decide) (Ua (Zb 9)) (λ_ _ _ _=>xg λ_=>(Z1 0 (show(["_law_one","_law_pool",".acc"]:List Str).Nodup by decide+kernel))) (λ_ _ _ _=>xt λ_=>(Rt hv (Zb 0) (Zb 1))) (λ_ _ _ _=>xe λ_=>(Zb 0))) (Qo Yn))) (Zd6 (Zkr (Zd7 (Z8 Vx16 (hr.mono (by decide)) T.m_16 T.k_16 Wx16 (Zk (Zb 10) (Zk (Zb 7) Ya)))))))) (Zu (Wu L7)) J2) (Zg (Tl (Ze0 (Rt hv (Zb 6) (G2 rfl (Wl (N':=["_law_k","_law_rules_here","_law_books","_law_shelves_here",".acc"]) (src:=[.own,.cap 4,.cap 1,.cap 5,.acc]) (by rfl) (by rfl) (by rfl) (by rfl) (by rfl) (by rfl)) (Cj 4 (by rfl) (by rfl)) (by decide) (Gs T.z_range Zp) (λ_ _ _ _=>xg λ_=>(Z1 0 (show(["_law_k","_law_rules_here","_law_books","_law_shelves_here",".acc"]:List Str).Nodup by decide+kernel))) (λ_ _ _ _=>xt0) (λ_ _ _ _=>xe λ_=>(Z8 Vx15 (hr.mono (by decide)) T.m_15 T.k_15 Wx15 (Zk (Yo hu (Zb 2) (Zb 0)) (Zk (Yo hu (Zb 3) (Zb 0)) (Zk (Zb 1) Ya)))))))) (Zu (Wu L7)) J2) (Zg (Wx cw rfl (Ua (Zb 6)) (Z1 11 Jd.nd) (Zu (Tl (PW.pt (Zie (Rt hv (Z8 Vx8 (hr.mono (by decide)) T.m_8 T.k_8 Wx8 (Zk (Zb 10) (Zk (Zb 11) Ya))) (Zb 10)) (Zie (Rt hv (Z8 Vx8 (hr.mono (by decide)) T.m_8 T.k_8 Wx8 (Zk (Zb 11) (Zk (Zb 10) Ya))) (Zb 10)) (Zd6 (Zkr (Zd7 (Z8 Vx17 (hr.mono (by decide)) T.m_17 T.k_17 Wx17 (Zk (Zb 11) (Zk (Zb 10) Ya))))))))) (Zu (Wu L7)) J2))) (Zu (Wu (Zqu (Dh hv (Z8 Vx8 (hr.mono (by decide)) T.m_8 T.k_8 Wx8 (Zk (Zb 10) (Zk (Zb 10) Ya))) (Zb 10)) (Zqt (Dh hv (Zb 10) (Nn hv T.z_sorted (Zb 10)))))))))))))))))))))
end
theorem Zof{l:PySem.W.OpenLaw}{K}(X:K.In h)(G:h.Ns b7 mg)(hfa:mg "law"=aA (.ref fa))(ax0:cr K b7 "_law_names"=aA (aA (.ref fx0)))(Fx0:∃fd,Fun K "_law_names" "_law_names" Bv fx0 fd)(kx0:bu K (.ref fx0)=aC)(ax1:cr K b7 "_law_numbers"=aA (aA (.ref fx1)))(Fx1:∃fd,Fun K "_law_numbers" "_law_numbers" Uy fx1 fd)(kx1:bu K (.ref fx1)=aC)(ax2:cr K b7 "_law_rules"=aA (aA (.ref fx2)))(Fx2:∃fd,Fun K "_law_rules" "_law_rules" Bw fx2 fd)(kx2:bu K (.ref fx2)=aC)(ax3:cr K b7 "_law_shelves"=aA (aA (.ref fx3)))(Fx3:∃fd,Fun K "_law_shelves" "_law_shelves" Uz fx3 fd)(kx3:bu K (.ref fx3)=aC)(ax4:cr K b7 "holders_of"=aA (aA (.ref fx4)))(Fx4:∃fd,Fun K "holders_of" "holders_of" Ox fx4 fd)(kx4:bu K (.ref fx4)=aC)(ax5:cr K b7 "tied"=aA (aA (.ref fx5)))(Fx5:∃fd,Fun K "tied" "tied" N3 fx5 fd)(kx5:bu K (.ref fx5)=aC)(ax6:cr K b7 "join_heaps"=aA (aA (.ref fx6)))(Fx6:∃fd,Fun K "join_heaps" "join_heaps" Oy fx6 fd)(kx6:bu K (.ref fx6)=aC)(ax7:cr K b7 "joined"=aA (aA (.ref fx7)))(Fx7:∃fd,Fun K "joined" "joined" Mz fx7 fd)(kx7:bu K (.ref fx7)=aC)(ax8:cr K b7 "pour"=aA (aA (.ref fx8)))(Fx8:∃fd,Fun K "pour" "pour" N4 fx8 fd)(kx8:bu K (.ref fx8)=aC)(ax9:cr K b7 "_law_all"=aA (aA (.ref fx9)))(Fx9:∃fd,Fun K "_law_all" "_law_all" Rc fx9 fd)(kx9:bu K (.ref fx9)=aC)(ax10:cr K b7 "_law_mixed"=aA (aA (.ref fx10)))(Fx10:∃fd,Fun K "_law_mixed" "_law_mixed" Bx fx10 fd)(kx10:bu K (.ref fx10)=aC)(ax11:cr K b7 "_law_cell_at"=aA (aA (.ref fx11)))(Fx11:∃fd,Fun K "_law_cell_at" "_law_cell_at" U0 fx11 fd)(kx11:bu K (.ref fx11)=aC)(ax12:cr K b7 "own_texts"=aA (aA (.ref fx12)))(Fx12:∃fd,Fun K "own_texts" "own_texts" Bz fx12 fd)(kx12:bu K (.ref fx12)=aC)(ax13:cr K b7 "marks_of"=aA (aA (.ref fx13)))(Fx13:∃fd,Fun K "marks_of" "marks_of" Cs fx13 fd)(kx13:bu K (.ref fx13)=aC)(ax14:cr K b7 "lone_heap"=aA (aA (.ref fx14)))(Fx14:∃fd,Fun K "lone_heap" "lone_heap" B0 fx14 fd)(kx14:bu K (.ref fx14)=aC)(ax15:cr K b7 "pool_of"=aA (aA (.ref fx15)))(Fx15:∃fd,Fun K "pool_of" "pool_of" Re fx15 fd)(kx15:bu K (.ref fx15)=aC)(ax16:cr K b7 "_law_apart"=aA (aA (.ref fx16)))(Fx16:∃fd,Fun K "_law_apart" "_law_apart" B2 fx16 fd)(kx16:bu K (.ref fx16)=aC)(ax17:cr K b7 "_law_within"=aA (aA (.ref fx17)))(Fx17:∃fd,Fun K "_law_within" "_law_within" Oz fx17 fd)(kx17:bu K (.ref fx17)=aC)(ax18:cr K b7 "law"=aA (aA (.ref fx18)))(lx18:K.lookup fx18=aA ⟨ocx18,odx18,.func (PySem.W.fnOf "law" "law" (Bl B3) (Uc B3) (Zx B3) .none kVx18 dcx18 pmx18 anx18 cdx18 ctx18),slx18⟩)(cx18:PySem.W.codeIn K cdx18 "law"=aC)(kx18:bu K (.ref fx18)=aC)(zall:cr K b7 "all"=aA aB)(zdict:cr K b7 "dict"=aA aB)(zenumerate:cr K b7 "enumerate"=aA aB)(zint:cr K b7 "int"=aA aB)(zlen:cr K b7 "len"=aA aB)(zlist:cr K b7 "list"=aA aB)(zrange:cr K b7 "range"=aA aB)(zset:cr K b7 "set"=aA aB)(zsorted:cr K b7 "sorted"=aA aB)(zstr:cr K b7 "str"=aA aB)(ztuple:cr K b7 "tuple"=aA aB)
  :∃fd,(∀s v,BindsTo s fd ⟨[v],[]⟩ [("_law_script",v)])/\∀base,K.In base->base.Ns b7 mg->FnOk l.prog w K mg base Ud 5 fa fd ["_law_script"] (Y1 K 1 Mc):=by
 have e:=hfa.symm.trans (dw X G ax18);cases e;have T:Txt K mg fx0 fx1 fx2 fx3 fx4 fx5 fx6 fx7 fx8 fx9 fx10 fx11 fx12 fx13 fx14 fx15 fx16 fx17 _:=⟨gr X G zall,gr X G zdict,gr X G zenumerate,gr X G zint,gr X G zlen,gr X G zlist,gr X G zrange,gr X G zset,gr X G zsorted,gr X G zstr,gr X G ztuple,dw X G ax0,kx0,dw X G ax1,kx1,dw X G ax2,kx2,dw X G ax3,kx3,dw X G ax4,kx4,dw X G ax5,kx5,dw X G ax6,kx6,dw X G ax7,kx7,dw X G ax8,kx8,dw X G ax9,kx9,dw X G ax10,kx10,dw X G ax11,kx11,dw X G ax12,kx12,dw X G ax13,kx13,dw X G ax14,kx14,dw X G ax15,kx15,dw X G ax16,kx16,dw X G ax17,kx17,dw X G ax18,kx18⟩
 obtain⟨_,Fx0⟩:=Fx0;obtain⟨_,Fx1⟩:=Fx1;obtain⟨_,Fx2⟩:=Fx2;obtain⟨_,Fx3⟩:=Fx3;obtain⟨_,Fx4⟩:=Fx4;obtain⟨_,Fx5⟩:=Fx5;obtain⟨_,Fx6⟩:=Fx6;obtain⟨_,Fx7⟩:=Fx7;obtain⟨_,Fx8⟩:=Fx8;obtain⟨_,Fx9⟩:=Fx9;obtain⟨_,Fx10⟩:=Fx10;obtain⟨_,Fx11⟩:=Fx11;obtain⟨_,Fx12⟩:=Fx12;obtain⟨_,Fx13⟩:=Fx13;obtain⟨_,Fx14⟩:=Fx14;obtain⟨_,Fx15⟩:=Fx15;obtain⟨_,Fx16⟩:=Fx16;obtain⟨_,Fx17⟩:=Fx17;have Fx18:=Wq (st:=B3) lx18 cx18 kx18;have bx0:=Fx0.binds (ps:=["_law_number","_law_many"]) λ_ _ _ _ _ _ us hl=>of2 (λ_ _=>rfl) us hl;have bx1:=Fx1.binds (ps:=["_law_cell","_law_many"]) λ_ _ _ _ _ _ us hl=>of2 (λ_ _=>rfl) us hl;have bx2:=Fx2.binds (ps:=["_law_fields","_law_cell"]) λ_ _ _ _ _ _ us hl=>of2 (λ_ _=>rfl) us hl;have bx3:=Fx3.binds (ps:=["_law_keys","_law_fields","_law_cells","_law_wide"]) λ_ _ _ _ _ _ us hl=>of4 (λ_ _ _ _=>rfl) us hl;have bx4:=Fx4.binds (ps:=["heaps"]) λ_ _ _ _ _ _ us hl=>of1 (λ_=>rfl) us hl;have bx5:=Fx5.binds (ps:=["heaps","holders","place"]) λ_ _ _ _ _ _ us hl=>of3 (λ_ _ _=>rfl) us hl;have bx6:=Fx6.binds (ps:=["heaps"]) λ_ _ _ _ _ _ us hl=>of1 (λ_=>rfl) us hl;have bx7:=Fx7.binds (ps:=["heaps"]) λ_ _ _ _ _ _ us hl=>of1 (λ_=>rfl) us hl;have bx8:=Fx8.binds (ps:=["one","other"]) λ_ _ _ _ _ _ us hl=>of2 (λ_ _=>rfl) us hl;have bx9:=Fx9.binds (ps:=["_law_pools"]) λ_ _ _ _ _ _ us hl=>of1 (λ_=>rfl) us hl;have bx10:=Fx10.binds (ps:=["_law_cell","_law_by"]) λ_ _ _ _ _ _ us hl=>of2 (λ_ _=>rfl) us hl;have bx11:=Fx11.binds (ps:=["_law_script","_law_k"]) λ_ _ _ _ _ _ us hl=>of2 (λ_ _=>rfl) us hl;have bx12:=Fx12.binds (ps:=["work"]) λ_ _ _ _ _ _ us hl=>of1 (λ_=>rfl) us hl;have bx13:=Fx13.binds (ps:=["texts","rules"]) λ_ _ _ _ _ _ us hl=>of2 (λ_ _=>rfl) us hl;have bx14:=Fx14.binds (ps:=["name","work","rules"]) λ_ _ _ _ _ _ us hl=>of3 (λ_ _ _=>rfl) us hl;have bx15:=Fx15.binds (ps:=["book","shelf","rules"]) λ_ _ _ _ _ _ us hl=>of3 (λ_ _ _=>rfl) us hl;have bx16:=Fx16.binds (ps:=["_law_pool","_law_names_here"]) λ_ _ _ _ _ _ us hl=>of2 (λ_ _=>rfl) us hl;have bx17:=Fx17.binds (ps:=["_law_part","_law_pool"]) λ_ _ _ _ _ _ us hl=>of2 (λ_ _=>rfl) us hl;refine⟨PySem.W.fnOf "law" "law" (Bl B3) (Uc B3) (Zx B3) .none kVx18 dcx18 pmx18 anx18 cdx18 ctx18,λs v=>.of_eq rfl,λbase kb nb=>?_⟩;have Gx0:=N7 (P:=l.prog) (w:=w) (base:=base) T Fx0;have Gx1:=E2 (P:=l.prog) (w:=w) (base:=base) T Fx1;have Gx2:=N8 (P:=l.prog) (w:=w) (base:=base) T Fx2 Gx1 bx1;have Gx3:=E3 (P:=l.prog) (w:=w) (base:=base) T Fx3 Gx1 bx1;have Gx4:=Fc (P:=l.prog) (w:=w) (base:=base) T Fx4;have Gx5:=Zjs (P:=l.prog) (w:=w) (base:=base) T Fx5;have Gx6:=Fd (P:=l.prog) (w:=w) (base:=base) T Fx6;have Gx7:=Zce (P:=l.prog) (w:=w) (base:=base) T Fx7 Gx4 bx4 Gx5 bx5 Gx6 bx6;have Gx8:=Zjt (P:=l.prog) (w:=w) (base:=base) T Fx8 Gx7 bx7;have Gx9:=Hh (P:=l.prog) (w:=w) (base:=base) T Fx9 Gx8 bx8;have Gx10:=N9 (P:=l.prog) (w:=w) (base:=base) T Fx10;have Gx11:=E4 (P:=l.prog) (w:=w) (base:=base) T Fx11;have Gx12:=Pa (P:=l.prog) (w:=w) (base:=base) T Fx12;have Gx13:=Vd (P:=l.prog) (w:=w) (base:=base) T Fx13;have Gx14:=Pb (P:=l.prog) (w:=w) (base:=base) T Fx14 Gx12 bx12 Gx13 bx13;have Gx15:=Hi (P:=l.prog) (w:=w) (base:=base) T Fx15 Gx7 bx7 Gx14 bx14;have Gx16:=Pc (P:=l.prog) (w:=w) (base:=base) T Fx16;have Gx17:=Fe (P:=l.prog) (w:=w) (base:=base) T Fx17;exact Zoe T Fx18 Gx0 bx0 Gx2 bx2 Gx3 bx3 Gx8 bx8 Gx9 bx9 Gx10 bx10 Gx11 bx11 Gx15 bx15 Gx16 bx16 Gx17 bx17
theorem Zog{K}{ns:List Int}(hn:Mc [.lst (ns.map D.int)]=aA (.fz (.bl aC)))(hO:Zds H)(hS:W5 K H a (ns.map V.int)):Y1 K 1 Mc [.ref a] H (λv _=>v= .bl aC) λ_ _ _=>False:=by refine⟨H,[.lst (ns.map D.int)],.fz (.bl aC),Zi.refl H,.cons (.lst hS (.inr λd hd=>let⟨i,_,e⟩:=ax.mp hd;⟨i,e.symm⟩) (P7 ns)) .nil,rfl,hn,λv H' F' ms _ _ _ _ sh _ _=>?_⟩;cases Jp sh;rfl
theorem Zw4{l:PySem.W.OpenLaw}{K:Params->ad}(hn:l.most=aA 63)(hdf:d.params.defaults=[])(hY:∀w h,YP w h->(K w.params).In h)(F:∀w mg fa h,(K w.params).In h->h.Ns b7 mg->mg d.name=aA (.ref fa)->
   ∃fd,(∀s u,BindsTo s fd ⟨[u],[]⟩ [("_law_script",u)])/\∀base,(K w.params).In base->base.Ns b7 mg->FnOk l.prog w (K w.params) mg base Ud 5 fa fd ["_law_script"] (Y1 (K w.params) 1 Mc))(hlaw:∀ns:List Int,ns.length<=63->Mc [.lst (ns.map D.int)]=aA (.fz (.bl aC))):
  PySem.W.WalkO q loose XP YP l.row.toRowW d [] (λf vs=>PySem.call f vs):=
 L2.Zdu (n:=63) (k:=5) (x:="_law_script") (CX:=Ud) (sp:=λK=>Y1 K 1 Mc) hn (by decide) hdf ⟨rfl,by decide,by decide⟩ hY F (λ_ _ _ ns hl hO hS=>Zog (hlaw ns hl) hO hS) λ_ _ _ _ z=>z
end Gen
namespace My
open DL PySem
noncomputable abbrev Bc:Str:="abcdefghjlmpqrstuvwxyz"
theorem Zgi:Bc.cps.toList.length=22:=by decide+kernel
theorem Ky:Bc.length<=PySem.sizeLine:=by decide+kernel
noncomputable def LC(j:Nat):Nat:=Bc.cps.toList.getD j 0
theorem Zoh:∀i<22,∀j<22,LC i=LC j->i=j:=by decide+kernel
theorem Zoi:∀i<22,LC i≠105/\LC i≠110/\LC i≠111:=by decide+kernel
theorem Zsm(i):L2.atI Bc.cps.toList (i % 22)=aA (LC (i % 22).toNat):=by
 have h0:0<=i % 22:=f9 _ (by decide);have h1:i % 22<22:=d8 _ (by decide);obtain⟨j,hj⟩:=Int.eq_ofNat_of_zero_le h0;rw[hj];have hjl:j<Bc.cps.toList.length:=by rw[Zgi];omega
 refine En _ _ _ ?_;unfold LC;rw[bn,show((j:Int)).toNat=j by omega,av hjl];rfl
def sgn(x:Int)(at':Int)(t:Nat)(k:Nat):Nat:=LC ((x / ((k:Int)+2)+(t:Int)*(if(k:Int)=at' then 1 else 0)) % 22).toNat
def Ph(x at':Int)(size t:Nat):List Nat:=(cq size).map (sgn x at' t)
theorem Zcf(a1 a3 a5 x at')(t k:Nat)(hk:k<=100)(w)(hw:w.length<=1000)(x9):
  ∃y9,Gen.Wf [aA (.fz (.int x)),a1,aA (.fz (.str Bc)),a3,aA (.fz (.int at')),a5,aA (.fz (.int (t:Int))),aA (.fz (.str (S w))),aA (.fz (.int (k:Int))),x9]=aA (.nx [aA (.fz (.int x)),a1,aA (.fz (.str Bc)),a3,aA (.fz (.int at')),a5,aA (.fz (.int (t:Int))),aA (.fz (.str (S (w++[sgn x at' t k])))),aA (.fz (.int (k:Int))),y9]):=by
 have go:∀ki ti:Int,0<=ki->ki<=100->∀b:Int,(b=0\/b=1)->(if ki=at' then(1:Int)else 0)=b->∀ch,L2.atI Bc.cps.toList ((x / (ki+2)+ti*b) % 22)=aA ch->
   Gen.Wf [aA (.fz (.int x)),a1,aA (.fz (.str Bc)),a3,aA (.fz (.int at')),a5,aA (.fz (.int ti)),aA (.fz (.str (S w))),aA (.fz (.int ki)),x9]=aA (.nx [aA (.fz (.int x)),a1,aA (.fz (.str Bc)),a3,aA (.fz (.int at')),a5,aA (.fz (.int ti)),aA (.fz (.str (S (w++[ch])))),aA (.fz (.int ki)),aA (.fz (.int (ti*b)))]):=by
  intro ki ti h0 h1 b hb hif ch hch;have hm:=Xq (i:=ti) (j:=b) (by omega);have d1:0<ki+2:=by omega
  have d2:ki+2<1073741824:=by omega
  have z:(S w).length+(⟨#[ch]⟩:Str).length<=PySem.sizeLine:=Qw (by rw[Zli w];show w.length+1<=_;omega);have ea:S w++(⟨#[ch]⟩:Str)=S (w++[ch]):=Zsh w [ch];by_cases hk:ki=at'
  .rw[if_pos hk]at hif;subst hif;unfold Gen.Wf;simp[hk]at hm hch d1 d2⊢;simp[hm,hch,d1,d2,Ky,z,ea]
  .rw[if_neg hk]at hif;subst hif;unfold Gen.Wf;simp[hk]at hm hch⊢;simp[hm,hch,d1,d2,Ky,z,ea]
 refine⟨_,go (k:Int) (t:Int) (by omega) (by omega) (if(k:Int)=at' then 1 else 0) (by split<;> simp) rfl (sgn x at' t k) (Zsm _)⟩
theorem Zcg(a1 a3 a5 x at')(t size:Nat)(hs:size<=100)(x8 x9):
  ∃y8 y9,Z7 (Zd 8) Gen.Wf (Ce 0 size) [aA (.fz (.int x)),a1,aA (.fz (.str Bc)),a3,aA (.fz (.int at')),a5,aA (.fz (.int (t:Int))),aA (.fz (.str (S []))),x8,x9]=aA (.nx [aA (.fz (.int x)),a1,aA (.fz (.str Bc)),a3,aA (.fz (.int at')),a5,aA (.fz (.int (t:Int))),aA (.fz (.str (S (Ph x at' size t)))),y8,y9]):=by
 obtain⟨δ',e,y8,y9,hy⟩:=Gd (tg:=Zd 8) (body:=Gen.Wf) (P:=λi δ=>∃y8 y9,δ=[aA (.fz (.int x)),a1,aA (.fz (.str Bc)),a3,aA (.fz (.int at')),a5,aA (.fz (.int (t:Int))),aA (.fz (.str (S (Ph x at' i t)))),y8,y9]) size 0 [aA (.fz (.int x)),a1,aA (.fz (.str Bc)),a3,aA (.fz (.int at')),a5,aA (.fz (.int (t:Int))),aA (.fz (.str (S []))),x8,x9] ⟨x8,x9,rfl⟩ (λi _ hi δ ⟨y8,y9,hy⟩=>by
  subst hy;obtain⟨z9,e⟩:=Zcf a1 a3 a5 x at' t i (by omega) (Ph x at' i t) (by unfold Ph;simp;omega) y9;refine⟨[aA (.fz (.int x)),a1,aA (.fz (.str Bc)),a3,aA (.fz (.int at')),a5,aA (.fz (.int (t:Int))),aA (.fz (.str (S (Ph x at' i t)))),aA (.fz (.int (i:Int))),y9],_,by simp,e,aA (.fz (.int (i:Int))),z9,?_⟩;have:Ph x at' (i+1) t=Ph x at' i t++[sgn x at' t i]:=by unfold Ph;rw[List.range_succ,b9];rfl
  rw[this])
 subst hy;rw[Nat.zero_add]at e;exact⟨y8,y9,e⟩
def Qb(x at':Int)(size m:Nat):List Str:=(cq m).map λt=>S (Ph x at' size t)
theorem Hj(a1 x at')(size:Nat)(hs:size<=8)(m)(hm:m<=100):
  ∃δ,Z7 (Zd 6) Gen.Jg (Ce 0 m) [aA (.fz (.int x)),a1,aA (.fz (.str Bc)),aA (.fz (.int (size:Int))),aA (.fz (.int at')),aA (.ol []),aB,aB,aB,aB]=aA (.nx δ)/\δ[5]? =aA (aA (.ol ((Qb x at' size m).map D.str))):=by
 obtain⟨δ',e,y6,y7,y8,y9,hy⟩:=Gd (tg:=Zd 6) (body:=Gen.Jg) (P:=λi δ=>∃y6 y7 y8 y9,δ=[aA (.fz (.int x)),a1,aA (.fz (.str Bc)),aA (.fz (.int (size:Int))),aA (.fz (.int at')),aA (.ol ((Qb x at' size i).map D.str)),y6,y7,y8,y9]) m 0 [aA (.fz (.int x)),a1,aA (.fz (.str Bc)),aA (.fz (.int (size:Int))),aA (.fz (.int at')),aA (.ol []),aB,aB,aB,aB] ⟨aB,aB,aB,aB,rfl⟩ (λi _ hi δ ⟨y6,y7,y8,y9,hy⟩=>by
  subst hy;obtain⟨z8,z9,e⟩:=Zcg a1 (aA (.fz (.int (size:Int)))) (aA (.ol ((Qb x at' size i).map D.str))) x at' i size (by omega) y8 y9;have g1:Mi (size:Int):=Uv (by omega);have et:((size:Int)).toNat=size:=by omega
  have z:(Qb x at' size i).length<PySem.sizeLine:=Yd (by unfold Qb;simp;omega);have he:Str.ofString ""=S []:=rfl;have hr:Qb x at' size (i+1)=Qb x at' size i++[S (Ph x at' size i)]:=by unfold Qb;rw[List.range_succ,b9];rfl
  refine⟨[aA (.fz (.int x)),a1,aA (.fz (.str Bc)),aA (.fz (.int (size:Int))),aA (.fz (.int at')),aA (.ol ((Qb x at' size i).map D.str)),aA (.fz (.int (i:Int))),y7,y8,y9],[aA (.fz (.int x)),a1,aA (.fz (.str Bc)),aA (.fz (.int (size:Int))),aA (.fz (.int at')),aA (.ol ((Qb x at' size (i+1)).map D.str)),aA (.fz (.int (i:Int))),aA (.fz (.str (S (Ph x at' size i)))),z8,z9],by simp,?_,_,_,_,_,rfl⟩;rw[hr];generalize Qb x at' size i=NL at*;unfold Gen.Jg;simp[-Z7,he,g1,et,Qp,e,z])
 subst hy;rw[Nat.zero_add]at e;exact⟨_,e,rfl⟩
structure Nam(w:Str):Prop where
 one:1<=w.length
 most:w.length<=8
 no:∀c∈w.cps.toList,c≠105/\c≠110/\c≠111
theorem E5(x)(h0:0<=x)(m:Nat)(hm:m<=20):∃ws:List Str,Gen.Yx [.int x,.int (m:Int)]=aA (.ol (ws.map D.str))/\ws.length=m/\ws.Nodup/\∀w∈ws,Nam w:=by
 have s0:0<=x % 8:=f9 _ (by decide);have s1:x % 8<8:=d8 _ (by decide);obtain⟨size,hs⟩:∃n:Nat,(n:Int)=1+x % 8:=⟨(1+x % 8).toNat,by omega⟩
 have hs1:1<=size:=by omega
 have hs8:size<=8:=by omega
 have p0:(0:Int)<(size:Int):=by omega
 have a0:0<=x / 8 % (size:Int):=f9 _ (by omega);have a1:x / 8 % (size:Int)<(size:Int):=d8 _ p0;generalize hat:x / 8 % (size:Int)=at' at a0 a1;obtain⟨δ,e,hδ⟩:=Hj (aA (.fz (.int (m:Int)))) x at' size hs8 m (by omega);have g1:Mi (m:Int):=Uv (by omega);have et:((m:Int)).toNat=m:=by omega
 refine⟨Qb x at' size m,?_,by unfold Qb;simp,?_,λw hw=>?_⟩
 .generalize Qb x at' size m=NL at hδ;unfold Gen.Yx Gen.Cu;have hs0:0<size:=by omega
  simp[-Z7,<-hs,p0,hs0,hat,g1,et,Qp,e,hδ]
 .unfold Qb;refine List.Pairwise.map _ (R:=λa b=>a≠b/\a<m/\b<m) (λa b h=>?_) ?_
  .intro z;obtain⟨hne,ha,hb⟩:=h;have hl:=Zsi z;obtain⟨k,hk⟩:=Int.eq_ofNat_of_zero_le a0;have hks:k<size:=by omega
   have e1:(Ph x at' size a)[k]? =aA (sgn x at' a k):=by unfold Ph;rw[az,List.getElem?_range hks];rfl
   have e2:(Ph x at' size b)[k]? =aA (sgn x at' b k):=by unfold Ph;rw[az,List.getElem?_range hks];rfl
   rw[hl,e2]at e1;have e3:=cz.inj e1;unfold sgn at e3;rw[if_pos hk.symm]at e3;have q:=λy:Int=>(f9 y (show(22:Int)≠0 by decide))
   have q':=λy:Int=>(d8 y (show(0:Int)<22 by decide))
   have r1:=q (x / ((k:Int)+2)+(a:Int)*1);have r2:=q' (x / ((k:Int)+2)+(a:Int)*1);have r3:=q (x / ((k:Int)+2)+(b:Int)*1);have r4:=q' (x / ((k:Int)+2)+(b:Int)*1);have e4:=Zoh _ (by omega) _ (by omega) e3;generalize x / ((k:Int)+2)=y at*;omega
  .have nd:(cq m).Pairwise (λa b=>a<b):=List.pairwise_lt_range;refine(gz.mp nd).imp fun{a b} h=>?_;exact⟨cf h.2.2,cu.mp h.1,cu.mp h.2.1⟩
 .unfold Qb at hw;obtain⟨t,_,rfl⟩:=ax.mp hw;have hl:(S (Ph x at' size t)).length=size:=by rw[Zli];unfold Ph;simp
  refine⟨by rw[hl];exact hs1,by rw[hl];exact hs8,λc hc=>?_⟩;rw[Zn7]at hc;unfold Ph at hc;obtain⟨k,_,rfl⟩:=ax.mp hc;have r1:=f9 (x / ((k:Int)+2)+(t:Int)*(if(k:Int)=at' then 1 else 0)) (show(22:Int)≠0 by decide);have r2:=d8 (x / ((k:Int)+2)+(t:Int)*(if(k:Int)=at' then 1 else 0)) (show(0:Int)<22 by decide);exact Zoi _ (by omega)
theorem Zgj(c b):Gen.Wo [.int c,.int b]=aA (.fz (.int (c % 2147483647*b % 2147483647))):=by have h1:0<=c % 2147483647:=f9 _ (by decide);have h2:c % 2147483647<2147483647:=d8 _ (by decide);have hm:=Xr (i:=c % 2147483647) (j:=b) (by omega);unfold Gen.Wo Gen.Cy;simp[hm]
theorem Gg(ns:List Int)(k:Nat):∃c,Gen.Zq [.lst (ns.map D.int),.int (k:Int)]=aA (.fz (.int c)):=by
 by_cases h:k<ns.length
 .have a:L2.atI (ns.map D.int) (k:Int)=aA (.int ns[k]):=En _ _ _ (by rw[az,av h];rfl);refine⟨ns[k],?_⟩;have h':(k:Int)<(ns.length:Int):=by omega
  unfold Gen.Zq Gen.Jk;simp[h',h,a]
 .refine⟨0,?_⟩;have h':¬(k:Int)<(ns.length:Int):=by omega
  unfold Gen.Zq Gen.Jk;simp[h',h]
theorem Pd(c b:Int):0<=c % 2147483647*b % 2147483647:=f9 _ (by decide)
end My
namespace My
open DL PySem TT
theorem jz1:1<=PySem.sizeLine:=by decide
theorem jz2:2<=PySem.sizeLine:=by decide
theorem jz3:3<=PySem.sizeLine:=by decide
noncomputable abbrev Vv:=List (List Nat)
noncomputable abbrev W4(l:List Nat):List D:=l.map λp:Nat=>.int (p:Int)
def Ff(ks:List NK)(pl:Vv)(t:NK)(p:Nat):List NK×Vv:=match Y8 ks t with
 |some q=>(ks,pl.set q (pl.getD q []++[p]))
 |none=>(ks++[t],pl++[[p]])
theorem Oj:∀{ks:List NK} {k:NK} {q:Nat},Y8 ks k=aA q->ks[q]? =aA k
 |a::ks,k,q,h=>by
  have h:(if a=k then aA 0 else(Y8 ks k).map (· +1))=aA q:=h;by_cases e:a=k
  .rw[if_pos e]at h;cases h;rw[e];rfl
  .rw[if_neg e]at h;obtain⟨r,hr,e2⟩:=cm.mp h;subst e2;show ks[r]? =aA k;exact Oj hr
theorem Ol:∀{ks:List NK} {k:NK},Y8 ks k=aB->k∉ks
 | [],k,_=>λz=>nomatch z
 |a::ks,k,h=>by
  have h:(if a=k then aA 0 else(Y8 ks k).map (· +1))=aB:=h;by_cases e:a=k
  .rw[if_pos e]at h;cases h
  .rw[if_neg e]at h;have:=Ol (Option.map_eq_none_iff.mp h);intro z;rcases bx.mp z with z|z
   .exact e z.symm
   .exact this z
structure Hold(R:NK->Nat->Prop)(B:Nat)(ks:List NK)(pl:Vv):Prop where
 nd:ks.Nodup
 len:ks.length=pl.length
 has:∀(t:NK) (p:Nat),(∃(q:Nat) (l:List Nat),ks[q]? =aA t/\pl[q]? =aA l/\p∈l)↔R t p
 few:ks.length<=B
 each:∀l∈pl,l.length<=B
theorem Hold.add(h:Hold R B ks pl)(t p):Hold (λu q=>R u q\/(u=t/\q=p)) (B+1) (Ff ks pl t p).1 (Ff ks pl t p).2:=by
 unfold Ff;cases e:Y8 ks t with
 |some q=>
  have hq:=Oj e;have hql:q<ks.length:=by rcases dv q ks.length with z|z;exact z;rw[dy z]at hq;cases hq
  have hqp:q<pl.length:=by rw[<-h.len];exact hql
  have eg:pl.getD q []=pl[q]:=by rw[bn,av hqp];rfl
  refine⟨h.nd,by rw[List.length_set];exact h.len,λu r=>?_,Nat.le_succ_of_le h.few,λl hl=>?_⟩
  .rw[<-h.has u r];constructor
   .rintro⟨i,l,h1,h2,h3⟩;by_cases hi:i=q
    .subst hi;have eu:u=t:=by rw[hq]at h1;exact(cz.inj h1).symm
     rw[d5 hqp]at h2;have el:=cz.inj h2;rw[<-el]at h3;rcases bz.mp h3 with z|z
     .rw[eg]at z;exact .inl ⟨i,pl[i],h1,av hqp,z⟩
     .exact .inr ⟨eu,ar.mp z⟩
    .rw[fj (λz=>hi z.symm)]at h2;exact .inl ⟨i,l,h1,h2,h3⟩
   .rintro(⟨i,l,h1,h2,h3⟩|⟨rfl,rfl⟩)
    .by_cases hi:i=q
     .subst hi;refine⟨i,pl.getD i []++[p],h1,d5 hqp,bj _ ?_⟩;rw[eg];rw[av hqp]at h2;rw[cz.inj h2];exact h3
     .exact⟨i,l,h1,by rw[fj (λz=>hi z.symm)];exact h2,h3⟩
    .exact⟨q,_,hq,d5 hqp,bh _ af⟩
  .rcases List.mem_or_eq_of_mem_set hl with z|z
   .exact Nat.le_succ_of_le (h.each l z)
   .rw[z,aw,eg];have:=h.each _ (List.getElem_mem hqp);simpa using this
 |none=>
  have hn:=Ol e;refine⟨dq.mpr ⟨h.nd,by simp,λa ha b hb e=>hn (by rw[<-ar.mp hb,<-e];exact ha)⟩,by simp[h.len],λu r=>?_,by have:=h.few;simp;omega,λl hl=>?_⟩
  .rw[<-h.has u r];constructor
   .rintro⟨i,l,h1,h2,h3⟩;rcases dv i ks.length with z|z
    .rw[dg z]at h1;rw[dg (by rw[<-h.len];exact z)]at h2;exact .inl ⟨i,l,h1,h2,h3⟩
    .rw[gh z]at h1;rw[gh (by rw[<-h.len];exact z),<-h.len]at h2;cases ei:i- ks.length with
     |zero=>rw[ei]at h1 h2;cases h1;cases h2;exact .inr ⟨rfl,ar.mp h3⟩
     |succ j=>rw[ei]at h1;cases h1
   .rintro(⟨i,l,h1,h2,h3⟩|⟨rfl,rfl⟩)
    .have z:i<ks.length:=by rcases dv i ks.length with z|z;exact z;rw[dy z]at h1;cases h1
     exact⟨i,l,by rw[dg z];exact h1,by rw[dg (by rw[<-h.len];exact z)];exact h2,h3⟩
    .exact⟨ks.length,[r],by simp,by rw[h.len];simp,af⟩
  .rcases bz.mp hl with z|z
   .exact Nat.le_succ_of_le (h.each l z)
   .rw[ar.mp z];simp
theorem Zch(ks:List NK)(pl)(t:NK)(p:Nat):Tq ks (pl.map W4) t [.int (p:Int)]=((Ff ks pl t p).1,(Ff ks pl t p).2.map W4):=by
 unfold Tq Ff;cases Y8 ks t with
 |some q=>
  dsimp only;rw[List.map_set];have:(pl.map W4).getD q []=W4 (pl.getD q []):=by rw[bn,bn,az];cases pl[q]? <;> rfl
  rw[this];simp[W4]
 |none=>simp[W4]
theorem Za0{ks:List NK}{k:NK}(h1:δ[i]? =aA (aA (.oX ks xss)))(h2:fk δ=aA p)(h3:frz p.1 p.2=aA q)(h4:nk? q.1=aA k)(h5:q.2[i]? =aA (aA (.oX ks xss)))(h6:q.2[j]? =aA (aA (.fz d)))(h7:(ext=aD/\ys=[d])\/(ext=aC/\d= .lst ys))(h8:okX xss ys.length):Th i fk j ext δ=aA (.nx (q.2.set i (aA (.oX (Tq ks xss k ys).1 (Tq ks xss k ys).2)))):=by
 unfold Th;rw[h1];dsimp only;rw[h2];dsimp only[c6];rw[h3];dsimp only[c6];rw[h4];dsimp only[c6];rw[h5,h6];dsimp only;rcases h7 with⟨rfl,rfl⟩|⟨rfl,rfl⟩
 .rw[if_neg (by decide)];dsimp only[c6];rw[if_pos h8]
 .rw[if_pos rfl];dsimp only[c6];rw[if_pos h8]
theorem Zgk(h1:xss.length<=100000)(h2:n<=100000)(h3:∀xs∈xss,xs.length<=100000):okX xss n:=
 ⟨Yd (by omega),Yd (by omega),λxs hx=>Yd (by have:=h3 xs hx;omega)⟩
theorem Hold.ok(h:Hold R B ks pl)(hB:B<=10000)(n)(hn:n<=10000):okX (pl.map W4) n:=
 Zgk (by rw[aq,<-h.len];have:=h.few;omega) (by omega) λxs hx=>by obtain⟨l,hl,rfl⟩:=ax.mp hx;have:=h.each l hl;simp[W4];omega
theorem Hold.imp(h:Hold R B ks pl)(e:∀t p,R t p↔R' t p)(hB:B<=B'):Hold R' B' ks pl:=
 ⟨h.nd,h.len,λt p=>(h.has t p).trans (e t p),dk h.few hB,λl hl=>dk (h.each l hl) hB⟩
theorem Ve(A hd n):∀(ts:List NK) R B ks pl x4,Hold R B ks pl->B+ts.length<=10000->∃ks' pl' y4,Hold (λu q=>R u q\/(u∈ts/\q=n)) (B+ts.length) ks' pl'/\
  Z7 (Zd 4) Gen.U1 (ts.map Zn) [A,aA (.oX ks (pl.map W4)),aA (.fz (.int (n:Int))),hd,x4]=aA (.nx [A,aA (.oX ks' (pl'.map W4)),aA (.fz (.int (n:Int))),hd,y4])
 | [],R,B,ks,pl,x4,h,_=>⟨ks,pl,x4,h.imp (λt p=>by simp) (ba _),by simp⟩
 |t::ts,R,B,ks,pl,x4,h,hz=>by
  rw[bf]at hz;obtain⟨ks',pl',y4,h',ih⟩:=Ve A hd n ts _ (B+1) (Ff ks pl t n).1 (Ff ks pl t n).2 (aA (.fz (Zn t))) (h.add t n) (by omega);refine⟨ks',pl',y4,h'.imp (λu q=>?_) (by rw[bf];omega),?_⟩
  .rw[bx];constructor
   .rintro((z|⟨z1,z2⟩)|⟨z1,z2⟩)
    .exact .inl z
    .exact .inr ⟨.inl z1,z2⟩
    .exact .inr ⟨.inr z1,z2⟩
   .rintro(z|⟨z1|z1,z2⟩)
    .exact .inl (.inl z)
    .exact .inl (.inr ⟨z1,z2⟩)
    .exact .inr ⟨z1,z2⟩
  .have a:Gen.U1 [A,aA (.oX ks (pl.map W4)),aA (.fz (.int (n:Int))),hd,aA (.fz (Zn t))]=aA (.nx [A,aA (.oX (Ff ks pl t n).1 ((Ff ks pl t n).2.map W4)),aA (.fz (.int (n:Int))),hd,aA (.fz (Zn t))]):=by have:=Za0 (δ:=[A,aA (.oX ks (pl.map W4)),aA (.fz (.int (n:Int))),hd,aA (.fz (Zn t))]) (i:=1) (j:=2) (fk:=Za 4) (p:=(.tmp (.fz (Zn t)),[A,aA (.oX ks (pl.map W4)),aA (.fz (.int (n:Int))),hd,aA (.fz (Zn t))])) (q:=(Zn t,[A,aA (.oX ks (pl.map W4)),aA (.fz (.int (n:Int))),hd,aA (.fz (Zn t))])) (d:=.int (n:Int)) (ext:=aD) (ys:=[.int (n:Int)]) rfl rfl rfl (Co t) rfl rfl (.inl ⟨rfl,rfl⟩) (h.ok (by omega) _ (by simp));rw[Zch]at this;exact this
   rw[bc];unfold Z7;rw[show(Zd 4).run (Zn t) [A,aA (.oX ks (pl.map W4)),aA (.fz (.int (n:Int))),hd,x4]=aA [A,aA (.oX ks (pl.map W4)),aA (.fz (.int (n:Int))),hd,aA (.fz (Zn t))]from by simp];dsimp only[c6];rw[a];exact ih
end My
namespace My
open DL PySem TT
def Fg(hs:List HP):Nat:=(hs.map λh=>(Ui h).length).sum
theorem M4(h hs):Fg (h::hs)=(Ui h).length+Fg hs:=by unfold Fg;simp
theorem Zci(A n h R B ks pl x4)(ho:Hold R B ks pl)(hz:B+(Ui h).length<=10000):∃ks' pl' y4,Hold (λu q=>R u q\/(u∈Ui h/\q=n)) (B+(Ui h).length) ks' pl'/\
  Gen.Wy [A,aA (.oX ks (pl.map W4)),aA (.fz (.int (n:Int))),aA (.fz (Z0 h)),x4]=aA (.nx [A,aA (.oX ks' (pl'.map W4)),aA (.fz (.int (n:Int))),aA (.fz (Z0 h)),y4]):=by
 obtain⟨ks',pl',y4,h',e⟩:=Ve A (aA (.fz (Z0 h))) n (Ui h) R B ks pl x4 ho hz;refine⟨ks',pl',y4,h',?_⟩;have zl:(h.ns.map Zn).length+(h.ms.map Zn).length<=PySem.sizeLine:=Qw (by rw[aq,aq];rw[aw]at hz;omega);have at1:∀a b c:D,L2.atI [a,b,c] 1=aA b:=λ_ _ _=>rfl;have at0:∀a b c:D,L2.atI [a,b,c] 0=aA a:=λ_ _ _=>rfl;rw[show(Ui h).map Zn=h.ns.map Zn++h.ms.map Zn from b9]at e;unfold Gen.Wy;unfold Z0 at e⊢;generalize h.ns.map Zn=NS at*;generalize h.ms.map Zn=MS at*;generalize h.fs.map Wm=TS at*;generalize pl.map W4=PL at*;generalize pl'.map W4=PL' at*;simp[at0,at1,zl,e,-Z7]
abbrev Rg(hs:List HP)(t:NK)(p:Nat):Prop:=∃h,hs[p]? =aA h/\t∈Ui h
theorem Kz(A):∀hs pre B ks pl x2 x3 x4,Hold (Rg pre) B ks pl->B+Fg hs<=10000->∃ks' pl' y2 y3 y4,Hold (Rg (pre++hs)) (B+Fg hs) ks' pl'/\
  Z7 (Wj 2 (Zt (Zd 2) (Zt (Zd 3) Wi))) Gen.Wy (((hs.map Z0).zipIdx pre.length).map λp=>D.tup [.int (p.2:Nat),p.1]) [A,aA (.oX ks (pl.map W4)),x2,x3,x4]=aA (.nx [A,aA (.oX ks' (pl'.map W4)),y2,y3,y4])
 | [],pre,B,ks,pl,x2,x3,x4,ho,_=>⟨ks,pl,x2,x3,x4,by rw[List.append_nil];exact ho,by simp⟩
 |h::hs,pre,B,ks,pl,x2,x3,x4,ho,hz=>by
  rw[M4]at hz;obtain⟨ks1,pl1,z4,h1,t⟩:=Zci A pre.length h _ B ks pl x4 ho (by omega);have h2:Hold (Rg (pre++[h])) (B+(Ui h).length) ks1 pl1:=h1.imp (λu p=>by
   constructor
   .rintro(⟨g,e,z⟩|⟨z,rfl⟩)
    .have hp:p<pre.length:=by rcases dv p pre.length with q|q;exact q;rw[dy q]at e;cases e
     exact⟨g,by rw[dg hp];exact e,z⟩
    .exact⟨h,by simp,z⟩
   .rintro⟨g,e,z⟩;rcases dv p pre.length with q|q
    .rw[dg q]at e;exact .inl ⟨g,e,z⟩
    .rw[gh q]at e;cases ei:p- pre.length with
     |zero=>rw[ei]at e;cases e;exact .inr ⟨z,by omega⟩
     |succ j=>rw[ei]at e;cases e) (ba _)
  obtain⟨ks',pl',y2,y3,y4,h',ih⟩:=Kz A hs (pre++[h]) _ ks1 pl1 (aA (.fz (.int (pre.length:Int)))) (aA (.fz (Z0 h))) z4 h2 (by omega);refine⟨ks',pl',y2,y3,y4,?_,?_⟩
  .rw[gn]at h';rw[M4];exact h'.imp (λ_ _=>Iff.rfl) (by omega)
  .rw[bc,List.zipIdx_cons,bc];rw[aw]at ih;unfold Z7;rw[show(Wj 2 (Zt (Zd 2) (Zt (Zd 3) Wi))).run (.tup [.int (pre.length:Nat),Z0 h]) [A,aA (.oX ks (pl.map W4)),x2,x3,x4]=aA [A,aA (.oX ks (pl.map W4)),aA (.fz (.int (pre.length:Int))),aA (.fz (Z0 h)),x4]from by simp];dsimp only[c6];rw[t];exact ih
abbrev Y4(ks:List NK)(pl:Vv):D:=.dX ks ((pl.map W4).map D.lst)
theorem holders_of(hs)(hz:Fg hs<=10000):∃ks pl,Hold (Rg hs) (Fg hs) ks pl/\Gen.Qx [.lst (hs.map Z0)]=aA (.fz (Y4 ks pl)):=by
 have h0:Hold (Rg []) 0 [] []:=⟨df,rfl,λt p=>⟨λ⟨q,l,h,_⟩=>by simp at h,λ⟨h,e,_⟩=>by simp at e⟩,ba _,λl hl=>nomatch hl⟩
 obtain⟨ks,pl,y2,y3,y4,ho,e⟩:=Kz (aA (.fz (.lst (hs.map Z0)))) hs [] 0 [] [] aB aB aB h0 (by omega);refine⟨ks,pl,by simpa using ho,?_⟩;rw[show(((hs.map Z0).zipIdx ([]:List HP).length).map λp=>D.tup [.int (p.2:Nat),p.1])=Js (hs.map Z0)from rfl]at e;have e:Z7 (Wj 2 (Zt (Zd 2) (Zt (Zd 3) Wi))) Gen.Wy (Js (hs.map Z0)) [aA (.fz (.lst (hs.map Z0))),aA (.oX [] []),aB,aB,aB]=_:=e;unfold Gen.Qx Gen.B4 Y4;generalize hs.map Z0=HS at*;generalize pl.map W4=HX at*;simp[e,Ku,-Z7]
theorem Pe:∀{ks:List NK} {vs:List D} {q:Nat} {t:NK} {v:D},ks.Nodup->ks[q]? =aA t->vs[q]? =aA v->look ks vs t=aA v
 | [],vs,q,t,v,_,h,_=>by simp at h
 |k::ks,[],q,t,v,_,_,h=>by simp at h
 |k::ks,u::vs,q,t,v,nd,h1,h2=>by
  obtain⟨n1,n2⟩:=dm.mp nd;show(if k=t then aA u else look ks vs t)=aA v;cases q with
  |zero=>cases h1;cases h2;rw[if_pos rfl]
  |succ q=>have h1:ks[q]? =aA t:=h1;rw[if_neg λe=>n1 (by rw[e];exact b5 h1)];exact Pe n2 h1 h2
theorem Hold.look(h:Hold R B ks pl)(hr:R t p):∃l,DL.look ks ((pl.map W4).map D.lst) t=aA (.lst (W4 l))/\(∀p,p∈l↔R t p)/\l.length<=B:=by
 obtain⟨q,l,h1,h2,h3⟩:=(h.has t p).mpr hr;refine⟨l,Pe h.nd h1 (by rw[az,az,h2];rfl),λp'=>?_,h.each l (b5 h2)⟩;rw[<-h.has t p'];constructor
 .exact λz=>⟨q,l,h1,h2,z⟩
 .rintro⟨q',l',g1,g2,g3⟩;have hq:q<ks.length:=by rcases dv q ks.length with z|z;exact z;rw[dy z]at h1;cases h1
  have:q=q':=(List.getElem?_inj hq h.nd).mp (h1.trans g1.symm);subst this;rw[h2]at g2;rw[cz.inj g2];exact g3
end My
namespace My
open DL PySem TT
abbrev Q5(f:List Nat):List L2.Key:=f.map λp:Nat=>.inl (p:Int)
noncomputable abbrev Q6(f:List Nat):List D:=f.map λ_=>.bl aC
theorem Bd{p:Nat}:(Sum.inl (p:Int):L2.Key)∈Q5 f↔p∈f:=by
 constructor
 .intro z;obtain⟨q,hq,e⟩:=ax.mp z;have e:=Sum.inl.inj e;have:q=p:=by omega
  rw[<-this];exact hq
 .exact λz=>List.mem_map_of_mem (f:=λp:Nat=>(Sum.inl (p:Int):L2.Key)) z
theorem E6:∀{ks:List L2.Key} {vs:List D} {k:L2.Key},k∉ks->look ks vs k=aB
 | [],vs,k,_=>by cases vs<;> rfl
 |a::ks,[],k,_=>rfl
 |a::ks,v::vs,k,h=>by show(if a=k then aA v else look ks vs k)=aB;rw[if_neg λz=>h (by rw[z];exact af),E6 λz=>h (ao _ z)]
theorem M5:∀{ks:List L2.Key} {vs:List D} {k:L2.Key},ks.length=vs.length->k∈ks->∃v,look ks vs k=aA v
 |a::ks,[],k,h,_=>by simp at h
 |a::ks,v::vs,k,h,hk=>by
  by_cases e:a=k
  .exact⟨v,by show(if a=k then aA v else _)=_;rw[if_pos e]⟩
  .obtain⟨w,hw⟩:=M5 (ks:=ks) (vs:=vs) (k:=k) (by simpa using h) (by
    rcases bx.mp hk with z|z
    .exact absurd z.symm e
    .exact z)
   exact⟨w,by show(if a=k then aA v else look ks vs k)=_;rw[if_neg e,hw]⟩
structure TI(n:Nat)(f l:List Nat):Prop where
 nd:f.Nodup
 lt:∀x∈f,x<n
 ld:l.Nodup
 sub:∀x∈l,x∈f
theorem Pf{f:List Nat}(nd:f.Nodup)(lt:∀x∈f,x<n):f.length<=n:=by have:=da nd (l₂:=cq n) λx hx=>cu.mpr (lt x hx);simpa using this
theorem TI.len(h:TI n f l):f.length<=n/\l.length<=n:=⟨Pf h.nd h.lt,Pf h.ld λx hx=>h.lt x (h.sub x hx)⟩
abbrev Rl(HS:List D)(HD:D)(i:Nat)(f l:List Nat)(x5 x6 x7:Option SV):Yk:=[aA (.fz (.lst HS)),aA (.fz HD),aA (.fz (.int (i:Int))),aA (.oK (Q5 f) (Q6 f)),aA (.ol (W4 l)),x5,x6,x7]
theorem Hk(HS HD i n)(hn:n<=1000)(f l)(h:TI n f l)(o:Nat)(x5 x6):
  Gen.U2 (Rl HS HD i f l x5 x6 (aA (.fz (.int (o:Int)))))=aA (.nx (if o∈f then Rl HS HD i f l x5 x6 (aA (.fz (.int (o:Int))))else Rl HS HD i (f++[o]) (l++[o]) x5 x6 (aA (.fz (.int (o:Int)))))):=by
 have z1:(Q6 f).length<PySem.sizeLine:=Yd (by have:=h.len;simp;omega);have z2:(W4 l).length<PySem.sizeLine:=Yd (by have:=h.len;simp[W4];omega);by_cases ho:o∈f
 .rw[if_pos ho];obtain⟨v,lk⟩:=M5 (ks:=Q5 f) (vs:=Q6 f) (k:=.inl (o:Int)) (by simp) (Bd.mpr ho);unfold Gen.U2 Rl;generalize Q5 f=KF at*;generalize Q6 f=VF at*;generalize W4 l=PL at*;simp[lk,-look]
 .rw[if_neg ho];have lk:look (Q5 f) (Q6 f) (.inl (o:Int))=aB:=E6 λz=>ho (Bd.mp z);have p:Wv (Q5 f) (Q6 f) (Sum.inl (o:Int)) (.bl aC)=(Q5 (f++[o]),Q6 (f++[o])):=by unfold Wv;rw[if_neg λz=>ho (Bd.mp z)];simp[Q5,Q6]
  have e:W4 (l++[o])=W4 l++[.int (o:Int)]:=by simp[W4]
  unfold Gen.U2 Rl;rw[e];generalize Q5 (f++[o])=KF' at*;generalize Q6 (f++[o])=VF' at*;generalize Q5 f=KF at*;generalize Q6 f=VF at*;generalize W4 l=PL at*;simp[lk,p,z1,z2,-look,-Wv]
theorem TI.snoc(h:TI n f l)(ho:o∉f)(hn:o<n):TI n (f++[o]) (l++[o]):=by
 refine⟨dq.mpr ⟨h.nd,by simp,λa ha b hb e=>ho (by rw[<-ar.mp hb,<-e];exact ha)⟩,λx hx=>?_,dq.mpr ⟨h.ld,by simp,λa ha b hb e=>ho (by rw[<-ar.mp hb,<-e];exact h.sub a ha)⟩,λx hx=>?_⟩
 .rcases bz.mp hx with z|z
  .exact h.lt x z
  .rw[ar.mp z];exact hn
 .rcases bz.mp hx with z|z
  .exact bj _ (h.sub x z)
  .exact bh _ z
structure Grew(X:Nat->Prop)(f l f' l':List Nat):Prop where
 gf:∀x,x∈f'↔x∈f\/X x
 gl:∀x,x∈l'↔x∈l\/(X x/\x∉f)
 len:f'.length+l.length=f.length+l'.length
theorem Grew.imp(g:Grew X f l f' l')(e:∀x,X x↔Y x):Grew Y f l f' l':=⟨λx=>by rw[g.gf,e],λx=>by rw[g.gl,e],g.len⟩
theorem Grew.trans(g:Grew X f l f1 l1)(h:Grew Y f1 l1 f2 l2):Grew (λx=>X x\/Y x) f l f2 l2:=by
 refine⟨λx=>?_,λx=>?_,by have:=g.len;have:=h.len;omega⟩
 .rw[h.gf,g.gf,or_assoc]
 .rw[h.gl,g.gl,g.gf];constructor
  .rintro((z|⟨z1,z2⟩)|⟨z1,z2⟩)
   .exact .inl z
   .exact .inr ⟨.inl z1,z2⟩
   .exact .inr ⟨.inr z1,λw=>z2 (.inl w)⟩
  .rintro(z|⟨z1|z1,z2⟩)
   .exact .inl (.inl z)
   .exact .inl (.inr ⟨z1,z2⟩)
   .by_cases hx:X x
    .exact .inl (.inr ⟨hx,z2⟩)
    .exact .inr ⟨z1,λw=>w.elim z2 hx⟩
theorem C3(HS HD i n)(hn:n<=1000)(x5 x6):∀os f l x7,TI n f l->(∀o∈os,o<n)->∃f' l' y7,TI n f' l'/\Grew (· ∈os) f l f' l'/\
  Z7 (Zd 7) Gen.U2 (W4 os) (Rl HS HD i f l x5 x6 x7)=aA (.nx (Rl HS HD i f' l' x5 x6 y7))
 | [],f,l,x7,h,_=>⟨f,l,x7,h,⟨λx=>by simp,λx=>by simp,rfl⟩,by simp[W4]⟩
 |o::os,f,l,x7,h,ho=>by
  have t:=Hk HS HD i n hn f l h o x5 x6;have r:(Zd 7).run (.int (o:Int)) (Rl HS HD i f l x5 x6 x7)=aA (Rl HS HD i f l x5 x6 (aA (.fz (.int (o:Int))))):=by simp[Rl]
  by_cases hf:o∈f
  .rw[if_pos hf]at t;obtain⟨f',l',y7,h',g,ih⟩:=C3 HS HD i n hn x5 x6 os f l (aA (.fz (.int (o:Int)))) h λx hx=>ho x (ao _ hx);refine⟨f',l',y7,h',⟨λx=>?_,λx=>?_,g.len⟩,?_⟩
   .rw[g.gf,bx];exact⟨λz=>z.elim .inl λz=>.inr (.inr z),λz=>z.elim .inl λz=>z.elim (λz=>.inl (by rw[z];exact hf)) .inr⟩
   .rw[g.gl,bx];exact⟨λz=>z.elim .inl λz=>.inr ⟨.inr z.1,z.2⟩,λz=>z.elim .inl λz=>z.1.elim (λw=>absurd (by rw[w];exact hf) z.2) λw=>.inr ⟨w,z.2⟩⟩
   .show Z7 (Zd 7) Gen.U2 (.int (o:Int)::W4 os) _=_;unfold Z7;rw[r];dsimp only[c6];rw[t];exact ih
  .rw[if_neg hf]at t;obtain⟨f',l',y7,h',g,ih⟩:=C3 HS HD i n hn x5 x6 os (f++[o]) (l++[o]) (aA (.fz (.int (o:Int)))) (h.snoc hf (ho o af)) λx hx=>ho x (ao _ hx);have g0:Grew (· =o) f l (f++[o]) (l++[o]):=⟨λx=>by simp,λx=>by
    rw[bz,ar];exact⟨λz=>z.elim .inl λz=>.inr ⟨z,by rw[z];exact hf⟩,λz=>z.elim .inl λz=>.inr z.1⟩,by simp;omega⟩
   refine⟨f',l',y7,h',(g0.trans g).imp λx=>by rw[bx],?_⟩;show Z7 (Zd 7) Gen.U2 (.int (o:Int)::W4 os) _=_;unfold Z7;rw[r];dsimp only[c6];rw[t];exact ih
theorem Zgl(hs ks pl B)(ho:Hold (Rg hs) B ks pl)(i n)(hn:n<=1000)(hl:hs.length=n)(f l)(h:TI n f l)(t j)(ht:Rg hs t j)(x5 x7):∃f' l' y7,TI n f' l'/\Grew (Rg hs t) f l f' l'/\
  Gen.R8 (Rl (hs.map Z0) (Y4 ks pl) i f l x5 (aA (.fz (Zn t))) x7)=aA (.nx (Rl (hs.map Z0) (Y4 ks pl) i f' l' x5 (aA (.fz (Zn t))) y7)):=by
 obtain⟨os,lk,hm,_⟩:=ho.look ht;obtain⟨f',l',y7,h',g,e⟩:=C3 (hs.map Z0) (Y4 ks pl) i n hn x5 (aA (.fz (Zn t))) os f l x7 h λo hoo=>by
  obtain⟨g,eg,_⟩:=(hm o).mp hoo;rw[<-hl];rcases dv o hs.length with z|z
  .exact z
  .rw[dy z]at eg;cases eg
 refine⟨f',l',y7,h',g.imp hm,?_⟩;have nk:=Co t;unfold Gen.R8;unfold Rl Y4 at e⊢;generalize hs.map Z0=HS at*;generalize (pl.map W4).map D.lst=HX at*;generalize Zn t=T at*;generalize W4 os=OS at*;generalize Q5 f'=A1 at*;generalize Q6 f'=A2 at*;generalize W4 l'=A3 at*;generalize Q5 f=A4 at*;generalize Q6 f=A5 at*;generalize W4 l=A6 at*;simp[nk,lk,e,-look,-Z7]
theorem K0(hs ks pl B)(ho:Hold (Rg hs) B ks pl)(i n)(hn:n<=1000)(hl:hs.length=n)(j x5):∀(ts:List NK) f l x6 x7,TI n f l->(∀t∈ts,Rg hs t j)->∃f' l' y6 y7,TI n f' l'/\Grew (λx=>∃t∈ts,Rg hs t x) f l f' l'/\
  Z7 (Zd 6) Gen.R8 (ts.map Zn) (Rl (hs.map Z0) (Y4 ks pl) i f l x5 x6 x7)=aA (.nx (Rl (hs.map Z0) (Y4 ks pl) i f' l' x5 y6 y7))
 | [],f,l,x6,x7,h,_=>⟨f,l,x6,x7,h,⟨λx=>by simp,λx=>by simp,rfl⟩,by simp⟩
 |t::ts,f,l,x6,x7,h,ht=>by
  obtain⟨f1,l1,z7,h1,g1,e1⟩:=Zgl hs ks pl B ho i n hn hl f l h t j (ht t af) x5 x7;obtain⟨f',l',y6,y7,h',g',ih⟩:=K0 hs ks pl B ho i n hn hl j x5 ts f1 l1 (aA (.fz (Zn t))) z7 h1 λu hu=>ht u (ao _ hu);refine⟨f',l',y6,y7,h',(g1.trans g').imp λx=>?_,?_⟩
  .simp only[bx,exists_eq_or_imp]
  .rw[bc];unfold Z7;rw[show(Zd 6).run (Zn t) (Rl (hs.map Z0) (Y4 ks pl) i f l x5 x6 x7)=aA (Rl (hs.map Z0) (Y4 ks pl) i f l x5 (aA (.fz (Zn t))) x7)from by simp[Rl]];dsimp only[c6];rw[e1];exact ih
end My
namespace My
open DL PySem TT
def shI(hs:List HP)(a b:Nat):Prop:=∃t,Rg hs t a/\Rg hs t b
inductive RI(hs:List HP)(i:Nat):Nat->Prop where
 |here:RI hs i i
 |step {a b:Nat}:RI hs i a->shI hs a b->RI hs i b
theorem Zll{hs:List HP}{i:Nat}(e:hs[i]? =aA h):L2.atI (hs.map Z0) (i:Int)=aA (Z0 h):=by
 have hl:i<hs.length:=by rcases dv i hs.length with z|z;exact z;rw[dy z]at e;cases e
 have:L2.ixN hs.length (i:Int)=aA i:=by unfold L2.ixN;simp;omega
 unfold L2.atI;rw[aq,this];show(hs.map Z0)[i]? =_;rw[az,e];rfl
section
variable(hs:List HP)(ks:List NK)(pl:Vv)(B:Nat)(ho:Hold (Rg hs) B ks pl)(i n:Nat)(hn:n<=1000)(hl:hs.length=n)(hB:∀h∈hs,(Ui h).length<=10000)
include ho hn hl hB
theorem Zcj(f l j h)(hj:hs[j]? =aA h)(ti:TI n f (l++[j]))(x5 x6 x7):∃f' l' y5 y6 y7,TI n f' l'/\Grew (shI hs j) f l f' l'/\
  Gen.Cw (Rl (hs.map Z0) (Y4 ks pl) i f (l++[j]) x5 x6 x7)=aA (.nx (Rl (hs.map Z0) (Y4 ks pl) i f' l' y5 y6 y7)):=by
 have ti0:TI n f l:=⟨ti.nd,ti.lt,(dq.mp ti.ld).1,λx hx=>ti.sub x (bj _ hx)⟩
 obtain⟨f',l',y6,y7,h',g,e⟩:=K0 hs ks pl B ho i n hn hl j (aA (.fz (Z0 h))) (Ui h) f l x6 x7 ti0 λt ht=>⟨h,hj,ht⟩
 refine⟨f',l',aA (.fz (Z0 h)),y6,y7,h',g.imp λx=>?_,?_⟩
 .constructor
  .rintro⟨t,ht,hx⟩;exact⟨t,⟨h,hj,ht⟩,hx⟩
  .rintro⟨t,⟨h2,e2,ht⟩,hx⟩;rw[hj]at e2;cases e2;exact⟨t,ht,hx⟩
 .have hz2:(Ui h).length<=10000:=hB h (b5 hj);have zl:(h.ns.map Zn).length+(h.ms.map Zn).length<=PySem.sizeLine:=Qw (by rw[aq,aq];rw[aw]at hz2;omega);have at1:∀a b c:D,L2.atI [a,b,c] 1=aA b:=λ_ _ _=>rfl;have at0:∀a b c:D,L2.atI [a,b,c] 0=aA a:=λ_ _ _=>rfl;have ai:=Zll hj;rw[show(Ui h).map Zn=h.ns.map Zn++h.ms.map Zn from b9]at e;have el:W4 (l++[j])=W4 l++[.int (j:Int)]:=by simp[W4]
  have e1:(W4 l++[D.int (j:Int)])[(W4 l++[D.int (j:Int)]).length- 1]? =aA (.int (j:Int)):=by simp
  have e2:(W4 l++[D.int (j:Int)]).dropLast=W4 l:=List.dropLast_concat;unfold Gen.Cw;unfold Rl at e⊢;rw[el];rw[show Z0 h= .tup [.lst (h.ns.map Zn),.lst (h.ms.map Zn),.lst (h.fs.map Wm)]from rfl]at e ai⊢;generalize hs.map Z0=HS at*;generalize Y4 ks pl=HD at*;generalize h.ns.map Zn=NS at*;generalize h.ms.map Zn=MS at*;generalize h.fs.map Wm=TS at*;generalize Q5 f'=A1 at*;generalize Q6 f'=A2 at*;generalize W4 l'=A3 at*;generalize Q5 f=A4 at*;generalize Q6 f=A5 at*;generalize W4 l=A6 at*;generalize hQ:A6++[D.int (j:Int)]=A7 at*;simp[e1,e2,ai,at0,at1,zl,e,-Z7]
theorem E7:∀m f l x5 x6 x7,TI n f l->2*(n- f.length)+l.length<m->i∈f->(∀a∈f,RI hs i a)->(∀a∈f,a∉l->∀b,shI hs a b->b∈f)->(∀a∈f,a<n)->∃f' y5 y6 y7,TI n f' []/\i∈f'/\(∀a∈f',RI hs i a)/\(∀a∈f',∀b,shI hs a b->b∈f')/\
  Uu Gen.U3 Gen.Cw m (Rl (hs.map Z0) (Y4 ks pl) i f l x5 x6 x7)=aA (.nx (Rl (hs.map Z0) (Y4 ks pl) i f' [] y5 y6 y7))
 |0,f,l,x5,x6,x7,_,hm,_,_,_,_=>absurd hm (dz _)
 |m+1,f,l,x5,x6,x7,ti,hm,hi,hr,hc,hlt=>by
  rcases List.eq_nil_or_concat l with rfl|⟨l0,j,rfl⟩
  .refine⟨f,x5,x6,x7,ti,hi,hr,λa ha=>hc a ha (by simp),?_⟩;have t2:Gen.U3 (Rl (hs.map Z0) (Y4 ks pl) i f [] x5 x6 x7)=aA (aD,Rl (hs.map Z0) (Y4 ks pl) i f [] x5 x6 x7):=by unfold Gen.U3 Rl;simp[W4]
   unfold Uu;rw[t2];rfl
  .rw[List.concat_eq_append]at*;have hjf:j∈f:=ti.sub j (by simp);have hjl:j<hs.length:=by rw[hl];exact hlt j hjf
   have hj:hs[j]? =aA hs[j]:=av hjl;obtain⟨f',l',y5,y6,y7,ti',g,e⟩:=Zcj hs ks pl B ho i n hn hl hB f l0 j hs[j] hj ti x5 x6 x7;have t1:Gen.U3 (Rl (hs.map Z0) (Y4 ks pl) i f (l0++[j]) x5 x6 x7)=aA (aC,Rl (hs.map Z0) (Y4 ks pl) i f (l0++[j]) x5 x6 x7):=by unfold Gen.U3 Rl;simp[W4]
   have hlen:=g.len;have hf':=ti'.len.1;have hff:f.length<=f'.length:=da ti.nd λx hx=>(g.gf x).mpr (.inl hx);have hfn:=ti.len.1;rw[aw]at hm;obtain⟨f2,z5,z6,z7,ti2,a1,a2,a3,a4⟩:=E7 m f' l' y5 y6 y7 ti' (by simp at hm;omega) ((g.gf i).mpr (.inl hi)) (λa ha=>by
     rcases(g.gf a).mp ha with z|z
     .exact hr a z
     .exact .step (hr j hjf) z) (λa ha hal b hab=>by
     by_cases haf:a∈f
     .by_cases haj:a=j
      .rw[haj]at hab;exact(g.gf b).mpr (.inr hab)
      .have:a∉l0++[j]:=λz=>by
        rcases bz.mp z with z|z
        .exact hal ((g.gl a).mpr (.inl z))
        .exact haj (ar.mp z)
       exact(g.gf b).mpr (.inl (hc a haf this b hab))
     .rcases(g.gf a).mp ha with z|z
      .exact absurd z haf
      .exact absurd ((g.gl a).mpr (.inr ⟨z,haf⟩)) hal) (λa ha=>ti'.lt a ha)
   refine⟨f2,z5,z6,z7,ti2,a1,a2,a3,?_⟩;unfold Uu;rw[t1];dsimp only[c6];rw[if_pos rfl,e];exact a4
theorem tied(hi:i<n)(hn2:n<=300):∃f,TI n f []/\i∈f/\(∀a∈f,RI hs i a)/\(∀a∈f,∀b,shI hs a b->b∈f)/\Gen.Ey [.lst (hs.map Z0),Y4 ks pl,.int (i:Int)]=aA (.ol (W4 f)):=by
 have ti:TI n [i] [i]:=⟨by simp,λx hx=>by rw[ar.mp hx];exact hi,by simp,λx hx=>hx⟩
 obtain⟨f,y5,y6,y7,ti',a1,a2,a3,w⟩:=E7 hs ks pl B ho i n hn hl hB 1000 [i] [i] aB aB aB ti (by simp;omega) (by simp) (λa ha=>by rw[ar.mp ha];exact .here) (λa ha hal=>absurd ha hal) (λa ha=>ti.lt a ha);refine⟨f,ti',a1,a2,a3,?_⟩;have ek:(Q5 f).map Rw=W4 f:=by rw[cg];rfl
 unfold Gen.Ey Gen.He;have w:Uu Gen.U3 Gen.Cw Gen.Zod [aA (.fz (.lst (hs.map Z0))),aA (.fz (Y4 ks pl)),aA (.fz (.int (i:Int))),aA (.oK [.inl (i:Int)] [.bl aC]),aA (.ol [.int (i:Int)]),aB,aB,aB]=_:=w;unfold Rl at w;generalize hs.map Z0=HS at*;generalize Y4 ks pl=HD at*;generalize Q5 f=A1 at*;generalize Q6 f=A2 at*;generalize W4 f=A3 at*;simp[w,ek,jz1]
end
end My
namespace My
open DL PySem TT TX
abbrev Y5(t:T0):NK:=.inl [t.1,t.2.1]
def OkK(l:List NK):Prop:=(∀k∈l,Rb k)\/(∀k∈l,isM k)
theorem OkK.one(h:OkK l):Cc l:=h.imp (λh k hk=>h k hk) λh k hk=>h k hk
theorem Pg(h:OkK l):∃out:List NK,out.Pairwise kLt/\∀x,x∈out↔x∈l:=by
 let le:NK->NK->Bool:=λa b=>!decide (Ov b<Ov a);have pm:((Eg l).mergeSort le).Perm (Eg l):=List.mergeSort_perm _ _;have pw:((Eg l).mergeSort le).Pairwise λa b=>le a b=aC:=List.pairwise_mergeSort (le:=le) (λa b c h1 h2=>by
   simp only[le,Bool.not_eq_true',decide_eq_false_iff_not]at*;exact de.mpr (List.le_trans (de.mp h1) (de.mp h2))) (λa b=>by
   simp only[le,Bool.or_eq_true,Bool.not_eq_true',decide_eq_false_iff_not];rcases List.le_total (Ov a) (Ov b)with z|z
   .exact .inl (de.mpr z)
   .exact .inr (de.mpr z)) _
 have nd:((Eg l).mergeSort le).Nodup:=pm.nodup_iff.mpr (Ex l);have mem:∀x,x∈(Eg l).mergeSort le↔x∈l:=λx=>by rw[pm.mem_iff,R6]
 refine⟨_,?_,mem⟩;refine(gz.mp (pw.and nd)).imp fun{a b} ⟨ha,hb,h1,h2⟩=>?_;simp only[le,Bool.not_eq_true',decide_eq_false_iff_not]at h1;by_cases z:Ov a<Ov b
 .exact z
 .exact absurd (Ev (h.one.one ((mem a).mp ha) ((mem b).mp hb)) (List.le_antisymm (de.mp h1) (de.mp z))) h2
open Classical in
def rise(l:List NK):List NK:=if h:∃out:List NK,out.Pairwise kLt/\∀x,x∈out↔x∈l then Classical.choose h else[]
theorem Um(h:OkK l):(rise l).Pairwise kLt/\∀x,x∈rise l↔x∈l:=by unfold rise;rw[dif_pos (Pg h)];exact Classical.choose_spec (Pg h)
theorem E8(h:OkK l)(hl:l.length<64):Cp [.lst (l.map Zn)]=aA (.ol ((rise l).map Zn)):=(Kr l).trans (Zgd h.one hl (λx=>(Um h).2 x) (Um h).1)
def C4(ts:List T0):List T0:=ts.mergeSort λa b=>!decide (Ww b<Ww a)
theorem Jx(ts):(C4 ts).Perm ts:=List.mergeSort_perm _ _
theorem K5(ts):(C4 ts).Pairwise λa b=>¬Ww b<Ww a:=by
 have:=List.pairwise_mergeSort (le:=λa b:T0=>!decide (Ww b<Ww a)) (λa b c h1 h2=>by
   simp only[Bool.not_eq_true',decide_eq_false_iff_not]at*;exact de.mpr (List.le_trans (de.mp h1) (de.mp h2))) (λa b=>by
   simp only[Bool.or_eq_true,Bool.not_eq_true',decide_eq_false_iff_not];rcases List.le_total (Ww a) (Ww b)with z|z
   .exact .inl (de.mpr z)
   .exact .inr (de.mpr z)) ts
 exact this.imp fun{a b} h=>by simpa using h
abbrev Vw:=List (List NK)
abbrev Oa(l:List NK):List D:=l.map Zn
def Fh(ks:List NK)(pl:Vw)(t:NK)(ys:List NK):List NK×Vw:=match Y8 ks t with
 |some q=>(ks,pl.set q (pl.getD q []++ys))
 |none=>(ks++[t],pl++[ys])
structure Tell(S:NK->Prop)(R:NK->NK->Prop)(L:NK->Nat)(B:Nat)(ks:List NK)(pl:Vw):Prop where
 nd:ks.Nodup
 len:ks.length=pl.length
 key:∀t,t∈ks↔S t
 has:∀(q:Nat) (t:NK) (l:List NK),ks[q]? =aA t->pl[q]? =aA l->(∀k,k∈l↔R t k)/\l.length<=L t
 few:ks.length<=B
theorem Tell.imp{S:NK->Prop}(h:Tell S R L B ks pl)(e1:∀t,S t↔S' t)(e2:∀t k,R t k↔R' t k)(e3:∀t,L t<=L' t)(hB:B<=B'):Tell S' R' L' B' ks pl:=
 ⟨h.nd,h.len,λt=>(h.key t).trans (e1 t),λq t l h1 h2=>⟨λk=>((h.has q t l h1 h2).1 k).trans (e2 t k),dk (h.has q t l h1 h2).2 (e3 t)⟩,dk h.few hB⟩
theorem Tell.add{S}(h:Tell S R L B ks pl)(hs:∀t k,R t k->S t)(t ys):Tell (λu=>S u\/u=t) (λu k=>R u k\/(u=t/\k∈ys)) (λu=>L u+if u=t then ys.length else 0) (B+1) (Fh ks pl t ys).1 (Fh ks pl t ys).2:=by
 unfold Fh;cases e:Y8 ks t with
 |some q=>
  have hq:=Oj e;have hql:q<ks.length:=by rcases dv q ks.length with z|z;exact z;rw[dy z]at hq;cases hq
  have hqp:q<pl.length:=by rw[<-h.len];exact hql
  have eg:pl.getD q []=pl[q]:=by rw[bn,av hqp];rfl
  have ht:S t:=(h.key t).mp (b5 hq);refine⟨h.nd,by rw[List.length_set];exact h.len,λu=>?_,λi u l h1 h2=>?_,by have:=h.few;show ks.length<=_;omega⟩
  .rw[h.key];exact⟨.inl,λz=>z.elim id λz=>by rw[z];exact ht⟩
  .by_cases hi:i=q
   .subst hi;have eu:u=t:=by rw[hq]at h1;exact(cz.inj h1).symm
    rw[d5 hqp]at h2;have el:=cz.inj h2;obtain⟨g1,g2⟩:=h.has i u pl[i] h1 (av hqp);refine⟨λk=>?_,?_⟩
    .rw[<-el,bz,eg,g1 k];exact⟨λz=>z.elim .inl λz=>.inr ⟨eu,z⟩,λz=>z.elim .inl λz=>.inr z.2⟩
    .rw[<-el,aw,eg,if_pos eu];omega
   .rw[fj (λz=>hi z.symm)]at h2;obtain⟨g1,g2⟩:=h.has i u l h1 h2;refine⟨λk=>?_,by omega⟩;rw[g1 k];refine⟨.inl,λz=>z.elim id λz=>?_⟩;rw[z.1]at h1;exact absurd ((List.getElem?_inj hql h.nd).mp (hq.trans h1.symm)) λw=>hi w.symm
 |none=>
  have hn:=Ol e;refine⟨dq.mpr ⟨h.nd,by simp,λa ha b hb e=>hn (by rw[<-ar.mp hb,<-e];exact ha)⟩,by simp[h.len],λu=>?_,λi u l h1 h2=>?_,by have:=h.few;simp;omega⟩
  .rw[bz,h.key,ar]
  .rcases dv i ks.length with z|z
   .rw[dg z]at h1;rw[dg (by rw[<-h.len];exact z)]at h2;obtain⟨g1,g2⟩:=h.has i u l h1 h2;refine⟨λk=>?_,by omega⟩;rw[g1 k];exact⟨.inl,λw=>w.elim id λw=>absurd (by rw[<-w.1];exact b5 h1) hn⟩
   .rw[gh z]at h1;rw[gh (by rw[<-h.len];exact z),<-h.len]at h2;cases ei:i- ks.length with
    |zero=>rw[ei]at h1 h2;cases h1;cases h2;refine⟨λk=>⟨λw=>.inr ⟨rfl,w⟩,λw=>w.elim (λw=>absurd ((h.key t).mpr (hs t k w)) hn) λw=>w.2⟩,by rw[if_pos rfl];omega⟩
    |succ j=>rw[ei]at h1;cases h1
theorem Zck(ks:List NK)(pl)(t:NK)(ys):Tq ks (pl.map Oa) t (Oa ys)=((Fh ks pl t ys).1,(Fh ks pl t ys).2.map Oa):=by
 unfold Tq Fh;cases Y8 ks t with
 |some q=>
  dsimp only;rw[List.map_set];have:(pl.map Oa).getD q []=Oa (pl.getD q []):=by rw[bn,bn,az];cases pl[q]? <;> rfl
  rw[this];simp[Oa]
 |none=>simp[Oa]
theorem Tell.ok{S}(h:Tell S R L B ks pl)(hB:B<=10000)(hL:∀t,L t<=10000)(n)(hn:n<=10000):okX (pl.map Oa) n:=
 Zgk (by rw[aq,<-h.len];have:=h.few;omega) (by omega) λxs hx=>by
  obtain⟨l,hl,rfl⟩:=ax.mp hx;obtain⟨q,hq,rfl⟩:=eh hl;have hq2:q<ks.length:=by rw[h.len];exact hq
  have:=(h.has q ks[q] pl[q] (av hq2) (av hq)).2;have:=hL ks[q];simp[Oa];omega
end My
namespace My
open DL PySem TT TX
def Fi(t:NK)(fs:List T0):Nat:=(fs.map λx=>if Y5 x=t then x.2.2.length else 0).sum
def tlG(t:NK)(gs:List HP):Nat:=(gs.map λh=>Fi t h.fs).sum
theorem Be(t x fs):Fi t (x::fs)=(if Y5 x=t then x.2.2.length else 0)+Fi t fs:=by unfold Fi;simp
theorem E9(t h gs):tlG t (h::gs)=Fi t h.fs+tlG t gs:=by unfold tlG;simp
abbrev Vf(A:Option SV)(ns ms:List NK)(ks:List NK)(pl:Vw)(h x5 x6 x7 x8:Option SV):Yk:=[A,aA (.ol (Oa ns)),aA (.ol (Oa ms)),aA (.oX ks (pl.map Oa)),h,x5,x6,x7,x8]
theorem K6(A h x8 ns ms):∀fs S R L B ks pl x5 x6 x7,Tell S R L B ks pl->(∀t k,R t k->S t)->B+fs.length<=10000->(∀t,L t+Fi t fs<=10000)->(∀x∈fs,x.2.2.length<=10000)->∃ks' pl' y5 y6 y7,Tell (λt=>S t\/∃x∈fs,t=Y5 x) (λt k=>R t k\/∃x∈fs,t=Y5 x/\k∈x.2.2) (λt=>L t+Fi t fs) (B+fs.length) ks' pl'/\
  Z7 (Wj 3 (Zt (Zd 5) (Zt (Zd 6) (Zt (Zd 7) Wi)))) Gen.U4 (fs.map Wm) (Vf A ns ms ks pl h x5 x6 x7 x8)=aA (.nx (Vf A ns ms ks' pl' h y5 y6 y7 x8))
 | [],S,R,L,B,ks,pl,x5,x6,x7,te,_,_,_,_=>⟨ks,pl,x5,x6,x7,te.imp (λt=>by simp) (λt k=>by simp) (λt=>by simp[Fi]) (ba _),by simp⟩
 |x::fs,S,R,L,B,ks,pl,x5,x6,x7,te,hRS,hz,hL,hx=>by
  rw[bf]at hz;have te1:=te.add hRS (Y5 x) x.2.2;obtain⟨ks',pl',y5,y6,y7,te',ih⟩:=K6 A h x8 ns ms fs _ _ _ (B+1) (Fh ks pl (Y5 x) x.2.2).1 (Fh ks pl (Y5 x) x.2.2).2 (aA (.fz (.str x.1))) (aA (.fz (.str x.2.1))) (aA (.fz (.lst (Oa x.2.2)))) te1 (λt k z=>z.elim (λz=>.inl (hRS t k z)) λz=>.inr z.1) (by omega) (λt=>by
   have:=hL t;rw[Be]at this;by_cases e:t=Y5 x
   .rw[if_pos e];rw[if_pos e.symm]at this;omega
   .rw[if_neg e];omega) λy hy=>hx y (ao _ hy)
  refine⟨ks',pl',y5,y6,y7,te'.imp (λt=>?_) (λt k=>?_) (λt=>?_) (by rw[bf];omega),?_⟩
  .simp only[bx,exists_eq_or_imp,or_assoc]
  .simp only[bx,exists_eq_or_imp,or_assoc]
  .rw[Be];by_cases e:t=Y5 x
   .rw[if_pos e,if_pos e.symm];omega
   .rw[if_neg e,if_neg λz=>e z.symm];omega
  .have a:Gen.U4 (Vf A ns ms ks pl h (aA (.fz (.str x.1))) (aA (.fz (.str x.2.1))) (aA (.fz (.lst (Oa x.2.2)))) x8)=aA (.nx (Vf A ns ms (Fh ks pl (Y5 x) x.2.2).1 (Fh ks pl (Y5 x) x.2.2).2 h (aA (.fz (.str x.1))) (aA (.fz (.str x.2.1))) (aA (.fz (.lst (Oa x.2.2)))) x8)):=by have:=Za0 (δ:=Vf A ns ms ks pl h (aA (.fz (.str x.1))) (aA (.fz (.str x.2.1))) (aA (.fz (.lst (Oa x.2.2)))) x8) (i:=3) (j:=7) (fk:=tupF (Zh (Za 5) (Zh (Za 6) Zs))) (p:=(.tmp (.fz (.tup [.str x.1,.str x.2.1])),Vf A ns ms ks pl h (aA (.fz (.str x.1))) (aA (.fz (.str x.2.1))) (aA (.fz (.lst (Oa x.2.2)))) x8)) (q:=(.tup [.str x.1,.str x.2.1],Vf A ns ms ks pl h (aA (.fz (.str x.1))) (aA (.fz (.str x.2.1))) (aA (.fz (.lst (Oa x.2.2)))) x8)) (d:=.lst (Oa x.2.2)) (ys:=Oa x.2.2) (ext:=aC) (k:=Y5 x) rfl (by simp[jz2]) rfl (Co (Y5 x)) rfl rfl (.inr ⟨rfl,rfl⟩) (te.ok (by omega) (λt=>by have:=hL t;omega) _ (by simp[Oa];exact hx x af));rw[Zck]at this;exact this
   rw[bc];unfold Z7;rw[show(Wj 3 (Zt (Zd 5) (Zt (Zd 6) (Zt (Zd 7) Wi)))).run (Wm x) (Vf A ns ms ks pl h x5 x6 x7 x8)=aA (Vf A ns ms ks pl h (aA (.fz (.str x.1))) (aA (.fz (.str x.2.1))) (aA (.fz (.lst (Oa x.2.2)))) x8)from by simp];dsimp only[c6];rw[a];exact ih
abbrev SG(gs:List HP)(t:NK):Prop:=∃h∈gs,∃x∈h.fs,t=Y5 x
abbrev RG(gs:List HP)(t k:NK):Prop:=∃h∈gs,∃x∈h.fs,t=Y5 x/\k∈x.2.2
noncomputable def Tr(gs:List HP):Nat:=(gs.map λh=>h.fs.length).sum
theorem K7(h gs):Tr (h::gs)=h.fs.length+Tr gs:=by unfold Tr;simp
structure Few(h:HP):Prop where
 ns:h.ns.length<=1000
 ms:h.ms.length<=1000
 tl:∀x∈h.fs,x.2.2.length<=10000
theorem Zcl(A x8 hp)(fw:Few hp)(ns ms)(hz:ns.length+1000<=100000)(hz2:ms.length+1000<=100000)(S R L B ks pl)(te:Tell S R L B ks pl)(hRS:∀t k,R t k->S t)(hB:B+hp.fs.length<=10000)(hL:∀t,L t+Fi t hp.fs<=10000)(x5 x6 x7):∃ks' pl' y5 y6 y7,Tell (λt=>S t\/∃x∈hp.fs,t=Y5 x) (λt k=>R t k\/∃x∈hp.fs,t=Y5 x/\k∈x.2.2) (λt=>L t+Fi t hp.fs) (B+hp.fs.length) ks' pl'/\
  Gen.Wz (Vf A ns ms ks pl (aA (.fz (Z0 hp))) x5 x6 x7 x8)=aA (.nx (Vf A (ns++hp.ns) (ms++hp.ms) ks' pl' (aA (.fz (Z0 hp))) y5 y6 y7 x8)):=by
 obtain⟨ks',pl',y5,y6,y7,te',l⟩:=K6 A (aA (.fz (Z0 hp))) x8 (ns++hp.ns) (ms++hp.ms) hp.fs S R L B ks pl x5 x6 x7 te hRS hB hL fw.tl;refine⟨ks',pl',y5,y6,y7,te',?_⟩;have z1:(Oa ns).length+(hp.ns.map Zn).length<=PySem.sizeLine:=Qw (by have:=fw.ns;simp[Oa];omega);have z2:(Oa ms).length+(hp.ms.map Zn).length<=PySem.sizeLine:=Qw (by have:=fw.ms;simp[Oa];omega);have at2:∀a b c:D,L2.atI [a,b,c] 2=aA c:=λ_ _ _=>rfl;have at1:∀a b c:D,L2.atI [a,b,c] 1=aA b:=λ_ _ _=>rfl;have at0:∀a b c:D,L2.atI [a,b,c] 0=aA a:=λ_ _ _=>rfl;have e1:Oa (ns++hp.ns)=Oa ns++hp.ns.map Zn:=b9;have e2:Oa (ms++hp.ms)=Oa ms++hp.ms.map Zn:=b9;unfold Gen.Wz;unfold Vf at l⊢;rw[e1,e2]at l⊢;clear e1 e2;rw[show Z0 hp= .tup [.lst (hp.ns.map Zn),.lst (hp.ms.map Zn),.lst (hp.fs.map Wm)]from rfl]at l⊢;generalize pl.map Oa=P1 at*;generalize pl'.map Oa=P2 at*;generalize Oa ns=N1 at*;generalize Oa ms=N2 at*;generalize hp.ns.map Zn=NS at*;generalize hp.ms.map Zn=MS at*;generalize hp.fs.map Wm=TS at*;simp[at0,at1,at2,z1,z2,l,-Z7]
theorem K8(A x8):∀gs ns ms S R L B ks pl x4 x5 x6 x7,Tell S R L B ks pl->(∀t k,R t k->S t)->(∀h∈gs,Few h)->ns.length+1000*gs.length<=90000->ms.length+1000*gs.length<=90000->B+Tr gs<=10000->(∀t,L t+tlG t gs<=10000)->∃ks' pl' y4 y5 y6 y7,Tell (λt=>S t\/SG gs t) (λt k=>R t k\/RG gs t k) (λt=>L t+tlG t gs) (B+Tr gs) ks' pl'/\
  Z7 (Zd 4) Gen.Wz (gs.map Z0) (Vf A ns ms ks pl x4 x5 x6 x7 x8)=aA (.nx (Vf A (ns++gs.flatMap HP.ns) (ms++gs.flatMap HP.ms) ks' pl' y4 y5 y6 y7 x8))
 | [],ns,ms,S,R,L,B,ks,pl,x4,x5,x6,x7,te,_,_,_,_,_,_=>⟨ks,pl,x4,x5,x6,x7,te.imp (λt=>by simp) (λt k=>by simp) (λt=>by simp[tlG]) (by simp[Tr]),by simp⟩
 |h::gs,ns,ms,S,R,L,B,ks,pl,x4,x5,x6,x7,te,hRS,fw,hz,hz2,hB,hL=>by
  rw[bf]at hz hz2;rw[K7]at hB;have fh:=fw h af;obtain⟨ks1,pl1,z5,z6,z7,te1,t1⟩:=Zcl A x8 h fh ns ms (by omega) (by omega) S R L B ks pl te hRS (by omega) (λt=>by have:=hL t;rw[E9]at this;omega) x5 x6 x7;obtain⟨ks',pl',y4,y5,y6,y7,te',ih⟩:=K8 A x8 gs (ns++h.ns) (ms++h.ms) _ _ _ _ ks1 pl1 (aA (.fz (Z0 h))) z5 z6 z7 te1 (λt k z=>z.elim (λz=>.inl (hRS t k z)) λ⟨x,hx,e,_⟩=>.inr ⟨x,hx,e⟩) (λg hg=>fw g (ao _ hg)) (by have:=fh.ns;rw[aw];omega) (by have:=fh.ms;rw[aw];omega) (by omega) (λt=>by have:=hL t;rw[E9]at this;omega);refine⟨ks',pl',y4,y5,y6,y7,te'.imp (λt=>?_) (λt k=>?_) (λt=>by rw[E9];omega) (by rw[K7];omega),?_⟩
  .simp only[SG,bx,exists_eq_or_imp,or_assoc]
  .simp only[RG,bx,exists_eq_or_imp,or_assoc]
  .rw[bc,List.flatMap_cons,List.flatMap_cons,<-gn,<-gn];unfold Z7;rw[show(Zd 4).run (Z0 h) (Vf A ns ms ks pl x4 x5 x6 x7 x8)=aA (Vf A ns ms ks pl (aA (.fz (Z0 h))) x5 x6 x7 x8)from by simp];dsimp only[c6];rw[t1];exact ih
end My
namespace My
open DL PySem TT TX
def Qc(ks:List NK)(pl:Vw)(k:NK):List NK:=match Y8 ks k with
 |some q=>pl.getD q []
 |none=>[]
theorem Zcm{ks:List NK}(h:k∈ks):∃q,Y8 ks k=aA q:=by
 cases e:Y8 ks k with
 |some q=>exact⟨q,rfl⟩
 |none=>exact absurd h (Ol e)
theorem T6{S}(te:Tell S R L B ks pl)(hk:k∈ks):(∀x,x∈Qc ks pl k↔R k x)/\(Qc ks pl k).length<=L k/\look ks ((pl.map Oa).map D.lst) k=aA (.lst (Oa (Qc ks pl k))):=by
 obtain⟨q,e⟩:=Zcm hk;have hq:=Oj e;have hql:q<ks.length:=by rcases dv q ks.length with z|z;exact z;rw[dy z]at hq;cases hq
 have hqp:q<pl.length:=by rw[<-te.len];exact hql
 have et:Qc ks pl k=pl[q]:=by unfold Qc;rw[e];show pl.getD q []=_;rw[bn,av hqp];rfl
 have hp:=av hqp;obtain⟨g1,g2⟩:=te.has q k pl[q] hq hp;rw[et];exact⟨g1,g2,Pe te.nd hq (by rw[az,az,hp];rfl)⟩
def C5(ks:List NK)(pl:Vw):NK->T0
 | .inl [a,b]=>(a,b,rise (Qc ks pl (.inl [a,b])))
 |_=>("","",[])
def K9(ks:List NK)(pl:Vw)(d:D):D:=match nk? d with
 |some k=>Wm (C5 ks pl k)
 |none=>.non
theorem Zcn{S}(te:Tell S R L B ks pl)(hB:B<=10000)(hp:∀t,S t->∃a b,t= .inl [a,b])(hL:∀t,L t<64)(hR:∀t k,R t k->Rb k):
  Yb [.own,.cap 3,.acc] 2 (Zd 0) Q7 Gen.Qy (ks.map Zn) [aB,aA (.fz (.dX ks ((pl.map Oa).map D.lst))),aA (.ol [])]=
  aA [aB,aA (.fz (.dX ks ((pl.map Oa).map D.lst))),aA (.ol ((ks.map (C5 ks pl)).map Wm))]:=by
 have c:=Cq (te:=Gen.Qy) (f:=K9 ks pl) (c:=aA (.fz (.dX ks ((pl.map Oa).map D.lst)))) (j:=3) (ks.map Zn) [] (λx hx zs=>by
  obtain⟨k,hk,rfl⟩:=ax.mp hx;obtain⟨a,b,rfl⟩:=hp k ((te.key k).mp hk);obtain⟨g1,g2,lk⟩:=T6 te hk;have ok:OkK (Qc ks pl (.inl [a,b])):=.inl λx hx=>hR _ _ ((g1 x).mp hx);have sd:Cp [.lst ((Qc ks pl (.inl [a,b])).map Zn)]=aA (.ol (Oa (rise (Qc ks pl (.inl [a,b]))))):=E8 ok (ib g2 (hL _));have at1:∀a b:D,L2.atI [a,b] 1=aA b:=λ_ _=>rfl;have at0:∀a b:D,L2.atI [a,b] 0=aA a:=λ_ _=>rfl;have ek:Zn (.inl [a,b])= .tup [.str a,.str b]:=rfl;have nk:=Co (.inl [a,b]);have ef:K9 ks pl (Zn (.inl [a,b]))= .tup [.str a,.str b,.lst (Oa (rise (Qc ks pl (.inl [a,b]))))]:=by unfold K9;rw[nk];rfl
  rw[ef];rw[ek]at nk⊢;unfold Gen.Qy;generalize (pl.map Oa).map D.lst=XS at*;generalize Oa (rise (Qc ks pl (.inl [a,b])))=RS at*;have lk2:look ks XS (Sum.inl [a,b])=aA (.lst ((Qc ks pl (.inl [a,b])).map Zn)):=lk;generalize (Qc ks pl (.inl [a,b])).map Zn=TD at*;generalize (Sum.inl [a,b]:NK)=P at*;simp[at0,at1,nk,lk2,sd,jz3,-look]) (by have:=te.few;simp;omega)
 have e:(ks.map Zn).map (K9 ks pl)=(ks.map (C5 ks pl)).map Wm:=by rw[cg,cg];refine List.map_congr_left λk _=>?_;show K9 ks pl (Zn k)=Wm (C5 ks pl k);unfold K9;rw[Co]
 rw[c,d7,e]
structure Grp(gs:List HP):Prop where
 few:∀h∈gs,Few h
 nn:∀h∈gs,∀k∈h.ns,Rb k
 mm:∀h∈gs,∀k∈h.ms,isM k
 tt:∀h∈gs,∀x∈h.fs,∀k∈x.2.2,Rb k
 n64:(gs.flatMap HP.ns).length<64
 m64:(gs.flatMap HP.ms).length<64
 t64:∀t,tlG t gs<64
 len:gs.length<64
 cnt:Tr gs<=10000
 p64:∃ps:List NK,ps.length<64/\∀t,SG gs t->t∈ps
theorem join_heaps(gs)(g:Grp gs):∃h,IsMerge (· ∈gs) h/\Gen.Qz [.lst (gs.map Z0)]=aA (.fz (Z0 h)):=by
 have te0:Tell (λ_=>False) (λ_ _=>False) (λ_=>0) 0 [] []:=⟨df,rfl,λt=>by simp,λq t l h _=>by simp at h,ba _⟩
 obtain⟨ks,pl,y4,y5,y6,y7,te1,l⟩:=K8 (aA (.fz (.lst (gs.map Z0)))) aB gs [] [] _ _ _ 0 [] [] aB aB aB aB te0 (λ_ _ z=>z) g.few (by have:=g.len;simp;omega) (by have:=g.len;simp;omega) (by have:=g.cnt;omega) (λt=>by have:=g.t64 t;omega);have te:Tell (SG gs) (RG gs) (λt=>tlG t gs) (Tr gs) ks pl:=te1.imp (λt=>by simp) (λt k=>by simp) (λt=>by simp) (by omega);have hpair:∀t,SG gs t->∃a b,t= .inl [a,b]:=λt ⟨h,_,x,_,e⟩=>⟨x.1,x.2.1,e⟩
 have hRN:∀t k,RG gs t k->Rb k:=λt k ⟨h,hh,x,hx,_,hk⟩=>g.tt h hh x hx k hk;have c:=Zcn te g.cnt hpair g.t64 hRN;have okN:OkK (gs.flatMap HP.ns):=.inl λk hk=>by obtain⟨h,hh,hk⟩:=gg.mp hk;exact g.nn h hh k hk
 have okM:OkK (gs.flatMap HP.ms):=.inr λk hk=>by obtain⟨h,hh,hk⟩:=gg.mp hk;exact g.mm h hh k hk
 have r1:=E8 okN g.n64;have r2:=E8 okM g.m64;have k64:ks.length<64:=by obtain⟨ps,h1,h2⟩:=g.p64;exact ib (da te.nd λt ht=>h2 t ((te.key t).mp ht)) h1
 have tri:∀k∈ks,∃a b,k= .inl [a,b]/\C5 ks pl k=(a,b,rise (Qc ks pl k)):=λk hk=>by obtain⟨a,b,rfl⟩:=hpair k ((te.key k).mp hk);exact⟨a,b,rfl,rfl⟩
 have okT:∀k∈ks,OkK (Qc ks pl k):=λk hk=>.inl λx hx=>hRN k x (((T6 te hk).1 x).mp hx);have nde:((ks.map (C5 ks pl)).map Ww).Nodup:=by rw[cg];refine List.pairwise_map.mpr ((gz.mp te.nd).imp fun{x y} ⟨hx,hy,h⟩ e=>h ?_);obtain⟨a,b,e1,e2⟩:=tri x hx;obtain⟨a',b',e1',e2'⟩:=tri y hy;have e:Ww (C5 ks pl x)=Ww (C5 ks pl y):=e;rw[e2,e2']at e;obtain⟨z1,z2⟩:=Zge e;have z1:a=a':=z1;have z2:b=b':=z2;rw[e1,e1',z1,z2]
 have r3:Cm [.lst ((ks.map (C5 ks pl)).map Wm)]=aA (.ol ((C4 (ks.map (C5 ks pl))).map Wm)):=Zjq (λt ht k hk=>by
   obtain⟨x,hx,rfl⟩:=ax.mp ht;obtain⟨a,b,e1,e2⟩:=tri x hx;rw[e2]at hk;exact hRN x k (((T6 te hx).1 k).mp (((Um (okT x hx)).2 k).mp hk))) nde (by rw[aq];exact k64) (Jx _) (K5 _)
 refine⟨⟨rise (gs.flatMap HP.ns),rise (gs.flatMap HP.ms),C4 (ks.map (C5 ks pl))⟩,⟨(Um okN).1,λk=>?_,(Um okM).1,λk=>?_,?_,λf v=>?_,λt ht=>?_⟩,?_⟩
 .rw[(Um okN).2,gg]
 .rw[(Um okM).2,gg]
 .have nd2:((C4 (ks.map (C5 ks pl))).map Ww).Nodup:=(((Jx _).map Ww).nodup_iff).mpr nde;refine((K5 _).and (List.pairwise_map.mp nd2)).imp fun{a b} ⟨h1,h2⟩=>?_;by_cases z:Ww a<Ww b
  .exact z
  .exact absurd (List.le_antisymm (de.mp h1) (de.mp z)) h2
 .constructor
  .rintro⟨l,hl⟩;obtain⟨k,hk,e⟩:=ax.mp ((Jx _).mem_iff.mp hl);obtain⟨a,b,e1,e2⟩:=tri k hk;rw[e2]at e;obtain⟨h,hh,x,hx,ex⟩:=(te.key k).mp hk;rw[e1]at ex;have ex:=List.cons.inj (Sum.inl.inj ex);have ex2:=(List.cons.inj ex.2).1;have ea:=(Prod.mk.inj e).1;have eb:=(Prod.mk.inj (Prod.mk.inj e).2).1;refine⟨h,hh,x.2.2,?_⟩;rw[<-ea,<-eb,ex.1,ex2];exact hx
  .rintro⟨h,hh,l,hl⟩;have hk:Y5 (f,v,l)∈ks:=(te.key _).mpr ⟨h,hh,_,hl,rfl⟩;exact⟨_,(Jx _).mem_iff.mpr (List.mem_map_of_mem (f:=C5 ks pl) hk)⟩
 .obtain⟨k,hk,rfl⟩:=ax.mp ((Jx _).mem_iff.mp ht);obtain⟨a,b,e1,e2⟩:=tri k hk;rw[e2];refine⟨(Um (okT k hk)).1,λx=>?_⟩;show x∈rise (Qc ks pl k)↔_;rw[(Um (okT k hk)).2,(T6 te hk).1 x,e1];constructor
  .rintro⟨h,hh,y,hy,ey,hx⟩;have ey:=List.cons.inj (Sum.inl.inj ey);have ey2:=(List.cons.inj ey.2).1;exact⟨h,hh,y.2.2,by show(a,b,y.2.2)∈h.fs;rw[ey.1,ey2];exact hy,hx⟩
  .rintro⟨h,hh,l,hl,hx⟩;exact⟨h,hh,_,hl,rfl,hx⟩
 .rw[d7,d7]at l;have l:Z7 (Zd 4) Gen.Wz (gs.map Z0) [aA (.fz (.lst (gs.map Z0))),aA (.ol []),aA (.ol []),aA (.oX [] []),aB,aB,aB,aB,aB]=_:=l;unfold Gen.Qz Gen.B5;unfold Vf at l;unfold Oa at l;unfold Oa at c;rw[show Z0 ⟨rise (gs.flatMap HP.ns),rise (gs.flatMap HP.ms),C4 (ks.map (C5 ks pl))⟩=D.tup [.lst ((rise (gs.flatMap HP.ns)).map Zn),.lst ((rise (gs.flatMap HP.ms)).map Zn),.lst ((C4 (ks.map (C5 ks pl))).map Wm)]from rfl];generalize (C4 (ks.map (C5 ks pl))).map Wm=O3 at*;generalize (ks.map (C5 ks pl)).map Wm=O4 at*;generalize (rise (gs.flatMap HP.ns)).map Zn=O1 at*;generalize (rise (gs.flatMap HP.ms)).map Zn=O2 at*;generalize (gs.flatMap HP.ns).map Zn=I1 at*;generalize (gs.flatMap HP.ms).map Zn=I2 at*;generalize gs.map Z0=GS at*;generalize (pl.map λl=>l.map Zn)=PL at*;simp[l,c,r1,r2,r3,jz3,Ku,-Z7,-Yb]
end My
namespace My
open DL PySem TT TX
theorem IsMerge.congr(m:IsMerge G h)(e:∀a,G a↔G' a):IsMerge G' h:=by have:G=G':=funext λa=>propext (e a);rw[<-this];exact m
noncomputable abbrev Pi(hs:List HP)(b:Nat):HP:=(hs[b]?).getD ⟨[],[],[]⟩
theorem Rh(hb:b<hs.length):hs[b]? =aA (Pi hs b):=by unfold Pi;rw[av hb];rfl
abbrev Ia(hs:List HP)(p:Nat)(g:HP):Prop:=∃b,RI hs p b/\hs[b]? =aA g
theorem Zgm(h:shI hs a b):shI hs b a:=let⟨t,h1,h2⟩:=h;⟨t,h2,h1⟩
theorem RI.trans(h:RI hs a b)(k:RI hs b c):RI hs a c:=by
 induction k with
 |here=>exact h
 |step _ s ih=>exact .step ih s
theorem RI.symm(h:RI hs a b):RI hs b a:=by
 induction h with
 |here=>exact .here
 |step _ s ih=>exact(RI.step .here (Zgm s)).trans ih
theorem Vg(hp:hs[p]? =aA a)(g):Ia hs p g↔Conn (· ∈hs) a g:=by
 constructor
 .rintro⟨b,r,e⟩;have:∀{x y},RI hs x y->x=p->∀g,hs[y]? =aA g->Conn (· ∈hs) a g:=fun{x y} r=>by
   induction r with
   |here=>intro hx g e;rw[hx,hp]at e;cases e;exact .here (b5 hp)
   |step r s ih=>intro hx g e;obtain⟨t,⟨u,eu,tu⟩,⟨v,ev,tv⟩⟩:=s;rw[e]at ev;cases ev;exact .step (ih hx u eu) (b5 e) ⟨t,tu,tv⟩
  exact this r rfl g e
 .intro c;have:∀{x y},Conn (· ∈hs) x y->hs[p]? =aA x->Ia hs p y:=fun{x y} c=>by
   induction c with
   |here _=>exact λz=>⟨p,.here,z⟩
   |step c' hc sh ih=>intro z;obtain⟨b,r,e⟩:=ih z;obtain⟨q,hq⟩:=List.getElem?_of_mem hc;obtain⟨t,t1,t2⟩:=sh;exact⟨q,.step r ⟨t,⟨_,e,t1⟩,⟨_,hq,t2⟩⟩,hq⟩
  exact this c hp
theorem Hl(w:Nat->Nat):∀n (f:List Nat),f.Nodup->(∀x∈f,x<n)->(f.map w).sum<=((cq n).map w).sum
 |0,f,_,h=>by
  cases f with
  |nil=>simp
  |cons x f=>exact absurd (h x af) (dz _)
 |n+1,f,nd,h=>by
  rw[List.range_succ,b9,List.sum_append];by_cases hn:n∈f
  .have pm:=List.perm_cons_erase hn;have nd2:=pm.nodup_iff.mp nd;obtain⟨n1,n2⟩:=dm.mp nd2;have ih:=Hl w n (f.erase n) n2 λx hx=>by have h1:=h x (List.mem_of_mem_erase hx);have h2:x≠n:=λz=>n1 (z▸hx);omega
   rw[(pm.map w).sum_nat,bc,List.sum_cons];simp only[bc,List.map_nil,List.sum_cons,List.sum_nil];omega
  .have ih:=Hl w n f nd λx hx=>by have h1:=h x hx;have h2:x≠n:=λz=>hn (by rw[<-z];exact hx);omega
   omega
theorem Zgn(w:HP->Nat)(hs):(cq hs.length).map (λb=>w (Pi hs b))=hs.map w:=by refine List.ext_getElem (by simp) λi h1 h2=>?_;simp at h1;have:=Rh h1;rw[av h1]at this;rw[List.getElem_map,List.getElem_map,List.getElem_range,<-cz.inj this]
structure Tot(hs:List HP):Prop where
 all:Grp hs
 ne:∀h∈hs,h.ns≠[]
theorem Tot.grp(T:Tot hs){f:List Nat}(nd:f.Nodup)(lt:∀x∈f,x<hs.length):Grp (f.map (Pi hs)):=by
 have mem:∀h∈f.map (Pi hs),h∈hs:=λh hh=>by obtain⟨b,hb,rfl⟩:=ax.mp hh;exact b5 (Rh (lt b hb))
 have le:∀w:HP->Nat,((f.map (Pi hs)).map w).sum<=(hs.map w).sum:=λw=>by rw[cg,<-Zgn w hs];exact Hl (w∘Pi hs) hs.length f nd lt
 have A:=T.all;refine⟨λh hh=>A.few h (mem h hh),λh hh=>A.nn h (mem h hh),λh hh=>A.mm h (mem h hh),λh hh=>A.tt h (mem h hh),?_,?_,λt=>ib (le _) (A.t64 t),?_,dk (le _) A.cnt,?_⟩
 .have:=A.n64;rw[List.length_flatMap]at this⊢;exact ib (le _) this
 .have:=A.m64;rw[List.length_flatMap]at this⊢;exact ib (le _) this
 .rw[aq];have:=Pf nd lt;have:=A.len;omega
 .obtain⟨ps,h1,h2⟩:=A.p64;exact⟨ps,h1,λt ⟨h,hh,z⟩=>h2 t ⟨h,mem h hh,z⟩⟩
end My
namespace My
open DL PySem TT TX
abbrev Hm(HS:List D)(HD:D)(P:List D)(sk:List Nat)(x4 x5 x6:Option SV):Yk:=[aA (.fz (.lst HS)),aA (.fz HD),aA (.ol P),aA (.oK (Q5 sk) (Q6 sk)),x4,x5,x6]
theorem La(HS HD P x4 x5):∀f sk x6,(sk++f).Nodup->sk.length+f.length<=10000->∃y6,
  Z7 (Zd 6) Gen.U5 (W4 f) (Hm HS HD P sk x4 x5 x6)=aA (.nx (Hm HS HD P (sk++f) x4 x5 y6))
 | [],sk,x6,_,_=>⟨x6,by simp[W4]⟩
 |o::f,sk,x6,nd,hz=>by
  rw[bf]at hz;have e0:(sk++[o])++f=sk++o::f:=by simp
  obtain⟨y6,ih⟩:=La HS HD P x4 x5 f (sk++[o]) (aA (.fz (.int (o:Int)))) (by rw[e0];exact nd) (by rw[aw];simp;omega);refine⟨y6,?_⟩;have ho:o∉sk:=λz=>(dq.mp nd).2.2 o z o af rfl;have p:Wv (Q5 sk) (Q6 sk) (Sum.inl (o:Int)) (.bl aC)=(Q5 (sk++[o]),Q6 (sk++[o])):=by unfold Wv;rw[if_neg λz=>ho (Bd.mp z)];simp[Q5,Q6]
  have z1:(Q6 sk).length<PySem.sizeLine:=Yd (by simp;omega);have t:Gen.U5 (Hm HS HD P sk x4 x5 (aA (.fz (.int (o:Int)))))=aA (.nx (Hm HS HD P (sk++[o]) x4 x5 (aA (.fz (.int (o:Int)))))):=by unfold Gen.U5 Hm;generalize Q5 (sk++[o])=K1 at*;generalize Q6 (sk++[o])=K2 at*;generalize Q5 sk=K3 at*;generalize Q6 sk=K4 at*;simp[p,z1,-Wv]
  show Z7 (Zd 6) Gen.U5 (.int (o:Int)::W4 f) _=_;unfold Z7;rw[show(Zd 6).run (.int (o:Int)) (Hm HS HD P sk x4 x5 x6)=aA (Hm HS HD P sk x4 x5 (aA (.fz (.int (o:Int)))))from by simp];dsimp only[c6];rw[t];dsimp only[c6];rw[ih,e0]
theorem Zgo(hs f)(lt:∀x∈f,x<hs.length)(hf:f.length<=10000):
  Yb [.own,.cap 0,.acc] 2 (Zd 0) Q7 Gen.B6 (W4 f) [aB,aA (.fz (.lst (hs.map Z0))),aA (.ol [])]=aA [aB,aA (.fz (.lst (hs.map Z0))),aA (.ol ((f.map (Pi hs)).map Z0))]:=by
 let F:D->D:=λd=>match d with| .int i=>Z0 (Pi hs i.toNat)|_=>.non
 have c:=Cq (te:=Gen.B6) (f:=F) (c:=aA (.fz (.lst (hs.map Z0)))) (j:=0) (W4 f) [] (λx hx zs=>by
  obtain⟨b,hb,rfl⟩:=ax.mp hx;have ai:=Zll (Rh (lt b hb));have ef:F (.int (b:Int))=Z0 (Pi hs b):=by show Z0 (Pi hs ((b:Int)).toNat)=_;rw[g8]
  rw[ef];unfold Gen.B6;generalize Z0 (Pi hs b)=Q at*;generalize hs.map Z0=HS at*;simp[ai]) (by simp[W4];omega)
 have e:(W4 f).map F=(f.map (Pi hs)).map Z0:=by rw[cg,cg];refine List.map_congr_left λb _=>?_;show Z0 (Pi hs ((b:Int)).toNat)=Z0 (Pi hs b);rw[g8]
 rw[c,d7,e]
structure JI(hs:List HP)(i:Nat)(sk:List Nat)(ps:List HP):Prop where
 nd:sk.Nodup
 lt:∀x∈sk,x<hs.length
 cl:∀a∈sk,∀b,shI hs a b->b∈sk
 upto:∀p,p<i->p∈sk
 each:∀h∈ps,∃a∈sk,IsMerge (Ia hs a) h
 all:∀a∈sk,∃h∈ps,IsMerge (Ia hs a) h
 apart:ps.Pairwise λh h'=>∀k,k∈h.ns->k∉h'.ns
 len:ps.length<=i
theorem JI.ri(j:JI hs i sk ps)(ha:a∈sk)(r:RI hs a b):b∈sk:=by
 induction r with
 |here=>exact ha
 |step _ s ih=>exact j.cl _ ih _ s
theorem Vh(hs)(T:Tot hs)(ks pl B)(ho:Hold (Rg hs) B ks pl)(i)(hi:i<hs.length)(sk ps)(j:JI hs i sk ps)(x5 x6):∃sk' ps' y5 y6,JI hs (i+1) sk' ps'/\
  Gen.Jb (Hm (hs.map Z0) (Y4 ks pl) (ps.map Z0) sk (aA (.fz (.int (i:Int)))) x5 x6)=aA (.nx (Hm (hs.map Z0) (Y4 ks pl) (ps'.map Z0) sk' (aA (.fz (.int (i:Int)))) y5 y6)):=by
 have h64:=T.all.len;have hB:∀h∈hs,(Ui h).length<=10000:=λh hh=>by have f:=T.all.few h hh;have:=f.ns;have:=f.ms;rw[aw];omega
 by_cases hs0:i∈sk
 .refine⟨sk,ps,x5,x6,⟨j.nd,j.lt,j.cl,λp hp=>?_,j.each,j.all,j.apart,by have:=j.len;omega⟩,?_⟩
  .by_cases e:p=i
   .rw[e];exact hs0
   .exact j.upto p (by omega)
  .obtain⟨v,lk⟩:=M5 (ks:=Q5 sk) (vs:=Q6 sk) (k:=.inl (i:Int)) (by simp) (Bd.mpr hs0);unfold Gen.Jb Hm;generalize Q5 sk=K1 at*;generalize Q6 sk=K2 at*;simp[lk,-look]
 .obtain⟨f,ti,fi,fr,fc,tg⟩:=tied hs ks pl B ho i hs.length (by omega) rfl hB hi (by omega);have out:∀x∈f,x∉sk:=λx hx z=>hs0 (j.ri z (fr x hx).symm);have nd2:(sk++f).Nodup:=dq.mpr ⟨j.nd,ti.nd,λa ha b hb e=>out b hb (by rw[<-e];exact ha)⟩;have fl:=ti.len.1;have skl:=Pf j.nd j.lt;obtain⟨h,m,jh⟩:=join_heaps (f.map (Pi hs)) (T.grp ti.nd ti.lt);have mem:∀g,g∈f.map (Pi hs)↔Ia hs i g:=λg=>by
   constructor
   .intro z;obtain⟨b,hb,rfl⟩:=ax.mp z;exact⟨b,fr b hb,Rh (ti.lt b hb)⟩
   .rintro⟨b,r,e⟩;have hb:b∈f:=by
     have:∀{x y},RI hs x y->x∈f->y∈f:=fun{x y} r=>by
      induction r with
      |here=>exact id
      |step _ s ih=>exact λz=>fc _ (ih z) _ s
     exact this r fi
    have:=Rh (ti.lt b hb);rw[e]at this;rw[cz.inj this];exact List.mem_map_of_mem hb
  have m:IsMerge (Ia hs i) h:=m.congr mem;obtain⟨y6,sl⟩:=La (hs.map Z0) (Y4 ks pl) (ps.map Z0) (aA (.fz (.int (i:Int)))) (aA (.fz (.lst (W4 f)))) f sk x6 nd2 (by omega);refine⟨sk++f,ps++[h],aA (.fz (.lst (W4 f))),y6,⟨nd2,λx hx=>?_,λa ha b hab=>?_,λp hp=>?_,λh' hh=>?_,λa ha=>?_,?_,by have:=j.len;simp;omega⟩,?_⟩
  .rcases bz.mp hx with z|z
   .exact j.lt x z
   .exact ti.lt x z
  .rcases bz.mp ha with z|z
   .exact bj _ (j.cl a z b hab)
   .exact bh _ (fc a z b hab)
  .by_cases e:p=i
   .rw[e];exact bh _ fi
   .exact bj _ (j.upto p (by omega))
  .rcases bz.mp hh with z|z
   .obtain⟨a,ha,m'⟩:=j.each h' z;exact⟨a,bj _ ha,m'⟩
   .rw[ar.mp z];exact⟨i,bh _ fi,m⟩
  .rcases bz.mp ha with z|z
   .obtain⟨h',hh,m'⟩:=j.all a z;exact⟨h',bj _ hh,m'⟩
   .refine⟨h,by simp,m.congr λg=>?_⟩;constructor
    .rintro⟨b,r,e⟩;exact⟨b,(fr a z).symm.trans r,e⟩
    .rintro⟨b,r,e⟩;exact⟨b,(fr a z).trans r,e⟩
  .refine List.pairwise_append.mpr ⟨j.apart,by simp,λh1 hh1 h2 hh2 k k1 k2=>?_⟩;rw[ar.mp hh2]at k2;obtain⟨a,ha,m1⟩:=j.each h1 hh1;obtain⟨u,⟨c,rc,ec⟩,kc⟩:=(m1.ns_m k).mp k1;obtain⟨v,⟨d,rd,ed⟩,kd⟩:=(m.ns_m k).mp k2;have cs:=j.ri ha rc;have ds:=j.cl c cs d ⟨k,⟨u,ec,bj _ kc⟩,⟨v,ed,bj _ kd⟩⟩;exact hs0 (j.ri ds rd.symm)
  .have lk:look (Q5 sk) (Q6 sk) (.inl (i:Int))=aB:=E6 λz=>hs0 (Bd.mp z);have c:=Zgo hs f ti.lt (by omega);have zp:(ps.map Z0).length<PySem.sizeLine:=Yd (by have:=j.len;rw[aq];omega);have ep:(ps++[h]).map Z0=ps.map Z0++[Z0 h]:=by simp
   rw[ep];rw[show Z0 h= .tup [.lst (h.ns.map Zn),.lst (h.ms.map Zn),.lst (h.fs.map Wm)]from rfl]at jh⊢;unfold Gen.Jb;unfold Hm at sl⊢;generalize [D.lst (h.ns.map Zn),.lst (h.ms.map Zn),.lst (h.fs.map Wm)]=HH at*;generalize (f.map (Pi hs)).map Z0=GS at*;generalize hs.map Z0=HS at*;generalize Y4 ks pl=HD at*;generalize ps.map Z0=PP at*;generalize Q5 (sk++f)=K1 at*;generalize Q6 (sk++f)=K2 at*;generalize Q5 sk=K3 at*;generalize Q6 sk=K4 at*;generalize W4 f=PF at*;simp[lk,tg,sl,c,jh,zp,-look,-Z7,-Yb]
end My
namespace My
open DL PySem TT TX
theorem Zgp(T:Tot hs)(ha:a<hs.length)(m:IsMerge (Ia hs a) h):HPok h:=by
 have A:=T.all;refine⟨λz=>?_,λk hk=>?_,λk hk=>?_,λt ht k hk=>?_⟩
 .have e:=Rh ha;have hm:=b5 e;obtain⟨k,l,ek⟩:=ic (T.ne _ hm);have:=(m.ns_m k).mpr ⟨_,⟨a,.here,e⟩,by rw[ek];exact af⟩;rw[z]at this;cases this
 .obtain⟨g,⟨b,_,e⟩,hk⟩:=(m.ns_m k).mp hk;exact A.nn g (b5 e) k hk
 .obtain⟨g,⟨b,_,e⟩,hk⟩:=(m.ms_m k).mp hk;exact A.mm g (b5 e) k hk
 .obtain⟨g,⟨b,_,e⟩,l,hl,hk⟩:=((m.fs_l t ht).2 k).mp hk;exact A.tt g (b5 e) _ hl k hk
theorem Hn(o:HPok h)(o':HPok h')(ap:∀k,k∈h.ns->k∉h'.ns):Qs h≠Qs h':=λe=>by
 obtain⟨x,l,ex⟩:=ic o.ne;obtain⟨y,l',ey⟩:=ic o'.ne;unfold Qs at e;rw[ex,ey]at e;have e:Ov x=Ov y:=e;have hx:x∈h.ns:=by rw[ex];exact af
 have hy:y∈h'.ns:=by rw[ey];exact af
 obtain⟨u,v,e1⟩:=o.nm x hx;obtain⟨u',v',e2⟩:=o'.nm y hy;have one:OneK x y:=by rw[e1,e2];exact .nm _ _
 have:=Ev one e;rw[<-this]at hy;exact ap x hx hy
def Lb(ts:List HP):List HP:=ts.mergeSort λa b=>!decide (Qs b<Qs a)
theorem Je(ts):(Lb ts).Perm ts:=List.mergeSort_perm _ _
theorem Vi(ts):(Lb ts).Pairwise λa b=>¬Qs b<Qs a:=by
 have:=List.pairwise_mergeSort (le:=λa b:HP=>!decide (Qs b<Qs a)) (λa b c h1 h2=>by
   simp only[Bool.not_eq_true',decide_eq_false_iff_not]at*;exact de.mpr (List.le_trans (de.mp h1) (de.mp h2))) (λa b=>by
   simp only[Bool.or_eq_true,Bool.not_eq_true',decide_eq_false_iff_not];rcases List.le_total (Qs a) (Qs b)with z|z
   .exact .inl (de.mpr z)
   .exact .inr (de.mpr z)) ts
 exact this.imp fun{a b} h=>by simpa using h
theorem joined(hs)(T:Tot hs):∃out,IsPool (· ∈hs) out/\(∀h∈out,HPok h)/\out.length<=hs.length/\Gen.U6 [.lst (hs.map Z0)]=aA (.ol (out.map Z0)):=by
 have h64:=T.all.len;have few:∀h∈hs,(Ui h).length<=126:=λh hh=>by have n:=T.all.n64;have m:=T.all.m64;obtain⟨a,b,rfl⟩:=List.append_of_mem hh;simp only[List.flatMap_append,List.flatMap_cons,aw]at n m;rw[aw];omega
 have hz:Fg hs<=10000:=by
  have:∀l:List HP,(∀h∈l,(Ui h).length<=126)->Fg l<=126*l.length:=λl=>by
   induction l with
   |nil=>intro _;simp[Fg]
   |cons h l ih=>intro hl;have:=ih λg hg=>hl g (ao _ hg);have:=hl h af;rw[M4,bf];omega
  have:=this hs few;omega
 obtain⟨ks,pl,ho,hd⟩:=holders_of hs hz;obtain⟨δ',e,sk,ps,y4,y5,y6,j,hy⟩:=Gd (tg:=Zd 4) (body:=Gen.Jb) (P:=λi δ=>∃sk ps y4 y5 y6,JI hs i sk ps/\δ=Hm (hs.map Z0) (Y4 ks pl) (ps.map Z0) sk y4 y5 y6) hs.length 0 (Hm (hs.map Z0) (Y4 ks pl) [] [] aB aB aB) ⟨[],[],aB,aB,aB,⟨df,(λ_ z=>nomatch z),(λ_ z=>nomatch z),(λp z=>absurd z (dz _)),(λ_ z=>nomatch z),(λ_ z=>nomatch z),.nil,ba _⟩,rfl⟩ (λi _ hi δ ⟨sk,ps,y4,y5,y6,j,hy⟩=>by
  subst hy;rw[Nat.zero_add]at hi;obtain⟨sk',ps',z5,z6,j',t⟩:=Vh hs T ks pl _ ho i hi sk ps j y5 y6;exact⟨Hm (hs.map Z0) (Y4 ks pl) (ps.map Z0) sk (aA (.fz (.int (i:Int)))) y5 y6,_,by simp,t,sk',ps',_,z5,z6,j',rfl⟩)
 subst hy;rw[Nat.zero_add]at j;have ok:∀h∈ps,HPok h:=λh hh=>by obtain⟨a,ha,m⟩:=j.each h hh;exact Zgp T (j.lt a ha) m
 have nde:(ps.map Qs).Nodup:=List.pairwise_map.mpr ((gz.mp j.apart).imp fun{a b} ⟨ha,hb,ap⟩=>Hn (ok a ha) (ok b hb) ap);have s:=Zgg ok nde (by have:=j.len;omega) (Je ps) (Vi ps);have s:Cm [.lst (ps.map Z0)]=aA (.ol ((Lb ps).map Z0)):=s;refine⟨Lb ps,⟨?_,λh hh=>?_,λa ha=>?_⟩,λh hh=>ok h ((Je ps).mem_iff.mp hh),by rw[(Je ps).length_eq];exact j.len,?_⟩
 .have nd2:((Lb ps).map Qs).Nodup:=(((Je ps).map Qs).nodup_iff).mpr nde;refine((Vi ps).and (List.pairwise_map.mp nd2)).imp fun{a b} ⟨h1,h2⟩=>?_;by_cases z:Qs a<Qs b
  .exact z
  .exact absurd (List.le_antisymm (de.mp h1) (de.mp z)) h2
 .obtain⟨p,hp,m⟩:=j.each h ((Je ps).mem_iff.mp hh);have e:=Rh (j.lt p hp);exact⟨_,b5 e,m.congr (Vg e)⟩
 .obtain⟨p,e⟩:=List.getElem?_of_mem ha;have hp:p<hs.length:=by rcases dv p hs.length with z|z;exact z;rw[dy z]at e;cases e
  obtain⟨h,hh,m⟩:=j.all p (j.upto p hp);exact⟨h,(Je ps).mem_iff.mpr hh,m.congr (Vg e)⟩
 .have g1:Mi (hs.length:Int):=Uv (by omega);have et:((hs.length:Int)).toNat=hs.length:=by omega
  have el:(hs.map Z0).length=hs.length:=aq _;have e:Z7 (Zd 4) Gen.Jb (Ce 0 hs.length) [aA (.fz (.lst (hs.map Z0))),aA (.fz (Y4 ks pl)),aA (.ol []),aA (.oK [] []),aB,aB,aB]=_:=e;unfold Gen.U6 Gen.Ez;unfold Hm Y4 at e;unfold Y4 at hd;generalize (Lb ps).map Z0=OS at*;generalize ps.map Z0=PS at*;generalize Q5 sk=K1 at*;generalize Q6 sk=K2 at*;generalize (pl.map W4).map D.lst=HX at*;generalize hs.map Z0=HS at*;generalize hs.length=N at*;simp[hd,e,s,g1,el,et,Qp,-Z7]
end My
namespace My
open DL PySem TT TX
theorem s1:1<=PySem.sizeLine:=by decide
theorem s2:2<=PySem.sizeLine:=by decide
theorem s3:3<=PySem.sizeLine:=by decide
noncomputable abbrev J3:Str:=Str.ofString "kind"
noncomputable abbrev Zgq:Str:=Str.ofString "note"
noncomputable def W2(fs ts:List Str)(f:Str):Option Str:=(fs.zip ts).lookup f
theorem Gh:∀fs ts f,look fs (ts.map D.str) f=(W2 fs ts f).map D.str
 | [],ts,f=>by cases ts<;> rfl
 |_::_,[],f=>rfl
 |x::fs,t::ts,f=>by
  show(if x=f then aA (D.str t)else look fs (ts.map D.str) f)=_;rw[Gh fs ts f];unfold W2;rw[List.zip_cons_cons,im];by_cases h:x=f
  .subst h;simp
  .have:(f==x)=aD:=beq_eq_false_iff_ne.mpr λz=>h z.symm;rw[if_neg h,this]
abbrev Za1(kind:Str)(fs ts:List Str):D:=.tup [.str kind,.dK (Yt fs) (ts.map D.str)]
theorem own_texts(kind fs ts)(hl:fs.length=ts.length)(hz:ts.length<=1000)(hk:J3∉fs):Gen.Qq [Za1 kind fs ts]=aA (.oK (Yt (fs++[J3])) ((ts++[kind]).map D.str)):=by
 have hp:Wv (Yt fs) (ts.map D.str) (d3 J3) (.str kind)=(Yt (fs++[J3]),(ts++[kind]).map D.str):=by rw[Eo,Ep hk];simp
 have z:(ts.map D.str).length<PySem.sizeLine:=Yd (by simp;omega);have at1:∀a b:D,L2.atI [a,b] 1=aA b:=λ_ _=>rfl;have at0:∀a b:D,L2.atI [a,b] 0=aA a:=λ_ _=>rfl;unfold Za1 Gen.Qq Gen.Cz;generalize ts.map D.str=TS at*;generalize Yt fs=FS at*;simp[at1,at0,hp,z,-Wv]
def U8(fs ts:List Str):Nat->List (List Str)->List NK
 |_,[]=>[]
 |i,r::rs=>(match r.mapM (W2 fs ts)with|some l=>[(.inr ((i:Int),l):NK)]|none=>[])++U8 fs ts (i+1) rs
noncomputable abbrev Yr(r:List Str):D:=.lst (r.map D.str)
def Zsn(fs ts:List Str):D->D
 | .str f=>.bl (W2 fs ts f).isSome
 |_=>.non
def Zlm(fs ts:List Str):D->D
 | .str f=>.str ((W2 fs ts f).getD "")
 |_=>.non
theorem Zgr(fs ts j)(r:List Str)(hr:r.length<=100):
  Yb [.own,.cap j,.acc] 2 (Zd 0) Q7 Gen.Uj (r.map D.str) [aB,aA (.fz (.dK (Yt fs) (ts.map D.str))),aA (.ol [])]=aA [aB,aA (.fz (.dK (Yt fs) (ts.map D.str))),aA (.ol (r.map λf=>.bl (W2 fs ts f).isSome))]:=by
 have c:=Cq (te:=Gen.Uj) (f:=Zsn fs ts) (c:=aA (.fz (.dK (Yt fs) (ts.map D.str)))) (j:=j) (r.map D.str) [] (λx hx zs=>by
  obtain⟨f,hf,rfl⟩:=ax.mp hx;have l:=(Cr f fs (ts.map D.str)).trans (Gh fs ts f);unfold Gen.Uj Zsn;generalize ts.map D.str=TS at*;generalize Yt fs=FS at*;simp[l,-look]) (by rw[aq];simp;omega)
 rw[c,d7,cg];rfl
theorem Zgs(fs ts j)(r:List Str)(hr:r.length<=100)(hh:∀f∈r,(W2 fs ts f).isSome):
  Yb [.own,.cap j,.acc] 2 (Zd 0) Q7 Gen.Uk (r.map D.str) [aB,aA (.fz (.dK (Yt fs) (ts.map D.str))),aA (.ol [])]=aA [aB,aA (.fz (.dK (Yt fs) (ts.map D.str))),aA (.ol (r.map λf=>.str ((W2 fs ts f).getD "")))]:=by
 have c:=Cq (te:=Gen.Uk) (f:=Zlm fs ts) (c:=aA (.fz (.dK (Yt fs) (ts.map D.str)))) (j:=j) (r.map D.str) [] (λx hx zs=>by
  obtain⟨f,hf,rfl⟩:=ax.mp hx;have l:=(Cr f fs (ts.map D.str)).trans (Gh fs ts f);obtain⟨v,hv⟩:=Option.isSome_iff_exists.mp (hh f hf);rw[hv]at l;have g:Zlm fs ts (.str f)= .str v:=by show D.str ((W2 fs ts f).getD "")=_;rw[hv];rfl
  rw[g];unfold Gen.Uk;generalize ts.map D.str=TS at*;generalize Yt fs=FS at*;simp[l,-look]) (by rw[aq];simp;omega)
 rw[c,d7,cg];rfl
theorem Vj(fs ts):∀r:List Str,r.mapM (W2 fs ts)=if(∀f∈r,(W2 fs ts f).isSome)then aA (r.map λf=>(W2 fs ts f).getD "")else aB
 | []=>by simp
 |f::r=>by
  rw[List.mapM_cons,Vj fs ts r];cases h:W2 fs ts f with
  |none=>simp[h]
  |some v=>
   by_cases h2:∀f∈r,(W2 fs ts f).isSome
   .rw[if_pos h2,if_pos λg hg=>(bx.mp hg).elim (λz=>by rw[z,h];rfl) λz=>h2 g z];simp[h]
   .rw[if_neg h2,if_neg λz=>h2 λg hg=>z g (ao _ hg)];rfl
theorem Lc:∀(r:List Str) p,bools? (r.map λf=>D.bl (p f))=aA (r.map p)
 | [],p=>rfl
 |f::r,p=>by have:=Lc r p;rw[bc,bc];simp[this]
theorem Ho(fs ts R)(M:List NK)(n:Nat)(r)(hr:r.length<=100)(hM:M.length<=100):
  Gen.Q0 [aA (.fz (.dK (Yt fs) (ts.map D.str))),R,aA (.ol (M.map Zn)),aA (.fz (.int (n:Int))),aA (.fz (Yr r))]=
  aA (.nx [aA (.fz (.dK (Yt fs) (ts.map D.str))),R,aA (.ol ((M++(match r.mapM (W2 fs ts)with|some l=>[(.inr ((n:Int),l):NK)]|none=>[])).map Zn)),aA (.fz (.int (n:Int))),aA (.fz (Yr r))]):=by
 have h1:=Zgr fs ts 0 r hr;have b:=Lc r λf=>(W2 fs ts f).isSome;have z1:M.length<PySem.sizeLine:=Yd (by omega);unfold Gen.Q0;rw[Vj];by_cases h:∀f∈r,(W2 fs ts f).isSome
 .have h2:=Zgs fs ts 0 r hr h;rw[if_pos h];have al:(r.map λf=>(W2 fs ts f).isSome).all id=aC:=by rw[List.all_map];exact List.all_eq_true.mpr λf hf=>h f hf
  generalize ts.map D.str=TS at*;generalize Yt fs=FS at*;simp[h1,h2,b,al,z1,s2,-Yb];unfold Zn;simp
 .rw[if_neg h];have al:(r.map λf=>(W2 fs ts f).isSome).all id=aD:=by rw[List.all_map,Bool.eq_false_iff];exact λz=>h λf hf=>List.all_eq_true.mp z f hf
  generalize ts.map D.str=TS at*;generalize Yt fs=FS at*;simp[h1,b,al,z1,-Yb]
theorem Ib(fs ts R):∀rs n M x3 x4,(∀r∈rs,r.length<=100)->M.length+rs.length<=100->∃y3 y4,
  Z7 (Wj 2 (Zt (Zd 3) (Zt (Zd 4) Wi))) Gen.Q0 (((rs.map Yr).zipIdx n).map λp=>D.tup [.int (p.2:Nat),p.1]) [aA (.fz (.dK (Yt fs) (ts.map D.str))),R,aA (.ol (M.map Zn)),x3,x4]=
  aA (.nx [aA (.fz (.dK (Yt fs) (ts.map D.str))),R,aA (.ol ((M++U8 fs ts n rs).map Zn)),y3,y4])
 | [],n,M,x3,x4,_,_=>⟨x3,x4,by simp[U8]⟩
 |r::rs,n,M,x3,x4,hr,hM=>by
  rw[bf]at hM;have t:=Ho fs ts R M n r (hr r af) (by omega);obtain⟨y3,y4,ih⟩:=Ib fs ts R rs (n+1) (M++(match r.mapM (W2 fs ts)with|some l=>[(.inr ((n:Int),l):NK)]|none=>[])) (aA (.fz (.int (n:Int)))) (aA (.fz (Yr r))) (λq hq=>hr q (ao _ hq)) (by
   rw[aw];cases r.mapM (W2 fs ts)<;> simp<;> omega)
  refine⟨y3,y4,?_⟩;rw[bc,List.zipIdx_cons,bc,U8];rw[gn]at ih;have e:∀δ,(Wj 2 (Zt (Zd 3) (Zt (Zd 4) Wi))).run (.tup [.int (n:Nat),Yr r]) [aA (.fz (.dK (Yt fs) (ts.map D.str))),R,aA (.ol (M.map Zn)),x3,x4]=aA δ->δ=[aA (.fz (.dK (Yt fs) (ts.map D.str))),R,aA (.ol (M.map Zn)),aA (.fz (.int (n:Int))),aA (.fz (Yr r))]:=λδ h=>by simpa using h.symm
  unfold Z7;generalize ts.map D.str=TS at*;generalize Yt fs=FS at*;rw[show(Wj 2 (Zt (Zd 3) (Zt (Zd 4) Wi))).run (.tup [.int (n:Nat),Yr r]) [aA (.fz (.dK FS TS)),R,aA (.ol (M.map Zn)),x3,x4]=aA [aA (.fz (.dK FS TS)),R,aA (.ol (M.map Zn)),aA (.fz (.int (n:Int))),aA (.fz (Yr r))]from by simp];dsimp only[c6];rw[t];exact ih
theorem marks_of(fs ts rs)(hr:∀r∈rs,r.length<=100)(hn:rs.length<=100):Gen.U7 [.dK (Yt fs) (ts.map D.str),.lst (rs.map Yr)]=aA (.ol ((U8 fs ts 0 rs).map Zn)):=by obtain⟨y3,y4,e⟩:=Ib fs ts (aA (.fz (.lst (rs.map Yr)))) rs 0 [] aB aB hr (by simpa using hn);rw[d7]at e;have e2:Js (rs.map Yr)=(((rs.map Yr).zipIdx 0).map λp=>D.tup [.int (p.2:Nat),p.1]):=rfl;unfold Gen.U7 Gen.Rf;rw[<-e2]at e;generalize ts.map D.str=TS at*;generalize Yt fs=FS at*;generalize rs.map Yr=RS at*;generalize (U8 fs ts 0 rs).map Zn=MS at*;have e:Z7 (Wj 2 (Zt (Zd 3) (Zt (Zd 4) Wi))) Gen.Q0 (Js RS) [aA (.fz (.dK FS TS)),aA (.fz (.lst RS)),aA (.ol []),aB,aB]=_:=e;simp[e,-Z7]
structure Wk where
 key:Str
 kind:Str
 fs:List Str
 ts:List Str
structure WkOk(w:Wk):Prop where
 len:w.fs.length=w.ts.length
 nd:w.fs.Nodup
 few:w.fs.length<=10
 nk:J3∉w.fs
abbrev Wk.at'(w:Wk):List Str:=w.fs++[J3]
noncomputable abbrev Wk.vt(w:Wk):List Str:=w.ts++[w.kind]
abbrev Wk.val(w:Wk)(f:Str):Str:=(W2 w.at' w.vt f).getD ""
abbrev Wk.d(w:Wk):D:=Za1 w.kind w.fs w.ts
abbrev C6(b k:Str):NK:=.inl [b,k]
def Wk.tri(b:Str)(w:Wk):List T0:=(w.at'.filter λf=>decide (f≠Zgq)).map λf=>(f,w.val f,[C6 b w.key])
abbrev Wk.marks(rs:List (List Str))(w:Wk):List NK:=U8 w.at' w.vt 0 rs
def Qt(b:Str)(rs:List (List Str))(w:Wk):HP:=⟨[C6 b w.key],w.marks rs,w.tri b⟩
theorem Ic:∀fs ts f,fs.length=ts.length->(f∈fs↔(W2 fs ts f).isSome=aC)
 | [],[],f,_=>by simp[W2]
 | [],_::_,f,h=>by simp at h
 |_::_,[],f,h=>by simp at h
 |x::fs,t::ts,f,h=>by
  have ih:=Ic fs ts f (by simpa using h);unfold W2 at*;rw[List.zip_cons_cons,im,bx,ih];by_cases e:f=x
  .subst e;simp
  .have:(f==x)=aD:=beq_eq_false_iff_ne.mpr e;rw[this];simp[e]
theorem M6(fs ts nm)(hl:fs.length=ts.length):∀(xs:List Str) zs,(∀x∈xs,x∈fs)->zs.length+xs.length<=1000->
  Yb [.own,.cap 3,.cap 0,.acc] 3 (Zd 0) Gen.Qh Gen.Jl (xs.map D.str) [aB,aA (.fz (.dK (Yt fs) (ts.map D.str))),aA (.fz nm),aA (.ol zs)]=
  aA [aB,aA (.fz (.dK (Yt fs) (ts.map D.str))),aA (.fz nm),aA (.ol (zs++(xs.filter λf=>decide (f≠Zgq)).map λf=>D.tup [.str f,.str ((W2 fs ts f).getD ""),.lst [nm]]))]
 | [],zs,_,_=>by simp
 |x::xs,zs,h,hz=>by
  rw[bf]at hz;obtain⟨v,hv⟩:=Option.isSome_iff_exists.mp ((Ic fs ts x hl).mp (h x af));have l:=(Cr x fs (ts.map D.str)).trans (Gh fs ts x);rw[hv]at l;have z1:zs.length<PySem.sizeLine:=Yd (by omega);rw[bc,List.filter_cons];unfold Yb;by_cases hx:x=Zgq
  .have ih:=M6 fs ts nm hl xs zs (λy hy=>h y (ao _ hy)) (by omega);rw[if_neg (by simp[hx])];generalize ts.map D.str=TS at*;generalize Yt fs=FS at*;rw[show Gen.Qh=Ys (Zm neX (Za 0) (Zf (.str "note")))from rfl]at*;simp[hx,-Yb,-look];simpa[-Yb,-look]using ih
  .have ih:=M6 fs ts nm hl xs (zs++[D.tup [.str x,.str ((W2 fs ts x).getD ""),.lst [nm]]]) (λy hy=>h y (ao _ hy)) (by rw[aw];simp;omega);rw[if_pos (by simp[hx]),bc];rw[gn]at ih;generalize ts.map D.str=TS at*;generalize Yt fs=FS at*;have e0:∀q,Gen.Qh [aA (SV.fz (D.str x)),aA (.fz (.dK FS TS)),aA (.fz nm),aA (.ol q)]=aA (aC,[aA (SV.fz (D.str x)),aA (.fz (.dK FS TS)),aA (.fz nm),aA (.ol q)]):=λq=>by unfold Gen.Qh;simp[hx]
   have e1:∀q,Gen.Jl [aA (SV.fz (D.str x)),aA (.fz (.dK FS TS)),aA (.fz nm),aA (.ol q)]=aA (.tmp (.fz (D.tup [.str x,.str v,.lst [nm]])),[aA (SV.fz (D.str x)),aA (.fz (.dK FS TS)),aA (.fz nm),aA (.ol q)]):=λq=>by unfold Gen.Jl;simp[l,s1,s3,-look]
   rw[hv]at ih⊢;simp[e0,e1,z1,-Yb,-look];simpa[-Yb,-look]using ih
theorem M7(xs):(Yt xs).map Rw=xs.map D.str:=by rw[cg];rfl
theorem lone_heap(b rs w)(ok:WkOk w)(hr:∀r∈rs,r.length<=100)(hn:rs.length<=100):
  Gen.Qr [Zn (C6 b w.key),w.d,.lst (rs.map Yr)]=aA (.fz (Z0 (Qt b rs w))):=by
 have o:Gen.Qq [w.d]=aA (.oK (Yt w.at') (w.vt.map D.str)):=own_texts w.kind w.fs w.ts ok.len (by have:=ok.len;have:=ok.few;omega) ok.nk;have hl:w.at'.length=w.vt.length:=by simp[ok.len]
 have m:=marks_of w.at' w.vt rs hr hn;have c:=M6 w.at' w.vt (Zn (C6 b w.key)) hl w.at' [] (λx hx=>hx) (by have:=ok.few;simp;omega);have ek:=M7 w.at';have el:(Qt b rs w).fs.map Wm=(w.at'.filter λf=>decide (f≠Zgq)).map λf=>D.tup [.str f,.str (w.val f),.lst [Zn (C6 b w.key)]]:=by show(w.tri b).map Wm=_;unfold Wk.tri;rw[cg];rfl
 have en:(Qt b rs w).ns.map Zn=[Zn (C6 b w.key)]:=rfl;have em:(Qt b rs w).ms=w.marks rs:=rfl;unfold Gen.Qr Gen.C0 Z0;rw[el,en,em];rw[d7]at c;have ev:∀f,w.val f=(W2 w.at' w.vt f).getD "":=λ_=>rfl;generalize Zn (C6 b w.key)=NM at*;generalize hM:(w.marks rs).map Zn=MS at*;generalize w.d=W at*;generalize w.at'=AT at*;generalize w.vt=VT at*;generalize VT.map D.str=TS at*;generalize Yt AT=FS at*;simp[o,m,c,ek,s1,s3,hM,ev,-Yb,-look]
abbrev Zz(ws:List Wk):D:=.dK (Yt (ws.map Wk.key)) (ws.map Wk.d)
theorem Hq{ws:List Wk}(nd:(ws.map Wk.key).Nodup)(h:w∈ws):look (Yt (ws.map Wk.key)) (ws.map Wk.d) (d3 w.key)=aA w.d:=by rw[Cr];obtain⟨i,hi,rfl⟩:=eh h;exact Zga nd (by simp) i _ _ (by simp[hi]) (by simp[hi])
theorem Ld(b rs ws)(nd:(ws.map Wk.key).Nodup)(ok:∀w∈ws,WkOk w)(hr:∀r∈rs,r.length<=100)(hn:rs.length<=100):∀(xs:List Wk) zs,(∀x∈xs,x∈ws)->zs.length+xs.length<=1000->
  Yb [.own,.cap 2,.cap 0,.cap 1,.acc] 4 (Zd 0) Q7 Gen.Oh ((xs.map Wk.key).map D.str) [aB,aA (.fz (.lst (rs.map Yr))),aA (.fz (.str b)),aA (.fz (Zz ws)),aA (.ol zs)]=
  aA [aB,aA (.fz (.lst (rs.map Yr))),aA (.fz (.str b)),aA (.fz (Zz ws)),aA (.ol (zs++(xs.map (Qt b rs)).map Z0))]
 | [],zs,_,_=>by simp
 |x::xs,zs,h,hz=>by
  rw[bf]at hz;have ih:=Ld b rs ws nd ok hr hn xs (zs++[Z0 (Qt b rs x)]) (λy hy=>h y (ao _ hy)) (by rw[aw];simp;omega);have hx:=h x af;have l:=Hq nd hx;have lo:Gen.Qr [.tup [.str b,.str x.key],x.d,.lst (rs.map Yr)]=aA (.fz (Z0 (Qt b rs x))):=lone_heap b rs x (ok x hx) hr hn;have z1:zs.length<PySem.sizeLine:=Yd (by omega);rw[gn]at ih;rw[bc,bc,bc,bc];have e1:∀q,Gen.Oh [aA (.fz (.str x.key)),aA (.fz (.lst (rs.map Yr))),aA (.fz (.str b)),aA (.fz (Zz ws)),aA (.ol q)]=aA (.tmp (.fz (Z0 (Qt b rs x))),[aA (.fz (.str x.key)),aA (.fz (.lst (rs.map Yr))),aA (.fz (.str b)),aA (.fz (Zz ws)),aA (.ol q)]):=λq=>by unfold Gen.Oh;unfold Zz;unfold Z0 at lo⊢;generalize [D.lst ((Qt b rs x).ns.map Zn),.lst ((Qt b rs x).ms.map Zn),.lst ((Qt b rs x).fs.map Wm)]=HH at*;generalize x.d=XD at*;generalize ws.map Wk.d=WD at*;generalize Yt (ws.map Wk.key)=WK at*;generalize rs.map Yr=RD at*;simp[l,lo,s2,-look]
  unfold Zz at e1 ih⊢;generalize Z0 (Qt b rs x)=HH at*;generalize ws.map Wk.d=WD at*;generalize Yt (ws.map Wk.key)=WK at*;generalize rs.map Yr=RD at*;unfold Yb;simp[e1,z1,-Yb];simpa[-Yb]using ih
theorem Zso(ok:WkOk w):w.at'.Nodup:=dq.mpr ⟨ok.nd,by simp,λa ha c hc e=>ok.nk (by rw[<-ar.mp hc,<-e];exact ha)⟩
theorem Ie:∀fs ts rs n,∀m∈U8 fs ts n rs,∃(j:Nat) (l:List Str),m= .inr ((j:Int),l)/\n<=j/\∃r,rs[j- n]? =aA r/\r.mapM (W2 fs ts)=aA l
 |fs,ts,[],n,m,h=>nomatch h
 |fs,ts,r::rs,n,m,h=>by
  rw[U8]at h;rcases bz.mp h with z|z
  .cases e:r.mapM (W2 fs ts)with
   |none=>rw[e]at z;cases z
   |some l=>rw[e]at z;exact⟨n,l,ar.mp z,ba _,r,by simp,e⟩
  .obtain⟨j,l,e,hj,r',h1,h2⟩:=Ie fs ts rs (n+1) m z;refine⟨j,l,e,by omega,r',?_,h2⟩;rw[show j- n=(j- (n+1))+1 by omega];exact h1
theorem M8:∀fs ts rs n,(U8 fs ts n rs).length<=rs.length
 |fs,ts,[],n=>ba _
 |fs,ts,r::rs,n=>by rw[U8,aw,bf];have:=M8 fs ts rs (n+1);cases r.mapM (W2 fs ts)<;> simp<;> omega
structure Shw(rs:List (List Str))(ws:List Wk):Prop where
 nd:(ws.map Wk.key).Nodup
 ok:∀w∈ws,WkOk w
 few:ws.length<=40
 m64:ws.length*rs.length<64
 rl:∀r∈rs,r.length<=100
 rn:rs.length<=60
theorem Zco(b w)(ok:WkOk w):((w.tri b).map Y5).Nodup:=by unfold Wk.tri;rw[cg];refine List.pairwise_map.mpr (((Zso ok).filter _).imp fun{x y} h e=>h ?_);have e:=Sum.inl.inj e;exact(List.cons.inj e).1
theorem Za2(t):∀fs,(fs.map Y5).Nodup->(∀x∈fs,x.2.2.length=1)->Fi t fs<=1
 | [],_,_=>by simp[Fi]
 |x::fs,nd,h=>by
  obtain⟨n1,n2⟩:=dm.mp nd;have ih:=Za2 t fs n2 λy hy=>h y (ao _ hy);rw[Be];by_cases e:Y5 x=t
  .have z:Fi t fs=0:=by
    have:∀l:List T0,t∉l.map Y5->Fi t l=0:=λl=>by
     induction l with
     |nil=>intro _;simp[Fi]
     |cons y l ih=>intro hn;rw[Be,if_neg λz=>hn (by rw[<-z];simp),ih λz=>hn (ao _ z)]
    exact this fs (by rw[<-e];exact n1)
   rw[if_pos e,z,h x af];decide
  .rw[if_neg e];omega
theorem W3{α:Type}(w B):∀l:List α,(∀x∈l,w x<=B)->(l.map w).sum<=l.length*B
 | [],_=>by simp
 |x::l,h=>by have:=W3 w B l λy hy=>h y (ao _ hy);have:=h x af;rw[bc,List.sum_cons,bf,Nat.add_mul];omega
theorem Zgt(b rs ws)(s:Shw rs ws)(hp:∃ps:List NK,ps.length<64/\∀w∈ws,∀x∈w.tri b,Y5 x∈ps):Tot (ws.map (Qt b rs)):=by
 have few:=s.few;have tl1:∀w:Wk,∀x∈w.tri b,x.2.2=[C6 b w.key]:=λw x hx=>by obtain⟨f,_,rfl⟩:=ax.mp hx;rfl
 have ml:∀w:Wk,(w.marks rs).length<=rs.length:=λw=>M8 w.at' w.vt rs 0;have fl:∀w∈ws,(w.tri b).length<=11:=λw hw=>by
  unfold Wk.tri;rw[aq];have:=List.length_filter_le (λf=>decide (f≠Zgq)) w.at';have h2:w.at'.length=w.fs.length+1:=by simp
  have:=(s.ok w hw).few;omega
 refine⟨⟨λh hh=>?_,λh hh k hk=>?_,λh hh k hk=>?_,λh hh x hx k hk=>?_,?_,?_,λt=>?_,by rw[aq];omega,?_,?_⟩,λh hh=>?_⟩
 .obtain⟨w,hw,rfl⟩:=ax.mp hh;have:=ml w;have:=s.rn;exact⟨by show[C6 b w.key].length<=_;simp,by show(w.marks rs).length<=_;omega,λx hx=>by rw[tl1 w x hx];simp⟩
 .obtain⟨w,hw,rfl⟩:=ax.mp hh;exact⟨b,[w.key],ar.mp hk⟩
 .obtain⟨w,hw,rfl⟩:=ax.mp hh;obtain⟨j,l,e,_⟩:=Ie _ _ _ _ k (show k∈w.marks rs from hk);exact⟨j,l,e⟩
 .obtain⟨w,hw,rfl⟩:=ax.mp hh;rw[tl1 w x hx]at hk;exact⟨b,[w.key],ar.mp hk⟩
 .rw[List.length_flatMap,cg];have:=W3 ((λh:HP=>h.ns.length)∘Qt b rs) 1 ws λw _=>ba _;exact ib this (by omega)
 .rw[List.length_flatMap,cg];exact ib (W3 ((λh:HP=>h.ms.length)∘Qt b rs) rs.length ws λw _=>ml w) s.m64
 .unfold tlG;rw[cg];have:=W3 ((λh:HP=>Fi t h.fs)∘Qt b rs) 1 ws λw hw=>Za2 t (w.tri b) (Zco b w (s.ok w hw)) λx hx=>by rw[tl1 w x hx];rfl
  exact ib this (by omega)
 .unfold Tr;rw[cg];have:=W3 ((λh:HP=>h.fs.length)∘Qt b rs) 11 ws λw hw=>fl w hw;exact dk this (by omega)
 .obtain⟨ps,h1,h2⟩:=hp;refine⟨ps,h1,λt zq9=>?_⟩;obtain⟨h,hh,x,hx,e⟩:=zq9;obtain⟨w,hw,rfl⟩:=ax.mp hh;rw[e];exact h2 w hw x hx
 .obtain⟨w,hw,rfl⟩:=ax.mp hh;exact λz=>nomatch z
theorem pool_of(b rs ws)(s:Shw rs ws)(hp:∃ps:List NK,ps.length<64/\∀w∈ws,∀x∈w.tri b,Y5 x∈ps):∃out,IsPool (· ∈ws.map (Qt b rs)) out/\(∀h∈out,HPok h)/\out.length<=ws.length/\Gen.Wn [.str b,Zz ws,.lst (rs.map Yr)]=aA (.ol (out.map Z0)):=by have c:=Ld b rs ws s.nd s.ok s.rl (by have:=s.rn;omega) ws [] (λ_ h=>h) (by have:=s.few;simp;omega);rw[d7]at c;obtain⟨out,p,ok,len,j⟩:=joined (ws.map (Qt b rs)) (Zgt b rs ws s hp);refine⟨out,p,ok,by rw[aq]at len;exact len,?_⟩;have ek:=M7 (ws.map Wk.key);unfold Gen.Wn Gen.M3;unfold Zz at c⊢;generalize out.map Z0=OUT at*;generalize (ws.map (Qt b rs)).map Z0=LH at*;generalize ws.map Wk.d=WD at*;generalize Yt (ws.map Wk.key)=WK at*;generalize rs.map Yr=RD at*;generalize (ws.map Wk.key).map D.str=KS at*;simp[c,j,ek,-Yb]
end My
namespace My
open DL PySem TT TX
structure Uni(U V W:List NK)(S:HP->Prop):Prop where
 ne:∀a,S a->a.ns≠[]
 ns:∀a,S a->∀k∈a.ns,k∈U/\Rb k
 ms:∀a,S a->∀k∈a.ms,k∈V/\isM k
 fs:∀a,S a->∀x∈a.fs,Y5 x∈W/\∀k∈x.2.2,k∈a.ns
theorem Uni.or{S:HP->Prop}(s:Uni U V W S)(t:Uni U V W T):Uni U V W λa=>S a\/T a:=
 ⟨λa h=>h.elim (s.ne a) (t.ne a),λa h=>h.elim (s.ns a) (t.ns a),λa h=>h.elim (s.ms a) (t.ms a),λa h=>h.elim (s.fs a) (t.fs a)⟩
theorem Gi{S}(u:Uni U V W S)(sa:S a)(m:IsMerge (Conn S a) h):h.ns≠[]/\(∀k∈h.ns,k∈U/\Rb k)/\(∀k∈h.ms,k∈V/\isM k)/\∀x∈h.fs,Y5 x∈W/\∀k∈x.2.2,k∈h.ns:=by
 refine⟨λz=>?_,λk hk=>?_,λk hk=>?_,λx hx=>⟨?_,λk hk=>?_⟩⟩
 .obtain⟨k,l,ek⟩:=ic (u.ne a sa);have:=(m.ns_m k).mpr ⟨a,.here sa,by rw[ek];exact af⟩;rw[z]at this;cases this
 .obtain⟨b,c,hk⟩:=(m.ns_m k).mp hk;exact u.ns b c.right k hk
 .obtain⟨b,c,hk⟩:=(m.ms_m k).mp hk;exact u.ms b c.right k hk
 .obtain⟨b,c,l,hl⟩:=(m.fs_m x.1 x.2.1).mp ⟨x.2.2,hx⟩;exact(u.fs b c.right _ hl).1
 .obtain⟨b,c,l,hl,hk⟩:=((m.fs_l x hx).2 k).mp hk;exact(m.ns_m k).mpr ⟨b,c,(u.fs b c.right _ hl).2 k hk⟩
theorem C7{S}(u:Uni U V W S)(p:IsPool S P):Uni U V W (· ∈P):=
 ⟨λh hh=>let⟨_,sa,m⟩:=p.each h hh;(Gi u sa m).1,λh hh=>let⟨_,sa,m⟩:=p.each h hh;(Gi u sa m).2.1,λh hh=>let⟨_,sa,m⟩:=p.each h hh;(Gi u sa m).2.2.1,λh hh=>let⟨_,sa,m⟩:=p.each h hh;(Gi u sa m).2.2.2⟩
theorem Ig{S}(p:IsPool S P):P.Pairwise λh h'=>∀t,t∈Ui h->t∉Ui h':=by
 refine(gz.mp p.sorted).imp fun{h h'} ⟨hh,hh',lt⟩ t t1 t2=>?_;obtain⟨a,sa,m⟩:=p.each h hh;obtain⟨a',sa',m'⟩:=p.each h' hh';obtain⟨b,c,tb⟩:=(m.tie t).mp t1;obtain⟨b',c',tb'⟩:=(m'.tie t).mp t2;have cc:Conn S a a':=(Conn.step c c'.right ⟨t,tb,tb'⟩).trans c'.symm;have:h=h':=m.uniq m' λx=>⟨λz=>cc.symm.trans z,λz=>cc.trans z⟩
 rw[this]at lt;exact fg _ lt
structure Small(u v w:Nat)(P:List HP):Prop where
 ns:(P.flatMap HP.ns).length<=u
 ms:(P.flatMap HP.ms).length<=v
 tl:∀t,tlG t P<=u
 cn:Tr P<=P.length*w
 ln:P.length<=u
 fw:∀h∈P,h.ns.length<=u/\h.ms.length<=v/\∀x∈h.fs,x.2.2.length<=u
theorem Zgu(t B):∀fs,(fs.map Y5).Nodup->(∀x∈fs,x.2.2.length<=B)->Fi t fs<=B
 | [],_,_=>by simp[Fi]
 |x::fs,nd,h=>by
  obtain⟨n1,n2⟩:=dm.mp nd;have ih:=Zgu t B fs n2 λy hy=>h y (ao _ hy);rw[Be];by_cases e:Y5 x=t
  .have z:Fi t fs=0:=by
    have:∀l:List T0,t∉l.map Y5->Fi t l=0:=λl=>by
     induction l with
     |nil=>intro _;simp[Fi]
     |cons y l ih=>intro hn;rw[Be,if_neg λz=>hn (by rw[<-z];simp),ih λz=>hn (ao _ z)]
    exact this fs (by rw[<-e];exact n1)
   rw[if_pos e,z];exact h x af
  .rw[if_neg e];omega
theorem Zsp:∀l:List HP,(l.map λ_=>1).sum=l.length
 | []=>rfl
 |h::l=>by rw[bc,List.sum_cons,Zsp l,bf];omega
theorem B9{S}(u:Uni U V W S)(p:IsPool S P):Small U.length V.length W.length P:=by
 have q:=C7 u p;have ap:=Ig p;have srt:∀h∈P,h.ns.Pairwise kLt/\h.ms.Pairwise kLt/\h.fs.Pairwise tLt/\∀x∈h.fs,x.2.2.Pairwise kLt:=λh hh=>by obtain⟨a,sa,m⟩:=p.each h hh;exact⟨m.ns_s,m.ms_s,m.fs_s,λx hx=>(m.fs_l x hx).1⟩
 have ndN:(P.flatMap HP.ns).Nodup:=List.pairwise_flatMap.mpr ⟨λh hh=>W8 (srt h hh).1,ap.imp fun{h h'} z x hx y hy e=>z x (bj _ hx) (by rw[e];exact bj _ hy)⟩;have ndM:(P.flatMap HP.ms).Nodup:=List.pairwise_flatMap.mpr ⟨λh hh=>W8 (srt h hh).2.1,ap.imp fun{h h'} z x hx y hy e=>z x (bh _ hx) (by rw[e];exact bh _ hy)⟩;have nsl:∀h∈P,h.ns.length<=U.length:=λh hh=>da (W8 (srt h hh).1) λk hk=>(q.ns h hh k hk).1;have ndP:∀h∈P,(h.fs.map Y5).Nodup:=λh hh=>List.pairwise_map.mpr ((srt h hh).2.2.1.imp fun{x y} lt e=>by
  have e:=Sum.inl.inj e;have e1:=(List.cons.inj e).1;have e2:=(List.cons.inj (List.cons.inj e).2).1;have:Ww x=Ww y:=by unfold Ww;rw[e1,e2]
  have lt:Ww x<Ww y:=lt;rw[this]at lt;exact fg _ lt)
 have tol:∀h∈P,∀x∈h.fs,x.2.2.length<=h.ns.length:=λh hh x hx=>da (W8 ((srt h hh).2.2.2 x hx)) λk hk=>(q.fs h hh x hx).2 k hk;have n1:(P.flatMap HP.ns).length<=U.length:=da ndN λk hk=>by obtain⟨h,hh,hk⟩:=gg.mp hk;exact(q.ns h hh k hk).1
 have sum_mono:∀(w w':HP->Nat) (l:List HP),(∀h∈l,w h<=w' h)->(l.map w).sum<=(l.map w').sum:=λw w' l=>by
  induction l with
  |nil=>intro _;simp
  |cons h l ih=>intro z;have:=ih λg hg=>z g (ao _ hg);have:=z h af;simp only[bc,List.sum_cons];omega
 refine⟨n1,da ndM λk hk=>?_,λt=>?_,?_,?_,λh hh=>⟨nsl h hh,da (W8 (srt h hh).2.1) λk hk=>(q.ms h hh k hk).1,λx hx=>dk (tol h hh x hx) (nsl h hh)⟩⟩
 .obtain⟨h,hh,hk⟩:=gg.mp hk;exact(q.ms h hh k hk).1
 .refine dk ?_ n1;rw[List.length_flatMap];exact sum_mono _ _ P λh hh=>Zgu t _ h.fs (ndP h hh) (tol h hh)
 .exact W3 (λh:HP=>h.fs.length) W.length P λh hh=>by
   have:=da (ndP h hh) (l₂:=W) λk hk=>by obtain⟨x,hx,rfl⟩:=ax.mp hk;exact(q.fs h hh x hx).1
   rw[aq]at this;exact this
 .refine dk ?_ n1;rw[List.length_flatMap];have:=sum_mono (λ_=>1) (λh=>h.ns.length) P λh hh=>by have:=q.ne h hh;exact List.length_pos_iff.mpr this
  have e1:=Zsp P;exact dk (Nat.le_of_eq e1.symm) this
theorem Zgv{S:HP->Prop}(u:Uni U V W S)(u':Uni U V W T)(p:IsPool S P)(q:IsPool T Q)(hU:U.length<=31)(hV:V.length<=31)(hW:W.length<64):Tot (P++Q):=by
 have s:=B9 u p;have s':=B9 u' q;have b:=(C7 u p)
 have b':=(C7 u' q)
 have or:∀h,h∈P++Q->h∈P\/h∈Q:=λh=>bz.mp;have ub:=b.or b';refine⟨⟨λh hh=>?_,λh hh k hk=>(ub.ns h (or h hh) k hk).2,λh hh k hk=>(ub.ms h (or h hh) k hk).2,λh hh x hx k hk=>(ub.ns h (or h hh) k ((ub.fs h (or h hh) x hx).2 k hk)).2,?_,?_,λt=>?_,?_,?_,W,hW,λt ⟨h,hh,x,hx,e⟩=>by rw[e];exact(ub.fs h (or h hh) x hx).1⟩,λh hh=>ub.ne h (or h hh)⟩
 .rcases or h hh with z|z
  .obtain⟨z1,z2,z3⟩:=s.fw h z;exact⟨by omega,by omega,λx hx=>by have:=z3 x hx;omega⟩
  .obtain⟨z1,z2,z3⟩:=s'.fw h z;exact⟨by omega,by omega,λx hx=>by have:=z3 x hx;omega⟩
 .rw[List.flatMap_append,aw];have:=s.ns;have:=s'.ns;omega
 .rw[List.flatMap_append,aw];have:=s.ms;have:=s'.ms;omega
 .unfold tlG;rw[b9,List.sum_append];have h1:=s.tl t;have h2:=s'.tl t;unfold tlG at h1 h2;omega
 .rw[aw];have:=s.ln;have:=s'.ln;omega
 .unfold Tr;rw[b9,List.sum_append];have h1:=s.cn;have h2:=s'.cn;unfold Tr at h1 h2;have l1:=s.ln;have l2:=s'.ln;have m1:P.length*W.length<=31*63:=Nat.mul_le_mul (by omega) (by omega);have m2:Q.length*W.length<=31*63:=Nat.mul_le_mul (by omega) (by omega);omega
end My
namespace My
open DL PySem TT TX
def Num(x:Int):Prop:=0<=x/\x<2147483647
theorem Zgw(h:0<m/\m<=2147483647)(x):Num (x % m):=⟨f9 _ (by omega),Int.lt_of_lt_of_le (d8 _ h.1) h.2⟩
theorem Gx(a b):∀n s (ms:List Int) x y,(∀m∈ms,Num m)->ms.length+n<=1000->
  ∃(ms':List Int) (x':Int) (y':Option SV),Z7 (Zd 4) Gen.Qj (Ce s n) [a,b,aA (.ol (ms.map D.int)),aA (.fz (.int x)),y]=aA (.nx [a,b,aA (.ol (ms'.map D.int)),aA (.fz (.int x')),y'])/\(∀m∈ms',Num m)/\ms'.length=ms.length+n
 |0,s,ms,x,y,h,_=>⟨ms,x,y,rfl,h,rfl⟩
 |n+1,s,ms,x,y,h,hl=>by
  have z:ms.length<PySem.sizeLine:=Yd (by omega);have hb:Gen.Qj [a,b,aA (.ol (ms.map D.int)),aA (.fz (.int x)),aA (.fz (.int (s:Int)))]=aA (.nx [a,b,aA (.ol ((ms++[x % 5040]).map D.int)),aA (.fz (.int (x / 5040))),aA (.fz (.int (s:Int)))]):=by unfold Gen.Qj;simp[z]
  obtain⟨ms',x',y',e,h1,h2⟩:=Gx a b n (s+1) (ms++[x % 5040]) (x / 5040) (aA (.fz (.int (s:Int)))) (λm hm=>by
   rcases bz.mp hm with hm|hm
   .exact h m hm
   .rw[ar.mp hm];exact Zgw (by decide) _) (by rw[aw,f8];omega)
  refine⟨ms',x',y',(W7 (ds:=Ce (s+1) n) (by simp) hb).trans e,h1,by rw[h2,aw,f8];omega⟩
theorem Gy(a b):∀n s (ms:List Int) x y,(∀m∈ms,Num m)->ms.length+n<=1000->
  ∃(ms':List Int) (x':Int) (y':Option SV),Z7 (Zd 4) Gen.Qk (Ce s n) [a,b,aA (.ol (ms.map D.int)),aA (.fz (.int x)),y]=aA (.nx [a,b,aA (.ol (ms'.map D.int)),aA (.fz (.int x')),y'])/\(∀m∈ms',Num m)/\ms'.length=ms.length+n
 |0,s,ms,x,y,h,_=>⟨ms,x,y,rfl,h,rfl⟩
 |n+1,s,ms,x,y,h,hl=>by
  have z:ms.length<PySem.sizeLine:=Yd (by omega);have hb:Gen.Qk [a,b,aA (.ol (ms.map D.int)),aA (.fz (.int x)),aA (.fz (.int (s:Int)))]=aA (.nx [a,b,aA (.ol ((ms++[(x+(s:Int)+1)*48271 % 2147483647*69621 % 2147483629]).map D.int)),aA (.fz (.int ((x+(s:Int)+1)*48271 % 2147483647))),aA (.fz (.int (s:Int)))]):=by have hm:=Xq (i:=x+(s:Int)+1) (j:=48271) (by omega);have hm2:=Xq (i:=(x+(s:Int)+1)*48271 % 2147483647) (j:=69621) (by omega);unfold Gen.Qk;simp[hm,hm2,z]
  obtain⟨ms',x',y',e,h1,h2⟩:=Gy a b n (s+1) (ms++[(x+(s:Int)+1)*48271 % 2147483647*69621 % 2147483629]) ((x+(s:Int)+1)*48271 % 2147483647) (aA (.fz (.int (s:Int)))) (λm hm=>by
   rcases bz.mp hm with hm|hm
   .exact h m hm
   .rw[ar.mp hm];exact Zgw (by decide) _) (by rw[aw,f8];omega)
  refine⟨ms',x',y',(W7 (ds:=Ce (s+1) n) (by simp) hb).trans e,h1,by rw[h2,aw,f8];omega⟩
theorem Ih(c)(n:Nat)(h:n<=1000):∃ms:List Int,Gen.Ym [.int c,.int (n:Int)]=aA (.ol (ms.map D.int))/\(∀m∈ms,Num m)/\ms.length=n:=by
 have g1:Mi (n:Int):=Uv (by omega);have et:((n:Int)).toNat=n:=by omega
 by_cases hc:c % 2=1
 .obtain⟨ms,x',y',e,h1,h2⟩:=Gx (aA (.fz (.int c))) (aA (.fz (.int (n:Int)))) n 0 [] (c / 2) aB (λ_ h=>nomatch h) (by simpa using h);refine⟨ms,?_,h1,by simpa using h2⟩;simp only[List.map_nil]at e;unfold Gen.Ym Gen.Jh;simp[-Z7,g1,et,Qp,e,hc]
 .obtain⟨ms,x',y',e,h1,h2⟩:=Gy (aA (.fz (.int c))) (aA (.fz (.int (n:Int)))) n 0 [] (c / 2 % 2147483647) aB (λ_ h=>nomatch h) (by simpa using h);refine⟨ms,?_,h1,by simpa using h2⟩;simp only[List.map_nil]at e;unfold Gen.Ym Gen.Jh;simp[-Z7,g1,et,Qp,e,hc]
theorem Zgx(h:Nam w):w≠J3:=λe=>(h.no 105 (by rw[e];decide+kernel)).1 rfl
noncomputable abbrev PS:=List (Str×Str)
abbrev Ii(ps:PS):List L2.Key:=Yt (ps.map (·.1))
abbrev Ts(ps:PS):List D:=(ps.map (·.2)).map D.str
noncomputable abbrev nS(n:Nat):Str:=Str.ofString (toString ((n:Nat):Int))
noncomputable abbrev ITS:Str:=Str.ofString "It's "
def itT(n:Nat):Str:=ITS++nS n
theorem Zok:∀n<10,(nS n).length<=2:=by decide+kernel
theorem Zjv:ITS.length=5:=by decide+kernel
theorem M9{ms:List Int}(h:j<ms.length):L2.atI (ms.map D.int) (j:Int)=aA (.int ms[j]):=En _ _ _ (by rw[az,av h];rfl)
abbrev oSt(A0 A1 A2 A4 A5 A6:Option SV)(wd:Nat)(ms:List Int)(ps:PS)(x9 x10:Option SV):Yk:=[A0,A1,A2,aA (.fz (.int (wd:Int))),A4,A5,A6,aA (.ol (ms.map D.int)),aA (.oK (Ii ps) (Ts ps)),x9,x10]
theorem Zgy(A0 A1 A2 A4 A5 A6 wd)(h2:2<=wd)(h10:wd<=10)(ms)(hl:ms.length=7)(ps:PS)(hp:ps.length<=10)(j:Nat)(hj:j<3)(f)(hf:f∉ps.map (·.1)):∃ps',(ps'=ps\/∃n<10,ps'=ps++[(f,itT n)])/\
  Gen.Y9 (oSt A0 A1 A2 A4 A5 A6 wd ms ps (aA (.fz (.int (j:Int)))) (aA (.fz (.str f))))=aA (.nx (oSt A0 A1 A2 A4 A5 A6 wd ms ps' (aA (.fz (.int (j:Int)))) (aA (.fz (.str f))))):=by
 have a1:=M9 (ms:=ms) (j:=j) (by omega);have a2:=M9 (ms:=ms) (j:=3+j) (by omega);rw[show(((3+j:Nat)):Int)=3+(j:Int) by omega]at a2;generalize ms[j]'(by omega)=x at a1;generalize ms[3+j]'(by omega)=y at a2;by_cases h:0<x % 4
 .have y0:0<=y % (wd:Int):=f9 _ (by omega);have y1:y % (wd:Int)<(wd:Int):=d8 _ (by omega);obtain⟨n,hn⟩:∃n:Nat,(n:Int)=y % (wd:Int):=⟨(y % (wd:Int)).toNat,by omega⟩
  have n10:n<10:=by omega
  refine⟨ps++[(f,itT n)],.inr ⟨n,n10,rfl⟩,?_⟩;have nl:=Zok n n10;have l1:ITS.length+(nS n).length<=PySem.sizeLine:=Qw (by rw[Zjv];omega);have pp:Wv (Ii ps) (Ts ps) (d3 f) (.str (ITS++nS n))=(Ii (ps++[(f,itT n)]),Ts (ps++[(f,itT n)])):=by unfold Ii Ts itT;rw[Eo,Ep hf];simp
  have z:(Ts ps).length<PySem.sizeLine:=Yd (by simp;omega);have w0:(0:Int)<(wd:Int):=by omega
  have w1:0<wd:=by omega
  have w2:(wd:Int)<1073741824:=by omega
  have g1:((n:Nat):Int).natAbs.log2<1920:=by refine ib (Nat.log2_le_self _) ?_;omega
  have sd:Zb0 [.int (n:Int)]=aA (.fz (.str (nS n))):=by show(if((n:Nat):Int).natAbs.log2<1920 then _ else _)=_;rw[if_pos g1]
  unfold Gen.Y9 oSt;generalize Ii (ps++[(f,itT n)])=KK at*;generalize Ts (ps++[(f,itT n)])=VV at*;generalize Ii ps=KP at*;generalize Ts ps=VP at*;generalize ms.map D.int=MS at*;generalize nS n=NS at*;simp[h,a1,a2,w0,w1,w2,<-hn,l1,sd,pp,z,-Wv,-Zb0]
 .refine⟨ps,.inl rfl,?_⟩;unfold Gen.Y9 oSt;generalize Ii ps=KP at*;generalize Ts ps=VP at*;generalize ms.map D.int=MS at*;simp[h,a1]
structure Own(F:List Str)(ps:PS):Prop where
 nd:(ps.map (·.1)).Nodup
 all:∀p∈ps,p.1∈F/\∃n<10,p.2=itT n
theorem Vk(F)(hF:F.length=3)(A0 A1 A2 A4 A5 A6 wd)(h2:2<=wd)(h10:wd<=10)(ms)(hl:ms.length=7):∀xs j ps x9 x10,(ps.map (·.1)++xs).Nodup->Own F ps->j+xs.length<=3->ps.length<=j->(∀x∈xs,x∈F)->∃ps' y9 y10,Own F ps'/\ps'.length<=3/\
  Z7 (Wj 2 (Zt (Zd 9) (Zt (Zd 10) Wi))) Gen.Y9 (((xs.map D.str).zipIdx j).map λp=>D.tup [.int (p.2:Nat),p.1]) (oSt A0 A1 A2 A4 A5 A6 wd ms ps x9 x10)=aA (.nx (oSt A0 A1 A2 A4 A5 A6 wd ms ps' y9 y10))
 | [],j,ps,x9,x10,_,ow,hj,hp,_=>⟨ps,x9,x10,ow,by simp at hj;omega,by simp⟩
 |f::xs,j,ps,x9,x10,nd,ow,hj,hp,hx=>by
  rw[bf]at hj;have hf:f∉ps.map (·.1):=λz=>(dq.mp nd).2.2 _ z f af rfl;obtain⟨ps1,o1,t⟩:=Zgy A0 A1 A2 A4 A5 A6 wd h2 h10 ms hl ps (by omega) j (by omega) f hf;have o2:(ps1.map (·.1)++xs).Nodup/\Own F ps1/\ps1.length<=j+1:=by
   rcases o1 with z|⟨n,hn,z⟩
   .subst z;exact⟨nd.sublist (List.Sublist.append (List.Sublist.refl _) (List.sublist_cons_self _ _)),ow,by omega⟩
   .subst z;have e:(ps++[(f,itT n)]).map (·.1)=ps.map (·.1)++[f]:=by simp
    have nd':(ps.map (·.1)++[f]++xs).Nodup:=by rw[gn];exact nd
    refine⟨by rw[e];exact nd',⟨by rw[e];exact(dq.mp nd').1,λp hp'=>?_⟩,by simp;omega⟩;rcases bz.mp hp' with z|z
    .exact ow.all p z
    .rw[ar.mp z];exact⟨hx f af,n,hn,rfl⟩
  obtain⟨ps',y9,y10,ow',l',ih⟩:=Vk F hF A0 A1 A2 A4 A5 A6 wd h2 h10 ms hl xs (j+1) ps1 (aA (.fz (.int (j:Int)))) (aA (.fz (.str f))) o2.1 o2.2.1 (by omega) o2.2.2 λx h=>hx x (ao _ h);refine⟨ps',y9,y10,ow',l',?_⟩;rw[bc,List.zipIdx_cons,bc];unfold Z7;rw[show(Wj 2 (Zt (Zd 9) (Zt (Zd 10) Wi))).run (.tup [.int (j:Nat),.str f]) (oSt A0 A1 A2 A4 A5 A6 wd ms ps x9 x10)=aA (oSt A0 A1 A2 A4 A5 A6 wd ms ps (aA (.fz (.int (j:Int)))) (aA (.fz (.str f))))from by simp];dsimp only[c6];rw[t];exact ih
abbrev wkP(key kd:Str)(ps:PS):Wk:=⟨key,kd,ps.map (·.1),ps.map (·.2)⟩
noncomputable abbrev Zjx:Str:=Str.ofString "book"
noncomputable abbrev Zjy:Str:=Str.ofString "part"
structure WP(F:List Str)(w:Wk):Prop where
 ok:WkOk w
 kd:w.kind=Zjx\/w.kind=Zjy
 all:∃ps,Own F ps/\w.fs=ps.map (·.1)/\w.ts=ps.map (·.2)
theorem Zjz(i):∃kd,(kd=Zjx\/kd=Zjy)/\L2.atI [D.str Zjx,D.str Zjy] (i % 2)=aA (.str kd):=by
 have:i % 2=0\/i % 2=1:=by omega
 rcases this with h|h<;> rw[h]
 .exact⟨_,.inl rfl,rfl⟩
 .exact⟨_,.inr rfl,rfl⟩
abbrev dP(ws:List Wk):List L2.Key×List D:=(Yt (ws.map Wk.key),ws.map Wk.d)
abbrev sSt(ks F:List Str)(cs:List Int)(wd:Nat)(dss:List (List L2.Key×List D))(x5 x6 x7 x8 x9 x10:Option SV):Yk:=[aA (.fz (.lst (ks.map D.str))),aA (.fz (.lst (F.map D.str))),aA (.fz (.lst (cs.map D.int))),aA (.fz (.int (wd:Int))),aA (.oD dss),x5,x6,x7,x8,x9,x10]
theorem Ri(ks F)(hF:F.length=3)(nF:F.Nodup)(hN:∀f∈F,Nam f)(cs wd)(h2:2<=wd)(h10:wd<=10)(dss i ws)(k:Nat)(c)(hi:L2.ixN dss.length ((k:Int) % 3)=aA i)(hd:dss[i]? =aA (dP ws))(key)(hk:L2.atI (ks.map D.str) ((k:Int) / 3)=aA (.str key))(hkey:key∉ws.map Wk.key)(hw:ws.length<=100)(x7 x8 x9 x10):∃w y7 y8 y9 y10,w.key=key/\WP F w/\
  Gen.Wa (sSt ks F cs wd dss (aA (.fz (.int (k:Int)))) (aA (.fz (.int c))) x7 x8 x9 x10)=aA (.nx (sSt ks F cs wd (dss.set i (dP (ws++[w]))) (aA (.fz (.int (k:Int)))) (aA (.fz (.int c))) y7 y8 y9 y10)):=by
 obtain⟨ms,en,hm,ml⟩:=Ih c 7 (by omega);obtain⟨ps,y9,y10,ow,pl,lo⟩:=Vk F hF (aA (.fz (.lst (ks.map D.str)))) (aA (.fz (.lst (F.map D.str)))) (aA (.fz (.lst (cs.map D.int)))) (aA (.oD dss)) (aA (.fz (.int (k:Int)))) (aA (.fz (.int c))) wd h2 h10 ms ml F 0 [] x9 x10 (by simpa using nF) ⟨by simp,λ_ z=>nomatch z⟩ (by omega) (by simp) (λ_ h=>h);have lo:Z7 (Wj 2 (Zt (Zd 9) (Zt (Zd 10) Wi))) Gen.Y9 (Js (F.map D.str)) _=_:=lo;have a6:=M9 (ms:=ms) (j:=6) (by omega);generalize ms[6]'(by omega)=x at a6;obtain⟨kd,hkd,ak⟩:=Zjz x;have zw:(ws.map Wk.d).length<PySem.sizeLine:=Yd (by rw[aq];omega);have f:Wv (Yt (ws.map Wk.key)) (ws.map Wk.d) (d3 key) (.tup [.str kd,.dK (Ii ps) (Ts ps)])=(Yt ((ws++[wkP key kd ps]).map Wk.key),(ws++[wkP key kd ps]).map Wk.d):=by rw[Eo,Ep hkey];simp[Wk.d,Za1]
 refine⟨wkP key kd ps,aA (.ol (ms.map D.int)),aA (.fz (.dK (Ii ps) (Ts ps))),y9,y10,rfl,⟨⟨by simp,ow.nd,by simp;omega,λz=>?_⟩,hkd,ps,ow,rfl,rfl⟩,?_⟩
 .obtain⟨p,hp,e⟩:=ax.mp z;have:=(ow.all p hp).1;rw[e]at this;exact Zgx (hN _ this) rfl
 .unfold Gen.Wa sSt;unfold oSt at lo;rw[show Ii ([]:PS)=[]from rfl,show Ts ([]:PS)=[]from rfl]at lo;unfold dP at hd⊢;generalize ((ws++[wkP key kd ps]).map Wk.d)=WD' at*;generalize Yt ((ws++[wkP key kd ps]).map Wk.key)=WK' at*;generalize Ii ps=K1 at*;generalize Ts ps=V1 at*;generalize ws.map Wk.d=WD at*;generalize Yt (ws.map Wk.key)=WK at*;generalize F.map D.str=FD at*;generalize cs.map D.int=CD at*;generalize ks.map D.str=KD at*;generalize ms.map D.int=MS at*;have en:Gen.Ym [.int c,.int 7]=_:=en;have a6:L2.atI MS 6=_:=a6;simp[Vb,en,lo,s2,a6,ak,hi,hk,hd,f,zw,-Z7,-Wv]
theorem Rj{ks:List Str}(nd:ks.Nodup)(h:n<ks.length):ks[n]∉ks.take n:=λz=>by have e:ks=ks.take n++ks.drop n:=(List.take_append_drop n ks).symm;rw[e]at nd;refine(dq.mp nd).2.2 _ z ks[n] ?_ rfl;rw[List.drop_eq_getElem_cons h];exact af
structure Sh(F ks:List Str)(n:Nat)(ws:List Wk):Prop where
 key:ws.map Wk.key=ks.take n
 ok:∀w∈ws,WP F w
theorem Sh.add(s:Sh F ks n ws)(h:n<ks.length)(e:w.key=ks[n])(p:WP F w):Sh F ks (n+1) (ws++[w]):=
 ⟨by rw[b9,s.key,List.take_succ,av h,<-e];rfl,λv hv=>by
  rcases bz.mp hv with z|z
  .exact s.ok v z
  .rw[ar.mp z];exact p⟩
theorem Ij(ks F)(hk:ks.length=4)(nk:ks.Nodup)(hF:F.length=3)(nF:F.Nodup)(hN:∀f∈F,Nam f)(CS wd)(h2:2<=wd)(h10:wd<=10):∀(cs:List Int) k A B C x5 x6 x7 x8 x9 x10,k+cs.length<=9->Sh F ks ((k+2) / 3) A->Sh F ks ((k+1) / 3) B->Sh F ks (k / 3) C->∃(A' B' C':List Wk) (y5 y6 y7 y8 y9 y10:Option SV),Sh F ks ((k+cs.length+2) / 3) A'/\Sh F ks ((k+cs.length+1) / 3) B'/\Sh F ks ((k+cs.length) / 3) C'/\
  Z7 (Wj 2 (Zt (Zd 5) (Zt (Zd 6) Wi))) Gen.Wa (((cs.map D.int).zipIdx k).map λp=>D.tup [.int (p.2:Nat),p.1]) (sSt ks F CS wd [dP A,dP B,dP C] x5 x6 x7 x8 x9 x10)=aA (.nx (sSt ks F CS wd [dP A',dP B',dP C'] y5 y6 y7 y8 y9 y10))
 | [],k,A,B,C,x5,x6,x7,x8,x9,x10,_,sA,sB,sC=>⟨A,B,C,x5,x6,x7,x8,x9,x10,sA,sB,sC,by simp⟩
 |c::cs,k,A,B,C,x5,x6,x7,x8,x9,x10,hl,sA,sB,sC=>by
  rw[bf]at hl;have hn:k / 3<ks.length:=by omega
  have ak:L2.atI (ks.map D.str) ((k:Int) / 3)=aA (.str ks[k / 3]):=by rw[show(k:Int) / 3=((k / 3:Nat):Int) by omega];exact En _ _ _ (by rw[az,av hn];rfl)
  have small:∀{n:Nat} {ws:List Wk},Sh F ks n ws->ws.length<=100:=fun{n ws} s=>by have:=congrArg List.length s.key;rw[aq,gv]at this;omega
  have run:∀w,(Wj 2 (Zt (Zd 5) (Zt (Zd 6) Wi))).run (.tup [.int (k:Nat),.int c]) (sSt ks F CS wd w x5 x6 x7 x8 x9 x10)=aA (sSt ks F CS wd w (aA (.fz (.int (k:Int)))) (aA (.fz (.int c))) x7 x8 x9 x10):=λw=>by simp
  have main:∃A1 B1 C1 z7 z8 z9 z10,Sh F ks ((k+1+2) / 3) A1/\Sh F ks ((k+1+1) / 3) B1/\Sh F ks ((k+1) / 3) C1/\Gen.Wa (sSt ks F CS wd [dP A,dP B,dP C] (aA (.fz (.int (k:Int)))) (aA (.fz (.int c))) x7 x8 x9 x10)=aA (.nx (sSt ks F CS wd [dP A1,dP B1,dP C1] (aA (.fz (.int (k:Int)))) (aA (.fz (.int c))) z7 z8 z9 z10)):=by
   have three:k % 3=0\/k % 3=1\/k % 3=2:=by omega
   rcases three with r|r|r
   .rw[show(k+2) / 3=k / 3 by omega]at sA;obtain⟨w,z7,z8,z9,z10,ek,wp,t⟩:=Ri ks F hF nF hN CS wd h2 h10 [dP A,dP B,dP C] 0 A k c (by rw[show(k:Int) % 3=0 by omega];rfl) rfl ks[k / 3] ak (by rw[sA.key];exact Rj nk hn) (small sA) x7 x8 x9 x10;exact⟨A++[w],B,C,z7,z8,z9,z10,by rw[show(k+1+2) / 3=k / 3+1 by omega];exact sA.add hn ek wp,by rw[show(k+1+1) / 3=(k+1) / 3 by omega];exact sB,by rw[show(k+1) / 3=k / 3 by omega];exact sC,t⟩
   .rw[show(k+1) / 3=k / 3 by omega]at sB;obtain⟨w,z7,z8,z9,z10,ek,wp,t⟩:=Ri ks F hF nF hN CS wd h2 h10 [dP A,dP B,dP C] 1 B k c (by rw[show(k:Int) % 3=1 by omega];rfl) rfl ks[k / 3] ak (by rw[sB.key];exact Rj nk hn) (small sB) x7 x8 x9 x10;exact⟨A,B++[w],C,z7,z8,z9,z10,by rw[show(k+1+2) / 3=(k+2) / 3 by omega];exact sA,by rw[show(k+1+1) / 3=k / 3+1 by omega];exact sB.add hn ek wp,by rw[show(k+1) / 3=k / 3 by omega];exact sC,t⟩
   .obtain⟨w,z7,z8,z9,z10,ek,wp,t⟩:=Ri ks F hF nF hN CS wd h2 h10 [dP A,dP B,dP C] 2 C k c (by rw[show(k:Int) % 3=2 by omega];rfl) rfl ks[k / 3] ak (by rw[sC.key];exact Rj nk hn) (small sC) x7 x8 x9 x10;exact⟨A,B,C++[w],z7,z8,z9,z10,by rw[show(k+1+2) / 3=(k+2) / 3 by omega];exact sA,by rw[show(k+1+1) / 3=(k+1) / 3 by omega];exact sB,by rw[show(k+1) / 3=k / 3+1 by omega];exact sC.add hn ek wp,t⟩
  obtain⟨A1,B1,C1,z7,z8,z9,z10,s1',s2',s3',t⟩:=main;obtain⟨A',B',C',y5,y6,y7,y8,y9,y10,u1,u2,u3,ih⟩:=Ij ks F hk nk hF nF hN CS wd h2 h10 cs (k+1) A1 B1 C1 (aA (.fz (.int (k:Int)))) (aA (.fz (.int c))) z7 z8 z9 z10 (by omega) s1' s2' s3';refine⟨A',B',C',y5,y6,y7,y8,y9,y10,by rw[bf,show k+(cs.length+1)+2=k+1+cs.length+2 by omega];exact u1,by rw[bf,show k+(cs.length+1)+1=k+1+cs.length+1 by omega];exact u2,by rw[bf,show k+(cs.length+1)=k+1+cs.length by omega];exact u3,?_⟩;rw[bc,List.zipIdx_cons,bc];unfold Z7;rw[run];dsimp only[c6];rw[t];exact ih
theorem Vl(ks F:List Str)(hk:ks.length=4)(nk:ks.Nodup)(hF:F.length=3)(nF:F.Nodup)(hN:∀f∈F,Nam f)(cs:List Int)(hc:cs.length<=9)(wd:Nat)(h2:2<=wd)(h10:wd<=10):∃A B C,(∀ws∈[A,B,C],(∀w∈ws,WP F w)/\(ws.map Wk.key).Nodup/\ws.length<=3)/\
  Gen.Qg [.lst (ks.map D.str),.lst (F.map D.str),.lst (cs.map D.int),.int (wd:Int)]=aA (.fz (.lst [Zz A,Zz B,Zz C])):=by
 have nil:∀n:Nat,n=0->Sh F ks n []:=λn h=>⟨by rw[h];rfl,λ_ h=>nomatch h⟩
 obtain⟨A,B,C,y5,y6,y7,y8,y9,y10,sA,sB,sC,l⟩:=Ij ks F hk nk hF nF hN cs wd h2 h10 cs 0 [] [] [] aB aB aB aB aB aB (by omega) (nil _ (by omega)) (nil _ (by omega)) (nil _ (by omega));have fin:∀{n:Nat} {ws:List Wk},n<=3->Sh F ks n ws->(∀w∈ws,WP F w)/\(ws.map Wk.key).Nodup/\ws.length<=3:=fun{n ws} hn s=>⟨s.ok,by rw[s.key];exact nk.sublist (List.take_sublist _ _),by
  have:=congrArg List.length s.key;rw[aq,gv]at this;omega⟩
 refine⟨A,B,C,λws h=>?_,?_⟩
 .simp only[bx,List.not_mem_nil,or_false]at h;rcases h with rfl|rfl|rfl
  .exact fin (by omega) sA
  .exact fin (by omega) sB
  .exact fin (by omega) sC
 .rw[show(((cs.map D.int).zipIdx 0).map λp=>D.tup [.int (p.2:Nat),p.1])=Js (cs.map D.int)from rfl]at l;unfold sSt dP at l;have l:Z7 (Wj 2 (Zt (Zd 5) (Zt (Zd 6) Wi))) Gen.Wa (Js (cs.map D.int)) [aA (.fz (.lst (ks.map D.str))),aA (.fz (.lst (F.map D.str))),aA (.fz (.lst (cs.map D.int))),aA (.fz (.int (wd:Int))),aA (.oD [([],[]),([],[]),([],[])]),aB,aB,aB,aB,aB,aB]=_:=l;unfold Gen.Qg Gen.O0 Zz;generalize Yt (A.map Wk.key)=WA at*;generalize A.map Wk.d=DA at*;generalize Yt (B.map Wk.key)=WB at*;generalize B.map Wk.d=DB at*;generalize Yt (C.map Wk.key)=WC at*;generalize C.map Wk.d=DC at*;generalize ks.map D.str=KD at*;generalize F.map D.str=FD at*;generalize cs.map D.int=CD at*;simp[l,-Z7]
theorem Le(F:List Str)(hF:F.length=3)(A1 A3)(ms:List Int)(hl:ms.length=10)(k:Nat)(hk:k<=2):∀n s (r:List Str) x6,s+n<=2->r.length=s->∃(r':List Str) (y6:Option SV),r'.length=s+n/\
  Z7 (Zd 6) Gen.Ji (Ce s n) [aA (.fz (.lst (F.map D.str))),A1,aA (.ol (ms.map D.int)),A3,aA (.fz (.int (k:Int))),aA (.ol (r.map D.str)),x6]=aA (.nx [aA (.fz (.lst (F.map D.str))),A1,aA (.ol (ms.map D.int)),A3,aA (.fz (.int (k:Int))),aA (.ol (r'.map D.str)),y6])
 |0,s,r,x6,_,hr=>⟨r,x6,by omega,rfl⟩
 |n+1,s,r,x6,hs,hr=>by
  have a:=M9 (ms:=ms) (j:=2+3*k+s) (by omega);rw[show((2+3*k+s:Nat):Int)=2+3*(k:Int)+(s:Int) by omega]at a;generalize ms[2+3*k+s]'(by omega)=y at a;have m:=Xr (i:=3) (j:=(k:Int)) (by omega);have y0:0<=y % 4:=f9 _ (by decide);have y1:y % 4<4:=d8 _ (by decide);obtain⟨i,hi⟩:∃i:Nat,(i:Int)=y % 4:=⟨(y % 4).toNat,by omega⟩
  have fl:(F++[J3]).length=4:=by simp[hF]
  have at4:L2.atI (F.map D.str++[D.str J3]) (y % 4)=aA (.str ((F++[J3])[i]'(by omega))):=by
   rw[<-hi];have e:F.map D.str++[D.str J3]=(F++[J3]).map D.str:=by simp
   rw[e];exact En _ _ _ (by rw[az,av (by omega)];rfl)
  generalize (F++[J3])[i]'(by omega)=f at at4;have zF:(F.map D.str).length+1<=PySem.sizeLine:=Qw (by rw[aq];omega);have zr:r.length<PySem.sizeLine:=Yd (by omega);obtain⟨r',y6,l',ih⟩:=Le F hF A1 A3 ms hl k hk n (s+1) (r++[f]) (aA (.fz (.int (s:Int)))) (by omega) (by simp[hr]);refine⟨r',y6,by omega,?_⟩;have hb:Gen.Ji [aA (.fz (.lst (F.map D.str))),A1,aA (.ol (ms.map D.int)),A3,aA (.fz (.int (k:Int))),aA (.ol (r.map D.str)),aA (.fz (.int (s:Int)))]=aA (.nx [aA (.fz (.lst (F.map D.str))),A1,aA (.ol (ms.map D.int)),A3,aA (.fz (.int (k:Int))),aA (.ol ((r++[f]).map D.str)),aA (.fz (.int (s:Int)))]):=by unfold Gen.Ji;generalize F.map D.str=FD at*;generalize ms.map D.int=MS at*;simp[a,m,at4,zF,zr,s1]
  exact(W7 (ds:=Ce (s+1) n) (by simp) hb).trans ih
theorem Ik(F:List Str)(hF:F.length=3)(A1)(ms:List Int)(hl:ms.length=10):∀n s (rs:List (List Str)) x4 x5 x6,s+n<=3->rs.length=s->(∀r∈rs,r.length<=3)->∃(rs':List (List Str)) (y4 y5 y6:Option SV),rs'.length=s+n/\(∀r∈rs',r.length<=3)/\
  Z7 (Zd 4) Gen.Jj (Ce s n) [aA (.fz (.lst (F.map D.str))),A1,aA (.ol (ms.map D.int)),aA (.ol (rs.map Yr)),x4,x5,x6]=aA (.nx [aA (.fz (.lst (F.map D.str))),A1,aA (.ol (ms.map D.int)),aA (.ol (rs'.map Yr)),y4,y5,y6])
 |0,s,rs,x4,x5,x6,_,hr,h3=>⟨rs,x4,x5,x6,by omega,h3,rfl⟩
 |n+1,s,rs,x4,x5,x6,hs,hr,h3=>by
  have a:=M9 (ms:=ms) (j:=1+3*s) (by omega);rw[show((1+3*s:Nat):Int)=1+3*(s:Int) by omega]at a;generalize ms[1+3*s]'(by omega)=y at a;have m:=Xr (i:=3) (j:=(s:Int)) (by omega);have y0:0<=y % 2:=f9 _ (by decide);have y1:y % 2<2:=d8 _ (by decide);obtain⟨q,hq⟩:∃q:Nat,(q:Int)=1+y % 2:=⟨(1+y % 2).toNat,by omega⟩
  obtain⟨r,z6,rl,e⟩:=Le F hF A1 (aA (.ol (rs.map Yr))) ms hl s (by omega) q 0 [] x6 (by omega) rfl;have g1:Mi (q:Int):=Uv (by omega);have et:((q:Int)).toNat=q:=by omega
  have zr:rs.length<PySem.sizeLine:=Yd (by omega);obtain⟨rs',y4,y5,y6,l',h3',ih⟩:=Ik F hF A1 ms hl n (s+1) (rs++[r]) (aA (.fz (.int (s:Int)))) (aA (.fz (.lst (r.map D.str)))) z6 (by omega) (by simp[hr]) (λv hv=>by
   rcases bz.mp hv with z|z
   .exact h3 v z
   .rw[ar.mp z,rl];omega)
  refine⟨rs',y4,y5,y6,by omega,h3',?_⟩;have hb:Gen.Jj [aA (.fz (.lst (F.map D.str))),A1,aA (.ol (ms.map D.int)),aA (.ol (rs.map Yr)),aA (.fz (.int (s:Int))),x5,x6]=aA (.nx [aA (.fz (.lst (F.map D.str))),A1,aA (.ol (ms.map D.int)),aA (.ol ((rs++[r]).map Yr)),aA (.fz (.int (s:Int))),aA (.fz (.lst (r.map D.str))),z6]):=by rw[List.map_nil]at e;unfold Gen.Jj;generalize F.map D.str=FD at*;generalize ms.map D.int=MS at*;simp[a,m,<-hq,g1,et,Qp,e,zr,-Z7]
  exact(W7 (ds:=Ce (s+1) n) (by simp) hb).trans ih
theorem Zcp(F:List Str)(hF:F.length=3)(c):∃rs:List (List Str),rs.length<=3/\(∀r∈rs,r.length<=3)/\Gen.Ju [.lst (F.map D.str),.int c]=aA (.ol (rs.map Yr)):=by
 obtain⟨ms,en,hm,ml⟩:=Ih c 10 (by omega);have a:=M9 (ms:=ms) (j:=0) (by omega);generalize ms[0]'(by omega)=y at a;have y0:0<=y % 4:=f9 _ (by decide);have y1:y % 4<4:=d8 _ (by decide);obtain⟨q,hq⟩:∃q:Nat,(q:Int)=y % 4:=⟨(y % 4).toNat,by omega⟩
 obtain⟨rs,y4,y5,y6,rl,h3,e⟩:=Ik F hF (aA (.fz (.int c))) ms ml q 0 [] aB aB aB (by omega) rfl (λ_ h=>nomatch h);have g1:Mi (q:Int):=Uv (by omega);have et:((q:Int)).toNat=q:=by omega
 refine⟨rs,by omega,h3,?_⟩;rw[List.map_nil]at e;have en:Gen.Ym [.int c,.int 10]=_:=en;have a:L2.atI (ms.map D.int) 0=_:=a;unfold Gen.Ju Gen.Cv;generalize F.map D.str=FD at*;generalize ms.map D.int=MS at*;simp[en,a,<-hq,g1,et,Qp,e,-Z7]
end My
namespace My
open DL PySem TT TX
theorem Zgz(hl:fs.length=ts.length)(hk:J3∉fs)(kind f):W2 (fs++[J3]) (ts++[kind]) f=if f=J3 then aA kind else W2 fs ts f:=by
 unfold W2;rw[List.zip_append hl,List.lookup_append];show((fs.zip ts).lookup f).or (List.lookup f [(J3,kind)])=_;rw[im];by_cases h:f=J3
 .subst h;have:(fs.zip ts).lookup J3=aB:=by
   rcases h:(fs.zip ts).lookup J3 with _|v
   .rfl
   .obtain⟨l1,l2,e,_⟩:=List.lookup_eq_some_iff.mp h;exact absurd (List.of_mem_zip (show(J3,v)∈fs.zip ts by rw[e];simp)).1 hk
  rw[this];simp
 .rw[if_neg h,beq_eq_false_iff_ne.mpr h];simp
theorem pour(P Q)(T:Tot (P++Q)):∃out,IsPool (λh=>h∈P\/h∈Q) out/\(∀h∈out,HPok h)/\out.length<=P.length+Q.length/\Gen.Wg [.lst (P.map Z0),.lst (Q.map Z0)]=aA (.ol (out.map Z0)):=by
 obtain⟨out,p,ok,len,j⟩:=joined (P++Q) T;have pq:∀a,a∈P++Q↔(a∈P\/a∈Q):=λa=>bz;have e:(λh=>h∈P++Q)=λh=>h∈P\/h∈Q:=funext λa=>propext (pq a);have p':IsPool (λh=>h∈P\/h∈Q) out:=by rw[<-e];exact p
 refine⟨out,p',ok,by rw[aw]at len;exact len,?_⟩;have z:(P.map Z0).length+(Q.map Z0).length<=PySem.sizeLine:=Qw (by have:=T.all.len;rw[aw]at this;rw[aq,aq];omega);rw[b9]at j;unfold Gen.Wg Gen.Hf;generalize out.map Z0=OUT at*;generalize P.map Z0=PD at*;generalize Q.map Z0=QD at*;simp[j,z]
theorem Zcq{S:HP->Prop}(nS:∀a,S a->a.ns≠[])(nT:∀a,T a->a.ns≠[])(p:IsPool S P)(q:IsPool T Q)(t:Tot (P++Q)):∃out,IsPool (λa=>S a\/T a) out/\(∀h∈out,HPok h)/\out.length<=P.length+Q.length/\Gen.Wg [.lst (P.map Z0),.lst (Q.map Z0)]=aA (.ol (out.map Z0)):=by obtain⟨out,r,ok,len,e⟩:=pour P Q t;exact⟨out,p.pour nS nT q r,ok,len,e⟩
theorem Zg0(F)(hF:F.length=3):∃W:List NK,W.length<64/\∀b w,WP F w->∀x∈w.tri b,Y5 x∈W:=by
 refine⟨(F.flatMap λf=>(cq 10).map λn=>(.inl [f,itT n]:NK))++[.inl [J3,Zjx],.inl [J3,Zjy]],?_,λb w p x hx=>?_⟩
 .rw[aw,List.length_flatMap];have:=W3 (λf=>((cq 10).map λn=>(.inl [f,itT n]:NK)).length) 10 F λf _=>by simp
  simp only[bf,List.length_nil];omega
 .obtain⟨f,hf,rfl⟩:=ax.mp hx;obtain⟨hf,hn⟩:=List.mem_filter.mp hf;have vk:=Zgz p.ok.len p.ok.nk w.kind f;show(.inl [f,w.val f]:NK)∈_;unfold Wk.val Wk.at' Wk.vt;rw[vk];by_cases e:f=J3
  .rw[if_pos e,e];refine bh _ ?_;show(.inl [J3,w.kind]:NK)∈_;rcases p.kd with z|z<;> rw[z]<;> simp
  .rw[if_neg e];have hf:f∈w.fs:=(bz.mp hf).resolve_right λz=>e (ar.mp z);obtain⟨v,hv⟩:=Option.isSome_iff_exists.mp ((Ic w.fs w.ts f p.ok.len).mp hf);rw[hv];obtain⟨ps,ow,e1,e2⟩:=p.all;unfold W2 at hv;rw[e1,e2,List.zip_map',show(ps.map λp=>(p.1,p.2))=ps by simp]at hv;obtain⟨l1,l2,el,_⟩:=List.lookup_eq_some_iff.mp hv;obtain⟨h1,n,h10,h2⟩:=ow.all (f,v) (by rw[el];simp);have h2:v=itT n:=h2;refine bj _ (gg.mpr ⟨f,h1,ax.mpr ⟨n,cu.mpr h10,?_⟩⟩);rw[h2];rfl
theorem Zol(rs)(w:Wk):∀m∈w.marks rs,isM m:=λm hm=>by obtain⟨j,l,e,_⟩:=Ie _ _ _ _ m hm;exact⟨j,l,e⟩
theorem Zg1{ws:List Wk}(hU:∀w∈ws,C6 b w.key∈U)(hV:∀w∈ws,∀m∈w.marks rs,m∈V)(hW:∀w∈ws,∀x∈w.tri b,Y5 x∈W):Uni U V W (· ∈ws.map (Qt b rs)):=by
 refine⟨λa h=>?_,λa h k hk=>?_,λa h k hk=>?_,λa h x hx=>?_⟩
 .obtain⟨w,hw,rfl⟩:=ax.mp h;exact λz=>nomatch z
 .obtain⟨w,hw,rfl⟩:=ax.mp h;rw[ar.mp (show k∈[C6 b w.key]from hk)];exact⟨hU w hw,b,[w.key],rfl⟩
 .obtain⟨w,hw,rfl⟩:=ax.mp h;exact⟨hV w hw k hk,Zol rs w k hk⟩
 .obtain⟨w,hw,rfl⟩:=ax.mp h;refine⟨hW w hw x hx,λk hk=>?_⟩;obtain⟨f,_,rfl⟩:=ax.mp (show x∈w.tri b from hx);exact hk
structure PL(U V W:List NK)(S:HP->Prop)(P:List HP):Prop where
 p:IsPool S P
 u:Uni U V W S
 ok:∀h∈P,HPok h
abbrev Yp(P:List HP):D:=.lst (P.map Z0)
section
variable{U V W:List NK}(hU:U.length<=31)(hV:V.length<=31)(hW:W.length<64)
include hU hV hW
theorem Vm{S:HP->Prop}(p:PL U V W S P)(q:PL U V W T Q):∃R,PL U V W (λa=>S a\/T a) R/\Gen.Wg [Yp P,Yp Q]=aA (.ol (R.map Z0)):=by obtain⟨R,r,ok,_,e⟩:=Zcq p.u.ne q.u.ne p.p q.p (Zgv p.u q.u p.p q.p hU hV hW);exact⟨R,⟨r,p.u.or q.u,ok⟩,e⟩
theorem Me{S:HP->Prop}(p:PL U V W S P)(q:PL U V W T Q)(o:PL U V W A O)(e:∀a,(S a\/T a)↔A a):Gen.Wg [Yp P,Yp Q]=aA (.ol (O.map Z0)):=by obtain⟨R,r,h⟩:=Vm hU hV hW p q;rw[h,r.p.uniq o.p e]
theorem Zg2(o:PL U V W A O){S:HP->Prop}(p:PL U V W S P)(q:PL U V W T Q)(n:PL U V W R N)(e:∀a,A a↔(S a\/T a\/R a))(A0 A1 A2 A3 L)(hL:L.length<=100):
  Gen.Jv [A0,A1,A2,A3,aA (.ol L),aA (.fz (Yp P)),aA (.fz (Yp Q)),aA (.fz (Yp N))]=aA (.nx [A0,A1,A2,A3,aA (.ol (L++[Yp O,Yp O])),aA (.fz (Yp P)),aA (.fz (Yp Q)),aA (.fz (Yp N))]):=by
 obtain⟨X,x,h1⟩:=Vm hU hV hW p q;obtain⟨Y,y,h3⟩:=Vm hU hV hW q n;have h2:=Me hU hV hW x n o λa=>by rw[e];exact or_assoc
 have h4:=Me hU hV hW p y o λa=>by rw[e]
 have z1:L.length<PySem.sizeLine:=Yd (by omega);have z2:L.length+1<PySem.sizeLine:=Yd (by omega);unfold Gen.Jv Yp;unfold Yp at h1 h2 h3 h4;generalize O.map Z0=OD at*;generalize P.map Z0=PD at*;generalize Q.map Z0=QD at*;generalize N.map Z0=ND at*;generalize X.map Z0=XD at*;generalize Y.map Z0=YD at*;simp[h1,h2,h3,h4,z1,z2]
theorem Vn(o:PL U V W A O)(A0 A1 A2 A3):∀(ts:List (List HP×List HP×List HP)) m x5 x6 x7,(∀t∈ts,∃S T R,PL U V W S t.1/\PL U V W T t.2.1/\PL U V W R t.2.2/\∀a,A a↔(S a\/T a\/R a))->m+2*ts.length<=50->∃y5 y6 y7,
  Z7 (Wj 3 (Zt (Zd 5) (Zt (Zd 6) (Zt (Zd 7) Wi)))) Gen.Jv (ts.map λt=>.tup [Yp t.1,Yp t.2.1,Yp t.2.2]) [A0,A1,A2,A3,aA (.ol (dn m (Yp O))),x5,x6,x7]=aA (.nx [A0,A1,A2,A3,aA (.ol (dn (m+2*ts.length) (Yp O))),y5,y6,y7])
 | [],m,x5,x6,x7,_,_=>⟨x5,x6,x7,rfl⟩
 |t::ts,m,x5,x6,x7,h,hm=>by
  rw[bf]at hm;obtain⟨S,T,R,p,q,n,e⟩:=h t af;have hb:=Zg2 hU hV hW o p q n e A0 A1 A2 A3 (dn m (Yp O)) (by rw[List.length_replicate];omega);have er:dn m (Yp O)++[Yp O,Yp O]=dn (m+2) (Yp O):=by rw[show[Yp O,Yp O]=dn 2 (Yp O)from rfl,List.replicate_append_replicate]
  rw[er]at hb;obtain⟨y5,y6,y7,ih⟩:=Vn o A0 A1 A2 A3 ts (m+2) (aA (.fz (Yp t.1))) (aA (.fz (Yp t.2.1))) (aA (.fz (Yp t.2.2))) (λt ht=>h t (ao _ ht)) (by omega);rw[show m+2+2*ts.length=m+2*(ts.length+1) by omega]at ih;exact⟨y5,y6,y7,(W7 (by simp) hb).trans ih⟩
theorem Zj0{S:HP->Prop}(p:PL U V W S P)(q:PL U V W T Q)(n:PL U V W R N):∃O,PL U V W (λa=>S a\/T a\/R a) O/\Gen.Bb [.lst [Yp P,Yp Q,Yp N]]=aA (.ol (dn 12 (Yp O))):=by
 obtain⟨X,x,_⟩:=Vm hU hV hW q n;obtain⟨O,o,_⟩:=Vm hU hV hW p x;refine⟨O,o,?_⟩;obtain⟨y5,y6,y7,l⟩:=Vn hU hV hW o (aA (.fz (.lst [Yp P,Yp Q,Yp N]))) (aA (.fz (Yp P))) (aA (.fz (Yp Q))) (aA (.fz (Yp N))) [(P,Q,N),(P,N,Q),(Q,P,N),(Q,N,P),(N,P,Q),(N,Q,P)] 0 aB aB aB (λt ht=>by
  simp only[bx,List.not_mem_nil,or_false]at ht;rcases ht with rfl|rfl|rfl|rfl|rfl|rfl
  .exact⟨S,T,R,p,q,n,λa=>by simp only[or_comm,or_left_comm,or_assoc]⟩
  .exact⟨S,R,T,p,n,q,λa=>by simp only[or_comm,or_left_comm,or_assoc]⟩
  .exact⟨T,S,R,q,p,n,λa=>by simp only[or_comm,or_left_comm,or_assoc]⟩
  .exact⟨T,R,S,q,n,p,λa=>by simp only[or_comm,or_left_comm,or_assoc]⟩
  .exact⟨R,S,T,n,p,q,λa=>by simp only[or_comm,or_left_comm,or_assoc]⟩
  .exact⟨R,T,S,n,q,p,λa=>by simp only[or_comm,or_left_comm,or_assoc]⟩) (by simp)
 simp only[bc,List.map_nil,List.replicate_zero,bf,List.length_nil]at l;have s6:6<=PySem.sizeLine:=by decide
 unfold Gen.Bb Gen.M0;generalize Yp P=PD at*;generalize Yp Q=QD at*;generalize Yp N=ND at*;generalize Yp O=OD at*;generalize dn 12 OD=RP at*;have l:Z7 (Wj 3 (Zt (Zd 5) (Zt (Zd 6) (Zt (Zd 7) Wi)))) Gen.Jv [.tup [PD,QD,ND],.tup [PD,ND,QD],.tup [QD,PD,ND],.tup [QD,ND,PD],.tup [ND,PD,QD],.tup [ND,QD,PD]] [aA (.fz (.lst [PD,QD,ND])),aA (.fz PD),aA (.fz QD),aA (.fz ND),aA (.ol []),aB,aB,aB]=aA (.nx [aA (.fz (.lst [PD,QD,ND])),aA (.fz PD),aA (.fz QD),aA (.fz ND),aA (.ol RP),y5,y6,y7]):=l;simp[l,s3,s6,-Z7]
end
end My
namespace My
open DL PySem TT TX
theorem Zom{out:List NK}(h:Cc ks)(nd:ks.Nodup)(hl:ks.length<64)(hm:∀x,x∈out↔x∈ks)(hs:out.Pairwise kLt):TX.Tn (ks.map Zn) (ks.map Zn)=aA (.ol (out.map Zn)):=by
 have nd':out.Nodup:=hs.imp fun{a b} z e=>by rw[e]at z;exact fg _ z
 have pm:out.Perm ks:=(List.perm_ext_iff_of_nodup nd' nd).mpr hm;refine Zat (Kx h nd) (by rw[aq];exact hl) ⟨pm.map _,List.pairwise_map.mpr ?_⟩;refine(gz.mp hs).imp fun{a b} ⟨ha,hb,z⟩=>?_;rw[Zas 12 (h.one ((hm b).mp hb) ((hm a).mp ha))];exact congrArg aA (decide_eq_false λy=>fg _ (List.lt_trans y z))
theorem Vo{ks:List NK}(nd:ks.Nodup):(Eg ks).length=ks.length:=((List.perm_ext_iff_of_nodup (Ex ks) nd).mpr (R6 ks)).length_eq
theorem Il(A0 A1):∀(hs:List HP) N M x4,N.length+(hs.flatMap HP.ns).length<=900->M.length+(hs.flatMap HP.ms).length<=900->∃y4,
  Z7 (Zd 4) Gen.Jm (hs.map Z0) [A0,A1,aA (.ol (N.map Zn)),aA (.ol (M.map Zn)),x4]=aA (.nx [A0,A1,aA (.ol ((N++hs.flatMap HP.ns).map Zn)),aA (.ol ((M++hs.flatMap HP.ms).map Zn)),y4])
 | [],N,M,x4,_,_=>⟨x4,by simp⟩
 |h::hs,N,M,x4,hN,hM=>by
  rw[List.flatMap_cons,aw]at hN hM;obtain⟨y4,ih⟩:=Il A0 A1 hs (N++h.ns) (M++h.ms) (aA (.fz (Z0 h))) (by rw[aw];omega) (by rw[aw];omega);rw[gn,gn,<-List.flatMap_cons,<-List.flatMap_cons]at ih;refine⟨y4,?_⟩;have z1:(N.map Zn).length+(h.ns.map Zn).length<=PySem.sizeLine:=Qw (by rw[aq,aq];omega);have z2:(M.map Zn).length+(h.ms.map Zn).length<=PySem.sizeLine:=Qw (by rw[aq,aq];omega);have a0:∀a b c:D,L2.atI [a,b,c] 0=aA a:=λ_ _ _=>rfl;have a1:∀a b c:D,L2.atI [a,b,c] 1=aA b:=λ_ _ _=>rfl;have hb:Gen.Jm [A0,A1,aA (.ol (N.map Zn)),aA (.ol (M.map Zn)),aA (.fz (Z0 h))]=aA (.nx [A0,A1,aA (.ol ((N++h.ns).map Zn)),aA (.ol ((M++h.ms).map Zn)),aA (.fz (Z0 h))]):=by rw[b9,b9];unfold Gen.Jm Z0;generalize N.map Zn=ND at*;generalize M.map Zn=MD at*;generalize h.ns.map Zn=HN at*;generalize h.ms.map Zn=HM at*;generalize h.fs.map Wm=HF at*;simp[a0,a1,z1,z2]
  exact(W7 (by simp) hb).trans ih
theorem Zcr(P)(G R:List NK)(ndN:(P.flatMap HP.ns).Nodup)(ndM:(P.flatMap HP.ms).Nodup)(lN:(P.flatMap HP.ns).length<=31)(lM:(P.flatMap HP.ms).length<=31)(iN:∀k∈P.flatMap HP.ns,Rb k)(lG:G.length<64)(e:∀k,k∈P.flatMap HP.ns↔k∈G)(r1:R.Pairwise kLt)(r2:∀k,k∈R↔k∈G):
  Gen.Jw [Yp P,.lst (G.map Zn)]=aA (.fz (.bl aC)):=by
 obtain⟨y4,l⟩:=Il (aA (.fz (Yp P))) (aA (.fz (.lst (G.map Zn)))) P [] [] aB (by rw[List.length_nil];omega) (by rw[List.length_nil];omega);rw[d7,d7]at l;have d1:=Kw (ks:=P.flatMap HP.ns) (by omega);have d2:=Kw (ks:=P.flatMap HP.ms) (by omega);rw[Vo ndN]at d1;rw[Vo ndM]at d2;have t1:Cm [.lst ((P.flatMap HP.ns).map Zn)]=aA (.ol (R.map Zn)):=Zom (.inl iN) ndN (by omega) (λk=>by rw[r2,e]) r1;have t2:Cp [.lst (G.map Zn)]=aA (.ol (R.map Zn)):=(Kr _).trans (Zgd (.inl λk hk=>iN k ((e k).mpr hk)) lG r2 r1);have er:We 48 (.lst (R.map Zn)) (.lst (R.map Zn))=aA aC:=Ge 44 _ λk hk=>.inl (iN k ((e k).mpr ((r2 k).mp hk)));have n1:((P.flatMap HP.ns).map Zn).length=(P.flatMap HP.ns).length:=aq _;have n2:((P.flatMap HP.ms).map Zn).length=(P.flatMap HP.ms).length:=aq _;rw[<-n1]at d1;rw[<-n2]at d2;rw[show([]:List NK).map Zn=[]from rfl]at l;unfold Gen.Jw Gen.C2;unfold Yp at*;clear n1 n2;generalize (P.flatMap HP.ns).map Zn=NS at*;generalize (P.flatMap HP.ms).map Zn=MS at*;generalize P.map Z0=PD at*;generalize G.map Zn=GD at*;generalize R.map Zn=RD at*;simp[l,d1,d2,t1,t2,er,-Z7,-We]
theorem Zon(ha:Rb a)(hc:Rb c):We 48 (Zn a) (Zn c)=aA (decide (a=c)):=by obtain⟨x,l,rfl⟩:=ha;obtain⟨y,l',rfl⟩:=hc;exact Zar 45 (.nm _ _)
theorem Zsr{ks:List NK}(hm:Rb m)(hk:∀k∈ks,Rb k)(c)(hc:c=aC↔m∈ks):inN (Zn m) (.lst (ks.map Zn))=aA (.fz (.bl c)):=by rw[Zn3 λk h=>Zon (hk k h) hm];congr 3;rw[Bool.eq_iff_iff,hc];simp
theorem C8(o)(ho:∀k∈o.ns,Rb k)(c):∀(xs zs:List NK),(∀k∈xs,Rb k/\(c=aC↔k∈o.ns))->zs.length+xs.length<=900->
  Yb [.own,.cap 3,.acc] 2 (Zd 0) Gen.Q1 Gen.Q2 (xs.map Zn) [aB,aA (.fz (Z0 o)),aA (.ol (zs.map Zn))]=aA [aB,aA (.fz (Z0 o)),aA (.ol ((if c=aC then zs++xs else zs).map Zn))]
 | [],zs,_,_=>by cases c<;> simp
 |k::xs,zs,h,hz=>by
  rw[bf]at hz;obtain⟨h1,h2⟩:=h k af;have i:=Zsr h1 ho c h2;have a0:∀a b c:D,L2.atI [a,b,c] 0=aA a:=λ_ _ _=>rfl;have z1:zs.length<PySem.sizeLine:=Yd (by omega);have e0:∀q,Gen.Q1 [aA (.fz (Zn k)),aA (.fz (Z0 o)),aA (.ol q)]=aA (c,[aA (.fz (Zn k)),aA (.fz (Z0 o)),aA (.ol q)]):=λq=>by unfold Gen.Q1 Z0;generalize o.ns.map Zn=ON at*;generalize o.ms.map Zn=OM at*;generalize o.fs.map Wm=OF at*;generalize Zn k=KD at*;simp[a0,i]
  have e1:∀q,Gen.Q2 [aA (.fz (Zn k)),aA (.fz (Z0 o)),aA (.ol q)]=aA (.tmp (.fz (Zn k)),[aA (.fz (Zn k)),aA (.fz (Z0 o)),aA (.ol q)]):=λq=>by unfold Gen.Q2;simp
  rw[bc];cases c with
  |false=>have ih:=C8 o ho aD xs zs (λk hk=>h k (ao _ hk)) (by omega);simp only[bi,if_false]at ih⊢;generalize Z0 o=OD at*;generalize Zn k=KD at*;unfold Yb;simp[e0,-Yb];simpa[-Yb]using ih
  |true=>have ih:=C8 o ho aC xs (zs++[k]) (λk hk=>h k (ao _ hk)) (by rw[aw,f8];omega);simp only[if_true]at ih⊢;rw[gn,b9]at ih;rw[show[k].map Zn=[Zn k]from rfl]at ih;have e5:(zs++([k]++xs)).map Zn=(zs++k::xs).map Zn:=rfl;rw[e5]at ih;generalize (zs++k::xs).map Zn=RR at*;generalize Z0 o=OD at*;generalize Zn k=KD at*;unfold Yb;simp[e0,e1,z1,-Yb];simpa[-Yb]using ih
theorem Vp(A0 A1 x4 h o)(hn:∀k∈h.ns,Rb k)(ho:∀k∈o.ns,Rb k)(hl:h.ns.length<=100)(c)(hc:∀k∈h.ns,c=aC↔k∈o.ns):∃y4,
  Gen.W0 [A0,A1,aA (.fz (Z0 h)),aA (.fz (Z0 o)),x4]=aA (.nx [A0,A1,aA (.fz (Z0 h)),aA (.fz (Z0 o)),y4]):=by
 have cc:=C8 o ho c h.ns [] (λk hk=>⟨hn k hk,hc k hk⟩) (by simp;omega);have a0:∀a b c:D,L2.atI [a,b,c] 0=aA a:=λ_ _ _=>rfl;rw[show([]:List NK).map Zn=[]from rfl,d7]at cc;have e1:We 48 (.lst []) (.lst [])=aA aC:=rfl;cases c with
 |false=>refine⟨aA (.ol []),?_⟩;simp only[bi,if_false,List.map_nil]at cc;unfold Gen.W0;unfold Z0 at cc⊢;generalize h.ns.map Zn=HN at*;generalize h.ms.map Zn=HM at*;generalize h.fs.map Wm=HF at*;generalize o.ns.map Zn=ON at*;generalize o.ms.map Zn=OM at*;generalize o.fs.map Wm=OF at*;simp[a0,cc,e1,-Yb,-We]
 |true=>
  refine⟨aA (.ol (h.ns.map Zn)),?_⟩;simp only[if_true]at cc;have e2:∃v,We 48 (.lst (h.ns.map Zn)) (.lst [])=aA v:=by
   cases h.ns with
   |nil=>exact⟨aC,rfl⟩
   |cons x l=>exact⟨aD,rfl⟩
  obtain⟨v,e2⟩:=e2;unfold Gen.W0;unfold Z0 at cc⊢;generalize h.ns.map Zn=HN at*;generalize h.ms.map Zn=HM at*;generalize h.fs.map Wm=HF at*;generalize o.ns.map Zn=ON at*;generalize o.ms.map Zn=OM at*;generalize o.fs.map Wm=OF at*;cases v with
  |true=>simp[a0,cc,e2,-Yb,-We]
  |false=>simp[a0,cc,e2,-Yb,-We]
theorem Lf(A0 A1 h)(hn:∀k∈h.ns,Rb k)(hl:h.ns.length<=100):∀(os:List HP) x3 x4,(∀o∈os,(∀k∈o.ns,Rb k)/\∃c,∀k∈h.ns,c=aC↔k∈o.ns)->∃y3 y4,
  Z7 (Zd 3) Gen.W0 (os.map Z0) [A0,A1,aA (.fz (Z0 h)),x3,x4]=aA (.nx [A0,A1,aA (.fz (Z0 h)),y3,y4])
 | [],x3,x4,_=>⟨x3,x4,rfl⟩
 |o::os,x3,x4,ho=>by obtain⟨h1,c,hc⟩:=ho o af;obtain⟨z4,hb⟩:=Vp A0 A1 x4 h o hn h1 hl c hc;obtain⟨y3,y4,ih⟩:=Lf A0 A1 h hn hl os (aA (.fz (Z0 o))) z4 λo h=>ho o (ao _ h);exact⟨y3,y4,(W7 (by simp) hb).trans ih⟩
theorem Im(A0 O):∀(hs:List HP) x2 x3 x4,(∀h∈hs,(∀k∈h.ns,Rb k)/\h.ns.length<=100/\∀o∈O,(∀k∈o.ns,Rb k)/\∃c,∀k∈h.ns,c=aC↔k∈o.ns)->∃y2 y3 y4,
  Z7 (Zd 2) Gen.Q3 (hs.map Z0) [A0,aA (.fz (Yp O)),x2,x3,x4]=aA (.nx [A0,aA (.fz (Yp O)),y2,y3,y4])
 | [],x2,x3,x4,_=>⟨x2,x3,x4,rfl⟩
 |h::hs,x2,x3,x4,hh=>by
  obtain⟨h1,h2,h3⟩:=hh h af;obtain⟨z3,z4,e⟩:=Lf A0 (aA (.fz (Yp O))) h h1 h2 O x3 x4 h3;have hb:Gen.Q3 [A0,aA (.fz (Yp O)),aA (.fz (Z0 h)),x3,x4]=aA (.nx [A0,aA (.fz (Yp O)),aA (.fz (Z0 h)),z3,z4]):=by unfold Gen.Q3;unfold Yp at e⊢;generalize O.map Z0=OD at*;generalize Z0 h=HD at*;simp[e,-Z7]
  obtain⟨y2,y3,y4,ih⟩:=Im A0 O hs (aA (.fz (Z0 h))) z3 z4 λh w=>hh h (ao _ w);exact⟨y2,y3,y4,(W7 (by simp) hb).trans ih⟩
theorem Hr(P O)(hh:∀h∈P,(∀k∈h.ns,Rb k)/\h.ns.length<=100/\∀o∈O,(∀k∈o.ns,Rb k)/\∃c,∀k∈h.ns,c=aC↔k∈o.ns):Gen.Wd [Yp P,Yp O]=aA (.fz (.bl aC)):=by obtain⟨y2,y3,y4,l⟩:=Im (aA (.fz (Yp P))) O P aB aB aB hh;unfold Gen.Wd Gen.B7;unfold Yp at*;generalize O.map Z0=OD at*;generalize P.map Z0=PD at*;simp[l,-Z7]
theorem Vq{S:HP->Prop}(sub:∀a,S a->A a)(p:IsPool S P)(q:IsPool A O)(hh:h∈P)(ho:o∈O):∃c,∀k∈h.ns,c=aC↔k∈o.ns:=by
 obtain⟨a,sa,m⟩:=p.each h hh;obtain⟨a',sa',m'⟩:=q.each o ho;by_cases e:∃k∈h.ns,k∈o.ns
 .refine⟨aC,λk hk=>⟨λ_=>?_,λ_=>rfl⟩⟩;obtain⟨k0,h1,h2⟩:=e;obtain⟨b,cb,kb⟩:=(m.ns_m k0).mp h1;obtain⟨b',cb',kb'⟩:=(m'.ns_m k0).mp h2;obtain⟨d,cd,kd⟩:=(m.ns_m k).mp hk;have c1:Conn A a' b:=.step cb' (sub b cb.right) ⟨k0,bj _ kb',bj _ kb⟩;have c2:Conn A b d:=Conn.mono sub (cb.symm.trans cd);exact(m'.ns_m k).mpr ⟨d,c1.trans c2,kd⟩
 .exact⟨aD,λk hk=>⟨λz=>(nomatch z),λz=>absurd ⟨k,hk,z⟩ e⟩⟩
end My
namespace My
open DL PySem TT TX
theorem Zcs(ns:List Int):∃ms:List Int,L5 (ns.map D.int) (aA 6) (aA 15)=ms.map D.int/\ms.length<=9:=by
 obtain⟨ms,e,_⟩:=Zjn ns (aA 6) (aA 15);refine⟨ms,e,?_⟩;have h:(L5 (ns.map D.int) (aA 6) (aA 15)).length<=9:=by unfold L5;rw[gv];have e1:HT.sIx (ns.map D.int).length (ns.map D.int).length (aA 15)=min 15 (ns.map D.int).length:=HT.sIx_nat _ _ 15;have e2:HT.sIx (ns.map D.int).length 0 (aA 6)=min 6 (ns.map D.int).length:=HT.sIx_nat _ _ 6;omega
 rw[e,aq]at h;exact h
theorem Zln:Ce 0 3=[.int 0,.int 1,.int 2]:=rfl
noncomputable abbrev Pj(b0 b1 b2:Str):D:=.lst [.str b0,.str b1,.str b2]
theorem Io(e)(he:e=Gen.R9)(b0 b1 b2 RD sA sB sC PA PB PC)(h0:Gen.Wn [.str b0,sA,.lst RD]=aA (.ol PA))(h1:Gen.Wn [.str b1,sB,.lst RD]=aA (.ol PB))(h2:Gen.Wn [.str b2,sC,.lst RD]=aA (.ol PC)):
  Yb [.own,.cap 4,.cap 1,.cap 5,.acc] 4 (Zd 0) Q7 e (Ce 0 3) [aB,aA (.fz (.lst RD)),aA (.fz (Pj b0 b1 b2)),aA (.fz (.lst [sA,sB,sC])),aA (.ol [])]=aA [aB,aA (.fz (.lst RD)),aA (.fz (Pj b0 b1 b2)),aA (.fz (.lst [sA,sB,sC])),aA (.ol [.lst PA,.lst PB,.lst PC])]:=by
 have t0:∀a b c:D,L2.atI [a,b,c] 0=aA a:=λ_ _ _=>rfl;have t1:∀a b c:D,L2.atI [a,b,c] 1=aA b:=λ_ _ _=>rfl;have t2:∀a b c:D,L2.atI [a,b,c] 2=aA c:=λ_ _ _=>rfl;have z0:0<PySem.sizeLine:=Yd (by omega);have z1:1<PySem.sizeLine:=Yd (by omega);have z2:2<PySem.sizeLine:=Yd (by omega);subst he;have turn:∀(i:Int) (b:Str) (s:D) (P q:List D),L2.atI [D.str b0,D.str b1,D.str b2] i=aA (.str b)->L2.atI [sA,sB,sC] i=aA s->Gen.Wn [.str b,s,.lst RD]=aA (.ol P)->Gen.R9 [aA (.fz (.int i)),aA (.fz (.lst RD)),aA (.fz (Pj b0 b1 b2)),aA (.fz (.lst [sA,sB,sC])),aA (.ol q)]=aA (.tmp (.ol P),[aA (.fz (.int i)),aA (.fz (.lst RD)),aA (.fz (Pj b0 b1 b2)),aA (.fz (.lst [sA,sB,sC])),aA (.ol q)]):=λi b s P q e1 e2 e3=>by unfold Gen.R9 Pj;simp[e1,e2,e3]
 have u0:=λq=>turn 0 b0 sA PA q (t0 _ _ _) (t0 _ _ _) h0;have u1:=λq=>turn 1 b1 sB PB q (t1 _ _ _) (t1 _ _ _) h1;have u2:=λq=>turn 2 b2 sC PC q (t2 _ _ _) (t2 _ _ _) h2;rw[Zln];generalize Pj b0 b1 b2=OB at*;generalize [sA,sB,sC]=SS at*;simp[Yb,u0,u1,u2,z0,z1,z2]
theorem Ip(b0 b1 b2 b i)(hb:L2.atI [D.str b0,D.str b1,D.str b2] i=aA (.str b)):∀(xs:List Str) zs,zs.length+xs.length<=900->
  Yb [.own,.cap 1,.cap 8,.acc] 3 (Zd 0) Q7 Gen.T3 (xs.map D.str) [aB,aA (.fz (Pj b0 b1 b2)),aA (.fz (.int i)),aA (.ol zs)]=aA [aB,aA (.fz (Pj b0 b1 b2)),aA (.fz (.int i)),aA (.ol (zs++xs.map λx=>Zn (C6 b x)))]
 | [],zs,_=>by simp
 |x::xs,zs,hz=>by
  rw[bf]at hz;have ih:=Ip b0 b1 b2 b i hb xs (zs++[Zn (C6 b x)]) (by rw[aw,f8];omega);rw[gn]at ih;have z1:zs.length<PySem.sizeLine:=Yd (by omega);have e1:∀q,Gen.T3 [aA (.fz (.str x)),aA (.fz (Pj b0 b1 b2)),aA (.fz (.int i)),aA (.ol q)]=aA (.tmp (.fz (Zn (C6 b x))),[aA (.fz (.str x)),aA (.fz (Pj b0 b1 b2)),aA (.fz (.int i)),aA (.ol q)]):=λq=>by unfold Gen.T3 Pj;rw[show Zn (C6 b x)= .tup [.str b,.str x]from rfl];simp[hb,s2]
  rw[bc,bc];generalize Pj b0 b1 b2=OB at*;generalize Zn (C6 b x)=NX at*;unfold Yb;simp[e1,z1,-Yb];simpa[-Yb]using ih
abbrev lSt(x0 x2 x3 x4:Option SV)(b0 b1 b2:Str)(SS:List D)(x6:Option SV)(L:List NK)(x8:Option SV):Yk:=[x0,aA (.fz (Pj b0 b1 b2)),x2,x3,x4,aA (.fz (.lst SS)),x6,aA (.ol (L.map Zn)),x8,aB,aB,aB]
theorem Rk(x0 x2 x3 x4 x6 b0 b1 b2 b SS i ws)(hb:L2.atI [D.str b0,D.str b1,D.str b2] i=aA (.str b))(hs:L2.atI SS i=aA (Zz ws))(hw:ws.length<=100)(L)(hL:L.length<=100):
  Gen.Ma (lSt x0 x2 x3 x4 b0 b1 b2 SS x6 L (aA (.fz (.int i))))=aA (.nx (lSt x0 x2 x3 x4 b0 b1 b2 SS x6 (L++ws.map λw=>C6 b w.key) (aA (.fz (.int i))))):=by
 have c:=Ip b0 b1 b2 b i hb (ws.map Wk.key) [] (by simp;omega);rw[d7]at c;have em:((ws.map Wk.key).map λx=>Zn (C6 b x))=(ws.map λw=>C6 b w.key).map Zn:=by rw[cg,cg];rfl
 rw[em]at c;have ek:=M7 (ws.map Wk.key);have z:(L.map Zn).length+((ws.map λw=>C6 b w.key).map Zn).length<=PySem.sizeLine:=Qw (by simp;omega);unfold Gen.Ma lSt;rw[b9];unfold Zz at hs;generalize (ws.map λw=>C6 b w.key).map Zn=WN at*;generalize L.map Zn=LD at*;generalize ws.map Wk.d=WD at*;generalize (ws.map Wk.key).map D.str=KS at*;generalize Yt (ws.map Wk.key)=WK at*;generalize Pj b0 b1 b2=OB at*;simp[hs,ek,c,z,-Yb]
theorem Vr(x0 x2 x3 x4 x6 b0 b1 b2 A B C)(hA:A.length<=3)(hB:B.length<=3)(hC:C.length<=3):∃y8,
  Z7 (Zd 8) Gen.Ma (Ce 0 3) (lSt x0 x2 x3 x4 b0 b1 b2 [Zz A,Zz B,Zz C] x6 [] aB)=aA (.nx (lSt x0 x2 x3 x4 b0 b1 b2 [Zz A,Zz B,Zz C] x6 ((A.map λw=>C6 b0 w.key)++(B.map λw=>C6 b1 w.key)++(C.map λw=>C6 b2 w.key)) y8)):=by
 have t0:=Rk x0 x2 x3 x4 x6 b0 b1 b2 b0 [Zz A,Zz B,Zz C] 0 A rfl rfl (by omega) [] (by simp);have t1:=Rk x0 x2 x3 x4 x6 b0 b1 b2 b1 [Zz A,Zz B,Zz C] 1 B rfl rfl (by omega) (A.map λw=>C6 b0 w.key) (by simp;omega);have t2:=Rk x0 x2 x3 x4 x6 b0 b1 b2 b2 [Zz A,Zz B,Zz C] 2 C rfl rfl (by omega) ((A.map λw=>C6 b0 w.key)++(B.map λw=>C6 b1 w.key)) (by simp;omega);rw[d7]at t0;rw[Zln];refine⟨aA (.fz (.int 2)),?_⟩;exact(W7 (by simp) t0).trans ((W7 (by simp) t1).trans ((W7 (by simp) t2).trans rfl))
theorem Lg(Q)(e:We 48 (.lst Q) (.lst Q)=aA aC):∀n,
  Yb [.own,.cap 10,.acc] 2 (Zd 0) Gen.T4 Gen.Zax (dn n (.lst Q)) [aB,aA (.fz (.lst Q)),aA (.ol [])]=aA [aB,aA (.fz (.lst Q)),aA (.ol [])]
 |0=>rfl
 |n+1=>by
  have ih:=Lg Q e n;have e0:Gen.T4 [aA (.fz (.lst Q)),aA (.fz (.lst Q)),aA (.ol [])]=aA (aD,[aA (.fz (.lst Q)),aA (.fz (.lst Q)),aA (.ol [])]):=by unfold Gen.T4;simp[e,-We]
  rw[List.replicate_succ];unfold Yb;simp[e0,-Yb];simpa[-Yb]using ih
theorem Zct(δ P O)(h10:δ[10]? =aA (aA (.fz (Yp O))))(h11:δ[11]? =aA (aA (.fz (Yp P))))(p1:Gen.Wg [Yp O,Yp P]=aA (.ol (O.map Z0)))(p2:Gen.Wg [Yp P,Yp O]=aA (.ol (O.map Z0)))(w:Gen.Wd [Yp P,Yp O]=aA (.fz (.bl aC)))(e:We 48 (Yp O) (Yp O)=aA aC):Gen.T5 δ=aA (.nx δ):=by unfold Gen.T5;unfold Yp at*;generalize O.map Z0=OD at*;generalize P.map Z0=PD at*;simp[h10,h11,p1,p2,w,e,-We]
theorem Lh(x0 x1 x2 x3 x4 x5 x6 x7 x8 x9 O)(e:We 48 (Yp O) (Yp O)=aA aC):∀(Ps:List (List HP)) x11,(∀P∈Ps,Gen.Wg [Yp O,Yp P]=aA (.ol (O.map Z0))/\Gen.Wg [Yp P,Yp O]=aA (.ol (O.map Z0))/\Gen.Wd [Yp P,Yp O]=aA (.fz (.bl aC)))->∃y11,
  Z7 (Zd 11) Gen.T5 (Ps.map Yp) [x0,x1,x2,x3,x4,x5,x6,x7,x8,x9,aA (.fz (Yp O)),x11]=aA (.nx [x0,x1,x2,x3,x4,x5,x6,x7,x8,x9,aA (.fz (Yp O)),y11])
 | [],x11,_=>⟨x11,rfl⟩
 |P::Ps,x11,h=>by obtain⟨h1,h2,h3⟩:=h P af;have hb:=Zct [x0,x1,x2,x3,x4,x5,x6,x7,x8,x9,aA (.fz (Yp O)),aA (.fz (Yp P))] P O rfl rfl h1 h2 h3 e;obtain⟨y11,ih⟩:=Lh x0 x1 x2 x3 x4 x5 x6 x7 x8 x9 O e Ps (aA (.fz (Yp P))) λP hP=>h P (ao _ hP);exact⟨y11,(W7 (by simp) hb).trans ih⟩
end My
namespace My
open DL PySem TT TX
theorem Za3(h:a δ=aA (.nx δ')):Z4 a b δ=b δ':=by unfold Z4;rw[h];rfl
theorem Zg3(ns:List Int):∃b0 b1 b2,Gen.Zaz [aA (.fz (.lst (ns.map D.int))),aB,aB,aB,aB,aB,aB,aB,aB,aB,aB,aB]=Gen.Mb [aA (.fz (.lst (ns.map D.int))),aA (.ol [.str b0,.str b1,.str b2]),aB,aB,aB,aB,aB,aB,aB,aB,aB,aB]:=by
 obtain⟨c0,hc0⟩:=Gg ns 0;obtain⟨c4,hc4⟩:=Gg ns 4;have m0:=Zgj c0 16807;have p0:=Pd c0 16807;generalize c0 % 2147483647*16807 % 2147483647=X0 at*;obtain⟨bs,b0,bl,_,_⟩:=E5 X0 p0 3 (by omega);obtain⟨x,y,z,rfl⟩:∃x y z,bs=[x,y,z]:=by
  match bs,bl with
  | [x,y,z],_=>exact⟨x,y,z,rfl⟩
 have b0:Gen.Yx [.int X0,.int 3]=aA (.ol [.str x,.str y,.str z]):=b0;have hc0:Gen.Zq [.lst (ns.map D.int),.int 0]=aA (.fz (.int c0)):=hc0;have hc4:Gen.Zq [.lst (ns.map D.int),.int 4]=aA (.fz (.int c4)):=hc4;have h1:Y0 1 (Yc 2 Gen.Yx (Zc (Yc 2 Gen.Wo (Zc (Yc 2 Gen.Zq (Zc (Za 0) (Zc (Zf (.int 0)) (Zj)))) (Zc (Zf (.int 16807)) (Zj)))) (Zc (Zf (.int 3)) (Zj)))) [aA (.fz (.lst (ns.map D.int))),aB,aB,aB,aB,aB,aB,aB,aB,aB,aB,aB]=aA (.nx [aA (.fz (.lst (ns.map D.int))),aA (.ol [.str x,.str y,.str z]),aB,aB,aB,aB,aB,aB,aB,aB,aB,aB]):=by generalize ns.map D.int=ND at*;simp[hc0,m0,b0]
 have h2:∃v:Str,(Xc (Ys (Zm eqX (Zm Uf (Yc 2 Gen.Zq (Zc (Za 0) (Zc (Zf (.int 4)) (Zj)))) (Zf (.int 3))) (Zf (.int 1)))) (Du 1 (Zf (.int 2)) (Zm O5 (Za 1) (Zm Uf (Zm Rr (Yc 2 Gen.Zq (Zc (Za 0) (Zc (Zf (.int 4)) (Zj)))) (Zf (.int 3))) (Zf (.int 2))))) (Ut)) [aA (.fz (.lst (ns.map D.int))),aA (.ol [.str x,.str y,.str z]),aB,aB,aB,aB,aB,aB,aB,aB,aB,aB]=aA (.nx [aA (.fz (.lst (ns.map D.int))),aA (.ol [.str x,.str y,.str v]),aB,aB,aB,aB,aB,aB,aB,aB,aB,aB]):=by
  by_cases h:c4 % 3=1
  .obtain⟨v,hv⟩:∃v:Str,L2.atI [D.str x,D.str y,D.str z] (c4 / 3 % 2)=aA (.str v):=by
    have:c4 / 3 % 2=0\/c4 / 3 % 2=1:=by omega
    rcases this with h|h<;> rw[h]
    .exact⟨x,rfl⟩
    .exact⟨y,rfl⟩
   refine⟨v,?_⟩;have i2:L2.ixN 3 2=aA 2:=rfl;generalize ns.map D.int=ND at*;simp[hc4,h,hv,i2]
  .refine⟨z,?_⟩;generalize ns.map D.int=ND at*;simp[hc4,h]
 obtain⟨v,h2⟩:=h2;refine⟨x,y,v,?_⟩;unfold Gen.Zaz;generalize Gen.Mb=TL;rw[Za3 h1,Za3 h2]
theorem law_true(ns:List Int)(hn:ns.length<=63):Gen.Mc [.lst (ns.map D.int)]=aA (.fz (.bl aC)):=by
 obtain⟨b0,b1,b2,hh⟩:=Zg3 ns
 suffices ht:Gen.Mb [aA (.fz (.lst (ns.map D.int))),aA (.ol [.str b0,.str b1,.str b2]),aB,aB,aB,aB,aB,aB,aB,aB,aB,aB]=aA (.rt (.fz (.bl aC))) by rw[ht]at hh;unfold Gen.Mc;generalize ns.map D.int=ND at*;simp[hh]
 clear hh;obtain⟨ms,em,hms⟩:=Zcs ns;obtain⟨c1,hc1⟩:=Gg ns 1;obtain⟨c2,hc2⟩:=Gg ns 2;obtain⟨c3,hc3⟩:=Gg ns 3;obtain⟨c5,hc5⟩:=Gg ns 5;have m1:=Zgj c1 16807;have m2:=Zgj c2 16807;have p1:=Pd c1 16807;have p2:=Pd c2 16807;generalize c1 % 2147483647*16807 % 2147483647=X1 at*;generalize c2 % 2147483647*16807 % 2147483647=X2 at*;obtain⟨ks,k0,kl,knd,kn⟩:=E5 X1 p1 4 (by omega);obtain⟨F,f0,fl,fnd,fn⟩:=E5 X2 p2 3 (by omega);obtain⟨rs,rl,ro,r0⟩:=Zcp F fl c3;have w0':0<=c5 % 9:=f9 _ (by decide);have w1':c5 % 9<9:=d8 _ (by decide);obtain⟨wd,hwd⟩:∃wd:Nat,(wd:Int)=2+c5 % 9:=⟨(2+c5 % 9).toNat,by omega⟩
 obtain⟨A,B,C,ok,w0⟩:=Vl ks F kl knd fl fnd fn ms hms wd (by omega) (by omega);obtain⟨oA,nA,lA⟩:=ok A (by simp);obtain⟨oB,nB,lB⟩:=ok B (by simp);obtain⟨oC,nC,lC⟩:=ok C (by simp);clear ok;obtain⟨W,hW,pW⟩:=Zg0 F fl;have ml:∀w:Wk,(w.marks rs).length<=3:=λw=>dk (M8 _ _ rs 0) rl;have shw:∀ws:List Wk,(∀w∈ws,WP F w)->(ws.map Wk.key).Nodup->ws.length<=3->Shw rs ws:=λws o n l=>⟨n,λw h=>(o w h).ok,by omega,by have:=Nat.mul_le_mul l rl;omega,λr hr=>by have:=ro r hr;omega,by omega⟩
 let U:List NK:=(A.map λw=>C6 b0 w.key)++(B.map λw=>C6 b1 w.key)++(C.map λw=>C6 b2 w.key)
 let V:List NK:=A.flatMap (λw=>w.marks rs)++B.flatMap (λw=>w.marks rs)++C.flatMap (λw=>w.marks rs);have hU:U.length<=9:=by show((A.map λw=>C6 b0 w.key)++(B.map λw=>C6 b1 w.key)++(C.map λw=>C6 b2 w.key)).length<=9;simp only[aw,aq];omega
 have fm:∀ws:List Wk,ws.length<=3->(ws.flatMap λw=>w.marks rs).length<=9:=λws h=>by rw[List.length_flatMap];have:=W3 (λw:Wk=>(w.marks rs).length) 3 ws λw _=>ml w;omega
 have hV:V.length<=31:=by show(A.flatMap (λw=>w.marks rs)++B.flatMap (λw=>w.marks rs)++C.flatMap (λw=>w.marks rs)).length<=31;have:=fm A lA;have:=fm B lB;have:=fm C lC;simp only[aw];omega
 have pool:∀(b:Str) (ws:List Wk),(∀w∈ws,WP F w)->(ws.map Wk.key).Nodup->ws.length<=3->(∀w∈ws,C6 b w.key∈U)->(∀w∈ws,∀m∈w.marks rs,m∈V)->∃P,PL U V W (· ∈ws.map (Qt b rs)) P/\Gen.Wn [.str b,Zz ws,.lst (rs.map Yr)]=aA (.ol (P.map Z0)):=λb ws o n l hu hv=>by obtain⟨P,p,oo,_,e⟩:=pool_of b rs ws (shw ws o n l) ⟨W,hW,λw hw=>pW b w (o w hw)⟩;exact⟨P,⟨p,Zg1 hu hv λw hw=>pW b w (o w hw),oo⟩,e⟩
 obtain⟨PA,pA,qA⟩:=pool b0 A oA nA lA (λw h=>bj _ (bj _ (ax.mpr ⟨w,h,rfl⟩))) (λw h m hm=>bj _ (bj _ (gg.mpr ⟨w,h,hm⟩)));obtain⟨PB,pB,qB⟩:=pool b1 B oB nB lB (λw h=>bj _ (bh _ (ax.mpr ⟨w,h,rfl⟩))) (λw h m hm=>bj _ (bh _ (gg.mpr ⟨w,h,hm⟩)));obtain⟨PC,pC,qC⟩:=pool b2 C oC nC lC (λw h=>bh _ (ax.mpr ⟨w,h,rfl⟩)) (λw h m hm=>bh _ (gg.mpr ⟨w,h,hm⟩));have hU':U.length<=31:=by omega
 obtain⟨O,o,la⟩:=Zj0 hU' hV hW pA pB pC;have sm:=B9 o.u o.p;have un:=C7 o.u o.p;have ap:=Ig o.p;have srt:∀h∈O,h.ns.Pairwise kLt/\h.ms.Pairwise kLt:=λh hh=>by obtain⟨a,sa,m⟩:=o.p.each h hh;exact⟨m.ns_s,m.ms_s⟩
 have ndN:(O.flatMap HP.ns).Nodup:=List.pairwise_flatMap.mpr ⟨λh hh=>W8 (srt h hh).1,ap.imp fun{h h'} z x hx y hy e=>z x (bj _ hx) (by rw[e];exact bj _ hy)⟩;have ndM:(O.flatMap HP.ms).Nodup:=List.pairwise_flatMap.mpr ⟨λh hh=>W8 (srt h hh).2,ap.imp fun{h h'} z x hx y hy e=>z x (bh _ hx) (by rw[e];exact bh _ hy)⟩;have iN:∀k∈O.flatMap HP.ns,Rb k:=λk hk=>by obtain⟨h,hh,hk⟩:=gg.mp hk;exact(un.ns h hh k hk).2
 have eN:∀k,k∈O.flatMap HP.ns↔k∈U:=λk=>by
  constructor
  .intro hk;obtain⟨h,hh,hk⟩:=gg.mp hk;exact(un.ns h hh k hk).1
  .have one:∀(b:Str) (ws:List Wk),(∀a,a∈ws.map (Qt b rs)->(a∈A.map (Qt b0 rs)\/a∈B.map (Qt b1 rs)\/a∈C.map (Qt b2 rs)))->k∈(ws.map λw=>C6 b w.key)->k∈O.flatMap HP.ns:=λb ws sub hk=>by obtain⟨w,hw,rfl⟩:=ax.mp hk;have hs:=sub _ (List.mem_map_of_mem hw);obtain⟨h,hh,m⟩:=o.p.all (Qt b rs w) hs;exact gg.mpr ⟨h,hh,(m.ns_m _).mpr ⟨_,.here hs,ar.mpr rfl⟩⟩
   intro hk;rcases bz.mp hk with hk|hk
   .rcases bz.mp hk with hk|hk
    .exact one b0 A (λa h=>.inl h) hk
    .exact one b1 B (λa h=>.inr (.inl h)) hk
   .exact one b2 C (λa h=>.inr (.inr h)) hk
 have isU:∀k∈U,Rb k:=λk hk=>iN k ((eN k).mpr hk);obtain⟨R,r1,r2⟩:=Pg (.inl isU);have lap:=Zcr O U R ndN ndM (by have:=sm.ns;omega) (by have:=sm.ms;omega) iN (by omega) eN r1 r2;have eO:We 48 (Yp O) (Yp O)=aA aC:=R7 40 _ o.ok;have so:Cm [Yp O]=aA (.ol (O.map Z0)):=Zgg o.ok (List.pairwise_map.mpr (o.p.sorted.imp λh e=>by rw[e]at h;exact fg _ h)) (by have:=sm.ln;omega) (.refl _) (o.p.sorted.imp λh=>Zaw h);have part:∀{S:HP->Prop} {P:List HP},PL U V W S P->(∀a,S a->(a∈A.map (Qt b0 rs)\/a∈B.map (Qt b1 rs)\/a∈C.map (Qt b2 rs)))->Gen.Wg [Yp O,Yp P]=aA (.ol (O.map Z0))/\Gen.Wg [Yp P,Yp O]=aA (.ol (O.map Z0))/\Gen.Wd [Yp P,Yp O]=aA (.fz (.bl aC)):=fun{S P} p sub=>by refine⟨Me hU' hV hW o p o λa=>⟨λz=>z.elim id (sub a),.inl⟩,Me hU' hV hW p o o λa=>⟨λz=>z.elim (sub a) id,.inr⟩,Hr P O λh hh=>?_⟩;have up:=C7 p.u p.p;have sp:=(B9 p.u p.p).fw h hh;exact⟨λk hk=>(up.ns h hh k hk).2,by omega,λo' ho=>⟨λk hk=>(un.ns o' ho k hk).2,Vq sub p.p o.p hh ho⟩⟩
 have hA:=part pA λa h=>.inl h;have hB:=part pB λa h=>.inr (.inl h);have hC:=part pC λa h=>.inr (.inr h);have oo:=Me hU' hV hW o o o λa=>⟨λz=>z.elim id id,.inl⟩
 have e3:We 48 (.lst [Yp PA,Yp PB,Yp PC]) (.lst [Yp PA,Yp PB,Yp PC])=aA aC:=R5 47 _ λx hx=>by
  simp only[bx,List.not_mem_nil,or_false]at hx;rcases hx with rfl|rfl|rfl
  .exact R7 39 _ pA.ok
  .exact R7 39 _ pB.ok
  .exact R7 39 _ pC.ok
 have cp1:=Io Gen.R9 rfl b0 b1 b2 (rs.map Yr) (Zz A) (Zz B) (Zz C) (PA.map Z0) (PB.map Z0) (PC.map Z0) qA qB qC;have cp6:=Io Gen.Zay rfl b0 b1 b2 (rs.map Yr) (Zz A) (Zz B) (Zz C) (PA.map Z0) (PB.map Z0) (PC.map Z0) qA qB qC;have sc:=Lg (O.map Z0) eO 12;have k0:Gen.Yx [.int X1,.int 4]=aA (.ol (ks.map D.str)):=k0;have f0:Gen.Yx [.int X2,.int 3]=aA (.ol (F.map D.str)):=f0;have hc1:Gen.Zq [.lst (ns.map D.int),.int 1]=aA (.fz (.int c1)):=hc1;have hc2:Gen.Zq [.lst (ns.map D.int),.int 2]=aA (.fz (.int c2)):=hc2;have hc3:Gen.Zq [.lst (ns.map D.int),.int 3]=aA (.fz (.int c3)):=hc3;have hc5:Gen.Zq [.lst (ns.map D.int),.int 5]=aA (.fz (.int c5)):=hc5;have hwd':2+c5 % 9=(wd:Int):=hwd.symm;obtain⟨y8,nl⟩:=Vr (aA (.fz (.lst (ns.map D.int)))) (aA (.fz (.lst (ks.map D.str)))) (aA (.fz (.lst (F.map D.str)))) (aA (.fz (.lst (rs.map Yr)))) (aA (.ol [Yp PA,Yp PB,Yp PC])) b0 b1 b2 A B C lA lB lC;obtain⟨y11,pl⟩:=Lh (aA (.fz (.lst (ns.map D.int)))) (aA (.fz (Pj b0 b1 b2))) (aA (.fz (.lst (ks.map D.str)))) (aA (.fz (.lst (F.map D.str)))) (aA (.fz (.lst (rs.map Yr)))) (aA (.fz (.lst [Zz A,Zz B,Zz C]))) (aA (.fz (.lst [Yp PA,Yp PB,Yp PC]))) (aA (.ol (U.map Zn))) y8 (aA (.ol (dn 12 (Yp O)))) O eO [PA,PB,PC] aB (λP h=>by
  simp only[bx,List.not_mem_nil,or_false]at h;rcases h with rfl|rfl|rfl
  .exact hA
  .exact hB
  .exact hC)
 rw[show[PA,PB,PC].map Yp=[Yp PA,Yp PB,Yp PC]from rfl]at pl;have nl:Z7 (Zd 8) Gen.Ma (Ce 0 3) [aA (.fz (.lst (ns.map D.int))),aA (.fz (Pj b0 b1 b2)),aA (.fz (.lst (ks.map D.str))),aA (.fz (.lst (F.map D.str))),aA (.fz (.lst (rs.map Yr))),aA (.fz (.lst [Zz A,Zz B,Zz C])),aA (.ol [Yp PA,Yp PB,Yp PC]),aA (.ol []),aB,aB,aB,aB]=aA (.nx [aA (.fz (.lst (ns.map D.int))),aA (.fz (Pj b0 b1 b2)),aA (.fz (.lst (ks.map D.str))),aA (.fz (.lst (F.map D.str))),aA (.fz (.lst (rs.map Yr))),aA (.fz (.lst [Zz A,Zz B,Zz C])),aA (.ol [Yp PA,Yp PB,Yp PC]),aA (.ol (U.map Zn)),y8,aB,aB,aB]):=nl;have at0:L2.atI (dn 12 (Yp O)) 0=aA (Yp O):=rfl;have g3:Mi (3:Int):=Uv (n:=3) (by decide);have e3':=e3;unfold Pj at*
 clear_value U V
 clear part hA hB hC pool shw ml fm hU hV hU' o sm un ap srt ndN ndM iN eN isU r1 r2 pA pB pC qA qB qC pW hW oA oB oC nA nB nC lA lB lC kl knd kn fl fnd fn ro hms w0' w1' p1 p2;unfold Yp at*;generalize O.map Z0=OD at*;generalize PA.map Z0=DA at*;generalize PB.map Z0=DB at*;generalize PC.map Z0=DC at*;generalize U.map Zn=UD at*;generalize Zz A=SA at*;generalize Zz B=SB at*;generalize Zz C=SC at*;generalize rs.map Yr=RD at*;generalize ks.map D.str=KD at*;generalize F.map D.str=FD at*;generalize ms.map D.int=MD at*;generalize ns.map D.int=ND at*;generalize dn 12 (D.lst OD)=RP at*;have t3:(3:Int).toNat=3:=rfl;have e00:We 48 (.lst []) (.lst [])=aA aC:=rfl;unfold Gen.Mb;simp[em,hc1,hc2,hc3,hc5,m1,m2,k0,f0,r0,hwd',w0,g3,t3,Qp,cp1,cp6,nl,la,at0,sc,e00,lap,e3,pl,oo,eO,so,-Z7,-Yb,-We]
end My
namespace PySem.W.Fast
def tw12206433987742352041:=()
def tw3979605703789144908:=()
def tw9299254322696481958:=()
def tw5924490764307737465:=()
def tw10657637766912904244:=()
def tw12643734502483820853:=()
def tw12038531320720090110:=()
def tw3357573259214177833:=()
def tw14164517044179209052:=()
def tw779187777251733116:=()
def tw5967032908064763794:=()
def tw7780682582590598193:=()
def tw728103818051609747:=()
def tw14422416401754672224:=()
def tw13921875186353489365:=()
def tw13591585234240288479:=()
def tw20227790086067428:=()
def tw6891582581417151392:=()
def tw7332285316556473622:=()
def tw3247089224950156116:=()
def tw5593613416151550647:=()
def tw1602621116473425085:=()
def tw15629724416895746467:=()
def tw5217479028450289625:=()
def tw1240906412127893442:=()
def tw8166046095351805631:=()
def tw18244899303365441028:=()
def tw5385434225856173484:=()
def tw13782361739528066766:=()
def tw9123923473201246577:=()
def tw13865463218019253628:=()
def tw12950765284606352521:=()
def tw9659116267664736885:=()
def tw5312086194692882973:=()
def tw2081456672017849541:=()
def tw14765053982320024004:=()
def tw5176266264621532705:=()
def tw11475333244486135929:=()
def tw8682356445059201799:=()
def tw4768350980113179083:=()
def tw2110477138323466301:=()
def tw2364632490425502682:=()
def tw7096207824481956639:=()
def tw10279624525948054772:=()
def tw5775229424675834421:=()
def tw11659874138691997302:=()
def tw10423298867492502579:=()
def tw13053586688665586970:=()
def tw7549408095927524162:=()
def tw15507323548297399298:=()
def tw7076992277090773630:=()
def tw16756181709821749260:=()
def tw14318353101650943927:=()
def tw6011355444956094192:=()
def tw17029558816584842504:=()
def tw12002716445338950661:=()
def tw1857210152791997041:=()
def tw7212673966510034285:=()
def tw6281721225690744099:=()
def tw7759104263034071282:=()
def tw14303812419773258418:=()
def tw10447970611333000110:=()
def tw14914224261753108001:=()
def tw15116070653146127780:=()
def tw15687195174200727302:=()
def tw5166081476677344014:=()
def tw8462779205440199392:=()
def tw17714509782175459081:=()
def tw4437069900377867580:=()
def tw5212791772864534593:=()
def tw11352767906060662257:=()
def tw9878251723328505653:=()
def tw3726248198206103854:=()
def tw6971264231293566546:=()
def tw15733381311782034676:=()
def tw18293060489592741284:=()
end PySem.W.Fast
open PySem PySem.W PyProof.Rows
set_option maxRecDepth 100000 in
set_option maxHeartbeats 0 in
theorem PySem.Challenge.cw_citeward_k39_whole_any_order_holds : PySem.Challenge.rw_citeward_k39_whole_any_order.Holds := by
  w_on; o_law; k_head; (case hw => w_witness2)
  k_fill
  refine Gen.Zw4 (l := PySem.Challenge.rw_citeward_k39_whole_any_order) rfl rfl (fun w h Y => PySem.W.kIn_of Y) ?F My.law_true
  case F =>
    intro w mg fa h KX G hmg
    apply Gen.Zof KX G hmg<;>first|k_is|exact⟨_,L2.Wq (by k_is) (by k_is) (by k_is)⟩
