import PyProof.Rows.All
import Wide.All
import OpenK.AllK
import Wide.FinOn
import Lean
import PyProof.EqAt
import PyProof.EqKinds
import PyProof.TupleCall
import PyProof.NeKinds
import PyProof.EnumMake
import PyProof.ConsumeWalk
import PyProof.StrWalks
import PyProof.WalksMore
import PyProof.StrLawsNeg
import KE.KDictList
import KE.KLam
import KE.KMinKey
import KE.KSortTup
import KE.KUnpack
import PySem.Challenge.RW_citeward_k30_whole_what_is_listed
set_option Elab.async false
set_option linter.all false
set_option genSizeOf false
set_option genSizeOfSpec false
set_option maxRecDepth 100000
set_option maxHeartbeats 4000000
open Option renaming bind_eq_some_iff->aa,map_eq_some_iff->dg,some->dz,bind_some->f6
open PySem renaming wpAny_bind->ac,Value->ag,Addr->ak,wpAny_pure->ao,Shared->ap,starEach->av,mainGlobals->bq,wpAny->br,sizeLine->bv,FuncData->bx,Program->b5,Expr->b7,model->cg,World->cw,Around->c8,compareOp->df,backTo->dj,eval->dk,Heap->du,wpAny_call_entry->dv,sysModules->d3,strIterType->d7,cLine->fq
open PySem.W renaming Frag->ad,keepIn->bc,nsIn->bz,mg_of->b8,mg_none_of->dn,mroIn->eg
open List renaming mem_cons_self->af,mem_cons_of_mem->aj,length_map->am,mem_singleton->aq,length_append->aw,mem_map->ax,map_cons->ay,length_cons->bd,getElem?_eq_getElem->bj,getElem?_map->bn,mem_cons->bo,getElem?_eq_some_iff->bp,size_toArray->bu,map_append->b4,mem_append_right->b6,getD_eq_getElem?_getD->cf,mem_append->cj,map_map->cx,nil_append->cy,nodup_nil->cz,length_singleton->c6,getElem?_set_ne->c9,getElem?_set_self->dh,mem_append_left->di,append_nil->dm,filterMap_cons_some->dq,filterMap_cons_none->dr,append_assoc->dy,nodup_cons->d5,length_set->d6,range->ed,all_eq_true->eu,mem_of_getElem?->f7,filter_cons_of_neg->f8
open PySem.Str renaming ofString->au,join->cr,empty->ez
open PySem.Heap renaming get?_push_of_some->az,lt_size->bi,get?_push_size->b3
open Bool renaming false_ne_true->ba,false_eq_true->c7
open Nat renaming le_refl->bg,lt_of_lt_of_le->cn,ne_of_lt->de,zero_le->d8,lt_irrefl->eh,le_trans->fj
open Sum renaming inr->bh
open PySem.Value renaming ref->b9,none->dw
open PySem.Builtin.Str renaming occurrences->ci
open Array renaming length_toList->cq
open PySem.PassesOwn renaming never->dl
open PySem.F renaming slot_dict_keyiterator_next->d4
open PySem.NameKind renaming free->eo
open Or renaming inr->fg
open PySem.Obj renaming data_mapFields->fm
open Option renaming some->aA,none->aB
open Bool renaming true->aC,false->aD
set_option bootstrap.genMatcherCode false
noncomputable section
namespace L2
open PySem PySem.Spec PyProof.Rows
noncomputable abbrev Key:=Sum Int Str
def Cj:Key->ag->Bool
 | .inl k,v=>Value.isInt k v
 | .inr x,v=>Value.isStrOf x v
def Zth(w:cw):Key->Int
 | .inl k=>hashInt k
 | .inr x=>hashStr w x
theorem Z7:∀{k:Key} {v:ag},Cj k v=aC->(∃i t,k=Sum.inl i/\v=Value.int i t)\/(∃x t,k=bh x/\v=Value.str x t)
 | .inl i,v,h=>by obtain⟨t,e⟩:=Value.isInt_shape (k:=i) (v:=v) h;exact .inl ⟨i,t,rfl,e⟩
 | .inr x,v,h=>by obtain⟨t,e⟩:=Value.isStrOf_shape (x:=x) (v:=v) h;exact .inr ⟨x,t,rfl,e⟩
theorem Zal(i:Int)(t:Tok):Cj (.inl i) (.int i t)=aC:=by simp[Cj,Value.isInt]
theorem Zam(x:Str)(t:Tok):Cj (.inr x) (.str x t)=aC:=by simp[Cj,Value.isStrOf]
theorem Zlx(a b:Int):decide ((Sum.inl a:Key)=Sum.inl b)=(a==b):=by
 by_cases e:a=b
 .subst e;simp
 .have h:¬(Sum.inl a:Key)=Sum.inl b:=λq=>e (Sum.inl.inj q);rw[decide_eq_false h];exact(beq_eq_false_iff_ne.mpr e).symm
theorem Zly(a b:Str):decide ((bh a:Key)=bh b)=decide (a=b):=by
 by_cases e:a=b
 .subst e;simp
 .have h:¬(bh a:Key)=bh b:=λq=>e (bh.inj q);rw[decide_eq_false h,decide_eq_false e]
theorem Zlz(a:Int)(b:Str):decide ((Sum.inl a:Key)=bh b)=aD:=decide_eq_false (λq=>nomatch q)
theorem Zl0(a:Str)(b:Int):decide ((bh a:Key)=Sum.inl b)=aD:=decide_eq_false (λq=>nomatch q)
def Zs(prog:b5)(w:cw):PySem.KeyKind prog w Key where
 is:=Cj
 hash:=Zth w
 inj:=λv a b ha hb=>by
  rcases Z7 ha with⟨i,t,rfl,rfl⟩|⟨x,t,rfl,rfl⟩
  .rcases Z7 hb with⟨j,u,rfl,e⟩|⟨y,u,rfl,e⟩
   .injection e with e1 _;rw[e1]
   .exact nomatch e
  .rcases Z7 hb with⟨j,u,rfl,e⟩|⟨y,u,rfl,e⟩
   .exact nomatch e
   .injection e with e1 _;rw[e1]
 byValue:=λk v h=>by rcases Z7 h with⟨i,t,rfl,rfl⟩|⟨x,t,rfl,rfl⟩<;> rfl
 pyHash:=λhv h=>by
  rcases Z7 hv with⟨i,t,rfl,rfl⟩|⟨x,t,rfl,rfl⟩
  .exact wpAny_pyHash_int h
  .exact wpAny_pyHash_str h
 eqBool:=λhu hv h=>by
  rcases Z7 hu with⟨i,t,rfl,rfl⟩|⟨x,t,rfl,rfl⟩
  .rcases Z7 hv with⟨j,u,rfl,rfl⟩|⟨y,u,rfl,rfl⟩
   .rw[Zlx]at h;exact wpAny_eqBool_int h
   .rw[Zlz]at h;exact SeqAt.EqAt.int_str i t y u _ _ _ _ h
  .rcases Z7 hv with⟨j,u,rfl,rfl⟩|⟨y,u,rfl,rfl⟩
   .rw[Zl0]at h;exact SeqAt.EqAt.str_int x t j u _ _ _ _ h
   .rw[Zly]at h;exact wpAny_eqBool_str h
 «strs»:=λk x t v h=>by
  rcases Z7 h with⟨i,u,rfl,e⟩|⟨y,u,rfl,e⟩
  .exact nomatch e
  .injection e with e1 _;subst e1;cases v<;> rfl
theorem Zl1(prog:b5)(w:cw)(k:Key)(v:ag):(Zs prog w).is k v=Cj k v:=rfl
theorem Nn(prog:b5)(w:cw)(i:Int)(t:Tok):(Zs prog w).is (.inl i) (.int i t)=aC:=Zal i t
theorem Np(prog:b5)(w:cw)(x:Str)(t:Tok):(Zs prog w).is (.inr x) (.str x t)=aC:=Zam x t
noncomputable abbrev Wq:=Sum (List Str) (Int×List Str)
def Ic(l:List Str):List Key:=l.map bh
theorem K4{a b:List Str}(h:Ic a=Ic b):a=b:=by
 induction a generalizing b with
 |nil=>cases b with
  |nil=>rfl
  |cons y b=>simp[Ic]at h
 |cons x a ih=>cases b with
  |nil=>simp[Ic]at h
  |cons y b=>simp only[Ic,ay,List.cons.injEq]at h;rw[bh.inj h.1,ih h.2]
theorem Ha(a b:List Str):decide (Ic a=Ic b)=decide (a=b):=by
 by_cases e:a=b
 .rw[e];simp
 .rw[decide_eq_false e,decide_eq_false λz=>e (K4 z)]
def Nq(prog:b5)(w:cw)(h:du):Wq->ak->Prop
 | .inl l,a=>IsTupleKey (Zs prog w) h (Ic l) a
 | .inr (n,l),a=>∃o items m t b,h.get? a=aA o/\o.cls= .type "tuple"/\o.data= .seq items m/\items.toList=[.int n t,.ref b]/\IsTupleKey (Zs prog w) h (Ic l) b
def Hb(prog:b5)(w:cw):Wq->Int
 | .inl l=>tupleKeyHash (Zs prog w) (Ic l)
 | .inr (n,l)=>reduceHash (Builtin.Tuple.tupleHashOf [hashInt n,tupleKeyHash (Zs prog w) (Ic l)])
def K5:Wq->Nat
 | .inl l=>(Ic l).length+1
 | .inr (_,l)=>1+((Ic l).length+1)+1
section
variable{prog:b5}{w:cw}{A:c8}{E:ag->ap->Prop}{s:ap}
theorem Nq.typeIs{k:Wq}{a:ak}(x:Nq prog w s.heap k a):s.TypeIs (.ref a) "tuple":=by
 cases k with
 |inl l=>exact IsTupleKey.typeIs (show IsTupleKey (Zs prog w) s.heap (Ic l) a from x)
 |inr p=>obtain⟨o,_,_,_,_,ho,hc,_⟩:=x;exact⟨o,ho,hc⟩
theorem Ap{l:List Str}{n:Int}{t:Tok}{vs:List ag}(h:ItemsAre (Zs prog w) (Ic l) (.int n t::vs)):False:=by
 cases l with
 |nil=>cases h
 |cons x l=>
  cases h with
  |cons h1 _=>
   rcases Z7 (k:=.inr x) (v:=.int n t) h1 with⟨_,_,e,_⟩|⟨_,_,_,e⟩
   .cases e
   .cases e
theorem Nq.inj{h:du}{a:ak}{x y:Wq}(hx:Nq prog w h x a)(hy:Nq prog w h y a):x=y:=by
 have mix:∀{l:List Str} {n:Int} {l2:List Str},Nq prog w h (.inl l) a->Nq prog w h (.inr (n,l2)) a->False:=fun{l n l2} h1 h2=>by obtain⟨o,items,m,ho,_,hd,hi⟩:=h1;obtain⟨o',items',m',t,b,ho',_,hd',e,_⟩:=h2;obtain rfl:o=o':=dz.inj (ho.symm.trans ho');rw[hd]at hd';injection hd' with z _;subst z;rw[e]at hi;exact Ap hi
 cases x with
 |inl l=>cases y with
  |inl l2=>rw[K4 (IsTupleKey.inj (show IsTupleKey (Zs prog w) h (Ic l) a from hx) hy)]
  |inr p=>exact(mix hx hy).elim
 |inr p=>cases y with
  |inl l2=>exact(mix hy hx).elim
  |inr q=>obtain⟨n,l⟩:=p;obtain⟨n2,l2⟩:=q;obtain⟨o,items,m,t,b,ho,_,hd,e,hb⟩:=hx;obtain⟨o',items',m',t',b',ho',_,hd',e',hb'⟩:=hy;obtain rfl:o=o':=dz.inj (ho.symm.trans ho');rw[hd]at hd';injection hd' with z _;subst z;rw[e]at e';injection e' with e1 e2;injection e1 with e1 _;injection e2 with e2 _;injection e2 with e2;subst e1 e2;rw[K4 (hb.inj hb')]
theorem Nq.keeps{h h':du}{k:Wq}{a d:ak}{o:Obj}{es ep} (x:Nq prog w h k a) (ho:h.get? d=aA o) (hd:o.data= .dict es ep) (hs:Heap.SameBut d h h'):Nq prog w h' k a:=by
 cases k with
 |inl l=>exact IsTupleKey.keeps (show IsTupleKey (Zs prog w) h (Ic l) a from x) ho hd hs
 |inr p=>
  obtain⟨o',items,m,t,b,ho',hc,hd',e,hb⟩:=x;have hne:a≠d:=by rintro rfl;obtain rfl:o'=o:=dz.inj (ho'.symm.trans ho);rw[hd]at hd';exact nomatch hd'
  exact⟨o',items,m,t,b,(hs.2 a hne).trans ho',hc,hd',e,hb.keeps ho hd hs⟩
theorem Zl2{k:Wq}{a:ak}{Q:Int->ap->Prop}(hu:A.units+1<fq)(hk:Nq prog w s.heap k a)(h:Q (Hb prog w k) {s with toks:=s.toks+K5 k}):br (cg prog w) A (pyHash (.ref a)) Q E s:=by
 cases k with
 |inl l=>exact wpAny_pyHash_tuple (knd:=Zs prog w) (by omega) hk h
 |inr p=>
  have hT:=hk.typeIs;obtain⟨n,l⟩:=p;obtain⟨o,items,m,t,b,ho,_,hd,hi,hb⟩:=hk;unfold pyHash
  first|unfold pyHashByItsType|skip
  first|refine ac (wpAny_cRoomFor_or (.inr (by omega)) ?_)|skip
  refine ac (wpAny_specialOf hT F.slot_tuple_hash.lookup ?_);show br _ _ (if(aA (Value.builtin "tuple.__hash__")==aA dw)=aC then _ else _) Q E s;rw[if_neg (by rw[beq_builtin_none];exact ba)];refine ac (wpAny_specialOf hT F.slot_tuple_hash.lookup ?_);show br _ _ (callSpecialIfBoundUnlessNone? (.ref a) "__hash__" _ >>=_) Q E s;refine ac (wpAny_callSpecialIfBoundUnlessNone?_slot hT F.slot_tuple_hash (dv F.slot_tuple_hash hT F.entry_tuple_hash ?_ (F.args_tuple_hash_1 _)));show br _ _ (Builtin.Tuple.tupleItemsOf (.ref a) >>=_) _ _ s;refine ac (wpAny_tupleItemsOf ho hd ?_);refine ac ?_;rw[<-Array.forIn_toList,hi];simp only[List.forIn_cons,List.forIn_nil];have hu1:A.in1.units<cLine:=hu;refine ac (ac (wpAny_pyHash_int ?_));refine ao ?_;dsimp only;refine ac (ac (wpAny_pyHash_tuple (knd:=Zs prog w) (s:={s with toks:=s.toks+1}) hu1 hb ?_));refine ao ?_;refine ao ?_;generalize hg:tupleKeyHash (Zs prog w) (Ic l)=g at h⊢;show br _ _ (retInt (Builtin.Tuple.tupleHashOf [hashInt n,g])) _ _ _;refine wpAny_ret_mkInt ?_;unfold Hb at h;dsimp only at h;rw[hg]at h;generalize Builtin.Tuple.tupleHashOf [hashInt n,g]=z at h⊢;show br _ _ (if(decide (-(2:Int)^63<=z)&&decide (z<2^63))=aC then _ else _) Q E _;unfold reduceHash at h;by_cases hr:(decide (-(2:Int)^63<=z)&&decide (z<2^63))=aC
  .rw[if_pos hr];rw[if_pos hr]at h;exact ao (by simpa[K5,Nat.add_assoc]using h)
  .rw[if_neg hr];rw[if_neg hr]at h;exact ac (wpAny_rule (ao (by simpa[K5,Nat.add_assoc]using h)))
theorem Zan{x y:Wq}{a b:ak}{P:Fin->ap->Prop}(hu:A.units<fq)(hx:Nq prog w s.heap x a)(hy:Nq prog w s.heap y b)(h:P (.done (.ret (.bool (decide (x=y))))) s):
  br (cg prog w) A (Builtin.«tuple.__eq__» ⟨[.ref a,.ref b],[]⟩) P E s:=by
 have mixS:∀(x:Str) (tx:Tok) (n:Int) (tn:Tok) {Q:Bool->ap->Prop},Q aD s->br (cg prog w) A (eqBool (.str x tx) (.int n tn)) Q E s:=λx tx n tn Q q=>SeqAt.EqAt.str_int x tx n tn _ _ _ _ q;have mixI:∀(x:Str) (tx:Tok) (n:Int) (tn:Tok) {Q:Bool->ap->Prop},Q aD s->br (cg prog w) A (eqBool (.int n tn) (.str x tx)) Q E s:=λx tx n tn Q q=>SeqAt.EqAt.int_str n tn x tx _ _ _ _ q;have hTb:=hy.typeIs;cases x with
 |inl l=>cases y with
  |inl l2=>
   refine tuple_eq_tree (knd:=Zs prog w) (x:=Ic l) (y:=Ic l2) hx hy ?_;rw[Ha];have:decide ((Sum.inl l:Wq)=Sum.inl l2)=decide (l=l2):=by
    by_cases e:l=l2
    .rw[e];simp
    .rw[decide_eq_false e,decide_eq_false λz=>e (Sum.inl.inj z)]
   rw[this]at h;exact h
  |inr p=>
   obtain⟨n,l2⟩:=p;obtain⟨oa,xs,na,hoa,_,hda,hia⟩:=hx;obtain⟨ob,ys,nb,t,c,hob,_,hdb,e,hc⟩:=hy;have hf:decide ((Sum.inl l:Wq)=bh (n,l2))=aD:=decide_eq_false λz=>nomatch z;rw[hf]at h;show br _ _ (isInstance (.ref b) (.type "tuple") >>=_) _ _ s;refine ac (wpAny_isInstance hTb isSubtype_tuple_tuple ?_);simp only[Bool.not_true,c7,if_false];refine ac (wpAny_tupleItemsOf hoa hda ?_);refine ac (wpAny_tupleItemsOf hob hdb ?_);rw[e];have sy:ys.size=2:=by rw[<-cq,e];rfl
   cases l with
   |nil=>
    generalize hxs:xs.toList=vs at hia;cases hia;have sx:xs.size=0:=by rw[<-cq,hxs];rfl
    simp only[List.zip_nil_left,List.forIn_nil];refine ac (ao ?_);refine ao ?_;show P (.done (.ret (.bool (xs.size==ys.size)))) s;rw[sx,sy];exact h
   |cons x l=>
    generalize hxs:xs.toList=vs at hia;cases hia with
    | @cons _ v _ vs h1 _=>
     rcases Z7 (k:=.inr x) (v:=v) h1 with⟨_,_,z,_⟩|⟨_,tx,z,rfl⟩
     .cases z
     .simp only[List.zip_cons_cons,List.forIn_cons];refine ac (ac (ac (mixS _ _ _ _ ?_)));simp only[Bool.not_false,if_true];exact ac (ao (ao (ao (ao h))))
 |inr p=>cases y with
  |inl l=>
   obtain⟨n,l2⟩:=p;obtain⟨ob,ys,nb,t,c,hob,_,hdb,e,hc⟩:=hx;obtain⟨oa,xs,na,hoa,_,hda,hia⟩:=hy;have hf:decide ((bh (n,l2):Wq)=Sum.inl l)=aD:=decide_eq_false λz=>nomatch z;rw[hf]at h;show br _ _ (isInstance (.ref b) (.type "tuple") >>=_) _ _ s;refine ac (wpAny_isInstance hTb isSubtype_tuple_tuple ?_);simp only[Bool.not_true,c7,if_false];refine ac (wpAny_tupleItemsOf hob hdb ?_);refine ac (wpAny_tupleItemsOf hoa hda ?_);rw[e];have sy:ys.size=2:=by rw[<-cq,e];rfl
   cases l with
   |nil=>
    generalize hxs:xs.toList=vs at hia;cases hia;have sx:xs.size=0:=by rw[<-cq,hxs];rfl
    simp only[List.zip_nil_right,List.forIn_nil];refine ac (ao ?_);refine ao ?_;show P (.done (.ret (.bool (ys.size==xs.size)))) s;rw[sx,sy];exact h
   |cons x l=>
    generalize hxs:xs.toList=vs at hia;cases hia with
    | @cons _ v _ vs h1 _=>
     rcases Z7 (k:=.inr x) (v:=v) h1 with⟨_,_,z,_⟩|⟨_,tx,z,rfl⟩
     .cases z
     .simp only[List.zip_cons_cons,List.forIn_cons];refine ac (ac (ac (mixI _ _ _ _ ?_)));simp only[Bool.not_false,if_true];exact ac (ao (ao (ao (ao h))))
  |inr q=>
   obtain⟨n,l⟩:=p;obtain⟨n2,l2⟩:=q;obtain⟨oa,xs,na,ta,ca,hoa,_,hda,ea,hca⟩:=hx;obtain⟨ob,ys,nb,tb,cb,hob,_,hdb,eb,hcb⟩:=hy;show br _ _ (isInstance (.ref b) (.type "tuple") >>=_) _ _ s;refine ac (wpAny_isInstance hTb isSubtype_tuple_tuple ?_);simp only[Bool.not_true,c7,if_false];refine ac (wpAny_tupleItemsOf hoa hda ?_);refine ac (wpAny_tupleItemsOf hob hdb ?_);rw[ea,eb];have sx:xs.size=2:=by rw[<-cq,ea];rfl
   have sy:ys.size=2:=by rw[<-cq,eb];rfl
   simp only[List.zip_cons_cons,List.zip_nil_left,List.forIn_cons,List.forIn_nil];refine ac (ac (ac (wpAny_eqBool_int ?_)));by_cases hn:n=n2
   .subst hn;simp only[beq_self_eq_true,Bool.not_true,c7,if_false];refine ao ?_;dsimp only;refine ac (ac (wpAny_eqBool_tuple (knd:=Zs prog w) hu hca hcb ?_));rw[Ha];by_cases hl:l=l2
    .subst hl;simp only[decide_true,Bool.not_true,c7,if_false];refine ao (ao (ao ?_));show P (.done (.ret (.bool (xs.size==ys.size)))) s;rw[sx,sy];simpa using h
    .simp only[decide_eq_false hl,Bool.not_false,if_true];have hf:decide ((bh (n,l):Wq)=bh (n,l2))=aD:=decide_eq_false λz=>hl (by injection z with z;injection z);rw[hf]at h;exact ac (ao (ao (ao (ao h))))
   .have hb:(n==n2)=aD:=beq_eq_false_iff_ne.mpr hn;simp only[hb,Bool.not_false,if_true];have hf:decide ((bh (n,l):Wq)=bh (n2,l2))=aD:=decide_eq_false λz=>hn (by injection z with z;injection z);rw[hf]at h;exact ac (ao (ao (ao (ao h))))
theorem Zti{x y:Wq}{a b:ak}{Q:Bool->ap->Prop}(hu:A.units+1<fq)(hx:Nq prog w s.heap x a)(hy:Nq prog w s.heap y b)(h:Q (decide (x=y)) s):br (cg prog w) A (eqBool (.ref a) (.ref b)) Q E s:=by
 unfold eqBool
 try with_reducible refine wpAny_holding ?_
 show br _ _ (if(b9 a==b9 b)=aC then _ else _) Q E s;by_cases hab:(b9 a==b9 b)=aC
 .rw[if_pos hab];have e:a=b:=by have:=eq_of_beq hab;injection this
  subst e;obtain rfl:=hx.inj hy;exact ac (wpAny_rule (ao (by simpa using h)))
 .rw[if_neg hab];exact ac (wpAny_richCompare_same_room (op:=.Eq) hx.typeIs hy.typeIs F.slot_tuple_eq
   (dv F.slot_tuple_eq hx.typeIs F.entry_tuple_eq (Zan (A:=A.in1) hu hx hy ⟨_,rfl,(λe=>nomatch e),wpAny_truthy_bool h⟩) (F.args_tuple_eq_2 _ _)) (by omega))
theorem Hc{m:Nat}{ks:List Key}{a:ak}{Q:Bool->ap->Prop}(hk:IsTupleKey (Zs prog w) s.heap ks a)(h:Q aC s):br (cg prog w) A (eqIsQuiet (m+1) (.ref a)) Q E s:=by
 have hT:=hk.typeIs;obtain⟨o,items,n,ho,_,hd,hi⟩:=hk;unfold eqIsQuiet;refine ac (wpAny_specialOf hT F.slot_tuple_eq.lookup ?_);show br _ _ (isInstance (.ref a) (.type "tuple") >>=_) _ _ s;refine ac (wpAny_isInstance hT isSubtype_tuple_tuple ?_);simp only[Bool.not_true,c7,if_false];refine ac (wpAny_seqItems ho hd ?_);refine ac ?_;show br _ _ (forIn items _ _) _ _ s;rw[<-Array.forIn_toList];refine wpAny_forIn_list _ (λrest r s'=>r.1=aB/\s'=s/\∀v∈rest,carriedByValue v=aC) _ ?_ ?_ _ _ ⟨rfl,rfl,hi.byValue⟩
 .rintro v rest r s' ⟨hr,rfl,hall⟩;rw[eqIsQuiet_byValue _ (hall v af)];refine ac (ao ?_);simp only[Bool.not_true,c7,if_false];exact ao ⟨rfl,rfl,λu hu'=>hall u (aj _ hu')⟩
 .rintro⟨r1,r2⟩ s' ⟨hr,rfl,_⟩;simp only at hr;subst hr;exact ao h
theorem Zg0{k:Wq}{a:ak}{Q:Bool->ap->Prop}(hk:Nq prog w s.heap k a)(h:Q aC s):br (cg prog w) A (eqIsQuiet 8 (.ref a)) Q E s:=by
 cases k with
 |inl l=>exact Hc hk h
 |inr p=>have hT:=hk.typeIs;obtain⟨n,l⟩:=p;obtain⟨o,items,m,t,b,ho,_,hd,hi,hb⟩:=hk;unfold eqIsQuiet;refine ac (wpAny_specialOf hT F.slot_tuple_eq.lookup ?_);show br _ _ (isInstance (.ref a) (.type "tuple") >>=_) _ _ s;refine ac (wpAny_isInstance hT isSubtype_tuple_tuple ?_);simp only[Bool.not_true,c7,if_false];refine ac (wpAny_seqItems ho hd ?_);refine ac ?_;show br _ _ (forIn items _ _) _ _ s;rw[<-Array.forIn_toList,hi];simp only[List.forIn_cons,List.forIn_nil];rw[eqIsQuiet_byValue _ (v:=Value.int n t) rfl];refine ac (ac (ao ?_));simp only[Bool.not_true,c7,if_false];refine ao ?_;dsimp only;refine ac (ac (Hc hb ?_));simp only[Bool.not_true,c7,if_false];exact ao (ao (ao h))
end
def Zpm(prog:b5)(w:cw):HeapKind prog w Wq where
 is:=Nq prog w
 hash:=Hb prog w
 draws:=K5
 room:=λA=>A.units+1<fq
 inj:=λhx hy=>hx.inj hy
 keeps:=λx ho hd hs=>x.keeps ho hd hs
 pyHash:=λhu hk h=>Zl2 hu hk h
 eqBool:=λhu hx hy h=>Zti hu hx hy h
 quiet:=λhk h=>Zg0 hk h
inductive V where
 |non|bl (b:Bool)|int (i:Int)|str (x:Str)|byt (b:Array UInt8)|flt (b:UInt64)|ref (a:ak)|ty (n:String)
 deriving DecidableEq
def Zz:V->ag->Prop
 | .non,u=>u=dw
 | .bl b,u=>u=Value.bool b
 | .int i,u=>∃t,u=Value.int i t
 | .str x,u=>∃t,u=Value.str x t
 | .byt b,u=>∃t,u=Value.bytes b t
 | .flt b,u=>∃t,u=Value.float b t
 | .ref a,u=>u=b9 a
 | .ty n,u=>u=Value.type n
abbrev Ya:List V->List ag->Prop:=Paired Zz
theorem Ya.length{xs:List V}{us:List ag}(r:Ya xs us):xs.length=us.length:=Paired.length r
theorem Ya.get:∀{xs:List V} {us:List ag} {i:Nat} {x:V},Ya xs us->xs[i]? =aA x->∃u,us[i]? =aA u/\Zz x u
 |_,_,_,_,.nil,e=>by simp at e
 |_,_,0,_,.cons r _,e=>by simp at e;subst e;exact⟨_,rfl,r⟩
 |_,_,i+1,x,.cons _ t,e=>by obtain⟨u,h1,h2⟩:=Ya.get (i:=i) (x:=x) t (by simpa using e);exact⟨u,by simpa using h1,h2⟩
theorem Ya.append:∀{xs ys:List V} {us ws:List ag},Ya xs us->Ya ys ws->Ya (xs++ys) (us++ws)
 |_,_,_,_,.nil,s=>s
 |_,_,_,_,.cons r t,s=>.cons r (Ya.append t s)
theorem Ya.take:∀{xs:List V} {us:List ag} (n:Nat),Ya xs us->Ya (xs.take n) (us.take n)
 |_,_,0,_=>.nil
 |_,_,_+1,.nil=>.nil
 |_,_,n+1,.cons r t=>.cons r (Ya.take n t)
theorem Ya.drop:∀{xs:List V} {us:List ag} (n:Nat),Ya xs us->Ya (xs.drop n) (us.drop n)
 |_,_,0,r=>r
 |_,_,_+1,.nil=>.nil
 |_,_,n+1,.cons _ t=>Ya.drop n t
theorem Ya.none_of:∀{xs:List V} {us:List ag} {i:Nat},Ya xs us->xs[i]? =aB->us[i]? =aB:=fun{xs us i} r e=>by have h1:=r.length;have h2:xs.length<=i:=List.getElem?_eq_none_iff.mp e;exact List.getElem?_eq_none_iff.mpr (by omega)
def Aa:Option V->Option ag->Prop
 |some v,aA u=>Zz v u
 |none,aB=>True
 |_,_=>False
def KV{κ:Type}:List (κ×V)->List (κ×ag)->Prop:=Paired λ(p:κ×V) (q:κ×ag)=>p.1=q.1/\Zz p.2 q.2
def kV:Key->V
 | .inl i=>.int i
 | .inr x=>.str x
inductive HO where
 |lst (xs:List V)
 |tup (xs:List V)
 |dK (kvs:List (Key×V)) (ep:Nat)|dT (kvs:List (List Key×V)) (ep:Nat) (bs:List ak)|dN (kvs:List (Wq×V)) (ep:Nat) (bs:List ak)
 |set (S:Int->Bool) (n:Nat)
 |ins (C dx:ak) (fs:List (Str×V))
 |own (x:ak)
 |xd (fs:List (Str×V))
 |met (f x:ak)
 |rng (lo hi:Int)
 |frz (o:Obj) (u:HO)
 |tbl (ps:Array ag)
 |tab (q:Str)
 |ext (φ:du->Prop)
noncomputable abbrev Hp:=ak->Option HO
def Y7(H:Hp)(a:ak)(o:HO):Hp:=λb=>if b=a then aA o else H b
theorem Ye{H:Hp}{a:ak}{o:HO}:Y7 H a o a=aA o:=by unfold Y7;rw[if_pos rfl]
theorem Zv{H:Hp}{a b:ak}{o:HO}(h:b≠a):Y7 H a o b=H b:=by unfold Y7;rw[if_neg h]
theorem Zg1{H:Hp}{a:ak}{o u:HO}:Y7 (Y7 H a o) a u=Y7 H a u:=by funext b;unfold Y7;split<;> rfl
theorem Zpn{H:Hp}{a b:ak}{o u:HO}(h:H a=aA o)(h':H b=aA u)(d:o≠u):a≠b:=by intro e;subst e;rw[h]at h';exact d (dz.inj h')
theorem We{H:Hp}{a b:ak}{o:HO}(h:H a=aA o)(h':H b=aB):a≠b:=by intro e;subst e;rw[h]at h';cases h'
def Zcm(H:Hp):Wq->ak->Prop
 | .inl l,b=>H b=aA (.tup ((Ic l).map kV))
 | .inr (n,l),b=>∃c,H b=aA (.tup [.int n,.ref c])/\H c=aA (.tup ((Ic l).map kV))
theorem Zcm.mono{H H':Hp}{k:Wq}{b:ak}(h:Zcm H k b)(ht:∀b xs,H b=aA (.tup xs)->H' b=aA (.tup xs)):Zcm H' k b:=by
 cases k with
 |inl l=>exact ht _ _ h
 |inr p=>obtain⟨c,h1,h2⟩:=h;exact⟨c,ht _ _ h1,ht _ _ h2⟩
section
variable(P:b5)(w:cw)
def Yu(H:Hp)(h:du)(a:ak):HO->Prop
 | .lst xs=>xs.length<=sizeLine/\∃(its:List ag) (n:Nat),Ya xs its/\h.get? a=aA {cls:=.type "list",data:=.seq its.toArray n}
 | .tup xs=>xs.length<=sizeLine/\∃its:List ag,Ya xs its/\IsTup h a its.toArray
 | .dK kvs ep=>kvs.length<=sizeLine/\(a==d3)=aD/\∃vs,KV kvs vs/\h.DictAt (Zs P w) a vs ep
 | .dT kvs ep bs=>kvs.length<=sizeLine/\(a==d3)=aD/\∃xs:List (List Key×ak×ag),
   Paired (λ(p:List Key×V) (q:List Key×ak×ag)=>p.1=q.1/\H q.2.1=aA (.tup (p.1.map kV))/\Zz p.2 q.2.2) kvs xs/\
   ∃o es,h.get? a=aA o/\o.ExactDict/\o.data= .dict es ep/\es.toList=xs.map (entryOfKey (tupleKind (Zs P w)))/\(xs.map (·.1)).Nodup/\(xs.map λx=>x.2.1)=bs
 | .dN kvs ep bs=>kvs.length<=sizeLine/\(a==d3)=aD/\∃xs:List (Wq×ak×ag),
   Paired (λ(p:Wq×V) (q:Wq×ak×ag)=>p.1=q.1/\Zcm H p.1 q.2.1/\Zz p.2 q.2.2) kvs xs/\
   ∃o es,h.get? a=aA o/\o.ExactDict/\o.data= .dict es ep/\es.toList=xs.map (entryOfKey (Zpm P w))/\(xs.map (·.1)).Nodup/\(xs.map λx=>x.2.1)=bs
 | .set S n=>h.SetOf (intKind P w) a S n
 | .ins C dx fs=>H dx=aA (.own a)/\fs.length<=1000/\dx≠a/\h.get? a=aA (PySem.W.instObj C dx)/\
   ∃mA,h.Ns1 dx mA/\(∀f,Aa (fs.lookup f) (mA f))/\PySem.Within mA (fs.map (·.1))
 | .own _=>∃o,h.get? a=aA o
 | .xd fs=>∃mA,h.Ns1 a mA/\∀f,Aa (fs.lookup f) (mA f)
 | .rng lo hi=>∃t u v,h.get? a=aA {cls:=.type "range",data:=.fields #[.int lo t,.int hi u,.int 1 v]}
 | .frz o u=>h.get? a=aA o/\Yu H h a u
 | .tbl ps=>h.get? a=aA {cls:=.none,data:=.fields ps}
 | .met f x=>h.get? a=aA (PySem.W.methodObj (.ref f) (.ref x))
 | .tab q=>∃ps:Array ag,h.get? a=aA {cls:=.none,data:=.fields ps}/\TriplesOk ps.toList/\∀pos cv,codeAmong pos ps.toList=aA cv->∃c o vs t,cv= .ref c/\H c=aA (.frz o (.own a))/\o.data= .fields vs/\vs[1]? =aA (.str q t)
 | .ext φ=>φ h/\(∃o,h.get? a=aA o)/\∀h1 h2:du,φ h1->(∀o,h1.get? a=aA o->h2.get? a=aA o)->φ h2
def Ck(H:Hp)(h:du):Prop:=∀a o,H a=aA o->Yu P w H h a o
end
section
variable{P:b5}{w:cw}{H H':Hp}{h h':du}{a:ak}{o:HO}
theorem Yu.lt(x:Yu P w H h a o):a<h.objs.size:=by
 cases o with
 |lst xs=>obtain⟨_,_,_,_,e⟩:=x;exact bi e
 |tup xs=>obtain⟨_,_,_,p⟩:=x;exact p.lt
 |dK kvs ep=>obtain⟨_,_,_,_,o,_,e,_⟩:=x;exact bi e
 |dT kvs ep bs=>obtain⟨_,_,_,_,o,_,e,_⟩:=x;exact bi e
 |dN kvs ep bs=>obtain⟨_,_,_,_,o,_,e,_⟩:=x;exact bi e
 |set S n=>obtain⟨o,_,_,_,e,_⟩:=x;exact bi e
 |ins C dx fs=>obtain⟨_,_,_,e,_⟩:=x;exact bi e
 |own y=>obtain⟨_,e⟩:=x;exact bi e
 |xd fs=>obtain⟨_,⟨_,_,_,e,_⟩,_⟩:=x;exact bi e
 |rng lo hi=>obtain⟨_,_,_,e⟩:=x;exact bi e
 |frz ob u=>obtain⟨e,_⟩:=x;exact bi e
 |tbl ps=>exact bi (show h.get? a=aA _ from x)
 |met f y=>exact bi (show h.get? a=aA _ from x)
 |tab q=>obtain⟨_,e,_⟩:=x;exact bi e
 |ext φ=>obtain⟨_,⟨_,e⟩,_⟩:=x;exact bi e
theorem Paired.mapP{α β:Type}{F G:α->β->Prop}{l₁:List α}{l₂:List β}(h:Paired F l₁ l₂)(f:∀a b,F a b->G a b):Paired G l₁ l₂:=by
 induction h with
 |nil=>exact .nil
 |cons r _ ih=>exact .cons (f _ _ r) ih
theorem Yu.stay(x:Yu P w H h a o)(k:∀b u,(b=a\/H b=aA (.own a))->h.get? b=aA u->h'.get? b=aA u)
  (ho:∀b,H b=aA (.own a)->H' b=aA (.own a)) (ht:∀b xs,H b=aA (.tup xs)->H' b=aA (.tup xs))
  (hz:∀b o,H b=aA (.frz o (.own a))->H' b=aA (.frz o (.own a)):=by first|exact λ_ _ q=>q| (intro b o q;rw[Zv (We q (by assumption))];exact q)):Yu P w H' h' a o:=by
 induction o with
 |lst xs=>obtain⟨z,its,n,r,e⟩:=x;exact⟨z,its,n,r,k _ _ (.inl rfl) e⟩
 |tup xs=>obtain⟨z,its,r,ob,e,c⟩:=x;exact⟨z,its,r,ob,k _ _ (.inl rfl) e,c⟩
 |dK kvs ep=>obtain⟨z,y,vs,r,ob,es,e,c⟩:=x;exact⟨z,y,vs,r,ob,es,k _ _ (.inl rfl) e,c⟩
 |dT kvs ep bs=>obtain⟨z,y,xs,r,ob,es,e,c⟩:=x;exact⟨z,y,xs,Paired.mapP r λp q z=>⟨z.1,ht _ _ z.2.1,z.2.2⟩,ob,es,k _ _ (.inl rfl) e,c⟩
 |dN kvs ep bs=>obtain⟨z,y,xs,r,ob,es,e,c⟩:=x;exact⟨z,y,xs,Paired.mapP r λp q z=>⟨z.1,z.2.1.mono ht,z.2.2⟩,ob,es,k _ _ (.inl rfl) e,c⟩
 |set S n=>obtain⟨ob,es,ep,t,e,c⟩:=x;exact⟨ob,es,ep,t,k _ _ (.inl rfl) e,c⟩
 |ins C dx fs=>obtain⟨d,z,ne,e,mA,⟨od,es,ep,e2,c⟩,r⟩:=x;exact⟨ho _ d,z,ne,k _ _ (.inl rfl) e,mA,⟨od,es,ep,k _ _ (.inr d) e2,c⟩,r⟩
 |own y=>obtain⟨ob,e⟩:=x;exact⟨ob,k _ _ (.inl rfl) e⟩
 |xd fs=>obtain⟨mA,⟨od,es,ep,e,c⟩,r⟩:=x;exact⟨mA,⟨od,es,ep,k _ _ (.inl rfl) e,c⟩,r⟩
 |rng lo hi=>obtain⟨t,u,v,e⟩:=x;exact⟨t,u,v,k _ _ (.inl rfl) e⟩
 |frz ob u ih=>obtain⟨e,q⟩:=x;exact⟨k _ _ (.inl rfl) e,ih q⟩
 |tbl ps=>have e:h.get? a=aA {cls:=.none,data:=.fields ps}:=x;show h'.get? a=aA {cls:=.none,data:=.fields ps};exact k a _ (.inl rfl) e
 |met f y=>have e:h.get? a=aA (PySem.W.methodObj (.ref f) (.ref y)):=x;show h'.get? a=aA (PySem.W.methodObj (.ref f) (.ref y));exact k a _ (.inl rfl) e
 |tab q=>obtain⟨ps,e,t,c⟩:=x;refine⟨ps,k _ _ (.inl rfl) e,t,λpos cv z=>?_⟩;obtain⟨c1,o1,vs,tt,e1,e2,r⟩:=c pos cv z;exact⟨c1,o1,vs,tt,e1,hz _ _ e2,r⟩
 |ext φ=>obtain⟨p,⟨o,e⟩,st⟩:=x;exact⟨st _ _ p λo q=>k _ _ (.inl rfl) q,⟨o,k _ _ (.inl rfl) e⟩,st⟩
theorem Ck.lt(x:Ck P w H h)(e:H a=aA o):a<h.objs.size:=(x a o e).lt
theorem Ck.fresh(x:Ck P w H h)(e:h.objs.size<=a):H a=aB:=by
 cases q:H a with
 |none=>rfl
 |some u=>exact absurd (cn (x.lt q) e) (eh _)
theorem Ck.kept(x:Ck P w H h)(k:∀b u,h.get? b=aA u->h'.get? b=aA u):Ck P w H h':=λa o e=>
 (x a o e).stay (λb u _ q=>k b u q) (λ_ q=>q) λ_ _ q=>q
theorem Ck.laid(x:Ck P w H h)(k:∀b u,h.get? b=aA u->h'.get? b=aA u)(hp:h.objs.size<=a)(new:Yu P w (Y7 H a o) h' a o):Ck P w (Y7 H a o) h':=λb u e=>by
 have hn:=x.fresh hp;by_cases hb:b=a
 .subst hb;rw[Ye]at e;cases e;exact new
 .rw[Zv hb]at e;exact(x b u e).stay (λc v _ q=>k c v q) (λc q=>by rw[Zv (We q hn)];exact q) λc xs q=>by rw[Zv (We q hn)];exact q
end
def Rd(H:Hp)(a:ak)(u:HO):Prop:=H a=aA u\/∃o,H a=aA (.frz o u)
theorem Rd.ok{P:b5}{w:cw}{H:Hp}{h:du}{a:ak}{u:HO}(r:Rd H a u)(x:Ck P w H h):Yu P w H h a u:=by
 rcases r with r|⟨o,r⟩
 .exact x a u r
 .obtain⟨_,q⟩:=x a _ r;exact q
def HK(H:Hp)(a:ak)(kvs:List (Key×V)):Prop:=∃ep,H a=aA (.dK kvs ep)
def HTt(H:Hp)(a:ak)(kvs:List (List Key×V)):Prop:=∃ep bs,H a=aA (.dT kvs ep bs)
def RdK(H:Hp)(a:ak)(kvs:List (Key×V)):Prop:=∃ep,Rd H a (.dK kvs ep)
def RdT(H:Hp)(a:ak)(kvs:List (List Key×V)):Prop:=∃ep bs,Rd H a (.dT kvs ep bs)
theorem HK.rd{H:Hp}{a:ak}{kvs:List (Key×V)}(h:HK H a kvs):RdK H a kvs:=let⟨ep,h⟩:=h;⟨ep,.inl h⟩
def Nr(kvs:List (List Key×V))(bs:List ak)(k:List Key)(b:ak):List Addr:=if(kvs.any λkv=>decide (kv.1=k))=aC then bs else bs++[b]
theorem HTt.rd{H:Hp}{a:ak}{kvs:List (List Key×V)}(h:HTt H a kvs):RdT H a kvs:=let⟨ep,bs,h⟩:=h;⟨ep,bs,.inl h⟩
def Mut:Option HO->Prop
 |some (.lst _)=>True
 |some (.dK _ _)=>True
 |some (.dT _ _ _)=>True
 |some (.dN _ _ _)=>True
 |some (.set _ _)=>True
 |some (.ins _ _ _)=>True
 |some (.ext _)=>True
 |_=>False
section
variable{P:b5}{w:cw}{H:Hp}{h h':du}{x e:ak}{o':HO}
theorem Ck.write(ok:Ck P w H h)(mu:Mut (H x))(he:e=x\/H e=aA (.own x))(k:∀b u,b≠e->h.get? b=aA u->h'.get? b=aA u)(heo:∃u,h'.get? e=aA u)
  (new:Yu P w (Y7 H x o') h' x o'):Ck P w (Y7 H x o') h':=λb u q=>by
 have nown:∀c y,H c=aA (.own y)->c≠x:=λc y r z=>by subst z;rw[r]at mu;exact mu
 have ntup:∀c xs,H c=aA (.tup xs)->c≠x:=λc xs r z=>by subst z;rw[r]at mu;exact mu
 by_cases hb:b=x
 .subst hb;rw[Ye]at q;cases q;exact new
 .rw[Zv hb]at q;by_cases hbe:b=e
  .have q':H b=aA (.own x):=by
    rcases he with z|z
    .exact absurd (hbe.trans z) hb
    .rw[hbe];exact z
   rw[q]at q';cases q';obtain⟨v,hv⟩:=heo;exact⟨v,by rw[hbe];exact hv⟩
  .refine(ok b u q).stay (λc v hc r=>k c v ?_ r) (λc r=>by rw[Zv (nown c b r)];exact r) (λc xs r=>by rw[Zv (ntup c xs r)];exact r) λc o r=>by rw[Zv (λz=>by subst z;rw[r]at mu;exact mu)];exact r
   rcases hc with rfl|hc
   .exact hbe
   .rintro rfl;rcases he with z|z
    .exact nown c b hc z
    .rw[hc]at z;cases z;exact hb rfl
end
structure Un(fs ex:List ak)(H H':Hp)(h h':du):Prop where
 keep:∀b o,h.get? b=aA o->H b=aB->b∉fs->b∉ex->h'.get? b=aA o
 slot:∀b o,h.get? b=aA o->H b=aB->b∈fs->b∉ex->∃sl,h'.get? b=aA {o with slots:=sl}
 free:∀b o,h.get? b=aA o->H b=aB->b∉ex->H' b=aB
 there:∀b o,h.get? b=aA o->b∉ex->∃o',h'.get? b=aA o'
 tups:∀b xs,H b=aA (.tup xs)->H' b=aA (.tup xs)
 frzs:∀b o u,H b=aA (.frz o u)->H' b=aA (.frz o u)
 tbls:∀b ps,H b=aA (.tbl ps)->∃more,H' b=aA (.tbl (ps++more))
section
variable{fs fs' ex ex':List ak}{H H1 H2:Hp}{h h1 h2 h':du}{a x e:ak}{o:HO}
theorem Un.any(u:Un fs ex H H1 h h1){b:ak}{ob:Obj}(q:h.get? b=aA ob)(n:H b=aB)(hx:b∉ex):∃sl,h1.get? b=aA {ob with slots:=sl}:=by
 by_cases hb:b∈fs
 .exact u.slot b ob q n hb hx
 .exact⟨ob.slots,u.keep b ob q n hb hx⟩
theorem Un.kept(k:∀b u,h.get? b=aA u->h'.get? b=aA u):Un fs ex H H h h':=
 ⟨λb ob q _ _ _=>k b ob q,λb ob q _ _ _=>⟨ob.slots,k b ob q⟩,λ_ _ _ n _=>n,λb ob q _=>⟨ob,k b ob q⟩,λ_ _ q=>q,λ_ _ _ q=>q,λ_ ps q=>⟨#[],by rw[q];simp⟩⟩
theorem Un.refl:Un fs ex H H h h:=Un.kept λ_ _ q=>q
theorem Un.laid(k:∀b u,h.get? b=aA u->h'.get? b=aA u)(hp:h.objs.size<=a)(hn:H a=aB):Un fs ex H (Y7 H a o) h h' where
 keep:=λb u q _ _ _=>k b u q
 slot:=λb u q _ _ _=>⟨u.slots,k b u q⟩
 free:=λb u q n _=>by rw[Zv (de (cn (bi q) hp))];exact n
 there:=λb u q _=>⟨u,k b u q⟩
 tups:=λb xs q=>by rw[Zv (We q hn)];exact q
 frzs:=λb u xs q=>by rw[Zv (We q hn)];exact q
 tbls:=λb ps q=>⟨#[],by rw[Zv (We q hn),q];simp⟩
theorem Un.write(mu:Mut (H x))(he:e=x\/H e=aA (.own x))(k:∀b u,b≠e->h.get? b=aA u->h'.get? b=aA u)(heo:∃u,h'.get? e=aA u):Un fs ex H (Y7 H x o) h h':=by
 have hx:∀b,H b=aB->b≠x:=λb n z=>by subst z;rw[n]at mu;exact mu
 have hb:∀b,H b=aB->b≠e:=λb n z=>by
  subst z;rcases he with r|r
  .exact hx b n r
  .rw[n]at r;cases r
 have hm:∀b u,H b=aA u->¬Mut (aA u)->b≠x:=λb u q nm z=>by subst z;rw[q]at mu;exact nm mu
 refine⟨λb u q n _ _=>k b u (hb b n) q,λb u q n _ _=>⟨u.slots,k b u (hb b n) q⟩,λb u q n _=>by rw[Zv (hx b n)];exact n,λb u q _=>?_,
  λb xs q=>by rw[Zv (hm b _ q λz=>z)];exact q,λb u xs q=>by rw[Zv (hm b _ q λz=>z)];exact q,λb ps q=>⟨#[],by rw[Zv (hm b _ q λz=>z),q];simp⟩⟩
 by_cases hbe:b=e
 .subst hbe;exact heo
 .exact⟨u,k b u hbe q⟩
end
def trk(h:du)(H:Hp):List Addr:=(ed h.objs.size).filter λa=>(H a).isSome
def K6(h:du)(H:Hp):Heap:=PySem.W.hideAll h (trk h H)
theorem Zao(h:du)(H:Hp):(K6 h H).objs.size=h.objs.size:=PySem.W.hideAll_size _ _
theorem Zcn{h:du}{H:Hp}{b:ak}{o:Obj}(e:h.get? b=aA o)(n:H b=aB):(K6 h H).get? b=aA o:=
 PySem.W.hideAll_get _ e λhm=>by have q:(H b).isSome=aC:=(List.mem_filter.mp hm).2;rw[n]at q;simp at q
theorem Zg2{h:du}{H:Hp}{b:ak}{o:Obj}(e:(K6 h H).get? b=aA o):h.get? b=aA o/\H b=aB:=by
 have e':h.get? b=aA o:=PySem.W.of_hideAll (trk h H) e;refine⟨e',?_⟩;cases q:H b with
 |none=>rfl
 |some x=>have hm:b∈trk h H:=List.mem_filter.mpr ⟨List.mem_range.mpr (bi e'),by simp[q]⟩;have z:(K6 h H).get? b=aB:=PySem.W.hideAll_none (trk h H) hm;rw[z]at e;cases e
noncomputable def Zg3(g h:du)(L:ak):List (ak×Obj):=(ed h.objs.size).filterMap λa=>if a=L\/(g.get? a).isSome=aC then aB else(h.get? a).map λo=>(a,o)
def rest(g h:du)(L d:ak):List (ak×Obj):=(Zg3 g h L).filter λp=>decide (p.1≠d)
structure Mod(K:ad)(mg:Str->Option ag)(base:du):Prop where
 kin:K.In base
 glob:base.Ns bq mg
 blt:∃mb,base.Ns builtinsNs mb/\∀x:Str,x≠"__name__"->mb x=bootBuiltins x
 nolimit:base.NoLimit
set_option genInjectivity false in
structure Cx where
 prog:b5
 w:cw
 K:ad
 mg:Str->Option ag
 base:du
 A:c8
 N:List Str
 s₀:ap
 H₀:Hp
 env:Env
 outer:List Env
 stack:List Env
 ex:List ak
 fn:Str->Bool
 calm:Bool
 pn:List (ak×Obj)
 xe:ag->ap->Prop
noncomputable def C8(l:List Env):List Addr:=l.filterMap (·.frame)
abbrev Cx.fs(X:Cx):List Addr:=C8 X.outer
def Vb(sc:Scope)(x:Str):Prop:=sc.names.lookup x=aA .local\/sc.names.lookup x=aA .cell\/sc.names.lookup x=aA .free
def Loc(sc:Scope)(x:Str):Prop:=sc.names.lookup x=aA .local\/sc.names.lookup x=aA .cell
def Zpp(env:Env)(h:du)(m:Str->Option ag)(x:Str)(u:ag):Prop:=
 (env.kindOf x=aA .local/\m x=aA u)\/((env.kindOf x=aA .cell\/env.kindOf x=aA .free)/\∃c,env.cells.lookup x=aA c/\h.IsCell c (aA u))
set_option genInjectivity false in
structure Cx.Ok(X:Cx):Prop where
 mod:Mod X.K X.mg X.base
 kind:X.env.scope.kind= .function
 glob:X.env.globals=bq
 blt:X.env.builtins=builtinsNs
 above:X.s₀.heap.objs.size<=X.env.locals
 inj:∀x y c,X.env.cells.lookup x=aA c->X.env.cells.lookup y=aA c->x=y
 has:∀x,(X.env.kindOf x=aA .cell\/X.env.kindOf x=aA .free)->∃c,X.env.cells.lookup x=aA c
 cab:∀x c,X.fn x=aC->X.env.cells.lookup x=aA c->X.s₀.heap.objs.size<=c
 hd:X.calm=aC->X.A.handled=aB
 frames:X.A.frames=aA X.stack
 stk:X.stack=X.outer\/(X.stack=X.env::X.outer/\X.env.frame=aA X.env.locals)
 exf:∀b∈X.ex,b≠X.env.locals/\∀x c,X.env.cells.lookup x=aA c->c≠b
 bs:∀b o,X.base.get? b=aA o->X.s₀.heap.get? b=aA o/\X.H₀ b=aB
 bsz:X.base.objs.size<=X.s₀.heap.objs.size
 noex:∀b o,X.base.get? b=aA o->b∉X.ex
 exfs:∀b∈X.ex,b∉X.fs
 funs:X.s₀.heap.FunFrames X.base X.outer
 frf:∀b∈X.fs,X.H₀ b=aB
structure Inv(X:Cx)(pins:List (ak×Obj))(σ:List (Option V))(H:Hp)(s:ap):Prop where
 ok:X.Ok
 os:s.os=X.s₀.os
 bare:AllBare s.gens
 base:Un X.fs X.ex X.H₀ H X.s₀.heap s.heap
 loc:∃m,s.heap.Ns X.env.locals m/\∀(i:Nat) (x:Str) (v:V),X.N[i]? =aA x->σ[i]? =aA (aA v)->Vb X.env.scope x->∃u,Zz v u/\Zpp X.env s.heap m x u
 cell:∀x c,X.env.cells.lookup x=aA c->∃v,s.heap.IsCell c v
 free:H X.env.locals=aB
 freeC:∀x c,X.env.cells.lookup x=aA c->H c=aB
 pin:∀p∈X.pn++pins,s.heap.get? p.1=aA p.2/\H p.1=aB/\p.1≠X.env.locals/\p.1∉X.fs/\∀v,p.2.data≠.cell v
 hok:Ck X.prog X.w H s.heap
 len:σ.length=X.N.length
section
variable{X:Cx}{pins:List (ak×Obj)}{σ:List (Option V)}{H H':Hp}{s:ap}{h':du}
theorem Cx.Ok.nofr(ok:X.Ok){b:ak}{o:Obj}(e:X.base.get? b=aA o):b∉X.fs:=λhb=>by have:=(ok.funs.mem hb).1;rw[e]at this;cases this
theorem Inv.bs(I:Inv X pins σ H s):∀b o,X.base.get? b=aA o->s.heap.get? b=aA o/\H b=aB:=λb o e=>
 ⟨I.base.keep b o (I.ok.bs b o e).1 (I.ok.bs b o e).2 (I.ok.nofr e) (I.ok.noex b o e),I.base.free b o (I.ok.bs b o e).1 (I.ok.bs b o e).2 (I.ok.noex b o e)⟩
theorem Inv.bk(I:Inv X pins σ H s):∀b o,X.base.get? b=aA o->s.heap.get? b=aA o:=λb o e=>(I.bs b o e).1
theorem Inv.mod(I:Inv X pins σ H s):Mod X.K X.mg X.base:=I.ok.mod
theorem Inv.kIn(I:Inv X pins σ H s):X.K.In s.heap:=I.ok.mod.kin.keeps I.bk
theorem Inv.lt(I:Inv X pins σ H s):X.env.locals<s.heap.objs.size:=let⟨_,hn,_⟩:=I.loc;hn.lt
theorem Inv.sz(I:Inv X pins σ H s):X.s₀.heap.objs.size<=s.heap.objs.size:=fj I.ok.above (Nat.le_of_lt I.lt)
theorem Inv.nofs(I:Inv X pins σ H s){a:ak}(h:s.heap.objs.size<=a):a∉X.fs:=λhb=>by obtain⟨_,o,ho,_⟩:=I.ok.funs.mem hb;exact absurd (cn (bi ho) (fj I.sz h)) (eh _)
theorem Inv.cne(I:Inv X pins σ H s):∀x c,X.env.cells.lookup x=aA c->c≠X.env.locals:=λx c e z=>by obtain⟨v,o,ho,hd⟩:=I.cell x c e;obtain⟨m,⟨o',es,ep,ho',hd',_⟩,_⟩:=I.loc;rw[z,ho']at ho;cases ho;rw[hd']at hd;cases hd
theorem Inv.funs(I:Inv X pins σ H s):s.heap.FunFrames X.base X.outer:=by
 have all:∀(l:List Env),(∀b∈C8 l,b∈X.fs)->X.s₀.heap.FunFrames X.base l->s.heap.FunFrames X.base l:=by
  intro l;induction l with
  |nil=>intro _ _;trivial
  |cons env r ih=>intro hs hl;obtain⟨hk,⟨L,o,hf,hn,ho,hd⟩,hr⟩:=hl;have hL:L∈X.fs:=hs L (by unfold C8;rw[List.filterMap_cons,hf];exact af);obtain⟨sl,e⟩:=I.base.slot L o ho (I.ok.frf L hL) hL λz=>I.ok.exfs L z hL;exact⟨hk,⟨L,_,hf,hn,e,hd⟩,ih (λb hb=>hs b (by unfold C8;rw[List.filterMap_cons,hf];exact aj _ hb)) hr⟩
 exact all X.outer (λ_ hb=>hb) I.ok.funs
theorem Inv.stack(I:Inv X pins σ H s):s.heap.FunFrames X.base X.stack:=by
 rcases I.ok.stk with e|⟨e,hf⟩
 .rw[e];exact I.funs
 .rw[e];obtain⟨m,hn,_⟩:=I.loc;refine .cons (by rw[I.ok.kind];decide) hf hn ?_ I.funs;exact Heap.get?_none_of_le (fj I.ok.bsz I.ok.above)
theorem Inv.stkSub(I:Inv X pins σ H s):∀b∈C8 X.stack,b∈X.env.locals::X.fs:=λb hb=>by
 rcases I.ok.stk with e|⟨e,hf⟩
 .rw[e]at hb;exact aj _ hb
 .rw[e]at hb;unfold C8 at hb;rw[List.filterMap_cons,hf]at hb;exact hb
theorem Inv.stkFree(I:Inv X pins σ H s):∀b∈C8 X.stack,H b=aB:=λb hb=>by
 rcases bo.mp (I.stkSub b hb)with e|hb
 .rw[e];exact I.free
 .obtain⟨_,o,ho,_⟩:=I.ok.funs.mem hb;exact I.base.free b o ho (I.ok.frf b hb) λz=>I.ok.exfs b z hb
theorem Inv.step{g':Array GenState}{t':Nat}{d':Drawn}{ch:List ak}(I:Inv X pins σ H s)
  (hch:∀b∈ch,(b∈X.ex\/X.s₀.heap.objs.size<=b)/\b≠X.env.locals/\(∀x c,X.env.cells.lookup x=aA c->c≠b)/\∀p∈X.pn++pins,p.1≠b)
  (keep:∀b o,b≠X.env.locals->b∉X.fs->b∉ch->s.heap.get? b=aA o->H b=aB->h'.get? b=aA o)
  (slot:∀b o,b≠X.env.locals->b∈X.fs->b∉ch->s.heap.get? b=aA o->H b=aB->∃sl,h'.get? b=aA {o with slots:=sl}) (free:∀b o,b∉ch->s.heap.get? b=aA o->H b=aB->H' b=aB)
  (there:∀b o,b∉ch->s.heap.get? b=aA o->∃o',h'.get? b=aA o')
  (tups:∀b xs,H b=aA (.tup xs)->H' b=aA (.tup xs)) (frzs:∀b o u,H b=aA (.frz o u)->H' b=aA (.frz o u)) (tbls:∀b ps,H b=aA (.tbl ps)->∃more,H' b=aA (.tbl (ps++more)))
  (ns:∀m,s.heap.Ns X.env.locals m->h'.Ns X.env.locals m) (hok:Ck X.prog X.w H' h') (hg:AllBare g'):
  Inv X pins σ H' {s with heap:=h',gens:=g',drawn:=d',toks:=t'}:=by
 have neL:∀b o,X.s₀.heap.get? b=aA o->b≠X.env.locals:=λb o e=>de (cn (bi e) I.ok.above);have neC:∀b o,X.s₀.heap.get? b=aA o->b∉X.ex->b∉ch:=λb o e hx hb=>by
  rcases(hch b hb).1 with z|z
  .exact hx z
  .exact absurd (cn (bi e) z) (eh _)
 have cellK:∀x c,X.env.cells.lookup x=aA c->∀v,s.heap.IsCell c v->h'.IsCell c v:=λx c e v ⟨o,ho,hd⟩=>by
  have nch:c∉ch:=λz=>(hch c z).2.2.1 x c e rfl;by_cases hc:c∈X.fs
  .obtain⟨sl,q⟩:=slot c o (I.cne x c e) hc nch ho (I.freeC x c e);exact⟨_,q,hd⟩
  .exact⟨o,keep c o (I.cne x c e) hc nch ho (I.freeC x c e),hd⟩
 refine⟨I.ok,I.os,hg,⟨λb o e n hb hx=>?_,λb o e n hb hx=>?_,λb o e n hx=>?_,λb o e hx=>?_,λb xs e=>tups b xs (I.base.tups b xs e),λb o xs e=>frzs b o xs (I.base.frzs b o xs e),λb ps e=>?_⟩,?_,λx c e=>?_,?_,λx c e=>?_,λp hp=>?_,hok,I.len⟩
 .exact keep b o (neL b o e) hb (neC b o e hx) (I.base.keep b o e n hb hx) (I.base.free b o e n hx)
 .obtain⟨sl,e1⟩:=I.base.slot b o e n hb hx;obtain⟨sl',e2⟩:=slot b _ (neL b o e) hb (neC b o e hx) e1 (I.base.free b o e n hx);exact⟨sl',e2⟩
 .obtain⟨o',e1⟩:=I.base.there b o e hx;exact free b o' (neC b o e hx) e1 (I.base.free b o e n hx)
 .obtain⟨o',e1⟩:=I.base.there b o e hx;exact there b o' (neC b o e hx) e1
 .obtain⟨m1,e1⟩:=I.base.tbls b ps e;obtain⟨m2,e2⟩:=tbls b _ e1;exact⟨m1++m2,by rw[e2,Array.append_assoc]⟩
 .obtain⟨m,hn,hl⟩:=I.loc;refine⟨m,ns m hn,λi x v e1 e2 e3=>?_⟩;obtain⟨u,r,l⟩:=hl i x v e1 e2 e3;refine⟨u,r,?_⟩;rcases l with l|⟨k,c,e,z⟩
  .exact .inl l
  .exact .inr ⟨k,c,e,cellK x c e _ z⟩
 .obtain⟨v,z⟩:=I.cell x c e;exact⟨v,cellK x c e v z⟩
 .obtain⟨m,⟨o,_,_,ho,_⟩,_⟩:=I.loc;exact free _ o (λz=>(hch _ z).2.1 rfl) ho I.free
 .obtain⟨v,o,ho,hd⟩:=I.cell x c e;exact free c o (λz=>(hch c z).2.2.1 x c e rfl) ho (I.freeC x c e)
 .obtain⟨e,n,ne,nf,d⟩:=I.pin p hp;have nch:p.1∉ch:=λz=>(hch p.1 z).2.2.2 p hp rfl;exact⟨keep p.1 p.2 ne nf nch e n,free p.1 p.2 nch e n,ne,nf,d⟩
theorem Inv.un{t':Nat}(I:Inv X pins σ H s)(u:Un X.fs [] H H' s.heap h')(hok:Ck X.prog X.w H' h'):Inv X pins σ H' {s with heap:=h',toks:=t'}:=by
 obtain⟨m,⟨o,es,ep,ho,r⟩,_⟩:=id I.loc;obtain⟨sl,hL⟩:=u.any ho I.free (by simp);exact I.step (g':=s.gens) (d':=s.drawn) (ch:=[]) (λ_ z=>nomatch z) (λb o _ hb _ e n=>u.keep b o e n hb (by simp)) (λb o _ hb _ e n=>u.slot b o e n hb (by simp)) (λb o _ e n=>u.free b o e n (by simp)) (λb o _ e=>u.there b o e (by simp)) u.tups u.frzs u.tbls (λm' hm=>by
  obtain⟨o',es',ep',ho',r'⟩:=hm;rw[ho]at ho';cases ho';exact⟨_,es',ep',hL,r'⟩) hok I.bare
theorem Inv.call{g':Array GenState}{t':Nat}{d':Drawn}{ch:List ak}(I:Inv X pins σ H s)(u:Un (C8 X.stack) ch H H' s.heap h')(hok:Ck X.prog X.w H' h')(hg:AllBare g')
  (hch:∀b∈ch,(b∈X.ex\/X.s₀.heap.objs.size<=b)/\b≠X.env.locals/\(∀x c,X.env.cells.lookup x=aA c->c≠b)/\∀p∈X.pn++pins,p.1≠b):
  Inv X pins σ H' {s with heap:=h',gens:=g',drawn:=d',toks:=t'}:=by
 obtain⟨m,⟨o,es,ep,ho,r⟩,_⟩:=id I.loc;obtain⟨sl,hL⟩:=u.any ho I.free λz=>(hch _ z).2.1 rfl;exact I.step (ch:=ch) hch (λb o hL hb hc e n=>u.keep b o e n (λz=>(bo.mp (I.stkSub b z)).elim hL hb) hc) (λb o _ _ hc e n=>u.any e n hc) (λb o hc e n=>u.free b o e n hc) (λb o hc e=>u.there b o e hc) u.tups u.frzs u.tbls (λm' hm=>by
  obtain⟨o',es',ep',ho',r'⟩:=hm;rw[ho]at ho';cases ho';exact⟨_,es',ep',hL,r'⟩) hok hg
theorem Inv.turned{t':Nat}{it:ak}(I:Inv X pins σ H s)(k:∀b o,b≠it->s.heap.get? b=aA o->h'.get? b=aA o)(hn:H it=aB)(hL:it≠X.env.locals)
  (h1:it∈X.ex\/X.s₀.heap.objs.size<=it) (h2:∀x c,X.env.cells.lookup x=aA c->c≠it) (h3:∀p∈X.pn++pins,p.1≠it):Inv X pins σ H {s with heap:=h',toks:=t'}:=by
 have nit:∀b u,H b=aA u->b≠it:=λb u e z=>by rw[z,hn]at e;cases e
 refine I.step (g':=s.gens) (d':=s.drawn) (ch:=[it]) (λb hb=>?_) (λb o _ _ hc e _=>k b o (λz=>hc (by simp[z])) e) (λb o _ _ hc e _=>⟨o.slots,k b o (λz=>hc (by simp[z])) e⟩) (λ_ _ _ _ n=>n)
  (λb o hc e=>⟨o,k b o (λz=>hc (by simp[z])) e⟩) (λ_ _ e=>e) (λ_ _ _ e=>e) (λb ps e=>⟨#[],by rw[e];simp⟩) (λm hm=>?_) (λb u e=>?_) I.bare
 .have e:b=it:=by simpa using hb
  subst e;exact⟨h1,hL,h2,h3⟩
 .obtain⟨o,es,ep,ho,r⟩:=hm;exact⟨o,es,ep,k _ o (Ne.symm hL) ho,r⟩
 .refine(I.hok b u e).stay (λc v hc q=>k c v ?_ q) (λ_ q=>q) λ_ _ q=>q;rcases hc with z|z
  .rw[z];exact nit b u e
  .exact nit c _ z
theorem Inv.tok(I:Inv X pins σ H s)(t:Nat):Inv X pins σ H {s with toks:=t}:=I.un (h':=s.heap) (t':=t) Un.refl I.hok
theorem Inv.kept{t':Nat}(I:Inv X pins σ H s)(k:∀b u,s.heap.get? b=aA u->h'.get? b=aA u):Inv X pins σ H {s with heap:=h',toks:=t'}:=I.un (Un.kept k) (I.hok.kept k)
theorem Inv.laid{a:ak}{o:HO}{t':Nat}(I:Inv X pins σ H s)(k:∀b u,s.heap.get? b=aA u->h'.get? b=aA u)(hp:s.heap.objs.size<=a)(new:Yu X.prog X.w (Y7 H a o) h' a o):
  Inv X pins σ (Y7 H a o) {s with heap:=h',toks:=t'}:=I.un (Un.laid k hp (I.hok.fresh hp)) (I.hok.laid k hp new)
theorem Inv.write{x e:ak}{o:HO}{t':Nat}(I:Inv X pins σ H s)(mu:Mut (H x))(he:e=x\/H e=aA (.own x))(k:∀b u,b≠e->s.heap.get? b=aA u->h'.get? b=aA u)(heo:∃u,h'.get? e=aA u)
  (new:Yu X.prog X.w (Y7 H x o) h' x o):Inv X pins σ (Y7 H x o) {s with heap:=h',toks:=t'}:=I.un (Un.write mu he k heo) (I.hok.write mu he k heo new)
theorem Inv.pins_of{pins':List (ak×Obj)}(I:Inv X pins σ H s)(h:∀p∈pins',s.heap.get? p.1=aA p.2/\H p.1=aB/\p.1≠X.env.locals/\p.1∉X.fs/\∀v,p.2.data≠.cell v):Inv X pins' σ H s:=
 ⟨I.ok,I.os,I.bare,I.base,I.loc,I.cell,I.free,I.freeC,λp hp=>(cj.mp hp).elim (λz=>I.pin p (di _ z)) (h p),I.hok,I.len⟩
theorem Aq{N:List Str}(hN:N.Nodup){i j:Nat}{x:Str}(a:N[i]? =aA x)(b:N[j]? =aA x):i=j:=by obtain⟨h1,e1⟩:=bp.mp a;obtain⟨h2,e2⟩:=bp.mp b;exact(List.getElem_inj hN).mp (e1.trans e2.symm)
theorem I8{M:Model}{A:c8}{E:ag->ap->Prop}{i:Nat}{x:Str}{v:V}{u:ag}{Q:Unit->ap->Prop}(I:Inv X pins σ H s)(hN:X.N.Nodup)(hi:X.N[i]? =aA x)(hx:Loc X.env.scope x)(r:Zz v u)
  (h:∀s',Inv X pins (σ.set i (aA v)) H s'->(∃a,Heap.SameBut a s.heap s'.heap/\(a=X.env.locals\/X.env.cells.lookup x=aA a))->Q () s') (hf:X.fn x=aC\/X.env.scope.names.lookup x=aA .local:=by first|exact .inl rfl|exact .inr rfl|assumption):br M A (storeName X.env x u) Q E s:=by
 obtain⟨m,hn,hl⟩:=id I.loc;have hcls:(X.env.scope.kind== .class|| (X.env.scope.kind== .module&&X.env.locals !=X.env.globals))=aD:=by rw[I.ok.kind];rfl
 have hiσ:i<σ.length:=by rw[I.len];exact(bp.mp hi).1
 have cne:=I.cne;have tracked:∀{a:ak} {h':du},(∃o,s.heap.get? a=aA o/\H a=aB)->Heap.SameBut a s.heap h'->Ck X.prog X.w H h':=fun{a h'} ha hs b ob e=>by
  obtain⟨_,_,hfree⟩:=ha;refine(I.hok b ob e).stay (λc w' hc q=>(hs.2 c ?_).trans q) (λ_ q=>q) λ_ _ q=>q;rintro rfl;rcases hc with rfl|hc
  .rw[hfree]at e;cases e
  .rw[hfree]at hc;cases hc
 rcases hx with hk|hk
 .refine wpAny_storeName_local hk hn (λh' hn' hs=>?_) hcls;obtain⟨oL,_,_,hoL,_⟩:=id hn;refine h _ ⟨I.ok,I.os,I.bare,⟨λb o e n hb hx=>?_,λb o e n hb hx=>?_,I.base.free,λb o e hx=>?_,I.base.tups,I.base.frzs,I.base.tbls⟩,⟨_,hn',λj y v' e1 e2 e3=>?_⟩,λy c e=>?_,I.free,I.freeC,λp hp=>?_,tracked ⟨oL,hoL,I.free⟩ hs,by simpa using I.len⟩ ⟨_,hs,.inl rfl⟩
  .exact(hs.2 b (de (cn (bi e) I.ok.above))).trans (I.base.keep b o e n hb hx)
  .obtain⟨sl,e1⟩:=I.base.slot b o e n hb hx;exact⟨sl,(hs.2 b (de (cn (bi e) I.ok.above))).trans e1⟩
  .obtain⟨o',e1⟩:=I.base.there b o e hx;exact⟨o',(hs.2 b (de (cn (bi e) I.ok.above))).trans e1⟩
  .by_cases hj:j=i
   .subst hj;rw[hi]at e1;cases e1;rw[dh hiσ]at e2;cases e2;exact⟨u,r,.inl ⟨hk,by simp⟩⟩
   .rw[c9 (Ne.symm hj)]at e2;obtain⟨u',r',q⟩:=hl j y v' e1 e2 e3;refine⟨u',r',?_⟩;rcases q with⟨k,e⟩|⟨k,c,e,z⟩
    .refine .inl ⟨k,?_⟩;have:y≠x:=λe=>hj (Aq hN e1 (e▸hi));simp[this,e]
    .exact .inr ⟨k,c,e,z.sameBut hs (cne y c e)⟩
  .obtain⟨w',z⟩:=I.cell y c e;exact⟨w',z.sameBut hs (cne y c e)⟩
  .obtain⟨e,n,ne,nf,d⟩:=I.pin p hp;exact⟨(hs.2 p.1 ne).trans e,n,ne,nf,d⟩
 .have hfn:X.fn x=aC:=by
   rcases hf with z|z
   .exact z
   .rw[z]at hk;cases hk
  obtain⟨c,hc⟩:=I.ok.has x (.inl hk);obtain⟨w',z⟩:=I.cell x c hc;refine wpAny_storeName_cell I.ok.kind hk hc z (λh' hc' hs=>?_);obtain⟨oc,hoc,hocd⟩:=id z;refine h {s with heap:=h'} ⟨I.ok,I.os,I.bare,⟨λb o e n hb hx=>?_,λb o e n hb hx=>?_,I.base.free,λb o e hx=>?_,I.base.tups,I.base.frzs,I.base.tbls⟩,⟨m,hn.sameBut hs (Ne.symm (cne x c hc)),λj y v' e1 e2 e3=>?_⟩,λy c' e=>?_,I.free,I.freeC,λp hp=>?_,tracked ⟨oc,hoc,I.freeC x c hc⟩ hs,by simpa using I.len⟩ ⟨c,hs,.inr hc⟩
  .exact(hs.2 b (de (cn (bi e) (I.ok.cab x c hfn hc)))).trans (I.base.keep b o e n hb hx)
  .obtain⟨sl,e1⟩:=I.base.slot b o e n hb hx;exact⟨sl,(hs.2 b (de (cn (bi e) (I.ok.cab x c hfn hc)))).trans e1⟩
  .obtain⟨o',e1⟩:=I.base.there b o e hx;exact⟨o',(hs.2 b (de (cn (bi e) (I.ok.cab x c hfn hc)))).trans e1⟩
  .by_cases hj:j=i
   .subst hj;rw[hi]at e1;cases e1;rw[dh hiσ]at e2;cases e2;exact⟨u,r,.inr ⟨.inl hk,c,hc,hc'⟩⟩
   .rw[c9 (Ne.symm hj)]at e2;obtain⟨u',r',q⟩:=hl j y v' e1 e2 e3;refine⟨u',r',?_⟩;rcases q with q|⟨k,c',e,z'⟩
    .exact .inl q
    .refine .inr ⟨k,c',e,z'.sameBut hs ?_⟩;rintro rfl;exact hj (Aq hN e1 (I.ok.inj _ _ _ e hc▸hi))
  .by_cases hcc:c'=c
   .subst hcc;exact⟨_,hc'⟩
   .obtain⟨w2,z2⟩:=I.cell y c' e;exact⟨w2,z2.sameBut hs hcc⟩
  .obtain⟨e,n,ne,nf,d⟩:=I.pin p hp;refine⟨(hs.2 p.1 ?_).trans e,n,ne,nf,d⟩;intro q;rw[q,hoc]at e;have q':oc=p.2:=dz.inj e;exact d w' (by rw[<-q'];exact hocd)
theorem Rw{M:Model}{A:c8}{E:ag->ap->Prop}{i:Nat}{x:Str}{v:V}{u:ag}{Q:Unit->ap->Prop}(I:Inv X pins σ H s)(hN:X.N.Nodup)(hi:X.N[i]? =aA x)(hx:Loc X.env.scope x)(r:Zz v u)
  (h:∀s',Inv X pins (σ.set i (aA v)) H s'->Q () s') (hf:X.fn x=aC\/X.env.scope.names.lookup x=aA .local:=by first|exact .inl rfl|exact .inr rfl|assumption):br M A (storeName X.env x u) Q E s:=
 I8 I hN hi hx r (λs' I' _=>h s' I') hf
theorem Inv.call'{s':ap}{ch:List ak}(I:Inv X pins σ H s)(ho:s'.os=s.os)(u:Un (C8 X.stack) ch H H' s.heap s'.heap)(hok:Ck X.prog X.w H' s'.heap)(hg:AllBare s'.gens)
  (hch:∀b∈ch,(b∈X.ex\/X.s₀.heap.objs.size<=b)/\b≠X.env.locals/\(∀x c,X.env.cells.lookup x=aA c->c≠b)/\∀p∈X.pn++pins,p.1≠b):Inv X pins σ H' s':=by
 obtain⟨h',g',d',t',o'⟩:=s';have e:o'=s.os:=ho;subst e;exact I.call (g':=g') (t':=t') (d':=d') u hok hg hch
end
abbrev XK:=ag->Option ak->Hp->Prop
noncomputable abbrev St:=List (Option V)
abbrev VK:=V->Hp->Prop
abbrev TE:=St->Hp->VK->Prop
abbrev TT:=St->Hp->(Bool->Hp->Prop)->Prop
abbrev TA:=St->Hp->(List V->Hp->Prop)->Prop
set_option genInjectivity false in
structure Ends where
 nx:St->Hp->Prop
 rt:VK
 bk:St->Hp->Prop:=λ_ _=>False
 ct:St->Hp->Prop:=λ_ _=>False
abbrev TS:=Ends->St->Hp->Prop
def EP(X:Cx)(pins:List (ak×Obj))(σ:St)(Q:VK)(u:ag)(s':ap):Prop:=∃v H',Inv X pins σ H' s'/\Zz v u/\Q v H'
def TP(X:Cx)(pins:List (ak×Obj))(σ:St)(Q:Bool->Hp->Prop)(b:Bool)(s':ap):Prop:=∃H',Inv X pins σ H' s'/\Q b H'
def AP(X:Cx)(pins:List (ak×Obj))(σ:St)(Q:List V->Hp->Prop)(us:List ag)(s':ap):Prop:=∃vs H',Inv X pins σ H' s'/\Ya vs us/\Q vs H'
def SP(X:Cx)(pins:List (ak×Obj))(D:Ends)(f:Flow)(s':ap):Prop:=
 match f with
 | .next=>∃σ' H',Inv X pins σ' H' s'/\D.nx σ' H'
 | .brk=>∃σ' H',Inv X pins σ' H' s'/\D.bk σ' H'
 | .cont=>∃σ' H',Inv X pins σ' H' s'/\D.ct σ' H'
 | .ret u=>∃v σ' H',Inv X pins σ' H' s'/\Zz v u/\D.rt v H'
def PE(X:Cx)(e:b7)(t:TE):Prop:=
 ∀(pins:List (ak×Obj)) (s:ap) (σ:St) (H:Hp) (Q:VK),Inv X pins σ H s->t σ H Q->br (cg X.prog X.w) X.A (dk e X.env) (EP X pins σ Q) X.xe s
def PT(X:Cx)(e:b7)(t:TT):Prop:=
 ∀(pins:List (ak×Obj)) (s:ap) (σ:St) (H:Hp) (Q:Bool->Hp->Prop),Inv X pins σ H s->t σ H Q->br (cg X.prog X.w) X.A (isTrue e X.env (dk e X.env)) (TP X pins σ Q) X.xe s
def PW(X:Cx)(e:b7)(t:TT):Prop:=
 ∀(whole:Sem ag) (pins:List (ak×Obj)) (s:ap) (σ:St) (H:Hp) (Q:Bool->Hp->Prop),Inv X pins σ H s->t σ H Q->br (cg X.prog X.w) X.A (isTrue e X.env whole) (TP X pins σ Q) X.xe s
theorem PW.pt{X:Cx}{e:b7}{t:TT}(h:PW X e t):PT X e t:=h _
def PA(X:Cx)(es:List b7)(t:TA):Prop:=
 ∀(pos:Pos) (pins:List (ak×Obj)) (s:ap) (σ:St) (H:Hp) (Q:List V->Hp->Prop),Inv X pins σ H s->t σ H Q->br (cg X.prog X.w) X.A (spliced (dj pos (av es X.env))) (AP X pins σ Q) X.xe s
def PS(X:Cx)(st:Stmt)(t:TS):Prop:=
 ∀(pins:List (ak×Obj)) (s:ap) (σ:St) (H:Hp) (D:Ends),Inv X pins σ H s->t D σ H->br (cg X.prog X.w) X.A (exec st X.env) (SP X pins D) X.xe s
def Gp(X:Cx)(st:List Stmt)(t:TS):Prop:=
 ∀(pins:List (ak×Obj)) (s:ap) (σ:St) (H:Hp) (D:Ends),Inv X pins σ H s->t D σ H->br (cg X.prog X.w) X.A (execs st X.env) (SP X pins D) X.xe s
theorem Wl{α:Type}{t:Sem α}{Q Q':α->ap->Prop}{M:Model}{A:c8}{E:ag->ap->Prop}{s:ap}(h:br M A t Q E s)(hQ:∀a s,Q a s->Q' a s):br M A t Q' E s:=wpAny_mono h hQ λ_ _ x=>x
section
variable{X:Cx}
def Mz(i:Nat):TE:=λσ H Q=>∃v,σ[i]? =aA (aA v)/\Q v H
def tC(v:V):TE:=λ_ H Q=>Q v H
theorem On{i:Nat}{x:Str}{pos:Pos}(hN:X.N[i]? =aA x)(hv:Vb X.env.scope x)(hd:(x==("__debug__":Str))=aD:=by decide)(hcd:(x==("__classdict__":Str))=aD:=by decide):PE X (.Name x pos) (Mz i):=by
 intro pins s σ H Q I h;obtain⟨v,e,h⟩:=h;obtain⟨m,hn,hl⟩:=I.loc;obtain⟨u,r,l⟩:=hl i x v hN e hv;have fin:EP X pins σ Q u s:=⟨v,H,I,r,h⟩
 rcases l with⟨hk,hm⟩|⟨hk,c,hc,hcell⟩
 .exact wpAny_Name (wpAny_loadName_local I.ok.kind hk hn hm fin) hd
 .rcases hk with hk|hk
  .exact wpAny_Name (wpAny_loadName_cell I.ok.kind hk hc hcell fin) hd
  .exact wpAny_Name (wpAny_loadName_free I.ok.kind hk hc hcell fin hcd) hd
theorem Zco{i j pos}:PE X (.Constant (.int i) j pos) (tC (.int i)):=λ_ _ _ H _ I h=>wpAny_Constant_int ⟨.int i,H,I.tok _,⟨_,rfl⟩,h⟩
theorem Zpq{b j pos}:PE X (.Constant (.bool b) j pos) (tC (.bl b)):=λ_ _ _ H _ I h=>Constant_bool ⟨.bl b,H,I,rfl,h⟩
theorem Zl3{j pos}:PE X (.Constant .none j pos) (tC .non):=λ_ _ _ H _ I h=>Constant_none ⟨.non,H,I,rfl,h⟩
theorem Vc{x j pos}:PE X (.Constant (.str x) j pos) (tC (.str x)):=λ_ _ _ H _ I h=>Calls.Constant_str ⟨.str x,H,I.tok _,⟨_,rfl⟩,h⟩
def Gl(X:Cx)(x:Str):Prop:=X.env.kindOf x=aA .globalImplicit
theorem Rx{E:ag->ap->Prop}{pins:List (ak×Obj)}{s:ap}{σ:St}{H:Hp}{x:Str}{u:ag}{pos:Pos}{Q:ag->ap->Prop}(I:Inv X pins σ H s)(hg:Gl X x)(hm:X.mg x=aA u)(h:Q u s)
  (hd:(x==("__debug__":Str))=aD:=by decide):br (cg X.prog X.w) X.A (dk (.Name x pos) X.env) Q E s:=
 Calls.Name_function_global I.ok.kind hg (Calls.loadGlobal_global (by rw[I.ok.glob];exact I.mod.glob.keeps I.bk) hm h) hd
theorem G8{E:ag->ap->Prop}{pins:List (ak×Obj)}{s:ap}{σ:St}{H:Hp}{x:Str}{u:ag}{pos:Pos}{Q:ag->ap->Prop}(I:Inv X pins σ H s)(hg:Gl X x)(hm:X.mg x=aB)(hv:bootBuiltins x=aA u)(h:Q u s)
  (hn:x≠"__name__":=by decide) (hd:(x==("__debug__":Str))=aD:=by decide):br (cg X.prog X.w) X.A (dk (.Name x pos) X.env) Q E s:=by
 obtain⟨mb,h1,h2⟩:=I.mod.blt;exact Calls.Name_function_global I.ok.kind hg (Calls.loadGlobal_builtin (by rw[I.ok.glob];exact I.mod.glob.keeps I.bk) hm (by rw[I.ok.blt];exact h1.keeps I.bk) ((h2 x hn).trans hv) h) hd
theorem He{x:Str}{v:V}{u:ag}{pos:Pos}(hg:Gl X x)(hm:X.mg x=aA u)(r:Zz v u)(hd:(x==("__debug__":Str))=aD:=by decide):PE X (.Name x pos) (tC v):=
 λ_ _ _ H _ I h=>Rx I hg hm ⟨v,H,I,r,h⟩ hd
theorem Zg4{x:Str}{v:V}{u:ag}{pos:Pos}(hg:Gl X x)(hm:X.mg x=aB)(hv:bootBuiltins x=aA u)(r:Zz v u)(hn:x≠"__name__":=by decide)(hd:(x==("__debug__":Str))=aD:=by decide):PE X (.Name x pos) (tC v):=
 λ_ _ _ H _ I h=>G8 I hg hm hv ⟨v,H,I,r,h⟩ hn hd
variable{a b:b7}{ta tb:TE}{pos:Pos}
def tB(t:TE):TT:=λσ H Q=>t σ H λx H1=>∃c,x= .bl c/\Q c H1
theorem Zl4{e:b7}{t:TE}(h:PE X e t)(he:∀whole,isTrue e X.env whole=(do let v<-whole;standAt e.pos;holding [v] (truthy v)):=by intro _;rfl):PT X e (tB t):=by intro pins s σ H Q I hw;refine isTrue_plain (Wl (h pins s σ H _ I hw) λv s1 ⟨x,H1,I1,r1,q1⟩=>?_) (he _);obtain⟨d,rfl,q⟩:=q1;cases r1;exact wpAny_truthy_bool ⟨H1,I1,q⟩
variable{tA tB':TT}{rest:List b7}
def Zpr(t u:TT):TT:=λσ H Q=>t σ H λc H1=>if c=aC then u σ H1 Q else Q aD H1
def tOr(t u:TT):TT:=λσ H Q=>t σ H λc H1=>if c=aC then Q aC H1 else u σ H1 Q
def Zps(t:TT):TT:=λσ H Q=>t σ H λc H1=>Q (!c) H1
theorem Zg5(ha:PT X a tA):PW X (.BoolOp .And [a] pos) tA:=by
 intro wh pins s σ H Q I h;refine isTrue_and (Wl (ha pins s σ H Q I h) λc s1 e=>?_);cases c with
 |true=>exact isTrue_and_nil e
 |false=>exact e
theorem Zl5(ha:PT X a tA):PW X (.BoolOp .Or [a] pos) tA:=by
 intro wh pins s σ H Q I h;refine isTrue_or (Wl (ha pins s σ H Q I h) λc s1 e=>?_);cases c with
 |false=>exact isTrue_or_nil e
 |true=>exact e
theorem Zl6(ha:PT X a tA)(hb:PW X (.BoolOp .And (b::rest) pos) tB'):PW X (.BoolOp .And (a::b::rest) pos) (Zpr tA tB'):=by
 intro wh pins s σ H Q I h;refine isTrue_and (Wl (ha pins s σ H _ I h) λc s1 zq9=>?_);obtain⟨H1,I1,q1⟩:=zq9;cases c with
 |true=>exact hb wh pins s1 σ H1 Q I1 q1
 |false=>exact⟨H1,I1,q1⟩
theorem Zpt(ha:PT X a tA)(hb:PW X (.BoolOp .Or (b::rest) pos) tB'):PW X (.BoolOp .Or (a::b::rest) pos) (tOr tA tB'):=by
 intro wh pins s σ H Q I h;refine isTrue_or (Wl (ha pins s σ H _ I h) λc s1 zq9=>?_);obtain⟨H1,I1,q1⟩:=zq9;cases c with
 |true=>exact⟨H1,I1,q1⟩
 |false=>exact hb wh pins s1 σ H1 Q I1 q1
theorem Zl7(ha:PT X a tA):PT X (.UnaryOp .Not a pos) (Zps tA):=by intro pins s σ H Q I h;exact isTrue_not (ha pins s σ H (λc H1=>Q (!c) H1) I h)
def Zkg(ta tb:TE):TE:=λσ H Q=>ta σ H λx H1=>∃c,x= .bl c/\if c=aC then tb σ H1 Q else Q (.bl aD) H1
def Zkh(ta:TE):TE:=λσ H Q=>ta σ H λx H1=>∃c,x= .bl c/\Q (.bl (!c)) H1
theorem Zl8{op} {t:TE} (h:PE X a t):PE X (.BoolOp op [a] pos) t:=λpins s σ H Q I hw=>BoolOp_one (h pins s σ H Q I hw)
theorem Zl9(ha:PE X a ta)(hb:PE X (.BoolOp .And (b::rest) pos) tb):PE X (.BoolOp .And (a::b::rest) pos) (Zkg ta tb):=by
 intro pins s σ H Q I h;refine BoolOp_and (Wl (ha pins s σ H _ I h) λv s1 zq9=>?_);obtain⟨x,H1,I1,r1,q1⟩:=zq9;obtain⟨c,rfl,q1⟩:=q1;cases r1;refine wpAny_truthy_bool ?_;cases c with
 |true=>exact hb pins s1 σ H1 Q I1 q1
 |false=>exact⟨.bl aD,H1,I1,rfl,q1⟩
theorem Zma(ha:PE X a ta):PE X (.UnaryOp .Not a pos) (Zkh ta):=by intro pins s σ H Q I h;refine UnaryOp_ (Wl (ha pins s σ H _ I h) λv s1 zq9=>?_);obtain⟨x,H1,I1,r1,q1⟩:=zq9;obtain⟨c,rfl,q1⟩:=q1;cases r1;exact not_of (wpAny_truthy_bool ⟨.bl (!c),H1,I1,rfl,q1⟩)
def tIf(t:TT)(ta tb:TE):TE:=λσ H Q=>t σ H λc H1=>if c=aC then ta σ H1 Q else tb σ H1 Q
theorem Zcp{c:b7}(hc:PT X c tA)(ha:PE X a ta)(hb:PE X b tb):PE X (.IfExp c a b pos) (tIf tA ta tb):=by
 intro pins s σ H Q I h;refine wpAny_IfExp (Wl (hc pins s σ H _ I h) λd s1 zq9=>?_);obtain⟨H1,I1,q1⟩:=zq9;cases d with
 |true=>exact ha pins s1 σ H1 Q I1 q1
 |false=>exact hb pins s1 σ H1 Q I1 q1
end
def Oa(K:ad)(H:Hp)(a:ak)(xs:List V):Prop:=
 Rd H a (.lst xs)\/
  ∃(o:Obj) (its:Array ag) (n:Nat),K.lookup a=aA o/\o.cls= .type "list"/\o.dict=aB/\o.data= .seq its n/\its.size<=sizeLine/\Ya xs its.toList
def G9(K:ad)(H:Hp)(a:ak)(xs:List V):Prop:=
 Rd H a (.tup xs)\/
  ∃(o:Obj) (its:Array ag) (n:Nat),K.lookup a=aA o/\o.cls= .type "tuple"/\o.data= .seq its n/\its.size<=sizeLine/\Ya xs its.toList
noncomputable def Ztj:ag->Option V
 | .none=>aA .non
 | .bool b=>aA (.bl b)
 | .int i _=>aA (.int i)
 | .str x _=>aA (.str x)
 | .bytes b _=>aA (.byt b)
 | .float b _=>aA (.flt b)
 | .ref a=>aA (.ref a)
 | .type n=>aA (.ty n)
 |_=>aB
theorem Zz.abs{x:V}{u:ag}(r:Zz x u):Ztj u=aA x:=by
 cases x with
 |non=>cases r;rfl
 |bl _=>cases r;rfl
 |int _=>obtain⟨t,rfl⟩:=r;rfl
 |str _=>obtain⟨t,rfl⟩:=r;rfl
 |byt _=>obtain⟨t,rfl⟩:=r;rfl
 |flt _=>obtain⟨t,rfl⟩:=r;rfl
 |ref _=>cases r;rfl
 |ty _=>cases r;rfl
theorem Zz.inj{x y:V}{u:ag}(r:Zz x u)(q:Zz y u):x=y:=dz.inj (r.abs.symm.trans q.abs)
theorem Ya.inj{xs:List V}:∀{ys:List V} {us:List ag},Ya xs us->Ya ys us->xs=ys:=by
 induction xs with
 |nil=>intro ys us h g;cases h;cases g;rfl
 |cons x xs ih=>
  intro ys us h g;cases h with
  |cons r t=>
   cases g with
   |cons r' t'=>rw[r.inj r',ih t t']
section
variable{X:Cx}{pins:List (ak×Obj)}{σ:St}{H:Hp}{s:ap}{a:ak}{xs ys:List V}
theorem Inv.list(I:Inv X pins σ H s)(h:Oa X.K H a xs):∃its:List ag,Ya xs its/\PlainL s.heap a its.toArray/\xs.length<=sizeLine:=by
 rcases h with h|⟨o,its,n,hk,hc,hd,hs,hz,r⟩
 .obtain⟨z,its,n,r,e⟩:=h.ok I.hok;exact⟨its,r,⟨_,n,e,rfl,rfl,rfl⟩,z⟩
 .refine⟨its.toList,r,⟨o,n,I.kIn a o hk,hc,hd,by simpa using hs⟩,?_⟩;have e:=r.length;simp only[cq]at e;omega
theorem Inv.tuple(I:Inv X pins σ H s)(h:G9 X.K H a xs):∃its:List ag,Ya xs its/\IsTup s.heap a its.toArray/\xs.length<=sizeLine:=by
 rcases h with h|⟨o,its,n,hk,hc,hs,hz,r⟩
 .obtain⟨z,its,r,p⟩:=h.ok I.hok;exact⟨its,r,p,z⟩
 .refine⟨its.toList,r,⟨o,I.kIn a o hk,hc,n,by simpa using hs⟩,?_⟩;have e:=r.length;simp only[cq]at e;omega
theorem Inv.list_inj(I:Inv X pins σ H s)(h:Oa X.K H a xs)(h':Oa X.K H a ys):xs=ys:=by
 obtain⟨its,r,⟨o,n,e,_,_,d⟩,_⟩:=I.list h;obtain⟨its',r',⟨o',n',e',_,_,d'⟩,_⟩:=I.list h';rw[e]at e';cases e';rw[d]at d';injection d' with d1 _
 have:its=its':=by simpa using congrArg Array.toList d1
 subst this;exact r.inj r'
theorem Inv.tuple_inj(I:Inv X pins σ H s)(h:G9 X.K H a xs)(h':G9 X.K H a ys):xs=ys:=by
 obtain⟨its,r,⟨o,e,_,n,d⟩,_⟩:=I.tuple h;obtain⟨its',r',⟨o',e',_,n',d'⟩,_⟩:=I.tuple h';rw[e]at e';cases e';rw[d]at d';injection d' with d1 _
 have:its=its':=by simpa using congrArg Array.toList d1
 subst this;exact r.inj r'
end
noncomputable abbrev Cx.wish(X:Cx)(E:ag->ap->Prop):Cx:={X with xe:=E}
noncomputable abbrev Cx.nox(X:Cx):Cx:=X.wish λ_ _=>False
theorem Cx.Ok.wish{X:Cx}(ok:X.Ok)(E:ag->ap->Prop):(X.wish E).Ok:=
 ⟨ok.mod,ok.kind,ok.glob,ok.blt,ok.above,ok.inj,ok.has,ok.cab,ok.hd,ok.frames,ok.stk,ok.exf,ok.bs,ok.bsz,ok.noex,ok.exfs,ok.funs,ok.frf⟩
theorem Cx.Ok.unwish{X:Cx}{E:ag->ap->Prop}(ok:(X.wish E).Ok):X.Ok:=
 ⟨ok.mod,ok.kind,ok.glob,ok.blt,ok.above,ok.inj,ok.has,ok.cab,ok.hd,ok.frames,ok.stk,ok.exf,ok.bs,ok.bsz,ok.noex,ok.exfs,ok.funs,ok.frf⟩
section
variable{X:Cx}{pins:List (ak×Obj)}{σ:St}{H:Hp}{s:ap}{E:ag->ap->Prop}
theorem Inv.wish(I:Inv X pins σ H s)(E:ag->ap->Prop):Inv (X.wish E) pins σ H s:=⟨I.ok.wish E,I.os,I.bare,I.base,I.loc,I.cell,I.free,I.freeC,I.pin,I.hok,I.len⟩
theorem Inv.unwish(I:Inv (X.wish E) pins σ H s):Inv X pins σ H s:=⟨I.ok.unwish,I.os,I.bare,I.base,I.loc,I.cell,I.free,I.freeC,I.pin,I.hok,I.len⟩
theorem SP.unwish{D:Ends}{f:Flow}{s':ap}(h:SP (X.wish E) pins D f s'):SP X pins D f s':=by
 cases f with
 |next=>obtain⟨σ',H',I,q⟩:=h;exact⟨σ',H',I.unwish,q⟩
 |brk=>obtain⟨σ',H',I,q⟩:=h;exact⟨σ',H',I.unwish,q⟩
 |cont=>obtain⟨σ',H',I,q⟩:=h;exact⟨σ',H',I.unwish,q⟩
 |ret u=>obtain⟨v,σ',H',I,r,q⟩:=h;exact⟨v,σ',H',I.unwish,r,q⟩
theorem Gp.nox{st:List Stmt}{t:TS}(h:Gp X.nox st t):Gp X st t:=λpins s σ H D I hw=>
 wpAny_mono (h pins s σ H D (I.wish _) hw) (λ_ _ q=>q.unwish) λ_ _ z=>False.elim z
end
section
variable{X:Cx}{st:Stmt}{rest:List Stmt}{t u:TS}{e:b7}{te:TE}{pos:Pos}
def Zki:TS:=λD σ H=>D.nx σ H
def Zpu(t u:TS):TS:=λD σ H=>t {D with nx:=u D} σ H
theorem Zg6:Gp X [] Zki:=λ_ _ σ H _ I h=>wpAny_execs_nil ⟨σ,H,I,h⟩
theorem Zcq(h1:PS X st t)(h2:Gp X rest u):Gp X (st::rest) (Zpu t u):=by
 intro pins s σ H D I h;refine wpAny_execs_cons (Wl (h1 pins s σ H {D with nx:=u D} I h) λf s1 q=>?_);cases f with
 |next=>obtain⟨σ',H',I',q⟩:=q;exact h2 pins s1 σ' H' D I' q
 |ret v=>exact q
 |brk=>exact q
 |cont=>exact q
theorem Zg7(h1:PS X st t):Gp X [st] t:=by
 intro pins s σ H D I h;refine wpAny_execs_cons (Wl (h1 pins s σ H D I h) λf s1 q=>?_);cases f with
 |next=>exact wpAny_execs_nil q
 |ret v=>exact q
 |brk=>exact q
 |cont=>exact q
theorem Inv.quiet{pins:List (ak×Obj)}{σ:St}{H:Hp}{s:ap}(I:Inv X pins σ H s):interactive X.env=aD:=by simp[interactive,I.ok.kind]
def Tv(te:TE):TS:=λD σ H=>te σ H λ_ H1=>D.nx σ H1
theorem Bh(he:PE X e te)(hs:swapsWith e aB pos.line X.env=pure aD:=by rfl):PS X (.Expr e pos) (Tv te):=by intro pins s σ H D I h;exact wpAny_Expr_any (Wl (he pins s σ H _ I h) λv s1 ⟨x,H1,I1,r1,q1⟩=>⟨σ,H1,I1,q1⟩) I.quiet hs
def Zpv(te:TE):TS:=λD σ H=>te σ H D.rt
theorem Zmb(he:PE X e te):PS X (.Return (aA e) pos) (Zpv te):=by intro pins s σ H D I h;exact wpAny_Return_some (Wl (he pins s σ H _ I h) λv s1 ⟨x,H1,I1,r1,q1⟩=>⟨x,σ,H1,I1,r1,q1⟩)
def Zpw(c:TT)(t u:TS):TS:=λD σ H=>c σ H λb H1=>if b=aC then t D σ H1 else u D σ H1
theorem Zpx{c:b7}{a b:List Stmt}{tc:TT}(hc:PT X c tc)(ha:Gp X a t)(hb:Gp X b u):PS X (.If c a b pos) (Zpw tc t u):=by
 intro pins s σ H D I h;refine wpAny_If (Wl (hc pins s σ H _ I h) λd s1 zq9=>?_);obtain⟨H1,I1,q1⟩:=zq9;cases d with
 |true=>exact ha pins s1 σ H1 D I1 q1
 |false=>exact hb pins s1 σ H1 D I1 q1
end
abbrev TG:=V->St->Hp->(St->Hp->Prop)->Prop
abbrev TGs:=List V->St->Hp->(St->Hp->Prop)->Prop
def PG(X:Cx)(target:b7)(t:TG):Prop:=
 ∀(pins:List (ak×Obj)) (s:ap) (σ:St) (H:Hp) (v:V) (u:ag) (Q:St->Hp->Prop),Inv X pins σ H s->Zz v u->t v σ H Q->
  br (cg X.prog X.w) X.A (assign target X.env u) (λ_ s'=>∃σ' H',Inv X pins σ' H' s'/\Q σ' H') X.xe s
def PGs(X:Cx)(ts:List b7)(t:TGs):Prop:=
 ∀(pins:List (ak×Obj)) (s:ap) (σ:St) (H:Hp) (vs:List V) (us:List ag) (Q:St->Hp->Prop),Inv X pins σ H s->Ya vs us->t vs σ H Q->
  br (cg X.prog X.w) X.A (assignInOrder ((assignEach ts X.env).map (·.2)) us) (λ_ s'=>∃σ' H',Inv X pins σ' H' s'/\Q σ' H') X.xe s
abbrev TIp:=V->V->Hp->VK->Prop
def PIp(X:Cx)(op:Operator)(t:TIp):Prop:=
 ∀(pins:List (ak×Obj)) (s:ap) (σ:St) (H:Hp) (x y:V) (v u:ag) (Q:VK),Inv X pins σ H s->Zz x v->Zz y u->t x y H Q->
  br (cg X.prog X.w) X.A (inplaceOp op v u) (EP X pins σ Q) X.xe s
section
variable{X:Cx}{pos:Pos}
def Ar(i:Nat):TG:=λv σ H Q=>Q (σ.set i (aA v)) H
theorem Zg9{i:Nat}{x:Str}(hN:X.N.Nodup)(hi:X.N[i]? =aA x)(hx:Loc X.env.scope x)(hf:X.fn x=aC\/X.env.scope.names.lookup x=aA .local:=by first|exact .inl rfl|exact .inr rfl|assumption):PG X (.Name x pos) (Ar i):=by intro pins s σ H v u Q I r h;exact wpAny_assign_Name (Rw I hN hi hx r (λs' I'=>⟨_,H,I',h⟩) hf)
def Zpy:TGs:=λvs σ H Q=>vs=[]/\Q σ H
def Zkj(t:TG)(u:TGs):TGs:=λvs σ H Q=>∃v r,vs=v::r/\t v σ H λσ' H'=>u r σ' H' Q
theorem Zha:PGs X [] Zpy:=by intro pins s σ H vs us Q I r h;obtain⟨e,h⟩:=h;subst e;cases r;exact assignInOrder_nil ⟨σ,H,I,h⟩
theorem Zcs{e:b7}{es:List b7}{t:TG}{u:TGs}(h1:PG X e t)(h2:PGs X es u)
  (hs:(assignEach (e::es) X.env).map (·.2)=assign e X.env::(assignEach es X.env).map (·.2):=by rfl):PGs X (e::es) (Zkj t u):=by
 intro pins s σ H vs us Q I r h;obtain⟨v,vr,e1,h⟩:=h;subst e1;cases r with
 |cons r rr=>rw[hs];refine assignInOrder_cons (Wl (h1 pins s σ H _ _ _ I r h) λ_ s1 zq9=>?_);obtain⟨σ1,H1,I1,q1⟩:=zq9;exact h2 pins s1 σ1 H1 _ _ Q I1 rr q1
def Zpz(K:ad)(n:Nat)(t:TGs):TG:=λv σ H Q=>∃a xs,v= .ref a/\G9 K H a xs/\xs.length=n/\t xs σ H Q
theorem Zmc{es:List b7}{k:Nat}{t:TGs}{n:Nat}(hc:X.calm=aC)(h:PGs X es t)
  (hn:(assignEach es X.env).length=n:=by rfl) (hst:(assignEach es X.env).findIdx? (·.1)=aB:=by rfl):PG X (.Tuple es k pos) (Zpz X.K n t):=by
 intro pins s σ H v u Q I r hw;obtain⟨a,xs,e1,hq,hl,hw⟩:=hw;subst e1;cases r;obtain⟨its,rv,ht,hz⟩:=I.tuple hq;refine assign_Tuple_tuple (I.ok.hd hc) ht (by simp[hn,<-hl,rv.length]) hst λh' hx=>?_;have I1:Inv X pins σ H {s with heap:=h'}:=I.kept (t':=s.toks) λb o e=>hx b o (de (bi e)) e;exact h pins _ σ H xs _ Q I1 (by simpa using rv) hw
def Zap(te:TE)(g:TG):TS:=λD σ H=>te σ H λx H1=>g x σ H1 D.nx
theorem Zmd{tg e:b7}{te:TE}{g:TG}(he:PE X e te)(hg:PG X tg g)(hs:swapsWithSole [tg] e pos.line X.env=pure aD:=by rfl)(hw:swappedStores [tg] e X.env=pure aB:=by rfl)
  (h1:(assignEach [tg] X.env).map (·.2)=[assign tg X.env]:=by rfl):PS X (.Assign [tg] e pos) (Zap te g):=by
 intro pins s σ H D I h;refine wpAny_Assign_stores (Wl (he pins s σ H _ I h) λv s1 ⟨x,H1,I1,r1,q1⟩=>?_) hs hw;rw[h1];exact Wl (hg pins s1 σ H1 x v _ I1 r1 q1) λ_ s2 q=>q
theorem Zct{i:Nat}{x:Str}{e:b7}{te:TE}{pos':Pos}(hN:X.N.Nodup)(hi:X.N[i]? =aA x)(hx:Loc X.env.scope x)(he:PE X e te)(hs:swapsWith e (aA (.Name x pos')) pos.line X.env=pure aD:=by rfl)(hf:X.fn x=aC\/X.env.scope.names.lookup x=aA .local:=by first|exact .inl rfl|exact .inr rfl|assumption):
  PS X (.Assign [.Name x pos'] e pos) (Zap te (Ar i)):=by
 intro pins s σ H D I h;refine wpAny_Assign_Name (Wl (he pins s σ H _ I h) λv s1 ⟨y,H1,I1,r1,q1⟩=>?_) hs;exact Rw I1 hN hi hx r1 (λs2 I2=>⟨_,H1,I2,q1⟩) hf
def Zp0(i:Nat)(te:TE)(ti:TIp):TS:=λD σ H=>∃x,σ[i]? =aA (aA x)/\te σ H λy H1=>ti x y H1 λz H2=>D.nx (σ.set i (aA z)) H2
theorem Zme{i:Nat}{x:Str}{e:b7}{te:TE}{op:Operator}{ti:TIp}{pos':Pos}(hN:X.N.Nodup)(hi:X.N[i]? =aA x)(hx:Loc X.env.scope x)(he:PE X e te)(ho:PIp X op ti)(hf:X.fn x=aC\/X.env.scope.names.lookup x=aA .local:=by first|exact .inl rfl|exact .inr rfl|assumption):
  PS X (.AugAssign (.Name x pos') op e pos) (Zp0 i te ti):=by
 intro pins s σ H D I h;obtain⟨v,e1,h⟩:=h;obtain⟨m,hn,hl⟩:=I.loc;have vis:Vb X.env.scope x:=by rcases hx with k|k;exact .inl k;exact .inr (.inl k)
 obtain⟨u,r,l⟩:=hl i x v hi e1 vis;refine wpAny_AugAssign_Name ?_;have go:br (cg X.prog X.w) X.A (dk e X.env) (λw s₂=>br (cg X.prog X.w) X.A (inplaceOp op u w) (λr s₃=>br (cg X.prog X.w) X.A (storeName X.env x r) (λ_=>SP X pins D .next) X.xe s₃) X.xe s₂) X.xe s:=by refine Wl (he pins s σ H _ I h) λw s1 zq9=>?_;obtain⟨y,H1,I1,r1,q1⟩:=zq9;refine Wl (ho pins s1 σ H1 v y u w _ I1 r r1 q1) λz s2 zq9=>?_;obtain⟨zv,H2,I2,r2,q2⟩:=zq9;exact Rw I2 hN hi hx r2 (λs3 I3=>⟨_,H2,I3,q2⟩) hf
 rcases l with⟨hk,hm⟩|⟨hk,c,hc,hcell⟩
 .exact wpAny_loadName_local I.ok.kind hk hn hm go
 .rcases hk with hk|hk
  .exact wpAny_loadName_cell I.ok.kind hk hc hcell go
  .rcases hx with k|k
   .have:X.env.scope.names.lookup x=aA .free:=hk;rw[k]at this;cases this
   .have:X.env.scope.names.lookup x=aA .free:=hk;rw[k]at this;cases this
def ipI(f:Int->Int->Int):TIp:=λx y H Q=>∃i j,x= .int i/\y= .int j/\Q (.int (f i j)) H
theorem Zmf:PIp X .Add (ipI λi j=>i+j):=by intro pins s σ H x y v u Q I r1 r2 h;obtain⟨i,j,e1,e2,q⟩:=h;subst e1;subst e2;obtain⟨t,rfl⟩:=r1;obtain⟨t',rfl⟩:=r2;exact iadd_int ⟨.int _,H,I.tok _,⟨_,rfl⟩,q⟩
def Zcu(c:TT)(tb:TS):TS:=λD σ H=>∃W:Nat->St->Hp->Prop,(∃m,W m σ H)/\∀m σ H,W m σ H->
 c σ H λb H1=>if b=aC then∃N:St->Hp->Prop,(∀σ' H',N σ' H'->∃m',m'<m/\W m' σ' H')/\tb {D with nx:=N,ct:=N,bk:=D.nx} σ H1 else D.nx σ H1
theorem Zcv{c:b7}{body:List Stmt}{tc:TT}{tb:TS}(hp:PassesOwn (cg X.prog X.w) X.A X.env X.xe)(hc:PT X c tc)(hb:Gp X body tb):PS X (.While c body [] pos) (Zcu tc tb):=by
 intro pins s σ H D I h;obtain⟨W,⟨m0,w0⟩,turn⟩:=h;refine wpAny_While (codeAny_whileLoop (λn s'=>∃σ' H',Inv X pins σ' H' s'/\W n σ' H') ?_ m0 ⟨σ,H,I,w0⟩);rintro n s1 ⟨σ1,H1,I1,w1⟩;refine wpAny_passesOwn hp (Wl (hc pins s1 σ1 H1 _ I1 (turn n σ1 H1 w1)) λb s2 zq9=>?_);obtain⟨H2,I2,q2⟩:=zq9;cases b with
 |true=>
  obtain⟨N,hN,q2⟩:=q2;rw[if_pos rfl];refine wpAny_passesOwn hp (Wl (hb pins s2 σ1 H2 _ I2 q2) λf s3 q3=>?_);cases f with
  |next=>obtain⟨σ3,H3,I3,n3⟩:=q3;obtain⟨m',hm,w3⟩:=hN σ3 H3 n3;exact⟨m',hm,σ3,H3,I3,w3⟩
  |cont=>obtain⟨σ3,H3,I3,n3⟩:=q3;obtain⟨m',hm,w3⟩:=hN σ3 H3 n3;exact⟨m',hm,σ3,H3,I3,w3⟩
  |brk=>exact q3
  |ret v=>exact q3
 |false=>rw[if_neg ba];exact wpAny_execs_nil ⟨σ1,H2,I2,q2⟩
end
set_option genInjectivity false in
structure It where
 go:Nat->Hp->Prop
 yld:Nat->Hp->V->Hp->Prop
 stop:Nat->Hp->Prop
def Ra(X:Cx)(pins:List (ak×Obj))(H:Hp)(b:ak):Prop:=
 H b=aB/\b≠X.env.locals/\b∉X.fs/\(b∈X.ex\/X.s₀.heap.objs.size<=b)/\(∀x c,X.env.cells.lookup x=aA c->c≠b)/\∀p∈X.pn++pins,p.1≠b
theorem Inv.fpOk{X:Cx}{pins:List (ak×Obj)}{σ:St}{H H':Hp}{s:ap}{b:ak}(I:Inv X pins σ H s)(hb:s.heap.objs.size<=b)(hn:H' b=aB):Ra X pins H' b:=by
 refine⟨hn,Nat.ne_of_gt (cn I.lt hb),I.nofs hb,.inr (fj I.sz hb),λx c e z=>?_,λp hp z=>?_⟩
 .obtain⟨v,q⟩:=I.cell x c e;exact absurd (cn q.lt (by rw[z];exact hb)) (eh _)
 .exact absurd (cn (bi (I.pin p hp).1) (by rw[z];exact hb)) (eh _)
structure Turn(P:b5)(w:cw)(K:ad)(tg:b7)(J:It)(fp:List ak)(it:ak)(tn:Nat->du->Prop):Prop where
 mem:it∈fp
 obj:∀i h,tn i h->∀b∈fp,∃o,h.get? b=aA o/\∀v,o.data≠.cell v
 keep:∀i h h',tn i h->(∀b∈fp,∀o,h.get? b=aA o->h'.get? b=aA o)->tn i h'
 item:∀(X:Cx),X.prog=P->X.w=w->X.K=K->X.calm=aC->∀(i:Nat) (pins:List (ak×Obj)) (s:ap) (σ:St) (H:Hp) (E:ag->ap->Prop),Inv X pins σ H s->(∀b∈fp,Ra X pins H b)->tn i s.heap->J.go i H->
  br (cg P w) X.A (pyNext (.ref it)) (λr s1=>∃u,r=aA u/\
   br (cg P w) X.A (letOwnedTupleGo tg (.ref it) u) (λ_ s2=>∃x H',Inv X pins σ H' s2/\Zz x u/\J.yld i H x H'/\tn (i+1) s2.heap/\∀b∈fp,H' b=aB) E s1) E s
 done:∀(X:Cx),X.prog=P->X.w=w->X.K=K->X.calm=aC->∀(i:Nat) (pins:List (ak×Obj)) (s:ap) (σ:St) (H:Hp) (E:ag->ap->Prop),Inv X pins σ H s->(∀b∈fp,Ra X pins H b)->tn i s.heap->J.stop i H->
  br (cg P w) X.A (pyNext (.ref it)) (λr s1=>r=aB/\Inv X pins σ H s1) E s
 self:∀(A:c8) (i:Nat) (s:ap) (Q:ag->ap->Prop) (E:ag->ap->Prop),tn i s.heap->Q (.ref it) s->br (cg P w) A (pyIter (.ref it)) Q E s
abbrev TI:=St->Hp->(It->Hp->Prop)->Prop
def PIE(X:Cx)(pins:List (ak×Obj))(σ:St)(tg:b7)(R:It->Hp->Prop)(itv:ag)(s2:ap):Prop:=
 ∃(it:ak) (fp:List ak) (tn:Nat->du->Prop) (J:It) (H':Hp),itv= .ref it/\Inv X pins σ H' s2/\Turn X.prog X.w X.K tg J fp it tn/\tn 0 s2.heap/\(∀b∈fp,Ra X pins H' b)/\R J H'
def PI(X:Cx)(tg iter:b7)(wi:TI):Prop:=
 ∀(pins:List (ak×Obj)) (s:ap) (σ:St) (H:Hp) (R:It->Hp->Prop),Inv X pins σ H s->wi σ H R->
  br (cg X.prog X.w) X.A (dk iter X.env) (λv s1=>br (cg X.prog X.w) X.A (pyIter v) (PIE X pins σ tg R) X.xe s1) X.xe s
theorem I9{M:Model}{A:c8}{E:ag->ap->Prop}{s:ap}{tg:b7}{it:ak}{u:ag}{o:Obj}{n:String}{vs:Array ag}{Q:Unit->ap->Prop}(ho:s.heap.get? it=aA o)(hc:o.cls= .type n)(hd:o.data= .fields vs)
    (hn:["enumerate","zip","dict_itemiterator","dict_reverseitemiterator","odict_iterator","itertools.zip_longest","itertools.pairwise"].contains n=aD) (hQ:Q () s):br M A (letOwnedTupleGo tg (.ref it) u) Q E s:=by
  unfold letOwnedTupleGo;cases tg<;> first
    |exact ao hQ
    | (cases u<;> first
        |exact ao hQ
        | (refine ac (wpAny_load ho ?_)
           rw[hc,hd];show br M A (if(["enumerate","zip","dict_itemiterator","dict_reverseitemiterator","odict_iterator","itertools.zip_longest","itertools.pairwise"].contains n&&vs[0]? ==aA (rawInt _))=aC then _ else _) Q E s;rw[if_neg (by intro h;rw[hn,Bool.false_and]at h;cases h)];exact ao hQ))
noncomputable def Itl(K:ad)(a:ak):It:=
 ⟨λi H=>∃xs x,Oa K H a xs/\xs[i]? =aA x,λi H x H'=>H'=H/\∀xs,Oa K H a xs->xs[i]? =aA x,λi H=>∃xs,Oa K H a xs/\xs.length<=i⟩
noncomputable def Itt(K:ad)(a:ak):It:=
 ⟨λi H=>∃xs x,G9 K H a xs/\xs[i]? =aA x,λi H x H'=>H'=H/\∀xs,G9 K H a xs->xs[i]? =aA x,λi H=>∃xs,G9 K H a xs/\xs.length<=i⟩
noncomputable def Itr(lo:Int)(n:Nat):It:=⟨λi _=>i<n,λi H x H'=>H'=H/\x= .int (lo+i),λi _=>n<=i⟩
theorem Zaq{P:b5}{w:cw}{K:ad}{tg:b7}(a it:ak):Turn P w K tg (Itl K a) [it] it (λi h=>h.IsListIter it a i)where
 mem:=by simp
 obj:=λi h st b hb=>by
  have e:b=it:=by simpa using hb
  subst e;obtain⟨o,e,c,d⟩:=st;exact⟨o,e,λv z=>by rw[d]at z;cases z⟩
 keep:=λi h h' st k=>st.at λo e=>k it (by simp) o e
 item:=by intro X hP hw hK hc i pins s σ H E I hf st hg;subst hP hw hK;obtain⟨xs,x,hq,hx⟩:=hg;obtain⟨its,rv,p,hz⟩:=I.list hq;obtain⟨u,hu,ru⟩:=rv.get hx;obtain⟨f0,f1,f2,f3,f4,f5⟩:=hf it (by simp);refine wpAny_pyNext_list_item st p.isList (x:=u) (by simpa using hu) λh' st' sb=>?_;have I1:Inv X pins σ H {s with heap:=h'}:=I.turned (t':=s.toks) (λb o hb e=>(sb.2 b hb).trans e) f0 f1 f3 f4 f5;obtain⟨o,e,c,d⟩:=id st';exact⟨u,rfl,I9 (s:={s with heap:=h'}) e c d (by decide) ⟨x,H,I1,ru,⟨rfl,λys hy=>by rw[I.list_inj hy hq];exact hx⟩,st',λb hb=>(hf b hb).1⟩⟩
 done:=by intro X hP hw hK hc i pins s σ H E I hf st hg;subst hP hw hK;obtain⟨xs,hq,hx⟩:=hg;obtain⟨its,rv,p,hz⟩:=I.list hq;obtain⟨f0,f1,f2,f3,f4,f5⟩:=hf it (by simp);have hl:=rv.length;exact wpAny_pyNext_list_end (I.ok.hd hc) st p.isList (by simp;omega) λh' eb=>⟨rfl,I.turned (t':=s.toks) (λb o hb e=>eb b o hb e) f0 f1 f3 f4 f5⟩
 self:=λ_ _ _ _ _ st h=>wpAny_pyIter_listiter st h
theorem Vd{P:b5}{w:cw}{K:ad}{tg:b7}(a it:ak):Turn P w K tg (Itt K a) [it] it (λi h=>h.IsTupleIter it a i)where
 mem:=by simp
 obj:=λi h st b hb=>by
  have e:b=it:=by simpa using hb
  subst e;obtain⟨o,e,c,d⟩:=st;exact⟨o,e,λv z=>by rw[d]at z;cases z⟩
 keep:=λi h h' st k=>st.at λo e=>k it (by simp) o e
 item:=by intro X hP hw hK hc i pins s σ H E I hf st hg;subst hP hw hK;obtain⟨xs,x,hq,hx⟩:=hg;obtain⟨its,rv,p,hz⟩:=I.tuple hq;obtain⟨u,hu,ru⟩:=rv.get hx;obtain⟨f0,f1,f2,f3,f4,f5⟩:=hf it (by simp);refine wpAny_pyNext_tuple_item st (show s.heap.IsTuple a its.toArray from p) (x:=u) (by simpa using hu) λh' st' sb=>?_;have I1:Inv X pins σ H {s with heap:=h'}:=I.turned (t':=s.toks) (λb o hb e=>(sb.2 b hb).trans e) f0 f1 f3 f4 f5;obtain⟨o,e,c,d⟩:=id st';exact⟨u,rfl,I9 (s:={s with heap:=h'}) e c d (by decide) ⟨x,H,I1,ru,⟨rfl,λys hy=>by rw[I.tuple_inj hy hq];exact hx⟩,st',λb hb=>(hf b hb).1⟩⟩
 done:=by intro X hP hw hK hc i pins s σ H E I hf st hg;subst hP hw hK;obtain⟨xs,hq,hx⟩:=hg;obtain⟨its,rv,p,hz⟩:=I.tuple hq;obtain⟨f0,f1,f2,f3,f4,f5⟩:=hf it (by simp);have hl:=rv.length;exact wpAny_pyNext_tuple_end (I.ok.hd hc) st (show s.heap.IsTuple a its.toArray from p) (by simp;omega) λh' eb=>⟨rfl,I.turned (t':=s.toks) (λb o hb e=>eb b o hb e) f0 f1 f3 f4 f5⟩
 self:=λ_ _ _ _ _ st h=>wpAny_pyIter_tupleiter st h
theorem Ve{P:b5}{w:cw}{K:ad}{tg:b7}(it:ak)(lo:Int)(n:Nat):Turn P w K tg (Itr lo n) [it] it (λi h=>IsRangeIter h it (lo+(i:Nat)*1) ((n:Int)- (i:Nat)) 1)where
 mem:=by simp
 obj:=λi h st b hb=>by
  have e:b=it:=by simpa using hb
  subst e;exact⟨_,st,λv z=>by
   have z':Data.fields _=Data.cell v:=z;cases z'⟩
 keep:=λi h h' st k=>k it (by simp) _ st
 item:=by intro X hP hw hK hc i pins s σ H E I hf st hg;subst hP hw hK;obtain⟨f0,f1,f2,f3,f4,f5⟩:=hf it (by simp);have W:=Walks.range (prog:=X.prog) (w:=X.w) (I.ok.hd hc) it lo 1 n;refine W.item i s _ _ hg st λv h' tk hv st' kk=>?_;obtain⟨t,rfl⟩:=hv;have I1:Inv X pins σ H {s with heap:=h',toks:=tk}:=I.turned (λb o hb e=>kk b o (by simpa using hb) e) f0 f1 f3 f4 f5;refine⟨_,rfl,I9 (s:={s with heap:=h',toks:=tk}) (n:="range_iterator") st' rfl rfl (by decide) ⟨.int (lo+i),H,I1,⟨t,?_⟩,⟨rfl,rfl⟩,st',λb hb=>(hf b hb).1⟩⟩;rw[Int.mul_one]
 done:=by intro X hP hw hK hc i pins s σ H E I hf st hg;subst hP hw hK;obtain⟨f0,f1,f2,f3,f4,f5⟩:=hf it (by simp);exact wpAny_pyNext_range_end (I.ok.hd hc) st (by have:n<=i:=hg;omega) λh' eb=>⟨rfl,I.turned (t':=s.toks) (λb o hb e=>eb b o hb e) f0 f1 f3 f4 f5⟩
 self:=λ_ _ _ _ _ st h=>wpAny_pyIter_rangeiter st h
section
variable{X:Cx}{tg:b7}
theorem Nu{pins:List (ak×Obj)}{σ:St}{H:Hp}{s:ap}{R:It->Hp->Prop}{E:ag->ap->Prop}{lo hi:Int}{t u v:Tok}{tk:Nat}(I:Inv X pins σ H s)(h1:-(2^62)<=lo)(h2:lo<2^62)(h3:-(2^62)<=hi)(h4:hi<2^62)
  (q:R (Itr lo (hi- lo).toNat) H):br (cg X.prog X.w) X.A (pyIter (.ref s.heap.objs.size)) (PIE X pins σ tg R) E {s with heap:=s.heap.push {cls:=.type "range",data:=.fields #[.int lo t,.int hi u,.int 1 v]},toks:=tk}:=by
 refine wpAny_pyIter_range (IsRange.new ..) (small_one h1 h2 h3 h4) ?_;have I1:Inv X pins σ H {s with heap:=s.heap.push {cls:=.type "range",data:=.fields #[.int lo t,.int hi u,.int 1 v]},toks:=tk}:=I.kept λb o e=>az _ e;refine⟨(s.heap.push {cls:=.type "range",data:=.fields #[.int lo t,.int hi u,.int 1 v]}).objs.size,[(s.heap.push {cls:=.type "range",data:=.fields #[.int lo t,.int hi u,.int 1 v]}).objs.size],_,_,H,rfl,
  I1.kept (t':=tk) λb o e=>az _ e,Ve _ lo (hi- lo).toNat,?_,λb hb=>?_,q⟩
 .have e1:lo+((0:Nat):Int)*1=lo:=by simp
  have e2:(((hi- lo).toNat:Nat):Int)- ((0:Nat):Int)=Builtin.Range.rangeSize lo hi 1:=by rw[rangeSize_one];split<;> omega
  show IsRangeIter _ _ (lo+((0:Nat):Int)*1) ((((hi- lo).toNat:Nat):Int)- ((0:Nat):Int)) 1;rw[e1,e2];exact b3 _ rfl
 .have e:b=(s.heap.push {cls:=.type "range",data:=.fields #[.int lo t,.int hi u,.int 1 v]}).objs.size:=by simpa using hb
  subst e;exact I1.fpOk (bg _) (I1.hok.fresh (bg _))
def Zkk(ta:TA):TI:=λσ H R=>ta σ H λvs H1=>∃j:Int,vs=[.int j]/\-(2^62)<=j/\j<2^62/\R (Itr 0 j.toNat) H1
def Zkl(ta:TA):TI:=λσ H R=>ta σ H λvs H1=>∃i j:Int,vs=[.int i,.int j]/\(-(2^62)<=i/\i<2^62/\-(2^62)<=j/\j<2^62)/\R (Itr i (j- i).toNat) H1
theorem Zar{a:b7}{ta:TA}{p pos:Pos}(hg:Gl X "range")(hm:X.mg "range"=aB)(ha:PA X [a] ta)(hs:av [a] X.env=[(aD,dk a X.env)]:=by rfl):PI X tg (.Call (.Name "range" p) [a] [] pos) (Zkk ta):=by
 intro pins s σ H R I h;refine Call_ (G8 I hg hm boot_range (PyProof.Rows.callWith_type1 (Wl (ha pos pins s σ H _ I h) λus s1 ⟨vs,H1,I1,r1,q1⟩=>?_) hs rfl));obtain⟨j,e,q1,q2,q⟩:=q1;subst e;cases r1 with
 |cons r rr=>cases rr;obtain⟨t,rfl⟩:=r;exact call_range_1 (Nu I1 (by omega) (by omega) q1 q2 (by simpa using q))
theorem Zas{a b:b7}{ta:TA}{p pos:Pos}(hg:Gl X "range")(hm:X.mg "range"=aB)(ha:PA X [a,b] ta)(hs:av [a,b] X.env=[(aD,dk a X.env),(aD,dk b X.env)]:=by rfl)(hs2:av [b] X.env=[(aD,dk b X.env)]:=by rfl):
  PI X tg (.Call (.Name "range" p) [a,b] [] pos) (Zkl ta):=by
 intro pins s σ H R I h;refine Call_ (G8 I hg hm boot_range (PyProof.Rows.callWith_type1 (Wl (ha pos pins s σ H _ I h) λus s1 ⟨vs,H1,I1,r1,q1⟩=>?_) (by rw[hs,hs2]) (by rw[hs2];rfl)));obtain⟨i,j,e,⟨q1,q2,q3,q4⟩,q⟩:=q1;subst e;cases r1 with
 |cons r rr=>
  cases rr with
  |cons r' rr=>cases rr;obtain⟨t,rfl⟩:=r;obtain⟨t',rfl⟩:=r';exact call_range_2 (Nu I1 q1 q2 q3 q4 q)
def Zp2(wi:TI)(g:TG)(tb:TS):TS:=λD σ H=>wi σ H λJ H1=>∃W:Nat->Nat->St->Hp->Prop,(∃m,W 0 m σ H1)/\∀i m σ H,W i m σ H->
 (J.stop i H/\D.nx σ H)\/(J.go i H/\∃N:St->Hp->Prop,(∀σ' H',N σ' H'->∃m',m'<m/\W (i+1) m' σ' H')/\∀x H',J.yld i H x H'->g x σ H' λσ2 H2=>tb {D with nx:=N,ct:=N,bk:=D.nx} σ2 H2)
noncomputable def As(fp:List ak)(h:du):List (ak×Obj):=fp.filterMap λb=>(h.get? b).map λo=>(b,o)
theorem Bi{fp:List ak}{h:du}{b:ak}{o:Obj}(hb:b∈fp)(e:h.get? b=aA o):(b,o)∈As fp h:=List.mem_filterMap.mpr ⟨b,hb,by rw[e];rfl⟩
theorem Zat{fp:List ak}{h:du}{p:ak×Obj}(hp:p∈As fp h):p.1∈fp/\h.get? p.1=aA p.2:=by
 obtain⟨b,hb,e⟩:=List.mem_filterMap.mp hp;cases q:h.get? b with
 |none=>rw[q]at e;cases e
 |some o=>rw[q]at e;have e':(b,o)=p:=dz.inj e;subst e';exact⟨hb,q⟩
theorem Inv.pinned{pins:List (ak×Obj)}{σ:St}{H:Hp}{s:ap}{fp:List ak}(I:Inv X pins σ H s)(hf:∀b∈fp,Ra X pins H b)(ho:∀b∈fp,∃o,s.heap.get? b=aA o/\∀v,o.data≠.cell v):Inv X (pins++As fp s.heap) σ H s:=
 I.pins_of λp hp=>(cj.mp hp).elim (λz=>I.pin p (b6 _ z)) λz=>by obtain⟨hb,e⟩:=Zat z;obtain⟨f0,f1,f2,_⟩:=hf p.1 hb;obtain⟨o,e',d⟩:=ho p.1 hb;rw[e]at e';cases e';exact⟨e,f0,f1,f2,d⟩
theorem Inv.unpinned{pins pl:List (ak×Obj)}{σ:St}{H:Hp}{s:ap}(I:Inv X (pins++pl) σ H s):Inv X pins σ H s:=I.pins_of λp hp=>I.pin p (b6 _ (di _ hp))
theorem Zmg {iter : b7} {body : List Stmt} {wi : TI} {g : TG} {tb : TS} {pos : Pos} (hp : PassesOwn (cg X.prog X.w) X.A X.env X.xe) (hc : X.calm = aC) (hi : PI X tg iter wi) (hg : PG X tg g) (hb : Gp X body tb)
    (hs : ∀ x, foldedSetIterable iter X.env x = pure x := by intro _; rfl) : PS X (.For tg iter body [] pos) (Zp2 wi g tb) := by
  intro pins s σ H D I h;refine wpAny_For (Wl (hi pins s σ H _ I h) λv s1 h1 => Wl h1 λitv s2 h2 => ?_) hs;obtain ⟨it, fp, tn, J, H2, e, I2, T, st2, f2, W, ⟨m0, w0⟩, turn⟩ := h2;subst e
  -- what stays aC of the iterator's objects through the loop
  have stat : ∀ {H' : Hp}, (∀ b ∈ fp, H' b = aB) -> ∀ b ∈ fp, Ra X pins H' b := λhn b hb => ⟨hn b hb, (f2 b hb).2⟩
  refine codeAny_forLoop_any (λn s' => ∃ i σ' H', Inv X pins σ' H' s' /\ tn i s'.heap /\ (∀ b ∈ fp, H' b = aB) /\ W i n σ' H') ?_ m0 ⟨0, σ, H2, I2, st2, λb hb => (f2 b hb).1, w0⟩;rintro n s3 ⟨i, σ3, H3, I3, st3, fr3, w3⟩;rcases turn i n σ3 H3 w3 with ⟨stop, qn⟩ | ⟨go, N, hN, step⟩
  · refine wpAny_passesOwn hp (Wl (T.done X rfl rfl rfl hc i pins s3 σ3 H3 X.xe I3 (stat fr3) st3 stop) λr s4 ⟨hr, I4⟩ => ?_)
    subst hr;exact wpAny_execs_nil ⟨σ3, H3, I4, qn⟩
  · refine wpAny_passesOwn hp (Wl (T.item X rfl rfl rfl hc i pins s3 σ3 H3 X.xe I3 (stat fr3) st3 go) λr s4 ⟨u, hr, h4⟩ => ?_)
    subst hr;refine wpAny_passesOwn hp (Wl h4 λ_ s5 zq9 => ?_);obtain ⟨x, H5, I5, r5, y5, st5, fr5⟩ := zq9;have I5' := I5.pinned (stat fr5) (T.obj _ _ st5);refine wpAny_passesOwn hp (Wl (hg _ s5 σ3 H5 x u _ I5' r5 (step x H5 y5)) λ_ s6 zq9 => ?_);obtain ⟨σ6, H6, I6, q6⟩ := zq9;refine wpAny_passesOwn hp (Wl (hb _ s6 σ6 H6 _ I6 q6) λf s7 q7 => ?_);have again : ∀ {σ7 : St} {H7 : Hp}, Inv X (pins ++ As fp s5.heap) σ7 H7 s7 -> N σ7 H7 -> ∃ m, m < n /\ ∃ i σ' H', Inv X pins σ' H' s7 /\ tn i s7.heap /\ (∀ b ∈ fp, H' b = aB) /\ W i m σ' H' := λ{σ7 H7} I7 n7 => by obtain ⟨m', hm, w7⟩ := hN σ7 H7 n7;refine ⟨m', hm, i + 1, σ7, H7, I7.unpinned, T.keep _ _ _ st5 λb hb o e => (I7.pin (b, o) (b6 _ (b6 _ (Bi hb e)))).1, λb hb => ?_, w7⟩;obtain ⟨o, e, d⟩ := T.obj _ _ st5 b hb;exact (I7.pin (b, o) (b6 _ (b6 _ (Bi hb e)))).2.1
    cases f with
    | next => obtain ⟨σ7, H7, I7, n7⟩ := q7; exact again I7 n7
    | cont => obtain ⟨σ7, H7, I7, n7⟩ := q7; exact again I7 n7
    | brk => obtain ⟨σ7, H7, I7, q7⟩ := q7; exact ⟨σ7, H7, I7.unpinned, q7⟩
    | ret v => obtain ⟨x7, σ7, H7, I7, r7, q7⟩ := q7; exact ⟨x7, σ7, H7, I7.unpinned, r7, q7⟩
end
abbrev R2:=V->V->Hp->VK->Prop
def U5(X:Cx)(f:ag->ag->Sem ag)(r:R2):Prop:=
 ∀(pins:List (ak×Obj)) (s:ap) (σ:St) (H:Hp) (x y:V) (v u:ag) (Q:VK),Inv X pins σ H s->Zz x v->Zz y u->r x y H Q->
  br (cg X.prog X.w) X.A (f v u) (EP X pins σ Q) X.xe s
def Je(X:Cx)(f:ag)(r:List V->Hp->VK->Prop):Prop:=
 ∀(pins:List (ak×Obj)) (s:ap) (σ:St) (H:Hp) (xs:List V) (us:List ag) (Q:VK),Inv X pins σ H s->Ya xs us->r xs H Q->
  br (cg X.prog X.w) X.A (call f us) (EP X pins σ Q) X.xe s
def tOp(r:R2)(ta tb:TE):TE:=λσ H Q=>ta σ H λx H1=>tb σ H1 λy H2=>r x y H2 Q
def tUn(r:V->Hp->VK->Prop)(ta:TE):TE:=λσ H Q=>ta σ H λx H1=>r x H1 Q
def rI(C:Int->Int->Prop)(g:Int->Int->V):R2:=λx y H Q=>∃i j,x= .int i/\y= .int j/\C i j/\Q (g i j) H
def Vf(g:Int->Int->V):R2:=λx y H Q=>∃i j,x= .int i/\y= .int j/\Q (g i j) H
section
variable{X:Cx}{a b c:b7}{ta tb tc:TE}{pos:Pos}
theorem Zmh(ha:PE X a ta)(hb:PE X b tb){pins:List (ak×Obj)}{s:ap}{σ:St}{H:Hp}{R:V->V->Hp->Prop}(I:Inv X pins σ H s)
  (h:ta σ H λx H1=>tb σ H1 λy H2=>R x y H2) {Q:ag->ap->Prop} {f:ag->ag->Sem ag}
  (hf:∀v u s2 x y H2,Inv X pins σ H2 s2->Zz x v->Zz y u->R x y H2->br (cg X.prog X.w) X.A (f v u) Q X.xe s2):
  br (cg X.prog X.w) X.A (dk a X.env) (λv s₁=>br (cg X.prog X.w) X.A (dk b X.env) (λu s₂=>br (cg X.prog X.w) X.A (f v u) Q X.xe s₂) X.xe s₁) X.xe s:=by
 refine Wl (ha pins s σ H _ I h) λv s1 zq9=>?_;obtain⟨x,H1,I1,r1,q1⟩:=zq9;refine Wl (hb pins s1 σ H1 _ I1 q1) λu s2 zq9=>?_;obtain⟨y,H2,I2,r2,q2⟩:=zq9;exact hf v u s2 x y H2 I2 r1 r2 q2
theorem Zp4{op:Operator}{r:R2}(ho:U5 X (binaryOp op) r)(ha:PE X a ta)(hb:PE X b tb):PE X (.BinOp a op b pos) (tOp r ta tb):=by intro pins s σ H Q I h;exact wpAny_BinOp (Zmh ha hb I h λv u s2 x y H2 I2 rx ry q=>ho pins s2 σ H2 x y v u Q I2 rx ry q)
theorem opI{f:ag->ag->Sem ag}{C:Int->Int->Prop}{g:Int->Int->Int}
  (rule:∀(i j:Int) (t u:Tok) (s:ap) (Q:ag->ap->Prop) (E:ag->ap->Prop),C i j->Q (.int (g i j) s.toks) {s with toks:=s.toks+1}->br (cg X.prog X.w) X.A (f (.int i t) (.int j u)) Q E s):
  U5 X f (rI C λi j=>.int (g i j)):=by
 intro pins s σ H x y v u Q I rx ry h;obtain⟨i,j,rfl,rfl,hc,q⟩:=h;obtain⟨t,rfl⟩:=rx;obtain⟨t',rfl⟩:=ry;exact rule i j t t' s _ _ hc ⟨.int (g i j),H,I.tok _,⟨_,rfl⟩,q⟩
theorem Zp5{f:ag->ag->Sem ag}{g:Int->Int->Int}
  (rule:∀(i j:Int) (t u:Tok) (s:ap) (Q:ag->ap->Prop) (E:ag->ap->Prop),Q (.int (g i j) s.toks) {s with toks:=s.toks+1}->br (cg X.prog X.w) X.A (f (.int i t) (.int j u)) Q E s):
  U5 X f (Vf λi j=>.int (g i j)):=by
 intro pins s σ H x y v u Q I rx ry h;obtain⟨i,j,rfl,rfl,q⟩:=h;obtain⟨t,rfl⟩:=rx;obtain⟨t',rfl⟩:=ry;exact rule i j t t' s _ _ ⟨.int (g i j),H,I.tok _,⟨_,rfl⟩,q⟩
theorem Zhb{f:ag->ag->Sem ag}{g:Int->Int->Bool}
  (rule:∀(i j:Int) (t u:Tok) (s:ap) (Q:ag->ap->Prop) (E:ag->ap->Prop),Q (.bool (g i j)) s->br (cg X.prog X.w) X.A (f (.int i t) (.int j u)) Q E s):
  U5 X f (Vf λi j=>.bl (g i j)):=by
 intro pins s σ H x y v u Q I rx ry h;obtain⟨i,j,rfl,rfl,q⟩:=h;obtain⟨t,rfl⟩:=rx;obtain⟨t',rfl⟩:=ry;exact rule i j t t' s _ _ ⟨.bl (g i j),H,I,rfl,q⟩
def Zp6(i j:Int):Prop:=0<j/\j<1073741824
def Zcw(i j:Int):Prop:=(-(2^64)<i/\i<2^64)\/(-(2^64)<j/\j<2^64)
theorem Zcw.ok{i j:Int}(h:Zcw i j):IntMulOk i j:=by
 rcases h with⟨h1,h2⟩|⟨h1,h2⟩
 .exact .of_left (intBits_le_64 h1 h2)
 .exact .of_right (intBits_le_64 h1 h2)
theorem Zmi:U5 X (binaryOp .Add) (Vf λi j=>.int (i+j)):=Zp5 λ_ _ _ _ _ _ _ q=>add_int q
theorem Zmj:U5 X (binaryOp .Sub) (Vf λi j=>.int (i- j)):=Zp5 λ_ _ _ _ _ _ _ q=>sub_int q
theorem Zmk:U5 X (binaryOp .Mult) (rI Zcw λi j=>.int (i*j)):=opI λ_ _ _ _ _ _ _ hc q=>mul_int q hc.ok
theorem Zhc:U5 X (binaryOp .FloorDiv) (rI Zp6 λi j=>.int (i / j)):=opI λi j _ _ _ _ _ hc q=>by have h1:(0:Int)<j:=hc.1;have h2:j<1073741824:=hc.2;exact floordiv_int (by omega) (by rw[Int.fdiv_eq_ediv_of_nonneg i (by omega)];exact q) (.inl (PyProof.noPylong_small (by omega)))
theorem Zml:U5 X (binaryOp .Mod) (rI (λ_ j=>0<j) λi j=>.int (i % j)):=opI λi j _ _ _ _ _ hc q=>by have h1:(0:Int)<j:=hc;exact mod_int' (by omega) (by rw[Int.fmod_eq_emod_of_nonneg i (by omega)];exact q)
end
noncomputable def scal:V->V->Bool
 | .non,.non=>aC| .non,.int _=>aC| .int _,.non=>aC| .non,.bl _=>aC| .bl _,.non=>aC| .non,.str _=>aC| .str _,.non=>aC
 | .int _,.int _=>aC| .bl _,.bl _=>aC| .str _,.str _=>aC| .byt _,.byt _=>aC
 | .int _,.str _=>aC| .str _,.int _=>aC| .bl _,.str _=>aC| .str _,.bl _=>aC
 |_,_=>aD
def rEq:R2:=λx y H Q=>scal x y=aC/\Q (.bl (decide (x=y))) H
def rNe:R2:=λx y H Q=>scal x y=aC/\Q (.bl (!decide (x=y))) H
theorem Hf{i j:Int}:decide (V.int i=V.int j)=(i==j):=by rw[Bool.eq_iff_iff];simp
theorem Zcx{i j:Bool}:decide (V.bl i=V.bl j)=(i==j):=by rw[Bool.eq_iff_iff];simp
theorem Hg{i j:Str}:decide (V.str i=V.str j)=(i==j):=by rw[Bool.eq_iff_iff];simp
theorem Hh{i j:Array UInt8}:decide (V.byt i=V.byt j)=(i.toList==j.toList):=by rw[Bool.eq_iff_iff];cases i;cases j;simp
section
variable{X:Cx}{a b c:b7}{ta tb tc:TE}{pos:Pos}
theorem Yj{pins:List (ak×Obj)}{σ:St}{H:Hp}{s:ap}{Q:VK}{k k':Bool}(I:Inv X pins σ H s)(q:Q (.bl k) H)(e:k=k'):EP X pins σ Q (.bool k') s:=by subst e;exact⟨.bl k,H,I,rfl,q⟩
theorem Zkm:U5 X (df .Eq) rEq:=by
 intro pins s σ H x y v u Q I rx ry h;obtain⟨hs,q⟩:=h;cases x with
 |non=>
  cases rx;cases y with
  |non=>cases ry;exact PySem.EqNone.eq_none_none (Yj I q (by simp))
  |bl j=>cases ry;exact PySem.EqNone.eq_none_bool (Yj I q (by simp))
  |int j=>obtain⟨t',rfl⟩:=ry;exact PySem.EqNone.eq_none_int (Yj I q (by simp))
  |str j=>obtain⟨t',rfl⟩:=ry;exact PySem.EqNone.eq_none_str (Yj I q (by simp))
  |_=>exact absurd (show aD=aC from hs) ba
 |bl i=>
  cases rx;cases y with
  |non=>cases ry;exact PySem.EqNone.eq_bool_none (Yj I q (by simp))
  |bl j=>cases ry;exact eq_bool (Yj I q Zcx)
  |str j=>obtain⟨t',rfl⟩:=ry;exact PySem.EqMixed.eq_bool_str (Yj I q (by simp))
  |_=>exact absurd (show aD=aC from hs) ba
 |int i=>
  obtain⟨t,rfl⟩:=rx;cases y with
  |non=>cases ry;exact PySem.EqNone.eq_int_none (Yj I q (by simp))
  |int j=>obtain⟨t',rfl⟩:=ry;exact eq_int (Yj I q Hf)
  |str j=>obtain⟨t',rfl⟩:=ry;exact PySem.EqMixed.eq_int_str (Yj I q (by simp))
  |_=>exact absurd (show aD=aC from hs) ba
 |str i=>
  obtain⟨t,rfl⟩:=rx;cases y with
  |non=>cases ry;exact PySem.EqNone.eq_str_none (Yj I q (by simp))
  |bl j=>cases ry;exact PySem.EqMixed.eq_str_bool (Yj I q (by simp))
  |int j=>obtain⟨t',rfl⟩:=ry;exact PySem.EqMixed.eq_str_int (Yj I q (by simp))
  |str j=>obtain⟨t',rfl⟩:=ry;exact eq_str (Yj I q Hg)
  |_=>exact absurd (show aD=aC from hs) ba
 |byt i=>
  obtain⟨t,rfl⟩:=rx;cases y with
  |byt j=>obtain⟨t',rfl⟩:=ry;exact PySem.W.eq_bytes (Yj I q Hh)
  |_=>exact absurd (show aD=aC from hs) ba
 |_=>cases y<;> exact absurd (show aD=aC from hs) ba
theorem Zp7:U5 X (df .NotEq) rNe:=by
 intro pins s σ H x y v u Q I rx ry h;obtain⟨hs,q⟩:=h;cases x with
 |non=>
  cases rx;cases y with
  |non=>cases ry;exact PySem.EqNone.ne_none_none (Yj I q (by simp))
  |bl j=>cases ry;exact PySem.EqNone.ne_none_bool (Yj I q (by simp))
  |int j=>obtain⟨t',rfl⟩:=ry;exact PySem.EqNone.ne_none_int (Yj I q (by simp))
  |str j=>obtain⟨t',rfl⟩:=ry;exact PySem.EqNone.ne_none_str (Yj I q (by simp))
  |_=>exact absurd (show aD=aC from hs) ba
 |bl i=>
  cases rx;cases y with
  |non=>cases ry;exact PySem.EqNone.ne_bool_none (Yj I q (by simp))
  |bl j=>cases ry;exact ne_bool (Yj I q (congrArg not Zcx))
  |str j=>obtain⟨t',rfl⟩:=ry;exact PySem.EqMixed.ne_bool_str (Yj I q (by simp))
  |_=>exact absurd (show aD=aC from hs) ba
 |int i=>
  obtain⟨t,rfl⟩:=rx;cases y with
  |non=>cases ry;exact PySem.EqNone.ne_int_none (Yj I q (by simp))
  |int j=>obtain⟨t',rfl⟩:=ry;exact ne_int (Yj I q (congrArg not Hf))
  |str j=>obtain⟨t',rfl⟩:=ry;exact PySem.EqMixed.ne_int_str (Yj I q (by simp))
  |_=>exact absurd (show aD=aC from hs) ba
 |str i=>
  obtain⟨t,rfl⟩:=rx;cases y with
  |non=>cases ry;exact PySem.EqNone.ne_str_none (Yj I q (by simp))
  |bl j=>cases ry;exact PySem.EqMixed.ne_str_bool (Yj I q (by simp))
  |int j=>obtain⟨t',rfl⟩:=ry;exact PySem.EqMixed.ne_str_int (Yj I q (by simp))
  |str j=>obtain⟨t',rfl⟩:=ry;exact ne_str (Yj I q (congrArg not Hg))
  |_=>exact absurd (show aD=aC from hs) ba
 |byt i=>
  obtain⟨t,rfl⟩:=rx;cases y with
  |byt j=>obtain⟨t',rfl⟩:=ry;exact PySem.W.ne_bytes (Yj I q (congrArg not Hh))
  |_=>exact absurd (show aD=aC from hs) ba
 |_=>cases y<;> exact absurd (show aD=aC from hs) ba
theorem Zp8:U5 X (df .Lt) (Vf λi j=>.bl (decide (i<j))):=Zhb λ_ _ _ _ _ _ _ q=>lt_int q
theorem Zkn:U5 X (df .LtE) (Vf λi j=>.bl (decide (i<=j))):=Zhb λ_ _ _ _ _ _ _ q=>le_int q
theorem Zp9:U5 X (df .Gt) (Vf λi j=>.bl (decide (j<i))):=Zhb λ_ _ _ _ _ _ _ q=>gt_int q
theorem Zqa:U5 X (df .GtE) (Vf λi j=>.bl (decide (j<=i))):=Zhb λ_ _ _ _ _ _ _ q=>ge_int q
theorem Zau:U5 X (df .Lt) (λx y H Q=>∃i j,x= .str i/\y= .str j/\Q (.bl (decide (i.cps.toList<j.cps.toList))) H):=by intro pins s σ H x y v u Q I rx ry h;obtain⟨i,j,rfl,rfl,q⟩:=h;obtain⟨t,rfl⟩:=rx;obtain⟨t',rfl⟩:=ry;exact lt_str (Yj I q rfl)
theorem Fa:U5 X (df .In) (λx y H Q=>∃i j,x= .str i/\y= .str j/\Q (.bl (!(ci j i 0 j.length 1).isEmpty)) H):=by intro pins s σ H x y v u Q I rx ry h;obtain⟨i,j,rfl,rfl,q⟩:=h;obtain⟨t,rfl⟩:=rx;obtain⟨t',rfl⟩:=ry;exact in_str (Yj I q rfl)
theorem Zmm:U5 X (df .Is) (λx y H Q=>y= .non/\Q (.bl (decide (x= .non))) H):=by
 intro pins s σ H x y v u Q I rx ry h;obtain⟨rfl,q⟩:=h;cases ry;refine is_none_gen (Yj I q ?_);cases x<;> first
  | (cases rx;rfl)
  | (obtain⟨t,rfl⟩:=rx;rfl)
theorem Zhd:U5 X (df .IsNot) (λx y H Q=>y= .non/\Q (.bl (!decide (x= .non))) H):=by
 intro pins s σ H x y v u Q I rx ry h;obtain⟨rfl,q⟩:=h;cases ry;refine isnot_none_gen (Yj I q ?_);cases x<;> first
  | (cases rx;rfl)
  | (obtain⟨t,rfl⟩:=rx;rfl)
theorem U5.or{f:ag->ag->Sem ag}{r r':R2}(h:U5 X f r)(h':U5 X f r'):U5 X f (λx y H Q=>r x y H Q\/r' x y H Q):=by
 intro pins s σ H x y v u Q I rx ry q;rcases q with q|q
 .exact h pins s σ H x y v u Q I rx ry q
 .exact h' pins s σ H x y v u Q I rx ry q
theorem Bj(b:b7){op:CmpOp}(h:op≠.In:=by decide)(h2:op≠.NotIn:=by decide):behindInMarks op b=aD:=by
 have e1:(op==CmpOp.In)=aD:=by cases op<;> first|rfl|exact absurd rfl h
 have e2:(op==CmpOp.NotIn)=aD:=by cases op<;> first|rfl|exact absurd rfl h2
 cases b<;> simp[behindInMarks,e1,e2]
theorem Zhe{op:CmpOp}{r:R2}(ho:U5 X (df op) r)(ha:PE X a ta)(hb:PE X b tb)(hm:behindInMarks op b=aD):PE X (.Compare a [op] [b] pos) (tOp r ta tb):=by intro pins s σ H Q I h;exact wpAny_Compare1 (Zmh ha hb I h λv u s2 x y H2 I2 rx ry q=>ho pins s2 σ H2 x y v u Q I2 rx ry q) hm
def Zko(t:TE):TT:=λσ H Q=>t σ H λx H'=>∃k,x= .bl k/\Q k H'
theorem Zhf{op:CmpOp}{r:R2}(ho:U5 X (df op) r)(ha:PE X a ta)(hb:PE X b tb)(hm:behindInMarks op b=aD):PT X (.Compare a [op] [b] pos) (Zko (tOp r ta tb)):=by
 intro pins s σ H Q I h;refine wpAny_isTrue_Compare1 (Wl (ha pins s σ H _ I h) λv s1 ⟨x,H1,I1,r1,q1⟩=>Wl (hb pins s1 σ H1 _ I1 q1) λu s2 ⟨y,H2,I2,r2,q2⟩=>
  Wl (ho pins s2 σ H2 x y v u _ I2 r1 r2 q2) λc s3 ⟨z,H3,I3,r3,k,e,q3⟩=>?_) hm
 subst e;cases r3;exact wpAny_truthy_bool ⟨H3,I3,q3⟩
def Zcy(r r':R2)(ta tb tc:TE):TE:=λσ H Q=>ta σ H λx H1=>tb σ H1 λy H2=>r x y H2 λz H3=>∃k,z= .bl k/\
 (if k=aC then tc σ H3 λw' H4=>r' y w' H4 Q else Q (.bl aD) H3)
theorem Zcz{op op':CmpOp}{r r':R2}(ho:U5 X (df op) r)(ho':U5 X (df op') r')(ha:PE X a ta)(hb:PE X b tb)(hc:PE X c tc)
  (hm:lastMarks [op,op'] [b,c]=aD:=by with_unfolding_all rfl):PE X (.Compare a [op,op'] [b,c] pos) (Zcy r r' ta tb tc):=by
 intro pins s σ H Q I h;refine Compare_chain (Wl (ha pins s σ H _ I h) λv s1 ⟨x,H1,I1,r1,q1⟩=>chain_link (Wl (hb pins s1 σ H1 _ I1 q1) λu s2 ⟨y,H2,I2,r2,q2⟩=>
  Wl (ho pins s2 σ H2 x y v u _ I2 r1 r2 q2) λd s3 ⟨z,H3,I3,r3,k,e,q3⟩=>?_)) hm
 subst e;cases r3;refine wpAny_truthy_bool ?_;cases k with
 |false=>exact ite_ff ⟨.bl aD,H3,I3,rfl,q3⟩
 |true=>exact ite_tt (chain_last (Wl (hc pins s3 σ H3 _ I3 q3) λw' s4 ⟨z',H4,I4,r4,q4⟩=>ho' pins s4 σ H4 y z' u w' Q I4 r2 r4 q4))
theorem Au:(sizeLine:Nat)<2^63:=by rw[sizeLine_eq];decide
theorem Vg:U5 X (binaryOp .Add) (λx y H Q=>∃i j,x= .str i/\y= .str j/\i.length+j.length<=sizeLine/\Q (.str (i++j)) H):=by intro pins s σ H x y v u Q I rx ry h;obtain⟨i,j,rfl,rfl,hz,q⟩:=h;obtain⟨t,rfl⟩:=rx;obtain⟨t',rfl⟩:=ry;exact add_str (λt' tk=>⟨.str (i++j),H,I.tok _,⟨_,rfl⟩,q⟩) hz
theorem Jw{x:V}{us:List ag}(r:Ya [x] us):∃u,us=[u]/\Zz x u:=by
 cases r with
 |cons r1 r2=>cases r2;exact⟨_,rfl,r1⟩
theorem Zkp{x y:V}{us:List ag}(r:Ya [x,y] us):∃u w',us=[u,w']/\Zz x u/\Zz y w':=by
 cases r with
 |cons r1 r2=>
  cases r2 with
  |cons r3 r4=>cases r4;exact⟨_,_,rfl,r1,r3⟩
theorem Zav:Je X (.type "int") (λxs H Q=>(∃i,xs=[.int i]/\Q (.int i) H)\/∃k,xs=[.bl k]/\Q (.int (if k then 1 else 0)) H):=by
 intro pins s σ H xs us Q I r h;rcases h with⟨i,rfl,q⟩|⟨k,rfl,q⟩
 .obtain⟨u,rfl,t,rfl⟩:=Jw r;exact call_int_int ⟨.int i,H,I,⟨_,rfl⟩,q⟩
 .obtain⟨u,rfl,r1⟩:=Jw r;cases r1;exact call_int_bool ⟨.int (if k then 1 else 0),H,I.tok _,⟨_,rfl⟩,q⟩
end
noncomputable def Oo(f:Str)(v:V):List (Str×V)->List (Str×V)
  | []=>[(f,v)]
  | (g,x)::r=>if g=f then(g,v)::r else(g,x)::Oo f v r
theorem Aa.some_of{v:V}{o:Option ag}(r:Aa (aA v) o):∃u,o=aA u/\Zz v u:=by
 cases o with
 |none=>exact(show False from r).elim
 |some u=>exact⟨u,rfl,r⟩
structure Room(k:Nat)(A:c8):Prop where
 hd:A.handled=aB
 dp:A.depth+3*k+5<recursionLimit
 un:A.units+16*k+200<fq
theorem Room.mono{j k:Nat}{A:c8}(r:Room k A)(h:j<=k):Room j A:=⟨r.hd,by have:=r.dp;omega,by have:=r.un;omega⟩
theorem Room.deeper{k:Nat}{A:c8}(r:Room (k+1) A)(env:Env):Room k (A.deeper env):=
 ⟨r.hd,by have:=r.dp;show A.depth+1+3*k+5<_;omega,by have:=r.un;show A.units+3+16*k+200<_;omega⟩
theorem Room.depth{k:Nat}{A:c8}(r:Room k A):A.depth<recursionLimit:=by have:=r.dp;omega
theorem Room.units{k:Nat}{A:c8}(r:Room k A):A.units+64<cLine:=by have:=r.un;omega
def Av:TA:=λ_ H Q=>Q [] H
def Gu(ta:TE)(tr:TA):TA:=λσ H Q=>ta σ H λx H1=>tr σ H1 λxs H2=>Q (x::xs) H2
section
variable{X:Cx}{e:b7}{es:List b7}{te:TE}{t:TA}{pos:Pos}
theorem Ud:PA X [] Av:=λ_ _ _ _ H Q I h=>Calls.spliced_nil ⟨[],H,I,.nil,h⟩
theorem W0(ha:PE X e te)(hr:PA X es t)(hs:av (e::es) X.env=(aD,dk e X.env)::av es X.env:=by rfl):PA X (e::es) (Gu te t):=by intro pos pins s σ H Q I h;rw[hs];show br _ _ (spliced ((aD,dk e X.env)::dj pos (av es X.env))) _ _ s;refine Calls.spliced_cons (Wl (ha pins s σ H _ I h) λu s1 zq9=>?_);obtain⟨x,H1,I1,r1,q1⟩:=zq9;exact Wl (hr pos pins s1 σ H1 _ I1 q1) λus s2 ⟨xs,H2,I2,r2,q2⟩=>⟨x::xs,H2,I2,.cons r1 r2,q2⟩
def Zqb(t:TA):TE:=λσ H Q=>t σ H λxs H1=>xs.length<=sizeLine/\∀p,H1 p=aB->Q (.ref p) (Y7 H1 p (.tup xs))
def Zmn(t:TA):TE:=λσ H Q=>t σ H λxs H1=>xs.length<=sizeLine/\∀p,H1 p=aB->Q (.ref p) (Y7 H1 p (.lst xs))
theorem Zmo{x1} (h:PA X es t):PE X (.Tuple es x1 pos) (Zqb t):=by intro pins s σ H Q I hq;refine wpAny_Tuple_spliced (Wl (h pos pins s σ H _ I hq) λus s1 ⟨xs,H1,I1,r,z,q⟩=>⟨by rw[<-r.length];exact z,?_⟩);have hf:H1 s1.heap.objs.size=aB:=I1.hok.fresh (bg _);refine⟨.ref s1.heap.objs.size,Y7 H1 s1.heap.objs.size (.tup xs),I1.laid (t':=s1.toks) (λb u e=>az _ e) (bg _) ?_,rfl,q _ hf⟩;exact⟨z,us,r,⟨_,b3 _ rfl,rfl,_,rfl⟩⟩
theorem Zc0(h:PA X es t):PE X (.List es pos) (Zmn t):=by intro pins s σ H Q I hq;refine wpAny_List_spliced (Wl (h pos pins s σ H _ I hq) λus s1 ⟨xs,H1,I1,r,z,q⟩=>⟨by rw[<-r.length];exact z,?_⟩);have hf:H1 s1.heap.objs.size=aB:=I1.hok.fresh (bg _);refine⟨.ref s1.heap.objs.size,Y7 H1 s1.heap.objs.size (.lst xs),I1.laid (t':=s1.toks) (λb u e=>az _ e) (bg _) ?_,rfl,q _ hf⟩;exact⟨z,us,0,r,b3 _ rfl⟩
end
abbrev Sp:=List V->Hp->VK->XK->Prop
abbrev CXT:=List Env->Hp->ap->XK->ag->ap->Prop
structure Env0(P:b5)(w:cw)(K:ad)(mg:Str->Option ag)(base:du)(A:c8)(outer:List Env)(s:ap)(H:Hp):Prop where
 frames:A.frames=aA outer
 mod:Mod K mg base
 bs:∀b o,base.get? b=aA o->s.heap.get? b=aA o/\H b=aB
 bsz:base.objs.size<=s.heap.objs.size
 funs:s.heap.FunFrames base outer
 frf:∀b∈C8 outer,H b=aB
 hok:Ck P w H s.heap
 bare:AllBare s.gens
def CE(outer:List Env)(P:b5)(w:cw)(H:Hp)(s:ap)(Q:VK)(u:ag)(s':ap):Prop:=
 ∃v H',s'.os=s.os/\AllBare s'.gens/\Un (C8 outer) [] H H' s.heap s'.heap/\Ck P w H' s'.heap/\Zz v u/\Q v H'
def CR(CX:CXT)(outer:List Env)(P:b5)(w:cw)(H:Hp)(s:ap)(Q:VK)(E:XK)(r:Result)(s':ap):Prop:=
 match r with
 | .ok (.ret u)=>CE outer P w H s Q u s'
 | .ok _=>False
 | .error e=>CX outer H s E e s'
structure FnOk(P:b5)(w:cw)(K:ad)(mg:Str->Option ag)(base:du)(CX:CXT)(k:Nat)(f:ak)(fd:bx)(ps:List Str)(sp:Sp):Prop where
 len:∀vs H Q E,sp vs H Q E->vs.length=ps.length
 run:∀(A:c8) (outer:List Env) (s:ap) (H:Hp) (args:Args) (us:List ag) (vs:List V) (Q:VK) (E:XK),Room k A->Env0 P w K mg base A outer s H->BindsTo s fd args (ps.zip us)->Ya vs us->sp vs H Q E->
  codeAny (cg P w) A (.call (.ref f) args) (CR CX outer P w H s Q E) s
section
variable{X:Cx}{pins:List (ak×Obj)}{σ:St}{H:Hp}{s s':ap}
theorem Inv.env0(I:Inv X pins σ H s):Env0 X.prog X.w X.K X.mg X.base X.A X.stack s H:=
 ⟨I.ok.frames,I.ok.mod,I.bs,fj I.ok.bsz I.sz,I.stack,I.stkFree,I.hok,I.bare⟩
theorem Inv.after{Q:VK}{u:ag}(I:Inv X pins σ H s)(h:CE X.stack X.prog X.w H s Q u s'):EP X pins σ Q u s':=by obtain⟨v,H',os,bare,un,hok,r,q⟩:=h;obtain⟨hh,g,d,t,os'⟩:=s';obtain rfl:os'=s.os:=os;exact⟨v,H',I.call (h':=hh) (g':=g) (d':=d) (t':=t) (ch:=[]) un hok bare (λb z=>absurd z (by simp)),r,q⟩
end
def Zc1(sp:Sp)(dvs:List V)(E:XK)(t:TA):TE:=λσ H Q=>t σ H λvs H1=>sp (vs++dvs) H1 Q E
def Yz(K:ad)(fd:bx)(ps:List Str)(ds:List ag):Prop:=
 ∀(s:ap) (us:List ag),K.In s.heap->(us++ds).length=ps.length->BindsTo s fd ⟨us,[]⟩ (ps.zip (us++ds))
theorem Yz.all{K:ad}{fd:bx}{ps:List Str}(h:∀us:List ag,us.length=ps.length->bindArgs fd ⟨us,[]⟩=pure (ps.zip us)):Yz K fd ps []:=λs us _ hl=>by rw[dm]at hl⊢;exact .of_eq (h us hl)
def Vh(CX:CXT)(X:Cx)(E:XK):Prop:=∀(pins:List (ak×Obj)) (σ:St) (H:Hp) (s:ap) (e:ag) (s':ap),Inv X pins σ H s->CX X.stack H s E e s'->X.xe e s'
section
variable{X:Cx}{CX:CXT}{k:Nat}{f C:ak}{fd:bx}{ps:List Str}{sp:Sp}{dvs:List V}{ds:List ag}{E:XK}{x m:Str}{p pos apos:Pos}{e o:b7}{es:List b7}{ta:TE}{t:TA}
theorem Zmp{pins:List (ak×Obj)}{σ:St}{H:Hp}{s:ap}{Q:VK}{us:List ag}{vs:List V}(F:FnOk X.prog X.w X.K X.mg X.base CX k f fd ps sp)(hr:Room k X.A)(hb:Yz X.K fd ps ds)(hd:Ya dvs ds)(hx:Vh CX X E)
  (I:Inv X pins σ H s) (r:Ya vs us) (h:sp (vs++dvs) H Q E):br (cg X.prog X.w) X.A (call (.ref f) us) (EP X pins σ Q) X.xe s:=by
 have r2:Ya (vs++dvs) (us++ds):=r.append hd;have hl:(us++ds).length=ps.length:=by rw[<-r2.length];exact F.len _ _ _ _ h
 refine wpAny_call (codeAny_mono (F.run X.A X.stack s H ⟨us,[]⟩ (us++ds) (vs++dvs) Q E hr I.env0 (hb s us I.kIn hl) r2 h) λr s' hq=>?_);cases r with
 |error e=>exact hx pins σ H s e s' I hq
 |ok fl=>
  cases fl with
  |ret u=>exact I.after hq
  |next=>exact False.elim hq
  |brk=>exact False.elim hq
  |cont=>exact False.elim hq
theorem Hi(F:FnOk X.prog X.w X.K X.mg X.base CX k f fd ps sp)(hr:Room k X.A)(hg:Gl X x)(hm:X.mg x=aA (.ref f))(hk:bc X.K (.ref f)=aC)(hb:Yz X.K fd ps ds)(hd:Ya dvs ds)(hx:Vh CX X E)
  (ha:PA X (e::es) t) (hdb:(x==("__debug__":Str))=aD:=by decide) (he:av (e::es) X.env=(aD,dk e X.env)::av es X.env:=by rfl) (hpl:(dj pos (av es X.env)).any (·.1)=aD:=by rfl):
  PE X (.Call (.Name x p) (e::es) [] pos) (Zc1 sp dvs E t):=by
 intro pins s σ H Q I h;refine wpAny_Call_Name_kw (Rx I hg hm ?_ hdb);refine PySem.W.callWith_K (h₀:=X.base) I.ok.mod.kin hk (Wl (ha pos pins s σ H _ I h) λus s1 ⟨vs,H1,I1,r,q⟩=>⟨I1.kIn,?_⟩) he hpl;exact Zmp F hr hb hd hx I1 r q
end
def PK(X:Cx)(kws:List Keyword)(t:TA):Prop:=
 ∀(pos:Pos) (pins:List (ak×Obj)) (s:ap) (σ:St) (H:Hp) (Q:List V->Hp->Prop),Inv X pins σ H s->t σ H Q->br (cg X.prog X.w) X.A (evalAll ((backToKw pos (keywordEach kws X.env)).map (·.2))) (AP X pins σ Q) X.xe s
structure FnScope(N P:List Str)(sc:Scope):Prop where
 kind:sc.kind= .function
 co:sc.isCoroutine=aD
 gen:sc.isGenerator=aD
 nd:N.Nodup
 pre:N.take P.length=P
 par:∀x∈P,sc.names.lookup x=aA .local\/sc.names.lookup x=aA .cell
 nofree:∀y∈sc.names,y.2≠.free
theorem Fb{kindOf:Str->Option NameKind}{x:Str}:∀{binds:List (Str×ag)} {m:Str->Option ag},(∀v,(x,v)∉binds)->bindL kindOf binds m x=m x
  | [],_,_=>rfl
  | (n,v)::r,m,h=>by
    unfold bindL;rw[Fb λw hw=>h w (aj _ hw)];split
    · have:x≠n:=by rintro rfl;exact h v af
      simp[this]
    · rfl
theorem Fc{kindOf:Str->Option NameKind}{x:Str}:∀{binds:List (Str×ag)} {m:Str->Option ag},(∀v,(x,v)∉binds)->bindC kindOf binds m x=m x
  | [],_,_=>rfl
  | (n,v)::r,m,h=>by
    unfold bindC;rw[Fc λw hw=>h w (aj _ hw)];split
    · rfl
    · have:x≠n:=by rintro rfl;exact h v af
      simp[this]
theorem Fd{kindOf:Str->Option NameKind}{x:Str}{v:ag}:∀{P:List Str} {vs:List ag} {i:Nat} {m:Str->Option ag},P.Nodup->P[i]? =aA x->vs[i]? =aA v->kindOf x=aA .local->
  bindL kindOf (P.zip vs) m x=aA v
 | [],_,_,_,_,h,_,_=>by simp at h
 |_::_,[],_,_,_,_,h,_=>by simp at h
 |p::P,w::vs,0,m,nd,h1,h2,hk=>by simp at h1 h2;subst h1;subst h2;show bindL kindOf ((p,w)::P.zip vs) m p=_;unfold bindL;rw[Fb λv hv=>(d5.mp nd).1 (List.of_mem_zip hv).1,if_pos hk];simp
 |p::P,w::vs,i+1,m,nd,h1,h2,hk=>by show bindL kindOf ((p,w)::P.zip vs) m x=_;unfold bindL;exact Fd (i:=i) (d5.mp nd).2 (by simpa using h1) (by simpa using h2) hk
theorem Fe{kindOf:Str->Option NameKind}{x:Str}{v:ag}:∀{P:List Str} {vs:List ag} {i:Nat} {m:Str->Option ag},P.Nodup->P[i]? =aA x->vs[i]? =aA v->kindOf x≠aA .local->
  bindC kindOf (P.zip vs) m x=aA v
 | [],_,_,_,_,h,_,_=>by simp at h
 |_::_,[],_,_,_,_,h,_=>by simp at h
 |p::P,w::vs,0,m,nd,h1,h2,hk=>by simp at h1 h2;subst h1;subst h2;show bindC kindOf ((p,w)::P.zip vs) m p=_;unfold bindC;rw[Fc λv hv=>(d5.mp nd).1 (List.of_mem_zip hv).1,if_neg hk];simp
 |p::P,w::vs,i+1,m,nd,h1,h2,hk=>by show bindC kindOf ((p,w)::P.zip vs) m x=_;unfold bindC;exact Fe (i:=i) (d5.mp nd).2 (by simpa using h1) (by simpa using h2) hk
def Qd(N:List Str)(vs:List V):St:=vs.map aA++List.replicate (N.length- vs.length) aB
def Gq(CX:CXT)(P:b5)(w:cw)(K:ad)(mg:Str->Option ag)(base:du)(N:List Str)(qual:Str)(scope:Scope)(f:ak)(cd:ag)(A:c8)(outer:List Env)(s:ap)(H:Hp)(E:XK):Cx where
 prog:=P
 w:=w
 K:=K
 mg:=mg
 base:=base
 A:=A.deeper (envOfC qual scope s.heap.objs.size f cd)
 N:=N
 s₀:=s
 H₀:=H
 env:=envOfC qual scope s.heap.objs.size f cd
 outer:=outer
 stack:=envOfC qual scope s.heap.objs.size f cd::outer
 ex:=[]
 calm:=aC
 fn:=λ_=>aC
 pn:=[]
 xe:=λe s'=>br (cg P w) (A.deeper (envOfC qual scope s.heap.objs.size f cd)) (leaving (envOfC qual scope s.heap.objs.size f cd) e) (λ_ s''=>CX outer H s E e s'') (λe' s''=>CX outer H s E e' s'') s'
theorem Nv{sc:Scope}{n:Nat}{x:Str}(h:sc.names.lookup x=aA .cell):∃c,(cellsFrom n sc.names []).lookup x=aA c:=by have q:=PySem.W.cellsFrom_some sc.names n [] (.inl h);exact Option.isSome_iff_exists.mp q
theorem Zax{CX:CXT}{P:b5}{w:cw}{K:ad}{mg:Str->Option ag}{base:du}{N ps:List Str}{qual:Str}{scope:Scope}{f:ak}{cd:ag}{A:c8}{outer:List Env}{s s1:ap}{H:Hp}{E:XK}{us:List ag}{vs:List V}
  (S:FnScope N ps scope) (hd:A.handled=aB) (e0:Env0 P w K mg base A outer s H) (hl:vs.length=ps.length) (r:Ya vs us)
  (x:InCallC s s.heap.objs.size (bindL (envOfC qual scope s.heap.objs.size f cd).kindOf (ps.zip us) λ_=>aB) (cellsFrom (s.heap.objs.size+1) scope.names []) (bindC (envOfC qual scope s.heap.objs.size f cd).kindOf (ps.zip us) λ_=>aB) s1):
  Inv (Gq CX P w K mg base N qual scope f cd A outer s H E) [] (Qd N vs) H s1:=by
 have hpl:ps.length<=N.length:=by have:=congrArg List.length S.pre;rw[List.length_take]at this;omega
 obtain⟨h1,tk,rfl,hk⟩:=x.done;have noA:∀b:ak,b∉(Gq CX P w K mg base N qual scope f cd A outer s H E).ex:=λb z=>absurd (show b∈([]:List ak)from z) (by simp);refine⟨⟨e0.mod,S.kind,rfl,rfl,bg _,λy z c h1 h2=>?_,λy hy=>?_,λy c _ h=>?_,λ_=>hd,Around.frames_deeper e0.frames,.inr ⟨rfl,rfl⟩,λb z=>absurd z (noA b),e0.bs,e0.bsz,λb _ _=>noA b,λb z=>absurd z (noA b),e0.funs,e0.frf⟩,
  rfl,e0.bare,Un.kept hk,⟨_,x.toInCall.ns,λi y v h1 h2 h3=>?_⟩,λy c h=>⟨_,x.cell y c h⟩,e0.hok.fresh (bg _),λy c h=>?_,λp hp=>absurd (show p∈([]:List (ak×Obj))from hp) (by simp),e0.hok.kept hk,?_⟩
 .exact name_of_addr x.apart (PySem.mem_of_lookup h1) (PySem.mem_of_lookup h2)
 .have hy:scope.names.lookup y=aA .cell\/scope.names.lookup y=aA .free:=hy;rcases hy with hy|hy
  .exact Nv hy
  .exact absurd rfl (S.nofree _ (PySem.mem_of_lookup hy))
 .exact Nat.le_of_lt (x.above y c (PySem.mem_of_lookup h))
 .have hi:i<vs.length:=by
   unfold Qd at h2;by_cases hi:i<vs.length
   .exact hi
   .rw[List.getElem?_append_right (by simpa using hi)]at h2;rw[List.getElem?_replicate]at h2;split at h2<;> cases h2
  have ha:vs[i]? =aA v:=by
   unfold Qd at h2;rw[List.getElem?_append_left (by simpa using hi),bn]at h2;cases e:vs[i]? with
   |none=>rw[e]at h2;cases h2
   |some a=>rw[e]at h2;cases h2;rfl
  obtain⟨u,hu,rv⟩:=r.get ha;have hp:ps[i]? =aA y:=by rw[<-S.pre,List.getElem?_take_of_lt (by omega)];exact h1
  have ndP:ps.Nodup:=by rw[<-S.pre];exact S.nd.sublist (List.take_sublist _ _)
  refine⟨u,rv,?_⟩;rcases S.par y (f7 hp)with k|k
  .exact .inl ⟨k,Fd ndP hp hu k⟩
  .obtain⟨c,e⟩:=Nv (n:=s.heap.objs.size+1) k;refine .inr ⟨.inl k,c,e,?_⟩;have q:=x.cell y c e;rw[Fe ndP hp hu (by show scope.names.lookup y≠_;rw[k];decide)]at q;exact q
 .exact e0.hok.fresh (Nat.le_of_lt (x.above y c (PySem.mem_of_lookup h)))
 .unfold Qd;show _=N.length;rw[aw,am,List.length_replicate];omega
theorem Zkq{CX:CXT}{P:b5}{w:cw}{K:ad}{mg:Str->Option ag}{base:du}{k:Nat}{f:ak}{name qual:Str}{params:Arguments}{body:List Stmt}{scope:Scope}{dV kV doc pm cdv ct oc:ag}{an od:Option ak}
  {osl:Array (Option ag)} {N ps:List Str} {sp:Sp} (lk:K.lookup f=aA ⟨oc,od,.func (PySem.W.fnOf name qual params body scope dV kV doc pm an cdv ct),osl⟩) (hcd:PySem.W.codeIn K cdv qual=aC) (S:FnScope N ps scope)
  (len:∀vs H Q E,sp vs H Q E->vs.length=ps.length)
  (hbody:∀(A:c8) (outer:List Env) (s:ap) (H:Hp) (vs:List V) (Q:VK) (E:XK),Room k (A.deeper (envOfC qual scope s.heap.objs.size f cdv))->sp vs H Q E->
   ∃t,Gp (Gq CX P w K mg base N qual scope f cdv A outer s H E) body t/\t {nx:=λ_ H'=>Q .non H',rt:=Q} (Qd N vs) H):
  FnOk P w K mg base CX (k+1) f (PySem.W.fnOf name qual params body scope dV kV doc pm an cdv ct) ps sp:=by
 refine⟨len,λA outer s H args us vs Q E hr e0 hb r hsp=>?_⟩;have hl:=len _ _ _ _ hsp;have KX:K.In s.heap:=e0.mod.kin.keeps λb o e=>(e0.bs b o e).1;have lim:s.heap.NoLimit:=e0.mod.nolimit.keeps λb o e=>(e0.bs b o e).1;have hkind:∀y∈ps.zip us,scope.names.lookup y.1=aA .local\/(scope.names.lookup y.1=aA .cell/\((cellsFrom (s.heap.objs.size+1) scope.names []).lookup y.1).isSome=aC):=λ⟨n,v⟩ hy=>by
  rcases S.par n (List.of_mem_zip hy).1 with q|q
  .exact .inl q
  .exact .inr ⟨q,PySem.W.cellsFrom_some _ _ _ (.inl q)⟩
 refine codeAny_call_function hr.depth (KX _ _ lk) rfl S.co S.gen rfl (PySem.W.codeRec_of KX hcd) (hb _ _ _ _ ?_);refine wpAny_newFunctionEnv_cells S.kind hkind λenv he s1 x=>?_;subst he;refine⟨lim.keeps x.toInCall.keep,codeAny_func ?_⟩;obtain⟨t,ht,hq⟩:=hbody A outer s H vs Q E (hr.deeper _) hsp;have I:Inv (Gq CX P w K mg base N qual scope f cdv A outer s H E) [] (Qd N vs) H s1:=Zax S hr.hd e0 hl r x;refine wpAny_mono (ht [] s1 (Qd N vs) H _ I hq) (λfl s' hs=>?_) λe s' hs=>hs;have fin:∀{σ':St} {H':Hp} {v:V} {u:ag},Inv (Gq CX P w K mg base N qual scope f cdv A outer s H E) [] σ' H' s'->Zz v u->Q v H'->CE outer P w H s Q u s':=
  fun{σ' H' v u} J rv q=>⟨v,H',J.os,J.bare,J.base,J.hok,rv,q⟩
 cases fl with
 |ret u=>obtain⟨v,σ',H',J,rv,q⟩:=hs;exact fin J rv q
 |next=>obtain⟨σ',H',J,q⟩:=hs;exact fin (v:=V.non) (u:=dw) J rfl q
 |brk=>obtain⟨_,_,_,q⟩:=hs;exact False.elim q
 |cont=>obtain⟨_,_,_,q⟩:=hs;exact False.elim q
section
variable{X:Cx}{x:Str}{p pos:Pos}{e:b7}{es:List b7}{t:TA}{id T:String}{r:List V->Hp->VK->Prop}
def tCB(r:List V->Hp->VK->Prop)(t:TA):TE:=λσ H Q=>t σ H λvs H1=>r vs H1 Q
theorem Nw(hc:Je X (.builtin id) r)(hg:Gl X x)(hm:X.mg x=aB)(hv:bootBuiltins x=aA (.builtin id))(ha:PA X (e::es) t)(hn:x≠"__name__":=by decide)(hdb:(x==("__debug__":Str))=aD:=by decide)
  (he:av (e::es) X.env=(aD,dk e X.env)::av es X.env:=by rfl) (hpl:(dj pos (av es X.env)).any (·.1)=aD:=by rfl):PE X (.Call (.Name x p) (e::es) [] pos) (tCB r t):=by
 intro pins s σ H Q I h;refine wpAny_Call_Name_kw (G8 I hg hm hv ?_ hn hdb);exact PyProof.Rows.callWith_builtin1 (Wl (ha pos pins s σ H _ I h) λus s1 ⟨vs,H1,I1,r1,q1⟩=>hc pins s1 σ H1 vs us Q I1 r1 q1) he hpl
theorem Zay(hc:Je X (.type T) r)(hg:Gl X x)(hm:X.mg x=aB)(hv:bootBuiltins x=aA (.type T))(ha:PA X (e::es) t)(hn:x≠"__name__":=by decide)(hdb:(x==("__debug__":Str))=aD:=by decide)
  (he:av (e::es) X.env=(aD,dk e X.env)::av es X.env:=by rfl) (hpl:(dj pos (av es X.env)).any (·.1)=aD:=by rfl):PE X (.Call (.Name x p) (e::es) [] pos) (tCB r t):=by
 intro pins s σ H Q I h;refine wpAny_Call_Name_kw (G8 I hg hm hv ?_ hn hdb);exact PyProof.Rows.callWith_type1 (Wl (ha pos pins s σ H _ I h) λus s1 ⟨vs,H1,I1,r1,q1⟩=>hc pins s1 σ H1 vs us Q I1 r1 q1) he hpl
end
end L2
namespace HT
open PySem PyProof.Rows
noncomputable def Ff:List Int->List Int->Bool
 | [],[]=>aD
 | [],_::_=>aC
 |_::_,[]=>aD
 |x::xs,y::ys=>if x=y then Ff xs ys else decide (x<y)
theorem Zmq(x y:Int)(xs ys:List Int):Ff (x::xs) (y::ys)=if x=y then Ff xs ys else decide (x<y):=rfl
theorem Zgu:Ff [] []=aD:=rfl
theorem Zc2(y:Int)(ys:List Int):Ff [] (y::ys)=aC:=rfl
theorem Zc3(x:Int)(xs:List Int):Ff (x::xs) []=aD:=rfl
section
variable{prog:b5}{w:cw}{A:c8}{E:ag->ap->Prop}{s:ap}
noncomputable def sIx(n d:Nat):Option Int->Nat
 |none=>d
 |some v=>if v<0 then(v+(n:Int)).toNat else min v.toNat n
theorem Zqc(n d:Nat):sIx n d aB=d:=rfl
theorem sIx_nat(n d k:Nat):sIx n d (aA (k:Int))=min k n:=by show(if(k:Int)<0 then((k:Int)+(n:Int)).toNat else min (k:Int).toNat n)=min k n;rw[if_neg (by omega),Int.toNat_natCast]
end
end HT
namespace L2
open PySem PySem.Spec PyProof.Rows
abbrev TO:=St->Hp->(Option Int->Hp->Prop)->Prop
def PO(X:Cx)(e:Option b7)(t:TO):Prop:=
 ∀(pins:List (ak×Obj)) (s:ap) (σ:St) (H:Hp) (Q:Option Int->Hp->Prop),Inv X pins σ H s->t σ H Q->
  br (cg X.prog X.w) X.A (evalPart e X.env) (λu s'=>∃o H',Inv X pins σ H' s'/\IsPart u o/\Q o H') X.xe s
def Hj:TO:=λ_ H Q=>Q aB H
def Zkr(t:TE):TO:=λσ H Q=>t σ H λx H1=>∃i,x= .int i/\Q (aA i) H1
section
variable{X:Cx}{e:b7}{te:TE}{lo hi:Option b7}{tl th:TO}{pos p2:Pos}
theorem Zhg:PO X aB Hj:=by intro pins s σ H Q I h;rw[evalPart_none];exact ao ⟨aB,H,I,.none,h⟩
theorem Zhh(h:PE X e te):PO X (aA e) (Zkr te):=by intro pins s σ H Q I hw;rw[evalPart_some];refine Wl (h pins s σ H _ I hw) λu s1 zq9=>?_;obtain⟨x,H1,I1,r1,q1⟩:=zq9;obtain⟨i,rfl,q⟩:=q1;obtain⟨t,rfl⟩:=r1;exact⟨aA i,H1,I1,.int i t,q⟩
def SlR(X:Cx)(r:V->Option Int->Option Int->Hp->VK->Prop):Prop:=
 ∀(pins:List (ak×Obj)) (s:ap) (σ:St) (H:Hp) (x:V) (v vl vu:ag) (lo hi:Option Int) (sl:ak) (Q:VK),Inv X pins σ H s->Zz x v->s.heap.IsSliceOf sl vl vu .none->IsPart vl lo->IsPart vu hi->r x lo hi H Q->
  ∃T id,typeLookup (.type T) "__getitem__"=pure (aA (.builtin id))/\s.TypeIs v T/\br (cg X.prog X.w) X.A (getItem v (.ref sl)) (EP X pins σ Q) X.xe s
theorem SlR.or{r r':V->Option Int->Option Int->Hp->VK->Prop}(h:SlR X r)(h':SlR X r'):SlR X (λx lo hi H Q=>r x lo hi H Q\/r' x lo hi H Q):=by
 intro pins s σ H x v vl vu lo hi sl Q I rx hs pl pu q;rcases q with q|q
 .exact h pins s σ H x v vl vu lo hi sl Q I rx hs pl pu q
 .exact h' pins s σ H x v vl vu lo hi sl Q I rx hs pl pu q
def tSl(r:V->Option Int->Option Int->Hp->VK->Prop)(te:TE)(tl th:TO):TE:=λσ H Q=>te σ H λx H1=>tl σ H1 λl H2=>th σ H2 λu H3=>r x l u H3 Q
theorem Zc4{r:V->Option Int->Option Int->Hp->VK->Prop}(hr:SlR X r)(he:PE X e te)(hl:PO X lo tl)(hu:PO X hi th):PE X (.Subscript e (.Slice lo hi aB p2) pos) (tSl r te tl th):=by intro pins s σ H Q I h;refine Subscript_ (Wl (he pins s σ H _ I h) λv s1 zq9=>?_);obtain⟨x,H1,I1,r1,q1⟩:=zq9;refine wpAny_Slice (Wl (hl pins s1 σ H1 _ I1 q1) λvl s2 ⟨l,H2,I2,pl,q2⟩=>Wl (hu pins s2 σ H2 _ I2 q2) λvu s3 zq9=>?_);obtain⟨u,H3,I3,pu,q3⟩:=zq9;rw[evalPart_none];refine ao ?_;have I4:Inv X pins σ H3 {s3 with heap:=s3.heap.push {cls:=.type "slice",data:=.fields #[vl,vu,.none]}}:=I3.kept (t':=s3.toks) λb ob q=>az _ q;obtain⟨T,id,hT,ht,hg⟩:=hr pins {s3 with heap:=s3.heap.push {cls:=.type "slice",data:=.fields #[vl,vu,.none]}} σ H3 x v vl vu l u s3.heap.objs.size Q I4 r1 (Heap.IsSliceOf.new ..) pl pu q3;show br (cg X.prog X.w) X.A (subscriptTail e (.Slice lo hi aB p2) v (.ref s3.heap.objs.size)) (EP X pins σ Q) X.xe {s3 with heap:=s3.heap.push {cls:=.type "slice",data:=.fields #[vl,vu,.none]}};exact tail_any (ops:=[.ref s3.heap.objs.size,v]) ht hT hg (by with_unfolding_all rfl)
def Zaz(xs:List V)(lo hi:Option Int):List V:=(xs.drop (HT.sIx xs.length 0 lo)).take (HT.sIx xs.length xs.length hi- HT.sIx xs.length 0 lo)
theorem Nx(xs:List V)(lo hi:Option Int):(Zaz xs lo hi).length<=xs.length:=by unfold Zaz;rw[List.length_take,List.length_drop];omega
end
noncomputable def ixN(n:Nat)(i:Int):Option Nat:=if 0<=i then(if i<n then aA i.toNat else aB)else if-(n:Int)<=i then aA (i+n).toNat else aB
def atI{α:Type}(xs:List α)(i:Int):Option α:=(ixN xs.length i).bind λj=>xs[j]?
theorem Zhi{n:Nat}{i:Int}{j:Nat}(h:ixN n i=aA j):seqIndex? i n=aA j/\j<n/\-(n:Int)<=i/\i<n:=by
 unfold ixN at h;by_cases h0:0<=i
 .rw[if_pos h0]at h;by_cases h1:i<n
  .rw[if_pos h1]at h;have e:i.toNat=j:=dz.inj h;exact⟨by rw[seqIndex_of h0 h1,e],by omega,by omega,h1⟩
  .rw[if_neg h1]at h;cases h
 .rw[if_neg h0]at h;by_cases h1:-(n:Int)<=i
  .rw[if_pos h1]at h;have e:(i+n).toNat=j:=dz.inj h;exact⟨by rw[seqIndex_neg (by omega) h1,e],by omega,h1,by omega⟩
  .rw[if_neg h1]at h;cases h
theorem K7{α:Type}{xs:List α}{i:Int}{v:α}(h:atI xs i=aA v):∃j,seqIndex? i xs.length=aA j/\xs[j]? =aA v/\j<xs.length/\-(xs.length:Int)<=i/\i<xs.length:=by
 unfold atI at h;cases e:ixN xs.length i with
 |none=>rw[e]at h;cases h
 |some j=>rw[e]at h;obtain⟨h1,h2,h3,h4⟩:=Zhi e;exact⟨j,h1,h,h2,h3,h4⟩
def Hk(b:b7):Prop:=∀o i,subscripted b aD o i=operate [o,i] (getItem o i)
def IxR(X:Cx)(r:R2):Prop:=
 ∀(value slice:b7) (pins:List (ak×Obj)) (s:ap) (σ:St) (H:Hp) (x y:V) (v u:ag) (Q:VK),Inv X pins σ H s->Zz x v->Zz y u->r x y H Q->
  subscripted slice aD v u=operate [v,u] (getItem v u)->br (cg X.prog X.w) X.A (subscriptTail value slice v u) (EP X pins σ Q) X.xe s
def MtR(X:Cx)(id:String)(r:V->List V->Hp->VK->Prop):Prop:=
 ∀(pins:List (ak×Obj)) (s:ap) (σ:St) (H:Hp) (x:V) (xs:List V) (v:ag) (us:List ag) (Q:VK),Inv X pins σ H s->Zz x v->Ya xs us->r x xs H Q->
  br (cg X.prog X.w) X.A (call (.builtin id) (v::us)) (EP X pins σ Q) X.xe s
section
variable{X:Cx}{a b:b7}{ta tb:TE}{pos:Pos}
theorem IxR.or{r r':R2}(h:IxR X r)(h':IxR X r'):IxR X (λx y H Q=>r x y H Q\/r' x y H Q):=by
 intro value slice pins s σ H x y v u Q I rx ry q hs;rcases q with q|q
 .exact h value slice pins s σ H x y v u Q I rx ry q hs
 .exact h' value slice pins s σ H x y v u Q I rx ry q hs
theorem Zqd{r:R2}(hr:IxR X r)(ha:PE X a ta)(hb:PE X b tb)(hs:Hk b):PE X (.Subscript a b pos) (tOp r ta tb):=by intro pins s σ H Q I h;exact Subscript_ (Zmh ha hb I h λv u s2 x y H2 I2 rx ry q=>hr a b pins s2 σ H2 x y v u Q I2 rx ry q (hs _ _))
def Zqe(K:ad):R2:=λx y H Q=>∃p xs i v,x= .ref p/\y= .int i/\Oa K H p xs/\atI xs i=aA v/\Q v H
def Zqf(K:ad):R2:=λx y H Q=>∃p xs i v,x= .ref p/\y= .int i/\G9 K H p xs/\atI xs i=aA v/\Q v H
def Zqg:R2:=λx y H Q=>∃z i c,x= .str z/\y= .int i/\z.length<=sizeLine/\atI z.cps.toList i=aA c/\Q (.str ⟨#[c]⟩) H
theorem Zhk:IxR X (Zqe X.K):=by
 intro value slice pins s σ H x y v u Q I rx ry h hs;obtain⟨p,xs,i,z,rfl,rfl,hq,he,q⟩:=h;cases rx;obtain⟨t,rfl⟩:=ry;obtain⟨its,r,pl,hz⟩:=I.list hq;obtain⟨j,h1,h2,h3,h4,h5⟩:=K7 he;obtain⟨w,ew,rw'⟩:=r.get h2;have hl:=r.length;have hn:=Au;have fin:EP X pins σ Q w s:=⟨z,H,I,rw',q⟩
 by_cases h0:0<=i
 .have hj:i.toNat=j:=by rw[seqIndex_of h0 h5]at h1;exact dz.inj h1
  exact item_listR pl.isList h0 (by omega) (by rw[hj];simpa using ew) fin hs
 .have hj:(i+(its.toArray.size:Int)).toNat=j:=by rw[seqIndex_neg (by omega) h4]at h1;rw[bu,<-hl];exact dz.inj h1
  exact subscriptTail_builtinR (x:=w) pl.isList.typeIs slot_list_getitem.lookup
   (wpAny_getItem_list_neg (Q:=λr s'=>r=w/\EP X pins σ Q r s') pl.isList (by omega) (by rw[bu]<;> omega) (by omega) (by rw[hj];simpa using ew) ⟨rfl,fin⟩) hs
theorem Zms:IxR X (Zqf X.K):=by
 intro value slice pins s σ H x y v u Q I rx ry h hs;obtain⟨p,xs,i,z,rfl,rfl,hq,he,q⟩:=h;cases rx;obtain⟨t,rfl⟩:=ry;obtain⟨its,r,pl,hz⟩:=I.tuple hq;obtain⟨j,h1,h2,h3,h4,h5⟩:=K7 he;obtain⟨w,ew,rw'⟩:=r.get h2;have hl:=r.length;have hn:=Au;have fin:EP X pins σ Q w s:=⟨z,H,I,rw',q⟩
 exact subscriptTail_builtinR (x:=w) pl.typeIs slot_tuple_getitem.lookup
  (getItem_tuple (j:=j) (Q:=λr s'=>r=w/\EP X pins σ Q r s') pl (by omega) (by omega) (by rw[bu,<-hl];exact h1) (by simpa using ew) ⟨rfl,fin⟩) hs
theorem Zmt:IxR X Zqg:=by
 intro value slice pins s σ H x y v u Q I rx ry h hs;obtain⟨z,i,c,rfl,rfl,hz,he,q⟩:=h;obtain⟨t,rfl⟩:=rx;obtain⟨t',rfl⟩:=ry;obtain⟨j,h1,h2,h3,h4,h5⟩:=K7 he;have hl:z.cps.toList.length=z.length:=by simp[Str.length]
 rw[hl]at h1 h4 h5;have hn:=Au;exact tail_any (typeIs_str s z t) slot_str_getitem.lookup (getItem_str (c:=c) (by
  have e1:decide (i< -(2^63:Int))=aD:=decide_eq_false (by omega);have e2:decide (i>=2^63)=aD:=decide_eq_false (by omega);rw[e1,e2,Bool.or_false]) (by rw[h1];simpa using h2) ⟨.str ⟨#[c]⟩,H,I.tok _,⟨_,rfl⟩,q⟩) hs
def rIx(K:ad):R2:=λx y H Q=>Zqe K x y H Q\/Zqf K x y H Q\/Zqg x y H Q
theorem Zmu:IxR X (rIx X.K):=Zhk.or (Zms.or Zmt)
theorem K8(lo hi:Option Int)(n:Nat):(sliceBounds lo hi aB n).1=((HT.sIx n 0 lo:Nat):Int)/\(sliceBounds lo hi aB n).2.1=((HT.sIx n n hi:Nat):Int)/\(sliceBounds lo hi aB n).2.2=1:=by
 refine⟨?_,?_,rfl⟩
 .cases lo with
  |none=>simp[sliceBounds,HT.sIx]
  |some i=>
   simp only[sliceBounds,HT.sIx,Option.getD_none,show(1:Int) > 0 by decide,if_true];by_cases h:i<0
   .simp only[h,if_true]<;> omega
   .simp only[h,if_false]<;> omega
 .cases hi with
  |none=>simp[sliceBounds,HT.sIx]
  |some i=>
   simp only[sliceBounds,HT.sIx,Option.getD_none,show(1:Int) > 0 by decide,if_true];by_cases h:i<0
   .simp only[h,if_true]<;> omega
   .simp only[h,if_false]<;> omega
theorem Ih(its:List ag)(lo hi:Option Int):slicePick its.toArray lo hi aB=((its.drop (HT.sIx its.length 0 lo)).take (HT.sIx its.length its.length hi- HT.sIx its.length 0 lo)).toArray:=by obtain⟨h1,h2,h3⟩:=K8 lo hi its.toArray.size;unfold slicePick;rw[h1,h2,h3];simp only[sliceRange_one,pick_run,bu]<;> rfl
def Zqh(K:ad):V->Option Int->Option Int->Hp->VK->Prop:=λx lo hi H Q=>∃a xs,x= .ref a/\Oa K H a xs/\∀p,H p=aB->Q (.ref p) (Y7 H p (.lst (Zaz xs lo hi)))
theorem Zhl:SlR X (Zqh X.K):=by intro pins s σ H x v vl vu lo hi sl Q I rx hs pl pu h;obtain⟨a,xs,rfl,hx,q⟩:=h;cases rx;obtain⟨its,r,ht,hz⟩:=I.list hx;have hlen:=r.length;refine⟨"list",_,slot_list_getitem.lookup,ht.isList.typeIs,?_⟩;refine wpAny_getItem_list_slice ht.isList hs pl pu .none (by simp) ?_ (by rw[bu]<;> omega);rw[Ih,<-hlen];refine⟨.ref s.heap.objs.size,_,I.laid (t':=s.toks) (o:=.lst (Zaz xs lo hi)) (λb ob q=>az _ q) (bg _) ?_,rfl,q _ (I.hok.fresh (bg _))⟩;exact⟨fj (Nx xs lo hi) hz,_,0,(r.drop (HT.sIx xs.length 0 lo)).take (HT.sIx xs.length xs.length hi- HT.sIx xs.length 0 lo),b3 _ rfl⟩
noncomputable def Y0:V->Bool
 | .non=>aC
 | .bl _=>aC
 | .int _=>aC
 | .str _=>aC
 |_=>aD
noncomputable def Vi:V->V->Bool
 | .non,.non=>aC
 | .bl a,.bl b=>a==b
 | .bl a,.int b=>(if a then 1 else 0)==b
 | .int a,.bl b=>a==(if b then 1 else 0)
 | .int a,.int b=>a==b
 | .str a,.str b=>a==b
 |_,_=>aD
theorem Vj{A:c8}{s:ap}{y x:V}{u v:ag}(ry:Zz y u)(rx:Zz x v)(fy:Y0 y=aC)(fx:Y0 x=aC):SeqAt.EqAt A s u v (Vi y x):=by
 cases y with
 |non=>
  cases ry;cases x with
  |non=>cases rx;exact SeqAt.EqAt.same _
  |bl b=>cases rx;exact SeqAt.EqAt.none_bool b
  |int b=>obtain⟨t,rfl⟩:=rx;exact SeqAt.EqAt.none_int b t
  |str b=>obtain⟨t,rfl⟩:=rx;exact SeqAt.EqAt.none_str b t
  |_=>exact absurd (show aD=aC from fx) ba
 |bl a=>
  cases ry;cases x with
  |non=>cases rx;exact SeqAt.EqAt.bool_none a
  |bl b=>cases rx;exact SeqAt.EqAt.bool_bool a b
  |int b=>obtain⟨t,rfl⟩:=rx;exact SeqAt.EqAt.bool_int a b t
  |str b=>obtain⟨t,rfl⟩:=rx;exact SeqAt.EqAt.bool_str a b t
  |_=>exact absurd (show aD=aC from fx) ba
 |int a=>
  obtain⟨t',rfl⟩:=ry;cases x with
  |non=>cases rx;exact SeqAt.EqAt.int_none a t'
  |bl b=>cases rx;exact SeqAt.EqAt.int_bool a t' b
  |int b=>obtain⟨t,rfl⟩:=rx;exact SeqAt.EqAt.int_int a t' b t
  |str b=>obtain⟨t,rfl⟩:=rx;exact SeqAt.EqAt.int_str a t' b t
  |_=>exact absurd (show aD=aC from fx) ba
 |str a=>
  obtain⟨t',rfl⟩:=ry;cases x with
  |non=>cases rx;exact SeqAt.EqAt.str_none a t'
  |bl b=>cases rx;exact SeqAt.EqAt.str_bool a t' b
  |int b=>obtain⟨t,rfl⟩:=rx;exact SeqAt.EqAt.str_int a t' b t
  |str b=>obtain⟨t,rfl⟩:=rx;exact SeqAt.EqAt.str_str a t' b t
  |_=>exact absurd (show aD=aC from fx) ba
 |_=>exact absurd (show aD=aC from fy) ba
def Vk(x:V)(u:ag):Bool:=match u with
 | .none=>Vi .non x
 | .bool b=>Vi (.bl b) x
 | .int i _=>Vi (.int i) x
 | .str z _=>Vi (.str z) x
 |_=>aD
theorem Zc5{x y:V}{u:ag}(r:Zz y u)(f:Y0 y=aC):Vk x u=Vi y x:=by
 cases y with
 |non=>cases r;rfl
 |bl b=>cases r;rfl
 |int i=>obtain⟨t,rfl⟩:=r;rfl
 |str z=>obtain⟨t,rfl⟩:=r;rfl
 |_=>exact absurd (show aD=aC from f) ba
theorem Ry{x:V}:∀{xs:List V} {us:List ag},Ya xs us->xs.all Y0=aC->us.any (Vk x)=xs.any λy=>Vi y x
 |_,_,.nil,_=>rfl
 |y::xs,u::us,.cons r t,f=>by rw[List.all_cons,Bool.and_eq_true]at f;rw[List.any_cons,List.any_cons,Zc5 r f.1,Ry t f.2]
theorem Cm{A:c8}{s:ap}{x:V}{v:ag}(rx:Zz x v)(fx:Y0 x=aC):∀{xs:List V} {us:List ag},Ya xs us->xs.all Y0=aC->∀u∈us,SeqAt.EqAt A s u v (Vk x u)
 |_,_,.nil,_=>λu hu=>by cases hu
 |y::xs,u::us,.cons r t,f=>λu' hu=>by
  rw[List.all_cons,Bool.and_eq_true]at f;rcases bo.mp hu with rfl|hu
  .rw[Zc5 r f.1];exact Vj r rx f.1 fx
  .exact Cm rx fx t f.2 u' hu
def inV(x:V)(xs:List V):Bool:=xs.any λy=>Vi y x
def rIn(K:ad)(neg:Bool):R2:=λx y H Q=>∃p xs,y= .ref p/\(Oa K H p xs\/G9 K H p xs)/\Y0 x=aC/\xs.all Y0=aC/\Q (.bl (if neg then !inV x xs else inV x xs)) H
theorem Fg:U5 X (df .In) (rIn X.K aD):=by
 intro pins s σ H x y v u Q I rx ry h;obtain⟨p,xs,rfl,hq,fx,fs,q⟩:=h;cases ry;rcases hq with hq|hq
 .obtain⟨its,r,pl,hz⟩:=I.list hq;refine SeqAt.in_listAt (Vk x) pl.isList (λw hw=>Cm rx fx r fs w (by simpa using hw)) ⟨.bl _,H,I,rfl,?_⟩;rw[show its.toArray.any (Vk x)=its.any (Vk x) by simp,Ry r fs];exact q
 .obtain⟨its,r,pl,hz⟩:=I.tuple hq;refine SeqAt.in_tupleAt (Vk x) pl (λw hw=>Cm rx fx r fs w (by simpa using hw)) ⟨.bl _,H,I,rfl,?_⟩;rw[show its.toArray.any (Vk x)=its.any (Vk x) by simp,Ry r fs];exact q
theorem Rz:U5 X (df .NotIn) (rIn X.K aC):=by
 intro pins s σ H x y v u Q I rx ry h;obtain⟨p,xs,rfl,hq,fx,fs,q⟩:=h;cases ry;rcases hq with hq|hq
 .obtain⟨its,r,pl,hz⟩:=I.list hq;refine SeqAt.notIn_listAt (Vk x) pl.isList (λw hw=>Cm rx fx r fs w (by simpa using hw)) ⟨.bl _,H,I,rfl,?_⟩;rw[show its.toArray.any (Vk x)=its.any (Vk x) by simp,Ry r fs];exact q
 .obtain⟨its,r,pl,hz⟩:=I.tuple hq;refine SeqAt.notIn_tupleAt (Vk x) pl (λw hw=>Cm rx fx r fs w (by simpa using hw)) ⟨.bl _,H,I,rfl,?_⟩;rw[show its.toArray.any (Vk x)=its.any (Vk x) by simp,Ry r fs];exact q
theorem R0:U5 X (df .NotIn) (λx y H Q=>∃i j,x= .str i/\y= .str j/\Q (.bl (!(!(ci j i 0 j.length 1).isEmpty))) H):=by intro pins s σ H x y v u Q I rx ry h;obtain⟨i,j,rfl,rfl,q⟩:=h;obtain⟨t,rfl⟩:=rx;obtain⟨t',rfl⟩:=ry;exact notIn_str ⟨.bl _,H,I,rfl,q⟩
theorem K9:Je X (.builtin "len") (λxs H Q=>∃p ys,xs=[.ref p]/\(Oa X.K H p ys\/G9 X.K H p ys)/\Q (.int ys.length) H):=by
 intro pins s σ H xs us Q I r h;obtain⟨p,ys,rfl,hq,q⟩:=h;obtain⟨u,rfl,rx⟩:=Jw r;cases rx;have hn:=Au;rcases hq with hq|hq
 .obtain⟨its,r',pl,hz⟩:=I.list hq;have hlen:=r'.length;exact Calls.call_len_list pl.isList (by simp only[bu]<;> omega) ⟨.int ys.length,H,I.tok _,⟨s.toks+1,by rw[bu,hlen]⟩,q⟩
 .obtain⟨its,r',pl,hz⟩:=I.tuple hq;have hlen:=r'.length;exact len_tuple pl (by simp only[bu]<;> omega) ⟨.int ys.length,H,I.tok _,⟨s.toks+1,by rw[bu,hlen]⟩,q⟩
theorem La:Je X (.builtin "len") (λxs H Q=>∃z,xs=[.str z]/\z.length<=sizeLine/\Q (.int z.length) H):=by intro pins s σ H xs us Q I r h;obtain⟨z,rfl,hz,q⟩:=h;obtain⟨u,rfl,t,rfl⟩:=Jw r;have hn:=Au;exact len_str (by omega) ⟨.int z.length,H,I.tok _,⟨_,rfl⟩,q⟩
theorem Je.or{f:ag}{r r':List V->Hp->VK->Prop}(h:Je X f r)(h':Je X f r'):Je X f (λxs H Q=>r xs H Q\/r' xs H Q):=by
 intro pins s σ H xs us Q I rs q;rcases q with q|q
 .exact h pins s σ H xs us Q I rs q
 .exact h' pins s σ H xs us Q I rs q
theorem Lb:Je X (.type "list") (λxs H Q=>∃p ys,xs=[.ref p]/\(Oa X.K H p ys\/G9 X.K H p ys)/\∀l,H l=aB->Q (.ref l) (Y7 H l (.lst ys))):=by
 intro pins s σ H xs us Q I r h;obtain⟨p,ys,rfl,hq,q⟩:=h;obtain⟨u,rfl,rx⟩:=Jw r;cases rx;have fin:∀(its:List ag),Ya ys its->ys.length<=sizeLine->∀(h':du) (c':Nat),(∀b o',s.heap.get? b=aA o'->h'.get? b=aA o')->
   h'.get? s.heap.objs.size=aA {cls:=.type "list",dict:=aB,data:=.seq its.toArray c',slots:= #[]}->EP X pins σ Q (.ref s.heap.objs.size) {s with heap:=h'}:=λits r' hz h' c' kp e=>
  ⟨.ref s.heap.objs.size,_,I.laid (t':=s.toks) kp (bg _) (show Yu X.prog X.w _ h' _ (.lst ys)from⟨hz,its,c',r',e⟩),rfl,q _ (I.hok.fresh (bg _))⟩
 rcases hq with hq|hq
 .obtain⟨its,r',pl,hz⟩:=I.list hq;have hlen:=r'.length;obtain⟨o,ho,hc,n,hd⟩:=pl.isList;exact call_list_seq p (.inl rfl) ho hc hd (λh' c' kp e=>fin its r' hz h' c' kp e) (by simp only[bu]<;> omega)
 .obtain⟨its,r',pl,hz⟩:=I.tuple hq;have hlen:=r'.length;obtain⟨o,ho,hc,n,hd⟩:=pl;exact call_list_seq p (.inr rfl) ho hc hd (λh' c' kp e=>fin its r' hz h' c' kp e) (by simp only[bu]<;> omega)
theorem Ii:Je X (.type "tuple") (λxs H Q=>∃p ys,xs=[.ref p]/\((Oa X.K H p ys/\∀l,H l=aB->Q (.ref l) (Y7 H l (.tup ys)))\/(G9 X.K H p ys/\Q (.ref p) H))):=by
 intro pins s σ H xs us Q I r h;obtain⟨p,ys,rfl,h⟩:=h;obtain⟨u,rfl,rx⟩:=Jw r;cases rx;rcases h with⟨hq,q⟩|⟨hq,q⟩
 .obtain⟨its,r',pl,hz⟩:=I.list hq;have hlen:=r'.length;refine call_tuple_list pl.isList (λh' kp=>?_) (by simp only[bu]<;> omega);have I1:Inv X pins σ H {s with heap:=h'}:=I.kept (t':=s.toks) kp;have I2:Inv X pins σ (Y7 H h'.objs.size (.tup ys)) {s with heap:=h'.push {cls:=.type "tuple",data:=.seq its.toArray}}:=
   I1.laid (t':=s.toks) (λb o e=>az _ e) (bg _) (show Yu X.prog X.w _ _ _ (.tup ys)from⟨hz,its,r',IsTup.new _ _⟩)
  exact⟨.ref h'.objs.size,_,I2,rfl,q _ (I1.hok.fresh (bg _))⟩
 .obtain⟨its,r',pl,hz⟩:=I.tuple hq;exact call_tuple_same pl ⟨.ref p,H,I,rfl,q⟩
def tyV(K:ad)(T:String)(x:V)(H:Hp):Prop:=match x with
 | .str _=>T="str"
 | .int _=>T="int"
 | .ref p=>(T="list"/\∃xs,Oa K H p xs)\/(T="tuple"/\∃o,K.lookup p=aA o/\o.cls= .type "tuple"/\o.dict=aB)\/
   (T="dict"/\((∃kvs,HK H p kvs)\/∃kvs,HTt H p kvs))\/(T="set"/\∃S n,H p=aA (.set S n))
 |_=>False
theorem Zmv{pins:List (ak×Obj)}{σ:St}{H:Hp}{s:ap}{T:String}{x:V}{v:ag}(I:Inv X pins σ H s)(r:Zz x v)(ty:tyV X.K T x H):
  s.TypeIs v T/\∀a,v= .ref a->∃ob,s.heap.get? a=aA ob/\ob.dict=aB:=by
 cases x with
 |str z=>obtain⟨t,rfl⟩:=r;cases(show T="str"from ty);exact⟨typeIs_str s z t,λ_ e=>nomatch e⟩
 |int i=>obtain⟨t,rfl⟩:=r;cases(show T="int"from ty);exact⟨typeIs_int s i t,λ_ e=>nomatch e⟩
 |ref p=>
  cases r;rcases ty with⟨rfl,xs,hq⟩|⟨rfl,o,hk,hc,hd⟩|⟨rfl,hk⟩|⟨rfl,S,n,hk⟩
  .obtain⟨its,_,pl,_⟩:=I.list hq;refine⟨pl.isList.typeIs,λa e=>?_⟩;cases e;obtain⟨o,n,e,c,hd,_⟩:=pl;exact⟨o,e,hd⟩
  .refine⟨⟨o,I.kIn p o hk,hc⟩,λa e=>?_⟩;cases e;exact⟨o,I.kIn _ o hk,hd⟩
  .have z:∃o,s.heap.get? p=aA o/\o.ExactDict:=by
    rcases hk with⟨kvs,ep,hk⟩|⟨kvs,ep,bs,hk⟩
    .obtain⟨_,_,_,_,o,_,e,ex,_⟩:=I.hok p _ hk;exact⟨o,e,ex⟩
    .obtain⟨_,_,_,_,o,_,e,ex,_⟩:=I.hok p _ hk;exact⟨o,e,ex⟩
   obtain⟨o,e,ex⟩:=z;refine⟨⟨o,e,ex.1⟩,λa e2=>?_⟩;cases e2;exact⟨o,e,ex.2.1⟩
  .obtain⟨o,_,_,_,e,ex,_⟩:=I.hok p _ hk;refine⟨⟨o,e,ex.1⟩,λa e2=>?_⟩;cases e2;exact⟨o,e,ex.2.1⟩
 |_=>exact False.elim ty
def tBM(K:ad)(T:String)(r:V->List V->Hp->VK->Prop)(to:TE)(t:TA):TE:=λσ H Q=>to σ H λx H1=>tyV K T x H1/\t σ H1 λxs H2=>r x xs H2 Q
variable{o e:b7}{es:List b7}{to:TE}{t:TA}{name:Str}{apos cpos:Pos}{T id:String}{r:V->List V->Hp->VK->Prop}
theorem R1(pa:PlainAttrs T)(slot:Slot T name id)(hty:typeOf (.builtin id)=pure (.type "method_descriptor"))(hm:MtR X id r)(ho:PE X o to)(ha:PA X (e::es) t)
  (hbase:attributeBase o name X.env (dk o X.env)=dk o X.env:=by rfl)
  (hfew:((dj cpos (av (e::es) X.env)).all (λx=>!x.1)&&(backToKw cpos (keywordEach [] X.env)).all (λx=>x.1.isSome)
   &&decide ((e::es).length+([]:List Keyword).length+(if([]:List Keyword).isEmpty then 0 else 1)<30))=aC:=by rfl)
  (hline:(apos.endLine==cpos.line)=aC:=by rfl) (hs:av (e::es) X.env=(aD,dk e X.env)::av es X.env:=by rfl) (hplain:(dj cpos (av es X.env)).any (·.1)=aD:=by rfl):
  PE X (.Call (.Attribute o name apos) (e::es) [] cpos) (tBM X.K T r to t):=by
 intro pins s σ H Q I h;refine wpAny_Call_method_late hbase hfew hline rfl (Wl (ho pins s σ H _ I h) λv s1 zq9=>?_);obtain⟨x,H1,I1,r1,ty,q1⟩:=zq9;obtain⟨h1,h2⟩:=Zmv I1 r1 ty;refine⟨T,id,pa,slot,hty,h1,h2,?_⟩;have hA:=ha cpos pins s1 σ H1 _ I1 q1;rw[hs]at hA⊢;refine Calls.callWith_builtin (by show(aD|| (dj cpos (av es X.env)).any (·.1))=aD;rw[hplain]<;> rfl) (Calls.evalArgs_plain ?_);exact Wl hA λus s2 ⟨vs,H2,I2,r2,q2⟩=>hm pins s2 σ H2 x vs v us Q I2 r1 r2 q2
end
def MtM(X:Cx)(id:String)(r:V->List V->Hp->VK->Prop):Prop:=
 ∀(pins:List (ak×Obj)) (s:ap) (σ:St) (H:Hp) (x:V) (xs:List V) (v:ag) (us:List ag) (Q:VK),Inv X pins σ H s->Zz x v->Ya xs us->r x xs H Q->
  br (cg X.prog X.w) X.A (call (.builtin id) (v::us)) (EP X pins σ Q) X.xe s
theorem Ya.one{x:V}{us:List ag}(h:Ya [x] us):∃u,us=[u]/\Zz x u:=by
 cases h with
 |cons r t=>cases t;exact⟨_,rfl,r⟩
section
variable{X:Cx}{pins:List (ak×Obj)}{σ:St}{H:Hp}{s:ap}{l b:ak}{xs ys zs:List V}
theorem Inv.lset{its its':List ag}{n:Nat}{f:Array ag->Array ag}{t':Nat}(I:Inv X pins σ H s)(hH:H l=aA (.lst xs))
  (e:s.heap.get? l=aA {cls:=.type "list",data:=.seq its.toArray n}) (hf:f its.toArray=its'.toArray) (hv:Ya ys its') (hz:ys.length<=sizeLine):
  Inv X pins σ (Y7 H l (.lst ys)) {s with heap:=s.heap.update l (Obj.mapSeq f),toks:=t'}:=by
 have q:=PySem.IsL.update e f;rw[hf]at q;refine I.write (x:=l) (e:=l) (by rw[hH];exact trivial) (.inl rfl) (λb' u hb hu=>(Heap.get?_update_other s.heap (Obj.mapSeq f) (Ne.symm hb)).trans hu) ⟨_,q⟩ ?_;exact⟨hz,its',_,hv,q⟩
theorem Inv.lnew{its:List ag}{t':Nat}(I:Inv X pins σ H s)(hv:Ya ys its)(hz:ys.length<=sizeLine):
  Inv X pins σ (Y7 H s.heap.objs.size (.lst ys)) {s with heap:=s.heap.push {cls:=.type "list",data:=.seq its.toArray},toks:=t'}:=
 I.laid (λ_ _ q=>az _ q) (bg _) ⟨hz,its,0,hv,b3 _ rfl⟩
theorem Inv.fresh(I:Inv X pins σ H s):H s.heap.objs.size=aB:=I.hok.fresh (bg _)
theorem Inv.lstM(I:Inv X pins σ H s)(hH:H l=aA (.lst xs)):xs.length<=sizeLine/\∃(its:List ag) (n:Nat),Ya xs its/\xs.length=its.length/\s.heap.get? l=aA {cls:=.type "list",data:=.seq its.toArray n}:=by obtain⟨z,its,n,r,e⟩:=I.hok l _ hH;exact⟨z,its,n,r,r.length,e⟩
theorem Ny{n:Nat}(h:n<=sizeLine):Builtin.List.listTooLong n=aD:=by unfold Builtin.List.listTooLong;exact decide_eq_false (by omega)
end
section
variable{X:Cx}
def C9:V->List V->Hp->VK->Prop:=λx vs H Q=>∃l xs y,x= .ref l/\vs=[y]/\H l=aA (.lst xs)/\xs.length<sizeLine/\Q .non (Y7 H l (.lst (xs++[y])))
theorem Ga:MtM X "list.append" C9:=by intro pins s σ H x vs v us Q I rx rv h;obtain⟨l,xs,y,rfl,rfl,hH,hz,q⟩:=h;cases rx;obtain⟨u,rfl,ru⟩:=rv.one;obtain⟨z,its,n,r,hl,e⟩:=I.lstM hH;refine call_meets F.slot_list_append ⟨_,e,rfl⟩ F.entry_list_append (F.args_list_append_2 _ _) (PySem.list_append l its.toArray n u (by rw[bu];omega)) ⟨e,?_⟩;refine⟨.non,_,I.lset (its':=its++[u]) hH e (by simp) (r.append (.cons ru .nil)) ?_,rfl,q⟩;rw[aw,c6];omega
def Hl:V->List V->Hp->VK->Prop:=λx vs H Q=>∃l b xs zs,x= .ref l/\vs=[.ref b]/\H l=aA (.lst xs)/\H b=aA (.lst zs)/\xs.length+zs.length<=sizeLine/\Q .non (Y7 H l (.lst (xs++zs)))
theorem Za0:MtM X "list.extend" Hl:=by
 intro pins s σ H x vs v us Q I rx rv h;obtain⟨l,b,xs,zs,rfl,rfl,hH,hB,hz,q⟩:=h;cases rx;obtain⟨u,rfl,ru⟩:=rv.one;cases ru;obtain⟨z,its,n,r,hl,e⟩:=I.lstM hH;obtain⟨z2,its2,n2,r2,hl2,e2⟩:=I.lstM hB;have hsz:its.toArray.size+its2.toArray.size<=sizeLine:=by rw[bu,bu];omega
 have hlong:¬(!its.toArray.isEmpty&&Builtin.List.listTooLong (its.toArray.size+its2.toArray.size))=aC:=by rw[Ny hsz,Bool.and_false];exact ba
 refine call_meets F.slot_list_extend ⟨_,e,rfl⟩ F.entry_list_extend (F.args_list_extend_2 _ _)
  (AutoSeq1.list_extend_list_list_0 l its.toArray n b its2.toArray n2 hlong (by rw[bu];omega) (by omega)) ⟨e,e2,?_⟩
 refine⟨.non,_,I.lset (its':=its++its2) hH e (by simp) (r.append r2) ?_,rfl,q⟩;rw[aw];omega
end
section
variable{κ:Type}[DecidableEq κ]
noncomputable def Jx(kvs:List (κ×V))(k:κ):Option V:=(kvs.find? λkv=>decide (kv.1=k)).map (·.2)
noncomputable def Qa(kvs:List (κ×V))(k:κ)(v:V):List (κ×V):=
 if(kvs.any λkv=>decide (kv.1=k))=aC then kvs.map (λkv=>if kv.1=k then(kv.1,v)else kv)else kvs++[(k,v)]
theorem Zc6{k:κ}:Jx ([]:List (κ×V)) k=aB:=rfl
theorem Cn{p:κ×V}{r:List (κ×V)}{k:κ}(e:p.1=k):Jx (p::r) k=aA p.2:=by simp[Jx,List.find?_cons,e]
theorem O3{p:κ×V}{r:List (κ×V)}{k:κ}(e:¬p.1=k):Jx (p::r) k=Jx r k:=by simp[Jx,List.find?_cons,e]
theorem R3(k:κ):∀kvs:List (κ×V),(kvs.any λkv=>decide (kv.1=k))=(Jx kvs k).isSome
 | []=>rfl
 |p::r=>by
  rw[List.any_cons];by_cases e:p.1=k
  .simp only[Cn e,decide_eq_true e,Bool.true_or,Option.isSome_some]
  .rw[O3 e,decide_eq_false e,Bool.false_or];exact R3 k r
theorem Ob(kvs:List (κ×V))(k:κ)(v:V):(Qa kvs k v).length<=kvs.length+1:=by
 unfold Qa;split
 .rw[am];omega
 .rw[aw,bd,List.length_nil];omega
theorem Aa.isSome_eq{o:Option V}{u:Option ag}(r:Aa o u):o.isSome=u.isSome:=by
 cases o with
 |none=>cases u with
  |none=>rfl
  |some _=>exact(show False from r).elim
 |some _=>cases u with
  |none=>exact(show False from r).elim
  |some _=>rfl
theorem Aa.getD{o:Option V}{u:Option ag}{d:V}{d':ag}(r:Aa o u)(rd:Zz d d'):Zz (o.getD d) (u.getD d'):=by
 cases o with
 |none=>cases u with
  |none=>exact rd
  |some _=>exact(show False from r).elim
 |some _=>cases u with
  |none=>exact(show False from r).elim
  |some _=>exact r
theorem KV.val{kvs:List (κ×V)}{vs:List (κ×ag)}(r:KV kvs vs)(k:κ):Aa (Jx kvs k) (valueAt vs k):=by
 unfold KV at r;induction r with
 |nil=>exact True.intro
 | @cons p q ps qs h t ih=>
  obtain⟨h1,h2⟩:=h;by_cases e:p.1=k
  .have e':q.1=k:=h1.symm.trans e;have b:valueAt (q::qs) k=aA q.2:=by simp[valueAt,List.find?_cons,e']
   rw[Cn e,b];exact h2
  .have e':¬q.1=k:=λz=>e (h1.trans z);have b:valueAt (q::qs) k=valueAt qs k:=by simp[valueAt,List.find?_cons,e']
   rw[O3 e,b];exact ih
theorem KV.any{kvs:List (κ×V)}{vs:List (κ×ag)}(r:KV kvs vs)(k:κ):(kvs.any λkv=>decide (kv.1=k))=vs.any λkv=>decide (kv.1=k):=by
 unfold KV at r;induction r with
 |nil=>rfl
 |cons h t ih=>rw[List.any_cons,List.any_cons,ih,h.1]
theorem KV.repl{kvs:List (κ×V)}{vs:List (κ×ag)}(r:KV kvs vs)(k:κ){y:V}{u:ag}(ry:Zz y u):
  KV (kvs.map λkv=>if kv.1=k then(kv.1,y)else kv) (vs.map λkv=>if kv.1=k then(kv.1,u)else kv):=by
 unfold KV at r⊢;induction r with
 |nil=>exact .nil
 | @cons p q ps qs h t ih=>
  rw[ay,ay];refine .cons ?_ ih;obtain⟨h1,h2⟩:=h;by_cases e:p.1=k
  .rw[if_pos e,if_pos (h1.symm.trans e)];exact⟨h1,ry⟩
  .rw[if_neg e,if_neg (λz=>e (h1.trans z))];exact⟨h1,h2⟩
theorem KV.put{kvs:List (κ×V)}{vs:List (κ×ag)}(r:KV kvs vs)(k:κ){y:V}{u:ag}(ry:Zz y u):KV (Qa kvs k y) (stored vs k u):=by
 unfold Qa stored;rw[r.any k];by_cases e:(vs.any λkv=>decide (kv.1=k))=aC
 .rw[if_pos e,if_pos e];exact r.repl k ry
 .rw[if_neg e,if_neg e];exact Paired.snoc r ⟨rfl,ry⟩
theorem KV.length{kvs:List (κ×V)}{vs:List (κ×ag)}(r:KV kvs vs):kvs.length=vs.length:=Paired.length r
end
theorem R4{P:b5}{w:cw}{k:Key}{u:ag}(r:Zz (kV k) u):(Zs P w).is k u=aC:=by
 cases k with
 |inl i=>obtain⟨t,e⟩:=(show∃t,u=Value.int i t from r);subst e;exact Nn P w i t
 |inr x=>obtain⟨t,e⟩:=(show∃t,u=Value.str x t from r);subst e;exact Np P w x t
theorem Fh{P:b5}{w:cw}:∀{ks:List Key} {us:List ag},Ya (ks.map kV) us->ItemsAre (Zs P w) ks us
 | [],_,r=>by rw[List.map_nil]at r;cases r;exact .nil
 |k::ks,_,r=>by
  rw[ay]at r;cases r with
  |cons h t=>exact .cons (R4 h) (Fh t)
abbrev KT(H:Hp):List (List Key×V)->List (List Key×ak×ag)->Prop:=Paired λp q=>p.1=q.1/\H q.2.1=aA (.tup (p.1.map kV))/\Zz p.2 q.2.2
theorem KT.val{H:Hp}{kvs:List (List Key×V)}{xs:List (List Key×ak×ag)}(r:KT H kvs xs)(k:List Key):Aa (Jx kvs k) ((atKey xs k).map (·.2)):=by
 induction r with
 |nil=>exact True.intro
 | @cons p q ps qs h t ih=>
  obtain⟨h1,_,h2⟩:=h;by_cases e:p.1=k
  .have e':q.1=k:=h1.symm.trans e;have b:atKey (q::qs) k=aA q.2:=by simp[atKey,List.find?_cons,e']
   rw[Cn e,b];exact h2
  .have e':¬q.1=k:=λz=>e (h1.trans z);have b:atKey (q::qs) k=atKey qs k:=by simp[atKey,List.find?_cons,e']
   rw[O3 e,b];exact ih
theorem KT.repl{H:Hp}{kvs:List (List Key×V)}{xs:List (List Key×ak×ag)}(r:KT H kvs xs)(k:List Key){y:V}{u:ag}(ry:Zz y u):
  KT H (kvs.map λkv=>if kv.1=k then(kv.1,y)else kv) (xs.map (putAt k u)):=by
 induction r with
 |nil=>exact .nil
 | @cons p q ps qs h t ih=>
  rw[ay,ay];refine .cons ?_ ih;obtain⟨h1,h2,h3⟩:=h;unfold putAt;by_cases e:p.1=k
  .rw[if_pos e,if_pos (h1.symm.trans e)];exact⟨h1,h2,ry⟩
  .rw[if_neg e,if_neg (λz=>e (h1.trans z))];exact⟨h1,h2,h3⟩
theorem KT.put{H:Hp}{kvs:List (List Key×V)}{xs:List (List Key×ak×ag)}(r:KT H kvs xs)(k:List Key){b:ak}{y:V}{u:ag}(hb:H b=aA (.tup (k.map kV)))(ry:Zz y u):
  KT H (Qa kvs k y) (storedH xs k b u):=by
 have e:(kvs.any λkv=>decide (kv.1=k))=(atKey xs k).isSome:=by rw[R3,(r.val k).isSome_eq,Option.isSome_map]
 unfold Qa storedH;rw[e];by_cases q:(atKey xs k).isSome=aC
 .rw[if_pos q,if_pos q];exact r.repl k ry
 .rw[if_neg q,if_neg q];exact Paired.snoc r ⟨rfl,hb,ry⟩
theorem KT.keeps{H H':Hp}{kvs:List (List Key×V)}{xs:List (List Key×ak×ag)}(r:KT H kvs xs)(ht:∀b ys,H b=aA (.tup ys)->H' b=aA (.tup ys)):KT H' kvs xs:=
 Paired.mapP r λ_ _ z=>⟨z.1,ht _ _ z.2.1,z.2.2⟩
section
variable{P:b5}{w:cw}{H:Hp}{h:du}{a:ak}
theorem Zc7{u:HO}(ok:Ck P w H h)(e:Rd H a u):Yu P w H h a u:=e.ok ok
theorem Co{kvs:List (Key×V)}(ok:Ck P w H h)(e:RdK H a kvs):kvs.length<=sizeLine/\(a==d3)=aD/\∃vs,KV kvs vs/\h.DictOf (Zs P w) a vs:=
 let⟨ep,e⟩:=e;let⟨z,y,vs,r,d⟩:=(show Yu P w H h a (.dK kvs ep)from Zc7 ok e);⟨z,y,vs,r,d.dictOf⟩
theorem Hm{kvs:List (Key×V)}(ok:Ck P w H h)(e:HK H a kvs):kvs.length<=sizeLine/\(a==d3)=aD/\∃vs,KV kvs vs/\h.DictOf (Zs P w) a vs:=Co ok e.rd
theorem Rb{ks:List Key}(ok:Ck P w H h)(e:H a=aA (.tup (ks.map kV))):(tupleKind (Zs P w)).is h ks a:=by
 obtain⟨_,its,r,o,h1,h2,n,h3⟩:=(show Yu P w H h a (.tup (ks.map kV))from ok a _ e)
 exact⟨o,its.toArray,n,h1,h2,h3,by simpa using Fh r⟩
theorem Tw{kvs:List (List Key×V)}(ok:Ck P w H h)(e:RdT H a kvs):kvs.length<=sizeLine/\(a==d3)=aD/\
  ∃xs,KT H kvs xs/\h.DictOfH (tupleKind (Zs P w)) a xs:=by
 obtain⟨ep,bs,e⟩:=e;obtain⟨z,y,xs,r,o,es,h1,h2,h3,h4,h5,_⟩:=(show Yu P w H h a (.dT kvs ep bs)from Zc7 ok e)
 refine⟨z,y,xs,r,o,es,ep,h1,h2,h3,h4,λx hx=>?_,h5⟩;have all:∀{l:List (List Key×V)} {m:List (List Key×ak×ag)},KT H l m->∀x∈m,(tupleKind (Zs P w)).is h x.1 x.2.1:=by
  intro l m q;induction q with
  |nil=>intro x hx;exact nomatch hx
  | @cons p q ps qs hq t ih=>
   intro x hx;rcases bo.mp hx with e|hx
   .subst e;exact Rb ok (by rw[<-hq.1];exact hq.2.1)
   .exact ih x hx
 exact all r x hx
theorem Zqi{kvs:List (List Key×V)}(ok:Ck P w H h)(e:HTt H a kvs):kvs.length<=sizeLine/\(a==d3)=aD/\
  ∃xs,KT H kvs xs/\h.DictOfH (tupleKind (Zs P w)) a xs:=Tw ok e.rd
end
def O4(H:Hp)(a:ak)(y:V)(r:Option V):Prop:=
 (∃kvs k,RdK H a kvs/\y=kV k/\r=Jx kvs k)\/∃kvs k b,RdT H a kvs/\y= .ref b/\H b=aA (.tup (k.map kV))/\r=Jx kvs k
def Lc(H:Hp)(a:ak)(y v:V)(R:Hp->Prop):Prop:=
 (∃kvs k,HK H a kvs/\y=kV k/\kvs.length<sizeLine/\∀ep,R (Y7 H a (.dK (Qa kvs k v) ep)))\/
 ∃kvs k b,HTt H a kvs/\y= .ref b/\H b=aA (.tup (k.map kV))/\kvs.length<sizeLine/\∀ep ep0 bs,H a=aA (.dT kvs ep0 bs)->R (Y7 H a (.dT (Qa kvs k v) ep (Nr kvs bs k b)))
theorem O4.k{H:Hp}{a:ak}{kvs:List (Key×V)}{k:Key}(e:HK H a kvs):O4 H a (kV k) (Jx kvs k):=.inl ⟨kvs,k,e.rd,rfl,rfl⟩
theorem O4.t{H:Hp}{a b:ak}{kvs:List (List Key×V)}{k:List Key}(e:HTt H a kvs)(eb:H b=aA (.tup (k.map kV))):O4 H a (.ref b) (Jx kvs k):=.inr ⟨kvs,k,b,e.rd,rfl,eb,rfl⟩
theorem Lc.k{H:Hp}{a:ak}{kvs:List (Key×V)}{k:Key}{v:V}{R:Hp->Prop}(e:HK H a kvs)(hl:kvs.length<sizeLine)(h:∀ep,R (Y7 H a (.dK (Qa kvs k v) ep))):Lc H a (kV k) v R:=.inl ⟨kvs,k,e,rfl,hl,h⟩
theorem Lc.t{H:Hp}{a b:ak}{kvs:List (List Key×V)}{k:List Key}{v:V}{R:Hp->Prop}(e:HTt H a kvs)(eb:H b=aA (.tup (k.map kV)))(hl:kvs.length<sizeLine)(h:∀ep ep0 bs,H a=aA (.dT kvs ep0 bs)->R (Y7 H a (.dT (Qa kvs k v) ep (Nr kvs bs k b)))):
  Lc H a (.ref b) v R:=.inr ⟨kvs,k,b,e,rfl,eb,hl,h⟩
section
variable{X:Cx}{pins:List (ak×Obj)}{σ:St}{H:Hp}{s:ap}{a:ak}{y v:V}{u r:ag}{o:Option V}{A:c8}{E:ag->ap->Prop}
theorem Inv.big(I:Inv X pins σ H s):d3<s.heap.objs.size:=by have h:bq<s.heap.objs.size:=(I.mod.glob.keeps I.bk).lt;exact Nat.lt_trans (by decide) h
theorem Za1{Q:ag->ap->Prop}(hu:A.units+1<fq)(I:Inv X pins σ H s)(g:O4 H a y (aA v))(ry:Zz y u)(h:∀w' s',Inv X pins σ H s'->Zz v w'->Q w' s'):
  br (cg X.prog X.w) A (getItem (.ref a) u) Q E s:=by
 rcases g with⟨kvs,k,e,ey,l⟩|⟨kvs,k,b,e,ey,eb,l⟩
 .subst ey;obtain⟨z,hd,vs,rel,dd⟩:=Co I.hok e;obtain⟨w',hw,rw'⟩:=Aa.some_of (v:=v) (o:=valueAt vs k) (by rw[l];exact rel.val k);exact wpAny_getItem_of (R4 ry) dd.mapOf hw (h w' _ (I.tok _) rw')
 .subst ey;cases(show u=b9 b from ry);obtain⟨z,hd,xs,rel,dd⟩:=Tw I.hok e;obtain⟨w',hw,rw'⟩:=Aa.some_of (v:=v) (o:=(atKey xs k).map (·.2)) (by rw[l];exact rel.val k);obtain⟨p,hp,hp2⟩:=dg.mp hw;refine wpAny_getItem_heap (tupleKind_room_in1 hu) (Rb I.hok eb) dd hp ?_;rw[hp2];exact h w' _ (I.tok _) rw'
theorem Ztr{Q:ag->ap->Prop}(hu:A.units+1<fq)(I:Inv X pins σ H s)(g:O4 H a y o)(ry:Zz y u)(h:∀s',Inv X pins σ H s'->Q (.bool o.isSome) s'):
  br (cg X.prog X.w) A (df .In u (.ref a)) Q E s:=by
 rcases g with⟨kvs,k,e,ey,l⟩|⟨kvs,k,b,e,ey,eb,l⟩
 .subst ey;obtain⟨z,hd,vs,rel,dd⟩:=Co I.hok e;refine wpAny_in_of (R4 ry) hd dd.mapOf ?_;rw[<-(rel.val k).isSome_eq,<-l];exact h _ (I.tok _)
 .subst ey;cases(show u=b9 b from ry);obtain⟨z,hd,xs,rel,dd⟩:=Tw I.hok e;refine wpAny_in_heap (tupleKind_room_in1 hu) (Rb I.hok eb) hd dd ?_;have q:=(rel.val k).isSome_eq;rw[Option.isSome_map]at q;rw[<-q,<-l];exact h _ (I.tok _)
theorem Zhm{Q:ag->ap->Prop}(hu:A.units+1<fq)(I:Inv X pins σ H s)(g:O4 H a y o)(ry:Zz y u)(h:∀s',Inv X pins σ H s'->Q (.bool (!o.isSome)) s'):
  br (cg X.prog X.w) A (df .NotIn u (.ref a)) Q E s:=by
 rcases g with⟨kvs,k,e,ey,l⟩|⟨kvs,k,b,e,ey,eb,l⟩
 .subst ey;obtain⟨z,hd,vs,rel,dd⟩:=Co I.hok e;refine wpAny_notIn_of (R4 ry) hd dd.mapOf ?_;rw[<-(rel.val k).isSome_eq,<-l];exact h _ (I.tok _)
 .subst ey;cases(show u=b9 b from ry);obtain⟨z,hd,xs,rel,dd⟩:=Tw I.hok e;refine wpAny_notIn_heap (tupleKind_room_in1 hu) (Rb I.hok eb) hd dd ?_;have q:=(rel.val k).isSome_eq;rw[Option.isSome_map]at q;rw[<-q,<-l];exact h _ (I.tok _)
theorem Ag{h':du}{t':Nat}{ob:HO}(I:Inv X pins σ H s)(mu:Mut (H a))(hs:Heap.SameBut a s.heap h')(he:∃q,h'.get? a=aA q)(new:Yu X.prog X.w (Y7 H a ob) h' a ob):
  Inv X pins σ (Y7 H a ob) {s with heap:=h',toks:=t'}:=
 I.write (x:=a) (e:=a) mu (.inl rfl) (λb q hb z=>(hs.2 b hb).trans z) he new
theorem Ld{P:b5}{w:cw}{h':du}{kvs:List (Key×V)}{vs:List (Key×ag)}(z:kvs.length<=sizeLine)(hd:(a==d3)=aD)(rel:KV kvs vs)(dd:h'.DictOf (Zs P w) a vs):
  ∃ep,∀H':Hp,Yu P w H' h' a (.dK kvs ep):=let⟨ep,dd⟩:=dd.dictAt;⟨ep,λ_=>⟨z,hd,vs,rel,dd⟩⟩
theorem Za2{R:Hp->Prop}{Q:Unit->ap->Prop}(hu:A.units+1<fq)(I:Inv X pins σ H s)(g:Lc H a y v R)(ry:Zz y u)(rv:Zz v r)(h:∀H' s',R H'->Inv X pins σ H' s'->Q () s'):
  br (cg X.prog X.w) A (setItem (.ref a) u r) Q E s:=by
 rcases g with⟨kvs,k,e,ey,l,eH⟩|⟨kvs,k,b,e,ey,eb,l,eH⟩
 .subst ey;obtain⟨z,hd,vs,rel,dd⟩:=Hm I.hok e;have hz:vs.length<=sizeLine:=by rw[<-rel.length];exact z
  have hl:(Qa kvs k v).length<=sizeLine:=by have:=Ob kvs k v;omega
  refine wpAny_setItem_pairs (hsz:=hz) (R4 ry) dd λh' dd' hs=>?_;have he:∃q,h'.get? a=aA q:=let⟨q,_,_,hq,_⟩:=dd';⟨q,hq⟩
  obtain⟨ep,ok⟩:=Ld hl hd (rel.put k rv) dd';exact h _ _ (eH ep) (Ag I (by obtain⟨e0,e⟩:=e;rw[e];exact True.intro) hs he (ok _))
 .subst ey;cases(show u=b9 b from ry);obtain⟨z,hd,xs,rel,dd⟩:=Zqi I.hok e;have hz:xs.length<=sizeLine:=by rw[<-Paired.length rel];exact z
  have hl:(Qa kvs k v).length<=sizeLine:=by have:=Ob kvs k v;omega
  refine wpAny_setItem_heap (hsz:=hz) (tupleKind_room_in1 hu) (Rb I.hok eb) dd λh' dd' hs=>?_;obtain⟨q,es,ep,hq,h2,h3,h4,_,h5⟩:=dd';obtain⟨e0,bs,e⟩:=e;have hb:(xs.map λx=>x.2.1)=bs:=by
   obtain⟨_,_,xs',r',_,_,w1,_,w3,w4,_,w6⟩:=(show Yu X.prog X.w H s.heap a (.dT kvs e0 bs)from I.hok a _ e)
   obtain⟨_,_,_,y1,_,y3,y4,_⟩:=dd;rw[w1]at y1;cases y1;rw[w3]at y3;cases y3;have:xs'.map (λx=>x.2.1)=xs.map λx=>x.2.1:=by
    have z:=congrArg (List.map DictEntry.key) (w4.symm.trans y4);rw[cx,cx]at z;have inj:∀{l m:List (List Key×ak×ag)},l.map (DictEntry.key∘entryOfKey (tupleKind (Zs X.prog X.w)))=m.map (DictEntry.key∘entryOfKey (tupleKind (Zs X.prog X.w)))->(l.map λx=>x.2.1)=m.map λx=>x.2.1:=by
     intro l;induction l with
     |nil=>intro m z;cases m with
      |nil=>rfl
      |cons _ _=>cases z
     |cons x l ih=>intro m z;cases m with
      |nil=>cases z
      |cons y m=>rw[ay,ay]at z⊢;injection z with z1 z2;have z1':b9 x.2.1=b9 y.2.1:=z1;injection z1' with z1';rw[z1',ih z2]
    exact inj z
   rw[<-this];exact w6
  have hb2:((storedH xs k b r).map λx=>x.2.1)=Nr kvs bs k b:=by
   have ee:(kvs.any λkv=>decide (kv.1=k))=(atKey xs k).isSome:=by rw[R3,(rel.val k).isSome_eq,Option.isSome_map]
   unfold Nr storedH;rw[ee];by_cases qq:(atKey xs k).isSome=aC
   .rw[if_pos qq,if_pos qq,cx,<-hb];refine List.map_congr_left λx _=>?_;show(putAt k r x).2.1=x.2.1;unfold putAt;split<;> rfl
   .rw[if_neg qq,if_neg qq,b4,hb];rfl
  refine h _ _ (eH ep e0 bs e) (Ag I (by rw[e];exact True.intro) hs ⟨q,hq⟩ ⟨hl,hd,_,(rel.put k eb rv).keeps λc ys ec=>?_,q,es,hq,h2,h3,h4,h5,hb2⟩);rw[Zv (Zpn ec e (λz=>nomatch z))];exact ec
end
def Zqj(i:b7):Prop:=∀ov iv,subscripted i aD ov iv=operate [ov,iv] (getItem ov iv)
theorem Zhn{prog:b5}{w:cw}{A:c8}{E:ag->ap->Prop}{s:ap}{env:Env}{value slice:b7}{pos:Pos}{T id:String}{Q:ag->ap->Prop}
  (hl:typeLookup (.type T) "__getitem__"=pure (aA (.builtin id))) (hs:Zqj slice)
  (h:br (cg prog w) A (dk value env) (λo s₁=>br (cg prog w) A (dk slice env) (λi s₂=>s₂.TypeIs o T/\br (cg prog w) A (getItem o i) Q E s₂) E s₁) E s):
  br (cg prog w) A (dk (.Subscript value slice pos) env) Q E s:=by
 refine Subscript_ (wpAny_mono h (λo s₁ h₁=>wpAny_mono h₁ (λi s₂ h₂=>?_) λ_ _ x=>x) λ_ _ x=>x);obtain⟨hT,h₂⟩:=h₂;unfold subscriptTail;refine ac ?_;rw[getitemInPython_of_ne hT.not_modules];refine ac (wpAny_specialOf hT hl ?_);have fin:br (cg prog w) A (subscripted slice aD o i) (λr s₃=>br (cg prog w) A (letTemporaryGo value o r >>=λ_=>pure r) Q E s₃) E s₂:=by rw[hs o i];exact wpAny_operating (wpAny_mono h₂ (λr s₃ h₃=>ac (wpAny_letTemporaryGo (ao h₃))) λ_ _ x=>x)
 first
  |exact ao (ac fin)
  |exact ac (ao (ac fin))
  |exact ac fin
theorem Nz{X:Cx}{pins:List (ak×Obj)}{σ:St}{H:Hp}{s:ap}{a:ak}{y:V}{o:Option V}(I:Inv X pins σ H s)(g:O4 H a y o):s.TypeIs (.ref a) "dict":=by
 rcases g with⟨kvs,k,e,_,_⟩|⟨kvs,k,b,e,_,_,_⟩
 .obtain⟨_,_,vs,_,dd⟩:=Co I.hok e;exact dd.typeIs
 .obtain⟨_,_,xs,_,dd⟩:=Tw I.hok e;exact dd.typeIs
def Zqk(td ty:TE):TE:=λσ H Q=>td σ H λx H1=>ty σ H1 λy H2=>∃a v,x= .ref a/\O4 H2 a y (aA v)/\Q v H2
def Zku(td ty tv:TE):TS:=λD σ H=>tv σ H λv H1=>td σ H1 λx H2=>ty σ H2 λy H3=>∃a,x= .ref a/\Lc H3 a y v (D.nx σ)
section
variable{X:Cx}{o i e value:b7}{pos pos' tpos:Pos}{td ty tv:TE}
theorem Zho(hu:X.A.units+1<fq)(ho:PE X o td)(hi:PE X i ty)(hs:Zqj i):PE X (.Subscript o i pos) (Zqk td ty):=by intro pins s σ H Q I h;refine Zhn PySem.F.slot_dict_getitem.lookup hs (Wl (ho pins s σ H _ I h) λu s1 ⟨x,H1,I1,rx,q1⟩=>Wl (hi pins s1 σ H1 _ I1 q1) λiv s2 zq9=>?_);obtain⟨y,H2,I2,ry,a,v,ex,g,q2⟩:=zq9;subst ex;obtain rfl:u=b9 a:=rx;exact⟨Nz I2 g,Za1 hu I2 g ry λw' s3 I3 rw'=>⟨v,H2,I3,rw',q2⟩⟩
theorem Zhp(hu:X.A.units+1<fq)(ho:PE X o td)(hi:PE X i ty)(hv:PE X value tv)(hs:swapsWith value (aA (.Subscript o i pos')) pos.line X.env=pure aD):
  PS X (.Assign [.Subscript o i pos'] value pos) (Zku td ty tv):=by
 intro pins s σ H D I h;refine wpAny_Assign_Subscript (Wl (hv pins s σ H _ I h) λr s1 ⟨v,H1,I1,rv,q1⟩=>Wl (ho pins s1 σ H1 _ I1 q1) λu s2 ⟨x,H2,I2,rx,q2⟩=>Wl (hi pins s2 σ H2 _ I2 q2) λiv s3 ⟨y,H3,I3,ry,a,ex,g⟩=>?_) hs;subst ex;obtain rfl:u=b9 a:=rx;exact Za2 hu I3 g ry rv λH4 s4 q3 I4=>⟨σ,H4,I4,q3⟩
end
theorem N0{P:b5}{w:cw}{H:Hp}(h:du)(hb:d3<h.objs.size):Yu P w H (h.push {cls:=.type "dict",data:=.dict #[]}) h.objs.size (.dK [] 0):=
 ⟨d8 _,beq_eq_false_iff_ne.mpr (Ne.symm (de hb)),[],.nil,_, #[],b3 _ rfl,⟨rfl,rfl,rfl⟩,rfl,λ_ he=>by simp at he,Pairs.nil,cz⟩
def Vl:TE:=λ_ H Q=>∀p,H p=aB->Q (.ref p) (Y7 H p (.dK [] 0))
section
variable{X:Cx}{pos:Pos}
theorem N1:PE X (.Dict [] [] pos) Vl:=λpins s σ H Q I h=>
 wpAny_Dict_empty ⟨.ref s.heap.objs.size,_,I.laid (a:=s.heap.objs.size) (o:=.dK [] 0) (t':=s.toks) (λ_ _ q=>az _ q) (bg _) (N0 s.heap I.big),rfl,h _ (I.hok.fresh (bg _))⟩
end
def Le:List (TE×TE)->St->Hp->(List (V×V)->Hp->Prop)->Prop
  | [],_,H,Q=>Q [] H
  | (tk,tv)::r,σ,H,Q=>tk σ H λx H1=>tv σ H1 λy H2=>Le r σ H2 λps H3=>Q ((x,y)::ps) H3
abbrev VV:List (V×V)->List (ag×ag)->Prop:=Paired λp q=>Zz p.1 q.1/\Zz p.2 q.2
def PPs(X:Cx)(pos:Pos)(keys:List (Option b7))(values:List b7)(trs:List (TE×TE)):Prop:=
 ∀(pins:List (ak×Obj)) (s:ap) (σ:St) (H:Hp) (Q:List (V×V)->Hp->Prop),Inv X pins σ H s->Le trs σ H Q->
  br (cg X.prog X.w) X.A (evalPairs (pairTrees keys values X.env pos)) (λvs s'=>∃ps H',Inv X pins σ H' s'/\VV ps vs/\Q ps H') X.xe s
theorem Zhq{X:Cx}{pos:Pos}:PPs X pos [] [] []:=λpins s σ H Q I h=>pairTrees_nil_walk ⟨[],H,I,.nil,h⟩
theorem Zc8{X:Cx}{pos:Pos}{k v:b7}{ks:List (Option b7)}{vs:List b7}{tk tv:TE}{trs:List (TE×TE)}(hk:PE X k tk)(hv:PE X v tv)(hr:PPs X pos ks vs trs):
  PPs X pos (aA k::ks) (v::vs) ((tk,tv)::trs):=λpins s σ H Q I h=>
 pairTrees_cons_walk (Wl (hk pins s σ H _ I h) λu s1 ⟨x,H1,I1,rx,q1⟩=>Wl (hv pins s1 σ H1 _ I1 q1) λw2 s2 ⟨y,H2,I2,ry,q2⟩=>
  Wl (hr pins s2 σ H2 _ I2 q2) λws s3 ⟨ps,H3,I3,rel,q3⟩=>⟨(x,y)::ps,H3,I3,.cons ⟨rx,ry⟩ rel,q3⟩)
def Cp(kvs more:List (Key×V)):List (Key×V):=more.foldl (λacc kv=>Qa acc kv.1 kv.2) kvs
theorem KV.merge:∀{more:List (Key×V)} {rs:List (Key×ag)} {kvs:List (Key×V)} {vs:List (Key×ag)},KV more rs->KV kvs vs->KV (Cp kvs more) (merged vs rs):=by
 intro more rs kvs vs r;unfold KV at r;induction r generalizing kvs vs with
 |nil=>intro q;exact q
 | @cons p q ps qs h t ih=>
  intro r0;have e:KV (Qa kvs p.1 p.2) (stored vs q.1 q.2):=by have:=r0.put p.1 h.2;rw[<-h.1];exact this
  exact ih e
theorem Gv:∀(more kvs:List (Key×V)),(Cp kvs more).length<=kvs.length+more.length
 | [],kvs=>by show kvs.length<=kvs.length+0;omega
 |p::r,kvs=>by have h1:=Gv r (Qa kvs p.1 p.2);have h2:=Ob kvs p.1 p.2;show(Cp (Qa kvs p.1 p.2) r).length<=_;rw[bd];omega
theorem Aw{P:b5}{w:cw}:∀{kvs:List (Key×V)} {ws:List (ag×ag)},VV (kvs.map λkv=>(kV kv.1,kv.2)) ws->∃rs,Carries (Zs P w) ws rs/\KV kvs rs
 | [],_,r=>by rw[List.map_nil]at r;cases r;exact⟨[],True.intro,.nil⟩
 |p::kvs,_,r=>by
  rw[ay]at r;cases r with
  | @cons a b as bs h t=>obtain⟨rs,c,q⟩:=Aw (P:=P) (w:=w) t;obtain⟨b1,b2⟩:=b;exact⟨(p.1,b2)::rs,⟨R4 h.1,rfl,c⟩,.cons ⟨rfl,h.2⟩ q⟩
structure M1(X:Cx)(o:b7)(m:Str)(apos:Pos)(e:b7)(cpos:Pos):Prop where
 base:attributeBase o m X.env (dk o X.env)=dk o X.env
 few:((dj cpos (av [e] X.env)).all (λx=>!x.1)&&(backToKw cpos (keywordEach [] X.env)).all (λx=>x.1.isSome)
  &&decide (([e]:List b7).length+([]:List Keyword).length+(if([]:List Keyword).isEmpty then 0 else 1)<30))=aC
 line:(apos.endLine==cpos.line)=aC
 trees:dj cpos (av [e] X.env)=[(aD,dk e X.env)]
structure M2(X:Cx)(o:b7)(m:Str)(apos:Pos)(e f:b7)(cpos:Pos):Prop where
 base:attributeBase o m X.env (dk o X.env)=dk o X.env
 few:((dj cpos (av [e,f] X.env)).all (λx=>!x.1)&&(backToKw cpos (keywordEach [] X.env)).all (λx=>x.1.isSome)
  &&decide (([e,f]:List b7).length+([]:List Keyword).length+(if([]:List Keyword).isEmpty then 0 else 1)<30))=aC
 line:(apos.endLine==cpos.line)=aC
 trees:dj cpos (av [e,f] X.env)=[(aD,dk e X.env),(aD,dk f X.env)]
def IsD(H:Hp)(a:ak):Prop:=(∃kvs,RdK H a kvs)\/∃kvs,RdT H a kvs
theorem Zmw{X:Cx}{pins:List (ak×Obj)}{σ:St}{H:Hp}{s:ap}{a:ak}(I:Inv X pins σ H s)(d:IsD H a):
  s.TypeIs (.ref a) "dict"/\(∀b,b9 a= .ref b->∃ob,s.heap.get? b=aA ob/\ob.dict=aB)/\(a==d3)=aD:=by
 rcases d with⟨kvs,e⟩|⟨kvs,e⟩
 .obtain⟨_,hd,vs,_,dd⟩:=Co I.hok e;refine⟨dd.typeIs,λb q=>?_,hd⟩;cases q;obtain⟨ob,_,_,h1,h2,_⟩:=dd;exact⟨ob,h1,h2.2.1⟩
 .obtain⟨_,hd,xs,_,dd⟩:=Tw I.hok e;refine⟨dd.typeIs,λb q=>?_,hd⟩;cases q;obtain⟨ob,_,_,h1,h2,_⟩:=dd;exact⟨ob,h1,h2.2.1⟩
section
variable{X:Cx}{pins:List (ak×Obj)}{σ:St}{H:Hp}{s:ap}{a:ak}{y d:V}{u r:ag}{o:Option V}{A:c8}{E:ag->ap->Prop}
theorem Zmx{Q:ag->ap->Prop}(hu:A.units+1<fq)(I:Inv X pins σ H s)(g:O4 H a y o)(ry:Zz y u)(h:∀w' s',Inv X pins σ H s'->Zz (o.getD .non) w'->Q w' s'):
  br (cg X.prog X.w) A (call (.builtin "dict.get") [.ref a,u]) Q E s:=by
 rcases g with⟨kvs,k,e,ey,l⟩|⟨kvs,k,b,e,ey,eb,l⟩
 .subst ey;obtain⟨z,hd,vs,rel,dd⟩:=Co I.hok e;refine call_meetsIn PySem.F.slot_dict_get dd.typeIs PySem.F.entry_dict_get (PySem.F.args_dict_get_2 _ _) (meets_dict_get (Zs X.prog X.w) a (R4 ry) hd) ⟨_,dd.mapOf,h _ _ (I.tok _) ?_⟩;rw[l];exact(rel.val k).getD rfl
 .subst ey;cases(show u=b9 b from ry);obtain⟨z,hd,xs,rel,dd⟩:=Tw I.hok e;refine call_meetsIn PySem.F.slot_dict_get dd.typeIs PySem.F.entry_dict_get (PySem.F.args_dict_get_2 _ _) (meetsH_dict_get (tupleKind (Zs X.prog X.w)) a b hd) ⟨tupleKind_room_in1 hu,k,xs,Rb I.hok eb,dd,h _ _ (I.tok _) ?_⟩;rw[l];exact(rel.val k).getD rfl
theorem Zmy{Q:ag->ap->Prop}(hu:A.units+1<fq)(I:Inv X pins σ H s)(g:O4 H a y o)(ry:Zz y u)(rd:Zz d r)(h:∀w' s',Inv X pins σ H s'->Zz (o.getD d) w'->Q w' s'):
  br (cg X.prog X.w) A (call (.builtin "dict.get") [.ref a,u,r]) Q E s:=by
 rcases g with⟨kvs,k,e,ey,l⟩|⟨kvs,k,b,e,ey,eb,l⟩
 .subst ey;obtain⟨z,hd,vs,rel,dd⟩:=Co I.hok e;refine call_meetsIn PySem.F.slot_dict_get dd.typeIs PySem.F.entry_dict_get (PySem.F.args_dict_get_3 _ _ _) (meets_dict_get_default (Zs X.prog X.w) a (R4 ry) hd r) ⟨_,dd.mapOf,h _ _ (I.tok _) ?_⟩;rw[l];exact(rel.val k).getD rd
 .subst ey;cases(show u=b9 b from ry);obtain⟨z,hd,xs,rel,dd⟩:=Tw I.hok e;refine call_meetsIn PySem.F.slot_dict_get dd.typeIs PySem.F.entry_dict_get (PySem.F.args_dict_get_3 _ _ _) (meetsH_dict_get_default (tupleKind (Zs X.prog X.w)) a b hd r) ⟨tupleKind_room_in1 hu,k,xs,Rb I.hok eb,dd,h _ _ (I.tok _) ?_⟩;rw[l];exact(rel.val k).getD rd
end
section
variable{X:Cx}{pins:List (ak×Obj)}{σ:St}{H:Hp}{s:ap}{a:ak}{kvs:List (Key×V)}{A:c8}{E:ag->ap->Prop}
theorem Zc9{Q:ag->ap->Prop}(I:Inv X pins σ H s)(e:RdK H a kvs)(h:∀p ep s',H p=aB->Inv X pins σ (Y7 H p (.dK kvs ep)) s'->Q (.ref p) s'):br (cg X.prog X.w) A (call (.type "dict") [.ref a]) Q E s:=by obtain⟨z,hd,vs,rel,dd⟩:=Co I.hok e;refine kt_call_dict hd dd (by rw[<-rel.length];exact z) λh' dd' hs=>?_;obtain⟨ep,ok⟩:=Ld z (beq_eq_false_iff_ne.mpr (Ne.symm (de I.big))) rel dd';refine h _ ep _ (I.hok.fresh (bg _)) (I.laid (a:=s.heap.objs.size) (o:=.dK kvs ep) (t':=s.toks) (λb q hq=>?_) (bg _) (ok _));exact(hs.2 b (de (bi hq))).trans (az _ hq)
end
end L2
namespace Att
open PySem PySem.W PySem.Calls PyProof.Rows
theorem Ab{P:Params}{h:du}:∀(ns:List Int) (vs:List ag),WellAll P h vs (ns.map WData.int)->IntsAre vs ns:=by
 intro ns;induction ns with
 |nil=>intro vs w;rw[List.map_nil]at w;cases w;exact .nil
 |cons n ns ih=>
  intro vs w;rw[ay]at w;cases w with
  |cons a b=>cases a;exact .cons _ _ (ih _ b)
theorem Za3{l:OpenLaw}{n:Nat}(hn:l.most=aA n){P:Params}{h:du}{args:List WData}{vals:List ag}
  (hpre:l.row.toRowW.claim.pre args=aC) (hwl:WellAll P h vals args):
  ∃a vs ns,vals=[b9 a]/\args=[WData.list (ns.map WData.int)]/\h.get? a=aA {cls:=.type "list",data:=.seq vs.toArray}/\IntsAre vs ns/\ns.length<=n:=by
 have hsh:WShape.hasAll [] args [.list .int]=aC:=(pre_splitW hpre).1;have hc:l.pre.holds [] {args:=args}=aC:=(pre_splitW hpre).2;obtain⟨d,r,rfl,h1,h2⟩:=hasAllW_cons hsh;obtain rfl:=hasAllW_nil h2;obtain⟨xs,rfl,h3⟩:=hasW_list h1;obtain⟨ns,rfl⟩:=items_int h3;have hlen:ns.length<=n:=by
  unfold OpenLaw.pre at hc;have h4:(WTm.not (.lt (.lit (.int (n:Int))) (.len (.arg 0)))).holds [] {args:=[.list (ns.map .int)]}=aC:=by have h4:=(holds_andW hc).1;rw[hn]at h4;exact h4
  have h5:=condW_of h4 (w_not (w_lt w_lit (w_len_list (w_arg rfl))));rw[am]at h5;refine Nat.le_of_not_lt λq=>?_;have q':(n:Int)<((ns.length:Nat):Int):=by omega
  first
   | (rw[decide_eq_true q']at h5;exact absurd h5 (by decide))
   | (simp at h5;omega)
 cases hwl with
 |cons w1 w2=>
  cases w2;cases w1 with
  |list ho hall=>exact⟨_,_,ns,rfl,rfl,ho,Ab ns _ hall,hlen⟩
theorem Za4(l:OpenLaw)(args:List WData):l.row.toRowW.claim.post args (.bool aC) args=aC:=
 postW_of (r:=l.row.toRowW) (X:=(aC==aC))
  (show WShape.has [] (.bool aC) .bool=aC by first|rfl|decide|simp[WShape.has,WShape.arms,WShape.armsAll])
  (show(WTm.eq .res (.lit (.bool aC))).value [] {args:=args,res:=aA (.bool aC),after:=args}=aA (.bool (aC==aC))from w_eq_bool (w_res rfl) w_lit) rfl
theorem attach_call{l:OpenLaw}{n:Nat}{q:b5}{loose:List Str}{XP:(Str->Option ag)->du->Prop}{YP:cw->du->Prop}{d:DefRec}
  (hn:l.most=aA n) (hdf:d.params.defaults=[])
  (call:∀(w:cw) (s₀ s₁:ap) (mg mb:Str->Option ag) (fa:ak) (o:Obj) (pm cd doc:ag) (a:ak) (vs:List ag) (ns:List Int),
   Ground q loose [] XP w s₀ mg mb s₁.heap->YP w s₁.heap->
   s₁.heap.get? fa=aA o->o.data= .func (docDef d.name d.params d.body d.scope pm cd doc)->s₁.heap.CodeRec cd d.name->mg d.name=aA (.ref fa)->
   s₁.heap.get? a=aA {cls:=.type "list",data:=.seq vs.toArray}->IntsAre vs ns->ns.length<=n->s₁.gens= #[]->
   codeAny (cg l.prog w) callerA (.call (.ref fa) ⟨[.ref a],[]⟩) (λr s'=>r= .ok (.ret (.bool aC))/\OldK s₁.heap s'.heap/\s'.os=s₁.os/\AllBare s'.gens) s₁):
  WalkO q loose XP YP l.row.toRowW d [] (λf vs=>PySem.call f vs):=by
 intro w s₀ s₁ mg mb G Y fa o pm cd doc dV kV ho hd hcd hD hmg hg args vals as hpre hlay hrd hwl hlo;obtain rfl:dV= .none:=Dflts.none hD hdf;obtain rfl:kV= .none:=Dflts.noKw hD;obtain⟨a,vs,ns,rfl,rfl,hobj,hints,hlen⟩:=Za3 hn hpre hwl;refine enter_call (codeAny_mono (call w s₀ s₁ mg mb fa o pm cd doc a vs ns G Y ho (fd_plain hd) hcd hmg hobj hints hlen hg) λr s' hq=>?_);obtain⟨rfl,h2,h3,h4⟩:=hq;exact⟨.inl ⟨.bool aC,.bool aC,[],rfl,λ_=>rfl,.bool aC,Za4 l _,λ_=>⟨List.Pairwise.nil,λ_ hm=>(nomatch hm)⟩⟩,h2,h3,h4⟩
end Att
namespace L2
open PySem PySem.Spec PyProof.Rows
theorem Fi:∀{vs:List ag} {ns:List Int},IntsAre vs ns->Ya (ns.map V.int) vs
 |_,_,.nil=>.nil
 |_,_,.cons n t h=>.cons ⟨t,rfl⟩ (Fi h)
def Zda(H:Hp):Prop:=∀b,H b=aB\/∃o xs,H b=aA (.frz o (.lst xs))
theorem Zdb {P : b5} {w : cw} {K : ad} {mg mb : Str -> Option ag} {CX : CXT} {k : Nat} {fa a : ak} {fd : bx} {x : Str} {sp : Sp} {s₁ : ap} {vs : List ag} {ns : List Int}
    (KX : K.In s₁.heap) (hns : s₁.heap.Ns bq mg) (hb : s₁.heap.Ns builtinsNs mb) (hbb : ∀ x : Str, x ≠ "__name__" -> mb x = bootBuiltins x) (hlim : s₁.heap.NoLimit) (hg : s₁.gens = #[])
    (ha : s₁.heap.get? a = aA { cls := .type "list", data := .seq vs.toArray }) (hi : IntsAre vs ns) (hl : ns.length <= sizeLine) (hr : Room k callerA)
    (F : ∀ base : du, K.In base -> base.Ns bq mg -> FnOk P w K mg base CX k fa fd [x] sp) (hbind : ∀ (s : ap) (u : ag), BindsTo s fd ⟨[u], []⟩ [(x, u)])
    (hsp : ∀ H : Hp, Zda H -> Oa K H a (ns.map V.int) -> sp [.ref a] H (λv _ => v = .bl aC) λ_ _ _ => False)
    (hCX : ∀ H e s', CX [] H s₁ (λ_ _ _ => False) e s' -> False) :
    codeAny (cg P w) callerA (.call (.ref fa) ⟨[.ref a], []⟩) (λr s' => r = .ok (.ret (.bool aC)) /\ OldK s₁.heap s'.heap /\ s'.os = s₁.os /\ AllBare s'.gens) s₁ := by
  have rv := Fi hi;have lenV := hi.length
  -- from an abstract heap in which nothing but the script may be tracked
  have core : ∀ H : Hp, Zda H -> Oa K H a (ns.map V.int) -> Ck P w H s₁.heap -> (∀ b, H b ≠ aB -> b = a) -> (H a ≠ aB -> K.lookup a = aB) ->
      codeAny (cg P w) callerA (.call (.ref fa) ⟨[.ref a], []⟩) (λr s' => r = .ok (.ret (.bool aC)) /\ OldK s₁.heap s'.heap /\ s'.os = s₁.os /\ AllBare s'.gens) s₁ := by
    intro H hO hS hok hA hK;have base_of : ∀ {b : ak} {o : Obj}, s₁.heap.get? b = aA o -> H b = aB -> (K6 s₁.heap H).get? b = aA o := λe n => Zcn e n;have noA : ∀ {b : ak} {o : Obj} {es : Array DictEntry} {ep : Nat}, s₁.heap.get? b = aA o -> o.data = .dict es ep -> H b = aB := λ{b o es ep} e d => by
      cases q : H b with
      | none => rfl
      | some u =>have e' : b = a := hA b (by rw [q]; simp);subst e';rw [ha] at e; cases e;have d' : Data.seq vs.toArray _ = Data.dict es ep := d;cases d'
    have nsK : ∀ {b : ak} {m : Str -> Option ag}, s₁.heap.Ns b m -> (K6 s₁.heap H).Ns b m := λ{b m} ⟨o, es, ep, e, d, r⟩ => ⟨o, es, ep, base_of e (noA e d), d, r⟩
    have hKb : K.In (K6 s₁.heap H) := λb o e => base_of (KX b o e) (by
      cases q : H b with
      | none => rfl
      | some u =>
        have e' : b = a := hA b (by rw [q]; simp);subst e';rw [hK (by rw [q]; simp)] at e; cases e)
    have hM : Mod K mg (K6 s₁.heap H) := ⟨hKb, nsK hns, ⟨mb, nsK hb, hbb⟩, let ⟨mc, h1, h2⟩ := hlim; ⟨mc, nsK h1, h2⟩⟩
    have e0 : Env0 P w K mg (K6 s₁.heap H) callerA [] s₁ H := ⟨rfl, hM, λb o e => Zg2 e, Nat.le_of_eq (Zao _ _), trivial, λb hb => absurd (show b ∈ ([] : List ak) from hb) (by simp), hok, .of_eq hg⟩
    refine codeAny_mono ((F _ hKb (nsK hns)).run callerA [] s₁ H ⟨[.ref a], []⟩ [.ref a] [.ref a] _ _ hr e0 (hbind s₁ (.ref a)) (.cons rfl .nil) (hsp H hO hS)) λr s' h => ?_;cases r with
    | error e => exact (hCX H e s' h).elim
    | ok fl =>
      cases fl with
      | next => exact False.elim h
      | brk => exact False.elim h
      | cont => exact False.elim h
      | ret u =>
        obtain ⟨v, H', os, bare, un, hok', r', q⟩ := h;have q' : v = .bl aC := q;subst q';obtain rfl : u = Value.bool aC := r';refine ⟨rfl, OldK.of_keep λb o e => ?_, os, bare⟩;cases q : H b with
        | none => exact un.keep b o e q (by intro z; exact absurd (show b ∈ ([] : List ak) from z) (by simp)) (by simp)
        | some u =>
          rcases hO b with z | ⟨ob, xs, z⟩
          · rw [q] at z; cases z
          · have z2 := un.frzs b ob _ z
            obtain ⟨e1, _⟩ := hok b _ z;obtain ⟨e2, _⟩ := hok' b _ z2;rw [e] at e1; cases e1;exact e2
  cases hk : K.lookup a with
  | some o =>
    -- the script is one of the module's own objects
    have e := KX a o hk;rw [ha] at e;cases e;refine core (λ_ => aB) (λ_ => .inl rfl) (.inr ⟨_, vs.toArray, _, hk, rfl, rfl, rfl, by rw [bu, lenV]; exact hl, by simpa using rv⟩) (λb u z => by have z' : (aB : Option HO) = aA u := z; cases z') (λb z => absurd rfl z) λz => absurd rfl z
  | none =>
    refine core (λb => if b = a then aA (.frz { cls := .type "list", data := .seq vs.toArray } (.lst (ns.map V.int))) else aB) (λb => ?_) (.inl (.inr ⟨{ cls := .type "list", data := .seq vs.toArray }, if_pos rfl⟩)) (λb u z => ?_) (λb z => ?_) λ_ => hk
    · by_cases hb : b = a
      · exact .inr ⟨_, _, if_pos hb⟩
      · exact .inl (if_neg hb)
    · by_cases hb : b = a
      · have z' := (if_pos hb).symm.trans z
        cases z';subst hb;exact ⟨ha, by rw [am]; exact hl, vs, _, rv, ha⟩
      · have z' := (if_neg hb).symm.trans z
        cases z'
    · by_cases hb : b = a
      · exact hb
      · exact absurd (if_neg hb) z
theorem Zhr{l:PySem.W.OpenLaw}{n k:Nat}{q:b5}{loose:List Str}{XP:(Str->Option ag)->du->Prop}{YP:cw->du->Prop}{d:DefRec}{K:Params->ad}{CX:cw->CXT}{sp:cw->Sp}{x:Str}
  (hn:l.most=aA n) (hn2:n<=sizeLine) (hdf:d.params.defaults=[]) (hr:Room k callerA)
  (hY:∀(w:cw) (h:du),YP w h->(K w.params).In h)
  (F:∀(w:cw) (mg:Str->Option ag) (fa:ak) (h:du),(K w.params).In h->h.Ns bq mg->mg d.name=aA (.ref fa)->
   ∃fd:bx,(∀(s:ap) (u:ag),BindsTo s fd ⟨[u],[]⟩ [(x,u)])/\
    ∀base:du,(K w.params).In base->base.Ns bq mg->FnOk l.prog w (K w.params) mg base (CX w) k fa fd [x] (sp w))
  (hsp:∀(w:cw) (H:Hp) (a:ak) (ns:List Int),ns.length<=n->Zda H->Oa (K w.params) H a (ns.map V.int)->sp w [.ref a] H (λv _=>v= .bl aC) λ_ _ _=>False)
  (hCX:∀(w:cw) (H:Hp) (s:ap) (e:ag) (s':ap),CX w [] H s (λ_ _ _=>False) e s'->False):
  PySem.W.WalkO q loose XP YP l.row.toRowW d [] (λf vs=>PySem.call f vs):=by
 refine Att.attach_call hn hdf λw s₀ s₁ mg mb fa o pm cd doc a vs ns G Y ho hd hcd hmg hobj hints hlen hg=>?_;have KX:=hY w _ Y;obtain⟨fd,hb,hF⟩:=F w mg fa _ KX G.T.g hmg;exact Zdb KX G.T.g G.T.b G.T.builtins G.T.nolimit hg hobj hints (fj hlen hn2) hr hF hb (λH hO hS=>hsp w H a ns hlen hO hS) λH e s'=>hCX w H s₁ e s'
theorem Zdc{l:PySem.W.OpenLaw}{n k:Nat}{q:b5}{loose:List Str}{XP:(Str->Option ag)->du->Prop}{YP:cw->du->Prop}{d:DefRec}{K:Params->ad}{CX:CXT}{sp:ad->Sp}{x:Str}
  (hn:l.most=aA n) (hn2:n<=sizeLine) (hdf:d.params.defaults=[]) (hr:Room k callerA)
  (hY:∀(w:cw) (h:du),YP w h->(K w.params).In h)
  (F:∀(w:cw) (mg:Str->Option ag) (fa:ak) (h:du),(K w.params).In h->h.Ns bq mg->mg d.name=aA (.ref fa)->
   ∃fd:bx,(∀(s:ap) (u:ag),BindsTo s fd ⟨[u],[]⟩ [(x,u)])/\
    ∀base:du,(K w.params).In base->base.Ns bq mg->FnOk l.prog w (K w.params) mg base CX k fa fd [x] (sp (K w.params)))
  (hsp:∀(K:ad) (H:Hp) (a:ak) (ns:List Int),ns.length<=n->Zda H->Oa K H a (ns.map V.int)->sp K [.ref a] H (λv _=>v= .bl aC) λ_ _ _=>False)
  (hCX:∀(H:Hp) (s:ap) (e:ag) (s':ap),CX [] H s (λ_ _ _=>False) e s'->False):
  PySem.W.WalkO q loose XP YP l.row.toRowW d [] (λf vs=>PySem.call f vs):=
 Zhr (K:=K) (CX:=λ_=>CX) (sp:=λw=>sp (K w.params)) hn hn2 hdf hr hY F (λw H a ns h1 h2 h3=>hsp (K w.params) H a ns h1 h2 h3) λ_ H s e s'=>hCX H s e s'
noncomputable def Gb(s:Stmt):Arguments:=match s with
 | .FunctionDef _ a _ _ _ _ _ _ _ _=>a
 |_=>{posonlyargs:=[],args:=[],vararg:=aB,kwonlyargs:=[],kw_defaults:=[],kwarg:=aB,defaults:=[]}
noncomputable def Qx(s:Stmt):List Stmt:=match s with
 | .FunctionDef _ _ b _ _ _ _ _ _ _=>b
 |_=>[]
noncomputable def Zp(s:Stmt):Scope:=match s with
 | .FunctionDef _ _ _ _ _ _ sc _ _ _=>sc
 |_=>{kind:=.function,names:=[],isGenerator:=aD,isCoroutine:=aD}
abbrev Jf:CXT:=λ_ _ _ _ _ _=>False
abbrev E0:XK:=λ_ _ _=>False
theorem Zkw{X:Cx}:Vh Jf X E0:=λ_ _ _ _ _ _ _ h=>h.elim
structure Fun(K:ad)(x qual:Str)(st:Stmt)(f:ak)(fd:bx):Prop where
 ex:∃(oc:ag) (od:Option ak) (kV doc pm:ag) (an:Option ak) (cdv ct:ag) (osl:Array (Option ag)),
  fd=PySem.W.fnOf x qual (Gb st) (Qx st) (Zp st) .none kV doc pm an cdv ct/\K.lookup f=aA ⟨oc,od,.func fd,osl⟩/\PySem.W.codeIn K cdv qual=aC
 kp:bc K (.ref f)=aC
section
variable{P:b5}{w:cw}{K:ad}{mg:Str->Option ag}{base:du}
theorem Fun.ok{x qual:Str}{st:Stmt}{f:ak}{fd:bx}{N ps:List Str}{k:Nat}{sp:Sp}(F:Fun K x qual st f fd)(S:FnScope N ps (Zp st))(len:∀vs H Q E,sp vs H Q E->vs.length=ps.length)
  (hbody:∀(cdv:ag) (A:c8) (outer:List Env) (s:ap) (H:Hp) (vs:List V) (Q:VK) (E:XK),Room k (A.deeper (envOfC qual (Zp st) s.heap.objs.size f cdv))->sp vs H Q E->
   ∃t,Gp (Gq Jf P w K mg base N qual (Zp st) f cdv A outer s H E).nox (Qx st) t/\t {nx:=λ_ H'=>Q .non H',rt:=Q} (Qd N vs) H):FnOk P w K mg base Jf (k+1) f fd ps sp:=by
 obtain⟨oc,od,kV,doc,pm,an,cdv,ct,osl,rfl,lk,hcd⟩:=F.ex;refine Zkq lk hcd S len λA outer s H vs Q E hr hsp=>?_;obtain⟨t,h,q⟩:=hbody cdv A outer s H vs Q E hr hsp;exact⟨t,h.nox,q⟩
theorem Fun.binds{x qual:Str}{st:Stmt}{f:ak}{fd:bx}{ps:List Str}(F:Fun K x qual st f fd)
  (h:∀(kV doc pm:ag) (an:Option ak) (cdv ct:ag) (us:List ag),us.length=ps.length->bindArgs (PySem.W.fnOf x qual (Gb st) (Qx st) (Zp st) .none kV doc pm an cdv ct) ⟨us,[]⟩=pure (ps.zip us)):Yz K fd ps []:=by
 obtain⟨oc,od,kV,doc,pm,an,cdv,ct,osl,rfl,lk,hcd⟩:=F.ex;exact .all (h kV doc pm an cdv ct)
theorem Wg{x qual:Str}{st:Stmt}{f:ak}{oc:ag}{od an:Option ak}{osl:Array (Option ag)}{kV doc pm cdv ct:ag}(l:K.lookup f=aA ⟨oc,od,.func (PySem.W.fnOf x qual (Gb st) (Qx st) (Zp st) .none kV doc pm an cdv ct),osl⟩)
  (c:PySem.W.codeIn K cdv qual=aC) (k:bc K (.ref f)=aC):Fun K x qual st f (PySem.W.fnOf x qual (Gb st) (Qx st) (Zp st) .none kV doc pm an cdv ct):=⟨⟨oc,od,kV,doc,pm,an,cdv,ct,osl,rfl,l,c⟩,k⟩
end
theorem Zdd{A:c8}{k:Nat}(hr:Room k A):A.units+1<cLine:=Nat.lt_of_le_of_lt (Nat.add_le_add_left (by decide:1<=64) _) hr.units
def Zl(H H':Hp):Prop:=∀b o,H b=aA o->H' b=aA o
theorem Zl.refl(H:Hp):Zl H H:=λ_ _ h=>h
theorem Zl.trans{H H1 H2:Hp}(a:Zl H H1)(b:Zl H1 H2):Zl H H2:=λc o h=>b c o (a c o h)
theorem Zl.free{H H':Hp}(e:Zl H H'){l:ak}(h:H' l=Option.none):H l=Option.none:=by
 cases q:H l with
 |none=>rfl
 |some o=>rw[e l o q]at h;cases h
theorem PE.imp{X:Cx}{e:b7}{t t':TE}(h:PE X e t)(w:∀σ H Q,t' σ H Q->t σ H Q):PE X e t':=λpins s σ H Q I q=>h pins s σ H Q I (w σ H Q q)
theorem PT.imp{X:Cx}{e:b7}{t t':TT}(h:PT X e t)(w:∀σ H Q,t' σ H Q->t σ H Q):PT X e t':=λpins s σ H Q I q=>h pins s σ H Q I (w σ H Q q)
theorem PW.imp{X:Cx}{e:b7}{t t':TT}(h:PW X e t)(w:∀σ H Q,t' σ H Q->t σ H Q):PW X e t':=λwh pins s σ H Q I q=>h wh pins s σ H Q I (w σ H Q q)
theorem PA.imp{X:Cx}{e:List b7}{t t':TA}(h:PA X e t)(w:∀σ H Q,t' σ H Q->t σ H Q):PA X e t':=λpos pins s σ H Q I q=>h pos pins s σ H Q I (w σ H Q q)
theorem PS.imp{X:Cx}{e:Stmt}{t t':TS}(h:PS X e t)(w:∀D σ H,t' D σ H->t D σ H):PS X e t':=λpins s σ H D I q=>h pins s σ H D I (w D σ H q)
theorem Gp.imp{X:Cx}{e:List Stmt}{t t':TS}(h:Gp X e t)(w:∀D σ H,t' D σ H->t D σ H):Gp X e t':=λpins s σ H D I q=>h pins s σ H D I (w D σ H q)
theorem PG.imp{X:Cx}{e:b7}{t t':TG}(h:PG X e t)(w:∀v σ H Q,t' v σ H Q->t v σ H Q):PG X e t':=λpins s σ H v u Q I r q=>h pins s σ H v u Q I r (w v σ H Q q)
theorem PGs.imp{X:Cx}{e:List b7}{t t':TGs}(h:PGs X e t)(w:∀v σ H Q,t' v σ H Q->t v σ H Q):PGs X e t':=λpins s σ H vs us Q I r q=>h pins s σ H vs us Q I r (w vs σ H Q q)
theorem PI.imp{X:Cx}{tg e:b7}{t t':TI}(h:PI X tg e t)(w:∀σ H R,t' σ H R->t σ H R):PI X tg e t':=λpins s σ H R I q=>h pins s σ H R I (w σ H R q)
noncomputable def Ac(cells:List (Str×ak)):List (Str×NameKind)->List (Str×ak)->List (Str×ak)
 | [],cs=>cs
 | (n,k)::r,cs=>Ac cells r (if k= .free then(n,(cells.lookup n).getD 0)::cs else cs)
theorem Rc{env:Env}:∀(names:List (Str×NameKind)) (cs:List (Str×ak)),(∀y∈names,y.2= .free->∃c,env.cells.lookup y.1=aA c)->
    (forIn names cs (λx r=>if(x.2==eo)=aC then do let a<-cellOf env x.1;pure (ForInStep.yield ((x.1,a)::r))else pure (ForInStep.yield r)):Sem (List (Str×ak)))=pure (Ac env.cells names cs)
  | [],cs,_=>by rw[List.forIn_nil];rfl
  | (n,k)::r,cs,h=>by
    rw[List.forIn_cons];by_cases hk:k= .free
    · obtain⟨c,hc⟩:=h (n,k) af hk
      subst hk;have e1:cellOf env n=pure c:=by unfold cellOf;rw[hc]
      show((if(eo==eo)=aC then(cellOf env n >>=λa=>pure (ForInStep.yield ((n,a)::cs)))else pure (ForInStep.yield cs)) >>=λs=>_)=_;rw[if_pos (show(eo==eo)=aC by decide),e1];show(forIn r ((n,c)::cs) _:Sem (List (Str×ak)))=_;rw[Rc r _ λy hy=>h y (aj _ hy)];show _=pure (Ac env.cells r (if eo=eo then(n,(env.cells.lookup n).getD 0)::cs else cs));rw[if_pos rfl,hc];rfl
    · have hb:(k==eo)=aD:=by simpa using hk
      show((if(k==eo)=aC then(cellOf env n >>=λa=>pure (ForInStep.yield ((n,a)::cs)))else pure (ForInStep.yield cs)) >>=λs=>_)=_;rw[hb,if_neg ba];show(forIn r cs _:Sem (List (Str×ak)))=_;rw[Rc r _ λy hy=>h y (aj _ hy)];show _=pure (Ac env.cells r (if k=eo then _ else cs));rw[if_neg hk]
theorem Gw{scope:Scope}{env:Env}(h:∀y∈scope.names,y.2= .free->∃c,env.cells.lookup y.1=aA c):closureFor scope env=pure (Ac env.cells scope.names []):=by simp only[closureFor];rw[Rc scope.names [] h];rfl
theorem N2{cells:List (Str×ak)}{x:Str}{c:ak}:∀{names:List (Str×NameKind)} {cs:List (Str×ak)},(∀y∈names,y.2= .free->∃c,cells.lookup y.1=aA c)->
    (cs.lookup x=aA c->cells.lookup x=aA c)->(Ac cells names cs).lookup x=aA c->cells.lookup x=aA c
  | [],_,_,h0,e=>h0 e
  | (n,k)::r,cs,h,h0,e=>by
    refine N2 (names:=r) (λy hy=>h y (aj _ hy)) ?_ e;intro e';by_cases hk:k= .free
    · rw[if_pos hk]at e'
      obtain⟨c',hc⟩:=h (n,k) af hk;rw[hc]at e';by_cases hx:x==n
      · simp only[List.lookup_cons,hx]at e'
        cases e';have:x=n:=by simpa using hx
        rw[this];exact hc
      · have hx':(x==n)=aD:=by simpa using hx
        simp only[List.lookup_cons,hx']at e';exact h0 e'
    · rw[if_neg hk]at e';exact h0 e'
theorem Fj{cells:List (Str×ak)}{x:Str}:∀{names:List (Str×NameKind)} {cs:List (Str×ak)},(∃c,cs.lookup x=aA c)->∃c,(Ac cells names cs).lookup x=aA c
  | [],_,h=>h
  | (n,k)::r,cs,⟨c,h⟩=>by
    refine Fj (names:=r) ?_;by_cases hk:k= .free
    · rw[if_pos hk]
      by_cases hx:x==n
      · exact⟨(cells.lookup n).getD 0,by simp only[List.lookup_cons,hx]⟩
      · have hx':(x==n)=aD:=by simpa using hx
        exact⟨c,by simp only[List.lookup_cons,hx'];exact h⟩
    · rw[if_neg hk];exact⟨c,h⟩
theorem R5{cells:List (Str×ak)}{x:Str}:∀{names:List (Str×NameKind)} {cs:List (Str×ak)},(x,eo)∈names->∃c,(Ac cells names cs).lookup x=aA c
  | [],_,h=>nomatch h
  | (n,k)::r,cs,h=>by
    rcases bo.mp h with e|e
    · cases e
      refine Fj (names:=r) ⟨(cells.lookup x).getD 0,?_⟩;rw[if_pos rfl];simp[List.lookup_cons]
    · exact R5 (names:=r) e
noncomputable def rlF(env:Env):Str×NameKind->Str×NameKind:=λ(n,k)=>if(k==eo&&env.scope.kind== .function&&env.kindOf n==aA .cell)then(n,NameKind.cell)else(n,k)
theorem Lf(env:Env)(p:Str×NameKind):(rlF env p).1=p.1:=by obtain⟨n,k⟩:=p;unfold rlF;dsimp only;split<;> rfl
theorem Oc{f:Str×NameKind->Str×NameKind}(h:∀p,(f p).1=p.1)(x:Str):∀names:List (Str×NameKind),(names.map f).lookup x=(names.lookup x).map λk=>(f (x,k)).2
  | []=>rfl
  | (n,k)::r=>by
    have ih:=Oc h x r;have e:f (n,k)=(n,(f (n,k)).2):=Prod.ext (h (n,k)) rfl;rw[ay,e,List.lookup_cons,List.lookup_cons];cases hx:x==n with
    |true=>
      have:x=n:=by simpa using hx
      subst this;rfl
    |false=>exact ih
theorem Ax{x:Str}{k:NameKind}:∀{names:List (Str×NameKind)},names.lookup x=aA k->(x,k)∈names
  | [],h=>by simp at h
  | (n,k')::r,h=>by
    rw[List.lookup_cons]at h;cases hx:x==n with
    |true=>
      rw[hx]at h;have:x=n:=by simpa using hx
      subst this;cases h;exact af
    |false=>rw[hx]at h;exact aj _ (Ax h)
theorem Bk{env:Env}{names:List (Str×NameKind)}{x:Str}{kk:NameKind}(hn:∀y∈names,y.2≠.cell)(hk:kk= .cell\/kk= .free)(h:(names.map (rlF env)).lookup x=aA kk):(x,eo)∈names:=by
 rw[Oc (Lf env)]at h;obtain⟨k,h1,h2⟩:=dg.mp h;have hm:=Ax h1;have hc:k≠.cell:=hn _ hm;by_cases hf:k= .free
 .subst hf;exact hm
 .exfalso;have hb:(k==eo)=aD:=by simpa using hf
  unfold rlF at h2;simp only[hb,Bool.false_and,c7,if_false]at h2;rcases hk with e|e
  .exact hc (h2.trans e)
  .exact hf (h2.trans e)
inductive BSrc where
 |own|cap (j:Nat)|acc
def Zky(σ:St)(acc:ak):BSrc->Option V
 | .own=>aB
 | .cap j=>(σ[j]?).join
 | .acc=>aA (.ref acc)
def Vm(src:List BSrc)(σ:St)(acc:ak):St:=src.map (Zky σ acc)
abbrev Cx.block(X:Cx)(N':List Str)(scope:Scope)(C:ak)(s₀:ap)(H₀:Hp)(ex:List ak):Cx:=
 {X with N:=N',env:=compEnvC scope (Ac X.env.cells scope.names []) C X.env,s₀:=s₀,H₀:=H₀,outer:=X.stack,stack:=X.stack,ex:=ex,fn:=λ_=>aD,pn:=[],xe:=λ_ _=>False}
structure CompScope(X:Cx)(N':List Str)(scope:Scope)(src:List BSrc):Prop where
 kind:scope.kind= .function
 nocell:∀y∈scope.names,y.2≠.cell
 names:∀y∈scope.names,y.2= .local->scope.names.lookup y.1=aA .local
 free:∀y∈scope.names,y.2= .free->X.env.kindOf y.1=aA .cell\/X.env.kindOf y.1=aA .free
 len:src.length=N'.length
 cap:∀(k j:Nat) (x:Str),src[k]? =aA (.cap j)->N'[k]? =aA x->X.N[j]? =aA x/\(X.env.kindOf x=aA .cell\/X.env.kindOf x=aA .free)/\scope.names.lookup x=aA .free
 acc:∀(k:Nat) (x:Str),src[k]? =aA .acc->N'[k]? =aA x->scope.names.lookup x=aB
theorem Gr{env:Env}{names:List (Str×NameKind)}{x:Str}(h:names.lookup x=aB):(names.map (rlF env)).lookup x=aB:=by rw[Oc (Lf env),h];rfl
theorem Gs{env:Env}{names:List (Str×NameKind)}{x:Str}(h:names.lookup x=aA .free):(names.map (rlF env)).lookup x=aA .cell\/(names.map (rlF env)).lookup x=aA .free:=by
 rw[Oc (Lf env),h];unfold rlF;dsimp only[Option.map];split
 .exact .inl rfl
 .exact .inr rfl
section
variable{X:Cx}{N':List Str}{scope:Scope}{src:List BSrc}{pins:List (ak×Obj)}{σ:St}{H:Hp}{s:ap}{C acc:ak}{fp:List ak}
theorem N3{h1:du}{tk:Nat}(S:CompScope X N' scope src)(I:Inv X pins σ H s)(hC:C=s.heap.objs.size)(hf:∀b∈fp,Ra X pins H b)(hfo:∀b∈fp,∃o,s.heap.get? b=aA o)
  (hns:h1.Ns C λ_=>aB) (hk:∀b o,s.heap.get? b=aA o->h1.get? b=aA o):
  Inv (X.block N' scope C s H fp) [] (Vm src σ acc) H {s with heap:=h1,toks:=tk}:=by
 have cellf:∀y∈scope.names,y.2= .free->∃c,X.env.cells.lookup y.1=aA c:=λy hy e=>I.ok.has y.1 (S.free y hy e);have sub:∀x c,(Ac X.env.cells scope.names []).lookup x=aA c->X.env.cells.lookup x=aA c:=λx c e=>N2 cellf (λh=>by simp at h) e;have gt:∀b,b<s.heap.objs.size->b≠C:=λb hb e=>by rw[e,hC]at hb;exact eh _ hb
 refine⟨⟨I.ok.mod,S.kind,I.ok.glob,I.ok.blt,by rw[hC];exact bg _,λx y c h1 h2=>I.ok.inj x y c (sub x c h1) (sub y c h2),λx hx=>?_,λx c h=>absurd h ba,I.ok.hd,I.ok.frames,.inl rfl,λb hb=>?_,I.bs,
  fj I.ok.bsz I.sz,λb o e hb=>?_,λb hb hs=>?_,I.stack,I.stkFree⟩,rfl,I.bare,Un.kept hk,⟨_,hns,λi x v e1 e2 e3=>?_⟩,λx c e=>?_,?_,λx c e=>I.freeC x c (sub x c e),λp hp=>?_,I.hok.kept hk,?_⟩
 .rcases hx with hx|hx
  .exact R5 (Bk S.nocell (.inl rfl) hx)
  .exact R5 (Bk S.nocell (.inr rfl) hx)
 .obtain⟨f0,f1,f2,f3,f4,f5⟩:=hf b hb;refine⟨?_,λx c e=>f4 x c (sub x c e)⟩;show b≠C;obtain⟨o,ho⟩:=hfo b hb;exact gt b (bi ho)
 .obtain⟨f0,f1,f2,f3,f4,f5⟩:=hf b hb;rcases f3 with z|z
  .exact I.ok.noex b o e z
  .exact absurd (cn (bi e) (fj I.ok.bsz z)) (eh _)
 .obtain⟨f0,f1,f2,f3,f4,f5⟩:=hf b hb;rcases bo.mp (I.stkSub b hs)with z|z
  .exact f1 z
  .exact f2 z
 .have hsrc:∃q,src[i]? =aA q:=by
   cases q:src[i]? with
   |some q0=>exact⟨q0,rfl⟩
   |none=>have e2':(Vm src σ acc)[i]? =aA (aA v):=e2;unfold Vm at e2';rw[bn,q]at e2';cases e2'
  obtain⟨q,hq⟩:=hsrc;have e2':(Vm src σ acc)[i]? =aA (aA v):=e2;unfold Vm at e2';rw[bn,hq]at e2';have e2'':Zky σ acc q=aA v:=dz.inj e2';cases q with
  |own=>cases e2''
  |acc=>
   exfalso;have hno:=Gr (env:=X.env) (S.acc i x hq e1);have hno':(relabel scope X.env).names.lookup x=aB:=hno;have e3':Vb (relabel scope X.env) x:=e3;rcases e3' with z|z|z
   .rw[hno']at z;cases z
   .rw[hno']at z;cases z
   .rw[hno']at z;cases z
  |cap j=>
   obtain⟨hj,hkind,hfr⟩:=S.cap i j x hq e1;have hσ:σ[j]? =aA (aA v):=by
    have e4:(σ[j]?).join=aA v:=e2'';cases r:σ[j]? with
    |none=>rw[r]at e4;cases e4
    |some o=>rw[r]at e4;cases o with
     |none=>cases e4
     |some w'=>cases e4;rfl
   obtain⟨m,hn,hl⟩:=I.loc;obtain⟨u,ru,l⟩:=hl j x v hj hσ (by rcases hkind with z|z;exact .inr (.inl z);exact .inr (.inr z));refine⟨u,ru,?_⟩;rcases l with⟨z,_⟩|⟨_,c,hc,hcell⟩
   .rcases hkind with y|y
    .rw[y]at z;cases z
    .rw[y]at z;cases z
   .have e3':Vb (relabel scope X.env) x:=e3;have fin:∀kk,kk= .cell\/kk= .free->(relabel scope X.env).names.lookup x=aA kk->Zpp (X.block N' scope C s H fp).env h1 (λ_=>aB) x u:=λkk hkk hx=>by
     obtain⟨c',hc'⟩:=R5 (cells:=X.env.cells) (cs:=[]) (Bk S.nocell hkk hx);have:=sub x c' hc';rw[hc]at this;cases this;obtain⟨oc,hoc,hocd⟩:=hcell;refine .inr ⟨?_,c,hc',oc,hk c oc hoc,hocd⟩;rcases hkk with y|y
     .subst y;exact .inl hx
     .subst y;exact .inr hx
    rcases e3' with z|z|z
    .exfalso;have z':(relabel scope X.env).names.lookup x=aA .local:=z;rcases Gs (env:=X.env) hfr with y|y
     .have y':(relabel scope X.env).names.lookup x=aA .cell:=y;rw[z']at y';cases y'
     .have y':(relabel scope X.env).names.lookup x=aA .free:=y;rw[z']at y';cases y'
    .exact fin .cell (.inl rfl) z
    .exact fin .free (.inr rfl) z
 .obtain⟨v,oc,hoc,hocd⟩:=I.cell x c (sub x c e);exact⟨v,oc,hk c oc hoc,hocd⟩
 .show H C=aB;rw[hC];exact I.hok.fresh (bg _)
 .have hp':p∈([]:List (ak×Obj)):=by simpa using hp
  exact nomatch hp'
 .show(Vm src σ acc).length=N'.length;unfold Vm;rw[am];exact S.len
def Zde(src:List BSrc)(wi:TI)(g:TG)(tt:TT)(te:TE):TE:=λσ H Q=>wi σ H λJ H1=>∀acc,H1 acc=aB->
 ∃W:Nat->Nat->St->Hp->Prop,(∃m,W 0 m (Vm src σ acc) (Y7 H1 acc (.lst [])))/\∀i m σ' H,W i m σ' H->(J.stop i H/\Q (.ref acc) H)\/
  (J.go i H/\∀x H',J.yld i H x H'->g x σ' H' λσ2 H2=>tt σ2 H2 λb H3=>if b=aC then te σ2 H3 λy H4=>C9 (.ref acc) [y] H4 λ_ H5=>∃m',m'<m/\W (i+1) m' σ2 H5 else∃m',m'<m/\W (i+1) m' σ2 H3)
def PTs(X:Cx)(ifs:List b7)(t:TT):Prop:=
 ∀(pins:List (ak×Obj)) (s:ap) (σ:St) (H:Hp) (Q:Bool->Hp->Prop),Inv X pins σ H s->t σ H Q->
  br (cg X.prog X.w) X.A (forIn ifs aC λc r=>if r=aC then do let ok<-isTrue c X.env (dk c X.env);pure (ForInStep.yield ok)else pure (ForInStep.yield r)) (TP X pins σ Q) X.xe s
def Zql:TT:=λ_ H Q=>Q aC H
theorem Zhs:PTs X [] Zql:=λ_ s σ H Q I h=>wpAny_tests_nil ⟨H,I,h⟩
theorem Zht{c:b7}{t:TT}(h:PT X c t):PTs X [c] t:=λpins s σ H Q I q=>wpAny_tests_one (h pins s σ H Q I q)
theorem Za5{prog:b5}{w:cw}{A:c8}{s:ap}{elt target iter:b7}{ifs:List b7}{scope:Scope}{pos:Pos}{it acc:ag}{env:Env}{R:Result->ap->Prop}(I:Nat->ap->Prop)
  (turn:∀n s,I n s->br (cg prog w) A (pyNext it) (λr s₁=>match r with
   |none=>R (.ok .next) s₁
   |some v=>br (cg prog w) A (letOwnedTupleGo target it v) (λ_ s₀=>br (cg prog w) A (assign target env v) (λ_ s₂=>
     br (cg prog w) A (forIn ifs aC λc r=>if r=aC then do let ok<-isTrue c env (dk c env);pure (ForInStep.yield ok)else pure (ForInStep.yield r)) (λok s₃=>if ok=aC then br (cg prog w) A (dk elt env) (λx s₄=>
      br (cg prog w) A (call (.builtin "list.append") [acc,x]) (λ_ s₅=>∃m,m<n/\I m s₅) (λ_ _=>False) s₄) (λ_ _=>False) s₃
      else∃m,m<n/\I m s₃) (λ_ _=>False) s₂)
     (λ_ _=>False) s₀) (λ_ _=>False) s₁) (λ_ _=>False) s)
  (n:Nat) (h:I n s):codeAny (cg prog w) A (.compLoop (.ListComp elt [⟨target,iter,ifs,0⟩] scope pos) 0 it acc env) R s:=by
 refine codeAny_loop rfl I (λn s hI=>?_) n h;show br _ A ((compTurn (.ListComp elt [⟨target,iter,ifs,0⟩] scope pos) 0 it acc env).onRaise (λx=>do noteFrame x env;theTreesLotGoes x)) _ _ s;refine wpAny_noted ?_;rw[compTurn_list];refine ac (wpAny_standAt (ac (wpAny_mono (turn n s hI) (λr s₁ h₁=>?_) λ_ _ f=>f.elim)));cases r with
 |none=>exact ao h₁
 |some v=>
  refine ac (wpAny_mono h₁ (λ_ s₀ h₀'=>?_) λ_ _ f=>f.elim);refine ac (wpAny_mono h₀' (λ_ s₂ h₂=>?_) λ_ _ f=>f.elim);refine ac (wpAny_mono h₂ (λokb s₃ h₃=>?_) λ_ _ f=>f.elim);cases okb with
  |false=>exact ao ⟨rfl,h₃⟩
  |true=>exact ac (ac (wpAny_mono h₃ (λx s₄ h₄=>ac (wpAny_mono h₄ (λ_ s₅ h₅=>ao (ao ⟨rfl,h₅⟩)) λ_ _ f=>f.elim)) λ_ _ f=>f.elim))
theorem Ay{tg elt iter:b7}{ifs:List b7}{pos:Pos}{g:TG}{tt:TT}{te:TE}{it:ak}{tn:Nat->du->Prop}{J:It}{Q:VK}{RR:ag->ak->Result->ap->Prop}{E:ag->ap->Prop}
  (hc:X.calm=aC) (S:CompScope X N' scope src)
  (hg:∀(C:ak) (s₀:ap) (H₀:Hp) (ex:List ak),PG (X.block N' scope C s₀ H₀ ex) tg g)
  (ht:∀(C:ak) (s₀:ap) (H₀:Hp) (ex:List ak),PTs (X.block N' scope C s₀ H₀ ex) ifs tt)
  (he:∀(C:ak) (s₀:ap) (H₀:Hp) (ex:List ak),PE (X.block N' scope C s₀ H₀ ex) elt te)
  (I:Inv X pins σ H s) (T:Turn X.prog X.w X.K tg J fp it tn) (st:tn 0 s.heap) (hf:∀b∈fp,Ra X pins H b)
  (q:∀acc,H acc=aB->∃W:Nat->Nat->St->Hp->Prop,(∃m,W 0 m (Vm src σ acc) (Y7 H acc (.lst [])))/\∀i m σ' H,W i m σ' H->(J.stop i H/\Q (.ref acc) H)\/
   (J.go i H/\∀x H',J.yld i H x H'->g x σ' H' λσ2 H2=>tt σ2 H2 λb H3=>if b=aC then te σ2 H3 λy H4=>C9 (.ref acc) [y] H4 λ_ H5=>∃m',m'<m/\W (i+1) m' σ2 H5 else∃m',m'<m/\W (i+1) m' σ2 H3))
  (hRR:∀(acc C:ak) (s':ap) (H':Hp) (m:Str->Option ag),Inv X pins σ H' s'->Q (.ref acc) H'->s'.heap.Ns C m->H' C=aB->C≠X.env.locals->X.s₀.heap.objs.size<=C->(∀x c,X.env.cells.lookup x=aA c->c≠C)->(∀p∈X.pn++pins,p.1≠C)->
   RR (.ref acc) C (.ok .next) s'):
  br (cg X.prog X.w) X.A (newList []) (λacc s₃=>br (cg X.prog X.w) X.A (newFunctionEnv scope X.env.globals (Ac X.env.cells scope.names []) [] X.env.qual aB .none (aA X.env)) (λcenv s₄=>
   codeAny (cg X.prog X.w) X.A (.compStart (.ListComp elt [⟨tg,iter,ifs,0⟩] scope pos) 0 (.ref it) acc {cenv with scope:=relabel scope X.env}) (RR acc cenv.locals) s₄) E s₃) E s:=by
 have hfo:∀b∈fp,∃o,s.heap.get? b=aA o:=λb hb=>let⟨o,e,_⟩:=T.obj 0 _ st b hb;⟨o,e⟩
 refine wpAny_newObj_type (wpAny_newFunctionEnv S.nocell (by intro y hy;simp at hy) (λh₁ hns₁ hsb₁=>?_) S.kind);dsimp only at hns₁ hsb₁⊢;have hacc:H s.heap.objs.size=aB:=I.hok.fresh (bg _);have I3:Inv X pins σ (Y7 H s.heap.objs.size (.lst [])) {s with heap:=s.heap.push {cls:=.type "list",dict:=aB,data:=.seq ([]:List ag).toArray}}:=I.lnew (t':=s.toks) (its:=[]) (ys:=[]) .nil (d8 _);have hf3:∀b∈fp,Ra X pins (Y7 H s.heap.objs.size (.lst [])) b:=λb hb=>by obtain⟨f0,f⟩:=hf b hb;obtain⟨o,ho⟩:=hfo b hb;exact⟨by rw[Zv (de (bi ho))];exact f0,f⟩
 have hfo3:∀b∈fp,∃o,(s.heap.push {cls:=.type "list",dict:=aB,data:=.seq ([]:List ag).toArray}).get? b=aA o:=λb hb=>let⟨o,e⟩:=hfo b hb;⟨o,az _ e⟩
 obtain⟨W,⟨m0,w0⟩,turn⟩:=q _ hacc;generalize hH2:s.heap.push {cls:=.type "list",dict:=aB,data:=.seq ([]:List ag).toArray}=H2 at hns₁ hsb₁ I3 hfo3⊢;have keep:∀b o,H2.get? b=aA o->h₁.get? b=aA o:=λb o e=>hsb₁.extBut b o (de (bi e)) (az _ e);have J0:=N3 (N':=N') (scope:=scope) (src:=src) (acc:=s.heap.objs.size) (tk:=s.toks+([]:List (Str×ag)).length) (C:=H2.objs.size) S I3 rfl hf3 hfo3 (show h₁.Ns H2.objs.size (λ_=>aB)from hns₁) keep;have st1:tn 0 h₁:=T.keep 0 s.heap h₁ st λb hb o e=>keep b o (by rw[<-hH2];exact az _ e);have cne:H2.objs.size≠X.env.locals:=Nat.ne_of_gt I3.lt;have csz:X.s₀.heap.objs.size<=H2.objs.size:=I3.sz;have ccell:∀x c,X.env.cells.lookup x=aA c->c≠H2.objs.size:=λx c e z=>by obtain⟨v,oc,hoc,_⟩:=I3.cell x c e;exact absurd (bi hoc) (by rw[z];exact eh _)
 have cpin:∀p∈X.pn++pins,p.1≠H2.objs.size:=λp hp z=>absurd (bi (I3.pin p hp).1) (by rw[z];exact eh _);have loop:∀s₃:ap,s₃={s with heap:=h₁,toks:=s.toks+([]:List (Str×ag)).length}->
   codeAny (cg X.prog X.w) X.A (.compLoop (.ListComp elt [⟨tg,iter,ifs,0⟩] scope pos) 0 (.ref it) (.ref s.heap.objs.size) (compEnvC scope (Ac X.env.cells scope.names []) H2.objs.size X.env)) (RR (.ref s.heap.objs.size) H2.objs.size) s₃:=by
  rintro s₃ rfl;refine Za5 (λn s'=>∃i σ' H',Inv (X.block N' scope H2.objs.size {s with heap:=H2} (Y7 H s.heap.objs.size (.lst [])) fp) [] σ' H' s'/\tn i s'.heap/\(∀b∈fp,H' b=aB)/\W i n σ' H') ?_ m0 ⟨0,_,_,J0,st1,λb hb=>(hf3 b hb).1,w0⟩;rintro n s4 ⟨i,σ4,H4,J4,st4,fr4,w4⟩;have fok:∀{H':Hp},(∀b∈fp,H' b=aB)->∀b∈fp,Ra (X.block N' scope H2.objs.size {s with heap:=H2} (Y7 H s.heap.objs.size (.lst [])) fp) [] H' b:=fun{H'} hn b hb=>by
   obtain⟨f0,f1,f2,f3,f4,f5⟩:=hf3 b hb;refine⟨hn b hb,?_,λz=>J4.ok.exfs b hb z,.inl hb,λx c e=>(J4.ok.exf b hb).2 x c e,λp hp=>?_⟩
   .exact(J4.ok.exf b hb).1
   .have hp':p∈([]:List (ak×Obj)):=by simpa using hp
    exact nomatch hp'
  rcases turn i n σ4 H4 w4 with⟨stop,qn⟩|⟨go,step⟩
  .refine Wl (T.done (X.block N' scope H2.objs.size {s with heap:=H2} (Y7 H s.heap.objs.size (.lst [])) fp) rfl rfl rfl hc i [] s4 σ4 H4 _ J4 (fok fr4) st4 stop) λr s5 ⟨hr,J5⟩=>?_;subst hr;obtain⟨m5,hn5,_⟩:=J5.loc;have I5:Inv X pins σ H4 s5:=I3.call' (ch:=fp) J5.os J5.base J5.hok J5.bare λb hb=>by obtain⟨f0,f1,f2,f3,f4,f5⟩:=hf3 b hb;exact⟨f3,f1,f4,f5⟩
   exact hRR _ _ s5 H4 m5 I5 qn hn5 J5.free cne csz ccell cpin
  .refine Wl (T.item (X.block N' scope H2.objs.size {s with heap:=H2} (Y7 H s.heap.objs.size (.lst [])) fp) rfl rfl rfl hc i [] s4 σ4 H4 _ J4 (fok fr4) st4 go) λr s5 ⟨u,hr,h5⟩=>?_;subst hr;refine Wl h5 λ_ s6 zq9=>?_;obtain⟨x,H6,J6,r6,y6,st6,fr6⟩:=zq9;have J6':=J6.pinned (fok fr6) (T.obj _ _ st6);have again:∀{σ7:St} {H7:Hp} {s7:ap},Inv (X.block N' scope H2.objs.size {s with heap:=H2} (Y7 H s.heap.objs.size (.lst [])) fp) ([]++As fp s6.heap) σ7 H7 s7->(∃m',m'<n/\W (i+1) m' σ7 H7)->
     ∃m,m<n/\∃i σ' H',Inv (X.block N' scope H2.objs.size {s with heap:=H2} (Y7 H s.heap.objs.size (.lst [])) fp) [] σ' H' s7/\tn i s7.heap/\(∀b∈fp,H' b=aB)/\W i m σ' H':=fun{σ7 H7 s7} J7 ⟨m',hm,w7⟩=>by
    refine⟨m',hm,i+1,σ7,H7,J7.unpinned,T.keep _ _ _ st6 λb hb o e=>(J7.pin (b,o) (b6 _ (b6 _ (Bi hb e)))).1,λb hb=>?_,w7⟩;obtain⟨o,e,d⟩:=T.obj _ _ st6 b hb;exact(J7.pin (b,o) (b6 _ (b6 _ (Bi hb e)))).2.1
   refine Wl (hg _ _ _ _ _ s6 σ4 H6 x u _ J6' r6 (step x H6 y6)) λ_ s7 zq9=>?_;obtain⟨σ7,H7,J7,q7⟩:=zq9;refine Wl (ht _ _ _ _ _ s7 σ7 H7 _ J7 q7) λb s8 zq9=>?_;obtain⟨H8,J8,q8⟩:=zq9;cases b with
   |false=>rw[if_neg ba]at q8⊢;exact again J8 q8
   |true=>rw[if_pos rfl]at q8⊢;refine Wl (he _ _ _ _ _ s8 σ7 H8 _ J8 q8) λy s9 zq9=>?_;obtain⟨vy,H9,J9,r9,q9⟩:=zq9;refine Wl (Ga _ s9 σ7 H9 (.ref s.heap.objs.size) [vy] (.ref s.heap.objs.size) [y] _ J9 rfl (.cons r9 .nil) q9) λ_ s10 ⟨_,H10,J10,_,q10⟩=>again J10 q10
 exact codeAny_compStart_list (loop _ rfl) (T.self X.A 0 _ _ _ st1 (loop _ rfl))
theorem Zhu{tg elt iter:b7}{ifs:List b7}{pos:Pos}{wi:TI}{g:TG}{tt:TT}{te:TE}(hc:X.calm=aC)(S:CompScope X N' scope src)(hi:PI X tg iter wi)
  (hg:∀(C:ak) (s₀:ap) (H₀:Hp) (ex:List ak),PG (X.block N' scope C s₀ H₀ ex) tg g)
  (ht:∀(C:ak) (s₀:ap) (H₀:Hp) (ex:List ak),PTs (X.block N' scope C s₀ H₀ ex) ifs tt)
  (he:∀(C:ak) (s₀:ap) (H₀:Hp) (ex:List ak),PE (X.block N' scope C s₀ H₀ ex) elt te)
  (hs:∀x,foldedSetIterable iter X.env x=pure x:=by intro _;rfl):PE X (.ListComp elt [⟨tg,iter,ifs,0⟩] scope pos) (Zde src wi g tt te):=by
 intro pins s σ H Q I h;rw[eval_ListComp];refine wpAny_comprehension_free (use:=aB) rfl hs (Gw λy hy e=>I.ok.has y.1 (S.free y hy e)) S.kind S.names (Wl (hi pins s σ H _ I h) λv s1 h1=>Wl h1 λitv s2 h2=>?_);obtain⟨it,fp,tn,J,H2,e,I2,T,st2,f2,q⟩:=h2;subst e;refine Ay hc S hg ht he I2 T st2 f2 q λacc C s' H' m I' q' hn hC c1 c2 c3 c4=>⟨m,hn,λh' hs'=>?_⟩
 exact⟨.ref acc,H',I'.turned (t':=s'.toks) (λb o hb e=>(hs'.2 b hb).trans e) hC c1 (.inr c2) c3 c4,rfl,q'⟩
theorem Az{tg elt iter:b7}{ifs:List b7}{pos spos py:Pos}{wi:TI}{g:TG}{tt:TT}{te:TE}{i:Nat}{y:Str}(hc:X.calm=aC)(S:CompScope X N' scope src)(hi:PI X tg iter wi)
  (hg:∀(C:ak) (s₀:ap) (H₀:Hp) (ex:List ak),PG (X.block N' scope C s₀ H₀ ex) tg g)
  (ht:∀(C:ak) (s₀:ap) (H₀:Hp) (ex:List ak),PTs (X.block N' scope C s₀ H₀ ex) ifs tt)
  (he:∀(C:ak) (s₀:ap) (H₀:Hp) (ex:List ak),PE (X.block N' scope C s₀ H₀ ex) elt te)
  (hN:X.N.Nodup) (hiy:X.N[i]? =aA y) (hx:X.env.scope.names.lookup y=aA .local)
  (hsw:swapsWith (.ListComp elt [⟨tg,iter,ifs,0⟩] scope pos) (aA (.Name y py)) spos.line X.env=pure aC)
  (hs:∀x,foldedSetIterable iter X.env x=pure x:=by intro _;rfl):PS X (.Assign [.Name y py] (.ListComp elt [⟨tg,iter,ifs,0⟩] scope pos) spos) (Zap (Zde src wi g tt te) (Ar i)):=by
 intro pins s σ H D I h;rw[exec_Assign_Name_used _ _ _ _ hsw];refine ac (wpAny_standAt (ac ?_));show br _ X.A (do let _<-comprehension (.ListComp elt [⟨tg,iter,ifs,0⟩] scope pos) scope X.env _ (newList []) aD (dk iter X.env) (aA (assign (.Name y py) X.env))) _ _ s;refine ac (wpAny_mono (wpAny_comprehension_free (use:=aA (assign (.Name y py) X.env)) (Q:=λ_ s'=>SP X pins D .next s') rfl hs (Gw λy hy e=>I.ok.has y.1 (S.free y hy e)) S.kind S.names
  (Wl (hi pins s σ H _ I h) λv s1 h1=>Wl h1 λitv s2 h2=>?_)) (λ_ s' hq=>ao (ao hq)) λ_ _ e=>e)
 obtain⟨it,fp,tn,J,H2,e,I2,T,st2,f2,q⟩:=h2;subst e;refine Ay (Q:=λx H1=>Ar i x σ H1 D.nx) hc S hg ht he I2 T st2 f2 q λacc C s' H' m I' q' hn hC c1 c2 c3 c4=>?_;refine wpAny_assign_Name (I8 I' hN hiy (.inl hx) (v:=.ref acc) (u:=.ref acc) rfl (λs'' I'' ⟨a,hsb,ha⟩=>?_) (.inr hx));have hCa:C≠a:=by
  rcases ha with z|z
  .rw[z];exact c1
  .exact Ne.symm (c3 _ _ z)
 refine⟨m,hn.sameBut hsb hCa,λh' hs'=>?_⟩;exact⟨_,H',I''.turned (t':=s''.toks) (λb o hb e=>(hs'.2 b hb).trans e) hC c1 (.inr c2) c3 c4,q'⟩
end
structure Raised(h:du)(e:ak)(cls:ag)(dx tb:Option ak):Prop where
 obj:∃oe vs,h.get? e=aA oe/\oe.cls=cls/\oe.dict=dx/\oe.data= .fields vs/\vs[1]? =aA (match tb with|none=>.none|some T=>.ref T)
 tr:∀T,tb=aA T->T≠e/\∃oT ts fl,h.get? T=aA oT/\oT.data= .fields ts/\ts[3]? =aA fl
noncomputable def Zmz:Option ak->List ak
 |none=>[]
 |some T=>[T]
structure Noted(l:List ak)(h h':du)(e:ak)(cls:ag)(dx tb:Option ak)(T:ak):Prop where
 keep:∀b o,b≠e->b∉Zmz tb->b∉l->h.get? b=aA o->h'.get? b=aA o
 slot:∀b o,b∈l->h.get? b=aA o->∃sl,h'.get? b=aA {o with slots:=sl}
 new:h.get? T=aB\/aA T=tb
 r:Raised h' e cls dx (aA T)
section
variable{M:Model}{A:c8}{E:ag->ap->Prop}{s:ap}{base:du}{env:Env}{outer:List Env}{L e:ak}{cls:ag}{dx tb:Option ak}{Q:Unit->ap->Prop}
theorem Zdf(o:Obj)(f:Array ag->Array ag):(o.mapFields f).dict=o.dict:=by obtain⟨c,d,dt,sl⟩:=o;cases dt<;> rfl
theorem Fk{oe:Obj}{vs:Array ag}{head:ag}{hadNext:Bool}(hf:A.frames=aA (env::outer))(ff:s.heap.FunFrames base (env::outer))(hL:env.frame=aA L)
  (h1:s.heap.get? e=aA oe) (h3:oe.data= .fields vs) (hz:1<vs.size) (he:e∉C8 (env::outer))
  (h:∀h' T,(∀b o,b≠e->b∉C8 (env::outer)->s.heap.get? b=aA o->h'.get? b=aA o)->(∀b o,b≠e->b∈C8 (env::outer)->s.heap.get? b=aA o->∃sl,h'.get? b=aA {o with slots:=sl})->s.heap.get? T=aB->T≠e->
   h'.get? e=aA (oe.mapFields (·.setIfInBounds 1 (.ref T)))->(∃oT ts fl,h'.get? T=aA oT/\oT.data= .fields ts/\ts[3]? =aA fl)->Q () {s with heap:=h'}):
  br M A (do let a<-frameOf env;let pl<-entryPlaceOf L hadNext;let b<-EntryCells.newEntry head a .none (rawInt L) .none pl;setField (.ref e) 1 b) Q E s:=by
 refine ac (wpAny_frameOf_fun hf ff hL λg1 sl1=>ac (wpAny_entryPlaceOf λpl ip=>?_));unfold EntryCells.newEntry newFields;have e1:g1.get? e=aA oe:=(sl1.2.1 e he).trans h1;refine ac (wpAny_newObj_type (wpAny_setField (az _ e1) h3 hz ?_) (ip.sizeOk5 _ _ _ _ _));have ne:g1.objs.size≠e:=Nat.ne_of_gt (bi e1);have kp:∀b o,b≠e->g1.get? b=aA o->((g1.push {cls:=.type "traceback",dict:=aB,data:=.fields ([head,.ref L,.none,rawInt L,.none]++(if pl.isEmpty then List.replicate 6 dw else pl)).toArray}).update e (Obj.mapFields (·.setIfInBounds 1 (b9 g1.objs.size)))).get? b=aA o:=λb o nb q=>by rw[Heap.get?_update_other _ _ (Ne.symm nb)];exact az _ q
 refine h _ g1.objs.size (λb o nb nf q=>kp b o nb ((sl1.2.1 b nf).trans q)) (λb o nb hb q=>?_) (Heap.get?_none_of_le (by rw[sl1.1];exact bg _)) ne ?_ ?_
 .obtain⟨sl,q1⟩:=sl1.2.2 b o q;exact⟨sl,kp b _ nb q1⟩
 .exact Heap.get?_update_self _ (az _ e1) (Obj.isFreed_of_fields (fm h3 _))
 .refine⟨_,_,rawInt L,(Heap.get?_update_other _ _ (Ne.symm ne)).trans (b3 g1 rfl),rfl,?_⟩;simp
theorem N4(hf:A.frames=aA (env::outer))(ff:s.heap.FunFrames base (env::outer))(hL:env.frame=aA L)(r:Raised s.heap e cls dx tb)
  (h:∀h' T,Noted (C8 (env::outer)) s.heap h' e cls dx tb T->Q () {s with heap:=h'}):br M A (noteFrame (.ref e) env) Q E s:=by
 obtain⟨oe,vs,h1,h2,hd,h3,h5⟩:=r.obj;have norec:∀b o ws,s.heap.get? b=aA o->o.data= .fields ws->b∉C8 (env::outer):=λb o ws q qd hm=>by obtain⟨_,o',q1,q2⟩:=ff.mem hm;rw[q]at q1;cases q1;exact q2 ws qd
 have he:=norec e oe vs h1 h3;have hz:1<vs.size:=(Array.getElem?_eq_some_iff.mp h5).1;have obj':∀(h':du) (T:ak),h'.get? e=aA (oe.mapFields (·.setIfInBounds 1 (.ref T)))->∃oe vs,h'.get? e=aA oe/\oe.cls=cls/\oe.dict=dx/\oe.data= .fields vs/\vs[1]? =aA (.ref T):=λh' T q=>
  ⟨_,_,q,(Obj.cls_mapFields _ _).trans h2,(Zdf _ _).trans hd,fm h3 _,by simp[hz]⟩
 unfold noteFrame;simp only[hL];refine ac (wpAny_field h1 h3 h5 ?_);cases tb with
 |none=>rw[if_neg (by decide)];exact Fk hf ff hL h1 h3 hz he λh' T k1 k2 k3 k4 k5 k6=>h h' T ⟨λb o n1 _ n3 q=>k1 b o n1 n3 q,λb o hb q=>k2 b o (λz=>he (z▸hb)) hb q,.inl k3,obj' h' T k5,λT' z=>by cases z;exact⟨k4,k6⟩⟩
 |some T0=>
  obtain⟨r1,oT,ts,fl,r2,r3,r4⟩:=r.tr T0 rfl;have hT:=norec T0 oT ts r2 r3;rw[if_pos (show(b9 T0 !=dw)=aC from by simp)];refine ac (wpAny_field r2 r3 r4 ?_);by_cases hfl:(fl==rawInt L)=aC
  .rw[if_pos hfl];exact ao (h s.heap T0 ⟨λ_ _ _ _ _ q=>q,λb o _ q=>⟨o.slots,q⟩,.inr rfl,r⟩)
  .rw[if_neg hfl];have oth:∀b,b≠T0->(s.heap.update T0 (Obj.mapFields (·.setIfInBounds 3 dw))).get? b=s.heap.get? b:=λb hb=>Heap.get?_update_other _ _ (Ne.symm hb);have sz3:=(Array.getElem?_eq_some_iff.mp r4).1;have atT:(s.heap.update T0 (Obj.mapFields (·.setIfInBounds 3 dw))).get? T0=aA (oT.mapFields (·.setIfInBounds 3 dw)):=Heap.get?_update_self _ r2 (Obj.isFreed_of_fields (fm r3 _));refine ac (wpAny_setField r2 r3 sz3 (Fk (base:=base) hf (ff.of_keeps λb o q nf=>⟨o,(oth b λz=>nf ts (by rw[z,r2]at q;cases q;exact r3)).trans q,rfl⟩) hL ((oth e (Ne.symm r1)).trans h1) h3 hz he λh' T k1 k2 k3 k4 k5 k6=>?_));refine h h' T ⟨λb o n1 n2 n3 q=>k1 b o n1 n3 ((oth b λz=>n2 (by rw[z];exact aq.mpr rfl)).trans q),λb o hb q=>k2 b o (λz=>he (z▸hb)) hb ((oth b λz=>hT (z▸hb)).trans q),?_,obj' h' T k5,λT' z=>by cases z;exact⟨k4,k6⟩⟩;by_cases z:T=T0
   .exact .inr (by rw[z])
   .exact .inl ((oth T z).symm.trans k3)
theorem Re{T:ak}{fr:Option ak}{l:List ak}(r:Raised s.heap e cls dx (aA T))(hn:∀b o ws,s.heap.get? b=aA o->o.data= .fields ws->b∉l)
  (h:∀h',Noted l s.heap h' e cls dx (aA T) T->Q () {s with heap:=h'}):br M A (setFlight (.ref e) fr) Q E s:=by
 obtain⟨oe,vs,h1,h2,hd,h3,h5⟩:=r.obj;obtain⟨r1,oT,ts,fl,r2,r3,r4⟩:=r.tr T rfl;have sz3:=(Array.getElem?_eq_some_iff.mp r4).1;unfold setFlight;refine ac (wpAny_field h1 h3 h5 ?_);rw[if_pos (show(b9 T !=dw)=aC from by simp)];have oth:∀b,b≠T->(s.heap.update T (Obj.mapFields (·.setIfInBounds 3 (fr.elim .none λf=>rawInt f)))).get? b=s.heap.get? b:=λb hb=>Heap.get?_update_other _ _ (Ne.symm hb);refine wpAny_setField r2 r3 sz3 (h _ ⟨λb o n1 n2 n3 q=>(oth b λz=>n2 (by rw[z];exact aq.mpr rfl)).trans q,λb o hb q=>⟨o.slots,(oth b λz=>hn T oT ts r2 r3 (z▸hb)).trans q⟩,.inr rfl,⟨oe,vs,(oth e (Ne.symm r1)).trans h1,h2,hd,h3,h5⟩,λT' z=>?_⟩);cases z;exact⟨r1,_,_,fr.elim .none λf=>rawInt f,Heap.get?_update_self _ r2 (Obj.isFreed_of_fields (fm r3 _)),fm r3 _,by simp[sz3]⟩
theorem Noted.trans{l:List ak}{h h1 h2:du}{T T':ak}(a:Noted l h h1 e cls dx tb T)(b:Noted l h1 h2 e cls dx (aA T) T')(hT:T∉l)(hT0:∀T0,tb=aA T0->h.get? T=aB\/T=T0):Noted l h h2 e cls dx tb T':=by
 have nT:∀b o,b∉Zmz tb->h.get? b=aA o->b≠T:=λb o n q z=>by
  rcases a.new with k|k
  .rw[z,k]at q;cases q
  .rw[<-k]at n;exact n (by rw[z];exact aq.mpr rfl)
 refine⟨λc o n1 n2 n3 q=>b.keep c o n1 (λz=>nT c o n2 q (aq.mp z)) n3 (a.keep c o n1 n2 n3 q),λc o hc q=>?_,?_,b.r⟩
 .obtain⟨sl,q1⟩:=a.slot c o hc q;obtain⟨sl',q2⟩:=b.slot c _ hc q1;exact⟨sl',q2⟩
 .rcases b.new with k|k
  .by_cases hm:aA T'=tb
   .exact .inr hm
   .refine .inl ?_;cases z:h.get? T' with
    |none=>rfl
    |some o=>
     exfalso;by_cases hl:T'∈l
     .obtain⟨sl,q1⟩:=a.slot T' o hl z;rw[k]at q1;cases q1
     .by_cases he:T'=e
      .obtain⟨oe,vs,q1,_⟩:=a.r.obj;rw[<-he,k]at q1;cases q1
      .have:=a.keep T' o he (λy=>hm (by cases tb with
        |none=>cases y
        |some T0=>rw[aq.mp y])) hl z
       rw[k]at this;cases this
  .cases k;rcases a.new with k|k
   .exact .inl k
   .exact .inr k
theorem A0(hf:A.frames=aA (env::outer))(ff:s.heap.FunFrames base (env::outer))(hL:env.frame=aA L)(r:Raised s.heap e cls dx tb)
  (h:∀h' T,Noted (C8 (env::outer)) s.heap h' e cls dx tb T->Q () {s with heap:=h'}):br M A (leaving env (.ref e)) Q E s:=by
 have norec:∀b o ws,s.heap.get? b=aA o->o.data= .fields ws->b∉C8 (env::outer):=λb o ws q qd hm=>by obtain⟨_,o',q1,q2⟩:=ff.mem hm;rw[q]at q1;cases q1;exact q2 ws qd
 unfold leaving;refine ac (N4 hf ff hL r λh1 T1 n1=>?_);have norec1:∀b o ws,h1.get? b=aA o->o.data= .fields ws->b∉C8 (env::outer):=λb o ws q qd hm=>by obtain⟨_,o',q1,q2⟩:=ff.mem hm;obtain⟨sl,q3⟩:=n1.slot b o' hm q1;rw[q]at q3;cases q3;exact q2 ws qd
 refine Re (s:={s with heap:=h1}) n1.r norec1 λh2 n2=>?_;obtain⟨_,oT,ts,fl,r2,r3,_⟩:=n1.r.tr T1 rfl;exact h h2 T1 (n1.trans n2 (norec1 T1 oT ts r2 r3) λT0 z=>by
  rcases n1.new with k|k
  .exact .inl k
  .rw[z]at k;cases k;exact .inr rfl)
end
def Nk(P:b5)(w:cw):CXT:=λouter H s E e s'=>∃(a:ak) (cls:ag) (dx:Option ak) (T:ak) (H':Hp),e= .ref a/\s'.os=s.os/\AllBare s'.gens/\Un (C8 outer) [] H H' s.heap s'.heap/\Ck P w H' s'.heap/\
 Raised s'.heap a cls dx (aA T)/\s.heap.get? a=aB/\s.heap.get? T=aB/\H' a=aB/\H' T=aB/\E cls dx H'
def A1(X:Cx)(EX:XK):Prop:=∀(pins:List (ak×Obj)) (σ:St) (H:Hp) (s:ap) (e:ak) (cls:ag) (dx tb:Option ak),Inv X pins σ H s->Raised s.heap e cls dx tb->X.s₀.heap.get? e=aB->H e=aB->
 (∀T,tb=aA T->X.s₀.heap.get? T=aB/\H T=aB)->EX cls dx H->X.xe (.ref e) s
theorem Yu.has{P:b5}{w:cw}{H:Hp}{h:du}{a:ak}:∀{o:HO},Yu P w H h a o->∃u,h.get? a=aA u:=by
 intro o;induction o with
 |lst xs=>intro⟨_,_,_,_,e⟩;exact⟨_,e⟩
 |tup xs=>intro⟨_,_,_,_,e,_⟩;exact⟨_,e⟩
 |dK kvs ep=>intro⟨_,_,_,_,o,_,e,_⟩;exact⟨_,e⟩
 |dT kvs ep bs=>intro⟨_,_,_,_,o,_,e,_⟩;exact⟨_,e⟩
 |dN kvs ep bs=>intro⟨_,_,_,_,o,_,e,_⟩;exact⟨_,e⟩
 |set S n=>intro⟨o,_,_,_,e,_⟩;exact⟨_,e⟩
 |ins C dx fs=>intro⟨_,_,_,e,_⟩;exact⟨_,e⟩
 |own y=>intro⟨_,e⟩;exact⟨_,e⟩
 |xd fs=>intro⟨_,⟨_,_,_,e,_⟩,_⟩;exact⟨_,e⟩
 |rng lo hi=>intro⟨_,_,_,e⟩;exact⟨_,e⟩
 |frz ob u _=>intro⟨e,_⟩;exact⟨_,e⟩
 |tbl ps=>intro e;exact⟨_,(show h.get? a=aA _ from e)⟩
 |met f y=>intro e;exact⟨_,(show h.get? a=aA _ from e)⟩
 |tab q=>intro⟨_,e,_⟩;exact⟨_,e⟩
 |ext φ=>intro⟨_,⟨_,e⟩,_⟩;exact⟨_,e⟩
theorem Ck.gone{P:b5}{w:cw}{H:Hp}{h:du}(ok:Ck P w H h){a:ak}(n:h.get? a=aB):H a=aB:=by
 cases e:H a with
 |none=>rfl
 |some o=>obtain⟨u,q⟩:=(ok a o e).has;rw[n]at q;cases q
theorem Hn{P:b5}{w:cw}{H:Hp}{h h':du}(ok:Ck P w H h)(k:∀b o,H b≠aB->h.get? b=aA o->h'.get? b=aA o):Ck P w H h':=λa o e=>
 (ok a o e).stay (λb u hb q=>k b u (by rcases hb with hb|hb<;> rw[hb]<;> simp[e]) q) (λ_ z=>z) λ_ _ z=>z
theorem Zdg{env:Env}{l:List Env}{b:ak}(h:b∈C8 l):b∈C8 (env::l):=by unfold C8 at h⊢;obtain⟨x,hx,e⟩:=List.mem_filterMap.mp h;exact List.mem_filterMap.mpr ⟨x,aj _ hx,e⟩
theorem O5{P:b5}{w:cw}{K:ad}{mg:Str->Option ag}{base:du}{N:List Str}{qual:Str}{scope:Scope}{f:ak}{cd:ag}{A:c8}{outer:List Env}{s:ap}{H:Hp}{E:XK}:
  A1 (Gq (Nk P w) P w K mg base N qual scope f cd A outer s H E) E:=by
 intro pins σ H1 s1 e cls dx tb I r he heH hT q;have hf:=I.ok.frames;have ff:=I.stack;have hfr:(Gq (Nk P w) P w K mg base N qual scope f cd A outer s H E).env.frame=aA (Gq (Nk P w) P w K mg base N qual scope f cd A outer s H E).env.locals:=by
  rcases I.ok.stk with z|z
  .have:=congrArg List.length z;exact absurd this (by show outer.length+1≠outer.length;omega)
  .exact z.2
 have sf:=I.stkFree;have he':s.heap.get? e=aB:=he;have up:Un (C8 outer) [] H H1 s.heap s1.heap:=I.base;refine A0 hf ff hfr r λh' T zq9=>?_;obtain⟨k1,k2,k3,r'⟩:=zq9;have hT':s.heap.get? T=aB/\H1 T=aB:=by
  rcases k3 with k3|k3
  .refine⟨?_,I.hok.gone k3⟩;cases z:s.heap.get? T with
   |none=>rfl
   |some o=>obtain⟨o',q'⟩:=up.there T o z (by simp);rw[k3]at q';cases q'
  .exact hT T k3.symm
 have old:∀b o,s.heap.get? b=aA o->b≠e/\b∉Zmz tb:=λb o qb=>by
  refine⟨(λz=>by rw[z,he']at qb;cases qb),λz=>?_⟩;cases tb with
  |none=>cases z
  |some T0=>have:=(hT T0 rfl).1;rw[aq.mp z]at qb;have this':s.heap.get? T0=aB:=this;rw[this']at qb;cases qb
 have loc:∀b o,s.heap.get? b=aA o->b∉C8 outer->b∉C8 ((Gq (Nk P w) P w K mg base N qual scope f cd A outer s H E).env::outer):=λb o qb hb hm=>by
  unfold C8 at hm;rw[List.filterMap_cons,hfr]at hm;rcases bo.mp hm with z|z
  .have:=I.ok.above;have h2:=bi qb;rw[z]at h2;exact absurd h2 (Nat.not_lt.mpr this)
  .exact hb z
 refine⟨e,cls,dx,T,H1,rfl,I.os,I.bare,⟨λb o qb n hb hx=>?_,λb o qb n hb hx=>?_,λb o qb n hx=>up.free b o qb n hx,λb o qb hx=>?_,up.tups,up.frzs,up.tbls⟩,?_,r',he',hT'.1,heH,hT'.2,q⟩
 .obtain⟨o1,o2⟩:=old b o qb;exact k1 b o o1 o2 (loc b o qb hb) (up.keep b o qb n hb hx)
 .obtain⟨sl,q1⟩:=up.slot b o qb n hb hx;obtain⟨sl',q2⟩:=k2 b _ (Zdg hb) q1;exact⟨sl',q2⟩
 .obtain⟨o',q1⟩:=up.there b o qb hx;obtain⟨o1,o2⟩:=old b o qb;by_cases b1:b∈C8 ((Gq (Nk P w) P w K mg base N qual scope f cd A outer s H E).env::outer)
  .obtain⟨sl,z⟩:=k2 b o' b1 q1;exact⟨_,z⟩
  .exact⟨o',k1 b o' o1 o2 b1 q1⟩
 .refine Hn I.hok λb o hb qb=>k1 b o (λz=>hb (by rw[z];exact heH)) (λz=>?_) (λz=>hb (sf b z)) qb;cases tb with
  |none=>cases z
  |some T0=>exact hb (by rw[aq.mp z];exact(hT T0 rfl).2)
abbrev VEB:List Value:=[.type "ValueError",.type "Exception",.type "BaseException",.type "object"]
theorem Vn{h h':du}{bmB:List ag}(k:∀b o,h.get? b=aA o->h'.get? b=aA o):∀{bm:List ag},OwnTail h bmB bm->OwnTail h' bmB bm:=by
 intro bm t;induction t with
 |base=>exact .base
 |own e n m _ ih=>exact .own (k _ _ e) (n.keeps k) m ih
def Zdh(EX:XK)(C:ak)(t:TA):TS:=λ_ σ H=>t σ H λvs H1=>vs.length<=sizeLine/\EX (.ref C) aB H1
theorem Zdi{X:Cx}{EX:XK}{x:Str}{C:ak}{np cpos pos:Pos}{a:b7}{t:TA}(th:A1 X EX)(hc:X.calm=aC)(hex:X.ex=[])(oc:OwnCls x C VEB "ValueError.__new__" X.mg X.base)(hg:Gl X x)(ha:PA X [a] t)
  (he:av [a] X.env=(aD,dk a X.env)::av [] X.env:=by rfl) (hpl:((dj cpos (av [a] X.env)).any λx=>x.1)=aD:=by rfl)
  (hbk:∃y rest,dj cpos (av [a] X.env)=(aD,y)::rest:=by exact⟨_,_,rfl⟩)
  (hbm:∀h bm,OwnTail h VEB bm->bm.contains (.type "BaseException")=aC) (hd:(x==("__debug__":Str))=aD:=by decide):PS X (.Raise (aA (.Call (.Name x np) [a] [] cpos)) aB pos) (Zdh EX C t):=by
 intro pins s σ H D I h;obtain⟨hb,bm,N,nm,q,bs,hdct,sn,sub,ab,col,dd,k0,k1,k2,k3,k5,mN,o1,o2,o3,o4⟩:=oc;refine wpAny_Raise_call_subU (C:=C) (Bn:="ValueError") (B:="ValueError") (nm:=nm) (q:=q) (N:=N) (bs:=bs) (bm:=bm) (hdct:=hdct) (sn:=sn) (sub:=sub) (ab:=ab) (col:=col) (dd:=dd) (k0:=k0) (k1:=k1) (k2:=k2) (k3:=k3) (k5:=k5) (mN:=mN) PySem.F.excBase_ValueError (by decide) PySem.F.excBase_ValueError (hbm _ _ o4) (I.ok.hd hc) hpl o3 ?_;refine Rx I hg hb ⟨rfl,?_⟩ hd;obtain⟨y,rest,hy⟩:=hbk;rw[hy];refine Calls.evalArgs_plain ?_;rw[<-hy];refine Wl (ha cpos pins s σ H _ I h) λus s2 ⟨vs,H2,I2,r2,zl,q2⟩=>⟨rfl,(by rw[<-r2.length];exact zl),I2.bk _ _ o1,o2.keeps I2.bk,Vn I2.bk o4,λh' e m=>?_⟩
 .obtain⟨T,m1,m2,m3⟩:=m.there;have I3:Inv X pins σ H2 {s2 with heap:=h'}:=I2.kept (t':=s2.toks) m.keeps;refine th pins σ H2 _ e (.ref C) aB aB I3 ⟨⟨_,_,m1,rfl,rfl,rfl,rfl⟩,λT' z=>nomatch z⟩ ?_ ?_ (λT' z=>nomatch z) q2
  .cases z:X.s₀.heap.get? e with
   |none=>rfl
   |some o=>obtain⟨o',z'⟩:=I2.base.there e o z (by rw[hex];simp);rw[m.new]at z';cases z'
  .exact Ck.gone I2.hok m.new
abbrev EXT:=ag->Option ak->St->Hp->Prop
def Bl(X:Cx)(EX:EXT):Prop:=∀(pins:List (ak×Obj)) (σ:St) (H:Hp) (s:ap) (e:ak) (cls:ag) (dx:Option ak) (T:ak),Inv X pins σ H s->Raised s.heap e cls dx (aA T)->X.s₀.heap.get? e=aB->H e=aB->
 X.s₀.heap.get? T=aB->H T=aB->(∀p∈X.pn++pins,p.1≠e/\p.1≠T)->(e≠X.env.locals/\T≠X.env.locals)->(∀x c,X.env.cells.lookup x=aA c->c≠e/\c≠T)->EX cls dx σ H->X.xe (.ref e) s
theorem A1.t{X:Cx}{EX:XK}(h:A1 X EX):Bl X λcls od _ H=>EX cls od H:=λpins σ H s e cls dx T I r h1 h2 h3 h4 _ _ _ q=>h pins σ H s e cls dx (aA T) I r h1 h2 (λT' z=>by cases z;exact⟨h3,h4⟩) q
theorem Zhv{X:Cx}{EX:EXT}(th:Bl X EX)(hex:X.ex=[]){pins:List (ak×Obj)}{σ:St}{H:Hp}{s s':ap}{e:ag}(I:Inv X pins σ H s)(h:Nk X.prog X.w X.stack H s (λcls od H'=>EX cls od σ H') e s'):X.xe e s':=by
 obtain⟨a,cls,dx,T,H',he,os,bare,un,hok,r,n1,n2,n3,n4,q⟩:=h;subst he;have I':Inv X pins σ H' s':=I.call' (ch:=[]) os un hok bare (λb hb=>nomatch hb);have old:∀b,s.heap.get? b=aB->X.s₀.heap.get? b=aB:=λb hb=>by
  cases z:X.s₀.heap.get? b with
  |none=>rfl
  |some o=>obtain⟨o',z'⟩:=I.base.there b o z (by rw[hex];simp);rw[hb]at z';cases z'
 have pin:∀b,s.heap.get? b=aB->∀p∈X.pn++pins,p.1≠b:=λb hb p hp z=>by have:=(I.pin p hp).1;rw[z,hb]at this;cases this
 have loc:∀b,s.heap.get? b=aB->b≠X.env.locals:=λb hb z=>by obtain⟨m,⟨o,es,ep,ho,_⟩,_⟩:=id I.loc;rw[z,ho]at hb;cases hb
 have cel:∀b,s.heap.get? b=aB->∀x c,X.env.cells.lookup x=aA c->c≠b:=λb hb x c hc z=>by obtain⟨v,o,ho,_⟩:=I.cell x c hc;rw[z,hb]at ho;cases ho
 exact th pins σ H' s' a cls dx T I' r (old a n1) n3 (old T n2) n4 (λp hp=>⟨pin a n1 p hp,pin T n2 p hp⟩) ⟨loc a n1,loc T n2⟩ (λx c hc=>⟨cel a n1 x c hc,cel T n2 x c hc⟩) q
def Ho(X:Cx)(EX:EXT):Prop:=∀(pins:List (ak×Obj)) (σ:St) (H:Hp) (s:ap) (e:ag) (s':ap),Inv X pins σ H s->Nk X.prog X.w X.stack H s (λcls od H'=>EX cls od σ H') e s'->X.xe e s'
theorem Bl.pass{X:Cx}{EX:EXT}(th:Bl X EX)(hex:X.ex=[]):Ho X EX:=λ_ _ _ _ _ _ I h=>Zhv th hex I h
def Zdj(sp:Sp)(EX:EXT)(t:TA):TE:=λσ H Q=>t σ H λvs H1=>sp vs H1 Q λcls od H'=>EX cls od σ H'
theorem Zdk{X:Cx}{EX:EXT}{k:Nat}{f:ak}{fd:bx}{ps:List Str}{sp:Sp}{x:Str}{p pos:Pos}{e:b7}{es:List b7}{t:TA}(F:FnOk X.prog X.w X.K X.mg X.base (Nk X.prog X.w) k f fd ps sp)(hr:Room k X.A)(hg:Gl X x)(hm:X.mg x=aA (.ref f))(hk:bc X.K (.ref f)=aC)(hb:Yz X.K fd ps [])
  (th:Ho X EX) (ha:PA X (e::es) t) (hdb:(x==("__debug__":Str))=aD:=by decide) (he:av (e::es) X.env=(aD,dk e X.env)::av es X.env:=by rfl) (hpl:(dj pos (av es X.env)).any (·.1)=aD:=by rfl):
  PE X (.Call (.Name x p) (e::es) [] pos) (Zdj sp EX t):=by
 intro pins s σ H Q I h;refine wpAny_Call_Name_kw (Rx I hg hm ?_ hdb);refine PySem.W.callWith_K (h₀:=X.base) I.ok.mod.kin hk (Wl (ha pos pins s σ H _ I h) λus s1 ⟨vs,H1,I1,r,q⟩=>⟨I1.kIn,?_⟩) he hpl;have hl:(us++[]).length=ps.length:=by rw[dm,<-r.length];exact F.len _ _ _ _ q
 have bb:=hb s1 us I1.kIn hl;rw[dm]at bb;refine wpAny_call (codeAny_mono (F.run X.A X.stack s1 H1 ⟨us,[]⟩ us vs Q _ hr I1.env0 bb r q) λr' s' hq=>?_);cases r' with
 |error e=>exact th _ _ _ _ _ _ I1 hq
 |ok fl=>
  cases fl with
  |ret u=>exact I1.after hq
  |next=>exact False.elim hq
  |brk=>exact False.elim hq
  |cont=>exact False.elim hq
structure Air(X:Cx)(pins:List (ak×Obj))(H:Hp)(s:ap)(e:ak)(cls:ag)(dx:Option ak)(T:ak):Prop where
 r:Raised s.heap e cls dx (aA T)
 e0:X.s₀.heap.get? e=aB
 eH:H e=aB
 t0:X.s₀.heap.get? T=aB
 tH:H T=aB
 pe:∀p∈X.pn++pins,p.1≠e/\p.1≠T
 le:e≠X.env.locals/\T≠X.env.locals
 ce:∀x c,X.env.cells.lookup x=aA c->c≠e/\c≠T
section
variable{X:Cx}{pins:List (ak×Obj)}{σ:St}{H:Hp}{s:ap}{e T:ak}{cls:ag}{dx:Option ak}
theorem Inv.air{h':du}{T':ak}(I:Inv X pins σ H s)(a:Air X pins H s e cls dx T)(hex:X.ex=[])(k1:∀b o,b≠e->b≠T->b∉C8 X.stack->s.heap.get? b=aA o->h'.get? b=aA o)
  (k2:∀b o,b∈C8 X.stack->s.heap.get? b=aA o->∃sl,h'.get? b=aA {o with slots:=sl}) (r':Raised h' e cls dx (aA T')) (hT:s.heap.get? T'=aB\/T'=T):
  Inv X pins σ H {s with heap:=h'}/\Air X pins H {s with heap:=h'} e cls dx T':=by
 have old:∀b o,X.s₀.heap.get? b=aA o->b≠e/\b≠T:=λb o q=>⟨(λz=>by rw[z,a.e0]at q;cases q),(λz=>by rw[z,a.t0]at q;cases q)⟩
 have nl:∀b o,X.s₀.heap.get? b=aA o->b≠X.env.locals:=λb o q=>de (cn (bi q) I.ok.above);have nst:∀b,b≠X.env.locals->b∉X.fs->b∉C8 X.stack:=λb h1 h2 z=>(bo.mp (I.stkSub b z)).elim h1 h2;have any:∀b o,b≠e->b≠T->s.heap.get? b=aA o->∃sl,h'.get? b=aA {o with slots:=sl}:=λb o n1 n2 q=>by
  by_cases hb:b∈C8 X.stack
  .exact k2 b o hb q
  .exact⟨o.slots,k1 b o n1 n2 hb q⟩
 have cellK:∀x c,X.env.cells.lookup x=aA c->∀v,s.heap.IsCell c v->h'.IsCell c v:=λx c ec v ⟨o,ho,hd⟩=>by obtain⟨sl,q⟩:=any c o (a.ce x c ec).1 (a.ce x c ec).2 ho;exact⟨_,q,hd⟩
 refine⟨⟨I.ok,I.os,I.bare,⟨λb o q n hb hx=>?_,λb o q n hb hx=>?_,I.base.free,λb o q hx=>?_,I.base.tups,I.base.frzs,I.base.tbls⟩,?_,λx c ec=>?_,I.free,I.freeC,λp hp=>?_,?_,I.len⟩,⟨r',a.e0,a.eH,?_,?_,λp hp=>⟨(a.pe p hp).1,?_⟩,⟨a.le.1,?_⟩,λx c ec=>⟨(a.ce x c ec).1,?_⟩⟩⟩
 .exact k1 b o (old b o q).1 (old b o q).2 (nst b (nl b o q) hb) (I.base.keep b o q n hb hx)
 .obtain⟨sl,q1⟩:=I.base.slot b o q n hb hx;obtain⟨sl',q2⟩:=any b _ (old b o q).1 (old b o q).2 q1;exact⟨sl',q2⟩
 .obtain⟨o',q1⟩:=I.base.there b o q hx;obtain⟨sl',q2⟩:=any b _ (old b o q).1 (old b o q).2 q1;exact⟨_,q2⟩
 .obtain⟨m,⟨o,es,ep,ho,rr⟩,hl⟩:=I.loc;obtain⟨sl,q2⟩:=any _ o (Ne.symm a.le.1) (Ne.symm a.le.2) ho;refine⟨m,⟨_,es,ep,q2,rr⟩,λi x v e1 e2 e3=>?_⟩;obtain⟨u,r,l⟩:=hl i x v e1 e2 e3;refine⟨u,r,?_⟩;rcases l with l|⟨k,c,ec,z⟩
  .exact .inl l
  .exact .inr ⟨k,c,ec,cellK x c ec _ z⟩
 .obtain⟨v,z⟩:=I.cell x c ec;exact⟨v,cellK x c ec v z⟩
 .obtain⟨q,n,ne,nf,d⟩:=I.pin p hp;exact⟨k1 p.1 p.2 (a.pe p hp).1 (a.pe p hp).2 (nst _ ne nf) q,n,ne,nf,d⟩
 .exact Hn I.hok λb o hb q=>k1 b o (λz=>hb (by rw[z];exact a.eH)) (λz=>hb (by rw[z];exact a.tH)) (λz=>hb (I.stkFree b z)) q
 .rcases hT with hT|hT
  .cases z:X.s₀.heap.get? T' with
   |none=>rfl
   |some o=>obtain⟨o',q⟩:=I.base.there T' o z (by rw[hex];simp);rw[hT]at q;cases q
  .rw[hT];exact a.t0
 .rcases hT with hT|hT
  .exact I.hok.gone hT
  .rw[hT];exact a.tH
 .rcases hT with hT|hT
  .intro z;have:=(I.pin p hp).1;rw[z,hT]at this;cases this
  .rw[hT];exact(a.pe p hp).2
 .rcases hT with hT|hT
  .intro z;obtain⟨m,⟨o,es,ep,ho,_⟩,_⟩:=I.loc;rw[<-z,hT]at ho;cases ho
  .rw[hT];exact a.le.2
 .rcases hT with hT|hT
  .intro z;obtain⟨v,o,ho,_⟩:=I.cell x c ec;rw[z,hT]at ho;cases ho
  .rw[hT];exact(a.ce x c ec).2
theorem Inv.noted{h':du}{T':ak}(I:Inv X pins σ H s)(a:Air X pins H s e cls dx T)(hex:X.ex=[])(n:Noted (C8 X.stack) s.heap h' e cls dx (aA T) T'):Inv X pins σ H {s with heap:=h'}/\Air X pins H {s with heap:=h'} e cls dx T':=
 I.air a hex (λb o n1 n2 n3 q=>n.keep b o n1 (λz=>n2 (aq.mp z)) n3 q) n.slot n.r (by
  rcases n.new with k|k
  .exact .inl k
  .cases k;exact .inr rfl)
theorem Op{M:Model}{A:c8}{E:ag->ap->Prop}{Q:ap->Prop}(I:Inv X pins σ H s)(a:Air X pins H s e cls dx T)(hex:X.ex=[])(hA:A.frames=aA X.stack)(hst:X.stack=X.env::X.outer)(hfr:X.env.frame=aA X.env.locals)
  (k:∀h' T',Inv X pins σ H {s with heap:=h'}->Air X pins H {s with heap:=h'} e cls dx T'->Q {s with heap:=h'}):
  br M A (noteFrame (.ref e) X.env) (λ_ s2=>br M A (setFlight (.ref e) aB) (λ_ s3=>Q s3) E s2) E s/\br M A (setFlight (.ref e) aB) (λ_ s3=>Q s3) E s:=by
 have nor:∀{σ:St} {H:Hp} {s:ap},Inv X pins σ H s->∀b o ws,s.heap.get? b=aA o->o.data= .fields ws->b∉C8 X.stack:=fun{σ H s} I b o ws q qd hm=>by obtain⟨_,o',q1,q2⟩:=I.stack.mem hm;rw[q]at q1;cases q1;exact q2 ws qd
 constructor
 .have ff:s.heap.FunFrames X.base (X.env::X.outer):=by rw[<-hst];exact I.stack
  refine N4 (by rw[hA,hst]) ff hfr a.r λh1 T1 n1=>?_;rw[<-hst]at n1;obtain⟨I1,a1⟩:=I.noted a hex n1;refine Re (s:={s with heap:=h1}) a1.r (nor I1) λh2 n2=>?_;obtain⟨I2,a2⟩:=I1.noted a1 hex n2;exact k h2 T1 I2 a2
 .refine Re a.r (nor I) λh2 n2=>?_;obtain⟨I2,a2⟩:=I.noted a hex n2;exact k h2 T I2 a2
end
noncomputable abbrev Cx.inTry(X:Cx)(pn:List (ak×Obj))(xe:ag->ap->Prop):Cx:={X with pn:=pn,xe:=xe}
noncomputable abbrev Cx.inSuite(X:Cx)(a:ak):Cx:={X with A:=X.A.mark (aA (.ref a)),calm:=aD,xe:=λ_ _=>False}
section
variable{X:Cx}{pins:List (ak×Obj)}{σ:St}{H:Hp}{s:ap}{e T:ak}{cls:ag}{dx:Option ak}{xe:ag->ap->Prop}
theorem Cx.Ok.tryIn{pn:List (ak×Obj)}(k:X.Ok):(X.inTry pn xe).Ok:=⟨k.mod,k.kind,k.glob,k.blt,k.above,k.inj,k.has,k.cab,k.hd,k.frames,k.stk,k.exf,k.bs,k.bsz,k.noex,k.exfs,k.funs,k.frf⟩
theorem Cx.Ok.suiteIn(k:X.Ok):(X.inSuite e).Ok:=⟨k.mod,k.kind,k.glob,k.blt,k.above,k.inj,k.has,k.cab,(λh=>nomatch h),k.frames,k.stk,k.exf,k.bs,k.bsz,k.noex,k.exfs,k.funs,k.frf⟩
theorem Inv.tryIn(I:Inv X pins σ H s):Inv (X.inTry (X.pn++pins) xe) [] σ H s:=⟨I.ok.tryIn,I.os,I.bare,I.base,I.loc,I.cell,I.free,I.freeC,(λp hp=>I.pin p (by simpa using hp)),I.hok,I.len⟩
theorem Inv.tryOut{pins':List (ak×Obj)}(k:X.Ok)(I:Inv (X.inTry (X.pn++pins) xe) pins' σ H s):Inv X pins σ H s:=⟨k,I.os,I.bare,I.base,I.loc,I.cell,I.free,I.freeC,(λp hp=>I.pin p (di _ hp)),I.hok,I.len⟩
theorem Inv.suiteIn(I:Inv X pins σ H s):Inv (X.inSuite e) pins σ H s:=⟨I.ok.suiteIn,I.os,I.bare,I.base,I.loc,I.cell,I.free,I.freeC,I.pin,I.hok,I.len⟩
theorem Inv.suiteOut(k:X.Ok)(I:Inv (X.inSuite e) pins σ H s):Inv X pins σ H s:=⟨k,I.os,I.bare,I.base,I.loc,I.cell,I.free,I.freeC,I.pin,I.hok,I.len⟩
theorem SP.out{D:Ends}{f:Flow}(k:X.Ok)(h:SP (X.inSuite e) pins D f s):SP X pins D f s:=by
 cases f with
 |next=>obtain⟨σ',H',I,q⟩:=h;exact⟨σ',H',I.suiteOut k,q⟩
 |brk=>obtain⟨σ',H',I,q⟩:=h;exact⟨σ',H',I.suiteOut k,q⟩
 |cont=>obtain⟨σ',H',I,q⟩:=h;exact⟨σ',H',I.suiteOut k,q⟩
 |ret u=>obtain⟨v,σ',H',I,q⟩:=h;exact⟨v,σ',H',I.suiteOut k,q⟩
theorem SP.outT{D:Ends}{f:Flow}(k:X.Ok)(h:SP (X.inTry (X.pn++pins) xe) [] D f s):SP X pins D f s:=by
 cases f with
 |next=>obtain⟨σ',H',I,q⟩:=h;exact⟨σ',H',I.tryOut k,q⟩
 |brk=>obtain⟨σ',H',I,q⟩:=h;exact⟨σ',H',I.tryOut k,q⟩
 |cont=>obtain⟨σ',H',I,q⟩:=h;exact⟨σ',H',I.tryOut k,q⟩
 |ret u=>obtain⟨v,σ',H',I,q⟩:=h;exact⟨v,σ',H',I.tryOut k,q⟩
def Cq(a C:ak)(dx:Option ak):du->Prop:=λh=>∃o,h.get? a=aA o/\o.cls= .ref C/\o.dict=dx/\PySem.W.notCls o=aC
theorem Inv.track{C:ak}(I:Inv X pins σ H s)(a:Air X pins H s e (.ref C) dx T):Inv X pins σ (Y7 H e (.ext (Cq e C dx))) s:=by
 obtain⟨oe,vs,h1,h2,hdx,h3,h5⟩:=a.r.obj;have hnc:PySem.W.notCls oe=aC:=by unfold PySem.W.notCls;rw[h3]
 refine⟨I.ok,I.os,I.bare,⟨I.base.keep,I.base.slot,λb o q n hx=>?_,I.base.there,λb xs q=>?_,λb o u q=>?_,λb ps q=>?_⟩,I.loc,I.cell,?_,λx c ec=>?_,λp hp=>?_,λb u q=>?_,I.len⟩
 .rw[Zv (λz=>by rw[z,a.e0]at q;cases q)];exact I.base.free b o q n hx
 .have:=I.base.tups b xs q;rw[Zv (λz=>by rw[z,a.eH]at this;cases this)];exact this
 .have:=I.base.frzs b o u q;rw[Zv (λz=>by rw[z,a.eH]at this;cases this)];exact this
 .obtain⟨m,this⟩:=I.base.tbls b ps q;exact⟨m,by rw[Zv (λz=>by rw[z,a.eH]at this;cases this)];exact this⟩
 .rw[Zv (Ne.symm a.le.1)];exact I.free
 .rw[Zv (a.ce x c ec).1];exact I.freeC x c ec
 .obtain⟨q,n,r⟩:=I.pin p hp;exact⟨q,by rw[Zv (a.pe p hp).1];exact n,r⟩
 .by_cases hb:b=e
  .subst hb;rw[Ye]at q;cases q;exact⟨⟨oe,h1,h2,hdx,hnc⟩,⟨oe,h1⟩,λg1 g2 ⟨o,z1,z2⟩ k=>⟨o,k o z1,z2⟩⟩
  .rw[Zv hb]at q;exact(I.hok b u q).stay (λc v _ z=>z) (λc z=>by rw[Zv (λy=>by rw[y,a.eH]at z;cases z)];exact z) (λc xs z=>by rw[Zv (λy=>by rw[y,a.eH]at z;cases z)];exact z) λc o z=>by rw[Zv (λy=>by rw[y,a.eH]at z;cases z)];exact z
theorem Ah{M:Model}{A:c8}{E:ag->ap->Prop}{i:Nat}{n:Str}{pos:Pos}{Q:Unit->ap->Prop}(I:Inv X pins σ H s)(hN:X.N.Nodup)(hi:X.N[i]? =aA n)(hk:X.env.kindOf n=aA .local)
  (h:∀s',Inv X pins (σ.set i aB) H s'->Q () s'):br M A (do bindName X.env n .none;unbindBehindTheSuite X.env n pos) Q E s:=by
 obtain⟨m,hn,hl⟩:=id I.loc;have hcls:(X.env.scope.kind== .class|| (X.env.scope.kind== .module&&X.env.locals !=X.env.globals))=aD:=by rw[I.ok.kind];rfl
 refine wpAny_nameGoes_keeps hk hn hcls λh' u hn' hs=>?_;obtain⟨oL,_,_,hoL,_⟩:=id hn;have cne:=I.cne;have nl:∀b o,X.s₀.heap.get? b=aA o->b≠X.env.locals:=λb o q=>de (cn (bi q) I.ok.above);refine h _ ⟨I.ok,I.os,I.bare,⟨λb o q n hb hx=>?_,λb o q n hb hx=>?_,I.base.free,λb o q hx=>?_,I.base.tups,I.base.frzs,I.base.tbls⟩,⟨_,hn',λj y v' e1 e2 e3=>?_⟩,λy c ec=>?_,I.free,I.freeC,λp hp=>?_,λb ob q=>?_,by simpa using I.len⟩
 .exact(hs.2 b (nl b o q)).trans (I.base.keep b o q n hb hx)
 .obtain⟨sl,e1⟩:=I.base.slot b o q n hb hx;exact⟨sl,(hs.2 b (nl b o q)).trans e1⟩
 .obtain⟨o',e1⟩:=I.base.there b o q hx;exact⟨o',(hs.2 b (nl b o q)).trans e1⟩
 .by_cases hj:j=i
  .subst hj;have:j<σ.length:=by have:=(bp.mp e2).1;simpa using this
   rw[dh this]at e2;cases e2
  .rw[c9 (Ne.symm hj)]at e2;obtain⟨u',r',q⟩:=hl j y v' e1 e2 e3;refine⟨u',r',?_⟩;rcases q with⟨k,z⟩|⟨k,c,z,z'⟩
   .refine .inl ⟨k,?_⟩;have:y≠n:=λz=>hj (Aq hN e1 (z▸hi));simp[this,z]
   .exact .inr ⟨k,c,z,z'.sameBut hs (cne y c z)⟩
 .obtain⟨w',z⟩:=I.cell y c ec;exact⟨w',z.sameBut hs (cne y c ec)⟩
 .obtain⟨q,n,ne,nf,d⟩:=I.pin p hp;exact⟨(hs.2 p.1 ne).trans q,n,ne,nf,d⟩
 .refine(I.hok b ob q).stay (λc w' hc z=>(hs.2 c ?_).trans z) (λ_ z=>z) λ_ _ z=>z;rintro rfl;rcases hc with hc|hc
  .rw[<-hc,I.free]at q;cases q
  .rw[I.free]at hc;cases hc
end
theorem Fm{M:Model}{A:c8}{E:ag->ap->Prop}{s:ap}{K:ad}{e C B:ak}{b:Bool}{Q:Bool->ap->Prop}(X:K.In s.heap){dx:Option ak}(he:Cq e C dx s.heap)(hty:PySem.W.typeIn K (.ref B)=aA (.type "type"))
  (hcl:PySem.W.isClsIn K B=aC) (hB:eg K B (.type "BaseException")=aA aC) (hm:eg K C (.ref B)=aA b) (h:Q b s):br M A (excMatches (.ref e) (.ref B)) Q E s:=by
 obtain⟨hp,g,d,tk,os⟩:=s;obtain⟨o,h1,h2,_⟩:=he;have lt:PySem.W.Looks M hp (typeOf (.ref B)) (.type "type"):=PySem.W.looks_typeIn X hty;have li:PySem.W.Looks M hp (isType (.ref B)) aC:=by
  unfold PySem.W.isClsIn PySem.W.clsIn at hcl;split at hcl
  .rename_i ho;intro A' Q' E' s' k q;unfold isType loadHead;exact ac (wpAny_loadPart (k _ _ (X _ _ ho)) (ao q))
  .cases hcl
 have lb:=PySem.W.looks_mroIn (M:=M) X hB;have lm:=PySem.W.looks_mroIn (M:=M) X hm;have le:PySem.W.Looks M hp (typeOf (.ref e)) (.ref C):=h2▸(PySem.W.Looks.ld h1).andThen .now;have lx:PySem.W.Looks M hp (isExcClass (.ref B)) aC:=by unfold isExcClass;exact li.andThen lb
 have l0:PySem.W.Looks M hp (isInstance (.ref B) (.type "tuple")) aD:=by unfold isInstance;exact lt.andThen (.of_pure tc_notTuple)
 unfold excMatches;refine ac (l0.at ?_);dsimp only;rw[if_neg ba];refine ac (ao ?_);refine ac ?_;rw[List.forIn_cons];refine ac (ac (lx.at ?_));rw[if_neg (by decide)];refine ao ?_;dsimp only;rw[List.forIn_nil];refine ao ?_;refine ac (le.at ?_);refine ac ?_;rw[List.forIn_cons];refine ac (ac (lm.at ?_));cases b with
 |true=>rw[if_pos rfl];exact ao (ao (ao h))
 |false=>rw[if_neg ba];refine ao ?_;dsimp only;rw[List.forIn_nil];exact ao (ao h)
set_option genInjectivity false in
structure Hd where
 x:Str
 np:Pos
 nm:Option (Str×Nat)
 b0:Stmt
 suite:List Stmt
 pos:Pos
 B:ak
 t:TS
noncomputable def Hd.ast(h:Hd):ExceptHandler:=.ExceptHandler (aA (.Name h.x h.np)) (h.nm.map (·.1)) (h.b0::h.suite) h.pos
noncomputable def Ends.but(D:Ends)(i:Nat):Ends:={nx:=λσ H=>D.nx (σ.set i aB) H,bk:=λσ H=>D.bk (σ.set i aB) H,ct:=λσ H=>D.ct (σ.set i aB) H,rt:=D.rt}
def Hd.run(h:Hd)(C:ak)(dx:Option ak)(D:Ends)(σ:St)(H:Hp):Prop:=match h.nm with
 |none=>h.t D σ H
 |some (_,i)=>∀a,H a=aB->h.t (D.but i) (σ.set i (aA (.ref a))) (Y7 H a (.ext (Cq a C dx)))
noncomputable def Fn(K:ad)(C:ak):List Hd->Option Hd
 | []=>aB
 |h::r=>match eg K C (.ref h.B)with
  |some aC=>aA h
  |some aD=>Fn K C r
  |none=>aB
set_option genInjectivity false in
structure Hd.Ok(X:Cx)(h:Hd):Prop where
 gl:Gl X h.x
 mg:X.mg h.x=aA (.ref h.B)
 ty:PySem.W.typeIn X.K (.ref h.B)=aA (.type "type")
 cl:PySem.W.isClsIn X.K h.B=aC
 bs:eg X.K h.B (.type "BaseException")=aA aC
 db:(h.x==("__debug__":Str))=aD
 nm:∀n i,h.nm=aA (n,i)->X.N.Nodup/\X.N[i]? =aA n/\Loc X.env.scope n/\X.env.kindOf n=aA .local/\X.env.scope.names.lookup n=aA .local
 su:∀a,Gp (X.inSuite a) (h.b0::h.suite) h.t
section
variable{X:Cx}{pins:List (ak×Obj)}{σ:St}{H:Hp}{s:ap}{e T C:ak}{dx:Option ak}{D:Ends}
theorem Air.at'(a:Air X pins H s e (.ref C) dx T):Cq e C dx s.heap:=by obtain⟨oe,vs,h1,h2,h3,h4,_⟩:=a.r.obj;exact⟨oe,h1,h2,h3,by unfold PySem.W.notCls;rw[h4]⟩
theorem Fo(hex:X.ex=[])(hst:X.stack=X.env::X.outer)(hfr:X.env.frame=aA X.env.locals){h:Hd}(I:Inv X pins σ H s)(a:Air X pins H s e (.ref C) dx T)(q:h.run C dx D σ H):
  ∀{hs:List Hd},(∀h∈hs,h.Ok X)->Fn X.K C hs=aA h->br (cg X.prog X.w) X.A (handleBy (.ref e) X.env (hs.map Hd.ast)) (SP X pins D) X.xe s
 | [],_,p=>nomatch p
 |g::r,ok,p=>by
  have kg:=ok g af;show br _ _ (handleBy (.ref e) X.env (.ExceptHandler (aA (.Name g.x g.np)) (g.nm.map (·.1)) (g.b0::g.suite) g.pos::r.map Hd.ast)) _ _ s;have Is:Inv (X.inSuite e) pins σ H s:=I.suiteIn;refine wpAny_handleBy_cons (codeAny_handlers_test (Rx (X:=X.inSuite e) Is kg.gl kg.mg ?_ kg.db)) (by intro z;cases z);unfold Fn at p;split at p
  .rename_i hm;cases p;refine Fm I.kIn a.at' kg.ty kg.cl kg.bs hm ?_;show codeAny _ _ _ _ s;unfold Hd.run at q;split at q
   .rename_i hn;rw[hn];refine codeAny_handlers_suite ?_;refine(Op (M:=cg X.prog X.w) (A:=X.A.mark (aA (.ref e))) I a hex I.ok.frames hst hfr λh' T' I' a'=>?_).2;refine wpAny_mono (kg.su e pins _ σ H D I'.suiteIn q) (λf s2 z=>?_) λ_ _ z=>z.elim;exact SP.out I.ok z
   .rename_i n i hn;rw[hn];obtain⟨n1,n2,n3,n4,n5⟩:=kg.nm n i hn;refine codeAny_handlers_suite_as ?_;refine(Op (M:=cg X.prog X.w) (A:=X.A.mark (aA (.ref e))) I a hex I.ok.frames hst hfr λh' T' I' a'=>?_).2;refine Rw (X:=X.inSuite e) (v:=.ref e) (i:=i) (I'.track a').suiteIn n1 n2 n3 rfl (λs2 I2=>?_) (.inr n5);refine wpAny_mono (kg.su e pins _ _ _ (D.but i) I2 (q e a.eH)) (λf s3 z=>?_) λ_ _ z=>z.elim;show br _ X.A _ _ _ s3;cases f with
    |next=>obtain⟨σ',H',I3,z⟩:=z;exact Ah (I3.suiteOut I.ok) n1 n2 n4 λs4 I4=>⟨_,H',I4,z⟩
    |brk=>obtain⟨σ',H',I3,z⟩:=z;exact Ah (I3.suiteOut I.ok) n1 n2 n4 λs4 I4=>⟨_,H',I4,z⟩
    |cont=>obtain⟨σ',H',I3,z⟩:=z;exact Ah (I3.suiteOut I.ok) n1 n2 n4 λs4 I4=>⟨_,H',I4,z⟩
    |ret u=>obtain⟨v,σ',H',I3,z⟩:=z;exact Ah (I3.suiteOut I.ok) n1 n2 n4 λs4 I4=>⟨v,_,H',I4,z⟩
  .rename_i hm;refine Fm I.kIn a.at' kg.ty kg.cl kg.bs hm ?_;exact Fo hex hst hfr I a q (λh hh=>ok h (aj _ hh)) p
  .cases p
def Zqm(K:ad)(tb:EXT->TS)(hs:List Hd):TS:=λD σ H=>tb (λcls dx σ' H'=>∃C h,cls= .ref C/\Fn K C hs=aA h/\h.run C dx D σ' H') D σ H
theorem Zm1{body:List Stmt}{tb:EXT->TS}{h0:Hd}{hs:List Hd}{pos:Pos}(hb:∀pn xe EX,Bl (X.inTry pn xe) EX->Gp (X.inTry pn xe) body (tb EX))(ok:∀h∈h0::hs,h.Ok X)(hex:X.ex=[])
  (hst:X.stack=X.env::X.outer) (hfr:X.env.frame=aA X.env.locals):PS X (.Try body ((h0::hs).map Hd.ast) [] [] pos) (Zqm X.K tb (h0::hs)):=by
 intro pins s σ H D I h;refine wpAny_Try_except (h₀:=h0.ast) (hs:=hs.map Hd.ast) ?_;refine wpAny_mono (hb (X.pn++pins) _ _ ?_ [] s σ H D I.tryIn h) (λf s1 z=>?_) λ_ _ z=>z
 .intro pins' σ' H' s' e cls dx T I' r e0 eH t0 tH pe le ce ⟨C,g,ec,hp,q⟩;subst ec;have I2:Inv X pins σ' H' s':=I'.tryOut I.ok;have a:Air X pins H' s' e (.ref C) dx T:=⟨r,e0,eH,t0,tH,λp hp=>pe p (di _ hp),le,ce⟩
  exact(Op (M:=cg X.prog X.w) (A:=X.A) I2 a hex I.ok.frames hst hfr λh' T' I3 a3=>Fo hex hst hfr I3 a3 q ok hp).1
 .have z':=SP.outT I.ok z;cases f with
  |next=>exact PySem.wpAny_execs_nil z'
  |brk=>exact z'
  |cont=>exact z'
  |ret u=>exact z'
end
end L2
namespace L2
open PySem PySem.Spec PySem.Calls PyProof.Rows Builtin.ObjectAttr Builtin.Getset_descriptor
section
variable{X:Cx}
theorem Hq:∀{Bs:List ak} {us:List ag},Ya (Bs.map V.ref) us->us=Bs.map b9
 | [],_,r=>by rw[List.map_nil]at r;cases r;rfl
 |B::Bs,_,r=>by
  rw[ay]at r;cases r with
  |cons h t=>rw[show _=b9 B from h,Hq t];rfl
end
end L2
namespace L2
open PySem PySem.Spec PyProof.Rows
end L2
namespace PySem
open Sem (wp)
end PySem
namespace L2
open PySem PySem.Spec PySem.Calls PyProof.Rows Builtin.ObjectAttr
end L2
namespace L2
open PySem PySem.Spec PyProof.Rows
def drop(H:Hp)(e:ak):Hp:=λb=>if b=e then aB else H b
end L2
namespace DL
open PySem L2
variable{K:ad}
inductive D where
 |non|bl (b:Bool)|int (i:Int)|str (x:Str)
 |tup (xs:List D)|lst (xs:List D)
 |dK (ks:List Key) (vs:List D)|dT (ks:List (List Key)) (vs:List D)|dX (ks:List Wq) (vs:List D)
 |exc (c:Str) (ks:List Str) (vs:List D)
def Uq(K:ad)(c:Str)(C:ak):Prop:=bz K bq c=aA (aA (.ref C))
def KB(F:Hp)(kvs:List (List Key×V))(bs:List ak):Prop:=Paired (λ(p:List Key×V) (b:ak)=>F b=aA (.tup (p.1.map kV))) kvs bs
def KN(F:Hp)(kvs:List (Wq×V))(bs:List ak):Prop:=Paired (λ(p:Wq×V) (b:ak)=>Zcm F p.1 b) kvs bs
mutual
inductive Rep(K:ad)(F:Hp):D->V->Prop where
 |non:Rep K F .non .non
 |bl (b:Bool):Rep K F (.bl b) (.bl b)
 |int (i:Int):Rep K F (.int i) (.int i)
 |str (x:Str):Rep K F (.str x) (.str x)
 |tup {a:ak} {xs:List D} {vs:List V} (h:F a=aA (.tup vs)) (r:Reps K F xs vs):Rep K F (.tup xs) (.ref a)
 |lst {a:ak} {xs:List D} {vs:List V} (h:Oa K F a vs) (o:F a=aA (.lst vs)\/∀d∈xs,∃i,d= .int i) (r:Reps K F xs vs):Rep K F (.lst xs) (.ref a)
 |dK {a:ak} {ks:List Key} {ds:List D} {kvs:List (Key×V)} {ep:Nat} (h:F a=aA (.dK kvs ep)) (e:kvs.map (·.1)=ks) (r:Reps K F ds (kvs.map (·.2))):Rep K F (.dK ks ds) (.ref a)
 |dT {a:ak} {ks:List (List Key)} {ds:List D} {kvs:List (List Key×V)} {ep:Nat} {bs:List ak} (h:F a=aA (.dT kvs ep bs)) (kb:KB F kvs bs) (e:kvs.map (·.1)=ks) (r:Reps K F ds (kvs.map (·.2))):Rep K F (.dT ks ds) (.ref a)
 |dX {a:ak} {ks:List Wq} {ds:List D} {kvs:List (Wq×V)} {ep:Nat} {bs:List ak} (h:F a=aA (.dN kvs ep bs)) (kb:KN F kvs bs) (e:kvs.map (·.1)=ks) (r:Reps K F ds (kvs.map (·.2))):Rep K F (.dX ks ds) (.ref a)
 |exc {a C:ak} {c:Str} (cl:Uq K c C) (h:F a=aA (.ext (Cq a C aB))):Rep K F (.exc c [] []) (.ref a)
 |exd {a C dx:ak} {c:Str} {ks:List Str} {ds:List D} {fs:List (Str×V)} (cl:Uq K c C) (h:F a=aA (.ext (Cq a C (aA dx)))) (hx:F dx=aA (.xd fs)) (e:fs.map (·.1)=ks) (r:Reps K F ds (fs.map (·.2))):Rep K F (.exc c ks ds) (.ref a)
inductive Reps(K:ad)(F:Hp):List D->List V->Prop where
 |nil:Reps K F [] []
 |cons {d:D} {v:V} {ds:List D} {vs:List V} (h:Rep K F d v) (t:Reps K F ds vs):Reps K F (d::ds) (v::vs)
end
theorem KB.mono{F F':Hp}(s:Zl F F'){kvs:List (List Key×V)}{bs:List ak}(h:KB F kvs bs):KB F' kvs bs:=Paired.mapP h λ_ _ z=>s _ _ z
theorem KN.mono{F F':Hp}(s:Zl F F'){kvs:List (Wq×V)}{bs:List ak}(h:KN F kvs bs):KN F' kvs bs:=Paired.mapP h λ_ _ z=>z.mono λ_ _ q=>s _ _ q
theorem Zdl{F F':Hp}(s:Zl F F'){a:ak}{u:HO}(h:Rd F a u):Rd F' a u:=by
 rcases h with h|⟨o,h⟩
 .exact .inl (s _ _ h)
 .exact .inr ⟨o,s _ _ h⟩
theorem W4{F F':Hp}(s:Zl F F'){a:ak}{xs:List V}(h:Oa K F a xs):Oa K F' a xs:=by
 rcases h with h|h
 .exact .inl (Zdl s h)
 .exact .inr h
theorem Qf{F F':Hp}(s:Zl F F'){a:ak}{xs:List V}(h:G9 K F a xs):G9 K F' a xs:=by
 rcases h with h|h
 .exact .inl (Zdl s h)
 .exact .inr h
theorem Gx{F:Hp}{a:ak}{vs:List V}(h:F a=aA (.tup vs)):G9 K F a vs:=.inl (.inl h)
mutual
theorem Rep.mono{F F':Hp}(s:Zl F F'):∀{d:D} {v:V},Rep K F d v->Rep K F' d v
 |_,_,.non=>.non
 |_,_,.bl b=>.bl b
 |_,_,.int i=>.int i
 |_,_,.str x=>.str x
 |_,_,.tup h r=>.tup (s _ _ h) (Reps.mono s r)
 |_,_,.lst h o r=>.lst (W4 s h) (o.imp (λz=>s _ _ z) id) (Reps.mono s r)
 |_,_,.dK h e r=>.dK (s _ _ h) e (Reps.mono s r)
 |_,_,.dT h kb e r=>.dT (s _ _ h) (kb.mono s) e (Reps.mono s r)
 |_,_,.dX h kb e r=>.dX (s _ _ h) (kb.mono s) e (Reps.mono s r)
 |_,_,.exc cl h=>.exc cl (s _ _ h)
 |_,_,.exd cl h hx e r=>.exd cl (s _ _ h) (s _ _ hx) e (Reps.mono s r)
theorem Reps.mono{F F':Hp}(s:Zl F F'):∀{ds:List D} {vs:List V},Reps K F ds vs->Reps K F' ds vs
 |_,_,.nil=>.nil
 |_,_,.cons h t=>.cons (Rep.mono s h) (Reps.mono s t)
end
theorem Reps.length{F:Hp}{ds:List D}:∀{vs:List V},Reps K F ds vs->ds.length=vs.length:=by
 induction ds with
 |nil=>intro vs h;cases h;rfl
 |cons d ds ih=>
  intro vs h;cases h with
  |cons _ t=>rw[bd,bd,ih t]
theorem Reps.append{F:Hp}{ds es:List D}{vs us:List V}(h:Reps K F ds vs)(q:Reps K F es us):Reps K F (ds++es) (vs++us):=by
 induction ds generalizing vs with
 |nil=>cases h;exact q
 |cons d ds ih=>
  cases h with
  |cons h t=>exact .cons h (ih t)
theorem Reps.snoc{F:Hp}{ds:List D}{vs:List V}{d:D}{v:V}(r:Reps K F ds vs)(h:Rep K F d v):Reps K F (ds++[d]) (vs++[v]):=r.append (.cons h .nil)
theorem Reps.get{F:Hp}:∀{ds:List D} {vs:List V} {i:Nat} {d:D},Reps K F ds vs->ds[i]? =aA d->∃v,vs[i]? =aA v/\Rep K F d v
 |_,_,_,_,.nil,e=>by simp at e
 |_,_,0,_,.cons h t,e=>by simp at e;subst e;exact⟨_,rfl,h⟩
 |_,_,i+1,d,.cons h t,e=>by obtain⟨v,h1,h2⟩:=Reps.get (i:=i) (d:=d) t (by simpa using e);exact⟨v,by simpa using h1,h2⟩
theorem Reps.take{F:Hp}:∀{ds:List D} {vs:List V} (n:Nat),Reps K F ds vs->Reps K F (ds.take n) (vs.take n)
 |_,_,0,_=>.nil
 |_,_,_+1,.nil=>.nil
 |_,_,n+1,.cons h t=>.cons h (t.take n)
theorem Reps.drop{F:Hp}:∀{ds:List D} {vs:List V} (n:Nat),Reps K F ds vs->Reps K F (ds.drop n) (vs.drop n)
 |_,_,0,r=>r
 |_,_,_+1,.nil=>.nil
 |_,_,n+1,.cons h t=>t.drop n
inductive SV where
 |fz (d:D)|ol (xs:List D)|oK (ks:List Key) (vs:List D)|oT (ks:List (List Key)) (vs:List D)|oN (ks:List Key) (xss:List (List D))|oL (pin:Option ak) (xss:List (List D))|oQ (pin:ak) (ks:List Key) (vs:List D)|oX (ks:List Wq) (xss:List (List D))|oD (dss:List (List Key×List D))|oM (ks:List Wq) (vs:List D)|oR (pin:ak) (ks:List Key) (xss:List (List D))
@[simp]noncomputable def SV.toD:SV->D
 | .fz d=>d
 | .ol xs=>.lst xs
 | .oK ks vs=>.dK ks vs
 | .oT ks vs=>.dT ks vs
 | .oN ks xss=>.dK ks (xss.map D.lst)
 | .oL _ xss=>.lst (xss.map D.lst)
 | .oQ _ ks vs=>.dK ks vs
 | .oX ks xss=>.dX ks (xss.map D.lst)
 | .oD dss=>.lst (dss.map λp=>.dK p.1 p.2)
 | .oM ks vs=>.dX ks vs
 | .oR _ ks xss=>.dK ks (xss.map D.lst)
noncomputable abbrev Zo:=List (ak×HO)
inductive Kids(K:ad)(F:Hp):List (List D)->List V->Zo->Prop where
 |nil:Kids K F [] [] []
 |cons {xs:List D} {xss:List (List D)} {b:ak} {vs:List V} {ws:List V} {ns:Zo} (r:Reps K F xs vs) (t:Kids K F xss ws ns):Kids K F (xs::xss) (.ref b::ws) ((b,.lst vs)::ns)
inductive KidD(K:ad)(F:Hp):List (List Key×List D)->List V->Zo->Prop where
 |nil:KidD K F [] [] []
 |cons {ds:List D} {dss:List (List Key×List D)} {b:ak} {kvs:List (Key×V)} {ep:Nat} {ws:List V} {ns:Zo} (r:Reps K F ds (kvs.map (·.2))) (t:KidD K F dss ws ns):KidD K F ((kvs.map (·.1),ds)::dss) (.ref b::ws) ((b,.dK kvs ep)::ns)
inductive Shape(K:ad)(F:Hp):SV->V->Zo->Prop where
 |fz {d:D} {v:V} (h:Rep K F d v):Shape K F (.fz d) v []
 |ol {a:ak} {xs:List D} {vs:List V} (r:Reps K F xs vs):Shape K F (.ol xs) (.ref a) [(a,.lst vs)]
 |oK {a:ak} {ks:List Key} {ds:List D} {kvs:List (Key×V)} {ep:Nat} (e:kvs.map (·.1)=ks) (r:Reps K F ds (kvs.map (·.2))):Shape K F (.oK ks ds) (.ref a) [(a,.dK kvs ep)]
 |oT {a:ak} {ks:List (List Key)} {ds:List D} {kvs:List (List Key×V)} {ep:Nat} {bs:List ak} (kb:KB F kvs bs) (e:kvs.map (·.1)=ks) (r:Reps K F ds (kvs.map (·.2))):Shape K F (.oT ks ds) (.ref a) [(a,.dT kvs ep bs)]
 |oN {a:ak} {ks:List Key} {xss:List (List D)} {kvs:List (Key×V)} {ns:Zo} {ep:Nat} (e:kvs.map (·.1)=ks) (r:Kids K F xss (kvs.map (·.2)) ns):Shape K F (.oN ks xss) (.ref a) ((a,.dK kvs ep)::ns)
 |oR {a:ak} {ks:List Key} {xss:List (List D)} {kvs:List (Key×V)} {ns:Zo} {ep:Nat} (e:kvs.map (·.1)=ks) (r:Kids K F xss (kvs.map (·.2)) ns):Shape K F (.oR a ks xss) (.ref a) ((a,.dK kvs ep)::ns)
 |oL {pin:Option ak} {a:ak} {xss:List (List D)} {ws:List V} {ns:Zo} (hp:∀b,pin=aA b->b=a) (r:Kids K F xss ws ns):Shape K F (.oL pin xss) (.ref a) ((a,.lst ws)::ns)
 |oQ {a:ak} {ks:List Key} {ds:List D} {kvs:List (Key×V)} {ep:Nat} (e:kvs.map (·.1)=ks) (r:Reps K F ds (kvs.map (·.2))):Shape K F (.oQ a ks ds) (.ref a) [(a,.dK kvs ep)]
 |oX {a:ak} {ks:List Wq} {xss:List (List D)} {kvs:List (Wq×V)} {ns:Zo} {ep:Nat} {bs:List ak} (kb:KN F kvs bs) (e:kvs.map (·.1)=ks) (r:Kids K F xss (kvs.map (·.2)) ns):Shape K F (.oX ks xss) (.ref a) ((a,.dN kvs ep bs)::ns)
 |oD {a:ak} {dss:List (List Key×List D)} {ws:List V} {ns:Zo} (r:KidD K F dss ws ns):Shape K F (.oD dss) (.ref a) ((a,.lst ws)::ns)
 |oM {a:ak} {ks:List Wq} {ds:List D} {kvs:List (Wq×V)} {ep:Nat} {bs:List ak} (kb:KN F kvs bs) (e:kvs.map (·.1)=ks) (r:Reps K F ds (kvs.map (·.2))):Shape K F (.oM ks ds) (.ref a) [(a,.dN kvs ep bs)]
theorem KidD.mono{F F':Hp}(s:Zl F F'):∀{dss:List (List Key×List D)} {ws:List V} {ns:Zo},KidD K F dss ws ns->KidD K F' dss ws ns
 |_,_,_,.nil=>.nil
 |_,_,_,.cons r t=>.cons (r.mono s) (t.mono s)
theorem Kids.mono{F F':Hp}(s:Zl F F'){xss:List (List D)}{ws:List V}{ns:Zo}(h:Kids K F xss ws ns):Kids K F' xss ws ns:=by
 induction h with
 |nil=>exact .nil
 |cons r _ ih=>exact .cons (r.mono s) ih
theorem Shape.mono{F F':Hp}(s:Zl F F'){sv:SV}{v:V}{ns:Zo}(h:Shape K F sv v ns):Shape K F' sv v ns:=by
 cases h with
 |fz h=>exact .fz (h.mono s)
 |ol r=>exact .ol (r.mono s)
 |oK e r=>exact .oK e (r.mono s)
 |oT kb e r=>exact .oT (kb.mono s) e (r.mono s)
 |oN e r=>exact .oN e (r.mono s)
 |oR e r=>exact .oR e (r.mono s)
 |oL hp r=>exact .oL hp (r.mono s)
 |oQ e r=>exact .oQ e (r.mono s)
 |oX kb e r=>exact .oX (kb.mono s) e (r.mono s)
 |oD r=>exact .oD (r.mono s)
 |oM kb e r=>exact .oM (kb.mono s) e (r.mono s)
def Jh(F:Hp):Zo->Hp
 | []=>F
 |p::r=>Y7 (Jh F r) p.1 p.2
abbrev U6(ns:Zo):List Addr:=ns.map (·.1)
theorem Ur{F:Hp}{b:ak}:∀{ns:Zo},b∉U6 ns->Jh F ns b=F b
 | [],_=>rfl
 |p::r,h=>by have h1:b≠p.1:=λe=>h (by rw[e];exact af);have h2:b∉U6 r:=λe=>h (aj _ e);show Y7 (Jh F r) p.1 p.2 b=F b;rw[Zv h1,Ur h2]
theorem R6{F:Hp}{p:ak×HO}:∀{ns:Zo},(U6 ns).Nodup->p∈ns->Jh F ns p.1=aA p.2
 | [],_,h=>nomatch h
 |q::r,nd,h=>by
  obtain⟨n1,n2⟩:=d5.mp nd;show Y7 (Jh F r) q.1 q.2 p.1=aA p.2;rcases bo.mp h with e|e
  .subst e;exact Ye
  .rw[Zv λz=>n1 (ax.mpr ⟨p,e,z⟩)];exact R6 n2 e
theorem Qb{F:Hp}{ns:Zo}(h:∀p∈ns,F p.1=aB):Zl F (Jh F ns):=λb o e=>by
 by_cases hb:b∈U6 ns
 .obtain⟨p,hp,ep⟩:=ax.mp hb;subst ep;rw[h p hp]at e;cases e
 .rw[Ur hb];exact e
theorem Hr{F H:Hp}{ns:Zo}(nd:(U6 ns).Nodup)(le:Zl F H)(h:∀p∈ns,H p.1=aA p.2):Zl (Jh F ns) H:=λb o e=>by
 by_cases hb:b∈U6 ns
 .obtain⟨p,hp,ep⟩:=ax.mp hb;subst ep;rw[R6 nd hp]at e;cases e;exact h p hp
 .rw[Ur hb]at e;exact le b o e
theorem N5{Z:Hp×Hp}{F:Hp}{ns:Zo}(nd:(U6 ns).Nodup)(fro:∀(b:ak) (o:HO),F b=aA o->Z.2 b=aA o\/Z.1 b=aB)(hz:∀p∈ns,Z.1 p.1=aB):∀(b:ak) (o:HO),Jh F ns b=aA o->Z.2 b=aA o\/Z.1 b=aB:=λb o e=>by
 by_cases hb:b∈U6 ns
 .obtain⟨p,hp,ep⟩:=ax.mp hb;subst ep;exact .inr (hz p hp)
 .rw[Ur hb]at e;exact fro b o e
theorem Kids.rep{F F':Hp}(s:Zl F F'):∀{xss:List (List D)} {ws:List V} {ns:Zo},Kids K F xss ws ns->(∀p∈ns,F' p.1=aA p.2)->Reps K F' (xss.map D.lst) ws
 |_,_,_,.nil,_=>.nil
 |_,_,_,.cons r t,h=>.cons (.lst (.inl (.inl (h _ af))) (.inl (h _ af)) (r.mono s)) (t.rep s λp hp=>h p (aj _ hp))
theorem KidD.rep{F F':Hp}(s:Zl F F'):∀{dss:List (List Key×List D)} {ws:List V} {ns:Zo},KidD K F dss ws ns->(∀p∈ns,F' p.1=aA p.2)->Reps K F' (dss.map λp=>.dK p.1 p.2) ws
 |_,_,_,.nil,_=>.nil
 |_,_,_,.cons r t,h=>.cons (.dK (h _ af) rfl (r.mono s)) (t.rep s λp hp=>h p (aj _ hp))
theorem Shape.rep{F:Hp}{sv:SV}{v:V}{ns:Zo}(h:Shape K F sv v ns)(nd:(U6 ns).Nodup)(hn:∀p∈ns,F p.1=aB):Rep K (Jh F ns) sv.toD v:=by
 have s:=Qb hn;have a:∀p∈ns,Jh F ns p.1=aA p.2:=λp hp=>R6 nd hp;cases h with
 |fz h=>exact h
 |ol r=>exact .lst (.inl (.inl (a (_,_) af))) (.inl (a (_,_) af)) (r.mono s)
 |oK e r=>exact .dK (a (_,_) af) e (r.mono s)
 |oT kb e r=>exact .dT (a (_,_) af) (kb.mono s) e (r.mono s)
 |oN e r=>exact .dK (a (_,_) af) e (r.rep s λp hp=>a p (aj _ hp))
 |oR e r=>exact .dK (a (_,_) af) e (r.rep s λp hp=>a p (aj _ hp))
 |oL _ r=>exact .lst (.inl (.inl (a (_,_) af))) (.inl (a (_,_) af)) (r.rep s λp hp=>a p (aj _ hp))
 |oQ e r=>exact .dK (a (_,_) af) e (r.mono s)
 |oX kb e r=>exact .dX (a (_,_) af) (kb.mono s) e (r.rep s λp hp=>a p (aj _ hp))
 |oD r=>exact .lst (.inl (.inl (a (_,_) af))) (.inl (a (_,_) af)) (r.rep s λp hp=>a p (aj _ hp))
 |oM kb e r=>exact .dX (a (_,_) af) (kb.mono s) e (r.mono s)
noncomputable abbrev Yw:=List (Option SV)
set_option genInjectivity false in
structure Ent(K:ad)where
 h:Hp
 f:Hp
 x:EXT
abbrev ent(H F:Hp):Ent K:=⟨H,F,λ_ _ _ _=>False⟩
set_option genInjectivity false in
structure Exn where
 c:Str
 ks:List Str:=[]
 vs:List D:=[]
def Vo(K:ad)(F:Hp)(e:Exn)(cls:ag)(od:Option ak):Prop:=∃C,Uq K e.c C/\cls= .ref C/\match od with
 |none=>e.ks=[]/\e.vs=[]
 |some dx=>∃fs:List (Str×V),F dx=aA (.xd fs)/\fs.map (·.1)=e.ks/\Reps K F e.vs (fs.map (·.2))
structure SR(Z:Ent K)(F H:Hp)(σ:St)(δ:Yw)(own:Nat->Zo):Prop where
 le:Zl F H
 fro:∀(b:ak) (o:HO),F b=aA o->Z.f b=aA o\/Z.h b=aB
 old:Zl Z.h H
 len:σ.length=δ.length
 at':∀(i:Nat) (sv:SV),δ[i]? =aA (aA sv)->∃v,σ[i]? =aA (aA v)/\Shape K F sv v (own i)
 nod:∀i:Nat,(U6 (own i)).Nodup
 ok:∀(i:Nat) (p:ak×HO),p∈own i->F p.1=aB/\Z.h p.1=aB/\H p.1=aA p.2
 sep:∀(i j:Nat) (p q:ak×HO),i≠j->p∈own i->q∈own j->p.1≠q.1
inductive RV where
 |tmp (sv:SV)|bw (i:Nat)
structure TmpOk(Z:Ent K)(F H:Hp)(own:Nat->Zo)(sv:SV)(v:V)(ns:Zo):Prop where
 sh:Shape K F sv v ns
 nd:(U6 ns).Nodup
 ok:∀p∈ns,F p.1=aB/\Z.h p.1=aB/\H p.1=aA p.2
 sep:∀(i:Nat) (p q:ak×HO),p∈ns->q∈own i->p.1≠q.1
def N6(Z:Ent K)(F H:Hp)(σ:St)(own:Nat->Zo):RV->V->Prop
 | .tmp sv,v=>∃ns,TmpOk Z F H own sv v ns
 | .bw i,v=>σ[i]? =aA (aA v)
theorem TmpOk.fz{Z:Ent K}{F H:Hp}{own:Nat->Zo}{d:D}{v:V}(h:Rep K F d v):TmpOk Z F H own (.fz d) v []:=
 ⟨.fz h,cz,λ_ h=>(nomatch h),λ_ _ _ h=>(nomatch h)⟩
theorem Qy{H:Hp}{p:ak}{o:HO}(h:H p=aB):Zl H (Y7 H p o):=λb u e=>by rw[Zv λz=>by rw[z,h]at e;cases e];exact e
theorem SR.grow{Z:Ent K}{F H H':Hp}{σ:St}{δ:Yw}{own:Nat->Zo}(s:SR Z F H σ δ own)(h:Zl H H'):SR Z F H' σ δ own:=
 ⟨s.le.trans h,s.fro,s.old.trans h,s.len,s.at',s.nod,λi p hp=>let⟨a,b,c⟩:=s.ok i p hp;⟨a,b,h _ _ c⟩,s.sep⟩
theorem SR.addF{Z:Ent K}{F H:Hp}{σ:St}{δ:Yw}{own:Nat->Zo}{ns:Zo}(s:SR Z F H σ δ own)(nd:(U6 ns).Nodup)(hn:∀p∈ns,F p.1=aB)(hH:∀p∈ns,H p.1=aA p.2)(hz:∀p∈ns,Z.h p.1=aB)
  (hs:∀(i:Nat) (p q:ak×HO),p∈ns->q∈own i->p.1≠q.1):SR Z (Jh F ns) H σ δ own:=by
 have sm:=Qb hn;refine⟨Hr nd s.le hH,N5 (Z:=(Z.h,Z.f)) nd s.fro hz,s.old,s.len,λi sv e=>?_,s.nod,λi p hp=>?_,s.sep⟩
 .obtain⟨v,h1,h2⟩:=s.at' i sv e;exact⟨v,h1,h2.mono sm⟩
 .obtain⟨a,b,c⟩:=s.ok i p hp;refine⟨?_,b,c⟩;rw[Ur λhb=>?_]
  .exact a
  .obtain⟨q,hq,e⟩:=ax.mp hb;exact hs i q p hq hp e
theorem SR.settle{Z:Ent K}{F H:Hp}{σ:St}{δ:Yw}{own:Nat->Zo}{sv:SV}{v:V}{ns:Zo}(s:SR Z F H σ δ own)(t:TmpOk Z F H own sv v ns):
  ∃F1,Zl F F1/\SR Z F1 H σ δ own/\Rep K F1 sv.toD v:=
 ⟨Jh F ns,Qb λp hp=>(t.ok p hp).1,s.addF t.nd (λp hp=>(t.ok p hp).1) (λp hp=>(t.ok p hp).2.2) (λp hp=>(t.ok p hp).2.1) t.sep,t.sh.rep t.nd λp hp=>(t.ok p hp).1⟩
def put(own:Nat->Zo)(i:Nat)(ns:Zo):Nat->Zo:=λj=>if j=i then ns else own j
theorem Z8{own:Nat->Zo}{i:Nat}{ns:Zo}:put own i ns i=ns:=if_pos rfl
theorem Yf{own:Nat->Zo}{i j:Nat}{ns:Zo}(h:j≠i):put own i ns j=own j:=if_neg h
theorem SR.freeze{Z:Ent K}{F H:Hp}{σ:St}{δ:Yw}{own:Nat->Zo}{i:Nat}{sv:SV}(s:SR Z F H σ δ own)(e:δ[i]? =aA (aA sv)):
  ∃F1 v,Zl F F1/\σ[i]? =aA (aA v)/\Rep K F1 sv.toD v/\SR Z F1 H σ (δ.set i (aA (.fz sv.toD))) (put own i []):=by
 obtain⟨v,h1,h2⟩:=s.at' i sv e;have hn:∀p∈own i,F p.1=aB:=λp hp=>(s.ok i p hp).1;have sm:=Qb hn;have hi:i<δ.length:=(bp.mp e).1;refine⟨Jh F (own i),v,sm,h1,h2.rep (s.nod i) hn,⟨Hr (s.nod i) s.le λp hp=>(s.ok i p hp).2.2,N5 (Z:=(Z.h,Z.f)) (s.nod i) s.fro λp hp=>(s.ok i p hp).2.1,s.old,by rw[d6];exact s.len,λj sw ej=>?_,λj=>?_,λj p hp=>?_,λj k p q hjk hp hq=>?_⟩⟩
 .by_cases hj:j=i
  .subst hj;rw[dh hi]at ej;cases ej;rw[Z8];exact⟨v,h1,.fz (h2.rep (s.nod j) hn)⟩
  .rw[c9 (Ne.symm hj)]at ej;obtain⟨w,g1,g2⟩:=s.at' j sw ej;rw[Yf hj];exact⟨w,g1,g2.mono sm⟩
 .by_cases hj:j=i
  .subst hj;rw[Z8];exact cz
  .rw[Yf hj];exact s.nod j
 .by_cases hj:j=i
  .subst hj;rw[Z8]at hp;exact nomatch hp
  .rw[Yf hj]at hp;obtain⟨a,b,c⟩:=s.ok j p hp;refine⟨?_,b,c⟩;rw[Ur λhb=>?_]
   .exact a
   .obtain⟨q,hq,z⟩:=ax.mp hb;exact s.sep i j q p (Ne.symm hj) hq hp z
 .by_cases hj:j=i
  .subst hj;rw[Z8]at hp;exact nomatch hp
  .by_cases hk:k=i
   .subst hk;rw[Z8]at hq;exact nomatch hq
   .rw[Yf hj]at hp;rw[Yf hk]at hq;exact s.sep j k p q hjk hp hq
theorem SR.store{Z:Ent K}{F H:Hp}{σ:St}{δ:Yw}{own:Nat->Zo}{i:Nat}{sv:SV}{v:V}{ns:Zo}(s:SR Z F H σ δ own)(t:TmpOk Z F H own sv v ns)(hi:i<σ.length):
  SR Z F H (σ.set i (aA v)) (δ.set i (aA sv)) (put own i ns):=by
 refine⟨s.le,s.fro,s.old,by rw[d6,d6];exact s.len,λj sw ej=>?_,λj=>?_,λj p hp=>?_,λj k p q hjk hp hq=>?_⟩
 .by_cases hj:j=i
  .subst hj;have hd:j<δ.length:=by have:=(bp.mp ej).1;simpa using this
   rw[dh hd]at ej;cases ej;rw[Z8,dh hi];exact⟨v,rfl,t.sh⟩
  .rw[c9 (Ne.symm hj)]at ej;rw[Yf hj,c9 (Ne.symm hj)];exact s.at' j sw ej
 .by_cases hj:j=i
  .subst hj;rw[Z8];exact t.nd
  .rw[Yf hj];exact s.nod j
 .by_cases hj:j=i
  .subst hj;rw[Z8]at hp;exact t.ok p hp
  .rw[Yf hj]at hp;exact s.ok j p hp
 .by_cases hj:j=i
  .subst hj;rw[Z8]at hp;rw[Yf (Ne.symm hjk)]at hq;exact t.sep k p q hp hq
  .by_cases hk:k=i
   .subst hk;rw[Z8]at hq;rw[Yf hj]at hp;exact Ne.symm (t.sep j q p hq hp)
   .rw[Yf hj]at hp;rw[Yf hk]at hq;exact s.sep j k p q hjk hp hq
theorem SR.change{Z:Ent K}{F H:Hp}{σ:St}{δ:Yw}{own:Nat->Zo}{i:Nat}{sv sv':SV}{a:ak}{o o':HO}{v:V}{ns':Zo}(s:SR Z F H σ δ own)(e:δ[i]? =aA (aA sv))(hv:σ[i]? =aA (aA v))
  (ha:(a,o)∈own i) (hs:Shape K F sv' v ns') (hns:∀p∈ns',p=(a,o')\/(p∈own i/\p.1≠a)) (nd:(U6 ns').Nodup):SR Z F (Y7 H a o') σ (δ.set i (aA sv')) (put own i ns'):=by
 obtain⟨fa,ha0,hHa⟩:=s.ok i (a,o) ha;have hi:i<δ.length:=(bp.mp e).1;refine⟨λb u eb=>?_,s.fro,λb u eb=>?_,by rw[d6];exact s.len,λj sw ej=>?_,λj=>?_,λj p hp=>?_,λj k p q hjk hp hq=>?_⟩
 .rw[Zv λz=>by rw[z]at eb;rw[fa]at eb;cases eb];exact s.le b u eb
 .rw[Zv λz=>by rw[z]at eb;rw[ha0]at eb;cases eb];exact s.old b u eb
 .by_cases hj:j=i
  .subst hj;rw[dh hi]at ej;cases ej;rw[Z8];exact⟨v,hv,hs⟩
  .rw[c9 (Ne.symm hj)]at ej;rw[Yf hj];exact s.at' j sw ej
 .by_cases hj:j=i
  .subst hj;rw[Z8];exact nd
  .rw[Yf hj];exact s.nod j
 .by_cases hj:j=i
  .subst hj;rw[Z8]at hp;rcases hns p hp with z|⟨z,ne⟩
   .subst z;exact⟨fa,ha0,Ye⟩
   .obtain⟨x,y,w⟩:=s.ok j p z;exact⟨x,y,by rw[Zv ne];exact w⟩
  .rw[Yf hj]at hp;obtain⟨x,y,w⟩:=s.ok j p hp;exact⟨x,y,by rw[Zv (s.sep j i p (a,o) hj hp ha)];exact w⟩
 .have own':∀r∈ns',∃r'∈own i,r.1=r'.1:=λr hr=>by
   rcases hns r hr with z|⟨z,_⟩
   .subst z;exact⟨(a,o),ha,rfl⟩
   .exact⟨r,z,rfl⟩
  by_cases hj:j=i
  .subst hj;rw[Z8]at hp;rw[Yf (Ne.symm hjk)]at hq;obtain⟨r',hr',er⟩:=own' p hp;rw[er];exact s.sep j k r' q hjk hr' hq
  .by_cases hk:k=i
   .subst hk;rw[Z8]at hq;rw[Yf hj]at hp;obtain⟨r',hr',er⟩:=own' q hq;rw[er];exact s.sep j k p r' hjk hp hr'
   .rw[Yf hj]at hp;rw[Yf hk]at hq;exact s.sep j k p q hjk hp hq
end DL
namespace DL
open PySem L2
variable{K:ad}
abbrev FE:=Yw->Option (RV×Yw)
abbrev FT:=Yw->Option (Bool×Yw)
abbrev FA:=Yw->Option (List RV×Yw)
abbrev FD:=Yw->Option (List D×Yw)
@[simp]noncomputable def SV.nested:SV->Bool
 | .oN _ _=>aC
 | .oR _ _ _=>aC
 | .oL _ _=>aC
 | .oX _ _=>aC
 | .oD _=>aC
 | .oM _ _=>aC
 |_=>aD
@[simp]def rdv:RV->Yw->Option D
 | .tmp sv,_=>aA sv.toD
 | .bw i,δ=>(δ[i]?.join).bind λsv=>if sv.nested then aB else aA sv.toD
@[simp]def frz:RV->Yw->Option (D×Yw)
 | .tmp sv,δ=>aA (sv.toD,δ)
 | .bw i,δ=>(δ[i]?.join).bind λsv=>aA (sv.toD,δ.set i (aA (.fz sv.toD)))
theorem O6{δ:Yw}{i:Nat}{sv:SV}(h:δ[i]?.join=aA sv):δ[i]? =aA (aA sv):=by
 cases e:δ[i]? with
 |none=>rw[e]at h;cases h
 |some o=>rw[e]at h;cases o with
  |none=>cases h
  |some s=>cases h;rfl
def Ze(Z:Ent K)(f:FE):TE:=λσ H Q=>∃F δ own rv δ',SR Z F H σ δ own/\f δ=aA (rv,δ')/\
 ∀v H' F' own',Zl H H'->Zl F F'->SR Z F' H' σ δ' own'->N6 Z F' H' σ own' rv v->Q v H'
def Yi(Z:Ent K)(f:FT):TT:=λσ H Q=>∃F δ own b δ',SR Z F H σ δ own/\f δ=aA (b,δ')/\
 ∀H' F' own',Zl H H'->Zl F F'->SR Z F' H' σ δ' own'->Q b H'
def RVS(K:ad)(F:Hp)(σ:St):RV->V->Prop
 | .tmp sv,v=>Rep K F sv.toD v
 | .bw i,v=>σ[i]? =aA (aA v)
inductive RVSs(K:ad)(F:Hp)(σ:St):List RV->List V->Prop where
 |nil:RVSs K F σ [] []
 |cons {rv:RV} {v:V} {rvs:List RV} {vs:List V} (h:RVS K F σ rv v) (t:RVSs K F σ rvs vs):RVSs K F σ (rv::rvs) (v::vs)
def Od(Z:Ent K)(f:FA):TA:=λσ H Q=>∃F δ own rvs δ',SR Z F H σ δ own/\f δ=aA (rvs,δ')/\
 ∀vs H' F' own',Zl H H'->Zl F F'->SR Z F' H' σ δ' own'->RVSs K F' σ rvs vs->Q vs H'
def Jy(Z:Ent K)(f:FD):TA:=λσ H Q=>∃F δ own ds δ',SR Z F H σ δ own/\f δ=aA (ds,δ')/\
 ∀vs H' F' own',Zl H H'->Zl F F'->SR Z F' H' σ δ' own'->Reps K F' ds vs->Q vs H'
section
variable{Z:Ent K}{F H F' H':Hp}{σ:St}{δ δ':Yw}{own:Nat->Zo}{rv:RV}{v:V}{d:D}{Q:VK}
theorem RVS.mono(s:Zl F F')(h:RVS K F σ rv v):RVS K F' σ rv v:=by
 cases rv with
 |tmp sv=>exact Rep.mono s h
 |bw i=>exact h
theorem SR.settleR(s:SR Z F H σ δ own)(h:N6 Z F H σ own rv v):∃F1,Zl F F1/\SR Z F1 H σ δ own/\RVS K F1 σ rv v:=by
 cases rv with
 |tmp sv=>obtain⟨ns,t⟩:=h;exact s.settle t
 |bw i=>exact⟨F,Zl.refl F,s,h⟩
theorem SR.frzR(s:SR Z F H σ δ own)(h:RVS K F σ rv v)(e:frz rv δ=aA (d,δ')):∃F1 own1,Zl F F1/\SR Z F1 H σ δ' own1/\Rep K F1 d v:=by
 cases rv with
 |tmp sv=>cases e;exact⟨F,own,Zl.refl F,s,h⟩
 |bw i=>obtain⟨sv,e1,e2⟩:=aa.mp e;cases e2;obtain⟨F1,w,h1,h2,h3,h4⟩:=s.freeze (O6 e1);have h':σ[i]? =aA (aA v):=h;rw[h']at h2;cases h2;exact⟨F1,_,h1,h4,h3⟩
def Yh(K:ad)(F H:Hp)(d:D)(v:V):Prop:=∃sv ns,sv.toD=d/\sv.nested=aD/\Shape K F sv v ns/\∀p∈ns,H p.1=aA p.2
theorem Yh.of(h:Rep K F d v):Yh K F H d v:=⟨.fz d,[],rfl,rfl,.fz h,λ_ h=>nomatch h⟩
theorem SR.rd(s:SR Z F H σ δ own)(h:RVS K F σ rv v)(e:rdv rv δ=aA d):Yh K F H d v:=by
 cases rv with
 |tmp sv=>cases e;exact Yh.of h
 |bw i=>
  obtain⟨sv,e1,e2⟩:=aa.mp e;cases hn:sv.nested with
  |true=>rw[hn]at e2;cases e2
  |false=>rw[hn]at e2;cases e2;obtain⟨w,h1,h2⟩:=s.at' i sv (O6 e1);have h':σ[i]? =aA (aA v):=h;rw[h']at h1;cases h1;exact⟨sv,own i,rfl,hn,h2,λp hp=>(s.ok i p hp).2.2⟩
inductive RepNs(K:ad)(F H:Hp):List D->List V->Prop where
 |nil:RepNs K F H [] []
 |cons {d:D} {v:V} {ds:List D} {vs:List V} (h:Yh K F H d v) (t:RepNs K F H ds vs):RepNs K F H (d::ds) (v::vs)
theorem Yh.non(h:Yh K F H .non v):v= .non:=by
 obtain⟨sv,ns,e,n,sh,hp⟩:=h;cases sh with
 |fz r=>cases e;cases r;rfl
 |ol r=>cases e
 |oK e' r=>cases e
 |oT kb e' r=>cases e
 |oN e' r=>cases n
 |oR e' r=>cases n
 |oX kb' e' r=>cases n
 |oD r=>cases n
 |oM kb' e' r=>cases n
 |oL _ r=>cases n
 |oQ e' r=>cases e
theorem Yh.bl{b:Bool}(h:Yh K F H (.bl b) v):v= .bl b:=by
 obtain⟨sv,ns,e,n,sh,hp⟩:=h;cases sh with
 |fz r=>cases e;cases r;rfl
 |ol r=>cases e
 |oK e' r=>cases e
 |oT kb e' r=>cases e
 |oN e' r=>cases n
 |oR e' r=>cases n
 |oX kb' e' r=>cases n
 |oD r=>cases n
 |oM kb' e' r=>cases n
 |oL _ r=>cases n
 |oQ e' r=>cases e
theorem Yh.int{i:Int}(h:Yh K F H (.int i) v):v= .int i:=by
 obtain⟨sv,ns,e,n,sh,hp⟩:=h;cases sh with
 |fz r=>cases e;cases r;rfl
 |ol r=>cases e
 |oK e' r=>cases e
 |oT kb e' r=>cases e
 |oN e' r=>cases n
 |oR e' r=>cases n
 |oX kb' e' r=>cases n
 |oD r=>cases n
 |oM kb' e' r=>cases n
 |oL _ r=>cases n
 |oQ e' r=>cases e
theorem Yh.str{x:Str}(h:Yh K F H (.str x) v):v= .str x:=by
 obtain⟨sv,ns,e,n,sh,hp⟩:=h;cases sh with
 |fz r=>cases e;cases r;rfl
 |ol r=>cases e
 |oK e' r=>cases e
 |oT kb e' r=>cases e
 |oN e' r=>cases n
 |oR e' r=>cases n
 |oX kb' e' r=>cases n
 |oD r=>cases n
 |oM kb' e' r=>cases n
 |oL _ r=>cases n
 |oQ e' r=>cases e
theorem Yh.tup{xs:List D}(le:Zl F H)(h:Yh K F H (.tup xs) v):∃a vs,v= .ref a/\G9 K H a vs/\Reps K F xs vs:=by
 obtain⟨sv,ns,e,n,sh,hp⟩:=h;cases sh with
 |fz r=>cases e;cases r with|tup h r=>exact⟨_,_,rfl,Qf le (Gx h),r⟩
 |ol r=>cases e
 |oK e' r=>cases e
 |oT kb e' r=>cases e
 |oN e' r=>cases n
 |oR e' r=>cases n
 |oX kb' e' r=>cases n
 |oD r=>cases n
 |oM kb' e' r=>cases n
 |oL _ r=>cases n
 |oQ e' r=>cases e
theorem Yh.lst{xs:List D}(le:Zl F H)(h:Yh K F H (.lst xs) v):∃a vs,v= .ref a/\Oa K H a vs/\Reps K F xs vs:=by
 obtain⟨sv,ns,e,n,sh,hp⟩:=h;cases sh with
 |fz r=>cases e;cases r with|lst h _ r=>exact⟨_,_,rfl,W4 le h,r⟩
 |ol r=>cases e;exact⟨_,_,rfl,.inl (.inl (hp _ af)),r⟩
 |oK e' r=>cases e
 |oT kb e' r=>cases e
 |oN e' r=>cases n
 |oR e' r=>cases n
 |oX kb' e' r=>cases n
 |oD r=>cases n
 |oM kb' e' r=>cases n
 |oL _ r=>cases n
 |oQ e' r=>cases e
theorem Yh.dK{ks:List Key}{ds:List D}(le:Zl F H)(h:Yh K F H (.dK ks ds) v):∃a kvs,v= .ref a/\HK H a kvs/\kvs.map (·.1)=ks/\Reps K F ds (kvs.map (·.2)):=by
 obtain⟨sv,ns,e,n,sh,hp⟩:=h;cases sh with
 |fz r=>cases e;cases r with|dK h e r=>exact⟨_,_,rfl,⟨_,le _ _ h⟩,e,r⟩
 |ol r=>cases e
 |oK e' r=>cases e;exact⟨_,_,rfl,⟨_,hp _ af⟩,e',r⟩
 |oT kb e' r=>cases e
 |oN e' r=>cases n
 |oR e' r=>cases n
 |oX kb' e' r=>cases n
 |oD r=>cases n
 |oM kb' e' r=>cases n
 |oL _ r=>cases n
 |oQ e' r=>cases e;exact⟨_,_,rfl,⟨_,hp _ af⟩,e',r⟩
theorem Yh.dT{ks:List (List Key)}{ds:List D}(le:Zl F H)(h:Yh K F H (.dT ks ds) v):∃a kvs,v= .ref a/\HTt H a kvs/\kvs.map (·.1)=ks/\Reps K F ds (kvs.map (·.2)):=by
 obtain⟨sv,ns,e,n,sh,hp⟩:=h;cases sh with
 |fz r=>cases e;cases r with|dT h kb e r=>exact⟨_,_,rfl,⟨_,_,le _ _ h⟩,e,r⟩
 |ol r=>cases e
 |oK e' r=>cases e
 |oT kb e' r=>cases e;exact⟨_,_,rfl,⟨_,_,hp _ af⟩,e',r⟩
 |oN e' r=>cases n
 |oR e' r=>cases n
 |oX kb' e' r=>cases n
 |oD r=>cases n
 |oM kb' e' r=>cases n
 |oL _ r=>cases n
 |oQ e' r=>cases e
end
theorem Nl{a:ak}:([a]:List ak).Nodup:=d5.mpr ⟨λh=>(nomatch h),cz⟩
def Fin(Z:Ent K)(F H:Hp)(σ:St)(δ:Yw)(own:Nat->Zo)(sv:SV)(Q:VK):Prop:=
 ∀v H' F' ns,Zl H H'->Zl F F'->SR Z F' H' σ δ own->TmpOk Z F' H' own sv v ns->Q v H'
section
variable{Z:Ent K}{F H:Hp}{σ:St}{δ:Yw}{own:Nat->Zo}{Q:VK}
theorem Fin.fz{d:D}{v:V}(f:Fin Z F H σ δ own (.fz d) Q)(s:SR Z F H σ δ own)(h:Rep K F d v):Q v H:=f v H F [] (Zl.refl H) (Zl.refl F) s (.fz h)
theorem Fin.one{sv:SV}{o:HO}{p:ak}(f:Fin Z F H σ δ own sv Q)(s:SR Z F H σ δ own)(sh:Shape K F sv (.ref p) [(p,o)])(hp:H p=aB):Q (.ref p) (Y7 H p o):=by
 have sm:=Qy (o:=o) hp;refine f (.ref p) (Y7 H p o) F [(p,o)] sm (Zl.refl F) (s.grow sm) ⟨sh,Nl,λq hq=>?_,λi q r hq hr=>?_⟩
 .obtain rfl:=aq.mp hq;exact⟨s.le.free hp,s.old.free hp,Ye⟩
 .obtain rfl:=aq.mp hq;intro e;have e':p=r.1:=e;have z:=(s.ok i r hr).2.2;rw[<-e',hp]at z;cases z
theorem Fin.lst{xs:List D}{vs:List V}{p:ak}(f:Fin Z F H σ δ own (.ol xs) Q)(s:SR Z F H σ δ own)(r:Reps K F xs vs)(hp:H p=aB):Q (.ref p) (Y7 H p (.lst vs)):=f.one s (.ol r) hp
theorem Fin.tup{xs:List D}{vs:List V}{p:ak}(f:Fin Z F H σ δ own (.fz (.tup xs)) Q)(s:SR Z F H σ δ own)(r:Reps K F xs vs)(hp:H p=aB):Q (.ref p) (Y7 H p (.tup vs)):=by
 have sm:=Qy (o:=.tup vs) hp;have sF:Zl F (Jh F [(p,.tup vs)]):=Qb λq hq=>by obtain rfl:=aq.mp hq;exact s.le.free hp
 refine f (.ref p) (Y7 H p (.tup vs)) (Jh F [(p,.tup vs)]) [] sm sF ?_ (.fz (.tup Ye (r.mono sF)));refine(s.grow sm).addF (Nl) (λq hq=>?_) (λq hq=>?_) (λq hq=>?_) λi q u hq hu=>?_
 .obtain rfl:=aq.mp hq;exact s.le.free hp
 .obtain rfl:=aq.mp hq;exact Ye
 .obtain rfl:=aq.mp hq;exact s.old.free hp
 .obtain rfl:=aq.mp hq;intro e;have e':p=u.1:=e;have z:=(s.ok i u hu).2.2;rw[<-e',hp]at z;cases z
end
theorem Qz{F:Hp}{d:D}{v:V}{ns:Zo}(h:Shape K F (.fz d) v ns):Rep K F d v:=by
 cases h with
 |fz r=>exact r
section
variable{Z:Ent K}{H:Hp}{σ:St}{Q:VK}
@[simp]def Za(i:Nat):FE:=λδ=>match δ[i]? with
 |some (aA (.fz d))=>aA (.tmp (.fz d),δ)
 |some (aA _)=>aA (.bw i,δ)
 |_=>aB
theorem Zqn{i:Nat}(h:Ze Z (Za i) σ H Q):Mz i σ H Q:=by
 obtain⟨F,δ,own,rv,δ',s,e,k⟩:=h;unfold Za at e;split at e
 .rename_i d hd;cases e;obtain⟨v,h1,h2⟩:=s.at' i _ hd;exact⟨v,h1,k v H F own (Zl.refl H) (Zl.refl F) s ⟨[],.fz (Qz h2)⟩⟩
 .rename_i sv hsv hd;cases e;obtain⟨v,h1,h2⟩:=s.at' i _ hd;exact⟨v,h1,k v H F own (Zl.refl H) (Zl.refl F) s h1⟩
 .cases e
@[simp]def Zb(d:D):FE:=λδ=>some (.tmp (.fz d),δ)
theorem Gc{d:D}{v:V}(hr:∀F,Rep K F d v)(h:Ze Z (Zb d) σ H Q):tC v σ H Q:=by obtain⟨F,δ,own,rv,δ',s,e,k⟩:=h;cases e;exact k v H F own (Zl.refl H) (Zl.refl F) s ⟨[],.fz (hr F)⟩
@[simp]def Zj:FA:=λδ=>some ([],δ)
@[simp]def Zc(fe:FE)(fa:FA):FA:=λδ=>(fe δ).bind λp=>(fa p.2).bind λq=>some (p.1::q.1,q.2)
theorem Zdm{R:List V->Hp->Prop}(h:Od Z Zj σ H R):Av σ H R:=by obtain⟨F,δ,own,rvs,δ',s,e,k⟩:=h;cases e;exact k [] H F own (Zl.refl H) (Zl.refl F) s .nil
theorem Za6{fe:FE}{fa:FA}{R:List V->Hp->Prop}(h:Od Z (Zc fe fa) σ H R):Gu (Ze Z fe) (Od Z fa) σ H R:=by obtain⟨F,δ,own,rvs,δ',s,e,k⟩:=h;obtain⟨⟨rv,δ1⟩,e1,e2⟩:=aa.mp e;obtain⟨⟨rr,δ2⟩,e3,e4⟩:=aa.mp e2;cases e4;refine⟨F,δ,own,rv,δ1,s,e1,λv H1 F1 own1 sH sF s1 r1=>?_⟩;obtain⟨F2,sF2,s2,r2⟩:=s1.settleR r1;exact⟨F2,δ1,own1,rr,δ2,s2,e3,λvs H3 F3 own3 sH3 sF3 s3 r3=>k _ H3 F3 own3 (sH.trans sH3) (sF.trans (sF2.trans sF3)) s3 (.cons (r2.mono sF3) r3)⟩
@[simp]def Gd:List RV->Yw->Option (List D)
 | [],_=>aA []
 |rv::r,δ=>(rdv rv δ).bind λd=>(Gd r δ).bind λds=>aA (d::ds)
theorem SR.rdAll{F:Hp}{δ:Yw}{own:Nat->Zo}(s:SR Z F H σ δ own):∀{rvs:List RV} {vs:List V} {ds:List D},RVSs K F σ rvs vs->Gd rvs δ=aA ds->RepNs K F H ds vs
 |_,_,_,.nil,e=>by cases e;exact .nil
 |_,_,_,.cons h t,e=>by obtain⟨d,e1,e2⟩:=aa.mp e;obtain⟨ds,e3,e4⟩:=aa.mp e2;cases e4;exact .cons (s.rd h e1) (s.rdAll t e3)
@[simp]def Yg(g:List D->Option SV)(fa:FA):FE:=λδ=>(fa δ).bind λp=>(Gd p.1 p.2).bind λds=>(g ds).bind λsv=>some (.tmp sv,p.2)
def O7(Z:Ent K)(r:List V->Hp->VK->Prop)(g:List D->Option SV):Prop:=
 ∀(F H:Hp) (σ:St) (δ:Yw) (own:Nat->Zo) (vs:List V) (ds:List D) (sv:SV) (Q:VK),SR Z F H σ δ own->RepNs K F H ds vs->g ds=aA sv->Fin Z F H σ δ own sv Q->r vs H Q
theorem Vp{r:List V->Hp->VK->Prop}{g:List D->Option SV}{fa:FA}(hg:O7 Z r g)(h:Ze Z (Yg g fa) σ H Q):tCB r (Od Z fa) σ H Q:=by obtain⟨F,δ,own,rv,δ',s,e,k⟩:=h;obtain⟨⟨rvs,δ1⟩,e1,e2⟩:=aa.mp e;obtain⟨ds,e3,e4⟩:=aa.mp e2;obtain⟨sv,e5,e6⟩:=aa.mp e4;cases e6;refine⟨F,δ,own,rvs,δ1,s,e1,λvs H1 F1 own1 sH sF s1 r1=>?_⟩;exact hg F1 H1 σ δ1 own1 vs ds sv Q s1 (s1.rdAll r1 e3) e5 λv H2 F2 ns sH2 sF2 s2 t=>k v H2 F2 own1 (sH.trans sH2) (sF.trans sF2) s2 ⟨ns,t⟩
@[simp]noncomputable def g2(g:D->D->Option SV):List D->Option SV
 | [x,y]=>g x y
 |_=>aB
@[simp]def Zg(g:D->D->Option SV)(fa fb:FE):FE:=Yg (g2 g) (Zc fa (Zc fb Zj))
def Yr(Z:Ent K)(r:R2)(g:D->D->Option SV):Prop:=
 ∀(F H:Hp) (σ:St) (δ:Yw) (own:Nat->Zo) (x y:V) (d1 d2:D) (sv:SV) (Q:VK),SR Z F H σ δ own->Yh K F H d1 x->Yh K F H d2 y->g d1 d2=aA sv->Fin Z F H σ δ own sv Q->r x y H Q
theorem N7{r:R2}{g:D->D->Option SV}{fa fb:FE}(hg:Yr Z r g)(h:Ze Z (Zg g fa fb) σ H Q):tOp r (Ze Z fa) (Ze Z fb) σ H Q:=by
 have hN:O7 Z (λvs H Q=>∃x y,vs=[x,y]/\r x y H Q) (g2 g):=by
  intro F H σ δ own vs ds sv Q s rs e f;cases rs with
  |nil=>cases e
  |cons h1 t1=>
   cases t1 with
   |nil=>cases e
   |cons h2 t2=>
    cases t2 with
    |nil=>exact⟨_,_,rfl,hg F H σ δ own _ _ _ _ sv Q s h1 h2 e f⟩
    |cons h3 t3=>cases e
 obtain⟨F,δ,own,rv,δ',s,e,k⟩:=Vp hN h;obtain⟨⟨rv1,δ1⟩,e1,e2⟩:=aa.mp e;obtain⟨⟨rr,δ2⟩,e3,e4⟩:=aa.mp e2;cases e4;obtain⟨⟨rv2,δ3⟩,e5,e6⟩:=aa.mp e3;obtain⟨⟨rr',δ4⟩,e7,e8⟩:=aa.mp e6;cases e8;cases e7;refine⟨F,δ,own,rv1,δ1,s,e1,λv H1 F1 own1 sH sF s1 r1=>?_⟩;obtain⟨F2,sF2,s2,r2⟩:=s1.settleR r1;refine⟨F2,δ1,own1,rv2,δ3,s2,e5,λu H3 F3 own3 sH3 sF3 s3 r3=>?_⟩;obtain⟨F4,sF4,s4,r4⟩:=s3.settleR r3;obtain⟨x,y,exy,q⟩:=k [v,u] H3 F4 own3 (sH.trans sH3) (sF.trans (sF2.trans (sF3.trans sF4))) s4 (.cons (r2.mono (sF3.trans sF4)) (.cons r4 .nil));injection exy with ex ey
 injection ey with ey _;subst ex ey;exact q
@[simp]def unF(g:D->Option SV)(fa:FE):FE:=Yg (λ| [x]=>g x|_=>none) (Zc fa Zj)
def Zkz(Z:Ent K)(r:V->Hp->VK->Prop)(g:D->Option SV):Prop:=
 ∀(F H:Hp) (σ:St) (δ:Yw) (own:Nat->Zo) (x:V) (d:D) (sv:SV) (Q:VK),SR Z F H σ δ own->Yh K F H d x->g d=aA sv->Fin Z F H σ δ own sv Q->r x H Q
theorem Zts{r:V->Hp->VK->Prop}{g:D->Option SV}{fa:FE}(hg:Zkz Z r g)(h:Ze Z (unF g fa) σ H Q):tUn r (Ze Z fa) σ H Q:=by obtain⟨F,δ,own,rv,δ',s,e,k⟩:=h;obtain⟨⟨rvs,δ1⟩,e1,e2⟩:=aa.mp e;obtain⟨ds,e3,e4⟩:=aa.mp e2;obtain⟨sv,e5,e6⟩:=aa.mp e4;cases e6;obtain⟨⟨rv1,δ2⟩,e7,e8⟩:=aa.mp e1;obtain⟨⟨rr',δ4⟩,e9,e10⟩:=aa.mp e8;cases e10;cases e9;obtain⟨d,e11,e12⟩:=aa.mp e3;cases e12;refine⟨F,δ,own,rv1,δ2,s,e7,λv H1 F1 own1 sH sF s1 r1=>?_⟩;obtain⟨F2,sF2,s2,r2⟩:=s1.settleR r1;exact hg F2 H1 σ δ2 own1 v d sv Q s2 (s2.rd r2 e11) e5 λv H2 F2' ns sH2 sF2' s2 t=>k v H2 F2' own1 (sH.trans sH2) (sF.trans (sF2.trans sF2')) s2 ⟨ns,t⟩
@[simp]def Zw:FD:=λδ=>some ([],δ)
@[simp]def Zk(fe:FE)(fd:FD):FD:=λδ=>(fe δ).bind λp=>(frz p.1 p.2).bind λq=>(fd q.2).bind λr=>some (q.1::r.1,r.2)
theorem Fp{R:List V->Hp->Prop}(h:Jy Z Zw σ H R):Av σ H R:=by obtain⟨F,δ,own,rvs,δ',s,e,k⟩:=h;cases e;exact k [] H F own (Zl.refl H) (Zl.refl F) s .nil
theorem Rf{fe:FE}{fd:FD}{R:List V->Hp->Prop}(h:Jy Z (Zk fe fd) σ H R):Gu (Ze Z fe) (Jy Z fd) σ H R:=by obtain⟨F,δ,own,rvs,δ',s,e,k⟩:=h;obtain⟨⟨rv,δ1⟩,e1,e2⟩:=aa.mp e;obtain⟨⟨d,δ2⟩,e3,e4⟩:=aa.mp e2;obtain⟨⟨ds,δ3⟩,e5,e6⟩:=aa.mp e4;cases e6;refine⟨F,δ,own,rv,δ1,s,e1,λv H1 F1 own1 sH sF s1 r1=>?_⟩;obtain⟨F2,sF2,s2,r2⟩:=s1.settleR r1;obtain⟨F3,own3,sF3,s3,r3⟩:=s2.frzR r2 e3;exact⟨F3,δ2,own3,ds,δ3,s3,e5,λvs H4 F4 own4 sH4 sF4 s4 r4=>k _ H4 F4 own4 (sH.trans sH4) (sF.trans (sF2.trans (sF3.trans sF4))) s4 (.cons (r3.mono sF4) r4)⟩
@[simp]def tupF(fd:FD):FE:=λδ=>(fd δ).bind λp=>if p.1.length<=bv then some (.tmp (.fz (.tup p.1)),p.2)else none
@[simp]def Oq(fd:FD):FE:=λδ=>(fd δ).bind λp=>if p.1.length<=bv then some (.tmp (.ol p.1),p.2)else none
theorem Zqo{fd:FD}(h:Ze Z (tupF fd) σ H Q):Zqb (Jy Z fd) σ H Q:=by
 obtain⟨F,δ,own,rv,δ',s,e,k⟩:=h;obtain⟨⟨ds,δ1⟩,e1,e2⟩:=aa.mp e;by_cases hz:ds.length<=bv
 .rw[if_pos hz]at e2;cases e2;refine⟨F,δ,own,ds,δ1,s,e1,λvs H1 F1 own1 sH sF s1 r1=>⟨by rw[<-r1.length];exact hz,λp hp=>?_⟩⟩;exact Fin.tup (λv H2 F2 ns a b c t=>k v H2 F2 own1 (sH.trans a) (sF.trans b) c ⟨ns,t⟩) s1 r1 hp
 .rw[if_neg hz]at e2;cases e2
theorem Zqp{fd:FD}(h:Ze Z (Oq fd) σ H Q):Zmn (Jy Z fd) σ H Q:=by
 obtain⟨F,δ,own,rv,δ',s,e,k⟩:=h;obtain⟨⟨ds,δ1⟩,e1,e2⟩:=aa.mp e;by_cases hz:ds.length<=bv
 .rw[if_pos hz]at e2;cases e2;refine⟨F,δ,own,ds,δ1,s,e1,λvs H1 F1 own1 sH sF s1 r1=>⟨by rw[<-r1.length];exact hz,λp hp=>?_⟩⟩;exact Fin.lst (λv H2 F2 ns a b c t=>k v H2 F2 own1 (sH.trans a) (sF.trans b) c ⟨ns,t⟩) s1 r1 hp
 .rw[if_neg hz]at e2;cases e2
end
@[simp]noncomputable def SV.scal:SV->Bool
 | .fz .non=>aC
 | .fz (.bl _)=>aC
 | .fz (.int _)=>aC
 | .fz (.str _)=>aC
 |_=>aD
def Y6(K:ad)(n:Nat)(g:List D->Option SV):Sp:=λvs H Q _=>∃F ds sv,Zl F H/\Reps K F ds vs/\ds.length=n/\g ds=aA sv/\
 ∀v H' F' ns,Zl H H'->Zl F F'->Zl F' H'->(∀(b:ak) (o:HO),F' b=aA o->F b=aA o\/H b=aB)->Shape K F' sv v ns->(U6 ns).Nodup->(∀p∈ns,F' p.1=aB/\H p.1=aB/\H' p.1=aA p.2)->Q v H'
@[simp]def frzAll:List RV->Yw->Option (List D×Yw)
 | [],δ=>aA ([],δ)
 |rv::r,δ=>(frz rv δ).bind λp=>(frzAll r p.2).bind λq=>aA (p.1::q.1,q.2)
theorem RVSs.mono{F F':Hp}{σ:St}(s:Zl F F'){rvs:List RV}{vs:List V}(h:RVSs K F σ rvs vs):RVSs K F' σ rvs vs:=by
 induction h with
 |nil=>exact .nil
 |cons h _ ih=>exact .cons (h.mono s) ih
section
variable{Z:Ent K}{H:Hp}{σ:St}{Q:VK}
theorem SR.frzAll{F:Hp}{δ:Yw}{own:Nat->Zo}:∀{rvs:List RV} {vs:List V} {ds:List D} {δ':Yw} {F:Hp} {δ:Yw} {own:Nat->Zo},SR Z F H σ δ own->RVSs K F σ rvs vs->DL.frzAll rvs δ=aA (ds,δ')->
  ∃F1 own1,Zl F F1/\SR Z F1 H σ δ' own1/\Reps K F1 ds vs
 |_,_,_,_,F,_,own,s,.nil,e=>by cases e;exact⟨F,own,Zl.refl F,s,.nil⟩
 |_,_,_,_,F,_,own,s,.cons h t,e=>by obtain⟨⟨d,δ1⟩,e1,e2⟩:=aa.mp e;obtain⟨⟨ds,δ2⟩,e3,e4⟩:=aa.mp e2;cases e4;obtain⟨F1,own1,sF1,s1,r1⟩:=s.frzR h e1;obtain⟨F2,own2,sF2,s2,r2⟩:=SR.frzAll (own:=own) (F:=F) (δ:=δ1) s1 (t.mono sF1) e3;exact⟨F2,own2,sF1.trans sF2,s2,.cons (r1.mono sF2) r2⟩
@[simp]def Yn(n:Nat)(g:List D->Option SV)(fa:FA):FE:=λδ=>(fa δ).bind λp=>(DL.frzAll p.1 p.2).bind λq=>if q.1.length=n then(g q.1).bind λsv=>some (.tmp sv,if sv.scal then p.2 else q.2)else none
theorem N8{F F':Hp}{sv:SV}{v:V}{ns:Zo}(h:sv.scal=aC)(sh:Shape K F sv v ns):ns=[]/\Shape K F' sv v []:=by
 cases sh with
 |fz r=>
  refine⟨rfl,.fz ?_⟩;cases r with
  |non=>exact .non
  |bl b=>exact .bl b
  |int i=>exact .int i
  |str x=>exact .str x
  |tup _ _=>cases h
  |lst _ _ _=>cases h
  |dK _ _ _=>cases h
  |dT _ _ _ _=>cases h
  |exc _ _=>cases h
  |dX _ _ _ _=>cases h
  |exd _ _ _ _ _=>cases h
 |ol _=>cases h
 |oK _ _=>cases h
 |oT _ _ _=>cases h
 |oN _ _=>cases h
 |oR _ _=>cases h
 |oX _ _ _=>cases h
 |oD _=>cases h
 |oM _ _ _=>cases h
 |oL _ _=>cases h
 |oQ _ _=>cases h
theorem Zm3{n:Nat}{g:List D->Option SV}{fa:FA}{E:XK}(h:Ze Z (Yn n g fa) σ H Q):Zc1 (Y6 K n g) [] E (Od Z fa) σ H Q:=by
 obtain⟨F,δ,own,rv,δ',s,e,k⟩:=h;obtain⟨⟨rvs,δ1⟩,e1,e2⟩:=aa.mp e;obtain⟨⟨ds,δ2⟩,e3,e4⟩:=aa.mp e2;by_cases hn:ds.length=n
 .rw[if_pos hn]at e4;obtain⟨sv,e5,e6⟩:=aa.mp e4;refine⟨F,δ,own,rvs,δ1,s,e1,λvs H1 F1 own1 sH sF s1 r1=>?_⟩;obtain⟨F2,own2,sF2,s2,r2⟩:=s1.frzAll (own:=own) (F:=F) (δ:=δ) r1 e3;rw[dm];refine⟨F2,ds,sv,s2.le,r2,hn,e5,λv H3 F3 ns sH3 sF3 le3 fro3 sh nd ok=>?_⟩;by_cases hs:sv.scal=aC
  .rw[if_pos hs]at e6;cases e6;obtain⟨_,sh'⟩:=N8 (F':=F1) hs sh;exact k v H3 F1 own1 (sH.trans sH3) sF (s1.grow sH3) ⟨[],sh',cz,λ_ h=>(nomatch h),λ_ _ _ h=>(nomatch h)⟩
  .rw[if_neg hs]at e6;cases e6;have s3:SR Z F3 H3 σ δ2 own2:=by
    refine⟨le3,λb o e=>?_,s2.old.trans sH3,s2.len,λi sw ei=>?_,s2.nod,λi p hp=>?_,s2.sep⟩
    .rcases fro3 b o e with z|z
     .exact s2.fro b o z
     .exact .inr (s2.old.free z)
    .obtain⟨w,h1,h2⟩:=s2.at' i sw ei;exact⟨w,h1,h2.mono sF3⟩
    .obtain⟨a,b,c⟩:=s2.ok i p hp;refine⟨?_,b,sH3 _ _ c⟩;cases z:F3 p.1 with
     |none=>rfl
     |some u=>
      rcases fro3 _ u z with y|y
      .rw[a]at y;cases y
      .rw[c]at y;cases y
   exact k v H3 F3 own2 (sH.trans sH3) (sF.trans (sF2.trans sF3)) s3 ⟨ns,sh,nd,λp hp=>⟨(ok p hp).1,(s2.old).free (ok p hp).2.1,(ok p hp).2.2⟩,λi p q hp hq e=>by
    have z:=(s2.ok i q hq).2.2;rw[<-e,(ok p hp).2.1]at z;cases z⟩
 .rw[if_neg hn]at e4;cases e4
end
end DL
namespace DL
open PySem L2
variable{K:ad}
section
variable{Z:Ent K}{H:Hp}{σ:St}{R:Bool->Hp->Prop}{Q:VK}
@[simp]def Zu(fe:FE):FT:=λδ=>(fe δ).bind λp=>match p.1 with
 | .tmp (.fz (.bl b))=>aA (b,p.2)
 |_=>aB
theorem Lg{fe:FE}(h:Yi Z (Zu fe) σ H R):Zko (Ze Z fe) σ H R:=by
 obtain⟨F,δ,own,b,δ',s,e,k⟩:=h;obtain⟨⟨rv,δ1⟩,e1,e2⟩:=aa.mp e;refine⟨F,δ,own,rv,δ1,s,e1,λv H1 F1 own1 sH sF s1 r1=>?_⟩;dsimp only at e2;split at e2
 .cases e2;obtain⟨ns,t⟩:=r1;cases Qz t.sh;exact⟨_,rfl,k H1 F1 own1 sH sF s1⟩
 .cases e2
theorem Zhw{fe:FE}(h:Yi Z (Zu fe) σ H R):tB (Ze Z fe) σ H R:=Lg h
@[simp]def Vq(f g:FT):FT:=λδ=>(f δ).bind λp=>if p.1=true then g p.2 else some (false,p.2)
@[simp]def Hs(f g:FT):FT:=λδ=>(f δ).bind λp=>if p.1=true then some (true,p.2)else g p.2
@[simp]def Ad(f:FT):FT:=λδ=>(f δ).bind λp=>some (!p.1,p.2)
theorem Zqq{f g:FT}(h:Yi Z (Vq f g) σ H R):Zpr (Yi Z f) (Yi Z g) σ H R:=by
 obtain⟨F,δ,own,b,δ',s,e,k⟩:=h;obtain⟨⟨c,δ1⟩,e1,e2⟩:=aa.mp e;refine⟨F,δ,own,c,δ1,s,e1,λH1 F1 own1 sH sF s1=>?_⟩;cases c with
 |true=>rw[if_pos rfl]at e2⊢;exact⟨F1,δ1,own1,b,δ',s1,e2,λH2 F2 own2 a c d=>k H2 F2 own2 (sH.trans a) (sF.trans c) d⟩
 |false=>rw[if_neg ba]at e2⊢;cases e2;exact k H1 F1 own1 sH sF s1
theorem Ztt{f g:FT}(h:Yi Z (Hs f g) σ H R):tOr (Yi Z f) (Yi Z g) σ H R:=by
 obtain⟨F,δ,own,b,δ',s,e,k⟩:=h;obtain⟨⟨c,δ1⟩,e1,e2⟩:=aa.mp e;refine⟨F,δ,own,c,δ1,s,e1,λH1 F1 own1 sH sF s1=>?_⟩;cases c with
 |true=>rw[if_pos rfl]at e2⊢;cases e2;exact k H1 F1 own1 sH sF s1
 |false=>rw[if_neg ba]at e2⊢;exact⟨F1,δ1,own1,b,δ',s1,e2,λH2 F2 own2 a c d=>k H2 F2 own2 (sH.trans a) (sF.trans c) d⟩
theorem Zqr{f:FT}(h:Yi Z (Ad f) σ H R):Zps (Yi Z f) σ H R:=by obtain⟨F,δ,own,b,δ',s,e,k⟩:=h;obtain⟨⟨c,δ1⟩,e1,e2⟩:=aa.mp e;cases e2;exact⟨F,δ,own,c,δ1,s,e1,k⟩
@[simp]def Zhx(f g:FE):FE:=λδ=>(Zu f δ).bind λp=>if p.1=true then g p.2 else some (.tmp (.fz (.bl false)),p.2)
@[simp]def Zm4(f:FE):FE:=λδ=>(Zu f δ).bind λp=>some (.tmp (.fz (.bl (!p.1))),p.2)
theorem Zdo{F:Hp}{own:Nat->Zo}{b:Bool}:N6 Z F H σ own (.tmp (.fz (.bl b))) (.bl b):=⟨[],.fz (.bl b)⟩
theorem Zm5{f g:FE}(h:Ze Z (Zhx f g) σ H Q):Zkg (Ze Z f) (Ze Z g) σ H Q:=by
 obtain⟨F,δ,own,rv,δ',s,e,k⟩:=h;obtain⟨⟨c,δ1⟩,e1,e2⟩:=aa.mp e;refine Lg ⟨F,δ,own,c,δ1,s,e1,λH1 F1 own1 sH sF s1=>?_⟩;cases c with
 |true=>rw[if_pos rfl]at e2⊢;exact⟨F1,δ1,own1,rv,δ',s1,e2,λv H2 F2 own2 a c d=>k v H2 F2 own2 (sH.trans a) (sF.trans c) d⟩
 |false=>rw[if_neg ba]at e2⊢;cases e2;exact k _ H1 F1 own1 sH sF s1 Zdo
theorem Zm6{f:FE}(h:Ze Z (Zm4 f) σ H Q):Zkh (Ze Z f) σ H Q:=by obtain⟨F,δ,own,rv,δ',s,e,k⟩:=h;obtain⟨⟨c,δ1⟩,e1,e2⟩:=aa.mp e;cases e2;exact Lg ⟨F,δ,own,c,δ1,s,e1,λH1 F1 own1 sH sF s1=>k _ H1 F1 own1 sH sF s1 Zdo⟩
@[simp]def ifF(t:FT)(f g:FE):FE:=λδ=>(t δ).bind λp=>if p.1=true then f p.2 else g p.2
theorem Ztv{t:FT}{f g:FE}(h:Ze Z (ifF t f g) σ H Q):tIf (Yi Z t) (Ze Z f) (Ze Z g) σ H Q:=by
 obtain⟨F,δ,own,rv,δ',s,e,k⟩:=h;obtain⟨⟨c,δ1⟩,e1,e2⟩:=aa.mp e;refine⟨F,δ,own,c,δ1,s,e1,λH1 F1 own1 sH sF s1=>?_⟩;cases c with
 |true=>rw[if_pos rfl]at e2⊢;exact⟨F1,δ1,own1,rv,δ',s1,e2,λv H2 F2 own2 a c d=>k v H2 F2 own2 (sH.trans a) (sF.trans c) d⟩
 |false=>rw[if_neg ba]at e2⊢;exact⟨F1,δ1,own1,rv,δ',s1,e2,λv H2 F2 own2 a c d=>k v H2 F2 own2 (sH.trans a) (sF.trans c) d⟩
@[simp]def Vr(g g':D->D->Option SV)(fa fb fc:FE):FE:=λδ=>(fa δ).bind λp=>(fb p.2).bind λq=>(rdv p.1 q.2).bind λx=>(rdv q.1 q.2).bind λy=>(g x y).bind fun
 | .fz (.bl aC)=>(fc q.2).bind λr=>(rdv q.1 r.2).bind λy'=>(rdv r.1 r.2).bind λz=>(g' y' z).bind λsv=>aA (.tmp sv,r.2)
 | .fz (.bl aD)=>aA (.tmp (.fz (.bl aD)),q.2)
 |_=>aB
theorem Zhy{r r':R2}{g g':D->D->Option SV}{fa fb fc:FE}(hg:Yr Z r g)(hg':Yr Z r' g')(h:Ze Z (Vr g g' fa fb fc) σ H Q):Zcy r r' (Ze Z fa) (Ze Z fb) (Ze Z fc) σ H Q:=by
 obtain⟨F,δ,own,rv,δ',s,e,k⟩:=h;obtain⟨⟨rv1,δ1⟩,e1,e⟩:=aa.mp e;obtain⟨⟨rv2,δ2⟩,e2,e⟩:=aa.mp e;obtain⟨x,e3,e⟩:=aa.mp e;obtain⟨y,e4,e⟩:=aa.mp e;obtain⟨sv,e5,e⟩:=aa.mp e;refine⟨F,δ,own,rv1,δ1,s,e1,λv H1 F1 own1 sH1 sF1 s1 r1=>?_⟩;obtain⟨F1',sF1',s1',r1'⟩:=s1.settleR r1;refine⟨F1',δ1,own1,rv2,δ2,s1',e2,λu H2 F2 own2 sH2 sF2 s2 r2=>?_⟩;obtain⟨F3,sF3,s3,r3⟩:=s2.settleR r2;refine hg F3 H2 σ δ2 own2 v u x y sv _ s3 (s3.rd (r1'.mono (sF2.trans sF3)) e3) (s3.rd r3 e4) e5 λz H4 F4 ns sH4 sF4 s4 t4=>?_;dsimp only at e;split at e
 .cases Qz t4.sh;refine⟨aC,rfl,?_⟩;rw[if_pos rfl];obtain⟨⟨rv5,δ5⟩,e6,e⟩:=aa.mp e;obtain⟨y',e7,e⟩:=aa.mp e;obtain⟨z',e8,e⟩:=aa.mp e;obtain⟨sv',e9,e⟩:=aa.mp e;cases e;refine⟨F4,δ2,own2,rv5,δ5,s4,e6,λw H5 F5 own5 sH5 sF5 s5 r5=>?_⟩;obtain⟨F6,sF6,s6,r6⟩:=s5.settleR r5;refine hg' F6 H5 σ δ5 own5 u w y' z' sv' _ s6 (s6.rd (r3.mono (sF4.trans (sF5.trans sF6))) e7) (s6.rd r6 e8) e9 λq H7 F7 ns7 sH7 sF7 s7 t7=>?_;exact k q H7 F7 own5 (sH1.trans (sH2.trans (sH4.trans (sH5.trans sH7)))) (sF1.trans (sF1'.trans (sF2.trans (sF3.trans (sF4.trans (sF5.trans (sF6.trans sF7))))))) s7 ⟨ns7,t7⟩
 .cases Qz t4.sh;cases e;refine⟨aD,rfl,?_⟩;rw[if_neg ba];exact k _ H4 F4 own2 (sH1.trans (sH2.trans sH4)) (sF1.trans (sF1'.trans (sF2.trans (sF3.trans sF4)))) s4 Zdo
 .cases e
end
inductive Fl where
 |nx (δ:Yw)|bk (δ:Yw)|ct (δ:Yw)|rt (sv:SV)|ex (e:Exn) (δ:Yw)
abbrev FS:=Yw->Option Fl
def Rg(Z:Ent K)(F:Hp)(D:Ends):Fl->Prop
 | .nx δ=>∀σ' H' F' own',Zl F F'->SR Z F' H' σ' δ own'->D.nx σ' H'
 | .bk δ=>∀σ' H' F' own',Zl F F'->SR Z F' H' σ' δ own'->D.bk σ' H'
 | .ct δ=>∀σ' H' F' own',Zl F F'->SR Z F' H' σ' δ own'->D.ct σ' H'
 | .rt sv=>∀v H' F' ns,Zl F F'->Zl F' H'->(∀(b:ak) (o:HO),F' b=aA o->Z.f b=aA o\/Z.h b=aB)->Zl Z.h H'->Shape K F' sv v ns->(U6 ns).Nodup->
   (∀p∈ns,F' p.1=aB/\Z.h p.1=aB/\H' p.1=aA p.2)->D.rt v H'
 | .ex x δ=>∀σ' H' F' own' cls od,Zl F F'->SR Z F' H' σ' δ own'->Vo K F' x cls od->Z.x cls od σ' H'
theorem Rg.mono{Z:Ent K}{F F':Hp}{D:Ends}(s:Zl F F'):∀{fl:Fl},Rg Z F D fl->Rg Z F' D fl
 | .nx _,h=>λσ' H' F2 own' a b=>h σ' H' F2 own' (s.trans a) b
 | .bk _,h=>λσ' H' F2 own' a b=>h σ' H' F2 own' (s.trans a) b
 | .ct _,h=>λσ' H' F2 own' a b=>h σ' H' F2 own' (s.trans a) b
 | .rt _,h=>λv H' F2 ns a=>h v H' F2 ns (s.trans a)
 | .ex _ _,h=>λσ' H' F2 own' cls od a=>h σ' H' F2 own' cls od (s.trans a)
def Zx(Z:Ent K)(f:FS):TS:=λD σ H=>∃F δ own fl,SR Z F H σ δ own/\f δ=aA fl/\Rg Z F D fl
section
variable{Z:Ent K}{H:Hp}{σ:St}{E:Ends}
@[simp]def Yl:FS:=λδ=>some (.nx δ)
theorem Zm7(h:Zx Z Yl E σ H):Zki E σ H:=by obtain⟨F,δ,own,fl,s,e,k⟩:=h;cases e;exact k σ H F own (Zl.refl F) s
@[simp]def Zm(f g:FS):FS:=λδ=>(f δ).bind fun
 | .nx δ'=>g δ'
 |fl=>aA fl
theorem Zqs{f g:FS}(h:Zx Z (Zm f g) E σ H):Zpu (Zx Z f) (Zx Z g) E σ H:=by
 obtain⟨F,δ,own,fl,s,e,k⟩:=h;obtain⟨f1,e1,e2⟩:=aa.mp e;refine⟨F,δ,own,f1,s,e1,?_⟩;cases f1 with
 |nx δ1=>exact λσ' H' F' own' sF s'=>⟨F',δ1,own',fl,s',e2,k.mono sF⟩
 |bk δ1=>cases e2;exact k
 |ct δ1=>cases e2;exact k
 |rt sv=>cases e2;exact k
 |ex x δ1=>cases e2;exact k
@[simp]def U7(t:FT)(f g:FS):FS:=λδ=>(t δ).bind λp=>if p.1=true then f p.2 else g p.2
theorem Zqt{t:FT}{f g:FS}(h:Zx Z (U7 t f g) E σ H):Zpw (Yi Z t) (Zx Z f) (Zx Z g) E σ H:=by
 obtain⟨F,δ,own,fl,s,e,k⟩:=h;obtain⟨⟨c,δ1⟩,e1,e2⟩:=aa.mp e;refine⟨F,δ,own,c,δ1,s,e1,λH1 F1 own1 sH sF s1=>?_⟩;cases c with
 |true=>rw[if_pos rfl]at e2⊢;exact⟨F1,δ1,own1,fl,s1,e2,k.mono sF⟩
 |false=>rw[if_neg ba]at e2⊢;exact⟨F1,δ1,own1,fl,s1,e2,k.mono sF⟩
@[simp]def Ztw:RV->Yw->Option SV
 | .tmp sv,_=>aA sv
 | .bw i,δ=>δ[i]?.join
@[simp]def Y3(fe:FE):FS:=λδ=>(fe δ).bind λp=>(Ztw p.1 p.2).bind λsv=>some (.rt sv)
theorem Zqu{fe:FE}(h:Zx Z (Y3 fe) E σ H):Zpv (Ze Z fe) E σ H:=by
 obtain⟨F,δ,own,fl,s,e,k⟩:=h;obtain⟨⟨rv,δ1⟩,e1,e2⟩:=aa.mp e;obtain⟨sv,e3,e4⟩:=aa.mp e2;cases e4;refine⟨F,δ,own,rv,δ1,s,e1,λv H1 F1 own1 sH sF s1 r1=>?_⟩;cases rv with
 |tmp sw=>cases e3;obtain⟨ns,t⟩:=r1;exact k v H1 F1 ns sF s1.le s1.fro s1.old t.sh t.nd t.ok
 |bw i=>obtain⟨w,h1,h2⟩:=s1.at' i sv (O6 e3);have r1':σ[i]? =aA (aA v):=r1;rw[r1']at h1;cases h1;exact k v H1 F1 (own1 i) sF s1.le s1.fro s1.old h2 (s1.nod i) (s1.ok i)
@[simp]def stow(i:Nat):RV->Yw->Option Yw
 | .tmp sv,δ=>if i<δ.length then aA (δ.set i (aA sv))else aB
 | .bw j,δ=>(frz (.bw j) δ).bind λp=>if i<p.2.length then aA (p.2.set i (aA (.fz p.1)))else aB
theorem SR.stow{F:Hp}{δ δ':Yw}{own:Nat->Zo}{i:Nat}{rv:RV}{v:V}(s:SR Z F H σ δ own)(r:N6 Z F H σ own rv v)(e:DL.stow i rv δ=aA δ'):∃F' own',Zl F F'/\SR Z F' H (σ.set i (aA v)) δ' own':=by
 cases rv with
 |tmp sv=>
  obtain⟨ns,t⟩:=r;have e:(if i<δ.length then aA (δ.set i (aA sv))else aB)=aA δ':=e;by_cases hi:i<δ.length
  .rw[if_pos hi]at e;cases e;exact⟨F,_,Zl.refl F,s.store t (by rw[s.len];exact hi)⟩
  .rw[if_neg hi]at e;cases e
 |bw j=>
  obtain⟨⟨d,δ1⟩,e1,e2⟩:=aa.mp e;obtain⟨F1,own1,sF,s1,r1⟩:=s.frzR (rv:=.bw j) (v:=v) r e1;by_cases hi:i<δ1.length
  .rw[if_pos hi]at e2;cases e2;exact⟨F1,_,sF,s1.store (.fz r1) (by rw[s1.len];exact hi)⟩
  .rw[if_neg hi]at e2;cases e2
@[simp]def Yd(i:Nat)(fe:FE):FS:=λδ=>(fe δ).bind λp=>(stow i p.1 p.2).bind λδ'=>some (.nx δ')
theorem Ht{i:Nat}{fe:FE}(h:Zx Z (Yd i fe) E σ H):Zap (Ze Z fe) (Ar i) E σ H:=by obtain⟨F,δ,own,fl,s,e,k⟩:=h;obtain⟨⟨rv,δ1⟩,e1,e2⟩:=aa.mp e;obtain⟨δ2,e3,e4⟩:=aa.mp e2;cases e4;refine⟨F,δ,own,rv,δ1,s,e1,λv H1 F1 own1 sH sF s1 r1=>?_⟩;obtain⟨F2,own2,sF2,s2⟩:=s1.stow r1 e3;exact k _ H1 F2 own2 (sF.trans sF2) s2
set_option genInjectivity false in
structure FG where
 run:D->Yw->Option Yw
 tch:List Nat
set_option genInjectivity false in
structure FGs where
 run:List D->Yw->Option Yw
 tch:List Nat
def Cc(Z:Ent K)(g:FG):TG:=λv σ H Q=>∃F δ own d δ',SR Z F H σ δ own/\Rep K F d v/\g.run d δ=aA δ'/\∀σ' own',SR Z F H σ' δ' own'->(∀j:Nat,j∉g.tch->σ'[j]? =σ[j]?)->Q σ' H
def Cr(Z:Ent K)(g:FGs):TGs:=λvs σ H Q=>∃F δ own ds δ',SR Z F H σ δ own/\Reps K F ds vs/\g.run ds δ=aA δ'/\∀σ' own',SR Z F H σ' δ' own'->(∀j:Nat,j∉g.tch->σ'[j]? =σ[j]?)->Q σ' H
noncomputable def Zi(i:Nat):FG:=⟨λd δ=>if i<δ.length then aA (δ.set i (aA (.fz d)))else aB,[i]⟩
theorem Zhz{i:Nat}{v:V}{Q:St->Hp->Prop}(h:Cc Z (Zi i) v σ H Q):Ar i v σ H Q:=by
 obtain⟨F,δ,own,d,δ',s,r,e,k⟩:=h;have e:(if i<δ.length then aA (δ.set i (aA (.fz d)))else aB)=aA δ':=e;by_cases hi:i<δ.length
 .rw[if_pos hi]at e;cases e;exact k _ _ (s.store (.fz r) (by rw[s.len];exact hi)) λj hj=>c9 λz=>hj (by rw[z];exact af)
 .rw[if_neg hi]at e;cases e
noncomputable def Ug:FGs:=⟨λds δ=>match ds with
 | []=>aA δ
 |_=>aB,[]⟩
noncomputable def Yo(g:FG)(r:FGs):FGs:=⟨λds δ=>match ds with
 |d::t=>(g.run d δ).bind λδ1=>r.run t δ1
 | []=>aB,g.tch++r.tch⟩
@[simp]theorem Zpe(i:Nat)(d:D)(δ:Yw):(Zi i).run d δ=if i<δ.length then some (δ.set i (some (.fz d)))else none:=rfl
@[simp]theorem Zqv(δ:Yw):Ug.run [] δ=some δ:=rfl
@[simp]theorem Zpf(g:FG)(r:FGs)(d:D)(t:List D)(δ:Yw):(Yo g r).run (d::t) δ=(g.run d δ).bind λδ1=>r.run t δ1:=rfl
theorem Zm8{vs:List V}{Q:St->Hp->Prop}(h:Cr Z Ug vs σ H Q):Zpy vs σ H Q:=by
 obtain⟨F,δ,own,ds,δ',s,r,e,k⟩:=h;cases r with
 |nil=>cases e;exact⟨rfl,k σ own s λ_ _=>rfl⟩
 |cons h t=>cases e
theorem Zh0{g:FG}{r:FGs}{vs:List V}{Q:St->Hp->Prop}(h:Cr Z (Yo g r) vs σ H Q):Zkj (Cc Z g) (Cr Z r) vs σ H Q:=by
 obtain⟨F,δ,own,ds,δ',s,rr,e,k⟩:=h;cases rr with
 |nil=>cases e
 |cons h t=>obtain⟨δ1,e1,e2⟩:=aa.mp e;exact⟨_,_,rfl,F,δ,own,_,δ1,s,h,e1,λσ1 own1 s1 t1=>⟨F,δ1,own1,_,δ',s1,t,e2,λσ2 own2 s2 t2=>k σ2 own2 s2 λj hj=>(t2 j λz=>hj (b6 _ z)).trans (t1 j λz=>hj (di _ z))⟩⟩
noncomputable def Jz(n:Nat)(g:FGs):FG:=⟨λd δ=>match d with
 | .tup xs=>if xs.length=n then g.run xs δ else aB
 |_=>aB,g.tch⟩
@[simp]theorem Zqw(n:Nat)(g:FGs)(xs:List D)(δ:Yw):(Jz n g).run (.tup xs) δ=if xs.length=n then g.run xs δ else none:=rfl
theorem Zm9{n:Nat}{g:FGs}{v:V}{Q:St->Hp->Prop}(h:Cc Z (Jz n g) v σ H Q):Zpz K n (Cr Z g) v σ H Q:=by
 obtain⟨F,δ,own,d,δ',s,r,e,k⟩:=h;dsimp only[Jz]at e;split at e
 .rename_i xs;by_cases hn:xs.length=n
  .rw[if_pos hn]at e;cases r with
   |tup h r=>exact⟨_,_,rfl,Qf s.le (Gx h),by rw[<-r.length];exact hn,F,δ,own,_,δ',s,r,e,k⟩
  .rw[if_neg hn]at e;cases e
 .cases e
@[simp]def Ge(g:FG)(fe:FE):FS:=λδ=>(fe δ).bind λp=>(frz p.1 p.2).bind λq=>(g.run q.1 q.2).bind λδ'=>some (.nx δ')
theorem Zdp{g:FG}{fe:FE}(h:Zx Z (Ge g fe) E σ H):Zap (Ze Z fe) (Cc Z g) E σ H:=by obtain⟨F,δ,own,fl,s,e,k⟩:=h;obtain⟨⟨rv,δ1⟩,e1,e2⟩:=aa.mp e;obtain⟨⟨d,δ2⟩,e3,e4⟩:=aa.mp e2;obtain⟨δ3,e5,e6⟩:=aa.mp e4;cases e6;refine⟨F,δ,own,rv,δ1,s,e1,λv H1 F1 own1 sH sF s1 r1=>?_⟩;obtain⟨F2,sF2,s2,r2⟩:=s1.settleR r1;obtain⟨F3,own3,sF3,s3,r3⟩:=s2.frzR r2 e3;exact⟨F3,δ2,own3,d,δ3,s3,r3,e5,λσ' own' s' _=>k σ' H1 F3 own' (sF.trans (sF2.trans sF3)) s'⟩
@[simp]def Y8(tg:FG)(body:FS):List D->Yw->Option Fl
 | [],δ=>aA (.nx δ)
 |d::ds,δ=>(tg.run d δ).bind λδ1=>(body δ1).bind fun
  | .nx δ2=>Y8 tg body ds δ2
  | .ct δ2=>Y8 tg body ds δ2
  | .bk δ2=>aA (.nx δ2)
  | .rt sv=>aA (.rt sv)
  | .ex x δ2=>aA (.ex x δ2)
def Bm(K:ad)(J:It)(F:Hp)(ds:List D):Prop:=∀F' H,Zl F F'->Zl F' H->∀i:Nat,
 (∀d,ds[i]? =aA d->J.go i H/\∀x H',J.yld i H x H'->Zl H H'/\∃ns,(U6 ns).Nodup/\(∀p∈ns,H p.1=aB/\H' p.1=aA p.2)/\Rep K (Jh F' ns) d x)/\(ds.length<=i->J.stop i H)
def Qt(Z:Ent K)(f:FD):TI:=λσ H R=>∃F δ own ds δ',SR Z F H σ δ own/\f δ=aA (ds,δ')/\
 ∀J H' F' own',Zl H H'->Zl F F'->SR Z F' H' σ δ' own'->Bm K J F' ds->R J H'
@[simp]def O8(fi:FD)(tg:FG)(body:FS):FS:=λδ=>(fi δ).bind λp=>Y8 tg body p.1 p.2
theorem SR.fresh{F H':Hp}{δ:Yw}{own:Nat->Zo}{ns:Zo}(s:SR Z F H σ δ own)(sm:Zl H H')(nd:(U6 ns).Nodup)(h:∀p∈ns,H p.1=aB/\H' p.1=aA p.2):Zl F (Jh F ns)/\SR Z (Jh F ns) H' σ δ own:=by refine⟨Qb λp hp=>s.le.free (h p hp).1,(s.grow sm).addF nd (λp hp=>s.le.free (h p hp).1) (λp hp=>(h p hp).2) (λp hp=>s.old.free (h p hp).1) λi p q hp hq e=>?_⟩;have z:=(s.ok i q hq).2.2;rw[<-e,(h p hp).1]at z;cases z
theorem Zqx{fi:FD}{tg:FG}{body:FS}(h:Zx Z (O8 fi tg body) E σ H):Zp2 (Qt Z fi) (Cc Z tg) (Zx Z body) E σ H:=by
 obtain⟨F,δ,own,fl,s,e,k⟩:=h;obtain⟨⟨ds,δ1⟩,e1,e2⟩:=aa.mp e;refine⟨F,δ,own,ds,δ1,s,e1,λJ H1 F1 own1 sH sF s1 yl=>?_⟩;refine⟨λi m σ H=>m=ds.length- i/\i<=ds.length/\∃F δ own,Zl F1 F/\SR Z F H σ δ own/\Y8 tg body (ds.drop i) δ=aA fl,⟨ds.length,by simp,d8 _,F1,δ1,own1,Zl.refl F1,s1,e2⟩,?_⟩;rintro i m σ' H' ⟨rfl,hi,F2,δ2,own2,sF2,s2,ef⟩;by_cases hlt:i<ds.length
 .have hd:ds[i]? =aA ds[i]:=by simp[hlt]
  obtain⟨go,yy⟩:=(yl F2 H' sF2 s2.le i).1 _ hd;rw[List.drop_eq_getElem_cons hlt]at ef;obtain⟨δ3,e3,e4⟩:=aa.mp ef;obtain⟨f1,e5,e6⟩:=aa.mp e4;refine .inr ⟨go,λσ4 H4=>∃F δ own,Zl F1 F/\SR Z F H4 σ4 δ own/\Y8 tg body (ds.drop (i+1)) δ=aA fl,λσ4 H4 ⟨F4,δ4,own4,a,b,c⟩=>⟨ds.length- (i+1),by omega,rfl,hlt,F4,δ4,own4,a,b,c⟩,λx H3 hy=>?_⟩;obtain⟨sm,ns,nd,hn,rp⟩:=yy x H3 hy;obtain⟨sFn,sn⟩:=s2.fresh sm nd hn;refine⟨Jh F2 ns,δ2,own2,_,δ3,sn,rp,e3,λσ5 own5 s5 _=>⟨Jh F2 ns,δ3,own5,f1,s5,e5,?_⟩⟩;cases f1 with
  |nx δ6=>exact λσ6 H6 F6 own6 a b=>⟨F6,δ6,own6,sF2.trans (sFn.trans a),b,e6⟩
  |ct δ6=>exact λσ6 H6 F6 own6 a b=>⟨F6,δ6,own6,sF2.trans (sFn.trans a),b,e6⟩
  |bk δ6=>cases e6;exact λσ6 H6 F6 own6 a b=>k σ6 H6 F6 own6 (sF.trans (sF2.trans (sFn.trans a))) b
  |rt sv=>cases e6;exact λv H6 F6 ns6 a=>k v H6 F6 ns6 (sF.trans (sF2.trans (sFn.trans a)))
  |ex x δ6=>cases e6;exact λσ6 H6 F6 own6 cls od a=>k σ6 H6 F6 own6 cls od (sF.trans (sF2.trans (sFn.trans a)))
 .have hz:i=ds.length:=by omega
  subst hz;rw[List.drop_length]at ef;cases ef;exact .inl ⟨(yl F2 H' sF2 s2.le _).2 (bg _),k σ' H' F2 own2 (sF.trans sF2) s2⟩
def Ji(t:FT)(body:FS):Nat->Yw->Option Fl
 |0,_=>aB
 |n+1,δ=>(t δ).bind λp=>if p.1=aC then(body p.2).bind (fun
  | .nx δ2=>Ji t body n δ2
  | .ct δ2=>Ji t body n δ2
  | .bk δ2=>aA (.nx δ2)
  | .rt sv=>aA (.rt sv)
  | .ex x δ2=>aA (.ex x δ2))else aA (.nx p.2)
theorem Zh1{n:Nat}{t:FT}{body:FS}(h:Zx Z (Ji t body n) E σ H):Zcu (Yi Z t) (Zx Z body) E σ H:=by
 obtain⟨F,δ,own,fl,s,e,k⟩:=h;refine⟨λm σ H=>∃F2 δ own,Zl F F2/\SR Z F2 H σ δ own/\Ji t body m δ=aA fl,⟨n,F,δ,own,Zl.refl F,s,e⟩,?_⟩;rintro m σ1 H1 ⟨F1,δ1,own1,sF1,s1,e1⟩;cases m with
 |zero=>cases e1
 |succ m=>
  obtain⟨⟨c,δ2⟩,e2,e3⟩:=aa.mp e1;refine⟨F1,δ1,own1,c,δ2,s1,e2,λH2 F2 own2 sH sF2 s2=>?_⟩;cases c with
  |false=>rw[if_neg ba]at e3⊢;cases e3;exact k σ1 H2 F2 own2 (sF1.trans sF2) s2
  |true=>
   rw[if_pos rfl]at e3⊢;obtain⟨f1,e4,e5⟩:=aa.mp e3;refine⟨λσ' H'=>∃F2 δ own,Zl F F2/\SR Z F2 H' σ' δ own/\Ji t body m δ=aA fl,λσ' H' w=>⟨m,Nat.lt_succ_self m,w⟩,F2,δ2,own2,f1,s2,e4,?_⟩;cases f1 with
   |nx δ6=>exact λσ6 H6 F6 own6 a b=>⟨F6,δ6,own6,sF1.trans (sF2.trans a),b,e5⟩
   |ct δ6=>exact λσ6 H6 F6 own6 a b=>⟨F6,δ6,own6,sF1.trans (sF2.trans a),b,e5⟩
   |bk δ6=>cases e5;exact λσ6 H6 F6 own6 a b=>k σ6 H6 F6 own6 (sF1.trans (sF2.trans a)) b
   |rt sv=>cases e5;exact λv H6 F6 ns6 a=>k v H6 F6 ns6 (sF1.trans (sF2.trans a))
   |ex x δ6=>cases e5;exact λσ6 H6 F6 own6 cls od a=>k σ6 H6 F6 own6 cls od (sF1.trans (sF2.trans a))
theorem N9{F:Hp}{a:ak}{xs:List D}{vs:List V}(h:Oa K F a vs)(r:Reps K F xs vs):Bm K (Itl K a) F xs:=λF' H sF sH i=>by have q:Oa K H a vs:=W4 (sF.trans sH) h;refine⟨λd hd=>?_,λhl=>⟨vs,q,by rw[<-r.length];exact hl⟩⟩;obtain⟨v,h1,h2⟩:=r.get hd;refine⟨⟨vs,v,q,h1⟩,λx H' zq9=>?_⟩;obtain⟨e1,e2⟩:=zq9;subst e1;have e3:=e2 vs q;rw[h1]at e3;cases e3;exact⟨Zl.refl _,[],cz,λ_ h=>(nomatch h),h2.mono sF⟩
theorem Vt{F:Hp}{a:ak}{xs:List D}{vs:List V}(h:G9 K F a vs)(r:Reps K F xs vs):Bm K (Itt K a) F xs:=λF' H sF sH i=>by have q:G9 K H a vs:=Qf (sF.trans sH) h;refine⟨λd hd=>?_,λhl=>⟨vs,q,by rw[<-r.length];exact hl⟩⟩;obtain⟨v,h1,h2⟩:=r.get hd;refine⟨⟨vs,v,q,h1⟩,λx H' zq9=>?_⟩;obtain⟨e1,e2⟩:=zq9;subst e1;have e3:=e2 vs q;rw[h1]at e3;cases e3;exact⟨Zl.refl _,[],cz,λ_ h=>(nomatch h),h2.mono sF⟩
noncomputable def Cs(lo:Int)(n:Nat):List D:=(ed n).map λi=>.int (lo+(i:Nat))
theorem R7{lo:Int}{n:Nat}{F:Hp}:Bm K (Itr lo n) F (Cs lo n):=λF' H sF sH i=>by
 have hl:(Cs lo n).length=n:=by unfold Cs;rw[am,List.length_range]
 refine⟨λd hd=>?_,λh=>by rw[hl]at h;exact h⟩;have hi:i<n:=by have:=(bp.mp hd).1;rw[hl]at this;exact this
 refine⟨hi,λx H' zq9=>?_⟩;obtain⟨e1,e2⟩:=zq9;subst e1 e2;unfold Cs at hd;rw[bn,List.getElem?_range hi]at hd;cases hd;exact⟨Zl.refl _,[],cz,λ_ h=>(nomatch h),.int _⟩
def R8(j:Int):Prop:=-(2^62)<=j/\j<2^62
theorem Zh2{j:Int}(h0:0<=j)(h:j<=16777216):R8 j:=⟨by omega,by omega⟩
theorem O9{n:Nat}(h:n<=16777216):R8 (n:Int):=Zh2 (by omega) (by omega)
open Classical in
@[simp]def Lh(fa:FA):FD:=λδ=>(fa δ).bind λp=>match Gd p.1 p.2 with
 |some [.int j]=>if R8 j then aA (Cs 0 j.toNat,p.2)else aB
 |_=>aB
theorem Zna{fa:FA}{R:It->Hp->Prop}(h:Qt Z (Lh fa) σ H R):Zkk (Od Z fa) σ H R:=by
 obtain⟨F,δ,own,ds,δ',s,e,k⟩:=h;obtain⟨⟨rvs,δ1⟩,e1,e2⟩:=aa.mp e;refine⟨F,δ,own,rvs,δ1,s,e1,λvs H1 F1 own1 sH sF s1 r1=>?_⟩;dsimp only at e2;split at e2
 .rename_i j hj;have rn:=s1.rdAll r1 hj;cases rn with
  |cons h t=>
   cases t;by_cases hb:R8 j
   .rw[if_pos hb]at e2;cases e2;exact⟨j,by rw[h.int],hb.1,hb.2,k _ H1 F1 own1 sH sF s1 R7⟩
   .rw[if_neg hb]at e2;cases e2
 .cases e2
@[simp]def Ij(i:Nat)(fe:FE):FS:=λδ=>match δ[i]? with
 |some (aA (.ol _))=>(fe δ).bind λp=>(frz p.1 p.2).bind λq=>match q.2[i]? with
  |some (aA (.ol xs))=>if xs.length<bv then aA (.nx (q.2.set i (aA (.ol (xs++[q.1])))))else aB
  |_=>aB
 |_=>aB
theorem Qg{F:Hp}{xs:List D}{v:V}{ns:Zo}(h:Shape K F (.ol xs) v ns):∃a vs,v= .ref a/\ns=[(a,.lst vs)]/\Reps K F xs vs:=by
 cases h with
 |ol r=>exact⟨_,_,rfl,rfl,r⟩
theorem Zk0{i:Nat}{fe:FE}(h:Zx Z (Ij i fe) E σ H):Tv (tBM K "list" C9 (Mz i) (Gu (Ze Z fe) Av)) E σ H:=by
 obtain⟨F,δ,own,fl,s,e,k⟩:=h;unfold Ij at e;split at e
 .rename_i xs0 hx0;obtain⟨⟨rv,δ1⟩,e1,e2⟩:=aa.mp e;obtain⟨⟨d,δ2⟩,e3,e4⟩:=aa.mp e2;obtain⟨v,hv,sh⟩:=s.at' i _ hx0;obtain⟨a,vs0,ev,en,r0⟩:=Qg sh;refine⟨v,hv,?_,F,δ,own,rv,δ1,s,e1,λy H1 F1 own1 sH sF s1 r1=>?_⟩
  .subst ev;exact .inl ⟨rfl,vs0,.inl (.inl (s.ok i (a,.lst vs0) (by rw[en];exact af)).2.2)⟩
  obtain⟨F2,sF2,s2,r2⟩:=s1.settleR r1;obtain⟨F3,own3,sF3,s3,r3⟩:=s2.frzR r2 e3;dsimp only at e4;split at e4
  .rename_i xs hx;by_cases hz:xs.length<bv
   .rw[if_pos hz]at e4;cases e4;obtain⟨v',hv',sh'⟩:=s3.at' i _ hx;rw[hv]at hv';cases hv';obtain⟨b,vs,eb,en',r'⟩:=Qg sh';have mb:(b,HO.lst vs)∈own3 i:=by rw[en'];exact af
    subst eb;refine⟨b,vs,y,rfl,rfl,(s3.ok i _ mb).2.2,by rw[<-r'.length];exact hz,?_⟩;exact k σ _ F3 _ (sF.trans (sF2.trans sF3)) (s3.change (sv':=.ol (xs++[d])) (o':=.lst (vs++[y])) (ns':=[(b,.lst (vs++[y]))]) hx hv mb (.ol (r'.snoc r3)) (λp hp=>.inl (aq.mp hp)) Nl)
   .rw[if_neg hz]at e4;cases e4
  .cases e4
 .cases e
end
@[simp]def Os(n:Nat)(ds:List D):Yw:=ds.map (λd=>some (.fz d))++List.replicate (n- ds.length) none
theorem R9{N:List Str}{F H:Hp}{ds:List D}{vs:List V}(le:Zl F H)(r:Reps K F ds vs):SR (ent H F:Ent K) F H (L2.Qd N vs) (Os N.length ds) λ_=>[]:=by
 have hl:=r.length;refine⟨le,λb o e=>.inl e,Zl.refl H,?_,λi sv e=>?_,λ_=>cz,λ_ _ h=>(nomatch h),λ_ _ _ _ _ h=>(nomatch h)⟩
 .unfold L2.Qd Os;rw[aw,aw,am,am,List.length_replicate,List.length_replicate,hl]
 .unfold Os at e;by_cases hi:i<ds.length
  .rw[List.getElem?_append_left (by simpa using hi),bn]at e;cases hd:ds[i]? with
   |none=>rw[hd]at e;cases e
   |some d=>rw[hd]at e;cases e;obtain⟨v,h1,h2⟩:=r.get hd;refine⟨v,?_,.fz h2⟩;unfold L2.Qd;rw[List.getElem?_append_left (by rw[am];omega),bn,h1];rfl
  .rw[List.getElem?_append_right (by simpa using hi),List.getElem?_replicate]at e;split at e<;> cases e
theorem Zdq{n:Nat}{g:List D->Option SV}{vs:List V}{H:Hp}{Q:VK}{E:XK}(h:Y6 K n g vs H Q E):vs.length=n:=by obtain⟨F,ds,sv,le,r,hn,e,k⟩:=h;rw[<-r.length];exact hn
end DL
namespace DL
open PySem L2
variable{K:ad}
def xG(K:ad)(g:FG):TG:=λv σ H Q=>∃Z:Ent K,Cc Z g v σ H Q
def xT(K:ad)(f:FT):TT:=λσ H Q=>∃Z:Ent K,Yi Z f σ H Q
def xE(K:ad)(f:FE):TE:=λσ H Q=>∃Z:Ent K,Ze Z f σ H Q
def Y9:FT:=λδ=>aA (aC,δ)
@[simp]theorem Zqy(δ:Yw):Y9 δ=some (true,δ):=rfl
@[simp]noncomputable def caps(src:List BSrc):List RV:=src.filterMap fun
 | .cap j=>aA (.bw j)
 |_=>aB
@[simp]def Vu(δ:Yw):BSrc->Option SV
 | .own=>aB
 | .cap j=>match δ[j]?.join with
  |some (.fz d)=>aA (.fz d)
  |_=>aB
 | .acc=>aA (.ol [])
@[simp]def bD(src:List BSrc)(δ:Yw):Yw:=src.map (Vu δ)
@[simp]noncomputable def resetSlot:BSrc->Option SV->Option SV
 | .own,_=>aB
 |_,o=>o
@[simp]def Ma:List BSrc->Yw->Yw
 |b::r,o::t=>resetSlot b o::Ma r t
 |_,t=>t
@[simp]def Z4(src:List BSrc)(k:Nat)(g:FG)(tt:FT)(te:FE):List D->Yw->Option Yw
 | [],δ=>aA δ
 |d::ds,δ=>(g.run d δ).bind λδ1=>(tt δ1).bind λp=>if p.1=aC then(te p.2).bind λq=>(frz q.1 q.2).bind λr=>match r.2[k]? with
   |some (aA (.ol zs))=>if zs.length<bv then Z4 src k g tt te ds (Ma src (r.2.set k (aA (.ol (zs++[r.1])))))else aB
   |_=>aB
  else Z4 src k g tt te ds (Ma src p.2)
@[simp]def Yv(src:List BSrc)(k:Nat)(fi:FD)(g:FG)(tt:FT)(te:FE):FE:=λδ=>(fi δ).bind λp=>(frzAll (caps src) p.2).bind λc=>(Z4 src k g tt te p.1 (bD src c.2)).bind λδb=>match δb[k]? with
 |some (aA (.ol ys))=>aA (.tmp (.ol ys),c.2)
 |_=>aB
theorem M0:∀(src:List BSrc) (δ:Yw),(Ma src δ).length=δ.length
 | [],t=>by unfold Ma;rfl
 |_::_,[]=>by unfold Ma;rfl
 |b::r,o::t=>by show(resetSlot b o::Ma r t).length=_;rw[bd,bd,M0 r t]
theorem M3:∀{src:List BSrc} {δ:Yw} {i:Nat} {sv:SV},(Ma src δ)[i]? =aA (aA sv)->δ[i]? =aA (aA sv)
 | [],_,_,_,h=>h
 |_::_,[],_,_,h=>h
 |b::r,o::t,0,sv,h=>by
  have h:aA (resetSlot b o)=aA (aA sv):=h;cases b with
  |own=>cases h
  |cap j=>exact h
  |acc=>exact h
 |b::r,o::t,i+1,sv,h=>by have h:(Ma r t)[i]? =aA (aA sv):=h;show t[i]? =_;exact M3 h
section
variable{Z:Ent K}{F H:Hp}{σ:St}{δ δ':Yw}{own:Nat->Zo}
theorem SR.forget(s:SR Z F H σ δ own)(hl:δ'.length=δ.length)(h:∀(i:Nat) (sv:SV),δ'[i]? =aA (aA sv)->δ[i]? =aA (aA sv)):SR Z F H σ δ' own:=
 ⟨s.le,s.fro,s.old,s.len.trans hl.symm,λi sv e=>s.at' i sv (h i sv e),s.nod,s.ok,s.sep⟩
theorem SR.caps:∀{rvs:List RV} {ds:List D} {δ δ':Yw} {F:Hp} {own:Nat->Zo},(∀rv∈rvs,∃j,rv= .bw j)->SR Z F H σ δ own->DL.frzAll rvs δ=aA (ds,δ')->∃F1 own1,Zl F F1/\SR Z F1 H σ δ' own1
 | [],_,_,_,F,own,_,s,e=>by cases e;exact⟨F,own,Zl.refl F,s⟩
 |rv::r,_,_,_,F,own,hb,s,e=>by obtain⟨⟨d,δ1⟩,e1,e2⟩:=aa.mp e;obtain⟨⟨ds,δ2⟩,e3,e4⟩:=aa.mp e2;cases e4;obtain⟨j,rfl⟩:=hb rv af;obtain⟨sv,e5,e6⟩:=aa.mp e1;cases e6;obtain⟨F1,v,sF,_,_,s1⟩:=s.freeze (O6 e5);obtain⟨F2,own2,sF2,s2⟩:=SR.caps (λrv h=>hb rv (aj _ h)) s1 e3;exact⟨F2,own2,sF.trans sF2,s2⟩
theorem SR.after{F3 H3:Hp}(s2:SR Z F H σ δ own)(sH3:Zl H H3)(sF3:Zl F F3)(le3:Zl F3 H3)(fro3:∀(b:ak) (o:HO),F3 b=aA o->F b=aA o\/H b=aB):SR Z F3 H3 σ δ own:=by
 refine⟨le3,λb o e=>?_,s2.old.trans sH3,s2.len,λi sw ei=>?_,s2.nod,λi p hp=>?_,s2.sep⟩
 .rcases fro3 b o e with z|z
  .exact s2.fro b o z
  .exact .inr (s2.old.free z)
 .obtain⟨w,h1,h2⟩:=s2.at' i sw ei;exact⟨w,h1,h2.mono sF3⟩
 .obtain⟨a,b,c⟩:=s2.ok i p hp;refine⟨?_,b,sH3 _ _ c⟩;cases z:F3 p.1 with
  |none=>rfl
  |some u=>
   rcases fro3 _ u z with y|y
   .rw[a]at y;cases y
   .rw[c]at y;cases y
end
structure SrcOk(src:List BSrc)(k:Nat):Prop where
 acc:src[k]? =aA .acc
 uni:∀i:Nat,src[i]? =aA .acc->i=k
theorem Zdr{Z:Ent K}{F H:Hp}{σ:St}{δ:Yw}{own:Nat->Zo}{src:List BSrc}{k:Nat}{acc:ak}(S:SrcOk src k)(s:SR Z F H σ δ own)(ha:H acc=aB):
  SR (ent H F:Ent K) F (Y7 H acc (.lst [])) (Vm src σ acc) (bD src δ) (λi=>if i=k then[(acc,.lst [])]else[]):=by
 have mem:∀{i:Nat} {p:ak×HO},p∈(if i=k then[(acc,HO.lst [])]else[])->i=k/\p=(acc,.lst []):=fun{i p} h=>by
  by_cases hi:i=k
  .rw[if_pos hi]at h;exact⟨hi,aq.mp h⟩
  .rw[if_neg hi]at h;exact nomatch h
 refine⟨s.le.trans (Qy ha),λb o e=>.inl e,Qy ha,by unfold Vm bD;rw[am,am],λi sv e=>?_,λi=>?_,λi p hp=>?_,λi j p q hij hp hq=>?_⟩
 .unfold bD at e;rw[bn]at e;cases hq:src[i]? with
  |none=>rw[hq]at e;cases e
  |some q=>
   rw[hq]at e;have e:Vu δ q=aA sv:=dz.inj e;cases q with
   |own=>cases e
   |acc=>cases e;have hi:=S.uni i hq;refine⟨.ref acc,by unfold Vm;rw[bn,hq];rfl,?_⟩;show Shape K F (.ol []) (.ref acc) (if i=k then[(acc,.lst [])]else[]);rw[if_pos hi];exact .ol .nil
   |cap j=>
    have hi:i≠k:=λz=>by rw[z,S.acc]at hq;cases hq
    unfold Vu at e;dsimp only at e;split at e
    .rename_i d hd;cases e;obtain⟨v,h1,h2⟩:=s.at' j _ (O6 hd);refine⟨v,by unfold Vm;rw[bn,hq];show aA (σ[j]?).join=_;rw[h1];rfl,?_⟩;show Shape K F (.fz d) v (if i=k then[(acc,.lst [])]else[]);rw[if_neg hi];exact .fz (Qz h2)
    .cases e
 .show(U6 (if i=k then[(acc,HO.lst [])]else[])).Nodup;by_cases hi:i=k
  .rw[if_pos hi];exact Nl
  .rw[if_neg hi];exact cz
 .obtain⟨_,rfl⟩:=mem hp;exact⟨s.le.free ha,ha,Ye⟩
 .obtain⟨z,_⟩:=mem hp;obtain⟨y,_⟩:=mem hq;exact absurd (z.trans y.symm) hij
theorem Vv{Z:Ent K}{H:Hp}{σ:St}{Q:VK}{src:List BSrc}{k:Nat}{fi:FD}{g:FG}{tt:FT}{te:FE}(S:SrcOk src k)(hk:k∉g.tch)(h:Ze Z (Yv src k fi g tt te) σ H Q):
  Zde src (Qt Z fi) (xG K g) (xT K tt) (xE K te) σ H Q:=by
 obtain⟨F,δ,own,rv,δ',s,e,k0⟩:=h;obtain⟨⟨ds,δ1⟩,e1,e2⟩:=aa.mp e;obtain⟨⟨cs,δ2⟩,e3,e4⟩:=aa.mp e2;obtain⟨δf,e5,e6⟩:=aa.mp e4;refine⟨F,δ,own,ds,δ1,s,e1,λJ H1 F1 own1 sH sF s1 yl acc ha=>?_⟩;obtain⟨F2,own2,sF2,s2⟩:=s1.caps (λrv hr=>by
  unfold DL.caps at hr;obtain⟨b,_,hb⟩:=List.mem_filterMap.mp hr;cases b with
  |own=>cases hb
  |acc=>cases hb
  |cap j=>cases hb;exact⟨j,rfl⟩) e3
 have s3:=Zdr S s2 ha;have hacc0:(Vm src σ acc)[k]? =aA (aA (.ref acc)):=by unfold Vm;rw[bn,S.acc];rfl
 refine⟨λi m σ' H=>m=ds.length- i/\i<=ds.length/\σ'[k]? =aA (aA (.ref acc))/\∃F δ own,Zl F2 F/\SR (ent H1 F2:Ent K) F H σ' δ own/\Z4 src k g tt te (ds.drop i) δ=aA δf,
  ⟨ds.length,by simp,d8 _,hacc0,F2,_,_,Zl.refl F2,s3,e5⟩,?_⟩
 rintro i m σ4 H4 ⟨rfl,hi,hacc,F4,δ4,own4,sF4,s4,ef⟩;by_cases hlt:i<ds.length
 .have hd:ds[i]? =aA ds[i]:=by simp[hlt]
  obtain⟨go,yy⟩:=(yl F4 H4 (sF2.trans sF4) s4.le i).1 _ hd;rw[List.drop_eq_getElem_cons hlt]at ef;obtain⟨δ5,e7,e8⟩:=aa.mp ef;obtain⟨⟨b,δ6⟩,e9,e10⟩:=aa.mp e8;refine .inr ⟨go,λx H5 hy=>?_⟩;obtain⟨sm,ns,nd,hn,rp⟩:=yy x H5 hy;obtain⟨sFn,sn⟩:=s4.fresh sm nd hn;refine⟨(ent H1 F2:Ent K),Jh F4 ns,δ4,own4,_,δ5,sn,rp,e7,λσ6 own6 s6 t6=>⟨(ent H1 F2:Ent K),Jh F4 ns,δ5,own6,b,δ6,s6,e9,λH7 F7 own7 sH7 sF7 s7=>?_⟩⟩;have hacc6:σ6[k]? =aA (aA (.ref acc)):=(t6 k hk).trans hacc;cases b with
  |false=>dsimp only;rw[if_neg ba]at e10⊢;exact⟨ds.length- (i+1),by omega,rfl,hlt,hacc6,F7,_,own7,sF4.trans (sFn.trans sF7),s7.forget (M0 src δ6) (λj sv hj=>M3 hj),e10⟩
  |true=>
   dsimp only;rw[if_pos rfl]at e10⊢;obtain⟨⟨rv8,δ8⟩,e11,e12⟩:=aa.mp e10;obtain⟨⟨d9,δ9⟩,e13,e14⟩:=aa.mp e12;refine⟨(ent H1 F2:Ent K),F7,δ6,own7,rv8,δ8,s7,e11,λy H8 F8 own8 sH8 sF8 s8 r8=>?_⟩;obtain⟨F9,sF9,s9,r9⟩:=s8.settleR r8;obtain⟨F10,own10,sF10,s10,r10⟩:=s9.frzR r9 e13;dsimp only at e14;split at e14
   .rename_i zs hz;by_cases hzl:zs.length<bv
    .rw[if_pos hzl]at e14;obtain⟨v',hv',sh'⟩:=s10.at' k _ hz;rw[hacc6]at hv';cases hv';obtain⟨b,vs,eb,en',r'⟩:=Qg sh';cases eb;have mb:(acc,HO.lst vs)∈own10 k:=by rw[en'];exact af
     refine⟨acc,vs,y,rfl,rfl,(s10.ok k _ mb).2.2,by rw[<-r'.length];exact hzl,?_⟩;have s11:=s10.change (sv':=.ol (zs++[d9])) (o':=.lst (vs++[y])) (ns':=[(acc,.lst (vs++[y]))]) hz hacc6 mb (.ol (r'.snoc r10)) (λp hp=>.inl (aq.mp hp)) Nl;exact⟨ds.length- (i+1),by omega,rfl,hlt,hacc6,F10,_,_,sF4.trans (sFn.trans (sF7.trans (sF8.trans (sF9.trans sF10)))),s11.forget (M0 src _) (λj sv hj=>M3 hj),e14⟩
    .rw[if_neg hzl]at e14;cases e14
   .cases e14
 .have hz:i=ds.length:=by omega
  subst hz;rw[List.drop_length]at ef;cases ef;refine .inl ⟨(yl F4 H4 (sF2.trans sF4) s4.le _).2 (bg _),?_⟩;dsimp only at e6;split at e6
  .rename_i ys hys;cases e6;obtain⟨v',hv',sh'⟩:=s4.at' k _ hys;rw[hacc]at hv';cases hv';obtain⟨b,vs,eb,en',r'⟩:=Qg sh';cases eb;have mb:(acc,HO.lst vs)∈own4 k:=by rw[en'];exact af
   obtain⟨o1,o2,o3⟩:=s4.ok k _ mb;refine k0 (.ref acc) H4 F4 own2 (sH.trans s4.old) (sF.trans (sF2.trans sF4)) (s2.after s4.old sF4 s4.le λb o e=>s4.fro b o e) ⟨[(acc,.lst vs)],.ol r',Nl,λp hp=>?_,λj p q hp hq e=>?_⟩
   .obtain rfl:=aq.mp hp;exact⟨o1,s2.old.free ha,o3⟩
   .obtain rfl:=aq.mp hp;have z:=(s2.ok j q hq).2.2;have e':acc=q.1:=e;rw[<-e',ha]at z;cases z
  .cases e6
end DL
namespace DL
open PySem PySem.Spec PyProof.Rows L2
variable{K:ad}
variable{Z:Ent K}
@[simp]noncomputable def Vw(f:Int->Int->D):D->D->Option SV
 | .int i,.int j=>aA (.fz (f i j))
 |_,_=>aB
@[simp]noncomputable def Zds(C:Int->Int->Bool)(f:Int->Int->D):D->D->Option SV
 | .int i,.int j=>if C i j=aC then aA (.fz (f i j))else aB
 |_,_=>aB
theorem Pa{g:Int->Int->V}{f:Int->Int->D}(hr:∀F i j,Rep K F (f i j) (g i j)):Yr Z (Vf g) (Vw f):=by
 intro F H σ δ own x y d1 d2 sv Q s r1 r2 e k;unfold Vw at e;split at e
 .cases e;exact⟨_,_,r1.int,r2.int,k.fz s (hr _ _ _)⟩
 .cases e
theorem Znb{C:Int->Int->Prop}{c:Int->Int->Bool}{g:Int->Int->V}{f:Int->Int->D}(hc:∀i j,c i j=aC->C i j)(hr:∀F i j,Rep K F (f i j) (g i j)):Yr Z (rI C g) (Zds c f):=by
 intro F H σ δ own x y d1 d2 sv Q s r1 r2 e k;unfold Zds at e;split at e
 .split at e
  .rename_i hcc;cases e;exact⟨_,_,r1.int,r2.int,hc _ _ hcc,k.fz s (hr _ _ _)⟩
  .cases e
 .cases e
@[simp]def Zdt:D->D->Option SV:=Vw λi j=>.int (i- j)
noncomputable def Zdu(i j:Int):Bool:=(decide (-(2^64)<i)&&decide (i<2^64))|| (decide (-(2^64)<j)&&decide (j<2^64))
@[simp]def Zqz:D->D->Option SV:=Zds Zdu λi j=>.int (i*j)
@[simp]noncomputable def Zq0(i j:Int):Bool:=decide (0<j)&&decide (j<1073741824)
@[simp]def A2:D->D->Option SV:=Zds Zq0 λi j=>.int (i / j)
@[simp]noncomputable def Zq1(i j:Int):Bool:=decide (0<j)
@[simp]def Qw:D->D->Option SV:=Zds Zq1 λi j=>.int (i % j)
theorem Zq2:Yr Z (Vf λi j=>V.int (i- j)) Zdt:=Pa λ_ _ _=>.int _
theorem Zq3:Yr Z (rI Zcw λi j=>V.int (i*j)) Zqz:=Znb (λi j h=>by
 unfold Zdu at h;simp only[Bool.or_eq_true,Bool.and_eq_true,decide_eq_true_eq]at h;exact h) λ_ _ _=>.int _
theorem Znc:Yr Z (rI Zp6 λi j=>V.int (i / j)) A2:=Znb (λi j h=>by
 unfold Zq0 at h;simp only[Bool.and_eq_true,decide_eq_true_eq]at h;exact h) λ_ _ _=>.int _
theorem Zq4:Yr Z (rI (λ_ j=>0<j) λi j=>V.int (i % j)) Qw:=Znb (λi j h=>by
 unfold Zq1 at h;simp only[decide_eq_true_eq]at h;exact h) λ_ _ _=>.int _
@[simp]def ltD:D->D->Option SV:=Vw λi j=>.bl (decide (i<j))
@[simp]def leD:D->D->Option SV:=Vw λi j=>.bl (decide (i<=j))
@[simp]def gtD:D->D->Option SV:=Vw λi j=>.bl (decide (j<i))
@[simp]def geD:D->D->Option SV:=Vw λi j=>.bl (decide (j<=i))
theorem Zty:Yr Z (Vf λi j=>V.bl (decide (i<j))) ltD:=Pa λ_ _ _=>.bl _
theorem Zq5:Yr Z (Vf λi j=>V.bl (decide (i<=j))) leD:=Pa λ_ _ _=>.bl _
theorem Ztz:Yr Z (Vf λi j=>V.bl (decide (j<i))) gtD:=Pa λ_ _ _=>.bl _
theorem Zt0:Yr Z (Vf λi j=>V.bl (decide (j<=i))) geD:=Pa λ_ _ _=>.bl _
def Zt1:R2:=λx y H Q=>∃i j,x= .str i/\y= .str j/\i.length+j.length<=bv/\Q (.str (i++j)) H
def Zk1(K:ad):R2:=λx y H Q=>∃l b xs zs,x= .ref l/\y= .ref b/\Oa K H l xs/\Oa K H b zs/\xs.length+zs.length<=bv/\∀p,H p=aB->Q (.ref p) (Y7 H p (.lst (xs++zs)))
theorem Zh3{X:Cx}:U5 X (binaryOp .Add) (Zk1 X.K):=by
 intro pins s σ H x y v u Q I rx ry h;obtain⟨l,b,xs,zs,rfl,rfl,hH,hB,hz,q⟩:=h;cases rx;cases ry;obtain⟨its,r,pl,z⟩:=I.list hH;obtain⟨its2,r2,pl2,z2⟩:=I.list hB;have hl:=r.length;have hl2:=r2.length;obtain⟨⟨cls,dd,data,sl⟩,ho,hc,n,hd⟩:=pl.isList;obtain⟨⟨cls2,dd2,data2,sl2⟩,ho2,hc2,n2,hd2⟩:=pl2.isList;simp only at hc hd hc2 hd2;subst hc hd hc2 hd2;have ea:its.toArray++its2.toArray=(its++its2).toArray:=by simp
 refine concat_meets ⟨_,ho,rfl⟩ ⟨_,ho2,rfl⟩ noFill_list_add seq_list_add PySem.F.slot_list_add PySem.F.entry_list_add (PySem.F.args_list_add_2 _ _) (list_addW l b its.toArray its2.toArray n n2 dd dd2 sl sl2 (by rw[bu,bu];omega)) ⟨ho,ho2,?_⟩;rw[ea];exact⟨.ref _,_,I.lnew (t':=s.toks) (r.append r2) (by rw[aw];omega),rfl,q _ I.fresh⟩
def Zk2(K:ad):R2:=λx y H Q=>Vf (λi j=>V.int (i+j)) x y H Q\/(Zt1 x y H Q\/Zk1 K x y H Q)
theorem Zh4{X:Cx}:U5 X (binaryOp .Add) (Zk2 X.K):=Zmi.or (Vg.or Zh3)
@[simp]noncomputable def Ue:D->D->Option SV
 | .int i,.int j=>aA (.fz (.int (i+j)))
 | .str x,.str y=>if x.length+y.length<=bv then aA (.fz (.str (x++y)))else aB
 | .lst xs,.lst ys=>if xs.length+ys.length<=bv then aA (.ol (xs++ys))else aB
 |_,_=>aB
theorem Zq6:Yr Z (Zk2 K) Ue:=by
 intro F H σ δ own x y d1 d2 sv Q s r1 r2 e k;unfold Ue at e;split at e
 .cases e;exact .inl ⟨_,_,r1.int,r2.int,k.fz s (.int _)⟩
 .split at e
  .rename_i hz;cases e;exact .inr (.inl ⟨_,_,r1.str,r2.str,hz,k.fz s (.str _)⟩)
  .cases e
 .split at e
  .rename_i hz;cases e;obtain⟨a,vs,ex,ha,ra⟩:=r1.lst s.le;obtain⟨b,us,ey,hb,rb⟩:=r2.lst s.le;exact .inr (.inr ⟨a,b,vs,us,ex,ey,ha,hb,by rw[<-ra.length,<-rb.length];exact hz,λp hp=>k.lst s (ra.append rb) hp⟩)
  .cases e
 .cases e
@[simp]noncomputable def eqS:D->D->Option Bool
 | .non,.non=>aA aC
 | .non,.int _=>aA aD
 | .int _,.non=>aA aD
 | .non,.bl _=>aA aD
 | .bl _,.non=>aA aD
 | .non,.str _=>aA aD
 | .str _,.non=>aA aD
 | .int i,.int j=>aA (decide (i=j))
 | .bl i,.bl j=>aA (decide (i=j))
 | .str i,.str j=>aA (decide (i=j))
 | .int _,.str _=>aA aD
 | .str _,.int _=>aA aD
 | .bl _,.str _=>aA aD
 | .str _,.bl _=>aA aD
 |_,_=>aB
theorem Zdv{F H:Hp}{d1 d2:D}{x y:V}{b:Bool}(e:eqS d1 d2=aA b)(r1:Yh K F H d1 x)(r2:Yh K F H d2 y):scal x y=aC/\b=decide (x=y):=by
 unfold eqS at e;split at e<;> cases e
 .rw[r1.non,r2.non];exact⟨rfl,by simp⟩
 .rw[r1.non,r2.int];exact⟨rfl,by simp⟩
 .rw[r1.int,r2.non];exact⟨rfl,by simp⟩
 .rw[r1.non,r2.bl];exact⟨rfl,by simp⟩
 .rw[r1.bl,r2.non];exact⟨rfl,by simp⟩
 .rw[r1.non,r2.str];exact⟨rfl,by simp⟩
 .rw[r1.str,r2.non];exact⟨rfl,by simp⟩
 .rw[r1.int,r2.int];exact⟨rfl,by simp⟩
 .rw[r1.bl,r2.bl];exact⟨rfl,by simp⟩
 .rw[r1.str,r2.str];exact⟨rfl,by simp⟩
 .rw[r1.int,r2.str];exact⟨rfl,by simp⟩
 .rw[r1.str,r2.int];exact⟨rfl,by simp⟩
 .rw[r1.bl,r2.str];exact⟨rfl,by simp⟩
 .rw[r1.str,r2.bl];exact⟨rfl,by simp⟩
@[simp]def eqD(d1 d2:D):Option SV:=(eqS d1 d2).bind λb=>some (.fz (.bl b))
@[simp]def neD(d1 d2:D):Option SV:=(eqS d1 d2).bind λb=>some (.fz (.bl (!b)))
theorem Zt2:Yr Z rEq eqD:=by intro F H σ δ own x y d1 d2 sv Q s r1 r2 e k;obtain⟨b,e1,e2⟩:=aa.mp e;cases e2;obtain⟨h1,h2⟩:=Zdv e1 r1 r2;subst h2;exact⟨h1,k.fz s (.bl _)⟩
theorem Zt3:Yr Z rNe neD:=by intro F H σ δ own x y d1 d2 sv Q s r1 r2 e k;obtain⟨b,e1,e2⟩:=aa.mp e;cases e2;obtain⟨h1,h2⟩:=Zdv e1 r1 r2;subst h2;exact⟨h1,k.fz s (.bl _)⟩
@[simp]noncomputable def D.isNon:D->Bool
 | .non=>aC
 |_=>aD
theorem Pb{F H:Hp}{d:D}{x:V}(r:Yh K F H d x):decide (x= .non)=d.isNon:=by
 obtain⟨sv,ns,e,n,sh,hp⟩:=r;subst e;cases sh with
 |fz r=>cases r<;> rfl
 |_=>rfl
@[simp]noncomputable def Za7(d1 d2:D):Option SV:=if d2.isNon=true then some (.fz (.bl d1.isNon))else none
@[simp]noncomputable def A3(d1 d2:D):Option SV:=if d2.isNon=true then some (.fz (.bl (!d1.isNon)))else none
theorem Pc{d:D}(h:d.isNon=aC):d= .non:=by cases d<;> first|rfl|cases h
theorem Zq7:Yr Z (λx y H Q=>y=V.non/\Q (.bl (decide (x= .non))) H) Za7:=by
 intro F H σ δ own x y d1 d2 sv Q s r1 r2 e k;unfold Za7 at e;split at e
 .rename_i h;cases e;have:=Pc h;subst this;exact⟨r2.non,by rw[Pb r1];exact k.fz s (.bl _)⟩
 .cases e
theorem Znf:Yr Z (λx y H Q=>y=V.non/\Q (.bl (!decide (x= .non))) H) A3:=by
 intro F H σ δ own x y d1 d2 sv Q s r1 r2 e k;unfold A3 at e;split at e
 .rename_i h;cases e;have:=Pc h;subst this;exact⟨r2.non,by rw[Pb r1];exact k.fz s (.bl _)⟩
 .cases e
theorem Reps.atI{F:Hp}{xs:List D}{vs:List V}{i:Int}{d:D}(r:Reps K F xs vs)(e:L2.atI xs i=aA d):∃v,L2.atI vs i=aA v/\Rep K F d v:=by unfold L2.atI at e⊢;obtain⟨j,e1,e2⟩:=aa.mp e;obtain⟨v,h1,h2⟩:=r.get e2;exact⟨v,aa.mpr ⟨j,by rw[<-r.length];exact e1,h1⟩,h2⟩
@[simp]def ixD:D->D->Option SV
 | .lst xs,.int i=>(L2.atI xs i).bind λd=>aA (.fz d)
 | .tup xs,.int i=>(L2.atI xs i).bind λd=>aA (.fz d)
 | .str z,.int i=>if z.length<=bv then(L2.atI z.cps.toList i).bind λc=>aA (.fz (.str ⟨#[c]⟩))else aB
 |_,_=>aB
theorem Zt4:Yr Z (rIx K) ixD:=by
 intro F H σ δ own x y d1 d2 sv Q s r1 r2 e k;unfold ixD at e;split at e
 .obtain⟨d,e1,e2⟩:=aa.mp e;cases e2;obtain⟨a,vs,ex,ha,ra⟩:=r1.lst s.le;obtain⟨v,h1,h2⟩:=ra.atI e1;exact .inl ⟨a,vs,_,v,ex,r2.int,ha,h1,k.fz s h2⟩
 .obtain⟨d,e1,e2⟩:=aa.mp e;cases e2;obtain⟨a,vs,ex,ha,ra⟩:=r1.tup s.le;obtain⟨v,h1,h2⟩:=ra.atI e1;exact .inr (.inl ⟨a,vs,_,v,ex,r2.int,ha,h1,k.fz s h2⟩)
 .split at e
  .rename_i hz;obtain⟨c,e1,e2⟩:=aa.mp e;cases e2;exact .inr (.inr ⟨_,_,c,r1.str,r2.int,hz,e1,k.fz s (.str _)⟩)
  .cases e
 .cases e
abbrev FO:=Yw->Option (Option Int×Yw)
def Oe(Z:Ent K)(f:FO):TO:=λσ H Q=>∃F δ own o δ',SR Z F H σ δ own/\f δ=aA (o,δ')/\∀H' F' own',Zl H H'->Zl F F'->SR Z F' H' σ δ' own'->Q o H'
@[simp]def Bo:FO:=λδ=>some (none,δ)
@[simp]def Cd(fe:FE):FO:=λδ=>(fe δ).bind λp=>match p.1 with
 | .tmp (.fz (.int i))=>aA (aA i,p.2)
 |_=>aB
section
variable{H:Hp}{σ:L2.St}{Q:VK}{R:Option Int->Hp->Prop}
theorem Zdw(h:Oe Z Bo σ H R):Hj σ H R:=by obtain⟨F,δ,own,o,δ',s,e,k⟩:=h;cases e;exact k H F own (Zl.refl H) (Zl.refl F) s
theorem Zng{fe:FE}(h:Oe Z (Cd fe) σ H R):Zkr (Ze Z fe) σ H R:=by
 obtain⟨F,δ,own,b,δ',s,e,k⟩:=h;obtain⟨⟨rv,δ1⟩,e1,e2⟩:=aa.mp e;refine⟨F,δ,own,rv,δ1,s,e1,λv H1 F1 own1 sH sF s1 r1=>?_⟩;dsimp only at e2;split at e2
 .cases e2;obtain⟨ns,t⟩:=r1;cases Qz t.sh;exact⟨_,rfl,k H1 F1 own1 sH sF s1⟩
 .cases e2
@[simp]def slF(g:D->Option Int->Option Int->Option SV)(fe:FE)(fl fh:FO):FE:=λδ=>(fe δ).bind λp=>(fl p.2).bind λl=>(fh l.2).bind λh=>(rdv p.1 h.2).bind λd=>(g d l.1 h.1).bind λsv=>some (.tmp sv,h.2)
def Zk3(Z:Ent K)(r:V->Option Int->Option Int->Hp->VK->Prop)(g:D->Option Int->Option Int->Option SV):Prop:=
 ∀(F H:Hp) (σ:L2.St) (δ:Yw) (own:Nat->Zo) (x:V) (d:D) (lo hi:Option Int) (sv:SV) (Q:VK),SR Z F H σ δ own->Yh K F H d x->g d lo hi=aA sv->Fin Z F H σ δ own sv Q->r x lo hi H Q
theorem Zt5{r:V->Option Int->Option Int->Hp->VK->Prop}{g:D->Option Int->Option Int->Option SV}{fe:FE}{fl fh:FO}(hg:Zk3 Z r g)(h:Ze Z (slF g fe fl fh) σ H Q):tSl r (Ze Z fe) (Oe Z fl) (Oe Z fh) σ H Q:=by
 obtain⟨F,δ,own,rv,δ',s,e,k⟩:=h;obtain⟨⟨rv1,δ1⟩,e1,e⟩:=aa.mp e;obtain⟨⟨lo,δ2⟩,e2,e⟩:=aa.mp e;obtain⟨⟨hi,δ3⟩,e3,e⟩:=aa.mp e;obtain⟨d,e4,e⟩:=aa.mp e;obtain⟨sv,e5,e⟩:=aa.mp e;cases e;refine⟨F,δ,own,rv1,δ1,s,e1,λv H1 F1 own1 sH1 sF1 s1 r1=>?_⟩;obtain⟨F1',sF1',s1',r1'⟩:=s1.settleR r1;refine⟨F1',δ1,own1,lo,δ2,s1',e2,λH2 F2 own2 sH2 sF2 s2=>⟨F2,δ2,own2,hi,δ3,s2,e3,λH3 F3 own3 sH3 sF3 s3=>?_⟩⟩;exact hg F3 H3 σ δ3 own3 v d lo hi sv Q s3 (s3.rd (r1'.mono (sF2.trans sF3)) e4) e5 λq H4 F4 ns sH4 sF4 s4 t4=>
  k q H4 F4 own3 (sH1.trans (sH2.trans (sH3.trans sH4))) (sF1.trans (sF1'.trans (sF2.trans (sF3.trans sF4)))) s4 ⟨ns,t4⟩
end
def Cf(xs:List D)(lo hi:Option Int):List D:=(xs.drop (HT.sIx xs.length 0 lo)).take (HT.sIx xs.length xs.length hi- HT.sIx xs.length 0 lo)
theorem Reps.cut{F:Hp}{xs:List D}{vs:List V}(r:Reps K F xs vs)(lo hi:Option Int):Reps K F (Cf xs lo hi) (Zaz vs lo hi):=by unfold Cf Zaz;rw[r.length];exact(r.drop _).take _
def Zq8:V->Option Int->Option Int->Hp->VK->Prop:=λx lo hi H Q=>∃z,x= .str z/\z.length<=bv/\Q (.str (Txt.slice z lo hi)) H
theorem Znh{X:Cx}:SlR X Zq8:=by
 intro pins s σ H x v vl vu lo hi sl Q I rx hs pl pu h;obtain⟨z,rfl,hz,q⟩:=h;obtain⟨t,rfl⟩:=rx;refine⟨"str",_,F.slot_str_getitem.lookup,typeIs_str _ _ _,?_⟩;have fin:∀(t':Tok) (k:Nat),EP X pins σ Q (.str (Txt.slice z lo hi) t') {s with toks:=k}:=λt' k=>⟨.str (Txt.slice z lo hi),H,I.tok _,⟨_,rfl⟩,q⟩
 cases pl with
 |none=>cases pu with
  |none=>exact wpAny_getItem_str_slice (l:=aB) (u:=aB) (st:=aB) hs rfl (post_val_or_str ⟨fj (Txt.slice_le z _ _) hz,fin⟩)
  |int j tj=>exact wpAny_getItem_str_slice (l:=aB) (u:=aA (j,tj)) (st:=aB) hs rfl (post_val_or_str ⟨fj (Txt.slice_le z _ _) hz,fin⟩)
 |int i ti=>cases pu with
  |none=>exact wpAny_getItem_str_slice (l:=aA (i,ti)) (u:=aB) (st:=aB) hs rfl (post_val_or_str ⟨fj (Txt.slice_le z _ _) hz,fin⟩)
  |int j tj=>exact wpAny_getItem_str_slice (l:=aA (i,ti)) (u:=aA (j,tj)) (st:=aB) hs rfl (post_val_or_str ⟨fj (Txt.slice_le z _ _) hz,fin⟩)
@[simp]def slD:D->Option Int->Option Int->Option SV
 | .lst xs,lo,hi=>aA (.ol (Cf xs lo hi))
 | .str z,lo,hi=>if z.length<=bv then aA (.fz (.str (Txt.slice z lo hi)))else aB
 |_,_,_=>aB
theorem Zt6:Zk3 Z (λx lo hi H Q=>Zqh K x lo hi H Q\/Zq8 x lo hi H Q) slD:=by
 intro F H σ δ own x d lo hi sv Q s r1 e k;unfold slD at e;split at e
 .cases e;obtain⟨a,vs,ex,ha,ra⟩:=r1.lst s.le;exact .inl ⟨a,vs,ex,ha,λp hp=>k.lst s (ra.cut _ _) hp⟩
 .split at e
  .rename_i hz;cases e;exact .inr ⟨_,r1.str,hz,k.fz s (.str _)⟩
  .cases e
 .cases e
end DL
namespace L2
open PySem PySem.Spec PyProof.Rows
section
variable{X:Cx}{tg:b7}
def Ite(K:ad)(a:ak):It:=
 ⟨λi H=>∃xs x,Oa K H a xs/\xs[i]? =aA x,λi H x H'=>∃p v,x= .ref p/\H p=aB/\H'=Y7 H p (.tup [.int (i:Nat),v])/\∀xs,Oa K H a xs->xs[i]? =aA v,λi H=>∃xs,Oa K H a xs/\xs.length<=i⟩
theorem Inv.turnedT{pins:List (ak×Obj)}{σ:L2.St}{H:Hp}{s:ap}{h':du}{t':Nat}{e it T:ak}{xs:List V}{its:List ag}(I:Inv X pins σ H s)(k:∀b o,b≠e->b≠it->s.heap.get? b=aA o->h'.get? b=aA o)
  (f1:Ra X pins H e) (f2:Ra X pins H it) (hT:T=s.heap.objs.size) (ht:IsTup h' T its.toArray) (rv:Ya xs its) (hz:xs.length<=sizeLine) (he:∃o,h'.get? e=aA o) (hi:∃o,h'.get? it=aA o):
  Inv X pins σ (Y7 H T (.tup xs)) {s with heap:=h',toks:=t'}:=by
 have hTn:H T=aB:=by rw[hT];exact I.hok.fresh (bg _)
 have neT:∀b o,s.heap.get? b=aA o->b≠T:=λb o q=>by rw[hT];exact de (bi q)
 have ntr:∀b u,H b=aA u->b≠e/\b≠it:=λb u q=>⟨(λz=>by rw[z,f1.1]at q;cases q),(λz=>by rw[z,f2.1]at q;cases q)⟩
 refine I.step (g':=s.gens) (d':=s.drawn) (ch:=[e,it]) (λb hb=>?_) (λb o _ _ hc q _=>k b o (λz=>hc (by simp[z])) (λz=>hc (by simp[z])) q)
  (λb o _ _ hc q _=>⟨o.slots,k b o (λz=>hc (by simp[z])) (λz=>hc (by simp[z])) q⟩) (λb o _ q n=>by rw[Zv (neT b o q)];exact n)
  (λb o hc q=>⟨o,k b o (λz=>hc (by simp[z])) (λz=>hc (by simp[z])) q⟩) (λb ys q=>by rw[Zv (We q hTn)];exact q) (λb o u q=>by rw[Zv (We q hTn)];exact q)
  (λb ps q=>⟨#[],by rw[Zv (We q hTn),q];simp⟩) (λm hm=>?_) (λb u q=>?_) I.bare
 .have hb':b=e\/b=it:=by simpa using hb
  rcases hb' with z|z
  .subst z;obtain⟨_,a1,_,a3,a4,a5⟩:=f1;exact⟨a3,a1,a4,a5⟩
  .subst z;obtain⟨_,a1,_,a3,a4,a5⟩:=f2;exact⟨a3,a1,a4,a5⟩
 .obtain⟨o,es,ep,ho,r⟩:=hm;exact⟨o,es,ep,k _ o (Ne.symm f1.2.1) (Ne.symm f2.2.1) ho,r⟩
 .by_cases hb:b=T
  .subst hb;rw[Ye]at q;cases q;exact⟨hz,its,rv,ht⟩
  .rw[Zv hb]at q;refine(I.hok b u q).stay (λc v hc z=>?_) (λc z=>by rw[Zv (We z hTn)];exact z) λc ys z=>by rw[Zv (We z hTn)];exact z
   rcases hc with y|y
   .rw[y]at z⊢;exact k _ _ (ntr b u q).1 (ntr b u q).2 z
   .exact k _ _ (ntr c _ y).1 (ntr c _ y).2 z
theorem Za8{P:b5}{w:cw}{K:ad}{elts:List b7}{kk:Nat}{tpos:Pos}(a e it:ak)(hei:e≠it):Turn P w K (.Tuple elts kk tpos) (Ite K a) [e,it] e (λi h=>(∃old,IsEnum h e it ((i:Nat):Int) old)/\h.IsListIter it a i)where
 mem:=by simp
 obj:=λi h st b hb=>by
  have hb':b=e\/b=it:=by simpa using hb
  rcases hb' with z|z
  .subst z;obtain⟨old,q⟩:=st.1;exact⟨_,q,λv y=>by
    have y':Data.fields _=Data.cell v:=y;cases y'⟩
  .subst z;obtain⟨o,q,c,d⟩:=st.2;exact⟨o,q,λv y=>by rw[d]at y;cases y⟩
 keep:=λi h h' st k=>⟨let⟨old,q⟩:=st.1;⟨old,k e (by simp) _ q⟩,st.2.at λo q=>k it (by simp) o q⟩
 item:=by
  intro X hP hw hK hc i pins s σ H E I hf st hg;subst hP hw hK;obtain⟨xs,x,hq,hx⟩:=hg;obtain⟨its,rv,p,hz⟩:=I.list hq;obtain⟨u,hu,ru⟩:=rv.get hx;obtain⟨⟨old,he⟩,hit⟩:=st;have hl:s.heap.IsList a its.toArray:=p.isList;have ai:a≠it:=λz=>by obtain⟨o1,q1,c1,_⟩:=hit;obtain⟨o2,q2,c2,_⟩:=hl;rw[z,q1]at q2;cases q2;rw[c1]at c2;exact absurd c2 (by decide)
  have ae:e∉[it,a]:=λz=>by
   have z':e=it\/e=a:=by simpa using z
   rcases z' with z|z
   .exact hei z
   .obtain⟨o2,q2,c2,_⟩:=hl;rw[<-z,he]at q2;cases q2;exact absurd (show Value.type "enumerate"=Value.type "list"from c2) (by decide)
  have D:=Draws.list (prog:=X.prog) (w:=X.w) (A:=X.A.in1) (by first|exact I.ok.hd hc| (rw[show X.A.in1.handled=X.A.handled from rfl];exact I.ok.hd hc)) it a ai its.toArray;have hlt:i<its.toArray.size:=by have:=(bp.mp hu).1;rw[bu];exact this
  refine wpAny_pyNext_enum_itemD D he ⟨hit,hl⟩ hlt hei ae λy h' tk hy hout st' hT hsz hk=>⟨.ref s.heap.objs.size,rfl,?_⟩
  refine wpAny_letOwnedTupleGo_enum hout λh2 he2 hs2=>?_;have hy':its.toArray[i]? =aA y:=hy;have ey:y=u:=by
   have:its[i]? =aA y:=by simpa using hy'
   rw[hu]at this;cases this;rfl
  subst ey;have kk:∀b o,b≠e->b≠it->s.heap.get? b=aA o->h2.get? b=aA o:=λb o h1 h3 q=>(hs2.2 b h1).trans (hk b o h1 h3 q);have neT:s.heap.objs.size≠e:=Nat.ne_of_gt (bi he);have I2:=I.turnedT (h':=h2) (t':=tk+1) (e:=e) (it:=it) (T:=s.heap.objs.size) (xs:=[.int (i:Nat),x]) (its:=[.int i tk,y]) kk (hf e (by simp)) (hf it (by simp)) rfl ⟨_,(hs2.2 _ neT).trans hT,rfl,_,rfl⟩ (.cons ⟨tk,rfl⟩ (.cons ru .nil)) (by show 2<=sizeLine;decide)
   ⟨_,he2⟩ (let⟨o,q,_⟩:=st'.1;⟨o,(hs2.2 it (Ne.symm hei)).trans q⟩)
  refine⟨.ref s.heap.objs.size,_,I2,rfl,⟨s.heap.objs.size,x,rfl,I.hok.fresh (bg _),rfl,λys hy2=>by rw[I.list_inj hy2 hq];exact hx⟩,⟨⟨_,he2⟩,st'.1.at λo q=>(hs2.2 it (Ne.symm hei)).trans q⟩,λb hb=>?_⟩;rw[Zv λz=>?_]
  .exact(hf b hb).1
  .have hb':b=e\/b=it:=by simpa using hb
   rcases hb' with y|y
   .rw[<-z,y]at neT;exact neT rfl
   .obtain⟨o,q,_⟩:=hit;rw[y]at z;exact absurd (bi q) (by rw[z];exact eh _)
 done:=by intro X hP hw hK hc i pins s σ H E I hf st hg;subst hP hw hK;obtain⟨xs,hq,hx⟩:=hg;obtain⟨its,rv,p,hz⟩:=I.list hq;obtain⟨⟨old,he⟩,hit⟩:=st;obtain⟨f0,f1,f2,f3,f4,f5⟩:=hf it (by simp);have hl:=rv.length;exact wpAny_pyNext_enum_end (I.ok.hd hc) he hit p.isList (by simp;omega) λh' eb=>⟨rfl,I.turned (t':=s.toks) (λb o hb q=>eb b o hb q) f0 f1 f3 f4 f5⟩
 self:=λ_ _ _ _ _ st h=>let⟨⟨old,he⟩,_⟩:=st;wpAny_pyIter_enum he h
def Zk4(K:ad)(ta:TA):TI:=λσ H R=>ta σ H λvs H1=>∃a xs,vs=[.ref a]/\Oa K H1 a xs/\R (Ite K a) H1
theorem Zh7{l:b7}{elts:List b7}{kk:Nat}{tpos p pos:Pos}{ta:TA}(hg:Gl X "enumerate")(hm:X.mg "enumerate"=aB)(ha:PA X [l] ta)(hs:av [l] X.env=[(aD,dk l X.env)]:=by rfl):
  PI X (.Tuple elts kk tpos) (.Call (.Name "enumerate" p) [l] [] pos) (Zk4 X.K ta):=by
 intro pins s σ H R I h;refine Call_ (G8 I hg hm boot_enumerate (PyProof.Rows.callWith_type1 (Wl (ha pos pins s σ H _ I h) λus s1 ⟨vs,H1,I1,r1,q1⟩=>?_) hs rfl));obtain⟨a,xs,e,hq,q⟩:=q1;subst e;obtain⟨u,rfl,ru⟩:=Jw r1;cases ru;obtain⟨its,rv,p,hz⟩:=I1.list hq;refine call_enumerate_list p.isList λh' he hit hsz hk=>wpAny_pyIter_enum he ?_;have I2:Inv X pins σ H1 {s1 with heap:=h'}:=I1.kept (t':=s1.toks) hk;refine⟨s1.heap.objs.size+1,[s1.heap.objs.size+1,s1.heap.objs.size],_,_,H1,rfl,I2,Za8 a _ _ (Nat.succ_ne_self _),⟨⟨.none,by simpa using he⟩,hit⟩,λb hb=>?_,q⟩;have hb':b=s1.heap.objs.size+1\/b=s1.heap.objs.size:=by simpa using hb
 rcases hb' with z|z
 .subst z;exact I1.fpOk (Nat.le_succ _) (I1.hok.fresh (Nat.le_succ _))
 .subst z;exact I1.fpOk (bg _) (I1.hok.fresh (bg _))
theorem Li:∀{xs:List Str} {us:List ag},Ya (xs.map V.str) us->∃l:List (Str×Tok),us=strValues l/\l.map (·.1)=xs
 | [],_,r=>by rw[List.map_nil]at r;cases r;exact⟨[],rfl,rfl⟩
 |x::xs,_,r=>by
  rw[ay]at r;cases r with
  |cons h t=>obtain⟨tk,rfl⟩:=h;obtain⟨l,e1,e2⟩:=Li t;exact⟨(x,tk)::l,by rw[e1];rfl,by rw[ay,e2]⟩
def Zq9(K:ad):V->List V->Hp->VK->Prop:=λx xs H Q=>∃sep p ys,x= .str sep/\xs=[.ref p]/\Oa K H p (ys.map V.str)/\JoinOk sep ys=aC/\Q (.str (Txt.join sep ys)) H
theorem Zh8:MtR X "str.join" (Zq9 X.K):=by intro pins s σ H x xs v us Q I rx rs h;obtain⟨sep,p,ys,rfl,rfl,hq,hok,q⟩:=h;obtain⟨t,rfl⟩:=rx;obtain⟨u,rfl,ru⟩:=Jw rs;cases ru;obtain⟨its,rv,pl,hz⟩:=I.list hq;obtain⟨l,e1,e2⟩:=Li rv;subst e1;exact SC.join pl.isList e2 hok λt' k=>⟨.str (Txt.join sep ys),H,I.tok _,⟨_,rfl⟩,q⟩
inductive TyX(K:ad)(H:Hp):V->String->Prop where
 |non:TyX K H .non "NoneType"
 |bl (x:Bool):TyX K H (.bl x) "bool"
 |int (i:Int):TyX K H (.int i) "int"
 |str (x:Str):TyX K H (.str x) "str"
 |lst {a:ak} {xs:List V} (e:Oa K H a xs):TyX K H (.ref a) "list"
 |tup {a:ak} {xs:List V} (e:G9 K H a xs):TyX K H (.ref a) "tuple"
 |dK {a:ak} {kvs:List (Key×V)} {ep:Nat} (e:H a=aA (.dK kvs ep)):TyX K H (.ref a) "dict"
 |dT {a:ak} {kvs:List (List Key×V)} {ep:Nat} {bs:List ak} (e:H a=aA (.dT kvs ep bs)):TyX K H (.ref a) "dict"
theorem Zdx{pins:List (ak×Obj)}{σ:L2.St}{H:Hp}{s:ap}{A:c8}{E:ag->ap->Prop}{Q:ag->ap->Prop}{c:ag}{b:Bool}{x:V}{u:ag}{T:String}(I:Inv X pins σ H s)(rx:Zz x u)(ty:TyX X.K H x T)(e:PySem.W.kitOne X.K (.type T) c=aA b)(h:∀tk,Q (.bool b) {s with toks:=tk}):
  br (cg X.prog X.w) A (call (.builtin "isinstance") [u,c]) Q E s:=by
 cases ty with
 |non=>cases(show u=dw from rx);exact PySem.W.kia_one PySem.W.kitx_none I.kIn True.intro e (λz=>nomatch z) h
 |bl y=>cases(show u=Value.bool y from rx);exact PySem.W.kia_one PySem.W.kitx_bool I.kIn True.intro e (λz=>nomatch z) h
 |int i=>obtain⟨t,q⟩:=(show∃t,u=Value.int i t from rx);cases q;exact PySem.W.kia_one PySem.W.kitx_int I.kIn True.intro e (λz=>nomatch z) h
 |str y=>obtain⟨t,q⟩:=(show∃t,u=Value.str y t from rx);cases q;exact PySem.W.kia_one PySem.W.kitx_str I.kIn True.intro e (λz=>nomatch z) h
 | @lst a xs ea=>cases(show u=b9 a from rx);obtain⟨its,_,pl,_⟩:=I.list ea;obtain⟨o,h1,h2,_⟩:=pl.isList;exact PySem.W.kia_one PySem.W.kitx_list I.kIn ⟨o,h1,h2⟩ e (λz=>nomatch z) h
 | @tup a xs ea=>cases(show u=b9 a from rx);obtain⟨its,_,pl,_⟩:=I.tuple ea;obtain⟨o,h1,h2,_⟩:=pl;exact PySem.W.kia_one PySem.W.kitx_tuple I.kIn ⟨o,h1,h2⟩ e (λz=>nomatch z) h
 | @dK a kvs ep ea=>
  cases(show u=b9 a from rx);obtain⟨_,_,vs,_,p⟩:=(show Yu X.prog X.w H s.heap a (.dK kvs ep)from I.hok a _ ea)
  obtain⟨o,es,h1,h2,_⟩:=p;exact PySem.W.kia_one PySem.W.kitx_dict I.kIn ⟨o,h1,h2.1⟩ e (λz=>nomatch z) h
 | @dT a kvs ep bs ea=>
  cases(show u=b9 a from rx);obtain⟨_,_,xs,_,o,es,h1,h2,_⟩:=(show Yu X.prog X.w H s.heap a (.dT kvs ep bs)from I.hok a _ ea)
  exact PySem.W.kia_one PySem.W.kitx_dict I.kIn ⟨o,h1,h2.1⟩ e (λz=>nomatch z) h
def Zra(K:ad)(c:String):List V->Hp->VK->Prop:=λxs H Q=>∃x t b,xs=[x,.ty c]/\TyX K H x t/\PySem.W.kitOne K (.type t) (.type c)=aA b/\Q (.bl b) H
theorem Zdy{c:String}:Je X (.builtin "isinstance") (Zra X.K c):=by intro pins s σ H xs us Q I r h;obtain⟨x,t,b,rfl,ty,e,q⟩:=h;obtain⟨u,w',rfl,r1,r2⟩:=Zkp r;cases r2;exact Zdx I r1 ty e λtk=>⟨.bl b,H,I.tok _,rfl,q⟩
end
end L2
namespace DL
open PySem PySem.Spec PyProof.Rows L2
variable{K:ad}
noncomputable def Ct(xs:List D):List D:=xs.zipIdx.map λp=>.tup [.int (p.2:Nat),p.1]
theorem Fq{xs:List D}{i:Nat}{d:D}(h:(Ct xs)[i]? =aA d):∃x,xs[i]? =aA x/\d= .tup [.int (i:Nat),x]:=by
 unfold Ct at h;rw[bn,List.getElem?_zipIdx]at h;cases e:xs[i]? with
 |none=>rw[e]at h;cases h
 |some x=>rw[e]at h;cases h;exact⟨x,rfl,by simp⟩
theorem Fs(xs:List D):(Ct xs).length=xs.length:=by unfold Ct;rw[am,List.length_zipIdx]
theorem Pd{F:Hp}{a:ak}{xs:List D}{vs:List V}(h:Oa K F a vs)(r:Reps K F xs vs):Bm K (Ite K a) F (Ct xs):=λF' H sF sH i=>by
 have q:Oa K H a vs:=W4 (sF.trans sH) h;refine⟨λd hd=>?_,λhl=>⟨vs,q,by rw[<-r.length,<-Fs];exact hl⟩⟩;obtain⟨x,hx,rfl⟩:=Fq hd;obtain⟨v,h1,h2⟩:=r.get hx;refine⟨⟨vs,v,q,h1⟩,λy H' zq9=>?_⟩;obtain⟨p,w,e1,e2,e3,e4⟩:=zq9;subst e1 e3;have e5:=e4 vs q;rw[h1]at e5;cases e5;have hp:F' p=aB:=sH.free e2;have sm:Zl F' (Jh F' [(p,.tup [.int (i:Nat),v])]):=Qb λz hz=>by obtain rfl:=aq.mp hz;exact hp
 refine⟨Qy e2,[(p,.tup [.int (i:Nat),v])],Nl,λz hz=>?_,.tup Ye (.cons (.int _) (.cons (h2.mono (sF.trans sm)) .nil))⟩;obtain rfl:=aq.mp hz;exact⟨e2,Ye⟩
section
variable{Z:Ent K}{H:Hp}{σ:L2.St}{Q:VK}
@[simp]def Zk5(fd:FD):FD:=λδ=>(fd δ).bind λp=>match p.1 with
 | [.lst xs]=>aA (Ct xs,p.2)
 |_=>aB
theorem Zh9{fd:FD}{R:It->Hp->Prop}(h:Qt Z (Zk5 fd) σ H R):Zk4 K (Jy Z fd) σ H R:=by
 obtain⟨F,δ,own,ds,δ',s,e,k⟩:=h;obtain⟨⟨ds1,δ1⟩,e1,e2⟩:=aa.mp e;refine⟨F,δ,own,ds1,δ1,s,e1,λvs H1 F1 own1 sH sF s1 r1=>?_⟩;dsimp only at e2;split at e2
 .rename_i xs;cases e2;cases r1 with
  |cons h t=>
   cases t;cases h with
   |lst h _ r=>exact⟨_,_,rfl,W4 s1.le h,k _ H1 F1 own1 sH sF s1 (Pd h r)⟩
 .cases e2
@[simp]noncomputable def D.ty:D->String
 | .str _=>"str"
 | .int _=>"int"
 | .lst _=>"list"
 | .dK _ _=>"dict"
 | .dT _ _=>"dict"
 |_=>"?"
@[simp]noncomputable def Zia(T:String)(d:D):Bool:=T==d.ty&&(T=="str" ||T=="list" ||T=="dict")
theorem Zk6{F H:Hp}{d:D}{x:V}{T:String}(le:Zl F H)(r:Yh K F H d x)(h:Zia T d=aC):tyV K T x H:=by
 unfold Zia at h;simp only[Bool.and_eq_true,beq_iff_eq]at h;obtain⟨h1,h2⟩:=h;subst h1;cases d with
 |str y=>rw[r.str];rfl
 |lst xs=>obtain⟨a,vs,e,ha,_⟩:=r.lst le;subst e;exact .inl ⟨rfl,vs,ha⟩
 |dK ks vs=>obtain⟨a,kvs,e,⟨ep,ha⟩,_⟩:=r.dK le;subst e;exact .inr (.inr (.inl ⟨rfl,.inl ⟨kvs,ep,ha⟩⟩))
 |dT ks vs=>obtain⟨a,kvs,e,⟨ep,bs,ha⟩,_⟩:=r.dT le;subst e;exact .inr (.inr (.inl ⟨rfl,.inr ⟨kvs,ep,bs,ha⟩⟩))
 |non=>exact absurd (show("?"=="str" || "?"=="list" || "?"=="dict")=aC from h2) (by decide)
 |bl b=>exact absurd (show("?"=="str" || "?"=="list" || "?"=="dict")=aC from h2) (by decide)
 |int i=>exact absurd (show("int"=="str" || "int"=="list" || "int"=="dict")=aC from h2) (by decide)
 |tup xs=>exact absurd (show("?"=="str" || "?"=="list" || "?"=="dict")=aC from h2) (by decide)
 |exc C ks vs=>exact absurd (show("?"=="str" || "?"=="list" || "?"=="dict")=aC from h2) (by decide)
 |dX ks vs=>exact absurd (show("?"=="str" || "?"=="list" || "?"=="dict")=aC from h2) (by decide)
@[simp]def bmF(T:String)(g:List D->Option SV)(fo:FE)(fa:FA):FE:=λδ=>(fo δ).bind λp=>(rdv p.1 p.2).bind λd0=>if Zia T d0=true then(fa p.2).bind λq=>(Gd (p.1::q.1) q.2).bind λds=>(g ds).bind λsv=>some (.tmp sv,q.2)else none
def Hu(Z:Ent K)(r:V->List V->Hp->VK->Prop)(g:List D->Option SV):Prop:=O7 Z (λvs H Q=>∃x xs,vs=x::xs/\r x xs H Q) g
theorem Zni{T:String}{r:V->List V->Hp->VK->Prop}{g:List D->Option SV}{fo:FE}{fa:FA}(hg:Hu Z r g)(h:Ze Z (bmF T g fo fa) σ H Q):tBM K T r (Ze Z fo) (Od Z fa) σ H Q:=by
 obtain⟨F,δ,own,rv,δ',s,e,k⟩:=h;obtain⟨⟨rv1,δ1⟩,e1,e⟩:=aa.mp e;obtain⟨d0,e2,e⟩:=aa.mp e;dsimp only at e;split at e
 .rename_i ht;obtain⟨⟨rvs,δ2⟩,e3,e⟩:=aa.mp e;obtain⟨ds,e4,e⟩:=aa.mp e;obtain⟨sv,e5,e⟩:=aa.mp e;cases e;refine⟨F,δ,own,rv1,δ1,s,e1,λv H1 F1 own1 sH1 sF1 s1 r1=>?_⟩;obtain⟨F1',sF1',s1',r1'⟩:=s1.settleR r1;refine⟨Zk6 s1'.le (s1'.rd r1' e2) ht,F1',δ1,own1,rvs,δ2,s1',e3,λvs H2 F2 own2 sH2 sF2 s2 r2=>?_⟩;obtain⟨x,xs,ex,q⟩:=hg F2 H2 σ δ2 own2 (v::vs) ds sv Q s2 (s2.rdAll (.cons (r1'.mono sF2) r2) e4) e5 λq H4 F4 ns sH4 sF4 s4 t4=>
   k q H4 F4 own2 (sH1.trans (sH2.trans sH4)) (sF1.trans (sF1'.trans (sF2.trans sF4))) s4 ⟨ns,t4⟩
  injection ex with ex1 ex2;subst ex1 ex2;exact q
 .cases e
end
@[simp]noncomputable def strs?:List D->Option (List Str)
 | []=>aA []
 | .str x::r=>(strs? r).bind λt=>aA (x::t)
 |_=>aB
theorem Lj{F:Hp}:∀{ds:List D} {xs:List Str} {vs:List V},strs? ds=aA xs->Reps K F ds vs->vs=xs.map V.str
 | [],_,_,e,r=>by cases e;cases r;rfl
 |d::r,xs,vs,e,q=>by
  cases q with
  |cons h t=>
   unfold strs? at e;split at e
   .rename_i e0;cases e0
   .rename_i x r' e0;cases e0;obtain⟨ys,e1,e2⟩:=aa.mp e;cases e2;cases h;rw[Lj e1 t];rfl
   .cases e
variable{Z:Ent K}
@[simp]noncomputable def D.pyTy:D->String
 | .non=>"NoneType"
 | .bl _=>"bool"
 | .int _=>"int"
 | .str _=>"str"
 | .tup _=>"tuple"
 | .lst _=>"list"
 | .dK _ _=>"dict"
 | .dT _ _=>"dict"
 | .dX _ _=>"?"
 | .exc _ _ _=>"?"
@[simp]noncomputable def D.isExc:D->Bool
 | .exc _ _ _=>aC
 | .dX _ _=>aC
 |_=>aD
theorem Zib{F H:Hp}{d:D}{x:V}(le:Zl F H)(r:Yh K F H d x)(hx:d.isExc=aD):TyX K H x d.pyTy:=by
 cases d with
 |exc C ks vs=>cases hx
 |dX ks vs=>cases hx
 |non=>rw[r.non];exact .non
 |bl b=>rw[r.bl];exact .bl b
 |int i=>rw[r.int];exact .int i
 |str y=>rw[r.str];exact .str y
 |tup xs=>obtain⟨a,vs,e,ha,_⟩:=r.tup le;subst e;exact .tup ha
 |lst xs=>obtain⟨a,vs,e,ha,_⟩:=r.lst le;subst e;exact .lst ha
 |dK ks vs=>obtain⟨a,kvs,e,⟨ep,ha⟩,_⟩:=r.dK le;subst e;exact .dK ha
 |dT ks vs=>obtain⟨a,kvs,e,⟨ep,bs,ha⟩,_⟩:=r.dT le;subst e;exact .dT ha
@[simp]noncomputable def Ae(c:String)(d:D):Option SV:=if d.isExc=true then none else some (.fz (.bl (d.pyTy==c|| (c=="int" &&d.pyTy=="bool"))))
theorem Zrb{c:String}(hk:∀d:D,d.isExc=aD->PySem.W.kitOne K (.type d.pyTy) (.type c)=aA (d.pyTy==c|| (c=="int" &&d.pyTy=="bool"))):Zkz Z (λx H Q=>Zra K c [x,.ty c] H Q) (Ae c):=by
 intro F H σ δ own x d sv Q s r e k;unfold Ae at e;split at e
 .cases e
 .rename_i hx;cases e;have hx':d.isExc=aD:=by cases z:d.isExc with
   |true=>exact absurd z hx
   |false=>rfl
  exact⟨x,_,_,rfl,Zib s.le r hx',hk d hx',k.fz s (.bl _)⟩
@[simp]noncomputable def Ut:List D->Option SV
 | [.lst xs]=>aA (.fz (.int (xs.length:Nat)))
 | [.tup xs]=>aA (.fz (.int (xs.length:Nat)))
 | [.str x]=>if x.length<=bv then aA (.fz (.int (x.length:Nat)))else aB
 |_=>aB
theorem Zrc:O7 Z (λxs H Q=>(∃p ys,xs=[V.ref p]/\(Oa K H p ys\/G9 K H p ys)/\Q (.int ys.length) H)\/(∃z,xs=[V.str z]/\z.length<=bv/\Q (.int z.length) H)) Ut:=by
 intro F H σ δ own vs ds sv Q s r e k;unfold Ut at e;split at e
 .cases e;cases r with
  |cons h t=>cases t;obtain⟨a,us,ex,ha,ra⟩:=h.lst s.le;subst ex;exact .inl ⟨a,us,rfl,.inl ha,by rw[<-ra.length];exact k.fz s (.int _)⟩
 .cases e;cases r with
  |cons h t=>cases t;obtain⟨a,us,ex,ha,ra⟩:=h.tup s.le;subst ex;exact .inl ⟨a,us,rfl,.inr ha,by rw[<-ra.length];exact k.fz s (.int _)⟩
 .split at e
  .rename_i hz;cases e;cases r with
   |cons h t=>cases t;exact .inr ⟨_,by rw[h.str],hz,k.fz s (.int _)⟩
  .cases e
 .cases e
@[simp]noncomputable def Pe:List D->Option SV
 | [.lst xs]=>aA (.ol xs)
 | [.tup xs]=>aA (.ol xs)
 |_=>aB
theorem Znj:O7 Z (λxs H Q=>∃p ys,xs=[V.ref p]/\(Oa K H p ys\/G9 K H p ys)/\∀l,H l=aB->Q (.ref l) (Y7 H l (.lst ys))) Pe:=by
 intro F H σ δ own vs ds sv Q s r e k;unfold Pe at e;split at e
 .cases e;cases r with
  |cons h t=>cases t;obtain⟨a,us,ex,ha,ra⟩:=h.lst s.le;subst ex;exact⟨a,us,rfl,.inl ha,λl hl=>k.lst s ra hl⟩
 .cases e;cases r with
  |cons h t=>cases t;obtain⟨a,us,ex,ha,ra⟩:=h.tup s.le;subst ex;exact⟨a,us,rfl,.inr ha,λl hl=>k.lst s ra hl⟩
 .cases e
@[simp]noncomputable def A4:List D->Option SV
 | [.lst xs]=>aA (.fz (.tup xs))
 |_=>aB
theorem Zic:O7 Z (λxs H Q=>∃p ys,xs=[V.ref p]/\((Oa K H p ys/\∀l,H l=aB->Q (.ref l) (Y7 H l (.tup ys)))\/(G9 K H p ys/\Q (.ref p) H))) A4:=by
 intro F H σ δ own vs ds sv Q s r e k;unfold A4 at e;split at e
 .cases e;cases r with
  |cons h t=>cases t;obtain⟨a,us,ex,ha,ra⟩:=h.lst s.le;subst ex;exact⟨a,us,rfl,.inl ⟨ha,λl hl=>k.tup s ra hl⟩⟩
 .cases e
@[simp]noncomputable def Zid:List D->Option SV
 | [.int i]=>aA (.fz (.int i))
 | [.bl b]=>aA (.fz (.int (if b then 1 else 0)))
 |_=>aB
theorem Zrd:O7 Z (λxs H Q=>(∃i,xs=[V.int i]/\Q (.int i) H)\/∃k,xs=[V.bl k]/\Q (.int (if k then 1 else 0)) H) Zid:=by
 intro F H σ δ own vs ds sv Q s r e k;unfold Zid at e;split at e
 .cases e;cases r with
  |cons h t=>cases t;exact .inl ⟨_,by rw[h.int],k.fz s (.int _)⟩
 .cases e;cases r with
  |cons h t=>cases t;exact .inr ⟨_,by rw[h.bl],k.fz s (.int _)⟩
 .cases e
section
variable{X:Cx}{Z:Ent X.K}{a b c:b7}{fa fb fc:FE}{pos:Pos}
theorem Zd(i:Nat){x:Str}{pos:Pos}(hN:X.N[i]? =aA x:=by rfl)(hv:Vb X.env.scope x:=by first|exact Or.inl rfl|exact fg (Or.inl rfl)|exact fg (fg rfl))(hd:(x==("__debug__":Str))=aD:=by decide)
  (hcd:(x==("__classdict__":Str))=aD:=by decide):PE X (.Name x pos) (Ze Z (Za i)):=(On hN hv hd hcd).imp λ_ _ _ h=>Zqn h
theorem Zq{i:Int}{j:Nat}:PE X (.Constant (.int i) j pos) (Ze Z (Zb (.int i))):=Zco.imp λ_ _ _ h=>Gc (λ_=>.int _) h
theorem M4{i:Bool}{j:Nat}:PE X (.Constant (.bool i) j pos) (Ze Z (Zb (.bl i))):=Zpq.imp λ_ _ _ h=>Gc (λ_=>.bl _) h
theorem Gy{j:Nat}:PE X (.Constant .none j pos) (Ze Z (Zb .non)):=Zl3.imp λ_ _ _ h=>Gc (λ_=>.non) h
theorem Y1{i:Str}{j:Nat}:PE X (.Constant (.str i) j pos) (Ze Z (Zb (.str i))):=Vc.imp λ_ _ _ h=>Gc (λ_=>.str _) h
theorem Lk{x:Str}{y:Str}{t:Tok}(hm:X.mg x=aA (.str y t))(hg:Gl X x:=by rfl)(hd:(x==("__debug__":Str))=aD:=by decide):PE X (.Name x pos) (Ze Z (Zb (.str y))):=
 (He (v:=.str y) hg hm ⟨t,rfl⟩ hd).imp λ_ _ _ h=>Gc (λ_=>.str _) h
theorem Hv{x:Str}{y:Int}{t:Tok}(hm:X.mg x=aA (.int y t))(hg:Gl X x:=by rfl)(hd:(x==("__debug__":Str))=aD:=by decide):PE X (.Name x pos) (Ze Z (Zb (.int y))):=
 (He (v:=.int y) hg hm ⟨t,rfl⟩ hd).imp λ_ _ _ h=>Gc (λ_=>.int _) h
theorem Pf{op:Operator}{r:R2}{g:D->D->Option SV}(ho:U5 X (binaryOp op) r)(hp:Yr Z r g)(ha:PE X a (Ze Z fa))(hb:PE X b (Ze Z fb)):PE X (.BinOp a op b pos) (Ze Z (Zg g fa fb)):=(Zp4 ho ha hb).imp λ_ _ _ h=>N7 hp h
theorem Uu(ha:PE X a (Ze Z fa))(hb:PE X b (Ze Z fb)):PE X (.BinOp a .Add b pos) (Ze Z (Zg Ue fa fb)):=Pf Zh4 Zq6 ha hb
theorem Zk7(ha:PE X a (Ze Z fa))(hb:PE X b (Ze Z fb)):PE X (.BinOp a .Sub b pos) (Ze Z (Zg Zdt fa fb)):=Pf Zmj Zq2 ha hb
theorem Vx(ha:PE X a (Ze Z fa))(hb:PE X b (Ze Z fb)):PE X (.BinOp a .FloorDiv b pos) (Ze Z (Zg A2 fa fb)):=Pf Zhc Znc ha hb
theorem Q0(ha:PE X a (Ze Z fa))(hb:PE X b (Ze Z fb)):PE X (.BinOp a .Mod b pos) (Ze Z (Zg Qw fa fb)):=Pf Zml Zq4 ha hb
theorem Hw{op:CmpOp}{r:R2}{g:D->D->Option SV}(ho:U5 X (df op) r)(hp:Yr Z r g)(ha:PE X a (Ze Z fa))(hb:PE X b (Ze Z fb))(hm:behindInMarks op b=aD):PE X (.Compare a [op] [b] pos) (Ze Z (Zg g fa fb)):=(Zhe ho ha hb hm).imp λ_ _ _ h=>N7 hp h
theorem Gz{op:CmpOp}{r:R2}{g:D->D->Option SV}(ho:U5 X (df op) r)(hp:Yr Z r g)(ha:PE X a (Ze Z fa))(hb:PE X b (Ze Z fb))(hm:behindInMarks op b=aD):PT X (.Compare a [op] [b] pos) (Yi Z (Zu (Zg g fa fb))):=
 (Zhf ho ha hb hm).imp λσ H Q h=>by obtain⟨F,δ,own,rv,δ',s,e,k⟩:=Lg h;exact N7 hp ⟨F,δ,own,rv,δ',s,e,k⟩
theorem Znk(ha:PE X a (Ze Z fa))(hb:PE X b (Ze Z fb)):PT X (.Compare a [.Lt] [b] pos) (Yi Z (Zu (Zg ltD fa fb))):=Gz Zp8 Zty ha hb (Bj _)
theorem Znl(ha:PE X a (Ze Z fa))(hb:PE X b (Ze Z fb)):PT X (.Compare a [.Gt] [b] pos) (Yi Z (Zu (Zg gtD fa fb))):=Gz Zp9 Ztz ha hb (Bj _)
theorem Zre(ha:PE X a (Ze Z fa))(hb:PE X b (Ze Z fb)):PT X (.Compare a [.GtE] [b] pos) (Yi Z (Zu (Zg geD fa fb))):=Gz Zqa Zt0 ha hb (Bj _)
theorem Zk8(ha:PE X a (Ze Z fa))(hb:PE X b (Ze Z fb)):PT X (.Compare a [.Is] [b] pos) (Yi Z (Zu (Zg Za7 fa fb))):=Gz Zmm Zq7 ha hb (Bj _)
theorem Vy(ha:PE X a (Ze Z fa))(hb:PE X b (Ze Z fb)):PT X (.Compare a [.IsNot] [b] pos) (Yi Z (Zu (Zg A3 fa fb))):=Gz Zhd Znf ha hb (Bj _)
theorem Ll{f:FT}(ha:PT X a (Yi Z f)):PW X (.BoolOp .And [a] pos) (Yi Z f):=Zg5 ha
theorem Hx{f:FT}(ha:PT X a (Yi Z f)):PW X (.BoolOp .Or [a] pos) (Yi Z f):=Zl5 ha
theorem Hy{f g:FT}{rest:List b7}(ha:PT X a (Yi Z f))(hb:PW X (.BoolOp .And (b::rest) pos) (Yi Z g)):PW X (.BoolOp .And (a::b::rest) pos) (Yi Z (Vq f g)):=(Zl6 ha hb).imp λ_ _ _ h=>Zqq h
theorem Vz{f g:FT}{rest:List b7}(ha:PT X a (Yi Z f))(hb:PW X (.BoolOp .Or (b::rest) pos) (Yi Z g)):PW X (.BoolOp .Or (a::b::rest) pos) (Yi Z (Hs f g)):=(Zpt ha hb).imp λ_ _ _ h=>Ztt h
theorem Mb{f:FT}(ha:PT X a (Yi Z f)):PT X (.UnaryOp .Not a pos) (Yi Z (Ad f)):=(Zl7 ha).imp λ_ _ _ h=>Zqr h
theorem G1(h:PE X a (Ze Z fa))(he:∀whole,isTrue a X.env whole=(do let v<-whole;standAt a.pos;holding [v] (truthy v)):=by intro _;rfl):PT X a (Yi Z (Zu fa)):=(Zl4 h he).imp λ_ _ _ h=>Zhw h
theorem Zk9{op:BoolOp}(h:PE X a (Ze Z fa)):PE X (.BoolOp op [a] pos) (Ze Z fa):=Zl8 h
theorem Zla{rest:List b7}(ha:PE X a (Ze Z fa))(hb:PE X (.BoolOp .And (b::rest) pos) (Ze Z fb)):PE X (.BoolOp .And (a::b::rest) pos) (Ze Z (Zhx fa fb)):=(Zl9 ha hb).imp λ_ _ _ h=>Zm5 h
theorem Zrf(ha:PE X a (Ze Z fa)):PE X (.UnaryOp .Not a pos) (Ze Z (Zm4 fa)):=(Zma ha).imp λ_ _ _ h=>Zm6 h
theorem Zt8{t:FT}(hc:PT X c (Yi Z t))(ha:PE X a (Ze Z fa))(hb:PE X b (Ze Z fb)):PE X (.IfExp c a b pos) (Ze Z (ifF t fa fb)):=(Zcp hc ha hb).imp λ_ _ _ h=>Ztv h
theorem Ys:PA X [] (Od Z Zj):=Ud.imp λ_ _ _ h=>Zdm h
theorem Zn{es:List b7}{fr:FA}(ha:PE X a (Ze Z fa))(hr:PA X es (Od Z fr))(hs:av (a::es) X.env=(aD,dk a X.env)::av es X.env:=by rfl):PA X (a::es) (Od Z (Zc fa fr)):=(W0 ha hr hs).imp λ_ _ _ h=>Za6 h
theorem Y4:PA X [] (Jy Z Zw):=Ud.imp λ_ _ _ h=>Fp h
theorem Z1{es:List b7}{fr:FD}(ha:PE X a (Ze Z fa))(hr:PA X es (Jy Z fr))(hs:av (a::es) X.env=(aD,dk a X.env)::av es X.env:=by rfl):PA X (a::es) (Jy Z (Zk fa fr)):=(W0 ha hr hs).imp λ_ _ _ h=>Rf h
theorem Uh{es:List b7}{fd:FD}{k:Nat}(h:PA X es (Jy Z fd)):PE X (.Tuple es k pos) (Ze Z (tupF fd)):=(Zmo h).imp λ_ _ _ h=>Zqo h
theorem Og{es:List b7}{fd:FD}(h:PA X es (Jy Z fd)):PE X (.List es pos) (Ze Z (Oq fd)):=(Zc0 h).imp λ_ _ _ h=>Zqp h
theorem M5:PO X aB (Oe Z Bo):=λpins s σ H Q I h=>Zhg pins s σ H Q I (Zdw h)
theorem Rh(ha:PE X a (Ze Z fa)):PO X (aA a) (Oe Z (Cd fa)):=λpins s σ H Q I h=>Zhh ha pins s σ H Q I (Zng h)
theorem Zdz{lo hi:Option b7}{fl fh:FO}{p2:Pos}(ha:PE X a (Ze Z fa))(hl:PO X lo (Oe Z fl))(hh:PO X hi (Oe Z fh)):PE X (.Subscript a (.Slice lo hi aB p2) pos) (Ze Z (slF slD fa fl fh)):=
 (Zc4 (Zhl.or Znh) ha hl hh).imp λ_ _ _ h=>Zt5 Zt6 h
theorem Yx{k n:Nat}{f:ak}{fd:bx}{ps:List Str}{g:List D->Option SV}{x:Str}{p:Pos}{es:List b7}{fr:FA}(F:FnOk X.prog X.w X.K X.mg X.base Jf k f fd ps (Y6 X.K n g))(hr:Room k X.A)(hm:X.mg x=aA (.ref f))(hk:bc X.K (.ref f)=aC)(hb:Yz X.K fd ps [])
  (ha:PA X (a::es) (Od Z fr)) (hg:Gl X x:=by rfl) (hdb:(x==("__debug__":Str))=aD:=by decide) (he:av (a::es) X.env=(aD,dk a X.env)::av es X.env:=by rfl) (hpl:(dj pos (av es X.env)).any (·.1)=aD:=by rfl):
  PE X (.Call (.Name x p) (a::es) [] pos) (Ze Z (Yn n g fr)):=(Hi F hr hg hm hk hb .nil Zkw ha hdb he hpl).imp λ_ _ _ h=>Zm3 h
theorem Lm{id:String}{r:List V->Hp->VK->Prop}{g:List D->Option SV}{x:Str}{p:Pos}{es:List b7}{fr:FA}(hc:Je X (.builtin id) r)(hp:O7 Z r g)(hm:X.mg x=aB)(hv:bootBuiltins x=aA (.builtin id))(ha:PA X (a::es) (Od Z fr))(hg:Gl X x:=by rfl)(hn:x≠"__name__":=by decide)(hdb:(x==("__debug__":Str))=aD:=by decide)
  (he:av (a::es) X.env=(aD,dk a X.env)::av es X.env:=by rfl) (hpl:(dj pos (av es X.env)).any (·.1)=aD:=by rfl):PE X (.Call (.Name x p) (a::es) [] pos) (Ze Z (Yg g fr)):=(Nw hc hg hm hv ha hn hdb he hpl).imp λ_ _ _ h=>Vp hp h
theorem Mc{T:String}{r:List V->Hp->VK->Prop}{g:List D->Option SV}{x:Str}{p:Pos}{es:List b7}{fr:FA}(hc:Je X (.type T) r)(hp:O7 Z r g)(hm:X.mg x=aB)(hv:bootBuiltins x=aA (.type T))(ha:PA X (a::es) (Od Z fr))(hg:Gl X x:=by rfl)(hn:x≠"__name__":=by decide)(hdb:(x==("__debug__":Str))=aD:=by decide)
  (he:av (a::es) X.env=(aD,dk a X.env)::av es X.env:=by rfl) (hpl:(dj pos (av es X.env)).any (·.1)=aD:=by rfl):PE X (.Call (.Name x p) (a::es) [] pos) (Ze Z (Yg g fr)):=(Zay hc hg hm hv ha hn hdb he hpl).imp λ_ _ _ h=>Vp hp h
theorem Oh{p:Pos}(hm:X.mg "len"=aB)(ha:PE X a (Ze Z fa))(hg:Gl X "len":=by rfl)(he:av [a] X.env=(aD,dk a X.env)::av [] X.env:=by rfl)(hpl:(dj pos (av [] X.env)).any (·.1)=aD:=by rfl):PE X (.Call (.Name "len" p) [a] [] pos) (Ze Z (Yg Ut (Zc fa Zj))):=
 Lm (K9.or La) Zrc hm PySem.boot_len (Zn ha Ys he) hg (by decide) (by decide) he hpl
theorem Znm{p:Pos}(hm:X.mg "list"=aB)(ha:PE X a (Ze Z fa))(hg:Gl X "list":=by rfl)(he:av [a] X.env=(aD,dk a X.env)::av [] X.env:=by rfl)(hpl:(dj pos (av [] X.env)).any (·.1)=aD:=by rfl):PE X (.Call (.Name "list" p) [a] [] pos) (Ze Z (Yg Pe (Zc fa Zj))):=
 Mc Lb Znj hm boot_list (Zn ha Ys he) hg (by decide) (by decide) he hpl
theorem Hz{p:Pos}(hm:X.mg "tuple"=aB)(ha:PE X a (Ze Z fa))(hg:Gl X "tuple":=by rfl)(he:av [a] X.env=(aD,dk a X.env)::av [] X.env:=by rfl)(hpl:(dj pos (av [] X.env)).any (·.1)=aD:=by rfl):PE X (.Call (.Name "tuple" p) [a] [] pos) (Ze Z (Yg A4 (Zc fa Zj))):=
 Mc Ii Zic hm boot_tuple (Zn ha Ys he) hg (by decide) (by decide) he hpl
theorem Znn{p:Pos}(hm:X.mg "int"=aB)(ha:PE X a (Ze Z fa))(hg:Gl X "int":=by rfl)(he:av [a] X.env=(aD,dk a X.env)::av [] X.env:=by rfl)(hpl:(dj pos (av [] X.env)).any (·.1)=aD:=by rfl):PE X (.Call (.Name "int" p) [a] [] pos) (Ze Z (Yg Zid (Zc fa Zj))):=
 Mc Zav Zrd hm boot_int (Zn ha Ys he) hg (by decide) (by decide) he hpl
theorem Tx{x:Str}{c:String}{p p2:Pos}(hm:X.mg "isinstance"=aB)(hmc:X.mg x=aB)(hv:bootBuiltins x=aA (.type c))(hk:∀d:D,d.isExc=aD->PySem.W.kitOne X.K (.type d.pyTy) (.type c)=aA (d.pyTy==c|| (c=="int" &&d.pyTy=="bool")))(ha:PE X a (Ze Z fa))(hg:Gl X "isinstance":=by rfl)(hgc:Gl X x:=by rfl)
  (hn:x≠"__name__":=by decide) (hdb:(x==("__debug__":Str))=aD:=by decide)
  (he:av [a,.Name x p2] X.env=(aD,dk a X.env)::av [.Name x p2] X.env:=by rfl) (he2:av [.Name x p2] X.env=(aD,dk (.Name x p2) X.env)::av [] X.env:=by rfl) (hpl:(dj pos (av [.Name x p2] X.env)).any (·.1)=aD:=by rfl):
  PE X (.Call (.Name "isinstance" p) [a,.Name x p2] [] pos) (Ze Z (unF (Ae c) fa)):=
 (Nw Zdy hg hm boot_isinstance (W0 ha (W0 (Zg4 (v:=.ty c) hgc hmc hv rfl hn hdb) Ud he2) he) (by decide) (by decide) he hpl).imp λσ H Q h=>by have h2:=Zts (Zrb hk) h;exact h2
theorem Zie{op op':CmpOp}{r r':R2}{g g':D->D->Option SV}(ho:U5 X (df op) r)(hp:Yr Z r g)(ho':U5 X (df op') r')(hp':Yr Z r' g')(ha:PE X a (Ze Z fa))(hb:PE X b (Ze Z fb))(hc:PE X c (Ze Z fc))(hm:lastMarks [op,op'] [b,c]=aD:=by with_unfolding_all rfl):
  PE X (.Compare a [op,op'] [b,c] pos) (Ze Z (Vr g g' fa fb fc)):=(Zcz ho ho' ha hb hc hm).imp λ_ _ _ h=>Zhy hp hp' h
theorem Yb(i:Nat){x:Str}(hN:X.N.Nodup)(hi:X.N[i]? =aA x:=by rfl)(hx:Loc X.env.scope x:=by first|exact Or.inl rfl|exact fg rfl)(hf:X.fn x=aC\/X.env.scope.names.lookup x=aA .local:=by first|exact .inl rfl|exact .inr rfl):PG X (.Name x pos) (Cc Z (Zi i)):=(Zg9 hN hi hx hf).imp λ_ _ _ _ h=>Zhz h
theorem A5:PGs X [] (Cr Z Ug):=Zha.imp λ_ _ _ _ h=>Zm8 h
theorem Q3{es:List b7}{g:FG}{r:FGs}(h1:PG X a (Cc Z g))(h2:PGs X es (Cr Z r))(hs:(assignEach (a::es) X.env).map (·.2)=assign a X.env::(assignEach es X.env).map (·.2):=by rfl):PGs X (a::es) (Cr Z (Yo g r)):=(Zcs h1 h2 hs).imp λ_ _ _ _ h=>Zh0 h
theorem Pg{es:List b7}{k n:Nat}{g:FGs}(hc:X.calm=aC)(h:PGs X es (Cr Z g))(hn:(assignEach es X.env).length=n:=by rfl)(hst:(assignEach es X.env).findIdx? (·.1)=aB:=by rfl):PG X (.Tuple es k pos) (Cc Z (Jz n g)):=(Zmc hc h hn hst).imp λ_ _ _ _ h=>Zm9 h
theorem Ph{tg:b7}{p:Pos}(hm:X.mg "range"=aB)(ha:PE X a (Ze Z fa))(hg:Gl X "range":=by rfl)(hs:av [a] X.env=[(aD,dk a X.env)]:=by rfl):PI X tg (.Call (.Name "range" p) [a] [] pos) (Qt Z (Lh (Zc fa Zj))):=(Zar hg hm (Zn ha Ys hs) hs).imp λ_ _ _ h=>Zna h
theorem Y5{N':List Str}{scope:Scope}{src:List BSrc}(kind:scope.kind= .function)(nocell:(scope.names.all λy=>!(y.2== .cell))=aC)(names:(scope.names.all λy=>!(y.2== .local)|| (scope.names.lookup y.1==aA .local))=aC)
  (free:(scope.names.all λy=>!(y.2== .free)|| (X.env.kindOf y.1==aA .cell)|| (X.env.kindOf y.1==aA .free))=aC) (len:src.length=N'.length)
  (cap:((ed src.length).all λk=>match src[k]?,N'[k]? with
   |some (.cap j),aA x=>(X.N[j]? ==aA x)&&((X.env.kindOf x==aA .cell)|| (X.env.kindOf x==aA .free))&&(scope.names.lookup x==aA .free)
   |some .acc,aA x=>scope.names.lookup x==aB
   |_,_=>aC)=aC):CompScope X N' scope src:=by
 have capk:∀(k:Nat) (q:BSrc) (x:Str),src[k]? =aA q->N'[k]? =aA x->(match aA q,aA x with
   |some (.cap j),aA x=>(X.N[j]? ==aA x)&&((X.env.kindOf x==aA .cell)|| (X.env.kindOf x==aA .free))&&(scope.names.lookup x==aA .free)
   |some .acc,aA x=>scope.names.lookup x==aB
   |_,_=>aC)=aC:=λk q x h1 h2=>by
  have hk:k<src.length:=(bp.mp h1).1;have:=eu.mp cap k (List.mem_range.mpr hk);rw[h1,h2]at this;exact this
 refine⟨kind,λy hy e=>?_,λy hy e=>?_,λy hy e=>?_,len,λk j x h1 h2=>?_,λk x h1 h2=>?_⟩
 .have:=eu.mp nocell y hy;rw[e]at this;cases this
 .have:=eu.mp names y hy;rw[e]at this;simpa using this
 .have:=eu.mp free y hy;rw[e]at this;simpa using this
 .have:=capk k (.cap j) x h1 h2;simp only[Bool.and_eq_true,Bool.or_eq_true,beq_iff_eq]at this;exact⟨this.1.1,this.1.2,this.2⟩
 .have:=capk k .acc x h1 h2;simpa using this
theorem Oi{src:List BSrc}(k:Nat)(acc:src[k]? =aA .acc)(uni:((ed src.length).all λi=>match src[i]? with
   |some .acc=>i==k
   |_=>aC)=aC):SrcOk src k:=⟨acc,λi h=>by
  have hi:i<src.length:=(bp.mp h).1;have:=eu.mp uni i (List.mem_range.mpr hi);rw[h]at this;simpa using this⟩
theorem Ln(K:ad):∀d:D,d.isExc=aD->PySem.W.kitOne K (.type d.pyTy) (.type "str")=aA (d.pyTy=="str" || ("str"=="int" &&d.pyTy=="bool")):=by intro d h;cases d<;> first| (cases h;done)|with_unfolding_all rfl
theorem Zd0(K:ad):∀d:D,d.isExc=aD->PySem.W.kitOne K (.type d.pyTy) (.type "list")=aA (d.pyTy=="list" || ("list"=="int" &&d.pyTy=="bool")):=by intro d h;cases d<;> first| (cases h;done)|with_unfolding_all rfl
theorem Ft(K:ad):∀d:D,d.isExc=aD->PySem.W.kitOne K (.type d.pyTy) (.type "tuple")=aA (d.pyTy=="tuple" || ("tuple"=="int" &&d.pyTy=="bool")):=by intro d h;cases d<;> first| (cases h;done)|with_unfolding_all rfl
theorem Zif(K:ad):∀d:D,d.isExc=aD->PySem.W.kitOne K (.type d.pyTy) (.type "int")=aA (d.pyTy=="int" || ("int"=="int" &&d.pyTy=="bool")):=by intro d h;cases d<;> first| (cases h;done)|with_unfolding_all rfl
theorem xg{tg:b7}{g:FG}(h:∀Z:Ent X.K,PG X tg (Cc Z g)):PG X tg (xG X.K g):=λpins s σ H v u Q I r ⟨Z,q⟩=>h Z pins s σ H v u Q I r q
theorem xe{e:b7}{f:FE}(h:∀Z:Ent X.K,PE X e (Ze Z f)):PE X e (xE X.K f):=λpins s σ H Q I ⟨Z,q⟩=>h Z pins s σ H Q I q
theorem xt{e:b7}{f:FT}(h:∀Z:Ent X.K,PT X e (Yi Z f)):PTs X [e] (xT X.K f):=λpins s σ H Q I ⟨Z,q⟩=>Zht (h Z) pins s σ H Q I q
theorem xt0:PTs X [] (xT X.K Y9):=λpins s σ H Q I ⟨Z,q⟩=>by obtain⟨F,δ,own,b,δ',sr,e,k⟩:=q;cases e;exact Zhs pins s σ H Q I (k H F own (Zl.refl H) (Zl.refl F) sr)
theorem Ri{N':List Str}{scope:Scope}{src:List BSrc}{k:Nat}{tg elt iter:b7}{ifs:List b7}{fi:FD}{g:FG}{tt:FT}{te:FE}(hc:X.calm=aC)(S:CompScope X N' scope src)(So:SrcOk src k)(hk:k∉g.tch)(hi:PI X tg iter (Qt Z fi))
  (hg:∀(C:ak) (s₀:ap) (H₀:Hp) (ex:List ak),PG (X.block N' scope C s₀ H₀ ex) tg (xG X.K g)) (ht:∀(C:ak) (s₀:ap) (H₀:Hp) (ex:List ak),PTs (X.block N' scope C s₀ H₀ ex) ifs (xT X.K tt)) (he:∀(C:ak) (s₀:ap) (H₀:Hp) (ex:List ak),PE (X.block N' scope C s₀ H₀ ex) elt (xE X.K te))
  (hs:∀x,foldedSetIterable iter X.env x=pure x:=by intro _;rfl):PE X (.ListComp elt [⟨tg,iter,ifs,0⟩] scope pos) (Ze Z (Yv src k fi g tt te)):=(Zhu hc S hi hg ht he hs).imp λ_ _ _ h=>Vv So hk h
theorem Yp:Gp X [] (Zx Z Yl):=Zg6.imp λ_ _ _ h=>Zm7 h
theorem Zh{st:Stmt}{rest:List Stmt}{f g:FS}(h1:PS X st (Zx Z f))(h2:Gp X rest (Zx Z g)):Gp X (st::rest) (Zx Z (Zm f g)):=(Zcq h1 h2).imp λ_ _ _ h=>Zqs h
theorem Zr{st:Stmt}{f:FS}(h:PS X st (Zx Z f)):Gp X [st] (Zx Z f):=Zg7 h
theorem Yq(h:PE X a (Ze Z fa)):PS X (.Return (aA a) pos) (Zx Z (Y3 fa)):=(Zmb h).imp λ_ _ _ h=>Zqu h
theorem Qh{t:FT}{f g:FS}{bt be:List Stmt}(hc:PT X c (Yi Z t))(ha:Gp X bt (Zx Z f))(hb:Gp X be (Zx Z g)):PS X (.If c bt be pos) (Zx Z (U7 t f g)):=(Zpx hc ha hb).imp λ_ _ _ h=>Zqt h
theorem Yt(i:Nat){x:Str}{pos':Pos}(hN:X.N.Nodup)(he:PE X a (Ze Z fa))(hi:X.N[i]? =aA x:=by rfl)(hx:Loc X.env.scope x:=by first|exact Or.inl rfl|exact fg rfl)(hs:swapsWith a (aA (.Name x pos')) pos.line X.env=pure aD:=by rfl)(hf:X.fn x=aC\/X.env.scope.names.lookup x=aA .local:=by first|exact .inl rfl|exact .inr rfl):
  PS X (.Assign [.Name x pos'] a pos) (Zx Z (Yd i fa)):=(Zct hN hi hx he hs hf).imp λ_ _ _ h=>Ht h
theorem Up(i:Nat){N':List Str}{scope:Scope}{src:List BSrc}{k:Nat}{tg elt iter:b7}{ifs:List b7}{fi:FD}{g:FG}{tt:FT}{te:FE}{y:Str}{py spos:Pos}(hc:X.calm=aC)(S:CompScope X N' scope src)(So:SrcOk src k)(hk:k∉g.tch)(hi:PI X tg iter (Qt Z fi))
  (hg:∀(C:ak) (s₀:ap) (H₀:Hp) (ex:List ak),PG (X.block N' scope C s₀ H₀ ex) tg (xG X.K g)) (ht:∀(C:ak) (s₀:ap) (H₀:Hp) (ex:List ak),PTs (X.block N' scope C s₀ H₀ ex) ifs (xT X.K tt)) (he:∀(C:ak) (s₀:ap) (H₀:Hp) (ex:List ak),PE (X.block N' scope C s₀ H₀ ex) elt (xE X.K te))
  (hN:X.N.Nodup) (hiy:X.N[i]? =aA y:=by rfl) (hx:X.env.scope.names.lookup y=aA .local:=by rfl) (hsw:swapsWith (.ListComp elt [⟨tg,iter,ifs,0⟩] scope pos) (aA (.Name y py)) spos.line X.env=pure aC:=by rfl)
  (hs:∀x,foldedSetIterable iter X.env x=pure x:=by intro _;rfl):PS X (.Assign [.Name y py] (.ListComp elt [⟨tg,iter,ifs,0⟩] scope pos) spos) (Zx Z (Yd i (Yv src k fi g tt te))):=
 (Az hc S hi hg ht he hN hiy hx hsw hs).imp λD σ H h=>by obtain⟨F,δ,own,rv,δ',s,e,q⟩:=Ht h;exact Vv So hk ⟨F,δ,own,rv,δ',s,e,q⟩
theorem Pj{tg:b7}{g:FG}(he:PE X a (Ze Z fa))(hg:PG X tg (Cc Z g))(hs:swapsWithSole [tg] a pos.line X.env=pure aD:=by rfl)(hw:swappedStores [tg] a X.env=pure aB:=by rfl)(h1:(assignEach [tg] X.env).map (·.2)=[assign tg X.env]:=by rfl):
  PS X (.Assign [tg] a pos) (Zx Z (Ge g fa)):=(Zmd he hg hs hw h1).imp λ_ _ _ h=>Zdp h
theorem Uv{tg iter:b7}{body:List Stmt}{fi:FD}{g:FG}{f:FS}(hp:PassesOwn (cg X.prog X.w) X.A X.env X.xe)(hc:X.calm=aC)(hi:PI X tg iter (Qt Z fi))(hg:PG X tg (Cc Z g))(hb:Gp X body (Zx Z f))(hs:∀x,foldedSetIterable iter X.env x=pure x:=by intro _;rfl):
  PS X (.For tg iter body [] pos) (Zx Z (O8 fi g f)):=(Zmg hp hc hi hg hb hs).imp λ_ _ _ h=>Zqx h
theorem Zig(n:Nat){t:FT}{body:List Stmt}{f:FS}(hp:PassesOwn (cg X.prog X.w) X.A X.env X.xe)(hc:PT X c (Yi Z t))(hb:Gp X body (Zx Z f)):PS X (.While c body [] pos) (Zx Z (Ji t f n)):=(Zcv hp hc hb).imp λ_ _ _ h=>Zh1 h
theorem Fu(i:Nat){x:Str}{px apos cpos:Pos}(hb:PE X b (Ze Z fb))(hN:X.N[i]? =aA x:=by rfl)(hv:Vb X.env.scope x:=by first|exact Or.inl rfl|exact fg (Or.inl rfl)|exact fg (fg rfl))(hd:(x==("__debug__":Str))=aD:=by decide)
  (hcd:(x==("__classdict__":Str))=aD:=by decide) (hbase:attributeBase (.Name x px) "append" X.env (dk (.Name x px) X.env)=dk (.Name x px) X.env:=by rfl)
  (hfew:((dj cpos (av [b] X.env)).all (λx=>!x.1)&&(backToKw cpos (keywordEach [] X.env)).all (λx=>x.1.isSome)&&decide ([b].length+([]:List Keyword).length+(if([]:List Keyword).isEmpty then 0 else 1)<30))=aC:=by rfl)
  (hline:(apos.endLine==cpos.line)=aC:=by rfl) (hs:av [b] X.env=(aD,dk b X.env)::av [] X.env:=by rfl) (hpl:(dj cpos (av [] X.env)).any (·.1)=aD:=by rfl) (hsw:swapsWith (.Call (.Attribute (.Name x px) "append" apos) [b] [] cpos) aB pos.line X.env=pure aD:=by rfl):
  PS X (.Expr (.Call (.Attribute (.Name x px) "append" apos) [b] [] cpos) pos) (Zx Z (Ij i fb)):=
 (Bh (R1 PySem.F.plainAttrs_list PySem.F.slot_list_append PySem.F.type_list_append Ga (On (i:=i) hN hv hd hcd) (W0 hb Ud hs) hbase hfew hline hs hpl) hsw).imp λ_ _ _ h=>Zk0 h
end
@[simp]def W3(f:FS)(n:Nat)(ds:List D):Option SV:=match f (Os n ds)with
 |some (.rt sv)=>aA sv
 |some (.nx _)=>aA (.fz .non)
 |_=>aB
theorem Zd1{N:List Str}{n:Nat}{f:FS}{vs:List V}{H:Hp}{Q:VK}{E:XK}(h:Y6 K n (W3 f N.length) vs H Q E):∃F,Zx (ent H F:Ent K) f {nx:=λ_ H'=>Q .non H',rt:=Q} (L2.Qd N vs) H:=by
 obtain⟨F,ds,sv,le,r,hn,e,k⟩:=h;unfold W3 at e;split at e
 .rename_i sw hf;cases e;exact⟨F,F,_,_,.rt sv,R9 (N:=N) le r,hf,λv H' F' ns a b c d e' nd ok=>k v H' F' ns d a b c e' nd ok⟩
 .rename_i δ hf;cases e;exact⟨F,F,_,_,.nx δ,R9 (N:=N) le r,hf,λσ' H' F' own' a s'=>k .non H' F' [] s'.old a s'.le s'.fro (.fz .non) cz λ_ h=>(nomatch h)⟩
 .cases e
theorem Pk{F:Hp}:∀ns:List Int,Reps K F (ns.map D.int) (ns.map V.int)
 | []=>.nil
 |n::r=>.cons (.int n) (Pk r)
end DL
namespace DL
open PySem PySem.Spec PyProof.Rows L2
variable{K:ad}
@[simp]noncomputable def Fv(f:D->D->Option Bool):List D->List D->Option Bool
 |x::xs,y::ys=>(f x y).bind λb=>(Fv f xs ys).bind λc=>aA (b&&c)
 |_,_=>aA aC
@[simp]def Cu(f:D->D->Option Bool):D->D->Option Bool
 | .lst xs,.lst ys=>if xs.length=ys.length then Fv f xs ys else aA aD
 | .tup xs,.tup ys=>(Fv f xs ys).bind λb=>aA (b&&decide (xs.length=ys.length))
 | .lst _,.tup _=>aA aD
 | .tup _,.lst _=>aA aD
 |d1,d2=>eqS d1 d2
@[simp]def Da:Nat->D->D->Option Bool
 |0=>λ_ _=>aB
 |n+1=>Cu (Da n)
theorem Md{F H:Hp}{d1 d2:D}{x y:V}{b:Bool}(e:eqS d1 d2=aA b)(r1:Yh K F H d1 x)(r2:Yh K F H d2 y):Y0 x=aC/\Y0 y=aC/\b=Vi x y:=by unfold eqS at e;split at e<;> cases e<;> (first|obtain rfl:=r1.non|obtain rfl:=r1.int|obtain rfl:=r1.bl|obtain rfl:=r1.str)<;> (first|obtain rfl:=r2.non|obtain rfl:=r2.int|obtain rfl:=r2.bl|obtain rfl:=r2.str)<;> refine⟨rfl,rfl,?_⟩<;> first|rfl|simp[Vi]
section
variable{X:Cx}{pins:List (ak×Obj)}{σ:L2.St}{F H:Hp}{s:ap}
theorem Zd2{x y:V}{v:ag}(rx:Zz x v)(ry:Zz y v)(fx:Y0 x=aC)(fy:Y0 y=aC):Vi x y=aC:=by
 cases x with
 |non=>cases rx;cases y with
  |non=>rfl
  |bl b=>cases ry
  |int b=>obtain⟨t,e⟩:=ry;cases e
  |str b=>obtain⟨t,e⟩:=ry;cases e
  |_=>cases fy
 |bl a=>cases rx;cases y with
  |non=>cases ry
  |bl b=>cases ry;simp[Vi]
  |int b=>obtain⟨t,e⟩:=ry;cases e
  |str b=>obtain⟨t,e⟩:=ry;cases e
  |_=>cases fy
 |int a=>obtain⟨t,rfl⟩:=rx;cases y with
  |non=>cases ry
  |bl b=>cases ry
  |int b=>obtain⟨t,e⟩:=ry;cases e;simp[Vi]
  |str b=>obtain⟨t,e⟩:=ry;cases e
  |_=>cases fy
 |str a=>obtain⟨t,rfl⟩:=rx;cases y with
  |non=>cases ry
  |bl b=>cases ry
  |int b=>obtain⟨t,e⟩:=ry;cases e
  |str b=>obtain⟨t,e⟩:=ry;cases e;simp[Vi]
  |_=>cases fy
 |_=>cases fx
theorem V1{h:du}{a:ak}{i1 i2:Array ag}(h1:h.IsList a i1)(h2:h.IsList a i2):i1=i2:=by obtain⟨o,e1,c1,n1,d1⟩:=h1;obtain⟨o2,e2,c2,n2,d2⟩:=h2;rw[e1]at e2;cases e2;rw[d1]at d2;cases d2;rfl
theorem Pl{h:du}{a:ak}{i1 i2:Array ag}(h1:h.IsTuple a i1)(h2:h.IsTuple a i2):i1=i2:=by obtain⟨o,e1,c1,n1,d1⟩:=h1;obtain⟨o2,e2,c2,n2,d2⟩:=h2;rw[e1]at e2;cases e2;rw[d1]at d2;cases d2;rfl
theorem Db{f:D->D->Option Bool}(hf:∀d1 d2 b x y v,Rep X.K F d1 x->Zz x v->Rep X.K F d2 y->Zz y v->f d1 d2=aA b->b=aC){xs:List D}:∀{ys:List D} {vs ws:List V} {us:List ag} {b:Bool},Reps X.K F xs vs->Ya vs us->Reps X.K F ys ws->Ya ws us->Fv f xs ys=aA b->b=aC:=by
 induction xs with
 |nil=>intro ys vs ws us b _ _ _ _ e;cases e;rfl
 |cons x xs ih=>
  intro ys vs ws us b r1 v1 r2 v2 e;cases r1 with
  |cons h1 t1=>
   cases v1 with
   |cons a1 w1=>
    cases v2 with
    |cons a2 w2=>
     cases r2 with
     |cons h2 t2=>obtain⟨b,e1,e2⟩:=aa.mp e;obtain⟨c,e3,e4⟩:=aa.mp e2;cases e4;rw[hf _ _ _ _ _ _ h1 a1 h2 a2 e1,ih t1 w1 t2 w2 e3];rfl
theorem Fw(I:Inv X pins σ H s)(le:Zl F H){f:D->D->Option Bool}(ih:∀(d1 d2:D) (b:Bool) (x y:V) (v:ag),Rep X.K F d1 x->Zz x v->Rep X.K F d2 y->Zz y v->f d1 d2=aA b->b=aC)(d1 d2:D)(b:Bool)(x y:V)(v:ag)(r1:Rep X.K F d1 x)(v1:Zz x v)(r2:Rep X.K F d2 y)(v2:Zz y v)(e:Cu f d1 d2=aA b):b=aC:=by
  unfold Cu at e;split at e
  .rename_i xs ys;cases r1 with
   |lst q1 _ p1=>
   cases r2 with
   |lst q2 _ p2=>
   cases v1;cases v2;obtain⟨i1,w1,l1,_⟩:=I.list (W4 le q1);obtain⟨i2,w2,l2,_⟩:=I.list (W4 le q2);have z:=V1 l1.isList l2.isList;have z:i1=i2:=by simpa using z
   subst z;split at e
   .exact Db (ih) p1 w1 p2 w2 e
   .rename_i hl;have h1:=w1.length;have h2:=w2.length;have h3:=p1.length;have h4:=p2.length;exact absurd (by omega) hl
  .rename_i xs ys;cases r1 with
   |tup q1 p1=>
   cases r2 with
   |tup q2 p2=>
   cases v1;cases v2;obtain⟨i1,w1,l1,_⟩:=I.tuple (Qf le (Gx q1));obtain⟨i2,w2,l2,_⟩:=I.tuple (Qf le (Gx q2));have z:=Pl l1 l2;have z:i1=i2:=by simpa using z
   subst z;obtain⟨c,e1,e2⟩:=aa.mp e;cases e2;have h1:=w1.length;have h2:=w2.length;have h3:=p1.length;have h4:=p2.length;rw[Db (ih) p1 w1 p2 w2 e1,decide_eq_true (by omega)];rfl
  .cases r1 with
   |lst q1 _ p1=>
   cases r2 with
   |tup q2 p2=>
   cases v1;cases v2;obtain⟨i1,w1,l1,_⟩:=I.list (W4 le q1);obtain⟨i2,w2,l2,_⟩:=I.tuple (Qf le (Gx q2));exact absurd rfl (SeqAt.ne_of_list_tuple (s:=s) l1.isList l2)
  .cases r1 with
   |tup q1 p1=>
   cases r2 with
   |lst q2 _ p2=>
   cases v1;cases v2;obtain⟨i1,w1,l1,_⟩:=I.tuple (Qf le (Gx q1));obtain⟨i2,w2,l2,_⟩:=I.list (W4 le q2);exact absurd rfl (SeqAt.ne_of_list_tuple (s:=s) l2.isList l1)
  .obtain⟨f1,f2,rfl⟩:=Md (H:=H) e (Yh.of r1) (Yh.of r2);exact Zd2 v1 v2 f1 f2
theorem Pm(I:Inv X pins σ H s)(le:Zl F H):∀(n:Nat) (d1 d2:D) (b:Bool) (x y:V) (v:ag),Rep X.K F d1 x->Zz x v->Rep X.K F d2 y->Zz y v->Da n d1 d2=aA b->b=aC
 |0,_,_,_,_,_,_,_,_,_,_,e=>by cases e
 |n+1,d1,d2,b,x,y,v,r1,v1,r2,v2,e=>Fw I le (Pm I le n) d1 d2 b x y v r1 v1 r2 v2 e
theorem Pn{A:c8}{f:D->D->Option Bool}(hf:∀d1 d2 b x y v u,Rep X.K F d1 x->Zz x v->Rep X.K F d2 y->Zz y u->f d1 d2=aA b->SeqAt.EqAt A s v u b){xs:List D}:∀{ys:List D} {vs ws:List V} {us zs:List ag} {b:Bool},Reps X.K F xs vs->Ya vs us->Reps X.K F ys ws->Ya ws zs->Fv f xs ys=aA b->
  ∃e:Nat->Bool,(∀j (h1:j<us.length) (h2:j<zs.length),SeqAt.EqAt A s us[j] zs[j] (e j))/\(ed (min us.length zs.length)).all e=b:=by
 induction xs with
 |nil=>intro ys vs ws us zs b r1 v1 _ _ e;cases r1;cases v1;cases e;exact⟨λ_=>aC,λj h1=>absurd h1 (Nat.not_lt_zero _),by rw[List.length_nil,Nat.zero_min];rfl⟩
 |cons x xs ih=>
  intro ys vs ws us zs b r1 v1 r2 v2 e;cases r1 with
  |cons h1 t1=>
   cases v1 with
   |cons a1 w1=>
    cases v2 with
    |nil=>cases r2;cases e;exact⟨λ_=>aC,λj _ h2=>absurd h2 (Nat.not_lt_zero _),by rw[List.length_nil,Nat.min_zero];rfl⟩
    |cons a2 w2=>
     cases r2 with
     |cons h2 t2=>
      obtain⟨b,e1,e2⟩:=aa.mp e;obtain⟨c,e3,e4⟩:=aa.mp e2;cases e4;obtain⟨g,g1,g2⟩:=ih t1 w1 t2 w2 e3;refine⟨λj=>Nat.casesOn j b g,λj h1 h2=>?_,?_⟩
      .cases j with
       |zero=>exact hf _ _ _ _ _ _ _ ‹_› a1 ‹_› a2 e1
       |succ j=>exact g1 j (Nat.lt_of_succ_lt_succ h1) (Nat.lt_of_succ_lt_succ h2)
      .rw[bd,bd,Nat.succ_min_succ,List.range_succ_eq_map,List.all_cons,List.all_map,<-g2];rfl
theorem rcN(I:Inv X pins σ H s)(le:Zl F H){A:c8}{f:D->D->Option Bool}{d1 d2:D}{b:Bool}{x y:V}{v u:ag}
  (ih:∀d1 d2 b x y v u,Rep X.K F d1 x->Zz x v->Rep X.K F d2 y->Zz y u->f d1 d2=aA b->SeqAt.EqAt A.in1 s v u b) (r1:Yh X.K F H d1 x) (v1:Zz x v) (r2:Yh X.K F H d2 y) (v2:Zz y u)
  (e:Cu f d1 d2=aA b) (hu:A.units<fq) (hr:Y0 x=aD\/Y0 y=aD):(∃a c,v= .ref a/\u= .ref c)/\SeqAt.RcAt A s v u b/\SeqAt.RcNeAt A s v u (!b):=by
 unfold Cu at e;split at e
 .obtain⟨a1,vs1,rfl,q1,p1⟩:=r1.lst le;obtain⟨a2,vs2,rfl,q2,p2⟩:=r2.lst le;cases v1;cases v2;obtain⟨i1,w1,l1,_⟩:=I.list q1;obtain⟨i2,w2,l2,_⟩:=I.list q2;have h1:=w1.length;have h2:=w2.length;have h3:=p1.length;have h4:=p2.length;refine⟨⟨_,_,rfl,rfl⟩,?_⟩;split at e
  .rename_i hl;obtain⟨g,g1,g2⟩:=Pn ih p1 w1 p2 w2 e;have hm:min i1.length i2.length=i1.toArray.size:=by simp;omega
   rw[hm]at g2;subst g2;have hz:i1.toArray.size=i2.toArray.size:=by simp;omega
   exact⟨SeqAt.RcAt.lists l1.isList l2.isList hz hu (λj j1 j2=>by simpa using g1 j (by simpa using j1) (by simpa using j2)),SeqAt.RcNeAt.lists l1.isList l2.isList hz hu (λj j1 j2=>by simpa using g1 j (by simpa using j1) (by simpa using j2))⟩
  .rename_i hl;cases e;have hz:(i1.toArray.size !=i2.toArray.size)=aC:=by simp;omega
   exact⟨SeqAt.RcAt.lists_lengths l1.isList l2.isList hz hu,SeqAt.RcNeAt.lists_lengths l1.isList l2.isList hz hu⟩
 .rename_i xs ys;obtain⟨a1,vs1,rfl,q1,p1⟩:=r1.tup le;obtain⟨a2,vs2,rfl,q2,p2⟩:=r2.tup le;cases v1;cases v2;obtain⟨i1,w1,l1,_⟩:=I.tuple q1;obtain⟨i2,w2,l2,_⟩:=I.tuple q2;have h1:=w1.length;have h2:=w2.length;have h3:=p1.length;have h4:=p2.length;obtain⟨c,e1,e2⟩:=aa.mp e;cases e2;refine⟨⟨_,_,rfl,rfl⟩,?_⟩;obtain⟨g,g1,g2⟩:=Pn ih p1 w1 p2 w2 e1;subst g2;have e3:((ed (min i1.length i2.length)).all g&&decide (xs.length=ys.length))=((ed (min i1.toArray.size i2.toArray.size)).all g&&i1.toArray.size==i2.toArray.size):=by
   have:(i1.toArray.size==i2.toArray.size)=decide (xs.length=ys.length):=by rw[bu,bu,<-h1,<-h2,<-h3,<-h4];rfl
   rw[this];simp
  rw[e3];exact⟨SeqAt.RcAt.tuples l1 l2 hu (λj j1 j2=>by simpa using g1 j (by simpa using j1) (by simpa using j2)),SeqAt.RcNeAt.tuples l1 l2 hu (λj j1 j2=>by simpa using g1 j (by simpa using j1) (by simpa using j2))⟩
 .obtain⟨a1,vs1,rfl,q1,p1⟩:=r1.lst le;obtain⟨a2,vs2,rfl,q2,p2⟩:=r2.tup le;cases v1;cases v2;cases e;obtain⟨i1,w1,l1,_⟩:=I.list q1;obtain⟨i2,w2,l2,_⟩:=I.tuple q2;exact⟨⟨_,_,rfl,rfl⟩,SeqAt.RcAt.list_tuple l1.isList l2 hu,SeqAt.RcNeAt.list_tuple l1.isList l2 hu⟩
 .obtain⟨a1,vs1,rfl,q1,p1⟩:=r1.tup le;obtain⟨a2,vs2,rfl,q2,p2⟩:=r2.lst le;cases v1;cases v2;cases e;obtain⟨i1,w1,l1,_⟩:=I.tuple q1;obtain⟨i2,w2,l2,_⟩:=I.list q2;exact⟨⟨_,_,rfl,rfl⟩,SeqAt.RcAt.tuple_list l1 l2.isList hu,SeqAt.RcNeAt.tuple_list l1 l2.isList hu⟩
 .obtain⟨f1,f2,_⟩:=Md e r1 r2;rcases hr with hr|hr
  .rw[f1]at hr;cases hr
  .rw[f2]at hr;cases hr
theorem Zd3(I:Inv X pins σ H s)(le:Zl F H):∀(n:Nat) (A:c8) (d1 d2:D) (b:Bool) (x y:V) (v u:ag),A.units+n<fq->Rep X.K F d1 x->Zz x v->Rep X.K F d2 y->Zz y u->Da n d1 d2=aA b->SeqAt.EqAt A s v u b
 |0,_,_,_,_,_,_,_,_,_,_,_,_,_,e=>by cases e
 |n+1,A,d1,d2,b,x,y,v,u,hu,r1,v1,r2,v2,e=>by
  by_cases hf:Y0 x=aC/\Y0 y=aC
  .have e':eqS d1 d2=aA b:=by
    unfold Da Cu at e;split at e
    .cases r1;cases hf.1
    .cases r1;cases hf.1
    .cases r1;cases hf.1
    .cases r1;cases hf.1
    .exact e
   obtain⟨f1,f2,rfl⟩:=Md (H:=H) e' (Yh.of r1) (Yh.of r2);exact Vj v1 v2 f1 f2
  .have hf':Y0 x=aD\/Y0 y=aD:=by
    cases h1:Y0 x with
    |false=>exact .inl rfl
    |true=>cases h2:Y0 y with
     |false=>exact .inr rfl
     |true=>exact absurd ⟨h1,h2⟩ hf
   obtain⟨⟨a,c,rfl,rfl⟩,h1,_⟩:=rcN I le (A:=A) (f:=Da n) (λd1 d2 b x y v u q1 w1 q2 w2 e=>Zd3 I le n A.in1 d1 d2 b x y v u (by have:A.in1.units=A.units+1:=rfl;omega) q1 w1 q2 w2 e) (Yh.of r1) v1 (Yh.of r2) v2 e (by omega) hf';by_cases hac:a=c
   .subst hac;rw[Pm I le (n+1) d1 d2 b x y _ r1 v1 r2 v2 e];exact SeqAt.EqAt.same _
   .exact SeqAt.EqAt.of_refs hac h1
end
@[simp]noncomputable def D.isFlat:D->Bool
 | .non=>aC| .bl _=>aC| .int _=>aC| .str _=>aC|_=>aD
theorem A6{F H:Hp}{d:D}{x:V}(r:Yh K F H d x)(h:d.isFlat=aD):Y0 x=aD:=by
 obtain⟨sv,ns,e,n,sh,hp⟩:=r;cases sh with
 |fz r=>cases e;cases r<;> first|rfl|cases h
 |ol r=>rfl
 |oK e' r=>rfl
 |oT kb e' r=>rfl
 |oN e' r=>rfl
 |oR e' r=>rfl
 |oX kb' e' r=>rfl
 |oD r=>rfl
 |oM kb' e' r=>rfl
 |oL _ r=>rfl
 |oQ e' r=>rfl
end DL
namespace L2
open PySem PySem.Spec PyProof.Rows
section
variable{X:Cx}{tg:b7}
noncomputable def Its(z:Str):It:=⟨λi _=>i<z.length,λi H x H'=>H'=H/\∃c,z.cps[i]? =aA c/\x= .str ⟨#[c]⟩,λi _=>z.length<=i⟩
theorem Za9{P:b5}{w:cw}{K:ad}{tg:b7}(z:Str)(t:Tok)(it:ak):Turn P w K tg (Its z) [it] it (λi h=>h.IsStrIter it (d7 z) z t i)where
 mem:=by simp
 obj:=λi h st b hb=>by
  have e:b=it:=by simpa using hb
  subst e;obtain⟨o,e,c,d⟩:=st;exact⟨o,e,λv q=>by rw[d]at q;cases q⟩
 keep:=λi h h' st k=>by obtain⟨o,e,c,d⟩:=st;exact⟨o,k it (by simp) o e,c,d⟩
 item:=by
  intro X hP hw hK hc i pins s σ H E I hf st hg;subst hP hw hK;obtain⟨f0,f1,f2,f3,f4,f5⟩:=hf it (by simp);have hlt:i<z.cps.size:=hg;have hx:z.cps[i]? =aA z.cps[i]:=by simp[hlt]
  have fin:∀h',h'.IsStrIter it (d7 z) z t (i+1)->Heap.SameBut it s.heap h'->∃u,aA (Value.str ⟨#[z.cps[i]]⟩ s.toks)=aA u/\br (cg X.prog X.w) X.A (letOwnedTupleGo tg (.ref it) u) (λ_ s2=>∃x H',Inv X pins σ H' s2/\Zz x u/\(Its z).yld i H x H'/\s2.heap.IsStrIter it (d7 z) z t (i+1)/\∀b∈[it],H' b=aB) E {s with heap:=h',toks:=s.toks+1}:=λh' st' sb=>by
   have I1:Inv X pins σ H {s with heap:=h',toks:=s.toks+1}:=I.turned (t':=s.toks+1) (λb o hb q=>(sb.2 b hb).trans q) f0 f1 f3 f4 f5;obtain⟨o,e,c,d⟩:=id st';have hn:["enumerate","zip","dict_itemiterator","dict_reverseitemiterator","odict_iterator","itertools.zip_longest","itertools.pairwise"].contains (d7 z)=aD:=by unfold d7;split<;> decide
   exact⟨_,rfl,I9 (s:={s with heap:=h',toks:=s.toks+1}) e c d hn ⟨.str ⟨#[z.cps[i]]⟩,H,I1,⟨_,rfl⟩,⟨rfl,_,hx,rfl⟩,st',λb hb=>(hf b hb).1⟩⟩
  cases ha:z.cps.all (· <128)with
  |false=>
   have et:d7 z="str_iterator":=by unfold d7;rw[ha];rfl
   rw[et]at st fin;rw[et];exact wpAny_pyNext_wide_item st hx fin
  |true=>
   have et:d7 z="str_ascii_iterator":=by unfold d7;rw[ha];rfl
   rw[et]at st fin;rw[et];exact wpAny_pyNext_ascii_item st hx fin
 done:=by
  intro X hP hw hK hc i pins s σ H E I hf st hg;subst hP hw hK;obtain⟨f0,f1,f2,f3,f4,f5⟩:=hf it (by simp);have hge:z.cps.size<=i:=hg;have hx:z.cps[i]? =aB:=by simp[hge]
  cases ha:z.cps.all (· <128)with
  |false=>
   have et:d7 z="str_iterator":=by unfold d7;rw[ha];rfl
   rw[et]at st;exact wpAny_pyNext_wide_end (I.ok.hd hc) st hx λh' eb=>⟨rfl,I.turned (t':=s.toks) (λb o hb q=>eb b o hb q) f0 f1 f3 f4 f5⟩
  |true=>
   have et:d7 z="str_ascii_iterator":=by unfold d7;rw[ha];rfl
   rw[et]at st;exact wpAny_pyNext_ascii_end (I.ok.hd hc) st hx λh' eb=>⟨rfl,I.turned (t':=s.toks) (λb o hb q=>eb b o hb q) f0 f1 f3 f4 f5⟩
 self:=λ_ _ _ _ _ st h=>by
  cases ha:z.cps.all (· <128)with
  |false=>
   have et:d7 z="str_iterator":=by unfold d7;rw[ha];rfl
   rw[et]at st;exact wpAny_pyIter_striter_wide st h
  |true=>
   have et:d7 z="str_ascii_iterator":=by unfold d7;rw[ha];rfl
   rw[et]at st;exact wpAny_pyIter_striter_ascii st h
def Zrg(K:ad)(tl:TE):TI:=λσ H R=>tl σ H λx H1=>(∃a,x= .ref a/\(∃xs,Oa K H1 a xs)/\R (Itl K a) H1)\/(∃a,x= .ref a/\(∃xs,G9 K H1 a xs)/\R (Itt K a) H1)\/(∃z,x= .str z/\R (Its z) H1)
theorem Zno{l:b7}{tl:TE}(hl:PE X l tl):PI X tg l (Zrg X.K tl):=by
 intro pins s σ H R I h;refine Wl (hl pins s σ H _ I h) λv s1 zq9=>?_;obtain⟨x,H1,I1,r1,q1⟩:=zq9;rcases q1 with⟨a,e,⟨xs,hq⟩,q⟩|⟨a,e,⟨xs,hq⟩,q⟩|⟨z,e,q⟩
 .subst e;cases r1;obtain⟨its,rv,p,hz⟩:=I1.list hq;refine wpAny_pyIter_list p.isList ?_;refine⟨s1.heap.objs.size,[s1.heap.objs.size],_,_,H1,rfl,I1.kept (t':=s1.toks) λb o e=>az _ e,Zaq a _,⟨_,b3 _ rfl,rfl,rfl⟩,λb hb=>?_,q⟩;have e:b=s1.heap.objs.size:=by simpa using hb
  subst e;exact I1.fpOk (bg _) (I1.hok.fresh (bg _))
 .subst e;cases r1;obtain⟨its,rv,p,hz⟩:=I1.tuple hq;refine wpAny_pyIter_tuple (show s1.heap.IsTuple a its.toArray from p) ?_;refine⟨s1.heap.objs.size,[s1.heap.objs.size],_,_,H1,rfl,I1.kept (t':=s1.toks) λb o e=>az _ e,Vd a _,⟨_,b3 _ rfl,rfl,rfl⟩,λb hb=>?_,q⟩;have e:b=s1.heap.objs.size:=by simpa using hb
  subst e;exact I1.fpOk (bg _) (I1.hok.fresh (bg _))
 .subst e;obtain⟨t,rfl⟩:=r1;refine wpAny_pyIter_strU ?_;refine⟨s1.heap.objs.size,[s1.heap.objs.size],_,_,H1,rfl,I1.kept (t':=s1.toks) λb o e=>az _ e,Za9 z t _,⟨_,b3 _ rfl,rfl,rfl⟩,λb hb=>?_,q⟩;have e:b=s1.heap.objs.size:=by simpa using hb
  subst e;exact I1.fpOk (bg _) (I1.hok.fresh (bg _))
theorem Fx:∀l:List (Str×Tok),Ya ((l.map (·.1)).map V.str) (strValues l)
 | []=>.nil
 | (x,t)::r=>.cons ⟨t,rfl⟩ (Fx r)
def Zd4:V->List V->Hp->VK->Prop:=λx xs H Q=>∃a b,x= .str a/\xs=[.str b]/\(b.length==0)=aD/\a.length<=sizeLine/\(Txt.split a b).length<=sizeLine/\∀p,H p=aB->Q (.ref p) (Y7 H p (.lst ((Txt.split a b).map V.str)))
theorem Zd5:MtR X "str.split" Zd4:=by
 intro pins s σ H x xs v us Q I rx rs h;obtain⟨a,b,rfl,rfl,hb,ha,hz,q⟩:=h;obtain⟨t,rfl⟩:=rx;obtain⟨u,rfl,ru⟩:=Jw rs;obtain⟨t',rfl⟩:=ru;have one:Txt.split a b=[a]->∀tk,EP X pins σ Q (.ref s.heap.objs.size) {s with toks:=tk,heap:=s.heap.push {cls:=.type "list",data:=.seq #[.str a t]}}:=λe tk=>by rw[e]at q;exact⟨.ref _,_,I.lnew (t':=tk) (ys:=[.str a]) (its:=[.str a t]) (.cons ⟨t,rfl⟩ .nil) (by show 1<=sizeLine;decide),rfl,q _ I.fresh⟩
 cases h1:(decide (a.length<b.length)||decide (Builtin.Str.strKind a<Builtin.Str.strKind b))
 .cases hf:(ci a b 0 a.length (a.length+1)).isEmpty
  .have e:Txt.split a b=Builtin.Str.partsBetween a (ci a b 0 a.length (a.length+1)) b.length:=(if_neg (ne_true_of_eq_false h1)).trans (if_neg (ne_true_of_eq_false hf));rw[e]at hz q;refine call_meets F.slot_str_split (typeIs_str _ _ _) F.entry_str_split (F.args_str_split_2 _ _) (meets_str_split_sep a b t t' h1 hb hf ha hz) ?_;rw[strsFrom_eq];have hv:=Fx (numbered s.toks (Builtin.Str.partsBetween a (ci a b 0 a.length (a.length+1)) b.length));rw[numbered_texts]at hv;exact⟨.ref _,_,I.lnew (t':=_) hv (by rw[am];exact hz),rfl,q _ I.fresh⟩
  .exact call_meets F.slot_str_split (typeIs_str _ _ _) F.entry_str_split (F.args_str_split_2 _ _) (meets_str_split_not_found a b t t' h1 hb hf) (one ((if_neg (ne_true_of_eq_false h1)).trans (if_pos hf)) s.toks)
 .exact call_meets F.slot_str_split (typeIs_str _ _ _) F.entry_str_split (F.args_str_split_2 _ _) (meets_str_split_cannot_occur a b t t' h1) (one (if_pos h1) s.toks)
def Zlc:V->List V->Hp->VK->Prop:=λx xs H Q=>∃a b,x= .str a/\xs=[.str b]/\(b.length==0)=aD/\a.length<=sizeLine/\∀p,H p=aB->Q (.ref p) (Y7 H p (.tup [.str (Txt.partition a b).1,.str (Txt.partition a b).2.1,.str (Txt.partition a b).2.2]))
theorem Inv.tnew{pins:List (ak×Obj)}{σ:L2.St}{H:Hp}{s:ap}{ys:List V}{its:List ag}{t':Nat}(I:Inv X pins σ H s)(hv:Ya ys its)(hz:ys.length<=sizeLine):
  Inv X pins σ (Y7 H s.heap.objs.size (.tup ys)) {s with heap:=s.heap.push {cls:=.type "tuple",data:=.seq its.toArray},toks:=t'}:=
 I.laid (λ_ _ q=>az _ q) (bg _) ⟨hz,its,hv,⟨_,b3 _ rfl,rfl,_,rfl⟩⟩
theorem Zih:MtR X "str.partition" Zlc:=by
 intro pins s σ H x xs v us Q I rx rs h;obtain⟨a,b,rfl,rfl,hb,ha,q⟩:=h;obtain⟨t,rfl⟩:=rx;obtain⟨u,rfl,ru⟩:=Jw rs;obtain⟨t',rfl⟩:=ru;refine call_meets F.slot_str_partition (typeIs_str _ _ _) F.entry_str_partition (F.args_str_partition_2 _ _) (meets_str_partition a b t t' hb ha) ?_;unfold Txt.partition at q;cases e:ci a b 0 a.length 1 with
 |nil=>rw[e]at q;exact⟨.ref _,_,I.tnew (t':=s.toks+1) (ys:=[.str a,.str ez,.str ez]) (its:=[.str a t,.str ez s.toks,.str ez s.toks]) (.cons ⟨_,rfl⟩ (.cons ⟨_,rfl⟩ (.cons ⟨_,rfl⟩ .nil))) (by show 3<=sizeLine;decide),rfl,q _ I.fresh⟩
 |cons i r=>rw[e]at q;exact⟨.ref _,_,I.tnew (t':=s.toks+1+1) (ys:=[.str (Builtin.Str.strSub a 0 i),.str b,.str (Builtin.Str.strSub a (i+b.length) a.length)]) (its:=[.str (Builtin.Str.strSub a 0 i) s.toks,.str b t',.str (Builtin.Str.strSub a (i+b.length) a.length) (s.toks+1)]) (.cons ⟨_,rfl⟩ (.cons ⟨_,rfl⟩ (.cons ⟨_,rfl⟩ .nil))) (by show 3<=sizeLine;decide),rfl,q _ I.fresh⟩
def Zrh(K:ad):List V->Hp->VK->Prop:=λxs H Q=>∃(p:ak) (bs:List Bool),xs=[.ref p]/\Oa K H p (bs.map V.bl)/\Q (.bl (bs.all id)) H
theorem Po:∀{bs:List Bool} {us:List ag},Ya (bs.map V.bl) us->us=bs.map Value.bool
 | [],_,r=>by rw[List.map_nil]at r;cases r;rfl
 |b::bs,_,r=>by
  rw[ay]at r;cases r with
  |cons h t=>cases(show _=Value.bool b from h);rw[Po t];rfl
theorem Fy:∀bs:List Bool,(ed bs.length).all (λi=>(bs[i]?).getD aC)=bs.all id
 | []=>rfl
 |b::bs=>by rw[bd,List.range_succ_eq_map,List.all_cons,List.all_map,List.all_cons,<-Fy bs];rfl
theorem Zd6(hc:X.calm=aC):Je X (.builtin "all") (Zrh X.K):=by
 intro pins s σ H xs us Q I rs h;obtain⟨p,bs,rfl,hq,q⟩:=h;obtain⟨u,rfl,ru⟩:=Jw rs;cases ru;obtain⟨its,rv,pl,hz⟩:=I.list hq;have e:=Po rv;subst e;refine call_all_walk (wpAny_pyIter_list pl.isList ?_);have hne:p≠s.heap.objs.size:=λz=>by obtain⟨o,ho,_⟩:=pl.isList;have:=bi ho;rw[z]at this;exact eh _ this
 refine⟨s.heap.objs.size,_,_,_,_,_,λi=>(bs[i]?).getD aC,rfl,Walks.list (by first|exact I.ok.hd hc| (rw[show X.A.in1.handled=X.A.handled from rfl];exact I.ok.hd hc)) _ p hne (bs.map Value.bool).toArray,⟨⟨_,b3 _ rfl,rfl,rfl⟩,pl.isList.at λo e=>az _ e⟩,?_,λh' tk hk=>?_⟩
 .intro i v s' Q' E' hP hQ;have hP':(bs.map Value.bool)[i]? =aA v:=by simpa using hP
  rw[bn]at hP';cases hb:bs[i]? with
  |none=>rw[hb]at hP';cases hP'
  |some b=>rw[hb]at hP';cases hP';dsimp only at hQ;rw[hb]at hQ;exact wpAny_truthy_bool hQ
 .have e:(ed (bs.map Value.bool).toArray.size).all (λi=>(bs[i]?).getD aC)=bs.all id:=by rw[bu,am];exact Fy bs
  rw[e];refine⟨.bl _,H,I.kept (t':=tk) λb o hb=>hk b o (λz=>?_) (az _ hb),rfl,q⟩;have z':b=s.heap.objs.size:=by simpa using z
  have:=bi hb;rw[z']at this;exact eh _ this
end
end L2
namespace DL
open PySem PySem.Spec PyProof.Rows L2
variable{K:ad}
noncomputable def signs(z:Str):List D:=z.cps.toList.map λc=>.str ⟨#[c]⟩
theorem Pp{z:Str}{F:Hp}:Bm K (Its z) F (signs z):=λF' H sF sH i=>by
 have hl:(signs z).length=z.length:=by unfold signs;rw[am];rfl
 refine⟨λd hd=>?_,λh=>by rw[hl]at h;exact h⟩;have hi:i<z.length:=by have:=(bp.mp hd).1;rw[hl]at this;exact this
 refine⟨hi,λx H' zq9=>?_⟩;obtain⟨e1,c,e2,e3⟩:=zq9;subst e1 e3;unfold signs at hd;rw[bn]at hd;have e4:z.cps.toList[i]? =aA c:=by simpa using e2
 rw[e4]at hd;cases hd;exact⟨Zl.refl _,[],cz,λ_ h=>(nomatch h),.str _⟩
section
variable{Z:Ent K}{H:Hp}{σ:L2.St}{Q:VK}{E:Ends}
@[simp]def Wr(fe:FE):FD:=λδ=>(fe δ).bind λp=>(frz p.1 p.2).bind λq=>match q.1 with
 | .lst xs=>aA (xs,q.2)
 | .tup xs=>aA (xs,q.2)
 | .str z=>aA (signs z,q.2)
 |_=>aB
theorem Znp{fe:FE}{R:It->Hp->Prop}(h:Qt Z (Wr fe) σ H R):Zrg K (Ze Z fe) σ H R:=by
 obtain⟨F,δ,own,ds,δ',s,e,k⟩:=h;obtain⟨⟨rv,δ1⟩,e1,e2⟩:=aa.mp e;obtain⟨⟨d,δ2⟩,e3,e4⟩:=aa.mp e2;refine⟨F,δ,own,rv,δ1,s,e1,λv H1 F1 own1 sH sF s1 r1=>?_⟩;obtain⟨F2,sF2,s2,r2⟩:=s1.settleR r1;obtain⟨F3,own3,sF3,s3,r3⟩:=s2.frzR r2 e3;dsimp only at e4;split at e4
 .cases e4;cases r3 with
  |lst h _ r=>exact .inl ⟨_,rfl,⟨_,W4 s3.le h⟩,k _ H1 F3 own3 sH (sF.trans (sF2.trans sF3)) s3 (N9 h r)⟩
 .cases e4;cases r3 with
  |tup h r=>exact .inr (.inl ⟨_,rfl,⟨_,Qf s3.le (Gx h)⟩,k _ H1 F3 own3 sH (sF.trans (sF2.trans sF3)) s3 (Vt (Gx h) r)⟩)
 .cases e4;cases r3 with
  |str x=>exact .inr (.inr ⟨_,rfl,k _ H1 F3 own3 sH (sF.trans (sF2.trans sF3)) s3 Pp⟩)
 .cases e4
@[simp]noncomputable def inS(i j:Str):Bool:=!(ci j i 0 j.length 1).isEmpty
@[simp]def inD:D->D->Option SV
 | .str i,.str j=>aA (.fz (.bl (inS i j)))
 |_,_=>aB
@[simp]def V2:D->D->Option SV
 | .str i,.str j=>aA (.fz (.bl (!inS i j)))
 |_,_=>aB
theorem Zua:Yr Z (λx y H Q=>∃i j,x= .str i/\y= .str j/\Q (.bl (!(ci j i 0 j.length 1).isEmpty)) H) inD:=by
 intro F H σ δ own x y d1 d2 sv Q s r1 r2 e k;unfold inD at e;split at e
 .cases e;exact⟨_,_,r1.str,r2.str,k.fz s (.bl _)⟩
 .cases e
theorem Zii:Yr Z (λx y H Q=>∃i j,x= .str i/\y= .str j/\Q (.bl (!(!(ci j i 0 j.length 1).isEmpty))) H) V2:=by
 intro F H σ δ own x y d1 d2 sv Q s r1 r2 e k;unfold V2 at e;split at e
 .cases e;exact⟨_,_,r1.str,r2.str,k.fz s (.bl _)⟩
 .cases e
@[simp]noncomputable def Lo:List D->Option SV
 | [.str a,.str b]=>if(b.length==0)=aD/\a.length<=bv/\(Txt.split a b).length<=bv then aA (.ol ((Txt.split a b).map D.str))else aB
 |_=>aB
theorem Fz{F:Hp}:∀xs:List Str,Reps K F (xs.map D.str) (xs.map V.str)
 | []=>.nil
 |x::r=>.cons (.str x) (Fz r)
theorem Zij:Hu Z Zd4 Lo:=by
 intro F H σ δ own vs ds sv Q s r e k;unfold Lo at e;split at e
 .rename_i a b;split at e
  .rename_i h;cases e;cases r with
   |cons h1 t=>cases t with
    |cons h2 t=>cases t;exact⟨_,_,rfl,a,b,h1.str,by rw[h2.str],h.1,h.2.1,h.2.2,λp hp=>k.lst s (Fz _) hp⟩
  .cases e
 .cases e
@[simp]noncomputable def Uw:List D->Option SV
 | [.str a,.str b]=>if(b.length==0)=aD/\a.length<=bv then aA (.fz (.tup [.str (Txt.partition a b).1,.str (Txt.partition a b).2.1,.str (Txt.partition a b).2.2]))else aB
 |_=>aB
theorem Pq:Hu Z Zlc Uw:=by
 intro F H σ δ own vs ds sv Q s r e k;unfold Uw at e;split at e
 .rename_i a b;split at e
  .rename_i h;cases e;cases r with
   |cons h1 t=>cases t with
    |cons h2 t=>cases t;exact⟨_,_,rfl,a,b,h1.str,by rw[h2.str],h.1,h.2,λp hp=>k.tup s (.cons (.str _) (.cons (.str _) (.cons (.str _) .nil))) hp⟩
  .cases e
 .cases e
@[simp]noncomputable def bools?:List D->Option (List Bool)
 | []=>aA []
 | .bl x::r=>(bools? r).bind λt=>aA (x::t)
 |_=>aB
theorem Pr{F:Hp}:∀{ds:List D} {xs:List Bool} {vs:List V},bools? ds=aA xs->Reps K F ds vs->vs=xs.map V.bl
 | [],_,_,e,r=>by cases e;cases r;rfl
 |d::ds,_,_,e,r=>by
  cases r with
  |cons h t=>
   unfold bools? at e;split at e
   .rename_i e0;cases e0
   .rename_i x r0 e0;cases e0;obtain⟨ys,e1,e2⟩:=aa.mp e;cases e2;cases h;rw[Pr e1 t];rfl
   .cases e
@[simp]def Zik:List D->Option SV
 | [.lst xs]=>(bools? xs).bind λbs=>aA (.fz (.bl (bs.all id)))
 |_=>aB
theorem Zri:O7 Z (Zrh K) Zik:=by
 intro F H σ δ own vs ds sv Q s r e k;unfold Zik at e;split at e
 .obtain⟨bs,e1,e2⟩:=aa.mp e;cases e2;cases r with
  |cons h1 t=>cases t;obtain⟨a,vs,rfl,ha,ra⟩:=h1.lst s.le;rw[Pr e1 ra]at ha;exact⟨a,bs,rfl,ha,k.fz s (.bl _)⟩
 .cases e
end
section
variable{X:Cx}{Z:Ent X.K}{a b c:b7}{fa fb fc:FE}{pos:Pos}{tg:b7}
theorem Qu(ha:PE X a (Ze Z fa)):PI X tg a (Qt Z (Wr fa)):=λpins s σ H R I h=>Zno ha pins s σ H R I (Znp h)
theorem Zil{apos cpos:Pos}(ha:PE X a (Ze Z fa))(hb:PE X b (Ze Z fb))(hbase:attributeBase a "split" X.env (dk a X.env)=dk a X.env:=by rfl)
  (hfew:((dj cpos (av [b] X.env)).all (λx=>!x.1)&&(backToKw cpos (keywordEach [] X.env)).all (λx=>x.1.isSome)&&decide ([b].length+([]:List Keyword).length+(if([]:List Keyword).isEmpty then 0 else 1)<30))=aC:=by rfl)
  (hline:(apos.endLine==cpos.line)=aC:=by rfl) (hs:av [b] X.env=(aD,dk b X.env)::av [] X.env:=by rfl) (hpl:(dj cpos (av [] X.env)).any (·.1)=aD:=by rfl):
  PE X (.Call (.Attribute a "split" apos) [b] [] cpos) (Ze Z (bmF "str" Lo fa (Zc fb Zj))):=
 (R1 PySem.F.plainAttrs_str PySem.F.slot_str_split PySem.F.type_str_split Zd5 ha (Zn hb Ys hs) hbase hfew hline hs hpl).imp λ_ _ _ h=>Zni Zij h
theorem Tz{apos cpos:Pos}(ha:PE X a (Ze Z fa))(hb:PE X b (Ze Z fb))(hbase:attributeBase a "partition" X.env (dk a X.env)=dk a X.env:=by rfl)
  (hfew:((dj cpos (av [b] X.env)).all (λx=>!x.1)&&(backToKw cpos (keywordEach [] X.env)).all (λx=>x.1.isSome)&&decide ([b].length+([]:List Keyword).length+(if([]:List Keyword).isEmpty then 0 else 1)<30))=aC:=by rfl)
  (hline:(apos.endLine==cpos.line)=aC:=by rfl) (hs:av [b] X.env=(aD,dk b X.env)::av [] X.env:=by rfl) (hpl:(dj cpos (av [] X.env)).any (·.1)=aD:=by rfl):
  PE X (.Call (.Attribute a "partition" apos) [b] [] cpos) (Ze Z (bmF "str" Uw fa (Zc fb Zj))):=
 (R1 PySem.F.plainAttrs_str PySem.F.slot_str_partition PySem.F.type_str_partition Zih ha (Zn hb Ys hs) hbase hfew hline hs hpl).imp λ_ _ _ h=>Zni Pq h
theorem Zrj{p:Pos}(hm:X.mg "all"=aB)(ha:PE X a (Ze Z fa))(hc:X.calm=aC:=by rfl)(hg:Gl X "all":=by rfl)(he:av [a] X.env=(aD,dk a X.env)::av [] X.env:=by rfl)(hpl:(dj pos (av [] X.env)).any (·.1)=aD:=by rfl):PE X (.Call (.Name "all" p) [a] [] pos) (Ze Z (Yg Zik (Zc fa Zj))):=
 Lm (Zd6 hc) Zri hm boot_all (Zn ha Ys he) hg (by decide) (by decide) he hpl
end
end DL
namespace L2
open PySem PySem.Spec PyProof.Rows
open AutoSeq1 (wpAny_loadPart')
section
variable{prog:b5}{w:cw}{A:c8}{E:ag->ap->Prop}{s:ap}
theorem Af{it t:ak}{i:Nat}{items:Array ag}{x:ag}{Q:ag->ap->Prop}(hit:s.heap.IsTupleIter it t i)(ht:s.heap.IsTuple t items)(hx:items[i]? =aA x)
  (hQ:∀h',h'.IsTupleIter it t (i+1)->Heap.SameBut it s.heap h'->Q x {s with heap:=h'}):br (cg prog w) A (Builtin.SmallTypes.nextOf (.ref it)) Q E s:=by
 obtain⟨o,ho,hc,hd⟩:=id hit;obtain⟨ol,hol,_,nl,hdl⟩:=ht;unfold Builtin.SmallTypes.nextOf;refine ac (wpAny_callSpecial?_slot (name:=au "__next__") hit.typeIs F.slot_tuple_iterator_next (dv F.slot_tuple_iterator_next hit.typeIs F.entry_tuple_iterator_next ?_ (F.args_tuple_iterator_next_1 _)));show br _ _ (field (.ref it) 0 >>=_) _ _ s;refine ac (wpAny_field ho hd (x:=.ref t) rfl ?_);show br _ _ (if(b9 t==dw)=aC then _ else _) _ _ s;rw[if_neg (show¬((b9 t==dw)=aC)from ba)];show br _ _ (field (.ref it) 1 >>=_) _ _ s;refine ac (wpAny_field ho hd (x:=.int i 0) rfl ?_);show br _ _ (seqItems? (.ref t) >>=_) _ _ s;refine ac (wpAny_seqItems hol hdl ?_);simp only[Int.toNat_natCast,hx];refine ac (wpAny_setField ho hd (by simp) (ao ⟨x,rfl,ao (hQ _ ⟨_,Heap.get?_update_self _ ho (Obj.isFreed_of_fields (fm hd _)),(Obj.cls_mapFields ..).trans hc,by rw[fm hd];simp[rawInt]⟩ (Heap.SameBut.update ..))⟩))
theorem Cv{it t:ak}{i:Nat}{items:Array ag}{Q:ag->ap->Prop}(hh:A.handled=aB)(hit:s.heap.IsTupleIter it t i)(ht:s.heap.IsTuple t items)(hx:items[i]? =aB)
  (hE:∀h' e,Heap.ExtBut it s.heap h'->(∃o,h'.get? e=aA o/\o.cls= .type "StopIteration")->E (.ref e) {s with heap:=h'}):br (cg prog w) A (Builtin.SmallTypes.nextOf (.ref it)) Q E s:=by
 obtain⟨o,ho,hc,hd⟩:=id hit;obtain⟨ol,hol,_,nl,hdl⟩:=ht;unfold Builtin.SmallTypes.nextOf;refine ac (wpAny_callSpecial?_slot (name:=au "__next__") hit.typeIs F.slot_tuple_iterator_next (dv F.slot_tuple_iterator_next hit.typeIs F.entry_tuple_iterator_next ?_ (F.args_tuple_iterator_next_1 _)));show br _ _ (field (.ref it) 0 >>=_) _ _ s;refine ac (wpAny_field ho hd (x:=.ref t) rfl ?_);show br _ _ (if(b9 t==dw)=aC then _ else _) _ _ s;rw[if_neg (show¬((b9 t==dw)=aC)from ba)];show br _ _ (field (.ref it) 1 >>=_) _ _ s;refine ac (wpAny_field ho hd (x:=.int i 0) rfl ?_);show br _ _ (seqItems? (.ref t) >>=_) _ _ s;refine ac (wpAny_seqItems hol hdl ?_);simp only[Int.toNat_natCast,hx];refine ac (wpAny_rule (ac (wpAny_setField ho hd (by simp) ?_)));show br _ _ (newExc (.type "StopIteration") [] >>=_) _ _ _;refine ac ?_;simp only[newExc,newTuple];refine ac (wpAny_newObj_type ?_ (by size_fits));refine ac (m:=firstArgMember _ _) (wpAny_of_eq (a:=dw) (by first|rfl| (simp only[firstArgMember];rfl)) ?_);refine wpAny_newObj_type ?_ (by size_fits);simp only[raiseNew];refine ac (wpAny_handled ?_);first|rw[show A.in1.handled=aB from hh]|rw[hh]
 refine ac (ao (wpAny_throw ?_));exact hE _ _ (((Heap.SameBut.update ..).extBut.push _).push _) ⟨_,b3 _ rfl,rfl⟩
theorem Ps{h h':du}{t it:ak}{items:Array ag}(x:h.IsTuple t items)(hs:Heap.ExtBut it h h')(hne:t≠it):h'.IsTuple t items:=let⟨o,ho,r⟩:=x;⟨o,hs t o hne ho,r⟩
theorem Zba{prog:b5}{w:cw}{A:c8}(hh:A.handled=aB)(it l:ak)(hne:l≠it)(items:Array ag):
  Draws prog w A it [it,l] items.size (λi v=>items[i]? =aA v) (λi h=>h.IsTupleIter it l i/\h.IsTuple l items)where
 live:=λ_ _ st=>let⟨o,ho,_⟩:=st.1;⟨o,ho⟩
 frame:=λ_ _ _ st hk=>⟨st.1.at λo e=>hk it (by simp) o e,let⟨o,ho,r⟩:=st.2;⟨o,hk l (by simp) o ho,r⟩⟩
 item:=λi s Q E hi st hQ=>by refine Af st.1 st.2 (x:=items[i]) (by simp[hi]) λh' hit' hs'=>?_;exact hQ _ h' s.toks (by simp[hi]) ⟨hit',Ps st.2 hs'.extBut hne⟩ hs'
 done:=λs Q E st hE=>Cv hh st.1 st.2 (by simp) hE
theorem Lp(l:ak)(items:Array ag)(n:Nat)(dct:Option ak)(sl:Array (Option ag)):
  Meets (Builtin.«enumerate.__new__» ⟨[.type "enumerate",.ref l],[]⟩) (λ_ R s=>s.heap.get? l=aA {cls:=.type "tuple",dict:=dct,data:=.seq items n,slots:=sl}/\
   R (.ok (.ret (.ref (s.heap.push {cls:=.type "tuple_iterator",data:=.fields #[.ref l,.int 0 0]}).objs.size))) {s with heap:=(s.heap.push {cls:=.type "tuple_iterator",data:=.fields #[.ref l,.int 0 0]}).push {cls:=.type "enumerate",data:=.fields #[.none,.bool aD,.ref s.heap.objs.size,rawInt 0,.none,.none]}}):=
 .of_wp λprog w A R s h=>by
  obtain⟨hp,g,d,tk,os⟩:=s;obtain⟨hl,h⟩:=h;have hsub:=sub_enumerate;have hL:Heap.IsTuple (Shared.heap ⟨hp,g,d,tk,os⟩) l items:=⟨_,hl,rfl,n,rfl⟩
  wp_walk using wpAny_loadPart' hl;refine wpAny_stack_any λst=>ao ?_;split
  .rename_i c _ _ _ _ _;cases(c==Value.type "enumerate")
   .wp_walk using wpAny_loadPart' hl,wpAny_pyIter_tuple hL;exact⟨_,rfl,h⟩
   .wp_walk using wpAny_loadPart' hl,wpAny_pyIter_tuple hL;exact⟨_,rfl,h⟩
  .wp_walk using wpAny_loadPart' hl,wpAny_pyIter_tuple hL;exact⟨_,rfl,h⟩
theorem Ik{l:ak}{items:Array ag}{Q:ag->ap->Prop}(hL:s.heap.IsTuple l items)
  (h:∀h',IsEnum h' (s.heap.objs.size+1) s.heap.objs.size 0 .none->h'.IsTupleIter s.heap.objs.size l 0->h'.objs.size=s.heap.objs.size+2->(∀b o,s.heap.get? b=aA o->h'.get? b=aA o)->Q (.ref (s.heap.objs.size+1)) {s with heap:=h'}):
  br (cg prog w) A (call (.type "enumerate") [.ref l]) Q E s:=by
 obtain⟨⟨c,dct,dt,sl⟩,hl,hc,n,hd⟩:=hL;replace hc:c= .type "tuple":=hc;replace hd:dt= .seq items n:=hd;subst hc hd;refine callType_new F.called_enumerate (by decide) (F.typeCall_enumerate_1 _) (F.newCall_enumerate_1 _) (λobj=>F.args_object_init_2 obj _) F.entry_enumerate_new (Lp l items n dct sl) ⟨hl,?_⟩;have hz:(s.heap.push {cls:=.type "tuple_iterator",data:=.fields #[.ref l,.int 0 0]}).objs.size=s.heap.objs.size+1:=Heap.size_push ..;show _/\_;rw[hz];have he:IsEnum ((s.heap.push {cls:=.type "tuple_iterator",data:=.fields #[.ref l,.int 0 0]}).push {cls:=.type "enumerate",data:=.fields #[.none,.bool aD,.ref s.heap.objs.size,rawInt 0,.none,.none]}) (s.heap.objs.size+1) s.heap.objs.size 0 .none:=by have:=b3 (s.heap.push {cls:=.type "tuple_iterator",data:=.fields #[.ref l,.int 0 0]}) (o:={cls:=.type "enumerate",data:=.fields #[.none,.bool aD,.ref s.heap.objs.size,rawInt 0,.none,.none]}) rfl;rw[hz]at this;exact this
 exact⟨⟨_,he,rfl⟩,h _ he ⟨_,az _ (b3 _ rfl),rfl,rfl⟩ (by rw[Heap.size_push,hz]) λb o x=>az _ (az _ x)⟩
theorem Lq{e it l:ak}{i:Nat}{items:Array ag}{old:ag}{Q:Option ag->ap->Prop}(hh:A.handled=aB)(he:IsEnum s.heap e it i old)(hit:s.heap.IsTupleIter it l i)(hl:s.heap.IsTuple l items)(hx:items[i]? =aB)
  (hQ:∀h',Heap.ExtBut it s.heap h'->Q aB {s with heap:=h'}):br (cg prog w) A (pyNext (.ref e)) Q E s:=by
 have hT:s.TypeIs (.ref e) "enumerate":=⟨_,he,rfl⟩;unfold pyNext;refine ac (wpAny_attempt (wpAny_callSpecial?_slot (name:=au "__next__") hT F.slot_enumerate_next (dv F.slot_enumerate_next hT F.entry_enumerate_next ?_ (F.args_enumerate_next_1 _))));show br _ _ (field (.ref e) 2 >>=_) _ _ _;refine ac (wpAny_field he rfl (x:=.ref it) rfl ?_);refine ac (Cv (by first|exact hh| (rw[show A.in1.handled=A.handled from rfl];exact hh)) hit hl hx λh' x he' hx'=>?_);obtain⟨o,ho,hc⟩:=hx';refine ac (wpAny_isInstance (T:="StopIteration") (b:=aC) ⟨o,ho,hc⟩ isSubtype_stop ?_);exact ao (hQ _ he')
end
section
variable{X:Cx}{tg:b7}
def Znq(K:ad)(a:ak):It:=
 ⟨λi H=>∃xs x,G9 K H a xs/\xs[i]? =aA x,λi H x H'=>∃p v,x= .ref p/\H p=aB/\H'=Y7 H p (.tup [.int (i:Nat),v])/\∀xs,G9 K H a xs->xs[i]? =aA v,λi H=>∃xs,G9 K H a xs/\xs.length<=i⟩
theorem V3{P:b5}{w:cw}{K:ad}{elts:List b7}{kk:Nat}{tpos:Pos}(a e it:ak)(hei:e≠it):Turn P w K (.Tuple elts kk tpos) (Znq K a) [e,it] e (λi h=>(∃old,IsEnum h e it ((i:Nat):Int) old)/\h.IsTupleIter it a i)where
 mem:=by simp
 obj:=λi h st b hb=>by
  have hb':b=e\/b=it:=by simpa using hb
  rcases hb' with z|z
  .subst z;obtain⟨old,q⟩:=st.1;exact⟨_,q,λv y=>by
    have y':Data.fields _=Data.cell v:=y;cases y'⟩
  .subst z;obtain⟨o,q,c,d⟩:=st.2;exact⟨o,q,λv y=>by rw[d]at y;cases y⟩
 keep:=λi h h' st k=>⟨let⟨old,q⟩:=st.1;⟨old,k e (by simp) _ q⟩,st.2.at λo q=>k it (by simp) o q⟩
 item:=by
  intro X hP hw hK hc i pins s σ H E I hf st hg;subst hP hw hK;obtain⟨xs,x,hq,hx⟩:=hg;obtain⟨its,rv,p,hz⟩:=I.tuple hq;obtain⟨u,hu,ru⟩:=rv.get hx;obtain⟨⟨old,he⟩,hit⟩:=st;have hl:s.heap.IsTuple a its.toArray:=p;have ai:a≠it:=λz=>by obtain⟨o1,q1,c1,_⟩:=hit;obtain⟨o2,q2,c2,_⟩:=hl;rw[z,q1]at q2;cases q2;rw[c1]at c2;exact absurd c2 (by decide)
  have ae:e∉[it,a]:=λz=>by
   have z':e=it\/e=a:=by simpa using z
   rcases z' with z|z
   .exact hei z
   .obtain⟨o2,q2,c2,_⟩:=hl;rw[<-z,he]at q2;cases q2;exact absurd (show Value.type "enumerate"=Value.type "tuple"from c2) (by decide)
  have D:=Zba (prog:=X.prog) (w:=X.w) (A:=X.A.in1) (by first|exact I.ok.hd hc| (rw[show X.A.in1.handled=X.A.handled from rfl];exact I.ok.hd hc)) it a ai its.toArray;have hlt:i<its.toArray.size:=by have:=(bp.mp hu).1;rw[bu];exact this
  refine wpAny_pyNext_enum_itemD D he ⟨hit,hl⟩ hlt hei ae λy h' tk hy hout st' hT hsz hk=>⟨.ref s.heap.objs.size,rfl,?_⟩
  refine wpAny_letOwnedTupleGo_enum hout λh2 he2 hs2=>?_;have hy':its.toArray[i]? =aA y:=hy;have ey:y=u:=by
   have:its[i]? =aA y:=by simpa using hy'
   rw[hu]at this;cases this;rfl
  subst ey;have kk:∀b o,b≠e->b≠it->s.heap.get? b=aA o->h2.get? b=aA o:=λb o h1 h3 q=>(hs2.2 b h1).trans (hk b o h1 h3 q);have neT:s.heap.objs.size≠e:=Nat.ne_of_gt (bi he);have I2:=I.turnedT (h':=h2) (t':=tk+1) (e:=e) (it:=it) (T:=s.heap.objs.size) (xs:=[.int (i:Nat),x]) (its:=[.int i tk,y]) kk (hf e (by simp)) (hf it (by simp)) rfl ⟨_,(hs2.2 _ neT).trans hT,rfl,_,rfl⟩ (.cons ⟨tk,rfl⟩ (.cons ru .nil)) (by show 2<=sizeLine;decide)
   ⟨_,he2⟩ (let⟨o,q,_⟩:=st'.1;⟨o,(hs2.2 it (Ne.symm hei)).trans q⟩)
  refine⟨.ref s.heap.objs.size,_,I2,rfl,⟨s.heap.objs.size,x,rfl,I.hok.fresh (bg _),rfl,λys hy2=>by rw[I.tuple_inj hy2 hq];exact hx⟩,⟨⟨_,he2⟩,st'.1.at λo q=>(hs2.2 it (Ne.symm hei)).trans q⟩,λb hb=>?_⟩;rw[Zv λz=>?_]
  .exact(hf b hb).1
  .have hb':b=e\/b=it:=by simpa using hb
   rcases hb' with y|y
   .rw[<-z,y]at neT;exact neT rfl
   .obtain⟨o,q,_⟩:=hit;rw[y]at z;exact absurd (bi q) (by rw[z];exact eh _)
 done:=by intro X hP hw hK hc i pins s σ H E I hf st hg;subst hP hw hK;obtain⟨xs,hq,hx⟩:=hg;obtain⟨its,rv,p,hz⟩:=I.tuple hq;obtain⟨⟨old,he⟩,hit⟩:=st;obtain⟨f0,f1,f2,f3,f4,f5⟩:=hf it (by simp);have hl:=rv.length;exact Lq (I.ok.hd hc) he hit (show s.heap.IsTuple a its.toArray from p) (by simp;omega) λh' eb=>⟨rfl,I.turned (t':=s.toks) (λb o hb q=>eb b o hb q) f0 f1 f3 f4 f5⟩
 self:=λ_ _ _ _ _ st h=>let⟨⟨old,he⟩,_⟩:=st;wpAny_pyIter_enum he h
def Zd7(K:ad)(ta:TA):TI:=λσ H R=>ta σ H λvs H1=>∃a xs,vs=[.ref a]/\G9 K H1 a xs/\R (Znq K a) H1
theorem Zd8{l:b7}{elts:List b7}{kk:Nat}{tpos p pos:Pos}{ta:TA}(hg:Gl X "enumerate")(hm:X.mg "enumerate"=aB)(ha:PA X [l] ta)(hs:av [l] X.env=[(aD,dk l X.env)]:=by rfl):
  PI X (.Tuple elts kk tpos) (.Call (.Name "enumerate" p) [l] [] pos) (Zd7 X.K ta):=by
 intro pins s σ H R I h;refine Call_ (G8 I hg hm boot_enumerate (PyProof.Rows.callWith_type1 (Wl (ha pos pins s σ H _ I h) λus s1 ⟨vs,H1,I1,r1,q1⟩=>?_) hs rfl));obtain⟨a,xs,e,hq,q⟩:=q1;subst e;obtain⟨u,rfl,ru⟩:=Jw r1;cases ru;obtain⟨its,rv,p,hz⟩:=I1.tuple hq;refine Ik (show s1.heap.IsTuple a its.toArray from p) λh' he hit hsz hk=>wpAny_pyIter_enum he ?_;have I2:Inv X pins σ H1 {s1 with heap:=h'}:=I1.kept (t':=s1.toks) hk;refine⟨s1.heap.objs.size+1,[s1.heap.objs.size+1,s1.heap.objs.size],_,_,H1,rfl,I2,V3 a _ _ (Nat.succ_ne_self _),⟨⟨.none,by simpa using he⟩,hit⟩,λb hb=>?_,q⟩;have hb':b=s1.heap.objs.size+1\/b=s1.heap.objs.size:=by simpa using hb
 rcases hb' with z|z
 .subst z;exact I1.fpOk (Nat.le_succ _) (I1.hok.fresh (Nat.le_succ _))
 .subst z;exact I1.fpOk (bg _) (I1.hok.fresh (bg _))
end
end L2
namespace DL
open PySem PySem.Spec PyProof.Rows L2
variable{K:ad}
theorem Lr{F:Hp}{a:ak}{xs:List D}{vs:List V}(h:G9 K F a vs)(r:Reps K F xs vs):Bm K (Znq K a) F (Ct xs):=λF' H sF sH i=>by
 have q:G9 K H a vs:=Qf (sF.trans sH) h;refine⟨λd hd=>?_,λhl=>⟨vs,q,by rw[<-r.length,<-Fs];exact hl⟩⟩;obtain⟨x,hx,rfl⟩:=Fq hd;obtain⟨v,h1,h2⟩:=r.get hx;refine⟨⟨vs,v,q,h1⟩,λy H' zq9=>?_⟩;obtain⟨p,w,e1,e2,e3,e4⟩:=zq9;subst e1 e3;have e5:=e4 vs q;rw[h1]at e5;cases e5;have hp:F' p=aB:=sH.free e2;have sm:Zl F' (Jh F' [(p,.tup [.int (i:Nat),v])]):=Qb λz hz=>by obtain rfl:=aq.mp hz;exact hp
 refine⟨Qy e2,[(p,.tup [.int (i:Nat),v])],Nl,λz hz=>?_,.tup Ye (.cons (.int _) (.cons (h2.mono (sF.trans sm)) .nil))⟩;obtain rfl:=aq.mp hz;exact⟨e2,Ye⟩
section
variable{Z:Ent K}{H:Hp}{σ:L2.St}{Q:VK}
@[simp]def Zd9(fd:FD):FD:=λδ=>(fd δ).bind λp=>match p.1 with
 | [.tup xs]=>aA (Ct xs,p.2)
 |_=>aB
theorem Zea{fd:FD}{R:It->Hp->Prop}(h:Qt Z (Zd9 fd) σ H R):Zd7 K (Jy Z fd) σ H R:=by
 obtain⟨F,δ,own,ds,δ',s,e,k⟩:=h;obtain⟨⟨ds1,δ1⟩,e1,e2⟩:=aa.mp e;refine⟨F,δ,own,ds1,δ1,s,e1,λvs H1 F1 own1 sH sF s1 r1=>?_⟩;dsimp only at e2;split at e2
 .rename_i xs;cases e2;cases r1 with
  |cons h t=>
   cases t;cases h with
   |tup h r=>exact⟨_,_,rfl,Qf s1.le (Gx h),k _ H1 F1 own1 sH sF s1 (Lr (Gx h) r)⟩
 .cases e2
end
section
variable{X:Cx}{Z:Ent X.K}{a:b7}{fa:FE}{pos:Pos}
@[simp]def Ls(fd:FD):FD:=λδ=>(fd δ).bind λp=>match p.1 with
 | [.lst xs]=>aA (Ct xs,p.2)
 | [.tup xs]=>aA (Ct xs,p.2)
 |_=>aB
theorem Zeb{H:Hp}{σ:L2.St}{fd:FD}{R:It->Hp->Prop}(h:Qt Z (Ls fd) σ H R):Qt Z (Zk5 fd) σ H R\/Qt Z (Zd9 fd) σ H R:=by
 obtain⟨F,δ,own,ds,δ',s,e,k⟩:=h;obtain⟨⟨ds1,δ1⟩,e1,e2⟩:=aa.mp e;dsimp only at e2;split at e2
 .rename_i xs;exact .inl ⟨F,δ,own,ds,δ',s,aa.mpr ⟨_,e1,e2⟩,k⟩
 .rename_i xs;exact .inr ⟨F,δ,own,ds,δ',s,aa.mpr ⟨_,e1,e2⟩,k⟩
 .cases e2
theorem Dc{elts:List b7}{kk:Nat}{tpos p:Pos}{fd:FD}(hm:X.mg "enumerate"=aB)(ha:PA X [a] (Jy Z fd))(hg:Gl X "enumerate":=by rfl)(hs:av [a] X.env=[(aD,dk a X.env)]:=by rfl):
  PI X (.Tuple elts kk tpos) (.Call (.Name "enumerate" p) [a] [] pos) (Qt Z (Ls fd)):=λpins s σ H R I h=>by
 rcases Zeb h with h|h
 .exact Zh7 hg hm ha hs pins s σ H R I (Zh9 h)
 .exact Zd8 hg hm ha hs pins s σ H R I (Zea h)
end
end DL
namespace L2
open PySem PySem.Spec PyProof.Rows
variable{X:Cx}
def Zec(K:ad):V->List V->Hp->VK->Prop:=λx xs H Q=>∃sep p ys,x= .str sep/\xs=[.ref p]/\(Oa K H p (ys.map V.str)\/G9 K H p (ys.map V.str))/\JoinOk sep ys=aC/\Q (.str (Txt.join sep ys)) H
theorem Zed:MtR X "str.join" (Zec X.K):=by
 intro pins s σ H x xs v us Q I rx rs h;obtain⟨sep,p,ys,rfl,rfl,hq,hok,q⟩:=h;rcases hq with hq|hq
 .exact Zh8 pins s σ H _ _ v us Q I rx rs ⟨sep,p,ys,rfl,rfl,hq,hok,q⟩
 .obtain⟨t,rfl⟩:=rx;obtain⟨u,rfl,ru⟩:=Jw rs;cases ru;obtain⟨its,rv,pl,hz⟩:=I.tuple hq;obtain⟨l,e1,e2⟩:=Li rv;subst e1 e2;have hok':=hok;unfold JoinOk at hok';rw[Bool.not_eq_true']at hok';obtain⟨o,ho,hc,n,hd⟩:=(show s.heap.IsTuple p (strValues l).toArray from pl)
  exact call_meets F.slot_str_join (typeIs_str _ _ _) F.entry_str_join (F.args_str_join_2 _ _) (meets_str_join_tuple sep t p l hok') ⟨⟨o,n,ho,hc,hd⟩,post_join l ⟨joinFit_length hok',λt' k=>⟨.str (Txt.join sep (l.map (·.1))),H,I.tok _,⟨_,rfl⟩,q⟩⟩⟩
end L2
namespace DL
open PySem PySem.Spec PyProof.Rows L2
variable{K:ad}
@[simp]def M6:List D->Option SV
 | [.str sep,.lst xs]=>(strs? xs).bind λys=>if JoinOk sep ys=aC then aA (.fz (.str (Txt.join sep ys)))else aB
 | [.str sep,.tup xs]=>(strs? xs).bind λys=>if JoinOk sep ys=aC then aA (.fz (.str (Txt.join sep ys)))else aB
 |_=>aB
theorem Zim{Z:Ent K}:Hu Z (Zec K) M6:=by
 intro F H σ δ own vs ds sv Q s r e k;unfold M6 at e;split at e
 .obtain⟨ys,e1,e2⟩:=aa.mp e;split at e2
  .rename_i hok;cases e2;cases r with
   |cons h1 t1=>
    cases t1 with
    |cons h2 t2=>cases t2;obtain⟨a,us,ex,ha,ra⟩:=h2.lst s.le;rw[Lj e1 ra]at ha;exact⟨_,_,rfl,_,a,ys,h1.str,by rw[ex],.inl ha,hok,k.fz s (.str _)⟩
  .cases e2
 .obtain⟨ys,e1,e2⟩:=aa.mp e;split at e2
  .rename_i hok;cases e2;cases r with
   |cons h1 t1=>
    cases t1 with
    |cons h2 t2=>cases t2;obtain⟨a,us,ex,ha,ra⟩:=h2.tup s.le;rw[Lj e1 ra]at ha;exact⟨_,_,rfl,_,a,ys,h1.str,by rw[ex],.inr ha,hok,k.fz s (.str _)⟩
  .cases e2
 .cases e
section
variable{X:Cx}{Z:Ent X.K}{a b:b7}{fa fb:FE}
theorem Dd{apos cpos:Pos}(ha:PE X a (Ze Z fa))(hb:PE X b (Ze Z fb))(hbase:attributeBase a "join" X.env (dk a X.env)=dk a X.env:=by rfl)
  (hfew:((dj cpos (av [b] X.env)).all (λx=>!x.1)&&(backToKw cpos (keywordEach [] X.env)).all (λx=>x.1.isSome)&&decide ([b].length+([]:List Keyword).length+(if([]:List Keyword).isEmpty then 0 else 1)<30))=aC:=by rfl)
  (hline:(apos.endLine==cpos.line)=aC:=by rfl) (hs:av [b] X.env=(aD,dk b X.env)::av [] X.env:=by rfl) (hpl:(dj cpos (av [] X.env)).any (·.1)=aD:=by rfl):
  PE X (.Call (.Attribute a "join" apos) [b] [] cpos) (Ze Z (bmF "str" M6 fa (Zc fb Zj))):=
 (R1 PySem.F.plainAttrs_str PySem.F.slot_str_join PySem.F.type_str_join Zed ha (Zn hb Ys hs) hbase hfew hline hs hpl).imp λ_ _ _ h=>Zni Zim h
end
end DL
namespace L2
open PySem PySem.Spec PyProof.Rows
variable{X:Cx}
def Zrk:R2:=λx y H Q=>∃a v,x= .ref a/\O4 H a y (aA v)/\Q v H
def Zee:R2:=λy x H Q=>∃a o,x= .ref a/\O4 H a y o/\Q (.bl o.isSome) H
def Me:R2:=λy x H Q=>∃a o,x= .ref a/\O4 H a y o/\Q (.bl (!o.isSome)) H
theorem A7(hu:X.A.units+1<fq):U5 X (df .In) Zee:=by intro pins s σ H y x v u Q I ry rx h;obtain⟨a,o,rfl,g,q⟩:=h;cases rx;exact Ztr hu I g ry λs' I'=>⟨.bl o.isSome,H,I',rfl,q⟩
theorem G2(hu:X.A.units+1<fq):U5 X (df .NotIn) Me:=by intro pins s σ H y x v u Q I ry rx h;obtain⟨a,o,rfl,g,q⟩:=h;cases rx;exact Zhm hu I g ry λs' I'=>⟨.bl (!o.isSome),H,I',rfl,q⟩
end L2
namespace DL
open PySem PySem.Spec PyProof.Rows L2
variable{K:ad}
@[simp]def D.key?:D->Option Key
 | .int i=>aA (.inl i)
 | .str x=>aA (.inr x)
 |_=>aB
@[simp]def keys?:List D->Option (List Key)
 | []=>aA []
 |d::r=>d.key?.bind λk=>(keys? r).bind λt=>aA (k::t)
section
variable{κ:Type}[DecidableEq κ]
@[simp]noncomputable def Yk(ks:List κ)(vs:List D)(k:κ):Option D:=match ks,vs with
 |a::ks,v::vs=>if a=k then aA v else Yk ks vs k
 |_,_=>aB
theorem Lu{F:Hp}(k:κ):∀(kvs:List (κ×V)) (ds:List D),Reps K F ds (kvs.map (·.2))->match Yk (kvs.map (·.1)) ds k with
  |some d=>∃v,Jx kvs k=aA v/\Rep K F d v
  |none=>Jx kvs k=aB
 | [],_,r=>by cases r;exact Zc6
 |p::kvs,_,r=>by
  cases r with
  | @cons d v ds vs h t=>
   show match(if p.1=k then aA d else Yk (kvs.map (·.1)) ds k)with
    |some d=>∃v,Jx (p::kvs) k=aA v/\Rep K F d v
    |none=>Jx (p::kvs) k=aB
   by_cases e:p.1=k
   .rw[if_pos e];exact⟨p.2,Cn e,h⟩
   .rw[if_neg e,O3 e];exact Lu k kvs ds t
@[simp]noncomputable def Wm(ks:List κ)(vs:List D)(k:κ)(v:D):List κ×List D:=
 if k∈ks then(ks,(ks.zip vs).map λp=>if p.1=k then v else p.2)else(ks++[k],vs++[v])
theorem Reps.length_map{F:Hp}{α:Type}{ds:List D}{kvs:List (α×V)}(r:Reps K F ds (kvs.map (·.2))):ds.length=kvs.length:=by rw[r.length,am]
theorem De{F:Hp}{k:κ}{d:D}{v:V}(hd:Rep K F d v):∀(kvs:List (κ×V)) (ds:List D),Reps K F ds (kvs.map (·.2))->
  Reps K F (((kvs.map (·.1)).zip ds).map λp=>if p.1=k then d else p.2) ((kvs.map λkv=>if kv.1=k then(kv.1,v)else kv).map (·.2))
 | [],_,r=>by cases r;exact .nil
 |p::kvs,_,r=>by
  cases r with
  | @cons d' v' ds vs h t=>
   have ih:=De (k:=k) hd kvs ds t;show Reps K F ((if p.1=k then d else d')::(((kvs.map (·.1)).zip ds).map λp=>if p.1=k then d else p.2)) ((if p.1=k then(p.1,v)else p).2::((kvs.map λkv=>if kv.1=k then(kv.1,v)else kv).map (·.2)));refine .cons ?_ ih;by_cases e:p.1=k
   .rw[if_pos e,if_pos e];exact hd
   .rw[if_neg e,if_neg e];exact h
theorem Zef{k:κ}{v:V}(kvs:List (κ×V)):(kvs.map λkv=>if kv.1=k then(kv.1,v)else kv).map (·.1)=kvs.map (·.1):=by rw[cx];refine List.map_congr_left λp _=>?_;show(if p.1=k then(p.1,v)else p).1=p.1;split<;> rfl
theorem Df(k:κ)(kvs:List (κ×V)):(kvs.any λkv=>decide (kv.1=k))=aC↔k∈kvs.map (·.1):=by
 rw[List.any_eq_true,ax];constructor
 .rintro⟨p,h1,h2⟩;exact⟨p,h1,of_decide_eq_true h2⟩
 .rintro⟨p,h1,h2⟩;exact⟨p,h1,decide_eq_true h2⟩
theorem V4{F:Hp}{k:κ}{d:D}{v:V}(hd:Rep K F d v)(kvs:List (κ×V))(ds:List D)(r:Reps K F ds (kvs.map (·.2))):
  (Qa kvs k v).map (·.1)=(Wm (kvs.map (·.1)) ds k d).1/\Reps K F (Wm (kvs.map (·.1)) ds k d).2 ((Qa kvs k v).map (·.2)):=by
 unfold Qa Wm;by_cases h:k∈kvs.map (·.1)
 .rw[if_pos h,if_pos ((Df k kvs).mpr h)];exact⟨Zef kvs,De hd kvs ds r⟩
 .rw[if_neg h,if_neg λz=>h ((Df k kvs).mp z),b4,b4];exact⟨rfl,r.snoc hd⟩
end
theorem M7{F H:Hp}{d:D}{k:Key}{y:V}(e:d.key? =aA k)(r:Yh K F H d y):y=kV k:=by
 cases d with
 |int i=>cases e;exact r.int
 |str x=>cases e;exact r.str
 |_=>cases e
theorem Zin{F:Hp}{d:D}{k:Key}{y:V}(e:d.key? =aA k)(r:Rep K F d y):y=kV k:=M7 (H:=F) e (Yh.of r)
theorem Mf{F:Hp}:∀{ds:List D} {ks:List Key} {vs:List V},keys? ds=aA ks->Reps K F ds vs->vs=ks.map kV
 | [],_,_,e,r=>by cases e;cases r;rfl
 |d::ds,_,_,e,r=>by
  cases r with
  |cons h t=>obtain⟨k,e1,e2⟩:=aa.mp e;obtain⟨t',e3,e4⟩:=aa.mp e2;cases e4;rw[Zin e1 h,Mf e3 t];rfl
theorem Yh.tupH{F H:Hp}{xs:List D}{v:V}(le:Zl F H)(h:Yh K F H (.tup xs) v):∃a vs,v= .ref a/\H a=aA (.tup vs)/\Reps K F xs vs:=by
 obtain⟨sv,ns,e,n,sh,hp⟩:=h;cases sh with
 |fz r=>cases e;cases r with|tup h r=>exact⟨_,_,rfl,le _ _ h,r⟩
 |ol r=>cases e
 |oK e' r=>cases e
 |oT kb e' r=>cases e
 |oN e' r=>cases n
 |oR e' r=>cases n
 |oX kb' e' r=>cases n
 |oD r=>cases n
 |oM kb' e' r=>cases n
 |oL _ r=>cases n
 |oQ e' r=>cases e
@[simp]def V5:D->D->Option (Option D)
 | .dK ks vs,d=>d.key?.bind λk=>aA (Yk ks vs k)
 | .dT ks vs,.tup xs=>(keys? xs).bind λk=>aA (Yk ks vs k)
 |_,_=>aB
theorem A8{F H:Hp}{d1 d2:D}{x y:V}{o:Option D}(le:Zl F H)(e:V5 d1 d2=aA o)(r1:Yh K F H d1 x)(r2:Yh K F H d2 y):
  ∃a,x= .ref a/\IsD H a/\match o with
   |some d=>∃v,O4 H a y (aA v)/\Rep K F d v
   |none=>O4 H a y aB:=by
 unfold V5 at e;split at e
 .obtain⟨k,e1,e2⟩:=aa.mp e;obtain⟨a,kvs,rfl,ha,rfl,rr⟩:=r1.dK le;refine⟨a,rfl,.inl ⟨kvs,ha.rd⟩,?_⟩;rw[M7 e1 r2];have z:=Lu k kvs _ rr;have g:=O4.k (k:=k) ha;rw[dz.inj e2]at z;cases o with
  |none=>rw[show Jx kvs k=aB from z]at g;exact g
  |some d=>obtain⟨v,z1,z2⟩:=z;rw[z1]at g;exact⟨v,g,z2⟩
 .obtain⟨k,e1,e2⟩:=aa.mp e;obtain⟨a,kvs,rfl,ha,rfl,rr⟩:=r1.dT le;obtain⟨b,vs,rfl,hb,rb⟩:=r2.tupH le;refine⟨a,rfl,.inr ⟨kvs,ha.rd⟩,?_⟩;rw[Mf e1 rb]at hb;have z:=Lu k kvs _ rr;have g:=O4.t ha hb;rw[dz.inj e2]at z;cases o with
  |none=>rw[show Jx kvs k=aB from z]at g;exact g
  |some d=>obtain⟨v,z1,z2⟩:=z;rw[z1]at g;exact⟨v,g,z2⟩
 .cases e
section
variable{Z:Ent K}
@[simp]def Zeg(d1 d2:D):Option SV:=(V5 d1 d2).bind λo=>o.bind λd=>some (.fz d)
theorem Znr:Yr Z Zrk Zeg:=by intro F H σ δ own x y d1 d2 sv Q s r1 r2 e k;obtain⟨o,e1,e2⟩:=aa.mp e;obtain⟨d,e3,e4⟩:=aa.mp e2;cases e4;subst e3;obtain⟨a,rfl,_,v,g,rv⟩:=A8 s.le e1 r1 r2;exact⟨a,v,rfl,g,k.fz s rv⟩
@[simp]def Zrl(d1 d2:D):Option SV:=(V5 d2 d1).bind λo=>some (.fz (.bl o.isSome))
@[simp]def Dg(d1 d2:D):Option SV:=(V5 d2 d1).bind λo=>some (.fz (.bl (!o.isSome)))
theorem Zns:Yr Z Zee Zrl:=by
 intro F H σ δ own x y d1 d2 sv Q s r1 r2 e k;obtain⟨o,e1,e2⟩:=aa.mp e;cases e2;obtain⟨a,rfl,_,g⟩:=A8 s.le e1 r2 r1;cases o with
 |none=>exact⟨a,aB,rfl,g,k.fz s (.bl _)⟩
 |some d=>obtain⟨v,g,_⟩:=g;exact⟨a,aA v,rfl,g,k.fz s (.bl _)⟩
theorem Zbb:Yr Z Me Dg:=by
 intro F H σ δ own x y d1 d2 sv Q s r1 r2 e k;obtain⟨o,e1,e2⟩:=aa.mp e;cases e2;obtain⟨a,rfl,_,g⟩:=A8 s.le e1 r2 r1;cases o with
 |none=>exact⟨a,aB,rfl,g,k.fz s (.bl _)⟩
 |some d=>obtain⟨v,g,_⟩:=g;exact⟨a,aA v,rfl,g,k.fz s (.bl _)⟩
@[simp]noncomputable def D.isD:D->Bool
 | .dK _ _=>aC| .dT _ _=>aC|_=>aD
@[simp]def Wh(d1 d2:D):Option SV:=if d1.isD=true then Zeg d1 d2 else ixD d1 d2
@[simp]def inX(d1 d2:D):Option SV:=if d2.isD=true then Zrl d1 d2 else inD d1 d2
@[simp]def V6(d1 d2:D):Option SV:=if d2.isD=true then Dg d1 d2 else V2 d1 d2
theorem Zbc{H:Hp}{σ:L2.St}{Q:VK}{fa fb:FE}{g g1 g2':D->D->Option SV}(hg:∀d1 d2 sv,g d1 d2=aA sv->g1 d1 d2=aA sv\/g2' d1 d2=aA sv)(h:Ze Z (Zg g fa fb) σ H Q):Ze Z (Zg g1 fa fb) σ H Q\/Ze Z (Zg g2' fa fb) σ H Q:=by
 obtain⟨F,δ,own,rv,δ',s,e,k⟩:=h;obtain⟨⟨rvs,δ1⟩,e1,e2⟩:=aa.mp e;obtain⟨ds,e3,e4⟩:=aa.mp e2;obtain⟨sv,e5,e6⟩:=aa.mp e4;have:(g2 g1) ds=aA sv\/(g2 g2') ds=aA sv:=by
  unfold g2 at e5⊢;split at e5
  .exact hg _ _ _ e5
  .cases e5
 rcases this with z|z
 .exact .inl ⟨F,δ,own,rv,δ',s,aa.mpr ⟨_,e1,aa.mpr ⟨_,e3,aa.mpr ⟨_,z,e6⟩⟩⟩,k⟩
 .exact .inr ⟨F,δ,own,rv,δ',s,aa.mpr ⟨_,e1,aa.mpr ⟨_,e3,aa.mpr ⟨_,z,e6⟩⟩⟩,k⟩
theorem Zrm:Yr Z (λx y H Q=>(∃i j,x= .str i/\y= .str j/\Q (.bl (!(ci j i 0 j.length 1).isEmpty)) H)\/Zee x y H Q) inX:=by
 intro F H σ δ own x y d1 d2 sv Q s r1 r2 e k;unfold inX at e;split at e
 .exact .inr (Zns F H σ δ own x y d1 d2 sv Q s r1 r2 e k)
 .exact .inl (Zua F H σ δ own x y d1 d2 sv Q s r1 r2 e k)
theorem Zeh:Yr Z (λx y H Q=>(∃i j,x= .str i/\y= .str j/\Q (.bl (!(!(ci j i 0 j.length 1).isEmpty))) H)\/Me x y H Q) V6:=by
 intro F H σ δ own x y d1 d2 sv Q s r1 r2 e k;unfold V6 at e;split at e
 .exact .inr (Zbb F H σ δ own x y d1 d2 sv Q s r1 r2 e k)
 .exact .inl (Zii F H σ δ own x y d1 d2 sv Q s r1 r2 e k)
end
section
variable{X:Cx}{Z:Ent X.K}{a b c:b7}{fa fb fc:FE}{pos:Pos}
theorem Z0(hu:X.A.units+1<fq)(ha:PE X a (Ze Z fa))(hb:PE X b (Ze Z fb))(hs:Hk b:=by intro _ _;rfl):PE X (.Subscript a b pos) (Ze Z (Zg Wh fa fb)):=λpins s σ H Q I h=>by
 rcases Zbc (g1:=Zeg) (g2':=ixD) (λd1 d2 sv e=>by
  unfold Wh at e;split at e
  .exact .inl e
  .exact .inr e) h with h|h
 .exact Zho hu ha hb hs pins s σ H Q I (N7 Znr h)
 .exact Zqd Zmu ha hb hs pins s σ H Q I (N7 Zt4 h)
end
end DL
namespace L2
open PySem PySem.Spec PyProof.Rows
variable{X:Cx}
def Zei:V->List V->Hp->VK->Prop:=λx xs H Q=>∃a,x= .ref a/\((∃y o,xs=[y]/\O4 H a y o/\Q (o.getD .non) H)\/(∃y z o,xs=[y,z]/\O4 H a y o/\Q (o.getD z) H))
theorem Zio(hu:X.A.units+1<fq):MtR X "dict.get" Zei:=by
 intro pins s σ H x xs v us Q I rx rs h;obtain⟨a,rfl,h⟩:=h;cases rx;rcases h with⟨y,o,rfl,g,q⟩|⟨y,z,o,rfl,g,q⟩
 .obtain⟨u,rfl,ru⟩:=Jw rs;exact Zmx hu I g ru λw' s' I' r'=>⟨_,H,I',r',q⟩
 .obtain⟨u,w',rfl,r1,r2⟩:=Zkp rs;exact Zmy hu I g r1 r2 λw' s' I' r'=>⟨_,H,I',r',q⟩
end L2
namespace DL
open PySem PySem.Spec PyProof.Rows L2
variable{K:ad}
section
variable{Z:Ent K}{H:Hp}{σ:L2.St}{Q:VK}{E:Ends}
@[simp]def Ka:FE:=λδ=>some (.tmp (.oK [] []),δ)
theorem Zip(h:Ze Z Ka σ H Q):Vl σ H Q:=by obtain⟨F,δ,own,rv,δ',s,e,k⟩:=h;cases e;intro p hp;have f:Fin Z F H σ δ own (.oK [] []) Q:=λv H' F' ns a b c t=>k v H' F' own a b c ⟨ns,t⟩;exact f.one s (.oK (kvs:=[]) rfl .nil) hp
@[simp]noncomputable def SV.isOD:Option (Option SV)->Bool
 |some (aA (.oK _ _))=>aC
 |some (aA (.oT _ _))=>aC
 |some (aA (.oQ _ _ _))=>aC
 |_=>aD
@[simp]def Zrn(kd d:D):Option (Option SV)->Option SV
 |some (aA (.oK ks vs))=>kd.key?.bind λk=>if vs.length<bv then aA (.oK (Wm ks vs k d).1 (Wm ks vs k d).2)else aB
 |some (aA (.oT ks vs))=>match kd with
  | .tup xs=>(keys? xs).bind λk=>if vs.length<bv then aA (.oT (Wm ks vs k d).1 (Wm ks vs k d).2)else aB
  |_=>aB
 |some (aA (.oQ q ks vs))=>kd.key?.bind λk=>if vs.length<bv then aA (.oQ q (Wm ks vs k d).1 (Wm ks vs k d).2)else aB
 |_=>aB
@[simp]def Oo(i:Nat)(fk fv:FE):FS:=λδ=>(fv δ).bind λp=>(frz p.1 p.2).bind λq=>if SV.isOD (q.2[i]?)=true then(fk q.2).bind λr=>(rdv r.1 r.2).bind λkd=>(Zrn kd q.1 (r.2[i]?)).bind λsv=>some (.nx (r.2.set i (some sv)))else none
theorem Zej{F:Hp}{ks:List Key}{ds:List D}{v:V}{ns:Zo}(h:Shape K F (.oK ks ds) v ns):∃a kvs ep,v= .ref a/\ns=[(a,.dK kvs ep)]/\kvs.map (·.1)=ks/\Reps K F ds (kvs.map (·.2)):=by
 cases h with
 |oK e r=>exact⟨_,_,_,rfl,rfl,e,r⟩
theorem Pt{F:Hp}{q:ak}{ks:List Key}{ds:List D}{v:V}{ns:Zo}(h:Shape K F (.oQ q ks ds) v ns):∃kvs ep,v= .ref q/\ns=[(q,.dK kvs ep)]/\kvs.map (·.1)=ks/\Reps K F ds (kvs.map (·.2)):=by
 cases h with
 |oQ e r=>exact⟨_,_,rfl,rfl,e,r⟩
theorem Zek{F:Hp}{ks:List (List Key)}{ds:List D}{v:V}{ns:Zo}(h:Shape K F (.oT ks ds) v ns):∃a kvs ep bs,v= .ref a/\ns=[(a,.dT kvs ep bs)]/\KB F kvs bs/\kvs.map (·.1)=ks/\Reps K F ds (kvs.map (·.2)):=by
 cases h with
 |oT kb e r=>exact⟨_,_,_,_,rfl,rfl,kb,e,r⟩
theorem KB.put{F:Hp}{kvs:List (List Key×V)}{bs:List ak}{k:List Key}{b:ak}{v:V}(h:KB F kvs bs)(hb:F b=aA (.tup (k.map kV))):KB F (Qa kvs k v) (Nr kvs bs k b):=by
 unfold Qa Nr;split
 .unfold KB at*;clear hb;rename_i hq;clear hq;induction h with
  |nil=>exact .nil
  | @cons p c ps cs h1 t ih=>
   rw[ay];refine .cons ?_ ih;by_cases e:p.1=k
   .rw[if_pos e];exact h1
   .rw[if_neg e];exact h1
 .exact Paired.snoc h hb
theorem Yh.tupF{F H:Hp}{xs:List D}{v:V}(h:Yh K F H (.tup xs) v):∃a vs,v= .ref a/\F a=aA (.tup vs)/\Reps K F xs vs:=by
 obtain⟨sv,ns,e,n,sh,hp⟩:=h;cases sh with
 |fz r=>cases e;cases r with|tup h r=>exact⟨_,_,rfl,h,r⟩
 |ol r=>cases e
 |oK e' r=>cases e
 |oT kb e' r=>cases e
 |oN e' r=>cases n
 |oR e' r=>cases n
 |oX kb' e' r=>cases n
 |oD r=>cases n
 |oM kb' e' r=>cases n
 |oL _ r=>cases n
 |oQ e' r=>cases e
theorem Ziq{o:Option (Option SV)}(h:SV.isOD o=aC):∃sv,o=aA (aA sv):=by
 unfold SV.isOD at h;split at h
 .exact⟨_,rfl⟩
 .exact⟨_,rfl⟩
 .exact⟨_,rfl⟩
 .cases h
theorem Zro{i:Nat}{fk fv:FE}(h:Zx Z (Oo i fk fv) E σ H):Zku (Mz i) (Ze Z fk) (Ze Z fv) E σ H:=by
 obtain⟨F,δ,own,fl,s,e,k⟩:=h;obtain⟨⟨rv,δ1⟩,e1,e⟩:=aa.mp e;obtain⟨⟨d,δ2⟩,e2,e⟩:=aa.mp e;dsimp only at e;split at e
 .rename_i hod;obtain⟨⟨rk,δ3⟩,e3,e⟩:=aa.mp e;obtain⟨kd,e4,e⟩:=aa.mp e;obtain⟨sv,e5,e⟩:=aa.mp e;cases e;refine⟨F,δ,own,rv,δ1,s,e1,λv H1 F1 own1 sH1 sF1 s1 r1=>?_⟩;obtain⟨F2,sF2,s2,r2⟩:=s1.settleR r1;obtain⟨F3,own3,sF3,s3,r3⟩:=s2.frzR r2 e2;obtain⟨sv0,hsv0⟩:=Ziq hod;obtain⟨x,hx,_⟩:=s3.at' i sv0 hsv0;refine⟨x,hx,F3,δ2,own3,rk,δ3,s3,e3,λy H4 F4 own4 sH4 sF4 s4 r4=>?_⟩;obtain⟨F5,sF5,s5,r5⟩:=s4.settleR r4;have rk':=s5.rd r5 e4;have rd:Rep K F5 d v:=r3.mono (sF4.trans sF5);have sF:Zl F F5:=sF1.trans (sF2.trans (sF3.trans (sF4.trans sF5)));dsimp only at e5;generalize ho:δ3[i]? =o at e5;unfold Zrn at e5;split at e5
  .rename_i ks vs;obtain⟨kk,f1,f2⟩:=aa.mp e5;split at f2
   .rename_i hz;cases f2;obtain⟨x',hx',sh⟩:=s5.at' i _ ho;rw[hx]at hx';cases hx';obtain⟨a,kvs,ep0,ea,en,rfl,rr⟩:=Zej sh;subst ea;have mb:(a,HO.dK kvs ep0)∈own4 i:=by rw[en];exact af
    have hH:=(s5.ok i _ mb).2.2;have z:=V4 (k:=kk) rd kvs vs rr;refine⟨a,rfl,?_⟩;rw[M7 f1 rk'];refine Lc.k ⟨_,hH⟩ (by rw[<-rr.length_map];exact hz) λep=>?_;exact k σ _ F5 _ sF (s5.change (sv':=.oK (Wm (kvs.map (·.1)) vs kk d).1 (Wm (kvs.map (·.1)) vs kk d).2) (o':=.dK (Qa kvs kk v) ep) (ns':=[(a,.dK (Qa kvs kk v) ep)]) ho hx mb (.oK z.1 z.2) (λp hp=>.inl (aq.mp hp)) Nl)
   .cases f2
  .rename_i ks vs;split at e5
   .rename_i xs;obtain⟨kk,f1,f2⟩:=aa.mp e5;split at f2
    .rename_i hz;cases f2;obtain⟨x',hx',sh⟩:=s5.at' i _ ho;rw[hx]at hx';cases hx';obtain⟨a,kvs,ep0,bs0,ea,en,kb,rfl,rr⟩:=Zek sh;subst ea;have mb:(a,HO.dT kvs ep0 bs0)∈own4 i:=by rw[en];exact af
     have hH:=(s5.ok i _ mb).2.2;have z:=V4 (k:=kk) rd kvs vs rr;obtain⟨b,us,rfl,hbF,rb⟩:=rk'.tupF;rw[Mf f1 rb]at hbF;refine⟨a,rfl,Lc.t ⟨_,_,hH⟩ (s5.le _ _ hbF) (by rw[<-rr.length_map];exact hz) λep ep1 bs1 hq=>?_⟩;rw[hH]at hq;cases hq;exact k σ _ F5 _ sF (s5.change (sv':=.oT (Wm (kvs.map (·.1)) vs kk d).1 (Wm (kvs.map (·.1)) vs kk d).2) (o':=.dT (Qa kvs kk v) ep (Nr kvs bs0 kk b)) (ns':=[(a,.dT (Qa kvs kk v) ep (Nr kvs bs0 kk b))]) ho hx mb (.oT (kb.put hbF) z.1 z.2) (λp hp=>.inl (aq.mp hp)) Nl)
    .cases f2
   .cases e5
  .rename_i q ks vs;obtain⟨kk,f1,f2⟩:=aa.mp e5;split at f2
   .rename_i hz;cases f2;obtain⟨x',hx',sh⟩:=s5.at' i _ ho;rw[hx]at hx';cases hx';obtain⟨kvs,ep0,ea,en,rfl,rr⟩:=Pt sh;subst ea;have mb:(q,HO.dK kvs ep0)∈own4 i:=by rw[en];exact af
    have hH:=(s5.ok i _ mb).2.2;have z:=V4 (k:=kk) rd kvs vs rr;refine⟨q,rfl,?_⟩;rw[M7 f1 rk'];refine Lc.k ⟨_,hH⟩ (by rw[<-rr.length_map];exact hz) λep=>?_;exact k σ _ F5 _ sF (s5.change (sv':=.oQ q (Wm (kvs.map (·.1)) vs kk d).1 (Wm (kvs.map (·.1)) vs kk d).2) (o':=.dK (Qa kvs kk v) ep) (ns':=[(q,.dK (Qa kvs kk v) ep)]) ho hx mb (.oQ z.1 z.2) (λp hp=>.inl (aq.mp hp)) Nl)
   .cases f2
  .cases e5
 .cases e
@[simp]def Zir(T:String)(g:D->List D->Option SV)(fo:FE)(fd:FD):FE:=λδ=>(fo δ).bind λp=>(rdv p.1 p.2).bind λd0=>if Zia T d0=true then(fd p.2).bind λq=>(rdv p.1 q.2).bind λd1=>(g d1 q.1).bind λsv=>some (.tmp sv,q.2)else none
def Zld(Z:Ent K)(r:V->List V->Hp->VK->Prop)(g:D->List D->Option SV):Prop:=
 ∀(F H:Hp) (σ:L2.St) (δ:Yw) (own:Nat->Zo) (x:V) (d:D) (vs:List V) (ds:List D) (sv:SV) (Q:VK),SR Z F H σ δ own->Yh K F H d x->Reps K F ds vs->g d ds=aA sv->Fin Z F H σ δ own sv Q->r x vs H Q
theorem Zrp{T:String}{r:V->List V->Hp->VK->Prop}{g:D->List D->Option SV}{fo:FE}{fd:FD}(hg:Zld Z r g)(h:Ze Z (Zir T g fo fd) σ H Q):tBM K T r (Ze Z fo) (Jy Z fd) σ H Q:=by
 obtain⟨F,δ,own,rv,δ',s,e,k⟩:=h;obtain⟨⟨rv1,δ1⟩,e1,e⟩:=aa.mp e;obtain⟨d0,e2,e⟩:=aa.mp e;dsimp only at e;split at e
 .rename_i ht;obtain⟨⟨ds,δ2⟩,e3,e⟩:=aa.mp e;obtain⟨d1,e4,e⟩:=aa.mp e;obtain⟨sv,e5,e⟩:=aa.mp e;cases e;refine⟨F,δ,own,rv1,δ1,s,e1,λv H1 F1 own1 sH1 sF1 s1 r1=>?_⟩;obtain⟨F1',sF1',s1',r1'⟩:=s1.settleR r1;refine⟨Zk6 s1'.le (s1'.rd r1' e2) ht,F1',δ1,own1,ds,δ2,s1',e3,λvs H2 F2 own2 sH2 sF2 s2 r2=>?_⟩;exact hg F2 H2 σ δ2 own2 v d1 vs ds sv Q s2 (s2.rd (r1'.mono sF2) e4) r2 e5 λq H4 F4 ns sH4 sF4 s4 t4=>
   k q H4 F4 own2 (sH1.trans (sH2.trans sH4)) (sF1.trans (sF1'.trans (sF2.trans sF4))) s4 ⟨ns,t4⟩
 .cases e
@[simp]def A9:D->List D->Option SV
 |d,[y]=>(V5 d y).bind λo=>aA (.fz (o.getD .non))
 |d,[y,z]=>(V5 d y).bind λo=>aA (.fz (o.getD z))
 |_,_=>aB
theorem Zis:Zld Z Zei A9:=by
 intro F H σ δ own x d vs ds sv Q s r1 r2 e k;unfold A9 at e;split at e
 .obtain⟨o,e1,e2⟩:=aa.mp e;cases e2;cases r2 with
  |cons h t=>
   cases t;obtain⟨a,rfl,_,g⟩:=A8 s.le e1 r1 (Yh.of h);cases o with
   |none=>exact⟨a,rfl,.inl ⟨_,aB,rfl,g,k.fz s .non⟩⟩
   |some d=>obtain⟨v,g,rv⟩:=g;exact⟨a,rfl,.inl ⟨_,aA v,rfl,g,k.fz s rv⟩⟩
 .obtain⟨o,e1,e2⟩:=aa.mp e;cases e2;cases r2 with
  |cons h t=>
   cases t with
   |cons h2 t=>
    cases t;obtain⟨a,rfl,_,g⟩:=A8 s.le e1 r1 (Yh.of h);cases o with
    |none=>exact⟨a,rfl,.inr ⟨_,_,aB,rfl,g,k.fz s h2⟩⟩
    |some d=>obtain⟨v,g,rv⟩:=g;exact⟨a,rfl,.inr ⟨_,_,aA v,rfl,g,k.fz s rv⟩⟩
 .cases e
end
section
variable{X:Cx}{Z:Ent X.K}{a b c:b7}{fa fb fc:FE}{pos:Pos}
theorem Ai:PE X (.Dict [] [] pos) (Ze Z Ka):=N1.imp λ_ _ _ h=>Zip h
theorem Zel{apos cpos:Pos}{es:List b7}{fd:FD}(hu:X.A.units+1<fq)(ha:PE X a (Ze Z fa))(hb:PA X (b::es) (Jy Z fd))(hbase:attributeBase a "get" X.env (dk a X.env)=dk a X.env:=by rfl)
  (hfew:((dj cpos (av (b::es) X.env)).all (λx=>!x.1)&&(backToKw cpos (keywordEach [] X.env)).all (λx=>x.1.isSome)&&decide ((b::es).length+([]:List Keyword).length+(if([]:List Keyword).isEmpty then 0 else 1)<30))=aC:=by rfl)
  (hline:(apos.endLine==cpos.line)=aC:=by rfl) (hs:av (b::es) X.env=(aD,dk b X.env)::av es X.env:=by rfl) (hpl:(dj cpos (av es X.env)).any (·.1)=aD:=by rfl):
  PE X (.Call (.Attribute a "get" apos) (b::es) [] cpos) (Ze Z (Zir "dict" A9 fa fd)):=
 (R1 PySem.F.plainAttrs_dict PySem.F.slot_dict_get PySem.F.type_dict_get (Zio hu) ha hb hbase hfew hline hs hpl).imp λ_ _ _ h=>Zrp Zis h
theorem T3(i:Nat){x:Str}{px p1:Pos}(hu:X.A.units+1<fq)(hb:PE X b (Ze Z fb))(hv':PE X a (Ze Z fa))(hN:X.N[i]? =aA x:=by rfl)(hv:Vb X.env.scope x:=by first|exact Or.inl rfl|exact fg (Or.inl rfl)|exact fg (fg rfl))(hd:(x==("__debug__":Str))=aD:=by decide)
  (hcd:(x==("__classdict__":Str))=aD:=by decide) (hs:swapsWith a (aA (.Subscript (.Name x px) b p1)) pos.line X.env=pure aD:=by rfl):
  PS X (.Assign [.Subscript (.Name x px) b p1] a pos) (Zx Z (Oo i fb fa)):=(Zhp hu (On (i:=i) hN hv hd hcd) hb hv' hs).imp λ_ _ _ h=>Zro h
end
end DL
namespace L2
open PySem PySem.Spec PyProof.Rows
variable{X:Cx}
def Dh:List V->Hp->VK->Prop:=λxs H Q=>∃a kvs,xs=[.ref a]/\RdK H a kvs/\∀p ep,H p=aB->Q (.ref p) (Y7 H p (.dK kvs ep))
theorem Pu:Je X (.type "dict") Dh:=by intro pins s σ H xs us Q I rs h;obtain⟨a,kvs,rfl,e,q⟩:=h;obtain⟨u,rfl,ru⟩:=Jw rs;cases ru;exact Zc9 I e λp ep s' hp I'=>⟨.ref p,_,I',rfl,q p ep hp⟩
end L2
namespace DL
open PySem PySem.Spec PyProof.Rows L2
variable{K:ad}
section
variable{Z:Ent K}{H:Hp}{σ:L2.St}{Q:VK}{E:Ends}
@[simp]noncomputable def Pv:List D->Option SV
 | [.dK ks vs]=>aA (.oK ks vs)
 |_=>aB
theorem Zem:O7 Z Dh Pv:=by
 intro F H σ δ own vs ds sv Q s r e k;unfold Pv at e;split at e
 .cases e;cases r with
  |cons h t=>cases t;obtain⟨a,kvs,rfl,ha,ek,rr⟩:=h.dK s.le;exact⟨a,kvs,rfl,ha.rd,λp ep hp=>k.one s (.oK ek rr) hp⟩
 .cases e
end
section
variable{X:Cx}{Z:Ent X.K}{a b c:b7}{fa fb fc:FE}{pos:Pos}
theorem Zen{p:Pos}(hm:X.mg "dict"=aB)(ha:PE X a (Ze Z fa))(hg:Gl X "dict":=by rfl)(he:av [a] X.env=(aD,dk a X.env)::av [] X.env:=by rfl)(hpl:(dj pos (av [] X.env)).any (·.1)=aD:=by rfl):PE X (.Call (.Name "dict" p) [a] [] pos) (Ze Z (Yg Pv (Zc fa Zj))):=
 Mc Pu Zem hm boot_dict (Zn ha Ys he) hg (by decide) (by decide) he hpl
end
end DL
namespace L2
open PySem PySem.Spec PyProof.Rows
section
variable{prog:b5}{w:cw}{A:c8}{E:ag->ap->Prop}{s:ap}
theorem V7{Q:Int->ap->Prop}(h:Q 0xFCA86420 {s with toks:=s.toks+1}):br (cg prog w) A (pyHash .none) Q E s:=by have hT:s.TypeIs .none "NoneType":=rfl;refine PySem.W.pyHash_slot (v:=.none) (Q:=Q) hT F.slot_NoneType_hash F.entry_NoneType_hash (F.args_NoneType_hash_1 _) rfl (.inl rfl) ?_;show br (cg prog w) A.in1 (mkInt 0xFCA86420 >>=λv=>ret v) _ E s;refine ac (wpAny_mkInt ?_);exact ao ⟨_,_,rfl,h⟩
end
def Zeo:Option Key->ag->Bool
 |none,.none=>aC
 |none,_=>aD
 |some k,v=>Cj k v
theorem Wb{k:Option Key}{v:ag}(h:Zeo k v=aC):(k=aB/\v= .none)\/∃j,k=aA j/\Cj j v=aC:=by
 cases k with
 |none=>cases v<;> first|exact .inl ⟨rfl,rfl⟩|cases h
 |some j=>exact .inr ⟨j,rfl,h⟩
theorem Ea{j:Key}(h:Cj j .none=aC):False:=by rcases Z7 h with⟨i,t,_,e⟩|⟨x,t,_,e⟩<;> cases e
def Lv(prog:b5)(w:cw):PySem.KeyKind prog w (Option Key)where
 is:=Zeo
 hash:=λ|none=>0xFCA86420|some k=>(Zs prog w).hash k
 inj:=λv a b ha hb=>by
  rcases Wb ha with⟨rfl,rfl⟩|⟨i,rfl,hi⟩
  .rcases Wb hb with⟨rfl,_⟩|⟨j,rfl,hj⟩
   .rfl
   .exact(Ea hj).elim
  .rcases Wb hb with⟨rfl,rfl⟩|⟨j,rfl,hj⟩
   .exact(Ea hi).elim
   .rw[(Zs prog w).inj v i j hi hj]
 byValue:=λk v h=>by
  rcases Wb h with⟨rfl,rfl⟩|⟨i,rfl,hi⟩
  .rfl
  .exact(Zs prog w).byValue i v hi
 pyHash:=fun{A E s k v Q} hv h=>by
  rcases Wb hv with⟨rfl,rfl⟩|⟨i,rfl,hi⟩
  .exact V7 h
  .exact(Zs prog w).pyHash hi h
 eqBool:=fun{A E s a b u v Q} hu hv h=>by
  rcases Wb hu with⟨rfl,rfl⟩|⟨i,rfl,hi⟩
  .rcases Wb hv with⟨rfl,rfl⟩|⟨j,rfl,hj⟩
   .exact SeqAt.EqAt.same _ _ _ _ _ (by simpa using h)
   .rw[decide_eq_false (λz=>nomatch z)]at h;rcases Z7 hj with⟨i,t,rfl,rfl⟩|⟨x,t,rfl,rfl⟩
    .exact SeqAt.EqAt.none_int i t _ _ _ _ h
    .exact SeqAt.EqAt.none_str x t _ _ _ _ h
  .rcases Wb hv with⟨rfl,rfl⟩|⟨j,rfl,hj⟩
   .rw[decide_eq_false (λz=>nomatch z)]at h;rcases Z7 hi with⟨i,t,rfl,rfl⟩|⟨x,t,rfl,rfl⟩
    .exact SeqAt.EqAt.int_none i t _ _ _ _ h
    .exact SeqAt.EqAt.str_none x t _ _ _ _ h
   .refine(Zs prog w).eqBool hi hj ?_;have e:decide (aA i=aA j)=decide (i=j):=by simp
    rw[<-e];exact h
 «strs»:=λk x t v h=>by
  rcases Wb h with⟨rfl,e⟩|⟨i,rfl,hi⟩
  .cases e
  .exact(Zs prog w).strs i x t v hi
variable{X:Cx}
theorem Di{P:b5}{w:cw}{h:du}{a:ak}{vs:List (Key×ag)}(d:h.DictOf (Zs P w) a vs):h.MapOf (Lv P w) a (λ|none=>aB|some k=>valueAt vs k):=by
 obtain⟨o,es,ep,ho,hc,hd,hk,hf⟩:=d.mapOf;refine⟨o,es,ep,ho,hc,hd,λe he=>?_,λk=>?_⟩
 .obtain⟨k,h1,h2⟩:=hk e he;exact⟨aA k,h1,h2⟩
 .cases k with
  |some k=>exact hf k
  |none=>
   show(es.find? λe=>Zeo aB e.key).map (·.val)=aB;rw[Array.find?_eq_none.mpr λe he z=>?_]
   .rfl
   .obtain⟨k,h1,_⟩:=hk e he;rcases Wb z with⟨_,e2⟩|⟨j,e2,_⟩
    .rw[e2]at h1;exact Ea h1
    .cases e2
def M8(neg:Bool):R2:=λy x H Q=>∃a kvs,y= .non/\x= .ref a/\RdK H a kvs/\Q (.bl neg) H
theorem Kb:U5 X (df .In) (M8 aD):=by intro pins s σ H y x v u Q I ry rx h;obtain⟨a,kvs,rfl,rfl,e,q⟩:=h;cases ry;cases rx;obtain⟨z,hd,vs,rel,dd⟩:=Co I.hok e;exact wpAny_in_of (knd:=Lv X.prog X.w) (k:=aB) rfl hd (Di dd) ⟨.bl aD,H,I.tok _,rfl,q⟩
theorem Mg:U5 X (df .NotIn) (M8 aC):=by intro pins s σ H y x v u Q I ry rx h;obtain⟨a,kvs,rfl,rfl,e,q⟩:=h;cases ry;cases rx;obtain⟨z,hd,vs,rel,dd⟩:=Co I.hok e;exact wpAny_notIn_of (knd:=Lv X.prog X.w) (k:=aB) rfl hd (Di dd) ⟨.bl aC,H,I.tok _,rfl,q⟩
end L2
namespace L2
open PySem PySem.Spec PyProof.Rows
def Lw(es:Array DictEntry)(kvs:List (Str×ag)):Prop:=es.size=kvs.length/\∀(i:Nat) (p:Str×ag),kvs[i]? =aA p->∃e t,es[i]? =aA e/\e.key= .str p.1 t/\e.val=p.2
def Mh(h:du)(a:ak)(kvs:List (Str×ag)):Prop:=∃o es ep,h.get? a=aA o/\o.ExactDict/\o.data= .dict es ep/\Lw es kvs
noncomputable def place(kvs:List (Str×ag))(x:Str):Option Nat:=kvs.findIdx? λp=>decide (p.1=x)
theorem Lw.find{es:Array DictEntry}{kvs:List (Str×ag)}(h:Lw es kvs)(x:Str):(es.findIdx? λe=>e.key.isStr x)=place kvs x:=by
 unfold place;have hA:(es.findIdx? λe=>e.key.isStr x)=es.toList.findIdx? λe=>e.key.isStr x:=by obtain⟨l⟩:=es;simp
 rw[hA];have:∀(es:List DictEntry) (kvs:List (Str×ag)),es.length=kvs.length->(∀(i:Nat) (p:Str×ag),kvs[i]? =aA p->∃e t,es[i]? =aA e/\e.key= .str p.1 t/\e.val=p.2)->
   es.findIdx? (λe=>e.key.isStr x)=kvs.findIdx? λp=>decide (p.1=x):=by
  intro es;induction es with
  |nil=>intro kvs hl _;cases kvs with
   |nil=>rfl
   |cons p r=>cases hl
  |cons e es ih=>
   intro kvs hl hp;cases kvs with
   |nil=>cases hl
   |cons p r=>
    obtain⟨e',t,h1,h2,h3⟩:=hp 0 p rfl;obtain rfl:e=e':=by simpa using h1
    have hk:e.key.isStr x=decide (p.1=x):=by
     rw[h2];show(p.1==x)=_;by_cases z:p.1=x
     .rw[z];simp
     .rw[decide_eq_false z];exact beq_eq_false_iff_ne.mpr z
    rw[List.findIdx?_cons,List.findIdx?_cons,hk,ih r (by simpa using hl) (λi q hq=>hp (i+1) q (by simpa using hq))]
 exact this es.toList kvs (by rw[cq];exact h.1) (λi p hp=>by
  obtain⟨e,t,h1,h2⟩:=h.2 i p hp;exact⟨e,t,by rw[Array.getElem?_toList];exact h1,h2⟩)
section
variable{prog:b5}{w:cw}{A:c8}{E:ag->ap->Prop}{s:ap}
theorem Zbd{d:ak}{o:Obj}{es:Array DictEntry}{ep:Nat}{kvs:List (Str×ag)}{x:Str}{t:Tok}{n:Int}{Q:Option Nat->ap->Prop}(ho:s.heap.get? d=aA o)(hd:o.data= .dict es ep)(hp:Lw es kvs)(q:Q (place kvs x) s):
  br (cg prog w) A (dictFind d (.str x t) n) Q E s:=by
 have hall:(es.all λe=>isExactStrKey e.key)=aC:=by
  rw[Array.all_eq_true];intro i hi;have hi':i<kvs.length:=by rw[<-hp.1];exact hi
  obtain⟨e,t',h1,h2,_⟩:=hp.2 i kvs[i] (by simp[hi']);rw[Array.getElem?_eq_getElem hi]at h1;cases h1;rw[h2];rfl
 unfold dictFind
 try with_reducible refine wpAny_holding ?_
 refine ac (wpAny_dictEntries ho hd ?_);dsimp only;rw[if_pos hall];unfold foundByValue;rw[hp.find x];cases hj:place kvs x with
 |none=>rw[hj]at q;exact ao q
 |some j=>rw[hj]at q;obtain⟨hlt,hx,_⟩:=List.findIdx?_eq_some_iff_getElem.mp hj;obtain⟨e,t',h1,h2,h3⟩:=hp.2 j kvs[j] (by simp[hlt]);have hx':kvs[j].1=x:=of_decide_eq_true hx;rw[hx']at h2;dsimp only;rw[h1];dsimp only;refine ac (wpAny_dictEpoch ho hd ?_);rw[h2];refine ac (SeqAt.EqAt.str_str x t' x t prog w _ _ ?_);refine ac (wpAny_dictEpoch ho hd ?_);rw[if_neg (by simp)];simp only[beq_self_eq_true,if_true];exact ac (wpAny_rule (ao q))
end
inductive SHits(A:c8)(s:ap)(kb:List (Str×ag)):List (Str×ag)->Bool->Prop where
 |nil:SHits A s kb [] aC
 |miss {k:Str} {v:ag} {r:List (Str×ag)}:place kb k=aB->SHits A s kb ((k,v)::r) aD
 |hit {k:Str} {v:ag} {r:List (Str×ag)} {j:Nat} {p:Str×ag} {e b:Bool}:place kb k=aA j->kb[j]? =aA p->SeqAt.EqAt A s v p.2 e->SHits A s kb r b->SHits A s kb ((k,v)::r) (e&&b)
section
variable{prog:b5}{w:cw}{A:c8}{E:ag->ap->Prop}{s:ap}
theorem Eb{nm:String}{a b:ak}{ka kb:List (Str×ag)}{r:Bool}{Q:Bool->ap->Prop}(ha:(a==d3)=aD)(hb:(b==d3)=aD)(da:Mh s.heap a ka)(db:Mh s.heap b kb)
  (hits:ka.length=kb.length->SHits A s kb ka r) (q:Q (ka.length==kb.length&&r) s):br (cg prog w) A (Builtin.Dict.samePairs nm a b) Q E s:=by
 obtain⟨oa,es,ep,ga,_,dta,pa⟩:=da;obtain⟨ob,es',ep',gb,_,dtb,pb⟩:=db;have la:=pa.1;have lb:=pb.1;unfold Builtin.Dict.samePairs Builtin.Dict.showsAll;rw[if_neg (by rw[ha];exact ba),if_neg (by rw[hb];exact ba)];refine ac (ao (ac (ao (ac (wpAny_dictEntries ga dta ?_)))));refine ac (wpAny_dictEntries gb dtb ?_);by_cases hz:es.size=es'.size
 .have hl:ka.length=kb.length:=by omega
  have q':Q r s:=by simpa[hl]using q
  have hh:=hits hl;rw[if_neg (by rw[hz];simp)];refine ac (wpAny_dictEpoch ga dta (ac ?_));rw[Std.Legacy.Range.forIn_eq_forIn_range'];simp only[Std.Legacy.Range.size,Nat.sub_zero,Nat.add_sub_cancel,Nat.div_one];refine wpAny_forIn_list _ (λrest x s'=>s'=s/\x=(aB,())/\∃i,rest=List.range' i (es.size- i)/\i<=es.size/\SHits A s kb (ka.drop i) r) _ ?_ ?_ _ _ ⟨rfl,rfl,0,by simp,d8 _,hh⟩
  .rintro x rest y s' ⟨rfl,rfl,i,hr,hi,hS⟩;have hlt:i<es.size:=by
    rcases Nat.lt_or_ge i es.size with z|z
    .exact z
    .rw[Nat.sub_eq_zero_of_le z]at hr;cases hr
   rw[show es.size- i=(es.size- (i+1))+1 by omega,List.range'_succ]at hr;injection hr with hx hrest;subst hx;have hlk:x<ka.length:=by omega
   obtain⟨e,t,h1,h2,h3⟩:=pa.2 x ka[x] (by simp[hlk]);rw[List.drop_eq_getElem_cons hlk]at hS;refine ac (wpAny_dictEntries ga dta ?_);rw[h1];show br _ _ (holding [e.key,e.val] _ >>=_) _ _ _;rw[h2];refine ac (wpAny_holding (ac (Zbd gb dtb pb ?_)));generalize hk:ka[x]=p at hS h2 h3⊢;obtain⟨k,v⟩:=p;cases hS with
   |miss hn=>rw[hn];refine ao ?_;show br _ _ (if(!aD)=aC then _ else _) _ _ _;rw[if_pos (by decide)];exact ao (ao q')
   | @hit _ _ _ j p' eb bb hn hp he hr'=>
    rw[hn];obtain⟨f,t',g1,g2,g3⟩:=pb.2 j p' hp;refine ac (wpAny_dictEntries gb dtb ?_);rw[g1];rw[show e.val=v from h3];dsimp only;rw[g3];refine wpAny_holding (he prog w _ _ ?_);cases eb with
    |false=>rw[Bool.false_and]at q';show br _ _ (if(!aD)=aC then _ else _) _ _ _;rw[if_pos (by decide)];exact ao (ao q')
    |true=>show br _ _ (if(!aC)=aC then _ else _) _ _ _;rw[if_neg (by decide)];refine ac (wpAny_dictEpoch ga dta ?_);rw[if_neg (by simp)];exact ao ⟨rfl,rfl,x+1,hrest,hlt,by rw[Bool.true_and];exact hr'⟩
  .rintro x s' ⟨rfl,rfl,i,hr,hi,hS⟩;have e:i=es.size:=by
    rcases Nat.lt_or_ge i es.size with z|z
    .rw[show es.size- i=(es.size- (i+1))+1 by omega,List.range'_succ]at hr;cases hr
    .omega
   rw[e,la,List.drop_length]at hS;cases hS;exact ao q'
 .rw[if_pos (by simpa using hz)];have hf:(ka.length==kb.length)=aD:=by rw[<-la,<-lb];simpa using hz
  rw[hf,Bool.false_and]at q;exact ac (wpAny_rule (ao q))
end
section
variable{A:c8}{s:ap}{a b:ak}{ka kb:List (Str×ag)}{r:Bool}
theorem Mh.typeIs(d:Mh s.heap a ka):s.TypeIs (.ref a) "dict":=let⟨o,_,_,ho,hc,_⟩:=d;⟨o,ho,hc.1⟩
theorem Pw(ha:(a==d3)=aD)(hb:(b==d3)=aD)(da:Mh s.heap a ka)(db:Mh s.heap b kb)(hu:A.units<fq)(hits:ka.length=kb.length->SHits A.in1 s kb ka r):SeqAt.RcAt A s (.ref a) (.ref b) (ka.length==kb.length&&r):=λprog w E Q q=>by refine wpAny_richCompare_same_room (op:=.Eq) da.typeIs db.typeIs PySem.F.slot_dict_eq (dv PySem.F.slot_dict_eq da.typeIs PySem.F.entry_dict_eq ?_ (PySem.F.args_dict_eq_2 _ _)) hu;show br _ _ (Builtin.Dict.dictSlotArgs "__eq__" ⟨[.ref a,.ref b],[]⟩>>=_) _ _ s;refine ac ?_;unfold Builtin.Dict.dictSlotArgs;refine ac (wpAny_notOrdered_dict da.typeIs ?_);show br _ _ (pure (b9 a,b9 b)) _ _ s;refine ao (ac (wpAny_isInstance (T:="dict") db.typeIs PySem.F.sub_dict_dict ?_));simp only[Bool.not_true,c7,if_false];refine ac (ao (ac (ao (ac (Eb ha hb da db hits ?_)))));exact ao ⟨_,rfl,(λx=>nomatch x),by simpa using q⟩
theorem Ec(ha:(a==d3)=aD)(hb:(b==d3)=aD)(da:Mh s.heap a ka)(db:Mh s.heap b kb)(hu:A.units<fq)(hits:ka.length=kb.length->SHits A.in1 s kb ka r):SeqAt.RcNeAt A s (.ref a) (.ref b) (!(ka.length==kb.length&&r)):=λprog w E Q q=>by refine wpAny_richCompare_same_room (op:=.NotEq) da.typeIs db.typeIs PySem.F.slot_dict_ne (dv PySem.F.slot_dict_ne da.typeIs PySem.F.entry_dict_ne ?_ (PySem.F.args_dict_ne_2 _ _)) hu;show br _ _ (Builtin.Dict.dictSlotArgs "__ne__" ⟨[.ref a,.ref b],[]⟩>>=_) _ _ s;refine ac ?_;unfold Builtin.Dict.dictSlotArgs;refine ac (wpAny_notOrdered_dict da.typeIs ?_);show br _ _ (pure (b9 a,b9 b)) _ _ s;refine ao (ac (wpAny_isInstance (T:="dict") db.typeIs PySem.F.sub_dict_dict ?_));simp only[Bool.not_true,c7,if_false];refine ac (ao (ac (ao (ac (Eb ha hb da db hits ?_)))));exact ao ⟨_,rfl,(λx=>nomatch x),by simpa using q⟩
end
end L2
namespace DL
open PySem PySem.Spec PyProof.Rows L2
variable{K:ad}
@[simp]def strK?:List Key->Option (List Str)
 | []=>aA []
 | .inr x::r=>(strK? r).bind λt=>aA (x::t)
 |_=>aB
@[simp]def Lx(f:D->D->Option Bool)(ys:List Str)(us:List D):List Str->List D->Option Bool
 |x::xs,v::vs=>match Yk ys us x with
  |none=>aA aD
  |some u=>(f v u).bind λb=>(Lx f ys us xs vs).bind λc=>aA (b&&c)
 |_,_=>aA aC
@[simp]def Mi(f:D->D->Option Bool):D->D->Option Bool
 | .dK ks vs,.dK ks' vs'=>(strK? ks).bind λxs=>(strK? ks').bind λys=>if xs.length=ys.length then Lx f ys vs' xs vs else aA aD
 |d1,d2=>Cu f d1 d2
@[simp]def Cw:Nat->D->D->Option Bool
 |0=>λ_ _=>aB
 |n+1=>Mi (Cw n)
theorem Dj{P:b5}{w:cw}:∀{es:List DictEntry} {kvs:List (Key×ag)} {xs:List Str},Pairs (Zs P w) es kvs->strK? (kvs.map (·.1))=aA xs->
  ∃skv:List (Str×ag),skv.map (·.1)=xs/\skv.map (·.2)=kvs.map (·.2)/\es.length=skv.length/\∀(i:Nat) (p:Str×ag),skv[i]? =aA p->∃e t,es[i]? =aA e/\e.key= .str p.1 t/\e.val=p.2
 |_,_,_,.nil,e=>by cases e;exact⟨[],rfl,rfl,rfl,λi p h=>by simp at h⟩
 |_,_,_,@Pairs.cons _ _ _ _ _ en kv es kvs hi hv t,e=>by
  obtain⟨k,v⟩:=kv;cases k with
  |inl i=>cases e
  |inr x=>
   have e:(strK? (kvs.map (·.1))).bind (λt=>aA (x::t))=aA _:=e;obtain⟨xs,e1,e2⟩:=aa.mp e;cases e2;obtain⟨skv,h1,h2,h3,h4⟩:=Dj t e1;refine⟨(x,v)::skv,by rw[ay,h1],by rw[ay,ay,h2],by rw[bd,bd,h3],λi p hp=>?_⟩;cases i with
   |zero=>
    obtain rfl:(x,v)=p:=by simpa using hp
    rcases Z7 (show Cj (.inr x) en.key=aC from hi)with⟨j,t',e3,_⟩|⟨y,t',e3,e4⟩
    .cases e3
    .cases e3;exact⟨en,t',rfl,e4,hv⟩
   |succ i=>exact h4 i p (by simpa using hp)
theorem Ly:∀{kvs:List (Key×V)} {vs:List (Key×ag)},KV kvs vs->vs.map (·.1)=kvs.map (·.1)/\Ya (kvs.map (·.2)) (vs.map (·.2))
 |_,_,.nil=>⟨rfl,.nil⟩
 |_,_,.cons h t=>⟨by rw[ay,ay,h.1,(Ly t).1],.cons h.2 (Ly t).2⟩
section
variable{X:Cx}{pins:List (ak×Obj)}{σ:L2.St}{F H:Hp}{s:ap}
theorem Ed(I:Inv X pins σ H s){a:ak}{kvs:List (Key×V)}{xs:List Str}(ha:HK H a kvs)(e:strK? (kvs.map (·.1))=aA xs):
  (a==d3)=aD/\∃skv:List (Str×ag),Mh s.heap a skv/\skv.map (·.1)=xs/\Ya (kvs.map (·.2)) (skv.map (·.2))/\(kvs.map (·.1)).Nodup:=by
 obtain⟨z,hd,vs,rel,dd⟩:=Hm I.hok ha;obtain⟨k1,k2⟩:=Ly rel;obtain⟨o,es,ep,ho,hc,hdt,_,hp,nd⟩:=dd;rw[<-k1]at e;obtain⟨skv,h1,h2,h3,h4⟩:=Dj hp e;refine⟨hd,skv,⟨o,es,ep,ho,hc,hdt,by rw[<-h3];simp,λi p hpp=>?_⟩,h1,by rw[h2];exact k2,by rw[<-k1];exact nd⟩;obtain⟨en,t,g1,g2⟩:=h4 i p hpp;exact⟨en,t,by rw[<-Array.getElem?_toList];exact g1,g2⟩
theorem Rj(x:Str):∀(skv:List (Str×ag)) (us:List D) (Us:List V),Reps X.K F us Us->Ya Us (skv.map (·.2))->match Yk (skv.map (·.1)) us x with
  |none=>place skv x=aB
  |some u=>∃j p U,place skv x=aA j/\skv[j]? =aA p/\Rep X.K F u U/\Zz U p.2
 | [],_,_,r,v=>by cases v;cases r;rfl
 |p::skv,_,_,r,v=>by
  cases v with
  | @cons U u' Us us' hU tU=>
  cases r with
  | @cons d v' ds vs' h t=>
   have ih:=Rj x skv ds Us t tU;show match(if p.1=x then aA d else Yk (skv.map (·.1)) ds x)with
    |none=>place (p::skv) x=aB
    |some u=>∃j q U,place (p::skv) x=aA j/\(p::skv)[j]? =aA q/\Rep X.K F u U/\Zz U q.2
   have hpl:place (p::skv) x=if p.1=x then aA 0 else(place skv x).map (· +1):=by unfold place;rw[List.findIdx?_cons];by_cases e:p.1=x<;> simp[e]
   by_cases e:p.1=x
   .rw[if_pos e,hpl,if_pos e];exact⟨0,p,U,rfl,rfl,h,hU⟩
   .rw[if_neg e,hpl,if_neg e];cases hl:Yk (skv.map (·.1)) ds x with
    |none=>rw[hl]at ih;dsimp only at ih⊢;rw[ih];rfl
    |some u=>rw[hl]at ih;obtain⟨j,q,U',h1,h2,h3,h4⟩:=ih;exact⟨j+1,q,U',by rw[h1];rfl,by simpa using h2,h3,h4⟩
theorem Dk{A:c8}{f:D->D->Option Bool}(ih:∀d1 d2 b x y v u,Rep X.K F d1 x->Zz x v->Rep X.K F d2 y->Zz y u->f d1 d2=aA b->SeqAt.EqAt A s v u b){skv2:List (Str×ag)}{us:List D}{Us:List V}(ru:Reps X.K F us Us)(vu:Ya Us (skv2.map (·.2))):
  ∀(skv:List (Str×ag)) (vs:List D) (Vs:List V) (r:Bool),Reps X.K F vs Vs->Ya Vs (skv.map (·.2))->Lx f (skv2.map (·.1)) us (skv.map (·.1)) vs=aA r->SHits A s skv2 skv r
 | [],_,_,_,r,v,e=>by cases v;cases r;cases e;exact .nil
 |p::skv,_,_,_,r,v,e=>by
  obtain⟨k,w⟩:=p;cases v with
  | @cons V0 u' Vs us' hV tV=>
  cases r with
  | @cons d v' ds vs' h t=>
   have lp:=Rj (X:=X) (F:=F) k skv2 us Us ru vu;have e:(match Yk (skv2.map (·.1)) us k with
    |none=>aA aD
    |some u=>(f d u).bind λb=>(Lx f (skv2.map (·.1)) us (skv.map (·.1)) ds).bind λc=>aA (b&&c))=aA _:=e
   cases hl:Yk (skv2.map (·.1)) us k with
   |none=>rw[hl]at lp e;cases e;exact .miss lp
   |some u=>rw[hl]at lp e;obtain⟨j,q,U,h1,h2,h3,h4⟩:=lp;obtain⟨b,e1,e2⟩:=aa.mp e;obtain⟨c,e3,e4⟩:=aa.mp e2;cases e4;exact .hit h1 h2 (ih _ _ _ _ _ _ _ h hV h3 h4 e1) (Dk ih ru vu skv ds Vs c t tV e3)
end
end DL
namespace DL
open PySem PySem.Spec PyProof.Rows L2
variable{K:ad}
theorem Kc:∀(skv:List (Str×ag)),(skv.map (·.1)).Nodup->∀q∈skv,∃j,place skv q.1=aA j/\skv[j]? =aA q
 | [],_,_,h=>nomatch h
 |p::r,nd,q,h=>by
  obtain⟨n1,n2⟩:=d5.mp nd;have hpl:place (p::r) q.1=if p.1=q.1 then aA 0 else(place r q.1).map (· +1):=by unfold place;rw[List.findIdx?_cons];by_cases e:p.1=q.1<;> simp[e]
  rcases bo.mp h with e|e
  .subst e;exact⟨0,by rw[hpl,if_pos rfl],rfl⟩
  .obtain⟨j,h1,h2⟩:=Kc r n2 q e;have hne:¬p.1=q.1:=λz=>n1 (ax.mpr ⟨q,e,z.symm⟩);exact⟨j+1,by rw[hpl,if_neg hne,h1];rfl,by simpa using h2⟩
theorem Px:∀{ks:List Key} {xs:List Str},strK? ks=aA xs->ks=xs.map bh
 | [],_,e=>by cases e;rfl
 | .inr x::ks,_,e=>by obtain⟨t,e1,e2⟩:=aa.mp e;cases e2;rw[Px e1];rfl
 | .inl i::ks,_,e=>by cases e
theorem V8{ks:List Key}{xs:List Str}(e:strK? ks=aA xs)(nd:ks.Nodup):xs.Nodup:=by rw[Px e]at nd;have z:(xs.map bh:List Key).Pairwise (· ≠ ·):=nd;rw[List.pairwise_map]at z;exact z.imp λh e=>h (by rw[e])
section
variable{X:Cx}{pins:List (ak×Obj)}{σ:L2.St}{F H:Hp}{s:ap}
theorem Kd{f:D->D->Option Bool}(ih:∀(d1 d2:D) (b:Bool) (x y:V) (v:ag),Rep X.K F d1 x->Zz x v->Rep X.K F d2 y->Zz y v->f d1 d2=aA b->b=aC){skv:List (Str×ag)}{us:List D}{Us:List V}(ru:Reps X.K F us Us)(vu:Ya Us (skv.map (·.2))):
  ∀(skv1:List (Str×ag)) (vs:List D) (Vs:List V) (r:Bool),(∀q∈skv1,∃j,place skv q.1=aA j/\skv[j]? =aA q)->Reps X.K F vs Vs->Ya Vs (skv1.map (·.2))->Lx f (skv.map (·.1)) us (skv1.map (·.1)) vs=aA r->r=aC
 | [],_,_,_,_,r,v,e=>by cases v;cases r;cases e;rfl
 |p::skv1,_,_,_,hs,r,v,e=>by
  obtain⟨k,w⟩:=p;cases v with
  | @cons V0 u' Vs us' hV tV=>
  cases r with
  | @cons d v' ds vs' h t=>
   have lp:=Rj (X:=X) (F:=F) k skv us Us ru vu;obtain⟨j,hj1,hj2⟩:=hs (k,w) af;have e:(match Yk (skv.map (·.1)) us k with
    |none=>aA aD
    |some u=>(f d u).bind λb=>(Lx f (skv.map (·.1)) us (skv1.map (·.1)) ds).bind λc=>aA (b&&c))=aA _:=e
   cases hl:Yk (skv.map (·.1)) us k with
   |none=>rw[hl]at lp;rw[show place skv k=aA j from hj1]at lp;cases lp
   |some u=>rw[hl]at lp e;obtain⟨j',q,U,h1,h2,h3,h4⟩:=lp;rw[show place skv k=aA j from hj1]at h1;cases h1;rw[hj2]at h2;cases h2;obtain⟨b,e1,e2⟩:=aa.mp e;obtain⟨c,e3,e4⟩:=aa.mp e2;cases e4;rw[ih _ _ _ _ _ _ h hV h3 h4 e1,Kd ih ru vu skv1 ds Vs c (λq hq=>hs q (aj _ hq)) t tV e3];rfl
theorem Ee(I:Inv X pins σ H s)(le:Zl F H):∀(n:Nat) (d1 d2:D) (b:Bool) (x y:V) (v:ag),Rep X.K F d1 x->Zz x v->Rep X.K F d2 y->Zz y v->Cw n d1 d2=aA b->b=aC
 |0,_,_,_,_,_,_,_,_,_,_,e=>by cases e
 |n+1,d1,d2,b,x,y,v,r1,v1,r2,v2,e=>by
  unfold Cw Mi at e;split at e
  .cases r1 with
   | @dK a ks ds kvs ep1 h1 e1 rr1=>
   cases r2 with
   | @dK a' ks' ds' kvs' ep2 h2 e2 rr2=>
   cases v1;cases(show b9 a=b9 a' from v2);rw[h1]at h2;cases h2;subst e1 e2;obtain⟨xs,f1,e⟩:=aa.mp e;obtain⟨ys,f2,e⟩:=aa.mp e;rw[f1]at f2;cases f2;rw[if_pos rfl]at e;obtain⟨_,skv,_,hk,hv,nd⟩:=Ed I ⟨_,le _ _ h1⟩ f1;have ndx:=V8 f1 nd;rw[<-hk]at e ndx;exact Kd (Ee I le n) rr2 hv skv _ _ b (Kc skv ndx) rr1 hv e
  .exact Fw I le (Ee I le n) d1 d2 b x y v r1 v1 r2 v2 e
theorem rcM(I:Inv X pins σ H s)(le:Zl F H){A:c8}{f:D->D->Option Bool}{d1 d2:D}{b:Bool}{x y:V}{v u:ag}
  (ih:∀d1 d2 b x y v u,Rep X.K F d1 x->Zz x v->Rep X.K F d2 y->Zz y u->f d1 d2=aA b->SeqAt.EqAt A.in1 s v u b) (r1:Yh X.K F H d1 x) (v1:Zz x v) (r2:Yh X.K F H d2 y) (v2:Zz y u)
  (e:Mi f d1 d2=aA b) (hu:A.units<fq) (hr:Y0 x=aD\/Y0 y=aD):(∃a c,v= .ref a/\u= .ref c)/\SeqAt.RcAt A s v u b/\SeqAt.RcNeAt A s v u (!b):=by
 unfold Mi at e;split at e
 .obtain⟨a1,kvs1,rfl,ha1,rfl,rr1⟩:=r1.dK le;obtain⟨a2,kvs2,rfl,ha2,rfl,rr2⟩:=r2.dK le;cases v1;cases v2;obtain⟨xs,f1,e⟩:=aa.mp e;obtain⟨ys,f2,e⟩:=aa.mp e;obtain⟨m1,skv1,sd1,hk1,hv1,_⟩:=Ed I ha1 f1;obtain⟨m2,skv2,sd2,hk2,hv2,_⟩:=Ed I ha2 f2;have l1:skv1.length=xs.length:=by rw[<-hk1,am]
  have l2:skv2.length=ys.length:=by rw[<-hk2,am]
  refine⟨⟨_,_,rfl,rfl⟩,?_⟩;split at e
  .rename_i hl;rw[<-hk1,<-hk2]at e;have hits:skv1.length=skv2.length->SHits A.in1 s skv2 skv1 b:=λ_=>Dk ih rr2 hv2 skv1 _ _ b rr1 hv1 e;have hb:b=(skv1.length==skv2.length&&b):=by rw[l1,l2,hl];simp
   rw[hb];exact⟨Pw m1 m2 sd1 sd2 hu hits,Ec m1 m2 sd1 sd2 hu hits⟩
  .rename_i hl;cases e;have hits:skv1.length=skv2.length->SHits A.in1 s skv2 skv1 aD:=λz=>absurd (by omega) hl;have hb:aD=(skv1.length==skv2.length&&aD):=by simp
   rw[hb];exact⟨Pw m1 m2 sd1 sd2 hu hits,Ec m1 m2 sd1 sd2 hu hits⟩
 .exact rcN I le ih r1 v1 r2 v2 e hu hr
theorem V9(I:Inv X pins σ H s)(le:Zl F H):∀(n:Nat) (A:c8) (d1 d2:D) (b:Bool) (x y:V) (v u:ag),A.units+n<fq->Rep X.K F d1 x->Zz x v->Rep X.K F d2 y->Zz y u->Cw n d1 d2=aA b->SeqAt.EqAt A s v u b
 |0,_,_,_,_,_,_,_,_,_,_,_,_,_,e=>by cases e
 |n+1,A,d1,d2,b,x,y,v,u,hu,r1,v1,r2,v2,e=>by
  by_cases hf:Y0 x=aC/\Y0 y=aC
  .have e':eqS d1 d2=aA b:=by
    unfold Cw Mi at e;split at e
    .cases r1;cases hf.1
    .unfold Cu at e;split at e
     .cases r1;cases hf.1
     .cases r1;cases hf.1
     .cases r1;cases hf.1
     .cases r1;cases hf.1
     .exact e
   obtain⟨f1,f2,rfl⟩:=Md (H:=H) e' (Yh.of r1) (Yh.of r2);exact Vj v1 v2 f1 f2
  .have hf':Y0 x=aD\/Y0 y=aD:=by
    cases h1:Y0 x with
    |false=>exact .inl rfl
    |true=>cases h2:Y0 y with
     |false=>exact .inr rfl
     |true=>exact absurd ⟨h1,h2⟩ hf
   obtain⟨⟨a,c,rfl,rfl⟩,h1,_⟩:=rcM I le (A:=A) (f:=Cw n) (λd1 d2 b x y v u q1 w1 q2 w2 e=>V9 I le n A.in1 d1 d2 b x y v u (by have:A.in1.units=A.units+1:=rfl;omega) q1 w1 q2 w2 e) (Yh.of r1) v1 (Yh.of r2) v2 e (by omega) hf';by_cases hac:a=c
   .subst hac;rw[Ee I le (n+1) d1 d2 b x y _ r1 v1 r2 v2 e];exact SeqAt.EqAt.same _
   .exact SeqAt.EqAt.of_refs hac h1
def Zit(K:ad)(neg:Bool):R2:=λx y H Q=>∃F d1 d2 b,Zl F H/\Yh K F H d1 x/\Yh K F H d2 y/\Cw 48 d1 d2=aA b/\(Y0 x=aD\/Y0 y=aD)/\Q (.bl (if neg then !b else b)) H
theorem Zep(hu:X.A.units+64<fq):U5 X (df .Eq) (Zit X.K aD):=by intro pins s σ H x y v u Q I rx ry h;obtain⟨F,d1,d2,b,le,r1,r2,e,hf,q⟩:=h;obtain⟨_,h1,_⟩:=rcM I le (A:=X.A) (f:=Cw 47) (λd1 d2 b x y v u q1 w1 q2 w2 e=>V9 I le 47 X.A.in1 d1 d2 b x y v u (by have:X.A.in1.units=X.A.units+1:=rfl;omega) q1 w1 q2 w2 e) r1 rx r2 ry e (by omega) hf;exact h1 X.prog X.w X.xe _ ⟨.bl b,H,I,rfl,q⟩
theorem Znt(hu:X.A.units+64<fq):U5 X (df .NotEq) (Zit X.K aC):=by intro pins s σ H x y v u Q I rx ry h;obtain⟨F,d1,d2,b,le,r1,r2,e,hf,q⟩:=h;obtain⟨_,_,h1⟩:=rcM I le (A:=X.A) (f:=Cw 47) (λd1 d2 b x y v u q1 w1 q2 w2 e=>V9 I le 47 X.A.in1 d1 d2 b x y v u (by have:X.A.in1.units=X.A.units+1:=rfl;omega) q1 w1 q2 w2 e) r1 rx r2 ry e (by omega) hf;exact h1 X.prog X.w X.xe _ ⟨.bl !b,H,I,rfl,q⟩
end
end DL
namespace DL
open PySem PySem.Spec PyProof.Rows L2
variable{K:ad}
@[simp]def Aj(d1 d2:D):Option SV:=if d1.isFlat=true/\d2.isFlat=true then eqD d1 d2 else(Cw 48 d1 d2).bind λb=>some (.fz (.bl b))
@[simp]def neY(d1 d2:D):Option SV:=if d1.isFlat=true/\d2.isFlat=true then neD d1 d2 else(Cw 48 d1 d2).bind λb=>some (.fz (.bl !b))
@[simp]def inY(d1 d2:D):Option SV:=match d1,d2 with
 | .non,.dK _ _=>aA (.fz (.bl aD))
 |_,_=>inX d1 d2
@[simp]def Xa(d1 d2:D):Option SV:=match d1,d2 with
 | .non,.dK _ _=>aA (.fz (.bl aC))
 |_,_=>V6 d1 d2
section
variable{Z:Ent K}
theorem Dl{F H:Hp}{d1 d2:D}{x y:V}(r1:Yh K F H d1 x)(r2:Yh K F H d2 y)(hf:¬(d1.isFlat=aC/\d2.isFlat=aC)):Y0 x=aD\/Y0 y=aD:=by
 cases h1:d1.isFlat with
 |false=>exact .inl (A6 r1 h1)
 |true=>cases h2:d2.isFlat with
  |false=>exact .inr (A6 r2 h2)
  |true=>exact absurd ⟨h1,h2⟩ hf
theorem Zle:Yr Z (λx y H Q=>rEq x y H Q\/Zit K aD x y H Q) Aj:=by
 intro F H σ δ own x y d1 d2 sv Q s r1 r2 e k;unfold Aj at e;split at e
 .exact .inl (Zt2 F H σ δ own x y d1 d2 sv Q s r1 r2 e k)
 .rename_i hf;obtain⟨b,e1,e2⟩:=aa.mp e;cases e2;exact .inr ⟨F,d1,d2,b,s.le,r1,r2,e1,Dl r1 r2 hf,k.fz s (.bl _)⟩
theorem Zrq:Yr Z (λx y H Q=>rNe x y H Q\/Zit K aC x y H Q) neY:=by
 intro F H σ δ own x y d1 d2 sv Q s r1 r2 e k;unfold neY at e;split at e
 .exact .inl (Zt3 F H σ δ own x y d1 d2 sv Q s r1 r2 e k)
 .rename_i hf;obtain⟨b,e1,e2⟩:=aa.mp e;cases e2;exact .inr ⟨F,d1,d2,b,s.le,r1,r2,e1,Dl r1 r2 hf,k.fz s (.bl _)⟩
theorem Zrr:Yr Z (λx y H Q=>((∃i j,x= .str i/\y= .str j/\Q (.bl (!(ci j i 0 j.length 1).isEmpty)) H)\/Zee x y H Q)\/M8 aD x y H Q) inY:=by
 intro F H σ δ own x y d1 d2 sv Q s r1 r2 e k;unfold inY at e;split at e
 .cases e;obtain⟨a,kvs,rfl,ha,_,_⟩:=r2.dK s.le;exact .inr ⟨a,kvs,r1.non,rfl,ha.rd,k.fz s (.bl _)⟩
 .exact .inl (Zrm F H σ δ own x y d1 d2 sv Q s r1 r2 e k)
theorem Zeq:Yr Z (λx y H Q=>((∃i j,x= .str i/\y= .str j/\Q (.bl (!(!(ci j i 0 j.length 1).isEmpty))) H)\/Me x y H Q)\/M8 aC x y H Q) Xa:=by
 intro F H σ δ own x y d1 d2 sv Q s r1 r2 e k;unfold Xa at e;split at e
 .cases e;obtain⟨a,kvs,rfl,ha,_,_⟩:=r2.dK s.le;exact .inr ⟨a,kvs,r1.non,rfl,ha.rd,k.fz s (.bl _)⟩
 .exact .inl (Zeh F H σ δ own x y d1 d2 sv Q s r1 r2 e k)
end
section
variable{X:Cx}{Z:Ent X.K}{a b c:b7}{fa fb fc:FE}{pos:Pos}
theorem Zer(hv:X.A.units+64<fq)(ha:PE X a (Ze Z fa))(hb:PE X b (Ze Z fb)):PE X (.Compare a [.Eq] [b] pos) (Ze Z (Zg Aj fa fb)):=Hw (Zkm.or (Zep hv)) Zle ha hb (Bj _)
theorem G3(hv:X.A.units+64<fq)(ha:PE X a (Ze Z fa))(hb:PE X b (Ze Z fb)):PT X (.Compare a [.Eq] [b] pos) (Yi Z (Zu (Zg Aj fa fb))):=Gz (Zkm.or (Zep hv)) Zle ha hb (Bj _)
theorem Ke(hv:X.A.units+64<fq)(ha:PE X a (Ze Z fa))(hb:PE X b (Ze Z fb)):PT X (.Compare a [.NotEq] [b] pos) (Yi Z (Zu (Zg neY fa fb))):=Gz (Zp7.or (Znt hv)) Zrq ha hb (Bj _)
end
end DL
namespace DL
open PySem PySem.Spec PyProof.Rows L2
variable{K:ad}
theorem SR.changeT{Z:Ent K}{F H:Hp}{σ:L2.St}{δ:Yw}{own:Nat->Zo}{i:Nat}{sv sv' svT:SV}{a:ak}{o o':HO}{v vT:V}{ns' nsT:Zo}(s:SR Z F H σ δ own)(t:TmpOk Z F H own svT vT nsT)(e:δ[i]? =aA (aA sv))(hv:σ[i]? =aA (aA v))
  (ha:(a,o)∈own i) (hs:Shape K F sv' v ns') (hns:∀p∈ns',p=(a,o')\/(p∈own i/\p.1≠a)\/p∈nsT) (nd:(U6 ns').Nodup):SR Z F (Y7 H a o') σ (δ.set i (aA sv')) (put own i ns'):=by
 obtain⟨fa,ha0,hHa⟩:=s.ok i (a,o) ha;have hi:i<δ.length:=(bp.mp e).1;refine⟨λb u eb=>?_,s.fro,λb u eb=>?_,by rw[d6];exact s.len,λj sw ej=>?_,λj=>?_,λj p hp=>?_,λj k p q hjk hp hq=>?_⟩
 .rw[Zv λz=>by rw[z]at eb;rw[fa]at eb;cases eb];exact s.le b u eb
 .rw[Zv λz=>by rw[z]at eb;rw[ha0]at eb;cases eb];exact s.old b u eb
 .by_cases hj:j=i
  .subst hj;rw[dh hi]at ej;cases ej;rw[Z8];exact⟨v,hv,hs⟩
  .rw[c9 (Ne.symm hj)]at ej;rw[Yf hj];exact s.at' j sw ej
 .by_cases hj:j=i
  .subst hj;rw[Z8];exact nd
  .rw[Yf hj];exact s.nod j
 .by_cases hj:j=i
  .subst hj;rw[Z8]at hp;rcases hns p hp with z|⟨z,ne⟩|z
   .subst z;exact⟨fa,ha0,Ye⟩
   .obtain⟨x,y,w⟩:=s.ok j p z;exact⟨x,y,by rw[Zv ne];exact w⟩
   .obtain⟨x,y,w⟩:=t.ok p z;exact⟨x,y,by rw[Zv (t.sep j p (a,o) z ha)];exact w⟩
  .rw[Yf hj]at hp;obtain⟨x,y,w⟩:=s.ok j p hp;exact⟨x,y,by rw[Zv (s.sep j i p (a,o) hj hp ha)];exact w⟩
 .have far:∀(l:Nat) (r q:ak×HO),l≠i->r∈ns'->q∈own l->r.1≠q.1:=λl r q hl hr hq=>by
   rcases hns r hr with z|⟨z,_⟩|z
   .subst z;exact s.sep i l (a,o) q (Ne.symm hl) ha hq
   .exact s.sep i l r q (Ne.symm hl) z hq
   .exact t.sep l r q z hq
  by_cases hj:j=i
  .subst hj;rw[Z8]at hp;rw[Yf (Ne.symm hjk)]at hq;exact far k p q (Ne.symm hjk) hp hq
  .by_cases hk:k=i
   .subst hk;rw[Z8]at hq;rw[Yf hj]at hp;exact λz=>far j q p hj hq hp z.symm
   .rw[Yf hj]at hp;rw[Yf hk]at hq;exact s.sep j k p q hjk hp hq
theorem Kids.snoc{F:Hp}:∀{xss:List (List D)} {ws:List V} {ns:Zo} {xs:List D} {b:ak} {vs:List V},Kids K F xss ws ns->Reps K F xs vs->Kids K F (xss++[xs]) (ws++[.ref b]) (ns++[(b,.lst vs)])
 |_,_,_,_,_,_,.nil,r=>.cons r .nil
 |_,_,_,_,_,_,.cons h t,r=>.cons h (t.snoc r)
section
variable{Z:Ent K}{H:Hp}{σ:L2.St}{Q:VK}{E:Ends}
@[simp]def Zes:FE:=λδ=>some (.tmp (.oN [] []),δ)
theorem Ziu(h:Ze Z Zes σ H Q):Vl σ H Q:=by obtain⟨F,δ,own,rv,δ',s,e,k⟩:=h;cases e;intro p hp;have f:Fin Z F H σ δ own (.oN [] []) Q:=λv H' F' ns a b c t=>k v H' F' own a b c ⟨ns,t⟩;exact f.one s (.oN (kvs:=[]) rfl .nil) hp
theorem Kids.length{F:Hp}:∀{xss:List (List D)} {ws:List V} {ns:Zo},Kids K F xss ws ns->xss.length=ws.length
 |_,_,_,.nil=>rfl
 |_,_,_,.cons _ t=>by rw[bd,bd,t.length]
end
theorem Kids.ref{F:Hp}:∀{xss:List (List D)} {ws:List V} {ns:Zo} {p:Nat} {v:V},Kids K F xss ws ns->ws[p]? =aA v->∃b,v= .ref b
 |_,_,_,_,_,.nil,e=>by simp at e
 |_,_,_,0,_,.cons _ _,e=>by simp at e;exact⟨_,e.symm⟩
 |_,_,_,p+1,_,.cons _ t,e=>t.ref (p:=p) (by simpa using e)
@[simp]def Wj:List Key->Key->Option Nat
 | [],_=>aB
 |a::r,k=>if a=k then aA 0 else(Wj r k).map (· +1)
theorem M9{k:Key}:∀{kvs:List (Key×V)} {p:Nat},Wj (kvs.map (·.1)) k=aA p->∃v,(kvs.map (·.2))[p]? =aA v/\Jx kvs k=aA v
 | [],_,e=>by cases e
 |q::r,p,e=>by
  have e:(if q.1=k then aA 0 else(Wj (r.map (·.1)) k).map (· +1))=aA p:=e;by_cases h:q.1=k
  .rw[if_pos h]at e;cases e;exact⟨q.2,rfl,Cn h⟩
  .rw[if_neg h]at e;obtain⟨p',e1,e2⟩:=dg.mp e;subst e2;obtain⟨v,h1,h2⟩:=M9 e1;exact⟨v,by simpa using h1,by rw[O3 h];exact h2⟩
end DL
namespace DL
open PySem PySem.Spec PyProof.Rows L2
variable{K:ad}
section
variable{X:Cx}{Z:Ent X.K}{a b c:b7}{fa fb fc:FE}{pos:Pos}
theorem Ziv:PE X (.Dict [] [] pos) (Ze Z Zes):=N1.imp λ_ _ _ h=>Ziu h
end
end DL
namespace L2
open PySem PySem.Spec PyProof.Rows
variable{X:Cx}
def Zlf:R2:=λx y H Q=>∃a k,x= .str a/\y= .int k/\MulOk a k/\Q (.str (Txt.mul a k)) H
theorem Ziw:U5 X (binaryOp .Mult) Zlf:=by intro pins s σ H x y v u Q I rx ry h;obtain⟨a,k,rfl,rfl,hm,q⟩:=h;obtain⟨t,rfl⟩:=rx;obtain⟨t',rfl⟩:=ry;exact SB.mul hm λt' k=>⟨.str _,H,I.tok _,⟨_,rfl⟩,q⟩
end L2
namespace DL
open PySem PySem.Spec PyProof.Rows L2
variable{K:ad}
@[simp]noncomputable def D.fv:D->V
 | .bl b=>.bl b
 | .int i=>.int i
 | .str x=>.str x
 |_=>.non
theorem Zet{F H:Hp}{d:D}{x:V}(r:Yh K F H d x)(h:d.isFlat=aC):x=d.fv/\Y0 x=aC:=by
 cases d with
 |non=>rw[r.non];exact⟨rfl,rfl⟩
 |bl b=>rw[r.bl];exact⟨rfl,rfl⟩
 |int i=>rw[r.int];exact⟨rfl,rfl⟩
 |str y=>rw[r.str];exact⟨rfl,rfl⟩
 |_=>cases h
theorem Xb{F:Hp}:∀{ds:List D} {vs:List V},Reps K F ds vs->ds.all D.isFlat=aC->vs=ds.map D.fv/\vs.all Y0=aC
 |_,_,.nil,_=>⟨rfl,rfl⟩
 |_,_,.cons h t,e=>by rw[List.all_cons,Bool.and_eq_true]at e;obtain⟨a1,a2⟩:=Zet (H:=F) (Yh.of h) e.1;obtain⟨b1,b2⟩:=Xb t e.2;refine⟨by rw[ay,<-a1,<-b1],by rw[List.all_cons,a2,b2];rfl⟩
def Zeu(y x:D):Bool:=Vi y.fv x.fv
@[simp]theorem Zev(a b:Str):Zeu (.str a) (.str b)=decide (a=b):=by
 show(a==b)=decide (a=b);by_cases h:a=b
 .subst h;simp
 .rw[decide_eq_false h];exact beq_eq_false_iff_ne.mpr h
@[simp]theorem Zrs:Zeu .non .non=true:=rfl
@[simp]theorem Zs7(a:Str):Zeu (.str a) .non=false:=rfl
def Il(x:D)(xs:List D):Bool:=xs.any λy=>Zeu y x
theorem Dm{d:D}{ds:List D}:inV d.fv (ds.map D.fv)=Il d ds:=by unfold inV Il;rw[List.any_map];rfl
noncomputable def D.seq?:D->Option (List D)
 | .lst xs=>aA xs
 | .tup xs=>aA xs
 |_=>aB
@[simp]theorem Zs8(xs:List D):D.seq? (.lst xs)=some xs:=rfl
@[simp]theorem Zs9(xs:List D):D.seq? (.tup xs)=some xs:=rfl
@[simp]theorem Zta(x:Str):D.seq? (.str x)=none:=rfl
@[simp]theorem Zue(ks:List Key)(vs:List D):D.seq? (.dK ks vs)=none:=rfl
@[simp]theorem Zuf(ks:List (List Key))(vs:List D):D.seq? (.dT ks vs)=none:=rfl
@[simp]def Py(d1 d2:D):Option SV:=match d2.seq? with
 |some xs=>if d1.isFlat=aC/\xs.all D.isFlat=aC then aA (.fz (.bl (Il d1 xs)))else aB
 |none=>inY d1 d2
@[simp]def Rk(d1 d2:D):Option SV:=match d2.seq? with
 |some xs=>if d1.isFlat=aC/\xs.all D.isFlat=aC then aA (.fz (.bl (!Il d1 xs)))else aB
 |none=>Xa d1 d2
section
variable{Z:Ent K}{H:Hp}{σ:L2.St}{Q:VK}{E:Ends}
theorem Zew{F:Hp}{d:D}{x:V}{xs:List D}(le:Zl F H)(r:Yh K F H d x)(h:d.seq? =aA xs):∃a vs,x= .ref a/\(Oa K H a vs\/G9 K H a vs)/\Reps K F xs vs:=by
 cases d with
 |lst ys=>cases h;obtain⟨a,vs,e,q,rr⟩:=r.lst le;exact⟨a,vs,e,.inl q,rr⟩
 |tup ys=>cases h;obtain⟨a,vs,e,q,rr⟩:=r.tup le;exact⟨a,vs,e,.inr q,rr⟩
 |_=>cases h
theorem Zlg:Yr Z (λx y H Q=>(((∃i j,x= .str i/\y= .str j/\Q (.bl (!(ci j i 0 j.length 1).isEmpty)) H)\/Zee x y H Q)\/M8 aD x y H Q)\/rIn K aD x y H Q) Py:=by
 intro F H σ δ own x y d1 d2 sv Q s r1 r2 e k;unfold Py at e;split at e
 .rename_i xs hx;split at e
  .rename_i hf;cases e;obtain⟨a,vs,rfl,hq,rr⟩:=Zew s.le r2 hx;obtain⟨e1,f1⟩:=Zet r1 hf.1;obtain⟨e2,f2⟩:=Xb rr hf.2;refine .inr ⟨a,vs,rfl,hq,f1,f2,?_⟩;rw[e1,e2,Dm];exact k.fz s (.bl _)
  .cases e
 .exact .inl (Zrr F H σ δ own x y d1 d2 sv Q s r1 r2 e k)
theorem Pz:Yr Z (λx y H Q=>(((∃i j,x= .str i/\y= .str j/\Q (.bl (!(!(ci j i 0 j.length 1).isEmpty))) H)\/Me x y H Q)\/M8 aC x y H Q)\/rIn K aC x y H Q) Rk:=by
 intro F H σ δ own x y d1 d2 sv Q s r1 r2 e k;unfold Rk at e;split at e
 .rename_i xs hx;split at e
  .rename_i hf;cases e;obtain⟨a,vs,rfl,hq,rr⟩:=Zew s.le r2 hx;obtain⟨e1,f1⟩:=Zet r1 hf.1;obtain⟨e2,f2⟩:=Xb rr hf.2;refine .inr ⟨a,vs,rfl,hq,f1,f2,?_⟩;rw[e1,e2,Dm];exact k.fz s (.bl _)
  .cases e
 .exact .inl (Zeq F H σ δ own x y d1 d2 sv Q s r1 r2 e k)
open Classical in
noncomputable def Zix(a:Str)(k:Int):Option SV:=if MulOk a k then aA (.fz (.str (Txt.mul a k)))else aB
theorem Ziy{a:Str}{k:Int}{sv:SV}(h:Zix a k=aA sv):MulOk a k/\sv= .fz (.str (Txt.mul a k)):=by
 unfold Zix at h;split at h
 .rename_i hm;cases h;exact⟨hm,rfl⟩
 .cases h
def Dn(i j:Int):Prop:=Zdu i j=aC
open Classical in
noncomputable def P0(i j:Int):Option SV:=if Dn i j then aA (.fz (.int (i*j)))else aB
theorem Ziz{i j:Int}{sv:SV}(h:P0 i j=aA sv):Zqz (.int i) (.int j)=aA sv:=by
 unfold P0 at h;split at h
 .rename_i hc;cases h;unfold Dn at hc;simp[hc]
 .cases h
theorem Xc{i j:Int}(h:-(2^64)<j/\j<2^64):P0 i j=aA (.fz (.int (i*j))):=by unfold P0;rw[if_pos];unfold Dn Zdu;rw[decide_eq_true h.1,decide_eq_true h.2];simp
theorem Znu{i j:Int}(h:-(2^64)<i/\i<2^64):P0 i j=aA (.fz (.int (i*j))):=by unfold P0;rw[if_pos];unfold Dn Zdu;rw[decide_eq_true h.1,decide_eq_true h.2];simp
def Lz:D->D->Option SV
 | .str a,.int k=>Zix a k
 | .int i,.int j=>P0 i j
 |_,_=>aB
@[simp]theorem Ztb(a:Str)(k:Int):Lz (.str a) (.int k)=Zix a k:=rfl
@[simp]theorem Ztc(i j:Int):Lz (.int i) (.int j)=P0 i j:=rfl
theorem Znv:Yr Z (λx y H Q=>rI Zcw (λi j=>V.int (i*j)) x y H Q\/Zlf x y H Q) Lz:=by
 intro F H σ δ own x y d1 d2 sv Q s r1 r2 e k;unfold Lz at e;split at e
 .obtain⟨hm,rfl⟩:=Ziy e;exact .inr ⟨_,_,r1.str,r2.int,hm,k.fz s (.str _)⟩
 .exact .inl (Zq3 F H σ δ own x y _ _ sv Q s r1 r2 (Ziz e) k)
 .cases e
@[simp]noncomputable def SV.ol?:RV->Option (List D)
 | .tmp (.ol ys)=>aA ys
 |_=>aB
@[simp]def Zi0(i:Nat)(fe:FE):FS:=λδ=>match δ[i]? with
 |some (aA (.ol _))=>(fe δ).bind λp=>(SV.ol? p.1).bind λys=>match p.2[i]? with
  |some (aA (.ol xs))=>if xs.length+ys.length<=bv then aA (.nx (p.2.set i (aA (.ol (xs++ys)))))else aB
  |_=>aB
 |_=>aB
theorem ol?_ok{rv:RV}{ys:List D}(h:SV.ol? rv=aA ys):rv= .tmp (.ol ys):=by
 unfold SV.ol? at h;split at h
 .cases h;rfl
 .cases h
theorem Zrt{i:Nat}{fe:FE}(h:Zx Z (Zi0 i fe) E σ H):Tv (tBM K "list" Hl (Mz i) (Gu (Ze Z fe) Av)) E σ H:=by
 obtain⟨F,δ,own,fl,s,e,k⟩:=h;unfold Zi0 at e;split at e
 .rename_i xs0 hx0;obtain⟨⟨rv,δ1⟩,e1,e2⟩:=aa.mp e;obtain⟨ys,e3,e4⟩:=aa.mp e2;obtain⟨v,hv,sh⟩:=s.at' i _ hx0;obtain⟨a,vs0,ev,en,r0⟩:=Qg sh;refine⟨v,hv,?_,F,δ,own,rv,δ1,s,e1,λy H1 F1 own1 sH sF s1 r1=>?_⟩
  .subst ev;exact .inl ⟨rfl,vs0,.inl (.inl (s.ok i (a,.lst vs0) (by rw[en];exact af)).2.2)⟩
  have e5:=ol?_ok e3;dsimp only at e5 e4;subst e5;obtain⟨ns,t⟩:=r1;obtain⟨c,us,ec,ens,ru⟩:=Qg t.sh;have hc:H1 c=aA (.lst us):=(t.ok (c,.lst us) (by rw[ens];exact af)).2.2;split at e4
  .rename_i xs hx;split at e4
   .rename_i hz;cases e4;obtain⟨v',hv',sh'⟩:=s1.at' i _ hx;rw[hv]at hv';cases hv';obtain⟨b,vs,eb,en',r'⟩:=Qg sh';have mb:(b,HO.lst vs)∈own1 i:=by rw[en'];exact af
    subst eb;refine⟨b,c,vs,us,rfl,by rw[ec],(s1.ok i _ mb).2.2,hc,by rw[<-r'.length,<-ru.length];exact hz,?_⟩;exact k σ _ F1 _ sF (s1.change (sv':=.ol (xs++ys)) (o':=.lst (vs++us)) (ns':=[(b,.lst (vs++us))]) hx hv mb (.ol (r'.append ru)) (λp hp=>.inl (aq.mp hp)) Nl)
   .cases e4
  .cases e4
 .cases e
end
section
variable{X:Cx}{Z:Ent X.K}{a b c:b7}{fa fb fc:FE}{pos:Pos}
theorem Zru(hu:X.A.units+1<fq)(ha:PE X a (Ze Z fa))(hb:PE X b (Ze Z fb))(hm:behindInMarks .In b=aD:=by rfl):PE X (.Compare a [.In] [b] pos) (Ze Z (Zg Py fa fb)):=Hw (((Fa.or (A7 hu)).or Kb).or Fg) Zlg ha hb hm
theorem Zex(hu:X.A.units+1<fq)(ha:PE X a (Ze Z fa))(hb:PE X b (Ze Z fb))(hm:behindInMarks .NotIn b=aD:=by rfl):PE X (.Compare a [.NotIn] [b] pos) (Ze Z (Zg Rk fa fb)):=Hw (((R0.or (G2 hu)).or Mg).or Rz) Pz ha hb hm
theorem Mj(hu:X.A.units+1<fq)(ha:PE X a (Ze Z fa))(hb:PE X b (Ze Z fb))(hm:behindInMarks .In b=aD:=by rfl):PT X (.Compare a [.In] [b] pos) (Yi Z (Zu (Zg Py fa fb))):=Gz (((Fa.or (A7 hu)).or Kb).or Fg) Zlg ha hb hm
theorem P3(hu:X.A.units+1<fq)(ha:PE X a (Ze Z fa))(hb:PE X b (Ze Z fb))(hm:behindInMarks .NotIn b=aD:=by rfl):PT X (.Compare a [.NotIn] [b] pos) (Yi Z (Zu (Zg Rk fa fb))):=Gz (((R0.or (G2 hu)).or Mg).or Rz) Pz ha hb hm
theorem L0(ha:PE X a (Ze Z fa))(hb:PE X b (Ze Z fb)):PE X (.BinOp a .Mult b pos) (Ze Z (Zg Lz fa fb)):=Pf (Zmk.or Ziw) Znv ha hb
theorem Zrv(i:Nat){x:Str}{px apos cpos:Pos}(hb:PE X b (Ze Z fb))(hN:X.N[i]? =aA x:=by rfl)(hv:Vb X.env.scope x:=by first|exact Or.inl rfl|exact fg (Or.inl rfl)|exact fg (fg rfl))(hd:(x==("__debug__":Str))=aD:=by decide)
  (hcd:(x==("__classdict__":Str))=aD:=by decide) (hbase:attributeBase (.Name x px) "extend" X.env (dk (.Name x px) X.env)=dk (.Name x px) X.env:=by rfl)
  (hfew:((dj cpos (av [b] X.env)).all (λx=>!x.1)&&(backToKw cpos (keywordEach [] X.env)).all (λx=>x.1.isSome)&&decide ([b].length+([]:List Keyword).length+(if([]:List Keyword).isEmpty then 0 else 1)<30))=aC:=by rfl)
  (hline:(apos.endLine==cpos.line)=aC:=by rfl) (hs:av [b] X.env=(aD,dk b X.env)::av [] X.env:=by rfl) (hpl:(dj cpos (av [] X.env)).any (·.1)=aD:=by rfl) (hsw:swapsWith (.Call (.Attribute (.Name x px) "extend" apos) [b] [] cpos) aB pos.line X.env=pure aD:=by rfl):
  PS X (.Expr (.Call (.Attribute (.Name x px) "extend" apos) [b] [] cpos) pos) (Zx Z (Zi0 i fb)):=
 (Bh (R1 PySem.F.plainAttrs_list PySem.F.slot_list_extend PySem.F.type_list_extend Za0 (On (i:=i) hN hv hd hcd) (W0 hb Ud hs) hbase hfew hline hs hpl) hsw).imp λ_ _ _ h=>Zrt h
end
end DL
namespace DL
open PySem PySem.Spec PyProof.Rows L2
theorem Zey(K:ad):∀d:D,d.isExc=aD->PySem.W.kitOne K (.type d.pyTy) (.type "bool")=aA (d.pyTy=="bool" || ("bool"=="int" &&d.pyTy=="bool")):=by intro d h;cases d<;> first| (cases h;done)|with_unfolding_all rfl
end DL
namespace DL
open PySem PySem.Spec PyProof.Rows L2
variable{K:ad}
section
variable{Z:Ent K}{H:Hp}{σ:L2.St}{Q:Bool->Hp->Prop}
@[simp]def Kf(f:FT):FT:=λδ=>(f δ).bind λp=>some (p.1,δ)
theorem Zi1{f:FT}(h:Yi Z (Kf f) σ H Q):Yi Z f σ H Q:=by obtain⟨F,δ,own,b,δ',s,e,k⟩:=h;obtain⟨⟨b1,δ1⟩,e1,e2⟩:=aa.mp e;cases e2;exact⟨F,δ,own,b1,δ1,s,e1,λH' F' own' sH sF s'=>k H' F own sH (Zl.refl F) (s.grow sH)⟩
end
section
variable{X:Cx}{Z:Ent X.K}{a:b7}{ft:FT}
theorem Zez(ha:PT X a (Yi Z ft)):PT X a (Yi Z (Kf ft)):=ha.imp λ_ _ _ h=>Zi1 h
end
end DL
namespace DL
open PySem PySem.Spec PyProof.Rows L2
variable{K:ad}
end DL
namespace DL
open PySem PySem.Spec PyProof.Rows L2
variable{K:ad}
end DL
namespace DL
open PySem L2
variable{K:ad}
inductive RX where
 |v (rv:RV) (δ:Yw)|x (e:Exn) (δ:Yw)
inductive RL(α:Type)where
 |v (xs:List α) (δ:Yw)|x (e:Exn) (δ:Yw)
abbrev FX:=Yw->Option RX
abbrev FAX:=Yw->Option (RL RV)
def XOk(Z:Ent K)(F:Hp)(σ:St)(e:Exn)(δ:Yw):Prop:=∀H' F' own' cls od,Zl F F'->SR Z F' H' σ δ own'->Vo K F' e cls od->Z.x cls od σ H'
theorem XOk.mono{Z:Ent K}{F F':Hp}{σ:St}{e:Exn}{δ:Yw}(s:Zl F F')(h:XOk Z F σ e δ):XOk Z F' σ e δ:=λH2 F2 own cls od a=>h H2 F2 own cls od (s.trans a)
def Ce(Z:Ent K)(f:FX):TE:=λσ H Q=>∃F δ own r,SR Z F H σ δ own/\f δ=aA r/\match r with
 | .v rv δ'=>∀v H' F' own',Zl H H'->Zl F F'->SR Z F' H' σ δ' own'->N6 Z F' H' σ own' rv v->Q v H'
 | .x e δ'=>XOk Z F σ e δ'
def Cy(Z:Ent K)(f:FAX):TA:=λσ H Q=>∃F δ own r,SR Z F H σ δ own/\f δ=aA r/\match r with
 | .v rvs δ'=>∀vs H' F' own',Zl H H'->Zl F F'->SR Z F' H' σ δ' own'->RVSs K F' σ rvs vs->Q vs H'
 | .x e δ'=>XOk Z F σ e δ'
@[simp]def FX.val(f:FX):FE:=λδ=>match f δ with
 |some (.v rv δ')=>aA (rv,δ')
 |_=>aB
section
variable{Z:Ent K}{H:Hp}{σ:St}{Q:VK}{E:Ends}
theorem P4{f:FX}(h:Ze Z f.val σ H Q):Ce Z f σ H Q:=by
 obtain⟨F,δ,own,rv,δ',s,e,k⟩:=h;unfold FX.val at e;split at e
 .rename_i rv' δ2 hf;cases e;exact⟨F,δ,own,_,s,hf,k⟩
 .cases e
theorem P5{f:FX}{F:Hp}{δ δ':Yw}{own:Nat->Zo}{x:Exn}(s:SR Z F H σ δ own)(hf:f δ=aA (.x x δ'))(k:XOk Z F σ x δ'):Ce Z f σ H Q:=⟨F,δ,own,_,s,hf,k⟩
@[simp]def Dp(fe:FE):FX:=λδ=>(fe δ).bind λp=>some (.v p.1 p.2)
theorem Zi4{fe:FE}(h:Ce Z (Dp fe) σ H Q):Ze Z fe σ H Q:=by obtain⟨F,δ,own,r,s,e,k⟩:=h;obtain⟨⟨rv,δ'⟩,e1,e2⟩:=aa.mp e;cases e2;exact⟨F,δ,own,rv,δ',s,e1,k⟩
@[simp]def Ak:FAX:=λδ=>some (.v [] δ)
@[simp]def Mk(fx:FX)(fa:FAX):FAX:=λδ=>(fx δ).bind fun
 | .v rv δ1=>(fa δ1).bind fun
  | .v rvs δ2=>aA (.v (rv::rvs) δ2)
  | .x e δ2=>aA (.x e δ2)
 | .x e δ1=>aA (.x e δ1)
theorem Zbf{R:List V->Hp->Prop}(h:Cy Z Ak σ H R):Av σ H R:=by obtain⟨F,δ,own,r,s,e,k⟩:=h;cases e;exact k [] H F own (Zl.refl H) (Zl.refl F) s .nil
theorem Xd{fx:FX}{fa:FAX}{R:List V->Hp->Prop}(h:Cy Z (Mk fx fa) σ H R):Gu (Ce Z fx) (Cy Z fa) σ H R:=by
 obtain⟨F,δ,own,r,s,e,k⟩:=h;obtain⟨r1,e1,e2⟩:=aa.mp e;cases r1 with
 |x x1 δ1=>cases e2;exact⟨F,δ,own,_,s,e1,k⟩
 |v rv δ1=>
  obtain⟨r2,e3,e4⟩:=aa.mp e2;refine⟨F,δ,own,_,s,e1,λv H1 F1 own1 sH sF s1 r1=>?_⟩;obtain⟨F2,sF2,s2,rr⟩:=s1.settleR r1;cases r2 with
  |x x2 δ2=>cases e4;exact⟨F2,δ1,own1,_,s2,e3,XOk.mono (sF.trans sF2) k⟩
  |v rvs δ2=>cases e4;exact⟨F2,δ1,own1,_,s2,e3,λvs H3 F3 own3 sH3 sF3 s3 r3=>k _ H3 F3 own3 (sH.trans sH3) (sF.trans (sF2.trans sF3)) s3 (.cons (rr.mono sF3) r3)⟩
end
inductive XO where
 |v (sv:SV)|x (e:Exn)
def spX(K:ad)(n:Nat)(g:List D->Option XO):Sp:=λvs H Q E=>∃F ds o,Zl F H/\Reps K F ds vs/\ds.length=n/\g ds=aA o/\match o with
 | .v sv=>∀v H' F' ns,Zl H H'->Zl F F'->Zl F' H'->(∀(b:ak) (o:HO),F' b=aA o->F b=aA o\/H b=aB)->Shape K F' sv v ns->(U6 ns).Nodup->(∀p∈ns,F' p.1=aB/\H p.1=aB/\H' p.1=aA p.2)->Q v H'
 | .x e=>∀cls od H' F',Zl H H'->Zl F F'->Zl F' H'->(∀(b:ak) (o:HO),F' b=aA o->F b=aA o\/H b=aB)->Vo K F' e cls od->E cls od H'
theorem Zi6{n:Nat}{g:List D->Option XO}{vs:List V}{H:Hp}{Q:VK}{E:XK}(h:spX K n g vs H Q E):vs.length=n:=by obtain⟨F,ds,o,le,r,hn,e,k⟩:=h;rw[<-r.length];exact hn
@[simp]def Ze0(f:FS)(n:Nat)(ds:List D):Option XO:=match f (Os n ds)with
 |some (.rt sv)=>aA (.v sv)
 |some (.nx _)=>aA (.v (.fz .non))
 |some (.ex e _)=>aA (.x e)
 |_=>aB
abbrev entX(H F:Hp)(E:XK):Ent K:=⟨H,F,λcls od _ H'=>E cls od H'⟩
theorem SR.ent{Z Y:Ent K}{F H:Hp}{σ:St}{δ:Yw}{own:Nat->Zo}(s:SR Z F H σ δ own)(h1:Z.h=Y.h:=by rfl)(h2:Z.f=Y.f:=by rfl):SR Y F H σ δ own:=
 ⟨s.le,h1▸h2▸s.fro,h1▸s.old,s.len,s.at',s.nod,λi p hp=>h1▸s.ok i p hp,s.sep⟩
theorem Zbg{N:List Str}{n:Nat}{f:FS}{vs:List V}{H:Hp}{Q:VK}{E:XK}(h:spX K n (Ze0 f N.length) vs H Q E):∃F,Zx (entX H F E:Ent K) f {nx:=λ_ H'=>Q .non H',rt:=Q} (L2.Qd N vs) H:=by
 obtain⟨F,ds,o,le,r,hn,e,k⟩:=h;have s0:SR (entX H F E:Ent K) F H (L2.Qd N vs) (Os N.length ds) λ_=>[]:=(R9 (N:=N) le r).ent;unfold Ze0 at e;split at e
 .rename_i sw hf;cases e;exact⟨F,F,_,_,.rt sw,s0,hf,λv H' F' ns a b c d e' nd ok=>k v H' F' ns d a b c e' nd ok⟩
 .rename_i δ hf;cases e;exact⟨F,F,_,_,.nx δ,s0,hf,λσ' H' F' own' a s'=>k .non H' F' [] s'.old a s'.le s'.fro (.fz .non) cz λ_ h=>(nomatch h)⟩
 .rename_i x δ hf;cases e;exact⟨F,F,_,_,.ex x δ,s0,hf,λσ' H' F' own' cls od a s' r'=>k cls od H' F' s'.old a s'.le s'.fro r'⟩
 .cases e
section
variable{Z:Ent K}{H:Hp}{σ:St}{Q:VK}{E:Ends}
theorem SR.behind{F2 H1 F3 H3:Hp}{δ2:Yw}{own2:Nat->Zo}(s2:SR Z F2 H1 σ δ2 own2)(sH3:Zl H1 H3)(sF3:Zl F2 F3)(le3:Zl F3 H3)(fro3:∀(b:ak) (o:HO),F3 b=aA o->F2 b=aA o\/H1 b=aB):SR Z F3 H3 σ δ2 own2:=by
 refine⟨le3,λb o e=>?_,s2.old.trans sH3,s2.len,λi sw ei=>?_,s2.nod,λi p hp=>?_,s2.sep⟩
 .rcases fro3 b o e with z|z
  .exact s2.fro b o z
  .exact .inr (s2.old.free z)
 .obtain⟨w,h1,h2⟩:=s2.at' i sw ei;exact⟨w,h1,h2.mono sF3⟩
 .obtain⟨a,b,c⟩:=s2.ok i p hp;refine⟨?_,b,sH3 _ _ c⟩;cases z:F3 p.1 with
  |none=>rfl
  |some u=>
   rcases fro3 _ u z with y|y
   .rw[a]at y;cases y
   .rw[c]at y;cases y
@[simp]def Dq(n:Nat)(g:List D->Option XO)(fa:FAX):FX:=λδ=>(fa δ).bind fun
 | .x e δ1=>aA (.x e δ1)
 | .v rvs δ1=>(DL.frzAll rvs δ1).bind λq=>if q.1.length=n then(g q.1).bind (fun
  | .v sv=>aA (.v (.tmp sv) (if sv.scal then δ1 else q.2))
  | .x e=>aA (.x e q.2))else aB
theorem Zi7{n:Nat}{g:List D->Option XO}{fa:FAX}(h:Ce Z (Dq n g fa) σ H Q):Zdj (spX K n g) Z.x (Cy Z fa) σ H Q:=by
 obtain⟨F,δ,own,rx,s,e,k⟩:=h;obtain⟨r1,e1,e2⟩:=aa.mp e;cases r1 with
 |x x1 δ1=>cases e2;exact⟨F,δ,own,_,s,e1,k⟩
 |v rvs δ1=>
  obtain⟨⟨ds,δ2⟩,e3,e4⟩:=aa.mp e2;refine⟨F,δ,own,_,s,e1,λvs H1 F1 own1 sH sF s1 r1=>?_⟩;obtain⟨F2,own2,sF2,s2,r2⟩:=s1.frzAll (own:=own) (F:=F) (δ:=δ) r1 e3;by_cases hn:ds.length=n
  .rw[if_pos hn]at e4;obtain⟨o,e5,e6⟩:=aa.mp e4;refine⟨F2,ds,o,s2.le,r2,hn,e5,?_⟩;cases o with
   |x x2=>cases e6;exact λcls od H3 F3 sH3 sF3 le3 fro3 rr=>k H3 F3 own2 cls od (sF.trans (sF2.trans sF3)) (s2.behind sH3 sF3 le3 fro3) rr
   |v sv=>
    cases e6;intro v H3 F3 ns sH3 sF3 le3 fro3 sh nd ok;by_cases hs:sv.scal=aC
    .rw[if_pos hs]at k;obtain⟨_,sh'⟩:=N8 (F':=F1) hs sh;exact k v H3 F1 own1 (sH.trans sH3) sF (s1.grow sH3) ⟨[],sh',cz,λ_ h=>(nomatch h),λ_ _ _ h=>(nomatch h)⟩
    .rw[if_neg hs]at k;exact k v H3 F3 own2 (sH.trans sH3) (sF.trans (sF2.trans sF3)) (s2.behind sH3 sF3 le3 fro3) ⟨ns,sh,nd,λp hp=>⟨(ok p hp).1,(s2.old).free (ok p hp).2.1,(ok p hp).2.2⟩,λi p q hp hq e=>by
      have z:=(s2.ok i q hq).2.2;rw[<-e,(ok p hp).2.1]at z;cases z⟩
  .rw[if_neg hn]at e4;cases e4
@[simp]def Znw(i:Nat)(fx:FX):FS:=λδ=>(fx δ).bind fun
 | .v rv δ1=>(stow i rv δ1).bind λδ'=>aA (.nx δ')
 | .x e δ1=>aA (.ex e δ1)
theorem XOk.of{F:Hp}{x:Exn}{δ:Yw}(k:Rg Z F E (.ex x δ)):XOk Z F σ x δ:=λH' F' own' cls od a b c=>k σ H' F' own' cls od a b c
theorem Znx{i:Nat}{fx:FX}(h:Zx Z (Znw i fx) E σ H):Zap (Ce Z fx) (Ar i) E σ H:=by
 obtain⟨F,δ,own,fl,s,e,k⟩:=h;obtain⟨r,e1,e2⟩:=aa.mp e;cases r with
 |x x1 δ1=>cases e2;exact P5 s e1 (.of k)
 |v rv δ1=>exact P4 (Ht (Z:=Z) (E:=E) (i:=i) (fe:=fx.val) ⟨F,δ,own,fl,s,by unfold Yd FX.val;rw[e1];exact e2,k⟩)
@[simp]def Zi8(i:Nat)(fx:FX):FS:=λδ=>match fx δ with
 |some (.x e δ1)=>(match δ[i]? with
  |some (aA (.ol _))=>aA (.ex e δ1)
  |_=>aB)
 |_=>Ij i fx.val δ
theorem Zrw{F:Hp}{δ:Yw}{own:Nat->Zo}{i:Nat}{xs:List D}(s:SR Z F H σ δ own)(h:δ[i]? =aA (aA (.ol xs))):∃v,σ[i]? =aA (aA v)/\tyV K "list" v H:=by obtain⟨v,hv,sh⟩:=s.at' i _ h;obtain⟨a,vs0,ev,en,r0⟩:=Qg sh;subst ev;exact⟨_,hv,.inl ⟨rfl,vs0,.inl (.inl (s.ok i (a,.lst vs0) (by rw[en];exact af)).2.2)⟩⟩
theorem Zny{i:Nat}{fx:FX}(h:Zx Z (Zi8 i fx) E σ H):Tv (tBM K "list" C9 (Mz i) (Gu (Ce Z fx) Av)) E σ H:=by
 obtain⟨F,δ,own,fl,s,e,k⟩:=h;unfold Zi8 at e;split at e
 .rename_i x δ1 hx;split at e
  .rename_i xs hi;cases e;obtain⟨v,hv,ty⟩:=Zrw s hi;exact⟨v,hv,ty,P5 s hx (.of k)⟩
  .cases e
 .obtain⟨v,hv,ty,q⟩:=Zk0 (Z:=Z) (E:=E) (i:=i) (fe:=fx.val) ⟨F,δ,own,fl,s,e,k⟩;exact⟨v,hv,ty,P4 q⟩
@[simp]def Ta(c:Str):FS:=λδ=>some (.ex ⟨c,[],[]⟩ δ)
theorem Zi9{c:Str}{C:ak}{x:Str}(cl:Uq K c C)(hx:∀cls od σ H',Z.x cls od σ H'->Z.x cls od [] H')(h:Zx Z (Ta c) E σ H):Zdh (λcls od H'=>Z.x cls od [] H') C (Gu (tC (.str x)) Av) E σ H:=by obtain⟨F,δ,own,fl,s,e,k⟩:=h;cases e;exact⟨by show 1<=bv;decide,hx _ _ _ _ (k σ H F own (.ref C) aB (Zl.refl F) s ⟨C,cl,rfl,rfl,rfl⟩)⟩
set_option genInjectivity false in
structure HX where
 x:Str
 np:Pos
 nm:Option (Str×Nat)
 b0:Stmt
 suite:List Stmt
 pos:Pos
 B:ak
 yes:List Str
 no:List Str
 f:FS
set_option genInjectivity false in
structure HX.Sub(K:ad)(h:HX):Prop where
 yes:∀c∈h.yes,∀C,Uq K c C->eg K C (.ref h.B)=aA aC
 no:∀c∈h.no,∀C,Uq K c C->eg K C (.ref h.B)=aA aD
def HX.hd(Z:Ent K)(h:HX):Hd:=⟨h.x,h.np,h.nm,h.b0,h.suite,h.pos,h.B,Zx Z h.f⟩
set_option genInjectivity false in
structure HF where
 i:Option Nat
 yes:List Str
 no:List Str
 f:FS
@[simp]noncomputable def HX.hf(h:HX):HF:=⟨h.nm.map (·.2),h.yes,h.no,h.f⟩
@[simp]noncomputable def Dr(c:Str):List HF->Option HF
 | []=>aB
 |h::r=>if c∈h.yes then aA h else if c∈h.no then Dr c r else aB
theorem Kg(Z:Ent K){c:Str}{C:ak}(cl:Uq K c C):∀(hs:List HX) {f:HF},(∀h∈hs,h.Sub K)->Dr c (hs.map HX.hf)=aA f->∃h:HX,h.hf=f/\Fn K C (hs.map (HX.hd Z))=aA (h.hd Z)
 | [],f,_,e=>nomatch e
 |h::r,f,ok,e=>by
  have e:(if c∈h.yes then aA h.hf else if c∈h.no then Dr c (r.map HX.hf)else aB)=aA f:=e;show∃g:HX,g.hf=f/\(match eg K C (.ref h.B)with|some aC=>aA (h.hd Z)|some aD=>Fn K C (r.map (HX.hd Z))|none=>aB)=aA (g.hd Z);have kh:=ok h af;by_cases q:c∈h.yes
  .rw[if_pos q]at e;cases e;exact⟨h,rfl,by rw[kh.yes c q C cl]⟩
  .rw[if_neg q]at e;by_cases q2:c∈h.no
   .rw[if_pos q2]at e;obtain⟨g,g1,g2⟩:=Kg Z cl r (λg hg=>ok g (aj _ hg)) e;exact⟨g,g1,by rw[kh.no c q2 C cl];exact g2⟩
   .rw[if_neg q2]at e;cases e
@[simp]noncomputable def Fl.but(i:Nat):Fl->Fl
 | .nx δ=>.nx (δ.set i aB)
 | .bk δ=>.bk (δ.set i aB)
 | .ct δ=>.ct (δ.set i aB)
 | .ex e δ=>.ex e (δ.set i aB)
 | .rt sv=>.rt sv
@[simp]noncomputable def Fl.isEx:Fl->Bool
 | .ex _ _=>aC
 |_=>aD
@[simp]def HF.run(h:HF)(x:Exn)(δ:Yw):Option Fl:=match h.i with
 |none=>h.f δ
 |some i=>if i<δ.length then(h.f (δ.set i (aA (.fz (.exc x.c x.ks x.vs))))).bind λfl=>if fl.isEx=aC then aB else aA (fl.but i)else aB
@[simp]def Zja(fb:FS)(hs:List HF):FS:=λδ=>(fb δ).bind fun
 | .ex x δ1=>(Dr x.c hs).bind λh=>h.run x δ1
 |fl=>aA fl
abbrev Ent.wish(Z:Ent K)(EX:EXT):Ent K:=⟨Z.h,Z.f,EX⟩
theorem SR.unset{F:Hp}{δ:Yw}{own:Nat->Zo}(s:SR Z F H σ δ own)(i:Nat):SR Z F H (σ.set i aB) (δ.set i aB) (put own i []):=by
 refine⟨s.le,s.fro,s.old,by rw[d6,d6];exact s.len,λj sw ej=>?_,λj=>?_,λj p hp=>?_,λj k p q hjk hp hq=>?_⟩
 .by_cases hj:j=i
  .subst hj;have hd:j<δ.length:=by have:=(bp.mp ej).1;simpa using this
   rw[dh hd]at ej;cases ej
  .rw[c9 (Ne.symm hj)]at ej;rw[Yf hj,c9 (Ne.symm hj)];exact s.at' j sw ej
 .by_cases hj:j=i
  .subst hj;rw[Z8];exact cz
  .rw[Yf hj];exact s.nod j
 .by_cases hj:j=i
  .subst hj;rw[Z8]at hp;exact nomatch hp
  .rw[Yf hj]at hp;exact s.ok j p hp
 .by_cases hj:j=i
  .subst hj;rw[Z8]at hp;exact nomatch hp
  .by_cases hk:k=i
   .subst hk;rw[Z8]at hq;exact nomatch hq
   .rw[Yf hj]at hp;rw[Yf hk]at hq;exact s.sep j k p q hjk hp hq
theorem Ze1{F:Hp}{i:Nat}{fl:Fl}(hx:fl.isEx=aD)(k:Rg Z F E (fl.but i)):Rg Z F (E.but i) fl:=by
 cases fl with
 |nx δ=>exact λσ' H' F' own' a b=>k (σ'.set i aB) H' F' _ a (b.unset i)
 |bk δ=>exact λσ' H' F' own' a b=>k (σ'.set i aB) H' F' _ a (b.unset i)
 |ct δ=>exact λσ' H' F' own' a b=>k (σ'.set i aB) H' F' _ a (b.unset i)
 |rt sv=>exact k
 |ex x δ=>cases hx
theorem Zrx{fb:FS}{hs:List HX}(hsub:∀h∈hs,h.Sub K)(h:Zx Z (Zja fb (hs.map HX.hf)) E σ H):Zqm K (λEX=>Zx (Z.wish EX) fb) (hs.map (HX.hd Z)) E σ H:=by
 obtain⟨F,δ,own,fl,s,e,k⟩:=h;obtain⟨f1,e1,e2⟩:=aa.mp e;refine⟨F,δ,own,f1,s.ent,e1,?_⟩;cases f1 with
 |nx δ1=>cases e2;exact λσ' H' F' own' a b=>k σ' H' F' own' a b.ent
 |bk δ1=>cases e2;exact λσ' H' F' own' a b=>k σ' H' F' own' a b.ent
 |ct δ1=>cases e2;exact λσ' H' F' own' a b=>k σ' H' F' own' a b.ent
 |rt sv=>cases e2;exact k
 |ex x δ1=>
  obtain⟨hf,e3,e4⟩:=aa.mp e2;intro σ' H' F' own' cls od sF s' r;obtain⟨C,cl,rc,r2⟩:=r;obtain⟨g,g1,g2⟩:=Kg Z cl hs hsub e3;subst g1;refine⟨C,g.hd Z,rc,g2,?_⟩;have s2:SR Z F' H' σ' δ1 own':=s'.ent;obtain⟨gx,gnp,gnm,gb0,gsu,gpos,gB,gy,gn,gf⟩:=g;cases gnm with
  |none=>exact⟨F',δ1,own',fl,s2,e4,k.mono sF⟩
  |some ni=>
   obtain⟨n,i⟩:=ni;have e4:(if i<δ1.length then(gf (δ1.set i (aA (.fz (.exc x.c x.ks x.vs))))).bind λfl=>if fl.isEx=aC then aB else aA (fl.but i)else aB)=aA fl:=e4;by_cases hc:i<δ1.length
   .rw[if_pos hc]at e4;obtain⟨fl0,e5,e6⟩:=aa.mp e4;have hx0:fl0.isEx=aD:=by
     cases z:fl0.isEx with
     |true=>rw[if_pos z]at e6;cases e6
     |false=>rfl
    rw[if_neg (by rw[hx0];exact ba)]at e6;cases e6;intro a ha;have ha':H' a=aB:=ha;have sm:=Qy (o:=.ext (Cq a C od)) ha';have sF2:Zl F' (Jh F' [(a,.ext (Cq a C od))]):=Qb λq hq=>by obtain rfl:=aq.mp hq;exact s2.le.free ha'
    have s3:SR Z (Jh F' [(a,.ext (Cq a C od))]) (Y7 H' a (.ext (Cq a C od))) σ' δ1 own':=by
     refine(s2.grow sm).addF Nl (λq hq=>?_) (λq hq=>?_) (λq hq=>?_) λi q u hq hu=>?_
     .obtain rfl:=aq.mp hq;exact s2.le.free ha'
     .obtain rfl:=aq.mp hq;exact Ye
     .obtain rfl:=aq.mp hq;exact s2.old.free ha'
     .obtain rfl:=aq.mp hq;intro e;have e':a=u.1:=e;have z:=(s2.ok i u hu).2.2;rw[<-e',ha']at z;cases z
    have rp:Rep K (Jh F' [(a,.ext (Cq a C od))]) (.exc x.c x.ks x.vs) (.ref a):=by
     cases od with
     |none=>obtain⟨r3,r4⟩:=r2;rw[r3,r4];exact .exc cl Ye
     |some dx=>obtain⟨fs,r3,r4,r5⟩:=r2;exact .exd cl Ye (sF2 _ _ r3) r4 (r5.mono sF2)
    have s4:=s3.store (i:=i) (sv:=.fz (.exc x.c x.ks x.vs)) (v:=.ref a) (ns:=[]) (.fz rp) (by rw[s3.len];exact hc);exact⟨_,_,_,fl0,s4,e5,Ze1 hx0 (k.mono (sF.trans sF2))⟩
   .rw[if_neg hc]at e4;cases e4
end
end DL
namespace DL
open PySem PySem.Spec PyProof.Rows L2
section
variable{X:Cx}{Z:Ent X.K}{a b c:b7}{fa fb:FE}{fx fy:FX}{pos:Pos}
theorem Ze2(h:PE X a (Ze Z fa)):PE X a (Ce Z (Dp fa)):=h.imp λ_ _ _ q=>Zi4 q
theorem Ze3:PA X [] (Cy Z Ak):=Ud.imp λ_ _ _ h=>Zbf h
theorem Ds{es:List b7}{fr:FAX}(ha:PE X a (Ce Z fx))(hr:PA X es (Cy Z fr))(hs:av (a::es) X.env=(aD,dk a X.env)::av es X.env:=by rfl):PA X (a::es) (Cy Z (Mk fx fr)):=(W0 ha hr hs).imp λ_ _ _ h=>Xd h
theorem Ze4{k n:Nat}{f:ak}{fd:bx}{ps:List Str}{g:List D->Option XO}{x:Str}{p:Pos}{es:List b7}{fr:FAX}(F:FnOk X.prog X.w X.K X.mg X.base (Nk X.prog X.w) k f fd ps (spX X.K n g))(hr:Room k X.A)(hm:X.mg x=aA (.ref f))(hk:bc X.K (.ref f)=aC)(hb:Yz X.K fd ps [])
  (th:Ho X Z.x) (ha:PA X (a::es) (Cy Z fr)) (hg:Gl X x:=by rfl) (hdb:(x==("__debug__":Str))=aD:=by decide) (he:av (a::es) X.env=(aD,dk a X.env)::av es X.env:=by rfl) (hpl:(dj pos (av es X.env)).any (·.1)=aD:=by rfl):
  PE X (.Call (.Name x p) (a::es) [] pos) (Ce Z (Dq n g fr)):=(Zdk F hr hg hm hk hb th ha hdb he hpl).imp λ_ _ _ h=>Zi7 h
theorem Ze5{P:b5}{w:cw}{K:ad}{mg:Str->Option ag}{base:du}{N:List Str}{qual:Str}{scope:Scope}{f:ak}{cd:ag}{A:c8}{outer:List Env}{s:ap}{H:Hp}{E:XK}:
  Ho (Gq (Nk P w) P w K mg base N qual scope f cd A outer s H E) λcls od _ H'=>E cls od H':=by
 have th:=(O5 (P:=P) (w:=w) (K:=K) (mg:=mg) (base:=base) (N:=N) (qual:=qual) (scope:=scope) (f:=f) (cd:=cd) (A:=A) (outer:=outer) (s:=s) (H:=H) (E:=E)).t.pass rfl;intro pins σ H1 s1 e s2 I h;exact th pins σ H1 s1 e s2 I h
theorem Fun.okX{P:b5}{w:cw}{K:ad}{mg:Str->Option ag}{base:du}{x qual:Str}{st:Stmt}{f:ak}{fd:bx}{N ps:List Str}{k:Nat}{sp:Sp}(F:Fun K x qual st f fd)(S:FnScope N ps (Zp st))(len:∀vs H Q E,sp vs H Q E->vs.length=ps.length)
  (hbody:∀(cdv:ag) (A:c8) (outer:List Env) (s:ap) (H:Hp) (vs:List V) (Q:VK) (E:XK),Room k (A.deeper (envOfC qual (Zp st) s.heap.objs.size f cdv))->sp vs H Q E->
   ∃t,Gp (Gq (Nk P w) P w K mg base N qual (Zp st) f cdv A outer s H E) (Qx st) t/\t {nx:=λ_ H'=>Q .non H',rt:=Q} (L2.Qd N vs) H):FnOk P w K mg base (Nk P w) (k+1) f fd ps sp:=by
 obtain⟨oc,od,kV,doc,pm,an,cdv,ct,osl,rfl,lk,hcd⟩:=F.ex;exact Zkq lk hcd S len λA outer s H vs Q E hr hsp=>hbody cdv A outer s H vs Q E hr hsp
theorem Znz(i:Nat){x:Str}{pos':Pos}(hN:X.N.Nodup)(he:PE X a (Ce Z fx))(hi:X.N[i]? =aA x:=by rfl)(hx:Loc X.env.scope x:=by first|exact Or.inl rfl|exact fg rfl)(hs:swapsWith a (aA (.Name x pos')) pos.line X.env=pure aD:=by rfl)(hf:X.fn x=aC\/X.env.scope.names.lookup x=aA .local:=by first|exact .inl rfl|exact .inr rfl):
  PS X (.Assign [.Name x pos'] a pos) (Zx Z (Znw i fx)):=(Zct hN hi hx he hs hf).imp λ_ _ _ h=>Znx h
theorem Zn0(i:Nat){x:Str}{px apos cpos:Pos}(hb:PE X b (Ce Z fx))(hN:X.N[i]? =aA x:=by rfl)(hv:Vb X.env.scope x:=by first|exact Or.inl rfl|exact fg (Or.inl rfl)|exact fg (fg rfl))(hd:(x==("__debug__":Str))=aD:=by decide)
  (hcd:(x==("__classdict__":Str))=aD:=by decide) (hbase:attributeBase (.Name x px) "append" X.env (dk (.Name x px) X.env)=dk (.Name x px) X.env:=by rfl)
  (hfew:((dj cpos (av [b] X.env)).all (λx=>!x.1)&&(backToKw cpos (keywordEach [] X.env)).all (λx=>x.1.isSome)&&decide ([b].length+([]:List Keyword).length+(if([]:List Keyword).isEmpty then 0 else 1)<30))=aC:=by rfl)
  (hline:(apos.endLine==cpos.line)=aC:=by rfl) (hs:av [b] X.env=(aD,dk b X.env)::av [] X.env:=by rfl) (hpl:(dj cpos (av [] X.env)).any (·.1)=aD:=by rfl) (hsw:swapsWith (.Call (.Attribute (.Name x px) "append" apos) [b] [] cpos) aB pos.line X.env=pure aD:=by rfl):
  PS X (.Expr (.Call (.Attribute (.Name x px) "append" apos) [b] [] cpos) pos) (Zx Z (Zi8 i fx)):=
 (Bh (R1 PySem.F.plainAttrs_list PySem.F.slot_list_append PySem.F.type_list_append Ga (On (i:=i) hN hv hd hcd) (W0 hb Ud hs) hbase hfew hline hs hpl) hsw).imp λ_ _ _ h=>Zny h
theorem Ef{K:ad}{h:du}{mg:Str->Option ag}{x:Str}{C:ak}{bmB:List ag}{newId:String}(X:K.In h)(hb:mg x=aA (.ref C))(q:PySem.W.excIn K C bmB newId=aC):OwnCls x C bmB newId mg h:=by
 refine⟨hb,?_⟩;unfold PySem.W.excIn at q;split at q
 .rename_i dd cd sl ho;split at q
  .rename_i C2 bm s0 s1 s2 s3 id s5 hm hs;simp only[Bool.and_eq_true,beq_iff_eq,Bool.not_eq_true']at q;obtain⟨⟨⟨⟨⟨rfl,rfl⟩,hdl⟩,ht⟩,hok⟩,hin⟩:=q;obtain⟨nm,bs,mro,ns,qn,hd,sn,sub,ab,col,del⟩:=cd;dsimp only at hm hdl hok hin;subst hm hdl;obtain⟨l⟩:=sl;simp only at hs;subst hs;exact⟨bm,ns,nm,qn,bs,hd,sn,sub,ab,col,dd,s0,s1,s2,s3,s5,_,X _ _ ho,
    .of_isNs (PySem.W.isNs_of_in X hok),PySem.W.nsMap_none_of_in X hok hin,PySem.W.tail_of_in X ht⟩
  .cases q
 .cases q
theorem Ze6:∀h bm,OwnTail h VEB bm->bm.contains (.type "BaseException")=aC:=λh bm t=>t.hasType (by decide)
theorem Al{x:Str}{C:ak}{np cpos cp:Pos}{y:Str}{j:Nat}(th:A1 X λcls od H'=>Z.x cls od [] H')(hc:X.calm=aC)(oc:OwnCls x C VEB "ValueError.__new__" X.mg X.base)(cl:Uq X.K x C)(hx:∀cls od σ H',Z.x cls od σ H'->Z.x cls od [] H':=by exact λ_ _ _ _ h=>h)(hex:X.ex=[]:=by rfl)(hg:Gl X x:=by rfl)
  (he:av [.Constant (.str y) j cp] X.env=(aD,dk (.Constant (.str y) j cp) X.env)::av [] X.env:=by rfl) (hpl:((dj cpos (av [.Constant (.str y) j cp] X.env)).any λx=>x.1)=aD:=by rfl)
  (hbk:∃z rest,dj cpos (av [.Constant (.str y) j cp] X.env)=(aD,z)::rest:=by exact⟨_,_,rfl⟩) (hd:(x==("__debug__":Str))=aD:=by decide):
  PS X (.Raise (aA (.Call (.Name x np) [.Constant (.str y) j cp] [] cpos)) aB pos) (Zx Z (Ta x)):=
 (Zdi th hc hex oc hg (W0 Vc Ud he) he hpl hbk Ze6 hd).imp λ_ _ _ h=>Zi9 cl hx h
theorem Zry{body:List Stmt}{fb:FS}{h0:HX}{hs:List HX}(hb:∀pn xe EX,Bl (X.inTry pn xe) EX->Gp (X.inTry pn xe) body (Zx (Z.wish EX) fb))(ok:∀h∈h0::hs,(h.hd Z).Ok X)(hsub:∀h∈h0::hs,h.Sub X.K)(hex:X.ex=[]:=by rfl)(hst:X.stack=X.env::X.outer:=by rfl)(hfr:X.env.frame=aA X.env.locals:=by rfl):
  PS X (.Try body (((h0::hs).map (HX.hd Z)).map Hd.ast) [] [] pos) (Zx Z (Zja fb ((h0::hs).map HX.hf))):=
 (Zm1 (tb:=λEX=>Zx (Z.wish EX) fb) (h0:=h0.hd Z) (hs:=hs.map (HX.hd Z)) hb (λh hh=>by
  have hh':h∈(h0::hs).map (HX.hd Z):=hh;obtain⟨g,hg,rfl⟩:=ax.mp hh';exact ok g hg) hex hst hfr).imp λ_ _ _ h=>Zrx (hs:=h0::hs) hsub h
theorem Dt{α:Type}{P:α->Prop}{a:α}(h:P a):∀x∈[a],P x:=λx hx=>by rw[aq.mp hx];exact h
theorem Du{P:ak->Prop}{K:ad}:∀c∈([]:List Str),∀C,Uq K c C->P C:=λ_ h=>nomatch h
theorem Ze7{P:ak->Prop}{K:ad}{c:Str}{a:ak}{r:List Str}(x:Uq K c a)(m:P a)(t:∀c∈r,∀C,Uq K c C->P C):∀d∈c::r,∀C,Uq K d C->P C:=λd hd C cl=>by
 rcases bo.mp hd with e|e
 .subst e;have z:=x.symm.trans cl;cases z;exact m
 .exact t d e C cl
theorem Zjb{P:Str->Nat->Prop}:∀n i,(aB:Option (Str×Nat))=aA (n,i)->P n i:=λ_ _ h=>nomatch h
end
end DL
namespace DL
open PySem PySem.Spec PyProof.Rows L2
section
variable{X:Cx}{pins:List (ak×Obj)}{σ:L2.St}{H:Hp}{s:ap}
theorem Inv.trackO{a:ak}{o:HO}(I:Inv X pins σ H s)(e0:X.s₀.heap.get? a=aB)(eH:H a=aB)(le:a≠X.env.locals)(ce:∀x c,X.env.cells.lookup x=aA c->c≠a)(pe:∀p∈X.pn++pins,p.1≠a)(new:Yu X.prog X.w (Y7 H a o) s.heap a o):Inv X pins σ (Y7 H a o) s:=by
 refine⟨I.ok,I.os,I.bare,⟨I.base.keep,I.base.slot,λb o q n hx=>?_,I.base.there,λb xs q=>?_,λb o u q=>?_,λb ps q=>?_⟩,I.loc,I.cell,?_,λx c ec=>?_,λp hp=>?_,λb u q=>?_,I.len⟩
 .rw[Zv (λz=>by rw[z,e0]at q;cases q)];exact I.base.free b o q n hx
 .have:=I.base.tups b xs q;rw[Zv (λz=>by rw[z,eH]at this;cases this)];exact this
 .have:=I.base.frzs b o u q;rw[Zv (λz=>by rw[z,eH]at this;cases this)];exact this
 .obtain⟨m,this⟩:=I.base.tbls b ps q;exact⟨m,by rw[Zv (λz=>by rw[z,eH]at this;cases this)];exact this⟩
 .rw[Zv (Ne.symm le)];exact I.free
 .rw[Zv (ce x c ec)];exact I.freeC x c ec
 .obtain⟨q,n,r⟩:=I.pin p hp;exact⟨q,by rw[Zv (pe p hp)];exact n,r⟩
 .by_cases hb:b=a
  .subst hb;rw[Ye]at q;cases q;exact new
  .rw[Zv hb]at q;exact(I.hok b u q).stay (λc v _ z=>z) (λc z=>by rw[Zv (λy=>by rw[y,eH]at z;cases z)];exact z) (λc xs z=>by rw[Zv (λy=>by rw[y,eH]at z;cases z)];exact z) λc o z=>by rw[Zv (λy=>by rw[y,eH]at z;cases z)];exact z
def Ze8(trs:List (TE×TE)):TE:=λσ H Q=>Le trs σ H λps H2=>∃kvs:List (Key×V),ps=kvs.map (λkv=>(kV kv.1,kv.2))/\kvs.length<=15/\∀p ep,H2 p=aB->Q (.ref p) (Y7 H2 p (.dK (Cp [] kvs) ep))
theorem Ze9{pos:Pos}{keys:List (Option b7)}{values:List b7}{trs:List (TE×TE)}(h:PPs X pos keys values trs)(hall:keys.all (·.isSome)=aC)(hl:keys.length=values.length)(h0:keys≠[])
  (h15:keys.length<=15):PE X (.Dict keys values pos) (Ze8 trs):=by
 intro pins s σ H Q I q;have hn:=I.hok.fresh (bg s.heap.objs.size);have I0:=I.kept (h':=s.heap.push {cls:=.type "dict",data:=.dict #[]}) (t':=s.toks) (λ_ _ q=>az _ q);have hob:(s.heap.push {cls:=.type "dict",data:=.dict #[]}).get? s.heap.objs.size=aA {cls:=.type "dict",data:=.dict #[]}:=b3 _ rfl;have old:∀b o,s.heap.get? b=aA o->b≠s.heap.objs.size:=λb o z=>de (bi z);have apart:∀p∈X.pn++pins,p.1≠s.heap.objs.size:=λp hp=>old _ _ (I.pin p hp).1;have hloc:s.heap.objs.size≠X.env.locals:=λz=>eh _ (cn (z▸I.lt) (bg _));have hcel:∀x c,X.env.cells.lookup x=aA c->c≠s.heap.objs.size:=λx c ec=>by obtain⟨v,o,ho,_⟩:=I.cell x c ec;exact old _ _ ho
 have hs0:X.s₀.heap.get? s.heap.objs.size=aB:=Heap.get?_none_of_le I.sz;have I1:=I0.pins_of (pins':=(s.heap.objs.size,{cls:=.type "dict",data:=.dict #[]})::pins) λp hp=>by
  rcases bo.mp hp with z|z
  .subst z;exact⟨hob,hn,hloc,I.nofs (bg _),λv z=>nomatch z⟩
  .exact I0.pin p (b6 _ z)
 refine wpAny_Dict_walk (knd:=Zs X.prog X.w) hall hl h0 h15 (Wl (h _ _ σ _ _ I1 q) λws s2 zq9=>?_);obtain⟨ps,H2,I2,rel,kvs,ep,lk,q2⟩:=zq9;subst ep;obtain⟨rs,c,rk⟩:=Aw (P:=X.prog) (w:=X.w) rel;obtain⟨p1,p2,p3,p4,p5⟩:=I2.pin (s.heap.objs.size,{cls:=.type "dict",data:=.dict #[]}) (b6 _ af);have new0:Yu X.prog X.w (Y7 H2 s.heap.objs.size (.dK [] 0)) s2.heap s.heap.objs.size (.dK [] 0):=(show Yu X.prog X.w (λ_=>aB) _ _ (.dK [] 0)from N0 s.heap I.big).stay (λb u hb z=>by
  rcases hb with rfl|hb
  .rw[hob]at z;cases z;exact p1
  .cases hb) (λ_ z=>nomatch z) (λ_ _ z=>nomatch z) λ_ _ z=>nomatch z
 have I3:Inv X pins σ (Y7 H2 s.heap.objs.size (.dK [] 0)) s2:=Inv.trackO (I2.pins_of (pins':=pins) λp hp=>I2.pin p (b6 _ (aj _ hp))) hs0 p2 hloc hcel apart new0;obtain⟨z,hd,vs0,r0,dd⟩:=Hm I3.hok ⟨_,(show Y7 H2 s.heap.objs.size (.dK [] 0) s.heap.objs.size=aA (.dK [] 0)from Ye)⟩;cases r0;refine⟨rs,c,dd,λh' dd' hs=>?_⟩;have hz:(Cp [] kvs).length<=sizeLine:=by have h1:=Gv kvs [];rw[List.length_nil]at h1;rw[sizeLine_eq];omega
 have he:∃q,h'.get? s.heap.objs.size=aA q:=let⟨q,_,_,hq,_⟩:=dd';⟨q,hq⟩
 obtain⟨ep,ok⟩:=Ld hz hd (rk.merge .nil) dd';have I4:L2.Inv X pins σ (Y7 (Y7 H2 s.heap.objs.size (.dK [] 0)) s.heap.objs.size (.dK (Cp [] kvs) ep)) {s2 with heap:=h',toks:=s2.toks+ws.length}:=Ag I3 (by rw[Ye];exact True.intro) hs he (ok _);rw[Zg1]at I4;exact⟨.ref s.heap.objs.size,_,I4,rfl,q2 _ ep p2⟩
end
section
variable{K:ad}{Z:Ent K}{σ:L2.St}{H:Hp}{Q:VK}
theorem Xe{f:FE}{Q':VK}(m:∀v H,Q v H->Q' v H)(h:Ze Z f σ H Q):Ze Z f σ H Q':=by obtain⟨F,δ,own,rv,δ',s,e,k⟩:=h;exact⟨F,δ,own,rv,δ',s,e,λv H' F' own' a b c d=>m _ _ (k v H' F' own' a b c d)⟩
def tPD(Z:Ent K)(l:List (Str×FE)):List (TE×TE):=l.map λp=>(tC (.str p.1),Ze Z p.2)
@[simp]def L1:List (Str×FE)->FD
 | []=>Zw
 |p::r=>Zk p.2 (L1 r)
theorem Dv:∀(l:List (Str×FE)) {σ:L2.St} {H:Hp} {R:List (V×V)->Hp->Prop},Jy Z (L1 l) σ H (λvs H'=>R ((l.map λp=>V.str p.1).zip vs) H')->Le (tPD Z l) σ H R
 | [],σ,H,R,h=>by have:=Fp h;exact this
 |p::r,σ,H,R,h=>by have h2:=Rf (fe:=p.2) (fd:=L1 r) h;exact Xe (λv H1 q=>Dv r (R:=λps H3=>R ((.str p.1,v)::ps) H3) q) h2
@[simp]def Eg(l:List (Str×FE)):FE:=λδ=>(L1 l δ).bind λp=>if p.1.length=l.length then some (.tmp (.oK (l.map λq=>.inr q.1) p.1),p.2)else none
theorem Kh:∀(more acc:List (Key×V)),((acc++more).map (·.1)).Nodup->Cp acc more=acc++more
 | [],acc,_=>by show acc=acc++[];rw[dm]
 |p::r,acc,h=>by
  have e:Qa acc p.1 p.2=acc++[p]:=by unfold Qa;rw[if_neg];intro z;obtain⟨q,hq,z⟩:=List.any_eq_true.mp z;rw[b4,List.nodup_append]at h;exact h.2.2 p.1 (ax.mpr ⟨q,hq,of_decide_eq_true z⟩) p.1 (by simp) rfl
  show Cp (Qa acc p.1 p.2) r=_;rw[e,Kh r (acc++[p]) (by simpa using h)];simp
theorem Xf{l:List (Str×FE)}(h:(l.map (·.1)).Nodup):(l.map λq=>(bh q.1:Key)).Nodup:=by
 have:(l.map λq=>(bh q.1:Key))=(l.map (·.1)).map Sum.inr:=by rw[cx];rfl
 rw[this];exact List.Pairwise.map _ (λa b hab z=>hab (bh.inj z)) h
theorem Zfa:∀(l:List (Str×FE)) (vs:List V),(l.map λp=>V.str p.1).zip vs=((l.map λq=>(bh q.1:Key)).zip vs).map λkv=>(kV kv.1,kv.2)
 | [],_=>rfl
 |_::_,[]=>rfl
 |p::r,v::vs=>by rw[ay,ay,List.zip_cons_cons,List.zip_cons_cons,ay,Zfa r vs];rfl
theorem Zjc{l:List (Str×FE)}(hnd:(l.map (·.1)).Nodup)(h15:l.length<=15)(h:Ze Z (Eg l) σ H Q):Ze8 (tPD Z l) σ H Q:=by
 obtain⟨F,δ,own,rv,δ',s,e,k⟩:=h;obtain⟨⟨ds,δ1⟩,e1,e2⟩:=aa.mp e;by_cases hlen:ds.length=l.length
 .rw[if_pos hlen]at e2;cases e2;refine Dv l ⟨F,δ,own,ds,δ1,s,e1,λvs H1 F1 own1 sH sF s1 r1=>?_⟩;have hv:vs.length=l.length:=by rw[<-r1.length];exact hlen
  have hk:(((l.map λq=>(bh q.1:Key)).zip vs).map (·.1))=l.map λq=>(bh q.1:Key):=List.map_fst_zip (by rw[am,hv];exact bg _);have hs:(((l.map λq=>(bh q.1:Key)).zip vs).map (·.2))=vs:=List.map_snd_zip (by rw[am,hv];exact bg _);refine⟨(l.map λq=>(bh q.1:Key)).zip vs,?_,?_,λp ep hp=>?_⟩
  .exact Zfa l vs
  .rw[List.length_zip,am,hv,Nat.min_self];exact h15
  .rw[Kh _ [] (by rw[cy,hk];exact Xf hnd),cy];exact Fin.one (λw H' F' ns a b c t=>k w H' F' own1 (sH.trans a) (sF.trans b) c ⟨ns,t⟩) s1 (.oK hk (by rw[hs];exact r1)) hp
 .rw[if_neg hlen]at e2;cases e2
end
section
variable{X:Cx}{Z:Ent X.K}{a b c:b7}{fa fb fc:FE}{pos:Pos}
theorem Zn1:PPs X pos [] [] (tPD Z []):=Zhq
theorem Zjd{k:Str}{j:Nat}{p:Pos}{ks:List (Option b7)}{vs:List b7}{l:List (Str×FE)}(hv:PE X a (Ze Z fa))(hr:PPs X pos ks vs (tPD Z l)):PPs X pos (aA (.Constant (.str k) j p)::ks) (a::vs) (tPD Z ((k,fa)::l)):=Zc8 Vc hv hr
theorem Zje{keys:List (Option b7)}{values:List b7}{l:List (Str×FE)}{ks:List Str}(h:PPs X pos keys values (tPD Z l))(hnd:ks.Nodup)(hks:l.map (·.1)=ks:=by rfl)(h15:l.length<=15:=by decide)(hall:keys.all (·.isSome)=aC:=by rfl)(hl:keys.length=values.length:=by rfl)(h0:keys≠[]:=by exact List.cons_ne_nil _ _)
  (hk:keys.length=l.length:=by rfl):PE X (.Dict keys values pos) (Ze Z (Eg l)):=(Ze9 h hall hl h0 (by rw[hk];exact h15)).imp λ_ _ _ q=>Zjc (by rw[hks];exact hnd) h15 q
end
end DL
namespace DL
open PySem PySem.Spec PyProof.Rows L2
end DL
namespace DL
open PySem PySem.Spec PyProof.Rows L2
section
variable{X:Cx}{Z:Ent X.K}{pos:Pos}
theorem Zjf{body:List Stmt}{fb f:FS}{x:Str}{np hp:Pos}{b0:Stmt}{suite:List Stmt}{B:ak}{yes no:List Str}(hb:∀pn xe EX,Bl (X.inTry pn xe) EX->Gp (X.inTry pn xe) body (Zx (Z.wish EX) fb))(mg:X.mg x=aA (.ref B))
  (ck:PySem.W.typeIn X.K (.ref B)=aA (.type "type")/\PySem.W.isClsIn X.K B=aC/\eg X.K B (.type "BaseException")=aA aC) (su:∀a,Gp (X.inSuite a) (b0::suite) (Zx Z f))
  (hy:∀c∈yes,∀C,Uq X.K c C->eg X.K C (.ref B)=aA aC) (hn:∀c∈no,∀C,Uq X.K c C->eg X.K C (.ref B)=aA aD)
  (gl:Gl X x:=by rfl) (db:(x==("__debug__":Str))=aD:=by decide) (hex:X.ex=[]:=by rfl) (hst:X.stack=X.env::X.outer:=by rfl) (hfr:X.env.frame=aA X.env.locals:=by rfl):
  PS X (.Try body [.ExceptHandler (aA (.Name x np)) aB (b0::suite) hp] [] [] pos) (Zx Z (Zja fb [⟨aB,yes,no,f⟩])):=
 Zry (h0:=⟨x,np,aB,b0,suite,hp,B,yes,no,f⟩) (hs:=[]) hb (Dt ⟨gl,mg,ck.1,ck.2.1,ck.2.2,db,Zjb,su⟩) (Dt ⟨hy,hn⟩) hex hst hfr
end
end DL
namespace L2
open PySem PySem.Spec PyProof.Rows
noncomputable def Oj{α:Type}(xs:List α)(lo hi st:Option Int):List α:=
 (sliceRange (sliceBounds lo hi st xs.length).1 (sliceBounds lo hi st xs.length).2.1 (sliceBounds lo hi st xs.length).2.2).filterMap (xs[·]?)
theorem Ya.pickI{xs:List V}{us:List ag}(r:Ya xs us):∀is:List Nat,Ya (is.filterMap (xs[·]?)) (is.filterMap (us[·]?))
 | []=>.nil
 |i::is=>by
  cases h:xs[i]? with
  |none=>rw[dr h,dr (r.none_of h)];exact Ya.pickI r is
  |some x=>obtain⟨u,hu,hr⟩:=r.get h;rw[dq h,dq hu];exact .cons hr (Ya.pickI r is)
theorem Zfb(us:List ag)(lo hi st:Option Int):slicePick us.toArray lo hi st=(Oj us lo hi st).toArray:=by unfold slicePick Oj;simp
section
variable{X:Cx}{e st:b7}{te:TE}{lo hi:Option b7}{tl th ts:TO}{pos p2:Pos}
def Zrz(X:Cx)(r:V->Option Int->Option Int->Option Int->Hp->VK->Prop):Prop:=
 ∀(pins:List (ak×Obj)) (s:ap) (σ:St) (H:Hp) (x:V) (v vl vu vs:ag) (lo hi st:Option Int) (sl:ak) (Q:VK),Inv X pins σ H s->Zz x v->s.heap.IsSliceOf sl vl vu vs->IsPart vl lo->IsPart vu hi->IsPart vs st->r x lo hi st H Q->
  ∃T id,typeLookup (.type T) "__getitem__"=pure (aA (.builtin id))/\s.TypeIs v T/\br (cg X.prog X.w) X.A (getItem v (.ref sl)) (EP X pins σ Q) X.xe s
def Zr0(r:V->Option Int->Option Int->Option Int->Hp->VK->Prop)(te:TE)(tl th ts:TO):TE:=λσ H Q=>te σ H λx H1=>tl σ H1 λl H2=>th σ H2 λu H3=>ts σ H3 λw H4=>r x l u w H4 Q
theorem Zbh{r:V->Option Int->Option Int->Option Int->Hp->VK->Prop}(hr:Zrz X r)(he:PE X e te)(hl:PO X lo tl)(hu:PO X hi th)(ht:PO X (aA st) ts):PE X (.Subscript e (.Slice lo hi (aA st) p2) pos) (Zr0 r te tl th ts):=by intro pins s σ H Q I h;refine Subscript_ (Wl (he pins s σ H _ I h) λv s1 zq9=>?_);obtain⟨x,H1,I1,r1,q1⟩:=zq9;refine wpAny_Slice (Wl (hl pins s1 σ H1 _ I1 q1) λvl s2 ⟨l,H2,I2,pl,q2⟩=>Wl (hu pins s2 σ H2 _ I2 q2) λvu s3 ⟨u,H3,I3,pu,q3⟩=>Wl (ht pins s3 σ H3 _ I3 q3) λvs s4 zq9=>?_);obtain⟨w,H4,I4,pw,q4⟩:=zq9;have I5:Inv X pins σ H4 {s4 with heap:=s4.heap.push {cls:=.type "slice",data:=.fields #[vl,vu,vs]}}:=I4.kept (t':=s4.toks) λb ob q=>az _ q;obtain⟨T,id,hT,ht,hg⟩:=hr pins {s4 with heap:=s4.heap.push {cls:=.type "slice",data:=.fields #[vl,vu,vs]}} σ H4 x v vl vu vs l u w s4.heap.objs.size Q I5 r1 (Heap.IsSliceOf.new ..) pl pu pw q4;show br (cg X.prog X.w) X.A (subscriptTail e (.Slice lo hi (aA st) p2) v (.ref s4.heap.objs.size)) (EP X pins σ Q) X.xe {s4 with heap:=s4.heap.push {cls:=.type "slice",data:=.fields #[vl,vu,vs]}};exact tail_any (ops:=[v,.ref s4.heap.objs.size]) ht hT hg (by with_unfolding_all rfl)
def Zr1(K:ad):V->Option Int->Option Int->Option Int->Hp->VK->Prop:=λx lo hi st H Q=>∃a xs,x= .ref a/\Oa K H a xs/\st≠aA 0/\∀p,H p=aB->Q (.ref p) (Y7 H p (.lst (Oj xs lo hi st)))
theorem Zfc:Zrz X (Zr1 X.K):=by
 intro pins s σ H x v vl vu vs lo hi st sl Q I rx hs pl pu pw h;obtain⟨a,xs,rfl,hx,h0,q⟩:=h;cases rx;obtain⟨its,r,ht,hz⟩:=I.list hx;have hlen:=r.length;refine⟨"list",_,slot_list_getitem.lookup,ht.isList.typeIs,?_⟩;refine wpAny_getItem_list_slice ht.isList hs pl pu pw h0 ?_ (by rw[bu]<;> omega);have hsz:=slicePick_size_le its.toArray lo hi st;rw[Zfb]at hsz⊢;have rr:Ya (Oj xs lo hi st) (Oj its lo hi st):=by unfold Oj;rw[hlen];exact r.pickI _
 have hl2:=rr.length;simp only[bu]at hsz;refine⟨.ref s.heap.objs.size,_,I.laid (t':=s.toks) (o:=.lst (Oj xs lo hi st)) (λb ob q=>az _ q) (bg _) ?_,rfl,q _ (I.hok.fresh (bg _))⟩;exact⟨by omega,_,0,rr,b3 _ rfl⟩
end
end L2
namespace DL
open PySem PySem.Spec PyProof.Rows L2
theorem Reps.pickI{K:ad}{F:Hp}{xs:List D}{us:List V}(r:Reps K F xs us):∀is:List Nat,Reps K F (is.filterMap (xs[·]?)) (is.filterMap (us[·]?))
 | []=>.nil
 |i::is=>by
  cases h:xs[i]? with
  |none=>
   have h2:us[i]? =aB:=by rw[List.getElem?_eq_none_iff]at h⊢;rw[<-r.length];exact h
   rw[dr h,dr h2];exact Reps.pickI r is
  |some x=>obtain⟨u,hu,hr⟩:=r.get h;rw[dq h,dq hu];exact .cons hr (Reps.pickI r is)
theorem Reps.pick{K:ad}{F:Hp}{xs:List D}{us:List V}(r:Reps K F xs us)(lo hi st:Option Int):Reps K F (Oj xs lo hi st) (Oj us lo hi st):=by unfold Oj;rw[r.length];exact r.pickI _
@[simp]def Zn2(g:D->Option Int->Option Int->Option Int->Option SV)(fe:FE)(fl fh fs:FO):FE:=λδ=>(fe δ).bind λp=>(fl p.2).bind λl=>(fh l.2).bind λh=>(fs h.2).bind λw=>(rdv p.1 w.2).bind λd=>(g d l.1 h.1 w.1).bind λsv=>some (.tmp sv,w.2)
section
variable{K:ad}{Z:Ent K}{H:Hp}{σ:L2.St}{Q:VK}
def Zfd(Z:Ent K)(r:V->Option Int->Option Int->Option Int->Hp->VK->Prop)(g:D->Option Int->Option Int->Option Int->Option SV):Prop:=
 ∀(F H:Hp) (σ:L2.St) (δ:Yw) (own:Nat->Zo) (x:V) (d:D) (lo hi st:Option Int) (sv:SV) (Q:VK),SR Z F H σ δ own->Yh K F H d x->g d lo hi st=aA sv->Fin Z F H σ δ own sv Q->r x lo hi st H Q
theorem Zr2{r:V->Option Int->Option Int->Option Int->Hp->VK->Prop}{g:D->Option Int->Option Int->Option Int->Option SV}{fe:FE}{fl fh fs:FO}(hg:Zfd Z r g)(h:Ze Z (Zn2 g fe fl fh fs) σ H Q):Zr0 r (Ze Z fe) (Oe Z fl) (Oe Z fh) (Oe Z fs) σ H Q:=by
 obtain⟨F,δ,own,rv,δ',s,e,k⟩:=h;obtain⟨⟨rv1,δ1⟩,e1,e⟩:=aa.mp e;obtain⟨⟨lo,δ2⟩,e2,e⟩:=aa.mp e;obtain⟨⟨hi,δ3⟩,e3,e⟩:=aa.mp e;obtain⟨⟨st,δ4⟩,e3',e⟩:=aa.mp e;obtain⟨d,e4,e⟩:=aa.mp e;obtain⟨sv,e5,e⟩:=aa.mp e;cases e;refine⟨F,δ,own,rv1,δ1,s,e1,λv H1 F1 own1 sH1 sF1 s1 r1=>?_⟩;obtain⟨F1',sF1',s1',r1'⟩:=s1.settleR r1;refine⟨F1',δ1,own1,lo,δ2,s1',e2,λH2 F2 own2 sH2 sF2 s2=>⟨F2,δ2,own2,hi,δ3,s2,e3,λH3 F3 own3 sH3 sF3 s3=>⟨F3,δ3,own3,st,δ4,s3,e3',λH5 F5 own5 sH5 sF5 s5=>?_⟩⟩⟩;exact hg F5 H5 σ δ4 own5 v d lo hi st sv Q s5 (s5.rd (r1'.mono (sF2.trans (sF3.trans sF5))) e4) e5 λq H4 F4 ns sH4 sF4 s4 t4=>
  k q H4 F4 own5 (sH1.trans (sH2.trans (sH3.trans (sH5.trans sH4)))) (sF1.trans (sF1'.trans (sF2.trans (sF3.trans (sF5.trans sF4))))) s4 ⟨ns,t4⟩
@[simp]def Zjg:D->Option Int->Option Int->Option Int->Option SV
 | .lst xs,lo,hi,st=>if st≠aA 0 then aA (.ol (Oj xs lo hi st))else aB
 |_,_,_,_=>aB
theorem Zr3:Zfd Z (Zr1 K) Zjg:=by
 intro F H σ δ own x d lo hi st sv Q s r1 e k;unfold Zjg at e;split at e
 .split at e
  .rename_i h0;cases e;obtain⟨a,vs,ex,ha,ra⟩:=r1.lst s.le;exact⟨a,vs,ex,ha,h0,λp hp=>k.lst s (ra.pick _ _ _) hp⟩
  .cases e
 .cases e
end
theorem Zr4{X:Cx}{Z:Ent X.K}{a:b7}{fa:FE}{pos:Pos}{st:b7}{lo hi:Option b7}{fl fh fs:FO}{p2:Pos}(ha:PE X a (Ze Z fa))(hl:PO X lo (Oe Z fl))(hh:PO X hi (Oe Z fh))(hs:PO X (aA st) (Oe Z fs)):PE X (.Subscript a (.Slice lo hi (aA st) p2) pos) (Ze Z (Zn2 Zjg fa fl fh fs)):=
 (Zbh Zfc ha hl hh hs).imp λ_ _ _ h=>Zr2 Zr3 h
end DL
namespace DL
section
variable{α:Type}{P:List α->Prop}
@[elab_as_elim]theorem of1(h:∀a,P [a])(us:List α)(hl:us.length=1):P us:=by obtain⟨a,e⟩:=List.length_eq_one_iff.mp hl;rw[e];exact h a
theorem ofC{n:Nat}(h:∀a (us:List α),us.length=n->P (a::us))(us:List α)(hl:us.length=n+1):P us:=by
 cases us with
 |nil=>exact absurd hl (by simp)
 |cons a r=>exact h a r (by simpa using hl)
@[elab_as_elim]theorem of2(h:∀a b,P [a,b])(us:List α)(hl:us.length=2):P us:=ofC (λa=>of1 (P:=λus=>P (a::us)) (h a)) us hl
@[elab_as_elim]theorem of3(h:∀a b c,P [a,b,c])(us:List α)(hl:us.length=3):P us:=ofC (λa=>of2 (P:=λus=>P (a::us)) (h a)) us hl
@[elab_as_elim]theorem of4(h:∀a b c d,P [a,b,c,d])(us:List α)(hl:us.length=4):P us:=ofC (λa=>of3 (P:=λus=>P (a::us)) (h a)) us hl
@[elab_as_elim]theorem of5(h:∀a b c d e,P [a,b,c,d,e])(us:List α)(hl:us.length=5):P us:=ofC (λa=>of4 (P:=λus=>P (a::us)) (h a)) us hl
end
end DL
namespace L2
open PySem PySem.Spec PyProof.Rows
section
variable{prog:b5}{w:cw}{A:c8}{E:ag->ap->Prop}{s:ap}{q d:ak}{i n ep:Nat}{od:Obj}{es:Array DictEntry}
theorem Eh{Q:ag->ap->Prop}(hs:(d==d3)=aD)(g:s.heap.get? d=aA od)(x:od.ExactDict)(c:od.data= .dict es ep)
  (k:Q (.ref s.heap.objs.size) {s with heap:=s.heap.push {cls:=.type "dict_keyiterator",data:=.fields #[.ref d,.int 0 0,.int es.size 0,.int ep 0]}}):br (cg prog w) A (pyIter (.ref d)) Q E s:=by
 have T:s.TypeIs (.ref d) "dict":=⟨od,g,x.1⟩
 refine wpAny_pyIter_slot T PySem.F.slot_dict_iter (dv PySem.F.slot_dict_iter T PySem.F.entry_dict_iter (show br _ _ (Builtin.«dict.__iter__» _) _ _ _ from ?_) (PySem.F.args_dict_iter_1 _));unfold Builtin.«dict.__iter__» Builtin.Dict.dictSlotNone;refine ac (ac (wpAny_notOrdered_dict T (show br _ _ (pure (b9 d)) _ _ s from ao ?_)));show br _ _ (Builtin.Dict.showsAll d >>=_) _ _ s;unfold Builtin.Dict.showsAll;rw[if_neg (by rw[hs];decide)];refine ac (ao (ac (wpAny_dictEntries g c (ac (wpAny_dictEpoch g c (ac (wpAny_newObj_type (ao ⟨_,rfl,"dict_keyiterator",_,⟨_,b3 _ rfl,rfl⟩,d4.lookup,?_⟩))))))));simpa[rawInt]using k
theorem Ei{e:DictEntry}{Q:Option ag->ap->Prop}(t:s.heap.IsKeyIter q d i n ep)(g:s.heap.get? d=aA od)(c:od.data= .dict es ep)(hn:es.size=n)(he:es[i]? =aA e)
  (k:∀h',h'.IsKeyIter q d (i+1) n ep->Heap.SameBut q s.heap h'->Q (aA e.key) {s with heap:=h'}):br (cg prog w) A (pyNext (.ref q)) Q E s:=by
 obtain⟨o,ho,hc,hd⟩:=id t;have T:=t.typeIs;unfold pyNext;refine ac (wpAny_attempt (wpAny_callSpecial?_slot (name:="__next__") T d4 (dv d4 T PySem.F.entry_dict_keyiterator_next (ac (ao (ac (ac ?_)))) (PySem.F.args_dict_keyiterator_next_1 _))))
 first| (refine ac (wpAny_typeNameOfWhole_keyiter T (ao (ac (wpAny_fieldsOf ho hd ?_)))))| (refine ac (wpAny_typeNameOf_keyiter T (ao (ac (wpAny_fieldsOf ho hd ?_)))))
 have z0:Builtin.Dict_items.ownsTuple "dict_keyiterator"=aD:=rfl;rw[z0];simp only[c7,if_false];show br _ _ (ite ((b9 d==dw)=aC) _ _) _ _ s;rw[if_neg (show¬(b9 d==dw)=aC from λz=>ba z)];refine ac (ao (ac (wpAny_dictEntries g c ?_)));rw[if_neg (by rw[hn];simp)];refine ac (ao (ac (wpAny_dictEpoch g c ?_)));rw[if_neg (by simp)];have hi:i<es.size:=(Array.getElem?_eq_some_iff.mp he).1;refine ao ?_;simp only[show¬((i:Int)<0) by omega,if_false,Int.toNat_natCast,he];refine ac ?_
 first| (refine ac (wpAny_typeNameOfWhole_keyiter T (ao (ac (wpAny_isOneOf_keyiter T ?_)))))| (refine ac (wpAny_typeNameOf_keyiter T (ao (ac (wpAny_isOneOf_keyiter T ?_)))))
 show br _ _ (setField (.ref q) 1 (rawInt ((i:Int)+1)) >>=_) _ _ s;refine ac (wpAny_setField ho hd (by simp) ?_);have t':(s.heap.update q (Obj.mapFields (·.setIfInBounds 1 (rawInt ((i:Int)+1))))).IsKeyIter q d (i+1) n ep:=⟨_,Heap.get?_update_self _ ho (Obj.isFreed_of_fields (fm hd _)),(Obj.cls_mapFields ..).trans hc,(fm hd _).trans (by simp[rawInt])⟩
 refine ac (wpAny_holding (ac (wpAny_isOneOf_keyiter (s:={s with heap:=s.heap.update q (Obj.mapFields (·.setIfInBounds 1 (rawInt ((i:Int)+1))))}) t'.typeIs (show br _ _ (pure e.key) _ _ _ from ao (ao ⟨_,rfl,ao (k _ t' (Heap.SameBut.update ..))⟩)))))
theorem Ej{Q:Option ag->ap->Prop}(hh:A.handled=aB)(t:s.heap.IsKeyIter q d i n ep)(g:s.heap.get? d=aA od)(c:od.data= .dict es ep)(hn:es.size=n)(hi:n<=i)
  (k:∀h',Heap.ExtBut q s.heap h'->Q aB {s with heap:=h'}):br (cg prog w) A (pyNext (.ref q)) Q E s:=by
 obtain⟨o,ho,hc,hd⟩:=id t;have T:=t.typeIs;unfold pyNext;refine ac (wpAny_attempt (wpAny_callSpecial?_slot (name:="__next__") T d4 (dv d4 T PySem.F.entry_dict_keyiterator_next (ac (ao (ac (ac ?_)))) (PySem.F.args_dict_keyiterator_next_1 _))))
 first| (refine ac (wpAny_typeNameOfWhole_keyiter T (ao (ac (wpAny_fieldsOf ho hd ?_)))))| (refine ac (wpAny_typeNameOf_keyiter T (ao (ac (wpAny_fieldsOf ho hd ?_)))))
 have z0:Builtin.Dict_items.ownsTuple "dict_keyiterator"=aD:=rfl;rw[z0];simp only[c7,if_false];show br _ _ (ite ((b9 d==dw)=aC) _ _) _ _ s;rw[if_neg (show¬(b9 d==dw)=aC from λz=>ba z)];refine ac (ao (ac (wpAny_dictEntries g c ?_)));rw[if_neg (by rw[hn];simp)];refine ac (ao (ac (wpAny_dictEpoch g c ?_)));rw[if_neg (by simp)];have he:es[i]? =aB:=Array.getElem?_eq_none (by omega);refine ao ?_;simp only[show¬((i:Int)<0) by omega,if_false,Int.toNat_natCast,he];refine ac ?_
 first| (refine ac (wpAny_typeNameOfWhole_keyiter T (ao ?_)))| (refine ac (wpAny_typeNameOf_keyiter T (ao ?_)))
 show br _ _ (setField (.ref q) 0 dw >>=_) _ _ s;refine ac (wpAny_setField ho hd (by simp) (show br _ _ (newExc (.type "StopIteration") [] >>=_) _ _ _ from ac ?_));simp only[newExc,newTuple];refine ac (wpAny_newObj_type (ac (m:=firstArgMember _ _) (wpAny_of_eq (a:=dw) (by first|rfl| (simp only[firstArgMember];rfl)) (wpAny_newObj_type ?_ (by size_fits)))) (by size_fits));simp only[raiseNew];refine ac (wpAny_handled ?_);rw[show A.in1.handled=Option.none from hh];refine ac (ao (wpAny_throw ?_));refine ac (wpAny_isInstance (T:="StopIteration") (b:=aC) (by exact⟨_,b3 _ rfl,rfl⟩) isSubtype_stop ?_);exact ao (k _ (((Heap.SameBut.update ..).extBut.push _).push _))
theorem Dw{P:b5}{w:cw}{k:Key}{u:ag}(h:(Zs P w).is k u=aC):Zz (kV k) u:=by
 rcases Z7 h with⟨i,t,rfl,rfl⟩|⟨x,t,rfl,rfl⟩
 .exact⟨t,rfl⟩
 .exact⟨t,rfl⟩
end
def Itk(a:ak)(n ep:Nat):It:=
 ⟨λi H=>∃kvs,H a=aA (.dK kvs ep)/\kvs.length=n/\i<n,λi H x H'=>H'=H/\∃kvs kv,H a=aA (.dK kvs ep)/\kvs[i]? =aA kv/\x=kV kv.1,λi H=>∃kvs,H a=aA (.dK kvs ep)/\kvs.length=n/\n<=i⟩
noncomputable def Itd(a:ak)(n ep:Nat):It:=
 ⟨λi H=>∃kvs bs,H a=aA (.dT kvs ep bs)/\kvs.length=n/\i<n,λi H x H'=>H'=H/\∃kvs bs b,H a=aA (.dT kvs ep bs)/\bs[i]? =aA b/\x= .ref b,λi H=>∃kvs bs,H a=aA (.dT kvs ep bs)/\kvs.length=n/\n<=i⟩
theorem Ml{q d:ak}{i n ep:Nat}{h h':du}(t:h.IsKeyIter q d i n ep)(k:∀o,h.get? q=aA o->h'.get? q=aA o):h'.IsKeyIter q d i n ep:=let⟨o,e,r⟩:=t;⟨o,k o e,r⟩
theorem Zfe{P:b5}{w:cw}{es:List DictEntry}{vs:List (Key×ag)}(h:Pairs (Zs P w) es vs){i:Nat}{kv:Key×ag}(hi:vs[i]? =aA kv):∃e,es[i]? =aA e/\(Zs P w).is kv.1 e.key=aC:=by
 induction h generalizing i with
 |nil=>simp at hi
 | @cons e0 kv0 es0 kvs0 h1 h2 _ ih=>
  cases i with
  |zero=>simp at hi;subst hi;exact⟨e0,by simp,h1⟩
  |succ j=>obtain⟨e,a1,a2⟩:=ih (i:=j) (by simpa using hi);exact⟨e,by simpa using a1,a2⟩
theorem Gf{P:b5}{w:cw}{es:List DictEntry}{vs:List (Key×ag)}(h:Pairs (Zs P w) es vs):es.length=vs.length:=by
 induction h with
 |nil=>rfl
 |cons _ _ _ ih=>rw[bd,bd,ih]
theorem Gg{α β:Type}{R:α->β->Prop}{l:List α}{m:List β}(h:Paired R l m):∀{i:Nat} {x:α},l[i]? =aA x->∃y,m[i]? =aA y/\R x y:=by
 induction h with
 |nil=>intro i x hi;simp at hi
 | @cons a b as bs h1 t ih=>
  intro i x hi;cases i with
  |zero=>simp at hi;subst hi;exact⟨b,by simp,h1⟩
  |succ j=>obtain⟨y,a1,a2⟩:=ih (i:=j) (by simpa using hi);exact⟨y,by simpa using a1,a2⟩
theorem Am{P:b5}{w:cw}{K:ad}{tg:b7}(a it:ak)(n ep:Nat):Turn P w K tg (Itk a n ep) [it] it (λi h=>h.IsKeyIter it a i n ep)where
 mem:=af
 obj:=λi h st b hb=>by obtain rfl:=aq.mp hb;obtain⟨o,e,c,d⟩:=st;exact⟨o,e,λv z=>by rw[d]at z;cases z⟩
 keep:=λi h h' st k=>Ml st λo e=>k it af o e
 item:=by
  intro X hP hw hK hc i pins s σ H E I hf st hg;subst hP hw hK;obtain⟨kvs,hq,hn,hi⟩:=hg;obtain⟨z,hd,vs,rel,od,es,g,x,c,ko,pr,nd⟩:=(show Yu X.prog X.w H s.heap a (.dK kvs ep)from I.hok a _ hq)
  obtain⟨f0,f1,f2,f3,f4,f5⟩:=hf it af;have hkv:kvs[i]? =aA (kvs[i]'(by omega)):=bj (by omega);obtain⟨vv,hv,hr⟩:=Gg rel hkv;obtain⟨e,he,hke⟩:=Zfe pr hv;have hz:es.size=n:=by rw[<-cq,Gf pr,<-Paired.length rel,hn]
  refine Ei st g c hz (e:=e) (by rw[<-Array.getElem?_toList];exact he) λh' st' sb=>?_;have I1:Inv X pins σ H {s with heap:=h'}:=I.turned (t':=s.toks) (λb o hb e=>(sb.2 b hb).trans e) f0 f1 f3 f4 f5;obtain⟨o,e1,c1,d1⟩:=id st';exact⟨e.key,rfl,I9 (s:={s with heap:=h'}) e1 c1 d1 (by decide) ⟨kV (kvs[i]'(by omega)).1,H,I1,Dw (by rw[hr.1];exact hke),⟨rfl,kvs,_,hq,hkv,rfl⟩,st',λb hb=>(hf b hb).1⟩⟩
 done:=by
  intro X hP hw hK hc i pins s σ H E I hf st hg;subst hP hw hK;obtain⟨kvs,hq,hn,hi⟩:=hg;obtain⟨z,hd,vs,rel,od,es,g,x,c,ko,pr,nd⟩:=(show Yu X.prog X.w H s.heap a (.dK kvs ep)from I.hok a _ hq)
  obtain⟨f0,f1,f2,f3,f4,f5⟩:=hf it af;have hz:es.size=n:=by rw[<-cq,Gf pr,<-Paired.length rel,hn]
  exact Ej (I.ok.hd hc) st g c hz hi λh' eb=>⟨rfl,I.turned (t':=s.toks) (λb o hb e=>eb b o hb e) f0 f1 f3 f4 f5⟩
 self:=λ_ _ s _ _ st h=>by exact wpAny_pyIter_slot st.typeIs PySem.F.slot_dict_keyiterator_iter (dv PySem.F.slot_dict_keyiterator_iter st.typeIs PySem.F.entry_dict_keyiterator_iter (by exact ao ⟨_,rfl,"dict_keyiterator",_,st.typeIs,d4.lookup,h⟩) (PySem.F.args_dict_keyiterator_iter_1 _))
theorem Zji{P:b5}{w:cw}{K:ad}{tg:b7}(a it:ak)(n ep:Nat):Turn P w K tg (Itd a n ep) [it] it (λi h=>h.IsKeyIter it a i n ep)where
 mem:=af
 obj:=(Am (P:=P) (w:=w) (K:=K) (tg:=tg) a it n ep).obj
 keep:=(Am (P:=P) (w:=w) (K:=K) (tg:=tg) a it n ep).keep
 item:=by
  intro X hP hw hK hc i pins s σ H E I hf st hg;subst hP hw hK;obtain⟨kvs,bs,hq,hn,hi⟩:=hg;obtain⟨z,hd,xs,rel,od,es,g,x,c,en,nd,hbs⟩:=(show Yu X.prog X.w H s.heap a (.dT kvs ep bs)from I.hok a _ hq)
  obtain⟨f0,f1,f2,f3,f4,f5⟩:=hf it af;have hkv:kvs[i]? =aA (kvs[i]'(by omega)):=bj (by omega);obtain⟨vv,hv,hr⟩:=Gg rel hkv;have hz:es.size=n:=by rw[<-cq,en,am,<-Paired.length rel,hn]
  have he:es[i]? =aA (entryOfKey (tupleKind (Zs X.prog X.w)) vv):=by rw[<-Array.getElem?_toList,en,bn,hv];rfl
  refine Ei st g c hz he λh' st' sb=>?_;have I1:Inv X pins σ H {s with heap:=h'}:=I.turned (t':=s.toks) (λb o hb e=>(sb.2 b hb).trans e) f0 f1 f3 f4 f5;obtain⟨o,e1,c1,d1⟩:=id st';exact⟨.ref vv.2.1,rfl,I9 (s:={s with heap:=h'}) e1 c1 d1 (by decide) ⟨.ref vv.2.1,H,I1,rfl,⟨rfl,kvs,bs,vv.2.1,hq,by rw[<-hbs,bn,hv];rfl,rfl⟩,st',λb hb=>(hf b hb).1⟩⟩
 done:=by
  intro X hP hw hK hc i pins s σ H E I hf st hg;subst hP hw hK;obtain⟨kvs,bs,hq,hn,hi⟩:=hg;obtain⟨z,hd,xs,rel,od,es,g,x,c,en,nd,hbs⟩:=(show Yu X.prog X.w H s.heap a (.dT kvs ep bs)from I.hok a _ hq)
  obtain⟨f0,f1,f2,f3,f4,f5⟩:=hf it af;have hz:es.size=n:=by rw[<-cq,en,am,<-Paired.length rel,hn]
  exact Ej (I.ok.hd hc) st g c hz hi λh' eb=>⟨rfl,I.turned (t':=s.toks) (λb o hb e=>eb b o hb e) f0 f1 f3 f4 f5⟩
 self:=(Am (P:=P) (w:=w) (K:=K) (tg:=tg) a it n ep).self
section
variable{X:Cx}{tg:b7}
def Zr5(tl:TE):TI:=λσ H R=>tl σ H λx H1=>(∃a kvs ep,x= .ref a/\H1 a=aA (.dK kvs ep)/\R (Itk a kvs.length ep) H1)\/(∃a kvs ep bs,x= .ref a/\H1 a=aA (.dT kvs ep bs)/\R (Itd a kvs.length ep) H1)
theorem Zn3{l:b7}{tl:TE}(hl:PE X l tl):PI X tg l (Zr5 tl):=by
 intro pins s σ H R I h;refine Wl (hl pins s σ H _ I h) λv s1 zq9=>?_;obtain⟨x,H1,I1,r1,q1⟩:=zq9;rcases q1 with⟨a,kvs,ep,rfl,hq,q⟩|⟨a,kvs,ep,bs,rfl,hq,q⟩
 .cases r1;obtain⟨z,hd,vs,rel,od,es,g,x,c,ko,pr,nd⟩:=(show Yu X.prog X.w H1 s1.heap a (.dK kvs ep)from I1.hok a _ hq)
  have hz:es.size=kvs.length:=by rw[<-cq,Gf pr,<-Paired.length rel]
  refine Eh hd g x c ⟨s1.heap.objs.size,[s1.heap.objs.size],_,_,H1,rfl,I1.kept (t':=s1.toks) λb o e=>az _ e,Am a _ kvs.length ep,⟨_,b3 _ rfl,rfl,by rw[hz];rfl⟩,λb hb=>?_,q⟩;obtain rfl:=aq.mp hb;exact I1.fpOk (bg _) (I1.hok.fresh (bg _))
 .cases r1;obtain⟨z,hd,xs,rel,od,es,g,x,c,en,nd,hbs⟩:=(show Yu X.prog X.w H1 s1.heap a (.dT kvs ep bs)from I1.hok a _ hq)
  have hz:es.size=kvs.length:=by rw[<-cq,en,am,<-Paired.length rel]
  refine Eh hd g x c ⟨s1.heap.objs.size,[s1.heap.objs.size],_,_,H1,rfl,I1.kept (t':=s1.toks) λb o e=>az _ e,Zji a _ kvs.length ep,⟨_,b3 _ rfl,rfl,by rw[hz];rfl⟩,λb hb=>?_,q⟩;obtain rfl:=aq.mp hb;exact I1.fpOk (bg _) (I1.hok.fresh (bg _))
end
end L2
namespace DL
open PySem PySem.Spec PyProof.Rows L2
variable{K:ad}
@[simp]def Im:Key->D
 | .inl i=>.int i
 | .inr x=>.str x
theorem P6{F:Hp}(k:Key):Rep K F (Im k) (kV k):=by
 cases k with
 |inl i=>exact .int i
 |inr x=>exact .str x
theorem Tb{F:Hp}:∀k:List Key,Reps K F (k.map Im) (k.map kV)
 | []=>.nil
 |k::r=>.cons (P6 k) (Tb r)
theorem Zbi{F:Hp}{a:ak}{kvs:List (Key×V)}{ep:Nat}(h:F a=aA (.dK kvs ep)):Bm K (Itk a kvs.length ep) F ((kvs.map (·.1)).map Im):=λF' H sF sH i=>by have q:H a=aA (.dK kvs ep):=sH _ _ (sF _ _ h);refine⟨λd hd=>?_,λhl=>⟨kvs,q,rfl,by simpa using hl⟩⟩;rw[cx,bn]at hd;obtain⟨kv,h1,h2⟩:=dg.mp hd;refine⟨⟨kvs,q,rfl,(bp.mp h1).1⟩,λx H' ⟨e1,kvs',kv',e2,e3,e4⟩=>?_⟩;subst e1;rw[q]at e2;cases e2;rw[h1]at e3;cases e3;subst e4;rw[<-h2];exact⟨Zl.refl _,[],cz,λ_ h=>(nomatch h),P6 _⟩
theorem Zbj{F:Hp}{a:ak}{kvs:List (List Key×V)}{ep:Nat}{bs:List ak}(h:F a=aA (.dT kvs ep bs))(kb:KB F kvs bs):Bm K (Itd a kvs.length ep) F ((kvs.map (·.1)).map λk=>D.tup (k.map Im)):=λF' H sF sH i=>by have q:H a=aA (.dT kvs ep bs):=sH _ _ (sF _ _ h);refine⟨λd hd=>?_,λhl=>⟨kvs,bs,q,rfl,by simpa using hl⟩⟩;rw[cx,bn]at hd;obtain⟨kv,h1,h2⟩:=dg.mp hd;refine⟨⟨kvs,bs,q,rfl,(bp.mp h1).1⟩,λx H' ⟨e1,kvs',bs',b,e2,e3,e4⟩=>?_⟩;subst e1;rw[q]at e2;cases e2;subst e4;obtain⟨b',g1,g2⟩:=Gg (kb.mono sF) h1;rw[e3]at g1;cases g1;rw[<-h2];exact⟨Zl.refl _,[],cz,λ_ h=>(nomatch h),.tup g2 (Tb _)⟩
section
variable{Z:Ent K}{H:Hp}{σ:L2.St}
@[simp]def Zjj(fe:FE):FD:=λδ=>(fe δ).bind λp=>(frz p.1 p.2).bind λq=>match q.1 with
 | .dK ks _=>aA (ks.map Im,q.2)
 | .dT ks _=>aA (ks.map λk=>D.tup (k.map Im),q.2)
 |_=>aB
theorem Zn4{fe:FE}{R:It->Hp->Prop}(h:Qt Z (Zjj fe) σ H R):Zr5 (Ze Z fe) σ H R:=by
 obtain⟨F,δ,own,ds,δ',s,e,k⟩:=h;obtain⟨⟨rv,δ1⟩,e1,e2⟩:=aa.mp e;obtain⟨⟨d,δ2⟩,e3,e4⟩:=aa.mp e2;refine⟨F,δ,own,rv,δ1,s,e1,λv H1 F1 own1 sH sF s1 r1=>?_⟩;obtain⟨F2,sF2,s2,r2⟩:=s1.settleR r1;obtain⟨F3,own3,sF3,s3,r3⟩:=s2.frzR r2 e3;dsimp only at e4;split at e4
 .cases e4;cases r3 with
  |dK h e r=>subst e;exact .inl ⟨_,_,_,rfl,s3.le _ _ h,k _ H1 F3 own3 sH (sF.trans (sF2.trans sF3)) s3 (Zbi h)⟩
 .cases e4;cases r3 with
  |dT h kb e r=>subst e;exact .inr ⟨_,_,_,_,rfl,s3.le _ _ h,k _ H1 F3 own3 sH (sF.trans (sF2.trans sF3)) s3 (Zbj h kb)⟩
 .cases e4
end
theorem Zr6{X:Cx}{tg:b7}{Z:Ent X.K}{a:b7}{fa:FE}(ha:PE X a (Ze Z fa)):PI X tg a (Qt Z (Zjj fa)):=λpins s σ H R I h=>Zn3 ha pins s σ H R I (Zn4 h)
end DL
namespace DL
open PySem PySem.Spec PyProof.Rows L2
variable{K:ad}
end DL
namespace L2
open PySem PySem.Spec PyProof.Rows
end L2
namespace DL
open PySem PySem.Spec PyProof.Rows L2
variable{K:ad}
end DL
namespace DL
open PySem PySem.Spec PyProof.Rows L2
end DL
namespace DL
open PySem PySem.Spec PyProof.Rows L2
variable{K:ad}
end DL
namespace DL
open PySem PySem.Spec PyProof.Rows L2
section
variable{X:Cx}{Z:Ent X.K}{a b c:b7}{fa fb fc:FE}{pos:Pos}
theorem Zli(i:Nat){x:Str}{pos:Pos}(hN:X.N[i]? =aA x:=by rfl)(hv:Vb X.env.scope x:=by first|exact Or.inl rfl|exact fg (Or.inl rfl)|exact fg (fg rfl))(hd:(x==("__debug__":Str))=aD:=by decide)
  (hcd:(x==("__classdict__":Str))=aD:=by decide):PE X (.Name x pos) (Mz i):=On hN hv hd hcd
end
end DL
namespace DL
open PySem PySem.Spec PyProof.Rows L2
variable{K:ad}
end DL
namespace DL
open PySem PySem.Spec PyProof.Rows L2
variable{K:ad}
end DL
namespace DL
open PySem PySem.Spec PyProof.Rows L2
variable{K:ad}
end DL
namespace L2
open PySem PySem.Spec PyProof.Rows
end L2
namespace DL
open PySem PySem.Spec PyProof.Rows L2
variable{K:ad}
section
variable{Z:Ent K}{H:Hp}{σ:L2.St}{Q:VK}{E:Ends}
@[simp]def Zbk(i:Nat)(j:Int):FS:=λδ=>match δ[i]? with
 |some (aA (.fz (.int x)))=>aA (.nx (δ.set i (aA (.fz (.int (x+j))))))
 |_=>aB
theorem Zr7{i:Nat}{j:Int}(h:Zx Z (Zbk i j) E σ H):Zp0 i (tC (.int j)) (ipI λi j=>i+j) E σ H:=by
 obtain⟨F,δ,own,fl,s,e,k⟩:=h;unfold Zbk at e;split at e
 .rename_i x hx;cases e;obtain⟨v,hv,sh⟩:=s.at' i _ hx;have r:=Qz sh;cases r;have hi:i<σ.length:=(bp.mp hv).1;exact⟨_,hv,_,_,rfl,rfl,k _ H F _ (Zl.refl F) (s.store (TmpOk.fz (.int _)) hi)⟩
 .cases e
end
end DL
namespace DL
open PySem PySem.Spec PyProof.Rows L2
variable{K:ad}
section
variable{Z:Ent K}{H:Hp}{σ:L2.St}{Q:VK}{E:Ends}
def Bp(H:Hp)(ns:Zo):Hp:=λb=>if b∈U6 ns then aB else H b
theorem Zjk{ns:Zo}:Zl (Bp H ns) H:=λb o e=>by
 unfold Bp at e;split at e
 .cases e
 .exact e
theorem Zjl{ns:Zo}{b:ak}(h:b∈U6 ns):Bp H ns b=aB:=if_pos h
theorem Ek{ns:Zo}{b:ak}(h:b∉U6 ns):Bp H ns b=H b:=if_neg h
theorem Zbl{ns:Zo}{b:ak}(h:Bp H ns b=aB):b∈U6 ns\/H b=aB:=by
 by_cases hb:b∈U6 ns
 .exact .inl hb
 .rw[Ek hb]at h;exact .inr h
end
end DL
namespace DL
open PySem PySem.Spec PyProof.Rows L2
section
variable{X:Cx}{Z:Ent X.K}{a b c:b7}{fa fb fc:FE}{pos:Pos}
theorem Zr8(i:Nat){x:Str}{j:Int}{jj:Nat}{p1 p2:Pos}(hN:X.N.Nodup)(hi:X.N[i]? =aA x:=by rfl)(hx:Loc X.env.scope x:=by first|exact Or.inl rfl|exact fg rfl)(hf:X.fn x=aC\/X.env.scope.names.lookup x=aA .local:=by first|exact .inl rfl|exact .inr rfl):
  PS X (.AugAssign (.Name x p1) .Add (.Constant (.int j) jj p2) pos) (Zx Z (Zbk i j)):=(Zme hN hi hx Zco Zmf hf).imp λ_ _ _ h=>Zr7 h
end
end DL
namespace L2
open PySem PySem.Spec PyProof.Rows
end L2
namespace DL
open PySem PySem.Spec PyProof.Rows L2
variable{K:ad}
end DL
namespace L2
open PySem PySem.Spec PyProof.Rows
section
variable{X:Cx}
theorem P7:∀{xs:List V} {its:List ag},xs.length=its.length->(∀(j:Nat) (x:V) (v:ag),xs[j]? =aA x->its[j]? =aA v->Zz x v)->Ya xs its
 | [],[],_,_=>.nil
 |x::xs,v::its,h,g=>.cons (g 0 x v rfl rfl) (P7 (by simpa using h) λj x v a b=>g (j+1) x v (by simpa using a) (by simpa using b))
 | [],_::_,h,_=>nomatch h
 |_::_,[],h,_=>nomatch h
def Zff:List V->Hp->VK->Prop:=λxs H Q=>∃p kvs,xs=[.ref p]/\RdK H p kvs/\∀l,H l=aB->Q (.ref l) (Y7 H l (.lst (kvs.map λkv=>kV kv.1)))
theorem El(hc:X.calm=aC):Je X (.type "list") Zff:=by
 intro pins s σ H xs us Q I r h;obtain⟨p,kvs,rfl,⟨ep,e⟩,q⟩:=h;obtain⟨u,rfl,rx⟩:=Jw r;cases rx;obtain⟨z,hd,vs,rel,dd⟩:=(show Yu X.prog X.w H s.heap p (.dK kvs ep)from Zc7 I.hok e)
 have hl:vs.length=kvs.length:=(Paired.length rel).symm;refine PySem.W.kdl_call (PySem.W.kdl_dict (knd:=Zs X.prog X.w) (kvs:=vs) (ep:=ep) hd) (I.ok.hd hc) dd (by rw[hl];exact z) λh' tk acc' c' hk hD hacc=>?_;have hv:Ya (kvs.map λkv=>kV kv.1) acc'.toList:=by refine P7 ((am _).trans (hl.symm.trans (hacc.1.symm.trans (cq).symm))) λj x v hx hv=>?_;obtain⟨k,y,e1,e2⟩:=hacc.2 j v (by rw[<-Array.getElem?_toList];exact hv);rw[bn]at hx;obtain⟨kv,e3,e4⟩:=dg.mp hx;obtain⟨q',e5,e6,_⟩:=Gg rel e3;rw[e5]at e1;cases e1;rw[<-e4,e6];exact Dw e2
 exact⟨.ref s.heap.objs.size,_,I.laid (t':=tk) hk (bg _) (show Yu X.prog X.w _ h' _ (.lst (kvs.map λkv=>kV kv.1))from⟨by rw[am];exact z,acc'.toList,c',hv,by simpa using hD⟩),rfl,q _ (I.hok.fresh (bg _))⟩
end
end L2
namespace DL
open PySem PySem.Spec PyProof.Rows L2
variable{K:ad}
def P8:List D->Option SV
 | [.dK ks _]=>aA (.ol (ks.map Im))
 |_=>aB
@[simp]theorem Zr9(ks:List Key)(vs:List D):P8 [.dK ks vs]=some (.ol (ks.map Im)):=rfl
section
variable{Z:Ent K}{H:Hp}{σ:L2.St}{Q:VK}{E:Ends}
theorem Zn5:O7 Z Zff P8:=by
 intro F H σ δ own vs ds sv Q s r e k;unfold P8 at e;split at e
 .cases e;cases r with
  |cons h t=>
   cases t;obtain⟨a,kvs,rfl,ha,ek,rr⟩:=h.dK s.le;refine⟨a,kvs,rfl,ha.rd,λl hl=>?_⟩;rw[<-ek]at k;have hr:=Tb (K:=K) (F:=F) (kvs.map (·.1));have hr:Reps K F ((kvs.map (·.1)).map Im) (kvs.map λkv=>kV kv.1):=by rw[cx (g:=kV)]at hr;exact hr
   exact k.one s (.ol hr) hl
 .cases e
end
section
variable{X:Cx}{Z:Ent X.K}{a b c:b7}{fa fb fc:FE}{pos:Pos}
theorem Zn6{p:Pos}(hc:X.calm=aC)(hm:X.mg "list"=aB)(ha:PE X a (Ze Z fa))(hg:Gl X "list":=by rfl)(he:av [a] X.env=(aD,dk a X.env)::av [] X.env:=by rfl)(hpl:(dj pos (av [] X.env)).any (·.1)=aD:=by rfl):PE X (.Call (.Name "list" p) [a] [] pos) (Ze Z (Yg P8 (Zc fa Zj))):=
 Mc (El hc) Zn5 hm boot_list (Zn ha Ys he) hg (by decide) (by decide) he hpl
end
end DL
namespace DL
open PySem PySem.Spec PyProof.Rows L2
end DL
namespace DL
open PySem PySem.Spec PyProof.Rows L2
end DL
namespace L2
open PySem PySem.Spec PyProof.Rows
end L2
namespace L2
open PySem PySem.Spec PyProof.Rows
end L2
namespace DL
open PySem PySem.Spec PyProof.Rows L2
variable{K:ad}
end DL
namespace L2
open PySem PySem.Spec PyProof.Rows
end L2
namespace DL
open PySem PySem.Spec PyProof.Rows L2
variable{K:ad}
end DL
namespace L2
open PySem PySem.Spec PyProof.Rows
end L2
namespace DL
open PySem PySem.Spec PyProof.Rows L2
variable{K:ad}
end DL
namespace DL
open PySem PySem.Spec PyProof.Rows L2
variable{K:ad}
end DL
namespace DL
open PySem PySem.Spec PyProof.Rows L2
variable{K:ad}
section
variable{Z:Ent K}{H:Hp}{σ:L2.St}{Q:VK}{E:Ends}
@[simp]def runs:List FS->Yw->Option Yw
 | [],δ=>aA δ
 |f::r,δ=>match f δ with
  |some (.nx δ1)=>runs r δ1
  |_=>aB
end
end DL
namespace DL
open PySem PySem.Spec PyProof.Rows L2
variable{K:ad}
end DL
namespace SX
open PySem
def At(xs:Array Nat)(j p:Nat):Prop:=p<=xs.size/\(∀i y,i<p->xs[i]? =aA y->y<j)/\∀i y,p<=i->xs[i]? =aA y->j<=y
end SX
namespace SX
open PySem PyProof.Rows
variable{prog:b5}{w:cw}{A:c8}{E:ag->ap->Prop}{s:ap}
end SX
namespace SX
open PySem PySem.Spec PyProof.Rows
noncomputable def dd(val:Nat->Int):Nat->List Int
 |0=>[]
 |i+1=>if val i∈dd val i then dd val i else dd val i++[val i]
end SX
namespace SX
open PySem PySem.Spec PyProof.Rows
end SX
namespace SX
open PySem PySem.Spec PyProof.Rows
end SX
namespace SX
open PySem PySem.Spec PyProof.Rows
end SX
namespace SX
open PySem PySem.Spec PyProof.Rows
section
variable{prog:b5}{w:cw}{A:c8}{E:ag->ap->Prop}{s:ap}{I r T:ak}{o:Obj}{es:Array (Int×ag)}{ep:Nat}{t:SetTable}
noncomputable def sl(t:SetTable):Nat->Nat
 |0=>0
 |i+1=>t.place.getD i 0+1
end
end SX
namespace SX
open PySem PySem.Spec PyProof.Rows
end SX
namespace SX
open PySem PySem.Spec PyProof.Rows
end SX
namespace SX
open PySem PySem.Spec PyProof.Rows
end SX
namespace L2
open PySem PySem.Spec PyProof.Rows SX
section
variable{X:Cx}
theorem P9:bootBuiltins "sorted"=aA (.builtin "sorted"):=by kernel_rfl
end
end L2
namespace DL
open PySem PySem.Spec PyProof.Rows L2 SX
variable{K:ad}
end DL
namespace TX
open PySem PySem.W PyProof.Rows
end TX
namespace TX
open PySem PySem.SeqAt
open AutoSeq1 (wpAny_loadPart')
open MeetsSeq MeetsSeq2 MeetsSeq3 SeqRoads2
end TX
namespace TX
open PySem PySem.Spec PyProof.Rows L2
open PySem.W (kla_fn kla_obj kla_callFunE kla_codeExpr envX)
end TX
namespace TX
open PySem PySem.Spec PyProof.Rows L2
open PySem.W (kla_fn kla_obj kla_eval kla_makeFunction kla_makeFunctionHit CodeHd tabObj)
end TX
namespace TX
open PySem PySem.Spec PyProof.Rows L2 DL
open PySem.SeqAt (EqAt)
variable{K:ad}
@[simp]noncomputable def Zn7(eq lt:D->D->Option Bool):List D->List D->Option Bool
 | [],ys=>aA (!ys.isEmpty)
 |_::_,[]=>aA aD
 |x::xs,y::ys=>(eq x y).bind λb=>if b=aC then Zn7 eq lt xs ys else lt x y
@[simp]def Zn8(eq lt:D->D->Option Bool):D->D->Option Bool
 | .int i,.int j=>aA (decide (i<j))
 | .str a,.str b=>aA (decide (a.cps.toList<b.cps.toList))
 | .lst xs,.lst ys=>Zn7 eq lt xs ys
 | .tup xs,.tup ys=>Zn7 eq lt xs ys
 |_,_=>aB
@[simp]def ltD:Nat->D->D->Option Bool
 |0=>λ_ _=>aB
 |n+1=>Zn8 (Da n) (ltD n)
end TX
namespace TX
open PySem PySem.Spec PyProof.Rows L2 DL
open PySem.W (kas_sort kas_ask kas_item kat_run kat_snds)
section
variable{X:Cx}{pins:List (ak×Obj)}{σ:L2.St}{H:Hp}{s:ap}{E:ag->ap->Prop}
def KS(X:Cx)(pins:List (ak×Obj))(σ:L2.St)(H0:Hp)(f:ak)(fo:Obj)(D kS:ak)(e1:Nat)(KeyOk:Nat->V->Hp->Prop)(i:Nat)(s:ap):Prop:=
 ∃H ks kvs e,Zl H0 H/\Inv X pins σ H s/\Ra X pins H D/\Ra X pins H kS/\Ra X pins H f/\s.heap.get? D=aA (seqObj "list" #[] e1)/\s.heap.get? kS=aA (seqObj "list" (List.toArray ks) e)/\s.heap.get? f=aA fo/\
  Ya kvs ks/\ks.length=i/\∀j kv,kvs[j]? =aA kv->KeyOk j kv H
end
end TX
namespace TX
open PySem PySem.Spec PyProof.Rows L2 DL
open PySem.W (kas_sort kas_ask kas_item kat_run kat_snds)
end TX
namespace TX
open PySem PySem.Spec PySem.Calls PyProof.Rows L2 DL
end TX
namespace TX
open PySem PySem.Spec PySem.Calls PyProof.Rows L2 DL
open PySem.W (KatLex kat_lt kat_kind KatTups kat_one kat_nil kat_cons kat_yes kat_no)
end TX
namespace TX
open PySem PySem.Spec PySem.Calls PyProof.Rows L2 DL
end TX
namespace TX
open PySem PySem.Spec PySem.Calls PyProof.Rows L2 DL
open PySem.W (CodeHd kla_fn kla_obj)
end TX
namespace TX
open PySem PySem.Spec PySem.Calls PyProof.Rows L2 DL
open PySem.W (CodeHd tabObj)
end TX
namespace TX
open PySem PySem.Spec PySem.Calls PyProof.Rows L2 DL
noncomputable def Ie(a b:Str):Bool:=decide (¬b.cps.toList<a.cps.toList)
def Ot(ss:List Str):List Str:=ss.mergeSort Ie
theorem Qc(ss:List Str):(Ot ss).Perm ss:=List.mergeSort_perm _ _
theorem Dx(ss:List Str):(Ot ss).Pairwise λa b=>Ie a b=aC:=
 List.pairwise_mergeSort (le:=Ie) (λa b c h1 h2=>by
   simp only[Ie,decide_eq_true_eq]at*;exact List.not_lt.mpr (List.le_trans (List.not_lt.mp h1) (List.not_lt.mp h2)))
  (λa b=>by
   simp only[Ie,Bool.or_eq_true,decide_eq_true_eq];rcases List.le_total a.cps.toList b.cps.toList with z|z
   .exact .inl (List.not_lt.mpr z)
   .exact .inr (List.not_lt.mpr z)) ss
theorem Sa{a b:Str}(h1:Ie a b=aC)(h2:Ie b a=aC):a=b:=by simp only[Ie,decide_eq_true_eq]at*;have e:a.cps.toList=b.cps.toList:=List.le_antisymm (List.not_lt.mp h1) (List.not_lt.mp h2);have e2:a.cps=b.cps:=Array.toList_inj.mp e;cases a;cases b;simp only at e2;subst e2;rfl
theorem Zbm{a b:List Str}(hp:a.Perm b)(ha:a.Pairwise λa b=>Ie a b=aC)(hb:b.Pairwise λa b=>Ie a b=aC):a=b:=
 List.Perm.eq_of_pairwise (λx y _ _ h1 h2=>Sa h1 h2) ha hb hp
theorem Ki:∀(l:List Str) (p:Str),risingS p l=aC->(p::l).Pairwise λa b=>Ie a b=aC
 | [],p,_=>by simp
 |x::l,p,h=>by
  unfold risingS at h;rw[Bool.and_eq_true]at h;have ih:=Ki l x h.2;have hpx:Ie p x=aC:=by have:=h.1;rw[ltCps_eq]at this;simp only[Ie,decide_eq_true_eq];simpa using this
  refine List.pairwise_cons.mpr ⟨λy hy=>?_,ih⟩;rcases bo.mp hy with z|z
  .rw[z];exact hpx
  .have hxy:=(List.pairwise_cons.mp ih).1 y z;simp only[Ie,decide_eq_true_eq]at*;exact List.not_lt.mpr (List.le_trans (List.not_lt.mp hpx) (List.not_lt.mp hxy))
theorem Zbn:∀{l:List Str},sortedS l=aC->l.Pairwise λa b=>Ie a b=aC
 | [],_=>.nil
 |p::l,h=>Ki l p h
end TX
namespace L2
open PySem PySem.Spec PySem.Calls PyProof.Rows TX
section
variable{X:Cx}
theorem Em:∀{ss:List Str} {vs:List ag},StrsAre vs ss->Ya (ss.map V.str) vs
 |_,_,.nil=>.nil
 |_,_,.cons n t h=>.cons ⟨t,rfl⟩ (Em h)
end
end L2
namespace DL
open PySem PySem.Spec PySem.Calls PyProof.Rows L2 TX
variable{K:ad}
theorem Sb{F:Hp}:∀(ns:List Str),Reps K F (ns.map D.str) (ns.map V.str)
 | []=>.nil
 |n::ns=>.cons (.str n) (Sb ns)
@[simp]noncomputable def ltS:D->D->Option SV
 | .str a,.str b=>aA (.fz (.bl (decide (a.cps.toList<b.cps.toList))))
 |_,_=>aB
section
variable{Z:Ent K}{H:Hp}{σ:L2.St}{Q:VK}{E:Ends}
theorem Zsb:Yr Z (λx y H Q=>∃i j,x= .str i/\y= .str j/\Q (.bl (decide (i.cps.toList<j.cps.toList))) H) ltS:=by
 intro F H σ δ own x y d1 d2 sv Q s r1 r2 e k;unfold ltS at e;split at e
 .cases e;exact⟨_,_,r1.str,r2.str,k.fz s (.bl _)⟩
 .cases e
end
section
variable{X:Cx}{Z:Ent X.K}{a b c:b7}{fa fb fc:FE}{pos:Pos}
theorem Zsc(ha:PE X a (Ze Z fa))(hb:PE X b (Ze Z fb)):PE X (.Compare a [.Lt] [b] pos) (Ze Z (Zg ltS fa fb)):=Hw Zau Zsb ha hb (Bj _)
end
end DL
namespace TX
open PySem PySem.Spec PySem.Calls PyProof.Rows L2 DL
open PySem.W (CodeHd tabObj)
end TX
namespace DL
open PySem PySem.Spec PySem.Calls PyProof.Rows L2 TX
end DL
namespace DL
open PySem PySem.Spec PySem.Calls PyProof.Rows L2
section
variable{K:ad}{Z:Ent K}{H:Hp}{σ:L2.St}
open Classical in
@[simp]def Dy(fa:FA):FD:=λδ=>(fa δ).bind λp=>match Gd p.1 p.2 with
 |some [.int i,.int j]=>if R8 i/\R8 j then aA (Cs i (j- i).toNat,p.2)else aB
 |_=>aB
theorem Zjm{fa:FA}{R:It->Hp->Prop}(h:Qt Z (Dy fa) σ H R):Zkl (Od Z fa) σ H R:=by
 obtain⟨F,δ,own,ds,δ',s,e,k⟩:=h;obtain⟨⟨rvs,δ1⟩,e1,e2⟩:=aa.mp e;refine⟨F,δ,own,rvs,δ1,s,e1,λvs H1 F1 own1 sH sF s1 r1=>?_⟩;dsimp only at e2;split at e2
 .rename_i i j hj;have rn:=s1.rdAll r1 hj;cases rn with
  |cons h t=>
   cases t with
   |cons h' t=>
    cases t;by_cases hb:R8 i/\R8 j
    .rw[if_pos hb]at e2;cases e2;exact⟨i,j,by rw[h.int,h'.int],⟨hb.1.1,hb.1.2,hb.2.1,hb.2.2⟩,k _ H1 F1 own1 sH sF s1 R7⟩
    .rw[if_neg hb]at e2;cases e2
 .cases e2
end
section
variable{X:Cx}{Z:Ent X.K}{a b:b7}{fa fb:FE}{pos:Pos}
theorem Zn9{tg:b7}{p:Pos}(hm:X.mg "range"=aB)(ha:PE X a (Ze Z fa))(hb:PE X b (Ze Z fb))(hg:Gl X "range":=by rfl)(hs:av [a,b] X.env=[(aD,dk a X.env),(aD,dk b X.env)]:=by rfl)(hs2:av [b] X.env=[(aD,dk b X.env)]:=by rfl):
  PI X tg (.Call (.Name "range" p) [a,b] [] pos) (Qt Z (Dy (Zc fa (Zc fb Zj)))):=(Zas hg hm (Zn ha (Zn hb Ys hs2) (by rw[hs,hs2])) hs hs2).imp λ_ _ _ h=>Zjm h
end
end DL
namespace TX
open PySem PySem.Spec PySem.Calls PyProof.Rows L2 DL
open PySem.W (kas_sort kas_ask kas_item kat_run kat_snds)
end TX
namespace L2
open PySem PySem.Spec PySem.Calls PyProof.Rows DL TX
end L2
namespace DL
open PySem PySem.Spec PySem.Calls PyProof.Rows L2 TX
variable{K:ad}
end DL
namespace TX
open PySem PySem.Spec PySem.Calls PyProof.Rows L2 DL
end TX
namespace TX
open PySem PySem.Spec PySem.Calls PyProof.Rows L2 DL
open PySem.W (CodeHd kla_fn kla_obj)
end TX
namespace TX
open PySem PySem.Spec PySem.Calls PyProof.Rows L2 DL
open PySem.W (CodeHd kla_fn kla_obj)
end TX
namespace DL
open PySem PySem.Spec PySem.Calls PyProof.Rows L2 TX
end DL
namespace TX
open PySem PySem.Spec PySem.Calls PyProof.Rows L2 DL
section
variable{prog:b5}{w:cw}{A:c8}{E:ag->ap->Prop}{s:ap}{d:ak}{od:Obj}{es:Array DictEntry}{ep:Nat}
theorem Zbo(hh:A.handled=aB)(I:ak)(hne:d≠I)(c:od.data= .dict es ep):Walks prog w A I [I,d] [I] es.size (λi v=>∃e,es[i]? =aA e/\v=e.key) (λi h=>h.IsKeyIter I d i es.size ep/\h.get? d=aA od)where
 sub:=λb hb=>by simp at hb;simp[hb]
 frame:=λ_ _ _ st hk=>⟨Ml st.1 λo e=>hk I (by simp) o e,hk d (by simp) _ st.2⟩
 item:=λi s Q E hi st hQ=>by
  have he:es[i]? =aA es[i]:=by simp[hi]
  refine Ei st.1 st.2 c rfl he λh' t' hs'=>?_;exact hQ _ h' s.toks ⟨_,he,rfl⟩ ⟨t',(hs'.2 d hne).trans st.2⟩ λb o hb e=>(hs'.2 b (λh=>hb (by simp[h]))).trans e
 done:=λs Q E st hQ=>Ej hh st.1 st.2 c rfl (bg _) λh' he'=>hQ h' s.toks λb o hb e=>he' b o (λh=>hb (by simp[h])) e
 self:=λ_ _ _ _ st hQ=>wpAny_pyIter_keyiter st.1 hQ
theorem Zjn(lo:(d==d3)=aD)(x:od.ExactDict)(c:od.data= .dict es ep):PySem.W.KdlSrc prog w "dict" d d es.size (λi v=>∃e,es[i]? =aA e/\v=e.key) (λh=>h.get? d=aA od)where
 type:=λ_ g=>⟨od,g,x.1⟩
 there:=λ_ g=>⟨bi g,bi g⟩
 keep:=λ_ _ g hk=>hk d (.inl rfl) _ g
 notList:=by decide
 notTuple:=by decide
 hint:=λ_ _ _ _ g hq=>PySem.W.kdl_hint_dict ⟨od,g,x.1⟩ hq
 iter:=λ_ _ hh g=>⟨_,_,(λ_ _ hq=>Eh lo g x c hq),Zbo hh _ (de (bi g)) c,⟨⟨_,b3 _ rfl,rfl,rfl⟩,az _ g⟩⟩
theorem Sc{Q:List ag->ap->Prop}(hh:A.handled=aB)(lo:(d==d3)=aD)(x:od.ExactDict)(c:od.data= .dict es ep)(g:s.heap.get? d=aA od)(hn:es.size<=1000)
  (h:∀h' tk,(∀b o,s.heap.get? b=aA o->h'.get? b=aA o)->s.heap.objs.size<=h'.objs.size->Q (es.toList.map (·.key)) {s with heap:=h',toks:=tk}):br (cg prog w) A (collect (.ref d)) Q E s:=by
 have hlr:d<s.heap.objs.size:=bi g;have nS:s.heap.objs.size≠d:=Nat.ne_of_gt hlr;unfold collect;refine ac (wpAny_runValue (codeAny_builtin PySem.F.entry_proto_collect ?_));rw[Around.under_plainId PySem.F.plain_proto_collect _];show br _ A.in1 (newList [] >>=λl=>again (.builtin "list.__iadd__" ⟨[l,.ref d],[]⟩)) _ _ s;refine ac (wpAny_newObj_type ?_);refine ao ⟨plainId_quiet PySem.F.plain_list_iadd _,codeAny_builtin PySem.F.entry_list_iadd ?_⟩;rw[Around.under_plainId PySem.F.plain_list_iadd _];show br _ A.in1 (Builtin.List.listExtendWith (.ref s.heap.objs.size) (.ref d) (.ref s.heap.objs.size)) _ _ _;refine PySem.W.kdl_extend (R:=λrr s'=>match rr with
  | .ok (.ret v)=>br (cg prog w) A (match v with
   | .ref a=>(load a >>=λx=>match x.data with
    | .seq xs _=>pure xs.toList
    |_=>unsupported "internal:collect")
   |_=>unsupported "internal:collect") Q E s'
  | .ok _=>False
  | .error e=>E e s') (s:={s with heap:=s.heap.push {cls:=.type "list",data:=.seq #[] 0}}) (Zjn (prog:=prog) (w:=w) lo x c) hh (az _ g) s.heap.objs.size nS nS _ 0 (b3 _ rfl) (λh' tk acc' c' hk gS hacc=>?_) (by rw[sizeLine_eq];omega)
 show br _ A (load s.heap.objs.size >>=_) _ _ _;refine ac (wpAny_load gS ?_);refine ao ?_;have e:acc'.toList=es.toList.map (·.key):=by
  apply List.ext_getElem?;intro i;rw[Array.getElem?_toList,bn,Array.getElem?_toList];cases hi:acc'[i]? with
  |none=>
   have:acc'.size<=i:=by simpa using hi
   rw[hacc.1]at this;rw[show es[i]? =aB by simpa using this];rfl
  |some v=>obtain⟨e,he,rfl⟩:=hacc.2 i v hi;rw[he];rfl
 show Q acc'.toList _;rw[e];exact h h' tk (λb o q=>hk b o (de (bi q)) (az _ q)) (Nat.le_of_lt (bi gS))
end
end TX
namespace TX
open PySem PySem.Spec PySem.Calls PyProof.Rows L2 DL
open PySem.W (kas_sort kas_ask kas_item kat_run kat_snds)
end TX
namespace L2
open PySem PySem.Spec PySem.Calls PyProof.Rows DL TX
end L2
namespace DL
open PySem PySem.Spec PySem.Calls PyProof.Rows L2 TX
end DL
namespace L2
open PySem PySem.Spec PyProof.Rows
variable{X:Cx}{pos:Pos}
end L2
namespace DL
open PySem PySem.Spec PyProof.Rows L2
variable{K:ad}{Z:Ent K}{H:Hp}{σ:L2.St}
noncomputable def Zsd(n:Nat)(g:FGs):FG:=⟨λd δ=>match d with
 | .lst xs=>if xs.length=n then g.run xs δ else aB
 |_=>aB,g.tch⟩
@[simp]theorem Zse(n:Nat)(g:FGs)(xs:List D)(δ:Yw):(Zsd n g).run (.lst xs) δ=if xs.length=n then g.run xs δ else none:=rfl
variable{X:Cx}{Z:Ent X.K}{pos:Pos}
end DL
namespace TT
open PySem PySem.SetTable SX
noncomputable def adv(m:Nat)(p:Probe):Probe:=
 if p.more > 0 then{p with j:=p.j+1,more:=p.more- 1}else
 {p with j:=(leap m p.i p.perturb).1,more:=runEnd m (leap m p.i p.perturb).1- (leap m p.i p.perturb).1,i:=(leap m p.i p.perturb).1,perturb:=(leap m p.i p.perturb).2}
theorem Zuk(t:SetTable)(p:Probe):t.advance p=adv t.mask p:=rfl
noncomputable def Zsf(m i q:Nat):Probe:={j:=i,more:=runEnd m i- i,i:=i,perturb:=q,dummy:=aB}
abbrev Zoa(m:Nat)(h:Int):Probe:=Zsf m (bits h % (m+1)) (bits h)
theorem Zsg(t:SetTable)(h:Int):t.probeStart h=Zoa t.mask h:=rfl
end TT
namespace TT
open PySem PySem.SetTable SX
end TT
namespace TT
open PySem PySem.SetTable PySem.Spec PyProof.Rows SX L2
section
variable{prog:b5}{w:cw}{A:c8}{E:ag->ap->Prop}{s:ap}
abbrev ent(prog:b5)(w:cw)(z:Wq×ak):Int×Value:=(Hb prog w z.1,b9 z.2)
variable{a b:ak}{o:Obj}{es:Array (Int×ag)}{ep:Nat}{t:SetTable}{zs:List (Wq×ak)}{k:Wq}
end
end TT
namespace TT
open PySem PySem.SetTable PySem.Spec PyProof.Rows SX L2
end TT
namespace TT
open PySem PySem.SetTable PySem.Spec PyProof.Rows SX L2
end TT
namespace TT
open PySem PySem.Spec PyProof.Rows L2 DL TX SX
def nkD:Wq->D
 | .inl l=>.tup (l.map D.str)
 | .inr (n,l)=>.tup [.int n,.tup (l.map D.str)]
end TT
namespace L2
open PySem PySem.Spec PySem.Calls PyProof.Rows DL TX SX TT
end L2
namespace DL
open PySem PySem.Spec PyProof.Rows L2 SX TT TX
variable{K:ad}
def nk?:D->Option Wq
 | .tup xs=>match strs? xs with
  |some l=>aA (.inl l)
  |none=>match xs with
   | [.int n,.tup ys]=>(strs? ys).bind λl=>aA (.inr (n,l))
   |_=>aB
 |_=>aB
def nks?:List D->Option (List Wq)
 | []=>aA []
 |d::r=>(nk? d).bind λk=>(nks? r).bind λks=>aA (k::ks)
end DL
namespace L2
open PySem PySem.Spec PySem.Calls PyProof.Rows
section
variable{X:Cx}{o i e f:b7}{td ty tx:TE}{pos apos cpos:Pos}
def Zlj(K:ad):V->List V->Hp->VK->Prop:=λx vs H Q=>∃l b xs zs,x= .ref l/\vs=[.ref b]/\H l=aA (.lst xs)/\Oa K H b zs/\xs.length+zs.length<=sizeLine/\Q .non (Y7 H l (.lst (xs++zs)))
end
end L2
namespace L2
open PySem PySem.Spec PySem.Calls PyProof.Rows
theorem Zjo(l:ak)(items:Array ag)(n:Nat)(b:ak)(items2:Array ag)(n2:Nat)(dc:Option ak)(sl:Array (Option ag))(hs0:¬(!items.isEmpty&&Builtin.List.listTooLong (items.size+items2.size))=aC)(hs1:items.size<=sizeLine)(hs2:items.size+items2.size<=sizeLine+1):
  Meets (Builtin.«list.extend» ⟨[.ref l,.ref b],[]⟩) (λ_ R s=>s.heap.get? l=aA {cls:=.type "list",dict:=aB,data:=.seq items n,slots:= #[]}/\s.heap.get? b=aA {cls:=.type "list",dict:=dc,data:=.seq items2 n2,slots:=sl}/\R (.ok (.ret dw)) {s with heap:=s.heap.update l (Obj.mapSeq λx=>x++items2),toks:=s.toks}):=
 .of_wp λprog w A R s h=>by
  obtain⟨hp,g,d,tk,os⟩:=s;obtain⟨hl,hb,h⟩:=h;have f1:=AutoSeq1.idx_int;have f2:=AutoSeq1.sub_tuple_tuple;have f3:=AutoSeq1.sub_list_list;have f4:=AutoSeq1.sub_tuple_list;have f5:=AutoSeq1.sub_list_tuple;have hz':(items++items2).size<=sizeLine+1:=by rw[Array.size_append];exact hs2
  wp_walk using(wpAny_updateSeq hl rfl (hz:=hs1) (_hz':=hz')),AutoSeq1.wpAny_loadPart' hl,AutoSeq1.wpAny_loadPart' hb;exact⟨_,rfl,h⟩
theorem Zjp{X:Cx}:MtM X "list.extend" (Zlj X.K):=by
 intro pins s σ H x vs v us Q I rx rv h;obtain⟨l,b,xs,zs,rfl,rfl,hH,hB,hz,q⟩:=h;cases rx;obtain⟨u,rfl,ru⟩:=rv.one;cases ru;obtain⟨z,its,n,r,hl,e⟩:=I.lstM hH;obtain⟨its2,r2,⟨o,n2,ho,hc,hdn,hd⟩,z2⟩:=I.list hB;have hl2:=r2.length;obtain⟨cls,dc,data,sl⟩:=o;cases hc;cases hd;have hsz:its.toArray.size+its2.toArray.size<=sizeLine:=by rw[bu,bu];omega
 have hlong:¬(!its.toArray.isEmpty&&Builtin.List.listTooLong (its.toArray.size+its2.toArray.size))=aC:=by rw[Ny hsz,Bool.and_false];exact ba
 refine call_meets F.slot_list_extend ⟨_,e,rfl⟩ F.entry_list_extend (F.args_list_extend_2 _ _)
  (Zjo l its.toArray n b its2.toArray n2 dc sl hlong (by rw[bu];omega) (by omega)) ⟨e,ho,?_⟩
 refine⟨.non,_,I.lset (its':=its++its2) hH e (by simp) (r.append r2) ?_,rfl,q⟩;rw[aw];omega
end L2
namespace DL
open PySem PySem.Spec PyProof.Rows L2 TT
variable{K:ad}
theorem Kids.appL{F:Hp}:∀{xss:List (List D)} {ws:List V} {ns:Zo} {p:Nat} {b:ak},Kids K F xss ws ns->ws[p]? =aA (.ref b)->(U6 ns).Nodup->
  ∃xs vs,xss[p]? =aA xs/\(b,HO.lst vs)∈ns/\Reps K F xs vs/\∀{ys:List D} {us:List V},Reps K F ys us->∃ns',Kids K F (xss.set p (xs++ys)) ws ns'/\U6 ns'=U6 ns/\∀q∈ns',q=(b,HO.lst (vs++us))\/(q∈ns/\q.1≠b)
 |_,_,_,_,_,.nil,e,_=>by simp at e
 |_,_,_,0,b,@Kids.cons _ _ xs xss b' vs ws ns r t,e,nd=>by
  have e':b'=b:=by simpa using e
  subst e';obtain⟨n1,n2⟩:=d5.mp nd;refine⟨xs,vs,rfl,af,r,fun{ys us} hd=>⟨(b',.lst (vs++us))::ns,.cons (r.append hd) t,rfl,λq hq=>?_⟩⟩;rcases bo.mp hq with z|z
  .exact .inl z
  .exact .inr ⟨aj _ z,λw=>n1 (ax.mpr ⟨q,z,w⟩)⟩
 |_,_,_,p+1,b,@Kids.cons _ _ xs0 xss b' vs0 ws ns r t,e,nd=>by
  obtain⟨n1,n2⟩:=d5.mp nd;obtain⟨xs,vs,h1,h2,h3,h4⟩:=Kids.appL (p:=p) (b:=b) t (by simpa using e) n2;refine⟨xs,vs,by simpa using h1,aj _ h2,h3,fun{ys us} hd=>?_⟩;obtain⟨ns',k1,k2,k3⟩:=h4 hd;refine⟨(b',.lst vs0)::ns',by rw[List.set_cons_succ];exact .cons r k1,by show b'::U6 ns'=b'::U6 ns;rw[k2],λq hq=>?_⟩;rcases bo.mp hq with z|z
  .refine .inr ⟨by rw[z];exact af,λw=>n1 ?_⟩;rw[z]at w;exact ax.mpr ⟨_,h2,w.symm⟩
  .rcases k3 q z with w|⟨w,w2⟩
   .exact .inl w
   .exact .inr ⟨aj _ w,w2⟩
section
variable{Z:Ent K}{H:Hp}{σ:L2.St}{Q:VK}{E:Ends}
def okX(xss:List (List D))(n:Nat):Prop:=xss.length<bv/\n<bv/\∀xs∈xss,xs.length+n<bv
end
end DL
namespace L2
open PySem PySem.Spec PySem.Calls PyProof.Rows
end L2
namespace DL
open PySem PySem.Spec PyProof.Rows L2 TT
variable{K:ad}
section
variable{Z:Ent K}{H:Hp}{σ:L2.St}{Q:VK}{E:Ends}
@[simp]def Kj(i:Nat)(fe:FE):FS:=λδ=>match δ[i]? with
 |some (aA (.ol _))=>(fe δ).bind λp=>(frz p.1 p.2).bind λq=>match q.1,q.2[i]? with
  | .lst ys,aA (aA (.ol xs))=>if xs.length+ys.length<=bv then aA (.nx (q.2.set i (aA (.ol (xs++ys)))))else aB
  |_,_=>aB
 |_=>aB
theorem Zob{i:Nat}{fe:FE}(h:Zx Z (Kj i fe) E σ H):Tv (tBM K "list" (Zlj K) (Mz i) (Gu (Ze Z fe) Av)) E σ H:=by
 obtain⟨F,δ,own,fl,s,e,k⟩:=h;unfold Kj at e;split at e
 .rename_i xs0 hx0;obtain⟨⟨rv,δ1⟩,e1,e2⟩:=aa.mp e;obtain⟨⟨d,δ2⟩,e3,e4⟩:=aa.mp e2;obtain⟨v,hv,sh⟩:=s.at' i _ hx0;obtain⟨a,vs0,ev,en,r0⟩:=Qg sh;refine⟨v,hv,?_,F,δ,own,rv,δ1,s,e1,λy H1 F1 own1 sH sF s1 r1=>?_⟩
  .subst ev;exact .inl ⟨rfl,vs0,.inl (.inl (s.ok i (a,.lst vs0) (by rw[en];exact af)).2.2)⟩
  obtain⟨F2,sF2,s2,r2⟩:=s1.settleR r1;obtain⟨F3,own3,sF3,s3,r3⟩:=s2.frzR r2 e3;dsimp only at e4;split at e4
  .rename_i ys xs hx;by_cases hz:xs.length+ys.length<=bv
   .rw[if_pos hz]at e4;cases e4;obtain⟨v',hv',sh'⟩:=s3.at' i _ hx;rw[hv]at hv';cases hv';obtain⟨b,vs,eb,en',r'⟩:=Qg sh';have mb:(b,HO.lst vs)∈own3 i:=by rw[en'];exact af
    subst eb;cases r3 with
    | @lst l _ us hl _ ru=>refine⟨b,l,vs,us,rfl,rfl,(s3.ok i _ mb).2.2,W4 s3.le hl,by rw[<-r'.length,<-ru.length];exact hz,?_⟩;exact k σ _ F3 _ (sF.trans (sF2.trans sF3)) (s3.change (sv':=.ol (xs++ys)) (o':=.lst (vs++us)) (ns':=[(b,.lst (vs++us))]) hx hv mb (.ol (r'.append ru)) (λp hp=>.inl (aq.mp hp)) Nl)
   .rw[if_neg hz]at e4;cases e4
  .cases e4
 .cases e
end
section
variable{X:Cx}{Z:Ent X.K}{a b c:b7}{fa fb fc:FE}{pos:Pos}
theorem Zoc(i:Nat){x:Str}{px apos cpos:Pos}(hb:PE X b (Ze Z fb))(hN:X.N[i]? =aA x:=by rfl)(hv:Vb X.env.scope x:=by first|exact Or.inl rfl|exact fg (Or.inl rfl)|exact fg (fg rfl))(hd:(x==("__debug__":Str))=aD:=by decide)
  (hcd:(x==("__classdict__":Str))=aD:=by decide) (hbase:attributeBase (.Name x px) "extend" X.env (dk (.Name x px) X.env)=dk (.Name x px) X.env:=by rfl)
  (hfew:((dj cpos (av [b] X.env)).all (λx=>!x.1)&&(backToKw cpos (keywordEach [] X.env)).all (λx=>x.1.isSome)&&decide ([b].length+([]:List Keyword).length+(if([]:List Keyword).isEmpty then 0 else 1)<30))=aC:=by rfl)
  (hline:(apos.endLine==cpos.line)=aC:=by rfl) (hs:av [b] X.env=(aD,dk b X.env)::av [] X.env:=by rfl) (hpl:(dj cpos (av [] X.env)).any (·.1)=aD:=by rfl) (hsw:swapsWith (.Call (.Attribute (.Name x px) "extend" apos) [b] [] cpos) aB pos.line X.env=pure aD:=by rfl):
  PS X (.Expr (.Call (.Attribute (.Name x px) "extend" apos) [b] [] cpos) pos) (Zx Z (Kj i fb)):=
 (Bh (R1 PySem.F.plainAttrs_list PySem.F.slot_list_extend PySem.F.type_list_extend Zjp (On (i:=i) hN hv hd hcd) (W0 hb Ud hs) hbase hfew hline hs hpl) hsw).imp λ_ _ _ h=>Zob h
end
end DL
namespace L2
open PySem PySem.Spec PySem.Calls PyProof.Rows DL TX
section
variable{X:Cx}
def Zfg(_:ad):List V->Hp->VK->Prop:=λvs H Q=>∃a kvs ep ss,vs=[.ref a]/\H a=aA (.dK kvs ep)/\kvs.map (·.1)=ss.map bh/\ss.length<64/\∀q,H q=aB->Q (.ref q) (Y7 H q (.lst ((Ot ss).map V.str)))
theorem Kk{P:b5}{w:cw}:∀{es:List DictEntry} {vs:List (Key×ag)} {ss:List Str},Pairs (Zs P w) es vs->vs.map (·.1)=ss.map bh->StrsAre (es.map (·.key)) ss
 |_,_,[],.nil,_=>.nil
 |_,_,_::_,.nil,h=>nomatch h
 |_,_,[],.cons _ _ _,h=>nomatch h
 |_,_,x::ss,.cons h1 _ t,h=>by
  rw[ay,ay]at h;injection h with h2 h3;rw[h2]at h1;rw[ay];rcases Z7 (k:=.inr x) h1 with⟨_,_,z,_⟩|⟨y,tk,z,e⟩
  .cases z
  .cases z;rw[e];exact .cons _ _ (Kk t h3)
theorem Xg(hc:X.calm=aC):Je X (.builtin "sorted") (Zfg X.K):=by
 intro pins s σ H xs us Q I r h;obtain⟨a,kvs,ep,ss,rfl,ha,hk0,hz,q⟩:=h;obtain⟨u,rfl,ru⟩:=Jw r;cases ru;obtain⟨z,hd,vs,rel,od,es,g,x,c,ko,pr,nd⟩:=(show Yu X.prog X.w H s.heap a (.dK kvs ep)from I.hok a _ ha)
 have hvk:vs.map (·.1)=ss.map Sum.inr:=by
  rw[<-hk0];clear ha pr hk0 z nd;induction rel with
  |nil=>rfl
  |cons h _ ih=>rw[ay,ay,ih,h.1]
 have hS:=Kk pr hvk;have hes:es.size=ss.length:=by have:=Gf pr;rw[cq]at this;have h2:=congrArg List.length hvk;rw[am,am]at h2;omega
 refine Calls.call_function_entry kind_sorted plain_sorted entry_sorted (args_sorted1 _) ?_;unfold Builtin.«sorted»;refine ac (m:=checkCount "sorted" 1 1 _) (ao ?_);refine ac (Sc (A:=X.A.in1) (I.ok.hd hc) hd x c g (by omega) λh1 tk hk ge=>?_);generalize es.toList.map (·.key)=its at hS;have il:its.length=ss.length:=hS.length;refine ac (wpAny_newList ?_ (by rw[sizeLine_eq];omega));have gL:(h1.push (seqObj "list" its.toArray 0)).get? h1.objs.size=aA (seqObj "list" its.toArray 0):=b3 _ rfl;have ltL:h1.objs.size<(h1.push (seqObj "list" its.toArray 0)).objs.size:=bi gL;refine ac (wpAny_holding (dv slot_list_sort ⟨_,gL,rfl⟩ entry_list_sort (list_sort_treeK (s:={s with heap:=h1.push (seqObj "list" its.toArray 0),toks:=tk}) strKind_oneLt gL hS.keysOf (λv₁ v₂ rest e=>keyKind_strs (by rw[<-e];exact hS)) (by omega) λst' hp hs=>⟨_,rfl,?_⟩) (args_list_sort _)));obtain⟨ss',a1,a2,a3⟩:=sorted_out_str hS hp hs;have e:ss'=Ot ss:=Zbm (a2.trans (Qc ss).symm) (Zbn a3) (Dx ss);subst e;obtain⟨cc,hcc⟩:=sortedHeap_at (out:=(arrOf st').map (·.2)) gL;have keep:∀b o,s.heap.get? b=aA o->(sortedHeap (h1.push (seqObj "list" its.toArray 0)) h1.objs.size its ((arrOf st').map (·.2))).get? b=aA o:=λb o e=>by have e1:=hk b o e;have lt1:b<h1.objs.size:=bi e1;rw[sortedHeap_old (de lt1) (Nat.lt_trans lt1 ltL)];exact az _ e1
 have ok:Yu X.prog X.w (Y7 H h1.objs.size (.lst ((Ot ss).map V.str))) (sortedHeap (h1.push (seqObj "list" its.toArray 0)) h1.objs.size its ((arrOf st').map (·.2))) h1.objs.size (.lst ((Ot ss).map V.str)):=by refine⟨?_,((arrOf st').map (·.2)).toList,cc,Em a1,by rw[Array.toArray_toList];exact hcc⟩;rw[am,(Qc ss).length_eq,sizeLine_eq];omega
 exact ao ⟨_,rfl,.ref h1.objs.size,_,I.laid (t':=tk) keep ge ok,rfl,q _ (I.hok.fresh ge)⟩
end
end L2
namespace DL
open PySem PySem.Spec PySem.Calls PyProof.Rows L2 TX
variable{K:ad}
def txk?:List Key->Option (List Str)
 | []=>aA []
 | .inr x::r=>(txk? r).bind λl=>aA (x::l)
 | .inl _::_=>aB
@[simp]theorem Dz:∀ss:List Str,txk? (ss.map bh)=some ss
 | []=>rfl
 |s::ss=>by rw[ay,txk?,Dz ss];rfl
theorem Zfh:∀{ks:List Key} {ss:List Str},txk? ks=aA ss->ks=ss.map bh
 | [],_,h=>by cases h;rfl
 | .inr x::r,_,h=>by obtain⟨l,h1,h2⟩:=aa.mp (show(txk? r).bind _=_ from h);cases h2;rw[Zfh h1];rfl
 | .inl _::_,_,h=>nomatch h
def Ou:List D->Option SV
 | [.dK ks _]=>(txk? ks).bind λss=>if ss.length<64 then aA (.ol ((Ot ss).map D.str))else aB
 |_=>aB
theorem Zbp{ss:List Str}{vs:List D}(h:ss.length<64):Ou [.dK (ss.map bh) vs]=aA (.ol ((Ot ss).map D.str)):=by show(txk? (ss.map bh)).bind _=_;rw[Dz];show(if ss.length<64 then _ else _)=_;rw[if_pos h]
section
variable{Z:Ent K}{H:Hp}{σ:L2.St}{Q:VK}{E:Ends}
theorem Zjq:O7 Z (Zfg K) Ou:=by
 intro F H σ δ own vs ds sv Q s r e k;unfold Ou at e;split at e
 .obtain⟨ss,e1,e2⟩:=aa.mp e;split at e2
  .rename_i hz;cases e2;cases r with
   |cons h t=>cases t;obtain⟨a,kvs,rfl,⟨ep,ha⟩,ek,_⟩:=h.dK s.le;exact⟨a,kvs,ep,ss,rfl,ha,by rw[ek];exact Zfh e1,hz,λq hq=>k.lst s (Sb _) hq⟩
  .cases e2
 .cases e
end
section
variable{X:Cx}{Z:Ent X.K}{a b c:b7}{fa fb fc:FE}{pos:Pos}
theorem Zjr{p:Pos}(hc:X.calm=aC)(hm:X.mg "sorted"=aB)(ha:PE X a (Ze Z fa))(hg:Gl X "sorted":=by rfl)(he:av [a] X.env=(aD,dk a X.env)::av [] X.env:=by rfl)(hpl:(dj pos (av [] X.env)).any (·.1)=aD:=by rfl):
  PE X (.Call (.Name "sorted" p) [a] [] pos) (Ze Z (Yg Ou (Zc fa Zj))):=Lm (Xg hc) Zjq hm L2.P9 (Zn ha Ys he) hg (by decide) (by decide) he hpl
end
end DL
namespace DL
open PySem PySem.Spec PyProof.Rows L2 TT
variable{K:ad}
open Classical in
def res(S:ak->Prop)(F:Hp):Hp:=λb=>if S b then F b else aB
end DL
namespace DL
open PySem PySem.Spec PyProof.Rows L2 TT
end DL
namespace DL
open PySem PySem.Spec PyProof.Rows L2 TX TT
variable{K:ad}
open Classical in
def inN(d1 d2:D):Option SV:=match d2 with
 | .lst xs=>(nk? d1).bind λk=>(nks? xs).bind λks=>if(∀k'∈ks,Da 48 (nkD k') (nkD k)=aA (decide (k'=k)))then aA (.fz (.bl (ks.any λx=>decide (x=k))))else aB
 |_=>aB
end DL
namespace RV
open PySem PyProof.Rows
end RV
namespace RV
open PySem PyProof.Rows
end RV
namespace L2
open PySem PySem.Spec PyProof.Rows RV
end L2
namespace DL
open PySem PySem.Spec PyProof.Rows L2
variable{K:ad}{Z:Ent K}{σ:L2.St}{H:Hp}
end DL
namespace DL
open PySem PySem.Spec PyProof.Rows L2
variable{K:ad}
end DL
namespace L2
open PySem PySem.Spec PyProof.Rows SX TT TX DL
end L2
namespace DL
open PySem PySem.Spec PyProof.Rows L2 SX TT TX
variable{K:ad}
end DL
namespace DL
open PySem PySem.Spec PyProof.Rows L2 TT TX
variable{K:ad}
end DL
namespace L2
open PySem PySem.Spec PySem.Calls PyProof.Rows
def Xh(td ty tx:TE):TE:=λσ H Q=>td σ H λx H1=>∃a,x= .ref a/\(∃kvs,HK H1 a kvs)/\ty σ H1 λy H2=>tx σ H2 λz H3=>∃kvs k,y=kV k/\HK H3 a kvs/\kvs.length<sizeLine/\
 ((∃v,Jx kvs k=aA v/\Q v H3)\/(Jx kvs k=aB/\∀ep',Q z (Y7 H3 a (.dK (Qa kvs k z) ep'))))
section
variable{X:Cx}{o i e f:b7}{td ty tx:TE}{pos apos cpos:Pos}
theorem Sd(ho:PE X o td)(he:PE X e ty)(hf:PE X f tx)(m:M2 X o "setdefault" apos e f cpos):PE X (.Call (.Attribute o "setdefault" apos) [e,f] [] cpos) (Xh td ty tx):=by
 intro pins s σ H Q I h;refine wpAny_Call_method m.base m.few m.line PySem.F.plainAttrs_dict PySem.F.slot_dict_setdefault PySem.F.type_dict_setdefault (Wl (ho pins s σ H _ I h) λu s1 zq9=>?_);obtain⟨x,H1,I1,rx,a,ex,d,q1⟩:=zq9;subst ex;obtain rfl:u=b9 a:=rx;obtain⟨t1,t2,_⟩:=Zmw I1 (.inl (let⟨kvs,e⟩:=d;⟨kvs,e.rd⟩));refine⟨t1,t2,?_⟩;rw[m.trees];refine Calls.callWith_builtin rfl (Calls.evalArgs_plain (Calls.spliced_cons (Wl (he pins s1 σ H1 _ I1 q1) λiv s2 ⟨y,H2,I2,ry,q2⟩=>
  Calls.spliced_cons (Wl (hf pins s2 σ H2 _ I2 q2) λfv s3 ⟨z,H3,I3,rz,kvs,k,ey,ea,hl,q3⟩=>Calls.spliced_nil ?_))))
 subst ey;obtain⟨hz,hd,vs,rel,dd⟩:=Hm I3.hok ea;have hvl:vs.length=kvs.length:=(Paired.length rel).symm;refine dv PySem.F.slot_dict_setdefault dd.typeIs PySem.F.entry_dict_setdefault ?_ (PySem.F.args_dict_setdefault_3 _ _ _);unfold Builtin.«dict.setdefault»;refine ac (m:=Builtin.Dict.keyAndDefault "setdefault" ⟨[.ref a,iv,fv],[]⟩) ?_;show br _ _ (Builtin.Dict.notOrdered "setdefault" ⟨[.ref a,iv,fv],[]⟩>>=_) _ _ s3;refine ac (wpAny_notOrdered_dict dd.typeIs ?_);refine ao (a:=(a,iv,aA fv)) ?_;dsimp only;rw[if_neg (by rw[hd];simp)];refine ac (kt_dictSetDefault_pairs (knd:=Zs X.prog X.w) (R4 ry) dd (λv hv=>?_) (λhno h' dd' hs=>?_) (by omega))
 .have r:=rel.val k;rcases q3 with⟨v',ev,q⟩|⟨ev,_⟩
  .rw[hv,ev]at r;exact ao ⟨_,rfl,v',H3,I3.tok _,r,q⟩
  .rw[hv,ev]at r;exact r.elim
 .have r:=rel.val k;rcases q3 with⟨v',ev,q⟩|⟨ev,q⟩
  .rw[hno,ev]at r;exact r.elim
  .have hl2:(Qa kvs k z).length<=sizeLine:=by have:=Ob kvs k z;omega
   have hq:∃q,h'.get? a=aA q:=let⟨q,_,_,hq,_⟩:=dd';⟨q,hq⟩
   obtain⟨ep,ok⟩:=Ld hl2 hd (rel.put k rz) dd';exact ao ⟨_,rfl,z,_,Ag I3 (by obtain⟨e0,e⟩:=ea;rw[e];exact True.intro) hs hq (ok _),rz,q ep⟩
end
end L2
namespace DL
open PySem PySem.Spec PyProof.Rows L2 TT TX
variable{K:ad}
theorem Tc{k:Key}:∀{kvs:List (Key×V)},Wj (kvs.map (·.1)) k=aB->Jx kvs k=aB
 | [],_=>rfl
 |q::r,e=>by
  have e:(if q.1=k then aA 0 else(Wj (r.map (·.1)) k).map (· +1))=aB:=e;by_cases h:q.1=k
  .rw[if_pos h]at e;cases e
  .rw[if_neg h]at e;rw[O3 h];exact Tc (Option.map_eq_none_iff.mp e)
theorem Se{kvs:List (Key×V)}{k:Key}{z:V}(h:Jx kvs k=aB):Qa kvs k z=kvs++[(k,z)]:=by unfold Qa;rw[if_neg];rw[R3,h];exact λz=>nomatch z
theorem Zfi{F:Hp}{q:ak}{ks:List Key}{xss:List (List D)}{v:V}{ns:Zo}(h:Shape K F (.oR q ks xss) v ns):∃kvs ns' ep,v= .ref q/\ns=(q,.dK kvs ep)::ns'/\kvs.map (·.1)=ks/\Kids K F xss (kvs.map (·.2)) ns':=by
 cases h with
 |oR e r=>exact⟨_,_,_,rfl,rfl,e,r⟩
section
variable{Z:Ent K}{H:Hp}{σ:L2.St}{Q:VK}{E:Ends}
theorem Zfj{F:Hp}{δ:Yw}{own:Nat->Zo}{i:Nat}{a:ak}{ks:List Key}{xss:List (List D)}(s:SR Z F H σ δ own)(e:δ[i]? =aA (aA (.oR a ks xss))):∃kvs ep ns',σ[i]? =aA (aA (.ref a))/\own i=(a,.dK kvs ep)::ns'/\H a=aA (.dK kvs ep)/\kvs.map (·.1)=ks/\Kids K F xss (kvs.map (·.2)) ns':=by obtain⟨x,hx,sh⟩:=s.at' i _ e;obtain⟨kvs,ns',ep,rfl,en,ek,kd⟩:=Zfi sh;exact⟨kvs,ep,ns',hx,en,(s.ok i (a,.dK kvs ep) (by rw[en];exact af)).2.2,ek,kd⟩
theorem Zod{F:Hp}{δ:Yw}{own:Nat->Zo}{i:Nat}{a:ak}{ks:List Key}{xss:List (List D)}{k:Key}{p:Nat}(s:SR Z F H σ δ own)(e:δ[i]? =aA (aA (.oR a ks xss)))(hp:Wj ks k=aA p):
  ∃kvs ep c vs xs,σ[i]? =aA (aA (.ref a))/\H a=aA (.dK kvs ep)/\kvs.length=xss.length/\Jx kvs k=aA (.ref c)/\H c=aA (.lst vs)/\xss[p]? =aA xs/\xs.length=vs.length/\F c=aB/\
   ∀(ys:List D) (us:List V),Reps K F ys us->∃own',SR Z F (Y7 H c (.lst (vs++us))) σ (δ.set i (aA (.oR a ks (xss.set p (xs++ys))))) own':=by
 obtain⟨kvs,ep,ns',hx,en,hH,ek,kd⟩:=Zfj s e;rw[<-ek]at hp;obtain⟨v,g1,g2⟩:=M9 hp;obtain⟨c,rfl⟩:=kd.ref g1;have nd:=s.nod i;rw[en]at nd;obtain⟨n1,n2⟩:=d5.mp nd;obtain⟨xs,vs,q1,q2,q3,q4⟩:=kd.appL g1 n2;have mb:(c,HO.lst vs)∈own i:=by rw[en];exact aj _ q2
 obtain⟨fc,_,hHc⟩:=s.ok i _ mb;refine⟨kvs,ep,c,vs,xs,hx,hH,by have:=kd.length;rw[am]at this;exact this.symm,g2,hHc,q1,q3.length,fc,λys us r=>?_⟩;obtain⟨ns2,k1,k2,k3⟩:=q4 r;have hac:a≠c:=λz=>n1 (ax.mpr ⟨_,q2,z.symm⟩);refine⟨_,s.change (sv':=.oR a ks (xss.set p (xs++ys))) (o':=.lst (vs++us)) (ns':=(a,.dK kvs ep)::ns2) e hx mb (.oR ek k1) (λq hq=>?_) ?_⟩
 .rcases bo.mp hq with z|z
  .exact .inr ⟨by rw[en,z];exact af,by rw[z];exact hac⟩
  .rcases k3 q z with w|⟨w,w2⟩
   .exact .inl w
   .exact .inr ⟨by rw[en];exact aj _ w,w2⟩
 .show(a::U6 ns2).Nodup;rw[k2];exact nd
theorem Zoe{F:Hp}{δ:Yw}{own:Nat->Zo}{i:Nat}{a:ak}{ks:List Key}{xss:List (List D)}{k:Key}(s:SR Z F H σ δ own)(e:δ[i]? =aA (aA (.oR a ks xss)))(hp:Wj ks k=aB):
  ∃kvs ep,σ[i]? =aA (aA (.ref a))/\H a=aA (.dK kvs ep)/\kvs.length=xss.length/\Jx kvs k=aB/\F a=aB/\
   ∀(l:ak) (ys:List D) (us:List V) (ep':Nat),H l=aB->Reps K F ys us->∃own',SR Z F (Y7 (Y7 (Y7 H l (.lst [])) a (.dK (kvs++[(k,.ref l)]) ep')) l (.lst us)) σ (δ.set i (aA (.oR a (ks++[k]) (xss++[ys])))) own':=by
 obtain⟨kvs,ep,ns',hx,en,hH,ek,kd⟩:=Zfj s e;rw[<-ek]at hp;have nd:=s.nod i;rw[en]at nd;obtain⟨n1,n2⟩:=d5.mp nd;have mb:(a,HO.dK kvs ep)∈own i:=by rw[en];exact af
 refine⟨kvs,ep,hx,hH,by have:=kd.length;rw[am]at this;exact this.symm,Tc hp,(s.ok i _ mb).1,λl ys us ep' hl r=>?_⟩;have hla:l≠a:=λz=>by rw[z,hH]at hl;cases hl
 have eH:Y7 (Y7 (Y7 H l (.lst [])) a (.dK (kvs++[(k,.ref l)]) ep')) l (.lst us)=Y7 (Y7 H l (.lst us)) a (.dK (kvs++[(k,.ref l)]) ep'):=by
  funext c;unfold Y7;by_cases h1:c=l
  .rw[if_pos h1];by_cases h2:c=a
   .exact absurd (h1.symm.trans h2) hla
   .rw[if_neg h2,if_pos h1]
  .rw[if_neg h1];by_cases h2:c=a
   .rw[if_pos h2,if_pos h2]
   .rw[if_neg h2,if_neg h2,if_neg h1,if_neg h1]
 rw[eH];have sm:=Qy (o:=HO.lst us) hl;have s1:=s.grow sm;have t:TmpOk Z F (Y7 H l (.lst us)) own (.ol ys) (.ref l) [(l,.lst us)]:=by
  refine⟨.ol r,Nl,λq hq=>?_,λj q r hq hr z=>?_⟩
  .obtain rfl:=aq.mp hq;exact⟨s.le.free hl,s.old.free hl,Ye⟩
  .obtain rfl:=aq.mp hq;have z':l=r.1:=z;have:=(s.ok j r hr).2.2;rw[<-z',hl]at this;cases this
 have hb':∀p∈own i,p.1≠l:=λp hp z=>t.sep i (l,.lst us) p af hp z.symm;refine⟨_,s1.changeT (o':=.dK (kvs++[(k,.ref l)]) ep') (ns':=(a,.dK (kvs++[(k,.ref l)]) ep')::(ns'++[(l,.lst us)])) t e hx mb (.oR (by rw[b4,ek];rfl) (by rw[b4];exact kd.snoc r)) (λp hp=>?_) ?_⟩
 .rcases bo.mp hp with z|z
  .exact .inl z
  .rcases cj.mp z with z|z
   .exact .inr (.inl ⟨by rw[en];exact aj _ z,λw=>n1 (ax.mpr ⟨p,z,w⟩)⟩)
   .exact .inr (.inr z)
 .show(a::(ns'++[(l,HO.lst us)]).map (·.1)).Nodup;rw[b4];refine d5.mpr ⟨λz=>?_,?_⟩
  .rcases cj.mp z with z|z
   .exact n1 z
   .exact hb' _ mb (aq.mp z)
  .refine List.nodup_append.mpr ⟨n2,Nl,λx hx y hy z=>?_⟩;obtain⟨p,hp,ep⟩:=ax.mp hx;have hy':y=l:=aq.mp hy;exact hb' p (by rw[en];exact aj _ hp) (by rw[ep,z,hy'])
@[simp]def En(ks:List Key)(xss:List (List D))(k:Key)(y:D):List Key×List (List D):=match Wj ks k with
 |some p=>(ks,xss.set p (xss.getD p []++[y]))
 |none=>(ks++[k],xss++[[y]])
open Classical in
def Sf(i:Nat)(fk:FE)(j:Nat):FS:=λδ=>match δ[i]? with
 |some (aA (.oR _ _ _))=>(fk δ).bind λp=>(frz p.1 p.2).bind λq=>q.1.key?.bind λk=>match q.2[i]?,q.2[j]? with
  |some (aA (.oR a ks xss)),aA (aA (.fz d))=>if okX xss 1 then aA (.nx (q.2.set i (aA (.oR a (En ks xss k d).1 (En ks xss k d).2))))else aB
  |_,_=>aB
 |_=>aB
theorem Zjs{i j:Nat}{fk:FE}(h:Zx Z (Sf i fk j) E σ H):Tv (tBM K "list" C9 (Xh (Mz i) (Ze Z fk) (Zmn Av)) (Gu (Mz j) Av)) E σ H:=by
 obtain⟨F,δ,own,fl,s,e,k⟩:=h;unfold Sf at e;split at e
 .rename_i a0 ks0 xss0 hi0;obtain⟨⟨rv,δ1⟩,e1,e⟩:=aa.mp e;obtain⟨⟨kd,δ2⟩,e2,e⟩:=aa.mp e;obtain⟨kk,e3,e⟩:=aa.mp e;dsimp only at e2 e3 e;split at e
  .rename_i a ks xss d hi hj;split at e
   .rename_i hok;cases e;obtain⟨kvs0,ep0,ns0,hx0,en0,hH0,_⟩:=Zfj s hi0;refine⟨.ref a0,hx0,a0,rfl,⟨_,_,hH0⟩,F,δ,own,rv,δ1,s,e1,λv H1 F1 own1 sH sF s1 r1=>?_⟩;obtain⟨F2,sF2,s2,r2⟩:=s1.settleR r1;obtain⟨F3,own3,sF3,s3,r3⟩:=s2.frzR r2 e2;obtain⟨y,hy,shy⟩:=s3.at' j _ hj;have ry:=Qz shy;have ek:=M7 e3 (Yh.of (H:=H1) r3);have sFt:=sF.trans (sF2.trans sF3);refine⟨d8 _,λl hl=>?_⟩;have sml:=Qy (o:=HO.lst []) hl;cases hp:Wj ks kk with
    |some p=>
     obtain⟨kvs,ep,c,vs,xs,hx,hH,hlen,hv,hHc,q1,q2,fc,q3⟩:=Zod (s3.grow sml) hi hp;rw[hx0]at hx;cases hx;have hxs:=f7 q1;have hz:=hok.2.2 xs hxs;refine⟨kvs,kk,ek,⟨ep,hH⟩,by rw[hlen];exact hok.1,.inl ⟨.ref c,hv,.inl ⟨rfl,vs,.inl (.inl hHc)⟩,y,hy,c,vs,y,rfl,rfl,hHc,by omega,?_⟩⟩;obtain⟨own',sr⟩:=q3 [d] [y] (.cons ry .nil);refine k σ _ F3 own' sFt ?_;have:En ks xss kk d=(ks,xss.set p (xs++[d])):=by
      unfold En;rw[hp];have:xss.getD p []=xs:=by rw[cf,q1];rfl
      show(ks,xss.set p (xss.getD p []++[d]))=_;rw[this]
     rw[this];exact sr
    |none=>
     obtain⟨kvs,ep,hx,hH,hlen,hv,fa,q3⟩:=Zoe s3 hi hp;rw[hx0]at hx;cases hx;have hH':(Y7 H1 l (.lst [])) a0=aA (.dK kvs ep):=sml _ _ hH;refine⟨kvs,kk,ek,⟨ep,hH'⟩,by rw[hlen];exact hok.1,.inr ⟨hv,λep'=>?_⟩⟩;rw[Se hv];have hla:l≠a0:=λz=>by rw[z,hH]at hl;cases hl
     have hHl:(Y7 (Y7 H1 l (.lst [])) a0 (.dK (kvs++[(kk,.ref l)]) ep')) l=aA (.lst []):=by rw[Zv hla,Ye]
     refine⟨.inl ⟨rfl,[],.inl (.inl hHl)⟩,y,hy,l,[],y,rfl,rfl,hHl,by have h1:=hok.2.1;simp;omega,?_⟩;obtain⟨own',sr⟩:=q3 l [d] [y] ep' hl (.cons ry .nil);refine k σ _ F3 own' sFt ?_;have:En ks xss kk d=(ks++[kk],xss++[[d]]):=by unfold En;rw[hp]
     rw[this];exact sr
   .cases e
  .cases e
 .cases e
def Td(i:Nat)(fk fv:FE):FS:=λδ=>match δ[i]? with
 |some (aA (.oQ _ _ _))=>(fk δ).bind λp=>(frz p.1 p.2).bind λq=>q.1.key?.bind λkk=>(fv q.2).bind λr=>(frz r.1 r.2).bind λw=>match w.2[i]? with
  |some (aA (.oQ a ks ds))=>if ds.length<bv then match Wj ks kk with
   |some _=>aA (.nx w.2)
   |none=>aA (.nx (w.2.set i (aA (.oQ a (ks++[kk]) (ds++[w.1])))))
   else aB
  |_=>aB
 |_=>aB
theorem Zlk{F:Hp}{δ:Yw}{own:Nat->Zo}{i:Nat}{a:ak}{ks:List Key}{ds:List D}(s:SR Z F H σ δ own)(e:δ[i]? =aA (aA (.oQ a ks ds))):∃kvs ep,σ[i]? =aA (aA (.ref a))/\own i=[(a,.dK kvs ep)]/\H a=aA (.dK kvs ep)/\kvs.map (·.1)=ks/\Reps K F ds (kvs.map (·.2)):=by obtain⟨x,hx,sh⟩:=s.at' i _ e;obtain⟨kvs,ep,rfl,en,ek,r⟩:=Pt sh;exact⟨kvs,ep,hx,en,(s.ok i (a,.dK kvs ep) (by rw[en];exact af)).2.2,ek,r⟩
theorem Zjt{i:Nat}{fk fv:FE}(h:Zx Z (Td i fk fv) E σ H):Tv (Xh (Mz i) (Ze Z fk) (Ze Z fv)) E σ H:=by
 obtain⟨F,δ,own,fl,s,e,k⟩:=h;unfold Td at e;split at e
 .rename_i a0 ks0 ds0 hi0;obtain⟨⟨rk,δ1⟩,e1,e⟩:=aa.mp e;obtain⟨⟨kd,δ2⟩,e2,e⟩:=aa.mp e;obtain⟨kk,e3,e⟩:=aa.mp e;obtain⟨⟨rw',δ3⟩,e4,e⟩:=aa.mp e;obtain⟨⟨d,δ4⟩,e5,e⟩:=aa.mp e;dsimp only at e2 e3 e5 e;split at e
  .rename_i a ks ds hi;split at e
   .rename_i hz;obtain⟨kvs0,ep0,hx0,en0,hH0,_⟩:=Zlk s hi0;refine⟨.ref a0,hx0,a0,rfl,⟨_,_,hH0⟩,F,δ,own,rk,δ1,s,e1,λy H1 F1 own1 sH1 sF1 s1 r1=>?_⟩;obtain⟨F2,sF2,s2,r2⟩:=s1.settleR r1;obtain⟨F3,own3,sF3,s3,r3⟩:=s2.frzR r2 e2;have ek0:=M7 e3 (Yh.of (H:=H1) r3);refine⟨F3,δ2,own3,rw',δ3,s3,e4,λz H4 F4 own4 sH4 sF4 s4 r4=>?_⟩;obtain⟨F5,sF5,s5,r5⟩:=s4.settleR r4;obtain⟨F6,own6,sF6,s6,r6⟩:=s5.frzR r5 e5;obtain⟨kvs,ep,hx,en,hH,ek,rr⟩:=Zlk s6 hi;rw[hx0]at hx;cases hx;have sFF:=sF4.trans (sF5.trans sF6);have ll:ds.length=kvs.length:=by rw[rr.length,am]
    have sF:Zl F F6:=sF1.trans (sF2.trans (sF3.trans sFF));refine⟨kvs,kk,ek0,⟨ep,hH⟩,by rw[<-ll];exact hz,?_⟩;have mb:(a0,HO.dK kvs ep)∈own6 i:=by rw[en];exact af
    cases hp:Wj ks kk with
    |some p=>rw[hp]at e;cases e;obtain⟨v,g1,g2⟩:=M9 (kvs:=kvs) (by rw[ek];exact hp);exact .inl ⟨v,g2,k _ H4 F6 own6 sF s6⟩
    |none=>rw[hp]at e;cases e;have hv:=Tc (kvs:=kvs) (by rw[ek];exact hp);refine .inr ⟨hv,λep'=>?_⟩;rw[Se hv];exact k _ _ F6 _ sF (s6.change (sv':=.oQ a0 (ks++[kk]) (ds++[d])) (o':=.dK (kvs++[(kk,z)]) ep') (ns':=[(a0,.dK (kvs++[(kk,z)]) ep')]) hi hx0 mb (.oQ (by rw[b4,ek];rfl) (by rw[b4];exact rr.snoc r6)) (λq hq=>.inl (aq.mp hq)) Nl)
   .cases e
  .cases e
 .cases e
end
section
variable{X:Cx}{Z:Ent X.K}{a b c:b7}{fa fb fc:FE}{pos:Pos}
theorem Zju(i:Nat){y:Str}{py apos cpos:Pos}(ha:PE X a (Ze Z fa))(hb:PE X b (Ze Z fb))(hN:X.N[i]? =aA y:=by rfl)(hv:Vb X.env.scope y:=by first|exact Or.inl rfl|exact fg (Or.inl rfl)|exact fg (fg rfl))(hd:(y==("__debug__":Str))=aD:=by decide)(hcd:(y==("__classdict__":Str))=aD:=by decide)
  (m:M2 X (.Name y py) "setdefault" apos a b cpos:=by exact⟨rfl,rfl,rfl,rfl⟩)
  (hs:swapsWith (.Call (.Attribute (.Name y py) "setdefault" apos) [a,b] [] cpos) aB pos.line X.env=pure aD:=by rfl):
  PS X (.Expr (.Call (.Attribute (.Name y py) "setdefault" apos) [a,b] [] cpos) pos) (Zx Z (Td i fa fb)):=
 (Bh (Sd (On (i:=i) hN hv hd hcd) ha hb m) hs).imp λ_ _ _ h=>Zjt h
theorem Zof(i j:Nat){x y:Str}{k:b7}{fk:FE}{px py p2 ap1 cp1 apos cpos:Pos}(hk:PE X k (Ze Z fk))(hN:X.N[i]? =aA x:=by rfl)(hv:Vb X.env.scope x:=by first|exact Or.inl rfl|exact fg (Or.inl rfl)|exact fg (fg rfl))(hd:(x==("__debug__":Str))=aD:=by decide)(hcd:(x==("__classdict__":Str))=aD:=by decide)
  (hN':X.N[j]? =aA y:=by rfl) (hv':Vb X.env.scope y:=by first|exact Or.inl rfl|exact fg (Or.inl rfl)|exact fg (fg rfl)) (hd':(y==("__debug__":Str))=aD:=by decide) (hcd':(y==("__classdict__":Str))=aD:=by decide)
  (m:M2 X (.Name x px) "setdefault" ap1 k (.List [] p2) cp1:=by exact⟨rfl,rfl,rfl,rfl⟩)
  (hbase:attributeBase (.Call (.Attribute (.Name x px) "setdefault" ap1) [k,.List [] p2] [] cp1) "append" X.env (dk (.Call (.Attribute (.Name x px) "setdefault" ap1) [k,.List [] p2] [] cp1) X.env)=dk (.Call (.Attribute (.Name x px) "setdefault" ap1) [k,.List [] p2] [] cp1) X.env:=by rfl)
  (hfew:((dj cpos (av [.Name y py] X.env)).all (λx=>!x.1)&&(backToKw cpos (keywordEach [] X.env)).all (λx=>x.1.isSome)&&decide ([Expr.Name y py].length+([]:List Keyword).length+(if([]:List Keyword).isEmpty then 0 else 1)<30))=aC:=by rfl)
  (hline:(apos.endLine==cpos.line)=aC:=by rfl) (hs:av [.Name y py] X.env=(aD,dk (.Name y py) X.env)::av [] X.env:=by rfl) (hpl:(dj cpos (av [] X.env)).any (·.1)=aD:=by rfl) (hsw:swapsWith (.Call (.Attribute (.Call (.Attribute (.Name x px) "setdefault" ap1) [k,.List [] p2] [] cp1) "append" apos) [.Name y py] [] cpos) aB pos.line X.env=pure aD:=by rfl):
  PS X (.Expr (.Call (.Attribute (.Call (.Attribute (.Name x px) "setdefault" ap1) [k,.List [] p2] [] cp1) "append" apos) [.Name y py] [] cpos) pos) (Zx Z (Sf i fk j)):=
 (Bh (R1 PySem.F.plainAttrs_list PySem.F.slot_list_append PySem.F.type_list_append Ga (Sd (On (i:=i) hN hv hd hcd) hk (Zc0 Ud) m) (W0 (On (i:=j) hN' hv' hd' hcd') Ud hs) hbase hfew hline hs hpl) hsw).imp λ_ _ _ h=>Zjs h
end
end DL
namespace DL
open PySem PySem.Spec PyProof.Rows L2 TT TX
variable{K:ad}
@[simp]noncomputable def Zfk(a:ak):SV->Option SV
 | .oK ks es=>aA (.oQ a ks es)
 | .oN ks xss=>aA (.oR a ks xss)
 |_=>aB
@[simp]noncomputable def D0(a:ak):Option (Option SV)->Option SV
 |some (aA (.oQ b ks es))=>if b=a then aA (.oK ks es)else aB
 |some (aA (.oR b ks xss))=>if b=a then aA (.oN ks xss)else aB
 |_=>aB
@[simp]noncomputable def SV.lends:SV->Bool
 | .oK _ _=>aC
 | .oN _ _=>aC
 |_=>aD
theorem Kl{F:Hp}{a:ak}{sv sp:SV}{ns:Zo}(h:Shape K F sv (.ref a) ns)(e:Zfk a sv=aA sp):Shape K F sp (.ref a) ns:=by
 cases h with
 |oK e' r=>cases e;exact .oQ e' r
 |oN e' r=>cases e;exact .oR e' r
 |_=>cases e
theorem Sg{F:Hp}{a:ak}{sp sv:SV}{v:V}{ns:Zo}(h:Shape K F sp v ns)(e:D0 a (aA (aA sp))=aA sv):v= .ref a/\Shape K F sv (.ref a) ns:=by
 cases h with
 | @oQ b _ _ _ _ e' r=>
  have e2:(if b=a then aA (SV.oK _ _)else aB)=aA sv:=e;clear e;split at e2
  .rename_i hb;subst hb;cases e2;exact⟨rfl,.oK e' r⟩
  .cases e2
 | @oR b _ _ _ _ _ e' r=>
  have e2:(if b=a then aA (SV.oN _ _)else aB)=aA sv:=e;clear e;split at e2
  .rename_i hb;subst hb;cases e2;exact⟨rfl,.oN e' r⟩
  .cases e2
 |_=>cases e
theorem Km{F:Hp}{sv:SV}{v:V}{ns:Zo}(h:Shape K F sv v ns)(e:sv.lends=aC):∃a,v= .ref a:=by
 cases h with
 |oK _ _=>exact⟨_,rfl⟩
 |oN _ _=>exact⟨_,rfl⟩
 |_=>cases e
noncomputable abbrev VG:=ak->ak->List D->SV->SV->Option (SV×SV)
section
variable{Z:Ent K}{H:Hp}{σ:L2.St}{Q:VK}{E:Ends}
def spV(K:ad)(n:Nat)(g:VG):Sp:=λvs H Q _=>∃F a b us ds sa sb na nb r,vs=us++[V.ref a,V.ref b]/\Zl F H/\Reps K F ds us/\ds.length=n/\Shape K F sa (.ref a) na/\Shape K F sb (.ref b) nb/\(U6 (na++nb)).Nodup/\(∀p∈na++nb,F p.1=aB/\H p.1=aA p.2)/\g a b ds sa sb=aA r/\
 ∀H' F' na' nb',Zl (Bp H (na++nb)) H'->Zl F F'->Zl F' H'->(∀(b:ak) (o:HO),F' b=aA o->F b=aA o\/Bp H (na++nb) b=aB)->Shape K F' r.1 (.ref a) na'->Shape K F' r.2 (.ref b) nb'->(U6 (na'++nb')).Nodup->(∀p∈na'++nb',F' p.1=aB/\Bp H (na++nb) p.1=aB/\H' p.1=aA p.2)->Q .non H'
theorem Zjv{n:Nat}{g:VG}{vs:List V}{E:XK}(h:spV K n g vs H Q E):vs.length=n+2:=by obtain⟨F,a,b,us,ds,sa,sb,na,nb,r,rfl,_,r1,hn,_⟩:=h;rw[aw,<-r1.length,hn];rfl
@[simp]def Xi(n:Nat)(ds:List D)(pa pb:SV):Yw:=ds.map (λd=>some (.fz d))++some pa::some pb::List.replicate (n- ds.length- 2) none
@[simp]def Zjw(f:FS)(n:Nat):VG:=λa b ds sa sb=>(Zfk a sa).bind λpa=>(Zfk b sb).bind λpb=>match f (Xi n ds pa pb)with
 |some (.nx δ)=>(D0 a δ[ds.length]?).bind λx=>(D0 b δ[ds.length+1]?).bind λy=>aA (x,y)
 |_=>aB
theorem L3{α:Type}(xs:List α)(m:Nat)(x y:α)(z:List α)(h:xs.length=m):(xs++y::z).set m x=xs++x::z:=by subst h;rw[List.set_append_right _ _ (bg _),Nat.sub_self,List.set_cons_zero]
theorem Zbq{N:List Str}{us:List V}{x y:V}(h:us.length+2<=N.length):((L2.Qd N us).set us.length (aA x)).set (us.length+1) (aA y)=L2.Qd N (us++[x,y]):=by
 unfold L2.Qd;obtain⟨m,hm⟩:∃m,N.length- us.length=m+2:=⟨N.length- us.length- 2,by omega⟩
 rw[hm,List.replicate_succ,List.replicate_succ,L3 _ _ _ _ _ (am ..)];have e:us.map aA++aA x::aB::List.replicate m aB=(us.map aA++[aA x])++aB::List.replicate m aB:=by simp
 rw[e,L3 _ _ _ _ _ (by simp)];have h2:N.length- (us++[x,y]).length=m:=by simp;omega
 rw[h2];simp
theorem Xj{n:Nat}{ds:List D}{pa pb:SV}(h:ds.length+2<=n):((Os n ds).set ds.length (aA pa)).set (ds.length+1) (aA pb)=Xi n ds pa pb:=by
 unfold Os Xi;obtain⟨m,hm⟩:∃m,n- ds.length=m+2:=⟨n- ds.length- 2,by omega⟩
 rw[hm,List.replicate_succ,List.replicate_succ,L3 _ _ _ _ _ (am ..)];have e:ds.map (λd=>aA (SV.fz d))++aA pa::aB::List.replicate m aB=(ds.map (λd=>aA (SV.fz d))++[aA pa])++aB::List.replicate m aB:=by simp
 rw[e,L3 _ _ _ _ _ (by simp)];simp
theorem Zbr{N:List Str}{n:Nat}{f:FS}{vs:List V}{E':XK}(hN:n+2<=N.length)(h:spV K n (Zjw f N.length) vs H Q E'):∃G F,Zx (ent G F:Ent K) f {nx:=λ_ H'=>Q .non H',rt:=Q} (L2.Qd N vs) H:=by
 obtain⟨F,a,b,us,ds,sa,sb,na,nb,r,rfl,le,r1,hn,sha,shb,nd,ok,e,k⟩:=h;refine⟨Bp H (na++nb),F,?_⟩;have q:=R9 (N:=N) le r1;have s0:SR (ent (Bp H (na++nb)) F:Ent K) F H (L2.Qd N us) (Os N.length ds) λ_=>[]:=
  ⟨q.le,λb o e=>.inl e,Zjk,q.len,q.at',q.nod,λ_ _ h=>(nomatch h),λ_ _ _ _ _ h=>(nomatch h)⟩
 have hul:us.length=ds.length:=r1.length.symm;have hsl:(L2.Qd N us).length=N.length:=by unfold L2.Qd;rw[aw,am,List.length_replicate];omega
 unfold Zjw at e;obtain⟨pa,ea,e⟩:=aa.mp e;obtain⟨pb,eb,e⟩:=aa.mp e;have ndd:(U6 na++U6 nb).Nodup:=by rw[<-b4];exact nd
 obtain⟨nda,ndb,ndx⟩:=List.nodup_append.mp ndd;have okz:∀p∈na++nb,F p.1=aB/\Bp H (na++nb) p.1=aB/\H p.1=aA p.2:=λp hp=>⟨(ok p hp).1,Zjl (ax.mpr ⟨p,hp,rfl⟩),(ok p hp).2⟩
 have ta:TmpOk (ent (Bp H (na++nb)) F:Ent K) F H (λ_=>[]) pa (.ref a) na:=
  ⟨Kl sha ea,nda,λp hp=>okz p (di _ hp),λ_ _ _ _ h=>(nomatch h)⟩
 have s1:=s0.store (i:=ds.length) ta (by rw[hsl];omega);have tb:TmpOk (ent (Bp H (na++nb)) F:Ent K) F H (put (λ_=>[]) ds.length na) pb (.ref b) nb:=by
  refine⟨Kl shb eb,ndb,λp hp=>okz p (b6 _ hp),λi p q hp hq z=>?_⟩;by_cases hi:i=ds.length
  .subst hi;rw[Z8]at hq;exact ndx q.1 (ax.mpr ⟨q,hq,rfl⟩) p.1 (ax.mpr ⟨p,hp,rfl⟩) z.symm
  .rw[Yf hi]at hq;exact nomatch hq
 have s2:=s1.store (i:=ds.length+1) tb (by rw[d6,hsl];omega);rw[<-hul,Zbq (by omega),hul,Xj (by omega)]at s2;split at e
 .rename_i δ hf;obtain⟨x,ex,e⟩:=aa.mp e;obtain⟨y,ey,e⟩:=aa.mp e;cases e;refine⟨F,_,_,.nx δ,s2,hf,λσ' H' F' own' a' s'=>?_⟩;have get:∀(i:Nat) (c:ak) (sv:SV),D0 c δ[i]? =aA sv->Shape K F' sv (.ref c) (own' i):=λi c sv h=>by
   cases o:δ[i]? with
   |none=>rw[o]at h;cases h
   |some u=>cases u with
    |none=>rw[o]at h;cases h
    |some sp=>rw[o]at h;obtain⟨v,_,sh⟩:=s'.at' i sp o;exact(Sg sh h).2
  refine k H' F' (own' ds.length) (own' (ds.length+1)) s'.old a' s'.le s'.fro (get _ _ _ ex) (get _ _ _ ey) ?_ λp hp=>?_
  .show(U6 _).Nodup;rw[U6,b4];exact List.nodup_append.mpr ⟨s'.nod _,s'.nod _,λu hu w hw z=>by
    obtain⟨p,hp,rfl⟩:=ax.mp hu;obtain⟨q,hq,rfl⟩:=ax.mp hw;exact s'.sep _ _ p q (by omega) hp hq z⟩
  .rcases cj.mp hp with z|z
   .exact s'.ok _ p z
   .exact s'.ok _ p z
 .cases e
def Eo(Z:Ent K)(i j:Nat)(fd:FD):TA:=λσ H R=>Jy Z fd σ H λvs H1=>∃x y,σ[i]? =aA (aA x)/\σ[j]? =aA (aA y)/\R (vs++[x,y]) H1
open Classical in
def Te(i j n:Nat)(g:VG)(fd:FD):FS:=λδ=>(fd δ).bind λp=>if p.1.length=n/\i≠j then match p.2[i]?,p.2[j]? with
 |some (aA sa),aA (aA sb)=>if sa.lends=aC/\sb.lends=aC then(if h:∃r,∀a b,g a b p.1 sa sb=aA r then aA (.nx ((p.2.set i (aA h.choose.1)).set j (aA h.choose.2)))else aB)else aB
 |_,_=>aB else aB
theorem Zbs{i j n:Nat}{g:VG}{fd:FD}{δ δ1:Yw}{ds:List D}{sa sb:SV}{r:SV×SV}(hd:fd δ=aA (ds,δ1))(hn:ds.length=n)(hij:i≠j)(hi:δ1[i]? =aA (aA sa))(hj:δ1[j]? =aA (aA sb))(la:sa.lends=aC)(lb:sb.lends=aC)(hg:∀a b,g a b ds sa sb=aA r):Te i j n g fd δ=aA (.nx ((δ1.set i (aA r.1)).set j (aA r.2))):=by
 unfold Te;rw[hd];dsimp only[f6];rw[if_pos ⟨hn,hij⟩,hi,hj];have h:∃r,∀a b,g a b ds sa sb=aA r:=⟨r,hg⟩
 dsimp only;rw[if_pos ⟨la,lb⟩,dif_pos h];have:=h.choose_spec 0 0;rw[hg 0 0]at this;rw[<-dz.inj this]
theorem SR.hand2 {F F' H' : Hp} {δ : Yw} {own : Nat -> Zo} {i j : Nat} {sa sb ra rb : SV} {a b : ak} {na' nb' : Zo} (s : SR Z F H σ δ own) (hij : i ≠ j) (hi : δ[i]? = aA (aA sa)) (hj : δ[j]? = aA (aA sb)) (hvi : σ[i]? = aA (aA (.ref a))) (hvj : σ[j]? = aA (aA (.ref b)))
    (sH : Zl (Bp H (own i ++ own j)) H') (sF : Zl F F') (le' : Zl F' H') (fro' : ∀ (b : ak) (o : HO), F' b = aA o -> F b = aA o \/ Bp H (own i ++ own j) b = aB) (sha : Shape K F' ra (.ref a) na') (shb : Shape K F' rb (.ref b) nb') (nd : (U6 (na' ++ nb')).Nodup) (ok' : ∀ p ∈ na' ++ nb', F' p.1 = aB /\ Bp H (own i ++ own j) p.1 = aB /\ H' p.1 = aA p.2) :
    SR Z F' H' σ ((δ.set i (aA ra)).set j (aA rb)) (put (put own i na') j nb') := by
  have hil : i < δ.length := (bp.mp hi).1;have hjl : j < δ.length := (bp.mp hj).1;have inO : ∀ c, c ∈ U6 (own i ++ own j) -> ∃ q, (q ∈ own i \/ q ∈ own j) /\ c = q.1 := λc hc => by obtain ⟨q, hq, e⟩ := ax.mp hc;exact ⟨q, cj.mp hq, e.symm⟩
  have zh : ∀ c, Bp H (own i ++ own j) c = aB -> Z.h c = aB := λc hc => by
    rcases Zbl hc with z | z
    · obtain ⟨q, hq | hq, e⟩ := inO c z
      · rw [e]; exact (s.ok i q hq).2.1
      · rw [e]; exact (s.ok j q hq).2.1
    · exact s.old.free z
  have keep : ∀ l, l ≠ i -> l ≠ j -> ∀ q ∈ own l, Bp H (own i ++ own j) q.1 = aA q.2 := λl h1 h2 q hq => by
    rw [Ek λz => ?_]
    · exact (s.ok l q hq).2.2
    · obtain ⟨r, hr | hr, e⟩ := inO _ z
      · exact s.sep l i q r h1 hq hr e
      · exact s.sep l j q r h2 hq hr e
  have ndd : (U6 na' ++ U6 nb').Nodup := by rw [<- b4]; exact nd
  obtain ⟨nda, ndb, ndx⟩ := List.nodup_append.mp ndd;have own_i : put (put own i na') j nb' i = na' := by rw [Yf hij, Z8]
  have own_j : put (put own i na') j nb' j = nb' := Z8;have own_o : ∀ l, l ≠ i -> l ≠ j -> put (put own i na') j nb' l = own l := λl h1 h2 => by rw [Yf h2, Yf h1]
  have okl : ∀ l p, p ∈ put (put own i na') j nb' l -> F' p.1 = aB /\ Z.h p.1 = aB /\ H' p.1 = aA p.2 := λl p hp => by
    by_cases h1 : l = i
    · subst h1
      rw [own_i] at hp;obtain ⟨x, y, z⟩ := ok' p (di _ hp);exact ⟨x, zh _ y, z⟩
    · by_cases h2 : l = j
      · subst h2
        rw [own_j] at hp;obtain ⟨x, y, z⟩ := ok' p (b6 _ hp);exact ⟨x, zh _ y, z⟩
      · rw [own_o l h1 h2] at hp
        obtain ⟨y1, y2, y3⟩ := s.ok l p hp;have hh := keep l h1 h2 p hp;refine ⟨?_, y2, sH _ _ hh⟩;cases z : F' p.1 with
        | none => rfl
        | some u =>
          rcases fro' _ u z with y | y
          · rw [y1] at y; cases y
          · rw [hh] at y; cases y
  have new_hole : ∀ l, (l = i \/ l = j) -> ∀ p ∈ put (put own i na') j nb' l, Bp H (own i ++ own j) p.1 = aB := λl hl p hp => by
    rcases hl with rfl | rfl
    · rw [own_i] at hp; exact (ok' p (di _ hp)).2.1
    · rw [own_j] at hp; exact (ok' p (b6 _ hp)).2.1
  refine ⟨le', λc o e => ?_, λc o e => ?_, by rw [d6, d6]; exact s.len, λl sv e => ?_, λl => ?_, okl, λl m q r hlm hq hr z => ?_⟩
  · rcases fro' c o e with z | z
    · exact s.fro c o z
    · exact .inr (zh c z)
  · refine sH c o ?_
    rw [Ek λz => ?_]
    · exact s.old c o e
    · obtain ⟨q, hq | hq, e'⟩ := inO c z
      · rw [e', (s.ok i q hq).2.1] at e; cases e
      · rw [e', (s.ok j q hq).2.1] at e; cases e
  · by_cases h2 : l = j
    · subst h2
      rw [dh (by rw [d6]; exact hjl)] at e;cases e;rw [own_j];exact ⟨_, hvj, shb⟩
    · rw [c9 (Ne.symm h2)] at e
      by_cases h1 : l = i
      · subst h1
        rw [dh hil] at e;cases e;rw [own_i];exact ⟨_, hvi, sha⟩
      · rw [c9 (Ne.symm h1)] at e
        obtain ⟨v, g1, g2⟩ := s.at' l sv e;rw [own_o l h1 h2];exact ⟨v, g1, g2.mono sF⟩
  · by_cases h1 : l = i
    · subst h1; rw [own_i]; exact nda
    · by_cases h2 : l = j
      · subst h2; rw [own_j]; exact ndb
      · rw [own_o l h1 h2]; exact s.nod l
  · -- apart
    by_cases a1 : l = i \/ l = j
    · by_cases b1 : m = i \/ m = j
      · rcases a1 with rfl | rfl
        · rcases b1 with rfl | rfl
          · exact hlm rfl
          · rw [own_i] at hq; rw [own_j] at hr
            exact ndx q.1 (ax.mpr ⟨q, hq, rfl⟩) r.1 (ax.mpr ⟨r, hr, rfl⟩) z
        · rcases b1 with rfl | rfl
          · rw [own_j] at hq; rw [own_i] at hr
            exact ndx r.1 (ax.mpr ⟨r, hr, rfl⟩) q.1 (ax.mpr ⟨q, hq, rfl⟩) z.symm
          · exact hlm rfl
      · have h := new_hole l a1 q hq
        rw [own_o m (λy => b1 (.inl y)) (λy => b1 (.inr y))] at hr;rw [z, keep m (λy => b1 (.inl y)) (λy => b1 (.inr y)) r hr] at h;cases h
    · rw [own_o l (λy => a1 (.inl y)) (λy => a1 (.inr y))] at hq
      by_cases b1 : m = i \/ m = j
      · have h := new_hole m b1 r hr
        rw [<- z, keep l (λy => a1 (.inl y)) (λy => a1 (.inr y)) q hq] at h;cases h
      · rw [own_o m (λy => b1 (.inl y)) (λy => b1 (.inr y))] at hr
        exact s.sep l m q r hlm hq hr z
theorem Zjx{i j n:Nat}{g:VG}{fd:FD}{E':XK}(h:Zx Z (Te i j n g fd) E σ H):Tv (Zc1 (spV K n g) [] E' (Eo Z i j fd)) E σ H:=by
 obtain⟨F,δ,own,fl,s,e,k⟩:=h;unfold Te at e;obtain⟨⟨ds,δ1⟩,e1,e⟩:=aa.mp e;dsimp only at e;split at e
 .rename_i hn;split at e
  .rename_i sa sb hi hj;split at e
   .rename_i hl;split at e
    .rename_i hg;cases e;refine⟨F,δ,own,ds,δ1,s,e1,λvs H1 F1 own1 sH sF s1 r1=>?_⟩;obtain⟨x,hx,shx⟩:=s1.at' i _ hi;obtain⟨y,hy,shy⟩:=s1.at' j _ hj;obtain⟨a,rfl⟩:=Km shx hl.1;obtain⟨b,rfl⟩:=Km shy hl.2;refine⟨_,_,hx,hy,?_⟩;show spV K n g ((vs++[V.ref a,V.ref b])++[]) H1 _ _;rw[dm];refine⟨F1,a,b,vs,ds,sa,sb,own1 i,own1 j,_,rfl,s1.le,r1,hn.1,shx,shy,?_,λp hp=>?_,hg.choose_spec a b,λH' F' na' nb' sH' sF' le' fro' sha' shb' nd' ok'=>?_⟩
     .show(U6 _).Nodup;rw[U6,b4];exact List.nodup_append.mpr ⟨s1.nod _,s1.nod _,λu hu w hw z=>by
       obtain⟨p,hp,rfl⟩:=ax.mp hu;obtain⟨q,hq,rfl⟩:=ax.mp hw;exact s1.sep _ _ p q hn.2 hp hq z⟩
     .rcases cj.mp hp with z|z
      .exact⟨(s1.ok _ p z).1,(s1.ok _ p z).2.2⟩
      .exact⟨(s1.ok _ p z).1,(s1.ok _ p z).2.2⟩
     .exact k _ H' F' _ (sF.trans sF') (s1.hand2 hn.2 hi hj hx hy sH' sF' le' fro' sha' shb' nd' ok')
    .cases e
   .cases e
  .cases e
 .cases e
end
section
variable{X:Cx}{Z:Ent X.K}{a b c:b7}{fa fb fc:FE}{pos:Pos}
theorem Zog(i j:Nat)(ha:PE X a (Mz i))(hb:PE X b (Mz j))(he:av [a,b] X.env=(aD,dk a X.env)::av [b] X.env:=by rfl)(he2:av [b] X.env=(aD,dk b X.env)::av [] X.env:=by rfl):PA X [a,b] (Eo Z i j Zw):=by intro p pins s σ H R I h;refine W0 ha (W0 hb Ud he2) he p pins s σ H R I ?_;obtain⟨F,δ,own,ds,δ',s0,e,k⟩:=h;cases e;obtain⟨x,y,hx,hy,q⟩:=k [] H F own (Zl.refl H) (Zl.refl F) s0 .nil;exact⟨x,hx,y,hy,q⟩
theorem D1{es:List b7}{i j:Nat}{fd:FD}(ha:PE X a (Ze Z fa))(hr:PA X es (Eo Z i j fd))(he:av (a::es) X.env=(aD,dk a X.env)::av es X.env:=by rfl):PA X (a::es) (Eo Z i j (Zk fa fd)):=by intro p pins s σ H R I h;refine W0 ha hr he p pins s σ H R I ?_;exact Rf h
theorem Zjy(i j:Nat){k n:Nat}{f:ak}{fd:bx}{ps:List Str}{g:VG}{x:Str}{p cpos:Pos}{es:List b7}{fr:FD}(F:FnOk X.prog X.w X.K X.mg X.base Jf k f fd ps (spV X.K n g))(hr:Room k X.A)(hm:X.mg x=aA (.ref f))(hk:bc X.K (.ref f)=aC)(hb:Yz X.K fd ps [])
  (ha:PA X (a::es) (Eo Z i j fr)) (hg:Gl X x:=by rfl) (hdb:(x==("__debug__":Str))=aD:=by decide) (he:av (a::es) X.env=(aD,dk a X.env)::av es X.env:=by rfl) (hpl:(dj cpos (av es X.env)).any (·.1)=aD:=by rfl) (hsw:swapsWith (.Call (.Name x p) (a::es) [] cpos) aB pos.line X.env=pure aD:=by rfl):
  PS X (.Expr (.Call (.Name x p) (a::es) [] cpos) pos) (Zx Z (Te i j n g fr)):=(Bh (Hi F hr hg hm hk hb .nil Zkw ha hdb he hpl) hsw).imp λ_ _ _ h=>Zjx h
end
end DL
namespace DL
open PySem PySem.Spec PyProof.Rows L2 TT TX
variable{K:ad}
inductive FlD:D->Prop where
 |non:FlD .non
 |bl (b:Bool):FlD (.bl b)
 |int (i:Int):FlD (.int i)
 |str (x:Str):FlD (.str x)
 |tup {xs:List D} (h:∀d∈xs,FlD d):FlD (.tup xs)
theorem Tf{F G:Hp}:∀{ds:List D} {vs:List V},(∀d∈ds,∀v,Rep K F d v->Rep K G d v)->Reps K F ds vs->Reps K G ds vs
 |_,_,_,.nil=>.nil
 |_,_,h,.cons r t=>.cons (h _ af _ r) (Tf (λd hd=>h d (aj _ hd)) t)
theorem Zfl{F G:Hp}(hG:∀b us,F b=aA (.tup us)->G b=aA (.tup us)){d:D}(h:FlD d):∀v,Rep K F d v->Rep K G d v:=by
 induction h with
 |non=>intro v r;cases r;exact .non
 |bl b=>intro v r;cases r;exact .bl b
 |int b=>intro v r;cases r;exact .int b
 |str b=>intro v r;cases r;exact .str b
 | @tup xs h ih=>
  intro v r;cases r with
  |tup ha r=>exact .tup (hG _ _ ha) (Tf ih r)
theorem Kids.noTup{F:Hp}:∀{xss:List (List D)} {ws:List V} {ns:Zo},Kids K F xss ws ns->∀p∈ns,∀us,p.2≠.tup us
 |_,_,_,.nil=>λ_ h=>nomatch h
 |_,_,_,.cons r t=>λp hp us=>by
  rcases bo.mp hp with z|z
  .subst z;exact λy=>nomatch y
  .exact t.noTup p z us
theorem KidD.noTup{F:Hp}:∀{dss:List (List Key×List D)} {ws:List V} {ns:Zo},KidD K F dss ws ns->∀p∈ns,∀us,p.2≠.tup us
 |_,_,_,.nil=>λ_ h=>nomatch h
 |_,_,_,.cons r t=>λp hp us=>by
  rcases bo.mp hp with z|z
  .subst z;exact λy=>nomatch y
  .exact t.noTup p z us
theorem Shape.noTup{F:Hp}{sv:SV}{v:V}{ns:Zo}(h:Shape K F sv v ns):∀p∈ns,∀us,p.2≠.tup us:=by
 have one:∀{q:ak×HO} {l:Zo},(∀us,q.2≠.tup us)->(∀p∈l,∀us,p.2≠.tup us)->∀p∈q::l,∀us,p.2≠.tup us:=λhq hl p hp us=>by
  rcases bo.mp hp with z|z
  .subst z;exact hq us
  .exact hl p z us
 cases h with
 |fz h=>exact λ_ h=>nomatch h
 |ol r=>exact one (λ_ z=>nomatch z) λ_ h=>nomatch h
 |oK e r=>exact one (λ_ z=>nomatch z) λ_ h=>nomatch h
 |oT kb e r=>exact one (λ_ z=>nomatch z) λ_ h=>nomatch h
 |oN e r=>exact one (λ_ z=>nomatch z) r.noTup
 |oR e r=>exact one (λ_ z=>nomatch z) r.noTup
 |oL _ r=>exact one (λ_ z=>nomatch z) r.noTup
 |oQ e r=>exact one (λ_ z=>nomatch z) λ_ h=>nomatch h
 |oX kb e r=>exact one (λ_ z=>nomatch z) r.noTup
 |oD r=>exact one (λ_ z=>nomatch z) r.noTup
 |oM kb e r=>exact one (λ_ z=>nomatch z) λ_ h=>nomatch h
@[simp]def icy(δ:Yw):Yw:=δ.map (Option.map λsv=>.fz sv.toD)
open Classical in
def Ol(f:FE):FE:=λδ=>(f (icy δ)).bind λp=>match p.1 with
 | .tmp (.ol xs)=>if∀d∈xs,FlD d then aA (.tmp (.ol xs),δ)else aB
 |_=>aB
theorem Sh{f:FE}{δ δ':Yw}{xs:List D}(e:f (icy δ)=aA (.tmp (.ol xs),δ'))(h:∀d∈xs,FlD d):Ol f δ=aA (.tmp (.ol xs),δ):=by unfold Ol;rw[e];exact if_pos h
def Ux(own:Nat->Zo)(δ:Yw)(b:ak):Prop:=∃i sv p,δ[i]? =aA (aA sv)/\p∈own i/\p.1=b
section
variable{Z:Ent K}{H:Hp}{σ:L2.St}{Q:VK}
open Classical in
theorem D2 {f : FE} (h : Ze Z (Ol f) σ H Q) : ∃ Z' : Ent K, Ze Z' f σ H Q := by
  obtain ⟨F, δ, own, rv, δ', s, e, k⟩ := h;unfold Ol at e;obtain ⟨⟨rv1, δ1⟩, e1, e⟩ := aa.mp e;dsimp only at e;split at e
  · rename_i xs
    split at e
    · rename_i hfl
      cases e;let F1 : Hp := λb => if Ux own δ b then H b else F b;have hO : ∀ {b}, Ux own δ b -> F b = aB := λ{b} ⟨i, sv, p, _, hp, e⟩ => by rw [<- e]; exact (s.ok i p hp).1
      have f1 : Zl F F1 := λb o e => by show (if Ux own δ b then H b else F b) = aA o;rw [if_neg λz => by rw [hO z] at e; cases e]; exact e
      have le1 : Zl F1 H := λb o e => by
        have e : (if Ux own δ b then H b else F b) = aA o := e;split at e
        · exact e
        · exact s.le b o e
      have at1 : ∀ {i : Nat} {sv : SV} {v : V}, δ[i]? = aA (aA sv) -> Shape K F sv v (own i) -> Rep K F1 sv.toD v := λ{i sv v} hi sh => by
        refine (sh.rep (s.nod i) λp hp => (s.ok i p hp).1).mono λb o eb => ?_;by_cases hb : b ∈ U6 (own i)
        · obtain ⟨p, hp, rfl⟩ := ax.mp hb
          rw [R6 (s.nod i) hp] at eb;cases eb;show (if Ux own δ p.1 then H p.1 else F p.1) = _;rw [if_pos ⟨i, sv, p, hi, hp, rfl⟩];exact (s.ok i p hp).2.2
        · rw [Ur hb] at eb
          exact f1 b o eb
      have s1 : SR (ent H F1 : Ent K) F1 H σ (icy δ) λ_ => [] := by
        refine ⟨le1, λb o e => .inl e, Zl.refl H, by rw [icy, am]; exact s.len, λi sv e => ?_, λ_ => cz, λ_ _ h => (nomatch h), λ_ _ _ _ _ h => (nomatch h)⟩;rw [icy, bn] at e;cases o : δ[i]? with
        | none => rw [o] at e; cases e
        | some u => cases u with
          | none => rw [o] at e; cases e
          | some sv0 =>rw [o] at e;cases e;obtain ⟨v, hv, sh⟩ := s.at' i sv0 o;exact ⟨v, hv, .fz (at1 o sh)⟩
      refine ⟨ent H F1, F1, icy δ, λ_ => [], .tmp (.ol xs), δ1, s1, e1, λv H' F' own' sH sF s' r' => ?_⟩;obtain ⟨ns, t⟩ := r'
      -- what stays of F'
      let F2 : Hp := λb => if Ux own δ b then aB else F' b;have f2 : Zl F F2 := λb o e => by show (if Ux own δ b then aB else F' b) = aA o;rw [if_neg λz => by rw [hO z] at e; cases e]; exact sF _ _ (f1 b o e)
      have i2 : Zl F2 F' := λb o e => by
        have e : (if Ux own δ b then aB else F' b) = aA o := e;split at e
        · cases e
        · exact e
      have zf : ∀ (b : ak) (o : HO), F' b = aA o -> Z.f b = aA o \/ Z.h b = aB \/ Ux own δ b := λb o e => by
        rcases s'.fro b o e with z | z
        · have z : (if Ux own δ b then H b else F b) = aA o := z
          split at z
          · rename_i w; exact .inr (.inr w)
          · rcases s.fro b o z with y | y
            · exact .inl y
            · exact .inr (.inl y)
        · exact .inr (.inl (s.old.free z))
      -- slots that hold nothing own nothing that matters
      let own2 : Nat -> Zo := λi => if (∃ sv, δ[i]? = aA (aA sv)) then own i else []
      have sub : ∀ {i p}, p ∈ own2 i -> p ∈ own i /\ Ux own δ p.1 := λ{i p} hp => by
        have hp : p ∈ (if (∃ sv, δ[i]? = aA (aA sv)) then own i else []) := hp;split at hp
        · rename_i w; obtain ⟨sv, w⟩ := w; exact ⟨hp, i, sv, p, w, hp, rfl⟩
        · exact nomatch hp
      have s2 : SR Z F2 H' σ δ own2 := by
        refine ⟨i2.trans s'.le, λb o e => ?_, s.old.trans sH, s.len, λi sv e => ?_, λi => ?_, λi p hp => ?_, λi j p q hij hp hq => s.sep i j p q hij (sub hp).1 (sub hq).1⟩
        · rcases zf b o (i2 b o e) with z | z | z
          · exact .inl z
          · exact .inr z
          · have e : (if Ux own δ b then aB else F' b) = aA o := e
            rw [if_pos z] at e; cases e
        · obtain ⟨v, hv, sh⟩ := s.at' i sv e
          have : own2 i = own i := if_pos ⟨sv, e⟩;rw [this];exact ⟨v, hv, sh.mono f2⟩
        · show (U6 (if (∃ sv, δ[i]? = aA (aA sv)) then own i else [])).Nodup
          split
          · exact s.nod i
          · exact cz
        · obtain ⟨h1, h2⟩ := sub hp
          obtain ⟨x, y, z⟩ := s.ok i p h1;exact ⟨if_pos h2, y, sH _ _ z⟩
      refine k v H' F2 own2 sH f2 s2 ⟨ns, ?_⟩;have sh := t.sh;cases sh with
      | @ol a _ vs r =>
        refine ⟨.ol (Tf (λd hd v rd => Zfl (F := F') (λb us eb => ?_) (hfl d hd) v rd) r), Nl, λp hp => ?_, λi p q hp hq z => ?_⟩
        · have hn : ¬ Ux own δ b := λ⟨i, sv, p, hi, hp, ep⟩ => by obtain ⟨v0, _, sh0⟩ := s.at' i sv hi;have h1 := sH _ _ (s.ok i p hp).2.2;have h2 := s'.le _ _ eb;rw [ep, h2] at h1;exact sh0.noTup p hp us (dz.inj h1).symm
          show (if Ux own δ b then aB else F' b) = _;rw [if_neg hn];exact eb
        · obtain ⟨x, y, z⟩ := t.ok p hp
          refine ⟨?_, s.old.free y, z⟩;show (if Ux own δ p.1 then aB else F' p.1) = aB;split
          · rfl
          · exact x
        · obtain ⟨x, y, w⟩ := t.ok p hp
          have y : H p.1 = aB := y;have := (s.ok i q (sub hq).1).2.2;rw [<- z, y] at this;cases this
    · cases e
  · cases e
end
section
variable{X:Cx}{Z:Ent X.K}{a:b7}{fa:FE}
theorem Zoh(ha:∀Z':Ent X.K,PE X a (Ze Z' fa)):PE X a (Ze Z (Ol fa)):=λpins s σ H Q I h=>let⟨Z',h'⟩:=D2 h;ha Z' pins s σ H Q I h'
variable{pos:Pos}
theorem Zbt(i:Nat){N':List Str}{scope:Scope}{src:List BSrc}{k:Nat}{tg elt iter:b7}{ifs:List b7}{fi:FD}{g:FG}{tt:FT}{te:FE}{y:Str}{py spos:Pos}(hc:X.calm=aC)(S:CompScope X N' scope src)(So:SrcOk src k)(hk:k∉g.tch)(hi:∀Z':Ent X.K,PI X tg iter (Qt Z' fi))
  (hg:∀(C:ak) (s₀:ap) (H₀:Hp) (ex:List ak),PG (X.block N' scope C s₀ H₀ ex) tg (xG X.K g)) (ht:∀(C:ak) (s₀:ap) (H₀:Hp) (ex:List ak),PTs (X.block N' scope C s₀ H₀ ex) ifs (xT X.K tt)) (he:∀(C:ak) (s₀:ap) (H₀:Hp) (ex:List ak),PE (X.block N' scope C s₀ H₀ ex) elt (xE X.K te))
  (hN:X.N.Nodup) (hiy:X.N[i]? =aA y:=by rfl) (hx:X.env.scope.names.lookup y=aA .local:=by rfl) (hsw:swapsWith (.ListComp elt [⟨tg,iter,ifs,0⟩] scope pos) (aA (.Name y py)) spos.line X.env=pure aC:=by rfl)
  (hs:∀x,foldedSetIterable iter X.env x=pure x:=by intro _;rfl):PS X (.Assign [.Name y py] (.ListComp elt [⟨tg,iter,ifs,0⟩] scope pos) spos) (Zx Z (Yd i (Ol (Yv src k fi g tt te)))):=λpins s σ H D I h=>by
 obtain⟨Z',h'⟩:=D2 (Ht h);obtain⟨F,δ,own,rv,δ',s0,e,q⟩:=h';exact(Az hc S (hi Z') hg ht he hN hiy hx hsw hs) pins s σ H D I (Vv So hk ⟨F,δ,own,rv,δ',s0,e,q⟩)
end
end DL
namespace DL
open PySem PySem.Spec PyProof.Rows L2 TX TT
variable{K:ad}
noncomputable abbrev Gh(k:Str):D:=.tup [.str k,.int 0,.tup [.str "text"]]
def Tg(H:Hp)(k:Str)(b:ak):Prop:=∃c,H b=aA (.tup [.str k,.int 0,.ref c])/\H c=aA (.tup [.str "text"])
theorem Tg.mono{H H':Hp}{k:Str}{b:ak}(h:Tg H k b)(s:Zl H H'):Tg H' k b:=let⟨c,h1,h2⟩:=h;⟨c,s _ _ h1,s _ _ h2⟩
theorem Zfm{H:Hp}{k k':Str}{b:ak}(h:Tg H k b)(h':Tg H k' b):k=k':=by obtain⟨c,h1,_⟩:=h;obtain⟨c',h1',_⟩:=h';have e:=HO.tup.inj (dz.inj (h1.symm.trans h1'));injection e with e1 _;exact V.str.inj e1
theorem Si{F:Hp}{k:Str}{b:ak}(h:Tg F k b):Rep K F (Gh k) (.ref b):=by obtain⟨c,h1,h2⟩:=h;exact .tup h1 (.cons (.str k) (.cons (.int 0) (.cons (.tup h2 (.cons (.str _) .nil)) .nil)))
theorem Sj{F:Hp}{k:Str}{v:V}(r:Rep K F (Gh k) v):∃b,v= .ref b/\Tg F k b:=by
 cases r with
 | @tup b _ vs h r=>
  cases r with
  |cons r1 t=>
   cases r1;cases t with
   |cons r2 t=>
    cases r2;cases t with
    |cons r3 t=>
     cases t;cases r3 with
     | @tup c _ us h2 r4=>
      cases r4 with
      |cons r5 t5=>cases r5;cases t5;exact⟨b,rfl,c,h,h2⟩
abbrev TXs(H:Hp)(bs:List ak)(ks:List Str):Prop:=Paired (λ(b:ak) (k:Str)=>Tg H k b) bs ks
open Classical in
def Xk(H:Hp)(k:Str):ag->Bool:=λw=>decide (∃b,w= .ref b/\Tg H k b)
theorem Sk{H:Hp}{k k':Str}{b:ak}(h:Tg H k' b):Xk H k (.ref b)=decide (k'=k):=by
 unfold Xk;by_cases e:k'=k
 .subst e;rw[decide_eq_true rfl];exact @decide_eq_true _ (Classical.propDecidable _) ⟨b,rfl,h⟩
 .rw[decide_eq_false e];exact @decide_eq_false _ (Classical.propDecidable _) λ⟨b',z,q⟩=>by cases z;exact e (Zfm h q)
theorem Sl{H:Hp}{k:Str}:∀{bs:List ak} {ks:List Str},TXs H bs ks->(bs.map b9).any (Xk H k)=ks.any λx=>decide (x=k)
 |_,_,.nil=>rfl
 |c::bs,x::ks,.cons h t=>by rw[ay,List.any_cons,List.any_cons,Sk h,Sl t]
def D3(K:ad):R2:=λx y H Q=>∃b k a bs ks,x= .ref b/\Tg H k b/\y= .ref a/\Oa K H a (bs.map V.ref)/\TXs H bs ks/\(∀k'∈ks,Da 48 (Gh k') (Gh k)=aA (decide (k'=k)))/\Q (.bl (!(ks.any λx=>decide (x=k)))) H
section
variable{X:Cx}{pins:List (ak×Obj)}{σ:L2.St}{H:Hp}{s:ap}
theorem Sm(I:Inv X pins σ H s){A:c8}(hu:A.units+48<fq){b:ak}{k:Str}(hb:Tg H k b):∀{bs:List ak} {ks:List Str},TXs H bs ks->(∀k'∈ks,Da 48 (Gh k') (Gh k)=aA (decide (k'=k)))->∀u∈bs.map b9,SeqAt.EqAt A s u (.ref b) (Xk H k u)
 |_,_,.nil,_,u,hm=>nomatch hm
 |c::bs,x::ks,.cons h t,hq,u,hm=>by
  rw[ay]at hm;rcases bo.mp hm with z|z
  .subst z;rw[Sk h];exact Zd3 I (Zl.refl H) 48 A (Gh x) (Gh k) _ (.ref c) (.ref b) _ _ hu (Si h) rfl (Si hb) rfl (hq x af)
  .exact Sm I hu hb t (λk' hk=>hq k' (aj _ hk)) u z
theorem Zbu(hu:X.A.units+64<fq):U5 X (df .NotIn) (D3 X.K):=by intro pins s σ H x y v u Q I rx ry h;obtain⟨b,k,a,bs,ks,rfl,hb,rfl,hq,ht,he,q⟩:=h;cases rx;cases ry;obtain⟨its,r,pl,hz⟩:=I.list hq;have ei:=Hq r;subst ei;refine SeqAt.notIn_listAt (Xk H k) pl.isList (λw hw=>Sm I (by have:X.A.in1.units=X.A.units+1:=rfl;omega) hb ht he w (by simpa using hw)) ⟨.bl _,H,I,rfl,?_⟩;rw[show(bs.map b9).toArray.any (Xk H k)=(bs.map b9).any (Xk H k) by simp,Sl ht];exact q
end
noncomputable def tx?:D->Option Str
 | .tup [.str k,.int 0,.tup [.str x]]=>if x=au "text"then aA k else aB
 |_=>aB
theorem Zln{d:D}{k:Str}(h:tx? d=aA k):d=Gh k:=by
 unfold tx? at h;split at h
 .split at h
  .rename_i e;cases h;rw[e]
  .cases h
 .cases h
theorem Zlo(k:Str):tx? (Gh k)=aA k:=by unfold tx? Gh;exact if_pos rfl
def txs0?:List D->Option (List Str)
 | []=>aA []
 |d::r=>(tx? d).bind λk=>(txs0? r).map (k:: ·)
theorem D4:∀{ds:List D} {ks:List Str},txs0? ds=aA ks->ds=ks.map Gh
 | [],_,h=>by cases h;rfl
 |d::ds,ks,h=>by obtain⟨k,e1,e2⟩:=aa.mp h;obtain⟨r,e3,e4⟩:=dg.mp e2;subst e4;rw[Zln e1,D4 e3];rfl
theorem Sn:∀ks:List Str,txs0? (ks.map Gh)=aA ks
 | []=>rfl
 |k::ks=>by show(tx? (Gh k)).bind _=_;rw[Zlo];show(txs0? (ks.map Gh)).map (k:: ·)=_;rw[Sn ks];rfl
open Classical in
def Th(d1 d2:D):Option SV:=match d2 with
 | .lst xs=>(tx? d1).bind λk=>(txs0? xs).bind λks=>if(∀k'∈ks,Da 48 (Gh k') (Gh k)=aA (decide (k'=k)))then aA (.fz (.bl (!(ks.any λx=>decide (x=k)))))else aB
 |_=>aB
theorem Zbv{k:Str}{ks:List Str}(h:∀k'∈ks,Da 48 (Gh k') (Gh k)=aA (decide (k'=k))):Th (Gh k) (.lst (ks.map Gh))=aA (.fz (.bl (!(ks.any λx=>decide (x=k))))):=by unfold Th;dsimp only;rw[Zlo];dsimp only[f6];rw[Sn];dsimp only[f6];rw[if_pos h]
theorem Zfn{F:Hp}:∀{ks:List Str} {vs:List V},Reps K F (ks.map Gh) vs->∃bs,vs=bs.map V.ref/\TXs F bs ks
 | [],_,h=>by cases h;exact⟨[],rfl,.nil⟩
 |k::ks,_,h=>by
  cases h with
  |cons h t=>obtain⟨b,rfl,hb⟩:=Sj h;obtain⟨bs,rfl,hbs⟩:=Zfn t;exact⟨b::bs,rfl,.cons hb hbs⟩
theorem Yh.tx{F H:Hp}{d:D}{k:Str}{v:V}(le:Zl F H)(e0:tx? d=aA k)(h:Yh K F H d v):∃b,v= .ref b/\Tg H k b:=by
 rw[Zln e0]at h;obtain⟨sv,ns,e,n,sh,hp⟩:=h;cases sh with
 |fz r=>simp only[SV.toD]at e;subst e;obtain⟨b,rfl,hb⟩:=Sj r;exact⟨b,rfl,hb.mono le⟩
 |_=>first| (cases e;done)| (cases n;done)
section
variable{Z:Ent K}
theorem Zfo:Yr Z (D3 K) Th:=by
 intro F H σ δ own x y d1 d2 sv Q s r1 r2 e k;unfold Th at e;split at e
 .obtain⟨kk,e1,e⟩:=aa.mp e;obtain⟨ks,e2,e⟩:=aa.mp e;split at e
  .rename_i hq;cases e;obtain⟨b,rfl,hb⟩:=r1.tx s.le e1;obtain⟨a,us,rfl,hs,ru⟩:=r2.lst s.le;rw[D4 e2]at ru;obtain⟨bs,rfl,tb⟩:=Zfn ru;exact⟨b,kk,a,bs,ks,rfl,hb,rfl,hs,Paired.mapP tb λ_ _ z=>z.mono s.le,hq,k.fz s (.bl _)⟩
  .cases e
 .cases e
end
section
variable{X:Cx}{Z:Ent X.K}{a b c:b7}{fa fb fc:FE}{pos:Pos}
theorem Zfp(hv:X.A.units+64<fq)(ha:PE X a (Ze Z fa))(hb:PE X b (Ze Z fb))(hm:behindInMarks .NotIn b=aD:=by rfl):PT X (.Compare a [.NotIn] [b] pos) (Yi Z (Zu (Zg Th fa fb))):=Gz (Zbu hv) Zfo ha hb hm
end
end DL
namespace My
open DL PySem
theorem Zt{n:Nat}(h:n<=16777216):n<=PySem.sizeLine:=h
theorem Ym{n:Nat}(h:n<16777216):n<PySem.sizeLine:=h
theorem Jn(a b:Str):(a++b).length=a.length+b.length:=by show(a.cps++b.cps).size=a.cps.size+b.cps.size;simp
theorem Ztf(c:Nat):(⟨#[c]⟩:Str).length=1:=rfl
theorem Ep:∀xs:List Str,strs? (xs.map D.str)=aA xs
 | []=>rfl
 |x::r=>by simp[Ep r]
theorem Zjz(ns:List Int)(lo hi:Option Int):∃ms:List Int,Cf (ns.map D.int) lo hi=ms.map D.int/\ms.length<=ns.length:=by unfold Cf;refine⟨(ns.drop _).take _,by rw[List.map_take,List.map_drop],?_⟩;rw[List.length_take,List.length_drop];omega
noncomputable def cat:List Str->Str
 | []=>""
 |x::r=>x++cat r
theorem Sq:∀xs:List Str,cr (au "") xs=cat xs
 | []=>rfl
 | [x]=>by show x=x++ez;rw[Str.append_empty]
 |x::y::r=>by show x++ez++cr (au "") (y::r)=x++cat (y::r);rw[Str.append_empty,Sq (y::r)]
theorem Zoi(xs:List Str):Txt.join (au "") xs=cat xs:=(StrLaws.glued_eq_join _ xs).trans (Sq xs)
theorem Zsh(sep:Str)(xs:List Str):Txt.join sep xs=cr sep xs:=StrLaws.glued_eq_join _ xs
theorem Zfq{sep:Str}{xs:List Str}{B:Nat}(h:∀x∈xs,x.length<=B)(hz:xs.length*B+xs.length*sep.length<=16777216):JoinOk sep xs=aC:=by unfold JoinOk;rw[StrLaws.joinFits h hz];rfl
theorem Zfr{sep:Str}{B:Nat}(xs:List Str)(h:∀x∈xs,x.length<=B):(cr sep xs).length<=xs.length*B+xs.length*sep.length:=by
 have h1:=StrLaws.join_length_le sep xs;have h2:(xs.map (·.length)).sum<=xs.length*B:=by
  clear h1;induction xs with
  |nil=>simp
  |cons x r ih=>have a:=h x af;have b:=ih λy hy=>h y (aj _ hy);rw[ay,List.sum_cons,bd,Nat.succ_mul];omega
 omega
theorem Cz{te:FE}{f:D->D}:∀(xs ys:List D),(∀x∈xs,∀zs,te [aA (.fz x),aA (.ol zs)]=aA (.tmp (.fz (f x)),[aA (.fz x),aA (.ol zs)]))->ys.length+xs.length<=16777216->
  Z4 [.own,.acc] 1 (Zi 0) Y9 te xs [aB,aA (.ol ys)]=aA [aB,aA (.ol (ys++xs.map f))]
 | [],ys,_,_=>by simp
 |x::xs,ys,h,hl=>by rw[bd]at hl;have ih:=Cz (te:=te) (f:=f) xs (ys++[f x]) (λy hy=>h y (aj _ hy)) (by rw[aw];simp;omega);have e1:=h x af ys;have h4:ys.length<PySem.sizeLine:=Ym (by omega);simp[e1,h4];simpa using ih
theorem Er{te:FE}{f:D->D}{c:Option SV}{j:Nat}:∀(xs ys:List D),(∀x∈xs,∀zs,te [aA (.fz x),c,aA (.ol zs)]=aA (.tmp (.fz (f x)),[aA (.fz x),c,aA (.ol zs)]))->ys.length+xs.length<=16777216->
  Z4 [.own,.cap j,.acc] 2 (Zi 0) Y9 te xs [aB,c,aA (.ol ys)]=aA [aB,c,aA (.ol (ys++xs.map f))]
 | [],ys,_,_=>by simp
 |x::xs,ys,h,hl=>by rw[bd]at hl;have ih:=Er (te:=te) (f:=f) (c:=c) (j:=j) xs (ys++[f x]) (λy hy=>h y (aj _ hy)) (by rw[aw];simp;omega);have e1:=h x af ys;have h4:ys.length<PySem.sizeLine:=Ym (by omega);simp[e1,h4];simpa using ih
theorem Rl{f:D->D->Option Bool}:∀xs:List D,(∀x∈xs,f x x=aA aC)->Fv f xs xs=aA aC
 | [],_=>rfl
 |x::r,h=>by simp[h x af,Rl r λy hy=>h y (aj _ hy)]
end My
namespace My
open DL PySem StrLaws Builtin.Str
def gap(n:Nat):Nat->List Nat->Prop
 |_,[]=>True
 |a,p::r=>a<=p/\gap n (p+n) r
theorem L4{n:Nat}:∀{a:Nat} {P:List Nat},gap n a P->∀i∈P,a<=i
 |_,[],_,i,h=>nomatch h
 |a,p::r,g,i,h=>by
  rcases bo.mp h with e|e
  .rw[e];exact g.1
  .have:=L4 g.2 i e;have:=g.1;omega
theorem Xl(s sub:Str)(hi limit:Nat)(hn:1<=sub.length):∀(m a:Nat) (found:Array Nat) (free:Nat) (P:List Nat),gap sub.length free P->(∀i∈P,a<=i/\i<a+m)->
  (∀i,a<=i->((free<=i/\At s sub hi i)↔i∈P))->
  (forIn (List.range' a m) (found,free) (occBody s sub hi limit)).run.fst.toList=found.toList++P.take (limit- found.size)
 |0,a,found,free,P,g,hb,hm=>by
  have:P=[]:=by
   cases P with
   |nil=>rfl
   |cons p r=>have:=hb p af;omega
  subst this;simp
 |m+1,a,found,free,P,g,hb,hm=>by
  rw[List.range'_succ,List.forIn_cons];unfold occBody;by_cases hl:found.size<limit
  .by_cases ha:a∈P
   .obtain⟨h1,h2,h3⟩:=(hm a (bg _)).mpr ha;rw[if_pos ⟨⟨⟨hl,h1⟩,h2⟩,h3⟩];obtain⟨P',rfl⟩:∃P',P=a::P':=by
     cases P with
     |nil=>cases ha
     |cons p r=>
      rcases bo.mp ha with e|e
      .exact⟨r,by rw[e]⟩
      .have:=L4 g.2 a e;have:=(hb p af).1;omega
    have ih:=Xl s sub hi limit hn m (a+1) (found.push a) (a+sub.length) P' g.2 (λi hi'=>by
      have z1:=L4 g.2 i hi';have z2:=(hb i (aj _ hi')).2;omega) (λi hi'=>by
      constructor
      .rintro⟨z1,z2⟩;have:=(hm i (by omega)).mp ⟨by omega,z2⟩;rcases bo.mp this with e|e
       .omega
       .exact e
      .intro z;have z1:=L4 g.2 i z;exact⟨z1,((hm i (by omega)).mpr (aj _ z)).2⟩)
    refine Eq.trans ih ?_;rw[Array.toList_push,Array.size_push,show limit- found.size=(limit- (found.size+1))+1 by omega,List.take_succ_cons,dy];rfl
   .rw[if_neg λz=>ha ((hm a (bg _)).mp ⟨z.1.1.2,z.1.2,z.2⟩)];refine Xl s sub hi limit hn m (a+1) found free P g (λi hi'=>?_) (λi hi'=>hm i (by omega));have z:=hb i hi';have:i≠a:=λe=>ha (by rw[<-e];exact hi');omega
  .rw[if_neg λz=>hl z.1.1.1];have e0:limit- found.size=0:=by omega
   have ih:∀(l:List Nat) (st:Array Nat×Nat),¬st.fst.size<limit->(forIn l st (occBody s sub hi limit)).run.fst=st.fst:=by
    intro l;induction l with
    |nil=>intro st _;rfl
    |cons x l ih=>intro st hst;rw[List.forIn_cons];unfold occBody;rw[if_neg λz=>hst z.1.1.1];exact ih _ hst
   have:=ih (List.range' (a+1) m) (found,free) hl;refine Eq.trans (congrArg Array.toList this) ?_;rw[e0];simp
theorem Zoj(x y:Str)(limit:Nat)(P:List Nat)(hn:1<=y.length)(g:gap y.length 0 P)(hm:∀i,At x y x.length i↔i∈P):occurrences x y 0 x.length limit=P.take limit:=by
 rw[occ_eq];have:=Xl x y x.length limit hn (x.length+1- 0) 0 #[] 0 P g (λi hi=>by
  have:=((hm i).mpr hi).1;omega) (λi _=>by rw[<-hm i];simp)
 simpa using this
noncomputable def jl(y:List Nat):List (List Nat)->List Nat
 | []=>[]
 | [p]=>p
 |p::q::r=>p++y++jl y (q::r)
noncomputable def pos(n:Nat):Nat->List (List Nat)->List Nat
 |_,[]=>[]
 |_,[_]=>[]
 |a,p::q::r=>(a+p.length)::pos n (a+p.length+n) (q::r)
theorem D5(n:Nat):∀(a:Nat) (ps:List (List Nat)),gap n a (pos n a ps)
 |_,[]=>True.intro
 |_,[_]=>True.intro
 |a,p::q::r=>⟨Nat.le_add_right _ _,D5 n _ (q::r)⟩
theorem Zsj{y:List Nat}{c o:Nat}(ho:∀j,y[j]? =aA c->j=o):∀(ps:List (List Nat)) (a j:Nat),(∀p∈ps,c∉p)->(jl y ps)[j]? =aA c->∃i∈pos y.length a ps,a+j=i+o
 | [],a,j,_,e=>by simp[jl]at e
 | [p],a,j,hp,e=>absurd (f7 e) (hp p af)
 |p::q::r,a,j,hp,e=>by
  have e:(p++y++jl y (q::r))[j]? =aA c:=e;by_cases h1:j<p.length
  .rw[dy,List.getElem?_append_left h1]at e;exact absurd (f7 e) (hp p af)
  .by_cases h2:j<p.length+y.length
   .rw[dy,List.getElem?_append_right (by omega),List.getElem?_append_left (by omega)]at e;have:=ho _ e;exact⟨a+p.length,af,by omega⟩
   .rw[List.getElem?_append_right (by rw[aw];omega),aw]at e;obtain⟨i,hi,ei⟩:=Zsj ho (q::r) (a+p.length+y.length) _ (λz hz=>hp z (aj _ hz)) e;exact⟨i,aj _ hi,by omega⟩
theorem Zfs{y:List Nat}:∀(ps:List (List Nat)) (a i:Nat),i∈pos y.length a ps->a<=i/\i- a+y.length<=(jl y ps).length/\((jl y ps).drop (i- a)).take y.length=y
 | [],_,_,h=>nomatch h
 | [_],_,_,h=>nomatch h
 |p::q::r,a,i,h=>by
  show a<=i/\i- a+y.length<=(p++y++jl y (q::r)).length/\((p++y++jl y (q::r)).drop (i- a)).take y.length=y;rcases bo.mp h with e|e
  .subst e;rw[aw,aw,show a+p.length- a=p.length by omega];refine⟨by omega,by omega,?_⟩;rw[dy,List.drop_left,List.take_left]
  .obtain⟨z1,z2,z3⟩:=Zfs (q::r) (a+p.length+y.length) i e;rw[aw,aw];refine⟨by omega,by omega,?_⟩;rw[show i- a=(p++y).length+(i- (a+p.length+y.length)) by rw[aw];omega,<-List.drop_drop,List.drop_left];exact z3
theorem Ti(y:Str):∀ps:List Str,(cr y ps).cps.toList=jl y.cps.toList (ps.map λp=>p.cps.toList)
 | []=>rfl
 | [p]=>rfl
 |p::q::r=>by show(p++y++cr y (q::r)).cps.toList=p.cps.toList++y.cps.toList++jl y.cps.toList ((q::r).map λp=>p.cps.toList);rw[<-Ti y (q::r)];simp[Str.cps_append]
theorem Wy(x:Str):x.cps.toList.length=x.length:=by simp[Str.length]
structure Sep(y:Str)(c o:Nat):Prop where
 at':y.cps.toList[o]? =aA c
 one:∀j,y.cps.toList[j]? =aA c->j=o
theorem Sep.pos{y:Str}{c o:Nat}(S:Sep y c o):1<=y.length:=by have:=(bp.mp S.at').1;rw[Wy]at this;omega
theorem Zft{y:Str}{c o:Nat}(S:Sep y c o)(ps:List Str)(hp:∀p∈ps,c∉p.cps.toList)(i:Nat):At (cr y ps) y (cr y ps).length i↔i∈pos y.length 0 (ps.map λp=>p.cps.toList):=by
 have hL:=Ti y ps;have hy:=Wy y;constructor
 .rintro⟨h1,h2⟩;rw[subAt_eq]at h2;have h2:=eq_of_beq h2;have hc:(jl y.cps.toList (ps.map λp=>p.cps.toList))[i+o]? =aA c:=by
   have z:=S.at';rw[<-h2,List.getElem?_take]at z;split at z
   .rw[List.getElem?_drop]at z;rw[<-hL];exact z
   .cases z
  obtain⟨j,hj,e⟩:=Zsj S.one (ps.map λp=>p.cps.toList) 0 (i+o) (λq hq=>by
   obtain⟨p,h,rfl⟩:=ax.mp hq;exact hp p h) hc
  have:i=j:=by omega
  rw[this,<-hy];exact hj
 .intro h;rw[<-hy]at h;obtain⟨z1,z2,z3⟩:=Zfs _ 0 i h;rw[<-hL]at z2 z3;have hz:=Wy (cr y ps);refine⟨by omega,?_⟩;rw[subAt_eq,<-hy];simpa using z3
theorem Mm{y:Str}{c o:Nat}(S:Sep y c o)(ps:List Str)(hp:∀p∈ps,c∉p.cps.toList)(limit:Nat):
  occurrences (cr y ps) y 0 (cr y ps).length limit=(pos y.length 0 (ps.map λp=>p.cps.toList)).take limit:=
 Zoj _ _ _ _ S.pos (D5 _ _ _) (Zft S ps hp)
theorem Mn(x:Str)(l:List Nat)(i j:Nat)(h:(x.cps.toList.drop i).take (j- i)=l):strSub x i j=⟨l.toArray⟩:=by apply Str.ext';apply Array.toList_inj.mp;rw[strSub_toList,h]
theorem Sr{y:List Nat}(x:Str):∀(ps:List (List Nat)) (a:Nat),ps≠[]->x.cps.toList.drop a=jl y ps->a<=x.length->partsFrom x y.length a (pos y.length a ps)=ps.map λp=>⟨p.toArray⟩
 | [],_,h,_,_=>absurd rfl h
 | [p],a,_,e,ha=>by
  show[strSub x a x.length]=[⟨p.toArray⟩]
  rw[Mn x p a x.length (by
   rw[e];show p.take _=p;have:=congrArg List.length e;rw[List.length_drop,Wy]at this;have e2:(jl y [p]).length=p.length:=rfl;rw[e2]at this;rw[this];exact List.take_length)]
 |p::q::r,a,_,e,ha=>by
  have e:x.cps.toList.drop a=p++y++jl y (q::r):=e;show strSub x a (a+p.length)::partsFrom x y.length (a+p.length+y.length) (pos y.length (a+p.length+y.length) (q::r))=⟨p.toArray⟩::((q::r).map λp=>⟨p.toArray⟩)
  have l1:=congrArg List.length e;rw[List.length_drop,Wy,aw,aw]at l1;rw[Mn x p a (a+p.length) (by rw[e,show a+p.length- a=p.length by omega,dy,List.take_left])];rw[Sr x (q::r) (a+p.length+y.length) (by simp) (by
   rw[show a+p.length+y.length=a+(p++y).length by rw[aw];omega,<-List.drop_drop,e,List.drop_left]) (by omega)]
theorem Zul(ps:List Str):(ps.map λp=>p.cps.toList).map (λp=>(⟨p.toArray⟩:Str))=ps:=by rw[cx];have:∀p:Str,((λp=>(⟨p.toArray⟩:Str))∘λp:Str=>p.cps.toList) p=p:=λp=>rfl;rw[List.map_congr_left (λp _=>this p),List.map_id']
theorem Zfu(x:Str):1<=Builtin.Str.strKind x:=by unfold Builtin.Str.strKind;split<;> (try split)<;> decide
theorem Zj0{n a:Nat}:∀{ps:List (List Nat)},pos n a ps=[]->ps=[]\/∃p,ps=[p]
 | [],_=>.inl rfl
 | [p],_=>.inr ⟨p,rfl⟩
theorem Es{y:Str}{c o:Nat}(S:Sep y c o)(hk:Builtin.Str.strKind y=1)(ps:List Str)(h0:ps≠[])(hp:∀p∈ps,c∉p.cps.toList):Txt.split (cr y ps) y=ps:=by
 have hP:occurrences (cr y ps) y 0 (cr y ps).length ((cr y ps).length+1)=pos y.length 0 (ps.map λp=>p.cps.toList):=by have h1:=Mm S ps hp ((cr y ps).length+1);have h2:=Mm S ps hp (((cr y ps).length+1)+(pos y.length 0 (ps.map λp=>p.cps.toList)).length);rw[List.take_of_length_le (Nat.le_add_left _ _)]at h2;have h3:=occ_length_le_len (cr y ps) y 0 (cr y ps).length (((cr y ps).length+1)+(pos y.length 0 (ps.map λp=>p.cps.toList)).length);rw[h2]at h3;rw[h1,List.take_of_length_le (by omega)]
 have one:pos y.length 0 (ps.map λp=>p.cps.toList)=[]->cr y ps=ps.headD ez/\[ps.headD ez]=ps:=λe=>by
  rcases Zj0 e with z|⟨p,z⟩
  .exact absurd (List.map_eq_nil_iff.mp z) h0
  .match ps,z with
   | [q],_=>exact⟨rfl,rfl⟩
 unfold Txt.split;by_cases hs:(decide ((cr y ps).length<y.length)||decide (Builtin.Str.strKind (cr y ps)<Builtin.Str.strKind y))=aC
 .rw[if_pos hs];have hlt:(cr y ps).length<y.length:=by
   rw[hk]at hs;have:=Zfu (cr y ps);rcases Bool.or_eq_true_iff.mp hs with z|z
   .exact of_decide_eq_true z
   .have:=of_decide_eq_true z;omega
  have e:pos y.length 0 (ps.map λp=>p.cps.toList)=[]:=by
   cases hq:pos y.length 0 (ps.map λp=>p.cps.toList)with
   |nil=>rfl
   |cons i r=>have:=((Zft S ps hp i).mpr (by rw[hq];exact af)).1;omega
  rw[(one e).1];exact(one e).2
 .rw[if_neg hs,hP];by_cases he:(pos y.length 0 (ps.map λp=>p.cps.toList)).isEmpty=aC
  .rw[if_pos he];have e:=List.isEmpty_iff.mp he;rw[(one e).1];exact(one e).2
  .rw[if_neg he,partsBetween_eq];have z:=Sr (y:=y.cps.toList) (cr y ps) (ps.map λp=>p.cps.toList) 0 (by simpa using h0) (by rw[List.drop_zero];exact Ti y ps) (d8 _);rw[Wy,Zul]at z;exact z
theorem Ss{y:Str}{c o:Nat}(S:Sep y c o)(p:Str)(hp:c∉p.cps.toList):Txt.partition p y=(p,ez,ez):=by have h1:=Mm S [p] (λq hq=>by rw[aq.mp hq];exact hp) 1;unfold Txt.partition;rw[show cr y [p]=p from rfl]at h1;rw[h1];rfl
end My
namespace My
open DL PySem
theorem Wa{tg:FG}{body:FS}{d:D}{ds:List D}{δ δ1 δ2:Yw}(h1:tg.run d δ=aA δ1)(h2:body δ1=aA (.nx δ2)):Y8 tg body (d::ds) δ=Y8 tg body ds δ2:=by show(tg.run d δ).bind _=_;rw[h1,f6,h2,f6]
theorem Zj1{tg:FG}{body:FS}{d:D}{ds:List D}{δ δ1:Yw}{sv:SV}(h1:tg.run d δ=aA δ1)(h2:body δ1=aA (.rt sv)):Y8 tg body (d::ds) δ=aA (.rt sv):=by show(tg.run d δ).bind _=_;rw[h1,f6,h2,f6]
theorem Zbx{t:FT}{b:FS}{n:Nat}{δ δ1 δ2:Yw}(h1:t δ=aA (aC,δ1))(h2:b δ1=aA (.nx δ2)):Ji t b (n+1) δ=Ji t b n δ2:=by show(t δ).bind _=_;rw[h1,f6];show(if aC=aC then(b δ1).bind _ else _)=_;rw[if_pos rfl,h2,f6]
theorem Xm{t:FT}{b:FS}{n:Nat}{δ δ1:Yw}(h1:t δ=aA (aD,δ1)):Ji t b (n+1) δ=aA (.nx δ1):=by show(t δ).bind _=_;rw[h1,f6];rfl
noncomputable abbrev S(l:List Nat):Str:=⟨l.toArray⟩
theorem Zlp(l:List Nat):(S l).length=l.length:=by show l.toArray.size=_;simp
theorem Zfv(a b:List Nat):S a++S b=S (a++b):=by
 show(⟨a.toArray++b.toArray⟩:Str)=⟨(a++b).toArray⟩
 simp
theorem Zsk{a b:List Nat}(h:S a=S b):a=b:=by have:a.toArray=b.toArray:=congrArg Str.cps h;simpa using this
theorem Zum(x:Str):x=S x.cps.toList:=by cases x;simp
theorem Zok(l:List Nat):(S l).cps.toList=l:=by simp
theorem Yc{α:Type}(p:List α)(i:Nat)(c:α)(h:p[i]? =aA c):L2.atI p (i:Int)=aA c:=by have hl:=(bp.mp h).1;unfold L2.atI L2.ixN;rw[if_pos (by omega),if_pos (by omega)];simpa using h
end My
namespace My
open DL PySem
noncomputable abbrev Cg(s n:Nat):List D:=(List.range' s n).map λi:Nat=>D.int (i:Int)
theorem Ba(n:Nat):Cs 0 n=Cg 0 n:=by unfold Cs;rw[List.range_eq_range'];refine List.map_congr_left λi _=>?_;simp
theorem Tj{tg:FG}{body:FS}{P:Nat->Yw->Prop}:∀(n s:Nat) (δ:Yw),P s δ->(∀i,s<=i->i<s+n->∀δ,P i δ->∃δ1 δ2,tg.run (.int (i:Int)) δ=aA δ1/\body δ1=aA (.nx δ2)/\P (i+1) δ2)->
  ∃δ',Y8 tg body (Cg s n) δ=aA (.nx δ')/\P (s+n) δ'
 |0,s,δ,h,_=>⟨δ,rfl,h⟩
 |n+1,s,δ,h,k=>by obtain⟨δ1,δ2,h1,h2,h3⟩:=k s (bg _) (by omega) δ h;obtain⟨δ',e,h'⟩:=Tj (tg:=tg) (body:=body) (P:=P) n (s+1) δ2 h3 λi hi hj=>k i (by omega) (by omega);refine⟨δ',?_,by rw[show s+(n+1)=s+1+n by omega];exact h'⟩;show Y8 tg body (.int (s:Int)::Cg (s+1) n) δ=_;rw[Wa h1 h2];exact e
noncomputable def C0(i:Nat):List D->List D
 | []=>[]
 |x::r=>.tup [.int (i:Int),x]::C0 (i+1) r
theorem Zol(xs:List D):∀i:Nat,((xs.zipIdx i).map λp:D×Nat=>D.tup [.int (p.2:Nat),p.1])=C0 i xs:=by
 induction xs with
 |nil=>intro i;rfl
 |cons x r ih=>intro i;rw[List.zipIdx_cons,ay,ih];rfl
theorem D6(xs:List D):Ct xs=C0 0 xs:=Zol xs 0
theorem An(t:Str)(r:List Str):Il (.str t) (r.map D.str)=decide (t∈r):=by
 unfold Il;induction r with
 |nil=>rfl
 |cons x r ih=>
  rw[ay,List.any_cons,ih,Zev];by_cases h:x=t
  .subst h;simp
  .have h':¬t=x:=λe=>h e.symm;simp[h,h']
theorem Bq{src:List L2.BSrc}{k:Nat}{g:FG}{tt:FT}{te:FE}{st:List D->Yw}{f:D->Option D}:∀(ds ys:List D),
  (∀d∈ds,∀(zs ds':List D),zs.length<bv->Z4 src k g tt te (d::ds') (st zs)=Z4 src k g tt te ds' (st (zs++(f d).toList)))->ys.length+ds.length<=16777216->
  Z4 src k g tt te ds (st ys)=aA (st (ys++ds.filterMap f))
 | [],ys,_,_=>by simp
 |d::ds,ys,h,hl=>by
  rw[bd]at hl;rw[h d af ys ds (Ym (by omega))];have hz:(f d).toList.length<=1:=by cases f d<;> simp
  rw[Bq ds (ys++(f d).toList) (λx hx=>h x (aj _ hx)) (by rw[aw];omega),dy];congr 3;cases hd:f d with
  |none=>rw[dr hd];rfl
  |some v=>rw[dq hd];rfl
theorem D7{src:List L2.BSrc}{k:Nat}{g:FG}{tt:FT}{te:FE}{st:List D->Yw}{R:D->Prop}:∀(ds ys:List D),
  (∀d∈ds,∀(zs ds':List D),zs.length<bv->∃v,R v/\Z4 src k g tt te (d::ds') (st zs)=Z4 src k g tt te ds' (st (zs++[v])))->ys.length+ds.length<=16777216->
  ∃vs,Z4 src k g tt te ds (st ys)=aA (st (ys++vs))/\(∀v∈vs,R v)/\vs.length=ds.length
 | [],ys,_,_=>⟨[],by simp,(λ_ h=>nomatch h),rfl⟩
 |d::ds,ys,h,hl=>by
  rw[bd]at hl;obtain⟨v,hv,e⟩:=h d af ys ds (Ym (by omega));obtain⟨vs,e2,h2,h3⟩:=D7 ds (ys++[v]) (λx hx=>h x (aj _ hx)) (by rw[aw,c6];omega);refine⟨v::vs,by rw[e,e2];simp,λx hx=>?_,by simp[h3]⟩;rcases bo.mp hx with hx|hx
  .rw[hx];exact hv
  .exact h2 x hx
theorem L5(n:Nat)(xs:List D)(h:∀x∈xs,Cw n x x=aA aC):Cw (n+1) (.lst xs) (.lst xs)=aA aC:=by simp[Rl xs h]
theorem Gi(n:Nat)(xs:List D)(h:∀x∈xs,Cw n x x=aA aC):Cw (n+1) (.tup xs) (.tup xs)=aA aC:=by simp[Rl xs h]
theorem Zj2(n:Nat)(i:Int):Cw (n+1) (.int i) (.int i)=aA aC:=by simp
theorem Uj(n:Nat)(x:Str):Cw (n+1) (.str x) (.str x)=aA aC:=by simp
theorem Zfw(n:Nat)(r:List Str):Cw (n+2) (.lst (r.map D.str)) (.lst (r.map D.str))=aA aC:=L5 _ _ λx hx=>by obtain⟨t,_,rfl⟩:=ax.mp hx;exact Uj n t
theorem Xn(xs:List D)(m:Nat)(h:m<=xs.length):Cf xs aB (aA (m:Int))=xs.take m:=by unfold Cf HT.sIx;dsimp only;rw[if_neg (by omega),List.drop_zero];congr 1;omega
theorem Su(xs:List D)(m:Nat)(h:m<=xs.length):Cf xs (aA (m:Int)) aB=xs.drop m:=by unfold Cf HT.sIx;dsimp only;rw[if_neg (by omega),show min ((m:Int)).toNat xs.length=m by omega];rw[List.take_of_length_le (by rw[List.length_drop];omega)]
theorem Zom{α:Type}(l:List α)(x n:Int)(hl:(l.length:Int)=n)(hn:0<n):∃c,c∈l/\L2.atI l (x % n)=aA c:=by
 have h0:0<=x % n:=Int.emod_nonneg _ (by omega);have h1:x % n<n:=Int.emod_lt_of_pos _ hn;obtain⟨j,hj⟩:=Int.eq_ofNat_of_zero_le h0;have hjl:j<l.length:=by omega
 rw[hj];exact⟨l[j],List.getElem_mem hjl,Yc _ _ _ (bj hjl)⟩
end My
namespace My
open DL PySem StrLaws Builtin.Str
theorem T4(c:Nat):∀l:List Nat,∃qs:List Str,qs≠[]/\(∀p∈qs,c∉p.cps.toList)/\S l=cr (S [c]) qs
 | []=>⟨[S []],by simp,by simp,rfl⟩
 |d::l=>by
  obtain⟨qs,h1,h2,h3⟩:=T4 c l;have e:S (d::l)=S [d]++S l:=(Zfv [d] l).symm;cases qs with
  |nil=>exact absurd rfl h1
  |cons q r=>
   by_cases hd:d=c
   .subst hd;refine⟨S []::q::r,by simp,λp hp=>?_,?_⟩
    .rcases bo.mp hp with hp|hp
     .rw[hp];simp
     .exact h2 p hp
    .show S (d::l)=S []++S [d]++cr (S [d]) (q::r);rw[<-h3,e,Zfv [] [d]];rfl
   .refine⟨(S [d]++q)::r,by simp,λp hp=>?_,?_⟩
    .rcases bo.mp hp with hp|hp
     .rw[hp];have:(S [d]++q).cps.toList=d::q.cps.toList:=by simp[Str.cps_append]
      rw[this,bo];exact λz=>z.elim (λz=>hd z.symm) (h2 q af)
     .exact h2 p (aj _ hp)
    .rw[e,h3];cases r with
     |nil=>rfl
     |cons q2 r=>show S [d]++(q++S [c]++cr (S [c]) (q2::r))=(S [d]++q)++S [c]++cr (S [c]) (q2::r);simp only[Str.append_assoc]
theorem Mo(c:Nat):Sep (S [c]) c 0:=⟨by simp,λj h=>by
 cases j with
 |zero=>rfl
 |succ j=>simp at h⟩
theorem Xo(c:Nat)(p q:Str)(hp:c∉p.cps.toList):Txt.partition (p++S [c]++q) (S [c])=(p,S [c],q):=by
 have SS:=Mo c;obtain⟨qs,hq1,hq2,hq3⟩:=T4 c q.cps.toList;rw[<-Zum q]at hq3;have h1:=Mm SS (p::qs) (λz hz=>by
  rcases bo.mp hz with e|e
  .rw[e];exact hp
  .exact hq2 z e) 1
 obtain⟨q1,r,hqr⟩:∃q1 r,qs=q1::r:=by
  cases qs with
  |nil=>exact absurd rfl hq1
  |cons q1 r=>exact⟨q1,r,rfl⟩
 have ej:cr (S [c]) (p::qs)=p++S [c]++q:=by rw[hq3,hqr];rfl
 rw[ej]at h1;have e:(pos (S [c]).length 0 ((p::qs).map λp=>p.cps.toList)).take 1=[p.length]:=by
  rw[hqr];show[0+p.cps.toList.length]=[p.length]
  rw[Wy,Nat.zero_add]
 rw[e]at h1;have eL:(p++S [c]++q).cps.toList=p.cps.toList++(S [c]).cps.toList++q.cps.toList:=by simp[Str.cps_append]
 have hl:(p++S [c]++q).length=p.length+(S [c]).length+q.length:=by rw[Jn,Jn]
 unfold Txt.partition;rw[h1];have a1:=Mn (p++S [c]++q) p.cps.toList 0 p.length (by rw[List.drop_zero,Nat.sub_zero,eL,dy,<-Wy p,List.take_left]);have a2:=Mn (p++S [c]++q) q.cps.toList (p.length+(S [c]).length) (p++S [c]++q).length (by
  rw[eL,hl,show p.length+(S [c]).length=(p.cps.toList++(S [c]).cps.toList).length by rw[aw,Wy,Wy],List.drop_left];exact List.take_of_length_le (by rw[Wy];omega))
 show(strSub (p++S [c]++q) 0 p.length,S [c],strSub (p++S [c]++q) (p.length+(S [c]).length) (p++S [c]++q).length)=(p,S [c],q)
 rw[a1,a2]
end My
namespace My
open DL PySem
abbrev Zf(xs:List Str):List L2.Key:=xs.map bh
theorem Mp(k:Str):∀(xs:List Str) (vs:List D),Yk (Zf xs) vs (bh k)=Yk xs vs k
 | [],[]=>rfl
 | [],_::_=>rfl
 |_::_,[]=>rfl
 |x::xs,v::vs=>by
  show(if(bh x:L2.Key)=bh k then aA v else Yk (Zf xs) vs (bh k))=if x=k then aA v else Yk xs vs k;rw[Mp k xs vs];by_cases h:x=k
  .rw[if_pos h,if_pos (by rw[h])]
  .rw[if_neg h,if_neg λe=>h (bh.inj e)]
theorem J1(k:Str)(v:D)(xs:List Str)(vs:List D):Wm (Zf xs) vs (bh k) v=(Zf (Wm xs vs k v).1,(Wm xs vs k v).2):=by
 have hm:((bh k:L2.Key)∈Zf xs)↔k∈xs:=by
  constructor
  .intro h;obtain⟨y,hy,e⟩:=ax.mp h;rw[<-bh.inj e];exact hy
  .exact λh=>ax.mpr ⟨k,h,rfl⟩
 unfold Wm;by_cases h:k∈xs
 .rw[if_pos h,if_pos (hm.mpr h)];congr 1;have:∀(xs:List Str) (vs:List D),((Zf xs).zip vs).map (λp=>if p.1=(bh k:L2.Key)then v else p.2)=(xs.zip vs).map λp=>if p.1=k then v else p.2:=by
   intro xs;induction xs with
   |nil=>intro vs;rfl
   |cons x xs ih=>
    intro vs;cases vs with
    |nil=>rfl
    |cons u vs=>
     show(if(bh x:L2.Key)=bh k then v else u)::((Zf xs).zip vs).map (λp=>if p.1=(bh k:L2.Key)then v else p.2)=(if x=k then v else u)::(xs.zip vs).map λp=>if p.1=k then v else p.2;rw[ih vs];by_cases hx:x=k
     .rw[if_pos hx,if_pos (by rw[hx])]
     .rw[if_neg hx,if_neg λe=>hx (bh.inj e)]
  exact this xs vs
 .rw[if_neg h,if_neg λe=>h (hm.mp e)];simp[Zf]
theorem Bb{k:Str}{v:D}{xs:List Str}{vs:List D}(h:k∉xs):Wm xs vs k v=(xs++[k],vs++[v]):=by unfold Wm;rw[if_neg h]
structure Dic(xs:List Str)(vs:List D):Prop where
 nd:xs.Nodup
 len:xs.length=vs.length
theorem Zfx{xs:List Str}:∀{vs:List D},xs.Nodup->xs.length=vs.length->∀(i:Nat) (x:Str) (v:D),xs[i]? =aA x->vs[i]? =aA v->Yk xs vs x=aA v:=by
 induction xs with
 |nil=>intro vs _ _ i x v h;simp at h
 |cons y xs ih=>
  intro vs nd hl i x v hx hv;cases vs with
  |nil=>simp at hv
  |cons u vs=>
   obtain⟨n1,n2⟩:=d5.mp nd;show(if y=x then aA u else Yk xs vs x)=aA v;cases i with
   |zero=>simp at hx hv;rw[if_pos hx,hv]
   |succ i=>simp at hx hv;have hm:=f7 hx;rw[if_neg λe=>n1 (by rw[e];exact hm)];exact ih n2 (by simpa using hl) i x v hx hv
theorem Sv:∀xs:List Str,strK? (Zf xs)=aA xs
 | []=>rfl
 |x::xs=>by show(strK? (Zf xs)).bind (λt=>aA (x::t))=aA (x::xs);rw[Sv xs];rfl
theorem Kn{f:D->D->Option Bool}{ys:List Str}{us:List D}:∀(xs:List Str) (vs:List D),(∀(i:Nat) (x:Str) (v:D),xs[i]? =aA x->vs[i]? =aA v->Yk ys us x=aA v/\f v v=aA aC)->Lx f ys us xs vs=aA aC
 | [],_,_=>rfl
 |_::_,[],_=>rfl
 |x::xs,v::vs,h=>by
  obtain⟨h1,h2⟩:=h 0 x v rfl rfl;have ih:=Kn xs vs λi x v hx hv=>h (i+1) x v (by simpa using hx) (by simpa using hv);show(match Yk ys us x with
   |none=>aA aD
   |some u=>(f v u).bind λb=>(Lx f ys us xs vs).bind λc=>aA (b&&c))=aA aC
  rw[h1];dsimp only;rw[h2,ih];rfl
theorem Zfy(n:Nat){xs:List Str}{vs:List D}(h:Dic xs vs)(hv:∀v∈vs,Cw n v v=aA aC):Cw (n+1) (.dK (Zf xs) vs) (.dK (Zf xs) vs)=aA aC:=by show(strK? (Zf xs)).bind (λxs'=>(strK? (Zf xs)).bind λys=>if xs'.length=ys.length then Lx (Cw n) ys vs xs' vs else aA aD)=aA aC;rw[Sv];dsimp only[Option.bind];rw[if_pos rfl];exact Kn xs vs λi x v hx hv'=>⟨Zfx h.nd h.len i x v hx hv',hv v (f7 hv')⟩
end My
namespace My
open DL PySem StrLaws Builtin.Str
theorem Zsl(y p:List Nat)(q:List Nat)(r:List (List Nat)):jl y (p::q::r)=p++y++jl y (q::r):=rfl
end My
namespace My
open DL PySem PySem.Spec PyProof.Rows L2
noncomputable def ev{α:Type}:List α->List α
 | []=>[]
 | [a]=>[a]
 |a::_::r=>a::ev r
theorem Zfz{α β:Type}(f:α->β):∀xs:List α,ev (xs.map f)=(ev xs).map f
 | []=>rfl
 | [a]=>rfl
 |a::b::r=>by show f a::ev (r.map f)=f a::(ev r).map f;rw[Zfz f r]
theorem D8{α:Type}:∀(m:Nat) (xs:List α),xs.length<=2*m->((ed m).map λk=>2*k).filterMap (xs[·]?)=ev xs
 |0,xs,h=>by have:xs=[]:=List.eq_nil_of_length_eq_zero (by omega);subst this;rfl
 |m+1,xs,h=>by
  rw[List.range_succ_eq_map,ay,cx]
  match xs,h with
  | [],_=>simp[ev]
  | [a],_=>
   show a::List.filterMap (λx=>[a][x]?) (List.map ((λk=>2*k)∘Nat.succ) (ed m))=_;have:List.filterMap (λx=>[a][x]?) (List.map ((λk=>2*k)∘Nat.succ) (ed m))=[]:=by rw[List.filterMap_eq_nil_iff];intro x hx;obtain⟨k,_,rfl⟩:=ax.mp hx;show[a][2*(k+1)]? =aB;rw[List.getElem?_eq_none_iff];simp;omega
   rw[this];rfl
  |a::b::r,h=>
   show a::List.filterMap (λx=>(a::b::r)[x]?) (List.map ((λk=>2*k)∘Nat.succ) (ed m))=_;have ih:=D8 m r (by simp at h;omega);have:List.filterMap (λx=>(a::b::r)[x]?) (List.map ((λk=>2*k)∘Nat.succ) (ed m))=ev r:=by rw[<-ih,List.filterMap_map,List.filterMap_map];congr 1
   rw[this];rfl
theorem Zf0{α:Type}(xs:List α):Oj xs aB aB (aA 2)=ev xs:=by
 unfold Oj;have e1:(sliceBounds aB aB (aA 2) xs.length)=(0,(xs.length:Int),2):=rfl;rw[e1];dsimp only;have e2:sliceRange 0 (xs.length:Int) 2=(ed ((xs.length+1) / 2)).map λk=>2*k:=by
  unfold sliceRange;rw[if_pos (by decide)];by_cases h:xs.length=0
  .rw[h];rfl
  .rw[if_pos (by omega)];dsimp only;rw[show(((xs.length:Int)- 0+2- 1) / 2).toNat=(xs.length+1) / 2 by omega];refine List.map_congr_left λk _=>?_;omega
 rw[e2];exact D8 _ xs (by omega)
theorem D9{α β:Type}(f g:α->β)(b:β):∀xs:List α,ev (b::xs.flatMap λx=>[f x,g x])=b::xs.map g
 | []=>rfl
 |x::xs=>by show b::ev (g x::xs.flatMap λx=>[f x,g x])=_;rw[D9 f g (g x) xs];rfl
end My
noncomputable section
namespace Gen
open PySem PySem.Spec PyProof.Rows L2 DL
noncomputable def Ig(i:Nat):Stmt:=PySem.Challenge.pw_citeward_k30_whole_what_is_listed.main.body.getD i (.Pass ⟨0,0,0,0⟩)
noncomputable abbrev Zon:Nat:=1000
abbrev Uy:Stmt:=Ig 26
abbrev C1:Stmt:=Ig 27
abbrev Br:Stmt:=Ig 28
abbrev Uz:Stmt:=Ig 25
abbrev Bt:Stmt:=Ig 13
abbrev Ov:Stmt:=Ig 18
abbrev Bu:Stmt:=Ig 9
abbrev Tk:Stmt:=Ig 14
abbrev Ow:Stmt:=Ig 10
abbrev Rm:Stmt:=Ig 11
abbrev C3:Stmt:=Ig 12
abbrev Ox:Stmt:=Ig 17
abbrev Bv:Stmt:=Ig 16
abbrev Bw:Stmt:=Ig 19
abbrev Ro:Stmt:=Ig 22
abbrev Oy:Stmt:=Ig 23
abbrev Tl:Stmt:=Ig 21
abbrev Bx:Stmt:=Ig 30
abbrev Oz:Stmt:=Ig 29
abbrev By:Stmt:=Ig 31
abbrev O0:Stmt:=Ig 32
abbrev Bz:Stmt:=Ig 33
def Qn:FS:=
 Zm (Ij 2 (Zg Qw (Za 3) (Zb (.int 5040)))) (Yd 3 (Zg A2 (Za 3) (Zb (.int 5040))))
def Qo:FS:=
 Zm (Yd 3 (Zg Qw (Zg Lz (Zg Ue (Zg Ue (Za 3) (Za 4)) (Zb (.int 1))) (Zb (.int 48271))) (Zb (.int 2147483647)))) (Ij 2 (Zg Qw (Zg Lz (Za 3) (Zb (.int 69621))) (Zb (.int 2147483629))))
def Jo:FS:=
 Zm (Yd 2 (Oq (Zw))) (Zm (Yd 3 (Zg A2 (Za 0) (Zb (.int 2)))) (Zm (U7 (Zu (Zg Aj (Zg Qw (Za 0) (Zb (.int 2))) (Zb (.int 1)))) (Zm (O8 (Lh (Zc (Za 1) Zj)) (Zi 4) Qn) (Y3 (Za 2))) (Yl)) (Zm (Yd 3 (Zg Qw (Za 3) (Zb (.int 2147483647)))) (Zm (O8 (Lh (Zc (Za 1) Zj)) (Zi 4) Qo) (Y3 (Za 2))))))
def Z6:List D->Option SV:=W3 Jo 5
def Wt:FS:=
 Yd 8 (Zg Ue (Za 8) (Zg Wh (Za 2) (Zg Qw (Zg Ue (Zg Wh (Za 3) (Za 9)) (Zg Lz (Zg Lz (Zb (.int 7)) (Za 7)) (Yg Zid (Zc (Zg Aj (Za 9) (Za 5)) Zj)))) (Zb (.int 26)))))
def Uk:FS:=
 Zm (Yd 8 (Zb (.str ""))) (Zm (O8 (Lh (Zc (Za 4) Zj)) (Zi 9) Wt) (Ij 6 (Za 8)))
def Rp:FS:=
 Zm (Yd 2 (Zb (.str "abcdefghijklmnopqrstuvwxyz"))) (Zm (Yd 3 (Yn 2 Z6 (Zc (Za 0) (Zc (Zb (.int 10)) (Zj))))) (Zm (Yd 4 (Zg Ue (Zb (.int 1)) (Zg Qw (Zg Wh (Za 3) (Zb (.int 8))) (Zb (.int 8))))) (Zm (Yd 5 (Zg Qw (Zg Wh (Za 3) (Zb (.int 9))) (Za 4))) (Zm (Yd 6 (Oq (Zw))) (Zm (O8 (Lh (Zc (Za 1) Zj)) (Zi 7) Uk) (Y3 (Za 6)))))))
def Qp:List D->Option SV:=W3 Rp 10
def Qi:FE:=
 Zg Wh (Za 1) (Zg Qw (Zg Wh (Za 2) (Zg Ue (Zb (.int 1)) (Za 0))) (Yg Ut (Zc (Za 1) Zj)))
def Jp:FE:=
 Zg Ue (Zg Ue (Zb (.str "<")) (Za 0)) (Zb (.str ">"))
def Jq:FS:=
 Zm (Yd 6 (Yn 2 Z6 (Zc (Za 5) (Zc (Zb (.int 6)) (Zj))))) (Zm (Yd 7 (Eg [("title",Zb (.str "So it is"))])) (Zm (Oo 3 (Zg Wh (Za 0) (Za 4)) (Oq (Zw))) (Zm (U7 (Zu (Zg gtD (Zg Qw (Zg Wh (Za 6) (Zb (.int 0))) (Zb (.int 3))) (Zb (.int 0)))) (Zm (Oo 3 (Zg Wh (Za 0) (Za 4)) (Yv [.own,.cap 0,.cap 6,.acc] 3 (Lh (Zc (Zg Ue (Zb (.int 1)) (Zg Qw (Zg A2 (Zg Wh (Za 6) (Zb (.int 0))) (Zb (.int 3))) (Zb (.int 3)))) Zj)) (Zi 0) (Y9) Qi)) (Oo 7 (Zb (.str "note")) (Zg Ue (Zb (.str "see ")) (bmF "str" M6 (Zb (.str " and ")) (Zc (Yv [.own,.acc] 1 (Wr (Zg Wh (Za 3) (Zg Wh (Za 0) (Za 4)))) (Zi 0) (Y9) Jp) Zj))))) (Yl)) (Zm (U7 (Zu (Zg Aj (Zg Qw (Zg Wh (Za 6) (Zb (.int 0))) (Zb (.int 12))) (Zb (.int 0)))) (Oo 7 (Zb (.str "note")) (Zg Ue (Zb (.str "see <")) (Zg Wh (Za 0) (Zb (.int 0))))) (Yl)) (Zm (U7 (Zu (Zg Aj (Zg Qw (Zg Wh (Za 6) (Zb (.int 4))) (Zb (.int 2))) (Zb (.int 0)))) (Zm (Oo 7 (Zb (.str "in")) (Zg Wh (Za 0) (Zg Qw (Zg Wh (Za 6) (Zb (.int 5))) (Yg Ut (Zc (Za 0) Zj))))) (U7 (Zu (Zg Aj (Zg Qw (Zg Wh (Za 6) (Zb (.int 4))) (Zb (.int 3))) (Zb (.int 0)))) (Oo 7 (Zb (.str "in")) (Zg Wh (Za 0) (Zb (.int 0)))) (Yl))) (Yl)) (Oo 2 (Zg Wh (Za 0) (Za 4)) (tupF (Zk (Zb (.str "book")) (Zk (Za 7) (Zw))))))))))
def C4:FS:=
 Zm (Yd 2 (Ka)) (Zm (Yd 3 (Ka)) (Zm (O8 (Ls (Zk (Za 1) Zw)) (Jz 2 (Yo (Zi 4) (Yo (Zi 5) (Ug)))) Jq) (Y3 (tupF (Zk (Za 2) (Zk (Za 3) (Zw)))))))
def Wc:List D->Option SV:=W3 C4 8
def Jr:FS:=
 Zm (U7 (Zu (Zg ltD (Za 1) (Yg Ut (Zc (Za 0) Zj)))) (Y3 (Zg Wh (Za 0) (Za 1))) (Yl)) (Y3 (Zb (.int 0)))
def Z9:List D->Option SV:=W3 Jr 2
def Js:FS:=
 Oo 1 (Za 2) (Zb (.bl aC))
def C5:FS:=
 Zm (Yd 1 (Ka)) (Zm (O8 (Wr (Za 0)) (Zi 2) Js) (Y3 (Yg P8 (Zc (Za 1) Zj))))
def J2:List D->Option SV:=W3 C5 3
def Q4:FT:=
 Ad (Zu (unF (Ae "str") (Za 0)))
def Q5:FE:=
 Zg Wh (Za 0) (Zb (.int 1))
def B0:FS:=
 Y3 (Yv [.own,.acc] 1 (Wr (Za 0)) (Zi 0) (Q4) Q5)
def Q6:List D->Option SV:=W3 B0 1
def O1:FE:=
 Zg Py (Za 0) (Za 1)
def C6:FS:=
 Y3 (Yg Zik (Zc (Yv [.own,.cap 1,.acc] 2 (Wr (Za 0)) (Zi 0) (Y9) O1) Zj))
def W5:List D->Option SV:=W3 C6 2
def Jj:FS:=
 Zm (Yd 5 (bmF "str" Uw (Za 4) (Zc (Zb (.str ">")) Zj))) (Zm (U7 (Zu (Zg Aj (Zg Wh (Za 5) (Zb (.int 1))) (Zb (.str "")))) (Y3 (Zb .non)) (Yl)) (Zi0 3 (Oq (Zk (Zg Wh (Za 5) (Zb (.int 0))) (Zk (Zg Wh (Za 5) (Zb (.int 2))) (Zw))))))
def Mq:FS:=
 Zm (Yd 2 (bmF "str" Lo (Za 0) (Zc (Zb (.str "<")) Zj))) (Zm (Yd 3 (Oq (Zk (Zg Wh (Za 2) (Zb (.int 0))) (Zw)))) (Zm (O8 (Wr (slF slD (Za 2) (Cd (Zb (.int 1))) (Bo))) (Zi 4) Jj) (Y3 (ifF (Zu (Yn 2 W5 (Zc (bmF "str" M6 (Zb (.str "")) (Zc (Zn2 Zjg (Za 3) (Bo) (Bo) (Cd (Zb (.int 2)))) Zj)) (Zc (Za 1) (Zj))))) (Za 3) (Zb .non)))))
def U0:List D->Option SV:=W3 Mq 6
def B1:FS:=
 Zm (U7 (Ad (Zu (unF (Ae "str") (Za 0)))) (Y3 (Zb (.bl aD))) (Yl)) (Y3 (Zhx (Vr leD leD (Zb (.int 1)) (Yg Ut (Zc (Za 0) Zj)) (Za 2)) (Yn 2 W5 (Zc (Za 0) (Zc (Za 1) (Zj))))))
def Wu:List D->Option SV:=W3 B1 3
def Tn:FS:=
 Y3 (Yn 3 Wu (Zc (Za 0) (Zc (Zb (.str "abcdefghijklmnopqrstuvwxyz")) (Zc (Zb (.int 8)) (Zj)))))
def Bc:List D->Option SV:=W3 Tn 1
def Et : FS :=
  Y3 (Yn 3 Wu (Zc (Za 0) (Zc (Zb (.str "ABCDEFGHIJKLMNOPQRSTUVWXYZabcdefghijklmnopqrstuvwxyz0123456789 .,!?'-/()&+*=")) (Zc (Zb (.int 80)) (Zj)))))
def Rq:List D->Option SV:=W3 Et 1
def B2:FS:=
 Zm (Yd 1 (bmF "str" Uw (Za 0) (Zc (Zb (.str " ")) Zj))) (Zm (U7 (Ad (Zu (Yn 1 Bc (Zc (Zg Wh (Za 1) (Zb (.int 0))) (Zj))))) (Ta "NoText") (Yl)) (Zm (U7 (Zu (Zg Aj (Zg Wh (Za 1) (Zb (.int 1))) (Zb (.str "")))) (Y3 (tupF (Zk (Zb (.str "point")) (Zk (Zg Wh (Za 1) (Zb (.int 0))) (Zk (Zb .non) (Zw)))))) (Yl)) (Zm (U7 (Ad (Zu (Yn 1 Rq (Zc (Zg Wh (Za 1) (Zb (.int 2))) (Zj))))) (Ta "NoText") (Yl)) (Y3 (tupF (Zk (Zb (.str "point")) (Zk (Zg Wh (Za 1) (Zb (.int 0))) (Zk (Zg Wh (Za 1) (Zb (.int 2))) (Zw)))))))))
def Q7:List D->Option XO:=Ze0 B2 2
def Yy:FS:=
 U7 (Zu (Zg Aj (Zg Qw (Za 3) (Zb (.int 2))) (Zb (.int 1)))) (Zi8 2 (Dq 1 Q7 (Mk (Dp (Za 4)) (Ak)))) (U7 (Zu (Zg neY (Za 4) (Zb (.str "")))) (Ij 2 (Za 4)) (Yl))
def J3 : FS :=
  Zm (U7 (Ad (Zu (unF (Ae "str") (Za 0)))) (Ta "NoText") (Yl)) (Zm (Yd 1 (Yn 2 U0 (Zc (Za 0) (Zc (Zg Ue (Zb (.str "ABCDEFGHIJKLMNOPQRSTUVWXYZabcdefghijklmnopqrstuvwxyz0123456789 .,!?'-/()&+*=:;")) (Zb (.str "\n"))) (Zj))))) (Zm (U7 (Zu (Zg Za7 (Za 1) (Zb .non))) (Ta "NoText") (Yl)) (Zm (Yd 2 (Oq (Zw))) (Zm (O8 (Ls (Zk (Za 1) Zw)) (Jz 2 (Yo (Zi 3) (Yo (Zi 4) (Ug)))) Yy) (Y3 (Za 2))))))
def Wi:List D->Option XO:=Ze0 J3 5
def O2:FS:=
 Y3 (Oq (Zw))
def Ua:FS:=
 Zm (Zja (Znw 1 (Dq 1 Wi (Mk (Dp (Zir "dict" A9 (Zg Wh (Za 0) (Zb (.int 1))) (Zk (Zb (.str "note")) (Zw)))) (Ak)))) [⟨aB,["NoText"],[],O2⟩]) (Y3 (Yn 1 Q6 (Zc (Za 1) (Zj))))
def W6:List D->Option SV:=W3 Ua 2
def Ub:FS:=
 Td 2 (Za 5) (Za 1)
def To:FS:=
 Zm (Yd 4 (Zg Wh (Za 0) (Za 1))) (Zm (O8 (Wr (Yn 1 W6 (Zc (Za 4) (Zj)))) (Zi 5) Ub) (U7 (Zu (Zg Py (Zb (.str "in")) (Zg Wh (Za 4) (Zb (.int 1))))) (Sf 3 (Zg Wh (Zg Wh (Za 4) (Zb (.int 1))) (Zb (.str "in"))) 1) (Yl)))
def Jk:VG:=Zjw To 6
def Q8:FS:=
 Zm (U7 (Zu (Zg Py (Za 0) (Za 1))) (Y3 (tupF (Zk (Zb (.str "note")) (Zk (Zg Wh (Za 1) (Za 0)) (Zw))))) (Yl)) (Zm (Yd 4 (Zir "dict" A9 (Za 2) (Zk (Za 0) (Zk (Oq (Zw)) (Zw))))) (Zm (U7 (Zu (Zg geD (Yg Ut (Zc (Za 4) Zj)) (Za 3))) (Y3 (tupF (Zk (Zb (.str "parts")) (Zk (Yg A4 (Zc (slF slD (Za 4) (Bo) (Cd (Za 3))) Zj)) (Zw))))) (Yl)) (Y3 (Zb .non))))
def Wv:List D->Option SV:=W3 Q8 5
def B3:FT:=
 Zu (Zg Py (Za 0) (Za 1))
def B4:FE:=
 tupF (Zk (Za 0) (Zk (Zb (.int 0)) (Zk (tupF (Zk (Zb (.str "text")) (Zw))) (Zw))))
def U1:FS:=
 Te 4 5 2 Jk (Zk (Za 0) (Zk (Zg Wh (Za 8) (Zb (.int 0))) (Zw)))
def Qq:FE:=
 Zg Wh (Za 0) (Zb (.int 0))
def Qr:FT:=
 Zu (Zg Rk (Za 0) (Za 4))
def Qs:FE:=
 tupF (Zk (Za 0) (Zk (Yn 4 Wv (Zc (Za 0) (Zc (Za 1) (Zc (Za 2) (Zc (Za 3) (Zj)))))) (Zw)))
def U2:FT:=
 Zu (Zg A3 (Za 1) (Zb .non))
def U3:FE:=
 tupF (Zk (Za 0) (Zk (Za 2) (Zk (Za 1) (Zw))))
def Jl:FT:=
 Zu (Zg gtD (Yg Ut (Zc (Za 6) Zj)) (Zb (.int 0)))
def Qv:FS:=
 Zm (Kj 3 (Za 6)) (Zm (O8 (Wr (Za 6)) (Zi 8) U1) (Zm (Zbk 7 1) (Zm (Yd 9 (Ol (Yv [.own,.acc] 1 (Wr (Za 3)) (Zi 0) (Y9) Qq))) (Zm (Yd 10 (Ol (Yv [.own,.cap 4,.cap 5,.cap 2,.cap 9,.acc] 5 (Wr (Yg Ou (Zc (Za 0) Zj))) (Zi 0) (Qr) Qs))) (Yd 6 (Yv [.own,.own,.cap 7,.acc] 3 (Wr (Za 10)) (Jz 2 (Yo (Zi 0) (Yo (Zi 1) (Ug)))) (U2) U3))))))
def Eu:FS:=
 Zm (Yd 3 (Oq (Zw))) (Zm (Yd 4 (Ka)) (Zm (Yd 5 (Zes)) (Zm (Yd 6 (Yv [.own,.cap 0,.acc] 2 (Wr (Yn 1 J2 (Zc (Za 1) (Zj)))) (Zi 0) (B3) B4)) (Zm (Yd 7 (Zb (.int 0))) (Zm (Ji Jl Qv Zon) (Y3 (Za 3)))))))
def U4:List D->Option SV:=W3 Eu 11
def Jt:FS:=
 U7 (Vq (Zu (Zg Py (Za 3) (Za 0))) (Zu (Zg Th (tupF (Zk (Za 3) (Zk (Zb (.int 0)) (Zk (tupF (Zk (Zb (.str "text")) (Zw))) (Zw))))) (Za 2)))) (Ij 2 (tupF (Zk (Za 3) (Zk (Zb (.int 0)) (Zk (tupF (Zk (Zb (.str "text")) (Zw))) (Zw)))))) (Yl)
def C7:FS:=
 Zm (Yd 2 (Oq (Zw))) (Zm (O8 (Wr (Za 1)) (Zi 3) Jt) (Y3 (Za 2)))
def W7:List D->Option SV:=W3 C7 4
def Wn:FS:=
 U7 (Zu (Zg Py (Za 3) (Zg Wh (Za 1) (Za 5)))) (Y3 (tupF (Zk (Zb (.str "note")) (Zk (Za 5) (Zw))))) (Yl)
def W8:FS:=
 U7 (Vq (Zu (Zg Py (Zb (.str "in")) (Zg Wh (Zg Wh (Za 0) (Za 5)) (Zb (.int 1))))) (Zu (Zg Aj (Zg Wh (Zg Wh (Zg Wh (Za 0) (Za 5)) (Zb (.int 1))) (Zb (.str "in"))) (Za 3)))) (Ij 6 (Za 5)) (Yl)
def Q9:FS:=
 Zm (O8 (Wr (Za 2)) (Zi 5) Wn) (Zm (Yd 6 (Oq (Zw))) (Zm (O8 (Wr (Za 2)) (Zi 5) W8) (Zm (U7 (Zu (Zg geD (Yg Ut (Zc (Za 6) Zj)) (Za 4))) (Y3 (tupF (Zk (Zb (.str "parts")) (Zk (Yg A4 (Zc (slF slD (Za 6) (Bo) (Cd (Za 4))) Zj)) (Zw))))) (Yl)) (Y3 (Zb .non)))))
def Z2:List D->Option SV:=W3 Q9 7
def Qj:FT:=
 Zu (Zg ltD (Zg Wh (Za 0) (Zb (.int 1))) (Za 1))
def Qk:FE:=
 Zg Wh (Za 0) (Zb (.int 0))
def Ql:FT:=
 Zu (Zg ltD (Zg Wh (Za 0) (Zb (.int 1))) (Zg Zdt (Za 1) (Zb (.int 1))))
def Qm:FE:=
 Zg Wh (Za 0) (Zb (.int 0))
def Uc:FS:=
 Zm (Ge (Jz 3 (Yo (Zi 5) (Yo (Zi 6) (Yo (Zi 7) (Ug))))) (Zg Wh (Za 2) (Za 4))) (Zm (Yd 8 (Yv [.own,.cap 6,.acc] 2 (Wr (Za 2)) (Zi 0) (Qj) Qk)) (Zm (Yd 9 (Yv [.own,.cap 6,.acc] 2 (Wr (Za 2)) (Zi 0) (Ql) Qm)) (Zm (U7 (Hs (Zu (Zg Py (Za 5) (Za 8))) (Hs (Zu (Zg neY (Za 7) (Yn 5 Z2 (Zc (Za 0) (Zc (Za 1) (Zc (Za 8) (Zc (Za 5) (Zc (Za 3) (Zj))))))))) (Zu (Zg Za7 (Za 7) (Zb .non))))) (Y3 (Zb (.bl aD))) (Yl)) (Zm (U7 (Vq (Zu (Zg gtD (Za 6) (Zb (.int 1)))) (Zu (Zg A3 (Yn 5 Z2 (Zc (Za 0) (Zc (Za 1) (Zc (Za 9) (Zc (Za 5) (Zc (Za 3) (Zj))))))) (Zb .non)))) (Y3 (Zb (.bl aD))) (Yl)) (Zm (Yd 10 (Zg Wh (Za 2) (Zg Zdt (Za 4) (Zb (.int 1))))) (Zm (U7 (Zu (Zg Aj (Za 6) (Zg Wh (Za 10) (Zb (.int 1))))) (Y3 (Zg ltS (Zg Wh (Za 10) (Zb (.int 0))) (Za 5))) (Yl)) (Y3 (Zg Aj (Za 6) (Zg Ue (Zg Wh (Za 10) (Zb (.int 1))) (Zb (.int 1)))))))))))
def W9:List D->Option SV:=W3 Uc 11
def B5:FS:=
 Zm (U7 (Hs (Ad (Zu (unF (Ae "tuple") (Za 0)))) (Hs (Zu (Zg neY (Yg Ut (Zc (Za 0) Zj)) (Zb (.int 3)))) (Ad (Zu (unF (Ae "tuple") (Zg Wh (Za 0) (Zb (.int 2)))))))) (Y3 (Zb (.bl aD))) (Yl)) (Y3 (Zhx (unF (Ae "int") (Zg Wh (Za 0) (Zb (.int 1)))) (Zm4 (unF (Ae "bool") (Zg Wh (Za 0) (Zb (.int 1)))))))
def Ja:List D->Option SV:=W3 B5 1
def Gj:FE:=
 Zg Wh (Za 1) (Zg Qw (Za 0) (Yg Ut (Zc (Za 1) Zj)))
def Gk:FE:=
 Yn 1 Ja (Zc (Za 0) (Zj))
def Gm:FE:=
 Zg Rk (Zg Wh (Za 0) (Zb (.int 0))) (Za 1)
def Gn:FS:=
 U7 (Ad (Zu (Yn 5 W9 (Zc (Za 3) (Zc (Za 4) (Zc (Za 9) (Zc (Za 7) (Zc (Za 11) (Zj))))))))) (Y3 (Zb (.bl aD))) (Yl)
def Go:FE:=
 Zg Wh (Za 0) (Zb (.int 0))
def Mr:FS:=
 U7 (Vq (Zu (Zg Rk (Za 13) (Za 12))) (Zu (Zg A3 (Yn 5 Z2 (Zc (Za 3) (Zc (Za 4) (Zc (Za 12) (Zc (Za 13) (Zc (Za 7) (Zj))))))) (Zb .non)))) (Y3 (Zb (.bl aD))) (Yl)
def Sw:FS:=
 Zm (Yd 1 (slF slD (Za 0) (Cd (Zb (.int 3))) (Cd (Zb (.int 15))))) (Zm (Yd 2 (Yn 2 Qp (Zc (Yn 2 Z9 (Zc (Za 0) (Zc (Zb (.int 0)) (Zj)))) (Zc (Zg Ue (Yg Ut (Zc (Za 1) Zj)) (Zb (.int 2))) (Zj))))) (Zm (Ge (Jz 2 (Yo (Zi 3) (Yo (Zi 4) (Ug)))) (Yn 2 Wc (Zc (Za 2) (Zc (Za 1) (Zj))))) (Zm (Yd 5 (Yn 2 Z9 (Zc (Za 0) (Zc (Zb (.int 1)) (Zj))))) (Zm (Yd 6 (Yv [.own,.cap 2,.acc] 2 (Wr (Yn 2 Z6 (Zc (Za 5) (Zc (Zg Qw (Za 5) (Zb (.int 5))) (Zj))))) (Zi 0) (Y9) Gj)) (Zm (Yd 7 (Zg Ue (Zb (.int 1)) (Zg Qw (Yn 2 Z9 (Zc (Za 0) (Zc (Zb (.int 2)) (Zj)))) (Zb (.int 4))))) (Zm (Yd 8 (Oq (Zk (Yg Pv (Zc (Za 3) Zj)) (Zk (Yg Pe (Zc (Za 6) Zj)) (Zw))))) (Zm (Yd 9 (Yn 3 U4 (Zc (Zg Wh (Za 8) (Zb (.int 0))) (Zc (Zg Wh (Za 8) (Zb (.int 1))) (Zc (Za 7) (Zj)))))) (Zm (U7 (Hs (Ad (Zu (unF (Ae "list") (Za 9)))) (Hs (Zu (Zg neY (Za 8) (Oq (Zk (Za 3) (Zk (Za 6) (Zw)))))) (Kf (Zu (Zg Py (Zb (.bl aD)) (Yv [.own,.acc] 1 (Wr (Za 9)) (Zi 0) (Y9) Gk)))))) (Y3 (Zb (.bl aD))) (Yl)) (Zm (U7 (Zu (Zg neY (Za 3) (Zg Wh (Yn 2 Wc (Zc (Za 2) (Zc (Za 1) (Zj)))) (Zb (.int 0))))) (Y3 (Zb (.bl aD))) (Yl)) (Zm (Yd 10 (Yn 2 W7 (Zc (Za 3) (Zc (Za 6) (Zj))))) (Zm (U7 (Hs (Zu (Zg neY (slF slD (Za 9) (Bo) (Cd (Yg Ut (Zc (Za 10) Zj)))) (Za 10))) (Kf (Zu (Zg Py (Zb (.bl aC)) (Yv [.own,.cap 3,.acc] 2 (Wr (Za 9)) (Zi 0) (Y9) Gm))))) (Y3 (Zb (.bl aD))) (Yl)) (Zm (U7 (Zu (Zg Aj (Yg Ut (Zc (Za 10) Zj)) (Zb (.int 0)))) (Y3 (Zg Aj (Za 9) (Oq (Zw)))) (Yl)) (Zm (O8 (Dy (Zc (Yg Ut (Zc (Za 10) Zj)) (Zc (Yg Ut (Zc (Za 9) Zj)) Zj))) (Zi 11) Gn) (Zm (Yd 12 (Yv [.own,.acc] 1 (Wr (Za 9)) (Zi 0) (Y9) Go)) (Zm (O8 (Zjj (Za 3)) (Zi 13) Mr) (Y3 (Zb (.bl aC))))))))))))))))))
def T5:List D->Option SV:=W3 Sw 14
end Gen
namespace Gen
open PySem PySem.Spec PyProof.Rows L2 DL
structure Txt (K : ad) (mg : Str -> Option ag) (tx0 : Tok) (tx1 : Tok) (tx2 : Tok) (tx3 : Tok) (tx4 : Tok) (fx0 fx1 fx2 fx3 fx4 fx5 fx6 fx7 fx8 fx9 fx10 fx11 fx12 fx13 fx14 fx15 fx16 fx17 fx18 fx19 fx20 fx21 aNoText : ak) : Prop where
  x_NoText : mg "NoText" = aA (.ref aNoText)
  n_NoText : Uq K "NoText" aNoText
  ty_NoText : PySem.W.typeIn K (.ref aNoText) = aA (.type "type")
  ic_NoText : PySem.W.isClsIn K aNoText = aC
  be_NoText : eg K aNoText (.type "BaseException") = aA aC
  h_NoText_NoText : eg K aNoText (.ref aNoText) = aA aC
  z_all : mg "all" = aB
  z_bool : mg "bool" = aB
  z_dict : mg "dict" = aB
  z_enumerate : mg "enumerate" = aB
  z_int : mg "int" = aB
  z_isinstance : mg "isinstance" = aB
  z_len : mg "len" = aB
  z_list : mg "list" = aB
  z_range : mg "range" = aB
  z_sorted : mg "sorted" = aB
  z_str : mg "str" = aB
  z_tuple : mg "tuple" = aB
  c_NAME_LENGTH : mg "NAME_LENGTH" = aA (.int 8 tx0)
  c_PLAIN_LENGTH : mg "PLAIN_LENGTH" = aA (.int 80 tx1)
  c_PLAIN_SIGNS : mg "PLAIN_SIGNS" = aA (.str "ABCDEFGHIJKLMNOPQRSTUVWXYZabcdefghijklmnopqrstuvwxyz0123456789 .,!?'-/()&+*=" tx2)
  c_SMALL_LETTERS : mg "SMALL_LETTERS" = aA (.str "abcdefghijklmnopqrstuvwxyz" tx3)
  c_STYLE_SIGNS : mg "STYLE_SIGNS" = aA (.str "ABCDEFGHIJKLMNOPQRSTUVWXYZabcdefghijklmnopqrstuvwxyz0123456789 .,!?'-/()&+*=:;" tx4)
  m_0 : mg "_law_numbers" = aA (.ref fx0)
  k_0 : bc K (.ref fx0) = aC
  m_1 : mg "_law_keys" = aA (.ref fx1)
  k_1 : bc K (.ref fx1) = aC
  m_2 : mg "_law_shelf" = aA (.ref fx2)
  k_2 : bc K (.ref fx2) = aC
  m_3 : mg "_law_cell_at" = aA (.ref fx3)
  k_3 : bc K (.ref fx3) = aC
  m_4 : mg "each_once" = aA (.ref fx4)
  k_4 : bc K (.ref fx4) = aC
  m_5 : mg "point_keys" = aA (.ref fx5)
  k_5 : bc K (.ref fx5) = aC
  m_6 : mg "is_all_of" = aA (.ref fx6)
  k_6 : bc K (.ref fx6) = aC
  m_7 : mg "angled" = aA (.ref fx7)
  k_7 : bc K (.ref fx7) = aC
  m_8 : mg "is_text_of" = aA (.ref fx8)
  k_8 : bc K (.ref fx8) = aC
  m_9 : mg "is_name" = aA (.ref fx9)
  k_9 : bc K (.ref fx9) = aC
  m_10 : mg "is_plain" = aA (.ref fx10)
  k_10 : bc K (.ref fx10) = aC
  m_11 : mg "read_point" = aA (.ref fx11)
  k_11 : bc K (.ref fx11) = aC
  m_12 : mg "read_text" = aA (.ref fx12)
  k_12 : bc K (.ref fx12) = aC
  m_13 : mg "note_keys" = aA (.ref fx13)
  k_13 : bc K (.ref fx13) = aC
  m_14 : mg "take_in" = aA (.ref fx14)
  k_14 : bc K (.ref fx14) = aC
  m_15 : mg "reason_for" = aA (.ref fx15)
  k_15 : bc K (.ref fx15) = aC
  m_16 : mg "listed" = aA (.ref fx16)
  k_16 : bc K (.ref fx16) = aC
  m_17 : mg "_law_first" = aA (.ref fx17)
  k_17 : bc K (.ref fx17) = aC
  m_18 : mg "_law_reason" = aA (.ref fx18)
  k_18 : bc K (.ref fx18) = aC
  m_19 : mg "_law_right" = aA (.ref fx19)
  k_19 : bc K (.ref fx19) = aC
  m_20 : mg "_law_is_row" = aA (.ref fx20)
  k_20 : bc K (.ref fx20) = aC
  m_21 : mg "law" = aA (.ref fx21)
  k_21 : bc K (.ref fx21) = aC
section
variable{P:b5}{w:cw}{K:ad}{mg:Str->Option ag}{base:du}{tx0:Tok}{tx1:Tok}{tx2:Tok}{tx3:Tok}{tx4:Tok}{fx0 fx1 fx2 fx3 fx4 fx5 fx6 fx7 fx8 fx9 fx10 fx11 fx12 fx13 fx14 fx15 fx16 fx17 fx18 fx19 fx20 fx21 aNoText:ak}
theorem Y2:FnScope ["_law_cell","_law_many","_law_found","_law_number","_law_k"] ["_law_cell","_law_many"] (Zp Uy):=⟨rfl,rfl,rfl,by decide+kernel,rfl,by decide+kernel,by decide+kernel⟩
theorem Wd:FnScope ["_law_cell","_law_many","_law_letters","_law_some","_law_size","_law_at","_law_keys_here","_law_turn","_law_key","_law_k"] ["_law_cell","_law_many"] (Zp C1):=⟨rfl,rfl,rfl,by decide+kernel,rfl,by decide+kernel,by decide+kernel⟩
theorem Ww:FnScope ["_law_keys_here","_law_cells","_law_shelf_here","_law_notes","_law_k","_law_cell","_law_some","_law_fields"] ["_law_keys_here","_law_cells"] (Zp Br):=⟨rfl,rfl,rfl,by decide+kernel,rfl,by decide+kernel,by decide+kernel⟩
theorem Ev:FnScope ["_law_script","_law_k"] ["_law_script","_law_k"] (Zp Uz):=⟨rfl,rfl,rfl,by decide+kernel,rfl,by decide+kernel,by decide+kernel⟩
theorem B6:FnScope ["things","found","thing"] ["things"] (Zp Bt):=⟨rfl,rfl,rfl,by decide+kernel,rfl,by decide+kernel,by decide+kernel⟩
theorem Io:FnScope ["parts"] ["parts"] (Zp Ov):=⟨rfl,rfl,rfl,by decide+kernel,rfl,by decide+kernel,by decide+kernel⟩
theorem L6:FnScope ["text","signs"] ["text","signs"] (Zp Bu):=⟨rfl,rfl,rfl,by decide+kernel,rfl,by decide+kernel,by decide+kernel⟩
theorem Be:FnScope ["text","signs","runs","cuts","run","halves"] ["text","signs"] (Zp Tk):=⟨rfl,rfl,rfl,by decide+kernel,rfl,by decide+kernel,by decide+kernel⟩
theorem Ip:FnScope ["value","signs","most"] ["value","signs","most"] (Zp Ow):=⟨rfl,rfl,rfl,by decide+kernel,rfl,by decide+kernel,by decide+kernel⟩
theorem Xp:FnScope ["value"] ["value"] (Zp Rm):=⟨rfl,rfl,rfl,by decide+kernel,rfl,by decide+kernel,by decide+kernel⟩
theorem Sx:FnScope ["value"] ["value"] (Zp C3):=⟨rfl,rfl,rfl,by decide+kernel,rfl,by decide+kernel,by decide+kernel⟩
theorem G4:FnScope ["text","halves"] ["text"] (Zp Ox):=⟨rfl,rfl,rfl,by decide+kernel,rfl,by decide+kernel,by decide+kernel⟩
theorem Jb:FnScope ["text","cuts","parts","place","cut"] ["text"] (Zp Bv):=⟨rfl,rfl,rfl,by decide+kernel,rfl,by decide+kernel,by decide+kernel⟩
theorem Ms:FnScope ["work","parts"] ["work"] (Zp Bw):=⟨rfl,rfl,rfl,by decide+kernel,rfl,by decide+kernel,by decide+kernel⟩
theorem Rr:FnScope ["shelf","key","noted","parts","work","other"] ["shelf","key","noted","parts"] (Zp Ro):=⟨rfl,rfl,rfl,by decide+kernel,rfl,by decide+kernel,by decide+kernel⟩
theorem G5:FnScope ["key","noted","parts","many","held"] ["key","noted","parts","many"] (Zp Oy):=⟨rfl,rfl,rfl,by decide+kernel,rfl,by decide+kernel,by decide+kernel⟩
theorem Wo:FnScope ["shelf","keys","many","found","noted","parts","fresh","number","triple","known","reasons"] ["shelf","keys","many"] (Zp Tl):=⟨rfl,rfl,rfl,by decide+kernel,rfl,by decide+kernel,by decide+kernel⟩
theorem B7:FnScope ["_law_shelf_here","_law_pointed","_law_due","_law_key"] ["_law_shelf_here","_law_pointed"] (Zp Bx):=⟨rfl,rfl,rfl,by decide+kernel,rfl,by decide+kernel,by decide+kernel⟩
theorem Ju:FnScope ["_law_shelf_here","_law_notes","_law_ahead","_law_key","_law_many","_law_other","_law_parts"] ["_law_shelf_here","_law_notes","_law_ahead","_law_key","_law_many"] (Zp Oz):=⟨rfl,rfl,rfl,by decide+kernel,rfl,by decide+kernel,by decide+kernel⟩
theorem Wx:FnScope ["_law_shelf_here","_law_notes","_law_told","_law_many","_law_at","_law_key","_law_turn","_law_why","_law_before","_law_elder","_law_last"] ["_law_shelf_here","_law_notes","_law_told","_law_many","_law_at"] (Zp By):=⟨rfl,rfl,rfl,by decide+kernel,rfl,by decide+kernel,by decide+kernel⟩
theorem Iq:FnScope ["_law_one"] ["_law_one"] (Zp O0):=⟨rfl,rfl,rfl,by decide+kernel,rfl,by decide+kernel,by decide+kernel⟩
theorem Jc:FnScope ["_law_script","_law_cells","_law_keys_here","_law_shelf_here","_law_notes","_law_cell","_law_pointed","_law_many","_law_handed","_law_told","_law_first_here","_law_at","_law_every","_law_key"] ["_law_script"] (Zp Bz):=⟨rfl,rfl,rfl,by decide+kernel,rfl,by decide+kernel,by decide+kernel⟩
theorem L7{x qual:Str}{st:Stmt}{f:ak}{fd:bx}{N ps:List Str}{k n:Nat}(F:Fun K x qual st f fd)(S:FnScope N ps (Zp st))(hn:n=ps.length)(f0:FS)(hb:∀(cdv:ag) (A:c8) (outer:List Env) (s:ap) (H F0:Hp) (E:XK),Room k (A.deeper (envOfC qual (Zp st) s.heap.objs.size f cdv))->(A.deeper (envOfC qual (Zp st) s.heap.objs.size f cdv)).units+1<fq->(A.deeper (envOfC qual (Zp st) s.heap.objs.size f cdv)).units+64<fq->Gp (Gq Jf P w K mg base N qual (Zp st) f cdv A outer s H E).nox (Qx st) (Zx (ent H F0:Ent K) f0)):FnOk P w K mg base Jf (k+1) f fd ps (Y6 K n (W3 f0 N.length)):=
 F.ok S (λ_ _ _ _ h=>(Zdq h).trans hn) λcdv A outer s H vs Q E hr h=>by obtain⟨F0,h⟩:=Zd1 (N:=N) (f:=f0) h;exact⟨_,hb cdv A outer s H F0 E hr (Zdd hr) hr.units,h⟩
theorem Zsm{x qual:Str}{st:Stmt}{f:ak}{fd:bx}{N ps:List Str}{k n:Nat}(F:Fun K x qual st f fd)(S:FnScope N ps (Zp st))(hn:n=ps.length)(f0:FS)(hb:∀(cdv:ag) (A:c8) (outer:List Env) (s:ap) (H F0:Hp) (E:XK),Room k (A.deeper (envOfC qual (Zp st) s.heap.objs.size f cdv))->(A.deeper (envOfC qual (Zp st) s.heap.objs.size f cdv)).units+1<fq->(A.deeper (envOfC qual (Zp st) s.heap.objs.size f cdv)).units+64<fq->Gp (Gq (Nk P w) P w K mg base N qual (Zp st) f cdv A outer s H E) (Qx st) (Zx (entX H F0 E:Ent K) f0)):FnOk P w K mg base (Nk P w) (k+1) f fd ps (spX K n (Ze0 f0 N.length)):=
 Fun.okX F S (λ_ _ _ _ h=>(Zi6 h).trans hn) λcdv A outer s H vs Q E hr h=>by obtain⟨F0,h⟩:=Zbg (N:=N) (f:=f0) h;exact⟨_,hb cdv A outer s H F0 E hr (Zdd hr) hr.units,h⟩
theorem Zun{x qual:Str}{st:Stmt}{f:ak}{fd:bx}{N ps:List Str}{k n:Nat}(F:Fun K x qual st f fd)(S:FnScope N ps (Zp st))(hn:n+2=ps.length)(f0:FS)(hb:∀(cdv:ag) (A:c8) (outer:List Env) (s:ap) (H G0 F0:Hp) (E:XK),Room k (A.deeper (envOfC qual (Zp st) s.heap.objs.size f cdv))->(A.deeper (envOfC qual (Zp st) s.heap.objs.size f cdv)).units+1<fq->(A.deeper (envOfC qual (Zp st) s.heap.objs.size f cdv)).units+64<fq->Gp (Gq Jf P w K mg base N qual (Zp st) f cdv A outer s H E).nox (Qx st) (Zx (ent G0 F0:Ent K) f0))(hN:n+2<=N.length:=by decide):FnOk P w K mg base Jf (k+1) f fd ps (spV K n (Zjw f0 N.length)):=
 F.ok S (λ_ _ _ _ h=>(Zjv h).trans hn) λcdv A outer s H vs Q E hr h=>by obtain⟨G0,F0,h⟩:=Zbr (N:=N) (f:=f0) hN h;exact⟨_,hb cdv A outer s H G0 F0 E hr (Zdd hr) hr.units,h⟩
variable(T:Txt K mg tx0 tx1 tx2 tx3 tx4 fx0 fx1 fx2 fx3 fx4 fx5 fx6 fx7 fx8 fx9 fx10 fx11 fx12 fx13 fx14 fx15 fx16 fx17 fx18 fx19 fx20 fx21 aNoText)
include T
theorem Ew{fd:bx}(F:Fun K "_law_numbers" "_law_numbers" Uy fx0 fd):
  FnOk P w K mg base Jf 1 fx0 fd ["_law_cell","_law_many"] (Y6 K 2 Z6):=by
 refine L7 F Y2 rfl Jo λ_ _ _ _ _ _ _ hr hu hv=>?_;exact(Zh (Yt 2 Y2.nd (Og Y4)) (Zh (Yt 3 Y2.nd (Vx (Zd 0) Zq)) (Zh (Qh (G3 hv (Q0 (Zd 0) Zq) Zq) (Zh (Uv dl rfl (Ph T.z_range (Zd 1)) (Yb 4 Y2.nd) (Zh (Fu 2 (Q0 (Zd 3) Zq)) (Zr (Yt 3 Y2.nd (Vx (Zd 3) Zq))))) (Zr (Yq (Zd 2)))) Yp) (Zh (Yt 3 Y2.nd (Q0 (Zd 3) Zq)) (Zh (Uv dl rfl (Ph T.z_range (Zd 1)) (Yb 4 Y2.nd) (Zh (Yt 3 Y2.nd (Q0 (L0 (Uu (Uu (Zd 3) (Zd 4)) Zq) Zq) Zq)) (Zr (Fu 2 (Q0 (L0 (Zd 3) Zq) Zq))))) (Zr (Yq (Zd 2))))))))
theorem Sy{fd:bx}(F:Fun K "_law_keys" "_law_keys" C1 fx1 fd){dx0:bx}(Vx0:FnOk P w K mg base Jf 1 fx0 dx0 ["_law_cell","_law_many"] (Y6 K 2 Z6))(Wx0:Yz K dx0 ["_law_cell","_law_many"] []):
  FnOk P w K mg base Jf 2 fx1 fd ["_law_cell","_law_many"] (Y6 K 2 Qp):=by
 refine L7 F Wd rfl Rp λ_ _ _ _ _ _ _ hr hu hv=>?_;exact(Zh (Yt 2 Wd.nd Y1) (Zh (Yt 3 Wd.nd (Yx Vx0 (hr.mono (by decide)) T.m_0 T.k_0 Wx0 (Zn (Zd 0) (Zn Zq Ys)))) (Zh (Yt 4 Wd.nd (Uu Zq (Q0 (Z0 hu (Zd 3) Zq) Zq))) (Zh (Yt 5 Wd.nd (Q0 (Z0 hu (Zd 3) Zq) (Zd 4))) (Zh (Yt 6 Wd.nd (Og Y4)) (Zh (Uv dl rfl (Ph T.z_range (Zd 1)) (Yb 7 Wd.nd) (Zh (Yt 8 Wd.nd Y1) (Zh (Uv dl rfl (Ph T.z_range (Zd 4)) (Yb 9 Wd.nd) (Zr (Yt 8 Wd.nd (Uu (Zd 8) (Z0 hu (Zd 2) (Q0 (Uu (Z0 hu (Zd 3) (Zd 9)) (L0 (L0 Zq (Zd 7)) (Znn T.z_int (Zer hv (Zd 9) (Zd 5))))) Zq)))))) (Zr (Fu 6 (Zd 8)))))) (Zr (Yq (Zd 6)))))))))
theorem L8{fd:bx}(F:Fun K "_law_shelf" "_law_shelf" Br fx2 fd){dx0:bx}(Vx0:FnOk P w K mg base Jf 1 fx0 dx0 ["_law_cell","_law_many"] (Y6 K 2 Z6))(Wx0:Yz K dx0 ["_law_cell","_law_many"] []):
  FnOk P w K mg base Jf 2 fx2 fd ["_law_keys_here","_law_cells"] (Y6 K 2 Wc):=by
 refine L7 F Ww rfl C4 λ_ _ _ _ _ _ _ hr hu hv=>?_;exact(Zh (Yt 2 Ww.nd Ai) (Zh (Yt 3 Ww.nd Ai) (Zh (Uv dl rfl (Dc T.z_enumerate (Z1 (Zd 1) Y4)) (Pg rfl (Q3 (Yb 4 Ww.nd) (Q3 (Yb 5 Ww.nd) A5))) (Zh (Yt 6 Ww.nd (Yx Vx0 (hr.mono (by decide)) T.m_0 T.k_0 Wx0 (Zn (Zd 5) (Zn Zq Ys)))) (Zh (Yt 7 Ww.nd (Zje (Zjd Y1 Zn1) (show(["title"]:List Str).Nodup by decide+kernel))) (Zh (T3 3 hu (Z0 hu (Zd 0) (Zd 4)) (Og Y4)) (Zh (Qh (Znl (Q0 (Z0 hu (Zd 6) Zq) Zq) Zq) (Zh (T3 3 hu (Z0 hu (Zd 0) (Zd 4)) (Ri rfl (Y5 (N':=["_law_j","_law_keys_here","_law_some",".acc"]) (src:=[.own,.cap 0,.cap 6,.acc]) (by rfl) (by rfl) (by rfl) (by rfl) (by rfl) (by rfl)) (Oi 3 (by rfl) (by rfl)) (by decide) (Ph T.z_range (Uu Zq (Q0 (Vx (Z0 hu (Zd 6) Zq) Zq) Zq))) (λ_ _ _ _=>xg λ_=>(Yb 0 (show(["_law_j","_law_keys_here","_law_some",".acc"]:List Str).Nodup by decide+kernel))) (λ_ _ _ _=>xt0) (λ_ _ _ _=>xe λ_=>(Z0 hu (Zd 1) (Q0 (Z0 hu (Zd 2) (Uu Zq (Zd 0))) (Oh T.z_len (Zd 1))))))) (Zr (T3 7 hu Y1 (Uu Y1 (Dd Y1 (Ri rfl (Y5 (N':=["_law_key",".acc"]) (src:=[.own,.acc]) (by rfl) (by rfl) (by rfl) (by rfl) (by rfl) (by rfl)) (Oi 1 (by rfl) (by rfl)) (by decide) (Qu (Z0 hu (Zd 3) (Z0 hu (Zd 0) (Zd 4)))) (λ_ _ _ _=>xg λ_=>(Yb 0 (show(["_law_key",".acc"]:List Str).Nodup by decide+kernel))) (λ_ _ _ _=>xt0) (λ_ _ _ _=>xe λ_=>(Uu (Uu Y1 (Zd 0)) Y1)))))))) Yp) (Zh (Qh (G3 hv (Q0 (Z0 hu (Zd 6) Zq) Zq) Zq) (Zr (T3 7 hu Y1 (Uu Y1 (Z0 hu (Zd 0) Zq)))) Yp) (Zh (Qh (G3 hv (Q0 (Z0 hu (Zd 6) Zq) Zq) Zq) (Zh (T3 7 hu Y1 (Z0 hu (Zd 0) (Q0 (Z0 hu (Zd 6) Zq) (Oh T.z_len (Zd 0))))) (Zr (Qh (G3 hv (Q0 (Z0 hu (Zd 6) Zq) Zq) Zq) (Zr (T3 7 hu Y1 (Z0 hu (Zd 0) Zq))) Yp))) Yp) (Zr (T3 2 hu (Z0 hu (Zd 0) (Zd 4)) (Uh (Z1 Y1 (Z1 (Zd 7) Y4)))))))))))) (Zr (Yq (Uh (Z1 (Zd 2) (Z1 (Zd 3) Y4))))))))
theorem Ex{fd:bx}(F:Fun K "_law_cell_at" "_law_cell_at" Uz fx3 fd):
  FnOk P w K mg base Jf 1 fx3 fd ["_law_script","_law_k"] (Y6 K 2 Z9):=by
 refine L7 F Ev rfl Jr λ_ _ _ _ _ _ _ hr hu hv=>?_;exact(Zh (Qh (Znk (Zd 1) (Oh T.z_len (Zd 0))) (Zr (Yq (Z0 hu (Zd 0) (Zd 1)))) Yp) (Zr (Yq Zq)))
theorem L9{fd:bx}(F:Fun K "each_once" "each_once" Bt fx4 fd):
  FnOk P w K mg base Jf 1 fx4 fd ["things"] (Y6 K 1 J2):=by
 refine L7 F B6 rfl C5 λ_ _ _ _ _ _ _ hr hu hv=>?_;exact(Zh (Yt 1 B6.nd Ai) (Zh (Uv dl rfl (Qu (Zd 0)) (Yb 2 B6.nd) (Zr (T3 1 hu (Zd 2) M4))) (Zr (Yq (Zn6 rfl T.z_list (Zd 1))))))
theorem Ir{fd:bx}(F:Fun K "point_keys" "point_keys" Ov fx5 fd):
  FnOk P w K mg base Jf 1 fx5 fd ["parts"] (Y6 K 1 Q6):=by
 refine L7 F Io rfl B0 λ_ _ _ _ _ _ _ hr hu hv=>?_;exact(Zr (Yq (Ri rfl (Y5 (N':=["part",".acc"]) (src:=[.own,.acc]) (by rfl) (by rfl) (by rfl) (by rfl) (by rfl) (by rfl)) (Oi 1 (by rfl) (by rfl)) (by decide) (Qu (Zd 0)) (λ_ _ _ _=>xg λ_=>(Yb 0 (show(["part",".acc"]:List Str).Nodup by decide+kernel))) (λ_ _ _ _=>xt λ_=>(Mb (G1 (Tx T.z_isinstance T.z_str boot_str (Ln _) (Zd 0))))) (λ_ _ _ _=>xe λ_=>(Z0 hu (Zd 0) Zq)))))
theorem Na{fd:bx}(F:Fun K "is_all_of" "is_all_of" Bu fx6 fd):
  FnOk P w K mg base Jf 1 fx6 fd ["text","signs"] (Y6 K 2 W5):=by
 refine L7 F L6 rfl C6 λ_ _ _ _ _ _ _ hr hu hv=>?_;exact(Zr (Yq (Zrj T.z_all (Ri rfl (Y5 (N':=["sign","signs",".acc"]) (src:=[.own,.cap 1,.acc]) (by rfl) (by rfl) (by rfl) (by rfl) (by rfl) (by rfl)) (Oi 2 (by rfl) (by rfl)) (by decide) (Qu (Zd 0)) (λ_ _ _ _=>xg λ_=>(Yb 0 (show(["sign","signs",".acc"]:List Str).Nodup by decide+kernel))) (λ_ _ _ _=>xt0) (λ_ _ _ _=>xe λ_=>(Zru hu (Zd 0) (Zd 1)))))))
theorem Zby{fd:bx}(F:Fun K "angled" "angled" Tk fx7 fd){dx6:bx}(Vx6:FnOk P w K mg base Jf 1 fx6 dx6 ["text","signs"] (Y6 K 2 W5))(Wx6:Yz K dx6 ["text","signs"] []):
  FnOk P w K mg base Jf 2 fx7 fd ["text","signs"] (Y6 K 2 U0):=by
 refine L7 F Be rfl Mq λ_ _ _ _ _ _ _ hr hu hv=>?_;exact(Zh (Yt 2 Be.nd (Zil (Zd 0) Y1)) (Zh (Yt 3 Be.nd (Og (Z1 (Z0 hu (Zd 2) Zq) Y4))) (Zh (Uv dl rfl (Qu (Zdz (Zd 2) (Rh Zq) M5)) (Yb 4 Be.nd) (Zh (Yt 5 Be.nd (Tz (Zd 4) Y1)) (Zh (Qh (G3 hv (Z0 hu (Zd 5) Zq) Y1) (Zr (Yq Gy)) Yp) (Zr (Zrv 3 (Og (Z1 (Z0 hu (Zd 5) Zq) (Z1 (Z0 hu (Zd 5) Zq) Y4)))))))) (Zr (Yq (Zt8 (G1 (Yx Vx6 (hr.mono (by decide)) T.m_6 T.k_6 Wx6 (Zn (Dd Y1 (Zr4 (Zd 3) M5 M5 (Rh Zq))) (Zn (Zd 1) Ys)))) (Zd 3) Gy))))))
theorem Iu{fd:bx}(F:Fun K "is_text_of" "is_text_of" Ow fx8 fd){dx6:bx}(Vx6:FnOk P w K mg base Jf 1 fx6 dx6 ["text","signs"] (Y6 K 2 W5))(Wx6:Yz K dx6 ["text","signs"] []):
  FnOk P w K mg base Jf 2 fx8 fd ["value","signs","most"] (Y6 K 3 Wu):=by
 refine L7 F Ip rfl B1 λ_ _ _ _ _ _ _ hr hu hv=>?_;exact(Zh (Qh (Mb (G1 (Tx T.z_isinstance T.z_str boot_str (Ln _) (Zd 0)))) (Zr (Yq M4)) Yp) (Zr (Yq (Zla (Zie Zkn Zq5 Zkn Zq5 Zq (Oh T.z_len (Zd 0)) (Zd 2)) (Zk9 (Yx Vx6 (hr.mono (by decide)) T.m_6 T.k_6 Wx6 (Zn (Zd 0) (Zn (Zd 1) Ys))))))))
theorem Xq{fd:bx}(F:Fun K "is_name" "is_name" Rm fx9 fd){dx8:bx}(Vx8:FnOk P w K mg base Jf 2 fx8 dx8 ["value","signs","most"] (Y6 K 3 Wu))(Wx8:Yz K dx8 ["value","signs","most"] []):
  FnOk P w K mg base Jf 3 fx9 fd ["value"] (Y6 K 1 Bc):=by
 refine L7 F Xp rfl Tn λ_ _ _ _ _ _ _ hr hu hv=>?_;exact(Zr (Yq (Yx Vx8 (hr.mono (by decide)) T.m_8 T.k_8 Wx8 (Zn (Zd 0) (Zn (Lk T.c_SMALL_LETTERS) (Zn (Hv T.c_NAME_LENGTH) Ys))))))
theorem Sz{fd:bx}(F:Fun K "is_plain" "is_plain" C3 fx10 fd){dx8:bx}(Vx8:FnOk P w K mg base Jf 2 fx8 dx8 ["value","signs","most"] (Y6 K 3 Wu))(Wx8:Yz K dx8 ["value","signs","most"] []):
  FnOk P w K mg base Jf 3 fx10 fd ["value"] (Y6 K 1 Rq):=by
 refine L7 F Sx rfl Et λ_ _ _ _ _ _ _ hr hu hv=>?_;exact(Zr (Yq (Yx Vx8 (hr.mono (by decide)) T.m_8 T.k_8 Wx8 (Zn (Zd 0) (Zn (Lk T.c_PLAIN_SIGNS) (Zn (Hv T.c_PLAIN_LENGTH) Ys))))))
theorem Iv{fd:bx}(F:Fun K "read_point" "read_point" Ox fx11 fd)(O_NoText:OwnCls "NoText" aNoText VEB "ValueError.__new__" mg base){dx9:bx}(Vx9:FnOk P w K mg base Jf 3 fx9 dx9 ["value"] (Y6 K 1 Bc))(Wx9:Yz K dx9 ["value"] []){dx10:bx}(Vx10:FnOk P w K mg base Jf 3 fx10 dx10 ["value"] (Y6 K 1 Rq))(Wx10:Yz K dx10 ["value"] []):
  FnOk P w K mg base (Nk P w) 4 fx11 fd ["text"] (spX K 1 Q7):=by
 refine Zsm F G4 rfl B2 λ_ _ _ _ _ _ _ hr hu hv=>?_;exact(Zh (Yt 1 G4.nd (Tz (Zd 0) Y1)) (Zh (Qh (Mb (G1 (Yx Vx9 (hr.mono (by decide)) T.m_9 T.k_9 Wx9 (Zn (Z0 hu (Zd 1) Zq) Ys)))) (Zr (Al O5 rfl O_NoText T.n_NoText)) Yp) (Zh (Qh (G3 hv (Z0 hu (Zd 1) Zq) Y1) (Zr (Yq (Uh (Z1 Y1 (Z1 (Z0 hu (Zd 1) Zq) (Z1 Gy Y4)))))) Yp) (Zh (Qh (Mb (G1 (Yx Vx10 (hr.mono (by decide)) T.m_10 T.k_10 Wx10 (Zn (Z0 hu (Zd 1) Zq) Ys)))) (Zr (Al O5 rfl O_NoText T.n_NoText)) Yp) (Zr (Yq (Uh (Z1 Y1 (Z1 (Z0 hu (Zd 1) Zq) (Z1 (Z0 hu (Zd 1) Zq) Y4))))))))))
theorem Nb{fd:bx}(F:Fun K "read_text" "read_text" Bv fx12 fd)(O_NoText:OwnCls "NoText" aNoText VEB "ValueError.__new__" mg base){dx7:bx}(Vx7:FnOk P w K mg base Jf 2 fx7 dx7 ["text","signs"] (Y6 K 2 U0))(Wx7:Yz K dx7 ["text","signs"] []){dx11:bx}(Vx11:FnOk P w K mg base (Nk P w) 4 fx11 dx11 ["text"] (spX K 1 Q7))(Wx11:Yz K dx11 ["text"] []):
  FnOk P w K mg base (Nk P w) 5 fx12 fd ["text"] (spX K 1 Wi):=by
 refine Zsm F Jb rfl J3 λ_ _ _ _ _ _ _ hr hu hv=>?_;exact(Zh (Qh (Mb (G1 (Tx T.z_isinstance T.z_str boot_str (Ln _) (Zd 0)))) (Zr (Al O5 rfl O_NoText T.n_NoText)) Yp) (Zh (Yt 1 Jb.nd (Yx Vx7 (hr.mono (by decide)) T.m_7 T.k_7 Wx7 (Zn (Zd 0) (Zn (Uu (Lk T.c_STYLE_SIGNS) Y1) Ys)))) (Zh (Qh (Zk8 (Zd 1) Gy) (Zr (Al O5 rfl O_NoText T.n_NoText)) Yp) (Zh (Yt 2 Jb.nd (Og Y4)) (Zh (Uv PassesOwn.leaving rfl (Dc T.z_enumerate (Z1 (Zd 1) Y4)) (Pg rfl (Q3 (Yb 3 Jb.nd) (Q3 (Yb 4 Jb.nd) A5))) (Zr (Qh (G3 hv (Q0 (Zd 3) Zq) Zq) (Zr (Zn0 2 (Ze4 Vx11 (hr.mono (by decide)) T.m_11 T.k_11 Wx11 Ze5 (Ds (Ze2 (Zd 4)) Ze3)))) (Zr (Qh (Ke hv (Zd 4) Y1) (Zr (Fu 2 (Zd 4))) Yp))))) (Zr (Yq (Zd 2))))))))
theorem Nc{fd:bx}(F:Fun K "note_keys" "note_keys" Bw fx13 fd){dx5:bx}(Vx5:FnOk P w K mg base Jf 1 fx5 dx5 ["parts"] (Y6 K 1 Q6))(Wx5:Yz K dx5 ["parts"] []){dx12:bx}(Vx12:FnOk P w K mg base (Nk P w) 5 fx12 dx12 ["text"] (spX K 1 Wi))(Wx12:Yz K dx12 ["text"] []):
  FnOk P w K mg base Jf 6 fx13 fd ["work"] (Y6 K 1 W6):=by
 refine L7 F Ms rfl Ua λ_ _ _ _ _ _ _ hr hu hv=>?_;exact(Zh (Zjf (λ_ _ _ tq=>(Zr (Znz 1 Ms.nd (Ze4 Vx12 (hr.mono (by decide)) T.m_12 T.k_12 Wx12 (tq.pass rfl) (Ds (Ze2 (Zel hu (Z0 hu (Zd 0) Zq) (Z1 Y1 Y4))) Ze3))))) T.x_NoText ⟨T.ty_NoText,T.ic_NoText,T.be_NoText⟩ (λ_=>(Zr (Yq (Og Y4)))) (Ze7 T.n_NoText T.h_NoText_NoText Du) Du) (Zr (Yq (Yx Vx5 (hr.mono (by decide)) T.m_5 T.k_5 Wx5 (Zn (Zd 1) Ys)))))
theorem Xr{fd:bx}(F:Fun K "take_in" "take_in" Ro fx14 fd){dx13:bx}(Vx13:FnOk P w K mg base Jf 6 fx13 dx13 ["work"] (Y6 K 1 W6))(Wx13:Yz K dx13 ["work"] []):
  FnOk P w K mg base Jf 7 fx14 fd ["shelf","key","noted","parts"] (spV K 2 Jk):=by
 refine Zun F Rr rfl To λ_ _ _ _ _ _ _ _ hr hu hv=>?_;exact(Zh (Yt 4 Rr.nd (Z0 hu (Zd 0) (Zd 1))) (Zh (Uv dl rfl (Qu (Yx Vx13 (hr.mono (by decide)) T.m_13 T.k_13 Wx13 (Zn (Zd 4) Ys))) (Yb 5 Rr.nd) (Zr (Zju 2 (Zd 5) (Zd 1)))) (Zr (Qh (Mj hu Y1 (Z0 hu (Zd 4) Zq)) (Zr (Zof 3 1 (Z0 hu (Z0 hu (Zd 4) Zq) Y1))) Yp))))
theorem Iw{fd:bx}(F:Fun K "reason_for" "reason_for" Oy fx15 fd):
  FnOk P w K mg base Jf 1 fx15 fd ["key","noted","parts","many"] (Y6 K 4 Wv):=by
 refine L7 F G5 rfl Q8 λ_ _ _ _ _ _ _ hr hu hv=>?_;exact(Zh (Qh (Mj hu (Zd 0) (Zd 1)) (Zr (Yq (Uh (Z1 Y1 (Z1 (Z0 hu (Zd 1) (Zd 0)) Y4))))) Yp) (Zh (Yt 4 G5.nd (Zel hu (Zd 2) (Z1 (Zd 0) (Z1 (Og Y4) Y4)))) (Zh (Qh (Zre (Oh T.z_len (Zd 4)) (Zd 3)) (Zr (Yq (Uh (Z1 Y1 (Z1 (Hz T.z_tuple (Zdz (Zd 4) M5 (Rh (Zd 3)))) Y4))))) Yp) (Zr (Yq Gy)))))
theorem Zbz{fd:bx}(F:Fun K "listed" "listed" Tl fx16 fd){dx4:bx}(Vx4:FnOk P w K mg base Jf 1 fx4 dx4 ["things"] (Y6 K 1 J2))(Wx4:Yz K dx4 ["things"] []){dx14:bx}(Vx14:FnOk P w K mg base Jf 7 fx14 dx14 ["shelf","key","noted","parts"] (spV K 2 Jk))(Wx14:Yz K dx14 ["shelf","key","noted","parts"] []){dx15:bx}(Vx15:FnOk P w K mg base Jf 1 fx15 dx15 ["key","noted","parts","many"] (Y6 K 4 Wv))(Wx15:Yz K dx15 ["key","noted","parts","many"] []):
  FnOk P w K mg base Jf 8 fx16 fd ["shelf","keys","many"] (Y6 K 3 U4):=by
 refine L7 F Wo rfl Eu λ_ _ _ _ _ _ _ hr hu hv=>?_;exact(Zh (Yt 3 Wo.nd (Og Y4)) (Zh (Yt 4 Wo.nd Ai) (Zh (Yt 5 Wo.nd Ziv) (Zh (Up 6 rfl (Y5 (N':=["key","shelf",".acc"]) (src:=[.own,.cap 0,.acc]) (by rfl) (by rfl) (by rfl) (by rfl) (by rfl) (by rfl)) (Oi 2 (by rfl) (by rfl)) (by decide) (Qu (Yx Vx4 (hr.mono (by decide)) T.m_4 T.k_4 Wx4 (Zn (Zd 1) Ys))) (λ_ _ _ _=>xg λ_=>(Yb 0 (show(["key","shelf",".acc"]:List Str).Nodup by decide+kernel))) (λ_ _ _ _=>xt λ_=>(Mj hu (Zd 0) (Zd 1))) (λ_ _ _ _=>xe λ_=>(Uh (Z1 (Zd 0) (Z1 Zq (Z1 (Uh (Z1 Y1 Y4)) Y4))))) Wo.nd) (Zh (Yt 7 Wo.nd Zq) (Zh (Zig Zon dl (Znl (Oh T.z_len (Zd 6)) Zq) (Zh (Zoc 3 (Zd 6)) (Zh (Uv dl rfl (Qu (Zd 6)) (Yb 8 Wo.nd) (Zr (Zjy 4 5 Vx14 (hr.mono (by decide)) T.m_14 T.k_14 Wx14 (D1 (Zd 0) (D1 (Z0 hu (Zd 8) Zq) (Zog 4 5 (Zli 4) (Zli 5))))))) (Zh (Zr8 7 Wo.nd) (Zh (Yt 9 Wo.nd (Zoh λ_=>(Ri rfl (Y5 (N':=["triple",".acc"]) (src:=[.own,.acc]) (by rfl) (by rfl) (by rfl) (by rfl) (by rfl) (by rfl)) (Oi 1 (by rfl) (by rfl)) (by decide) (Qu (Zd 3)) (λ_ _ _ _=>xg λ_=>(Yb 0 (show(["triple",".acc"]:List Str).Nodup by decide+kernel))) (λ_ _ _ _=>xt0) (λ_ _ _ _=>xe λ_=>(Z0 hu (Zd 0) Zq))))) (Zh (Zbt 10 rfl (Y5 (N':=["key","noted","parts","many","known",".acc"]) (src:=[.own,.cap 4,.cap 5,.cap 2,.cap 9,.acc]) (by rfl) (by rfl) (by rfl) (by rfl) (by rfl) (by rfl)) (Oi 5 (by rfl) (by rfl)) (by decide) (λ_=>(Qu (Zjr rfl T.z_sorted (Zd 0)))) (λ_ _ _ _=>xg λ_=>(Yb 0 (show(["key","noted","parts","many","known",".acc"]:List Str).Nodup by decide+kernel))) (λ_ _ _ _=>xt λ_=>(P3 hu (Zd 0) (Zd 4))) (λ_ _ _ _=>xe λ_=>(Uh (Z1 (Zd 0) (Z1 (Yx Vx15 (hr.mono (by decide)) T.m_15 T.k_15 Wx15 (Zn (Zd 0) (Zn (Zd 1) (Zn (Zd 2) (Zn (Zd 3) Ys))))) Y4)))) Wo.nd) (Zr (Up 6 rfl (Y5 (N':=["key","reason","number",".acc"]) (src:=[.own,.own,.cap 7,.acc]) (by rfl) (by rfl) (by rfl) (by rfl) (by rfl) (by rfl)) (Oi 3 (by rfl) (by rfl)) (by decide) (Qu (Zd 10)) (λ_ _ _ _=>xg λ_=>(Pg rfl (Q3 (Yb 0 (show(["key","reason","number",".acc"]:List Str).Nodup by decide+kernel)) (Q3 (Yb 1 (show(["key","reason","number",".acc"]:List Str).Nodup by decide+kernel)) A5)))) (λ_ _ _ _=>xt λ_=>(Vy (Zd 1) Gy)) (λ_ _ _ _=>xe λ_=>(Uh (Z1 (Zd 0) (Z1 (Zd 2) (Z1 (Zd 1) Y4))))) Wo.nd)))))))) (Zr (Yq (Zd 3)))))))))
theorem Nd{fd:bx}(F:Fun K "_law_first" "_law_first" Bx fx17 fd):
  FnOk P w K mg base Jf 1 fx17 fd ["_law_shelf_here","_law_pointed"] (Y6 K 2 W7):=by
 refine L7 F B7 rfl C7 λ_ _ _ _ _ _ _ hr hu hv=>?_;exact(Zh (Yt 2 B7.nd (Og Y4)) (Zh (Uv dl rfl (Qu (Zd 1)) (Yb 3 B7.nd) (Zr (Qh (PW.pt (Hy (Mj hu (Zd 3) (Zd 0)) (Ll (Zfp hv (Uh (Z1 (Zd 3) (Z1 Zq (Z1 (Uh (Z1 Y1 Y4)) Y4)))) (Zd 2))))) (Zr (Fu 2 (Uh (Z1 (Zd 3) (Z1 Zq (Z1 (Uh (Z1 Y1 Y4)) Y4)))))) Yp))) (Zr (Yq (Zd 2)))))
theorem Ix{fd:bx}(F:Fun K "_law_reason" "_law_reason" Oz fx18 fd):
  FnOk P w K mg base Jf 1 fx18 fd ["_law_shelf_here","_law_notes","_law_ahead","_law_key","_law_many"] (Y6 K 5 Z2):=by
 refine L7 F Ju rfl Q9 λ_ _ _ _ _ _ _ hr hu hv=>?_;exact(Zh (Uv dl rfl (Qu (Zd 2)) (Yb 5 Ju.nd) (Zr (Qh (Mj hu (Zd 3) (Z0 hu (Zd 1) (Zd 5))) (Zr (Yq (Uh (Z1 Y1 (Z1 (Zd 5) Y4))))) Yp))) (Zh (Yt 6 Ju.nd (Og Y4)) (Zh (Uv dl rfl (Qu (Zd 2)) (Yb 5 Ju.nd) (Zr (Qh (PW.pt (Hy (Mj hu Y1 (Z0 hu (Z0 hu (Zd 0) (Zd 5)) Zq)) (Ll (G3 hv (Z0 hu (Z0 hu (Z0 hu (Zd 0) (Zd 5)) Zq) Y1) (Zd 3))))) (Zr (Fu 6 (Zd 5))) Yp))) (Zh (Qh (Zre (Oh T.z_len (Zd 6)) (Zd 4)) (Zr (Yq (Uh (Z1 Y1 (Z1 (Hz T.z_tuple (Zdz (Zd 6) M5 (Rh (Zd 4)))) Y4))))) Yp) (Zr (Yq Gy))))))
theorem Nf{fd:bx}(F:Fun K "_law_right" "_law_right" By fx19 fd){dx18:bx}(Vx18:FnOk P w K mg base Jf 1 fx18 dx18 ["_law_shelf_here","_law_notes","_law_ahead","_law_key","_law_many"] (Y6 K 5 Z2))(Wx18:Yz K dx18 ["_law_shelf_here","_law_notes","_law_ahead","_law_key","_law_many"] []):
  FnOk P w K mg base Jf 2 fx19 fd ["_law_shelf_here","_law_notes","_law_told","_law_many","_law_at"] (Y6 K 5 W9):=by
 refine L7 F Wx rfl Uc λ_ _ _ _ _ _ _ hr hu hv=>?_;exact(Zh (Pj (Z0 hu (Zd 2) (Zd 4)) (Pg rfl (Q3 (Yb 5 Wx.nd) (Q3 (Yb 6 Wx.nd) (Q3 (Yb 7 Wx.nd) A5))))) (Zh (Up 8 rfl (Y5 (N':=["_law_one","_law_turn",".acc"]) (src:=[.own,.cap 6,.acc]) (by rfl) (by rfl) (by rfl) (by rfl) (by rfl) (by rfl)) (Oi 2 (by rfl) (by rfl)) (by decide) (Qu (Zd 2)) (λ_ _ _ _=>xg λ_=>(Yb 0 (show(["_law_one","_law_turn",".acc"]:List Str).Nodup by decide+kernel))) (λ_ _ _ _=>xt λ_=>(Znk (Z0 hu (Zd 0) Zq) (Zd 1))) (λ_ _ _ _=>xe λ_=>(Z0 hu (Zd 0) Zq)) Wx.nd) (Zh (Up 9 rfl (Y5 (N':=["_law_one","_law_turn",".acc"]) (src:=[.own,.cap 6,.acc]) (by rfl) (by rfl) (by rfl) (by rfl) (by rfl) (by rfl)) (Oi 2 (by rfl) (by rfl)) (by decide) (Qu (Zd 2)) (λ_ _ _ _=>xg λ_=>(Yb 0 (show(["_law_one","_law_turn",".acc"]:List Str).Nodup by decide+kernel))) (λ_ _ _ _=>xt λ_=>(Znk (Z0 hu (Zd 0) Zq) (Zk7 (Zd 1) Zq))) (λ_ _ _ _=>xe λ_=>(Z0 hu (Zd 0) Zq)) Wx.nd) (Zh (Qh (PW.pt (Vz (Mj hu (Zd 5) (Zd 8)) (Vz (Ke hv (Zd 7) (Yx Vx18 (hr.mono (by decide)) T.m_18 T.k_18 Wx18 (Zn (Zd 0) (Zn (Zd 1) (Zn (Zd 8) (Zn (Zd 5) (Zn (Zd 3) Ys))))))) (Hx (Zk8 (Zd 7) Gy))))) (Zr (Yq M4)) Yp) (Zh (Qh (PW.pt (Hy (Znl (Zd 6) Zq) (Ll (Vy (Yx Vx18 (hr.mono (by decide)) T.m_18 T.k_18 Wx18 (Zn (Zd 0) (Zn (Zd 1) (Zn (Zd 9) (Zn (Zd 5) (Zn (Zd 3) Ys)))))) Gy)))) (Zr (Yq M4)) Yp) (Zh (Yt 10 Wx.nd (Z0 hu (Zd 2) (Zk7 (Zd 4) Zq))) (Zh (Qh (G3 hv (Zd 6) (Z0 hu (Zd 10) Zq)) (Zr (Yq (Zsc (Z0 hu (Zd 10) Zq) (Zd 5)))) Yp) (Zr (Yq (Zer hv (Zd 6) (Uu (Z0 hu (Zd 10) Zq) Zq)))))))))))
theorem Iy{fd:bx}(F:Fun K "_law_is_row" "_law_is_row" O0 fx20 fd):
  FnOk P w K mg base Jf 1 fx20 fd ["_law_one"] (Y6 K 1 Ja):=by
 refine L7 F Iq rfl B5 λ_ _ _ _ _ _ _ hr hu hv=>?_;exact(Zh (Qh (PW.pt (Vz (Mb (G1 (Tx T.z_isinstance T.z_tuple boot_tuple (Ft _) (Zd 0)))) (Vz (Ke hv (Oh T.z_len (Zd 0)) Zq) (Hx (Mb (G1 (Tx T.z_isinstance T.z_tuple boot_tuple (Ft _) (Z0 hu (Zd 0) Zq)))))))) (Zr (Yq M4)) Yp) (Zr (Yq (Zla (Tx T.z_isinstance T.z_int boot_int (Zif _) (Z0 hu (Zd 0) Zq)) (Zk9 (Zrf (Tx T.z_isinstance T.z_bool boot_bool (Zey _) (Z0 hu (Zd 0) Zq))))))))
theorem Zoo{fd:bx}(F:Fun K "law" "law" Bz fx21 fd){dx0:bx}(Vx0:FnOk P w K mg base Jf 1 fx0 dx0 ["_law_cell","_law_many"] (Y6 K 2 Z6))(Wx0:Yz K dx0 ["_law_cell","_law_many"] []){dx1:bx}(Vx1:FnOk P w K mg base Jf 2 fx1 dx1 ["_law_cell","_law_many"] (Y6 K 2 Qp))(Wx1:Yz K dx1 ["_law_cell","_law_many"] []){dx2:bx}(Vx2:FnOk P w K mg base Jf 2 fx2 dx2 ["_law_keys_here","_law_cells"] (Y6 K 2 Wc))(Wx2:Yz K dx2 ["_law_keys_here","_law_cells"] []){dx3:bx}(Vx3:FnOk P w K mg base Jf 1 fx3 dx3 ["_law_script","_law_k"] (Y6 K 2 Z9))(Wx3:Yz K dx3 ["_law_script","_law_k"] []){dx16:bx}(Vx16:FnOk P w K mg base Jf 8 fx16 dx16 ["shelf","keys","many"] (Y6 K 3 U4))(Wx16:Yz K dx16 ["shelf","keys","many"] []){dx17:bx}(Vx17:FnOk P w K mg base Jf 1 fx17 dx17 ["_law_shelf_here","_law_pointed"] (Y6 K 2 W7))(Wx17:Yz K dx17 ["_law_shelf_here","_law_pointed"] []){dx18:bx}(Vx18:FnOk P w K mg base Jf 1 fx18 dx18 ["_law_shelf_here","_law_notes","_law_ahead","_law_key","_law_many"] (Y6 K 5 Z2))(Wx18:Yz K dx18 ["_law_shelf_here","_law_notes","_law_ahead","_law_key","_law_many"] []){dx19:bx}(Vx19:FnOk P w K mg base Jf 2 fx19 dx19 ["_law_shelf_here","_law_notes","_law_told","_law_many","_law_at"] (Y6 K 5 W9))(Wx19:Yz K dx19 ["_law_shelf_here","_law_notes","_law_told","_law_many","_law_at"] []){dx20:bx}(Vx20:FnOk P w K mg base Jf 1 fx20 dx20 ["_law_one"] (Y6 K 1 Ja))(Wx20:Yz K dx20 ["_law_one"] []):
  FnOk P w K mg base Jf 9 fx21 fd ["_law_script"] (Y6 K 1 T5):=by
 refine L7 F Jc rfl Sw λ_ _ _ _ _ _ _ hr hu hv=>?_;exact(Zh (Yt 1 Jc.nd (Zdz (Zd 0) (Rh Zq) (Rh Zq))) (Zh (Yt 2 Jc.nd (Yx Vx1 (hr.mono (by decide)) T.m_1 T.k_1 Wx1 (Zn (Yx Vx3 (hr.mono (by decide)) T.m_3 T.k_3 Wx3 (Zn (Zd 0) (Zn Zq Ys))) (Zn (Uu (Oh T.z_len (Zd 1)) Zq) Ys)))) (Zh (Pj (Yx Vx2 (hr.mono (by decide)) T.m_2 T.k_2 Wx2 (Zn (Zd 2) (Zn (Zd 1) Ys))) (Pg rfl (Q3 (Yb 3 Jc.nd) (Q3 (Yb 4 Jc.nd) A5)))) (Zh (Yt 5 Jc.nd (Yx Vx3 (hr.mono (by decide)) T.m_3 T.k_3 Wx3 (Zn (Zd 0) (Zn Zq Ys)))) (Zh (Up 6 rfl (Y5 (N':=["_law_number","_law_keys_here",".acc"]) (src:=[.own,.cap 2,.acc]) (by rfl) (by rfl) (by rfl) (by rfl) (by rfl) (by rfl)) (Oi 2 (by rfl) (by rfl)) (by decide) (Qu (Yx Vx0 (hr.mono (by decide)) T.m_0 T.k_0 Wx0 (Zn (Zd 5) (Zn (Q0 (Zd 5) Zq) Ys)))) (λ_ _ _ _=>xg λ_=>(Yb 0 (show(["_law_number","_law_keys_here",".acc"]:List Str).Nodup by decide+kernel))) (λ_ _ _ _=>xt0) (λ_ _ _ _=>xe λ_=>(Z0 hu (Zd 1) (Q0 (Zd 0) (Oh T.z_len (Zd 1))))) Jc.nd) (Zh (Yt 7 Jc.nd (Uu Zq (Q0 (Yx Vx3 (hr.mono (by decide)) T.m_3 T.k_3 Wx3 (Zn (Zd 0) (Zn Zq Ys))) Zq))) (Zh (Yt 8 Jc.nd (Og (Z1 (Zen T.z_dict (Zd 3)) (Z1 (Znm T.z_list (Zd 6)) Y4)))) (Zh (Yt 9 Jc.nd (Yx Vx16 (hr.mono (by decide)) T.m_16 T.k_16 Wx16 (Zn (Z0 hu (Zd 8) Zq) (Zn (Z0 hu (Zd 8) Zq) (Zn (Zd 7) Ys))))) (Zh (Qh (PW.pt (Vz (Mb (G1 (Tx T.z_isinstance T.z_list boot_list (Zd0 _) (Zd 9)))) (Vz (Ke hv (Zd 8) (Og (Z1 (Zd 3) (Z1 (Zd 6) Y4)))) (Hx (Zez (Mj hu M4 (Ri rfl (Y5 (N':=["_law_one",".acc"]) (src:=[.own,.acc]) (by rfl) (by rfl) (by rfl) (by rfl) (by rfl) (by rfl)) (Oi 1 (by rfl) (by rfl)) (by decide) (Qu (Zd 9)) (λ_ _ _ _=>xg λ_=>(Yb 0 (show(["_law_one",".acc"]:List Str).Nodup by decide+kernel))) (λ_ _ _ _=>xt0) (λ_ _ _ _=>xe λ_=>(Yx Vx20 (hr.mono (by decide)) T.m_20 T.k_20 Wx20 (Zn (Zd 0) Ys)))))))))) (Zr (Yq M4)) Yp) (Zh (Qh (Ke hv (Zd 3) (Z0 hu (Yx Vx2 (hr.mono (by decide)) T.m_2 T.k_2 Wx2 (Zn (Zd 2) (Zn (Zd 1) Ys))) Zq)) (Zr (Yq M4)) Yp) (Zh (Yt 10 Jc.nd (Yx Vx17 (hr.mono (by decide)) T.m_17 T.k_17 Wx17 (Zn (Zd 3) (Zn (Zd 6) Ys)))) (Zh (Qh (PW.pt (Vz (Ke hv (Zdz (Zd 9) M5 (Rh (Oh T.z_len (Zd 10)))) (Zd 10)) (Hx (Zez (Mj hu M4 (Ri rfl (Y5 (N':=["_law_one","_law_shelf_here",".acc"]) (src:=[.own,.cap 3,.acc]) (by rfl) (by rfl) (by rfl) (by rfl) (by rfl) (by rfl)) (Oi 2 (by rfl) (by rfl)) (by decide) (Qu (Zd 9)) (λ_ _ _ _=>xg λ_=>(Yb 0 (show(["_law_one","_law_shelf_here",".acc"]:List Str).Nodup by decide+kernel))) (λ_ _ _ _=>xt0) (λ_ _ _ _=>xe λ_=>(Zex hu (Z0 hu (Zd 0) Zq) (Zd 1))))))))) (Zr (Yq M4)) Yp) (Zh (Qh (G3 hv (Oh T.z_len (Zd 10)) Zq) (Zr (Yq (Zer hv (Zd 9) (Og Y4)))) Yp) (Zh (Uv dl rfl (Zn9 T.z_range (Oh T.z_len (Zd 10)) (Oh T.z_len (Zd 9))) (Yb 11 Jc.nd) (Zr (Qh (Mb (G1 (Yx Vx19 (hr.mono (by decide)) T.m_19 T.k_19 Wx19 (Zn (Zd 3) (Zn (Zd 4) (Zn (Zd 9) (Zn (Zd 7) (Zn (Zd 11) Ys)))))))) (Zr (Yq M4)) Yp))) (Zh (Up 12 rfl (Y5 (N':=["_law_one",".acc"]) (src:=[.own,.acc]) (by rfl) (by rfl) (by rfl) (by rfl) (by rfl) (by rfl)) (Oi 1 (by rfl) (by rfl)) (by decide) (Qu (Zd 9)) (λ_ _ _ _=>xg λ_=>(Yb 0 (show(["_law_one",".acc"]:List Str).Nodup by decide+kernel))) (λ_ _ _ _=>xt0) (λ_ _ _ _=>xe λ_=>(Z0 hu (Zd 0) Zq)) Jc.nd) (Zh (Uv dl rfl (Zr6 (Zd 3)) (Yb 13 Jc.nd) (Zr (Qh (PW.pt (Hy (P3 hu (Zd 13) (Zd 12)) (Ll (Vy (Yx Vx18 (hr.mono (by decide)) T.m_18 T.k_18 Wx18 (Zn (Zd 3) (Zn (Zd 4) (Zn (Zd 12) (Zn (Zd 13) (Zn (Zd 7) Ys)))))) Gy)))) (Zr (Yq M4)) Yp))) (Zr (Yq M4))))))))))))))))))
end
theorem Zop {l : PySem.W.OpenLaw} {w : cw} {K : ad} {h : du} {mg : Str -> Option ag} {tx0 : Tok} {tx1 : Tok} {tx2 : Tok} {tx3 : Tok} {tx4 : Tok} {fa fx0 fx1 fx2 fx3 fx4 fx5 fx6 fx7 fx8 fx9 fx10 fx11 fx12 fx13 fx14 fx15 fx16 fx17 fx18 fx19 fx20 fx21 aNoText : ak} (X : K.In h) (G : h.Ns bq mg) (hfa : mg "law" = aA (.ref fa))
    {odx21 anx21 : Option ak} {slx21 : Array (Option ag)} {ocx21 kVx21 dcx21 pmx21 cdx21 ctx21 : ag}
    (ax0 : bz K bq "_law_numbers" = aA (aA (.ref fx0))) (Fx0 : ∃ fd, Fun K "_law_numbers" "_law_numbers" Uy fx0 fd) (kx0 : bc K (.ref fx0) = aC)
    (ax1 : bz K bq "_law_keys" = aA (aA (.ref fx1))) (Fx1 : ∃ fd, Fun K "_law_keys" "_law_keys" C1 fx1 fd) (kx1 : bc K (.ref fx1) = aC)
    (ax2 : bz K bq "_law_shelf" = aA (aA (.ref fx2))) (Fx2 : ∃ fd, Fun K "_law_shelf" "_law_shelf" Br fx2 fd) (kx2 : bc K (.ref fx2) = aC)
    (ax3 : bz K bq "_law_cell_at" = aA (aA (.ref fx3))) (Fx3 : ∃ fd, Fun K "_law_cell_at" "_law_cell_at" Uz fx3 fd) (kx3 : bc K (.ref fx3) = aC)
    (ax4 : bz K bq "each_once" = aA (aA (.ref fx4))) (Fx4 : ∃ fd, Fun K "each_once" "each_once" Bt fx4 fd) (kx4 : bc K (.ref fx4) = aC)
    (ax5 : bz K bq "point_keys" = aA (aA (.ref fx5))) (Fx5 : ∃ fd, Fun K "point_keys" "point_keys" Ov fx5 fd) (kx5 : bc K (.ref fx5) = aC)
    (ax6 : bz K bq "is_all_of" = aA (aA (.ref fx6))) (Fx6 : ∃ fd, Fun K "is_all_of" "is_all_of" Bu fx6 fd) (kx6 : bc K (.ref fx6) = aC)
    (ax7 : bz K bq "angled" = aA (aA (.ref fx7))) (Fx7 : ∃ fd, Fun K "angled" "angled" Tk fx7 fd) (kx7 : bc K (.ref fx7) = aC)
    (ax8 : bz K bq "is_text_of" = aA (aA (.ref fx8))) (Fx8 : ∃ fd, Fun K "is_text_of" "is_text_of" Ow fx8 fd) (kx8 : bc K (.ref fx8) = aC)
    (ax9 : bz K bq "is_name" = aA (aA (.ref fx9))) (Fx9 : ∃ fd, Fun K "is_name" "is_name" Rm fx9 fd) (kx9 : bc K (.ref fx9) = aC)
    (ax10 : bz K bq "is_plain" = aA (aA (.ref fx10))) (Fx10 : ∃ fd, Fun K "is_plain" "is_plain" C3 fx10 fd) (kx10 : bc K (.ref fx10) = aC)
    (ax11 : bz K bq "read_point" = aA (aA (.ref fx11))) (Fx11 : ∃ fd, Fun K "read_point" "read_point" Ox fx11 fd) (kx11 : bc K (.ref fx11) = aC)
    (ax12 : bz K bq "read_text" = aA (aA (.ref fx12))) (Fx12 : ∃ fd, Fun K "read_text" "read_text" Bv fx12 fd) (kx12 : bc K (.ref fx12) = aC)
    (ax13 : bz K bq "note_keys" = aA (aA (.ref fx13))) (Fx13 : ∃ fd, Fun K "note_keys" "note_keys" Bw fx13 fd) (kx13 : bc K (.ref fx13) = aC)
    (ax14 : bz K bq "take_in" = aA (aA (.ref fx14))) (Fx14 : ∃ fd, Fun K "take_in" "take_in" Ro fx14 fd) (kx14 : bc K (.ref fx14) = aC)
    (ax15 : bz K bq "reason_for" = aA (aA (.ref fx15))) (Fx15 : ∃ fd, Fun K "reason_for" "reason_for" Oy fx15 fd) (kx15 : bc K (.ref fx15) = aC)
    (ax16 : bz K bq "listed" = aA (aA (.ref fx16))) (Fx16 : ∃ fd, Fun K "listed" "listed" Tl fx16 fd) (kx16 : bc K (.ref fx16) = aC)
    (ax17 : bz K bq "_law_first" = aA (aA (.ref fx17))) (Fx17 : ∃ fd, Fun K "_law_first" "_law_first" Bx fx17 fd) (kx17 : bc K (.ref fx17) = aC)
    (ax18 : bz K bq "_law_reason" = aA (aA (.ref fx18))) (Fx18 : ∃ fd, Fun K "_law_reason" "_law_reason" Oz fx18 fd) (kx18 : bc K (.ref fx18) = aC)
    (ax19 : bz K bq "_law_right" = aA (aA (.ref fx19))) (Fx19 : ∃ fd, Fun K "_law_right" "_law_right" By fx19 fd) (kx19 : bc K (.ref fx19) = aC)
    (ax20 : bz K bq "_law_is_row" = aA (aA (.ref fx20))) (Fx20 : ∃ fd, Fun K "_law_is_row" "_law_is_row" O0 fx20 fd) (kx20 : bc K (.ref fx20) = aC)
    (ax21 : bz K bq "law" = aA (aA (.ref fx21))) (lx21 : K.lookup fx21 = aA ⟨ocx21, odx21, .func (PySem.W.fnOf "law" "law" (Gb Bz) (Qx Bz) (Zp Bz) .none kVx21 dcx21 pmx21 anx21 cdx21 ctx21), slx21⟩) (cx21 : PySem.W.codeIn K cdx21 "law" = aC) (kx21 : bc K (.ref fx21) = aC)
    (zall : bz K bq "all" = aA aB)
    (zbool : bz K bq "bool" = aA aB)
    (zdict : bz K bq "dict" = aA aB)
    (zenumerate : bz K bq "enumerate" = aA aB)
    (zint : bz K bq "int" = aA aB)
    (zisinstance : bz K bq "isinstance" = aA aB)
    (zlen : bz K bq "len" = aA aB)
    (zlist : bz K bq "list" = aA aB)
    (zrange : bz K bq "range" = aA aB)
    (zsorted : bz K bq "sorted" = aA aB)
    (zstr : bz K bq "str" = aA aB)
    (ztuple : bz K bq "tuple" = aA aB)
    (zx0 : bz K bq "NAME_LENGTH" = aA (aA (.int 8 tx0)))
    (zx1 : bz K bq "PLAIN_LENGTH" = aA (aA (.int 80 tx1)))
    (zx2 : bz K bq "PLAIN_SIGNS" = aA (aA (.str "ABCDEFGHIJKLMNOPQRSTUVWXYZabcdefghijklmnopqrstuvwxyz0123456789 .,!?'-/()&+*=" tx2)))
    (zx3 : bz K bq "SMALL_LETTERS" = aA (aA (.str "abcdefghijklmnopqrstuvwxyz" tx3)))
    (zx4 : bz K bq "STYLE_SIGNS" = aA (aA (.str "ABCDEFGHIJKLMNOPQRSTUVWXYZabcdefghijklmnopqrstuvwxyz0123456789 .,!?'-/()&+*=:;" tx4)))
    (zc_NoText : bz K bq "NoText" = aA (aA (.ref aNoText)))
    (ty_NoText : PySem.W.typeIn K (.ref aNoText) = aA (.type "type"))
    (ic_NoText : PySem.W.isClsIn K aNoText = aC)
    (be_NoText : eg K aNoText (.type "BaseException") = aA aC)
    (h_NoText_NoText : eg K aNoText (.ref aNoText) = aA aC)
    (ow_NoText : PySem.W.excIn K aNoText VEB "ValueError.__new__" = aC)
    : ∃ fd : bx, (∀ (s : ap) (v : ag), BindsTo s fd ⟨[v], []⟩ [("_law_script", v)]) /\ ∀ base : du, K.In base -> base.Ns bq mg -> FnOk l.prog w K mg base Jf 9 fa fd ["_law_script"] (Y6 K 1 T5) := by
  have e := hfa.symm.trans (b8 X G ax21);cases e;have T : Txt K mg tx0 tx1 tx2 tx3 tx4 fx0 fx1 fx2 fx3 fx4 fx5 fx6 fx7 fx8 fx9 fx10 fx11 fx12 fx13 fx14 fx15 fx16 fx17 fx18 fx19 fx20 _ aNoText := ⟨b8 X G zc_NoText, zc_NoText, ty_NoText, ic_NoText, be_NoText, h_NoText_NoText, dn X G zall, dn X G zbool, dn X G zdict, dn X G zenumerate, dn X G zint, dn X G zisinstance, dn X G zlen, dn X G zlist, dn X G zrange, dn X G zsorted, dn X G zstr, dn X G ztuple, b8 X G zx0, b8 X G zx1, b8 X G zx2, b8 X G zx3, b8 X G zx4, b8 X G ax0, kx0, b8 X G ax1, kx1, b8 X G ax2, kx2, b8 X G ax3, kx3, b8 X G ax4, kx4, b8 X G ax5, kx5, b8 X G ax6, kx6, b8 X G ax7, kx7, b8 X G ax8, kx8, b8 X G ax9, kx9, b8 X G ax10, kx10, b8 X G ax11, kx11, b8 X G ax12, kx12, b8 X G ax13, kx13, b8 X G ax14, kx14, b8 X G ax15, kx15, b8 X G ax16, kx16, b8 X G ax17, kx17, b8 X G ax18, kx18, b8 X G ax19, kx19, b8 X G ax20, kx20, b8 X G ax21, kx21⟩
  obtain ⟨_, Fx0⟩ := Fx0;obtain ⟨_, Fx1⟩ := Fx1;obtain ⟨_, Fx2⟩ := Fx2;obtain ⟨_, Fx3⟩ := Fx3;obtain ⟨_, Fx4⟩ := Fx4;obtain ⟨_, Fx5⟩ := Fx5;obtain ⟨_, Fx6⟩ := Fx6;obtain ⟨_, Fx7⟩ := Fx7;obtain ⟨_, Fx8⟩ := Fx8;obtain ⟨_, Fx9⟩ := Fx9;obtain ⟨_, Fx10⟩ := Fx10;obtain ⟨_, Fx11⟩ := Fx11;obtain ⟨_, Fx12⟩ := Fx12;obtain ⟨_, Fx13⟩ := Fx13;obtain ⟨_, Fx14⟩ := Fx14;obtain ⟨_, Fx15⟩ := Fx15;obtain ⟨_, Fx16⟩ := Fx16;obtain ⟨_, Fx17⟩ := Fx17;obtain ⟨_, Fx18⟩ := Fx18;obtain ⟨_, Fx19⟩ := Fx19;obtain ⟨_, Fx20⟩ := Fx20;have Fx21 := Wg (st := Bz) lx21 cx21 kx21;have bx0 := Fx0.binds (ps := ["_law_cell", "_law_many"]) λ_ _ _ _ _ _ us hl => of2 (λ_ _ => rfl) us hl;have bx1 := Fx1.binds (ps := ["_law_cell", "_law_many"]) λ_ _ _ _ _ _ us hl => of2 (λ_ _ => rfl) us hl;have bx2 := Fx2.binds (ps := ["_law_keys_here", "_law_cells"]) λ_ _ _ _ _ _ us hl => of2 (λ_ _ => rfl) us hl;have bx3 := Fx3.binds (ps := ["_law_script", "_law_k"]) λ_ _ _ _ _ _ us hl => of2 (λ_ _ => rfl) us hl;have bx4 := Fx4.binds (ps := ["things"]) λ_ _ _ _ _ _ us hl => of1 (λ_ => rfl) us hl;have bx5 := Fx5.binds (ps := ["parts"]) λ_ _ _ _ _ _ us hl => of1 (λ_ => rfl) us hl;have bx6 := Fx6.binds (ps := ["text", "signs"]) λ_ _ _ _ _ _ us hl => of2 (λ_ _ => rfl) us hl;have bx7 := Fx7.binds (ps := ["text", "signs"]) λ_ _ _ _ _ _ us hl => of2 (λ_ _ => rfl) us hl;have bx8 := Fx8.binds (ps := ["value", "signs", "most"]) λ_ _ _ _ _ _ us hl => of3 (λ_ _ _ => rfl) us hl;have bx9 := Fx9.binds (ps := ["value"]) λ_ _ _ _ _ _ us hl => of1 (λ_ => rfl) us hl;have bx10 := Fx10.binds (ps := ["value"]) λ_ _ _ _ _ _ us hl => of1 (λ_ => rfl) us hl;have bx11 := Fx11.binds (ps := ["text"]) λ_ _ _ _ _ _ us hl => of1 (λ_ => rfl) us hl;have bx12 := Fx12.binds (ps := ["text"]) λ_ _ _ _ _ _ us hl => of1 (λ_ => rfl) us hl;have bx13 := Fx13.binds (ps := ["work"]) λ_ _ _ _ _ _ us hl => of1 (λ_ => rfl) us hl;have bx14 := Fx14.binds (ps := ["shelf", "key", "noted", "parts"]) λ_ _ _ _ _ _ us hl => of4 (λ_ _ _ _ => rfl) us hl;have bx15 := Fx15.binds (ps := ["key", "noted", "parts", "many"]) λ_ _ _ _ _ _ us hl => of4 (λ_ _ _ _ => rfl) us hl;have bx16 := Fx16.binds (ps := ["shelf", "keys", "many"]) λ_ _ _ _ _ _ us hl => of3 (λ_ _ _ => rfl) us hl;have bx17 := Fx17.binds (ps := ["_law_shelf_here", "_law_pointed"]) λ_ _ _ _ _ _ us hl => of2 (λ_ _ => rfl) us hl;have bx18 := Fx18.binds (ps := ["_law_shelf_here", "_law_notes", "_law_ahead", "_law_key", "_law_many"]) λ_ _ _ _ _ _ us hl => of5 (λ_ _ _ _ _ => rfl) us hl;have bx19 := Fx19.binds (ps := ["_law_shelf_here", "_law_notes", "_law_told", "_law_many", "_law_at"]) λ_ _ _ _ _ _ us hl => of5 (λ_ _ _ _ _ => rfl) us hl;have bx20 := Fx20.binds (ps := ["_law_one"]) λ_ _ _ _ _ _ us hl => of1 (λ_ => rfl) us hl;refine ⟨PySem.W.fnOf "law" "law" (Gb Bz) (Qx Bz) (Zp Bz) .none kVx21 dcx21 pmx21 anx21 cdx21 ctx21, λs v => .of_eq rfl, λbase kb nb => ?_⟩;have Gx0 := Ew (P := l.prog) (w := w) (base := base) T Fx0;have Gx1 := Sy (P := l.prog) (w := w) (base := base) T Fx1 Gx0 bx0;have Gx2 := L8 (P := l.prog) (w := w) (base := base) T Fx2 Gx0 bx0;have Gx3 := Ex (P := l.prog) (w := w) (base := base) T Fx3;have Gx4 := L9 (P := l.prog) (w := w) (base := base) T Fx4;have Gx5 := Ir (P := l.prog) (w := w) (base := base) T Fx5;have Gx6 := Na (P := l.prog) (w := w) (base := base) T Fx6;have Gx7 := Zby (P := l.prog) (w := w) (base := base) T Fx7 Gx6 bx6;have Gx8 := Iu (P := l.prog) (w := w) (base := base) T Fx8 Gx6 bx6;have Gx9 := Xq (P := l.prog) (w := w) (base := base) T Fx9 Gx8 bx8;have Gx10 := Sz (P := l.prog) (w := w) (base := base) T Fx10 Gx8 bx8;have Gx11 := Iv (P := l.prog) (w := w) (base := base) T Fx11 (Ef kb (b8 kb nb zc_NoText) ow_NoText) Gx9 bx9 Gx10 bx10;have Gx12 := Nb (P := l.prog) (w := w) (base := base) T Fx12 (Ef kb (b8 kb nb zc_NoText) ow_NoText) Gx7 bx7 Gx11 bx11;have Gx13 := Nc (P := l.prog) (w := w) (base := base) T Fx13 Gx5 bx5 Gx12 bx12;have Gx14 := Xr (P := l.prog) (w := w) (base := base) T Fx14 Gx13 bx13;have Gx15 := Iw (P := l.prog) (w := w) (base := base) T Fx15;have Gx16 := Zbz (P := l.prog) (w := w) (base := base) T Fx16 Gx4 bx4 Gx14 bx14 Gx15 bx15;have Gx17 := Nd (P := l.prog) (w := w) (base := base) T Fx17;have Gx18 := Ix (P := l.prog) (w := w) (base := base) T Fx18;have Gx19 := Nf (P := l.prog) (w := w) (base := base) T Fx19 Gx18 bx18;have Gx20 := Iy (P := l.prog) (w := w) (base := base) T Fx20;exact Zoo T Fx21 Gx0 bx0 Gx1 bx1 Gx2 bx2 Gx3 bx3 Gx16 bx16 Gx17 bx17 Gx18 bx18 Gx19 bx19 Gx20 bx20
theorem Zoq{K:ad}{H:Hp}{a:ak}{ns:List Int}(hn:T5 [.lst (ns.map D.int)]=aA (.fz (.bl aC)))(hO:Zda H)(hS:Oa K H a (ns.map V.int)):Y6 K 1 T5 [.ref a] H (λv _=>v= .bl aC) λ_ _ _=>False:=by refine⟨H,[.lst (ns.map D.int)],.fz (.bl aC),Zl.refl H,.cons (.lst hS (.inr λd hd=>let⟨i,_,e⟩:=ax.mp hd;⟨i,e.symm⟩) (Pk ns)) .nil,rfl,hn,λv H' F' ms _ _ _ _ sh _ _=>?_⟩;cases Qz sh;rfl
theorem Zuo{l:PySem.W.OpenLaw}{q:b5}{loose:List Str}{XP:(Str->Option ag)->du->Prop}{YP:cw->du->Prop}{d:DefRec}{K:Params->ad}(hn:l.most=aA 63)(hdf:d.params.defaults=[])
  (hY:∀(w:cw) (h:du),YP w h->(K w.params).In h)
  (F:∀(w:cw) (mg:Str->Option ag) (fa:ak) (h:du),(K w.params).In h->h.Ns bq mg->mg d.name=aA (.ref fa)->
   ∃fd:bx,(∀(s:ap) (u:ag),BindsTo s fd ⟨[u],[]⟩ [("_law_script",u)])/\∀base:du,(K w.params).In base->base.Ns bq mg->FnOk l.prog w (K w.params) mg base Jf 9 fa fd ["_law_script"] (Y6 (K w.params) 1 T5))
  (hlaw:∀ns:List Int,ns.length<=63->T5 [.lst (ns.map D.int)]=aA (.fz (.bl aC))):
  PySem.W.WalkO q loose XP YP l.row.toRowW d [] (λf vs=>PySem.call f vs):=
 L2.Zdc (n:=63) (k:=9) (x:="_law_script") (CX:=Jf) (sp:=λK=>Y6 K 1 T5) hn (by decide) hdf ⟨rfl,by decide,by decide⟩ hY F (λ_ _ _ ns hl hO hS=>Zoq (hlaw ns hl) hO hS) λ_ _ _ _ z=>z
end Gen
namespace My
open DL PySem TT TX
def Num(x:Int):Prop:=0<=x/\x<2147483647
theorem Zf1{m:Int}(h:0<m/\m<=2147483647)(x:Int):Num (x % m):=⟨Int.emod_nonneg _ (by omega),Int.lt_of_lt_of_le (Int.emod_lt_of_pos _ h.1) h.2⟩
theorem G6(a b:Option SV):∀(n s:Nat) (ms:List Int) (x:Int) (y:Option SV),(∀m∈ms,Num m)->ms.length+n<=1000->
  ∃(ms':List Int) (x':Int) (y':Option SV),Y8 (Zi 4) Gen.Qn (Cg s n) [a,b,aA (.ol (ms.map D.int)),aA (.fz (.int x)),y]=aA (.nx [a,b,aA (.ol (ms'.map D.int)),aA (.fz (.int x')),y'])/\(∀m∈ms',Num m)/\ms'.length=ms.length+n
 |0,s,ms,x,y,h,_=>⟨ms,x,y,rfl,h,rfl⟩
 |n+1,s,ms,x,y,h,hl=>by
  have z:ms.length<PySem.sizeLine:=Ym (by omega);have hb:Gen.Qn [a,b,aA (.ol (ms.map D.int)),aA (.fz (.int x)),aA (.fz (.int (s:Int)))]=aA (.nx [a,b,aA (.ol ((ms++[x % 5040]).map D.int)),aA (.fz (.int (x / 5040))),aA (.fz (.int (s:Int)))]):=by unfold Gen.Qn;simp[z]
  obtain⟨ms',x',y',e,h1,h2⟩:=G6 a b n (s+1) (ms++[x % 5040]) (x / 5040) (aA (.fz (.int (s:Int)))) (λm hm=>by
   rcases cj.mp hm with hm|hm
   .exact h m hm
   .rw[aq.mp hm];exact Zf1 (by decide) _) (by rw[aw,c6];omega)
  refine⟨ms',x',y',(Wa (ds:=Cg (s+1) n) (by simp) hb).trans e,h1,by rw[h2,aw,c6];omega⟩
theorem G7(a b:Option SV):∀(n s:Nat) (ms:List Int) (x:Int) (y:Option SV),(∀m∈ms,Num m)->ms.length+n<=1000->
  ∃(ms':List Int) (x':Int) (y':Option SV),Y8 (Zi 4) Gen.Qo (Cg s n) [a,b,aA (.ol (ms.map D.int)),aA (.fz (.int x)),y]=aA (.nx [a,b,aA (.ol (ms'.map D.int)),aA (.fz (.int x')),y'])/\(∀m∈ms',Num m)/\ms'.length=ms.length+n
 |0,s,ms,x,y,h,_=>⟨ms,x,y,rfl,h,rfl⟩
 |n+1,s,ms,x,y,h,hl=>by
  have z:ms.length<PySem.sizeLine:=Ym (by omega);have hb:Gen.Qo [a,b,aA (.ol (ms.map D.int)),aA (.fz (.int x)),aA (.fz (.int (s:Int)))]=aA (.nx [a,b,aA (.ol ((ms++[(x+(s:Int)+1)*48271 % 2147483647*69621 % 2147483629]).map D.int)),aA (.fz (.int ((x+(s:Int)+1)*48271 % 2147483647))),aA (.fz (.int (s:Int)))]):=by have hm:=Xc (i:=x+(s:Int)+1) (j:=48271) (by omega);have hm2:=Xc (i:=(x+(s:Int)+1)*48271 % 2147483647) (j:=69621) (by omega);unfold Gen.Qo;simp[hm,hm2,z]
  obtain⟨ms',x',y',e,h1,h2⟩:=G7 a b n (s+1) (ms++[(x+(s:Int)+1)*48271 % 2147483647*69621 % 2147483629]) ((x+(s:Int)+1)*48271 % 2147483647) (aA (.fz (.int (s:Int)))) (λm hm=>by
   rcases cj.mp hm with hm|hm
   .exact h m hm
   .rw[aq.mp hm];exact Zf1 (by decide) _) (by rw[aw,c6];omega)
  refine⟨ms',x',y',(Wa (ds:=Cg (s+1) n) (by simp) hb).trans e,h1,by rw[h2,aw,c6];omega⟩
theorem Rs(c:Int)(n:Nat)(h:n<=1000):∃ms:List Int,Gen.Z6 [.int c,.int (n:Int)]=aA (.ol (ms.map D.int))/\(∀m∈ms,Num m)/\ms.length=n:=by
 have g1:R8 (n:Int):=O9 (by omega);have et:((n:Int)).toNat=n:=by omega
 by_cases hc:c % 2=1
 .obtain⟨ms,x',y',e,h1,h2⟩:=G6 (aA (.fz (.int c))) (aA (.fz (.int (n:Int)))) n 0 [] (c / 2) aB (λ_ h=>nomatch h) (by simpa using h);refine⟨ms,?_,h1,by simpa using h2⟩;simp only[List.map_nil]at e;unfold Gen.Z6 Gen.Jo;simp[-Y8,g1,et,Ba,e,hc]
 .obtain⟨ms,x',y',e,h1,h2⟩:=G7 (aA (.fz (.int c))) (aA (.fz (.int (n:Int)))) n 0 [] (c / 2 % 2147483647) aB (λ_ h=>nomatch h) (by simpa using h);refine⟨ms,?_,h1,by simpa using h2⟩;simp only[List.map_nil]at e;unfold Gen.Z6 Gen.Jo;simp[-Y8,g1,et,Ba,e,hc]
noncomputable abbrev Tp:Str:="abcdefghijklmnopqrstuvwxyz"
theorem Zj3:Tp.cps.toList.length=26:=by decide+kernel
theorem S0:Tp.length<=PySem.sizeLine:=by decide+kernel
noncomputable def LC(j:Nat):Nat:=Tp.cps.toList.getD j 0
theorem Zor:∀i<26,∀j<26,LC i=LC j->i=j:=by decide+kernel
theorem Zsn:∀i<26,LC i∈Tp.cps.toList:=by decide+kernel
theorem Zso(i:Int):L2.atI Tp.cps.toList (i % 26)=aA (LC (i % 26).toNat):=by
 have h0:0<=i % 26:=Int.emod_nonneg _ (by decide);have h1:i % 26<26:=Int.emod_lt_of_pos _ (by decide);obtain⟨j,hj⟩:=Int.eq_ofNat_of_zero_le h0;rw[hj];have hjl:j<Tp.cps.toList.length:=by rw[Zj3];omega
 refine Yc _ _ _ ?_;unfold LC;rw[cf,show((j:Int)).toNat=j by omega,bj hjl];rfl
def sgn(ms:List Int)(at':Int)(t:Nat)(k:Nat):Nat:=LC ((ms.getD k 0+7*(t:Int)*(if(k:Int)=at' then 1 else 0)) % 26).toNat
def Nm(ms:List Int)(at':Int)(size t:Nat):List Nat:=(ed size).map (sgn ms at' t)
theorem Zb0(a0 a1 a4 a6:Option SV)(ms:List Int)(at':Int)(t k:Nat)(hk:k<ms.length)(ht:t<=100)(w:List Nat)(hw:w.length<=1000):
  Gen.Wt [a0,a1,aA (.fz (.str Tp)),aA (.ol (ms.map D.int)),a4,aA (.fz (.int at')),a6,aA (.fz (.int (t:Int))),aA (.fz (.str (S w))),aA (.fz (.int (k:Int)))]=aA (.nx [a0,a1,aA (.fz (.str Tp)),aA (.ol (ms.map D.int)),a4,aA (.fz (.int at')),a6,aA (.fz (.int (t:Int))),aA (.fz (.str (S (w++[sgn ms at' t k])))),aA (.fz (.int (k:Int)))]):=by
 have hx:L2.atI (ms.map D.int) (k:Int)=aA (.int (ms.getD k 0)):=Yc _ _ _ (by rw[bn,bj hk,cf,bj hk];rfl);generalize ms.map D.int=MS at hx⊢;have go:∀ki ti:Int,0<=ti->ti<=100->∀b:Int,(b=0\/b=1)->(if ki=at' then(1:Int)else 0)=b->L2.atI MS ki=aA (.int (ms.getD k 0))->∀ch,L2.atI Tp.cps.toList ((ms.getD k 0+7*ti*b) % 26)=aA ch->
   Gen.Wt [a0,a1,aA (.fz (.str Tp)),aA (.ol MS),a4,aA (.fz (.int at')),a6,aA (.fz (.int ti)),aA (.fz (.str (S w))),aA (.fz (.int ki))]=aA (.nx [a0,a1,aA (.fz (.str Tp)),aA (.ol MS),a4,aA (.fz (.int at')),a6,aA (.fz (.int ti)),aA (.fz (.str (S (w++[ch])))),aA (.fz (.int ki))]):=by
  intro ki ti h0 h1 b hb hif hx ch hch;generalize ms.getD k 0=y at hx hch;have hm1:=Znu (i:=7) (j:=ti) (by omega);have hm:=Xc (i:=7*ti) (j:=b) (by omega);have z:(S w).length+(⟨#[ch]⟩:Str).length<=PySem.sizeLine:=Zt (by rw[Zlp w];show w.length+1<=_;omega);have ea:S w++(⟨#[ch]⟩:Str)=S (w++[ch]):=Zfv w [ch];by_cases hk:ki=at'
  .rw[if_pos hk]at hif;subst hif;unfold Gen.Wt;simp[hk]at hm hch hx⊢;simp[hk,hm1,hm,hch,hx,S0,z,ea]
  .rw[if_neg hk]at hif;subst hif;unfold Gen.Wt;simp[hk]at hm hch hx⊢;simp[hk,hm1,hm,hch,hx,S0,z,ea]
 exact go (k:Int) (t:Int) (by omega) (by omega) (if(k:Int)=at' then 1 else 0) (by split<;> simp) rfl hx (sgn ms at' t k) (Zso _)
theorem Zf2(a0 a1 a4 a6:Option SV)(ms:List Int)(at':Int)(t size:Nat)(hs:size<=ms.length)(hm:ms.length<=100)(ht:t<=100)(x9:Option SV):
  ∃y9,Y8 (Zi 9) Gen.Wt (Cg 0 size) [a0,a1,aA (.fz (.str Tp)),aA (.ol (ms.map D.int)),a4,aA (.fz (.int at')),a6,aA (.fz (.int (t:Int))),aA (.fz (.str (S []))),x9]=aA (.nx [a0,a1,aA (.fz (.str Tp)),aA (.ol (ms.map D.int)),a4,aA (.fz (.int at')),a6,aA (.fz (.int (t:Int))),aA (.fz (.str (S (Nm ms at' size t)))),y9]):=by
 obtain⟨δ',e,y9,hy⟩:=Tj (tg:=Zi 9) (body:=Gen.Wt) (P:=λi δ=>∃y9,δ=[a0,a1,aA (.fz (.str Tp)),aA (.ol (ms.map D.int)),a4,aA (.fz (.int at')),a6,aA (.fz (.int (t:Int))),aA (.fz (.str (S (Nm ms at' i t)))),y9]) size 0 [a0,a1,aA (.fz (.str Tp)),aA (.ol (ms.map D.int)),a4,aA (.fz (.int at')),a6,aA (.fz (.int (t:Int))),aA (.fz (.str (S []))),x9] ⟨x9,rfl⟩ (λi _ hi δ ⟨y9,hy⟩=>by
  subst hy;have e:=Zb0 a0 a1 a4 a6 ms at' t i (by omega) ht (Nm ms at' i t) (by unfold Nm;simp;omega);refine⟨[a0,a1,aA (.fz (.str Tp)),aA (.ol (ms.map D.int)),a4,aA (.fz (.int at')),a6,aA (.fz (.int (t:Int))),aA (.fz (.str (S (Nm ms at' i t)))),aA (.fz (.int (i:Int)))],_,by simp,e,aA (.fz (.int (i:Int))),?_⟩;have:Nm ms at' (i+1) t=Nm ms at' i t++[sgn ms at' t i]:=by unfold Nm;rw[List.range_succ,b4];rfl
  rw[this])
 subst hy;rw[Nat.zero_add]at e;exact⟨y9,e⟩
def Ui(ms:List Int)(at':Int)(size m:Nat):List Str:=(ed m).map λt=>S (Nm ms at' size t)
theorem Zb1(a0 a1:Option SV)(ms:List Int)(at':Int)(size:Nat)(hs:size<=ms.length)(hm:ms.length<=100)(m:Nat)(hn:m<=100):
  ∃δ,Y8 (Zi 7) Gen.Uk (Cg 0 m) [a0,a1,aA (.fz (.str Tp)),aA (.ol (ms.map D.int)),aA (.fz (.int (size:Int))),aA (.fz (.int at')),aA (.ol []),aB,aB,aB]=aA (.nx δ)/\δ[6]? =aA (aA (.ol ((Ui ms at' size m).map D.str))):=by
 obtain⟨δ',e,y7,y8,y9,hy⟩:=Tj (tg:=Zi 7) (body:=Gen.Uk) (P:=λi δ=>∃y7 y8 y9,δ=[a0,a1,aA (.fz (.str Tp)),aA (.ol (ms.map D.int)),aA (.fz (.int (size:Int))),aA (.fz (.int at')),aA (.ol ((Ui ms at' size i).map D.str)),y7,y8,y9]) m 0 [a0,a1,aA (.fz (.str Tp)),aA (.ol (ms.map D.int)),aA (.fz (.int (size:Int))),aA (.fz (.int at')),aA (.ol []),aB,aB,aB] ⟨aB,aB,aB,rfl⟩ (λi _ hi δ ⟨y7,y8,y9,hy⟩=>by
  subst hy;obtain⟨z9,e⟩:=Zf2 a0 a1 (aA (.fz (.int (size:Int)))) (aA (.ol ((Ui ms at' size i).map D.str))) ms at' i size hs hm (by omega) y9;have g1:R8 (size:Int):=O9 (by omega);have et:((size:Int)).toNat=size:=by omega
  have z:(Ui ms at' size i).length<PySem.sizeLine:=Ym (by unfold Ui;simp;omega);have he:au ""=S []:=rfl;have hr:Ui ms at' size (i+1)=Ui ms at' size i++[S (Nm ms at' size i)]:=by unfold Ui;rw[List.range_succ,b4];rfl
  refine⟨[a0,a1,aA (.fz (.str Tp)),aA (.ol (ms.map D.int)),aA (.fz (.int (size:Int))),aA (.fz (.int at')),aA (.ol ((Ui ms at' size i).map D.str)),aA (.fz (.int (i:Int))),y8,y9],[a0,a1,aA (.fz (.str Tp)),aA (.ol (ms.map D.int)),aA (.fz (.int (size:Int))),aA (.fz (.int at')),aA (.ol ((Ui ms at' size (i+1)).map D.str)),aA (.fz (.int (i:Int))),aA (.fz (.str (S (Nm ms at' size i)))),z9],by simp,?_,_,_,_,rfl⟩;rw[hr];generalize Ui ms at' size i=NL at*;generalize ms.map D.int=MS at*;unfold Gen.Uk;simp[-Y8,he,g1,et,Ba,e,z])
 subst hy;rw[Nat.zero_add]at e;exact⟨_,e,rfl⟩
structure Key(w:Str):Prop where
 one:1<=w.length
 most:w.length<=8
 of:∀c∈w.cps.toList,c∈Tp.cps.toList
theorem Mf(x:Int)(m:Nat)(hm:m<=26):∃ws:List Str,Gen.Qp [.int x,.int (m:Int)]=aA (.ol (ws.map D.str))/\ws.length=m/\ws.Nodup/\∀w∈ws,Key w:=by
 obtain⟨ms,en,hn,hl⟩:=Rs x 10 (by omega);have hl:ms.length=10:=hl;have g8:L2.atI (ms.map D.int) 8=aA (.int (ms.getD 8 0)):=Yc _ 8 _ (by rw[bn,bj (by omega:8<ms.length),cf,bj (by omega:8<ms.length)];rfl);have g9:L2.atI (ms.map D.int) 9=aA (.int (ms.getD 9 0)):=Yc _ 9 _ (by rw[bn,bj (by omega:9<ms.length),cf,bj (by omega:9<ms.length)];rfl);have s0:0<=ms.getD 8 0 % 8:=Int.emod_nonneg _ (by decide);have s1:ms.getD 8 0 % 8<8:=Int.emod_lt_of_pos _ (by decide);obtain⟨size,hs⟩:∃n:Nat,(n:Int)=1+ms.getD 8 0 % 8:=⟨(1+ms.getD 8 0 % 8).toNat,by omega⟩
 have hs1:1<=size:=by omega
 have hs8:size<=8:=by omega
 have p0:(0:Int)<(size:Int):=by omega
 have a0:0<=ms.getD 9 0 % (size:Int):=Int.emod_nonneg _ (by omega);have a1:ms.getD 9 0 % (size:Int)<(size:Int):=Int.emod_lt_of_pos _ p0;generalize hat:ms.getD 9 0 % (size:Int)=at' at a0 a1;obtain⟨δ,e,hδ⟩:=Zb1 (aA (.fz (.int x))) (aA (.fz (.int (m:Int)))) ms at' size (by omega) (by omega) m (by omega);have g1:R8 (m:Int):=O9 (by omega);have et:((m:Int)).toNat=m:=by omega
 refine⟨Ui ms at' size m,?_,by unfold Ui;simp,?_,λw hw=>?_⟩
 .generalize Ui ms at' size m=NL at hδ;generalize ms.getD 8 0=y8 at*;generalize ms.getD 9 0=y9 at*;generalize ms.map D.int=MS at*;have en:Gen.Z6 [D.int x,D.int 10]=aA (SV.ol MS):=en;have hs0:0<size:=by omega
  unfold Gen.Qp Gen.Rp;simp[-Y8,en,g8,g9,<-hs,p0,hs0,hat,g1,et,Ba,e,hδ]
 .unfold Ui;refine List.Pairwise.map _ (R:=λa b=>a≠b/\a<m/\b<m) (λa b h=>?_) ?_
  .intro z;obtain⟨hne,ha,hb⟩:=h;have hl:=Zsk z;obtain⟨k,hk⟩:=Int.eq_ofNat_of_zero_le a0;have hks:k<size:=by omega
   have e1:(Nm ms at' size a)[k]? =aA (sgn ms at' a k):=by unfold Nm;rw[bn,List.getElem?_range hks];rfl
   have e2:(Nm ms at' size b)[k]? =aA (sgn ms at' b k):=by unfold Nm;rw[bn,List.getElem?_range hks];rfl
   rw[hl,e2]at e1;have e3:=dz.inj e1;unfold sgn at e3;rw[if_pos hk.symm]at e3;have q:=λy:Int=>(Int.emod_nonneg y (show(26:Int)≠0 by decide))
   have q':=λy:Int=>(Int.emod_lt_of_pos y (show(0:Int)<26 by decide))
   generalize ms.getD k 0=y at*;have r1:=q (y+7*(a:Int)*1);have r2:=q' (y+7*(a:Int)*1);have r3:=q (y+7*(b:Int)*1);have r4:=q' (y+7*(b:Int)*1);have e4:=Zor _ (by omega) _ (by omega) e3;omega
  .have nd:(ed m).Pairwise (λa b=>a<b):=List.pairwise_lt_range;refine(List.Pairwise.and_mem.mp nd).imp fun{a b} h=>?_;exact⟨de h.2.2,List.mem_range.mp h.1,List.mem_range.mp h.2.1⟩
 .unfold Ui at hw;obtain⟨t,_,rfl⟩:=ax.mp hw;have hl:(S (Nm ms at' size t)).length=size:=by rw[Zlp];unfold Nm;simp
  refine⟨by rw[hl];exact hs1,by rw[hl];exact hs8,λc hc=>?_⟩;rw[Zok]at hc;unfold Nm at hc;obtain⟨k,_,rfl⟩:=ax.mp hc;have r1:=Int.emod_nonneg (ms.getD k 0+7*(t:Int)*(if(k:Int)=at' then 1 else 0)) (show(26:Int)≠0 by decide);have r2:=Int.emod_lt_of_pos (ms.getD k 0+7*(t:Int)*(if(k:Int)=at' then 1 else 0)) (show(0:Int)<26 by decide);exact Zsn _ (by omega)
end My
namespace My
open DL PySem TT TX
noncomputable abbrev STS : Str := "ABCDEFGHIJKLMNOPQRSTUVWXYZabcdefghijklmnopqrstuvwxyz0123456789 .,!?'-/()&+*=:;"
noncomputable abbrev RUN : Str := "ABCDEFGHIJKLMNOPQRSTUVWXYZabcdefghijklmnopqrstuvwxyz0123456789 .,!?'-/()&+*=:;\n"
theorem Zsp:STS++au "\n"=RUN:=by decide+kernel
theorem Zot:∀c∈RUN.cps.toList,inS ⟨#[c]⟩ RUN=aC:=by decide+kernel
theorem Zou:∀c∈Tp.cps.toList,inS ⟨#[c]⟩ Tp=aC:=by decide+kernel
theorem Ey:∀c∈RUN.cps.toList,c≠60/\c≠62:=by decide+kernel
theorem Zaa:∀c∈Tp.cps.toList,c∈RUN.cps.toList/\c≠32:=by decide+kernel
theorem Ez:∀xs:List D,bools? (xs.map λ_=>D.bl aC)=aA (xs.map λ_=>aC)
 | []=>rfl
 |x::r=>by simp[Ez r]
def Of(sg w:Str):Prop:=∀c∈w.cps.toList,c∈sg.cps.toList
theorem Zlq(sg w:Str)(hin:∀c∈sg.cps.toList,inS ⟨#[c]⟩ sg=aC)(hw:Of sg w)(hl:w.length<=1000000):Gen.W5 [.str w,.str sg]=aA (.fz (.bl aC)):=by
 have c:=Er (te:=Gen.O1) (f:=λ_=>D.bl aC) (c:=aA (.fz (.str sg))) (j:=1) (signs w) [] (λx hx zs=>by
  unfold signs at hx;obtain⟨k,hk,rfl⟩:=ax.mp hx;have e:=hin k (hw k hk);unfold Gen.O1;simp[-inS,e]) (by unfold signs;rw[am,Wy];simp;omega)
 rw[cy]at c;have s:=Ez (signs w);unfold Gen.W5 Gen.C6;simp[c,s]
theorem Zov(k:Str)(h:Key k):Gen.Bc [.str k]=aA (.fz (.bl aC)):=by
 have h1:=h.one;have h2:=h.most;have a:=Zlq Tp k Zou h.of (by omega);have z:k.length<=PySem.sizeLine:=Zt (by omega);have a1:(1:Int)<=(k.length:Int):=by omega
 have a2:(k.length:Int)<=8:=by omega
 have t:Gen.Wu [.str k,.str Tp,.int 8]=aA (.fz (.bl aC)):=by unfold Gen.Wu Gen.B1;simp[z,a1,a2,h1,h2,a]
 unfold Gen.Bc Gen.Tn;simp[t]
noncomputable abbrev T6:Str:="<"
noncomputable abbrev GTS:Str:=">"
noncomputable abbrev BLK:Str:=" "
theorem Zb2{k:Str}(h:Key k):32∉k.cps.toList:=λz=>(Zaa 32 (h.of 32 z)).2 rfl
theorem Zab{k:Str}(h:Key k):Of RUN k:=λc hc=>(Zaa c (h.of c hc)).1
noncomputable abbrev ptD(k:Str):D:=.tup [.str "point",.str k,.non]
theorem Zb3{k:Str}(h:Key k):Gen.Q7 [.str k]=aA (.v (.fz (ptD k))):=by
 have hn:=Zov k h;have hb:=Zb2 h;have hbs:BLK=S [32]:=by decide+kernel
 have zl:=h.most;have z:k.length<=PySem.sizeLine:=Zt (by omega);have hl0:¬(au " ").length=0:=by decide+kernel
 have he:au ""=Str.empty:=rfl;have z3:3<=PySem.sizeLine:=Zt (by decide);have p1:Txt.partition k (au " ")=(k,ez,ez):=by have:=Ss (Mo 32) k hb;rw[<-hbs]at this;exact this
 unfold Gen.Q7 Gen.B2;simp[L2.atI,L2.ixN,z,hl0,p1,hn,he,z3]
noncomputable def rn(r:Str):List D:=if r=ez then[]else[.str r]
structure Rn(r:Str):Prop where
 of:Of RUN r
 len:r.length<=1000
noncomputable abbrev Bf:=Str×Str
structure ItOk(x:Bf):Prop where
 k:Key x.1
 r:Rn x.2
def it(x:Bf):List D:=ptD x.1::rn x.2
def Jv(r0:Str)(xs:List Bf):List D:=rn r0++xs.flatMap it
def T7(x:Bf):Str:=x.1++GTS++x.2
def Wf(r0:Str)(xs:List Bf):Str:=cr T6 (r0::xs.map T7)
theorem Ng(r:Str):(rn r).length<=1:=by unfold rn;split<;> simp
theorem S1:∀xs:List Bf,(xs.flatMap it).length<=2*xs.length
 | []=>bg _
 |x::xs=>by have h1:=S1 xs;have h2:=Ng x.2;have h3:(it x).length=(rn x.2).length+1:=rfl;rw[List.flatMap_cons,aw,bd];omega
theorem Zac:T6=S [60]:=by decide+kernel
theorem Zlr:GTS=S [62]:=by decide+kernel
theorem Zf4{k:Str}(h:Key k):62∉k.cps.toList:=λz=>(Ey 62 (Zab h 62 z)).2 rfl
theorem Zf5{k:Str}(h:Key k):60∉k.cps.toList:=λz=>(Ey 60 (Zab h 60 z)).1 rfl
theorem Zox(x:Bf)(h:ItOk x):60∉(T7 x).cps.toList:=by
 unfold T7;have e:(x.1++GTS++x.2).cps.toList=x.1.cps.toList++[62]++x.2.cps.toList:=by simp[Str.cps_append];rfl
 rw[e];intro z;rcases cj.mp z with z|z
 .rcases cj.mp z with z|z
  .exact Zf5 h.k z
  .simp at z
 .exact(Ey 60 (h.r.of 60 z)).1 rfl
theorem Zad(x:Bf)(h:ItOk x):(T7 x).length<=1100:=by
 unfold T7;have c1:GTS.length=1:=by decide+kernel
 have:=h.k.most;have:=h.r.len;rw[Jn,Jn,c1];omega
def Jm(r0:Str)(xs:List Bf):List Str:=r0::xs.flatMap λx=>[x.1,x.2]
theorem T8(a0 a1 a2:Option SV):∀(xs:List Bf) (cs:List Str) (x4 x5:Option SV),(∀x∈xs,ItOk x)->cs.length+2*xs.length<=1000->
  ∃y4 y5,Y8 (Zi 4) Gen.Jj ((xs.map T7).map D.str) [a0,a1,a2,aA (.ol (cs.map D.str)),x4,x5]=aA (.nx [a0,a1,a2,aA (.ol ((cs++xs.flatMap λx=>[x.1,x.2]).map D.str)),y4,y5])
 | [],cs,x4,x5,_,_=>⟨x4,x5,by simp⟩
 |x::xs,cs,x4,x5,h,hl=>by
  rw[bd]at hl;have hx:=h x af;have p1:Txt.partition (T7 x) (au ">")=(x.1,au ">",x.2):=by have:=Xo 62 x.1 x.2 (Zf4 hx.k);rw[<-Zlr]at this;exact this
  have sl:=Zad x hx;have z:(T7 x).length<=PySem.sizeLine:=Zt (by omega);have hl0:¬(au ">").length=0:=by decide+kernel
  have he:au ""=Str.empty:=rfl;have hne:¬au ">"=Str.empty:=by decide+kernel
  have z0:2<=PySem.sizeLine:=Zt (by decide);have z2:cs.length+2<=PySem.sizeLine:=Zt (by omega);have hb:Gen.Jj [a0,a1,a2,aA (.ol (cs.map D.str)),aA (.fz (.str (T7 x))),x5]=aA (.nx [a0,a1,a2,aA (.ol ((cs++[x.1,x.2]).map D.str)),aA (.fz (.str (T7 x))),aA (.fz (.tup [.str x.1,.str ">",.str x.2]))]):=by unfold Gen.Jj;simp[L2.atI,L2.ixN,p1,z,hl0,he,hne,z0,z2]
  obtain⟨y4,y5,e⟩:=T8 a0 a1 a2 xs (cs++[x.1,x.2]) (aA (.fz (.str (T7 x)))) (aA (.fz (.tup [.str x.1,.str ">",.str x.2]))) (λy hy=>h y (aj _ hy)) (by rw[aw];simp;omega);refine⟨y4,y5,?_⟩;rw[ay,ay];refine(Wa (by simp) hb).trans (e.trans ?_);simp
theorem Zoy{ts:List Str}(h:∀t∈ts,Rn t):Of RUN (cat ts)/\(cat ts).length<=ts.length*1000:=by
 induction ts with
 |nil=>exact⟨(λc hc=>by have:(cat []).cps.toList=[]:=rfl;rw[this]at hc;exact nomatch hc),d8 _⟩
 |cons t ts ih=>
  obtain⟨h1,h2⟩:=ih λu hu=>h u (aj _ hu);have ht:=h t af;constructor
  .intro c hc;have e:(cat (t::ts)).cps.toList=t.cps.toList++(cat ts).cps.toList:=by show(t++cat ts).cps.toList=_;simp[Str.cps_append]
   rw[e]at hc;rcases cj.mp hc with hc|hc
   .exact ht.of c hc
   .exact h1 c hc
  .show(t++cat ts).length<=_;rw[Jn,bd,Nat.succ_mul];have:=ht.len;omega
theorem Ko(r0:Str)(xs:List Bf)(h0:Rn r0)(h:∀x∈xs,ItOk x):(Wf r0 xs).length<=(xs.length+1)*1200:=by
 have:=Zfr (sep:=T6) (B:=1100) (r0::xs.map T7) (λx hx=>by
  rcases bo.mp hx with e|hx
  .rw[e];have:=h0.len;omega
  .obtain⟨y,hy,rfl⟩:=ax.mp hx;exact Zad y (h y hy))
 have c1:T6.length=1:=by decide+kernel
 rw[c1,bd,am]at this;unfold Wf;omega
theorem Zb4(r0:Str)(xs:List Bf)(h0:Rn r0)(h:∀x∈xs,ItOk x)(hl:xs.length<=100):Gen.U0 [.str (Wf r0 xs),.str RUN]=aA (.ol ((Jm r0 xs).map D.str)):=by
 have sp:Txt.split (Wf r0 xs) T6=r0::xs.map T7:=by
  have:=Es (Mo 60) (by rw[<-Zac];decide+kernel) (r0::xs.map T7) (by simp) (λp hp=>by
   rcases bo.mp hp with e|hp
   .rw[e];exact λz=>(Ey 60 (h0.of 60 z)).1 rfl
   .obtain⟨y,hy,rfl⟩:=ax.mp hp;exact Zox y (h y hy))
  rw[<-Zac]at this;exact this
 have wl:=Ko r0 xs h0 h;have z:(Wf r0 xs).length<=PySem.sizeLine:=Zt (by omega);have z1':xs.length+1<=PySem.sizeLine:=Zt (by omega);have z1:1<=PySem.sizeLine:=Zt (by decide);have hl0:¬T6.length=0:=by decide+kernel
 have hh:au "<"=T6:=rfl;have cu:Cf (.str r0::(xs.map T7).map D.str) (aA 1) aB=(xs.map T7).map D.str:=by have:=Su (.str r0::(xs.map T7).map D.str) 1 (by simp);exact this
 obtain⟨y4,y5,e⟩:=T8 (aA (.fz (.str (Wf r0 xs)))) (aA (.fz (.str RUN))) (aA (.ol (.str r0::(xs.map T7).map D.str))) xs [r0] aB aB h (by simp;omega);have a0:L2.atI (.str r0::(xs.map T7).map D.str) 0=aA (.str r0):=Yc _ 0 _ rfl;have er:∀x∈r0::xs.map Prod.snd,Rn x:=λx hx=>by
  rcases bo.mp hx with e|hx
  .rw[e];exact h0
  .obtain⟨y,hy,rfl⟩:=ax.mp hx;exact(h y hy).r
 have pk:L2.Oj ((Jm r0 xs).map D.str) aB aB (aA 2)=(r0::xs.map Prod.snd).map D.str:=by rw[Zf0,Zfz];unfold Jm;rw[D9]
 obtain⟨co,cl⟩:=Zoy er;have ss:=Ep (r0::xs.map Prod.snd);have jo:JoinOk (au "") (r0::xs.map Prod.snd)=aC:=Zfq (B:=1000) (λx hx=>(er x hx).len) (by
  have e0:(au "").length=0:=by decide+kernel
  rw[e0];simp;omega)
 have jn:Txt.join (au "") (r0::xs.map Prod.snd)=cat (r0::xs.map Prod.snd):=Zoi _;have al:=Zlq RUN (cat (r0::xs.map Prod.snd)) Zot co (by simp at cl;omega);have ec:[r0]++(xs.flatMap λx=>[x.1,x.2])=Jm r0 xs:=rfl;rw[ec]at e;simp only[ay,List.map_nil]at e;generalize Jm r0 xs=cs at*;generalize r0::xs.map Prod.snd=rs at*;unfold Gen.U0 Gen.Mq;simp[-Y8,-cx,hh,sp,z,z1',z1,hl0,cu,e,a0,pk,ss,jo,jn,al]
theorem Kp(a0 a1:Option SV):∀(xs:List Bf) (i:Nat) (ps:List D) (x3 x4:Option SV),(∀x∈xs,ItOk x)->i % 2=1->ps.length+2*xs.length<=1000->
  ∃y3 y4,Y8 (Jz 2 (Yo (Zi 3) (Yo (Zi 4) (Ug)))) Gen.Yy (C0 i ((xs.flatMap λx=>[x.1,x.2]).map D.str)) [a0,a1,aA (.ol ps),x3,x4]=aA (.nx [a0,a1,aA (.ol (ps++xs.flatMap it)),y3,y4])
 | [],i,ps,x3,x4,_,_,_=>⟨x3,x4,by simp[C0]⟩
 |x::xs,i,ps,x3,x4,ho,hi,hl=>by
  rw[bd]at hl;have rp:=Zb3 (ho x af).k;have z1:ps.length<PySem.sizeLine:=Ym (by omega);have z2:ps.length+1<PySem.sizeLine:=Ym (by omega);have m1:((i:Nat):Int) % 2=1:=by omega
  have m2:¬((i:Int)+1) % 2=1:=by omega
  have he:au ""=Str.empty:=rfl;have hb:Gen.Yy [a0,a1,aA (.ol ps),aA (.fz (.int (i:Int))),aA (.fz (.str x.1))]=aA (.nx [a0,a1,aA (.ol (ps++[ptD x.1])),aA (.fz (.int (i:Int))),aA (.fz (.str x.1))]):=by unfold Gen.Yy;simp[m1,rp,z1]
  have hb2:Gen.Yy [a0,a1,aA (.ol (ps++[ptD x.1])),aA (.fz (.int (((i+1:Nat)):Int))),aA (.fz (.str x.2))]=aA (.nx [a0,a1,aA (.ol (ps++[ptD x.1]++rn x.2)),aA (.fz (.int (((i+1:Nat)):Int))),aA (.fz (.str x.2))]):=by
   have e1:((i+1:Nat):Int)=(i:Int)+1:=by omega
   rw[e1];unfold Gen.Yy rn;by_cases h0:x.2=ez
   .simp[m2,he,h0]
   .simp[m2,he,h0,z2]
  have rl:=Ng x.2;have el:(ps++[ptD x.1]++rn x.2).length<=ps.length+2:=by simp;omega
  obtain⟨y3,y4,e⟩:=Kp a0 a1 xs (i+1+1) (ps++[ptD x.1]++rn x.2) (aA (.fz (.int (((i+1:Nat)):Int)))) (aA (.fz (.str x.2))) (λy hy=>ho y (aj _ hy)) (by omega) (by omega);refine⟨y3,y4,?_⟩;show Y8 _ _ (.tup [.int (i:Int),.str x.1]:: .tup [.int ((i+1:Nat):Int),.str x.2]::C0 (i+1+1) ((xs.flatMap λx=>[x.1,x.2]).map D.str)) _=_;refine(Wa (by simp) hb).trans ((Wa (by simp) hb2).trans (e.trans ?_));simp[it]
theorem Zf6(r0:Str)(xs:List Bf)(h0:Rn r0)(h:∀x∈xs,ItOk x)(hl:xs.length<=100):Gen.Wi [.str (Wf r0 xs)]=aA (.v (.ol (Jv r0 xs))):=by
 have an:=Zb4 r0 xs h0 h hl;have z:STS.length+(au "\n").length<=PySem.sizeLine:=Zt (by decide+kernel);have he:au ""=Str.empty:=rfl;have zz:0<PySem.sizeLine:=Ym (by decide);have rl:=Ng r0;have hb:Gen.Yy [aA (.fz (.str (Wf r0 xs))),aA (.fz (.lst ((Jm r0 xs).map D.str))),aA (.ol []),aA (.fz (.int ((0:Nat):Int))),aA (.fz (.str r0))]=aA (.nx [aA (.fz (.str (Wf r0 xs))),aA (.fz (.lst ((Jm r0 xs).map D.str))),aA (.ol (rn r0)),aA (.fz (.int ((0:Nat):Int))),aA (.fz (.str r0))]):=by
  have i0:((0:Nat):Int)=0:=rfl;rw[i0];generalize (Jm r0 xs).map D.str=cs;unfold Gen.Yy rn;by_cases h0:r0=ez
  .simp[he,h0]
  .simp[he,h0,zz]
 obtain⟨y3,y4,e⟩:=Kp (aA (.fz (.str (Wf r0 xs)))) (aA (.fz (.lst ((Jm r0 xs).map D.str)))) xs 1 (rn r0) (aA (.fz (.int ((0:Nat):Int)))) (aA (.fz (.str r0))) h rfl (by omega);have lp:Y8 (Jz 2 (Yo (Zi 3) (Yo (Zi 4) (Ug)))) Gen.Yy (C0 0 ((Jm r0 xs).map D.str)) [aA (.fz (.str (Wf r0 xs))),aA (.fz (.lst ((Jm r0 xs).map D.str))),aA (.ol []),aB,aB]=aA (.nx [aA (.fz (.str (Wf r0 xs))),aA (.fz (.lst ((Jm r0 xs).map D.str))),aA (.ol (rn r0++xs.flatMap it)),y3,y4]):=by refine Eq.trans ?_ e;show Y8 _ _ (.tup [.int ((0:Nat):Int),.str r0]::C0 1 ((xs.flatMap λx=>[x.1,x.2]).map D.str)) _=_;exact Wa (by simp) hb
 generalize Jm r0 xs=cs at*;unfold Gen.Wi Gen.J3 Jv;simp[-Y8,Zsp,z,an,D6,lp]
end My
namespace My
open DL PySem TT TX
noncomputable abbrev Mw:Str:="see "
noncomputable abbrev AND:Str:=" and "
theorem Xs:Rn Mw:=⟨(by unfold Of;decide+kernel),by decide+kernel⟩
theorem Zoz:Rn AND:=⟨(by unfold Of;decide+kernel),by decide+kernel⟩
theorem Zo0:Rn Str.empty:=⟨(λc h=>by have:(ez).cps.toList=[]:=rfl;rw[this]at h;exact nomatch h),by decide+kernel⟩
noncomputable def Rt(k:Str):Str:=au "see <"++k
theorem Zf8(k:Str):Rt k=cr T6 [Mw,k]:=by
 have e:au "see <"=Mw++T6:=by decide+kernel
 unfold Rt;rw[e];rfl
theorem Zae{k:Str}(h:Key k):(Rt k).length<=100:=by
 have:=h.most;have e:(au "see <").length=5:=by decide+kernel
 unfold Rt;rw[Jn,e];omega
theorem Xt{k:Str}(h:Key k):Gen.U0 [.str (Rt k),.str RUN]=aA (.fz .non):=by
 have sp:Txt.split (Rt k) T6=[Mw,k]:=by
  have:=Es (Mo 60) (by rw[<-Zac];decide+kernel) [Mw,k] (by simp) (λp hp=>by
   rcases bo.mp hp with e|hp
   .rw[e];exact λz=>(Ey 60 (Xs.of 60 z)).1 rfl
   .rw[aq.mp hp];exact Zf5 h)
  rw[<-Zac,<-Zf8]at this;exact this
 have bl:=Zae h;have kl:=h.most;have z:(Rt k).length<=PySem.sizeLine:=Zt (by omega);have zk:k.length<=PySem.sizeLine:=Zt (by omega);have z1:1<=PySem.sizeLine:=Zt (by decide);have z2:2<=PySem.sizeLine:=Zt (by decide);have hl0:¬T6.length=0:=by decide+kernel
 have hl1:¬(au ">").length=0:=by decide+kernel
 have hh:au "<"=T6:=rfl;have he:au ""=Str.empty:=rfl;have p1:Txt.partition k (au ">")=(k,ez,ez):=by have:=Ss (Mo 62) k (Zf4 h);rw[<-Zlr]at this;exact this
 have cu:Cf [D.str Mw,.str k] (aA 1) aB=[.str k]:=Su [D.str Mw,.str k] 1 (by simp);have a0:L2.atI [D.str Mw,.str k] 0=aA (.str Mw):=Yc _ 0 _ rfl;have hb:∀a0 a1 a2 a3 x5,Gen.Jj [a0,a1,a2,a3,aA (.fz (.str k)),x5]=aA (.rt (.fz .non)):=λa0 a1 a2 a3 x5=>by unfold Gen.Jj;simp[L2.atI,L2.ixN,p1,zk,hl1,he]
 unfold Gen.U0 Gen.Mq;simp[hh,sp,z,z1,z2,hl0,cu,a0,hb]
theorem Zf9{k:Str}(h:Key k):Gen.Wi [.str (Rt k)]=aA (.x ⟨"NoText",[],[]⟩):=by have an:=Xt h;have z:STS.length+(au "\n").length<=PySem.sizeLine:=Zt (by decide+kernel);unfold Gen.Wi Gen.J3;simp[Zsp,z,an]
theorem Zb5:Gen.Wi [.non]=aA (.x ⟨"NoText",[],[]⟩):=by unfold Gen.Wi Gen.J3;simp
noncomputable def ptK:D->Option D
 | .tup [_,d,_]=>aA d
 |_=>aB
theorem Zsq(ps:List D)(h:∀p∈ps,(∃s,p= .str s)\/∃k,p=ptD k)(hl:ps.length<=1000):Gen.Q6 [.lst ps]=aA (.ol (ps.filterMap ptK)):=by
 have c:=Bq (src:=[.own,.acc]) (k:=1) (g:=Zi 0) (tt:=Gen.Q4) (te:=Gen.Q5) (st:=λzs=>[aB,aA (.ol zs)]) (f:=ptK) ps [] (λd hd zs ds' hz=>by
  rcases h d hd with⟨s,rfl⟩|⟨k,rfl⟩
  .have f:ptK (.str s)=aB:=rfl;rw[f]
   conv=>lhs;rw[Z4]
   unfold Gen.Q4 Gen.Q5;simp[-Z4]
  .have f:ptK (ptD k)=aA (.str k):=rfl;rw[f];have a1:L2.atI [D.str "point",.str k,.non] 1=aA (.str k):=Yc _ 1 _ rfl
   conv=>lhs;rw[Z4]
   unfold Gen.Q4 Gen.Q5;simp[-Z4,a1,hz]) (by simp;omega)
 rw[cy]at c;unfold Gen.Q6 Gen.B0;simp[-Z4,c]
theorem Zb6(r0:Str)(xs:List Bf):∀p∈Jv r0 xs,(∃s,p= .str s)\/∃k,p=ptD k:=by
 have hr:∀(r:Str),∀p∈rn r,∃s,p=D.str s:=λr p hp=>by
  unfold rn at hp;split at hp
  .exact nomatch hp
  .exact⟨r,aq.mp hp⟩
 intro p hp;unfold Jv at hp;rcases cj.mp hp with hp|hp
 .exact .inl (hr r0 p hp)
 .obtain⟨x,_,hp⟩:=List.mem_flatMap.mp hp;unfold it at hp;rcases bo.mp hp with e|hp
  .exact .inr ⟨x.1,e⟩
  .exact .inl (hr x.2 p hp)
theorem Xu(r0:Str)(xs:List Bf):(Jv r0 xs).filterMap ptK=xs.map λx=>D.str x.1:=by
 have hr:∀(r:Str),(rn r).filterMap ptK=[]:=λr=>by unfold rn;split<;> rfl
 unfold Jv;rw[List.filterMap_append,hr,cy];induction xs with
 |nil=>rfl
 |cons x xs ih=>rw[List.flatMap_cons,List.filterMap_append,ih];unfold it;have e:(ptD x.1::rn x.2).filterMap ptK=D.str x.1::(rn x.2).filterMap ptK:=rfl;rw[e,hr];rfl
theorem Zb7(r0:Str)(xs:List Bf):(Jv r0 xs).length<=2*xs.length+1:=by have h1:=Ng r0;have h2:=S1 xs;unfold Jv;rw[aw];omega
inductive Nt where
 |no|good (k:Str) (ks:List Str)|bad (k:Str)
def items:Str->List Str->List Bf
 |k,[]=>[(k,ez)]
 |k,k'::ks=>(k,AND)::items k' ks
theorem B8:∀(k:Str) (ks:List Str),(items k ks).map (·.1)=k::ks
 |_,[]=>rfl
 |k,k'::ks=>by show k::(items k' ks).map (·.1)=_;rw[B8 k' ks]
theorem E1:∀(k:Str) (ks:List Str),(∀x∈k::ks,Key x)->∀x∈items k ks,ItOk x
 |k,[],h,x,hx=>by obtain rfl:=aq.mp hx;exact⟨h k af,Zo0⟩
 |k,k'::ks,h,x,hx=>by
  rcases bo.mp hx with e|hx
  .rw[e];exact⟨h k af,Zoz⟩
  .exact E1 k' ks (λy hy=>h y (aj _ hy)) x hx
def Nt.text:Nt->Option Str
 | .no=>aB
 | .good k ks=>aA (Wf Mw (items k ks))
 | .bad k=>aA (Rt k)
noncomputable def Nt.keys:Nt->List Str
 | .good k ks=>k::ks
 |_=>[]
def Nt.Ok:Nt->Prop
 | .no=>True
 | .good k ks=>(∀x∈k::ks,Key x)/\ks.length<=10
 | .bad k=>Key k
structure Wk where
 nt:Nt
 inn:Option Str
noncomputable def Wk.ks(w:Wk):List Str:=au "title"::(((w.nt.text).map λ_=>au "note").toList++(w.inn.map λ_=>au "in").toList)
def Wk.vs(w:Wk):List D:=.str "So it is"::(((w.nt.text).map D.str).toList++(w.inn.map D.str).toList)
abbrev Wk.d(w:Wk):D:=.tup [.str "book",.dK (Zf w.ks) w.vs]
theorem Zb8(w:Wk):Yk (Zf w.ks) w.vs (bh (au "note"))=w.nt.text.map D.str:=by
 rw[Mp];unfold Wk.ks Wk.vs;have n1:¬au "title"=au "note":=by decide+kernel
 have n2:¬au "in"=au "note":=by decide+kernel
 cases w.nt.text<;> cases w.inn<;> simp[n1,n2]
theorem Zaf(w:Wk):Yk (Zf w.ks) w.vs (bh (au "in"))=w.inn.map D.str:=by
 rw[Mp];unfold Wk.ks Wk.vs;have n1:¬au "title"=au "in":=by decide+kernel
 have n2:¬au "note"=au "in":=by decide+kernel
 cases w.nt.text<;> cases w.inn<;> simp[n1,n2]
theorem note_keys(w:Wk)(h:w.nt.Ok):Gen.W6 [w.d]=aA (.ol (w.nt.keys.map D.str)):=by
 have l:=Zb8 w;have a1:L2.atI [D.str "book",.dK (Zf w.ks) w.vs] 1=aA (.dK (Zf w.ks) w.vs):=Yc _ 1 _ rfl;unfold Wk.d;generalize Zf w.ks=KS at*;generalize w.vs=VS at*;cases hn:w.nt with
 |no=>rw[hn]at l;have l:Yk KS VS (bh (au "note"))=aB:=l;have r:=Zb5;unfold Gen.W6 Gen.Ua Gen.O2;simp[l,a1,r,Nt.keys,-Yk]
 |bad k=>rw[hn]at l h;have l:Yk KS VS (bh (au "note"))=aA (.str (Rt k)):=l;have r:=Zf9 (show Key k from h);unfold Gen.W6 Gen.Ua Gen.O2;simp[l,a1,r,Nt.keys,-Yk]
 |good k ks=>
  rw[hn]at l h;have l:Yk KS VS (bh (au "note"))=aA (.str (Wf Mw (items k ks))):=l;have h:(∀x∈k::ks,Key x)/\ks.length<=10:=h;have il:(items k ks).length=ks.length+1:=by rw[<-am (f:=λx:Bf=>x.1),B8];rfl
  have r:=Zf6 Mw (items k ks) Xs (E1 k ks h.1) (by omega);have pl:=Zb7 Mw (items k ks);have p:=Zsq (Jv Mw (items k ks)) (Zb6 _ _) (by omega);rw[Xu]at p;have ek:(items k ks).map (λx=>D.str x.1)=(k::ks).map D.str:=by rw[<-B8 k ks,cx];rfl
  rw[ek]at p;show _=aA (SV.ol ((k::ks).map D.str));generalize Jv Mw (items k ks)=PS at*;generalize (k::ks).map D.str=KD at*;generalize Wf Mw (items k ks)=WT at*;unfold Gen.W6 Gen.Ua;simp[l,a1,r,p,-Yk]
end My
namespace My
open DL PySem TT TX
theorem Z3{a b:FS}{δ δ':Yw}(h:a δ=aA (.nx δ')):Zm a b δ=b δ':=by unfold Zm;rw[h];rfl
theorem Kq{k:Str}{x v:D}{xs:List Str}{vs:List D}(h:k∉xs)(hl:xs.length=vs.length):Wm (xs++[k]) (vs++[x]) k v=(xs++[k],vs++[v]):=by
 unfold Wm;rw[if_pos (by simp),List.zip_append hl,b4];have e:(xs.zip vs).map (λp=>if p.1=k then v else p.2)=vs:=by have:(xs.zip vs).map (λp=>if p.1=k then v else p.2)=(xs.zip vs).map Prod.snd:=List.map_congr_left λp hp=>if_neg λ(z:p.1=k)=>h (by rw[<-z];exact(List.of_mem_zip hp).1);rw[this,List.map_snd_zip (by omega)]
 rw[e];simp
def tk(k:Str):Str:=T6++k++GTS
theorem Kr:∀(k:Str) (ks:List Str),cr AND ((k::ks).map tk)=T6++cr T6 ((items k ks).map T7)
 |k,[]=>by
  show tk k=T6++(k++GTS++ez)
  rw[Str.append_empty];unfold tk;simp only[Str.append_assoc]
 |k,k'::ks=>by
  have ih:=Kr k' ks;have e:∃y r,(items k' ks).map T7=y::r:=by cases ks<;> exact⟨_,_,rfl⟩
  obtain⟨y,r,hy⟩:=e;show tk k++AND++cr AND ((k'::ks).map tk)=T6++cr T6 (T7 (k,AND)::(items k' ks).map T7);rw[ih,hy];show tk k++AND++(T6++cr T6 (y::r))=T6++(T7 (k,AND)++T6++cr T6 (y::r))
  unfold tk T7;simp only[Str.append_assoc]
theorem Zb9(k:Str)(ks:List Str):Mw++cr AND ((k::ks).map tk)=Wf Mw (items k ks):=by
 have e:∃y r,(items k ks).map T7=y::r:=by cases ks<;> exact⟨_,_,rfl⟩
 obtain⟨y,r,hy⟩:=e;rw[Kr];unfold Wf;rw[hy];show _=Mw++T6++cr T6 (y::r);simp only[Str.append_assoc]
theorem Zo1{k:Str}(h:Key k):(tk k).length<=10:=by
 have:=h.most;have c1:T6.length=1:=by decide+kernel
 have c2:GTS.length=1:=by decide+kernel
 unfold tk;rw[Jn,Jn,c1,c2];omega
structure Ws(ws:List Str)(n:Nat):Prop where
 len:ws.length=n+2
 nd:ws.Nodup
 key:∀w∈ws,Key w
 few:n<=12
theorem Xv{ws:List Str}{n:Nat}(h:Ws ws n)(x:Int):∃k∈ws,L2.atI (ws.map D.str) (x % ((n:Int)+2))=aA (.str k):=by obtain⟨c,hc,e⟩:=Zom (ws.map D.str) x ((n:Int)+2) (by rw[am,h.len];omega) (by omega);obtain⟨k,hk,rfl⟩:=ax.mp hc;exact⟨k,hk,e⟩
theorem Ks{ws:List Str}{n:Nat}(h:Ws ws n)(ms:List Int)(hm:ms.length=6):∀(c s:Nat) (zs:List D),s+c<=3->zs.length+c<=10->
  ∃ks:List Str,ks.length=c/\(∀k∈ks,k∈ws)/\Z4 [.own,.cap 0,.cap 6,.acc] 3 (Zi 0) Y9 Gen.Qi (Cg s c) [aB,aA (.fz (.lst (ws.map D.str))),aA (.fz (.lst (ms.map D.int))),aA (.ol zs)]=aA [aB,aA (.fz (.lst (ws.map D.str))),aA (.fz (.lst (ms.map D.int))),aA (.ol (zs++ks.map D.str))]
 |0,s,zs,_,_=>⟨[],rfl,(λ_ z=>nomatch z),by simp[Cg]⟩
 |c+1,s,zs,hs,hz=>by
  have hi:1+s<ms.length:=by omega
  have gx:L2.atI (ms.map D.int) (1+(s:Int))=aA (.int (ms.getD (1+s) 0)):=by have:=Yc (ms.map D.int) (1+s) (.int (ms.getD (1+s) 0)) (by rw[bn,bj hi,cf,bj hi];rfl);rw[<-this];congr 1
  obtain⟨k,hk,ek⟩:=Xv h (ms.getD (1+s) 0);obtain⟨ks,h1,h2,h3⟩:=Ks h ms hm c (s+1) (zs++[.str k]) (by omega) (by rw[aw,c6];omega);refine⟨k::ks,by rw[bd,h1],λx hx=>by rcases bo.mp hx with e|hx;exact e▸hk;exact h2 x hx,?_⟩;have z:zs.length<PySem.sizeLine:=Ym (by omega);have zl:ws.length<=PySem.sizeLine:=Zt (by have:=h.len;have:=h.few;omega);have el:((ws.length:Nat):Int)=(n:Int)+2:=by rw[h.len];omega
  have lm:(ws.map D.str).length=ws.length:=am ..;have p0:(0:Int)<(n:Int)+2:=by omega
  rw[ay,<-List.singleton_append (l:=ks.map D.str),<-dy,<-h3];generalize ws.map D.str=WS at*;generalize ms.map D.int=MS at*;generalize ms.getD (1+s) 0=y at*;show Z4 _ _ _ _ _ (.int (s:Int)::Cg (s+1) c) _=_
  conv=>lhs;rw[Z4]
  unfold Gen.Qi;simp[-Z4,gx,lm,el,p0,zl,ek,z]
end My
namespace My
open DL PySem TT TX
theorem Kt{k:Str}{v:D}:∀{xs:List Str} {vs:List D},k∉xs->xs.length=vs.length->Yk (xs++[k]) (vs++[v]) k=aA v
 | [],[],_,_=>by simp
 |x::xs,w::vs,h,hl=>by have h1:¬x=k:=λz=>h (by rw[z];exact af);have ih:=Kt (v:=v) (xs:=xs) (vs:=vs) (λz=>h (aj _ z)) (by simpa using hl);show(if x=k then aA w else Yk (xs++[k]) (vs++[v]) k)=aA v;rw[if_neg h1];exact ih
 | [],_::_,_,hl=>by simp at hl
 |_::_,[],_,hl=>by simp at hl
abbrev sG:FS:=Zm (Oo 3 (Zg Wh (Za 0) (Za 4)) (Yv [.own,.cap 0,.cap 6,.acc] 3 (Lh (Zc (Zg Ue (Zb (.int 1)) (Zg Qw (Zg A2 (Zg Wh (Za 6) (Zb (.int 0))) (Zb (.int 3))) (Zb (.int 3)))) Zj)) (Zi 0) (Y9) Gen.Qi)) (Oo 7 (Zb (.str "note")) (Zg Ue (Zb (.str "see ")) (bmF "str" M6 (Zb (.str " and ")) (Zc (Yv [.own,.acc] 1 (Wr (Zg Wh (Za 3) (Zg Wh (Za 0) (Za 4)))) (Zi 0) (Y9) Gen.Jp) Zj))))
noncomputable abbrev Mx:List Str:=[au "title"]
abbrev T9:List D:=[.str "So it is"]
theorem Zca{ws:List Str}{n:Nat}(h:Ws ws n)(ms:List Int)(hm:ms.length=6)(a1 a2 a5:Option SV)(i:Nat)(key:Str)(hk:L2.atI (ws.map D.str) (i:Int)=aA (.str key))(xs:List Str)(vs:List D)(hx:key∉xs)(hl:xs.length=vs.length)(hs:vs.length<=20):
  ∃k ks,(∀x∈k::ks,x∈ws)/\ks.length<=2/\sG [aA (.fz (.lst (ws.map D.str))),a1,a2,aA (.oK (Zf (xs++[key])) (vs++[.lst []])),aA (.fz (.int (i:Int))),a5,aA (.ol (ms.map D.int)),aA (.oK (Zf Mx) T9)]=
   aA (.nx [aA (.fz (.lst (ws.map D.str))),a1,a2,aA (.oK (Zf (xs++[key])) (vs++[.lst ((k::ks).map D.str)])),aA (.fz (.int (i:Int))),a5,aA (.fz (.lst (ms.map D.int))),aA (.oK (Zf (Mx++[au "note"])) (T9++[.str (Wf Mw (items k ks))]))]):=by
 have g0:L2.atI (ms.map D.int) 0=aA (.int (ms.getD 0 0)):=Yc _ 0 _ (by rw[bn,bj (by omega:0<ms.length),cf,bj (by omega:0<ms.length)];rfl);have r0:0<=ms.getD 0 0 / 3 % 3:=Int.emod_nonneg _ (by decide);have r1:ms.getD 0 0 / 3 % 3<3:=Int.emod_lt_of_pos _ (by decide);obtain⟨c,hc⟩:∃c:Nat,1+ms.getD 0 0 / 3 % 3=(c:Int):=⟨(1+ms.getD 0 0 / 3 % 3).toNat,by omega⟩
 obtain⟨kks,e1,e2,e3⟩:=Ks h ms hm c 0 [] (by omega) (by simp;omega);obtain⟨k,ks,rfl⟩:∃k ks,kks=k::ks:=by
  cases kks with
  |nil=>simp at e1;omega
  |cons k ks=>exact⟨k,ks,rfl⟩
 have kl:ks.length<=2:=by rw[bd]at e1;omega
 refine⟨k,ks,e2,kl,?_⟩;have hK:∀x∈k::ks,Key x:=λx hx=>h.key x (e2 x hx);have gp:R8 (c:Int):=O9 (by omega);have et:((c:Int)).toNat=c:=by omega
 rw[cy]at e3;have z20:(vs++[D.lst []]).length<PySem.sizeLine:=Ym (by rw[aw,c6];omega);have pl:Wm (xs++[key]) (vs++[.lst []]) key (.lst ((k::ks).map D.str))=(xs++[key],vs++[.lst ((k::ks).map D.str)]):=Kq hx hl;have pi:=J1 key (.lst ((k::ks).map D.str)) (xs++[key]) (vs++[.lst []]);rw[pl]at pi;have lk:Yk (Zf (xs++[key])) (vs++[.lst ((k::ks).map D.str)]) (bh key)=aA (.lst ((k::ks).map D.str)):=by rw[Mp];exact Kt hx hl
 have st1:Oo 3 (Zg Wh (Za 0) (Za 4)) (Yv [.own,.cap 0,.cap 6,.acc] 3 (Lh (Zc (Zg Ue (Zb (.int 1)) (Zg Qw (Zg A2 (Zg Wh (Za 6) (Zb (.int 0))) (Zb (.int 3))) (Zb (.int 3)))) Zj)) (Zi 0) (Y9) Gen.Qi) [aA (.fz (.lst (ws.map D.str))),a1,a2,aA (.oK (Zf (xs++[key])) (vs++[.lst []])),aA (.fz (.int (i:Int))),a5,aA (.ol (ms.map D.int)),aA (.oK (Zf Mx) T9)]=
   aA (.nx [aA (.fz (.lst (ws.map D.str))),a1,a2,aA (.oK (Zf (xs++[key])) (vs++[.lst ((k::ks).map D.str)])),aA (.fz (.int (i:Int))),a5,aA (.fz (.lst (ms.map D.int))),aA (.oK (Zf Mx) T9)]):=by
  generalize (k::ks).map D.str=KD at*;generalize ws.map D.str=WS at*;generalize ms.map D.int=MS at*;generalize ms.getD 0 0=y at*;generalize Zf (xs++[key])=XK at*;generalize vs++[D.lst []]=VL at*;generalize vs++[D.lst KD]=VK at*;generalize Zf Mx=TL at*;have z1:VL.length<PySem.sizeLine:=z20;simp[-Z4,-Wm,g0,hc,gp,et,Ba,e3,hk,pi,z1]
 rw[sG,Z3 st1];have cm:=Cz (te:=Gen.Jp) (f:=λd=>match d with| .str x=>.str (tk x)|d=>d) ((k::ks).map D.str) [] (λx hx zs=>by
  obtain⟨w,hw,rfl⟩:=ax.mp hx;have:=(hK w hw).most;have c1:(au "<").length=1:=by decide+kernel
  have c2:(au ">").length=1:=by decide+kernel
  have z1:(au "<").length+w.length<=PySem.sizeLine:=Zt (by omega);have z2:(au "<"++w).length+(au ">").length<=PySem.sizeLine:=Zt (by rw[Jn];omega);unfold Gen.Jp tk;simp[z1,z2]) (by simp;omega)
 rw[cy,cx]at cm;have ef:((k::ks).map ((λd=>match d with| .str x=>.str (tk x)|d=>d)∘D.str):List D)=((k::ks).map tk).map D.str:=by rw[cx];rfl
 rw[ef]at cm;have ss:=Ep ((k::ks).map tk);have jo:JoinOk (au " and ") ((k::ks).map tk)=aC:=Zfq (B:=10) (λx hx=>by obtain⟨w,hw,rfl⟩:=ax.mp hx;exact Zo1 (hK w hw)) (by
  have e0:(au " and ").length=5:=by decide+kernel
  rw[e0,am,bd];omega)
 have jn:Txt.join (au " and ") ((k::ks).map tk)=cr AND ((k::ks).map tk):=Zsh _ _;have nt:=Zb9 k ks;have wl:=Ko Mw (items k ks) Xs (E1 k ks hK);have il:(items k ks).length=ks.length+1:=by rw[<-am (f:=λx:Bf=>x.1),B8];rfl
 have zs:Mw.length+(cr AND ((k::ks).map tk)).length<=PySem.sizeLine:=Zt (by rw[<-Jn,nt];omega);have zc:((k::ks).map D.str).length<=PySem.sizeLine:=Zt (by rw[am,bd];omega);have n1:¬au "title"=au "note":=by decide+kernel
 have pn:Wm (Zf Mx) T9 (bh (au "note")) (.str (Wf Mw (items k ks)))=(Zf (Mx++[au "note"]),T9++[.str (Wf Mw (items k ks))]):=by rw[J1,Bb (by simp;exact λz=>n1 z.symm)]
 have zt:T9.length<PySem.sizeLine:=Ym (by simp);generalize (k::ks).map tk=TK at*;generalize (k::ks).map D.str=KD at*;generalize ws.map D.str=WS at*;generalize ms.map D.int=MS at*;generalize Zf (xs++[key])=XK at*;generalize vs++[D.lst KD]=VK at*;generalize Wf Mw (items k ks)=WT at*;generalize Zf Mx=TL at*;generalize Zf (Mx++[au "note"])=TL2 at*;generalize hTV:T9=TV at*;have hsee:au "see "=Mw:=rfl;simp[-Z4,-Wm,-Yk,hk,lk,cm,ss,jo,jn,hsee,zs,nt,pn,zt]
end My
namespace My
open DL PySem TT TX
abbrev sB:FS:=U7 (Zu (Zg Aj (Zg Qw (Zg Wh (Za 6) (Zb (.int 0))) (Zb (.int 12))) (Zb (.int 0)))) (Oo 7 (Zb (.str "note")) (Zg Ue (Zb (.str "see <")) (Zg Wh (Za 0) (Zb (.int 0))))) (Yl)
abbrev sI:FS:=U7 (Zu (Zg Aj (Zg Qw (Zg Wh (Za 6) (Zb (.int 4))) (Zb (.int 2))) (Zb (.int 0)))) (Zm (Oo 7 (Zb (.str "in")) (Zg Wh (Za 0) (Zg Qw (Zg Wh (Za 6) (Zb (.int 5))) (Yg Ut (Zc (Za 0) Zj))))) (U7 (Zu (Zg Aj (Zg Qw (Zg Wh (Za 6) (Zb (.int 4))) (Zb (.int 3))) (Zb (.int 0)))) (Oo 7 (Zb (.str "in")) (Zg Wh (Za 0) (Zb (.int 0)))) (Yl))) (Yl)
abbrev sL:FS:=Oo 2 (Zg Wh (Za 0) (Za 4)) (tupF (Zk (Zb (.str "book")) (Zk (Za 7) (Zw))))
def Six(ms:List Int)(o:Option SV):Prop:=o=aA (.ol (ms.map D.int))\/o=aA (.fz (.lst (ms.map D.int)))
noncomputable abbrev Ao:Str:=au "in"
theorem Zj4{ws:List Str}{n:Nat}(h:Ws ws n)(ms:List Int)(hm:ms.length=6)(a1 a2 a3 a4 a5 s6:Option SV)(h6:Six ms s6)(fk:List Str)(fv:List D)(hf:Ao∉fk)(hl:fk.length=fv.length)(hs:fv.length<=10):
  ∃inn:Option Str,(∀k,inn=aA k->k∈ws)/\sI [aA (.fz (.lst (ws.map D.str))),a1,a2,a3,a4,a5,s6,aA (.oK (Zf fk) fv)]=
   aA (.nx [aA (.fz (.lst (ws.map D.str))),a1,a2,a3,a4,a5,s6,aA (.oK (Zf (fk++(inn.map λ_=>Ao).toList)) (fv++(inn.map D.str).toList))]):=by
 have g4:L2.atI (ms.map D.int) 4=aA (.int (ms.getD 4 0)):=Yc _ 4 _ (by rw[bn,bj (by omega:4<ms.length),cf,bj (by omega:4<ms.length)];rfl);have g5:L2.atI (ms.map D.int) 5=aA (.int (ms.getD 5 0)):=Yc _ 5 _ (by rw[bn,bj (by omega:5<ms.length),cf,bj (by omega:5<ms.length)];rfl);obtain⟨k,hk,ek⟩:=Xv h (ms.getD 5 0);have wl:=h.len;obtain⟨k0,r,hw⟩:∃k0 r,ws=k0::r:=by
  cases ws with
  |nil=>simp at wl
  |cons a b=>exact⟨a,b,rfl⟩
 have e0:L2.atI (ws.map D.str) 0=aA (.str k0):=Yc _ 0 _ (by rw[hw];rfl);have zl:ws.length<=PySem.sizeLine:=Zt (by have:=h.few;omega);have el:((ws.length:Nat):Int)=(n:Int)+2:=by rw[h.len];omega
 have lm:(ws.map D.str).length=ws.length:=am ..;have p0:(0:Int)<(n:Int)+2:=by omega
 have z1:fv.length<PySem.sizeLine:=Ym (by omega);have z2:fv.length+1<PySem.sizeLine:=Ym (by omega);have pn:∀x,Wm (Zf fk) fv (bh Ao) x=(Zf (fk++[Ao]),fv++[x]):=λx=>by rw[J1,Bb hf]
 have pl:∀x y,Wm (Zf (fk++[Ao])) (fv++[x]) (bh Ao) y=(Zf (fk++[Ao]),fv++[y]):=λx y=>by rw[J1,Kq hf hl]
 have hi:au "in"=Ao:=rfl;have k0m:k0∈ws:=by rw[hw];exact af
 by_cases c1:ms.getD 4 0 % 2=0
 .by_cases c2:ms.getD 4 0 % 3=0
  .refine⟨aA k0,λx e=>by cases e;exact k0m,?_⟩;show _=aA (Fl.nx [_,_,_,_,_,_,_,aA (.oK (Zf (fk++[Ao])) (fv++[.str k0]))]);rcases h6 with rfl|rfl
   .generalize ws.map D.str=WS at*;generalize ms.map D.int=MS at*;generalize Zf (fk++[Ao])=FK2 at*;generalize Zf fk=FK at*;generalize ms.getD 4 0=y4 at*;generalize ms.getD 5 0=y5 at*;simp[-Wm,g4,g5,c1,c2,lm,el,p0,zl,ek,e0,z1,z2,pn,pl,hi]
   .generalize ws.map D.str=WS at*;generalize ms.map D.int=MS at*;generalize Zf (fk++[Ao])=FK2 at*;generalize Zf fk=FK at*;generalize ms.getD 4 0=y4 at*;generalize ms.getD 5 0=y5 at*;simp[-Wm,g4,g5,c1,c2,lm,el,p0,zl,ek,e0,z1,z2,pn,pl,hi]
  .refine⟨aA k,λx e=>by cases e;exact hk,?_⟩;show _=aA (Fl.nx [_,_,_,_,_,_,_,aA (.oK (Zf (fk++[Ao])) (fv++[.str k]))]);rcases h6 with rfl|rfl
   .generalize ws.map D.str=WS at*;generalize ms.map D.int=MS at*;generalize Zf (fk++[Ao])=FK2 at*;generalize Zf fk=FK at*;generalize ms.getD 4 0=y4 at*;generalize ms.getD 5 0=y5 at*;simp[-Wm,g4,g5,c1,c2,lm,el,p0,zl,ek,e0,z1,z2,pn,pl,hi]
   .generalize ws.map D.str=WS at*;generalize ms.map D.int=MS at*;generalize Zf (fk++[Ao])=FK2 at*;generalize Zf fk=FK at*;generalize ms.getD 4 0=y4 at*;generalize ms.getD 5 0=y5 at*;simp[-Wm,g4,g5,c1,c2,lm,el,p0,zl,ek,e0,z1,z2,pn,pl,hi]
 .refine⟨aB,(λ_ e=>nomatch e),?_⟩;show _=aA (Fl.nx [_,_,_,_,_,_,_,aA (.oK (Zf (fk++[])) (fv++[]))]);rw[dm,dm];rcases h6 with rfl|rfl
  .generalize ws.map D.str=WS at*;generalize ms.map D.int=MS at*;generalize Zf fk=FK at*;generalize ms.getD 4 0=y4 at*;simp[g4,c1]
  .generalize ws.map D.str=WS at*;generalize ms.map D.int=MS at*;generalize Zf fk=FK at*;generalize ms.getD 4 0=y4 at*;simp[g4,c1]
end My
set_option maxHeartbeats 800000
namespace My
open DL PySem TT TX
structure WkOk(ws:List Str)(w:Wk):Prop where
 nt:w.nt.Ok
 mem:∀k∈w.nt.keys,k∈ws
 inn:∀k,w.inn=aA k->k∈ws
noncomputable abbrev ntD(w:Wk):D:=.lst (w.nt.keys.map D.str)
abbrev sG':FS:=U7 (Zu (Zg gtD (Zg Qw (Zg Wh (Za 6) (Zb (.int 0))) (Zb (.int 3))) (Zb (.int 0)))) sG Yl
theorem Zgb:Gen.Jq=Zm (Yd 6 (Yn 2 Gen.Z6 (Zc (Za 5) (Zc (Zb (.int 6)) (Zj))))) (Zm (Yd 7 (Eg [("title",Zb (.str "So it is"))])) (Zm (Oo 3 (Zg Wh (Za 0) (Za 4)) (Oq (Zw))) (Zm sG' (Zm sB (Zm sI sL))))):=rfl
theorem Xw {ws : List Str} {n : Nat} (h : Ws ws n) (a1 x6 x7 : Option SV) (i : Nat) (c : Int) (key : Str) (hk : L2.atI (ws.map D.str) (i : Int) = aA (.str key)) (xs : List Str) (sv nv : List D) (hx : key ∉ xs) (h1 : xs.length = sv.length) (h2 : xs.length = nv.length) (hs : xs.length <= 20) :
    ∃ w y6 y7, WkOk ws w /\ Gen.Jq [aA (.fz (.lst (ws.map D.str))), a1, aA (.oK (Zf xs) sv), aA (.oK (Zf xs) nv), aA (.fz (.int (i : Int))), aA (.fz (.int c)), x6, x7] =
      aA (.nx [aA (.fz (.lst (ws.map D.str))), a1, aA (.oK (Zf (xs ++ [key])) (sv ++ [w.d])), aA (.oK (Zf (xs ++ [key])) (nv ++ [ntD w])), aA (.fz (.int (i : Int))), aA (.fz (.int c)), y6, y7]) := by
  obtain ⟨ms, en, _, hm⟩ := Rs c 6 (by omega);have hm : ms.length = 6 := hm;have en : Gen.Z6 [D.int c, D.int 6] = aA (SV.ol (ms.map D.int)) := en;have z20 : nv.length < PySem.sizeLine := Ym (by omega);have z0 : 0 <= PySem.sizeLine := d8 _;have pn : Wm (Zf xs) nv (bh key) (.lst []) = (Zf (xs ++ [key]), nv ++ [.lst []]) := by rw [J1, Bb hx]
  rw [Zgb];have st1 : Yd 6 (Yn 2 Gen.Z6 (Zc (Za 5) (Zc (Zb (.int 6)) (Zj)))) [aA (.fz (.lst (ws.map D.str))), a1, aA (.oK (Zf xs) sv), aA (.oK (Zf xs) nv), aA (.fz (.int (i : Int))), aA (.fz (.int c)), x6, x7] =
      aA (.nx [aA (.fz (.lst (ws.map D.str))), a1, aA (.oK (Zf xs) sv), aA (.oK (Zf xs) nv), aA (.fz (.int (i : Int))), aA (.fz (.int c)), aA (.ol (ms.map D.int)), x7]) := by
    generalize ws.map D.str = WS at *;generalize ms.map D.int = MS at *;simp [en]
  rw [Z3 st1];have st2 : Yd 7 (Eg [("title", Zb (.str "So it is"))]) [aA (.fz (.lst (ws.map D.str))), a1, aA (.oK (Zf xs) sv), aA (.oK (Zf xs) nv), aA (.fz (.int (i : Int))), aA (.fz (.int c)), aA (.ol (ms.map D.int)), x7] =
      aA (.nx [aA (.fz (.lst (ws.map D.str))), a1, aA (.oK (Zf xs) sv), aA (.oK (Zf xs) nv), aA (.fz (.int (i : Int))), aA (.fz (.int c)), aA (.ol (ms.map D.int)), aA (.oK (Zf Mx) T9)]) := by
    generalize ws.map D.str = WS at *;generalize ms.map D.int = MS at *;generalize Zf xs = XS at *;simp [Zf]
  rw [Z3 st2];have st3 : Oo 3 (Zg Wh (Za 0) (Za 4)) (Oq (Zw)) [aA (.fz (.lst (ws.map D.str))), a1, aA (.oK (Zf xs) sv), aA (.oK (Zf xs) nv), aA (.fz (.int (i : Int))), aA (.fz (.int c)), aA (.ol (ms.map D.int)), aA (.oK (Zf Mx) T9)] =
      aA (.nx [aA (.fz (.lst (ws.map D.str))), a1, aA (.oK (Zf xs) sv), aA (.oK (Zf (xs ++ [key])) (nv ++ [.lst []])), aA (.fz (.int (i : Int))), aA (.fz (.int c)), aA (.ol (ms.map D.int)), aA (.oK (Zf Mx) T9)]) := by
    generalize ws.map D.str = WS at *;generalize ms.map D.int = MS at *;generalize Zf Mx = TL at *;generalize Zf (xs ++ [key]) = XS2 at *;generalize Zf xs = XS at *;simp [-Wm, hk, pn, z20, z0]
  rw [Z3 st3];have g0 : L2.atI (ms.map D.int) 0 = aA (.int (ms.getD 0 0)) := Yc _ 0 _ (by rw [bn, bj (by omega : 0 < ms.length), cf, bj (by omega : 0 < ms.length)]; rfl);have wl := h.len;obtain ⟨k0, r, hw⟩ : ∃ k0 r, ws = k0 :: r := by
    cases ws with
    | nil => simp at wl
    | cons a b => exact ⟨a, b, rfl⟩
  have e0 : L2.atI (ws.map D.str) 0 = aA (.str k0) := Yc _ 0 _ (by rw [hw]; rfl);have k0m : k0 ∈ ws := by rw [hw]; exact af
  have K0 := h.key k0 k0m;have n1 : ¬ au "note" = au "title" := by decide +kernel
  have n2 : ¬ Ao = au "title" := by decide +kernel
  have n3 : ¬ Ao = au "note" := by decide +kernel
  -- the note
  have A : ∃ (nt : Nt) (s6 : Option SV) (NK : List D) (FK : List Str) (FV : List D), nt.Ok /\ (∀ k ∈ nt.keys, k ∈ ws) /\ Six ms s6 /\ NK = nt.keys.map D.str /\ FK = Mx ++ (nt.text.map λ_ => au "note").toList /\ FV = T9 ++ (nt.text.map D.str).toList /\ Zm sG' (Zm sB (Zm sI sL)) [aA (.fz (.lst (ws.map D.str))), a1, aA (.oK (Zf xs) sv), aA (.oK (Zf (xs ++ [key])) (nv ++ [.lst []])), aA (.fz (.int (i : Int))), aA (.fz (.int c)), aA (.ol (ms.map D.int)), aA (.oK (Zf Mx) T9)] =
      Zm sI sL [aA (.fz (.lst (ws.map D.str))), a1, aA (.oK (Zf xs) sv), aA (.oK (Zf (xs ++ [key])) (nv ++ [.lst NK])), aA (.fz (.int (i : Int))), aA (.fz (.int c)), s6, aA (.oK (Zf FK) FV)] := by
    generalize hT : Zm sI sL = TAIL;by_cases c1 : 0 < ms.getD 0 0 % 3
    · obtain ⟨k, ks, m1, m2, e⟩ := Zca h ms hm a1 (aA (.oK (Zf xs) sv)) (aA (.fz (.int c))) i key hk xs nv hx h2 (by omega)
      have c2 : ¬ ms.getD 0 0 % 12 = 0 := by omega
      refine ⟨.good k ks, aA (.fz (.lst (ms.map D.int))), (k :: ks).map D.str, Mx ++ [au "note"], T9 ++ [.str (Wf Mw (items k ks))], ⟨λx hx => h.key x (m1 x hx), by omega⟩, m1, .inr rfl, rfl, rfl, rfl, ?_⟩;have t1 : sG' [aA (.fz (.lst (ws.map D.str))), a1, aA (.oK (Zf xs) sv), aA (.oK (Zf (xs ++ [key])) (nv ++ [.lst []])), aA (.fz (.int (i : Int))), aA (.fz (.int c)), aA (.ol (ms.map D.int)), aA (.oK (Zf Mx) T9)] = sG [aA (.fz (.lst (ws.map D.str))), a1, aA (.oK (Zf xs) sv), aA (.oK (Zf (xs ++ [key])) (nv ++ [.lst []])), aA (.fz (.int (i : Int))), aA (.fz (.int c)), aA (.ol (ms.map D.int)), aA (.oK (Zf Mx) T9)] := by unfold sG';generalize sG = G;generalize ws.map D.str = WS at *;generalize ms.map D.int = MS at *;generalize ms.getD 0 0 = y at *;simp [g0, c1]
      rw [Z3 (t1.trans e)];refine Z3 ?_;generalize ws.map D.str = WS at *;generalize ms.map D.int = MS at *;generalize ms.getD 0 0 = y at *;generalize (k :: ks).map D.str = KD at *;generalize Wf Mw (items k ks) = WT at *;simp [g0, c2]
    · have t1 : sG' [aA (.fz (.lst (ws.map D.str))), a1, aA (.oK (Zf xs) sv), aA (.oK (Zf (xs ++ [key])) (nv ++ [.lst []])), aA (.fz (.int (i : Int))), aA (.fz (.int c)), aA (.ol (ms.map D.int)), aA (.oK (Zf Mx) T9)] = aA (.nx [aA (.fz (.lst (ws.map D.str))), a1, aA (.oK (Zf xs) sv), aA (.oK (Zf (xs ++ [key])) (nv ++ [.lst []])), aA (.fz (.int (i : Int))), aA (.fz (.int c)), aA (.ol (ms.map D.int)), aA (.oK (Zf Mx) T9)]) := by unfold sG';generalize sG = G;generalize ws.map D.str = WS at *;generalize ms.map D.int = MS at *;generalize ms.getD 0 0 = y at *;simp [g0, c1]
      rw [Z3 t1];by_cases c2 : ms.getD 0 0 % 12 = 0
      · refine ⟨.bad k0, aA (.ol (ms.map D.int)), [], Mx ++ [au "note"], T9 ++ [.str (Rt k0)], K0, (λ_ z => nomatch z), .inl rfl, rfl, rfl, rfl, ?_⟩
        have bl := Zae K0;have c5 : (au "see <").length = 5 := by decide +kernel
        have zb : (au "see <").length + k0.length <= PySem.sizeLine := Zt (by have := K0.most; omega);have pb : Wm (Zf Mx) T9 (bh (au "note")) (.str (Rt k0)) = (Zf (Mx ++ [au "note"]), T9 ++ [.str (Rt k0)]) := by rw [J1, Bb (by simp; exact n1)]
        have eb : au "see <" ++ k0 = Rt k0 := rfl;have zt : T9.length < PySem.sizeLine := Ym (by simp);refine Z3 ?_;generalize ws.map D.str = WS at *;generalize ms.map D.int = MS at *;generalize ms.getD 0 0 = y at *;generalize Rt k0 = BT at *;generalize Zf (Mx ++ [au "note"]) = TL2 at *;generalize Zf Mx = TL at *;generalize hTV : T9 = TV at *;simp [-Wm, g0, c2, e0, zb, eb, pb, zt]
      · refine ⟨.no, aA (.ol (ms.map D.int)), [], Mx, T9, True.intro, (λ_ z => nomatch z), .inl rfl, rfl, rfl, rfl, ?_⟩
        refine Z3 ?_;generalize ws.map D.str = WS at *;generalize ms.map D.int = MS at *;generalize ms.getD 0 0 = y at *;simp [g0, c2]
  obtain ⟨nt, s6, NK0, FK0, FV0, o1, o2, o3, rfl, rfl, rfl, e⟩ := A;rw [e];obtain ⟨inn, q1, q2⟩ := Zj4 h ms hm a1 (aA (.oK (Zf xs) sv)) (aA (.oK (Zf (xs ++ [key])) (nv ++ [.lst (nt.keys.map D.str)]))) (aA (.fz (.int (i : Int)))) (aA (.fz (.int c))) s6 o3 (Mx ++ (nt.text.map λ_ => au "note").toList) (T9 ++ (nt.text.map D.str).toList)
    (by cases nt.text <;> simp [n2, n3]) (by cases nt.text <;> rfl) (by cases nt.text <;> simp)
  rw [Z3 q2];refine ⟨⟨nt, inn⟩, s6, aA (.fz (.dK (Zf (Wk.ks ⟨nt, inn⟩)) (Wk.vs ⟨nt, inn⟩))), ⟨o1, o2, q1⟩, ?_⟩;have ek : Mx ++ (nt.text.map λ_ => au "note").toList ++ (inn.map λ_ => Ao).toList = Wk.ks ⟨nt, inn⟩ := rfl;have ev : T9 ++ (nt.text.map D.str).toList ++ (inn.map D.str).toList = Wk.vs ⟨nt, inn⟩ := rfl;rw [ek, ev];show _ = aA (Fl.nx [_, _, aA (.oK (Zf (xs ++ [key])) (sv ++ [.tup [.str "book", .dK (Zf (Wk.ks ⟨nt, inn⟩)) (Wk.vs ⟨nt, inn⟩)]])), aA (.oK (Zf (xs ++ [key])) (nv ++ [.lst (nt.keys.map D.str)])), _, _, _, _]);have zs : sv.length < PySem.sizeLine := Ym (by omega);have z2 : 2 <= PySem.sizeLine := Zt (by decide);have ps : ∀ x, Wm (Zf xs) sv (bh key) x = (Zf (xs ++ [key]), sv ++ [x]) := λx => by rw [J1, Bb hx]
  generalize ws.map D.str = WS at *;generalize nt.keys.map D.str = NK at *;generalize Zf (Wk.ks ⟨nt, inn⟩) = FK at *;generalize Wk.vs ⟨nt, inn⟩ = FV at *;generalize Zf (xs ++ [key]) = XS2 at *;generalize Zf xs = XS at *;simp [-Wm, hk, ps, zs, z2]
end My
set_option maxHeartbeats 800000
namespace My
open DL PySem TT TX
abbrev Zlt:FG:=Jz 2 (Yo (Zi 4) (Yo (Zi 5) (Ug)))
theorem E2{ws:List Str}{n:Nat}(h:Ws ws n)(a1:Option SV):∀(cs:List Int) (i:Nat) (wks:List Wk) (x4 x5 x6 x7:Option SV),wks.length=i->i+cs.length<=n->(∀w∈wks,WkOk ws w)->
  ∃(wks':List Wk) (y4 y5 y6 y7:Option SV),wks'.length=i+cs.length/\(∀w∈wks',WkOk ws w)/\Y8 Zlt Gen.Jq (C0 i (cs.map D.int)) [aA (.fz (.lst (ws.map D.str))),a1,aA (.oK (Zf (ws.take i)) (wks.map Wk.d)),aA (.oK (Zf (ws.take i)) (wks.map ntD)),x4,x5,x6,x7]=
   aA (.nx [aA (.fz (.lst (ws.map D.str))),a1,aA (.oK (Zf (ws.take (i+cs.length))) (wks'.map Wk.d)),aA (.oK (Zf (ws.take (i+cs.length))) (wks'.map ntD)),y4,y5,y6,y7])
 | [],i,wks,x4,x5,x6,x7,hw,_,ho=>⟨wks,x4,x5,x6,x7,hw,ho,by simp[C0]⟩
 |c::cs,i,wks,x4,x5,x6,x7,hw,hl,ho=>by
  rw[bd]at hl;have wl:=h.len;have fw:=h.few;have hi:i<ws.length:=by omega
  have hk:L2.atI (ws.map D.str) (i:Int)=aA (.str ws[i]):=Yc _ i _ (by rw[bn,bj hi];rfl);have tl:(ws.take i).length=i:=by rw[List.length_take];omega
  have nm:ws[i]∉ws.take i:=λz=>by obtain⟨j,hj,e⟩:=List.getElem_of_mem z;rw[List.getElem_take]at e;rw[tl]at hj;exact(List.pairwise_iff_getElem.mp h.nd) j i (by omega) hi hj e
  have Om:ws.take i++[ws[i]]=ws.take (i+1):=by rw[List.take_add_one,bj hi];rfl
  obtain⟨w,y6,y7,ow,e⟩:=Xw h a1 x6 x7 i c ws[i] hk (ws.take i) (wks.map Wk.d) (wks.map ntD) nm (by rw[tl,am,hw]) (by rw[tl,am,hw]) (by omega);rw[Om]at e;obtain⟨wks',z4,z5,z6,z7,q1,q2,q3⟩:=E2 h a1 cs (i+1) (wks++[w]) (aA (.fz (.int (i:Int)))) (aA (.fz (.int c))) y6 y7 (by rw[aw,c6,hw]) (by omega) (λx hx=>by
   rcases cj.mp hx with z|z
   .exact ho x z
   .rw[aq.mp z];exact ow)
  have ei:i+(c::cs).length=i+1+cs.length:=by rw[bd];omega
  refine⟨wks',z4,z5,z6,z7,by rw[ei];exact q1,q2,?_⟩;rw[ei,<-q3];show Y8 Zlt _ (.tup [.int (i:Int),.int c]::C0 (i+1) (cs.map D.int)) _=_;rw[b4,b4];exact Wa (by simp) e
theorem Zgc{ws:List Str}{n:Nat}(h:Ws ws n)(cs:List Int)(hc:cs.length=n):∃wks:List Wk,wks.length=n/\(∀w∈wks,WkOk ws w)/\
  Gen.Wc [.lst (ws.map D.str),.lst (cs.map D.int)]=aA (.fz (.tup [.dK (Zf (ws.take n)) (wks.map Wk.d),.dK (Zf (ws.take n)) (wks.map ntD)])):=by
 obtain⟨wks,y4,y5,y6,y7,q1,q2,q3⟩:=E2 h (aA (.fz (.lst (cs.map D.int)))) cs 0 [] aB aB aB aB rfl (by omega) (λ_ z=>nomatch z);rw[Nat.zero_add,hc]at q1 q3;refine⟨wks,q1,q2,?_⟩;have i0:Zf (ws.take 0)=[]:=rfl;rw[i0,List.map_nil,List.map_nil]at q3;have z2:2<=PySem.sizeLine:=Zt (by decide);generalize ws.map D.str=WS at*;generalize cs.map D.int=CS at*;generalize Zf (ws.take n)=KS at*;generalize wks.map Wk.d=W1 at*;generalize wks.map ntD=W2 at*;unfold Gen.Wc Gen.C4;simp[-Y8,D6,q3,z2]
end My
set_option maxHeartbeats 800000
namespace My
open DL PySem TT TX
theorem S2{o:Str}:∀{nk:List Str},o∉nk->Wj (Zf nk) (bh o)=aB
 | [],_=>rfl
 |x::xs,h=>by have h1:¬(bh x:L2.Key)=bh o:=λz=>h (by rw[bh.inj z];exact af);show(if(bh x:L2.Key)=bh o then aA 0 else(Wj (Zf xs) (bh o)).map (· +1))=aB;rw[if_neg h1,S2 λz=>h (aj _ z)];rfl
theorem Tq{o:Str}:∀{nk:List Str},o∈nk->∃p,Wj (Zf nk) (bh o)=aA p/\nk[p]? =aA o
 |x::xs,h=>by
  by_cases e:x=o
  .exact⟨0,by show(if(bh x:L2.Key)=bh o then aA 0 else _)=_;rw[if_pos (by rw[e])],by rw[e];rfl⟩
  .have h':o∈xs:=by rcases bo.mp h with z|z;exact absurd z.symm e;exact z
   obtain⟨p,h1,h2⟩:=Tq h';refine⟨p+1,?_,by simpa using h2⟩;show(if(bh x:L2.Key)=bh o then aA 0 else(Wj (Zf xs) (bh o)).map (· +1))=_;rw[if_neg λz=>e (bh.inj z),h1];rfl
noncomputable def U8(key:Str):List Str->List Str×List Str->List Str×List Str
 | [],p=>p
 |o::os,p=>U8 key os (if o∈p.1 then p else(p.1++[o],p.2++[key]))
theorem S3(key:Str):∀(os:List Str) (p:List Str×List Str),p.1.length=p.2.length->(U8 key os p).1.length=(U8 key os p).2.length/\(U8 key os p).2.length<=p.2.length+os.length
 | [],p,h=>⟨h,bg _⟩
 |o::os,p,h=>by
  have ih:=S3 key os (if o∈p.1 then p else(p.1++[o],p.2++[key])) (by split;exact h;simp[h]);refine⟨ih.1,fj ih.2 ?_⟩;split
  .rw[bd];omega
  .simp;omega
theorem Ku(a0 a3 a4:Option SV)(a:ak)(key:Str):∀(os:List Str) (p:List Str×List Str) (x5:Option SV),p.1.length=p.2.length->p.2.length+os.length<=1000->
  ∃y5,Y8 (Zi 5) Gen.Ub (os.map D.str) [a0,aA (.fz (.str key)),aA (.oQ a (Zf p.1) (p.2.map D.str)),a3,a4,x5]=
   aA (.nx [a0,aA (.fz (.str key)),aA (.oQ a (Zf (U8 key os p).1) ((U8 key os p).2.map D.str)),a3,a4,y5])
 | [],p,x5,_,_=>⟨x5,by simp[U8]⟩
 |o::os,p,x5,hp,hl=>by
  rw[bd]at hl;have z:p.2.length<PySem.sizeLine:=Ym (by omega);have hb:Gen.Ub [a0,aA (.fz (.str key)),aA (.oQ a (Zf p.1) (p.2.map D.str)),a3,a4,aA (.fz (.str o))]=aA (.nx [a0,aA (.fz (.str key)),aA (.oQ a (Zf (if o∈p.1 then p else(p.1++[o],p.2++[key])).1) ((if o∈p.1 then p else(p.1++[o],p.2++[key])).2.map D.str)),a3,a4,aA (.fz (.str o))]):=by
   by_cases h:o∈p.1
   .obtain⟨q,h1,_⟩:=Tq h;rw[if_pos h];unfold Gen.Ub Td;generalize Zf p.1=NK at*;have zz:(p.2.map D.str).length<PySem.sizeLine:=by rw[am];exact z
    generalize p.2.map D.str=NV at*;simp[-Wj,h1,zz]
   .have h1:=S2 h;rw[if_neg h];have ei:Zf (p.1++[o])=Zf p.1++[bh o]:=by unfold Zf;rw[b4];rfl
    show _=aA (Fl.nx [_,_,aA (.oQ a (Zf (p.1++[o])) ((p.2++[key]).map D.str)),_,_,_]);rw[ei,b4];unfold Gen.Ub Td;generalize Zf p.1=NK at*;have zz:(p.2.map D.str).length<PySem.sizeLine:=by rw[am];exact z
    generalize p.2.map D.str=NV at*;simp[-Wj,h1,zz]
  obtain⟨y5,e⟩:=Ku a0 a3 a4 a key os (if o∈p.1 then p else(p.1++[o],p.2++[key])) (aA (.fz (.str o))) (by split;exact hp;simp[hp]) (by split;omega;simp;omega);refine⟨y5,?_⟩;rw[ay];exact(Wa (by simp) hb).trans e
def Ch(k key:Str)(p:List Str×List (List Str)):List Str×List (List Str):=match Wj (Zf p.1) (bh k)with
 |some q=>(p.1,p.2.set q (p.2.getD q []++[key]))
 |none=>(p.1++[k],p.2++[[key]])
def Mt(inn:Option Str)(key:Str)(p:List Str×List (List Str)):List Str×List (List Str):=match inn with
 |some k=>Ch k key p
 |none=>p
noncomputable abbrev pD(pss:List (List Str)):List (List D):=pss.map λl=>l.map D.str
theorem Zj5(k key:Str)(p:List Str×List (List Str)):En (Zf p.1) (pD p.2) (bh k) (.str key)=(Zf (Ch k key p).1,pD (Ch k key p).2):=by
 unfold En Ch;split
 .rename_i q hq;(try rw[hq]);show(Zf p.1,(pD p.2).set q ((pD p.2).getD q []++[.str key]))=(Zf p.1,pD (p.2.set q (p.2.getD q []++[key])))
  congr 1;unfold pD;rw[List.map_set];congr 1;rw[b4,cf,cf,bn];cases p.2[q]? <;> rfl
 .rename_i hq;(try rw[hq]);show(Zf p.1++[bh k],pD p.2++[[.str key]])=(Zf (p.1++[k]),pD (p.2++[[key]]))
  unfold Zf pD;rw[b4,b4];rfl
theorem take_in{ws:List Str}{n:Nat}(h:Ws ws n)(a b:ak)(SK:List L2.Key)(SVs:List D)(key:Str)(w:Wk)(hw:w.nt.Ok)(hk:Yk SK SVs (bh key)=aA w.d)(p:List Str×List Str)(q:List Str×List (List Str))(hp:p.1.length=p.2.length)(pl:p.2.length<=900)(ql:q.2.length<=900)(qq:∀l∈q.2,l.length<=900)(nl:w.nt.keys.length<=20):
  Gen.Jk a b [.dK SK SVs,.str key] (.oK (Zf p.1) (p.2.map D.str)) (.oN (Zf q.1) (pD q.2))=
   aA (.oK (Zf (U8 key w.nt.keys p).1) ((U8 key w.nt.keys p).2.map D.str),.oN (Zf (Mt w.inn key q).1) (pD (Mt w.inn key q).2)):=by
 obtain⟨y5,e⟩:=Ku (aA (.fz (.dK SK SVs))) (aA (.oR b (Zf q.1) (pD q.2))) (aA (.fz w.d)) a key w.nt.keys p aB hp (by omega);have nk:=note_keys w hw;have li:=Zaf w;have a1:L2.atI [D.str "book",.dK (Zf w.ks) w.vs] 1=aA (.dK (Zf w.ks) w.vs):=Yc _ 1 _ rfl;have zk:w.nt.keys.length<=PySem.sizeLine:=Zt (by omega);have ok1:okX (pD q.2) 1:=⟨Ym (by rw[am];omega),Ym (by omega),λl hl=>by
  obtain⟨m,hm,rfl⟩:=ax.mp hl;have:=qq m hm;exact Ym (by rw[am];omega)⟩
 have lm:(w.nt.keys.map D.str).length=w.nt.keys.length:=am ..;unfold Wk.d at*;unfold Gen.Jk Gen.To;have hin:au "in"=Ao:=rfl;generalize hA:U8 key w.nt.keys p=A at*;have ar:∀k,En (Zf q.1) (pD q.2) (bh k) (.str key)=(Zf (Ch k key q).1,pD (Ch k key q).2):=λk=>Zj5 k key q;generalize w.nt.keys.map D.str=NKD at*;generalize p.2.map D.str=PV at*;generalize Zf p.1=PK at*;generalize Zf w.ks=WK at*;generalize w.vs=WV at*;cases hi:w.inn with
 |none=>rw[hi]at li;have li:Yk WK WV (bh Ao)=aB:=li;show _=aA (_,SV.oN (Zf q.1) (pD q.2));generalize Zf q.1=QK at*;generalize pD q.2=QV at*;simp[-Y8,-Yk,-En,hk,nk,e,a1,hin,li,lm,zk]
 |some k=>rw[hi]at li;have li:Yk WK WV (bh Ao)=aA (.str k):=li;have ar:=ar k;show _=aA (_,SV.oN (Zf (Ch k key q).1) (pD (Ch k key q).2));generalize Zf q.1=QK at*;generalize pD q.2=QV at*;unfold Sf;simp[-Y8,-Yk,-En,hk,nk,e,a1,hin,li,lm,zk,ok1,ar]
end My
set_option maxHeartbeats 800000
namespace My
open DL PySem TT TX
noncomputable def lk{α:Type}:List Str->List α->Str->Option α
 |x::xs,v::vs,k=>if x=k then aA v else lk xs vs k
 |_,_,_=>aB
theorem Ul{α:Type}(f:α->D)(k:Str):∀(xs:List Str) (vs:List α),Yk (Zf xs) (vs.map f) (bh k)=(lk xs vs k).map f
 | [],[]=>rfl
 | [],_::_=>rfl
 |_::_,[]=>rfl
 |x::xs,v::vs=>by
  show(if(bh x:L2.Key)=bh k then aA (f v)else Yk (Zf xs) (vs.map f) (bh k))=Option.map f (if x=k then aA v else lk xs vs k);by_cases e:x=k
  .rw[if_pos (by rw[e]),if_pos e];rfl
  .rw[if_neg λz=>e (bh.inj z),if_neg e,Ul f k xs vs]
inductive Why where
 |text|note (k:Str)|parts (ks:List Str)
noncomputable def Why.d:Why->D
 | .text=>.tup [.str "text"]
 | .note k=>.tup [.str "note",.str k]
 | .parts ks=>.tup [.str "parts",.tup (ks.map D.str)]
noncomputable def Tr:Option Why->D
 |some y=>y.d
 |none=>.non
def reason(p:List Str×List Str)(q:List Str×List (List Str))(m:Nat)(key:Str):Option Why:=match lk p.1 p.2 key with
 |some k=>aA (.note k)
 |none=>if m<=((lk q.1 q.2 key).getD []).length then aA (.parts (((lk q.1 q.2 key).getD []).take m))else aB
theorem reason_for(p:List Str×List Str)(q:List Str×List (List Str))(m:Nat)(hm:m<=100)(key:Str)(hq:∀l∈q.2,l.length<=900):
  Gen.Wv [.str key,.dK (Zf p.1) (p.2.map D.str),.dK (Zf q.1) ((pD q.2).map D.lst),.int (m:Int)]=aA (.fz (Tr (reason p q m key))):=by
 have l1:=Ul D.str key p.1 p.2;have l2:Yk (Zf q.1) ((pD q.2).map D.lst) (bh key)=(lk q.1 q.2 key).map λl=>D.lst (l.map D.str):=by have:=Ul (λl:List Str=>D.lst (l.map D.str)) key q.1 q.2;rw[<-this,pD,cx];rfl
 generalize Zf p.1=PK at*;generalize p.2.map D.str=PV at*;generalize Zf q.1=QK at*;generalize hQV:(pD q.2).map D.lst=QV at*;have z2:2<=PySem.sizeLine:=Zt (by decide);unfold reason;cases h1:lk p.1 p.2 key with
 |some k=>rw[h1]at l1;have l1:Yk PK PV (bh key)=aA (.str k):=l1;show _=aA (SV.fz (D.tup [.str "note",.str k]));unfold Gen.Wv Gen.Q8;simp[-Yk,l1,z2]
 |none=>
  rw[h1]at l1;have l1:Yk PK PV (bh key)=aB:=l1;have hl:((lk q.1 q.2 key).getD []).length<=900:=by
   cases h2:lk q.1 q.2 key with
   |none=>exact d8 _
   |some l=>
    refine hq l ?_;have mem:∀(xs:List Str) (vs:List (List Str)),lk xs vs key=aA l->l∈vs:=by
     intro xs;induction xs with
     |nil=>intro vs h;cases vs<;> cases h
     |cons x xs ih=>
      intro vs h;cases vs with
      |nil=>cases h
      |cons v vs=>
       have h:(if x=key then aA v else lk xs vs key)=aA l:=h;split at h
       .cases h;exact af
       .exact aj _ (ih vs h)
    exact mem _ _ h2
  have l2':(Yk QK QV (bh key)).getD (.lst [])= .lst (((lk q.1 q.2 key).getD []).map D.str):=by rw[l2];cases lk q.1 q.2 key<;> rfl
  clear l2;generalize hd:(lk q.1 q.2 key).getD []=held at*;have lm:(held.map D.str).length=held.length:=am ..;have zh:held.length<=PySem.sizeLine:=Zt (by omega);by_cases c:m<=held.length
  .rw[if_pos c];show _=aA (SV.fz (D.tup [.str "parts",.tup ((held.take m).map D.str)]));have c':(m:Int)<=(held.length:Int):=by omega
   have cu:Cf (held.map D.str) aB (aA (m:Int))=(held.take m).map D.str:=by rw[Xn _ _ (by rw[lm];exact c),List.map_take]
   have zt:(held.take m).length<=PySem.sizeLine:=Zt (by rw[List.length_take];omega);have lt:((held.take m).map D.str).length=(held.take m).length:=am ..;generalize (held.take m).map D.str=TM at*;generalize held.map D.str=HD at*;unfold Gen.Wv Gen.Q8;simp[-Yk,l1,l2',lm,zh,c,c',cu,z2,lt,zt]
  .rw[if_neg c];have c':¬(m:Int)<=(held.length:Int):=by omega
   generalize held.map D.str=HD at*;unfold Gen.Wv Gen.Q8;simp[-Yk,l1,l2',lm,zh,c,c',Tr]
end My
set_option maxHeartbeats 800000
namespace My
open DL PySem TT TX
noncomputable abbrev Wz:=Str×Nat×Why
abbrev Zy(r:Wz):D:=.tup [.str r.1,.int (r.2.1:Int),r.2.2.d]
noncomputable abbrev PQ:=(List Str×List Str)×(List Str×List (List Str))
def Om(xs:List Str)(wks:List Wk)(s:PQ)(key:Str):PQ:=match lk xs wks key with
 |some w=>(U8 key w.nt.keys s.1,Mt w.inn key s.2)
 |none=>s
structure Bd(t:Nat)(s:PQ):Prop where
 p:s.1.1.length=s.1.2.length
 pl:s.1.2.length<=20*t
 q:s.2.1.length=s.2.2.length
 ql:s.2.2.length<=t
 qq:∀l∈s.2.2,l.length<=t
theorem Nt.few{nt:Nt}(h:nt.Ok):nt.keys.length<=11:=by
 cases nt with
 |no=>exact d8 _
 |bad k=>exact d8 _
 |good k ks=>have:=h.2;show(k::ks).length<=11;rw[bd];omega
theorem Zj6{k key:Str}{q:List Str×List (List Str)}{t:Nat}(h1:q.1.length=q.2.length)(h2:q.2.length<=t)(h3:∀l∈q.2,l.length<=t):
  (Ch k key q).1.length=(Ch k key q).2.length/\(Ch k key q).2.length<=t+1/\∀l∈(Ch k key q).2,l.length<=t+1:=by
 unfold Ch;split
 .rename_i j _;refine⟨by rw[d6];exact h1,by rw[d6];omega,λl hl=>?_⟩;rcases List.mem_or_eq_of_mem_set hl with z|z
  .have:=h3 l z;omega
  .rw[z,aw,c6,cf];cases e:q.2[j]? with
   |none=>simp
   |some m=>have:=h3 m (f7 e);simp;omega
 .refine⟨by simp[h1],by simp;omega,λl hl=>?_⟩;rcases cj.mp hl with z|z
  .have:=h3 l z;omega
  .rw[aq.mp z];simp
theorem Zgd{xs:List Str}{wks:List Wk}(ho:∀w∈wks,w.nt.Ok){s:PQ}{t:Nat}(h:Bd t s)(key:Str):Bd (t+1) (Om xs wks s key):=by
 unfold Om;split
 .rename_i w hw;have mem:∀(xs:List Str) (vs:List Wk),lk xs vs key=aA w->w∈vs:=by
   intro xs;induction xs with
   |nil=>intro vs h;cases vs<;> cases h
   |cons x xs ih=>
    intro vs h;cases vs with
    |nil=>cases h
    |cons v vs=>
     have h:(if x=key then aA v else lk xs vs key)=aA w:=h;split at h
     .cases h;exact af
     .exact aj _ (ih vs h)
  have fw:=Nt.few (ho w (mem _ _ hw));obtain⟨a,b⟩:=S3 key w.nt.keys s.1 h.p;have hpl:=h.pl;have I:(Mt w.inn key s.2).1.length=(Mt w.inn key s.2).2.length/\(Mt w.inn key s.2).2.length<=t+1/\∀l∈(Mt w.inn key s.2).2,l.length<=t+1:=by
   unfold Mt;split
   .exact Zj6 h.q h.ql h.qq
   .exact⟨h.q,Nat.le_succ_of_le h.ql,λl hl=>Nat.le_succ_of_le (h.qq l hl)⟩
  exact⟨a,by show(U8 key w.nt.keys s.1).2.length<=_;omega,I.1,I.2.1,I.2.2⟩
 .exact⟨h.p,by have:=h.pl;omega,h.q,Nat.le_succ_of_le h.ql,λl hl=>Nat.le_succ_of_le (h.qq l hl)⟩
abbrev Wp(xs:List Str)(wks:List Wk):D:=.dK (Zf xs) (wks.map Wk.d)
theorem Zcb{ws:List Str}{n:Nat}(h:Ws ws n)(xs:List Str)(wks:List Wk)(ho:∀w∈wks,w.nt.Ok)(s:PQ)(t:Nat)(ht:t<=40)(hb:Bd t s)(r:Wz)(w:Wk)(hw:lk xs wks r.1=aA w)(a1 a2 a3 a6 a7 a9 a10:Option SV):
  Gen.U1 [aA (.fz (Wp xs wks)),a1,a2,a3,aA (.oK (Zf s.1.1) (s.1.2.map D.str)),aA (.oN (Zf s.2.1) (pD s.2.2)),a6,a7,aA (.fz (Zy r)),a9,a10]=
   aA (.nx [aA (.fz (Wp xs wks)),a1,a2,a3,aA (.oK (Zf (Om xs wks s r.1).1.1) ((Om xs wks s r.1).1.2.map D.str)),aA (.oN (Zf (Om xs wks s r.1).2.1) (pD (Om xs wks s r.1).2.2)),a6,a7,aA (.fz (Zy r)),a9,a10]):=by
 have mem:∀(xs:List Str) (vs:List Wk),lk xs vs r.1=aA w->w∈vs:=by
  intro xs;induction xs with
  |nil=>intro vs h;cases vs<;> cases h
  |cons x xs ih=>
   intro vs h;cases vs with
   |nil=>cases h
   |cons v vs=>
    have h:(if x=r.1 then aA v else lk xs vs r.1)=aA w:=h;split at h
    .cases h;exact af
    .exact aj _ (ih vs h)
 have ow:=ho w (mem _ _ hw);have fw:=Nt.few ow;have lk1:Yk (Zf xs) (wks.map Wk.d) (bh r.1)=aA w.d:=by rw[Ul Wk.d r.1 xs wks,hw];rfl
 have hpl:=hb.pl;have hql:=hb.ql;have e:∀a b,Gen.Jk a b [Wp xs wks,.str r.1] (.oK (Zf s.1.1) (s.1.2.map D.str)) (.oN (Zf s.2.1) (pD s.2.2))=aA (.oK (Zf (U8 r.1 w.nt.keys s.1).1) ((U8 r.1 w.nt.keys s.1).2.map D.str),.oN (Zf (Mt w.inn r.1 s.2).1) (pD (Mt w.inn r.1 s.2).2)):=λa b=>
  take_in h a b (Zf xs) (wks.map Wk.d) r.1 w ow lk1 s.1 s.2 hb.p (by omega) (by omega) (λl hl=>by have:=hb.qq l hl;omega) (by omega)
 have et:Om xs wks s r.1=(U8 r.1 w.nt.keys s.1,Mt w.inn r.1 s.2):=by unfold Om;rw[hw]
 rw[et];have a0:L2.atI [D.str r.1,.int (r.2.1:Int),r.2.2.d] 0=aA (.str r.1):=Yc _ 0 _ rfl;unfold Gen.U1;refine(Zbs (i:=4) (j:=5) (n:=2) (ds:=[Wp xs wks,.str r.1]) (δ1:=[aA (.fz (Wp xs wks)),a1,a2,a3,aA (.oK (Zf s.1.1) (s.1.2.map D.str)),aA (.oN (Zf s.2.1) (pD s.2.2)),a6,a7,aA (.fz (Zy r)),a9,a10]) ?_ rfl (by decide) rfl rfl rfl rfl e).trans rfl;generalize Wp xs wks=SD;generalize Gen.Jk=V;simp[a0]
theorem Kv{ws:List Str}{n:Nat}(h:Ws ws n)(xs:List Str)(wks:List Wk)(ho:∀w∈wks,w.nt.Ok)(a1 a2 a3 a6 a7 a9 a10:Option SV):∀(rs:List Wz) (s:PQ) (t:Nat) (x8:Option SV),t+rs.length<=40->Bd t s->(∀r∈rs,∃w,lk xs wks r.1=aA w)->
  ∃y8,Bd (t+rs.length) ((rs.map (·.1)).foldl (Om xs wks) s)/\Y8 (Zi 8) Gen.U1 (rs.map Zy) [aA (.fz (Wp xs wks)),a1,a2,a3,aA (.oK (Zf s.1.1) (s.1.2.map D.str)),aA (.oN (Zf s.2.1) (pD s.2.2)),a6,a7,x8,a9,a10]=
   aA (.nx [aA (.fz (Wp xs wks)),a1,a2,a3,aA (.oK (Zf ((rs.map (·.1)).foldl (Om xs wks) s).1.1) (((rs.map (·.1)).foldl (Om xs wks) s).1.2.map D.str)),aA (.oN (Zf ((rs.map (·.1)).foldl (Om xs wks) s).2.1) (pD ((rs.map (·.1)).foldl (Om xs wks) s).2.2)),a6,a7,y8,a9,a10])
 | [],s,t,x8,_,hb,_=>⟨x8,hb,by simp⟩
 |r::rs,s,t,x8,hl,hb,hr=>by rw[bd]at hl;obtain⟨w,hw⟩:=hr r af;have st:=Zcb h xs wks ho s t (by omega) hb r w hw a1 a2 a3 a6 a7 a9 a10;obtain⟨y8,b1,e⟩:=Kv h xs wks ho a1 a2 a3 a6 a7 a9 a10 rs (Om xs wks s r.1) (t+1) (aA (.fz (Zy r))) (by omega) (Zgd ho hb r.1) (λx hx=>hr x (aj _ hx));refine⟨y8,by rw[bd,show t+(rs.length+1)=t+1+rs.length by omega];exact b1,?_⟩;rw[ay];exact(Wa (by simp) st).trans e
end My
set_option maxHeartbeats 800000
namespace My
open DL PySem TT TX
theorem B9(ks:List Str):(ks.map D.str).all D.isFlat=aC:=by rw[eu];intro d hd;obtain⟨k,_,rfl⟩:=ax.mp hd;rfl
theorem Kw(y:Option Why):Tr y= .non\/∃ts,Tr y= .tup ts:=by
 cases y with
 |none=>exact .inl rfl
 |some y=>cases y<;> exact .inr ⟨_,rfl⟩
theorem Zag(ks:List Str):∀d∈ks.map D.str,FlD d:=λd hd=>by obtain⟨k,_,rfl⟩:=ax.mp hd;exact .str k
theorem Zo2(y:Option Why):FlD (Tr y):=by
 cases y with
 |none=>exact .non
 |some y=>
  cases y with
  |text=>refine .tup λd hd=>?_;simp at hd;rw[hd];exact .str _
  |note k=>
   refine .tup λd hd=>?_;simp at hd;rcases hd with rfl|rfl
   .exact .str _
   .exact .str _
  |parts ks=>
   refine .tup λd hd=>?_;simp at hd;rcases hd with rfl|rfl
   .exact .str _
   .exact .tup λe he=>Zag ks e he
theorem Xx(rs:List Wz)(hl:rs.length<=1000)(a0 a1 a2 a4 a5 a6 a7 a8 x9 a10:Option SV):
  Yd 9 (Ol (Yv [.own,.acc] 1 (Wr (Za 3)) (Zi 0) (Y9) Gen.Qq)) [a0,a1,a2,aA (.ol (rs.map Zy)),a4,a5,a6,a7,a8,x9,a10]=
   aA (.nx [a0,a1,a2,aA (.ol (rs.map Zy)),a4,a5,a6,a7,a8,aA (.ol ((rs.map (·.1)).map D.str)),a10]):=by
 have cm:=Cz (te:=Gen.Qq) (f:=λd=>match d with| .tup (x::_)=>x|d=>d) (rs.map Zy) [] (λx hx zs=>by
  obtain⟨r,_,rfl⟩:=ax.mp hx;have a0:L2.atI [D.str r.1,.int (r.2.1:Int),r.2.2.d] 0=aA (.str r.1):=Yc _ 0 _ rfl;unfold Gen.Qq;simp[a0]) (by simp;omega)
 rw[cy,cx]at cm;have ef:(rs.map ((λd=>match d with| .tup (x::_)=>x|d=>d)∘Zy):List D)=(rs.map (·.1)).map D.str:=by rw[cx];rfl
 rw[ef]at cm;have fl:=Zag (rs.map (·.1));have e:=Sh (f:=Yv [.own,.acc] 1 (Wr (Za 3)) (Zi 0) (Y9) Gen.Qq) (δ:=[a0,a1,a2,aA (.ol (rs.map Zy)),a4,a5,a6,a7,a8,x9,a10]) (xs:=(rs.map (·.1)).map D.str) (δ':=icy [a0,a1,a2,aA (.ol (rs.map Zy)),a4,a5,a6,a7,a8,x9,a10]) (by
  generalize rs.map Zy=RD at*;generalize (rs.map (·.1)).map D.str=KD at*;simp[-Z4,cm]) fl
 generalize rs.map Zy=RD at*;generalize (rs.map (·.1)).map D.str=KD at*;generalize Ol (Yv [.own,.acc] 1 (Wr (Za 3)) (Zi 0) (Y9) Gen.Qq)=KE at*;simp[e]
def Bg(s:PQ)(m:Nat)(known:List Str)(xs:List Str):List (Str×Option Why):=((Ot xs).filter λk=>decide (k∉known)).map λk=>(k,reason s.1 s.2 m k)
abbrev U9(p:Str×Option Why):D:=.tup [.str p.1,Tr p.2]
theorem Nh(xs:List Str)(wks:List Wk)(hx:xs.length<64)(s:PQ)(m:Nat)(hm:m<=100)(hq:∀l∈s.2.2,l.length<=900)(known:List Str)(a1 a3 a6 a7 a8 x10:Option SV):
  Yd 10 (Ol (Yv [.own,.cap 4,.cap 5,.cap 2,.cap 9,.acc] 5 (Wr (Yg Ou (Zc (Za 0) Zj))) (Zi 0) (Gen.Qr) Gen.Qs)) [aA (.fz (Wp xs wks)),a1,aA (.fz (.int (m:Int))),a3,aA (.oK (Zf s.1.1) (s.1.2.map D.str)),aA (.oN (Zf s.2.1) (pD s.2.2)),a6,a7,a8,aA (.ol (known.map D.str)),x10]=
   aA (.nx [aA (.fz (Wp xs wks)),a1,aA (.fz (.int (m:Int))),a3,aA (.oK (Zf s.1.1) (s.1.2.map D.str)),aA (.oN (Zf s.2.1) (pD s.2.2)),a6,a7,a8,aA (.ol (known.map D.str)),aA (.ol ((Bg s m known xs).map U9))]):=by
 have sd:Ou [Wp xs wks]=aA (.ol ((Ot xs).map D.str)):=Zbp hx;have sl:(Ot xs).length=xs.length:=(Qc xs).length_eq;have rf:=λkey=>reason_for s.1 s.2 m hm key hq;have fs:=B9 known;have cm:=Bq (src:=[.own,.cap 4,.cap 5,.cap 2,.cap 9,.acc]) (k:=5) (g:=Zi 0) (tt:=Gen.Qr) (te:=Gen.Qs) (st:=λzs=>[aB,aA (.fz (.dK (Zf s.1.1) (s.1.2.map D.str))),aA (.fz (.dK (Zf s.2.1) ((pD s.2.2).map D.lst))),aA (.fz (.int (m:Int))),aA (.fz (.lst (known.map D.str))),aA (.ol zs)])
  (f:=λd=>match d with| .str k=>if k∈known then aB else aA (U9 (k,reason s.1 s.2 m k))|_=>aB) ((Ot xs).map D.str) [] (λd hd zs ds' hz=>by
  obtain⟨k,_,rfl⟩:=ax.mp hd;have i1:=An k known;have r1:=rf k;have z2:2<=PySem.sizeLine:=Zt (by decide)
  conv=>lhs;rw[Z4]
  unfold Gen.Qr Gen.Qs;by_cases h:k∈known
  .rw[decide_eq_true h]at i1;generalize Tr (reason s.1 s.2 m k)=WD at*;generalize D.dK (Zf s.1.1) (s.1.2.map D.str)=PD at*;generalize D.dK (Zf s.2.1) ((pD s.2.2).map D.lst)=QD at*;simp[-Z4,D.seq?,fs,i1,h]
  .rw[decide_eq_false h]at i1;rcases Kw (reason s.1 s.2 m k)with hy|⟨ts,hy⟩
   .rw[hy]at r1;generalize D.dK (Zf s.1.1) (s.1.2.map D.str)=PD at*;generalize D.dK (Zf s.2.1) ((pD s.2.2).map D.lst)=QD at*;simp[-Z4,D.seq?,fs,i1,h,r1,z2,hz,U9,hy]
   .rw[hy]at r1;generalize D.dK (Zf s.1.1) (s.1.2.map D.str)=PD at*;generalize D.dK (Zf s.2.1) ((pD s.2.2).map D.lst)=QD at*;simp[-Z4,D.seq?,fs,i1,h,r1,z2,hz,U9,hy]) (by simp;omega)
 have ef:((Ot xs).map D.str).filterMap (λd=>match d with| .str k=>if k∈known then aB else aA (U9 (k,reason s.1 s.2 m k))|_=>aB)=(Bg s m known xs).map U9:=by
  unfold Bg;rw[cx,List.filterMap_map];generalize Ot xs=ys;induction ys with
  |nil=>rfl
  |cons y ys ih=>
   by_cases h:y∈known
   .rw[dr (by simp[h]),f8 (by simp[h])];exact ih
   .rw[dq (b:=U9 (y,reason s.1 s.2 m y)) (by simp[h]),List.filter_cons_of_pos (by simp[h]),ay,ih];rfl
 rw[cy,ef]at cm;have fl:∀d∈(Bg s m known xs).map U9,FlD d:=λd hd=>by
  obtain⟨p,_,rfl⟩:=ax.mp hd;exact .tup λe he=>by
   simp at he;rcases he with rfl|rfl
   .exact .str _
   .exact Zo2 _
 have e:=Sh (f:=Yv [.own,.cap 4,.cap 5,.cap 2,.cap 9,.acc] 5 (Wr (Yg Ou (Zc (Za 0) Zj))) (Zi 0) (Gen.Qr) Gen.Qs) (δ:=[aA (.fz (Wp xs wks)),a1,aA (.fz (.int (m:Int))),a3,aA (.oK (Zf s.1.1) (s.1.2.map D.str)),aA (.oN (Zf s.2.1) (pD s.2.2)),a6,a7,a8,aA (.ol (known.map D.str)),x10]) (xs:=(Bg s m known xs).map U9) (δ':=icy [aA (.fz (Wp xs wks)),a1,aA (.fz (.int (m:Int))),a3,aA (.oK (Zf s.1.1) (s.1.2.map D.str)),aA (.oN (Zf s.2.1) (pD s.2.2)),a6,a7,a8,aA (.ol (known.map D.str)),x10]) (by
  generalize (Bg s m known xs).map U9=RD at*;generalize known.map D.str=KD at*;generalize s.1.2.map D.str=P2 at*;generalize Zf s.1.1=P1 at*;generalize Zf s.2.1=Q1 at*;generalize pD s.2.2=Q2 at*;generalize (Ot xs).map D.str=SX at*;generalize Wp xs wks=SD at*;simp[-Z4,sd,cm]) fl
 generalize (Bg s m known xs).map U9=RD at*;generalize known.map D.str=KD at*;generalize Wp xs wks=SD at*;generalize Ol (Yv [.own,.cap 4,.cap 5,.cap 2,.cap 9,.acc] 5 (Wr (Yg Ou (Zc (Za 0) Zj))) (Zi 0) (Gen.Qr) Gen.Qs)=KE at*;simp[e]
end My
set_option maxHeartbeats 800000
namespace My
open DL PySem TT TX
def Jd(t:Nat)(ps:List (Str×Option Why)):List Wz:=ps.filterMap λp=>p.2.map λy=>(p.1,t,y)
theorem Why.d_tup(y:Why):∃ts,y.d= .tup ts:=by cases y<;> exact⟨_,rfl⟩
noncomputable def frF(t:Nat):D->Option D
 | .tup [k,.tup ts]=>aA (.tup [k,.int (t:Int),.tup ts])
 |_=>aB
theorem Xy(t:Nat):∀ps:List (Str×Option Why),(ps.map U9).filterMap (frF t)=(Jd t ps).map Zy
  | []=>rfl
  | (k,aB)::ps=>Xy t ps
  | (k,aA y)::ps=>by
    have ih:=Xy t ps;obtain⟨ts,hy⟩:=y.d_tup;have e1:U9 (k,aA y)= .tup [.str k,.tup ts]:=by show D.tup [.str k,y.d]=_;rw[hy]
    have e2:Jd t ((k,aA y)::ps)=(k,t,y)::Jd t ps:=rfl;rw[ay,e1,e2,ay,<-ih];have e3:Zy (k,t,y)= .tup [.str k,.int (t:Int),.tup ts]:=by show D.tup [.str k,.int (t:Int),y.d]=_;rw[hy]
    rw[e3];rfl
theorem Xz(ps:List (Str×Option Why))(hl:ps.length<=1000)(t:Nat)(a0 a1 a2 a3 a4 a5 x6 a8 a9:Option SV):
  Yd 6 (Yv [.own,.own,.cap 7,.acc] 3 (Wr (Za 10)) (Jz 2 (Yo (Zi 0) (Yo (Zi 1) (Ug)))) (Gen.U2) Gen.U3) [a0,a1,a2,a3,a4,a5,x6,aA (.fz (.int (t:Int))),a8,a9,aA (.ol (ps.map U9))]=
   aA (.nx [a0,a1,a2,a3,a4,a5,aA (.ol ((Jd t ps).map Zy)),aA (.fz (.int (t:Int))),a8,a9,aA (.fz (.lst (ps.map U9)))]):=by
 have cm:=Bq (src:=[.own,.own,.cap 7,.acc]) (k:=3) (g:=Jz 2 (Yo (Zi 0) (Yo (Zi 1) (Ug)))) (tt:=Gen.U2) (te:=Gen.U3) (st:=λzs=>[aB,aB,aA (.fz (.int (t:Int))),aA (.ol zs)])
  (f:=frF t) (ps.map U9) [] (λd hd zs ds' hz=>by
  obtain⟨p,_,rfl⟩:=ax.mp hd;have z3:3<=PySem.sizeLine:=Zt (by decide)
  conv=>lhs;rw[Z4]
  unfold Gen.U2 Gen.U3;rcases Kw p.2 with hy|⟨ts,hy⟩
  .have ef:frF t (U9 p)=aB:=by show frF t (.tup [.str p.1,Tr p.2])=_;rw[hy];rfl
   rw[ef];simp[-Z4,U9,hy]
  .have ef:frF t (U9 p)=aA (.tup [.str p.1,.int (t:Int),.tup ts]):=by show frF t (.tup [.str p.1,Tr p.2])=_;rw[hy];rfl
   rw[ef];simp[-Z4,U9,hy,z3,hz]) (by simp;omega)
 rw[cy,Xy]at cm;generalize (Jd t ps).map Zy=NR at*;generalize ps.map U9=PR at*;simp[-Z4,cm]
end My
set_option maxHeartbeats 800000
namespace My
open DL PySem TT TX
abbrev lst(xs:List Str)(wks:List Wk)(m:Nat)(F:List Wz)(s:PQ)(fr:List Wz)(t:Nat)(a1 x8 x9 x10:Option SV):Yw:=
 [aA (.fz (Wp xs wks)),a1,aA (.fz (.int (m:Int))),aA (.ol (F.map Zy)),aA (.oK (Zf s.1.1) (s.1.2.map D.str)),aA (.oN (Zf s.2.1) (pD s.2.2)),aA (.ol (fr.map Zy)),aA (.fz (.int (t:Int))),x8,x9,x10]
abbrev lB:FS:=O8 (Wr (Za 6)) (Zi 8) Gen.U1
abbrev lD:FS:=Yd 9 (Ol (Yv [.own,.acc] 1 (Wr (Za 3)) (Zi 0) (Y9) Gen.Qq))
abbrev lE:FS:=Yd 10 (Ol (Yv [.own,.cap 4,.cap 5,.cap 2,.cap 9,.acc] 5 (Wr (Yg Ou (Zc (Za 0) Zj))) (Zi 0) (Gen.Qr) Gen.Qs))
abbrev lF:FS:=Yd 6 (Yv [.own,.own,.cap 7,.acc] 3 (Wr (Za 10)) (Jz 2 (Yo (Zi 0) (Yo (Zi 1) (Ug)))) (Gen.U2) Gen.U3)
theorem Zj7:Gen.Qv=Zm (Kj 3 (Za 6)) (Zm lB (Zm (Zbk 7 1) (Zm lD (Zm lE lF)))):=rfl
theorem Zsr{ws:List Str}{n:Nat}(h:Ws ws n)(xs:List Str)(wks:List Wk)(hx:xs.length<64)(ho:∀w∈wks,w.nt.Ok)(m:Nat)(hm:m<=100)(F fr:List Wz)(s:PQ)(t:Nat)(hb:Bd F.length s)(hl:F.length+fr.length<=40)(hr:∀r∈fr,∃w,lk xs wks r.1=aA w)(a1 x8 x9 x10:Option SV):
  ∃y8 y9 y10,Bd (F++fr).length ((fr.map (·.1)).foldl (Om xs wks) s)/\Gen.Qv (lst xs wks m F s fr t a1 x8 x9 x10)=
   aA (.nx (lst xs wks m (F++fr) ((fr.map (·.1)).foldl (Om xs wks) s) (Jd (t+1) (Bg ((fr.map (·.1)).foldl (Om xs wks) s) m ((F++fr).map (·.1)) xs)) (t+1) a1 y8 y9 y10)):=by
 obtain⟨y8,b1,e2⟩:=Kv h xs wks ho a1 (aA (.fz (.int (m:Int)))) (aA (.ol ((F++fr).map Zy))) (aA (.fz (.lst (fr.map Zy)))) (aA (.fz (.int (t:Int)))) x9 x10 fr s F.length x8 hl hb hr;generalize hs':(fr.map (·.1)).foldl (Om xs wks) s=s' at*;rw[<-aw]at b1;refine⟨y8,aA (.ol (((F++fr).map (·.1)).map D.str)),aA (.fz (.lst ((Bg s' m ((F++fr).map (·.1)) xs).map U9))),b1,?_⟩;rw[Zj7];have zl:F.length+fr.length<=PySem.sizeLine:=Zt (by omega);have l1:(F.map Zy).length=F.length:=am ..;have l2:(fr.map Zy).length=fr.length:=am ..;have st1:Kj 3 (Za 6) (lst xs wks m F s fr t a1 x8 x9 x10)=aA (.nx [aA (.fz (Wp xs wks)),a1,aA (.fz (.int (m:Int))),aA (.ol ((F++fr).map Zy)),aA (.oK (Zf s.1.1) (s.1.2.map D.str)),aA (.oN (Zf s.2.1) (pD s.2.2)),aA (.fz (.lst (fr.map Zy))),aA (.fz (.int (t:Int))),x8,x9,x10]):=by rw[b4];unfold lst;generalize F.map Zy=FD at*;generalize fr.map Zy=GD at*;generalize Wp xs wks=SD at*;simp[l1,l2,zl]
 rw[Z3 st1];have st2:lB [aA (.fz (Wp xs wks)),a1,aA (.fz (.int (m:Int))),aA (.ol ((F++fr).map Zy)),aA (.oK (Zf s.1.1) (s.1.2.map D.str)),aA (.oN (Zf s.2.1) (pD s.2.2)),aA (.fz (.lst (fr.map Zy))),aA (.fz (.int (t:Int))),x8,x9,x10]=aA (.nx [aA (.fz (Wp xs wks)),a1,aA (.fz (.int (m:Int))),aA (.ol ((F++fr).map Zy)),aA (.oK (Zf s'.1.1) (s'.1.2.map D.str)),aA (.oN (Zf s'.2.1) (pD s'.2.2)),aA (.fz (.lst (fr.map Zy))),aA (.fz (.int (t:Int))),y8,x9,x10]):=by unfold lB;generalize (F++fr).map Zy=FD at*;generalize fr.map Zy=GD at*;generalize Wp xs wks=SD at*;simp[-Y8,e2]
 rw[Z3 st2];have st3:Zbk 7 1 [aA (.fz (Wp xs wks)),a1,aA (.fz (.int (m:Int))),aA (.ol ((F++fr).map Zy)),aA (.oK (Zf s'.1.1) (s'.1.2.map D.str)),aA (.oN (Zf s'.2.1) (pD s'.2.2)),aA (.fz (.lst (fr.map Zy))),aA (.fz (.int (t:Int))),y8,x9,x10]=aA (.nx [aA (.fz (Wp xs wks)),a1,aA (.fz (.int (m:Int))),aA (.ol ((F++fr).map Zy)),aA (.oK (Zf s'.1.1) (s'.1.2.map D.str)),aA (.oN (Zf s'.2.1) (pD s'.2.2)),aA (.fz (.lst (fr.map Zy))),aA (.fz (.int ((t+1:Nat):Int))),y8,x9,x10]):=by
  have et:((t+1:Nat):Int)=(t:Int)+1:=by omega
  rw[et];rfl
 rw[Z3 st3,Z3 (Xx (F++fr) (by rw[aw];omega) _ _ _ _ _ _ _ _ _ _)];have hq:∀l∈s'.2.2,l.length<=900:=λl hl'=>by have:=b1.qq l hl';rw[aw]at this;omega
 rw[Z3 (Nh xs wks hx s' m hm hq ((F++fr).map (·.1)) _ _ _ _ _ _)];have rl:(Bg s' m ((F++fr).map (·.1)) xs).length<=1000:=by unfold Bg;rw[am];have:=List.length_filter_le (λk=>decide (k∉(F++fr).map (·.1))) (Ot xs);have sl:(Ot xs).length=xs.length:=(Qc xs).length_eq;omega
 exact Xz (Bg s' m ((F++fr).map (·.1)) xs) rl (t+1) _ _ _ _ _ _ _ _ _
end My
set_option maxHeartbeats 800000
namespace My
open DL PySem TT TX
abbrev nxt(xs:List Str)(wks:List Wk)(m:Nat)(F fr:List Wz)(s:PQ)(t:Nat):List Wz:=Jd (t+1) (Bg ((fr.map (·.1)).foldl (Om xs wks) s) m ((F++fr).map (·.1)) xs)
inductive Run(xs:List Str)(wks:List Wk)(m:Nat):List Wz->PQ->List Wz->Nat->List Wz->PQ->Nat->Prop where
 |done (F:List Wz) (s:PQ) (t:Nat):Run xs wks m F s [] t F s t
 |step {F fr G:List Wz} {s s':PQ} {t t':Nat} (h:fr≠[]) (r:Run xs wks m (F++fr) ((fr.map (·.1)).foldl (Om xs wks) s) (nxt xs wks m F fr s t) (t+1) G s' t'):Run xs wks m F s fr t G s' t'
theorem Um{α:Type}:∀{xs:List Str} {vs:List α} {k:Str},xs.length=vs.length->k∈xs->∃v,lk xs vs k=aA v
 |x::xs,v::vs,k,hl,h=>by
  by_cases e:x=k
  .exact⟨v,if_pos e⟩
  .obtain⟨u,hu⟩:=Um (xs:=xs) (vs:=vs) (k:=k) (by simpa using hl) (by rcases bo.mp h with z|z;exact absurd z.symm e;exact z);exact⟨u,(if_neg e).trans hu⟩
 |x::xs,[],k,hl,h=>by simp at hl
theorem Mu(t:Nat):∀ps:List (Str×Option Why),((Jd t ps).map (·.1)).Sublist (ps.map (·.1))
  | []=>List.Sublist.refl _
  | (k,aB)::ps=>(Mu t ps).cons k
  | (k,aA y)::ps=>(Mu t ps).cons₂ k
theorem Kx(s:PQ)(m:Nat)(known xs:List Str):(Bg s m known xs).map (·.1)=(Ot xs).filter λk=>decide (k∉known):=by unfold Bg;rw[cx];exact List.map_id' _
theorem Zo3{xs:List Str}{wks:List Wk}{m:Nat}{F fr:List Wz}{s:PQ}{t:Nat}(nd:xs.Nodup):((nxt xs wks m F fr s t).map (·.1)).Nodup/\∀r∈nxt xs wks m F fr s t,r.1∈xs/\r.1∉(F++fr).map (·.1):=by have sb:=Mu (t+1) (Bg ((fr.map (·.1)).foldl (Om xs wks) s) m ((F++fr).map (·.1)) xs);rw[Kx]at sb;have nds:(Ot xs).Nodup:=(Qc xs).nodup_iff.mpr nd;refine⟨List.Sublist.nodup sb (List.Sublist.nodup List.filter_sublist nds),λr hr=>?_⟩;have:=sb.subset (ax.mpr ⟨r,hr,rfl⟩);obtain⟨h1,h2⟩:=List.mem_filter.mp this;exact⟨(Qc xs).mem_iff.mp h1,of_decide_eq_true h2⟩
theorem Zge{ws:List Str}{n:Nat}(h:Ws ws n)(xs:List Str)(wks:List Wk)(hx:xs.length<=40)(nd:xs.Nodup)(hw:xs.length=wks.length)(ho:∀w∈wks,w.nt.Ok)(m:Nat)(hm:m<=100)(a1:Option SV):∀(c:Nat) (F fr:List Wz) (s:PQ) (t fuel:Nat) (x8 x9 x10:Option SV),xs.length- F.length<c->c<=fuel->Bd F.length s->((F++fr).map (·.1)).Nodup->(∀r∈F++fr,r.1∈xs)->
  ∃G s' t' y8 y9 y10,Run xs wks m F s fr t G s' t'/\(G.map (·.1)).Nodup/\(∀r∈G,r.1∈xs)/\Ji Gen.Jl Gen.Qv fuel (lst xs wks m F s fr t a1 x8 x9 x10)=aA (.nx (lst xs wks m G s' [] t' a1 y8 y9 y10))
 |0,F,fr,s,t,fuel,x8,x9,x10,hc,_,_,_,_=>by omega
 |c+1,F,fr,s,t,0,x8,x9,x10,hc,hf,_,_,_=>by omega
 |c+1,F,fr,s,t,fuel+1,x8,x9,x10,hc,hf,hb,hn,hi=>by
  have sub:((F++fr).map (·.1)).length<=xs.length:=List.Nodup.length_le_of_subset hn λk hk=>by obtain⟨r,hr,rfl⟩:=ax.mp hk;exact hi r hr
  rw[am,aw]at sub;have zl:fr.length<=PySem.sizeLine:=Zt (by omega);have lm:(fr.map Zy).length=fr.length:=am ..;cases hfr:fr with
  |nil=>subst hfr;refine⟨F,s,t,x8,x9,x10,.done F s t,by rw[dm]at hn;exact hn,λr hr=>hi r (di _ hr),Xm ?_⟩;unfold Gen.Jl;generalize Wp xs wks=SD;simp
  |cons r0 fr0=>
   have hne:fr≠[]:=by rw[hfr];exact List.cons_ne_nil _ _
   have hpos:0<fr.length:=List.length_pos_iff.mpr hne;rw[<-hfr];obtain⟨y8,y9,y10,b1,e⟩:=Zsr h xs wks (by omega) ho m hm F fr s t hb (by omega) (λr hr=>Um hw (hi r (b6 _ hr))) a1 x8 x9 x10;obtain⟨k1,k2⟩:=Zo3 (xs:=xs) (wks:=wks) (m:=m) (F:=F) (fr:=fr) (s:=s) (t:=t) nd;obtain⟨G,s',t',z8,z9,z10,q1,q2,q3,q4⟩:=Zge h xs wks hx nd hw ho m hm a1 c (F++fr) (nxt xs wks m F fr s t) ((fr.map (·.1)).foldl (Om xs wks) s) (t+1) fuel y8 y9 y10 (by rw[aw];omega) (by omega) b1 (by
     rw[b4];exact List.nodup_append.mpr ⟨hn,k1,λx hx y hy z=>by
      obtain⟨r,hr,rfl⟩:=ax.mp hy;exact(k2 r hr).2 (z▸hx)⟩) (λr hr=>by
     rcases cj.mp hr with z|z
     .exact hi r z
     .exact(k2 r z).1)
   refine⟨G,s',t',z8,z9,z10,.step hne q1,q2,q3,(Zbx ?_ e).trans q4⟩;unfold Gen.Jl lst;generalize Wp xs wks=SD;generalize hfd:fr.map Zy=FD at*;have hp:(0:Int)<(FD.length:Int):=by rw[lm];omega
   have hp':0<FD.length:=by rw[lm];exact hpos
   have zz:FD.length<=PySem.sizeLine:=by rw[lm];exact zl
   simp[hp,hp',zz]
end My
set_option maxHeartbeats 800000
namespace My
open DL PySem TT TX
noncomputable def Qe(xs:List Str)(k:Str):List Str:=if k∈xs then xs else xs++[k]
noncomputable abbrev Ky(xs:List Str):List D:=xs.map λ_=>D.bl aC
theorem Zj8(k:Str)(xs:List Str):Wm (Zf xs) (Ky xs) (bh k) (.bl aC)=(Zf (Qe xs k),Ky (Qe xs k)):=by
 rw[J1];unfold Qe;by_cases h:k∈xs
 .rw[if_pos h];unfold Wm;rw[if_pos h];show(Zf xs,(xs.zip (Ky xs)).map λp=>if p.1=k then D.bl aC else p.2)=(Zf xs,Ky xs)
  congr 1;have:∀ys:List Str,((ys.zip (Ky ys)).map λp=>if p.1=k then D.bl aC else p.2)=Ky ys:=by
   intro ys;induction ys with
   |nil=>rfl
   |cons y ys ih=>show(if y=k then D.bl aC else D.bl aC)::((ys.zip (Ky ys)).map λp=>if p.1=k then D.bl aC else p.2)=D.bl aC::Ky ys;rw[ih,ite_self]
  exact this xs
 .rw[if_neg h,Bb h];show(Zf (xs++[k]),Ky xs++[.bl aC])=(Zf (xs++[k]),Ky (xs++[k]))
  unfold Ky;rw[b4];rfl
theorem S4(xs:List Str)(k:Str):(Qe xs k).length<=xs.length+1:=by unfold Qe;split;omega;simp
theorem Kz(a0:Option SV):∀(ks xs:List Str) (x2:Option SV),xs.length+ks.length<=1000->
  ∃y2,Y8 (Zi 2) Gen.Js (ks.map D.str) [a0,aA (.oK (Zf xs) (Ky xs)),x2]=aA (.nx [a0,aA (.oK (Zf (ks.foldl Qe xs)) (Ky (ks.foldl Qe xs))),y2])
 | [],xs,x2,_=>⟨x2,by simp⟩
 |k::ks,xs,x2,hl=>by
  rw[bd]at hl;have al:=S4 xs k;obtain⟨y2,e⟩:=Kz a0 ks (Qe xs k) (aA (.fz (.str k))) (by omega);refine⟨y2,?_⟩;have pt:=Zj8 k xs;have z:(Ky xs).length<PySem.sizeLine:=Ym (by rw[am];omega);have hb:Gen.Js [a0,aA (.oK (Zf xs) (Ky xs)),aA (.fz (.str k))]=aA (.nx [a0,aA (.oK (Zf (Qe xs k)) (Ky (Qe xs k))),aA (.fz (.str k))]):=by generalize Ky (Qe xs k)=T2 at*;generalize Zf (Qe xs k)=X2 at*;generalize Ky xs=T1 at*;generalize Zf xs=X1 at*;unfold Gen.Js;simp[-Wm,pt,z]
  rw[ay];exact(Wa (by simp) hb).trans e
theorem E3:∀(ks xs:List Str),(ks.foldl Qe xs).length<=xs.length+ks.length
 | [],xs=>bg _
 |k::ks,xs=>by have h1:=E3 ks (Qe xs k);have h2:=S4 xs k;rw[List.foldl_cons,bd];omega
theorem K1(xs:List Str):(Zf xs).map Im=xs.map D.str:=by unfold Zf;rw[cx];rfl
theorem Zj9(ks:List Str)(h:ks.length<=1000):Gen.J2 [.lst (ks.map D.str)]=aA (.ol ((ks.foldl Qe []).map D.str)):=by obtain⟨y2,e⟩:=Kz (aA (.fz (.lst (ks.map D.str)))) ks [] aB (by simpa using h);have i0:Zf ([]:List Str)=[]:=rfl;have t0:Ky ([]:List Str)=[]:=rfl;rw[i0,t0]at e;have kk:=K1 (ks.foldl Qe []);have ol:=E3 ks [];have zz:(Zf (ks.foldl Qe [])).length<=PySem.sizeLine:=Zt (by unfold Zf;rw[am];simp at ol;omega);generalize Ky (ks.foldl Qe [])=T2 at*;generalize Zf (ks.foldl Qe [])=X2 at*;generalize (ks.foldl Qe []).map D.str=R at*;generalize ks.map D.str=KD at*;unfold Gen.J2 Gen.C5;simp[-Y8,e,kk,zz]
end My
set_option maxHeartbeats 800000
namespace My
open DL PySem TT TX
def Z5(xs ks:List Str):List Wz:=((ks.foldl Qe []).filter λk=>decide (k∈xs)).map λk=>(k,0,Why.text)
theorem Ni{α:Type}:∀{xs:List Str} {vs:List α} {k:Str},xs.length=vs.length->((lk xs vs k).isSome=aC↔k∈xs)
 | [],[],k,_=>by simp[lk]
 |x::xs,v::vs,k,hl=>by
  have ih:=Ni (xs:=xs) (vs:=vs) (k:=k) (by simpa using hl);show(if x=k then aA v else lk xs vs k).isSome=aC↔_;by_cases e:x=k
  .rw[if_pos e];simp[e]
  .rw[if_neg e,ih];constructor
   .exact λz=>aj _ z
   .intro z;rcases bo.mp z with y|y
    .exact absurd y.symm e
    .exact y
 | [],_::_,k,hl=>by simp at hl
 |_::_,[],k,hl=>by simp at hl
def fiF(xs:List Str):D->Option D
 | .str k=>if k∈xs then aA (Zy (k,0,.text))else aB
 |_=>aB
theorem Zgf(xs:List Str):∀us:List Str,(us.map D.str).filterMap (fiF xs)=((us.filter λk=>decide (k∈xs)).map λk=>((k,0,Why.text):Wz)).map Zy
 | []=>rfl
 |u::us=>by
  have ih:=Zgf xs us;by_cases h:u∈xs
  .have ef:fiF xs (.str u)=aA (Zy (u,0,.text)):=if_pos h;rw[ay,dq ef,ih,List.filter_cons_of_pos (by simp[h])];rfl
  .have ef:fiF xs (.str u)=aB:=if_neg h;rw[ay,dr ef,ih,f8 (by simp[h])]
theorem E4:∀(ks xs:List Str),xs.Nodup->(ks.foldl Qe xs).Nodup
 | [],xs,h=>h
 |k::ks,xs,h=>E4 ks (Qe xs k) (by
  unfold Qe;split
  .exact h
  .rename_i hk;exact List.nodup_append.mpr ⟨h,by simp,λa ha b hb z=>by rw[aq.mp hb]at z;exact hk (z▸ha)⟩)
theorem Zcd{ws:List Str}{n:Nat}(h:Ws ws n)(xs:List Str)(wks:List Wk)(hx:xs.length<=40)(nd:xs.Nodup)(hw:xs.length=wks.length)(ho:∀w∈wks,w.nt.Ok)(m:Nat)(hm:m<=100)(ks:List Str)(hk:ks.length<=100):
  ∃G s' t',Run xs wks m [] (([],[]),([],[])) (Z5 xs ks) 0 G s' t'/\(G.map (·.1)).Nodup/\(∀r∈G,r.1∈xs)/\Gen.U4 [Wp xs wks,.lst (ks.map D.str),.int (m:Int)]=aA (.ol (G.map Zy)):=by
 have on:=Zj9 ks (by omega);have ol:=E3 ks [];have und:=E4 ks [] cz;have cm:=Bq (src:=[.own,.cap 0,.acc]) (k:=2) (g:=Zi 0) (tt:=Gen.B3) (te:=Gen.B4) (st:=λzs=>[aB,aA (.fz (Wp xs wks)),aA (.ol zs)]) (f:=fiF xs) ((ks.foldl Qe []).map D.str) [] (λd hd zs ds' hz=>by
  obtain⟨k,_,rfl⟩:=ax.mp hd;have l:=Ul Wk.d k xs wks;have lm:=Ni (xs:=xs) (vs:=wks) (k:=k) hw;have z1:1<=PySem.sizeLine:=Zt (by decide);have z3:3<=PySem.sizeLine:=Zt (by decide)
  conv=>lhs;rw[Z4]
  unfold Gen.B3 Gen.B4;by_cases hk:k∈xs
  .obtain⟨w,hw'⟩:=Um hw hk;rw[hw']at l;have l:Yk (Zf xs) (wks.map Wk.d) (bh k)=aA w.d:=l;have ef:fiF xs (.str k)=aA (.tup [.str k,.int 0,.tup [.str "text"]]):=if_pos hk;rw[ef];unfold Wp;generalize w.d=WD at*;generalize Zf xs=XK at*;generalize wks.map Wk.d=XV at*;simp[-Z4,-Yk,D.seq?,l,z1,z3,hz]
  .have hn:lk xs wks k=aB:=by
    cases e:lk xs wks k with
    |none=>rfl
    |some v=>exact absurd (lm.mp (by rw[e];rfl)) hk
   rw[hn]at l;have l:Yk (Zf xs) (wks.map Wk.d) (bh k)=aB:=l;have ef:fiF xs (.str k)=aB:=if_neg hk;rw[ef];unfold Wp;generalize Zf xs=XK at*;generalize wks.map Wk.d=XV at*;simp[-Z4,-Yk,D.seq?,l]) (by simp at ol⊢;omega)
 rw[cy,Zgf]at cm;have b0:Bd ([]:List Wz).length (([],[]),([],[])):=⟨rfl,d8 _,rfl,d8 _,λ_ z=>nomatch z⟩
 have fk:(Z5 xs ks).map (·.1)=(ks.foldl Qe []).filter λk=>decide (k∈xs):=by unfold Z5;rw[cx];exact List.map_id' _
 obtain⟨G,s',t',y8,y9,y10,q1,q2,q3,q4⟩:=Zge h xs wks hx nd hw ho m hm (aA (.fz (.lst (ks.map D.str)))) 41 [] (Z5 xs ks) (([],[]),([],[])) 0 1000 aB aB aB (by omega) (by omega) b0 (by
   rw[cy,fk];exact List.Sublist.nodup List.filter_sublist und) (λr hr=>by
   rw[cy]at hr;have:r.1∈(Z5 xs ks).map (·.1):=ax.mpr ⟨r,hr,rfl⟩;rw[fk]at this;exact of_decide_eq_true (List.mem_filter.mp this).2)
 refine⟨G,s',t',q1,q2,q3,?_⟩;have q4:Ji Gen.Jl Gen.Qv 1000 [aA (.fz (Wp xs wks)),aA (.fz (.lst (ks.map D.str))),aA (.fz (.int (m:Int))),aA (.ol []),aA (.oK [] []),aA (.oN [] []),aA (.ol ((Z5 xs ks).map Zy)),aA (.fz (.int 0)),aB,aB,aB]=_:=q4;have cm:Z4 [.own,.cap 0,.acc] 2 (Zi 0) Gen.B3 Gen.B4 ((ks.foldl Qe []).map D.str) [aB,aA (.fz (Wp xs wks)),aA (.ol [])]=aA [aB,aA (.fz (Wp xs wks)),aA (.ol ((Z5 xs ks).map Zy))]:=cm;have fu:Gen.Zon=1000:=rfl;unfold lst at q4;generalize (Z5 xs ks).map Zy=FR at*;generalize (ks.foldl Qe []).map D.str=UD at*;generalize ks.map D.str=KD at*;generalize G.map Zy=GD at*;generalize Wp xs wks=SD at*;generalize hB:Gen.Qv=B at*;generalize hT:Gen.Jl=T at*;unfold Gen.U4 Gen.Eu;rw[hB,hT];generalize Ji T B=WD at*;simp[-Z4,on,cm,fu,q4]
end My
set_option maxHeartbeats 800000
namespace My
open DL PySem TT TX
theorem Zo4(a b:Str):Da 48 (Gh a) (Gh b)=aA (decide (a=b)):=by
 by_cases h:a=b
 .subst h;simp[Da]
 .simp[Da,h]
noncomputable def addF(xs:List Str)(us:List Str)(k:Str):List Str:=if k∈xs/\k∉us then us++[k]else us
theorem E5(xs:List Str)(wks:List Wk)(hw:xs.length=wks.length)(a1:Option SV):∀(ks us:List Str) (x3:Option SV),us.length+ks.length<=1000->
  ∃y3,Y8 (Zi 3) Gen.Jt (ks.map D.str) [aA (.fz (Wp xs wks)),a1,aA (.ol (us.map Gh)),x3]=aA (.nx [aA (.fz (Wp xs wks)),a1,aA (.ol ((ks.foldl (addF xs) us).map Gh)),y3])
 | [],us,x3,_=>⟨x3,by simp⟩
 |k::ks,us,x3,hl=>by
  rw[bd]at hl;have al:(addF xs us k).length<=us.length+1:=by unfold addF;split;simp;omega
  obtain⟨y3,e⟩:=E5 xs wks hw a1 ks (addF xs us k) (aA (.fz (.str k))) (by omega);refine⟨y3,?_⟩;have l:=Ul Wk.d k xs wks;have lm:=Ni (xs:=xs) (vs:=wks) (k:=k) hw;have z1:1<=PySem.sizeLine:=Zt (by decide);have z3:3<=PySem.sizeLine:=Zt (by decide);have zu:us.length<PySem.sizeLine:=Ym (by omega);have lu:(us.map Gh).length=us.length:=am ..;have nt:=Zbv (k:=k) (ks:=us) (λk' _=>Zo4 k' k);have hb:Gen.Jt [aA (.fz (Wp xs wks)),a1,aA (.ol (us.map Gh)),aA (.fz (.str k))]=aA (.nx [aA (.fz (Wp xs wks)),a1,aA (.ol ((addF xs us k).map Gh)),aA (.fz (.str k))]):=by
   unfold Gen.Jt addF Wp;by_cases hk:k∈xs
   .obtain⟨w,hw'⟩:=Um hw hk;rw[hw']at l;have l:Yk (Zf xs) (wks.map Wk.d) (bh k)=aA w.d:=l;by_cases hu:k∈us
    .rw[if_neg λz=>z.2 hu];have an:(us.any λx=>decide (x=k))=aC:=by rw[List.any_eq_true];exact⟨k,hu,by simp⟩
     rw[an]at nt;generalize us.map Gh=UD at*;generalize w.d=WD at*;generalize Zf xs=XK at*;generalize wks.map Wk.d=XV at*;simp[-Yk,D.seq?,l,z1,z3,nt]
    .rw[if_pos ⟨hk,hu⟩,b4];have an:(us.any λx=>decide (x=k))=aD:=by rw[List.any_eq_false];intro x hx z;exact hu (of_decide_eq_true z▸hx)
     rw[an]at nt;generalize us.map Gh=UD at*;generalize w.d=WD at*;generalize Zf xs=XK at*;generalize wks.map Wk.d=XV at*;simp[-Yk,D.seq?,l,z1,z3,nt,lu,zu]
   .rw[if_neg λz=>hk z.1];have hn:lk xs wks k=aB:=by
     cases e:lk xs wks k with
     |none=>rfl
     |some v=>exact absurd (lm.mp (by rw[e];rfl)) hk
    rw[hn]at l;have l:Yk (Zf xs) (wks.map Wk.d) (bh k)=aB:=l;generalize us.map Gh=UD at*;generalize Zf xs=XK at*;generalize wks.map Wk.d=XV at*;simp[-Yk,D.seq?,l]
  rw[ay];exact(Wa (by simp) hb).trans e
theorem K2(xs:List Str):∀(ks us:List Str),ks.foldl (addF xs) (us.filter λk=>decide (k∈xs))=(ks.foldl Qe us).filter λk=>decide (k∈xs)
 | [],us=>rfl
 |k::ks,us=>by
  have e:addF xs (us.filter λk=>decide (k∈xs)) k=(Qe us k).filter λk=>decide (k∈xs):=by
   unfold addF Qe;by_cases hx:k∈xs
   .by_cases hu:k∈us
    .rw[if_pos hu,if_neg λz=>z.2 (List.mem_filter.mpr ⟨hu,decide_eq_true hx⟩)]
    .rw[if_neg hu,if_pos ⟨hx,λz=>hu (List.mem_filter.mp z).1⟩,List.filter_append];simp[hx]
   .rw[if_neg λz=>hx z.1];by_cases hu:k∈us
    .rw[if_pos hu]
    .rw[if_neg hu,List.filter_append];simp[hx]
  rw[List.foldl_cons,List.foldl_cons,e];exact K2 xs ks (Qe us k)
theorem Zce(xs:List Str)(wks:List Wk)(hw:xs.length=wks.length)(ks:List Str)(hk:ks.length<=100):Gen.W7 [Wp xs wks,.lst (ks.map D.str)]=aA (.ol ((Z5 xs ks).map Zy)):=by
 obtain⟨y3,e⟩:=E5 xs wks hw (aA (.fz (.lst (ks.map D.str)))) ks [] aB (by simp;omega);have ea:=K2 xs ks [];have ea:ks.foldl (addF xs) []=(ks.foldl Qe []).filter λk=>decide (k∈xs):=ea;have er:(Z5 xs ks).map Zy=(ks.foldl (addF xs) []).map Gh:=by rw[ea];unfold Z5;rw[cx];rfl
 rw[er];generalize (ks.foldl (addF xs) []).map Gh=FD at*;generalize ks.map D.str=KD at*;generalize Wp xs wks=SD at*;unfold Gen.W7 Gen.C7;simp[-Y8]at e⊢;simp[-Y8,e]
end My
set_option maxHeartbeats 800000
namespace My
open DL PySem TT TX
def Iz(xs:List Str)(wks:List Wk)(o:Str):List Str:=((lk xs wks o).map λw=>w.nt.keys).getD []
def Ts(xs:List Str)(wks:List Wk)(o:Str):Option Str:=(lk xs wks o).bind (·.inn)
def Uo(xs:List Str)(wks:List Wk)(F:List Str)(m:Nat)(key:Str):Option Why:=match F.find? λo=>decide (key∈Iz xs wks o)with
 |some o=>aA (.note o)
 |none=>if m<=(F.filter λo=>decide (Ts xs wks o=aA key)).length then aA (.parts ((F.filter λo=>decide (Ts xs wks o=aA key)).take m))else aB
abbrev Ci(xs:List Str)(wks:List Wk):D:=.dK (Zf xs) (wks.map ntD)
theorem Mv(xs:List Str)(wks:List Wk)(hw:xs.length=wks.length)(a0 a2 a4 a6:Option SV)(key:Str):∀(F:List Str) (x5:Option SV),(∀o∈F,o∈xs)->
  ∃y5,Y8 (Zi 5) Gen.Wn (F.map D.str) [a0,aA (.fz (Ci xs wks)),a2,aA (.fz (.str key)),a4,x5,a6]=match F.find? λo=>decide (key∈Iz xs wks o)with
   |some o=>aA (.rt (.fz (Why.note o).d))
   |none=>aA (.nx [a0,aA (.fz (Ci xs wks)),a2,aA (.fz (.str key)),a4,y5,a6])
 | [],x5,_=>⟨x5,by simp⟩
 |o::F,x5,hF=>by
  obtain⟨w,hw'⟩:=Um hw (hF o af);have l:Yk (Zf xs) (wks.map ntD) (bh o)=aA (.lst (w.nt.keys.map D.str)):=by rw[Ul ntD o xs wks,hw'];rfl
  have en:Iz xs wks o=w.nt.keys:=by unfold Iz;rw[hw'];rfl
  have i1:=An key w.nt.keys;have fs:=B9 w.nt.keys;have z2:2<=PySem.sizeLine:=Zt (by decide);by_cases h:key∈w.nt.keys
  .refine⟨x5,?_⟩;rw[List.find?_cons_of_pos (by rw[en];exact decide_eq_true h),ay];refine Zj1 (δ1:=[a0,aA (.fz (Ci xs wks)),a2,aA (.fz (.str key)),a4,aA (.fz (.str o)),a6]) (by simp) ?_;rw[decide_eq_true h]at i1;show _=aA (Fl.rt (.fz (.tup [.str "note",.str o])));unfold Gen.Wn Ci;generalize Zf xs=XK at*;generalize wks.map ntD=XV at*;simp[-Yk,D.seq?,l,fs,i1,z2]
  .obtain⟨y5,e⟩:=Mv xs wks hw a0 a2 a4 a6 key F (aA (.fz (.str o))) (λx hx=>hF x (aj _ hx));refine⟨y5,?_⟩;rw[List.find?_cons_of_neg (by rw[en];simpa using h),ay,<-e];refine Wa (δ1:=[a0,aA (.fz (Ci xs wks)),a2,aA (.fz (.str key)),a4,aA (.fz (.str o)),a6]) (by simp) ?_;rw[decide_eq_false h]at i1;unfold Gen.Wn Ci;generalize Zf xs=XK at*;generalize wks.map ntD=XV at*;simp[-Yk,D.seq?,l,fs,i1]
theorem Ca(xs:List Str)(wks:List Wk)(hw:xs.length=wks.length)(a1 a2 a4:Option SV)(key:Str):∀(F:List Str) (us:List Str) (x5:Option SV),(∀o∈F,o∈xs)->us.length+F.length<=1000->
  ∃y5,Y8 (Zi 5) Gen.W8 (F.map D.str) [aA (.fz (Wp xs wks)),a1,a2,aA (.fz (.str key)),a4,x5,aA (.ol (us.map D.str))]=
   aA (.nx [aA (.fz (Wp xs wks)),a1,a2,aA (.fz (.str key)),a4,y5,aA (.ol ((us++F.filter λo=>decide (Ts xs wks o=aA key)).map D.str))])
 | [],us,x5,_,_=>⟨x5,by simp⟩
 |o::F,us,x5,hF,hl=>by
  rw[bd]at hl;obtain⟨w,hw'⟩:=Um hw (hF o af);have l:Yk (Zf xs) (wks.map Wk.d) (bh o)=aA (.tup [.str "book",.dK (Zf w.ks) w.vs]):=by rw[Ul Wk.d o xs wks,hw'];rfl
  have ei:Ts xs wks o=w.inn:=by unfold Ts;rw[hw'];rfl
  have li:=Zaf w;have a1':L2.atI [D.str "book",.dK (Zf w.ks) w.vs] 1=aA (.dK (Zf w.ks) w.vs):=Yc _ 1 _ rfl;have zu:us.length<PySem.sizeLine:=Ym (by omega);have lu:(us.map D.str).length=us.length:=am ..;have hin:au "in"=Ao:=rfl;by_cases h:w.inn=aA key
  .obtain⟨y5,e⟩:=Ca xs wks hw a1 a2 a4 key F (us++[o]) (aA (.fz (.str o))) (λx hx=>hF x (aj _ hx)) (by rw[aw,c6];omega);refine⟨y5,?_⟩;rw[List.filter_cons_of_pos (by rw[ei];exact decide_eq_true h),ay,show us++o::F.filter (λo=>decide (Ts xs wks o=aA key))=us++[o]++F.filter (λo=>decide (Ts xs wks o=aA key)) by simp,<-e];refine Wa (δ1:=[aA (.fz (Wp xs wks)),a1,a2,aA (.fz (.str key)),a4,aA (.fz (.str o)),aA (.ol (us.map D.str))]) (by simp) ?_;rw[h]at li;have li:Yk (Zf w.ks) w.vs (bh Ao)=aA (.str key):=li;rw[b4];unfold Gen.W8 Wp;generalize us.map D.str=UD at*;generalize Zf w.ks=WK at*;generalize w.vs=WV at*;generalize Zf xs=XK at*;generalize wks.map Wk.d=XV at*;simp[-Yk,l,a1',hin,li,lu,zu]
  .obtain⟨y5,e⟩:=Ca xs wks hw a1 a2 a4 key F us (aA (.fz (.str o))) (λx hx=>hF x (aj _ hx)) (by omega);refine⟨y5,?_⟩;rw[f8 (by rw[ei];simpa using h),ay,<-e];refine Wa (δ1:=[aA (.fz (Wp xs wks)),a1,a2,aA (.fz (.str key)),a4,aA (.fz (.str o)),aA (.ol (us.map D.str))]) (by simp) ?_;unfold Gen.W8 Wp;cases hi:w.inn with
   |none=>rw[hi]at li;have li:Yk (Zf w.ks) w.vs (bh Ao)=aB:=li;generalize us.map D.str=UD at*;generalize Zf w.ks=WK at*;generalize w.vs=WV at*;generalize Zf xs=XK at*;generalize wks.map Wk.d=XV at*;simp[-Yk,l,a1',hin,li]
   |some k=>rw[hi]at li h;have li:Yk (Zf w.ks) w.vs (bh Ao)=aA (.str k):=li;have hne:¬k=key:=λz=>h (by rw[z]);generalize us.map D.str=UD at*;generalize Zf w.ks=WK at*;generalize w.vs=WV at*;generalize Zf xs=XK at*;generalize wks.map Wk.d=XV at*;simp[-Yk,l,a1',hin,li,hne]
end My
set_option maxHeartbeats 800000
namespace My
open DL PySem TT TX
theorem Ru(xs:List Str)(wks:List Wk)(hw:xs.length=wks.length)(F:List Str)(hF:∀o∈F,o∈xs)(hl:F.length<=100)(m:Nat)(hm:m<=100)(key:Str):
  Gen.Z2 [Wp xs wks,Ci xs wks,.lst (F.map D.str),.str key,.int (m:Int)]=aA (.fz (Tr (Uo xs wks F m key))):=by
 obtain⟨y5,e1⟩:=Mv xs wks hw (aA (.fz (Wp xs wks))) (aA (.fz (.lst (F.map D.str)))) (aA (.fz (.int (m:Int)))) aB key F aB hF;obtain⟨z5,e2⟩:=Ca xs wks hw (aA (.fz (Ci xs wks))) (aA (.fz (.lst (F.map D.str)))) (aA (.fz (.int (m:Int)))) key F [] y5 hF (by simp;omega);rw[cy]at e2;have fl:=List.length_filter_le (λo=>decide (Ts xs wks o=aA key)) F;unfold Uo;cases hf:F.find? λo=>decide (key∈Iz xs wks o)with
 |some o=>rw[hf]at e1;have e1:Y8 (Zi 5) Gen.Wn (F.map D.str) [aA (.fz (Wp xs wks)),aA (.fz (Ci xs wks)),aA (.fz (.lst (F.map D.str))),aA (.fz (.str key)),aA (.fz (.int (m:Int))),aB,aB]=aA (.rt (.fz (Why.note o).d)):=e1;show _=aA (SV.fz (Why.note o).d);generalize (Why.note o).d=WD at*;generalize F.map D.str=FD at*;generalize Wp xs wks=SD at*;generalize Ci xs wks=ND at*;unfold Gen.Z2 Gen.Q9;simp[-Y8,e1]
 |none=>
  rw[hf]at e1;have e1:Y8 (Zi 5) Gen.Wn (F.map D.str) [aA (.fz (Wp xs wks)),aA (.fz (Ci xs wks)),aA (.fz (.lst (F.map D.str))),aA (.fz (.str key)),aA (.fz (.int (m:Int))),aB,aB]=aA (.nx [aA (.fz (Wp xs wks)),aA (.fz (Ci xs wks)),aA (.fz (.lst (F.map D.str))),aA (.fz (.str key)),aA (.fz (.int (m:Int))),y5,aB]):=e1;have e2:Y8 (Zi 5) Gen.W8 (F.map D.str) [aA (.fz (Wp xs wks)),aA (.fz (Ci xs wks)),aA (.fz (.lst (F.map D.str))),aA (.fz (.str key)),aA (.fz (.int (m:Int))),y5,aA (.ol [])]=_:=e2;generalize hh:(F.filter λo=>decide (Ts xs wks o=aA key))=held at*;have lm:(held.map D.str).length=held.length:=am ..;have zh:held.length<=PySem.sizeLine:=Zt (by omega);have z2:2<=PySem.sizeLine:=Zt (by decide);by_cases c:m<=held.length
  .show _=aA (SV.fz (Tr (if m<=held.length then aA (.parts (held.take m))else aB)));rw[if_pos c];show _=aA (SV.fz (D.tup [.str "parts",.tup ((held.take m).map D.str)]));have c':(m:Int)<=(held.length:Int):=by omega
   have cu:Cf (held.map D.str) aB (aA (m:Int))=(held.take m).map D.str:=by rw[Xn _ _ (by rw[lm];exact c),List.map_take]
   have zt:(held.take m).length<=PySem.sizeLine:=Zt (by rw[List.length_take];omega);have lt:((held.take m).map D.str).length=(held.take m).length:=am ..;generalize (held.take m).map D.str=TM at*;generalize held.map D.str=HD at*;generalize F.map D.str=FD at*;generalize Wp xs wks=SD at*;generalize Ci xs wks=ND at*;unfold Gen.Z2 Gen.Q9;simp[-Y8,e1,e2,lm,zh,c,c',cu,z2,lt,zt]
  .show _=aA (SV.fz (Tr (if m<=held.length then aA (.parts (held.take m))else aB)));rw[if_neg c];have c':¬(m:Int)<=(held.length:Int):=by omega
   generalize held.map D.str=HD at*;generalize F.map D.str=FD at*;generalize Wp xs wks=SD at*;generalize Ci xs wks=ND at*;unfold Gen.Z2 Gen.Q9;simp[-Y8,e1,e2,lm,zh,c,c',Tr]
theorem X0{α:Type}(k:Str)(x:Str)(v:α):∀(xs:List Str) (vs:List α),xs.length=vs.length->lk (xs++[x]) (vs++[v]) k=(lk xs vs k).orElse λ_=>if x=k then aA v else aB
 | [],[],_=>by show(if x=k then aA v else aB)=_;rfl
 |y::ys,w::ws,h=>by
  have ih:=X0 k x v ys ws (by simpa using h);show(if y=k then aA w else lk (ys++[x]) (ws++[v]) k)=(if y=k then aA w else lk ys ws k).orElse _;by_cases e:y=k
  .rw[if_pos e,if_pos e];rfl
  .rw[if_neg e,if_neg e,ih]
 | [],_::_,h=>by simp at h
 |_::_,[],h=>by simp at h
theorem Zah(key k:Str):∀(os:List Str) (p:List Str×List Str),p.1.length=p.2.length->lk (U8 key os p).1 (U8 key os p).2 k=(lk p.1 p.2 k).orElse λ_=>if k∈os then aA key else aB
 | [],p,_=>by show lk p.1 p.2 k=_;cases lk p.1 p.2 k<;> rfl
 |o::os,p,hp=>by
  have ih:=Zah key k os (if o∈p.1 then p else(p.1++[o],p.2++[key])) (by split;exact hp;simp[hp]);show lk (U8 key os _).1 (U8 key os _).2 k=_;rw[ih];by_cases ho:o∈p.1
  .rw[if_pos ho];cases e:lk p.1 p.2 k with
   |some v=>rfl
   |none=>
    have hk:¬k=o:=λz=>by obtain⟨v,hv⟩:=Um hp (z▸ho);rw[e]at hv;cases hv
    show(if k∈os then aA key else aB)=if k∈o::os then aA key else aB;simp[hk]
  .rw[if_neg ho];show(lk (p.1++[o]) (p.2++[key]) k).orElse _=_;rw[X0 k o key p.1 p.2 hp];cases e:lk p.1 p.2 k with
   |some v=>rfl
   |none=>
    by_cases hk:o=k
    .subst hk;simp
    .have hk':¬k=o:=λz=>hk z.symm;simp[hk,hk']
end My
set_option maxHeartbeats 800000
namespace My
open DL PySem TT TX
theorem S5{α:Type}(k':Str):∀(xs:List Str) (vs:List α) (j:Nat),xs.length=vs.length->Wj (Zf xs) (bh k')=aA j->lk xs vs k'=vs[j]?/\∀(v:α) (k:Str),lk xs (vs.set j v) k=if k'=k then aA v else lk xs vs k
 | [],[],j,_,h=>by cases h
 |x::xs,w::vs,j,hl,h=>by
  have h:(if(bh x:L2.Key)=bh k' then aA 0 else(Wj (Zf xs) (bh k')).map (· +1))=aA j:=h;by_cases e:x=k'
  .rw[if_pos (by rw[e])]at h;cases h;refine⟨if_pos e,λv k=>?_⟩;show(if x=k then aA v else lk xs vs k)=if k'=k then aA v else(if x=k then aA w else lk xs vs k)
   rw[e];by_cases hk:k'=k
   .rw[if_pos hk,if_pos hk]
   .rw[if_neg hk,if_neg hk,if_neg hk]
  .rw[if_neg λz=>e (bh.inj z)]at h;obtain⟨i,hi,hj⟩:=dg.mp h;subst hj;obtain⟨h1,h2⟩:=S5 k' xs vs i (by simpa using hl) hi;refine⟨by show(if x=k' then aA w else lk xs vs k')=_;rw[if_neg e,h1];rfl,λv k=>?_⟩;show(if x=k then aA w else lk xs (vs.set i v) k)=if k'=k then aA v else(if x=k then aA w else lk xs vs k)
   rw[h2 v k];by_cases hk:x=k
   .have:¬k'=k:=λz=>e (hk.trans z.symm);rw[if_pos hk,if_neg this,if_pos hk]
   .rw[if_neg hk,if_neg hk]
 | [],_::_,j,hl,h=>by simp at hl
 |_::_,[],j,hl,h=>by simp at hl
theorem X4{k':Str}:∀{xs:List Str},Wj (Zf xs) (bh k')=aB->k'∉xs:=fun{xs} h z=>by obtain⟨p,hp,_⟩:=Tq z;rw[hp]at h;cases h
theorem Zka(k' key k:Str)(q:List Str×List (List Str))(hq:q.1.length=q.2.length):(lk (Ch k' key q).1 (Ch k' key q).2 k).getD []=(lk q.1 q.2 k).getD []++if k'=k then[key]else[]:=by
 unfold Ch;split
 .rename_i j hj;obtain⟨h1,h2⟩:=S5 k' q.1 q.2 j hq hj;show(lk q.1 (q.2.set j (q.2.getD j []++[key])) k).getD []=_;rw[h2];by_cases hk:k'=k
  .rw[if_pos hk,if_pos hk,<-hk,h1,cf];rfl
  .rw[if_neg hk,if_neg hk,dm]
 .rename_i hj;have nm:=X4 hj;show(lk (q.1++[k']) (q.2++[[key]]) k).getD []=_;rw[X0 k k' [key] q.1 q.2 hq];cases e:lk q.1 q.2 k with
  |some v=>have:¬k'=k:=λz=>nm (by rw[z];exact(Ni hq).mp (by rw[e];rfl));rw[if_neg this,if_neg this,dm];rfl
  |none=>
   by_cases hk:k'=k
   .rw[if_pos hk,if_pos hk];rfl
   .rw[if_neg hk,if_neg hk];rfl
theorem Zai{xs:List Str}{wks:List Wk}(hw:xs.length=wks.length)(ho:∀w∈wks,w.nt.Ok)(k:Str):∀(F:List Str) (s:PQ) (t:Nat),Bd t s->(∀o∈F,o∈xs)->
  lk (F.foldl (Om xs wks) s).1.1 (F.foldl (Om xs wks) s).1.2 k=((lk s.1.1 s.1.2 k).orElse λ_=>F.find? λo=>decide (k∈Iz xs wks o))/\
  (lk (F.foldl (Om xs wks) s).2.1 (F.foldl (Om xs wks) s).2.2 k).getD []=(lk s.2.1 s.2.2 k).getD []++F.filter λo=>decide (Ts xs wks o=aA k)
 | [],s,t,_,_=>⟨by show lk s.1.1 s.1.2 k=_;cases lk s.1.1 s.1.2 k<;> rfl,by simp⟩
 |o::F,s,t,hb,hF=>by
  obtain⟨w,hw'⟩:=Um hw (hF o af);have et:Om xs wks s o=(U8 o w.nt.keys s.1,Mt w.inn o s.2):=by unfold Om;rw[hw']
  have en:Iz xs wks o=w.nt.keys:=by unfold Iz;rw[hw'];rfl
  have ei:Ts xs wks o=w.inn:=by unfold Ts;rw[hw'];rfl
  obtain⟨i1,i2⟩:=Zai hw ho k F (Om xs wks s o) (t+1) (Zgd ho hb o) (λx hx=>hF x (aj _ hx));rw[List.foldl_cons];refine⟨?_,?_⟩
  .rw[i1,et];show(lk (U8 o w.nt.keys s.1).1 (U8 o w.nt.keys s.1).2 k).orElse _=_;rw[Zah o k w.nt.keys s.1 hb.p];cases e:lk s.1.1 s.1.2 k with
   |some v=>rfl
   |none=>
    by_cases h:k∈w.nt.keys
    .rw[List.find?_cons_of_pos (by rw[en];exact decide_eq_true h)];show(if k∈w.nt.keys then aA o else aB).orElse _=_;rw[if_pos h];rfl
    .rw[List.find?_cons_of_neg (by rw[en];simpa using h)];show(if k∈w.nt.keys then aA o else aB).orElse _=_;rw[if_neg h]
  .rw[i2,et];show(lk (Mt w.inn o s.2).1 (Mt w.inn o s.2).2 k).getD []++_=_;cases hi:w.inn with
   |none=>rw[f8 (by rw[ei,hi];simp)];rfl
   |some k'=>
    show(lk (Ch k' o s.2).1 (Ch k' o s.2).2 k).getD []++_=_;rw[Zka k' o k s.2 hb.q];by_cases hk:k'=k
    .rw[if_pos hk,List.filter_cons_of_pos (by rw[ei,hi,hk];simp),dy];rfl
    .rw[if_neg hk,dm,f8 (by rw[ei,hi];simpa using hk)]
theorem Tt{xs:List Str}{wks:List Wk}(hw:xs.length=wks.length)(ho:∀w∈wks,w.nt.Ok)(F:List Str)(hF:∀o∈F,o∈xs)(m:Nat)(k:Str):
  reason (F.foldl (Om xs wks) (([],[]),([],[]))).1 (F.foldl (Om xs wks) (([],[]),([],[]))).2 m k=Uo xs wks F m k:=by
 obtain⟨e1,e2⟩:=Zai hw ho k F (([],[]),([],[])) 0 ⟨rfl,d8 _,rfl,d8 _,λ_ z=>nomatch z⟩ hF;have e1:lk (F.foldl (Om xs wks) (([],[]),([],[]))).1.1 (F.foldl (Om xs wks) (([],[]),([],[]))).1.2 k=F.find? λo=>decide (k∈Iz xs wks o):=e1;have e2:(lk (F.foldl (Om xs wks) (([],[]),([],[]))).2.1 (F.foldl (Om xs wks) (([],[]),([],[]))).2.2 k).getD []=F.filter λo=>decide (Ts xs wks o=aA k):=e2;unfold reason Uo;rw[e1,e2];all_goals(cases F.find? λo=>decide (k∈Iz xs wks o)<;> rfl)
end My
set_option maxHeartbeats 800000
namespace My
open DL PySem TT TX
abbrev Jg(F:List Wz):List Str:=F.map (·.1)
theorem Zaj(A B:List Wz):Jg (A++B)=Jg A++Jg B:=b4
abbrev Uf(G:List Wz)(j:Nat):List Wz:=G.filter λr=>decide (r.2.1<=j)
def e0:PQ:=(([],[]),([],[]))
structure Ahead(xs:List Str)(wks:List Wk)(m:Nat)(F:List Wz)(s:PQ)(fr:List Wz)(t:Nat):Prop where
 st:s=(Jg F).foldl (Om xs wks) e0
 lo:∀r∈F,r.2.1<t
 eq:∀r∈fr,r.2.1=t
 new:1<=t->fr=Jd t (Bg s m (Jg F) xs)
 mem:∀r∈F++fr,r.1∈xs
structure Right(xs:List Str)(wks:List Wk)(m:Nat)(G:List Wz)(r:Wz):Prop where
 out:r.1∉Jg (Uf G (r.2.1- 1))
 why:aA r.2.2=Uo xs wks (Jg (Uf G (r.2.1- 1))) m r.1
 old:1<r.2.1->Uo xs wks (Jg (Uf G (r.2.1- 2))) m r.1=aB
theorem Cb{t:Nat}{s:PQ}{m:Nat}{known xs:List Str}{r:Wz}:r∈Jd t (Bg s m known xs)↔r.2.1=t/\r.1∈xs/\r.1∉known/\reason s.1 s.2 m r.1=aA r.2.2:=by
 unfold Jd Bg;rw[List.mem_filterMap];constructor
 .rintro⟨p,hp,e⟩;obtain⟨k,hk,rfl⟩:=ax.mp hp;obtain⟨h1,h2⟩:=List.mem_filter.mp hk;obtain⟨y,hy,rfl⟩:=dg.mp e;exact⟨rfl,(Qc xs).mem_iff.mp h1,of_decide_eq_true h2,hy⟩
 .rintro⟨h1,h2,h3,h4⟩;refine⟨(r.1,reason s.1 s.2 m r.1),ax.mpr ⟨r.1,List.mem_filter.mpr ⟨(Qc xs).mem_iff.mpr h2,decide_eq_true h3⟩,rfl⟩,?_⟩;show(reason s.1 s.2 m r.1).map _=_;rw[h4];show aA (r.1,t,r.2.2)=aA r;rw[<-h1]
theorem S6{G:List Wz}{j:Nat}(h:∀r∈G,r.2.1<=j):Uf G j=G:=List.filter_eq_self.mpr λr hr=>decide_eq_true (h r hr)
theorem Tu{G:List Wz}{j:Nat}(h:∀r∈G,j<r.2.1):Uf G j=[]:=List.filter_eq_nil_iff.mpr λr hr=>by have:=h r hr;simp;omega
theorem E6(A B:List Wz)(j:Nat):Uf (A++B) j=Uf A j++Uf B j:=List.filter_append ..
theorem E7{xs:List Str}{wks:List Wk}{m:Nat}{F fr:List Wz}{s:PQ}{t:Nat}(a:Ahead xs wks m F s fr t):Ahead xs wks m (F++fr) ((Jg fr).foldl (Om xs wks) s) (nxt xs wks m F fr s t) (t+1):=by
 refine⟨?_,λr hr=>?_,λr hr=>(Cb.mp hr).1,λ_=>rfl,λr hr=>?_⟩
 .rw[a.st,Zaj,List.foldl_append]
 .rcases cj.mp hr with z|z
  .have:=a.lo r z;omega
  .have:=a.eq r z;omega
 .rcases cj.mp hr with z|z
  .exact a.mem r z
  .exact(Cb.mp z).2.1
theorem Zcf{xs:List Str}{wks:List Wk}(hw:xs.length=wks.length)(ho:∀w∈wks,w.nt.Ok){m:Nat}{F fr:List Wz}{s:PQ}{t:Nat}(a:Ahead xs wks m F s fr t)(X:List Wz)(hX:∀r∈X,t<r.2.1){r:Wz}(hr:r∈nxt xs wks m F fr s t):Right xs wks m (F++fr++X) r:=by
 obtain⟨h1,h2,h3,h4⟩:=Cb.mp hr;have lo:∀r∈F++fr,r.2.1<=t:=λr hr=>by
  rcases cj.mp hr with z|z
  .have:=a.lo r z;omega
  .have:=a.eq r z;omega
 have u1:Uf (F++fr++X) (r.2.1- 1)=F++fr:=by rw[h1,Nat.add_sub_cancel,E6,S6 lo,Tu hX,dm]
 have hs:(Jg fr).foldl (Om xs wks) s=(Jg (F++fr)).foldl (Om xs wks) e0:=by rw[a.st,Zaj,List.foldl_append]
 have hF:∀o∈Jg (F++fr),o∈xs:=λo ho'=>by obtain⟨q,hq,rfl⟩:=ax.mp ho';exact a.mem q hq
 refine⟨by rw[u1];exact h3,?_,λh5=>?_⟩
 .rw[u1,<-Tt hw ho (Jg (F++fr)) hF m r.1];have h4:reason ((Jg fr).foldl (Om xs wks) s).1 ((Jg fr).foldl (Om xs wks) s).2 m r.1=aA r.2.2:=h4;rw[hs]at h4;exact h4.symm
 .have t1:1<=t:=by omega
  have u2:Uf (F++fr++X) (r.2.1- 2)=F:=by
   have e:r.2.1- 2=t- 1:=by omega
   rw[e,E6,E6,S6 (λq hq=>by have:=a.lo q hq;omega),Tu (G:=fr) (λq hq=>by have:=a.eq q hq;omega),Tu (G:=X) (λq hq=>by have:=hX q hq;omega),dm,dm]
  rw[u2];cases e:Uo xs wks (Jg F) m r.1 with
  |none=>rfl
  |some y=>
   exfalso;have hF':∀o∈Jg F,o∈xs:=λo ho'=>by obtain⟨q,hq,rfl⟩:=ax.mp ho';exact a.mem q (di _ hq)
   rw[<-Tt hw ho (Jg F) hF' m r.1]at e;have e:reason s.1 s.2 m r.1=aA y:=by rw[a.st];exact e
   have nk:r.1∉Jg F:=λz=>h3 (by rw[b4];exact di _ z);have:((r.1,t,y):Wz)∈fr:=by rw[a.new t1];exact Cb.mpr ⟨rfl,h2,nk,e⟩
   exact h3 (ax.mpr ⟨_,b6 _ this,rfl⟩)
end My
set_option maxHeartbeats 800000
namespace My
open DL PySem TT TX
theorem Zcg{xs:List Str}{wks:List Wk}(hw:xs.length=wks.length)(ho:∀w∈wks,w.nt.Ok){m:Nat}{F fr G:List Wz}{s s':PQ}{t t':Nat}(r:Run xs wks m F s fr t G s' t')(a:Ahead xs wks m F s fr t):
  ∃X,G=F++fr++X/\(∀r∈X,t<r.2.1)/\(∀r∈X,Right xs wks m G r)/\(1<=t'->∀k∈xs,k∉Jg G->Uo xs wks (Jg G) m k=aB):=by
 induction r with
 |done F s t=>
  refine⟨[],by simp,(λ_ z=>nomatch z),(λ_ z=>nomatch z),λh1 k hk hn=>?_⟩;cases e:Uo xs wks (Jg F) m k with
  |none=>rfl
  |some y=>
   exfalso;have hF:∀o∈Jg F,o∈xs:=λo ho'=>by obtain⟨q,hq,rfl⟩:=ax.mp ho';exact a.mem q (di _ hq)
   rw[<-Tt hw ho (Jg F) hF m k]at e;have e:reason s.1 s.2 m k=aA y:=by rw[a.st];exact e
   have:((k,t,y):Wz)∈([]:List Wz):=by rw[a.new h1];exact Cb.mpr ⟨rfl,hk,hn,e⟩
   exact nomatch this
 | @step F fr G s s' t t' hne r ih=>
  obtain⟨X,hG,h1,h2,h3⟩:=ih (E7 a);have lt:∀q∈nxt xs wks m F fr s t++X,t<q.2.1:=λq hq=>by
   rcases cj.mp hq with z|z
   .have:=(Cb.mp z).1;omega
   .have:=h1 q z;omega
  have eG:G=F++fr++(nxt xs wks m F fr s t++X):=by rw[hG,dy (F++fr)]
  refine⟨nxt xs wks m F fr s t++X,eG,lt,λq hq=>?_,h3⟩;rcases cj.mp hq with z|z
  .rw[eG];exact Zcf hw ho a _ lt z
  .exact h2 q z
def Nxt(r q:Wz):Prop:=(q.2.1=r.2.1/\Ie r.1 q.1=aC/\r.1≠q.1)\/q.2.1=r.2.1+1
inductive Chn:Wz->List Wz->Prop where
 |nil (r:Wz):Chn r []
 |cons {r q:Wz} {l:List Wz} (h:Nxt r q) (t:Chn q l):Chn r (q::l)
theorem Chn.app{r:Wz}{A B:List Wz}(h:Chn r A):∀{q:Wz},(A=[]->q=r)->(∀z,A.getLast? =aA z->q=z)->Chn q B->Chn r (A++B):=by
 induction h with
 |nil r=>intro q h1 _ hB;rw[h1 rfl]at hB;exact hB
 | @cons r p l hn t ih=>
  intro q _ h2 hB;refine .cons hn (ih (λe=>?_) (λz hz=>h2 z ?_) hB)
  .subst e;exact h2 p rfl
  .cases l with
   |nil=>cases hz
   |cons x l=>rw[List.getLast?_cons_cons];exact hz
end My
set_option maxHeartbeats 800000
namespace My
open DL PySem TT TX
theorem S7{t:Nat}:∀{B:List Wz} {r:Wz},r.2.1=t->(∀q∈B,q.2.1=t)->(r.1::Jg B).Pairwise (λa b=>Ie a b=aC/\a≠b)->Chn r B
 | [],r,_,_,_=>.nil r
 |q::B,r,hr,hB,hp=>by obtain⟨h1,h2⟩:=List.pairwise_cons.mp hp;have hq:=hB q af;obtain⟨z1,z2⟩:=h1 q.1 af;exact .cons (.inl ⟨by rw[hq,hr],z1,z2⟩) (S7 hq (λx hx=>hB x (aj _ hx)) h2)
theorem S8{t:Nat}{B:List Wz}{r:Wz}(hr:r.2.1=t)(hB:∀q∈B,q.2.1=t+1)(hp:(Jg B).Pairwise (λa b=>Ie a b=aC/\a≠b)):Chn r B:=by
 cases B with
 |nil=>exact .nil r
 |cons q B=>have hq:=hB q af;exact .cons (.inr (by rw[hq,hr])) (S7 hq (λx hx=>hB x (aj _ hx)) hp)
theorem Zo5{xs:List Str}(nd:xs.Nodup)(wks:List Wk)(m:Nat)(F fr:List Wz)(s:PQ)(t:Nat):(Jg (nxt xs wks m F fr s t)).Pairwise (λa b=>Ie a b=aC/\a≠b):=by have sb:=Mu (t+1) (Bg ((fr.map (·.1)).foldl (Om xs wks) s) m ((F++fr).map (·.1)) xs);rw[Kx]at sb;have nds:(Ot xs).Nodup:=(Qc xs).nodup_iff.mpr nd;have pw:(Ot xs).Pairwise (λa b=>Ie a b=aC/\a≠b):=(Dx xs).and nds;exact List.Pairwise.sublist (sb.trans List.filter_sublist) pw
theorem Zch{xs:List Str}(nd:xs.Nodup){wks:List Wk}{m:Nat}{F fr G:List Wz}{s s':PQ}{t t':Nat}(r:Run xs wks m F s fr t G s' t')(a:Ahead xs wks m F s fr t):
  ∃X,G=F++fr++X/\∀z,fr.getLast? =aA z->Chn z X:=by
 induction r with
 |done F s t=>exact⟨[],by simp,λz hz=>nomatch hz⟩
 | @step F fr G s s' t t' hne r ih=>
  obtain⟨X,hG,hc⟩:=ih (E7 a);refine⟨nxt xs wks m F fr s t++X,by rw[hG,dy (F++fr)],λz hz=>?_⟩;have tz:z.2.1=t:=a.eq z (List.mem_of_getLast? hz);have b1:Chn z (nxt xs wks m F fr s t):=S8 tz (λq hq=>(Cb.mp hq).1) (Zo5 nd wks m F fr s t);generalize hB:nxt xs wks m F fr s t=B at*;cases hl:B.getLast? with
  |none=>
   have e:B=[]:=List.getLast?_eq_none_iff.mp hl;subst e;cases r with
   |done=>
    have:X=[]:=by have:=congrArg List.length hG;simp at this;exact this
    rw[this];exact .nil z
   |step hne' _=>exact absurd rfl hne'
  |some y=>exact b1.app (q:=y) (λe=>by rw[e]at hl;cases hl) (λw hw=>by rw[hl]at hw;cases hw;rfl) (hc y hl)
end My
set_option maxHeartbeats 800000
namespace My
open DL PySem TT TX
theorem Zo6(r:Wz):Gen.Ja [Zy r]=aA (.fz (.bl aC)):=by obtain⟨ts,hy⟩:=r.2.2.d_tup;have a1:L2.atI [D.str r.1,.int (r.2.1:Int),.tup ts] 1=aA (.int (r.2.1:Int)):=Yc _ 1 _ rfl;have a2:L2.atI [D.str r.1,.int (r.2.1:Int),.tup ts] 2=aA (.tup ts):=Yc _ 2 _ rfl;have z3:3<=PySem.sizeLine:=Zt (by decide);unfold Zy;rw[hy];generalize ((r.2.1:Nat):Int)=T at*;unfold Gen.Ja Gen.B5;simp[a1,a2,z3]
theorem S9(G:List Wz)(hl:G.length<=1000)(T:Nat):Z4 [.own,.cap 6,.acc] 2 (Zi 0) Gen.Qj Gen.Qk (G.map Zy) [aB,aA (.fz (.int (T:Int))),aA (.ol [])]=aA [aB,aA (.fz (.int (T:Int))),aA (.ol ((Jg (G.filter λr=>decide (r.2.1<T))).map D.str))]:=by
 have cm:=Bq (src:=[.own,.cap 6,.acc]) (k:=2) (g:=Zi 0) (tt:=Gen.Qj) (te:=Gen.Qk) (st:=λzs=>[aB,aA (.fz (.int (T:Int))),aA (.ol zs)]) (f:=λd=>match d with| .tup [k,.int t,_]=>if t<(T:Int)then aA k else aB|_=>aB) (G.map Zy) [] (λd hd zs ds' hz=>by
  obtain⟨r,_,rfl⟩:=ax.mp hd;have a0:L2.atI [D.str r.1,.int (r.2.1:Int),r.2.2.d] 0=aA (.str r.1):=Yc _ 0 _ rfl;have a1:L2.atI [D.str r.1,.int (r.2.1:Int),r.2.2.d] 1=aA (.int (r.2.1:Int)):=Yc _ 1 _ rfl
  conv=>lhs;rw[Z4]
  unfold Gen.Qj Gen.Qk;unfold Zy;generalize r.2.2.d=WD at*;by_cases h:(r.2.1:Int)<(T:Int)
  .have h':r.2.1<T:=by omega
   simp[-Z4,a0,a1,h,h',hz]
  .have h':¬r.2.1<T:=by omega
   simp[-Z4,a0,a1,h,h']) (by simp;omega)
 rw[cy]at cm;rw[cm];congr 5;clear cm hl;induction G with
 |nil=>rfl
 |cons r G ih=>
  by_cases h:r.2.1<T
  .have h':(r.2.1:Int)<(T:Int):=by omega
   rw[ay,dq (b:=D.str r.1) (by show(if(r.2.1:Int)<(T:Int)then aA (D.str r.1)else aB)=_;rw[if_pos h']),SV.ol.inj ih,List.filter_cons_of_pos (by simp[h])];rfl
  .have h':¬(r.2.1:Int)<(T:Int):=by omega
   rw[ay,dr (by show(if(r.2.1:Int)<(T:Int)then aA (D.str r.1)else aB)=_;rw[if_neg h']),SV.ol.inj ih,f8 (by simp[h])]
end My
set_option maxHeartbeats 800000
namespace My
open DL PySem TT TX
theorem X5(G:List Wz)(hl:G.length<=1000)(T:Nat):Z4 [.own,.cap 6,.acc] 2 (Zi 0) Gen.Ql Gen.Qm (G.map Zy) [aB,aA (.fz (.int (T:Int))),aA (.ol [])]=aA [aB,aA (.fz (.int (T:Int))),aA (.ol ((Jg (G.filter λr=>decide (r.2.1+1<T))).map D.str))]:=by
 have cm:=Bq (src:=[.own,.cap 6,.acc]) (k:=2) (g:=Zi 0) (tt:=Gen.Ql) (te:=Gen.Qm) (st:=λzs=>[aB,aA (.fz (.int (T:Int))),aA (.ol zs)]) (f:=λd=>match d with| .tup [k,.int t,_]=>if t<(T:Int)- 1 then aA k else aB|_=>aB) (G.map Zy) [] (λd hd zs ds' hz=>by
  obtain⟨r,_,rfl⟩:=ax.mp hd;have a0:L2.atI [D.str r.1,.int (r.2.1:Int),r.2.2.d] 0=aA (.str r.1):=Yc _ 0 _ rfl;have a1:L2.atI [D.str r.1,.int (r.2.1:Int),r.2.2.d] 1=aA (.int (r.2.1:Int)):=Yc _ 1 _ rfl
  conv=>lhs;rw[Z4]
  unfold Gen.Ql Gen.Qm;unfold Zy;generalize r.2.2.d=WD at*;by_cases h:(r.2.1:Int)<(T:Int)- 1
  .have h':r.2.1+1<T:=by omega
   simp[-Z4,a0,a1,h,h',hz]
  .have h':¬r.2.1+1<T:=by omega
   simp[-Z4,a0,a1,h,h']) (by simp;omega)
 rw[cy]at cm;rw[cm];congr 5;clear cm hl;induction G with
 |nil=>rfl
 |cons r G ih=>
  by_cases h:r.2.1+1<T
  .have h':(r.2.1:Int)<(T:Int)- 1:=by omega
   rw[ay,dq (b:=D.str r.1) (by show(if(r.2.1:Int)<(T:Int)- 1 then aA (D.str r.1)else aB)=_;rw[if_pos h']),SV.ol.inj ih,List.filter_cons_of_pos (by simp[h])];rfl
  .have h':¬(r.2.1:Int)<(T:Int)- 1:=by omega
   rw[ay,dr (by show(if(r.2.1:Int)<(T:Int)- 1 then aA (D.str r.1)else aB)=_;rw[if_neg h']),SV.ol.inj ih,f8 (by simp[h])]
end My
set_option maxHeartbeats 800000
namespace My
open DL PySem TT TX
theorem K3{xs ks:List Str}{r:Wz}(h:r∈Z5 xs ks):r.2.1=0/\r.2.2=Why.text/\r.1∈xs:=by unfold Z5 at h;obtain⟨k,hk,rfl⟩:=ax.mp h;exact⟨rfl,rfl,of_decide_eq_true (List.mem_filter.mp hk).2⟩
theorem Zo7(xs:List Str)(wks:List Wk)(m:Nat)(ks:List Str):Ahead xs wks m [] e0 (Z5 xs ks) 0:=
 ⟨rfl,(λ_ z=>nomatch z),λr hr=>(K3 hr).1,λh=>absurd h (by omega),λr hr=>(K3 (by simpa using hr)).2.2⟩
theorem Zo8{xs:List Str}{wks:List Wk}{m:Nat}{F fr G:List Wz}{s s':PQ}{t t':Nat}(r:Run xs wks m F s fr t G s' t'):t<=t':=by
 induction r with
 |done=>exact bg _
 |step _ _ ih=>omega
theorem Zgg{xs:List Str}{wks:List Wk}{m:Nat}{F fr G:List Wz}{s s':PQ}{t t':Nat}(r:Run xs wks m F s fr t G s' t')(h:fr≠[]):t<t':=by
 cases r with
 |done=>exact absurd rfl h
 |step _ r=>have:=Zo8 r;omega
theorem Zkb{xs:List Str}{wks:List Wk}{m:Nat}{F G:List Wz}{s s':PQ}{t t':Nat}(r:Run xs wks m F s [] t G s' t'):G=F:=by
 cases r with
 |done=>rfl
 |step h _=>exact absurd rfl h
theorem Va(G:List Wz){T:Nat}(h:1<=T):(G.filter λr=>decide (r.2.1<T))=Uf G (T- 1):=by
 refine List.filter_congr λr _=>?_;by_cases c:r.2.1<T
 .rw[decide_eq_true c,decide_eq_true (by omega)]
 .rw[decide_eq_false c,decide_eq_false (by omega)]
theorem X6(G:List Wz){T:Nat}(h:2<=T):(G.filter λr=>decide (r.2.1+1<T))=Uf G (T- 2):=by
 refine List.filter_congr λr _=>?_;by_cases c:r.2.1+1<T
 .rw[decide_eq_true c,decide_eq_true (by omega)]
 .rw[decide_eq_false c,decide_eq_false (by omega)]
end My
set_option maxHeartbeats 400000
namespace My
open DL PySem TT TX
theorem Zgh(n:Nat):∀ks:List Str,Cw (n+4) (.tup (ks.map D.str)) (.tup (ks.map D.str))=aA aC:=λks=>Gi (n+3) (ks.map D.str) λd hd=>by obtain⟨k,_,rfl⟩:=ax.mp hd;exact Uj _ k
theorem Zak(n:Nat)(y:Why):Cw (n+8) y.d y.d=aA aC:=by
 cases y with
 |text=>exact Gi (n+7) [.str "text"] λd hd=>by rw[aq.mp hd];exact Uj _ _
 |note k=>
  refine Gi (n+7) [.str "note",.str k] λd hd=>?_;rcases bo.mp hd with e|hd
  .rw[e];exact Uj _ _
  .rw[aq.mp hd];exact Uj _ _
 |parts ks=>
  refine Gi (n+7) [.str "parts",.tup (ks.map D.str)] λd hd=>?_;rcases bo.mp hd with e|hd
  .rw[e];exact Uj _ _
  .rw[aq.mp hd];exact Zgh (n+3) ks
end My
set_option maxHeartbeats 800000
namespace My
open DL PySem TT TX
theorem Zgi{f:FS}{n:Nat}{ds:List D}{sv:SV}(h:f (Os n ds)=aA (.rt sv)):W3 f n ds=aA sv:=by unfold W3;rw[h]
abbrev q1:FS:=Ge (Jz 3 (Yo (Zi 5) (Yo (Zi 6) (Yo (Zi 7) (Ug))))) (Zg Wh (Za 2) (Za 4))
abbrev q2:FS:=Yd 8 (Yv [.own,.cap 6,.acc] 2 (Wr (Za 2)) (Zi 0) (Gen.Qj) Gen.Qk)
abbrev q3:FS:=Yd 9 (Yv [.own,.cap 6,.acc] 2 (Wr (Za 2)) (Zi 0) (Gen.Ql) Gen.Qm)
abbrev q4:FS:=U7 (Hs (Zu (Zg Py (Za 5) (Za 8))) (Hs (Zu (Zg neY (Za 7) (Yn 5 Gen.Z2 (Zc (Za 0) (Zc (Za 1) (Zc (Za 8) (Zc (Za 5) (Zc (Za 3) (Zj))))))))) (Zu (Zg Za7 (Za 7) (Zb .non))))) (Y3 (Zb (.bl aD))) (Yl)
abbrev q5:FS:=U7 (Vq (Zu (Zg gtD (Za 6) (Zb (.int 1)))) (Zu (Zg A3 (Yn 5 Gen.Z2 (Zc (Za 0) (Zc (Za 1) (Zc (Za 9) (Zc (Za 5) (Zc (Za 3) (Zj))))))) (Zb .non)))) (Y3 (Zb (.bl aD))) (Yl)
abbrev q6:FS:=Yd 10 (Zg Wh (Za 2) (Zg Zdt (Za 4) (Zb (.int 1))))
abbrev q7:FS:=U7 (Zu (Zg Aj (Za 6) (Zg Wh (Za 10) (Zb (.int 1))))) (Y3 (Zg ltS (Zg Wh (Za 10) (Zb (.int 0))) (Za 5))) (Yl)
abbrev q8:FS:=Y3 (Zg Aj (Za 6) (Zg Ue (Zg Wh (Za 10) (Zb (.int 1))) (Zb (.int 1))))
theorem Zgj:Gen.Uc=Zm q1 (Zm q2 (Zm q3 (Zm q4 (Zm q5 (Zm q6 (Zm q7 q8)))))):=rfl
theorem Zss(SH NS GD:D)(BK:List Str)(m:Int)(A:D)(k:Str)(T:D)(y:Why)(h1:k∉BK)(h2:Gen.Z2 [SH,NS,.lst (BK.map D.str),.str k,.int m]=aA (.fz y.d))(E:List D):
  q4 [aA (.fz SH),aA (.fz NS),aA (.fz GD),aA (.fz (.int m)),aA (.fz A),aA (.fz (.str k)),aA (.fz T),aA (.fz y.d),aA (.ol (BK.map D.str)),aA (.ol E),aB]=
   aA (.nx [aA (.fz SH),aA (.fz NS),aA (.fz GD),aA (.fz (.int m)),aA (.fz A),aA (.fz (.str k)),aA (.fz T),aA (.fz y.d),aA (.fz (.lst (BK.map D.str))),aA (.ol E),aB]):=by
 have i1:=An k BK;rw[decide_eq_false h1]at i1;have fs:=B9 BK;have ey:=Zak 40 y;have ey:Cw 48 y.d y.d=aA aC:=ey;obtain⟨ts,hy⟩:=y.d_tup;rw[hy]at ey h2⊢;generalize BK.map D.str=BD at*;unfold q4;simp[-eu,D.seq?,i1,fs,h2,ey,-Cw]
theorem Zst(SH NS GD:D)(EK:List Str)(m:Int)(A:D)(k:Str)(T:Int)(y B:D)(h:¬1<T\/Gen.Z2 [SH,NS,.lst (EK.map D.str),.str k,.int m]=aA (.fz .non)):
  q5 [aA (.fz SH),aA (.fz NS),aA (.fz GD),aA (.fz (.int m)),aA (.fz A),aA (.fz (.str k)),aA (.fz (.int T)),aA (.fz y),aA (.fz B),aA (.ol (EK.map D.str)),aB]=
   aA (.nx [aA (.fz SH),aA (.fz NS),aA (.fz GD),aA (.fz (.int m)),aA (.fz A),aA (.fz (.str k)),aA (.fz (.int T)),aA (.fz y),aA (.fz B),aA (.ol (EK.map D.str)),aB]):=by
 by_cases c:1<T
 .have h:=h.resolve_left λz=>z c;generalize EK.map D.str=BD at*;unfold q5;simp[h,c]
 .generalize EK.map D.str=BD at*;unfold q5;simp[c]
theorem Zgk{a b:Str}(h:Ie a b=aC)(hn:a≠b):a.cps.toList<b.cps.toList:=by
 unfold Ie at h;have h:=of_decide_eq_true h;rcases Decidable.em (a.cps.toList<b.cps.toList)with z|z
 .exact z
 .exact absurd (Sa (a:=a) (b:=b) (decide_eq_true h) (decide_eq_true z)) hn
theorem Zsu(a0 a1 a2 a3 a4 a7 a8 a9:Option SV)(p r:Wz)(nx:Nxt p r):Zm q7 q8 [a0,a1,a2,a3,a4,aA (.fz (.str r.1)),aA (.fz (.int (r.2.1:Int))),a7,a8,a9,aA (.fz (Zy p))]=aA (.rt (.fz (.bl aC))):=by
 have b0:L2.atI [D.str p.1,.int (p.2.1:Int),p.2.2.d] 0=aA (.str p.1):=Yc _ 0 _ rfl;have b1:L2.atI [D.str p.1,.int (p.2.1:Int),p.2.2.d] 1=aA (.int (p.2.1:Int)):=Yc _ 1 _ rfl;unfold Zy;generalize p.2.2.d=ZD at*;rcases nx with⟨z1,z2,z3⟩|z1
 .have lt:=Zgk z2 z3;rw[z1];generalize ((p.2.1:Nat):Int)=PT at*;unfold q7 q8;simpa[b0,b1]using lt
 .have z1':(r.2.1:Int)=(p.2.1:Int)+1:=by omega
  rw[z1'];generalize ((p.2.1:Nat):Int)=PT at*;have ne:¬PT+1=PT:=by omega
  unfold q7 q8;simp[b0,b1,ne]
theorem Zci(xs:List Str)(wks:List Wk)(hw:xs.length=wks.length)(G:List Wz)(hG:∀r∈G,r.1∈xs)(hl:G.length<=40)(m:Nat)(hm:m<=100)(i:Nat)(p r:Wz)(hp:G[i]? =aA p)(hr:G[i+1]? =aA r)(h1:1<=r.2.1)(rt:Right xs wks m G r)(nx:Nxt p r):
  Gen.W9 [Wp xs wks,Ci xs wks,.lst (G.map Zy),.int (m:Int),.int ((i+1:Nat):Int)]=aA (.fz (.bl aC)):=by
 have bf:=S9 G (by omega) r.2.1;have ef:=X5 G (by omega) r.2.1;rw[Va G h1]at bf;have sub:∀(q:Wz->Bool) (o:Str),o∈Jg (G.filter q)->o∈xs:=λq o ho=>by obtain⟨z,hz,rfl⟩:=ax.mp ho;exact hG z (List.mem_filter.mp hz).1
 have len:∀q:Wz->Bool,(Jg (G.filter q)).length<=100:=λq=>by have:=List.length_filter_le q G;rw[am];omega
 have lr:=Ru xs wks hw (Jg (Uf G (r.2.1- 1))) (sub _) (len _) m hm r.1;rw[<-rt.why]at lr;have lr:Gen.Z2 [Wp xs wks,Ci xs wks,.lst ((Jg (Uf G (r.2.1- 1))).map D.str),.str r.1,.int (m:Int)]=aA (.fz r.2.2.d):=lr;have le:¬(1:Int)<(r.2.1:Int)\/Gen.Z2 [Wp xs wks,Ci xs wks,.lst ((Jg (G.filter λq=>decide (q.2.1+1<r.2.1))).map D.str),.str r.1,.int (m:Int)]=aA (.fz .non):=by
  by_cases c:1<r.2.1
  .right;have z:=Ru xs wks hw (Jg (G.filter λq=>decide (q.2.1+1<r.2.1))) (sub _) (len _) m hm r.1;rw[X6 G (by omega)]at z⊢;rw[rt.old c]at z;exact z
  .left;omega
 have s1:L2.atI (G.map Zy) ((i+1:Nat):Int)=aA (Zy r):=Yc _ (i+1) _ (by rw[bn,hr];rfl);have s0:L2.atI (G.map Zy) (((i+1:Nat):Int)- 1)=aA (Zy p):=by rw[show((i+1:Nat):Int)- 1=(i:Int) by omega];exact Yc _ i _ (by rw[bn,hp];rfl)
 have e4:=Zss (Wp xs wks) (Ci xs wks) (.lst (G.map Zy)) (Jg (Uf G (r.2.1- 1))) (m:Int) (.int ((i+1:Nat):Int)) r.1 (.int (r.2.1:Int)) r.2.2 rt.out lr ((Jg (G.filter λq=>decide (q.2.1+1<r.2.1))).map D.str);have e5:=Zst (Wp xs wks) (Ci xs wks) (.lst (G.map Zy)) (Jg (G.filter λq=>decide (q.2.1+1<r.2.1))) (m:Int) (.int ((i+1:Nat):Int)) r.1 (r.2.1:Int) r.2.2.d (.lst ((Jg (Uf G (r.2.1- 1))).map D.str)) le;have e7:=Zsu (aA (.fz (Wp xs wks))) (aA (.fz (Ci xs wks))) (aA (.fz (.lst (G.map Zy)))) (aA (.fz (.int (m:Int)))) (aA (.fz (.int ((i+1:Nat):Int)))) (aA (.fz r.2.2.d)) (aA (.fz (.lst ((Jg (Uf G (r.2.1- 1))).map D.str)))) (aA (.ol ((Jg (G.filter λq=>decide (q.2.1+1<r.2.1))).map D.str))) p r nx;have hh:Gen.Uc [aA (.fz (Wp xs wks)),aA (.fz (Ci xs wks)),aA (.fz (.lst (G.map Zy))),aA (.fz (.int (m:Int))),aA (.fz (.int ((i+1:Nat):Int))),aB,aB,aB,aB,aB,aB]=aA (.rt (.fz (.bl aC))):=by
  rw[Zgj];have e1:q1 [aA (.fz (Wp xs wks)),aA (.fz (Ci xs wks)),aA (.fz (.lst (G.map Zy))),aA (.fz (.int (m:Int))),aA (.fz (.int ((i+1:Nat):Int))),aB,aB,aB,aB,aB,aB]=aA (.nx [aA (.fz (Wp xs wks)),aA (.fz (Ci xs wks)),aA (.fz (.lst (G.map Zy))),aA (.fz (.int (m:Int))),aA (.fz (.int ((i+1:Nat):Int))),aA (.fz (.str r.1)),aA (.fz (.int (r.2.1:Int))),aA (.fz r.2.2.d),aB,aB,aB]):=by generalize ((i+1:Nat):Int)=X2 at*;generalize Wp xs wks=SD at*;generalize Ci xs wks=ND at*;generalize G.map Zy=GD at*;unfold Zy at s1;generalize r.2.2.d=YD at*;generalize ((r.2.1:Nat):Int)=RT at*;unfold q1;simp[s1]
  rw[Z3 e1];have e2:q2 [aA (.fz (Wp xs wks)),aA (.fz (Ci xs wks)),aA (.fz (.lst (G.map Zy))),aA (.fz (.int (m:Int))),aA (.fz (.int ((i+1:Nat):Int))),aA (.fz (.str r.1)),aA (.fz (.int (r.2.1:Int))),aA (.fz r.2.2.d),aB,aB,aB]=aA (.nx [aA (.fz (Wp xs wks)),aA (.fz (Ci xs wks)),aA (.fz (.lst (G.map Zy))),aA (.fz (.int (m:Int))),aA (.fz (.int ((i+1:Nat):Int))),aA (.fz (.str r.1)),aA (.fz (.int (r.2.1:Int))),aA (.fz r.2.2.d),aA (.ol ((Jg (Uf G (r.2.1- 1))).map D.str)),aB,aB]):=by generalize (Jg (Uf G (r.2.1- 1))).map D.str=X1 at*;generalize ((i+1:Nat):Int)=X2 at*;generalize Wp xs wks=SD at*;generalize Ci xs wks=ND at*;generalize G.map Zy=GD at*;generalize r.2.2.d=YD at*;generalize ((r.2.1:Nat):Int)=RT at*;unfold q2;simp[-Z4,bf]
  rw[Z3 e2];have e3:q3 [aA (.fz (Wp xs wks)),aA (.fz (Ci xs wks)),aA (.fz (.lst (G.map Zy))),aA (.fz (.int (m:Int))),aA (.fz (.int ((i+1:Nat):Int))),aA (.fz (.str r.1)),aA (.fz (.int (r.2.1:Int))),aA (.fz r.2.2.d),aA (.ol ((Jg (Uf G (r.2.1- 1))).map D.str)),aB,aB]=aA (.nx [aA (.fz (Wp xs wks)),aA (.fz (Ci xs wks)),aA (.fz (.lst (G.map Zy))),aA (.fz (.int (m:Int))),aA (.fz (.int ((i+1:Nat):Int))),aA (.fz (.str r.1)),aA (.fz (.int (r.2.1:Int))),aA (.fz r.2.2.d),aA (.ol ((Jg (Uf G (r.2.1- 1))).map D.str)),aA (.ol ((Jg (G.filter λq=>decide (q.2.1+1<r.2.1))).map D.str)),aB]):=by generalize (Jg (G.filter λq=>decide (q.2.1+1<r.2.1))).map D.str=X3 at*;generalize (Jg (Uf G (r.2.1- 1))).map D.str=X1 at*;generalize ((i+1:Nat):Int)=X2 at*;generalize Wp xs wks=SD at*;generalize Ci xs wks=ND at*;generalize G.map Zy=GD at*;generalize r.2.2.d=YD at*;generalize ((r.2.1:Nat):Int)=RT at*;unfold q3;simp[-Z4,ef]
  rw[Z3 e3,Z3 e4,Z3 e5];generalize (Jg (G.filter λq=>decide (q.2.1+1<r.2.1))).map D.str=E9 at*;have e6:q6 [aA (.fz (Wp xs wks)),aA (.fz (Ci xs wks)),aA (.fz (.lst (G.map Zy))),aA (.fz (.int (m:Int))),aA (.fz (.int ((i+1:Nat):Int))),aA (.fz (.str r.1)),aA (.fz (.int (r.2.1:Int))),aA (.fz r.2.2.d),aA (.fz (.lst ((Jg (Uf G (r.2.1- 1))).map D.str))),aA (.ol E9),aB]=aA (.nx [aA (.fz (Wp xs wks)),aA (.fz (Ci xs wks)),aA (.fz (.lst (G.map Zy))),aA (.fz (.int (m:Int))),aA (.fz (.int ((i+1:Nat):Int))),aA (.fz (.str r.1)),aA (.fz (.int (r.2.1:Int))),aA (.fz r.2.2.d),aA (.fz (.lst ((Jg (Uf G (r.2.1- 1))).map D.str))),aA (.ol E9),aA (.fz (Zy p))]):=by generalize (Jg (Uf G (r.2.1- 1))).map D.str=X1 at*;generalize ((i+1:Nat):Int)=X2 at*;generalize Wp xs wks=SD at*;generalize Ci xs wks=ND at*;generalize G.map Zy=GD at*;generalize Zy p=PD at*;generalize r.2.2.d=YD at*;generalize ((r.2.1:Nat):Int)=RT at*;unfold q6;simp[s0]
  rw[Z3 e6];exact e7
 exact Zgi (f:=Gen.Uc) (n:=11) hh
end My
set_option maxHeartbeats 800000
namespace My
open DL PySem TT TX
theorem Zo9(w:Wk):Dic w.ks w.vs:=by
 have h1:au "title"≠au "note":=by decide+kernel
 have h2:au "title"≠au "in":=by decide+kernel
 have h3:au "note"≠au "in":=by decide+kernel
 unfold Wk.ks Wk.vs;cases w.nt.text<;> cases w.inn<;> constructor<;> simp[h1,h2,h3]
theorem Zpa(n:Nat)(w:Wk):Cw (n+4) w.d w.d=aA aC:=by
 refine Gi (n+3) _ λd hd=>?_;rcases bo.mp hd with e|hd
 .rw[e];exact Uj _ _
 .rw[aq.mp hd];refine Zfy (n+2) (Zo9 w) λv hv=>?_;unfold Wk.vs at hv;have:∃t,v=D.str t:=by
   rcases bo.mp hv with e|hv
   .exact⟨_,e⟩
   .rcases cj.mp hv with z|z
    .obtain⟨y,_,e⟩:=dg.mp (Option.mem_toList.mp z);exact⟨y,e.symm⟩
    .obtain⟨y,_,e⟩:=dg.mp (Option.mem_toList.mp z);exact⟨y,e.symm⟩
  obtain⟨t,rfl⟩:=this;exact Uj _ t
theorem Zgl(n:Nat){xs:List Str}{wks:List Wk}(nd:xs.Nodup)(hw:xs.length=wks.length):Cw (n+5) (Wp xs wks) (Wp xs wks)=aA aC:=
 Zfy (n+4) ⟨nd,by rw[am];exact hw⟩ λv hv=>by obtain⟨w,_,rfl⟩:=ax.mp hv;exact Zpa n w
theorem Zgm(n:Nat)(rs:List Wz):Cw (n+10) (.lst (rs.map Zy)) (.lst (rs.map Zy))=aA aC:=L5 (n+9) _ λd hd=>by
 obtain⟨r,_,rfl⟩:=ax.mp hd;refine Gi (n+8) _ λd hd=>?_;simp only[bo,List.not_mem_nil,or_false]at hd;rcases hd with e|e|e
 .rw[e];exact Uj _ _
 .rw[e];exact Zj2 _ _
 .rw[e];exact Zak n _
theorem Nj(ns:List Int)(k:Nat):∃c:Int,Gen.Z9 [.lst (ns.map D.int),.int (k:Int)]=aA (.fz (.int c)):=by
 by_cases h:k<ns.length
 .have a:L2.atI (ns.map D.int) (k:Int)=aA (.int ns[k]):=Yc _ _ _ (by rw[bn,bj h];rfl);refine⟨ns[k],?_⟩;have h':(k:Int)<(ns.length:Int):=by omega
  unfold Gen.Z9 Gen.Jr;simp[h',h,a]
 .refine⟨0,?_⟩;have h':¬(k:Int)<(ns.length:Int):=by omega
  unfold Gen.Z9 Gen.Jr;simp[h',h]
theorem Zcj(ns:List Int):∃ms:List Int,Cf (ns.map D.int) (aA 3) (aA 15)=ms.map D.int/\ms.length<=12:=by
 obtain⟨ms,e,_⟩:=Zjz ns (aA 3) (aA 15);refine⟨ms,e,?_⟩;have h:(Cf (ns.map D.int) (aA 3) (aA 15)).length<=12:=by unfold Cf;rw[List.length_take];have e1:HT.sIx (ns.map D.int).length (ns.map D.int).length (aA 15)=min 15 (ns.map D.int).length:=HT.sIx_nat _ _ 15;have e2:HT.sIx (ns.map D.int).length 0 (aA 3)=min 3 (ns.map D.int).length:=HT.sIx_nat _ _ 3;omega
 rw[e,am]at h;exact h
theorem Zkc(n s:Nat):Cs (s:Int) n=Cg s n:=by unfold Cs Cg;rw[List.range'_eq_map_range,cx];refine List.map_congr_left λi _=>?_;show D.int ((s:Int)+(i:Nat))=D.int ((s+i:Nat):Int);rw[Int.natCast_add]
theorem X7{ws:List Str}{n:Nat}(h:Ws ws n)(ms:List Int)(hl:ms.length<=1000):∃ks:List Str,ks.length=ms.length/\Z4 [.own,.cap 2,.acc] 2 (Zi 0) Y9 Gen.Gj (ms.map D.int) [aB,aA (.fz (.lst (ws.map D.str))),aA (.ol [])]=aA [aB,aA (.fz (.lst (ws.map D.str))),aA (.ol (ks.map D.str))]:=by
 obtain⟨vs,e,h1,h2⟩:=D7 (src:=[.own,.cap 2,.acc]) (k:=2) (g:=Zi 0) (tt:=Y9) (te:=Gen.Gj) (st:=λzs=>[aB,aA (.fz (.lst (ws.map D.str))),aA (.ol zs)]) (R:=λd=>∃k,d=D.str k) (ms.map D.int) [] (λd hd zs ds' hz=>by
  obtain⟨x,_,rfl⟩:=ax.mp hd;obtain⟨k,_,hk⟩:=Xv h x;refine⟨.str k,⟨k,rfl⟩,?_⟩;have lw:(ws.map D.str).length=n+2:=by rw[am];exact h.len
  have fw:=h.few;have p0:(0:Int)<(n:Int)+2:=by omega
  have zl:n+2<=PySem.sizeLine:=Zt (by omega);generalize ws.map D.str=WD at*
  conv=>lhs;rw[Z4]
  unfold Gen.Gj;simp[-Z4,lw,zl,p0,hk,hz]) (by simp;omega)
 rw[cy]at e;rw[am]at h2;have:∃ks:List Str,vs=ks.map D.str:=by
  clear e h2;induction vs with
  |nil=>exact⟨[],rfl⟩
  |cons v vs ih=>obtain⟨ks,hk⟩:=ih λx hx=>h1 x (aj _ hx);obtain⟨k,rfl⟩:=h1 v af;exact⟨k::ks,by rw[hk];rfl⟩
 obtain⟨ks,rfl⟩:=this;exact⟨ks,by rw[<-h2,am],e⟩
theorem Zgn(G:List Wz)(hl:G.length<=1000):Z4 [.own,.acc] 1 (Zi 0) Y9 Gen.Gk (G.map Zy) [aB,aA (.ol [])]=aA [aB,aA (.ol ((G.map Zy).map λ_=>D.bl aC))]:=by
 have c:=Cz (te:=Gen.Gk) (f:=λ_=>D.bl aC) (G.map Zy) [] (λd hd zs=>by
  obtain⟨r,_,rfl⟩:=ax.mp hd;have ir:=Zo6 r;generalize Zy r=RD at*;unfold Gen.Gk;simp[ir]) (by simp;omega)
 exact c
theorem Zgo(xs:List Str)(wks:List Wk)(hw:xs.length=wks.length)(G:List Wz)(hG:∀r∈G,r.1∈xs)(hl:G.length<=1000):Z4 [.own,.cap 3,.acc] 2 (Zi 0) Y9 Gen.Gm (G.map Zy) [aB,aA (.fz (Wp xs wks)),aA (.ol [])]=aA [aB,aA (.fz (Wp xs wks)),aA (.ol ((G.map Zy).map λ_=>D.bl aD))]:=by
 have c:=Er (j:=3) (c:=aA (.fz (Wp xs wks))) (te:=Gen.Gm) (f:=λ_=>D.bl aD) (G.map Zy) [] (λd hd zs=>by
  obtain⟨r,hr,rfl⟩:=ax.mp hd;obtain⟨w,hw'⟩:=Um hw (hG r hr);have l:=Ul Wk.d r.1 xs wks;rw[hw']at l;have l:Yk (Zf xs) (wks.map Wk.d) (bh r.1)=aA w.d:=l;have a0:L2.atI [D.str r.1,.int (r.2.1:Int),r.2.2.d] 0=aA (.str r.1):=Yc _ 0 _ rfl;unfold Zy Wp;generalize ((r.2.1:Nat):Int)=T at*;generalize r.2.2.d=YD at*;generalize w.d=WD at*;generalize Zf xs=XK at*;generalize wks.map Wk.d=XV at*;unfold Gen.Gm;simp[-Yk,D.seq?,a0,l]) (by simp;omega)
 exact c
theorem X8(G:List Wz)(hl:G.length<=1000):Z4 [.own,.acc] 1 (Zi 0) Y9 Gen.Go (G.map Zy) [aB,aA (.ol [])]=aA [aB,aA (.ol ((Jg G).map D.str))]:=by
 have c:=Cz (te:=Gen.Go) (f:=λd=>match d with| .tup (k::_)=>k|_=>.non) (G.map Zy) [] (λd hd zs=>by
  obtain⟨r,_,rfl⟩:=ax.mp hd;have a0:L2.atI [D.str r.1,.int (r.2.1:Int),r.2.2.d] 0=aA (.str r.1):=Yc _ 0 _ rfl;unfold Zy;generalize ((r.2.1:Nat):Int)=T at*;generalize r.2.2.d=YD at*;unfold Gen.Go;simp[a0]) (by simp;omega)
 rw[cy,cx]at c;rw[c,Jg,cx];rfl
theorem E8(a b:Bool):∀xs:List D,Il (.bl a) (xs.map λ_=>D.bl b)=(!xs.isEmpty&&(a==b))
 | []=>rfl
 |x::xs=>by
  have ih:=E8 a b xs;unfold Il at ih⊢;rw[ay,List.any_cons,ih];have:Zeu (.bl b) (.bl a)=(a==b):=by cases a<;> cases b<;> decide+kernel
  rw[this];cases(a==b)<;> simp
theorem Ia(b:Bool)(xs:List D):(xs.map λ_=>D.bl b).all D.isFlat=aC:=by
 induction xs with
 |nil=>rfl
 |cons x xs ih=>rw[ay,List.all_cons,ih];rfl
def OL(x:Option SV)(g:List D):Prop:=x=aA (.ol g)\/x=aA (.fz (.lst g))
theorem X9(a0 a1 a2 a5 a6 a8 a10 a12 a13:Option SV)(SH NS:D)(GD:List D)(m i:Int)(h:Gen.W9 [SH,NS,.lst GD,.int m,.int i]=aA (.fz (.bl aC)))(x9:Option SV)(h9:OL x9 GD):
  Gen.Gn [a0,a1,a2,aA (.fz SH),aA (.fz NS),a5,a6,aA (.fz (.int m)),a8,x9,a10,aA (.fz (.int i)),a12,a13]=aA (.nx [a0,a1,a2,aA (.fz SH),aA (.fz NS),a5,a6,aA (.fz (.int m)),a8,aA (.fz (.lst GD)),a10,aA (.fz (.int i)),a12,a13])\/
  Gen.Gn [a0,a1,a2,aA (.fz SH),aA (.fz NS),a5,a6,aA (.fz (.int m)),a8,x9,a10,aA (.fz (.int i)),a12,a13]=aA (.nx [a0,a1,a2,aA (.fz SH),aA (.fz NS),a5,a6,aA (.fz (.int m)),a8,x9,a10,aA (.fz (.int i)),a12,a13]):=by
 unfold Gen.Gn;rcases h9 with rfl|rfl
 .simp[h]
 .simp[h]
theorem Rv(a0 a1 a2 a5 a6 a8 a10 a12 a13:Option SV)(SH NS:D)(GD:List D)(m:Int):∀(n s:Nat) (x9 x11:Option SV),OL x9 GD->(∀i,s<=i->i<s+n->Gen.W9 [SH,NS,.lst GD,.int m,.int (i:Int)]=aA (.fz (.bl aC)))->
  ∃y9 y11,OL y9 GD/\Y8 (Zi 11) Gen.Gn (Cg s n) [a0,a1,a2,aA (.fz SH),aA (.fz NS),a5,a6,aA (.fz (.int m)),a8,x9,a10,x11,a12,a13]=aA (.nx [a0,a1,a2,aA (.fz SH),aA (.fz NS),a5,a6,aA (.fz (.int m)),a8,y9,a10,y11,a12,a13])
 |0,s,x9,x11,h9,_=>⟨x9,x11,h9,rfl⟩
 |n+1,s,x9,x11,h9,h=>by
  have hs:=h s (bg _) (by omega);rcases X9 a0 a1 a2 a5 a6 a8 a10 a12 a13 SH NS GD m (s:Int) hs x9 h9 with e|e
  .obtain⟨y9,y11,q,e2⟩:=Rv a0 a1 a2 a5 a6 a8 a10 a12 a13 SH NS GD m n (s+1) _ (aA (.fz (.int (s:Int)))) (.inr rfl) (λi h1 h2=>h i (by omega) (by omega));exact⟨y9,y11,q,(Wa (ds:=Cg (s+1) n) (by simp) e).trans e2⟩
  .obtain⟨y9,y11,q,e2⟩:=Rv a0 a1 a2 a5 a6 a8 a10 a12 a13 SH NS GD m n (s+1) x9 (aA (.fz (.int (s:Int)))) h9 (λi h1 h2=>h i (by omega) (by omega));exact⟨y9,y11,q,(Wa (ds:=Cg (s+1) n) (by simp) e).trans e2⟩
theorem Ib(a0 a1 a2 a5 a6 a8 a9 a10 a11:Option SV)(SH NS:D)(E:List Str)(m:Int):∀(ks:List Str) (x12 x13:Option SV),OL x12 (E.map D.str)->(∀k∈ks,k∉E->Gen.Z2 [SH,NS,.lst (E.map D.str),.str k,.int m]=aA (.fz .non))->
  ∃δ,Y8 (Zi 13) Gen.Mr (ks.map D.str) [a0,a1,a2,aA (.fz SH),aA (.fz NS),a5,a6,aA (.fz (.int m)),a8,a9,a10,a11,x12,x13]=aA (.nx δ)
 | [],x12,x13,_,_=>⟨_,rfl⟩
 |k::ks,x12,x13,h12,h=>by
  have i1:=An k E;have fs:=B9 E;rw[ay];by_cases hk:k∈E
  .obtain⟨δ,e⟩:=Ib a0 a1 a2 a5 a6 a8 a9 a10 a11 SH NS E m ks x12 (aA (.fz (.str k))) h12 (λx hx=>h x (aj _ hx));refine⟨δ,?_⟩;rw[<-e];refine Wa (δ1:=[a0,a1,a2,aA (.fz SH),aA (.fz NS),a5,a6,aA (.fz (.int m)),a8,a9,a10,a11,x12,aA (.fz (.str k))]) (by simp) ?_;rw[decide_eq_true hk]at i1;unfold Gen.Mr;generalize E.map D.str=ED at*;rcases h12 with rfl|rfl<;> simp[-eu,D.seq?,fs,i1]
  .obtain⟨δ,e⟩:=Ib a0 a1 a2 a5 a6 a8 a9 a10 a11 SH NS E m ks x12 (aA (.fz (.str k))) h12 (λx hx=>h x (aj _ hx));refine⟨δ,?_⟩;rw[<-e];refine Wa (δ1:=[a0,a1,a2,aA (.fz SH),aA (.fz NS),a5,a6,aA (.fz (.int m)),a8,a9,a10,a11,x12,aA (.fz (.str k))]) (by simp) ?_;have hr:=h k af hk;rw[decide_eq_false hk]at i1;unfold Gen.Mr;generalize E.map D.str=ED at*;rcases h12 with rfl|rfl<;> simp[-eu,D.seq?,fs,i1,hr]
end My
set_option maxHeartbeats 800000
namespace My
open DL PySem TT TX
abbrev l1:FS:=Yd 1 (slF slD (Za 0) (Cd (Zb (.int 3))) (Cd (Zb (.int 15))))
abbrev l2:FS:=Yd 2 (Yn 2 Gen.Qp (Zc (Yn 2 Gen.Z9 (Zc (Za 0) (Zc (Zb (.int 0)) (Zj)))) (Zc (Zg Ue (Yg Ut (Zc (Za 1) Zj)) (Zb (.int 2))) (Zj))))
abbrev l3:FS:=Ge (Jz 2 (Yo (Zi 3) (Yo (Zi 4) (Ug)))) (Yn 2 Gen.Wc (Zc (Za 2) (Zc (Za 1) (Zj))))
abbrev l4:FS:=Yd 5 (Yn 2 Gen.Z9 (Zc (Za 0) (Zc (Zb (.int 1)) (Zj))))
abbrev l5:FS:=Yd 6 (Yv [.own,.cap 2,.acc] 2 (Wr (Yn 2 Gen.Z6 (Zc (Za 5) (Zc (Zg Qw (Za 5) (Zb (.int 5))) (Zj))))) (Zi 0) (Y9) Gen.Gj)
abbrev l6:FS:=Yd 7 (Zg Ue (Zb (.int 1)) (Zg Qw (Yn 2 Gen.Z9 (Zc (Za 0) (Zc (Zb (.int 2)) (Zj)))) (Zb (.int 4))))
abbrev l7:FS:=Yd 8 (Oq (Zk (Yg Pv (Zc (Za 3) Zj)) (Zk (Yg Pe (Zc (Za 6) Zj)) (Zw))))
abbrev l8:FS:=Yd 9 (Yn 3 Gen.U4 (Zc (Zg Wh (Za 8) (Zb (.int 0))) (Zc (Zg Wh (Za 8) (Zb (.int 1))) (Zc (Za 7) (Zj)))))
abbrev l9:FS:=U7 (Hs (Ad (Zu (unF (Ae "list") (Za 9)))) (Hs (Zu (Zg neY (Za 8) (Oq (Zk (Za 3) (Zk (Za 6) (Zw)))))) (Kf (Zu (Zg Py (Zb (.bl aD)) (Yv [.own,.acc] 1 (Wr (Za 9)) (Zi 0) (Y9) Gen.Gk)))))) (Y3 (Zb (.bl aD))) (Yl)
abbrev l10:FS:=U7 (Zu (Zg neY (Za 3) (Zg Wh (Yn 2 Gen.Wc (Zc (Za 2) (Zc (Za 1) (Zj)))) (Zb (.int 0))))) (Y3 (Zb (.bl aD))) (Yl)
abbrev l11:FS:=Yd 10 (Yn 2 Gen.W7 (Zc (Za 3) (Zc (Za 6) (Zj))))
abbrev l12:FS:=U7 (Hs (Zu (Zg neY (slF slD (Za 9) (Bo) (Cd (Yg Ut (Zc (Za 10) Zj)))) (Za 10))) (Kf (Zu (Zg Py (Zb (.bl aC)) (Yv [.own,.cap 3,.acc] 2 (Wr (Za 9)) (Zi 0) (Y9) Gen.Gm))))) (Y3 (Zb (.bl aD))) (Yl)
abbrev l13:FS:=U7 (Zu (Zg Aj (Yg Ut (Zc (Za 10) Zj)) (Zb (.int 0)))) (Y3 (Zg Aj (Za 9) (Oq (Zw)))) (Yl)
abbrev l14:FS:=O8 (Dy (Zc (Yg Ut (Zc (Za 10) Zj)) (Zc (Yg Ut (Zc (Za 9) Zj)) Zj))) (Zi 11) Gen.Gn
abbrev l15:FS:=Yd 12 (Yv [.own,.acc] 1 (Wr (Za 9)) (Zi 0) (Y9) Gen.Go)
abbrev l16:FS:=O8 (Zjj (Za 3)) (Zi 13) Gen.Mr
abbrev l17:FS:=Y3 (Zb (.bl aC))
theorem Zpc:Gen.Sw=Zm l1 (Zm l2 (Zm l3 (Zm l4 (Zm l5 (Zm l6 (Zm l7 (Zm l8 (Zm l9 (Zm l10 (Zm l11 (Zm l12 (Zm l13 (Zm l14 (Zm l15 (Zm l16 l17))))))))))))))):=rfl
theorem Zgp(ND CD WD MD PD GD XV:List D)(XK:List L2.Key)(NS:D)(c0 c1 c2 m:Int)
  (hc:Cf ND (aA 3) (aA 15)=CD) (zc:CD.length<=bv)
  (e0:Gen.Z9 [.lst ND,.int 0]=aA (.fz (.int c0))) (e1:Gen.Z9 [.lst ND,.int 1]=aA (.fz (.int c1))) (e2:Gen.Z9 [.lst ND,.int 2]=aA (.fz (.int c2)))
  (hk:Gen.Qp [.int c0,.int ((CD.length:Int)+2)]=aA (.ol WD))
  (hs:Gen.Wc [.lst WD,.lst CD]=aA (.fz (.tup [.dK XK XV,NS])))
  (hn:Gen.Z6 [.int c1,.int (c1 % 5)]=aA (.ol MD))
  (hp:Z4 [.own,.cap 2,.acc] 2 (Zi 0) Y9 Gen.Gj MD [aB,aA (.fz (.lst WD)),aA (.ol [])]=aA [aB,aA (.fz (.lst WD)),aA (.ol PD)])
  (hm:1+c2 % 4=m)
  (hl:Gen.U4 [.dK XK XV,.lst PD,.int m]=aA (.ol GD)):
  Gen.Sw [aA (.fz (.lst ND)),aB,aB,aB,aB,aB,aB,aB,aB,aB,aB,aB,aB,aB]=
   Zm l9 (Zm l10 (Zm l11 (Zm l12 (Zm l13 (Zm l14 (Zm l15 (Zm l16 l17))))))) [aA (.fz (.lst ND)),aA (.fz (.lst CD)),aA (.fz (.lst WD)),aA (.fz (.dK XK XV)),aA (.fz NS),aA (.fz (.int c1)),aA (.ol PD),aA (.fz (.int m)),aA (.ol [.dK XK XV,.lst PD]),aA (.ol GD),aB,aB,aB,aB]:=by
 have z2:2<=PySem.sizeLine:=Zt (by decide);have h1:l1 [aA (.fz (.lst ND)),aB,aB,aB,aB,aB,aB,aB,aB,aB,aB,aB,aB,aB]=aA (.nx [aA (.fz (.lst ND)),aA (.ol CD),aB,aB,aB,aB,aB,aB,aB,aB,aB,aB,aB,aB]):=by unfold l1;simp[hc]
 have h2:l2 [aA (.fz (.lst ND)),aA (.ol CD),aB,aB,aB,aB,aB,aB,aB,aB,aB,aB,aB,aB]=aA (.nx [aA (.fz (.lst ND)),aA (.ol CD),aA (.ol WD),aB,aB,aB,aB,aB,aB,aB,aB,aB,aB,aB]):=by unfold l2;simp[e0,zc,hk]
 have h3:l3 [aA (.fz (.lst ND)),aA (.ol CD),aA (.ol WD),aB,aB,aB,aB,aB,aB,aB,aB,aB,aB,aB]=aA (.nx [aA (.fz (.lst ND)),aA (.fz (.lst CD)),aA (.fz (.lst WD)),aA (.fz (.dK XK XV)),aA (.fz NS),aB,aB,aB,aB,aB,aB,aB,aB,aB]):=by unfold l3;simp[hs]
 have h4:l4 [aA (.fz (.lst ND)),aA (.fz (.lst CD)),aA (.fz (.lst WD)),aA (.fz (.dK XK XV)),aA (.fz NS),aB,aB,aB,aB,aB,aB,aB,aB,aB]=aA (.nx [aA (.fz (.lst ND)),aA (.fz (.lst CD)),aA (.fz (.lst WD)),aA (.fz (.dK XK XV)),aA (.fz NS),aA (.fz (.int c1)),aB,aB,aB,aB,aB,aB,aB,aB]):=by unfold l4;simp[e1]
 have h5:l5 [aA (.fz (.lst ND)),aA (.fz (.lst CD)),aA (.fz (.lst WD)),aA (.fz (.dK XK XV)),aA (.fz NS),aA (.fz (.int c1)),aB,aB,aB,aB,aB,aB,aB,aB]=aA (.nx [aA (.fz (.lst ND)),aA (.fz (.lst CD)),aA (.fz (.lst WD)),aA (.fz (.dK XK XV)),aA (.fz NS),aA (.fz (.int c1)),aA (.ol PD),aB,aB,aB,aB,aB,aB,aB]):=by unfold l5;simp[-Z4,hn,hp]
 have h6:l6 [aA (.fz (.lst ND)),aA (.fz (.lst CD)),aA (.fz (.lst WD)),aA (.fz (.dK XK XV)),aA (.fz NS),aA (.fz (.int c1)),aA (.ol PD),aB,aB,aB,aB,aB,aB,aB]=aA (.nx [aA (.fz (.lst ND)),aA (.fz (.lst CD)),aA (.fz (.lst WD)),aA (.fz (.dK XK XV)),aA (.fz NS),aA (.fz (.int c1)),aA (.ol PD),aA (.fz (.int m)),aB,aB,aB,aB,aB,aB]):=by unfold l6;simp[e2,hm]
 have h7:l7 [aA (.fz (.lst ND)),aA (.fz (.lst CD)),aA (.fz (.lst WD)),aA (.fz (.dK XK XV)),aA (.fz NS),aA (.fz (.int c1)),aA (.ol PD),aA (.fz (.int m)),aB,aB,aB,aB,aB,aB]=aA (.nx [aA (.fz (.lst ND)),aA (.fz (.lst CD)),aA (.fz (.lst WD)),aA (.fz (.dK XK XV)),aA (.fz NS),aA (.fz (.int c1)),aA (.ol PD),aA (.fz (.int m)),aA (.ol [.dK XK XV,.lst PD]),aB,aB,aB,aB,aB]):=by unfold l7;simp[z2]
 have a0:L2.atI [D.dK XK XV,.lst PD] 0=aA (.dK XK XV):=Yc _ 0 _ rfl;have a1:L2.atI [D.dK XK XV,.lst PD] 1=aA (.lst PD):=Yc _ 1 _ rfl;have h8:l8 [aA (.fz (.lst ND)),aA (.fz (.lst CD)),aA (.fz (.lst WD)),aA (.fz (.dK XK XV)),aA (.fz NS),aA (.fz (.int c1)),aA (.ol PD),aA (.fz (.int m)),aA (.ol [.dK XK XV,.lst PD]),aB,aB,aB,aB,aB]=aA (.nx [aA (.fz (.lst ND)),aA (.fz (.lst CD)),aA (.fz (.lst WD)),aA (.fz (.dK XK XV)),aA (.fz NS),aA (.fz (.int c1)),aA (.ol PD),aA (.fz (.int m)),aA (.ol [.dK XK XV,.lst PD]),aA (.ol GD),aB,aB,aB,aB]):=by unfold l8;simp[a0,a1,hl]
 rw[Zpc,Z3 h1,Z3 h2,Z3 h3,Z3 h4,Z3 h5,Z3 h6,Z3 h7,Z3 h8]
theorem Zkd(ND CD WD PD GD FD XV:List D)(XK:List L2.Key)(NS:D)(c1 m:Int)
  (q1:Cw 48 (.lst [.dK XK XV,.lst PD]) (.lst [.dK XK XV,.lst PD])=aA aC) (q2:Cw 48 (.dK XK XV) (.dK XK XV)=aA aC)
  (hr:Z4 [.own,.acc] 1 (Zi 0) Y9 Gen.Gk GD [aB,aA (.ol [])]=aA [aB,aA (.ol (GD.map λ_=>D.bl aC))])
  (ho:Z4 [.own,.cap 3,.acc] 2 (Zi 0) Y9 Gen.Gm GD [aB,aA (.fz (.dK XK XV)),aA (.ol [])]=aA [aB,aA (.fz (.dK XK XV)),aA (.ol (GD.map λ_=>D.bl aD))])
  (hs:Gen.Wc [.lst WD,.lst CD]=aA (.fz (.tup [.dK XK XV,NS])))
  (hf:Gen.W7 [.dK XK XV,.lst PD]=aA (.ol FD)) (zf:FD.length<=bv)
  (hc:Cf GD aB (aA (FD.length:Int))=FD) (q3:Cw 48 (.lst FD) (.lst FD)=aA aC):
  Zm l9 (Zm l10 (Zm l11 (Zm l12 (Zm l13 (Zm l14 (Zm l15 (Zm l16 l17))))))) [aA (.fz (.lst ND)),aA (.fz (.lst CD)),aA (.fz (.lst WD)),aA (.fz (.dK XK XV)),aA (.fz NS),aA (.fz (.int c1)),aA (.ol PD),aA (.fz (.int m)),aA (.ol [.dK XK XV,.lst PD]),aA (.ol GD),aB,aB,aB,aB]=
   Zm l13 (Zm l14 (Zm l15 (Zm l16 l17))) [aA (.fz (.lst ND)),aA (.fz (.lst CD)),aA (.fz (.lst WD)),aA (.fz (.dK XK XV)),aA (.fz NS),aA (.fz (.int c1)),aA (.fz (.lst PD)),aA (.fz (.int m)),aA (.ol [.dK XK XV,.lst PD]),aA (.ol GD),aA (.ol FD),aB,aB,aB]:=by
 have z2:2<=PySem.sizeLine:=Zt (by decide);have i1:Il (.bl aD) (GD.map λ_=>D.bl aC)=aD:=by rw[E8];simp
 have i2:Il (.bl aC) (GD.map λ_=>D.bl aD)=aD:=by rw[E8];simp
 have f1:=Ia aC GD;have f2:=Ia aD GD;generalize (GD.map λ_=>D.bl aC)=GT at*;generalize (GD.map λ_=>D.bl aD)=GF at*;have a0:L2.atI [D.dK XK XV,NS] 0=aA (.dK XK XV):=Yc _ 0 _ rfl;have h9:l9 [aA (.fz (.lst ND)),aA (.fz (.lst CD)),aA (.fz (.lst WD)),aA (.fz (.dK XK XV)),aA (.fz NS),aA (.fz (.int c1)),aA (.ol PD),aA (.fz (.int m)),aA (.ol [.dK XK XV,.lst PD]),aA (.ol GD),aB,aB,aB,aB]=aA (.nx [aA (.fz (.lst ND)),aA (.fz (.lst CD)),aA (.fz (.lst WD)),aA (.fz (.dK XK XV)),aA (.fz NS),aA (.fz (.int c1)),aA (.fz (.lst PD)),aA (.fz (.int m)),aA (.ol [.dK XK XV,.lst PD]),aA (.ol GD),aB,aB,aB,aB]):=by unfold l9;simp[-eu,-Z4,-Cw,z2,q1,hr,D.seq?,i1,f1]
 have h10:l10 [aA (.fz (.lst ND)),aA (.fz (.lst CD)),aA (.fz (.lst WD)),aA (.fz (.dK XK XV)),aA (.fz NS),aA (.fz (.int c1)),aA (.fz (.lst PD)),aA (.fz (.int m)),aA (.ol [.dK XK XV,.lst PD]),aA (.ol GD),aB,aB,aB,aB]=aA (.nx [aA (.fz (.lst ND)),aA (.fz (.lst CD)),aA (.fz (.lst WD)),aA (.fz (.dK XK XV)),aA (.fz NS),aA (.fz (.int c1)),aA (.fz (.lst PD)),aA (.fz (.int m)),aA (.ol [.dK XK XV,.lst PD]),aA (.ol GD),aB,aB,aB,aB]):=by unfold l10;simp[-Cw,hs,a0,q2]
 have h11:l11 [aA (.fz (.lst ND)),aA (.fz (.lst CD)),aA (.fz (.lst WD)),aA (.fz (.dK XK XV)),aA (.fz NS),aA (.fz (.int c1)),aA (.fz (.lst PD)),aA (.fz (.int m)),aA (.ol [.dK XK XV,.lst PD]),aA (.ol GD),aB,aB,aB,aB]=aA (.nx [aA (.fz (.lst ND)),aA (.fz (.lst CD)),aA (.fz (.lst WD)),aA (.fz (.dK XK XV)),aA (.fz NS),aA (.fz (.int c1)),aA (.fz (.lst PD)),aA (.fz (.int m)),aA (.ol [.dK XK XV,.lst PD]),aA (.ol GD),aA (.ol FD),aB,aB,aB]):=by unfold l11;simp[hf]
 have h12:l12 [aA (.fz (.lst ND)),aA (.fz (.lst CD)),aA (.fz (.lst WD)),aA (.fz (.dK XK XV)),aA (.fz NS),aA (.fz (.int c1)),aA (.fz (.lst PD)),aA (.fz (.int m)),aA (.ol [.dK XK XV,.lst PD]),aA (.ol GD),aA (.ol FD),aB,aB,aB]=aA (.nx [aA (.fz (.lst ND)),aA (.fz (.lst CD)),aA (.fz (.lst WD)),aA (.fz (.dK XK XV)),aA (.fz NS),aA (.fz (.int c1)),aA (.fz (.lst PD)),aA (.fz (.int m)),aA (.ol [.dK XK XV,.lst PD]),aA (.ol GD),aA (.ol FD),aB,aB,aB]):=by unfold l12;simp[-eu,-Z4,-Cw,zf,hc,q3,ho,D.seq?,i2,f2]
 rw[Z3 h9,Z3 h10,Z3 h11,Z3 h12]
end My
set_option maxHeartbeats 800000
namespace My
open DL PySem TT TX
theorem Zgq(a0 a1 a2 a3 a4 a5 a6 a7 a8:Option SV):Zm l13 (Zm l14 (Zm l15 (Zm l16 l17))) [a0,a1,a2,a3,a4,a5,a6,a7,a8,aA (.ol []),aA (.ol []),aB,aB,aB]=aA (.rt (.fz (.bl aC))):=by
 have z0:0<=PySem.sizeLine:=d8 _;have h:l13 [a0,a1,a2,a3,a4,a5,a6,a7,a8,aA (.ol []),aA (.ol []),aB,aB,aB]=aA (.rt (.fz (.bl aC))):=by unfold l13;simp
 unfold Zm;rw[h];rfl
theorem Zgr(a0 a1 a2 a5 a6 a8:Option SV)(xs:List Str)(XV:List D)(NS:D)(m:Int)(GD FD:List D)(E:List Str)(f c:Nat)(fl:FD.length=f)(f0:0<f)(gl:GD.length=f+c)(lt:f+c<=1000)
  (hr:∀i,f<=i->i<f+c->Gen.W9 [.dK (Zf xs) XV,NS,.lst GD,.int m,.int (i:Int)]=aA (.fz (.bl aC)))
  (he:Z4 [.own,.acc] 1 (Zi 0) Y9 Gen.Go GD [aB,aA (.ol [])]=aA [aB,aA (.ol (E.map D.str))])
  (hn:∀k∈xs,k∉E->Gen.Z2 [.dK (Zf xs) XV,NS,.lst (E.map D.str),.str k,.int m]=aA (.fz .non)):
  Zm l13 (Zm l14 (Zm l15 (Zm l16 l17))) [a0,a1,a2,aA (.fz (.dK (Zf xs) XV)),aA (.fz NS),a5,a6,aA (.fz (.int m)),a8,aA (.ol GD),aA (.ol FD),aB,aB,aB]=aA (.rt (.fz (.bl aC))):=by
 have h13:l13 [a0,a1,a2,aA (.fz (.dK (Zf xs) XV)),aA (.fz NS),a5,a6,aA (.fz (.int m)),a8,aA (.ol GD),aA (.ol FD),aB,aB,aB]=aA (.nx [a0,a1,a2,aA (.fz (.dK (Zf xs) XV)),aA (.fz NS),a5,a6,aA (.fz (.int m)),a8,aA (.ol GD),aA (.ol FD),aB,aB,aB]):=by
  have z:FD.length<=PySem.sizeLine:=Zt (by omega);have n0:¬FD.length=0:=by omega
  have n0':¬FD=[]:=λe=>n0 (by rw[e];rfl);generalize Zf xs=XK;unfold l13;simp[z,n0,n0']
 rw[Z3 h13];obtain⟨y9,y11,h9,e14⟩:=Rv a0 a1 a2 a5 a6 a8 (aA (.ol FD)) aB aB (.dK (Zf xs) XV) NS GD m c f (aA (.ol GD)) aB (.inl rfl) hr;have h14:l14 [a0,a1,a2,aA (.fz (.dK (Zf xs) XV)),aA (.fz NS),a5,a6,aA (.fz (.int m)),a8,aA (.ol GD),aA (.ol FD),aB,aB,aB]=aA (.nx [a0,a1,a2,aA (.fz (.dK (Zf xs) XV)),aA (.fz NS),a5,a6,aA (.fz (.int m)),a8,y9,aA (.ol FD),y11,aB,aB]):=by
  have z:FD.length<=PySem.sizeLine:=Zt (by omega);have z':GD.length<=PySem.sizeLine:=Zt (by omega);have g1:R8 (FD.length:Int):=O9 (by omega);have g2:R8 (GD.length:Int):=O9 (by omega);have et:((GD.length:Int)- (FD.length:Int)).toNat=c:=by omega
  have ei:Cs (FD.length:Int) c=Cg f c:=by rw[Zkc,fl]
  have et2:GD.length- FD.length=c:=by omega
  generalize Zf xs=XK at*;unfold l14;simp[-Y8,z,z',g1,g2,et2,ei,e14]
 rw[Z3 h14];have h15:l15 [a0,a1,a2,aA (.fz (.dK (Zf xs) XV)),aA (.fz NS),a5,a6,aA (.fz (.int m)),a8,y9,aA (.ol FD),y11,aB,aB]=aA (.nx [a0,a1,a2,aA (.fz (.dK (Zf xs) XV)),aA (.fz NS),a5,a6,aA (.fz (.int m)),a8,aA (.fz (.lst GD)),aA (.ol FD),y11,aA (.ol (E.map D.str)),aB]):=by generalize E.map D.str=ED at*;generalize Zf xs=XK at*;unfold l15;rcases h9 with rfl|rfl<;> simp[-Z4,he]
 rw[Z3 h15];obtain⟨δ,e16⟩:=Ib a0 a1 a2 a5 a6 a8 (aA (.fz (.lst GD))) (aA (.ol FD)) y11 (.dK (Zf xs) XV) NS E m xs (aA (.ol (E.map D.str))) aB (.inl rfl) hn;have h16:l16 [a0,a1,a2,aA (.fz (.dK (Zf xs) XV)),aA (.fz NS),a5,a6,aA (.fz (.int m)),a8,aA (.fz (.lst GD)),aA (.ol FD),y11,aA (.ol (E.map D.str)),aB]=aA (.nx δ):=by have kk:=K1 xs;generalize E.map D.str=ED at*;generalize Zf xs=XK at*;unfold l16;simp[-Y8,kk,e16]
 rw[Z3 h16];unfold l17;simp
theorem Zgs:∀{l:List Wz} {r:Wz},Chn r l->∀(i:Nat) (p q:Wz),(r::l)[i]? =aA p->(r::l)[i+1]? =aA q->Nxt p q
 | [],r,_,i,p,q,_,h=>by simp at h
 |x::l,r,.cons h t,0,p,q,h1,h2=>by cases h1;have h2:aA x=aA q:=h2;cases h2;exact h
 |x::l,r,.cons h t,i+1,p,q,h1,h2=>Zgs t i p q h1 h2
theorem law_true(ns:List Int)(hn:ns.length<=63):Gen.T5 [.lst (ns.map D.int)]=aA (.fz (.bl aC)):=by
 obtain⟨cs,hc,cl⟩:=Zcj ns;obtain⟨c0,e0⟩:=Nj ns 0;obtain⟨c1,e1⟩:=Nj ns 1;obtain⟨c2,e2⟩:=Nj ns 2;obtain⟨ws,kw,wl,wnd,wk⟩:=Mf c0 (cs.length+2) (by omega);have W:Ws ws cs.length:=⟨wl,wnd,wk,cl⟩
 obtain⟨wks,wl',wo,sh⟩:=Zgc W cs rfl;obtain⟨pn,hpn⟩:∃n:Nat,(n:Int)=c1 % 5:=⟨(c1 % 5).toNat,by omega⟩
 obtain⟨m,hm⟩:∃n:Nat,(n:Int)=1+c2 % 4:=⟨(1+c2 % 4).toNat,by omega⟩
 obtain⟨ms,nm,_,ml⟩:=Rs c1 pn (by omega);obtain⟨ks,kl,pc⟩:=X7 W ms (by omega);have xl:(ws.take cs.length).length=wks.length:=by rw[List.length_take,wl',wl];omega
 have xnd:(ws.take cs.length).Nodup:=List.Sublist.nodup (List.take_sublist _ _) wnd;have ho:∀w∈wks,w.nt.Ok:=λw hw=>(wo w hw).nt;generalize ws.take cs.length=xs at*;obtain⟨G,s',t',run,gnd,gx,hl⟩:=Zcd W xs wks (by omega) xnd xl ho m (by omega) ks (by omega);have ah:=Zo7 xs wks m ks;obtain⟨X,hG,hX,rX,hend⟩:=Zcg xl ho run ah;obtain⟨X',hG',ch⟩:=Zch xnd run ah;have eX:X'=X:=List.append_cancel_left (hG'.symm.trans hG);subst eX;rw[cy]at hG;have gl:G.length<=40:=by
  have:(G.map (·.1)).length<=xs.length:=List.Nodup.length_le_of_subset gnd λk hk=>by obtain⟨r,hr,rfl⟩:=ax.mp hk;exact gx r hr
  rw[am]at this;omega
 have lf:=Zce xs wks xl ks (by omega);have q2:=Zgl 43 xnd xl;have q1:Cw 48 (.lst [Wp xs wks,.lst (ks.map D.str)]) (.lst [Wp xs wks,.lst (ks.map D.str)])=aA aC:=L5 47 _ λd hd=>by
  rcases bo.mp hd with e|hd
  .rw[e];exact Zgl 42 xnd xl
  .rw[aq.mp hd];exact Zfw 45 ks
 have q3:=Zgm 38 (Z5 xs ks);have rc:=Zgn G (by omega);have oc:=Zgo xs wks xl G gx (by omega);have ec:=X8 G (by omega);have er:=λ(k:Str)=>Ru xs wks xl (Jg G) (λo ho'=>by obtain⟨q,hq,rfl⟩:=ax.mp ho';exact gx q hq) (by rw[am];omega) m (by omega) k;have cd:(cs.map D.int).length=cs.length:=am ..;have fl:((Z5 xs ks).map Zy).length=(Z5 xs ks).length:=am ..;have fG:(Z5 xs ks).length<=G.length:=by rw[hG,aw];omega
 have hh:=Zgp (ns.map D.int) (cs.map D.int) (ws.map D.str) (ms.map D.int) (ks.map D.str) (G.map Zy) (wks.map Wk.d) (Zf xs) (Ci xs wks) c0 c1 c2 (m:Int) hc (Zt (by omega)) e0 e1 e2 (by rw[cd];exact kw) sh (by rw[<-hpn];exact nm) pc hm.symm hl;have hd:=Zkd (ns.map D.int) (cs.map D.int) (ws.map D.str) (ks.map D.str) (G.map Zy) ((Z5 xs ks).map Zy) (wks.map Wk.d) (Zf xs) (Ci xs wks) c1 (m:Int) q1 q2 rc oc sh lf (Zt (by omega)) (by
  rw[fl,Xn _ _ (by rw[am];exact fG),<-List.map_take,hG,List.take_left]) q3
 refine Zgi (f:=Gen.Sw) (n:=14) (Eq.trans hh (Eq.trans hd ?_));by_cases f0:Z5 xs ks=[]
 .rw[f0]at run;have g0:G=[]:=Zkb run;rw[f0,g0];exact Zgq _ _ _ _ _ _ _ _ _
 .have fp:0<(Z5 xs ks).length:=List.length_pos_iff.mpr f0;obtain⟨z,hz⟩:∃z,(Z5 xs ks).getLast? =aA z:=by
   cases e:(Z5 xs ks).getLast? with
   |none=>exact absurd (List.getLast?_eq_none_iff.mp e) f0
   |some z=>exact⟨z,rfl⟩
  have hch:=ch z hz;obtain⟨A,hA⟩:∃A,Z5 xs ks=A++[z]:=by obtain⟨A,hA⟩:=List.getLast?_eq_some_iff.mp hz;exact⟨A,hA⟩
  have t1:1<=t':=Zgg run f0;refine Zgr _ _ _ _ _ _ xs (wks.map Wk.d) (Ci xs wks) (m:Int) (G.map Zy) ((Z5 xs ks).map Zy) (Jg G) (Z5 xs ks).length X'.length fl fp (by rw[am,hG,aw]) (by rw[hG,aw]at gl;omega) (λi i1 i2=>?_) ec (λk hk hn'=>?_)
  .obtain⟨j,rfl⟩:∃j,i=A.length+j+1:=⟨i- A.length- 1,by rw[hA,aw,c6]at i1;omega⟩
   have hG2:G=A++(z::X'):=by rw[hG,hA,dy];rfl
   have ij:j<X'.length:=by rw[hA,aw,c6]at i2;omega
   obtain⟨p,hp⟩:∃p,(z::X')[j]? =aA p:=⟨_,bj (by rw[bd];omega)⟩
   obtain⟨q,hq⟩:∃q,(z::X')[j+1]? =aA q:=⟨_,bj (by rw[bd];omega)⟩
   have gp:G[A.length+j]? =aA p:=by rw[hG2,List.getElem?_append_right (by omega),show A.length+j- A.length=j by omega];exact hp
   have gq:G[A.length+j+1]? =aA q:=by rw[hG2,List.getElem?_append_right (by omega),show A.length+j+1- A.length=j+1 by omega];exact hq
   have qX:q∈X':=f7 (i:=j) hq;exact Zci xs wks xl G gx gl m (by omega) (A.length+j) p q gp gq (by have:=hX q qX;omega) (rX q qX) (Zgs hch j p q hp hq)
  .rw[er k,hend t1 k hk hn'];rfl
end My
namespace PySem.W.Fast
def tw10236451564168217332:=()
def tw5754596051264958267:=()
def tw3789471362251421544:=()
def tw5320441620128661971:=()
def tw15530316442481604890:=()
def tw3266674466559648572:=()
def tw15064210758522296877:=()
def tw18343003229974489492:=()
def tw7109351358537066639:=()
def tw16671228442172050040:=()
def tw13123368114383327219:=()
def tw9806702633111041682:=()
def tw3837308884886918389:=()
def tw7317022290862134244:=()
def tw12533058887768870155:=()
def tw7717910119862148740:=()
def tw18305117701901506212:=()
def tw17153381576523444800:=()
def tw9605716562881732329:=()
def tw1813356700334636378:=()
def tw10216343379928458546:=()
def tw4182245500463473403:=()
def tw15927568236807908009:=()
def tw7437522085114311709:=()
def tw13370272610151726868:=()
def tw11146151041144570098:=()
def tw180826246740423166:=()
def tw4304015858673944883:=()
def tw13479396343537738854:=()
def tw13553704897686811519:=()
def tw16443949571375271883:=()
def tw12032989418532805689:=()
def tw6464253784383967175:=()
def tw8951828159007161325:=()
def tw8921204047814993621:=()
def tw11740056445442882489:=()
def tw4597882713180419713:=()
def tw11370376092858145562:=()
def tw16604295736415505534:=()
def tw12071212575051760564:=()
def tw18206804274214581884:=()
def tw16488947527958988333:=()
def tw17813019770895746361:=()
def tw8198510235831899233:=()
def tw10461113760644178471:=()
def tw6722502453440302348:=()
def tw17041699299459068513:=()
def tw381381006937265658:=()
def tw1029252411762659537:=()
def tw7945279374701822435:=()
def tw13389120359767647561:=()
def tw12625456189369563695:=()
def tw10288524953603250370:=()
def tw15722733216500683753:=()
def tw9849726165511390495:=()
def tw5531520335876325969:=()
def tw3864543432773193926:=()
def tw14590323081592339233:=()
def tw13630209291733887508:=()
def tw16145572963404930008:=()
def tw8965542797924423407:=()
def tw7255067002002990727:=()
def tw11254252327486529251:=()
def tw703738318950362387:=()
def tw9492489189235295097:=()
def tw17828016610658016815:=()
def tw14207392696016538105:=()
def tw14478900905468891161:=()
def tw4841766865928717262:=()
def tw8085361062726511690:=()
def tw17728711094287157869:=()
def tw2168004200087292937:=()
def tw11079692341940304738:=()
def tw15681048892498653464:=()
def tw17459740865697040848:=()
def tw8359190912341103015:=()
def tw1095731155059621767:=()
def tw7232101343043013385:=()
def tw17562183688223676312:=()
def tw8234092202979141223:=()
def tw11840944852551386612:=()
def tw6504376626696832659:=()
def tw13263111928197316983:=()
def tw9087914450075693180:=()
def tw3974015833994003355:=()
def tw17001979752007348183:=()
def tw17316163676500128880:=()
def tw429057785706313574:=()
def tw8729795307726796871:=()
def tw4754171977068398344:=()
def tw12867929340143068279:=()
def tw5685431462023150630:=()
def tw7977935618576389051:=()
def tw9342554080617058630:=()
def tw1883606766474562809:=()
def tw11014399086512490793:=()
def tw3811607217017337258:=()
def tw7001135711939205982:=()
def tw13570478815505240337:=()
def tw8864787009526615576:=()
end PySem.W.Fast
open PySem PySem.W PyProof.Rows
set_option maxRecDepth 100000 in
set_option maxHeartbeats 0 in
theorem PySem.Challenge.cw_citeward_k30_whole_what_is_listed_holds : PySem.Challenge.rw_citeward_k30_whole_what_is_listed.Holds := by
  w_on; o_law; k_head; (case hw => w_witness2)
  k_fill
  refine Gen.Zuo (l := PySem.Challenge.rw_citeward_k30_whole_what_is_listed) rfl rfl (fun w h Y => PySem.W.kIn_of Y) ?F My.law_true
  case F =>
    intro w mg fa h KX G hmg
    apply Gen.Zop KX G hmg<;>first|k_is|exact⟨_,L2.Wg (by k_is) (by k_is) (by k_is)⟩|k_exc
