import PyProof.Rows.All
import Wide.All
import OpenK.AllK
import Wide.FinOn
import Lean
import PyProof.EqAt
import PyProof.EqKinds
import PyProof.TupleCall
import PyProof.NeKinds
import PyProof.EnumMake
import PyProof.ConsumeWalk
import PyProof.StrWalks
import PyProof.WalksMore
import PyProof.StrLawsNeg
import KE.KDictList
import KE.KLam
import KE.KMinKey
import KE.KSortTup
import KE.KUnpack
import PySem.Challenge.RW_citeward_k41_pools_as_shelves
set_option Elab.async false
set_option linter.all false
set_option genSizeOf false
set_option genSizeOfSpec false
set_option maxRecDepth 100000
set_option maxHeartbeats 4000000
open PySem renaming wpAny_bind->aa,wpAny_pure->ad,Value->ag,Shared->am,Addr->ao,starEach->ba,wpAny->bi,Program->b8,model->b9,sizeLine->cj,Around->c7,Expr->c9,World->dq,wpAny_call_entry->d5,wpAny_loadPart'->fg,cLine->ft,Heap->f8,wpAny_holding->f9,wpAny_newObj_type->gr,backTo->gu,wpAny_mono->gv,compareOp->gx,sizeLine_eq->gz,wpAny_callSpecial?_slot->g7,SetTable->ic,eval->ig,codeAny_builtin->ik,wpAny_isInstance->io
open List renaming mem_cons_self->ac,mem_cons_of_mem->ah,length_map->aj,mem_singleton->ar,getElem?_eq_getElem->au,mem_map->av,length_cons->aw,map_cons->ax,getElem?_map->ay,getElem?_eq_some_iff->az,length_append->bg,getD_eq_getElem?_getD->bh,mem_cons->bj,size_toArray->bx,mem_append->bz,mem_append_right->b7,mem_of_getElem?->cf,mem_append_left->cg,map_map->cp,mem_range->cq,range->cr,map_append->cu,getElem?_append_left->cw,nodup_nil->c6,nodup_append->dh,not_lt->dw,nodup_cons->dy,getElem?_set_self->d0,getElem?_set_ne->d6,getElem?_eq_none->d7,getElem_of_mem->fj,getElem?_append_right->fq,pairwise_map->fu,lt_irrefl->gn,nil_append->gq,exists_cons_of_ne_nil->g8,append_assoc->ib,drop_eq_getElem_cons->ie,length_set->im
open PySem.W renaming Frag->af
open PySem.Heap renaming get?_push_of_some->aq,get?_push_size->bo,lt_size->bp,SameBut->g6
open Nat renaming le_refl->bc,ne_of_lt->cm,lt_of_lt_of_le->df,lt_or_ge->du,le_trans->dv,not_lt_zero->f7,zero_le->gd,lt_of_le_of_lt->gw
open Array renaming length_toList->bf,getElem?_toList->de,getElem?_eq_some_iff->g9
open Bool renaming false_eq_true->bq,false_ne_true->bv,not_true->gh
open Option renaming bind_some->bu,map_eq_some_iff->cz,some->dg,bind_eq_some_iff->dr
open PySem.Value renaming ref->ci,none->c8
open PySem.PassesOwn renaming never->di
open List.Nodup renaming length_le_of_subset->dm
open Sum renaming inr->dn
open PySem.Str renaming ofString->dz
open PySem.Obj renaming mapSeq->d8
open PyProof.Rows renaming seqObj->eh
open PySem.Builtin.Str renaming occurrences->f6
open PySem.Around renaming under_plainId->gm
open PySem.NameKind renaming free->gp
open PySem.F renaming slot_dict_keyiterator_next->ii
open Int renaming emod_lt_of_pos->ij
open Option renaming some->aA,none->aB
open Bool renaming true->aC,false->aD
theorem fZ.{u}{c:Prop}{h:Decidable c}(n:¬c){α:Sort u}{t e:α}:@ite α c h t e=e:=if_neg n
theorem f_.{u}{c:Prop}{h:Decidable c}(n:c){α:Sort u}{t e:α}:@ite α c h t e=t:=if_pos n
theorem eA{p:Prop}[Decidable p](h:¬p):decide p=false:=decide_eq_false h
theorem eB{p:Prop}[Decidable p](h:p):decide p=true:=decide_eq_true h
theorem eC{p:Prop}[Decidable p](h:decide p=true):p:=of_decide_eq_true h
theorem eF{a b:Prop}(h:a)(g:¬a):b:=absurd h g
theorem zqA(h:True:=by first|rfl|exact Or.inl rfl|exact Or.inr (Or.inl rfl)|exact Or.inr (Or.inr rfl)|exact Or.inr rfl|(intro _;rfl)|(intro _ _;rfl)|assumption|decide+kernel|exact⟨rfl,rfl,rfl,rfl⟩|(refine⟨by constructor<;>first|rfl|decide+kernel,?_,rfl⟩;intro _ _ _ _ _ _ us hl;(first|refine of1 ?_ us hl|refine of2 ?_ us hl|refine of3 ?_ us hl|refine of4 ?_ us hl|refine of5 ?_ us hl);intros;rfl)|(apply Fx<;>rfl)|(apply zg<;>rfl)):True:=h
local macro_rules |`(‹$t›)=>`(autoParam $t zqA._auto_1)
set_option compiler.extract_closed false
open PySem PySem.Spec PyProof.Rows
set_option bootstrap.genMatcherCode false
noncomputable section
namespace Lake
namespace L2
theorem gZ.{u,v}{α:Type u}{β:Type v}{o:Option α}{f:α->Option β}{r:β}{G:Prop}(e:o.bind f=aA r)(k:∀a,o=aA a->f a=aA r->G):G:=let⟨a,b,c⟩:=dr.mp e;k a b c
theorem fA.{u,v,w}{α:Type u}{γ:Type w}{β:Type v}{o:Option (α×γ)}{f:α×γ->Option β}{r:β}{G:Prop}(e:o.bind f=aA r)(k:∀a b,o=aA (a,b)->f (a,b)=aA r->G):G:=let⟨(a,b),c,d⟩:=dr.mp e;k a b c d
theorem W0{G:Prop}(h:p/\q/\r/\s/\t/\u)(f:p->q->r->s->t->u->G):G:=let⟨x,y,z,m,n,k⟩:=h;f x y z m n k
theorem Zn{p q r:A->Prop}{G:Prop}(h:∃a,p a/\q a/\r a)(f:∀a,p a->q a->r a->G):G:=let⟨a,x,y,z⟩:=h;f a x y z
theorem Wq{p q:A->B->Prop}{G:Prop}(h:∃a b,p a b/\q a b)(f:∀a b,p a b->q a b->G):G:=let⟨a,b,x,y⟩:=h;f a b x y
theorem Ya{p q r:A->B->Prop}{G:Prop}(h:∃a b,p a b/\q a b/\r a b)(f:∀a b,p a b->q a b->r a b->G):G:=let⟨a,b,x,y,z⟩:=h;f a b x y z
theorem Ol{p q r s:A->B->Prop}{G:Prop}(h:∃a b,p a b/\q a b/\r a b/\s a b)(f:∀a b,p a b->q a b->r a b->s a b->G):G:=let⟨a,b,x,y,z,m⟩:=h;f a b x y z m
theorem Q1{p q r:A->B->C->D->Prop}{G:Prop}(h:∃a b c d,p a b c d/\q a b c d/\r a b c d)(f:∀a b c d,p a b c d->q a b c d->r a b c d->G):G:=let⟨a,b,c,d,x,y,z⟩:=h;f a b c d x y z
theorem Yo{p q r:A->B->C->D->E->Prop}{G:Prop}(h:∃a b c d e,p a b c d e/\q a b c d e/\r a b c d e)(f:∀a b c d e,p a b c d e->q a b c d e->r a b c d e->G):G:=let⟨a,b,c,d,e,x,y,z⟩:=h;f a b c d e x y z
theorem Ca{p q r s t:A->B->C->D->E->Prop}{G:Prop}(h:∃a b c d e,p a b c d e/\q a b c d e/\r a b c d e/\s a b c d e/\t a b c d e)(f:∀a b c d e,p a b c d e->q a b c d e->r a b c d e->s a b c d e->t a b c d e->G):G:=let⟨a,b,c,d,e,x,y,z,m,n⟩:=h;f a b c d e x y z m n
noncomputable abbrev Key:=Sum Int Str
noncomputable def Cg:Key->ag->Bool
 | .inl k,v=>Value.isInt k v
 | .inr x,v=>Value.isStrOf x v
noncomputable def u4(w:dq):Key->Int
 | .inl k=>hashInt k
 | .inr x=>hashStr w x
theorem Z9:∀{k:Key} {v:ag},Cg k v=aC->(∃i t,k=Sum.inl i/\v=Value.int i t)\/(∃x t,k=dn x/\v=Value.str x t)
 | .inl i,v,h=>by obtain⟨t,e⟩:=Value.isInt_shape (k:=i) (v:=v) h;exact .inl ⟨i,t,rfl,e⟩
 | .inr x,v,h=>by obtain⟨t,e⟩:=Value.isStrOf_shape (x:=x) (v:=v) h;exact .inr ⟨x,t,rfl,e⟩
theorem iE(i t):Cg (.inl i) (.int i t)=aC:=by simp[Cg,Value.isInt]
theorem iD(x t):Cg (.inr x) (.str x t)=aC:=by simp[Cg,Value.isStrOf]
theorem oO(a b):decide ((Sum.inl a:Key)=Sum.inl b)=(a==b):=by
 by_cases e:a=b
 .subst e;simp
 .have h:¬(Sum.inl a:Key)=Sum.inl b:=λq=>e (Sum.inl.inj q);rw[eA h];exact(beq_eq_false_iff_ne.mpr e).symm
theorem oJ(a b):decide ((dn a:Key)=dn b)=decide (a=b):=by
 by_cases e:a=b
 .subst e;simp
 .have h:¬(dn a:Key)=dn b:=λq=>e (dn.inj q);rw[eA h,eA e]
theorem oH(a b):decide ((Sum.inl a:Key)=dn b)=aD:=eA (λq=>nomatch q)
theorem oG(a b):decide ((dn a:Key)=Sum.inl b)=aD:=eA (λq=>nomatch q)
noncomputable def Zu(prog:b8)(w:dq):PySem.KeyKind prog w Key where
 is:=Cg
 hash:=u4 w
 inj:=λv a b ha hb=>by
  rcases Z9 ha with⟨i,t,rfl,rfl⟩|⟨x,t,rfl,rfl⟩
  .rcases Z9 hb with⟨j,u,rfl,e⟩|⟨y,u,rfl,e⟩
   .injection e with e1 _;rw[e1]
   .exact nomatch e
  .rcases Z9 hb with⟨j,u,rfl,e⟩|⟨y,u,rfl,e⟩
   .exact nomatch e
   .injection e with e1 _;rw[e1]
 byValue:=λk v h=>by rcases Z9 h with⟨i,t,rfl,rfl⟩|⟨x,t,rfl,rfl⟩<;> rfl
 pyHash:=λhv h=>by
  rcases Z9 hv with⟨i,t,rfl,rfl⟩|⟨x,t,rfl,rfl⟩
  .exact wpAny_pyHash_int h
  .exact wpAny_pyHash_str h
 eqBool:=λhu hv h=>by
  rcases Z9 hu with⟨i,t,rfl,rfl⟩|⟨x,t,rfl,rfl⟩
  .rcases Z9 hv with⟨j,u,rfl,rfl⟩|⟨y,u,rfl,rfl⟩
   .rw[oO]at h;exact wpAny_eqBool_int h
   .rw[oH]at h;exact SeqAt.EqAt.int_str i t y u _ _ _ _ h
  .rcases Z9 hv with⟨j,u,rfl,rfl⟩|⟨y,u,rfl,rfl⟩
   .rw[oG]at h;exact SeqAt.EqAt.str_int x t j u _ _ _ _ h
   .rw[oJ]at h;exact wpAny_eqBool_str h
 «strs»:=λk x t v h=>by
  rcases Z9 h with⟨i,u,rfl,e⟩|⟨y,u,rfl,e⟩
  .exact nomatch e
  .injection e with e1 _;subst e1;cases v<;> rfl
theorem gM(prog w k v):(Zu prog w).is k v=Cg k v:=rfl
theorem Pg(prog w i t):(Zu prog w).is (.inl i) (.int i t)=aC:=iE i t
theorem Ph(prog w x t):(Zu prog w).is (.inr x) (.str x t)=aC:=iD x t
noncomputable abbrev Zo:=Sum (List Str) (Int×List Str)
noncomputable def Gq(l:List Str):List Key:=l.map dn
theorem Li(h:Gq a=Gq b):a=b:=by
 induction a generalizing b with
 |nil=>cases b with
  |nil=>rfl
  |cons y b=>simp[Gq]at h
 |cons x a ih=>cases b with
  |nil=>simp[Gq]at h
  |cons y b=>simp only[Gq,ax,List.cons.injEq]at h;rw[dn.inj h.1,ih h.2]
theorem Dm(a b):decide (Gq a=Gq b)=decide (a=b):=by
 by_cases e:a=b
 .rw[e];simp
 .rw[eA e,eA λz=>e (Li z)]
def Bc(prog:b8)(w:dq)(h:f8):Zo->ao->Prop
 | .inl l,a=>IsTupleKey (Zu prog w) h (Gq l) a
 | .inr (n,l),a=>∃o gV m t b,h.get? a=aA o/\o.cls= .type "tuple"/\o.data= .seq gV m/\gV.toList=[.int n t,.ref b]/\IsTupleKey (Zu prog w) h (Gq l) b
noncomputable def Yl(prog:b8)(w:dq):Zo->Int
 | .inl l=>tupleKeyHash (Zu prog w) (Gq l)
 | .inr (n,l)=>reduceHash (Builtin.Tuple.tupleHashOf [hashInt n,tupleKeyHash (Zu prog w) (Gq l)])
noncomputable def T6:Zo->Nat
 | .inl l=>(Gq l).length+1
 | .inr (_,l)=>1+((Gq l).length+1)+1
theorem Bc.typeIs{s:am}(x:Bc prog w s.heap k a):s.TypeIs (.ref a) "tuple":=by
 cases k with
 |inl l=>exact IsTupleKey.typeIs (show IsTupleKey (Zu prog w) s.heap (Gq l) a from x)
 |inr p=>refine Yo x λo _ _ _ _ ho hc _=>?_;exact⟨o,ho,hc⟩
theorem T7(h:ItemsAre (Zu prog w) (Gq l) (.int n t::vs)):False:=by
 cases l with
 |nil=>cases h
 |cons x l=>
  cases h with
  |cons h1 _=>
   rcases Z9 (k:=.inr x) (v:=.int n t) h1 with⟨_,_,e,_⟩|⟨_,_,_,e⟩
   .cases e
   .cases e
theorem Bc.inj(hx:Bc prog w h x a)(hy:Bc prog w h y a):x=y:=by
 have DV:∀{l:List Str} {n:Int} {l2:List Str},Bc prog w h (.inl l) a->Bc prog w h (.inr (n,l2)) a->False:=fun{l n l2} h1 h2=>by obtain⟨o,gV,m,ho,_,hd,hi⟩:=h1;refine Ca h2 λo' SY m' t b XA _ XG e _=>?_;obtain rfl:o=o':=dg.inj (ho.symm.trans XA);rw[hd]at XG;injection XG with z _;subst z;rw[e]at hi;exact T7 hi
 cases x with
 |inl l=>cases y with
  |inl l2=>rw[Li (IsTupleKey.inj (show IsTupleKey (Zu prog w) h (Gq l) a from hx) hy)]
  |inr p=>exact(DV hx hy).elim
 |inr p=>cases y with
  |inl l2=>exact(DV hy hx).elim
  |inr q=>obtain⟨n,l⟩:=p;obtain⟨n2,l2⟩:=q;refine Ca hx λo gV m t b ho _ hd e hb=>?_;refine Ca hy λo' SY m' t' b' XA _ XG e' YB=>?_;obtain rfl:o=o':=dg.inj (ho.symm.trans XA);rw[hd]at XG;injection XG with z _;subst z;rw[e]at e';injection e' with e1 e2;injection e1 with e1 _;injection e2 with e2 _;injection e2 with e2;subst e1 e2;rw[Li (hb.inj YB)]
theorem Bc.keeps (x:Bc prog w h k a)(ho:h.get? d=aA o)(hd:o.data= .dict es ep)(hs:g6 d h h'):Bc prog w h' k a:=by
 cases k with
 |inl l=>exact IsTupleKey.keeps (show IsTupleKey (Zu prog w) h (Gq l) a from x) ho hd hs
 |inr p=>
  refine Ca x λo' gV m t b XA hc XG e hb=>?_;have WX:a≠d:=by rintro rfl;obtain rfl:o'=o:=dg.inj (XA.symm.trans ho);rw[hd]at XG;exact nomatch XG
  exact⟨o',gV,m,t,b,(hs.2 a WX).trans XA,hc,XG,e,hb.keeps ho hd hs⟩
theorem Bc.mono(x:Bc prog w h k a)(hk:∀b o,h.get? b=aA o->h'.get? b=aA o):Bc prog w h' k a:=by
 cases k with
 |inl l=>obtain⟨o,gV,m,ho,r⟩:=x;exact⟨o,gV,m,hk _ _ ho,r⟩
 |inr p=>obtain⟨o,gV,m,t,b,ho,hc,hd,e,⟨o2,i2,m2,YS,r2⟩⟩:=x;exact⟨o,gV,m,t,b,hk _ _ ho,hc,hd,e,o2,i2,m2,hk _ _ YS,r2⟩
theorem yk(hu:A.units+1<ft)(hk:Bc prog w s.heap k a)(h:Q (Yl prog w k) {s with toks:=s.toks+T6 k}):bi (b9 prog w) A (pyHash (.ref a)) Q E s:=by
 cases k with
 |inl l=>exact wpAny_pyHash_tuple (knd:=Zu prog w) (by omega) hk h
 |inr p=>
  have hT:=hk.typeIs;obtain⟨n,l⟩:=p;refine Ca hk λo gV m t b ho _ hd hi hb=>?_;unfold pyHash
  first|unfold pyHashByItsType|skip
  first|refine aa (wpAny_cRoomFor_or (.inr (by omega)) ?_)|skip
  refine aa (wpAny_specialOf hT F.slot_tuple_hash.lookup ?_);show bi _ _ (if(aA (Value.builtin "tuple.__hash__")==aA c8)=aC then _ else _) Q E s;rw[fZ (by rw[beq_builtin_none];exact bv)];refine aa (wpAny_specialOf hT F.slot_tuple_hash.lookup ?_);show bi _ _ (callSpecialIfBoundUnlessNone? (.ref a) "__hash__" _ >>=_) Q E s;refine aa (wpAny_callSpecialIfBoundUnlessNone?_slot hT F.slot_tuple_hash (d5 F.slot_tuple_hash hT F.entry_tuple_hash ?_ (F.args_tuple_hash_1 _)));show bi _ _ (Builtin.Tuple.tupleItemsOf (.ref a) >>=_) _ _ s;refine aa (wpAny_tupleItemsOf ho hd ?_);refine aa ?_;rw[<-Array.forIn_toList,hi];simp only[List.forIn_cons,List.forIn_nil];have vP:A.in1.units<cLine:=hu;refine aa (aa (wpAny_pyHash_int ?_));refine ad ?_;dsimp only;refine aa (aa (wpAny_pyHash_tuple (knd:=Zu prog w) (s:={s with toks:=s.toks+1}) vP hb ?_));refine ad ?_;refine ad ?_;generalize hg:tupleKeyHash (Zu prog w) (Gq l)=g at h⊢;show bi _ _ (retInt (Builtin.Tuple.tupleHashOf [hashInt n,g])) _ _ _;refine wpAny_ret_mkInt ?_;unfold Yl at h;dsimp only at h;rw[hg]at h;generalize Builtin.Tuple.tupleHashOf [hashInt n,g]=z at h⊢;show bi _ _ (if(decide (-(2:Int)^63<=z)&&decide (z<2^63))=aC then _ else _) Q E _;unfold reduceHash at h;by_cases hr:(decide (-(2:Int)^63<=z)&&decide (z<2^63))=aC
  .rw[f_ hr];rw[f_ hr]at h;exact ad (by simpa[T6,Nat.add_assoc]using h)
  .rw[fZ hr];rw[fZ hr]at h;exact aa (wpAny_rule (ad (by simpa[T6,Nat.add_assoc]using h)))
theorem iC(hu:A.units<ft)(hx:Bc prog w s.heap x a)(hy:Bc prog w s.heap y b)(h:P (.done (.ret (.bool (decide (x=y))))) s):
  bi (b9 prog w) A (Builtin.«tuple.__eq__» ⟨[.ref a,.ref b],[]⟩) P E s:=by
 have JV:∀(x:Str) (tx:Tok) (n:Int) (tn:Tok) {Q:Bool->am->Prop},Q aD s->bi (b9 prog w) A (eqBool (.str x tx) (.int n tn)) Q E s:=λx tx n tn Q q=>SeqAt.EqAt.str_int x tx n tn _ _ _ _ q;have JW:∀(x:Str) (tx:Tok) (n:Int) (tn:Tok) {Q:Bool->am->Prop},Q aD s->bi (b9 prog w) A (eqBool (.int n tn) (.str x tx)) Q E s:=λx tx n tn Q q=>SeqAt.EqAt.int_str n tn x tx _ _ _ _ q;have hTb:=hy.typeIs;cases x with
 |inl l=>cases y with
  |inl l2=>
   refine tuple_eq_tree (knd:=Zu prog w) (x:=Gq l) (y:=Gq l2) hx hy ?_;rw[Dm];have:decide ((Sum.inl l:Zo)=Sum.inl l2)=decide (l=l2):=by
    by_cases e:l=l2
    .rw[e];simp
    .rw[eA e,eA λz=>e (Sum.inl.inj z)]
   rw[this]at h;exact h
  |inr p=>
   obtain⟨n,l2⟩:=p;obtain⟨oa,xs,na,ON,_,NA,VR⟩:=hx;refine Ca hy λob ys nb t c TQ _ YA e hc=>?_;have hf:decide ((Sum.inl l:Zo)=dn (n,l2))=aD:=eA λz=>nomatch z;rw[hf]at h;show bi _ _ (isInstance (.ref b) (.type "tuple") >>=_) _ _ s;refine aa (io hTb isSubtype_tuple_tuple ?_);simp only[gh,bq,if_false];refine aa (wpAny_tupleItemsOf ON NA ?_);refine aa (wpAny_tupleItemsOf TQ YA ?_);rw[e];have sy:ys.size=2:=by rw[<-bf,e];rfl
   cases l with
   |nil=>
    generalize hxs:xs.toList=vs at VR;cases VR;have sx:xs.size=0:=by rw[<-bf,hxs];rfl
    simp only[List.zip_nil_left,List.forIn_nil];refine aa (ad ?_);refine ad ?_;show P (.done (.ret (.bool (xs.size==ys.size)))) s;rw[sx,sy];exact h
   |cons x l=>
    generalize hxs:xs.toList=vs at VR;cases VR with
    | @cons _ v _ vs h1 _=>
     rcases Z9 (k:=.inr x) (v:=v) h1 with⟨_,_,z,_⟩|⟨_,tx,z,rfl⟩
     .cases z
     .simp only[List.zip_cons_cons,List.forIn_cons];refine aa (aa (aa (JV _ _ _ _ ?_)));simp only[Bool.not_false,if_true];exact aa (ad (ad (ad (ad h))))
 |inr p=>cases y with
  |inl l=>
   obtain⟨n,l2⟩:=p;refine Ca hx λob ys nb t c TQ _ YA e hc=>?_;obtain⟨oa,xs,na,ON,_,NA,VR⟩:=hy;have hf:decide ((dn (n,l2):Zo)=Sum.inl l)=aD:=eA λz=>nomatch z;rw[hf]at h;show bi _ _ (isInstance (.ref b) (.type "tuple") >>=_) _ _ s;refine aa (io hTb isSubtype_tuple_tuple ?_);simp only[gh,bq,if_false];refine aa (wpAny_tupleItemsOf TQ YA ?_);refine aa (wpAny_tupleItemsOf ON NA ?_);rw[e];have sy:ys.size=2:=by rw[<-bf,e];rfl
   cases l with
   |nil=>
    generalize hxs:xs.toList=vs at VR;cases VR;have sx:xs.size=0:=by rw[<-bf,hxs];rfl
    simp only[List.zip_nil_right,List.forIn_nil];refine aa (ad ?_);refine ad ?_;show P (.done (.ret (.bool (ys.size==xs.size)))) s;rw[sx,sy];exact h
   |cons x l=>
    generalize hxs:xs.toList=vs at VR;cases VR with
    | @cons _ v _ vs h1 _=>
     rcases Z9 (k:=.inr x) (v:=v) h1 with⟨_,_,z,_⟩|⟨_,tx,z,rfl⟩
     .cases z
     .simp only[List.zip_cons_cons,List.forIn_cons];refine aa (aa (aa (JW _ _ _ _ ?_)));simp only[Bool.not_false,if_true];exact aa (ad (ad (ad (ad h))))
  |inr q=>
   obtain⟨n,l⟩:=p;obtain⟨n2,l2⟩:=q;refine Ca hx λoa xs na ta ca ON _ NA ea HW=>?_;refine Ca hy λob ys nb tb cb TQ _ YA eb v9=>?_;show bi _ _ (isInstance (.ref b) (.type "tuple") >>=_) _ _ s;refine aa (io hTb isSubtype_tuple_tuple ?_);simp only[gh,bq,if_false];refine aa (wpAny_tupleItemsOf ON NA ?_);refine aa (wpAny_tupleItemsOf TQ YA ?_);rw[ea,eb];have sx:xs.size=2:=by rw[<-bf,ea];rfl
   have sy:ys.size=2:=by rw[<-bf,eb];rfl
   simp only[List.zip_cons_cons,List.zip_nil_left,List.forIn_cons,List.forIn_nil];refine aa (aa (aa (wpAny_eqBool_int ?_)));by_cases hn:n=n2
   .subst hn;simp only[beq_self_eq_true,gh,bq,if_false];refine ad ?_;dsimp only;refine aa (aa (wpAny_eqBool_tuple (knd:=Zu prog w) hu HW v9 ?_));rw[Dm];by_cases hl:l=l2
    .subst hl;simp only[decide_true,gh,bq,if_false];refine ad (ad (ad ?_));show P (.done (.ret (.bool (xs.size==ys.size)))) s;rw[sx,sy];simpa using h
    .simp only[eA hl,Bool.not_false,if_true];have hf:decide ((dn (n,l):Zo)=dn (n,l2))=aD:=eA λz=>hl (by injection z with z;injection z);rw[hf]at h;exact aa (ad (ad (ad (ad h))))
   .have hb:(n==n2)=aD:=beq_eq_false_iff_ne.mpr hn;simp only[hb,Bool.not_false,if_true];have hf:decide ((dn (n,l):Zo)=dn (n2,l2))=aD:=eA λz=>hn (by injection z with z;injection z);rw[hf]at h;exact aa (ad (ad (ad (ad h))))
theorem AV(hu:A.units+1<ft)(hx:Bc prog w s.heap x a)(hy:Bc prog w s.heap y b)(h:Q (decide (x=y)) s):bi (b9 prog w) A (eqBool (.ref a) (.ref b)) Q E s:=by
 unfold eqBool
 try with_reducible refine f9 ?_
 show bi _ _ (if(ci a==ci b)=aC then _ else _) Q E s;by_cases YU:(ci a==ci b)=aC
 .rw[f_ YU];have e:a=b:=by have:=eq_of_beq YU;injection this
  subst e;obtain rfl:=hx.inj hy;exact aa (wpAny_rule (ad (by simpa using h)))
 .rw[fZ YU];exact aa (wpAny_richCompare_same_room (op:=.Eq) hx.typeIs hy.typeIs F.slot_tuple_eq
   (d5 F.slot_tuple_eq hx.typeIs F.entry_tuple_eq (iC (A:=A.in1) hu hx hy ⟨_,rfl,(λe=>nomatch e),wpAny_truthy_bool h⟩) (F.args_tuple_eq_2 _ _)) (by omega))
theorem Dn(hk:IsTupleKey (Zu prog w) s.heap ks a)(h:Q aC s):bi (b9 prog w) A (eqIsQuiet (m+1) (.ref a)) Q E s:=by
 have hT:=hk.typeIs;obtain⟨o,gV,n,ho,_,hd,hi⟩:=hk;unfold eqIsQuiet;refine aa (wpAny_specialOf hT F.slot_tuple_eq.lookup ?_);show bi _ _ (isInstance (.ref a) (.type "tuple") >>=_) _ _ s;refine aa (io hT isSubtype_tuple_tuple ?_);simp only[gh,bq,if_false];refine aa (wpAny_seqItems ho hd ?_);refine aa ?_;show bi _ _ (forIn gV _ _) _ _ s;rw[<-Array.forIn_toList];refine wpAny_forIn_list _ (λrest r s'=>r.1=aB/\s'=s/\∀v∈rest,carriedByValue v=aC) _ ?_ ?_ _ _ ⟨rfl,rfl,hi.byValue⟩
 .rintro v rest r s' ⟨hr,rfl,hall⟩;rw[eqIsQuiet_byValue _ (hall v ac)];refine aa (ad ?_);simp only[gh,bq,if_false];exact ad ⟨rfl,rfl,λu OI=>hall u (ah _ OI)⟩
 .rintro⟨r1,r2⟩ s' ⟨hr,rfl,_⟩;simp only at hr;subst hr;exact ad h
theorem Lj(hk:Bc prog w s.heap k a)(h:Q aC s):bi (b9 prog w) A (eqIsQuiet 8 (.ref a)) Q E s:=by
 cases k with
 |inl l=>exact Dn hk h
 |inr p=>have hT:=hk.typeIs;obtain⟨n,l⟩:=p;refine Ca hk λo gV m t b ho _ hd hi hb=>?_;unfold eqIsQuiet;refine aa (wpAny_specialOf hT F.slot_tuple_eq.lookup ?_);show bi _ _ (isInstance (.ref a) (.type "tuple") >>=_) _ _ s;refine aa (io hT isSubtype_tuple_tuple ?_);simp only[gh,bq,if_false];refine aa (wpAny_seqItems ho hd ?_);refine aa ?_;show bi _ _ (forIn gV _ _) _ _ s;rw[<-Array.forIn_toList,hi];simp only[List.forIn_cons,List.forIn_nil];rw[eqIsQuiet_byValue _ (v:=Value.int n t) rfl];refine aa (aa (ad ?_));simp only[gh,bq,if_false];refine ad ?_;dsimp only;refine aa (aa (Dn hb ?_));simp only[gh,bq,if_false];exact ad (ad (ad h))
noncomputable def Fc(prog:b8)(w:dq):HeapKind prog w Zo where
 is:=Bc prog w
 hash:=Yl prog w
 draws:=T6
 room:=λA=>A.units+1<ft
 inj:=λhx hy=>hx.inj hy
 keeps:=λx ho hd hs=>x.keeps ho hd hs
 pyHash:=λhu hk h=>yk hu hk h
 eqBool:=λhu hx hy h=>AV hu hx hy h
 quiet:=λhk h=>Lj hk h
inductive V where
 |non|bl (b:Bool)|int (i:Int)|str (x:Str)|byt (b:Array UInt8)|flt (b:UInt64)|ref (a:ao)|ty (n:String)
 deriving DecidableEq
def Zv:V->ag->Prop
 | .non,u=>u=c8
 | .bl b,u=>u=Value.bool b
 | .int i,u=>∃t,u=Value.int i t
 | .str x,u=>∃t,u=Value.str x t
 | .byt b,u=>∃t,u=Value.bytes b t
 | .flt b,u=>∃t,u=Value.float b t
 | .ref a,u=>u=ci a
 | .ty n,u=>u=Value.type n
abbrev Z1:List V->List ag->Prop:=Paired Zv
theorem Z1.length(r:Z1 xs us):xs.length=us.length:=Paired.length r
theorem Z1.get:∀{xs:List V} {us:List ag} {i:Nat} {x:V},Z1 xs us->xs[i]? =aA x->∃u,us[i]? =aA u/\Zv x u
 |_,_,_,_,.nil,e=>by simp at e
 |_,_,0,_,.cons r _,e=>by simp at e;subst e;exact⟨_,rfl,r⟩
 |_,_,i+1,x,.cons _ t,e=>by obtain⟨u,h1,h2⟩:=Z1.get (i:=i) (x:=x) t (by simpa using e);exact⟨u,by simpa using h1,h2⟩
theorem Z1.append:∀{xs ys:List V} {us ws:List ag},Z1 xs us->Z1 ys ws->Z1 (xs++ys) (us++ws)
 |_,_,_,_,.nil,s=>s
 |_,_,_,_,.cons r t,s=>.cons r (Z1.append t s)
theorem Z1.take:∀{xs:List V} {us:List ag} n,Z1 xs us->Z1 (xs.take n) (us.take n)
 |_,_,0,_=>.nil
 |_,_,_+1,.nil=>.nil
 |_,_,n+1,.cons r t=>.cons r (Z1.take n t)
theorem Z1.drop:∀{xs:List V} {us:List ag} n,Z1 xs us->Z1 (xs.drop n) (us.drop n)
 |_,_,0,r=>r
 |_,_,_+1,.nil=>.nil
 |_,_,n+1,.cons _ t=>Z1.drop n t
def Tg:Option V->Option ag->Prop
 |some v,aA u=>Zv v u
 |none,aB=>True
 |_,_=>False
def KV{κ:Type}:List (κ×V)->List (κ×ag)->Prop:=Paired λ(p:κ×V) (q:κ×ag)=>p.1=q.1/\Zv p.2 q.2
noncomputable def kV:Key->V
 | .inl i=>.int i
 | .inr x=>.str x
inductive HO where
 |lst (xs:List V)
 |tup (xs:List V)
 |dK (kvs:List (Key×V)) (ep:Nat)|dT (kvs:List (List Key×V)) (ep:Nat) (bs:List ao)|dN (kvs:List (Zo×V)) (ep:Nat) (bs:List ao)
 |set (S:Int->Bool) (n:Nat)
 |ins (C dx:ao) (fs:List (Str×V))
 |own (x:ao)
 |xd (fs:List (Str×V))
 |met (f x:ao)
 |rng (lo hi:Int)
 |frz (o:Obj) (u:HO)
 |tbl (ps:Array ag)
 |tab (q:Str)
 |ext (φ:f8->Prop)
noncomputable abbrev Hp:=ao->Option HO
noncomputable def Y3(H:Hp)(a:ao)(o:HO):Hp:=λb=>if b=a then aA o else H b
theorem Z2:Y3 H a o a=aA o:=by unfold Y3;rw[f_ rfl]
theorem Zt(h:b≠a):Y3 H a o b=H b:=by unfold Y3;rw[fZ h]
theorem lI:Y3 (Y3 H a o) a u=Y3 H a u:=by funext b;unfold Y3;split<;> rfl
theorem zf{H:Hp}(h:H a=aA o)(h':H b=aA u)(d:o≠u):a≠b:=by intro e;subst e;rw[h]at h';exact d (dg.inj h')
theorem Wa{H:Hp}(h:H a=aA o)(h':H b=aB):a≠b:=by intro e;subst e;rw[h]at h';cases h'
def Jg(H:Hp):Zo->ao->Prop
 | .inl l,b=>H b=aA (.tup ((Gq l).map kV))
 | .inr (n,l),b=>∃c,H b=aA (.tup [.int n,.ref c])/\H c=aA (.tup ((Gq l).map kV))
theorem Jg.mono(h:Jg H k b)(ht:∀b xs,H b=aA (.tup xs)->H' b=aA (.tup xs)):Jg H' k b:=by
 cases k with
 |inl l=>exact ht _ _ h
 |inr p=>obtain⟨c,h1,h2⟩:=h;exact⟨c,ht _ _ h1,ht _ _ h2⟩
section
variable(P:b8)(w:dq)
def Ym(H:Hp)(h:f8)(a:ao):HO->Prop
 | .lst xs=>xs.length<=sizeLine/\∃(gU:List ag) (n:Nat),Z1 xs gU/\h.get? a=aA {cls:=.type "list",data:=.seq gU.toArray n}
 | .tup xs=>xs.length<=sizeLine/\∃gU:List ag,Z1 xs gU/\IsTup h a gU.toArray
 | .dK kvs ep=>kvs.length<=sizeLine/\(a==sysModules)=aD/\∃vs,KV kvs vs/\h.DictAt (Zu P w) a vs ep
 | .dT kvs ep bs=>kvs.length<=sizeLine/\(a==sysModules)=aD/\∃xs:List (List Key×ao×ag),
   Paired (λ(p:List Key×V) (q:List Key×ao×ag)=>p.1=q.1/\H q.2.1=aA (.tup (p.1.map kV))/\Zv p.2 q.2.2) kvs xs/\
   ∃o es,h.get? a=aA o/\o.ExactDict/\o.data= .dict es ep/\es.toList=xs.map (entryOfKey (tupleKind (Zu P w)))/\(xs.map (·.1)).Nodup/\(xs.map λx=>x.2.1)=bs
 | .dN kvs ep bs=>kvs.length<=sizeLine/\(a==sysModules)=aD/\∃xs:List (Zo×ao×ag),
   Paired (λ(p:Zo×V) (q:Zo×ao×ag)=>p.1=q.1/\Jg H p.1 q.2.1/\Zv p.2 q.2.2) kvs xs/\
   ∃o es,h.get? a=aA o/\o.ExactDict/\o.data= .dict es ep/\es.toList=xs.map (entryOfKey (Fc P w))/\(xs.map (·.1)).Nodup/\(xs.map λx=>x.2.1)=bs
 | .set S n=>h.SetOf (intKind P w) a S n
 | .ins C dx fs=>H dx=aA (.own a)/\fs.length<=1000/\dx≠a/\h.get? a=aA (PySem.W.instObj C dx)/\
   ∃mA,h.Ns1 dx mA/\(∀f,Tg (fs.lookup f) (mA f))/\PySem.Within mA (fs.map (·.1))
 | .own _=>∃o,h.get? a=aA o
 | .xd fs=>∃mA,h.Ns1 a mA/\∀f,Tg (fs.lookup f) (mA f)
 | .rng lo hi=>∃t u v,h.get? a=aA {cls:=.type "range",data:=.fields #[.int lo t,.int hi u,.int 1 v]}
 | .frz o u=>h.get? a=aA o/\Ym H h a u
 | .tbl ps=>h.get? a=aA {cls:=.none,data:=.fields ps}
 | .met f x=>h.get? a=aA (PySem.W.methodObj (.ref f) (.ref x))
 | .tab q=>∃ps:Array ag,h.get? a=aA {cls:=.none,data:=.fields ps}/\TriplesOk ps.toList/\∀pos cv,codeAmong pos ps.toList=aA cv->∃c o vs t,cv= .ref c/\H c=aA (.frz o (.own a))/\o.data= .fields vs/\vs[1]? =aA (.str q t)
 | .ext φ=>φ h/\(∃o,h.get? a=aA o)/\∀h1 h2:f8,φ h1->(∀o,h1.get? a=aA o->h2.get? a=aA o)->φ h2
def Gr(H:Hp)(h:f8):Prop:=∀a o,H a=aA o->Ym P w H h a o
end
section
variable{P:b8}{w:dq}{H H':Hp}{h h':f8}{a:ao}{o:HO}
theorem Ym.lt(x:Ym P w H h a o):a<h.objs.size:=by
 cases o with
 |lst xs=>obtain⟨_,_,_,_,e⟩:=x;exact bp e
 |tup xs=>obtain⟨_,_,_,p⟩:=x;exact p.lt
 |dK kvs ep=>obtain⟨_,_,_,_,o,_,e,_⟩:=x;exact bp e
 |dT kvs ep bs=>obtain⟨_,_,_,_,o,_,e,_⟩:=x;exact bp e
 |dN kvs ep bs=>obtain⟨_,_,_,_,o,_,e,_⟩:=x;exact bp e
 |set S n=>obtain⟨o,_,_,_,e,_⟩:=x;exact bp e
 |ins C dx fs=>obtain⟨_,_,_,e,_⟩:=x;exact bp e
 |own y=>obtain⟨_,e⟩:=x;exact bp e
 |xd fs=>obtain⟨_,⟨_,_,_,e,_⟩,_⟩:=x;exact bp e
 |rng lo hi=>obtain⟨_,_,_,e⟩:=x;exact bp e
 |frz ob u=>obtain⟨e,_⟩:=x;exact bp e
 |tbl ps=>exact bp (show h.get? a=aA _ from x)
 |met f y=>exact bp (show h.get? a=aA _ from x)
 |tab q=>obtain⟨_,e,_⟩:=x;exact bp e
 |ext φ=>obtain⟨_,⟨_,e⟩,_⟩:=x;exact bp e
theorem Paired.mapP{P':List α}{l₂:List β}(h:Paired F P' l₂)(f:∀a b,F a b->G a b):Paired G P' l₂:=by
 induction h with
 |nil=>exact .nil
 |cons r _ ih=>exact .cons (f _ _ r) ih
theorem Ym.stay(x:Ym P w H h a o)(k:∀b u,(b=a\/H b=aA (.own a))->h.get? b=aA u->h'.get? b=aA u)(ho:∀b,H b=aA (.own a)->H' b=aA (.own a))(ht:∀b xs,H b=aA (.tup xs)->H' b=aA (.tup xs))(hz:∀b o,H b=aA (.frz o (.own a))->H' b=aA (.frz o (.own a))):Ym P w H' h' a o:=by
 induction o with
 |lst xs=>obtain⟨z,gU,n,r,e⟩:=x;exact⟨z,gU,n,r,k _ _ (.inl rfl) e⟩
 |tup xs=>obtain⟨z,gU,r,ob,e,c⟩:=x;exact⟨z,gU,r,ob,k _ _ (.inl rfl) e,c⟩
 |dK kvs ep=>obtain⟨z,y,vs,r,ob,es,e,c⟩:=x;exact⟨z,y,vs,r,ob,es,k _ _ (.inl rfl) e,c⟩
 |dT kvs ep bs=>obtain⟨z,y,xs,r,ob,es,e,c⟩:=x;exact⟨z,y,xs,Paired.mapP r λp q z=>⟨z.1,ht _ _ z.2.1,z.2.2⟩,ob,es,k _ _ (.inl rfl) e,c⟩
 |dN kvs ep bs=>obtain⟨z,y,xs,r,ob,es,e,c⟩:=x;exact⟨z,y,xs,Paired.mapP r λp q z=>⟨z.1,z.2.1.mono ht,z.2.2⟩,ob,es,k _ _ (.inl rfl) e,c⟩
 |set S n=>obtain⟨ob,es,ep,t,e,c⟩:=x;exact⟨ob,es,ep,t,k _ _ (.inl rfl) e,c⟩
 |ins C dx fs=>obtain⟨d,z,ne,e,mA,⟨od,es,ep,e2,c⟩,r⟩:=x;exact⟨ho _ d,z,ne,k _ _ (.inl rfl) e,mA,⟨od,es,ep,k _ _ (.inr d) e2,c⟩,r⟩
 |own y=>obtain⟨ob,e⟩:=x;exact⟨ob,k _ _ (.inl rfl) e⟩
 |xd fs=>obtain⟨mA,⟨od,es,ep,e,c⟩,r⟩:=x;exact⟨mA,⟨od,es,ep,k _ _ (.inl rfl) e,c⟩,r⟩
 |rng lo hi=>obtain⟨t,u,v,e⟩:=x;exact⟨t,u,v,k _ _ (.inl rfl) e⟩
 |frz ob u ih=>obtain⟨e,q⟩:=x;exact⟨k _ _ (.inl rfl) e,ih q⟩
 |tbl ps=>have e:h.get? a=aA {cls:=.none,data:=.fields ps}:=x;show h'.get? a=aA {cls:=.none,data:=.fields ps};exact k a _ (.inl rfl) e
 |met f y=>have e:h.get? a=aA (PySem.W.methodObj (.ref f) (.ref y)):=x;show h'.get? a=aA (PySem.W.methodObj (.ref f) (.ref y));exact k a _ (.inl rfl) e
 |tab q=>refine Zn x λps e t c=>?_;refine⟨ps,k _ _ (.inl rfl) e,t,λpos cv z=>?_⟩;refine Q1 (c pos cv z) λc1 o1 vs tt e1 e2 r=>?_;exact⟨c1,o1,vs,tt,e1,hz _ _ e2,r⟩
 |ext φ=>obtain⟨p,⟨o,e⟩,st⟩:=x;exact⟨st _ _ p λo q=>k _ _ (.inl rfl) q,⟨o,k _ _ (.inl rfl) e⟩,st⟩
theorem Gr.lt(x:Gr P w H h)(e:H a=aA o):a<h.objs.size:=(x a o e).lt
theorem Gr.fresh(x:Gr P w H h)(e:h.objs.size<=a):H a=aB:=by
 cases q:H a with
 |none=>rfl
 |some u=>exact eF (df (x.lt q) e) (Nat.lt_irrefl _)
theorem Gr.kept(x:Gr P w H h)(k:∀b u,h.get? b=aA u->h'.get? b=aA u):Gr P w H h':=λa o e=>
 (x a o e).stay (λb u _ q=>k b u q) (λ_ q=>q) (λ_ _ q=>q) λ_ _ q=>q
theorem Gr.laid(x:Gr P w H h)(k:∀b u,h.get? b=aA u->h'.get? b=aA u)(hp:h.objs.size<=a)(new:Ym P w (Y3 H a o) h' a o):Gr P w (Y3 H a o) h':=λb u e=>by
 have hn:=x.fresh hp;by_cases hb:b=a
 .subst hb;rw[Z2]at e;cases e;exact new
 .rw[Zt hb]at e;exact(x b u e).stay (λc v _ q=>k c v q) (λc q=>by rw[Zt (Wa q hn)];exact q) (λc xs q=>by rw[Zt (Wa q hn)];exact q) λc o q=>by rw[Zt (Wa q hn)];exact q
end
def Rd(H:Hp)(a:ao)(u:HO):Prop:=H a=aA u\/∃o,H a=aA (.frz o u)
theorem Rd.ok(r:Rd H a u)(x:Gr P w H h):Ym P w H h a u:=by
 rcases r with r|⟨o,r⟩
 .exact x a u r
 .obtain⟨_,q⟩:=x a _ r;exact q
def HK(H:Hp)(a:ao)(kvs:List (Key×V)):Prop:=∃ep,H a=aA (.dK kvs ep)
def HTt(H:Hp)(a:ao)(kvs:List (List Key×V)):Prop:=∃ep bs,H a=aA (.dT kvs ep bs)
def RdK(H:Hp)(a:ao)(kvs:List (Key×V)):Prop:=∃ep,Rd H a (.dK kvs ep)
def RdT(H:Hp)(a:ao)(kvs:List (List Key×V)):Prop:=∃ep bs,Rd H a (.dT kvs ep bs)
theorem HK.rd(h:HK H a kvs):RdK H a kvs:=let⟨ep,h⟩:=h;⟨ep,.inl h⟩
noncomputable def Pj(kvs:List (List Key×V))(bs:List ao)(k:List Key)(b:ao):List Addr:=if(kvs.any λkv=>decide (kv.1=k))=aC then bs else bs++[b]
theorem HTt.rd(h:HTt H a kvs):RdT H a kvs:=let⟨ep,bs,h⟩:=h;⟨ep,bs,.inl h⟩
def Mut:Option HO->Prop
 |some (.lst _)=>True
 |some (.dK _ _)=>True
 |some (.dT _ _ _)=>True
 |some (.dN _ _ _)=>True
 |some (.set _ _)=>True
 |some (.ins _ _ _)=>True
 |some (.ext _)=>True
 |_=>False
theorem Gr.write(ok:Gr P w H h)(mu:Mut (H x))(he:e=x\/H e=aA (.own x))(k:∀b u,b≠e->h.get? b=aA u->h'.get? b=aA u)(QL:∃u,h'.get? e=aA u)(new:Ym P w (Y3 H x o') h' x o'):Gr P w (Y3 H x o') h':=λb u q=>by
 have PV:∀c y,H c=aA (.own y)->c≠x:=λc y r z=>by subst z;rw[r]at mu;exact mu
 have JQ:∀c xs,H c=aA (.tup xs)->c≠x:=λc xs r z=>by subst z;rw[r]at mu;exact mu
 by_cases hb:b=x
 .subst hb;rw[Z2]at q;cases q;exact new
 .rw[Zt hb]at q;by_cases hbe:b=e
  .have q':H b=aA (.own x):=by
    rcases he with z|z
    .exact eF (hbe.trans z) hb
    .rw[hbe];exact z
   rw[q]at q';cases q';obtain⟨v,hv⟩:=QL;exact⟨v,by rw[hbe];exact hv⟩
  .refine(ok b u q).stay (λc v hc r=>k c v ?_ r) (λc r=>by rw[Zt (PV c b r)];exact r) (λc xs r=>by rw[Zt (JQ c xs r)];exact r) λc o r=>by rw[Zt (λz=>by subst z;rw[r]at mu;exact mu)];exact r
   rcases hc with rfl|hc
   .exact hbe
   .rintro rfl;rcases he with z|z
    .exact PV c b hc z
    .rw[hc]at z;cases z;exact hb rfl
structure Un(fs ex:List ao)(H H':Hp)(h h':f8):Prop where
 keep:∀b o,h.get? b=aA o->H b=aB->b∉fs->b∉ex->h'.get? b=aA o
 slot:∀b o,h.get? b=aA o->H b=aB->b∈fs->b∉ex->∃sl,h'.get? b=aA {o with slots:=sl}
 free:∀b o,h.get? b=aA o->H b=aB->b∉ex->H' b=aB
 there:∀b o,h.get? b=aA o->b∉ex->∃o',h'.get? b=aA o'
 tups:∀b xs,H b=aA (.tup xs)->H' b=aA (.tup xs)
 frzs:∀b o u,H b=aA (.frz o u)->H' b=aA (.frz o u)
 tbls:∀b ps,H b=aA (.tbl ps)->∃more,H' b=aA (.tbl (ps++more))
section
variable{fs ip ex iq:List ao}{H H1 H2:Hp}{h h1 h2 h':f8}{a x e:ao}{o:HO}
theorem Un.any(u:Un fs ex H H1 h h1)(q:h.get? b=aA ob)(n:H b=aB)(hx:b∉ex):∃sl,h1.get? b=aA {ob with slots:=sl}:=by
 by_cases hb:b∈fs
 .exact u.slot b ob q n hb hx
 .exact⟨ob.slots,u.keep b ob q n hb hx⟩
theorem Un.kept(k:∀b u,h.get? b=aA u->h'.get? b=aA u):Un fs ex H H h h':=
 ⟨λb ob q _ _ _=>k b ob q,λb ob q _ _ _=>⟨ob.slots,k b ob q⟩,λ_ _ _ n _=>n,λb ob q _=>⟨ob,k b ob q⟩,λ_ _ q=>q,λ_ _ _ q=>q,λ_ ps q=>⟨#[],by rw[q];simp⟩⟩
theorem Un.refl:Un fs ex H H h h:=Un.kept λ_ _ q=>q
theorem Un.laid(k:∀b u,h.get? b=aA u->h'.get? b=aA u)(hp:h.objs.size<=a)(hn:H a=aB):Un fs ex H (Y3 H a o) h h' where
 keep:=λb u q _ _ _=>k b u q
 slot:=λb u q _ _ _=>⟨u.slots,k b u q⟩
 free:=λb u q n _=>by rw[Zt (cm (df (bp q) hp))];exact n
 there:=λb u q _=>⟨u,k b u q⟩
 tups:=λb xs q=>by rw[Zt (Wa q hn)];exact q
 frzs:=λb u xs q=>by rw[Zt (Wa q hn)];exact q
 tbls:=λb ps q=>⟨#[],by rw[Zt (Wa q hn),q];simp⟩
theorem Un.write(mu:Mut (H x))(he:e=x\/H e=aA (.own x))(k:∀b u,b≠e->h.get? b=aA u->h'.get? b=aA u)(QL:∃u,h'.get? e=aA u):Un fs ex H (Y3 H x o) h h':=by
 have hx:∀b,H b=aB->b≠x:=λb n z=>by subst z;rw[n]at mu;exact mu
 have hb:∀b,H b=aB->b≠e:=λb n z=>by
  subst z;rcases he with r|r
  .exact hx b n r
  .rw[n]at r;cases r
 have hm:∀b u,H b=aA u->¬Mut (aA u)->b≠x:=λb u q nm z=>by subst z;rw[q]at mu;exact nm mu
 refine⟨λb u q n _ _=>k b u (hb b n) q,λb u q n _ _=>⟨u.slots,k b u (hb b n) q⟩,λb u q n _=>by rw[Zt (hx b n)];exact n,λb u q _=>?_,
  λb xs q=>by rw[Zt (hm b _ q λz=>z)];exact q,λb u xs q=>by rw[Zt (hm b _ q λz=>z)];exact q,λb ps q=>⟨#[],by rw[Zt (hm b _ q λz=>z),q];simp⟩⟩
 by_cases hbe:b=e
 .subst hbe;exact QL
 .exact⟨u,k b u hbe q⟩
end
noncomputable def trk(h:f8)(H:Hp):List Addr:=(cr h.objs.size).filter λa=>(H a).isSome
noncomputable def Ip(h:f8)(H:Hp):Heap:=PySem.W.hideAll h (trk h H)
theorem iB(h H):(Ip h H).objs.size=h.objs.size:=PySem.W.hideAll_size _ _
theorem kx(e:h.get? b=aA o)(n:H b=aB):(Ip h H).get? b=aA o:=
 PySem.W.hideAll_get _ e λhm=>by have q:(H b).isSome=aC:=(List.mem_filter.mp hm).2;rw[n]at q;simp at q
theorem mY(e:(Ip h H).get? b=aA o):h.get? b=aA o/\H b=aB:=by
 have e':h.get? b=aA o:=PySem.W.of_hideAll (trk h H) e;refine⟨e',?_⟩;cases q:H b with
 |none=>rfl
 |some x=>have hm:b∈trk h H:=List.mem_filter.mpr ⟨cq.mpr (bp e'),by simp[q]⟩;have z:(Ip h H).get? b=aB:=PySem.W.hideAll_none (trk h H) hm;rw[z]at e;cases e
noncomputable def mX(g h:f8)(L:ao):List (ao×Obj):=(cr h.objs.size).filterMap λa=>if a=L\/(g.get? a).isSome=aC then aB else(h.get? a).map λo=>(a,o)
def rest(g h:f8)(L d:ao):List (ao×Obj):=(mX g h L).filter λp=>decide (p.1≠d)
structure Mod(K:af)(mg:Str->Option ag)(base:f8):Prop where
 kin:K.In base
 glob:base.Ns mainGlobals mg
 blt:∃mb,base.Ns builtinsNs mb/\∀x:Str,x≠"__name__"->mb x=bootBuiltins x
 nolimit:base.NoLimit
set_option genInjectivity false in
structure Cx where
 prog:b8
 w:dq
 K:af
 mg:Str->Option ag
 base:f8
 A:c7
 N:List Str
 s₀:am
 H₀:Hp
 env:Env
 outer:List Env
 stack:List Env
 ex:List ao
 fn:Str->Bool
 calm:Bool
 pn:List (ao×Obj)
 xe:ag->am->Prop
noncomputable def frs(l:List Env):List Addr:=l.filterMap (·.frame)
abbrev Cx.fs(X:Cx):List Addr:=frs X.outer
def V7(sc:Scope)(x:Str):Prop:=sc.names.lookup x=aA .local\/sc.names.lookup x=aA .cell\/sc.names.lookup x=aA .free
def Loc(sc:Scope)(x:Str):Prop:=sc.names.lookup x=aA .local\/sc.names.lookup x=aA .cell
def AU(env:Env)(h:f8)(m:Str->Option ag)(x:Str)(u:ag):Prop:=
 (env.kindOf x=aA .local/\m x=aA u)\/((env.kindOf x=aA .cell\/env.kindOf x=aA .free)/\∃c,env.cells.lookup x=aA c/\h.IsCell c (aA u))
set_option genInjectivity false in
structure Cx.Ok(X:Cx):Prop where
 mod:Mod X.K X.mg X.base
 kind:X.env.scope.kind= .function
 glob:X.env.globals=mainGlobals
 blt:X.env.builtins=builtinsNs
 above:X.s₀.heap.objs.size<=X.env.locals
 inj:∀x y c,X.env.cells.lookup x=aA c->X.env.cells.lookup y=aA c->x=y
 has:∀x,(X.env.kindOf x=aA .cell\/X.env.kindOf x=aA .free)->∃c,X.env.cells.lookup x=aA c
 cab:∀x c,X.fn x=aC->X.env.cells.lookup x=aA c->X.s₀.heap.objs.size<=c
 hd:X.calm=aC->X.A.handled=aB
 frames:X.A.frames=aA X.stack
 stk:X.stack=X.outer\/(X.stack=X.env::X.outer/\X.env.frame=aA X.env.locals)
 exf:∀b∈X.ex,b≠X.env.locals/\∀x c,X.env.cells.lookup x=aA c->c≠b
 bs:∀b o,X.base.get? b=aA o->X.s₀.heap.get? b=aA o/\X.H₀ b=aB
 bsz:X.base.objs.size<=X.s₀.heap.objs.size
 noex:∀b o,X.base.get? b=aA o->b∉X.ex
 exfs:∀b∈X.ex,b∉X.fs
 funs:X.s₀.heap.FunFrames X.base X.outer
 frf:∀b∈X.fs,X.H₀ b=aB
structure gY(X:Cx)(gR:List (ao×Obj))(σ:List (Option V))(H:Hp)(s:am):Prop where
 ok:X.Ok
 os:s.os=X.s₀.os
 bare:AllBare s.gens
 base:Un X.fs X.ex X.H₀ H X.s₀.heap s.heap
 loc:∃m,s.heap.Ns X.env.locals m/\∀(i:Nat) (x:Str) (v:V),X.N[i]? =aA x->σ[i]? =aA (aA v)->V7 X.env.scope x->∃u,Zv v u/\AU X.env s.heap m x u
 cell:∀x c,X.env.cells.lookup x=aA c->∃v,s.heap.IsCell c v
 free:H X.env.locals=aB
 freeC:∀x c,X.env.cells.lookup x=aA c->H c=aB
 pin:∀p∈X.pn++gR,s.heap.get? p.1=aA p.2/\H p.1=aB/\p.1≠X.env.locals/\p.1∉X.fs/\∀v,p.2.data≠.cell v
 hok:Gr X.prog X.w H s.heap
 len:σ.length=X.N.length
section
variable{X:Cx}{gR:List (ao×Obj)}{σ:List (Option V)}{H H':Hp}{s:am}{h':f8}
theorem Cx.Ok.nofr(ok:X.Ok)(e:X.base.get? b=aA o):b∉X.fs:=λhb=>by have:=(ok.funs.mem hb).1;rw[e]at this;cases this
theorem gY.bs(I:gY X gR σ H s):∀b o,X.base.get? b=aA o->s.heap.get? b=aA o/\H b=aB:=λb o e=>
 ⟨I.base.keep b o (I.ok.bs b o e).1 (I.ok.bs b o e).2 (I.ok.nofr e) (I.ok.noex b o e),I.base.free b o (I.ok.bs b o e).1 (I.ok.bs b o e).2 (I.ok.noex b o e)⟩
theorem gY.bk(I:gY X gR σ H s):∀b o,X.base.get? b=aA o->s.heap.get? b=aA o:=λb o e=>(I.bs b o e).1
theorem gY.mod(I:gY X gR σ H s):Mod X.K X.mg X.base:=I.ok.mod
theorem gY.kIn(I:gY X gR σ H s):X.K.In s.heap:=I.ok.mod.kin.keeps I.bk
theorem gY.nolimit(I:gY X gR σ H s):s.heap.NoLimit:=I.ok.mod.nolimit.keeps I.bk
theorem gY.lt(I:gY X gR σ H s):X.env.locals<s.heap.objs.size:=let⟨_,hn,_⟩:=I.loc;hn.lt
theorem gY.sz(I:gY X gR σ H s):X.s₀.heap.objs.size<=s.heap.objs.size:=dv I.ok.above (Nat.le_of_lt I.lt)
theorem gY.nofs(I:gY X gR σ H s){a:ao}(h:s.heap.objs.size<=a):a∉X.fs:=λhb=>by obtain⟨_,o,ho,_⟩:=I.ok.funs.mem hb;exact eF (df (bp ho) (dv I.sz h)) (Nat.lt_irrefl _)
theorem gY.cne(I:gY X gR σ H s):∀x c,X.env.cells.lookup x=aA c->c≠X.env.locals:=λx c e z=>by refine Wq (I.cell x c e) λv o ho hd=>?_;obtain⟨m,⟨o',es,ep,XA,XG,_⟩,_⟩:=I.loc;rw[z,XA]at ho;cases ho;rw[XG]at hd;cases hd
theorem gY.funs(I:gY X gR σ H s):s.heap.FunFrames X.base X.outer:=by
 have all:∀(l:List Env),(∀b∈frs l,b∈X.fs)->X.s₀.heap.FunFrames X.base l->s.heap.FunFrames X.base l:=by
  intro l;induction l with
  |nil=>intro _ _;trivial
  |cons env r ih=>intro hs hl;obtain⟨hk,⟨L,o,hf,hn,ho,hd⟩,hr⟩:=hl;have hL:L∈X.fs:=hs L (by unfold frs;rw[List.filterMap_cons,hf];exact ac);obtain⟨sl,e⟩:=I.base.slot L o ho (I.ok.frf L hL) hL λz=>I.ok.exfs L z hL;exact⟨hk,⟨L,_,hf,hn,e,hd⟩,ih (λb hb=>hs b (by unfold frs;rw[List.filterMap_cons,hf];exact ah _ hb)) hr⟩
 exact all X.outer (λ_ hb=>hb) I.ok.funs
theorem gY.stack(I:gY X gR σ H s):s.heap.FunFrames X.base X.stack:=by
 rcases I.ok.stk with e|⟨e,hf⟩
 .rw[e];exact I.funs
 .rw[e];obtain⟨m,hn,_⟩:=I.loc;refine .cons (by rw[I.ok.kind];decide) hf hn ?_ I.funs;exact Heap.get?_none_of_le (dv I.ok.bsz I.ok.above)
theorem gY.stkSub(I:gY X gR σ H s):∀b∈frs X.stack,b∈X.env.locals::X.fs:=λb hb=>by
 rcases I.ok.stk with e|⟨e,hf⟩
 .rw[e]at hb;exact ah _ hb
 .rw[e]at hb;unfold frs at hb;rw[List.filterMap_cons,hf]at hb;exact hb
theorem gY.stkFree(I:gY X gR σ H s):∀b∈frs X.stack,H b=aB:=λb hb=>by
 rcases bj.mp (I.stkSub b hb)with e|hb
 .rw[e];exact I.free
 .obtain⟨_,o,ho,_⟩:=I.ok.funs.mem hb;exact I.base.free b o ho (I.ok.frf b hb) λz=>I.ok.exfs b z hb
theorem gY.step{d'}{ch:List ao}(I:gY X gR σ H s)(WC:∀b∈ch,(b∈X.ex\/X.s₀.heap.objs.size<=b)/\b≠X.env.locals/\(∀x c,X.env.cells.lookup x=aA c->c≠b)/\∀p∈X.pn++gR,p.1≠b)(keep:∀b o,b≠X.env.locals->b∉X.fs->b∉ch->s.heap.get? b=aA o->H b=aB->h'.get? b=aA o)(slot:∀b o,b≠X.env.locals->b∈X.fs->b∉ch->s.heap.get? b=aA o->H b=aB->∃sl,h'.get? b=aA {o with slots:=sl})(free:∀b o,b∉ch->s.heap.get? b=aA o->H b=aB->H' b=aB)(there:∀b o,b∉ch->s.heap.get? b=aA o->∃o',h'.get? b=aA o')(tups:∀b xs,H b=aA (.tup xs)->H' b=aA (.tup xs))(frzs:∀b o u,H b=aA (.frz o u)->H' b=aA (.frz o u))(tbls:∀b ps,H b=aA (.tbl ps)->∃more,H' b=aA (.tbl (ps++more)))(ns:∀m,s.heap.Ns X.env.locals m->h'.Ns X.env.locals m)(hok:Gr X.prog X.w H' h')(hg:AllBare g'):
  gY X gR σ H' {s with heap:=h',gens:=g',drawn:=d',toks:=t'}:=by
 have DR:∀b o,X.s₀.heap.get? b=aA o->b≠X.env.locals:=λb o e=>cm (df (bp e) I.ok.above);have MN:∀b o,X.s₀.heap.get? b=aA o->b∉X.ex->b∉ch:=λb o e hx hb=>by
  rcases(WC b hb).1 with z|z
  .exact hx z
  .exact eF (df (bp e) z) (Nat.lt_irrefl _)
 have SC:∀x c,X.env.cells.lookup x=aA c->∀v,s.heap.IsCell c v->h'.IsCell c v:=λx c e v ⟨o,ho,hd⟩=>by
  have P_:c∉ch:=λz=>(WC c z).2.2.1 x c e rfl;by_cases hc:c∈X.fs
  .obtain⟨sl,q⟩:=slot c o (I.cne x c e) hc P_ ho (I.freeC x c e);exact⟨_,q,hd⟩
  .exact⟨o,keep c o (I.cne x c e) hc P_ ho (I.freeC x c e),hd⟩
 refine⟨I.ok,I.os,hg,⟨λb o e n hb hx=>?_,λb o e n hb hx=>?_,λb o e n hx=>?_,λb o e hx=>?_,λb xs e=>tups b xs (I.base.tups b xs e),λb o xs e=>frzs b o xs (I.base.frzs b o xs e),λb ps e=>?_⟩,?_,λx c e=>?_,?_,λx c e=>?_,λp hp=>?_,hok,I.len⟩
 .exact keep b o (DR b o e) hb (MN b o e hx) (I.base.keep b o e n hb hx) (I.base.free b o e n hx)
 .obtain⟨sl,e1⟩:=I.base.slot b o e n hb hx;obtain⟨wT,e2⟩:=slot b _ (DR b o e) hb (MN b o e hx) e1 (I.base.free b o e n hx);exact⟨wT,e2⟩
 .obtain⟨o',e1⟩:=I.base.there b o e hx;exact free b o' (MN b o e hx) e1 (I.base.free b o e n hx)
 .obtain⟨o',e1⟩:=I.base.there b o e hx;exact there b o' (MN b o e hx) e1
 .obtain⟨m1,e1⟩:=I.base.tbls b ps e;obtain⟨m2,e2⟩:=tbls b _ e1;exact⟨m1++m2,by rw[e2,Array.append_assoc]⟩
 .obtain⟨m,hn,hl⟩:=I.loc;refine⟨m,ns m hn,λi x v e1 e2 e3=>?_⟩;obtain⟨u,r,l⟩:=hl i x v e1 e2 e3;refine⟨u,r,?_⟩;rcases l with l|⟨k,c,e,z⟩
  .exact .inl l
  .exact .inr ⟨k,c,e,SC x c e _ z⟩
 .obtain⟨v,z⟩:=I.cell x c e;exact⟨v,SC x c e v z⟩
 .obtain⟨m,⟨o,_,_,ho,_⟩,_⟩:=I.loc;exact free _ o (λz=>(WC _ z).2.1 rfl) ho I.free
 .refine Wq (I.cell x c e) λv o ho hd=>?_;exact free c o (λz=>(WC c z).2.2.1 x c e rfl) ho (I.freeC x c e)
 .obtain⟨e,n,ne,nf,d⟩:=I.pin p hp;have P_:p.1∉ch:=λz=>(WC p.1 z).2.2.2 p hp rfl;exact⟨keep p.1 p.2 ne nf P_ e n,free p.1 p.2 P_ e n,ne,nf,d⟩
theorem gY.un(I:gY X gR σ H s)(u:Un X.fs [] H H' s.heap h')(hok:Gr X.prog X.w H' h'):gY X gR σ H' {s with heap:=h',toks:=t'}:=by
 obtain⟨m,⟨o,es,ep,ho,r⟩,_⟩:=id I.loc;obtain⟨sl,hL⟩:=u.any ho I.free (by simp);exact I.step (g':=s.gens) (d':=s.drawn) (ch:=[]) (λ_ z=>nomatch z) (λb o _ hb _ e n=>u.keep b o e n hb (by simp)) (λb o _ hb _ e n=>u.slot b o e n hb (by simp)) (λb o _ e n=>u.free b o e n (by simp)) (λb o _ e=>u.there b o e (by simp)) u.tups u.frzs u.tbls (λm' hm=>by
  obtain⟨o',NG,ep',XA,r'⟩:=hm;rw[ho]at XA;cases XA;exact⟨_,NG,ep',hL,r'⟩) hok I.bare
theorem gY.call(I:gY X gR σ H s)(u:Un (frs X.stack) ch H H' s.heap h')(hok:Gr X.prog X.w H' h')(hg:AllBare g')(WC:∀b∈ch,(b∈X.ex\/X.s₀.heap.objs.size<=b)/\b≠X.env.locals/\(∀x c,X.env.cells.lookup x=aA c->c≠b)/\∀p∈X.pn++gR,p.1≠b):
  gY X gR σ H' {s with heap:=h',gens:=g',drawn:=d',toks:=t'}:=by
 obtain⟨m,⟨o,es,ep,ho,r⟩,_⟩:=id I.loc;obtain⟨sl,hL⟩:=u.any ho I.free λz=>(WC _ z).2.1 rfl;exact I.step (ch:=ch) WC (λb o hL hb hc e n=>u.keep b o e n (λz=>(bj.mp (I.stkSub b z)).elim hL hb) hc) (λb o _ _ hc e n=>u.any e n hc) (λb o hc e n=>u.free b o e n hc) (λb o hc e=>u.there b o e hc) u.tups u.frzs u.tbls (λm' hm=>by
  obtain⟨o',NG,ep',XA,r'⟩:=hm;rw[ho]at XA;cases XA;exact⟨_,NG,ep',hL,r'⟩) hok hg
theorem gY.turned(I:gY X gR σ H s)(k:∀b o,b≠it->s.heap.get? b=aA o->h'.get? b=aA o)(hn:H it=aB)(hL:it≠X.env.locals)(h1:it∈X.ex\/X.s₀.heap.objs.size<=it)(h2:∀x c,X.env.cells.lookup x=aA c->c≠it)(h3:∀p∈X.pn++gR,p.1≠it):gY X gR σ H {s with heap:=h',toks:=t'}:=by
 have DP:∀b u,H b=aA u->b≠it:=λb u e z=>by rw[z,hn]at e;cases e
 refine I.step (g':=s.gens) (d':=s.drawn) (ch:=[it]) (λb hb=>?_) (λb o _ _ hc e _=>k b o (λz=>hc (by simp[z])) e) (λb o _ _ hc e _=>⟨o.slots,k b o (λz=>hc (by simp[z])) e⟩) (λ_ _ _ _ n=>n)
  (λb o hc e=>⟨o,k b o (λz=>hc (by simp[z])) e⟩) (λ_ _ e=>e) (λ_ _ _ e=>e) (λb ps e=>⟨#[],by rw[e];simp⟩) (λm hm=>?_) (λb u e=>?_) I.bare
 .have e:b=it:=by simpa using hb
  subst e;exact⟨h1,hL,h2,h3⟩
 .obtain⟨o,es,ep,ho,r⟩:=hm;exact⟨o,es,ep,k _ o (Ne.symm hL) ho,r⟩
 .refine(I.hok b u e).stay (λc v hc q=>k c v ?_ q) (λ_ q=>q) (λ_ _ q=>q) λ_ _ q=>q;rcases hc with z|z
  .rw[z];exact DP b u e
  .exact DP c _ z
theorem gY.tok(I:gY X gR σ H s)(t):gY X gR σ H {s with toks:=t}:=I.un (h':=s.heap) (t':=t) Un.refl I.hok
theorem gY.kept(I:gY X gR σ H s)(k:∀b u,s.heap.get? b=aA u->h'.get? b=aA u):gY X gR σ H {s with heap:=h',toks:=t'}:=I.un (Un.kept k) (I.hok.kept k)
theorem gY.laid{a:ao}(I:gY X gR σ H s)(k:∀b u,s.heap.get? b=aA u->h'.get? b=aA u)(hp:s.heap.objs.size<=a)(new:Ym X.prog X.w (Y3 H a o) h' a o):
  gY X gR σ (Y3 H a o) {s with heap:=h',toks:=t'}:=I.un (Un.laid k hp (I.hok.fresh hp)) (I.hok.laid k hp new)
theorem gY.write(I:gY X gR σ H s)(mu:Mut (H x))(he:e=x\/H e=aA (.own x))(k:∀b u,b≠e->s.heap.get? b=aA u->h'.get? b=aA u)(QL:∃u,h'.get? e=aA u)(new:Ym X.prog X.w (Y3 H x o) h' x o):gY X gR σ (Y3 H x o) {s with heap:=h',toks:=t'}:=I.un (Un.write mu he k QL) (I.hok.write mu he k QL new)
theorem gY.pins_of(I:gY X gR σ H s)(h:∀p∈pins',s.heap.get? p.1=aA p.2/\H p.1=aB/\p.1≠X.env.locals/\p.1∉X.fs/\∀v,p.2.data≠.cell v):gY X pins' σ H s:=
 ⟨I.ok,I.os,I.bare,I.base,I.loc,I.cell,I.free,I.freeC,λp hp=>(bz.mp hp).elim (λz=>I.pin p (cg _ z)) (h p),I.hok,I.len⟩
theorem Pk{N:List Str}(hN:N.Nodup){i:Nat}(a:N[i]? =aA x)(b:N[j]? =aA x):i=j:=by obtain⟨h1,e1⟩:=az.mp a;obtain⟨h2,e2⟩:=az.mp b;exact(List.getElem_inj hN).mp (e1.trans e2.symm)
theorem Fd(I:gY X gR σ H s)(hN:X.N.Nodup)(hi:X.N[i]? =aA x)(hx:Loc X.env.scope x)(r:Zv v u)(h:∀s',gY X gR (σ.set i (aA v)) H s'->(∃a,g6 a s.heap s'.heap/\(a=X.env.locals\/X.env.cells.lookup x=aA a))->Q () s')(hf:‹X.fn x=aC\/X.env.scope.names.lookup x=aA .local›):bi M A (storeName X.env x u) Q E s:=by
 obtain⟨m,hn,hl⟩:=id I.loc;have HU:(X.env.scope.kind== .class|| (X.env.scope.kind== .module&&X.env.locals !=X.env.globals))=aD:=by rw[I.ok.kind];rfl
 have OU:i<σ.length:=by rw[I.len];exact(az.mp hi).1
 have cne:=I.cne;have WL:∀{a:ao} {h':f8},(∃o,s.heap.get? a=aA o/\H a=aB)->g6 a s.heap h'->Gr X.prog X.w H h':=fun{a h'} ha hs b ob e=>by
  obtain⟨_,_,XF⟩:=ha;refine(I.hok b ob e).stay (λc w' hc q=>(hs.2 c ?_).trans q) (λ_ q=>q) (λ_ _ q=>q) λ_ _ q=>q;rintro rfl;rcases hc with rfl|hc
  .rw[XF]at e;cases e
  .rw[XF]at hc;cases hc
 rcases hx with hk|hk
 .refine wpAny_storeName_local hk hn (λh' CL hs=>?_) HU;obtain⟨oL,_,_,XX,_⟩:=id hn;refine h _ ⟨I.ok,I.os,I.bare,⟨λb o e n hb hx=>?_,λb o e n hb hx=>?_,I.base.free,λb o e hx=>?_,I.base.tups,I.base.frzs,I.base.tbls⟩,⟨_,CL,λj y v' e1 e2 e3=>?_⟩,λy c e=>?_,I.free,I.freeC,λp hp=>?_,WL ⟨oL,XX,I.free⟩ hs,by simpa using I.len⟩ ⟨_,hs,.inl rfl⟩
  .exact(hs.2 b (cm (df (bp e) I.ok.above))).trans (I.base.keep b o e n hb hx)
  .obtain⟨sl,e1⟩:=I.base.slot b o e n hb hx;exact⟨sl,(hs.2 b (cm (df (bp e) I.ok.above))).trans e1⟩
  .obtain⟨o',e1⟩:=I.base.there b o e hx;exact⟨o',(hs.2 b (cm (df (bp e) I.ok.above))).trans e1⟩
  .by_cases hj:j=i
   .subst hj;rw[hi]at e1;cases e1;rw[d0 OU]at e2;cases e2;exact⟨u,r,.inl ⟨hk,by simp⟩⟩
   .rw[d6 (Ne.symm hj)]at e2;obtain⟨u',r',q⟩:=hl j y v' e1 e2 e3;refine⟨u',r',?_⟩;rcases q with⟨k,e⟩|⟨k,c,e,z⟩
    .refine .inl ⟨k,?_⟩;have:y≠x:=λe=>hj (Pk hN e1 (e▸hi));simp[this,e]
    .exact .inr ⟨k,c,e,z.sameBut hs (cne y c e)⟩
  .obtain⟨w',z⟩:=I.cell y c e;exact⟨w',z.sameBut hs (cne y c e)⟩
  .obtain⟨e,n,ne,nf,d⟩:=I.pin p hp;exact⟨(hs.2 p.1 ne).trans e,n,ne,nf,d⟩
 .have hfn:X.fn x=aC:=by
   rcases hf with z|z
   .exact z
   .rw[z]at hk;cases hk
  obtain⟨c,hc⟩:=I.ok.has x (.inl hk);obtain⟨w',z⟩:=I.cell x c hc;refine wpAny_storeName_cell I.ok.kind hk hc z (λh' TX hs=>?_);obtain⟨oc,VM,VL⟩:=id z;refine h {s with heap:=h'} ⟨I.ok,I.os,I.bare,⟨λb o e n hb hx=>?_,λb o e n hb hx=>?_,I.base.free,λb o e hx=>?_,I.base.tups,I.base.frzs,I.base.tbls⟩,⟨m,hn.sameBut hs (Ne.symm (cne x c hc)),λj y v' e1 e2 e3=>?_⟩,λy c' e=>?_,I.free,I.freeC,λp hp=>?_,WL ⟨oc,VM,I.freeC x c hc⟩ hs,by simpa using I.len⟩ ⟨c,hs,.inr hc⟩
  .exact(hs.2 b (cm (df (bp e) (I.ok.cab x c hfn hc)))).trans (I.base.keep b o e n hb hx)
  .obtain⟨sl,e1⟩:=I.base.slot b o e n hb hx;exact⟨sl,(hs.2 b (cm (df (bp e) (I.ok.cab x c hfn hc)))).trans e1⟩
  .obtain⟨o',e1⟩:=I.base.there b o e hx;exact⟨o',(hs.2 b (cm (df (bp e) (I.ok.cab x c hfn hc)))).trans e1⟩
  .by_cases hj:j=i
   .subst hj;rw[hi]at e1;cases e1;rw[d0 OU]at e2;cases e2;exact⟨u,r,.inr ⟨.inl hk,c,hc,TX⟩⟩
   .rw[d6 (Ne.symm hj)]at e2;obtain⟨u',r',q⟩:=hl j y v' e1 e2 e3;refine⟨u',r',?_⟩;rcases q with q|⟨k,c',e,z'⟩
    .exact .inl q
    .refine .inr ⟨k,c',e,z'.sameBut hs ?_⟩;rintro rfl;exact hj (Pk hN e1 (I.ok.inj _ _ _ e hc▸hi))
  .by_cases hcc:c'=c
   .subst hcc;exact⟨_,TX⟩
   .obtain⟨w2,z2⟩:=I.cell y c' e;exact⟨w2,z2.sameBut hs hcc⟩
  .obtain⟨e,n,ne,nf,d⟩:=I.pin p hp;refine⟨(hs.2 p.1 ?_).trans e,n,ne,nf,d⟩;intro q;rw[q,VM]at e;have q':oc=p.2:=dg.inj e;exact d w' (by rw[<-q'];exact VL)
theorem Pl(I:gY X gR σ H s)(hN:X.N.Nodup)(hi:X.N[i]? =aA x)(hx:Loc X.env.scope x)(r:Zv v u)(h:∀s',gY X gR (σ.set i (aA v)) H s'->Q () s')(hf:‹X.fn x=aC\/X.env.scope.names.lookup x=aA .local›):bi M A (storeName X.env x u) Q E s:=
 Fd I hN hi hx r (λs' I' _=>h s' I') hf
theorem gY.call'(I:gY X gR σ H s)(ho:s'.os=s.os)(u:Un (frs X.stack) ch H H' s.heap s'.heap)(hok:Gr X.prog X.w H' s'.heap)(hg:AllBare s'.gens)(WC:∀b∈ch,(b∈X.ex\/X.s₀.heap.objs.size<=b)/\b≠X.env.locals/\(∀x c,X.env.cells.lookup x=aA c->c≠b)/\∀p∈X.pn++gR,p.1≠b):gY X gR σ H' s':=by
 obtain⟨h',g',d',t',o'⟩:=s';have e:o'=s.os:=ho;subst e;exact I.call (g':=g') (t':=t') (d':=d') u hok hg WC
end
abbrev XK:=ag->Option ao->Hp->Prop
noncomputable abbrev St:=List (Option V)
abbrev VK:=V->Hp->Prop
abbrev TE:=St->Hp->VK->Prop
abbrev TT:=St->Hp->(Bool->Hp->Prop)->Prop
abbrev TA:=St->Hp->(List V->Hp->Prop)->Prop
set_option genInjectivity false in
structure Ends where
 nx:St->Hp->Prop
 rt:VK
 bk:St->Hp->Prop:=λ_ _=>False
 ct:St->Hp->Prop:=λ_ _=>False
abbrev TS:=Ends->St->Hp->Prop
def EP(X:Cx)(gR:List (ao×Obj))(σ:St)(Q:VK)(u:ag)(s':am):Prop:=∃v H',gY X gR σ H' s'/\Zv v u/\Q v H'
def TP(X:Cx)(gR:List (ao×Obj))(σ:St)(Q:Bool->Hp->Prop)(b:Bool)(s':am):Prop:=∃H',gY X gR σ H' s'/\Q b H'
def AP(X:Cx)(gR:List (ao×Obj))(σ:St)(Q:List V->Hp->Prop)(us:List ag)(s':am):Prop:=∃vs H',gY X gR σ H' s'/\Z1 vs us/\Q vs H'
def SP(X:Cx)(gR:List (ao×Obj))(D:Ends)(f:Flow)(s':am):Prop:=
 match f with
 | .next=>∃ZB H',gY X gR ZB H' s'/\D.nx ZB H'
 | .brk=>∃ZB H',gY X gR ZB H' s'/\D.bk ZB H'
 | .cont=>∃ZB H',gY X gR ZB H' s'/\D.ct ZB H'
 | .ret u=>∃v ZB H',gY X gR ZB H' s'/\Zv v u/\D.rt v H'
def PE(X:Cx)(e:c9)(t:TE):Prop:=
 ∀(gR:List (ao×Obj)) (s:am) (σ:St) (H:Hp) (Q:VK),gY X gR σ H s->t σ H Q->bi (b9 X.prog X.w) X.A (ig e X.env) (EP X gR σ Q) X.xe s
def PT(X:Cx)(e:c9)(t:TT):Prop:=
 ∀(gR:List (ao×Obj)) (s:am) (σ:St) (H:Hp) (Q:Bool->Hp->Prop),gY X gR σ H s->t σ H Q->bi (b9 X.prog X.w) X.A (isTrue e X.env (ig e X.env)) (TP X gR σ Q) X.xe s
def PW(X:Cx)(e:c9)(t:TT):Prop:=
 ∀(YG:Sem ag) (gR:List (ao×Obj)) (s:am) (σ:St) (H:Hp) (Q:Bool->Hp->Prop),gY X gR σ H s->t σ H Q->bi (b9 X.prog X.w) X.A (isTrue e X.env YG) (TP X gR σ Q) X.xe s
theorem PW.pt(h:PW X e t):PT X e t:=h _
def PA(X:Cx)(es:List c9)(t:TA):Prop:=
 ∀(pos:Pos) (gR:List (ao×Obj)) (s:am) (σ:St) (H:Hp) (Q:List V->Hp->Prop),gY X gR σ H s->t σ H Q->bi (b9 X.prog X.w) X.A (spliced (gu pos (ba es X.env))) (AP X gR σ Q) X.xe s
def PS(X:Cx)(st:Stmt)(t:TS):Prop:=
 ∀(gR:List (ao×Obj)) (s:am) (σ:St) (H:Hp) (D:Ends),gY X gR σ H s->t D σ H->bi (b9 X.prog X.w) X.A (exec st X.env) (SP X gR D) X.xe s
def Rj(X:Cx)(st:List Stmt)(t:TS):Prop:=
 ∀(gR:List (ao×Obj)) (s:am) (σ:St) (H:Hp) (D:Ends),gY X gR σ H s->t D σ H->bi (b9 X.prog X.w) X.A (execs st X.env) (SP X gR D) X.xe s
theorem Wu{Q:α->am->Prop}(h:bi M A t Q E s)(hQ:∀a s,Q a s->Q' a s):bi M A t Q' E s:=gv h hQ λ_ _ x=>x
section
def Cd(i:Nat):TE:=λσ H Q=>∃v,σ[i]? =aA (aA v)/\Q v H
def tC(v:V):TE:=λ_ H Q=>Q v H
theorem U0{X:Cx}{pos}(hN:X.N[i]? =aA x)(hv:V7 X.env.scope x)(hd:‹(x==("__debug__":Str))=aD›)(ZT:‹(x==("__classdict__":Str))=aD›):PE X (.Name x pos) (Cd i):=by
 intro gR s σ H Q I h;obtain⟨v,e,h⟩:=h;obtain⟨m,hn,hl⟩:=I.loc;obtain⟨u,r,l⟩:=hl i x v hN e hv;have fin:EP X gR σ Q u s:=⟨v,H,I,r,h⟩
 rcases l with⟨hk,hm⟩|⟨hk,c,hc,hcell⟩
 .exact wpAny_Name (wpAny_loadName_local I.ok.kind hk hn hm fin) hd
 .rcases hk with hk|hk
  .exact wpAny_Name (wpAny_loadName_cell I.ok.kind hk hc hcell fin) hd
  .exact wpAny_Name (wpAny_loadName_free I.ok.kind hk hc hcell fin ZT) hd
theorem yg:PE X (.Constant (.int i) j pos) (tC (.int i)):=λ_ _ _ H _ I h=>wpAny_Constant_int ⟨.int i,H,I.tok _,⟨_,rfl⟩,h⟩
theorem rg:PE X (.Constant (.bool b) j pos) (tC (.bl b)):=λ_ _ _ H _ I h=>Constant_bool ⟨.bl b,H,I,rfl,h⟩
theorem oF:PE X (.Constant .none j pos) (tC .non):=λ_ _ _ H _ I h=>Constant_none ⟨.non,H,I,rfl,h⟩
theorem Ll:PE X (.Constant (.str x) j pos) (tC (.str x)):=λ_ _ _ H _ I h=>Calls.Constant_str ⟨.str x,H,I.tok _,⟨_,rfl⟩,h⟩
def Gl(X:Cx)(x:Str):Prop:=X.env.kindOf x=aA .globalImplicit
theorem Dp{σ:St}(I:gY X gR σ H s)(hg:Gl X x)(hm:X.mg x=aA u)(h:Q u s)(hd:‹(x==("__debug__":Str))=aD›):bi (b9 X.prog X.w) X.A (ig (.Name x pos) X.env) Q E s:=
 Calls.Name_function_global I.ok.kind hg (Calls.loadGlobal_global (by rw[I.ok.glob];exact I.mod.glob.keeps I.bk) hm h) hd
theorem Bq{E}{σ:St}{pos}(I:gY X gR σ H s)(hg:Gl X x)(hm:X.mg x=aB)(hv:bootBuiltins x=aA u)(h:Q u s)(hn:‹x≠"__name__"›)(hd:‹(x==("__debug__":Str))=aD›):bi (b9 X.prog X.w) X.A (ig (.Name x pos) X.env) Q E s:=by
 obtain⟨mb,h1,h2⟩:=I.mod.blt;exact Calls.Name_function_global I.ok.kind hg (Calls.loadGlobal_builtin (by rw[I.ok.glob];exact I.mod.glob.keeps I.bk) hm (by rw[I.ok.blt];exact h1.keeps I.bk) ((h2 x hn).trans hv) h) hd
theorem mW(hg:Gl X x)(hm:X.mg x=aA u)(r:Zv v u)(hd:‹(x==("__debug__":Str))=aD›):PE X (.Name x pos) (tC v):=
 λ_ _ _ H _ I h=>Dp I hg hm ⟨v,H,I,r,h⟩ hd
theorem mV{pos}(hg:Gl X x)(hm:X.mg x=aB)(hv:bootBuiltins x=aA u)(r:Zv v u)(hn:‹x≠"__name__"›)(hd:‹(x==("__debug__":Str))=aD›):PE X (.Name x pos) (tC v):=
 λ_ _ _ H _ I h=>Bq I hg hm hv ⟨v,H,I,r,h⟩ hn hd
def t2I(ta tb:TE)(k:Int->Int->Hp->Prop):St->Hp->Prop:=λσ H=>ta σ H λx H1=>tb σ H1 λy H2=>∃i j,x= .int i/\y= .int j/\k i j H2
def u3(p:Int->Int->Bool)(ta tb:TE):TE:=λσ H Q=>t2I ta tb (λi j H2=>Q (.bl (p i j)) H2) σ H
abbrev tLt:TE->TE->TE:=u3 λi j=>decide (i<j)
def tB(t:TE):TT:=λσ H Q=>t σ H λx H1=>∃c,x= .bl c/\Q c H1
theorem oE(h:PE X e t)(he:‹∀YG,isTrue e X.env YG=(do let v<-YG;standAt e.pos;holding [v] (truthy v))›):PT X e (tB t):=by intro gR s σ H Q I hw;refine isTrue_plain (Wu (h gR s σ H _ I hw) λv s1 ⟨x,H1,I1,r1,q1⟩=>?_) (he _);obtain⟨d,rfl,q⟩:=q1;cases r1;exact wpAny_truthy_bool ⟨H1,I1,q⟩
variable{rest:List c9}
def AS(t u:TT):TT:=λσ H Q=>t σ H λc H1=>if c=aC then u σ H1 Q else Q aD H1
def tOr(t u:TT):TT:=λσ H Q=>t σ H λc H1=>if c=aC then Q aC H1 else u σ H1 Q
def AR(t:TT):TT:=λσ H Q=>t σ H λc H1=>Q (!c) H1
theorem mT(ha:PT X a tA):PW X (.BoolOp .And [a] pos) tA:=by
 intro wh gR s σ H Q I h;refine isTrue_and (Wu (ha gR s σ H Q I h) λc s1 e=>?_);cases c with
 |true=>exact isTrue_and_nil e
 |false=>exact e
theorem oC(ha:PT X a tA):PW X (.BoolOp .Or [a] pos) tA:=by
 intro wh gR s σ H Q I h;refine isTrue_or (Wu (ha gR s σ H Q I h) λc s1 e=>?_);cases c with
 |false=>exact isTrue_or_nil e
 |true=>exact e
theorem p_(ha:PT X a tA)(hb:PW X (.BoolOp .And (b::rest) pos) tB'):PW X (.BoolOp .And (a::b::rest) pos) (AS tA tB'):=by
 intro wh gR s σ H Q I h;refine isTrue_and (Wu (ha gR s σ H _ I h) λc s1 ZE=>?_);obtain⟨H1,I1,q1⟩:=ZE;cases c with
 |true=>exact hb wh gR s1 σ H1 Q I1 q1
 |false=>exact⟨H1,I1,q1⟩
theorem rf(ha:PT X a tA)(hb:PW X (.BoolOp .Or (b::rest) pos) tB'):PW X (.BoolOp .Or (a::b::rest) pos) (tOr tA tB'):=by
 intro wh gR s σ H Q I h;refine isTrue_or (Wu (ha gR s σ H _ I h) λc s1 ZE=>?_);obtain⟨H1,I1,q1⟩:=ZE;cases c with
 |true=>exact⟨H1,I1,q1⟩
 |false=>exact hb wh gR s1 σ H1 Q I1 q1
theorem pi(ha:PT X a tA):PT X (.UnaryOp .Not a pos) (AR tA):=by intro gR s σ H Q I h;exact isTrue_not (ha gR s σ H (λc H1=>Q (!c) H1) I h)
def tIf(t:TT)(ta tb:TE):TE:=λσ H Q=>t σ H λc H1=>if c=aC then ta σ H1 Q else tb σ H1 Q
theorem ku(hc:PT X c tA)(ha:PE X a ta)(hb:PE X b tb):PE X (.IfExp c a b pos) (tIf tA ta tb):=by
 intro gR s σ H Q I h;refine wpAny_IfExp (Wu (hc gR s σ H _ I h) λd s1 ZE=>?_);obtain⟨H1,I1,q1⟩:=ZE;cases d with
 |true=>exact ha gR s1 σ H1 Q I1 q1
 |false=>exact hb gR s1 σ H1 Q I1 q1
end
def Be(K:af)(H:Hp)(a:ao)(xs:List V):Prop:=
 Rd H a (.lst xs)\/
  ∃(o:Obj) (gU:Array ag) (n:Nat),K.lookup a=aA o/\o.cls= .type "list"/\o.dict=aB/\o.data= .seq gU n/\gU.size<=sizeLine/\Z1 xs gU.toList
def Md(K:af)(H:Hp)(a:ao)(xs:List V):Prop:=
 Rd H a (.tup xs)\/
  ∃(o:Obj) (gU:Array ag) (n:Nat),K.lookup a=aA o/\o.cls= .type "tuple"/\o.data= .seq gU n/\gU.size<=sizeLine/\Z1 xs gU.toList
noncomputable def uz:ag->Option V
 | .none=>aA .non
 | .bool b=>aA (.bl b)
 | .int i _=>aA (.int i)
 | .str x _=>aA (.str x)
 | .bytes b _=>aA (.byt b)
 | .float b _=>aA (.flt b)
 | .ref a=>aA (.ref a)
 | .type n=>aA (.ty n)
 |_=>aB
theorem Zv.abs(r:Zv x u):uz u=aA x:=by
 cases x with
 |non=>cases r;rfl
 |bl _=>cases r;rfl
 |int _=>obtain⟨t,rfl⟩:=r;rfl
 |str _=>obtain⟨t,rfl⟩:=r;rfl
 |byt _=>obtain⟨t,rfl⟩:=r;rfl
 |flt _=>obtain⟨t,rfl⟩:=r;rfl
 |ref _=>cases r;rfl
 |ty _=>cases r;rfl
theorem Zv.inj(r:Zv x u)(q:Zv y u):x=y:=dg.inj (r.abs.symm.trans q.abs)
theorem Z1.inj:∀{ys:List V} {us:List ag},Z1 xs us->Z1 ys us->xs=ys:=by
 induction xs with
 |nil=>intro ys us h g;cases h;cases g;rfl
 |cons x xs ih=>
  intro ys us h g;cases h with
  |cons r t=>
   cases g with
   |cons r' t'=>rw[r.inj r',ih t t']
section
variable{X:Cx}{gR:List (ao×Obj)}{σ:St}{H:Hp}{s:am}{a:ao}{xs ys:List V}
theorem gY.list(I:gY X gR σ H s)(h:Be X.K H a xs):∃gU,Z1 xs gU/\PlainL s.heap a gU.toArray/\xs.length<=sizeLine:=by
 rcases h with h|⟨o,gU,n,hk,hc,hd,hs,hz,r⟩
 .obtain⟨z,gU,n,r,e⟩:=h.ok I.hok;exact⟨gU,r,⟨_,n,e,rfl,rfl,rfl⟩,z⟩
 .refine⟨gU.toList,r,⟨o,n,I.kIn a o hk,hc,hd,by simpa using hs⟩,?_⟩;have e:=r.length;simp only[bf]at e;omega
theorem gY.tuple(I:gY X gR σ H s)(h:Md X.K H a xs):∃gU,Z1 xs gU/\IsTup s.heap a gU.toArray/\xs.length<=sizeLine:=by
 rcases h with h|⟨o,gU,n,hk,hc,hs,hz,r⟩
 .obtain⟨z,gU,r,p⟩:=h.ok I.hok;exact⟨gU,r,p,z⟩
 .refine⟨gU.toList,r,⟨o,I.kIn a o hk,hc,n,by simpa using hs⟩,?_⟩;have e:=r.length;simp only[bf]at e;omega
theorem gY.list_inj(I:gY X gR σ H s)(h:Be X.K H a xs)(h':Be X.K H a ys):xs=ys:=by
 obtain⟨gU,r,⟨o,n,e,_,_,d⟩,_⟩:=I.list h;obtain⟨its',r',⟨o',n',e',_,_,d'⟩,_⟩:=I.list h';rw[e]at e';cases e';rw[d]at d';injection d' with d1 _
 have:gU=its':=by simpa using congrArg Array.toList d1
 subst this;exact r.inj r'
theorem gY.tuple_inj(I:gY X gR σ H s)(h:Md X.K H a xs)(h':Md X.K H a ys):xs=ys:=by
 obtain⟨gU,r,⟨o,e,_,n,d⟩,_⟩:=I.tuple h;obtain⟨its',r',⟨o',e',_,n',d'⟩,_⟩:=I.tuple h';rw[e]at e';cases e';rw[d]at d';injection d' with d1 _
 have:gU=its':=by simpa using congrArg Array.toList d1
 subst this;exact r.inj r'
end
noncomputable abbrev Cx.wish(X:Cx)(E:ag->am->Prop):Cx:={X with xe:=E}
noncomputable abbrev Cx.nox(X:Cx):Cx:=X.wish λ_ _=>False
theorem Cx.Ok.wish{X:Cx}(ok:X.Ok)(E):(X.wish E).Ok:=
 ⟨ok.mod,ok.kind,ok.glob,ok.blt,ok.above,ok.inj,ok.has,ok.cab,ok.hd,ok.frames,ok.stk,ok.exf,ok.bs,ok.bsz,ok.noex,ok.exfs,ok.funs,ok.frf⟩
theorem Cx.Ok.unwish{X:Cx}(ok:(X.wish E).Ok):X.Ok:=
 ⟨ok.mod,ok.kind,ok.glob,ok.blt,ok.above,ok.inj,ok.has,ok.cab,ok.hd,ok.frames,ok.stk,ok.exf,ok.bs,ok.bsz,ok.noex,ok.exfs,ok.funs,ok.frf⟩
section
variable{X:Cx}{gR:List (ao×Obj)}{σ:St}{H:Hp}{s:am}{E:ag->am->Prop}
theorem gY.wish(I:gY X gR σ H s)(E):gY (X.wish E) gR σ H s:=⟨I.ok.wish E,I.os,I.bare,I.base,I.loc,I.cell,I.free,I.freeC,I.pin,I.hok,I.len⟩
theorem gY.unwish(I:gY (X.wish E) gR σ H s):gY X gR σ H s:=⟨I.ok.unwish,I.os,I.bare,I.base,I.loc,I.cell,I.free,I.freeC,I.pin,I.hok,I.len⟩
theorem SP.unwish(h:SP (X.wish E) gR D f s'):SP X gR D f s':=by
 cases f with
 |next=>refine Wq h λZB H' I q=>?_;exact⟨ZB,H',I.unwish,q⟩
 |brk=>refine Wq h λZB H' I q=>?_;exact⟨ZB,H',I.unwish,q⟩
 |cont=>refine Wq h λZB H' I q=>?_;exact⟨ZB,H',I.unwish,q⟩
 |ret u=>obtain⟨v,ZB,H',I,r,q⟩:=h;exact⟨v,ZB,H',I.unwish,r,q⟩
theorem Rj.nox{st}(h:Rj X.nox st t):Rj X st t:=λgR s σ H D I hw=>
 gv (h gR s σ H D (I.wish _) hw) (λ_ _ q=>q.unwish) λ_ _ z=>False.elim z
end
section
variable{X:Cx}{st:Stmt}{t u:TS}
def T8:TS:=λD σ H=>D.nx σ H
def V8(t u:TS):TS:=λD σ H=>t {D with nx:=u D} σ H
theorem Dq:Rj X [] T8:=λ_ _ σ H _ I h=>wpAny_execs_nil ⟨σ,H,I,h⟩
theorem Ch{rest:List Stmt}(h1:PS X st t)(h2:Rj X rest u):Rj X (st::rest) (V8 t u):=by
 intro gR s σ H D I h;refine wpAny_execs_cons (Wu (h1 gR s σ H {D with nx:=u D} I h) λf s1 q=>?_);cases f with
 |next=>refine Wq q λZB H' I' q=>?_;exact h2 gR s1 ZB H' D I' q
 |ret v=>exact q
 |brk=>exact q
 |cont=>exact q
theorem Dr(h1:PS X st t):Rj X [st] t:=by
 intro gR s σ H D I h;refine wpAny_execs_cons (Wu (h1 gR s σ H D I h) λf s1 q=>?_);cases f with
 |next=>exact wpAny_execs_nil q
 |ret v=>exact q
 |brk=>exact q
 |cont=>exact q
theorem gY.quiet{σ:St}(I:gY X gR σ H s):interactive X.env=aD:=by simp[interactive,I.ok.kind]
def Ds(te:TE):TS:=λD σ H=>te σ H λ_ H1=>D.nx σ H1
theorem Tq(he:PE X e te)(hs:‹swapsWith e aB pos.line X.env=pure aD›):PS X (.Expr e pos) (Ds te):=by intro gR s σ H D I h;exact wpAny_Expr_any (Wu (he gR s σ H _ I h) λv s1 ⟨x,H1,I1,r1,q1⟩=>⟨σ,H1,I1,q1⟩) I.quiet hs
def FM(te:TE):TS:=λD σ H=>te σ H D.rt
theorem yf(he:PE X e te):PS X (.Return (aA e) pos) (FM te):=by intro gR s σ H D I h;exact wpAny_Return_some (Wu (he gR s σ H _ I h) λv s1 ⟨x,H1,I1,r1,q1⟩=>⟨x,σ,H1,I1,r1,q1⟩)
def V9(c:TT)(t u:TS):TS:=λD σ H=>c σ H λb H1=>if b=aC then t D σ H1 else u D σ H1
theorem ze(hc:PT X c tc)(ha:Rj X a t)(hb:Rj X b u):PS X (.If c a b pos) (V9 tc t u):=by
 intro gR s σ H D I h;refine wpAny_If (Wu (hc gR s σ H _ I h) λd s1 ZE=>?_);obtain⟨H1,I1,q1⟩:=ZE;cases d with
 |true=>exact ha gR s1 σ H1 D I1 q1
 |false=>exact hb gR s1 σ H1 D I1 q1
end
abbrev TG:=V->St->Hp->(St->Hp->Prop)->Prop
abbrev TGs:=List V->St->Hp->(St->Hp->Prop)->Prop
def PG(X:Cx)(YH:c9)(t:TG):Prop:=
 ∀(gR:List (ao×Obj)) (s:am) (σ:St) (H:Hp) (v:V) (u:ag) (Q:St->Hp->Prop),gY X gR σ H s->Zv v u->t v σ H Q->
  bi (b9 X.prog X.w) X.A (assign YH X.env u) (λ_ s'=>∃ZB H',gY X gR ZB H' s'/\Q ZB H') X.xe s
def PGs(X:Cx)(ts:List c9)(t:TGs):Prop:=
 ∀(gR:List (ao×Obj)) (s:am) (σ:St) (H:Hp) (vs:List V) (us:List ag) (Q:St->Hp->Prop),gY X gR σ H s->Z1 vs us->t vs σ H Q->
  bi (b9 X.prog X.w) X.A (assignInOrder ((assignEach ts X.env).map (·.2)) us) (λ_ s'=>∃ZB H',gY X gR ZB H' s'/\Q ZB H') X.xe s
section
variable{pos:Pos}
def U1(i:Nat):TG:=λv σ H Q=>Q (σ.set i (aA v)) H
theorem Dt(hN:X.N.Nodup)(hi:X.N[i]? =aA x)(hx:Loc X.env.scope x)(hf:‹X.fn x=aC\/X.env.scope.names.lookup x=aA .local›):PG X (.Name x pos) (U1 i):=by intro gR s σ H v u Q I r h;exact wpAny_assign_Name (Pl I hN hi hx r (λs' I'=>⟨_,H,I',h⟩) hf)
def AQ:TGs:=λvs σ H Q=>vs=[]/\Q σ H
def zd(t:TG)(u:TGs):TGs:=λvs σ H Q=>∃v r,vs=v::r/\t v σ H λZB H'=>u r ZB H' Q
theorem mS:PGs X [] AQ:=by intro gR s σ H vs us Q I r h;obtain⟨e,h⟩:=h;subst e;cases r;exact assignInOrder_nil ⟨σ,H,I,h⟩
theorem kt(h1:PG X e t)(h2:PGs X es u)(hs:‹(assignEach (e::es) X.env).map (·.2)=assign e X.env::(assignEach es X.env).map (·.2)›):PGs X (e::es) (zd t u):=by
 intro gR s σ H vs us Q I r h;obtain⟨v,vr,e1,h⟩:=h;subst e1;cases r with
 |cons r rr=>rw[hs];refine assignInOrder_cons (Wu (h1 gR s σ H _ _ _ I r h) λ_ s1 ZE=>?_);obtain⟨UF,H1,I1,q1⟩:=ZE;exact h2 gR s1 UF H1 _ _ Q I1 rr q1
def AO(K:af)(n:Nat)(t:TGs):TG:=λv σ H Q=>∃a xs,v= .ref a/\Md K H a xs/\xs.length=n/\t xs σ H Q
theorem pg{k}(hc:X.calm=aC)(h:PGs X es t)(hn:‹(assignEach es X.env).length=n›)(OJ:‹(assignEach es X.env).findIdx? (·.1)=aB›):PG X (.Tuple es k pos) (AO X.K n t):=by
 intro gR s σ H v u Q I r hw;obtain⟨a,xs,e1,hq,hl,hw⟩:=hw;subst e1;cases r;obtain⟨gU,rv,ht,hz⟩:=I.tuple hq;refine assign_Tuple_tuple (I.ok.hd hc) ht (by simp[hn,<-hl,rv.length]) OJ λh' hx=>?_;have I1:gY X gR σ H {s with heap:=h'}:=I.kept (t':=s.toks) λb o e=>hx b o (cm (bp e)) e;exact h gR _ σ H xs _ Q I1 (by simpa using rv) hw
def Iq(te:TE)(g:TG):TS:=λD σ H=>te σ H λx H1=>g x σ H1 D.nx
theorem pf(he:PE X e te)(hg:PG X tg g)(hs:‹swapsWithSole [tg] e pos.line X.env=pure aD›)(hw:‹swappedStores [tg] e X.env=pure aB›)(h1:‹(assignEach [tg] X.env).map (·.2)=[assign tg X.env]›):PS X (.Assign [tg] e pos) (Iq te g):=by
 intro gR s σ H D I h;refine wpAny_Assign_stores (Wu (he gR s σ H _ I h) λv s1 ⟨x,H1,I1,r1,q1⟩=>?_) hs hw;rw[h1];exact Wu (hg gR s1 σ H1 x v _ I1 r1 q1) λ_ s2 q=>q
theorem Xa(hN:X.N.Nodup)(hi:X.N[i]? =aA x)(hx:Loc X.env.scope x)(he:PE X e te)(hs:‹swapsWith e (aA (.Name x pos')) pos.line X.env=pure aD›)(hf:‹X.fn x=aC\/X.env.scope.names.lookup x=aA .local›):
  PS X (.Assign [.Name x pos'] e pos) (Iq te (U1 i)):=by
 intro gR s σ H D I h;refine wpAny_Assign_Name (Wu (he gR s σ H _ I h) λv s1 ⟨y,H1,I1,r1,q1⟩=>?_) hs;exact Pl I1 hN hi hx r1 (λs2 I2=>⟨_,H1,I2,q1⟩) hf
def ye(c:TT)(tb:TS):TS:=λD σ H=>∃W:Nat->St->Hp->Prop,(∃m,W m σ H)/\∀m σ H,W m σ H->
 c σ H λb H1=>if b=aC then∃N:St->Hp->Prop,(∀ZB H',N ZB H'->∃m',m'<m/\W m' ZB H')/\tb {D with nx:=N,ct:=N,bk:=D.nx} σ H1 else D.nx σ H1
theorem kr(hp:PassesOwn (b9 X.prog X.w) X.A X.env X.xe)(hc:PT X c tc)(hb:Rj X body tb):PS X (.While c body [] pos) (ye tc tb):=by
 intro gR s σ H D I h;obtain⟨W,⟨m0,w0⟩,turn⟩:=h;refine wpAny_While (codeAny_whileLoop (λn s'=>∃ZB H',gY X gR ZB H' s'/\W n ZB H') ?_ m0 ⟨σ,H,I,w0⟩);rintro n s1 ⟨UF,H1,I1,w1⟩;refine wpAny_passesOwn hp (Wu (hc gR s1 UF H1 _ I1 (turn n UF H1 w1)) λb s2 ZE=>?_);obtain⟨H2,I2,q2⟩:=ZE;cases b with
 |true=>
  obtain⟨N,hN,q2⟩:=q2;rw[f_ rfl];refine wpAny_passesOwn hp (Wu (hb gR s2 UF H2 _ I2 q2) λf s3 q3=>?_);cases f with
  |next=>refine Wq q3 λVD H3 I3 n3=>?_;obtain⟨m',hm,w3⟩:=hN VD H3 n3;exact⟨m',hm,VD,H3,I3,w3⟩
  |cont=>refine Wq q3 λVD H3 I3 n3=>?_;obtain⟨m',hm,w3⟩:=hN VD H3 n3;exact⟨m',hm,VD,H3,I3,w3⟩
  |brk=>exact q3
  |ret v=>exact q3
 |false=>rw[fZ bv];exact wpAny_execs_nil ⟨UF,H2,I2,q2⟩
end
set_option genInjectivity false in
structure It where
 go:Nat->Hp->Prop
 yld:Nat->Hp->V->Hp->Prop
 stop:Nat->Hp->Prop
def Q2(X:Cx)(gR:List (ao×Obj))(H:Hp)(b:ao):Prop:=
 H b=aB/\b≠X.env.locals/\b∉X.fs/\(b∈X.ex\/X.s₀.heap.objs.size<=b)/\(∀x c,X.env.cells.lookup x=aA c->c≠b)/\∀p∈X.pn++gR,p.1≠b
theorem gY.fpOk{σ:St}{b:ao}(I:gY X gR σ H s)(hb:s.heap.objs.size<=b)(hn:H' b=aB):Q2 X gR H' b:=by
 refine⟨hn,Nat.ne_of_gt (df I.lt hb),I.nofs hb,.inr (dv I.sz hb),λx c e z=>?_,λp hp z=>?_⟩
 .obtain⟨v,q⟩:=I.cell x c e;exact eF (df q.lt (by rw[z];exact hb)) (Nat.lt_irrefl _)
 .exact eF (df (bp (I.pin p hp).1) (by rw[z];exact hb)) (Nat.lt_irrefl _)
structure Turn(P:b8)(w:dq)(K:af)(tg:c9)(J:It)(fp:List ao)(it:ao)(tn:Nat->f8->Prop):Prop where
 mem:it∈fp
 obj:∀i h,tn i h->∀b∈fp,∃o,h.get? b=aA o/\∀v,o.data≠.cell v
 keep:∀i h h',tn i h->(∀b∈fp,∀o,h.get? b=aA o->h'.get? b=aA o)->tn i h'
 item:∀(X:Cx),X.prog=P->X.w=w->X.K=K->X.calm=aC->∀(i:Nat) (gR:List (ao×Obj)) (s:am) (σ:St) (H:Hp) (E:ag->am->Prop),gY X gR σ H s->(∀b∈fp,Q2 X gR H b)->tn i s.heap->J.go i H->
  bi (b9 P w) X.A (pyNext (.ref it)) (λr s1=>∃u,r=aA u/\
   bi (b9 P w) X.A (letOwnedTupleGo tg (.ref it) u) (λ_ s2=>∃x H',gY X gR σ H' s2/\Zv x u/\J.yld i H x H'/\tn (i+1) s2.heap/\∀b∈fp,H' b=aB) E s1) E s
 done:∀(X:Cx),X.prog=P->X.w=w->X.K=K->X.calm=aC->∀(i:Nat) (gR:List (ao×Obj)) (s:am) (σ:St) (H:Hp) (E:ag->am->Prop),gY X gR σ H s->(∀b∈fp,Q2 X gR H b)->tn i s.heap->J.stop i H->
  bi (b9 P w) X.A (pyNext (.ref it)) (λr s1=>r=aB/\gY X gR σ H s1) E s
 self:∀(A:c7) (i:Nat) (s:am) (Q:ag->am->Prop) (E:ag->am->Prop),tn i s.heap->Q (.ref it) s->bi (b9 P w) A (pyIter (.ref it)) Q E s
abbrev TI:=St->Hp->(It->Hp->Prop)->Prop
def PIE(X:Cx)(gR:List (ao×Obj))(σ:St)(tg:c9)(R:It->Hp->Prop)(MP:ag)(s2:am):Prop:=
 ∃(it:ao) (fp:List ao) (tn:Nat->f8->Prop) (J:It) (H':Hp),MP= .ref it/\gY X gR σ H' s2/\Turn X.prog X.w X.K tg J fp it tn/\tn 0 s2.heap/\(∀b∈fp,Q2 X gR H' b)/\R J H'
def PI(X:Cx)(tg ZD:c9)(wi:TI):Prop:=
 ∀(gR:List (ao×Obj)) (s:am) (σ:St) (H:Hp) (R:It->Hp->Prop),gY X gR σ H s->wi σ H R->
  bi (b9 X.prog X.w) X.A (ig ZD X.env) (λv s1=>bi (b9 X.prog X.w) X.A (pyIter v) (PIE X gR σ tg R) X.xe s1) X.xe s
theorem T9(ho:s.heap.get? it=aA o)(hc:o.cls= .type n)(hd:o.data= .fields vs)(hn:["enumerate","zip","dict_itemiterator","dict_reverseitemiterator","odict_iterator","itertools.zip_longest","itertools.pairwise"].contains n=aD)(hQ:Q () s):bi M A (letOwnedTupleGo tg (.ref it) u) Q E s:=by
  unfold letOwnedTupleGo;cases tg<;> first
    |exact ad hQ
    | (cases u<;> first
        |exact ad hQ
        | (refine aa (wpAny_load ho ?_)
           rw[hc,hd];show bi M A (if(["enumerate","zip","dict_itemiterator","dict_reverseitemiterator","odict_iterator","itertools.zip_longest","itertools.pairwise"].contains n&&vs[0]? ==aA (rawInt _))=aC then _ else _) Q E s;rw[fZ (by intro h;rw[hn,Bool.false_and]at h;cases h)];exact ad hQ))
noncomputable def Itl(K:af)(a:ao):It:=
 ⟨λi H=>∃xs x,Be K H a xs/\xs[i]? =aA x,λi H x H'=>H'=H/\∀xs,Be K H a xs->xs[i]? =aA x,λi H=>∃xs,Be K H a xs/\xs.length<=i⟩
noncomputable def Itt(K:af)(a:ao):It:=
 ⟨λi H=>∃xs x,Md K H a xs/\xs[i]? =aA x,λi H x H'=>H'=H/\∀xs,Md K H a xs->xs[i]? =aA x,λi H=>∃xs,Md K H a xs/\xs.length<=i⟩
noncomputable def Itr(lo:Int)(n:Nat):It:=⟨λi _=>i<n,λi H x H'=>H'=H/\x= .int (lo+i),λi _=>n<=i⟩
theorem jy{P:b8}{w:dq}{K:af}{tg:c9}(a it:ao):Turn P w K tg (Itl K a) [it] it (λi h=>h.IsListIter it a i)where
 mem:=by simp
 obj:=λi h st b hb=>by
  have e:b=it:=by simpa using hb
  subst e;refine Zn st λo e c d=>?_;exact⟨o,e,λv z=>by rw[d]at z;cases z⟩
 keep:=λi h h' st k=>st.at λo e=>k it (by simp) o e
 item:=by intro X hP hw hK hc i gR s σ H E I hf st hg;subst hP hw hK;refine Wq hg λxs x hq hx=>?_;refine Zn (I.list hq) λgU rv p hz=>?_;obtain⟨u,hu,ru⟩:=rv.get hx;refine W0 (hf it (by simp)) λf0 f1 f2 f3 f4 f5=>?_;refine wpAny_pyNext_list_item st p.isList (x:=u) (by simpa using hu) λh' YC sb=>?_;have I1:gY X gR σ H {s with heap:=h'}:=I.turned (t':=s.toks) (λb o hb e=>(sb.2 b hb).trans e) f0 f1 f3 f4 f5;refine Zn (id YC) λo e c d=>?_;exact⟨u,rfl,T9 (s:={s with heap:=h'}) e c d (by decide) ⟨x,H,I1,ru,⟨rfl,λys hy=>by rw[I.list_inj hy hq];exact hx⟩,YC,λb hb=>(hf b hb).1⟩⟩
 done:=by intro X hP hw hK hc i gR s σ H E I hf st hg;subst hP hw hK;obtain⟨xs,hq,hx⟩:=hg;refine Zn (I.list hq) λgU rv p hz=>?_;refine W0 (hf it (by simp)) λf0 f1 f2 f3 f4 f5=>?_;have hl:=rv.length;exact wpAny_pyNext_list_end (I.ok.hd hc) st p.isList (by simp;omega) λh' eb=>⟨rfl,I.turned (t':=s.toks) (λb o hb e=>eb b o hb e) f0 f1 f3 f4 f5⟩
 self:=λ_ _ _ _ _ st h=>wpAny_pyIter_listiter st h
theorem Xb{P:b8}{w:dq}{K:af}{tg:c9}(a it:ao):Turn P w K tg (Itt K a) [it] it (λi h=>h.IsTupleIter it a i)where
 mem:=by simp
 obj:=λi h st b hb=>by
  have e:b=it:=by simpa using hb
  subst e;refine Zn st λo e c d=>?_;exact⟨o,e,λv z=>by rw[d]at z;cases z⟩
 keep:=λi h h' st k=>st.at λo e=>k it (by simp) o e
 item:=by intro X hP hw hK hc i gR s σ H E I hf st hg;subst hP hw hK;refine Wq hg λxs x hq hx=>?_;refine Zn (I.tuple hq) λgU rv p hz=>?_;obtain⟨u,hu,ru⟩:=rv.get hx;refine W0 (hf it (by simp)) λf0 f1 f2 f3 f4 f5=>?_;refine wpAny_pyNext_tuple_item st (show s.heap.IsTuple a gU.toArray from p) (x:=u) (by simpa using hu) λh' YC sb=>?_;have I1:gY X gR σ H {s with heap:=h'}:=I.turned (t':=s.toks) (λb o hb e=>(sb.2 b hb).trans e) f0 f1 f3 f4 f5;refine Zn (id YC) λo e c d=>?_;exact⟨u,rfl,T9 (s:={s with heap:=h'}) e c d (by decide) ⟨x,H,I1,ru,⟨rfl,λys hy=>by rw[I.tuple_inj hy hq];exact hx⟩,YC,λb hb=>(hf b hb).1⟩⟩
 done:=by intro X hP hw hK hc i gR s σ H E I hf st hg;subst hP hw hK;obtain⟨xs,hq,hx⟩:=hg;refine Zn (I.tuple hq) λgU rv p hz=>?_;refine W0 (hf it (by simp)) λf0 f1 f2 f3 f4 f5=>?_;have hl:=rv.length;exact wpAny_pyNext_tuple_end (I.ok.hd hc) st (show s.heap.IsTuple a gU.toArray from p) (by simp;omega) λh' eb=>⟨rfl,I.turned (t':=s.toks) (λb o hb e=>eb b o hb e) f0 f1 f3 f4 f5⟩
 self:=λ_ _ _ _ _ st h=>wpAny_pyIter_tupleiter st h
theorem Xc{P:b8}{w:dq}{K:af}{tg:c9}(it:ao)(lo:Int)(n:Nat):Turn P w K tg (Itr lo n) [it] it (λi h=>IsRangeIter h it (lo+(i:Nat)*1) ((n:Int)- (i:Nat)) 1)where
 mem:=by simp
 obj:=λi h st b hb=>by
  have e:b=it:=by simpa using hb
  subst e;exact⟨_,st,λv z=>by
   have z':Data.fields _=Data.cell v:=z;cases z'⟩
 keep:=λi h h' st k=>k it (by simp) _ st
 item:=by intro X hP hw hK hc i gR s σ H E I hf st hg;subst hP hw hK;refine W0 (hf it (by simp)) λf0 f1 f2 f3 f4 f5=>?_;have W:=Walks.range (prog:=X.prog) (w:=X.w) (I.ok.hd hc) it lo 1 n;refine W.item i s _ _ hg st λv h' tk hv YC kk=>?_;obtain⟨t,rfl⟩:=hv;have I1:gY X gR σ H {s with heap:=h',toks:=tk}:=I.turned (λb o hb e=>kk b o (by simpa using hb) e) f0 f1 f3 f4 f5;refine⟨_,rfl,T9 (s:={s with heap:=h',toks:=tk}) (n:="range_iterator") YC rfl rfl (by decide) ⟨.int (lo+i),H,I1,⟨t,?_⟩,⟨rfl,rfl⟩,YC,λb hb=>(hf b hb).1⟩⟩;rw[Int.mul_one]
 done:=by intro X hP hw hK hc i gR s σ H E I hf st hg;subst hP hw hK;refine W0 (hf it (by simp)) λf0 f1 f2 f3 f4 f5=>?_;exact wpAny_pyNext_range_end (I.ok.hd hc) st (by have:n<=i:=hg;omega) λh' eb=>⟨rfl,I.turned (t':=s.toks) (λb o hb e=>eb b o hb e) f0 f1 f3 f4 f5⟩
 self:=λ_ _ _ _ _ st h=>wpAny_pyIter_rangeiter st h
theorem kq{σ:St}{lo:Int}(I:gY X gR σ H s)(h1:-(2^62)<=lo)(h2:lo<2^62)(h3:-(2^62)<=hi)(h4:hi<2^62)(q:R (Itr lo (hi- lo).toNat) H):bi (b9 X.prog X.w) X.A (pyIter (.ref s.heap.objs.size)) (PIE X gR σ tg R) E {s with heap:=s.heap.push {cls:=.type "range",data:=.fields #[.int lo t,.int hi u,.int 1 v]},toks:=tk}:=by
 refine wpAny_pyIter_range (IsRange.new ..) (small_one h1 h2 h3 h4) ?_;have I1:gY X gR σ H {s with heap:=s.heap.push {cls:=.type "range",data:=.fields #[.int lo t,.int hi u,.int 1 v]},toks:=tk}:=I.kept λb o e=>aq _ e;refine⟨(s.heap.push {cls:=.type "range",data:=.fields #[.int lo t,.int hi u,.int 1 v]}).objs.size,[(s.heap.push {cls:=.type "range",data:=.fields #[.int lo t,.int hi u,.int 1 v]}).objs.size],_,_,H,rfl,
  I1.kept (t':=tk) λb o e=>aq _ e,Xc _ lo (hi- lo).toNat,?_,λb hb=>?_,q⟩
 .have e1:lo+((0:Nat):Int)*1=lo:=by simp
  have e2:(((hi- lo).toNat:Nat):Int)- ((0:Nat):Int)=Builtin.Range.rangeSize lo hi 1:=by rw[rangeSize_one];split<;> omega
  show IsRangeIter _ _ (lo+((0:Nat):Int)*1) ((((hi- lo).toNat:Nat):Int)- ((0:Nat):Int)) 1;rw[e1,e2];exact bo _ rfl
 .have e:b=(s.heap.push {cls:=.type "range",data:=.fields #[.int lo t,.int hi u,.int 1 v]}).objs.size:=by simpa using hb
  subst e;exact I1.fpOk (bc _) (I1.hok.fresh (bc _))
def zc(ta:TA):TI:=λσ H R=>ta σ H λvs H1=>∃j:Int,vs=[.int j]/\-(2^62)<=j/\j<2^62/\R (Itr 0 j.toNat) H1
theorem jx(hg:Gl X "range")(hm:X.mg "range"=aB)(ha:PA X [a] ta)(hs:‹ba [a] X.env=[(aD,ig a X.env)]›):PI X tg (.Call (.Name "range" p) [a] [] pos) (zc ta):=by
 intro gR s σ H R I h;refine Call_ (Bq I hg hm boot_range (PyProof.Rows.callWith_type1 (Wu (ha pos gR s σ H _ I h) λus s1 ⟨vs,H1,I1,r1,q1⟩=>?_) hs rfl));obtain⟨j,e,q1,q2,q⟩:=q1;subst e;cases r1 with
 |cons r rr=>cases rr;obtain⟨t,rfl⟩:=r;exact call_range_1 (kq I1 (by omega) (by omega) q1 q2 (by simpa using q))
def QY(wi:TI)(g:TG)(tb:TS):TS:=λD σ H=>wi σ H λJ H1=>∃W:Nat->Nat->St->Hp->Prop,(∃m,W 0 m σ H1)/\∀i m σ H,W i m σ H->
 (J.stop i H/\D.nx σ H)\/(J.go i H/\∃N:St->Hp->Prop,(∀ZB H',N ZB H'->∃m',m'<m/\W (i+1) m' ZB H')/\∀x H',J.yld i H x H'->g x σ H' λWT H2=>tb {D with nx:=N,ct:=N,bk:=D.nx} WT H2)
noncomputable def Aa(fp:List ao)(h:f8):List (ao×Obj):=fp.filterMap λb=>(h.get? b).map λo=>(b,o)
theorem Br(hb:b∈fp)(e:h.get? b=aA o):(b,o)∈Aa fp h:=List.mem_filterMap.mpr ⟨b,hb,by rw[e];rfl⟩
theorem jw(hp:p∈Aa fp h):p.1∈fp/\h.get? p.1=aA p.2:=by
 obtain⟨b,hb,e⟩:=List.mem_filterMap.mp hp;cases q:h.get? b with
 |none=>rw[q]at e;cases e
 |some o=>rw[q]at e;have e':(b,o)=p:=dg.inj e;subst e';exact⟨hb,q⟩
theorem gY.pinned{σ:St}(I:gY X gR σ H s)(hf:∀b∈fp,Q2 X gR H b)(ho:∀b∈fp,∃o,s.heap.get? b=aA o/\∀v,o.data≠.cell v):gY X (gR++Aa fp s.heap) σ H s:=
 I.pins_of λp hp=>(bz.mp hp).elim (λz=>I.pin p (b7 _ z)) λz=>by obtain⟨hb,e⟩:=jw z;obtain⟨f0,f1,f2,_⟩:=hf p.1 hb;obtain⟨o,e',d⟩:=ho p.1 hb;rw[e]at e';cases e';exact⟨e,f0,f1,f2,d⟩
theorem gY.unpinned{σ:St}(I:gY X (gR++pl) σ H s):gY X gR σ H s:=I.pins_of λp hp=>I.pin p (b7 _ (cg _ hp))
theorem yd {ZD:c9}{body:List Stmt}{wi:TI}{g:TG}{tb:TS}{pos:Pos}(hp:PassesOwn (b9 X.prog X.w) X.A X.env X.xe)(hc:X.calm=aC)(hi:PI X tg ZD wi)(hg:PG X tg g)(hb:Rj X body tb)(hs:∀ x,foldedSetIterable ZD X.env x=pure x:=by intro _; rfl):PS X (.For tg ZD body [] pos) (QY wi g tb):=by
  intro gR s σ H D I h;refine wpAny_For (Wu (hi gR s σ H _ I h) λv s1 h1=>Wu h1 λMP s2 h2=>?_) hs;obtain ⟨it,fp,tn,J,H2,e,I2,T,SM,f2,W,⟨m0,w0⟩,turn⟩:=h2;subst e
  have SL:∀ {H':Hp},(∀ b ∈ fp,H' b=aB)->∀ b ∈ fp,Q2 X gR H' b:=λhn b hb=>⟨hn b hb,(f2 b hb).2⟩
  refine codeAny_forLoop_any (λn s'=>∃ i ZB H',gY X gR ZB H' s'/\tn i s'.heap/\(∀ b ∈ fp,H' b=aB)/\W i n ZB H') ?_ m0 ⟨0,σ,H2,I2,SM,λb hb=>(f2 b hb).1,w0⟩;rintro n s3 ⟨i,VD,H3,I3,st3,fr3,w3⟩;rcases turn i n VD H3 w3 with ⟨stop,qn⟩ | ⟨go,N,hN,step⟩
  · refine wpAny_passesOwn hp (Wu (T.done X rfl rfl rfl hc i gR s3 VD H3 X.xe I3 (SL fr3) st3 stop) λr s4 ⟨hr,I4⟩=>?_)
    subst hr;exact wpAny_execs_nil ⟨VD,H3,I4,qn⟩
  · refine wpAny_passesOwn hp (Wu (T.item X rfl rfl rfl hc i gR s3 VD H3 X.xe I3 (SL fr3) st3 go) λr s4 ⟨u,hr,h4⟩=>?_)
    subst hr;refine wpAny_passesOwn hp (Wu h4 λ_ s5 ZE=>?_);obtain ⟨x,H5,I5,r5,y5,st5,fr5⟩:=ZE;have I5':=I5.pinned (SL fr5) (T.obj _ _ st5);refine wpAny_passesOwn hp (Wu (hg _ s5 VD H5 x u _ I5' r5 (step x H5 y5)) λ_ s6 ZE=>?_);obtain ⟨XN,H6,I6,q6⟩:=ZE;refine wpAny_passesOwn hp (Wu (hb _ s6 XN H6 _ I6 q6) λf s7 q7=>?_);have again:∀ {YR:St} {H7:Hp},gY X (gR ++ Aa fp s5.heap) YR H7 s7->N YR H7->∃ m,m < n/\∃ i ZB H',gY X gR ZB H' s7/\tn i s7.heap/\(∀ b ∈ fp,H' b=aB)/\W i m ZB H':=λ{YR H7} I7 n7=>by obtain ⟨m',hm,w7⟩:=hN YR H7 n7;refine ⟨m',hm,i + 1,YR,H7,I7.unpinned,T.keep _ _ _ st5 λb hb o e=>(I7.pin (b,o) (b7 _ (b7 _ (Br hb e)))).1,λb hb=>?_,w7⟩;obtain ⟨o,e,d⟩:=T.obj _ _ st5 b hb;exact (I7.pin (b,o) (b7 _ (b7 _ (Br hb e)))).2.1
    cases f with
    | next=>refine Wq q7 λYR H7 I7 n7=>?_;exact again I7 n7
    | cont=>refine Wq q7 λYR H7 I7 n7=>?_;exact again I7 n7
    | brk=>refine Wq q7 λYR H7 I7 q7=>?_;exact ⟨YR,H7,I7.unpinned,q7⟩
    | ret v=>obtain ⟨x7,YR,H7,I7,r7,q7⟩:=q7; exact ⟨x7,YR,H7,I7.unpinned,r7,q7⟩
abbrev R2:=V->V->Hp->VK->Prop
def Bd(X:Cx)(f:ag->ag->Sem ag)(r:R2):Prop:=
 ∀(gR:List (ao×Obj)) (s:am) (σ:St) (H:Hp) (x y:V) (v u:ag) (Q:VK),gY X gR σ H s->Zv x v->Zv y u->r x y H Q->
  bi (b9 X.prog X.w) X.A (f v u) (EP X gR σ Q) X.xe s
def UnR(X:Cx)(f:ag->Sem ag)(r:V->Hp->VK->Prop):Prop:=
 ∀(gR:List (ao×Obj)) (s:am) (σ:St) (H:Hp) (x:V) (v:ag) (Q:VK),gY X gR σ H s->Zv x v->r x H Q->
  bi (b9 X.prog X.w) X.A (f v) (EP X gR σ Q) X.xe s
def Je(X:Cx)(f:ag)(r:List V->Hp->VK->Prop):Prop:=
 ∀(gR:List (ao×Obj)) (s:am) (σ:St) (H:Hp) (xs:List V) (us:List ag) (Q:VK),gY X gR σ H s->Z1 xs us->r xs H Q->
  bi (b9 X.prog X.w) X.A (call f us) (EP X gR σ Q) X.xe s
def tOp(r:R2)(ta tb:TE):TE:=λσ H Q=>ta σ H λx H1=>tb σ H1 λy H2=>r x y H2 Q
def tUn(r:V->Hp->VK->Prop)(ta:TE):TE:=λσ H Q=>ta σ H λx H1=>r x H1 Q
def rI(C:Int->Int->Prop)(g:Int->Int->V):R2:=λx y H Q=>∃i j,x= .int i/\y= .int j/\C i j/\Q (g i j) H
def rI0(g:Int->Int->V):R2:=λx y H Q=>∃i j,x= .int i/\y= .int j/\Q (g i j) H
def rU(g:Int->V):V->Hp->VK->Prop:=λx H Q=>∃i,x= .int i/\Q (g i) H
theorem FJ(ha:PE X a ta)(hb:PE X b tb){σ:St}{R:V->V->Hp->Prop}(I:gY X gR σ H s)(h:ta σ H λx H1=>tb σ H1 λy H2=>R x y H2){f:ag->ag->Sem ag}(hf:∀v u s2 x y H2,gY X gR σ H2 s2->Zv x v->Zv y u->R x y H2->bi (b9 X.prog X.w) X.A (f v u) Q X.xe s2):
  bi (b9 X.prog X.w) X.A (ig a X.env) (λv s₁=>bi (b9 X.prog X.w) X.A (ig b X.env) (λu s₂=>bi (b9 X.prog X.w) X.A (f v u) Q X.xe s₂) X.xe s₁) X.xe s:=by
 refine Wu (ha gR s σ H _ I h) λv s1 ZE=>?_;obtain⟨x,H1,I1,r1,q1⟩:=ZE;refine Wu (hb gR s1 σ H1 _ I1 q1) λu s2 ZE=>?_;obtain⟨y,H2,I2,r2,q2⟩:=ZE;exact hf v u s2 x y H2 I2 r1 r2 q2
theorem rZ(ho:Bd X (binaryOp op) r)(ha:PE X a ta)(hb:PE X b tb):PE X (.BinOp a op b pos) (tOp r ta tb):=by intro gR s σ H Q I h;exact wpAny_BinOp (FJ ha hb I h λv u s2 x y H2 I2 rx ry q=>ho gR s2 σ H2 x y v u Q I2 rx ry q)
theorem qD(ho:UnR X (unaryOp op) r)(ha:PE X a ta):PE X (.UnaryOp op a pos) (tUn r ta):=by intro gR s σ H Q I h;exact UnaryOp_ (Wu (ha gR s σ H _ I h) λv s1 ⟨x,H1,I1,r1,q1⟩=>ho gR s1 σ H1 x v Q I1 r1 q1)
theorem opI{g:Int->Int->Int}(rule:∀i j t u s Q E,C i j->Q (.int (g i j) s.toks) {s with toks:=s.toks+1}->bi (b9 X.prog X.w) X.A (f (.int i t) (.int j u)) Q E s):
  Bd X f (rI C λi j=>.int (g i j)):=by
 intro gR s σ H x y v u Q I rx ry h;obtain⟨i,j,rfl,rfl,hc,q⟩:=h;obtain⟨t,rfl⟩:=rx;obtain⟨t',rfl⟩:=ry;exact rule i j t t' s _ _ hc ⟨.int (g i j),H,I.tok _,⟨_,rfl⟩,q⟩
theorem AZ{g:Int->Int->Int}(rule:∀i j t u s Q E,Q (.int (g i j) s.toks) {s with toks:=s.toks+1}->bi (b9 X.prog X.w) X.A (f (.int i t) (.int j u)) Q E s):
  Bd X f (rI0 λi j=>.int (g i j)):=by
 intro gR s σ H x y v u Q I rx ry h;obtain⟨i,j,rfl,rfl,q⟩:=h;obtain⟨t,rfl⟩:=rx;obtain⟨t',rfl⟩:=ry;exact rule i j t t' s _ _ ⟨.int (g i j),H,I.tok _,⟨_,rfl⟩,q⟩
theorem FI{g:Int->Int->Bool}(rule:∀i j t u s Q E,Q (.bool (g i j)) s->bi (b9 X.prog X.w) X.A (f (.int i t) (.int j u)) Q E s):
  Bd X f (rI0 λi j=>.bl (g i j)):=by
 intro gR s σ H x y v u Q I rx ry h;obtain⟨i,j,rfl,rfl,q⟩:=h;obtain⟨t,rfl⟩:=rx;obtain⟨t',rfl⟩:=ry;exact rule i j t t' s _ _ ⟨.bl (g i j),H,I,rfl,q⟩
def AY(i j:Int):Prop:=0<j/\j<1073741824
def MA(i j:Int):Prop:=(-(2^64)<i/\i<2^64)\/(-(2^64)<j/\j<2^64)
theorem MA.ok(h:MA i j):IntMulOk i j:=by
 rcases h with⟨h1,h2⟩|⟨h1,h2⟩
 .exact .of_left (intBits_le_64 h1 h2)
 .exact .of_right (intBits_le_64 h1 h2)
theorem pd:Bd X (binaryOp .Add) (rI0 λi j=>.int (i+j)):=AZ λ_ _ _ _ _ _ _ q=>add_int q
theorem pc:Bd X (binaryOp .Sub) (rI0 λi j=>.int (i- j)):=AZ λ_ _ _ _ _ _ _ q=>sub_int q
theorem pZ:Bd X (binaryOp .Mult) (rI MA λi j=>.int (i*j)):=opI λ_ _ _ _ _ _ _ hc q=>mul_int q hc.ok
theorem mR:Bd X (binaryOp .FloorDiv) (rI AY λi j=>.int (i / j)):=opI λi j _ _ _ _ _ hc q=>by have h1:(0:Int)<j:=hc.1;have h2:j<1073741824:=hc.2;exact floordiv_int (by omega) (by rw[Int.fdiv_eq_ediv_of_nonneg i (by omega)];exact q) (.inl (PyProof.noPylong_small (by omega)))
theorem pY:Bd X (binaryOp .Mod) (rI (λ_ j=>0<j) λi j=>.int (i % j)):=opI λi j _ _ _ _ _ hc q=>by have h1:(0:Int)<j:=hc;exact mod_int' (by omega) (by rw[Int.fmod_eq_emod_of_nonneg i (by omega)];exact q)
theorem unI{g:Int->Int}(rule:∀i t s Q E,Q (.int (g i) s.toks) {s with toks:=s.toks+1}->bi (b9 X.prog X.w) X.A (f (.int i t)) Q E s):
  UnR X f (rU λi=>.int (g i)):=by
 intro gR s σ H x v Q I rx h;obtain⟨i,rfl,q⟩:=h;obtain⟨t,rfl⟩:=rx;exact rule i t s _ _ ⟨.int (g i),H,I.tok _,⟨_,rfl⟩,q⟩
theorem pX:UnR X (unaryOp .USub) (rU λi=>.int (-i)):=unI λ_ _ _ _ _ q=>neg_int q
noncomputable def scal:V->V->Bool
 | .non,.non=>aC| .non,.int _=>aC| .int _,.non=>aC| .non,.bl _=>aC| .bl _,.non=>aC| .non,.str _=>aC| .str _,.non=>aC
 | .int _,.int _=>aC| .bl _,.bl _=>aC| .str _,.str _=>aC| .byt _,.byt _=>aC
 | .int _,.str _=>aC| .str _,.int _=>aC| .bl _,.str _=>aC| .str _,.bl _=>aC
 |_,_=>aD
def rEq:R2:=λx y H Q=>scal x y=aC/\Q (.bl (decide (x=y))) H
def rNe:R2:=λx y H Q=>scal x y=aC/\Q (.bl (!decide (x=y))) H
theorem Du:decide (V.int i=V.int j)=(i==j):=by rw[Bool.eq_iff_iff];simp
theorem yc:decide (V.bl i=V.bl j)=(i==j):=by rw[Bool.eq_iff_iff];simp
theorem Dv:decide (V.str i=V.str j)=(i==j):=by rw[Bool.eq_iff_iff];simp
theorem Dw:decide (V.byt i=V.byt j)=(i.toList==j.toList):=by rw[Bool.eq_iff_iff];cases i;cases j;simp
theorem Yj{σ:St}(I:gY X gR σ H s)(q:Q (.bl k) H)(e:k=k'):EP X gR σ Q (.bool k') s:=by subst e;exact⟨.bl k,H,I,rfl,q⟩
theorem Dx:Bd X (gx .Eq) rEq:=by
 intro gR s σ H x y v u Q I rx ry h;obtain⟨hs,q⟩:=h;cases x with
 |non=>
  cases rx;cases y with
  |non=>cases ry;exact PySem.EqNone.eq_none_none (Yj I q (by simp))
  |bl j=>cases ry;exact PySem.EqNone.eq_none_bool (Yj I q (by simp))
  |int j=>obtain⟨t',rfl⟩:=ry;exact PySem.EqNone.eq_none_int (Yj I q (by simp))
  |str j=>obtain⟨t',rfl⟩:=ry;exact PySem.EqNone.eq_none_str (Yj I q (by simp))
  |_=>exact eF (show aD=aC from hs) bv
 |bl i=>
  cases rx;cases y with
  |non=>cases ry;exact PySem.EqNone.eq_bool_none (Yj I q (by simp))
  |bl j=>cases ry;exact eq_bool (Yj I q yc)
  |str j=>obtain⟨t',rfl⟩:=ry;exact PySem.EqMixed.eq_bool_str (Yj I q (by simp))
  |_=>exact eF (show aD=aC from hs) bv
 |int i=>
  obtain⟨t,rfl⟩:=rx;cases y with
  |non=>cases ry;exact PySem.EqNone.eq_int_none (Yj I q (by simp))
  |int j=>obtain⟨t',rfl⟩:=ry;exact eq_int (Yj I q Du)
  |str j=>obtain⟨t',rfl⟩:=ry;exact PySem.EqMixed.eq_int_str (Yj I q (by simp))
  |_=>exact eF (show aD=aC from hs) bv
 |str i=>
  obtain⟨t,rfl⟩:=rx;cases y with
  |non=>cases ry;exact PySem.EqNone.eq_str_none (Yj I q (by simp))
  |bl j=>cases ry;exact PySem.EqMixed.eq_str_bool (Yj I q (by simp))
  |int j=>obtain⟨t',rfl⟩:=ry;exact PySem.EqMixed.eq_str_int (Yj I q (by simp))
  |str j=>obtain⟨t',rfl⟩:=ry;exact eq_str (Yj I q Dv)
  |_=>exact eF (show aD=aC from hs) bv
 |byt i=>
  obtain⟨t,rfl⟩:=rx;cases y with
  |byt j=>obtain⟨t',rfl⟩:=ry;exact PySem.W.eq_bytes (Yj I q Dw)
  |_=>exact eF (show aD=aC from hs) bv
 |_=>cases y<;> exact eF (show aD=aC from hs) bv
theorem zb:Bd X (gx .NotEq) rNe:=by
 intro gR s σ H x y v u Q I rx ry h;obtain⟨hs,q⟩:=h;cases x with
 |non=>
  cases rx;cases y with
  |non=>cases ry;exact PySem.EqNone.ne_none_none (Yj I q (by simp))
  |bl j=>cases ry;exact PySem.EqNone.ne_none_bool (Yj I q (by simp))
  |int j=>obtain⟨t',rfl⟩:=ry;exact PySem.EqNone.ne_none_int (Yj I q (by simp))
  |str j=>obtain⟨t',rfl⟩:=ry;exact PySem.EqNone.ne_none_str (Yj I q (by simp))
  |_=>exact eF (show aD=aC from hs) bv
 |bl i=>
  cases rx;cases y with
  |non=>cases ry;exact PySem.EqNone.ne_bool_none (Yj I q (by simp))
  |bl j=>cases ry;exact ne_bool (Yj I q (congrArg not yc))
  |str j=>obtain⟨t',rfl⟩:=ry;exact PySem.EqMixed.ne_bool_str (Yj I q (by simp))
  |_=>exact eF (show aD=aC from hs) bv
 |int i=>
  obtain⟨t,rfl⟩:=rx;cases y with
  |non=>cases ry;exact PySem.EqNone.ne_int_none (Yj I q (by simp))
  |int j=>obtain⟨t',rfl⟩:=ry;exact ne_int (Yj I q (congrArg not Du))
  |str j=>obtain⟨t',rfl⟩:=ry;exact PySem.EqMixed.ne_int_str (Yj I q (by simp))
  |_=>exact eF (show aD=aC from hs) bv
 |str i=>
  obtain⟨t,rfl⟩:=rx;cases y with
  |non=>cases ry;exact PySem.EqNone.ne_str_none (Yj I q (by simp))
  |bl j=>cases ry;exact PySem.EqMixed.ne_str_bool (Yj I q (by simp))
  |int j=>obtain⟨t',rfl⟩:=ry;exact PySem.EqMixed.ne_str_int (Yj I q (by simp))
  |str j=>obtain⟨t',rfl⟩:=ry;exact ne_str (Yj I q (congrArg not Dv))
  |_=>exact eF (show aD=aC from hs) bv
 |byt i=>
  obtain⟨t,rfl⟩:=rx;cases y with
  |byt j=>obtain⟨t',rfl⟩:=ry;exact PySem.W.ne_bytes (Yj I q (congrArg not Dw))
  |_=>exact eF (show aD=aC from hs) bv
 |_=>cases y<;> exact eF (show aD=aC from hs) bv
theorem qC:Bd X (gx .Lt) (rI0 λi j=>.bl (decide (i<j))):=FI λ_ _ _ _ _ _ _ q=>lt_int q
theorem qB:Bd X (gx .Gt) (rI0 λi j=>.bl (decide (j<i))):=FI λ_ _ _ _ _ _ _ q=>gt_int q
theorem qA:Bd X (gx .GtE) (rI0 λi j=>.bl (decide (j<=i))):=FI λ_ _ _ _ _ _ _ q=>ge_int q
theorem jv:Bd X (gx .In) (λx y H Q=>∃i j,x= .str i/\y= .str j/\Q (.bl (!(f6 j i 0 j.length 1).isEmpty)) H):=by intro gR s σ H x y v u Q I rx ry h;obtain⟨i,j,rfl,rfl,q⟩:=h;obtain⟨t,rfl⟩:=rx;obtain⟨t',rfl⟩:=ry;exact in_str (Yj I q rfl)
theorem pV:Bd X (gx .Is) (λx y H Q=>y= .non/\Q (.bl (decide (x= .non))) H):=by
 intro gR s σ H x y v u Q I rx ry h;obtain⟨rfl,q⟩:=h;cases ry;refine is_none_gen (Yj I q ?_);cases x<;> first
  | (cases rx;rfl)
  | (obtain⟨t,rfl⟩:=rx;rfl)
theorem mQ:Bd X (gx .IsNot) (λx y H Q=>y= .non/\Q (.bl (!decide (x= .non))) H):=by
 intro gR s σ H x y v u Q I rx ry h;obtain⟨rfl,q⟩:=h;cases ry;refine isnot_none_gen (Yj I q ?_);cases x<;> first
  | (cases rx;rfl)
  | (obtain⟨t,rfl⟩:=rx;rfl)
theorem Bd.or(h:Bd X f r)(h':Bd X f r'):Bd X f (λx y H Q=>r x y H Q\/r' x y H Q):=by
 intro gR s σ H x y v u Q I rx ry q;rcases q with q|q
 .exact h gR s σ H x y v u Q I rx ry q
 .exact h' gR s σ H x y v u Q I rx ry q
theorem U2(b)(h:‹op≠.In›)(h2:‹op≠.NotIn›):behindInMarks op b=aD:=by
 have e1:(op==CmpOp.In)=aD:=by cases op<;> first|rfl|exact eF rfl h
 have e2:(op==CmpOp.NotIn)=aD:=by cases op<;> first|rfl|exact eF rfl h2
 cases b<;> simp[behindInMarks,e1,e2]
theorem mP(ho:Bd X (gx op) r)(ha:PE X a ta)(hb:PE X b tb)(hm:behindInMarks op b=aD):PE X (.Compare a [op] [b] pos) (tOp r ta tb):=by intro gR s σ H Q I h;exact wpAny_Compare1 (FJ ha hb I h λv u s2 x y H2 I2 rx ry q=>ho gR s2 σ H2 x y v u Q I2 rx ry q) hm
def za(t:TE):TT:=λσ H Q=>t σ H λx H'=>∃k,x= .bl k/\Q k H'
theorem mO(ho:Bd X (gx op) r)(ha:PE X a ta)(hb:PE X b tb)(hm:behindInMarks op b=aD):PT X (.Compare a [op] [b] pos) (za (tOp r ta tb)):=by
 intro gR s σ H Q I h;refine wpAny_isTrue_Compare1 (Wu (ha gR s σ H _ I h) λv s1 ⟨x,H1,I1,r1,q1⟩=>Wu (hb gR s1 σ H1 _ I1 q1) λu s2 ⟨y,H2,I2,r2,q2⟩=>
  Wu (ho gR s2 σ H2 x y v u _ I2 r1 r2 q2) λc s3 ⟨z,H3,I3,r3,k,e,q3⟩=>?_) hm
 subst e;cases r3;exact wpAny_truthy_bool ⟨H3,I3,q3⟩
theorem Ab:(sizeLine:Nat)<2^63:=by rw[gz];decide
theorem Xd:Bd X (binaryOp .Add) (λx y H Q=>∃i j,x= .str i/\y= .str j/\i.length+j.length<=sizeLine/\Q (.str (i++j)) H):=by intro gR s σ H x y v u Q I rx ry h;obtain⟨i,j,rfl,rfl,hz,q⟩:=h;obtain⟨t,rfl⟩:=rx;obtain⟨t',rfl⟩:=ry;exact add_str (λt' tk=>⟨.str (i++j),H,I.tok _,⟨_,rfl⟩,q⟩) hz
theorem Bf(r:Z1 [x] us):∃u,us=[u]/\Zv x u:=by
 cases r with
 |cons r1 r2=>cases r2;exact⟨_,rfl,r1⟩
theorem r_(r:Z1 [x,y] us):∃u w',us=[u,w']/\Zv x u/\Zv y w':=by
 cases r with
 |cons r1 r2=>
  cases r2 with
  |cons r3 r4=>cases r4;exact⟨_,_,rfl,r1,r3⟩
theorem ju:Je X (.type "int") (λxs H Q=>(∃i,xs=[.int i]/\Q (.int i) H)\/∃k,xs=[.bl k]/\Q (.int (if k then 1 else 0)) H):=by
 intro gR s σ H xs us Q I r h;rcases h with⟨i,rfl,q⟩|⟨k,rfl,q⟩
 .obtain⟨u,rfl,t,rfl⟩:=Bf r;exact call_int_int ⟨.int i,H,I,⟨_,rfl⟩,q⟩
 .obtain⟨u,rfl,r1⟩:=Bf r;cases r1;exact call_int_bool ⟨.int (if k then 1 else 0),H,I.tok _,⟨_,rfl⟩,q⟩
theorem Lm:Je X (.type "str") (λxs H Q=>∃i,xs=[.int i]/\i.natAbs.log2<1920/\Q (.str (toString i)) H):=by intro gR s σ H xs us Q I r h;obtain⟨i,rfl,hz,q⟩:=h;obtain⟨u,rfl,t,rfl⟩:=Bf r;exact PySem.P.str_of_int hz ⟨.str _,H,I.tok _,⟨_,rfl⟩,q⟩
noncomputable def uy(f:Str)(v:V):List (Str×V)->List (Str×V)
  | []=>[(f,v)]
  | (g,x)::r=>if g=f then(g,v)::r else(g,x)::uy f v r
theorem Tg.some_of(r:Tg (aA v) o):∃u,o=aA u/\Zv v u:=by
 cases o with
 |none=>exact(show False from r).elim
 |some u=>exact⟨u,rfl,r⟩
structure fJ(k:Nat)(A:c7):Prop where
 hd:A.handled=aB
 dp:A.depth+3*k+5<recursionLimit
 un:A.units+16*k+200<ft
theorem fJ.mono(r:fJ k A)(h:j<=k):fJ j A:=⟨r.hd,by have:=r.dp;omega,by have:=r.un;omega⟩
theorem fJ.deeper(r:fJ (k+1) A)(env):fJ k (A.deeper env):=
 ⟨r.hd,by have:=r.dp;show A.depth+1+3*k+5<_;omega,by have:=r.un;show A.units+3+16*k+200<_;omega⟩
theorem fJ.in1(r:fJ (k+1) A):fJ k A.in1:=
 ⟨r.hd,by have:=r.dp;show A.depth+3*k+5<_;omega,by have:=r.un;show A.units+1+16*k+200<_;omega⟩
theorem fJ.depth(r:fJ k A):A.depth<recursionLimit:=by have:=r.dp;omega
theorem fJ.units(r:fJ k A):A.units+64<cLine:=by have:=r.un;omega
def Pn:TA:=λ_ H Q=>Q [] H
def M4(ta:TE)(tr:TA):TA:=λσ H Q=>ta σ H λx H1=>tr σ H1 λxs H2=>Q (x::xs) H2
theorem Oy:PA X [] Pn:=λ_ _ _ _ H Q I h=>Calls.spliced_nil ⟨[],H,I,.nil,h⟩
theorem Q3(ha:PE X e te)(hr:PA X es t)(hs:‹ba (e::es) X.env=(aD,ig e X.env)::ba es X.env›):PA X (e::es) (M4 te t):=by intro pos gR s σ H Q I h;rw[hs];show bi _ _ (spliced ((aD,ig e X.env)::gu pos (ba es X.env))) _ _ s;refine Calls.spliced_cons (Wu (ha gR s σ H _ I h) λu s1 ZE=>?_);obtain⟨x,H1,I1,r1,q1⟩:=ZE;exact Wu (hr pos gR s1 σ H1 _ I1 q1) λus s2 ⟨xs,H2,I2,r2,q2⟩=>⟨x::xs,H2,I2,.cons r1 r2,q2⟩
def AX(t:TA):TE:=λσ H Q=>t σ H λxs H1=>xs.length<=sizeLine/\∀p,H1 p=aB->Q (.ref p) (Y3 H1 p (.tup xs))
def LX(t:TA):TE:=λσ H Q=>t σ H λxs H1=>xs.length<=sizeLine/\∀p,H1 p=aB->Q (.ref p) (Y3 H1 p (.lst xs))
theorem pU (h:PA X es t):PE X (.Tuple es x1 pos) (AX t):=by intro gR s σ H Q I hq;refine wpAny_Tuple_spliced (Wu (h pos gR s σ H _ I hq) λus s1 ⟨xs,H1,I1,r,z,q⟩=>⟨by rw[<-r.length];exact z,?_⟩);have hf:H1 s1.heap.objs.size=aB:=I1.hok.fresh (bc _);refine⟨.ref s1.heap.objs.size,Y3 H1 s1.heap.objs.size (.tup xs),I1.laid (t':=s1.toks) (λb u e=>aq _ e) (bc _) ?_,rfl,q _ hf⟩;exact⟨z,us,r,⟨_,bo _ rfl,rfl,_,rfl⟩⟩
theorem Ln(h:PA X es t):PE X (.List es pos) (LX t):=by intro gR s σ H Q I hq;refine wpAny_List_spliced (Wu (h pos gR s σ H _ I hq) λus s1 ⟨xs,H1,I1,r,z,q⟩=>⟨by rw[<-r.length];exact z,?_⟩);have hf:H1 s1.heap.objs.size=aB:=I1.hok.fresh (bc _);refine⟨.ref s1.heap.objs.size,Y3 H1 s1.heap.objs.size (.lst xs),I1.laid (t':=s1.toks) (λb u e=>aq _ e) (bc _) ?_,rfl,q _ hf⟩;exact⟨z,us,0,r,bo _ rfl⟩
abbrev Sp:=List V->Hp->VK->XK->Prop
abbrev CXT:=List Env->Hp->am->XK->ag->am->Prop
structure Env0(P:b8)(w:dq)(K:af)(mg:Str->Option ag)(base:f8)(A:c7)(outer:List Env)(s:am)(H:Hp):Prop where
 frames:A.frames=aA outer
 mod:Mod K mg base
 bs:∀b o,base.get? b=aA o->s.heap.get? b=aA o/\H b=aB
 bsz:base.objs.size<=s.heap.objs.size
 funs:s.heap.FunFrames base outer
 frf:∀b∈frs outer,H b=aB
 hok:Gr P w H s.heap
 bare:AllBare s.gens
def CE(outer:List Env)(P:b8)(w:dq)(H:Hp)(s:am)(Q:VK)(u:ag)(s':am):Prop:=
 ∃v H',s'.os=s.os/\AllBare s'.gens/\Un (frs outer) [] H H' s.heap s'.heap/\Gr P w H' s'.heap/\Zv v u/\Q v H'
def CR(CX:CXT)(outer:List Env)(P:b8)(w:dq)(H:Hp)(s:am)(Q:VK)(E:XK)(r:Result)(s':am):Prop:=
 match r with
 | .ok (.ret u)=>CE outer P w H s Q u s'
 | .ok _=>False
 | .error e=>CX outer H s E e s'
structure FnOk(P:b8)(w:dq)(K:af)(mg:Str->Option ag)(base:f8)(CX:CXT)(k:Nat)(f:ao)(fd:FuncData)(ps:List Str)(sp:Sp):Prop where
 len:∀vs H Q E,sp vs H Q E->vs.length=ps.length
 run:∀(A:c7) (outer:List Env) (s:am) (H:Hp) (args:Args) (us:List ag) (vs:List V) (Q:VK) (E:XK),fJ k A->Env0 P w K mg base A outer s H->BindsTo s fd args (ps.zip us)->Z1 vs us->sp vs H Q E->
  codeAny (b9 P w) A (.call (.ref f) args) (CR CX outer P w H s Q E) s
section
variable{X:Cx}{gR:List (ao×Obj)}{σ:St}{H:Hp}{s s':am}
theorem gY.env0(I:gY X gR σ H s):Env0 X.prog X.w X.K X.mg X.base X.A X.stack s H:=
 ⟨I.ok.frames,I.ok.mod,I.bs,dv I.ok.bsz I.sz,I.stack,I.stkFree,I.hok,I.bare⟩
theorem gY.after(I:gY X gR σ H s)(h:CE X.stack X.prog X.w H s Q u s'):EP X gR σ Q u s':=by obtain⟨v,H',os,bare,un,hok,r,q⟩:=h;obtain⟨hh,g,d,t,JM⟩:=s';obtain rfl:JM=s.os:=os;exact⟨v,H',I.call (h':=hh) (g':=g) (d':=d) (t':=t) (ch:=[]) un hok bare (λb z=>eF z (by simp)),r,q⟩
end
def Ac(sp:Sp)(SA:List V)(E:XK)(t:TA):TE:=λσ H Q=>t σ H λvs H1=>sp (vs++SA) H1 Q E
def Rl(K:af)(fd:FuncData)(ps:List Str)(ds:List ag):Prop:=
 ∀(s:am) (us:List ag),K.In s.heap->(us++ds).length=ps.length->BindsTo s fd ⟨us,[]⟩ (ps.zip (us++ds))
theorem Rl.all{K}(h:∀us,us.length=ps.length->bindArgs fd ⟨us,[]⟩=pure (ps.zip us)):Rl K fd ps []:=λs us _ hl=>by rw[List.append_nil]at hl⊢;exact .of_eq (h us hl)
def Xe(CX:CXT)(X:Cx)(E:XK):Prop:=∀(gR:List (ao×Obj)) (σ:St) (H:Hp) (s:am) (e:ag) (s':am),gY X gR σ H s->CX X.stack H s E e s'->X.xe e s'
section
variable{X:Cx}{CX:CXT}{k:Nat}{f C:ao}{fd:FuncData}{ps:List Str}{sp:Sp}{SA:List V}{ds:List ag}{E:XK}{x m:Str}{p pos ZJ:Pos}{e o:c9}{es:List c9}{t:TA}
theorem pT{σ:St}(F:FnOk X.prog X.w X.K X.mg X.base CX k f fd ps sp)(hr:fJ k X.A)(hb:Rl X.K fd ps ds)(hd:Z1 SA ds)(hx:Xe CX X E)(I:gY X gR σ H s)(r:Z1 vs us)(h:sp (vs++SA) H Q E):bi (b9 X.prog X.w) X.A (call (.ref f) us) (EP X gR σ Q) X.xe s:=by
 have r2:Z1 (vs++SA) (us++ds):=r.append hd;have hl:(us++ds).length=ps.length:=by rw[<-r2.length];exact F.len _ _ _ _ h
 refine wpAny_call (codeAny_mono (F.run X.A X.stack s H ⟨us,[]⟩ (us++ds) (vs++SA) Q E hr I.env0 (hb s us I.kIn hl) r2 h) λr s' hq=>?_);cases r with
 |error e=>exact hx gR σ H s e s' I hq
 |ok fl=>
  cases fl with
  |ret u=>exact I.after hq
  |next=>exact False.elim hq
  |brk=>exact False.elim hq
  |cont=>exact False.elim hq
theorem Lo(F:FnOk X.prog X.w X.K X.mg X.base CX k f fd ps sp)(hr:fJ k X.A)(hg:Gl X x)(hm:X.mg x=aA (.ref f))(hk:PySem.W.keepIn X.K (.ref f)=aC)(hb:Rl X.K fd ps ds)(hd:Z1 SA ds)(hx:Xe CX X E)(ha:PA X (e::es) t)(YA:‹(x==("__debug__":Str))=aD›)(he:‹ba (e::es) X.env=(aD,ig e X.env)::ba es X.env›)(ZF:‹(gu pos (ba es X.env)).any (·.1)=aD›):
  PE X (.Call (.Name x p) (e::es) [] pos) (Ac sp SA E t):=by
 intro gR s σ H Q I h;refine wpAny_Call_Name_kw (Dp I hg hm ?_ YA);refine PySem.W.callWith_K (h₀:=X.base) I.ok.mod.kin hk (Wu (ha pos gR s σ H _ I h) λus s1 ⟨vs,H1,I1,r,q⟩=>⟨I1.kIn,?_⟩) he ZF;exact pT F hr hb hd hx I1 r q
end
structure FnScope(N P:List Str)(sc:Scope):Prop where
 kind:sc.kind= .function
 co:sc.isCoroutine=aD
 gen:sc.isGenerator=aD
 nd:N.Nodup
 pre:N.take P.length=P
 par:∀x∈P,sc.names.lookup x=aA .local\/sc.names.lookup x=aA .cell
 nofree:∀y∈sc.names,y.2≠.free
theorem Fe{kindOf}:∀{binds:List (Str×ag)} {m:Str->Option ag},(∀v,(x,v)∉binds)->bindL kindOf binds m x=m x
  | [],_,_=>rfl
  | (n,v)::r,m,h=>by
    unfold bindL;rw[Fe λw hw=>h w (ah _ hw)];split
    · have:x≠n:=by rintro rfl;exact h v ac
      simp[this]
    · rfl
theorem Ff{kindOf}:∀{binds:List (Str×ag)} {m:Str->Option ag},(∀v,(x,v)∉binds)->bindC kindOf binds m x=m x
  | [],_,_=>rfl
  | (n,v)::r,m,h=>by
    unfold bindC;rw[Ff λw hw=>h w (ah _ hw)];split
    · rfl
    · have:x≠n:=by rintro rfl;exact h v ac
      simp[this]
theorem Fg{kindOf}:∀{P:List Str} {vs:List ag} {i:Nat} {m:Str->Option ag},P.Nodup->P[i]? =aA x->vs[i]? =aA v->kindOf x=aA .local->
  bindL kindOf (P.zip vs) m x=aA v
 | [],_,_,_,_,h,_,_=>by simp at h
 |_::_,[],_,_,_,_,h,_=>by simp at h
 |p::P,w::vs,0,m,nd,h1,h2,hk=>by simp at h1 h2;subst h1;subst h2;show bindL kindOf ((p,w)::P.zip vs) m p=_;unfold bindL;rw[Fe λv hv=>(dy.mp nd).1 (List.of_mem_zip hv).1,f_ hk];simp
 |p::P,w::vs,i+1,m,nd,h1,h2,hk=>by show bindL kindOf ((p,w)::P.zip vs) m x=_;unfold bindL;exact Fg (i:=i) (dy.mp nd).2 (by simpa using h1) (by simpa using h2) hk
theorem Fh{kindOf}:∀{P:List Str} {vs:List ag} {i:Nat} {m:Str->Option ag},P.Nodup->P[i]? =aA x->vs[i]? =aA v->kindOf x≠aA .local->
  bindC kindOf (P.zip vs) m x=aA v
 | [],_,_,_,_,h,_,_=>by simp at h
 |_::_,[],_,_,_,_,h,_=>by simp at h
 |p::P,w::vs,0,m,nd,h1,h2,hk=>by simp at h1 h2;subst h1;subst h2;show bindC kindOf ((p,w)::P.zip vs) m p=_;unfold bindC;rw[Ff λv hv=>(dy.mp nd).1 (List.of_mem_zip hv).1,fZ hk];simp
 |p::P,w::vs,i+1,m,nd,h1,h2,hk=>by show bindC kindOf ((p,w)::P.zip vs) m x=_;unfold bindC;exact Fh (i:=i) (dy.mp nd).2 (by simpa using h1) (by simpa using h2) hk
noncomputable def Bg(N:List Str)(vs:List V):St:=vs.map aA++List.replicate (N.length- vs.length) aB
noncomputable def Po(CX:CXT)(P:b8)(w:dq)(K:af)(mg:Str->Option ag)(base:f8)(N:List Str)(qual:Str)(scope:Scope)(f:ao)(cd:ag)(A:c7)(outer:List Env)(s:am)(H:Hp)(E:XK):Cx where
 prog:=P
 w:=w
 K:=K
 mg:=mg
 base:=base
 A:=A.deeper (envOfC qual scope s.heap.objs.size f cd)
 N:=N
 s₀:=s
 H₀:=H
 env:=envOfC qual scope s.heap.objs.size f cd
 outer:=outer
 stack:=envOfC qual scope s.heap.objs.size f cd::outer
 ex:=[]
 calm:=aC
 fn:=λ_=>aC
 pn:=[]
 xe:=λe s'=>bi (b9 P w) (A.deeper (envOfC qual scope s.heap.objs.size f cd)) (leaving (envOfC qual scope s.heap.objs.size f cd) e) (λ_ YD=>CX outer H s E e YD) (λe' YD=>CX outer H s E e' YD) s'
theorem Pp{sc:Scope}(h:sc.names.lookup x=aA .cell):∃c,(cellsFrom n sc.names []).lookup x=aA c:=by have q:=PySem.W.cellsFrom_some sc.names n [] (.inl h);exact Option.isSome_iff_exists.mp q
theorem jt{K}(S:FnScope N ps scope)(hd:A.handled=aB)(e0:Env0 P w K mg base A outer s H)(hl:vs.length=ps.length)(r:Z1 vs us)(x:InCallC s s.heap.objs.size (bindL (envOfC qual scope s.heap.objs.size f cd).kindOf (ps.zip us) λ_=>aB) (cellsFrom (s.heap.objs.size+1) scope.names []) (bindC (envOfC qual scope s.heap.objs.size f cd).kindOf (ps.zip us) λ_=>aB) s1):
  gY (Po CX P w K mg base N qual scope f cd A outer s H E) [] (Bg N vs) H s1:=by
 have ZF:ps.length<=N.length:=by have:=congrArg List.length S.pre;rw[List.length_take]at this;omega
 obtain⟨h1,tk,rfl,hk⟩:=x.done;have UI:∀b:ao,b∉(Po CX P w K mg base N qual scope f cd A outer s H E).ex:=λb z=>eF (show b∈([]:List ao)from z) (by simp);refine⟨⟨e0.mod,S.kind,rfl,rfl,bc _,λy z c h1 h2=>?_,λy hy=>?_,λy c _ h=>?_,λ_=>hd,Around.frames_deeper e0.frames,.inr ⟨rfl,rfl⟩,λb z=>eF z (UI b),e0.bs,e0.bsz,λb _ _=>UI b,λb z=>eF z (UI b),e0.funs,e0.frf⟩,
  rfl,e0.bare,Un.kept hk,⟨_,x.toInCall.ns,λi y v h1 h2 h3=>?_⟩,λy c h=>⟨_,x.cell y c h⟩,e0.hok.fresh (bc _),λy c h=>?_,λp hp=>eF (show p∈([]:List (ao×Obj))from hp) (by simp),e0.hok.kept hk,?_⟩
 .exact name_of_addr x.apart (PySem.mem_of_lookup h1) (PySem.mem_of_lookup h2)
 .have hy:scope.names.lookup y=aA .cell\/scope.names.lookup y=aA .free:=hy;rcases hy with hy|hy
  .exact Pp hy
  .exact eF rfl (S.nofree _ (PySem.mem_of_lookup hy))
 .exact Nat.le_of_lt (x.above y c (PySem.mem_of_lookup h))
 .have hi:i<vs.length:=by
   unfold Bg at h2;by_cases hi:i<vs.length
   .exact hi
   .rw[fq (by simpa using hi)]at h2;rw[List.getElem?_replicate]at h2;split at h2<;> cases h2
  have ha:vs[i]? =aA v:=by
   unfold Bg at h2;rw[cw (by simpa using hi),ay]at h2;cases e:vs[i]? with
   |none=>rw[e]at h2;cases h2
   |some a=>rw[e]at h2;cases h2;rfl
  obtain⟨u,hu,rv⟩:=r.get ha;have hp:ps[i]? =aA y:=by rw[<-S.pre,List.getElem?_take_of_lt (by omega)];exact h1
  have PZ:ps.Nodup:=by rw[<-S.pre];exact S.nd.sublist (List.take_sublist _ _)
  refine⟨u,rv,?_⟩;rcases S.par y (cf hp)with k|k
  .exact .inl ⟨k,Fg PZ hp hu k⟩
  .obtain⟨c,e⟩:=Pp (n:=s.heap.objs.size+1) k;refine .inr ⟨.inl k,c,e,?_⟩;have q:=x.cell y c e;rw[Fh PZ hp hu (by show scope.names.lookup y≠_;rw[k];decide)]at q;exact q
 .exact e0.hok.fresh (Nat.le_of_lt (x.above y c (PySem.mem_of_lookup h)))
 .unfold Bg;show _=N.length;rw[bg,aj,List.length_replicate];omega
theorem zZ{K}{dV kV ZX pm ZN ct oc}(lk:K.lookup f=aA ⟨oc,od,.func (PySem.W.fnOf name qual params body scope dV kV ZX pm an ZN ct),XI⟩)(ZT:PySem.W.codeIn K ZN qual=aC)(S:FnScope N ps scope)(len:∀vs H Q E,sp vs H Q E->vs.length=ps.length)(XH:∀A outer s H vs Q E,fJ k (A.deeper (envOfC qual scope s.heap.objs.size f ZN))->sp vs H Q E->
   ∃t,Rj (Po CX P w K mg base N qual scope f ZN A outer s H E) body t/\t {nx:=λ_ H'=>Q .non H',rt:=Q} (Bg N vs) H):
  FnOk P w K mg base CX (k+1) f (PySem.W.fnOf name qual params body scope dV kV ZX pm an ZN ct) ps sp:=by
 refine⟨len,λA outer s H args us vs Q E hr e0 hb r UA=>?_⟩;have hl:=len _ _ _ _ UA;have KX:K.In s.heap:=e0.mod.kin.keeps λb o e=>(e0.bs b o e).1;have vG:s.heap.NoLimit:=e0.mod.nolimit.keeps λb o e=>(e0.bs b o e).1;have WO:∀y∈ps.zip us,scope.names.lookup y.1=aA .local\/(scope.names.lookup y.1=aA .cell/\((cellsFrom (s.heap.objs.size+1) scope.names []).lookup y.1).isSome=aC):=λ⟨n,v⟩ hy=>by
  rcases S.par n (List.of_mem_zip hy).1 with q|q
  .exact .inl q
  .exact .inr ⟨q,PySem.W.cellsFrom_some _ _ _ (.inl q)⟩
 refine codeAny_call_function hr.depth (KX _ _ lk) rfl S.co S.gen rfl (PySem.W.codeRec_of KX ZT) (hb _ _ _ _ ?_);refine wpAny_newFunctionEnv_cells S.kind WO λenv he s1 x=>?_;subst he;refine⟨vG.keeps x.toInCall.keep,codeAny_func ?_⟩;obtain⟨t,ht,hq⟩:=XH A outer s H vs Q E (hr.deeper _) UA;have I:gY (Po CX P w K mg base N qual scope f ZN A outer s H E) [] (Bg N vs) H s1:=jt S hr.hd e0 hl r x;refine gv (ht [] s1 (Bg N vs) H _ I hq) (λfl s' hs=>?_) λe s' hs=>hs;have fin:∀{ZB:St} {H':Hp} {v:V} {u:ag},gY (Po CX P w K mg base N qual scope f ZN A outer s H E) [] ZB H' s'->Zv v u->Q v H'->CE outer P w H s Q u s':=
  fun{ZB H' v u} J rv q=>⟨v,H',J.os,J.bare,J.base,J.hok,rv,q⟩
 cases fl with
 |ret u=>obtain⟨v,ZB,H',J,rv,q⟩:=hs;exact fin J rv q
 |next=>refine Wq hs λZB H' J q=>?_;exact fin (v:=V.non) (u:=c8) J rfl q
 |brk=>refine Wq hs λ_ _ _ q=>?_;exact False.elim q
 |cont=>refine Wq hs λ_ _ _ q=>?_;exact False.elim q
section
variable{X:Cx}{x:Str}{p pos:Pos}{e:c9}{es:List c9}{t:TA}{id T:String}{r:List V->Hp->VK->Prop}
def tCB(r:List V->Hp->VK->Prop)(t:TA):TE:=λσ H Q=>t σ H λvs H1=>r vs H1 Q
theorem Pq(hc:Je X (.builtin id) r)(hg:Gl X x)(hm:X.mg x=aB)(hv:bootBuiltins x=aA (.builtin id))(ha:PA X (e::es) t)(hn:‹x≠"__name__"›)(YA:‹(x==("__debug__":Str))=aD›)(he:‹ba (e::es) X.env=(aD,ig e X.env)::ba es X.env›)(ZF:‹(gu pos (ba es X.env)).any (·.1)=aD›):PE X (.Call (.Name x p) (e::es) [] pos) (tCB r t):=by
 intro gR s σ H Q I h;refine wpAny_Call_Name_kw (Bq I hg hm hv ?_ hn YA);exact PyProof.Rows.callWith_builtin1 (Wu (ha pos gR s σ H _ I h) λus s1 ⟨vs,H1,I1,r1,q1⟩=>hc gR s1 σ H1 vs us Q I1 r1 q1) he ZF
theorem jr(hc:Je X (.type T) r)(hg:Gl X x)(hm:X.mg x=aB)(hv:bootBuiltins x=aA (.type T))(ha:PA X (e::es) t)(hn:‹x≠"__name__"›)(YA:‹(x==("__debug__":Str))=aD›)(he:‹ba (e::es) X.env=(aD,ig e X.env)::ba es X.env›)(ZF:‹(gu pos (ba es X.env)).any (·.1)=aD›):PE X (.Call (.Name x p) (e::es) [] pos) (tCB r t):=by
 intro gR s σ H Q I h;refine wpAny_Call_Name_kw (Bq I hg hm hv ?_ hn YA);exact PyProof.Rows.callWith_type1 (Wu (ha pos gR s σ H _ I h) λus s1 ⟨vs,H1,I1,r1,q1⟩=>hc gR s1 σ H1 vs us Q I1 r1 q1) he ZF
end
end L2
namespace HT
noncomputable def Fi:List Int->List Int->Bool
 | [],[]=>aD
 | [],_::_=>aC
 |_::_,[]=>aD
 |x::xs,y::ys=>if x=y then Fi xs ys else decide (x<y)
theorem gL(x y xs ys):Fi (x::xs) (y::ys)=if x=y then Fi xs ys else decide (x<y):=rfl
theorem gO:Fi [] []=aD:=rfl
theorem gQ(y ys):Fi [] (y::ys)=aC:=rfl
theorem gP(x xs):Fi (x::xs) []=aD:=rfl
noncomputable def sIx(n d:Nat):Option Int->Nat
 |none=>d
 |some v=>if v<0 then(v+(n:Int)).toNat else min v.toNat n
theorem gH(n d):sIx n d aB=d:=rfl
end HT
namespace L2
abbrev TO:=St->Hp->(Option Int->Hp->Prop)->Prop
def PO(X:Cx)(e:Option c9)(t:TO):Prop:=
 ∀(gR:List (ao×Obj)) (s:am) (σ:St) (H:Hp) (Q:Option Int->Hp->Prop),gY X gR σ H s->t σ H Q->
  bi (b9 X.prog X.w) X.A (evalPart e X.env) (λu s'=>∃o H',gY X gR σ H' s'/\IsPart u o/\Q o H') X.xe s
def Dy:TO:=λ_ H Q=>Q aB H
def zY(t:TE):TO:=λσ H Q=>t σ H λx H1=>∃i,x= .int i/\Q (aA i) H1
theorem mN:PO X aB Dy:=by intro gR s σ H Q I h;rw[evalPart_none];exact ad ⟨aB,H,I,.none,h⟩
theorem mM(h:PE X e te):PO X (aA e) (zY te):=by intro gR s σ H Q I hw;rw[evalPart_some];refine Wu (h gR s σ H _ I hw) λu s1 ZE=>?_;obtain⟨x,H1,I1,r1,q1⟩:=ZE;obtain⟨i,rfl,q⟩:=q1;obtain⟨t,rfl⟩:=r1;exact⟨aA i,H1,I1,.int i t,q⟩
def SlR(X:Cx)(r:V->Option Int->Option Int->Hp->VK->Prop):Prop:=
 ∀(gR:List (ao×Obj)) (s:am) (σ:St) (H:Hp) (x:V) (v vl vu:ag) (lo hi:Option Int) (sl:ao) (Q:VK),gY X gR σ H s->Zv x v->s.heap.IsSliceOf sl vl vu .none->IsPart vl lo->IsPart vu hi->r x lo hi H Q->
  ∃T id,typeLookup (.type T) "__getitem__"=pure (aA (.builtin id))/\s.TypeIs v T/\bi (b9 X.prog X.w) X.A (getItem v (.ref sl)) (EP X gR σ Q) X.xe s
theorem SlR.or(h:SlR X r)(h':SlR X r'):SlR X (λx lo hi H Q=>r x lo hi H Q\/r' x lo hi H Q):=by
 intro gR s σ H x v vl vu lo hi sl Q I rx hs pl pu q;rcases q with q|q
 .exact h gR s σ H x v vl vu lo hi sl Q I rx hs pl pu q
 .exact h' gR s σ H x v vl vu lo hi sl Q I rx hs pl pu q
def tSl(r:V->Option Int->Option Int->Hp->VK->Prop)(te:TE)(tl th:TO):TE:=λσ H Q=>te σ H λx H1=>tl σ H1 λl H2=>th σ H2 λu H3=>r x l u H3 Q
theorem km{lo hi:Option c9}(hr:SlR X r)(he:PE X e te)(hl:PO X lo tl)(hu:PO X hi th):PE X (.Subscript e (.Slice lo hi aB p2) pos) (tSl r te tl th):=by intro gR s σ H Q I h;refine Subscript_ (Wu (he gR s σ H _ I h) λv s1 ZE=>?_);obtain⟨x,H1,I1,r1,q1⟩:=ZE;refine wpAny_Slice (Wu (hl gR s1 σ H1 _ I1 q1) λvl s2 ⟨l,H2,I2,pl,q2⟩=>Wu (hu gR s2 σ H2 _ I2 q2) λvu s3 ZE=>?_);obtain⟨u,H3,I3,pu,q3⟩:=ZE;rw[evalPart_none];refine ad ?_;have I4:gY X gR σ H3 {s3 with heap:=s3.heap.push {cls:=.type "slice",data:=.fields #[vl,vu,.none]}}:=I3.kept (t':=s3.toks) λb ob q=>aq _ q;refine Ya (hr gR {s3 with heap:=s3.heap.push {cls:=.type "slice",data:=.fields #[vl,vu,.none]}} σ H3 x v vl vu l u s3.heap.objs.size Q I4 r1 (Heap.IsSliceOf.new ..) pl pu q3) λT id hT ht hg=>?_;show bi (b9 X.prog X.w) X.A (subscriptTail e (.Slice lo hi aB p2) v (.ref s3.heap.objs.size)) (EP X gR σ Q) X.xe {s3 with heap:=s3.heap.push {cls:=.type "slice",data:=.fields #[vl,vu,.none]}};exact tail_any (ops:=[.ref s3.heap.objs.size,v]) ht hT hg (by with_unfolding_all rfl)
def QX(xs:List V)(lo hi:Option Int):List V:=(xs.drop (HT.sIx xs.length 0 lo)).take (HT.sIx xs.length xs.length hi- HT.sIx xs.length 0 lo)
theorem Pr(xs lo hi):(QX xs lo hi).length<=xs.length:=by unfold QX;rw[List.length_take,List.length_drop];omega
noncomputable def ixN(n:Nat)(i:Int):Option Nat:=if 0<=i then(if i<n then aA i.toNat else aB)else if-(n:Int)<=i then aA (i+n).toNat else aB
def atI{α:Type}(xs:List α)(i:Int):Option α:=(ixN xs.length i).bind λj=>xs[j]?
theorem Dz(h:ixN n i=aA j):seqIndex? i n=aA j/\j<n/\-(n:Int)<=i/\i<n:=by
 unfold ixN at h;by_cases h0:0<=i
 .rw[f_ h0]at h;by_cases h1:i<n
  .rw[f_ h1]at h;have e:i.toNat=j:=dg.inj h;exact⟨by rw[seqIndex_of h0 h1,e],by omega,by omega,h1⟩
  .rw[fZ h1]at h;cases h
 .rw[fZ h0]at h;by_cases h1:-(n:Int)<=i
  .rw[f_ h1]at h;have e:(i+n).toNat=j:=dg.inj h;exact⟨by rw[seqIndex_neg (by omega) h1,e],by omega,h1,by omega⟩
  .rw[fZ h1]at h;cases h
theorem Lp{v:α}(h:atI xs i=aA v):∃j,seqIndex? i xs.length=aA j/\xs[j]? =aA v/\j<xs.length/\-(xs.length:Int)<=i/\i<xs.length:=by
 unfold atI at h;cases e:ixN xs.length i with
 |none=>rw[e]at h;cases h
 |some j=>rw[e]at h;obtain⟨h1,h2,h3,h4⟩:=Dz e;exact⟨j,h1,h,h2,h3,h4⟩
def Tr(b:c9):Prop:=∀o i,subscripted b aD o i=operate [o,i] (getItem o i)
def IxR(X:Cx)(r:R2):Prop:=
 ∀(value slice:c9) (gR:List (ao×Obj)) (s:am) (σ:St) (H:Hp) (x y:V) (v u:ag) (Q:VK),gY X gR σ H s->Zv x v->Zv y u->r x y H Q->
  subscripted slice aD v u=operate [v,u] (getItem v u)->bi (b9 X.prog X.w) X.A (subscriptTail value slice v u) (EP X gR σ Q) X.xe s
def MtR(X:Cx)(id:String)(r:V->List V->Hp->VK->Prop):Prop:=
 ∀(gR:List (ao×Obj)) (s:am) (σ:St) (H:Hp) (x:V) (xs:List V) (v:ag) (us:List ag) (Q:VK),gY X gR σ H s->Zv x v->Z1 xs us->r x xs H Q->
  bi (b9 X.prog X.w) X.A (call (.builtin id) (v::us)) (EP X gR σ Q) X.xe s
section
variable{X:Cx}
theorem IxR.or(h:IxR X r)(h':IxR X r'):IxR X (λx y H Q=>r x y H Q\/r' x y H Q):=by
 intro value slice gR s σ H x y v u Q I rx ry q hs;rcases q with q|q
 .exact h value slice gR s σ H x y v u Q I rx ry q hs
 .exact h' value slice gR s σ H x y v u Q I rx ry q hs
theorem D0(hr:IxR X r)(ha:PE X a ta)(hb:PE X b tb)(hs:Tr b):PE X (.Subscript a b pos) (tOp r ta tb):=by intro gR s σ H Q I h;exact Subscript_ (FJ ha hb I h λv u s2 x y H2 I2 rx ry q=>hr a b gR s2 σ H2 x y v u Q I2 rx ry q (hs _ _))
def FH(K:af):R2:=λx y H Q=>∃p xs i v,x= .ref p/\y= .int i/\Be K H p xs/\atI xs i=aA v/\Q v H
def AW(K:af):R2:=λx y H Q=>∃p xs i v,x= .ref p/\y= .int i/\Md K H p xs/\atI xs i=aA v/\Q v H
def AI:R2:=λx y H Q=>∃z i c,x= .str z/\y= .int i/\z.length<=sizeLine/\atI z.cps.toList i=aA c/\Q (.str ⟨#[c]⟩) H
theorem D1:IxR X (FH X.K):=by
 intro value slice gR s σ H x y v u Q I rx ry h hs;obtain⟨p,xs,i,z,rfl,rfl,hq,he,q⟩:=h;cases rx;obtain⟨t,rfl⟩:=ry;refine Zn (I.list hq) λgU r pl hz=>?_;obtain⟨j,h1,h2,h3,h4,h5⟩:=Lp he;obtain⟨w,ew,WV⟩:=r.get h2;have hl:=r.length;have hn:=Ab;have fin:EP X gR σ Q w s:=⟨z,H,I,WV,q⟩
 by_cases h0:0<=i
 .have hj:i.toNat=j:=by rw[seqIndex_of h0 h5]at h1;exact dg.inj h1
  exact item_listR pl.isList h0 (by omega) (by rw[hj];simpa using ew) fin hs
 .have hj:(i+(gU.toArray.size:Int)).toNat=j:=by rw[seqIndex_neg (by omega) h4]at h1;rw[bx,<-hl];exact dg.inj h1
  exact subscriptTail_builtinR (x:=w) pl.isList.typeIs slot_list_getitem.lookup
   (wpAny_getItem_list_neg (Q:=λr s'=>r=w/\EP X gR σ Q r s') pl.isList (by omega) (by rw[bx]<;> omega) (by omega) (by rw[hj];simpa using ew) ⟨rfl,fin⟩) hs
theorem pS:IxR X (AW X.K):=by
 intro value slice gR s σ H x y v u Q I rx ry h hs;obtain⟨p,xs,i,z,rfl,rfl,hq,he,q⟩:=h;cases rx;obtain⟨t,rfl⟩:=ry;refine Zn (I.tuple hq) λgU r pl hz=>?_;obtain⟨j,h1,h2,h3,h4,h5⟩:=Lp he;obtain⟨w,ew,WV⟩:=r.get h2;have hl:=r.length;have hn:=Ab;have fin:EP X gR σ Q w s:=⟨z,H,I,WV,q⟩
 exact subscriptTail_builtinR (x:=w) pl.typeIs slot_tuple_getitem.lookup
  (getItem_tuple (j:=j) (Q:=λr s'=>r=w/\EP X gR σ Q r s') pl (by omega) (by omega) (by rw[bx,<-hl];exact h1) (by simpa using ew) ⟨rfl,fin⟩) hs
theorem pR:IxR X AI:=by
 intro value slice gR s σ H x y v u Q I rx ry h hs;obtain⟨z,i,c,rfl,rfl,hz,he,q⟩:=h;obtain⟨t,rfl⟩:=rx;obtain⟨t',rfl⟩:=ry;obtain⟨j,h1,h2,h3,h4,h5⟩:=Lp he;have hl:z.cps.toList.length=z.length:=by simp[Str.length]
 rw[hl]at h1 h4 h5;have hn:=Ab;exact tail_any (typeIs_str s z t) slot_str_getitem.lookup (getItem_str (c:=c) (by
  have e1:decide (i< -(2^63:Int))=aD:=eA (by omega);have e2:decide (i>=2^63)=aD:=eA (by omega);rw[e1,e2,Bool.or_false]) (by rw[h1];simpa using h2) ⟨.str ⟨#[c]⟩,H,I.tok _,⟨_,rfl⟩,q⟩) hs
def rIx(K:af):R2:=λx y H Q=>FH K x y H Q\/AW K x y H Q\/AI x y H Q
theorem Xf:IxR X (rIx X.K):=D1.or (pS.or pR)
theorem Lq(lo hi n):(sliceBounds lo hi aB n).1=((HT.sIx n 0 lo:Nat):Int)/\(sliceBounds lo hi aB n).2.1=((HT.sIx n n hi:Nat):Int)/\(sliceBounds lo hi aB n).2.2=1:=by
 refine⟨?_,?_,rfl⟩
 .cases lo with
  |none=>simp[sliceBounds,HT.sIx]
  |some i=>
   simp only[sliceBounds,HT.sIx,Option.getD_none,show(1:Int) > 0 by decide,if_true];by_cases h:i<0
   .simp only[h,if_true]<;> omega
   .simp only[h,if_false]<;> omega
 .cases hi with
  |none=>simp[sliceBounds,HT.sIx]
  |some i=>
   simp only[sliceBounds,HT.sIx,Option.getD_none,show(1:Int) > 0 by decide,if_true];by_cases h:i<0
   .simp only[h,if_true]<;> omega
   .simp only[h,if_false]<;> omega
theorem Ir(gU:List ag)(lo hi):slicePick gU.toArray lo hi aB=((gU.drop (HT.sIx gU.length 0 lo)).take (HT.sIx gU.length gU.length hi- HT.sIx gU.length 0 lo)).toArray:=by obtain⟨h1,h2,h3⟩:=Lq lo hi gU.toArray.size;unfold slicePick;rw[h1,h2,h3];simp only[sliceRange_one,pick_run,bx]<;> rfl
def AH(K:af):V->Option Int->Option Int->Hp->VK->Prop:=λx lo hi H Q=>∃a xs,x= .ref a/\Be K H a xs/\∀p,H p=aB->Q (.ref p) (Y3 H p (.lst (QX xs lo hi)))
theorem mL:SlR X (AH X.K):=by intro gR s σ H x v vl vu lo hi sl Q I rx hs pl pu h;obtain⟨a,xs,rfl,hx,q⟩:=h;cases rx;refine Zn (I.list hx) λgU r ht hz=>?_;have hlen:=r.length;refine⟨"list",_,slot_list_getitem.lookup,ht.isList.typeIs,?_⟩;refine wpAny_getItem_list_slice ht.isList hs pl pu .none (by simp) ?_ (by rw[bx]<;> omega);rw[Ir,<-hlen];refine⟨.ref s.heap.objs.size,_,I.laid (t':=s.toks) (o:=.lst (QX xs lo hi)) (λb ob q=>aq _ q) (bc _) ?_,rfl,q _ (I.hok.fresh (bc _))⟩;exact⟨dv (Pr xs lo hi) hz,_,0,(r.drop (HT.sIx xs.length 0 lo)).take (HT.sIx xs.length xs.length hi- HT.sIx xs.length 0 lo),bo _ rfl⟩
noncomputable def Yy:V->Bool
 | .non=>aC
 | .bl _=>aC
 | .int _=>aC
 | .str _=>aC
 |_=>aD
noncomputable def Xg:V->V->Bool
 | .non,.non=>aC
 | .bl a,.bl b=>a==b
 | .bl a,.int b=>(if a then 1 else 0)==b
 | .int a,.bl b=>a==(if b then 1 else 0)
 | .int a,.int b=>a==b
 | .str a,.str b=>a==b
 |_,_=>aD
theorem Xh(ry:Zv y u)(rx:Zv x v)(fy:Yy y=aC)(fx:Yy x=aC):SeqAt.EqAt A s u v (Xg y x):=by
 cases y with
 |non=>
  cases ry;cases x with
  |non=>cases rx;exact SeqAt.EqAt.same _
  |bl b=>cases rx;exact SeqAt.EqAt.none_bool b
  |int b=>obtain⟨t,rfl⟩:=rx;exact SeqAt.EqAt.none_int b t
  |str b=>obtain⟨t,rfl⟩:=rx;exact SeqAt.EqAt.none_str b t
  |_=>exact eF (show aD=aC from fx) bv
 |bl a=>
  cases ry;cases x with
  |non=>cases rx;exact SeqAt.EqAt.bool_none a
  |bl b=>cases rx;exact SeqAt.EqAt.bool_bool a b
  |int b=>obtain⟨t,rfl⟩:=rx;exact SeqAt.EqAt.bool_int a b t
  |str b=>obtain⟨t,rfl⟩:=rx;exact SeqAt.EqAt.bool_str a b t
  |_=>exact eF (show aD=aC from fx) bv
 |int a=>
  obtain⟨t',rfl⟩:=ry;cases x with
  |non=>cases rx;exact SeqAt.EqAt.int_none a t'
  |bl b=>cases rx;exact SeqAt.EqAt.int_bool a t' b
  |int b=>obtain⟨t,rfl⟩:=rx;exact SeqAt.EqAt.int_int a t' b t
  |str b=>obtain⟨t,rfl⟩:=rx;exact SeqAt.EqAt.int_str a t' b t
  |_=>exact eF (show aD=aC from fx) bv
 |str a=>
  obtain⟨t',rfl⟩:=ry;cases x with
  |non=>cases rx;exact SeqAt.EqAt.str_none a t'
  |bl b=>cases rx;exact SeqAt.EqAt.str_bool a t' b
  |int b=>obtain⟨t,rfl⟩:=rx;exact SeqAt.EqAt.str_int a t' b t
  |str b=>obtain⟨t,rfl⟩:=rx;exact SeqAt.EqAt.str_str a t' b t
  |_=>exact eF (show aD=aC from fx) bv
 |_=>exact eF (show aD=aC from fy) bv
def Xi(x:V)(u:ag):Bool:=match u with
 | .none=>Xg .non x
 | .bool b=>Xg (.bl b) x
 | .int i _=>Xg (.int i) x
 | .str z _=>Xg (.str z) x
 |_=>aD
theorem yb(r:Zv y u)(f:Yy y=aC):Xi x u=Xg y x:=by
 cases y with
 |non=>cases r;rfl
 |bl b=>cases r;rfl
 |int i=>obtain⟨t,rfl⟩:=r;rfl
 |str z=>obtain⟨t,rfl⟩:=r;rfl
 |_=>exact eF (show aD=aC from f) bv
theorem Rm:∀{xs:List V} {us:List ag},Z1 xs us->xs.all Yy=aC->us.any (Xi x)=xs.any λy=>Xg y x
 |_,_,.nil,_=>rfl
 |y::xs,u::us,.cons r t,f=>by rw[List.all_cons,Bool.and_eq_true]at f;rw[List.any_cons,List.any_cons,yb r f.1,Rm t f.2]
theorem Ci(rx:Zv x v)(fx:Yy x=aC):∀{xs:List V} {us:List ag},Z1 xs us->xs.all Yy=aC->∀u∈us,SeqAt.EqAt A s u v (Xi x u)
 |_,_,.nil,_=>λu hu=>by cases hu
 |y::xs,u::us,.cons r t,f=>λu' hu=>by
  rw[List.all_cons,Bool.and_eq_true]at f;rcases bj.mp hu with rfl|hu
  .rw[yb r f.1];exact Xh r rx f.1 fx
  .exact Ci rx fx t f.2 u' hu
def inV(x:V)(xs:List V):Bool:=xs.any λy=>Xg y x
def rIn(K:af)(UJ:Bool):R2:=λx y H Q=>∃p xs,y= .ref p/\(Be K H p xs\/Md K H p xs)/\Yy x=aC/\xs.all Yy=aC/\Q (.bl (if UJ then !inV x xs else inV x xs)) H
theorem jq:Bd X (gx .In) (rIn X.K aD):=by
 intro gR s σ H x y v u Q I rx ry h;obtain⟨p,xs,rfl,hq,fx,fs,q⟩:=h;cases ry;rcases hq with hq|hq
 .refine Zn (I.list hq) λgU r pl hz=>?_;refine SeqAt.in_listAt (Xi x) pl.isList (λw hw=>Ci rx fx r fs w (by simpa using hw)) ⟨.bl _,H,I,rfl,?_⟩;rw[show gU.toArray.any (Xi x)=gU.any (Xi x) by simp,Rm r fs];exact q
 .refine Zn (I.tuple hq) λgU r pl hz=>?_;refine SeqAt.in_tupleAt (Xi x) pl (λw hw=>Ci rx fx r fs w (by simpa using hw)) ⟨.bl _,H,I,rfl,?_⟩;rw[show gU.toArray.any (Xi x)=gU.any (Xi x) by simp,Rm r fs];exact q
theorem Lr:Bd X (gx .NotIn) (rIn X.K aC):=by
 intro gR s σ H x y v u Q I rx ry h;obtain⟨p,xs,rfl,hq,fx,fs,q⟩:=h;cases ry;rcases hq with hq|hq
 .refine Zn (I.list hq) λgU r pl hz=>?_;refine SeqAt.notIn_listAt (Xi x) pl.isList (λw hw=>Ci rx fx r fs w (by simpa using hw)) ⟨.bl _,H,I,rfl,?_⟩;rw[show gU.toArray.any (Xi x)=gU.any (Xi x) by simp,Rm r fs];exact q
 .refine Zn (I.tuple hq) λgU r pl hz=>?_;refine SeqAt.notIn_tupleAt (Xi x) pl (λw hw=>Ci rx fx r fs w (by simpa using hw)) ⟨.bl _,H,I,rfl,?_⟩;rw[show gU.toArray.any (Xi x)=gU.any (Xi x) by simp,Rm r fs];exact q
theorem Ls:Bd X (gx .NotIn) (λx y H Q=>∃i j,x= .str i/\y= .str j/\Q (.bl (!(!(f6 j i 0 j.length 1).isEmpty))) H):=by intro gR s σ H x y v u Q I rx ry h;obtain⟨i,j,rfl,rfl,q⟩:=h;obtain⟨t,rfl⟩:=rx;obtain⟨t',rfl⟩:=ry;exact notIn_str ⟨.bl _,H,I,rfl,q⟩
theorem Lu:Je X (.builtin "len") (λxs H Q=>∃p ys,xs=[.ref p]/\(Be X.K H p ys\/Md X.K H p ys)/\Q (.int ys.length) H):=by
 intro gR s σ H xs us Q I r h;obtain⟨p,ys,rfl,hq,q⟩:=h;obtain⟨u,rfl,rx⟩:=Bf r;cases rx;have hn:=Ab;rcases hq with hq|hq
 .refine Zn (I.list hq) λgU r' pl hz=>?_;have hlen:=r'.length;exact Calls.call_len_list pl.isList (by simp only[bx]<;> omega) ⟨.int ys.length,H,I.tok _,⟨s.toks+1,by rw[bx,hlen]⟩,q⟩
 .refine Zn (I.tuple hq) λgU r' pl hz=>?_;have hlen:=r'.length;exact len_tuple pl (by simp only[bx]<;> omega) ⟨.int ys.length,H,I.tok _,⟨s.toks+1,by rw[bx,hlen]⟩,q⟩
theorem Lv:Je X (.builtin "len") (λxs H Q=>∃z,xs=[.str z]/\z.length<=sizeLine/\Q (.int z.length) H):=by intro gR s σ H xs us Q I r h;obtain⟨z,rfl,hz,q⟩:=h;obtain⟨u,rfl,t,rfl⟩:=Bf r;have hn:=Ab;exact len_str (by omega) ⟨.int z.length,H,I.tok _,⟨_,rfl⟩,q⟩
theorem Je.or(h:Je X f r)(h':Je X f r'):Je X f (λxs H Q=>r xs H Q\/r' xs H Q):=by
 intro gR s σ H xs us Q I rs q;rcases q with q|q
 .exact h gR s σ H xs us Q I rs q
 .exact h' gR s σ H xs us Q I rs q
theorem Iu:Je X (.type "tuple") (λxs H Q=>∃p ys,xs=[.ref p]/\((Be X.K H p ys/\∀l,H l=aB->Q (.ref l) (Y3 H l (.tup ys)))\/(Md X.K H p ys/\Q (.ref p) H))):=by
 intro gR s σ H xs us Q I r h;obtain⟨p,ys,rfl,h⟩:=h;obtain⟨u,rfl,rx⟩:=Bf r;cases rx;rcases h with⟨hq,q⟩|⟨hq,q⟩
 .refine Zn (I.list hq) λgU r' pl hz=>?_;have hlen:=r'.length;refine call_tuple_list pl.isList (λh' kp=>?_) (by simp only[bx]<;> omega);have I1:gY X gR σ H {s with heap:=h'}:=I.kept (t':=s.toks) kp;have I2:gY X gR σ (Y3 H h'.objs.size (.tup ys)) {s with heap:=h'.push {cls:=.type "tuple",data:=.seq gU.toArray}}:=
   I1.laid (t':=s.toks) (λb o e=>aq _ e) (bc _) (show Ym X.prog X.w _ _ _ (.tup ys)from⟨hz,gU,r',IsTup.new _ _⟩)
  exact⟨.ref h'.objs.size,_,I2,rfl,q _ (I1.hok.fresh (bc _))⟩
 .refine Zn (I.tuple hq) λgU r' pl hz=>?_;exact call_tuple_same pl ⟨.ref p,H,I,rfl,q⟩
def tyV(K:af)(T:String)(x:V)(H:Hp):Prop:=match x with
 | .str _=>T="str"
 | .int _=>T="int"
 | .ref p=>(T="list"/\∃xs,Be K H p xs)\/(T="tuple"/\∃o,K.lookup p=aA o/\o.cls= .type "tuple"/\o.dict=aB)\/
   (T="dict"/\((∃kvs,HK H p kvs)\/∃kvs,HTt H p kvs))\/(T="set"/\∃S n,H p=aA (.set S n))
 |_=>False
theorem ya{σ:St}(I:gY X gR σ H s)(r:Zv x v)(ty:tyV X.K T x H):
  s.TypeIs v T/\∀a,v= .ref a->∃ob,s.heap.get? a=aA ob/\ob.dict=aB:=by
 cases x with
 |str z=>obtain⟨t,rfl⟩:=r;cases(show T="str"from ty);exact⟨typeIs_str s z t,λ_ e=>nomatch e⟩
 |int i=>obtain⟨t,rfl⟩:=r;cases(show T="int"from ty);exact⟨typeIs_int s i t,λ_ e=>nomatch e⟩
 |ref p=>
  cases r;rcases ty with⟨rfl,xs,hq⟩|⟨rfl,o,hk,hc,hd⟩|⟨rfl,hk⟩|⟨rfl,S,n,hk⟩
  .refine Zn (I.list hq) λgU _ pl _=>?_;refine⟨pl.isList.typeIs,λa e=>?_⟩;cases e;refine Ol pl λo n e c hd _=>?_;exact⟨o,e,hd⟩
  .refine⟨⟨o,I.kIn p o hk,hc⟩,λa e=>?_⟩;cases e;exact⟨o,I.kIn _ o hk,hd⟩
  .have z:∃o,s.heap.get? p=aA o/\o.ExactDict:=by
    rcases hk with⟨kvs,ep,hk⟩|⟨kvs,ep,bs,hk⟩
    .obtain⟨_,_,_,_,o,_,e,ex,_⟩:=I.hok p _ hk;exact⟨o,e,ex⟩
    .obtain⟨_,_,_,_,o,_,e,ex,_⟩:=I.hok p _ hk;exact⟨o,e,ex⟩
   obtain⟨o,e,ex⟩:=z;refine⟨⟨o,e,ex.1⟩,λa e2=>?_⟩;cases e2;exact⟨o,e,ex.2.1⟩
  .refine Q1 (I.hok p _ hk) λo _ _ _ e ex _=>?_;refine⟨⟨o,e,ex.1⟩,λa e2=>?_⟩;cases e2;exact⟨o,e,ex.2.1⟩
 |_=>exact False.elim ty
def AG(K:af)(T:String)(r:V->List V->Hp->VK->Prop)(to:TE):TE:=λσ H Q=>to σ H λx H1=>tyV K T x H1/\r x [] H1 Q
def tBM(K:af)(T:String)(r:V->List V->Hp->VK->Prop)(to:TE)(t:TA):TE:=λσ H Q=>to σ H λx H1=>tyV K T x H1/\t σ H1 λxs H2=>r x xs H2 Q
variable{o e:c9}{to:TE}{name:Str}{ZJ ZA:Pos}{T id:String}{r:V->List V->Hp->VK->Prop}
theorem pQ(pa:PlainAttrs T)(slot:Slot T name id)(II:typeOf (.builtin id)=pure (.type "method_descriptor"))(hm:MtR X id r)(ho:PE X o to)(ZR:‹attributeBase o name X.env (ig o X.env)=ig o X.env›)(ZQ:‹(ZJ.endLine==ZA.line)=aC›):PE X (.Call (.Attribute o name ZJ) [] [] ZA) (AG X.K T r to):=by
 intro gR s σ H Q I h;refine wpAny_Call_method0_late ZR ZQ (Wu (ho gR s σ H _ I h) λv s1 ZE=>?_);obtain⟨x,H1,I1,r1,ty,q1⟩:=ZE;obtain⟨h1,h2⟩:=ya I1 r1 ty;exact⟨T,id,pa,slot,II,h1,h2,Calls.callWith_builtin rfl (PySem.evalArgs_none (hm gR s1 σ H1 x [] v [] Q I1 r1 .nil q1))⟩
theorem D2(pa:PlainAttrs T)(slot:Slot T name id)(II:typeOf (.builtin id)=pure (.type "method_descriptor"))(hm:MtR X id r)(ho:PE X o to)(ha:PA X (e::es) t)(ZR:‹attributeBase o name X.env (ig o X.env)=ig o X.env›)(YZ:((gu ZA (ba (e::es) X.env)).all (λx=>!x.1)&&(backToKw ZA (keywordEach [] X.env)).all (λx=>x.1.isSome)
   &&decide ((e::es).length+([]:List Keyword).length+(if([]:List Keyword).isEmpty then 0 else 1)<30))=aC:=by rfl)(ZQ:‹(ZJ.endLine==ZA.line)=aC›)(hs:‹ba (e::es) X.env=(aD,ig e X.env)::ba es X.env›)(S_:‹(gu ZA (ba es X.env)).any (·.1)=aD›):
  PE X (.Call (.Attribute o name ZJ) (e::es) [] ZA) (tBM X.K T r to t):=by
 intro gR s σ H Q I h;refine wpAny_Call_method_late ZR YZ ZQ rfl (Wu (ho gR s σ H _ I h) λv s1 ZE=>?_);obtain⟨x,H1,I1,r1,ty,q1⟩:=ZE;obtain⟨h1,h2⟩:=ya I1 r1 ty;refine⟨T,id,pa,slot,II,h1,h2,?_⟩;have hA:=ha ZA gR s1 σ H1 _ I1 q1;rw[hs]at hA⊢;refine Calls.callWith_builtin (by show(aD|| (gu ZA (ba es X.env)).any (·.1))=aD;rw[S_]<;> rfl) (Calls.evalArgs_plain ?_);exact Wu hA λus s2 ⟨vs,H2,I2,r2,q2⟩=>hm gR s2 σ H2 x vs v us Q I2 r1 r2 q2
end
def MtM(X:Cx)(id:String)(r:V->List V->Hp->VK->Prop):Prop:=
 ∀(gR:List (ao×Obj)) (s:am) (σ:St) (H:Hp) (x:V) (xs:List V) (v:ag) (us:List ag) (Q:VK),gY X gR σ H s->Zv x v->Z1 xs us->r x xs H Q->
  bi (b9 X.prog X.w) X.A (call (.builtin id) (v::us)) (EP X gR σ Q) X.xe s
theorem Z1.one(h:Z1 [x] us):∃u,us=[u]/\Zv x u:=by
 cases h with
 |cons r t=>cases t;exact⟨_,rfl,r⟩
theorem Z1.zero:∀{us:List ag},Z1 [] us->us=[]
 |_,.nil=>rfl
theorem Z1.dropLast(h:Z1 xs us):Z1 xs.dropLast us.dropLast:=by
 induction h with
 |nil=>exact .nil
 |cons r t ih=>
  cases t with
  |nil=>exact .nil
  |cons q t'=>exact .cons r ih
theorem Xj{α:Type}(l:List α):l.eraseIdx (l.length- 1)=l.dropLast:=by
 induction l with
 |nil=>rfl
 |cons a r ih=>
  cases r with
  |nil=>rfl
  |cons b r=>
   have e:(a::b::r).length- 1=((b::r).length- 1)+1:=by have h1:(a::b::r).length=r.length+2:=rfl;have h2:(b::r).length=r.length+1:=rfl;omega
   rw[e,List.eraseIdx_cons_succ,ih]
   all_goals rfl
section
variable{X:Cx}{gR:List (ao×Obj)}{σ:St}{H:Hp}{s:am}{l b:ao}{xs ys zs:List V}
theorem gY.lset{gU:List ag}(I:gY X gR σ H s)(hH:H l=aA (.lst xs))(e:s.heap.get? l=aA {cls:=.type "list",data:=.seq gU.toArray n})(hf:f gU.toArray=its'.toArray)(hv:Z1 ys its')(hz:ys.length<=sizeLine):
  gY X gR σ (Y3 H l (.lst ys)) {s with heap:=s.heap.update l (d8 f),toks:=t'}:=by
 have q:=PySem.IsL.update e f;rw[hf]at q;refine I.write (x:=l) (e:=l) (by rw[hH];exact trivial) (.inl rfl) (λb' u hb hu=>(Heap.get?_update_other s.heap (d8 f) (Ne.symm hb)).trans hu) ⟨_,q⟩ ?_;exact⟨hz,its',_,hv,q⟩
theorem gY.lnew(I:gY X gR σ H s)(hv:Z1 ys gU)(hz:ys.length<=sizeLine):
  gY X gR σ (Y3 H s.heap.objs.size (.lst ys)) {s with heap:=s.heap.push {cls:=.type "list",data:=.seq gU.toArray},toks:=t'}:=
 I.laid (λ_ _ q=>aq _ q) (bc _) ⟨hz,gU,0,hv,bo _ rfl⟩
theorem gY.fresh(I:gY X gR σ H s):H s.heap.objs.size=aB:=I.hok.fresh (bc _)
theorem gY.lstM(I:gY X gR σ H s)(hH:H l=aA (.lst xs)):xs.length<=sizeLine/\∃gU n,Z1 xs gU/\xs.length=gU.length/\s.heap.get? l=aA {cls:=.type "list",data:=.seq gU.toArray n}:=by obtain⟨z,gU,n,r,e⟩:=I.hok l _ hH;exact⟨z,gU,n,r,r.length,e⟩
theorem kj(h:n<=sizeLine):Builtin.List.listTooLong n=aD:=by unfold Builtin.List.listTooLong;exact eA (by omega)
end
def Gc:V->List V->Hp->VK->Prop:=λx vs H Q=>∃l xs y,x= .ref l/\vs=[y]/\H l=aA (.lst xs)/\xs.length<sizeLine/\Q .non (Y3 H l (.lst (xs++[y])))
theorem Me:MtM X "list.append" Gc:=by intro gR s σ H x vs v us Q I rx rv h;obtain⟨l,xs,y,rfl,rfl,hH,hz,q⟩:=h;cases rx;obtain⟨u,rfl,ru⟩:=rv.one;obtain⟨z,gU,n,r,hl,e⟩:=I.lstM hH;refine call_meets F.slot_list_append ⟨_,e,rfl⟩ F.entry_list_append (F.args_list_append_2 _ _) (PySem.list_append l gU.toArray n u (by rw[bx];omega)) ⟨e,?_⟩;refine⟨.non,_,I.lset (its':=gU++[u]) hH e (by simp) (r.append (.cons ru .nil)) ?_,rfl,q⟩;rw[bg,List.length_singleton];omega
def AF:V->List V->Hp->VK->Prop:=λx vs H Q=>∃l xs y,x= .ref l/\vs=[]/\H l=aA (.lst xs)/\xs[xs.length- 1]? =aA y/\Q y (Y3 H l (.lst xs.dropLast))
theorem pP:MtM X "list.pop" AF:=by
 intro gR s σ H x vs v us Q I rx rv h;obtain⟨l,xs,y,rfl,rfl,hH,hy,q⟩:=h;cases rx;have hus:=rv.zero;subst hus;obtain⟨z,gU,n,r,hl,e⟩:=I.lstM hH;obtain⟨u,hu,ru⟩:=r.get hy;have VJ:gU.toArray[gU.toArray.size- 1]? =aA u:=by show gU.toArray[gU.length- 1]? =aA u;rw[<-de,<-hl];exact hu
 refine call_meets F.slot_list_pop ⟨_,e,rfl⟩ F.entry_list_pop (F.args_list_pop_1 _) (MeetsSeq.list_pop_last l gU.toArray n u VJ (by rw[bx];omega)) ⟨e,?_⟩;refine⟨y,_,I.lset (its':=gU.dropLast) hH e ?_ r.dropLast ?_,ru,q⟩
 .show gU.toArray.eraseIdxIfInBounds (gU.toArray.size- 1)=gU.dropLast.toArray;rw[bx,List.eraseIdxIfInBounds_toArray,Xj]
 .rw[List.length_dropLast];omega
section
variable{κ:Type}[DecidableEq κ]
noncomputable def Qz(kvs:List (κ×V))(k:κ):Option V:=(kvs.find? λkv=>decide (kv.1=k)).map (·.2)
noncomputable def Wy(kvs:List (κ×V))(k:κ)(v:V):List (κ×V):=
 if(kvs.any λkv=>decide (kv.1=k))=aC then kvs.map (λkv=>if kv.1=k then(kv.1,v)else kv)else kvs++[(k,v)]
theorem kg:Qz ([]:List (κ×V)) k=aB:=rfl
theorem U3{k:κ}(e:p.1=k):Qz (p::r) k=aA p.2:=by simp[Qz,List.find?_cons,e]
theorem Jt{k:κ}(e:¬p.1=k):Qz (p::r) k=Qz r k:=by simp[Qz,List.find?_cons,e]
theorem Ad(k):∀kvs:List (κ×V),(kvs.any λkv=>decide (kv.1=k))=(Qz kvs k).isSome
 | []=>rfl
 |p::r=>by
  rw[List.any_cons];by_cases e:p.1=k
  .simp only[U3 e,eB e,Bool.true_or,Option.isSome_some]
  .rw[Jt e,eA e,Bool.false_or];exact Ad k r
theorem Cj(kvs)(k:κ)(v):(Wy kvs k v).length<=kvs.length+1:=by
 unfold Wy;split
 .rw[aj];omega
 .rw[bg,aw,List.length_nil];omega
theorem Tg.isSome_eq(r:Tg o u):o.isSome=u.isSome:=by
 cases o with
 |none=>cases u with
  |none=>rfl
  |some _=>exact(show False from r).elim
 |some _=>cases u with
  |none=>exact(show False from r).elim
  |some _=>rfl
theorem KV.val(r:KV kvs vs)(k:κ):Tg (Qz kvs k) (valueAt vs k):=by
 unfold KV at r;induction r with
 |nil=>exact True.intro
 | @cons p q ps qs h t ih=>
  obtain⟨h1,h2⟩:=h;by_cases e:p.1=k
  .have e':q.1=k:=h1.symm.trans e;have b:valueAt (q::qs) k=aA q.2:=by simp[valueAt,List.find?_cons,e']
   rw[U3 e,b];exact h2
  .have e':¬q.1=k:=λz=>e (h1.trans z);have b:valueAt (q::qs) k=valueAt qs k:=by simp[valueAt,List.find?_cons,e']
   rw[Jt e,b];exact ih
theorem KV.any(r:KV kvs vs)(k:κ):(kvs.any λkv=>decide (kv.1=k))=vs.any λkv=>decide (kv.1=k):=by
 unfold KV at r;induction r with
 |nil=>rfl
 |cons h t ih=>rw[List.any_cons,List.any_cons,ih,h.1]
theorem KV.repl(r:KV kvs vs)(k:κ)(ry:Zv y u):
  KV (kvs.map λkv=>if kv.1=k then(kv.1,y)else kv) (vs.map λkv=>if kv.1=k then(kv.1,u)else kv):=by
 unfold KV at r⊢;induction r with
 |nil=>exact .nil
 | @cons p q ps qs h t ih=>
  rw[ax,ax];refine .cons ?_ ih;obtain⟨h1,h2⟩:=h;by_cases e:p.1=k
  .rw[f_ e,f_ (h1.symm.trans e)];exact⟨h1,ry⟩
  .rw[fZ e,fZ (λz=>e (h1.trans z))];exact⟨h1,h2⟩
theorem KV.put(r:KV kvs vs)(k:κ)(ry:Zv y u):KV (Wy kvs k y) (stored vs k u):=by
 unfold Wy stored;rw[r.any k];by_cases e:(vs.any λkv=>decide (kv.1=k))=aC
 .rw[f_ e,f_ e];exact r.repl k ry
 .rw[fZ e,fZ e];exact Paired.snoc r ⟨rfl,ry⟩
theorem KV.length{vs:List (κ×ag)}(r:KV kvs vs):kvs.length=vs.length:=Paired.length r
end
theorem Fj(r:Zv (kV k) u):(Zu P w).is k u=aC:=by
 cases k with
 |inl i=>obtain⟨t,e⟩:=(show∃t,u=Value.int i t from r);subst e;exact Pg P w i t
 |inr x=>obtain⟨t,e⟩:=(show∃t,u=Value.str x t from r);subst e;exact Ph P w x t
theorem Fk:∀{ks:List Key} {us:List ag},Z1 (ks.map kV) us->ItemsAre (Zu P w) ks us
 | [],_,r=>by rw[List.map_nil]at r;cases r;exact .nil
 |k::ks,_,r=>by
  rw[ax]at r;cases r with
  |cons h t=>exact .cons (Fj h) (Fk t)
abbrev KT(H:Hp):List (List Key×V)->List (List Key×ao×ag)->Prop:=Paired λp q=>p.1=q.1/\H q.2.1=aA (.tup (p.1.map kV))/\Zv p.2 q.2.2
theorem KT.val(r:KT H kvs xs)(k):Tg (Qz kvs k) ((atKey xs k).map (·.2)):=by
 induction r with
 |nil=>exact True.intro
 | @cons p q ps qs h t ih=>
  obtain⟨h1,_,h2⟩:=h;by_cases e:p.1=k
  .have e':q.1=k:=h1.symm.trans e;have b:atKey (q::qs) k=aA q.2:=by simp[atKey,List.find?_cons,e']
   rw[U3 e,b];exact h2
  .have e':¬q.1=k:=λz=>e (h1.trans z);have b:atKey (q::qs) k=atKey qs k:=by simp[atKey,List.find?_cons,e']
   rw[Jt e,b];exact ih
theorem KT.repl(r:KT H kvs xs)(k)(ry:Zv y u):
  KT H (kvs.map λkv=>if kv.1=k then(kv.1,y)else kv) (xs.map (putAt k u)):=by
 induction r with
 |nil=>exact .nil
 | @cons p q ps qs h t ih=>
  rw[ax,ax];refine .cons ?_ ih;obtain⟨h1,h2,h3⟩:=h;unfold putAt;by_cases e:p.1=k
  .rw[f_ e,f_ (h1.symm.trans e)];exact⟨h1,h2,ry⟩
  .rw[fZ e,fZ (λz=>e (h1.trans z))];exact⟨h1,h2,h3⟩
theorem KT.put(r:KT H kvs xs)(k)(hb:H b=aA (.tup (k.map kV)))(ry:Zv y u):
  KT H (Wy kvs k y) (storedH xs k b u):=by
 have e:(kvs.any λkv=>decide (kv.1=k))=(atKey xs k).isSome:=by rw[Ad,(r.val k).isSome_eq,Option.isSome_map]
 unfold Wy storedH;rw[e];by_cases q:(atKey xs k).isSome=aC
 .rw[f_ q,f_ q];exact r.repl k ry
 .rw[fZ q,fZ q];exact Paired.snoc r ⟨rfl,hb,ry⟩
theorem KT.keeps(r:KT H kvs xs)(ht:∀b ys,H b=aA (.tup ys)->H' b=aA (.tup ys)):KT H' kvs xs:=
 Paired.mapP r λ_ _ z=>⟨z.1,ht _ _ z.2.1,z.2.2⟩
theorem ET(ok:Gr P w H h)(e:Rd H a u):Ym P w H h a u:=e.ok ok
theorem M5(ok:Gr P w H h)(e:RdK H a kvs):kvs.length<=sizeLine/\(a==sysModules)=aD/\∃vs,KV kvs vs/\h.DictOf (Zu P w) a vs:=
 let⟨ep,e⟩:=e;let⟨z,y,vs,r,d⟩:=(show Ym P w H h a (.dK kvs ep)from ET ok e);⟨z,y,vs,r,d.dictOf⟩
theorem ES(ok:Gr P w H h)(e:HK H a kvs):kvs.length<=sizeLine/\(a==sysModules)=aD/\∃vs,KV kvs vs/\h.DictOf (Zu P w) a vs:=M5 ok e.rd
theorem G0(ok:Gr P w H h)(e:H a=aA (.tup (ks.map kV))):(tupleKind (Zu P w)).is h ks a:=by
 obtain⟨_,gU,r,o,h1,h2,n,h3⟩:=(show Ym P w H h a (.tup (ks.map kV))from ok a _ e)
 exact⟨o,gU.toArray,n,h1,h2,h3,by simpa using Fk r⟩
theorem Ps(ok:Gr P w H h)(e:RdT H a kvs):kvs.length<=sizeLine/\(a==sysModules)=aD/\
  ∃xs,KT H kvs xs/\h.DictOfH (tupleKind (Zu P w)) a xs:=by
 obtain⟨ep,bs,e⟩:=e;obtain⟨z,y,xs,r,o,es,h1,h2,h3,h4,h5,_⟩:=(show Ym P w H h a (.dT kvs ep bs)from ET ok e)
 refine⟨z,y,xs,r,o,es,ep,h1,h2,h3,h4,λx hx=>?_,h5⟩;have all:∀{l:List (List Key×V)} {m:List (List Key×ao×ag)},KT H l m->∀x∈m,(tupleKind (Zu P w)).is h x.1 x.2.1:=by
  intro l m q;induction q with
  |nil=>intro x hx;exact nomatch hx
  | @cons p q ps qs hq t ih=>
   intro x hx;rcases bj.mp hx with e|hx
   .subst e;exact G0 ok (by rw[<-hq.1];exact hq.2.1)
   .exact ih x hx
 exact all r x hx
theorem rT(ok:Gr P w H h)(e:HTt H a kvs):kvs.length<=sizeLine/\(a==sysModules)=aD/\
  ∃xs,KT H kvs xs/\h.DictOfH (tupleKind (Zu P w)) a xs:=Ps ok e.rd
def Gn(H:Hp)(a:ao)(y:V)(r:Option V):Prop:=
 (∃kvs k,RdK H a kvs/\y=kV k/\r=Qz kvs k)\/∃kvs k b,RdT H a kvs/\y= .ref b/\H b=aA (.tup (k.map kV))/\r=Qz kvs k
def Ae(H:Hp)(a:ao)(y v:V)(R:Hp->Prop):Prop:=
 (∃kvs k,HK H a kvs/\y=kV k/\kvs.length<sizeLine/\∀ep,R (Y3 H a (.dK (Wy kvs k v) ep)))\/
 ∃kvs k b,HTt H a kvs/\y= .ref b/\H b=aA (.tup (k.map kV))/\kvs.length<sizeLine/\∀ep VC bs,H a=aA (.dT kvs VC bs)->R (Y3 H a (.dT (Wy kvs k v) ep (Pj kvs bs k b)))
theorem Gn.k{k:Key}(e:HK H a kvs):Gn H a (kV k) (Qz kvs k):=.inl ⟨kvs,k,e.rd,rfl,rfl⟩
theorem Gn.t{k}(e:HTt H a kvs)(eb:H b=aA (.tup (k.map kV))):Gn H a (.ref b) (Qz kvs k):=.inr ⟨kvs,k,b,e.rd,rfl,eb,rfl⟩
theorem Ae.k{k:Key}(e:HK H a kvs)(hl:kvs.length<sizeLine)(h:∀ep,R (Y3 H a (.dK (Wy kvs k v) ep))):Ae H a (kV k) v R:=.inl ⟨kvs,k,e,rfl,hl,h⟩
theorem Ae.t{k}(e:HTt H a kvs)(eb:H b=aA (.tup (k.map kV)))(hl:kvs.length<sizeLine)(h:∀ep VC bs,H a=aA (.dT kvs VC bs)->R (Y3 H a (.dT (Wy kvs k v) ep (Pj kvs bs k b)))):
  Ae H a (.ref b) v R:=.inr ⟨kvs,k,b,e,rfl,eb,hl,h⟩
section
variable{X:Cx}{gR:List (ao×Obj)}{σ:St}{H:Hp}{s:am}{a:ao}{y v:V}{u r:ag}{o:Option V}{A:c7}{E:ag->am->Prop}
theorem gY.big(I:gY X gR σ H s):sysModules<s.heap.objs.size:=by have h:mainGlobals<s.heap.objs.size:=(I.mod.glob.keeps I.bk).lt;exact Nat.lt_trans (by decide) h
theorem jp(hu:A.units+1<ft)(I:gY X gR σ H s)(g:Gn H a y (aA v))(ry:Zv y u)(h:∀w' s',gY X gR σ H s'->Zv v w'->Q w' s'):
  bi (b9 X.prog X.w) A (getItem (.ref a) u) Q E s:=by
 rcases g with⟨kvs,k,e,ey,l⟩|⟨kvs,k,b,e,ey,eb,l⟩
 .subst ey;obtain⟨z,hd,vs,ZH,dd⟩:=M5 I.hok e;obtain⟨w',hw,WV⟩:=Tg.some_of (v:=v) (o:=valueAt vs k) (by rw[l];exact ZH.val k);exact wpAny_getItem_of (Fj ry) dd.mapOf hw (h w' _ (I.tok _) WV)
 .subst ey;cases(show u=ci b from ry);obtain⟨z,hd,xs,ZH,dd⟩:=Ps I.hok e;obtain⟨w',hw,WV⟩:=Tg.some_of (v:=v) (o:=(atKey xs k).map (·.2)) (by rw[l];exact ZH.val k);obtain⟨p,hp,RA⟩:=cz.mp hw;refine wpAny_getItem_heap (tupleKind_room_in1 hu) (G0 I.hok eb) dd hp ?_;rw[RA];exact h w' _ (I.tok _) WV
theorem ux(hu:A.units+1<ft)(I:gY X gR σ H s)(g:Gn H a y o)(ry:Zv y u)(h:∀s',gY X gR σ H s'->Q (.bool o.isSome) s'):
  bi (b9 X.prog X.w) A (gx .In u (.ref a)) Q E s:=by
 rcases g with⟨kvs,k,e,ey,l⟩|⟨kvs,k,b,e,ey,eb,l⟩
 .subst ey;obtain⟨z,hd,vs,ZH,dd⟩:=M5 I.hok e;refine wpAny_in_of (Fj ry) hd dd.mapOf ?_;rw[<-(ZH.val k).isSome_eq,<-l];exact h _ (I.tok _)
 .subst ey;cases(show u=ci b from ry);obtain⟨z,hd,xs,ZH,dd⟩:=Ps I.hok e;refine wpAny_in_heap (tupleKind_room_in1 hu) (G0 I.hok eb) hd dd ?_;have q:=(ZH.val k).isSome_eq;rw[Option.isSome_map]at q;rw[<-q,<-l];exact h _ (I.tok _)
theorem mK(hu:A.units+1<ft)(I:gY X gR σ H s)(g:Gn H a y o)(ry:Zv y u)(h:∀s',gY X gR σ H s'->Q (.bool (!o.isSome)) s'):
  bi (b9 X.prog X.w) A (gx .NotIn u (.ref a)) Q E s:=by
 rcases g with⟨kvs,k,e,ey,l⟩|⟨kvs,k,b,e,ey,eb,l⟩
 .subst ey;obtain⟨z,hd,vs,ZH,dd⟩:=M5 I.hok e;refine wpAny_notIn_of (Fj ry) hd dd.mapOf ?_;rw[<-(ZH.val k).isSome_eq,<-l];exact h _ (I.tok _)
 .subst ey;cases(show u=ci b from ry);obtain⟨z,hd,xs,ZH,dd⟩:=Ps I.hok e;refine wpAny_notIn_heap (tupleKind_room_in1 hu) (G0 I.hok eb) hd dd ?_;have q:=(ZH.val k).isSome_eq;rw[Option.isSome_map]at q;rw[<-q,<-l];exact h _ (I.tok _)
theorem Ts(I:gY X gR σ H s)(mu:Mut (H a))(hs:g6 a s.heap h')(he:∃q,h'.get? a=aA q)(new:Ym X.prog X.w (Y3 H a ob) h' a ob):
  gY X gR σ (Y3 H a ob) {s with heap:=h',toks:=t'}:=
 I.write (x:=a) (e:=a) mu (.inl rfl) (λb q hb z=>(hs.2 b hb).trans z) he new
theorem Xk(z:kvs.length<=sizeLine)(hd:(a==sysModules)=aD)(ZH:KV kvs vs)(dd:h'.DictOf (Zu P w) a vs):
  ∃ep,∀H',Ym P w H' h' a (.dK kvs ep):=let⟨ep,dd⟩:=dd.dictAt;⟨ep,λ_=>⟨z,hd,vs,ZH,dd⟩⟩
theorem jo(hu:A.units+1<ft)(I:gY X gR σ H s)(g:Ae H a y v R)(ry:Zv y u)(rv:Zv v r)(h:∀H' s',R H'->gY X gR σ H' s'->Q () s'):
  bi (b9 X.prog X.w) A (setItem (.ref a) u r) Q E s:=by
 rcases g with⟨kvs,k,e,ey,l,eH⟩|⟨kvs,k,b,e,ey,eb,l,eH⟩
 .subst ey;obtain⟨z,hd,vs,ZH,dd⟩:=ES I.hok e;have hz:vs.length<=sizeLine:=by rw[<-ZH.length];exact z
  have hl:(Wy kvs k v).length<=sizeLine:=by have:=Cj kvs k v;omega
  refine wpAny_setItem_pairs (hsz:=hz) (Fj ry) dd λh' V_ hs=>?_;have he:∃q,h'.get? a=aA q:=let⟨q,_,_,hq,_⟩:=V_;⟨q,hq⟩
  obtain⟨ep,ok⟩:=Xk hl hd (ZH.put k rv) V_;exact h _ _ (eH ep) (Ts I (by obtain⟨e0,e⟩:=e;rw[e];exact True.intro) hs he (ok _))
 .subst ey;cases(show u=ci b from ry);obtain⟨z,hd,xs,ZH,dd⟩:=rT I.hok e;have hz:xs.length<=sizeLine:=by rw[<-Paired.length ZH];exact z
  have hl:(Wy kvs k v).length<=sizeLine:=by have:=Cj kvs k v;omega
  refine wpAny_setItem_heap (hsz:=hz) (tupleKind_room_in1 hu) (G0 I.hok eb) dd λh' V_ hs=>?_;obtain⟨q,es,ep,hq,h2,h3,h4,_,h5⟩:=V_;obtain⟨e0,bs,e⟩:=e;have hb:(xs.map λx=>x.2.1)=bs:=by
   obtain⟨_,_,Q_,r',_,_,w1,_,w3,w4,_,w6⟩:=(show Ym X.prog X.w H s.heap a (.dT kvs e0 bs)from I.hok a _ e)
   obtain⟨_,_,_,y1,_,y3,y4,_⟩:=dd;rw[w1]at y1;cases y1;rw[w3]at y3;cases y3;have:Q_.map (λx=>x.2.1)=xs.map λx=>x.2.1:=by
    have z:=congrArg (List.map DictEntry.key) (w4.symm.trans y4);rw[cp,cp]at z;have inj:∀{l m:List (List Key×ao×ag)},l.map (DictEntry.key∘entryOfKey (tupleKind (Zu X.prog X.w)))=m.map (DictEntry.key∘entryOfKey (tupleKind (Zu X.prog X.w)))->(l.map λx=>x.2.1)=m.map λx=>x.2.1:=by
     intro l;induction l with
     |nil=>intro m z;cases m with
      |nil=>rfl
      |cons _ _=>cases z
     |cons x l ih=>intro m z;cases m with
      |nil=>cases z
      |cons y m=>rw[ax,ax]at z⊢;injection z with z1 z2;have KW:ci x.2.1=ci y.2.1:=z1;injection KW with KW;rw[KW,ih z2]
    exact inj z
   rw[<-this];exact w6
  have VY:((storedH xs k b r).map λx=>x.2.1)=Pj kvs bs k b:=by
   have ee:(kvs.any λkv=>decide (kv.1=k))=(atKey xs k).isSome:=by rw[Ad,(ZH.val k).isSome_eq,Option.isSome_map]
   unfold Pj storedH;rw[ee];by_cases qq:(atKey xs k).isSome=aC
   .rw[f_ qq,f_ qq,cp,<-hb];refine List.map_congr_left λx _=>?_;show(putAt k r x).2.1=x.2.1;unfold putAt;split<;> rfl
   .rw[fZ qq,fZ qq,cu,hb];rfl
  refine h _ _ (eH ep e0 bs e) (Ts I (by rw[e];exact True.intro) hs ⟨q,hq⟩ ⟨hl,hd,_,(ZH.put k eb rv).keeps λc ys ec=>?_,q,es,hq,h2,h3,h4,h5,VY⟩);rw[Zt (zf ec e (λz=>nomatch z))];exact ec
end
def FF(i:c9):Prop:=∀ov iv,subscripted i aD ov iv=operate [ov,iv] (getItem ov iv)
theorem D3{id:String}(hl:typeLookup (.type T) "__getitem__"=pure (aA (.builtin id)))(hs:FF slice)(h:bi (b9 prog w) A (ig value env) (λo s₁=>bi (b9 prog w) A (ig slice env) (λi s₂=>s₂.TypeIs o T/\bi (b9 prog w) A (getItem o i) Q E s₂) E s₁) E s):
  bi (b9 prog w) A (ig (.Subscript value slice pos) env) Q E s:=by
 refine Subscript_ (gv h (λo s₁ h₁=>gv h₁ (λi s₂ VI=>?_) λ_ _ x=>x) λ_ _ x=>x);obtain⟨hT,VI⟩:=VI;unfold subscriptTail;refine aa ?_;rw[getitemInPython_of_ne hT.not_modules];refine aa (wpAny_specialOf hT hl ?_);have fin:bi (b9 prog w) A (subscripted slice aD o i) (λr s₃=>bi (b9 prog w) A (letTemporaryGo value o r >>=λ_=>pure r) Q E s₃) E s₂:=by rw[hs o i];exact wpAny_operating (gv VI (λr s₃ UM=>aa (wpAny_letTemporaryGo (ad UM))) λ_ _ x=>x)
 first
  |exact ad (aa fin)
  |exact aa (ad (aa fin))
  |exact aa fin
theorem Pt{σ:St}(I:gY X gR σ H s)(g:Gn H a y o):s.TypeIs (.ref a) "dict":=by
 rcases g with⟨kvs,k,e,_,_⟩|⟨kvs,k,b,e,_,_,_⟩
 .obtain⟨_,_,vs,_,dd⟩:=M5 I.hok e;exact dd.typeIs
 .obtain⟨_,_,xs,_,dd⟩:=Ps I.hok e;exact dd.typeIs
def zX(td ty:TE):TE:=λσ H Q=>td σ H λx H1=>ty σ H1 λy H2=>∃a v,x= .ref a/\Gn H2 a y (aA v)/\Q v H2
def Fm(td ty tv:TE):TS:=λD σ H=>tv σ H λv H1=>td σ H1 λx H2=>ty σ H2 λy H3=>∃a,x= .ref a/\Ae H3 a y v (D.nx σ)
theorem D4(hu:X.A.units+1<ft)(ho:PE X o td)(hi:PE X i ty)(hs:FF i):PE X (.Subscript o i pos) (zX td ty):=by intro gR s σ H Q I h;refine D3 PySem.F.slot_dict_getitem.lookup hs (Wu (ho gR s σ H _ I h) λu s1 ⟨x,H1,I1,rx,q1⟩=>Wu (hi gR s1 σ H1 _ I1 q1) λiv s2 ZE=>?_);obtain⟨y,H2,I2,ry,a,v,ex,g,q2⟩:=ZE;subst ex;obtain rfl:u=ci a:=rx;exact⟨Pt I2 g,jp hu I2 g ry λw' s3 I3 WV=>⟨v,H2,I3,WV,q2⟩⟩
theorem Lw(hu:X.A.units+1<ft)(ho:PE X o td)(hi:PE X i ty)(hv:PE X value tv)(hs:swapsWith value (aA (.Subscript o i pos')) pos.line X.env=pure aD):
  PS X (.Assign [.Subscript o i pos'] value pos) (Fm td ty tv):=by
 intro gR s σ H D I h;refine wpAny_Assign_Subscript (Wu (hv gR s σ H _ I h) λr s1 ⟨v,H1,I1,rv,q1⟩=>Wu (ho gR s1 σ H1 _ I1 q1) λu s2 ⟨x,H2,I2,rx,q2⟩=>Wu (hi gR s2 σ H2 _ I2 q2) λiv s3 ⟨y,H3,I3,ry,a,ex,g⟩=>?_) hs;subst ex;obtain rfl:u=ci a:=rx;exact jo hu I3 g ry rv λH4 s4 q3 I4=>⟨σ,H4,I4,q3⟩
theorem Pu(h:f8)(hb:sysModules<h.objs.size):Ym P w H (h.push {cls:=.type "dict",data:=.dict #[]}) h.objs.size (.dK [] 0):=
 ⟨gd _,beq_eq_false_iff_ne.mpr (Ne.symm (cm hb)),[],.nil,_,#[],bo _ rfl,⟨rfl,rfl,rfl⟩,rfl,λ_ he=>by simp at he,Pairs.nil,c6⟩
def Lx:TE:=λ_ H Q=>∀p,H p=aB->Q (.ref p) (Y3 H p (.dK [] 0))
theorem Af:PE X (.Dict [] [] pos) Lx:=λgR s σ H Q I h=>
 wpAny_Dict_empty ⟨.ref s.heap.objs.size,_,I.laid (a:=s.heap.objs.size) (o:=.dK [] 0) (t':=s.toks) (λ_ _ q=>aq _ q) (bc _) (Pu s.heap I.big),rfl,h _ (I.hok.fresh (bc _))⟩
def Xl:List (TE×TE)->St->Hp->(List (V×V)->Hp->Prop)->Prop
  | [],_,H,Q=>Q [] H
  | (tk,tv)::r,σ,H,Q=>tk σ H λx H1=>tv σ H1 λy H2=>Xl r σ H2 λps H3=>Q ((x,y)::ps) H3
abbrev VV:List (V×V)->List (ag×ag)->Prop:=Paired λp q=>Zv p.1 q.1/\Zv p.2 q.2
def PPs(X:Cx)(pos:Pos)(keys:List (Option c9))(YV:List c9)(SF:List (TE×TE)):Prop:=
 ∀(gR:List (ao×Obj)) (s:am) (σ:St) (H:Hp) (Q:List (V×V)->Hp->Prop),gY X gR σ H s->Xl SF σ H Q->
  bi (b9 X.prog X.w) X.A (evalPairs (pairTrees keys YV X.env pos)) (λvs s'=>∃ps H',gY X gR σ H' s'/\VV ps vs/\Q ps H') X.xe s
theorem mJ:PPs X pos [] [] []:=λgR s σ H Q I h=>pairTrees_nil_walk ⟨[],H,I,.nil,h⟩
theorem kf(hk:PE X k tk)(hv:PE X v tv)(hr:PPs X pos ks vs SF):
  PPs X pos (aA k::ks) (v::vs) ((tk,tv)::SF):=λgR s σ H Q I h=>
 pairTrees_cons_walk (Wu (hk gR s σ H _ I h) λu s1 ⟨x,H1,I1,rx,q1⟩=>Wu (hv gR s1 σ H1 _ I1 q1) λw2 s2 ⟨y,H2,I2,ry,q2⟩=>
  Wu (hr gR s2 σ H2 _ I2 q2) λws s3 ⟨ps,H3,I3,ZH,q3⟩=>⟨(x,y)::ps,H3,I3,.cons ⟨rx,ry⟩ ZH,q3⟩)
def Bt(kvs more:List (Key×V)):List (Key×V):=more.foldl (λacc kv=>Wy acc kv.1 kv.2) kvs
theorem KV.merge:∀{more:List (Key×V)} {rs:List (Key×ag)} {kvs:List (Key×V)} {vs:List (Key×ag)},KV more rs->KV kvs vs->KV (Bt kvs more) (merged vs rs):=by
 intro more rs kvs vs r;unfold KV at r;induction r generalizing kvs vs with
 |nil=>intro q;exact q
 | @cons p q ps qs h t ih=>
  intro r0;have e:KV (Wy kvs p.1 p.2) (stored vs q.1 q.2):=by have:=r0.put p.1 h.2;rw[<-h.1];exact this
  exact ih e
theorem Gs:∀more kvs,(Bt kvs more).length<=kvs.length+more.length
 | [],kvs=>by show kvs.length<=kvs.length+0;omega
 |p::r,kvs=>by have h1:=Gs r (Wy kvs p.1 p.2);have h2:=Cj kvs p.1 p.2;show(Bt (Wy kvs p.1 p.2) r).length<=_;rw[aw];omega
theorem Ag:∀{kvs:List (Key×V)} {ws:List (ag×ag)},VV (kvs.map λkv=>(kV kv.1,kv.2)) ws->∃rs,Carries (Zu P w) ws rs/\KV kvs rs
 | [],_,r=>by rw[List.map_nil]at r;cases r;exact⟨[],True.intro,.nil⟩
 |p::kvs,_,r=>by
  rw[ax]at r;cases r with
  | @cons a b as bs h t=>obtain⟨rs,c,q⟩:=Ag (P:=P) (w:=w) t;obtain⟨b1,b2⟩:=b;exact⟨(p.1,b2)::rs,⟨Fj h.1,rfl,c⟩,.cons ⟨rfl,h.2⟩ q⟩
structure M1(X:Cx)(o:c9)(m:Str)(ZJ:Pos)(e:c9)(ZA:Pos):Prop where
 base:attributeBase o m X.env (ig o X.env)=ig o X.env
 few:((gu ZA (ba [e] X.env)).all (λx=>!x.1)&&(backToKw ZA (keywordEach [] X.env)).all (λx=>x.1.isSome)
  &&decide (([e]:List c9).length+([]:List Keyword).length+(if([]:List Keyword).isEmpty then 0 else 1)<30))=aC
 line:(ZJ.endLine==ZA.line)=aC
 trees:gu ZA (ba [e] X.env)=[(aD,ig e X.env)]
structure M2(X:Cx)(o:c9)(m:Str)(ZJ:Pos)(e f:c9)(ZA:Pos):Prop where
 base:attributeBase o m X.env (ig o X.env)=ig o X.env
 few:((gu ZA (ba [e,f] X.env)).all (λx=>!x.1)&&(backToKw ZA (keywordEach [] X.env)).all (λx=>x.1.isSome)
  &&decide (([e,f]:List c9).length+([]:List Keyword).length+(if([]:List Keyword).isEmpty then 0 else 1)<30))=aC
 line:(ZJ.endLine==ZA.line)=aC
 trees:gu ZA (ba [e,f] X.env)=[(aD,ig e X.env),(aD,ig f X.env)]
def IsD(H:Hp)(a:ao):Prop:=(∃kvs,RdK H a kvs)\/∃kvs,RdT H a kvs
theorem ke{σ:St}(I:gY X gR σ H s)(e:RdK H a kvs)(h:∀p ep s',H p=aB->gY X gR σ (Y3 H p (.dK kvs ep)) s'->Q (.ref p) s'):bi (b9 X.prog X.w) A (call (.type "dict") [.ref a]) Q E s:=by obtain⟨z,hd,vs,ZH,dd⟩:=M5 I.hok e;refine kt_call_dict hd dd (by rw[<-ZH.length];exact z) λh' V_ hs=>?_;obtain⟨ep,ok⟩:=Xk z (beq_eq_false_iff_ne.mpr (Ne.symm (cm I.big))) ZH V_;refine h _ ep _ (I.hok.fresh (bc _)) (I.laid (a:=s.heap.objs.size) (o:=.dK kvs ep) (t':=s.toks) (λb q hq=>?_) (bc _) (ok _));exact(hs.2 b (cm (bp hq))).trans (aq _ hq)
end L2
namespace Att
open PySem.W PySem.Calls
theorem Th:∀ns vs,WellAll P h vs (ns.map WData.int)->IntsAre vs ns:=by
 intro ns;induction ns with
 |nil=>intro vs w;rw[List.map_nil]at w;cases w;exact .nil
 |cons n ns ih=>
  intro vs w;rw[ax]at w;cases w with
  |cons a b=>cases a;exact .cons _ _ (ih _ b)
theorem jn{l:OpenLaw}(hn:l.most=aA n)(Z_:l.row.toRowW.claim.pre args=aC)(IF:WellAll P h vals args):
  ∃a vs ns,vals=[ci a]/\args=[WData.list (ns.map WData.int)]/\h.get? a=aA {cls:=.type "list",data:=.seq vs.toArray}/\IntsAre vs ns/\ns.length<=n:=by
 have vS:WShape.hasAll [] args [.list .int]=aC:=(pre_splitW Z_).1;have hc:l.pre.holds [] {args:=args}=aC:=(pre_splitW Z_).2;obtain⟨d,r,rfl,h1,h2⟩:=hasAllW_cons vS;obtain rfl:=hasAllW_nil h2;obtain⟨xs,rfl,h3⟩:=hasW_list h1;obtain⟨ns,rfl⟩:=items_int h3;have hlen:ns.length<=n:=by
  unfold OpenLaw.pre at hc;have h4:(WTm.not (.lt (.lit (.int (n:Int))) (.len (.arg 0)))).holds [] {args:=[.list (ns.map .int)]}=aC:=by have h4:=(holds_andW hc).1;rw[hn]at h4;exact h4
  have h5:=condW_of h4 (w_not (w_lt w_lit (w_len_list (w_arg rfl))));rw[aj]at h5;refine Nat.le_of_not_lt λq=>?_;have q':(n:Int)<((ns.length:Nat):Int):=by omega
  first
   | (rw[eB q']at h5;exact eF h5 (by decide))
   | (simp at h5;omega)
 cases IF with
 |cons w1 w2=>
  cases w2;cases w1 with
  |list ho hall=>exact⟨_,_,ns,rfl,rfl,ho,Th ns _ hall,hlen⟩
theorem jm(l:OpenLaw)(args):l.row.toRowW.claim.post args (.bool aC) args=aC:=
 postW_of (r:=l.row.toRowW) (X:=(aC==aC))
  (show WShape.has [] (.bool aC) .bool=aC by first|rfl|decide|simp[WShape.has,WShape.arms,WShape.armsAll])
  (show(WTm.eq .res (.lit (.bool aC))).value [] {args:=args,res:=aA (.bool aC),after:=args}=aA (.bool (aC==aC))from w_eq_bool (w_res rfl) w_lit) rfl
theorem attach_call{l:OpenLaw}(hn:l.most=aA n)(O_:d.params.defaults=[])(call:∀w s₀ s₁ mg mb fa o pm cd ZX a vs ns,
   Ground q loose [] XP w s₀ mg mb s₁.heap->YP w s₁.heap->
   s₁.heap.get? fa=aA o->o.data= .func (docDef d.name d.params d.body d.scope pm cd ZX)->s₁.heap.CodeRec cd d.name->mg d.name=aA (.ref fa)->
   s₁.heap.get? a=aA {cls:=.type "list",data:=.seq vs.toArray}->IntsAre vs ns->ns.length<=n->s₁.gens= #[]->
   codeAny (b9 l.prog w) callerA (.call (.ref fa) ⟨[.ref a],[]⟩) (λr s'=>r= .ok (.ret (.bool aC))/\OldK s₁.heap s'.heap/\s'.os=s₁.os/\AllBare s'.gens) s₁):
  WalkO q loose XP YP l.row.toRowW d [] (λf vs=>PySem.call f vs):=by
 intro w s₀ s₁ mg mb G Y fa o pm cd ZX dV kV ho hd ZT hD IW hg args vals as Z_ hlay hrd IF hlo;obtain rfl:dV= .none:=Dflts.none hD O_;obtain rfl:kV= .none:=Dflts.noKw hD;obtain⟨a,vs,ns,rfl,rfl,RF,VQ,hlen⟩:=jn hn Z_ IF;refine enter_call (codeAny_mono (call w s₀ s₁ mg mb fa o pm cd ZX a vs ns G Y ho (fd_plain hd) ZT IW RF VQ hlen hg) λr s' hq=>?_);obtain⟨rfl,h2,h3,h4⟩:=hq;exact⟨.inl ⟨.bool aC,.bool aC,[],rfl,λ_=>rfl,.bool aC,jm l _,λ_=>⟨List.Pairwise.nil,λ_ hm=>(nomatch hm)⟩⟩,h2,h3,h4⟩
end Att
namespace L2
theorem Fn:∀{vs:List ag} {ns:List Int},IntsAre vs ns->Z1 (ns.map V.int) vs
 |_,_,.nil=>.nil
 |_,_,.cons n t h=>.cons ⟨t,rfl⟩ (Fn h)
noncomputable def Ul(s:Stmt):Arguments:=match s with
 | .FunctionDef _ a _ _ _ _ _ _ _ _=>a
 |_=>{posonlyargs:=[],args:=[],vararg:=aB,kwonlyargs:=[],kw_defaults:=[],kwarg:=aB,defaults:=[]}
noncomputable def Qm(s:Stmt):List Stmt:=match s with
 | .FunctionDef _ _ b _ _ _ _ _ _ _=>b
 |_=>[]
noncomputable def Yq(s:Stmt):Scope:=match s with
 | .FunctionDef _ _ _ _ _ _ sc _ _ _=>sc
 |_=>{kind:=.function,names:=[],isGenerator:=aD,isCoroutine:=aD}
abbrev Om:CXT:=λ_ _ _ _ _ _=>False
abbrev E0:XK:=λ_ _ _=>False
theorem ER:Xe Om X E0:=λ_ _ _ _ _ _ _ h=>h.elim
structure Fun(K:af)(x qual:Str)(st:Stmt)(f:ao)(fd:FuncData):Prop where
 ex:∃(oc:ag) (od:Option ao) (kV ZX pm:ag) (an:Option ao) (ZN ct:ag) (XI:Array (Option ag)),
  fd=PySem.W.fnOf x qual (Ul st) (Qm st) (Yq st) .none kV ZX pm an ZN ct/\K.lookup f=aA ⟨oc,od,.func fd,XI⟩/\PySem.W.codeIn K ZN qual=aC
 kp:PySem.W.keepIn K (.ref f)=aC
section
variable{K:af}
theorem Fun.ok{st}(F:Fun K x qual st f fd)(S:FnScope N ps (Yq st))(len:∀vs H Q E,sp vs H Q E->vs.length=ps.length)(XH:∀ZN A outer s H vs Q E,fJ k (A.deeper (envOfC qual (Yq st) s.heap.objs.size f ZN))->sp vs H Q E->
   ∃t,Rj (Po Om P w K mg base N qual (Yq st) f ZN A outer s H E).nox (Qm st) t/\t {nx:=λ_ H'=>Q .non H',rt:=Q} (Bg N vs) H):FnOk P w K mg base Om (k+1) f fd ps sp:=by
 obtain⟨oc,od,kV,ZX,pm,an,ZN,ct,XI,rfl,lk,ZT⟩:=F.ex;refine zZ lk ZT S len λA outer s H vs Q E hr UA=>?_;obtain⟨t,h,q⟩:=XH ZN A outer s H vs Q E hr UA;exact⟨t,h.nox,q⟩
theorem Fun.binds{st}(F:Fun K x qual st f fd)(h:∀kV ZX pm an ZN ct us,us.length=ps.length->bindArgs (PySem.W.fnOf x qual (Ul st) (Qm st) (Yq st) .none kV ZX pm an ZN ct) ⟨us,[]⟩=pure (ps.zip us)):Rl K fd ps []:=by
 obtain⟨oc,od,kV,ZX,pm,an,ZN,ct,XI,rfl,lk,ZT⟩:=F.ex;exact .all (h kV ZX pm an ZN ct)
theorem gK{st}{kV ZX pm ZN ct}(l:K.lookup f=aA ⟨oc,od,.func (PySem.W.fnOf x qual (Ul st) (Qm st) (Yq st) .none kV ZX pm an ZN ct),XI⟩)(c:PySem.W.codeIn K ZN qual=aC)(k:PySem.W.keepIn K (.ref f)=aC):Fun K x qual st f (PySem.W.fnOf x qual (Ul st) (Qm st) (Yq st) .none kV ZX pm an ZN ct):=⟨⟨oc,od,kV,ZX,pm,an,ZN,ct,XI,rfl,l,c⟩,k⟩
end
theorem EQ(hr:fJ k A):A.units+1<cLine:=gw (Nat.add_le_add_left (by decide:1<=64) _) hr.units
def Zj(H H':Hp):Prop:=∀b o,H b=aA o->H' b=aA o
theorem Zj.refl(H):Zj H H:=λ_ _ h=>h
theorem Zj.trans(a:Zj H H1)(b:Zj H1 H2):Zj H H2:=λc o h=>b c o (a c o h)
theorem Zj.free(e:Zj H H')(h:H' l=Option.none):H l=Option.none:=by
 cases q:H l with
 |none=>rfl
 |some o=>rw[e l o q]at h;cases h
theorem PE.imp(h:PE X e t)(w:∀σ H Q,t' σ H Q->t σ H Q):PE X e t':=λgR s σ H Q I q=>h gR s σ H Q I (w σ H Q q)
theorem PT.imp(h:PT X e t)(w:∀σ H Q,t' σ H Q->t σ H Q):PT X e t':=λgR s σ H Q I q=>h gR s σ H Q I (w σ H Q q)
theorem PW.imp(h:PW X e t)(w:∀σ H Q,t' σ H Q->t σ H Q):PW X e t':=λwh gR s σ H Q I q=>h wh gR s σ H Q I (w σ H Q q)
theorem PA.imp(h:PA X e t)(w:∀σ H Q,t' σ H Q->t σ H Q):PA X e t':=λpos gR s σ H Q I q=>h pos gR s σ H Q I (w σ H Q q)
theorem PS.imp(h:PS X e t)(w:∀D σ H,t' D σ H->t D σ H):PS X e t':=λgR s σ H D I q=>h gR s σ H D I (w D σ H q)
theorem Rj.imp(h:Rj X e t)(w:∀D σ H,t' D σ H->t D σ H):Rj X e t':=λgR s σ H D I q=>h gR s σ H D I (w D σ H q)
theorem PG.imp(h:PG X e t)(w:∀v σ H Q,t' v σ H Q->t v σ H Q):PG X e t':=λgR s σ H v u Q I r q=>h gR s σ H v u Q I r (w v σ H Q q)
theorem PGs.imp(h:PGs X e t)(w:∀v σ H Q,t' v σ H Q->t v σ H Q):PGs X e t':=λgR s σ H vs us Q I r q=>h gR s σ H vs us Q I r (w vs σ H Q q)
theorem PI.imp(h:PI X tg e t)(w:∀σ H R,t' σ H R->t σ H R):PI X tg e t':=λgR s σ H R I q=>h gR s σ H R I (w σ H R q)
noncomputable def Ti(cells:List (Str×ao)):List (Str×NameKind)->List (Str×ao)->List (Str×ao)
 | [],cs=>cs
 | (n,k)::r,cs=>Ti cells r (if k= .free then(n,(cells.lookup n).getD 0)::cs else cs)
theorem G1:∀names cs,(∀y∈names,y.2= .free->∃c,env.cells.lookup y.1=aA c)->
    (forIn names cs (λx r=>if(x.2==gp)=aC then do let a<-cellOf env x.1;pure (ForInStep.yield ((x.1,a)::r))else pure (ForInStep.yield r)):Sem (List (Str×ao)))=pure (Ti env.cells names cs)
  | [],cs,_=>by rw[List.forIn_nil];rfl
  | (n,k)::r,cs,h=>by
    rw[List.forIn_cons];by_cases hk:k= .free
    · obtain⟨c,hc⟩:=h (n,k) ac hk
      subst hk;have e1:cellOf env n=pure c:=by unfold cellOf;rw[hc]
      show((if(gp==gp)=aC then(cellOf env n >>=λa=>pure (ForInStep.yield ((n,a)::cs)))else pure (ForInStep.yield cs)) >>=λs=>_)=_;rw[f_ (show(gp==gp)=aC by decide),e1];show(forIn r ((n,c)::cs) _:Sem (List (Str×ao)))=_;rw[G1 r _ λy hy=>h y (ah _ hy)];show _=pure (Ti env.cells r (if gp=gp then(n,(env.cells.lookup n).getD 0)::cs else cs));rw[f_ rfl,hc];rfl
    · have hb:(k==gp)=aD:=by simpa using hk
      show((if(k==gp)=aC then(cellOf env n >>=λa=>pure (ForInStep.yield ((n,a)::cs)))else pure (ForInStep.yield cs)) >>=λs=>_)=_;rw[hb,fZ bv];show(forIn r cs _:Sem (List (Str×ao)))=_;rw[G1 r _ λy hy=>h y (ah _ hy)];show _=pure (Ti env.cells r (if k=gp then _ else cs));rw[fZ hk]
theorem Gu(h:∀y∈scope.names,y.2= .free->∃c,env.cells.lookup y.1=aA c):closureFor scope env=pure (Ti env.cells scope.names []):=by simp only[closureFor];rw[G1 scope.names [] h];rfl
theorem Pv:∀{names:List (Str×NameKind)} {cs:List (Str×ao)},(∀y∈names,y.2= .free->∃c,cells.lookup y.1=aA c)->
    (cs.lookup x=aA c->cells.lookup x=aA c)->(Ti cells names cs).lookup x=aA c->cells.lookup x=aA c
  | [],_,_,h0,e=>h0 e
  | (n,k)::r,cs,h,h0,e=>by
    refine Pv (names:=r) (λy hy=>h y (ah _ hy)) ?_ e;intro e';by_cases hk:k= .free
    · rw[f_ hk]at e'
      obtain⟨c',hc⟩:=h (n,k) ac hk;rw[hc]at e';by_cases hx:x==n
      · simp only[List.lookup_cons,hx]at e'
        cases e';have:x=n:=by simpa using hx
        rw[this];exact hc
      · have YX:(x==n)=aD:=by simpa using hx
        simp only[List.lookup_cons,YX]at e';exact h0 e'
    · rw[fZ hk]at e';exact h0 e'
theorem Fo:∀{names:List (Str×NameKind)} {cs:List (Str×ao)},(∃c,cs.lookup x=aA c)->∃c,(Ti cells names cs).lookup x=aA c
  | [],_,h=>h
  | (n,k)::r,cs,⟨c,h⟩=>by
    refine Fo (names:=r) ?_;by_cases hk:k= .free
    · rw[f_ hk]
      by_cases hx:x==n
      · exact⟨(cells.lookup n).getD 0,by simp only[List.lookup_cons,hx]⟩
      · have YX:(x==n)=aD:=by simpa using hx
        exact⟨c,by simp only[List.lookup_cons,YX];exact h⟩
    · rw[fZ hk];exact⟨c,h⟩
theorem Rn:∀{names:List (Str×NameKind)} {cs:List (Str×ao)},(x,gp)∈names->∃c,(Ti cells names cs).lookup x=aA c
  | [],_,h=>nomatch h
  | (n,k)::r,cs,h=>by
    rcases bj.mp h with e|e
    · cases e
      refine Fo (names:=r) ⟨(cells.lookup x).getD 0,?_⟩;rw[f_ rfl];simp[List.lookup_cons]
    · exact Rn (names:=r) e
noncomputable def rlF(env:Env):Str×NameKind->Str×NameKind:=λ(n,k)=>if(k==gp&&env.scope.kind== .function&&env.kindOf n==aA .cell)then(n,NameKind.cell)else(n,k)
theorem Lz(env p):(rlF env p).1=p.1:=by obtain⟨n,k⟩:=p;unfold rlF;dsimp only;split<;> rfl
theorem On{f:Str×NameKind->Str×NameKind}(h:∀p,(f p).1=p.1)(x):∀names:List (Str×NameKind),(names.map f).lookup x=(names.lookup x).map λk=>(f (x,k)).2
  | []=>rfl
  | (n,k)::r=>by
    have ih:=On h x r;have e:f (n,k)=(n,(f (n,k)).2):=Prod.ext (h (n,k)) rfl;rw[ax,e,List.lookup_cons,List.lookup_cons];cases hx:x==n with
    |true=>
      have:x=n:=by simpa using hx
      subst this;rfl
    |false=>exact ih
theorem Ah:∀{names:List (Str×NameKind)},names.lookup x=aA k->(x,k)∈names
  | [],h=>by simp at h
  | (n,k')::r,h=>by
    rw[List.lookup_cons]at h;cases hx:x==n with
    |true=>
      rw[hx]at h;have:x=n:=by simpa using hx
      subst this;cases h;exact ac
    |false=>rw[hx]at h;exact ah _ (Ah h)
theorem Bu{names:List (Str×NameKind)}(hn:∀y∈names,y.2≠.cell)(hk:kk= .cell\/kk= .free)(h:(names.map (rlF env)).lookup x=aA kk):(x,gp)∈names:=by
 rw[On (Lz env)]at h;obtain⟨k,h1,h2⟩:=cz.mp h;have hm:=Ah h1;have hc:k≠.cell:=hn _ hm;by_cases hf:k= .free
 .subst hf;exact hm
 .exfalso;have hb:(k==gp)=aD:=by simpa using hf
  unfold rlF at h2;simp only[hb,Bool.false_and,bq,if_false]at h2;rcases hk with e|e
  .exact hc (h2.trans e)
  .exact hf (h2.trans e)
inductive BSrc where
 |own|cap (j:Nat)|acc
noncomputable def zW(σ:St)(acc:ao):BSrc->Option V
 | .own=>aB
 | .cap j=>(σ[j]?).join
 | .acc=>aA (.ref acc)
noncomputable def Xm(src:List BSrc)(σ:St)(acc:ao):St:=src.map (zW σ acc)
abbrev Cx.block(X:Cx)(N':List Str)(scope:Scope)(C:ao)(s₀:am)(H₀:Hp)(ex:List ao):Cx:=
 {X with N:=N',env:=compEnvC scope (Ti X.env.cells scope.names []) C X.env,s₀:=s₀,H₀:=H₀,outer:=X.stack,stack:=X.stack,ex:=ex,fn:=λ_=>aD,pn:=[],xe:=λ_ _=>False}
structure CompScope(X:Cx)(N':List Str)(scope:Scope)(src:List BSrc):Prop where
 kind:scope.kind= .function
 nocell:∀y∈scope.names,y.2≠.cell
 names:∀y∈scope.names,y.2= .local->scope.names.lookup y.1=aA .local
 free:∀y∈scope.names,y.2= .free->X.env.kindOf y.1=aA .cell\/X.env.kindOf y.1=aA .free
 len:src.length=N'.length
 cap:∀(k j:Nat) (x:Str),src[k]? =aA (.cap j)->N'[k]? =aA x->X.N[j]? =aA x/\(X.env.kindOf x=aA .cell\/X.env.kindOf x=aA .free)/\scope.names.lookup x=aA .free
 acc:∀(k:Nat) (x:Str),src[k]? =aA .acc->N'[k]? =aA x->scope.names.lookup x=aB
theorem Go{names:List (Str×NameKind)}(h:names.lookup x=aB):(names.map (rlF env)).lookup x=aB:=by rw[On (Lz env),h];rfl
theorem Gp{names:List (Str×NameKind)}(h:names.lookup x=aA .free):(names.map (rlF env)).lookup x=aA .cell\/(names.map (rlF env)).lookup x=aA .free:=by
 rw[On (Lz env),h];unfold rlF;dsimp only[Option.map];split
 .exact .inl rfl
 .exact .inr rfl
section
variable{X:Cx}{N':List Str}{scope:Scope}{src:List BSrc}{gR:List (ao×Obj)}{σ:St}{H:Hp}{s:am}{C acc:ao}{fp:List ao}
theorem Pw(S:CompScope X N' scope src)(I:gY X gR σ H s)(hC:C=s.heap.objs.size)(hf:∀b∈fp,Q2 X gR H b)(MY:∀b∈fp,∃o,s.heap.get? b=aA o)(X_:h1.Ns C λ_=>aB)(hk:∀b o,s.heap.get? b=aA o->h1.get? b=aA o):
  gY (X.block N' scope C s H fp) [] (Xm src σ acc) H {s with heap:=h1,toks:=tk}:=by
 have NN:∀y∈scope.names,y.2= .free->∃c,X.env.cells.lookup y.1=aA c:=λy hy e=>I.ok.has y.1 (S.free y hy e);have sub:∀x c,(Ti X.env.cells scope.names []).lookup x=aA c->X.env.cells.lookup x=aA c:=λx c e=>Pv NN (λh=>by simp at h) e;have gt:∀b,b<s.heap.objs.size->b≠C:=λb hb e=>by rw[e,hC]at hb;exact Nat.lt_irrefl _ hb
 refine⟨⟨I.ok.mod,S.kind,I.ok.glob,I.ok.blt,by rw[hC];exact bc _,λx y c h1 h2=>I.ok.inj x y c (sub x c h1) (sub y c h2),λx hx=>?_,λx c h=>eF h bv,I.ok.hd,I.ok.frames,.inl rfl,λb hb=>?_,I.bs,
  dv I.ok.bsz I.sz,λb o e hb=>?_,λb hb hs=>?_,I.stack,I.stkFree⟩,rfl,I.bare,Un.kept hk,⟨_,X_,λi x v e1 e2 e3=>?_⟩,λx c e=>?_,?_,λx c e=>I.freeC x c (sub x c e),λp hp=>?_,I.hok.kept hk,?_⟩
 .rcases hx with hx|hx
  .exact Rn (Bu S.nocell (.inl rfl) hx)
  .exact Rn (Bu S.nocell (.inr rfl) hx)
 .refine W0 (hf b hb) λf0 f1 f2 f3 f4 f5=>?_;refine⟨?_,λx c e=>f4 x c (sub x c e)⟩;show b≠C;obtain⟨o,ho⟩:=MY b hb;exact gt b (bp ho)
 .refine W0 (hf b hb) λf0 f1 f2 f3 f4 f5=>?_;rcases f3 with z|z
  .exact I.ok.noex b o e z
  .exact eF (df (bp e) (dv I.ok.bsz z)) (Nat.lt_irrefl _)
 .refine W0 (hf b hb) λf0 f1 f2 f3 f4 f5=>?_;rcases bj.mp (I.stkSub b hs)with z|z
  .exact f1 z
  .exact f2 z
 .have IK:∃q,src[i]? =aA q:=by
   cases q:src[i]? with
   |some q0=>exact⟨q0,rfl⟩
   |none=>have UQ:(Xm src σ acc)[i]? =aA (aA v):=e2;unfold Xm at UQ;rw[ay,q]at UQ;cases UQ
  obtain⟨q,hq⟩:=IK;have UQ:(Xm src σ acc)[i]? =aA (aA v):=e2;unfold Xm at UQ;rw[ay,hq]at UQ;have NH:zW σ acc q=aA v:=dg.inj UQ;cases q with
  |own=>cases NH
  |acc=>
   exfalso;have hno:=Go (env:=X.env) (S.acc i x hq e1);have RH:(relabel scope X.env).names.lookup x=aB:=hno;have GM:V7 (relabel scope X.env) x:=e3;rcases GM with z|z|z
   .rw[RH]at z;cases z
   .rw[RH]at z;cases z
   .rw[RH]at z;cases z
  |cap j=>
   obtain⟨hj,WO,v4⟩:=S.cap i j x hq e1;have OF:σ[j]? =aA (aA v):=by
    have e4:(σ[j]?).join=aA v:=NH;cases r:σ[j]? with
    |none=>rw[r]at e4;cases e4
    |some o=>rw[r]at e4;cases o with
     |none=>cases e4
     |some w'=>cases e4;rfl
   obtain⟨m,hn,hl⟩:=I.loc;obtain⟨u,ru,l⟩:=hl j x v hj OF (by rcases WO with z|z;exact .inr (.inl z);exact .inr (.inr z));refine⟨u,ru,?_⟩;rcases l with⟨z,_⟩|⟨_,c,hc,hcell⟩
   .rcases WO with y|y
    .rw[y]at z;cases z
    .rw[y]at z;cases z
   .have GM:V7 (relabel scope X.env) x:=e3;have fin:∀kk,kk= .cell\/kk= .free->(relabel scope X.env).names.lookup x=aA kk->AU (X.block N' scope C s H fp).env h1 (λ_=>aB) x u:=λkk CP hx=>by
     obtain⟨c',TX⟩:=Rn (cells:=X.env.cells) (cs:=[]) (Bu S.nocell CP hx);have:=sub x c' TX;rw[hc]at this;cases this;obtain⟨oc,VM,VL⟩:=hcell;refine .inr ⟨?_,c,TX,oc,hk c oc VM,VL⟩;rcases CP with y|y
     .subst y;exact .inl hx
     .subst y;exact .inr hx
    rcases GM with z|z|z
    .exfalso;have z':(relabel scope X.env).names.lookup x=aA .local:=z;rcases Gp (env:=X.env) v4 with y|y
     .have y':(relabel scope X.env).names.lookup x=aA .cell:=y;rw[z']at y';cases y'
     .have y':(relabel scope X.env).names.lookup x=aA .free:=y;rw[z']at y';cases y'
    .exact fin .cell (.inl rfl) z
    .exact fin .free (.inr rfl) z
 .refine Wq (I.cell x c (sub x c e)) λv oc VM VL=>?_;exact⟨v,oc,hk c oc VM,VL⟩
 .show H C=aB;rw[hC];exact I.hok.fresh (bc _)
 .have hp':p∈([]:List (ao×Obj)):=by simpa using hp
  exact nomatch hp'
 .show(Xm src σ acc).length=N'.length;unfold Xm;rw[aj];exact S.len
def EW(src:List BSrc)(wi:TI)(g:TG)(tt:TT)(te:TE):TE:=λσ H Q=>wi σ H λJ H1=>∀acc,H1 acc=aB->
 ∃W:Nat->Nat->St->Hp->Prop,(∃m,W 0 m (Xm src σ acc) (Y3 H1 acc (.lst [])))/\∀i m ZB H,W i m ZB H->(J.stop i H/\Q (.ref acc) H)\/
  (J.go i H/\∀x H',J.yld i H x H'->g x ZB H' λWT H2=>tt WT H2 λb H3=>if b=aC then te WT H3 λy H4=>Gc (.ref acc) [y] H4 λ_ H5=>∃m',m'<m/\W (i+1) m' WT H5 else∃m',m'<m/\W (i+1) m' WT H3)
def PTs(X:Cx)(YI:List c9)(t:TT):Prop:=
 ∀(gR:List (ao×Obj)) (s:am) (σ:St) (H:Hp) (Q:Bool->Hp->Prop),gY X gR σ H s->t σ H Q->
  bi (b9 X.prog X.w) X.A (forIn YI aC λc r=>if r=aC then do let ok<-isTrue c X.env (ig c X.env);pure (ForInStep.yield ok)else pure (ForInStep.yield r)) (TP X gR σ Q) X.xe s
def rR:TT:=λ_ H Q=>Q aC H
theorem mI:PTs X [] rR:=λ_ s σ H Q I h=>wpAny_tests_nil ⟨H,I,h⟩
theorem mH(h:PT X c t):PTs X [c] t:=λgR s σ H Q I q=>wpAny_tests_one (h gR s σ H Q I q)
theorem jk{acc:ag}(I:Nat->am->Prop)(turn:∀n s,I n s->bi (b9 prog w) A (pyNext it) (λr s₁=>match r with
   |none=>R (.ok .next) s₁
   |some v=>bi (b9 prog w) A (letOwnedTupleGo YH it v) (λ_ s₀=>bi (b9 prog w) A (assign YH env v) (λ_ s₂=>
     bi (b9 prog w) A (forIn YI aC λc r=>if r=aC then do let ok<-isTrue c env (ig c env);pure (ForInStep.yield ok)else pure (ForInStep.yield r)) (λok s₃=>if ok=aC then bi (b9 prog w) A (ig elt env) (λx UG=>
      bi (b9 prog w) A (call (.builtin "list.append") [acc,x]) (λ_ PK=>∃m,m<n/\I m PK) (λ_ _=>False) UG) (λ_ _=>False) s₃
      else∃m,m<n/\I m s₃) (λ_ _=>False) s₂)
     (λ_ _=>False) s₀) (λ_ _=>False) s₁) (λ_ _=>False) s)(n)(h:I n s):codeAny (b9 prog w) A (.compLoop (.ListComp elt [⟨YH,ZD,YI,0⟩] scope pos) 0 it acc env) R s:=by
 refine codeAny_loop rfl I (λn s hI=>?_) n h;show bi _ A ((compTurn (.ListComp elt [⟨YH,ZD,YI,0⟩] scope pos) 0 it acc env).onRaise (λx=>do noteFrame x env;theTreesLotGoes x)) _ _ s;refine wpAny_noted ?_;rw[compTurn_list];refine aa (wpAny_standAt (aa (gv (turn n s hI) (λr s₁ h₁=>?_) λ_ _ f=>f.elim)));cases r with
 |none=>exact ad h₁
 |some v=>
  refine aa (gv h₁ (λ_ s₀ OE=>?_) λ_ _ f=>f.elim);refine aa (gv OE (λ_ s₂ VI=>?_) λ_ _ f=>f.elim);refine aa (gv VI (λwy s₃ UM=>?_) λ_ _ f=>f.elim);cases wy with
  |false=>exact ad ⟨rfl,UM⟩
  |true=>exact aa (aa (gv UM (λx UG IB=>aa (gv IB (λ_ PK IA=>ad (ad ⟨rfl,IA⟩)) λ_ _ f=>f.elim)) λ_ _ f=>f.elim))
theorem Ai{Q:VK}{RR:ag->ao->Result->am->Prop}(hc:X.calm=aC)(S:CompScope X N' scope src)(hg:∀C s₀ H₀ ex,PG (X.block N' scope C s₀ H₀ ex) tg g)(ht:∀C s₀ H₀ ex,PTs (X.block N' scope C s₀ H₀ ex) YI tt)(he:∀C s₀ H₀ ex,PE (X.block N' scope C s₀ H₀ ex) elt te)(I:gY X gR σ H s)(T:Turn X.prog X.w X.K tg J fp it tn)(st:tn 0 s.heap)(hf:∀b∈fp,Q2 X gR H b)(q:∀acc,H acc=aB->∃W:Nat->Nat->St->Hp->Prop,(∃m,W 0 m (Xm src σ acc) (Y3 H acc (.lst [])))/\∀i m ZB H,W i m ZB H->(J.stop i H/\Q (.ref acc) H)\/
   (J.go i H/\∀x H',J.yld i H x H'->g x ZB H' λWT H2=>tt WT H2 λb H3=>if b=aC then te WT H3 λy H4=>Gc (.ref acc) [y] H4 λ_ H5=>∃m',m'<m/\W (i+1) m' WT H5 else∃m',m'<m/\W (i+1) m' WT H3))(uG:∀acc C s' H' m,gY X gR σ H' s'->Q (.ref acc) H'->s'.heap.Ns C m->H' C=aB->C≠X.env.locals->X.s₀.heap.objs.size<=C->(∀x c,X.env.cells.lookup x=aA c->c≠C)->(∀p∈X.pn++gR,p.1≠C)->
   RR (.ref acc) C (.ok .next) s'):
  bi (b9 X.prog X.w) X.A (newList []) (λacc s₃=>bi (b9 X.prog X.w) X.A (newFunctionEnv scope X.env.globals (Ti X.env.cells scope.names []) [] X.env.qual aB .none (aA X.env)) (λNJ UG=>
   codeAny (b9 X.prog X.w) X.A (.compStart (.ListComp elt [⟨tg,ZD,YI,0⟩] scope pos) 0 (.ref it) acc {NJ with scope:=relabel scope X.env}) (RR acc NJ.locals) UG) E s₃) E s:=by
 have MY:∀b∈fp,∃o,s.heap.get? b=aA o:=λb hb=>let⟨o,e,_⟩:=T.obj 0 _ st b hb;⟨o,e⟩
 refine gr (wpAny_newFunctionEnv S.nocell (by intro y hy;simp at hy) (λh₁ XZ XV=>?_) S.kind);dsimp only at XZ XV⊢;have WF:H s.heap.objs.size=aB:=I.hok.fresh (bc _);have I3:gY X gR σ (Y3 H s.heap.objs.size (.lst [])) {s with heap:=s.heap.push {cls:=.type "list",dict:=aB,data:=.seq ([]:List ag).toArray}}:=I.lnew (t':=s.toks) (gU:=[]) (ys:=[]) .nil (gd _);have MZ:∀b∈fp,Q2 X gR (Y3 H s.heap.objs.size (.lst [])) b:=λb hb=>by obtain⟨f0,f⟩:=hf b hb;obtain⟨o,ho⟩:=MY b hb;exact⟨by rw[Zt (cm (bp ho))];exact f0,f⟩
 have OZ:∀b∈fp,∃o,(s.heap.push {cls:=.type "list",dict:=aB,data:=.seq ([]:List ag).toArray}).get? b=aA o:=λb hb=>let⟨o,e⟩:=MY b hb;⟨o,aq _ e⟩
 obtain⟨W,⟨m0,w0⟩,turn⟩:=q _ WF;generalize hH2:s.heap.push {cls:=.type "list",dict:=aB,data:=.seq ([]:List ag).toArray}=H2 at XZ XV I3 OZ⊢;have keep:∀b o,H2.get? b=aA o->h₁.get? b=aA o:=λb o e=>XV.extBut b o (cm (bp e)) (aq _ e);have J0:=Pw (N':=N') (scope:=scope) (src:=src) (acc:=s.heap.objs.size) (tk:=s.toks+([]:List (Str×ag)).length) (C:=H2.objs.size) S I3 rfl MZ OZ (show h₁.Ns H2.objs.size (λ_=>aB)from XZ) keep;have RZ:tn 0 h₁:=T.keep 0 s.heap h₁ st λb hb o e=>keep b o (by rw[<-hH2];exact aq _ e);have cne:H2.objs.size≠X.env.locals:=Nat.ne_of_gt I3.lt;have uZ:X.s₀.heap.objs.size<=H2.objs.size:=I3.sz;have NO:∀x c,X.env.cells.lookup x=aA c->c≠H2.objs.size:=λx c e z=>by refine Wq (I3.cell x c e) λv oc VM _=>?_;exact eF (bp VM) (by rw[z];exact Nat.lt_irrefl _)
 have GQ:∀p∈X.pn++gR,p.1≠H2.objs.size:=λp hp z=>eF (bp (I3.pin p hp).1) (by rw[z];exact Nat.lt_irrefl _);have SU:∀s₃:am,s₃={s with heap:=h₁,toks:=s.toks+([]:List (Str×ag)).length}->
   codeAny (b9 X.prog X.w) X.A (.compLoop (.ListComp elt [⟨tg,ZD,YI,0⟩] scope pos) 0 (.ref it) (.ref s.heap.objs.size) (compEnvC scope (Ti X.env.cells scope.names []) H2.objs.size X.env)) (RR (.ref s.heap.objs.size) H2.objs.size) s₃:=by
  rintro s₃ rfl;refine jk (λn s'=>∃i ZB H',gY (X.block N' scope H2.objs.size {s with heap:=H2} (Y3 H s.heap.objs.size (.lst [])) fp) [] ZB H' s'/\tn i s'.heap/\(∀b∈fp,H' b=aB)/\W i n ZB H') ?_ m0 ⟨0,_,_,J0,RZ,λb hb=>(MZ b hb).1,w0⟩;rintro n s4 ⟨i,UT,H4,J4,st4,fr4,w4⟩;have GI:∀{H':Hp},(∀b∈fp,H' b=aB)->∀b∈fp,Q2 (X.block N' scope H2.objs.size {s with heap:=H2} (Y3 H s.heap.objs.size (.lst [])) fp) [] H' b:=fun{H'} hn b hb=>by
   refine W0 (MZ b hb) λf0 f1 f2 f3 f4 f5=>?_;refine⟨hn b hb,?_,λz=>J4.ok.exfs b hb z,.inl hb,λx c e=>(J4.ok.exf b hb).2 x c e,λp hp=>?_⟩
   .exact(J4.ok.exf b hb).1
   .have hp':p∈([]:List (ao×Obj)):=by simpa using hp
    exact nomatch hp'
  rcases turn i n UT H4 w4 with⟨stop,qn⟩|⟨go,step⟩
  .refine Wu (T.done (X.block N' scope H2.objs.size {s with heap:=H2} (Y3 H s.heap.objs.size (.lst [])) fp) rfl rfl rfl hc i [] s4 UT H4 _ J4 (GI fr4) st4 stop) λr s5 ⟨hr,J5⟩=>?_;subst hr;obtain⟨m5,vc,_⟩:=J5.loc;have I5:gY X gR σ H4 s5:=I3.call' (ch:=fp) J5.os J5.base J5.hok J5.bare λb hb=>by refine W0 (MZ b hb) λf0 f1 f2 f3 f4 f5=>?_;exact⟨f3,f1,f4,f5⟩
   exact uG _ _ s5 H4 m5 I5 qn vc J5.free cne uZ NO GQ
  .refine Wu (T.item (X.block N' scope H2.objs.size {s with heap:=H2} (Y3 H s.heap.objs.size (.lst [])) fp) rfl rfl rfl hc i [] s4 UT H4 _ J4 (GI fr4) st4 go) λr s5 ⟨u,hr,h5⟩=>?_;subst hr;refine Wu h5 λ_ s6 ZE=>?_;obtain⟨x,H6,J6,r6,y6,K',uR⟩:=ZE;have J6':=J6.pinned (GI uR) (T.obj _ _ K');have again:∀{YR:St} {H7:Hp} {s7:am},gY (X.block N' scope H2.objs.size {s with heap:=H2} (Y3 H s.heap.objs.size (.lst [])) fp) ([]++Aa fp s6.heap) YR H7 s7->(∃m',m'<n/\W (i+1) m' YR H7)->
     ∃m,m<n/\∃i ZB H',gY (X.block N' scope H2.objs.size {s with heap:=H2} (Y3 H s.heap.objs.size (.lst [])) fp) [] ZB H' s7/\tn i s7.heap/\(∀b∈fp,H' b=aB)/\W i m ZB H':=fun{YR H7 s7} J7 ⟨m',hm,w7⟩=>by
    refine⟨m',hm,i+1,YR,H7,J7.unpinned,T.keep _ _ _ K' λb hb o e=>(J7.pin (b,o) (b7 _ (b7 _ (Br hb e)))).1,λb hb=>?_,w7⟩;obtain⟨o,e,d⟩:=T.obj _ _ K' b hb;exact(J7.pin (b,o) (b7 _ (b7 _ (Br hb e)))).2.1
   refine Wu (hg _ _ _ _ _ s6 UT H6 x u _ J6' r6 (step x H6 y6)) λ_ s7 ZE=>?_;obtain⟨YR,H7,J7,q7⟩:=ZE;refine Wu (ht _ _ _ _ _ s7 YR H7 _ J7 q7) λb s8 ZE=>?_;obtain⟨H8,J8,q8⟩:=ZE;cases b with
   |false=>rw[fZ bv]at q8⊢;exact again J8 q8
   |true=>rw[f_ rfl]at q8⊢;refine Wu (he _ _ _ _ _ s8 YR H8 _ J8 q8) λy s9 ZE=>?_;obtain⟨vy,H9,J9,r9,q9⟩:=ZE;refine Wu (Me _ s9 YR H9 (.ref s.heap.objs.size) [vy] (.ref s.heap.objs.size) [y] _ J9 rfl (.cons r9 .nil) q9) λ_ MK ⟨_,H10,J10,_,q10⟩=>again J10 q10
 exact codeAny_compStart_list (SU _ rfl) (T.self X.A 0 _ _ _ RZ (SU _ rfl))
theorem mG(hc:X.calm=aC)(S:CompScope X N' scope src)(hi:PI X tg ZD wi)(hg:∀C s₀ H₀ ex,PG (X.block N' scope C s₀ H₀ ex) tg g)(ht:∀C s₀ H₀ ex,PTs (X.block N' scope C s₀ H₀ ex) YI tt)(he:∀C s₀ H₀ ex,PE (X.block N' scope C s₀ H₀ ex) elt te)(hs:‹∀x,foldedSetIterable ZD X.env x=pure x›):PE X (.ListComp elt [⟨tg,ZD,YI,0⟩] scope pos) (EW src wi g tt te):=by
 intro gR s σ H Q I h;rw[eval_ListComp];refine wpAny_comprehension_free (use:=aB) rfl hs (Gu λy hy e=>I.ok.has y.1 (S.free y hy e)) S.kind S.names (Wu (hi gR s σ H _ I h) λv s1 h1=>Wu h1 λMP s2 h2=>?_);obtain⟨it,fp,tn,J,H2,e,I2,T,SM,f2,q⟩:=h2;subst e;refine Ai hc S hg ht he I2 T SM f2 q λacc C s' H' m I' q' hn hC c1 c2 c3 c4=>⟨m,hn,λh' QD=>?_⟩
 exact⟨.ref acc,H',I'.turned (t':=s'.toks) (λb o hb e=>(QD.2 b hb).trans e) hC c1 (.inr c2) c3 c4,rfl,q'⟩
theorem Xn(hc:X.calm=aC)(S:CompScope X N' scope src)(hi:PI X tg ZD wi)(hg:∀C s₀ H₀ ex,PG (X.block N' scope C s₀ H₀ ex) tg g)(ht:∀C s₀ H₀ ex,PTs (X.block N' scope C s₀ H₀ ex) YI tt)(he:∀C s₀ H₀ ex,PE (X.block N' scope C s₀ H₀ ex) elt te)(hN:X.N.Nodup)(OV:X.N[i]? =aA y)(hx:X.env.scope.names.lookup y=aA .local)(WW:swapsWith (.ListComp elt [⟨tg,ZD,YI,0⟩] scope pos) (aA (.Name y py)) spos.line X.env=pure aC)(hs:‹∀x,foldedSetIterable ZD X.env x=pure x›):PS X (.Assign [.Name y py] (.ListComp elt [⟨tg,ZD,YI,0⟩] scope pos) spos) (Iq (EW src wi g tt te) (U1 i)):=by
 intro gR s σ H D I h;rw[exec_Assign_Name_used _ _ _ _ WW];refine aa (wpAny_standAt (aa ?_));show bi _ X.A (do let _<-comprehension (.ListComp elt [⟨tg,ZD,YI,0⟩] scope pos) scope X.env _ (newList []) aD (ig ZD X.env) (aA (assign (.Name y py) X.env))) _ _ s;refine aa (gv (wpAny_comprehension_free (use:=aA (assign (.Name y py) X.env)) (Q:=λ_ s'=>SP X gR D .next s') rfl hs (Gu λy hy e=>I.ok.has y.1 (S.free y hy e)) S.kind S.names
  (Wu (hi gR s σ H _ I h) λv s1 h1=>Wu h1 λMP s2 h2=>?_)) (λ_ s' hq=>ad (ad hq)) λ_ _ e=>e)
 obtain⟨it,fp,tn,J,H2,e,I2,T,SM,f2,q⟩:=h2;subst e;refine Ai (Q:=λx H1=>U1 i x σ H1 D.nx) hc S hg ht he I2 T SM f2 q λacc C s' H' m I' q' hn hC c1 c2 c3 c4=>?_;refine wpAny_assign_Name (Fd I' hN OV (.inl hx) (v:=.ref acc) (u:=.ref acc) rfl (λYD iF ⟨a,hsb,ha⟩=>?_) (.inr hx));have uM:C≠a:=by
  rcases ha with z|z
  .rw[z];exact c1
  .exact Ne.symm (c3 _ _ z)
 refine⟨m,hn.sameBut hsb uM,λh' QD=>?_⟩;exact⟨_,H',iF.turned (t':=YD.toks) (λb o hb e=>(QD.2 b hb).trans e) hC c1 (.inr c2) c3 c4,q'⟩
end
abbrev EXT:=ag->Option ao->St->Hp->Prop
noncomputable abbrev Cx.inSuite(X:Cx)(a:ao):Cx:={X with A:=X.A.mark (aA (.ref a)),calm:=aD,xe:=λ_ _=>False}
def EV(a C:ao)(dx:Option ao):f8->Prop:=λh=>∃o,h.get? a=aA o/\o.cls= .ref C/\o.dict=dx/\PySem.W.notCls o=aC
set_option genInjectivity false in
structure Hd where
 x:Str
 np:Pos
 nm:Option (Str×Nat)
 b0:Stmt
 suite:List Stmt
 pos:Pos
 B:ao
 t:TS
noncomputable def Ends.but(D:Ends)(i:Nat):Ends:={nx:=λσ H=>D.nx (σ.set i aB) H,bk:=λσ H=>D.bk (σ.set i aB) H,ct:=λσ H=>D.ct (σ.set i aB) H,rt:=D.rt}
def Hd.run(h:Hd)(C:ao)(dx:Option ao)(D:Ends)(σ:St)(H:Hp):Prop:=match h.nm with
 |none=>h.t D σ H
 |some (_,i)=>∀a,H a=aB->h.t (D.but i) (σ.set i (aA (.ref a))) (Y3 H a (.ext (EV a C dx)))
set_option genInjectivity false in
structure Hd.Ok(X:Cx)(h:Hd):Prop where
 gl:Gl X h.x
 mg:X.mg h.x=aA (.ref h.B)
 ty:PySem.W.typeIn X.K (.ref h.B)=aA (.type "type")
 cl:PySem.W.isClsIn X.K h.B=aC
 bs:PySem.W.mroIn X.K h.B (.type "BaseException")=aA aC
 db:(h.x==("__debug__":Str))=aD
 nm:∀n i,h.nm=aA (n,i)->X.N.Nodup/\X.N[i]? =aA n/\Loc X.env.scope n/\X.env.kindOf n=aA .local/\X.env.scope.names.lookup n=aA .local
 su:∀a,Rj (X.inSuite a) (h.b0::h.suite) h.t
section
open PySem.Calls Builtin.ObjectAttr Builtin.Getset_descriptor
theorem D5:∀{Bs:List ao} {us:List ag},Z1 (Bs.map V.ref) us->us=Bs.map ci
 | [],_,r=>by rw[List.map_nil]at r;cases r;rfl
 |B::Bs,_,r=>by
  rw[ax]at r;cases r with
  |cons h t=>rw[show _=ci B from h,D5 t];rfl
end
end L2
namespace PySem
open PySem.Sem (wp)
end PySem
namespace L2
section
open PySem.Calls Builtin.ObjectAttr
end
noncomputable def drop(H:Hp)(e:ao):Hp:=λb=>if b=e then aB else H b
section
variable{K:af}
inductive D where
 |non|bl (b:Bool)|int (i:Int)|str (x:Str)
 |tup (xs:List D)|lst (xs:List D)
 |dK (ks:List Key) (vs:List D)|dT (ks:List (List Key)) (vs:List D)|dX (ks:List Zo) (vs:List D)
 |exc (c:Str) (ks:List Str) (vs:List D)
def Px(K:af)(c:Str)(C:ao):Prop:=PySem.W.nsIn K mainGlobals c=aA (aA (.ref C))
def KB(F:Hp)(kvs:List (List Key×V))(bs:List ao):Prop:=Paired (λ(p:List Key×V) (b:ao)=>F b=aA (.tup (p.1.map kV))) kvs bs
def KN(F:Hp)(kvs:List (Zo×V))(bs:List ao):Prop:=Paired (λ(p:Zo×V) (b:ao)=>Jg F p.1 b) kvs bs
mutual
inductive fE(K:af)(F:Hp):D->V->Prop where
 |non:fE K F .non .non
 |bl (b:Bool):fE K F (.bl b) (.bl b)
 |int (i:Int):fE K F (.int i) (.int i)
 |str (x:Str):fE K F (.str x) (.str x)
 |tup {a:ao} {xs:List D} {vs:List V} (h:F a=aA (.tup vs)) (r:gX K F xs vs):fE K F (.tup xs) (.ref a)
 |lst {a:ao} {xs:List D} {vs:List V} (h:Be K F a vs) (o:F a=aA (.lst vs)\/∀d∈xs,∃i,d= .int i) (r:gX K F xs vs):fE K F (.lst xs) (.ref a)
 |dK {a:ao} {ks:List Key} {ds:List D} {kvs:List (Key×V)} {ep:Nat} (h:F a=aA (.dK kvs ep)) (e:kvs.map (·.1)=ks) (r:gX K F ds (kvs.map (·.2))):fE K F (.dK ks ds) (.ref a)
 |dT {a:ao} {ks:List (List Key)} {ds:List D} {kvs:List (List Key×V)} {ep:Nat} {bs:List ao} (h:F a=aA (.dT kvs ep bs)) (kb:KB F kvs bs) (e:kvs.map (·.1)=ks) (r:gX K F ds (kvs.map (·.2))):fE K F (.dT ks ds) (.ref a)
 |dX {a:ao} {ks:List Zo} {ds:List D} {kvs:List (Zo×V)} {ep:Nat} {bs:List ao} (h:F a=aA (.dN kvs ep bs)) (kb:KN F kvs bs) (e:kvs.map (·.1)=ks) (r:gX K F ds (kvs.map (·.2))):fE K F (.dX ks ds) (.ref a)
 |exc {a C:ao} {c:Str} (cl:Px K c C) (h:F a=aA (.ext (EV a C aB))):fE K F (.exc c [] []) (.ref a)
 |exd {a C dx:ao} {c:Str} {ks:List Str} {ds:List D} {fs:List (Str×V)} (cl:Px K c C) (h:F a=aA (.ext (EV a C (aA dx)))) (hx:F dx=aA (.xd fs)) (e:fs.map (·.1)=ks) (r:gX K F ds (fs.map (·.2))):fE K F (.exc c ks ds) (.ref a)
inductive gX(K:af)(F:Hp):List D->List V->Prop where
 |nil:gX K F [] []
 |cons {d:D} {v:V} {ds:List D} {vs:List V} (h:fE K F d v) (t:gX K F ds vs):gX K F (d::ds) (v::vs)
end
theorem KB.mono(s:Zj F F')(h:KB F kvs bs):KB F' kvs bs:=Paired.mapP h λ_ _ z=>s _ _ z
theorem KN.mono(s:Zj F F')(h:KN F kvs bs):KN F' kvs bs:=Paired.mapP h λ_ _ z=>z.mono λ_ _ q=>s _ _ q
theorem yj(s:Zj F F')(h:Rd F a u):Rd F' a u:=by
 rcases h with h|⟨o,h⟩
 .exact .inl (s _ _ h)
 .exact .inr ⟨o,s _ _ h⟩
theorem Wr(s:Zj F F')(h:Be K F a xs):Be K F' a xs:=by
 rcases h with h|h
 .exact .inl (yj s h)
 .exact .inr h
theorem Qg(s:Zj F F')(h:Md K F a xs):Md K F' a xs:=by
 rcases h with h|h
 .exact .inl (yj s h)
 .exact .inr h
theorem Ck(h:F a=aA (.tup vs)):Md K F a vs:=.inl (.inl h)
theorem fE.mono(s:Zj F F')(h:fE K F d v):fE K F' d v:=
 fE.rec (motive_1:=λd v _=>fE K F' d v) (motive_2:=λds vs _=>gX K F' ds vs) .non .bl .int .str (λh _ r=>.tup (s _ _ h) r) (λh o _ r=>.lst (Wr s h) (o.imp (λz=>s _ _ z) id) r) (λh e _ r=>.dK (s _ _ h) e r) (λh kb e _ r=>.dT (s _ _ h) (kb.mono s) e r) (λh kb e _ r=>.dX (s _ _ h) (kb.mono s) e r) (λcl h=>.exc cl (s _ _ h)) (λcl h hx e _ r=>.exd cl (s _ _ h) (s _ _ hx) e r) .nil (λ_ _ h t=>.cons h t) h
theorem gX.mono(s:Zj F F')(h:gX K F ds vs):gX K F' ds vs:=by
 induction ds generalizing vs with
 |nil=>cases h;exact .nil
 |cons d ds ih=>
  cases h with
  |cons a t=>exact .cons (fE.mono s a) (ih t)
theorem gX.length:∀{vs:List V},gX K F ds vs->ds.length=vs.length:=by
 induction ds with
 |nil=>intro vs h;cases h;rfl
 |cons d ds ih=>
  intro vs h;cases h with
  |cons _ t=>rw[aw,aw,ih t]
theorem gX.append(h:gX K F ds vs)(q:gX K F es us):gX K F (ds++es) (vs++us):=by
 induction ds generalizing vs with
 |nil=>cases h;exact q
 |cons d ds ih=>
  cases h with
  |cons h t=>exact .cons h (ih t)
theorem gX.snoc(r:gX K F ds vs)(h:fE K F d v):gX K F (ds++[d]) (vs++[v]):=r.append (.cons h .nil)
theorem gX.get:∀{ds:List D} {vs:List V} {i:Nat} {d:D},gX K F ds vs->ds[i]? =aA d->∃v,vs[i]? =aA v/\fE K F d v
 |_,_,_,_,.nil,e=>by simp at e
 |_,_,0,_,.cons h t,e=>by simp at e;subst e;exact⟨_,rfl,h⟩
 |_,_,i+1,d,.cons h t,e=>by obtain⟨v,h1,h2⟩:=gX.get (i:=i) (d:=d) t (by simpa using e);exact⟨v,by simpa using h1,h2⟩
theorem gX.take:∀{ds:List D} {vs:List V} n,gX K F ds vs->gX K F (ds.take n) (vs.take n)
 |_,_,0,_=>.nil
 |_,_,_+1,.nil=>.nil
 |_,_,n+1,.cons h t=>.cons h (t.take n)
theorem gX.drop:∀{ds:List D} {vs:List V} n,gX K F ds vs->gX K F (ds.drop n) (vs.drop n)
 |_,_,0,r=>r
 |_,_,_+1,.nil=>.nil
 |_,_,n+1,.cons h t=>t.drop n
inductive SV where
 |fz (d:D)|ol (xs:List D)|oK (ks:List Key) (vs:List D)|oT (ks:List (List Key)) (vs:List D)|oN (ks:List Key) (ZC:List (List D))|oL (pin:Option ao) (ZC:List (List D))|oQ (pin:ao) (ks:List Key) (vs:List D)|oX (ks:List Zo) (ZC:List (List D))|oD (dss:List (List Key×List D))|oM (ks:List Zo) (vs:List D)|oR (pin:ao) (ks:List Key) (ZC:List (List D))
@[simp]noncomputable def SV.toD:SV->D
 | .fz d=>d
 | .ol xs=>.lst xs
 | .oK ks vs=>.dK ks vs
 | .oT ks vs=>.dT ks vs
 | .oN ks ZC=>.dK ks (ZC.map D.lst)
 | .oL _ ZC=>.lst (ZC.map D.lst)
 | .oQ _ ks vs=>.dK ks vs
 | .oX ks ZC=>.dX ks (ZC.map D.lst)
 | .oD dss=>.lst (dss.map λp=>.dK p.1 p.2)
 | .oM ks vs=>.dX ks vs
 | .oR _ ks ZC=>.dK ks (ZC.map D.lst)
noncomputable abbrev Zs:=List (ao×HO)
inductive fL(K:af)(F:Hp):List (List D)->List V->Zs->Prop where
 |nil:fL K F [] [] []
 |cons {xs:List D} {ZC:List (List D)} {b:ao} {vs:List V} {ws:List V} {ns:Zs} (r:gX K F xs vs) (t:fL K F ZC ws ns):fL K F (xs::ZC) (.ref b::ws) ((b,.lst vs)::ns)
inductive KidD(K:af)(F:Hp):List (List Key×List D)->List V->Zs->Prop where
 |nil:KidD K F [] [] []
 |cons {ds:List D} {dss:List (List Key×List D)} {b:ao} {kvs:List (Key×V)} {ep:Nat} {ws:List V} {ns:Zs} (r:gX K F ds (kvs.map (·.2))) (t:KidD K F dss ws ns):KidD K F ((kvs.map (·.1),ds)::dss) (.ref b::ws) ((b,.dK kvs ep)::ns)
inductive fC(K:af)(F:Hp):SV->V->Zs->Prop where
 |fz {d:D} {v:V} (h:fE K F d v):fC K F (.fz d) v []
 |ol {a:ao} {xs:List D} {vs:List V} (r:gX K F xs vs):fC K F (.ol xs) (.ref a) [(a,.lst vs)]
 |oK {a:ao} {ks:List Key} {ds:List D} {kvs:List (Key×V)} {ep:Nat} (e:kvs.map (·.1)=ks) (r:gX K F ds (kvs.map (·.2))):fC K F (.oK ks ds) (.ref a) [(a,.dK kvs ep)]
 |oT {a:ao} {ks:List (List Key)} {ds:List D} {kvs:List (List Key×V)} {ep:Nat} {bs:List ao} (kb:KB F kvs bs) (e:kvs.map (·.1)=ks) (r:gX K F ds (kvs.map (·.2))):fC K F (.oT ks ds) (.ref a) [(a,.dT kvs ep bs)]
 |oN {a:ao} {ks:List Key} {ZC:List (List D)} {kvs:List (Key×V)} {ns:Zs} {ep:Nat} (e:kvs.map (·.1)=ks) (r:fL K F ZC (kvs.map (·.2)) ns):fC K F (.oN ks ZC) (.ref a) ((a,.dK kvs ep)::ns)
 |oR {a:ao} {ks:List Key} {ZC:List (List D)} {kvs:List (Key×V)} {ns:Zs} {ep:Nat} (e:kvs.map (·.1)=ks) (r:fL K F ZC (kvs.map (·.2)) ns):fC K F (.oR a ks ZC) (.ref a) ((a,.dK kvs ep)::ns)
 |oL {pin:Option ao} {a:ao} {ZC:List (List D)} {ws:List V} {ns:Zs} (hp:∀b,pin=aA b->b=a) (r:fL K F ZC ws ns):fC K F (.oL pin ZC) (.ref a) ((a,.lst ws)::ns)
 |oQ {a:ao} {ks:List Key} {ds:List D} {kvs:List (Key×V)} {ep:Nat} (e:kvs.map (·.1)=ks) (r:gX K F ds (kvs.map (·.2))):fC K F (.oQ a ks ds) (.ref a) [(a,.dK kvs ep)]
 |oX {a:ao} {ks:List Zo} {ZC:List (List D)} {kvs:List (Zo×V)} {ns:Zs} {ep:Nat} {bs:List ao} (kb:KN F kvs bs) (e:kvs.map (·.1)=ks) (r:fL K F ZC (kvs.map (·.2)) ns):fC K F (.oX ks ZC) (.ref a) ((a,.dN kvs ep bs)::ns)
 |oD {a:ao} {dss:List (List Key×List D)} {ws:List V} {ns:Zs} (r:KidD K F dss ws ns):fC K F (.oD dss) (.ref a) ((a,.lst ws)::ns)
 |oM {a:ao} {ks:List Zo} {ds:List D} {kvs:List (Zo×V)} {ep:Nat} {bs:List ao} (kb:KN F kvs bs) (e:kvs.map (·.1)=ks) (r:gX K F ds (kvs.map (·.2))):fC K F (.oM ks ds) (.ref a) [(a,.dN kvs ep bs)]
theorem KidD.mono(s:Zj F F'):∀{dss:List (List Key×List D)} {ws:List V} {ns:Zs},KidD K F dss ws ns->KidD K F' dss ws ns
 |_,_,_,.nil=>.nil
 |_,_,_,.cons r t=>.cons (r.mono s) (t.mono s)
theorem fL.mono(s:Zj F F')(h:fL K F ZC ws ns):fL K F' ZC ws ns:=by
 induction h with
 |nil=>exact .nil
 |cons r _ ih=>exact .cons (r.mono s) ih
theorem fC.mono(s:Zj F F')(h:fC K F sv v ns):fC K F' sv v ns:=by
 cases h with
 |fz h=>exact .fz (h.mono s)
 |ol r=>exact .ol (r.mono s)
 |oK e r=>exact .oK e (r.mono s)
 |oT kb e r=>exact .oT (kb.mono s) e (r.mono s)
 |oN e r=>exact .oN e (r.mono s)
 |oR e r=>exact .oR e (r.mono s)
 |oL hp r=>exact .oL hp (r.mono s)
 |oQ e r=>exact .oQ e (r.mono s)
 |oX kb e r=>exact .oX (kb.mono s) e (r.mono s)
 |oD r=>exact .oD (r.mono s)
 |oM kb e r=>exact .oM (kb.mono s) e (r.mono s)
noncomputable def Q4(F:Hp):Zs->Hp
 | []=>F
 |p::r=>Y3 (Q4 F r) p.1 p.2
noncomputable abbrev Cm(ns:Zs):List Addr:=ns.map (·.1)
theorem U4:∀{ns:Zs},b∉Cm ns->Q4 F ns b=F b
 | [],_=>rfl
 |p::r,h=>by have h1:b≠p.1:=λe=>h (by rw[e];exact ac);have h2:b∉Cm r:=λe=>h (ah _ e);show Y3 (Q4 F r) p.1 p.2 b=F b;rw[Zt h1,U4 h2]
theorem Aj:∀{ns:Zs},(Cm ns).Nodup->p∈ns->Q4 F ns p.1=aA p.2
 | [],_,h=>nomatch h
 |q::r,nd,h=>by
  obtain⟨n1,n2⟩:=dy.mp nd;show Y3 (Q4 F r) q.1 q.2 p.1=aA p.2;rcases bj.mp h with e|e
  .subst e;exact Z2
  .rw[Zt λz=>n1 (av.mpr ⟨p,e,z⟩)];exact Aj n2 e
theorem Qv(h:∀p∈ns,F p.1=aB):Zj F (Q4 F ns):=λb o e=>by
 by_cases hb:b∈Cm ns
 .obtain⟨p,hp,ep⟩:=av.mp hb;subst ep;rw[h p hp]at e;cases e
 .rw[U4 hb];exact e
theorem L0(nd:(Cm ns).Nodup)(le:Zj F H)(h:∀p∈ns,H p.1=aA p.2):Zj (Q4 F ns) H:=λb o e=>by
 by_cases hb:b∈Cm ns
 .obtain⟨p,hp,ep⟩:=av.mp hb;subst ep;rw[Aj nd hp]at e;cases e;exact h p hp
 .rw[U4 hb]at e;exact le b o e
theorem Py{Z:Hp×Hp}(nd:(Cm ns).Nodup)(fro:∀b o,F b=aA o->Z.2 b=aA o\/Z.1 b=aB)(hz:∀p∈ns,Z.1 p.1=aB):∀b o,Q4 F ns b=aA o->Z.2 b=aA o\/Z.1 b=aB:=λb o e=>by
 by_cases hb:b∈Cm ns
 .obtain⟨p,hp,ep⟩:=av.mp hb;subst ep;exact .inr (hz p hp)
 .rw[U4 hb]at e;exact fro b o e
theorem fL.rep(s:Zj F F'):∀{ZC:List (List D)} {ws:List V} {ns:Zs},fL K F ZC ws ns->(∀p∈ns,F' p.1=aA p.2)->gX K F' (ZC.map D.lst) ws
 |_,_,_,.nil,_=>.nil
 |_,_,_,.cons r t,h=>.cons (.lst (.inl (.inl (h _ ac))) (.inl (h _ ac)) (r.mono s)) (t.rep s λp hp=>h p (ah _ hp))
theorem KidD.rep(s:Zj F F'):∀{dss:List (List Key×List D)} {ws:List V} {ns:Zs},KidD K F dss ws ns->(∀p∈ns,F' p.1=aA p.2)->gX K F' (dss.map λp=>.dK p.1 p.2) ws
 |_,_,_,.nil,_=>.nil
 |_,_,_,.cons r t,h=>.cons (.dK (h _ ac) rfl (r.mono s)) (t.rep s λp hp=>h p (ah _ hp))
theorem fC.rep(h:fC K F sv v ns)(nd:(Cm ns).Nodup)(hn:∀p∈ns,F p.1=aB):fE K (Q4 F ns) sv.toD v:=by
 have s:=Qv hn;have a:∀p∈ns,Q4 F ns p.1=aA p.2:=λp hp=>Aj nd hp;cases h with
 |fz h=>exact h
 |ol r=>exact .lst (.inl (.inl (a (_,_) ac))) (.inl (a (_,_) ac)) (r.mono s)
 |oK e r=>exact .dK (a (_,_) ac) e (r.mono s)
 |oT kb e r=>exact .dT (a (_,_) ac) (kb.mono s) e (r.mono s)
 |oN e r=>exact .dK (a (_,_) ac) e (r.rep s λp hp=>a p (ah _ hp))
 |oR e r=>exact .dK (a (_,_) ac) e (r.rep s λp hp=>a p (ah _ hp))
 |oL _ r=>exact .lst (.inl (.inl (a (_,_) ac))) (.inl (a (_,_) ac)) (r.rep s λp hp=>a p (ah _ hp))
 |oQ e r=>exact .dK (a (_,_) ac) e (r.mono s)
 |oX kb e r=>exact .dX (a (_,_) ac) (kb.mono s) e (r.rep s λp hp=>a p (ah _ hp))
 |oD r=>exact .lst (.inl (.inl (a (_,_) ac))) (.inl (a (_,_) ac)) (r.rep s λp hp=>a p (ah _ hp))
 |oM kb e r=>exact .dX (a (_,_) ac) (kb.mono s) e (r.mono s)
noncomputable abbrev Yp:=List (Option SV)
set_option genInjectivity false in
structure fB(K:af)where
 h:Hp
 f:Hp
 x:EXT
noncomputable abbrev ent(H F:Hp):fB K:=⟨H,F,λ_ _ _ _=>False⟩
set_option genInjectivity false in
structure Exn where
 c:Str
 ks:List Str:=[]
 vs:List D:=[]
def pO(K:af)(F:Hp)(e:Exn)(cls:ag)(od:Option ao):Prop:=∃C,Px K e.c C/\cls= .ref C/\match od with
 |none=>e.ks=[]/\e.vs=[]
 |some dx=>∃fs:List (Str×V),F dx=aA (.xd fs)/\fs.map (·.1)=e.ks/\gX K F e.vs (fs.map (·.2))
structure SR(Z:fB K)(F H:Hp)(σ:St)(δ:Yp)(own:Nat->Zs):Prop where
 le:Zj F H
 fro:∀(b:ao) (o:HO),F b=aA o->Z.f b=aA o\/Z.h b=aB
 old:Zj Z.h H
 len:σ.length=δ.length
 at':∀(i:Nat) (sv:SV),δ[i]? =aA (aA sv)->∃v,σ[i]? =aA (aA v)/\fC K F sv v (own i)
 nod:∀i:Nat,(Cm (own i)).Nodup
 ok:∀(i:Nat) (p:ao×HO),p∈own i->F p.1=aB/\Z.h p.1=aB/\H p.1=aA p.2
 sep:∀(i j:Nat) (p q:ao×HO),i≠j->p∈own i->q∈own j->p.1≠q.1
inductive RV where
 |tmp (sv:SV)|bw (i:Nat)
structure fO(Z:fB K)(F H:Hp)(own:Nat->Zs)(sv:SV)(v:V)(ns:Zs):Prop where
 sh:fC K F sv v ns
 nd:(Cm ns).Nodup
 ok:∀p∈ns,F p.1=aB/\Z.h p.1=aB/\H p.1=aA p.2
 sep:∀(i:Nat) (p q:ao×HO),p∈ns->q∈own i->p.1≠q.1
def D6(Z:fB K)(F H:Hp)(σ:St)(own:Nat->Zs):RV->V->Prop
 | .tmp sv,v=>∃ns,fO Z F H own sv v ns
 | .bw i,v=>σ[i]? =aA (aA v)
theorem fO.fz{Z:fB K}(h:fE K F d v):fO Z F H own (.fz d) v []:=
 ⟨.fz h,c6,λ_ h=>(nomatch h),λ_ _ _ h=>(nomatch h)⟩
theorem W1(h:H p=aB):Zj H (Y3 H p o):=λb u e=>by rw[Zt λz=>by rw[z,h]at e;cases e];exact e
theorem SR.grow{Z:fB K}(s:SR Z F H σ δ own)(h:Zj H H'):SR Z F H' σ δ own:=
 ⟨s.le.trans h,s.fro,s.old.trans h,s.len,s.at',s.nod,λi p hp=>let⟨a,b,c⟩:=s.ok i p hp;⟨a,b,h _ _ c⟩,s.sep⟩
theorem SR.addF{Z:fB K}(s:SR Z F H σ δ own)(nd:(Cm ns).Nodup)(hn:∀p∈ns,F p.1=aB)(hH:∀p∈ns,H p.1=aA p.2)(hz:∀p∈ns,Z.h p.1=aB)(hs:∀i p q,p∈ns->q∈own i->p.1≠q.1):SR Z (Q4 F ns) H σ δ own:=by
 have sm:=Qv hn;refine⟨L0 nd s.le hH,Py (Z:=(Z.h,Z.f)) nd s.fro hz,s.old,s.len,λi sv e=>?_,s.nod,λi p hp=>?_,s.sep⟩
 .obtain⟨v,h1,h2⟩:=s.at' i sv e;exact⟨v,h1,h2.mono sm⟩
 .obtain⟨a,b,c⟩:=s.ok i p hp;refine⟨?_,b,c⟩;rw[U4 λhb=>?_]
  .exact a
  .obtain⟨q,hq,e⟩:=av.mp hb;exact hs i q p hq hp e
theorem SR.settle{Z:fB K}(s:SR Z F H σ δ own)(t:fO Z F H own sv v ns):
  ∃F1,Zj F F1/\SR Z F1 H σ δ own/\fE K F1 sv.toD v:=
 ⟨Q4 F ns,Qv λp hp=>(t.ok p hp).1,s.addF t.nd (λp hp=>(t.ok p hp).1) (λp hp=>(t.ok p hp).2.2) (λp hp=>(t.ok p hp).2.1) t.sep,t.sh.rep t.nd λp hp=>(t.ok p hp).1⟩
noncomputable def put(own:Nat->Zs)(i:Nat)(ns:Zs):Nat->Zs:=λj=>if j=i then ns else own j
theorem Yb:put own i ns i=ns:=f_ rfl
theorem Yn(h:j≠i):put own i ns j=own j:=fZ h
theorem SR.freeze{Z:fB K}(s:SR Z F H σ δ own)(e:δ[i]? =aA (aA sv)):
  ∃F1 v,Zj F F1/\σ[i]? =aA (aA v)/\fE K F1 sv.toD v/\SR Z F1 H σ (δ.set i (aA (.fz sv.toD))) (put own i []):=by
 obtain⟨v,h1,h2⟩:=s.at' i sv e;have hn:∀p∈own i,F p.1=aB:=λp hp=>(s.ok i p hp).1;have sm:=Qv hn;have hi:i<δ.length:=(az.mp e).1;refine⟨Q4 F (own i),v,sm,h1,h2.rep (s.nod i) hn,⟨L0 (s.nod i) s.le λp hp=>(s.ok i p hp).2.2,Py (Z:=(Z.h,Z.f)) (s.nod i) s.fro λp hp=>(s.ok i p hp).2.1,s.old,by rw[im];exact s.len,λj sw ej=>?_,λj=>?_,λj p hp=>?_,λj k p q X' hp hq=>?_⟩⟩
 .by_cases hj:j=i
  .subst hj;rw[d0 hi]at ej;cases ej;rw[Yb];exact⟨v,h1,.fz (h2.rep (s.nod j) hn)⟩
  .rw[d6 (Ne.symm hj)]at ej;obtain⟨w,g1,g2⟩:=s.at' j sw ej;rw[Yn hj];exact⟨w,g1,g2.mono sm⟩
 .by_cases hj:j=i
  .subst hj;rw[Yb];exact c6
  .rw[Yn hj];exact s.nod j
 .by_cases hj:j=i
  .subst hj;rw[Yb]at hp;exact nomatch hp
  .rw[Yn hj]at hp;obtain⟨a,b,c⟩:=s.ok j p hp;refine⟨?_,b,c⟩;rw[U4 λhb=>?_]
   .exact a
   .obtain⟨q,hq,z⟩:=av.mp hb;exact s.sep i j q p (Ne.symm hj) hq hp z
 .by_cases hj:j=i
  .subst hj;rw[Yb]at hp;exact nomatch hp
  .by_cases hk:k=i
   .subst hk;rw[Yb]at hq;exact nomatch hq
   .rw[Yn hj]at hp;rw[Yn hk]at hq;exact s.sep j k p q X' hp hq
theorem SR.store{Z:fB K}(s:SR Z F H σ δ own)(t:fO Z F H own sv v ns)(hi:i<σ.length):
  SR Z F H (σ.set i (aA v)) (δ.set i (aA sv)) (put own i ns):=by
 refine⟨s.le,s.fro,s.old,by rw[im,im];exact s.len,λj sw ej=>?_,λj=>?_,λj p hp=>?_,λj k p q X' hp hq=>?_⟩
 .by_cases hj:j=i
  .subst hj;have hd:j<δ.length:=by have:=(az.mp ej).1;simpa using this
   rw[d0 hd]at ej;cases ej;rw[Yb,d0 hi];exact⟨v,rfl,t.sh⟩
  .rw[d6 (Ne.symm hj)]at ej;rw[Yn hj,d6 (Ne.symm hj)];exact s.at' j sw ej
 .by_cases hj:j=i
  .subst hj;rw[Yb];exact t.nd
  .rw[Yn hj];exact s.nod j
 .by_cases hj:j=i
  .subst hj;rw[Yb]at hp;exact t.ok p hp
  .rw[Yn hj]at hp;exact s.ok j p hp
 .by_cases hj:j=i
  .subst hj;rw[Yb]at hp;rw[Yn (Ne.symm X')]at hq;exact t.sep k p q hp hq
  .by_cases hk:k=i
   .subst hk;rw[Yb]at hq;rw[Yn hj]at hp;exact Ne.symm (t.sep j q p hq hp)
   .rw[Yn hj]at hp;rw[Yn hk]at hq;exact s.sep j k p q X' hp hq
theorem SR.change{Z:fB K}(s:SR Z F H σ δ own)(e:δ[i]? =aA (aA sv))(hv:σ[i]? =aA (aA v))(ha:(a,o)∈own i)(hs:fC K F sv' v ns')(X_:∀p∈ns',p=(a,o')\/(p∈own i/\p.1≠a))(nd:(Cm ns').Nodup):SR Z F (Y3 H a o') σ (δ.set i (aA sv')) (put own i ns'):=by
 obtain⟨fa,UE,hHa⟩:=s.ok i (a,o) ha;have hi:i<δ.length:=(az.mp e).1;refine⟨λb u eb=>?_,s.fro,λb u eb=>?_,by rw[im];exact s.len,λj sw ej=>?_,λj=>?_,λj p hp=>?_,λj k p q X' hp hq=>?_⟩
 .rw[Zt λz=>by rw[z]at eb;rw[fa]at eb;cases eb];exact s.le b u eb
 .rw[Zt λz=>by rw[z]at eb;rw[UE]at eb;cases eb];exact s.old b u eb
 .by_cases hj:j=i
  .subst hj;rw[d0 hi]at ej;cases ej;rw[Yb];exact⟨v,hv,hs⟩
  .rw[d6 (Ne.symm hj)]at ej;rw[Yn hj];exact s.at' j sw ej
 .by_cases hj:j=i
  .subst hj;rw[Yb];exact nd
  .rw[Yn hj];exact s.nod j
 .by_cases hj:j=i
  .subst hj;rw[Yb]at hp;rcases X_ p hp with z|⟨z,ne⟩
   .subst z;exact⟨fa,UE,Z2⟩
   .obtain⟨x,y,w⟩:=s.ok j p z;exact⟨x,y,by rw[Zt ne];exact w⟩
  .rw[Yn hj]at hp;obtain⟨x,y,w⟩:=s.ok j p hp;exact⟨x,y,by rw[Zt (s.sep j i p (a,o) hj hp ha)];exact w⟩
 .have own':∀r∈ns',∃r'∈own i,r.1=r'.1:=λr hr=>by
   rcases X_ r hr with z|⟨z,_⟩
   .subst z;exact⟨(a,o),ha,rfl⟩
   .exact⟨r,z,rfl⟩
  by_cases hj:j=i
  .subst hj;rw[Yb]at hp;rw[Yn (Ne.symm X')]at hq;obtain⟨r',OL,er⟩:=own' p hp;rw[er];exact s.sep j k r' q X' OL hq
  .by_cases hk:k=i
   .subst hk;rw[Yb]at hq;rw[Yn hj]at hp;obtain⟨r',OL,er⟩:=own' q hq;rw[er];exact s.sep j k p r' X' hp OL
   .rw[Yn hj]at hp;rw[Yn hk]at hq;exact s.sep j k p q X' hp hq
end
section
variable{K:af}
abbrev FE:=Yp->Option (RV×Yp)
abbrev FT:=Yp->Option (Bool×Yp)
abbrev FA:=Yp->Option (List RV×Yp)
abbrev FD:=Yp->Option (List D×Yp)
@[simp]noncomputable def SV.nested:SV->Bool
 | .oN _ _=>aC
 | .oR _ _ _=>aC
 | .oL _ _=>aC
 | .oX _ _=>aC
 | .oD _=>aC
 | .oM _ _=>aC
 |_=>aD
@[simp]def rdv:RV->Yp->Option D
 | .tmp sv,_=>aA sv.toD
 | .bw i,δ=>(δ[i]?.join).bind λsv=>if sv.nested then aB else aA sv.toD
@[simp]def frz:RV->Yp->Option (D×Yp)
 | .tmp sv,δ=>aA (sv.toD,δ)
 | .bw i,δ=>(δ[i]?.join).bind λsv=>aA (sv.toD,δ.set i (aA (.fz sv.toD)))
theorem Uw{δ:Yp}{i:Nat}(h:δ[i]?.join=aA sv):δ[i]? =aA (aA sv):=by
 cases e:δ[i]? with
 |none=>rw[e]at h;cases h
 |some o=>rw[e]at h;cases o with
  |none=>cases h
  |some s=>cases h;rfl
def Ze(Z:fB K)(f:FE):TE:=λσ H Q=>∃F δ own rv δ',SR Z F H σ δ own/\f δ=aA (rv,δ')/\
 ∀v H' F' own',Zj H H'->Zj F F'->SR Z F' H' σ δ' own'->D6 Z F' H' σ own' rv v->Q v H'
def Ye(Z:fB K)(f:FT):TT:=λσ H Q=>∃F δ own b δ',SR Z F H σ δ own/\f δ=aA (b,δ')/\
 ∀H' F' own',Zj H H'->Zj F F'->SR Z F' H' σ δ' own'->Q b H'
def RVS(K:af)(F:Hp)(σ:St):RV->V->Prop
 | .tmp sv,v=>fE K F sv.toD v
 | .bw i,v=>σ[i]? =aA (aA v)
inductive RVSs(K:af)(F:Hp)(σ:St):List RV->List V->Prop where
 |nil:RVSs K F σ [] []
 |cons {rv:RV} {v:V} {rvs:List RV} {vs:List V} (h:RVS K F σ rv v) (t:RVSs K F σ rvs vs):RVSs K F σ (rv::rvs) (v::vs)
def Ud(Z:fB K)(f:FA):TA:=λσ H Q=>∃F δ own rvs δ',SR Z F H σ δ own/\f δ=aA (rvs,δ')/\
 ∀vs H' F' own',Zj H H'->Zj F F'->SR Z F' H' σ δ' own'->RVSs K F' σ rvs vs->Q vs H'
def Wz(Z:fB K)(f:FD):TA:=λσ H Q=>∃F δ own ds δ',SR Z F H σ δ own/\f δ=aA (ds,δ')/\
 ∀vs H' F' own',Zj H H'->Zj F F'->SR Z F' H' σ δ' own'->gX K F' ds vs->Q vs H'
section
variable{Z:fB K}{F H F' H':Hp}{σ:St}{δ δ':Yp}{own:Nat->Zs}{rv:RV}{v:V}{d:D}
theorem RVS.mono(s:Zj F F')(h:RVS K F σ rv v):RVS K F' σ rv v:=by
 cases rv with
 |tmp sv=>exact fE.mono s h
 |bw i=>exact h
theorem SR.settleR(s:SR Z F H σ δ own)(h:D6 Z F H σ own rv v):∃F1,Zj F F1/\SR Z F1 H σ δ own/\RVS K F1 σ rv v:=by
 cases rv with
 |tmp sv=>obtain⟨ns,t⟩:=h;exact s.settle t
 |bw i=>exact⟨F,Zj.refl F,s,h⟩
theorem SR.frzR(s:SR Z F H σ δ own)(h:RVS K F σ rv v)(e:frz rv δ=aA (d,δ')):∃F1 own1,Zj F F1/\SR Z F1 H σ δ' own1/\fE K F1 d v:=by
 cases rv with
 |tmp sv=>cases e;exact⟨F,own,Zj.refl F,s,h⟩
 |bw i=>refine gZ e λsv e1 e2=>?_;cases e2;refine Ol (s.freeze (Uw e1)) λF1 w h1 h2 h3 h4=>?_;have h':σ[i]? =aA (aA v):=h;rw[h']at h2;cases h2;exact⟨F1,_,h1,h4,h3⟩
def Yh(K:af)(F H:Hp)(d:D)(v:V):Prop:=∃sv ns,sv.toD=d/\sv.nested=aD/\fC K F sv v ns/\∀p∈ns,H p.1=aA p.2
theorem Yh.of(h:fE K F d v):Yh K F H d v:=⟨.fz d,[],rfl,rfl,.fz h,λ_ h=>nomatch h⟩
theorem SR.rd(s:SR Z F H σ δ own)(h:RVS K F σ rv v)(e:rdv rv δ=aA d):Yh K F H d v:=by
 cases rv with
 |tmp sv=>cases e;exact Yh.of h
 |bw i=>
  refine gZ e λsv e1 e2=>?_;cases hn:sv.nested with
  |true=>rw[hn]at e2;cases e2
  |false=>rw[hn]at e2;cases e2;obtain⟨w,h1,h2⟩:=s.at' i sv (Uw e1);have h':σ[i]? =aA (aA v):=h;rw[h']at h1;cases h1;exact⟨sv,own i,rfl,hn,h2,λp hp=>(s.ok i p hp).2.2⟩
inductive RepNs(K:af)(F H:Hp):List D->List V->Prop where
 |nil:RepNs K F H [] []
 |cons {d:D} {v:V} {ds:List D} {vs:List V} (h:Yh K F H d v) (t:RepNs K F H ds vs):RepNs K F H (d::ds) (v::vs)
theorem Yh.non(h:Yh K F H .non v):v= .non:=by
 refine Ol h λsv ns e n sh hp=>?_;cases sh with
 |fz r=>cases e;cases r;rfl
 |ol r=>cases e
 |oK e' r=>cases e
 |oT kb e' r=>cases e
 |oN e' r=>cases n
 |oR e' r=>cases n
 |oX kb' e' r=>cases n
 |oD r=>cases n
 |oM kb' e' r=>cases n
 |oL _ r=>cases n
 |oQ e' r=>cases e
theorem Yh.bl(h:Yh K F H (.bl b) v):v= .bl b:=by
 refine Ol h λsv ns e n sh hp=>?_;cases sh with
 |fz r=>cases e;cases r;rfl
 |ol r=>cases e
 |oK e' r=>cases e
 |oT kb e' r=>cases e
 |oN e' r=>cases n
 |oR e' r=>cases n
 |oX kb' e' r=>cases n
 |oD r=>cases n
 |oM kb' e' r=>cases n
 |oL _ r=>cases n
 |oQ e' r=>cases e
theorem Yh.int(h:Yh K F H (.int i) v):v= .int i:=by
 refine Ol h λsv ns e n sh hp=>?_;cases sh with
 |fz r=>cases e;cases r;rfl
 |ol r=>cases e
 |oK e' r=>cases e
 |oT kb e' r=>cases e
 |oN e' r=>cases n
 |oR e' r=>cases n
 |oX kb' e' r=>cases n
 |oD r=>cases n
 |oM kb' e' r=>cases n
 |oL _ r=>cases n
 |oQ e' r=>cases e
theorem Yh.str(h:Yh K F H (.str x) v):v= .str x:=by
 refine Ol h λsv ns e n sh hp=>?_;cases sh with
 |fz r=>cases e;cases r;rfl
 |ol r=>cases e
 |oK e' r=>cases e
 |oT kb e' r=>cases e
 |oN e' r=>cases n
 |oR e' r=>cases n
 |oX kb' e' r=>cases n
 |oD r=>cases n
 |oM kb' e' r=>cases n
 |oL _ r=>cases n
 |oQ e' r=>cases e
theorem Yh.tup(le:Zj F H)(h:Yh K F H (.tup xs) v):∃a vs,v= .ref a/\Md K H a vs/\gX K F xs vs:=by
 obtain⟨sv,ns,e,n,sh,hp⟩:=h;cases sh with
 |fz r=>cases e;cases r with|tup h r=>exact⟨_,_,rfl,Qg le (Ck h),r⟩
 |ol r=>cases e
 |oK e' r=>cases e
 |oT kb e' r=>cases e
 |oN e' r=>cases n
 |oR e' r=>cases n
 |oX kb' e' r=>cases n
 |oD r=>cases n
 |oM kb' e' r=>cases n
 |oL _ r=>cases n
 |oQ e' r=>cases e
theorem Yh.lst(le:Zj F H)(h:Yh K F H (.lst xs) v):∃a vs,v= .ref a/\Be K H a vs/\gX K F xs vs:=by
 obtain⟨sv,ns,e,n,sh,hp⟩:=h;cases sh with
 |fz r=>cases e;cases r with|lst h _ r=>exact⟨_,_,rfl,Wr le h,r⟩
 |ol r=>cases e;exact⟨_,_,rfl,.inl (.inl (hp _ ac)),r⟩
 |oK e' r=>cases e
 |oT kb e' r=>cases e
 |oN e' r=>cases n
 |oR e' r=>cases n
 |oX kb' e' r=>cases n
 |oD r=>cases n
 |oM kb' e' r=>cases n
 |oL _ r=>cases n
 |oQ e' r=>cases e
theorem Yh.dK(le:Zj F H)(h:Yh K F H (.dK ks ds) v):∃a kvs,v= .ref a/\HK H a kvs/\kvs.map (·.1)=ks/\gX K F ds (kvs.map (·.2)):=by
 obtain⟨sv,ns,e,n,sh,hp⟩:=h;cases sh with
 |fz r=>cases e;cases r with|dK h e r=>exact⟨_,_,rfl,⟨_,le _ _ h⟩,e,r⟩
 |ol r=>cases e
 |oK e' r=>cases e;exact⟨_,_,rfl,⟨_,hp _ ac⟩,e',r⟩
 |oT kb e' r=>cases e
 |oN e' r=>cases n
 |oR e' r=>cases n
 |oX kb' e' r=>cases n
 |oD r=>cases n
 |oM kb' e' r=>cases n
 |oL _ r=>cases n
 |oQ e' r=>cases e;exact⟨_,_,rfl,⟨_,hp _ ac⟩,e',r⟩
theorem Yh.dT(le:Zj F H)(h:Yh K F H (.dT ks ds) v):∃a kvs,v= .ref a/\HTt H a kvs/\kvs.map (·.1)=ks/\gX K F ds (kvs.map (·.2)):=by
 obtain⟨sv,ns,e,n,sh,hp⟩:=h;cases sh with
 |fz r=>cases e;cases r with|dT h kb e r=>exact⟨_,_,rfl,⟨_,_,le _ _ h⟩,e,r⟩
 |ol r=>cases e
 |oK e' r=>cases e
 |oT kb e' r=>cases e;exact⟨_,_,rfl,⟨_,_,hp _ ac⟩,e',r⟩
 |oN e' r=>cases n
 |oR e' r=>cases n
 |oX kb' e' r=>cases n
 |oD r=>cases n
 |oM kb' e' r=>cases n
 |oL _ r=>cases n
 |oQ e' r=>cases e
end
theorem Fp:([a]:List ao).Nodup:=dy.mpr ⟨λh=>(nomatch h),c6⟩
def Fin(Z:fB K)(F H:Hp)(σ:St)(δ:Yp)(own:Nat->Zs)(sv:SV)(Q:VK):Prop:=
 ∀v H' F' ns,Zj H H'->Zj F F'->SR Z F' H' σ δ own->fO Z F' H' own sv v ns->Q v H'
section
variable{Z:fB K}{F H:Hp}{σ:St}{δ:Yp}{own:Nat->Zs}{Q:VK}
theorem Fin.fz(f:Fin Z F H σ δ own (.fz d) Q)(s:SR Z F H σ δ own)(h:fE K F d v):Q v H:=f v H F [] (Zj.refl H) (Zj.refl F) s (.fz h)
theorem Fin.one(f:Fin Z F H σ δ own sv Q)(s:SR Z F H σ δ own)(sh:fC K F sv (.ref p) [(p,o)])(hp:H p=aB):Q (.ref p) (Y3 H p o):=by
 have sm:=W1 (o:=o) hp;refine f (.ref p) (Y3 H p o) F [(p,o)] sm (Zj.refl F) (s.grow sm) ⟨sh,Fp,λq hq=>?_,λi q r hq hr=>?_⟩
 .obtain rfl:=ar.mp hq;exact⟨s.le.free hp,s.old.free hp,Z2⟩
 .obtain rfl:=ar.mp hq;intro e;have e':p=r.1:=e;have z:=(s.ok i r hr).2.2;rw[<-e',hp]at z;cases z
theorem Fin.lst(f:Fin Z F H σ δ own (.ol xs) Q)(s:SR Z F H σ δ own)(r:gX K F xs vs)(hp:H p=aB):Q (.ref p) (Y3 H p (.lst vs)):=f.one s (.ol r) hp
theorem Fin.tup(f:Fin Z F H σ δ own (.fz (.tup xs)) Q)(s:SR Z F H σ δ own)(r:gX K F xs vs)(hp:H p=aB):Q (.ref p) (Y3 H p (.tup vs)):=by
 have sm:=W1 (o:=.tup vs) hp;have sF:Zj F (Q4 F [(p,.tup vs)]):=Qv λq hq=>by obtain rfl:=ar.mp hq;exact s.le.free hp
 refine f (.ref p) (Y3 H p (.tup vs)) (Q4 F [(p,.tup vs)]) [] sm sF ?_ (.fz (.tup Z2 (r.mono sF)));refine(s.grow sm).addF (Fp) (λq hq=>?_) (λq hq=>?_) (λq hq=>?_) λi q u hq hu=>?_
 .obtain rfl:=ar.mp hq;exact s.le.free hp
 .obtain rfl:=ar.mp hq;exact Z2
 .obtain rfl:=ar.mp hq;exact s.old.free hp
 .obtain rfl:=ar.mp hq;intro e;have e':p=u.1:=e;have z:=(s.ok i u hu).2.2;rw[<-e',hp]at z;cases z
end
theorem Ju(h:fC K F (.fz d) v ns):fE K F d v:=by
 cases h with
 |fz r=>exact r
section
variable{Z:fB K}{H:Hp}{σ:St}{Q:VK}
@[simp]noncomputable def Za(i:Nat):FE:=λδ=>match δ[i]? with
 |some (aA (.fz d))=>aA (.tmp (.fz d),δ)
 |some (aA _)=>aA (.bw i,δ)
 |_=>aB
theorem rQ(h:Ze Z (Za i) σ H Q):Cd i σ H Q:=by
 refine Yo h λF δ own rv δ' s e k=>?_;unfold Za at e;split at e
 .rename_i d hd;cases e;obtain⟨v,h1,h2⟩:=s.at' i _ hd;exact⟨v,h1,k v H F own (Zj.refl H) (Zj.refl F) s ⟨[],.fz (Ju h2)⟩⟩
 .rename_i sv hsv hd;cases e;obtain⟨v,h1,h2⟩:=s.at' i _ hd;exact⟨v,h1,k v H F own (Zj.refl H) (Zj.refl F) s h1⟩
 .cases e
@[simp]noncomputable def Zd(d:D):FE:=λδ=>some (.tmp (.fz d),δ)
theorem Ro(hr:∀F,fE K F d v)(h:Ze Z (Zd d) σ H Q):tC v σ H Q:=by refine Yo h λF δ own rv δ' s e k=>?_;cases e;exact k v H F own (Zj.refl H) (Zj.refl F) s ⟨[],.fz (hr F)⟩
@[simp]noncomputable def Zl:FA:=λδ=>some ([],δ)
@[simp]noncomputable def Zc(fe:FE)(fa:FA):FA:=λδ=>(fe δ).bind λp=>(fa p.2).bind λq=>some (p.1::q.1,q.2)
theorem jA(h:Ud Z Zl σ H R):Pn σ H R:=by refine Yo h λF δ own rvs δ' s e k=>?_;cases e;exact k [] H F own (Zj.refl H) (Zj.refl F) s .nil
theorem ji(h:Ud Z (Zc fe fa) σ H R):M4 (Ze Z fe) (Ud Z fa) σ H R:=by refine Yo h λF δ own rvs δ' s e k=>?_;refine fA e λrv δ1 e1 e2=>?_;refine fA e2 λrr δ2 e3 e4=>?_;cases e4;refine⟨F,δ,own,rv,δ1,s,e1,λv H1 F1 own1 sH sF s1 r1=>?_⟩;refine Zn (s1.settleR r1) λF2 ZG s2 r2=>?_;exact⟨F2,δ1,own1,rr,δ2,s2,e3,λvs H3 F3 ZI Y' ZS s3 r3=>k _ H3 F3 ZI (sH.trans Y') (sF.trans (ZG.trans ZS)) s3 (.cons (r2.mono ZS) r3)⟩
@[simp]def Bv:List RV->Yp->Option (List D)
 | [],_=>aA []
 |rv::r,δ=>(rdv rv δ).bind λd=>(Bv r δ).bind λds=>aA (d::ds)
theorem SR.rdAll(s:SR Z F H σ δ own):∀{rvs:List RV} {vs:List V} {ds:List D},RVSs K F σ rvs vs->Bv rvs δ=aA ds->RepNs K F H ds vs
 |_,_,_,.nil,e=>by cases e;exact .nil
 |_,_,_,.cons h t,e=>by refine gZ e λd e1 e2=>?_;refine gZ e2 λds e3 e4=>?_;cases e4;exact .cons (s.rd h e1) (s.rdAll t e3)
@[simp]def Y4(g:List D->Option SV)(fa:FA):FE:=λδ=>(fa δ).bind λp=>(Bv p.1 p.2).bind λds=>(g ds).bind λsv=>some (.tmp sv,p.2)
def Bh(Z:fB K)(r:List V->Hp->VK->Prop)(g:List D->Option SV):Prop:=
 ∀(F H:Hp) (σ:St) (δ:Yp) (own:Nat->Zs) (vs:List V) (ds:List D) (sv:SV) (Q:VK),SR Z F H σ δ own->RepNs K F H ds vs->g ds=aA sv->Fin Z F H σ δ own sv Q->r vs H Q
theorem L1(hg:Bh Z r g)(h:Ze Z (Y4 g fa) σ H Q):tCB r (Ud Z fa) σ H Q:=by refine Yo h λF δ own rv δ' s e k=>?_;refine fA e λrvs δ1 e1 e2=>?_;refine gZ e2 λds e3 e4=>?_;refine gZ e4 λsv e5 e6=>?_;cases e6;refine⟨F,δ,own,rvs,δ1,s,e1,λvs H1 F1 own1 sH sF s1 r1=>?_⟩;exact hg F1 H1 σ δ1 own1 vs ds sv Q s1 (s1.rdAll r1 e3) e5 λv H2 F2 ns SN ZG s2 t=>k v H2 F2 own1 (sH.trans SN) (sF.trans ZG) s2 ⟨ns,t⟩
@[simp]noncomputable def g2(g:D->D->Option SV):List D->Option SV
 | [x,y]=>g x y
 |_=>aB
@[simp]def Zk(g:D->D->Option SV)(fa fb:FE):FE:=Y4 (g2 g) (Zc fa (Zc fb Zl))
def Yz(Z:fB K)(r:R2)(g:D->D->Option SV):Prop:=
 ∀(F H:Hp) (σ:St) (δ:Yp) (own:Nat->Zs) (x y:V) (d1 d2:D) (sv:SV) (Q:VK),SR Z F H σ δ own->Yh K F H d1 x->Yh K F H d2 y->g d1 d2=aA sv->Fin Z F H σ δ own sv Q->r x y H Q
theorem Fq(hg:Yz Z r g)(h:Ze Z (Zk g fa fb) σ H Q):tOp r (Ze Z fa) (Ze Z fb) σ H Q:=by
 have hN:Bh Z (λvs H Q=>∃x y,vs=[x,y]/\r x y H Q) (g2 g):=by
  intro F H σ δ own vs ds sv Q s rs e f;cases rs with
  |nil=>cases e
  |cons h1 t1=>
   cases t1 with
   |nil=>cases e
   |cons h2 t2=>
    cases t2 with
    |nil=>exact⟨_,_,rfl,hg F H σ δ own _ _ _ _ sv Q s h1 h2 e f⟩
    |cons h3 t3=>cases e
 refine Yo (L1 hN h) λF δ own rv δ' s e k=>?_;refine fA e λW' δ1 e1 e2=>?_;refine fA e2 λrr δ2 e3 e4=>?_;cases e4;refine fA e3 λPM δ3 e5 e6=>?_;refine fA e6 λwj δ4 e7 e8=>?_;cases e8;cases e7;refine⟨F,δ,own,W',δ1,s,e1,λv H1 F1 own1 sH sF s1 r1=>?_⟩;refine Zn (s1.settleR r1) λF2 ZG s2 r2=>?_;refine⟨F2,δ1,own1,PM,δ3,s2,e5,λu H3 F3 ZI Y' ZS s3 r3=>?_⟩;refine Zn (s3.settleR r3) λF4 YO s4 r4=>?_;refine Wq (k [v,u] H3 F4 ZI (sH.trans Y') (sF.trans (ZG.trans (ZS.trans YO))) s4 (.cons (r2.mono (ZS.trans YO)) (.cons r4 .nil))) λx y uS q=>?_;injection uS with ex ey
 injection ey with ey _;subst ex ey;exact q
@[simp]def unF(g:D->Option SV)(fa:FE):FE:=Y4 (λ| [x]=>g x|_=>none) (Zc fa Zl)
def EU(Z:fB K)(r:V->Hp->VK->Prop)(g:D->Option SV):Prop:=
 ∀(F H:Hp) (σ:St) (δ:Yp) (own:Nat->Zs) (x:V) (d:D) (sv:SV) (Q:VK),SR Z F H σ δ own->Yh K F H d x->g d=aA sv->Fin Z F H σ δ own sv Q->r x H Q
theorem AE(hg:EU Z r g)(h:Ze Z (unF g fa) σ H Q):tUn r (Ze Z fa) σ H Q:=by refine Yo h λF δ own rv δ' s e k=>?_;refine fA e λrvs δ1 e1 e2=>?_;refine gZ e2 λds e3 e4=>?_;refine gZ e4 λsv e5 e6=>?_;cases e6;refine fA e1 λW' δ2 e7 e8=>?_;refine fA e8 λwj δ4 e9 T'=>?_;cases T';cases e9;refine gZ e3 λd GO GN=>?_;cases GN;refine⟨F,δ,own,W',δ2,s,e7,λv H1 F1 own1 sH sF s1 r1=>?_⟩;refine Zn (s1.settleR r1) λF2 ZG s2 r2=>?_;exact hg F2 H1 σ δ2 own1 v d sv Q s2 (s2.rd r2 GO) e5 λv H2 iG ns SN JE s2 t=>k v H2 iG own1 (sH.trans SN) (sF.trans (ZG.trans JE)) s2 ⟨ns,t⟩
@[simp]noncomputable def Zr:FD:=λδ=>some ([],δ)
@[simp]def Zg(fe:FE)(fd:FD):FD:=λδ=>(fe δ).bind λp=>(frz p.1 p.2).bind λq=>(fd q.2).bind λr=>some (q.1::r.1,r.2)
theorem Fs(h:Wz Z Zr σ H R):Pn σ H R:=by refine Yo h λF δ own rvs δ' s e k=>?_;cases e;exact k [] H F own (Zj.refl H) (Zj.refl F) s .nil
theorem Ak(h:Wz Z (Zg fe fd) σ H R):M4 (Ze Z fe) (Wz Z fd) σ H R:=by refine Yo h λF δ own rvs δ' s e k=>?_;refine fA e λrv δ1 e1 e2=>?_;refine fA e2 λd δ2 e3 e4=>?_;refine fA e4 λds δ3 e5 e6=>?_;cases e6;refine⟨F,δ,own,rv,δ1,s,e1,λv H1 F1 own1 sH sF s1 r1=>?_⟩;refine Zn (s1.settleR r1) λF2 ZG s2 r2=>?_;refine Ya (s2.frzR r2 e3) λF3 ZI ZS s3 r3=>?_;exact⟨F3,δ2,ZI,ds,δ3,s3,e5,λvs H4 F4 ZU R_ YO s4 r4=>k _ H4 F4 ZU (sH.trans R_) (sF.trans (ZG.trans (ZS.trans YO))) s4 (.cons (r3.mono YO) r4)⟩
@[simp]noncomputable def tupF(fd:FD):FE:=λδ=>(fd δ).bind λp=>if p.1.length<=cj then some (.tmp (.fz (.tup p.1)),p.2)else none
@[simp]noncomputable def Bw(fd:FD):FE:=λδ=>(fd δ).bind λp=>if p.1.length<=cj then some (.tmp (.ol p.1),p.2)else none
theorem rP(h:Ze Z (tupF fd) σ H Q):AX (Wz Z fd) σ H Q:=by
 refine Yo h λF δ own rv δ' s e k=>?_;refine fA e λds δ1 e1 e2=>?_;by_cases hz:ds.length<=cj
 .rw[f_ hz]at e2;cases e2;refine⟨F,δ,own,ds,δ1,s,e1,λvs H1 F1 own1 sH sF s1 r1=>⟨by rw[<-r1.length];exact hz,λp hp=>?_⟩⟩;exact Fin.tup (λv H2 F2 ns a b c t=>k v H2 F2 own1 (sH.trans a) (sF.trans b) c ⟨ns,t⟩) s1 r1 hp
 .rw[fZ hz]at e2;cases e2
theorem rO(h:Ze Z (Bw fd) σ H Q):LX (Wz Z fd) σ H Q:=by
 refine Yo h λF δ own rv δ' s e k=>?_;refine fA e λds δ1 e1 e2=>?_;by_cases hz:ds.length<=cj
 .rw[f_ hz]at e2;cases e2;refine⟨F,δ,own,ds,δ1,s,e1,λvs H1 F1 own1 sH sF s1 r1=>⟨by rw[<-r1.length];exact hz,λp hp=>?_⟩⟩;exact Fin.lst (λv H2 F2 ns a b c t=>k v H2 F2 own1 (sH.trans a) (sF.trans b) c ⟨ns,t⟩) s1 r1 hp
 .rw[fZ hz]at e2;cases e2
end
@[simp]noncomputable def SV.scal:SV->Bool
 | .fz .non=>aC
 | .fz (.bl _)=>aC
 | .fz (.int _)=>aC
 | .fz (.str _)=>aC
 |_=>aD
def Wf(K:af)(n:Nat)(g:List D->Option SV):Sp:=λvs H Q _=>∃F ds sv,Zj F H/\gX K F ds vs/\ds.length=n/\g ds=aA sv/\
 ∀v H' F' ns,Zj H H'->Zj F F'->Zj F' H'->(∀(b:ao) (o:HO),F' b=aA o->F b=aA o\/H b=aB)->fC K F' sv v ns->(Cm ns).Nodup->(∀p∈ns,F' p.1=aB/\H p.1=aB/\H' p.1=aA p.2)->Q v H'
@[simp]def frzAll:List RV->Yp->Option (List D×Yp)
 | [],δ=>aA ([],δ)
 |rv::r,δ=>(frz rv δ).bind λp=>(frzAll r p.2).bind λq=>aA (p.1::q.1,q.2)
theorem RVSs.mono(s:Zj F F')(h:RVSs K F σ rvs vs):RVSs K F' σ rvs vs:=by
 induction h with
 |nil=>exact .nil
 |cons h _ ih=>exact .cons (h.mono s) ih
section
variable{Z:fB K}
theorem SR.frzAll{F:Hp}{δ:Yp}{own:Nat->Zs}:∀{rvs:List RV} {vs:List V} {ds:List D} {δ':Yp} {F:Hp} {δ:Yp} {own:Nat->Zs},SR Z F H σ δ own->RVSs K F σ rvs vs->L2.frzAll rvs δ=aA (ds,δ')->
  ∃F1 own1,Zj F F1/\SR Z F1 H σ δ' own1/\gX K F1 ds vs
 |_,_,_,_,F,_,own,s,.nil,e=>by cases e;exact⟨F,own,Zj.refl F,s,.nil⟩
 |_,_,_,_,F,_,own,s,.cons h t,e=>by refine fA e λd δ1 e1 e2=>?_;refine fA e2 λds δ2 e3 e4=>?_;cases e4;refine Ya (s.frzR h e1) λF1 own1 XT s1 r1=>?_;refine Ya (SR.frzAll (own:=own) (F:=F) (δ:=δ1) s1 (t.mono XT) e3) λF2 own2 ZG s2 r2=>?_;exact⟨F2,own2,XT.trans ZG,s2,.cons (r1.mono ZG) r2⟩
@[simp]def Z5(n:Nat)(g:List D->Option SV)(fa:FA):FE:=λδ=>(fa δ).bind λp=>(L2.frzAll p.1 p.2).bind λq=>if q.1.length=n then(g q.1).bind λsv=>some (.tmp sv,if sv.scal then p.2 else q.2)else none
theorem k_(h:sv.scal=aC)(sh:fC K F sv v ns):ns=[]/\fC K F' sv v []:=by
 cases sh with
 |fz r=>
  refine⟨rfl,.fz ?_⟩;cases r with
  |non=>exact .non
  |bl b=>exact .bl b
  |int i=>exact .int i
  |str x=>exact .str x
  |tup _ _=>cases h
  |lst _ _ _=>cases h
  |dK _ _ _=>cases h
  |dT _ _ _ _=>cases h
  |exc _ _=>cases h
  |dX _ _ _ _=>cases h
  |exd _ _ _ _ _=>cases h
 |ol _=>cases h
 |oK _ _=>cases h
 |oT _ _ _=>cases h
 |oN _ _=>cases h
 |oR _ _=>cases h
 |oX _ _ _=>cases h
 |oD _=>cases h
 |oM _ _ _=>cases h
 |oL _ _=>cases h
 |oQ _ _=>cases h
theorem yi(h:Ze Z (Z5 n g fa) σ H Q):Ac (Wf K n g) [] E (Ud Z fa) σ H Q:=by
 obtain⟨F,δ,own,rv,δ',s,e,k⟩:=h;refine fA e λrvs δ1 e1 e2=>?_;refine fA e2 λds δ2 e3 e4=>?_;by_cases hn:ds.length=n
 .rw[f_ hn]at e4;refine gZ e4 λsv e5 e6=>?_;refine⟨F,δ,own,rvs,δ1,s,e1,λvs H1 F1 own1 sH sF s1 r1=>?_⟩;obtain⟨F2,own2,ZG,s2,r2⟩:=s1.frzAll (own:=own) (F:=F) (δ:=δ) r1 e3;rw[List.append_nil];refine⟨F2,ds,sv,s2.le,r2,hn,e5,λv H3 F3 ns Y' ZS OB VZ sh nd ok=>?_⟩;by_cases hs:sv.scal=aC
  .rw[f_ hs]at e6;cases e6;obtain⟨_,UH⟩:=k_ (F':=F1) hs sh;exact k v H3 F1 own1 (sH.trans Y') sF (s1.grow Y') ⟨[],UH,c6,λ_ h=>(nomatch h),λ_ _ _ h=>(nomatch h)⟩
  .rw[fZ hs]at e6;cases e6;have s3:SR Z F3 H3 σ δ2 own2:=by
    refine⟨OB,λb o e=>?_,s2.old.trans Y',s2.len,λi sw ei=>?_,s2.nod,λi p hp=>?_,s2.sep⟩
    .rcases VZ b o e with z|z
     .exact s2.fro b o z
     .exact .inr (s2.old.free z)
    .obtain⟨w,h1,h2⟩:=s2.at' i sw ei;exact⟨w,h1,h2.mono ZS⟩
    .obtain⟨a,b,c⟩:=s2.ok i p hp;refine⟨?_,b,Y' _ _ c⟩;cases z:F3 p.1 with
     |none=>rfl
     |some u=>
      rcases VZ _ u z with y|y
      .rw[a]at y;cases y
      .rw[c]at y;cases y
   exact k v H3 F3 own2 (sH.trans Y') (sF.trans (ZG.trans ZS)) s3 ⟨ns,sh,nd,λp hp=>⟨(ok p hp).1,(s2.old).free (ok p hp).2.1,(ok p hp).2.2⟩,λi p q hp hq e=>by
    have z:=(s2.ok i q hq).2.2;rw[<-e,(ok p hp).2.1]at z;cases z⟩
 .rw[fZ hn]at e4;cases e4
end
end
section
variable{K:af}
section
variable{Z:fB K}
@[simp]noncomputable def Yg(fe:FE):FT:=λδ=>(fe δ).bind λp=>match p.1 with
 | .tmp (.fz (.bl b))=>aA (b,p.2)
 |_=>aB
theorem yh(h:Ye Z (Yg fe) σ H R):za (Ze Z fe) σ H R:=by
 refine Yo h λF δ own b δ' s e k=>?_;refine fA e λrv δ1 e1 e2=>?_;refine⟨F,δ,own,rv,δ1,s,e1,λv H1 F1 own1 sH sF s1 r1=>?_⟩;dsimp only at e2;split at e2
 .cases e2;obtain⟨ns,t⟩:=r1;cases Ju t.sh;exact⟨_,rfl,k H1 F1 own1 sH sF s1⟩
 .cases e2
theorem mF(h:Ye Z (Yg fe) σ H R):tB (Ze Z fe) σ H R:=yh h
@[simp]noncomputable def Xo(f g:FT):FT:=λδ=>(f δ).bind λp=>if p.1=true then g p.2 else some (false,p.2)
@[simp]noncomputable def orF(f g:FT):FT:=λδ=>(f δ).bind λp=>if p.1=true then some (true,p.2)else g p.2
@[simp]noncomputable def MB(f:FT):FT:=λδ=>(f δ).bind λp=>some (!p.1,p.2)
theorem rN(h:Ye Z (Xo f g) σ H R):AS (Ye Z f) (Ye Z g) σ H R:=by
 refine Yo h λF δ own b δ' s e k=>?_;refine fA e λc δ1 e1 e2=>?_;refine⟨F,δ,own,c,δ1,s,e1,λH1 F1 own1 sH sF s1=>?_⟩;cases c with
 |true=>rw[f_ rfl]at e2⊢;exact⟨F1,δ1,own1,b,δ',s1,e2,λH2 F2 own2 a c d=>k H2 F2 own2 (sH.trans a) (sF.trans c) d⟩
 |false=>rw[fZ bv]at e2⊢;cases e2;exact k H1 F1 own1 sH sF s1
theorem uw(h:Ye Z (orF f g) σ H R):tOr (Ye Z f) (Ye Z g) σ H R:=by
 refine Yo h λF δ own b δ' s e k=>?_;refine fA e λc δ1 e1 e2=>?_;refine⟨F,δ,own,c,δ1,s,e1,λH1 F1 own1 sH sF s1=>?_⟩;cases c with
 |true=>rw[f_ rfl]at e2⊢;cases e2;exact k H1 F1 own1 sH sF s1
 |false=>rw[fZ bv]at e2⊢;exact⟨F1,δ1,own1,b,δ',s1,e2,λH2 F2 own2 a c d=>k H2 F2 own2 (sH.trans a) (sF.trans c) d⟩
theorem rM(h:Ye Z (MB f) σ H R):AR (Ye Z f) σ H R:=by refine Yo h λF δ own b δ' s e k=>?_;refine fA e λc δ1 e1 e2=>?_;cases e2;exact⟨F,δ,own,c,δ1,s,e1,k⟩
@[simp]noncomputable def ifF(t:FT)(f g:FE):FE:=λδ=>(t δ).bind λp=>if p.1=true then f p.2 else g p.2
theorem uv(h:Ze Z (ifF t f g) σ H Q):tIf (Ye Z t) (Ze Z f) (Ze Z g) σ H Q:=by
 refine Yo h λF δ own rv δ' s e k=>?_;refine fA e λc δ1 e1 e2=>?_;refine⟨F,δ,own,c,δ1,s,e1,λH1 F1 own1 sH sF s1=>?_⟩;cases c with
 |true=>rw[f_ rfl]at e2⊢;exact⟨F1,δ1,own1,rv,δ',s1,e2,λv H2 F2 own2 a c d=>k v H2 F2 own2 (sH.trans a) (sF.trans c) d⟩
 |false=>rw[fZ bv]at e2⊢;exact⟨F1,δ1,own1,rv,δ',s1,e2,λv H2 F2 own2 a c d=>k v H2 F2 own2 (sH.trans a) (sF.trans c) d⟩
end
inductive Fl where
 |nx (δ:Yp)|bk (δ:Yp)|ct (δ:Yp)|rt (sv:SV)|ex (e:Exn) (δ:Yp)
abbrev FS:=Yp->Option Fl
def L3(Z:fB K)(F:Hp)(D:Ends):Fl->Prop
 | .nx δ=>∀ZB H' F' own',Zj F F'->SR Z F' H' ZB δ own'->D.nx ZB H'
 | .bk δ=>∀ZB H' F' own',Zj F F'->SR Z F' H' ZB δ own'->D.bk ZB H'
 | .ct δ=>∀ZB H' F' own',Zj F F'->SR Z F' H' ZB δ own'->D.ct ZB H'
 | .rt sv=>∀v H' F' ns,Zj F F'->Zj F' H'->(∀(b:ao) (o:HO),F' b=aA o->Z.f b=aA o\/Z.h b=aB)->Zj Z.h H'->fC K F' sv v ns->(Cm ns).Nodup->
   (∀p∈ns,F' p.1=aB/\Z.h p.1=aB/\H' p.1=aA p.2)->D.rt v H'
 | .ex x δ=>∀ZB H' F' own' cls od,Zj F F'->SR Z F' H' ZB δ own'->pO K F' x cls od->Z.x cls od ZB H'
theorem L3.mono{Z:fB K}{D}(s:Zj F F'):∀{fl:Fl},L3 Z F D fl->L3 Z F' D fl
 | .nx _,h=>λZB H' F2 own' a b=>h ZB H' F2 own' (s.trans a) b
 | .bk _,h=>λZB H' F2 own' a b=>h ZB H' F2 own' (s.trans a) b
 | .ct _,h=>λZB H' F2 own' a b=>h ZB H' F2 own' (s.trans a) b
 | .rt _,h=>λv H' F2 ns a=>h v H' F2 ns (s.trans a)
 | .ex _ _,h=>λZB H' F2 own' cls od a=>h ZB H' F2 own' cls od (s.trans a)
def Z6(Z:fB K)(f:FS):TS:=λD σ H=>∃F δ own fl,SR Z F H σ δ own/\f δ=aA fl/\L3 Z F D fl
section
variable{Z:fB K}{H:Hp}{σ:St}
@[simp]noncomputable def Jf:FS:=λδ=>some (.nx δ)
theorem pN(h:Z6 Z Jf E σ H):T8 E σ H:=by refine Q1 h λF δ own fl s e k=>?_;cases e;exact k σ H F own (Zj.refl F) s
@[simp]noncomputable def Z4(f g:FS):FS:=λδ=>(f δ).bind fun
 | .nx δ'=>g δ'
 |fl=>aA fl
theorem zV(h:Z6 Z (Z4 f g) E σ H):V8 (Z6 Z f) (Z6 Z g) E σ H:=by
 refine Q1 h λF δ own fl s e k=>?_;refine gZ e λf1 e1 e2=>?_;refine⟨F,δ,own,f1,s,e1,?_⟩;cases f1 with
 |nx δ1=>exact λZB H' F' own' sF s'=>⟨F',δ1,own',fl,s',e2,k.mono sF⟩
 |bk δ1=>cases e2;exact k
 |ct δ1=>cases e2;exact k
 |rt sv=>cases e2;exact k
 |ex x δ1=>cases e2;exact k
@[simp]noncomputable def L4(t:FT)(f g:FS):FS:=λδ=>(t δ).bind λp=>if p.1=true then f p.2 else g p.2
theorem rL(h:Z6 Z (L4 t f g) E σ H):V9 (Ye Z t) (Z6 Z f) (Z6 Z g) E σ H:=by
 refine Q1 h λF δ own fl s e k=>?_;refine fA e λc δ1 e1 e2=>?_;refine⟨F,δ,own,c,δ1,s,e1,λH1 F1 own1 sH sF s1=>?_⟩;cases c with
 |true=>rw[f_ rfl]at e2⊢;exact⟨F1,δ1,own1,fl,s1,e2,k.mono sF⟩
 |false=>rw[fZ bv]at e2⊢;exact⟨F1,δ1,own1,fl,s1,e2,k.mono sF⟩
@[simp]noncomputable def FP:RV->Yp->Option SV
 | .tmp sv,_=>aA sv
 | .bw i,δ=>δ[i]?.join
@[simp]noncomputable def Qh(fe:FE):FS:=λδ=>(fe δ).bind λp=>(FP p.1 p.2).bind λsv=>some (.rt sv)
theorem rK(h:Z6 Z (Qh fe) E σ H):FM (Ze Z fe) E σ H:=by
 refine Q1 h λF δ own fl s e k=>?_;refine fA e λrv δ1 e1 e2=>?_;refine gZ e2 λsv e3 e4=>?_;cases e4;refine⟨F,δ,own,rv,δ1,s,e1,λv H1 F1 own1 sH sF s1 r1=>?_⟩;cases rv with
 |tmp sw=>cases e3;obtain⟨ns,t⟩:=r1;exact k v H1 F1 ns sF s1.le s1.fro s1.old t.sh t.nd t.ok
 |bw i=>obtain⟨w,h1,h2⟩:=s1.at' i sv (Uw e3);have QA:σ[i]? =aA (aA v):=r1;rw[QA]at h1;cases h1;exact k v H1 F1 (own1 i) sF s1.le s1.fro s1.old h2 (s1.nod i) (s1.ok i)
@[simp]def stow(i:Nat):RV->Yp->Option Yp
 | .tmp sv,δ=>if i<δ.length then aA (δ.set i (aA sv))else aB
 | .bw j,δ=>(frz (.bw j) δ).bind λp=>if i<p.2.length then aA (p.2.set i (aA (.fz p.1)))else aB
theorem SR.stow(s:SR Z F H σ δ own)(r:D6 Z F H σ own rv v)(e:L2.stow i rv δ=aA δ'):∃F' own',Zj F F'/\SR Z F' H (σ.set i (aA v)) δ' own':=by
 cases rv with
 |tmp sv=>
  obtain⟨ns,t⟩:=r;have e:(if i<δ.length then aA (δ.set i (aA sv))else aB)=aA δ':=e;by_cases hi:i<δ.length
  .rw[f_ hi]at e;cases e;exact⟨F,_,Zj.refl F,s.store t (by rw[s.len];exact hi)⟩
  .rw[fZ hi]at e;cases e
 |bw j=>
  refine fA e λd δ1 e1 e2=>?_;refine Ya (s.frzR (rv:=.bw j) (v:=v) r e1) λF1 own1 sF s1 r1=>?_;by_cases hi:i<δ1.length
  .rw[f_ hi]at e2;cases e2;exact⟨F1,_,sF,s1.store (.fz r1) (by rw[s1.len];exact hi)⟩
  .rw[fZ hi]at e2;cases e2
@[simp]def Yv(i:Nat)(fe:FE):FS:=λδ=>(fe δ).bind λp=>(stow i p.1 p.2).bind λδ'=>some (.nx δ')
theorem zr(h:Z6 Z (Yv i fe) E σ H):Iq (Ze Z fe) (U1 i) E σ H:=by refine Q1 h λF δ own fl s e k=>?_;refine fA e λrv δ1 e1 e2=>?_;refine gZ e2 λδ2 e3 e4=>?_;cases e4;refine⟨F,δ,own,rv,δ1,s,e1,λv H1 F1 own1 sH sF s1 r1=>?_⟩;refine Wq (s1.stow r1 e3) λF2 own2 ZG s2=>?_;exact k _ H1 F2 own2 (sF.trans ZG) s2
set_option genInjectivity false in
structure FG where
 run:D->Yp->Option Yp
 tch:List Nat
set_option genInjectivity false in
structure FGs where
 run:List D->Yp->Option Yp
 tch:List Nat
def Op(Z:fB K)(g:FG):TG:=λv σ H Q=>∃F δ own d δ',SR Z F H σ δ own/\fE K F d v/\g.run d δ=aA δ'/\∀ZB own',SR Z F H ZB δ' own'->(∀j:Nat,j∉g.tch->ZB[j]? =σ[j]?)->Q ZB H
def Cn(Z:fB K)(g:FGs):TGs:=λvs σ H Q=>∃F δ own ds δ',SR Z F H σ δ own/\gX K F ds vs/\g.run ds δ=aA δ'/\∀ZB own',SR Z F H ZB δ' own'->(∀j:Nat,j∉g.tch->ZB[j]? =σ[j]?)->Q ZB H
noncomputable def Zf(i:Nat):FG:=⟨λd δ=>if i<δ.length then aA (δ.set i (aA (.fz d)))else aB,[i]⟩
theorem mE(h:Op Z (Zf i) v σ H Q):U1 i v σ H Q:=by
 obtain⟨F,δ,own,d,δ',s,r,e,k⟩:=h;have e:(if i<δ.length then aA (δ.set i (aA (.fz d)))else aB)=aA δ':=e;by_cases hi:i<δ.length
 .rw[f_ hi]at e;cases e;exact k _ _ (s.store (.fz r) (by rw[s.len];exact hi)) λj hj=>d6 λz=>hj (by rw[z];exact ac)
 .rw[fZ hi]at e;cases e
noncomputable def Yw:FGs:=⟨λds δ=>match ds with
 | []=>aA δ
 |_=>aB,[]⟩
noncomputable def Zm(g:FG)(r:FGs):FGs:=⟨λds δ=>match ds with
 |d::t=>(g.run d δ).bind λδ1=>r.run t δ1
 | []=>aB,g.tch++r.tch⟩
@[simp]theorem gG(i d δ):(Zf i).run d δ=if i<δ.length then some (δ.set i (some (.fz d)))else none:=rfl
@[simp]theorem gE(δ):Yw.run [] δ=some δ:=rfl
@[simp]theorem gF(g r d t δ):(Zm g r).run (d::t) δ=(g.run d δ).bind λδ1=>r.run t δ1:=rfl
theorem p9(h:Cn Z Yw vs σ H Q):AQ vs σ H Q:=by
 obtain⟨F,δ,own,ds,δ',s,r,e,k⟩:=h;cases r with
 |nil=>cases e;exact⟨rfl,k σ own s λ_ _=>rfl⟩
 |cons h t=>cases e
theorem mD(h:Cn Z (Zm g r) vs σ H Q):zd (Op Z g) (Cn Z r) vs σ H Q:=by
 obtain⟨F,δ,own,ds,δ',s,rr,e,k⟩:=h;cases rr with
 |nil=>cases e
 |cons h t=>refine gZ e λδ1 e1 e2=>?_;exact⟨_,_,rfl,F,δ,own,_,δ1,s,h,e1,λUF own1 s1 t1=>⟨F,δ1,own1,_,δ',s1,t,e2,λWT own2 s2 t2=>k WT own2 s2 λj hj=>(t2 j λz=>hj (b7 _ z)).trans (t1 j λz=>hj (cg _ z))⟩⟩
noncomputable def Ys(n:Nat)(g:FGs):FG:=⟨λd δ=>match d with
 | .tup xs=>if xs.length=n then g.run xs δ else aB
 |_=>aB,g.tch⟩
@[simp]theorem gC(n g xs δ):(Ys n g).run (.tup xs) δ=if xs.length=n then g.run xs δ else none:=rfl
theorem p8(h:Op Z (Ys n g) v σ H Q):AO K n (Cn Z g) v σ H Q:=by
 obtain⟨F,δ,own,d,δ',s,r,e,k⟩:=h;dsimp only[Ys]at e;split at e
 .rename_i xs;by_cases hn:xs.length=n
  .rw[f_ hn]at e;cases r with
   |tup h r=>exact⟨_,_,rfl,Qg s.le (Ck h),by rw[<-r.length];exact hn,F,δ,own,_,δ',s,r,e,k⟩
  .rw[fZ hn]at e;cases e
 .cases e
@[simp]def L5(g:FG)(fe:FE):FS:=λδ=>(fe δ).bind λp=>(frz p.1 p.2).bind λq=>(g.run q.1 q.2).bind λδ'=>some (.nx δ')
theorem kO(h:Z6 Z (L5 g fe) E σ H):Iq (Ze Z fe) (Op Z g) E σ H:=by refine Q1 h λF δ own fl s e k=>?_;refine fA e λrv δ1 e1 e2=>?_;refine fA e2 λd δ2 e3 e4=>?_;refine gZ e4 λδ3 e5 e6=>?_;cases e6;refine⟨F,δ,own,rv,δ1,s,e1,λv H1 F1 own1 sH sF s1 r1=>?_⟩;refine Zn (s1.settleR r1) λF2 ZG s2 r2=>?_;refine Ya (s2.frzR r2 e3) λF3 ZI ZS s3 r3=>?_;exact⟨F3,δ2,ZI,d,δ3,s3,r3,e5,λZB own' s' _=>k ZB H1 F3 own' (sF.trans (ZG.trans ZS)) s'⟩
@[simp]noncomputable def Yf(tg:FG)(body:FS):List D->Yp->Option Fl
 | [],δ=>aA (.nx δ)
 |d::ds,δ=>(tg.run d δ).bind λδ1=>(body δ1).bind fun
  | .nx δ2=>Yf tg body ds δ2
  | .ct δ2=>Yf tg body ds δ2
  | .bk δ2=>aA (.nx δ2)
  | .rt sv=>aA (.rt sv)
  | .ex x δ2=>aA (.ex x δ2)
def Oz(K:af)(J:It)(F:Hp)(ds:List D):Prop:=∀F' H,Zj F F'->Zj F' H->∀i:Nat,
 (∀d,ds[i]? =aA d->J.go i H/\∀x H',J.yld i H x H'->Zj H H'/\∃ns,(Cm ns).Nodup/\(∀p∈ns,H p.1=aB/\H' p.1=aA p.2)/\fE K (Q4 F' ns) d x)/\(ds.length<=i->J.stop i H)
def Qc(Z:fB K)(f:FD):TI:=λσ H R=>∃F δ own ds δ',SR Z F H σ δ own/\f δ=aA (ds,δ')/\
 ∀J H' F' own',Zj H H'->Zj F F'->SR Z F' H' σ δ' own'->Oz K J F' ds->R J H'
@[simp]noncomputable def J2(fi:FD)(tg:FG)(body:FS):FS:=λδ=>(fi δ).bind λp=>Yf tg body p.1 p.2
theorem SR.fresh(s:SR Z F H σ δ own)(sm:Zj H H')(nd:(Cm ns).Nodup)(h:∀p∈ns,H p.1=aB/\H' p.1=aA p.2):Zj F (Q4 F ns)/\SR Z (Q4 F ns) H' σ δ own:=by refine⟨Qv λp hp=>s.le.free (h p hp).1,(s.grow sm).addF nd (λp hp=>s.le.free (h p hp).1) (λp hp=>(h p hp).2) (λp hp=>s.old.free (h p hp).1) λi p q hp hq e=>?_⟩;have z:=(s.ok i q hq).2.2;rw[<-e,(h p hp).1]at z;cases z
theorem rJ(h:Z6 Z (J2 fi tg body) E σ H):QY (Qc Z fi) (Op Z tg) (Z6 Z body) E σ H:=by
 refine Q1 h λF δ own fl s e k=>?_;refine fA e λds δ1 e1 e2=>?_;refine⟨F,δ,own,ds,δ1,s,e1,λJ H1 F1 own1 sH sF s1 yl=>?_⟩;refine⟨λi m σ H=>m=ds.length- i/\i<=ds.length/\∃F δ own,Zj F1 F/\SR Z F H σ δ own/\Yf tg body (ds.drop i) δ=aA fl,⟨ds.length,by simp,gd _,F1,δ1,own1,Zj.refl F1,s1,e2⟩,?_⟩;rintro i m ZB H' ⟨rfl,hi,F2,δ2,own2,ZG,s2,ef⟩;by_cases ZK:i<ds.length
 .have hd:ds[i]? =aA ds[i]:=by simp[ZK]
  obtain⟨go,yy⟩:=(yl F2 H' ZG s2.le i).1 _ hd;rw[ie ZK]at ef;refine gZ ef λδ3 e3 e4=>?_;refine gZ e4 λf1 e5 e6=>?_;refine .inr ⟨go,λUT H4=>∃F δ own,Zj F1 F/\SR Z F H4 UT δ own/\Yf tg body (ds.drop (i+1)) δ=aA fl,λUT H4 ⟨F4,δ4,ZU,a,b,c⟩=>⟨ds.length- (i+1),by omega,rfl,ZK,F4,δ4,ZU,a,b,c⟩,λx H3 hy=>?_⟩;obtain⟨sm,ns,nd,hn,rp⟩:=yy x H3 hy;obtain⟨U_,sn⟩:=s2.fresh sm nd hn;refine⟨Q4 F2 ns,δ2,own2,_,δ3,sn,rp,e3,λiJ VG s5 _=>⟨Q4 F2 ns,δ3,VG,f1,s5,e5,?_⟩⟩;cases f1 with
  |nx XO=>exact λXN H6 F6 ZP a b=>⟨F6,XO,ZP,ZG.trans (U_.trans a),b,e6⟩
  |ct XO=>exact λXN H6 F6 ZP a b=>⟨F6,XO,ZP,ZG.trans (U_.trans a),b,e6⟩
  |bk XO=>cases e6;exact λXN H6 F6 ZP a b=>k XN H6 F6 ZP (sF.trans (ZG.trans (U_.trans a))) b
  |rt sv=>cases e6;exact λv H6 F6 JR a=>k v H6 F6 JR (sF.trans (ZG.trans (U_.trans a)))
  |ex x XO=>cases e6;exact λXN H6 F6 ZP cls od a=>k XN H6 F6 ZP cls od (sF.trans (ZG.trans (U_.trans a)))
 .have hz:i=ds.length:=by omega
  subst hz;rw[List.drop_length]at ef;cases ef;exact .inl ⟨(yl F2 H' ZG s2.le _).2 (bc _),k ZB H' F2 own2 (sF.trans ZG) s2⟩
noncomputable def J3(t:FT)(body:FS):Nat->Yp->Option Fl
 |0,_=>aB
 |n+1,δ=>(t δ).bind λp=>if p.1=aC then(body p.2).bind (fun
  | .nx δ2=>J3 t body n δ2
  | .ct δ2=>J3 t body n δ2
  | .bk δ2=>aA (.nx δ2)
  | .rt sv=>aA (.rt sv)
  | .ex x δ2=>aA (.ex x δ2))else aA (.nx p.2)
theorem mo(h:Z6 Z (J3 t body n) E σ H):ye (Ye Z t) (Z6 Z body) E σ H:=by
 refine Q1 h λF δ own fl s e k=>?_;refine⟨λm σ H=>∃F2 δ own,Zj F F2/\SR Z F2 H σ δ own/\J3 t body m δ=aA fl,⟨n,F,δ,own,Zj.refl F,s,e⟩,?_⟩;rintro m UF H1 ⟨F1,δ1,own1,XT,s1,e1⟩;cases m with
 |zero=>cases e1
 |succ m=>
  refine fA e1 λc δ2 e2 e3=>?_;refine⟨F1,δ1,own1,c,δ2,s1,e2,λH2 F2 own2 sH ZG s2=>?_⟩;cases c with
  |false=>rw[fZ bv]at e3⊢;cases e3;exact k UF H2 F2 own2 (XT.trans ZG) s2
  |true=>
   rw[f_ rfl]at e3⊢;refine gZ e3 λf1 e4 e5=>?_;refine⟨λZB H'=>∃F2 δ own,Zj F F2/\SR Z F2 H' ZB δ own/\J3 t body m δ=aA fl,λZB H' w=>⟨m,Nat.lt_succ_self m,w⟩,F2,δ2,own2,f1,s2,e4,?_⟩;cases f1 with
   |nx XO=>exact λXN H6 F6 ZP a b=>⟨F6,XO,ZP,XT.trans (ZG.trans a),b,e5⟩
   |ct XO=>exact λXN H6 F6 ZP a b=>⟨F6,XO,ZP,XT.trans (ZG.trans a),b,e5⟩
   |bk XO=>cases e5;exact λXN H6 F6 ZP a b=>k XN H6 F6 ZP (XT.trans (ZG.trans a)) b
   |rt sv=>cases e5;exact λv H6 F6 JR a=>k v H6 F6 JR (XT.trans (ZG.trans a))
   |ex x XO=>cases e5;exact λXN H6 F6 ZP cls od a=>k XN H6 F6 ZP cls od (XT.trans (ZG.trans a))
theorem Pz(h:Be K F a vs)(r:gX K F xs vs):Oz K (Itl K a) F xs:=λF' H sF sH i=>by have q:Be K H a vs:=Wr (sF.trans sH) h;refine⟨λd hd=>?_,λhl=>⟨vs,q,by rw[<-r.length];exact hl⟩⟩;obtain⟨v,h1,h2⟩:=r.get hd;refine⟨⟨vs,v,q,h1⟩,λx H' ZE=>?_⟩;obtain⟨e1,e2⟩:=ZE;subst e1;have e3:=e2 vs q;rw[h1]at e3;cases e3;exact⟨Zj.refl _,[],c6,λ_ h=>(nomatch h),h2.mono sF⟩
theorem Xp(h:Md K F a vs)(r:gX K F xs vs):Oz K (Itt K a) F xs:=λF' H sF sH i=>by have q:Md K H a vs:=Qg (sF.trans sH) h;refine⟨λd hd=>?_,λhl=>⟨vs,q,by rw[<-r.length];exact hl⟩⟩;obtain⟨v,h1,h2⟩:=r.get hd;refine⟨⟨vs,v,q,h1⟩,λx H' ZE=>?_⟩;obtain⟨e1,e2⟩:=ZE;subst e1;have e3:=e2 vs q;rw[h1]at e3;cases e3;exact⟨Zj.refl _,[],c6,λ_ h=>(nomatch h),h2.mono sF⟩
noncomputable def Al(lo:Int)(n:Nat):List D:=(cr n).map λi=>.int (lo+(i:Nat))
theorem L6{lo}:Oz K (Itr lo n) F (Al lo n):=λF' H sF sH i=>by
 have hl:(Al lo n).length=n:=by unfold Al;rw[aj,List.length_range]
 refine⟨λd hd=>?_,λh=>by rw[hl]at h;exact h⟩;have hi:i<n:=by have:=(az.mp hd).1;rw[hl]at this;exact this
 refine⟨hi,λx H' ZE=>?_⟩;obtain⟨e1,e2⟩:=ZE;subst e1 e2;unfold Al at hd;rw[ay,List.getElem?_range hi]at hd;cases hd;exact⟨Zj.refl _,[],c6,λ_ h=>(nomatch h),.int _⟩
def Xq(j:Int):Prop:=-(2^62)<=j/\j<2^62
theorem mn(h0:0<=j)(h:j<=16777216):Xq j:=⟨by omega,by omega⟩
theorem Am{n:Nat}(h:n<=16777216):Xq (n:Int):=mn (by omega) (by omega)
open Classical in
@[simp]def NZ(fa:FA):FD:=λδ=>(fa δ).bind λp=>match Bv p.1 p.2 with
 |some [.int j]=>if Xq j then aA (Al 0 j.toNat,p.2)else aB
 |_=>aB
theorem p7(h:Qc Z (NZ fa) σ H R):zc (Ud Z fa) σ H R:=by
 refine Yo h λF δ own ds δ' s e k=>?_;refine fA e λrvs δ1 e1 e2=>?_;refine⟨F,δ,own,rvs,δ1,s,e1,λvs H1 F1 own1 sH sF s1 r1=>?_⟩;dsimp only at e2;split at e2
 .rename_i j hj;have rn:=s1.rdAll r1 hj;cases rn with
  |cons h t=>
   cases t;by_cases hb:Xq j
   .rw[f_ hb]at e2;cases e2;exact⟨j,by rw[h.int],hb.1,hb.2,k _ H1 F1 own1 sH sF s1 L6⟩
   .rw[fZ hb]at e2;cases e2
 .cases e2
@[simp]def Xr(i:Nat)(fe:FE):FS:=λδ=>match δ[i]? with
 |some (aA (.ol _))=>(fe δ).bind λp=>(frz p.1 p.2).bind λq=>match q.2[i]? with
  |some (aA (.ol xs))=>if xs.length<cj then aA (.nx (q.2.set i (aA (.ol (xs++[q.1])))))else aB
  |_=>aB
 |_=>aB
theorem U5(h:fC K F (.ol xs) v ns):∃a vs,v= .ref a/\ns=[(a,.lst vs)]/\gX K F xs vs:=by
 cases h with
 |ol r=>exact⟨_,_,rfl,rfl,r⟩
theorem rH(h:Z6 Z (Xr i fe) E σ H):Ds (tBM K "list" Gc (Cd i) (M4 (Ze Z fe) Pn)) E σ H:=by
 refine Q1 h λF δ own fl s e k=>?_;unfold Xr at e;split at e
 .rename_i xs0 TK;refine fA e λrv δ1 e1 e2=>?_;refine fA e2 λd δ2 e3 e4=>?_;obtain⟨v,hv,sh⟩:=s.at' i _ TK;refine Ya (U5 sh) λa UW ev en r0=>?_;refine⟨v,hv,?_,F,δ,own,rv,δ1,s,e1,λy H1 F1 own1 sH sF s1 r1=>?_⟩
  .subst ev;exact .inl ⟨rfl,UW,.inl (.inl (s.ok i (a,.lst UW) (by rw[en];exact ac)).2.2)⟩
  refine Zn (s1.settleR r1) λF2 ZG s2 r2=>?_;refine Ya (s2.frzR r2 e3) λF3 ZI ZS s3 r3=>?_;dsimp only at e4;split at e4
  .rename_i xs hx;by_cases hz:xs.length<cj
   .rw[f_ hz]at e4;cases e4;obtain⟨v',YQ,UH⟩:=s3.at' i _ hx;rw[hv]at YQ;cases YQ;refine Ya (U5 UH) λb vs eb RU r'=>?_;have mb:(b,HO.lst vs)∈ZI i:=by rw[RU];exact ac
    subst eb;refine⟨b,vs,y,rfl,rfl,(s3.ok i _ mb).2.2,by rw[<-r'.length];exact hz,?_⟩;exact k σ _ F3 _ (sF.trans (ZG.trans ZS)) (s3.change (sv':=.ol (xs++[d])) (o':=.lst (vs++[y])) (ns':=[(b,.lst (vs++[y]))]) hx hv mb (.ol (r'.snoc r3)) (λp hp=>.inl (ar.mp hp)) Fp)
   .rw[fZ hz]at e4;cases e4
  .cases e4
 .cases e
end
@[simp]noncomputable def An(n:Nat)(ds:List D):Yp:=ds.map (λd=>some (.fz d))++List.replicate (n- ds.length) none
theorem P0(le:Zj F H)(r:gX K F ds vs):SR (ent H F:fB K) F H (L2.Bg N vs) (An N.length ds) λ_=>[]:=by
 have hl:=r.length;refine⟨le,λb o e=>.inl e,Zj.refl H,?_,λi sv e=>?_,λ_=>c6,λ_ _ h=>(nomatch h),λ_ _ _ _ _ h=>(nomatch h)⟩
 .unfold L2.Bg An;rw[bg,bg,aj,aj,List.length_replicate,List.length_replicate,hl]
 .unfold An at e;by_cases hi:i<ds.length
  .rw[cw (by simpa using hi),ay]at e;cases hd:ds[i]? with
   |none=>rw[hd]at e;cases e
   |some d=>rw[hd]at e;cases e;obtain⟨v,h1,h2⟩:=r.get hd;refine⟨v,?_,.fz h2⟩;unfold L2.Bg;rw[cw (by rw[aj];omega),ay,h1];rfl
  .rw[fq (by simpa using hi),List.getElem?_replicate]at e;split at e<;> cases e
theorem Ao(h:Wf K n g vs H Q E):vs.length=n:=by obtain⟨F,ds,sv,le,r,hn,e,k⟩:=h;rw[<-r.length];exact hn
end
section
variable{K:af}
def xG(K:af)(g:FG):TG:=λv σ H Q=>∃Z:fB K,Op Z g v σ H Q
def xT(K:af)(f:FT):TT:=λσ H Q=>∃Z:fB K,Ye Z f σ H Q
def xE(K:af)(f:FE):TE:=λσ H Q=>∃Z:fB K,Ze Z f σ H Q
noncomputable def U6:FT:=λδ=>aA (aC,δ)
@[simp]theorem gB(δ):U6 δ=some (true,δ):=rfl
@[simp]noncomputable def caps(src:List BSrc):List RV:=src.filterMap fun
 | .cap j=>aA (.bw j)
 |_=>aB
@[simp]noncomputable def Xs(δ:Yp):BSrc->Option SV
 | .own=>aB
 | .cap j=>match δ[j]?.join with
  |some (.fz d)=>aA (.fz d)
  |_=>aB
 | .acc=>aA (.ol [])
@[simp]noncomputable def bD(src:List BSrc)(δ:Yp):Yp:=src.map (Xs δ)
@[simp]noncomputable def resetSlot:BSrc->Option SV->Option SV
 | .own,_=>aB
 |_,o=>o
@[simp]def Rp:List BSrc->Yp->Yp
 |b::r,o::t=>resetSlot b o::Rp r t
 |_,t=>t
@[simp]def Y1(src:List BSrc)(k:Nat)(g:FG)(tt:FT)(te:FE):List D->Yp->Option Yp
 | [],δ=>aA δ
 |d::ds,δ=>(g.run d δ).bind λδ1=>(tt δ1).bind λp=>if p.1=aC then(te p.2).bind λq=>(frz q.1 q.2).bind λr=>match r.2[k]? with
   |some (aA (.ol zs))=>if zs.length<cj then Y1 src k g tt te ds (Rp src (r.2.set k (aA (.ol (zs++[r.1])))))else aB
   |_=>aB
  else Y1 src k g tt te ds (Rp src p.2)
@[simp]def U7(src:List BSrc)(k:Nat)(fi:FD)(g:FG)(tt:FT)(te:FE):FE:=λδ=>(fi δ).bind λp=>(frzAll (caps src) p.2).bind λc=>(Y1 src k g tt te p.1 (bD src c.2)).bind λwB=>match wB[k]? with
 |some (aA (.ol ys))=>aA (.tmp (.ol ys),c.2)
 |_=>aB
theorem Mf:∀src δ,(Rp src δ).length=δ.length
 | [],t=>by unfold Rp;rfl
 |_::_,[]=>by unfold Rp;rfl
 |b::r,o::t=>by show(resetSlot b o::Rp r t).length=_;rw[aw,aw,Mf r t]
theorem Mg:∀{src:List BSrc} {δ:Yp} {i:Nat} {sv:SV},(Rp src δ)[i]? =aA (aA sv)->δ[i]? =aA (aA sv)
 | [],_,_,_,h=>h
 |_::_,[],_,_,h=>h
 |b::r,o::t,0,sv,h=>by
  have h:aA (resetSlot b o)=aA (aA sv):=h;cases b with
  |own=>cases h
  |cap j=>exact h
  |acc=>exact h
 |b::r,o::t,i+1,sv,h=>by have h:(Rp r t)[i]? =aA (aA sv):=h;show t[i]? =_;exact Mg h
section
variable{Z:fB K}{F H:Hp}{σ:St}{δ δ':Yp}{own:Nat->Zs}
theorem SR.forget(s:SR Z F H σ δ own)(hl:δ'.length=δ.length)(h:∀(i:Nat) sv,δ'[i]? =aA (aA sv)->δ[i]? =aA (aA sv)):SR Z F H σ δ' own:=
 ⟨s.le,s.fro,s.old,s.len.trans hl.symm,λi sv e=>s.at' i sv (h i sv e),s.nod,s.ok,s.sep⟩
theorem SR.caps:∀{rvs:List RV} {ds:List D} {δ δ':Yp} {F:Hp} {own:Nat->Zs},(∀rv∈rvs,∃j,rv= .bw j)->SR Z F H σ δ own->L2.frzAll rvs δ=aA (ds,δ')->∃F1 own1,Zj F F1/\SR Z F1 H σ δ' own1
 | [],_,_,_,F,own,_,s,e=>by cases e;exact⟨F,own,Zj.refl F,s⟩
 |rv::r,_,_,_,F,own,hb,s,e=>by refine fA e λd δ1 e1 e2=>?_;refine fA e2 λds δ2 e3 e4=>?_;cases e4;obtain⟨j,rfl⟩:=hb rv ac;refine gZ e1 λsv e5 e6=>?_;cases e6;refine Ol (s.freeze (Uw e5)) λF1 v sF _ _ s1=>?_;obtain⟨F2,own2,ZG,s2⟩:=SR.caps (λrv h=>hb rv (ah _ h)) s1 e3;exact⟨F2,own2,sF.trans ZG,s2⟩
theorem SR.after(s2:SR Z F H σ δ own)(Y':Zj H H3)(ZS:Zj F F3)(OB:Zj F3 H3)(VZ:∀b o,F3 b=aA o->F b=aA o\/H b=aB):SR Z F3 H3 σ δ own:=by
 refine⟨OB,λb o e=>?_,s2.old.trans Y',s2.len,λi sw ei=>?_,s2.nod,λi p hp=>?_,s2.sep⟩
 .rcases VZ b o e with z|z
  .exact s2.fro b o z
  .exact .inr (s2.old.free z)
 .obtain⟨w,h1,h2⟩:=s2.at' i sw ei;exact⟨w,h1,h2.mono ZS⟩
 .obtain⟨a,b,c⟩:=s2.ok i p hp;refine⟨?_,b,Y' _ _ c⟩;cases z:F3 p.1 with
  |none=>rfl
  |some u=>
   rcases VZ _ u z with y|y
   .rw[a]at y;cases y
   .rw[c]at y;cases y
end
structure SrcOk(src:List BSrc)(k:Nat):Prop where
 acc:src[k]? =aA .acc
 uni:∀i:Nat,src[i]? =aA .acc->i=k
theorem kM{Z:fB K}(S:SrcOk src k)(s:SR Z F H σ δ own)(ha:H acc=aB):
  SR (ent H F:fB K) F (Y3 H acc (.lst [])) (Xm src σ acc) (bD src δ) (λi=>if i=k then[(acc,.lst [])]else[]):=by
 have mem:∀{i:Nat} {p:ao×HO},p∈(if i=k then[(acc,HO.lst [])]else[])->i=k/\p=(acc,.lst []):=fun{i p} h=>by
  by_cases hi:i=k
  .rw[f_ hi]at h;exact⟨hi,ar.mp h⟩
  .rw[fZ hi]at h;exact nomatch h
 refine⟨s.le.trans (W1 ha),λb o e=>.inl e,W1 ha,by unfold Xm bD;rw[aj,aj],λi sv e=>?_,λi=>?_,λi p hp=>?_,λi j p q YJ hp hq=>?_⟩
 .unfold bD at e;rw[ay]at e;cases hq:src[i]? with
  |none=>rw[hq]at e;cases e
  |some q=>
   rw[hq]at e;have e:Xs δ q=aA sv:=dg.inj e;cases q with
   |own=>cases e
   |acc=>cases e;have hi:=S.uni i hq;refine⟨.ref acc,by unfold Xm;rw[ay,hq];rfl,?_⟩;show fC K F (.ol []) (.ref acc) (if i=k then[(acc,.lst [])]else[]);rw[f_ hi];exact .ol .nil
   |cap j=>
    have hi:i≠k:=λz=>by rw[z,S.acc]at hq;cases hq
    unfold Xs at e;dsimp only at e;split at e
    .rename_i d hd;cases e;obtain⟨v,h1,h2⟩:=s.at' j _ (Uw hd);refine⟨v,by unfold Xm;rw[ay,hq];show aA (σ[j]?).join=_;rw[h1];rfl,?_⟩;show fC K F (.fz d) v (if i=k then[(acc,.lst [])]else[]);rw[fZ hi];exact .fz (Ju h2)
    .cases e
 .show(Cm (if i=k then[(acc,HO.lst [])]else[])).Nodup;by_cases hi:i=k
  .rw[f_ hi];exact Fp
  .rw[fZ hi];exact c6
 .obtain⟨_,rfl⟩:=mem hp;exact⟨s.le.free ha,ha,Z2⟩
 .obtain⟨z,_⟩:=mem hp;obtain⟨y,_⟩:=mem hq;exact eF (z.trans y.symm) YJ
theorem yZ{Z:fB K}(S:SrcOk src k)(hk:k∉g.tch)(h:Ze Z (U7 src k fi g tt te) σ H Q):
  EW src (Qc Z fi) (xG K g) (xT K tt) (xE K te) σ H Q:=by
 refine Yo h λF δ own rv δ' s e k0=>?_;refine fA e λds δ1 e1 e2=>?_;refine fA e2 λcs δ2 e3 e4=>?_;refine gZ e4 λwA e5 e6=>?_;refine⟨F,δ,own,ds,δ1,s,e1,λJ H1 F1 own1 sH sF s1 yl acc ha=>?_⟩;obtain⟨F2,own2,ZG,s2⟩:=s1.caps (λrv hr=>by
  unfold L2.caps at hr;obtain⟨b,_,hb⟩:=List.mem_filterMap.mp hr;cases b with
  |own=>cases hb
  |acc=>cases hb
  |cap j=>cases hb;exact⟨j,rfl⟩) e3
 have s3:=kM S s2 ha;have NC:(Xm src σ acc)[k]? =aA (aA (.ref acc)):=by unfold Xm;rw[ay,S.acc];rfl
 refine⟨λi m ZB H=>m=ds.length- i/\i<=ds.length/\ZB[k]? =aA (aA (.ref acc))/\∃F δ own,Zj F2 F/\SR (ent H1 F2:fB K) F H ZB δ own/\Y1 src k g tt te (ds.drop i) δ=aA wA,
  ⟨ds.length,by simp,gd _,NC,F2,_,_,Zj.refl F2,s3,e5⟩,?_⟩
 rintro i m UT H4 ⟨rfl,hi,WF,F4,δ4,ZU,YO,s4,ef⟩;by_cases ZK:i<ds.length
 .have hd:ds[i]? =aA ds[i]:=by simp[ZK]
  obtain⟨go,yy⟩:=(yl F4 H4 (ZG.trans YO) s4.le i).1 _ hd;rw[ie ZK]at ef;refine gZ ef λEY e7 e8=>?_;refine fA e8 λb XO e9 T'=>?_;refine .inr ⟨go,λx H5 hy=>?_⟩;obtain⟨sm,ns,nd,hn,rp⟩:=yy x H5 hy;obtain⟨U_,sn⟩:=s4.fresh sm nd hn;refine⟨(ent H1 F2:fB K),Q4 F4 ns,δ4,ZU,_,EY,sn,rp,e7,λXN ZP s6 t6=>⟨(ent H1 F2:fB K),Q4 F4 ns,EY,ZP,b,XO,s6,e9,λH7 F7 VE iQ MJ s7=>?_⟩⟩;have WS:XN[k]? =aA (aA (.ref acc)):=(t6 k hk).trans WF;cases b with
  |false=>dsimp only;rw[fZ bv]at T'⊢;exact⟨ds.length- (i+1),by omega,rfl,ZK,WS,F7,_,VE,YO.trans (U_.trans MJ),s7.forget (Mf src XO) (λj sv hj=>Mg hj),T'⟩
  |true=>
   dsimp only;rw[f_ rfl]at T'⊢;refine fA T' λwc wC GO GN=>?_;refine fA GN λd9 iK uX RW=>?_;refine⟨(ent H1 F2:fB K),F7,XO,VE,wc,wC,s7,GO,λy H8 F8 SS iP wY s8 r8=>?_⟩;refine Zn (s8.settleR r8) λF9 wX s9 r9=>?_;refine Ya (s9.frzR r9 uX) λiH PU JF MK wm=>?_;dsimp only at RW;split at RW
   .rename_i zs hz;by_cases hzl:zs.length<cj
    .rw[f_ hzl]at RW;obtain⟨v',YQ,UH⟩:=MK.at' k _ hz;rw[WS]at YQ;cases YQ;refine Ya (U5 UH) λb vs eb RU r'=>?_;cases eb;have mb:(acc,HO.lst vs)∈PU k:=by rw[RU];exact ac
     refine⟨acc,vs,y,rfl,rfl,(MK.ok k _ mb).2.2,by rw[<-r'.length];exact hzl,?_⟩;have s11:=MK.change (sv':=.ol (zs++[d9])) (o':=.lst (vs++[y])) (ns':=[(acc,.lst (vs++[y]))]) hz WS mb (.ol (r'.snoc wm)) (λp hp=>.inl (ar.mp hp)) Fp;exact⟨ds.length- (i+1),by omega,rfl,ZK,WS,iH,_,_,YO.trans (U_.trans (MJ.trans (wY.trans (wX.trans JF)))),s11.forget (Mf src _) (λj sv hj=>Mg hj),RW⟩
    .rw[fZ hzl]at RW;cases RW
   .cases RW
 .have hz:i=ds.length:=by omega
  subst hz;rw[List.drop_length]at ef;cases ef;refine .inl ⟨(yl F4 H4 (ZG.trans YO) s4.le _).2 (bc _),?_⟩;dsimp only at e6;split at e6
  .rename_i ys MQ;cases e6;obtain⟨v',YQ,UH⟩:=s4.at' k _ MQ;rw[WF]at YQ;cases YQ;refine Ya (U5 UH) λb vs eb RU r'=>?_;cases eb;have mb:(acc,HO.lst vs)∈ZU k:=by rw[RU];exact ac
   obtain⟨o1,o2,o3⟩:=s4.ok k _ mb;refine k0 (.ref acc) H4 F4 own2 (sH.trans s4.old) (sF.trans (ZG.trans YO)) (s2.after s4.old YO s4.le λb o e=>s4.fro b o e) ⟨[(acc,.lst vs)],.ol r',Fp,λp hp=>?_,λj p q hp hq e=>?_⟩
   .obtain rfl:=ar.mp hp;exact⟨o1,s2.old.free ha,o3⟩
   .obtain rfl:=ar.mp hp;have z:=(s2.ok j q hq).2.2;have e':acc=q.1:=e;rw[<-e',ha]at z;cases z
  .cases e6
end
section
variable{K:af}
variable{Z:fB K}
@[simp]noncomputable def QW(f:Int->Int->D):D->D->Option SV
 | .int i,.int j=>aA (.fz (f i j))
 |_,_=>aB
@[simp]noncomputable def NY(C:Int->Int->Bool)(f:Int->Int->D):D->D->Option SV
 | .int i,.int j=>if C i j=aC then aA (.fz (f i j))else aB
 |_,_=>aB
theorem D7(hr:∀F i j,fE K F (f i j) (g i j)):Yz Z (rI0 g) (QW f):=by
 intro F H σ δ own x y d1 d2 sv Q s r1 r2 e k;unfold QW at e;split at e
 .cases e;exact⟨_,_,r1.int,r2.int,k.fz s (hr _ _ _)⟩
 .cases e
theorem FN(hc:∀i j,c i j=aC->C i j)(hr:∀F i j,fE K F (f i j) (g i j)):Yz Z (rI C g) (NY c f):=by
 intro F H σ δ own x y d1 d2 sv Q s r1 r2 e k;unfold NY at e;split at e
 .split at e
  .rename_i hcc;cases e;exact⟨_,_,r1.int,r2.int,hc _ _ hcc,k.fz s (hr _ _ _)⟩
  .cases e
 .cases e
@[simp]def LY:D->D->Option SV:=QW λi j=>.int (i- j)
noncomputable def NX(i j:Int):Bool:=(decide (-(2^64)<i)&&decide (i<2^64))|| (decide (-(2^64)<j)&&decide (j<2^64))
@[simp]def AD:D->D->Option SV:=NY NX λi j=>.int (i*j)
@[simp]noncomputable def AC(i j:Int):Bool:=decide (0<j)&&decide (j<1073741824)
@[simp]def Ue:D->D->Option SV:=NY AC λi j=>.int (i / j)
@[simp]noncomputable def AB(i j:Int):Bool:=decide (0<j)
@[simp]def Oi:D->D->Option SV:=NY AB λi j=>.int (i % j)
theorem rG:Yz Z (rI0 λi j=>V.int (i- j)) LY:=D7 λ_ _ _=>.int _
theorem rF:Yz Z (rI MA λi j=>V.int (i*j)) AD:=FN (λi j h=>by
 unfold NX at h;simp only[Bool.or_eq_true,Bool.and_eq_true,decide_eq_true_eq]at h;exact h) λ_ _ _=>.int _
theorem p6:Yz Z (rI AY λi j=>V.int (i / j)) Ue:=FN (λi j h=>by
 unfold AC at h;simp only[Bool.and_eq_true,decide_eq_true_eq]at h;exact h) λ_ _ _=>.int _
theorem rE:Yz Z (rI (λ_ j=>0<j) λi j=>V.int (i % j)) Oi:=FN (λi j h=>by
 unfold AB at h;simp only[decide_eq_true_eq]at h;exact h) λ_ _ _=>.int _
@[simp]def ltD:D->D->Option SV:=QW λi j=>.bl (decide (i<j))
@[simp]def gtD:D->D->Option SV:=QW λi j=>.bl (decide (j<i))
@[simp]def geD:D->D->Option SV:=QW λi j=>.bl (decide (j<=i))
theorem tF:Yz Z (rI0 λi j=>V.bl (decide (i<j))) ltD:=D7 λ_ _ _=>.bl _
theorem tD:Yz Z (rI0 λi j=>V.bl (decide (j<i))) gtD:=D7 λ_ _ _=>.bl _
theorem u_:Yz Z (rI0 λi j=>V.bl (decide (j<=i))) geD:=D7 λ_ _ _=>.bl _
def u9:R2:=λx y H Q=>∃i j,x= .str i/\y= .str j/\i.length+j.length<=cj/\Q (.str (i++j)) H
def zq(K:af):R2:=λx y H Q=>∃l b xs zs,x= .ref l/\y= .ref b/\Be K H l xs/\Be K H b zs/\xs.length+zs.length<=cj/\∀p,H p=aB->Q (.ref p) (Y3 H p (.lst (xs++zs)))
theorem mh:Bd X (binaryOp .Add) (zq X.K):=by
 intro gR s σ H x y v u Q I rx ry h;obtain⟨l,b,xs,zs,rfl,rfl,hH,hB,hz,q⟩:=h;cases rx;cases ry;refine Zn (I.list hH) λgU r pl z=>?_;refine Zn (I.list hB) λXE r2 wu z2=>?_;have hl:=r.length;have hl2:=r2.length;obtain⟨⟨cls,dd,data,sl⟩,ho,hc,n,hd⟩:=pl.isList;obtain⟨⟨cls2,dd2,data2,sl2⟩,YS,WE,n2,hd2⟩:=wu.isList;simp only at hc hd WE hd2;subst hc hd WE hd2;have ea:gU.toArray++XE.toArray=(gU++XE).toArray:=by simp
 refine concat_meets ⟨_,ho,rfl⟩ ⟨_,YS,rfl⟩ noFill_list_add seq_list_add PySem.F.slot_list_add PySem.F.entry_list_add (PySem.F.args_list_add_2 _ _) (list_addW l b gU.toArray XE.toArray n n2 dd dd2 sl sl2 (by rw[bx,bx];omega)) ⟨ho,YS,?_⟩;rw[ea];exact⟨.ref _,_,I.lnew (t':=s.toks) (r.append r2) (by rw[bg];omega),rfl,q _ I.fresh⟩
def zo(K:af):R2:=λx y H Q=>rI0 (λi j=>V.int (i+j)) x y H Q\/(u9 x y H Q\/zq K x y H Q)
theorem mf:Bd X (binaryOp .Add) (zo X.K):=pd.or (Xd.or mh)
@[simp]noncomputable def O0:D->D->Option SV
 | .int i,.int j=>aA (.fz (.int (i+j)))
 | .str x,.str y=>if x.length+y.length<=cj then aA (.fz (.str (x++y)))else aB
 | .lst xs,.lst ys=>if xs.length+ys.length<=cj then aA (.ol (xs++ys))else aB
 |_,_=>aB
theorem rD:Yz Z (zo K) O0:=by
 intro F H σ δ own x y d1 d2 sv Q s r1 r2 e k;unfold O0 at e;split at e
 .cases e;exact .inl ⟨_,_,r1.int,r2.int,k.fz s (.int _)⟩
 .split at e
  .rename_i hz;cases e;exact .inr (.inl ⟨_,_,r1.str,r2.str,hz,k.fz s (.str _)⟩)
  .cases e
 .split at e
  .rename_i hz;cases e;refine Ya (r1.lst s.le) λa vs ex ha ra=>?_;refine Ya (r2.lst s.le) λb us ey hb rb=>?_;exact .inr (.inr ⟨a,b,vs,us,ex,ey,ha,hb,by rw[<-ra.length,<-rb.length];exact hz,λp hp=>k.lst s (ra.append rb) hp⟩)
  .cases e
 .cases e
@[simp]noncomputable def eqS:D->D->Option Bool
 | .non,.non=>aA aC
 | .non,.int _=>aA aD
 | .int _,.non=>aA aD
 | .non,.bl _=>aA aD
 | .bl _,.non=>aA aD
 | .non,.str _=>aA aD
 | .str _,.non=>aA aD
 | .int i,.int j=>aA (decide (i=j))
 | .bl i,.bl j=>aA (decide (i=j))
 | .str i,.str j=>aA (decide (i=j))
 | .int _,.str _=>aA aD
 | .str _,.int _=>aA aD
 | .bl _,.str _=>aA aD
 | .str _,.bl _=>aA aD
 |_,_=>aB
theorem yY(e:eqS d1 d2=aA b)(r1:Yh K F H d1 x)(r2:Yh K F H d2 y):scal x y=aC/\b=decide (x=y):=by
 unfold eqS at e;split at e<;> cases e
 .rw[r1.non,r2.non];exact⟨rfl,by simp⟩
 .rw[r1.non,r2.int];exact⟨rfl,by simp⟩
 .rw[r1.int,r2.non];exact⟨rfl,by simp⟩
 .rw[r1.non,r2.bl];exact⟨rfl,by simp⟩
 .rw[r1.bl,r2.non];exact⟨rfl,by simp⟩
 .rw[r1.non,r2.str];exact⟨rfl,by simp⟩
 .rw[r1.str,r2.non];exact⟨rfl,by simp⟩
 .rw[r1.int,r2.int];exact⟨rfl,by simp⟩
 .rw[r1.bl,r2.bl];exact⟨rfl,by simp⟩
 .rw[r1.str,r2.str];exact⟨rfl,by simp⟩
 .rw[r1.int,r2.str];exact⟨rfl,by simp⟩
 .rw[r1.str,r2.int];exact⟨rfl,by simp⟩
 .rw[r1.bl,r2.str];exact⟨rfl,by simp⟩
 .rw[r1.str,r2.bl];exact⟨rfl,by simp⟩
@[simp]def eqD(d1 d2:D):Option SV:=(eqS d1 d2).bind λb=>some (.fz (.bl b))
@[simp]def neD(d1 d2:D):Option SV:=(eqS d1 d2).bind λb=>some (.fz (.bl (!b)))
theorem AN:Yz Z rEq eqD:=by intro F H σ δ own x y d1 d2 sv Q s r1 r2 e k;refine gZ e λb e1 e2=>?_;cases e2;obtain⟨h1,h2⟩:=yY e1 r1 r2;subst h2;exact⟨h1,k.fz s (.bl _)⟩
theorem AM:Yz Z rNe neD:=by intro F H σ δ own x y d1 d2 sv Q s r1 r2 e k;refine gZ e λb e1 e2=>?_;cases e2;obtain⟨h1,h2⟩:=yY e1 r1 r2;subst h2;exact⟨h1,k.fz s (.bl _)⟩
@[simp]noncomputable def D.isNon:D->Bool
 | .non=>aC
 |_=>aD
theorem P3(r:Yh K F H d x):decide (x= .non)=d.isNon:=by
 obtain⟨sv,ns,e,n,sh,hp⟩:=r;subst e;cases sh with
 |fz r=>cases r<;> rfl
 |_=>rfl
@[simp]noncomputable def NW(d1 d2:D):Option SV:=if d2.isNon=true then some (.fz (.bl d1.isNon))else none
@[simp]noncomputable def Ft(d1 d2:D):Option SV:=if d2.isNon=true then some (.fz (.bl (!d1.isNon)))else none
theorem P4{d:D}(h:d.isNon=aC):d= .non:=by cases d<;> first|rfl|cases h
theorem rY:Yz Z (λx y H Q=>y=V.non/\Q (.bl (decide (x= .non))) H) NW:=by
 intro F H σ δ own x y d1 d2 sv Q s r1 r2 e k;unfold NW at e;split at e
 .rename_i h;cases e;have:=P4 h;subst this;exact⟨r2.non,by rw[P3 r1];exact k.fz s (.bl _)⟩
 .cases e
theorem po:Yz Z (λx y H Q=>y=V.non/\Q (.bl (!decide (x= .non))) H) Ft:=by
 intro F H σ δ own x y d1 d2 sv Q s r1 r2 e k;unfold Ft at e;split at e
 .rename_i h;cases e;have:=P4 h;subst this;exact⟨r2.non,by rw[P3 r1];exact k.fz s (.bl _)⟩
 .cases e
theorem gX.atI(r:gX K F xs vs)(e:L2.atI xs i=aA d):∃v,L2.atI vs i=aA v/\fE K F d v:=by unfold L2.atI at e⊢;refine gZ e λj e1 e2=>?_;obtain⟨v,h1,h2⟩:=r.get e2;exact⟨v,dr.mpr ⟨j,by rw[<-r.length];exact e1,h1⟩,h2⟩
@[simp]def ixD:D->D->Option SV
 | .lst xs,.int i=>(L2.atI xs i).bind λd=>aA (.fz d)
 | .tup xs,.int i=>(L2.atI xs i).bind λd=>aA (.fz d)
 | .str z,.int i=>if z.length<=cj then(L2.atI z.cps.toList i).bind λc=>aA (.fz (.str ⟨#[c]⟩))else aB
 |_,_=>aB
theorem AL:Yz Z (rIx K) ixD:=by
 intro F H σ δ own x y d1 d2 sv Q s r1 r2 e k;unfold ixD at e;split at e
 .refine gZ e λd e1 e2=>?_;cases e2;refine Ya (r1.lst s.le) λa vs ex ha ra=>?_;obtain⟨v,h1,h2⟩:=ra.atI e1;exact .inl ⟨a,vs,_,v,ex,r2.int,ha,h1,k.fz s h2⟩
 .refine gZ e λd e1 e2=>?_;cases e2;refine Ya (r1.tup s.le) λa vs ex ha ra=>?_;obtain⟨v,h1,h2⟩:=ra.atI e1;exact .inr (.inl ⟨a,vs,_,v,ex,r2.int,ha,h1,k.fz s h2⟩)
 .split at e
  .rename_i hz;refine gZ e λc e1 e2=>?_;cases e2;exact .inr (.inr ⟨_,_,c,r1.str,r2.int,hz,e1,k.fz s (.str _)⟩)
  .cases e
 .cases e
abbrev FO:=Yp->Option (Option Int×Yp)
def M6(Z:fB K)(f:FO):TO:=λσ H Q=>∃F δ own o δ',SR Z F H σ δ own/\f δ=aA (o,δ')/\∀H' F' own',Zj H H'->Zj F F'->SR Z F' H' σ δ' own'->Q o H'
@[simp]noncomputable def Xt:FO:=λδ=>some (none,δ)
@[simp]noncomputable def P5(fe:FE):FO:=λδ=>(fe δ).bind λp=>match p.1 with
 | .tmp (.fz (.int i))=>aA (aA i,p.2)
 |_=>aB
section
variable{H:Hp}{σ:L2.St}{Q:VK}
theorem kL(h:M6 Z Xt σ H R):Dy σ H R:=by refine Yo h λF δ own o δ' s e k=>?_;cases e;exact k H F own (Zj.refl H) (Zj.refl F) s
theorem pk(h:M6 Z (P5 fe) σ H R):zY (Ze Z fe) σ H R:=by
 refine Yo h λF δ own b δ' s e k=>?_;refine fA e λrv δ1 e1 e2=>?_;refine⟨F,δ,own,rv,δ1,s,e1,λv H1 F1 own1 sH sF s1 r1=>?_⟩;dsimp only at e2;split at e2
 .cases e2;obtain⟨ns,t⟩:=r1;cases Ju t.sh;exact⟨_,rfl,k H1 F1 own1 sH sF s1⟩
 .cases e2
@[simp]def slF(g:D->Option Int->Option Int->Option SV)(fe:FE)(fl fh:FO):FE:=λδ=>(fe δ).bind λp=>(fl p.2).bind λl=>(fh l.2).bind λh=>(rdv p.1 h.2).bind λd=>(g d l.1 h.1).bind λsv=>some (.tmp sv,h.2)
def zn(Z:fB K)(r:V->Option Int->Option Int->Hp->VK->Prop)(g:D->Option Int->Option Int->Option SV):Prop:=
 ∀(F H:Hp) (σ:L2.St) (δ:Yp) (own:Nat->Zs) (x:V) (d:D) (lo hi:Option Int) (sv:SV) (Q:VK),SR Z F H σ δ own->Yh K F H d x->g d lo hi=aA sv->Fin Z F H σ δ own sv Q->r x lo hi H Q
theorem u7(hg:zn Z r g)(h:Ze Z (slF g fe fl fh) σ H Q):tSl r (Ze Z fe) (M6 Z fl) (M6 Z fh) σ H Q:=by
 refine Yo h λF δ own rv δ' s e k=>?_;refine fA e λW' δ1 e1 e=>?_;refine fA e λlo δ2 e2 e=>?_;refine fA e λhi δ3 e3 e=>?_;refine gZ e λd e4 e=>?_;refine gZ e λsv e5 e=>?_;cases e;refine⟨F,δ,own,W',δ1,s,e1,λv H1 F1 own1 JD XT s1 r1=>?_⟩;refine Zn (s1.settleR r1) λiI JG SO QA=>?_;refine⟨iI,δ1,own1,lo,δ2,SO,e2,λH2 F2 own2 SN ZG s2=>⟨F2,δ2,own2,hi,δ3,s2,e3,λH3 F3 ZI Y' ZS s3=>?_⟩⟩;exact hg F3 H3 σ δ3 ZI v d lo hi sv Q s3 (s3.rd (QA.mono (ZG.trans ZS)) e4) e5 λq H4 F4 ns R_ YO s4 t4=>
  k q H4 F4 ZI (JD.trans (SN.trans (Y'.trans R_))) (XT.trans (JG.trans (ZG.trans (ZS.trans YO)))) s4 ⟨ns,t4⟩
end
def Ap(xs:List D)(lo hi:Option Int):List D:=(xs.drop (HT.sIx xs.length 0 lo)).take (HT.sIx xs.length xs.length hi- HT.sIx xs.length 0 lo)
theorem gX.cut(r:gX K F xs vs)(lo hi):gX K F (Ap xs lo hi) (QX vs lo hi):=by unfold Ap QX;rw[r.length];exact(r.drop _).take _
def AK:V->Option Int->Option Int->Hp->VK->Prop:=λx lo hi H Q=>∃z,x= .str z/\z.length<=cj/\Q (.str (Txt.slice z lo hi)) H
theorem pj:SlR X AK:=by
 intro gR s σ H x v vl vu lo hi sl Q I rx hs pl pu h;obtain⟨z,rfl,hz,q⟩:=h;obtain⟨t,rfl⟩:=rx;refine⟨"str",_,F.slot_str_getitem.lookup,typeIs_str _ _ _,?_⟩;have fin:∀(t':Tok) (k:Nat),EP X gR σ Q (.str (Txt.slice z lo hi) t') {s with toks:=k}:=λt' k=>⟨.str (Txt.slice z lo hi),H,I.tok _,⟨_,rfl⟩,q⟩
 cases pl with
 |none=>cases pu with
  |none=>exact wpAny_getItem_str_slice (l:=aB) (u:=aB) (st:=aB) hs rfl (post_val_or_str ⟨dv (Txt.slice_le z _ _) hz,fin⟩)
  |int j tj=>exact wpAny_getItem_str_slice (l:=aB) (u:=aA (j,tj)) (st:=aB) hs rfl (post_val_or_str ⟨dv (Txt.slice_le z _ _) hz,fin⟩)
 |int i ti=>cases pu with
  |none=>exact wpAny_getItem_str_slice (l:=aA (i,ti)) (u:=aB) (st:=aB) hs rfl (post_val_or_str ⟨dv (Txt.slice_le z _ _) hz,fin⟩)
  |int j tj=>exact wpAny_getItem_str_slice (l:=aA (i,ti)) (u:=aA (j,tj)) (st:=aB) hs rfl (post_val_or_str ⟨dv (Txt.slice_le z _ _) hz,fin⟩)
@[simp]def slD:D->Option Int->Option Int->Option SV
 | .lst xs,lo,hi=>aA (.ol (Ap xs lo hi))
 | .str z,lo,hi=>if z.length<=cj then aA (.fz (.str (Txt.slice z lo hi)))else aB
 |_,_,_=>aB
theorem u6:zn Z (λx lo hi H Q=>AH K x lo hi H Q\/AK x lo hi H Q) slD:=by
 intro F H σ δ own x d lo hi sv Q s r1 e k;unfold slD at e;split at e
 .cases e;refine Ya (r1.lst s.le) λa vs ex ha ra=>?_;exact .inl ⟨a,vs,ex,ha,λp hp=>k.lst s (ra.cut _ _) hp⟩
 .split at e
  .rename_i hz;cases e;exact .inr ⟨_,r1.str,hz,k.fz s (.str _)⟩
  .cases e
 .cases e
end
section
variable{X:Cx}
noncomputable def Ite(K:af)(a:ao):It:=
 ⟨λi H=>∃xs x,Be K H a xs/\xs[i]? =aA x,λi H x H'=>∃p v,x= .ref p/\H p=aB/\H'=Y3 H p (.tup [.int (i:Nat),v])/\∀xs,Be K H a xs->xs[i]? =aA v,λi H=>∃xs,Be K H a xs/\xs.length<=i⟩
theorem gY.turnedT{σ:L2.St}{T:ao}(I:gY X gR σ H s)(k:∀b o,b≠e->b≠it->s.heap.get? b=aA o->h'.get? b=aA o)(f1:Q2 X gR H e)(f2:Q2 X gR H it)(hT:T=s.heap.objs.size)(ht:IsTup h' T gU.toArray)(rv:Z1 xs gU)(hz:xs.length<=sizeLine)(he:∃o,h'.get? e=aA o)(hi:∃o,h'.get? it=aA o):
  gY X gR σ (Y3 H T (.tup xs)) {s with heap:=h',toks:=t'}:=by
 have NE:H T=aB:=by rw[hT];exact I.hok.fresh (bc _)
 have neT:∀b o,s.heap.get? b=aA o->b≠T:=λb o q=>by rw[hT];exact cm (bp q)
 have ML:∀b u,H b=aA u->b≠e/\b≠it:=λb u q=>⟨(λz=>by rw[z,f1.1]at q;cases q),(λz=>by rw[z,f2.1]at q;cases q)⟩
 refine I.step (g':=s.gens) (d':=s.drawn) (ch:=[e,it]) (λb hb=>?_) (λb o _ _ hc q _=>k b o (λz=>hc (by simp[z])) (λz=>hc (by simp[z])) q)
  (λb o _ _ hc q _=>⟨o.slots,k b o (λz=>hc (by simp[z])) (λz=>hc (by simp[z])) q⟩) (λb o _ q n=>by rw[Zt (neT b o q)];exact n)
  (λb o hc q=>⟨o,k b o (λz=>hc (by simp[z])) (λz=>hc (by simp[z])) q⟩) (λb ys q=>by rw[Zt (Wa q NE)];exact q) (λb o u q=>by rw[Zt (Wa q NE)];exact q)
  (λb ps q=>⟨#[],by rw[Zt (Wa q NE),q];simp⟩) (λm hm=>?_) (λb u q=>?_) I.bare
 .have YB:b=e\/b=it:=by simpa using hb
  rcases YB with z|z
  .subst z;refine W0 f1 λ_ a1 _ a3 a4 a5=>?_;exact⟨a3,a1,a4,a5⟩
  .subst z;refine W0 f2 λ_ a1 _ a3 a4 a5=>?_;exact⟨a3,a1,a4,a5⟩
 .obtain⟨o,es,ep,ho,r⟩:=hm;exact⟨o,es,ep,k _ o (Ne.symm f1.2.1) (Ne.symm f2.2.1) ho,r⟩
 .by_cases hb:b=T
  .subst hb;rw[Z2]at q;cases q;exact⟨hz,gU,rv,ht⟩
  .rw[Zt hb]at q;refine(I.hok b u q).stay (λc v hc z=>?_) (λc z=>by rw[Zt (Wa z NE)];exact z) (λc ys z=>by rw[Zt (Wa z NE)];exact z) λc o z=>by rw[Zt (Wa z NE)];exact z
   rcases hc with y|y
   .rw[y]at z⊢;exact k _ _ (ML b u q).1 (ML b u q).2 z
   .exact k _ _ (ML c _ y).1 (ML c _ y).2 z
theorem jg{P:b8}{w:dq}{K:af}{WI:List c9}{kk:Nat}{XR:Pos}(a e it:ao)(UP:e≠it):Turn P w K (.Tuple WI kk XR) (Ite K a) [e,it] e (λi h=>(∃old,IsEnum h e it ((i:Nat):Int) old)/\h.IsListIter it a i)where
 mem:=by simp
 obj:=λi h st b hb=>by
  have YB:b=e\/b=it:=by simpa using hb
  rcases YB with z|z
  .subst z;obtain⟨old,q⟩:=st.1;exact⟨_,q,λv y=>by
    have y':Data.fields _=Data.cell v:=y;cases y'⟩
  .subst z;refine Zn st.2 λo q c d=>?_;exact⟨o,q,λv y=>by rw[d]at y;cases y⟩
 keep:=λi h h' st k=>⟨let⟨old,q⟩:=st.1;⟨old,k e (by simp) _ q⟩,st.2.at λo q=>k it (by simp) o q⟩
 item:=by
  intro X hP hw hK hc i gR s σ H E I hf st hg;subst hP hw hK;refine Wq hg λxs x hq hx=>?_;refine Zn (I.list hq) λgU rv p hz=>?_;obtain⟨u,hu,ru⟩:=rv.get hx;obtain⟨⟨old,he⟩,hit⟩:=st;have hl:s.heap.IsList a gU.toArray:=p.isList;have ai:a≠it:=λz=>by refine Zn hit λo1 q1 c1 _=>?_;refine Zn hl λo2 q2 c2 _=>?_;rw[z,q1]at q2;cases q2;rw[c1]at c2;exact eF c2 (by decide)
  have ae:e∉[it,a]:=λz=>by
   have z':e=it\/e=a:=by simpa using z
   rcases z' with z|z
   .exact UP z
   .refine Zn hl λo2 q2 c2 _=>?_;rw[<-z,he]at q2;cases q2;exact eF (show Value.type "enumerate"=Value.type "list"from c2) (by decide)
  have D:=Draws.list (prog:=X.prog) (w:=X.w) (A:=X.A.in1) (by first|exact I.ok.hd hc| (rw[show X.A.in1.handled=X.A.handled from rfl];exact I.ok.hd hc)) it a ai gU.toArray;have ZK:i<gU.toArray.size:=by have:=(az.mp hu).1;rw[bx];exact this
  refine wpAny_pyNext_enum_itemD D he ⟨hit,hl⟩ ZK UP ae λy h' tk hy RC YC hT hsz hk=>⟨.ref s.heap.objs.size,rfl,?_⟩
  refine wpAny_letOwnedTupleGo_enum RC λh2 WQ XW=>?_;have VJ:gU.toArray[i]? =aA y:=hy;have ey:y=u:=by
   have:gU[i]? =aA y:=by simpa using VJ
   rw[hu]at this;cases this;rfl
  subst ey;have kk:∀b o,b≠e->b≠it->s.heap.get? b=aA o->h2.get? b=aA o:=λb o h1 h3 q=>(XW.2 b h1).trans (hk b o h1 h3 q);have neT:s.heap.objs.size≠e:=Nat.ne_of_gt (bp he);have I2:=I.turnedT (h':=h2) (t':=tk+1) (e:=e) (it:=it) (T:=s.heap.objs.size) (xs:=[.int (i:Nat),x]) (gU:=[.int i tk,y]) kk (hf e (by simp)) (hf it (by simp)) rfl ⟨_,(XW.2 _ neT).trans hT,rfl,_,rfl⟩ (.cons ⟨tk,rfl⟩ (.cons ru .nil)) (by show 2<=sizeLine;decide)
   ⟨_,WQ⟩ (let⟨o,q,_⟩:=YC.1;⟨o,(XW.2 it (Ne.symm UP)).trans q⟩)
  refine⟨.ref s.heap.objs.size,_,I2,rfl,⟨s.heap.objs.size,x,rfl,I.hok.fresh (bc _),rfl,λys ID=>by rw[I.list_inj ID hq];exact hx⟩,⟨⟨_,WQ⟩,YC.1.at λo q=>(XW.2 it (Ne.symm UP)).trans q⟩,λb hb=>?_⟩;rw[Zt λz=>?_]
  .exact(hf b hb).1
  .have YB:b=e\/b=it:=by simpa using hb
   rcases YB with y|y
   .rw[<-z,y]at neT;exact neT rfl
   .obtain⟨o,q,_⟩:=hit;rw[y]at z;exact eF (bp q) (by rw[z];exact Nat.lt_irrefl _)
 done:=by intro X hP hw hK hc i gR s σ H E I hf st hg;subst hP hw hK;obtain⟨xs,hq,hx⟩:=hg;refine Zn (I.list hq) λgU rv p hz=>?_;obtain⟨⟨old,he⟩,hit⟩:=st;refine W0 (hf it (by simp)) λf0 f1 f2 f3 f4 f5=>?_;have hl:=rv.length;exact wpAny_pyNext_enum_end (I.ok.hd hc) he hit p.isList (by simp;omega) λh' eb=>⟨rfl,I.turned (t':=s.toks) (λb o hb q=>eb b o hb q) f0 f1 f3 f4 f5⟩
 self:=λ_ _ _ _ _ st h=>let⟨⟨old,he⟩,_⟩:=st;wpAny_pyIter_enum he h
def zm(K:af)(ta:TA):TI:=λσ H R=>ta σ H λvs H1=>∃a xs,vs=[.ref a]/\Be K H1 a xs/\R (Ite K a) H1
theorem me(hg:Gl X "enumerate")(hm:X.mg "enumerate"=aB)(ha:PA X [l] ta)(hs:‹ba [l] X.env=[(aD,ig l X.env)]›):
  PI X (.Tuple WI kk XR) (.Call (.Name "enumerate" p) [l] [] pos) (zm X.K ta):=by
 intro gR s σ H R I h;refine Call_ (Bq I hg hm boot_enumerate (PyProof.Rows.callWith_type1 (Wu (ha pos gR s σ H _ I h) λus s1 ⟨vs,H1,I1,r1,q1⟩=>?_) hs rfl));refine Ya q1 λa xs e hq q=>?_;subst e;obtain⟨u,rfl,ru⟩:=Bf r1;cases ru;refine Zn (I1.list hq) λgU rv p hz=>?_;refine call_enumerate_list p.isList λh' he hit hsz hk=>wpAny_pyIter_enum he ?_;have I2:gY X gR σ H1 {s1 with heap:=h'}:=I1.kept (t':=s1.toks) hk;refine⟨s1.heap.objs.size+1,[s1.heap.objs.size+1,s1.heap.objs.size],_,_,H1,rfl,I2,jg a _ _ (Nat.succ_ne_self _),⟨⟨.none,by simpa using he⟩,hit⟩,λb hb=>?_,q⟩;have YB:b=s1.heap.objs.size+1\/b=s1.heap.objs.size:=by simpa using hb
 rcases YB with z|z
 .subst z;exact I1.fpOk (Nat.le_succ _) (I1.hok.fresh (Nat.le_succ _))
 .subst z;exact I1.fpOk (bc _) (I1.hok.fresh (bc _))
inductive TyX(K:af)(H:Hp):V->String->Prop where
 |non:TyX K H .non "NoneType"
 |bl (x:Bool):TyX K H (.bl x) "bool"
 |int (i:Int):TyX K H (.int i) "int"
 |str (x:Str):TyX K H (.str x) "str"
 |lst {a:ao} {xs:List V} (e:Be K H a xs):TyX K H (.ref a) "list"
 |tup {a:ao} {xs:List V} (e:Md K H a xs):TyX K H (.ref a) "tuple"
 |dK {a:ao} {kvs:List (Key×V)} {ep:Nat} (e:H a=aA (.dK kvs ep)):TyX K H (.ref a) "dict"
 |dT {a:ao} {kvs:List (List Key×V)} {ep:Nat} {bs:List ao} (e:H a=aA (.dT kvs ep bs)):TyX K H (.ref a) "dict"
theorem kK{σ:L2.St}(I:gY X gR σ H s)(rx:Zv x u)(ty:TyX X.K H x T)(e:PySem.W.kitOne X.K (.type T) c=aA b)(h:∀tk,Q (.bool b) {s with toks:=tk}):
  bi (b9 X.prog X.w) A (call (.builtin "isinstance") [u,c]) Q E s:=by
 cases ty with
 |non=>cases(show u=c8 from rx);exact PySem.W.kia_one PySem.W.kitx_none I.kIn True.intro e (λz=>nomatch z) h
 |bl y=>cases(show u=Value.bool y from rx);exact PySem.W.kia_one PySem.W.kitx_bool I.kIn True.intro e (λz=>nomatch z) h
 |int i=>obtain⟨t,q⟩:=(show∃t,u=Value.int i t from rx);cases q;exact PySem.W.kia_one PySem.W.kitx_int I.kIn True.intro e (λz=>nomatch z) h
 |str y=>obtain⟨t,q⟩:=(show∃t,u=Value.str y t from rx);cases q;exact PySem.W.kia_one PySem.W.kitx_str I.kIn True.intro e (λz=>nomatch z) h
 | @lst a xs ea=>cases(show u=ci a from rx);refine Zn (I.list ea) λgU _ pl _=>?_;refine Zn pl.isList λo h1 h2 _=>?_;exact PySem.W.kia_one PySem.W.kitx_list I.kIn ⟨o,h1,h2⟩ e (λz=>nomatch z) h
 | @tup a xs ea=>cases(show u=ci a from rx);refine Zn (I.tuple ea) λgU _ pl _=>?_;refine Zn pl λo h1 h2 _=>?_;exact PySem.W.kia_one PySem.W.kitx_tuple I.kIn ⟨o,h1,h2⟩ e (λz=>nomatch z) h
 | @dK a kvs ep ea=>
  cases(show u=ci a from rx);obtain⟨_,_,vs,_,p⟩:=(show Ym X.prog X.w H s.heap a (.dK kvs ep)from I.hok a _ ea)
  refine Ya p λo es h1 h2 _=>?_;exact PySem.W.kia_one PySem.W.kitx_dict I.kIn ⟨o,h1,h2.1⟩ e (λz=>nomatch z) h
 | @dT a kvs ep bs ea=>
  cases(show u=ci a from rx);obtain⟨_,_,xs,_,o,es,h1,h2,_⟩:=(show Ym X.prog X.w H s.heap a (.dT kvs ep bs)from I.hok a _ ea)
  exact PySem.W.kia_one PySem.W.kitx_dict I.kIn ⟨o,h1,h2.1⟩ e (λz=>nomatch z) h
def AJ(K:af)(c:String):List V->Hp->VK->Prop:=λxs H Q=>∃x t b,xs=[x,.ty c]/\TyX K H x t/\PySem.W.kitOne K (.type t) (.type c)=aA b/\Q (.bl b) H
theorem kJ:Je X (.builtin "isinstance") (AJ X.K c):=by intro gR s σ H xs us Q I r h;obtain⟨x,t,b,rfl,ty,e,q⟩:=h;obtain⟨u,w',rfl,r1,r2⟩:=r_ r;cases r2;exact kK I r1 ty e λtk=>⟨.bl b,H,I.tok _,rfl,q⟩
end
section
variable{K:af}
noncomputable def W2(xs:List D):List D:=xs.zipIdx.map λp=>.tup [.int (p.2:Nat),p.1]
theorem Fu{d:D}(h:(W2 xs)[i]? =aA d):∃x,xs[i]? =aA x/\d= .tup [.int (i:Nat),x]:=by
 unfold W2 at h;rw[ay,List.getElem?_zipIdx]at h;cases e:xs[i]? with
 |none=>rw[e]at h;cases h
 |some x=>rw[e]at h;cases h;exact⟨x,rfl,by simp⟩
theorem Fv(xs):(W2 xs).length=xs.length:=by unfold W2;rw[aj,List.length_zipIdx]
theorem P6(h:Be K F a vs)(r:gX K F xs vs):Oz K (Ite K a) F (W2 xs):=λF' H sF sH i=>by
 have q:Be K H a vs:=Wr (sF.trans sH) h;refine⟨λd hd=>?_,λhl=>⟨vs,q,by rw[<-r.length,<-Fv];exact hl⟩⟩;obtain⟨x,hx,rfl⟩:=Fu hd;obtain⟨v,h1,h2⟩:=r.get hx;refine⟨⟨vs,v,q,h1⟩,λy H' ZE=>?_⟩;obtain⟨p,w,e1,e2,e3,e4⟩:=ZE;subst e1 e3;have e5:=e4 vs q;rw[h1]at e5;cases e5;have hp:F' p=aB:=sH.free e2;have sm:Zj F' (Q4 F' [(p,.tup [.int (i:Nat),v])]):=Qv λz hz=>by obtain rfl:=ar.mp hz;exact hp
 refine⟨W1 e2,[(p,.tup [.int (i:Nat),v])],Fp,λz hz=>?_,.tup Z2 (.cons (.int _) (.cons (h2.mono (sF.trans sm)) .nil))⟩;obtain rfl:=ar.mp hz;exact⟨e2,Z2⟩
@[simp]def zk(fd:FD):FD:=λδ=>(fd δ).bind λp=>match p.1 with
 | [.lst xs]=>aA (W2 xs,p.2)
 |_=>aB
theorem md{Z:fB K}(h:Qc Z (zk fd) σ H R):zm K (Wz Z fd) σ H R:=by
 refine Yo h λF δ own ds δ' s e k=>?_;refine fA e λQP δ1 e1 e2=>?_;refine⟨F,δ,own,QP,δ1,s,e1,λvs H1 F1 own1 sH sF s1 r1=>?_⟩;dsimp only at e2;split at e2
 .rename_i xs;cases e2;cases r1 with
  |cons h t=>
   cases t;cases h with
   |lst h _ r=>exact⟨_,_,rfl,Wr s1.le h,k _ H1 F1 own1 sH sF s1 (P6 h r)⟩
 .cases e2
@[simp]noncomputable def D.ty:D->String
 | .str _=>"str"
 | .int _=>"int"
 | .lst _=>"list"
 | .dK _ _=>"dict"
 | .dT _ _=>"dict"
 |_=>"?"
@[simp]noncomputable def strs?:List D->Option (List Str)
 | []=>aA []
 | .str x::r=>(strs? r).bind λt=>aA (x::t)
 |_=>aB
variable{Z:fB K}
@[simp]noncomputable def D.pyTy:D->String
 | .non=>"NoneType"
 | .bl _=>"bool"
 | .int _=>"int"
 | .str _=>"str"
 | .tup _=>"tuple"
 | .lst _=>"list"
 | .dK _ _=>"dict"
 | .dT _ _=>"dict"
 | .dX _ _=>"?"
 | .exc _ _ _=>"?"
@[simp]noncomputable def D.isExc:D->Bool
 | .exc _ _ _=>aC
 | .dX _ _=>aC
 |_=>aD
theorem ma(le:Zj F H)(r:Yh K F H d x)(hx:d.isExc=aD):TyX K H x d.pyTy:=by
 cases d with
 |exc C ks vs=>cases hx
 |dX ks vs=>cases hx
 |non=>rw[r.non];exact .non
 |bl b=>rw[r.bl];exact .bl b
 |int i=>rw[r.int];exact .int i
 |str y=>rw[r.str];exact .str y
 |tup xs=>refine Ya (r.tup le) λa vs e ha _=>?_;subst e;exact .tup ha
 |lst xs=>refine Ya (r.lst le) λa vs e ha _=>?_;subst e;exact .lst ha
 |dK ks vs=>obtain⟨a,kvs,e,⟨ep,ha⟩,_⟩:=r.dK le;subst e;exact .dK ha
 |dT ks vs=>obtain⟨a,kvs,e,⟨ep,bs,ha⟩,_⟩:=r.dT le;subst e;exact .dT ha
@[simp]noncomputable def QV(c:String)(d:D):Option SV:=if d.isExc=true then none else some (.fz (.bl (d.pyTy==c|| (c=="int" &&d.pyTy=="bool"))))
theorem rX(hk:∀d:D,d.isExc=aD->PySem.W.kitOne K (.type d.pyTy) (.type c)=aA (d.pyTy==c|| (c=="int" &&d.pyTy=="bool"))):EU Z (λx H Q=>AJ K c [x,.ty c] H Q) (QV c):=by
 intro F H σ δ own x d sv Q s r e k;unfold QV at e;split at e
 .cases e
 .rename_i hx;cases e;have YX:d.isExc=aD:=by cases z:d.isExc with
   |true=>exact eF z hx
   |false=>rfl
  exact⟨x,_,_,rfl,ma s.le r YX,hk d YX,k.fz s (.bl _)⟩
@[simp]noncomputable def Aq:List D->Option SV
 | [.lst xs]=>aA (.fz (.int (xs.length:Nat)))
 | [.tup xs]=>aA (.fz (.int (xs.length:Nat)))
 | [.str x]=>if x.length<=cj then aA (.fz (.int (x.length:Nat)))else aB
 |_=>aB
theorem rW:Bh Z (λxs H Q=>(∃p ys,xs=[V.ref p]/\(Be K H p ys\/Md K H p ys)/\Q (.int ys.length) H)\/(∃z,xs=[V.str z]/\z.length<=cj/\Q (.int z.length) H)) Aq:=by
 intro F H σ δ own vs ds sv Q s r e k;unfold Aq at e;split at e
 .cases e;cases r with
  |cons h t=>cases t;refine Ya (h.lst s.le) λa us ex ha ra=>?_;subst ex;exact .inl ⟨a,us,rfl,.inl ha,by rw[<-ra.length];exact k.fz s (.int _)⟩
 .cases e;cases r with
  |cons h t=>cases t;refine Ya (h.tup s.le) λa us ex ha ra=>?_;subst ex;exact .inl ⟨a,us,rfl,.inr ha,by rw[<-ra.length];exact k.fz s (.int _)⟩
 .split at e
  .rename_i hz;cases e;cases r with
   |cons h t=>cases t;exact .inr ⟨_,by rw[h.str],hz,k.fz s (.int _)⟩
  .cases e
 .cases e
@[simp]noncomputable def L7:List D->Option SV
 | [.lst xs]=>aA (.fz (.tup xs))
 |_=>aB
theorem mZ:Bh Z (λxs H Q=>∃p ys,xs=[V.ref p]/\((Be K H p ys/\∀l,H l=aB->Q (.ref l) (Y3 H l (.tup ys)))\/(Md K H p ys/\Q (.ref p) H))) L7:=by
 intro F H σ δ own vs ds sv Q s r e k;unfold L7 at e;split at e
 .cases e;cases r with
  |cons h t=>cases t;refine Ya (h.lst s.le) λa us ex ha ra=>?_;subst ex;exact⟨a,us,rfl,.inl ⟨ha,λl hl=>k.tup s ra hl⟩⟩
 .cases e
@[simp]noncomputable def LV:List D->Option SV
 | [.int i]=>aA (.fz (.int i))
 | [.bl b]=>aA (.fz (.int (if b then 1 else 0)))
 |_=>aB
theorem rV:Bh Z (λxs H Q=>(∃i,xs=[V.int i]/\Q (.int i) H)\/∃k,xs=[V.bl k]/\Q (.int (if k then 1 else 0)) H) LV:=by
 intro F H σ δ own vs ds sv Q s r e k;unfold LV at e;split at e
 .cases e;cases r with
  |cons h t=>cases t;exact .inl ⟨_,by rw[h.int],k.fz s (.int _)⟩
 .cases e;cases r with
  |cons h t=>cases t;exact .inr ⟨_,by rw[h.bl],k.fz s (.int _)⟩
 .cases e
section
variable{X:Cx}{Z:fB X.K}{a b c:c9}{fa fb fc:FE}{pos:Pos}
theorem Zb(i)(hN:‹X.N[i]? =aA x›)(hv:‹V7 X.env.scope x›)(hd:‹(x==("__debug__":Str))=aD›)(ZT:‹(x==("__classdict__":Str))=aD›):PE X (.Name x pos) (Ze Z (Za i)):=(U0 hN hv hd ZT).imp λ_ _ _ h=>rQ h
theorem Zp:PE X (.Constant (.int i) j pos) (Ze Z (Zd (.int i))):=yg.imp λ_ _ _ h=>Ro (λ_=>.int _) h
theorem QU:PE X (.Constant (.bool i) j pos) (Ze Z (Zd (.bl i))):=rg.imp λ_ _ _ h=>Ro (λ_=>.bl _) h
theorem Gv:PE X (.Constant .none j pos) (Ze Z (Zd .non)):=oF.imp λ_ _ _ h=>Ro (λ_=>.non) h
theorem Qi:PE X (.Constant (.str i) j pos) (Ze Z (Zd (.str i))):=Ll.imp λ_ _ _ h=>Ro (λ_=>.str _) h
theorem nz(hm:X.mg x=aA (.str y t))(hg:‹Gl X x›)(hd:‹(x==("__debug__":Str))=aD›):PE X (.Name x pos) (Ze Z (Zd (.str y))):=
 (mW (v:=.str y) hg hm ⟨t,rfl⟩ hd).imp λ_ _ _ h=>Ro (λ_=>.str _) h
theorem P7(ho:Bd X (binaryOp op) r)(hp:Yz Z r g)(ha:PE X a (Ze Z fa))(hb:PE X b (Ze Z fb)):PE X (.BinOp a op b pos) (Ze Z (Zk g fa fb)):=(rZ ho ha hb).imp λ_ _ _ h=>Fq hp h
theorem Uf(ha:PE X a (Ze Z fa))(hb:PE X b (Ze Z fb)):PE X (.BinOp a .Add b pos) (Ze Z (Zk O0 fa fb)):=P7 mf rD ha hb
theorem zj(ha:PE X a (Ze Z fa))(hb:PE X b (Ze Z fb)):PE X (.BinOp a .Sub b pos) (Ze Z (Zk LY fa fb)):=P7 pc rG ha hb
theorem O5(ha:PE X a (Ze Z fa))(hb:PE X b (Ze Z fb)):PE X (.BinOp a .FloorDiv b pos) (Ze Z (Zk Ue fa fb)):=P7 mR p6 ha hb
theorem Ug(ha:PE X a (Ze Z fa))(hb:PE X b (Ze Z fb)):PE X (.BinOp a .Mod b pos) (Ze Z (Zk Oi fa fb)):=P7 pY rE ha hb
theorem EN(ho:Bd X (gx op) r)(hp:Yz Z r g)(ha:PE X a (Ze Z fa))(hb:PE X b (Ze Z fb))(hm:behindInMarks op b=aD):PE X (.Compare a [op] [b] pos) (Ze Z (Zk g fa fb)):=(mP ho ha hb hm).imp λ_ _ _ h=>Fq hp h
theorem Co(ho:Bd X (gx op) r)(hp:Yz Z r g)(ha:PE X a (Ze Z fa))(hb:PE X b (Ze Z fb))(hm:behindInMarks op b=aD):PT X (.Compare a [op] [b] pos) (Ye Z (Yg (Zk g fa fb))):=
 (mO ho ha hb hm).imp λσ H Q h=>by refine Yo (yh h) λF δ own rv δ' s e k=>?_;exact Fq hp ⟨F,δ,own,rv,δ',s,e,k⟩
theorem BY(ha:PE X a (Ze Z fa))(hb:PE X b (Ze Z fb)):PT X (.Compare a [.Lt] [b] pos) (Ye Z (Yg (Zk ltD fa fb))):=Co qC tF ha hb (U2 _)
theorem LU(ha:PE X a (Ze Z fa))(hb:PE X b (Ze Z fb)):PT X (.Compare a [.Gt] [b] pos) (Ye Z (Yg (Zk gtD fa fb))):=Co qB tD ha hb (U2 _)
theorem u5(ha:PE X a (Ze Z fa))(hb:PE X b (Ze Z fb)):PT X (.Compare a [.GtE] [b] pos) (Ye Z (Yg (Zk geD fa fb))):=Co qA u_ ha hb (U2 _)
theorem zi(ha:PE X a (Ze Z fa))(hb:PE X b (Ze Z fb)):PT X (.Compare a [.Is] [b] pos) (Ye Z (Yg (Zk NW fa fb))):=Co pV rY ha hb (U2 _)
theorem Xu(ha:PE X a (Ze Z fa))(hb:PE X b (Ze Z fb)):PT X (.Compare a [.IsNot] [b] pos) (Ye Z (Yg (Zk Ft fa fb))):=Co mQ po ha hb (U2 _)
theorem Xv(ha:PT X a (Ye Z f)):PW X (.BoolOp .And [a] pos) (Ye Z f):=mT ha
theorem zh(ha:PT X a (Ye Z f)):PW X (.BoolOp .Or [a] pos) (Ye Z f):=oC ha
theorem EM{rest}(ha:PT X a (Ye Z f))(hb:PW X (.BoolOp .And (b::rest) pos) (Ye Z g)):PW X (.BoolOp .And (a::b::rest) pos) (Ye Z (Xo f g)):=(p_ ha hb).imp λ_ _ _ h=>rN h
theorem BX{rest}(ha:PT X a (Ye Z f))(hb:PW X (.BoolOp .Or (b::rest) pos) (Ye Z g)):PW X (.BoolOp .Or (a::b::rest) pos) (Ye Z (orF f g)):=(rf ha hb).imp λ_ _ _ h=>uw h
theorem EL(ha:PT X a (Ye Z f)):PT X (.UnaryOp .Not a pos) (Ye Z (MB f)):=(pi ha).imp λ_ _ _ h=>rM h
theorem D8(h:PE X a (Ze Z fa))(he:‹∀YG,isTrue a X.env YG=(do let v<-YG;standAt a.pos;holding [v] (truthy v))›):PT X a (Ye Z (Yg fa)):=(oE h he).imp λ_ _ _ h=>mF h
theorem G_(hc:PT X c (Ye Z t))(ha:PE X a (Ze Z fa))(hb:PE X b (Ze Z fb)):PE X (.IfExp c a b pos) (Ze Z (ifF t fa fb)):=(ku hc ha hb).imp λ_ _ _ h=>uv h
theorem Z3:PA X [] (Ud Z Zl):=Oy.imp λ_ _ _ h=>jA h
theorem Zh(ha:PE X a (Ze Z fa))(hr:PA X es (Ud Z fr))(hs:‹ba (a::es) X.env=(aD,ig a X.env)::ba es X.env›):PA X (a::es) (Ud Z (Zc fa fr)):=(Q3 ha hr hs).imp λ_ _ _ h=>ji h
theorem Yt:PA X [] (Wz Z Zr):=Oy.imp λ_ _ _ h=>Fs h
theorem Zx(ha:PE X a (Ze Z fa))(hr:PA X es (Wz Z fr))(hs:‹ba (a::es) X.env=(aD,ig a X.env)::ba es X.env›):PA X (a::es) (Wz Z (Zg fa fr)):=(Q3 ha hr hs).imp λ_ _ _ h=>Ak h
theorem Uh(h:PA X es (Wz Z fd)):PE X (.Tuple es k pos) (Ze Z (tupF fd)):=(pU h).imp λ_ _ _ h=>rP h
theorem U8(h:PA X es (Wz Z fd)):PE X (.List es pos) (Ze Z (Bw fd)):=(Ln h).imp λ_ _ _ h=>rO h
theorem pG:PO X aB (M6 Z Xt):=λgR s σ H Q I h=>mN gR s σ H Q I (kL h)
theorem Xw(ha:PE X a (Ze Z fa)):PO X (aA a) (M6 Z (P5 fa)):=λgR s σ H Q I h=>mM ha gR s σ H Q I (pk h)
theorem BW{lo:Option c9}(ha:PE X a (Ze Z fa))(hl:PO X lo (M6 Z fl))(hh:PO X hi (M6 Z fh)):PE X (.Subscript a (.Slice lo hi aB p2) pos) (Ze Z (slF slD fa fl fh)):=
 (km (mL.or pj) ha hl hh).imp λ_ _ _ h=>u7 u6 h
theorem pF{p}(F:FnOk X.prog X.w X.K X.mg X.base Om k f fd ps (Wf X.K n g))(hr:fJ k X.A)(hm:X.mg x=aA (.ref f))(hk:PySem.W.keepIn X.K (.ref f)=aC)(hb:Rl X.K fd ps [])(ha:PA X (a::es) (Ud Z fr))(hg:‹Gl X x›)(YA:‹(x==("__debug__":Str))=aD›)(he:‹ba (a::es) X.env=(aD,ig a X.env)::ba es X.env›)(ZF:‹(gu pos (ba es X.env)).any (·.1)=aD›):
  PE X (.Call (.Name x p) (a::es) [] pos) (Ze Z (Z5 n g fr)):=(Lo F hr hg hm hk hb .nil ER ha YA he ZF).imp λ_ _ _ h=>yi h
theorem L8{id}{p}(hc:Je X (.builtin id) r)(hp:Bh Z r g)(hm:X.mg x=aB)(hv:bootBuiltins x=aA (.builtin id))(ha:PA X (a::es) (Ud Z fr))(hg:‹Gl X x›)(hn:‹x≠"__name__"›)(YA:‹(x==("__debug__":Str))=aD›)(he:‹ba (a::es) X.env=(aD,ig a X.env)::ba es X.env›)(ZF:‹(gu pos (ba es X.env)).any (·.1)=aD›):PE X (.Call (.Name x p) (a::es) [] pos) (Ze Z (Y4 g fr)):=(Pq hc hg hm hv ha hn YA he ZF).imp λ_ _ _ h=>L1 hp h
theorem Rq{p}(hc:Je X (.type T) r)(hp:Bh Z r g)(hm:X.mg x=aB)(hv:bootBuiltins x=aA (.type T))(ha:PA X (a::es) (Ud Z fr))(hg:‹Gl X x›)(hn:‹x≠"__name__"›)(YA:‹(x==("__debug__":Str))=aD›)(he:‹ba (a::es) X.env=(aD,ig a X.env)::ba es X.env›)(ZF:‹(gu pos (ba es X.env)).any (·.1)=aD›):PE X (.Call (.Name x p) (a::es) [] pos) (Ze Z (Y4 g fr)):=(jr hc hg hm hv ha hn YA he ZF).imp λ_ _ _ h=>L1 hp h
theorem Fw{p}(hm:X.mg "len"=aB)(ha:PE X a (Ze Z fa))(hg:‹Gl X "len"›)(he:‹ba [a] X.env=(aD,ig a X.env)::ba [] X.env›)(ZF:‹(gu pos (ba [] X.env)).any (·.1)=aD›):PE X (.Call (.Name "len" p) [a] [] pos) (Ze Z (Y4 Aq (Zc fa Zl))):=
 L8 (Lu.or Lv) rW hm PySem.boot_len (Zh ha Z3 he) hg (by decide) (by decide) he ZF
theorem ny{p}(hm:X.mg "tuple"=aB)(ha:PE X a (Ze Z fa))(hg:‹Gl X "tuple"›)(he:‹ba [a] X.env=(aD,ig a X.env)::ba [] X.env›)(ZF:‹(gu pos (ba [] X.env)).any (·.1)=aD›):PE X (.Call (.Name "tuple" p) [a] [] pos) (Ze Z (Y4 L7 (Zc fa Zl))):=
 Rq Iu mZ hm boot_tuple (Zh ha Z3 he) hg (by decide) (by decide) he ZF
theorem pE{p}(hm:X.mg "int"=aB)(ha:PE X a (Ze Z fa))(hg:‹Gl X "int"›)(he:‹ba [a] X.env=(aD,ig a X.env)::ba [] X.env›)(ZF:‹(gu pos (ba [] X.env)).any (·.1)=aD›):PE X (.Call (.Name "int" p) [a] [] pos) (Ze Z (Y4 LV (Zc fa Zl))):=
 Rq ju rV hm boot_int (Zh ha Z3 he) hg (by decide) (by decide) he ZF
theorem EK{c}{p p2}(hm:X.mg "isinstance"=aB)(vh:X.mg x=aB)(hv:bootBuiltins x=aA (.type c))(hk:∀d:D,d.isExc=aD->PySem.W.kitOne X.K (.type d.pyTy) (.type c)=aA (d.pyTy==c|| (c=="int" &&d.pyTy=="bool")))(ha:PE X a (Ze Z fa))(hg:‹Gl X "isinstance"›)(vx:‹Gl X x›)(hn:‹x≠"__name__"›)(YA:‹(x==("__debug__":Str))=aD›)(he:‹ba [a,.Name x p2] X.env=(aD,ig a X.env)::ba [.Name x p2] X.env›)(WQ:‹ba [.Name x p2] X.env=(aD,ig (.Name x p2) X.env)::ba [] X.env›)(ZF:‹(gu pos (ba [.Name x p2] X.env)).any (·.1)=aD›):
  PE X (.Call (.Name "isinstance" p) [a,.Name x p2] [] pos) (Ze Z (unF (QV c) fa)):=
 (Pq kJ hg hm boot_isinstance (Q3 ha (Q3 (mV (v:=.ty c) vx vh hv rfl hn YA) Oy WQ) he) (by decide) (by decide) he ZF).imp λσ H Q h=>by have h2:=AE (rX hk) h;exact h2
theorem Z0(i)(hN:X.N.Nodup)(hi:‹X.N[i]? =aA x›)(hx:‹Loc X.env.scope x›)(hf:‹X.fn x=aC\/X.env.scope.names.lookup x=aA .local›):PG X (.Name x pos) (Op Z (Zf i)):=(Dt hN hi hx hf).imp λ_ _ _ _ h=>mE h
theorem Ua:PGs X [] (Cn Z Yw):=mS.imp λ_ _ _ _ h=>p9 h
theorem Yi(h1:PG X a (Op Z g))(h2:PGs X es (Cn Z r))(hs:‹(assignEach (a::es) X.env).map (·.2)=assign a X.env::(assignEach es X.env).map (·.2)›):PGs X (a::es) (Cn Z (Zm g r)):=(kt h1 h2 hs).imp λ_ _ _ _ h=>mD h
theorem Cb{k:Nat}(hc:X.calm=aC)(h:PGs X es (Cn Z g))(hn:‹(assignEach es X.env).length=n›)(OJ:‹(assignEach es X.env).findIdx? (·.1)=aB›):PG X (.Tuple es k pos) (Op Z (Ys n g)):=(pg hc h hn OJ).imp λ_ _ _ _ h=>p8 h
theorem EJ{tg}{p}(hm:X.mg "range"=aB)(ha:PE X a (Ze Z fa))(hg:‹Gl X "range"›)(hs:‹ba [a] X.env=[(aD,ig a X.env)]›):PI X tg (.Call (.Name "range" p) [a] [] pos) (Qc Z (NZ (Zc fa Zl))):=(jx hg hm (Zh ha Z3 hs) hs).imp λ_ _ _ h=>p7 h
theorem Fx{src:List BSrc}(kind:scope.kind= .function)(nocell:(scope.names.all λy=>!(y.2== .cell))=aC)(names:(scope.names.all λy=>!(y.2== .local)|| (scope.names.lookup y.1==aA .local))=aC)(free:(scope.names.all λy=>!(y.2== .free)|| (X.env.kindOf y.1==aA .cell)|| (X.env.kindOf y.1==aA .free))=aC)(len:src.length=N'.length)(cap:((cr src.length).all λk=>match src[k]?,N'[k]? with
   |some (.cap j),aA x=>(X.N[j]? ==aA x)&&((X.env.kindOf x==aA .cell)|| (X.env.kindOf x==aA .free))&&(scope.names.lookup x==aA .free)
   |some .acc,aA x=>scope.names.lookup x==aB
   |_,_=>aC)=aC):CompScope X N' scope src:=by
 have NP:∀(k:Nat) (q:BSrc) (x:Str),src[k]? =aA q->N'[k]? =aA x->(match aA q,aA x with
   |some (.cap j),aA x=>(X.N[j]? ==aA x)&&((X.env.kindOf x==aA .cell)|| (X.env.kindOf x==aA .free))&&(scope.names.lookup x==aA .free)
   |some .acc,aA x=>scope.names.lookup x==aB
   |_,_=>aC)=aC:=λk q x h1 h2=>by
  have hk:k<src.length:=(az.mp h1).1;have:=List.all_eq_true.mp cap k (cq.mpr hk);rw[h1,h2]at this;exact this
 refine⟨kind,λy hy e=>?_,λy hy e=>?_,λy hy e=>?_,len,λk j x h1 h2=>?_,λk x h1 h2=>?_⟩
 .have:=List.all_eq_true.mp nocell y hy;rw[e]at this;cases this
 .have:=List.all_eq_true.mp names y hy;rw[e]at this;simpa using this
 .have:=List.all_eq_true.mp free y hy;rw[e]at this;simpa using this
 .have:=NP k (.cap j) x h1 h2;simp only[Bool.and_eq_true,Bool.or_eq_true,beq_iff_eq]at this;exact⟨this.1.1,this.1.2,this.2⟩
 .have:=NP k .acc x h1 h2;simpa using this
theorem zg{src:List BSrc}(k)(acc:src[k]? =aA .acc)(uni:((cr src.length).all λi=>match src[i]? with
   |some .acc=>i==k
   |_=>aC)=aC):SrcOk src k:=⟨acc,λi h=>by
  have hi:i<src.length:=(az.mp h).1;have:=List.all_eq_true.mp uni i (cq.mpr hi);rw[h]at this;simpa using this⟩
theorem jf(K):∀d:D,d.isExc=aD->PySem.W.kitOne K (.type d.pyTy) (.type "tuple")=aA (d.pyTy=="tuple" || ("tuple"=="int" &&d.pyTy=="bool")):=by intro d h;cases d<;> first| (cases h;done)|with_unfolding_all rfl
theorem P8(K):∀d:D,d.isExc=aD->PySem.W.kitOne K (.type d.pyTy) (.type "dict")=aA (d.pyTy=="dict" || ("dict"=="int" &&d.pyTy=="bool")):=by intro d h;cases d<;> first| (cases h;done)|with_unfolding_all rfl
theorem xg(h:∀Z:fB X.K,PG X tg (Op Z g)):PG X tg (xG X.K g):=λgR s σ H v u Q I r ⟨Z,q⟩=>h Z gR s σ H v u Q I r q
theorem xe(h:∀Z:fB X.K,PE X e (Ze Z f)):PE X e (xE X.K f):=λgR s σ H Q I ⟨Z,q⟩=>h Z gR s σ H Q I q
theorem xt(h:∀Z:fB X.K,PT X e (Ye Z f)):PTs X [e] (xT X.K f):=λgR s σ H Q I ⟨Z,q⟩=>mH (h Z) gR s σ H Q I q
theorem xt0:PTs X [] (xT X.K U6):=λgR s σ H Q I ⟨Z,q⟩=>by refine Yo q λF δ own b δ' sr e k=>?_;cases e;exact mI gR s σ H Q I (k H F own (Zj.refl H) (Zj.refl F) sr)
theorem pD(hc:X.calm=aC)(S:CompScope X N' scope src)(So:SrcOk src k)(hk:k∉g.tch)(hi:PI X tg ZD (Qc Z fi))(hg:∀C s₀ H₀ ex,PG (X.block N' scope C s₀ H₀ ex) tg (xG X.K g))(ht:∀C s₀ H₀ ex,PTs (X.block N' scope C s₀ H₀ ex) YI (xT X.K tt))(he:∀C s₀ H₀ ex,PE (X.block N' scope C s₀ H₀ ex) elt (xE X.K te))(hs:‹∀x,foldedSetIterable ZD X.env x=pure x›):PE X (.ListComp elt [⟨tg,ZD,YI,0⟩] scope pos) (Ze Z (U7 src k fi g tt te)):=(mG hc S hi hg ht he hs).imp λ_ _ _ h=>yZ So hk h
theorem Qr:Rj X [] (Z6 Z Jf):=Dq.imp λ_ _ _ h=>pN h
theorem Zi{st}{rest}(h1:PS X st (Z6 Z f))(h2:Rj X rest (Z6 Z g)):Rj X (st::rest) (Z6 Z (Z4 f g)):=(Ch h1 h2).imp λ_ _ _ h=>zV h
theorem Zq{st}(h:PS X st (Z6 Z f)):Rj X [st] (Z6 Z f):=Dr h
theorem Wh(h:PE X a (Ze Z fa)):PS X (.Return (aA a) pos) (Z6 Z (Qh fa)):=(yf h).imp λ_ _ _ h=>rK h
theorem G2(hc:PT X c (Ye Z t))(ha:Rj X bt (Z6 Z f))(hb:Rj X be (Z6 Z g)):PS X (.If c bt be pos) (Z6 Z (L4 t f g)):=(ze hc ha hb).imp λ_ _ _ h=>rL h
theorem Yd(i){pos'}(hN:X.N.Nodup)(he:PE X a (Ze Z fa))(hi:‹X.N[i]? =aA x›)(hx:‹Loc X.env.scope x›)(hs:‹swapsWith a (aA (.Name x pos')) pos.line X.env=pure aD›)(hf:‹X.fn x=aC\/X.env.scope.names.lookup x=aA .local›):
  PS X (.Assign [.Name x pos'] a pos) (Z6 Z (Yv i fa)):=(Xa hN hi hx he hs hf).imp λ_ _ _ h=>zr h
theorem je(i){py spos}(hc:X.calm=aC)(S:CompScope X N' scope src)(So:SrcOk src k)(hk:k∉g.tch)(hi:PI X tg ZD (Qc Z fi))(hg:∀C s₀ H₀ ex,PG (X.block N' scope C s₀ H₀ ex) tg (xG X.K g))(ht:∀C s₀ H₀ ex,PTs (X.block N' scope C s₀ H₀ ex) YI (xT X.K tt))(he:∀C s₀ H₀ ex,PE (X.block N' scope C s₀ H₀ ex) elt (xE X.K te))(hN:X.N.Nodup)(OV:‹X.N[i]? =aA y›)(hx:‹X.env.scope.names.lookup y=aA .local›)(WW:‹swapsWith (.ListComp elt [⟨tg,ZD,YI,0⟩] scope pos) (aA (.Name y py)) spos.line X.env=pure aC›)(hs:‹∀x,foldedSetIterable ZD X.env x=pure x›):PS X (.Assign [.Name y py] (.ListComp elt [⟨tg,ZD,YI,0⟩] scope pos) spos) (Z6 Z (Yv i (U7 src k fi g tt te))):=
 (Xn hc S hi hg ht he hN OV hx WW hs).imp λD σ H h=>by refine Yo (zr h) λF δ own rv δ' s e q=>?_;exact yZ So hk ⟨F,δ,own,rv,δ',s,e,q⟩
theorem kI(he:PE X a (Ze Z fa))(hg:PG X tg (Op Z g))(hs:‹swapsWithSole [tg] a pos.line X.env=pure aD›)(hw:‹swappedStores [tg] a X.env=pure aB›)(h1:‹(assignEach [tg] X.env).map (·.2)=[assign tg X.env]›):
  PS X (.Assign [tg] a pos) (Z6 Z (L5 g fa)):=(pf he hg hs hw h1).imp λ_ _ _ h=>kO h
theorem Qd(hp:PassesOwn (b9 X.prog X.w) X.A X.env X.xe)(hc:X.calm=aC)(hi:PI X tg ZD (Qc Z fi))(hg:PG X tg (Op Z g))(hb:Rj X body (Z6 Z f))(hs:‹∀x,foldedSetIterable ZD X.env x=pure x›):
  PS X (.For tg ZD body [] pos) (Z6 Z (J2 fi g f)):=(yd hp hc hi hg hb hs).imp λ_ _ _ h=>rJ h
theorem D9(n)(hp:PassesOwn (b9 X.prog X.w) X.A X.env X.xe)(hc:PT X c (Ye Z t))(hb:Rj X body (Z6 Z f)):PS X (.While c body [] pos) (Z6 Z (J3 t f n)):=(kr hp hc hb).imp λ_ _ _ h=>mo h
theorem KR(i){px ZJ ZA}(hb:PE X b (Ze Z fb))(hN:‹X.N[i]? =aA x›)(hv:‹V7 X.env.scope x›)(hd:‹(x==("__debug__":Str))=aD›)(ZT:‹(x==("__classdict__":Str))=aD›)(ZR:‹attributeBase (.Name x px) "append" X.env (ig (.Name x px) X.env)=ig (.Name x px) X.env›)(YZ:‹((gu ZA (ba [b] X.env)).all (λx=>!x.1)&&(backToKw ZA (keywordEach [] X.env)).all (λx=>x.1.isSome)&&decide ([b].length+([]:List Keyword).length+(if([]:List Keyword).isEmpty then 0 else 1)<30))=aC›)(ZQ:‹(ZJ.endLine==ZA.line)=aC›)(hs:‹ba [b] X.env=(aD,ig b X.env)::ba [] X.env›)(ZF:‹(gu ZA (ba [] X.env)).any (·.1)=aD›)(WW:‹swapsWith (.Call (.Attribute (.Name x px) "append" ZJ) [b] [] ZA) aB pos.line X.env=pure aD›):
  PS X (.Expr (.Call (.Attribute (.Name x px) "append" ZJ) [b] [] ZA) pos) (Z6 Z (Xr i fb)):=
 (Tq (D2 PySem.F.plainAttrs_list PySem.F.slot_list_append PySem.F.type_list_append Me (U0 (i:=i) hN hv hd ZT) (Q3 hb Oy hs) ZR YZ ZQ hs ZF) WW).imp λ_ _ _ h=>rH h
end
@[simp]noncomputable def Y5(f:FS)(n:Nat)(ds:List D):Option SV:=match f (An n ds)with
 |some (.rt sv)=>aA sv
 |some (.nx _)=>aA (.fz .non)
 |_=>aB
theorem Ar(h:Wf K n (Y5 f N.length) vs H Q E):∃F,Z6 (ent H F:fB K) f {nx:=λ_ H'=>Q .non H',rt:=Q} (L2.Bg N vs) H:=by
 obtain⟨F,ds,sv,le,r,hn,e,k⟩:=h;unfold Y5 at e;split at e
 .rename_i sw hf;cases e;exact⟨F,F,_,_,.rt sv,P0 (N:=N) le r,hf,λv H' F' ns a b c d e' nd ok=>k v H' F' ns d a b c e' nd ok⟩
 .rename_i δ hf;cases e;exact⟨F,F,_,_,.nx δ,P0 (N:=N) le r,hf,λZB H' F' own' a s'=>k .non H' F' [] s'.old a s'.le s'.fro (.fz .non) c6 λ_ h=>(nomatch h)⟩
 .cases e
theorem P9:∀ns:List Int,gX K F (ns.map D.int) (ns.map V.int)
 | []=>.nil
 |n::r=>.cons (.int n) (P9 r)
end
section
variable{K:af}
@[simp]noncomputable def Oq(f:D->D->Option Bool):List D->List D->Option Bool
 |x::xs,y::ys=>(f x y).bind λb=>(Oq f xs ys).bind λc=>aA (b&&c)
 |_,_=>aA aC
@[simp]def Cp(f:D->D->Option Bool):D->D->Option Bool
 | .lst xs,.lst ys=>if xs.length=ys.length then Oq f xs ys else aA aD
 | .tup xs,.tup ys=>(Oq f xs ys).bind λb=>aA (b&&decide (xs.length=ys.length))
 | .lst _,.tup _=>aA aD
 | .tup _,.lst _=>aA aD
 |d1,d2=>eqS d1 d2
@[simp]def W8:Nat->D->D->Option Bool
 |0=>λ_ _=>aB
 |n+1=>Cp (W8 n)
theorem Rr(e:eqS d1 d2=aA b)(r1:Yh K F H d1 x)(r2:Yh K F H d2 y):Yy x=aC/\Yy y=aC/\b=Xg x y:=by unfold eqS at e;split at e<;> cases e<;> (first|obtain rfl:=r1.non|obtain rfl:=r1.int|obtain rfl:=r1.bl|obtain rfl:=r1.str)<;> (first|obtain rfl:=r2.non|obtain rfl:=r2.int|obtain rfl:=r2.bl|obtain rfl:=r2.str)<;> refine⟨rfl,rfl,?_⟩<;> first|rfl|simp[Xg]
section
variable{X:Cx}{gR:List (ao×Obj)}{σ:L2.St}{F H:Hp}{s:am}
theorem kH(rx:Zv x v)(ry:Zv y v)(fx:Yy x=aC)(fy:Yy y=aC):Xg x y=aC:=by
 cases x with
 |non=>cases rx;cases y with
  |non=>rfl
  |bl b=>cases ry
  |int b=>obtain⟨t,e⟩:=ry;cases e
  |str b=>obtain⟨t,e⟩:=ry;cases e
  |_=>cases fy
 |bl a=>cases rx;cases y with
  |non=>cases ry
  |bl b=>cases ry;simp[Xg]
  |int b=>obtain⟨t,e⟩:=ry;cases e
  |str b=>obtain⟨t,e⟩:=ry;cases e
  |_=>cases fy
 |int a=>obtain⟨t,rfl⟩:=rx;cases y with
  |non=>cases ry
  |bl b=>cases ry
  |int b=>obtain⟨t,e⟩:=ry;cases e;simp[Xg]
  |str b=>obtain⟨t,e⟩:=ry;cases e
  |_=>cases fy
 |str a=>obtain⟨t,rfl⟩:=rx;cases y with
  |non=>cases ry
  |bl b=>cases ry
  |int b=>obtain⟨t,e⟩:=ry;cases e
  |str b=>obtain⟨t,e⟩:=ry;cases e;simp[Xg]
  |_=>cases fy
 |_=>cases fx
theorem Xx{h:f8}(h1:h.IsList a i1)(h2:h.IsList a i2):i1=i2:=by obtain⟨o,e1,c1,n1,d1⟩:=h1;obtain⟨o2,e2,c2,n2,d2⟩:=h2;rw[e1]at e2;cases e2;rw[d1]at d2;cases d2;rfl
theorem Sa{h:f8}(h1:h.IsTuple a i1)(h2:h.IsTuple a i2):i1=i2:=by obtain⟨o,e1,c1,n1,d1⟩:=h1;obtain⟨o2,e2,c2,n2,d2⟩:=h2;rw[e1]at e2;cases e2;rw[d1]at d2;cases d2;rfl
theorem xk(hf:∀d1 d2 b x y v,fE X.K F d1 x->Zv x v->fE X.K F d2 y->Zv y v->f d1 d2=aA b->b=aC):∀{ys:List D} {vs ws:List V} {us:List ag} {b:Bool},gX X.K F xs vs->Z1 vs us->gX X.K F ys ws->Z1 ws us->Oq f xs ys=aA b->b=aC:=by
 induction xs with
 |nil=>intro ys vs ws us b _ _ _ _ e;cases e;rfl
 |cons x xs ih=>
  intro ys vs ws us b r1 v1 r2 v2 e;cases r1 with
  |cons h1 t1=>
   cases v1 with
   |cons a1 w1=>
    cases v2 with
    |cons a2 w2=>
     cases r2 with
     |cons h2 t2=>obtain⟨b,e1,e2⟩:=dr.mp e;obtain⟨c,e3,e4⟩:=dr.mp e2;cases e4;rw[hf _ _ _ _ _ _ h1 a1 h2 a2 e1,ih t1 w1 t2 w2 e3];rfl
theorem Fy(I:gY X gR σ H s)(le:Zj F H)(ih:∀d1 d2 b x y v,fE X.K F d1 x->Zv x v->fE X.K F d2 y->Zv y v->f d1 d2=aA b->b=aC)(d1 d2 b x y v)(r1:fE X.K F d1 x)(v1:Zv x v)(r2:fE X.K F d2 y)(v2:Zv y v)(e:Cp f d1 d2=aA b):b=aC:=by
  unfold Cp at e;split at e
  .rename_i xs ys;cases r1 with
   |lst q1 _ p1=>
   cases r2 with
   |lst q2 _ p2=>
   cases v1;cases v2;refine Zn (I.list (Wr le q1)) λi1 w1 l1 _=>?_;refine Zn (I.list (Wr le q2)) λi2 w2 l2 _=>?_;have z:=Xx l1.isList l2.isList;have z:i1=i2:=by simpa using z
   subst z;split at e
   .exact xk (ih) p1 w1 p2 w2 e
   .rename_i hl;have h1:=w1.length;have h2:=w2.length;have h3:=p1.length;have h4:=p2.length;exact eF (by omega) hl
  .rename_i xs ys;cases r1 with
   |tup q1 p1=>
   cases r2 with
   |tup q2 p2=>
   cases v1;cases v2;refine Zn (I.tuple (Qg le (Ck q1))) λi1 w1 l1 _=>?_;refine Zn (I.tuple (Qg le (Ck q2))) λi2 w2 l2 _=>?_;have z:=Sa l1 l2;have z:i1=i2:=by simpa using z
   subst z;refine gZ e λc e1 e2=>?_;cases e2;have h1:=w1.length;have h2:=w2.length;have h3:=p1.length;have h4:=p2.length;rw[xk (ih) p1 w1 p2 w2 e1,eB (by omega)];rfl
  .cases r1 with
   |lst q1 _ p1=>
   cases r2 with
   |tup q2 p2=>
   cases v1;cases v2;refine Zn (I.list (Wr le q1)) λi1 w1 l1 _=>?_;refine Zn (I.tuple (Qg le (Ck q2))) λi2 w2 l2 _=>?_;exact eF rfl (SeqAt.ne_of_list_tuple (s:=s) l1.isList l2)
  .cases r1 with
   |tup q1 p1=>
   cases r2 with
   |lst q2 _ p2=>
   cases v1;cases v2;refine Zn (I.tuple (Qg le (Ck q1))) λi1 w1 l1 _=>?_;refine Zn (I.list (Wr le q2)) λi2 w2 l2 _=>?_;exact eF rfl (SeqAt.ne_of_list_tuple (s:=s) l2.isList l1)
  .obtain⟨f1,f2,rfl⟩:=Rr (H:=H) e (Yh.of r1) (Yh.of r2);exact kH v1 v2 f1 f2
theorem Sb(I:gY X gR σ H s)(le:Zj F H):∀n d1 d2 b x y v,fE X.K F d1 x->Zv x v->fE X.K F d2 y->Zv y v->W8 n d1 d2=aA b->b=aC
 |0,_,_,_,_,_,_,_,_,_,_,e=>by cases e
 |n+1,d1,d2,b,x,y,v,r1,v1,r2,v2,e=>Fy I le (Sb I le n) d1 d2 b x y v r1 v1 r2 v2 e
theorem Sd(hf:∀d1 d2 b x y v u,fE X.K F d1 x->Zv x v->fE X.K F d2 y->Zv y u->f d1 d2=aA b->SeqAt.EqAt A s v u b):∀{ys:List D} {vs ws:List V} {us zs:List ag} {b:Bool},gX X.K F xs vs->Z1 vs us->gX X.K F ys ws->Z1 ws zs->Oq f xs ys=aA b->
  ∃e,(∀j h1 (h2:j<zs.length),SeqAt.EqAt A s us[j] zs[j] (e j))/\(cr (min us.length zs.length)).all e=b:=by
 induction xs with
 |nil=>intro ys vs ws us zs b r1 v1 _ _ e;cases r1;cases v1;cases e;exact⟨λ_=>aC,λj h1=>eF h1 (f7 _),by rw[List.length_nil,Nat.zero_min];rfl⟩
 |cons x xs ih=>
  intro ys vs ws us zs b r1 v1 r2 v2 e;cases r1 with
  |cons h1 t1=>
   cases v1 with
   |cons a1 w1=>
    cases v2 with
    |nil=>cases r2;cases e;exact⟨λ_=>aC,λj _ h2=>eF h2 (f7 _),by rw[List.length_nil,Nat.min_zero];rfl⟩
    |cons a2 w2=>
     cases r2 with
     |cons h2 t2=>
      obtain⟨b,e1,e2⟩:=dr.mp e;obtain⟨c,e3,e4⟩:=dr.mp e2;cases e4;obtain⟨g,g1,g2⟩:=ih t1 w1 t2 w2 e3;refine⟨λj=>Nat.casesOn j b g,λj h1 h2=>?_,?_⟩
      .cases j with
       |zero=>exact hf _ _ _ _ _ _ _ (by assumption:_) a1 (by assumption:_) a2 e1
       |succ j=>exact g1 j (Nat.lt_of_succ_lt_succ h1) (Nat.lt_of_succ_lt_succ h2)
      .rw[aw,aw,Nat.succ_min_succ,List.range_succ_eq_map,List.all_cons,List.all_map,<-g2];rfl
theorem rcN(I:gY X gR σ H s)(le:Zj F H)(ih:∀d1 d2 b x y v u,fE X.K F d1 x->Zv x v->fE X.K F d2 y->Zv y u->f d1 d2=aA b->SeqAt.EqAt A.in1 s v u b)(r1:Yh X.K F H d1 x)(v1:Zv x v)(r2:Yh X.K F H d2 y)(v2:Zv y u)(e:Cp f d1 d2=aA b)(hu:A.units<ft)(hr:Yy x=aD\/Yy y=aD):(∃a c,v= .ref a/\u= .ref c)/\SeqAt.RcAt A s v u b/\SeqAt.RcNeAt A s v u (!b):=by
 unfold Cp at e;split at e
 .obtain⟨a1,PB,rfl,q1,p1⟩:=r1.lst le;obtain⟨a2,KZ,rfl,q2,p2⟩:=r2.lst le;cases v1;cases v2;refine Zn (I.list q1) λi1 w1 l1 _=>?_;refine Zn (I.list q2) λi2 w2 l2 _=>?_;have h1:=w1.length;have h2:=w2.length;have h3:=p1.length;have h4:=p2.length;refine⟨⟨_,_,rfl,rfl⟩,?_⟩;split at e
  .rename_i hl;obtain⟨g,g1,g2⟩:=Sd ih p1 w1 p2 w2 e;have hm:min i1.length i2.length=i1.toArray.size:=by simp;omega
   rw[hm]at g2;subst g2;have hz:i1.toArray.size=i2.toArray.size:=by simp;omega
   exact⟨SeqAt.RcAt.lists l1.isList l2.isList hz hu (λj j1 j2=>by simpa using g1 j (by simpa using j1) (by simpa using j2)),SeqAt.RcNeAt.lists l1.isList l2.isList hz hu (λj j1 j2=>by simpa using g1 j (by simpa using j1) (by simpa using j2))⟩
  .rename_i hl;cases e;have hz:(i1.toArray.size !=i2.toArray.size)=aC:=by simp;omega
   exact⟨SeqAt.RcAt.lists_lengths l1.isList l2.isList hz hu,SeqAt.RcNeAt.lists_lengths l1.isList l2.isList hz hu⟩
 .rename_i xs ys;obtain⟨a1,PB,rfl,q1,p1⟩:=r1.tup le;obtain⟨a2,KZ,rfl,q2,p2⟩:=r2.tup le;cases v1;cases v2;refine Zn (I.tuple q1) λi1 w1 l1 _=>?_;refine Zn (I.tuple q2) λi2 w2 l2 _=>?_;have h1:=w1.length;have h2:=w2.length;have h3:=p1.length;have h4:=p2.length;refine gZ e λc e1 e2=>?_;cases e2;refine⟨⟨_,_,rfl,rfl⟩,?_⟩;obtain⟨g,g1,g2⟩:=Sd ih p1 w1 p2 w2 e1;subst g2;have e3:((cr (min i1.length i2.length)).all g&&decide (xs.length=ys.length))=((cr (min i1.toArray.size i2.toArray.size)).all g&&i1.toArray.size==i2.toArray.size):=by
   have:(i1.toArray.size==i2.toArray.size)=decide (xs.length=ys.length):=by rw[bx,bx,<-h1,<-h2,<-h3,<-h4];rfl
   rw[this];simp
  rw[e3];exact⟨SeqAt.RcAt.tuples l1 l2 hu (λj j1 j2=>by simpa using g1 j (by simpa using j1) (by simpa using j2)),SeqAt.RcNeAt.tuples l1 l2 hu (λj j1 j2=>by simpa using g1 j (by simpa using j1) (by simpa using j2))⟩
 .obtain⟨a1,PB,rfl,q1,p1⟩:=r1.lst le;obtain⟨a2,KZ,rfl,q2,p2⟩:=r2.tup le;cases v1;cases v2;cases e;refine Zn (I.list q1) λi1 w1 l1 _=>?_;refine Zn (I.tuple q2) λi2 w2 l2 _=>?_;exact⟨⟨_,_,rfl,rfl⟩,SeqAt.RcAt.list_tuple l1.isList l2 hu,SeqAt.RcNeAt.list_tuple l1.isList l2 hu⟩
 .obtain⟨a1,PB,rfl,q1,p1⟩:=r1.tup le;obtain⟨a2,KZ,rfl,q2,p2⟩:=r2.lst le;cases v1;cases v2;cases e;refine Zn (I.tuple q1) λi1 w1 l1 _=>?_;refine Zn (I.list q2) λi2 w2 l2 _=>?_;exact⟨⟨_,_,rfl,rfl⟩,SeqAt.RcAt.tuple_list l1 l2.isList hu,SeqAt.RcNeAt.tuple_list l1 l2.isList hu⟩
 .obtain⟨f1,f2,_⟩:=Rr e r1 r2;rcases hr with hr|hr
  .rw[f1]at hr;cases hr
  .rw[f2]at hr;cases hr
theorem Mh(I:gY X gR σ H s)(le:Zj F H):∀n A d1 d2 b x y v u,A.units+n<ft->fE X.K F d1 x->Zv x v->fE X.K F d2 y->Zv y u->W8 n d1 d2=aA b->SeqAt.EqAt A s v u b
 |0,_,_,_,_,_,_,_,_,_,_,_,_,_,e=>by cases e
 |n+1,A,d1,d2,b,x,y,v,u,hu,r1,v1,r2,v2,e=>by
  by_cases hf:Yy x=aC/\Yy y=aC
  .have e':eqS d1 d2=aA b:=by
    unfold W8 Cp at e;split at e
    .cases r1;cases hf.1
    .cases r1;cases hf.1
    .cases r1;cases hf.1
    .cases r1;cases hf.1
    .exact e
   obtain⟨f1,f2,rfl⟩:=Rr (H:=H) e' (Yh.of r1) (Yh.of r2);exact Xh v1 v2 f1 f2
  .have hf':Yy x=aD\/Yy y=aD:=by
    cases h1:Yy x with
    |false=>exact .inl rfl
    |true=>cases h2:Yy y with
     |false=>exact .inr rfl
     |true=>exact eF ⟨h1,h2⟩ hf
   obtain⟨⟨a,c,rfl,rfl⟩,h1,_⟩:=rcN I le (A:=A) (f:=W8 n) (λd1 d2 b x y v u q1 w1 q2 w2 e=>Mh I le n A.in1 d1 d2 b x y v u (by have:A.in1.units=A.units+1:=rfl;omega) q1 w1 q2 w2 e) (Yh.of r1) v1 (Yh.of r2) v2 e (by omega) hf';by_cases RP:a=c
   .subst RP;rw[Sb I le (n+1) d1 d2 b x y _ r1 v1 r2 v2 e];exact SeqAt.EqAt.same _
   .exact SeqAt.EqAt.of_refs RP h1
def LS(K:af)(UJ:Bool):R2:=λx y H Q=>∃F d1 d2 b,Zj F H/\Yh K F H d1 x/\Yh K F H d2 y/\W8 48 d1 d2=aA b/\(Yy x=aD\/Yy y=aD)/\Q (.bl (if UJ then !b else b)) H
theorem yX(hu:X.A.units+64<ft):Bd X (gx .Eq) (LS X.K aD):=by intro gR s σ H x y v u Q I rx ry h;obtain⟨F,d1,d2,b,le,r1,r2,e,hf,q⟩:=h;obtain⟨_,h1,_⟩:=rcN I le (A:=X.A) (f:=W8 47) (λd1 d2 b x y v u q1 w1 q2 w2 e=>Mh I le 47 X.A.in1 d1 d2 b x y v u (by have:X.A.in1.units=X.A.units+1:=rfl;omega) q1 w1 q2 w2 e) r1 rx r2 ry e (by omega) hf;exact h1 X.prog X.w X.xe _ ⟨.bl b,H,I,rfl,q⟩
theorem pC(hu:X.A.units+64<ft):Bd X (gx .NotEq) (LS X.K aC):=by intro gR s σ H x y v u Q I rx ry h;obtain⟨F,d1,d2,b,le,r1,r2,e,hf,q⟩:=h;obtain⟨_,_,h1⟩:=rcN I le (A:=X.A) (f:=W8 47) (λd1 d2 b x y v u q1 w1 q2 w2 e=>Mh I le 47 X.A.in1 d1 d2 b x y v u (by have:X.A.in1.units=X.A.units+1:=rfl;omega) q1 w1 q2 w2 e) r1 rx r2 ry e (by omega) hf;exact h1 X.prog X.w X.xe _ ⟨.bl !b,H,I,rfl,q⟩
end
@[simp]noncomputable def D.isFlat:D->Bool
 | .non=>aC| .bl _=>aC| .int _=>aC| .str _=>aC|_=>aD
@[simp]def eqX(d1 d2:D):Option SV:=if d1.isFlat=true/\d2.isFlat=true then eqD d1 d2 else(W8 48 d1 d2).bind λb=>some (.fz (.bl b))
@[simp]def neX(d1 d2:D):Option SV:=if d1.isFlat=true/\d2.isFlat=true then neD d1 d2 else(W8 48 d1 d2).bind λb=>some (.fz (.bl !b))
theorem Jh(r:Yh K F H d x)(h:d.isFlat=aD):Yy x=aD:=by
 obtain⟨sv,ns,e,n,sh,hp⟩:=r;cases sh with
 |fz r=>cases e;cases r<;> first|rfl|cases h
 |ol r=>rfl
 |oK e' r=>rfl
 |oT kb e' r=>rfl
 |oN e' r=>rfl
 |oR e' r=>rfl
 |oX kb' e' r=>rfl
 |oD r=>rfl
 |oM kb' e' r=>rfl
 |oL _ r=>rfl
 |oQ e' r=>rfl
section
variable{Z:fB K}
theorem zU:Yz Z (λx y H Q=>rEq x y H Q\/LS K aD x y H Q) eqX:=by
 intro F H σ δ own x y d1 d2 sv Q s r1 r2 e k;unfold eqX at e;split at e
 .exact .inl (AN F H σ δ own x y d1 d2 sv Q s r1 r2 e k)
 .rename_i hf;refine gZ e λb e1 e2=>?_;cases e2;refine .inr ⟨F,d1,d2,b,s.le,r1,r2,e1,?_,k.fz s (.bl _)⟩;cases h1:d1.isFlat with
  |false=>exact .inl (Jh r1 h1)
  |true=>cases h2:d2.isFlat with
   |false=>exact .inr (Jh r2 h2)
   |true=>exact eF ⟨h1,h2⟩ hf
theorem sg:Yz Z (λx y H Q=>rNe x y H Q\/LS K aC x y H Q) neX:=by
 intro F H σ δ own x y d1 d2 sv Q s r1 r2 e k;unfold neX at e;split at e
 .exact .inl (AM F H σ δ own x y d1 d2 sv Q s r1 r2 e k)
 .rename_i hf;refine gZ e λb e1 e2=>?_;cases e2;refine .inr ⟨F,d1,d2,b,s.le,r1,r2,e1,?_,k.fz s (.bl _)⟩;cases h1:d1.isFlat with
  |false=>exact .inl (Jh r1 h1)
  |true=>cases h2:d2.isFlat with
   |false=>exact .inr (Jh r2 h2)
   |true=>exact eF ⟨h1,h2⟩ hf
@[simp]noncomputable def QT:D->Option SV
 | .int i=>aA (.fz (.int (-i)))
 |_=>aB
theorem sf:EU Z (rU λi=>.int (-i)) QT:=by
 intro F H σ δ own x d sv Q s r e k;unfold QT at e;split at e
 .cases e;exact⟨_,r.int,k.fz s (.int _)⟩
 .cases e
end
section
variable{X:Cx}{Z:fB X.K}{a b c:c9}{fa fb fc:FE}{pos:Pos}
theorem se(ha:PE X a (Ze Z fa)):PE X (.UnaryOp .USub a pos) (Ze Z (unF QT fa)):=(qD pX ha).imp λ_ _ _ h=>AE sf h
theorem sZ(hv:X.A.units+64<ft)(ha:PE X a (Ze Z fa))(hb:PE X b (Ze Z fb)):PE X (.Compare a [.Eq] [b] pos) (Ze Z (Zk eqX fa fb)):=EN (Dx.or (yX hv)) zU ha hb (U2 _)
theorem EI(hv:X.A.units+64<ft)(ha:PE X a (Ze Z fa))(hb:PE X b (Ze Z fb)):PT X (.Compare a [.Eq] [b] pos) (Ye Z (Yg (Zk eqX fa fb))):=Co (Dx.or (yX hv)) zU ha hb (U2 _)
theorem KQ(hv:X.A.units+64<ft)(ha:PE X a (Ze Z fa))(hb:PE X b (Ze Z fb)):PT X (.Compare a [.NotEq] [b] pos) (Ye Z (Yg (Zk neX fa fb))):=Co (zb.or (pC hv)) sg ha hb (U2 _)
end
end
section
variable{X:Cx}{tg:c9}
noncomputable def Its(z:Str):It:=⟨λi _=>i<z.length,λi H x H'=>H'=H/\∃c,z.cps[i]? =aA c/\x= .str ⟨#[c]⟩,λi _=>z.length<=i⟩
theorem jc{P:b8}{w:dq}{K:af}{tg:c9}(z:Str)(t:Tok)(it:ao):Turn P w K tg (Its z) [it] it (λi h=>h.IsStrIter it (strIterType z) z t i)where
 mem:=by simp
 obj:=λi h st b hb=>by
  have e:b=it:=by simpa using hb
  subst e;refine Zn st λo e c d=>?_;exact⟨o,e,λv q=>by rw[d]at q;cases q⟩
 keep:=λi h h' st k=>by refine Zn st λo e c d=>?_;exact⟨o,k it (by simp) o e,c,d⟩
 item:=by
  intro X hP hw hK hc i gR s σ H E I hf st hg;subst hP hw hK;refine W0 (hf it (by simp)) λf0 f1 f2 f3 f4 f5=>?_;have ZK:i<z.cps.size:=hg;have hx:z.cps[i]? =aA z.cps[i]:=by simp[ZK]
  have fin:∀h',h'.IsStrIter it (strIterType z) z t (i+1)->g6 it s.heap h'->∃u,aA (Value.str ⟨#[z.cps[i]]⟩ s.toks)=aA u/\bi (b9 X.prog X.w) X.A (letOwnedTupleGo tg (.ref it) u) (λ_ s2=>∃x H',gY X gR σ H' s2/\Zv x u/\(Its z).yld i H x H'/\s2.heap.IsStrIter it (strIterType z) z t (i+1)/\∀b∈[it],H' b=aB) E {s with heap:=h',toks:=s.toks+1}:=λh' YC sb=>by
   have I1:gY X gR σ H {s with heap:=h',toks:=s.toks+1}:=I.turned (t':=s.toks+1) (λb o hb q=>(sb.2 b hb).trans q) f0 f1 f3 f4 f5;refine Zn (id YC) λo e c d=>?_;have hn:["enumerate","zip","dict_itemiterator","dict_reverseitemiterator","odict_iterator","itertools.zip_longest","itertools.pairwise"].contains (strIterType z)=aD:=by unfold strIterType;split<;> decide
   exact⟨_,rfl,T9 (s:={s with heap:=h',toks:=s.toks+1}) e c d hn ⟨.str ⟨#[z.cps[i]]⟩,H,I1,⟨_,rfl⟩,⟨rfl,_,hx,rfl⟩,YC,λb hb=>(hf b hb).1⟩⟩
  cases ha:z.cps.all (· <128)with
  |false=>
   have et:strIterType z="str_iterator":=by unfold strIterType;rw[ha];rfl
   rw[et]at st fin;rw[et];exact wpAny_pyNext_wide_item st hx fin
  |true=>
   have et:strIterType z="str_ascii_iterator":=by unfold strIterType;rw[ha];rfl
   rw[et]at st fin;rw[et];exact wpAny_pyNext_ascii_item st hx fin
 done:=by
  intro X hP hw hK hc i gR s σ H E I hf st hg;subst hP hw hK;refine W0 (hf it (by simp)) λf0 f1 f2 f3 f4 f5=>?_;have UC:z.cps.size<=i:=hg;have hx:z.cps[i]? =aB:=by simp[UC]
  cases ha:z.cps.all (· <128)with
  |false=>
   have et:strIterType z="str_iterator":=by unfold strIterType;rw[ha];rfl
   rw[et]at st;exact wpAny_pyNext_wide_end (I.ok.hd hc) st hx λh' eb=>⟨rfl,I.turned (t':=s.toks) (λb o hb q=>eb b o hb q) f0 f1 f3 f4 f5⟩
  |true=>
   have et:strIterType z="str_ascii_iterator":=by unfold strIterType;rw[ha];rfl
   rw[et]at st;exact wpAny_pyNext_ascii_end (I.ok.hd hc) st hx λh' eb=>⟨rfl,I.turned (t':=s.toks) (λb o hb q=>eb b o hb q) f0 f1 f3 f4 f5⟩
 self:=λ_ _ _ _ _ st h=>by
  cases ha:z.cps.all (· <128)with
  |false=>
   have et:strIterType z="str_iterator":=by unfold strIterType;rw[ha];rfl
   rw[et]at st;exact wpAny_pyIter_striter_wide st h
  |true=>
   have et:strIterType z="str_ascii_iterator":=by unfold strIterType;rw[ha];rfl
   rw[et]at st;exact wpAny_pyIter_striter_ascii st h
def BV(K:af)(tl:TE):TI:=λσ H R=>tl σ H λx H1=>(∃a,x= .ref a/\(∃xs,Be K H1 a xs)/\R (Itl K a) H1)\/(∃a,x= .ref a/\(∃xs,Md K H1 a xs)/\R (Itt K a) H1)\/(∃z,x= .str z/\R (Its z) H1)
theorem pB(hl:PE X l tl):PI X tg l (BV X.K tl):=by
 intro gR s σ H R I h;refine Wu (hl gR s σ H _ I h) λv s1 ZE=>?_;obtain⟨x,H1,I1,r1,q1⟩:=ZE;rcases q1 with⟨a,e,⟨xs,hq⟩,q⟩|⟨a,e,⟨xs,hq⟩,q⟩|⟨z,e,q⟩
 .subst e;cases r1;refine Zn (I1.list hq) λgU rv p hz=>?_;refine wpAny_pyIter_list p.isList ?_;refine⟨s1.heap.objs.size,[s1.heap.objs.size],_,_,H1,rfl,I1.kept (t':=s1.toks) λb o e=>aq _ e,jy a _,⟨_,bo _ rfl,rfl,rfl⟩,λb hb=>?_,q⟩;have e:b=s1.heap.objs.size:=by simpa using hb
  subst e;exact I1.fpOk (bc _) (I1.hok.fresh (bc _))
 .subst e;cases r1;refine Zn (I1.tuple hq) λgU rv p hz=>?_;refine wpAny_pyIter_tuple (show s1.heap.IsTuple a gU.toArray from p) ?_;refine⟨s1.heap.objs.size,[s1.heap.objs.size],_,_,H1,rfl,I1.kept (t':=s1.toks) λb o e=>aq _ e,Xb a _,⟨_,bo _ rfl,rfl,rfl⟩,λb hb=>?_,q⟩;have e:b=s1.heap.objs.size:=by simpa using hb
  subst e;exact I1.fpOk (bc _) (I1.hok.fresh (bc _))
 .subst e;obtain⟨t,rfl⟩:=r1;refine wpAny_pyIter_strU ?_;refine⟨s1.heap.objs.size,[s1.heap.objs.size],_,_,H1,rfl,I1.kept (t':=s1.toks) λb o e=>aq _ e,jc z t _,⟨_,bo _ rfl,rfl,rfl⟩,λb hb=>?_,q⟩;have e:b=s1.heap.objs.size:=by simpa using hb
  subst e;exact I1.fpOk (bc _) (I1.hok.fresh (bc _))
def BU(K:af):List V->Hp->VK->Prop:=λxs H Q=>∃(p:ao) (bs:List Bool),xs=[.ref p]/\Be K H p (bs.map V.bl)/\Q (.bl (bs.all id)) H
theorem Se:∀{bs:List Bool} {us:List ag},Z1 (bs.map V.bl) us->us=bs.map Value.bool
 | [],_,r=>by rw[List.map_nil]at r;cases r;rfl
 |b::bs,_,r=>by
  rw[ax]at r;cases r with
  |cons h t=>cases(show _=Value.bool b from h);rw[Se t];rfl
theorem Fz:∀bs:List Bool,(cr bs.length).all (λi=>(bs[i]?).getD aC)=bs.all id
 | []=>rfl
 |b::bs=>by rw[aw,List.range_succ_eq_map,List.all_cons,List.all_map,List.all_cons,<-Fz bs];rfl
theorem kG(hc:X.calm=aC):Je X (.builtin "all") (BU X.K):=by
 intro gR s σ H xs us Q I rs h;obtain⟨p,bs,rfl,hq,q⟩:=h;obtain⟨u,rfl,ru⟩:=Bf rs;cases ru;refine Zn (I.list hq) λgU rv pl hz=>?_;have e:=Se rv;subst e;refine call_all_walk (wpAny_pyIter_list pl.isList ?_);have WX:p≠s.heap.objs.size:=λz=>by obtain⟨o,ho,_⟩:=pl.isList;have:=bp ho;rw[z]at this;exact Nat.lt_irrefl _ this
 refine⟨s.heap.objs.size,_,_,_,_,_,λi=>(bs[i]?).getD aC,rfl,Walks.list (by first|exact I.ok.hd hc| (rw[show X.A.in1.handled=X.A.handled from rfl];exact I.ok.hd hc)) _ p WX (bs.map Value.bool).toArray,⟨⟨_,bo _ rfl,rfl,rfl⟩,pl.isList.at λo e=>aq _ e⟩,?_,λh' tk hk=>?_⟩
 .intro i v s' Q' E' hP hQ;have TZ:(bs.map Value.bool)[i]? =aA v:=by simpa using hP
  rw[ay]at TZ;cases hb:bs[i]? with
  |none=>rw[hb]at TZ;cases TZ
  |some b=>rw[hb]at TZ;cases TZ;dsimp only at hQ;rw[hb]at hQ;exact wpAny_truthy_bool hQ
 .have e:(cr (bs.map Value.bool).toArray.size).all (λi=>(bs[i]?).getD aC)=bs.all id:=by rw[bx,aj];exact Fz bs
  rw[e];refine⟨.bl _,H,I.kept (t':=tk) λb o hb=>hk b o (λz=>?_) (aq _ hb),rfl,q⟩;have z':b=s.heap.objs.size:=by simpa using z
  have:=bp hb;rw[z']at this;exact Nat.lt_irrefl _ this
end
section
variable{K:af}
noncomputable def Sf(z:Str):List D:=z.cps.toList.map λc=>.str ⟨#[c]⟩
theorem Sg:Oz K (Its z) F (Sf z):=λF' H sF sH i=>by
 have hl:(Sf z).length=z.length:=by unfold Sf;rw[aj];rfl
 refine⟨λd hd=>?_,λh=>by rw[hl]at h;exact h⟩;have hi:i<z.length:=by have:=(az.mp hd).1;rw[hl]at this;exact this
 refine⟨hi,λx H' ZE=>?_⟩;obtain⟨e1,c,e2,e3⟩:=ZE;subst e1 e3;unfold Sf at hd;rw[ay]at hd;have e4:z.cps.toList[i]? =aA c:=by simpa using e2
 rw[e4]at hd;cases hd;exact⟨Zj.refl _,[],c6,λ_ h=>(nomatch h),.str _⟩
section
variable{Z:fB K}{H:Hp}{σ:L2.St}{Q:VK}
@[simp]def Bx(fe:FE):FD:=λδ=>(fe δ).bind λp=>(frz p.1 p.2).bind λq=>match q.1 with
 | .lst xs=>aA (xs,q.2)
 | .tup xs=>aA (xs,q.2)
 | .str z=>aA (Sf z,q.2)
 |_=>aB
theorem pA(h:Qc Z (Bx fe) σ H R):BV K (Ze Z fe) σ H R:=by
 refine Yo h λF δ own ds δ' s e k=>?_;refine fA e λrv δ1 e1 e2=>?_;refine fA e2 λd δ2 e3 e4=>?_;refine⟨F,δ,own,rv,δ1,s,e1,λv H1 F1 own1 sH sF s1 r1=>?_⟩;refine Zn (s1.settleR r1) λF2 ZG s2 r2=>?_;refine Ya (s2.frzR r2 e3) λF3 ZI ZS s3 r3=>?_;dsimp only at e4;split at e4
 .cases e4;cases r3 with
  |lst h _ r=>exact .inl ⟨_,rfl,⟨_,Wr s3.le h⟩,k _ H1 F3 ZI sH (sF.trans (ZG.trans ZS)) s3 (Pz h r)⟩
 .cases e4;cases r3 with
  |tup h r=>exact .inr (.inl ⟨_,rfl,⟨_,Qg s3.le (Ck h)⟩,k _ H1 F3 ZI sH (sF.trans (ZG.trans ZS)) s3 (Xp (Ck h) r)⟩)
 .cases e4;cases r3 with
  |str x=>exact .inr (.inr ⟨_,rfl,k _ H1 F3 ZI sH (sF.trans (ZG.trans ZS)) s3 Sg⟩)
 .cases e4
@[simp]noncomputable def inS(i j:Str):Bool:=!(f6 j i 0 j.length 1).isEmpty
@[simp]def inD:D->D->Option SV
 | .str i,.str j=>aA (.fz (.bl (inS i j)))
 |_,_=>aB
@[simp]def Xy:D->D->Option SV
 | .str i,.str j=>aA (.fz (.bl (!inS i j)))
 |_,_=>aB
theorem uu:Yz Z (λx y H Q=>∃i j,x= .str i/\y= .str j/\Q (.bl (!(f6 j i 0 j.length 1).isEmpty)) H) inD:=by
 intro F H σ δ own x y d1 d2 sv Q s r1 r2 e k;unfold inD at e;split at e
 .cases e;exact⟨_,_,r1.str,r2.str,k.fz s (.bl _)⟩
 .cases e
theorem nv:Yz Z (λx y H Q=>∃i j,x= .str i/\y= .str j/\Q (.bl (!(!(f6 j i 0 j.length 1).isEmpty))) H) Xy:=by
 intro F H σ δ own x y d1 d2 sv Q s r1 r2 e k;unfold Xy at e;split at e
 .cases e;exact⟨_,_,r1.str,r2.str,k.fz s (.bl _)⟩
 .cases e
@[simp]noncomputable def bools?:List D->Option (List Bool)
 | []=>aA []
 | .bl x::r=>(bools? r).bind λt=>aA (x::t)
 |_=>aB
theorem Si:∀{ds:List D} {xs:List Bool} {vs:List V},bools? ds=aA xs->gX K F ds vs->vs=xs.map V.bl
 | [],_,_,e,r=>by cases e;cases r;rfl
 |d::ds,_,_,e,r=>by
  cases r with
  |cons h t=>
   unfold bools? at e;split at e
   .rename_i e0;cases e0
   .rename_i x r0 e0;cases e0;refine gZ e λys e1 e2=>?_;cases e2;cases h;rw[Si e1 t];rfl
   .cases e
@[simp]def LR:List D->Option SV
 | [.lst xs]=>(bools? xs).bind λbs=>aA (.fz (.bl (bs.all id)))
 |_=>aB
theorem sY:Bh Z (BU K) LR:=by
 intro F H σ δ own vs ds sv Q s r e k;unfold LR at e;split at e
 .refine gZ e λbs e1 e2=>?_;cases e2;cases r with
  |cons h1 t=>cases t;obtain⟨a,vs,rfl,ha,ra⟩:=h1.lst s.le;rw[Si e1 ra]at ha;exact⟨a,bs,rfl,ha,k.fz s (.bl _)⟩
 .cases e
end
section
variable{X:Cx}{Z:fB X.K}{a b c:c9}{fa fb fc:FE}{pos:Pos}{tg:c9}
theorem Ui(ha:PE X a (Ze Z fa)):PI X tg a (Qc Z (Bx fa)):=λgR s σ H R I h=>pB ha gR s σ H R I (pA h)
theorem sX{p}(hm:X.mg "all"=aB)(ha:PE X a (Ze Z fa))(hc:‹X.calm=aC›)(hg:‹Gl X "all"›)(he:‹ba [a] X.env=(aD,ig a X.env)::ba [] X.env›)(ZF:‹(gu pos (ba [] X.env)).any (·.1)=aD›):PE X (.Call (.Name "all" p) [a] [] pos) (Ze Z (Y4 LR (Zc fa Zl))):=
 L8 (kG hc) sY hm boot_all (Zh ha Z3 he) hg (by decide) (by decide) he ZF
end
end
section
open AutoSeq1 (wpAny_loadPart')
section
variable{prog:b8}{w:dq}{A:c7}{E:ag->am->Prop}{s:am}
theorem Tj(hit:s.heap.IsTupleIter it t i)(ht:s.heap.IsTuple t gV)(hx:gV[i]? =aA x)(hQ:∀h',h'.IsTupleIter it t (i+1)->g6 it s.heap h'->Q x {s with heap:=h'}):bi (b9 prog w) A (Builtin.SmallTypes.nextOf (.ref it)) Q E s:=by
 refine Zn (id hit) λo ho hc hd=>?_;obtain⟨ol,QG,_,nl,QM⟩:=ht;unfold Builtin.SmallTypes.nextOf;refine aa (g7 (name:=dz "__next__") hit.typeIs F.slot_tuple_iterator_next (d5 F.slot_tuple_iterator_next hit.typeIs F.entry_tuple_iterator_next ?_ (F.args_tuple_iterator_next_1 _)));show bi _ _ (field (.ref it) 0 >>=_) _ _ s;refine aa (wpAny_field ho hd (x:=.ref t) rfl ?_);show bi _ _ (if(ci t==c8)=aC then _ else _) _ _ s;rw[fZ (show¬((ci t==c8)=aC)from bv)];show bi _ _ (field (.ref it) 1 >>=_) _ _ s;refine aa (wpAny_field ho hd (x:=.int i 0) rfl ?_);show bi _ _ (seqItems? (.ref t) >>=_) _ _ s;refine aa (wpAny_seqItems QG QM ?_);simp only[Int.toNat_natCast,hx];refine aa (wpAny_setField ho hd (by simp) (ad ⟨x,rfl,ad (hQ _ ⟨_,Heap.get?_update_self _ ho (Obj.isFreed_of_fields (Obj.data_mapFields hd _)),(Obj.cls_mapFields ..).trans hc,by rw[Obj.data_mapFields hd];simp[rawInt]⟩ (Heap.SameBut.update ..))⟩))
theorem Cq(hh:A.handled=aB)(hit:s.heap.IsTupleIter it t i)(ht:s.heap.IsTuple t gV)(hx:gV[i]? =aB)(hE:∀h' e,Heap.ExtBut it s.heap h'->(∃o,h'.get? e=aA o/\o.cls= .type "StopIteration")->E (.ref e) {s with heap:=h'}):bi (b9 prog w) A (Builtin.SmallTypes.nextOf (.ref it)) Q E s:=by
 refine Zn (id hit) λo ho hc hd=>?_;obtain⟨ol,QG,_,nl,QM⟩:=ht;unfold Builtin.SmallTypes.nextOf;refine aa (g7 (name:=dz "__next__") hit.typeIs F.slot_tuple_iterator_next (d5 F.slot_tuple_iterator_next hit.typeIs F.entry_tuple_iterator_next ?_ (F.args_tuple_iterator_next_1 _)));show bi _ _ (field (.ref it) 0 >>=_) _ _ s;refine aa (wpAny_field ho hd (x:=.ref t) rfl ?_);show bi _ _ (if(ci t==c8)=aC then _ else _) _ _ s;rw[fZ (show¬((ci t==c8)=aC)from bv)];show bi _ _ (field (.ref it) 1 >>=_) _ _ s;refine aa (wpAny_field ho hd (x:=.int i 0) rfl ?_);show bi _ _ (seqItems? (.ref t) >>=_) _ _ s;refine aa (wpAny_seqItems QG QM ?_);simp only[Int.toNat_natCast,hx];refine aa (wpAny_rule (aa (wpAny_setField ho hd (by simp) ?_)));show bi _ _ (newExc (.type "StopIteration") [] >>=_) _ _ _;refine aa ?_;simp only[newExc,newTuple];refine aa (gr ?_ (by size_fits));refine aa (m:=firstArgMember _ _) (wpAny_of_eq (a:=c8) (by first|rfl| (simp only[firstArgMember];rfl)) ?_);refine gr ?_ (by size_fits);simp only[raiseNew];refine aa (wpAny_handled ?_);first|rw[show A.in1.handled=aB from hh]|rw[hh]
 refine aa (ad (wpAny_throw ?_));exact hE _ _ (((Heap.SameBut.update ..).extBut.push _).push _) ⟨_,bo _ rfl,rfl⟩
theorem Sj(x:h.IsTuple t gV)(hs:Heap.ExtBut it h h')(WX:t≠it):h'.IsTuple t gV:=let⟨o,ho,r⟩:=x;⟨o,hs t o WX ho,r⟩
theorem iA{prog:b8}{w:dq}{A:c7}(hh:A.handled=aB)(it l:ao)(WX:l≠it)(gV:Array ag):
  Draws prog w A it [it,l] gV.size (λi v=>gV[i]? =aA v) (λi h=>h.IsTupleIter it l i/\h.IsTuple l gV)where
 live:=λ_ _ st=>let⟨o,ho,_⟩:=st.1;⟨o,ho⟩
 frame:=λ_ _ _ st hk=>⟨st.1.at λo e=>hk it (by simp) o e,let⟨o,ho,r⟩:=st.2;⟨o,hk l (by simp) o ho,r⟩⟩
 item:=λi s Q E hi st hQ=>by refine Tj st.1 st.2 (x:=gV[i]) (by simp[hi]) λh' HI QD=>?_;exact hQ _ h' s.toks (by simp[hi]) ⟨HI,Sj st.2 QD.extBut WX⟩ QD
 done:=λs Q E st hE=>Cq hh st.1 st.2 (by simp) hE
theorem L9(l gV n dct sl):
  Meets (Builtin.«enumerate.__new__» ⟨[.type "enumerate",.ref l],[]⟩) (λ_ R s=>s.heap.get? l=aA {cls:=.type "tuple",dict:=dct,data:=.seq gV n,slots:=sl}/\
   R (.ok (.ret (.ref (s.heap.push {cls:=.type "tuple_iterator",data:=.fields #[.ref l,.int 0 0]}).objs.size))) {s with heap:=(s.heap.push {cls:=.type "tuple_iterator",data:=.fields #[.ref l,.int 0 0]}).push {cls:=.type "enumerate",data:=.fields #[.none,.bool aD,.ref s.heap.objs.size,rawInt 0,.none,.none]}}):=
 .of_wp λprog w A R s h=>by
  obtain⟨hp,g,d,tk,os⟩:=s;obtain⟨hl,h⟩:=h;have hsub:=sub_enumerate;have hL:Heap.IsTuple (Shared.heap ⟨hp,g,d,tk,os⟩) l gV:=⟨_,hl,rfl,n,rfl⟩
  wp_walk using fg hl;refine wpAny_stack_any λst=>ad ?_;split
  .rename_i c _ _ _ _ _;cases(c==Value.type "enumerate")
   .wp_walk using fg hl,wpAny_pyIter_tuple hL;exact⟨_,rfl,h⟩
   .wp_walk using fg hl,wpAny_pyIter_tuple hL;exact⟨_,rfl,h⟩
  .wp_walk using fg hl,wpAny_pyIter_tuple hL;exact⟨_,rfl,h⟩
theorem Iv(hL:s.heap.IsTuple l gV)(h:∀h',IsEnum h' (s.heap.objs.size+1) s.heap.objs.size 0 .none->h'.IsTupleIter s.heap.objs.size l 0->h'.objs.size=s.heap.objs.size+2->(∀b o,s.heap.get? b=aA o->h'.get? b=aA o)->Q (.ref (s.heap.objs.size+1)) {s with heap:=h'}):
  bi (b9 prog w) A (call (.type "enumerate") [.ref l]) Q E s:=by
 obtain⟨⟨c,dct,dt,sl⟩,hl,hc,n,hd⟩:=hL;replace hc:c= .type "tuple":=hc;replace hd:dt= .seq gV n:=hd;subst hc hd;refine callType_new F.called_enumerate (by decide) (F.typeCall_enumerate_1 _) (F.newCall_enumerate_1 _) (λobj=>F.args_object_init_2 obj _) F.entry_enumerate_new (L9 l gV n dct sl) ⟨hl,?_⟩;have hz:(s.heap.push {cls:=.type "tuple_iterator",data:=.fields #[.ref l,.int 0 0]}).objs.size=s.heap.objs.size+1:=Heap.size_push ..;show _/\_;rw[hz];have he:IsEnum ((s.heap.push {cls:=.type "tuple_iterator",data:=.fields #[.ref l,.int 0 0]}).push {cls:=.type "enumerate",data:=.fields #[.none,.bool aD,.ref s.heap.objs.size,rawInt 0,.none,.none]}) (s.heap.objs.size+1) s.heap.objs.size 0 .none:=by have:=bo (s.heap.push {cls:=.type "tuple_iterator",data:=.fields #[.ref l,.int 0 0]}) (o:={cls:=.type "enumerate",data:=.fields #[.none,.bool aD,.ref s.heap.objs.size,rawInt 0,.none,.none]}) rfl;rw[hz]at this;exact this
 exact⟨⟨_,he,rfl⟩,h _ he ⟨_,aq _ (bo _ rfl),rfl,rfl⟩ (by rw[Heap.size_push,hz]) λb o x=>aq _ (aq _ x)⟩
theorem Na{i:Nat}(hh:A.handled=aB)(he:IsEnum s.heap e it i old)(hit:s.heap.IsTupleIter it l i)(hl:s.heap.IsTuple l gV)(hx:gV[i]? =aB)(hQ:∀h',Heap.ExtBut it s.heap h'->Q aB {s with heap:=h'}):bi (b9 prog w) A (pyNext (.ref e)) Q E s:=by
 have hT:s.TypeIs (.ref e) "enumerate":=⟨_,he,rfl⟩;unfold pyNext;refine aa (wpAny_attempt (g7 (name:=dz "__next__") hT F.slot_enumerate_next (d5 F.slot_enumerate_next hT F.entry_enumerate_next ?_ (F.args_enumerate_next_1 _))));show bi _ _ (field (.ref e) 2 >>=_) _ _ _;refine aa (wpAny_field he rfl (x:=.ref it) rfl ?_);refine aa (Cq (by first|exact hh| (rw[show A.in1.handled=A.handled from rfl];exact hh)) hit hl hx λh' x M_ YX=>?_);obtain⟨o,ho,hc⟩:=YX;refine aa (io (T:="StopIteration") (b:=aC) ⟨o,ho,hc⟩ isSubtype_stop ?_);exact ad (hQ _ M_)
end
section
variable{X:Cx}
noncomputable def GZ(K:af)(a:ao):It:=
 ⟨λi H=>∃xs x,Md K H a xs/\xs[i]? =aA x,λi H x H'=>∃p v,x= .ref p/\H p=aB/\H'=Y3 H p (.tup [.int (i:Nat),v])/\∀xs,Md K H a xs->xs[i]? =aA v,λi H=>∃xs,Md K H a xs/\xs.length<=i⟩
theorem Xz{P:b8}{w:dq}{K:af}{WI:List c9}{kk:Nat}{XR:Pos}(a e it:ao)(UP:e≠it):Turn P w K (.Tuple WI kk XR) (GZ K a) [e,it] e (λi h=>(∃old,IsEnum h e it ((i:Nat):Int) old)/\h.IsTupleIter it a i)where
 mem:=by simp
 obj:=λi h st b hb=>by
  have YB:b=e\/b=it:=by simpa using hb
  rcases YB with z|z
  .subst z;obtain⟨old,q⟩:=st.1;exact⟨_,q,λv y=>by
    have y':Data.fields _=Data.cell v:=y;cases y'⟩
  .subst z;refine Zn st.2 λo q c d=>?_;exact⟨o,q,λv y=>by rw[d]at y;cases y⟩
 keep:=λi h h' st k=>⟨let⟨old,q⟩:=st.1;⟨old,k e (by simp) _ q⟩,st.2.at λo q=>k it (by simp) o q⟩
 item:=by
  intro X hP hw hK hc i gR s σ H E I hf st hg;subst hP hw hK;refine Wq hg λxs x hq hx=>?_;refine Zn (I.tuple hq) λgU rv p hz=>?_;obtain⟨u,hu,ru⟩:=rv.get hx;obtain⟨⟨old,he⟩,hit⟩:=st;have hl:s.heap.IsTuple a gU.toArray:=p;have ai:a≠it:=λz=>by refine Zn hit λo1 q1 c1 _=>?_;refine Zn hl λo2 q2 c2 _=>?_;rw[z,q1]at q2;cases q2;rw[c1]at c2;exact eF c2 (by decide)
  have ae:e∉[it,a]:=λz=>by
   have z':e=it\/e=a:=by simpa using z
   rcases z' with z|z
   .exact UP z
   .refine Zn hl λo2 q2 c2 _=>?_;rw[<-z,he]at q2;cases q2;exact eF (show Value.type "enumerate"=Value.type "tuple"from c2) (by decide)
  have D:=iA (prog:=X.prog) (w:=X.w) (A:=X.A.in1) (by first|exact I.ok.hd hc| (rw[show X.A.in1.handled=X.A.handled from rfl];exact I.ok.hd hc)) it a ai gU.toArray;have ZK:i<gU.toArray.size:=by have:=(az.mp hu).1;rw[bx];exact this
  refine wpAny_pyNext_enum_itemD D he ⟨hit,hl⟩ ZK UP ae λy h' tk hy RC YC hT hsz hk=>⟨.ref s.heap.objs.size,rfl,?_⟩
  refine wpAny_letOwnedTupleGo_enum RC λh2 WQ XW=>?_;have VJ:gU.toArray[i]? =aA y:=hy;have ey:y=u:=by
   have:gU[i]? =aA y:=by simpa using VJ
   rw[hu]at this;cases this;rfl
  subst ey;have kk:∀b o,b≠e->b≠it->s.heap.get? b=aA o->h2.get? b=aA o:=λb o h1 h3 q=>(XW.2 b h1).trans (hk b o h1 h3 q);have neT:s.heap.objs.size≠e:=Nat.ne_of_gt (bp he);have I2:=I.turnedT (h':=h2) (t':=tk+1) (e:=e) (it:=it) (T:=s.heap.objs.size) (xs:=[.int (i:Nat),x]) (gU:=[.int i tk,y]) kk (hf e (by simp)) (hf it (by simp)) rfl ⟨_,(XW.2 _ neT).trans hT,rfl,_,rfl⟩ (.cons ⟨tk,rfl⟩ (.cons ru .nil)) (by show 2<=sizeLine;decide)
   ⟨_,WQ⟩ (let⟨o,q,_⟩:=YC.1;⟨o,(XW.2 it (Ne.symm UP)).trans q⟩)
  refine⟨.ref s.heap.objs.size,_,I2,rfl,⟨s.heap.objs.size,x,rfl,I.hok.fresh (bc _),rfl,λys ID=>by rw[I.tuple_inj ID hq];exact hx⟩,⟨⟨_,WQ⟩,YC.1.at λo q=>(XW.2 it (Ne.symm UP)).trans q⟩,λb hb=>?_⟩;rw[Zt λz=>?_]
  .exact(hf b hb).1
  .have YB:b=e\/b=it:=by simpa using hb
   rcases YB with y|y
   .rw[<-z,y]at neT;exact neT rfl
   .obtain⟨o,q,_⟩:=hit;rw[y]at z;exact eF (bp q) (by rw[z];exact Nat.lt_irrefl _)
 done:=by intro X hP hw hK hc i gR s σ H E I hf st hg;subst hP hw hK;obtain⟨xs,hq,hx⟩:=hg;refine Zn (I.tuple hq) λgU rv p hz=>?_;obtain⟨⟨old,he⟩,hit⟩:=st;refine W0 (hf it (by simp)) λf0 f1 f2 f3 f4 f5=>?_;have hl:=rv.length;exact Na (I.ok.hd hc) he hit (show s.heap.IsTuple a gU.toArray from p) (by simp;omega) λh' eb=>⟨rfl,I.turned (t':=s.toks) (λb o hb q=>eb b o hb q) f0 f1 f3 f4 f5⟩
 self:=λ_ _ _ _ _ st h=>let⟨⟨old,he⟩,_⟩:=st;wpAny_pyIter_enum he h
def yW(K:af)(ta:TA):TI:=λσ H R=>ta σ H λvs H1=>∃a xs,vs=[.ref a]/\Md K H1 a xs/\R (GZ K a) H1
theorem kF(hg:Gl X "enumerate")(hm:X.mg "enumerate"=aB)(ha:PA X [l] ta)(hs:‹ba [l] X.env=[(aD,ig l X.env)]›):
  PI X (.Tuple WI kk XR) (.Call (.Name "enumerate" p) [l] [] pos) (yW X.K ta):=by
 intro gR s σ H R I h;refine Call_ (Bq I hg hm boot_enumerate (PyProof.Rows.callWith_type1 (Wu (ha pos gR s σ H _ I h) λus s1 ⟨vs,H1,I1,r1,q1⟩=>?_) hs rfl));refine Ya q1 λa xs e hq q=>?_;subst e;obtain⟨u,rfl,ru⟩:=Bf r1;cases ru;refine Zn (I1.tuple hq) λgU rv p hz=>?_;refine Iv (show s1.heap.IsTuple a gU.toArray from p) λh' he hit hsz hk=>wpAny_pyIter_enum he ?_;have I2:gY X gR σ H1 {s1 with heap:=h'}:=I1.kept (t':=s1.toks) hk;refine⟨s1.heap.objs.size+1,[s1.heap.objs.size+1,s1.heap.objs.size],_,_,H1,rfl,I2,Xz a _ _ (Nat.succ_ne_self _),⟨⟨.none,by simpa using he⟩,hit⟩,λb hb=>?_,q⟩;have YB:b=s1.heap.objs.size+1\/b=s1.heap.objs.size:=by simpa using hb
 rcases YB with z|z
 .subst z;exact I1.fpOk (Nat.le_succ _) (I1.hok.fresh (Nat.le_succ _))
 .subst z;exact I1.fpOk (bc _) (I1.hok.fresh (bc _))
end
end
section
variable{K:af}
theorem Nb(h:Md K F a vs)(r:gX K F xs vs):Oz K (GZ K a) F (W2 xs):=λF' H sF sH i=>by
 have q:Md K H a vs:=Qg (sF.trans sH) h;refine⟨λd hd=>?_,λhl=>⟨vs,q,by rw[<-r.length,<-Fv];exact hl⟩⟩;obtain⟨x,hx,rfl⟩:=Fu hd;obtain⟨v,h1,h2⟩:=r.get hx;refine⟨⟨vs,v,q,h1⟩,λy H' ZE=>?_⟩;obtain⟨p,w,e1,e2,e3,e4⟩:=ZE;subst e1 e3;have e5:=e4 vs q;rw[h1]at e5;cases e5;have hp:F' p=aB:=sH.free e2;have sm:Zj F' (Q4 F' [(p,.tup [.int (i:Nat),v])]):=Qv λz hz=>by obtain rfl:=ar.mp hz;exact hp
 refine⟨W1 e2,[(p,.tup [.int (i:Nat),v])],Fp,λz hz=>?_,.tup Z2 (.cons (.int _) (.cons (h2.mono (sF.trans sm)) .nil))⟩;obtain rfl:=ar.mp hz;exact⟨e2,Z2⟩
@[simp]def yV(fd:FD):FD:=λδ=>(fd δ).bind λp=>match p.1 with
 | [.tup xs]=>aA (W2 xs,p.2)
 |_=>aB
theorem kE{Z:fB K}(h:Qc Z (yV fd) σ H R):yW K (Wz Z fd) σ H R:=by
 refine Yo h λF δ own ds δ' s e k=>?_;refine fA e λQP δ1 e1 e2=>?_;refine⟨F,δ,own,QP,δ1,s,e1,λvs H1 F1 own1 sH sF s1 r1=>?_⟩;dsimp only at e2;split at e2
 .rename_i xs;cases e2;cases r1 with
  |cons h t=>
   cases t;cases h with
   |tup h r=>exact⟨_,_,rfl,Qg s1.le (Ck h),k _ H1 F1 own1 sH sF s1 (Nb (Ck h) r)⟩
 .cases e2
section
variable{X:Cx}{Z:fB X.K}{a:c9}{pos:Pos}
@[simp]def U9(fd:FD):FD:=λδ=>(fd δ).bind λp=>match p.1 with
 | [.lst xs]=>aA (W2 xs,p.2)
 | [.tup xs]=>aA (W2 xs,p.2)
 |_=>aB
theorem kD(h:Qc Z (U9 fd) σ H R):Qc Z (zk fd) σ H R\/Qc Z (yV fd) σ H R:=by
 refine Yo h λF δ own ds δ' s e k=>?_;refine fA e λQP δ1 e1 e2=>?_;dsimp only at e2;split at e2
 .rename_i xs;exact .inl ⟨F,δ,own,ds,δ',s,dr.mpr ⟨_,e1,e2⟩,k⟩
 .rename_i xs;exact .inr ⟨F,δ,own,ds,δ',s,dr.mpr ⟨_,e1,e2⟩,k⟩
 .cases e2
theorem Os{WI}{kk}{XR p}(hm:X.mg "enumerate"=aB)(ha:PA X [a] (Wz Z fd))(hg:‹Gl X "enumerate"›)(hs:‹ba [a] X.env=[(aD,ig a X.env)]›):
  PI X (.Tuple WI kk XR) (.Call (.Name "enumerate" p) [a] [] pos) (Qc Z (U9 fd)):=λgR s σ H R I h=>by
 rcases kD h with h|h
 .exact me hg hm ha hs gR s σ H R I (md h)
 .exact kF hg hm ha hs gR s σ H R I (kE h)
end
end
def sW:R2:=λx y H Q=>∃a v,x= .ref a/\Gn H a y (aA v)/\Q v H
def N_:R2:=λy x H Q=>∃a o,x= .ref a/\Gn H a y o/\Q (.bl o.isSome) H
def Rs:R2:=λy x H Q=>∃a o,x= .ref a/\Gn H a y o/\Q (.bl (!o.isSome)) H
theorem X0(hu:X.A.units+1<ft):Bd X (gx .In) N_:=by intro gR s σ H y x v u Q I ry rx h;obtain⟨a,o,rfl,g,q⟩:=h;cases rx;exact ux hu I g ry λs' I'=>⟨.bl o.isSome,H,I',rfl,q⟩
theorem Iw(hu:X.A.units+1<ft):Bd X (gx .NotIn) Rs:=by intro gR s σ H y x v u Q I ry rx h;obtain⟨a,o,rfl,g,q⟩:=h;cases rx;exact mK hu I g ry λs' I'=>⟨.bl (!o.isSome),H,I',rfl,q⟩
section
variable{K:af}
@[simp]noncomputable def D.key?:D->Option Key
 | .int i=>aA (.inl i)
 | .str x=>aA (.inr x)
 |_=>aB
@[simp]noncomputable def keys?:List D->Option (List Key)
 | []=>aA []
 |d::r=>d.key?.bind λk=>(keys? r).bind λt=>aA (k::t)
section
variable{κ:Type}[DecidableEq κ]
@[simp]noncomputable def look(ks:List κ)(vs:List D)(k:κ):Option D:=match ks,vs with
 |a::ks,v::vs=>if a=k then aA v else look ks vs k
 |_,_=>aB
theorem Tt{F:Hp}(k:κ):∀(kvs:List (κ×V)) (ds:List D),gX K F ds (kvs.map (·.2))->match look (kvs.map (·.1)) ds k with
  |some d=>∃v,Qz kvs k=aA v/\fE K F d v
  |none=>Qz kvs k=aB
 | [],_,r=>by cases r;exact kg
 |p::kvs,_,r=>by
  cases r with
  | @cons d v ds vs h t=>
   show match(if p.1=k then aA d else look (kvs.map (·.1)) ds k)with
    |some d=>∃v,Qz (p::kvs) k=aA v/\fE K F d v
    |none=>Qz (p::kvs) k=aB
   by_cases e:p.1=k
   .rw[f_ e];exact⟨p.2,U3 e,h⟩
   .rw[fZ e,Jt e];exact Tt k kvs ds t
@[simp]noncomputable def Y6(ks:List κ)(vs:List D)(k:κ)(v:D):List κ×List D:=
 if k∈ks then(ks,(ks.zip vs).map λp=>if p.1=k then v else p.2)else(ks++[k],vs++[v])
theorem gX.length_map{α:Type}{kvs:List (α×V)}(r:gX K F ds (kvs.map (·.2))):ds.length=kvs.length:=by rw[r.length,aj]
theorem xj(hd:fE K F d v):∀(kvs:List (κ×V)) ds,gX K F ds (kvs.map (·.2))->
  gX K F (((kvs.map (·.1)).zip ds).map λp=>if p.1=k then d else p.2) ((kvs.map λkv=>if kv.1=k then(kv.1,v)else kv).map (·.2))
 | [],_,r=>by cases r;exact .nil
 |p::kvs,_,r=>by
  cases r with
  | @cons d' v' ds vs h t=>
   have ih:=xj (k:=k) hd kvs ds t;show gX K F ((if p.1=k then d else d')::(((kvs.map (·.1)).zip ds).map λp=>if p.1=k then d else p.2)) ((if p.1=k then(p.1,v)else p).2::((kvs.map λkv=>if kv.1=k then(kv.1,v)else kv).map (·.2)));refine .cons ?_ ih;by_cases e:p.1=k
   .rw[f_ e,f_ e];exact hd
   .rw[fZ e,fZ e];exact h
theorem kZ(kvs:List (κ×V)):(kvs.map λkv=>if kv.1=k then(kv.1,v)else kv).map (·.1)=kvs.map (·.1):=by rw[cp];refine List.map_congr_left λp _=>?_;show(if p.1=k then(p.1,v)else p).1=p.1;split<;> rfl
theorem xi(k)(kvs:List (κ×V)):(kvs.any λkv=>decide (kv.1=k))=aC↔k∈kvs.map (·.1):=by
 rw[List.any_eq_true,av];constructor
 .rintro⟨p,h1,h2⟩;exact⟨p,h1,eC h2⟩
 .rintro⟨p,h1,h2⟩;exact⟨p,h1,eB h2⟩
theorem Nc(hd:fE K F d v)(kvs:List (κ×V))(ds)(r:gX K F ds (kvs.map (·.2))):
  (Wy kvs k v).map (·.1)=(Y6 (kvs.map (·.1)) ds k d).1/\gX K F (Y6 (kvs.map (·.1)) ds k d).2 ((Wy kvs k v).map (·.2)):=by
 unfold Wy Y6;by_cases h:k∈kvs.map (·.1)
 .rw[f_ h,f_ ((xi k kvs).mpr h)];exact⟨kZ kvs,xj hd kvs ds r⟩
 .rw[fZ h,fZ λz=>h ((xi k kvs).mp z),cu,cu];exact⟨rfl,r.snoc hd⟩
end
theorem As(e:d.key? =aA k)(r:Yh K F H d y):y=kV k:=by
 cases d with
 |int i=>cases e;exact r.int
 |str x=>cases e;exact r.str
 |_=>cases e
theorem xh(e:d.key? =aA k)(r:fE K F d y):y=kV k:=As (H:=F) e (Yh.of r)
theorem Nd:∀{ds:List D} {ks:List Key} {vs:List V},keys? ds=aA ks->gX K F ds vs->vs=ks.map kV
 | [],_,_,e,r=>by cases e;cases r;rfl
 |d::ds,_,_,e,r=>by
  cases r with
  |cons h t=>refine gZ e λk e1 e2=>?_;refine gZ e2 λt' e3 e4=>?_;cases e4;rw[xh e1 h,Nd e3 t];rfl
theorem Yh.tupH(le:Zj F H)(h:Yh K F H (.tup xs) v):∃a vs,v= .ref a/\H a=aA (.tup vs)/\gX K F xs vs:=by
 obtain⟨sv,ns,e,n,sh,hp⟩:=h;cases sh with
 |fz r=>cases e;cases r with|tup h r=>exact⟨_,_,rfl,le _ _ h,r⟩
 |ol r=>cases e
 |oK e' r=>cases e
 |oT kb e' r=>cases e
 |oN e' r=>cases n
 |oR e' r=>cases n
 |oX kb' e' r=>cases n
 |oD r=>cases n
 |oM kb' e' r=>cases n
 |oL _ r=>cases n
 |oQ e' r=>cases e
@[simp]def No:D->D->Option (Option D)
 | .dK ks vs,d=>d.key?.bind λk=>aA (look ks vs k)
 | .dT ks vs,.tup xs=>(keys? xs).bind λk=>aA (look ks vs k)
 |_,_=>aB
theorem X1{F H:Hp}{d1 d2:D}{x y:V}{o:Option D}(le:Zj F H)(e:No d1 d2=aA o)(r1:Yh K F H d1 x)(r2:Yh K F H d2 y):
  ∃a,x= .ref a/\IsD H a/\match o with
   |some d=>∃v,Gn H a y (aA v)/\fE K F d v
   |none=>Gn H a y aB:=by
 unfold No at e;split at e
 .refine gZ e λk e1 e2=>?_;obtain⟨a,kvs,rfl,ha,rfl,rr⟩:=r1.dK le;refine⟨a,rfl,.inl ⟨kvs,ha.rd⟩,?_⟩;rw[As e1 r2];have z:=Tt k kvs _ rr;have g:=Gn.k (k:=k) ha;rw[dg.inj e2]at z;cases o with
  |none=>rw[show Qz kvs k=aB from z]at g;exact g
  |some d=>obtain⟨v,z1,z2⟩:=z;rw[z1]at g;exact⟨v,g,z2⟩
 .refine gZ e λk e1 e2=>?_;obtain⟨a,kvs,rfl,ha,rfl,rr⟩:=r1.dT le;obtain⟨b,vs,rfl,hb,rb⟩:=r2.tupH le;refine⟨a,rfl,.inr ⟨kvs,ha.rd⟩,?_⟩;rw[Nd e1 rb]at hb;have z:=Tt k kvs _ rr;have g:=Gn.t ha hb;rw[dg.inj e2]at z;cases o with
  |none=>rw[show Qz kvs k=aB from z]at g;exact g
  |some d=>obtain⟨v,z1,z2⟩:=z;rw[z1]at g;exact⟨v,g,z2⟩
 .cases e
section
variable{Z:fB K}
@[simp]def EO(d1 d2:D):Option SV:=(No d1 d2).bind λo=>o.bind λd=>some (.fz d)
theorem q_:Yz Z sW EO:=by intro F H σ δ own x y d1 d2 sv Q s r1 r2 e k;refine gZ e λo e1 e2=>?_;refine gZ e2 λd e3 e4=>?_;cases e4;subst e3;obtain⟨a,rfl,_,v,g,rv⟩:=X1 s.le e1 r1 r2;exact⟨a,v,rfl,g,k.fz s rv⟩
@[simp]def BS(d1 d2:D):Option SV:=(No d2 d1).bind λo=>some (.fz (.bl o.isSome))
@[simp]def xf(d1 d2:D):Option SV:=(No d2 d1).bind λo=>some (.fz (.bl (!o.isSome)))
theorem qz:Yz Z N_ BS:=by
 intro F H σ δ own x y d1 d2 sv Q s r1 r2 e k;refine gZ e λo e1 e2=>?_;cases e2;obtain⟨a,rfl,_,g⟩:=X1 s.le e1 r2 r1;cases o with
 |none=>exact⟨a,aB,rfl,g,k.fz s (.bl _)⟩
 |some d=>obtain⟨v,g,_⟩:=g;exact⟨a,aA v,rfl,g,k.fz s (.bl _)⟩
theorem j_:Yz Z Rs xf:=by
 intro F H σ δ own x y d1 d2 sv Q s r1 r2 e k;refine gZ e λo e1 e2=>?_;cases e2;obtain⟨a,rfl,_,g⟩:=X1 s.le e1 r2 r1;cases o with
 |none=>exact⟨a,aB,rfl,g,k.fz s (.bl _)⟩
 |some d=>obtain⟨v,g,_⟩:=g;exact⟨a,aA v,rfl,g,k.fz s (.bl _)⟩
@[simp]noncomputable def D.isD:D->Bool
 | .dK _ _=>aC| .dT _ _=>aC|_=>aD
@[simp]def Qn(d1 d2:D):Option SV:=if d1.isD=true then EO d1 d2 else ixD d1 d2
@[simp]def inX(d1 d2:D):Option SV:=if d2.isD=true then BS d1 d2 else inD d1 d2
@[simp]def X2(d1 d2:D):Option SV:=if d2.isD=true then xf d1 d2 else Xy d1 d2
theorem j9(hg:∀d1 d2 sv,g d1 d2=aA sv->g1 d1 d2=aA sv\/g2' d1 d2=aA sv)(h:Ze Z (Zk g fa fb) σ H Q):Ze Z (Zk g1 fa fb) σ H Q\/Ze Z (Zk g2' fa fb) σ H Q:=by
 refine Yo h λF δ own rv δ' s e k=>?_;refine fA e λrvs δ1 e1 e2=>?_;refine gZ e2 λds e3 e4=>?_;refine gZ e4 λsv e5 e6=>?_;have:(g2 g1) ds=aA sv\/(g2 g2') ds=aA sv:=by
  unfold g2 at e5⊢;split at e5
  .exact hg _ _ _ e5
  .cases e5
 rcases this with z|z
 .exact .inl ⟨F,δ,own,rv,δ',s,dr.mpr ⟨_,e1,dr.mpr ⟨_,e3,dr.mpr ⟨_,z,e6⟩⟩⟩,k⟩
 .exact .inr ⟨F,δ,own,rv,δ',s,dr.mpr ⟨_,e1,dr.mpr ⟨_,e3,dr.mpr ⟨_,z,e6⟩⟩⟩,k⟩
theorem sV:Yz Z (λx y H Q=>(∃i j,x= .str i/\y= .str j/\Q (.bl (!(f6 j i 0 j.length 1).isEmpty)) H)\/N_ x y H Q) inX:=by
 intro F H σ δ own x y d1 d2 sv Q s r1 r2 e k;unfold inX at e;split at e
 .exact .inr (qz F H σ δ own x y d1 d2 sv Q s r1 r2 e k)
 .exact .inl (uu F H σ δ own x y d1 d2 sv Q s r1 r2 e k)
theorem kY:Yz Z (λx y H Q=>(∃i j,x= .str i/\y= .str j/\Q (.bl (!(!(f6 j i 0 j.length 1).isEmpty))) H)\/Rs x y H Q) X2:=by
 intro F H σ δ own x y d1 d2 sv Q s r1 r2 e k;unfold X2 at e;split at e
 .exact .inr (j_ F H σ δ own x y d1 d2 sv Q s r1 r2 e k)
 .exact .inl (nv F H σ δ own x y d1 d2 sv Q s r1 r2 e k)
end
section
variable{X:Cx}{Z:fB X.K}{a b c:c9}{fa fb fc:FE}{pos:Pos}
theorem Z8(hu:X.A.units+1<ft)(ha:PE X a (Ze Z fa))(hb:PE X b (Ze Z fb))(hs:‹Tr b›):PE X (.Subscript a b pos) (Ze Z (Zk Qn fa fb)):=λgR s σ H Q I h=>by
 rcases j9 (g1:=EO) (g2':=ixD) (λd1 d2 sv e=>by
  unfold Qn at e;split at e
  .exact .inl e
  .exact .inr e) h with h|h
 .exact D4 hu ha hb hs gR s σ H Q I (Fq q_ h)
 .exact D0 Xf ha hb hs gR s σ H Q I (Fq AL h)
end
end
section
variable{K:af}
section
variable{Z:fB K}
@[simp]noncomputable def Cr:FE:=λδ=>some (.tmp (.oK [] []),δ)
theorem nu(h:Ze Z Cr σ H Q):Lx σ H Q:=by refine Yo h λF δ own rv δ' s e k=>?_;cases e;intro p hp;have f:Fin Z F H σ δ own (.oK [] []) Q:=λv H' F' ns a b c t=>k v H' F' own a b c ⟨ns,t⟩;exact f.one s (.oK (kvs:=[]) rfl .nil) hp
@[simp]noncomputable def SV.isOD:Option (Option SV)->Bool
 |some (aA (.oK _ _))=>aC
 |some (aA (.oT _ _))=>aC
 |some (aA (.oQ _ _ _))=>aC
 |_=>aD
@[simp]def LQ(kd d:D):Option (Option SV)->Option SV
 |some (aA (.oK ks vs))=>kd.key?.bind λk=>if vs.length<cj then aA (.oK (Y6 ks vs k d).1 (Y6 ks vs k d).2)else aB
 |some (aA (.oT ks vs))=>match kd with
  | .tup xs=>(keys? xs).bind λk=>if vs.length<cj then aA (.oT (Y6 ks vs k d).1 (Y6 ks vs k d).2)else aB
  |_=>aB
 |some (aA (.oQ q ks vs))=>kd.key?.bind λk=>if vs.length<cj then aA (.oQ q (Y6 ks vs k d).1 (Y6 ks vs k d).2)else aB
 |_=>aB
@[simp]def Cs(i:Nat)(fk fv:FE):FS:=λδ=>(fv δ).bind λp=>(frz p.1 p.2).bind λq=>if SV.isOD (q.2[i]?)=true then(fk q.2).bind λr=>(rdv r.1 r.2).bind λkd=>(LQ kd q.1 (r.2[i]?)).bind λsv=>some (.nx (r.2.set i (some sv)))else none
theorem kX(h:fC K F (.oK ks ds) v ns):∃a kvs ep,v= .ref a/\ns=[(a,.dK kvs ep)]/\kvs.map (·.1)=ks/\gX K F ds (kvs.map (·.2)):=by
 cases h with
 |oK e r=>exact⟨_,_,_,rfl,rfl,e,r⟩
theorem kW(h:fC K F (.oQ q ks ds) v ns):∃kvs ep,v= .ref q/\ns=[(q,.dK kvs ep)]/\kvs.map (·.1)=ks/\gX K F ds (kvs.map (·.2)):=by
 cases h with
 |oQ e r=>exact⟨_,_,rfl,rfl,e,r⟩
theorem kU(h:fC K F (.oT ks ds) v ns):∃a kvs ep bs,v= .ref a/\ns=[(a,.dT kvs ep bs)]/\KB F kvs bs/\kvs.map (·.1)=ks/\gX K F ds (kvs.map (·.2)):=by
 cases h with
 |oT kb e r=>exact⟨_,_,_,_,rfl,rfl,kb,e,r⟩
theorem KB.put(h:KB F kvs bs)(hb:F b=aA (.tup (k.map kV))):KB F (Wy kvs k v) (Pj kvs bs k b):=by
 unfold Wy Pj;split
 .unfold KB at*;clear hb;rename_i hq;clear hq;induction h with
  |nil=>exact .nil
  | @cons p c ps cs h1 t ih=>
   rw[ax];refine .cons ?_ ih;by_cases e:p.1=k
   .rw[f_ e];exact h1
   .rw[fZ e];exact h1
 .exact Paired.snoc h hb
theorem Yh.tupF(h:Yh K F H (.tup xs) v):∃a vs,v= .ref a/\F a=aA (.tup vs)/\gX K F xs vs:=by
 obtain⟨sv,ns,e,n,sh,hp⟩:=h;cases sh with
 |fz r=>cases e;cases r with|tup h r=>exact⟨_,_,rfl,h,r⟩
 |ol r=>cases e
 |oK e' r=>cases e
 |oT kb e' r=>cases e
 |oN e' r=>cases n
 |oR e' r=>cases n
 |oX kb' e' r=>cases n
 |oD r=>cases n
 |oM kb' e' r=>cases n
 |oL _ r=>cases n
 |oQ e' r=>cases e
theorem nr(h:SV.isOD o=aC):∃sv,o=aA (aA sv):=by
 unfold SV.isOD at h;split at h
 .exact⟨_,rfl⟩
 .exact⟨_,rfl⟩
 .exact⟨_,rfl⟩
 .cases h
theorem sU(h:Z6 Z (Cs i fk fv) E σ H):Fm (Cd i) (Ze Z fk) (Ze Z fv) E σ H:=by
 refine Q1 h λF δ own fl s e k=>?_;refine fA e λrv δ1 e1 e=>?_;refine fA e λd δ2 e2 e=>?_;dsimp only at e;split at e
 .rename_i IS;refine fA e λrk δ3 e3 e=>?_;refine gZ e λkd e4 e=>?_;refine gZ e λsv e5 e=>?_;cases e;refine⟨F,δ,own,rv,δ1,s,e1,λv H1 F1 own1 JD XT s1 r1=>?_⟩;refine Zn (s1.settleR r1) λF2 ZG s2 r2=>?_;refine Ya (s2.frzR r2 e2) λF3 ZI ZS s3 r3=>?_;obtain⟨wM,IJ⟩:=nr IS;obtain⟨x,hx,_⟩:=s3.at' i wM IJ;refine⟨x,hx,F3,δ2,ZI,rk,δ3,s3,e3,λy H4 F4 ZU R_ YO s4 r4=>?_⟩;refine Zn (s4.settleR r4) λF5 TB s5 r5=>?_;have rk':=s5.rd r5 e4;have rd:fE K F5 d v:=r3.mono (YO.trans TB);have sF:Zj F F5:=XT.trans (ZG.trans (ZS.trans (YO.trans TB)));dsimp only at e5;generalize ho:δ3[i]? =o at e5;unfold LQ at e5;split at e5
  .rename_i ks vs;refine gZ e5 λkk f1 f2=>?_;split at f2
   .rename_i hz;cases f2;obtain⟨x',YX,sh⟩:=s5.at' i _ ho;rw[hx]at YX;cases YX;obtain⟨a,kvs,VC,ea,en,rfl,rr⟩:=kX sh;subst ea;have mb:(a,HO.dK kvs VC)∈ZU i:=by rw[en];exact ac
    have hH:=(s5.ok i _ mb).2.2;have z:=Nc (k:=kk) rd kvs vs rr;refine⟨a,rfl,?_⟩;rw[As f1 rk'];refine Ae.k ⟨_,hH⟩ (by rw[<-rr.length_map];exact hz) λep=>?_;exact k σ _ F5 _ sF (s5.change (sv':=.oK (Y6 (kvs.map (·.1)) vs kk d).1 (Y6 (kvs.map (·.1)) vs kk d).2) (o':=.dK (Wy kvs kk v) ep) (ns':=[(a,.dK (Wy kvs kk v) ep)]) ho hx mb (.oK z.1 z.2) (λp hp=>.inl (ar.mp hp)) Fp)
   .cases f2
  .rename_i ks vs;split at e5
   .rename_i xs;refine gZ e5 λkk f1 f2=>?_;split at f2
    .rename_i hz;cases f2;obtain⟨x',YX,sh⟩:=s5.at' i _ ho;rw[hx]at YX;cases YX;obtain⟨a,kvs,VC,LG,ea,en,kb,rfl,rr⟩:=kU sh;subst ea;have mb:(a,HO.dT kvs VC LG)∈ZU i:=by rw[en];exact ac
     have hH:=(s5.ok i _ mb).2.2;have z:=Nc (k:=kk) rd kvs vs rr;obtain⟨b,us,rfl,H_,rb⟩:=rk'.tupF;rw[Nd f1 rb]at H_;refine⟨a,rfl,Ae.t ⟨_,_,hH⟩ (s5.le _ _ H_) (by rw[<-rr.length_map];exact hz) λep BG ue hq=>?_⟩;rw[hH]at hq;cases hq;exact k σ _ F5 _ sF (s5.change (sv':=.oT (Y6 (kvs.map (·.1)) vs kk d).1 (Y6 (kvs.map (·.1)) vs kk d).2) (o':=.dT (Wy kvs kk v) ep (Pj kvs LG kk b)) (ns':=[(a,.dT (Wy kvs kk v) ep (Pj kvs LG kk b))]) ho hx mb (.oT (kb.put H_) z.1 z.2) (λp hp=>.inl (ar.mp hp)) Fp)
    .cases f2
   .cases e5
  .rename_i q ks vs;refine gZ e5 λkk f1 f2=>?_;split at f2
   .rename_i hz;cases f2;obtain⟨x',YX,sh⟩:=s5.at' i _ ho;rw[hx]at YX;cases YX;obtain⟨kvs,VC,ea,en,rfl,rr⟩:=kW sh;subst ea;have mb:(q,HO.dK kvs VC)∈ZU i:=by rw[en];exact ac
    have hH:=(s5.ok i _ mb).2.2;have z:=Nc (k:=kk) rd kvs vs rr;refine⟨q,rfl,?_⟩;rw[As f1 rk'];refine Ae.k ⟨_,hH⟩ (by rw[<-rr.length_map];exact hz) λep=>?_;exact k σ _ F5 _ sF (s5.change (sv':=.oQ q (Y6 (kvs.map (·.1)) vs kk d).1 (Y6 (kvs.map (·.1)) vs kk d).2) (o':=.dK (Wy kvs kk v) ep) (ns':=[(q,.dK (Wy kvs kk v) ep)]) ho hx mb (.oQ z.1 z.2) (λp hp=>.inl (ar.mp hp)) Fp)
   .cases f2
  .cases e5
 .cases e
end
section
variable{X:Cx}{Z:fB X.K}{a b c:c9}{fa fb fc:FE}{pos:Pos}
theorem Um:PE X (.Dict [] [] pos) (Ze Z Cr):=Af.imp λ_ _ _ h=>nu h
theorem Cc(i){px p1}(hu:X.A.units+1<ft)(hb:PE X b (Ze Z fb))(YQ:PE X a (Ze Z fa))(hN:‹X.N[i]? =aA x›)(hv:‹V7 X.env.scope x›)(hd:‹(x==("__debug__":Str))=aD›)(ZT:‹(x==("__classdict__":Str))=aD›)(hs:‹swapsWith a (aA (.Subscript (.Name x px) b p1)) pos.line X.env=pure aD›):
  PS X (.Assign [.Subscript (.Name x px) b p1] a pos) (Z6 Z (Cs i fb fa)):=(Lw hu (U0 (i:=i) hN hv hd ZT) hb YQ hs).imp λ_ _ _ h=>sU h
end
end
def xc:List V->Hp->VK->Prop:=λxs H Q=>∃a kvs,xs=[.ref a]/\RdK H a kvs/\∀p ep,H p=aB->Q (.ref p) (Y3 H p (.dK kvs ep))
theorem Sk:Je X (.type "dict") xc:=by intro gR s σ H xs us Q I rs h;obtain⟨a,kvs,rfl,e,q⟩:=h;obtain⟨u,rfl,ru⟩:=Bf rs;cases ru;exact ke I e λp ep s' hp I'=>⟨.ref p,_,I',rfl,q p ep hp⟩
section
variable{K:af}
@[simp]noncomputable def KO:List D->Option SV
 | [.dK ks vs]=>aA (.oK ks vs)
 |_=>aB
theorem kQ{Z:fB K}:Bh Z xc KO:=by
 intro F H σ δ own vs ds sv Q s r e k;unfold KO at e;split at e
 .cases e;cases r with
  |cons h t=>cases t;obtain⟨a,kvs,rfl,ha,ek,rr⟩:=h.dK s.le;exact⟨a,kvs,rfl,ha.rd,λp ep hp=>k.one s (.oK ek rr) hp⟩
 .cases e
section
variable{X:Cx}{Z:fB X.K}{a b c:c9}{fa fb fc:FE}{pos:Pos}
theorem kP{p}(hm:X.mg "dict"=aB)(ha:PE X a (Ze Z fa))(hg:‹Gl X "dict"›)(he:‹ba [a] X.env=(aD,ig a X.env)::ba [] X.env›)(ZF:‹(gu pos (ba [] X.env)).any (·.1)=aD›):PE X (.Call (.Name "dict" p) [a] [] pos) (Ze Z (Y4 KO (Zc fa Zl))):=
 Rq Sk kQ hm boot_dict (Zh ha Z3 he) hg (by decide) (by decide) he ZF
end
end
theorem X3(h:Q 0xFCA86420 {s with toks:=s.toks+1}):bi (b9 prog w) A (pyHash .none) Q E s:=by have hT:s.TypeIs .none "NoneType":=rfl;refine PySem.W.pyHash_slot (v:=.none) (Q:=Q) hT F.slot_NoneType_hash F.entry_NoneType_hash (F.args_NoneType_hash_1 _) rfl (.inl rfl) ?_;show bi (b9 prog w) A.in1 (mkInt 0xFCA86420 >>=λv=>ret v) _ E s;refine aa (wpAny_mkInt ?_);exact ad ⟨_,_,rfl,h⟩
noncomputable def EH:Option Key->ag->Bool
 |none,.none=>aC
 |none,_=>aD
 |some k,v=>Cg k v
theorem Wd(h:EH k v=aC):(k=aB/\v= .none)\/∃j,k=aA j/\Cg j v=aC:=by
 cases k with
 |none=>cases v<;> first|exact .inl ⟨rfl,rfl⟩|cases h
 |some j=>exact .inr ⟨j,rfl,h⟩
theorem Au(h:Cg j .none=aC):False:=by rcases Z9 h with⟨i,t,_,e⟩|⟨x,t,_,e⟩<;> cases e
noncomputable def Nf(prog:b8)(w:dq):PySem.KeyKind prog w (Option Key)where
 is:=EH
 hash:=λ|none=>0xFCA86420|some k=>(Zu prog w).hash k
 inj:=λv a b ha hb=>by
  rcases Wd ha with⟨rfl,rfl⟩|⟨i,rfl,hi⟩
  .rcases Wd hb with⟨rfl,_⟩|⟨j,rfl,hj⟩
   .rfl
   .exact(Au hj).elim
  .rcases Wd hb with⟨rfl,rfl⟩|⟨j,rfl,hj⟩
   .exact(Au hi).elim
   .rw[(Zu prog w).inj v i j hi hj]
 byValue:=λk v h=>by
  rcases Wd h with⟨rfl,rfl⟩|⟨i,rfl,hi⟩
  .rfl
  .exact(Zu prog w).byValue i v hi
 pyHash:=fun{A E s k v Q} hv h=>by
  rcases Wd hv with⟨rfl,rfl⟩|⟨i,rfl,hi⟩
  .exact X3 h
  .exact(Zu prog w).pyHash hi h
 eqBool:=fun{A E s a b u v Q} hu hv h=>by
  rcases Wd hu with⟨rfl,rfl⟩|⟨i,rfl,hi⟩
  .rcases Wd hv with⟨rfl,rfl⟩|⟨j,rfl,hj⟩
   .exact SeqAt.EqAt.same _ _ _ _ _ (by simpa using h)
   .rw[eA (λz=>nomatch z)]at h;rcases Z9 hj with⟨i,t,rfl,rfl⟩|⟨x,t,rfl,rfl⟩
    .exact SeqAt.EqAt.none_int i t _ _ _ _ h
    .exact SeqAt.EqAt.none_str x t _ _ _ _ h
  .rcases Wd hv with⟨rfl,rfl⟩|⟨j,rfl,hj⟩
   .rw[eA (λz=>nomatch z)]at h;rcases Z9 hi with⟨i,t,rfl,rfl⟩|⟨x,t,rfl,rfl⟩
    .exact SeqAt.EqAt.int_none i t _ _ _ _ h
    .exact SeqAt.EqAt.str_none x t _ _ _ _ h
   .refine(Zu prog w).eqBool hi hj ?_;have e:decide (aA i=aA j)=decide (i=j):=by simp
    rw[<-e];exact h
 «strs»:=λk x t v h=>by
  rcases Wd h with⟨rfl,e⟩|⟨i,rfl,hi⟩
  .cases e
  .exact(Zu prog w).strs i x t v hi
theorem xb{h:f8}(d:h.DictOf (Zu P w) a vs):h.MapOf (Nf P w) a (λ|none=>aB|some k=>valueAt vs k):=by
 obtain⟨o,es,ep,ho,hc,hd,hk,hf⟩:=d.mapOf;refine⟨o,es,ep,ho,hc,hd,λe he=>?_,λk=>?_⟩
 .obtain⟨k,h1,h2⟩:=hk e he;exact⟨aA k,h1,h2⟩
 .cases k with
  |some k=>exact hf k
  |none=>
   show(es.find? λe=>EH aB e.key).map (·.val)=aB;rw[Array.find?_eq_none.mpr λe he z=>?_]
   .rfl
   .obtain⟨k,h1,_⟩:=hk e he;rcases Wd z with⟨_,e2⟩|⟨j,e2,_⟩
    .rw[e2]at h1;exact Au h1
    .cases e2
def Mi(UJ:Bool):R2:=λy x H Q=>∃a kvs,y= .non/\x= .ref a/\RdK H a kvs/\Q (.bl UJ) H
theorem j8:Bd X (gx .In) (Mi aD):=by intro gR s σ H y x v u Q I ry rx h;obtain⟨a,kvs,rfl,rfl,e,q⟩:=h;cases ry;cases rx;obtain⟨z,hd,vs,ZH,dd⟩:=M5 I.hok e;exact wpAny_in_of (knd:=Nf X.prog X.w) (k:=aB) rfl hd (xb dd) ⟨.bl aD,H,I.tok _,rfl,q⟩
theorem Ng:Bd X (gx .NotIn) (Mi aC):=by intro gR s σ H y x v u Q I ry rx h;obtain⟨a,kvs,rfl,rfl,e,q⟩:=h;cases ry;cases rx;obtain⟨z,hd,vs,ZH,dd⟩:=M5 I.hok e;exact wpAny_notIn_of (knd:=Nf X.prog X.w) (k:=aB) rfl hd (xb dd) ⟨.bl aC,H,I.tok _,rfl,q⟩
def Nh(es:Array DictEntry)(kvs:List (Str×ag)):Prop:=es.size=kvs.length/\∀(i:Nat) (p:Str×ag),kvs[i]? =aA p->∃e t,es[i]? =aA e/\e.key= .str p.1 t/\e.val=p.2
def Rt(h:f8)(a:ao)(kvs:List (Str×ag)):Prop:=∃o es ep,h.get? a=aA o/\o.ExactDict/\o.data= .dict es ep/\Nh es kvs
noncomputable def place(kvs:List (Str×ag))(x:Str):Option Nat:=kvs.findIdx? λp=>decide (p.1=x)
theorem Nh.find(h:Nh es kvs)(x):(es.findIdx? λe=>e.key.isStr x)=place kvs x:=by
 unfold place;have hA:(es.findIdx? λe=>e.key.isStr x)=es.toList.findIdx? λe=>e.key.isStr x:=by obtain⟨l⟩:=es;simp
 rw[hA];have:∀(es:List DictEntry) (kvs:List (Str×ag)),es.length=kvs.length->(∀(i:Nat) (p:Str×ag),kvs[i]? =aA p->∃e t,es[i]? =aA e/\e.key= .str p.1 t/\e.val=p.2)->
   es.findIdx? (λe=>e.key.isStr x)=kvs.findIdx? λp=>decide (p.1=x):=by
  intro es;induction es with
  |nil=>intro kvs hl _;cases kvs with
   |nil=>rfl
   |cons p r=>cases hl
  |cons e es ih=>
   intro kvs hl hp;cases kvs with
   |nil=>cases hl
   |cons p r=>
    refine Ya (hp 0 p rfl) λe' t h1 h2 h3=>?_;obtain rfl:e=e':=by simpa using h1
    have hk:e.key.isStr x=decide (p.1=x):=by
     rw[h2];show(p.1==x)=_;by_cases z:p.1=x
     .rw[z];simp
     .rw[eA z];exact beq_eq_false_iff_ne.mpr z
    rw[List.findIdx?_cons,List.findIdx?_cons,hk,ih r (by simpa using hl) (λi q hq=>hp (i+1) q (by simpa using hq))]
 exact this es.toList kvs (by rw[bf];exact h.1) (λi p hp=>by
  refine Wq (h.2 i p hp) λe t h1 h2=>?_;exact⟨e,t,by rw[de];exact h1,h2⟩)
theorem j7(ho:s.heap.get? d=aA o)(hd:o.data= .dict es ep)(hp:Nh es kvs)(q:Q (place kvs x) s):
  bi (b9 prog w) A (dictFind d (.str x t) n) Q E s:=by
 have hall:(es.all λe=>isExactStrKey e.key)=aC:=by
  rw[Array.all_eq_true];intro i hi;have VB:i<kvs.length:=by rw[<-hp.1];exact hi
  refine Ya (hp.2 i kvs[i] (by simp[VB])) λe t' h1 h2 _=>?_;rw[Array.getElem?_eq_getElem hi]at h1;cases h1;rw[h2];rfl
 unfold dictFind
 try with_reducible refine f9 ?_
 refine aa (wpAny_dictEntries ho hd ?_);dsimp only;rw[f_ hall];unfold foundByValue;rw[hp.find x];cases hj:place kvs x with
 |none=>rw[hj]at q;exact ad q
 |some j=>rw[hj]at q;obtain⟨ZK,hx,_⟩:=List.findIdx?_eq_some_iff_getElem.mp hj;refine Ya (hp.2 j kvs[j] (by simp[ZK])) λe t' h1 h2 h3=>?_;have YX:kvs[j].1=x:=eC hx;rw[YX]at h2;dsimp only;rw[h1];dsimp only;refine aa (wpAny_dictEpoch ho hd ?_);rw[h2];refine aa (SeqAt.EqAt.str_str x t' x t prog w _ _ ?_);refine aa (wpAny_dictEpoch ho hd ?_);rw[fZ (by simp)];simp only[beq_self_eq_true,if_true];exact aa (wpAny_rule (ad q))
inductive SHits(A:c7)(s:am)(kb:List (Str×ag)):List (Str×ag)->Bool->Prop where
 |nil:SHits A s kb [] aC
 |miss {k:Str} {v:ag} {r:List (Str×ag)}:place kb k=aB->SHits A s kb ((k,v)::r) aD
 |hit {k:Str} {v:ag} {r:List (Str×ag)} {j:Nat} {p:Str×ag} {e b:Bool}:place kb k=aA j->kb[j]? =aA p->SeqAt.EqAt A s v p.2 e->SHits A s kb r b->SHits A s kb ((k,v)::r) (e&&b)
theorem Av(ha:(a==sysModules)=aD)(hb:(b==sysModules)=aD)(da:Rt s.heap a ka)(db:Rt s.heap b kb)(hits:ka.length=kb.length->SHits A s kb ka r)(q:Q (ka.length==kb.length&&r) s):bi (b9 prog w) A (Builtin.Dict.samePairs nm a b) Q E s:=by
 obtain⟨oa,es,ep,ga,_,LF,pa⟩:=da;obtain⟨ob,NG,ep',gb,_,GP,pb⟩:=db;have la:=pa.1;have lb:=pb.1;unfold Builtin.Dict.samePairs Builtin.Dict.showsAll;rw[fZ (by rw[ha];exact bv),fZ (by rw[hb];exact bv)];refine aa (ad (aa (ad (aa (wpAny_dictEntries ga LF ?_)))));refine aa (wpAny_dictEntries gb GP ?_);by_cases hz:es.size=NG.size
 .have hl:ka.length=kb.length:=by omega
  have q':Q r s:=by simpa[hl]using q
  have hh:=hits hl;rw[fZ (by rw[hz];simp)];refine aa (wpAny_dictEpoch ga LF (aa ?_));rw[Std.Legacy.Range.forIn_eq_forIn_range'];simp only[Std.Legacy.Range.size,Nat.sub_zero,Nat.add_sub_cancel,Nat.div_one];refine wpAny_forIn_list _ (λrest x s'=>s'=s/\x=(aB,())/\∃i,rest=List.range' i (es.size- i)/\i<=es.size/\SHits A s kb (ka.drop i) r) _ ?_ ?_ _ _ ⟨rfl,rfl,0,by simp,gd _,hh⟩
  .rintro x rest y s' ⟨rfl,rfl,i,hr,hi,hS⟩;have ZK:i<es.size:=by
    rcases du i es.size with z|z
    .exact z
    .rw[Nat.sub_eq_zero_of_le z]at hr;cases hr
   rw[show es.size- i=(es.size- (i+1))+1 by omega,List.range'_succ]at hr;injection hr with hx hrest;subst hx;have TR:x<ka.length:=by omega
   refine Ya (pa.2 x ka[x] (by simp[TR])) λe t h1 h2 h3=>?_;rw[ie TR]at hS;refine aa (wpAny_dictEntries ga LF ?_);rw[h1];show bi _ _ (holding [e.key,e.val] _ >>=_) _ _ _;rw[h2];refine aa (f9 (aa (j7 gb GP pb ?_)));generalize hk:ka[x]=p at hS h2 h3⊢;obtain⟨k,v⟩:=p;cases hS with
   |miss hn=>rw[hn];refine ad ?_;show bi _ _ (if(!aD)=aC then _ else _) _ _ _;rw[f_ (by decide)];exact ad (ad q')
   | @hit _ _ _ j p' eb bb hn hp he OL=>
    rw[hn];refine Ya (pb.2 j p' hp) λf t' g1 g2 g3=>?_;refine aa (wpAny_dictEntries gb GP ?_);rw[g1];rw[show e.val=v from h3];dsimp only;rw[g3];refine f9 (he prog w _ _ ?_);cases eb with
    |false=>rw[Bool.false_and]at q';show bi _ _ (if(!aD)=aC then _ else _) _ _ _;rw[f_ (by decide)];exact ad (ad q')
    |true=>show bi _ _ (if(!aC)=aC then _ else _) _ _ _;rw[fZ (by decide)];refine aa (wpAny_dictEpoch ga LF ?_);rw[fZ (by simp)];exact ad ⟨rfl,rfl,x+1,hrest,ZK,by rw[Bool.true_and];exact OL⟩
  .rintro x s' ⟨rfl,rfl,i,hr,hi,hS⟩;have e:i=es.size:=by
    rcases du i es.size with z|z
    .rw[show es.size- i=(es.size- (i+1))+1 by omega,List.range'_succ]at hr;cases hr
    .omega
   rw[e,la,List.drop_length]at hS;cases hS;exact ad q'
 .rw[f_ (by simpa using hz)];have hf:(ka.length==kb.length)=aD:=by rw[<-la,<-lb];simpa using hz
  rw[hf,Bool.false_and]at q;exact aa (wpAny_rule (ad q))
section
variable{s:am}{a b:ao}{ka kb:List (Str×ag)}
theorem Rt.typeIs(d:Rt s.heap a ka):s.TypeIs (.ref a) "dict":=let⟨o,_,_,ho,hc,_⟩:=d;⟨o,ho,hc.1⟩
theorem Sl(ha:(a==sysModules)=aD)(hb:(b==sysModules)=aD)(da:Rt s.heap a ka)(db:Rt s.heap b kb)(hu:A.units<ft)(hits:ka.length=kb.length->SHits A.in1 s kb ka r):SeqAt.RcAt A s (.ref a) (.ref b) (ka.length==kb.length&&r):=λprog w E Q q=>by refine wpAny_richCompare_same_room (op:=.Eq) da.typeIs db.typeIs PySem.F.slot_dict_eq (d5 PySem.F.slot_dict_eq da.typeIs PySem.F.entry_dict_eq ?_ (PySem.F.args_dict_eq_2 _ _)) hu;show bi _ _ (Builtin.Dict.dictSlotArgs "__eq__" ⟨[.ref a,.ref b],[]⟩>>=_) _ _ s;refine aa ?_;unfold Builtin.Dict.dictSlotArgs;refine aa (wpAny_notOrdered_dict da.typeIs ?_);show bi _ _ (pure (ci a,ci b)) _ _ s;refine ad (aa (io (T:="dict") db.typeIs PySem.F.sub_dict_dict ?_));simp only[gh,bq,if_false];refine aa (ad (aa (ad (aa (Av ha hb da db hits ?_)))));exact ad ⟨_,rfl,(λx=>nomatch x),by simpa using q⟩
theorem Aw(ha:(a==sysModules)=aD)(hb:(b==sysModules)=aD)(da:Rt s.heap a ka)(db:Rt s.heap b kb)(hu:A.units<ft)(hits:ka.length=kb.length->SHits A.in1 s kb ka r):SeqAt.RcNeAt A s (.ref a) (.ref b) (!(ka.length==kb.length&&r)):=λprog w E Q q=>by refine wpAny_richCompare_same_room (op:=.NotEq) da.typeIs db.typeIs PySem.F.slot_dict_ne (d5 PySem.F.slot_dict_ne da.typeIs PySem.F.entry_dict_ne ?_ (PySem.F.args_dict_ne_2 _ _)) hu;show bi _ _ (Builtin.Dict.dictSlotArgs "__ne__" ⟨[.ref a,.ref b],[]⟩>>=_) _ _ s;refine aa ?_;unfold Builtin.Dict.dictSlotArgs;refine aa (wpAny_notOrdered_dict da.typeIs ?_);show bi _ _ (pure (ci a,ci b)) _ _ s;refine ad (aa (io (T:="dict") db.typeIs PySem.F.sub_dict_dict ?_));simp only[gh,bq,if_false];refine aa (ad (aa (ad (aa (Av ha hb da db hits ?_)))));exact ad ⟨_,rfl,(λx=>nomatch x),by simpa using q⟩
end
section
variable{K:af}
@[simp]noncomputable def strK?:List Key->Option (List Str)
 | []=>aA []
 | .inr x::r=>(strK? r).bind λt=>aA (x::t)
 |_=>aB
@[simp]def Ni(f:D->D->Option Bool)(ys:List Str)(us:List D):List Str->List D->Option Bool
 |x::xs,v::vs=>match look ys us x with
  |none=>aA aD
  |some u=>(f v u).bind λb=>(Ni f ys us xs vs).bind λc=>aA (b&&c)
 |_,_=>aA aC
@[simp]def Ru(f:D->D->Option Bool):D->D->Option Bool
 | .dK ks vs,.dK ks' XQ=>(strK? ks).bind λxs=>(strK? ks').bind λys=>if xs.length=ys.length then Ni f ys XQ xs vs else aA aD
 |d1,d2=>Cp f d1 d2
@[simp]def Tu:Nat->D->D->Option Bool
 |0=>λ_ _=>aB
 |n+1=>Ru (Tu n)
theorem xa:∀{es:List DictEntry} {kvs:List (Key×ag)} {xs:List Str},Pairs (Zu P w) es kvs->strK? (kvs.map (·.1))=aA xs->
  ∃ZL:List (Str×ag),ZL.map (·.1)=xs/\ZL.map (·.2)=kvs.map (·.2)/\es.length=ZL.length/\∀(i:Nat) p,ZL[i]? =aA p->∃e t,es[i]? =aA e/\e.key= .str p.1 t/\e.val=p.2
 |_,_,_,.nil,e=>by cases e;exact⟨[],rfl,rfl,rfl,λi p h=>by simp at h⟩
 |_,_,_,@Pairs.cons _ _ _ _ _ en kv es kvs hi hv t,e=>by
  obtain⟨k,v⟩:=kv;cases k with
  |inl i=>cases e
  |inr x=>
   have e:(strK? (kvs.map (·.1))).bind (λt=>aA (x::t))=aA _:=e;refine gZ e λxs e1 e2=>?_;cases e2;obtain⟨ZL,h1,h2,h3,h4⟩:=xa t e1;refine⟨(x,v)::ZL,by rw[ax,h1],by rw[ax,ax,h2],by rw[aw,aw,h3],λi p hp=>?_⟩;cases i with
   |zero=>
    obtain rfl:(x,v)=p:=by simpa using hp
    rcases Z9 (show Cg (.inr x) en.key=aC from hi)with⟨j,t',e3,_⟩|⟨y,t',e3,e4⟩
    .cases e3
    .cases e3;exact⟨en,t',rfl,e4,hv⟩
   |succ i=>exact h4 i p (by simpa using hp)
theorem Nj:∀{kvs:List (Key×V)} {vs:List (Key×ag)},KV kvs vs->vs.map (·.1)=kvs.map (·.1)/\Z1 (kvs.map (·.2)) (vs.map (·.2))
 |_,_,.nil=>⟨rfl,.nil⟩
 |_,_,.cons h t=>⟨by rw[ax,ax,h.1,(Nj t).1],.cons h.2 (Nj t).2⟩
section
variable{X:Cx}{gR:List (ao×Obj)}{σ:L2.St}{F H:Hp}{s:am}
theorem Ax(I:gY X gR σ H s)(ha:HK H a kvs)(e:strK? (kvs.map (·.1))=aA xs):
  (a==sysModules)=aD/\∃ZL,Rt s.heap a ZL/\ZL.map (·.1)=xs/\Z1 (kvs.map (·.2)) (ZL.map (·.2))/\(kvs.map (·.1)).Nodup:=by
 obtain⟨z,hd,vs,ZH,dd⟩:=ES I.hok ha;obtain⟨k1,k2⟩:=Nj ZH;obtain⟨o,es,ep,ho,hc,v8,_,hp,nd⟩:=dd;rw[<-k1]at e;obtain⟨ZL,h1,h2,h3,h4⟩:=xa hp e;refine⟨hd,ZL,⟨o,es,ep,ho,hc,v8,by rw[<-h3];simp,λi p vW=>?_⟩,h1,by rw[h2];exact k2,by rw[<-k1];exact nd⟩;refine Wq (h4 i p vW) λen t g1 g2=>?_;exact⟨en,t,by rw[<-de];exact g1,g2⟩
theorem G3(x:Str):∀(ZL:List (Str×ag)) (us:List D) (Us:List V),gX X.K F us Us->Z1 Us (ZL.map (·.2))->match look (ZL.map (·.1)) us x with
  |none=>place ZL x=aB
  |some u=>∃j p U,place ZL x=aA j/\ZL[j]? =aA p/\fE X.K F u U/\Zv U p.2
 | [],_,_,r,v=>by cases v;cases r;rfl
 |p::ZL,_,_,r,v=>by
  cases v with
  | @cons U u' Us us' hU tU=>
  cases r with
  | @cons d v' ds XQ h t=>
   have ih:=G3 x ZL ds Us t tU;show match(if p.1=x then aA d else look (ZL.map (·.1)) ds x)with
    |none=>place (p::ZL) x=aB
    |some u=>∃j q U,place (p::ZL) x=aA j/\(p::ZL)[j]? =aA q/\fE X.K F u U/\Zv U q.2
   have ZF:place (p::ZL) x=if p.1=x then aA 0 else(place ZL x).map (· +1):=by unfold place;rw[List.findIdx?_cons];by_cases e:p.1=x<;> simp[e]
   by_cases e:p.1=x
   .rw[f_ e,ZF,f_ e];exact⟨0,p,U,rfl,rfl,h,hU⟩
   .rw[fZ e,ZF,fZ e];cases hl:look (ZL.map (·.1)) ds x with
    |none=>rw[hl]at ih;dsimp only at ih⊢;rw[ih];rfl
    |some u=>rw[hl]at ih;obtain⟨j,q,U',h1,h2,h3,h4⟩:=ih;exact⟨j+1,q,U',by rw[h1];rfl,by simpa using h2,h3,h4⟩
theorem xZ(ih:∀d1 d2 b x y v u,fE X.K F d1 x->Zv x v->fE X.K F d2 y->Zv y u->f d1 d2=aA b->SeqAt.EqAt A s v u b)(ru:gX X.K F us Us)(vu:Z1 Us (ZZ.map (·.2))):
  ∀ZL vs Vs r,gX X.K F vs Vs->Z1 Vs (ZL.map (·.2))->Ni f (ZZ.map (·.1)) us (ZL.map (·.1)) vs=aA r->SHits A s ZZ ZL r
 | [],_,_,_,r,v,e=>by cases v;cases r;cases e;exact .nil
 |p::ZL,_,_,_,r,v,e=>by
  obtain⟨k,w⟩:=p;cases v with
  | @cons V0 u' Vs us' hV tV=>
  cases r with
  | @cons d v' ds XQ h t=>
   have lp:=G3 (X:=X) (F:=F) k ZZ us Us ru vu;have e:(match look (ZZ.map (·.1)) us k with
    |none=>aA aD
    |some u=>(f d u).bind λb=>(Ni f (ZZ.map (·.1)) us (ZL.map (·.1)) ds).bind λc=>aA (b&&c))=aA _:=e
   cases hl:look (ZZ.map (·.1)) us k with
   |none=>rw[hl]at lp e;cases e;exact .miss lp
   |some u=>rw[hl]at lp e;obtain⟨j,q,U,h1,h2,h3,h4⟩:=lp;refine gZ e λb e1 e2=>?_;refine gZ e2 λc e3 e4=>?_;cases e4;exact .hit h1 h2 (ih _ _ _ _ _ _ _ h hV h3 h4 e1) (xZ ih ru vu ZL ds Vs c t tV e3)
end
end
section
variable{K:af}
theorem Ka:∀ZL,(ZL.map (·.1)).Nodup->∀q∈ZL,∃j,place ZL q.1=aA j/\ZL[j]? =aA q
 | [],_,_,h=>nomatch h
 |p::r,nd,q,h=>by
  obtain⟨n1,n2⟩:=dy.mp nd;have ZF:place (p::r) q.1=if p.1=q.1 then aA 0 else(place r q.1).map (· +1):=by unfold place;rw[List.findIdx?_cons];by_cases e:p.1=q.1<;> simp[e]
  rcases bj.mp h with e|e
  .subst e;exact⟨0,by rw[ZF,f_ rfl],rfl⟩
  .obtain⟨j,h1,h2⟩:=Ka r n2 q e;have WX:¬p.1=q.1:=λz=>n1 (av.mpr ⟨q,e,z.symm⟩);exact⟨j+1,by rw[ZF,fZ WX,h1];rfl,by simpa using h2⟩
theorem Sm:∀{ks:List Key} {xs:List Str},strK? ks=aA xs->ks=xs.map dn
 | [],_,e=>by cases e;rfl
 | .inr x::ks,_,e=>by refine gZ e λt e1 e2=>?_;cases e2;rw[Sm e1];rfl
 | .inl i::ks,_,e=>by cases e
theorem X4(e:strK? ks=aA xs)(nd:ks.Nodup):xs.Nodup:=by rw[Sm e]at nd;have z:(xs.map dn:List Key).Pairwise (· ≠ ·):=nd;rw[fu]at z;exact z.imp λh e=>h (by rw[e])
section
variable{X:Cx}{gR:List (ao×Obj)}{σ:L2.St}{F H:Hp}{s:am}
theorem Kb(ih:∀d1 d2 b x y v,fE X.K F d1 x->Zv x v->fE X.K F d2 y->Zv y v->f d1 d2=aA b->b=aC)(ru:gX X.K F us Us)(vu:Z1 Us (ZL.map (·.2))):
  ∀(ZY:List (Str×ag)) vs Vs r,(∀q∈ZY,∃j,place ZL q.1=aA j/\ZL[j]? =aA q)->gX X.K F vs Vs->Z1 Vs (ZY.map (·.2))->Ni f (ZL.map (·.1)) us (ZY.map (·.1)) vs=aA r->r=aC
 | [],_,_,_,_,r,v,e=>by cases v;cases r;cases e;rfl
 |p::ZY,_,_,_,hs,r,v,e=>by
  obtain⟨k,w⟩:=p;cases v with
  | @cons V0 u' Vs us' hV tV=>
  cases r with
  | @cons d v' ds XQ h t=>
   have lp:=G3 (X:=X) (F:=F) k ZL us Us ru vu;obtain⟨j,RM,MW⟩:=hs (k,w) ac;have e:(match look (ZL.map (·.1)) us k with
    |none=>aA aD
    |some u=>(f d u).bind λb=>(Ni f (ZL.map (·.1)) us (ZY.map (·.1)) ds).bind λc=>aA (b&&c))=aA _:=e
   cases hl:look (ZL.map (·.1)) us k with
   |none=>rw[hl]at lp;rw[show place ZL k=aA j from RM]at lp;cases lp
   |some u=>rw[hl]at lp e;obtain⟨j',q,U,h1,h2,h3,h4⟩:=lp;rw[show place ZL k=aA j from RM]at h1;cases h1;rw[MW]at h2;cases h2;refine gZ e λb e1 e2=>?_;refine gZ e2 λc e3 e4=>?_;cases e4;rw[ih _ _ _ _ _ _ h hV h3 h4 e1,Kb ih ru vu ZY ds Vs c (λq hq=>hs q (ah _ hq)) t tV e3];rfl
theorem Ay(I:gY X gR σ H s)(le:Zj F H):∀n d1 d2 b x y v,fE X.K F d1 x->Zv x v->fE X.K F d2 y->Zv y v->Tu n d1 d2=aA b->b=aC
 |0,_,_,_,_,_,_,_,_,_,_,e=>by cases e
 |n+1,d1,d2,b,x,y,v,r1,v1,r2,v2,e=>by
  unfold Tu Ru at e;split at e
  .cases r1 with
   | @dK a ks ds kvs BG h1 e1 PR=>
   cases r2 with
   | @dK a' ks' ds' kvs' WH h2 e2 PQ=>
   cases v1;cases(show ci a=ci a' from v2);rw[h1]at h2;cases h2;subst e1 e2;refine gZ e λxs f1 e=>?_;refine gZ e λys f2 e=>?_;rw[f1]at f2;cases f2;rw[f_ rfl]at e;obtain⟨_,ZL,_,hk,hv,nd⟩:=Ax I ⟨_,le _ _ h1⟩ f1;have ndx:=X4 f1 nd;rw[<-hk]at e ndx;exact Kb (Ay I le n) PQ hv ZL _ _ b (Ka ZL ndx) PR hv e
  .exact Fy I le (Ay I le n) d1 d2 b x y v r1 v1 r2 v2 e
theorem rcM(I:gY X gR σ H s)(le:Zj F H)(ih:∀d1 d2 b x y v u,fE X.K F d1 x->Zv x v->fE X.K F d2 y->Zv y u->f d1 d2=aA b->SeqAt.EqAt A.in1 s v u b)(r1:Yh X.K F H d1 x)(v1:Zv x v)(r2:Yh X.K F H d2 y)(v2:Zv y u)(e:Ru f d1 d2=aA b)(hu:A.units<ft)(hr:Yy x=aD\/Yy y=aD):(∃a c,v= .ref a/\u= .ref c)/\SeqAt.RcAt A s v u b/\SeqAt.RcNeAt A s v u (!b):=by
 unfold Ru at e;split at e
 .obtain⟨a1,JY,rfl,uD,rfl,PR⟩:=r1.dK le;obtain⟨a2,ZM,rfl,uC,rfl,PQ⟩:=r2.dK le;cases v1;cases v2;refine gZ e λxs f1 e=>?_;refine gZ e λys f2 e=>?_;obtain⟨m1,ZY,MI,CV,IH,_⟩:=Ax I uD f1;obtain⟨m2,ZZ,MH,hk2,hv2,_⟩:=Ax I uC f2;have l1:ZY.length=xs.length:=by rw[<-CV,aj]
  have l2:ZZ.length=ys.length:=by rw[<-hk2,aj]
  refine⟨⟨_,_,rfl,rfl⟩,?_⟩;split at e
  .rename_i hl;rw[<-CV,<-hk2]at e;have hits:ZY.length=ZZ.length->SHits A.in1 s ZZ ZY b:=λ_=>xZ ih PQ hv2 ZY _ _ b PR IH e;have hb:b=(ZY.length==ZZ.length&&b):=by rw[l1,l2,hl];simp
   rw[hb];exact⟨Sl m1 m2 MI MH hu hits,Aw m1 m2 MI MH hu hits⟩
  .rename_i hl;cases e;have hits:ZY.length=ZZ.length->SHits A.in1 s ZZ ZY aD:=λz=>eF (by omega) hl;have hb:aD=(ZY.length==ZZ.length&&aD):=by simp
   rw[hb];exact⟨Sl m1 m2 MI MH hu hits,Aw m1 m2 MI MH hu hits⟩
 .exact rcN I le ih r1 v1 r2 v2 e hu hr
theorem X5(I:gY X gR σ H s)(le:Zj F H):∀n A d1 d2 b x y v u,A.units+n<ft->fE X.K F d1 x->Zv x v->fE X.K F d2 y->Zv y u->Tu n d1 d2=aA b->SeqAt.EqAt A s v u b
 |0,_,_,_,_,_,_,_,_,_,_,_,_,_,e=>by cases e
 |n+1,A,d1,d2,b,x,y,v,u,hu,r1,v1,r2,v2,e=>by
  by_cases hf:Yy x=aC/\Yy y=aC
  .have e':eqS d1 d2=aA b:=by
    unfold Tu Ru at e;split at e
    .cases r1;cases hf.1
    .unfold Cp at e;split at e
     .cases r1;cases hf.1
     .cases r1;cases hf.1
     .cases r1;cases hf.1
     .cases r1;cases hf.1
     .exact e
   obtain⟨f1,f2,rfl⟩:=Rr (H:=H) e' (Yh.of r1) (Yh.of r2);exact Xh v1 v2 f1 f2
  .have hf':Yy x=aD\/Yy y=aD:=by
    cases h1:Yy x with
    |false=>exact .inl rfl
    |true=>cases h2:Yy y with
     |false=>exact .inr rfl
     |true=>exact eF ⟨h1,h2⟩ hf
   obtain⟨⟨a,c,rfl,rfl⟩,h1,_⟩:=rcM I le (A:=A) (f:=Tu n) (λd1 d2 b x y v u q1 w1 q2 w2 e=>X5 I le n A.in1 d1 d2 b x y v u (by have:A.in1.units=A.units+1:=rfl;omega) q1 w1 q2 w2 e) (Yh.of r1) v1 (Yh.of r2) v2 e (by omega) hf';by_cases RP:a=c
   .subst RP;rw[Ay I le (n+1) d1 d2 b x y _ r1 v1 r2 v2 e];exact SeqAt.EqAt.same _
   .exact SeqAt.EqAt.of_refs RP h1
def LP(K:af)(UJ:Bool):R2:=λx y H Q=>∃F d1 d2 b,Zj F H/\Yh K F H d1 x/\Yh K F H d2 y/\Tu 48 d1 d2=aA b/\(Yy x=aD\/Yy y=aD)/\Q (.bl (if UJ then !b else b)) H
theorem yP(hu:X.A.units+64<ft):Bd X (gx .Eq) (LP X.K aD):=by intro gR s σ H x y v u Q I rx ry h;obtain⟨F,d1,d2,b,le,r1,r2,e,hf,q⟩:=h;obtain⟨_,h1,_⟩:=rcM I le (A:=X.A) (f:=Tu 47) (λd1 d2 b x y v u q1 w1 q2 w2 e=>X5 I le 47 X.A.in1 d1 d2 b x y v u (by have:X.A.in1.units=X.A.units+1:=rfl;omega) q1 w1 q2 w2 e) r1 rx r2 ry e (by omega) hf;exact h1 X.prog X.w X.xe _ ⟨.bl b,H,I,rfl,q⟩
theorem qy(hu:X.A.units+64<ft):Bd X (gx .NotEq) (LP X.K aC):=by intro gR s σ H x y v u Q I rx ry h;obtain⟨F,d1,d2,b,le,r1,r2,e,hf,q⟩:=h;obtain⟨_,_,h1⟩:=rcM I le (A:=X.A) (f:=Tu 47) (λd1 d2 b x y v u q1 w1 q2 w2 e=>X5 I le 47 X.A.in1 d1 d2 b x y v u (by have:X.A.in1.units=X.A.units+1:=rfl;omega) q1 w1 q2 w2 e) r1 rx r2 ry e (by omega) hf;exact h1 X.prog X.w X.xe _ ⟨.bl !b,H,I,rfl,q⟩
end
end
section
variable{K:af}
@[simp]def eqY(d1 d2:D):Option SV:=if d1.isFlat=true/\d2.isFlat=true then eqD d1 d2 else(Tu 48 d1 d2).bind λb=>some (.fz (.bl b))
@[simp]def neY(d1 d2:D):Option SV:=if d1.isFlat=true/\d2.isFlat=true then neD d1 d2 else(Tu 48 d1 d2).bind λb=>some (.fz (.bl !b))
@[simp]def inY(d1 d2:D):Option SV:=match d1,d2 with
 | .non,.dK _ _=>aA (.fz (.bl aD))
 |_,_=>inX d1 d2
@[simp]def X6(d1 d2:D):Option SV:=match d1,d2 with
 | .non,.dK _ _=>aA (.fz (.bl aC))
 |_,_=>X2 d1 d2
section
variable{Z:fB K}
theorem xY(r1:Yh K F H d1 x)(r2:Yh K F H d2 y)(hf:¬(d1.isFlat=aC/\d2.isFlat=aC)):Yy x=aD\/Yy y=aD:=by
 cases h1:d1.isFlat with
 |false=>exact .inl (Jh r1 h1)
 |true=>cases h2:d2.isFlat with
  |false=>exact .inr (Jh r2 h2)
  |true=>exact eF ⟨h1,h2⟩ hf
theorem zT:Yz Z (λx y H Q=>rEq x y H Q\/LP K aD x y H Q) eqY:=by
 intro F H σ δ own x y d1 d2 sv Q s r1 r2 e k;unfold eqY at e;split at e
 .exact .inl (AN F H σ δ own x y d1 d2 sv Q s r1 r2 e k)
 .rename_i hf;refine gZ e λb e1 e2=>?_;cases e2;exact .inr ⟨F,d1,d2,b,s.le,r1,r2,e1,xY r1 r2 hf,k.fz s (.bl _)⟩
theorem sT:Yz Z (λx y H Q=>rNe x y H Q\/LP K aC x y H Q) neY:=by
 intro F H σ δ own x y d1 d2 sv Q s r1 r2 e k;unfold neY at e;split at e
 .exact .inl (AM F H σ δ own x y d1 d2 sv Q s r1 r2 e k)
 .rename_i hf;refine gZ e λb e1 e2=>?_;cases e2;exact .inr ⟨F,d1,d2,b,s.le,r1,r2,e1,xY r1 r2 hf,k.fz s (.bl _)⟩
theorem sS:Yz Z (λx y H Q=>((∃i j,x= .str i/\y= .str j/\Q (.bl (!(f6 j i 0 j.length 1).isEmpty)) H)\/N_ x y H Q)\/Mi aD x y H Q) inY:=by
 intro F H σ δ own x y d1 d2 sv Q s r1 r2 e k;unfold inY at e;split at e
 .cases e;obtain⟨a,kvs,rfl,ha,_,_⟩:=r2.dK s.le;exact .inr ⟨a,kvs,r1.non,rfl,ha.rd,k.fz s (.bl _)⟩
 .exact .inl (sV F H σ δ own x y d1 d2 sv Q s r1 r2 e k)
theorem l8:Yz Z (λx y H Q=>((∃i j,x= .str i/\y= .str j/\Q (.bl (!(!(f6 j i 0 j.length 1).isEmpty))) H)\/Rs x y H Q)\/Mi aC x y H Q) X6:=by
 intro F H σ δ own x y d1 d2 sv Q s r1 r2 e k;unfold X6 at e;split at e
 .cases e;obtain⟨a,kvs,rfl,ha,_,_⟩:=r2.dK s.le;exact .inr ⟨a,kvs,r1.non,rfl,ha.rd,k.fz s (.bl _)⟩
 .exact .inl (kY F H σ δ own x y d1 d2 sv Q s r1 r2 e k)
end
section
variable{X:Cx}{Z:fB X.K}{a b c:c9}{fa fb fc:FE}{pos:Pos}
theorem sR(hv:X.A.units+64<ft)(ha:PE X a (Ze Z fa))(hb:PE X b (Ze Z fb)):PE X (.Compare a [.Eq] [b] pos) (Ze Z (Zk eqY fa fb)):=EN (Dx.or (yP hv)) zT ha hb (U2 _)
theorem sQ(hv:X.A.units+64<ft)(ha:PE X a (Ze Z fa))(hb:PE X b (Ze Z fb)):PT X (.Compare a [.Eq] [b] pos) (Ye Z (Yg (Zk eqY fa fb))):=Co (Dx.or (yP hv)) zT ha hb (U2 _)
theorem sP(hv:X.A.units+64<ft)(ha:PE X a (Ze Z fa))(hb:PE X b (Ze Z fb)):PT X (.Compare a [.NotEq] [b] pos) (Ye Z (Yg (Zk neY fa fb))):=Co (zb.or (qy hv)) sT ha hb (U2 _)
end
end
section
variable{K:af}
theorem SR.changeT{Z:fB K}(s:SR Z F H σ δ own)(t:fO Z F H own svT vT nsT)(e:δ[i]? =aA (aA sv))(hv:σ[i]? =aA (aA v))(ha:(a,o)∈own i)(hs:fC K F sv' v ns')(X_:∀p∈ns',p=(a,o')\/(p∈own i/\p.1≠a)\/p∈nsT)(nd:(Cm ns').Nodup):SR Z F (Y3 H a o') σ (δ.set i (aA sv')) (put own i ns'):=by
 obtain⟨fa,UE,hHa⟩:=s.ok i (a,o) ha;have hi:i<δ.length:=(az.mp e).1;refine⟨λb u eb=>?_,s.fro,λb u eb=>?_,by rw[im];exact s.len,λj sw ej=>?_,λj=>?_,λj p hp=>?_,λj k p q X' hp hq=>?_⟩
 .rw[Zt λz=>by rw[z]at eb;rw[fa]at eb;cases eb];exact s.le b u eb
 .rw[Zt λz=>by rw[z]at eb;rw[UE]at eb;cases eb];exact s.old b u eb
 .by_cases hj:j=i
  .subst hj;rw[d0 hi]at ej;cases ej;rw[Yb];exact⟨v,hv,hs⟩
  .rw[d6 (Ne.symm hj)]at ej;rw[Yn hj];exact s.at' j sw ej
 .by_cases hj:j=i
  .subst hj;rw[Yb];exact nd
  .rw[Yn hj];exact s.nod j
 .by_cases hj:j=i
  .subst hj;rw[Yb]at hp;rcases X_ p hp with z|⟨z,ne⟩|z
   .subst z;exact⟨fa,UE,Z2⟩
   .obtain⟨x,y,w⟩:=s.ok j p z;exact⟨x,y,by rw[Zt ne];exact w⟩
   .obtain⟨x,y,w⟩:=t.ok p z;exact⟨x,y,by rw[Zt (t.sep j p (a,o) z ha)];exact w⟩
  .rw[Yn hj]at hp;obtain⟨x,y,w⟩:=s.ok j p hp;exact⟨x,y,by rw[Zt (s.sep j i p (a,o) hj hp ha)];exact w⟩
 .have BF:∀(l:Nat) (r q:ao×HO),l≠i->r∈ns'->q∈own l->r.1≠q.1:=λl r q hl hr hq=>by
   rcases X_ r hr with z|⟨z,_⟩|z
   .subst z;exact s.sep i l (a,o) q (Ne.symm hl) ha hq
   .exact s.sep i l r q (Ne.symm hl) z hq
   .exact t.sep l r q z hq
  by_cases hj:j=i
  .subst hj;rw[Yb]at hp;rw[Yn (Ne.symm X')]at hq;exact BF k p q (Ne.symm X') hp hq
  .by_cases hk:k=i
   .subst hk;rw[Yb]at hq;rw[Yn hj]at hp;exact λz=>BF j q p hj hq hp z.symm
   .rw[Yn hj]at hp;rw[Yn hk]at hq;exact s.sep j k p q X' hp hq
theorem fL.snoc:∀{ZC:List (List D)} {ws:List V} {ns:Zs} {xs:List D} {b:ao} {vs:List V},fL K F ZC ws ns->gX K F xs vs->fL K F (ZC++[xs]) (ws++[.ref b]) (ns++[(b,.lst vs)])
 |_,_,_,_,_,_,.nil,r=>.cons r .nil
 |_,_,_,_,_,_,.cons h t,r=>.cons h (t.snoc r)
theorem fL.length:∀{ZC:List (List D)} {ws:List V} {ns:Zs},fL K F ZC ws ns->ZC.length=ws.length
 |_,_,_,.nil=>rfl
 |_,_,_,.cons _ t=>by rw[aw,aw,t.length]
theorem fL.ref:∀{ZC:List (List D)} {ws:List V} {ns:Zs} {p:Nat} {v:V},fL K F ZC ws ns->ws[p]? =aA v->∃b,v= .ref b
 |_,_,_,_,_,.nil,e=>by simp at e
 |_,_,_,0,_,.cons _ _,e=>by simp at e;exact⟨_,e.symm⟩
 |_,_,_,p+1,_,.cons _ t,e=>t.ref (p:=p) (by simpa using e)
end
section
variable{K:af}
@[simp]def LO(fe:FE):FS:=λδ=>(fe δ).bind λp=>(frz p.1 p.2).bind λq=>some (.rt (.fz q.1))
theorem qx{Z:fB K}(h:Z6 Z (LO fe) E σ H):FM (Ze Z fe) E σ H:=by refine Q1 h λF δ own fl s e k=>?_;refine fA e λrv δ1 e1 e2=>?_;refine fA e2 λd δ2 e3 e4=>?_;cases e4;refine⟨F,δ,own,rv,δ1,s,e1,λv H1 F1 own1 sH sF s1 r1=>?_⟩;refine Zn (s1.settleR r1) λF2 ZG s2 r2=>?_;refine Ya (s2.frzR r2 e3) λF3 ZI ZS s3 r3=>?_;exact k v H1 F3 [] (sF.trans (ZG.trans ZS)) s3.le s3.fro s3.old (.fz r3) c6 λ_ h=>(nomatch h)
section
variable{X:Cx}{Z:fB X.K}{a b c:c9}{fa fb fc:FE}{pos:Pos}
theorem yO(h:PE X a (Ze Z fa)):PS X (.Return (aA a) pos) (Z6 Z (LO fa)):=(yf h).imp λ_ _ _ h=>qx h
end
end
def zS:R2:=λx y H Q=>∃a k,x= .str a/\y= .int k/\MulOk a k/\Q (.str (Txt.mul a k)) H
theorem nq:Bd X (binaryOp .Mult) zS:=by intro gR s σ H x y v u Q I rx ry h;obtain⟨a,k,rfl,rfl,hm,q⟩:=h;obtain⟨t,rfl⟩:=rx;obtain⟨t',rfl⟩:=ry;exact SB.mul hm λt' k=>⟨.str _,H,I.tok _,⟨_,rfl⟩,q⟩
section
variable{K:af}
@[simp]noncomputable def D.fv:D->V
 | .bl b=>.bl b
 | .int i=>.int i
 | .str x=>.str x
 |_=>.non
theorem EG(r:Yh K F H d x)(h:d.isFlat=aC):x=d.fv/\Yy x=aC:=by
 cases d with
 |non=>rw[r.non];exact⟨rfl,rfl⟩
 |bl b=>rw[r.bl];exact⟨rfl,rfl⟩
 |int i=>rw[r.int];exact⟨rfl,rfl⟩
 |str y=>rw[r.str];exact⟨rfl,rfl⟩
 |_=>cases h
theorem X7:∀{ds:List D} {vs:List V},gX K F ds vs->ds.all D.isFlat=aC->vs=ds.map D.fv/\vs.all Yy=aC
 |_,_,.nil,_=>⟨rfl,rfl⟩
 |_,_,.cons h t,e=>by rw[List.all_cons,Bool.and_eq_true]at e;obtain⟨a1,a2⟩:=EG (H:=F) (Yh.of h) e.1;obtain⟨b1,b2⟩:=X7 t e.2;refine⟨by rw[ax,<-a1,<-b1],by rw[List.all_cons,a2,b2];rfl⟩
def GY(y x:D):Bool:=Xg y.fv x.fv
@[simp]theorem gA:GY .non .non=true:=rfl
@[simp]theorem i9(a):GY (.str a) .non=false:=rfl
def NV(x:D)(xs:List D):Bool:=xs.any λy=>GY y x
theorem xX:inV d.fv (ds.map D.fv)=NV d ds:=by unfold inV NV;rw[List.any_map];rfl
noncomputable def D.seq?:D->Option (List D)
 | .lst xs=>aA xs
 | .tup xs=>aA xs
 |_=>aB
@[simp]theorem i8(xs):D.seq? (.lst xs)=some xs:=rfl
@[simp]theorem i7(xs):D.seq? (.tup xs)=some xs:=rfl
@[simp]theorem i6(x):D.seq? (.str x)=none:=rfl
@[simp]theorem iz(ks vs):D.seq? (.dK ks vs)=none:=rfl
@[simp]theorem iy(ks vs):D.seq? (.dT ks vs)=none:=rfl
@[simp]def inZ(d1 d2:D):Option SV:=match d2.seq? with
 |some xs=>if d1.isFlat=aC/\xs.all D.isFlat=aC then aA (.fz (.bl (NV d1 xs)))else aB
 |none=>inY d1 d2
@[simp]def Az(d1 d2:D):Option SV:=match d2.seq? with
 |some xs=>if d1.isFlat=aC/\xs.all D.isFlat=aC then aA (.fz (.bl (!NV d1 xs)))else aB
 |none=>X6 d1 d2
section
variable{Z:fB K}{H:Hp}{σ:L2.St}{Q:VK}
theorem yN(le:Zj F H)(r:Yh K F H d x)(h:d.seq? =aA xs):∃a vs,x= .ref a/\(Be K H a vs\/Md K H a vs)/\gX K F xs vs:=by
 cases d with
 |lst ys=>cases h;refine Ya (r.lst le) λa vs e q rr=>?_;exact⟨a,vs,e,.inl q,rr⟩
 |tup ys=>cases h;refine Ya (r.tup le) λa vs e q rr=>?_;exact⟨a,vs,e,.inr q,rr⟩
 |_=>cases h
theorem sO:Yz Z (λx y H Q=>(((∃i j,x= .str i/\y= .str j/\Q (.bl (!(f6 j i 0 j.length 1).isEmpty)) H)\/N_ x y H Q)\/Mi aD x y H Q)\/rIn K aD x y H Q) inZ:=by
 intro F H σ δ own x y d1 d2 sv Q s r1 r2 e k;unfold inZ at e;split at e
 .rename_i xs hx;split at e
  .rename_i hf;cases e;obtain⟨a,vs,rfl,hq,rr⟩:=yN s.le r2 hx;obtain⟨e1,f1⟩:=EG r1 hf.1;obtain⟨e2,f2⟩:=X7 rr hf.2;refine .inr ⟨a,vs,rfl,hq,f1,f2,?_⟩;rw[e1,e2,xX];exact k.fz s (.bl _)
  .cases e
 .exact .inl (sS F H σ δ own x y d1 d2 sv Q s r1 r2 e k)
theorem l7:Yz Z (λx y H Q=>(((∃i j,x= .str i/\y= .str j/\Q (.bl (!(!(f6 j i 0 j.length 1).isEmpty))) H)\/Rs x y H Q)\/Mi aC x y H Q)\/rIn K aC x y H Q) Az:=by
 intro F H σ δ own x y d1 d2 sv Q s r1 r2 e k;unfold Az at e;split at e
 .rename_i xs hx;split at e
  .rename_i hf;cases e;obtain⟨a,vs,rfl,hq,rr⟩:=yN s.le r2 hx;obtain⟨e1,f1⟩:=EG r1 hf.1;obtain⟨e2,f2⟩:=X7 rr hf.2;refine .inr ⟨a,vs,rfl,hq,f1,f2,?_⟩;rw[e1,e2,xX];exact k.fz s (.bl _)
  .cases e
 .exact .inl (l8 F H σ δ own x y d1 d2 sv Q s r1 r2 e k)
open Classical in
noncomputable def LN(a:Str)(k:Int):Option SV:=if MulOk a k then aA (.fz (.str (Txt.mul a k)))else aB
theorem nj(h:LN a k=aA sv):MulOk a k/\sv= .fz (.str (Txt.mul a k)):=by
 unfold LN at h;split at h
 .rename_i hm;cases h;exact⟨hm,rfl⟩
 .cases h
def KM(i j:Int):Prop:=NX i j=aC
open Classical in
noncomputable def Sn(i j:Int):Option SV:=if KM i j then aA (.fz (.int (i*j)))else aB
theorem ni(h:Sn i j=aA sv):AD (.int i) (.int j)=aA sv:=by
 unfold Sn at h;split at h
 .rename_i hc;cases h;unfold KM at hc;simp[hc]
 .cases h
theorem qw(h:-(2^64)<j/\j<2^64):Sn i j=aA (.fz (.int (i*j))):=by unfold Sn;rw[f_];unfold KM NX;rw[eB h.1,eB h.2];simp
theorem X8(h:-(2^64)<i/\i<2^64):Sn i j=aA (.fz (.int (i*j))):=by unfold Sn;rw[f_];unfold KM NX;rw[eB h.1,eB h.2];simp
def Nk:D->D->Option SV
 | .str a,.int k=>LN a k
 | .int i,.int j=>Sn i j
 |_,_=>aB
@[simp]theorem i5(a k):Nk (.str a) (.int k)=LN a k:=rfl
@[simp]theorem i4(i j):Nk (.int i) (.int j)=Sn i j:=rfl
theorem qv:Yz Z (λx y H Q=>rI MA (λi j=>V.int (i*j)) x y H Q\/zS x y H Q) Nk:=by
 intro F H σ δ own x y d1 d2 sv Q s r1 r2 e k;unfold Nk at e;split at e
 .obtain⟨hm,rfl⟩:=nj e;exact .inr ⟨_,_,r1.str,r2.int,hm,k.fz s (.str _)⟩
 .exact .inl (rF F H σ δ own x y _ _ sv Q s r1 r2 (ni e) k)
 .cases e
@[simp]noncomputable def X9:List D->Option SV
 | [.int i]=>if i.natAbs.log2<1920 then aA (.fz (.str (toString i)))else aB
 |_=>aB
theorem qu:Bh Z (λxs H Q=>∃i,xs=[.int i]/\i.natAbs.log2<1920/\Q (.str (toString i)) H) X9:=by
 intro F H σ δ own vs ds sv Q s r e k;unfold X9 at e;split at e
 .split at e
  .rename_i hm;cases e;cases r with
   |cons h1 t=>cases t;exact⟨_,by rw[h1.int],hm,k.fz s (.str _)⟩
  .cases e
 .cases e
end
section
variable{X:Cx}{Z:fB X.K}{a b c:c9}{fa fb fc:FE}{pos:Pos}
theorem sN(hu:X.A.units+1<ft)(ha:PE X a (Ze Z fa))(hb:PE X b (Ze Z fb))(hm:‹behindInMarks .In b=aD›):PE X (.Compare a [.In] [b] pos) (Ze Z (Zk inZ fa fb)):=EN (((jv.or (X0 hu)).or j8).or jq) sO ha hb hm
theorem Sq(hu:X.A.units+1<ft)(ha:PE X a (Ze Z fa))(hb:PE X b (Ze Z fb))(hm:‹behindInMarks .NotIn b=aD›):PT X (.Compare a [.NotIn] [b] pos) (Ye Z (Yg (Zk Az fa fb))):=Co (((Ls.or (Iw hu)).or Ng).or Lr) l7 ha hb hm
theorem Nl(ha:PE X a (Ze Z fa))(hb:PE X b (Ze Z fb)):PE X (.BinOp a .Mult b pos) (Ze Z (Zk Nk fa fb)):=P7 (pZ.or nq) qv ha hb
theorem qt{p}(hm:X.mg "str"=aB)(ha:PE X a (Ze Z fa))(hg:‹Gl X "str"›)(he:‹ba [a] X.env=(aD,ig a X.env)::ba [] X.env›)(ZF:‹(gu pos (ba [] X.env)).any (·.1)=aD›):PE X (.Call (.Name "str" p) [a] [] pos) (Ze Z (Y4 X9 (Zc fa Zl))):=
 Rq Lm qu hm boot_str (Zh ha Z3 he) hg (by decide) (by decide) he ZF
end
end
section
variable{K:af}
inductive RX where
 |v (rv:RV) (δ:Yp)|x (e:Exn) (δ:Yp)
abbrev FX:=Yp->Option RX
@[simp]noncomputable def FX.val(f:FX):FE:=λδ=>match f δ with
 |some (.v rv δ')=>aA (rv,δ')
 |_=>aB
section
variable{Z:fB K}
set_option genInjectivity false in
structure HX where
 x:Str
 np:Pos
 nm:Option (Str×Nat)
 b0:Stmt
 suite:List Stmt
 pos:Pos
 B:ao
 yes:List Str
 no:List Str
 f:FS
set_option genInjectivity false in
structure HX.Sub(K:af)(h:HX):Prop where
 yes:∀c∈h.yes,∀C,Px K c C->PySem.W.mroIn K C (.ref h.B)=aA aC
 no:∀c∈h.no,∀C,Px K c C->PySem.W.mroIn K C (.ref h.B)=aA aD
noncomputable def HX.hd(Z:fB K)(h:HX):Hd:=⟨h.x,h.np,h.nm,h.b0,h.suite,h.pos,h.B,Z6 Z h.f⟩
set_option genInjectivity false in
structure HF where
 i:Option Nat
 yes:List Str
 no:List Str
 f:FS
@[simp]noncomputable def HX.hf(h:HX):HF:=⟨h.nm.map (·.2),h.yes,h.no,h.f⟩
@[simp]noncomputable def Fl.but(i:Nat):Fl->Fl
 | .nx δ=>.nx (δ.set i aB)
 | .bk δ=>.bk (δ.set i aB)
 | .ct δ=>.ct (δ.set i aB)
 | .ex e δ=>.ex e (δ.set i aB)
 | .rt sv=>.rt sv
@[simp]noncomputable def Fl.isEx:Fl->Bool
 | .ex _ _=>aC
 |_=>aD
@[simp]def HF.run(h:HF)(x:Exn)(δ:Yp):Option Fl:=match h.i with
 |none=>h.f δ
 |some i=>if i<δ.length then(h.f (δ.set i (aA (.fz (.exc x.c x.ks x.vs))))).bind λfl=>if fl.isEx=aC then aB else aA (fl.but i)else aB
noncomputable abbrev fB.wish(Z:fB K)(EX:EXT):fB K:=⟨Z.h,Z.f,EX⟩
end
end
theorem gY.trackO{σ:L2.St}(I:gY X gR σ H s)(e0:X.s₀.heap.get? a=aB)(eH:H a=aB)(le:a≠X.env.locals)(ce:∀x c,X.env.cells.lookup x=aA c->c≠a)(pe:∀p∈X.pn++gR,p.1≠a)(new:Ym X.prog X.w (Y3 H a o) s.heap a o):gY X gR σ (Y3 H a o) s:=by
 refine⟨I.ok,I.os,I.bare,⟨I.base.keep,I.base.slot,λb o q n hx=>?_,I.base.there,λb xs q=>?_,λb o u q=>?_,λb ps q=>?_⟩,I.loc,I.cell,?_,λx c ec=>?_,λp hp=>?_,λb u q=>?_,I.len⟩
 .rw[Zt (λz=>by rw[z,e0]at q;cases q)];exact I.base.free b o q n hx
 .have:=I.base.tups b xs q;rw[Zt (λz=>by rw[z,eH]at this;cases this)];exact this
 .have:=I.base.frzs b o u q;rw[Zt (λz=>by rw[z,eH]at this;cases this)];exact this
 .obtain⟨m,this⟩:=I.base.tbls b ps q;exact⟨m,by rw[Zt (λz=>by rw[z,eH]at this;cases this)];exact this⟩
 .rw[Zt (Ne.symm le)];exact I.free
 .rw[Zt (ce x c ec)];exact I.freeC x c ec
 .obtain⟨q,n,r⟩:=I.pin p hp;exact⟨q,by rw[Zt (pe p hp)];exact n,r⟩
 .by_cases hb:b=a
  .subst hb;rw[Z2]at q;cases q;exact new
  .rw[Zt hb]at q;exact(I.hok b u q).stay (λc v _ z=>z) (λc z=>by rw[Zt (λy=>by rw[y,eH]at z;cases z)];exact z) (λc xs z=>by rw[Zt (λy=>by rw[y,eH]at z;cases z)];exact z) λc o z=>by rw[Zt (λy=>by rw[y,eH]at z;cases z)];exact z
def yM(SF:List (TE×TE)):TE:=λσ H Q=>Xl SF σ H λps H2=>∃kvs:List (Key×V),ps=kvs.map (λkv=>(kV kv.1,kv.2))/\kvs.length<=15/\∀p ep,H2 p=aB->Q (.ref p) (Y3 H2 p (.dK (Bt [] kvs) ep))
theorem l6(h:PPs X pos keys YV SF)(hall:keys.all (·.isSome)=aC)(hl:keys.length=YV.length)(h0:keys≠[])(uO:keys.length<=15):PE X (.Dict keys YV pos) (yM SF):=by
 intro gR s σ H Q I q;have hn:=I.hok.fresh (bc s.heap.objs.size);have I0:=I.kept (h':=s.heap.push {cls:=.type "dict",data:=.dict #[]}) (t':=s.toks) (λ_ _ q=>aq _ q);have TQ:(s.heap.push {cls:=.type "dict",data:=.dict #[]}).get? s.heap.objs.size=aA {cls:=.type "dict",data:=.dict #[]}:=bo _ rfl;have old:∀b o,s.heap.get? b=aA o->b≠s.heap.objs.size:=λb o z=>cm (bp z);have apart:∀p∈X.pn++gR,p.1≠s.heap.objs.size:=λp hp=>old _ _ (I.pin p hp).1;have OQ:s.heap.objs.size≠X.env.locals:=λz=>Nat.lt_irrefl _ (df (z▸I.lt) (bc _));have HV:∀x c,X.env.cells.lookup x=aA c->c≠s.heap.objs.size:=λx c ec=>by refine Wq (I.cell x c ec) λv o ho _=>?_;exact old _ _ ho
 have UB:X.s₀.heap.get? s.heap.objs.size=aB:=Heap.get?_none_of_le I.sz;have I1:=I0.pins_of (pins':=(s.heap.objs.size,{cls:=.type "dict",data:=.dict #[]})::gR) λp hp=>by
  rcases bj.mp hp with z|z
  .subst z;exact⟨TQ,hn,OQ,I.nofs (bc _),λv z=>nomatch z⟩
  .exact I0.pin p (b7 _ z)
 refine wpAny_Dict_walk (knd:=Zu X.prog X.w) hall hl h0 uO (Wu (h _ _ σ _ _ I1 q) λws s2 ZE=>?_);obtain⟨ps,H2,I2,ZH,kvs,ep,lk,q2⟩:=ZE;subst ep;obtain⟨rs,c,rk⟩:=Ag (P:=X.prog) (w:=X.w) ZH;obtain⟨p1,p2,p3,p4,p5⟩:=I2.pin (s.heap.objs.size,{cls:=.type "dict",data:=.dict #[]}) (b7 _ ac);have JT:Ym X.prog X.w (Y3 H2 s.heap.objs.size (.dK [] 0)) s2.heap s.heap.objs.size (.dK [] 0):=(show Ym X.prog X.w (λ_=>aB) _ _ (.dK [] 0)from Pu s.heap I.big).stay (λb u hb z=>by
  rcases hb with rfl|hb
  .rw[TQ]at z;cases z;exact p1
  .cases hb) (λ_ z=>nomatch z) (λ_ _ z=>nomatch z) λ_ _ z=>nomatch z
 have I3:gY X gR σ (Y3 H2 s.heap.objs.size (.dK [] 0)) s2:=gY.trackO (I2.pins_of (pins':=gR) λp hp=>I2.pin p (b7 _ (ah _ hp))) UB p2 OQ HV apart JT;obtain⟨z,hd,UW,r0,dd⟩:=ES I3.hok ⟨_,(show Y3 H2 s.heap.objs.size (.dK [] 0) s.heap.objs.size=aA (.dK [] 0)from Z2)⟩;cases r0;refine⟨rs,c,dd,λh' V_ hs=>?_⟩;have hz:(Bt [] kvs).length<=sizeLine:=by have h1:=Gs kvs [];rw[List.length_nil]at h1;rw[gz];omega
 have he:∃q,h'.get? s.heap.objs.size=aA q:=let⟨q,_,_,hq,_⟩:=V_;⟨q,hq⟩
 obtain⟨ep,ok⟩:=Xk hz hd (rk.merge .nil) V_;have I4:L2.gY X gR σ (Y3 (Y3 H2 s.heap.objs.size (.dK [] 0)) s.heap.objs.size (.dK (Bt [] kvs) ep)) {s2 with heap:=h',toks:=s2.toks+ws.length}:=Ts I3 (by rw[Z2];exact True.intro) hs he (ok _);rw[lI]at I4;exact⟨.ref s.heap.objs.size,_,I4,rfl,q2 _ ep p2⟩
theorem Ha{K:af}{Z:fB K}(m:∀v H,Q v H->Q' v H)(h:Ze Z f σ H Q):Ze Z f σ H Q':=by refine Yo h λF δ own rv δ' s e k=>?_;exact⟨F,δ,own,rv,δ',s,e,λv H' F' own' a b c d=>m _ _ (k v H' F' own' a b c d)⟩
theorem Kc:∀more acc,((acc++more).map (·.1)).Nodup->Bt acc more=acc++more
 | [],acc,_=>by show acc=acc++[];rw[List.append_nil]
 |p::r,acc,h=>by
  have e:Wy acc p.1 p.2=acc++[p]:=by unfold Wy;rw[fZ];intro z;obtain⟨q,hq,z⟩:=List.any_eq_true.mp z;rw[cu,dh]at h;exact h.2.2 p.1 (av.mpr ⟨q,hq,eC z⟩) p.1 (by simp) rfl
  show Bt (Wy acc p.1 p.2) r=_;rw[e,Kc r (acc++[p]) (by simpa using h)];simp
@[simp]noncomputable def Nm(ss:List Str)(fd:FD):FD:=λδ=>(fd δ).bind λp=>some (ss.map D.str++p.1,p.2)
theorem nh{K}{Z:fB K}:∀ss {R:List V->Hp->Prop},Wz Z (Nm ss fd) σ H R->Wz Z fd σ H λvs H'=>R (ss.map V.str++vs) H'
 |ss,R,h=>by refine Yo h λF δ own ds δ' s e k=>?_;refine fA e λQP δ1 e1 e2=>?_;cases e2;refine⟨F,δ,own,QP,δ1,s,e1,λvs H' F' own' a b c r=>k _ H' F' own' a b c ?_⟩;exact gX.append (strs_rep ss) r
where strs_rep {F:Hp}:∀ss:List Str,gX K F (ss.map D.str) (ss.map V.str)
 | []=>.nil
 |x::r=>.cons (.str x) (strs_rep r)
noncomputable abbrev cst(x:Str×Nat×Pos):Expr:=.Constant (.str x.1) x.2.1 x.2.2
theorem Sr(h:PA X es t):∀l:List (Str×Nat×Pos),PA X (l.map cst++es) λσ H R=>t σ H λvs H'=>R ((l.map λx=>V.str x.1)++vs) H'
 | []=>h
 |x::r=>(Q3 (e:=cst x) (es:=r.map cst++es) Ll (Sr h r) rfl).imp λσ H R q=>q
theorem ng{Z:fB X.K}(l:List (Str×Nat×Pos))(h:PA X es (Wz Z fd)):PA X (l.map cst++es) (Wz Z (Nm (l.map (·.1)) fd)):=
 (Sr h l).imp λσ H R q=>by have:=nh (l.map (·.1)) q;rw[cp]at this;exact this
section
variable{α:Type}{P:List α->Prop}
@[elab_as_elim]theorem of1(h:∀a,P [a])(us)(hl:us.length=1):P us:=by obtain⟨a,e⟩:=List.length_eq_one_iff.mp hl;rw[e];exact h a
theorem ofC(h:∀a us,us.length=n->P (a::us))(us)(hl:us.length=n+1):P us:=by
 cases us with
 |nil=>exact eF hl (by simp)
 |cons a r=>exact h a r (by simpa using hl)
@[elab_as_elim]theorem of2(h:∀a b,P [a,b])(us)(hl:us.length=2):P us:=ofC (λa=>of1 (P:=λus=>P (a::us)) (h a)) us hl
@[elab_as_elim]theorem of3(h:∀a b c,P [a,b,c])(us)(hl:us.length=3):P us:=ofC (λa=>of2 (P:=λus=>P (a::us)) (h a)) us hl
@[elab_as_elim]theorem of4(h:∀a b c d,P [a,b,c,d])(us)(hl:us.length=4):P us:=ofC (λa=>of3 (P:=λus=>P (a::us)) (h a)) us hl
@[elab_as_elim]theorem of5(h:∀a b c d e,P [a,b,c,d,e])(us)(hl:us.length=5):P us:=ofC (λa=>of4 (P:=λus=>P (a::us)) (h a)) us hl
end
theorem A8(hs:(d==sysModules)=aD)(g:s.heap.get? d=aA od)(x:od.ExactDict)(c:od.data= .dict es ep)(k:Q (.ref s.heap.objs.size) {s with heap:=s.heap.push {cls:=.type "dict_keyiterator",data:=.fields #[.ref d,.int 0 0,.int es.size 0,.int ep 0]}}):bi (b9 prog w) A (pyIter (.ref d)) Q E s:=by
 have T:s.TypeIs (.ref d) "dict":=⟨od,g,x.1⟩
 refine wpAny_pyIter_slot T PySem.F.slot_dict_iter (d5 PySem.F.slot_dict_iter T PySem.F.entry_dict_iter (show bi _ _ (Builtin.«dict.__iter__» _) _ _ _ from ?_) (PySem.F.args_dict_iter_1 _));unfold Builtin.«dict.__iter__» Builtin.Dict.dictSlotNone;refine aa (aa (wpAny_notOrdered_dict T (show bi _ _ (pure (ci d)) _ _ s from ad ?_)));show bi _ _ (Builtin.Dict.showsAll d >>=_) _ _ s;unfold Builtin.Dict.showsAll;rw[fZ (by rw[hs];decide)];refine aa (ad (aa (wpAny_dictEntries g c (aa (wpAny_dictEpoch g c (aa (gr (ad ⟨_,rfl,"dict_keyiterator",_,⟨_,bo _ rfl,rfl⟩,ii.lookup,?_⟩))))))));simpa[rawInt]using k
theorem Ea(t:s.heap.IsKeyIter q d i n ep)(g:s.heap.get? d=aA od)(c:od.data= .dict es ep)(hn:es.size=n)(he:es[i]? =aA e)(k:∀h',h'.IsKeyIter q d (i+1) n ep->g6 q s.heap h'->Q (aA e.key) {s with heap:=h'}):bi (b9 prog w) A (pyNext (.ref q)) Q E s:=by
 refine Zn (id t) λo ho hc hd=>?_;have T:=t.typeIs;unfold pyNext;refine aa (wpAny_attempt (g7 (name:="__next__") T ii (d5 ii T PySem.F.entry_dict_keyiterator_next (aa (ad (aa (aa ?_)))) (PySem.F.args_dict_keyiterator_next_1 _))))
 first| (refine aa (wpAny_typeNameOfWhole_keyiter T (ad (aa (wpAny_fieldsOf ho hd ?_)))))| (refine aa (wpAny_typeNameOf_keyiter T (ad (aa (wpAny_fieldsOf ho hd ?_)))))
 have z0:Builtin.Dict_items.ownsTuple "dict_keyiterator"=aD:=rfl;rw[z0];simp only[bq,if_false];show bi _ _ (ite ((ci d==c8)=aC) _ _) _ _ s;rw[fZ (show¬(ci d==c8)=aC from λz=>bv z)];refine aa (ad (aa (wpAny_dictEntries g c ?_)));rw[fZ (by rw[hn];simp)];refine aa (ad (aa (wpAny_dictEpoch g c ?_)));rw[fZ (by simp)];have hi:i<es.size:=(g9.mp he).1;refine ad ?_;simp only[show¬((i:Int)<0) by omega,if_false,Int.toNat_natCast,he];refine aa ?_
 first| (refine aa (wpAny_typeNameOfWhole_keyiter T (ad (aa (wpAny_isOneOf_keyiter T ?_)))))| (refine aa (wpAny_typeNameOf_keyiter T (ad (aa (wpAny_isOneOf_keyiter T ?_)))))
 show bi _ _ (setField (.ref q) 1 (rawInt ((i:Int)+1)) >>=_) _ _ s;refine aa (wpAny_setField ho hd (by simp) ?_);have t':(s.heap.update q (Obj.mapFields (·.setIfInBounds 1 (rawInt ((i:Int)+1))))).IsKeyIter q d (i+1) n ep:=⟨_,Heap.get?_update_self _ ho (Obj.isFreed_of_fields (Obj.data_mapFields hd _)),(Obj.cls_mapFields ..).trans hc,(Obj.data_mapFields hd _).trans (by simp[rawInt])⟩
 refine aa (f9 (aa (wpAny_isOneOf_keyiter (s:={s with heap:=s.heap.update q (Obj.mapFields (·.setIfInBounds 1 (rawInt ((i:Int)+1))))}) t'.typeIs (show bi _ _ (pure e.key) _ _ _ from ad (ad ⟨_,rfl,ad (k _ t' (Heap.SameBut.update ..))⟩)))))
theorem Eb(hh:A.handled=aB)(t:s.heap.IsKeyIter q d i n ep)(g:s.heap.get? d=aA od)(c:od.data= .dict es ep)(hn:es.size=n)(hi:n<=i)(k:∀h',Heap.ExtBut q s.heap h'->Q aB {s with heap:=h'}):bi (b9 prog w) A (pyNext (.ref q)) Q E s:=by
 refine Zn (id t) λo ho hc hd=>?_;have T:=t.typeIs;unfold pyNext;refine aa (wpAny_attempt (g7 (name:="__next__") T ii (d5 ii T PySem.F.entry_dict_keyiterator_next (aa (ad (aa (aa ?_)))) (PySem.F.args_dict_keyiterator_next_1 _))))
 first| (refine aa (wpAny_typeNameOfWhole_keyiter T (ad (aa (wpAny_fieldsOf ho hd ?_)))))| (refine aa (wpAny_typeNameOf_keyiter T (ad (aa (wpAny_fieldsOf ho hd ?_)))))
 have z0:Builtin.Dict_items.ownsTuple "dict_keyiterator"=aD:=rfl;rw[z0];simp only[bq,if_false];show bi _ _ (ite ((ci d==c8)=aC) _ _) _ _ s;rw[fZ (show¬(ci d==c8)=aC from λz=>bv z)];refine aa (ad (aa (wpAny_dictEntries g c ?_)));rw[fZ (by rw[hn];simp)];refine aa (ad (aa (wpAny_dictEpoch g c ?_)));rw[fZ (by simp)];have he:es[i]? =aB:=Array.getElem?_eq_none (by omega);refine ad ?_;simp only[show¬((i:Int)<0) by omega,if_false,Int.toNat_natCast,he];refine aa ?_
 first| (refine aa (wpAny_typeNameOfWhole_keyiter T (ad ?_)))| (refine aa (wpAny_typeNameOf_keyiter T (ad ?_)))
 show bi _ _ (setField (.ref q) 0 c8 >>=_) _ _ s;refine aa (wpAny_setField ho hd (by simp) (show bi _ _ (newExc (.type "StopIteration") [] >>=_) _ _ _ from aa ?_));simp only[newExc,newTuple];refine aa (gr (aa (m:=firstArgMember _ _) (wpAny_of_eq (a:=c8) (by first|rfl| (simp only[firstArgMember];rfl)) (gr ?_ (by size_fits)))) (by size_fits));simp only[raiseNew];refine aa (wpAny_handled ?_);rw[show A.in1.handled=Option.none from hh];refine aa (ad (wpAny_throw ?_));refine aa (io (T:="StopIteration") (b:=aC) (by exact⟨_,bo _ rfl,rfl⟩) isSubtype_stop ?_);exact ad (k _ (((Heap.SameBut.update ..).extBut.push _).push _))
theorem xW(h:(Zu P w).is k u=aC):Zv (kV k) u:=by
 rcases Z9 h with⟨i,t,rfl,rfl⟩|⟨x,t,rfl,rfl⟩
 .exact⟨t,rfl⟩
 .exact⟨t,rfl⟩
noncomputable def Itk(a:ao)(n ep:Nat):It:=
 ⟨λi H=>∃kvs,H a=aA (.dK kvs ep)/\kvs.length=n/\i<n,λi H x H'=>H'=H/\∃kvs kv,H a=aA (.dK kvs ep)/\kvs[i]? =aA kv/\x=kV kv.1,λi H=>∃kvs,H a=aA (.dK kvs ep)/\kvs.length=n/\n<=i⟩
noncomputable def Itd(a:ao)(n ep:Nat):It:=
 ⟨λi H=>∃kvs bs,H a=aA (.dT kvs ep bs)/\kvs.length=n/\i<n,λi H x H'=>H'=H/\∃kvs bs b,H a=aA (.dT kvs ep bs)/\bs[i]? =aA b/\x= .ref b,λi H=>∃kvs bs,H a=aA (.dT kvs ep bs)/\kvs.length=n/\n<=i⟩
theorem Nn{h h':f8}(t:h.IsKeyIter q d i n ep)(k:∀o,h.get? q=aA o->h'.get? q=aA o):h'.IsKeyIter q d i n ep:=let⟨o,e,r⟩:=t;⟨o,k o e,r⟩
theorem l5(h:Pairs (Zu P w) es vs){i:Nat}(hi:vs[i]? =aA kv):∃e,es[i]? =aA e/\(Zu P w).is kv.1 e.key=aC:=by
 induction h generalizing i with
 |nil=>simp at hi
 | @cons e0 kv0 es0 SW h1 h2 _ ih=>
  cases i with
  |zero=>simp at hi;subst hi;exact⟨e0,by simp,h1⟩
  |succ j=>obtain⟨e,a1,a2⟩:=ih (i:=j) (by simpa using hi);exact⟨e,by simpa using a1,a2⟩
theorem Mj(h:Pairs (Zu P w) es vs):es.length=vs.length:=by
 induction h with
 |nil=>rfl
 |cons _ _ _ ih=>rw[aw,aw,ih]
theorem Ux{l:List α}{m:List β}(h:Paired R l m):∀{i:Nat} {x:α},l[i]? =aA x->∃y,m[i]? =aA y/\R x y:=by
 induction h with
 |nil=>intro i x hi;simp at hi
 | @cons a b as bs h1 t ih=>
  intro i x hi;cases i with
  |zero=>simp at hi;subst hi;exact⟨b,by simp,h1⟩
  |succ j=>obtain⟨y,a1,a2⟩:=ih (i:=j) (by simpa using hi);exact⟨y,by simpa using a1,a2⟩
theorem Bz{P:b8}{w:dq}{K:af}{tg:c9}(a it:ao)(n ep:Nat):Turn P w K tg (Itk a n ep) [it] it (λi h=>h.IsKeyIter it a i n ep)where
 mem:=ac
 obj:=λi h st b hb=>by obtain rfl:=ar.mp hb;refine Zn st λo e c d=>?_;exact⟨o,e,λv z=>by rw[d]at z;cases z⟩
 keep:=λi h h' st k=>Nn st λo e=>k it ac o e
 item:=by
  intro X hP hw hK hc i gR s σ H E I hf st hg;subst hP hw hK;refine Zn hg λkvs hq hn hi=>?_;obtain⟨z,hd,vs,ZH,od,es,g,x,c,ko,pr,nd⟩:=(show Ym X.prog X.w H s.heap a (.dK kvs ep)from I.hok a _ hq)
  refine W0 (hf it ac) λf0 f1 f2 f3 f4 f5=>?_;have TU:kvs[i]? =aA (kvs[i]'(by omega)):=au (by omega);obtain⟨vv,hv,hr⟩:=Ux ZH TU;obtain⟨e,he,HE⟩:=l5 pr hv;have hz:es.size=n:=by rw[<-bf,Mj pr,<-Paired.length ZH,hn]
  refine Ea st g c hz (e:=e) (by rw[<-de];exact he) λh' YC sb=>?_;have I1:gY X gR σ H {s with heap:=h'}:=I.turned (t':=s.toks) (λb o hb e=>(sb.2 b hb).trans e) f0 f1 f3 f4 f5;refine Zn (id YC) λo e1 c1 d1=>?_;exact⟨e.key,rfl,T9 (s:={s with heap:=h'}) e1 c1 d1 (by decide) ⟨kV (kvs[i]'(by omega)).1,H,I1,xW (by rw[hr.1];exact HE),⟨rfl,kvs,_,hq,TU,rfl⟩,YC,λb hb=>(hf b hb).1⟩⟩
 done:=by
  intro X hP hw hK hc i gR s σ H E I hf st hg;subst hP hw hK;refine Zn hg λkvs hq hn hi=>?_;obtain⟨z,hd,vs,ZH,od,es,g,x,c,ko,pr,nd⟩:=(show Ym X.prog X.w H s.heap a (.dK kvs ep)from I.hok a _ hq)
  refine W0 (hf it ac) λf0 f1 f2 f3 f4 f5=>?_;have hz:es.size=n:=by rw[<-bf,Mj pr,<-Paired.length ZH,hn]
  exact Eb (I.ok.hd hc) st g c hz hi λh' eb=>⟨rfl,I.turned (t':=s.toks) (λb o hb e=>eb b o hb e) f0 f1 f3 f4 f5⟩
 self:=λ_ _ s _ _ st h=>by exact wpAny_pyIter_slot st.typeIs PySem.F.slot_dict_keyiterator_iter (d5 PySem.F.slot_dict_keyiterator_iter st.typeIs PySem.F.entry_dict_keyiterator_iter (by exact ad ⟨_,rfl,"dict_keyiterator",_,st.typeIs,ii.lookup,h⟩) (PySem.F.args_dict_keyiterator_iter_1 _))
theorem nc{P:b8}{w:dq}{K:af}{tg:c9}(a it:ao)(n ep:Nat):Turn P w K tg (Itd a n ep) [it] it (λi h=>h.IsKeyIter it a i n ep)where
 mem:=ac
 obj:=(Bz (P:=P) (w:=w) (K:=K) (tg:=tg) a it n ep).obj
 keep:=(Bz (P:=P) (w:=w) (K:=K) (tg:=tg) a it n ep).keep
 item:=by
  intro X hP hw hK hc i gR s σ H E I hf st hg;subst hP hw hK;refine Ya hg λkvs bs hq hn hi=>?_;obtain⟨z,hd,xs,ZH,od,es,g,x,c,en,nd,VX⟩:=(show Ym X.prog X.w H s.heap a (.dT kvs ep bs)from I.hok a _ hq)
  refine W0 (hf it ac) λf0 f1 f2 f3 f4 f5=>?_;have TU:kvs[i]? =aA (kvs[i]'(by omega)):=au (by omega);obtain⟨vv,hv,hr⟩:=Ux ZH TU;have hz:es.size=n:=by rw[<-bf,en,aj,<-Paired.length ZH,hn]
  have he:es[i]? =aA (entryOfKey (tupleKind (Zu X.prog X.w)) vv):=by rw[<-de,en,ay,hv];rfl
  refine Ea st g c hz he λh' YC sb=>?_;have I1:gY X gR σ H {s with heap:=h'}:=I.turned (t':=s.toks) (λb o hb e=>(sb.2 b hb).trans e) f0 f1 f3 f4 f5;refine Zn (id YC) λo e1 c1 d1=>?_;exact⟨.ref vv.2.1,rfl,T9 (s:={s with heap:=h'}) e1 c1 d1 (by decide) ⟨.ref vv.2.1,H,I1,rfl,⟨rfl,kvs,bs,vv.2.1,hq,by rw[<-VX,ay,hv];rfl,rfl⟩,YC,λb hb=>(hf b hb).1⟩⟩
 done:=by
  intro X hP hw hK hc i gR s σ H E I hf st hg;subst hP hw hK;refine Ya hg λkvs bs hq hn hi=>?_;obtain⟨z,hd,xs,ZH,od,es,g,x,c,en,nd,VX⟩:=(show Ym X.prog X.w H s.heap a (.dT kvs ep bs)from I.hok a _ hq)
  refine W0 (hf it ac) λf0 f1 f2 f3 f4 f5=>?_;have hz:es.size=n:=by rw[<-bf,en,aj,<-Paired.length ZH,hn]
  exact Eb (I.ok.hd hc) st g c hz hi λh' eb=>⟨rfl,I.turned (t':=s.toks) (λb o hb e=>eb b o hb e) f0 f1 f3 f4 f5⟩
 self:=(Bz (P:=P) (w:=w) (K:=K) (tg:=tg) a it n ep).self
def BR(tl:TE):TI:=λσ H R=>tl σ H λx H1=>(∃a kvs ep,x= .ref a/\H1 a=aA (.dK kvs ep)/\R (Itk a kvs.length ep) H1)\/(∃a kvs ep bs,x= .ref a/\H1 a=aA (.dT kvs ep bs)/\R (Itd a kvs.length ep) H1)
theorem qr(hl:PE X l tl):PI X tg l (BR tl):=by
 intro gR s σ H R I h;refine Wu (hl gR s σ H _ I h) λv s1 ZE=>?_;obtain⟨x,H1,I1,r1,q1⟩:=ZE;rcases q1 with⟨a,kvs,ep,rfl,hq,q⟩|⟨a,kvs,ep,bs,rfl,hq,q⟩
 .cases r1;obtain⟨z,hd,vs,ZH,od,es,g,x,c,ko,pr,nd⟩:=(show Ym X.prog X.w H1 s1.heap a (.dK kvs ep)from I1.hok a _ hq)
  have hz:es.size=kvs.length:=by rw[<-bf,Mj pr,<-Paired.length ZH]
  refine A8 hd g x c ⟨s1.heap.objs.size,[s1.heap.objs.size],_,_,H1,rfl,I1.kept (t':=s1.toks) λb o e=>aq _ e,Bz a _ kvs.length ep,⟨_,bo _ rfl,rfl,by rw[hz];rfl⟩,λb hb=>?_,q⟩;obtain rfl:=ar.mp hb;exact I1.fpOk (bc _) (I1.hok.fresh (bc _))
 .cases r1;obtain⟨z,hd,xs,ZH,od,es,g,x,c,en,nd,VX⟩:=(show Ym X.prog X.w H1 s1.heap a (.dT kvs ep bs)from I1.hok a _ hq)
  have hz:es.size=kvs.length:=by rw[<-bf,en,aj,<-Paired.length ZH]
  refine A8 hd g x c ⟨s1.heap.objs.size,[s1.heap.objs.size],_,_,H1,rfl,I1.kept (t':=s1.toks) λb o e=>aq _ e,nc a _ kvs.length ep,⟨_,bo _ rfl,rfl,by rw[hz];rfl⟩,λb hb=>?_,q⟩;obtain rfl:=ar.mp hb;exact I1.fpOk (bc _) (I1.hok.fresh (bc _))
section
variable{K:af}
@[simp]noncomputable def Bi:Key->D
 | .inl i=>.int i
 | .inr x=>.str x
theorem Ec(k):fE K F (Bi k) (kV k):=by
 cases k with
 |inl i=>exact .int i
 |inr x=>exact .str x
theorem Mk:∀k:List Key,gX K F (k.map Bi) (k.map kV)
 | []=>.nil
 |k::r=>.cons (Ec k) (Mk r)
theorem j6(h:F a=aA (.dK kvs ep)):Oz K (Itk a kvs.length ep) F ((kvs.map (·.1)).map Bi):=λF' H sF sH i=>by have q:H a=aA (.dK kvs ep):=sH _ _ (sF _ _ h);refine⟨λd hd=>?_,λhl=>⟨kvs,q,rfl,by simpa using hl⟩⟩;rw[cp,ay]at hd;obtain⟨kv,h1,h2⟩:=cz.mp hd;refine⟨⟨kvs,q,rfl,(az.mp h1).1⟩,λx H' ⟨e1,kvs',kv',e2,e3,e4⟩=>?_⟩;subst e1;rw[q]at e2;cases e2;rw[h1]at e3;cases e3;subst e4;rw[<-h2];exact⟨Zj.refl _,[],c6,λ_ h=>(nomatch h),Ec _⟩
theorem j5(h:F a=aA (.dT kvs ep bs))(kb:KB F kvs bs):Oz K (Itd a kvs.length ep) F ((kvs.map (·.1)).map λk=>D.tup (k.map Bi)):=λF' H sF sH i=>by have q:H a=aA (.dT kvs ep bs):=sH _ _ (sF _ _ h);refine⟨λd hd=>?_,λhl=>⟨kvs,bs,q,rfl,by simpa using hl⟩⟩;rw[cp,ay]at hd;obtain⟨kv,h1,h2⟩:=cz.mp hd;refine⟨⟨kvs,bs,q,rfl,(az.mp h1).1⟩,λx H' ⟨e1,kvs',bs',b,e2,e3,e4⟩=>?_⟩;subst e1;rw[q]at e2;cases e2;subst e4;obtain⟨b',g1,g2⟩:=Ux (kb.mono sF) h1;rw[e3]at g1;cases g1;rw[<-h2];exact⟨Zj.refl _,[],c6,λ_ h=>(nomatch h),.tup g2 (Mk _)⟩
@[simp]def Hb(fe:FE):FD:=λδ=>(fe δ).bind λp=>(frz p.1 p.2).bind λq=>match q.1 with
 | .dK ks _=>aA (ks.map Bi,q.2)
 | .dT ks _=>aA (ks.map λk=>D.tup (k.map Bi),q.2)
 |_=>aB
theorem qo{Z:fB K}(h:Qc Z (Hb fe) σ H R):BR (Ze Z fe) σ H R:=by
 refine Yo h λF δ own ds δ' s e k=>?_;refine fA e λrv δ1 e1 e2=>?_;refine fA e2 λd δ2 e3 e4=>?_;refine⟨F,δ,own,rv,δ1,s,e1,λv H1 F1 own1 sH sF s1 r1=>?_⟩;refine Zn (s1.settleR r1) λF2 ZG s2 r2=>?_;refine Ya (s2.frzR r2 e3) λF3 ZI ZS s3 r3=>?_;dsimp only at e4;split at e4
 .cases e4;cases r3 with
  |dK h e r=>subst e;exact .inl ⟨_,_,_,rfl,s3.le _ _ h,k _ H1 F3 ZI sH (sF.trans (ZG.trans ZS)) s3 (j6 h)⟩
 .cases e4;cases r3 with
  |dT h kb e r=>subst e;exact .inr ⟨_,_,_,_,rfl,s3.le _ _ h,k _ H1 F3 ZI sH (sF.trans (ZG.trans ZS)) s3 (j5 h kb)⟩
 .cases e4
theorem EF{Z:fB X.K}(ha:PE X a (Ze Z fa)):PI X tg a (Qc Z (Hb fa)):=λgR s σ H R I h=>qr ha gR s σ H R I (qo h)
end
@[simp]def inW(d1 d2:D):Option SV:=match d2.seq? with
 |some xs=>if d1.isFlat=aC/\xs.all D.isFlat=aC then aA (.fz (.bl (NV d1 xs)))else aB
 |none=>inD d1 d2
theorem SR.drop{K:af}{Z:fB K}(i)(s:SR Z F H σ δ own):SR Z F H σ (δ.set i aB) (put own i []):=by
 refine⟨s.le,s.fro,s.old,by rw[im];exact s.len,λj sv e=>?_,λj=>?_,λj p hp=>?_,λj k p q X' hp hq=>?_⟩
 .by_cases hj:j=i
  .subst hj;rw[List.getElem?_set]at e;rw[f_ rfl]at e;split at e
   .cases e
   .cases e
  .rw[d6 (Ne.symm hj)]at e;rw[Yn hj];exact s.at' j sv e
 .by_cases hj:j=i
  .subst hj;rw[Yb];exact c6
  .rw[Yn hj];exact s.nod j
 .by_cases hj:j=i
  .subst hj;rw[Yb]at hp;exact nomatch hp
  .rw[Yn hj]at hp;exact s.ok j p hp
 .by_cases hj:j=i
  .subst hj;rw[Yb]at hp;exact nomatch hp
  .by_cases hk:k=i
   .subst hk;rw[Yb]at hq;exact nomatch hq
   .rw[Yn hj]at hp;rw[Yn hk]at hq;exact s.sep j k p q X' hp hq
theorem KL{X:Cx}{pos:Pos}(i)(hN:‹X.N[i]? =aA x›)(hv:‹V7 X.env.scope x›)(hd:‹(x==("__debug__":Str))=aD›)(ZT:‹(x==("__classdict__":Str))=aD›):PE X (.Name x pos) (Cd i):=U0 hN hv hd ZT
theorem Ss:∀{xs ys:List Str},xs.map V.str=ys.map V.str->xs=ys
 | [],[],_=>rfl
 | [],_::_,h=>by simp at h
 |_::_,[],h=>by simp at h
 |x::xs,y::ys,h=>by simp only[ax,List.cons.injEq]at h;obtain⟨h1,h2⟩:=h;cases h1;rw[Ss h2]
theorem Su:∀{xs:List V} {gU:List ag},xs.length=gU.length->(∀(j:Nat) x v,xs[j]? =aA x->gU[j]? =aA v->Zv x v)->Z1 xs gU
 | [],[],_,_=>.nil
 |x::xs,v::gU,h,g=>.cons (g 0 x v rfl rfl) (Su (by simpa using h) λj x v a b=>g (j+1) x v (by simpa using a) (by simpa using b))
 | [],_::_,h,_=>nomatch h
 |_::_,[],h,_=>nomatch h
def yL:List V->Hp->VK->Prop:=λxs H Q=>∃p kvs,xs=[.ref p]/\RdK H p kvs/\∀l,H l=aB->Q (.ref l) (Y3 H l (.lst (kvs.map λkv=>kV kv.1)))
theorem Ed(hc:X.calm=aC):Je X (.type "list") yL:=by
 intro gR s σ H xs us Q I r h;obtain⟨p,kvs,rfl,⟨ep,e⟩,q⟩:=h;obtain⟨u,rfl,rx⟩:=Bf r;cases rx;obtain⟨z,hd,vs,ZH,dd⟩:=(show Ym X.prog X.w H s.heap p (.dK kvs ep)from ET I.hok e)
 have hl:vs.length=kvs.length:=(Paired.length ZH).symm;refine PySem.W.kdl_call (PySem.W.kdl_dict (knd:=Zu X.prog X.w) (kvs:=vs) (ep:=ep) hd) (I.ok.hd hc) dd (by rw[hl];exact z) λh' tk NQ c' hk hD WF=>?_;have hv:Z1 (kvs.map λkv=>kV kv.1) NQ.toList:=by refine Su ((aj _).trans (hl.symm.trans (WF.1.symm.trans (bf).symm))) λj x v hx hv=>?_;obtain⟨k,y,e1,e2⟩:=WF.2 j v (by rw[<-de];exact hv);rw[ay]at hx;obtain⟨kv,e3,e4⟩:=cz.mp hx;refine Zn (Ux ZH e3) λq' e5 e6 _=>?_;rw[e5]at e1;cases e1;rw[<-e4,e6];exact xW e2
 exact⟨.ref s.heap.objs.size,_,I.laid (t':=tk) hk (bc _) (show Ym X.prog X.w _ h' _ (.lst (kvs.map λkv=>kV kv.1))from⟨by rw[aj];exact z,NQ.toList,c',hv,by simpa using hD⟩),rfl,q _ (I.hok.fresh (bc _))⟩
section
variable{K:af}
noncomputable def Kd:List D->Option SV
 | [.dK ks _]=>aA (.ol (ks.map Bi))
 |_=>aB
@[simp]theorem h_(ks vs):Kd [.dK ks vs]=some (.ol (ks.map Bi)):=rfl
theorem qm{Z:fB K}:Bh Z yL Kd:=by
 intro F H σ δ own vs ds sv Q s r e k;unfold Kd at e;split at e
 .cases e;cases r with
  |cons h t=>
   cases t;obtain⟨a,kvs,rfl,ha,ek,rr⟩:=h.dK s.le;refine⟨a,kvs,rfl,ha.rd,λl hl=>?_⟩;rw[<-ek]at k;have hr:=Mk (K:=K) (F:=F) (kvs.map (·.1));have hr:gX K F ((kvs.map (·.1)).map Bi) (kvs.map λkv=>kV kv.1):=by rw[cp (g:=kV)]at hr;exact hr
   exact k.one s (.ol hr) hl
 .cases e
section
variable{X:Cx}{Z:fB X.K}{a b c:c9}{fa fb fc:FE}{pos:Pos}
theorem yK{p}(hc:X.calm=aC)(hm:X.mg "list"=aB)(ha:PE X a (Ze Z fa))(hg:‹Gl X "list"›)(he:‹ba [a] X.env=(aD,ig a X.env)::ba [] X.env›)(ZF:‹(gu pos (ba [] X.env)).any (·.1)=aD›):PE X (.Call (.Name "list" p) [a] [] pos) (Ze Z (Y4 Kd (Zc fa Zl))):=
 Rq (Ed hc) qm hm boot_list (Zh ha Z3 he) hg (by decide) (by decide) he ZF
end
end
section
variable{K:af}
open Classical in
def res(S:ao->Prop)(F:Hp):Hp:=λb=>if S b then F b else aB
theorem lz:Zj (res S F) F:=λb o e=>by
 unfold res at e;split at e
 .exact e
 .cases e
theorem Hc(hb:S b)(h:F b=aA o):res S F b=aA o:=by unfold res;rw[f_ hb];exact h
theorem Np(h:∀b,S b->S' b):Zj (res S F) (res S' F):=λb o e=>by
 unfold res at e;split at e
 .rename_i hb;exact Hc (h b hb) e
 .cases e
theorem ql(e:res S F b=aA o):S b/\F b=aA o:=by
 unfold res at e;split at e
 .rename_i hb;exact⟨hb,e⟩
 .cases e
inductive PlD:D->Prop where
 |non:PlD .non
 |bl (b:Bool):PlD (.bl b)
 |int (i:Int):PlD (.int i)
 |str (x:Str):PlD (.str x)
 |tup {xs:List D} (h:∀d∈xs,PlD d):PlD (.tup xs)
 |lst {xs:List D} (h:∀d∈xs,PlD d):PlD (.lst xs)
theorem Tv:∀{ds:List D} {vs:List V},(∀d∈ds,∀v,fE K F d v->∃S,fE K (res S F) d v/\∀b,S b->∀kvs ep,F b≠aA (.dK kvs ep))->gX K F ds vs->∃S,gX K (res S F) ds vs/\∀b,S b->∀kvs ep,F b≠aA (.dK kvs ep)
 |_,_,_,.nil=>⟨λ_=>False,.nil,λ_ z=>z.elim⟩
 |d::ds,_,h,.cons r t=>by obtain⟨S1,r1,n1⟩:=h d ac _ r;obtain⟨S2,r2,n2⟩:=Tv (λe he=>h e (ah _ he)) t;exact⟨λb=>S1 b\/S2 b,.cons (r1.mono (Np λ_ z=>.inl z)) (r2.mono (Np λ_ z=>.inr z)),λb z=>z.elim (n1 b) (n2 b)⟩
theorem qk(h:PlD d):∀v,fE K F d v->∃S,fE K (res S F) d v/\∀b,S b->∀kvs ep,F b≠aA (.dK kvs ep):=by
 induction h with
 |non=>intro v r;cases r;exact⟨λ_=>False,.non,λ_ z=>z.elim⟩
 |bl b=>intro v r;cases r;exact⟨λ_=>False,.bl _,λ_ z=>z.elim⟩
 |int b=>intro v r;cases r;exact⟨λ_=>False,.int _,λ_ z=>z.elim⟩
 |str b=>intro v r;cases r;exact⟨λ_=>False,.str _,λ_ z=>z.elim⟩
 | @tup xs h ih=>
  intro v r;cases r with
  | @tup a _ vs ha r=>
   obtain⟨S,r1,n1⟩:=Tv ih r;refine⟨λb=>b=a\/S b,.tup (Hc (.inl rfl) ha) (r1.mono (Np λ_ z=>.inr z)),λb z kvs ep e=>?_⟩;rcases z with z|z
   .subst z;rw[ha]at e;cases e
   .exact n1 b z kvs ep e
 | @lst xs h ih=>
  intro v r;cases r with
  | @lst a _ vs hq o r=>
   obtain⟨S,r1,n1⟩:=Tv ih r;have up:Zj (res S F) (res (λb=>(b=a/\∀kvs ep,F b≠aA (.dK kvs ep))\/S b) F):=Np λ_ z=>.inr z;have at':∀ob,F a=aA ob->(∀kvs ep,ob≠.dK kvs ep)->res (λb=>(b=a/\∀kvs ep,F b≠aA (.dK kvs ep))\/S b) F a=aA ob:=λob e n=>Hc (.inl ⟨rfl,λkvs ep z=>n kvs ep (by rw[e]at z;exact dg.inj z)⟩) e;refine⟨λb=>(b=a/\∀kvs ep,F b≠aA (.dK kvs ep))\/S b,.lst ?_ ?_ (r1.mono up),λb z=>z.elim (·.2) (n1 b)⟩
   .rcases hq with(hq|⟨o',hq⟩)|hq
    .exact .inl (.inl (at' _ hq λ_ _ z=>nomatch z))
    .exact .inl (.inr ⟨o',at' _ hq λ_ _ z=>nomatch z⟩)
    .exact .inr hq
   .exact o.imp (λo=>at' _ o λ_ _ z=>nomatch z) id
def SkD(ks:List Key)(m:Nat)(d:D):Prop:=∃vs,d= .dK ks vs/\ks.length=vs.length/\∀v∈vs,∃(x:Str) (SX:List Key) (ys:List Str),v= .tup [.str x,.dK SX (ys.map D.str)]/\ys.length<=m
def Tk(W:ao->Prop)(B H:Hp)(ks:List Key)(m:Nat)(v:V):Prop:=∃a kvs ep,v= .ref a/\W a/\H a=aA (.dK kvs ep)/\kvs.map (·.1)=ks/\∀p∈kvs,∃t x b ZM WH,p.2= .ref t/\(W t\/B t=aA (.tup [.str x,.ref b]))/\H t=aA (.tup [.str x,.ref b])/\W b/\H b=aA (.dK ZM WH)/\ZM.length<=m/\∀q∈ZM,∃y,q.2= .str y
theorem Tk.mono(s:Zj H H')(h:Tk W B H ks m v):Tk W B H' ks m v:=by obtain⟨a,kvs,ep,e1,w,e2,e3,h⟩:=h;refine⟨a,kvs,ep,e1,w,s _ _ e2,e3,λp hp=>?_⟩;obtain⟨t,x,b,ZM,WH,q1,q2,q3,q4,q5,q6⟩:=h p hp;exact⟨t,x,b,ZM,WH,q1,q2,s _ _ q3,q4,s _ _ q5,q6⟩
theorem Ke:∀{ys:List Str} {vs:List V},gX K F (ys.map D.str) vs->vs=ys.map V.str
 | [],_,h=>by cases h;rfl
 |y::ys,_,h=>by
  cases h with
  |cons h t=>cases h;rw[Ke t];rfl
theorem Ee:∀(ys:List Str),gX K F (ys.map D.str) (ys.map V.str)
 | []=>.nil
 |y::ys=>.cons (.str y) (Ee ys)
theorem gX.memV:∀{ds:List D} {vs:List V} {v:V},gX K F ds vs->v∈vs->∃d∈ds,fE K F d v
 |_,_,_,.nil,h=>nomatch h
 |_,_,_,.cons r t,h=>by
  rcases bj.mp h with e|e
  .subst e;exact⟨_,ac,r⟩
  .obtain⟨d,hd,q⟩:=t.memV e;exact⟨d,ah _ hd,q⟩
theorem nZ(le:Zj F H)(wd:∀b kvs ep,F b=aA (.dK kvs ep)->W b)(wt:∀b o,F b=aA o->W b\/B b=aA o)(h:SkD ks m d)(r:fE K F d v):Tk W B H ks m v:=by
 obtain⟨vs,rfl,_,hv⟩:=h;cases r with
 | @dK a _ _ kvs ep ha e r=>
  refine⟨a,kvs,ep,rfl,wd _ _ _ ha,le _ _ ha,e,λp hp=>?_⟩;obtain⟨d,hd,rd⟩:=r.memV (av.mpr ⟨p,hp,rfl⟩);obtain⟨x,SX,ys,rfl,hl⟩:=hv d hd;generalize hq:p.2=q at rd;cases rd with
  | @tup t _ us ht ru=>
   cases ru with
   |cons r1 ru=>
    cases ru with
    |cons r2 ru=>
     cases ru;cases r1;cases r2 with
     | @dK b _ _ ZM WH hb e2 r3=>
      have z:=Ke r3;refine⟨t,x,b,ZM,WH,rfl,wt _ _ ht,le _ _ ht,wd _ _ _ hb,le _ _ hb,?_,λq hq=>?_⟩
      .have:=congrArg List.length z;rw[aj,aj]at this;omega
      .have:q.2∈ys.map V.str:=by rw[<-z];exact av.mpr ⟨q,hq,rfl⟩
       obtain⟨y,_,e⟩:=av.mp this;exact⟨y,e.symm⟩
theorem Tk.rep(h:Tk W B H ks m v)(hG:∀b o,W b->H b=aA o->G b=aA o)(hB:∀b o,B b=aA o->G b=aA o):∃d,SkD ks m d/\fE K G d v:=by
 obtain⟨a,kvs,ep,rfl,w,e2,e3,h⟩:=h;have go:∀l:List (Key×V),(∀p∈l,p∈kvs)->∃vs,gX K G vs (l.map (·.2))/\∀v∈vs,∃(x:Str) (SX:List Key) (ys:List Str),v=D.tup [.str x,.dK SX (ys.map D.str)]/\ys.length<=m:=by
  intro l;induction l with
  |nil=>exact λ_=>⟨[],.nil,λ_ h=>nomatch h⟩
  |cons p l ih=>
   intro hl;obtain⟨vs,r,hv⟩:=ih λq hq=>hl q (ah _ hq);obtain⟨t,x,b,ZM,WH,q1,q2,q3,q4,q5,q6,q7⟩:=h p (hl p ac);have hy:∃ys:List Str,ZM.map (·.2)=ys.map V.str/\ys.length=ZM.length:=by
    clear q5 q6;induction ZM with
    |nil=>exact⟨[],rfl,rfl⟩
    |cons q r ih2=>obtain⟨y,e⟩:=q7 q ac;obtain⟨ys,e1,e2⟩:=ih2 λz hz=>q7 z (ah _ hz);exact⟨y::ys,by rw[ax,e,e1];rfl,by rw[aw,e2];rfl⟩
   obtain⟨ys,e1,e2⟩:=hy;refine⟨.tup [.str x,.dK (ZM.map (·.1)) (ys.map D.str)]::vs,?_,λv YQ=>?_⟩
   .rw[ax,q1];refine .cons (.tup (q2.elim (λz=>hG _ _ z q3) (hB _ _)) (.cons (.str x) (.cons (.dK (hG _ _ q4 q5) rfl ?_) .nil))) r;rw[e1];exact Ee ys
   .rcases bj.mp YQ with z|z
    .exact⟨x,_,ys,z,by omega⟩
    .exact hv v z
 obtain⟨vs,r,hv⟩:=go kvs λ_ h=>h;exact⟨.dK ks vs,⟨vs,rfl,by rw[<-e3,aj,r.length,aj],hv⟩,.dK (hG _ _ w e2) e3 r⟩
theorem ly{k:Key}(h:k∈kvs.map (·.1)):∃p∈kvs,Qz kvs k=aA p.2:=by
 induction kvs with
 |nil=>exact nomatch h
 |cons p r ih=>
  by_cases e:p.1=k
  .exact⟨p,ac,U3 e⟩
  .obtain⟨q,hq,z⟩:=ih (by
    rw[ax]at h;rcases bj.mp h with y|y
    .exact eF y.symm e
    .exact y)
   exact⟨q,ah _ hq,by rw[Jt e];exact z⟩
theorem lx{k:Key}:(Wy kvs k v).length<=kvs.length+1:=by
 unfold Wy;split
 .rw[aj];omega
 .rw[bg];simp
theorem lw{k:Key}(h:∀q∈kvs,∃y,q.2=V.str y):∀q∈Wy kvs k (.str x),∃y,q.2=V.str y:=by
 unfold Wy;split
 .intro q hq;obtain⟨r,hr,e⟩:=av.mp hq;split at e
  .subst e;exact⟨x,rfl⟩
  .subst e;exact h _ hr
 .intro q hq;rcases bz.mp hq with z|z
  .exact h q z
  .obtain rfl:=ar.mp z;exact⟨x,rfl⟩
theorem Tk.way(h:Tk W B H ks m v)(hk:k∈ks):∃a kvs ep t x b ZM WH,v= .ref a/\H a=aA (.dK kvs ep)/\Qz kvs k=aA (.ref t)/\H t=aA (.tup [.str x,.ref b])/\W b/\H b=aA (.dK ZM WH)/\ZM.length<=m/\
  ∀c y ep',Tk W B (Y3 H b (.dK (Wy ZM c (.str y)) ep')) ks (m+1) v:=by
 obtain⟨a,kvs,ep,rfl,w,e2,rfl,h⟩:=h;obtain⟨p,hp,hv⟩:=ly hk;obtain⟨t,x,b,ZM,WH,q1,q2,q3,q4,q5,q6,q7⟩:=h p hp;rw[q1]at hv;refine⟨a,kvs,ep,t,x,b,ZM,WH,rfl,e2,hv,q3,q4,q5,q6,λc y ep'=>?_⟩;have YU:a≠b:=λz=>by rw[z,q5]at e2;cases e2;obtain⟨y',e⟩:=q7 p hp;rw[q1]at e;cases e
 refine⟨a,kvs,ep,rfl,w,by rw[Zt YU];exact e2,rfl,λp' hp'=>?_⟩;obtain⟨t',x',b',OC,GJ,z1,z2,z3,z4,z5,z6,z7⟩:=h p' hp';have MT:t'≠b:=λz=>by rw[z,q5]at z3;cases z3
 by_cases hb:b'=b
 .subst hb;rw[q5]at z5;cases z5;exact⟨t',x',b',_,ep',z1,z2,by rw[Zt MT];exact z3,z4,Z2,by have:=lx (kvs:=ZM) (k:=c) (v:=V.str y);omega,lw q7⟩
 .exact⟨t',x',b',OC,GJ,z1,z2,by rw[Zt MT];exact z3,z4,by rw[Zt hb];exact z5,by omega,z7⟩
def Uj(Z:fB K)(F:Hp)(own:Nat->Zs)(W:ao->Prop):Prop:=∀b,W b->F b=aB/\Z.h b=aB/\∀i p,p∈own i->p.1≠b
section
variable{Z:fB K}{F H:Hp}{own:Nat->Zs}{W:ao->Prop}
theorem SR.updW(s:SR Z F H σ δ own)(ap:Uj Z F own W)(hb:W b):SR Z F (Y3 H b o) σ δ own:=by
 obtain⟨f0,z0,o0⟩:=ap b hb;refine⟨λc u e=>?_,s.fro,λc u e=>?_,s.len,s.at',s.nod,λi p hp=>?_,s.sep⟩
 .rw[Zt λz=>by rw[z,f0]at e;cases e];exact s.le c u e
 .rw[Zt λz=>by rw[z,z0]at e;cases e];exact s.old c u e
 .obtain⟨x,y,w⟩:=s.ok i p hp;exact⟨x,y,by rw[Zt (o0 i p hp)];exact w⟩
open Classical in
def wH(W:ao->Prop)(H F:Hp):Hp:=λb=>if W b then H b else F b
theorem nY(le:Zj F H):Zj F (wH W H F):=λb o e=>by
 unfold wH;split
 .exact le b o e
 .exact e
theorem zR(le:Zj F H):Zj (wH W H F) H:=λb o e=>by
 unfold wH at e;split at e
 .exact e
 .exact le b o e
theorem EE(h:W b):wH W H F b=H b:=f_ h
theorem G4(h:¬W b):wH W H F b=F b:=fZ h
theorem SR.seeW(s:SR Z F H σ δ own)(ap:Uj Z F own W):SR Z (wH W H F) H σ δ own:=by
 refine⟨zR s.le,λb o e=>?_,s.old,s.len,λi sv e=>?_,s.nod,λi p hp=>?_,s.sep⟩
 .by_cases hb:W b
  .exact .inr (ap b hb).2.1
  .rw[G4 hb]at e;exact s.fro b o e
 .obtain⟨v,h1,h2⟩:=s.at' i sv e;exact⟨v,h1,h2.mono (nY s.le)⟩
 .obtain⟨x,y,w⟩:=s.ok i p hp;refine⟨?_,y,w⟩;rw[G4 λz=>(ap _ z).2.2 i p hp rfl];exact x
theorem SR.blank(i o)(s:SR Z F H σ δ own):SR Z F H (σ.set i o) (δ.set i aB) (put own i []):=by
 have d:=s.drop i;refine⟨d.le,d.fro,d.old,by rw[im];exact d.len,λj sv e=>?_,d.nod,d.ok,d.sep⟩;by_cases hj:j=i
 .subst hj;rw[List.getElem?_set,f_ rfl]at e;split at e<;> cases e
 .rw[d6 (Ne.symm hj)];exact d.at' j sv e
theorem Uj.drop(ap:Uj Z F own W):Uj Z F (put own i []) W:=λb hb=>by
 obtain⟨x,y,z⟩:=ap b hb;refine⟨x,y,λj p hp=>?_⟩;by_cases hj:j=i
 .subst hj;rw[Yb]at hp;exact nomatch hp
 .rw[Yn hj]at hp;exact z j p hp
def GX(Z:fB K)(W:ao->Prop)(H F:Hp):fB K:=⟨wH W H Z.h,F,Z.x⟩
theorem SR.toW(s:SR Z F H σ δ own)(ap:Uj Z F own W):SR (GX Z W H F) F H σ δ own:=by refine⟨s.le,λb o e=>.inl e,zR s.old,s.len,s.at',s.nod,λi p hp=>?_,s.sep⟩;obtain⟨x,y,w⟩:=s.ok i p hp;refine⟨x,?_,w⟩;show wH W H Z.h p.1=aB;rw[G4 λz=>(ap _ z).2.2 i p hp rfl];exact y
theorem SR.ofW(s:SR Z F H σ δ own)(ap:Uj Z F own W)(live:∀b,W b->∃o,H b=aA o)(t:SR (GX Z W H F) F' H' σ δ' own'):SR Z F' H' σ δ' own'/\Uj Z F' own' W:=by
 have key:∀b,wH W H Z.h b=aB->¬W b/\Z.h b=aB:=λb e=>by
  by_cases hb:W b
  .obtain⟨o,ho⟩:=live b hb;rw[EE hb,ho]at e;cases e
  .rw[G4 hb]at e;exact⟨hb,e⟩
 refine⟨⟨t.le,λb o e=>?_,λb o e=>?_,t.len,t.at',t.nod,λi p hp=>?_,t.sep⟩,λb hb=>⟨?_,(ap b hb).2.1,λi p hp z=>?_⟩⟩
 .rcases t.fro b o e with z|z
  .exact s.fro b o z
  .exact .inr (key b z).2
 .refine t.old b o ?_;show wH W H Z.h b=aA o;rw[G4 λz=>by rw[(ap b z).2.1]at e;cases e];exact e
 .obtain⟨x,y,w⟩:=t.ok i p hp;exact⟨x,(key _ y).2,w⟩
 .cases z:F' b with
  |none=>rfl
  |some o=>
   rcases t.fro b o z with y|y
   .have y':F b=aA o:=y;rw[(ap b hb).1]at y';cases y'
   .exact eF hb (key b y).1
 .obtain⟨x,y,w⟩:=t.ok i p hp;exact(key _ y).1 (by rw[z];exact hb)
theorem SR.look(s:SR Z F H σ δ own)(ap:Uj Z F own W)(hv:σ[i]? =aA (aA v))(r:fE K (wH W H F) d v):SR Z (wH W H F) H σ (δ.set i (aA (.fz d))) (put own i []):=by
 have t:=(s.drop i).seeW (W:=W) ap.drop;have hi:i<σ.length:=(az.mp hv).1;have q:=t.store (i:=i) (fO.fz r) hi;have e1:σ.set i (aA v)=σ:=by
  apply List.ext_getElem?;intro j;by_cases hj:i=j
  .subst hj;rw[d0 hi,hv]
  .rw[d6 hj]
 rw[e1,List.set_set]at q;have e2:put (put own i []) i []=put own i []:=by funext j;unfold put;split<;> rfl
 rw[e2]at q;exact q
end
def zQ(i j n:Nat)(ds:List D)(δ1:Yp)(sv:SV)(T1 T2:FT)(is:List D)(δ3:Yp):Prop:=
 ds.length=n/\(∀d∈ds,PlD d)/\i≠j/\i<δ1.length/\j<δ1.length/\∃(ks:List Key) (m:Nat) (ks':List Key),SkD ks m sv.toD/\(∃δ2,T1 (δ1.set i (aA (.fz sv.toD)))=aA (aD,δ2))/\is=ks'.map Bi/\(∀k∈ks',k∈ks)/\m+ks'.length<cj/\
  ∀k∈ks',∀m' d,SkD ks m' d->∃δ4,T2 ((δ3.set i (aA (.fz d))).set j (aA (.fz (Bi k))))=aA (aD,δ4)
open Classical in
def M7(i j n:Nat)(g:List D->Option SV)(fd:FD)(T1:FT)(fi:FE)(T2:FT):FS:=λδ=>(fd δ).bind λp=>(g p.1).bind λsv=>(Hb fi (p.2.set i aB)).bind λq=>
 if zQ i j n p.1 p.2 sv T1 T2 q.1 q.2 then aA (.nx ((q.2.set i aB).set j aB))else aB
theorem lv(h1:fd δ=aA (ds,δ1))(h2:g ds=aA sv)(h3:Hb fi (δ1.set i aB)=aA (is,δ3))(h:zQ i j n ds δ1 sv T1 T2 is δ3):
  M7 i j n g fd T1 fi T2 δ=aA (.nx ((δ3.set i aB).set j aB)):=by
 unfold M7;rw[h1];dsimp only[bu];rw[h2];dsimp only[bu];rw[h3];dsimp only[bu];rw[f_ h]
abbrev FC(i j:Nat)(K:af):TE:=tOp (rIx K) (zX (Cd i) (Cd j)) (tC (.int 1))
def LM(K:af)(fi:FE):TI:=λσ H R=>∃Z':fB K,Qc Z' (Hb fi) σ H R
theorem pM{Z:fB K}{i j n:Nat}{g:List D->Option SV}{fd:FD}{T1 T2:FT}{fi:FE}{tb1 SJ:TS}{c c':Str}{E':XK}(h:Z6 Z (M7 i j n g fd T1 fi T2) E σ H) :
    V8 (Iq (Ac (Wf K n g) [] E' (Wz Z fd)) (U1 i)) (V8 (V9 (Ye Z T1) tb1 T8) (QY (LM K fi) (U1 j) (V8 (V9 (Ye Z T2) SJ T8) (Fm (FC i j K) (tC (.str c)) (tC (.str c')))))) E σ H:=by
  refine Q1 h λF δ own fl s e k=>?_;unfold M7 at e;refine fA e λds δ1 e1 e=>?_;refine gZ e λsv e2 e=>?_;refine fA e λis δ3 e3 e=>?_;dsimp only at e;split at e
  · rename_i hC
    cases e;obtain ⟨hn,CF,YJ,MX,RM,ks,m,ks',sk,⟨δ2,h1⟩,rfl,hsub,hz,h2⟩:=hC;refine ⟨F,δ,own,ds,δ1,s,e1,λvs H1 F1 own1 sH sF s1 r1=>?_⟩;show Wf K n g (vs ++ []) H1 _ E';rw [List.append_nil];obtain ⟨S,rS,nS⟩:=Tv (λd hd=>qk (CF d hd)) r1;refine ⟨res S F1,ds,sv,lz.trans s1.le,rS,hn,e2,λv H2 F2 ns SN _ vI GH sh nd ok=>?_⟩
    have va:∀ p ∈ ns,F2 p.1=aB:=λp hp=>(ok p hp).1;have rp:=sh.rep nd va;have JX:Zj (Q4 F2 ns) H2:=L0 nd vI λp hp=>(ok p hp).2.2;have new:∀ b o,Q4 F2 ns b=aA o->(S b/\F1 b=aA o)\/H1 b=aB:=λb o e=>by
      by_cases hb:b ∈ Cm ns
      · obtain ⟨p,hp,ep⟩:=av.mp hb
        subst ep;exact .inr (ok p hp).2.1
      · rw [U4 hb] at e
        exact (GH b o e).imp ql id
    have s2:SR Z F1 H2 σ δ1 own1:=s1.grow SN;generalize hW:(λb=>H1 b=aB/\∃ o,Q4 F2 ns b=aA o)=W;have inW:∀ {b},W b->H1 b=aB/\∃ o,Q4 F2 ns b=aA o:=λ{b} hb=>by rw [<- hW] at hb; exact hb
    have toW:∀ {b o},H1 b=aB->Q4 F2 ns b=aA o->W b:=λ{b o} h1 h2=>by rw [<- hW]; exact ⟨h1,o,h2⟩
    have JA:Tk W F1 H2 ks m v:=nZ JX (λb kvs ep e=>(new b _ e).elim (λz=>eF z.2 (nS b z.1 kvs ep)) λz=>toW z e) (λb o e=>(new b o e).elim (λz=>.inr z.2) λz=>.inl (toW z e)) sk rp;have live:∀ b,W b->∃ o,H2 b=aA o:=λb hb=>let ⟨_,o,ho⟩:=inW hb; ⟨o,JX _ _ ho⟩
    have ap:Uj Z F1 own1 W:=λb hb=>by have hb0:=(inW hb).1;refine ⟨s1.le.free hb0,s1.old.free hb0,λq p hp z=>?_⟩;have:=(s1.ok q p hp).2.2;rw [z,hb0] at this; cases this
    have PX:∀ {F:Hp} {own:Nat->Zs} {b o},Uj Z F own W->F b=aA o->¬ W b:=λ{F own b o} ap e hb=>by rw [(ap b hb).1] at e; cases e
    have wk:fE K (wH W H2 F1) sv.toD v:=rp.mono λb o e=>by
      rcases new b o e with z | z
      · rw [G4 (PX ap z.2)]; exact z.2
      · rw [EE (toW z e)]; exact JX _ _ e
    have s3:=s2.blank i (aA v);have GV:Uj Z F1 (put own1 i []) W:=ap.drop;have XM:i < σ.length:=by rw [s1.len]; exact MX
    have TW:j < σ.length:=by rw [s1.len]; exact RM
    have MR:(σ.set i (aA v))[i]?=aA (aA v):=d0 XM;have s3':=s3.look GV MR wk;rw [List.set_set] at s3';refine ⟨_,_,_,aD,δ2,s3',h1,λH3 F3 ZI Y' ZS _=>?_⟩;show QY (LM K fi) (U1 j) _ E (σ.set i (aA v)) H3;have s4:=s3.grow Y';have OA:∀ b,W b->∃ o,H3 b=aA o:=λb hb=>let ⟨o,ho⟩:=live b hb; ⟨o,Y' _ _ ho⟩
    refine ⟨GX Z W H3 F1,F1,δ1.set i aB,_,ks'.map Bi,δ3,s4.toW GV,e3,λJ H5 F5 VG wW TB s5 yl=>?_⟩;obtain ⟨s6,ap6⟩:=s4.ofW GV OA s5;have s7:=(s6.drop i).drop j;have BI:Uj Z F5 (put (put VG i []) j []) W:=ap6.drop.drop;generalize hown:put (put VG i []) j []=VE at s7 BI;have hlen:(ks'.map Bi).length=ks'.length:=aj _;refine ⟨λn' mm ZB H'=>mm=ks'.length - n'/\n'<=ks'.length/\ZB[i]?=aA (aA v)/\Tk W F1 H' ks (m + n') v/\∃ own',Uj Z F5 own' W/\SR Z F5 H' ZB ((δ3.set i aB).set j aB) own',⟨ks'.length,by simp,gd _,MR,JA.mono (Y'.trans wW),VE,BI,s7⟩,?_⟩;rintro n' mm σ8 H8 ⟨rfl,CL,hv8,sk8,SS,ap8,s8⟩;by_cases ZK:n' < ks'.length
    · have hd:(ks'.map Bi)[n']?=aA (Bi ks'[n']):=by simp [ZK]
      obtain ⟨go,yy⟩:=(yl F5 H8 (Zj.refl F5) s8.le n').1 _ hd;refine .inr ⟨go,λKU H9=>KU[i]?=aA (aA v)/\Tk W F1 H9 ks (m + (n' + 1)) v/\∃ own',Uj Z F5 own' W/\SR Z F5 H9 KU ((δ3.set i aB).set j aB) own',λKU H9 ⟨a1,a2,a3⟩=>⟨ks'.length - (n' + 1),by omega,rfl,ZK,a1,a2,a3⟩,λx H9 hy=>?_⟩;obtain ⟨sm,ns9,nd9,hn9,rp9⟩:=yy x H9 hy;generalize hk:ks'[n']=kk at rp9;have CO:kk ∈ ks':=by rw [<- hk]; exact List.getElem_mem ZK
      have ex:x=kV kk:=by
        cases kk with
        | inl z=>cases rp9; rfl
        | inr z=>cases rp9; rfl
      subst ex;have sB:=(s8.grow sm).blank j (aA (kV kk));rw [List.set_set] at sB;have GU:Uj Z F5 (put SS j []) W:=ap8.drop;have OT:j < σ8.length:=by have:=s8.len;rw [im,im] at this;have h5:=s6.len;rw [im] at h5;omega
      have IG:(σ8.set j (aA (kV kk)))[i]?=aA (aA v):=by rw [d6 (Ne.symm YJ)]; exact hv8
      have vo:(σ8.set j (aA (kV kk)))[j]?=aA (aA (kV kk)):=d0 OT;obtain ⟨d',sd',rd'⟩:=(sk8.mono sm).rep (K:=K) (G:=wH W H9 F5) (λb o hb e=>by rw [EE hb]; exact e) λb o e=>by rw [G4 (PX ap8 (TB _ _ e))]; exact TB _ _ e
      obtain ⟨δ4,h4⟩:=h2 kk CO _ d' sd';have sC:=sB.look GU IG rd';have sD:=sC.store (i:=j) (fO.fz (Ec kk)) (by rw [im]; exact OT);have eD:(σ8.set j (aA (kV kk))).set j (aA (kV kk))=σ8.set j (aA (kV kk)):=List.set_set _;have eE:(((δ3.set i aB).set j aB).set i (aA (SV.fz d'))).set j (aA (.fz (Bi kk)))=(δ3.set i (aA (.fz d'))).set j (aA (.fz (Bi kk))):=by rw [List.set_comm _ _ YJ.symm,List.set_set,List.set_set]
      rw [eD,eE] at sD;refine ⟨_,_,_,aD,δ4,sD,h4,λHA FA wv DI iR _=>?_⟩;obtain ⟨a,kvs,ep,t,xx,b,ZM,WH,ev,hA,hval,ht,hWb,hb,hl2,nextS⟩:=((sk8.mono sm).mono DI).way (hsub kk CO);subst ev;refine ⟨.ref a,IG,kV kk,vo,a,.ref t,rfl,.inl ⟨kvs,kk,⟨ep,.inl hA⟩,rfl,hval.symm⟩,.inr (.inl ⟨t,[.str xx,.ref b],1,.ref b,rfl,rfl,Ck ht,rfl,b,rfl,?_⟩)⟩;refine Ae.k (k:=.inr c) ⟨WH,hb⟩ (by omega) λep'=>⟨IG,?_,_,GU,(sB.grow DI).updW GU hWb⟩
      exact nextS (.inr c) c' ep'
    · have UN:n'=ks'.length:=by omega
      subst UN;exact .inl ⟨(yl F5 H8 (Zj.refl F5) s8.le _).2 (Nat.le_of_eq hlen),k σ8 H8 F5 SS (sF.trans TB) s8⟩
  · cases e
section
variable{X:Cx}{Z:fB X.K}{a b c:c9}{pos:Pos}
theorem AA(hc:PT X c (Ye Z T))(hb:Rj X bd (Z6 Z f)):PS X (.If c bd [] pos) (V9 (Ye Z T) (Z6 Z f) T8):=ze hc hb Dq
theorem rC(i j)(hu:X.A.units+1<ft)(ha:PE X (.Name x q1) (Cd i))(hb:PE X (.Name y q2) (Cd j))(hs:‹swapsWith (.Constant (.str cd) j3 q8) (aA (.Subscript (.Subscript (.Subscript (.Name x q1) (.Name y q2) q3) (.Constant (.int 1) j1 q4) q5) (.Constant (.str cc) j2 q6) q7)) pos.line X.env=pure aD›):
  PS X (.Assign [.Subscript (.Subscript (.Subscript (.Name x q1) (.Name y q2) q3) (.Constant (.int 1) j1 q4) q5) (.Constant (.str cc) j2 q6) q7] (.Constant (.str cd) j3 q8) pos) (Fm (FC i j X.K) (tC (.str cc)) (tC (.str cd))):=
 Lw hu (D0 Xf (D4 hu ha hb (by intro _ _;rfl)) yg (by intro _ _;rfl)) Ll Ll hs
theorem rB(j){p1}(hp:PassesOwn (b9 X.prog X.w) X.A X.env X.xe)(hc:X.calm=aC)(hN:X.N.Nodup)(hi:∀Z':fB X.K,PE X a (Ze Z' fi))(h1:PS X s1 t1)(h2:PS X s2 t2)(hj:‹X.N[j]? =aA y›)(hx:‹Loc X.env.scope y›)(hf:‹X.fn y=aC\/X.env.scope.names.lookup y=aA .local›)(hs:‹∀x,foldedSetIterable a X.env x=pure x›):
  PS X (.For (.Name y p1) a [s1,s2] [] pos) (QY (LM X.K fi) (U1 j) (V8 t1 t2)):=
 yd hp hc (λgR s σ H R I ⟨Z',h⟩=>EF (hi Z') gR s σ H R I h) (Dt hN hj hx hf) (Ch h1 (Dr h2)) hs
theorem nX{rest}(h1:PS X s1 (Iq (Ac (Wf X.K n g) [] (λ_ _ _=>False) (Wz Z fd)) (U1 i)))(h2:PS X s2 (V9 (Ye Z T1) tb1 T8))(h3:PS X s3 (QY (LM X.K fi) (U1 j) (V8 (V9 (Ye Z T2) SJ T8) (Fm (FC i j X.K) (tC (.str cc)) (tC (.str cd))))))(hr:Rj X rest (Z6 Z f0)):Rj X (s1::s2::s3::rest) (Z6 Z (Z4 (M7 i j n g fd T1 fi T2) f0)):=
 (Ch h1 (Ch h2 (Ch h3 hr))).imp λD σ H h=>pM (E:={D with nx:=Z6 Z f0 D}) (zV h)
end
end
def Ce(l:List Nat):Prop:=l.Pairwise (· < ·)
def At(xs:Array Nat)(j p:Nat):Prop:=p<=xs.size/\(∀i y,i<p->xs[i]? =aA y->y<j)/\∀i y,p<=i->xs[i]? =aA y->j<=y
theorem B0{xs:Array Nat}(h:Ce xs.toList){i:Nat}(hi:xs[i]? =aA y)(hk:xs[k]? =aA z)(vp:i<k):y<z:=by rw[<-de]at hi hk;obtain⟨a,ha⟩:=az.mp hi;obtain⟨b,hb⟩:=az.mp hk;have:=List.pairwise_iff_getElem.mp h i k a b vp;rw[ha,hb]at this;exact this
theorem ED(h:Ce xs.toList):∀fuel lo hi,hi<=lo+fuel->lo<=hi->hi<=xs.size->(∀i y,i<lo->xs[i]? =aA y->y<j)->(∀i y,hi<=i->xs[i]? =aA y->j<=y)->At xs j (SetTable.below.go xs j fuel lo hi)
 |0,lo,hi,h1,h2,h3,a,b=>by
  have:lo=hi:=by omega
  subst this;unfold SetTable.below.go;exact⟨h3,a,b⟩
 |fuel+1,lo,hi,h1,h2,h3,a,b=>by
  unfold SetTable.below.go;by_cases hl:lo<hi
  .rw[f_ hl];dsimp only;have hm:(lo+hi) / 2<xs.size:=by omega
   have hg:xs.getD ((lo+hi) / 2) j=xs[(lo+hi) / 2]:=by simp[Array.getD,hm]
   have he:xs[(lo+hi) / 2]? =aA xs[(lo+hi) / 2]:=by simp[hm]
   by_cases hc:xs.getD ((lo+hi) / 2) j<j
   .rw[f_ hc];refine ED h fuel _ hi (by omega) (by omega) h3 (λi y VB e=>?_) b;by_cases hq:i=(lo+hi) / 2
    .subst hq;rw[he]at e;cases e;rw[<-hg];exact hc
    .have:=B0 h e he (by omega);rw[hg]at hc;omega
   .rw[fZ hc];refine ED h fuel lo _ (by omega) (by omega) (by omega) a (λi y VB e=>?_);by_cases hq:i=(lo+hi) / 2
    .subst hq;rw[he]at e;cases e;rw[<-hg];omega
    .have:=B0 h he e (by omega);rw[hg]at hc;omega
  .rw[fZ hl];have:lo=hi:=by omega
   subst this;exact⟨h3,a,b⟩
theorem Ef(h:Ce xs.toList)(j):At xs j (SetTable.below xs j):=
 ED h xs.size 0 xs.size (by omega) (gd _) (bc _) (λi _ z=>eF z (by omega)) λi y z e=>by have:=(g9.mp e).1;omega
theorem xV(a:At xs j p)(b:At xs j q):p=q:=by
 rcases Nat.lt_trichotomy p q with h|h|h
 .have hp:p<xs.size:=by have:=b.1;omega
  have e:xs[p]? =aA xs[p]:=by simp[hp]
  have:=a.2.2 p _ (bc _) e;have:=b.2.1 p _ h e;omega
 .exact h
 .have hq:q<xs.size:=by have:=a.1;omega
  have e:xs[q]? =aA xs[q]:=by simp[hq]
  have:=b.2.2 q _ (bc _) e;have:=a.2.1 q _ h e;omega
theorem ls(h:Ce xs.toList)(hn:xs[SetTable.below xs j]?≠aA j):Ce (SetTable.insertAt xs (SetTable.below xs j) j).toList:=by
 have a:=Ef h j;generalize SetTable.below xs j=p at*;rw[SetTable.toList_insertAt];obtain⟨a1,a2,a3⟩:=a;have lo:∀y∈xs.toList.take p,y<j:=λy hy=>by
  obtain⟨i,hi,e⟩:=fj hy;rw[List.getElem_take]at e;have VB:i<p:=by simp at hi;omega
  refine a2 i y VB ?_;rw[<-de,az];exact⟨_,e⟩
 have hi:∀y∈xs.toList.drop p,j<y:=λy hy=>by
  obtain⟨i,hi,e⟩:=fj hy;rw[List.getElem_drop]at e;have ep:xs[p+i]? =aA y:=by rw[<-de,az];exact⟨_,e⟩
  have h1:=a3 (p+i) y (by omega) ep;rcases Nat.lt_or_eq_of_le h1 with z|z
  .exact z
  .subst z;cases i with
   |zero=>exact eF ep hn
   |succ i=>
    have hp:p<xs.size:=by have:=(g9.mp ep).1;omega
    have e0:xs[p]? =aA xs[p]:=by simp[hp]
    have q1:=a3 p _ (bc _) e0;have q2:=B0 h e0 ep (by omega);omega
 refine List.pairwise_append.mpr ⟨h.sublist (List.take_sublist _ _),List.pairwise_cons.mpr ⟨hi,h.sublist (List.drop_sublist _ _)⟩,λa ha b hb=>?_⟩;rcases bj.mp hb with z|z
 .rw[z];exact lo a ha
 .exact Nat.lt_trans (lo a ha) (hi b z)
structure Tab(B:Bool)(t:ic):Prop where
 led:t.led= !B
 dum:t.dummies= #[]
 rise:t.plain=aC->Ce t.place.toList
theorem xU(j):SetTable.has #[] j=aD:=by unfold SetTable.has;simp
noncomputable abbrev ut(l:List (Int×ag)):List Int:=l.map λe=>numOf e.2
def Own(prog:b8)(w:dq)(B:Bool)(o:Obj)(ks:List Int):Prop:=∃es ep t,o.ExactSet/\o.data= .set es ep t/\ElemsOf (intKind prog w) es.toList/\(ut es.toList).Perm ks/\t.fits es.size=aC/\Tab B t/\es.size<scanBound
noncomputable def dd(val:Nat->Int):Nat->List Int
 |0=>[]
 |i+1=>if val i∈dd val i then dd val i else dd val i++[val i]
def Kpt(h0 h:f8):Prop:=∀b o,h0.get? b=aA o->h.get? b=aA o
theorem rA{St:Nat->am->Prop}(W:WalksS prog w A.in1 I fp wr G n P St)(S)(hS:S∉fp)(uF:h0.get? S=aB)(CA:∀b∈wr,h0.get? b=aB)(Ow:f8->Obj->Nat->Prop)(re:∀{h h':f8} {o:Obj} {i:Nat},Kpt h0 h'->Ow h o i->Ow h' o i)(add:∀i v s1 o Q E,i<n->P i v->Kpt h0 s1.heap->s1.heap.get? S=aA o->Ow s1.heap o i->(∀h2 o2 tk b,g6 S s1.heap h2->h2.get? S=aA o2->Ow h2 o2 (i+1)->Q b {s1 with heap:=h2,toks:=s1.toks+tk})->bi (b9 prog w) A.in1 (setAdd S v) Q E s1):
  ∀m i s o,i+m=n->St i s->Kpt h0 s.heap->s.heap.get? S=aA o->Ow s.heap o i->
  (∀s' o',Moved (S::wr) G s s'->Kpt h0 s'.heap->s'.heap.get? S=aA o'->Ow s'.heap o' n->R (.ok (.ret .none)) s')->codeAny (b9 prog w) A (.builtin "set.update.loop" ⟨[.ref S,.ref I],[]⟩) R s:=by
 have nw:S∉wr:=λz=>hS (W.sub _ z);have up:∀b∈wr,b∈S::wr:=λ_ z=>ah _ z;intro m;induction m with
 |zero=>intro i s o hi st kp ho hO hR;obtain rfl:i=n:=hi;refine ik PyProof.Rows.F.entry_set_update_loop ?_;rw[gm PyProof.Rows.F.plain_set_update_loop _];show bi _ A.in1 (pyNext (.ref I) >>=_) _ _ s;refine aa (W.done s _ _ st λs' mv=>?_);have DX:Kpt h0 s'.heap:=λb x e=>mv.heap b x (λz=>by rw[CA b z]at e;cases e) (kp b x e);exact ad (hR s' o (mv.mono up) DX (mv.heap S _ nw ho) (re DX hO))
 |succ m ih=>
  intro i s o hi st kp ho hO hR;have ZK:i<n:=by omega
  refine ik PyProof.Rows.F.entry_set_update_loop ?_;rw[gm PyProof.Rows.F.plain_set_update_loop _];show bi _ A.in1 (pyNext (.ref I) >>=_) _ _ s;refine aa (W.item i s _ _ ZK st λv s1 pv RZ mv=>?_);have ho1:=mv.heap S _ nw ho;have JZ:Kpt h0 s1.heap:=λb x e=>mv.heap b x (λz=>by rw[CA b z]at e;cases e) (kp b x e);show bi _ A.in1 (holding [v] (setAdd S v) >>=_) _ _ s1;refine aa (f9 ?_);refine add i v s1 o _ _ ZK pv JZ ho1 (re JZ hO) λh2 o2 tk b sb g2 O2=>?_;have vJ:Kpt h0 h2:=λc x e=>by
   have hc:c≠S:=λz=>by rw[z,uF]at e;cases e
   rw[sb.2 c hc];exact JZ c x e
  refine ad ⟨plainId_quiet PyProof.Rows.F.plain_set_update_loop _,ih (i+1) _ o2 (by omega) (W.frame _ s1 _ _ RZ (Nat.le_add_right _ _) λc hc x e=>?_) vJ g2 O2 λs3 o3 m3 k3 g3 O3=>?_⟩
  .rw[sb.2 c λz=>hS (z▸hc)];exact e
  .refine hR s3 o3 (Moved.trans W.gtrans ((mv.mono up).then_heap (Nat.le_add_right _ _) λc x hc e=>?_) m3) k3 g3 O3;rw[sb.2 c λz=>hc (z▸ac)];exact e
noncomputable abbrev By(w:dq):Bool:=w.params.followText "set-order"
abbrev Rv(w:dq):Obj:={cls:=.type "set",dict:=aB,data:=.set #[] 0 (.fresh 0 0 (!By w))}
theorem nW(a)(h:Q (.ref s.heap.objs.size) {s with heap:=s.heap.push (Rv w)}):
  codeAny (b9 prog w) A (.call (.builtin "set.__new__") ⟨[.type "set",a],[]⟩) (wants Q E) s:=by
 refine codeAny_of_tree ?_;show bi _ A.in1 (checkBuiltinCall "set.__new__" ⟨[.type "set",a],[]⟩>>=λ_=>again (.builtin "set.__new__" ⟨[.type "set",a],[]⟩)) _ _ s;refine aa (wpAny_of_eq (PySem.F.newCall_set_1 a) (ad ⟨plainId_quiet PySem.F.plain_set_new _,ik PySem.F.entry_set_new ?_⟩));rw[gm PySem.F.plain_set_new _];have hs:=sub_set_self;obtain⟨hp,g,d,tk,os⟩:=s;unfold Builtin.«set.__new__» Builtin.Frozenset.newClass;dsimp only;wp_walk;refine wpAny_askSetting (ad ?_);dsimp only;simp only[newObj];exact aa (wpAny_alloc (ad (ad h)))
theorem s_{s:am}(hh:A.handled=aB)(hl:s.heap.IsList l gU)(Ow:f8->Obj->Nat->Prop)(re:∀{h h':f8} {o:Obj} {i:Nat},Kpt s.heap h'->Ow h o i->Ow h' o i)(own:∀h,Ow h (Rv w) 0)(add:∀A' i v s1 o Q E,A'.units=A.units+3->gU[i]? =aA v->Kpt s.heap s1.heap->s1.heap.get? s.heap.objs.size=aA o->Ow s1.heap o i->(∀h2 o2 tk b,g6 s.heap.objs.size s1.heap h2->h2.get? s.heap.objs.size=aA o2->Ow h2 o2 (i+1)->Q b {s1 with heap:=h2,toks:=s1.toks+tk})->bi (b9 prog w) A' (setAdd s.heap.objs.size v) Q E s1)(h:∀h' tk o,h'.get? s.heap.objs.size=aA o->Ow h' o gU.size->(∀b x,b<s.heap.objs.size->s.heap.get? b=aA x->h'.get? b=aA x)->Q (.ref s.heap.objs.size) {s with heap:=h',toks:=tk}):
  bi (b9 prog w) A (call (.type "set") [.ref l]) Q E s:=by
 obtain⟨c,tl,vf⟩:=PySem.F.called_set.mro;have hmade:=PySem.F.called_set.made;have hsub:=PySem.F.called_set.sub;have h1:=PySem.F.called_set.notType;have h2:=PySem.F.called_set.canCreate;have hct:=PySem.F.typeCall_set_1 (.ref l);refine wpAny_call (codeAny_of_tree ?_);show bi _ _ (callAny (.type "set") _) _ _ _;refine ad ⟨Code.quiet_builtin _ (by decide+kernel),ik PySem.F.entry_type_call ?_⟩;rw[Around.under_plain (weight_type_call_type "set" [.ref l] []) rfl]
 repeat (any_goals (first|assumption|wp_step))
 refine codeAny_mono (nW (.ref l) (E:=E) (Q:=λv s1=>v= .ref s.heap.objs.size/\s1={s with heap:=s.heap.push (Rv w)}) ⟨rfl,rfl⟩) λr s1 hr=>?_;cases r with
 |error e=>exact hr
 |ok fl=>
  cases fl with
  |ret obj=>
   obtain⟨rfl,rfl⟩:=hr;have hS:(s.heap.push (Rv w)).get? s.heap.objs.size=aA (Rv w):=bo _ rfl;have hT:Shared.TypeIs {s with heap:=s.heap.push (Rv w)} (.ref s.heap.objs.size) "set":=⟨_,hS,rfl⟩
   have hli:=PySem.F.called_set.init.lookup;have hbi:=PySem.F.called_set.init.bind (.ref s.heap.objs.size)
   repeat (any_goals (first|assumption|wp_step))
   refine codeAny_mono (codeAny_call_builtin (R:=wants (λr s2=>r= .none/\∃h' tk o,s2={s with heap:=h',toks:=tk}/\h'.get? s.heap.objs.size=aA o/\Ow h' o gU.size/\(∀b x,b<s.heap.objs.size->s.heap.get? b=aA x->h'.get? b=aA x)) E)
    PySem.F.called_set.init.plain PySem.F.entry_set_init (check_set_init_1 hT ?_)) λr2 s2 QE=>?_
   .obtain⟨ol,QG,YL,nl,QM⟩:=hl;obtain⟨w8,od,DN,XI⟩:=ol;simp only at YL QM;subst YL QM;have IR:(s.heap.push (Rv w)).get? l=aA {cls:=.type "list",dict:=od,data:=.seq gU nl,slots:=XI}:=aq _ QG;have hsa:=PySem.F.sub_list_set;have hsb:=PySem.F.sub_list_frozenset;have CF:(Value.type "list"==Value.type "dict")=aD:=by decide
    have CN:(s.heap.push (Rv w)).IsList l gU:=⟨_,IR,rfl,nl,rfl⟩
    unfold Builtin.«set.__init__» noKeywords Builtin.Frozenset.updateFrom;generalize hPI:pyIter=PI;wp_walk;subst hPI;refine wpAny_pyIter_list CN (aa (wpAny_runValue ?_));have ll:l<s.heap.objs.size:=bp QG;have vq:A.in1.in1.in1.handled=aB:=by simp[hh]
    have sz:(s.heap.push (Rv w)).objs.size=s.heap.objs.size+1:=Heap.size_push _ _;have ne:l≠(s.heap.push (Rv w)).objs.size:=by rw[sz];exact cm (Nat.lt_succ_of_lt ll)
    have nf:s.heap.objs.size∉[(s.heap.push (Rv w)).objs.size,l]:=by rw[sz];simp only[bj,List.not_mem_nil,or_false,not_or];exact⟨cm (Nat.lt_succ_self _),Nat.ne_of_gt ll⟩
    refine rA (h0:=s.heap) ((Walks.list vq _ l ne gU).toS) s.heap.objs.size nf (Heap.get?_none_of_le (bc _)) (λb YB=>?_) Ow re (λi v s1 o Q E _ hv=>add _ i v s1 o Q E rfl hv) gU.size 0 _ (Rv w) (by omega)
     ⟨⟨_,bo _ rfl,rfl,rfl⟩,(CN.push _)⟩ (λb o e=>aq _ (aq _ e)) (aq _ hS) (own _) λs' o' mv kp go Oo=>?_
    .have:b=(s.heap.push (Rv w)).objs.size:=by simpa using YB
     rw[this,sz];exact Heap.get?_none_of_le (Nat.le_succ _)
    have eg:s'.gens=s.gens:=mv.gens;have ed:s'.drawn=s.drawn:=mv.drawn;have eo:s'.os=s.os:=mv.os;have es:s'={s with heap:=s'.heap,toks:=s'.toks}:=by cases s';simp only at eg ed eo;subst eg ed eo;rfl
    show bi _ _ _ _ _ _;refine ad ?_;show bi _ _ (ret c8) _ _ _;exact ad ⟨rfl,s'.heap,s'.toks,o',es,go,Oo,λb x hb e=>kp b x e⟩
   .cases r2 with
    |error e=>exact QE
    |ok f2=>
     cases f2 with
     |ret r=>
      obtain⟨rfl,h',tk,o',rfl,g',O',k'⟩:=QE
      repeat (any_goals (first|assumption|wp_step))
      exact h _ _ _ g' O' k'
     |_=>exact QE.elim
  |_=>exact hr.elim
theorem Wv:Slot "set_iterator" "__next__" "set_iterator.__next__":=
 .of (owner:="set_iterator") (n:="__next__") (by rw[typeLookup_type,builtinLookup_eq_fast];kernel_rfl) (by decide+kernel) (by decide+kernel) (by decide+kernel) (by first|exact .inl (by decide+kernel)|exact .inr (by decide+kernel)) (by rw[isSubtype_type];kernel_rfl)
theorem B2:entryFor table "set_iterator.__next__"=aA Builtin.«set_iterator.__next__»:=entryFor_of_tree (by kernel_rfl)
theorem Gd(a):argsOk "set_iterator.__next__" ⟨[a],[]⟩:=by unfold argsOk;kernel_rfl
theorem He:entryFor table "set.__iter__"=aA Builtin.«frozenset.__iter__»:=entryFor_alias (id':="frozenset.__iter__") (by kernel_rfl) rfl (by decide+kernel) (by kernel_rfl)
theorem lr(hn:n≠0)(h:∀i d,i<n->Q i {s with drawn:=d}):bi (b9 prog w) A (choose src n) Q E s:=
 λ_ _ _=>⟨hn,h _ _ (Nat.mod_lt _ (Nat.pos_of_ne_zero hn))⟩
theorem Ml{α:Type}:∀(l:List α) i h,(l[i]::l.eraseIdx i).Perm l
 |x::l,0,_=>List.Perm.refl _
 |x::l,i+1,h=>(List.Perm.swap x _ _).trans ((Ml l i (by simpa using h)).cons x)
theorem yJ:∀n xs s {Q:List α->am->Prop},n=xs.length->(∀ys d,ys.Perm xs->Q ys {s with drawn:=d})->bi (b9 prog w) A (drawOrder n xs) Q E s
 |0,[],s,Q,_,h=>by unfold drawOrder;exact ad (h [] s.drawn (List.Perm.refl _))
 |n+1,x::xs,s,Q,hn,h=>by
  unfold drawOrder;refine aa (lr (by simp) λi d hi=>?_);have e:(x::xs)[i]? =aA (x::xs)[i]:=au hi;rw[e];dsimp only;have hl:n=((x::xs).eraseIdx i).length:=by rw[List.length_eraseIdx_of_lt hi];simpa using hn
  refine aa (yJ n ((x::xs).eraseIdx i) _ hl λys d' hp=>ad (h _ d' ?_));exact(hp.cons _).trans (Ml _ i hi)
 |0,_::_,_,_,hn,_=>by simp at hn
 |_+1,[],_,_,hn,_=>by simp at hn
noncomputable abbrev V3(first:ag)(i:Nat)(r:ao)(n ep:Nat):Obj:={cls:=.type "set_iterator",dict:=aB,data:=.fields #[first,.int (i:Int) 0,.ref r,.int (n:Int) 0,.int (ep:Int) 0],slots:= #[]}
noncomputable abbrev Mm(ps:List Nat):Obj:={cls:=.type "tuple",data:=.seq (ps.map λi:Nat=>rawInt i).toArray}
theorem nV(ho:s.heap.get? r=aA o)(hx:o.ExactSet)(hd:o.data= .set es ep t)(hf:t.fits es.size=aC)(hb:es.size<scanBound)(hN:(!By w&&(!t.plain&&decide (es.size > 1)))=aD->Q (.ref s.heap.objs.size) {s with heap:=s.heap.push (V3 (.int 0 0) 0 r es.size ep)})(hD:(!By w&&(!t.plain&&decide (es.size > 1)))=aC->∀ps d,ps.Perm (cr es.size)->Q (.ref (s.heap.objs.size+1)) {s with heap:=(s.heap.push (Mm ps)).push (V3 (.ref s.heap.objs.size) 0 r es.size ep),drawn:=d}):
  bi (b9 prog w) A (pyIter (.ref r)) Q E s:=by
 have hT:s.TypeIs (.ref r) "set":=⟨o,ho,hx.1⟩
 refine wpAny_pyIter_slot hT PySem.F.slot_set_iter (d5 PySem.F.slot_set_iter hT He ?_ (PySem.F.args_set_iter_1 _));unfold Builtin.«frozenset.__iter__»;refine aa (m:=Builtin.Frozenset.slot0 "__iter__" ⟨[.ref r],[]⟩) (Q:=_) (ad ?_);refine aa (m:=Builtin.Frozenset.sizeOf r) ?_;unfold Builtin.Frozenset.sizeOf;refine aa (wpAny_setEntries_of ho hd hf (ad ?_));refine aa ?_;unfold setDrawn;refine aa (wpAny_setState_of ho hd hf ?_);unfold setsByText;refine aa (aa (wpAny_askSetting (ad ?_)));refine ad ?_;show bi _ _ (if(!By w&&(!t.plain&&decide (es.size > 1)))=aC then _ else _) _ _ _;cases hc:(!By w&&(!t.plain&&decide (es.size > 1)))with
 |false=>rw[fZ (by simp)];refine aa (ad ?_);refine aa (wpAny_setEpoch_of ho hd hf ?_);refine aa (m:=newFields _ _) (gr (ad ⟨_,rfl,"set_iterator",_,⟨_,bo _ rfl,rfl⟩,Wv.lookup,hN hc⟩))
 |true=>rw[f_ rfl];have hl:(cr es.size).length=es.size:=List.length_range;refine aa ?_;refine yJ _ (cr es.size) _ hl.symm λps d hp=>?_;have pl:ps.length=es.size:=hp.length_eq.trans hl;refine aa (wpAny_newTuple ?_ (by rw[aj,pl];exact fits_of_scanBound hb));have YS:(s.heap.push (Mm ps)).get? r=aA o:=aq _ ho;refine aa (wpAny_setEpoch_of (s:={s with heap:=s.heap.push (Mm ps),drawn:=d}) YS hd hf ?_);have sz:(s.heap.push (Mm ps)).objs.size=s.heap.objs.size+1:=Heap.size_push _ _;refine aa (m:=newFields _ _) (gr (ad ⟨_,rfl,"set_iterator",_,⟨_,bo _ rfl,rfl⟩,Wv.lookup,?_⟩));have z:=hD hc ps d hp;rw[<-sz]at z;exact z
section
variable{prog:b8}{w:dq}{A:c7}{E:ag->am->Prop}{s:am}{I r:ao}{o:Obj}{es:Array (Int×ag)}{ep:Nat}{t:ic}{slot i nx:Nat}{x:ag}{Q:Option ag->am->Prop}
abbrev Nq(prog:b8)(w:dq)(A:c7)(s:am)(r:ao)(slot i ep:Nat)(y:Option (ag×Nat)):Prop:=∀(R:Option (ag×Nat)->am->Prop) (E':ag->am->Prop),R y s->bi (b9 prog w) A (setNext r slot i ep) R E' s
theorem zP(hI:s.heap.get? I=aA (V3 (.int (slot:Int) 0) i r es.size ep))(ho:s.heap.get? r=aA o)(hd:o.data= .set es ep t)(hf:t.fits es.size=aC)(hn:Nq prog w A.in1 s r slot i ep (aA (x,nx)))(hQ:∀h',h'.get? I=aA (V3 (.int (nx:Int) 0) (i+1) r es.size ep)->g6 I s.heap h'->Q (aA x) {s with heap:=h'}):bi (b9 prog w) A (pyNext (.ref I)) Q E s:=by
 have hT:s.TypeIs (.ref I) "set_iterator":=⟨_,hI,rfl⟩
 unfold pyNext;refine aa (wpAny_attempt (g7 (name:=dz "__next__") hT Wv (d5 Wv hT B2 ?_ (Gd _))));unfold Builtin.«set_iterator.__next__»;refine aa (m:=slotArgs "__next__" 0 ⟨[.ref I],[]⟩) (ad ?_);refine aa (wpAny_fieldsOf hI rfl ?_);dsimp only;refine aa (wpAny_setEntries_of ho hd hf ?_);rw[fZ (by simp)];simp only[Int.toNat_natCast];refine aa (hn _ _ ?_);dsimp only;refine aa (wpAny_setField_rec hI (by simp) λh1 g1 b1=>?_);refine aa (wpAny_setField_rec (s:={s with heap:=h1}) g1 (by simp) λh2 g2 b2=>?_);refine ad ⟨_,rfl,ad (hQ h2 ?_ (b1.trans b2))⟩;rw[g2];rfl
theorem zO(hh:A.handled=aB)(hI:s.heap.get? I=aA (V3 (.int (slot:Int) 0) i r es.size ep))(ho:s.heap.get? r=aA o)(hd:o.data= .set es ep t)(hf:t.fits es.size=aC)(hn:Nq prog w A.in1 s r slot i ep aB)(hQ:∀h',Heap.ExtBut I s.heap h'->Q aB {s with heap:=h'}):bi (b9 prog w) A (pyNext (.ref I)) Q E s:=by
 have hT:s.TypeIs (.ref I) "set_iterator":=⟨_,hI,rfl⟩
 unfold pyNext;refine aa (wpAny_attempt (g7 (name:=dz "__next__") hT Wv (d5 Wv hT B2 ?_ (Gd _))));unfold Builtin.«set_iterator.__next__»;refine aa (m:=slotArgs "__next__" 0 ⟨[.ref I],[]⟩) (ad ?_);refine aa (wpAny_fieldsOf hI rfl ?_);dsimp only;refine aa (wpAny_setEntries_of ho hd hf ?_);rw[fZ (by simp)];simp only[Int.toNat_natCast];refine aa (hn _ _ ?_);dsimp only;refine aa (wpAny_setField_rec hI (by simp) λh1 g1 b1=>?_);refine aa (m:=newExc (.type "StopIteration") []) ?_;simp only[newExc,newTuple];refine aa (gr ?_ (by size_fits));refine aa (m:=firstArgMember _ _) (wpAny_of_eq (a:=c8) (by first|rfl| (simp only[firstArgMember];rfl)) ?_);refine gr ?_ (by size_fits);simp only[raiseNew];refine aa (wpAny_handled ?_);rw[show A.in1.handled=aB from hh];refine aa (ad (wpAny_throw ?_));refine aa (io (T:="StopIteration") (b:=aC) ⟨_,bo _ rfl,rfl⟩ isSubtype_stop ?_);exact ad (hQ _ ((b1.extBut.push _).push _))
theorem Kf(hB:By w=aD)(ho:s.heap.get? r=aA o)(hd:o.data= .set es ep t)(hf:t.fits es.size=aC)(hl:t.led=aC)(hr:(!t.plain&&decide (es.size > 1))=aD):
  Nq prog w A s r slot i ep (match es[SetTable.below t.place slot]?,t.place[SetTable.below t.place slot]? with
   |some (_,x),aA j=>aA (x,j+1)
   |_,_=>aB):=by
 intro R E' h;unfold setNext;refine aa (wpAny_setState_of ho hd hf ?_);dsimp only;unfold setsByText;refine aa (aa (wpAny_askSetting (ad ?_)));have e1:(b9 prog w).w.params.followText "set-order"=aD:=hB;dsimp only;rw[fZ (by rw[e1];simp)];show bi _ _ (if(!t.plain&&decide (es.size > 1))=aC then _ else _) _ _ _;rw[fZ (by rw[hr];simp)];refine aa ?_;show bi _ _ (if(!t.led&& !es.isEmpty)=aC then _ else _) _ _ _;rw[fZ (by rw[hl];simp)];exact ad (ad h)
theorem Sw(hB:By w=aC)(ho:s.heap.get? r=aA o)(hd:o.data= .set es ep t)(hf:t.fits es.size=aC):
  Nq prog w A s r slot i ep (((pickOrder (w.params.setOrder r ep) es)[i]?).map λe=>(e.2,slot)):=by
 intro R E' h;unfold setNext;refine aa (wpAny_setState_of ho hd hf ?_);dsimp only;unfold setsByText;refine aa (aa (wpAny_askSetting (ad ?_)));have e1:(b9 prog w).w.params.followText "set-order"=aC:=hB;dsimp only;rw[f_ (by rw[e1])];rw[fZ (by simp)];refine aa ?_;unfold setWalk;refine aa (wpAny_setState_of ho hd hf ?_);dsimp only;unfold setsByText;refine aa (aa (wpAny_askSetting (ad ?_)));dsimp only;rw[f_ (by rw[e1])];refine aa (wpAny_askSetting (ad ?_));exact ad h
theorem sj(hI:s.heap.get? I=aA (V3 (.ref T) i r es.size ep))(GA:s.heap.get? T=aA (Mm ps))(hp:ps[i]? =aA p)(he:es[p]? =aA (hx,x))(ho:s.heap.get? r=aA o)(hd:o.data= .set es ep t)(hf:t.fits es.size=aC)(hQ:∀h',h'.get? I=aA (V3 (.ref T) (i+1) r es.size ep)->g6 I s.heap h'->Q (aA x) {s with heap:=h'}):bi (b9 prog w) A (pyNext (.ref I)) Q E s:=by
 have hT:s.TypeIs (.ref I) "set_iterator":=⟨_,hI,rfl⟩
 unfold pyNext;refine aa (wpAny_attempt (g7 (name:=dz "__next__") hT Wv (d5 Wv hT B2 ?_ (Gd _))));unfold Builtin.«set_iterator.__next__»;refine aa (m:=slotArgs "__next__" 0 ⟨[.ref I],[]⟩) (ad ?_);refine aa (wpAny_fieldsOf hI rfl ?_);dsimp only;refine aa (wpAny_setEntries_of ho hd hf ?_);rw[fZ (by simp)];refine aa (m:=seqItems? (.ref T)) ?_;unfold seqItems?;refine aa (wpAny_load GA (ad ?_));dsimp only;have e1:(ps.map λi:Nat=>rawInt i).toArray[((i:Nat):Int).toNat]? =aA (.int (p:Int) 0):=by simp[hp,rawInt]
 rw[e1];dsimp only;refine aa ?_;unfold setNextDrawn;refine aa (wpAny_setState_of ho hd hf ?_);dsimp only;rw[fZ (by simp)];have e2:es[((p:Nat):Int).toNat]? =aA (hx,x):=by simpa using he
 rw[e2];refine ad ?_;refine aa (wpAny_setField_rec hI (by simp) λh1 g1 b1=>?_);refine ad ⟨_,rfl,ad (hQ h1 ?_ b1)⟩;rw[g1];rfl
theorem si(hh:A.handled=aB)(hI:s.heap.get? I=aA (V3 (.ref T) i r es.size ep))(GA:s.heap.get? T=aA (Mm ps))(hp:ps[i]? =aB)(ho:s.heap.get? r=aA o)(hd:o.data= .set es ep t)(hf:t.fits es.size=aC)(hQ:∀h',Heap.ExtBut I s.heap h'->Q aB {s with heap:=h'}):bi (b9 prog w) A (pyNext (.ref I)) Q E s:=by
 have hT:s.TypeIs (.ref I) "set_iterator":=⟨_,hI,rfl⟩
 unfold pyNext;refine aa (wpAny_attempt (g7 (name:=dz "__next__") hT Wv (d5 Wv hT B2 ?_ (Gd _))));unfold Builtin.«set_iterator.__next__»;refine aa (m:=slotArgs "__next__" 0 ⟨[.ref I],[]⟩) (ad ?_);refine aa (wpAny_fieldsOf hI rfl ?_);dsimp only;refine aa (wpAny_setEntries_of ho hd hf ?_);rw[fZ (by simp)];refine aa (m:=seqItems? (.ref T)) ?_;unfold seqItems?;refine aa (wpAny_load GA (ad ?_));dsimp only;have e1:(ps.map λi:Nat=>rawInt i).toArray[((i:Nat):Int).toNat]? =aB:=by simp only[Int.toNat_natCast,List.getElem?_toArray,ay,hp,Option.map_none]
 rw[e1];dsimp only;refine aa (wpAny_setField_rec hI (by simp) λh1 g1 b1=>?_);refine aa (wpAny_setField_rec (s:={s with heap:=h1}) g1 (by simp) λh2 g2 b2=>?_);refine aa (m:=newExc (.type "StopIteration") []) ?_;simp only[newExc,newTuple];refine aa (gr ?_ (by size_fits));refine aa (m:=firstArgMember _ _) (wpAny_of_eq (a:=c8) (by first|rfl| (simp only[firstArgMember];rfl)) ?_);refine gr ?_ (by size_fits);simp only[raiseNew];refine aa (wpAny_handled ?_);rw[show A.in1.handled=aB from hh];refine aa (ad (wpAny_throw ?_));refine aa (io (T:="StopIteration") (b:=aC) ⟨_,bo _ rfl,rfl⟩ isSubtype_stop ?_);exact ad (hQ _ (((b1.trans b2).extBut.push _).push _))
end
noncomputable abbrev Ix(acc:Array ag)(c:Nat):Obj:={cls:=.type "list",dict:=aB,data:=.seq acc c,slots:= #[]}
structure Tells(prog:b8)(w:dq)(A:c7)(I:ao)(fp:List ao)(ord:List ag)(St:Nat->f8->Prop):Prop where
 mem:I∈fp
 keep:∀i h h',St i h->(∀b∈fp,∀o,h.get? b=aA o->h'.get? b=aA o)->St i h'
 step:∀i (s:am) x (Q:Option ag->am->Prop) (E:ag->am->Prop),St i s.heap->ord[i]? =aA x->(∀h',St (i+1) h'->g6 I s.heap h'->Q (aA x) {s with heap:=h'})->bi (b9 prog w) A (pyNext (.ref I)) Q E s
 stop:∀(s:am) (Q:Option ag->am->Prop) (E:ag->am->Prop),St ord.length s.heap->(∀h',Heap.ExtBut I s.heap h'->Q aB {s with heap:=h'})->bi (b9 prog w) A (pyNext (.ref I)) Q E s
theorem xS{St:Nat->f8->Prop}(T:Tells prog w A.in1 I fp ord St)(hS:S∉fp)(hz:ord.length<=10000)(res):∀m i s c,i+m=ord.length->St i s.heap->s.heap.get? S=aA (Ix (ord.take i).toArray c)->
  (∀h' c',(∀b x,b≠S->b≠I->s.heap.get? b=aA x->h'.get? b=aA x)->h'.get? S=aA (Ix ord.toArray c')->R (.ok (.ret res)) {s with heap:=h'})->codeAny (b9 prog w) A (.builtin "list.extend.loop" ⟨[.ref S,.ref I,res],[]⟩) R s:=by
 have BC:S≠I:=λz=>hS (z▸T.mem);intro m;induction m with
 |zero=>intro i s c hi st hl hR;obtain rfl:i=ord.length:=hi;rw[List.take_length]at hl;refine ik PySem.F.entry_extend_loop ?_;rw[gm PySem.F.plain_extend_loop _];show bi _ A.in1 (pyNext (.ref I) >>=_) _ _ s;refine aa (T.stop s _ _ st λh' ex=>?_);exact ad (hR h' c (λb x _ hb e=>ex b x hb e) (ex S _ BC hl))
 |succ m ih=>
  intro i s c hi st hl hR;have ZK:i<ord.length:=by omega
  refine ik PySem.F.entry_extend_loop ?_;rw[gm PySem.F.plain_extend_loop _];show bi _ A.in1 (pyNext (.ref I) >>=_) _ _ s;refine aa (T.step i s ord[i] _ _ st (by simp[ZK]) λh1 RZ b1=>?_);have l1:h1.get? S=aA (Ix (ord.take i).toArray c):=(b1.2 S BC).trans hl;have tk:(ord.take i).toArray.push ord[i]=(ord.take (i+1)).toArray:=by rw[List.take_add_one,au ZK];simp
  show bi _ A.in1 (updateSeq S (·.push ord[i]) >>=_) _ _ _;refine aa (wpAny_updateSeq l1 rfl (ad ⟨plainId_quiet PySem.F.plain_extend_loop _,?_⟩) (by rw[bx,List.length_take,gz];omega) (by show((ord.take i).toArray.push ord[i]).size<=_;rw[tk,bx,List.length_take,gz];omega));have g2:=Heap.get?_update_self (d8 (·.push ord[i])) l1 rfl;have hm:∃c',d8 (·.push ord[i]) (Ix (ord.take i).toArray c)=Ix (ord.take (i+1)).toArray c':=by rw[<-tk];exact⟨_,rfl⟩
  obtain⟨c',TX⟩:=hm;rw[TX]at g2;refine ih (i+1) _ c' (by omega) (T.keep _ _ _ RZ λb hb x e=>(Heap.get?_update_other _ _ (λz:S=b=>hS (by rw[z];exact hb))).trans e) g2 λh3 c3 k3 g3=>?_;exact hR h3 c3 (λb x hb BB e=>k3 b x hb BB ((Heap.get?_update_other _ _ (Ne.symm hb)).trans ((b1.2 b BB).trans e))) g3
theorem nU(hT:s.TypeIs (.ref r) "set")(h:Q aD s):bi (b9 prog w) A (Builtin.List.listLengthHint (.ref r)) Q E s:=by
 unfold Builtin.List.listLengthHint;refine aa (wpAny_specialOf hT PySem.F.slot_set_len.lookup ?_);generalize hid:("set.__len__":String)=id0
 wp_delta
 rw[show splitId id0=aA ("set","__len__")from by subst hid;decide+kernel];subst hid;refine aa (io (T:="set") (b:=aC) hT sub_set_self ?_);refine wpAny_ite_split (λz=>eF z (by decide)) λ_=>?_;refine wpAny_ite_split (λ_=>?_) λz=>eF (by decide+kernel) z;exact aa (wpAny_typeOf hT (ad h))
theorem xR(f):∀n k l (out:Array α),n=l.length->(pickOrder.go f n k l out).toList.Perm (out.toList++l)
 |0,k,l,out,h=>by have:l=[]:=List.eq_nil_of_length_eq_zero h.symm;subst this;unfold pickOrder.go;simp
 |n+1,k,l,out,h=>by
  unfold pickOrder.go;have hp:0<l.length:=by omega
  have hm:f k % l.length<l.length:=Nat.mod_lt _ hp;rw[au hm];dsimp only;refine(xR f n (k+1) _ _ (by rw[List.length_eraseIdx_of_lt hm];omega)).trans ?_;rw[Array.toList_push,ib];exact(Ml l _ hm).append_left _
theorem lq(f)(xs:Array α):(pickOrder f xs).toList.Perm xs.toList:=by have:=xR f xs.size 0 xs.toList #[] (bf).symm;simpa[pickOrder]using this
noncomputable def sl(t:ic):Nat->Nat
 |0=>0
 |i+1=>t.place.getD i 0+1
theorem zN(h:Ce t.place.toList)(hi:i<=t.place.size):SetTable.below t.place (sl t i)=i:=by
 refine xV (Ef h _) ⟨hi,λk y hk e=>?_,λk y hk e=>?_⟩
 .cases i with
  |zero=>omega
  |succ i=>
   have hp:i<t.place.size:=by omega
   have e2:t.place[i]? =aA t.place[i]:=by simp[hp]
   have eg:sl t (i+1)=t.place[i]+1:=by unfold sl;simp[Array.getD,hp]
   rw[eg];by_cases z:k=i
   .subst z;rw[e2]at e;cases e;omega
   .have:=B0 h e e2 (by omega);omega
 .cases i with
  |zero=>exact gd _
  |succ i=>
   have hp:i<t.place.size:=by omega
   have e2:t.place[i]? =aA t.place[i]:=by simp[hp]
   have eg:sl t (i+1)=t.place[i]+1:=by unfold sl;simp[Array.getD,hp]
   rw[eg];have:=B0 h e2 e (by omega);omega
theorem Nr(h:r≠I)(b:g6 I h1 h2)(e:h1.get? r=aA x):h2.get? r=aA x:=(b.2 r h).trans e
theorem Hf(hh:A.handled=aB)(hr:r≠I)(hd:o.data= .set es ep t)(hf:t.fits es.size=aC)(hB:By w=aD)(hl:t.led=aC)(hp:(!t.plain&&decide (es.size > 1))=aD)(rise:Ce t.place.toList)(sz:t.place.size=es.size):
  Tells prog w A I [I,r] (es.toList.map (·.2)) (λi h=>h.get? I=aA (V3 (.int (sl t i:Int) 0) i r es.size ep)/\h.get? r=aA o):=by
 refine⟨by simp,λi h h' st k=>⟨k I (by simp) _ st.1,k r (by simp) _ st.2⟩,λi s x Q E st hx hQ=>?_,λs Q E st hQ=>?_⟩
 .rw[ay]at hx;obtain⟨e,he,rfl⟩:=cz.mp hx;rw[de]at he;have hi:i<es.size:=(g9.mp he).1;have VB:i<t.place.size:=by omega
  have e2:t.place[i]? =aA t.place[i]:=by simp[VB]
  have nx:=Kf (prog:=prog) (w:=w) (A:=A.in1) (s:=s) (slot:=sl t i) (i:=i) hB st.2 hd hf hl hp;rw[zN rise (by omega),he,e2]at nx;refine zP st.1 st.2 hd hf nx λh' g b=>hQ h' ⟨?_,Nr hr b st.2⟩ b;have eg:sl t (i+1)=t.place[i]+1:=by unfold sl;simp[Array.getD,VB]
  rw[eg];exact g
 .have hn:(es.toList.map (·.2)).length=es.size:=by rw[aj,bf]
  rw[hn]at st;have nx:=Kf (prog:=prog) (w:=w) (A:=A.in1) (s:=s) (slot:=sl t es.size) (i:=es.size) hB st.2 hd hf hl hp;rw[zN rise (by omega),show es[es.size]? =aB by simp]at nx;exact zO hh st.1 st.2 hd hf nx hQ
theorem j4(hh:A.handled=aB)(hr:r≠I)(hd:o.data= .set es ep t)(hf:t.fits es.size=aC)(hB:By w=aC):
  Tells prog w A I [I,r] ((pickOrder (w.params.setOrder r ep) es).toList.map (·.2)) (λi h=>h.get? I=aA (V3 (.int ((0:Nat):Int) 0) i r es.size ep)/\h.get? r=aA o):=by
 refine⟨by simp,λi h h' st k=>⟨k I (by simp) _ st.1,k r (by simp) _ st.2⟩,λi s x Q E st hx hQ=>?_,λs Q E st hQ=>?_⟩
 .rw[ay]at hx;obtain⟨e,he,rfl⟩:=cz.mp hx;rw[de]at he;have nx:=Sw (prog:=prog) (w:=w) (A:=A.in1) (s:=s) (slot:=0) (i:=i) hB st.2 hd hf;rw[he]at nx;exact zP st.1 st.2 hd hf nx λh' g b=>hQ h' ⟨g,Nr hr b st.2⟩ b
 .have nx:=Sw (prog:=prog) (w:=w) (A:=A.in1) (s:=s) (slot:=0) (i:=((pickOrder (w.params.setOrder r ep) es).toList.map (·.2)).length) hB st.2 hd hf;rw[aj,bf,show(pickOrder (w.params.setOrder r ep) es)[(pickOrder (w.params.setOrder r ep) es).size]? =aB by simp]at nx;rw[aj,bf]at st;exact zO hh st.1 st.2 hd hf nx hQ
theorem Hg(hh:A.handled=aB)(hr:r≠I)(hT:T≠I)(hd:o.data= .set es ep t)(hf:t.fits es.size=aC)(hp:∀p∈ps,p<es.size):
  Tells prog w A I [I,r,T] (ps.map λp=>(es.getD p (0,.none)).2) (λi h=>h.get? I=aA (V3 (.ref T) i r es.size ep)/\h.get? r=aA o/\h.get? T=aA (Mm ps)):=by
 refine⟨by simp,λi h h' st k=>⟨k I (by simp) _ st.1,k r (by simp) _ st.2.1,k T (by simp) _ st.2.2⟩,λi s x Q E st hx hQ=>?_,λs Q E st hQ=>?_⟩
 .rw[ay]at hx;obtain⟨p,he,rfl⟩:=cz.mp hx;have lt:=hp p (cf he);have e2:es[p]? =aA ((es.getD p (0,.none)).1,(es.getD p (0,.none)).2):=by simp[Array.getD,lt]
  exact sj st.1 st.2.2 he e2 st.2.1 hd hf λh' g b=>hQ h' ⟨g,Nr hr b st.2.1,Nr hT b st.2.2⟩ b
 .rw[aj]at st;exact si hh st.1 st.2.2 (by simp) st.2.1 hd hf hQ
theorem Nt{St}{res}(T:Tells prog w A.in1 I fp ord St)(hS:S∉fp)(hz:ord.length<=10000)(hT:s.TypeIs (.ref r) "set")(st:St 0 s.heap)(hl:s.heap.get? S=aA (Ix #[] c)){f:Bool->Bool}(hR:∀h' c',(∀b x,b≠S->b≠I->s.heap.get? b=aA x->h'.get? b=aA x)->h'.get? S=aA (Ix ord.toArray c')->R (.ok (.ret res)) {s with heap:=h'}):
  bi (b9 prog w) A.in1 (do
   let room<-holding [.ref I] (Builtin.List.listLengthHint (.ref r))
   if f room=aC then do
    rule "list.extend.makes-room"
    Builtin.List.listTouch (.ref S)
    again (.builtin "list.extend.loop" ⟨[.ref S,.ref I,res],[]⟩)
   else again (.builtin "list.extend.loop" ⟨[.ref S,.ref I,res],[]⟩))
   (λfin s'=>match fin with| .done f=>R (.ok f) s'| .again c'=>c'.quiet=aC/\codeAny (b9 prog w) A c' R s') (λe s'=>R (.error e) s') s:=by
 refine aa (f9 (nU hT ?_));refine wpAny_ite_split (λ_=>?_) (λ_=>ad ⟨plainId_quiet PySem.F.plain_extend_loop _,xS T hS hz res ord.length 0 s c (by omega) st (by simpa using hl) hR⟩);refine aa (wpAny_rule (aa ?_));show bi _ _ (updateSeq S (·.push .none) >>=λ_=>updateSeq S (·.pop)) _ _ _;refine aa (wpAny_updateSeq hl rfl ?_);have l2:=Heap.get?_update_self (d8 (·.push c8)) hl rfl;refine wpAny_updateSeq (hz:=by seq_fits) l2 rfl ?_;have l3:=Heap.get?_update_self (d8 (·.pop)) l2 rfl;have DL:∀b x,b≠S->s.heap.get? b=aA x->((s.heap.update S (d8 (·.push c8))).update S (d8 (·.pop))).get? b=aA x:=
  λb x hb e=>(Heap.get?_update_other _ _ (Ne.symm hb)).trans ((Heap.get?_update_other _ _ (Ne.symm hb)).trans e)
 refine ad ⟨plainId_quiet PySem.F.plain_extend_loop _,xS T hS hz res ord.length 0 _ _ (by omega) (T.keep _ _ _ st λb hb x e=>DL b x (λz=>hS (z▸hb)) e) l3 λh' c' k g=>?_⟩;exact hR h' c' (λb x hb hI e=>k b x hb hI (DL b x hb e)) g
theorem ur{res}(hh:A.handled=aB)(ho:s.heap.get? r=aA o)(hx:o.ExactSet)(hd:o.data= .set es ep t)(hf:t.fits es.size=aC)(YY:t.led= !By w)(rise:t.plain=aC->Ce t.place.toList)(hr:es.size<=1000)(hS:S≠r)(hl:s.heap.get? S=aA (Ix #[] c))(hR:∀h' d c' (ord:List ag),ord.Perm (es.toList.map (·.2))->(∀b x,b≠S->s.heap.get? b=aA x->h'.get? b=aA x)->h'.get? S=aA (Ix ord.toArray c')->R (.ok (.ret res)) {s with heap:=h',drawn:=d}):
  bi (b9 prog w) A.in1 (Builtin.List.listExtendWith (.ref S) (.ref r) res) (λfin s'=>match fin with| .done f=>R (.ok f) s'| .again c'=>c'.quiet=aC/\codeAny (b9 prog w) A c' R s') (λe s'=>R (.error e) s') s:=by
 have hb:es.size<scanBound:=by unfold scanBound;omega
 have wo:t.place.size=es.size:=by unfold SetTable.fits at hf;simp only[Bool.and_eq_true,beq_iff_eq]at hf;exact hf.1
 have hT:s.TypeIs (.ref r) "set":=⟨o,ho,hx.1⟩
 have I_:S<s.heap.objs.size:=bp hl;have QH:r<s.heap.objs.size:=bp ho;unfold Builtin.List.listExtendWith;refine aa (wpAny_typeOf (T:="set") hT ?_);have z1:Builtin.List.listSameRef (.ref S) (.ref r)=aD:=by simp[Builtin.List.listSameRef,hS]
 have z2:(Value.type "set"==Value.type "list")=aD:=by decide
 have z3:(Value.type "set"==Value.type "tuple")=aD:=by decide
 simp only[z1,z2,z3,Bool.or_false,bq,if_false];have YK:A.in1.handled=aB:=hh;refine aa (nV ho hx hd hf hb (λhc=>?_) λhc ps d hp=>?_)
 .have rI:r≠s.heap.objs.size:=cm QH;have SI:S≠s.heap.objs.size:=cm I_;have nf:S∉[s.heap.objs.size,r]:=by simp only[bj,List.not_mem_nil,or_false,not_or];exact⟨SI,hS⟩
  have old:∀b x,s.heap.get? b=aA x->b≠s.heap.objs.size:=λb x e=>cm (bp e);cases hB:By w with
  |false=>
   have WN:t.led=aC:=by rw[YY,hB];rfl
   have hp:(!t.plain&&decide (es.size > 1))=aD:=by rw[hB]at hc;simpa using hc
   have rise:Ce t.place.toList:=by
    cases ZF:t.plain with
    |true=>exact rise ZF
    |false=>
     rw[ZF]at hp;have:¬es.size > 1:=by simpa using hp
     unfold Ce;have hle:t.place.toList.length<=1:=by rw[bf];omega
     match hq:t.place.toList,hle with
     | [],_=>exact List.Pairwise.nil
     | [a],_=>exact List.pairwise_singleton _ _
   refine Nt (Hf YK rI hd hf hB WN hp rise wo) nf (by rw[aj,bf];omega) ⟨o,aq _ ho,hx.1⟩ ⟨bo _ rfl,aq _ ho⟩ (aq _ hl) (f:=λb=>b||_) λh' c' k g=>?_;exact hR h' s.drawn c' _ (List.Perm.refl _) (λb x hb e=>k b x hb (old b x e) (aq _ e)) g
  |true=>have pp:=lq (w.params.setOrder r ep) es;refine Nt (j4 YK rI hd hf hB) nf (by rw[aj,pp.length_eq,bf];omega) ⟨o,aq _ ho,hx.1⟩ ⟨bo _ rfl,aq _ ho⟩ (aq _ hl) (f:=λb=>b||_) λh' c' k g=>?_;exact hR h' s.drawn c' _ (pp.map _) (λb x hb e=>k b x hb (old b x e) (aq _ e)) g
 .have wq:∀p∈ps,p<es.size:=λp hq=>cq.mp (hp.mem_iff.mp hq);have rI:r≠s.heap.objs.size+1:=cm (Nat.lt_succ_of_lt QH);have TI:s.heap.objs.size≠s.heap.objs.size+1:=cm (Nat.lt_succ_self _);have nf:S∉[s.heap.objs.size+1,r,s.heap.objs.size]:=by simp only[bj,List.not_mem_nil,or_false,not_or];exact⟨cm (Nat.lt_succ_of_lt I_),hS,cm I_⟩
  have up:∀b x,s.heap.get? b=aA x->((s.heap.push (Mm ps)).push (V3 (.ref s.heap.objs.size) 0 r es.size ep)).get? b=aA x:=λb x e=>aq _ (aq _ e);have wL:(s.heap.push (Mm ps)).objs.size=s.heap.objs.size+1:=Heap.size_push _ _;have gI:((s.heap.push (Mm ps)).push (V3 (.ref s.heap.objs.size) 0 r es.size ep)).get? (s.heap.objs.size+1)=aA (V3 (.ref s.heap.objs.size) 0 r es.size ep):=by rw[<-wL];exact bo _ rfl
  have gT:((s.heap.push (Mm ps)).push (V3 (.ref s.heap.objs.size) 0 r es.size ep)).get? s.heap.objs.size=aA (Mm ps):=aq _ (bo _ rfl);have pl:(ps.map λp=>es.getD p (0,c8)).Perm es.toList:=by
   refine(hp.map _).trans ?_;have:(cr es.size).map (λp=>es.getD p (0,c8))=es.toList:=by
    apply List.ext_getElem?;intro i;rw[ay];by_cases hi:i<es.size
    .rw[List.getElem?_range hi,de];simp[Array.getD,hi]
    .rw[d7 (by simpa using hi),d7 (by simpa using hi)];rfl
   rw[this]
  have eo:(ps.map λp=>(es.getD p (0,c8)).2)=(ps.map λp=>es.getD p (0,c8)).map (·.2):=by rw[cp];rfl
  refine Nt (s:={s with heap:=(s.heap.push (Mm ps)).push (V3 (.ref s.heap.objs.size) 0 r es.size ep),drawn:=d}) (Hg YK rI TI hd hf wq) nf (by rw[aj,hp.length_eq,List.length_range];omega) ⟨o,up _ _ ho,hx.1⟩ ⟨gI,up _ _ ho,gT⟩ (up _ _ hl) (f:=λb=>b||_) λh' c' k g=>?_;rw[eo]at g;exact hR h' d c' _ (pl.map _) (λb x hb e=>k b x hb (cm (Nat.lt_succ_of_lt (bp e))) (up b x e)) g
theorem lm(hh:A.handled=aB)(ho:s.heap.get? r=aA o)(hx:o.ExactSet)(hd:o.data= .set es ep t)(hf:t.fits es.size=aC)(YY:t.led= !By w)(rise:t.plain=aC->Ce t.place.toList)(hr:es.size<=1000)(h:∀ord h' d,ord.Perm (es.toList.map (·.2))->(∀b x,s.heap.get? b=aA x->h'.get? b=aA x)->s.heap.objs.size<=h'.objs.size->Q ord {s with heap:=h',drawn:=d}):bi (b9 prog w) A (collect (.ref r)) Q E s:=by
 have QH:r<s.heap.objs.size:=bp ho;have nS:s.heap.objs.size≠r:=Nat.ne_of_gt QH;unfold collect;refine aa (wpAny_runValue (ik PySem.F.entry_proto_collect ?_));rw[gm PySem.F.plain_proto_collect _];show bi _ A.in1 (newList [] >>=λl=>again (.builtin "list.__iadd__" ⟨[l,.ref r],[]⟩)) _ _ s;refine aa (gr ?_);refine ad ⟨plainId_quiet PySem.F.plain_list_iadd _,ik PySem.F.entry_list_iadd ?_⟩;rw[gm PySem.F.plain_list_iadd _];show bi _ A.in1 (Builtin.List.listExtendWith (.ref s.heap.objs.size) (.ref r) (.ref s.heap.objs.size)) _ _ _;refine ur (R:=λrr s'=>match rr with
  | .ok (.ret v)=>bi (b9 prog w) A (match v with
   | .ref a=>(load a >>=λx=>match x.data with
    | .seq xs _=>pure xs.toList
    |_=>unsupported "internal:collect")
   |_=>unsupported "internal:collect") Q E s'
  | .ok _=>False
  | .error e=>E e s') (s:={s with heap:=s.heap.push (Ix #[] 0)}) (c:=0) hh (aq _ ho) hx hd hf YY rise hr nS (bo _ rfl) λh' d c' ord hp hk g=>?_
 show bi _ A (load s.heap.objs.size >>=_) _ _ _;refine aa (wpAny_load g ?_);refine ad ?_;have e:ord.toArray.toList=ord:=by simp
 show Q ord.toArray.toList _;rw[e];exact h ord h' d hp (λb x e=>hk b x (cm (bp e)) (aq _ e)) (Nat.le_of_lt (bp g))
def srt(ns:List Int):List Int:=(dd (λi=>ns.getD i 0) ns.length).mergeSort λa b=>decide (a<=b)
theorem gY.drawnAt{σ:St}(I:gY X gR σ H s)(d):gY X gR σ H {s with drawn:=d}:=
 ⟨I.ok,I.os,I.bare,I.base,I.loc,I.cell,I.free,I.freeC,I.pin,I.hok,I.len⟩
theorem M8:bootBuiltins "sorted"=aA (.builtin "sorted"):=by kernel_rfl
theorem kC:bootBuiltins "set"=aA (.type "set"):=by kernel_rfl
section
open PySem.W
def W9{α:Type}(lt:Nat->Nat->Bool)(n:Nat)(R:α->Prop):KasT α->Prop
 | .ret a=>R a
 | .ask i j k=>i<n/\j<n/\W9 lt n R (k (lt i j))
theorem W9.bind{f:α->KasT β}(h:∀a,R a->W9 lt n S (f a)):∀{t:KasT α},W9 lt n R t->W9 lt n S (t.bind f)
 | .ret a,g=>h a g
 | .ask i j k,g=>⟨g.1,g.2.1,W9.bind h (t:=k (lt i j)) g.2.2⟩
theorem W9.mono{R:α->Prop}(h:∀a,R a->S a):∀{t:KasT α},W9 lt n R t->W9 lt n S t
 | .ret a,g=>h a g
 | .ask i j k,g=>⟨g.1,g.2.1,W9.mono h (t:=k (lt i j)) g.2.2⟩
theorem W9.wp{I:am->Prop}{Q:α->am->Prop}(hc:∀i j C s,i<n->j<n->I s->(∀s',I s'->C (lt i j) s')->cmp i j C s)(hq:∀a s,R a->I s->Q a s):∀{t:KasT α} {s:am},W9 lt n R t->I s->t.kasWp cmp Q s
 | .ret a,s,g,i=>hq a s g i
 | .ask i j k,s,g,x=>hc i j _ s g.1 g.2.1 x λs' x'=>W9.wp hc hq (t:=k (lt i j)) g.2.2 x'
section
variable{O:KeyOrd}{key:Nat->O.α}{n:Nat}
noncomputable abbrev Iy(O:KeyOrd)(key:Nat->O.α)(i j:Nat):Bool:=O.blt (key i) (key j)
noncomputable def Kp(key:Nat->O.α)(p:Array Nat)(i:Nat):O.α:=key (p.getD i 0)
def Nu(key:Nat->O.α)(p:Array Nat)(k:Nat):Prop:=∀i j,i<=j->j<k->O.kle (Kp key p i) (Kp key p j)
def Dec(key:Nat->O.α)(p:Array Nat)(k:Nat):Prop:=∀i j,i<=j->j<k->O.kle (Kp key p j) (Kp key p i)
def Pm(n:Nat)(p:Array Nat):Prop:=p.Perm (List.toArray (cr n))
theorem Pm.size(h:Pm n p):p.size=n:=by have:=(Array.perm_iff_toList_perm.mp h).length_eq;simpa using this
theorem Pm.lt(h:Pm n p){i}(hi:i<n):p.getD i 0<n:=by
 have hs:i<p.size:=by rw[h.size];exact hi
 have hm:p[i]∈(cr n):=(Array.perm_iff_toList_perm.mp h).mem_iff.mp (by simp);rw[Array.getD_eq_getD_getElem?,getElem?_pos p i hs];exact cq.mp hm
theorem Cu(h:p[i]? =q[j]?):Kp key p i=Kp key q j:=by unfold Kp;rw[Array.getD_eq_getD_getElem?,Array.getD_eq_getD_getElem?,h]
theorem Eg(hj:j<=p.size)(k):Kp key (kas_rev p i j) k=if i<=k/\k<j then Kp key p (i+j- 1- k)else Kp key p k:=by
 have e:=getElem?_mirror_all (xs:=p) (i:=i) hj k;unfold kas_rev;by_cases h:i<=k/\k<j
 .rw[f_ h]at e⊢;exact Cu e
 .rw[fZ h]at e⊢;exact Cu e
theorem yU(hs:src<p.size)(hd:d<=src)(k):Kp key (bubble p src d) k=if k=src- d then Kp key p src else if src- d<k/\k<=src then Kp key p (k- 1)else Kp key p k:=by
 have e:=getElem?_bubble hs d hd k;by_cases h1:k=src- d
 .rw[f_ h1]at e⊢;exact Cu e
 .rw[fZ h1]at e⊢;by_cases h2:src- d<k/\k<=src
  .rw[f_ h2]at e⊢;exact Cu e
  .rw[fZ h2]at e⊢;exact Cu e
theorem Pm.rev(h:Pm n p)(i j):Pm n (kas_rev p i j):=(mirror_perm p i j _).trans h
theorem Pm.bub(h:Pm n p)(i j):Pm n (bubble p i j):=(bubble_perm p i j).trans h
theorem Eh(hp:Pm n p):∀f m,1<=m->m+f<=n->Nu key p m->
  W9 (Iy O key) n (λr=>m<=r/\r<=m+f/\Nu key p r/\(r=m+f\/O.klt (Kp key p r) (Kp key p (r- 1)))) (kas_asc p f m)
 |0,m,_,_,hs=>⟨bc _,bc _,hs,.inl rfl⟩
 |f+1,m,h1,hm,hs=>by
  refine⟨hp.lt (by omega),hp.lt (by omega),?_⟩;show W9 _ _ _ (if O.blt (Kp key p m) (Kp key p (m- 1))=aC then _ else _);by_cases c:O.blt (Kp key p m) (Kp key p (m- 1))=aC
  .rw[f_ c];exact⟨bc _,by omega,hs,.inr c⟩
  .rw[fZ c];refine(Eh hp f (m+1) (by omega) (by omega) λi j YJ hj=>?_).mono λr ⟨a,b,d,e⟩=>⟨by omega,by omega,d,by rcases e with e|e;exact .inl (by omega);exact .inr e⟩
   by_cases OR:j<m
   .exact hs i j YJ OR
   .have:j=m:=by omega
    subst this;by_cases hi:i=j
    .subst hi;exact KeyOrd.kle_refl _
    .exact KeyOrd.kle_trans (hs i (j- 1) (by omega) (by omega)) (KeyOrd.kle_of_not_klt c)
theorem Ge:∀f p m q,Pm n p->1<=m->m+f<=n->Dec key p m->q+1<=m->(∀i,m- (q+1)<=i->i<m->Kp key p i=Kp key p (m- 1))->
  W9 (Iy O key) n (λr=>Pm n r.1/\m<=r.2.1/\r.2.1<=m+f/\Dec key r.1 r.2.1/\r.2.2+1<=r.2.1/\∀i,r.2.1- (r.2.2+1)<=i->i<r.2.1->Kp key r.1 i=Kp key r.1 (r.2.1- 1)) (kas_desc f p m q)
 |0,p,m,q,hp,_,_,hs,hq,he=>⟨hp,bc _,bc _,hs,hq,he⟩
 |f+1,p,m,q,hp,h1,hm,hs,hq,he=>by
  have hsz:m<=p.size:=by rw[hp.size];omega
  refine⟨hp.lt (by omega),hp.lt (by omega),?_⟩;show W9 _ _ _ (if O.blt (Kp key p m) (Kp key p (m- 1))=aC then _ else _);have up:∀{r:Array Nat×Nat×Nat},(Pm n r.1/\m+1<=r.2.1/\r.2.1<=m+1+f/\Dec key r.1 r.2.1/\r.2.2+1<=r.2.1/\∀i,r.2.1- (r.2.2+1)<=i->i<r.2.1->Kp key r.1 i=Kp key r.1 (r.2.1- 1))->
    (Pm n r.1/\m<=r.2.1/\r.2.1<=m+(f+1)/\Dec key r.1 r.2.1/\r.2.2+1<=r.2.1/\∀i,r.2.1- (r.2.2+1)<=i->i<r.2.1->Kp key r.1 i=Kp key r.1 (r.2.1- 1)):=
   λ⟨a,b,c,d⟩=>⟨a,by omega,by omega,d⟩
  have UY:∀x:Array Nat,O.blt (Kp key p m) (Kp key p (m- 1))=aC->(∀k,Kp key x k=Kp key p k)->Dec key x (m+1):=by
   intro x c hk i j YJ hj;rw[hk,hk];by_cases QI:j<m
   .exact hs i j YJ QI
   .have RN:j=m:=by omega
    subst RN;by_cases VB:i=j
    .subst VB;exact KeyOrd.kle_refl _
    .exact KeyOrd.kle_trans (KeyOrd.kle_of_klt c) (hs i (j- 1) (by omega) (by omega))
  have one:∀x:Array Nat,∀i,m+1- (0+1)<=i->i<m+1->Kp key x i=Kp key x (m+1- 1):=λx i a b=>by congr 1;omega
  by_cases c:O.blt (Kp key p m) (Kp key p (m- 1))=aC
  .rw[f_ c];by_cases hq0:q > 0
   .rw[f_ hq0];refine(Ge f (kas_rev p (m- (q+1)) m) (m+1) 0 (hp.rev _ _) (by omega) (by omega) (UY _ c λk=>?_) (by omega) (one _)).mono λr=>up;rw[Eg hsz];by_cases hk:m- (q+1)<=k/\k<m
    .rw[f_ hk,he _ (by omega) (by omega),he k hk.1 hk.2]
    .rw[fZ hk]
   .rw[fZ hq0];exact(Ge f p (m+1) 0 hp (by omega) (by omega) (UY _ c λ_=>rfl) (by omega) (one _)).mono λr=>up
  .rw[fZ c];refine⟨hp.lt (by omega),hp.lt (by omega),?_⟩;show W9 _ _ _ (if O.blt (Kp key p (m- 1)) (Kp key p m)=aC then _ else _);by_cases d:O.blt (Kp key p (m- 1)) (Kp key p m)=aC
   .rw[f_ d];exact⟨hp,bc _,Nat.le_add_right _ _,hs,hq,he⟩
   .rw[fZ d];have ex:Kp key p m=Kp key p (m- 1):=KeyOrd.kle_antisymm (by simpa[KeyOrd.kle]using d) (by simpa[KeyOrd.kle]using c);refine(Ge f p (m+1) (q+1) hp (by omega) (by omega) (λi j YJ hj=>?_) (by omega) λi a b=>?_).mono λr=>up
    .by_cases QI:j<m
     .exact hs i j YJ QI
     .have RN:j=m:=by omega
      subst RN;by_cases VB:i=j
      .subst VB;exact KeyOrd.kle_refl _
      .rw[ex];exact hs i (j- 1) (by omega) (by omega)
    .rw[show m+1- 1=m by omega];by_cases hix:i=m
     .subst hix;rfl
     .rw[ex];exact he i (by omega) (by omega)
abbrev Ct(key:Nat->O.α)(n:Nat)(r:Nat×Array Nat):Prop:=Pm n r.2/\1<=r.1/\r.1<=n/\Nu key r.2 r.1
theorem Ei(hp:Pm n p)(h1:1<=m)(hm:m<=n)(hs:Dec key p m):W9 (Iy O key) n (Ct key n) (kas_tail3 m n p):=by
 have hsz:m<=p.size:=by rw[hp.size];exact hm
 refine W9.bind (R:=λr=>m<=r/\r<=m+(n- m)/\Nu key (kas_rev p 0 m) r/\_) (λr ⟨a,b,c,_⟩=>⟨hp.rev _ _,by show 1<=r;omega,by show r<=n;omega,c⟩) (Eh (hp.rev 0 m) (n- m) m h1 (by omega) λi j YJ hj=>?_);rw[Eg hsz,Eg hsz,f_ (by omega),f_ (by omega)];exact hs _ _ (by omega) (by omega)
theorem Gw(hp:Pm n p)(hm:m+1<=n)(hs:Dec key p (m+1)):W9 (Iy O key) n (Ct key n) (kas_descPart m n p):=by
 refine W9.bind (λr h=>?_) (Ge (n- (m+1)) p (m+1) 0 hp (by omega) (by omega) hs (by omega) λi a b=>by congr 1;omega);obtain⟨a,b,c,d,e,g⟩:=h;have hsz:r.2.1<=r.1.size:=by rw[a.size];omega
 by_cases hq:r.2.2 > 0
 .rw[f_ hq];refine Ei (a.rev _ _) (by omega) (by omega) λi j YJ hj=>?_;have k:∀x,Kp key (kas_rev r.1 (r.2.1- (r.2.2+1)) r.2.1) x=Kp key r.1 x:=λx=>by
   rw[Eg hsz];by_cases hk:r.2.1- (r.2.2+1)<=x/\x<r.2.1
   .rw[f_ hk,g _ (by omega) (by omega),g x hk.1 hk.2]
   .rw[fZ hk]
  rw[k,k];exact d i j YJ hj
 .rw[fZ hq];exact Ei a (by omega) (by omega) d
theorem Hh(hp:Pm n p)(h1:1<=n):W9 (Iy O key) n (Ct key n) (kas_count n p):=by
 refine W9.bind (λm h=>?_) (Eh (key:=key) hp (n- 1) 1 (bc _) (by omega) λi j YJ hj=>by(have:i=j:=by omega);subst this;exact KeyOrd.kle_refl _);obtain⟨a,b,c,d⟩:=h;by_cases hm:(m==n)=aC
 .rw[f_ hm];exact⟨hp,a,by show m<=n;omega,c⟩
 .rw[fZ hm];have WX:m≠n:=λz=>hm (by rw[z];exact beq_self_eq_true n);have br:O.klt (Kp key p m) (Kp key p (m- 1)):=by
   rcases d with d|d
   .omega
   .exact d
  by_cases h2:m > 1
  .rw[f_ h2];refine⟨hp.lt (by omega),hp.lt (by omega),?_⟩;show W9 _ _ _ (if O.blt (Kp key p 0) (Kp key p (m- 1))=aC then _ else _);by_cases c0:O.blt (Kp key p 0) (Kp key p (m- 1))=aC
   .rw[f_ c0];exact⟨hp,a,by show m<=n;omega,c⟩
   .rw[fZ c0];have hsz:m<=p.size:=by rw[hp.size];omega
    have eq:∀i,i<m->Kp key p i=Kp key p (m- 1):=λi hi=>
     KeyOrd.kle_antisymm (c i (m- 1) (by omega) (by omega)) (KeyOrd.kle_trans (by simpa[KeyOrd.kle]using c0) (c 0 i (by omega) hi))
    have k:∀x,Kp key (kas_rev p 0 m) x=Kp key p x:=λx=>by
     rw[Eg hsz];by_cases hk:0<=x/\x<m
     .rw[f_ hk,eq _ (by omega),eq x hk.2]
     .rw[fZ hk]
    refine Gw (hp.rev 0 m) (by omega) λi j YJ hj=>?_;rw[k,k];by_cases OR:j=m
    .subst OR;by_cases hi:i=j
     .subst hi;exact KeyOrd.kle_refl _
     .rw[eq i (by omega)];exact KeyOrd.kle_of_klt br
    .rw[eq i (by omega),eq j (by omega)];exact KeyOrd.kle_refl _
  .rw[fZ h2];have:m=1:=by omega
   subst this;refine Gw hp (by omega) λi j YJ hj=>?_;by_cases hi:i=j
   .subst hi;exact KeyOrd.kle_refl _
   .have:i=0:=by omega
    subst this;have:j=1:=by omega
    subst this;exact KeyOrd.kle_of_klt br
theorem G5(hp:Pm n p)(hk:k<n)(hs:Nu key p k):∀f l r,l<=r->r<=k->r- l<=f->(∀i,i<l->O.kle (Kp key p i) (Kp key p k))->(∀i,r<=i->i<k->O.kle (Kp key p k) (Kp key p i))->
  W9 (Iy O key) n (λm=>m<=k/\(∀i,i<m->O.kle (Kp key p i) (Kp key p k))/\∀i,m<=i->i<k->O.kle (Kp key p k) (Kp key p i)) (kas_place p k f l r)
 |0,l,r,QH,hr,hf,h1,h2=>⟨by omega,h1,λi a b=>h2 i (by omega) b⟩
 |f+1,l,r,QH,hr,hf,h1,h2=>by
  show W9 _ _ _ (if l>=r then _ else _);by_cases c:l>=r
  .rw[f_ c];exact⟨by omega,h1,λi a b=>h2 i (by omega) b⟩
  .rw[fZ c];refine⟨hp.lt hk,hp.lt (by omega),?_⟩;show W9 _ _ _ (if O.blt (Kp key p k) (Kp key p ((l+r) / 2))=aC then _ else _);by_cases d:O.blt (Kp key p k) (Kp key p ((l+r) / 2))=aC
   .rw[f_ d];exact G5 hp hk hs f l ((l+r) / 2) (by omega) (by omega) (by omega) h1 λi a b=>KeyOrd.kle_trans (KeyOrd.kle_of_klt d) (hs _ i a b)
   .rw[fZ d];exact G5 hp hk hs f ((l+r) / 2+1) r (by omega) hr (by omega) (λi a=>KeyOrd.kle_trans (hs i ((l+r) / 2) (by omega) (by omega)) (KeyOrd.kle_of_not_klt d)) h2
theorem Sx:∀f p k,Pm n p->k+f=n->Nu key p k->W9 (Iy O key) n (λq=>Pm n q/\Nu key q n) (kas_bin f p k)
 |0,p,k,hp,hk,hs=>⟨hp,by(have:k=n:=hk);rw[<-this];exact hs⟩
 |f+1,p,k,hp,hk,hs=>by
  refine W9.bind (λl h=>?_) (G5 hp (by omega) hs k 0 k (gd _) (bc _) (by omega) (λi hi=>eF hi (f7 _)) λi a b=>eF b (by omega));obtain⟨hl,a,b⟩:=h;have hsz:k<p.size:=by rw[hp.size];omega
  refine Sx f (bubble p k (k- l)) (k+1) (hp.bub _ _) (by omega) λi j YJ hj=>?_;rw[yU hsz (by omega),yU hsz (by omega)];have e:k- (k- l)=l:=by omega
  rw[e];by_cases i1:i=l
  .rw[f_ i1];by_cases j1:j=l
   .rw[f_ j1];exact KeyOrd.kle_refl _
   .rw[fZ j1,f_ (by omega)];exact b (j- 1) (by omega) (by omega)
  .rw[fZ i1];by_cases i2:l<i/\i<=k
   .rw[f_ i2,fZ (by omega),f_ (by omega)];exact hs _ _ (by omega) (by omega)
   .rw[fZ i2];by_cases j1:j=l
    .rw[f_ j1];exact a i (by omega)
    .rw[fZ j1];by_cases j2:l<j/\j<=k
     .rw[f_ j2];exact hs _ _ (by omega) (by omega)
     .rw[fZ j2];exact hs _ _ YJ (by omega)
theorem Kg(h1:1<=n):W9 (Iy O key) n (λq=>Pm n q/\Nu key q n) (kas_sort n):=by
 refine W9.bind (λr h=>?_) (Hh (key:=key) (Array.Perm.refl _) h1);obtain⟨a,b,c,d⟩:=h;by_cases hr:r.1<n
 .rw[f_ hr];have e:max r.1 1=r.1:=by omega
  rw[e];exact Sx _ _ _ a (by omega) d
 .rw[fZ hr];have:r.1=n:=by omega
  exact⟨a,by rw[this]at d;exact d⟩
end
end
section
open PySem.SeqAt
open AutoSeq1 (wpAny_loadPart')
open MeetsSeq MeetsSeq2 MeetsSeq3 SeqRoads2
def O6(A:c7)(s:am)(y x:ag)(b:Bool):Prop:=
 ∀(prog:b8) (w:dq) (E:ag->am->Prop) (Q:ag->am->Prop),Q (.bool b) s->bi (b9 prog w) A (richCompare .Lt y x) Q E s
noncomputable def Uo(fin:Bool)(e l:Nat->Bool):Nat->Nat->Bool
 |0,_=>fin
 |k+1,i=>if e i=aC then Uo fin e l k (i+1)else l i
theorem jz(l b gV gW n n2 dd dd2 sl sl2 e lt k):
  ∀i:Nat,(∀j,j<i->e j=aC)->min gV.size gW.size- i=k->Meets (Builtin.«list.__eq__.loop» ⟨[.ref l,.ref b,rawInt i,rawInt 0],[]⟩)
   (λA R s=>s.heap.get? l=aA {cls:=.type "list",dict:=dd,data:=.seq gV n,slots:=sl}/\s.heap.get? b=aA {cls:=.type "list",dict:=dd2,data:=.seq gW n2,slots:=sl2}/\
    (∀j h1 (h2:j<gW.size),(∀i,i<j->e i=aC)->EqAt A.in1 s gV[j] gW[j] (e j))/\(∀j h1 (h2:j<gW.size),(∀i,i<j->e i=aC)->e j=aD->O6 A.in1 s gV[j] gW[j] (lt j))/\
    R (.ok (.ret (.bool (Uo (decide (gV.size<gW.size)) e lt k i)))) s):=by
 induction k with
 |zero=>
  intro i Z_ hk prog w A R s h;obtain⟨hp,g,d,tk,os⟩:=s;obtain⟨hl,hb,he,ht,h⟩:=h;wp_walk using fg hl,fg hb;have hi:gV[((i:Nat):Int).toNat]? =aB\/gW[((i:Nat):Int).toNat]? =aB:=by
   rcases du i gV.size with z|z
   .right;simp;omega
   .left;simp;omega
  rcases h1:gV[((i:Nat):Int).toNat]? with _|x
  .wp_walk using fg hl,fg hb;exact h
  .rcases hi with hi|hi
   .rw[h1]at hi;cases hi
   .rw[hi];wp_walk using fg hl,fg hb;exact h
 |succ k ih=>
  intro i Z_ hk prog w A R s h;obtain⟨hp,g,d,tk,os⟩:=s;obtain⟨hl,hb,he,ht,h⟩:=h;wp_walk using fg hl,fg hb;have ZK:i<gV.size:=by omega
  have RJ:i<gW.size:=by omega
  have MX:gV[((i:Nat):Int).toNat]? =aA gV[i]:=by simp[ZK]
  have CZ:gW[((i:Nat):Int).toNat]? =aA gW[i]:=by simp[RJ]
  have hc:((i:Int)+1)=((i+1:Nat):Int):=by push_cast;rfl
  rw[MX,CZ];refine aa (he i ZK RJ Z_ prog w _ _ ?_);cases YB:e i with
  |true=>
   have h':R (.ok (.ret (.bool (Uo (decide (gV.size<gW.size)) e lt k (i+1))))) ⟨hp,g,d,tk,os⟩:=by have z:=h;unfold Uo at z;rw[f_ YB]at z;exact z
   wp_walk;rw[hc];exact⟨plainId_quiet plain_eq_loop _,ik entry_eq_loop (by
    rw[gm plain_eq_loop _];exact ih (i+1) (λj hj=>by
     rcases du j i with z|z
     .exact Z_ j z
     .have:j=i:=by omega
      rw[this];exact YB) (by omega) prog w A R _ ⟨hl,hb,he,ht,h'⟩)⟩
  |false=>
   have h':R (.ok (.ret (.bool (lt i)))) ⟨hp,g,d,tk,os⟩:=by have z:=h;unfold Uo at z;rw[fZ (by rw[YB];simp)]at z;exact z
   wp_walk using fg hl,fg hb;rw[MX,CZ];refine aa (ht i ZK RJ Z_ YB prog w _ _ ?_);wp_walk;exact h'
theorem Kh(l b gV gW n n2 dd dd2 sl sl2 e lt):
  Meets (Builtin.«list.__lt__» ⟨[.ref l,.ref b],[]⟩)
   (λA R s=>s.heap.get? l=aA {cls:=.type "list",dict:=dd,data:=.seq gV n,slots:=sl}/\s.heap.get? b=aA {cls:=.type "list",dict:=dd2,data:=.seq gW n2,slots:=sl2}/\
    (∀j h1 (h2:j<gW.size),(∀i,i<j->e i=aC)->EqAt A.in1 s gV[j] gW[j] (e j))/\(∀j h1 (h2:j<gW.size),(∀i,i<j->e i=aC)->e j=aD->O6 A.in1 s gV[j] gW[j] (lt j))/\
    R (.ok (.ret (.bool (Uo (decide (gV.size<gW.size)) e lt (min gV.size gW.size) 0)))) s):=by
 intro prog w A R s h;obtain⟨hp,g,d,tk,os⟩:=s;obtain⟨hl,hb,he,ht,h⟩:=h;have f3:=AutoSeq1.sub_list_list;wp_walk using fg hl,fg hb;exact⟨plainId_quiet plain_eq_loop _,ik entry_eq_loop (by
  rw[gm plain_eq_loop _];exact jz l b gV gW n n2 dd dd2 sl sl2 e lt _ 0 (λj hj=>eF hj (f7 _)) rfl prog w A R _ ⟨hl,hb,he,ht,h⟩)⟩
theorem Hi(l b gV gW n n2 dd dd2 sl sl2 e lt):
  Meets (Builtin.«tuple.__lt__» ⟨[.ref l,.ref b],[]⟩)
   (λA R s=>s.heap.get? l=aA {cls:=.type "tuple",dict:=dd,data:=.seq gV n,slots:=sl}/\s.heap.get? b=aA {cls:=.type "tuple",dict:=dd2,data:=.seq gW n2,slots:=sl2}/\
    (∀j h1 (h2:j<gW.size),(∀i,i<j->e i=aC)->EqAt A.in1 s gV[j] gW[j] (e j))/\(∀j h1 (h2:j<gW.size),(∀i,i<j->e i=aC)->e j=aD->O6 A.in1 s gV[j] gW[j] (lt j))/\
    R (.ok (.ret (.bool (Uo (decide (gV.size<gW.size)) e lt (min gV.size gW.size) 0)))) s):=
 .of_wp λprog w A R s h=>by
  obtain⟨hp,g,d,tk,os⟩:=s;obtain⟨hl,hb,he,ht,h⟩:=h;have f2:=AutoSeq1.sub_tuple_tuple;have hZ:(gV.toList.zip gW.toList).length=min gV.size gW.size:=by simp
  wp_walk using fg hl,fg hb,wpAny_forIn_list _ (λrest b s'=>b.1=aB/\s'=⟨hp,g,d,tk,os⟩/\∃i,rest=(gV.toList.zip gW.toList).drop i/\(∀j,j<i->e j=aC)/\
   R (.ok (.ret (.bool (Uo (decide (gV.size<gW.size)) e lt (min gV.size gW.size- i) i)))) ⟨hp,g,d,tk,os⟩) _
  case turn=>
   rintro⟨y,x⟩ rest b s' ⟨YB,rfl,i,hz,Z_,hR⟩;have ZK:i<(gV.toList.zip gW.toList).length:=by
    rcases du i (gV.toList.zip gW.toList).length with h'|h'
    .exact h'
    .rw[List.drop_of_length_le h']at hz;cases hz
   have hm:i<min gV.size gW.size:=hZ▸ZK;have h1:i<gV.size:=df hm (Nat.min_le_left _ _);have h2:i<gW.size:=df hm (Nat.min_le_right _ _);rw[ie ZK]at hz;injection hz with hyx hrest;have hy:y=gV[i]:=by have:=congrArg Prod.fst hyx;simpa using this
   have hx:x=gW[i]:=by have:=congrArg Prod.snd hyx;simpa using this
   subst hy hx;have hk:min gV.size gW.size- i=(min gV.size gW.size- (i+1))+1:=by omega
   rw[hk]at hR;unfold Uo at hR;refine aa (he i h1 h2 Z_ prog w _ _ ?_);cases hy:e i with
   |true=>
    rw[f_ hy]at hR;wp_walk;exact⟨rfl,rfl,i+1,hrest,λj hj=>by
     rcases du j i with z|z
     .exact Z_ j z
     .have:j=i:=by omega
      rw[this];exact hy,hR⟩
   |false=>rw[fZ (by rw[hy];simp)]at hR;simp only[Bool.not_false,if_true];refine aa (wpAny_rule (aa (ht i h1 h2 Z_ hy prog w _ _ ?_)));wp_walk;exact⟨_,rfl,hR⟩
  case fin=>
   rintro⟨b1,b2⟩ s' ⟨YB,rfl,i,hz,Z_,hR⟩;simp only at YB;subst YB;have UC:min gV.size gW.size<=i:=by
    rcases du i (gV.toList.zip gW.toList).length with h'|h'
    .rw[ie h']at hz;cases hz
    .exact hZ▸h'
   have hk:min gV.size gW.size- i=0:=by omega
   rw[hk]at hR;wp_walk;exact⟨_,rfl,hR⟩
  case h=>
   exact⟨rfl,rfl,0,rfl,λj hj=>eF hj (f7 _),by simpa using h⟩
theorem O6.lists(hl:s.heap.IsList l gV)(hb:s.heap.IsList b gW)(hu:A.units<ft)(he:∀j h1 (h2:j<gW.size),(∀i,i<j->e i=aC)->EqAt A.in1 s gV[j] gW[j] (e j))(ht:∀j h1 (h2:j<gW.size),(∀i,i<j->e i=aC)->e j=aD->O6 A.in1 s gV[j] gW[j] (lt j)):
  O6 A s (.ref l) (.ref b) (Uo (decide (gV.size<gW.size)) e lt (min gV.size gW.size) 0):=λprog w E Q h=>by
 obtain⟨⟨cls,dd,data,sl⟩,ho,hc,n,hd⟩:=id hl;obtain⟨⟨cls2,dd2,data2,sl2⟩,YS,WE,n2,hd2⟩:=id hb;simp only at hc hd WE hd2;subst hc hd WE hd2;exact richCompare_meets_room (op:=.Lt) ⟨_,ho,rfl⟩ ⟨_,YS,rfl⟩ F.slot_list_lt F.entry_list_lt (F.args_list_lt_2 _ _) (Kh l b gV gW n n2 dd dd2 sl sl2 e lt)
  ⟨ho,YS,he,ht,show Value.bool (Uo (decide (gV.size<gW.size)) e lt (min gV.size gW.size) 0)≠Value.notImplemented/\Q (.bool (Uo (decide (gV.size<gW.size)) e lt (min gV.size gW.size) 0)) s from⟨(λx=>nomatch x),h⟩⟩ hu
theorem O6.tuples(hl:s.heap.IsTuple l gV)(hb:s.heap.IsTuple b gW)(hu:A.units<ft)(he:∀j h1 (h2:j<gW.size),(∀i,i<j->e i=aC)->EqAt A.in1 s gV[j] gW[j] (e j))(ht:∀j h1 (h2:j<gW.size),(∀i,i<j->e i=aC)->e j=aD->O6 A.in1 s gV[j] gW[j] (lt j)):
  O6 A s (.ref l) (.ref b) (Uo (decide (gV.size<gW.size)) e lt (min gV.size gW.size) 0):=λprog w E Q h=>by
 obtain⟨⟨cls,dd,data,sl⟩,ho,hc,n,hd⟩:=id hl;obtain⟨⟨cls2,dd2,data2,sl2⟩,YS,WE,n2,hd2⟩:=id hb;simp only at hc hd WE hd2;subst hc hd WE hd2;exact richCompare_meets_room (op:=.Lt) ⟨_,ho,rfl⟩ ⟨_,YS,rfl⟩ F.slot_tuple_lt F.entry_tuple_lt (F.args_tuple_lt_2 _ _) (Hi l b gV gW n n2 dd dd2 sl sl2 e lt)
  ⟨ho,YS,he,ht,show Value.bool (Uo (decide (gV.size<gW.size)) e lt (min gV.size gW.size) 0)≠Value.notImplemented/\Q (.bool (Uo (decide (gV.size<gW.size)) e lt (min gV.size gW.size) 0)) s from⟨(λx=>nomatch x),h⟩⟩ hu
def Gx(A:c7)(s:am)(y x:ag)(b:Bool):Prop:=
 ∀(prog:b8) (w:dq) (E:ag->am->Prop) (Q:Bool->am->Prop),Q b s->bi (b9 prog w) A (PyProof.Rows.oneLt' aC y x) Q E s
theorem Gx.lists(hl:s.heap.IsList l gV)(hb:s.heap.IsList b gW)(hu:A.units<ft)(he:∀j h1 (h2:j<gW.size),(∀i,i<j->e i=aC)->EqAt A.in1 s gV[j] gW[j] (e j))(ht:∀j h1 (h2:j<gW.size),(∀i,i<j->e i=aC)->e j=aD->O6 A.in1 s gV[j] gW[j] (lt j)):
  Gx A s (.ref l) (.ref b) (Uo (decide (gV.size<gW.size)) e lt (min gV.size gW.size) 0):=λprog w E Q h=>by
 obtain⟨⟨cls,dd,data,sl⟩,ho,hc,n,hd⟩:=id hl;obtain⟨⟨cls2,dd2,data2,sl2⟩,YS,WE,n2,hd2⟩:=id hb;simp only at hc hd WE hd2;subst hc hd WE hd2;rw[PyProof.Rows.oneLt'_eq];simp only[if_true];refine aa (wpAny_cRoomFor hu ?_);refine aa (wpAny_callSpecialIfBound?_slot ⟨_,ho,rfl⟩ F.slot_list_lt (call_meets F.slot_list_lt ⟨_,ho,rfl⟩ F.entry_list_lt (F.args_list_lt_2 _ _) (Kh l b gV gW n n2 dd dd2 sl sl2 e lt) ⟨ho,YS,he,ht,?_⟩));exact wpAny_truthy_bool h
theorem Gx.int(a t b u):Gx A s (.int a t) (.int b u) (decide (a<b)):=λprog w E Q h=>PyProof.Rows.oneLt_int h
theorem Gx.str(a t b u):Gx A s (.str a t) (.str b u) (decide (a.cps.toList<b.cps.toList)):=λprog w E Q h=>PyProof.Rows.oneLt_str h
theorem O6.int(a t b u):O6 A s (.int a t) (.int b u) (decide (a<b)):=λprog w E Q h=>wpAny_lt_int h
theorem O6.str(a t b u):O6 A s (.str a t) (.str b u) (decide (a.cps.toList<b.cps.toList)):=λprog w E Q h=>PySem.P.lt_str h
end
section
open PySem.W (kla_fn kla_obj kla_callFunE kla_codeExpr envX)
structure LamS(x:Str)(fs:List Str)(sc:Scope):Prop where
 kind:sc.kind= .function
 co:sc.isCoroutine=aD
 gen:sc.isGenerator=aD
 par:sc.names.lookup x=aA .local
 nocell:∀y∈sc.names,y.2≠.cell
 nd:x∉fs
noncomputable abbrev LW(qual:Str)(sc:Scope)(L f:ao)(c:ao)(cl:List (Str×ao)):Env:=envX qual sc L f (.ref c) cl
def cxL(X:Cx)(N:List Str)(qual:Str)(sc:Scope)(f c:ao)(cl:List (Str×ao))(A:c7)(s:am)(H:Hp):Cx where
 prog:=X.prog
 w:=X.w
 K:=X.K
 mg:=X.mg
 base:=X.base
 A:=A.deeper (LW qual sc s.heap.objs.size f c cl)
 N:=N
 s₀:=s
 H₀:=H
 env:=LW qual sc s.heap.objs.size f c cl
 outer:=X.stack
 stack:=LW qual sc s.heap.objs.size f c cl::X.stack
 ex:=[]
 calm:=aC
 fn:=λ_=>aD
 pn:=[]
 xe:=λ_ _=>False
section
variable{σ:L2.St}
theorem mC
  (S:LamS x fs sc)(hd:A.handled=aB)(hA:A.frames=aA X.stack)(I:gY X gR σ H s)(YL:∀y c,cl.lookup y=aA c->X.env.cells.lookup y=aA c)(has:∀y,sc.names.lookup y=aA .free->∃c,cl.lookup y=aA c)(IE:ws.length=fs.length)(OF:∀(i:Nat) y w,fs[i]? =aA y->ws[i]? =aA (aA w)->∃j:Nat,X.N[j]? =aA y/\σ[j]? =aA (aA w)/\X.env.scope.names.lookup y=aA .cell/\sc.names.lookup y=aA .free)(r:Zv v u)(X_:h1.Ns s.heap.objs.size (λy=>[(x,u)].reverse.lookup y))(hsb:g6 s.heap.objs.size (s.heap.push {cls:=.type "frame",data:=.dict #[]}) h1):
  gY (cxL X (x::fs) qual sc f c cl A s H) [] (aA v::ws) H {s with heap:=h1,toks:=tk}:=by
 have hk:∀b o,s.heap.get? b=aA o->h1.get? b=aA o:=λb o e=>(hsb.2 b (cm (bp e))).trans (aq _ e);have UI:∀b:ao,b∉(cxL X (x::fs) qual sc f c cl A s H).ex:=λb z=>eF (show b∈([]:List ao)from z) (by simp);have e0:=I.env0;refine⟨⟨e0.mod,S.kind,rfl,rfl,bc _,λy z c h1 h2=>I.ok.inj y z c (YL y c h1) (YL z c h2),λy hy=>?_,(λy c h=>nomatch h),λ_=>hd,Around.frames_deeper hA,.inr ⟨rfl,rfl⟩,λb z=>eF z (UI b),e0.bs,e0.bsz,λb _ _=>UI b,λb z=>eF z (UI b),e0.funs,e0.frf⟩,
  rfl,e0.bare,Un.kept hk,⟨_,X_,λi y w h1 h2 h3=>?_⟩,λy c h=>?_,e0.hok.fresh (bc _),λy c h=>I.freeC y c (YL y c h),λp hp=>eF (show p∈([]:List (ao×Obj))from hp) (by simp),e0.hok.kept hk,by show(aA v::ws).length=(x::fs).length;rw[aw,aw,IE]⟩
 .have hy:sc.names.lookup y=aA .cell\/sc.names.lookup y=aA .free:=hy;rcases hy with hy|hy
  .exact eF rfl (S.nocell _ (PySem.mem_of_lookup hy))
  .exact has y hy
 .cases i with
  |zero=>
   obtain rfl:x=y:=by simpa[cxL]using h1
   obtain rfl:v=w:=by simpa using h2
   exact⟨u,r,.inl ⟨S.par,by simp⟩⟩
  |succ i=>
   have h1:fs[i]? =aA y:=by simpa[cxL]using h1
   have h2:ws[i]? =aA (aA w):=by simpa using h2
   obtain⟨j,a1,a2,a3,a4⟩:=OF i y w h1 h2;obtain⟨m,_,hl⟩:=I.loc;obtain⟨u',r',lk⟩:=hl j y w a1 a2 (.inr (.inl a3));obtain⟨cc,ec⟩:=has y a4;refine⟨u',r',.inr ⟨.inr a4,cc,ec,?_⟩⟩;rcases lk with⟨k,_⟩|⟨_,c',e1,z⟩
   .have k:X.env.scope.names.lookup y=aA .local:=k;rw[a3]at k;cases k
   .rw[YL y cc ec]at e1;cases e1;obtain⟨o,z1,z2⟩:=z;exact⟨o,hk _ _ z1,z2⟩
 .refine Wq (I.cell y c (YL y c h)) λw o z1 z2=>?_;exact⟨w,o,hk _ _ z1,z2⟩
theorem kB
  (S:LamS x fs sc)(hr:fJ 1 A)(hA:A.frames=aA X.stack)(I:gY X gR σ H s)(ho:s.heap.get? f=aA (kla_obj name qual params body sc cl pm c WJ))(ZT:s.heap.CodeRec (.ref c) qual)(YM:bindArgs (kla_fn name qual params body sc cl pm (.ref c) WJ) ⟨[u],[]⟩=pure [(x,u)])(YL:∀y c,cl.lookup y=aA c->X.env.cells.lookup y=aA c)(has:∀y,sc.names.lookup y=aA .free->∃c,cl.lookup y=aA c)(IE:ws.length=fs.length)(OF:∀(i:Nat) y w,fs[i]? =aA y->ws[i]? =aA (aA w)->∃j:Nat,X.N[j]? =aA y/\σ[j]? =aA (aA w)/\X.env.scope.names.lookup y=aA .cell/\sc.names.lookup y=aA .free)(r:Zv v u)(hb:PE (cxL X (x::fs) qual sc f c cl A s H) body t)(ht:t (aA v::ws) H Q):
  bi (b9 X.prog X.w) A (call (.ref f) [u]) (λu' s'=>CE X.stack X.prog X.w H s Q u' s') (λ_ _=>False) s:=by
 refine wpAny_call ?_;refine kla_callFunE hr.depth ho rfl S.co S.gen rfl ZT ?_;rw[YM];refine ad (wpAny_newFunctionEnv (λy hy=>S.nocell y hy) (λy hy=>?_) (λh1 X_ hsb=>⟨?_,?_⟩) S.kind)
 .have hy:y=(x,u):=by simpa using hy
  subst hy;exact S.par
 .exact(I.nolimit).fresh _ hsb
 .show codeAny _ _ (.expr body (LW qual sc s.heap.objs.size f c cl)) _ _;refine kla_codeExpr ?_;have J:=mC (tk:=s.toks+[(x,u)].length) (f:=f) (c:=c) (qual:=qual) S hr.hd hA I YL has IE OF r X_ hsb;refine gv (hb [] _ _ H Q J ht) (λu' s' hs=>?_) λe s' hs=>hs.elim;refine Ya hs λv' H' J' rv q=>?_;exact⟨v',H',J'.os,J'.bare,J'.base,J'.hok,rv,q⟩
end
end
section
open PySem.W (kla_fn kla_obj kla_eval kla_makeFunction kla_makeFunctionHit CodeHd tabObj)
theorem Hj(l)(h:TriplesOk l)(e:codeAmong p (l++[rawInt a,rawInt b,c])=aA cv):codeAmong p l=aA cv\/cv=c:=by
 fun_induction TriplesOk l with
 |case1=>
  right;simp only[gq,codeAmong,rawInt]at e;split at e
  .exact(dg.inj e).symm
  .cases e
 |case2 a t b u x rest ih=>
  simp only[List.cons_append,codeAmong]at e⊢;split at e
  .rename_i z;rw[f_ z];exact .inl e
  .rename_i z;rw[fZ z];exact ih h e
 |case3=>exact h.elim
def Bj(mg:Str->Option ag)(h:f8):Prop:=∃bm ob,mg "__builtins__"=aA (.ref bm)/\bm≠builtinsNs/\h.get? bm=aA ob/\ob.cls= .type "module"/\ob.dict=aA builtinsNs/\ob.data= .plain
def B_(o:Obj)(q:Str):Prop:=∃vs t,o.data= .fields vs/\vs[1]? =aA (.str q t)
theorem pL(ok:Gr P w H h)(e:H c=aA (.frz o (.own p)))(x:B_ o q):h.CodeRec (.ref c) q:=
 let⟨vs,t,a,b⟩:=x;⟨c,o,vs,t,rfl,(ok c _ e).1,a,b⟩
theorem kA{σ:L2.St}(I:gY X gR σ H s)(YT:X.env.code= .ref c)(C:CodeHd X.base c P)(hT:H P=aA (.tab q))(hq:X.env.qual++ "<lambda>"=q)(B:Bj X.mg X.base)(YL:closureFor sc X.env=pure clos)(VW:defaultsOf params X.env=([],[]))(h:∀f c' pm WJ oc H' s',Zj H H'->Q2 X gR H' f->gY X gR σ H' s'->s'.heap.get? f=aA (kla_obj "<lambda>" q params body sc clos pm c' WJ)->H' c'=aA (.frz oc (.own P))->B_ oc q->Q (.ref f) s'):
  bi M A (ig (.Lambda params body sc pos) X.env) Q E s:=by
 refine kla_eval VW ?_;rw[hq];refine Zn (I.hok P _ hT) λps e t cs=>?_;have HQ:s.heap.Ns mainGlobals X.mg:=I.ok.mod.glob.keeps I.bk;have vz:mainGlobals≠P:=λz=>by obtain⟨o,es,ep,eo,hd,_⟩:=HQ;rw[z,e]at eo;cases eo;cases hd
 obtain⟨bm,ob,b1,b2,b3,b4,b5,b6⟩:=B;have M':bm≠P:=λz=>by have eo:=I.bk _ _ b3;rw[z,e]at eo;cases eo;cases b4
 have uB:bm≠mainGlobals:=λz=>by obtain⟨o,es,ep,eo,hd,_⟩:=I.ok.mod.glob;rw[z,eo]at b3;cases b3;rw[hd]at b6;cases b6
 have hB:s.heap.BuiltinsAt X.mg P:=⟨bm,ob,b1,b2,uB,M',I.bk _ _ b3,b4,b5,b6⟩
 have C':CodeHd s.heap c P:=C.keeps I.bk;cases hf:codeAmong pos ps.toList with
 |some cv=>obtain⟨c',oc,XQ,tc,rfl,ho,IS,vX⟩:=cs pos cv hf;refine kla_makeFunctionHit (mg:=X.mg) YL I.ok.glob HQ YT C' e t hf hB λWJ h' tk hk hsz=>?_;exact h _ c' _ WJ oc H _ (Zj.refl H) (I.fpOk hsz (I.hok.fresh hsz)) (I.kept λb u z=>aq _ (hk b u z)) (bo _ rfl) ho ⟨XQ,tc,IS,vX⟩
 |none=>
  refine kla_makeFunction (mg:=X.mg) YL I.ok.glob HQ YT C' e t hf vz hB λc' WJ h' tk hx UC ZK IM MT=>?_;have hn:H c'=aB:=I.hok.fresh UC;have iX:P≠c':=cm (df (bp e) UC);obtain⟨c2,oc,E_,tc,e1,e2,e3,e4⟩:=IM;cases e1;have sm:Zj H (Y3 H c' (.frz oc (.own P))):=λb o z=>by rw[Zt (Wa z hn)];exact z
  have DQ:∀b,H b=aB->b≠P:=λb z y=>by rw[y,hT]at z;cases z
  have kp:∀b o,b≠P->s.heap.get? b=aA o->(h'.push (kla_obj "<lambda>" q params body sc clos ((X.mg "__name__").getD .none) c' WJ)).get? b=aA o:=λb o nb z=>aq _ (hx b o nb z);have TZ:(h'.push (kla_obj "<lambda>" q params body sc clos ((X.mg "__name__").getD .none) c' WJ)).get? P=aA (tabObj (ps++ #[rawInt pos.line,rawInt pos.col,.ref c'])):=aq _ MT;have VM:(h'.push (kla_obj "<lambda>" q params body sc clos ((X.mg "__name__").getD .none) c' WJ)).get? c'=aA oc:=aq _ e2;refine h _ c' _ WJ oc (Y3 H c' (.frz oc (.own P))) _ sm ?_ (I.un (t':=tk) ⟨λb o z n _ _=>kp b o (DQ b n) z,λb o z n _ _=>⟨o.slots,kp b o (DQ b n) z⟩,λb o z n _=>?_,λb o z _=>?_,λb xs z=>sm _ _ z,λb o u z=>sm _ _ z,λb qs z=>⟨#[],by rw[sm _ _ z];simp⟩⟩ λb u z=>?_) (bo _ rfl) Z2 ⟨E_,tc,e3,e4⟩
  .refine I.fpOk (Nat.le_of_lt (gw UC ZK)) ?_;rw[Zt (Nat.ne_of_gt ZK)];exact I.hok.fresh (Nat.le_of_lt (gw UC ZK))
  .rw[Zt (cm (df (bp z) UC))];exact n
  .by_cases hb:b=P
   .subst hb;exact⟨_,TZ⟩
   .exact⟨o,kp b o hb z⟩
  .by_cases hbc:b=c'
   .subst hbc;rw[Z2]at z;cases z;exact⟨VM,oc,VM⟩
   .rw[Zt hbc]at z;by_cases M':b=P
    .subst M';rw[hT]at z;cases z;refine⟨_,TZ,?_,λp2 cv z=>?_⟩
     .have:=TriplesOk_snoc pos.line pos.col (.ref c') _ t;simpa using this
     .have z:codeAmong p2 (ps.toList++[rawInt pos.line,rawInt pos.col,.ref c'])=aA cv:=by simpa using z
      rcases Hj _ t z with y|y
      .refine Q1 (cs p2 cv y) λc1 o1 PB t1 a1 a2 a3=>?_;exact⟨c1,o1,PB,t1,a1,sm _ _ a2,a3⟩
      .exact⟨c',oc,E_,tc,y,Z2,e3,e4⟩
    .refine(I.hok b u z).stay (λd w hd y=>kp d w ?_ y) (λd y=>sm _ _ y) (λd xs y=>sm _ _ y) λd o y=>sm _ _ y;rcases hd with hd|hd
     .rw[hd];exact M'
     .intro y;rw[y,hT]at hd;cases hd
end
section
open PySem.SeqAt (EqAt)
variable{K:af}
@[simp]noncomputable def Rw(eq lt:D->D->Option Bool):List D->List D->Option Bool
 | [],ys=>aA (!ys.isEmpty)
 |_::_,[]=>aA aD
 |x::xs,y::ys=>(eq x y).bind λb=>if b=aC then Rw eq lt xs ys else lt x y
@[simp]def Hk(eq lt:D->D->Option Bool):D->D->Option Bool
 | .int i,.int j=>aA (decide (i<j))
 | .str a,.str b=>aA (decide (a.cps.toList<b.cps.toList))
 | .lst xs,.lst ys=>Rw eq lt xs ys
 | .tup xs,.tup ys=>Rw eq lt xs ys
 |_,_=>aB
@[simp]def Q5:Nat->D->D->Option Bool
 |0=>λ_ _=>aB
 |n+1=>Hk (W8 n) (Q5 n)
noncomputable def isT:Option Bool->Bool
 |some aC=>aC
 |_=>aD
abbrev eJ(f:D->D->Option Bool)(xs ys:List D)(j:Nat):Bool:=isT (f (xs.getD j .non) (ys.getD j .non))
theorem Ej:∀k i,Uo fin e l k (i+1)=Uo fin (λj=>e (j+1)) (λj=>l (j+1)) k i
 |0,_=>rfl
 |k+1,i=>by
  show(if e (i+1)=aC then Uo fin e l k (i+1+1)else l (i+1))=(if e (i+1)=aC then _ else _)
  rw[Ej k (i+1)]
theorem Ki:∀{xs ys:List D} {b:Bool},Rw eq lt xs ys=aA b->
  Uo (decide (xs.length<ys.length)) (eJ eq xs ys) (eJ lt xs ys) (min xs.length ys.length) 0=b/\
  ∀j,j<xs.length->j<ys.length->(∀i,i<j->eJ eq xs ys i=aC)->eq (xs.getD j .non) (ys.getD j .non)=aA (eJ eq xs ys j)/\(eJ eq xs ys j=aD->lt (xs.getD j .non) (ys.getD j .non)=aA (eJ lt xs ys j))
 | [],ys,b,h=>by
  refine⟨?_,λj hj=>eF hj (f7 _)⟩;obtain rfl:(!ys.isEmpty)=b:=by simpa using h
  cases ys<;> simp[Uo]
 |x::xs,[],b,h=>by
  refine⟨?_,λj _ hj=>eF hj (f7 _)⟩;obtain rfl:aD=b:=by simpa using h
  simp[Uo]
 |x::xs,y::ys,b,h=>by
  have h:(eq x y).bind (λb=>if b=aC then Rw eq lt xs ys else lt x y)=aA b:=h;refine gZ h λc hc h2=>?_;have e0:eJ eq (x::xs) (y::ys) 0=c:=by show isT (eq x y)=c;rw[hc];cases c<;> rfl
  have hm:min (x::xs).length (y::ys).length=min xs.length ys.length+1:=by simp only[aw];omega
  have UO:decide ((x::xs).length<(y::ys).length)=decide (xs.length<ys.length):=by simp
  rw[hm,UO];cases c with
  |false=>
   have h2:lt x y=aA b:=by simpa using h2
   refine⟨?_,λj RM MW hp=>?_⟩
   .show(if eJ eq (x::xs) (y::ys) 0=aC then _ else eJ lt (x::xs) (y::ys) 0)=b;rw[e0,fZ (by simp)];show isT (lt x y)=b;rw[h2];cases b<;> rfl
   .cases j with
    |zero=>refine⟨by rw[e0];exact hc,λ_=>?_⟩;show lt x y=aA (isT (lt x y));rw[h2];cases b<;> rfl
    |succ j=>have:=hp 0 (Nat.succ_pos _);rw[e0]at this;cases this
  |true=>
   have h2:Rw eq lt xs ys=aA b:=by simpa using h2
   obtain⟨i1,i2⟩:=Ki h2;refine⟨?_,λj RM MW hp=>?_⟩
   .show(if eJ eq (x::xs) (y::ys) 0=aC then Uo _ _ _ _ (0+1)else eJ lt (x::xs) (y::ys) 0)=b;rw[e0,f_ rfl,Ej];exact i1
   .cases j with
    |zero=>refine⟨by rw[e0];exact hc,λz=>?_⟩;rw[e0]at z;cases z
    |succ j=>exact i2 j (by simpa using RM) (by simpa using MW) λi hi=>hp (i+1) (by omega)
theorem gX.getD:∀{ds:List D} {vs:List V} {gU:List ag},gX K F ds vs->Z1 vs gU->∀j hj,∃v,fE K F (ds.getD j .non) v/\Zv v gU[j]/\j<ds.length
 |_,_,_,.nil,.nil,j,hj=>eF hj (f7 _)
 |_,_,_,.cons h t,.cons q qs,0,_=>⟨_,h,q,Nat.succ_pos _⟩
 |_,_,_,.cons h t,.cons q qs,j+1,hj=>by refine Zn (gX.getD t qs j (Nat.lt_of_succ_lt_succ hj)) λv a b c=>?_;exact⟨v,a,b,Nat.succ_lt_succ c⟩
theorem gX.lenV:∀{ds:List D} {vs:List V} {gU:List ag},gX K F ds vs->Z1 vs gU->ds.length=gU.length
 |_,_,_,.nil,.nil=>rfl
 |_,_,_,.cons h t,.cons q qs=>congrArg (· +1) (gX.lenV t qs)
section
variable{X:Cx}{gR:List (ao×Obj)}{σ:L2.St}{F H:Hp}{s:am}
theorem Qs(I:gY X gR σ H s)(le:Zj F H)(h:Be X.K F a vs):∃gU,Z1 vs gU/\s.heap.IsList a gU.toArray:=by obtain⟨gU,rv,⟨o,n,ho,YL,_,hd⟩,_⟩:=I.list (Wr le h);exact⟨gU,rv,o,ho,YL,n,hd⟩
theorem Ji(I:gY X gR σ H s)(le:Zj F H)(h:F a=aA (.tup vs)):∃gU,Z1 vs gU/\s.heap.IsTuple a gU.toArray:=by obtain⟨_,gU,rv,p⟩:=I.hok a _ (le _ _ h);obtain⟨o,ho,hc,n,hd⟩:=p;exact⟨gU,rv,o,ho,hc,n,hd⟩
theorem Ek(I:gY X gR σ H s)(le:Zj F H)(hu:A.units+n<ft)(ih:∀d1 d2 b x y v u,fE X.K F d1 x->Zv x v->fE X.K F d2 y->Zv y u->Q5 n d1 d2=aA b->O6 A s v u b)(r1:gX X.K F ds vs)(W':Z1 vs gU)(r2:gX X.K F es ws)(PM:Z1 ws YN)(h:Rw (W8 n) (Q5 n) ds es=aA b):
  Uo (decide (gU.toArray.size<YN.toArray.size)) (eJ (W8 n) ds es) (eJ (Q5 n) ds es) (min gU.toArray.size YN.toArray.size) 0=b/\
  (∀j h1 (h2:j<YN.toArray.size),(∀i,i<j->eJ (W8 n) ds es i=aC)->EqAt A s gU.toArray[j] YN.toArray[j] (eJ (W8 n) ds es j))/\
  (∀j h1 (h2:j<YN.toArray.size),(∀i,i<j->eJ (W8 n) ds es i=aC)->eJ (W8 n) ds es j=aD->O6 A s gU.toArray[j] YN.toArray[j] (eJ (Q5 n) ds es j)):=by
 obtain⟨a,c⟩:=Ki h;rw[gX.lenV r1 W',gX.lenV r2 PM]at a;refine⟨by simpa using a,λj h1 h2 hp=>?_,λj h1 h2 hp hf=>?_⟩
 .have QO:j<gU.length:=by simpa using h1
  have W_:j<YN.length:=by simpa using h2
  refine Zn (gX.getD r1 W' j QO) λv p1 p2 p3=>?_;refine Zn (gX.getD r2 PM j W_) λw q1 q2 q3=>?_;exact Mh I le n A _ _ _ _ _ _ _ hu p1 (by simpa using p2) q1 (by simpa using q2) (c j p3 q3 hp).1
 .have QO:j<gU.length:=by simpa using h1
  have W_:j<YN.length:=by simpa using h2
  refine Zn (gX.getD r1 W' j QO) λv p1 p2 p3=>?_;refine Zn (gX.getD r2 PM j W_) λw q1 q2 q3=>?_;exact ih _ _ _ _ _ _ _ p1 (by simpa using p2) q1 (by simpa using q2) ((c j p3 q3 hp).2 hf)
theorem Nv(I:gY X gR σ H s)(le:Zj F H):∀n A d1 d2 b x y v u,A.units+n<ft->fE X.K F d1 x->Zv x v->fE X.K F d2 y->Zv y u->Q5 n d1 d2=aA b->O6 A s v u b
 |0,_,_,_,_,_,_,_,_,_,_,_,_,_,e=>by cases e
 |n+1,A,d1,d2,b,x,y,v,u,hu,r1,v1,r2,v2,e=>by
  have e:Hk (W8 n) (Q5 n) d1 d2=aA b:=e;have hi:A.in1.units+n<cLine:=by have:A.in1.units=A.units+1:=rfl;omega
  have ih:=λ(d1 d2:D) (b:Bool) (x y:V) (v u:ag)=>Nv I le n A.in1 d1 d2 b x y v u hi;cases r1 with
  |int i=>cases r2 with
   |int j=>
    obtain⟨t1,rfl⟩:=v1;obtain⟨t2,rfl⟩:=v2;obtain rfl:decide (i<j)=b:=by simpa using e
    exact O6.int i t1 j t2
   |_=>cases e
  |str i=>cases r2 with
   |str j=>
    obtain⟨t1,rfl⟩:=v1;obtain⟨t2,rfl⟩:=v2;obtain rfl:decide (i.cps.toList<j.cps.toList)=b:=by simpa using e
    exact O6.str i t1 j t2
   |_=>cases e
  |lst h _ r=>cases r2 with
   |lst h' _ r'=>cases v1;cases v2;obtain⟨gU,rv,hl⟩:=Qs I le h;obtain⟨YN,PN,WN⟩:=Qs I le h';obtain⟨a,c,d⟩:=Ek I le hi ih r rv r' PN e;rw[<-a];exact O6.lists hl WN (by omega) c d
   |_=>cases e
  |tup h r=>cases r2 with
   |tup h' r'=>cases v1;cases v2;obtain⟨gU,rv,hl⟩:=Ji I le h;obtain⟨YN,PN,WN⟩:=Ji I le h';obtain⟨a,c,d⟩:=Ek I le hi ih r rv r' PN e;rw[<-a];exact O6.tuples hl WN (by omega) c d
   |_=>cases e
  |_=>cases e
theorem pK(I:gY X gR σ H s)(le:Zj F H)(hu:A.units+(n+1)<ft)(r1:fE X.K F d1 x)(v1:Zv x v)(r2:fE X.K F d2 y)(v2:Zv y u)(e:Q5 (n+1) d1 d2=aA b)(hn:∀xs,d1≠.tup xs):Gx A s v u b:=by
 have e:Hk (W8 n) (Q5 n) d1 d2=aA b:=e;have hi:A.in1.units+n<cLine:=by have:A.in1.units=A.units+1:=rfl;omega
 have ih:=λ(d1 d2:D) (b:Bool) (x y:V) (v u:ag)=>Nv I le n A.in1 d1 d2 b x y v u hi;cases r1 with
 |int i=>cases r2 with
  |int j=>
   obtain⟨t1,rfl⟩:=v1;obtain⟨t2,rfl⟩:=v2;obtain rfl:decide (i<j)=b:=by simpa using e
   exact Gx.int i t1 j t2
  |_=>cases e
 |str i=>cases r2 with
  |str j=>
   obtain⟨t1,rfl⟩:=v1;obtain⟨t2,rfl⟩:=v2;obtain rfl:decide (i.cps.toList<j.cps.toList)=b:=by simpa using e
   exact Gx.str i t1 j t2
  |_=>cases e
 |lst h _ r=>cases r2 with
  |lst h' _ r'=>cases v1;cases v2;obtain⟨gU,rv,hl⟩:=Qs I le h;obtain⟨YN,PN,WN⟩:=Qs I le h';obtain⟨a,c,d⟩:=Ek I le hi ih r rv r' PN e;rw[<-a];exact Gx.lists hl WN (by omega) c d
  |_=>cases e
 |tup h r=>exact eF rfl (hn _)
 |_=>cases e
end
end
section
open PySem.W (kas_sort kas_ask kas_item kat_run kat_snds)
section
variable{σ:L2.St}
theorem Tw{D}{o:Obj}{xs ys:Array ag}{n:Nat}(I:gY X gR σ H s)(fD:Q2 X gR H D):gY X gR σ H {s with heap:=s.heap.update D (d8 g),toks:=t'}:=
 I.turned (λb o hb e=>by rw[Heap.get?_update_ne _ _ _ _ hb];exact e) fD.1 fD.2.1 fD.2.2.2.1 fD.2.2.2.2.1 fD.2.2.2.2.2
theorem gY.notStk(I:gY X gR σ H s){D}(fD:Q2 X gR H D):D∉frs X.stack:=λz=>by
 rcases bj.mp (I.stkSub D z)with z|z
 .exact fD.2.1 z
 .exact fD.2.2.1 z
theorem FB{D}(fD:Q2 X gR H D)(h:H' D=aB):Q2 X gR H' D:=⟨h,fD.2⟩
def KS(X:Cx)(gR:List (ao×Obj))(σ:L2.St)(H0:Hp)(f:ao)(fo:Obj)(D kS:ao)(e1:Nat)(KeyOk:Nat->V->Hp->Prop)(i:Nat)(s:am):Prop:=
 ∃H ks kvs e,Zj H0 H/\gY X gR σ H s/\Q2 X gR H D/\Q2 X gR H kS/\Q2 X gR H f/\s.heap.get? D=aA (eh "list" #[] e1)/\s.heap.get? kS=aA (eh "list" (List.toArray ks) e)/\s.heap.get? f=aA fo/\
  Z1 kvs ks/\ks.length=i/\∀j kv,kvs[j]? =aA kv->KeyOk j kv H
end
end
section
open PySem.W (kas_sort kas_ask kas_item kat_run kat_snds)
def Cmp(X:Cx)(gR:List (ao×Obj))(σ:L2.St)(H0:Hp)(A:c7)(KeyOk:Nat->V->Hp->Prop)(O:KeyOrd)(key:Nat->O.α)(n:Nat):Prop:=
 ∀H2 s2 ks kvs,Zj H0 H2->gY X gR σ H2 s2->Z1 kvs ks->ks.length=n->(∀j kv,kvs[j]? =aA kv->KeyOk j kv H2)->2<=n->
  ∃κ,(∀Q:SortKind->am->Prop,Q κ s2->bi (b9 X.prog X.w) A (keyKind' (List.toArray ks)) Q (λ_ _=>False) s2)/\
   ∀i j (Q:Bool->am->Prop),i<n->j<n->Q (O.blt (key i) (key j)) s2->bi (b9 X.prog X.w) A (keyLt' κ (ks.getD i .none) (ks.getD j .none)) Q (λ_ _=>False) s2
end
section
open PySem.Calls
end
section
open PySem.Calls
open PySem.W (KatLex kat_lt kat_kind KatTups kat_one kat_nil kat_cons kat_yes kat_no)
section
variable{σ:L2.St}
theorem pJ(I:gY X gR σ H s)(le:Zj F H)(hu:A.units+(n+1)<ft):∀{ds es:List D} {vs ws:List V} {gU YN:List ag} {b:Bool} i,
  gX X.K F ds vs->Z1 vs gU->gX X.K F es ws->Z1 ws YN->(i=0->∀d,ds.head? =aA d->∀xs,d≠.tup xs)->Rw (W8 (n+1)) (Q5 (n+1)) ds es=aA b->(gU.length=YN.length->fin=aD)->(gU.length<YN.length->fin=aC)->(YN.length<gU.length->fin=aD)->Q b s->
  KatLex X.prog X.w A aC fin Q (gU.zip YN) i s:=by
 intro ds;induction ds with
 |nil=>
  intro es vs ws gU YN b i h1 h2 h3 h4 _ e f1 f2 _ q;cases h1;cases h2;cases h3 with
  |nil=>
   cases h4;obtain rfl:aD=b:=by simpa using e
   show Q fin s;rw[f1 rfl];exact q
  |cons _ _=>
   cases h4;obtain rfl:aC=b:=by simpa using e
   show Q fin s;rw[f2 (by simp)];exact q
 |cons d ds ih=>
  intro es vs ws gU YN b i h1 h2 h3 h4 hd e f1 f2 f3 q;cases h1 with
  |cons h t=>
   cases h2 with
   |cons r rs=>
    cases h3 with
    |nil=>
     cases h4;obtain rfl:aD=b:=by simpa using e
     show Q fin s;rw[f3 (by simp)];exact q
    | @cons d' _ es _ h' t'=>
     cases h4 with
     |cons r' rs'=>
      have e:(W8 (n+1) d d').bind (λb=>if b=aC then Rw (W8 (n+1)) (Q5 (n+1)) ds es else Q5 (n+1) d d')=aA b:=e;refine gZ e λc hc e2=>?_;refine kat_cons (Mh I le (n+1) A _ _ _ _ _ _ _ (by omega) h r h' r' hc X.prog X.w _ _ ?_);cases c with
      |true=>
       have e2:Rw (W8 (n+1)) (Q5 (n+1)) ds es=aA b:=by simpa using e2
       exact kat_yes (ih (i+1) t rs t' rs' (λz=>eF z (Nat.succ_ne_zero i)) e2 (λz=>f1 (by simp[z])) (λz=>f2 (by simpa using z)) (λz=>f3 (by simpa using z)) q)
      |false=>
       have e2:Q5 (n+1) d d'=aA b:=by simpa using e2
       refine kat_no ?_;cases i with
       |zero=>exact pK I le hu h r h' r' e2 (hd rfl d rfl) X.prog X.w _ _ q
       |succ i=>
        have:(aC&&(i+1==0))=aD:=by simp
        rw[this];refine kat_one _ _ (Nv I le (n+1) A _ _ _ _ _ _ _ (by omega) h r h' r' e2 X.prog X.w _ _ ?_);exact q
inductive KK where
 |lst|str|int
inductive IsKey:KK->D->Prop where
 |lst (xs:List D) (r:List D):IsKey .lst (.tup (.lst xs::r))
 |str (x:Str) (r:List D):IsKey .str (.tup (.str x::r))
 |int (i:Int) (r:List D):IsKey .int (.tup (.int i::r))
theorem IsKey.shape(h:IsKey b d):∃e r,d= .tup (e::r)/\∀xs,e≠.tup xs:=by
 cases h with
 |lst xs r=>exact⟨_,r,rfl,λ_ z=>by cases z⟩
 |str x r=>exact⟨_,r,rfl,λ_ z=>by cases z⟩
 |int x r=>exact⟨_,r,rfl,λ_ z=>by cases z⟩
noncomputable def kT:KK->String
 | .lst=>"list"
 | .str=>"str"
 | .int=>"int"
theorem pI(I:gY X gR σ H s)(le:Zj F H)(hu:A.units+(n+2)<ft)(k1:IsKey k d1)(k2:IsKey k d2)(r1:fE X.K F d1 x)(v1:Zv x v)(r2:fE X.K F d2 y)(v2:Zv y u)(e:Q5 (n+2) d1 d2=aA b)(q:Q b s):bi (b9 X.prog X.w) A (keyLt' (tuples' aC) v u) Q E s:=by
 obtain⟨e1,wf,rfl,vd⟩:=k1.shape;obtain⟨e2,we,rfl,_⟩:=k2.shape;cases r1 with
 |tup h1 p1=>cases r2 with
  |tup h2 p2=>
   cases v1;cases v2;obtain⟨gU,rv,o,ho,hc,m,hd⟩:=Ji I le h1;obtain⟨YN,WV,o',XA,TX,m',XG⟩:=Ji I le h2;have e:Rw (W8 (n+1)) (Q5 (n+1)) (e1::wf) (e2::we)=aA b:=e;refine kat_lt ho hd XA XG ?_;refine pJ I le (by omega) 0 p1 rv p2 WV (λ_ d z xs=>?_) e (λz=>?_) (λz=>?_) (λz=>?_) q
   .obtain rfl:e1=d:=by simpa using z
    exact vd xs
   .simp[z]
   .simpa using z
   .have z:YN.length<gU.length:=by simpa using z
    simp;omega
theorem Kj(I:gY X gR σ H s)(le:Zj F H):∀{ds:List D} {vs:List V} {gU:List ag},(∀d∈ds,IsKey k d)->gX X.K F ds vs->Z1 vs gU->∃fs,KatTups s.heap gU fs/\fs.length=gU.length/\∀v∈fs,PySem.W.Looks (b9 X.prog X.w) s.heap (typeOf v) (.type (kT k))
 |_,_,_,_,.nil,.nil=>⟨[],trivial,rfl,λ_ z=>nomatch z⟩
 |d::ds,_,_,hk,.cons h t,.cons r rs=>by
  obtain⟨fs,a,b,c⟩:=Kj I le (λd z=>hk d (ah _ z)) t rs;cases hk d ac with
  |lst xs rr=>cases h with
   |tup h1 p1=>
    cases r;obtain⟨gU,rv,o,ho,hc,m,hd⟩:=Ji I le h1;cases p1 with
    |cons q1 q2=>cases rv with
     |cons w1 w2=>cases q1 with
      |lst g1 _ g2=>
       cases w1;obtain⟨YN,_,o2,YS,WE,_⟩:=Qs I le g1;refine⟨_::fs,KatTups.cons ho hc hd rfl a,by simp[b],λv z=>?_⟩;rcases bj.mp z with z|z
       .subst z;exact λA Q E s' k q=>wpAny_typeOf (T:="list") ⟨o2,k _ _ YS,WE⟩ q
       .exact c v z
  |str x rr=>cases h with
   |tup h1 p1=>
    cases r;obtain⟨gU,rv,o,ho,hc,m,hd⟩:=Ji I le h1;cases p1 with
    |cons q1 q2=>cases rv with
     |cons w1 w2=>cases q1 with
      |str y=>
       obtain⟨tk,rfl⟩:=w1;refine⟨_::fs,KatTups.cons ho hc hd rfl a,by simp[b],λv z=>?_⟩;rcases bj.mp z with z|z
       .subst z;exact λA Q E s' k q=>wpAny_typeOf (T:="str") (typeIs_str s' x tk) q
       .exact c v z
  |int x rr=>cases h with
   |tup h1 p1=>
    cases r;obtain⟨gU,rv,o,ho,hc,m,hd⟩:=Ji I le h1;cases p1 with
    |cons q1 q2=>cases rv with
     |cons w1 w2=>cases q1 with
      |int y=>
       obtain⟨tk,rfl⟩:=w1;refine⟨_::fs,KatTups.cons ho hc hd rfl a,by simp[b],λv z=>?_⟩;rcases bj.mp z with z|z
       .subst z;exact λA Q E s' k q=>wpAny_typeOf (T:="int") (typeIs_int s' x tk) q
       .exact c v z
theorem l_(I:gY X gR σ H s)(le:Zj F H)(hk:∀d∈ds,IsKey k d)(r:gX X.K F ds vs)(rv:Z1 vs gU)(h2:0<gU.length)(q:Q (tuples' aC) s):
  bi (b9 X.prog X.w) A (keyKind' (List.toArray gU)) Q E s:=by
 refine Zn (Kj I le hk r rv) λfs a b c=>?_;refine kat_kind (T:=.type (kT k)) a (by omega) c (by cases k<;> decide) ?_;cases k<;> exact q
end
end
section
open PySem.Calls
structure fH(ks:List D):Prop where
 key:∃k,∀d∈ks,IsKey k d
 ord:∃fK:D->List Nat,(∀a∈ks,∀b∈ks,Q5 16 a b=aA (decide (fK a<fK b)))/\∀i j:Nat,i<ks.length->j<ks.length->fK (ks.getD i .non)=fK (ks.getD j .non)->i=j
def M9(ks:List D)(p:List Nat):Prop:=p.Perm (cr ks.length)/\p.Pairwise λi j=>Q5 16 (ks.getD j .non) (ks.getD i .non)=aA aD
theorem Hl(h:fH ks)(hp:M9 ks p)(hq:M9 ks q):p=q:=by
 obtain⟨fK,he,hd⟩:=h.ord;have get:∀i,i<ks.length->ks.getD i .non∈ks:=λi hi=>by rw[bh,au hi];exact List.getElem_mem hi
 have mp:∀i∈p,i<ks.length:=λi hi=>cq.mp (hp.1.mem_iff.mp hi);have mq:∀i∈q,i<ks.length:=λi hi=>cq.mp (hq.1.mem_iff.mp hi);refine List.Perm.eq_of_pairwise (le:=λi j=>Q5 16 (ks.getD j .non) (ks.getD i .non)=aA aD) (λa b ha hb h1 h2=>?_) hp.2 hq.2 (hp.1.trans hq.1.symm);rw[he _ (get _ (mq b hb)) _ (get _ (mp a ha))]at h1;rw[he _ (get _ (mp a ha)) _ (get _ (mq b hb))]at h2;have h1:¬fK (ks.getD b .non)<fK (ks.getD a .non):=by simpa using h1
 have h2:¬fK (ks.getD a .non)<fK (ks.getD b .non):=by simpa using h2
 exact hd a b (mp a ha) (mq b hb) (List.le_antisymm (dw.mp h1) (dw.mp h2))
theorem B3(h:fH ks):∃p,M9 ks p:=by
 obtain⟨fK,he,hd⟩:=h.ord;have get:∀i,i<ks.length->ks.getD i .non∈ks:=λi hi=>by rw[bh,au hi];exact List.getElem_mem hi
 refine⟨(cr ks.length).mergeSort λi j=>decide (¬fK (ks.getD j .non)<fK (ks.getD i .non)),List.mergeSort_perm _ _,?_⟩;have pw:=List.pairwise_mergeSort (le:=λi j:Nat=>decide (¬fK (ks.getD j .non)<fK (ks.getD i .non)))
  (λa b c h1 h2=>by
   simp only[decide_eq_true_eq]at*;exact dw.mpr (List.le_trans (dw.mp h1) (dw.mp h2)))
  (λa b=>by
   simp only[Bool.or_eq_true,decide_eq_true_eq];rcases List.le_total (fK (ks.getD a .non)) (fK (ks.getD b .non))with z|z
   .exact .inl (dw.mpr z)
   .exact .inr (dw.mpr z)) (cr ks.length)
 refine(List.Pairwise.imp_of_mem ?_ pw);intro i j hi hj z;have hi:i<ks.length:=cq.mp ((List.mergeSort_perm _ _).mem_iff.mp hi);have hj:j<ks.length:=cq.mp ((List.mergeSort_perm _ _).mem_iff.mp hj);rw[he _ (get j hj) _ (get i hi)];simpa using z
open Classical in
noncomputable def Nw(ks xs:List D):Option SV:=
 if h:ks.length=xs.length/\xs.length<64/\fH ks then aA (.ol ((Classical.choose (B3 h.2.2)).map λi=>xs.getD i .non))else aB
theorem mB(e:Nw ks xs=aA sv):ks.length=xs.length/\xs.length<64/\fH ks/\∃p,M9 ks p/\sv= .ol (p.map λi=>xs.getD i .non):=by
 unfold Nw at e;split at e
 .rename_i h;cases e;exact⟨h.1,h.2.1,h.2.2,_,Classical.choose_spec (B3 h.2.2),rfl⟩
 .cases e
theorem n_(h1:ks.length=xs.length)(h2:xs.length<64)(h3:fH ks):∃p,M9 ks p/\Nw ks xs=aA (.ol (p.map λi=>xs.getD i .non)):=by refine⟨_,Classical.choose_spec (B3 h3),?_⟩;unfold Nw;rw[dif_pos ⟨h1,h2,h3⟩]
@[simp]def QZ(fb:FE)(cs:List D)(d:D):Option D:=(fb (some (.fz d)::cs.map λc=>some (.fz c))).bind λp=>(frz p.1 p.2).bind λq=>some q.1
@[simp]def Ta(fb:FE)(cs:List D):List D->Option (List D)
 | []=>aA []
 |d::ds=>(QZ fb cs d).bind λk=>(Ta fb cs ds).bind λks=>aA (k::ks)
theorem El:∀{xs ks:List D},Ta fb cs xs=aA ks->ks.length=xs.length/\∀(j:Nat) d,xs[j]? =aA d->∃k,ks[j]? =aA k/\QZ fb cs d=aA k
 | [],ks,e=>by
  obtain rfl:[]=ks:=by simpa using e
  exact⟨rfl,λj d z=>by simp at z⟩
 |x::xs,ks,e=>by
  have e:(QZ fb cs x).bind (λk=>(Ta fb cs xs).bind λks=>aA (k::ks))=aA ks:=e;refine gZ e λk e1 e2=>?_;refine gZ e2 λks' e3 e4=>?_;cases e4;obtain⟨a,b⟩:=El e3;refine⟨by simp[a],λj d z=>?_⟩;cases j with
  |zero=>
   obtain rfl:x=d:=by simpa using z
   exact⟨k,rfl,e1⟩
  |succ j=>exact b j d (by simpa using z)
section
variable{K:af}
theorem yT{Z:fB K}:∀{js:List Nat} {F:Hp} {δ δ':Yp} {own:Nat->Zs} {ds:List D},SR Z F H σ δ own->frzAll (js.map RV.bw) δ=aA (ds,δ')->
  ∃F1 own1 vs,Zj F F1/\SR Z F1 H σ δ' own1/\gX K F1 ds vs/\vs.length=js.length/\∀(i j:Nat) v,js[i]? =aA j->vs[i]? =aA v->σ[j]? =aA (aA v)
 | [],F,δ,δ',own,ds,s,e=>by have e:aA (([]:List D),δ)=aA (ds,δ'):=e;cases e;exact⟨F,own,[],Zj.refl F,s,.nil,rfl,λi j v z=>by simp at z⟩
 |j::js,F,δ,δ',own,ds,s,e=>by
  have e:(frz (.bw j) δ).bind (λp=>(frzAll (js.map RV.bw) p.2).bind λq=>aA (p.1::q.1,q.2))=aA (ds,δ'):=e;refine fA e λd δ1 e1 e2=>?_;refine fA e2 λds' δ2 e3 e4=>?_;cases e4;refine gZ e1 λsv e5 e6=>?_;cases e6;refine Ol (s.freeze (Uw e5)) λF1 v MF h1 h2 s1=>?_;obtain⟨F2,own2,vs,WU,s2,r2,l2,g2⟩:=yT s1 e3;refine⟨F2,own2,v::vs,MF.trans WU,s2,.cons (h2.mono WU) r2,by simp[l2],λi k w z1 z2=>?_⟩;cases i with
  |zero=>
   obtain rfl:j=k:=by simpa using z1
   obtain rfl:v=w:=by simpa using z2
   exact h1
  |succ i=>exact g2 i k w (by simpa using z1) (by simpa using z2)
theorem gX.getI:∀{ds:List D} {vs:List V} {i:Nat} {d:D},gX K F ds vs->ds[i]? =aA d->∃v,vs[i]? =aA v/\fE K F d v:=λr e=>L2.gX.get r e
theorem gX.len2:∀{ds:List D} {vs:List V},gX K F ds vs->ds.length=vs.length
 |_,_,.nil=>rfl
 |_,_,.cons _ t=>congrArg (· +1) (gX.len2 t)
theorem pH(le:Zj F H1)(r:fE K F d v)(rs:gX K F cs vs):
  SR (ent H1 F:fB K) F H1 (aA v::vs.map aA) (aA (.fz d)::cs.map λc=>aA (.fz c)) (λ_=>[]):=by
 refine⟨le,λb o e=>.inl e,Zj.refl H1,by simp[gX.len2 rs],λi sv e=>?_,λ_=>c6,λ_ _ z=>(nomatch z),λ_ _ _ _ _ z=>(nomatch z)⟩;cases i with
 |zero=>
  have e:sv=SV.fz d:=by simpa using e.symm
  subst e;exact⟨v,rfl,.fz r⟩
 |succ i=>
  have e:(cs.map λc=>aA (SV.fz c))[i]? =aA (aA sv):=by simpa using e
  rw[ay]at e;cases hc:cs[i]? with
  |none=>rw[hc]at e;cases e
  |some c=>
   rw[hc]at e;have e:sv=SV.fz c:=by simpa using e.symm
   subst e;obtain⟨w,h1,h2⟩:=gX.getI rs hc;exact⟨w,by simp[h1],.fz h2⟩
end
end
section
open PySem.Calls
open PySem.W (CodeHd kla_fn kla_obj)
theorem xQ{K}:∀{ks:List D} {kvs:List V},kvs.length=ks.length->(∀j kv,kvs[j]? =aA kv->fE K F (ks.getD j .non) kv)->gX K F ks kvs
 | [],[],_,_=>.nil
 |k::ks,v::kvs,hl,h=>.cons (h 0 v rfl) (xQ (by simpa using hl) λj kv e=>h (j+1) kv (by simpa using e))
theorem jX:∀{ws:List V} {gU:List ag},Z1 ws gU->∀{p:List Nat},(∀i∈p,i<gU.length)->Z1 (p.map λi=>ws.getD i .non) (p.map λi=>gU.getD i c8):=by
 intro ws gU h p hp;have at':∀{ws:List V} {gU:List ag},Z1 ws gU->∀i,i<gU.length->Zv (ws.getD i .non) (gU.getD i c8):=by
  intro ws gU h;induction h with
  |nil=>intro i hi;simp at hi
  |cons r t ih=>intro i hi;cases i with
   |zero=>exact r
   |succ i=>exact ih i (by simpa using hi)
 induction p with
 |nil=>exact .nil
 |cons i r ih=>exact .cons (at' h i (hp i ac)) (ih λj hj=>hp j (ah _ hj))
theorem Rx{K}:∀{xs:List D} {ws:List V},gX K F xs ws->∀i,i<xs.length->fE K F (xs.getD i .non) (ws.getD i .non)
 |_,_,.nil,i,hi=>eF hi (f7 _)
 |_,_,.cons h t,0,_=>h
 |_,_,.cons h t,i+1,hi=>Rx t i (Nat.lt_of_succ_lt_succ hi)
theorem Kk{K}(h:gX K F xs ws):∀{p:List Nat},(∀i∈p,i<xs.length)->gX K F (p.map λi=>xs.getD i .non) (p.map λi=>ws.getD i .non)
 | [],_=>.nil
 |i::r,hp=>.cons (Rx h i (hp i ac)) (Kk h λj hj=>hp j (ah _ hj))
noncomputable abbrev KJ(fK:D->List Nat)(ks:List D)(i:Nat):strKind.toKeyOrd.α:=fK (ks.getD i .non)
theorem yS(hu:A.units+16<ft)(hk:∀d∈ks,IsKey kb d)(he:∀a∈ks,∀b∈ks,Q5 16 a b=aA (decide (fK a<fK b)))(hn:ks.length=n):
  Cmp X gR σ H A (λj kv H=>fE X.K H (ks.getD j .non) kv) strKind.toKeyOrd (KJ fK ks) n:=by
 intro H2 s2 ksV kvs sm I2 rv hl TU h2;have TR:kvs.length=ks.length:=by have:=rv.length;omega
 have rr:=xQ TR TU;have get:∀i,i<ks.length->ks.getD i .non∈ks:=λi hi=>by rw[bh,au hi];exact List.getElem_mem hi
 refine⟨tuples' aC,λQ q=>l_ I2 (Zj.refl H2) hk rr rv (by omega) q,λi j Q hi hj q=>?_⟩;refine Zn (gX.getD rr rv i (by omega)) λv a1 a2 a3=>?_;refine Zn (gX.getD rr rv j (by omega)) λw b1 b2 b3=>?_;have e1:ksV.getD i c8=ksV[i]:=by simp[bh,au (show i<ksV.length by omega)]
 have e2:ksV.getD j c8=ksV[j]:=by simp[bh,au (show j<ksV.length by omega)]
 rw[e1,e2];exact pI I2 (Zj.refl H2) (n:=14) hu (hk _ (get i a3)) (hk _ (get j b3)) a1 a2 b1 b2 (he _ (get i a3) _ (get j b3)) q
theorem yR(he:∀a∈ks,∀b∈ks,Q5 16 a b=aA (decide (fK a<fK b)))(hn:ks.length=n)(hp:Pm n p)(hs:Nu (O:=strKind.toKeyOrd) (KJ fK ks) p n):M9 ks p.toList:=by
 subst hn;have pt:p.toList.Perm (cr ks.length):=Array.perm_iff_toList_perm.mp hp;have get:∀i,i<ks.length->ks.getD i .non∈ks:=λi hi=>by rw[bh,au hi];exact List.getElem_mem hi
 refine⟨pt,List.pairwise_iff_getElem.mpr λi j hi hj YJ=>?_⟩;have RN:j<ks.length:=by have:=pt.length_eq;rw[List.length_range]at this;omega
 have mi:p.toList[i]<ks.length:=cq.mp (pt.mem_iff.mp (List.getElem_mem hi));have mj:p.toList[j]<ks.length:=cq.mp (pt.mem_iff.mp (List.getElem_mem hj));rw[he _ (get _ mj) _ (get _ mi)];have z:=hs i j (Nat.le_of_lt YJ) RN;unfold Kp at z;have ei:p.getD i 0=p.toList[i]:=by rw[Array.getD_eq_getD_getElem?];simp at hi⊢;simp[hi]
 have ej:p.getD j 0=p.toList[j]:=by rw[Array.getD_eq_getD_getElem?];simp at hj⊢;simp[hj]
 rw[ei,ej]at z;have z:decide (fK (ks.getD p.toList[j] .non)<fK (ks.getD p.toList[i] .non))=aD:=z;rw[z]
end
section
open PySem.Calls
open PySem.W (CodeHd tabObj)
abbrev V4(P:ao)(q:Str)(sp:Sp):Sp:=λvs H Q E=>H P=aA (.tab q)/\sp vs H Q E
theorem n9{K:af}{Z:fB K}(hT:Z.h P=aA (.tab q))(h:Ze Z (Z5 n g fa) σ H Q):Ac (V4 P q (Wf K n g)) [] E (Ud Z fa) σ H Q:=by refine Yo (yi (E:=E) h) λF δ own rvs δ' s e k=>?_;exact⟨F,δ,own,rvs,δ',s,e,λvs H' F' own' a b c d=>⟨c.old _ _ hT,k vs H' F' own' a b c d⟩⟩
theorem n8{Z:fB X.K}{pos:Pos}{p}(hT:Z.h P=aA (.tab q))(F:FnOk X.prog X.w X.K X.mg X.base Om k f fd ps (V4 P q (Wf X.K n g)))(hr:fJ k X.A)(hm:X.mg x=aA (.ref f))(hk:PySem.W.keepIn X.K (.ref f)=aC)(hb:Rl X.K fd ps [])(ha:PA X (a::es) (Ud Z fr))(hg:‹Gl X x›)(YA:‹(x==("__debug__":Str))=aD›)(he:‹ba (a::es) X.env=(aD,ig a X.env)::ba es X.env›)(ZF:‹(gu pos (ba es X.env)).any (·.1)=aD›):
  PE X (.Call (.Name x p) (a::es) [] pos) (Ze Z (Z5 n g fr)):=(Lo F hr hg hm hk hb .nil ER ha YA he ZF).imp λ_ _ _ h=>n9 hT h
structure FunC(K:af)(x qual:Str)(st:Stmt)(f:ao)(fd:FuncData)(c:ao):Prop where
 ex:∃(oc:ag) (od:Option ao) (kV ZX pm:ag) (an:Option ao) (ct:ag) (XI:Array (Option ag)),
  fd=PySem.W.fnOf x qual (Ul st) (Qm st) (Yq st) .none kV ZX pm an (.ref c) ct/\K.lookup f=aA ⟨oc,od,.func fd,XI⟩/\PySem.W.codeIn K (.ref c) qual=aC
 kp:PySem.W.keepIn K (.ref f)=aC
theorem FunC.fn{K}{st}(F:FunC K x qual st f fd c):Fun K x qual st f fd:=by obtain⟨oc,od,kV,ZX,pm,an,ct,XI,a,b,d⟩:=F.ex;exact⟨⟨oc,od,kV,ZX,pm,an,.ref c,ct,XI,a,b,d⟩,F.kp⟩
theorem gN{K}{st}{kV:ag}(l:K.lookup f=aA ⟨oc,od,.func (PySem.W.fnOf x qual (Ul st) (Qm st) (Yq st) .none kV ZX pm an (.ref c) ct),XI⟩)(h:PySem.W.codeIn K (.ref c) qual=aC)(k:PySem.W.keepIn K (.ref f)=aC):FunC K x qual st f (PySem.W.fnOf x qual (Ul st) (Qm st) (Yq st) .none kV ZX pm an (.ref c) ct) c:=⟨⟨oc,od,kV,ZX,pm,an,ct,XI,rfl,l,h⟩,k⟩
theorem FunC.ok{K:af}{st}(F:FunC K x qual st f fd c)(S:FnScope N ps (Yq st))(len:∀vs H Q E,sp vs H Q E->vs.length=ps.length)(XH:∀A outer s H vs Q E,fJ k (A.deeper (envOfC qual (Yq st) s.heap.objs.size f (.ref c)))->sp vs H Q E->
   ∃t,Rj (Po Om P w K mg base N qual (Yq st) f (.ref c) A outer s H E).nox (Qm st) t/\t {nx:=λ_ H'=>Q .non H',rt:=Q} (Bg N vs) H):FnOk P w K mg base Om (k+1) f fd ps sp:=by
 obtain⟨oc,od,kV,ZX,pm,an,ct,XI,rfl,lk,ZT⟩:=F.ex;refine zZ lk ZT S len λA outer s H vs Q E hr UA=>?_;obtain⟨t,h,q⟩:=XH A outer s H vs Q E hr UA;exact⟨t,h.nox,q⟩
theorem jW{K}(KX:K.In s₁.heap)(X_:s₁.heap.Ns mainGlobals mg)(hb:s₁.heap.Ns builtinsNs mb)(uA:∀x:Str,x≠"__name__"->mb x=bootBuiltins x)(IX:s₁.heap.NoLimit)(HZ:Bj mg s₁.heap)(hg:s₁.gens= #[])(ZT:CodeHd s₁.heap c T)(hT:s₁.heap.get? T=aA (tabObj #[]))(NF:K.lookup T=aB)(ha:s₁.heap.get? a=aA {cls:=.type "list",data:=.seq vs.toArray})(hi:IntsAre vs ns)(hl:ns.length<=sizeLine)(hr:fJ k callerA)(F:∀base,K.In base->base.Ns mainGlobals mg->Bj mg base->FnOk P w K mg base CX k fa fd [x] (V4 T q sp))(YM:∀s u,BindsTo s fd ⟨[u],[]⟩ [(x,u)])(UA:∀H,Be K H a (ns.map V.int)->sp [.ref a] H (λv H'=>v= .bl aC/\Zj H H') λ_ _ _=>False)(GF:∀H e s',CX [] H s₁ (λ_ _ _=>False) e s'->False):
  codeAny (b9 P w) callerA (.call (.ref fa) ⟨[.ref a],[]⟩) (λr s'=>r= .ok (.ret (.bool aC))/\OldK s₁.heap s'.heap/\s'.os=s₁.os/\AllBare s'.gens) s₁:=by
 have rv:=Fn hi;have lenV:=hi.length;have aT:a≠T:=λz=>by rw[z,hT]at ha;cases ha
 have NI:∀H:Hp,(∀b,b≠T->H b=aB\/∃o xs,H b=aA (.frz o (.lst xs)))->H T=aA (.tab q)->Be K H a (ns.map V.int)->Gr P w H s₁.heap->(∀b,H b≠aB->b=a\/b=T)->(H a≠aB->K.lookup a=aB)->
   codeAny (b9 P w) callerA (.call (.ref fa) ⟨[.ref a],[]⟩) (λr s'=>r= .ok (.ret (.bool aC))/\OldK s₁.heap s'.heap/\s'.os=s₁.os/\AllBare s'.gens) s₁:=by
  intro H hO hHT hS hok hA hK;have Y_:∀{b:ao} {o:Obj},s₁.heap.get? b=aA o->H b=aB->(Ip s₁.heap H).get? b=aA o:=λe n=>kx e n;have UI:∀{b:ao} {o:Obj},s₁.heap.get? b=aA o->o.cls≠.none->o.cls≠.type "list"->H b=aB:=fun{b o} e d1 d2=>by
   cases q:H b with
   |none=>rfl
   |some u=>
    rcases hA b (by rw[q];simp)with e'|e'
    .subst e';rw[ha]at e;cases e;exact eF rfl d2
    .subst e';rw[hT]at e;cases e;exact eF rfl d1
  have w9:∀{b:ao} {o:Obj} {es:Array DictEntry} {ep:Nat},s₁.heap.get? b=aA o->o.data= .dict es ep->H b=aB:=fun{b o es ep} e d=>by
   cases q:H b with
   |none=>rfl
   |some u=>
    rcases hA b (by rw[q];simp)with e'|e'
    .subst e';rw[ha]at e;cases e;cases d
    .subst e';rw[hT]at e;cases e;cases d
  have MM:∀{b:ao} {m:Str->Option ag},s₁.heap.Ns b m->(Ip s₁.heap H).Ns b m:=fun{b m} ⟨o,es,ep,e,d,r⟩=>⟨o,es,ep,Y_ e (w9 e d),d,r⟩
  have BD:K.In (Ip s₁.heap H):=λb o e=>Y_ (KX b o e) (by
   cases q:H b with
   |none=>rfl
   |some u=>
    rcases hA b (by rw[q];simp)with e'|e'
    .subst e';rw[hK (by rw[q];simp)]at e;cases e
    .subst e';rw[NF]at e;cases e)
  have uN:Bj mg (Ip s₁.heap H):=by obtain⟨bm,ob,b1,b2,b3,b4,b5,b6⟩:=HZ;exact⟨bm,ob,b1,b2,Y_ b3 (UI b3 (by rw[b4];intro z;cases z) (by rw[b4];decide)),b4,b5,b6⟩
  have hM:Mod K mg (Ip s₁.heap H):=⟨BD,MM X_,⟨mb,MM hb,uA⟩,let⟨mc,h1,h2⟩:=IX;⟨mc,MM h1,h2⟩⟩
  have e0:Env0 P w K mg (Ip s₁.heap H) callerA [] s₁ H:=⟨rfl,hM,λb o e=>mY e,Nat.le_of_eq (iB _ _),trivial,λb hb=>eF (show b∈([]:List ao)from hb) (by simp),hok,.of_eq hg⟩
  refine codeAny_mono ((F _ BD (MM X_) uN).run callerA [] s₁ H ⟨[.ref a],[]⟩ [.ref a] [.ref a] _ _ hr e0 (YM s₁ (.ref a)) (.cons rfl .nil) ⟨hHT,UA H hS⟩) λr s' h=>?_;cases r with
  |error e=>exact(GF H e s' h).elim
  |ok fl=>
   cases fl with
   |next=>exact False.elim h
   |brk=>exact False.elim h
   |cont=>exact False.elim h
   |ret u=>
    obtain⟨v,H',os,bare,un,OM,r',rfl,sm⟩:=h;obtain rfl:u=Value.bool aC:=r';have kept:∀b o,b≠T->s₁.heap.get? b=aA o->s'.heap.get? b=aA o:=λb o hb e=>by
     cases q:H b with
     |none=>exact un.keep b o e q (by intro z;exact eF (show b∈([]:List ao)from z) (by simp)) (by simp)
     |some u=>
      rcases hO b hb with z|⟨ob,xs,z⟩
      .rw[q]at z;cases z
      .obtain⟨e1,_⟩:=hok b _ z;obtain⟨e2,_⟩:=OM b _ (sm _ _ z);rw[e]at e1;cases e1;exact e2
    obtain⟨ps,CH,_⟩:=OM T _ (sm _ _ hHT);refine⟨rfl,⟨λb o e=>?_,λb o e=>?_⟩,os,bare⟩
    .by_cases hbT:b=T
     .subst hbT;rw[hT]at e;cases e;exact .inr (.inl ⟨(ZT.tab hT).isCodeTable,rfl,#[],ps,rfl,by rw[CH];simp⟩)
     .exact .inl (kept b o hbT e)
    .by_cases hbT:b=T
     .subst hbT;exact⟨_,CH⟩
     .exact⟨o,kept b o hbT e⟩
 have UX:∀H:Hp,Ym P w H s₁.heap T (.tab q):=λH=>⟨#[],hT,trivial,λpos cv z=>by cases z⟩
 cases hk:K.lookup a with
 |some o=>
  have e:=KX a o hk;rw[ha]at e;cases e;refine NI (λb=>if b=T then aA (.tab q)else aB) (λb hb=>.inl (fZ hb)) (f_ rfl) (.inr ⟨_,vs.toArray,_,hk,rfl,rfl,rfl,by rw[bx,lenV];exact hl,by simpa using rv⟩) (λb u z=>?_) (λb z=>?_) λz=>eF (fZ aT) z
  .by_cases hb:b=T
   .have z':=(f_ hb).symm.trans z;cases z';subst hb;exact UX _
   .have z':=(fZ hb).symm.trans z;cases z'
  .by_cases hb:b=T
   .exact .inr hb
   .exact eF (fZ hb) z
 |none=>
  refine NI (λb=>if b=T then aA (.tab q)else if b=a then aA (.frz {cls:=.type "list",data:=.seq vs.toArray} (.lst (ns.map V.int)))else aB) (λb hb=>?_) (f_ rfl) (.inl (.inr ⟨{cls:=.type "list",data:=.seq vs.toArray},by simp[aT]⟩)) (λb u z=>?_) (λb z=>?_) λ_=>hk
  .by_cases VY:b=a
   .exact .inr ⟨_,_,by simp only[fZ hb];exact f_ VY⟩
   .exact .inl (by simp only[fZ hb];exact fZ VY)
  .by_cases hb:b=T
   .have z':=(f_ hb).symm.trans z;cases z';subst hb;exact UX _
   .have z:=(fZ hb).symm.trans z;by_cases VY:b=a
    .have z':=(f_ VY).symm.trans z;cases z';subst VY;exact⟨ha,by rw[aj];exact hl,vs,_,rv,ha⟩
    .have z':=(fZ VY).symm.trans z;cases z'
  .by_cases hb:b=T
   .exact .inr hb
   .by_cases VY:b=a
    .exact .inl VY
    .exact eF (by simp[hb,VY]) z
end
section
open PySem.Calls
end
section
open PySem.Calls
end
section
open PySem.Calls
end
section
open PySem.Calls
open PySem.W (CodeHd tabObj)
noncomputable def Bn(names:List (Str×NameKind))(cl:List (Str×ao)):Bool:=names.all λp=>p.2 != .free|| (cl.lookup p.1).isSome
theorem qa(h:Bn names cl=aC)(y)(e:names.lookup y=aA .free):∃c,cl.lookup y=aA c:=by have:=List.all_eq_true.mp h (y,.free) (PySem.mem_of_lookup e);have z:((gp !=gp)|| (cl.lookup y).isSome)=aC:=this;rw[show(gp !=gp)=aD by decide,Bool.false_or]at z;exact Option.isSome_iff_exists.mp z
theorem l9{l:PySem.W.OpenLaw}{K:Params->af}{sp:af->Sp}(hn:l.most=aA n)(CK:n<=sizeLine)(O_:d.params.defaults=[])(hr:fJ k callerA)(hY:∀w h,YP w h->(K w.params).In h/\h.get? T=aA (tabObj #[]))(HY:∀p,PySem.W.codeHdIn (K p) c T=aC)(NF:∀p,(K p).lookup T=aB)(F:∀w mg fa h,(K w.params).In h->h.Ns mainGlobals mg->mg d.name=aA (.ref fa)->
   ∃fd,(∀s u,BindsTo s fd ⟨[u],[]⟩ [(x,u)])/\
    ∀base,(K w.params).In base->base.Ns mainGlobals mg->Bj mg base->FnOk l.prog w (K w.params) mg base CX k fa fd [x] (V4 T q (sp (K w.params))))(UA:∀K H a (ns:List Int),ns.length<=n->Be K H a (ns.map V.int)->sp K [.ref a] H (λv H'=>v= .bl aC/\Zj H H') λ_ _ _=>False)(GF:∀H s e s',CX [] H s (λ_ _ _=>False) e s'->False):
  PySem.W.WalkO qp loose XP YP l.row.toRowW d [] (λf vs=>PySem.call f vs):=by
 refine Att.attach_call hn O_ λw s₀ s₁ mg mb fa o pm cd ZX a vs ns G Y ho hd ZT IW RF VQ hlen hg=>?_;obtain⟨KX,hT⟩:=hY w _ Y;obtain⟨fd,hb,hF⟩:=F w mg fa _ KX G.T.g IW;exact jW KX G.T.g G.T.b G.T.builtins G.T.nolimit G.T.bmain hg (PySem.W.codeHd_of_K KX (HY w.params)) hT (NF w.params) RF VQ (dv hlen CK) hr hF hb (λH hS=>UA _ H a ns hlen hS) λH e s'=>GF H s₁ e s'
end
section
open PySem.Calls
end
section
open PySem.Calls
end
section
open PySem.Calls
open PySem.W (kas_sort kas_ask kas_item kat_run kat_snds)
theorem Hm{σ:L2.St}(I:gY X gR σ H s)(hl:s.heap.IsList l gU.toArray)(h64:gU.length<64)(rv:Z1 kvs gU)(hk:∀j kv,kvs[j]? =aA kv->KeyOk j kv H)(hc:Cmp X gR σ H X.A.in1.in1 KeyOk O key gU.length)(hQ:∀p D s' c,Pm gU.length p->Nu key p gU.length->X.s₀.heap.get? D=aB->gY X gR σ H s'->Q2 X gR H D->s'.heap.get? D=aA (eh "list" (List.toArray (p.toList.map λi=>gU.getD i c8)) c)->Q (.ref D) s'):
  bi (b9 X.prog X.w) X.A (call (.builtin "sorted") [.ref l]) Q E s:=by
 refine Calls.call_function_entry kind_sorted plain_sorted entry_sorted (args_sorted1 _) ?_;unfold Builtin.«sorted»;refine aa (m:=checkCount "sorted" 1 1 _) (ad ?_);refine aa (collect_list hl ?_ (by rw[gz];omega));refine aa (wpAny_newList ?_ (by rw[gz];omega));have hsz:((s.heap.push (eh "list" #[] 0)).update s.heap.objs.size (d8 (· ++gU.toArray))).objs.size=s.heap.objs.size+1:=by rw[Heap.size_update,size_push']
 have XX:(((s.heap.push (eh "list" #[] 0)).update s.heap.objs.size (d8 (· ++gU.toArray))).push (eh "list" gU.toArray 0)).get? (s.heap.objs.size+1)=aA (eh "list" gU.toArray 0):=by rw[<-hsz];exact bo _ rfl
 have keep:∀b o,s.heap.get? b=aA o->(((s.heap.push (eh "list" #[] 0)).update s.heap.objs.size (d8 (· ++gU.toArray))).push (eh "list" gU.toArray 0)).get? b=aA o:=λb o q=>by have ZK:b<s.heap.objs.size:=bp q;rw[Heap.get?_push_ne _ _ _ (by rw[hsz];exact cm (Nat.lt_succ_of_lt ZK)),Heap.get?_update_ne _ _ _ _ (cm ZK),Heap.get?_push_ne _ _ _ (cm ZK)];exact q
 show bi _ _ _ _ _ {s with heap:=((s.heap.push (eh "list" #[] 0)).update s.heap.objs.size (d8 (· ++gU.toArray))).push (eh "list" gU.toArray 0)};rw[hsz];refine aa (f9 (d5 slot_list_sort ⟨_,XX,rfl⟩ entry_list_sort ?body (args_list_sort _)))
 case body=>
  rw[list_sort_plain];have XW:(((s.heap.push (eh "list" #[] 0)).update s.heap.objs.size (d8 (· ++gU.toArray))).push (eh "list" gU.toArray 0)).objs.size=s.heap.objs.size+2:=by rw[size_push',hsz]
  generalize hh:(((s.heap.push (eh "list" #[] 0)).update s.heap.objs.size (d8 (· ++gU.toArray))).push (eh "list" gU.toArray 0))=h1 at XX keep XW⊢;generalize hD:s.heap.objs.size+1=D at XX⊢;have uL: @Eq Nat D (s.heap.objs.size+1):=hD.symm;obtain⟨e1,ho1⟩:∃e1,(h1.update D (d8 λ_=>(#[]:Array ag))).get? D=aA (eh "list" #[] e1):=⟨_,get?_update_seq XX λ_=> #[]⟩
  refine aa (listItems_at XX rfl ?_);refine aa (listUpdate_at XX rfl ?_ (by rw[bx,gz];omega) (gd _));refine aa (seqEpoch_at ho1 rfl ?_);refine aa (wpAny_newTuple ?_ (by show gU.length<=_;rw[gz];omega));refine aa (wpAny_newList ?_ (gd _));refine f9 ?_;have kp:∀b o,s.heap.get? b=aA o->(((h1.update D (d8 λ_=>(#[]:Array ag))).push (eh "tuple" gU.toArray 0)).push (eh "list" #[] 0)).get? b=aA o:=λb o q=>by have ZK: @LT.lt Nat _ b s.heap.objs.size:=bp q;have:=keep b o q;refine aq _ (aq _ ?_);rw[Heap.get?_update_ne _ _ _ _ (cm (show @LT.lt Nat _ b D by omega))];exact this
  have nD:H D=aB:=I.hok.fresh (by omega);have fD:Q2 X gR H D:=I.fpOk (by omega) nD;have XY:(((h1.update D (d8 λ_=>(#[]:Array ag))).push (eh "tuple" gU.toArray 0)).push (eh "list" #[] 0)).get? D=aA (eh "list" #[] e1):=aq _ (aq _ ho1);have I6:gY X gR σ H {s with heap:=((h1.update D (d8 λ_=>(#[]:Array ag))).push (eh "tuple" gU.toArray 0)).push (eh "list" #[] 0)}:=I.kept kp;show bi (b9 X.prog X.w) X.A.in1.in1 _ _ _ {s with heap:=((h1.update D (d8 λ_=>(#[]:Array ag))).push (eh "tuple" gU.toArray 0)).push (eh "list" #[] 0)};have RT:X.s₀.heap.get? D=aB:=Heap.get?_none_of_le (dv I.sz (by omega));generalize hs6:({s with heap:=((h1.update D (d8 λ_=>(#[]:Array ag))).push (eh "tuple" gU.toArray 0)).push (eh "list" #[] 0)}:am)=s6 at I6⊢;have XY:s6.heap.get? D=aA (eh "list" #[] e1):=by rw[<-hs6];exact XY
  have fin:∀(p:Array Nat) (out:Array ag),out=List.toArray (p.toList.map λi=>gU.getD i c8)->out.size<64->Pm gU.length p->Nu key p gU.length->
    Q (.ref D) {s6 with heap:=s6.heap.update D (d8 λ_=>out)}:=λp out ho hz z1 z2=>by
   subst ho;exact hQ p D _ _ z1 z2 RT (Tw (o:=eh "list" #[] 0) (xs:= #[]) (ys:= #[]) (n:=0) I6 fD) fD (get?_update_seq XY λ_=>_)
  try dsimp only
  by_cases h2:gU.toArray.size<2
  .rw[f_ h2,f_ h2];have W_:gU.length<2:=by simpa using h2
   refine aa (ad ?_);rw[StateT.run_pure];refine aa (ad ?_)
   try dsimp only
   have eo:(arrOf (SortSt.mk' general' (gU.toArray.zip gU.toArray) #[] 7 aB)).map (·.2)=List.toArray ((List.toArray (cr gU.length)).toList.map λi=>gU.getD i c8):=by
    show(gU.toArray.zip gU.toArray).map (·.2)=_;apply Array.toList_inj.mp;rw[Array.toList_map,ksk_zip];simp only[List.toList_toArray];rw[List.map_snd_zip (by omega)];apply List.ext_getElem
    .simp
    .intro i a b;simp[a]
   rw[eo];refine aa (seqEpoch_at XY rfl ?_);refine aa (listUpdate_at XY rfl ?_ (gd _) (by rw[bx,gz];simp;omega));show bi _ _ (if((e1 !=e1)=aC)then _ else _) _ _ _;simp only[bne_self_eq_false,bq,if_false];refine ad ⟨_,rfl,ad ⟨_,rfl,fin (List.toArray (cr gU.length)) _ rfl (by simp;omega) (Array.Perm.refl _) (λi j YJ hj=>?_)⟩⟩;have:i=j:=by omega
   subst this;exact KeyOrd.kle_refl _
  .rw[fZ h2,fZ h2];have W_:2<=gU.length:=Nat.le_of_not_lt (by simpa using h2);obtain⟨κ,IC,ZK⟩:=hc H s6 gU kvs (Zj.refl H) I6 rv rfl hk W_;refine aa (gv (IC (λSD s'=>SD=κ/\s'=s6) ⟨rfl,rfl⟩) (λSD s' z=>?_) λ_ _ z=>z.elim);obtain⟨rfl,rfl⟩:=z;have g:=W9.wp (lt:=Iy O key) (n:=gU.length) (R:=λq=>Pm gU.length q/\Nu key q gU.length) (cmp:=kas_ask X.prog X.w X.A.in1.in1 SD gU) (I:=λYD=>YD=s') (Q:=λq YD=>YD=s'/\Pm gU.length q/\Nu key q gU.length)
    (λi j C YD hi hj z hC=>by subst z;exact ZK i j C hi hj (hC _ rfl)) (λq YD z1 z2=>⟨z2,z1⟩) (Kg (key:=key) (by omega)) rfl
   refine aa (gv (kat_run (Q:=λst YD=>∃p:Array Nat,YD=s'/\Pm gU.length p/\Nu key p gU.length/\arrOf st=p.map (kas_item (gU.toArray.zip gU.toArray))/\failedOf st=aB) rfl W_ h64
    (λp st YD _ a1 a2 z=>⟨p,z.1,z.2.1,z.2.2,a1,a2⟩) g) (λr YD z=>?_) λ_ _ z=>z)
   obtain⟨⟨⟩,st⟩:=r;obtain⟨p,rfl,z1,z2,z3,z4⟩:=z
   try dsimp only
   rw[kat_snds rfl z3];refine aa (seqEpoch_at XY rfl ?_);refine aa (listUpdate_at XY rfl ?_ (gd _) (by rw[bx,aj,bf,z1.size,gz];omega));rw[z4];simp only[bne_self_eq_false,bq,if_false];exact ad ⟨_,rfl,ad ⟨_,rfl,fin p _ rfl (by rw[bx,aj,bf,z1.size];exact h64) z1 z2⟩⟩
end
section
open PySem.Calls
def zM(K:af):List V->Hp->VK->Prop:=λvs H Q=>∃l F ds ws p,vs=[.ref l]/\Zj F H/\Be K H l ws/\gX K F ds ws/\fH ds/\M9 ds p/\ws.length<64/\∀q,H q=aB->Q (.ref q) (Y3 H q (.lst (p.map λi=>ws.getD i .non)))
theorem jV(hu:X.A.units+64<ft):Je X (.builtin "sorted") (zM X.K):=by
 intro gR s σ H xs us Q I r h;obtain⟨l,F,ds,ws,p0,rfl,le,hl,rr,ko,IQ,hz,q⟩:=h;obtain⟨u,rfl,ru⟩:=Bf r;cases ru;obtain⟨gU,XU,⟨o,n,ho,YL,_,hd⟩,_⟩:=I.list hl;have hlen:ds.length=gU.length:=L2.gX.lenV rr XU;have KY:ws.length=gU.length:=XU.length;obtain⟨fK,he,HR⟩:=id ko.ord;obtain⟨kb,HG⟩:=id ko.key;have TL:X.A.in1.in1.units+16<cLine:=by show X.A.units+1+1+16<ft;omega
 refine Hm (KeyOk:=λj kv H=>fE X.K H (ds.getD j .non) kv) (O:=strKind.toKeyOrd) (key:=KJ fK ds) I ⟨o,ho,YL,n,hd⟩ (by omega) XU (λj kv e=>?_) (yS TL HG he hlen) ?hQ
 .have hj:j<ws.length:=(az.mp e).1;have h1:=Rx rr j (by omega);have:ws.getD j .non=kv:=by rw[bh,e];rfl
  rw[this]at h1;exact h1.mono le
 case hQ=>
  intro p D s3 cc hp hs RT I3 fD gD;have ep:p.toList=p0:=Hl ko (yR he hlen hp hs) IQ;rw[ep]at gD;have QQ:∀i∈p0,i<gU.length:=λi hi=>by have:=cq.mp (IQ.1.mem_iff.mp hi);omega
  have new:Ym X.prog X.w (Y3 H D (.lst (p0.map λi=>ws.getD i .non))) s3.heap D (.lst (p0.map λi=>ws.getD i .non)):=by refine⟨?_,p0.map λi=>gU.getD i c8,cc,jX XU QQ,gD⟩;have:=IQ.1.length_eq;rw[List.length_range]at this;rw[aj,this,gz];omega
  exact⟨.ref D,_,gY.trackO I3 RT fD.1 fD.2.1 fD.2.2.2.2.1 fD.2.2.2.2.2 new,rfl,q D fD.1⟩
end
section
open PySem.Calls
variable{K:af}
def Em:List D->Option SV
 | [.lst xs]=>Nw xs xs
 |_=>aB
theorem qZ{Z:fB K}:Bh Z (zM K) Em:=by
 intro F H σ δ own vs ds sv Q s r e k;unfold Em at e;split at e
 .rename_i xs;obtain⟨_,hz,ko,p,hp,rfl⟩:=mB e;cases r with
  |cons h t=>cases t;obtain⟨a,us,rfl,ha,ru⟩:=h.lst s.le;have QQ:∀i∈p,i<xs.length:=λi hi=>cq.mp (hp.1.mem_iff.mp hi);exact⟨a,F,xs,us,p,rfl,s.le,ha,ru,ko,hp,by rw[<-gX.len2 ru];exact hz,λq hq=>k.lst s (Kk ru QQ) hq⟩
 .cases e
section
variable{X:Cx}{Z:fB X.K}{a b c:c9}{fa fb fc:FE}{pos:Pos}
theorem yQ{p}(hv:X.A.units+64<ft)(hm:X.mg "sorted"=aB)(ha:PE X a (Ze Z fa))(hg:‹Gl X "sorted"›)(he:‹ba [a] X.env=(aD,ig a X.env)::ba [] X.env›)(ZF:‹(gu pos (ba [] X.env)).any (·.1)=aD›):
  PE X (.Call (.Name "sorted" p) [a] [] pos) (Ze Z (Y4 Em (Zc fa Zl))):=L8 (jV hv) qZ hm L2.M8 (Zh ha Z3 he) hg (by decide) (by decide) he ZF
end
end
section
open PySem.Calls
@[simp]noncomputable def G6(lt:D->D->Option Bool):Nat->D->List D->Nat->Option Nat
 |b,_,[],_=>aA b
 |b,kb,k::ks,j=>(lt k kb).bind λc=>if c=aC then G6 lt j k ks (j+1)else G6 lt b kb ks (j+1)
def MSt(X:Cx)(gR:List (ao×Obj))(σ:L2.St)(H0:Hp)(f:ao)(fo:Obj)(I S l:ao)(j:Nat)(best:Array ag)(H:Hp)(s:am):Prop:=
 Zj H0 H/\gY X gR σ H s/\Q2 X gR H I/\Q2 X gR H S/\Q2 X gR H f/\s.heap.IsListIter I l j/\(∃c,s.heap.get? S=aA (eh "list" best c))/\s.heap.get? f=aA fo
def Hn(X:Cx)(gR:List (ao×Obj))(σ:L2.St)(H:Hp)(A:c7)(f:ao)(fo:Obj)(ws:List V)(ks:List D):Prop:=
 ∀(j:Nat) (u:ag) (H1:Hp) (s1:am),j<ws.length->Zv (ws.getD j .non) u->Zj H H1->gY X gR σ H1 s1->s1.heap.get? f=aA fo->Q2 X gR H1 f->
  bi (b9 X.prog X.w) A (call (.ref f) [u]) (λk s2=>∃kv H2,Zj H1 H2/\gY X gR σ H2 s2/\Un (frs X.stack) [] H1 H2 s1.heap s2.heap/\Zv kv k/\fE X.K H2 (ks.getD j .non) kv) (λ_ _=>False) s1
theorem Ry:(toString "min"++toString ".loop":String)="min.loop":=by decide
theorem Sy
  (hk:Hn X gR σ H A f fo ws ks)(hj:j<ws.length)(hu:Zv (ws.getD j .non) u)(m:MSt X gR σ H f fo I S l i best H1 s):
  bi (b9 X.prog X.w) A (call (.ref f) [u]) (λk s2=>∃kv H2,Zv kv k/\fE X.K H2 (ks.getD j .non) kv/\Zj H1 H2/\MSt X gR σ H f fo I S l i best H2 s2) (λ_ _=>False) s:=by
 obtain⟨sm,I1,fI,fS,ff,⟨oI,gI,cI,dI⟩,⟨c,gS⟩,gf⟩:=m;refine gv (hk j u H1 s hj hu sm I1 gf ff) (λk s2 z=>?_) λ_ _ z=>z.elim;obtain⟨kv,H2,WU,I2,un,rk,rp⟩:=z;have nI:=un.free I _ gI fI.1 (by simp);have nS:=un.free S _ gS fS.1 (by simp);have nf:=un.free f _ gf ff.1 (by simp);have gI2:=un.keep I _ gI fI.1 (gY.notStk I1 fI) (by simp);have gS2:=un.keep S _ gS fS.1 (gY.notStk I1 fS) (by simp);have gf2:=un.keep f _ gf ff.1 (gY.notStk I1 ff) (by simp);exact⟨kv,H2,rk,rp,WU,sm.trans WU,I2,FB fI nI,FB fS nS,FB ff nf,⟨oI,gI2,cI,dI⟩,⟨c,gS2⟩,gf2⟩
theorem MSt.turn(WZ:I≠S)(T_:I≠f)(m:MSt X gR σ H f fo I S l j best H1 s)(k:∀b o,b∉[I]->s.heap.get? b=aA o->h'.get? b=aA o)(hi:h'.IsListIter I l (j+1)):
  MSt X gR σ H f fo I S l (j+1) best H1 {s with heap:=h',toks:=tk}:=by
 obtain⟨sm,I1,fI,fS,ff,gI,⟨c,gS⟩,gf⟩:=m;refine⟨sm,I1.turned (λb o hb e=>k b o (by simpa using hb) e) fI.1 fI.2.1 fI.2.2.2.1 fI.2.2.2.2.1 fI.2.2.2.2.2,fI,fS,ff,hi,⟨c,k _ _ (by simpa using WZ.symm) gS⟩,k _ _ (by simpa using T_.symm) gf⟩
theorem MSt.gone(m:MSt X gR σ H f fo I S l j best H1 s)(k:∀b o,b∉[I]->s.heap.get? b=aA o->h'.get? b=aA o):gY X gR σ H1 {s with heap:=h',toks:=tk}:=by obtain⟨sm,I1,fI,fS,ff,gI,⟨c,gS⟩,gf⟩:=m;exact I1.turned (λb o hb e=>k b o (by simpa using hb) e) fI.1 fI.2.1 fI.2.2.2.1 fI.2.2.2.2.1 fI.2.2.2.2.2
theorem MSt.put(WZ:I≠S)(TY:S≠f)(m:MSt X gR σ H f fo I S l j best H1 s):MSt X gR σ H f fo I S l j best' H1 {s with heap:=s.heap.update S (d8 λ_=>best')}:=by
 obtain⟨sm,I1,fI,fS,ff,⟨oI,gI,cI,dI⟩,⟨c,gS⟩,gf⟩:=m;refine⟨sm,Tw (o:=eh "list" #[] 0) (xs:= #[]) (ys:= #[]) (n:=0) I1 fS,fI,fS,ff,⟨oI,?_,cI,dI⟩,⟨_,get?_update_seq gS λ_=>best'⟩,?_⟩
 .show(s.heap.update S _).get? I=_;rw[Heap.get?_update_ne _ _ _ _ WZ];exact gI
 .show(s.heap.update S _).get? f=_;rw[Heap.get?_update_ne _ _ _ _ (Ne.symm TY)];exact gf
theorem jU{α:Type}{l r:List α}{k}(h:l.drop j=k::r):l[j]? =aA k/\l.drop (j+1)=r:=by
 have hj:j<l.length:=by
  rcases du j l.length with z|z
  .exact z
  .rw[List.drop_of_length_le z]at h;cases h
 rw[ie hj]at h;obtain⟨h1,h2⟩:=List.cons.inj h;exact⟨by rw[au hj,h1],h2⟩
theorem xP:∀{ws:List V} {gU:List ag},Z1 ws gU->∀{j:Nat} {v:ag},gU[j]? =aA v->Zv (ws.getD j .non) v:=by
 intro ws gU h;induction h with
 |nil=>intro j v z;simp at z
 |cons r t ih=>
  intro j v z;cases j with
  |zero=>simp only[List.getElem?_cons_zero,Option.some.injEq]at z;subst z;exact r
  |succ j=>exact ih (by simpa using z)
theorem En(hh:X.A.handled=aB)(TL:X.A.units+32<ft)(WZ:I≠S)(T_:I≠f)(TY:S≠f)(RL:l≠I)(hk:Hn X gR σ H X.A.in1 f fo ws ks)(RK:ks.length=ws.length)(hl:∀H' s',Zj H H'->gY X gR σ H' s'->∃gU,Z1 ws gU/\s'.heap.IsList l gU.toArray)(hR:∀H' s' v,Zj H H'->gY X gR σ H' s'->Zv (ws.getD m .non) v->R (.ok (.ret v)) s'):
  ∀r j b vb QC OD H1 s,ks.drop j=r->j<=ws.length->MSt X gR σ H f fo I S l j #[vb,QC] H1 s->Zv (ws.getD b .non) vb->Zv OD QC->fE X.K H1 (ks.getD b .non) OD->G6 (Q5 16) b (ks.getD b .non) r j=aA m->
   codeAny (b9 X.prog X.w) X.A (.builtin "min.loop" ⟨[.ref I,.ref f,.ref S],kw⟩) R s
 | [],j,b,vb,QC,OD,H1,s,hr,TW,ms,hb,rb,rpb,e=>by
  obtain rfl:b=m:=by simpa using e
  have UC:ks.length<=j:=by
   rcases du j ks.length with z|z
   .rw[ie z]at hr;cases hr
   .exact z
  obtain⟨sm,I1,fI,fS,ff,gI,⟨c,gS⟩,gf⟩:=id ms;obtain⟨gU,XU,XM⟩:=hl H1 s sm I1;have wl:ws.length=gU.length:=XU.length;have W:=Walks.list (prog:=X.prog) (w:=X.w) (A:=X.A.in1) hh I l RL gU.toArray;refine ik PySem.F.entry_min_loop ?_;rw[gm PySem.F.plain_min_loop _];show bi _ X.A.in1 (seqItems? (.ref S) >>=_) _ _ _;refine aa (wpAny_seqItems gS rfl ?_);show bi _ X.A.in1 (tryCatch (pyNext (.ref I)) _ >>=_) _ _ _;have vn:j=gU.toArray.size:=by rw[bx];omega
  refine aa (wpAny_tryCatch (W.done _ _ _ ⟨by rw[<-vn];exact gI,XM⟩ λh' SH WY=>?_));have gS':=WY S _ (by simpa using WZ.symm) gS;show bi _ X.A.in1 (updateSeq S (λ_=> #[]) >>=_) _ _ _;refine aa ?_;refine wpAny_updateSeq gS' rfl (aa (wpAny_letGo (ad ?_)));have I2:=ms.gone (tk:=SH) WY;exact hR H1 _ vb sm (Tw (o:=eh "list" #[] 0) (xs:= #[]) (ys:= #[]) (n:=0) (t':=SH) (g:=λ_=>(#[]:Array ag)) I2 fS) hb
 |k0::r,j,b,vb,QC,OD,H1,s,hr,TW,ms,hb,rb,rpb,e=>by
  obtain⟨CQ,QE⟩:=jU hr;have hj:j<ws.length:=by have:=(az.mp CQ).1;omega
  have gk:ks.getD j .non=k0:=by rw[bh,CQ];rfl
  obtain⟨sm,I1,fI,fS,ff,gI,⟨c,gS⟩,gf⟩:=id ms;obtain⟨gU,XU,XM⟩:=hl H1 s sm I1;have wl:ws.length=gU.length:=XU.length;have W:=Walks.list (prog:=X.prog) (w:=X.w) (A:=X.A.in1) hh I l RL gU.toArray;refine ik PySem.F.entry_min_loop ?_;rw[gm PySem.F.plain_min_loop _];show bi _ X.A.in1 (seqItems? (.ref S) >>=_) _ _ _;refine aa (wpAny_seqItems gS rfl ?_);show bi _ X.A.in1 (tryCatch (pyNext (.ref I)) _ >>=_) _ _ _;refine aa (wpAny_tryCatch (W.item j _ _ _ (by rw[bx];omega) ⟨gI,XM⟩ λv h' SH hP SZ WY=>?_));have hv:Zv (ws.getD j .non) v:=xP XU (by simpa using hP);have ms1:=ms.turn (tk:=SH) WZ T_ WY SZ.1;show bi _ X.A.in1 (tryCatch (holding [v] (call (.ref f) [v])) _ >>=_) _ _ _;refine aa (wpAny_tryCatch (f9 (gv (Sy hk hj hv ms1) (λx YD he=>?_) λ_ _ hF=>hF.elim)));refine Ol he λkv H2 rk rp WU QB=>?_;obtain⟨sm3,I2,fI2,fS2,ff2,gI2,⟨c2,gS2⟩,gf2⟩:=id QB;have e:(Q5 16 k0 (ks.getD b .non)).bind (λc=>if c=aC then G6 (Q5 16) j k0 r (j+1)else G6 (Q5 16) b (ks.getD b .non) r (j+1))=aA m:=e;refine gZ e λc0 e1 e2=>?_;rw[<-gk]at e1;have lt:=Nv I2 (Zj.refl H2) 16 X.A.in1 _ _ _ _ _ _ _ (by show X.A.units+1+16<ft;omega) rp rk (rpb.mono WU) rb e1;show bi _ X.A.in1 (tryCatch (holding [v,x] (richCompare .Lt x QC >>=_)) _ >>=_) _ _ _;refine aa (wpAny_tryCatch (f9 (aa (lt X.prog X.w _ _ ?_))));refine aa (f9 (wpAny_truthy_bool ?_));refine aa (wpAny_letGo (ad ?_));cases c0 with
  |true=>simp only[if_true]at e2⊢;refine aa ?_;refine wpAny_updateSeq gS2 rfl (aa (wpAny_letGo ?_));rw[Ry];rw[<-gk]at e2;exact ad ⟨plainId_quiet PySem.F.plain_min_loop _,En hh TL WZ T_ TY RL hk RK hl hR r (j+1) j v x kv H2 _ QE hj (QB.put WZ TY) hv rk rp e2⟩
  |false=>simp only[bq,if_false]at e2⊢;refine aa (wpAny_letGo ?_);rw[Ry];exact ad ⟨plainId_quiet PySem.F.plain_min_loop _,En hh TL WZ T_ TY RL hk RK hl hR r (j+1) b vb QC OD H2 _ QE hj QB hb rb (rpb.mono WU) e2⟩
end
section
open PySem.Calls
open PySem.W (CodeHd kla_fn kla_obj)
theorem lc(a v u):argsOk "min" ⟨[a],[(dz "key",v),(dz "default",u)]⟩:=by unfold argsOk;kernel_rfl
@[simp]def QS(lt:D->D->Option Bool):List D->Option (Option Nat)
 | []=>aA aB
 |k::ks=>(G6 lt 0 k ks 1).bind λm=>aA (aA m)
theorem lZ{σ:L2.St}{f l:ao}(hh:X.A.handled=aB)(TL:X.A.units+32<ft)(I:gY X gR σ H s)(HC:l<s.heap.objs.size)(gf:s.heap.get? f=aA fo)(ff:Q2 X gR H f)(hk:Hn X gR σ H X.A.in1 f fo ws ks)(RK:ks.length=ws.length)(hl:∀H' s',Zj H H'->gY X gR σ H' s'->∃gU,Z1 ws gU/\s'.heap.IsList l gU.toArray)(hm:QS (Q5 16) ks=aA m)(hQ:∀H' s' v,Zj H H'->gY X gR σ H' s'->Zv ((m.map λi=>ws.getD i .non).getD .non) v->Q v s'):
  bi (b9 X.prog X.w) X.A (call (.builtin "min") [.ref l] [(dz "key",.ref f),(dz "default",.none)]) Q E s:=by
 refine kmk_tree PySem.F.kind_min PySem.F.plain_min PySem.F.entry_min (lc _ _ _) ?_;show bi _ X.A.in1 (Builtin.Builtins.bindParams "min" ["key","default"] 0 ⟨[],[(dz "key",.ref f),(dz "default",.none)]⟩>>=_) _ _ s;refine aa (wpAny_of_eq (show Builtin.Builtins.bindParams "min" ["key","default"] 0 ⟨[],[(dz "key",.ref f),(dz "default",.none)]⟩=pure [aA (.ref f),aA .none]from rfl) ?_);refine aa (ad ?_);obtain⟨vM,_,HM⟩:=hl H s (Zj.refl H) I;refine aa (wpAny_pyIter_list HM ?_);refine aa (wpAny_newList ?_ (gd _));rw[Ry];have hS:(s.heap.push {cls:=.type "list_iterator",data:=.fields #[.ref l,.int 0 0]}).objs.size=s.heap.objs.size+1:=size_push' ..;refine ad ⟨plainId_quiet PySem.F.plain_min_loop _,?_⟩;have gI:((s.heap.push {cls:=.type "list_iterator",data:=.fields #[.ref l,.int 0 0]}).push (eh "list" #[] 0)).get? s.heap.objs.size=aA {cls:=.type "list_iterator",data:=.fields #[.ref l,.int 0 0]}:=
  aq _ (bo _ rfl)
 have gS:((s.heap.push {cls:=.type "list_iterator",data:=.fields #[.ref l,.int 0 0]}).push (eh "list" #[] 0)).get? (s.heap.objs.size+1)=aA (eh "list" #[] 0):=by rw[<-hS];exact bo _ rfl
 have C_: @LT.lt Nat _ f s.heap.objs.size:=bp gf;have kp:∀b o,s.heap.get? b=aA o->((s.heap.push {cls:=.type "list_iterator",data:=.fields #[.ref l,.int 0 0]}).push (eh "list" #[] 0)).get? b=aA o:=λb o e=>aq _ (aq _ e);have nI:H s.heap.objs.size=aB:=I.hok.fresh (bc _);have nS:H (s.heap.objs.size+1)=aB:=I.hok.fresh (Nat.le_succ _);have ms:MSt X gR σ H f fo s.heap.objs.size (s.heap.objs.size+1) l 0 #[] H {s with heap:=(s.heap.push {cls:=.type "list_iterator",data:=.fields #[.ref l,.int 0 0]}).push (eh "list" #[] 0)}:=
  ⟨Zj.refl H,I.kept kp,I.fpOk (bc _) nI,I.fpOk (Nat.le_succ _) nS,ff,⟨_,gI,rfl,rfl⟩,⟨_,gS⟩,kp _ _ gf⟩
 have WZ:s.heap.objs.size≠s.heap.objs.size+1:=cm (Nat.lt_succ_self _);have T_:s.heap.objs.size≠f:=Nat.ne_of_gt C_;have TY:s.heap.objs.size+1≠f:=Nat.ne_of_gt (Nat.lt_succ_of_lt C_);have RL:l≠s.heap.objs.size:=cm HC;rw[hS];show codeAny (b9 X.prog X.w) X.A (.builtin "min.loop" ⟨[.ref s.heap.objs.size,.ref f,.ref (s.heap.objs.size+1)],[(dz "default",.none)]⟩) _ _;obtain⟨gU,XU,XM⟩:=hl H _ (Zj.refl H) ms.2.1;have wl:ws.length=gU.length:=XU.length;have W:=Walks.list (prog:=X.prog) (w:=X.w) (A:=X.A.in1) hh s.heap.objs.size l RL gU.toArray;refine ik PySem.F.entry_min_loop ?_;rw[gm PySem.F.plain_min_loop _];show bi _ X.A.in1 (seqItems? (.ref (s.heap.objs.size+1)) >>=_) _ _ _;refine aa (wpAny_seqItems gS rfl ?_);show bi _ X.A.in1 (tryCatch (pyNext (.ref s.heap.objs.size)) _ >>=_) _ _ _;cases TV:ks with
 |nil=>
  rw[TV]at hm RK;obtain rfl:aB=m:=by simpa using hm
  have h0:gU.toArray.size=0:=by rw[bx,<-wl,<-RK];rfl
  refine aa (wpAny_tryCatch (W.done _ _ _ ⟨by rw[h0];exact⟨_,gI,rfl,rfl⟩,XM⟩ λh' SH WY=>?_));show bi _ X.A.in1 (rule _ >>=_) _ _ _;refine aa (wpAny_rule (ad ?_));exact hQ H _ _ (Zj.refl H) (ms.gone WY) rfl
 |cons k0 r=>
  rw[TV]at hm;have hm:(G6 (Q5 16) 0 k0 r 1).bind (λm=>aA (aA m))=aA m:=hm;refine gZ hm λmi e1 e2=>?_;cases e2;have hj:0<ws.length:=by rw[<-RK,TV];exact Nat.succ_pos _
  refine aa (wpAny_tryCatch (W.item 0 _ _ _ (by rw[bx];omega) ⟨⟨_,gI,rfl,rfl⟩,XM⟩ λv h' SH hP SZ WY=>?_));have hv:Zv (ws.getD 0 .non) v:=xP XU (by simpa using hP);have ms1:=ms.turn (tk:=SH) WZ T_ WY SZ.1;show bi _ X.A.in1 (tryCatch (holding [v] (call (.ref f) [v])) _ >>=_) _ _ _;refine aa (wpAny_tryCatch (f9 (gv (Sy hk hj hv ms1) (λx YD he=>?_) λ_ _ hF=>hF.elim)));refine Ol he λkv H2 rk rp WU QB=>?_;obtain⟨sm3,I2,fI2,fS2,ff2,gI2,⟨c2,gS2⟩,gf2⟩:=id QB;show bi _ X.A.in1 (updateSeq (s.heap.objs.size+1) (λ_=> #[v,x]) >>=_) _ _ _;refine aa ?_;refine wpAny_updateSeq gS2 rfl ?_;rw[Ry];have g0:ks.getD 0 .non=k0:=by rw[TV];rfl
  refine ad ⟨plainId_quiet PySem.F.plain_min_loop _,En (m:=mi) hh TL WZ T_ TY RL hk RK hl (λH' s' v a b r=>hQ H' s' v a b r) r 1 0 v x kv H2 _ (by rw[TV];rfl) hj (QB.put WZ TY) hv rk rp (by rw[g0];exact e1)⟩
end
section
open PySem.Calls
open PySem.W (CodeHd kla_fn kla_obj)
@[simp]def BZ(fb:FE)(js:List Nat)(d:D)(δ:Yp):Option (RV×Yp):=match d with
 | .lst xs=>(frzAll (js.map RV.bw) δ).bind λr=>(Ta fb r.1 xs).bind λks=>(QS (Q5 16) ks).bind λm=>aA (.tmp (.fz ((m.map λi=>xs.getD i .non).getD .non)),r.2)
 |_=>aB
@[simp]def EA(fa:FE)(js:List Nat)(fb:FE):FE:=λδ=>(fa δ).bind λp=>(frz p.1 p.2).bind λq=>BZ fb js q.1 q.2
theorem lY:bootBuiltins "min"=aA (.builtin "min"):=by kernel_rfl
theorem Nx:∀{ks:List D} {b j m:Nat} {kb:D},G6 lt b kb ks j=aA m->b<j->m<j+ks.length
 | [],b,j,m,kb,h,hb=>by
  obtain rfl:b=m:=by simpa using h
  simpa using hb
 |k::ks,b,j,m,kb,h,hb=>by
  have h:(lt k kb).bind (λc=>if c=aC then G6 lt j k ks (j+1)else G6 lt b kb ks (j+1))=aA m:=h;refine gZ h λc _ h2=>?_;rw[aw];cases c with
  |true=>have:=Nx (b:=j) (by simpa using h2) (Nat.lt_succ_self _);omega
  |false=>have:=Nx (b:=b) (by simpa using h2) (by omega);omega
theorem n6(h:QS lt ks=aA (aA m)):m<ks.length:=by
 cases ks with
 |nil=>simp at h
 |cons k ks=>have h:(G6 lt 0 k ks 1).bind (λm=>aA (aA m))=aA (aA m):=h;refine gZ h λm' e1 e2=>?_;cases e2;have:=Nx e1 (Nat.lt_succ_self _);rw[aw];omega
theorem qY{Z:fB X.K}{p1 p2 lp kp np np2}{ck}(hr:fJ 2 X.A)(hc:X.calm=aC)(hv:X.A.units+64<ft)(h1:X.mg "min"=aB)(YT:X.env.code= .ref c)(C:CodeHd X.base c P)(hT:Z.h P=aA (.tab q))(hq:X.env.qual++ "<lambda>"=q)(B:Bj X.mg X.base)(S:LamS x fs sc)(YL:closureFor sc X.env=pure clos)(VW:defaultsOf params X.env=([],[]))(YM:∀cl pm c WJ u,bindArgs (kla_fn "<lambda>" q params body sc cl pm (.ref c) WJ) ⟨[u],[]⟩=pure [(x,u)])(WE:∀y c,clos.lookup y=aA c->X.env.cells.lookup y=aA c)(has:∀y,sc.names.lookup y=aA .free->∃c,clos.lookup y=aA c)(TW:js.length=fs.length)(vm:∀(i j:Nat) y,js[i]? =aA j->fs[i]? =aA y->X.N[j]? =aA y/\X.env.scope.names.lookup y=aA .cell/\sc.names.lookup y=aA .free)(ha:PE X a (Ze Z fa))(hb:∀f c A s1 H1 F1,(cxL X (x::fs) q sc f c clos A s1 H1).A.units+1<ft->PE (cxL X (x::fs) q sc f c clos A s1 H1) body (Ze (ent H1 F1:fB X.K) fb))(g1:‹Gl X "min"›)(WR:‹ba [a] X.env=(aD,ig a X.env)::ba [] X.env›)(RB:‹(gu p2 (ba [] X.env)).any (·.1)=aD›):
  PE X (.Call (.Name "min" p1) [a] [⟨aA "key",.Lambda params body sc lp,kp⟩,⟨aA "default",.Constant .none ck np,np2⟩] p2) (Ze Z (EA fa js fb)):=by
 intro gR s σ H Q I h;refine Yo h λF δ own rv δ' sr e k=>?_;refine fA e λW' δ1 e1 e2=>?_;refine fA e2 λd δ2 e3 e4=>?_;refine wpAny_Call_Name_kw (Bq I g1 h1 L2.lY ?_);refine callWith_builtin_kwB (by rw[WR];show(aD|| (gu p2 (ba [] X.env)).any (·.1))=aD;rw[RB];rfl) rfl ?_;rw[WR];show bi _ _ (evalArgs (.builtin "min") aC ((aD,ig a X.env)::gu p2 (ba [] X.env)) _) _ _ s;refine evalArgs_kwB rfl (Calls.spliced_cons (gv (ha gR s σ H (λv H'=>∃F' own',Zj H H'/\Zj F F'/\SR Z F' H' σ δ1 own'/\D6 Z F' H' σ own' W' v) I ⟨F,δ,own,W',δ1,sr,e1,λv H' F' own' a1 a2 a3 a4=>⟨F',own',a1,a2,a3,a4⟩⟩) (λu s1 z=>?_) λ_ _ z=>z));obtain⟨v,H1,I1,ru,F1,own1,MF,DH,wQ,PR⟩:=z;show bi _ _ (spliced []) _ _ _;refine Calls.spliced_nil ?_;refine Zn (wQ.settleR PR) λF2 DG wP PQ=>?_;refine Ya (wP.frzR PQ e3) λF3 ZI DF wO JJ=>?_;cases d with
 |lst xs=>
  have e4:(frzAll (js.map RV.bw) δ2).bind (λr=>(Ta fb r.1 xs).bind λks=>(QS (Q5 16) ks).bind λm=>aA (RV.tmp (.fz ((m.map λi=>xs.getD i .non).getD .non)),r.2))=aA (rv,δ'):=e4;refine fA e4 λcs δ3 e5 e6=>?_;refine gZ e6 λks e7 e8=>?_;refine gZ e8 λm e9 T'=>?_;cases T';obtain⟨F4,ZU,vs,JC,DE,r4,l4,g4⟩:=yT wO e5;have rep4:=JJ.mono JC;refine kws_cons ?_;have uE:H1 P=aA (.tab q):=DE.old _ _ hT;refine kA I1 YT C uE hq B YL VW λf c' pm WJ oc H2 s2 WU nf I2 gf ZT vO=>?_;refine kws_cons ?_;refine Constant_none ?_;refine kws_nil ?_;have sr5:=DE.grow WU;cases rep4 with
  | @lst al Q_ ws hsq _ rws=>
   cases ru;obtain⟨gU,XU,XM⟩:=Qs I2 sr5.le hsq;have hlen:xs.length=gU.length:=gX.lenV rws XU;have KY:ws.length=gU.length:=XU.length;have kl:=(El e7).1;have vU:fJ 1 X.A.in1:=hr.in1;have HC:al<s2.heap.objs.size:=by obtain⟨o,ho,_⟩:=XM;exact bp ho
   have UL:∀(j:Nat) (dj:D),xs[j]? =aA dj->∃kd,ks.getD j .non=kd/\QZ fb cs dj=aA kd:=λj dj hj=>by obtain⟨kd,a1,a2⟩:=(El e7).2 j dj hj;exact⟨kd,by rw[bh,a1];rfl,a2⟩
   show bi _ _ (call (.builtin "min") [.ref al] [(dz "key",.ref f),(dz "default",.none)]) _ _ s2;refine lZ (m:=m) (ks:=ks) (ws:=ws) (I1.ok.hd hc) (by omega) I2 HC gf nf ?hcall (by omega) ?hlst e9 ?hQ
   case hlst=>
    intro H' s' sm' I';exact Qs I' ((sr5.le).trans sm') hsq
   case hcall=>
    intro j u H3 s3 hj rw2 sm3 I3 gf3 ff3;have QI:j<xs.length:=by omega
    have rw1:=Rx rws j QI;have OH:xs[j]? =aA (xs.getD j .non):=by rw[bh,au QI];rfl
    obtain⟨kd,ek,GL⟩:=UL j _ OH;have GL:(fb (aA (.fz (xs.getD j .non))::cs.map λc=>aA (.fz c))).bind (λp=>(frz p.1 p.2).bind λq=>aA q.1)=aA kd:=GL;refine fA GL λwb x_ f1 f2=>?_;refine fA f2 λdk xz f3 f4=>?_;cases f4;have OB:Zj F4 H3:=(sr5.le).trans sm3;have hcr:=pL I3.hok (sm3 _ _ ZT) vO;refine gv (kB (ws:=vs.map aA) S vU I3.ok.frames I3 gf3 hcr (YM _ _ _ _ _) WE has (by rw[aj,l4,TW]) (λi y w' z1 z2=>?_) rw2 (hb f c' X.A.in1 s3 H3 F4 (by show X.A.units+1+3+1<ft;omega)) (Q:=λkv H4=>Zj H3 H4/\fE X.K H4 dk kv) ⟨F4,_,_,wb,x_,pH OB rw1 r4,f1,λkv H4 F5 VG a1 a2 a3 a4=>?_⟩) (λk s4 z=>?_) λ_ _ z=>z
    .have UU:(vs.map aA)[i]? =aA (aA w'):=z2;rw[ay]at UU;have iV:i<vs.length:=by
      rcases du i vs.length with zz|zz
      .exact zz
      .rw[d7 zz]at UU;cases UU
     obtain⟨jj,hjj⟩:∃jj,js[i]? =aA jj:=⟨_,au (by omega)⟩
     obtain⟨b1,b2,b3⟩:=vm i jj y hjj z1;have MR:vs[i]? =aA w':=by
      cases hq:vs[i]? with
      |none=>rw[hq]at UU;cases UU
      |some v2=>rw[hq]at UU;simp at UU;rw[UU]
     exact⟨jj,b1,g4 i jj w' hjj MR,b2,b3⟩
    .refine Zn (a3.settleR a4) λF6 iN sr6 wg=>?_;refine Ya (sr6.frzR wg f3) λF7 VE iM wN JH=>?_;exact⟨a1,JH.mono wN.le⟩
    .obtain⟨kv,H4,os,bare,un,hok,rk,wS,rep⟩:=z;refine⟨kv,H4,wS,?_,un,rk,by rw[ek];exact rep⟩;obtain⟨hh,gg,dd,tt,JM⟩:=s4;obtain rfl:JM=s3.os:=os;exact I3.call (h':=hh) (g':=gg) (d':=dd) (t':=tt) (ch:=[]) un hok bare (λb z=>eF z (by simp))
   case hQ=>
    intro H3 s3 v3 sm3 I3 rv3;have sr6:=sr5.grow sm3;cases m with
    |none=>exact⟨.non,H3,I3,rv3,k .non H3 F4 ZU ((MF.trans WU).trans sm3) (((DH.trans DG).trans DF).trans JC) sr6 ⟨[],fO.fz .non⟩⟩
    |some i=>
     have hi:i<xs.length:=by have:=n6 e9;omega
     exact⟨ws.getD i .non,H3,I3,rv3,k _ H3 F4 ZU ((MF.trans WU).trans sm3) (((DH.trans DG).trans DF).trans JC) sr6 ⟨[],fO.fz (Rx rws i hi)⟩⟩
 |_=>cases e4
end
section
open PySem.Calls
section
variable{X:Cx}{Z:fB X.K}{a b:c9}{fa fb:FE}{pos:Pos}
theorem qX(x){params}{p1 lp kp np np2}{ck}(hr:fJ 2 X.A)(hv:X.A.units+64<ft)(h1:X.mg "min"=aB)(C:PySem.W.CodeHd X.base c P)(hT:Z.h P=aA (.tab q))(B:Bj X.mg X.base)(ha:PE X a (Ze Z fa))(hb:∀f c A s1 H1 F1,(cxL X [x] q sc f c [] A s1 H1).A.units+1<ft->PE (cxL X [x] q sc f c [] A s1 H1) body (Ze (ent H1 F1:fB X.K) fb))(hc:‹X.calm=aC›)(YT:‹X.env.code= .ref c›)(hq:‹X.env.qual++ "<lambda>"=q›)(S:LamS x [] sc)(YL:‹closureFor sc X.env=pure []›)(VW:‹defaultsOf params X.env=([],[])›)(YM:∀cl pm c WJ u,bindArgs (PySem.W.kla_fn "<lambda>" q params body sc cl pm (.ref c) WJ) ⟨[u],[]⟩=pure [(x,u)])(has:‹Bn sc.names []=aC›)(g1:‹Gl X "min"›)(WR:‹ba [a] X.env=(aD,ig a X.env)::ba [] X.env›)(RB:‹(gu pos (ba [] X.env)).any (·.1)=aD›):
  PE X (.Call (.Name "min" p1) [a] [⟨aA "key",.Lambda params body sc lp,kp⟩,⟨aA "default",.Constant .none ck np,np2⟩] pos) (Ze Z (EA fa [] fb)):=
 L2.qY (fs:=[]) (js:=[]) hr hc hv h1 YT C hT hq B S YL VW YM (λ_ _ h=>by cases h) (λy e=>qa has y e) rfl (λi j y h=>by simp at h) ha hb g1 WR RB
end
end
section
open PySem.Calls
end
section
open PySem.Calls
open PySem.W (kas_sort kas_ask kas_item kat_run kat_snds)
theorem jT{σ:L2.St}{Q:ag->am->Prop}(I:gY X gR σ H s)(h64:gU.length<64)(rv:Z1 kvs gU)(hk:∀j kv,kvs[j]? =aA kv->KeyOk j kv H)(hc:Cmp X gR σ H X.A.in1.in1 KeyOk O key gU.length)(hQ:∀p D s' c,Pm gU.length p->Nu key p gU.length->X.s₀.heap.get? D=aB->gY X gR σ H s'->Q2 X gR H D->s'.heap.get? D=aA (eh "list" (List.toArray (p.toList.map λi=>gU.getD i c8)) c)->Q (.ref D) s'):
  bi (b9 X.prog X.w) X.A.in1 (do
   let l<-newList gU;let _<-holding [l] (call (.builtin "list.sort") [l] [])
   ret l) (λfin s'=>∃v,fin= .done (.ret v)/\Q v s') E s:=by
 refine aa (wpAny_newList ?_ (by rw[gz];omega));have XX:(s.heap.push (eh "list" gU.toArray 0)).get? s.heap.objs.size=aA (eh "list" gU.toArray 0):=bo _ rfl;have keep:∀b o,s.heap.get? b=aA o->(s.heap.push (eh "list" gU.toArray 0)).get? b=aA o:=λb o q=>aq _ q;refine aa (f9 (d5 (s:={s with heap:=s.heap.push (eh "list" gU.toArray 0)}) slot_list_sort ⟨_,XX,rfl⟩ entry_list_sort ?body (args_list_sort _)))
 case body=>
  rw[list_sort_plain];have XW:(s.heap.push (eh "list" gU.toArray 0)).objs.size=s.heap.objs.size+1:=size_push' ..;generalize hh:(s.heap.push (eh "list" gU.toArray 0))=h1 at XX keep XW⊢;generalize hD:s.heap.objs.size=D at XX⊢;have uL: @Eq Nat D s.heap.objs.size:=hD.symm;obtain⟨e1,ho1⟩:∃e1,(h1.update D (d8 λ_=>(#[]:Array ag))).get? D=aA (eh "list" #[] e1):=⟨_,get?_update_seq XX λ_=> #[]⟩
  refine aa (listItems_at XX rfl ?_);refine aa (listUpdate_at XX rfl ?_ (by rw[bx,gz];omega) (gd _));refine aa (seqEpoch_at ho1 rfl ?_);refine aa (wpAny_newTuple ?_ (by show gU.length<=_;rw[gz];omega));refine aa (wpAny_newList ?_ (gd _));refine f9 ?_;have kp:∀b o,s.heap.get? b=aA o->(((h1.update D (d8 λ_=>(#[]:Array ag))).push (eh "tuple" gU.toArray 0)).push (eh "list" #[] 0)).get? b=aA o:=λb o q=>by have ZK: @LT.lt Nat _ b s.heap.objs.size:=bp q;have:=keep b o q;refine aq _ (aq _ ?_);rw[Heap.get?_update_ne _ _ _ _ (cm (show @LT.lt Nat _ b D by omega))];exact this
  have nD:H D=aB:=I.hok.fresh (by omega);have fD:Q2 X gR H D:=I.fpOk (by omega) nD;have XY:(((h1.update D (d8 λ_=>(#[]:Array ag))).push (eh "tuple" gU.toArray 0)).push (eh "list" #[] 0)).get? D=aA (eh "list" #[] e1):=aq _ (aq _ ho1);have I6:gY X gR σ H {s with heap:=((h1.update D (d8 λ_=>(#[]:Array ag))).push (eh "tuple" gU.toArray 0)).push (eh "list" #[] 0)}:=I.kept kp;show bi (b9 X.prog X.w) X.A.in1.in1 _ _ _ {s with heap:=((h1.update D (d8 λ_=>(#[]:Array ag))).push (eh "tuple" gU.toArray 0)).push (eh "list" #[] 0)};have RT:X.s₀.heap.get? D=aB:=Heap.get?_none_of_le (dv I.sz (by omega));generalize hs6:({s with heap:=((h1.update D (d8 λ_=>(#[]:Array ag))).push (eh "tuple" gU.toArray 0)).push (eh "list" #[] 0)}:am)=s6 at I6⊢;have XY:s6.heap.get? D=aA (eh "list" #[] e1):=by rw[<-hs6];exact XY
  have fin:∀(p:Array Nat) (out:Array ag),out=List.toArray (p.toList.map λi=>gU.getD i c8)->out.size<64->Pm gU.length p->Nu key p gU.length->
    Q (.ref D) {s6 with heap:=s6.heap.update D (d8 λ_=>out)}:=λp out ho hz z1 z2=>by
   subst ho;exact hQ p D _ _ z1 z2 RT (Tw (o:=eh "list" #[] 0) (xs:= #[]) (ys:= #[]) (n:=0) I6 fD) fD (get?_update_seq XY λ_=>_)
  try dsimp only
  by_cases h2:gU.toArray.size<2
  .rw[f_ h2,f_ h2];have W_:gU.length<2:=by simpa using h2
   refine aa (ad ?_);rw[StateT.run_pure];refine aa (ad ?_)
   try dsimp only
   have eo:(arrOf (SortSt.mk' general' (gU.toArray.zip gU.toArray) #[] 7 aB)).map (·.2)=List.toArray ((List.toArray (cr gU.length)).toList.map λi=>gU.getD i c8):=by
    show(gU.toArray.zip gU.toArray).map (·.2)=_;apply Array.toList_inj.mp;rw[Array.toList_map,ksk_zip];simp only[List.toList_toArray];rw[List.map_snd_zip (by omega)];apply List.ext_getElem
    .simp
    .intro i a b;simp[a]
   rw[eo];refine aa (seqEpoch_at XY rfl ?_);refine aa (listUpdate_at XY rfl ?_ (gd _) (by rw[bx,gz];simp;omega));show bi _ _ (if((e1 !=e1)=aC)then _ else _) _ _ _;simp only[bne_self_eq_false,bq,if_false];refine ad ⟨_,rfl,ad ⟨_,rfl,fin (List.toArray (cr gU.length)) _ rfl (by simp;omega) (Array.Perm.refl _) (λi j YJ hj=>?_)⟩⟩;have:i=j:=by omega
   subst this;exact KeyOrd.kle_refl _
  .rw[fZ h2,fZ h2];have W_:2<=gU.length:=Nat.le_of_not_lt (by simpa using h2);obtain⟨κ,IC,ZK⟩:=hc H s6 gU kvs (Zj.refl H) I6 rv rfl hk W_;refine aa (gv (IC (λSD s'=>SD=κ/\s'=s6) ⟨rfl,rfl⟩) (λSD s' z=>?_) λ_ _ z=>z.elim);obtain⟨rfl,rfl⟩:=z;have g:=W9.wp (lt:=Iy O key) (n:=gU.length) (R:=λq=>Pm gU.length q/\Nu key q gU.length) (cmp:=kas_ask X.prog X.w X.A.in1.in1 SD gU) (I:=λYD=>YD=s') (Q:=λq YD=>YD=s'/\Pm gU.length q/\Nu key q gU.length)
    (λi j C YD hi hj z hC=>by subst z;exact ZK i j C hi hj (hC _ rfl)) (λq YD z1 z2=>⟨z2,z1⟩) (Kg (key:=key) (by omega)) rfl
   refine aa (gv (kat_run (Q:=λst YD=>∃p:Array Nat,YD=s'/\Pm gU.length p/\Nu key p gU.length/\arrOf st=p.map (kas_item (gU.toArray.zip gU.toArray))/\failedOf st=aB) rfl W_ h64
    (λp st YD _ a1 a2 z=>⟨p,z.1,z.2.1,z.2.2,a1,a2⟩) g) (λr YD z=>?_) λ_ _ z=>z)
   obtain⟨⟨⟩,st⟩:=r;obtain⟨p,rfl,z1,z2,z3,z4⟩:=z
   try dsimp only
   rw[kat_snds rfl z3];refine aa (seqEpoch_at XY rfl ?_);refine aa (listUpdate_at XY rfl ?_ (gd _) (by rw[bx,aj,bf,z1.size,gz];omega));rw[z4];simp only[bne_self_eq_false,bq,if_false];exact ad ⟨_,rfl,ad ⟨_,rfl,fin p _ rfl (by rw[bx,aj,bf,z1.size];exact h64) z1 z2⟩⟩
end
section
open PySem.Calls
end
section
open PySem.Calls
end
noncomputable def t7(n:Nat)(g:FGs):FG:=⟨λd δ=>match d with
 | .lst xs=>if xs.length=n then g.run xs δ else aB
 |_=>aB,g.tch⟩
@[simp]theorem hX(n g xs δ):(t7 n g).run (.lst xs) δ=if xs.length=n then g.run xs δ else none:=rfl
section
open PySem.SetTable
noncomputable def Ho(m:Nat)(p:Probe):Probe:=
 if p.more > 0 then{p with j:=p.j+1,more:=p.more- 1}else
 {p with j:=(leap m p.i p.perturb).1,more:=runEnd m (leap m p.i p.perturb).1- (leap m p.i p.perturb).1,i:=(leap m p.i p.perturb).1,perturb:=(leap m p.i p.perturb).2}
theorem qW(t:ic)(p:Probe):t.advance p=Ho t.mask p:=rfl
def Wt(m:Nat):Nat->Probe->Probe
 |0,p=>p
 |n+1,p=>Wt m n (Ho m p)
theorem Q6(m):∀a b p,Wt m (a+b) p=Wt m b (Wt m a p)
 |0,b,p=>by rw[Nat.zero_add];rfl
 |a+1,b,p=>by rw[Nat.add_right_comm];exact Q6 m a b (Ho m p)
noncomputable def Rz(m i q:Nat):Probe:={j:=i,more:=runEnd m i- i,i:=i,perturb:=q,dummy:=aB}
theorem xO(m)(p:Probe):(Ho m p).dummy=p.dummy:=by unfold Ho;split<;> rfl
theorem Sz(m):∀n p,(Wt m n p).dummy=p.dummy
 |0,_=>rfl
 |n+1,p=>(Sz m n (Ho m p)).trans (xO m p)
theorem qV(m i):runEnd m i- i<=9:=by unfold runEnd;split<;> omega
theorem yG(h:i<=m):runEnd m i<=m:=by unfold runEnd;split<;> omega
theorem Ny(m i):i<=runEnd m i:=by unfold runEnd;split<;> omega
theorem Uy:∀{k:Nat},k<=runEnd m i- i->Wt m k (Rz m i q)={j:=i+k,more:=runEnd m i- i- k,i:=i,perturb:=q,dummy:=aB}
 |0,_=>rfl
 |k+1,h=>by rw[Q6 m k 1,Uy (by omega)];show Ho m _=_;unfold Ho;rw[f_ (by show runEnd m i- i- k > 0;omega)];rfl
theorem B4(m i q):Wt m (runEnd m i- i+1) (Rz m i q)=Rz m (leap m i q).1 (leap m i q).2:=by rw[Q6 m _ 1,Uy (bc _)];show Ho m _=_;unfold Ho;rw[fZ (by show¬runEnd m i- i- (runEnd m i- i) > 0;omega)];rfl
noncomputable def Uk(m:Nat):Nat->Nat×Nat->Nat×Nat
 |0,x=>x
 |n+1,x=>Uk m n (leap m x.1 x.2)
theorem Kl(m):∀a b x,Uk m (a+b) x=Uk m b (Uk m a x)
 |0,b,x=>by rw[Nat.zero_add];rfl
 |a+1,b,x=>by rw[Nat.add_right_comm];exact Kl m a b _
theorem S0:∀n x,x.1<=m->(Uk m n x).1<=m
 |0,_,h=>h
 |n+1,x,_=>S0 n _ (Nat.le_of_lt_succ (Nat.mod_lt (x.1*5+1+x.2 / 32) (Nat.succ_pos m)))
theorem Km(m):∀n x,(Uk m n x).2=x.2 / 32^n
 |0,x=>by simp[Uk]
 |n+1,x=>by show(Uk m n (leap m x.1 x.2)).2=_;rw[Km m n];show x.2 / 32 / 32^n=_;rw[Nat.div_div_eq_div_mul,Nat.pow_succ,Nat.mul_comm]
noncomputable def orb(m:Nat):Nat->Nat->Nat
 |0,_=>0
 |n+1,i=>(1<<<i)|||orb m n ((i*5+1) % (m+1))
theorem xN:∀n i j,(orb m n i).testBit j=aC->∃c,c<n/\(Uk m c (i,0)).1=j
 |0,i,j,h=>by simp[orb]at h
 |n+1,i,j,h=>by
  unfold orb at h;rw[Nat.testBit_or,Bool.or_eq_true]at h;rcases h with h|h
  .refine⟨0,by omega,?_⟩;rw[Nat.one_shiftLeft,Nat.testBit_two_pow]at h;show i=j;exact eC h
  .obtain⟨c,hc,e⟩:=xN n _ j h;refine⟨c+1,by omega,?_⟩;show(Uk m c (leap m i 0)).1=j;have:leap m i 0=((i*5+1) % (m+1),0):=by simp[leap]
   rw[this];exact e
def Msk(m:Nat):Prop:=m=7\/m=31\/m=127
theorem n4(h:Msk m):(cr (m+1)).all (λi=>orb m (m+1) i==2^(m+1)- 1)=aC:=by rcases h with rfl|rfl|rfl<;> decide+kernel
theorem zL(h:Msk m)(hi:i<=m)(hq:q<2^64)(hj:j<=m):∃c,c<m+15/\(Uk m c (i,q)).1=j:=by
 have GG:(Uk m 13 (i,q)).2=0:=by rw[Km];exact Nat.div_eq_of_lt (df hq (by decide))
 have hle:=S0 (m:=m) 13 (i,q) hi;generalize hx:Uk m 13 (i,q)=x at GG hle;obtain⟨a,b⟩:=x;simp only at GG hle;subst GG;have ho:=List.all_eq_true.mp (n4 h) a (cq.mpr (by omega));have ho:orb m (m+1) a=2^(m+1)- 1:=by simpa using ho
 obtain⟨c,hc,e⟩:=xN (m+1) a j (by rw[ho,Nat.testBit_two_pow_sub_one];simpa using by omega);exact⟨13+c,by omega,by rw[Kl,hx];exact e⟩
theorem yF(m):∀c i q,∃n,n<=10*c/\Wt m n (Rz m i q)=Rz m (Uk m c (i,q)).1 (Uk m c (i,q)).2
 |0,i,q=>⟨0,by omega,rfl⟩
 |c+1,i,q=>by obtain⟨n,hn,e⟩:=yF m c (leap m i q).1 (leap m i q).2;refine⟨runEnd m i- i+1+n,by have:=qV m i;omega,?_⟩;rw[Q6,B4,e];rfl
abbrev Jj(m:Nat)(h:Int):Probe:=Rz m (bits h % (m+1)) (bits h)
theorem hJ(t:ic)(h):t.probeStart h=Jj t.mask h:=rfl
theorem xy(h):bits h<2^64:=by unfold bits;have h1:=ij h (show(0:Int)<2^64 by decide);have h2:=Int.emod_nonneg h (show(2^64:Int)≠0 by decide);omega
theorem t5(hm:Msk m)(h)(hj:j<=m):∃n,n<10*turns m/\(Wt m n (Jj m h)).j=j:=by obtain⟨c,hc,e⟩:=zL (q:=bits h) hm (Nat.le_of_lt_succ (Nat.mod_lt (bits h) (Nat.succ_pos m))) (xy h) hj;obtain⟨n,hn,e2⟩:=yF m c (bits h % (m+1)) (bits h);exact⟨n,by unfold turns;omega,by rw[e2];exact e⟩
abbrev sq(m:Nat)(h:Int)(n:Nat):Nat:=(Wt m n (Jj m h)).j
theorem xw:∀n p,p.i<=m->p.j+p.more<=m->(Wt m n p).j<=m
 |0,p,_,h=>by show p.j<=m;omega
 |n+1,p,hi,h=>by
  refine xw n (Ho m p) ?_ ?_
  .unfold Ho;split
   .exact hi
   .exact Nat.le_of_lt_succ (Nat.mod_lt (p.i*5+1+p.perturb / 32) (Nat.succ_pos m))
  .unfold Ho;split
   .show p.j+1+(p.more- 1)<=m;omega
   .have hl:(leap m p.i p.perturb).1<=m:=Nat.le_of_lt_succ (Nat.mod_lt (p.i*5+1+p.perturb / 32) (Nat.succ_pos m));have:=yG hl;have:=Ny m (leap m p.i p.perturb).1;show(leap m p.i p.perturb).1+(runEnd m (leap m p.i p.perturb).1- (leap m p.i p.perturb).1)<=m;omega
theorem F_(m h n):sq m h n<=m:=by have h1:bits h % (m+1)<=m:=Nat.le_of_lt_succ (Nat.mod_lt _ (Nat.succ_pos m));refine xw n _ h1 ?_;have:=yG h1;have:=Ny m (bits h % (m+1));show bits h % (m+1)+(runEnd m (bits h % (m+1))- bits h % (m+1))<=m;omega
theorem Mn{t:ic}(hr:Ce t.place.toList)(h:t.place[i]? =aA j):t.slot j= .live i:=by
 have hi:i<t.place.size:=(g9.mp h).1;have a:At t.place j i:=by
  refine⟨by omega,λk y hk e=>B0 hr e h hk,λk y hk e=>?_⟩;rcases Nat.lt_or_eq_of_le hk with z|z
  .exact Nat.le_of_lt (B0 hr h e z)
  .subst z;rw[h]at e;cases e;exact bc _
 have e:=xV (Ef hr j) a;unfold SetTable.slot;dsimp only;rw[e,h,f_ (by simp)]
theorem Nz{t:ic}(h:t.slot j= .live i):t.place[i]? =aA j:=by
 unfold SetTable.slot at h;dsimp only at h;split at h
 .rename_i e;cases h;simpa using e
 .split at h<;> cases h
theorem xv{t:ic}(hr:Ce t.place.toList)(h:t.slot j= .empty):j∉t.place.toList:=λz=>by
 obtain⟨i,hi,e⟩:=fj z;have:t.place[i]? =aA j:=by rw[<-de,az];exact⟨hi,e⟩
 rw[Mn hr this]at h;cases h
theorem Eo{t:ic}(hd:t.dummies= #[])(j):t.slot j= .empty\/∃i,t.slot j= .live i:=by
 unfold SetTable.slot;dsimp only;split
 .exact .inr ⟨_,rfl⟩
 .rw[hd,xU];exact .inl (by simp)
theorem Ep{t:ic}(hd:t.dummies= #[])(h:j∉t.place.toList):t.slot j= .empty:=by
 rcases Eo hd j with z|⟨i,z⟩
 .exact z
 .have:=Nz z;rw[<-de]at this;exact eF (cf this) h
theorem xu(hd:t.dummies= #[])(f h):∀fuel p,p.dummy=aB->(∃n,n<fuel/\t.slot (Wt t.mask n p).j= .empty)->
  (∃n,n<fuel/\SetTable.probe.go t f h fuel p=aA (.empty (Wt t.mask n p).j aB)/\t.slot (Wt t.mask n p).j= .empty/\∀k,k<n->∃i,t.slot (Wt t.mask k p).j= .live i/\f i≠h)\/
  (∃n i,n<fuel/\SetTable.probe.go t f h fuel p=aA (.candidate (Wt t.mask n p).j i (Wt t.mask (n+1) p))/\t.slot (Wt t.mask n p).j= .live i/\f i=h/\∀k,k<n->∃i,t.slot (Wt t.mask k p).j= .live i/\f i≠h)
 |0,p,_,⟨n,hn,_⟩=>eF hn (f7 _)
 |fuel+1,p,hp,⟨n,hn,he⟩=>by
  unfold SetTable.probe.go;rcases Eo hd p.j with hs|⟨i,hs⟩
  .refine .inl ⟨0,by omega,?_,hs,λk hk=>eF hk (f7 _)⟩;rw[hs];show aA (Met.empty p.j p.dummy)=_;rw[hp];rfl
  .rw[hs];dsimp only;by_cases hf:f i=h
   .refine .inr ⟨0,i,by omega,?_,hs,hf,λk hk=>eF hk (f7 _)⟩;rw[f_ (by simpa using hf)];rfl
   .rw[fZ (by simpa using hf),qW];cases n with
    |zero=>have he:t.slot p.j= .empty:=he;rw[hs]at he;cases he
    |succ n=>
     have first:∀n,(∀k,k<n->∃i,t.slot (Wt t.mask k (Ho t.mask p)).j= .live i/\f i≠h)->∀k,k<n+1->∃i,t.slot (Wt t.mask k p).j= .live i/\f i≠h:=λn a k hk=>by
      cases k with
      |zero=>exact⟨i,hs,hf⟩
      |succ k=>exact a k (by omega)
     rcases xu hd f h fuel (Ho t.mask p) ((xO _ _).trans hp) ⟨n,by omega,he⟩with⟨n',h1,h2,h3,h4⟩|⟨n',i',h1,h2,h3,h4,h5⟩
     .exact .inl ⟨n'+1,by omega,h2,h3,first n' h4⟩
     .exact .inr ⟨n'+1,i',by omega,h2,h3,h4,first n' h5⟩
def Lk(m:Nat)(pl:List Nat)(h:Int)(j:Nat):Prop:=∃n,sq m h n=j/\∀k,k<n->sq m h k∈pl
theorem Lk.mono(hs:∀x∈pl,x∈ZV)(l:Lk m pl h j):Lk m ZV h j:=let⟨n,a,b⟩:=l;⟨n,a,λk hk=>hs _ (b k hk)⟩
structure Tb(t:ic)(hs:List Int):Prop where
 dum:t.dummies= #[]
 msk:Msk t.mask
 rise:Ce t.place.toList
 le:∀j∈t.place.toList,j<=t.mask
 len:t.place.toList.length=hs.length
 room:hs.length<=t.mask
 look:∀e∈hs.zip t.place.toList,Lk t.mask t.place.toList e.1 e.2
theorem Tb.fits(b:Tb t hs)(hn:n=hs.length):t.fits n=aC:=by
 have h1:=b.len;have h2:=b.room;have h3:t.place.size=hs.length:=by rw[<-h1,bf]
 unfold SetTable.fits SetTable.fill;rw[b.dum,h3,hn];simp;omega
theorem Tb.gave(b:Tb t hs):t.gaveWay=aD:=by unfold SetTable.gaveWay;rcases b.msk with e|e|e<;> rw[e]<;> rfl
theorem G7(h:Ce l):l.Nodup:=h.imp λz=>cm z
theorem xr{pl:List Nat}(nd:pl.Nodup)(hl:pl.length<=m):∃j,j<=m/\j∉pl:=by apply Classical.byContradiction;intro hn;have all:∀j,j<=m->j∈pl:=λj hj=>Classical.byContradiction λz=>hn ⟨j,hj,z⟩;have:(cr (m+1)).length<=pl.length:=dm List.nodup_range λj hj=>all j (by have:=cq.mp hj;omega);rw[List.length_range]at this;omega
theorem Tb.empty(b:Tb t hs)(h):∃n,n<10*turns t.mask/\t.slot (sq t.mask h n)= .empty:=by obtain⟨j,hj,hn⟩:=xr (G7 b.rise) (by rw[b.len];exact b.room);obtain⟨n,h1,h2⟩:=t5 b.msk h hj;exact⟨n,h1,by show t.slot (Wt t.mask n (Jj t.mask h)).j= .empty;rw[h2];exact Ep b.dum hn⟩
theorem Tb.fresh(f m l):Tb (SetTable.fresh f m l) []:=⟨rfl,.inl rfl,List.Pairwise.nil,(λ_ z=>nomatch z),rfl,gd _,(λ_ z=>nomatch z)⟩
theorem nL{α β:Type}(p){as:List α}{bs}(h:as.length=bs.length)(a)(b:β):(as.take p++a::as.drop p).zip (bs.take p++b::bs.drop p)=(as.zip bs).take p++(a,b)::(as.zip bs).drop p:=by rw[List.zip_append (by simp[h]),List.zip_cons_cons];simp only[List.zip_eq_zipWith,List.take_zipWith,List.drop_zipWith]
theorem Tb.put(b:Tb t hs)(h)(he:t.slot (sq t.mask h n)= .empty)(hb:∀k,k<n->t.slot (sq t.mask h k)≠.empty)(hr:hs.length+1<=t.mask):
  Tb (t.put (sq t.mask h n)).1 (hs.take (below t.place (sq t.mask h n))++h::hs.drop (below t.place (sq t.mask h n))):=by
 have hn:t.place[SetTable.below t.place (sq t.mask h n)]?≠aA (sq t.mask h n):=λz=>by rw[Mn b.rise z]at he;cases he
 have hni:=xv b.rise he;have HZ:∀k,k<n->sq t.mask h k∈t.place.toList:=λk hk=>Classical.byContradiction λz=>hb k hk (Ep b.dum z);have hjle:=F_ t.mask h n;have TR:Lk t.mask t.place.toList h (sq t.mask h n):=⟨n,rfl,HZ⟩
 generalize sq t.mask h n=j at*;have ZF:(t.put j).1.place.toList=t.place.toList.take (below t.place j)++j::t.place.toList.drop (below t.place j):=SetTable.toList_insertAt _ _ _;have hsub:∀x∈t.place.toList,x∈(t.put j).1.place.toList:=λx hx=>by
  rw[ZF];rw[<-List.take_append_drop (below t.place j) t.place.toList]at hx;rcases bz.mp hx with z|z
  .exact cg _ z
  .exact b7 _ (ah _ z)
 have hm:(t.put j).1.mask=t.mask:=rfl;refine⟨?_,by rw[hm];exact b.msk,ls b.rise hn,λx hx=>?_,?_,?_,λe M_=>?_⟩
 .show(if has t.dummies j then _ else t.dummies)= #[];rw[b.dum,xU];rfl
 .rw[hm];rw[ZF]at hx;rcases bz.mp hx with z|z
  .exact b.le x (List.mem_of_mem_take z)
  .rcases bj.mp z with z|z
   .rw[z];exact hjle
   .exact b.le x (List.mem_of_mem_drop z)
 .rw[ZF];have:=b.len;simp only[bg,List.length_take,aw,List.length_drop];omega
 .rw[hm];simp only[bg,List.length_take,aw,List.length_drop];omega
 .rw[ZF,nL _ b.len.symm]at M_;rw[hm];rcases bz.mp M_ with z|z
  .exact(b.look e (List.mem_of_mem_take z)).mono hsub
  .rcases bj.mp z with z|z
   .rw[z];exact TR.mono hsub
   .exact(b.look e (List.mem_of_mem_drop z)).mono hsub
theorem Tb.plainOff(b:Tb t hs):Tb {t with plain:=aD} hs:=⟨b.dum,b.msk,b.rise,b.le,b.len,b.room,b.look⟩
end
section
open PySem.SetTable
def Ow(owner:Array (Option Nat))(j:Nat):Prop:=(owner.getD j (aA 0)).isNone=aD
theorem Kn:∀fuel i q,(∃c,c<fuel/\¬Ow owner (Uk m c (i,q)).1)->
  ∃n,layClean.free m owner fuel i q=aA (Wt m n (Rz m i q)).j/\¬Ow owner (Wt m n (Rz m i q)).j/\∀k,k<n->Ow owner (Wt m k (Rz m i q)).j
 |0,i,q,⟨c,hc,_⟩=>eF hc (f7 _)
 |fuel+1,i,q,⟨c,hc,hn⟩=>by
  unfold layClean.free;cases hf:(cr (runEnd m i+1- i)).find? λk=>(owner.getD (i+k) (aA 0)).isNone with
  |some k=>
   have hk:=List.find?_range_eq_some.mp hf;have hr:=Ny m i;have hkl:k<=runEnd m i- i:=by have:=cq.mp hk.2.1;omega
   refine⟨k,?_,?_,λk' WY=>?_⟩
   .rw[Uy hkl]
   .rw[Uy hkl];intro z;unfold Ow at z;dsimp only at z;rw[hk.1]at z;cases z
   .rw[Uy (by omega)];have:=hk.2.2 k' WY;unfold Ow;dsimp only;simpa using this
  |none=>
   have hall:=List.find?_eq_none.mp hf;have hr:=Ny m i;have own:∀k,k<=runEnd m i- i->Ow owner (i+k):=λk hk=>by
    have:=hall k (cq.mpr (by omega));unfold Ow;cases z:(owner.getD (i+k) (aA 0)).isNone with
    |false=>rfl
    |true=>exact eF z this
   cases c with
   |zero=>exact eF (own 0 (gd _)) hn
   |succ c=>
    obtain⟨n,h1,h2,h3⟩:=Kn fuel (leap m i q).1 (leap m i q).2 ⟨c,by omega,hn⟩;refine⟨runEnd m i- i+1+n,?_,?_,λk hk=>?_⟩
    .rw[Q6,B4];exact h1
    .rw[Q6,B4];exact h2
    .by_cases hk2:k<=runEnd m i- i
     .rw[Uy hk2];exact own k hk2
     .have e:k=runEnd m i- i+1+(k- (runEnd m i- i+1)):=by omega
      rw[e,Q6,B4];exact h3 _ (by omega)
structure Ly(m:Nat)(hs:List Int)(owner:Array (Option Nat))(js:List Nat):Prop where
 size:owner.size=m+1
 len:js.length=hs.length
 nd:js.Nodup
 le:∀j∈js,j<=m
 own:∀j k,j<=m->(owner.getD j aB=aA k↔js[k]? =aA j)
 look:∀e∈hs.zip js,Lk m js e.1 e.2
theorem Ly.ow(l:Ly m hs owner js)(hj:j<=m):Ow owner j↔j∈js:=by
 have hs:j<owner.size:=by rw[l.size];omega
 have e1:owner.getD j (aA 0)=owner[j]:=by simp[Array.getD,hs]
 have e2:owner.getD j aB=owner[j]:=by simp[Array.getD,hs]
 unfold Ow;rw[e1];constructor
 .intro h;cases z:owner[j]with
  |none=>rw[z]at h;cases h
  |some k=>exact cf ((l.own j k hj).mp (by rw[e2];exact z))
 .intro h;obtain⟨k,hk,e⟩:=fj h;have:=(l.own j k hj).mpr (az.mpr ⟨hk,e⟩);rw[e2]at this;rw[this];rfl
theorem Ly.nil(m):Ly m [] (Array.replicate (m+1) aB) []:=by
 refine⟨by simp,rfl,c6,(λ_ z=>nomatch z),λj k hj=>?_,(λ_ z=>nomatch z)⟩;have:(Array.replicate (m+1) (aB:Option Nat)).getD j aB=aB:=by simp[Array.getD]
 rw[this];simp
theorem Ly.step(hm:Msk m)(l:Ly m hs owner js)(hl:hs.length<=m)(h):
  ∃j,layClean.free m owner (turns m) (bits h % (m+1)) (bits h)=aA j/\Ly m (hs++[h]) (owner.setIfInBounds j (aA hs.length)) (js++[j]):=by
 obtain⟨j0,CY,ve⟩:=xr l.nd (by rw[l.len];exact hl);obtain⟨c,hc,e⟩:=zL (q:=bits h) hm (Nat.le_of_lt_succ (Nat.mod_lt (bits h) (Nat.succ_pos m))) (xy h) CY;obtain⟨n,h1,h2,h3⟩:=Kn (m:=m) (owner:=owner) (turns m) (bits h % (m+1)) (bits h) ⟨c,hc,by rw[e,l.ow CY];exact ve⟩;have hle:=F_ m h n;have TR:Lk m js h (sq m h n):=⟨n,rfl,λk hk=>(l.ow (F_ m h k)).mp (h3 k hk)⟩
 have CJ:sq m h n∉js:=λz=>h2 ((l.ow hle).mpr z);refine⟨sq m h n,h1,?_⟩;generalize sq m h n=j at*;have hsz:j<owner.size:=by rw[l.size];omega
 refine⟨by simp[l.size],by simp[l.len],dh.mpr ⟨l.nd,by simp,λa ha b hb=>?_⟩,λx hx=>?_,λx k hx=>?_,λe he=>?_⟩
 .rw[ar.mp hb];exact λz=>CJ (z▸ha)
 .rcases bz.mp hx with z|z
  .exact l.le x z
  .rw[ar.mp z];exact hle
 .by_cases OH:x=j
  .subst OH;have:(owner.setIfInBounds x (aA hs.length)).getD x aB=aA hs.length:=by simp[Array.getD,hsz]
   rw[this];constructor
   .intro z;cases z;rw[<-l.len];simp
   .intro z;by_cases hk:k<js.length
    .rw[cw hk]at z;exact eF (cf z) CJ
    .have hk2:=(az.mp z).1;rw[bg,List.length_singleton]at hk2;rw[<-l.len,show k=js.length by omega]
  .have hxs:x<owner.size:=by rw[l.size];omega
   have:(owner.setIfInBounds j (aA hs.length)).getD x aB=owner.getD x aB:=by simp[Array.getD,hxs,Array.getElem_setIfInBounds,Ne.symm OH]
   rw[this,l.own x k hx];by_cases hk:k<js.length
   .rw[cw hk]
   .rw[d7 (by omega)];constructor
    .intro z;cases z
    .intro z;have hk2:=(az.mp z).1;rw[bg,List.length_singleton]at hk2;have:k=js.length:=by omega
     subst this;rw[fq (bc _)]at z;simp at z;exact eF z.symm OH
 .rw[List.zip_append l.len.symm]at he;rcases bz.mp he with z|z
  .exact(l.look e z).mono λx hx=>cg _ hx
  .simp at z;rw[z];exact TR.mono λx hx=>cg _ hx
theorem xq(hm:Msk m):∀rest hs owner js,Ly m hs owner js->hs.length+rest.length<=m+1->
  ∃YW J_,rest.foldl (λ acc h=>do
   let(owner,k)<-acc;let j<-layClean.free m owner (turns m) (bits h % (m+1)) (bits h)
   pure (owner.setIfInBounds j (aA k),k+1)) (aA (owner,hs.length))=aA (YW,(hs++rest).length)/\Ly m (hs++rest) YW J_
 | [],hs,owner,js,l,_=>⟨owner,js,by simp,by simpa using l⟩
 |h::rest,hs,owner,js,l,hl=>by
  obtain⟨j,e,l2⟩:=l.step hm (by simp only[aw]at hl;omega) h;obtain⟨YW,J_,e2,l3⟩:=xq hm rest (hs++[h]) _ _ l2 (by simp only[bg,aw,List.length_nil]at hl⊢;omega);refine⟨YW,J_,?_,by simpa using l3⟩;rw[List.foldl_cons];have z:(do
   let(owner,k)<-(aA (owner,hs.length):Option (Array (Option Nat)×Nat));let j<-layClean.free m owner (turns m) (bits h % (m+1)) (bits h)
   pure (owner.setIfInBounds j (aA k),k+1))=aA (owner.setIfInBounds j (aA hs.length),(hs++[h]).length):=by
   show(layClean.free m owner (turns m) (bits h % (m+1)) (bits h) >>=λj=>pure (owner.setIfInBounds j (aA hs.length),hs.length+1))=_;rw[e];simp
  rw[z,e2];simp
theorem jS{t:ic}{es:Array (Int×ag)}(hm:Msk (sizeAbove wanted- 1))(hl:es.size<=sizeAbove wanted- 1):
  ∃t' ZW,t.relaid (es.map λ e=>e.1) wanted=aA (t',ZW)/\t'.led=t.led/\(ZW.filterMap λi=>es[i]?).toList.Perm es.toList/\Tb t' ((ZW.filterMap λi=>es[i]?).toList.map λ e=>e.1):=by
 unfold SetTable.relaid SetTable.laid SetTable.layClean;generalize sizeAbove wanted- 1=m at*;have CC:(es.map (·.1)).toList.length=es.size:=by simp
 obtain⟨owner,js,e,l⟩:=xq hm (es.map λe=>e.1).toList [] _ [] (Ly.nil m) (by rw[CC];simp;omega);rw[<-Array.foldl_toList];have e:((es.map (·.1)).toList.foldl (λ(acc:Option (Array (Option Nat)×Nat)) h=>do
   let(owner,k)<-acc;let j<-layClean.free m owner (turns m) (bits h % (m+1)) (bits h)
   pure (owner.setIfInBounds j (aA k),k+1)) (aA (Array.replicate (m+1) aB,0)))=aA (owner,(([]:List Int)++(es.map λ(e:Int×ag)=>e.1).toList).length):=e
 rw[e];rw[gq]at l;have jl:js.length=es.size:=by rw[l.len,CC]
 generalize hlive:((cr (m+1)).filterMap λj=>(owner.getD j aB).map (j,·))=live;have mem:∀j k,(j,k)∈live↔j<=m/\js[k]? =aA j:=λj k=>by
  rw[<-hlive,List.mem_filterMap];constructor
  .rintro⟨j',RN,z⟩;obtain⟨k',z1,z2⟩:=cz.mp z;cases z2;have hj:j<=m:=by have:=cq.mp RN;omega
   exact⟨hj,(l.own j k hj).mp z1⟩
  .rintro⟨hj,z⟩;exact⟨j,cq.mpr (by omega),by rw[(l.own j k hj).mpr z];rfl⟩
 have rise:Ce (live.map (·.1)):=by rw[<-hlive];unfold Ce;rw[fu];refine List.Pairwise.filterMap _ (λa b YU c hc d hd=>?_) List.pairwise_lt_range;obtain⟨_,_,rfl⟩:=cz.mp hc;obtain⟨_,_,rfl⟩:=cz.mp hd;exact YU
 have SQ:∀x,x∈live.map (·.1)↔x∈js:=λx=>by
  rw[av];constructor
  .rintro⟨⟨j,k⟩,hp,rfl⟩;exact cf ((mem j k).mp hp).2
  .intro hx;obtain⟨k,hk,e⟩:=fj hx;exact⟨(x,k),(mem x k).mpr ⟨l.le x hx,az.mpr ⟨hk,e⟩⟩,rfl⟩
 have JL:live.length=es.size:=by have p:(live.map (·.1)).Perm js:=(List.perm_ext_iff_of_nodup (G7 rise) l.nd).mpr SQ;have:=p.length_eq;rw[aj]at this;omega
 have wx:(live.map (·.2)).Nodup:=by have Fp:live.Pairwise λa b=>a.1≠b.1:=fu.mp (G7 rise);refine fu.mpr (List.Pairwise.imp_of_mem (fun{a b} ha hb YU z=>?_) Fp);obtain⟨j1,k1⟩:=a;obtain⟨j2,k2⟩:=b;simp only at z YU;subst z;have z1:=((mem j1 k1).mp ha).2;have z2:=((mem j2 k1).mp hb).2;rw[z1]at z2;exact YU (dg.inj z2)
 have TF:(live.map (·.2)).Perm (cr es.size):=by
  refine(List.perm_ext_iff_of_nodup wx List.nodup_range).mpr λk=>?_;rw[av,cq];constructor
  .rintro⟨⟨j,k⟩,hp,rfl⟩;have:=(az.mp ((mem j k).mp hp).2).1;omega
  .intro hk;have WY:k<js.length:=by omega
   exact⟨(js[k],k),(mem _ _).mpr ⟨l.le _ (List.getElem_mem WY),au WY⟩,rfl⟩
 refine⟨{mask:=m,place:=(live.map (·.1)).toArray,dummies:= #[],finger:=t.finger,led:=t.led,moves:=t.movedTo m,plain:=t.plain},(live.map (·.2)).toArray,by rw[<-hlive];rfl,rfl,?_,?_⟩
 .rw[Array.toList_filterMap];exact(TF.filterMap _).trans (by rw[filterMap_getElem?_range])
 .have ge:∀p∈live,∃v,es[p.2]? =aA v:=λp hp=>by have:=cq.mp (TF.mem_iff.mp (av.mpr ⟨p,hp,rfl⟩));exact⟨es[p.2],by simp[this]⟩
  have fm:∀l:List (Nat×Nat),(∀p∈l,∃v,es[p.2]? =aA v)->(l.map (·.2)).filterMap (λi=>es[i]?)=l.map λp=>es.getD p.2 (0,c8):=by
   intro l;induction l with
   |nil=>intro _;rfl
   |cons p l ih=>intro h;obtain⟨v,hv⟩:=h p ac;have hv2:=g9.mp hv;rw[ax,List.filterMap_cons_some hv,ih λq hq=>h q (ah _ hq),ax];congr 1;simp only[Array.getD,hv2.1,↓reduceDIte];exact hv2.2.symm
  have el:(((live.map (·.2)).toArray.filterMap λi=>es[i]?).toList.map λ(e:Int×ag)=>e.1)=live.map λp=>(es.getD p.2 (0,c8)).1:=by rw[Array.toList_filterMap,List.toList_toArray,fm live ge,cp];rfl
  rw[el];refine⟨rfl,hm,by simpa using rise,λj hj=>?_,?_,?_,λe he=>?_⟩
  .exact l.le j ((SQ j).mp (by simpa using hj))
  .simp
  .rw[aj,JL];exact hl
  .have:e∈(live.map λp=>(es.getD p.2 (0,c8)).1).zip (live.map (·.1)):=by simpa using he
   rw[List.zip_map']at this;obtain⟨⟨j,k⟩,hp,rfl⟩:=av.mp this;obtain⟨hj,hk⟩:=(mem j k).mp hp;have hkl:=(az.mp hk).1;have HE:k<es.size:=by omega
   have hz:((es.getD k (0,c8)).1,j)∈(es.map (·.1)).toList.zip js:=by rw[List.mem_iff_getElem?];refine⟨k,?_⟩;rw[List.getElem?_zip_eq_some];refine⟨?_,hk⟩;simp[HE,Array.getD]
   have lk:=l.look _ hz;show Lk m _ _ _;refine lk.mono λx hx=>?_;have:=(SQ x).mpr hx;simpa using this
end
section
open PySem.SetTable
section
variable{prog:b8}{w:dq}
theorem xp(n)(h:carriedByValue v=aC):ofAClassStatement n v=pure aD:=by
 cases v with
 |ref a=>simp[carriedByValue]at h
 |_=>first|rfl| (unfold ofAClassStatement;rfl)
theorem S3(hk:IsTupleKey (Zu prog w) s.heap ks a)(h:Q aD s):bi (b9 prog w) A (ofAClassStatement (m+1) (.ref a)) Q E s:=by
 have hT:=hk.typeIs;obtain⟨o,gV,n,ho,_,hd,hi⟩:=hk;unfold ofAClassStatement;refine aa (wpAny_typeOf hT ?_);dsimp only;rw[f_ (by decide)];refine aa (ad ?_);simp only[gh,bq,if_false];refine aa (wpAny_seqItems ho hd ?_);dsimp only;refine aa ?_;rw[<-Array.forIn_toList];refine wpAny_forIn_list _ (λrest r s'=>r.1=aB/\s'=s/\∀v∈rest,carriedByValue v=aC) _ ?_ ?_ _ _ ⟨rfl,rfl,hi.byValue⟩
 .rintro v rest r s' ⟨hr,rfl,hall⟩;rw[xp _ (hall v ac)];refine aa (ad ?_);simp only[bq,if_false];exact ad ⟨rfl,rfl,λu OI=>hall u (ah _ OI)⟩
 .rintro⟨r1,r2⟩ s' ⟨hr,rfl,_⟩;simp only at hr;subst hr;exact ad h
theorem zJ(hk:Bc prog w s.heap k a)(h:Q aD s):bi (b9 prog w) A (ofAClassStatement 8 (.ref a)) Q E s:=by
 cases k with
 |inl l=>exact S3 hk h
 |inr p=>have hT:=hk.typeIs;obtain⟨n,l⟩:=p;refine Ca hk λo gV m t b ho _ hd hi hb=>?_;unfold ofAClassStatement;refine aa (wpAny_typeOf hT ?_);dsimp only;rw[f_ (by decide)];refine aa (ad ?_);simp only[gh,bq,if_false];refine aa (wpAny_seqItems ho hd ?_);dsimp only;refine aa ?_;rw[<-Array.forIn_toList,hi];simp only[List.forIn_cons,List.forIn_nil];rw[xp _ (v:=Value.int n t) rfl];refine aa (aa (ad ?_));simp only[bq,if_false];refine ad ?_;dsimp only;refine aa (aa (S3 hb ?_));simp only[bq,if_false];exact ad (ad (ad h))
theorem nK(n)(h:carriedByValue v=aC):∃b,hashByValue n v=pure b:=by
 cases v with
 |ref a=>simp[carriedByValue]at h
 |_=>unfold hashByValue;exact⟨_,rfl⟩
theorem S5(hk:IsTupleKey (Zu prog w) s.heap ks a)(h:∀b,Q b s):bi (b9 prog w) A (hashByValue (m+1) (.ref a)) Q E s:=by
 have hT:=hk.typeIs;obtain⟨o,gV,n,ho,_,hd,hi⟩:=hk;unfold hashByValue;refine aa (wpAny_specialOf hT F.slot_tuple_hash.lookup ?_);refine aa (wpAny_seqItems ho hd ?_);refine aa ?_;show bi _ _ (forIn gV _ _) _ _ s;rw[<-Array.forIn_toList];refine wpAny_forIn_list _ (λrest r s'=>r.1=aB/\s'=s/\∀v∈rest,carriedByValue v=aC) _ ?_ ?_ _ _ ⟨rfl,rfl,hi.byValue⟩
 .rintro v rest r s' ⟨hr,rfl,hall⟩;obtain⟨b,hb⟩:=nK m (hall v ac);rw[hb];refine aa (ad ?_);cases b with
  |true=>simp only[gh,bq,if_false];exact ad ⟨rfl,rfl,λu OI=>hall u (ah _ OI)⟩
  |false=>simp only[Bool.not_false,if_true];exact ad (ad (h _))
 .rintro⟨r1,r2⟩ s' ⟨hr,rfl,_⟩;simp only at hr;subst hr;exact ad (h _)
theorem t0(hk:Bc prog w s.heap k a)(h:∀b,Q b s):bi (b9 prog w) A (hashByValue 8 (.ref a)) Q E s:=by
 cases k with
 |inl l=>exact S5 hk h
 |inr p=>
  have hT:=hk.typeIs;obtain⟨n,l⟩:=p;refine Ca hk λo gV m t b ho _ hd hi hb=>?_;unfold hashByValue;refine aa (wpAny_specialOf hT F.slot_tuple_hash.lookup ?_);refine aa (wpAny_seqItems ho hd ?_);refine aa ?_;show bi _ _ (forIn gV _ _) _ _ s;rw[<-Array.forIn_toList,hi];simp only[List.forIn_cons,List.forIn_nil];have e:hashByValue 7 (Value.int n t)=pure aC:=by unfold hashByValue;rfl
  rw[e];refine aa (aa (ad ?_));simp only[gh,bq,if_false];refine ad ?_;dsimp only;refine aa (aa (S5 hb λbb=>?_));cases bb with
  |true=>simp only[gh,bq,if_false];exact ad (ad (ad (h _)))
  |false=>simp only[Bool.not_false,if_true];exact ad (ad (ad (h _)))
theorem qU(hk:Bc prog w s.heap k a)(hy:∀v∈ys,∃k' b,v= .ref b/\Bc prog w s.heap k' b)(h:Q aD s):bi (b9 prog w) A (searchCouldBeSeen (.ref a) ys) Q E s:=by
 unfold searchCouldBeSeen;refine aa ?_;refine wpAny_forIn_list _ (λrest r s'=>r.1=aB/\s'=s/\∀v∈rest,∃k' b,v= .ref b/\Bc prog w s.heap k' b) _ ?_ ?_ _ _ ⟨rfl,rfl,hy⟩
 .rintro v rest r s' ⟨hr,rfl,hall⟩;obtain⟨k',b,rfl,hb⟩:=hall v ac;have go:∀u∈rest,∃k' b,u= .ref b/\Bc prog w s'.heap k' b:=λu hu=>hall u (ah _ hu);dsimp only;by_cases YU:(a==b|| (carriedByValue (.ref a)&&carriedByValue (.ref b)))=aC
  .rw[f_ YU];exact ad ⟨rfl,rfl,go⟩
  .rw[fZ YU];refine aa (Lj hk ?_);simp only[gh,bq,if_false];refine aa (Lj hb ?_);simp only[gh,bq,if_false];refine aa (zJ hk ?_);simp only[bq,if_false];refine aa (zJ hb ?_);simp only[bq,if_false];exact ad ⟨rfl,rfl,go⟩
 .rintro⟨r1,r2⟩ s' ⟨hr,rfl,_⟩;simp only at hr;subst hr;exact ad h
theorem jR[Decidable c]{K:Sem α}(hm:∀Q',Q' aD s->bi (b9 prog w) A m Q' E s)(hK:bi (b9 prog w) A K Q E s):
  bi (b9 prog w) A (if c then m >>=λr=>if r=aC then X else K else K) Q E s:=by
 split
 .refine aa (hm _ ?_);simp only[bq,if_false];exact hK
 .exact hK
noncomputable abbrev Hq(prog:b8)(w:dq)(z:Zo×ao):Int×Value:=(Yl prog w z.1,ci z.2)
variable{es:Array (Int×ag)}{t:ic}{zs:List (Zo×ao)}{k:Zo}
theorem FZ(he:es.toList=zs.map (Hq prog w))(i:Nat):es[i]? =(zs[i]?).map (Hq prog w):=by rw[<-de,he,ay]
theorem qT(he:es.toList=zs.map (Hq prog w))(tb:Tb t (es.toList.map (·.1)))(hz:zs[i]? =aA z):∃n,t.slot (sq t.mask (Yl prog w z.1) n)= .live i/\∀k,k<n->t.slot (sq t.mask (Yl prog w z.1) k)≠.empty:=by
 have hl:zs.length=t.place.toList.length:=by rw[tb.len,he,aj,aj]
 have hi:i<zs.length:=(az.mp hz).1;have hp:t.place.toList[i]? =aA (t.place.toList[i]'(by omega)):=au _;have hh:(es.toList.map (·.1))[i]? =aA (Yl prog w z.1):=by rw[he,ay,ay,hz];rfl
 obtain⟨n,e1,e2⟩:=tb.look (Yl prog w z.1,t.place.toList[i]'(by omega)) (List.mem_iff_getElem?.mpr ⟨i,List.getElem?_zip_eq_some.mpr ⟨hh,hp⟩⟩);refine⟨n,?_,λk hk=>?_⟩
 .refine Mn tb.rise ?_;rw[<-de,hp];exact congrArg aA e1.symm
 .have:=e2 k hk;intro z;exact xv tb.rise z this
theorem xo(hu:A.units+1<ft)(hk:Bc prog w s.heap k b)(ho:s.heap.get? a=aA o)(hd:o.data= .set es ep t)(he:es.toList=zs.map (Hq prog w))(VO:∀z∈zs,Bc prog w s.heap z.1 z.2)(tb:Tb t (es.toList.map (·.1)))(hN:N<10*turns t.mask)(hE:t.slot (sq t.mask (Yl prog w k) N)= .empty)(VS:k∈zs.map (·.1)->∀r,Q (.there r) s)(XF:∀n,k∉zs.map (·.1)->t.slot (sq t.mask (Yl prog w k) n)= .empty->(∀j,j<n->t.slot (sq t.mask (Yl prog w k) j)≠.empty)->Q (.free (sq t.mask (Yl prog w k) n) aD) s):
  ∀fuel n st,st.getD (t.probeStart (Yl prog w k))=Wt t.mask n (Jj t.mask (Yl prog w k))->n<=N->N<n+fuel->(∀j,j<n->∃i z,t.slot (sq t.mask (Yl prog w k) j)= .live i/\zs[i]? =aA z/\z.1≠k)->
   bi (b9 prog w) A (setSearchFrom a (.ref b) (Yl prog w k) aC fuel st) Q E s
 |0,n,st,_,h1,h2,_=>by omega
 |fuel+1,n,st,OJ,h1,h2,hb=>by
  have VU:t.fits es.size=aC:=tb.fits (by simp);unfold setSearchFrom;refine aa (wpAny_setState_of ho hd VU ?_);dsimp only;rw[tb.gave];simp only[bq,if_false];rw[OJ];have hj:∀j,(Wt t.mask j (Wt t.mask n (Jj t.mask (Yl prog w k)))).j=sq t.mask (Yl prog w k) (n+j):=λj=>by rw[<-Q6]
  unfold SetTable.probe;rcases xu tb.dum (λi=>(es[i]?.map (·.1)).getD 0) (Yl prog w k) (10*turns t.mask) (Wt t.mask n (Jj t.mask (Yl prog w k))) ((Sz _ _ _).trans rfl) ⟨N- n,by omega,by rw[hj,show n+(N- n)=N by omega];exact hE⟩with⟨m,g1,g2,g3,g4⟩|⟨m,i,g1,g2,g3,g4,g5⟩
  .have key:∀f:Nat->Int,f=(λi=>(es[i]?.map (·.1)).getD 0)->SetTable.probe.go t f (Yl prog w k) (10*turns t.mask) (Wt t.mask n (Jj t.mask (Yl prog w k)))=aA (.empty (Wt t.mask m (Wt t.mask n (Jj t.mask (Yl prog w k)))).j aB):=λf hf=>by rw[hf];exact g2
   rw[key]
   case a=>rfl
   dsimp only;rw[hj]at g3⊢;refine ad (XF (n+m) ?_ g3 λj OR=>?_)
   .intro HL;obtain⟨z,hz,ez⟩:=av.mp HL;obtain⟨i0,OY,e0⟩:=fj hz;have TJ:zs[i0]? =aA z:=az.mpr ⟨OY,e0⟩;obtain⟨n0,q1,q2⟩:=qT he tb TJ;rw[ez]at q1 q2;rcases Nat.lt_trichotomy n0 (n+m)with c|c|c
    .rcases du n0 n with c'|c'
     .refine Ya (hb n0 c') λi z' w1 w2 w3=>?_;rw[q1]at w1;cases w1;rw[TJ]at w2;cases w2;exact w3 ez
     .obtain⟨i,w1,w2⟩:=g4 (n0- n) (by omega);rw[hj,show n+(n0- n)=n0 by omega,q1]at w1;cases w1;apply w2;show(es[i0]?.map (·.1)).getD 0=_;rw[FZ he,TJ,<-ez];rfl
    .rw[<-c,q1]at g3;cases g3
    .exact q2 _ c g3
   .rcases du j n with c|c
    .refine Wq (hb j c) λi z' w1 _=>?_;rw[w1];exact λz=>nomatch z
    .obtain⟨i,w1,_⟩:=g4 (j- n) (by omega);rw[hj,show n+(j- n)=j by omega]at w1;rw[w1];exact λz=>nomatch z
  .have key:∀f:Nat->Int,f=(λi=>(es[i]?.map (·.1)).getD 0)->SetTable.probe.go t f (Yl prog w k) (10*turns t.mask) (Wt t.mask n (Jj t.mask (Yl prog w k)))=aA (.candidate (Wt t.mask m (Wt t.mask n (Jj t.mask (Yl prog w k)))).j i (Wt t.mask (m+1) (Wt t.mask n (Jj t.mask (Yl prog w k))))):=λf hf=>by rw[hf];exact g2
   rw[key]
   case a=>rfl
   dsimp only;have hp:=Nz g3;have XM:i<zs.length:=by have:=(g9.mp hp).1;have l:=tb.len;rw[he,aj,aj,bf]at l;omega
   have TJ:zs[i]? =aA zs[i]:=au XM;have hzi:=VO zs[i] (List.getElem_mem XM);generalize zs[i]=z at TJ hzi;have BA:es[i]? =aA (Yl prog w z.1,ci z.2):=by rw[FZ he,TJ];rfl
   refine jR (λQ' q=>qU hk (λv hv=>?_) q) ?_
   .obtain⟨e,v6,rfl⟩:=av.mp hv;have:e∈es.toList:=by have:=Array.mem_toList_iff.mp v6;exact Array.mem_toList_iff.mpr (Array.mem_filter.mp this).1
    rw[he]at this;obtain⟨z',UN,rfl⟩:=av.mp this;exact⟨z'.1,z'.2,rfl,VO z' UN⟩
   rw[BA];dsimp only;refine aa (f9 (AV hu hzi hk ?_));refine aa (wpAny_setState_of ho hd VU ?_);dsimp only;by_cases hzk:z.1=k
   .rw[eB hzk];simp only[Bool.and_self,if_true];exact ad (VS (av.mpr ⟨z,cf TJ,hzk⟩) _)
   .rw[eA hzk];simp only[Bool.and_false,bq,if_false];have vR:t.sameMemory t.moves t.mask=aA aC:=by unfold SetTable.sameMemory;simp
    rw[vR];simp only[if_true];rw[g3];dsimp only;rw[BA];dsimp only;refine aa (wpAny_isSame_ref_self ?_);simp only[if_true];refine aa (ad ?_);dsimp only;have GC:n+m+1<=N:=by
     have:¬N<=n+m:=λc=>by
      rcases Nat.lt_or_eq_of_le c with c|c
      .rcases du N n with c'|c'
       .omega
       .obtain⟨i',w1,_⟩:=g5 (N- n) (by omega);rw[hj,show n+(N- n)=N by omega,hE]at w1;cases w1
      .rw[hj,<-c,hE]at g3;cases g3
     omega
    refine xo hu hk ho hd he VO tb hN hE VS XF fuel (n+m+1) _ ?_ GC (by omega) λj OR=>?_
    .show Wt t.mask (m+1) (Wt t.mask n (Jj t.mask (Yl prog w k)))=_;rw[<-Q6,<-Nat.add_assoc]
    .rcases du j n with c|c
     .exact hb j c
     .rcases du j (n+m)with c'|c'
      .obtain⟨i',w1,w2⟩:=g5 (j- n) (by omega);rw[hj,show n+(j- n)=j by omega]at w1;have hp':=Nz w1;have OX:i'<zs.length:=by have:=(g9.mp hp').1;have l:=tb.len;rw[he,aj,aj,bf]at l;omega
       refine⟨i',zs[i'],w1,au OX,λzz=>w2 ?_⟩;show(es[i']?.map (·.1)).getD 0=_;rw[FZ he,au OX,<-zz];rfl
      .have:j=n+m:=by omega
       subst this;rw[hj]at g3;exact⟨i,z,g3,TJ,hzk⟩
end
end
section
open PySem.SetTable
def Iz(prog:b8)(w:dq)(B:Bool)(h:f8)(o:Obj)(xs:List (Zo×ao)):Prop:=
 ∃(es:Array (Int×ag)) (ep:Nat) (t:ic) (zs:List (Zo×ao)),o.ExactSet/\o.data= .set es ep t/\es.toList=zs.map (Hq prog w)/\zs.Perm xs/\(xs.map (·.1)).Nodup/\(∀z∈xs,Bc prog w h z.1 z.2)/\Tb t (es.toList.map (·.1))/\t.led= !B/\es.size*5<t.mask*3
noncomputable def G8(xs:List (Zo×ao))(k:Zo)(b:ao):List (Zo×ao):=if(xs.any λz=>decide (z.1=k))=aC then xs else xs++[(k,b)]
theorem S6{xs:List (Zo×ao)}:(xs.any λz=>decide (z.1=k))=aC↔k∈xs.map (·.1):=by
 rw[List.any_eq_true,av];constructor
 .rintro⟨z,hz,e⟩;exact⟨z,hz,eC e⟩
 .rintro⟨z,hz,e⟩;exact⟨z,hz,eB e⟩
theorem Bc.but(x:Bc prog w h k a)(ho:h.get? d=aA o)(hd:o.data= .set es ep t)(hs:∀b u,b≠d->h.get? b=aA u->h'.get? b=aA u):Bc prog w h' k a:=by
 have ne:∀{c:ao} {u:Obj} {gU n},h.get? c=aA u->u.data= .seq gU n->c≠d:=fun{c u gU n} e1 e2 z=>by subst z;rw[ho]at e1;cases e1;rw[hd]at e2;cases e2
 cases k with
 |inl l=>obtain⟨u,gU,n,e,c,d',r⟩:=x;exact⟨u,gU,n,hs _ _ (ne e d') e,c,d',r⟩
 |inr p=>obtain⟨u,gU,n,tt,b,e,c,d',ei,⟨u2,i2,n2,e2,c2,d2,r2⟩⟩:=x;exact⟨u,gU,n,tt,b,hs _ _ (ne e d') e,c,d',ei,u2,i2,n2,hs _ _ (ne e2 d2) e2,c2,d2,r2⟩
theorem R0{α β:Type}{f}{l}{m:List β}(p:l.Perm m):∀zs,m=zs.map f->∃l':List α,l'.Perm zs/\l=l'.map f:=by
 induction p with
 |nil=>intro zs e;cases zs with
  |nil=>exact⟨[],List.Perm.nil,rfl⟩
  |cons z zs=>cases e
 | @cons x l1 l2 _ ih=>intro zs e;cases zs with
  |nil=>cases e
  |cons z zs=>injection e with e1 e2;obtain⟨l',p',e'⟩:=ih zs e2;exact⟨z::l',p'.cons z,by rw[ax,e1,e']⟩
 |swap x y l=>intro zs e;cases zs with
  |nil=>cases e
  |cons z zs=>cases zs with
   |nil=>cases e
   |cons z2 zs=>injection e with e1 e2;injection e2 with e2 e3;exact⟨z2::z::zs,List.Perm.swap z z2 zs,by rw[ax,ax,e1,e2,e3]⟩
 |trans _ _ ih1 ih2=>intro zs e;obtain⟨l2,p2,e2⟩:=ih2 zs e;obtain⟨l3,p3,e3⟩:=ih1 l2 e2;exact⟨l3,p3.trans p2,e3⟩
theorem uq(hu:A.units+1<ft)(ho:s.heap.get? a=aA o)(hO:Iz prog w B s.heap o xs)(hk:Bc prog w s.heap k b)(hr:xs.length+1<=76)(h:∀h' o' r,g6 a s.heap h'->h'.get? a=aA o'->Iz prog w B h' o' (G8 xs k b)->Q r {s with heap:=h'}):
  bi (b9 prog w) A (setAddHashed a (.ref b) (Yl prog w k)) Q E s:=by
 obtain⟨es,ep,t,zs,hx,hd,he,pm,nd,VO,tb,YY,TM⟩:=hO;have HJ:∀z∈zs,Bc prog w s.heap z.1 z.2:=λz hz=>VO z (pm.mem_iff.mp hz);have VU:t.fits es.size=aC:=tb.fits (by simp);have zl:zs.length=es.size:=by rw[<-bf,he,aj]
 have xl:xs.length=es.size:=by rw[<-pm.length_eq,zl]
 have kz:k∈zs.map (·.1)↔k∈xs.map (·.1):=(pm.map _).mem_iff;unfold setAddHashed;refine f9 ?_;unfold setAddHashedIn;refine aa (wpAny_setState_of ho hd VU ?_);dsimp only;rw[show byScan (ci b) es=aD from rfl];simp only[bq,if_false];obtain⟨N,hN,hE⟩:=tb.empty (Yl prog w k);unfold setSearch;have CM:t.mask<=127:=by rcases tb.msk with e|e|e<;> omega
 refine aa (xo hu hk ho hd he HJ tb hN hE (λHL r=>?_) (λn hni uK v_=>?_) 100000 0 aB rfl (gd _) (by unfold turns at hN;omega) (λj hj=>eF hj (f7 _)))
 .dsimp only;refine ad ?_;refine h s.heap o aD (Heap.SameBut.refl a s.heap) ho ?_;unfold G8;rw[f_ (S6.mpr (kz.mp HL))];exact⟨es,ep,t,zs,hx,hd,he,pm,nd,VO,tb,YY,TM⟩
 .dsimp only;have OO:k∉xs.map (·.1):=λz=>hni (kz.mpr z);refine aa (wpAny_setState_of ho hd VU ?_);dsimp only;have NB:es.size+1<=t.mask:=by rcases tb.msk with e|e|e<;> omega
  have tb1:=tb.put (Yl prog w k) uK v_ (by rw[aj,bf];exact NB);have IP:(t.put (sq t.mask (Yl prog w k) n)).2=below t.place (sq t.mask (Yl prog w k) n):=rfl;have MU:(t.put (sq t.mask (Yl prog w k) n)).1.mask=t.mask:=rfl;have MV:(t.put (sq t.mask (Yl prog w k) n)).1.led=t.led:=rfl;rw[IP];generalize below t.place (sq t.mask (Yl prog w k) n)=p at tb1⊢;generalize (t.put (sq t.mask (Yl prog w k) n)).1=t1 at tb1 MU MV⊢;have WR:(insertAt es p (Yl prog w k,ci b)).toList=(zs.take p++(k,b)::zs.drop p).map (Hq prog w):=by rw[SetTable.toList_insertAt,he,cu,ax,List.map_take,List.map_drop]
  have HN:(insertAt es p (Yl prog w k,ci b)).toList.map (·.1)=(es.toList.map (·.1)).take p++Yl prog w k::(es.toList.map (·.1)).drop p:=by rw[SetTable.toList_insertAt,cu,ax,List.map_take,List.map_drop]
  have RY:(insertAt es p (Yl prog w k,ci b)).size=es.size+1:=by rw[<-bf,SetTable.toList_insertAt,bg,aw,List.length_take,List.length_drop,bf];omega
  rw[<-HN]at tb1;have JK:(zs.take p++(k,b)::zs.drop p).Perm (xs++[(k,b)]):=by refine List.perm_middle.trans ?_;rw[List.take_append_drop];exact(pm.cons _).trans (List.perm_append_singleton _ _).symm
  have Fp:((xs++[(k,b)]).map (·.1)).Nodup:=by rw[cu,dh];refine⟨nd,by simp,λx hx y hy=>?_⟩;simp only[ax,List.map_nil,ar]at hy;subst hy;exact λz=>OO (z▸hx)
  generalize insertAt es p (Yl prog w k,ci b)=es1 at WR tb1 RY⊢;generalize zs.take p++(k,b)::zs.drop p=zs1 at WR JK;have UO:∀h' o' r,g6 a s.heap h'->h'.get? a=aA o'->Iz prog w B h' o' (xs++[(k,b)])->Q r {s with heap:=h'}:=λh' o' r x y z=>h h' o' r x y (by unfold G8;rw[fZ λy=>OO (S6.mp y)];exact z);have OW:∀h',g6 a s.heap h'->∀z∈xs++[(k,b)],Bc prog w h' z.1 z.2:=λh' sb z hz=>by
   have RE:Bc prog w s.heap z.1 z.2:=by
    rcases bz.mp hz with q|q
    .exact VO z q
    .rw[ar.mp q];exact hk
   exact Bc.but RE ho hd λc u hc e=>(sb.2 c hc).trans e
  have SK:∀(t2:ic),Tb t2 (es1.toList.map (·.1))->t2.mask=t.mask->t2.led=t.led->bi (b9 prog w) A (do
    storeSet a es1 t2
    if(!aD&&t2.tooFull)=aC then do
     setRelay a (grown (es.size+1))
     pure aC
    else pure aC) Q E s:=λt2 SJ m2 l2=>by
   refine aa (wpAny_storeSet_of ho hd ?_ (by rw[RY,gz];omega));have o1:(s.heap.update a (Obj.putSet es1 t2)).get? a=aA {o with data:=.set es1 (ep+1) t2}:=by have z:=Heap.get?_update_self (Obj.putSet es1 t2) ho (by rw[putSet_of es1 t2 hd];rfl);rw[putSet_of es1 t2 hd]at z;exact z
   have b1:=Heap.SameBut.update s.heap a (Obj.putSet es1 t2);have fl:t2.fill=es.size+1:=by unfold SetTable.fill;have:=SJ.len;rw[aj,bf,bf]at this;rw[SJ.dum,this,RY];rfl
   by_cases hf:t2.tooFull=aC
   .rw[f_ (by rw[hf];rfl)];have UC:(es.size+1)*5>=t.mask*3:=by unfold SetTable.tooFull at hf;rw[fl,m2]at hf;exact eC hf
    have hS:Msk (sizeAbove (grown (es.size+1))- 1)/\es1.size<=sizeAbove (grown (es.size+1))- 1/\es1.size*5<(sizeAbove (grown (es.size+1))- 1)*3/\sizeAbove (grown (es.size+1))<=128:=by
     rw[RY];rcases tb.msk with e|e|e
     .have:es.size=4:=by omega
      rw[this];exact⟨.inr (.inl (by decide)),by decide,by decide,by decide⟩
     .have:es.size=18:=by omega
      rw[this];exact⟨.inr (.inr (by decide)),by decide,by decide,by decide⟩
     .omega
    refine aa ?_;unfold setRelay;refine aa (wpAny_setState_of (s:={s with heap:=s.heap.update a (Obj.putSet es1 t2)}) o1 rfl (SJ.fits (by simp)) ?_);dsimp only;rw[fZ (by rw[gz];have:=hS.2.2.2;omega)];refine Ol (jS (t:=t2) (es:=es1) hS.1 hS.2.1) λt3 ZW q1 q2 q3 q4=>?_;have wn:t2.relaid (es1.map (·.1)) (grown (es.size+1))=aA (t3,ZW):=q1;rw[wn];have IV:t3.mask=sizeAbove (grown (es.size+1))- 1:=by unfold SetTable.relaid SetTable.laid at q1;refine gZ q1 λow _ z=>?_;cases z;rfl
    have ME:(ZW.filterMap λi=>es1[i]?).size=es1.size:=by rw[<-bf,q3.length_eq,bf]
    refine aa ?_;show bi _ _ (if((ZW.filterMap λi=>es1[i]?).size !=es1.size)=aC then _ else _) _ _ _;rw[fZ (by rw[ME];simp)];refine ad ?_;dsimp only;refine wpAny_storeSet_of (s:={s with heap:=s.heap.update a (Obj.putSet es1 t2)}) o1 rfl ?_ (by rw[ME,RY,gz];omega);have o2:=Heap.get?_update_self (Obj.putSet (ZW.filterMap λi=>es1[i]?) t3) o1 (by rw[putSet_of _ t3 rfl];rfl);rw[putSet_of _ t3 rfl]at o2;have b2:=b1.trans (Heap.SameBut.update _ a (Obj.putSet (ZW.filterMap λi=>es1[i]?) t3));generalize (ZW.filterMap λi=>es1[i]?)=es3 at q3 q4 ME o2 b2⊢;have v7:∃MC:List (Zo×ao),es3.toList=MC.map (Hq prog w)/\MC.Perm zs1:=by rw[WR]at q3;obtain⟨l3,r1,r2⟩:=R0 q3 zs1 rfl;exact⟨l3,r2,r1⟩
    obtain⟨MC,r1,r2⟩:=v7;refine ad (UO _ _ aC b2 o2 ⟨es3,_,t3,MC,hx,rfl,r1,r2.trans JK,Fp,OW _ b2,q4,by rw[q2,l2];exact YY,?_⟩);rw[ME,IV];exact hS.2.2.1
   .rw[fZ (by simpa using hf)];refine ad (UO _ _ aC b1 o1 ⟨es1,_,t2,zs1,hx,rfl,WR,JK,Fp,OW _ b1,SJ,by rw[l2];exact YY,?_⟩);unfold SetTable.tooFull at hf;rw[fl,m2]at hf;rw[RY,m2];have:¬(es.size+1)*5>=t.mask*3:=λz=>hf (eB z);omega
  by_cases ZF:t1.plain=aC
  .rw[f_ ZF];refine aa (t0 hk λbb=>?_);cases bb with
   |true=>exact SK t1 tb1 MU MV
   |false=>exact SK {t1 with plain:=aD} tb1.plainOff MU MV
  .rw[fZ ZF];refine aa (ad ?_);exact SK t1 tb1 MU MV
end
section
open PySem.SetTable
noncomputable def Pd(ys:List (Zo×ao)):List (Zo×ao):=ys.foldl (λacc y=>G8 acc y.1 y.2) []
theorem lX(xs k b):(G8 xs k b).length<=xs.length+1:=by
 unfold G8;split
 .omega
 .simp
theorem lW(h:z∈G8 xs k b):z∈xs\/z=(k,b):=by
 unfold G8 at h;split at h
 .exact .inl h
 .rcases bz.mp h with q|q
  .exact .inl q
  .exact .inr (ar.mp q)
theorem lV{ys:List (Zo×ao)}(h:ys[i]? =aA y):Pd (ys.take (i+1))=G8 (Pd (ys.take i)) y.1 y.2:=by unfold Pd;rw[List.take_add_one,h];simp
theorem Tc:∀(ys acc:List (Zo×ao)),(ys.foldl (λacc y=>G8 acc y.1 y.2) acc).length<=acc.length+ys.length
 | [],acc=>by simp
 |y::ys,acc=>by rw[List.foldl_cons];have h1:=Tc ys (G8 acc y.1 y.2);have h2:=lX acc y.1 y.2;rw[aw];omega
theorem nJ(ys):(Pd ys).length<=ys.length:=by have:=Tc ys [];simpa[Pd]using this
theorem Td:∀(ys acc:List (Zo×ao)) z,z∈ys.foldl (λacc y=>G8 acc y.1 y.2) acc->z∈acc\/z∈ys
 | [],acc,z,h=>.inl h
 |y::ys,acc,z,h=>by
  rw[List.foldl_cons]at h;rcases Td ys _ z h with q|q
  .rcases lW q with r|r
   .exact .inl r
   .exact .inr (by rw[r];exact ac)
  .exact .inr (ah _ q)
theorem N0(h:z∈Pd ys):z∈ys:=by
 rcases Td ys [] z h with q|q
 .exact nomatch q
 .exact q
theorem Iz.re(x:Iz prog w B h o xs)(hk:∀z∈xs,Bc prog w h' z.1 z.2):Iz prog w B h' o xs:=by obtain⟨es,ep,t,zs,a,b,c,d,e,_,f⟩:=x;exact⟨es,ep,t,zs,a,b,c,d,e,hk,f⟩
theorem tz:Iz prog w (By w) h (Rv w) []:=⟨#[],0,_,[],⟨rfl,rfl,rfl⟩,rfl,rfl,List.Perm.nil,c6,(λz hz=>nomatch hz),Tb.fresh _ _ _,rfl,by show 0*5<7*3;decide⟩
theorem lU{s:am}(hh:A.handled=aB)(hu:A.units+5<ft)(hl:s.heap.IsList l gU)(hi:gU.toList=ys.map λy=>ci y.2)(MQ:∀y∈ys,Bc prog w s.heap y.1 y.2)(hb:ys.length<=75)(h:∀h' tk o,h'.get? s.heap.objs.size=aA o->Iz prog w (By w) h' o (Pd ys)->(∀b x,b<s.heap.objs.size->s.heap.get? b=aA x->h'.get? b=aA x)->Q (.ref s.heap.objs.size) {s with heap:=h',toks:=tk}):
  bi (b9 prog w) A (call (.type "set") [.ref l]) Q E s:=by
 have hsz:gU.size=ys.length:=by rw[<-bf,hi,aj]
 have kz:∀{i:Nat} {h:f8},Kpt s.heap h->∀z∈Pd (ys.take i),Bc prog w h z.1 z.2:=λkp z hz=>(MQ z (List.mem_of_mem_take (N0 hz))).mono kp;refine s_ hh hl (λh o i=>Iz prog w (By w) h o (Pd (ys.take i))) (λkp hO=>hO.re (kz kp)) (λ_=>tz) (λA' i v s1 o Q E hA hv kp ho hO k=>?_) λh' tk o g O m=>h h' tk o g (by rw[hsz,List.take_length]at O;exact O) m;rw[<-de,hi,ay]at hv;obtain⟨y,hy,rfl⟩:=cz.mp hv;have CI:Bc prog w s1.heap y.1 y.2:=(MQ y (cf hy)).mono kp;unfold setAdd;refine f9 (aa (yk (by omega) CI ?_));refine uq (s:={s1 with toks:=s1.toks+T6 y.1}) (B:=By w) (xs:=Pd (ys.take i)) (by omega) ho hO CI (by have:=nJ (ys.take i);rw[List.length_take]at this;omega) λh2 o2 b sb g2 O2=>k h2 o2 _ b sb g2 ?_;rw[lV hy];exact O2
theorem lT(hh:A.handled=aB)(ho:s.heap.get? r=aA o)(hO:Iz prog w (By w) s.heap o xs)(hr:xs.length<=1000)(h:∀(zs:List (Zo×ao)) h' d,zs.Perm xs->(∀b x,s.heap.get? b=aA x->h'.get? b=aA x)->s.heap.objs.size<=h'.objs.size->Q (zs.map λz=>ci z.2) {s with heap:=h',drawn:=d}):bi (b9 prog w) A (collect (.ref r)) Q E s:=by
 obtain⟨es,ep,t,zs,hx,hd,he,pm,nd,VO,tb,YY,TM⟩:=hO;have zl:zs.length=es.size:=by rw[<-bf,he,aj]
 have xl:xs.length=es.size:=by rw[<-pm.length_eq,zl]
 refine lm hh ho hx hd (tb.fits (by simp)) YY (λ_=>tb.rise) (by omega) λord h' d hp hk hs=>?_;rw[he,cp]at hp;obtain⟨wD,p',e'⟩:=R0 hp zs rfl;rw[e'];exact h wD h' d (p'.trans pm) hk hs
end
noncomputable def Zw:Zo->D
 | .inl l=>.tup (l.map D.str)
 | .inr (n,l)=>.tup [.int n,.tup (l.map D.str)]
noncomputable def Tl(ks:List Zo)(k:Zo):List Zo:=if(ks.any λz=>decide (z=k))=aC then ks else ks++[k]
noncomputable def Ko(ks:List Zo):List Zo:=ks.foldl Tl []
theorem lS(xs k b):(G8 xs k b).map (·.1)=Tl (xs.map (·.1)) k:=by
 unfold G8 Tl;have e:((xs.map (·.1)).any λz=>decide (z=k))=xs.any λz=>decide (z.1=k):=by rw[List.any_map];rfl
 rw[e];split
 .rfl
 .rw[cu];rfl
theorem xn(ys):(Pd ys).map (·.1)=Ko (ys.map (·.1)):=by
 have go:∀(ys acc:List (Zo×ao)),(ys.foldl (λacc y=>G8 acc y.1 y.2) acc).map (·.1)=(ys.map (·.1)).foldl Tl (acc.map (·.1)):=by
  intro ys;induction ys with
  |nil=>intro acc;rfl
  |cons y ys ih=>intro acc;rw[List.foldl_cons,ih,ax,List.foldl_cons,lS]
 exact go ys []
def R1(ds out:List D):Prop:=out.Perm ds/\out.Pairwise λa b=>Q5 16 b a=aA aD
theorem jQ{ks:List D}{fK:D->List Nat}(hd:∀i j,i<ks.length->j<ks.length->fK (ks.getD i .non)=fK (ks.getD j .non)->i=j)(ha:a∈ks)(hb:b∈ks)(e:fK a=fK b):a=b:=by
 obtain⟨i,hi,rfl⟩:=fj ha;obtain⟨j,hj,rfl⟩:=fj hb;have gi:ks.getD i .non=ks[i]:=by rw[bh,au hi];rfl
 have gj:ks.getD j .non=ks[j]:=by rw[bh,au hj];rfl
 have:=hd i j hi hj (by rw[gi,gj];exact e);subst this;rfl
theorem G9(h:fH ds)(ha:R1 ds a)(hb:R1 ds b):a=b:=by
 obtain⟨fK,he,hd⟩:=h.ord;refine List.Perm.eq_of_pairwise (le:=λa b=>Q5 16 b a=aA aD) (λx y hx hy h1 h2=>?_) ha.2 hb.2 (ha.1.trans hb.1.symm);have mx:=ha.1.mem_iff.mp hx;have my:=hb.1.mem_iff.mp hy;rw[he _ my _ mx]at h1;rw[he _ mx _ my]at h2;have h1:¬fK y<fK x:=by simpa using h1
 have h2:¬fK x<fK y:=by simpa using h2
 exact jQ hd mx my (List.le_antisymm (dw.mp h1) (dw.mp h2))
theorem Er(h:M9 ds p):R1 ds (p.map λi=>ds.getD i .non):=by
 refine⟨?_,fu.mpr h.2⟩;refine(h.1.map _).trans ?_;have:(cr ds.length).map (λi=>ds.getD i .non)=ds:=by
  apply List.ext_getElem
  .simp
  .intro i h1 h2;simp[bh,au h2]
 rw[this]
theorem Ra(h:fH ds):∃out,R1 ds out:=let⟨_,hp⟩:=B3 h;⟨_,Er hp⟩
theorem Gf{ks:List D}{fK:D->List Nat}:(∀i j,i<ks.length->j<ks.length->fK (ks.getD i .non)=fK (ks.getD j .non)->i=j)↔(ks.map fK).Nodup:=by
 have gi:∀i (hi:i<ks.length),ks.getD i .non=ks[i]:=λi hi=>by rw[bh,au hi];rfl
 constructor
 .intro h;refine List.pairwise_iff_getElem.mpr λi j hi hj YJ e=>?_;rw[aj]at hi hj;rw[List.getElem_map,List.getElem_map]at e;have:=h i j hi hj (by rw[gi i hi,gi j hj];exact e);omega
 .intro h i j hi hj e;rw[gi i hi,gi j hj]at e;have:=(List.getElem?_inj (i:=i) (j:=j) (by rw[aj];exact hi) h).mp (by simp[hi,hj,e]);exact this
theorem S7(h:fH ds)(p:es.Perm ds):fH es:=by obtain⟨k,hk⟩:=h.key;obtain⟨fK,he,hd⟩:=h.ord;refine⟨⟨k,λd hd=>hk d (p.mem_iff.mp hd)⟩,fK,λa ha b hb=>he a (p.mem_iff.mp ha) b (p.mem_iff.mp hb),?_⟩;exact Gf.mpr ((p.map fK).nodup_iff.mpr (Gf.mp hd))
section
open PySem.Calls
theorem N3(ok:Gr P w H h)(e:Jg H k b):Bc P w h k b:=by
 cases k with
 |inl l=>exact G0 ok e
 |inr p=>
  obtain⟨n,l⟩:=p;obtain⟨c,h1,h2⟩:=e;obtain⟨_,gU,r,o,q1,q2,m,q3⟩:=(show Ym P w H h b (.tup [.int n,.ref c])from ok b _ h1)
  cases r with
  |cons r1 t=>cases t with
   |cons r2 t=>cases t;obtain⟨tk,rfl⟩:=r1;cases r2;exact⟨o,_,m,tk,c,q1,q2,q3,rfl,G0 ok h2⟩
theorem Cv{K}(e:Jg F k b):fE K F (Zw k) (.ref b):=by
 have tx:∀l:List Str,gX K F (l.map D.str) ((Gq l).map kV):=λl=>by
  induction l with
  |nil=>exact .nil
  |cons x l ih=>exact .cons (.str x) ih
 cases k with
 |inl l=>exact .tup e (tx l)
 |inr p=>obtain⟨n,l⟩:=p;obtain⟨c,h1,h2⟩:=e;exact .tup h1 (.cons (.int n) (.cons (.tup h2 (tx l)) .nil))
theorem R3{K}(r:fE K F (Zw k) v):∃b,v= .ref b/\Jg F k b:=by
 have tx:∀{l:List Str} {vs:List V},gX K F (l.map D.str) vs->vs=(Gq l).map kV:=fun{l}=>by
  induction l with
  |nil=>intro vs h;cases h;rfl
  |cons x l ih=>intro vs h;cases h with
   |cons h t=>cases h;rw[ih t];rfl
 cases k with
 |inl l=>cases r with
  |tup h r=>rw[tx r]at h;exact⟨_,rfl,h⟩
 |inr p=>
  obtain⟨n,l⟩:=p;cases r with
  |tup h r=>cases r with
   |cons r1 t=>cases r1;cases t with
    |cons r2 t=>cases t;cases r2 with
     |tup h2 r2=>rw[tx r2]at h2;exact⟨_,rfl,_,h,h2⟩
def rSN(K:af):List V->Hp->VK->Prop:=λvs H Q=>∃(l:ao) (ys:List (Zo×ao)),vs=[.ref l]/\Be K H l (ys.map λy=>V.ref y.2)/\(∀y∈ys,Jg H y.1 y.2)/\ys.length<=75/\(Pd ys).length<64/\fH ((Pd ys).map λy=>Zw y.1)/\
 ∀(zs:List (Zo×ao)) (q:ao),zs.Perm (Pd ys)->R1 ((Pd ys).map λy=>Zw y.1) (zs.map λy=>Zw y.1)->H q=aB->Q (.ref q) (Y3 H q (.lst (zs.map λz=>V.ref z.2)))
theorem BQ:∀{ys:List (Zo×ao)} {gU:List ag},Z1 (ys.map λy=>V.ref y.2) gU->gU=ys.map λy=>ci y.2
 | [],_,h=>by cases h;rfl
 |y::ys,_,h=>by
  cases h with
  |cons r t=>cases r;rw[BQ t];rfl
theorem FY:∀ys:List (Zo×ao),Z1 (ys.map λy=>V.ref y.2) (ys.map λy=>ci y.2)
 | []=>.nil
 |y::ys=>.cons rfl (FY ys)
theorem nH(hc:X.calm=aC)(hu:X.A.units+64<ft)(h1:X.mg "sorted"=aB)(h2:X.mg "set"=aB)(ha:PA X [a] t)(g1:Gl X "sorted")(g2:Gl X "set")(WR:ba [.Call (.Name "set" q1) [a] [] q2] X.env=(aD,ig (.Call (.Name "set" q1) [a] [] q2) X.env)::ba [] X.env)(RB:(gu p2 (ba [] X.env)).any (·.1)=aD)(WQ:ba [a] X.env=(aD,ig a X.env)::ba [] X.env)(RA:(gu q2 (ba [] X.env)).any (·.1)=aD):
  PE X (.Call (.Name "sorted" p1) [.Call (.Name "set" q1) [a] [] q2] [] p2) (tCB (rSN X.K) t):=by
 intro gR s σ H Q I h;refine wpAny_Call_Name_kw (Bq I g1 h1 M8 ?_);refine PyProof.Rows.callWith_builtin1 ?_ WR RB;rw[WR];show bi _ _ (spliced ((aD,ig (.Call (.Name "set" q1) [a] [] q2) X.env)::gu p2 (ba [] X.env))) _ _ s;refine Calls.spliced_cons (wpAny_Call_Name_kw (Bq I g2 h2 kC ?_));refine PyProof.Rows.callWith_type1 (Wu (ha q2 gR s σ H _ I h) λus s1 ⟨vs,H1,I1,r1,z1⟩=>?_) WQ RA;obtain⟨l,ys,rfl,hl,hn,hz,OG,ko,q⟩:=z1;obtain⟨u,rfl,ru⟩:=Bf r1;cases ru;obtain⟨gU,rv,⟨o,n,ho,YL,_,hd⟩,_⟩:=I1.list hl;have hits:=BQ rv;have hh:=I1.ok.hd hc;refine lU (gU:=gU.toArray) (ys:=ys) hh (by omega) ⟨o,ho,YL,n,hd⟩ (by simpa using hits) (λy hy=>N3 I1.hok (hn y hy)) hz λh' tk o' XA hO hk=>?_;show bi _ _ (spliced []) _ _ _;refine Calls.spliced_nil ?_;have kept:∀b x,s1.heap.get? b=aA x->h'.get? b=aA x:=λb x e=>hk b x (bp e) e;have I2:gY X gR σ H1 {s1 with heap:=h',toks:=tk}:=I1.kept kept;refine Calls.call_function_entry kind_sorted plain_sorted entry_sorted (args_sorted1 _) ?_;unfold Builtin.«sorted»;refine aa (m:=checkCount "sorted" 1 1 _) (ad ?_);refine aa (lT (A:=X.A.in1) (s:={s1 with heap:=h',toks:=tk}) hh XA hO (by omega) λzs h3 d hp vj ge=>?_);have I3:gY X gR σ H1 {s1 with heap:=h3,toks:=tk,drawn:=d}:=(I2.kept (t':=tk) vj).drawnAt d;have kz:fH (zs.map λy=>Zw y.1):=S7 ko (hp.map _);obtain⟨fK,he,HR⟩:=id kz.ord;obtain⟨kb,HG⟩:=id kz.key;have TL:X.A.in1.in1.units+16<cLine:=by show X.A.units+1+1+16<ft;omega
 have zl:zs.length=(Pd ys).length:=hp.length_eq;have dl:(zs.map λy=>Zw y.1).length=(zs.map λz=>ci z.2).length:=by simp
 have vZ:∀z∈zs,Jg H1 z.1 z.2:=λz UN=>hn z (N0 (hp.mem_iff.mp UN));refine jT (gU:=zs.map λz=>ci z.2) (kvs:=zs.map λz=>V.ref z.2) (KeyOk:=λj kv H=>fE X.K H ((zs.map λy=>Zw y.1).getD j .non) kv) (O:=strKind.toKeyOrd) (key:=KJ fK (zs.map λy=>Zw y.1)) I3 (by rw[aj];omega) (FY zs) (λj kv e=>?_) (yS TL HG he dl) ?hQ
 .rw[ay]at e;obtain⟨z,ez,rfl⟩:=cz.mp e;have:(zs.map λy=>Zw y.1).getD j .non=Zw z.1:=by rw[bh,ay,ez];rfl
  rw[this];exact Cv (vZ z (cf ez))
 case hQ=>
  intro p D s3 cc hp2' hs RT I4 fD gD;have sb:=yR he dl hp2' hs;have pt:p.toList.Perm (cr zs.length):=by have:=sb.1;rw[aj]at this;exact this
  have QQ:∀i∈p.toList,i<zs.length:=λi hi=>cq.mp (pt.mem_iff.mp hi);have uQ:∀i∈p.toList,(zs.map λz=>ci z.2).getD i c8=ci (zs.getD i (.inl [],0)).2:=λi hi=>by have hb:=QQ i hi;simp[bh,ay,au hb]
  have g2':∀i∈p.toList,(zs.map λy=>Zw y.1).getD i .non=Zw (zs.getD i (.inl [],0)).1:=λi hi=>by have hb:=QQ i hi;simp[bh,ay,au hb]
  generalize hzs2:p.toList.map (λi=>zs.getD i (.inl [],0))=zs2;have e1:(p.toList.map λi=>(zs.map λz=>ci z.2).getD i c8)=zs2.map λz=>ci z.2:=by rw[<-hzs2,cp];exact List.map_congr_left uQ
  have e2:(p.toList.map λi=>(zs.map λy=>Zw y.1).getD i .non)=zs2.map λy=>Zw y.1:=by rw[<-hzs2,cp];exact List.map_congr_left g2'
  have pz:zs2.Perm zs:=by
   rw[<-hzs2];refine(pt.map _).trans ?_;have:(cr zs.length).map (λi=>zs.getD i (.inl [],0))=zs:=by
    apply List.ext_getElem
    .simp
    .intro i h1 h2;simp[bh,au h2]
   rw[this]
  have so:=Er sb;rw[e2]at so;have wR:R1 ((Pd ys).map λy=>Zw y.1) (zs2.map λy=>Zw y.1):=⟨so.1.trans (hp.map _),so.2⟩
  rw[e1]at gD;have new:Ym X.prog X.w (Y3 H1 D (.lst (zs2.map λz=>V.ref z.2))) s3.heap D (.lst (zs2.map λz=>V.ref z.2)):=by refine⟨?_,zs2.map λz=>ci z.2,cc,FY zs2,gD⟩;rw[aj,pz.length_eq,gz];omega
  exact⟨.ref D,_,gY.trackO I4 RT fD.1 fD.2.1 fD.2.2.2.2.1 fD.2.2.2.2.2 new,rfl,q zs2 D (pz.trans hp) wR fD.1⟩
end
section
variable{K:af}
def nk?:D->Option Zo
 | .tup xs=>match strs? xs with
  |some l=>aA (.inl l)
  |none=>match xs with
   | [.int n,.tup ys]=>(strs? ys).bind λl=>aA (.inr (n,l))
   |_=>aB
 |_=>aB
theorem Es:∀l,strs? (l.map D.str)=aA l
 | []=>rfl
 |x::l=>by rw[ax,strs?,Es l];rfl
theorem N4:∀{xs:List D} {l:List Str},strs? xs=aA l->xs=l.map D.str
 | [],_,h=>by cases h;rfl
 |x::xs,l,h=>by
  unfold strs? at h;split at h
  .rename_i e;cases e
  .rename_i y r e;cases e;refine gZ h λt h1 h2=>?_;cases h2;rw[N4 h1];rfl
  .cases h
@[simp]theorem Cw(k):nk? (Zw k)=some k:=by
 cases k with
 |inl l=>show(match strs? (l.map D.str)with|some l=>_|none=>_)=_;rw[Es]
 |inr p=>obtain⟨n,l⟩:=p;show(strs? (l.map D.str)).bind _=_;rw[Es];rfl
theorem FW(h:nk? d=aA k):d=Zw k:=by
 unfold nk? at h;split at h
 .rename_i xs;split at h
  .rename_i l hl;cases h;rw[N4 hl];rfl
  .split at h
   .refine gZ h λl h1 h2=>?_;cases h2;rw[N4 h1];rfl
   .cases h
 .cases h
def nks?:List D->Option (List Zo)
 | []=>aA []
 |d::r=>(nk? d).bind λk=>(nks? r).bind λks=>aA (k::ks)
@[simp]theorem N5:∀ks,nks? (ks.map Zw)=some ks
 | []=>rfl
 |k::ks=>by rw[ax,nks?,Cw,N5 ks];rfl
theorem Hr:∀{ds:List D} {ks:List Zo},nks? ds=aA ks->ds=ks.map Zw
 | [],_,h=>by cases h;rfl
 |d::ds,_,h=>by refine gZ (show(nk? d).bind _=_ from h) λk h1 h2=>?_;refine gZ h2 λks h3 h4=>?_;cases h4;rw[FW h1,Hr h3];rfl
theorem S8:∀{ks:List Zo} {vs:List V},gX K F (ks.map Zw) vs->∃ys:List (Zo×ao),ys.map (·.1)=ks/\vs=ys.map (λy=>V.ref y.2)/\∀y∈ys,Jg F y.1 y.2
 | [],_,h=>by cases h;exact⟨[],rfl,rfl,λ_ z=>nomatch z⟩
 |k::ks,_,h=>by
  cases h with
  |cons h t=>
   obtain⟨b,rfl,hb⟩:=R3 h;obtain⟨ys,rfl,rfl,hy⟩:=S8 t;refine⟨(k,b)::ys,rfl,rfl,λy VJ=>?_⟩;rcases bj.mp VJ with z|z
   .rw[z];exact hb
   .exact hy y z
theorem Kq:∀{ys:List (Zo×ao)},(∀y∈ys,Jg F y.1 y.2)->gX K F (ys.map λy=>Zw y.1) (ys.map λy=>V.ref y.2)
 | [],_=>.nil
 |y::ys,h=>.cons (Cv (h y ac)) (Kq λz hz=>h z (ah _ hz))
open Classical in
def Et(ks:List Zo):Option SV:=
 if h:ks.length<=75/\(Ko ks).length<64/\fH ((Ko ks).map Zw)then aA (.ol (Classical.choose (Ra h.2.2)))else aB
theorem lR(e:Et ks=aA sv):ks.length<=75/\(Ko ks).length<64/\fH ((Ko ks).map Zw)/\∃out,R1 ((Ko ks).map Zw) out/\sv= .ol out:=by
 unfold Et at e;split at e
 .rename_i h;cases e;exact⟨h.1,h.2.1,h.2.2,_,Classical.choose_spec (Ra h.2.2),rfl⟩
 .cases e
theorem lQ(h1:ks.length<=75)(h2:(Ko ks).length<64)(h3:fH ((Ko ks).map Zw))(h4:R1 ((Ko ks).map Zw) out):Et ks=aA (.ol out):=by unfold Et;rw[dif_pos ⟨h1,h2,h3⟩,G9 h3 (Classical.choose_spec (Ra h3)) h4]
def R4:List D->Option SV
 | [.lst xs]=>(nks? xs).bind Et
 |_=>aB
@[simp]theorem jP(ks):R4 [.lst (ks.map Zw)]=Et ks:=by show(nks? (ks.map Zw)).bind _=_;rw[N5];rfl
theorem qS{Z:fB K}:Bh Z (rSN K) R4:=by
 intro F H σ δ own vs ds sv Q s r e k;unfold R4 at e;split at e
 .refine gZ e λks e1 e2=>?_;obtain⟨z1,z2,ko,out,ho,rfl⟩:=lR e2;have:=Hr e1;subst this;cases r with
  |cons h t=>
   cases t;obtain⟨a,us,rfl,ha,ru⟩:=h.lst s.le;obtain⟨ys,rfl,rfl,hy⟩:=S8 ru;have ek:(Pd ys).map (λy=>Zw y.1)=(Ko (ys.map (·.1))).map Zw:=by rw[<-xn,cp];rfl
   refine⟨a,ys,rfl,ha,λy VJ=>(hy y VJ).mono λ_ _ q=>s.le _ _ q,by simpa using z1,?_,by rw[ek];exact ko,λzs q hp so hq=>?_⟩
   .have:=congrArg List.length (xn ys);rw[aj]at this;omega
   .have eo:out=zs.map λy=>Zw y.1:=by rw[ek]at so;exact G9 ko ho so
    rw[eo]at k;exact k.lst s (Kq λz hz=>hy z (N0 (hp.mem_iff.mp hz))) hq
 .cases e
section
variable{X:Cx}{Z:fB X.K}{a b c:c9}{fa fb fc:FE}{pos:Pos}
theorem Hs{p1 q1 q2}(hc:X.calm=aC)(hv:X.A.units+64<ft)(h1:X.mg "sorted"=aB)(h2:X.mg "set"=aB)(ha:PE X a (Ze Z fa))(g1:‹Gl X "sorted"›)(g2:‹Gl X "set"›)(WR:‹ba [.Call (.Name "set" q1) [a] [] q2] X.env=(aD,ig (.Call (.Name "set" q1) [a] [] q2) X.env)::ba [] X.env›)(RB:‹(gu pos (ba [] X.env)).any (·.1)=aD›)(WQ:‹ba [a] X.env=(aD,ig a X.env)::ba [] X.env›)(RA:‹(gu q2 (ba [] X.env)).any (·.1)=aD›):
  PE X (.Call (.Name "sorted" p1) [.Call (.Name "set" q1) [a] [] q2] [] pos) (Ze Z (Y4 R4 (Zc fa Zl))):=
 (nH hc hv h1 h2 (Zh ha Z3 WQ) g1 g2 WR RB WQ RA).imp λ_ _ _ h=>L1 qS h
end
end
section
open PySem.Calls
section
variable{prog:b8}{w:dq}{K:Type}[DecidableEq K]{knd:HeapKind prog w K}{A:c7}{E:ag->am->Prop}{s:am}
theorem S9(hu:knd.room A)(VN:knd.is s.heap k a)(hm:s.heap.DictOfH knd d xs)(RE:∀p,atKey xs k=aA p->Q p.2 {s with toks:=s.toks+knd.draws k})(IU:atKey xs k=aB->∀h',h'.DictOfH knd d (xs++[(k,a,v)])->g6 d s.heap h'->Q v {s with heap:=h',toks:=s.toks+knd.draws k})(hsz:xs.length<=sizeLine):
  bi (b9 prog w) A (dictSetDefault d (.ref a) v) Q E s:=by
 obtain⟨o,es,ep,ho,hc,hd,he,VO,hn⟩:=hm;unfold dictSetDefault
 try with_reducible refine f9 ?_
 refine aa (knd.pyHash hu VN (aa (wpAny_dictFind_heap (s:={s with toks:=s.toks+knd.draws k}) hu VN ho hd he VO hn ?_ ?_)))
 .intro hno;have IT:k∉xs.map (·.1):=not_mem_keys_of_get hno;dsimp only;refine aa (wpAny_rule (aa (wpAny_updateDictKeys (hz:=by have e:=size_of_entries he;omega) (s:={s with toks:=s.toks+knd.draws k}) ho hd (ad (IU (atKey_none_of_get hno) _ ⟨_,_,ep+1,Heap.get?_update_self _ ho (Obj.isFreed_of_dict (Obj.data_mapDictKeys hd _)),
   hc.mapDictKeys _,Obj.data_mapDictKeys hd _,?_,?_,?_⟩ (Heap.SameBut.update ..))))))
  .simp[he,entryOfKey]
  .intro x hx;rcases bz.mp hx with hx|hx
   .exact knd.keeps (VO x hx) ho hd (Heap.SameBut.update ..)
   .simp only[ar]at hx;subst hx;exact knd.keeps VN ho hd (Heap.SameBut.update ..)
  .rw[cu,dh];refine⟨hn,by simp,?_⟩;intro x hx y hy;simp only[ax,List.map_nil,ar]at hy;subst hy;exact λe=>IT (e▸hx)
 .intro j p hj;dsimp only;refine aa (wpAny_dictEntries (s:={s with toks:=s.toks+knd.draws k}) ho hd ?_);rw[entry_at he j,hj];exact aa (wpAny_rule (ad (RE p (atKey_of_get hn hj))))
end
def KNt(H:Hp):List (Zo×V)->List (Zo×ao×ag)->Prop:=Paired λ(p:Zo×V) (q:Zo×ao×ag)=>p.1=q.1/\Jg H p.1 q.2.1/\Zv p.2 q.2.2
theorem FV(ok:Gr P w H h)(e:H a=aA (.dN kvs ep bs)):kvs.length<=sizeLine/\(a==sysModules)=aD/\
  ∃xs,KNt H kvs xs/\h.DictOfH (Fc P w) a xs/\(xs.map λx=>x.2.1)=bs:=by
 obtain⟨z,y,xs,r,o,es,h1,h2,h3,h4,h5,h6⟩:=(show Ym P w H h a (.dN kvs ep bs)from ok a _ e)
 refine⟨z,y,xs,r,⟨o,es,ep,h1,h2,h3,h4,λx hx=>?_,h5⟩,h6⟩;have all:∀{l:List (Zo×V)} {m:List (Zo×ao×ag)},KNt H l m->∀x∈m,(Fc P w).is h x.1 x.2.1:=by
  intro l m q;induction q with
  |nil=>intro x hx;exact nomatch hx
  | @cons p q ps qs hq t ih=>
   intro x hx;rcases bj.mp hx with e|hx
   .subst e;exact N3 ok (by rw[<-hq.1];exact hq.2.1)
   .exact ih x hx
 exact all r x hx
theorem KNt.val(r:KNt H kvs xs)(k):Tg (Qz kvs k) ((atKey xs k).map (·.2)):=by
 induction r with
 |nil=>exact True.intro
 | @cons p q ps qs hq t ih=>
  by_cases e:p.1=k
  .rw[U3 e];have:atKey (q::qs) k=aA q.2:=by unfold atKey;rw[List.find?_cons_of_pos (by rw[<-hq.1];exact eB e)];rfl
   rw[this];exact hq.2.2
  .rw[Jt e];have:atKey (q::qs) k=atKey qs k:=by unfold atKey;rw[List.find?_cons_of_neg (by rw[<-hq.1];simpa using e)]
   rw[this];exact ih
def IsN(H:Hp)(a:ao):Prop:=∃kvs ep bs,H a=aA (.dN kvs ep bs)
def tw(td ty:TE):TE:=λσ H Q=>td σ H λx H1=>ty σ H1 λy H2=>∃a b kvs ep bs k v,x= .ref a/\y= .ref b/\H2 a=aA (.dN kvs ep bs)/\Jg H2 k b/\Qz kvs k=aA v/\Q v H2
def zI(td ty tx:TE):TE:=λσ H Q=>td σ H λx H1=>∃a,x= .ref a/\IsN H1 a/\ty σ H1 λy H2=>tx σ H2 λz H3=>∃kvs ep bs k b,y= .ref b/\H3 a=aA (.dN kvs ep bs)/\Jg H3 k b/\kvs.length<sizeLine/\
 ((∃v,Qz kvs k=aA v/\Q v H3)\/(Qz kvs k=aB/\∀ep',Q z (Y3 H3 a (.dN (kvs++[(k,z)]) ep' (bs++[b])))))
theorem zH{A:c7}(hu:A.units+2<ft):(Fc P w).room A.in1:=hu
theorem nG(hu:X.A.units+2<ft)(ho:PE X o td)(hi:PE X i ty)(hs:FF i):PE X (.Subscript o i pos) (tw td ty):=by intro gR s σ H Q I h;refine D3 PySem.F.slot_dict_getitem.lookup hs (Wu (ho gR s σ H _ I h) λu s1 ⟨x,H1,I1,rx,q1⟩=>Wu (hi gR s1 σ H1 _ I1 q1) λiv s2 ZE=>?_);obtain⟨y,H2,I2,ry,a,b,kvs,ep,bs,k,v,ex,ey,ea,eb,ev,q2⟩:=ZE;subst ex ey;obtain rfl:u=ci a:=rx;obtain rfl:iv=ci b:=ry;obtain⟨z,hd,xs,ZH,dd,_⟩:=FV I2.hok ea;obtain⟨w',hw,WV⟩:=Tg.some_of (v:=v) (o:=(atKey xs k).map (·.2)) (by rw[<-ev];exact ZH.val k);obtain⟨p,hp,RA⟩:=cz.mp hw;refine⟨dd.typeIs,wpAny_getItem_heap (zH hu) (N3 I2.hok eb) dd hp ?_⟩;rw[RA];exact⟨v,H2,I2.tok _,WV,q2⟩
theorem xm(hu:X.A.units+2<ft)(ho:PE X o td)(he:PE X e ty)(hf:PE X f tx)(m:M2 X o "setdefault" ZJ e f ZA):PE X (.Call (.Attribute o "setdefault" ZJ) [e,f] [] ZA) (zI td ty tx):=by
 intro gR s σ H Q I h;refine wpAny_Call_method m.base m.few m.line PySem.F.plainAttrs_dict PySem.F.slot_dict_setdefault PySem.F.type_dict_setdefault (Wu (ho gR s σ H _ I h) λu s1 ZE=>?_);obtain⟨x,H1,I1,rx,a,ex,d,q1⟩:=ZE;subst ex;obtain rfl:u=ci a:=rx;obtain⟨JY,BG,ue,uW⟩:=d;obtain⟨_,_,iL,_,BH,_⟩:=FV I1.hok uW;refine⟨BH.typeIs,λb q=>?_,?_⟩
 .cases q;obtain⟨ob,_,_,h1,h2,_⟩:=BH;exact⟨ob,h1,h2.2.1⟩
 rw[m.trees];refine Calls.callWith_builtin rfl (Calls.evalArgs_plain (Calls.spliced_cons (Wu (he gR s1 σ H1 _ I1 q1) λiv s2 hw=>?_)));obtain⟨y,H2,I2,ry,q2⟩:=hw;refine Calls.spliced_cons (Wu (hf gR s2 σ H2 _ I2 q2) λfv s3 hw=>?_);obtain⟨z,H3,I3,rz,kvs,ep,bs,k,b,ey,ea,eb,hl,q3⟩:=hw;refine Calls.spliced_nil ?_;subst ey;obtain rfl:iv=ci b:=ry;obtain⟨hz,hd,xs,ZH,dd,VX⟩:=FV I3.hok ea;have iU:xs.length=kvs.length:=(Paired.length ZH).symm;refine d5 PySem.F.slot_dict_setdefault dd.typeIs PySem.F.entry_dict_setdefault ?_ (PySem.F.args_dict_setdefault_3 _ _ _);unfold Builtin.«dict.setdefault»;refine aa (m:=Builtin.Dict.keyAndDefault "setdefault" ⟨[.ref a,.ref b,fv],[]⟩) ?_;show bi _ _ (Builtin.Dict.notOrdered "setdefault" ⟨[.ref a,.ref b,fv],[]⟩>>=_) _ _ s3;refine aa (wpAny_notOrdered_dict dd.typeIs ?_);refine ad (a:=(a,ci b,aA fv)) ?_;dsimp only;rw[fZ (by rw[hd];simp)];refine aa (S9 (knd:=Fc X.prog X.w) (zH hu) (N3 I3.hok eb) dd (λp hp=>?_) (λhno h' V_ hs=>?_) (by omega))
 .rcases q3 with⟨v,ev,q⟩|⟨ev,_⟩
  .have r:=ZH.val k;rw[hp,ev]at r;exact ad ⟨_,rfl,v,H3,I3.tok _,r,q⟩
  .have r:=ZH.val k;rw[hp,ev]at r;exact r.elim
 .rcases q3 with⟨v,ev,q⟩|⟨ev,q⟩
  .have r:=ZH.val k;rw[hno,ev]at r;exact r.elim
  .obtain⟨ob,es,ep',hq,h2,h3,h4,_,h5⟩:=V_;refine ad ⟨_,rfl,z,_,Ts I3 (ob:=.dN (kvs++[(k,z)]) ep' (bs++[b])) (by rw[ea];exact True.intro) hs ⟨ob,hq⟩ ⟨by rw[bg,List.length_singleton];omega,hd,xs++[(k,b,fv)],?_,ob,es,hq,h2,h3,h4,h5,by rw[cu,VX];rfl⟩,rz,q ep'⟩;have app:∀{l:List (Zo×V)} {m:List (Zo×ao×ag)},KNt H3 l m->Paired (λ(p:Zo×V) (q:Zo×ao×ag)=>p.1=q.1/\Jg (Y3 H3 a (.dN (kvs++[(k,z)]) ep' (bs++[b]))) p.1 q.2.1/\Zv p.2 q.2.2) (l++[(k,z)]) (m++[(k,b,fv)]):=by
    have up:∀c ys,H3 c=aA (.tup ys)->Y3 H3 a (.dN (kvs++[(k,z)]) ep' (bs++[b])) c=aA (.tup ys):=λc ys ec=>by rw[Zt (zf ec ea (λz=>nomatch z))];exact ec
    intro l m r;induction r with
    |nil=>exact .cons ⟨rfl,eb.mono up,rz⟩ .nil
    |cons hq t ih=>exact .cons ⟨hq.1,hq.2.1.mono up,hq.2.2⟩ ih
   exact app ZH
theorem lP(h:f8)(hb:sysModules<h.objs.size):Ym P w H (h.push {cls:=.type "dict",data:=.dict #[]}) h.objs.size (.dN [] 0 []):=
 ⟨gd _,beq_eq_false_iff_ne.mpr (Ne.symm (cm hb)),[],.nil,_,#[],bo _ rfl,⟨rfl,rfl,rfl⟩,rfl,rfl,c6,rfl⟩
def yE:TE:=λ_ H Q=>∀p,H p=aB->Q (.ref p) (Y3 H p (.dN [] 0 []))
theorem lO:PE X (.Dict [] [] pos) yE:=λgR s σ H Q I h=>
 wpAny_Dict_empty ⟨.ref s.heap.objs.size,_,I.laid (a:=s.heap.objs.size) (o:=.dN [] 0 []) (t':=s.toks) (λ_ _ q=>aq _ q) (bc _) (lP s.heap I.big),rfl,h _ (I.hok.fresh (bc _))⟩
def KH(K:af):V->List V->Hp->VK->Prop:=λx vs H Q=>∃l b xs zs,x= .ref l/\vs=[.ref b]/\H l=aA (.lst xs)/\Be K H b zs/\xs.length+zs.length<=sizeLine/\Q .non (Y3 H l (.lst (xs++zs)))
end
section
open PySem.Calls
theorem nE(l gV n b gW n2 dc sl)(UB:¬(!gV.isEmpty&&Builtin.List.listTooLong (gV.size+gW.size))=aC)(IL:gV.size<=sizeLine)(XW:gV.size+gW.size<=sizeLine+1):
  Meets (Builtin.«list.extend» ⟨[.ref l,.ref b],[]⟩) (λ_ R s=>s.heap.get? l=aA {cls:=.type "list",dict:=aB,data:=.seq gV n,slots:= #[]}/\s.heap.get? b=aA {cls:=.type "list",dict:=dc,data:=.seq gW n2,slots:=sl}/\R (.ok (.ret c8)) {s with heap:=s.heap.update l (d8 λx=>x++gW),toks:=s.toks}):=
 .of_wp λprog w A R s h=>by
  obtain⟨hp,g,d,tk,os⟩:=s;obtain⟨hl,hb,h⟩:=h;have f1:=AutoSeq1.idx_int;have f2:=AutoSeq1.sub_tuple_tuple;have f3:=AutoSeq1.sub_list_list;have f4:=AutoSeq1.sub_tuple_list;have f5:=AutoSeq1.sub_list_tuple;have UN:(gV++gW).size<=sizeLine+1:=by rw[Array.size_append];exact XW
  wp_walk using(wpAny_updateSeq hl rfl (hz:=IL) (_hz':=UN)),AutoSeq1.wpAny_loadPart' hl,AutoSeq1.wpAny_loadPart' hb;exact⟨_,rfl,h⟩
theorem xH:MtM X "list.extend" (KH X.K):=by
 intro gR s σ H x vs v us Q I rx rv h;obtain⟨l,b,xs,zs,rfl,rfl,hH,hB,hz,q⟩:=h;cases rx;obtain⟨u,rfl,ru⟩:=rv.one;cases ru;obtain⟨z,gU,n,r,hl,e⟩:=I.lstM hH;obtain⟨XE,r2,⟨o,n2,ho,hc,hdn,hd⟩,z2⟩:=I.list hB;have hl2:=r2.length;obtain⟨cls,dc,data,sl⟩:=o;cases hc;cases hd;have hsz:gU.toArray.size+XE.toArray.size<=sizeLine:=by rw[bx,bx];omega
 have OP:¬(!gU.toArray.isEmpty&&Builtin.List.listTooLong (gU.toArray.size+XE.toArray.size))=aC:=by rw[kj hsz,Bool.and_false];exact bv
 refine call_meets F.slot_list_extend ⟨_,e,rfl⟩ F.entry_list_extend (F.args_list_extend_2 _ _)
  (nE l gU.toArray n b XE.toArray n2 dc sl OP (by rw[bx];omega) (by omega)) ⟨e,ho,?_⟩
 refine⟨.non,_,I.lset (its':=gU++XE) hH e (by simp) (r.append r2) ?_,rfl,q⟩;rw[bg];omega
end
section
variable{K:af}
theorem fL.appL:∀{ZC:List (List D)} {ws:List V} {ns:Zs} {p:Nat} {b:ao},fL K F ZC ws ns->ws[p]? =aA (.ref b)->(Cm ns).Nodup->
  ∃xs vs,ZC[p]? =aA xs/\(b,HO.lst vs)∈ns/\gX K F xs vs/\∀{ys:List D} {us:List V},gX K F ys us->∃ns',fL K F (ZC.set p (xs++ys)) ws ns'/\Cm ns'=Cm ns/\∀q∈ns',q=(b,HO.lst (vs++us))\/(q∈ns/\q.1≠b)
 |_,_,_,_,_,.nil,e,_=>by simp at e
 |_,_,_,0,b,@fL.cons _ _ xs ZC b' vs ws ns r t,e,nd=>by
  have e':b'=b:=by simpa using e
  subst e';obtain⟨n1,n2⟩:=dy.mp nd;refine⟨xs,vs,rfl,ac,r,fun{ys us} hd=>⟨(b',.lst (vs++us))::ns,.cons (r.append hd) t,rfl,λq hq=>?_⟩⟩;rcases bj.mp hq with z|z
  .exact .inl z
  .exact .inr ⟨ah _ z,λw=>n1 (av.mpr ⟨q,z,w⟩)⟩
 |_,_,_,p+1,b,@fL.cons _ _ xs0 ZC b' UW ws ns r t,e,nd=>by
  obtain⟨n1,n2⟩:=dy.mp nd;refine Ol (fL.appL (p:=p) (b:=b) t (by simpa using e) n2) λxs vs h1 h2 h3 h4=>?_;refine⟨xs,vs,by simpa using h1,ah _ h2,h3,fun{ys us} hd=>?_⟩;refine Zn (h4 hd) λns' k1 k2 k3=>?_;refine⟨(b',.lst UW)::ns',by rw[List.set_cons_succ];exact .cons r k1,by show b'::Cm ns'=b'::Cm ns;rw[k2],λq hq=>?_⟩;rcases bj.mp hq with z|z
  .refine .inr ⟨by rw[z];exact ac,λw=>n1 ?_⟩;rw[z]at w;exact av.mpr ⟨_,h2,w.symm⟩
  .rcases k3 q z with w|⟨w,w2⟩
   .exact .inl w
   .exact .inr ⟨ah _ w,w2⟩
@[simp]noncomputable def Wi:List Zo->Zo->Option Nat
 | [],_=>aB
 |a::r,k=>if a=k then aA 0 else(Wi r k).map (· +1)
theorem Kr:∀{kvs:List (Zo×V)} {p:Nat},Wi (kvs.map (·.1)) k=aA p->∃v,(kvs.map (·.2))[p]? =aA v/\Qz kvs k=aA v
 | [],_,e=>by cases e
 |q::r,p,e=>by
  have e:(if q.1=k then aA 0 else(Wi (r.map (·.1)) k).map (· +1))=aA p:=e;by_cases h:q.1=k
  .rw[f_ h]at e;cases e;exact⟨q.2,rfl,U3 h⟩
  .rw[fZ h]at e;obtain⟨p',e1,e2⟩:=cz.mp e;subst e2;obtain⟨v,h1,h2⟩:=Kr e1;exact⟨v,by simpa using h1,by rw[Jt h];exact h2⟩
theorem Ks:∀{kvs:List (Zo×V)},Wi (kvs.map (·.1)) k=aB->Qz kvs k=aB
 | [],_=>rfl
 |q::r,e=>by
  have e:(if q.1=k then aA 0 else(Wi (r.map (·.1)) k).map (· +1))=aB:=e;by_cases h:q.1=k
  .rw[f_ h]at e;cases e
  .rw[fZ h]at e;rw[Jt h];exact Ks (Option.map_eq_none_iff.mp e)
theorem KN.snoc(h:KN F kvs bs)(hb:Jg F k b):KN F (kvs++[(k,v)]) (bs++[b]):=by
 induction h with
 |nil=>exact .cons hb .nil
 |cons r t ih=>exact .cons r ih
theorem lN(h:fC K F (.oX ks ZC) v ns):∃a kvs ns' ep bs,v= .ref a/\ns=(a,.dN kvs ep bs)::ns'/\KN F kvs bs/\kvs.map (·.1)=ks/\fL K F ZC (kvs.map (·.2)) ns':=by
 cases h with
 |oX kb e r=>exact⟨_,_,_,_,_,rfl,rfl,kb,e,r⟩
section
variable{Z:fB K}
@[simp]noncomputable def Kt:FE:=λδ=>some (.tmp (.oX [] []),δ)
theorem nC(h:Ze Z Kt σ H Q):yE σ H Q:=by refine Yo h λF δ own rv δ' s e k=>?_;cases e;intro p hp;have f:Fin Z F H σ δ own (.oX [] []) Q:=λv H' F' ns a b c t=>k v H' F' own a b c ⟨ns,t⟩;exact f.one s (.oX (kvs:=[]) .nil rfl .nil) hp
theorem R5(s:SR Z F H σ δ own)(e:δ[i]? =aA (aA (.oX ks ZC))):∃a kvs ep bs ns',σ[i]? =aA (aA (.ref a))/\own i=(a,.dN kvs ep bs)::ns'/\H a=aA (.dN kvs ep bs)/\KN F kvs bs/\kvs.map (·.1)=ks/\fL K F ZC (kvs.map (·.2)) ns':=by obtain⟨x,hx,sh⟩:=s.at' i _ e;obtain⟨a,kvs,ns',ep,bs,rfl,en,kb,ek,kd⟩:=lN sh;exact⟨a,kvs,ep,bs,ns',hx,en,(s.ok i (a,.dN kvs ep bs) (by rw[en];exact ac)).2.2,kb,ek,kd⟩
theorem tp(s:SR Z F H σ δ own)(e:δ[i]? =aA (aA (.oX ks ZC)))(hp:Wi ks k=aA p):
  ∃a kvs ep bs c vs xs,σ[i]? =aA (aA (.ref a))/\H a=aA (.dN kvs ep bs)/\kvs.length=ZC.length/\Qz kvs k=aA (.ref c)/\H c=aA (.lst vs)/\ZC[p]? =aA xs/\xs.length=vs.length/\F c=aB/\
   ∀ys us,gX K F ys us->∃own',SR Z F (Y3 H c (.lst (vs++us))) σ (δ.set i (aA (.oX ks (ZC.set p (xs++ys))))) own':=by
 obtain⟨a,kvs,ep,bs,ns',hx,en,hH,kb,ek,kd⟩:=R5 s e;rw[<-ek]at hp;obtain⟨v,g1,g2⟩:=Kr hp;obtain⟨c,rfl⟩:=kd.ref g1;have nd:=s.nod i;rw[en]at nd;obtain⟨n1,n2⟩:=dy.mp nd;refine Ol (kd.appL g1 n2) λxs vs q1 q2 q3 q4=>?_;have mb:(c,HO.lst vs)∈own i:=by rw[en];exact ah _ q2
 obtain⟨fc,_,LD⟩:=s.ok i _ mb;refine⟨a,kvs,ep,bs,c,vs,xs,hx,hH,by have:=kd.length;rw[aj]at this;exact this.symm,g2,LD,q1,q3.length,fc,λys us r=>?_⟩;refine Zn (q4 r) λJS k1 k2 k3=>?_;have RP:a≠c:=λz=>n1 (av.mpr ⟨_,q2,z.symm⟩);refine⟨_,s.change (sv':=.oX ks (ZC.set p (xs++ys))) (o':=.lst (vs++us)) (ns':=(a,.dN kvs ep bs)::JS) e hx mb (.oX kb ek k1) (λq hq=>?_) ?_⟩
 .rcases bj.mp hq with z|z
  .exact .inr ⟨by rw[en,z];exact ac,by rw[z];exact RP⟩
  .rcases k3 q z with w|⟨w,w2⟩
   .exact .inl w
   .exact .inr ⟨by rw[en];exact ah _ w,w2⟩
 .show(a::Cm JS).Nodup;rw[k2];exact nd
theorem tf(s:SR Z F H σ δ own)(e:δ[i]? =aA (aA (.oX ks ZC)))(hp:Wi ks k=aB):
  ∃a kvs ep bs,σ[i]? =aA (aA (.ref a))/\H a=aA (.dN kvs ep bs)/\kvs.length=ZC.length/\Qz kvs k=aB/\
   ∀l b ys us ep',H l=aB->Jg F k b->gX K F ys us->∃own',SR Z F (Y3 (Y3 (Y3 H l (.lst [])) a (.dN (kvs++[(k,.ref l)]) ep' (bs++[b]))) l (.lst us)) σ (δ.set i (aA (.oX (ks++[k]) (ZC++[ys])))) own':=by
 obtain⟨a,kvs,ep,bs,ns',hx,en,hH,kb,ek,kd⟩:=R5 s e;rw[<-ek]at hp;have nd:=s.nod i;rw[en]at nd;obtain⟨n1,n2⟩:=dy.mp nd;have mb:(a,HO.dN kvs ep bs)∈own i:=by rw[en];exact ac
 refine⟨a,kvs,ep,bs,hx,hH,by have:=kd.length;rw[aj]at this;exact this.symm,Ks hp,λl b ys us ep' hl hb r=>?_⟩;have IZ:l≠a:=λz=>by rw[z,hH]at hl;cases hl
 have eH:Y3 (Y3 (Y3 H l (.lst [])) a (.dN (kvs++[(k,.ref l)]) ep' (bs++[b]))) l (.lst us)=Y3 (Y3 H l (.lst us)) a (.dN (kvs++[(k,.ref l)]) ep' (bs++[b])):=by
  funext c;unfold Y3;by_cases h1:c=l
  .rw[f_ h1];by_cases h2:c=a
   .exact eF (h1.symm.trans h2) IZ
   .rw[fZ h2,f_ h1]
  .rw[fZ h1];by_cases h2:c=a
   .rw[f_ h2,f_ h2]
   .rw[fZ h2,fZ h2,fZ h1,fZ h1]
 rw[eH];have sm:=W1 (o:=HO.lst us) hl;have s1:=s.grow sm;have t:fO Z F (Y3 H l (.lst us)) own (.ol ys) (.ref l) [(l,.lst us)]:=by
  refine⟨.ol r,Fp,λq hq=>?_,λj q r hq hr z=>?_⟩
  .obtain rfl:=ar.mp hq;exact⟨s.le.free hl,s.old.free hl,Z2⟩
  .obtain rfl:=ar.mp hq;have z':l=r.1:=z;have:=(s.ok j r hr).2.2;rw[<-z',hl]at this;cases this
 have YB:∀p∈own i,p.1≠l:=λp hp z=>t.sep i (l,.lst us) p ac hp z.symm;refine⟨_,s1.changeT (o':=.dN (kvs++[(k,.ref l)]) ep' (bs++[b])) (ns':=(a,.dN (kvs++[(k,.ref l)]) ep' (bs++[b]))::(ns'++[(l,.lst us)])) t e hx mb (.oX (kb.snoc hb) (by rw[cu,ek];rfl) (by rw[cu];exact kd.snoc r)) (λp hp=>?_) ?_⟩
 .rcases bj.mp hp with z|z
  .exact .inl z
  .rcases bz.mp z with z|z
   .exact .inr (.inl ⟨by rw[en];exact ah _ z,λw=>n1 (av.mpr ⟨p,z,w⟩)⟩)
   .exact .inr (.inr z)
 .show(a::(ns'++[(l,HO.lst us)]).map (·.1)).Nodup;rw[cu];refine dy.mpr ⟨λz=>?_,?_⟩
  .rcases bz.mp z with z|z
   .exact n1 z
   .exact YB _ mb (ar.mp z)
  .refine dh.mpr ⟨n2,Fp,λx hx y hy z=>?_⟩;obtain⟨p,hp,ep⟩:=av.mp hx;have VJ:y=l:=ar.mp hy;exact YB p (by rw[en];exact ah _ hp) (by rw[ep,z,VJ])
@[simp]noncomputable def Tn(ks:List Zo)(ZC:List (List D))(k:Zo)(ys:List D):List Zo×List (List D):=match Wi ks k with
 |some p=>(ks,ZC.set p (ZC.getD p []++ys))
 |none=>(ks++[k],ZC++[ys])
def okX(ZC:List (List D))(n:Nat):Prop:=ZC.length<cj/\n<cj/\∀xs∈ZC,xs.length+n<cj
open Classical in
def Te(i:Nat)(fk:FE)(j:Nat)(ext:Bool):FS:=λδ=>match δ[i]? with
 |some (aA (.oX _ _))=>(fk δ).bind λp=>(frz p.1 p.2).bind λq=>(nk? q.1).bind λk=>match q.2[i]?,q.2[j]? with
  |some (aA (.oX ks ZC)),aA (aA (.fz d))=>(if ext=aC then(match d with| .lst ys=>aA ys|_=>aB)else aA [d]).bind λys=>if okX ZC ys.length then aA (.nx (q.2.set i (aA (.oX (Tn ks ZC k ys).1 (Tn ks ZC k ys).2))))else aB
  |_,_=>aB
 |_=>aB
theorem xF(h:Z6 Z (Te i fk j ext) E σ H):Ds (tBM K "list" (if ext=aC then KH K else Gc) (zI (Cd i) (Ze Z fk) (LX Pn)) (M4 (Cd j) Pn)) E σ H:=by
 refine Q1 h λF δ own fl s e k=>?_;unfold Te at e;split at e
 .rename_i ks0 xss0 OY;refine fA e λrv δ1 e1 e=>?_;refine fA e λkd δ2 e2 e=>?_;refine gZ e λkk e3 e=>?_;dsimp only at e2 e3 e;split at e
  .rename_i ks ZC d hi hj;refine gZ e λys e4 e=>?_;split at e
   .rename_i hok;cases e;obtain⟨a,SW,VC,LG,iT,TK,ir,uI,_⟩:=R5 s OY;refine⟨.ref a,TK,a,rfl,⟨_,_,_,uI⟩,F,δ,own,rv,δ1,s,e1,λv H1 F1 own1 sH sF s1 r1=>?_⟩;refine Zn (s1.settleR r1) λF2 ZG s2 r2=>?_;refine Ya (s2.frzR r2 e2) λF3 ZI ZS s3 r3=>?_;rw[FW e3]at r3;obtain⟨b,rfl,hb⟩:=R3 r3;obtain⟨y,hy,JB⟩:=s3.at' j _ hj;have ry:=Ju JB;have hus:∃us,gX K F3 ys us/\(∀{c:ao} {vs:List V} {H4:Hp} {Q:VK},Zj F3 H4->H4 c=aA (.lst vs)->F3 c=aB->vs.length+ys.length<cj->Q .non (Y3 H4 c (.lst (vs++us)))->(if ext=aC then KH K else Gc) (.ref c) [y] H4 Q):=by
     cases ext with
     |false=>
      obtain rfl:[d]=ys:=by simpa using e4
      refine⟨[y],.cons ry .nil,fun{c vs H4 Q} le hc hf hz q=>?_⟩;exact⟨c,vs,y,rfl,rfl,hc,by simpa using(by simp at hz;omega:vs.length<cj),q⟩
     |true=>
      simp only[if_true]at e4;split at e4
      .rename_i zs;cases e4;cases ry with
       | @lst l _ us hl _ ru=>refine⟨us,ru,fun{c vs H4 Q} le hc hf hz q=>?_⟩;exact⟨c,l,vs,us,rfl,rfl,hc,Wr le hl,by rw[<-ru.length];omega,q⟩
      .cases e4
    obtain⟨us,ru,step⟩:=hus;have lu:=ru.length;have sFt:=sF.trans (ZG.trans ZS);refine⟨gd _,λl hl=>?_⟩;have sml:=W1 (o:=HO.lst []) hl;cases hp:Wi ks kk with
    |some p=>
     obtain⟨a',kvs,ep,bs,c,vs,xs,hx,hH,hlen,hv,LD,q1,q2,fc,q3⟩:=tp (s3.grow sml) hi hp;rw[TK]at hx;cases hx;have hxs:=cf q1;have hz:=hok.2.2 xs hxs;refine⟨kvs,ep,bs,kk,b,rfl,hH,hb.mono λ_ _ q=>(s3.grow sml).le _ _ q,by rw[hlen];exact hok.1,.inl ⟨.ref c,hv,.inl ⟨rfl,vs,.inl (.inl LD)⟩,y,hy,?_⟩⟩;refine step (s3.grow sml).le LD fc (by omega) ?_;obtain⟨own',sr⟩:=q3 ys us ru;refine k σ _ F3 own' sFt ?_;have:Tn ks ZC kk ys=(ks,ZC.set p (xs++ys)):=by
      unfold Tn;rw[hp];have:ZC.getD p []=xs:=by rw[bh,q1];rfl
      show(ks,ZC.set p (ZC.getD p []++ys))=_;rw[this]
     rw[this];exact sr
    |none=>
     obtain⟨a',kvs,ep,bs,hx,hH,hlen,hv,q3⟩:=tf s3 hi hp;rw[TK]at hx;cases hx;have uJ:(Y3 H1 l (.lst [])) a=aA (.dN kvs ep bs):=sml _ _ hH;refine⟨kvs,ep,bs,kk,b,rfl,uJ,hb.mono λ_ _ q=>(s3.grow sml).le _ _ q,by rw[hlen];exact hok.1,.inr ⟨hv,λep'=>?_⟩⟩;have IZ:l≠a:=λz=>by rw[z,hH]at hl;cases hl
     have BE:(Y3 (Y3 H1 l (.lst [])) a (.dN (kvs++[(kk,.ref l)]) ep' (bs++[b]))) l=aA (.lst []):=by rw[Zt IZ,Z2]
     have vH:Zj F3 (Y3 (Y3 H1 l (.lst [])) a (.dN (kvs++[(kk,.ref l)]) ep' (bs++[b]))):=λc u ec=>by
      have HW:c≠a:=λz=>by refine Yo (R5 s3 hi) λa2 ZM WH ud JS D_ uU _=>?_;rw[TK]at D_;cases D_;have:=(s3.ok i (a,.dN ZM WH ud) (by rw[uU];exact ac)).1;rw[z,this]at ec;cases ec
      rw[Zt HW];exact(s3.grow sml).le _ _ ec
     refine⟨.inl ⟨rfl,[],.inl (.inl BE)⟩,y,hy,?_⟩;refine step (vs:=[]) vH BE (s3.le.free hl) (by have h1:=hok.2.1;simpa using h1) ?_;obtain⟨own',sr⟩:=q3 l b ys us ep' hl hb ru;refine k σ _ F3 own' sFt ?_;have:Tn ks ZC kk ys=(ks++[kk],ZC++[ys]):=by unfold Tn;rw[hp]
     rw[this];exact sr
   .cases e
  .cases e
 .cases e
end
section
variable{X:Cx}{Z:fB X.K}{pos:Pos}
theorem xD:PE X (.Dict [] [] pos) (Ze Z Kt):=lO.imp λ_ _ _ h=>nC h
theorem nB(i j){y:Str}{px py p2 ap1 cp1 ZJ ZA}(hu:X.A.units+64<ft)(hk:PE X k (Ze Z fk))(hN:‹X.N[i]? =aA x›)(hv:‹V7 X.env.scope x›)(hd:‹(x==("__debug__":Str))=aD›)(ZT:‹(x==("__classdict__":Str))=aD›)(GD:‹X.N[j]? =aA y›)(YQ:‹V7 X.env.scope y›)(XG:‹(y==("__debug__":Str))=aD›)(RO:‹(y==("__classdict__":Str))=aD›)(m:‹M2 X (.Name x px) "setdefault" ap1 k (.List [] p2) cp1›)(ZR:‹attributeBase (.Call (.Attribute (.Name x px) "setdefault" ap1) [k,.List [] p2] [] cp1) "append" X.env (ig (.Call (.Attribute (.Name x px) "setdefault" ap1) [k,.List [] p2] [] cp1) X.env)=ig (.Call (.Attribute (.Name x px) "setdefault" ap1) [k,.List [] p2] [] cp1) X.env›)(YZ:‹((gu ZA (ba [.Name y py] X.env)).all (λx=>!x.1)&&(backToKw ZA (keywordEach [] X.env)).all (λx=>x.1.isSome)&&decide ([Expr.Name y py].length+([]:List Keyword).length+(if([]:List Keyword).isEmpty then 0 else 1)<30))=aC›)(ZQ:‹(ZJ.endLine==ZA.line)=aC›)(hs:‹ba [.Name y py] X.env=(aD,ig (.Name y py) X.env)::ba [] X.env›)(ZF:‹(gu ZA (ba [] X.env)).any (·.1)=aD›)(WW:‹swapsWith (.Call (.Attribute (.Call (.Attribute (.Name x px) "setdefault" ap1) [k,.List [] p2] [] cp1) "append" ZJ) [.Name y py] [] ZA) aB pos.line X.env=pure aD›):
  PS X (.Expr (.Call (.Attribute (.Call (.Attribute (.Name x px) "setdefault" ap1) [k,.List [] p2] [] cp1) "append" ZJ) [.Name y py] [] ZA) pos) (Z6 Z (Te i fk j aD)):=
 (Tq (D2 PySem.F.plainAttrs_list PySem.F.slot_list_append PySem.F.type_list_append Me (xm (by omega) (U0 (i:=i) hN hv hd ZT) hk (Ln Oy) m) (Q3 (U0 (i:=j) GD YQ XG RO) Oy hs) ZR YZ ZQ hs ZF) WW).imp λ_ _ _ h=>xF (ext:=aD) h
theorem nA(i j){y:Str}{px py p2 ap1 cp1 ZJ ZA}(hu:X.A.units+64<ft)(hk:PE X k (Ze Z fk))(hN:‹X.N[i]? =aA x›)(hv:‹V7 X.env.scope x›)(hd:‹(x==("__debug__":Str))=aD›)(ZT:‹(x==("__classdict__":Str))=aD›)(GD:‹X.N[j]? =aA y›)(YQ:‹V7 X.env.scope y›)(XG:‹(y==("__debug__":Str))=aD›)(RO:‹(y==("__classdict__":Str))=aD›)(m:‹M2 X (.Name x px) "setdefault" ap1 k (.List [] p2) cp1›)(ZR:‹attributeBase (.Call (.Attribute (.Name x px) "setdefault" ap1) [k,.List [] p2] [] cp1) "extend" X.env (ig (.Call (.Attribute (.Name x px) "setdefault" ap1) [k,.List [] p2] [] cp1) X.env)=ig (.Call (.Attribute (.Name x px) "setdefault" ap1) [k,.List [] p2] [] cp1) X.env›)(YZ:‹((gu ZA (ba [.Name y py] X.env)).all (λx=>!x.1)&&(backToKw ZA (keywordEach [] X.env)).all (λx=>x.1.isSome)&&decide ([Expr.Name y py].length+([]:List Keyword).length+(if([]:List Keyword).isEmpty then 0 else 1)<30))=aC›)(ZQ:‹(ZJ.endLine==ZA.line)=aC›)(hs:‹ba [.Name y py] X.env=(aD,ig (.Name y py) X.env)::ba [] X.env›)(ZF:‹(gu ZA (ba [] X.env)).any (·.1)=aD›)(WW:‹swapsWith (.Call (.Attribute (.Call (.Attribute (.Name x px) "setdefault" ap1) [k,.List [] p2] [] cp1) "extend" ZJ) [.Name y py] [] ZA) aB pos.line X.env=pure aD›):
  PS X (.Expr (.Call (.Attribute (.Call (.Attribute (.Name x px) "setdefault" ap1) [k,.List [] p2] [] cp1) "extend" ZJ) [.Name y py] [] ZA) pos) (Z6 Z (Te i fk j aC)):=
 (Tq (D2 PySem.F.plainAttrs_list PySem.F.slot_list_extend PySem.F.type_list_extend xH (xm (by omega) (U0 (i:=i) hN hv hd ZT) hk (Ln Oy) m) (Q3 (U0 (i:=j) GD YQ XG RO) Oy hs) ZR YZ ZQ hs ZF) WW).imp λ_ _ _ h=>xF (ext:=aC) h
end
end
section
open PySem.Calls
def tZ:V->V->Hp->VK->Prop:=λx y H Q=>∃a b kvs ep bs k v,x= .ref a/\y= .ref b/\H a=aA (.dN kvs ep bs)/\Jg H k b/\Qz kvs k=aA v/\Q v H
noncomputable def Itn(a:ao)(n ep:Nat):It:=
 ⟨λi H=>∃kvs bs,H a=aA (.dN kvs ep bs)/\kvs.length=n/\i<n,λi H x H'=>H'=H/\∃kvs bs b,H a=aA (.dN kvs ep bs)/\bs[i]? =aA b/\x= .ref b,λi H=>∃kvs bs,H a=aA (.dN kvs ep bs)/\kvs.length=n/\n<=i⟩
theorem o_{P:b8}{w:dq}{K:af}{tg:c9}(a it:ao)(n ep:Nat):Turn P w K tg (Itn a n ep) [it] it (λi h=>h.IsKeyIter it a i n ep)where
 mem:=ac
 obj:=(Bz (P:=P) (w:=w) (K:=K) (tg:=tg) a it n ep).obj
 keep:=(Bz (P:=P) (w:=w) (K:=K) (tg:=tg) a it n ep).keep
 item:=by
  intro X hP hw hK hc i gR s σ H E I hf st hg;subst hP hw hK;refine Ya hg λkvs bs hq hn hi=>?_;obtain⟨z,hd,xs,ZH,od,es,g,x,c,en,nd,VX⟩:=(show Ym X.prog X.w H s.heap a (.dN kvs ep bs)from I.hok a _ hq)
  refine W0 (hf it ac) λf0 f1 f2 f3 f4 f5=>?_;have TU:kvs[i]? =aA (kvs[i]'(by omega)):=au (by omega);obtain⟨vv,hv,hr⟩:=Ux ZH TU;have hz:es.size=n:=by rw[<-bf,en,aj,<-Paired.length ZH,hn]
  have he:es[i]? =aA (entryOfKey (Fc X.prog X.w) vv):=by rw[<-de,en,ay,hv];rfl
  refine Ea st g c hz he λh' YC sb=>?_;have I1:gY X gR σ H {s with heap:=h'}:=I.turned (t':=s.toks) (λb o hb e=>(sb.2 b hb).trans e) f0 f1 f3 f4 f5;refine Zn (id YC) λo e1 c1 d1=>?_;exact⟨.ref vv.2.1,rfl,T9 (s:={s with heap:=h'}) e1 c1 d1 (by decide) ⟨.ref vv.2.1,H,I1,rfl,⟨rfl,kvs,bs,vv.2.1,hq,by rw[<-VX,ay,hv];rfl,rfl⟩,YC,λb hb=>(hf b hb).1⟩⟩
 done:=by
  intro X hP hw hK hc i gR s σ H E I hf st hg;subst hP hw hK;refine Ya hg λkvs bs hq hn hi=>?_;obtain⟨z,hd,xs,ZH,od,es,g,x,c,en,nd,VX⟩:=(show Ym X.prog X.w H s.heap a (.dN kvs ep bs)from I.hok a _ hq)
  refine W0 (hf it ac) λf0 f1 f2 f3 f4 f5=>?_;have hz:es.size=n:=by rw[<-bf,en,aj,<-Paired.length ZH,hn]
  exact Eb (I.ok.hd hc) st g c hz hi λh' eb=>⟨rfl,I.turned (t':=s.toks) (λb o hb e=>eb b o hb e) f0 f1 f3 f4 f5⟩
 self:=(Bz (P:=P) (w:=w) (K:=K) (tg:=tg) a it n ep).self
def zG(tl:TE):TI:=λσ H R=>tl σ H λx H1=>∃a kvs ep bs,x= .ref a/\H1 a=aA (.dN kvs ep bs)/\R (Itn a kvs.length ep) H1
theorem o9(hl:PE X l tl):PI X tg l (zG tl):=by
 intro gR s σ H R I h;refine Wu (hl gR s σ H _ I h) λv s1 ZE=>?_;obtain⟨x,H1,I1,r1,q1⟩:=ZE;obtain⟨a,kvs,ep,bs,rfl,hq,q⟩:=q1;cases r1;obtain⟨z,hd,xs,ZH,od,es,g,x,c,en,nd,VX⟩:=(show Ym X.prog X.w H1 s1.heap a (.dN kvs ep bs)from I1.hok a _ hq)
 have hz:es.size=kvs.length:=by rw[<-bf,en,aj,<-Paired.length ZH]
 refine A8 hd g x c ⟨s1.heap.objs.size,[s1.heap.objs.size],_,_,H1,rfl,I1.kept (t':=s1.toks) λb o e=>aq _ e,o_ a _ kvs.length ep,⟨_,bo _ rfl,rfl,by rw[hz];rfl⟩,λb hb=>?_,q⟩;obtain rfl:=ar.mp hb;exact I1.fpOk (bc _) (I1.hok.fresh (bc _))
end
section
variable{K:af}
theorem jO(h:F a=aA (.dN kvs ep bs))(kb:KN F kvs bs):Oz K (Itn a kvs.length ep) F ((kvs.map (·.1)).map Zw):=λF' H sF sH i=>by have q:H a=aA (.dN kvs ep bs):=sH _ _ (sF _ _ h);refine⟨λd hd=>?_,λhl=>⟨kvs,bs,q,rfl,by simpa using hl⟩⟩;rw[cp,ay]at hd;obtain⟨kv,h1,h2⟩:=cz.mp hd;refine⟨⟨kvs,bs,q,rfl,(az.mp h1).1⟩,λx H' ⟨e1,kvs',bs',b,e2,e3,e4⟩=>?_⟩;subst e1;rw[q]at e2;cases e2;subst e4;obtain⟨b',g1,g2⟩:=Ux (kb.mono sF) h1;rw[e3]at g1;cases g1;rw[<-h2];exact⟨Zj.refl _,[],c6,λ_ h=>(nomatch h),Cv g2⟩
theorem Yh.dX(le:Zj F H)(h:Yh K F H (.dX ks ds) v):∃a kvs ep bs,v= .ref a/\H a=aA (.dN kvs ep bs)/\kvs.map (·.1)=ks/\gX K F ds (kvs.map (·.2)):=by
 obtain⟨sv,ns,e,n,sh,hp⟩:=h;cases sh with
 |fz r=>cases e;cases r with|dX h kb e r=>exact⟨_,_,_,_,rfl,le _ _ h,e,r⟩
 |ol r=>cases e
 |oK e' r=>cases e
 |oT kb e' r=>cases e
 |oN e' r=>cases n
 |oR e' r=>cases n
 |oX kb' e' r=>cases n
 |oD r=>cases n
 |oM kb' e' r=>cases n
 |oL _ r=>cases n
 |oQ e' r=>cases e
theorem Yh.nk(le:Zj F H)(e0:nk? d=aA k)(h:Yh K F H d v):∃b,v= .ref b/\Jg H k b:=by
 rw[FW e0]at h;refine Ol h λsv ns e n sh hp=>?_;have nt:∀{xs:List D},Zw k≠.lst xs:=fun{xs} z=>by cases k<;> cases z
 have nd:∀{ks:List Key} {xs:List D},Zw k≠.dK ks xs:=fun{ks xs} z=>by cases k<;> cases z
 have w_:∀{ks:List (List Key)} {xs:List D},Zw k≠.dT ks xs:=fun{ks xs} z=>by cases k<;> cases z
 cases sh with
 |fz r=>have e:_=Zw k:=e;simp only[SV.toD]at e;subst e;obtain⟨b,rfl,hb⟩:=R3 r;exact⟨b,rfl,hb.mono λ_ _ q=>le _ _ q⟩
 |ol r=>exact eF e.symm nt
 |oK e' r=>exact eF e.symm nd
 |oT kb e' r=>exact eF e.symm w_
 |oN e' r=>cases n
 |oR e' r=>cases n
 |oX kb' e' r=>cases n
 |oD r=>cases n
 |oM kb' e' r=>cases n
 |oL _ r=>cases n
 |oQ e' r=>exact eF e.symm nd
section
variable{Z:fB K}
@[simp]def FU(fe:FE):FD:=λδ=>(fe δ).bind λp=>(frz p.1 p.2).bind λq=>match q.1 with
 | .dX ks _=>aA (ks.map Zw,q.2)
 |_=>aB
theorem o8(h:Qc Z (FU fe) σ H R):zG (Ze Z fe) σ H R:=by
 refine Yo h λF δ own ds δ' s e k=>?_;refine fA e λrv δ1 e1 e2=>?_;refine fA e2 λd δ2 e3 e4=>?_;refine⟨F,δ,own,rv,δ1,s,e1,λv H1 F1 own1 sH sF s1 r1=>?_⟩;refine Zn (s1.settleR r1) λF2 ZG s2 r2=>?_;refine Ya (s2.frzR r2 e3) λF3 ZI ZS s3 r3=>?_;dsimp only at e4;split at e4
 .cases e4;cases r3 with
  |dX h kb e r=>subst e;exact⟨_,_,_,_,rfl,s3.le _ _ h,k _ H1 F3 ZI sH (sF.trans (ZG.trans ZS)) s3 (jO h kb)⟩
 .cases e4
@[simp]def NT(d1 d2:D):Option SV:=match d1 with
 | .dX ks vs=>(nk? d2).bind λk=>(look ks vs k).bind λd=>aA (.fz d)
 |_=>aB
theorem tY:Yz Z tZ NT:=by
 intro F H σ δ own x y d1 d2 sv Q s r1 r2 e k;unfold NT at e;split at e
 .rename_i ks vs;refine gZ e λkk e1 e2=>?_;refine gZ e2 λd e3 e4=>?_;cases e4;obtain⟨a,kvs,ep,bs,rfl,ha,rfl,rr⟩:=r1.dX s.le;obtain⟨b,rfl,hb⟩:=r2.nk s.le e1;have z:=Tt kk kvs _ rr;rw[e3]at z;obtain⟨v,z1,z2⟩:=z;exact⟨a,b,kvs,ep,bs,kk,v,rfl,rfl,ha,hb,z1,k.fz s z2⟩
 .cases e
@[simp]def Va(i:Nat)(fe:FE):FS:=λδ=>match δ[i]? with
 |some (aA (.ol _))=>(fe δ).bind λp=>(frz p.1 p.2).bind λq=>match q.1,q.2[i]? with
  | .lst ys,aA (aA (.ol xs))=>if xs.length+ys.length<=cj then aA (.nx (q.2.set i (aA (.ol (xs++ys)))))else aB
  |_,_=>aB
 |_=>aB
theorem qR(h:Z6 Z (Va i fe) E σ H):Ds (tBM K "list" (KH K) (Cd i) (M4 (Ze Z fe) Pn)) E σ H:=by
 refine Q1 h λF δ own fl s e k=>?_;unfold Va at e;split at e
 .rename_i xs0 TK;refine fA e λrv δ1 e1 e2=>?_;refine fA e2 λd δ2 e3 e4=>?_;obtain⟨v,hv,sh⟩:=s.at' i _ TK;refine Ya (U5 sh) λa UW ev en r0=>?_;refine⟨v,hv,?_,F,δ,own,rv,δ1,s,e1,λy H1 F1 own1 sH sF s1 r1=>?_⟩
  .subst ev;exact .inl ⟨rfl,UW,.inl (.inl (s.ok i (a,.lst UW) (by rw[en];exact ac)).2.2)⟩
  refine Zn (s1.settleR r1) λF2 ZG s2 r2=>?_;refine Ya (s2.frzR r2 e3) λF3 ZI ZS s3 r3=>?_;dsimp only at e4;split at e4
  .rename_i ys xs hx;by_cases hz:xs.length+ys.length<=cj
   .rw[f_ hz]at e4;cases e4;obtain⟨v',YQ,UH⟩:=s3.at' i _ hx;rw[hv]at YQ;cases YQ;refine Ya (U5 UH) λb vs eb RU r'=>?_;have mb:(b,HO.lst vs)∈ZI i:=by rw[RU];exact ac
    subst eb;cases r3 with
    | @lst l _ us hl _ ru=>refine⟨b,l,vs,us,rfl,rfl,(s3.ok i _ mb).2.2,Wr s3.le hl,by rw[<-r'.length,<-ru.length];exact hz,?_⟩;exact k σ _ F3 _ (sF.trans (ZG.trans ZS)) (s3.change (sv':=.ol (xs++ys)) (o':=.lst (vs++us)) (ns':=[(b,.lst (vs++us))]) hx hv mb (.ol (r'.append ru)) (λp hp=>.inl (ar.mp hp)) Fp)
   .rw[fZ hz]at e4;cases e4
  .cases e4
 .cases e
@[simp]def N6(j ia il:Nat):FS:=λδ=>match δ[ia]?,δ[il]? with
 |some (aA (.fz (.lst hs))),aA (aA (.ol xs))=>(xs[xs.length- 1]?).bind λd=>(ixD (.lst hs) d).bind λsv=>(stow j (.tmp sv) (δ.set il (aA (.ol xs.dropLast)))).bind λδ'=>aA (.nx δ')
 |_,_=>aB
theorem gX.dropLast(r:gX K F ds vs):gX K F ds.dropLast vs.dropLast:=by rw[List.dropLast_eq_take,List.dropLast_eq_take,<-r.length];exact r.take _
theorem o7(h:Z6 Z (N6 j ia il) E σ H):Iq (tOp (rIx K) (Cd ia) (AG K "list" AF (Cd il))) (U1 j) E σ H:=by
 refine Q1 h λF δ own fl s e k=>?_;unfold N6 at e;split at e
 .rename_i hs xs VR XM;refine gZ e λd e1 e=>?_;refine gZ e λsv e2 e=>?_;refine gZ e λδ2 e3 e=>?_;cases e;obtain⟨x,hx,wU⟩:=s.at' ia _ VR;have rx:=Ju wU;obtain⟨y,hy,JB⟩:=s.at' il _ XM;refine Ya (U5 JB) λa vs ea en ra=>?_;subst ea;have mb:(a,HO.lst vs)∈own il:=by rw[en];exact ac
  have hHa:=(s.ok il _ mb).2.2;obtain⟨v,hv,rv⟩:=ra.get e1;have hl:=ra.length;refine⟨x,hx,.ref a,hy,.inl ⟨rfl,vs,.inl (.inl hHa)⟩,a,vs,v,rfl,rfl,hHa,by rw[<-hl];exact hv,?_⟩;have s2:=s.change (sv':=.ol xs.dropLast) (o':=.lst vs.dropLast) (ns':=[(a,.lst vs.dropLast)]) XM hy mb (.ol ra.dropLast) (λp hp=>.inl (ar.mp hp)) Fp;refine AL F _ σ _ _ x v (.lst hs) d sv _ s2 (Yh.of rx) (Yh.of rv) e2 λw H3 F3 ns sH sF s3 t3=>?_;refine Wq (s3.stow (rv:=.tmp sv) (v:=w) ⟨ns,t3⟩ e3) λF4 ZU YO s4=>?_;exact k _ H3 F4 ZU (sF.trans YO) s4
 .cases e
@[simp]def KG(j:Nat)(f1:FE):FE:=λδ=>match δ[j]? with
 |some (aA (.fz kd))=>kd.key?.bind λk=>(Zg f1 Zr δ).bind λp=>match p.1 with
  | [v1]=>aA (.tmp (.oK [k] [v1]),p.2)
  |_=>aB
 |_=>aB
theorem o6(h:Ze Z (KG j f1) σ H Q):yM [(Cd j,Ze Z f1)] σ H Q:=by
 refine Yo h λF δ own rv δ' s e k=>?_;unfold KG at e;split at e
 .rename_i kd hx;refine gZ e λkk e0 e=>?_;refine fA e λds δ1 e1 e2=>?_;dsimp only at e2;split at e2
  .rename_i v1;cases e2;obtain⟨v,hv,sh⟩:=s.at' j _ hx;have r:=Ju sh;have ev:v=kV kk:=xh e0 r;have hd:Wz Z (Zg f1 Zr) σ H (λvs H'=>∃kvs:List (Key×V),([kV kk].zip vs)=kvs.map (λkv=>(kV kv.1,kv.2))/\kvs.length<=15/\∀p ep,H' p=aB->Q (.ref p) (Y3 H' p (.dK (Bt [] kvs) ep))):=by
    refine⟨F,δ,own,[v1],_,s,e1,λvs H1 F1 own1 sH sF s1 r1=>?_⟩;obtain⟨w1,rfl⟩:∃w1,vs=[w1]:=by
     cases r1 with
     |cons h t=>cases t;exact⟨_,rfl⟩
    refine⟨[(kk,w1)],rfl,by show 1<=15;decide,λp ep hp=>?_⟩;have nd:((([]:List (Key×V))++[(kk,w1)]).map (·.1)).Nodup:=by simp
    rw[Kc _ [] nd,gq];exact Fin.one (λw H' F' ns a b c t=>k w H' F' own1 (sH.trans a) (sF.trans b) c ⟨ns,t⟩) s1 (.oK rfl r1) hp
   have h2:=Ak (fe:=f1) (fd:=Zr) hd;refine⟨v,hv,?_⟩;rw[ev];refine Ha (λu H1 q=>?_) h2;have z:=Fs q;exact z
  .cases e2
 .cases e
end
section
variable{X:Cx}{Z:fB X.K}{a b c:c9}{fa fb fc:FE}{pos:Pos}
theorem qQ(ha:PE X a (Ze Z fa)):PI X tg a (Qc Z (FU fa)):=λgR s σ H R I h=>o9 ha gR s σ H R I (o8 h)
theorem zE(hu:X.A.units+64<ft)(ha:PE X a (Ze Z fa))(hb:PE X b (Ze Z fb))(hs:‹Tr b›):PE X (.Subscript a b pos) (Ze Z (Zk NT fa fb)):=λgR s σ H Q I h=>nG (by omega) ha hb hs gR s σ H Q I (Fq tY h)
theorem yD(i){px ZJ ZA}(hb:PE X b (Ze Z fb))(hN:‹X.N[i]? =aA x›)(hv:‹V7 X.env.scope x›)(hd:‹(x==("__debug__":Str))=aD›)(ZT:‹(x==("__classdict__":Str))=aD›)(ZR:‹attributeBase (.Name x px) "extend" X.env (ig (.Name x px) X.env)=ig (.Name x px) X.env›)(YZ:‹((gu ZA (ba [b] X.env)).all (λx=>!x.1)&&(backToKw ZA (keywordEach [] X.env)).all (λx=>x.1.isSome)&&decide ([b].length+([]:List Keyword).length+(if([]:List Keyword).isEmpty then 0 else 1)<30))=aC›)(ZQ:‹(ZJ.endLine==ZA.line)=aC›)(hs:‹ba [b] X.env=(aD,ig b X.env)::ba [] X.env›)(ZF:‹(gu ZA (ba [] X.env)).any (·.1)=aD›)(WW:‹swapsWith (.Call (.Attribute (.Name x px) "extend" ZJ) [b] [] ZA) aB pos.line X.env=pure aD›):
  PS X (.Expr (.Call (.Attribute (.Name x px) "extend" ZJ) [b] [] ZA) pos) (Z6 Z (Va i fb)):=
 (Tq (D2 PySem.F.plainAttrs_list PySem.F.slot_list_extend PySem.F.type_list_extend xH (U0 (i:=i) hN hv hd ZT) (Q3 hb Oy hs) ZR YZ ZQ hs ZF) WW).imp λ_ _ _ h=>qR h
theorem o5(j ia il){py pz ZJ ZA p1 p2}(hn:X.N.Nodup)(hy:PE X (.Name y py) (Cd ia))(hz:PE X (.Name z pz) (Cd il))(hj:‹X.N[j]? =aA x›)(hl:‹Loc X.env.scope x›)(ZR:‹attributeBase (.Name z pz) "pop" X.env (ig (.Name z pz) X.env)=ig (.Name z pz) X.env›)(ZQ:‹(ZJ.endLine==ZA.line)=aC›)(hs:‹swapsWith (.Subscript (.Name y py) (.Call (.Attribute (.Name z pz) "pop" ZJ) [] [] ZA) p2) (aA (.Name x p1)) pos.line X.env=pure aD›)(hf:‹X.fn x=aC\/X.env.scope.names.lookup x=aA .local›):
  PS X (.Assign [.Name x p1] (.Subscript (.Name y py) (.Call (.Attribute (.Name z pz) "pop" ZJ) [] [] ZA) p2) pos) (Z6 Z (N6 j ia il)):=
 (Xa hn hj hl (D0 Xf hy (pQ PySem.F.plainAttrs_list PySem.F.slot_list_pop PySem.F.type_list_pop pP hz ZR ZQ) (by intro _ _;rfl)) hs hf).imp λ_ _ _ h=>o7 h
theorem o4(j){p2}(hb:PE X b (Ze Z fb))(hN:‹X.N[j]? =aA x›)(hv:‹V7 X.env.scope x›)(hd:‹(x==("__debug__":Str))=aD›)(ZT:‹(x==("__classdict__":Str))=aD›):PE X (.Dict [aA (.Name x p2)] [b] pos) (Ze Z (KG j fb)):=
 (l6 (kf (U0 (i:=j) hN hv hd ZT) hb mJ) (by rfl) (by rfl) (by simp) (by show 1<=15;decide)).imp λ_ _ _ h=>o6 h
end
end
section
open PySem.Calls
end
section
open PySem.Calls
end
section
variable{K:af}
abbrev NTs(H:Hp)(bs:List ao)(ks:List Zo):Prop:=Paired (λ(b:ao) (k:Zo)=>Jg H k b) bs ks
open Classical in
def Ht(H:Hp)(k:Zo):ag->Bool:=λw=>decide (∃b,w= .ref b/\Jg H k b)
theorem xC(h:(Gq a).map kV=(Gq b).map kV):a=b:=by
 have e:∀l:List Str,(Gq l).map kV=l.map V.str:=λl=>by unfold Gq;rw[cp];rfl
 rw[e,e]at h;exact Ss h
theorem lj(h:Jg H k b)(h':Jg H k' b):k=k':=by
 cases k with
 |inl l=>
  cases k' with
  |inl l'=>have e:=HO.tup.inj (dg.inj ((show H b=_ from h).symm.trans h'));rw[xC e]
  |inr p=>
   obtain⟨c,h1,h2⟩:=h';have e:=HO.tup.inj (dg.inj ((show H b=_ from h).symm.trans h1));cases l with
   |nil=>simp[Gq]at e
   |cons x l=>simp[Gq,kV]at e
 |inr p=>
  obtain⟨c,h1,h2⟩:=h;cases k' with
  |inl l'=>
   have e:=HO.tup.inj (dg.inj (h1.symm.trans (show H b=_ from h')));cases l' with
   |nil=>simp[Gq]at e
   |cons x l=>simp[Gq,kV]at e
  |inr p'=>obtain⟨c',QO,W_⟩:=h';have e:=HO.tup.inj (dg.inj (h1.symm.trans QO));simp at e;obtain⟨e1,e2⟩:=e;subst e2;have e3:=HO.tup.inj (dg.inj (h2.symm.trans W_));obtain⟨n,l⟩:=p;obtain⟨n',l'⟩:=p';rw[show n=n' from e1,show l=l' from xC e3]
theorem Vb(h:Jg H k' b):Ht H k (.ref b)=decide (k'=k):=by
 unfold Ht;by_cases e:k'=k
 .subst e;rw[eB rfl];exact @eB _ (Classical.propDecidable _) ⟨b,rfl,h⟩
 .rw[eA e];exact @eA _ (Classical.propDecidable _) λ⟨b',z,q⟩=>by cases z;exact e (lj h q)
theorem Vc:∀{bs:List ao} {ks:List Zo},NTs H bs ks->(bs.map ci).any (Ht H k)=ks.any λx=>decide (x=k)
 |_,_,.nil=>rfl
 |c::bs,x::ks,.cons h t=>by rw[ax,List.any_cons,List.any_cons,Vb h,Vc t]
def BP(K:af)(UJ:Bool):R2:=λx y H Q=>∃b k a bs ks,x= .ref b/\Jg H k b/\y= .ref a/\Be K H a (bs.map V.ref)/\NTs H bs ks/\(∀k'∈ks,W8 48 (Zw k') (Zw k)=aA (decide (k'=k)))/\Q (.bl (if UJ then !(ks.any λx=>decide (x=k))else ks.any λx=>decide (x=k))) H
theorem Vd{σ:L2.St}(I:gY X gR σ H s)(hu:A.units+48<ft)(hb:Jg H k b):∀{bs:List ao} {ks:List Zo},NTs H bs ks->(∀k'∈ks,W8 48 (Zw k') (Zw k)=aA (decide (k'=k)))->∀u∈bs.map ci,SeqAt.EqAt A s u (.ref b) (Ht H k u)
 |_,_,.nil,_,u,hm=>nomatch hm
 |c::bs,x::ks,.cons h t,hq,u,hm=>by
  rw[ax]at hm;rcases bj.mp hm with z|z
  .subst z;rw[Vb h];exact Mh I (Zj.refl H) 48 A (Zw x) (Zw k) _ (.ref c) (.ref b) _ _ hu (Cv h) rfl (Cv hb) rfl (hq x ac)
  .exact Vd I hu hb t (λk' hk=>hq k' (ah _ hk)) u z
theorem qP(hu:X.A.units+64<ft):Bd X (gx .In) (BP X.K aD):=by intro gR s σ H x y v u Q I rx ry h;obtain⟨b,k,a,bs,ks,rfl,hb,rfl,hq,ht,he,q⟩:=h;cases rx;cases ry;refine Zn (I.list hq) λgU r pl hz=>?_;have ei:=D5 r;subst ei;refine SeqAt.in_listAt (Ht H k) pl.isList (λw hw=>Vd I (by have:X.A.in1.units=X.A.units+1:=rfl;omega) hb ht he w (by simpa using hw)) ⟨.bl _,H,I,rfl,?_⟩;rw[show(bs.map ci).toArray.any (Ht H k)=(bs.map ci).any (Ht H k) by simp,Vc ht];exact q
open Classical in
def inN(d1 d2:D):Option SV:=match d2 with
 | .lst xs=>(nk? d1).bind λk=>(nks? xs).bind λks=>if(∀k'∈ks,W8 48 (Zw k') (Zw k)=aA (decide (k'=k)))then aA (.fz (.bl (ks.any λx=>decide (x=k))))else aB
 |_=>aB
theorem qO{ks:List Zo}(h:∀k'∈ks,W8 48 (Zw k') (Zw k)=aA (decide (k'=k))):inN (Zw k) (.lst (ks.map Zw))=aA (.fz (.bl (ks.any λx=>decide (x=k)))):=by unfold inN;dsimp only;rw[Cw];dsimp only[bu];rw[N5];dsimp only[bu];rw[f_ h]
theorem yI:∀{ks:List Zo} {vs:List V},gX K F (ks.map Zw) vs->∃bs,vs=bs.map V.ref/\NTs F bs ks
 | [],_,h=>by cases h;exact⟨[],rfl,.nil⟩
 |k::ks,_,h=>by
  cases h with
  |cons h t=>obtain⟨b,rfl,hb⟩:=R3 h;obtain⟨bs,rfl,VX⟩:=yI t;exact⟨b::bs,rfl,.cons hb VX⟩
theorem tX{Z:fB K}:Yz Z (BP K aD) inN:=by
 intro F H σ δ own x y d1 d2 sv Q s r1 r2 e k;unfold inN at e;split at e
 .refine gZ e λkk e1 e=>?_;refine gZ e λks e2 e=>?_;split at e
  .rename_i hq;cases e;obtain⟨b,rfl,hb⟩:=r1.nk s.le e1;obtain⟨a,us,rfl,hs,ru⟩:=r2.lst s.le;rw[Hr e2]at ru;obtain⟨bs,rfl,tb⟩:=yI ru;exact⟨b,kk,a,bs,ks,rfl,hb,rfl,hs,Paired.mapP tb λ_ _ z=>z.mono λ_ _ w=>s.le _ _ w,hq,k.fz s (.bl _)⟩
  .cases e
 .cases e
end
end L2
namespace RV
end RV
namespace L2
section
open RV
end
section
variable{K:af}{Z:fB K}
section
variable{X:Cx}{Z:fB X.K}{a b c:c9}{fa fb fc:FE}{pos:Pos}
theorem zD(hv:X.A.units+64<ft)(ha:PE X a (Ze Z fa))(hb:PE X b (Ze Z fb))(hm:‹behindInMarks .In b=aD›):PT X (.Compare a [.In] [b] pos) (Ye Z (Yg (Zk inN fa fb))):=Co (qP hv) tX ha hb hm
end
end
section
variable{K:af}
theorem KidD.length:∀{dss:List (List Key×List D)} {ws:List V} {ns:Zs},KidD K F dss ws ns->dss.length=ws.length
 |_,_,_,.nil=>rfl
 |_,_,_,.cons _ t=>by rw[aw,aw,t.length]
theorem KidD.ref:∀{dss:List (List Key×List D)} {ws:List V} {ns:Zs} {p:Nat} {v:V},KidD K F dss ws ns->ws[p]? =aA v->∃b,v= .ref b
 |_,_,_,_,_,.nil,e=>by simp at e
 |_,_,_,0,_,.cons _ _,e=>⟨_,by simpa using e.symm⟩
 |_,_,_,p+1,_,.cons _ t,e=>t.ref (p:=p) (by simpa using e)
theorem KidD.put:∀{dss:List (List Key×List D)} {ws:List V} {ns:Zs} {p:Nat} {b:ao},KidD K F dss ws ns->ws[p]? =aA (.ref b)->(Cm ns).Nodup->
  ∃kvs ds ep,dss[p]? =aA (kvs.map (·.1),ds)/\(b,HO.dK kvs ep)∈ns/\gX K F ds (kvs.map (·.2))/\∀{kvs':List (Key×V)} {ds':List D} {ep':Nat},gX K F ds' (kvs'.map (·.2))->∃ns',KidD K F (dss.set p (kvs'.map (·.1),ds')) ws ns'/\Cm ns'=Cm ns/\∀q∈ns',q=(b,HO.dK kvs' ep')\/(q∈ns/\q.1≠b)
 |_,_,_,_,_,.nil,e,_=>by simp at e
 |_,_,_,0,b,@KidD.cons _ _ ds dss b' kvs ep ws ns r t,e,nd=>by
  have e':b'=b:=by simpa using e
  subst e';obtain⟨n1,n2⟩:=dy.mp nd;refine⟨kvs,ds,ep,rfl,ac,r,fun{kvs' ds' ep'} hd=>⟨(b',.dK kvs' ep')::ns,.cons hd t,rfl,λq hq=>?_⟩⟩;rcases bj.mp hq with z|z
  .exact .inl z
  .exact .inr ⟨ah _ z,λw=>n1 (av.mpr ⟨q,z,w⟩)⟩
 |_,_,_,p+1,b,@KidD.cons _ _ ds0 dss b' SW VC ws ns r t,e,nd=>by
  obtain⟨n1,n2⟩:=dy.mp nd;obtain⟨kvs,ds,ep,h1,h2,h3,h4⟩:=KidD.put (p:=p) (b:=b) t (by simpa using e) n2;refine⟨kvs,ds,ep,by simpa using h1,ah _ h2,h3,fun{kvs' ds' ep'} hd=>?_⟩;refine Zn (h4 (ep':=ep') hd) λns' k1 k2 k3=>?_;refine⟨(b',.dK SW VC)::ns',by rw[List.set_cons_succ];exact .cons r k1,by show b'::Cm ns'=b'::Cm ns;rw[k2],λq hq=>?_⟩;rcases bj.mp hq with z|z
  .refine .inr ⟨by rw[z];exact ac,λw=>n1 ?_⟩;rw[z]at w;exact av.mpr ⟨_,h2,w.symm⟩
  .rcases k3 q z with w|⟨w,w2⟩
   .exact .inl w
   .exact .inr ⟨ah _ w,w2⟩
theorem li(h:fC K F (.oD dss) v ns):∃a ws ns',v= .ref a/\ns=(a,.lst ws)::ns'/\KidD K F dss ws ns':=by
 cases h with
 |oD r=>exact⟨_,_,_,rfl,rfl,r⟩
section
variable{Z:fB K}
theorem yH(s:SR Z F H σ δ own)(h:δ[i]? =aA (aA (.oD dss))):
  ∃a ws ns,σ[i]? =aA (aA (.ref a))/\own i=(a,HO.lst ws)::ns/\KidD K F dss ws ns/\H a=aA (.lst ws)/\a∉Cm ns/\(Cm ns).Nodup:=by
 obtain⟨v,hv,sh⟩:=s.at' i _ h;obtain⟨a,ws,ns,rfl,en,kd⟩:=li sh;have nd:=s.nod i;rw[en]at nd;obtain⟨q1,q2⟩:=dy.mp nd;exact⟨a,ws,ns,hv,en,kd,(s.ok i (a,.lst ws) (by rw[en];exact ac)).2.2,q1,q2⟩
def Ku(i:Nat)(fi fk fv:FE):FS:=λδ=>(fv δ).bind λq=>(frz q.1 q.2).bind λr=>match r.2[i]? with
 |some (aA (.oD dss0))=>(fi r.2).bind λq2=>(rdv q2.1 q2.2).bind λjd=>match jd with
  | .int j=>(ixN dss0.length j).bind λn=>(fk q2.2).bind λq3=>(rdv q3.1 q3.2).bind λkd=>kd.key?.bind λkk=>match q3.2[i]? with
   |some (aA (.oD dss))=>(dss[n]?).bind λp=>if p.2.length<cj then aA (.nx (q3.2.set i (aA (.oD (dss.set n (Y6 p.1 p.2 kk r.1))))))else aB
   |_=>aB
  |_=>aB
 |_=>aB
theorem lh(h1:fv δ=aA (rv,δ1))(h2:frz rv δ1=aA (d,δ2))(h3:δ2[i]? =aA (aA (.oD dss0)))(h4:fi δ2=aA (ri,δ3))(h5:rdv ri δ3=aA (.int j))(h6:ixN dss0.length j=aA n)(h7:fk δ3=aA (rk,δ4))(h8:rdv rk δ4=aA kd)(h9:kd.key? =aA kk)(WG:δ4[i]? =aA (aA (.oD dss)))(uP:dss[n]? =aA p)(hz:p.2.length<cj):Ku i fi fk fv δ=aA (.nx (δ4.set i (aA (.oD (dss.set n (Y6 p.1 p.2 kk d)))))):=by
 unfold Ku;rw[h1,bu,h2,bu];dsimp only;rw[h3];dsimp only;rw[h4,bu,h5,bu];dsimp only;rw[h6,bu,h7,bu,h8,bu,h9,bu];dsimp only;rw[WG];dsimp only;rw[uP,bu,f_ hz]
theorem qN(h:Z6 Z (Ku i fi fk fv) E σ H):Fm (tOp (FH K) (Cd i) (Ze Z fi)) (Ze Z fk) (Ze Z fv) E σ H:=by
 refine Q1 h λF δ own fl s e k=>?_;unfold Ku at e;refine fA e λrv δ1 e1 e=>?_;refine fA e λd δ2 e2 e=>?_;dsimp only at e2 e;split at e
 .rename_i dss0 OY;refine fA e λri δ3 e3 e=>?_;refine gZ e λjd e4 e=>?_;dsimp only at e4 e;split at e
  .rename_i j;refine gZ e λn e8 e=>?_;refine fA e λrk δ4 e5 e=>?_;refine gZ e λkd e6 e=>?_;refine gZ e λkk e7 e=>?_;dsimp only at e6 e;split at e
   .rename_i dss hi;refine gZ e λp e9 e=>?_;split at e
    .rename_i hz;cases e;refine⟨F,δ,own,rv,δ1,s,e1,λv H1 F1 own1 JD XT s1 r1=>?_⟩;refine Zn (s1.settleR r1) λF2 ZG s2 r2=>?_;refine Ya (s2.frzR r2 e2) λF3 ZI ZS s3 r3=>?_;obtain⟨a,ws,ns,hv,en,DY,hH,q1,q2⟩:=yH s3 OY;have hl:=DY.length;rw[hl]at e8;have hn:n<ws.length:=(Dz e8).2.1;obtain⟨b,hb⟩:=DY.ref (au hn);have D':ws[n]? =aA (.ref b):=by rw[au hn,hb]
     refine⟨.ref a,hv,F3,δ2,ZI,ri,δ3,s3,e3,λy H4 F4 ZU R_ YO s4 r4=>?_⟩;refine Zn (s4.settleR r4) λF5 TB s5 r5=>?_;obtain rfl:=(s5.rd r5 e4).int;have hH4:=R_ _ _ hH;refine⟨a,ws,j,.ref b,rfl,rfl,.inl (.inl hH4),by unfold atI;rw[e8];exact D',F5,δ3,ZU,rk,δ4,s5,e5,λy2 H6 F6 ZP wV wZ s6 r6=>?_⟩;refine Zn (s6.settleR r6) λF7 MJ s7 r7=>?_;have rk':=s7.rd r7 e6;obtain⟨a7,wE,iS,CB,GK,vK,uH,QA,DK⟩:=yH s7 hi;rw[hv]at CB;cases CB;have:aA (HO.lst wE)=aA (HO.lst ws):=uH.symm.trans (wV _ _ hH4);cases this;obtain⟨kvs,ds,ep,k1,k2,k3,k4⟩:=vK.put D' DK;rw[e9]at k1;cases k1;have DJ:Zj F3 F7:=YO.trans (TB.trans (wZ.trans MJ));have rd:fE K F7 d v:=r3.mono DJ;have z:=Nc (k:=kk) rd kvs ds k3;have vE:(a,HO.lst ws)∈ZP i:=by rw[GK];exact ac
     have DW:(b,HO.dK kvs ep)∈ZP i:=by rw[GK];exact ah _ k2
     have WX:a≠b:=λz=>QA (av.mpr ⟨_,k2,z.symm⟩);refine⟨b,rfl,?_⟩;rw[As e7 rk'];refine Ae.k ⟨_,(s7.ok i _ DW).2.2⟩ (by rw[<-k3.length_map];exact hz) λep'=>?_;refine Zn (k4 (kvs':=Wy kvs kk v) (ds':=(Y6 (kvs.map (·.1)) ds kk d).2) (ep':=ep') z.2) λns' j1 j2 j3=>?_;rw[z.1]at j1;refine k σ _ F7 _ (XT.trans (ZG.trans (ZS.trans DJ))) (s7.change (sv':=.oD (dss.set n (Y6 (kvs.map (·.1)) ds kk d))) (o':=.dK (Wy kvs kk v) ep') (ns':=(a,.lst ws)::ns') hi hv DW (.oD j1) (λq hq=>?_) ?_)
     .rcases bj.mp hq with z|z
      .exact .inr ⟨by rw[z];exact vE,by rw[z];exact WX⟩
      .rcases j3 q z with z|⟨z,z2⟩
       .exact .inl z
       .exact .inr ⟨by rw[GK];exact ah _ z,z2⟩
     .show(a::Cm ns').Nodup;rw[j2];exact dy.mpr ⟨QA,DK⟩
    .cases e
   .cases e
  .cases e
 .cases e
end
section
variable{X:Cx}{Z:fB X.K}{a b c:c9}{fa fb fc:FE}{pos:Pos}
theorem qM(i){px p0 p1}(hu:X.A.units+1<ft)(hc:PE X c (Ze Z fc))(hb:PE X b (Ze Z fb))(YQ:PE X a (Ze Z fa))(hN:‹X.N[i]? =aA x›)(hv:‹V7 X.env.scope x›)(hd:‹(x==("__debug__":Str))=aD›)(ZT:‹(x==("__classdict__":Str))=aD›)(ZF:‹Tr c›)(hs:‹swapsWith a (aA (.Subscript (.Subscript (.Name x px) c p0) b p1)) pos.line X.env=pure aD›):
  PS X (.Assign [.Subscript (.Subscript (.Name x px) c p0) b p1] a pos) (Z6 Z (Ku i fc fb fa)):=(Lw hu (D0 D1 (U0 (i:=i) hN hv hd ZT) hc ZF) hb YQ hs).imp λ_ _ _ h=>qN h
end
end
section
open PySem.Calls
end
@[simp]noncomputable def EC:FE:=λδ=>some (.tmp (.oD [([],[]),([],[])]),δ)
theorem oz{K:af}{Z:fB K}(h:Ze Z EC σ H Q):LX (M4 Lx (M4 Lx Pn)) σ H Q:=by
 refine Yo h λF δ own rv δ' s e k=>?_;cases e;intro b1 h1 b2 h2;refine⟨by show 2<=_;decide,λa ha=>?_⟩;have S1:=W1 (o:=HO.dK [] 0) h1;have S2:=W1 (o:=HO.dK [] 0) h2;have S4:=W1 (o:=HO.lst [.ref b1,.ref b2]) ha;have f2:H b2=aB:=S1.free h2;have f0:H a=aB:=S1.free (S2.free ha);have vB:b2≠b1:=λz=>by rw[z,Z2]at h2;cases h2
 have vC:a≠b2:=λz=>by rw[z,Z2]at ha;cases ha
 have vD:a≠b1:=λz=>by rw[z,S2 b1 _ Z2]at ha;cases ha
 have ST:=S1.trans (S2.trans S4);have nd:(Cm [(a,HO.lst [.ref b1,.ref b2]),(b1,HO.dK [] 0),(b2,HO.dK [] 0)]).Nodup:=by simp[vD,vC,Ne.symm vB]
 have all:∀p∈[(a,HO.lst [.ref b1,.ref b2]),(b1,HO.dK [] 0),(b2,HO.dK [] 0)],H p.1=aB/\(Y3 (Y3 (Y3 H b1 (HO.dK [] 0)) b2 (HO.dK [] 0)) a (HO.lst [.ref b1,.ref b2])) p.1=aA p.2:=λp hp=>by
  simp only[bj,List.not_mem_nil,or_false]at hp;rcases hp with rfl|rfl|rfl
  .exact⟨f0,Z2⟩
  .exact⟨h1,S4 _ _ (S2 _ _ Z2)⟩
  .exact⟨f2,S4 _ _ Z2⟩
 refine k (.ref a) _ F own ST (Zj.refl F) (s.grow ST) ⟨[(a,.lst [.ref b1,.ref b2]),(b1,.dK [] 0),(b2,.dK [] 0)],.oD (.cons (kvs:=[]) .nil (.cons (kvs:=[]) .nil .nil)),nd,λp hp=>?_,λi p q hp hq e=>?_⟩
 .obtain⟨z1,z2⟩:=all p hp;exact⟨s.le.free z1,s.old.free z1,z2⟩
 .have hq':=(s.ok i q hq).2.2;rw[<-e,(all p hp).1]at hq';cases hq'
section
variable{X:Cx}{Z:fB X.K}{a b c:c9}{pos:Pos}
theorem oy(he:‹ba [.Dict [] [] p1,.Dict [] [] p2] X.env=(aD,ig (.Dict [] [] p1) X.env)::ba [.Dict [] [] p2] X.env›)(WQ:‹ba [.Dict [] [] p2] X.env=(aD,ig (.Dict [] [] p2) X.env)::ba [] X.env›):
  PE X (.List [.Dict [] [] p1,.Dict [] [] p2] pos) (Ze Z EC):=(Ln (Q3 Af (Q3 Af Oy WQ) he)).imp λ_ _ _ h=>oz h
theorem ox(i){y:Str}{p p1 p2}(hT:Z.h P=aA (.tab q))(F:FnOk X.prog X.w X.K X.mg X.base Om k f fd ps (L2.V4 P q (Wf X.K n g)))(hr:fJ k X.A)(hm:X.mg x=aA (.ref f))(hk:PySem.W.keepIn X.K (.ref f)=aC)(hb:Rl X.K fd ps [])(hN:X.N.Nodup)(ha:PA X (a::es) (Wz Z fr))(hg:‹Gl X x›)(YA:‹(x==("__debug__":Str))=aD›)(he:‹ba (a::es) X.env=(aD,ig a X.env)::ba es X.env›)(ZF:‹(gu p2 (ba es X.env)).any (·.1)=aD›)(hi:‹X.N[i]? =aA y›)(hx:‹Loc X.env.scope y›)(hs:‹swapsWith (.Call (.Name x p) (a::es) [] p2) (aA (.Name y p1)) pos.line X.env=pure aD›)(hf:‹X.fn y=aC\/X.env.scope.names.lookup y=aA .local›):
  PS X (.Assign [.Name y p1] (.Call (.Name x p) (a::es) [] p2) pos) (Iq (Ac (Wf X.K n g) [] (λ_ _ _=>False) (Wz Z fr)) (U1 i)):=
 (Xa hN hi hx (Lo F hr hg hm hk hb .nil ER ha YA he ZF) hs hf).imp λD σ H h=>by refine Yo h λF δ own rvs δ' s e k=>?_;exact⟨F,δ,own,rvs,δ',s,e,λvs H' F' own' a b c d=>⟨c.old _ _ hT,k vs H' F' own' a b c d⟩⟩
end
abbrev AtF(K:af)(x:Str)(st:Stmt)(f:ao)(fd:FuncData):Prop:=PySem.W.nsIn K mainGlobals x=aA (aA (.ref f))/\Fun K x x st f fd
abbrev AtC(K:af)(c:ao)(x:Str)(st:Stmt)(f:ao)(fd:FuncData):Prop:=PySem.W.nsIn K mainGlobals x=aA (aA (.ref f))/\L2.FunC K x x st f fd c
abbrev Und(K:af)(mg:Str->Option ag):Prop:=∀{x:Str} {v:ag},PySem.W.nsIn K mainGlobals x=aA (aA v)->mg x=aA v
def Sv(P:b8)(w:dq)(K:af)(mg:Str->Option ag)(base:f8)(CX:CXT)(k:Nat)(x:Str)(ps:List Str)(sp:Sp):Prop:=
 ∃f fd,FnOk P w K mg base CX k f fd ps sp/\mg x=aA (.ref f)/\PySem.W.keepIn K (.ref f)=aC/\Rl K fd ps []
structure Sc(x:Str)(st:Stmt)(n:Nat)(N:List Str):Prop where
 S:FnScope N (N.take n) (Yq st)
 B:∀(kV ZX pm:ag) (an:Option ao) (ZN ct:ag) (us:List ag),us.length=(N.take n).length->bindArgs (PySem.W.fnOf x x (Ul st) (Qm st) (Yq st) .none kV ZX pm an ZN ct) ⟨us,[]⟩=pure ((N.take n).zip us)
 n:n=(N.take n).length
abbrev HB(P:b8)(w:dq)(K:af)(mg:Str->Option ag)(base:f8)(N:List Str)(x:Str)(st:Stmt)(f:ao)(k:Nat)(p:Hp->Prop)(f0:FS)(ZN:ag):Prop:=
 ∀{A:c7} {outer:List Env} {s:am} {H F0:Hp} {E:XK},N.Nodup->p H->fJ k (A.deeper (envOfC x (Yq st) s.heap.objs.size f ZN))->(A.deeper (envOfC x (Yq st) s.heap.objs.size f ZN)).units+1<ft->(A.deeper (envOfC x (Yq st) s.heap.objs.size f ZN)).units+64<ft->
  Rj (Po Om P w K mg base N x (Yq st) f ZN A outer s H E).nox (Qm st) (Z6 (ent H F0:fB K) f0)
section
variable{P:b8}{w:dq}{K:af}{mg:Str->Option ag}{base:f8}{x:Str}{st:Stmt}{f:ao}{fd:FuncData}
theorem ok0(a:AtF K x st f fd)(k n N g f0)(hb:∀{ZN:ag},HB P w K mg base N x st f k (λ_=>True) f0 ZN)(S:‹Sc x st n N›)(hg:‹g=Y5 f0 N.length›):FnOk P w K mg base Om (k+1) f fd (N.take n) (Wf K n g):=by
 subst hg;exact a.2.ok S.S (λ_ _ _ _ h=>(Ao h).trans S.n) λZN A outer s H vs Q E hr h=>by obtain⟨F0,h⟩:=Ar (N:=N) (f:=f0) h;exact⟨_,hb S.S.nd trivial hr (EQ hr) hr.units,h⟩
theorem Kv(u:Und K mg)(a:∃f fd,AtF K x st f fd)(k n N g f0)(hb:∀{f:ao} {ZN:ag},HB P w K mg base N x st f k (λ_=>True) f0 ZN)(S:‹Sc x st n N›)(hg:‹g=Y5 f0 N.length›):Sv P w K mg base Om (k+1) x (N.take n) (Wf K n g):=by
 obtain⟨f,fd,a⟩:=a;exact⟨f,fd,ok0 a k n N g f0 hb S hg,u a.1,a.2.kp,a.2.binds S.B⟩
variable{tq:ao}{q:Str}{c:ao}
theorem BO(a:AtF K x st f fd)(k n N g f0)(hb:∀{ZN:ag},HB P w K mg base N x st f k (λH=>H tq=aA (.tab q)) f0 ZN)(S:‹Sc x st n N›)(hg:‹g=Y5 f0 N.length›):FnOk P w K mg base Om (k+1) f fd (N.take n) (L2.V4 tq q (Wf K n g)):=by
 subst hg;exact a.2.ok S.S (λ_ _ _ _ h=>(Ao h.2).trans S.n) λZN A outer s H vs Q E hr h=>by obtain⟨F0,h'⟩:=Ar (N:=N) (f:=f0) h.2;exact⟨_,hb S.S.nd h.1 hr (EQ hr) hr.units,h'⟩
theorem LJ(u:Und K mg)(a:∃f fd,AtF K x st f fd)(k n N g f0)(hb:∀{f:ao} {ZN:ag},HB P w K mg base N x st f k (λH=>H tq=aA (.tab q)) f0 ZN)(S:‹Sc x st n N›)(hg:‹g=Y5 f0 N.length›):Sv P w K mg base Om (k+1) x (N.take n) (L2.V4 tq q (Wf K n g)):=by
 obtain⟨f,fd,a⟩:=a;exact⟨f,fd,BO a k n N g f0 hb S hg,u a.1,a.2.kp,a.2.binds S.B⟩
theorem uo(u:Und K mg)(a:∃f fd,AtC K c x st f fd)(k n N g f0)(hb:∀{f:ao},HB P w K mg base N x st f k (λH=>H tq=aA (.tab q)) f0 (.ref c))(S:‹Sc x st n N›)(hg:‹g=Y5 f0 N.length›):Sv P w K mg base Om (k+1) x (N.take n) (L2.V4 tq q (Wf K n g)):=by
 obtain⟨f,fd,a⟩:=a;refine⟨f,fd,?_,u a.1,a.2.kp,a.2.fn.binds S.B⟩;subst hg;exact a.2.ok S.S (λ_ _ _ _ h=>(Ao h.2).trans S.n) λA outer s H vs Q E hr h=>by obtain⟨F0,h'⟩:=Ar (N:=N) (f:=f0) h.2;exact⟨_,hb S.S.nd h.1 hr (EQ hr) hr.units,h'⟩
theorem ou(F:Fun K x x st f fd)(h:∀kV ZX pm an ZN ct v,bindArgs (PySem.W.fnOf x x (Ul st) (Qm st) (Yq st) .none kV ZX pm an ZN ct) ⟨[v],[]⟩=pure [(p,v)])(s v):BindsTo s fd ⟨[v],[]⟩ [(p,v)]:=by obtain⟨oc,od,kV,ZX,pm,an,ZN,ct,XI,rfl,lk,ZT⟩:=F.ex;exact .of_eq (h kV ZX pm an ZN ct v)
end
section
variable{X:Cx}{Z:fB X.K}{pos:Pos}{p:Pos}
theorem ot(u:Und X.K X.mg)(h:∃t,PySem.W.nsIn X.K mainGlobals x=aA (aA (.str y t)))(hg:‹Gl X x›)(hd:‹(x==("__debug__":Str))=aD›):PE X (.Name x pos) (Ze Z (Zd (.str y))):=let⟨_,h⟩:=h;nz (u h) hg hd
theorem Z7(S:Sv X.prog X.w X.K X.mg X.base Om k x ps (Wf X.K n g))(hr:fJ j X.A)(ha:PA X (a::es) (Ud Z fr))(hj:‹k<=j›)(hg:‹Gl X x›)(YA:‹(x==("__debug__":Str))=aD›)(he:‹ba (a::es) X.env=(aD,ig a X.env)::ba es X.env›)(ZF:‹(gu pos (ba es X.env)).any (·.1)=aD›):
  PE X (.Call (.Name x p) (a::es) [] pos) (Ze Z (Z5 n g fr)):=
 let⟨_,_,a,b,c,d⟩:=S;pF a (hr.mono hj) b c d ha hg YA he ZF
theorem B5(hT:Z.h Q=aA (.tab q))(S:Sv X.prog X.w X.K X.mg X.base Om k x ps (L2.V4 Q q (Wf X.K n g)))(hr:fJ j X.A)(ha:PA X (a::es) (Ud Z fr))(hj:‹k<=j›)(hg:‹Gl X x›)(YA:‹(x==("__debug__":Str))=aD›)(he:‹ba (a::es) X.env=(aD,ig a X.env)::ba es X.env›)(ZF:‹(gu pos (ba es X.env)).any (·.1)=aD›):
  PE X (.Call (.Name x p) (a::es) [] pos) (Ze Z (Z5 n g fr)):=
 let⟨_,_,a,b,c,d⟩:=S;L2.n8 hT a (hr.mono hj) b c d ha hg YA he ZF
theorem lg(i){y}{p1 p2}(hT:Z.h Q=aA (.tab q))(S:Sv X.prog X.w X.K X.mg X.base Om k x ps (L2.V4 Q q (Wf X.K n g)))(hr:fJ j X.A)(hN:X.N.Nodup)(ha:PA X (a::es) (Wz Z fr))(hj:‹k<=j›)(hg:‹Gl X x›)(YA:‹(x==("__debug__":Str))=aD›)(he:‹ba (a::es) X.env=(aD,ig a X.env)::ba es X.env›)(ZF:‹(gu p2 (ba es X.env)).any (·.1)=aD›)(hi:‹X.N[i]? =aA y›)(hx:‹Loc X.env.scope y›)(hs:‹swapsWith (.Call (.Name x p) (a::es) [] p2) (aA (.Name y p1)) pos.line X.env=pure aD›)(hf:‹X.fn y=aC\/X.env.scope.names.lookup y=aA .local›):
  PS X (.Assign [.Name y p1] (.Call (.Name x p) (a::es) [] p2) pos) (Iq (Ac (Wf X.K n g) [] (λ_ _ _=>False) (Wz Z fr)) (U1 i)):=
 let⟨_,_,a,b,c,d⟩:=S;ox i hT a (hr.mono hj) b c d hN ha hg YA he ZF hi hx hs hf
end
section
variable{X:Cx}{Z:fB X.K}{pos:Pos}{src:List BSrc}{k:Nat}
theorem Eu(N')(hi:PI X tg ZD (Qc Z fi))(hg:∀{C:ao} {s₀:am} {H₀:Hp} {ex:List ao} {Y:fB X.K},N'.Nodup->PG (X.block N' scope C s₀ H₀ ex) tg (Op Y g))(ht:∀{C:ao} {s₀:am} {H₀:Hp} {ex:List ao},PTs (X.block N' scope C s₀ H₀ ex) YI (xT X.K tt))(he:∀{C:ao} {s₀:am} {H₀:Hp} {ex:List ao} {Y:fB X.K},PE (X.block N' scope C s₀ H₀ ex) elt (Ze Y te))(hc:‹X.calm=aC›)(S:‹CompScope X N' scope src›)(So:‹SrcOk src k›)(nd:‹N'.Nodup›)(hk:‹k∉g.tch›)(hs:‹∀x,foldedSetIterable ZD X.env x=pure x›):PE X (.ListComp elt [⟨tg,ZD,YI,0⟩] scope pos) (Ze Z (U7 src k fi g tt te)):=
 pD hc S So hk hi (λ_ _ _ _=>xg λ_=>hg nd) (λ_ _ _ _=>ht) (λ_ _ _ _=>xe λ_=>he) hs
theorem Mo(i N'){y}{py spos}(hN:X.N.Nodup)(hi:PI X tg ZD (Qc Z fi))(hg:∀{C:ao} {s₀:am} {H₀:Hp} {ex:List ao} {Y:fB X.K},N'.Nodup->PG (X.block N' scope C s₀ H₀ ex) tg (Op Y g))(ht:∀{C:ao} {s₀:am} {H₀:Hp} {ex:List ao},PTs (X.block N' scope C s₀ H₀ ex) YI (xT X.K tt))(he:∀{C:ao} {s₀:am} {H₀:Hp} {ex:List ao} {Y:fB X.K},PE (X.block N' scope C s₀ H₀ ex) elt (Ze Y te))(hc:‹X.calm=aC›)(S:‹CompScope X N' scope src›)(So:‹SrcOk src k›)(nd:‹N'.Nodup›)(hk:‹k∉g.tch›)(OV:‹X.N[i]? =aA y›)(hx:‹X.env.scope.names.lookup y=aA .local›)(WW:‹swapsWith (.ListComp elt [⟨tg,ZD,YI,0⟩] scope pos) (aA (.Name y py)) spos.line X.env=pure aC›)(hs:‹∀x,foldedSetIterable ZD X.env x=pure x›):PS X (.Assign [.Name y py] (.ListComp elt [⟨tg,ZD,YI,0⟩] scope pos) spos) (Z6 Z (Yv i (U7 src k fi g tt te))):=
 je i hc S So hk hi (λ_ _ _ _=>xg λ_=>hg nd) (λ_ _ _ _=>ht) (λ_ _ _ _=>xe λ_=>he) hN OV hx WW hs
end
theorem qL{K}{ns:List Int}(hn:g [.lst (ns.map D.int)]=aA (.fz (.bl aC)))(hS:Be K H a (ns.map V.int)):Wf K 1 g [.ref a] H (λv H'=>v= .bl aC/\Zj H H') λ_ _ _=>False:=by refine⟨H,[.lst (ns.map D.int)],.fz (.bl aC),Zj.refl H,.cons (.lst hS (.inr λd hd=>let⟨i,_,e⟩:=av.mp hd;⟨i,e.symm⟩) (P9 ns)) .nil,rfl,hn,λv H' F' ms sm _ _ _ sh _ _=>?_⟩;cases Ju sh;exact⟨rfl,sm⟩
abbrev BN(l:PySem.W.OpenLaw)(x:Str)(k:Nat)(g:List D->Option SV)(tq:ao)(qn:Str)(K:af)(w:dq)(mg:Str->Option ag)(fa:ao):Prop:=
 ∃fd:FuncData,(∀(s:am) (u:ag),BindsTo s fd ⟨[u],[]⟩ [(x,u)])/\∀base:f8,K.In base->base.Ns mainGlobals mg->L2.Bj mg base->FnOk l.prog w K mg base Om k fa fd [x] (L2.V4 tq qn (Wf K 1 g))
theorem i_{K:Params->af}(hn:l.most=aA 63)(O_:d.params.defaults=[])(hY:∀w h,YP w h->(K w.params).In h/\h.get? tq=aA (PySem.W.tabObj #[]))(HY:∀p,PySem.W.codeHdIn (K p) c0 tq=aC)(NF:∀p,(K p).lookup tq=aB)(hr:fJ k callerA)(IY:∀ns:List Int,ns.length<=63->g [.lst (ns.map D.int)]=aA (.fz (.bl aC)))(F:∀w mg fa h,(K w.params).In h->h.Ns mainGlobals mg->mg d.name=aA (.ref fa)->BN l x k g tq qn (K w.params) w mg fa):
  PySem.W.WalkO q loose XP YP l.row.toRowW d [] (λf vs=>PySem.call f vs):=
 L2.l9 (n:=63) (CX:=Om) (sp:=λK=>Wf K 1 g) hn (by decide) O_ hr hY HY NF F (λ_ _ _ ns hl hS=>qL (IY ns hl) hS) λ_ _ _ _ z=>z
end L2
namespace My
open L2
theorem Jo(h:n<=16777216):n<=PySem.sizeLine:=h
theorem Yk(h:n<16777216):n<PySem.sizeLine:=h
theorem i3(c):(⟨#[c]⟩:Str).length=1:=rfl
theorem oq(ns:List Int)(lo hi):∃ms:List Int,Ap (ns.map D.int) lo hi=ms.map D.int/\ms.length<=ns.length:=by unfold Ap;refine⟨(ns.drop _).take _,by rw[List.map_take,List.map_drop],?_⟩;rw[List.length_take,List.length_drop];omega
theorem Cy{te:FE}:∀xs ys,(∀x∈xs,∀zs,te [aA (.fz x),c,aA (.ol zs)]=aA (.tmp (.fz (f x)),[aA (.fz x),c,aA (.ol zs)]))->ys.length+xs.length<=16777216->
  Y1 [.own,.cap j,.acc] 2 (Zf 0) U6 te xs [aB,c,aA (.ol ys)]=aA [aB,c,aA (.ol (ys++xs.map f))]
 | [],ys,_,_=>by simp
 |x::xs,ys,h,hl=>by rw[aw]at hl;have ih:=Cy (te:=te) (f:=f) (c:=c) (j:=j) xs (ys++[f x]) (λy hy=>h y (ah _ hy)) (by rw[bg];simp;omega);have e1:=h x ac ys;have h4:ys.length<PySem.sizeLine:=Yk (by omega);simp[e1,h4];simpa using ih
theorem Rb:∀xs,(∀x∈xs,f x x=aA aC)->Oq f xs xs=aA aC
 | [],_=>rfl
 |x::r,h=>by simp[h x ac,Rb r λy hy=>h y (ah _ hy)]
end My
namespace My
open L2 StrLaws Builtin.Str
noncomputable def jl(y:List Nat):List (List Nat)->List Nat
 | []=>[]
 | [p]=>p
 |p::q::r=>p++y++jl y (q::r)
noncomputable def pos(n:Nat):Nat->List (List Nat)->List Nat
 |_,[]=>[]
 |_,[_]=>[]
 |a,p::q::r=>(a+p.length)::pos n (a+p.length+n) (q::r)
end My
namespace My
open L2
theorem Jp(h1:tg.run d δ=aA δ1)(h2:body δ1=aA (.nx δ2)):Yf tg body (d::ds) δ=Yf tg body ds δ2:=by show(tg.run d δ).bind _=_;rw[h1,bu,h2,bu]
theorem xB(h1:tg.run d δ=aA δ1)(h2:body δ1=aA (.rt sv)):Yf tg body (d::ds) δ=aA (.rt sv):=by show(tg.run d δ).bind _=_;rw[h1,bu,h2,bu]
noncomputable abbrev S(l:List Nat):Str:=⟨l.toArray⟩
theorem zC(l):(S l).length=l.length:=by show l.toArray.size=_;simp
theorem tW(a b):S a++S b=S (a++b):=by
 show(⟨a.toArray++b.toArray⟩:Str)=⟨(a++b).toArray⟩
 simp
theorem zB(h:S a=S b):a=b:=by have:a.toArray=b.toArray:=congrArg Str.cps h;simpa using this
theorem BL(x):x=S x.cps.toList:=by cases x;simp
theorem qK(l):(S l).cps.toList=l:=by simp
theorem Ev(p)(i:Nat)(c:α)(h:p[i]? =aA c):L2.atI p (i:Int)=aA c:=by have hl:=(az.mp h).1;unfold L2.atI L2.ixN;rw[f_ (by omega),f_ (by omega)];simpa using h
noncomputable abbrev QR(s n:Nat):List D:=(List.range' s n).map λi:Nat=>D.int (i:Int)
theorem Mp(n):Al 0 n=QR 0 n:=by unfold Al;rw[List.range_eq_range'];refine List.map_congr_left λi _=>?_;simp
theorem Gg{P:Nat->Yp->Prop}:∀n s δ,P s δ->(∀i,s<=i->i<s+n->∀δ,P i δ->∃δ1 δ2,tg.run (.int (i:Int)) δ=aA δ1/\body δ1=aA (.nx δ2)/\P (i+1) δ2)->
  ∃δ',Yf tg body (QR s n) δ=aA (.nx δ')/\P (s+n) δ'
 |0,s,δ,h,_=>⟨δ,rfl,h⟩
 |n+1,s,δ,h,k=>by obtain⟨δ1,δ2,h1,h2,h3⟩:=k s (bc _) (by omega) δ h;obtain⟨δ',e,h'⟩:=Gg (tg:=tg) (body:=body) (P:=P) n (s+1) δ2 h3 λi hi hj=>k i (by omega) (by omega);refine⟨δ',?_,by rw[show s+(n+1)=s+1+n by omega];exact h'⟩;show Yf tg body (.int (s:Int)::QR (s+1) n) δ=_;rw[Jp h1 h2];exact e
theorem xA{st:List D->Yp}:∀ds ys,
  (∀d∈ds,∀zs ds',zs.length<cj->Y1 src k g tt te (d::ds') (st zs)=Y1 src k g tt te ds' (st (zs++(f d).toList)))->ys.length+ds.length<=16777216->
  Y1 src k g tt te ds (st ys)=aA (st (ys++ds.filterMap f))
 | [],ys,_,_=>by simp
 |d::ds,ys,h,hl=>by
  rw[aw]at hl;rw[h d ac ys ds (Yk (by omega))];have hz:(f d).toList.length<=1:=by cases f d<;> simp
  rw[xA ds (ys++(f d).toList) (λx hx=>h x (ah _ hx)) (by rw[bg];omega),ib];congr 3;cases hd:f d with
  |none=>rw[List.filterMap_cons_none hd];rfl
  |some v=>rw[List.filterMap_cons_some hd];rfl
theorem y_(n x):Tu (n+1) (.str x) (.str x)=aA aC:=by simp
theorem qJ(xs)(m:Nat)(h:m<=xs.length):Ap xs aB (aA (m:Int))=xs.take m:=by unfold Ap HT.sIx;dsimp only;rw[fZ (by omega),List.drop_zero];congr 1;omega
end My
namespace My
open L2 StrLaws Builtin.Str
end My
namespace My
open L2
noncomputable abbrev Zy(xs:List Str):List L2.Key:=xs.map dn
theorem Cz(k):∀xs vs,look (Zy xs) vs (dn k)=look xs vs k
 | [],[]=>rfl
 | [],_::_=>rfl
 |_::_,[]=>rfl
 |x::xs,v::vs=>by
  show(if(dn x:L2.Key)=dn k then aA v else look (Zy xs) vs (dn k))=if x=k then aA v else look xs vs k;rw[Cz k xs vs];by_cases h:x=k
  .rw[f_ h,f_ (by rw[h])]
  .rw[fZ h,fZ λe=>h (dn.inj e)]
theorem Jv(k v xs vs):Y6 (Zy xs) vs (dn k) v=(Zy (Y6 xs vs k v).1,(Y6 xs vs k v).2):=by
 have hm:((dn k:L2.Key)∈Zy xs)↔k∈xs:=by
  constructor
  .intro h;obtain⟨y,hy,e⟩:=av.mp h;rw[<-dn.inj e];exact hy
  .exact λh=>av.mpr ⟨k,h,rfl⟩
 unfold Y6;by_cases h:k∈xs
 .rw[f_ h,f_ (hm.mpr h)];congr 1;have:∀(xs:List Str) (vs:List D),((Zy xs).zip vs).map (λp=>if p.1=(dn k:L2.Key)then v else p.2)=(xs.zip vs).map λp=>if p.1=k then v else p.2:=by
   intro xs;induction xs with
   |nil=>intro vs;rfl
   |cons x xs ih=>
    intro vs;cases vs with
    |nil=>rfl
    |cons u vs=>
     show(if(dn x:L2.Key)=dn k then v else u)::((Zy xs).zip vs).map (λp=>if p.1=(dn k:L2.Key)then v else p.2)=(if x=k then v else u)::(xs.zip vs).map λp=>if p.1=k then v else p.2;rw[ih vs];by_cases hx:x=k
     .rw[f_ hx,f_ (by rw[hx])]
     .rw[fZ hx,fZ λe=>hx (dn.inj e)]
  exact this xs vs
 .rw[fZ h,fZ λe=>h (hm.mp e)];simp[Zy]
theorem Jw{xs:List Str}(h:k∉xs):Y6 xs vs k v=(xs++[k],vs++[v]):=by unfold Y6;rw[fZ h]
theorem Ew:∀{vs:List D},xs.Nodup->xs.length=vs.length->∀(i:Nat) (x:Str) v,xs[i]? =aA x->vs[i]? =aA v->look xs vs x=aA v:=by
 induction xs with
 |nil=>intro vs _ _ i x v h;simp at h
 |cons y xs ih=>
  intro vs nd hl i x v hx hv;cases vs with
  |nil=>simp at hv
  |cons u vs=>
   obtain⟨n1,n2⟩:=dy.mp nd;show(if y=x then aA u else look xs vs x)=aA v;cases i with
   |zero=>simp at hx hv;rw[f_ hx,hv]
   |succ i=>simp at hx hv;have hm:=cf hx;rw[fZ λe=>n1 (by rw[e];exact hm)];exact ih n2 (by simpa using hl) i x v hx hv
theorem Ex:∀xs,strK? (Zy xs)=aA xs
 | []=>rfl
 |x::xs=>by show(strK? (Zy xs)).bind (λt=>aA (x::t))=aA (x::xs);rw[Ex xs];rfl
theorem yz(n xs)(h:∀x∈xs,W8 n x x=aA aC):W8 (n+1) (.lst xs) (.lst xs)=aA aC:=by simp[Rb xs h]
theorem om(n xs)(h:∀x∈xs,W8 n x x=aA aC):W8 (n+1) (.tup xs) (.tup xs)=aA aC:=by simp[Rb xs h]
theorem yx(n x):W8 (n+1) (.str x) (.str x)=aA aC:=by simp
abbrev NK:=L2.Zo
noncomputable def tE(s:List Nat):List Nat:=s.map (· +1)++[0]
theorem Kw:∀s t u v,(tE s++u<tE t++v)↔(s<t\/(s=t/\u<v))
 | [],[],u,v=>by show(0::u<0::v)↔_;rw[List.cons_lt_cons_iff];simp
 | [],b::t,u,v=>by show(0::u<(b+1)::(tE t++v))↔_;rw[List.cons_lt_cons_iff];simp
 |a::s,[],u,v=>by show((a+1)::(tE s++u)<0::v)↔_;rw[List.cons_lt_cons_iff];simp
 |a::s,b::t,u,v=>by
  show((a+1)::(tE s++u)<(b+1)::(tE t++v))↔_;rw[List.cons_lt_cons_iff,Kw s t u v,List.cons_lt_cons_iff];constructor
  .rintro(h|⟨h1,h2|⟨h2,h3⟩⟩)
   .exact .inl (.inl (by omega))
   .exact .inl (.inr ⟨by omega,h2⟩)
   .exact .inr ⟨by rw[h2,show a=b by omega],h3⟩
  .rintro((h|⟨h1,h2⟩)|⟨h1,h2⟩)
   .exact .inl (by omega)
   .exact .inr ⟨by omega,.inl h2⟩
   .cases h1;exact .inr ⟨rfl,.inr ⟨rfl,h2⟩⟩
theorem GW:∀s t u v,tE s++u=tE t++v->s=t/\u=v:=by
 intro s;induction s with
 |nil=>intro t u v z;cases t with
  |nil=>exact⟨rfl,by simpa[tE]using z⟩
  |cons b t=>simp[tE]at z
 |cons a s ih=>intro t u v z;cases t with
  |nil=>simp[tE]at z
  |cons b t=>have z:(a+1)::(tE s++u)=(b+1)::(tE t++v):=z;obtain⟨z1,z2⟩:=List.cons.inj z;obtain⟨i1,i2⟩:=ih t u v z2;exact⟨by rw[i1,show a=b by omega],i2⟩
theorem Ey{a:Str}(h:a.cps.toList=b.cps.toList):a=b:=by rw[BL a,BL b,h]
def O7:List Str->List Nat
 | []=>[0]
 |x::l=>1::(tE x.cps.toList++O7 l)
theorem Ez:∀{a b:List Str},O7 a=O7 b->a=b
 | [],[],_=>rfl
 | [],_::_,h=>by simp[O7]at h
 |_::_,[],h=>by simp[O7]at h
 |x::a,y::b,h=>by obtain⟨_,h2⟩:=List.cons.inj h;obtain⟨e1,e2⟩:=GW _ _ _ _ h2;rw[Ey e1,Ez e2]
theorem N7(n x y):W8 (n+1) (.str x) (.str y)=aA (decide (x=y)):=by simp
theorem Hu(n x y):L2.Q5 (n+1) (.str x) (.str y)=aA (decide (x.cps.toList<y.cps.toList)):=rfl
theorem E1(n):∀a b,L2.Rw (W8 (n+1)) (L2.Q5 (n+1)) (a.map D.str) (b.map D.str)=aA (decide (O7 a<O7 b))
 | [],[]=>by show aA aD=_;exact congrArg aA (by decide)
 | [],y::b=>by show aA aC=_;refine congrArg aA (eB ?_).symm;show[0]<1::_;rw[List.cons_lt_cons_iff];exact .inl (by decide)
 |x::a,[]=>by show aA aD=_;refine congrArg aA (eA ?_).symm;show¬(1::_< [0]);rw[List.cons_lt_cons_iff];rintro(h|⟨h,_⟩)<;> omega
 |x::a,y::b=>by
  show(W8 (n+1) (.str x) (.str y)).bind (λc=>if c=aC then L2.Rw (W8 (n+1)) (L2.Q5 (n+1)) (a.map D.str) (b.map D.str)else L2.Q5 (n+1) (.str x) (.str y))=_;rw[N7,E1 n a b,Hu];have e:(O7 (x::a)<O7 (y::b))↔(x.cps.toList<y.cps.toList\/(x.cps.toList=y.cps.toList/\O7 a<O7 b)):=by
   show(1::(tE x.cps.toList++O7 a)<1::(tE y.cps.toList++O7 b))↔_;rw[List.cons_lt_cons_iff,Kw];constructor
   .rintro(h|⟨_,h⟩)
    .omega
    .exact h
   .exact λh=>.inr ⟨rfl,h⟩
  by_cases h:x=y
  .subst h;have i:=gn x.cps.toList;rw[eB rfl];show aA (decide (O7 a<O7 b))=_;refine congrArg aA (decide_eq_decide.mpr ?_);rw[e];exact⟨λz=>.inr ⟨rfl,z⟩,λz=>z.elim (λz=>eF z i) λz=>z.2⟩
  .rw[eA h];show aA (decide (x.cps.toList<y.cps.toList))=_;refine congrArg aA (decide_eq_decide.mpr ?_);rw[e];exact⟨.inl,λz=>z.elim id λz=>eF (Ey z.1) h⟩
theorem E2(n):∀a b:List Str,∃c,Oq (W8 (n+1)) (a.map D.str) (b.map D.str)=aA c/\(c&&decide ((a.map D.str).length=(b.map D.str).length))=decide (a=b)
 | [],[]=>⟨aC,rfl,by simp⟩
 | [],y::b=>⟨aC,rfl,by simp⟩
 |x::a,[]=>⟨aC,rfl,by simp⟩
 |x::a,y::b=>by
  obtain⟨c,e1,e2⟩:=E2 n a b;refine⟨decide (x=y)&&c,?_,?_⟩
  .show(W8 (n+1) (.str x) (.str y)).bind (λb'=>(Oq (W8 (n+1)) (a.map D.str) (b.map D.str)).bind λc'=>aA (b'&&c'))=_;rw[N7,e1];rfl
  .rw[Bool.and_assoc];have:decide (((x::a).map D.str).length=((y::b).map D.str).length)=decide ((a.map D.str).length=(b.map D.str).length):=by simp
   rw[this,e2];by_cases h:x=y
   .by_cases h2:a=b<;> simp[h,h2]
   .simp[h]
theorem Hv(n)(a b:List Str):W8 (n+2) (.tup (a.map D.str)) (.tup (b.map D.str))=aA (decide (a=b)):=by obtain⟨c,e1,e2⟩:=E2 n a b;show(Oq (W8 (n+1)) (a.map D.str) (b.map D.str)).bind (λb'=>aA (b'&&decide ((a.map D.str).length=(b.map D.str).length)))=_;rw[e1];show aA (c&&_)=_;rw[e2]
inductive OneK:NK->NK->Prop where
 |nm (a b:List Str):OneK (.inl a) (.inl b)
 |mk (n m:Nat) (a b:List Str):OneK (.inr ((n:Int),a)) (.inr ((m:Int),b))
def O8:NK->List Nat
 | .inl l=>O7 l
 | .inr (n,l)=>n.toNat::O7 l
theorem E3(h:OneK a b)(e:O8 a=O8 b):a=b:=by
 cases h with
 |nm a b=>rw[Ez e]
 |mk n m a b=>obtain⟨e1,e2⟩:=List.cons.inj e;rw[Ez e2,show n=m by simpa using e1]
theorem KC(n)(h:OneK a b):W8 (n+3) (Zw a) (Zw b)=aA (decide (a=b)):=by
 cases h with
 |nm a b=>show W8 (n+3) (.tup (a.map D.str)) (.tup (b.map D.str))=_;rw[show n+3=n+1+2 from rfl,Hv];exact congrArg aA (decide_eq_decide.mpr ⟨λz=>by rw[z],λz=>Sum.inl.inj z⟩)
 |mk n1 m1 a b=>
  have e:=Hv n a b;show(Oq (W8 (n+2)) [.int (n1:Int),.tup (a.map D.str)] [.int (m1:Int),.tup (b.map D.str)]).bind (λb'=>aA (b'&&decide (2=2)))=_;show((W8 (n+2) (.int (n1:Int)) (.int (m1:Int))).bind λb'=>((W8 (n+2) (.tup (a.map D.str)) (.tup (b.map D.str))).bind λc1=>(aA aC).bind λc2=>aA (c1&&c2)).bind λc'=>aA (b'&&c')).bind (λb'=>aA (b'&&decide (2=2)))=_;rw[e,show W8 (n+2) (.int (n1:Int)) (.int (m1:Int))=aA (decide ((n1:Int)=m1)) by simp];show aA _=_;refine congrArg aA ?_;by_cases h1:n1=m1
  .by_cases h2:a=b
   .subst h1 h2;simp
   .subst h1;have hf:decide ((dn ((n1:Int),a):NK)=dn ((n1:Int),b))=aD:=eA λz=>h2 (Prod.mk.inj (dn.inj z)).2;rw[hf,eA h2];simp
  .have hf:decide ((dn ((n1:Int),a):NK)=dn ((m1:Int),b))=aD:=eA λz=>h1 (by have:=(Prod.mk.inj (dn.inj z)).1;omega);rw[hf,eA (show¬(n1:Int)=m1 by omega)];simp
theorem EB(n)(h:OneK a b):L2.Q5 (n+4) (Zw a) (Zw b)=aA (decide (O8 a<O8 b)):=by
 cases h with
 |nm a b=>exact E1 (n+2) a b
 |mk n1 m1 a b=>
  have e:=Hv (n+1) a b;have e2:=E1 (n+1) a b;show(W8 (n+3) (.int (n1:Int)) (.int (m1:Int))).bind (λc=>if c=aC then(W8 (n+3) (.tup (a.map D.str)) (.tup (b.map D.str))).bind (λc=>if c=aC then aA aD else L2.Q5 (n+3) (.tup (a.map D.str)) (.tup (b.map D.str)))else L2.Q5 (n+3) (.int (n1:Int)) (.int (m1:Int)))=_;rw[e,show W8 (n+3) (.int (n1:Int)) (.int (m1:Int))=aA (decide ((n1:Int)=m1)) by simp];show(if decide ((n1:Int)=m1)=aC then(if decide (a=b)=aC then aA aD else L2.Rw (W8 (n+2)) (L2.Q5 (n+2)) (a.map D.str) (b.map D.str))else aA (decide ((n1:Int)<m1)))=_;rw[e2];have el:(O8 (.inr ((n1:Int),a))<O8 (.inr ((m1:Int),b)))↔(n1<m1\/(n1=m1/\O7 a<O7 b)):=by show((n1:Int).toNat::O7 a<(m1:Int).toNat::O7 b)↔_;rw[List.cons_lt_cons_iff];simp
  by_cases h1:n1=m1
  .rw[f_ (by simp[h1])];by_cases h2:a=b
   .rw[f_ (by simp[h2])];refine congrArg aA (eA ?_).symm;rw[el];subst h1 h2;rintro(z|⟨_,z⟩)
    .omega
    .exact gn _ z
   .rw[fZ (by simp[h2])];refine congrArg aA (decide_eq_decide.mpr ?_);rw[el];exact⟨λz=>.inr ⟨h1,z⟩,λz=>z.elim (λz=>by omega) λz=>z.2⟩
  .rw[fZ (by simp;omega)];refine congrArg aA (decide_eq_decide.mpr ?_);rw[el];exact⟨λz=>.inl (by omega),λz=>z.elim (λz=>by omega) λz=>eF z.1 h1⟩
def C0(ks:List NK):Prop:=(∀k∈ks,∃(x:Str) (l:List Str),k= .inl (x::l))\/∀k∈ks,∃(n:Nat) (l:List Str),k= .inr ((n:Int),l)
theorem C0.one(h:C0 ks)(ha:a∈ks)(hb:b∈ks):OneK a b:=by
 rcases h with h|h
 .obtain⟨x,l,rfl⟩:=h a ha;obtain⟨y,m,rfl⟩:=h b hb;exact .nm _ _
 .obtain⟨x,l,rfl⟩:=h a ha;obtain⟨y,m,rfl⟩:=h b hb;exact .mk _ _ _ _
theorem C0.sub(h:C0 ks)(hs:∀k∈js,k∈ks):C0 js:=h.imp (λh k hk=>h k (hs k hk)) λh k hk=>h k (hs k hk)
def NU(d:D):List Nat:=O8 ((nk? d).getD (.inl []))
theorem Tx(k:NK):NU (Zw k)=O8 k:=by unfold NU;rw[Cw];rfl
theorem jN(h:C0 ks)(nd:ks.Nodup):L2.fH (ks.map Zw):=by
 refine⟨?_,NU,λa ha b hb=>?_,?_⟩
 .rcases h with h|h
  .refine⟨.str,λd hd=>?_⟩;obtain⟨k,hk,rfl⟩:=av.mp hd;obtain⟨x,l,rfl⟩:=h k hk;exact .str _ _
  .refine⟨.int,λd hd=>?_⟩;obtain⟨k,hk,rfl⟩:=av.mp hd;obtain⟨x,l,rfl⟩:=h k hk;exact .int _ _
 .obtain⟨k,hk,rfl⟩:=av.mp ha;obtain⟨l,hl,rfl⟩:=av.mp hb;rw[Tx,Tx];exact EB 12 (h.one hk hl)
 .refine Gf.mpr ?_;rw[cp];refine List.Pairwise.map _ (R:=λa b=>a≠b/\a∈ks/\b∈ks) (λa b ⟨h1,h2,h3⟩ e=>h1 ?_) ?_
  .have e:NU (Zw a)=NU (Zw b):=e;rw[Tx,Tx]at e;exact E3 (h.one h2 h3) e
  .exact(List.Pairwise.and_mem.mp nd).imp fun{a b} z=>⟨z.2.2,z.1,z.2.1⟩
theorem lf{ks:List NK}{k x:NK}:x∈Tl ks k↔x∈ks\/x=k:=by
 unfold Tl;have e:(ks.any λz=>decide (z=k))=aC↔k∈ks:=by rw[List.any_eq_true];exact⟨λ⟨z,hz,e⟩=>by have:z=k:=eC e;rw[<-this];exact hz,λh=>⟨k,h,eB rfl⟩⟩
 split
 .rename_i h;exact⟨.inl,λz=>z.elim id λz=>by rw[z];exact e.mp h⟩
 .rw[bz,ar]
theorem oj{ks:List NK}{k:NK}(h:ks.Nodup):(Tl ks k).Nodup:=by
 unfold Tl;split
 .exact h
 .rename_i hn;refine dh.mpr ⟨h,by simp,λa ha b hb z=>hn ?_⟩;rw[ar.mp hb]at z;rw[List.any_eq_true];exact⟨a,ha,eB z⟩
theorem E4:∀(ks acc:List NK),acc.Nodup->(ks.foldl Tl acc).Nodup/\∀x,x∈ks.foldl Tl acc↔x∈acc\/x∈ks
 | [],acc,h=>⟨h,λx=>by simp⟩
 |k::ks,acc,h=>by obtain⟨a,b⟩:=E4 ks (Tl acc k) (oj h);refine⟨a,λx=>?_⟩;rw[List.foldl_cons,b x,lf,bj];exact⟨λz=>by rcases z with(z|z)|z;(· exact .inl z);(· exact .inr (.inl z));exact .inr (.inr z),λz=>by rcases z with z|z|z;(· exact .inl (.inl z));(· exact .inl (.inr z));exact .inr z⟩
theorem N8(ks:List NK):(Ko ks).Nodup:=(E4 ks [] c6).1
theorem Tz(ks:List NK)(x:NK):x∈Ko ks↔x∈ks:=by rw[show Ko ks=ks.foldl Tl []from rfl,(E4 ks [] c6).2 x];simp
theorem oi(ks:List NK):(Ko ks).length<=ks.length:=dm (N8 ks) λx hx=>(Tz ks x).mp hx
theorem qI{out:List NK}(h:C0 ks)(hl:ks.length<64)(hm:∀x,x∈out↔x∈ks)(hs:out.Pairwise λa b=>O8 a<O8 b):Et ks=aA (.ol (out.map Zw)):=by
 have nd:out.Nodup:=hs.imp fun{a b} z e=>by rw[e]at z;exact gn _ z
 have pm:out.Perm (Ko ks):=(List.perm_ext_iff_of_nodup nd (N8 ks)).mpr λx=>by rw[hm,Tz]
 have hk:=h.sub λk hk=>(Tz ks k).mp hk;refine lQ (by omega) (by have:=oi ks;omega) (jN hk (N8 ks)) ⟨pm.map _,fu.mpr ?_⟩;refine(List.Pairwise.and_mem.mp hs).imp fun{a b} ⟨ha,hb,z⟩=>?_;rw[EB 12 (h.one ((hm b).mp hb) ((hm a).mp ha))];exact congrArg aA (eA λy=>gn _ (List.lt_trans y z))
theorem nR(hk:L2.fH ds)(hl:ds.length<64)(so:R1 ds out):L2.Nw ds ds=aA (.ol out):=by obtain⟨p,hp,e⟩:=L2.n_ (ks:=ds) (xs:=ds) rfl hl hk;rw[e,G9 hk (Er hp) so]
open Classical in
theorem yw{α:Type}{f:α->D}{fK:α->List Nat}{xs out:List α}{kk:L2.KK}(hk:∀a∈xs,L2.IsKey kk (f a))(ZK:∀a∈xs,∀b∈xs,L2.Q5 16 (f a) (f b)=aA (decide (fK a<fK b)))(nd:(xs.map fK).Nodup)(hl:xs.length<64)
  (hp:out.Perm xs) (hs:out.Pairwise λa b=>¬fK b<fK a):L2.Nw (xs.map f) (xs.map f)=aA (.ol (out.map f)):=by
 have same:∀a∈xs,∀b∈xs,f a=f b->fK a=fK b:=λa ha b hb e=>by
  have h1:=ZK a ha b hb;have h2:=ZK b hb a ha;rw[<-e,ZK a ha a ha]at h1;rw[<-e,ZK a ha a ha]at h2;have i:¬fK a<fK a:=gn _;have h1:decide (fK a<fK b)=aD:=by rw[<-dg.inj h1];exact eA i
  have h2:decide (fK b<fK a)=aD:=by rw[<-dg.inj h2];exact eA i
  exact List.le_antisymm (dw.mp (of_decide_eq_false h2)) (dw.mp (of_decide_eq_false h1))
 let e:D->List Nat:=λd=>if h:∃a,a∈xs/\f a=d then fK (Classical.choose h)else[]
 have ee:∀a∈xs,e (f a)=fK a:=λa ha=>by
  have h:∃a',a'∈xs/\f a'=f a:=⟨a,ha,rfl⟩
  show(if h:∃a',a'∈xs/\f a'=f a then fK (Classical.choose h)else[])=fK a;rw[dif_pos h];exact same _ (Classical.choose_spec h).1 a ha (Classical.choose_spec h).2
 have ko:L2.fH (xs.map f):=by
  refine⟨⟨kk,λd hd=>?_⟩,e,λa ha b hb=>?_,?_⟩
  .obtain⟨a,ha,rfl⟩:=av.mp hd;exact hk a ha
  .obtain⟨x,hx,rfl⟩:=av.mp ha;obtain⟨y,hy,rfl⟩:=av.mp hb;rw[ee x hx,ee y hy];exact ZK x hx y hy
  .refine Gf.mpr ?_;rw[cp];have:xs.map (e∘f)=xs.map fK:=List.map_congr_left λa ha=>ee a ha;rw[this];exact nd
 refine nR ko (by rw[aj];exact hl) ⟨hp.map f,fu.mpr ?_⟩;refine(List.Pairwise.and_mem.mp hs).imp fun{a b} ⟨ha,hb,z⟩=>?_;rw[ZK b (hp.mem_iff.mp hb) a (hp.mem_iff.mp ha)];exact congrArg aA (eA z)
abbrev Qt:=Str×Str×List NK
noncomputable abbrev Yu(t:Qt):D:=.tup [.str t.1,.str t.2.1,.lst (t.2.2.map Zw)]
structure HP where
 ns:List NK
 ms:List NK
 fs:List Qt
noncomputable abbrev Zz(h:HP):D:=.tup [.lst (h.ns.map Zw),.lst (h.ms.map Zw),.lst (h.fs.map Yu)]
def To(k:NK):Prop:=∃(x:Str) (l:List Str),k= .inl (x::l)
def isM(k:NK):Prop:=∃(n:Nat) (l:List Str),k= .inr ((n:Int),l)
structure fQ(h:HP):Prop where
 ne:h.ns≠[]
 nm:∀k∈h.ns,To k
 mr:∀k∈h.ms,isM k
 fl:∀t∈h.fs,∀k∈t.2.2,To k
theorem Ve(n):∀as bs,C0 (as++bs)->as.length=bs.length->Oq (W8 (n+3)) (as.map Zw) (bs.map Zw)=aA (decide (as=bs))
 | [],[],_,_=>rfl
 | [],_::_,_,h=>by simp at h
 |_::_,[],_,h=>by simp at h
 |a::as,b::bs,ho,hl=>by
  have h1:OneK a b:=ho.one (by simp) (by simp);have ih:=Ve n as bs (ho.sub λk hk=>by
   rcases bz.mp hk with z|z
   .simp[z]
   .simp[z]) (by simpa using hl)
  show(W8 (n+3) (Zw a) (Zw b)).bind (λb'=>(Oq (W8 (n+3)) (as.map Zw) (bs.map Zw)).bind λc'=>aA (b'&&c'))=_;rw[KC n h1,ih];show aA _=_;refine congrArg aA ?_;by_cases h:a=b
  .by_cases h2:as=bs
   .simp[h,h2]
   .rw[eA h2,eA λz=>h2 (List.cons.inj z).2];simp
  .rw[eA h,eA λz=>h (List.cons.inj z).1];simp
theorem qH(n)(ho:C0 (as++bs)):W8 (n+4) (.lst (as.map Zw)) (.lst (bs.map Zw))=aA (decide (as=bs)):=by
 show(if(as.map Zw).length=(bs.map Zw).length then Oq (W8 (n+3)) (as.map Zw) (bs.map Zw)else aA aD)=_;rw[aj,aj];by_cases h:as.length=bs.length
 .rw[f_ h,Ve n as bs ho h]
 .rw[fZ h];exact congrArg aA (eA λz=>h (by rw[z])).symm
theorem qG(n k)(h:To k\/isM k):W8 (n+3) (Zw k) (Zw k)=aA aC:=by
 have:OneK k k:=by
  rcases h with⟨x,l,rfl⟩|⟨x,l,rfl⟩
  .exact .nm _ _
  .exact .mk _ _ _ _
 rw[KC n this];simp
theorem N9(n)(ks:List NK)(h:∀k∈ks,To k\/isM k):W8 (n+4) (.lst (ks.map Zw)) (.lst (ks.map Zw))=aA aC:=yz (n+3) _ λx hx=>by obtain⟨k,hk,rfl⟩:=av.mp hx;exact qG n k (h k hk)
theorem nQ(n t)(h:∀k∈t.2.2,To k):W8 (n+5) (Yu t) (Yu t)=aA aC:=om (n+4) _ λx hx=>by
 simp only[bj,List.not_mem_nil,or_false]at hx;rcases hx with rfl|rfl|rfl
 .exact yx (n+3) _
 .exact yx (n+3) _
 .exact N9 n _ λk hk=>.inl (h k hk)
def Wg(t:Qt):List Nat:=tE t.1.cps.toList++(tE t.2.1.cps.toList++[])
theorem lH(h:Wg s=Wg t):s.1=t.1/\s.2.1=t.2.1:=by obtain⟨h1,h2⟩:=GW _ _ _ _ h;exact⟨Ey h1,Ey (GW _ _ _ _ h2).1⟩
theorem qF(s t)(hs:∀k∈s.2.2,To k)(h:Wg s=Wg t->s=t):L2.Q5 16 (Yu s) (Yu t)=aA (decide (Wg s<Wg t)):=by
 have el:(Wg s<Wg t)↔(s.1.cps.toList<t.1.cps.toList\/(s.1.cps.toList=t.1.cps.toList/\s.2.1.cps.toList<t.2.1.cps.toList)):=by
  unfold Wg;rw[Kw,Kw];constructor
  .rintro(z|⟨z,w|⟨_,w⟩⟩)
   .exact .inl z
   .exact .inr ⟨z,w⟩
   .exact eF w (gn _)
  .rintro(z|⟨z,w⟩)
   .exact .inl z
   .exact .inr ⟨z,.inl w⟩
 show(W8 15 (.str s.1) (.str t.1)).bind (λc=>if c=aC then(W8 15 (.str s.2.1) (.str t.2.1)).bind (λc=>if c=aC then(W8 15 (.lst (s.2.2.map Zw)) (.lst (t.2.2.map Zw))).bind (λc=>if c=aC then aA aD else L2.Q5 15 (.lst (s.2.2.map Zw)) (.lst (t.2.2.map Zw)))else L2.Q5 15 (.str s.2.1) (.str t.2.1))else L2.Q5 15 (.str s.1) (.str t.1))=_;rw[N7,N7,Hu,Hu];by_cases h1:s.1=t.1
 .rw[eB h1];by_cases h2:s.2.1=t.2.1
  .rw[eB h2];have e:s=t:=h (by unfold Wg;rw[h1,h2]);subst e;rw[N9 11 _ λk hk=>.inl (hs k hk)];show aA aD=_;exact congrArg aA (eA (gn _)).symm
  .rw[eA h2];show aA (decide (s.2.1.cps.toList<t.2.1.cps.toList))=_;refine congrArg aA (decide_eq_decide.mpr ?_);rw[el,h1];exact⟨λz=>.inr ⟨rfl,z⟩,λz=>z.elim (λz=>eF z (gn _)) λz=>z.2⟩
 .rw[eA h1];show aA (decide (s.1.cps.toList<t.1.cps.toList))=_;refine congrArg aA (decide_eq_decide.mpr ?_);rw[el];exact⟨.inl,λz=>z.elim id λz=>eF (Ey z.1) h1⟩
theorem Hw{α β:Type}{f:α->β}{xs:List α}(h:(xs.map f).Nodup){a b}(ha:a∈xs)(hb:b∈xs)(e:f a=f b):a=b:=by obtain⟨i,hi,rfl⟩:=fj ha;obtain⟨j,hj,rfl⟩:=fj hb;have:i=j:=(List.getElem?_inj (by rw[aj];exact hi) h).mp (by simp[hi,hj,e]);subst this;rfl
theorem nP{out:List Qt}(hf:∀t∈ts,∀k∈t.2.2,To k)(nd:(ts.map Wg).Nodup)(hl:ts.length<64)(hp:out.Perm ts)(hs:out.Pairwise λa b=>¬Wg b<Wg a):L2.Nw (ts.map Yu) (ts.map Yu)=aA (.ol (out.map Yu)):=
 yw (fK:=Wg) (kk:=.str) (λa _=>.str _ _) (λa ha b hb=>qF a b (hf a ha) λe=>Hw nd ha hb e) nd hl hp hs
def Q0(h:HP):List Nat:=O8 (h.ns.headD (.inl []))
theorem tT(a b)(oa:fQ a)(ob:fQ b)(h:Q0 a=Q0 b->a=b):L2.Q5 16 (Zz a) (Zz b)=aA (decide (Q0 a<Q0 b)):=by
 show(W8 15 (.lst (a.ns.map Zw)) (.lst (b.ns.map Zw))).bind (λc=>if c=aC then(W8 15 (.lst (a.ms.map Zw)) (.lst (b.ms.map Zw))).bind (λc=>if c=aC then(W8 15 (.lst (a.fs.map Yu)) (.lst (b.fs.map Yu))).bind (λc=>if c=aC then aA aD else L2.Q5 15 (.lst (a.fs.map Yu)) (.lst (b.fs.map Yu)))else L2.Q5 15 (.lst (a.ms.map Zw)) (.lst (b.ms.map Zw)))else L2.Q5 15 (.lst (a.ns.map Zw)) (.lst (b.ns.map Zw)))=_;have on:C0 (a.ns++b.ns):=.inl λk hk=>by
  rcases bz.mp hk with z|z
  .exact oa.nm k z
  .exact ob.nm k z
 rw[qH 11 on];by_cases hn:Q0 a=Q0 b
 .have e:=h hn;subst e;rw[eB rfl,N9 11 _ λk hk=>.inr (oa.mr k hk)];have e3:W8 15 (.lst (a.fs.map Yu)) (.lst (a.fs.map Yu))=aA aC:=yz 14 _ λx hx=>by obtain⟨t,ht,rfl⟩:=av.mp hx;exact nQ 9 t (oa.fl t ht)
  rw[e3];show aA aD=_;exact congrArg aA (eA (gn _)).symm
 .obtain⟨x,as,ea⟩:=g8 oa.ne;obtain⟨y,bs,eb⟩:=g8 ob.ne;have Do:x≠y:=λz=>hn (by unfold Q0;rw[ea,eb,z];rfl);rw[eA λz=>Do (by rw[ea,eb]at z;exact(List.cons.inj z).1)];show L2.Q5 15 (.lst (a.ns.map Zw)) (.lst (b.ns.map Zw))=_;unfold Q0;rw[ea,eb];have ok:OneK x y:=on.one (by rw[ea];simp) (by rw[eb];simp);show(W8 14 (Zw x) (Zw y)).bind (λc=>if c=aC then _ else L2.Q5 14 (Zw x) (Zw y))=_;rw[KC 11 ok,eA Do];show L2.Q5 14 (Zw x) (Zw y)=_;exact EB 10 ok
theorem qE{out:List HP}(ok:∀h∈hs,fQ h)(nd:(hs.map Q0).Nodup)(hl:hs.length<64)(hp:out.Perm hs)(vQ:out.Pairwise λa b=>¬Q0 b<Q0 a):L2.Nw (hs.map Zz) (hs.map Zz)=aA (.ol (out.map Zz)):=
 yw (fK:=Q0) (kk:=.lst) (λa _=>.lst _ _) (λa ha b hb=>tT a b (ok a ha) (ok b hb) λe=>Hw nd ha hb e) nd hl hp vQ
noncomputable abbrev Up(h:HP):List NK:=h.ns++h.ms
abbrev kLt(a b:NK):Prop:=O8 a<O8 b
abbrev tLt(a b:Qt):Prop:=Wg a<Wg b
theorem yv{a:List Nat}(h:a<b):¬b<a:=λz=>gn _ (List.lt_trans h z)
theorem Jk{α:Type}{f:α->List Nat}{l:List α}(h:l.Pairwise λa b=>f a<f b):l.Nodup:=h.imp fun{a b} h e=>by subst e;exact gn _ h
theorem Ot{α:Type}{f:α->List Nat}{l m:List α}(h1:l.Pairwise λa b=>f a<f b)(h2:m.Pairwise λa b=>f a<f b)(hm:∀x,x∈l↔x∈m):l=m:=
 List.Perm.eq_of_pairwise (λx y _ _ z1 z2=>eF z2 (yv z1)) h1 h2 ((List.perm_ext_iff_of_nodup (Jk h1) (Jk h2)).mpr hm)
structure g_(G:HP->Prop)(h:HP):Prop where
 ns_s:h.ns.Pairwise kLt
 ns_m:∀k,k∈h.ns↔∃a,G a/\k∈a.ns
 ms_s:h.ms.Pairwise kLt
 ms_m:∀k,k∈h.ms↔∃a,G a/\k∈a.ms
 fs_s:h.fs.Pairwise tLt
 fs_m:∀f v,(∃l,(f,v,l)∈h.fs)↔∃a,G a/\∃l,(f,v,l)∈a.fs
 fs_l:∀t∈h.fs,t.2.2.Pairwise kLt/\∀k,k∈t.2.2↔∃a,G a/\∃l,(t.1,t.2.1,l)∈a.fs/\k∈l
theorem g_.uniq(m:g_ G h)(m':g_ G' h')(e:∀a,G a↔G' a):h=h':=by
 have e1:h.ns=h'.ns:=Ot m.ns_s m'.ns_s λk=>by rw[m.ns_m,m'.ns_m];simp only[e]
 have e2:h.ms=h'.ms:=Ot m.ms_s m'.ms_s λk=>by rw[m.ms_m,m'.ms_m];simp only[e]
 have one:∀{G G':HP->Prop} {h h':HP},g_ G h->g_ G' h'->(∀a,G a↔G' a)->∀t∈h.fs,t∈h'.fs:=fun{G G' h h'} m m' e t ht=>by
  have h1:=(m.fs_m t.1 t.2.1).mp ⟨t.2.2,ht⟩;simp only[e]at h1;obtain⟨l,hl⟩:=(m'.fs_m t.1 t.2.1).mpr h1;have:t.2.2=l:=Ot (m.fs_l t ht).1 (m'.fs_l _ hl).1 λk=>by rw[(m.fs_l t ht).2,(m'.fs_l _ hl).2];simp only[e]
  rw[<-this]at hl;exact hl
 have e3:h.fs=h'.fs:=Ot m.fs_s m'.fs_s λt=>⟨one m m' e t,one m' m (λa=>(e a).symm) t⟩
 cases h;cases h';simp only at e1 e2 e3;rw[e1,e2,e3]
def shr(a b:HP):Prop:=∃t,t∈Up a/\t∈Up b
theorem lG(h:shr a b):shr b a:=let⟨t,h1,h2⟩:=h;⟨t,h2,h1⟩
inductive fF(S:HP->Prop):HP->HP->Prop where
 |here {a:HP}:S a->fF S a a
 |step {a b c:HP}:fF S a b->S c->shr b c->fF S a c
theorem fF.right{S}(h:fF S a b):S b:=by
 cases h with
 |here h=>exact h
 |step _ h _=>exact h
theorem fF.trans{S}(h:fF S a b)(k:fF S b c):fF S a c:=by
 induction k with
 |here _=>exact h
 |step _ hc sh ih=>exact .step ih hc sh
theorem fF.symm{S}(h:fF S a b):fF S b a:=by
 induction h with
 |here h=>exact .here h
 | @step b c k hc sh ih=>exact(fF.step (.here hc) k.right (lG sh)).trans ih
theorem fF.mono{S:HP->Prop}(hs:∀a,S a->T a)(h:fF S a b):fF T a b:=by
 induction h with
 |here h=>exact .here (hs _ h)
 |step _ hc sh ih=>exact .step ih (hs _ hc) sh
structure fG(S:HP->Prop)(out:List HP):Prop where
 sorted:out.Pairwise λa b=>Q0 a<Q0 b
 each:∀h∈out,∃a,S a/\g_ (fF S a) h
 all:∀a,S a->∃h∈out,g_ (fF S a) h
theorem g_.tie(m:g_ G h)(t):t∈Up h↔∃a,G a/\t∈Up a:=by
 constructor
 .intro z;rcases bz.mp z with z|z
  .obtain⟨a,g,z⟩:=(m.ns_m t).mp z;exact⟨a,g,cg _ z⟩
  .obtain⟨a,g,z⟩:=(m.ms_m t).mp z;exact⟨a,g,b7 _ z⟩
 .rintro⟨a,g,z⟩;rcases bz.mp z with z|z
  .exact cg _ ((m.ns_m t).mpr ⟨a,g,z⟩)
  .exact b7 _ ((m.ms_m t).mpr ⟨a,g,z⟩)
theorem g_.of{part:HP->HP->Prop}(m:g_ P h)(hp:∀p,P p->g_ (part p) p)(e:∀a,G a↔∃p,P p/\part p a):g_ G h:=by
 refine⟨m.ns_s,λk=>?_,m.ms_s,λk=>?_,m.fs_s,λf v=>?_,λt ht=>⟨(m.fs_l t ht).1,λk=>?_⟩⟩
 .rw[m.ns_m];constructor
  .rintro⟨p,hP,hk⟩;obtain⟨a,g,hk⟩:=((hp p hP).ns_m k).mp hk;exact⟨a,(e a).mpr ⟨p,hP,g⟩,hk⟩
  .rintro⟨a,g,hk⟩;obtain⟨p,hP,g⟩:=(e a).mp g;exact⟨p,hP,((hp p hP).ns_m k).mpr ⟨a,g,hk⟩⟩
 .rw[m.ms_m];constructor
  .rintro⟨p,hP,hk⟩;obtain⟨a,g,hk⟩:=((hp p hP).ms_m k).mp hk;exact⟨a,(e a).mpr ⟨p,hP,g⟩,hk⟩
  .rintro⟨a,g,hk⟩;obtain⟨p,hP,g⟩:=(e a).mp g;exact⟨p,hP,((hp p hP).ms_m k).mpr ⟨a,g,hk⟩⟩
 .rw[m.fs_m];constructor
  .rintro⟨p,hP,hk⟩;obtain⟨a,g,hk⟩:=((hp p hP).fs_m f v).mp hk;exact⟨a,(e a).mpr ⟨p,hP,g⟩,hk⟩
  .rintro⟨a,g,hk⟩;obtain⟨p,hP,g⟩:=(e a).mp g;exact⟨p,hP,((hp p hP).fs_m f v).mpr ⟨a,g,hk⟩⟩
 .rw[(m.fs_l t ht).2];constructor
  .rintro⟨p,hP,l,hl,hk⟩;obtain⟨a,g,l',WN,hk⟩:=(((hp p hP).fs_l _ hl).2 k).mp hk;exact⟨a,(e a).mpr ⟨p,hP,g⟩,l',WN,hk⟩
  .rintro⟨a,g,l,hl,hk⟩;obtain⟨p,hP,g⟩:=(e a).mp g;obtain⟨l',WN⟩:=((hp p hP).fs_m t.1 t.2.1).mpr ⟨a,g,l,hl⟩;exact⟨p,hP,l',WN,(((hp p hP).fs_l _ WN).2 k).mpr ⟨a,g,l,hl,hk⟩⟩
theorem g_.sum(h0:∃G,g_ G h/\∀b,G b->X b)(h1:∀b,X b->∃G,g_ G h/\G b):g_ X h:=by
 obtain⟨G,m,hG⟩:=h0;refine⟨m.ns_s,λk=>⟨λz=>?_,λz=>?_⟩,m.ms_s,λk=>⟨λz=>?_,λz=>?_⟩,m.fs_s,λf v=>⟨λz=>?_,λz=>?_⟩,λt ht=>⟨(m.fs_l t ht).1,λk=>⟨λz=>?_,λz=>?_⟩⟩⟩
 .obtain⟨a,g,z⟩:=(m.ns_m k).mp z;exact⟨a,hG a g,z⟩
 .obtain⟨a,x,z⟩:=z;obtain⟨G',m',g'⟩:=h1 a x;exact(m'.ns_m k).mpr ⟨a,g',z⟩
 .obtain⟨a,g,z⟩:=(m.ms_m k).mp z;exact⟨a,hG a g,z⟩
 .obtain⟨a,x,z⟩:=z;obtain⟨G',m',g'⟩:=h1 a x;exact(m'.ms_m k).mpr ⟨a,g',z⟩
 .obtain⟨a,g,z⟩:=(m.fs_m f v).mp z;exact⟨a,hG a g,z⟩
 .obtain⟨a,x,z⟩:=z;obtain⟨G',m',g'⟩:=h1 a x;exact(m'.fs_m f v).mpr ⟨a,g',z⟩
 .obtain⟨a,g,z⟩:=((m.fs_l t ht).2 k).mp z;exact⟨a,hG a g,z⟩
 .obtain⟨a,x,z⟩:=z;obtain⟨G',m',g'⟩:=h1 a x;exact((m'.fs_l t ht).2 k).mpr ⟨a,g',z⟩
theorem fG.pour {S T:HP->Prop} {P Q R:List HP} (nS:∀ a,S a->a.ns≠[]) (nT:∀ a,T a->a.ns≠[]) (p:fG S P) (q:fG T Q) (r:fG (λh=>h ∈ P\/h ∈ Q) R):fG (λa=>S a\/T a) R:=by
  let part:HP->HP->Prop:=λh b=>(∃ a,h ∈ P/\g_ (fF S a) h/\fF S a b)\/(∃ a,h ∈ Q/\g_ (fF T a) h/\fF T a b);have pm:∀ h b,part h b->∃ G,g_ G h/\G b:=λh b z=>by
    rcases z with ⟨a,_,m,c⟩ | ⟨a,_,m,c⟩
    · exact ⟨_,m,c⟩
    · exact ⟨_,m,c⟩
  have pu:∀ h b,part h b->(S b\/T b)/\(h ∈ P\/h ∈ Q):=λh b z=>by
    rcases z with ⟨a,hp,m,c⟩ | ⟨a,hq,m,c⟩
    · exact ⟨.inl c.right,.inl hp⟩
    · exact ⟨.inr c.right,.inr hq⟩
  have pe:∀ h,h ∈ P\/h ∈ Q->∃ G a,g_ G h/\G a/\∀ b,G b->part h b:=λh hh=>by
    rcases hh with z | z
    · obtain ⟨a,sa,m⟩:=p.each h z
      exact ⟨_,a,m,.here sa,λb c=>.inl ⟨a,z,m,c⟩⟩
    · obtain ⟨a,sa,m⟩:=q.each h z
      exact ⟨_,a,m,.here sa,λb c=>.inr ⟨a,z,m,c⟩⟩
  have mp:∀ h,h ∈ P\/h ∈ Q->g_ (part h) h:=λh hh=>by obtain ⟨G,a,m,ga,hG⟩:=pe h hh;exact .sum ⟨G,m,hG⟩ (pm h)
  have tie:∀ h t,h ∈ P\/h ∈ Q->(t ∈ Up h ↔ ∃ b,part h b/\t ∈ Up b):=λh t hh=>(mp h hh).tie t
  have up:∀ h b c,part h b->part h c->(∀ G,g_ G h->G b->(∀ x,G x->fF (λa=>S a\/T a) b x)->∀ G',g_ G' h->G' c->(∀ x,G' x->fF (λa=>S a\/T a) c x)->fF (λa=>S a\/T a) b c):=λh b c hb hc G m gb cb G' m' gc cc=>by
    have nb:b.ns≠[]:=(pu h b hb).1.elim (nS b) (nT b);obtain ⟨k,l,ek⟩:=g8 nb;have kb:k ∈ b.ns:=by rw [ek]; exact ac
    have kh:=(m.ns_m k).mpr ⟨b,gb,kb⟩;obtain ⟨y,gy,ky⟩:=(m'.ns_m k).mp kh;have sb:shr b y:=⟨k,cg _ kb,cg _ ky⟩
    have cy:=cc y gy;exact (fF.step (.here (pu h b hb).1) cy.right sb).trans cy.symm
  have inS:∀ {a b},fF S a b->fF (λa=>S a\/T a) a b:=λh=>h.mono λ_ z=>.inl z;have vN:∀ {a b},fF T a b->fF (λa=>S a\/T a) a b:=λh=>h.mono λ_ z=>.inr z;have DD:∀ h b,part h b->∃ G,g_ G h/\G b/\∀ x,G x->fF (λa=>S a\/T a) b x:=λh b z=>by
    rcases z with ⟨a,_,m,c⟩ | ⟨a,_,m,c⟩
    · exact ⟨_,m,c,λx cx=>inS (c.symm.trans cx)⟩
    · exact ⟨_,m,c,λx cx=>vN (c.symm.trans cx)⟩
  have same:∀ h b c,part h b->part h c->fF (λa=>S a\/T a) b c:=λh b c hb hc=>by obtain ⟨G,m,gb,cb⟩:=DD h b hb;obtain ⟨G',m',gc,cc⟩:=DD h c hc;exact up h b c hb hc G m gb cb G' m' gc cc
  have key:∀ h0 a0,(h0 ∈ P\/h0 ∈ Q)->part h0 a0->∀ b,fF (λa=>S a\/T a) a0 b ↔ ∃ h,fF (λh=>h ∈ P\/h ∈ Q) h0 h/\part h b:=λh0 a0 QK UE b=>by
    constructor
    · intro c
      have:∀ {x y},fF (λa=>S a\/T a) x y->part h0 x->∃ h,fF (λh=>h ∈ P\/h ∈ Q) h0 h/\part h y:=λ{x y} c=>by
        induction c with
        | here _=>exact λz=>⟨h0,.here QK,z⟩
        | @step x y c' uc sh ih =>
          intro z;rename_i y' c2;obtain ⟨h,ch,ph⟩:=ih z;obtain ⟨h',YK,m',g'⟩:∃ h',(h' ∈ P\/h' ∈ Q)/\part h' y/\True:=by
            rcases uc with uc | uc
            · obtain ⟨h',YK,m'⟩:=p.all _ uc
              exact ⟨h',.inl YK,.inl ⟨_,YK,m',.here uc⟩,trivial⟩
            · obtain ⟨h',YK,m'⟩:=q.all _ uc
              exact ⟨h',.inr YK,.inr ⟨_,YK,m',.here uc⟩,trivial⟩
          obtain ⟨t,t1,t2⟩:=sh;exact ⟨h',.step ch YK ⟨t,(tie h t ch.right).mpr ⟨_,ph,t1⟩,(tie h' t YK).mpr ⟨_,m',t2⟩⟩,m'⟩
      exact this c UE
    · rintro ⟨h,ch,ph⟩
      have:∀ {x y},fF (λh=>h ∈ P\/h ∈ Q) x y->part x a0->∀ b,part y b->fF (λa=>S a\/T a) a0 b:=λ{x y} c=>by
        induction c with
        | here _=>exact λz b hb=>same _ _ _ z hb
        | step c' hc sh ih =>intro z b hb;obtain ⟨t,t1,t2⟩:=sh;obtain ⟨u,pu1,tu⟩:=(tie _ t c'.right).mp t1;obtain ⟨v,pv1,tv⟩:=(tie _ t hc).mp t2;exact (fF.step (ih z u pu1) (pu _ v pv1).1 ⟨t,tu,tv⟩).trans (same _ _ _ pv1 hb)
      exact this ch UE b ph
  have mk:∀ h0 a0 r0,(h0 ∈ P\/h0 ∈ Q)->part h0 a0->g_ (fF (λh=>h ∈ P\/h ∈ Q) h0) r0->g_ (fF (λa=>S a\/T a) a0) r0:=λh0 a0 r0 QK UE m =>
    m.of (λh ch=>mp h ch.right) (key h0 a0 QK UE)
  refine ⟨r.sorted,λr0 hr=>?_,λa ua=>?_⟩
  · obtain ⟨h0,QK,m⟩:=r.each r0 hr
    obtain ⟨G,a0,_,g,hG⟩:=pe h0 QK;exact ⟨a0,(pu h0 a0 (hG a0 g)).1,mk h0 a0 r0 QK (hG a0 g) m⟩
  · obtain ⟨h',YK,ph⟩:∃ h',(h' ∈ P\/h' ∈ Q)/\part h' a:=by
      rcases ua with uc | uc
      · obtain ⟨h',YK,m'⟩:=p.all _ uc
        exact ⟨h',.inl YK,.inl ⟨_,YK,m',.here uc⟩⟩
      · obtain ⟨h',YK,m'⟩:=q.all _ uc
        exact ⟨h',.inr YK,.inr ⟨_,YK,m',.here uc⟩⟩
    obtain ⟨r0,hr,m⟩:=r.all h' YK;exact ⟨r0,hr,mk h' a r0 YK ph m⟩
end My
noncomputable section
namespace Gen
open L2
noncomputable def top(i:Nat):Stmt:=PySem.Challenge.pw_citeward_k41_pools_as_shelves.main.body.getD i (.Pass ⟨0,0,0,0⟩)
noncomputable abbrev NR:Nat:=1000
def Wn:FS:=
 Z4 (Yv 9 (Zk Nk (Za 6) (Y4 LV (Zc (Zk eqX (Za 8) (Za 4)) Zl)))) (Yv 7 (Zk O0 (Za 7) (Zk Qn (Za 2) (Zk Oi (Zk O0 (Zk Ue (Za 0) (Zk O0 (Za 8) (Zd (.int 2)))) (Za 9)) (Zd (.int 22))))))
def Jq:FS:=
 Z4 (Yv 7 (Zd (.str ""))) (Z4 (J2 (NZ (Zc (Za 3) Zl)) (Zf 8) Wn) (Xr 5 (Za 7)))
def C1:FS:=
 Z4 (Yv 2 (Zd (.str "abcdefghjlmpqrstuvwxyz"))) (Z4 (Yv 3 (Zk O0 (Zd (.int 1)) (Zk Oi (Za 0) (Zd (.int 8))))) (Z4 (Yv 4 (Zk Oi (Zk Ue (Za 0) (Zd (.int 8))) (Za 3))) (Z4 (Yv 5 (Bw (Zr))) (Z4 (J2 (NZ (Zc (Za 1) Zl)) (Zf 6) Jq) (Qh (Za 5))))))
def Yx:List D->Option SV:=Y5 C1 10
def C2:FS:=
 Qh (Zk Oi (Zk Nk (Zk Oi (Za 0) (Zd (.int 2147483647))) (Za 1)) (Zd (.int 2147483647)))
def Wm:List D->Option SV:=Y5 C2 2
def Wj:FS:=
 L4 (Yg (Zk gtD (Zk Oi (Zk Ue (Za 7) (Zk O0 (Zd (.int 16)) (Za 9))) (Zd (.int 4))) (Zd (.int 0)))) (Cs 8 (Za 10) (Zk O0 (Zd (.str "It's ")) (Y4 X9 (Zc (Zk Oi (Zk Ue (Za 7) (Zk O0 (Zd (.int 5)) (Zk Nk (Zd (.int 2)) (Za 9)))) (Za 3)) Zl)))) (Jf)
def Wl:FS:=
 Z4 (Yv 7 (Z5 2 Wm (Zc (Zk O0 (Za 6) (Zk Nk (Za 5) (Za 5))) (Zc (Zd (.int 48271)) (Zl))))) (Z4 (Yv 8 (Cr)) (Z4 (J2 (U9 (Zg (Zk O0 (Za 1) (Bw (Zg (Zd (.str "note")) (Zr)))) Zr)) (Ys 2 (Zm (Zf 9) (Zm (Zf 10) (Yw)))) Wj) (Z4 (L4 (Yg (Zk gtD (Zk Oi (Zk Ue (Za 7) (Zd (.int 8))) (Zd (.int 4))) (Zd (.int 0)))) (Cs 8 (Zd (.str "in")) (Zk Qn (Zk O0 (Za 0) (Bw (Zg (Zd (.str "Some book")) (Zr)))) (Zk Oi (Zk Ue (Za 7) (Zd (.int 32))) (Zd (.int 7))))) (Jf)) (Ku 4 (Zk Oi (Za 5) (Zd (.int 2))) (Zk Qn (Za 0) (Zk Ue (Za 5) (Zd (.int 2)))) (tupF (Zg (Zk Qn (Bw (Nm ["book","part"] (Zr))) (Zk Oi (Zk Ue (Za 7) (Zd (.int 3))) (Zd (.int 2)))) (Zg (Za 8) (Zr))))))))
def O9:FS:=
 Z4 (Yv 4 (EC)) (Z4 (J2 (U9 (Zg (Za 2) Zr)) (Ys 2 (Zm (Zf 5) (Zm (Zf 6) (Yw)))) Wl) (LO (Za 4)))
def Qj:List D->Option SV:=Y5 O9 11
def Oa:FS:=
 Te 1 (Za 4) 2 aD
def W3:FS:=
 J2 (Bx (Zk O0 (Zk Qn (Za 3) (Zd (.int 0))) (Zk Qn (Za 3) (Zd (.int 1))))) (Zf 4) Oa
def B6:FS:=
 Z4 (Yv 1 (Kt)) (Z4 (J2 (U9 (Zg (Za 0) Zr)) (Ys 2 (Zm (Zf 2) (Zm (Zf 3) (Yw)))) W3) (LO (Za 1)))
def Q7:List D->Option SV:=Y5 B6 5
def Ob:FS:=
 L4 (Yg (Zk Az (Za 7) (Za 3))) (Z4 (Cs 3 (Za 7) (Zd (.bl aC))) (Xr 4 (Za 7))) (Jf)
def R6:FS:=
 J2 (Bx (Zk NT (Za 1) (Za 6))) (Zf 7) Ob
def Oc:FT:=
 Yg (Zk gtD (Y4 Aq (Zc (Za 4) Zl)) (Zd (.int 0)))
def C3:FS:=
 Z4 (N6 5 0 4) (J2 (Bx (Zk O0 (Zk Qn (Za 5) (Zd (.int 0))) (Zk Qn (Za 5) (Zd (.int 1))))) (Zf 6) R6)
def Hx:FS:=
 Z4 (Yv 3 (KG 2 (Zd (.bl aC)))) (Z4 (Yv 4 (Bw (Zg (Za 2) (Zr)))) (Z4 (J3 Oc C3 NR) (Qh (Y4 Kd (Zc (Za 3) Zl)))))
def E5:List D->Option SV:=Y5 Hx 8
def Od:FS:=
 Te 3 (tupF (Zg (Za 5) (Zg (Za 6) (Zr)))) 7 aC
def W4:FS:=
 Z4 (Va 1 (Zk Qn (Za 4) (Zd (.int 0)))) (Z4 (Va 2 (Zk Qn (Za 4) (Zd (.int 1)))) (J2 (Bx (Zk Qn (Za 4) (Zd (.int 2)))) (Ys 3 (Zm (Zf 5) (Zm (Zf 6) (Zm (Zf 7) (Yw))))) Od))
def Q8:FE:=
 tupF (Zg (Zk Qn (Za 0) (Zd (.int 0))) (Zg (Zk Qn (Za 0) (Zd (.int 1))) (Zg (Y4 R4 (Zc (Zk NT (Za 1) (Za 0)) Zl)) (Zr))))
def B7:FS:=
 Z4 (Yv 1 (Bw (Zr))) (Z4 (Yv 2 (Bw (Zr))) (Z4 (Yv 3 (Kt)) (Z4 (J2 (Bx (Za 0)) (Zf 4) W4) (Z4 (Yv 8 (U7 [.own,.cap 3,.acc] 2 (FU (Za 3)) (Zf 0) (U6) Q8)) (Qh (tupF (Zg (Y4 R4 (Zc (Za 1) Zl)) (Zg (Y4 R4 (Zc (Za 2) Zl)) (Zg (Y4 Em (Zc (Za 8) Zl)) (Zr))))))))))
def Q9:List D->Option SV:=Y5 B7 9
def Oe:FS:=
 Cs 3 (Za 6) (Zd (.bl aC))
def B8:FE:=
 Zk Qn (Za 1) (Za 0)
def Jl:FS:=
 L4 (Yg (Zk Az (Za 4) (Za 3))) (Z4 (Yv 5 (Z5 3 E5 (Zc (Za 0) (Zc (Za 1) (Zc (Za 4) (Zl)))))) (Z4 (J2 (Bx (Za 5)) (Zf 6) Oe) (Xr 2 (Z5 1 Q9 (Zc (U7 [.own,.cap 0,.acc] 2 (Bx (Za 5)) (Zf 0) (U6) B8) (Zl)))))) (Jf)
def E6:FS:=
 Z4 (Yv 1 (Z5 1 Q7 (Zc (Za 0) (Zl)))) (Z4 (Yv 2 (Bw (Zr))) (Z4 (Yv 3 (Cr)) (Z4 (J2 (NZ (Zc (Y4 Aq (Zc (Za 0) Zl)) Zl)) (Zf 4) Jl) (Qh (Y4 Em (Zc (Za 2) Zl))))))
def Bk:List D->Option SV:=Y5 E6 7
def Hy:FS:=
 Qh (Z5 1 Bk (Zc (Zk O0 (Za 0) (Za 1)) (Zl)))
def C4:List D->Option SV:=Y5 Hy 2
def Qa:FS:=
 L4 (Xo (Yg (Zk eqX (Za 3) (Za 1))) (Yg (Zk gtD (Y4 Aq (Zc (Za 5) Zl)) (Y4 Aq (Zc (Zk Qn (Za 2) (Zd (.int 1))) Zl))))) (Yv 2 (tupF (Zg (Za 4) (Zg (Za 5) (Zr))))) (Jf)
def Rc:FS:=
 Z4 (Yv 2 (tupF (Zg (Zd .non) (Zg (Bw (Zr)) (Zr))))) (Z4 (J2 (Bx (Zk Qn (Za 0) (Zd (.int 2)))) (Ys 3 (Zm (Zf 3) (Zm (Zf 4) (Zm (Zf 5) (Yw))))) Qa) (Qh (Za 2)))
def Wb:List D->Option SV:=Y5 Rc 6
def R7:FS:=
 Z4 (Yv 1 (Zd (.str "abcdefghijklmnopqrstuvwxyz"))) (Z4 (L4 (Yg (Zk ltD (Za 0) (Zd (.int 26)))) (Qh (Zk Qn (Za 1) (Za 0))) (Jf)) (Qh (Zk O0 (Zk Qn (Za 1) (Zk LY (Zk Ue (Za 0) (Zd (.int 26))) (Zd (.int 1)))) (Zk Qn (Za 1) (Zk Oi (Za 0) (Zd (.int 26)))))))
def Qb:List D->Option SV:=Y5 R7 2
def Ja:FS:=
 L4 (Yg (Zk inN (tupF (Zg (Zk Qn (Zk Qn (Za 3) (Zd (.int 0))) (Zd (.int 0))) (Zg (Za 2) (Zr)))) (Zk Qn (Za 5) (Zd (.int 0))))) (Qh (Z5 1 Qb (Zc (Za 4) (Zl)))) (Jf)
def B9:FS:=
 Z4 (L5 (Ys 2 (Zm (Zf 2) (Zm (Zf 3) (Yw)))) (Z5 2 Wb (Zc (Za 1) (Zc (Zd (.str "in")) (Zl))))) (Z4 (L4 (Yg (Zk Ft (Za 2) (Zd .non))) (J2 (U9 (Zg (Za 0) Zr)) (Ys 2 (Zm (Zf 4) (Zm (Zf 5) (Yw)))) Ja) (Jf)) (Qh (Zd .non)))
def Qu:List D->Option SV:=Y5 B9 6
def Ws:FS:=
 L4 (Xo (Yg (Zk neX (Za 5) (Zd (.str "kind")))) (Yg (Zk neX (Za 5) (Zd (.str "in"))))) (Cs 4 (Za 5) (Zk Qn (Z5 2 Wb (Zc (Za 3) (Zc (Za 5) (Zl)))) (Zd (.int 0)))) (Jf)
def Jx:FS:=
 Z4 (Yv 4 (Cr)) (Z4 (J2 (Bx (Zk Qn (Za 3) (Zd (.int 2)))) (Ys 3 (Zm (Zf 5) (Zm (Zf 6) (Zm (Zf 7) (Yw))))) Ws) (Z4 (Yv 8 (Z5 2 Qu (Zc (Za 0) (Zc (Za 3) (Zl))))) (Z4 (L4 (Yg (Zk Ft (Za 8) (Zd .non))) (Cs 4 (Zd (.str "in")) (Za 8)) (Jf)) (Cs 1 (Z5 1 Qb (Zc (Za 2) (Zl))) (tupF (Zg (Zk Qn (Z5 2 Wb (Zc (Za 3) (Zc (Zd (.str "kind")) (Zl)))) (Zd (.int 0))) (Zg (Za 4) (Zr))))))))
def Mq:FS:=
 Z4 (Yv 1 (Cr)) (Z4 (J2 (U9 (Zg (Za 0) Zr)) (Ys 2 (Zm (Zf 2) (Zm (Zf 3) (Yw)))) Jx) (Qh (Za 1)))
def Uz:List D->Option SV:=Y5 Mq 9
def Hz:FT:=
 Yg (Zk geD (Za 2) (Zd (.int 0)))
def Da:FS:=
 Z4 (Yv 1 (Zk O0 (Zk Qn (Zd (.str "abcdefghijklmnopqrstuvwxyz")) (Zk Oi (Za 2) (Zd (.int 26)))) (Za 1))) (Yv 2 (Zk LY (Zk Ue (Za 2) (Zd (.int 26))) (Zd (.int 1))))
def Vf:FS:=
 Z4 (Yv 1 (Zd (.str ""))) (Z4 (Yv 2 (Za 0)) (Z4 (J3 Hz Da NR) (Qh (Za 1))))
def Bl:List D->Option SV:=Y5 Vf 3
def Qo:FT:=
 Yg (Zk eqX (Zk Qn (Za 0) (Zd (.int 0))) (Za 1))
noncomputable def Qp:FE:=
 Za 0
def Ba:FS:=
 Z4 (Yv 2 (U7 [.own,.cap 1,.acc] 2 (Bx (Zk Qn (Za 0) (Zd (.int 2)))) (Zf 0) (Qo) Qp)) (Qh (L2.EA (Za 2) [] (tupF (Zg (unF QT (Y4 Aq (Zc (Zk Qn (Za 0) (Zd (.int 2))) Zl))) (Zg (Zk Qn (Za 0) (Zd (.int 1))) (Zr))))))
def Wo:List D->Option SV:=Y5 Ba 3
def T0:FS:=
 Z4 (Yv 2 (Z5 2 Wo (Zc (Za 0) (Zc (Za 1) (Zl))))) (Qh (ifF (Yg (Zk NW (Za 2) (Zd .non))) (Zd .non) (Zk Qn (Za 2) (Zd (.int 1)))))
def Uq:List D->Option SV:=Y5 T0 3
def Ww:FS:=
 Cs 1 (Za 2) (Zd (.bl aC))
def C5:FS:=
 Z4 (Yv 1 (Cr)) (Z4 (J2 (Bx (Za 0)) (Zf 2) Ww) (Qh (Y4 Kd (Zc (Za 1) Zl))))
def Jy:List D->Option SV:=Y5 C5 3
def Jz:FS:=
 L4 (Yg (Zk inN (Za 1) (Zk Qn (Za 3) (Zd (.int 0))))) (Qh (Za 2)) (Jf)
def Mr:FS:=
 Z4 (J2 (U9 (Zg (Za 0) Zr)) (Ys 2 (Zm (Zf 2) (Zm (Zf 3) (Yw)))) Jz) (Qh (Zd .non))
def Jm:List D->Option SV:=Y5 Mr 4
def Gh:FS:=
 Z4 (Yv 2 (Z5 2 Wo (Zc (Za 1) (Zc (Zd (.str "in")) (Zl))))) (Z4 (Yv 3 (Zk Qn (Zk Qn (Zk Qn (Za 2) (Zd (.int 2))) (Zd (.int 0))) (Zd (.int 0)))) (Z4 (Yv 4 (Z5 2 Jm (Zc (Za 0) (Zc (tupF (Zg (Za 3) (Zg (Zk Qn (Za 2) (Zd (.int 1))) (Zr)))) (Zl))))) (Qh (ifF (Yg (Zk NW (Za 4) (Zd .non))) (Zd .non) (Z5 1 Bl (Zc (Za 4) (Zl)))))))
def Qw:List D->Option SV:=Y5 Gh 5
def Qq:FE:=
 Zk Qn (Za 0) (Zd (.int 0))
def Wc:FS:=
 Z4 (Yv 4 (ifF (Yg (Zk eqX (Za 3) (Zd (.str "in")))) (Z5 2 Qw (Zc (Za 0) (Zc (Za 1) (Zl)))) (Z5 2 Uq (Zc (Za 1) (Zc (Za 3) (Zl)))))) (L4 (Xo (Yg (Zk neX (Za 3) (Zd (.str "kind")))) (Yg (Zk Ft (Za 4) (Zd .non)))) (Cs 2 (Za 3) (Za 4)) (Jf))
def Bb:FS:=
 Z4 (Yv 2 (Cr)) (Z4 (J2 (Bx (Z5 1 Jy (Zc (U7 [.own,.acc] 1 (Bx (Zk Qn (Za 1) (Zd (.int 2)))) (Zf 0) (U6) Qq) (Zl)))) (Zf 3) Wc) (Qh (Za 2)))
def Qk:List D->Option SV:=Y5 Bb 5
def Ur:FS:=
 Cs 1 (Z5 1 Bl (Zc (Za 2) (Zl))) (tupF (Zg (Z5 2 Uq (Zc (Za 3) (Zc (Zd (.str "kind")) (Zl)))) (Zg (Z5 2 Qk (Zc (Za 0) (Zc (Za 3) (Zl)))) (Zr))))
def Re:FS:=
 Z4 (Yv 1 (Cr)) (Z4 (J2 (U9 (Zg (Za 0) Zr)) (Ys 2 (Zm (Zf 2) (Zm (Zf 3) (Yw)))) Ur) (Qh (Za 1)))
def Wp:List D->Option SV:=Y5 Re 4
def C6:FS:=
 Z4 (Yv 1 (Y4 KO (Zc (Zk Qn (Za 0) (Zd (.int 1))) Zl))) (Z4 (Cs 1 (Zd (.str "kind")) (Zk Qn (Za 0) (Zd (.int 0)))) (Qh (Za 1)))
def Qx:List D->Option SV:=Y5 C6 2
def Ut:FE:=
 Zk inZ (Za 0) (Za 1)
def Uu:FE:=
 Zk Qn (Za 1) (Za 0)
def Jb:FS:=
 L4 (Yg (Y4 LR (Zc (U7 [.own,.cap 0,.acc] 2 (Bx (Za 4)) (Zf 0) (U6) Ut) Zl))) (Xr 2 (tupF (Zg (Za 3) (Zg (Y4 L7 (Zc (U7 [.own,.cap 0,.acc] 2 (Bx (Za 4)) (Zf 0) (U6) Uu) Zl)) (Zr))))) (Jf)
def Rf:FS:=
 Z4 (Yv 2 (Bw (Zr))) (Z4 (J2 (U9 (Zg (Za 1) Zr)) (Ys 2 (Zm (Zf 3) (Zm (Zf 4) (Yw)))) Jb) (Qh (Za 2)))
def Of:List D->Option SV:=Y5 Rf 5
def Ql:FT:=
 Yg (Zk neX (Za 0) (Zd (.str "note")))
def Jr:FE:=
 tupF (Zg (Za 0) (Zg (Zk Qn (Za 1) (Za 0)) (Zg (Bw (Zg (Za 2) (Zr))) (Zr))))
def C7:FS:=
 Z4 (Yv 3 (Z5 1 Qx (Zc (Za 1) (Zl)))) (Z4 (Yv 4 (U7 [.own,.cap 3,.cap 0,.acc] 3 (Hb (Za 3)) (Zf 0) (Ql) Jr)) (Qh (tupF (Zg (Bw (Zg (Za 0) (Zr))) (Zg (Z5 2 Of (Zc (Za 3) (Zc (Za 2) (Zl)))) (Zg (Za 4) (Zr)))))))
def Qy:List D->Option SV:=Y5 C7 5
def Ou:FE:=
 Z5 3 Qy (Zc (tupF (Zg (Za 2) (Zg (Za 0) (Zr)))) (Zc (Zk Qn (Za 3) (Za 0)) (Zc (Za 1) (Zl))))
def Ms:FS:=
 Qh (Z5 1 Bk (Zc (U7 [.own,.cap 2,.cap 0,.cap 1,.acc] 4 (Hb (Za 1)) (Zf 0) (U6) Ou) (Zl)))
def Wx:List D->Option SV:=Y5 Ms 3
def Js:FS:=
 Z4 (L4 (Yg (Zk ltD (Za 1) (Y4 Aq (Zc (Za 0) Zl)))) (Qh (Zk Qn (Za 0) (Za 1))) (Jf)) (Qh (Zd (.int 0)))
def Yc:List D->Option SV:=Y5 Js 2
def T3:FS:=
 Cs 7 (Za 8) (tupF (Zg (Zd (.str "book")) (Zg (Cr) (Zr))))
def R8:FT:=
 orF (MB (Yg (unF (QV "dict") (Za 10)))) (Yg (Zk neY (Za 10) (Za 9)))
def R9:FT:=
 orF (MB (Yg (unF (QV "tuple") (Zk Qn (Za 10) (Za 8))))) (MB (Yg (unF (QV "dict") (Zk Qn (Zk Qn (Za 10) (Za 8)) (Zd (.int 1))))))
def FR:FS:=
 Z4 (Yv 1 (Z5 2 Yx (Zc (Z5 2 Wm (Zc (Z5 2 Yc (Zc (Za 0) (Zc (Zd (.int 0)) (Zl)))) (Zc (Zd (.int 16807)) (Zl)))) (Zc (Zd (.int 3)) (Zl))))) (Z4 (Yv 2 (Z5 2 Yx (Zc (Z5 2 Wm (Zc (Z5 2 Yc (Zc (Za 0) (Zc (Zd (.int 1)) (Zl)))) (Zc (Zd (.int 16807)) (Zl)))) (Zc (Zd (.int 6)) (Zl))))) (Z4 (Yv 3 (Z5 2 Yx (Zc (Z5 2 Wm (Zc (Z5 2 Yc (Zc (Za 0) (Zc (Zd (.int 2)) (Zl)))) (Zc (Zd (.int 16807)) (Zl)))) (Zc (Zd (.int 3)) (Zl))))) (Z4 (Yv 4 (slF slD (Bw (Zg (Bw (Zg (Zk Qn (Za 3) (Zd (.int 0))) (Zr))) (Zg (Bw (Zg (Zk Qn (Za 3) (Zd (.int 1))) (Zg (Zd (.str "kind")) (Zr)))) (Zr)))) (Xt) (P5 (Zk Oi (Z5 2 Yc (Zc (Za 0) (Zc (Zd (.int 3)) (Zl)))) (Zd (.int 3)))))) (Z4 (Yv 5 (Z5 4 Qj (Zc (Za 2) (Zc (Za 3) (Zc (slF slD (Za 0) (P5 (Zd (.int 6))) (P5 (Zd (.int 18)))) (Zc (Zk O0 (Zd (.int 2)) (Zk Oi (Z5 2 Yc (Zc (Za 0) (Zc (Zd (.int 4)) (Zl)))) (Zd (.int 9)))) (Zl))))))) (Z4 (Yv 6 (Z5 2 C4 (Zc (Z5 3 Wx (Zc (Zk Qn (Za 1) (Zd (.int 0))) (Zc (Zk Qn (Za 5) (Zd (.int 0))) (Zc (Za 4) (Zl))))) (Zc (Z5 3 Wx (Zc (Zk Qn (Za 1) (Zd (.int 1))) (Zc (Zk Qn (Za 5) (Zd (.int 1))) (Zc (Za 4) (Zl))))) (Zl))))) (Z4 (L4 (Yg (Zk eqY (Zk Oi (Z5 2 Yc (Zc (Za 0) (Zc (Zd (.int 5)) (Zl)))) (Zd (.int 4))) (Zd (.int 1)))) (Z4 (Yv 7 (Cr)) (Z4 (J2 (Bx (Z5 2 Yx (Zc (Z5 2 Wm (Zc (Z5 2 Yc (Zc (Za 0) (Zc (Zd (.int 5)) (Zl)))) (Zc (Zd (.int 39373)) (Zl)))) (Zc (Zd (.int 22)) (Zl))))) (Zf 8) T3) (Yv 6 (Z5 2 C4 (Zc (Za 6) (Zc (Z5 3 Wx (Zc (Zk Qn (Za 1) (Zd (.int 2))) (Zc (Za 7) (Zc (Za 4) (Zl))))) (Zl))))))) (Jf)) (Z4 (Yv 9 (Z5 1 Uz (Zc (Za 6) (Zl)))) (Z4 (M7 10 8 1 Wp (Zg (Za 6) (Zr)) R8 (Za 9) R9) (Qh (Zk eqY (Z5 1 Wp (Zc (Za 6) (Zl))) (Za 9)))))))))))
def KA:List D->Option SV:=Y5 FR 11
abbrev At(K:af)(x:Str)(i:Nat):Prop:=∃f fd,AtF K x (top i) f fd
structure Env(K:af)(mg:Str->Option ag)(c0:ao):Prop where
 u:Und K mg
 a0:At K "_law_names" 24
 a1:At K "_law_mixed" 23
 a2:At K "_law_shelves" 25
 a3:At K "holders_of" 12
 a4:At K "tied" 13
 a5:At K "join_heaps" 14
 a6:At K "joined" 11
 a7:At K "pour" 10
 a8:At K "_law_best" 27
 a9:At K "_law_letter" 26
 a10:At K "_law_book" 28
 a11:At K "_law_due" 29
 a12:At K "letter" 4
 a13:∃f fd,AtC K c0 "told_triple" (top 17) f fd
 a14:At K "tells" 16
 a15:At K "each_once" 2
 a16:At K "heap_of" 15
 a17:At K "told_in" 20
 a18:At K "told_fields" 19
 a19:At K "shelf_of" 18
 a20:At K "own_texts" 8
 a21:At K "marks_of" 9
 a22:At K "lone_heap" 7
 a23:At K "pool_of" 6
 a24:At K "_law_cell_at" 22
 a25:At K "law" 30
 z_all:mg "all"=aB
 z_dict:mg "dict"=aB
 z_enumerate:mg "enumerate"=aB
 z_int:mg "int"=aB
 z_isinstance:mg "isinstance"=aB
 z_len:mg "len"=aB
 z_list:mg "list"=aB
 z_min:mg "min"=aB
 z_range:mg "range"=aB
 z_set:mg "set"=aB
 z_sorted:mg "sorted"=aB
 z_str:mg "str"=aB
 z_tuple:mg "tuple"=aB
 c_SMALL_LETTERS:∃t,PySem.W.nsIn K mainGlobals "SMALL_LETTERS"=aA (aA (.str "abcdefghijklmnopqrstuvwxyz" t))
section
variable{P:b8}{w:dq}{K:af}{mg:Str->Option ag}{base:f8}{c0 tq:ao}(E:Env K mg c0)
include E
noncomputable abbrev QN:Str:=(dz "told_triple"++ ".<locals>."++ "<lambda>")
theorem k0:Sv P w K mg base Om 1 "_law_names" ["_law_number","_law_many"] (Wf K 2 Yx):=Kv E.u E.a0 0 2 ["_law_number","_law_many","_law_letters","_law_size","_law_at","_law_names_here","_law_turn","_law_name","_law_k","_law_step"] Yx C1 λnd _ hr hu hv=>(Zi (Yd 2 nd Qi) (Zi (Yd 3 nd (Uf Zp (Ug (Zb 0) Zp))) (Zi (Yd 4 nd (Ug (O5 (Zb 0) Zp) (Zb 3))) (Zi (Yd 5 nd (U8 Yt)) (Zi (Qd di rfl (EJ E.z_range (Zb 1)) (Z0 6 nd) (Zi (Yd 7 nd Qi) (Zi (Qd di rfl (EJ E.z_range (Zb 3)) (Z0 8 nd) (Zi (Yd 9 nd (Nl (Zb 6) (pE E.z_int (sZ hv (Zb 8) (Zb 4))))) (Zq (Yd 7 nd (Uf (Zb 7) (Z8 hu (Zb 2) (Ug (Uf (O5 (Zb 0) (Uf (Zb 8) Zp)) (Zb 9)) Zp))))))) (Zq (KR 5 (Zb 7)))))) (Zq (Wh (Zb 5))))))))
theorem k1:Sv P w K mg base Om 1 "_law_mixed" ["_law_cell","_law_by"] (Wf K 2 Wm):=Kv E.u E.a1 0 2 ["_law_cell","_law_by"] Wm C2 λnd _ hr hu hv=>(Zq (Wh (Ug (Nl (Ug (Zb 0) Zp) (Zb 1)) Zp)))
theorem k2:Sv P w K mg base Om 2 "_law_shelves" ["_law_keys","_law_fields","_law_cells","_law_wide"] (Wf K 4 Qj):=Kv E.u E.a2 1 4 ["_law_keys","_law_fields","_law_cells","_law_wide","_law_shelves_here","_law_k","_law_cell","_law_number","_law_own","_law_j","_law_field"] Qj O9 λnd _ hr hu hv=>(Zi (Yd 4 nd oy) (Zi (Qd di rfl (Os E.z_enumerate (Zx (Zb 2) Yt)) (Cb rfl (Yi (Z0 5 nd) (Yi (Z0 6 nd) Ua))) (Zi (Yd 7 nd (Z7 (k1 E) hr (Zh (Uf (Zb 6) (Nl (Zb 5) (Zb 5))) (Zh Zp Z3)))) (Zi (Yd 8 nd Um) (Zi (Qd di rfl (Os E.z_enumerate (Zx (Uf (Zb 1) (U8 (Zx Qi Yt))) Yt)) (Cb rfl (Yi (Z0 9 nd) (Yi (Z0 10 nd) Ua))) (Zq (G2 (LU (Ug (O5 (Zb 7) (Uf Zp (Zb 9))) Zp) Zp) (Zq (Cc 8 hu (Zb 10) (Uf Qi (qt E.z_str (Ug (O5 (Zb 7) (Uf Zp (Nl Zp (Zb 9)))) (Zb 3)))))) Qr))) (Zi (G2 (LU (Ug (O5 (Zb 7) Zp) Zp) Zp) (Zq (Cc 8 hu Qi (Z8 hu (Uf (Zb 0) (U8 (Zx Qi Yt))) (Ug (O5 (Zb 7) Zp) Zp)))) Qr) (Zq (qM 4 hu (Ug (Zb 5) Zp) (Z8 hu (Zb 0) (O5 (Zb 5) Zp)) (Uh (Zx (Z8 hu (U8 (ng [("book",_,_),("part",_,_)] Yt)) (Ug (O5 (Zb 7) Zp) Zp)) (Zx (Zb 8) Yt)))))))))) (Zq (yO (Zb 4)))))
theorem k3:Sv P w K mg base Om 1 "holders_of" ["heaps"] (Wf K 1 Q7):=Kv E.u E.a3 0 1 ["heaps","holders","place","heap","tie"] Q7 B6 λnd _ hr hu hv=>(Zi (Yd 1 nd xD) (Zi (Qd di rfl (Os E.z_enumerate (Zx (Zb 0) Yt)) (Cb rfl (Yi (Z0 2 nd) (Yi (Z0 3 nd) Ua))) (Zq (Qd di rfl (Ui (Uf (Z8 hu (Zb 3) Zp) (Z8 hu (Zb 3) Zp))) (Z0 4 nd) (Zq (nB 1 2 hv (Zb 4)))))) (Zq (yO (Zb 1)))))
theorem k4:Sv P w K mg base Om 1 "tied" ["heaps","holders","place"] (Wf K 3 E5):=Kv E.u E.a4 0 3 ["heaps","holders","place","found","left","heap","tie","other"] E5 Hx λnd _ hr hu hv=>(Zi (Yd 3 nd (o4 2 QU)) (Zi (Yd 4 nd (U8 (Zx (Zb 2) Yt))) (Zi (D9 NR di (LU (Fw E.z_len (Zb 4)) Zp) (Zi (o5 5 0 4 nd (KL 0) (KL 4)) (Zq (Qd di rfl (Ui (Uf (Z8 hu (Zb 5) Zp) (Z8 hu (Zb 5) Zp))) (Z0 6 nd) (Zq (Qd di rfl (Ui (zE hv (Zb 1) (Zb 6))) (Z0 7 nd) (Zq (G2 (Sq hu (Zb 7) (Zb 3)) (Zi (Cc 3 hu (Zb 7) QU) (Zq (KR 4 (Zb 7)))) Qr)))))))) (Zq (Wh (yK rfl E.z_list (Zb 3)))))))
theorem k5:Sv P w K mg base Om 1 "join_heaps" ["heaps"] (Wf K 1 Q9):=Kv E.u E.a5 0 1 ["heaps","names","marks","tellers","heap","field","value","told_by","fields"] Q9 B7 λnd _ hr hu hv=>(Zi (Yd 1 nd (U8 Yt)) (Zi (Yd 2 nd (U8 Yt)) (Zi (Yd 3 nd xD) (Zi (Qd di rfl (Ui (Zb 0)) (Z0 4 nd) (Zi (yD 1 (Z8 hu (Zb 4) Zp)) (Zi (yD 2 (Z8 hu (Zb 4) Zp)) (Zq (Qd di rfl (Ui (Z8 hu (Zb 4) Zp)) (Cb rfl (Yi (Z0 5 nd) (Yi (Z0 6 nd) (Yi (Z0 7 nd) Ua)))) (Zq (nA 3 7 hv (Uh (Zx (Zb 5) (Zx (Zb 6) Yt)))))))))) (Zi (Mo 8 ["pair","tellers",".acc"] nd (qQ (Zb 3)) (λnd=>(Z0 0 nd)) (xt0) ((Uh (Zx (Z8 hu (Zb 0) Zp) (Zx (Z8 hu (Zb 0) Zp) (Zx (Hs rfl hv E.z_sorted E.z_set (zE hv (Zb 1) (Zb 0))) Yt)))))) (Zq (Wh (Uh (Zx (Hs rfl hv E.z_sorted E.z_set (Zb 1)) (Zx (Hs rfl hv E.z_sorted E.z_set (Zb 2)) (Zx (yQ hv E.z_sorted (Zb 8)) Yt)))))))))))
theorem k6:Sv P w K mg base Om 2 "joined" ["heaps"] (Wf K 1 Bk):=Kv E.u E.a6 1 1 ["heaps","holders","pool","seen","place","group","other"] Bk E6 λnd _ hr hu hv=>(Zi (Yd 1 nd (Z7 (k3 E) hr (Zh (Zb 0) Z3))) (Zi (Yd 2 nd (U8 Yt)) (Zi (Yd 3 nd Um) (Zi (Qd di rfl (EJ E.z_range (Fw E.z_len (Zb 0))) (Z0 4 nd) (Zq (G2 (Sq hu (Zb 4) (Zb 3)) (Zi (Yd 5 nd (Z7 (k4 E) hr (Zh (Zb 0) (Zh (Zb 1) (Zh (Zb 4) Z3))))) (Zi (Qd di rfl (Ui (Zb 5)) (Z0 6 nd) (Zq (Cc 3 hu (Zb 6) QU))) (Zq (KR 2 (Z7 (k5 E) hr (Zh (Eu ["other","heaps",".acc"] (Ui (Zb 5)) (λnd=>(Z0 0 nd)) (xt0) ((Z8 hu (Zb 1) (Zb 0)))) Z3)))))) Qr))) (Zq (Wh (yQ hv E.z_sorted (Zb 2))))))))
theorem k7:Sv P w K mg base Om 3 "pour" ["one","other"] (Wf K 2 C4):=Kv E.u E.a7 2 2 ["one","other"] C4 Hy λnd _ hr hu hv=>(Zq (Wh (Z7 (k6 E) hr (Zh (Uf (Zb 0) (Zb 1)) Z3))))
theorem k8:Sv P w K mg base Om 1 "_law_best" ["_law_heap","_law_field"] (Wf K 2 Wb):=Kv E.u E.a8 0 2 ["_law_heap","_law_field","_law_best_here","_law_one","_law_value","_law_names_here"] Wb Rc λnd _ hr hu hv=>(Zi (Yd 2 nd (Uh (Zx Gv (Zx (U8 Yt) Yt)))) (Zi (Qd di rfl (Ui (Z8 hu (Zb 0) Zp)) (Cb rfl (Yi (Z0 3 nd) (Yi (Z0 4 nd) (Yi (Z0 5 nd) Ua)))) (Zq (G2 (PW.pt (EM (EI hv (Zb 3) (Zb 1)) (Xv (LU (Fw E.z_len (Zb 5)) (Fw E.z_len (Z8 hu (Zb 2) Zp)))))) (Zq (Yd 2 nd (Uh (Zx (Zb 4) (Zx (Zb 5) Yt))))) Qr))) (Zq (Wh (Zb 2)))))
theorem k9:Sv P w K mg base Om 1 "_law_letter" ["_law_n"] (Wf K 1 Qb):=Kv E.u E.a9 0 1 ["_law_n","_law_letters"] Qb R7 λnd _ hr hu hv=>(Zi (Yd 1 nd Qi) (Zi (G2 (BY (Zb 0) Zp) (Zq (Wh (Z8 hu (Zb 1) (Zb 0)))) Qr) (Zq (Wh (Uf (Z8 hu (Zb 1) (zj (O5 (Zb 0) Zp) Zp)) (Z8 hu (Zb 1) (Ug (Zb 0) Zp)))))))
theorem k10:Sv P w K mg base Om 2 "_law_book" ["_law_pool","_law_heap"] (Wf K 2 Qu):=Kv E.u E.a10 1 2 ["_law_pool","_law_heap","_law_value","_law_names_here","_law_place","_law_other"] Qu B9 λnd _ hr hu hv=>(Zi (kI (Z7 (k8 E) hr (Zh (Zb 1) (Zh Qi Z3))) (Cb rfl (Yi (Z0 2 nd) (Yi (Z0 3 nd) Ua)))) (Zi (G2 (Xu (Zb 2) Gv) (Zq (Qd di rfl (Os E.z_enumerate (Zx (Zb 0) Yt)) (Cb rfl (Yi (Z0 4 nd) (Yi (Z0 5 nd) Ua))) (Zq (G2 (zD hv (Uh (Zx (Z8 hu (Z8 hu (Zb 3) Zp) Zp) (Zx (Zb 2) Yt))) (Z8 hu (Zb 5) Zp)) (Zq (Wh (Z7 (k9 E) hr (Zh (Zb 4) Z3)))) Qr)))) Qr) (Zq (Wh Gv))))
theorem k11:Sv P w K mg base Om 3 "_law_due" ["_law_pool"] (Wf K 1 Uz):=Kv E.u E.a11 2 1 ["_law_pool","_law_due_here","_law_place","_law_heap","_law_own","_law_one","_law_value","_law_names_here","_law_book_here"] Uz Mq λnd _ hr hu hv=>(Zi (Yd 1 nd Um) (Zi (Qd di rfl (Os E.z_enumerate (Zx (Zb 0) Yt)) (Cb rfl (Yi (Z0 2 nd) (Yi (Z0 3 nd) Ua))) (Zi (Yd 4 nd Um) (Zi (Qd di rfl (Ui (Z8 hu (Zb 3) Zp)) (Cb rfl (Yi (Z0 5 nd) (Yi (Z0 6 nd) (Yi (Z0 7 nd) Ua)))) (Zq (G2 (PW.pt (EM (KQ hv (Zb 5) Qi) (Xv (KQ hv (Zb 5) Qi)))) (Zq (Cc 4 hu (Zb 5) (Z8 hu (Z7 (k8 E) hr (Zh (Zb 3) (Zh (Zb 5) Z3))) Zp))) Qr))) (Zi (Yd 8 nd (Z7 (k10 E) hr (Zh (Zb 0) (Zh (Zb 3) Z3)))) (Zi (G2 (Xu (Zb 8) Gv) (Zq (Cc 4 hu Qi (Zb 8))) Qr) (Zq (Cc 1 hu (Z7 (k9 E) hr (Zh (Zb 2) Z3)) (Uh (Zx (Z8 hu (Z7 (k8 E) hr (Zh (Zb 3) (Zh Qi Z3))) Zp) (Zx (Zb 4) Yt)))))))))) (Zq (Wh (Zb 1)))))
theorem k12:Sv P w K mg base Om 1 "letter" ["n"] (Wf K 1 Bl):=Kv E.u E.a12 0 1 ["n","text","left"] Bl Vf λnd _ hr hu hv=>(Zi (Yd 1 nd Qi) (Zi (Yd 2 nd (Zb 0)) (Zi (D9 NR di (u5 (Zb 2) Zp) (Zi (Yd 1 nd (Uf (Z8 hu (ot E.u E.c_SMALL_LETTERS) (Ug (Zb 2) Zp)) (Zb 1))) (Zq (Yd 2 nd (zj (O5 (Zb 2) Zp) Zp))))) (Zq (Wh (Zb 1))))))
theorem k13(CT:PySem.W.CodeHd base c0 tq)(BM:L2.Bj mg base):Sv P w K mg base Om 4 "told_triple" ["heap","field"] (L2.V4 tq QN (Wf K 2 Wo)):=uo (tq:=tq) (q:=QN) E.u E.a13 3 2 ["heap","field","triples"] Wo Ba λnd hT hr hu hv=>(Zi (Mo 2 ["triple","field",".acc"] nd (Ui (Z8 hu (Zb 0) Zp)) (λnd=>(Z0 0 nd)) (xt λ_=>(EI hv (Z8 hu (Zb 0) Zp) (Zb 1))) ((Zb 0))) (Zq (Wh (qX (S:=by exact⟨rfl,rfl,rfl,rfl,by decide+kernel,by decide⟩) (YM:=by intro _ _ _ _ _;rfl) "triple" (hr.mono (by decide)) hv E.z_min CT hT BM (Zb 2) (λ_ _ _ _ _ _ hu=>(Uh (Zx (se (Fw E.z_len (Z8 hu (Zb 0) Zp))) (Zx (Z8 hu (Zb 0) Zp) Yt))))))))
theorem k14(CT:PySem.W.CodeHd base c0 tq)(BM:L2.Bj mg base):Sv P w K mg base Om 5 "tells" ["heap","field"] (L2.V4 tq QN (Wf K 2 Uq)):=LJ (tq:=tq) (q:=QN) E.u E.a14 4 2 ["heap","field","triple"] Uq T0 λnd hT hr hu hv=>(Zi (Yd 2 nd (B5 hT (k13 E CT BM) hr (Zh (Zb 0) (Zh (Zb 1) Z3)))) (Zq (Wh (G_ (zi (Zb 2) Gv) Gv (Z8 hu (Zb 2) Zp)))))
theorem k15:Sv P w K mg base Om 1 "each_once" ["things"] (Wf K 1 Jy):=Kv E.u E.a15 0 1 ["things","found","thing"] Jy C5 λnd _ hr hu hv=>(Zi (Yd 1 nd Um) (Zi (Qd di rfl (Ui (Zb 0)) (Z0 2 nd) (Zq (Cc 1 hu (Zb 2) QU))) (Zq (Wh (yK rfl E.z_list (Zb 1))))))
theorem k16:Sv P w K mg base Om 1 "heap_of" ["pool","name"] (Wf K 2 Jm):=Kv E.u E.a16 0 2 ["pool","name","place","heap"] Jm Mr λnd _ hr hu hv=>(Zi (Qd di rfl (Os E.z_enumerate (Zx (Zb 0) Yt)) (Cb rfl (Yi (Z0 2 nd) (Yi (Z0 3 nd) Ua))) (Zq (G2 (zD hv (Zb 1) (Z8 hu (Zb 3) Zp)) (Zq (Wh (Zb 2))) Qr))) (Zq (Wh Gv)))
theorem k17(CT:PySem.W.CodeHd base c0 tq)(BM:L2.Bj mg base):Sv P w K mg base Om 5 "told_in" ["pool","heap"] (L2.V4 tq QN (Wf K 2 Qw)):=LJ (tq:=tq) (q:=QN) E.u E.a17 4 2 ["pool","heap","triple","book","place"] Qw Gh λnd hT hr hu hv=>(Zi (Yd 2 nd (B5 hT (k13 E CT BM) hr (Zh (Zb 1) (Zh Qi Z3)))) (Zi (Yd 3 nd (Z8 hu (Z8 hu (Z8 hu (Zb 2) Zp) Zp) Zp)) (Zi (Yd 4 nd (Z7 (k16 E) hr (Zh (Zb 0) (Zh (Uh (Zx (Zb 3) (Zx (Z8 hu (Zb 2) Zp) Yt))) Z3)))) (Zq (Wh (G_ (zi (Zb 4) Gv) Gv (Z7 (k12 E) hr (Zh (Zb 4) Z3))))))))
theorem k18(CT:PySem.W.CodeHd base c0 tq)(BM:L2.Bj mg base):Sv P w K mg base Om 6 "told_fields" ["pool","heap"] (L2.V4 tq QN (Wf K 2 Qk)):=LJ (tq:=tq) (q:=QN) E.u E.a18 5 2 ["pool","heap","fields","field","text"] Qk Bb λnd hT hr hu hv=>(Zi (Yd 2 nd Um) (Zi (Qd di rfl (Ui (Z7 (k15 E) hr (Zh (Eu ["triple",".acc"] (Ui (Z8 hu (Zb 1) Zp)) (λnd=>(Z0 0 nd)) (xt0) ((Z8 hu (Zb 0) Zp))) Z3))) (Z0 3 nd) (Zi (Yd 4 nd (G_ (EI hv (Zb 3) Qi) (B5 hT (k17 E CT BM) hr (Zh (Zb 0) (Zh (Zb 1) Z3))) (B5 hT (k14 E CT BM) hr (Zh (Zb 1) (Zh (Zb 3) Z3))))) (Zq (G2 (PW.pt (EM (KQ hv (Zb 3) Qi) (Xv (Xu (Zb 4) Gv)))) (Zq (Cc 2 hu (Zb 3) (Zb 4))) Qr)))) (Zq (Wh (Zb 2)))))
theorem k19(CT:PySem.W.CodeHd base c0 tq)(BM:L2.Bj mg base):Sv P w K mg base Om 7 "shelf_of" ["pool"] (L2.V4 tq QN (Wf K 1 Wp)):=LJ (tq:=tq) (q:=QN) E.u E.a19 6 1 ["pool","shelf","place","heap"] Wp Re λnd hT hr hu hv=>(Zi (Yd 1 nd Um) (Zi (Qd di rfl (Os E.z_enumerate (Zx (Zb 0) Yt)) (Cb rfl (Yi (Z0 2 nd) (Yi (Z0 3 nd) Ua))) (Zq (Cc 1 hu (Z7 (k12 E) hr (Zh (Zb 2) Z3)) (Uh (Zx (B5 hT (k14 E CT BM) hr (Zh (Zb 3) (Zh Qi Z3))) (Zx (B5 hT (k18 E CT BM) hr (Zh (Zb 0) (Zh (Zb 3) Z3))) Yt)))))) (Zq (Wh (Zb 1)))))
theorem k20:Sv P w K mg base Om 1 "own_texts" ["work"] (Wf K 1 Qx):=Kv E.u E.a20 0 1 ["work","texts"] Qx C6 λnd _ hr hu hv=>(Zi (Yd 1 nd (kP E.z_dict (Z8 hu (Zb 0) Zp))) (Zi (Cc 1 hu Qi (Z8 hu (Zb 0) Zp)) (Zq (Wh (Zb 1)))))
theorem k21:Sv P w K mg base Om 1 "marks_of" ["texts","rules"] (Wf K 2 Of):=Kv E.u E.a21 0 2 ["texts","rules","marks","number","rule"] Of Rf λnd _ hr hu hv=>(Zi (Yd 2 nd (U8 Yt)) (Zi (Qd di rfl (Os E.z_enumerate (Zx (Zb 1) Yt)) (Cb rfl (Yi (Z0 3 nd) (Yi (Z0 4 nd) Ua))) (Zq (G2 (D8 (sX E.z_all (Eu ["field","texts",".acc"] (Ui (Zb 4)) (λnd=>(Z0 0 nd)) (xt0) ((sN hu (Zb 0) (Zb 1)))))) (Zq (KR 2 (Uh (Zx (Zb 3) (Zx (ny E.z_tuple (Eu ["field","texts",".acc"] (Ui (Zb 4)) (λnd=>(Z0 0 nd)) (xt0) ((Z8 hu (Zb 1) (Zb 0))))) Yt))))) Qr))) (Zq (Wh (Zb 2)))))
theorem k22:Sv P w K mg base Om 2 "lone_heap" ["name","work","rules"] (Wf K 3 Qy):=Kv E.u E.a22 1 3 ["name","work","rules","texts","fields"] Qy C7 λnd _ hr hu hv=>(Zi (Yd 3 nd (Z7 (k20 E) hr (Zh (Zb 1) Z3))) (Zi (Mo 4 ["field","texts","name",".acc"] nd (EF (Zb 3)) (λnd=>(Z0 0 nd)) (xt λ_=>(KQ hv (Zb 0) Qi)) ((Uh (Zx (Zb 0) (Zx (Z8 hu (Zb 1) (Zb 0)) (Zx (U8 (Zx (Zb 2) Yt)) Yt)))))) (Zq (Wh (Uh (Zx (U8 (Zx (Zb 0) Yt)) (Zx (Z7 (k21 E) hr (Zh (Zb 3) (Zh (Zb 2) Z3))) (Zx (Zb 4) Yt))))))))
theorem k23:Sv P w K mg base Om 3 "pool_of" ["book","shelf","rules"] (Wf K 3 Wx):=Kv E.u E.a23 2 3 ["book","shelf","rules"] Wx Ms λnd _ hr hu hv=>(Zq (Wh (Z7 (k6 E) hr (Zh (Eu ["key","rules","book","shelf",".acc"] (EF (Zb 1)) (λnd=>(Z0 0 nd)) (xt0) ((Z7 (k22 E) hr (Zh (Uh (Zx (Zb 2) (Zx (Zb 0) Yt))) (Zh (Z8 hu (Zb 3) (Zb 0)) (Zh (Zb 1) Z3)))))) Z3))))
theorem k24:Sv P w K mg base Om 1 "_law_cell_at" ["_law_script","_law_k"] (Wf K 2 Yc):=Kv E.u E.a24 0 2 ["_law_script","_law_k"] Yc Js λnd _ hr hu hv=>(Zi (G2 (BY (Zb 1) (Fw E.z_len (Zb 0))) (Zq (Wh (Z8 hu (Zb 0) (Zb 1)))) Qr) (Zq (Wh Zp)))
end
theorem gJ{K}(E:Env K mg c0)(v5:mg "law"=aA (.ref fa))(hct:PySem.W.codeHdIn K c0 tq=aC):BN l "_law_script" 8 KA tq QN K w mg fa:=by obtain⟨_,_,a⟩:=E.a25;cases v5.symm.trans (E.u a.1);refine⟨_,ou a.2 λ_ _ _ _ _ _ _=>rfl,λbase kb nb BM=>?_⟩;have CT:=PySem.W.codeHd_of_K kb hct;exact BO a 7 1 ["_law_script","_law_books","_law_keys","_law_fields","_law_rules","_law_shelves_here","_law_pool","_law_third","_law_key","_law_due_here","_law_found"] KA FR λnd hT hr hu hv=>(Zi (Yd 1 nd (Z7 (k0 E) hr (Zh (Z7 (k1 E) hr (Zh (Z7 (k24 E) hr (Zh (Zb 0) (Zh Zp Z3))) (Zh Zp Z3))) (Zh Zp Z3)))) (Zi (Yd 2 nd (Z7 (k0 E) hr (Zh (Z7 (k1 E) hr (Zh (Z7 (k24 E) hr (Zh (Zb 0) (Zh Zp Z3))) (Zh Zp Z3))) (Zh Zp Z3)))) (Zi (Yd 3 nd (Z7 (k0 E) hr (Zh (Z7 (k1 E) hr (Zh (Z7 (k24 E) hr (Zh (Zb 0) (Zh Zp Z3))) (Zh Zp Z3))) (Zh Zp Z3)))) (Zi (Yd 4 nd (BW (U8 (Zx (U8 (Zx (Z8 hu (Zb 3) Zp) Yt)) (Zx (U8 (Zx (Z8 hu (Zb 3) Zp) (Zx Qi Yt))) Yt))) pG (Xw (Ug (Z7 (k24 E) hr (Zh (Zb 0) (Zh Zp Z3))) Zp)))) (Zi (Yd 5 nd (Z7 (k2 E) hr (Zh (Zb 2) (Zh (Zb 3) (Zh (BW (Zb 0) (Xw Zp) (Xw Zp)) (Zh (Uf Zp (Ug (Z7 (k24 E) hr (Zh (Zb 0) (Zh Zp Z3))) Zp)) Z3)))))) (Zi (Yd 6 nd (Z7 (k7 E) hr (Zh (Z7 (k23 E) hr (Zh (Z8 hu (Zb 1) Zp) (Zh (Z8 hu (Zb 5) Zp) (Zh (Zb 4) Z3)))) (Zh (Z7 (k23 E) hr (Zh (Z8 hu (Zb 1) Zp) (Zh (Z8 hu (Zb 5) Zp) (Zh (Zb 4) Z3)))) Z3)))) (Zi (G2 (sQ hv (Ug (Z7 (k24 E) hr (Zh (Zb 0) (Zh Zp Z3))) Zp) Zp) (Zi (Yd 7 nd Um) (Zi (Qd di rfl (Ui (Z7 (k0 E) hr (Zh (Z7 (k1 E) hr (Zh (Z7 (k24 E) hr (Zh (Zb 0) (Zh Zp Z3))) (Zh Zp Z3))) (Zh Zp Z3)))) (Z0 8 nd) (Zq (Cc 7 hu (Zb 8) (Uh (Zx Qi (Zx Um Yt)))))) (Zq (Yd 6 nd (Z7 (k7 E) hr (Zh (Zb 6) (Zh (Z7 (k23 E) hr (Zh (Z8 hu (Zb 1) Zp) (Zh (Zb 7) (Zh (Zb 4) Z3)))) Z3))))))) Qr) (Zi (Yd 9 nd (Z7 (k11 E) hr (Zh (Zb 6) Z3))) (nX (lg 10 hT (k19 E CT BM) hr nd (Zx (Zb 6) Yt)) (AA (PW.pt (BX (EL (D8 (EK E.z_isinstance E.z_dict boot_dict (P8 _) (Zb 10)))) (zh (sP hv (Zb 10) (Zb 9))))) (Zq (Wh QU))) (rB 8 di rfl nd (λ_=>(Zb 9)) (AA (PW.pt (BX (EL (D8 (EK E.z_isinstance E.z_tuple boot_tuple (jf _) (Z8 hu (Zb 10) (Zb 8))))) (zh (EL (D8 (EK E.z_isinstance E.z_dict boot_dict (P8 _) (Z8 hu (Z8 hu (Zb 10) (Zb 8)) Zp))))))) (Zq (Wh QU))) (rC 10 8 hu (KL 10) (KL 8))) (Zq (Wh (sR hv (B5 hT (k19 E CT BM) hr (Zh (Zb 6) Z3)) (Zb 9)))))))))))))
end Gen
namespace My
open L2
theorem Og{r}(h1:a δ=aA (.nx δ1))(h2:b δ1=r):Z4 a b δ=r:=by simp[h1,h2]
theorem tS{e}{δ δ1 δ2}{rv}(h1:e δ=aA (rv,δ1))(h2:stow i rv δ1=aA δ2):Yv i e δ=aA (.nx δ2):=by simp[h1,h2,-stow]
theorem qj{fa}{δ δ1 δ2 δ3}{rvs}{ds}{sv}{c}(h1:fa δ=aA (rvs,δ1))(h2:frzAll rvs δ1=aA (ds,δ2))(hn:ds.length=n)(h3:g ds=aA sv)(hs:sv.scal=c)(hc:(bif c then δ1 else δ2)=δ3):Z5 n g fa δ=aA (.tmp sv,δ3):=by cases c<;> simp_all[-frzAll,-SV.scal]
theorem yA{fa}{δ δ1}{rvs}{ds}{sv}(h1:fa δ=aA (rvs,δ1))(h2:Bv rvs δ1=aA ds)(h3:g ds=aA sv):Y4 g fa δ=aA (.tmp sv,δ1):=by simp[h1,h2,h3,-Bv]
theorem tR{fa fb}{δ δ1 δ2}{u v}{x y}{sv}(h1:fa δ=aA (u,δ1))(h2:fb δ1=aA (v,δ2))(h3:Bv [u,v] δ2=aA [x,y])(h4:g x y=aA sv):Zk g fa fb δ=aA (.tmp sv,δ2):=by unfold Zk;exact yA (rvs:=[u,v]) (by simp[h1,h2]) h3 h4
theorem sM{δ1 δ2:Yp}{u}{us}(h1:fe δ=aA (u,δ1))(h2:fa δ1=aA (us,δ2)):Zc fe fa δ=aA (u::us,δ2):=by simp[h1,h2]
theorem qi{δ1:Yp}{b}(h:fe δ=aA (.tmp (.fz (.bl b)),δ1)):Yg fe δ=aA (b,δ1):=by simp[h]
theorem um{δ1:Yp}{c}{r}(h1:t δ=aA (c,δ1))(h2:(bif c then a δ1 else b δ1)=r):L4 t a b δ=r:=by cases c<;> simp_all
theorem sL{δ1:Yp}{rv}{sv}(h1:fe δ=aA (rv,δ1))(h2:FP rv δ1=aA sv):Qh fe δ=aA (.rt sv):=by simp[h1,h2,-FP]
theorem sK(h:L2.atI xs i=aA d):Qn (.lst xs) (.int i)=aA (.fz d):=by simp[h]
theorem z_(h:f (An n ds)=aA (.rt sv)):Y5 f n ds=aA sv:=by unfold Y5;rw[h]
theorem sJ{δ1:Yp}{xs}{r}(h1:fi δ=aA (xs,δ1))(h2:Yf tg body xs δ1=r):J2 fi tg body δ=r:=by simp[h1,h2,-Yf]
theorem qh{δ1 δ2:Yp}{u}{xs}(h1:fe δ=aA (u,δ1))(h2:frz u δ1=aA (.lst xs,δ2)):Bx fe δ=aA (xs,δ2):=by simp[h1,h2,-frz]
theorem qg{δ1 δ2 δ3:Yp}{u}{d}{ds}(h1:fe δ=aA (u,δ1))(h2:frz u δ1=aA (d,δ2))(h3:fd δ2=aA (ds,δ3)):Zg fe fd δ=aA (d::ds,δ3):=by simp[h1,h2,h3,-frz]
theorem sI{δ1:Yp}{ds}(h1:fd δ=aA (ds,δ1))(h2:decide (ds.length<=cj)=aC):tupF fd δ=aA (.tmp (.fz (.tup ds)),δ1):=by simp[h1,eC h2]
theorem sG{δ1:Yp}{c}{r}(h1:t δ=aA (c,δ1))(h2:(bif c then a δ1 else b δ1)=r):ifF t a b δ=r:=by cases c<;> simp_all
theorem sE{δ1:Yp}{c}{r}(h1:t δ=aA (c,δ1))(h2:(bif c then u δ1 else aA (aD,δ1))=r):Xo t u δ=r:=by unfold Xo;rw[h1];cases c<;> simpa using h2
theorem uk{α:Type}{a b r:α}(_:0=0)(h:a=r):(bif aC then a else b)=r:=h
theorem uj{α:Type}{a b r:α}(_:0=0)(h:b=r):(bif aD then a else b)=r:=h
theorem qf{fi}{g}{tt}{te}{δ δ1 δ2 δ3}{xs ds ys}(h1:fi δ=aA (xs,δ1))(h2:frzAll (caps src) δ1=aA (ds,δ2))(h3:Y1 src k g tt te xs (bD src δ2)=aA δ3)(h4:δ3[k]? =aA (aA (.ol ys))):U7 src k fi g tt te δ=aA (.tmp (.ol ys),δ2):=by unfold U7;simp only[h1,h2,h3,h4,bu]
theorem t_{fv:FE}{δ δ1 δ2 δ3}{u v}{d kd}{sv}{r}(h1:fv δ=aA (u,δ1))(h2:frz u δ1=aA (d,δ2))(h0:SV.isOD (δ2[i]?)=aC)(h3:fk δ2=aA (v,δ3))(h4:rdv v δ3=aA kd)(h5:LQ kd d (δ3[i]?)=aA sv)(h6:aA (.nx (δ3.set i (aA sv)))=r):Cs i fk fv δ=r:=by rw[<-h6];simp only[Cs,h1,h2,h0,h3,h4,h5,bu,if_true]
theorem t9{d:D}{vs XQ}{k}{ks ks'}(h8:Y6 ks vs k d=(ks',XQ))(h5:kd.key? =aA k)(h9:vs.length<cj):LQ kd d (aA (aA (.oK ks vs)))=aA (.oK ks' XQ):=by simp[h5,h8,h9,-D.key?,-Y6]
theorem ui[Decidable p]{α:Type}{a b r:α}(h:p)(h2:a=r):(bif decide p then a else b)=r:=by rw[eB h];exact h2
theorem uh[Decidable p]{α:Type}{a b r:α}(h:¬p)(h2:b=r):(bif decide p then a else b)=r:=by rw[eA h];exact h2
theorem t8[Decidable p]{α:Type}{a b r:α}(h:¬p)(h2:a=r):(bif !decide p then a else b)=r:=by rw[eA h];exact h2
theorem ug{δ1:Yp}{xs}(h1:fd δ=aA ([.lst xs],δ1)):U9 fd δ=aA (W2 xs,δ1):=by simp[h1]
theorem tQ(h:xs.length+ys.length<=cj):O0 (.lst xs) (.lst ys)=aA (.ol (xs++ys)):=by simp[h]
def fU(k:String)(l:List Lean.Syntax):=Lean.Syntax.node .none (.str `Lean.Parser.Tactic k) l.toArray
def fT(k:String)(l:List Lean.Syntax):=fU k (.atom .none ""::l)
def fV(l:List Lean.Syntax):=Lean.mkNullNode l.toArray
def fX(l:List Lean.Syntax):=fT "first" [fV (l.map λt=>fT "" [t])]
def fW(l:String)(f:Lean.Syntax->Lean.Syntax):=(l.splitOn " ").map λc=>f (fT "apply" [Lean.mkIdent (.str `My c)])
def fY(t:Lean.Syntax):=fT "withReducible" [t]
def evE:=fT "repeat'" [fU "tacticSeq" [fX (fW "Og tS um sL sJ t_ z_" fY++fT "tacticRfl" []::fW "tR qj yA sM qi sG sE sI qg qf qh ug" fY++fT "assumption" []::fW "t9 sK tQ ui uh t8 uk uj" λt=>fV [t,fX [fT "assumption" [],fT "tacticRfl" [],fT "omega" [fU "optConfig" [fV []]]]])]]
theorem Cf{p:Prop}(h:autoParam p evE):p:=h
noncomputable abbrev Bm:Str:="abcdefghjlmpqrstuvwxyz"
theorem lF:Bm.cps.toList.length=22:=by decide+kernel
theorem Kx:Bm.length<=PySem.sizeLine:=by decide+kernel
noncomputable def LC(j:Nat):Nat:=Bm.cps.toList.getD j 0
theorem qe:∀i<22,∀j<22,LC i=LC j->i=j:=by decide+kernel
theorem qd:∀i<22,LC i≠105/\LC i≠110/\LC i≠111:=by decide+kernel
theorem tP(i):L2.atI Bm.cps.toList (i % 22)=aA (LC (i % 22).toNat):=by
 have h0:0<=i % 22:=Int.emod_nonneg _ (by decide);have h1:i % 22<22:=ij _ (by decide);obtain⟨j,hj⟩:=Int.eq_ofNat_of_zero_le h0;rw[hj];have TW:j<Bm.cps.toList.length:=by rw[lF];omega
 refine Ev _ _ _ ?_;unfold LC;rw[bh,show((j:Int)).toNat=j by omega,au TW];rfl
def sgn(x:Int)(at':Int)(t:Nat)(k:Nat):Nat:=LC ((x / ((k:Int)+2)+(t:Int)*(if(k:Int)=at' then 1 else 0)) % 22).toNat
def Pe(x at':Int)(size t:Nat):List Nat:=(cr size).map (sgn x at' t)
theorem jM(a1 a3 a5 x at')(t k:Nat)(hk:k<=100)(w)(hw:w.length<=1000)(x9):
  ∃y9,Gen.Wn [aA (.fz (.int x)),a1,aA (.fz (.str Bm)),a3,aA (.fz (.int at')),a5,aA (.fz (.int (t:Int))),aA (.fz (.str (S w))),aA (.fz (.int (k:Int))),x9]=aA (.nx [aA (.fz (.int x)),a1,aA (.fz (.str Bm)),a3,aA (.fz (.int at')),a5,aA (.fz (.int (t:Int))),aA (.fz (.str (S (w++[sgn x at' t k])))),aA (.fz (.int (k:Int))),y9]):=by
 have go:∀ki ti:Int,0<=ki->ki<=100->∀b:Int,(b=0\/b=1)->(if ki=at' then(1:Int)else 0)=b->∀ch,L2.atI Bm.cps.toList ((x / (ki+2)+ti*b) % 22)=aA ch->
   Gen.Wn [aA (.fz (.int x)),a1,aA (.fz (.str Bm)),a3,aA (.fz (.int at')),a5,aA (.fz (.int ti)),aA (.fz (.str (S w))),aA (.fz (.int ki)),x9]=aA (.nx [aA (.fz (.int x)),a1,aA (.fz (.str Bm)),a3,aA (.fz (.int at')),a5,aA (.fz (.int ti)),aA (.fz (.str (S (w++[ch])))),aA (.fz (.int ki)),aA (.fz (.int (ti*b)))]):=by
  intro ki ti h0 h1 b hb QJ ch WC;have hm:=qw (i:=ti) (j:=b) (by omega);have d1:0<ki+2:=by omega
  have d2:ki+2<1073741824:=by omega
  have z:(S w).length+(⟨#[ch]⟩:Str).length<=PySem.sizeLine:=Jo (by rw[zC w];show w.length+1<=_;omega);have ea:S w++(⟨#[ch]⟩:Str)=S (w++[ch]):=tW w [ch];by_cases hk:ki=at'
  .rw[f_ hk]at QJ;subst QJ;unfold Gen.Wn;simp[hk]at hm WC d1 d2⊢;simp[hm,WC,d1,d2,Kx,z,ea]
  .rw[fZ hk]at QJ;subst QJ;unfold Gen.Wn;simp[hk]at hm WC⊢;simp[hm,WC,d1,d2,Kx,z,ea]
 refine⟨_,go (k:Int) (t:Int) (by omega) (by omega) (if(k:Int)=at' then 1 else 0) (by split<;> simp) rfl (sgn x at' t k) (tP _)⟩
theorem jL(a1 a3 a5 x at')(t size:Nat)(hs:size<=100)(x8 x9):
  ∃y8 y9,Yf (Zf 8) Gen.Wn (QR 0 size) [aA (.fz (.int x)),a1,aA (.fz (.str Bm)),a3,aA (.fz (.int at')),a5,aA (.fz (.int (t:Int))),aA (.fz (.str (S []))),x8,x9]=aA (.nx [aA (.fz (.int x)),a1,aA (.fz (.str Bm)),a3,aA (.fz (.int at')),a5,aA (.fz (.int (t:Int))),aA (.fz (.str (S (Pe x at' size t)))),y8,y9]):=by
 obtain⟨δ',e,y8,y9,hy⟩:=Gg (tg:=Zf 8) (body:=Gen.Wn) (P:=λi δ=>∃y8 y9,δ=[aA (.fz (.int x)),a1,aA (.fz (.str Bm)),a3,aA (.fz (.int at')),a5,aA (.fz (.int (t:Int))),aA (.fz (.str (S (Pe x at' i t)))),y8,y9]) size 0 [aA (.fz (.int x)),a1,aA (.fz (.str Bm)),a3,aA (.fz (.int at')),a5,aA (.fz (.int (t:Int))),aA (.fz (.str (S []))),x8,x9] ⟨x8,x9,rfl⟩ (λi _ hi δ ⟨y8,y9,hy⟩=>by
  subst hy;obtain⟨z9,e⟩:=jM a1 a3 a5 x at' t i (by omega) (Pe x at' i t) (by unfold Pe;simp;omega) y9;refine⟨[aA (.fz (.int x)),a1,aA (.fz (.str Bm)),a3,aA (.fz (.int at')),a5,aA (.fz (.int (t:Int))),aA (.fz (.str (S (Pe x at' i t)))),aA (.fz (.int (i:Int))),y9],_,by simp,e,aA (.fz (.int (i:Int))),z9,?_⟩;have:Pe x at' (i+1) t=Pe x at' i t++[sgn x at' t i]:=by unfold Pe;rw[List.range_succ,cu];rfl
  rw[this])
 subst hy;rw[Nat.zero_add]at e;exact⟨y8,y9,e⟩
def Qe(x at':Int)(size m:Nat):List Str:=(cr m).map λt=>S (Pe x at' size t)
theorem Db(a1 x at')(size:Nat)(hs:size<=8)(m)(hm:m<=100):
  ∃δ,Yf (Zf 6) Gen.Jq (QR 0 m) [aA (.fz (.int x)),a1,aA (.fz (.str Bm)),aA (.fz (.int (size:Int))),aA (.fz (.int at')),aA (.ol []),aB,aB,aB,aB]=aA (.nx δ)/\δ[5]? =aA (aA (.ol ((Qe x at' size m).map D.str))):=by
 obtain⟨δ',e,y6,y7,y8,y9,hy⟩:=Gg (tg:=Zf 6) (body:=Gen.Jq) (P:=λi δ=>∃y6 y7 y8 y9,δ=[aA (.fz (.int x)),a1,aA (.fz (.str Bm)),aA (.fz (.int (size:Int))),aA (.fz (.int at')),aA (.ol ((Qe x at' size i).map D.str)),y6,y7,y8,y9]) m 0 [aA (.fz (.int x)),a1,aA (.fz (.str Bm)),aA (.fz (.int (size:Int))),aA (.fz (.int at')),aA (.ol []),aB,aB,aB,aB] ⟨aB,aB,aB,aB,rfl⟩ (λi _ hi δ ⟨y6,y7,y8,y9,hy⟩=>by
  subst hy;obtain⟨z8,z9,e⟩:=jL a1 (aA (.fz (.int (size:Int)))) (aA (.ol ((Qe x at' size i).map D.str))) x at' i size (by omega) y8 y9;have g1:Xq (size:Int):=Am (by omega);have et:((size:Int)).toNat=size:=by omega
  have z:(Qe x at' size i).length<PySem.sizeLine:=Yk (by unfold Qe;simp;omega);have he:dz ""=S []:=rfl;have hr:Qe x at' size (i+1)=Qe x at' size i++[S (Pe x at' size i)]:=by unfold Qe;rw[List.range_succ,cu];rfl
  refine⟨[aA (.fz (.int x)),a1,aA (.fz (.str Bm)),aA (.fz (.int (size:Int))),aA (.fz (.int at')),aA (.ol ((Qe x at' size i).map D.str)),aA (.fz (.int (i:Int))),y7,y8,y9],[aA (.fz (.int x)),a1,aA (.fz (.str Bm)),aA (.fz (.int (size:Int))),aA (.fz (.int at')),aA (.ol ((Qe x at' size (i+1)).map D.str)),aA (.fz (.int (i:Int))),aA (.fz (.str (S (Pe x at' size i)))),z8,z9],by simp,?_,_,_,_,_,rfl⟩;rw[hr];generalize Qe x at' size i=NL at*;unfold Gen.Jq;simp[-Yf,he,g1,et,Mp,e,z])
 subst hy;rw[Nat.zero_add]at e;exact⟨_,e,rfl⟩
structure Nam(w:Str):Prop where
 one:1<=w.length
 most:w.length<=8
 no:∀c∈w.cps.toList,c≠105/\c≠110/\c≠111
theorem Ma(x)(h0:0<=x)(m:Nat)(hm:m<=22):∃ws:List Str,Gen.Yx [.int x,.int (m:Int)]=aA (.ol (ws.map D.str))/\ws.length=m/\ws.Nodup/\∀w∈ws,Nam w:=by
 have s0:0<=x % 8:=Int.emod_nonneg _ (by decide);have s1:x % 8<8:=ij _ (by decide);obtain⟨size,hs⟩:∃n:Nat,(n:Int)=1+x % 8:=⟨(1+x % 8).toNat,by omega⟩
 have IL:1<=size:=by omega
 have CG:size<=8:=by omega
 have p0:(0:Int)<(size:Int):=by omega
 have a0:0<=x / 8 % (size:Int):=Int.emod_nonneg _ (by omega);have a1:x / 8 % (size:Int)<(size:Int):=ij _ p0;generalize hat:x / 8 % (size:Int)=at' at a0 a1;obtain⟨δ,e,DZ⟩:=Db (aA (.fz (.int (m:Int)))) x at' size CG m (by omega);have g1:Xq (m:Int):=Am (by omega);have et:((m:Int)).toNat=m:=by omega
 refine⟨Qe x at' size m,?_,by unfold Qe;simp,?_,λw hw=>?_⟩
 .generalize Qe x at' size m=NL at DZ;unfold Gen.Yx Gen.C1;have UB:0<size:=by omega
  simp[-Yf,<-hs,p0,UB,hat,g1,et,Mp,e,DZ]
 .unfold Qe;refine List.Pairwise.map _ (R:=λa b=>a≠b/\a<m/\b<m) (λa b h=>?_) ?_
  .intro z;obtain⟨WX,ha,hb⟩:=h;have hl:=zB z;obtain⟨k,hk⟩:=Int.eq_ofNat_of_zero_le a0;have TV:k<size:=by omega
   have e1:(Pe x at' size a)[k]? =aA (sgn x at' a k):=by unfold Pe;rw[ay,List.getElem?_range TV];rfl
   have e2:(Pe x at' size b)[k]? =aA (sgn x at' b k):=by unfold Pe;rw[ay,List.getElem?_range TV];rfl
   rw[hl,e2]at e1;have e3:=dg.inj e1;unfold sgn at e3;rw[f_ hk.symm]at e3;have q:=λy:Int=>(Int.emod_nonneg y (show(22:Int)≠0 by decide))
   have q':=λy:Int=>(ij y (show(0:Int)<22 by decide))
   have r1:=q (x / ((k:Int)+2)+(a:Int)*1);have r2:=q' (x / ((k:Int)+2)+(a:Int)*1);have r3:=q (x / ((k:Int)+2)+(b:Int)*1);have r4:=q' (x / ((k:Int)+2)+(b:Int)*1);have e4:=qe _ (by omega) _ (by omega) e3;generalize x / ((k:Int)+2)=y at*;omega
  .have nd:(cr m).Pairwise (λa b=>a<b):=List.pairwise_lt_range;refine(List.Pairwise.and_mem.mp nd).imp fun{a b} h=>?_;exact⟨cm h.2.2,cq.mp h.1,cq.mp h.2.1⟩
 .unfold Qe at hw;obtain⟨t,_,rfl⟩:=av.mp hw;have hl:(S (Pe x at' size t)).length=size:=by rw[zC];unfold Pe;simp
  refine⟨by rw[hl];exact IL,by rw[hl];exact CG,λc hc=>?_⟩;rw[qK]at hc;unfold Pe at hc;obtain⟨k,_,rfl⟩:=av.mp hc;have r1:=Int.emod_nonneg (x / ((k:Int)+2)+(t:Int)*(if(k:Int)=at' then 1 else 0)) (show(22:Int)≠0 by decide);have r2:=ij (x / ((k:Int)+2)+(t:Int)*(if(k:Int)=at' then 1 else 0)) (show(0:Int)<22 by decide);exact qd _ (by omega)
theorem Vg(c b):Gen.Wm [.int c,.int b]=aA (.fz (.int (c % 2147483647*b % 2147483647))):=by have h1:0<=c % 2147483647:=Int.emod_nonneg _ (by decide);have h2:c % 2147483647<2147483647:=ij _ (by decide);have hm:=X8 (i:=c % 2147483647) (j:=b) (by omega);unfold Gen.Wm Gen.C2;exact Cf
theorem nO(ns:List Int)(k:Nat):∃c,Gen.Yc [.lst (ns.map D.int),.int (k:Int)]=aA (.fz (.int c)):=by
 by_cases h:k<ns.length
 .have a:L2.atI (ns.map D.int) (k:Int)=aA (.int ns[k]):=Ev _ _ _ (by rw[ay,au h];rfl);refine⟨ns[k],?_⟩;have h':(k:Int)<(ns.length:Int):=by omega
  unfold Gen.Yc Gen.Js;simp[h',h,a]
 .refine⟨0,?_⟩;have h':¬(k:Int)<(ns.length:Int):=by omega
  unfold Gen.Yc Gen.Js;simp[h',h]
theorem T4(c b:Int):0<=c % 2147483647*b % 2147483647:=Int.emod_nonneg _ (by decide)
theorem jz1:1<=PySem.sizeLine:=by decide
theorem jz2:2<=PySem.sizeLine:=by decide
theorem jz3:3<=PySem.sizeLine:=by decide
noncomputable abbrev V5:=List (List Nat)
noncomputable abbrev W7(l:List Nat):List D:=l.map λp:Nat=>.int (p:Int)
noncomputable def I8(ks:List NK)(pl:V5)(t:NK)(p:Nat):List NK×V5:=match Wi ks t with
 |some q=>(ks,pl.set q (pl.getD q []++[p]))
 |none=>(ks++[t],pl++[[p]])
theorem Ov:∀{ks:List NK} {k:NK} {q:Nat},Wi ks k=aA q->ks[q]? =aA k
 |a::ks,k,q,h=>by
  have h:(if a=k then aA 0 else(Wi ks k).map (· +1))=aA q:=h;by_cases e:a=k
  .rw[f_ e]at h;cases h;rw[e];rfl
  .rw[fZ e]at h;obtain⟨r,hr,e2⟩:=cz.mp h;subst e2;show ks[r]? =aA k;exact Ov hr
theorem Ox:∀{ks:List NK} {k:NK},Wi ks k=aB->k∉ks
 | [],k,_=>λz=>nomatch z
 |a::ks,k,h=>by
  have h:(if a=k then aA 0 else(Wi ks k).map (· +1))=aB:=h;by_cases e:a=k
  .rw[f_ e]at h;cases h
  .rw[fZ e]at h;have:=Ox (Option.map_eq_none_iff.mp h);intro z;rcases bj.mp z with z|z
   .exact e z.symm
   .exact this z
structure fM(R:NK->Nat->Prop)(B:Nat)(ks:List NK)(pl:V5):Prop where
 nd:ks.Nodup
 len:ks.length=pl.length
 has:∀(t:NK) (p:Nat),(∃(q:Nat) (l:List Nat),ks[q]? =aA t/\pl[q]? =aA l/\p∈l)↔R t p
 few:ks.length<=B
 each:∀l∈pl,l.length<=B
theorem fM.add(h:fM R B ks pl)(t p):fM (λu q=>R u q\/(u=t/\q=p)) (B+1) (I8 ks pl t p).1 (I8 ks pl t p).2:=by
 unfold I8;cases e:Wi ks t with
 |some q=>
  have hq:=Ov e;have QF:q<ks.length:=by rcases du q ks.length with z|z;exact z;rw[d7 z]at hq;cases hq
  have WM:q<pl.length:=by rw[<-h.len];exact QF
  have eg:pl.getD q []=pl[q]:=by rw[bh,au WM];rfl
  refine⟨h.nd,by rw[im];exact h.len,λu r=>?_,Nat.le_succ_of_le h.few,λl hl=>?_⟩
  .rw[<-h.has u r];constructor
   .rintro⟨i,l,h1,h2,h3⟩;by_cases hi:i=q
    .subst hi;have eu:u=t:=by rw[hq]at h1;exact(dg.inj h1).symm
     rw[d0 WM]at h2;have el:=dg.inj h2;rw[<-el]at h3;rcases bz.mp h3 with z|z
     .rw[eg]at z;exact .inl ⟨i,pl[i],h1,au WM,z⟩
     .exact .inr ⟨eu,ar.mp z⟩
    .rw[d6 (λz=>hi z.symm)]at h2;exact .inl ⟨i,l,h1,h2,h3⟩
   .rintro(⟨i,l,h1,h2,h3⟩|⟨rfl,rfl⟩)
    .by_cases hi:i=q
     .subst hi;refine⟨i,pl.getD i []++[p],h1,d0 WM,cg _ ?_⟩;rw[eg];rw[au WM]at h2;rw[dg.inj h2];exact h3
     .exact⟨i,l,h1,by rw[d6 (λz=>hi z.symm)];exact h2,h3⟩
    .exact⟨q,_,hq,d0 WM,b7 _ ac⟩
  .rcases List.mem_or_eq_of_mem_set hl with z|z
   .exact Nat.le_succ_of_le (h.each l z)
   .rw[z,bg,eg];have:=h.each _ (List.getElem_mem WM);simpa using this
 |none=>
  have hn:=Ox e;refine⟨dh.mpr ⟨h.nd,by simp,λa ha b hb e=>hn (by rw[<-ar.mp hb,<-e];exact ha)⟩,by simp[h.len],λu r=>?_,by have:=h.few;simp;omega,λl hl=>?_⟩
  .rw[<-h.has u r];constructor
   .rintro⟨i,l,h1,h2,h3⟩;rcases du i ks.length with z|z
    .rw[cw z]at h1;rw[cw (by rw[<-h.len];exact z)]at h2;exact .inl ⟨i,l,h1,h2,h3⟩
    .rw[fq z]at h1;rw[fq (by rw[<-h.len];exact z),<-h.len]at h2;cases ei:i- ks.length with
     |zero=>rw[ei]at h1 h2;cases h1;cases h2;exact .inr ⟨rfl,ar.mp h3⟩
     |succ j=>rw[ei]at h1;cases h1
   .rintro(⟨i,l,h1,h2,h3⟩|⟨rfl,rfl⟩)
    .have z:i<ks.length:=by rcases du i ks.length with z|z;exact z;rw[d7 z]at h1;cases h1
     exact⟨i,l,by rw[cw z];exact h1,by rw[cw (by rw[<-h.len];exact z)];exact h2,h3⟩
    .exact⟨ks.length,[r],by simp,by rw[h.len];simp,ac⟩
  .rcases bz.mp hl with z|z
   .exact Nat.le_succ_of_le (h.each l z)
   .rw[ar.mp z];simp
theorem jK(ks:List NK)(pl)(t:NK)(p:Nat):Tn ks (pl.map W7) t [.int (p:Int)]=((I8 ks pl t p).1,(I8 ks pl t p).2.map W7):=by
 unfold Tn I8;cases Wi ks t with
 |some q=>
  dsimp only;rw[List.map_set];have:(pl.map W7).getD q []=W7 (pl.getD q []):=by rw[bh,bh,ay];cases pl[q]? <;> rfl
  rw[this];simp[W7]
 |none=>simp[W7]
theorem yu{ks:List NK}{k:NK}(h1:δ[i]? =aA (aA (.oX ks ZC)))(h2:fk δ=aA p)(h3:frz p.1 p.2=aA q)(h4:nk? q.1=aA k)(h5:q.2[i]? =aA (aA (.oX ks ZC)))(h6:q.2[j]? =aA (aA (.fz d)))(h7:(ext=aD/\ys=[d])\/(ext=aC/\d= .lst ys))(h8:okX ZC ys.length):Te i fk j ext δ=aA (.nx (q.2.set i (aA (.oX (Tn ks ZC k ys).1 (Tn ks ZC k ys).2)))):=by
 unfold Te;rw[h1];dsimp only;rw[h2];dsimp only[bu];rw[h3];dsimp only[bu];rw[h4];dsimp only[bu];rw[h5,h6];dsimp only;rcases h7 with⟨rfl,rfl⟩|⟨rfl,rfl⟩
 .rw[fZ (by decide)];dsimp only[bu];rw[f_ h8]
 .rw[f_ rfl];dsimp only[bu];rw[f_ h8]
theorem zy(h1:ZC.length<=100000)(h2:n<=100000)(h3:∀xs∈ZC,xs.length<=100000):okX ZC n:=
 ⟨Yk (by omega),Yk (by omega),λxs hx=>Yk (by have:=h3 xs hx;omega)⟩
theorem fM.ok(h:fM R B ks pl)(hB:B<=10000)(n)(hn:n<=10000):okX (pl.map W7) n:=
 zy (by rw[aj,<-h.len];have:=h.few;omega) (by omega) λxs hx=>by obtain⟨l,hl,rfl⟩:=av.mp hx;have:=h.each l hl;simp[W7];omega
theorem fM.imp(h:fM R B ks pl)(e:∀t p,R t p↔R' t p)(hB:B<=B'):fM R' B' ks pl:=
 ⟨h.nd,h.len,λt p=>(h.has t p).trans (e t p),dv h.few hB,λl hl=>dv (h.each l hl) hB⟩
theorem Vh(A hd n):∀(ts:List NK) R B ks pl x4,fM R B ks pl->B+ts.length<=10000->∃ks' ZV y4,fM (λu q=>R u q\/(u∈ts/\q=n)) (B+ts.length) ks' ZV/\
  Yf (Zf 4) Gen.Oa (ts.map Zw) [A,aA (.oX ks (pl.map W7)),aA (.fz (.int (n:Int))),hd,x4]=aA (.nx [A,aA (.oX ks' (ZV.map W7)),aA (.fz (.int (n:Int))),hd,y4])
 | [],R,B,ks,pl,x4,h,_=>⟨ks,pl,x4,h.imp (λt p=>by simp) (bc _),by simp⟩
 |t::ts,R,B,ks,pl,x4,h,hz=>by
  rw[aw]at hz;obtain⟨ks',ZV,y4,h',ih⟩:=Vh A hd n ts _ (B+1) (I8 ks pl t n).1 (I8 ks pl t n).2 (aA (.fz (Zw t))) (h.add t n) (by omega);refine⟨ks',ZV,y4,h'.imp (λu q=>?_) (by rw[aw];omega),?_⟩
  .rw[bj];constructor
   .rintro((z|⟨z1,z2⟩)|⟨z1,z2⟩)
    .exact .inl z
    .exact .inr ⟨.inl z1,z2⟩
    .exact .inr ⟨.inr z1,z2⟩
   .rintro(z|⟨z1|z1,z2⟩)
    .exact .inl (.inl z)
    .exact .inl (.inr ⟨z1,z2⟩)
    .exact .inr ⟨z1,z2⟩
  .have a:Gen.Oa [A,aA (.oX ks (pl.map W7)),aA (.fz (.int (n:Int))),hd,aA (.fz (Zw t))]=aA (.nx [A,aA (.oX (I8 ks pl t n).1 ((I8 ks pl t n).2.map W7)),aA (.fz (.int (n:Int))),hd,aA (.fz (Zw t))]):=by have:=yu (δ:=[A,aA (.oX ks (pl.map W7)),aA (.fz (.int (n:Int))),hd,aA (.fz (Zw t))]) (i:=1) (j:=2) (fk:=Za 4) (p:=(.tmp (.fz (Zw t)),[A,aA (.oX ks (pl.map W7)),aA (.fz (.int (n:Int))),hd,aA (.fz (Zw t))])) (q:=(Zw t,[A,aA (.oX ks (pl.map W7)),aA (.fz (.int (n:Int))),hd,aA (.fz (Zw t))])) (d:=.int (n:Int)) (ext:=aD) (ys:=[.int (n:Int)]) rfl rfl rfl (Cw t) rfl rfl (.inl ⟨rfl,rfl⟩) (h.ok (by omega) _ (by simp));rw[jK]at this;exact this
   rw[ax];unfold Yf;rw[show(Zf 4).run (Zw t) [A,aA (.oX ks (pl.map W7)),aA (.fz (.int (n:Int))),hd,x4]=aA [A,aA (.oX ks (pl.map W7)),aA (.fz (.int (n:Int))),hd,aA (.fz (Zw t))]from by simp];dsimp only[bu];rw[a];exact ih
noncomputable def I9(hs:List HP):Nat:=(hs.map λh=>(Up h).length).sum
theorem Mt(h hs):I9 (h::hs)=(Up h).length+I9 hs:=by unfold I9;simp
theorem jJ(A n h R B ks pl x4)(ho:fM R B ks pl)(hz:B+(Up h).length<=10000):∃ks' ZV y4,fM (λu q=>R u q\/(u∈Up h/\q=n)) (B+(Up h).length) ks' ZV/\
  Gen.W3 [A,aA (.oX ks (pl.map W7)),aA (.fz (.int (n:Int))),aA (.fz (Zz h)),x4]=aA (.nx [A,aA (.oX ks' (ZV.map W7)),aA (.fz (.int (n:Int))),aA (.fz (Zz h)),y4]):=by
 obtain⟨ks',ZV,y4,h',e⟩:=Vh A (aA (.fz (Zz h))) n (Up h) R B ks pl x4 ho hz;refine⟨ks',ZV,y4,h',?_⟩;have zl:(h.ns.map Zw).length+(h.ms.map Zw).length<=PySem.sizeLine:=Jo (by rw[aj,aj];rw[bg]at hz;omega);have UR:∀a b c:D,L2.atI [a,b,c] 1=aA b:=λ_ _ _=>rfl;have US:∀a b c:D,L2.atI [a,b,c] 0=aA a:=λ_ _ _=>rfl;rw[show(Up h).map Zw=h.ns.map Zw++h.ms.map Zw from cu]at e;unfold Gen.W3;unfold Zz at e⊢;generalize h.ns.map Zw=NS,h.ms.map Zw=MS,h.fs.map Yu=TS,pl.map W7=PL,ZV.map W7=PL' at*;simp[US,UR,zl,e,-Yf]
abbrev Rg(hs:List HP)(t:NK)(p:Nat):Prop:=∃h,hs[p]? =aA h/\t∈Up h
theorem Ky(A):∀hs pre B ks pl x2 x3 x4,fM (Rg pre) B ks pl->B+I9 hs<=10000->∃ks' ZV y2 y3 y4,fM (Rg (pre++hs)) (B+I9 hs) ks' ZV/\
  Yf (Ys 2 (Zm (Zf 2) (Zm (Zf 3) Yw))) Gen.W3 (((hs.map Zz).zipIdx pre.length).map λp=>D.tup [.int (p.2:Nat),p.1]) [A,aA (.oX ks (pl.map W7)),x2,x3,x4]=aA (.nx [A,aA (.oX ks' (ZV.map W7)),y2,y3,y4])
 | [],pre,B,ks,pl,x2,x3,x4,ho,_=>⟨ks,pl,x2,x3,x4,by rw[List.append_nil];exact ho,by simp⟩
 |h::hs,pre,B,ks,pl,x2,x3,x4,ho,hz=>by
  rw[Mt]at hz;obtain⟨MO,pl1,z4,h1,t⟩:=jJ A pre.length h _ B ks pl x4 ho (by omega);have h2:fM (Rg (pre++[h])) (B+(Up h).length) MO pl1:=h1.imp (λu p=>by
   constructor
   .rintro(⟨g,e,z⟩|⟨z,rfl⟩)
    .have hp:p<pre.length:=by rcases du p pre.length with q|q;exact q;rw[d7 q]at e;cases e
     exact⟨g,by rw[cw hp];exact e,z⟩
    .exact⟨h,by simp,z⟩
   .rintro⟨g,e,z⟩;rcases du p pre.length with q|q
    .rw[cw q]at e;exact .inl ⟨g,e,z⟩
    .rw[fq q]at e;cases ei:p- pre.length with
     |zero=>rw[ei]at e;cases e;exact .inr ⟨z,by omega⟩
     |succ j=>rw[ei]at e;cases e) (bc _)
  obtain⟨ks',ZV,y2,y3,y4,h',ih⟩:=Ky A hs (pre++[h]) _ MO pl1 (aA (.fz (.int (pre.length:Int)))) (aA (.fz (Zz h))) z4 h2 (by omega);refine⟨ks',ZV,y2,y3,y4,?_,?_⟩
  .rw[ib]at h';rw[Mt];exact h'.imp (λ_ _=>Iff.rfl) (by omega)
  .rw[ax,List.zipIdx_cons,ax];rw[bg]at ih;unfold Yf;rw[show(Ys 2 (Zm (Zf 2) (Zm (Zf 3) Yw))).run (.tup [.int (pre.length:Nat),Zz h]) [A,aA (.oX ks (pl.map W7)),x2,x3,x4]=aA [A,aA (.oX ks (pl.map W7)),aA (.fz (.int (pre.length:Int))),aA (.fz (Zz h)),x4]from by simp];dsimp only[bu];rw[t];exact ih
abbrev We(ks:List NK)(pl:V5):D:=.dX ks ((pl.map W7).map D.lst)
theorem holders_of(hs)(hz:I9 hs<=10000):∃ks pl,fM (Rg hs) (I9 hs) ks pl/\Gen.Q7 [.lst (hs.map Zz)]=aA (.fz (We ks pl)):=by
 have h0:fM (Rg []) 0 [] []:=⟨c6,rfl,λt p=>⟨λ⟨q,l,h,_⟩=>by simp at h,λ⟨h,e,_⟩=>by simp at e⟩,bc _,λl hl=>nomatch hl⟩
 obtain⟨ks,pl,y2,y3,y4,ho,e⟩:=Ky (aA (.fz (.lst (hs.map Zz)))) hs [] 0 [] [] aB aB aB h0 (by omega);refine⟨ks,pl,by simpa using ho,?_⟩;rw[show(((hs.map Zz).zipIdx ([]:List HP).length).map λp=>D.tup [.int (p.2:Nat),p.1])=W2 (hs.map Zz)from rfl]at e;have e:Yf (Ys 2 (Zm (Zf 2) (Zm (Zf 3) Yw))) Gen.W3 (W2 (hs.map Zz)) [aA (.fz (.lst (hs.map Zz))),aA (.oX [] []),aB,aB,aB]=_:=e;unfold Gen.Q7 Gen.B6 We;generalize hs.map Zz=HS,pl.map W7=HX at*;simp[e,Kt,-Yf]
theorem Pa:∀{ks:List NK} {vs:List D} {q:Nat} {t:NK} {v:D},ks.Nodup->ks[q]? =aA t->vs[q]? =aA v->look ks vs t=aA v
 | [],vs,q,t,v,_,h,_=>by simp at h
 |k::ks,[],q,t,v,_,_,h=>by simp at h
 |k::ks,u::vs,q,t,v,nd,h1,h2=>by
  obtain⟨n1,n2⟩:=dy.mp nd;show(if k=t then aA u else look ks vs t)=aA v;cases q with
  |zero=>cases h1;cases h2;rw[f_ rfl]
  |succ q=>have h1:ks[q]? =aA t:=h1;rw[fZ λe=>n1 (by rw[e];exact cf h1)];exact Pa n2 h1 h2
theorem fM.look(h:fM R B ks pl)(hr:R t p):∃l,L2.look ks ((pl.map W7).map D.lst) t=aA (.lst (W7 l))/\(∀p,p∈l↔R t p)/\l.length<=B:=by
 obtain⟨q,l,h1,h2,h3⟩:=(h.has t p).mpr hr;refine⟨l,Pa h.nd h1 (by rw[ay,ay,h2];rfl),λp'=>?_,h.each l (cf h2)⟩;rw[<-h.has t p'];constructor
 .exact λz=>⟨q,l,h1,h2,z⟩
 .rintro⟨q',l',g1,g2,g3⟩;have hq:q<ks.length:=by rcases du q ks.length with z|z;exact z;rw[d7 z]at h1;cases h1
  have:q=q':=(List.getElem?_inj hq h.nd).mp (h1.trans g1.symm);subst this;rw[h2]at g2;rw[dg.inj g2];exact g3
noncomputable abbrev Jc(f:List Nat):List L2.Key:=f.map λp:Nat=>.inl (p:Int)
noncomputable abbrev Jd(f:List Nat):List D:=f.map λ_=>.bl aC
theorem Bo{p:Nat}:(Sum.inl (p:Int):L2.Key)∈Jc f↔p∈f:=by
 constructor
 .intro z;obtain⟨q,hq,e⟩:=av.mp z;have e:=Sum.inl.inj e;have:q=p:=by omega
  rw[<-this];exact hq
 .exact λz=>List.mem_map_of_mem (f:=λp:Nat=>(Sum.inl (p:Int):L2.Key)) z
theorem E7:∀{ks:List L2.Key} {vs:List D} {k:L2.Key},k∉ks->look ks vs k=aB
 | [],vs,k,_=>by cases vs<;> rfl
 |a::ks,[],k,_=>rfl
 |a::ks,v::vs,k,h=>by show(if a=k then aA v else look ks vs k)=aB;rw[fZ λz=>h (by rw[z];exact ac),E7 λz=>h (ah _ z)]
theorem Mu:∀{ks:List L2.Key} {vs:List D} {k:L2.Key},ks.length=vs.length->k∈ks->∃v,look ks vs k=aA v
 |a::ks,[],k,h,_=>by simp at h
 |a::ks,v::vs,k,h,hk=>by
  by_cases e:a=k
  .exact⟨v,by show(if a=k then aA v else _)=_;rw[f_ e]⟩
  .obtain⟨w,hw⟩:=Mu (ks:=ks) (vs:=vs) (k:=k) (by simpa using h) (by
    rcases bj.mp hk with z|z
    .exact eF z.symm e
    .exact z)
   exact⟨w,by show(if a=k then aA v else look ks vs k)=_;rw[fZ e,hw]⟩
structure TI(n:Nat)(f l:List Nat):Prop where
 nd:f.Nodup
 lt:∀x∈f,x<n
 ld:l.Nodup
 sub:∀x∈l,x∈f
theorem Pb{f:List Nat}(nd:f.Nodup)(lt:∀x∈f,x<n):f.length<=n:=by have:=dm nd (l₂:=cr n) λx hx=>cq.mpr (lt x hx);simpa using this
theorem TI.len(h:TI n f l):f.length<=n/\l.length<=n:=⟨Pb h.nd h.lt,Pb h.ld λx hx=>h.lt x (h.sub x hx)⟩
abbrev Rk(HS:List D)(HD:D)(i:Nat)(f l:List Nat)(x5 x6 x7:Option SV):Yp:=[aA (.fz (.lst HS)),aA (.fz HD),aA (.fz (.int (i:Int))),aA (.oK (Jc f) (Jd f)),aA (.ol (W7 l)),x5,x6,x7]
theorem Dc(HS HD i n)(hn:n<=1000)(f l)(h:TI n f l)(o:Nat)(x5 x6):
  Gen.Ob (Rk HS HD i f l x5 x6 (aA (.fz (.int (o:Int)))))=aA (.nx (if o∈f then Rk HS HD i f l x5 x6 (aA (.fz (.int (o:Int))))else Rk HS HD i (f++[o]) (l++[o]) x5 x6 (aA (.fz (.int (o:Int)))))):=by
 have z1:(Jd f).length<PySem.sizeLine:=Yk (by have:=h.len;simp;omega);have z2:(W7 l).length<PySem.sizeLine:=Yk (by have:=h.len;simp[W7];omega);by_cases ho:o∈f
 .rw[f_ ho];obtain⟨v,lk⟩:=Mu (ks:=Jc f) (vs:=Jd f) (k:=.inl (o:Int)) (by simp) (Bo.mpr ho);unfold Gen.Ob Rk;generalize Jc f=KF,Jd f=VF,W7 l=PL at*;simp[lk,-look]
 .rw[fZ ho];have lk:look (Jc f) (Jd f) (.inl (o:Int))=aB:=E7 λz=>ho (Bo.mp z);have p:Y6 (Jc f) (Jd f) (Sum.inl (o:Int)) (.bl aC)=(Jc (f++[o]),Jd (f++[o])):=by unfold Y6;rw[fZ λz=>ho (Bo.mp z)];simp[Jc,Jd]
  have e:W7 (l++[o])=W7 l++[.int (o:Int)]:=by simp[W7]
  unfold Gen.Ob Rk;rw[e];generalize Jc (f++[o])=KF',Jd (f++[o])=VF',Jc f=KF,Jd f=VF,W7 l=PL at*;simp[lk,p,z1,z2,-look,-Y6]
theorem TI.snoc(h:TI n f l)(ho:o∉f)(hn:o<n):TI n (f++[o]) (l++[o]):=by
 refine⟨dh.mpr ⟨h.nd,by simp,λa ha b hb e=>ho (by rw[<-ar.mp hb,<-e];exact ha)⟩,λx hx=>?_,dh.mpr ⟨h.ld,by simp,λa ha b hb e=>ho (by rw[<-ar.mp hb,<-e];exact h.sub a ha)⟩,λx hx=>?_⟩
 .rcases bz.mp hx with z|z
  .exact h.lt x z
  .rw[ar.mp z];exact hn
 .rcases bz.mp hx with z|z
  .exact cg _ (h.sub x z)
  .exact b7 _ z
structure fP(X:Nat->Prop)(f l f' l':List Nat):Prop where
 gf:∀x,x∈f'↔x∈f\/X x
 gl:∀x,x∈l'↔x∈l\/(X x/\x∉f)
 len:f'.length+l.length=f.length+l'.length
theorem fP.imp(g:fP X f l f' l')(e:∀x,X x↔Y x):fP Y f l f' l':=⟨λx=>by rw[g.gf,e],λx=>by rw[g.gl,e],g.len⟩
theorem fP.trans(g:fP X f l f1 l1)(h:fP Y f1 l1 f2 l2):fP (λx=>X x\/Y x) f l f2 l2:=by
 refine⟨λx=>?_,λx=>?_,by have:=g.len;have:=h.len;omega⟩
 .rw[h.gf,g.gf,or_assoc]
 .rw[h.gl,g.gl,g.gf];constructor
  .rintro((z|⟨z1,z2⟩)|⟨z1,z2⟩)
   .exact .inl z
   .exact .inr ⟨.inl z1,z2⟩
   .exact .inr ⟨.inr z1,λw=>z2 (.inl w)⟩
  .rintro(z|⟨z1|z1,z2⟩)
   .exact .inl (.inl z)
   .exact .inl (.inr ⟨z1,z2⟩)
   .by_cases hx:X x
    .exact .inl (.inr ⟨hx,z2⟩)
    .exact .inr ⟨z1,λw=>w.elim z2 hx⟩
theorem C8(HS HD i n)(hn:n<=1000)(x5 x6):∀os f l x7,TI n f l->(∀o∈os,o<n)->∃f' l' y7,TI n f' l'/\fP (· ∈os) f l f' l'/\
  Yf (Zf 7) Gen.Ob (W7 os) (Rk HS HD i f l x5 x6 x7)=aA (.nx (Rk HS HD i f' l' x5 x6 y7))
 | [],f,l,x7,h,_=>⟨f,l,x7,h,⟨λx=>by simp,λx=>by simp,rfl⟩,by simp[W7]⟩
 |o::os,f,l,x7,h,ho=>by
  have t:=Dc HS HD i n hn f l h o x5 x6;have r:(Zf 7).run (.int (o:Int)) (Rk HS HD i f l x5 x6 x7)=aA (Rk HS HD i f l x5 x6 (aA (.fz (.int (o:Int))))):=by simp[Rk]
  by_cases hf:o∈f
  .rw[f_ hf]at t;obtain⟨f',l',y7,h',g,ih⟩:=C8 HS HD i n hn x5 x6 os f l (aA (.fz (.int (o:Int)))) h λx hx=>ho x (ah _ hx);refine⟨f',l',y7,h',⟨λx=>?_,λx=>?_,g.len⟩,?_⟩
   .rw[g.gf,bj];exact⟨λz=>z.elim .inl λz=>.inr (.inr z),λz=>z.elim .inl λz=>z.elim (λz=>.inl (by rw[z];exact hf)) .inr⟩
   .rw[g.gl,bj];exact⟨λz=>z.elim .inl λz=>.inr ⟨.inr z.1,z.2⟩,λz=>z.elim .inl λz=>z.1.elim (λw=>eF (by rw[w];exact hf) z.2) λw=>.inr ⟨w,z.2⟩⟩
   .show Yf (Zf 7) Gen.Ob (.int (o:Int)::W7 os) _=_;unfold Yf;rw[r];dsimp only[bu];rw[t];exact ih
  .rw[fZ hf]at t;obtain⟨f',l',y7,h',g,ih⟩:=C8 HS HD i n hn x5 x6 os (f++[o]) (l++[o]) (aA (.fz (.int (o:Int)))) (h.snoc hf (ho o ac)) λx hx=>ho x (ah _ hx);have g0:fP (· =o) f l (f++[o]) (l++[o]):=⟨λx=>by simp,λx=>by
    rw[bz,ar];exact⟨λz=>z.elim .inl λz=>.inr ⟨z,by rw[z];exact hf⟩,λz=>z.elim .inl λz=>.inr z.1⟩,by simp;omega⟩
   refine⟨f',l',y7,h',(g0.trans g).imp λx=>by rw[bj],?_⟩;show Yf (Zf 7) Gen.Ob (.int (o:Int)::W7 os) _=_;unfold Yf;rw[r];dsimp only[bu];rw[t];exact ih
theorem lE(hs ks pl B)(ho:fM (Rg hs) B ks pl)(i n)(hn:n<=1000)(hl:hs.length=n)(f l)(h:TI n f l)(t j)(ht:Rg hs t j)(x5 x7):∃f' l' y7,TI n f' l'/\fP (Rg hs t) f l f' l'/\
  Gen.R6 (Rk (hs.map Zz) (We ks pl) i f l x5 (aA (.fz (Zw t))) x7)=aA (.nx (Rk (hs.map Zz) (We ks pl) i f' l' x5 (aA (.fz (Zw t))) y7)):=by
 obtain⟨os,lk,hm,_⟩:=ho.look ht;obtain⟨f',l',y7,h',g,e⟩:=C8 (hs.map Zz) (We ks pl) i n hn x5 (aA (.fz (Zw t))) os f l x7 h λo vY=>by
  obtain⟨g,eg,_⟩:=(hm o).mp vY;rw[<-hl];rcases du o hs.length with z|z
  .exact z
  .rw[d7 z]at eg;cases eg
 refine⟨f',l',y7,h',g.imp hm,?_⟩;have nk:=Cw t;unfold Gen.R6;unfold Rk We at e⊢;generalize hs.map Zz=HS,(pl.map W7).map D.lst=HX,Zw t=T,W7 os=OS,Jc f'=A1,Jd f'=A2,W7 l'=A3,Jc f=A4,Jd f=A5,W7 l=A6 at*;simp[nk,lk,e,-look,-Yf]
theorem Kz(hs ks pl B)(ho:fM (Rg hs) B ks pl)(i n)(hn:n<=1000)(hl:hs.length=n)(j x5):∀(ts:List NK) f l x6 x7,TI n f l->(∀t∈ts,Rg hs t j)->∃f' l' y6 y7,TI n f' l'/\fP (λx=>∃t∈ts,Rg hs t x) f l f' l'/\
  Yf (Zf 6) Gen.R6 (ts.map Zw) (Rk (hs.map Zz) (We ks pl) i f l x5 x6 x7)=aA (.nx (Rk (hs.map Zz) (We ks pl) i f' l' x5 y6 y7))
 | [],f,l,x6,x7,h,_=>⟨f,l,x6,x7,h,⟨λx=>by simp,λx=>by simp,rfl⟩,by simp⟩
 |t::ts,f,l,x6,x7,h,ht=>by
  obtain⟨f1,l1,z7,h1,g1,e1⟩:=lE hs ks pl B ho i n hn hl f l h t j (ht t ac) x5 x7;obtain⟨f',l',y6,y7,h',g',ih⟩:=Kz hs ks pl B ho i n hn hl j x5 ts f1 l1 (aA (.fz (Zw t))) z7 h1 λu hu=>ht u (ah _ hu);refine⟨f',l',y6,y7,h',(g1.trans g').imp λx=>?_,?_⟩
  .simp only[bj,exists_eq_or_imp]
  .rw[ax];unfold Yf;rw[show(Zf 6).run (Zw t) (Rk (hs.map Zz) (We ks pl) i f l x5 x6 x7)=aA (Rk (hs.map Zz) (We ks pl) i f l x5 (aA (.fz (Zw t))) x7)from by simp[Rk]];dsimp only[bu];rw[e1];exact ih
def shI(hs:List HP)(a b:Nat):Prop:=∃t,Rg hs t a/\Rg hs t b
inductive RI(hs:List HP)(i:Nat):Nat->Prop where
 |here:RI hs i i
 |step {a b:Nat}:RI hs i a->shI hs a b->RI hs i b
theorem zA{hs:List HP}{i:Nat}(e:hs[i]? =aA h):L2.atI (hs.map Zz) (i:Int)=aA (Zz h):=by
 have hl:i<hs.length:=by rcases du i hs.length with z|z;exact z;rw[d7 z]at e;cases e
 have:L2.ixN hs.length (i:Int)=aA i:=by unfold L2.ixN;simp;omega
 unfold L2.atI;rw[aj,this];show(hs.map Zz)[i]? =_;rw[ay,e];rfl
section
variable(hs:List HP)(ks:List NK)(pl:V5)(B:Nat)(ho:fM (Rg hs) B ks pl)(i n:Nat)(hn:n<=1000)(hl:hs.length=n)(hB:∀h∈hs,(Up h).length<=10000)
include ho hn hl hB
theorem jI(f l j h)(hj:hs[j]? =aA h)(ti:TI n f (l++[j]))(x5 x6 x7):∃f' l' y5 y6 y7,TI n f' l'/\fP (shI hs j) f l f' l'/\
  Gen.C3 (Rk (hs.map Zz) (We ks pl) i f (l++[j]) x5 x6 x7)=aA (.nx (Rk (hs.map Zz) (We ks pl) i f' l' y5 y6 y7)):=by
 have wI:TI n f l:=⟨ti.nd,ti.lt,(dh.mp ti.ld).1,λx hx=>ti.sub x (cg _ hx)⟩
 obtain⟨f',l',y6,y7,h',g,e⟩:=Kz hs ks pl B ho i n hn hl j (aA (.fz (Zz h))) (Up h) f l x6 x7 wI λt ht=>⟨h,hj,ht⟩
 refine⟨f',l',aA (.fz (Zz h)),y6,y7,h',g.imp λx=>?_,?_⟩
 .constructor
  .rintro⟨t,ht,hx⟩;exact⟨t,⟨h,hj,ht⟩,hx⟩
  .rintro⟨t,⟨h2,e2,ht⟩,hx⟩;rw[hj]at e2;cases e2;exact⟨t,ht,hx⟩
 .have OG:(Up h).length<=10000:=hB h (cf hj);have zl:(h.ns.map Zw).length+(h.ms.map Zw).length<=PySem.sizeLine:=Jo (by rw[aj,aj];rw[bg]at OG;omega);have UR:∀a b c:D,L2.atI [a,b,c] 1=aA b:=λ_ _ _=>rfl;have US:∀a b c:D,L2.atI [a,b,c] 0=aA a:=λ_ _ _=>rfl;have ai:=zA hj;rw[show(Up h).map Zw=h.ns.map Zw++h.ms.map Zw from cu]at e;have el:W7 (l++[j])=W7 l++[.int (j:Int)]:=by simp[W7]
  have e1:(W7 l++[D.int (j:Int)])[(W7 l++[D.int (j:Int)]).length- 1]? =aA (.int (j:Int)):=by simp
  have e2:(W7 l++[D.int (j:Int)]).dropLast=W7 l:=List.dropLast_concat;unfold Gen.C3;unfold Rk at e⊢;rw[el];rw[show Zz h= .tup [.lst (h.ns.map Zw),.lst (h.ms.map Zw),.lst (h.fs.map Yu)]from rfl]at e ai⊢;generalize hs.map Zz=HS at*;generalize We ks pl=HD at*;generalize h.ns.map Zw=NS at*;generalize h.ms.map Zw=MS at*;generalize h.fs.map Yu=TS at*;generalize Jc f'=A1 at*;generalize Jd f'=A2 at*;generalize W7 l'=A3 at*;generalize Jc f=A4 at*;generalize Jd f=A5 at*;generalize W7 l=A6 at*;generalize hQ:A6++[D.int (j:Int)]=A7 at*;simp[e1,e2,ai,US,UR,zl,e,-Yf]
theorem E8:∀m f l x5 x6 x7,TI n f l->2*(n- f.length)+l.length<m->i∈f->(∀a∈f,RI hs i a)->(∀a∈f,a∉l->∀b,shI hs a b->b∈f)->(∀a∈f,a<n)->∃f' y5 y6 y7,TI n f' []/\i∈f'/\(∀a∈f',RI hs i a)/\(∀a∈f',∀b,shI hs a b->b∈f')/\
  J3 Gen.Oc Gen.C3 m (Rk (hs.map Zz) (We ks pl) i f l x5 x6 x7)=aA (.nx (Rk (hs.map Zz) (We ks pl) i f' [] y5 y6 y7))
 |0,f,l,x5,x6,x7,_,hm,_,_,_,_=>eF hm (f7 _)
 |m+1,f,l,x5,x6,x7,ti,hm,hi,hr,hc,ZK=>by
  rcases List.eq_nil_or_concat l with rfl|⟨l0,j,rfl⟩
  .refine⟨f,x5,x6,x7,ti,hi,hr,λa ha=>hc a ha (by simp),?_⟩;have t2:Gen.Oc (Rk (hs.map Zz) (We ks pl) i f [] x5 x6 x7)=aA (aD,Rk (hs.map Zz) (We ks pl) i f [] x5 x6 x7):=by unfold Gen.Oc Rk;simp[W7]
   unfold J3;rw[t2];rfl
  .rw[List.concat_eq_append]at*;have CW:j∈f:=ti.sub j (by simp);have TW:j<hs.length:=by rw[hl];exact ZK j CW
   have hj:hs[j]? =aA hs[j]:=au TW;obtain⟨f',l',y5,y6,y7,PH,g,e⟩:=jI hs ks pl B ho i n hn hl hB f l0 j hs[j] hj ti x5 x6 x7;have t1:Gen.Oc (Rk (hs.map Zz) (We ks pl) i f (l0++[j]) x5 x6 x7)=aA (aC,Rk (hs.map Zz) (We ks pl) i f (l0++[j]) x5 x6 x7):=by unfold Gen.Oc Rk;simp[W7]
   have hlen:=g.len;have hf':=PH.len.1;have iW:f.length<=f'.length:=dm ti.nd λx hx=>(g.gf x).mpr (.inl hx);have hfn:=ti.len.1;rw[bg]at hm;obtain⟨f2,z5,z6,z7,wG,a1,a2,a3,a4⟩:=E8 m f' l' y5 y6 y7 PH (by simp at hm;omega) ((g.gf i).mpr (.inl hi)) (λa ha=>by
     rcases(g.gf a).mp ha with z|z
     .exact hr a z
     .exact .step (hr j CW) z) (λa ha LA b YU=>by
     by_cases haf:a∈f
     .by_cases haj:a=j
      .rw[haj]at YU;exact(g.gf b).mpr (.inr YU)
      .have:a∉l0++[j]:=λz=>by
        rcases bz.mp z with z|z
        .exact LA ((g.gl a).mpr (.inl z))
        .exact haj (ar.mp z)
       exact(g.gf b).mpr (.inl (hc a haf this b YU))
     .rcases(g.gf a).mp ha with z|z
      .exact eF z haf
      .exact eF ((g.gl a).mpr (.inr ⟨z,haf⟩)) LA) (λa ha=>PH.lt a ha)
   refine⟨f2,z5,z6,z7,wG,a1,a2,a3,?_⟩;unfold J3;rw[t1];dsimp only[bu];rw[f_ rfl,e];exact a4
theorem tied(hi:i<n)(CK:n<=300):∃f,TI n f []/\i∈f/\(∀a∈f,RI hs i a)/\(∀a∈f,∀b,shI hs a b->b∈f)/\Gen.E5 [.lst (hs.map Zz),We ks pl,.int (i:Int)]=aA (.ol (W7 f)):=by
 have ti:TI n [i] [i]:=⟨by simp,λx hx=>by rw[ar.mp hx];exact hi,by simp,λx hx=>hx⟩
 obtain⟨f,y5,y6,y7,PH,a1,a2,a3,w⟩:=E8 hs ks pl B ho i n hn hl hB 1000 [i] [i] aB aB aB ti (by simp;omega) (by simp) (λa ha=>by rw[ar.mp ha];exact .here) (λa ha LA=>eF ha LA) (λa ha=>ti.lt a ha);refine⟨f,PH,a1,a2,a3,?_⟩;have ek:(Jc f).map Bi=W7 f:=by rw[cp];rfl
 unfold Gen.E5 Gen.Hx;have w:J3 Gen.Oc Gen.C3 Gen.NR [aA (.fz (.lst (hs.map Zz))),aA (.fz (We ks pl)),aA (.fz (.int (i:Int))),aA (.oK [.inl (i:Int)] [.bl aC]),aA (.ol [.int (i:Int)]),aB,aB,aB]=_:=w;unfold Rk at w;generalize hs.map Zz=HS,We ks pl=HD,Jc f=A1,Jd f=A2,W7 f=A3 at*;simp[w,ek,jz1]
end
noncomputable abbrev Y2(t:Qt):NK:=.inl [t.1,t.2.1]
def OkK(l:List NK):Prop:=(∀k∈l,To k)\/(∀k∈l,isM k)
theorem OkK.one(h:OkK l):C0 l:=h.imp (λh k hk=>h k hk) λh k hk=>h k hk
theorem yt(h:OkK l):∃out:List NK,out.Pairwise kLt/\∀x,x∈out↔x∈l:=by
 let le:NK->NK->Bool:=λa b=>!decide (O8 b<O8 a);have pm:((Ko l).mergeSort le).Perm (Ko l):=List.mergeSort_perm _ _;have pw:((Ko l).mergeSort le).Pairwise λa b=>le a b=aC:=List.pairwise_mergeSort (le:=le) (λa b c h1 h2=>by
   simp only[le,Bool.not_eq_true',decide_eq_false_iff_not]at*;exact dw.mpr (List.le_trans (dw.mp h1) (dw.mp h2))) (λa b=>by
   simp only[le,Bool.or_eq_true,Bool.not_eq_true',decide_eq_false_iff_not];rcases List.le_total (O8 a) (O8 b)with z|z
   .exact .inl (dw.mpr z)
   .exact .inr (dw.mpr z)) _
 have nd:((Ko l).mergeSort le).Nodup:=pm.nodup_iff.mpr (N8 l);have mem:∀x,x∈(Ko l).mergeSort le↔x∈l:=λx=>by rw[pm.mem_iff,Tz]
 refine⟨_,?_,mem⟩;refine(List.Pairwise.and_mem.mp (pw.and nd)).imp fun{a b} ⟨ha,hb,h1,h2⟩=>?_;simp only[le,Bool.not_eq_true',decide_eq_false_iff_not]at h1;by_cases z:O8 a<O8 b
 .exact z
 .exact eF (E3 (h.one.one ((mem a).mp ha) ((mem b).mp hb)) (List.le_antisymm (dw.mp h1) (dw.mp z))) h2
open Classical in
def rise(l:List NK):List NK:=if h:∃out:List NK,out.Pairwise kLt/\∀x,x∈out↔x∈l then Classical.choose h else[]
theorem Uv(h:OkK l):(rise l).Pairwise kLt/\∀x,x∈rise l↔x∈l:=by unfold rise;rw[dif_pos (yt h)];exact Classical.choose_spec (yt h)
theorem E9(h:OkK l)(hl:l.length<64):R4 [.lst (l.map Zw)]=aA (.ol ((rise l).map Zw)):=(jP l).trans (qI h.one hl (λx=>(Uv h).2 x) (Uv h).1)
def C9(ts:List Qt):List Qt:=ts.mergeSort λa b=>!decide (Wg b<Wg a)
theorem J1(ts):(C9 ts).Perm ts:=List.mergeSort_perm _ _
theorem K0(ts):(C9 ts).Pairwise λa b=>¬Wg b<Wg a:=by
 have:=List.pairwise_mergeSort (le:=λa b:Qt=>!decide (Wg b<Wg a)) (λa b c h1 h2=>by
   simp only[Bool.not_eq_true',decide_eq_false_iff_not]at*;exact dw.mpr (List.le_trans (dw.mp h1) (dw.mp h2))) (λa b=>by
   simp only[Bool.or_eq_true,Bool.not_eq_true',decide_eq_false_iff_not];rcases List.le_total (Wg a) (Wg b)with z|z
   .exact .inl (dw.mpr z)
   .exact .inr (dw.mpr z)) ts
 exact this.imp fun{a b} h=>by simpa using h
abbrev V6:=List (List NK)
noncomputable abbrev Oj(l:List NK):List D:=l.map Zw
noncomputable def Fa(ks:List NK)(pl:V6)(t:NK)(ys:List NK):List NK×V6:=match Wi ks t with
 |some q=>(ks,pl.set q (pl.getD q []++ys))
 |none=>(ks++[t],pl++[ys])
structure Tell(S:NK->Prop)(R:NK->NK->Prop)(L:NK->Nat)(B:Nat)(ks:List NK)(pl:V6):Prop where
 nd:ks.Nodup
 len:ks.length=pl.length
 key:∀t,t∈ks↔S t
 has:∀(q:Nat) (t:NK) (l:List NK),ks[q]? =aA t->pl[q]? =aA l->(∀k,k∈l↔R t k)/\l.length<=L t
 few:ks.length<=B
theorem Tell.imp{S:NK->Prop}(h:Tell S R L B ks pl)(e1:∀t,S t↔S' t)(e2:∀t k,R t k↔R' t k)(e3:∀t,L t<=L' t)(hB:B<=B'):Tell S' R' L' B' ks pl:=
 ⟨h.nd,h.len,λt=>(h.key t).trans (e1 t),λq t l h1 h2=>⟨λk=>((h.has q t l h1 h2).1 k).trans (e2 t k),dv (h.has q t l h1 h2).2 (e3 t)⟩,dv h.few hB⟩
theorem Tell.add{S}(h:Tell S R L B ks pl)(hs:∀t k,R t k->S t)(t ys):Tell (λu=>S u\/u=t) (λu k=>R u k\/(u=t/\k∈ys)) (λu=>L u+if u=t then ys.length else 0) (B+1) (Fa ks pl t ys).1 (Fa ks pl t ys).2:=by
 unfold Fa;cases e:Wi ks t with
 |some q=>
  have hq:=Ov e;have QF:q<ks.length:=by rcases du q ks.length with z|z;exact z;rw[d7 z]at hq;cases hq
  have WM:q<pl.length:=by rw[<-h.len];exact QF
  have eg:pl.getD q []=pl[q]:=by rw[bh,au WM];rfl
  have ht:S t:=(h.key t).mp (cf hq);refine⟨h.nd,by rw[im];exact h.len,λu=>?_,λi u l h1 h2=>?_,by have:=h.few;show ks.length<=_;omega⟩
  .rw[h.key];exact⟨.inl,λz=>z.elim id λz=>by rw[z];exact ht⟩
  .by_cases hi:i=q
   .subst hi;have eu:u=t:=by rw[hq]at h1;exact(dg.inj h1).symm
    rw[d0 WM]at h2;have el:=dg.inj h2;obtain⟨g1,g2⟩:=h.has i u pl[i] h1 (au WM);refine⟨λk=>?_,?_⟩
    .rw[<-el,bz,eg,g1 k];exact⟨λz=>z.elim .inl λz=>.inr ⟨eu,z⟩,λz=>z.elim .inl λz=>.inr z.2⟩
    .rw[<-el,bg,eg,f_ eu];omega
   .rw[d6 (λz=>hi z.symm)]at h2;obtain⟨g1,g2⟩:=h.has i u l h1 h2;refine⟨λk=>?_,by omega⟩;rw[g1 k];refine⟨.inl,λz=>z.elim id λz=>?_⟩;rw[z.1]at h1;exact eF ((List.getElem?_inj QF h.nd).mp (hq.trans h1.symm)) λw=>hi w.symm
 |none=>
  have hn:=Ox e;refine⟨dh.mpr ⟨h.nd,by simp,λa ha b hb e=>hn (by rw[<-ar.mp hb,<-e];exact ha)⟩,by simp[h.len],λu=>?_,λi u l h1 h2=>?_,by have:=h.few;simp;omega⟩
  .rw[bz,h.key,ar]
  .rcases du i ks.length with z|z
   .rw[cw z]at h1;rw[cw (by rw[<-h.len];exact z)]at h2;obtain⟨g1,g2⟩:=h.has i u l h1 h2;refine⟨λk=>?_,by omega⟩;rw[g1 k];exact⟨.inl,λw=>w.elim id λw=>eF (by rw[<-w.1];exact cf h1) hn⟩
   .rw[fq z]at h1;rw[fq (by rw[<-h.len];exact z),<-h.len]at h2;cases ei:i- ks.length with
    |zero=>rw[ei]at h1 h2;cases h1;cases h2;refine⟨λk=>⟨λw=>.inr ⟨rfl,w⟩,λw=>w.elim (λw=>eF ((h.key t).mpr (hs t k w)) hn) λw=>w.2⟩,by rw[f_ rfl];omega⟩
    |succ j=>rw[ei]at h1;cases h1
theorem jH(ks:List NK)(pl)(t:NK)(ys):Tn ks (pl.map Oj) t (Oj ys)=((Fa ks pl t ys).1,(Fa ks pl t ys).2.map Oj):=by
 unfold Tn Fa;cases Wi ks t with
 |some q=>
  dsimp only;rw[List.map_set];have:(pl.map Oj).getD q []=Oj (pl.getD q []):=by rw[bh,bh,ay];cases pl[q]? <;> rfl
  rw[this];simp[Oj]
 |none=>simp[Oj]
theorem Tell.ok{S}(h:Tell S R L B ks pl)(hB:B<=10000)(hL:∀t,L t<=10000)(n)(hn:n<=10000):okX (pl.map Oj) n:=
 zy (by rw[aj,<-h.len];have:=h.few;omega) (by omega) λxs hx=>by
  obtain⟨l,hl,rfl⟩:=av.mp hx;obtain⟨q,hq,rfl⟩:=fj hl;have vV:q<ks.length:=by rw[h.len];exact hq
  have:=(h.has q ks[q] pl[q] (au vV) (au hq)).2;have:=hL ks[q];simp[Oj];omega
noncomputable def Fb(t:NK)(fs:List Qt):Nat:=(fs.map λx=>if Y2 x=t then x.2.2.length else 0).sum
noncomputable def tlG(t:NK)(gs:List HP):Nat:=(gs.map λh=>Fb t h.fs).sum
theorem Bp(t x fs):Fb t (x::fs)=(if Y2 x=t then x.2.2.length else 0)+Fb t fs:=by unfold Fb;simp
theorem Ia(t h gs):tlG t (h::gs)=Fb t h.fs+tlG t gs:=by unfold tlG;simp
noncomputable abbrev Vi(A:Option SV)(ns ms:List NK)(ks:List NK)(pl:V6)(h x5 x6 x7 x8:Option SV):Yp:=[A,aA (.ol (Oj ns)),aA (.ol (Oj ms)),aA (.oX ks (pl.map Oj)),h,x5,x6,x7,x8]
theorem K5(A h x8 ns ms):∀fs S R L B ks pl x5 x6 x7,Tell S R L B ks pl->(∀t k,R t k->S t)->B+fs.length<=10000->(∀t,L t+Fb t fs<=10000)->(∀x∈fs,x.2.2.length<=10000)->∃ks' ZV y5 y6 y7,Tell (λt=>S t\/∃x∈fs,t=Y2 x) (λt k=>R t k\/∃x∈fs,t=Y2 x/\k∈x.2.2) (λt=>L t+Fb t fs) (B+fs.length) ks' ZV/\
  Yf (Ys 3 (Zm (Zf 5) (Zm (Zf 6) (Zm (Zf 7) Yw)))) Gen.Od (fs.map Yu) (Vi A ns ms ks pl h x5 x6 x7 x8)=aA (.nx (Vi A ns ms ks' ZV h y5 y6 y7 x8))
 | [],S,R,L,B,ks,pl,x5,x6,x7,te,_,_,_,_=>⟨ks,pl,x5,x6,x7,te.imp (λt=>by simp) (λt k=>by simp) (λt=>by simp[Fb]) (bc _),by simp⟩
 |x::fs,S,R,L,B,ks,pl,x5,x6,x7,te,RQ,hz,hL,hx=>by
  rw[aw]at hz;have te1:=te.add RQ (Y2 x) x.2.2;obtain⟨ks',ZV,y5,y6,y7,PJ,ih⟩:=K5 A h x8 ns ms fs _ _ _ (B+1) (Fa ks pl (Y2 x) x.2.2).1 (Fa ks pl (Y2 x) x.2.2).2 (aA (.fz (.str x.1))) (aA (.fz (.str x.2.1))) (aA (.fz (.lst (Oj x.2.2)))) te1 (λt k z=>z.elim (λz=>.inl (RQ t k z)) λz=>.inr z.1) (by omega) (λt=>by
   have:=hL t;rw[Bp]at this;by_cases e:t=Y2 x
   .rw[f_ e];rw[f_ e.symm]at this;omega
   .rw[fZ e];omega) λy hy=>hx y (ah _ hy)
  refine⟨ks',ZV,y5,y6,y7,PJ.imp (λt=>?_) (λt k=>?_) (λt=>?_) (by rw[aw];omega),?_⟩
  .simp only[bj,exists_eq_or_imp,or_assoc]
  .simp only[bj,exists_eq_or_imp,or_assoc]
  .rw[Bp];by_cases e:t=Y2 x
   .rw[f_ e,f_ e.symm];omega
   .rw[fZ e,fZ λz=>e z.symm];omega
  .have a:Gen.Od (Vi A ns ms ks pl h (aA (.fz (.str x.1))) (aA (.fz (.str x.2.1))) (aA (.fz (.lst (Oj x.2.2)))) x8)=aA (.nx (Vi A ns ms (Fa ks pl (Y2 x) x.2.2).1 (Fa ks pl (Y2 x) x.2.2).2 h (aA (.fz (.str x.1))) (aA (.fz (.str x.2.1))) (aA (.fz (.lst (Oj x.2.2)))) x8)):=by have:=yu (δ:=Vi A ns ms ks pl h (aA (.fz (.str x.1))) (aA (.fz (.str x.2.1))) (aA (.fz (.lst (Oj x.2.2)))) x8) (i:=3) (j:=7) (fk:=tupF (Zg (Za 5) (Zg (Za 6) Zr))) (p:=(.tmp (.fz (.tup [.str x.1,.str x.2.1])),Vi A ns ms ks pl h (aA (.fz (.str x.1))) (aA (.fz (.str x.2.1))) (aA (.fz (.lst (Oj x.2.2)))) x8)) (q:=(.tup [.str x.1,.str x.2.1],Vi A ns ms ks pl h (aA (.fz (.str x.1))) (aA (.fz (.str x.2.1))) (aA (.fz (.lst (Oj x.2.2)))) x8)) (d:=.lst (Oj x.2.2)) (ys:=Oj x.2.2) (ext:=aC) (k:=Y2 x) rfl (by simp[jz2]) rfl (Cw (Y2 x)) rfl rfl (.inr ⟨rfl,rfl⟩) (te.ok (by omega) (λt=>by have:=hL t;omega) _ (by simp[Oj];exact hx x ac));rw[jH]at this;exact this
   rw[ax];unfold Yf;rw[show(Ys 3 (Zm (Zf 5) (Zm (Zf 6) (Zm (Zf 7) Yw)))).run (Yu x) (Vi A ns ms ks pl h x5 x6 x7 x8)=aA (Vi A ns ms ks pl h (aA (.fz (.str x.1))) (aA (.fz (.str x.2.1))) (aA (.fz (.lst (Oj x.2.2)))) x8)from by simp];dsimp only[bu];rw[a];exact ih
abbrev SG(gs:List HP)(t:NK):Prop:=∃h∈gs,∃x∈h.fs,t=Y2 x
abbrev RG(gs:List HP)(t k:NK):Prop:=∃h∈gs,∃x∈h.fs,t=Y2 x/\k∈x.2.2
noncomputable def Tp(gs:List HP):Nat:=(gs.map λh=>h.fs.length).sum
theorem K6(h gs):Tp (h::gs)=h.fs.length+Tp gs:=by unfold Tp;simp
structure Few(h:HP):Prop where
 ns:h.ns.length<=1000
 ms:h.ms.length<=1000
 tl:∀x∈h.fs,x.2.2.length<=10000
theorem jG(A x8 hp)(fw:Few hp)(ns ms)(hz:ns.length+1000<=100000)(OG:ms.length+1000<=100000)(S R L B ks pl)(te:Tell S R L B ks pl)(RQ:∀t k,R t k->S t)(hB:B+hp.fs.length<=10000)(hL:∀t,L t+Fb t hp.fs<=10000)(x5 x6 x7):∃ks' ZV y5 y6 y7,Tell (λt=>S t\/∃x∈hp.fs,t=Y2 x) (λt k=>R t k\/∃x∈hp.fs,t=Y2 x/\k∈x.2.2) (λt=>L t+Fb t hp.fs) (B+hp.fs.length) ks' ZV/\
  Gen.W4 (Vi A ns ms ks pl (aA (.fz (Zz hp))) x5 x6 x7 x8)=aA (.nx (Vi A (ns++hp.ns) (ms++hp.ms) ks' ZV (aA (.fz (Zz hp))) y5 y6 y7 x8)):=by
 obtain⟨ks',ZV,y5,y6,y7,PJ,l⟩:=K5 A (aA (.fz (Zz hp))) x8 (ns++hp.ns) (ms++hp.ms) hp.fs S R L B ks pl x5 x6 x7 te RQ hB hL fw.tl;refine⟨ks',ZV,y5,y6,y7,PJ,?_⟩;have z1:(Oj ns).length+(hp.ns.map Zw).length<=PySem.sizeLine:=Jo (by have:=fw.ns;simp[Oj];omega);have z2:(Oj ms).length+(hp.ms.map Zw).length<=PySem.sizeLine:=Jo (by have:=fw.ms;simp[Oj];omega);have uf:∀a b c:D,L2.atI [a,b,c] 2=aA c:=λ_ _ _=>rfl;have UR:∀a b c:D,L2.atI [a,b,c] 1=aA b:=λ_ _ _=>rfl;have US:∀a b c:D,L2.atI [a,b,c] 0=aA a:=λ_ _ _=>rfl;have e1:Oj (ns++hp.ns)=Oj ns++hp.ns.map Zw:=cu;have e2:Oj (ms++hp.ms)=Oj ms++hp.ms.map Zw:=cu;unfold Gen.W4;unfold Vi at l⊢;rw[e1,e2]at l⊢;clear e1 e2;rw[show Zz hp= .tup [.lst (hp.ns.map Zw),.lst (hp.ms.map Zw),.lst (hp.fs.map Yu)]from rfl]at l⊢;generalize pl.map Oj=P1,ZV.map Oj=P2,Oj ns=N1,Oj ms=N2,hp.ns.map Zw=NS,hp.ms.map Zw=MS,hp.fs.map Yu=TS at*;simp[US,UR,uf,z1,z2,l,-Yf]
theorem K7(A x8):∀gs ns ms S R L B ks pl x4 x5 x6 x7,Tell S R L B ks pl->(∀t k,R t k->S t)->(∀h∈gs,Few h)->ns.length+1000*gs.length<=90000->ms.length+1000*gs.length<=90000->B+Tp gs<=10000->(∀t,L t+tlG t gs<=10000)->∃ks' ZV y4 y5 y6 y7,Tell (λt=>S t\/SG gs t) (λt k=>R t k\/RG gs t k) (λt=>L t+tlG t gs) (B+Tp gs) ks' ZV/\
  Yf (Zf 4) Gen.W4 (gs.map Zz) (Vi A ns ms ks pl x4 x5 x6 x7 x8)=aA (.nx (Vi A (ns++gs.flatMap HP.ns) (ms++gs.flatMap HP.ms) ks' ZV y4 y5 y6 y7 x8))
 | [],ns,ms,S,R,L,B,ks,pl,x4,x5,x6,x7,te,_,_,_,_,_,_=>⟨ks,pl,x4,x5,x6,x7,te.imp (λt=>by simp) (λt k=>by simp) (λt=>by simp[tlG]) (by simp[Tp]),by simp⟩
 |h::gs,ns,ms,S,R,L,B,ks,pl,x4,x5,x6,x7,te,RQ,fw,hz,OG,hB,hL=>by
  rw[aw]at hz OG;rw[K6]at hB;have fh:=fw h ac;obtain⟨MO,pl1,z5,z6,z7,te1,t1⟩:=jG A x8 h fh ns ms (by omega) (by omega) S R L B ks pl te RQ (by omega) (λt=>by have:=hL t;rw[Ia]at this;omega) x5 x6 x7;obtain⟨ks',ZV,y4,y5,y6,y7,PJ,ih⟩:=K7 A x8 gs (ns++h.ns) (ms++h.ms) _ _ _ _ MO pl1 (aA (.fz (Zz h))) z5 z6 z7 te1 (λt k z=>z.elim (λz=>.inl (RQ t k z)) λ⟨x,hx,e,_⟩=>.inr ⟨x,hx,e⟩) (λg hg=>fw g (ah _ hg)) (by have:=fh.ns;rw[bg];omega) (by have:=fh.ms;rw[bg];omega) (by omega) (λt=>by have:=hL t;rw[Ia]at this;omega);refine⟨ks',ZV,y4,y5,y6,y7,PJ.imp (λt=>?_) (λt k=>?_) (λt=>by rw[Ia];omega) (by rw[K6];omega),?_⟩
  .simp only[SG,bj,exists_eq_or_imp,or_assoc]
  .simp only[RG,bj,exists_eq_or_imp,or_assoc]
  .rw[ax,List.flatMap_cons,List.flatMap_cons,<-ib,<-ib];unfold Yf;rw[show(Zf 4).run (Zz h) (Vi A ns ms ks pl x4 x5 x6 x7 x8)=aA (Vi A ns ms ks pl (aA (.fz (Zz h))) x5 x6 x7 x8)from by simp];dsimp only[bu];rw[t1];exact ih
noncomputable def Qf(ks:List NK)(pl:V6)(k:NK):List NK:=match Wi ks k with
 |some q=>pl.getD q []
 |none=>[]
theorem jF{ks:List NK}(h:k∈ks):∃q,Wi ks k=aA q:=by
 cases e:Wi ks k with
 |some q=>exact⟨q,rfl⟩
 |none=>exact eF h (Ox e)
theorem T5{S}(te:Tell S R L B ks pl)(hk:k∈ks):(∀x,x∈Qf ks pl k↔R k x)/\(Qf ks pl k).length<=L k/\look ks ((pl.map Oj).map D.lst) k=aA (.lst (Oj (Qf ks pl k))):=by
 obtain⟨q,e⟩:=jF hk;have hq:=Ov e;have QF:q<ks.length:=by rcases du q ks.length with z|z;exact z;rw[d7 z]at hq;cases hq
 have WM:q<pl.length:=by rw[<-te.len];exact QF
 have et:Qf ks pl k=pl[q]:=by unfold Qf;rw[e];show pl.getD q []=_;rw[bh,au WM];rfl
 have hp:=au WM;obtain⟨g1,g2⟩:=te.has q k pl[q] hq hp;rw[et];exact⟨g1,g2,Pa te.nd hq (by rw[ay,ay,hp];rfl)⟩
def Ga(ks:List NK)(pl:V6):NK->Qt
 | .inl [a,b]=>(a,b,rise (Qf ks pl (.inl [a,b])))
 |_=>("","",[])
def K8(ks:List NK)(pl:V6)(d:D):D:=match nk? d with
 |some k=>Yu (Ga ks pl k)
 |none=>.non
theorem jE{S}(te:Tell S R L B ks pl)(hB:B<=10000)(hp:∀t,S t->∃a b,t= .inl [a,b])(hL:∀t,L t<64)(hR:∀t k,R t k->To k):
  Y1 [.own,.cap 3,.acc] 2 (Zf 0) U6 Gen.Q8 (ks.map Zw) [aB,aA (.fz (.dX ks ((pl.map Oj).map D.lst))),aA (.ol [])]=
  aA [aB,aA (.fz (.dX ks ((pl.map Oj).map D.lst))),aA (.ol ((ks.map (Ga ks pl)).map Yu))]:=by
 have c:=Cy (te:=Gen.Q8) (f:=K8 ks pl) (c:=aA (.fz (.dX ks ((pl.map Oj).map D.lst)))) (j:=3) (ks.map Zw) [] (λx hx zs=>by
  obtain⟨k,hk,rfl⟩:=av.mp hx;obtain⟨a,b,rfl⟩:=hp k ((te.key k).mp hk);obtain⟨g1,g2,lk⟩:=T5 te hk;have ok:OkK (Qf ks pl (.inl [a,b])):=.inl λx hx=>hR _ _ ((g1 x).mp hx);have sd:R4 [.lst ((Qf ks pl (.inl [a,b])).map Zw)]=aA (.ol (Oj (rise (Qf ks pl (.inl [a,b]))))):=E9 ok (gw g2 (hL _));have UR:∀a b:D,L2.atI [a,b] 1=aA b:=λ_ _=>rfl;have US:∀a b:D,L2.atI [a,b] 0=aA a:=λ_ _=>rfl;have ek:Zw (.inl [a,b])= .tup [.str a,.str b]:=rfl;have nk:=Cw (.inl [a,b]);have ef:K8 ks pl (Zw (.inl [a,b]))= .tup [.str a,.str b,.lst (Oj (rise (Qf ks pl (.inl [a,b]))))]:=by unfold K8;rw[nk];rfl
  rw[ef];rw[ek]at nk⊢;unfold Gen.Q8;generalize (pl.map Oj).map D.lst=XS,Oj (rise (Qf ks pl (.inl [a,b])))=RS at*;have vF:look ks XS (Sum.inl [a,b])=aA (.lst ((Qf ks pl (.inl [a,b])).map Zw)):=lk;generalize (Qf ks pl (.inl [a,b])).map Zw=TD,(Sum.inl [a,b]:NK)=P at*;simp[US,UR,nk,vF,sd,jz3,-look]) (by have:=te.few;simp;omega)
 have e:(ks.map Zw).map (K8 ks pl)=(ks.map (Ga ks pl)).map Yu:=by rw[cp,cp];refine List.map_congr_left λk _=>?_;show K8 ks pl (Zw k)=Yu (Ga ks pl k);unfold K8;rw[Cw]
 rw[c,gq,e]
structure Grp(gs:List HP):Prop where
 few:∀h∈gs,Few h
 nn:∀h∈gs,∀k∈h.ns,To k
 mm:∀h∈gs,∀k∈h.ms,isM k
 tt:∀h∈gs,∀x∈h.fs,∀k∈x.2.2,To k
 n64:(gs.flatMap HP.ns).length<64
 m64:(gs.flatMap HP.ms).length<64
 t64:∀t,tlG t gs<64
 len:gs.length<64
 cnt:Tp gs<=10000
 p64:∃ps:List NK,ps.length<64/\∀t,SG gs t->t∈ps
theorem join_heaps(gs)(g:Grp gs):∃h,g_ (· ∈gs) h/\Gen.Q9 [.lst (gs.map Zz)]=aA (.fz (Zz h)):=by
 have wJ:Tell (λ_=>False) (λ_ _=>False) (λ_=>0) 0 [] []:=⟨c6,rfl,λt=>by simp,λq t l h _=>by simp at h,bc _⟩
 obtain⟨ks,pl,y4,y5,y6,y7,te1,l⟩:=K7 (aA (.fz (.lst (gs.map Zz)))) aB gs [] [] _ _ _ 0 [] [] aB aB aB aB wJ (λ_ _ z=>z) g.few (by have:=g.len;simp;omega) (by have:=g.len;simp;omega) (by have:=g.cnt;omega) (λt=>by have:=g.t64 t;omega);have te:Tell (SG gs) (RG gs) (λt=>tlG t gs) (Tp gs) ks pl:=te1.imp (λt=>by simp) (λt k=>by simp) (λt=>by simp) (by omega);have TN:∀t,SG gs t->∃a b,t= .inl [a,b]:=λt ⟨h,_,x,_,e⟩=>⟨x.1,x.2.1,e⟩
 have GB:∀t k,RG gs t k->To k:=λt k ⟨h,hh,x,hx,_,hk⟩=>g.tt h hh x hx k hk;have c:=jE te g.cnt TN g.t64 GB;have JO:OkK (gs.flatMap HP.ns):=.inl λk hk=>by obtain⟨h,hh,hk⟩:=List.mem_flatMap.mp hk;exact g.nn h hh k hk
 have JP:OkK (gs.flatMap HP.ms):=.inr λk hk=>by obtain⟨h,hh,hk⟩:=List.mem_flatMap.mp hk;exact g.mm h hh k hk
 have r1:=E9 JO g.n64;have r2:=E9 JP g.m64;have vL:ks.length<64:=by obtain⟨ps,h1,h2⟩:=g.p64;exact gw (dm te.nd λt ht=>h2 t ((te.key t).mp ht)) h1
 have tri:∀k∈ks,∃a b,k= .inl [a,b]/\Ga ks pl k=(a,b,rise (Qf ks pl k)):=λk hk=>by obtain⟨a,b,rfl⟩:=TN k ((te.key k).mp hk);exact⟨a,b,rfl,rfl⟩
 have JN:∀k∈ks,OkK (Qf ks pl k):=λk hk=>.inl λx hx=>GB k x (((T5 te hk).1 x).mp hx);have PY:((ks.map (Ga ks pl)).map Wg).Nodup:=by rw[cp];refine fu.mpr ((List.Pairwise.and_mem.mp te.nd).imp fun{x y} ⟨hx,hy,h⟩ e=>h ?_);obtain⟨a,b,e1,e2⟩:=tri x hx;obtain⟨a',b',uY,UQ⟩:=tri y hy;have e:Wg (Ga ks pl x)=Wg (Ga ks pl y):=e;rw[e2,UQ]at e;obtain⟨z1,z2⟩:=lH e;have z1:a=a':=z1;have z2:b=b':=z2;rw[e1,uY,z1,z2]
 have r3:Em [.lst ((ks.map (Ga ks pl)).map Yu)]=aA (.ol ((C9 (ks.map (Ga ks pl))).map Yu)):=nP (λt ht k hk=>by
   obtain⟨x,hx,rfl⟩:=av.mp ht;obtain⟨a,b,e1,e2⟩:=tri x hx;rw[e2]at hk;exact GB x k (((T5 te hx).1 k).mp (((Uv (JN x hx)).2 k).mp hk))) PY (by rw[aj];exact vL) (J1 _) (K0 _)
 refine⟨⟨rise (gs.flatMap HP.ns),rise (gs.flatMap HP.ms),C9 (ks.map (Ga ks pl))⟩,⟨(Uv JO).1,λk=>?_,(Uv JP).1,λk=>?_,?_,λf v=>?_,λt ht=>?_⟩,?_⟩
 .rw[(Uv JO).2,List.mem_flatMap]
 .rw[(Uv JP).2,List.mem_flatMap]
 .have nd2:((C9 (ks.map (Ga ks pl))).map Wg).Nodup:=(((J1 _).map Wg).nodup_iff).mpr PY;refine((K0 _).and (fu.mp nd2)).imp fun{a b} ⟨h1,h2⟩=>?_;by_cases z:Wg a<Wg b
  .exact z
  .exact eF (List.le_antisymm (dw.mp h1) (dw.mp z)) h2
 .constructor
  .rintro⟨l,hl⟩;obtain⟨k,hk,e⟩:=av.mp ((J1 _).mem_iff.mp hl);obtain⟨a,b,e1,e2⟩:=tri k hk;rw[e2]at e;obtain⟨h,hh,x,hx,ex⟩:=(te.key k).mp hk;rw[e1]at ex;have ex:=List.cons.inj (Sum.inl.inj ex);have ex2:=(List.cons.inj ex.2).1;have ea:=(Prod.mk.inj e).1;have eb:=(Prod.mk.inj (Prod.mk.inj e).2).1;refine⟨h,hh,x.2.2,?_⟩;rw[<-ea,<-eb,ex.1,ex2];exact hx
  .rintro⟨h,hh,l,hl⟩;have hk:Y2 (f,v,l)∈ks:=(te.key _).mpr ⟨h,hh,_,hl,rfl⟩;exact⟨_,(J1 _).mem_iff.mpr (List.mem_map_of_mem (f:=Ga ks pl) hk)⟩
 .obtain⟨k,hk,rfl⟩:=av.mp ((J1 _).mem_iff.mp ht);obtain⟨a,b,e1,e2⟩:=tri k hk;rw[e2];refine⟨(Uv (JN k hk)).1,λx=>?_⟩;show x∈rise (Qf ks pl k)↔_;rw[(Uv (JN k hk)).2,(T5 te hk).1 x,e1];constructor
  .rintro⟨h,hh,y,hy,ey,hx⟩;have ey:=List.cons.inj (Sum.inl.inj ey);have ey2:=(List.cons.inj ey.2).1;exact⟨h,hh,y.2.2,by show(a,b,y.2.2)∈h.fs;rw[ey.1,ey2];exact hy,hx⟩
  .rintro⟨h,hh,l,hl,hx⟩;exact⟨h,hh,_,hl,rfl,hx⟩
 .rw[gq,gq]at l;have l:Yf (Zf 4) Gen.W4 (gs.map Zz) [aA (.fz (.lst (gs.map Zz))),aA (.ol []),aA (.ol []),aA (.oX [] []),aB,aB,aB,aB,aB]=_:=l;unfold Gen.Q9 Gen.B7;unfold Vi at l;unfold Oj at l;unfold Oj at c;rw[show Zz ⟨rise (gs.flatMap HP.ns),rise (gs.flatMap HP.ms),C9 (ks.map (Ga ks pl))⟩=D.tup [.lst ((rise (gs.flatMap HP.ns)).map Zw),.lst ((rise (gs.flatMap HP.ms)).map Zw),.lst ((C9 (ks.map (Ga ks pl))).map Yu)]from rfl];generalize (C9 (ks.map (Ga ks pl))).map Yu=O3,(ks.map (Ga ks pl)).map Yu=O4,(rise (gs.flatMap HP.ns)).map Zw=O1,(rise (gs.flatMap HP.ms)).map Zw=O2,(gs.flatMap HP.ns).map Zw=I1,(gs.flatMap HP.ms).map Zw=I2,gs.map Zz=GS,(pl.map λl=>l.map Zw)=PL at*;simp[l,c,r1,r2,r3,jz3,Kt,-Yf,-Y1]
theorem g_.congr(m:g_ G h)(e:∀a,G a↔G' a):g_ G' h:=by have:G=G':=funext λa=>propext (e a);rw[<-this];exact m
noncomputable abbrev Pf(hs:List HP)(b:Nat):HP:=(hs[b]?).getD ⟨[],[],[]⟩
theorem Rh(hb:b<hs.length):hs[b]? =aA (Pf hs b):=by unfold Pf;rw[au hb];rfl
abbrev Ib(hs:List HP)(p:Nat)(g:HP):Prop:=∃b,RI hs p b/\hs[b]? =aA g
theorem lD(h:shI hs a b):shI hs b a:=let⟨t,h1,h2⟩:=h;⟨t,h2,h1⟩
theorem RI.trans(h:RI hs a b)(k:RI hs b c):RI hs a c:=by
 induction k with
 |here=>exact h
 |step _ s ih=>exact .step ih s
theorem RI.symm(h:RI hs a b):RI hs b a:=by
 induction h with
 |here=>exact .here
 |step _ s ih=>exact(RI.step .here (lD s)).trans ih
theorem Vj(hp:hs[p]? =aA a)(g):Ib hs p g↔fF (· ∈hs) a g:=by
 constructor
 .rintro⟨b,r,e⟩;have:∀{x y},RI hs x y->x=p->∀g,hs[y]? =aA g->fF (· ∈hs) a g:=fun{x y} r=>by
   induction r with
   |here=>intro hx g e;rw[hx,hp]at e;cases e;exact .here (cf hp)
   |step r s ih=>intro hx g e;obtain⟨t,⟨u,eu,tu⟩,⟨v,ev,tv⟩⟩:=s;rw[e]at ev;cases ev;exact .step (ih hx u eu) (cf e) ⟨t,tu,tv⟩
  exact this r rfl g e
 .intro c;have:∀{x y},fF (· ∈hs) x y->hs[p]? =aA x->Ib hs p y:=fun{x y} c=>by
   induction c with
   |here _=>exact λz=>⟨p,.here,z⟩
   |step c' hc sh ih=>intro z;obtain⟨b,r,e⟩:=ih z;obtain⟨q,hq⟩:=List.getElem?_of_mem hc;obtain⟨t,t1,t2⟩:=sh;exact⟨q,.step r ⟨t,⟨_,e,t1⟩,⟨_,hq,t2⟩⟩,hq⟩
  exact this c hp
theorem Dd(w:Nat->Nat):∀n (f:List Nat),f.Nodup->(∀x∈f,x<n)->(f.map w).sum<=((cr n).map w).sum
 |0,f,_,h=>by
  cases f with
  |nil=>simp
  |cons x f=>exact eF (h x ac) (f7 _)
 |n+1,f,nd,h=>by
  rw[List.range_succ,cu,List.sum_append];by_cases hn:n∈f
  .have pm:=List.perm_cons_erase hn;have nd2:=pm.nodup_iff.mp nd;obtain⟨n1,n2⟩:=dy.mp nd2;have ih:=Dd w n (f.erase n) n2 λx hx=>by have h1:=h x (List.mem_of_mem_erase hx);have h2:x≠n:=λz=>n1 (z▸hx);omega
   rw[(pm.map w).sum_nat,ax,List.sum_cons];simp only[ax,List.map_nil,List.sum_cons,List.sum_nil];omega
  .have ih:=Dd w n f nd λx hx=>by have h1:=h x hx;have h2:x≠n:=λz=>hn (by rw[<-z];exact hx);omega
   omega
theorem lC(w:HP->Nat)(hs):(cr hs.length).map (λb=>w (Pf hs b))=hs.map w:=by refine List.ext_getElem (by simp) λi h1 h2=>?_;simp at h1;have:=Rh h1;rw[au h1]at this;rw[List.getElem_map,List.getElem_map,List.getElem_range,<-dg.inj this]
structure Tot(hs:List HP):Prop where
 all:Grp hs
 ne:∀h∈hs,h.ns≠[]
theorem Tot.grp(T:Tot hs){f:List Nat}(nd:f.Nodup)(lt:∀x∈f,x<hs.length):Grp (f.map (Pf hs)):=by
 have mem:∀h∈f.map (Pf hs),h∈hs:=λh hh=>by obtain⟨b,hb,rfl⟩:=av.mp hh;exact cf (Rh (lt b hb))
 have le:∀w:HP->Nat,((f.map (Pf hs)).map w).sum<=(hs.map w).sum:=λw=>by rw[cp,<-lC w hs];exact Dd (w∘Pf hs) hs.length f nd lt
 have A:=T.all;refine⟨λh hh=>A.few h (mem h hh),λh hh=>A.nn h (mem h hh),λh hh=>A.mm h (mem h hh),λh hh=>A.tt h (mem h hh),?_,?_,λt=>gw (le _) (A.t64 t),?_,dv (le _) A.cnt,?_⟩
 .have:=A.n64;rw[List.length_flatMap]at this⊢;exact gw (le _) this
 .have:=A.m64;rw[List.length_flatMap]at this⊢;exact gw (le _) this
 .rw[aj];have:=Pb nd lt;have:=A.len;omega
 .obtain⟨ps,h1,h2⟩:=A.p64;exact⟨ps,h1,λt ⟨h,hh,z⟩=>h2 t ⟨h,mem h hh,z⟩⟩
abbrev De(HS:List D)(HD:D)(P:List D)(sk:List Nat)(x4 x5 x6:Option SV):Yp:=[aA (.fz (.lst HS)),aA (.fz HD),aA (.ol P),aA (.oK (Jc sk) (Jd sk)),x4,x5,x6]
theorem K9(HS HD P x4 x5):∀f sk x6,(sk++f).Nodup->sk.length+f.length<=10000->∃y6,
  Yf (Zf 6) Gen.Oe (W7 f) (De HS HD P sk x4 x5 x6)=aA (.nx (De HS HD P (sk++f) x4 x5 y6))
 | [],sk,x6,_,_=>⟨x6,by simp[W7]⟩
 |o::f,sk,x6,nd,hz=>by
  rw[aw]at hz;have e0:(sk++[o])++f=sk++o::f:=by simp
  obtain⟨y6,ih⟩:=K9 HS HD P x4 x5 f (sk++[o]) (aA (.fz (.int (o:Int)))) (by rw[e0];exact nd) (by rw[bg];simp;omega);refine⟨y6,?_⟩;have ho:o∉sk:=λz=>(dh.mp nd).2.2 o z o ac rfl;have p:Y6 (Jc sk) (Jd sk) (Sum.inl (o:Int)) (.bl aC)=(Jc (sk++[o]),Jd (sk++[o])):=by unfold Y6;rw[fZ λz=>ho (Bo.mp z)];simp[Jc,Jd]
  have z1:(Jd sk).length<PySem.sizeLine:=Yk (by simp;omega);have t:Gen.Oe (De HS HD P sk x4 x5 (aA (.fz (.int (o:Int)))))=aA (.nx (De HS HD P (sk++[o]) x4 x5 (aA (.fz (.int (o:Int)))))):=by unfold Gen.Oe De;generalize Jc (sk++[o])=K1,Jd (sk++[o])=K2,Jc sk=K3,Jd sk=K4 at*;simp[p,z1,-Y6]
  show Yf (Zf 6) Gen.Oe (.int (o:Int)::W7 f) _=_;unfold Yf;rw[show(Zf 6).run (.int (o:Int)) (De HS HD P sk x4 x5 x6)=aA (De HS HD P sk x4 x5 (aA (.fz (.int (o:Int)))))from by simp];dsimp only[bu];rw[t];dsimp only[bu];rw[ih,e0]
theorem lB(hs f)(lt:∀x∈f,x<hs.length)(hf:f.length<=10000):
  Y1 [.own,.cap 0,.acc] 2 (Zf 0) U6 Gen.B8 (W7 f) [aB,aA (.fz (.lst (hs.map Zz))),aA (.ol [])]=aA [aB,aA (.fz (.lst (hs.map Zz))),aA (.ol ((f.map (Pf hs)).map Zz))]:=by
 let F:D->D:=λd=>match d with| .int i=>Zz (Pf hs i.toNat)|_=>.non
 have c:=Cy (te:=Gen.B8) (f:=F) (c:=aA (.fz (.lst (hs.map Zz)))) (j:=0) (W7 f) [] (λx hx zs=>by
  obtain⟨b,hb,rfl⟩:=av.mp hx;have ai:=zA (Rh (lt b hb));have ef:F (.int (b:Int))=Zz (Pf hs b):=by show Zz (Pf hs ((b:Int)).toNat)=_;rw[Int.toNat_natCast]
  rw[ef];unfold Gen.B8;generalize Zz (Pf hs b)=Q,hs.map Zz=HS at*;simp[ai]) (by simp[W7];omega)
 have e:(W7 f).map F=(f.map (Pf hs)).map Zz:=by rw[cp,cp];refine List.map_congr_left λb _=>?_;show Zz (Pf hs ((b:Int)).toNat)=Zz (Pf hs b);rw[Int.toNat_natCast]
 rw[c,gq,e]
structure JI(hs:List HP)(i:Nat)(sk:List Nat)(ps:List HP):Prop where
 nd:sk.Nodup
 lt:∀x∈sk,x<hs.length
 cl:∀a∈sk,∀b,shI hs a b->b∈sk
 upto:∀p,p<i->p∈sk
 each:∀h∈ps,∃a∈sk,g_ (Ib hs a) h
 all:∀a∈sk,∃h∈ps,g_ (Ib hs a) h
 apart:ps.Pairwise λh h'=>∀k,k∈h.ns->k∉h'.ns
 len:ps.length<=i
theorem JI.ri(j:JI hs i sk ps)(ha:a∈sk)(r:RI hs a b):b∈sk:=by
 induction r with
 |here=>exact ha
 |step _ s ih=>exact j.cl _ ih _ s
theorem Vk(hs)(T:Tot hs)(ks pl B)(ho:fM (Rg hs) B ks pl)(i)(hi:i<hs.length)(sk ps)(j:JI hs i sk ps)(x5 x6):∃MG ZO y5 y6,JI hs (i+1) MG ZO/\
  Gen.Jl (De (hs.map Zz) (We ks pl) (ps.map Zz) sk (aA (.fz (.int (i:Int)))) x5 x6)=aA (.nx (De (hs.map Zz) (We ks pl) (ZO.map Zz) MG (aA (.fz (.int (i:Int)))) y5 y6)):=by
 have h64:=T.all.len;have hB:∀h∈hs,(Up h).length<=10000:=λh hh=>by have f:=T.all.few h hh;have:=f.ns;have:=f.ms;rw[bg];omega
 by_cases UB:i∈sk
 .refine⟨sk,ps,x5,x6,⟨j.nd,j.lt,j.cl,λp hp=>?_,j.each,j.all,j.apart,by have:=j.len;omega⟩,?_⟩
  .by_cases e:p=i
   .rw[e];exact UB
   .exact j.upto p (by omega)
  .obtain⟨v,lk⟩:=Mu (ks:=Jc sk) (vs:=Jd sk) (k:=.inl (i:Int)) (by simp) (Bo.mpr UB);unfold Gen.Jl De;generalize Jc sk=K1,Jd sk=K2 at*;simp[lk,-look]
 .obtain⟨f,ti,fi,fr,fc,tg⟩:=tied hs ks pl B ho i hs.length (by omega) rfl hB hi (by omega);have out:∀x∈f,x∉sk:=λx hx z=>UB (j.ri z (fr x hx).symm);have nd2:(sk++f).Nodup:=dh.mpr ⟨j.nd,ti.nd,λa ha b hb e=>out b hb (by rw[<-e];exact ha)⟩;have fl:=ti.len.1;have skl:=Pb j.nd j.lt;obtain⟨h,m,jh⟩:=join_heaps (f.map (Pf hs)) (T.grp ti.nd ti.lt);have mem:∀g,g∈f.map (Pf hs)↔Ib hs i g:=λg=>by
   constructor
   .intro z;obtain⟨b,hb,rfl⟩:=av.mp z;exact⟨b,fr b hb,Rh (ti.lt b hb)⟩
   .rintro⟨b,r,e⟩;have hb:b∈f:=by
     have:∀{x y},RI hs x y->x∈f->y∈f:=fun{x y} r=>by
      induction r with
      |here=>exact id
      |step _ s ih=>exact λz=>fc _ (ih z) _ s
     exact this r fi
    have:=Rh (ti.lt b hb);rw[e]at this;rw[dg.inj this];exact List.mem_map_of_mem hb
  have m:g_ (Ib hs i) h:=m.congr mem;obtain⟨y6,sl⟩:=K9 (hs.map Zz) (We ks pl) (ps.map Zz) (aA (.fz (.int (i:Int)))) (aA (.fz (.lst (W7 f)))) f sk x6 nd2 (by omega);refine⟨sk++f,ps++[h],aA (.fz (.lst (W7 f))),y6,⟨nd2,λx hx=>?_,λa ha b YU=>?_,λp hp=>?_,λh' hh=>?_,λa ha=>?_,?_,by have:=j.len;simp;omega⟩,?_⟩
  .rcases bz.mp hx with z|z
   .exact j.lt x z
   .exact ti.lt x z
  .rcases bz.mp ha with z|z
   .exact cg _ (j.cl a z b YU)
   .exact b7 _ (fc a z b YU)
  .by_cases e:p=i
   .rw[e];exact b7 _ fi
   .exact cg _ (j.upto p (by omega))
  .rcases bz.mp hh with z|z
   .obtain⟨a,ha,m'⟩:=j.each h' z;exact⟨a,cg _ ha,m'⟩
   .rw[ar.mp z];exact⟨i,b7 _ fi,m⟩
  .rcases bz.mp ha with z|z
   .obtain⟨h',hh,m'⟩:=j.all a z;exact⟨h',cg _ hh,m'⟩
   .refine⟨h,by simp,m.congr λg=>?_⟩;constructor
    .rintro⟨b,r,e⟩;exact⟨b,(fr a z).symm.trans r,e⟩
    .rintro⟨b,r,e⟩;exact⟨b,(fr a z).trans r,e⟩
  .refine List.pairwise_append.mpr ⟨j.apart,by simp,λh1 HN h2 vw k k1 k2=>?_⟩;rw[ar.mp vw]at k2;obtain⟨a,ha,m1⟩:=j.each h1 HN;obtain⟨u,⟨c,rc,ec⟩,kc⟩:=(m1.ns_m k).mp k1;obtain⟨v,⟨d,rd,ed⟩,kd⟩:=(m.ns_m k).mp k2;have cs:=j.ri ha rc;have ds:=j.cl c cs d ⟨k,⟨u,ec,cg _ kc⟩,⟨v,ed,cg _ kd⟩⟩;exact UB (j.ri ds rd.symm)
  .have lk:look (Jc sk) (Jd sk) (.inl (i:Int))=aB:=E7 λz=>UB (Bo.mp z);have c:=lB hs f ti.lt (by omega);have zp:(ps.map Zz).length<PySem.sizeLine:=Yk (by have:=j.len;rw[aj];omega);have ep:(ps++[h]).map Zz=ps.map Zz++[Zz h]:=by simp
   rw[ep];rw[show Zz h= .tup [.lst (h.ns.map Zw),.lst (h.ms.map Zw),.lst (h.fs.map Yu)]from rfl]at jh⊢;unfold Gen.Jl;unfold De at sl⊢;generalize [D.lst (h.ns.map Zw),.lst (h.ms.map Zw),.lst (h.fs.map Yu)]=HH,(f.map (Pf hs)).map Zz=GS,hs.map Zz=HS,We ks pl=HD,ps.map Zz=PP,Jc (sk++f)=K1,Jd (sk++f)=K2,Jc sk=K3,Jd sk=K4,W7 f=PF at*;simp[lk,tg,sl,c,jh,zp,-look,-Yf,-Y1]
theorem lA(T:Tot hs)(ha:a<hs.length)(m:g_ (Ib hs a) h):fQ h:=by
 have A:=T.all;refine⟨λz=>?_,λk hk=>?_,λk hk=>?_,λt ht k hk=>?_⟩
 .have e:=Rh ha;have hm:=cf e;obtain⟨k,l,ek⟩:=g8 (T.ne _ hm);have:=(m.ns_m k).mpr ⟨_,⟨a,.here,e⟩,by rw[ek];exact ac⟩;rw[z]at this;cases this
 .obtain⟨g,⟨b,_,e⟩,hk⟩:=(m.ns_m k).mp hk;exact A.nn g (cf e) k hk
 .obtain⟨g,⟨b,_,e⟩,hk⟩:=(m.ms_m k).mp hk;exact A.mm g (cf e) k hk
 .obtain⟨g,⟨b,_,e⟩,l,hl,hk⟩:=((m.fs_l t ht).2 k).mp hk;exact A.tt g (cf e) _ hl k hk
theorem Df(o:fQ h)(o':fQ h')(ap:∀k,k∈h.ns->k∉h'.ns):Q0 h≠Q0 h':=λe=>by
 obtain⟨x,l,ex⟩:=g8 o.ne;obtain⟨y,l',ey⟩:=g8 o'.ne;unfold Q0 at e;rw[ex,ey]at e;have e:O8 x=O8 y:=e;have hx:x∈h.ns:=by rw[ex];exact ac
 have hy:y∈h'.ns:=by rw[ey];exact ac
 obtain⟨u,v,e1⟩:=o.nm x hx;obtain⟨u',v',e2⟩:=o'.nm y hy;have one:OneK x y:=by rw[e1,e2];exact .nm _ _
 have:=E3 one e;rw[<-this]at hy;exact ap x hx hy
def La(ts:List HP):List HP:=ts.mergeSort λa b=>!decide (Q0 b<Q0 a)
theorem Jn(ts):(La ts).Perm ts:=List.mergeSort_perm _ _
theorem Vl(ts):(La ts).Pairwise λa b=>¬Q0 b<Q0 a:=by
 have:=List.pairwise_mergeSort (le:=λa b:HP=>!decide (Q0 b<Q0 a)) (λa b c h1 h2=>by
   simp only[Bool.not_eq_true',decide_eq_false_iff_not]at*;exact dw.mpr (List.le_trans (dw.mp h1) (dw.mp h2))) (λa b=>by
   simp only[Bool.or_eq_true,Bool.not_eq_true',decide_eq_false_iff_not];rcases List.le_total (Q0 a) (Q0 b)with z|z
   .exact .inl (dw.mpr z)
   .exact .inr (dw.mpr z)) ts
 exact this.imp fun{a b} h=>by simpa using h
theorem joined(hs)(T:Tot hs):∃out,fG (· ∈hs) out/\(∀h∈out,fQ h)/\out.length<=hs.length/\Gen.Bk [.lst (hs.map Zz)]=aA (.ol (out.map Zz)):=by
 have h64:=T.all.len;have few:∀h∈hs,(Up h).length<=126:=λh hh=>by have n:=T.all.n64;have m:=T.all.m64;obtain⟨a,b,rfl⟩:=List.append_of_mem hh;simp only[List.flatMap_append,List.flatMap_cons,bg]at n m;rw[bg];omega
 have hz:I9 hs<=10000:=by
  have:∀l:List HP,(∀h∈l,(Up h).length<=126)->I9 l<=126*l.length:=λl=>by
   induction l with
   |nil=>intro _;simp[I9]
   |cons h l ih=>intro hl;have:=ih λg hg=>hl g (ah _ hg);have:=hl h ac;rw[Mt,aw];omega
  have:=this hs few;omega
 obtain⟨ks,pl,ho,hd⟩:=holders_of hs hz;obtain⟨δ',e,sk,ps,y4,y5,y6,j,hy⟩:=Gg (tg:=Zf 4) (body:=Gen.Jl) (P:=λi δ=>∃sk ps y4 y5 y6,JI hs i sk ps/\δ=De (hs.map Zz) (We ks pl) (ps.map Zz) sk y4 y5 y6) hs.length 0 (De (hs.map Zz) (We ks pl) [] [] aB aB aB) ⟨[],[],aB,aB,aB,⟨c6,(λ_ z=>nomatch z),(λ_ z=>nomatch z),(λp z=>eF z (f7 _)),(λ_ z=>nomatch z),(λ_ z=>nomatch z),.nil,bc _⟩,rfl⟩ (λi _ hi δ ⟨sk,ps,y4,y5,y6,j,hy⟩=>by
  subst hy;rw[Nat.zero_add]at hi;obtain⟨MG,ZO,z5,z6,j',t⟩:=Vk hs T ks pl _ ho i hi sk ps j y5 y6;exact⟨De (hs.map Zz) (We ks pl) (ps.map Zz) sk (aA (.fz (.int (i:Int)))) y5 y6,_,by simp,t,MG,ZO,_,z5,z6,j',rfl⟩)
 subst hy;rw[Nat.zero_add]at j;have ok:∀h∈ps,fQ h:=λh hh=>by obtain⟨a,ha,m⟩:=j.each h hh;exact lA T (j.lt a ha) m
 have PY:(ps.map Q0).Nodup:=fu.mpr ((List.Pairwise.and_mem.mp j.apart).imp fun{a b} ⟨ha,hb,ap⟩=>Df (ok a ha) (ok b hb) ap);have s:=qE ok PY (by have:=j.len;omega) (Jn ps) (Vl ps);have s:Em [.lst (ps.map Zz)]=aA (.ol ((La ps).map Zz)):=s;refine⟨La ps,⟨?_,λh hh=>?_,λa ha=>?_⟩,λh hh=>ok h ((Jn ps).mem_iff.mp hh),by rw[(Jn ps).length_eq];exact j.len,?_⟩
 .have nd2:((La ps).map Q0).Nodup:=(((Jn ps).map Q0).nodup_iff).mpr PY;refine((Vl ps).and (fu.mp nd2)).imp fun{a b} ⟨h1,h2⟩=>?_;by_cases z:Q0 a<Q0 b
  .exact z
  .exact eF (List.le_antisymm (dw.mp h1) (dw.mp z)) h2
 .obtain⟨p,hp,m⟩:=j.each h ((Jn ps).mem_iff.mp hh);have e:=Rh (j.lt p hp);exact⟨_,cf e,m.congr (Vj e)⟩
 .obtain⟨p,e⟩:=List.getElem?_of_mem ha;have hp:p<hs.length:=by rcases du p hs.length with z|z;exact z;rw[d7 z]at e;cases e
  obtain⟨h,hh,m⟩:=j.all p (j.upto p hp);exact⟨h,(Jn ps).mem_iff.mpr hh,m.congr (Vj e)⟩
 .have g1:Xq (hs.length:Int):=Am (by omega);have et:((hs.length:Int)).toNat=hs.length:=by omega
  have el:(hs.map Zz).length=hs.length:=aj _;have e:Yf (Zf 4) Gen.Jl (QR 0 hs.length) [aA (.fz (.lst (hs.map Zz))),aA (.fz (We ks pl)),aA (.ol []),aA (.oK [] []),aB,aB,aB]=_:=e;unfold Gen.Bk Gen.E6;unfold De We at e;unfold We at hd;generalize (La ps).map Zz=OS,ps.map Zz=PS,Jc sk=K1,Jd sk=K2,(pl.map W7).map D.lst=HX,hs.map Zz=HS,hs.length=N at*;simp[hd,e,s,g1,el,et,Mp,-Yf]
theorem s1:1<=PySem.sizeLine:=by decide
theorem s2:2<=PySem.sizeLine:=by decide
theorem s3:3<=PySem.sizeLine:=by decide
noncomputable abbrev Y7:Str:=dz "kind"
noncomputable abbrev Gb:Str:=dz "note"
noncomputable def W5(fs ts:List Str)(f:Str):Option Str:=(fs.zip ts).lookup f
theorem Gi:∀fs ts f,look fs (ts.map D.str) f=(W5 fs ts f).map D.str
 | [],ts,f=>by cases ts<;> rfl
 |_::_,[],f=>rfl
 |x::fs,t::ts,f=>by
  show(if x=f then aA (D.str t)else look fs (ts.map D.str) f)=_;rw[Gi fs ts f];unfold W5;rw[List.zip_cons_cons,List.lookup_cons];by_cases h:x=f
  .subst h;simp
  .have:(f==x)=aD:=beq_eq_false_iff_ne.mpr λz=>h z.symm;rw[fZ h,this]
noncomputable abbrev Vm(kind:Str)(fs ts:List Str):D:=.tup [.str kind,.dK (Zy fs) (ts.map D.str)]
theorem own_texts(kind fs ts)(hl:fs.length=ts.length)(hz:ts.length<=1000)(hk:Y7∉fs):Gen.Qx [Vm kind fs ts]=aA (.oK (Zy (fs++[Y7])) ((ts++[kind]).map D.str)):=by
 have hp:Y6 (Zy fs) (ts.map D.str) (dn Y7) (.str kind)=(Zy (fs++[Y7]),(ts++[kind]).map D.str):=by rw[Jv,Jw hk];simp
 have z:(ts.map D.str).length<PySem.sizeLine:=Yk (by simp;omega);have UR:∀a b:D,L2.atI [a,b] 1=aA b:=λ_ _=>rfl;have US:∀a b:D,L2.atI [a,b] 0=aA a:=λ_ _=>rfl;unfold Vm Gen.Qx Gen.C6;generalize ts.map D.str=TS,Zy fs=FS at*;simp[UR,US,hp,z,-Y6]
def Ub(fs ts:List Str):Nat->List (List Str)->List NK
 |_,[]=>[]
 |i,r::rs=>(match r.mapM (W5 fs ts)with|some l=>[(.inr ((i:Int),l):NK)]|none=>[])++Ub fs ts (i+1) rs
noncomputable abbrev Y9(r:List Str):D:=.lst (r.map D.str)
def BK(fs ts:List Str):D->D
 | .str f=>.bl (W5 fs ts f).isSome
 |_=>.non
def A_(fs ts:List Str):D->D
 | .str f=>.str ((W5 fs ts f).getD "")
 |_=>.non
theorem m_(fs ts j)(r:List Str)(hr:r.length<=100):
  Y1 [.own,.cap j,.acc] 2 (Zf 0) U6 Gen.Ut (r.map D.str) [aB,aA (.fz (.dK (Zy fs) (ts.map D.str))),aA (.ol [])]=aA [aB,aA (.fz (.dK (Zy fs) (ts.map D.str))),aA (.ol (r.map λf=>.bl (W5 fs ts f).isSome))]:=by
 have c:=Cy (te:=Gen.Ut) (f:=BK fs ts) (c:=aA (.fz (.dK (Zy fs) (ts.map D.str)))) (j:=j) (r.map D.str) [] (λx hx zs=>by
  obtain⟨f,hf,rfl⟩:=av.mp hx;have l:=(Cz f fs (ts.map D.str)).trans (Gi fs ts f);unfold Gen.Ut BK;generalize ts.map D.str=TS,Zy fs=FS at*;simp[l,-look]) (by rw[aj];simp;omega)
 rw[c,gq,cp];rfl
theorem m9(fs ts j)(r:List Str)(hr:r.length<=100)(hh:∀f∈r,(W5 fs ts f).isSome):
  Y1 [.own,.cap j,.acc] 2 (Zf 0) U6 Gen.Uu (r.map D.str) [aB,aA (.fz (.dK (Zy fs) (ts.map D.str))),aA (.ol [])]=aA [aB,aA (.fz (.dK (Zy fs) (ts.map D.str))),aA (.ol (r.map λf=>.str ((W5 fs ts f).getD "")))]:=by
 have c:=Cy (te:=Gen.Uu) (f:=A_ fs ts) (c:=aA (.fz (.dK (Zy fs) (ts.map D.str)))) (j:=j) (r.map D.str) [] (λx hx zs=>by
  obtain⟨f,hf,rfl⟩:=av.mp hx;have l:=(Cz f fs (ts.map D.str)).trans (Gi fs ts f);obtain⟨v,hv⟩:=Option.isSome_iff_exists.mp (hh f hf);rw[hv]at l;have g:A_ fs ts (.str f)= .str v:=by show D.str ((W5 fs ts f).getD "")=_;rw[hv];rfl
  rw[g];unfold Gen.Uu;generalize ts.map D.str=TS,Zy fs=FS at*;simp[l,-look]) (by rw[aj];simp;omega)
 rw[c,gq,cp];rfl
theorem Vn(fs ts):∀r:List Str,r.mapM (W5 fs ts)=if(∀f∈r,(W5 fs ts f).isSome)then aA (r.map λf=>(W5 fs ts f).getD "")else aB
 | []=>by simp
 |f::r=>by
  rw[List.mapM_cons,Vn fs ts r];cases h:W5 fs ts f with
  |none=>simp[h]
  |some v=>
   by_cases h2:∀f∈r,(W5 fs ts f).isSome
   .rw[f_ h2,f_ λg hg=>(bj.mp hg).elim (λz=>by rw[z,h];rfl) λz=>h2 g z];simp[h]
   .rw[fZ h2,fZ λz=>h2 λg hg=>z g (ah _ hg)];rfl
theorem Lb:∀(r:List Str) p,bools? (r.map λf=>D.bl (p f))=aA (r.map p)
 | [],p=>rfl
 |f::r,p=>by have:=Lb r p;rw[ax,ax];simp[this]
theorem Dg(fs ts R)(M:List NK)(n:Nat)(r)(hr:r.length<=100)(hM:M.length<=100):
  Gen.Jb [aA (.fz (.dK (Zy fs) (ts.map D.str))),R,aA (.ol (M.map Zw)),aA (.fz (.int (n:Int))),aA (.fz (Y9 r))]=
  aA (.nx [aA (.fz (.dK (Zy fs) (ts.map D.str))),R,aA (.ol ((M++(match r.mapM (W5 fs ts)with|some l=>[(.inr ((n:Int),l):NK)]|none=>[])).map Zw)),aA (.fz (.int (n:Int))),aA (.fz (Y9 r))]):=by
 have h1:=m_ fs ts 0 r hr;have b:=Lb r λf=>(W5 fs ts f).isSome;have z1:M.length<PySem.sizeLine:=Yk (by omega);unfold Gen.Jb;rw[Vn];by_cases h:∀f∈r,(W5 fs ts f).isSome
 .have h2:=m9 fs ts 0 r hr h;rw[f_ h];have al:(r.map λf=>(W5 fs ts f).isSome).all id=aC:=by rw[List.all_map];exact List.all_eq_true.mpr λf hf=>h f hf
  generalize ts.map D.str=TS,Zy fs=FS at*;simp[h1,h2,b,al,z1,s2,-Y1];unfold Zw;simp
 .rw[fZ h];have al:(r.map λf=>(W5 fs ts f).isSome).all id=aD:=by rw[List.all_map,Bool.eq_false_iff];exact λz=>h λf hf=>List.all_eq_true.mp z f hf
  generalize ts.map D.str=TS,Zy fs=FS at*;simp[h1,b,al,z1,-Y1]
theorem Ic(fs ts R):∀rs n M x3 x4,(∀r∈rs,r.length<=100)->M.length+rs.length<=100->∃y3 y4,
  Yf (Ys 2 (Zm (Zf 3) (Zm (Zf 4) Yw))) Gen.Jb (((rs.map Y9).zipIdx n).map λp=>D.tup [.int (p.2:Nat),p.1]) [aA (.fz (.dK (Zy fs) (ts.map D.str))),R,aA (.ol (M.map Zw)),x3,x4]=
  aA (.nx [aA (.fz (.dK (Zy fs) (ts.map D.str))),R,aA (.ol ((M++Ub fs ts n rs).map Zw)),y3,y4])
 | [],n,M,x3,x4,_,_=>⟨x3,x4,by simp[Ub]⟩
 |r::rs,n,M,x3,x4,hr,hM=>by
  rw[aw]at hM;have t:=Dg fs ts R M n r (hr r ac) (by omega);obtain⟨y3,y4,ih⟩:=Ic fs ts R rs (n+1) (M++(match r.mapM (W5 fs ts)with|some l=>[(.inr ((n:Int),l):NK)]|none=>[])) (aA (.fz (.int (n:Int)))) (aA (.fz (Y9 r))) (λq hq=>hr q (ah _ hq)) (by
   rw[bg];cases r.mapM (W5 fs ts)<;> simp<;> omega)
  refine⟨y3,y4,?_⟩;rw[ax,List.zipIdx_cons,ax,Ub];rw[ib]at ih;have e:∀δ,(Ys 2 (Zm (Zf 3) (Zm (Zf 4) Yw))).run (.tup [.int (n:Nat),Y9 r]) [aA (.fz (.dK (Zy fs) (ts.map D.str))),R,aA (.ol (M.map Zw)),x3,x4]=aA δ->δ=[aA (.fz (.dK (Zy fs) (ts.map D.str))),R,aA (.ol (M.map Zw)),aA (.fz (.int (n:Int))),aA (.fz (Y9 r))]:=λδ h=>by simpa using h.symm
  unfold Yf;generalize ts.map D.str=TS,Zy fs=FS at*;rw[show(Ys 2 (Zm (Zf 3) (Zm (Zf 4) Yw))).run (.tup [.int (n:Nat),Y9 r]) [aA (.fz (.dK FS TS)),R,aA (.ol (M.map Zw)),x3,x4]=aA [aA (.fz (.dK FS TS)),R,aA (.ol (M.map Zw)),aA (.fz (.int (n:Int))),aA (.fz (Y9 r))]from by simp];dsimp only[bu];rw[t];exact ih
theorem marks_of(fs ts rs)(hr:∀r∈rs,r.length<=100)(hn:rs.length<=100):Gen.Of [.dK (Zy fs) (ts.map D.str),.lst (rs.map Y9)]=aA (.ol ((Ub fs ts 0 rs).map Zw)):=by obtain⟨y3,y4,e⟩:=Ic fs ts (aA (.fz (.lst (rs.map Y9)))) rs 0 [] aB aB hr (by simpa using hn);rw[gq]at e;have e2:W2 (rs.map Y9)=(((rs.map Y9).zipIdx 0).map λp=>D.tup [.int (p.2:Nat),p.1]):=rfl;unfold Gen.Of Gen.Rf;rw[<-e2]at e;generalize ts.map D.str=TS,Zy fs=FS,rs.map Y9=RS,(Ub fs ts 0 rs).map Zw=MS at*;have e:Yf (Ys 2 (Zm (Zf 3) (Zm (Zf 4) Yw))) Gen.Jb (W2 RS) [aA (.fz (.dK FS TS)),aA (.fz (.lst RS)),aA (.ol []),aB,aB]=_:=e;simp[e,-Yf]
structure Wk where
 key:Str
 kind:Str
 fs:List Str
 ts:List Str
structure fR(w:Wk):Prop where
 len:w.fs.length=w.ts.length
 nd:w.fs.Nodup
 few:w.fs.length<=10
 nk:Y7∉w.fs
abbrev Wk.at'(w:Wk):List Str:=w.fs++[Y7]
noncomputable abbrev Wk.vt(w:Wk):List Str:=w.ts++[w.kind]
abbrev Wk.val(w:Wk)(f:Str):Str:=(W5 w.at' w.vt f).getD ""
noncomputable abbrev Wk.d(w:Wk):D:=Vm w.kind w.fs w.ts
noncomputable abbrev Mb(b k:Str):NK:=.inl [b,k]
def Wk.tri(b:Str)(w:Wk):List Qt:=(w.at'.filter λf=>decide (f≠Gb)).map λf=>(f,w.val f,[Mb b w.key])
abbrev Wk.marks(rs:List (List Str))(w:Wk):List NK:=Ub w.at' w.vt 0 rs
def Uc(b:Str)(rs:List (List Str))(w:Wk):HP:=⟨[Mb b w.key],w.marks rs,w.tri b⟩
theorem Ie:∀fs ts f,fs.length=ts.length->(f∈fs↔(W5 fs ts f).isSome=aC)
 | [],[],f,_=>by simp[W5]
 | [],_::_,f,h=>by simp at h
 |_::_,[],f,h=>by simp at h
 |x::fs,t::ts,f,h=>by
  have ih:=Ie fs ts f (by simpa using h);unfold W5 at*;rw[List.zip_cons_cons,List.lookup_cons,bj,ih];by_cases e:f=x
  .subst e;simp
  .have:(f==x)=aD:=beq_eq_false_iff_ne.mpr e;rw[this];simp[e]
theorem Mv(fs ts nm)(hl:fs.length=ts.length):∀(xs:List Str) zs,(∀x∈xs,x∈fs)->zs.length+xs.length<=1000->
  Y1 [.own,.cap 3,.cap 0,.acc] 3 (Zf 0) Gen.Ql Gen.Jr (xs.map D.str) [aB,aA (.fz (.dK (Zy fs) (ts.map D.str))),aA (.fz nm),aA (.ol zs)]=
  aA [aB,aA (.fz (.dK (Zy fs) (ts.map D.str))),aA (.fz nm),aA (.ol (zs++(xs.filter λf=>decide (f≠Gb)).map λf=>D.tup [.str f,.str ((W5 fs ts f).getD ""),.lst [nm]]))]
 | [],zs,_,_=>by simp
 |x::xs,zs,h,hz=>by
  rw[aw]at hz;obtain⟨v,hv⟩:=Option.isSome_iff_exists.mp ((Ie fs ts x hl).mp (h x ac));have l:=(Cz x fs (ts.map D.str)).trans (Gi fs ts x);rw[hv]at l;have z1:zs.length<PySem.sizeLine:=Yk (by omega);rw[ax,List.filter_cons];unfold Y1;by_cases hx:x=Gb
  .have ih:=Mv fs ts nm hl xs zs (λy hy=>h y (ah _ hy)) (by omega);rw[fZ (by simp[hx])];generalize ts.map D.str=TS,Zy fs=FS at*;rw[show Gen.Ql=Yg (Zk neX (Za 0) (Zd (.str "note")))from rfl]at*;simp[hx,-Y1,-look];simpa[-Y1,-look]using ih
  .have ih:=Mv fs ts nm hl xs (zs++[D.tup [.str x,.str ((W5 fs ts x).getD ""),.lst [nm]]]) (λy hy=>h y (ah _ hy)) (by rw[bg];simp;omega);rw[f_ (by simp[hx]),ax];rw[ib]at ih;generalize ts.map D.str=TS,Zy fs=FS at*;have e0:∀q,Gen.Ql [aA (SV.fz (D.str x)),aA (.fz (.dK FS TS)),aA (.fz nm),aA (.ol q)]=aA (aC,[aA (SV.fz (D.str x)),aA (.fz (.dK FS TS)),aA (.fz nm),aA (.ol q)]):=λq=>by unfold Gen.Ql;simp[hx]
   have e1:∀q,Gen.Jr [aA (SV.fz (D.str x)),aA (.fz (.dK FS TS)),aA (.fz nm),aA (.ol q)]=aA (.tmp (.fz (D.tup [.str x,.str v,.lst [nm]])),[aA (SV.fz (D.str x)),aA (.fz (.dK FS TS)),aA (.fz nm),aA (.ol q)]):=λq=>by unfold Gen.Jr;simp[l,s1,s3,-look]
   rw[hv]at ih⊢;simp[e0,e1,z1,-Y1,-look];simpa[-Y1,-look]using ih
theorem Mw(xs):(Zy xs).map Bi=xs.map D.str:=by rw[cp];rfl
theorem lone_heap(b rs w)(ok:fR w)(hr:∀r∈rs,r.length<=100)(hn:rs.length<=100):
  Gen.Qy [Zw (Mb b w.key),w.d,.lst (rs.map Y9)]=aA (.fz (Zz (Uc b rs w))):=by
 have o:Gen.Qx [w.d]=aA (.oK (Zy w.at') (w.vt.map D.str)):=own_texts w.kind w.fs w.ts ok.len (by have:=ok.len;have:=ok.few;omega) ok.nk;have hl:w.at'.length=w.vt.length:=by simp[ok.len]
 have m:=marks_of w.at' w.vt rs hr hn;have c:=Mv w.at' w.vt (Zw (Mb b w.key)) hl w.at' [] (λx hx=>hx) (by have:=ok.few;simp;omega);have ek:=Mw w.at';have el:(Uc b rs w).fs.map Yu=(w.at'.filter λf=>decide (f≠Gb)).map λf=>D.tup [.str f,.str (w.val f),.lst [Zw (Mb b w.key)]]:=by show(w.tri b).map Yu=_;unfold Wk.tri;rw[cp];rfl
 have en:(Uc b rs w).ns.map Zw=[Zw (Mb b w.key)]:=rfl;have em:(Uc b rs w).ms=w.marks rs:=rfl;unfold Gen.Qy Gen.C7 Zz;rw[el,en,em];rw[gq]at c;have ev:∀f,w.val f=(W5 w.at' w.vt f).getD "":=λ_=>rfl;generalize Zw (Mb b w.key)=NM at*;generalize hM:(w.marks rs).map Zw=MS at*;generalize w.d=W at*;generalize w.at'=AT at*;generalize w.vt=VT at*;generalize VT.map D.str=TS at*;generalize Zy AT=FS at*;simp[o,m,c,ek,s1,s3,hM,ev,-Y1,-look]
noncomputable abbrev Y8(ws:List Wk):D:=.dK (Zy (ws.map Wk.key)) (ws.map Wk.d)
theorem Dh{ws:List Wk}(nd:(ws.map Wk.key).Nodup)(h:w∈ws):look (Zy (ws.map Wk.key)) (ws.map Wk.d) (dn w.key)=aA w.d:=by rw[Cz];obtain⟨i,hi,rfl⟩:=fj h;exact Ew nd (by simp) i _ _ (by simp[hi]) (by simp[hi])
theorem Lc(b rs ws)(nd:(ws.map Wk.key).Nodup)(ok:∀w∈ws,fR w)(hr:∀r∈rs,r.length<=100)(hn:rs.length<=100):∀(xs:List Wk) zs,(∀x∈xs,x∈ws)->zs.length+xs.length<=1000->
  Y1 [.own,.cap 2,.cap 0,.cap 1,.acc] 4 (Zf 0) U6 Gen.Ou ((xs.map Wk.key).map D.str) [aB,aA (.fz (.lst (rs.map Y9))),aA (.fz (.str b)),aA (.fz (Y8 ws)),aA (.ol zs)]=
  aA [aB,aA (.fz (.lst (rs.map Y9))),aA (.fz (.str b)),aA (.fz (Y8 ws)),aA (.ol (zs++(xs.map (Uc b rs)).map Zz))]
 | [],zs,_,_=>by simp
 |x::xs,zs,h,hz=>by
  rw[aw]at hz;have ih:=Lc b rs ws nd ok hr hn xs (zs++[Zz (Uc b rs x)]) (λy hy=>h y (ah _ hy)) (by rw[bg];simp;omega);have hx:=h x ac;have l:=Dh nd hx;have lo:Gen.Qy [.tup [.str b,.str x.key],x.d,.lst (rs.map Y9)]=aA (.fz (Zz (Uc b rs x))):=lone_heap b rs x (ok x hx) hr hn;have z1:zs.length<PySem.sizeLine:=Yk (by omega);rw[ib]at ih;rw[ax,ax,ax,ax];have e1:∀q,Gen.Ou [aA (.fz (.str x.key)),aA (.fz (.lst (rs.map Y9))),aA (.fz (.str b)),aA (.fz (Y8 ws)),aA (.ol q)]=aA (.tmp (.fz (Zz (Uc b rs x))),[aA (.fz (.str x.key)),aA (.fz (.lst (rs.map Y9))),aA (.fz (.str b)),aA (.fz (Y8 ws)),aA (.ol q)]):=λq=>by unfold Gen.Ou;unfold Y8;unfold Zz at lo⊢;generalize [D.lst ((Uc b rs x).ns.map Zw),.lst ((Uc b rs x).ms.map Zw),.lst ((Uc b rs x).fs.map Yu)]=HH,x.d=XD,ws.map Wk.d=WD,Zy (ws.map Wk.key)=WK,rs.map Y9=RD at*;simp[l,lo,s2,-look]
  unfold Y8 at e1 ih⊢;generalize Zz (Uc b rs x)=HH,ws.map Wk.d=WD,Zy (ws.map Wk.key)=WK,rs.map Y9=RD at*;unfold Y1;simp[e1,z1,-Y1];simpa[-Y1]using ih
theorem tO(ok:fR w):w.at'.Nodup:=dh.mpr ⟨ok.nd,by simp,λa ha c hc e=>ok.nk (by rw[<-ar.mp hc,<-e];exact ha)⟩
theorem Ig:∀fs ts rs n,∀m∈Ub fs ts n rs,∃(j:Nat) (l:List Str),m= .inr ((j:Int),l)/\n<=j/\∃r,rs[j- n]? =aA r/\r.mapM (W5 fs ts)=aA l
 |fs,ts,[],n,m,h=>nomatch h
 |fs,ts,r::rs,n,m,h=>by
  rw[Ub]at h;rcases bz.mp h with z|z
  .cases e:r.mapM (W5 fs ts)with
   |none=>rw[e]at z;cases z
   |some l=>rw[e]at z;exact⟨n,l,ar.mp z,bc _,r,by simp,e⟩
  .obtain⟨j,l,e,hj,r',h1,h2⟩:=Ig fs ts rs (n+1) m z;refine⟨j,l,e,by omega,r',?_,h2⟩;rw[show j- n=(j- (n+1))+1 by omega];exact h1
theorem Gj:∀fs ts rs n,(Ub fs ts n rs).length<=rs.length
 |fs,ts,[],n=>bc _
 |fs,ts,r::rs,n=>by rw[Ub,bg,aw];have:=Gj fs ts rs (n+1);cases r.mapM (W5 fs ts)<;> simp<;> omega
structure Shw(rs:List (List Str))(ws:List Wk):Prop where
 nd:(ws.map Wk.key).Nodup
 ok:∀w∈ws,fR w
 few:ws.length<=40
 m64:ws.length*rs.length<64
 rl:∀r∈rs,r.length<=100
 rn:rs.length<=60
theorem jD(b w)(ok:fR w):((w.tri b).map Y2).Nodup:=by unfold Wk.tri;rw[cp];refine fu.mpr (((tO ok).filter _).imp fun{x y} h e=>h ?_);have e:=Sum.inl.inj e;exact(List.cons.inj e).1
theorem yr(t):∀fs,(fs.map Y2).Nodup->(∀x∈fs,x.2.2.length=1)->Fb t fs<=1
 | [],_,_=>by simp[Fb]
 |x::fs,nd,h=>by
  obtain⟨n1,n2⟩:=dy.mp nd;have ih:=yr t fs n2 λy hy=>h y (ah _ hy);rw[Bp];by_cases e:Y2 x=t
  .have z:Fb t fs=0:=by
    have:∀l:List Qt,t∉l.map Y2->Fb t l=0:=λl=>by
     induction l with
     |nil=>intro _;simp[Fb]
     |cons y l ih=>intro hn;rw[Bp,fZ λz=>hn (by rw[<-z];simp),ih λz=>hn (ah _ z)]
    exact this fs (by rw[<-e];exact n1)
   rw[f_ e,z,h x ac];decide
  .rw[fZ e];omega
theorem W6{α:Type}(w B):∀l:List α,(∀x∈l,w x<=B)->(l.map w).sum<=l.length*B
 | [],_=>by simp
 |x::l,h=>by have:=W6 w B l λy hy=>h y (ah _ hy);have:=h x ac;rw[ax,List.sum_cons,aw,Nat.add_mul];omega
theorem m8(b rs ws)(s:Shw rs ws)(hp:∃ps:List NK,ps.length<64/\∀w∈ws,∀x∈w.tri b,Y2 x∈ps):Tot (ws.map (Uc b rs)):=by
 have few:=s.few;have K_:∀w:Wk,∀x∈w.tri b,x.2.2=[Mb b w.key]:=λw x hx=>by obtain⟨f,_,rfl⟩:=av.mp hx;rfl
 have ml:∀w:Wk,(w.marks rs).length<=rs.length:=λw=>Gj w.at' w.vt rs 0;have fl:∀w∈ws,(w.tri b).length<=11:=λw hw=>by
  unfold Wk.tri;rw[aj];have:=List.length_filter_le (λf=>decide (f≠Gb)) w.at';have h2:w.at'.length=w.fs.length+1:=by simp
  have:=(s.ok w hw).few;omega
 refine⟨⟨λh hh=>?_,λh hh k hk=>?_,λh hh k hk=>?_,λh hh x hx k hk=>?_,?_,?_,λt=>?_,by rw[aj];omega,?_,?_⟩,λh hh=>?_⟩
 .obtain⟨w,hw,rfl⟩:=av.mp hh;have:=ml w;have:=s.rn;exact⟨by show[Mb b w.key].length<=_;simp,by show(w.marks rs).length<=_;omega,λx hx=>by rw[K_ w x hx];simp⟩
 .obtain⟨w,hw,rfl⟩:=av.mp hh;exact⟨b,[w.key],ar.mp hk⟩
 .obtain⟨w,hw,rfl⟩:=av.mp hh;obtain⟨j,l,e,_⟩:=Ig _ _ _ _ k (show k∈w.marks rs from hk);exact⟨j,l,e⟩
 .obtain⟨w,hw,rfl⟩:=av.mp hh;rw[K_ w x hx]at hk;exact⟨b,[w.key],ar.mp hk⟩
 .rw[List.length_flatMap,cp];have:=W6 ((λh:HP=>h.ns.length)∘Uc b rs) 1 ws λw _=>bc _;exact gw this (by omega)
 .rw[List.length_flatMap,cp];exact gw (W6 ((λh:HP=>h.ms.length)∘Uc b rs) rs.length ws λw _=>ml w) s.m64
 .unfold tlG;rw[cp];have:=W6 ((λh:HP=>Fb t h.fs)∘Uc b rs) 1 ws λw hw=>yr t (w.tri b) (jD b w (s.ok w hw)) λx hx=>by rw[K_ w x hx];rfl
  exact gw this (by omega)
 .unfold Tp;rw[cp];have:=W6 ((λh:HP=>h.fs.length)∘Uc b rs) 11 ws λw hw=>fl w hw;exact dv this (by omega)
 .obtain⟨ps,h1,h2⟩:=hp;refine⟨ps,h1,λt ZE=>?_⟩;obtain⟨h,hh,x,hx,e⟩:=ZE;obtain⟨w,hw,rfl⟩:=av.mp hh;rw[e];exact h2 w hw x hx
 .obtain⟨w,hw,rfl⟩:=av.mp hh;exact λz=>nomatch z
theorem pool_of(b rs ws)(s:Shw rs ws)(hp:∃ps:List NK,ps.length<64/\∀w∈ws,∀x∈w.tri b,Y2 x∈ps):∃out,fG (· ∈ws.map (Uc b rs)) out/\(∀h∈out,fQ h)/\out.length<=ws.length/\Gen.Wx [.str b,Y8 ws,.lst (rs.map Y9)]=aA (.ol (out.map Zz)):=by have c:=Lc b rs ws s.nd s.ok s.rl (by have:=s.rn;omega) ws [] (λ_ h=>h) (by have:=s.few;simp;omega);rw[gq]at c;obtain⟨out,p,ok,len,j⟩:=joined (ws.map (Uc b rs)) (m8 b rs ws s hp);refine⟨out,p,ok,by rw[aj]at len;exact len,?_⟩;have ek:=Mw (ws.map Wk.key);unfold Gen.Wx Gen.Ms;unfold Y8 at c⊢;generalize out.map Zz=OUT,(ws.map (Uc b rs)).map Zz=LH,ws.map Wk.d=WD,Zy (ws.map Wk.key)=WK,rs.map Y9=RD,(ws.map Wk.key).map D.str=KS at*;simp[c,j,ek,-Y1]
structure Uni(U V W:List NK)(S:HP->Prop):Prop where
 ne:∀a,S a->a.ns≠[]
 ns:∀a,S a->∀k∈a.ns,k∈U/\To k
 ms:∀a,S a->∀k∈a.ms,k∈V/\isM k
 fs:∀a,S a->∀x∈a.fs,Y2 x∈W/\∀k∈x.2.2,k∈a.ns
theorem Uni.or{V:List NK}{S:HP->Prop}(s:Uni U V W S)(t:Uni U V W T):Uni U V W λa=>S a\/T a:=
 ⟨λa h=>h.elim (s.ne a) (t.ne a),λa h=>h.elim (s.ns a) (t.ns a),λa h=>h.elim (s.ms a) (t.ms a),λa h=>h.elim (s.fs a) (t.fs a)⟩
theorem Gk{V:List NK}{S}(u:Uni U V W S)(sa:S a)(m:g_ (fF S a) h):h.ns≠[]/\(∀k∈h.ns,k∈U/\To k)/\(∀k∈h.ms,k∈V/\isM k)/\∀x∈h.fs,Y2 x∈W/\∀k∈x.2.2,k∈h.ns:=by
 refine⟨λz=>?_,λk hk=>?_,λk hk=>?_,λx hx=>⟨?_,λk hk=>?_⟩⟩
 .obtain⟨k,l,ek⟩:=g8 (u.ne a sa);have:=(m.ns_m k).mpr ⟨a,.here sa,by rw[ek];exact ac⟩;rw[z]at this;cases this
 .obtain⟨b,c,hk⟩:=(m.ns_m k).mp hk;exact u.ns b c.right k hk
 .obtain⟨b,c,hk⟩:=(m.ms_m k).mp hk;exact u.ms b c.right k hk
 .obtain⟨b,c,l,hl⟩:=(m.fs_m x.1 x.2.1).mp ⟨x.2.2,hx⟩;exact(u.fs b c.right _ hl).1
 .obtain⟨b,c,l,hl,hk⟩:=((m.fs_l x hx).2 k).mp hk;exact(m.ns_m k).mpr ⟨b,c,(u.fs b c.right _ hl).2 k hk⟩
theorem Mc{V:List NK}{S}(u:Uni U V W S)(p:fG S P):Uni U V W (· ∈P):=
 ⟨λh hh=>let⟨_,sa,m⟩:=p.each h hh;(Gk u sa m).1,λh hh=>let⟨_,sa,m⟩:=p.each h hh;(Gk u sa m).2.1,λh hh=>let⟨_,sa,m⟩:=p.each h hh;(Gk u sa m).2.2.1,λh hh=>let⟨_,sa,m⟩:=p.each h hh;(Gk u sa m).2.2.2⟩
theorem Di{S}(p:fG S P):P.Pairwise λh h'=>∀t,t∈Up h->t∉Up h':=by
 refine(List.Pairwise.and_mem.mp p.sorted).imp fun{h h'} ⟨hh,YK,lt⟩ t t1 t2=>?_;obtain⟨a,sa,m⟩:=p.each h hh;obtain⟨a',iO,m'⟩:=p.each h' YK;obtain⟨b,c,tb⟩:=(m.tie t).mp t1;obtain⟨b',c',wK⟩:=(m'.tie t).mp t2;have cc:fF S a a':=(fF.step c c'.right ⟨t,tb,wK⟩).trans c'.symm;have:h=h':=m.uniq m' λx=>⟨λz=>cc.symm.trans z,λz=>cc.trans z⟩
 rw[this]at lt;exact gn _ lt
structure Small(u v w:Nat)(P:List HP):Prop where
 ns:(P.flatMap HP.ns).length<=u
 ms:(P.flatMap HP.ms).length<=v
 tl:∀t,tlG t P<=u
 cn:Tp P<=P.length*w
 ln:P.length<=u
 fw:∀h∈P,h.ns.length<=u/\h.ms.length<=v/\∀x∈h.fs,x.2.2.length<=u
theorem zx(t B):∀fs,(fs.map Y2).Nodup->(∀x∈fs,x.2.2.length<=B)->Fb t fs<=B
 | [],_,_=>by simp[Fb]
 |x::fs,nd,h=>by
  obtain⟨n1,n2⟩:=dy.mp nd;have ih:=zx t B fs n2 λy hy=>h y (ah _ hy);rw[Bp];by_cases e:Y2 x=t
  .have z:Fb t fs=0:=by
    have:∀l:List Qt,t∉l.map Y2->Fb t l=0:=λl=>by
     induction l with
     |nil=>intro _;simp[Fb]
     |cons y l ih=>intro hn;rw[Bp,fZ λz=>hn (by rw[<-z];simp),ih λz=>hn (ah _ z)]
    exact this fs (by rw[<-e];exact n1)
   rw[f_ e,z];exact h x ac
  .rw[fZ e];omega
theorem BJ:∀l:List HP,(l.map λ_=>1).sum=l.length
 | []=>rfl
 |h::l=>by rw[ax,List.sum_cons,BJ l,aw];omega
theorem Ri{V:List NK}{S}(u:Uni U V W S)(p:fG S P):Small U.length V.length W.length P:=by
 have q:=Mc u p;have ap:=Di p;have srt:∀h∈P,h.ns.Pairwise kLt/\h.ms.Pairwise kLt/\h.fs.Pairwise tLt/\∀x∈h.fs,x.2.2.Pairwise kLt:=λh hh=>by obtain⟨a,sa,m⟩:=p.each h hh;exact⟨m.ns_s,m.ms_s,m.fs_s,λx hx=>(m.fs_l x hx).1⟩
 have JU:(P.flatMap HP.ns).Nodup:=List.pairwise_flatMap.mpr ⟨λh hh=>Jk (srt h hh).1,ap.imp fun{h h'} z x hx y hy e=>z x (cg _ hx) (by rw[e];exact cg _ hy)⟩;have vA:(P.flatMap HP.ms).Nodup:=List.pairwise_flatMap.mpr ⟨λh hh=>Jk (srt h hh).2.1,ap.imp fun{h h'} z x hx y hy e=>z x (b7 _ hx) (by rw[e];exact b7 _ hy)⟩;have DO:∀h∈P,h.ns.length<=U.length:=λh hh=>dm (Jk (srt h hh).1) λk hk=>(q.ns h hh k hk).1;have PZ:∀h∈P,(h.fs.map Y2).Nodup:=λh hh=>fu.mpr ((srt h hh).2.2.1.imp fun{x y} lt e=>by
  have e:=Sum.inl.inj e;have e1:=(List.cons.inj e).1;have e2:=(List.cons.inj (List.cons.inj e).2).1;have:Wg x=Wg y:=by unfold Wg;rw[e1,e2]
  have lt:Wg x<Wg y:=lt;rw[this]at lt;exact gn _ lt)
 have DC:∀h∈P,∀x∈h.fs,x.2.2.length<=h.ns.length:=λh hh x hx=>dm (Jk ((srt h hh).2.2.2 x hx)) λk hk=>(q.fs h hh x hx).2 k hk;have n1:(P.flatMap HP.ns).length<=U.length:=dm JU λk hk=>by obtain⟨h,hh,hk⟩:=List.mem_flatMap.mp hk;exact(q.ns h hh k hk).1
 have XC:∀(w w':HP->Nat) (l:List HP),(∀h∈l,w h<=w' h)->(l.map w).sum<=(l.map w').sum:=λw w' l=>by
  induction l with
  |nil=>intro _;simp
  |cons h l ih=>intro z;have:=ih λg hg=>z g (ah _ hg);have:=z h ac;simp only[ax,List.sum_cons];omega
 refine⟨n1,dm vA λk hk=>?_,λt=>?_,?_,?_,λh hh=>⟨DO h hh,dm (Jk (srt h hh).2.1) λk hk=>(q.ms h hh k hk).1,λx hx=>dv (DC h hh x hx) (DO h hh)⟩⟩
 .obtain⟨h,hh,hk⟩:=List.mem_flatMap.mp hk;exact(q.ms h hh k hk).1
 .refine dv ?_ n1;rw[List.length_flatMap];exact XC _ _ P λh hh=>zx t _ h.fs (PZ h hh) (DC h hh)
 .exact W6 (λh:HP=>h.fs.length) W.length P λh hh=>by
   have:=dm (PZ h hh) (l₂:=W) λk hk=>by obtain⟨x,hx,rfl⟩:=av.mp hk;exact(q.fs h hh x hx).1
   rw[aj]at this;exact this
 .refine dv ?_ n1;rw[List.length_flatMap];have:=XC (λ_=>1) (λh=>h.ns.length) P λh hh=>by have:=q.ne h hh;exact List.length_pos_iff.mpr this
  have e1:=BJ P;exact dv (Nat.le_of_eq e1.symm) this
theorem m7(h:Nam w):w≠Y7:=λe=>(h.no 105 (by rw[e];decide+kernel)).1 rfl
theorem m6(h:Nam w):w≠Gb:=λe=>(h.no 110 (by rw[e];decide+kernel)).2.1 rfl
theorem yq:Gb≠Y7:=by decide+kernel
noncomputable abbrev PS:=List (Str×Str)
noncomputable abbrev Y0(ps:PS):List L2.Key:=Zy (ps.map (·.1))
noncomputable abbrev Yr(ps:PS):List D:=(ps.map (·.2)).map D.str
noncomputable abbrev nS(n:Nat):Str:=dz (toString ((n:Nat):Int))
noncomputable abbrev ITS:Str:=dz "It's "
def itT(n:Nat):Str:=ITS++nS n
theorem qc:∀n<10,(nS n).length<=2:=by decide+kernel
theorem nN:ITS.length=5:=by decide+kernel
noncomputable abbrev oSt(A0 A1 A2 A4 A5 A6:Option SV)(wd:Nat)(XJ:Int)(ps:PS)(x9 YF:Option SV):Yp:=[A0,A1,A2,aA (.fz (.int (wd:Int))),A4,A5,A6,aA (.fz (.int XJ)),aA (.oK (Y0 ps) (Yr ps)),x9,YF]
theorem m4(A0 A1 A2 A4 A5 A6 wd)(h2:2<=wd)(WG:wd<=10)(XJ)(ps:PS)(hp:ps.length<=10)(j:Nat)(hj:j<4)(f)(hf:f∉ps.map (·.1)):∃ZO,(ZO=ps\/∃n<10,ZO=ps++[(f,itT n)])/\
  Gen.Wj (oSt A0 A1 A2 A4 A5 A6 wd XJ ps (aA (.fz (.int (j:Int)))) (aA (.fz (.str f))))=aA (.nx (oSt A0 A1 A2 A4 A5 A6 wd XJ ZO (aA (.fz (.int (j:Int)))) (aA (.fz (.str f))))):=by
 have d1:0<16+(j:Int):=by omega
 have d2:16+(j:Int)<1073741824:=by omega
 have d3:0<5+2*(j:Int):=by omega
 have d4:5+2*(j:Int)<1073741824:=by omega
 have m:=X8 (i:=2) (j:=(j:Int)) (by omega);by_cases h:0<XJ / (16+(j:Int)) % 4
 .have y0:0<=XJ / (5+2*(j:Int)) % (wd:Int):=Int.emod_nonneg _ (by omega);have y1:XJ / (5+2*(j:Int)) % (wd:Int)<(wd:Int):=ij _ (by omega);obtain⟨n,hn⟩:∃n:Nat,(n:Int)=XJ / (5+2*(j:Int)) % (wd:Int):=⟨(XJ / (5+2*(j:Int)) % (wd:Int)).toNat,by omega⟩
  have DU:n<10:=by omega
  refine⟨ps++[(f,itT n)],.inr ⟨n,DU,rfl⟩,?_⟩;have nl:=qc n DU;have l1:ITS.length+(nS n).length<=PySem.sizeLine:=Jo (by rw[nN];omega);have pp:Y6 (Y0 ps) (Yr ps) (dn f) (.str (ITS++nS n))=(Y0 (ps++[(f,itT n)]),Yr (ps++[(f,itT n)])):=by unfold Y0 Yr itT;rw[Jv,Jw hf];simp
  have z:(Yr ps).length<PySem.sizeLine:=Yk (by simp;omega);have w0:(0:Int)<(wd:Int):=by omega
  have w1:0<wd:=by omega
  have w2:(wd:Int)<1073741824:=by omega
  have g1:((n:Nat):Int).natAbs.log2<1920:=by refine gw (Nat.log2_le_self _) ?_;omega
  have sd:X9 [.int (n:Int)]=aA (.fz (.str (nS n))):=by show(if((n:Nat):Int).natAbs.log2<1920 then _ else _)=_;rw[f_ g1]
  unfold Gen.Wj oSt;generalize Y0 (ps++[(f,itT n)])=KK,Yr (ps++[(f,itT n)])=VV,Y0 ps=KP,Yr ps=VP,nS n=NS,(j:Int)=J at*;simp[h,d1,d2,d3,d4,m,w0,w1,w2,<-hn,l1,sd,pp,z,-Y6,-X9]
 .refine⟨ps,.inl rfl,?_⟩;unfold Gen.Wj oSt;generalize (j:Int)=J at*;simp[h,d1,d2,-Y6,-X9]
structure Own(F:List Str)(ps:PS):Prop where
 nd:(ps.map (·.1)).Nodup
 all:∀p∈ps,p.1∈F++[Gb]/\∃n<10,p.2=itT n
theorem Vo(F)(hF:F.length=3)(A0 A1 A2 A4 A5 A6 wd)(h2:2<=wd)(WG:wd<=10)(XJ):∀xs j ps x9 YF,(ps.map (·.1)++xs).Nodup->Own F ps->j+xs.length<=4->ps.length<=j->(∀x∈xs,x∈F++[Gb])->∃ZO y9 XB,Own F ZO/\ZO.length<=4/\
  Yf (Ys 2 (Zm (Zf 9) (Zm (Zf 10) Yw))) Gen.Wj (((xs.map D.str).zipIdx j).map λp=>D.tup [.int (p.2:Nat),p.1]) (oSt A0 A1 A2 A4 A5 A6 wd XJ ps x9 YF)=aA (.nx (oSt A0 A1 A2 A4 A5 A6 wd XJ ZO y9 XB))
 | [],j,ps,x9,YF,_,ow,hj,hp,_=>⟨ps,x9,YF,ow,by simp at hj;omega,by simp⟩
 |f::xs,j,ps,x9,YF,nd,ow,hj,hp,hx=>by
  rw[aw]at hj;have hf:f∉ps.map (·.1):=λz=>(dh.mp nd).2.2 _ z f ac rfl;obtain⟨TC,o1,t⟩:=m4 A0 A1 A2 A4 A5 A6 wd h2 WG XJ ps (by omega) j (by omega) f hf;have o2:(TC.map (·.1)++xs).Nodup/\Own F TC/\TC.length<=j+1:=by
   rcases o1 with z|⟨n,hn,z⟩
   .subst z;exact⟨nd.sublist (List.Sublist.append (List.Sublist.refl _) (List.sublist_cons_self _ _)),ow,by omega⟩
   .subst z;have e:(ps++[(f,itT n)]).map (·.1)=ps.map (·.1)++[f]:=by simp
    have DT:(ps.map (·.1)++[f]++xs).Nodup:=by rw[ib];exact nd
    refine⟨by rw[e];exact DT,⟨by rw[e];exact(dh.mp DT).1,λp hp'=>?_⟩,by simp;omega⟩;rcases bz.mp hp' with z|z
    .exact ow.all p z
    .rw[ar.mp z];exact⟨hx f ac,n,hn,rfl⟩
  obtain⟨ZO,y9,XB,ww,l',ih⟩:=Vo F hF A0 A1 A2 A4 A5 A6 wd h2 WG XJ xs (j+1) TC (aA (.fz (.int (j:Int)))) (aA (.fz (.str f))) o2.1 o2.2.1 (by omega) o2.2.2 λx h=>hx x (ah _ h);refine⟨ZO,y9,XB,ww,l',?_⟩;rw[ax,List.zipIdx_cons,ax];unfold Yf;rw[show(Ys 2 (Zm (Zf 9) (Zm (Zf 10) Yw))).run (.tup [.int (j:Nat),.str f]) (oSt A0 A1 A2 A4 A5 A6 wd XJ ps x9 YF)=aA (oSt A0 A1 A2 A4 A5 A6 wd XJ ps (aA (.fz (.int (j:Int)))) (aA (.fz (.str f))))from by simp];dsimp only[bu];rw[t];exact ih
noncomputable abbrev IN:Str:=dz "in"
noncomputable abbrev SB:Str:=dz "Some book"
theorem qb(h:Nam w):w≠IN:=λe=>(h.no 105 (by rw[e];decide+kernel)).1 rfl
theorem L_:IN≠Y7:=by decide+kernel
theorem nM:Gb≠IN:=by decide+kernel
noncomputable abbrev wkP(key kd:Str)(ps:PS):Wk:=⟨key,kd,ps.map (·.1),ps.map (·.2)⟩
noncomputable abbrev Dj:Str:=dz "book"
noncomputable abbrev LL:Str:=dz "part"
structure WP(F T:List Str)(w:Wk):Prop where
 ok:fR w
 kd:w.kind=Dj\/w.kind=LL
 all:∃ps:PS,w.fs=ps.map (·.1)/\w.ts=ps.map (·.2)/\∀p∈ps,(p.1∈F++[Gb]/\∃n<10,p.2=itT n)\/(p.1=IN/\p.2∈T)
theorem oh(i):∃kd,(kd=Dj\/kd=LL)/\L2.atI [D.str Dj,D.str LL] (i % 2)=aA (.str kd):=by
 have:i % 2=0\/i % 2=1:=by omega
 rcases this with h|h<;> rw[h]
 .exact⟨_,.inl rfl,rfl⟩
 .exact⟨_,.inr rfl,rfl⟩
theorem Mx{xs:List Str}(h:n<xs.length):L2.atI (xs.map D.str) (n:Int)=aA (.str xs[n]):=Ev _ _ _ (by rw[ay,au h];rfl)
noncomputable abbrev dP(ws:List Wk):List L2.Key×List D:=(Zy (ws.map Wk.key),ws.map Wk.d)
noncomputable abbrev Ih(ks F:List Str)(cs:List Int)(wd:Nat)(dss:List (List L2.Key×List D))(x5 x6 x7 x8 x9 YF:Option SV):Yp:=[aA (.fz (.lst (ks.map D.str))),aA (.fz (.lst (F.map D.str))),aA (.fz (.lst (cs.map D.int))),aA (.fz (.int (wd:Int))),aA (.oD dss),x5,x6,x7,x8,x9,YF]
theorem Ii(ks F)(vi:ks.length=6)(hF:F.length=3)(nF:F.Nodup)(hN:∀f∈F,Nam f)(cs wd)(h2:2<=wd)(WG:wd<=10)(dss i ws)(k:Nat)(iZ:k<=12)(c)(hi:L2.ixN dss.length ((k:Int) % 2)=aA i)(hd:dss[i]? =aA (dP ws))(key)(hk:L2.atI (ks.map D.str) ((k:Int) / 2)=aA (.str key))(VN:key∉ws.map Wk.key)(hw:ws.length<=100)(x7 x8 x9 YF):∃w y7 y8 y9 XB,w.key=key/\WP F (ks++[SB]) w/\
  Gen.Wl (Ih ks F cs wd dss (aA (.fz (.int (k:Int)))) (aA (.fz (.int c))) x7 x8 x9 YF)=aA (.nx (Ih ks F cs wd (dss.set i (dP (ws++[w]))) (aA (.fz (.int (k:Int)))) (aA (.fz (.int c))) y7 y8 y9 XB)):=by
 have en:=Vg (c+(k:Int)*(k:Int)) 48271;have mk:=X8 (i:=(k:Int)) (j:=(k:Int)) (by omega);generalize (c+(k:Int)*(k:Int)) % 2147483647*48271 % 2147483647=x at en;have JU:(F++[Gb]).Nodup:=dh.mpr ⟨nF,by simp,λa ha b hb e=>m6 (hN a ha) (by rw[e];exact ar.mp hb)⟩;obtain⟨ps,y9,XB,ow,pl,lo⟩:=Vo F hF (aA (.fz (.lst (ks.map D.str)))) (aA (.fz (.lst (F.map D.str)))) (aA (.fz (.lst (cs.map D.int)))) (aA (.oD dss)) (aA (.fz (.int (k:Int)))) (aA (.fz (.int c))) wd h2 WG x (F++[Gb]) 0 [] x9 YF (by simpa using JU) ⟨by simp,λ_ z=>nomatch z⟩ (by simp;omega) (by simp) (λ_ h=>h);rw[show((((F++[Gb]).map D.str).zipIdx 0).map λp=>D.tup [.int (p.2:Nat),p.1])=W2 ((F++[Gb]).map D.str)from rfl,cu]at lo;have lo:Yf (Ys 2 (Zm (Zf 9) (Zm (Zf 10) Yw))) Gen.Wj (W2 (F.map D.str++[D.str Gb])) _=_:=lo;have zF:(F.map D.str).length+1<=PySem.sizeLine:=Jo (by rw[aj];omega);have zK:(ks.map D.str).length+1<=PySem.sizeLine:=Jo (by rw[aj];omega);obtain⟨kd,CU,ak⟩:=oh (x / 3);have zw:(ws.map Wk.d).length<PySem.sizeLine:=Yk (by rw[aj];omega);have fin:∀YE:PS,Y6 (Zy (ws.map Wk.key)) (ws.map Wk.d) (dn key) (.tup [.str kd,.dK (Y0 YE) (Yr YE)])=(Zy ((ws++[wkP key kd YE]).map Wk.key),(ws++[wkP key kd YE]).map Wk.d):=λYE=>by rw[Jv,Jw VN];simp[Wk.d,Vm]
 have TH:IN∉ps.map (·.1):=λz=>by
  obtain⟨p,hp,e⟩:=av.mp z;have:=(ow.all p hp).1;rw[e]at this;rcases bz.mp this with z|z
  .exact qb (hN _ z) rfl
  .exact nM (ar.mp z).symm
 have VH:∀qs:PS,(∀p∈qs,p∈ps\/p.1=IN)->Y7∉qs.map (·.1):=λqs hq z=>by
  obtain⟨p,hp,e⟩:=av.mp z;rcases hq p hp with h|h
  .have:=(ow.all p h).1;rw[e]at this;rcases bz.mp this with z|z
   .exact m7 (hN _ z) rfl
   .exact yq (ar.mp z).symm
  .rw[e]at h;exact L_ h.symm
 have QJ:∃YE:PS,WP F (ks++[SB]) (wkP key kd YE)/\(L4 (Yg (Zk gtD (Zk Oi (Zk Ue (Za 7) (Zd (.int 8))) (Zd (.int 4))) (Zd (.int 0)))) (Cs 8 (Zd (.str "in")) (Zk Qn (Zk O0 (Za 0) (Bw (Zg (Zd (.str "Some book")) (Zr)))) (Zk Oi (Zk Ue (Za 7) (Zd (.int 32))) (Zd (.int 7))))) (Jf)) (Ih ks F cs wd dss (aA (.fz (.int (k:Int)))) (aA (.fz (.int c))) (aA (.fz (.int x))) (aA (.oK (Y0 ps) (Yr ps))) y9 XB)=aA (.nx (Ih ks F cs wd dss (aA (.fz (.int (k:Int)))) (aA (.fz (.int c))) (aA (.fz (.int x))) (aA (.oK (Y0 YE) (Yr YE))) y9 XB)):=by
  by_cases hx:0<x / 8 % 4
  .have y0:0<=x / 32 % 7:=Int.emod_nonneg _ (by decide);have y1:x / 32 % 7<7:=ij _ (by decide);obtain⟨n,hn⟩:∃n:Nat,(n:Int)=x / 32 % 7:=⟨(x / 32 % 7).toNat,by omega⟩
   have tl:(ks++[SB]).length=7:=by simp[vi]
   have GR:L2.atI (ks.map D.str++[D.str SB]) (x / 32 % 7)=aA (.str ((ks++[SB])[n]'(by omega))):=by rw[<-hn,show ks.map D.str++[D.str SB]=(ks++[SB]).map D.str by simp];exact Mx (by omega)
   have tm:(ks++[SB])[n]'(by omega)∈ks++[SB]:=List.getElem_mem _;generalize (ks++[SB])[n]'(by omega)=t at GR tm;have pp:Y6 (Y0 ps) (Yr ps) (dn IN) (.str t)=(Y0 (ps++[(IN,t)]),Yr (ps++[(IN,t)])):=by unfold Y0 Yr;rw[Jv,Jw TH];simp
   have zp:(Yr ps).length<PySem.sizeLine:=Yk (by simp;omega);have em:(ps++[(IN,t)]).map (·.1)=ps.map (·.1)++[IN]:=by simp
   refine⟨ps++[(IN,t)],⟨⟨by simp,?_,by simp;omega,VH _ λp hp=>?_⟩,CU,ps++[(IN,t)],rfl,rfl,λp hp=>?_⟩,?_⟩
   .show((ps++[(IN,t)]).map (·.1)).Nodup;rw[em];exact dh.mpr ⟨ow.nd,by simp,λa ha c hc e=>TH (by rw[<-ar.mp hc,<-e];exact ha)⟩
   .rcases bz.mp hp with h|h
    .exact .inl h
    .rw[ar.mp h];exact .inr rfl
   .rcases bz.mp hp with h|h
    .exact .inl (ow.all p h)
    .rw[ar.mp h];exact .inr ⟨rfl,tm⟩
   .unfold Ih;generalize Y0 (ps++[(IN,t)])=K2 at pp⊢;generalize Yr (ps++[(IN,t)])=V2 at pp⊢;generalize Y0 ps=K1 at pp⊢;generalize Yr ps=V1 at pp zp⊢;generalize ks.map D.str=KD at GR zK⊢;simp[hx,GR,pp,zp,zK,s1,-Y6]
  .refine⟨ps,⟨⟨by simp,ow.nd,by simp;omega,VH _ λp hp=>.inl hp⟩,CU,ps,rfl,rfl,λp hp=>.inl (ow.all p hp)⟩,?_⟩;unfold Ih;generalize Y0 ps=K1,Yr ps=V1;simp[hx,-Y6]
 obtain⟨YE,wp,uV⟩:=QJ;refine⟨wkP key kd YE,aA (.fz (.int x)),aA (.fz (.dK (Y0 YE) (Yr YE))),y9,XB,rfl,wp,?_⟩;unfold Gen.Wl;refine Og (δ1:=Ih ks F cs wd dss (aA (.fz (.int (k:Int)))) (aA (.fz (.int c))) (aA (.fz (.int x))) x8 x9 YF) ?_ (Og (δ1:=Ih ks F cs wd dss (aA (.fz (.int (k:Int)))) (aA (.fz (.int c))) (aA (.fz (.int x))) (aA (.oK [] [])) x9 YF) rfl (Og (δ1:=Ih ks F cs wd dss (aA (.fz (.int (k:Int)))) (aA (.fz (.int c))) (aA (.fz (.int x))) (aA (.oK (Y0 ps) (Yr ps))) y9 XB) ?_ (Og uV ?_)))
 .unfold Ih;generalize (k:Int)=KI at en mk⊢;simp[en,mk]
 .unfold Ih;unfold oSt at lo;rw[show Y0 ([]:PS)=[]from rfl,show Yr ([]:PS)=[]from rfl]at lo;exact Cf
 .rw[show dP (ws++[wkP key kd YE])=Y6 (dP ws).1 (dP ws).2 (dn key) (.tup [.str kd,.dK (Y0 YE) (Yr YE)])from(fin YE).symm];have go:∀L:Yp,L=Ih ks F cs wd dss (aA (.fz (.int (k:Int)))) (aA (.fz (.int c))) (aA (.fz (.int x))) (aA (.fz (.dK (Y0 YE) (Yr YE)))) y9 XB->_:=λL hL=>lh (δ1:=L) (δ2:=L) (δ3:=L) (δ4:=L) (rv:=.tmp (.fz (.tup [.str kd,.dK (Y0 YE) (Yr YE)]))) (ri:=.tmp (.fz (.int ((k:Int) % 2)))) (rk:=.tmp (.fz (.str key))) (i:=4) (dss:=dss) (dss0:=dss) (fv:=(tupF (Zg (Zk Qn (Bw (Nm ["book","part"] (Zr))) (Zk Oi (Zk Ue (Za 7) (Zd (.int 3))) (Zd (.int 2)))) (Zg (Za 8) (Zr))))) (fi:=(Zk Oi (Za 5) (Zd (.int 2)))) (fk:=(Zk Qn (Za 0) (Zk Ue (Za 5) (Zd (.int 2))))) (δ:=Ih ks F cs wd dss (aA (.fz (.int (k:Int)))) (aA (.fz (.int c))) (aA (.fz (.int x))) (aA (.oK (Y0 YE) (Yr YE))) y9 XB) (by
   subst hL;unfold Ih;generalize Y0 YE=K1,Yr YE=V1;simp[ak,s2]) rfl (by subst hL;rfl) (by
   subst hL;unfold Ih;generalize (k:Int)=KI;simp) rfl hi (by
   subst hL;unfold Ih;generalize (k:Int)=KI at hk⊢;generalize ks.map D.str=KD at hk⊢;simp[hk]) rfl rfl (by subst hL;rfl) hd zw
  exact go _ rfl
theorem Ij{ks:List Str}(nd:ks.Nodup)(h:n<ks.length):ks[n]∉ks.take n:=λz=>by have e:ks=ks.take n++ks.drop n:=(List.take_append_drop n ks).symm;rw[e]at nd;refine(dh.mp nd).2.2 _ z ks[n] ?_ rfl;rw[ie h];exact ac
structure Sh(F ks:List Str)(n:Nat)(ws:List Wk):Prop where
 key:ws.map Wk.key=ks.take n
 ok:∀w∈ws,WP F (ks++[SB]) w
theorem Sh.add(s:Sh F ks n ws)(h:n<ks.length)(e:w.key=ks[n])(p:WP F (ks++[SB]) w):Sh F ks (n+1) (ws++[w]):=
 ⟨by rw[cu,s.key,List.take_succ,au h,<-e];rfl,λv hv=>by
  rcases bz.mp hv with z|z
  .exact s.ok v z
  .rw[ar.mp z];exact p⟩
theorem Ik(ks F)(hk:ks.length=6)(nk:ks.Nodup)(hF:F.length=3)(nF:F.Nodup)(hN:∀f∈F,Nam f)(CS wd)(h2:2<=wd)(WG:wd<=10):∀(cs:List Int) k A B x5 x6 x7 x8 x9 YF,k+cs.length<=12->Sh F ks ((k+1) / 2) A->Sh F ks (k / 2) B->∃(A' B':List Wk) (y5 y6 y7 y8 y9 XB:Option SV),Sh F ks ((k+cs.length+1) / 2) A'/\Sh F ks ((k+cs.length) / 2) B'/\
  Yf (Ys 2 (Zm (Zf 5) (Zm (Zf 6) Yw))) Gen.Wl (((cs.map D.int).zipIdx k).map λp=>D.tup [.int (p.2:Nat),p.1]) (Ih ks F CS wd [dP A,dP B] x5 x6 x7 x8 x9 YF)=aA (.nx (Ih ks F CS wd [dP A',dP B'] y5 y6 y7 y8 y9 XB))
 | [],k,A,B,x5,x6,x7,x8,x9,YF,_,sA,sB=>⟨A,B,x5,x6,x7,x8,x9,YF,sA,sB,by simp⟩
 |c::cs,k,A,B,x5,x6,x7,x8,x9,YF,hl,sA,sB=>by
  rw[aw]at hl;have hn:k / 2<ks.length:=by omega
  have ak:L2.atI (ks.map D.str) ((k:Int) / 2)=aA (.str ks[k / 2]):=by rw[show(k:Int) / 2=((k / 2:Nat):Int) by omega];exact Ev _ _ _ (by rw[ay,au hn];rfl)
  have UZ:∀{n:Nat} {ws:List Wk},Sh F ks n ws->ws.length<=100:=fun{n ws} s=>by have:=congrArg List.length s.key;rw[aj,List.length_take]at this;omega
  have run:∀w,(Ys 2 (Zm (Zf 5) (Zm (Zf 6) Yw))).run (.tup [.int (k:Nat),.int c]) (Ih ks F CS wd w x5 x6 x7 x8 x9 YF)=aA (Ih ks F CS wd w (aA (.fz (.int (k:Int)))) (aA (.fz (.int c))) x7 x8 x9 YF):=λw=>by simp
  have main:∃A1 B1 z7 z8 z9 SE,Sh F ks ((k+1+1) / 2) A1/\Sh F ks ((k+1) / 2) B1/\Gen.Wl (Ih ks F CS wd [dP A,dP B] (aA (.fz (.int (k:Int)))) (aA (.fz (.int c))) x7 x8 x9 YF)=aA (.nx (Ih ks F CS wd [dP A1,dP B1] (aA (.fz (.int (k:Int)))) (aA (.fz (.int c))) z7 z8 z9 SE)):=by
   have MD:k % 2=0\/k % 2=1:=by omega
   rcases MD with r|r
   .rw[show(k+1) / 2=k / 2 by omega]at sA;obtain⟨w,z7,z8,z9,SE,ek,wp,t⟩:=Ii ks F hk hF nF hN CS wd h2 WG [dP A,dP B] 0 A k (by omega) c (by rw[show(k:Int) % 2=0 by omega];rfl) rfl ks[k / 2] ak (by rw[sA.key];exact Ij nk hn) (UZ sA) x7 x8 x9 YF;exact⟨A++[w],B,z7,z8,z9,SE,by rw[show(k+1+1) / 2=k / 2+1 by omega];exact sA.add hn ek wp,by rw[show(k+1) / 2=k / 2 by omega];exact sB,t⟩
   .obtain⟨w,z7,z8,z9,SE,ek,wp,t⟩:=Ii ks F hk hF nF hN CS wd h2 WG [dP A,dP B] 1 B k (by omega) c (by rw[show(k:Int) % 2=1 by omega];rfl) rfl ks[k / 2] ak (by rw[sB.key];exact Ij nk hn) (UZ sB) x7 x8 x9 YF;exact⟨A,B++[w],z7,z8,z9,SE,by rw[show(k+1+1) / 2=(k+1) / 2 by omega];exact sA,by rw[show(k+1) / 2=k / 2+1 by omega];exact sB.add hn ek wp,t⟩
  obtain⟨A1,B1,z7,z8,z9,SE,SO,wa,t⟩:=main;obtain⟨A',B',y5,y6,y7,y8,y9,XB,u1,u2,ih⟩:=Ik ks F hk nk hF nF hN CS wd h2 WG cs (k+1) A1 B1 (aA (.fz (.int (k:Int)))) (aA (.fz (.int c))) z7 z8 z9 SE (by omega) SO wa;refine⟨A',B',y5,y6,y7,y8,y9,XB,by rw[aw,show k+(cs.length+1)+1=k+1+cs.length+1 by omega];exact u1,by rw[aw,show k+(cs.length+1)=k+1+cs.length by omega];exact u2,?_⟩;rw[ax,List.zipIdx_cons,ax];unfold Yf;rw[run];dsimp only[bu];rw[t];exact ih
theorem Vp(ks F)(hk:ks.length=6)(nk:ks.Nodup)(hF:F.length=3)(nF:F.Nodup)(hN:∀f∈F,Nam f)(cs:List Int)(hc:cs.length<=12)(wd:Nat)(h2:2<=wd)(WG:wd<=10):∃A B,(∀ws∈[A,B],(∀w∈ws,WP F (ks++[SB]) w)/\(ws.map Wk.key).Nodup/\ws.length<=6)/\
  Gen.Qj [.lst (ks.map D.str),.lst (F.map D.str),.lst (cs.map D.int),.int (wd:Int)]=aA (.fz (.lst [Y8 A,Y8 B])):=by
 have nil:∀n:Nat,n=0->Sh F ks n []:=λn h=>⟨by rw[h];rfl,λ_ h=>nomatch h⟩
 obtain⟨A,B,y5,y6,y7,y8,y9,XB,sA,sB,l⟩:=Ik ks F hk nk hF nF hN cs wd h2 WG cs 0 [] [] aB aB aB aB aB aB (by omega) (nil _ (by omega)) (nil _ (by omega));have fin:∀{n:Nat} {ws:List Wk},Sh F ks n ws->(∀w∈ws,WP F (ks++[SB]) w)/\(ws.map Wk.key).Nodup/\ws.length<=6:=fun{n ws} s=>⟨s.ok,by rw[s.key];exact nk.sublist (List.take_sublist _ _),by
  have:=congrArg List.length s.key;rw[aj,List.length_take]at this;omega⟩
 refine⟨A,B,λws h=>?_,?_⟩
 .simp only[bj,List.not_mem_nil,or_false]at h;rcases h with rfl|rfl
  .exact fin sA
  .exact fin sB
 .rw[show(((cs.map D.int).zipIdx 0).map λp=>D.tup [.int (p.2:Nat),p.1])=W2 (cs.map D.int)from rfl]at l;unfold Ih dP at l;have l:Yf (Ys 2 (Zm (Zf 5) (Zm (Zf 6) Yw))) Gen.Wl (W2 (cs.map D.int)) [aA (.fz (.lst (ks.map D.str))),aA (.fz (.lst (F.map D.str))),aA (.fz (.lst (cs.map D.int))),aA (.fz (.int (wd:Int))),aA (.oD [([],[]),([],[])]),aB,aB,aB,aB,aB,aB]=_:=l;unfold Gen.Qj Gen.O9 Y8;generalize Zy (A.map Wk.key)=WA,A.map Wk.d=DA,Zy (B.map Wk.key)=WB,B.map Wk.d=DB,ks.map D.str=KD,F.map D.str=FD,cs.map D.int=CD at*;simp[l,-Yf]
noncomputable def bt(b t:Qt):Bool:=decide (b.2.2.length<t.2.2.length)|| (decide (t.2.2.length=b.2.2.length)&&decide (t.2.1.cps.toList<b.2.1.cps.toList))
noncomputable def nxt(o:Option Qt)(t:Qt):Option Qt:=match o with
 |none=>aA t
 |some b=>aA (if bt b t=aC then t else b)
noncomputable def fd(o:Option Qt)(l:List Qt):Option Qt:=l.foldl nxt o
noncomputable abbrev Vq(t:Qt):D:=.tup [.int (-(t.2.2.length:Int)),.str t.2.1]
theorem tM(t b):L2.Q5 16 (Vq t) (Vq b)=aA (bt b t):=by
 obtain⟨_,v,l⟩:=t;obtain⟨_,u,m⟩:=b;unfold bt;simp only[Vq];by_cases h1:l.length=m.length
 .rw[h1];by_cases h2:v=u
  .subst h2;have i:=gn v.cps.toList;simp
  .simp[h2]
 .have QO:¬(-(l.length:Int)=-(m.length:Int)):=by omega
  have h2:(-(l.length:Int)< -(m.length:Int))↔m.length<l.length:=by omega
  have h3:¬((l.length:Int)=(m.length:Int)):=by omega
  simp[h1,h3]
theorem Dk:∀r pre b tb,pre[b]? =aA tb->∃m z,L2.G6 (L2.Q5 16) b (Vq tb) (r.map Vq) pre.length=aA m/\fd (aA tb) r=aA z/\(pre++r)[m]? =aA z
 | [],pre,b,tb,h=>⟨b,tb,rfl,rfl,by rw[List.append_nil];exact h⟩
 |t::r,pre,b,tb,h=>by
  rw[ax];show∃m z,((L2.Q5 16 (Vq t) (Vq tb)).bind λc=>if c=aC then L2.G6 (L2.Q5 16) pre.length (Vq t) (r.map Vq) (pre.length+1)else L2.G6 (L2.Q5 16) b (Vq tb) (r.map Vq) (pre.length+1))=aA m/\fd (nxt (aA tb) t) r=aA z/\(pre++t::r)[m]? =aA z;rw[tM,bu,show pre++t::r=(pre++[t])++r by simp,show pre.length+1=(pre++[t]).length by simp];have hb:b<pre.length:=(az.mp h).1;rw[show nxt (aA tb) t=aA (if bt tb t=aC then t else tb)from rfl];cases hc:bt tb t with
  |true=>obtain⟨m,z,h1,h2,h3⟩:=Dk r (pre++[t]) pre.length t (by simp);exact⟨m,z,h1,(by rw[f_ rfl];exact h2),h3⟩
  |false=>obtain⟨m,z,h1,h2,h3⟩:=Dk r (pre++[t]) b tb (by rw[cw hb];exact h);exact⟨m,z,h1,(by rw[fZ (by decide)];exact h2),h3⟩
noncomputable def oTr:Option Qt->D
 |none=>.non
 |some t=>Yu t
theorem og(l):∃m,L2.QS (L2.Q5 16) (l.map Vq)=aA m/\((m.map λi=>(l.map Yu).getD i .non).getD .non)=oTr (fd aB l):=by
 cases l with
 |nil=>exact⟨aB,rfl,rfl⟩
 |cons t r=>
  obtain⟨m,z,h1,h2,h3⟩:=Dk r [t] 0 t rfl;refine⟨aA m,?_,?_⟩
  .rw[ax];show(L2.G6 (L2.Q5 16) 0 (Vq t) (r.map Vq) 1).bind _=_;rw[show(1:Nat)=[t].length from rfl,h1];rfl
  .have:fd aB (t::r)=aA z:=h2;rw[this];show((t::r).map Yu).getD m .non=Yu z;rw[bh,ay];have h3:(t::r)[m]? =aA z:=h3;rw[h3];rfl
abbrev LB:FE:=tupF (Zg (unF QT (Y4 Aq (Zc (Zk Qn (Za 0) (Zd (.int 2))) Zl))) (Zg (Zk Qn (Za 0) (Zd (.int 1))) (Zr)))
theorem Vr:∀l:List Qt,(∀t∈l,t.2.2.length<=36)->L2.Ta LB [] (l.map Yu)=aA (l.map Vq)
 | [],_=>rfl
 |t::l,h=>by
  have ih:=Vr l λx hx=>h x (ah _ hx);have k1:L2.QZ LB [] (Yu t)=aA (Vq t):=by have z2:2<=PySem.sizeLine:=Jo (by omega);simp[z2,L2.atI,L2.ixN]
  rw[ax,ax];show(L2.QZ LB [] (Yu t)).bind (λk=>(L2.Ta LB [] (l.map Yu)).bind λks=>aA (k::ks))=_;rw[k1,ih];rfl
noncomputable def FQ(f:Str):D->Option D
 | .tup [.str a,b,c]=>if a=f then aA (.tup [.str a,b,c])else aB
 |_=>aB
theorem yp(f):∀ts:List Qt,(ts.map Yu).filterMap (FQ f)=(ts.filter λt=>decide (t.1=f)).map Yu
 | []=>rfl
 |t::ts=>by
  have ih:=yp f ts;by_cases h:t.1=f
  .rw[ax,List.filterMap_cons_some (b:=Yu t) (by show(if t.1=f then _ else _)=_;rw[f_ h]),List.filter_cons_of_pos (by simpa using h),ax,ih]
  .rw[ax,List.filterMap_cons_none (by show(if t.1=f then _ else _)=_;rw[fZ h]),List.filter_cons_of_neg (by simpa using h),ih]
theorem Ld(nms mks)(ts:List Qt)(hl:ts.length<=100)(ht:∀t∈ts,t.2.2.length<=36)(f):Gen.Wo [.tup [.lst nms,.lst mks,.lst (ts.map Yu)],.str f]=aA (.fz (oTr (fd aB (ts.filter λt=>decide (t.1=f))))):=by
 have hc:=xA (src:=[.own,.cap 1,.acc]) (k:=2) (g:=Zf 0) (tt:=Gen.Qo) (te:=Gen.Qp) (st:=λys=>[aB,aA (.fz (.str f)),aA (.ol ys)]) (f:=FQ f) (ts.map Yu) [] (λd hd zs ds' hz=>by
  obtain⟨t,_,rfl⟩:=av.mp hd;unfold FQ
  conv=>lhs;rw[Y1]
  by_cases h:t.1=f
  .subst h;simp[-Y1,Gen.Qo,Gen.Qp,hz,L2.atI,L2.ixN]
  .simp[-Y1,Gen.Qo,Gen.Qp,h,hz,L2.atI,L2.ixN]) (by simp;omega)
 rw[yp,gq]at hc;have hk:=Vr (ts.filter λt=>decide (t.1=f)) λt h=>ht t ((List.mem_filter.mp h).1);obtain⟨m,hm,ho⟩:=og (ts.filter λt=>decide (t.1=f));generalize (ts.filter λt=>decide (t.1=f))=FL at*;unfold LB at hk;generalize FL.map Yu=FT,FL.map Vq=FK,ts.map Yu=TTT at*;unfold Gen.Wo Gen.Ba;generalize (tupF (Zg (unF QT (Y4 Aq (Zc (Zk Qn (Za 0) (Zd (.int 2))) Zl))) (Zg (Zk Qn (Za 0) (Zd (.int 1))) (Zr))))=LBB at*;have vg:L2.BZ LBB [] (.lst FT) [aA (.fz (.tup [.lst nms,.lst mks,.lst TTT])),aA (.fz (.str f)),aA (.fz (.lst FT))]=aA (.tmp (.fz (oTr (fd aB FL))),[aA (.fz (.tup [.lst nms,.lst mks,.lst TTT])),aA (.fz (.str f)),aA (.fz (.lst FT))]):=by simp[-L2.Ta,-L2.QS,-L2.Q5,-bh,hk,hm,ho]
 exact Cf
noncomputable def dV:Option Qt->D
 |none=>.non
 |some t=>.str t.2.1
theorem Vt(nms mks)(ts:List Qt)(hl:ts.length<=100)(ht:∀t∈ts,t.2.2.length<=36)(f):Gen.Uq [.tup [.lst nms,.lst mks,.lst (ts.map Yu)],.str f]=aA (.fz (dV (fd aB (ts.filter λt=>decide (t.1=f))))):=by
 have e:=Ld nms mks ts hl ht f;generalize (fd aB (ts.filter λt=>decide (t.1=f)))=o,D.tup [.lst nms,.lst mks,.lst (ts.map Yu)]=HD at*;cases o with
 |none=>unfold oTr at e;unfold dV Gen.Uq Gen.T0;exact Cf
 |some t=>unfold oTr at e;unfold dV Gen.Uq Gen.T0;exact Cf
theorem yo:∀l b,∃z,fd (aA b) l=aA z/\(z=b\/z∈l)/\∀t,(t=b\/t∈l)->t.2.2.length<=z.2.2.length
 | [],b=>⟨b,rfl,.inl rfl,λt h=>by rcases h with rfl|h;exact bc _;exact nomatch h⟩
 |t::l,b=>by
  obtain⟨z,e,hm,hx⟩:=yo l (if bt b t=aC then t else b);refine⟨z,e,?_,λu hu=>?_⟩
  .rcases hm with h|h
   .by_cases c:bt b t=aC
    .rw[f_ c]at h;rw[h];exact .inr ac
    .rw[fZ c]at h;exact .inl h
   .exact .inr (ah _ h)
  .have h0:=hx _ (.inl rfl);have MD:b.2.2.length<=(if bt b t=aC then t else b).2.2.length/\t.2.2.length<=(if bt b t=aC then t else b).2.2.length:=by
    unfold bt;by_cases c1:b.2.2.length<t.2.2.length
    .simp[c1];omega
    .by_cases c2:t.2.2.length=b.2.2.length
     .split<;> simp<;> omega
     .simp[c1,c2];omega
   rcases hu with rfl|hu
   .exact dv MD.1 h0
   .rcases bj.mp hu with rfl|hu
    .exact dv MD.2 h0
    .exact hx u (.inr hu)
structure FewT(h:HP):Prop where
 fs:h.fs.length<=100
 tl:∀t∈h.fs,t.2.2.length<=36
noncomputable def bst(h:HP)(f:Str):Option Qt:=fd aB (h.fs.filter λt=>decide (t.1=f))
theorem Mz(h f)(hx:∃t∈h.fs,t.1=f):∃z,bst h f=aA z/\z∈h.fs/\z.1=f:=by
 have mm:∀t,t∈h.fs.filter (λt=>decide (t.1=f))↔t∈h.fs/\t.1=f:=λt=>by rw[List.mem_filter];simp
 unfold bst;generalize h.fs.filter (λt=>decide (t.1=f))=l at mm;cases l with
 |nil=>obtain⟨t,h1,h2⟩:=hx;exact nomatch (mm t).mpr ⟨h1,h2⟩
 |cons b l=>
  obtain⟨z,e,hm,_⟩:=yo l b;have UN:z∈b::l:=by rcases hm with rfl|h;exact ac;exact ah _ h
  exact⟨z,e,(mm z).mp UN⟩
theorem zv(h f)(hx:¬∃t∈h.fs,t.1=f):bst h f=aB:=by unfold bst;rw[List.filter_eq_nil_iff.mpr λt ht z=>hx ⟨t,ht,by simpa using z⟩];rfl
noncomputable def bD:Option Qt->D
 |none=>.tup [.non,.lst []]
 |some t=>.tup [.str t.2.1,.lst (t.2.2.map Zw)]
noncomputable def oL:Option Qt->Nat
 |none=>0
 |some t=>t.2.2.length
noncomputable def nxL(f:Str)(o:Option Qt)(t:Qt):Option Qt:=if t.1=f/\oL o<t.2.2.length then aA t else o
theorem jC(A0 f o t):Gen.Qa [A0,aA (.fz (.str f)),aA (.fz (bD o)),aA (.fz (.str t.1)),aA (.fz (.str t.2.1)),aA (.fz (.lst (t.2.2.map Zw)))]=aA (.nx [A0,aA (.fz (.str f)),aA (.fz (bD (nxL f o t))),aA (.fz (.str t.1)),aA (.fz (.str t.2.1)),aA (.fz (.lst (t.2.2.map Zw)))]):=by
 obtain⟨v,l,e,hl⟩:∃(v:D) (l:List D),bD o= .tup [v,.lst l]/\l.length=oL o:=by
  cases o with
  |none=>exact⟨_,_,rfl,rfl⟩
  |some t=>exact⟨_,_,rfl,by simp[oL]⟩
 have a1:∀a b:D,L2.atI [a,b] 1=aA b:=λ_ _=>rfl;have ml:(t.2.2.map Zw).length=t.2.2.length:=aj ..;unfold nxL;by_cases h1:t.1=f
 .by_cases h2:oL o<t.2.2.length
  .rw[f_ ⟨h1,h2⟩,e,show bD (aA t)= .tup [.str t.2.1,.lst (t.2.2.map Zw)]from rfl];rw[<-hl,<-ml]at h2;generalize t.2.2.map Zw=M at*;have h3:(l.length:Int)<(M.length:Int):=by omega
   unfold Gen.Qa;simp[h1,h2,h3,a1,s2]
  .rw[fZ (λz=>h2 z.2),e];rw[<-hl,<-ml]at h2;generalize t.2.2.map Zw=M at*;have h3:¬(l.length:Int)<(M.length:Int):=by omega
   unfold Gen.Qa;simp[h1,h2,h3,a1]
 .rw[fZ (λz=>h1 z.1),e];generalize t.2.2.map Zw=M at*;unfold Gen.Qa;simp[h1]
theorem Le(A0 f):∀(ts:List Qt) o x3 x4 x5,∃y3 y4 y5,
  Yf (Ys 3 (Zm (Zf 3) (Zm (Zf 4) (Zm (Zf 5) Yw)))) Gen.Qa (ts.map Yu) [A0,aA (.fz (.str f)),aA (.fz (bD o)),x3,x4,x5]=aA (.nx [A0,aA (.fz (.str f)),aA (.fz (bD (ts.foldl (nxL f) o))),y3,y4,y5])
 | [],o,x3,x4,x5=>⟨x3,x4,x5,rfl⟩
 |t::ts,o,x3,x4,x5=>by obtain⟨y3,y4,y5,ih⟩:=Le A0 f ts (nxL f o t) (aA (.fz (.str t.1))) (aA (.fz (.str t.2.1))) (aA (.fz (.lst (t.2.2.map Zw))));exact⟨y3,y4,y5,(Jp (by simp) (jC A0 f o t)).trans ih⟩
theorem rq(e:b.1=t.1)(lt:Wg b<Wg t):¬t.2.1.cps.toList<b.2.1.cps.toList:=by
 unfold Wg at lt;rw[Kw,Kw,e]at lt;rcases lt with z|⟨_,z|⟨_,z⟩⟩
 .exact eF z (gn _)
 .exact yv z
 .exact eF z (gn _)
theorem Pc(f):∀(ts:List Qt) o,ts.Pairwise tLt->(∀t∈ts,t.2.2≠[])->(∀b,o=aA b->b.1=f/\∀t∈ts,Wg b<Wg t)->ts.foldl (nxL f) o=fd o (ts.filter λt=>decide (t.1=f))
 | [],o,_,_,_=>rfl
 |t::ts,o,pw,ne,hb=>by
  obtain⟨p1,p2⟩:=List.pairwise_cons.mp pw;have DS:∀x∈ts,x.2.2≠[]:=λx hx=>ne x (ah _ hx);rw[List.foldl_cons];by_cases h:t.1=f
  .rw[List.filter_cons_of_pos (by simpa using h)];have key:nxL f o t=nxt o t/\∀b,nxt o t=aA b->b.1=f/\∀x∈ts,Wg b<Wg x:=by
    cases o with
    |none=>have:0<t.2.2.length:=List.length_pos_iff.mpr (ne t ac);refine⟨by unfold nxL nxt oL;simp[h,this],λb e=>?_⟩;cases e;exact⟨h,p1⟩
    |some b=>
     obtain⟨b1,b2⟩:=hb b rfl;have no:=rq (b1.trans h.symm) (b2 t ac);refine⟨by unfold nxL nxt oL bt;by_cases c:b.2.2.length<t.2.2.length<;> simp[h,c,no],λc e=>?_⟩;have e:aA (if bt b t=aC then t else b)=aA c:=e;split at e
     .cases e;exact⟨h,p1⟩
     .cases e;exact⟨b1,λx hx=>b2 x (ah _ hx)⟩
   rw[key.1];exact Pc f ts (nxt o t) p2 DS key.2
  .rw[List.filter_cons_of_neg (by simpa using h),show nxL f o t=o from fZ λz=>h z.1];exact Pc f ts o p2 DS λb e=>⟨(hb b e).1,λx hx=>(hb b e).2 x (ah _ hx)⟩
theorem mz(h)(pw:h.fs.Pairwise tLt)(ne:∀t∈h.fs,t.2.2≠[])(f):Gen.Wb [Zz h,.str f]=aA (.fz (bD (bst h f))):=by obtain⟨y3,y4,y5,l⟩:=Le (aA (.fz (Zz h))) f h.fs aB aB aB aB;rw[Pc f h.fs aB pw ne λb e=>nomatch e]at l;have l:Yf _ _ _ _=aA (.nx [_,_,aA (.fz (bD (bst h f))),_,_,_]):=l;have t2:∀a b c:D,L2.atI [a,b,c] 2=aA c:=λ_ _ _=>rfl;generalize bst h f=o at*;unfold Gen.Wb Gen.Rc;unfold Zz at l⊢;rw[show bD aB= .tup [.non,.lst []]from rfl]at l;exact Cf
theorem M0(A0):∀(xs U:List Str) x2,U.Nodup->U.length+xs.length<=900->∃U' y2,U'.Nodup/\(∀x,x∈U'↔x∈U\/x∈xs)/\U'.length<=U.length+xs.length/\
  Yf (Zf 2) Gen.Ww (xs.map D.str) [A0,aA (.oK (Zy U) (U.map λ_=>.bl aC)),x2]=aA (.nx [A0,aA (.oK (Zy U') (U'.map λ_=>.bl aC)),y2])
 | [],U,x2,nd,_=>⟨U,x2,nd,λx=>by simp,by simp,by simp⟩
 |x::xs,U,x2,nd,hl=>by
  rw[aw]at hl;have z:(U.map λ_=>D.bl aC).length<PySem.sizeLine:=Yk (by rw[aj];omega);by_cases h:x∈U
  .obtain⟨U',y2,n',m',l',ih⟩:=M0 A0 xs U (aA (.fz (.str x))) nd (by omega);have pp:Y6 (Zy U) (U.map λ_=>D.bl aC) (dn x) (.bl aC)=(Zy U,U.map λ_=>.bl aC):=by unfold Y6;rw[f_ (List.mem_map_of_mem h)];refine Prod.ext rfl ?_;show((Zy U).zip (U.map λ_=>D.bl aC)).map (λp=>if p.1=dn x then D.bl aC else p.2)=_;rw[show Zy U=U.map dn from rfl,List.zip_map',cp];refine List.map_congr_left λy _=>?_;show(if(dn y:L2.Key)=dn x then D.bl aC else D.bl aC)=_;split<;> rfl
   refine⟨U',y2,n',λy=>?_,by rw[aw];omega,?_⟩
   .rw[m',bj];exact⟨λz=>z.imp id .inr,λz=>by rcases z with z|z|z;exact .inl z;(· rw[z];exact .inl h);exact .inr z⟩
   .have hb:Gen.Ww [A0,aA (.oK (Zy U) (U.map λ_=>.bl aC)),aA (.fz (.str x))]=aA (.nx [A0,aA (.oK (Zy U) (U.map λ_=>.bl aC)),aA (.fz (.str x))]):=by unfold Gen.Ww;exact Cf
    exact(Jp (by simp) hb).trans ih
  .obtain⟨U',y2,n',m',l',ih⟩:=M0 A0 xs (U++[x]) (aA (.fz (.str x))) (dh.mpr ⟨nd,by simp,λa ha c hc e=>h (by rw[<-ar.mp hc,<-e];exact ha)⟩) (by simp;omega);have pp:Y6 (Zy U) (U.map λ_=>D.bl aC) (dn x) (.bl aC)=(Zy (U++[x]),(U++[x]).map λ_=>.bl aC):=by rw[Jv,Jw h];simp
   refine⟨U',y2,n',λy=>?_,by rw[aw];simp at l';omega,?_⟩
   .rw[m',bz,ar,bj];exact or_assoc
   .have hb:Gen.Ww [A0,aA (.oK (Zy U) (U.map λ_=>.bl aC)),aA (.fz (.str x))]=aA (.nx [A0,aA (.oK (Zy (U++[x])) ((U++[x]).map λ_=>.bl aC)),aA (.fz (.str x))]):=by unfold Gen.Ww;exact Cf
    exact(Jp (by simp) hb).trans ih
theorem each_once(xs:List Str)(hl:xs.length<=900):∃U:List Str,U.Nodup/\(∀x,x∈U↔x∈xs)/\U.length<=xs.length/\Gen.Jy [.lst (xs.map D.str)]=aA (.ol (U.map D.str)):=by obtain⟨U,y2,nd,mm,ll,e⟩:=M0 (aA (.fz (.lst (xs.map D.str)))) xs [] aB c6 (by simpa using hl);refine⟨U,nd,λx=>by rw[mm];simp,by simpa using ll,?_⟩;have ek:=Mw U;rw[show Zy ([]:List Str)=[]from rfl,List.map_nil]at e;unfold Gen.Jy Gen.C5;generalize xs.map D.str=XS,(U.map λ_=>D.bl aC)=UV,U.map D.str=UD,Zy U=UK at*;simp[e,ek,-Yf]
theorem ro(ha:To a)(hc:To c):W8 48 (Zw a) (Zw c)=aA (decide (a=c)):=by obtain⟨x,l,rfl⟩:=ha;obtain⟨y,l',rfl⟩:=hc;exact KC 45 (.nm _ _)
theorem LZ{ks:List NK}(hm:To m)(hk:∀k∈ks,To k)(c)(hc:c=aC↔m∈ks):inN (Zw m) (.lst (ks.map Zw))=aA (.fz (.bl c)):=by rw[qO λk h=>ro (hk k h) hm];congr 3;rw[Bool.eq_iff_iff,hc];simp
noncomputable abbrev Oh(P:List HP):D:=.lst (P.map Zz)
open Classical in
def hix(nm:NK):List HP->Nat->Option Nat
 | [],_=>aB
 |h::hs,i=>if nm∈h.ns then aA i else hix nm hs (i+1)
theorem zu(nm):∀hs i j,hix nm hs i=aA j->j<i+hs.length
 | [],i,j,h=>by cases h
 |h::hs,i,j,e=>by
  unfold hix at e;rw[aw];split at e
  .cases e;omega
  .have:=zu nm hs (i+1) j e;omega
theorem Lf(A0 nm)(hn:To nm):∀hs i x2 x3,(∀h∈hs,∀k∈h.ns,To k)->∃y2 y3,
  Yf (Ys 2 (Zm (Zf 2) (Zm (Zf 3) Yw))) Gen.Jz (((hs.map Zz).zipIdx i).map λp=>D.tup [.int (p.2:Nat),p.1]) [A0,aA (.fz (Zw nm)),x2,x3]=aA (match hix nm hs i with|some j=>.rt (.fz (.int (j:Int)))|none=>.nx [A0,aA (.fz (Zw nm)),y2,y3])
 | [],i,x2,x3,_=>⟨x2,x3,rfl⟩
 |h::hs,i,x2,x3,hh=>by
  have h0:=hh h ac;have a0:∀a b c:D,L2.atI [a,b,c] 0=aA a:=λ_ _ _=>rfl;have run:(Ys 2 (Zm (Zf 2) (Zm (Zf 3) Yw))).run (.tup [.int (i:Nat),Zz h]) [A0,aA (.fz (Zw nm)),x2,x3]=aA [A0,aA (.fz (Zw nm)),aA (.fz (.int (i:Int))),aA (.fz (Zz h))]:=by simp
  rw[ax,List.zipIdx_cons,ax];unfold hix;by_cases c:nm∈h.ns
  .refine⟨x2,x3,?_⟩;rw[f_ c];refine xB run ?_;have e:=LZ hn h0 aC ⟨λ_=>c,λ_=>rfl⟩;unfold Gen.Jz Zz;exact Cf
  .have e:=LZ hn h0 aD ⟨λz=>(nomatch z),λz=>eF z c⟩;have hb:Gen.Jz [A0,aA (.fz (Zw nm)),aA (.fz (.int (i:Int))),aA (.fz (Zz h))]=aA (.nx [A0,aA (.fz (Zw nm)),aA (.fz (.int (i:Int))),aA (.fz (Zz h))]):=by unfold Gen.Jz Zz;exact Cf
   obtain⟨y2,y3,ih⟩:=Lf A0 nm hn hs (i+1) (aA (.fz (.int (i:Int)))) (aA (.fz (Zz h))) λg hg=>hh g (ah _ hg);rw[fZ c];exact⟨y2,y3,(Jp run hb).trans ih⟩
noncomputable def oI:Option Nat->D
 |some j=>.int (j:Int)
 |none=>.non
theorem heap_of(P)(hP:∀h∈P,∀k∈h.ns,To k)(nm)(hn:To nm):Gen.Jm [Oh P,Zw nm]=aA (.fz (oI (hix nm P 0))):=by
 have e2:W2 (P.map Zz)=(((P.map Zz).zipIdx 0).map λp=>D.tup [.int (p.2:Nat),p.1]):=rfl;obtain⟨y2,y3,l⟩:=Lf (aA (.fz (Oh P))) nm hn P 0 aB aB hP;rw[<-e2]at l;generalize hix nm P 0=o at*;unfold Gen.Jm Gen.Mr;unfold Oh at*;generalize P.map Zz=PD,Zw nm=NM at*;cases o with
 |none=>simp[l,oI,-Yf]
 |some j=>simp[l,oI,-Yf]
noncomputable def LTL(i:Nat):List Nat:=if i<26 then[97+i]else[96+i / 26,97+i % 26]
def LTR(i:Nat):Str:=S (LTL i)
theorem tL:((cr 34).map λi:Nat=>Gen.Bl [.int (i:Int)])=(cr 34).map λi=>aA (.fz (.str (LTR i))):=by kernel_rfl
theorem tK:((cr 34).map λi:Nat=>Gen.Qb [.int (i:Int)])=(cr 34).map λi=>aA (.fz (.str (LTR i))):=by kernel_rfl
theorem Lg{i:Nat}(h:i<34):Gen.Bl [.int (i:Int)]=aA (.fz (.str (LTR i))):=List.map_inj_left.mp tL i (cq.mpr h)
theorem Il{i:Nat}(h:i<34):Gen.Qb [.int (i:Int)]=aA (.fz (.str (LTR i))):=List.map_inj_left.mp tK i (cq.mpr h)
theorem oe:∀i<34,∀j<34,LTL i=LTL j->i=j:=by decide+kernel
theorem yn(hi:i<34)(hj:j<34)(e:LTR i=LTR j):i=j:=oe i hi j hj (zB e)
structure PoolOk(P:List HP):Prop where
 few:∀h∈P,FewT h
 len:P.length<=34
 nm:∀h∈P,∀k∈h.ns,To k
 tl:∀h∈P,∀t∈h.fs,t.2.2≠[]/\∀k∈t.2.2,∃b x,k=Mb b x
 pw:∀h∈P,h.fs.Pairwise tLt
theorem PoolOk.best(ok:PoolOk P)(hh:h∈P)(f):Gen.Wb [Zz h,.str f]=aA (.fz (bD (bst h f))):=mz h (ok.pw h hh) (λt ht=>(ok.tl h hh t ht).1) f
noncomputable def oS:Option Str->D
 |some t=>.str t
 |none=>.non
noncomputable def bkN:Qt->NK
  | (_,v,.inl (b::_)::_)=>Mb b v
  |_=>Mb "" ""
def Gy(P:List HP)(h:HP):Option Str:=(bst h IN).bind λz=>(hix (bkN z) P 0).map LTR
theorem PoolOk.first(ok:PoolOk P)(hh:h∈P)(hz:z∈h.fs):∃bk x,bkN z=Mb bk z.2.1/\L2.atI (z.2.2.map Zw) 0=aA (.tup [.str bk,.str x]):=by obtain⟨f,v,l⟩:=z;obtain⟨ne,all⟩:=ok.tl h hh _ hz;obtain⟨k,l',ek⟩:=g8 ne;have ek:l=k::l':=ek;subst ek;obtain⟨bk,x,rfl⟩:=all k ac;exact⟨bk,x,rfl,Ev _ 0 _ rfl⟩
theorem told_in(P)(ok:PoolOk P)(h)(hh:h∈P)(hx:∃t∈h.fs,t.1=IN):Gen.Qw [Oh P,Zz h]=aA (.fz (oS (Gy P h))):=by
 obtain⟨z,e,hz,_⟩:=Mz h IN hx;have s:=ok.few h hh;have tr:=Ld (h.ns.map Zw) (h.ms.map Zw) h.fs s.fs s.tl IN;rw[show fd aB (h.fs.filter λt=>decide (t.1=IN))=aA z from e]at tr;obtain⟨bk,x,eb,a0⟩:=ok.first hh hz;have u0:∀a b:D,L2.atI [a,b] 0=aA a:=λ_ _=>rfl;have t1:∀a b c:D,L2.atI [a,b,c] 1=aA b:=λ_ _ _=>rfl;have t2:∀a b c:D,L2.atI [a,b,c] 2=aA c:=λ_ _ _=>rfl;have tr:Gen.Wo [Zz h,.str IN]=aA (.fz (.tup [.str z.1,.str z.2.1,.lst (z.2.2.map Zw)])):=tr;have ho:=heap_of P ok.nm (Mb bk z.2.1) ⟨bk,[z.2.1],rfl⟩;have lt:=zu (Mb bk z.2.1) P 0;unfold Gy;rw[e,bu,eb];cases YS:hix (Mb bk z.2.1) P 0 with
 |some j=>rw[YS]at ho;have lt:=Lg (i:=j) (by have:=lt j YS;have:=ok.len;omega);have ho:Gen.Jm [Oh P,.tup [.str bk,.str z.2.1]]=aA (.fz (.int (j:Int))):=ho;show _=aA (SV.fz (.str (LTR j)));unfold Gen.Qw Gen.Gh;exact Cf
 |none=>rw[YS]at ho;have ho:Gen.Jm [Oh P,.tup [.str bk,.str z.2.1]]=aA (.fz .non):=ho;show _=aA (SV.fz .non);unfold Gen.Qw Gen.Gh;exact Cf
theorem Lh(A0 A1 b v nl x)(a0:L2.atI nl 0=aA (.tup [.str b,.str x])):∀hs i x4 x5,i+hs.length<=34->(∀h∈hs,∀k∈h.ns,To k)->∃y4 y5,
  Yf (Ys 2 (Zm (Zf 4) (Zm (Zf 5) Yw))) Gen.Ja (((hs.map Zz).zipIdx i).map λp=>D.tup [.int (p.2:Nat),p.1]) [A0,A1,aA (.fz (.str v)),aA (.fz (.lst nl)),x4,x5]=aA (match hix (Mb b v) hs i with|some j=>.rt (.fz (.str (LTR j)))|none=>.nx [A0,A1,aA (.fz (.str v)),aA (.fz (.lst nl)),y4,y5])
 | [],i,x4,x5,_,_=>⟨x4,x5,rfl⟩
 |h::hs,i,x4,x5,hl,hh=>by
  rw[aw]at hl;have h0:=hh h ac;have hn:To (Mb b v):=⟨b,[v],rfl⟩
  have c0:∀a b c:D,L2.atI [a,b,c] 0=aA a:=λ_ _ _=>rfl;have u0:∀a b:D,L2.atI [a,b] 0=aA a:=λ_ _=>rfl;have run:(Ys 2 (Zm (Zf 4) (Zm (Zf 5) Yw))).run (.tup [.int (i:Nat),Zz h]) [A0,A1,aA (.fz (.str v)),aA (.fz (.lst nl)),x4,x5]=aA [A0,A1,aA (.fz (.str v)),aA (.fz (.lst nl)),aA (.fz (.int (i:Int))),aA (.fz (Zz h))]:=by simp
  rw[ax,List.zipIdx_cons,ax];unfold hix;by_cases c:Mb b v∈h.ns
  .refine⟨x4,x5,?_⟩;rw[f_ c];refine xB run ?_;have e:=LZ hn h0 aC ⟨λ_=>c,λ_=>rfl⟩;have e:inN (.tup [.str b,.str v]) _=_:=e;have lt:=Il (i:=i) (by omega);unfold Gen.Ja Zz;exact Cf
  .have e:=LZ hn h0 aD ⟨λz=>(nomatch z),λz=>eF z c⟩;have e:inN (.tup [.str b,.str v]) _=_:=e;have hb:Gen.Ja [A0,A1,aA (.fz (.str v)),aA (.fz (.lst nl)),aA (.fz (.int (i:Int))),aA (.fz (Zz h))]=aA (.nx [A0,A1,aA (.fz (.str v)),aA (.fz (.lst nl)),aA (.fz (.int (i:Int))),aA (.fz (Zz h))]):=by unfold Gen.Ja Zz;exact Cf
   obtain⟨y4,y5,ih⟩:=Lh A0 A1 b v nl x a0 hs (i+1) (aA (.fz (.int (i:Int)))) (aA (.fz (Zz h))) (by omega) λg hg=>hh g (ah _ hg);rw[fZ c];exact⟨y4,y5,(Jp run hb).trans ih⟩
theorem mw(P)(ok:PoolOk P)(h)(hh:h∈P):Gen.Qu [Oh P,Zz h]=aA (.fz (oS (Gy P h))):=by
 have bs:=ok.best hh IN;have e2:W2 (P.map Zz)=(((P.map Zz).zipIdx 0).map λp=>D.tup [.int (p.2:Nat),p.1]):=rfl;unfold Gy;by_cases hx:∃t∈h.fs,t.1=IN
 .obtain⟨z,e,hz,_⟩:=Mz h IN hx;rw[e,bu];rw[e]at bs;have bs:Gen.Wb [Zz h,.str IN]=aA (.fz (.tup [.str z.2.1,.lst (z.2.2.map Zw)])):=bs;obtain⟨bk,x,eb,a0⟩:=ok.first hh hz;rw[eb];obtain⟨y4,y5,l⟩:=Lh (aA (.fz (Oh P))) (aA (.fz (Zz h))) bk z.2.1 (z.2.2.map Zw) x a0 P 0 aB aB (by have:=ok.len;omega) ok.nm;rw[<-e2]at l;generalize hix (Mb bk z.2.1) P 0=o at*;unfold Gen.Qu Gen.B9;generalize Zz h=HD at*;unfold Oh at*;generalize P.map Zz=PD,z.2.2.map Zw=NL at*;cases o with
  |some j=>simp[bs,l,oS,-Yf]
  |none=>simp[bs,l,oS,-Yf]
 .rw[zv h IN hx]at bs⊢;have bs:Gen.Wb [Zz h,.str IN]=aA (.fz (.tup [.non,.lst []])):=bs;unfold Gen.Qu Gen.B9;generalize Zz h=HD,Oh P=PD at*;simp[bs,oS,-Yf]
def fv(P:List HP)(h:HP)(f:Str):Option Str:=if f=IN then Gy P h else(bst h f).map (·.2.1)
structure Flds(P:List HP)(h:HP)(U:Str->Prop)(ps:PS):Prop where
 nd:(ps.map (·.1)).Nodup
 mem:∀p,p∈ps↔U p.1/\p.1≠Y7/\fv P h p.1=aA p.2
theorem Flds.nil(P h):Flds P h (λ_=>False) []:=⟨c6,λp=>⟨λz=>(nomatch z),λz=>z.1.elim⟩⟩
theorem Flds.imp{V:Str->Prop}(s:Flds P h U ps)(e:∀f,f≠Y7->(fv P h f).isSome->(U f↔V f)):Flds P h V ps:=⟨s.nd,λp=>(s.mem p).trans ⟨λ⟨a,b,c⟩=>⟨(e _ b (by rw[c];rfl)).mp a,b,c⟩,λ⟨a,b,c⟩=>⟨(e _ b (by rw[c];rfl)).mpr a,b,c⟩⟩⟩
theorem Flds.add(s:Flds P h U ps)(hf:¬U f)(hk:f≠Y7)(e:fv P h f=aA t):f∉ps.map (·.1)/\Flds P h (λg=>U g\/g=f) (ps++[(f,t)]):=by
 have fr:f∉ps.map (·.1):=λz=>by obtain⟨p,hp,e⟩:=av.mp z;exact hf (by rw[<-e];exact((s.mem p).mp hp).1)
 refine⟨fr,?_,λp=>?_⟩
 .rw[cu];exact dh.mpr ⟨s.nd,by simp,λa ha c hc e=>fr (by rw[<-(show c=f by simpa using hc),<-e];exact ha)⟩
 .rw[bz,s.mem,ar];constructor
  .rintro(⟨a,b,c⟩|z)
   .exact⟨.inl a,b,c⟩
   .rw[z];exact⟨.inr rfl,hk,e⟩
  .rintro⟨a|a,b,c⟩
   .exact .inl ⟨a,b,c⟩
   .refine .inr (Prod.ext a ?_);rw[a,e]at c;exact(dg.inj c).symm
theorem LI(h:f∉ps.map (·.1))(t):Y6 (Y0 ps) (Yr ps) (dn f) (.str t)=(Y0 (ps++[(f,t)]),Yr (ps++[(f,t)])):=by unfold Y0 Yr;rw[Jv,Jw h];simp
theorem tJ(nd:(ps.map (·.1)).Nodup)(h:(f,t)∈ps):Y6 (Y0 ps) (Yr ps) (dn f) (.str t)=(Y0 ps,Yr ps):=by
 unfold Y6;rw[f_ (List.mem_map_of_mem (List.mem_map_of_mem (f:=(·.1)) h))];refine Prod.ext rfl ?_;show((Y0 ps).zip (Yr ps)).map (λp=>if p.1=dn f then D.str t else p.2)=_;rw[show Y0 ps=ps.map λp=>(dn p.1:L2.Key) by simp[Y0,Zy],show Yr ps=ps.map λp=>D.str p.2 by simp[Yr],List.zip_map',cp];refine List.map_congr_left λp hp=>?_;show(if(dn p.1:L2.Key)=dn f then D.str t else D.str p.2)=_;split
 .rename_i e;rw[Hw nd hp h (dn.inj e)]
 .rfl
theorem Vu(P)(ok:PoolOk P)(h)(hh:h∈P)(U ps)(s:Flds P h U ps)(hl:ps.length<=100)(f)(hf:¬U f)(hx:∃t∈h.fs,t.1=f)(x4):∃ZO y4,Flds P h (λg=>U g\/g=f) ZO/\ZO.length<=ps.length+1/\
  Gen.Wc [aA (.fz (Oh P)),aA (.fz (Zz h)),aA (.oK (Y0 ps) (Yr ps)),aA (.fz (.str f)),x4]=aA (.nx [aA (.fz (Oh P)),aA (.fz (Zz h)),aA (.oK (Y0 ZO) (Yr ZO)),aA (.fz (.str f)),y4]):=by
 have z:(Yr ps).length<PySem.sizeLine:=Yk (by simp;omega);have same:(f=Y7\/fv P h f=aB)->Flds P h (λg=>U g\/g=f) ps:=λhk=>s.imp λg h1 h2=>⟨.inl,λq=>q.resolve_right λe=>by
  rw[e]at h1 h2;rcases hk with w|w
  .exact h1 w
  .rw[w]at h2;cases h2⟩
 by_cases hi:f=IN
 .subst hi;have e:=told_in P ok h hh hx;have ne:¬IN=Y7:=L_;have ev:fv P h IN=Gy P h:=f_ rfl;cases ho:Gy P h with
  |none=>rw[ho]at e ev;have e:Gen.Qw [Oh P,Zz h]=aA (.fz .non):=e;refine⟨ps,aA (.fz .non),same (.inr ev),by omega,?_⟩;unfold Gen.Wc;exact Cf
  |some t=>rw[ho]at e ev;have e:Gen.Qw [Oh P,Zz h]=aA (.fz (.str t)):=e;obtain⟨fr,s'⟩:=s.add hf ne ev;refine⟨ps++[(IN,t)],aA (.fz (.str t)),s',by simp,?_⟩;have q:=LI fr t;unfold Gen.Wc;exact Cf
 .obtain⟨zt,b,_,_⟩:=Mz h f hx;have s0:=ok.few h hh;have e:=Vt (h.ns.map Zw) (h.ms.map Zw) h.fs s0.fs s0.tl f;rw[show fd aB (h.fs.filter λt=>decide (t.1=f))=aA zt from b]at e;have e:Gen.Uq [Zz h,.str f]=aA (.fz (.str zt.2.1)):=e;have ev:fv P h f=aA zt.2.1:=by unfold fv;rw[fZ hi,b];rfl
  by_cases hk:f=Y7
  .refine⟨ps,aA (.fz (.str zt.2.1)),same (.inl hk),by omega,?_⟩;subst hk;unfold Gen.Wc;exact Cf
  .obtain⟨fr,s'⟩:=s.add hf hk ev;refine⟨ps++[(f,zt.2.1)],aA (.fz (.str zt.2.1)),s',by simp,?_⟩;have q:=LI fr zt.2.1;unfold Gen.Wc;exact Cf
theorem Tf(P)(ok:PoolOk P)(h)(hh:h∈P):∀(xs:List Str) U ps x3 x4,xs.Nodup->(∀f∈xs,¬U f)->(∀f∈xs,∃t∈h.fs,t.1=f)->Flds P h U ps->ps.length+xs.length<=100->∃ZO y3 y4,Flds P h (λg=>U g\/g∈xs) ZO/\ZO.length<=ps.length+xs.length/\
  Yf (Zf 3) Gen.Wc (xs.map D.str) [aA (.fz (Oh P)),aA (.fz (Zz h)),aA (.oK (Y0 ps) (Yr ps)),x3,x4]=aA (.nx [aA (.fz (Oh P)),aA (.fz (Zz h)),aA (.oK (Y0 ZO) (Yr ZO)),y3,y4])
 | [],U,ps,x3,x4,_,_,_,s,_=>⟨ps,x3,x4,s.imp λf _ _=>by simp,by simp,rfl⟩
 |f::xs,U,ps,x3,x4,nd,hu,hx,s,hl=>by rw[aw]at hl;obtain⟨n1,n2⟩:=dy.mp nd;obtain⟨TC,z4,SO,l1,t⟩:=Vu P ok h hh U ps s (by omega) f (hu f ac) (hx f ac) x4;obtain⟨ZO,y3,y4,s',l',ih⟩:=Tf P ok h hh xs _ TC (aA (.fz (.str f))) z4 n2 (λg hg z=>z.elim (hu g (ah _ hg)) λe=>n1 (by rw[<-e];exact hg)) (λg hg=>hx g (ah _ hg)) SO (by omega);exact⟨ZO,y3,y4,s'.imp λg _ _=>by rw[bj];exact or_assoc,by rw[aw];omega,(Jp (by simp) t).trans ih⟩
theorem Vv:∀(ts:List Qt) zs,zs.length+ts.length<=900->
  Y1 [.own,.acc] 1 (Zf 0) U6 Gen.Qq (ts.map Yu) [aB,aA (.ol (zs.map D.str))]=aA [aB,aA (.ol ((zs++ts.map (·.1)).map D.str))]
 | [],zs,_=>by simp
 |t::ts,zs,hz=>by
  rw[aw]at hz;have ih:=Vv ts (zs++[t.1]) (by rw[bg,List.length_singleton];omega);rw[ib,cu]at ih;rw[show[t.1].map D.str=[D.str t.1]from rfl]at ih;have e5:(zs++([t.1]++ts.map (·.1))).map D.str=(zs++(t::ts).map (·.1)).map D.str:=rfl;rw[e5]at ih;have z1:zs.length<PySem.sizeLine:=Yk (by omega);have a0:∀a b c:D,L2.atI [a,b,c] 0=aA a:=λ_ _ _=>rfl;have e1:∀q,Gen.Qq [aA (.fz (Yu t)),aA (.ol q)]=aA (.tmp (.fz (.str t.1)),[aA (.fz (Yu t)),aA (.ol q)]):=λq=>by unfold Gen.Qq Yu;exact Cf
  rw[ax];generalize (zs++(t::ts).map (·.1)).map D.str=RR at*;generalize Yu t=TD at*;unfold Y1;simp[e1,z1,-Y1];simpa[-Y1]using ih
abbrev Gz(h:HP)(f:Str):Prop:=∃t∈h.fs,t.1=f
theorem told_fields(P)(ok:PoolOk P)(h)(hh:h∈P):∃ps,Flds P h (Gz h) ps/\ps.length<=100/\Gen.Qk [Oh P,Zz h]=aA (.oK (Y0 ps) (Yr ps)):=by
 have few:=(ok.few h hh).fs;have c:=Vv h.fs [] (by simp;omega);rw[gq,List.map_nil]at c;obtain⟨U,nd,mm,ul,eo⟩:=each_once (h.fs.map (·.1)) (by rw[aj];omega);rw[aj]at ul;have mU:∀f,f∈U↔∃t∈h.fs,t.1=f:=λf=>by rw[mm,av]
 obtain⟨ps,y3,y4,s,pl,l⟩:=Tf P ok h hh U _ [] aB aB nd (λ_ _ z=>z) (λf hf=>(mU f).mp hf) (Flds.nil P h) (by simp;omega);refine⟨ps,s.imp λf _ _=>?_,by simp at pl;omega,?_⟩
 .rw[false_or];exact mU f
 have t2:∀a b c:D,L2.atI [a,b,c] 2=aA c:=λ_ _ _=>rfl;rw[show Y0 ([]:PS)=[]from rfl,show Yr ([]:PS)=[]from rfl]at l;unfold Gen.Qk Gen.Bb;unfold Zz at l⊢;exact Cf
noncomputable abbrev dSt(A0 A1 A2:Option SV)(h:HP)(ps:PS)(x5 x6 x7 x8:Option SV):Yp:=[A0,A1,A2,aA (.fz (Zz h)),aA (.oK (Y0 ps) (Yr ps)),x5,x6,x7,x8]
theorem lM(P)(ok:PoolOk P)(A0 A1 A2 h)(hh:h∈P)(U ps)(s:Flds P h U ps)(hU:¬U IN)(hl:ps.length<=100)(t)(ht:t∈h.fs)(x6 x7 x8):∃ZO,Flds P h (λg=>U g\/(g=t.1/\g≠IN)) ZO/\ZO.length<=ps.length+1/\
  Gen.Ws (dSt A0 A1 A2 h ps (aA (.fz (.str t.1))) x6 x7 x8)=aA (.nx (dSt A0 A1 A2 h ZO (aA (.fz (.str t.1))) x6 x7 x8)):=by
 have z:(Yr ps).length<PySem.sizeLine:=Yk (by simp;omega);by_cases hk:t.1=Y7
 .refine⟨ps,s.imp λg h1 _=>⟨.inl,λq=>q.resolve_right λe=>h1 (e.1.trans hk)⟩,by omega,?_⟩;rw[hk];unfold Gen.Ws dSt;exact Cf
 by_cases hi:t.1=IN
 .refine⟨ps,s.imp λg _ _=>⟨.inl,λq=>q.resolve_right λe=>e.2 (e.1.trans hi)⟩,by omega,?_⟩;have ne:¬IN=Y7:=L_;rw[hi];unfold Gen.Ws dSt;exact Cf
 obtain⟨zt,b,_,_⟩:=Mz h t.1 ⟨t,ht,rfl⟩;have e:=ok.best hh t.1;rw[b]at e;have e:Gen.Wb [Zz h,.str t.1]=aA (.fz (.tup [.str zt.2.1,.lst (zt.2.2.map Zw)])):=e;have fe:fv P h t.1=aA zt.2.1:=by unfold fv;rw[fZ hi,b];rfl
 have u0:∀a b:D,L2.atI [a,b] 0=aA a:=λ_ _=>rfl;have go:∀ZO,Y6 (Y0 ps) (Yr ps) (dn t.1) (.str zt.2.1)=(Y0 ZO,Yr ZO)->Gen.Ws (dSt A0 A1 A2 h ps (aA (.fz (.str t.1))) x6 x7 x8)=aA (.nx (dSt A0 A1 A2 h ZO (aA (.fz (.str t.1))) x6 x7 x8)):=λZO q=>by unfold Gen.Ws dSt;exact Cf
 by_cases hu:U t.1
 .refine⟨ps,s.imp λg _ _=>⟨.inl,λq=>q.elim id λe=>by rw[e.1];exact hu⟩,by omega,go ps (tJ s.nd ((s.mem (t.1,zt.2.1)).mpr ⟨hu,hk,fe⟩))⟩
 .obtain⟨fr,s'⟩:=s.add hu hk fe;exact⟨ps++[(t.1,zt.2.1)],s'.imp λg _ _=>⟨λq=>q.imp id λe=>⟨e,λi=>hi (e.symm.trans i)⟩,λq=>q.imp id λe=>e.1⟩,by simp,go _ (LI fr _)⟩
theorem Vw(P)(ok:PoolOk P)(A0 A1 A2 h)(hh:h∈P):∀(ts:List Qt) U ps x5 x6 x7 x8,(∀t∈ts,t∈h.fs)->¬U IN->Flds P h U ps->ps.length+ts.length<=100->∃ZO y5 y6 y7,Flds P h (λg=>U g\/((∃t∈ts,t.1=g)/\g≠IN)) ZO/\ZO.length<=ps.length+ts.length/\
  Yf (Ys 3 (Zm (Zf 5) (Zm (Zf 6) (Zm (Zf 7) Yw)))) Gen.Ws (ts.map Yu) (dSt A0 A1 A2 h ps x5 x6 x7 x8)=aA (.nx (dSt A0 A1 A2 h ZO y5 y6 y7 x8))
 | [],U,ps,x5,x6,x7,x8,_,_,s,_=>⟨ps,x5,x6,x7,s.imp λg _ _=>⟨.inl,λq=>q.elim id λ⟨⟨_,z,_⟩,_⟩=>nomatch z⟩,by simp,rfl⟩
 |t::ts,U,ps,x5,x6,x7,x8,ht,hU,s,hl=>by
  rw[aw]at hl;obtain⟨TC,SO,l1,e⟩:=lM P ok A0 A1 A2 h hh U ps s hU (by omega) t (ht t ac) (aA (.fz (.str t.2.1))) (aA (.fz (.lst (t.2.2.map Zw)))) x8;obtain⟨ZO,y5,y6,y7,s',l',ih⟩:=Vw P ok A0 A1 A2 h hh ts _ TC (aA (.fz (.str t.1))) (aA (.fz (.str t.2.1))) (aA (.fz (.lst (t.2.2.map Zw)))) x8 (λu hu=>ht u (ah _ hu)) (λq=>q.elim hU λw=>w.2 rfl) SO (by omega);refine⟨ZO,y5,y6,y7,s'.imp λg _ _=>?_,by rw[aw];omega,(Jp (by simp) e).trans ih⟩;constructor
  .rintro((q|⟨q,w⟩)|⟨⟨u,q,r⟩,w⟩)
   .exact .inl q
   .exact .inr ⟨⟨t,ac,q.symm⟩,w⟩
   .exact .inr ⟨⟨u,ah _ q,r⟩,w⟩
  .rintro(q|⟨⟨u,q,r⟩,w⟩)
   .exact .inl (.inl q)
   .rcases bj.mp q with rfl|q
    .exact .inl (.inr ⟨r.symm,w⟩)
    .exact .inr ⟨⟨u,q,r⟩,w⟩
def ShV(P:List HP)(h:HP)(d:D):Prop:=∃(z:Qt) (ps:PS),bst h Y7=aA z/\Flds P h (Gz h) ps/\ps.length<=101/\d= .tup [.str z.2.1,.dK (Y0 ps) (Yr ps)]
abbrev Gm(n:Nat):List Str:=(cr n).map LTR
theorem rm(hn:n<=34):(Gm n).Nodup:=fu.mpr ((List.Pairwise.and_mem.mp List.nodup_range).imp fun{a b} h e=>h.2.2 (yn (by have:=cq.mp h.1;omega) (by have:=cq.mp h.2.1;omega) e))
theorem ym(hi:i<34)(vs d):Y6 (Zy (Gm i)) vs (dn (LTR i)) d=(Zy (Gm (i+1)),vs++[d]):=by
 have fr:LTR i∉Gm i:=λq=>by obtain⟨j,hj,e⟩:=av.mp q;have hj:=cq.mp hj;have:=yn (by omega) hi e;omega
 rw[Jv,Jw fr];unfold Gm;rw[List.range_succ,cu];rfl
theorem lL(P)(ok:PoolOk P)(i)(hi:i<34)(h)(hh:h∈P)(hk:Gz h Y7)(vs)(hv:vs.length=i):∃d,ShV P h d/\
  Gen.Ur [aA (.fz (Oh P)),aA (.oK (Zy (Gm i)) vs),aA (.fz (.int (i:Int))),aA (.fz (Zz h))]=aA (.nx [aA (.fz (Oh P)),aA (.oK (Zy (Gm (i+1))) (vs++[d])),aA (.fz (.int (i:Int))),aA (.fz (Zz h))]):=by
 obtain⟨z,b,_,_⟩:=Mz h Y7 hk;have s0:=ok.few h hh;have e:=Vt (h.ns.map Zw) (h.ms.map Zw) h.fs s0.fs s0.tl Y7;rw[show fd aB (h.fs.filter λt=>decide (t.1=Y7))=aA z from b]at e;have e:Gen.Uq [Zz h,.str Y7]=aA (.fz (.str z.2.1)):=e;obtain⟨ps,s,pl,e2⟩:=told_fields P ok h hh;refine⟨.tup [.str z.2.1,.dK (Y0 ps) (Yr ps)],⟨z,ps,b,s,by omega,rfl⟩,?_⟩;have lt:=Lg hi;have zz:vs.length<PySem.sizeLine:=Yk (by omega);have q:=ym hi vs (.tup [.str z.2.1,.dK (Y0 ps) (Yr ps)]);unfold Gen.Ur;exact Cf
theorem oZ(P)(ok:PoolOk P)(A0 A1 A2 h)(hh:h∈P)(x5 x6 x7 x8):∃VA ps y5 y6 y7 u8,Flds P h (Gz h) ps/\ps.length<=101/\(Yr VA).length<cj/\
  Yf (Ys 3 (Zm (Zf 5) (Zm (Zf 6) (Zm (Zf 7) Yw)))) Gen.Ws (h.fs.map Yu) (dSt A0 A1 A2 h [] x5 x6 x7 x8)=aA (.nx (dSt A0 A1 A2 h VA y5 y6 y7 x8))/\Gen.Qu [Oh P,Zz h]=aA (.fz u8)/\
  ((u8= .non/\ps=VA)\/∃t,u8= .str t/\Y6 (Y0 VA) (Yr VA) (dn IN) (.str t)=(Y0 ps,Yr ps)):=by
 have few:=(ok.few h hh).fs;obtain⟨VA,y5,y6,y7,s,l,e⟩:=Vw P ok A0 A1 A2 h hh h.fs _ [] x5 x6 x7 x8 (λ_ z=>z) (λz=>z) (Flds.nil P h) (by simp;omega);have b:=mw P ok h hh;simp at l;have z:(Yr VA).length<PySem.sizeLine:=Yk (by simp;omega);have fi:fv P h IN=Gy P h:=f_ rfl;cases ho:Gy P h with
 |none=>rw[ho]at b fi;refine⟨VA,VA,y5,y6,y7,.non,s.imp λg _ h2=>?_,by omega,z,e,b,.inl ⟨rfl,rfl⟩⟩;rw[false_or];refine⟨λq=>q.1,λq=>⟨q,λw=>?_⟩⟩;rw[w,fi]at h2;cases h2
 |some t=>
  rw[ho]at b fi;obtain⟨fr,s'⟩:=s.add (f:=IN) (t:=t) (λq=>q.elim id λw=>w.2 rfl) L_ fi;refine⟨VA,VA++[(IN,t)],y5,y6,y7,.str t,s'.imp λg _ h2=>?_,by simp;omega,z,e,b,.inr ⟨t,rfl,LI fr t⟩⟩;rw[false_or];refine⟨λq=>q.elim (λq=>q.1) λw=>?_,λq=>?_⟩
  .rw[w];by_cases hx:Gz h IN
   .exact hx
   .unfold Gy at ho;rw[zv h IN hx]at ho;cases ho
  .by_cases w:g=IN
   .exact .inr w
   .exact .inl ⟨q,w⟩
theorem jB(P)(ok:PoolOk P)(i)(hi:i<34)(h)(hh:h∈P)(hk:Gz h Y7)(vs)(hv:vs.length=i)(x4 x5 x6 x7 x8):∃d y4 y5 y6 y7 y8,ShV P h d/\
  Gen.Jx [aA (.fz (Oh P)),aA (.oK (Zy (Gm i)) vs),aA (.fz (.int (i:Int))),aA (.fz (Zz h)),x4,x5,x6,x7,x8]=aA (.nx [aA (.fz (Oh P)),aA (.oK (Zy (Gm (i+1))) (vs++[d])),aA (.fz (.int (i:Int))),aA (.fz (Zz h)),y4,y5,y6,y7,y8]):=by
 obtain⟨z,b,_,_⟩:=Mz h Y7 hk;have e:=ok.best hh Y7;rw[b]at e;have e:Gen.Wb [Zz h,.str Y7]=aA (.fz (.tup [.str z.2.1,.lst (z.2.2.map Zw)])):=e;obtain⟨VA,ps,y5,y6,y7,u8,s,pl,z0,l,bk,cs⟩:=oZ P ok (aA (.fz (Oh P))) (aA (.oK (Zy (Gm i)) vs)) (aA (.fz (.int (i:Int)))) h hh x5 x6 x7 x8;have lt:=Il hi;have zz:vs.length<PySem.sizeLine:=Yk (by omega);have q:=ym hi vs (.tup [.str z.2.1,.dK (Y0 ps) (Yr ps)]);have t2:∀a b c:D,L2.atI [a,b,c] 2=aA c:=λ_ _ _=>rfl;have u0:∀a b:D,L2.atI [a,b] 0=aA a:=λ_ _=>rfl;unfold dSt at l;rw[show Y0 ([]:PS)=[]from rfl,show Yr ([]:PS)=[]from rfl]at l;refine⟨.tup [.str z.2.1,.dK (Y0 ps) (Yr ps)],aA (.fz (.dK (Y0 ps) (Yr ps))),y5,y6,y7,aA (.fz u8),⟨z,ps,b,s,pl,rfl⟩,?_⟩;rcases cs with⟨rfl,rfl⟩|⟨t,rfl,pp⟩
 .unfold Gen.Jx;unfold Zz at e l bk⊢;exact Cf
 .unfold Gen.Jx;unfold Zz at e l bk⊢;exact Cf
theorem Im(P)(ok:PoolOk P)(tg body)(St:Nat->List D->Yp->Prop)(turn:∀i h vs δ,i<34->h∈P->vs.length=i->St i vs δ->∃δ1 δ2 d,tg.run (.tup [.int (i:Nat),Zz h]) δ=aA δ1/\body δ1=aA (.nx δ2)/\ShV P h d/\St (i+1) (vs++[d]) δ2):
  ∀hs pre vs δ,pre++hs=P->vs.length=pre.length->(∀(j:Nat) h,pre[j]? =aA h->∃d,vs[j]? =aA d/\ShV P h d)->St pre.length vs δ->∃(XQ:List D) (δ':Yp),XQ.length=P.length/\(∀(j:Nat) h,P[j]? =aA h->∃d,XQ[j]? =aA d/\ShV P h d)/\St P.length XQ δ'/\
  Yf tg body (((hs.map Zz).zipIdx pre.length).map λp=>D.tup [.int (p.2:Nat),p.1]) δ=aA (.nx δ')
 | [],pre,vs,δ,e,hv,ha,st=>by rw[List.append_nil]at e;subst e;exact⟨vs,δ,hv,ha,st,rfl⟩
 |h::hs,pre,vs,δ,e,hv,ha,st=>by
  have hl:pre.length<P.length:=by rw[<-e,bg,aw];omega
  have hh:h∈P:=by rw[<-e];simp
  obtain⟨δ1,δ2,d,r,t,sv,SM⟩:=turn pre.length h vs δ (by have:=ok.len;omega) hh hv st;obtain⟨XQ,δ',l',a',YC,ih⟩:=Im P ok tg body St turn hs (pre++[h]) (vs++[d]) δ2 (by rw[<-e];simp) (by simp[hv]) (λj g hg=>by
   rcases du j pre.length with q|q
   .rw[cw q]at hg;obtain⟨d',h1,h2⟩:=ha j g hg;exact⟨d',by rw[cw (by omega)];exact h1,h2⟩
   .have:j=pre.length:=by
     rcases du pre.length j with r|r
     .rw[d7 (by simp;omega)]at hg;cases hg
     .omega
    subst this;rw[fq (bc _),Nat.sub_self]at hg;cases hg;exact⟨d,by rw[fq (by omega),hv,Nat.sub_self];rfl,sv⟩) (by rw[bg];exact SM)
  refine⟨XQ,δ',l',a',YC,?_⟩;rw[show(pre++[h]).length=pre.length+1 by simp]at ih;rw[ax,List.zipIdx_cons,ax];exact(Jp r t).trans ih
structure Shd(P:List HP)(vs:List D):Prop where
 len:vs.length=P.length
 all:∀(j:Nat) (h:HP),P[j]? =aA h->∃d,vs[j]? =aA d/\ShV P h d
theorem shelf_of(P)(ok:PoolOk P)(hk:∀h∈P,Gz h Y7):∃vs,Shd P vs/\Gen.Wp [Oh P]=aA (.oK (Zy (Gm P.length)) vs):=by
 obtain⟨vs,δ,l,a,⟨y2,y3,rfl⟩,e⟩:=Im P ok (Ys 2 (Zm (Zf 2) (Zm (Zf 3) Yw))) Gen.Ur (λi vs δ=>∃x2 x3,δ=[aA (.fz (Oh P)),aA (.oK (Zy (Gm i)) vs),x2,x3]) (λi h vs δ hi hh hv st=>by
  obtain⟨x2,x3,rfl⟩:=st;obtain⟨d,sv,t⟩:=lL P ok i hi h hh (hk h hh) vs hv;exact⟨_,_,d,by simp,t,sv,_,_,rfl⟩) P [] [] [aA (.fz (Oh P)),aA (.oK (Zy (Gm 0)) []),aB,aB] rfl rfl (λj h hj=>by simp at hj) ⟨_,_,rfl⟩
 refine⟨vs,⟨l,a⟩,?_⟩;rw[show(((P.map Zz).zipIdx ([]:List HP).length).map λp=>D.tup [.int (p.2:Nat),p.1])=W2 (P.map Zz)from rfl]at e;rw[show Zy (Gm 0)=[]from rfl]at e;unfold Gen.Wp Gen.Re;unfold Oh at*;exact Cf
theorem oY(P)(ok:PoolOk P)(hk:∀h∈P,Gz h Y7):∃vs,Shd P vs/\Gen.Uz [Oh P]=aA (.oK (Zy (Gm P.length)) vs):=by
 obtain⟨vs,δ,l,a,⟨y2,y3,y4,y5,y6,y7,y8,rfl⟩,e⟩:=Im P ok (Ys 2 (Zm (Zf 2) (Zm (Zf 3) Yw))) Gen.Jx (λi vs δ=>∃x2 x3 x4 x5 x6 x7 x8,δ=[aA (.fz (Oh P)),aA (.oK (Zy (Gm i)) vs),x2,x3,x4,x5,x6,x7,x8]) (λi h vs δ hi hh hv st=>by
  obtain⟨x2,x3,x4,x5,x6,x7,x8,rfl⟩:=st;obtain⟨d,y4,y5,y6,y7,y8,sv,t⟩:=jB P ok i hi h hh (hk h hh) vs hv x4 x5 x6 x7 x8;exact⟨_,_,d,by simp,t,sv,_,_,_,_,_,_,_,rfl⟩) P [] [] [aA (.fz (Oh P)),aA (.oK (Zy (Gm 0)) []),aB,aB,aB,aB,aB,aB,aB] rfl rfl (λj h hj=>by simp at hj) ⟨_,_,_,_,_,_,_,rfl⟩
 refine⟨vs,⟨l,a⟩,?_⟩;rw[show(((P.map Zz).zipIdx ([]:List HP).length).map λp=>D.tup [.int (p.2:Nat),p.1])=W2 (P.map Zz)from rfl]at e;rw[show Zy (Gm 0)=[]from rfl]at e;unfold Gen.Uz Gen.Mq;unfold Oh at*;exact Cf
theorem Vx:∀xs vs,(∀(i:Nat) x v,xs[i]? =aA x->vs[i]? =aA v->∃u,look ys us x=aA u/\f v u=aA aC)->Ni f ys us xs vs=aA aC
 | [],_,_=>rfl
 |_::_,[],_=>rfl
 |x::xs,v::vs,h=>by
  obtain⟨u,h1,h2⟩:=h 0 x v rfl rfl;have ih:=Vx xs vs λi x v hx hv=>h (i+1) x v (by simpa using hx) (by simpa using hv);show(match look ys us x with
   |none=>aA aD
   |some u=>(f v u).bind λb=>(Ni f ys us xs vs).bind λc=>aA (b&&c))=aA aC
  rw[h1];dsimp only;rw[h2,ih];rfl
theorem yC(n)(hl:xs.length=ys.length)(h:∀(i:Nat) x v,xs[i]? =aA x->vs[i]? =aA v->∃u,look ys us x=aA u/\Tu n v u=aA aC):Tu (n+1) (.dK (Zy xs) vs) (.dK (Zy ys) us)=aA aC:=by show(strK? (Zy xs)).bind (λQ_=>(strK? (Zy ys)).bind λEZ=>if Q_.length=EZ.length then Ni (Tu n) EZ us Q_ vs else aA aD)=aA aC;rw[Ex,Ex];dsimp only[Option.bind];rw[f_ hl];exact Vx xs vs h
theorem oW(n)(s:Flds P h U ps)(t:Flds P h U qs):Tu (n+2) (.dK (Y0 ps) (Yr ps)) (.dK (Y0 qs) (Yr qs))=aA aC:=by
 have nd:∀{l:PS},(l.map (·.1)).Nodup->l.Nodup:=fun{l} h=>List.Pairwise.of_map _ (λa b q e=>q (by rw[e])) h;have pm:ps.Perm qs:=(List.perm_ext_iff_of_nodup (nd s.nd) (nd t.nd)).mpr λp=>(s.mem p).trans (t.mem p).symm;refine yC (n+1) (by rw[aj,aj];exact pm.length_eq) λi x v hx hv=>?_;rw[ay]at hx;obtain⟨p,hp,rfl⟩:=cz.mp hx;have hv:((ps.map (·.2)).map D.str)[i]? =aA v:=hv;rw[ay,ay,hp]at hv;cases hv;obtain⟨j,hj,e⟩:=fj (pm.mem_iff.mp (cf hp));refine⟨.str p.2,Ew t.nd (by simp) j _ _ ?_ ?_,y_ n p.2⟩
 .rw[ay,au hj,e];rfl
 .rw[ay,ay,au hj,e];rfl
theorem rj(n)(s:ShV P h d)(t:ShV P h u):Tu (n+3) d u=aA aC:=by obtain⟨z,ps,b,s,_,rfl⟩:=s;obtain⟨z',qs,b',t,_,rfl⟩:=t;rw[b]at b';cases b';have e:=oW n s t;have e1:=y_ (n+1) z.2.1;show(Oq (Tu (n+2)) [.str z.2.1,.dK (Y0 ps) (Yr ps)] [.str z.2.1,.dK (Y0 qs) (Yr qs)]).bind (λb=>aA (b&&decide (2=2)))=aA aC;show((Tu (n+2) (.str z.2.1) (.str z.2.1)).bind λb=>((Tu (n+2) (.dK (Y0 ps) (Yr ps)) (.dK (Y0 qs) (Yr qs))).bind λc=>(aA aC).bind λc'=>aA (c&&c')).bind λc=>aA (b&&c)).bind (λb=>aA (b&&decide (2=2)))=aA aC;rw[e,e1];rfl
theorem yB(hl:P.length<=34)(s:Shd P vs)(t:Shd P us):Tu 48 (.dK (Zy (Gm P.length)) vs) (.dK (Zy (Gm P.length)) us)=aA aC:=by
 refine yC 47 rfl λi x v hx hv=>?_;have hi:i<P.length:=by have:=(az.mp hv).1;rw[s.len]at this;exact this
 obtain⟨d,h1,h2⟩:=s.all i _ (au hi);obtain⟨u,h3,h4⟩:=t.all i _ (au hi);rw[hv]at h1;cases h1;exact⟨u,Ew (rm hl) (by simp[t.len]) i x u hx h3,rj 44 h2 h4⟩
theorem Vy(hl:fs.length=ts.length)(hk:Y7∉fs)(kind f):W5 (fs++[Y7]) (ts++[kind]) f=if f=Y7 then aA kind else W5 fs ts f:=by
 unfold W5;rw[List.zip_append hl,List.lookup_append];show((fs.zip ts).lookup f).or (List.lookup f [(Y7,kind)])=_;rw[List.lookup_cons];by_cases h:f=Y7
 .subst h;have:(fs.zip ts).lookup Y7=aB:=by
   rcases h:(fs.zip ts).lookup Y7 with _|v
   .rfl
   .obtain⟨l1,l2,e,_⟩:=List.lookup_eq_some_iff.mp h;exact eF (List.of_mem_zip (show(Y7,v)∈fs.zip ts by rw[e];simp)).1 hk
  rw[this];simp
 .rw[fZ h,beq_eq_false_iff_ne.mpr h];simp
theorem pour(P Q)(T:Tot (P++Q)):∃out,fG (λh=>h∈P\/h∈Q) out/\(∀h∈out,fQ h)/\out.length<=P.length+Q.length/\Gen.C4 [.lst (P.map Zz),.lst (Q.map Zz)]=aA (.ol (out.map Zz)):=by
 obtain⟨out,p,ok,len,j⟩:=joined (P++Q) T;have pq:∀a,a∈P++Q↔(a∈P\/a∈Q):=λa=>bz;have e:(λh=>h∈P++Q)=λh=>h∈P\/h∈Q:=funext λa=>propext (pq a);have p':fG (λh=>h∈P\/h∈Q) out:=by rw[<-e];exact p
 refine⟨out,p',ok,by rw[bg]at len;exact len,?_⟩;have z:(P.map Zz).length+(Q.map Zz).length<=PySem.sizeLine:=Jo (by have:=T.all.len;rw[bg]at this;rw[aj,aj];omega);rw[cu]at j;unfold Gen.C4 Gen.Hy;exact Cf
theorem jb{S:HP->Prop}(nS:∀a,S a->a.ns≠[])(nT:∀a,T a->a.ns≠[])(p:fG S P)(q:fG T Q)(t:Tot (P++Q)):∃out,fG (λa=>S a\/T a) out/\(∀h∈out,fQ h)/\out.length<=P.length+Q.length/\Gen.C4 [.lst (P.map Zz),.lst (Q.map Zz)]=aA (.ol (out.map Zz)):=by obtain⟨out,r,ok,len,e⟩:=pour P Q t;exact⟨out,p.pour nS nT q r,ok,len,e⟩
theorem ja{U V U' V' W}{S:HP->Prop}(u:Uni U V W S)(u':Uni U' V' W T)(p:fG S P)(q:fG T Q)(hU:U.length+U'.length<=60)(hV:V.length+V'.length<=63)(hW:W.length<64):Tot (P++Q):=by
 have s:=Ri u p;have s':=Ri u' q;have b:=Mc u p;have b':=Mc u' q;have or:∀h,h∈P++Q->h∈P\/h∈Q:=λh=>bz.mp;refine⟨⟨λh hh=>?_,λh hh k hk=>(or h hh).elim (λz=>(b.ns h z k hk).2) λz=>(b'.ns h z k hk).2,λh hh k hk=>(or h hh).elim (λz=>(b.ms h z k hk).2) λz=>(b'.ms h z k hk).2,λh hh x hx k hk=>(or h hh).elim (λz=>(b.ns h z k ((b.fs h z x hx).2 k hk)).2) λz=>(b'.ns h z k ((b'.fs h z x hx).2 k hk)).2,?_,?_,λt=>?_,?_,?_,W,hW,λt ⟨h,hh,x,hx,e⟩=>by rw[e];exact(or h hh).elim (λz=>(b.fs h z x hx).1) λz=>(b'.fs h z x hx).1⟩,λh hh=>(or h hh).elim (b.ne h) (b'.ne h)⟩
 .rcases or h hh with z|z
  .obtain⟨z1,z2,z3⟩:=s.fw h z;exact⟨by omega,by omega,λx hx=>by have:=z3 x hx;omega⟩
  .obtain⟨z1,z2,z3⟩:=s'.fw h z;exact⟨by omega,by omega,λx hx=>by have:=z3 x hx;omega⟩
 .rw[List.flatMap_append,bg];have:=s.ns;have:=s'.ns;omega
 .rw[List.flatMap_append,bg];have:=s.ms;have:=s'.ms;omega
 .unfold tlG;rw[cu,List.sum_append];have h1:=s.tl t;have h2:=s'.tl t;unfold tlG at h1 h2;omega
 .rw[bg];have:=s.ln;have:=s'.ln;omega
 .unfold Tp;rw[cu,List.sum_append];have h1:=s.cn;have h2:=s'.cn;unfold Tp at h1 h2;have l1:=s.ln;have l2:=s'.ln;have m1:P.length*W.length<=60*63:=Nat.mul_le_mul (by omega) (by omega);have m2:Q.length*W.length<=60*63:=Nat.mul_le_mul (by omega) (by omega);omega
theorem lK(F T)(hF:F.length=3)(hT:T.length=7):∃W:List NK,W.length<64/\∀b w,WP F T w->∀x∈w.tri b,Y2 x∈W:=by
 refine⟨(F.flatMap λf=>(cr 10).map λn=>(.inl [f,itT n]:NK))++(T.map λt=>.inl [IN,t])++[.inl [Y7,Dj],.inl [Y7,LL]],?_,λb w p x hx=>?_⟩
 .rw[bg,bg,List.length_flatMap,aj];have:=W6 (λf=>((cr 10).map λn=>(.inl [f,itT n]:NK)).length) 10 F λf _=>by simp
  simp only[aw,List.length_nil];omega
 .obtain⟨f,hf,rfl⟩:=av.mp hx;obtain⟨hf,hn⟩:=List.mem_filter.mp hf;have hn:f≠Gb:=by simpa using hn
  have vk:=Vy p.ok.len p.ok.nk w.kind f;show(.inl [f,w.val f]:NK)∈_;unfold Wk.val Wk.at' Wk.vt;rw[vk];by_cases e:f=Y7
  .rw[f_ e,e];refine b7 _ ?_;show(.inl [Y7,w.kind]:NK)∈_;rcases p.kd with z|z<;> rw[z]<;> simp
  .rw[fZ e];have hf:f∈w.fs:=(bz.mp hf).resolve_right λz=>e (ar.mp z);obtain⟨v,hv⟩:=Option.isSome_iff_exists.mp ((Ie w.fs w.ts f p.ok.len).mp hf);rw[hv];obtain⟨ps,e1,e2,all⟩:=p.all;unfold W5 at hv;rw[e1,e2,List.zip_map',show(ps.map λp=>(p.1,p.2))=ps by simp]at hv;obtain⟨l1,l2,el,_⟩:=List.lookup_eq_some_iff.mp hv;refine cg _ ?_;rcases all (f,v) (by rw[el];simp)with⟨h1,n,WG,h2⟩|⟨h1,h2⟩
   .have h1:f∈F:=(bz.mp h1).resolve_right λz=>hn (ar.mp z);have h2:v=itT n:=h2;refine cg _ (List.mem_flatMap.mpr ⟨f,h1,av.mpr ⟨n,cq.mpr WG,?_⟩⟩);rw[h2];rfl
   .refine b7 _ (av.mpr ⟨v,h2,?_⟩);have h1:f=IN:=h1;rw[h1];rfl
theorem rh(rs)(w:Wk):∀m∈w.marks rs,isM m:=λm hm=>by obtain⟨j,l,e,_⟩:=Ig _ _ _ _ m hm;exact⟨j,l,e⟩
theorem lJ{V:List NK}{ws:List Wk}(hU:∀w∈ws,Mb b w.key∈U)(hV:∀w∈ws,∀m∈w.marks rs,m∈V)(hW:∀w∈ws,∀x∈w.tri b,Y2 x∈W):Uni U V W (· ∈ws.map (Uc b rs)):=by
 refine⟨λa h=>?_,λa h k hk=>?_,λa h k hk=>?_,λa h x hx=>?_⟩
 .obtain⟨w,hw,rfl⟩:=av.mp h;exact λz=>nomatch z
 .obtain⟨w,hw,rfl⟩:=av.mp h;rw[ar.mp (show k∈[Mb b w.key]from hk)];exact⟨hU w hw,b,[w.key],rfl⟩
 .obtain⟨w,hw,rfl⟩:=av.mp h;exact⟨hV w hw k hk,rh rs w k hk⟩
 .obtain⟨w,hw,rfl⟩:=av.mp h;refine⟨hW w hw x hx,λk hk=>?_⟩;obtain⟨f,_,rfl⟩:=av.mp (show x∈w.tri b from hx);exact hk
theorem Uni.up{U V U' V' W}{S}(s:Uni U V W S)(hU:∀k∈U,k∈U')(hV:∀k∈V,k∈V'):Uni U' V' W S:=
 ⟨s.ne,λa h k hk=>⟨hU k (s.ns a h k hk).1,(s.ns a h k hk).2⟩,λa h k hk=>⟨hV k (s.ms a h k hk).1,(s.ms a h k hk).2⟩,s.fs⟩
structure PL(W:List NK)(rs:List (List Str))(n v:Nat)(S:HP->Prop)(P:List HP):Prop where
 p:fG S P
 u:∃U V:List NK,U.length<=n/\V.length<=v/\Uni U V W S
 ln:∀a,S a->∃b w,fR w/\a=Uc b rs w
theorem xM(hW:W.length<64)(hn:n+m<=60)(hv:v+v'<=63){S:HP->Prop}(p:PL W rs n v S P)(q:PL W rs m v' T Q):∃R,PL W rs (n+m) (v+v') (λa=>S a\/T a) R/\Gen.C4 [Oh P,Oh Q]=aA (.ol (R.map Zz)):=by obtain⟨U,V,u1,u2,u⟩:=p.u;obtain⟨U',V',v1,v2,w⟩:=q.u;obtain⟨R,r,ok,_,e⟩:=jb u.ne w.ne p.p q.p (ja u w p.p q.p (by omega) (by omega) hW);exact⟨R,⟨r,⟨U++U',V++V',by rw[bg];omega,by rw[bg];omega,(u.up (λk h=>cg _ h) λk h=>cg _ h).or (w.up (λk h=>b7 _ h) λk h=>b7 _ h)⟩,λa h=>h.elim (p.ln a) (q.ln a)⟩,e⟩
theorem xL(hW:W.length<64)(pW:∀b w,WP F T w->∀x∈w.tri b,Y2 x∈W)(rs)(hr:rs.length<=2)(OK:∀r∈rs,r.length<=2)(b ws)(nd:(ws.map Wk.key).Nodup)(ok:∀w∈ws,WP F T w)(n v)(hl:ws.length<=n)(iY:n<=22)(V:List NK)(hv:V.length<=v)(hV:∀w∈ws,∀m∈w.marks rs,m∈V):∃P,PL W rs n v (· ∈ws.map (Uc b rs)) P/\Gen.Wx [.str b,Y8 ws,.lst (rs.map Y9)]=aA (.ol (P.map Zz)):=by obtain⟨P,p,oo,_,e⟩:=pool_of b rs ws ⟨nd,λw h=>(ok w h).ok,by omega,by have:=Nat.mul_le_mul hl hr;omega,λr h=>by have:=OK r h;omega,by omega⟩ ⟨W,hW,λw hw=>pW b w (ok w hw)⟩;refine⟨P,⟨p,⟨ws.map λw=>Mb b w.key,V,by rw[aj];exact hl,hv,lJ (λw h=>av.mpr ⟨w,h,rfl⟩) hV λw hw=>pW b w (ok w hw)⟩,λa h=>?_⟩,e⟩;obtain⟨w,hw,rfl⟩:=av.mp h;exact⟨b,w,(ok w hw).ok,rfl⟩
theorem xK(hW:W.length<64)(pW:∀b w,WP F T w->∀x∈w.tri b,Y2 x∈W)(rs)(hr:rs.length<=2)(OK:∀r∈rs,r.length<=2)(b ws)(nd:(ws.map Wk.key).Nodup)(ok:∀w∈ws,WP F T w)(hl:ws.length<=6):∃P,PL W rs 6 12 (· ∈ws.map (Uc b rs)) P/\Gen.Wx [.str b,Y8 ws,.lst (rs.map Y9)]=aA (.ol (P.map Zz)):=
 xL hW pW rs hr OK b ws nd ok 6 12 hl (by omega) (ws.flatMap λw=>w.marks rs) (by
  rw[List.length_flatMap];have:=W6 (λw:Wk=>(w.marks rs).length) 2 ws λw _=>dv (Gj _ _ rs 0) hr;omega) λw h m hm=>List.mem_flatMap.mpr ⟨w,h,hm⟩
abbrev bare(k:Str):Wk:=⟨k,Dj,[],[]⟩
theorem oV(hW:W.length<64)(pW:∀b w,WP F T w->∀x∈w.tri b,Y2 x∈W)(rs)(hr:rs.length<=2)(OK:∀r∈rs,r.length<=2)(b)(ks:List Str)(nd:ks.Nodup)(hl:ks.length<=22):∃P,PL W rs 22 2 (· ∈(ks.map bare).map (Uc b rs)) P/\Gen.Wx [.str b,Y8 (ks.map bare),.lst (rs.map Y9)]=aA (.ol (P.map Zz)):=
 xL hW pW rs hr OK b (ks.map bare) (by rw[cp];simpa[Function.comp_def]using nd) (λw hw=>by
  obtain⟨k,_,rfl⟩:=av.mp hw;exact⟨⟨rfl,c6,by simp,by simp⟩,.inl rfl,[],rfl,rfl,λ_ h=>nomatch h⟩) 22 2 (by rw[aj];exact hl) (by omega) (Ub [Y7] [Dj] 0 rs) (dv (Gj _ _ rs 0) hr) λw hw m hm=>by
  obtain⟨k,_,rfl⟩:=av.mp hw;exact hm
theorem xJ(hW:W.length<64)(hn:n<=34){S}(pl:PL W rs n v S P):PoolOk P/\∀h∈P,Gz h Y7:=by
 obtain⟨U,V,u1,u2,u⟩:=pl.u;have sm:=Ri u pl.p;have un:=Mc u pl.p;have PC:∀{a:HP},S a->∃b k,∀x∈a.fs,x.2.2=[Mb b k]:=fun{a} h=>by obtain⟨b,w,_,rfl⟩:=pl.ln a h;refine⟨b,w.key,λx hx=>?_⟩;obtain⟨f,_,rfl⟩:=av.mp (show x∈w.tri b from hx);rfl
 refine⟨⟨λh hh=>⟨?_,λt ht=>?_⟩,?_,λh hh k hk=>(un.ns h hh k hk).2,λh hh t ht=>?_,λh hh=>?_⟩,λh hh=>?_⟩
 .obtain⟨a,sa,m⟩:=pl.p.each h hh;have pn:(h.fs.map Y2).Nodup:=fu.mpr (m.fs_s.imp fun{x y} lt e=>by
   have e:=Sum.inl.inj e;have e1:=(List.cons.inj e).1;have e2:=(List.cons.inj (List.cons.inj e).2).1;have:Wg x=Wg y:=by unfold Wg;rw[e1,e2]
   have lt:Wg x<Wg y:=lt;rw[this]at lt;exact gn _ lt)
  have:=dm pn (l₂:=W) λk hk=>by obtain⟨x,hx,rfl⟩:=av.mp hk;exact(un.fs h hh x hx).1
  rw[aj]at this;omega
 .have:=(sm.fw h hh).2.2 t ht;omega
 .have:=sm.ln;omega
 .obtain⟨a,sa,m⟩:=pl.p.each h hh;obtain⟨c,cc,l,hl⟩:=(m.fs_m t.1 t.2.1).mp ⟨t.2.2,ht⟩;obtain⟨b,k,tr⟩:=PC cc.right;refine⟨λz=>?_,λq hq=>?_⟩
  .have:=((m.fs_l t ht).2 (Mb b k)).mpr ⟨_,cc,l,hl,by rw[show l=[Mb b k]from tr _ hl];exact ar.mpr rfl⟩;rw[z]at this;cases this
  .obtain⟨c',ub,l',WN,hq'⟩:=((m.fs_l t ht).2 q).mp hq;obtain⟨b',k',wF⟩:=PC ub.right;rw[show l'=[Mb b' k']from wF _ WN]at hq';exact⟨b',k',ar.mp hq'⟩
 .obtain⟨a,sa,m⟩:=pl.p.each h hh;exact m.fs_s
 .obtain⟨a,sa,m⟩:=pl.p.each h hh;obtain⟨b,w,DM,rfl⟩:=pl.ln a sa;have kin:(Y7,w.kind,[Mb b w.key])∈w.tri b:=by refine av.mpr ⟨Y7,List.mem_filter.mpr ⟨b7 _ ac,by simpa using λz=>yq z.symm⟩,?_⟩;have vk:=Vy DM.len DM.nk w.kind Y7;show(Y7,w.val Y7,[Mb b w.key])=_;unfold Wk.val Wk.at' Wk.vt;rw[vk,f_ rfl];rfl
  obtain⟨l,hl⟩:=(m.fs_m Y7 w.kind).mpr ⟨_,.here sa,_,kin⟩;exact⟨_,hl,rfl⟩
theorem xI:∀{ks:List L2.Key} {vs:List D} {k:L2.Key},k∈ks->ks.length=vs.length->∃v∈vs,look ks vs k=aA v
 | [],_,_,h,_=>nomatch h
 |_::_,[],_,_,h=>by simp at h
 |k0::ks,v0::vs,k,h,hl=>by
  by_cases e:k0=k
  .exact⟨v0,ac,by subst e;simp[look]⟩
  .obtain⟨v,hv,q⟩:=xI (ks:=ks) (vs:=vs) (k:=k) ((bj.mp h).resolve_left λz=>e z.symm) (by simpa using hl);exact⟨v,ah _ hv,by simp[look,e];simpa using q⟩
theorem tI(k:NK):PlD (Zw k):=by
 have st:∀l:List Str,∀d∈l.map D.str,PlD d:=λl d h=>by obtain⟨x,_,rfl⟩:=av.mp h;exact .str x
 cases k with
 |inl l=>exact .tup (st l)
 |inr p=>
  refine .tup λd h=>?_;simp only[bj,List.not_mem_nil,or_false]at h;rcases h with rfl|rfl
  .exact .int _
  .exact .tup (st p.2)
theorem Dl(ks:List NK):PlD (.lst (ks.map Zw)):=.lst λd h=>by obtain⟨k,_,rfl⟩:=av.mp h;exact tI k
theorem oU(P):PlD (Oh P):=.lst λd h=>by
 obtain⟨g,_,rfl⟩:=av.mp h;refine .tup λd h=>?_;simp only[bj,List.not_mem_nil,or_false]at h;rcases h with rfl|rfl|rfl
 .exact Dl _
 .exact Dl _
 .refine .lst λd h=>?_;obtain⟨t,_,rfl⟩:=av.mp h;refine .tup λd h=>?_;simp only[bj,List.not_mem_nil,or_false]at h;rcases h with rfl|rfl|rfl
  .exact .str _
  .exact .str _
  .exact Dl _
theorem Shd.sk(s:Shd P vs):SkD (Zy (Gm P.length)) 101 (.dK (Zy (Gm P.length)) vs):=by
 refine⟨vs,rfl,by simp[s.len],λv hv=>?_⟩;obtain⟨i,hi,rfl⟩:=fj hv;have hp:i<P.length:=by rw[<-s.len];exact hi
 obtain⟨d,h1,z,ps,_,_,pl,e⟩:=s.all i _ (au hp);rw[au hi]at h1;rw[dg.inj h1,e];exact⟨z.2.1,Y0 ps,ps.map (·.2),rfl,by rw[aj];exact pl⟩
section
variable(a0 a1 a2 a3 a4 a5 a6 a7 a8 a9:Option SV)
theorem tH(h:SkD ks m d)(hx:(dn x:L2.Key)∈ks):∃δ,Gen.R9 [a0,a1,a2,a3,a4,a5,a6,a7,aA (.fz (.str x)),a9,aA (.fz d)]=aA (aD,δ):=by obtain⟨vs,rfl,hl,hv⟩:=h;obtain⟨v,IH,lk⟩:=xI hx hl;obtain⟨y,SX,ys,rfl,_⟩:=hv v IH;have t2:L2.atI [D.str y,.dK SX (ys.map D.str)] 1=aA (.dK SX (ys.map D.str)):=rfl;refine⟨[a0,a1,a2,a3,a4,a5,a6,a7,aA (.fz (.str x)),a9,aA (.fz (.dK ks vs))],?_⟩;generalize ys.map D.str=us at*;unfold Gen.R9;simp[-look,lk,t2]
theorem tG(he:Tu 48 (.dK ks vs) (.dK ks us)=aA aC):∃δ,Gen.R8 [a0,a1,a2,a3,a4,a5,a6,a7,a8,aA (.oK ks us),aA (.fz (.dK ks vs))]=aA (aD,δ):=by refine⟨[a0,a1,a2,a3,a4,a5,a6,a7,a8,aA (.oK ks us),aA (.fz (.dK ks vs))],?_⟩;unfold Gen.R8;simp[-Tu,he]
end
theorem oP(a0 a1 a2 a3 a4 a5 a7 a8)(hl:P.length<=34)(s:Shd P vs)(t:Shd P us)(e:Gen.Wp [Oh P]=aA (.oK (Zy (Gm P.length)) vs)):
  M7 10 8 1 Gen.Wp (Zg (Za 6) (Zr)) Gen.R8 (Za 9) Gen.R9 [a0,a1,a2,a3,a4,a5,aA (.fz (Oh P)),a7,a8,aA (.oK (Zy (Gm P.length)) us),aB]=aA (.nx [a0,a1,a2,a3,a4,a5,aA (.fz (Oh P)),a7,aB,aA (.fz (.dK (Zy (Gm P.length)) us)),aB]):=by
 refine lv (δ1:=[a0,a1,a2,a3,a4,a5,aA (.fz (Oh P)),a7,a8,aA (.oK (Zy (Gm P.length)) us),aB]) (δ3:=[a0,a1,a2,a3,a4,a5,aA (.fz (Oh P)),a7,a8,aA (.fz (.dK (Zy (Gm P.length)) us)),aB]) (is:=(Zy (Gm P.length)).map Bi) (ds:=[Oh P]) rfl e rfl ⟨rfl,λd hd=>by rw[ar.mp hd];exact oU P,by decide,by show 10<11;decide,by show 8<11;decide,Zy (Gm P.length),101,Zy (Gm P.length),s.sk,tG a0 a1 a2 a3 a4 a5 (aA (.fz (Oh P))) a7 a8 (yB hl s t),rfl,λ_ h=>h,?_,λk hk m d hd=>?_⟩
 .refine Yk ?_;simp;omega
 .obtain⟨x,_,rfl⟩:=av.mp hk;exact tH a0 a1 a2 a3 a4 a5 (aA (.fz (Oh P))) a7 (aA (.fz (.dK (Zy (Gm P.length)) us))) hd hk
theorem Vz(a0 a1 a2 a3 a4 a5 a7 a8)(ok:PoolOk P)(hk:∀h∈P,Gz h Y7):
  (Z4 (Yv 9 (Z5 1 Gen.Uz (Zc (Za 6) (Zl)))) (Z4 (M7 10 8 1 Gen.Wp (Zg (Za 6) (Zr)) Gen.R8 (Za 9) Gen.R9) (Qh (Zk eqY (Z5 1 Gen.Wp (Zc (Za 6) (Zl))) (Za 9))))) [a0,a1,a2,a3,a4,a5,aA (.ol (P.map Zz)),a7,a8,aB,aB]=aA (.rt (.fz (.bl aC))):=by
 obtain⟨vs,s,e⟩:=shelf_of P ok hk;obtain⟨us,t,e2⟩:=oY P ok hk;have q:=yB ok.len s t;have w:=oP a0 a1 a2 a3 a4 a5 a7 a8 ok.len s t e;refine Og (δ1:=[a0,a1,a2,a3,a4,a5,aA (.fz (Oh P)),a7,a8,aA (.oK (Zy (Gm P.length)) us),aB]) ?_ (Og w ?_)
 .unfold Oh at*;generalize P.map Zz=PD,Zy (Gm P.length)=LK at*;simp[e2]
 .generalize Oh P=PD,Zy (Gm P.length)=LK at*;simp[e,q,-Tu]
theorem Io(A0 A1 A2 A3 A4 A5 A6 A9 A10):∀(xs ks:List Str) x8,(ks++xs).Nodup->ks.length+xs.length<=100->∃y8,
  Yf (Zf 8) Gen.T3 (xs.map D.str) [A0,A1,A2,A3,A4,A5,A6,aA (.oK (Zy ((ks.map bare).map Wk.key)) ((ks.map bare).map Wk.d)),x8,A9,A10]=aA (.nx [A0,A1,A2,A3,A4,A5,A6,aA (.oK (Zy (((ks++xs).map bare).map Wk.key)) (((ks++xs).map bare).map Wk.d)),y8,A9,A10])
 | [],ks,x8,_,_=>⟨x8,by rw[List.append_nil];rfl⟩
 |x::xs,ks,x8,nd,hl=>by
  rw[aw]at hl;have hx:x∉(ks.map bare).map Wk.key:=λz=>by rw[cp]at z;exact(dh.mp nd).2.2 _ (by simpa using z) x ac rfl
  have pp:Y6 (Zy ((ks.map bare).map Wk.key)) ((ks.map bare).map Wk.d) (dn x) (.tup [.str Dj,.dK [] []])=(Zy (((ks++[x]).map bare).map Wk.key),((ks++[x]).map bare).map Wk.d):=by rw[Jv,Jw hx];simp[Wk.d,Vm]
  have z:((ks.map bare).map Wk.d).length<PySem.sizeLine:=Yk (by simp;omega);have hb:Gen.T3 [A0,A1,A2,A3,A4,A5,A6,aA (.oK (Zy ((ks.map bare).map Wk.key)) ((ks.map bare).map Wk.d)),aA (.fz (.str x)),A9,A10]=aA (.nx [A0,A1,A2,A3,A4,A5,A6,aA (.oK (Zy (((ks++[x]).map bare).map Wk.key)) (((ks++[x]).map bare).map Wk.d)),aA (.fz (.str x)),A9,A10]):=by unfold Gen.T3;exact Cf
  obtain⟨y8,ih⟩:=Io A0 A1 A2 A3 A4 A5 A6 A9 A10 xs (ks++[x]) (aA (.fz (.str x))) (by rw[ib];exact nd) (by simp;omega);rw[ib]at ih;exact⟨y8,(Jp (by simp) hb).trans ih⟩
theorem M3(ns:List Int)(k:Nat)(i)(h:(k:Int)=i):∃c,Gen.Yc [.lst (ns.map D.int),.int i]=aA (.fz (.int c)):=by subst h;exact nO ns k
theorem jZ(f g c):∃rs:List (List Str),rs.length<=2/\(∀r∈rs,r.length<=2)/\slD (.lst [.lst [.str f],.lst [.str g,.str Y7]]) aB (aA (c % 3))=aA (.ol (rs.map Y9)):=by
 have h0:0<=c % 3:=Int.emod_nonneg _ (by decide);have h1:c % 3<3:=ij _ (by decide);obtain⟨m,hm⟩:∃m:Nat,(m:Int)=c % 3:=⟨(c % 3).toNat,by omega⟩
 rw[<-hm];refine⟨[[f],[g,Y7]].take m,by simp;omega,λr hr=>?_,?_⟩
 .have:=List.mem_of_mem_take hr;simp only[bj,List.not_mem_nil,or_false]at this;rcases this with rfl|rfl<;> simp
 .show aA (SV.ol (Ap _ aB (aA (m:Int))))=_;rw[qJ _ m (by simp;omega),List.map_take];rfl
theorem jY(ns:List Int):∃cs:List Int,Ap (ns.map D.int) (aA 6) (aA 18)=cs.map D.int/\cs.length<=12:=by
 obtain⟨ms,e,l⟩:=oq ns (aA 6) (aA 18);refine⟨ms,e,?_⟩;have:(Ap (ns.map D.int) (aA 6) (aA 18)).length<=12:=by unfold Ap HT.sIx;simp;omega
 rw[e,aj]at this;exact this
theorem law_true(ns:List Int)(X_:ns.length<=63):Gen.KA [.lst (ns.map D.int)]=aA (.fz (.bl aC)):=by
 obtain⟨c0,e0⟩:=M3 ns 0 0 rfl;obtain⟨c1,e1⟩:=M3 ns 1 1 rfl;obtain⟨c2,e2⟩:=M3 ns 2 2 rfl;obtain⟨c3,e3⟩:=M3 ns 3 3 rfl;obtain⟨c4,e4⟩:=M3 ns 4 4 rfl;obtain⟨c5,e5⟩:=M3 ns 5 5 rfl;have m0:=Vg c0 16807;have m1:=Vg c1 16807;have m2:=Vg c2 16807;have m5:=Vg c5 39373;obtain⟨bs,n0,bl,bn,bN⟩:=Ma _ (T4 c0 16807) 3 (by omega);obtain⟨ks,n1,kl,kn,kN⟩:=Ma _ (T4 c1 16807) 6 (by omega);obtain⟨F,n2,fl,fn,fN⟩:=Ma _ (T4 c2 16807) 3 (by omega);obtain⟨T,n5,tl,tn,tN⟩:=Ma _ (T4 c5 39373) 22 (by omega);generalize c0 % 2147483647*16807 % 2147483647=x0,c1 % 2147483647*16807 % 2147483647=x1,c2 % 2147483647*16807 % 2147483647=x2,c5 % 2147483647*39373 % 2147483647=x5 at*;have n0:Gen.Yx [.int x0,.int 3]=_:=n0;have n1:Gen.Yx [.int x1,.int 6]=_:=n1;have n2:Gen.Yx [.int x2,.int 3]=_:=n2;have n5:Gen.Yx [.int x5,.int 22]=_:=n5;obtain⟨rs,rl,r2,rc⟩:=jZ (F[0]'(by omega)) (F[1]'(by omega)) c3;have f0:L2.atI (F.map D.str) 0=aA (.str (F[0]'(by omega))):=Mx (n:=0) (by omega);have f1:L2.atI (F.map D.str) 1=aA (.str (F[1]'(by omega))):=Mx (n:=1) (by omega);generalize F[0]'(by omega)=g0,F[1]'(by omega)=g1 at*;obtain⟨cs,cc,cl⟩:=jY ns;have w0:0<=c4 % 9:=Int.emod_nonneg _ (by decide);have w1:c4 % 9<9:=ij _ (by decide);obtain⟨wd,hw⟩:∃n:Nat,(n:Int)=2+c4 % 9:=⟨(2+c4 % 9).toNat,by omega⟩
 obtain⟨A,B,ab,es⟩:=Vp ks F kl kn fl fn fN cs cl wd (by omega) (by omega);rw[hw]at es;obtain⟨W,hW,pW⟩:=lK F (ks++[SB]) fl (by simp[kl]);have oA:=ab A (by simp);have oB:=ab B (by simp);obtain⟨P,p,ep⟩:=xK hW pW rs rl r2 (bs[0]'(by omega)) A oA.2.1 oA.1 oA.2.2;obtain⟨Q,q,eq⟩:=xK hW pW rs rl r2 (bs[1]'(by omega)) B oB.2.1 oB.1 oB.2.2;obtain⟨R,r,er⟩:=xM hW (by omega) (by omega) p q;obtain⟨U,u,eu⟩:=oV hW pW rs rl r2 (bs[2]'(by omega)) T tn (by omega);obtain⟨V,v,uT⟩:=xM hW (by omega) (by omega) r u;have b0:L2.atI (bs.map D.str) 0=aA (.str (bs[0]'(by omega))):=Mx (n:=0) (by omega);have b1:L2.atI (bs.map D.str) 1=aA (.str (bs[1]'(by omega))):=Mx (n:=1) (by omega);have b2:L2.atI (bs.map D.str) 2=aA (.str (bs[2]'(by omega))):=Mx (n:=2) (by omega);generalize bs[0]'(by omega)=k0,bs[1]'(by omega)=k1,bs[2]'(by omega)=k2 at*;have u0:∀a b:D,L2.atI [a,b] 0=aA a:=λ_ _=>rfl;have u1:∀a b:D,L2.atI [a,b] 1=aA b:=λ_ _=>rfl;obtain⟨w5,kR⟩:=xJ hW (by omega) r;obtain⟨wz,kV⟩:=xJ hW (by omega) v;obtain⟨y8,lo⟩:=Io (aA (.fz (.lst (ns.map D.int)))) (aA (.ol (bs.map D.str))) (aA (.fz (.lst (ks.map D.str)))) (aA (.fz (.lst (F.map D.str)))) (aA (.fz (.lst (rs.map Y9)))) (aA (.fz (.lst [Y8 A,Y8 B]))) (aA (.ol (R.map Zz))) aB aB T [] aB tn (by simp;omega);unfold Gen.KA Gen.FR;refine z_ ?_;refine Og (δ1:=[aA (.fz (.lst (ns.map D.int))),aA (.ol (bs.map D.str)),aB,aB,aB,aB,aB,aB,aB,aB,aB]) ?_ ?_
 .exact Cf
 refine Og (δ1:=[aA (.fz (.lst (ns.map D.int))),aA (.ol (bs.map D.str)),aA (.ol (ks.map D.str)),aB,aB,aB,aB,aB,aB,aB,aB]) ?_ ?_
 .exact Cf
 refine Og (δ1:=[aA (.fz (.lst (ns.map D.int))),aA (.ol (bs.map D.str)),aA (.ol (ks.map D.str)),aA (.ol (F.map D.str)),aB,aB,aB,aB,aB,aB,aB]) ?_ ?_
 .exact Cf
 refine Og (δ1:=[aA (.fz (.lst (ns.map D.int))),aA (.ol (bs.map D.str)),aA (.ol (ks.map D.str)),aA (.ol (F.map D.str)),aA (.ol (rs.map Y9)),aB,aB,aB,aB,aB,aB]) ?_ ?_
 .generalize rs.map Y9=RD at rc⊢;generalize F.map D.str=FD at f0 f1⊢;generalize ns.map D.int=ND at e3⊢;simp[e3,f0,f1,s1,s2,rc,-slD]
 refine Og (δ1:=[aA (.fz (.lst (ns.map D.int))),aA (.ol (bs.map D.str)),aA (.fz (.lst (ks.map D.str))),aA (.fz (.lst (F.map D.str))),aA (.ol (rs.map Y9)),aA (.fz (.lst [Y8 A,Y8 B])),aB,aB,aB,aB,aB]) ?_ ?_
 .rw[<-cc]at es;exact Cf
 refine Og (δ1:=[aA (.fz (.lst (ns.map D.int))),aA (.ol (bs.map D.str)),aA (.fz (.lst (ks.map D.str))),aA (.fz (.lst (F.map D.str))),aA (.fz (.lst (rs.map Y9))),aA (.fz (.lst [Y8 A,Y8 B])),aA (.ol (R.map Zz)),aB,aB,aB,aB]) ?_ ?_
 .unfold Oh at er;exact Cf
 by_cases h5:c5 % 4=1
 .refine Og (δ1:=[aA (.fz (.lst (ns.map D.int))),aA (.ol (bs.map D.str)),aA (.fz (.lst (ks.map D.str))),aA (.fz (.lst (F.map D.str))),aA (.fz (.lst (rs.map Y9))),aA (.fz (.lst [Y8 A,Y8 B])),aA (.ol (V.map Zz)),aA (.fz (Y8 (T.map bare))),y8,aB,aB]) ?_ (Vz _ _ _ _ _ _ _ _ wz kV);rw[gq,show Zy ((([]:List Str).map bare).map Wk.key)=[]from rfl,show((([]:List Str).map bare).map Wk.d)=[]from rfl]at lo;unfold Oh at uT;unfold Y8 at eu⊢;exact Cf
 .refine Og (δ1:=[aA (.fz (.lst (ns.map D.int))),aA (.ol (bs.map D.str)),aA (.fz (.lst (ks.map D.str))),aA (.fz (.lst (F.map D.str))),aA (.fz (.lst (rs.map Y9))),aA (.fz (.lst [Y8 A,Y8 B])),aA (.ol (R.map Zz)),aB,aB,aB,aB]) ?_ (Vz _ _ _ _ _ _ _ _ w5 kR);exact Cf
end My
end
end Lake
open Lake
namespace PySem.W.Fast
def tw16746581143323820906:=()
def tw9312042028890466178:=()
def tw760453746297901363:=()
def tw6886173296113389264:=()
def tw2001348444557106504:=()
def tw365676371770372940:=()
def tw7393101241705702136:=()
def tw17366621714235236409:=()
def tw5150767343580545973:=()
def tw6827673667838167232:=()
def tw12631901746454211028:=()
def tw1486414150133658556:=()
def tw16278255287380893826:=()
def tw7108443136378079297:=()
def tw10037195001762084933:=()
def tw7081762822877866748:=()
def tw14052122001223865166:=()
def tw2941866791203740423:=()
def tw11549953171576727995:=()
def tw8520205249424517895:=()
def tw13396456744944048544:=()
def tw10507260260296828545:=()
def tw10018891102905128362:=()
def tw7105284272274839642:=()
def tw15657051106271606179:=()
def tw8265176587339129079:=()
def tw2865052101360543125:=()
def tw12222117000184071008:=()
def tw4323221396698107143:=()
def tw17323226257011795637:=()
def tw11967486185220118953:=()
def tw14758549560377525664:=()
def tw10630987690393801644:=()
def tw12245510497925861113:=()
def tw8170686179589390671:=()
def tw4497313836854903233:=()
def tw3642744465094184358:=()
def tw11677798409223176072:=()
def tw2348495465850472404:=()
def tw13565154518595119024:=()
def tw4997115044233494646:=()
def tw17591248463679408570:=()
def tw6136705177815325134:=()
def tw22576041808985078:=()
def tw5415838845853909047:=()
def tw13661129176076404789:=()
def tw8804737654891030749:=()
def tw968144363084118891:=()
def tw5293614411696334753:=()
def tw14168977812773075109:=()
def tw13821351106533111284:=()
def tw5730642572701560074:=()
def tw3151100050384022347:=()
def tw17064335558446753256:=()
def tw7531349421674344151:=()
def tw2662677644977131068:=()
def tw17331190544780491937:=()
def tw5461970810240073169:=()
def tw12004448105305820129:=()
def tw6920823796213731051:=()
def tw11229729128653291645:=()
def tw3194556117192555627:=()
def tw3452331102645074354:=()
def tw17354521484287082659:=()
def tw2168059231833264387:=()
def tw2720608002797385363:=()
def tw13656131410613277158:=()
def tw15170664587274352176:=()
def tw13146142644237763283:=()
def tw13532543028886916720:=()
def tw16262713676313707496:=()
def tw2128029374050481408:=()
def tw4344514950870958308:=()
def tw1091262279769535139:=()
def tw14429792986693986073:=()
def tw4820905265032885442:=()
def tw9904482095833882694:=()
def tw4808833734179007839:=()
def tw13985387990821576672:=()
def tw2724798796413664498:=()
def tw10947626139678962028:=()
def tw8063770250013535161:=()
def tw5374550285677059050:=()
def tw13297725748120383487:=()
def tw11262415624232004009:=()
def tw2432989661983095894:=()
def tw10799090555927128449:=()
def tw16123133287889690599:=()
def tw2391494948057092601:=()
def tw5455323324022102904:=()
def tw6769194799417956800:=()
def tw12754487569182091967:=()
def tw12461192288682158922:=()
def tw11939143278215884409:=()
def tw11165876609654251927:=()
def tw207622000767968940:=()
def tw8828155205805348110:=()
def tw5140289572708236170:=()
def tw1466208439228629103:=()
def tw6225630476378204193:=()
def tw12416779590813944783:=()
def tw3394769702041812286:=()
def tw15549477447642474280:=()
end PySem.W.Fast
open PySem.W
set_option maxRecDepth 100000 in
set_option maxHeartbeats 0 in
theorem PySem.Challenge.cw_citeward_k41_pools_as_shelves_holds : PySem.Challenge.rw_citeward_k41_pools_as_shelves.Holds := by
  w_on; o_law; k_head; (case hw => w_witness2)
  k_fill
  refine L2.i_ (l := PySem.Challenge.rw_citeward_k41_pools_as_shelves) (c0 := 99) (tq := 97) rfl rfl (fun w h Y => ⟨PySem.W.km_in_of Y, PySem.W.km_tabs_of Y 97 (by simp)⟩) (fun _ => by kernel_rfl) (fun _ => by kernel_rfl) ⟨rfl, by decide, by decide⟩ My.law_true fun w mg fa h X G m => Gen.gJ (c0 := 99) ?_ m (by kernel_rfl)
  constructor <;> first | exact PySem.W.mg_of X G | exact PySem.W.mg_none_of X G (by k_is) | exact ⟨_, _, by k_is, L2.gK (by k_is) (by k_is) (by k_is)⟩ | exact ⟨_, _, by k_is, L2.gN (by k_is) (by k_is) (by k_is)⟩ | exact ⟨_, by k_is⟩
