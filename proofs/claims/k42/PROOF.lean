import PyProof.Rows.All
import Wide.All
import OpenK.AllK
import Wide.FinOn
import Lean
import PyProof.EqAt
import PyProof.EqKinds
import PyProof.TupleCall
import PyProof.NeKinds
import PyProof.EnumMake
import PyProof.ConsumeWalk
import PyProof.StrWalks
import PyProof.WalksMore
import PyProof.StrLawsNeg
import KE.KDictList
import KE.KLam
import KE.KMinKey
import KE.KSortTup
import KE.KUnpack
import PySem.Challenge.RW_citeward_k42_whole_no_work_is_lost
set_option Elab.async false
set_option linter.all false
set_option genSizeOf false
set_option genSizeOfSpec false
set_option maxRecDepth 100000
set_option maxHeartbeats 4000000
open PySem renaming wpAny_bind->aa,wpAny_pure->ad,Value->ag,Shared->am,Addr->au,starEach->bd,wpAny->bh,model->b9,sizeLine->cf,Program->cg,Expr->da,Around->dg,World->dn,wpAny_call_entry->d8,wpAny_loadPart'->fg,SetTable->fj,Heap->f8,cLine->f9,backTo->gd,wpAny_holding->gn,sizeLine_eq->gp,wpAny_newObj_type->g7,wpAny_mono->g9,wpAny_callSpecial?_slot->ij,compareOp->ik,eval->ip,codeAny_builtin->ir
open List renaming mem_cons_self->ac,length_map->ah,mem_singleton->aj,mem_cons_of_mem->ao,getElem?_eq_getElem->ar,length_append->av,getElem?_eq_some_iff->aw,mem_map->ax,map_cons->ay,getElem?_map->az,length_cons->bc,getD_eq_getElem?_getD->bg,mem_append->bo,mem_append_right->bp,size_toArray->bq,mem_append_left->bu,mem_of_getElem?->bz,mem_cons->b7,map_append->b8,getElem?_append_left->ci,map_map->cp,nodup_append->cz,range->c6,nodup_nil->c7,mem_range->c8,getElem?_append_right->dr,pairwise_map->du,not_lt->dw,getElem_of_mem->dy,getElem?_eq_none->d3,nil_append->d4,append_assoc->d7,nodup_cons->eh,length_singleton->fu,getElem?_set_self->gh,getElem_mem->gz,getElem?_set_ne->g8,lt_irrefl->im,exists_cons_of_ne_nil->io
open PySem.W renaming Frag->af
open PySem.Heap renaming get?_push_of_some->aq,get?_push_size->bi,lt_size->bj,SameBut->gm,get?_update_self->ig
open Array renaming length_toList->ba,getElem?_toList->dh,getElem?_eq_some_iff->gu
open Nat renaming le_refl->bf,ne_of_lt->cj,lt_of_lt_of_le->df,le_trans->dm,lt_or_ge->dv,not_lt_zero->f6,zero_le->gq,lt_of_le_of_lt->ib
open Bool renaming false_ne_true->bv,false_eq_true->bx,not_true->ie
open Option renaming bind_some->cm,map_eq_some_iff->cu,bind_eq_some_iff->di,some->dq
open PySem.PassesOwn renaming never->cq
open PySem.Value renaming ref->cr,none->de
open Sum renaming inr->cw
open List.Nodup renaming length_le_of_subset->c9
open PySem.Str renaming ofString->dz
open PyProof.Rows renaming seqObj->d5
open PySem.Obj renaming mapSeq->d6
open PySem.Builtin.Str renaming occurrences->fq
open Int renaming emod_lt_of_pos->f7,emod_nonneg->g6
open PySem.Around renaming under_plainId->gr
open PySem.NameKind renaming free->gx
open PySem.Heap.SameBut renaming update->ii
open PySem.F renaming slot_dict_keyiterator_next->iq
open Option renaming some->aA,none->aB
open Bool renaming true->aC,false->aD
theorem dF.{u}{c:Prop}{h:Decidable c}(n:¬c){α:Sort u}{t e:α}:@ite α c h t e=e:=if_neg n
theorem dG.{u}{c:Prop}{h:Decidable c}(n:c){α:Sort u}{t e:α}:@ite α c h t e=t:=if_pos n
theorem dH{p:Prop}[Decidable p](h:¬p):decide p=false:=decide_eq_false h
theorem dJ{p:Prop}[Decidable p](h:p):decide p=true:=decide_eq_true h
theorem dL{p:Prop}[Decidable p](h:decide p=true):p:=of_decide_eq_true h
theorem dM{a b:Prop}(h:a)(g:¬a):b:=absurd h g
theorem zqA(h:True:=by first|rfl|exact Or.inl rfl|exact Or.inr (Or.inl rfl)|exact Or.inr (Or.inr rfl)|exact Or.inr rfl|(intro _;rfl)|(intro _ _;rfl)|assumption|decide+kernel|exact⟨rfl,rfl,rfl,rfl⟩|(refine⟨by constructor<;>first|rfl|decide+kernel,?_,rfl⟩;intro _ _ _ _ _ _ us hl;(first|refine of1 ?_ us hl|refine of2 ?_ us hl|refine of3 ?_ us hl|refine of4 ?_ us hl|refine of5 ?_ us hl);intros;rfl)|(apply Lb<;>rfl)|(apply zU<;>rfl)):True:=h
local macro_rules |`(‹$t›)=>`(autoParam $t zqA._auto_1)
set_option compiler.extract_closed false
open PySem PySem.Spec PyProof.Rows
set_option bootstrap.genMatcherCode false
noncomputable section
namespace Lake
namespace L2
theorem eK.{u,v}{α:Type u}{β:Type v}{o:Option α}{f:α->Option β}{r:β}{G:Prop}(e:o.bind f=aA r)(k:∀a,o=aA a->f a=aA r->G):G:=let⟨a,b,c⟩:=di.mp e;k a b c
theorem eL.{u,v,w}{α:Type u}{γ:Type w}{β:Type v}{o:Option (α×γ)}{f:α×γ->Option β}{r:β}{G:Prop}(e:o.bind f=aA r)(k:∀a b,o=aA (a,b)->f (a,b)=aA r->G):G:=let⟨(a,b),c,d⟩:=di.mp e;k a b c d
theorem Qi{G:Prop}(h:p/\q/\r/\s/\t/\u)(f:p->q->r->s->t->u->G):G:=let⟨x,y,z,m,n,k⟩:=h;f x y z m n k
theorem Zp{p q r:A->Prop}{G:Prop}(h:∃a,p a/\q a/\r a)(f:∀a,p a->q a->r a->G):G:=let⟨a,x,y,z⟩:=h;f a x y z
theorem W1{p q:A->B->Prop}{G:Prop}(h:∃a b,p a b/\q a b)(f:∀a b,p a b->q a b->G):G:=let⟨a,b,x,y⟩:=h;f a b x y
theorem Y9{p q r:A->B->Prop}{G:Prop}(h:∃a b,p a b/\q a b/\r a b)(f:∀a b,p a b->q a b->r a b->G):G:=let⟨a,b,x,y,z⟩:=h;f a b x y z
theorem Cu{p q r s:A->B->Prop}{G:Prop}(h:∃a b,p a b/\q a b/\r a b/\s a b)(f:∀a b,p a b->q a b->r a b->s a b->G):G:=let⟨a,b,x,y,z,m⟩:=h;f a b x y z m
theorem Ox{p q r:A->B->C->D->Prop}{G:Prop}(h:∃a b c d,p a b c d/\q a b c d/\r a b c d)(f:∀a b c d,p a b c d->q a b c d->r a b c d->G):G:=let⟨a,b,c,d,x,y,z⟩:=h;f a b c d x y z
theorem Yx{p q r:A->B->C->D->E->Prop}{G:Prop}(h:∃a b c d e,p a b c d e/\q a b c d e/\r a b c d e)(f:∀a b c d e,p a b c d e->q a b c d e->r a b c d e->G):G:=let⟨a,b,c,d,e,x,y,z⟩:=h;f a b c d e x y z
theorem G6{p q r s t:A->B->C->D->E->Prop}{G:Prop}(h:∃a b c d e,p a b c d e/\q a b c d e/\r a b c d e/\s a b c d e/\t a b c d e)(f:∀a b c d e,p a b c d e->q a b c d e->r a b c d e->s a b c d e->t a b c d e->G):G:=let⟨a,b,c,d,e,x,y,z,m,n⟩:=h;f a b c d e x y z m n
noncomputable abbrev Key:=Sum Int Str
noncomputable def G7:Key->ag->Bool
 | .inl k,v=>Value.isInt k v
 | .inr x,v=>Value.isStrOf x v
noncomputable def tX(w:dn):Key->Int
 | .inl k=>hashInt k
 | .inr x=>hashStr w x
theorem Ye:∀{k:Key} {v:ag},G7 k v=aC->(∃i t,k=Sum.inl i/\v=Value.int i t)\/(∃x t,k=cw x/\v=Value.str x t)
 | .inl i,v,h=>by obtain⟨t,e⟩:=Value.isInt_shape (k:=i) (v:=v) h;exact .inl ⟨i,t,rfl,e⟩
 | .inr x,v,h=>by obtain⟨t,e⟩:=Value.isStrOf_shape (x:=x) (v:=v) h;exact .inr ⟨x,t,rfl,e⟩
theorem iZ(i t):G7 (.inl i) (.int i t)=aC:=by simp[G7,Value.isInt]
theorem iY(x t):G7 (.inr x) (.str x t)=aC:=by simp[G7,Value.isStrOf]
theorem oi(a b):decide ((Sum.inl a:Key)=Sum.inl b)=(a==b):=by
 by_cases e:a=b
 .subst e;simp
 .have h:¬(Sum.inl a:Key)=Sum.inl b:=λq=>e (Sum.inl.inj q);rw[dH h];exact(beq_eq_false_iff_ne.mpr e).symm
theorem oh(a b):decide ((cw a:Key)=cw b)=decide (a=b):=by
 by_cases e:a=b
 .subst e;simp
 .have h:¬(cw a:Key)=cw b:=λq=>e (cw.inj q);rw[dH h,dH e]
theorem og(a b):decide ((Sum.inl a:Key)=cw b)=aD:=dH (λq=>nomatch q)
theorem oe(a b):decide ((cw a:Key)=Sum.inl b)=aD:=dH (λq=>nomatch q)
def Zs(prog:cg)(w:dn):PySem.KeyKind prog w Key where
 is:=G7
 hash:=tX w
 inj:=λv a b ha hb=>by
  rcases Ye ha with⟨i,t,rfl,rfl⟩|⟨x,t,rfl,rfl⟩
  .rcases Ye hb with⟨j,u,rfl,e⟩|⟨y,u,rfl,e⟩
   .injection e with e1 _;rw[e1]
   .exact nomatch e
  .rcases Ye hb with⟨j,u,rfl,e⟩|⟨y,u,rfl,e⟩
   .exact nomatch e
   .injection e with e1 _;rw[e1]
 byValue:=λk v h=>by rcases Ye h with⟨i,t,rfl,rfl⟩|⟨x,t,rfl,rfl⟩<;> rfl
 pyHash:=λhv h=>by
  rcases Ye hv with⟨i,t,rfl,rfl⟩|⟨x,t,rfl,rfl⟩
  .exact wpAny_pyHash_int h
  .exact wpAny_pyHash_str h
 eqBool:=λhu hv h=>by
  rcases Ye hu with⟨i,t,rfl,rfl⟩|⟨x,t,rfl,rfl⟩
  .rcases Ye hv with⟨j,u,rfl,rfl⟩|⟨y,u,rfl,rfl⟩
   .rw[oi]at h;exact wpAny_eqBool_int h
   .rw[og]at h;exact SeqAt.EqAt.int_str i t y u _ _ _ _ h
  .rcases Ye hv with⟨j,u,rfl,rfl⟩|⟨y,u,rfl,rfl⟩
   .rw[oe]at h;exact SeqAt.EqAt.str_int x t j u _ _ _ _ h
   .rw[oh]at h;exact wpAny_eqBool_str h
 «strs»:=λk x t v h=>by
  rcases Ye h with⟨i,u,rfl,e⟩|⟨y,u,rfl,e⟩
  .exact nomatch e
  .injection e with e1 _;subst e1;cases v<;> rfl
theorem fW(prog w k v):(Zs prog w).is k v=G7 k v:=rfl
theorem Se(prog w i t):(Zs prog w).is (.inl i) (.int i t)=aC:=iZ i t
theorem Sf(prog w x t):(Zs prog w).is (.inr x) (.str x t)=aC:=iY x t
noncomputable abbrev Zo:=Sum (List Str) (Int×List Str)
noncomputable def G8(l:List Str):List Key:=l.map cw
theorem Nk(h:G8 a=G8 b):a=b:=by
 induction a generalizing b with
 |nil=>cases b with
  |nil=>rfl
  |cons y b=>simp[G8]at h
 |cons x a ih=>cases b with
  |nil=>simp[G8]at h
  |cons y b=>simp only[G8,ay,List.cons.injEq]at h;rw[cw.inj h.1,ih h.2]
theorem D8(a b):decide (G8 a=G8 b)=decide (a=b):=by
 by_cases e:a=b
 .rw[e];simp
 .rw[dH e,dH λz=>e (Nk z)]
def Bl(prog:cg)(w:dn)(h:f8):Zo->au->Prop
 | .inl l,a=>IsTupleKey (Zs prog w) h (G8 l) a
 | .inr (n,l),a=>∃o eD m t b,h.get? a=aA o/\o.cls= .type "tuple"/\o.data= .seq eD m/\eD.toList=[.int n t,.ref b]/\IsTupleKey (Zs prog w) h (G8 l) b
noncomputable def Yo(prog:cg)(w:dn):Zo->Int
 | .inl l=>tupleKeyHash (Zs prog w) (G8 l)
 | .inr (n,l)=>reduceHash (Builtin.Tuple.tupleHashOf [hashInt n,tupleKeyHash (Zs prog w) (G8 l)])
noncomputable def Ee:Zo->Nat
 | .inl l=>(G8 l).length+1
 | .inr (_,l)=>1+((G8 l).length+1)+1
theorem Bl.typeIs{s:am}(x:Bl prog w s.heap k a):s.TypeIs (.ref a) "tuple":=by
 cases k with
 |inl l=>exact IsTupleKey.typeIs (show IsTupleKey (Zs prog w) s.heap (G8 l) a from x)
 |inr p=>refine Yx x λo _ _ _ _ ho hc _=>?_;exact⟨o,ho,hc⟩
theorem Ef(h:ItemsAre (Zs prog w) (G8 l) (.int n t::vs)):False:=by
 cases l with
 |nil=>cases h
 |cons x l=>
  cases h with
  |cons h1 _=>
   rcases Ye (k:=.inr x) (v:=.int n t) h1 with⟨_,_,e,_⟩|⟨_,_,_,e⟩
   .cases e
   .cases e
theorem Bl.inj(hx:Bl prog w h x a)(hy:Bl prog w h y a):x=y:=by
 have DZ:∀{l:List Str} {n:Int} {l2:List Str},Bl prog w h (.inl l) a->Bl prog w h (.inr (n,l2)) a->False:=fun{l n l2} h1 h2=>by obtain⟨o,eD,m,ho,_,hd,hi⟩:=h1;refine G6 h2 λo' RF m' t b YR _ XI e _=>?_;obtain rfl:o=o':=dq.inj (ho.symm.trans YR);rw[hd]at XI;injection XI with z _;subst z;rw[e]at hi;exact Ef hi
 cases x with
 |inl l=>cases y with
  |inl l2=>rw[Nk (IsTupleKey.inj (show IsTupleKey (Zs prog w) h (G8 l) a from hx) hy)]
  |inr p=>exact(DZ hx hy).elim
 |inr p=>cases y with
  |inl l2=>exact(DZ hy hx).elim
  |inr q=>obtain⟨n,l⟩:=p;obtain⟨n2,l2⟩:=q;refine G6 hx λo eD m t b ho _ hd e hb=>?_;refine G6 hy λo' RF m' t' b' YR _ XI e' ZZ=>?_;obtain rfl:o=o':=dq.inj (ho.symm.trans YR);rw[hd]at XI;injection XI with z _;subst z;rw[e]at e';injection e' with e1 e2;injection e1 with e1 _;injection e2 with e2 _;injection e2 with e2;subst e1 e2;rw[Nk (hb.inj ZZ)]
theorem Bl.keeps (x:Bl prog w h k a)(ho:h.get? d=aA o)(hd:o.data= .dict es ep)(hs:gm d h h'):Bl prog w h' k a:=by
 cases k with
 |inl l=>exact IsTupleKey.keeps (show IsTupleKey (Zs prog w) h (G8 l) a from x) ho hd hs
 |inr p=>
  refine G6 x λo' eD m t b YR hc XI e hb=>?_;have VU:a≠d:=by rintro rfl;obtain rfl:o'=o:=dq.inj (YR.symm.trans ho);rw[hd]at XI;exact nomatch XI
  exact⟨o',eD,m,t,b,(hs.2 a VU).trans YR,hc,XI,e,hb.keeps ho hd hs⟩
theorem Bl.mono(x:Bl prog w h k a)(hk:∀b o,h.get? b=aA o->h'.get? b=aA o):Bl prog w h' k a:=by
 cases k with
 |inl l=>obtain⟨o,eD,m,ho,r⟩:=x;exact⟨o,eD,m,hk _ _ ho,r⟩
 |inr p=>obtain⟨o,eD,m,t,b,ho,hc,hd,e,⟨o2,i2,m2,XN,r2⟩⟩:=x;exact⟨o,eD,m,t,b,hk _ _ ho,hc,hd,e,o2,i2,m2,hk _ _ XN,r2⟩
theorem y_(hu:A.units+1<f9)(hk:Bl prog w s.heap k a)(h:Q (Yo prog w k) {s with toks:=s.toks+Ee k}):bh (b9 prog w) A (pyHash (.ref a)) Q E s:=by
 cases k with
 |inl l=>exact wpAny_pyHash_tuple (knd:=Zs prog w) (by omega) hk h
 |inr p=>
  have hT:=hk.typeIs;obtain⟨n,l⟩:=p;refine G6 hk λo eD m t b ho _ hd hi hb=>?_;unfold pyHash
  first|unfold pyHashByItsType|skip
  first|refine aa (wpAny_cRoomFor_or (.inr (by omega)) ?_)|skip
  refine aa (wpAny_specialOf hT F.slot_tuple_hash.lookup ?_);show bh _ _ (if(aA (Value.builtin "tuple.__hash__")==aA de)=aC then _ else _) Q E s;rw[dF (by rw[beq_builtin_none];exact bv)];refine aa (wpAny_specialOf hT F.slot_tuple_hash.lookup ?_);show bh _ _ (callSpecialIfBoundUnlessNone? (.ref a) "__hash__" _ >>=_) Q E s;refine aa (wpAny_callSpecialIfBoundUnlessNone?_slot hT F.slot_tuple_hash (d8 F.slot_tuple_hash hT F.entry_tuple_hash ?_ (F.args_tuple_hash_1 _)));show bh _ _ (Builtin.Tuple.tupleItemsOf (.ref a) >>=_) _ _ s;refine aa (wpAny_tupleItemsOf ho hd ?_);refine aa ?_;rw[<-Array.forIn_toList,hi];simp only[List.forIn_cons,List.forIn_nil];have ve:A.in1.units<cLine:=hu;refine aa (aa (wpAny_pyHash_int ?_));refine ad ?_;dsimp only;refine aa (aa (wpAny_pyHash_tuple (knd:=Zs prog w) (s:={s with toks:=s.toks+1}) ve hb ?_));refine ad ?_;refine ad ?_;generalize hg:tupleKeyHash (Zs prog w) (G8 l)=g at h⊢;show bh _ _ (retInt (Builtin.Tuple.tupleHashOf [hashInt n,g])) _ _ _;refine wpAny_ret_mkInt ?_;unfold Yo at h;dsimp only at h;rw[hg]at h;generalize Builtin.Tuple.tupleHashOf [hashInt n,g]=z at h⊢;show bh _ _ (if(decide (-(2:Int)^63<=z)&&decide (z<2^63))=aC then _ else _) Q E _;unfold reduceHash at h;by_cases hr:(decide (-(2:Int)^63<=z)&&decide (z<2^63))=aC
  .rw[dG hr];rw[dG hr]at h;exact ad (by simpa[Ee,Nat.add_assoc]using h)
  .rw[dF hr];rw[dF hr]at h;exact aa (wpAny_rule (ad (by simpa[Ee,Nat.add_assoc]using h)))
theorem iX(hu:A.units<f9)(hx:Bl prog w s.heap x a)(hy:Bl prog w s.heap y b)(h:P (.done (.ret (.bool (decide (x=y))))) s):
  bh (b9 prog w) A (Builtin.«tuple.__eq__» ⟨[.ref a,.ref b],[]⟩) P E s:=by
 have ID:∀(x:Str) (tx:Tok) (n:Int) (tn:Tok) {Q:Bool->am->Prop},Q aD s->bh (b9 prog w) A (eqBool (.str x tx) (.int n tn)) Q E s:=λx tx n tn Q q=>SeqAt.EqAt.str_int x tx n tn _ _ _ _ q;have IE:∀(x:Str) (tx:Tok) (n:Int) (tn:Tok) {Q:Bool->am->Prop},Q aD s->bh (b9 prog w) A (eqBool (.int n tn) (.str x tx)) Q E s:=λx tx n tn Q q=>SeqAt.EqAt.int_str n tn x tx _ _ _ _ q;have hTb:=hy.typeIs;cases x with
 |inl l=>cases y with
  |inl l2=>
   refine tuple_eq_tree (knd:=Zs prog w) (x:=G8 l) (y:=G8 l2) hx hy ?_;rw[D8];have:decide ((Sum.inl l:Zo)=Sum.inl l2)=decide (l=l2):=by
    by_cases e:l=l2
    .rw[e];simp
    .rw[dH e,dH λz=>e (Sum.inl.inj z)]
   rw[this]at h;exact h
  |inr p=>
   obtain⟨n,l2⟩:=p;obtain⟨oa,xs,na,OY,_,NO,VY⟩:=hx;refine G6 hy λob ys nb t c TV _ YO e hc=>?_;have hf:decide ((Sum.inl l:Zo)=cw (n,l2))=aD:=dH λz=>nomatch z;rw[hf]at h;show bh _ _ (isInstance (.ref b) (.type "tuple") >>=_) _ _ s;refine aa (wpAny_isInstance hTb isSubtype_tuple_tuple ?_);simp only[ie,bx,if_false];refine aa (wpAny_tupleItemsOf OY NO ?_);refine aa (wpAny_tupleItemsOf TV YO ?_);rw[e];have sy:ys.size=2:=by rw[<-ba,e];rfl
   cases l with
   |nil=>
    generalize hxs:xs.toList=vs at VY;cases VY;have sx:xs.size=0:=by rw[<-ba,hxs];rfl
    simp only[List.zip_nil_left,List.forIn_nil];refine aa (ad ?_);refine ad ?_;show P (.done (.ret (.bool (xs.size==ys.size)))) s;rw[sx,sy];exact h
   |cons x l=>
    generalize hxs:xs.toList=vs at VY;cases VY with
    | @cons _ v _ vs h1 _=>
     rcases Ye (k:=.inr x) (v:=v) h1 with⟨_,_,z,_⟩|⟨_,tx,z,rfl⟩
     .cases z
     .simp only[List.zip_cons_cons,List.forIn_cons];refine aa (aa (aa (ID _ _ _ _ ?_)));simp only[Bool.not_false,if_true];exact aa (ad (ad (ad (ad h))))
 |inr p=>cases y with
  |inl l=>
   obtain⟨n,l2⟩:=p;refine G6 hx λob ys nb t c TV _ YO e hc=>?_;obtain⟨oa,xs,na,OY,_,NO,VY⟩:=hy;have hf:decide ((cw (n,l2):Zo)=Sum.inl l)=aD:=dH λz=>nomatch z;rw[hf]at h;show bh _ _ (isInstance (.ref b) (.type "tuple") >>=_) _ _ s;refine aa (wpAny_isInstance hTb isSubtype_tuple_tuple ?_);simp only[ie,bx,if_false];refine aa (wpAny_tupleItemsOf TV YO ?_);refine aa (wpAny_tupleItemsOf OY NO ?_);rw[e];have sy:ys.size=2:=by rw[<-ba,e];rfl
   cases l with
   |nil=>
    generalize hxs:xs.toList=vs at VY;cases VY;have sx:xs.size=0:=by rw[<-ba,hxs];rfl
    simp only[List.zip_nil_right,List.forIn_nil];refine aa (ad ?_);refine ad ?_;show P (.done (.ret (.bool (ys.size==xs.size)))) s;rw[sx,sy];exact h
   |cons x l=>
    generalize hxs:xs.toList=vs at VY;cases VY with
    | @cons _ v _ vs h1 _=>
     rcases Ye (k:=.inr x) (v:=v) h1 with⟨_,_,z,_⟩|⟨_,tx,z,rfl⟩
     .cases z
     .simp only[List.zip_cons_cons,List.forIn_cons];refine aa (aa (aa (IE _ _ _ _ ?_)));simp only[Bool.not_false,if_true];exact aa (ad (ad (ad (ad h))))
  |inr q=>
   obtain⟨n,l⟩:=p;obtain⟨n2,l2⟩:=q;refine G6 hx λoa xs na ta ca OY _ NO ea GH=>?_;refine G6 hy λob ys nb tb cb TV _ YO eb uG=>?_;show bh _ _ (isInstance (.ref b) (.type "tuple") >>=_) _ _ s;refine aa (wpAny_isInstance hTb isSubtype_tuple_tuple ?_);simp only[ie,bx,if_false];refine aa (wpAny_tupleItemsOf OY NO ?_);refine aa (wpAny_tupleItemsOf TV YO ?_);rw[ea,eb];have sx:xs.size=2:=by rw[<-ba,ea];rfl
   have sy:ys.size=2:=by rw[<-ba,eb];rfl
   simp only[List.zip_cons_cons,List.zip_nil_left,List.forIn_cons,List.forIn_nil];refine aa (aa (aa (wpAny_eqBool_int ?_)));by_cases hn:n=n2
   .subst hn;simp only[beq_self_eq_true,ie,bx,if_false];refine ad ?_;dsimp only;refine aa (aa (wpAny_eqBool_tuple (knd:=Zs prog w) hu GH uG ?_));rw[D8];by_cases hl:l=l2
    .subst hl;simp only[decide_true,ie,bx,if_false];refine ad (ad (ad ?_));show P (.done (.ret (.bool (xs.size==ys.size)))) s;rw[sx,sy];simpa using h
    .simp only[dH hl,Bool.not_false,if_true];have hf:decide ((cw (n,l):Zo)=cw (n,l2))=aD:=dH λz=>hl (by injection z with z;injection z);rw[hf]at h;exact aa (ad (ad (ad (ad h))))
   .have hb:(n==n2)=aD:=beq_eq_false_iff_ne.mpr hn;simp only[hb,Bool.not_false,if_true];have hf:decide ((cw (n,l):Zo)=cw (n2,l2))=aD:=dH λz=>hn (by injection z with z;injection z);rw[hf]at h;exact aa (ad (ad (ad (ad h))))
theorem AX(hu:A.units+1<f9)(hx:Bl prog w s.heap x a)(hy:Bl prog w s.heap y b)(h:Q (decide (x=y)) s):bh (b9 prog w) A (eqBool (.ref a) (.ref b)) Q E s:=by
 unfold eqBool
 try with_reducible refine gn ?_
 show bh _ _ (if(cr a==cr b)=aC then _ else _) Q E s;by_cases YW:(cr a==cr b)=aC
 .rw[dG YW];have e:a=b:=by have:=eq_of_beq YW;injection this
  subst e;obtain rfl:=hx.inj hy;exact aa (wpAny_rule (ad (by simpa using h)))
 .rw[dF YW];exact aa (wpAny_richCompare_same_room (op:=.Eq) hx.typeIs hy.typeIs F.slot_tuple_eq
   (d8 F.slot_tuple_eq hx.typeIs F.entry_tuple_eq (iX (A:=A.in1) hu hx hy ⟨_,rfl,(λe=>nomatch e),wpAny_truthy_bool h⟩) (F.args_tuple_eq_2 _ _)) (by omega))
theorem D9(hk:IsTupleKey (Zs prog w) s.heap ks a)(h:Q aC s):bh (b9 prog w) A (eqIsQuiet (m+1) (.ref a)) Q E s:=by
 have hT:=hk.typeIs;obtain⟨o,eD,n,ho,_,hd,hi⟩:=hk;unfold eqIsQuiet;refine aa (wpAny_specialOf hT F.slot_tuple_eq.lookup ?_);show bh _ _ (isInstance (.ref a) (.type "tuple") >>=_) _ _ s;refine aa (wpAny_isInstance hT isSubtype_tuple_tuple ?_);simp only[ie,bx,if_false];refine aa (wpAny_seqItems ho hd ?_);refine aa ?_;show bh _ _ (forIn eD _ _) _ _ s;rw[<-Array.forIn_toList];refine wpAny_forIn_list _ (λrest r s'=>r.1=aB/\s'=s/\∀v∈rest,carriedByValue v=aC) _ ?_ ?_ _ _ ⟨rfl,rfl,hi.byValue⟩
 .rintro v rest r s' ⟨hr,rfl,hall⟩;rw[eqIsQuiet_byValue _ (hall v ac)];refine aa (ad ?_);simp only[ie,bx,if_false];exact ad ⟨rfl,rfl,λu OV=>hall u (ao _ OV)⟩
 .rintro⟨r1,r2⟩ s' ⟨hr,rfl,_⟩;simp only at hr;subst hr;exact ad h
theorem Nl(hk:Bl prog w s.heap k a)(h:Q aC s):bh (b9 prog w) A (eqIsQuiet 8 (.ref a)) Q E s:=by
 cases k with
 |inl l=>exact D9 hk h
 |inr p=>have hT:=hk.typeIs;obtain⟨n,l⟩:=p;refine G6 hk λo eD m t b ho _ hd hi hb=>?_;unfold eqIsQuiet;refine aa (wpAny_specialOf hT F.slot_tuple_eq.lookup ?_);show bh _ _ (isInstance (.ref a) (.type "tuple") >>=_) _ _ s;refine aa (wpAny_isInstance hT isSubtype_tuple_tuple ?_);simp only[ie,bx,if_false];refine aa (wpAny_seqItems ho hd ?_);refine aa ?_;show bh _ _ (forIn eD _ _) _ _ s;rw[<-Array.forIn_toList,hi];simp only[List.forIn_cons,List.forIn_nil];rw[eqIsQuiet_byValue _ (v:=Value.int n t) rfl];refine aa (aa (ad ?_));simp only[ie,bx,if_false];refine ad ?_;dsimp only;refine aa (aa (D9 hb ?_));simp only[ie,bx,if_false];exact ad (ad (ad h))
def Ko(prog:cg)(w:dn):HeapKind prog w Zo where
 is:=Bl prog w
 hash:=Yo prog w
 draws:=Ee
 room:=λA=>A.units+1<f9
 inj:=λhx hy=>hx.inj hy
 keeps:=λx ho hd hs=>x.keeps ho hd hs
 pyHash:=λhu hk h=>y_ hu hk h
 eqBool:=λhu hx hy h=>AX hu hx hy h
 quiet:=λhk h=>Nl hk h
inductive V where
 |non|bl (b:Bool)|int (i:Int)|str (x:Str)|byt (b:Array UInt8)|flt (b:UInt64)|ref (a:au)|ty (n:String)
 deriving DecidableEq
def Zy:V->ag->Prop
 | .non,u=>u=de
 | .bl b,u=>u=Value.bool b
 | .int i,u=>∃t,u=Value.int i t
 | .str x,u=>∃t,u=Value.str x t
 | .byt b,u=>∃t,u=Value.bytes b t
 | .flt b,u=>∃t,u=Value.float b t
 | .ref a,u=>u=cr a
 | .ty n,u=>u=Value.type n
abbrev Z5:List V->List ag->Prop:=Paired Zy
theorem Z5.length(r:Z5 xs us):xs.length=us.length:=Paired.length r
theorem Z5.get:∀{xs:List V} {us:List ag} {i:Nat} {x:V},Z5 xs us->xs[i]? =aA x->∃u,us[i]? =aA u/\Zy x u
 |_,_,_,_,.nil,e=>by simp at e
 |_,_,0,_,.cons r _,e=>by simp at e;subst e;exact⟨_,rfl,r⟩
 |_,_,i+1,x,.cons _ t,e=>by obtain⟨u,h1,h2⟩:=Z5.get (i:=i) (x:=x) t (by simpa using e);exact⟨u,by simpa using h1,h2⟩
theorem Z5.append:∀{xs ys:List V} {us ws:List ag},Z5 xs us->Z5 ys ws->Z5 (xs++ys) (us++ws)
 |_,_,_,_,.nil,s=>s
 |_,_,_,_,.cons r t,s=>.cons r (Z5.append t s)
theorem Z5.take:∀{xs:List V} {us:List ag} n,Z5 xs us->Z5 (xs.take n) (us.take n)
 |_,_,0,_=>.nil
 |_,_,_+1,.nil=>.nil
 |_,_,n+1,.cons r t=>.cons r (Z5.take n t)
theorem Z5.drop:∀{xs:List V} {us:List ag} n,Z5 xs us->Z5 (xs.drop n) (us.drop n)
 |_,_,0,r=>r
 |_,_,_+1,.nil=>.nil
 |_,_,n+1,.cons _ t=>Z5.drop n t
def R7:Option V->Option ag->Prop
 |some v,aA u=>Zy v u
 |none,aB=>True
 |_,_=>False
def KV{κ:Type}:List (κ×V)->List (κ×ag)->Prop:=Paired λ(p:κ×V) (q:κ×ag)=>p.1=q.1/\Zy p.2 q.2
noncomputable def kV:Key->V
 | .inl i=>.int i
 | .inr x=>.str x
inductive HO where
 |lst (xs:List V)
 |tup (xs:List V)
 |dK (kvs:List (Key×V)) (ep:Nat)|dT (kvs:List (List Key×V)) (ep:Nat) (bs:List au)|dN (kvs:List (Zo×V)) (ep:Nat) (bs:List au)
 |set (S:Int->Bool) (n:Nat)
 |ins (C dx:au) (fs:List (Str×V))
 |own (x:au)
 |xd (fs:List (Str×V))
 |met (f x:au)
 |rng (lo hi:Int)
 |frz (o:Obj) (u:HO)
 |tbl (ps:Array ag)
 |tab (q:Str)
 |ext (φ:f8->Prop)
noncomputable abbrev Hp:=au->Option HO
noncomputable def Y7(H:Hp)(a:au)(o:HO):Hp:=λb=>if b=a then aA o else H b
theorem Yk:Y7 H a o a=aA o:=by unfold Y7;rw[dG rfl]
theorem Zv(h:b≠a):Y7 H a o b=H b:=by unfold Y7;rw[dF h]
theorem lK:Y7 (Y7 H a o) a u=Y7 H a u:=by funext b;unfold Y7;split<;> rfl
theorem zv{H:Hp}(h:H a=aA o)(h':H b=aA u)(d:o≠u):a≠b:=by intro e;subst e;rw[h]at h';exact d (dq.inj h')
theorem Wa{H:Hp}(h:H a=aA o)(h':H b=aB):a≠b:=by intro e;subst e;rw[h]at h';cases h'
def Jo(H:Hp):Zo->au->Prop
 | .inl l,b=>H b=aA (.tup ((G8 l).map kV))
 | .inr (n,l),b=>∃c,H b=aA (.tup [.int n,.ref c])/\H c=aA (.tup ((G8 l).map kV))
theorem Jo.mono(h:Jo H k b)(ht:∀b xs,H b=aA (.tup xs)->H' b=aA (.tup xs)):Jo H' k b:=by
 cases k with
 |inl l=>exact ht _ _ h
 |inr p=>obtain⟨c,h1,h2⟩:=h;exact⟨c,ht _ _ h1,ht _ _ h2⟩
section
variable(P:cg)(w:dn)
def Yp(H:Hp)(h:f8)(a:au):HO->Prop
 | .lst xs=>xs.length<=sizeLine/\∃(eC:List ag) (n:Nat),Z5 xs eC/\h.get? a=aA {cls:=.type "list",data:=.seq eC.toArray n}
 | .tup xs=>xs.length<=sizeLine/\∃eC:List ag,Z5 xs eC/\IsTup h a eC.toArray
 | .dK kvs ep=>kvs.length<=sizeLine/\(a==sysModules)=aD/\∃vs,KV kvs vs/\h.DictAt (Zs P w) a vs ep
 | .dT kvs ep bs=>kvs.length<=sizeLine/\(a==sysModules)=aD/\∃xs:List (List Key×au×ag),
   Paired (λ(p:List Key×V) (q:List Key×au×ag)=>p.1=q.1/\H q.2.1=aA (.tup (p.1.map kV))/\Zy p.2 q.2.2) kvs xs/\
   ∃o es,h.get? a=aA o/\o.ExactDict/\o.data= .dict es ep/\es.toList=xs.map (entryOfKey (tupleKind (Zs P w)))/\(xs.map (·.1)).Nodup/\(xs.map λx=>x.2.1)=bs
 | .dN kvs ep bs=>kvs.length<=sizeLine/\(a==sysModules)=aD/\∃xs:List (Zo×au×ag),
   Paired (λ(p:Zo×V) (q:Zo×au×ag)=>p.1=q.1/\Jo H p.1 q.2.1/\Zy p.2 q.2.2) kvs xs/\
   ∃o es,h.get? a=aA o/\o.ExactDict/\o.data= .dict es ep/\es.toList=xs.map (entryOfKey (Ko P w))/\(xs.map (·.1)).Nodup/\(xs.map λx=>x.2.1)=bs
 | .set S n=>h.SetOf (intKind P w) a S n
 | .ins C dx fs=>H dx=aA (.own a)/\fs.length<=1000/\dx≠a/\h.get? a=aA (PySem.W.instObj C dx)/\
   ∃mA,h.Ns1 dx mA/\(∀f,R7 (fs.lookup f) (mA f))/\PySem.Within mA (fs.map (·.1))
 | .own _=>∃o,h.get? a=aA o
 | .xd fs=>∃mA,h.Ns1 a mA/\∀f,R7 (fs.lookup f) (mA f)
 | .rng lo hi=>∃t u v,h.get? a=aA {cls:=.type "range",data:=.fields #[.int lo t,.int hi u,.int 1 v]}
 | .frz o u=>h.get? a=aA o/\Yp H h a u
 | .tbl ps=>h.get? a=aA {cls:=.none,data:=.fields ps}
 | .met f x=>h.get? a=aA (PySem.W.methodObj (.ref f) (.ref x))
 | .tab q=>∃ps:Array ag,h.get? a=aA {cls:=.none,data:=.fields ps}/\TriplesOk ps.toList/\∀pos cv,codeAmong pos ps.toList=aA cv->∃c o vs t,cv= .ref c/\H c=aA (.frz o (.own a))/\o.data= .fields vs/\vs[1]? =aA (.str q t)
 | .ext φ=>φ h/\(∃o,h.get? a=aA o)/\∀h1 h2:f8,φ h1->(∀o,h1.get? a=aA o->h2.get? a=aA o)->φ h2
def G9(H:Hp)(h:f8):Prop:=∀a o,H a=aA o->Yp P w H h a o
end
section
variable{P:cg}{w:dn}{H H':Hp}{h h':f8}{a:au}{o:HO}
theorem Yp.lt(x:Yp P w H h a o):a<h.objs.size:=by
 cases o with
 |lst xs=>obtain⟨_,_,_,_,e⟩:=x;exact bj e
 |tup xs=>obtain⟨_,_,_,p⟩:=x;exact p.lt
 |dK kvs ep=>obtain⟨_,_,_,_,o,_,e,_⟩:=x;exact bj e
 |dT kvs ep bs=>obtain⟨_,_,_,_,o,_,e,_⟩:=x;exact bj e
 |dN kvs ep bs=>obtain⟨_,_,_,_,o,_,e,_⟩:=x;exact bj e
 |set S n=>obtain⟨o,_,_,_,e,_⟩:=x;exact bj e
 |ins C dx fs=>obtain⟨_,_,_,e,_⟩:=x;exact bj e
 |own y=>obtain⟨_,e⟩:=x;exact bj e
 |xd fs=>obtain⟨_,⟨_,_,_,e,_⟩,_⟩:=x;exact bj e
 |rng lo hi=>obtain⟨_,_,_,e⟩:=x;exact bj e
 |frz ob u=>obtain⟨e,_⟩:=x;exact bj e
 |tbl ps=>exact bj (show h.get? a=aA _ from x)
 |met f y=>exact bj (show h.get? a=aA _ from x)
 |tab q=>obtain⟨_,e,_⟩:=x;exact bj e
 |ext φ=>obtain⟨_,⟨_,e⟩,_⟩:=x;exact bj e
theorem Paired.mapP{OM:List α}{l₂:List β}(h:Paired F OM l₂)(f:∀a b,F a b->G a b):Paired G OM l₂:=by
 induction h with
 |nil=>exact .nil
 |cons r _ ih=>exact .cons (f _ _ r) ih
theorem Yp.stay(x:Yp P w H h a o)(k:∀b u,(b=a\/H b=aA (.own a))->h.get? b=aA u->h'.get? b=aA u)(ho:∀b,H b=aA (.own a)->H' b=aA (.own a))(ht:∀b xs,H b=aA (.tup xs)->H' b=aA (.tup xs))(hz:∀b o,H b=aA (.frz o (.own a))->H' b=aA (.frz o (.own a))):Yp P w H' h' a o:=by
 induction o with
 |lst xs=>obtain⟨z,eC,n,r,e⟩:=x;exact⟨z,eC,n,r,k _ _ (.inl rfl) e⟩
 |tup xs=>obtain⟨z,eC,r,ob,e,c⟩:=x;exact⟨z,eC,r,ob,k _ _ (.inl rfl) e,c⟩
 |dK kvs ep=>obtain⟨z,y,vs,r,ob,es,e,c⟩:=x;exact⟨z,y,vs,r,ob,es,k _ _ (.inl rfl) e,c⟩
 |dT kvs ep bs=>obtain⟨z,y,xs,r,ob,es,e,c⟩:=x;exact⟨z,y,xs,Paired.mapP r λp q z=>⟨z.1,ht _ _ z.2.1,z.2.2⟩,ob,es,k _ _ (.inl rfl) e,c⟩
 |dN kvs ep bs=>obtain⟨z,y,xs,r,ob,es,e,c⟩:=x;exact⟨z,y,xs,Paired.mapP r λp q z=>⟨z.1,z.2.1.mono ht,z.2.2⟩,ob,es,k _ _ (.inl rfl) e,c⟩
 |set S n=>obtain⟨ob,es,ep,t,e,c⟩:=x;exact⟨ob,es,ep,t,k _ _ (.inl rfl) e,c⟩
 |ins C dx fs=>obtain⟨d,z,ne,e,mA,⟨od,es,ep,e2,c⟩,r⟩:=x;exact⟨ho _ d,z,ne,k _ _ (.inl rfl) e,mA,⟨od,es,ep,k _ _ (.inr d) e2,c⟩,r⟩
 |own y=>obtain⟨ob,e⟩:=x;exact⟨ob,k _ _ (.inl rfl) e⟩
 |xd fs=>obtain⟨mA,⟨od,es,ep,e,c⟩,r⟩:=x;exact⟨mA,⟨od,es,ep,k _ _ (.inl rfl) e,c⟩,r⟩
 |rng lo hi=>obtain⟨t,u,v,e⟩:=x;exact⟨t,u,v,k _ _ (.inl rfl) e⟩
 |frz ob u ih=>obtain⟨e,q⟩:=x;exact⟨k _ _ (.inl rfl) e,ih q⟩
 |tbl ps=>have e:h.get? a=aA {cls:=.none,data:=.fields ps}:=x;show h'.get? a=aA {cls:=.none,data:=.fields ps};exact k a _ (.inl rfl) e
 |met f y=>have e:h.get? a=aA (PySem.W.methodObj (.ref f) (.ref y)):=x;show h'.get? a=aA (PySem.W.methodObj (.ref f) (.ref y));exact k a _ (.inl rfl) e
 |tab q=>refine Zp x λps e t c=>?_;refine⟨ps,k _ _ (.inl rfl) e,t,λpos cv z=>?_⟩;refine Ox (c pos cv z) λc1 o1 vs tt e1 e2 r=>?_;exact⟨c1,o1,vs,tt,e1,hz _ _ e2,r⟩
 |ext φ=>obtain⟨p,⟨o,e⟩,st⟩:=x;exact⟨st _ _ p λo q=>k _ _ (.inl rfl) q,⟨o,k _ _ (.inl rfl) e⟩,st⟩
theorem G9.lt(x:G9 P w H h)(e:H a=aA o):a<h.objs.size:=(x a o e).lt
theorem G9.fresh(x:G9 P w H h)(e:h.objs.size<=a):H a=aB:=by
 cases q:H a with
 |none=>rfl
 |some u=>exact dM (df (x.lt q) e) (Nat.lt_irrefl _)
theorem G9.kept(x:G9 P w H h)(k:∀b u,h.get? b=aA u->h'.get? b=aA u):G9 P w H h':=λa o e=>
 (x a o e).stay (λb u _ q=>k b u q) (λ_ q=>q) (λ_ _ q=>q) λ_ _ q=>q
theorem G9.laid(x:G9 P w H h)(k:∀b u,h.get? b=aA u->h'.get? b=aA u)(hp:h.objs.size<=a)(new:Yp P w (Y7 H a o) h' a o):G9 P w (Y7 H a o) h':=λb u e=>by
 have hn:=x.fresh hp;by_cases hb:b=a
 .subst hb;rw[Yk]at e;cases e;exact new
 .rw[Zv hb]at e;exact(x b u e).stay (λc v _ q=>k c v q) (λc q=>by rw[Zv (Wa q hn)];exact q) (λc xs q=>by rw[Zv (Wa q hn)];exact q) λc o q=>by rw[Zv (Wa q hn)];exact q
end
def Rd(H:Hp)(a:au)(u:HO):Prop:=H a=aA u\/∃o,H a=aA (.frz o u)
theorem Rd.ok(r:Rd H a u)(x:G9 P w H h):Yp P w H h a u:=by
 rcases r with r|⟨o,r⟩
 .exact x a u r
 .obtain⟨_,q⟩:=x a _ r;exact q
def HK(H:Hp)(a:au)(kvs:List (Key×V)):Prop:=∃ep,H a=aA (.dK kvs ep)
def HTt(H:Hp)(a:au)(kvs:List (List Key×V)):Prop:=∃ep bs,H a=aA (.dT kvs ep bs)
def RdK(H:Hp)(a:au)(kvs:List (Key×V)):Prop:=∃ep,Rd H a (.dK kvs ep)
def RdT(H:Hp)(a:au)(kvs:List (List Key×V)):Prop:=∃ep bs,Rd H a (.dT kvs ep bs)
theorem HK.rd(h:HK H a kvs):RdK H a kvs:=let⟨ep,h⟩:=h;⟨ep,.inl h⟩
noncomputable def Sg(kvs:List (List Key×V))(bs:List au)(k:List Key)(b:au):List Addr:=if(kvs.any λkv=>decide (kv.1=k))=aC then bs else bs++[b]
theorem HTt.rd(h:HTt H a kvs):RdT H a kvs:=let⟨ep,bs,h⟩:=h;⟨ep,bs,.inl h⟩
def Mut:Option HO->Prop
 |some (.lst _)=>True
 |some (.dK _ _)=>True
 |some (.dT _ _ _)=>True
 |some (.dN _ _ _)=>True
 |some (.set _ _)=>True
 |some (.ins _ _ _)=>True
 |some (.ext _)=>True
 |_=>False
theorem G9.write(ok:G9 P w H h)(mu:Mut (H x))(he:e=x\/H e=aA (.own x))(k:∀b u,b≠e->h.get? b=aA u->h'.get? b=aA u)(QV:∃u,h'.get? e=aA u)(new:Yp P w (Y7 H x o') h' x o'):G9 P w (Y7 H x o') h':=λb u q=>by
 have OI:∀c y,H c=aA (.own y)->c≠x:=λc y r z=>by subst z;rw[r]at mu;exact mu
 have JZ:∀c xs,H c=aA (.tup xs)->c≠x:=λc xs r z=>by subst z;rw[r]at mu;exact mu
 by_cases hb:b=x
 .subst hb;rw[Yk]at q;cases q;exact new
 .rw[Zv hb]at q;by_cases hbe:b=e
  .have q':H b=aA (.own x):=by
    rcases he with z|z
    .exact dM (hbe.trans z) hb
    .rw[hbe];exact z
   rw[q]at q';cases q';obtain⟨v,hv⟩:=QV;exact⟨v,by rw[hbe];exact hv⟩
  .refine(ok b u q).stay (λc v hc r=>k c v ?_ r) (λc r=>by rw[Zv (OI c b r)];exact r) (λc xs r=>by rw[Zv (JZ c xs r)];exact r) λc o r=>by rw[Zv (λz=>by subst z;rw[r]at mu;exact mu)];exact r
   rcases hc with rfl|hc
   .exact hbe
   .rintro rfl;rcases he with z|z
    .exact OI c b hc z
    .rw[hc]at z;cases z;exact hb rfl
structure Un(fs ex:List au)(H H':Hp)(h h':f8):Prop where
 keep:∀b o,h.get? b=aA o->H b=aB->b∉fs->b∉ex->h'.get? b=aA o
 slot:∀b o,h.get? b=aA o->H b=aB->b∈fs->b∉ex->∃sl,h'.get? b=aA {o with slots:=sl}
 free:∀b o,h.get? b=aA o->H b=aB->b∉ex->H' b=aB
 there:∀b o,h.get? b=aA o->b∉ex->∃o',h'.get? b=aA o'
 tups:∀b xs,H b=aA (.tup xs)->H' b=aA (.tup xs)
 frzs:∀b o u,H b=aA (.frz o u)->H' b=aA (.frz o u)
 tbls:∀b ps,H b=aA (.tbl ps)->∃more,H' b=aA (.tbl (ps++more))
section
variable{fs gO ex gQ:List au}{H H1 H2:Hp}{h h1 h2 h':f8}{a x e:au}{o:HO}
theorem Un.any(u:Un fs ex H H1 h h1)(q:h.get? b=aA ob)(n:H b=aB)(hx:b∉ex):∃sl,h1.get? b=aA {ob with slots:=sl}:=by
 by_cases hb:b∈fs
 .exact u.slot b ob q n hb hx
 .exact⟨ob.slots,u.keep b ob q n hb hx⟩
theorem Un.kept(k:∀b u,h.get? b=aA u->h'.get? b=aA u):Un fs ex H H h h':=
 ⟨λb ob q _ _ _=>k b ob q,λb ob q _ _ _=>⟨ob.slots,k b ob q⟩,λ_ _ _ n _=>n,λb ob q _=>⟨ob,k b ob q⟩,λ_ _ q=>q,λ_ _ _ q=>q,λ_ ps q=>⟨#[],by rw[q];simp⟩⟩
theorem Un.refl:Un fs ex H H h h:=Un.kept λ_ _ q=>q
theorem Un.laid(k:∀b u,h.get? b=aA u->h'.get? b=aA u)(hp:h.objs.size<=a)(hn:H a=aB):Un fs ex H (Y7 H a o) h h' where
 keep:=λb u q _ _ _=>k b u q
 slot:=λb u q _ _ _=>⟨u.slots,k b u q⟩
 free:=λb u q n _=>by rw[Zv (cj (df (bj q) hp))];exact n
 there:=λb u q _=>⟨u,k b u q⟩
 tups:=λb xs q=>by rw[Zv (Wa q hn)];exact q
 frzs:=λb u xs q=>by rw[Zv (Wa q hn)];exact q
 tbls:=λb ps q=>⟨#[],by rw[Zv (Wa q hn),q];simp⟩
theorem Un.write(mu:Mut (H x))(he:e=x\/H e=aA (.own x))(k:∀b u,b≠e->h.get? b=aA u->h'.get? b=aA u)(QV:∃u,h'.get? e=aA u):Un fs ex H (Y7 H x o) h h':=by
 have hx:∀b,H b=aB->b≠x:=λb n z=>by subst z;rw[n]at mu;exact mu
 have hb:∀b,H b=aB->b≠e:=λb n z=>by
  subst z;rcases he with r|r
  .exact hx b n r
  .rw[n]at r;cases r
 have hm:∀b u,H b=aA u->¬Mut (aA u)->b≠x:=λb u q nm z=>by subst z;rw[q]at mu;exact nm mu
 refine⟨λb u q n _ _=>k b u (hb b n) q,λb u q n _ _=>⟨u.slots,k b u (hb b n) q⟩,λb u q n _=>by rw[Zv (hx b n)];exact n,λb u q _=>?_,
  λb xs q=>by rw[Zv (hm b _ q λz=>z)];exact q,λb u xs q=>by rw[Zv (hm b _ q λz=>z)];exact q,λb ps q=>⟨#[],by rw[Zv (hm b _ q λz=>z),q];simp⟩⟩
 by_cases hbe:b=e
 .subst hbe;exact QV
 .exact⟨u,k b u hbe q⟩
end
noncomputable def trk(h:f8)(H:Hp):List Addr:=(c6 h.objs.size).filter λa=>(H a).isSome
def Kb(h:f8)(H:Hp):Heap:=PySem.W.hideAll h (trk h H)
theorem iW(h H):(Kb h H).objs.size=h.objs.size:=PySem.W.hideAll_size _ _
theorem jU(e:h.get? b=aA o)(n:H b=aB):(Kb h H).get? b=aA o:=
 PySem.W.hideAll_get _ e λhm=>by have q:(H b).isSome=aC:=(List.mem_filter.mp hm).2;rw[n]at q;simp at q
theorem lJ(e:(Kb h H).get? b=aA o):h.get? b=aA o/\H b=aB:=by
 have e':h.get? b=aA o:=PySem.W.of_hideAll (trk h H) e;refine⟨e',?_⟩;cases q:H b with
 |none=>rfl
 |some x=>have hm:b∈trk h H:=List.mem_filter.mpr ⟨c8.mpr (bj e'),by simp[q]⟩;have z:(Kb h H).get? b=aB:=PySem.W.hideAll_none (trk h H) hm;rw[z]at e;cases e
noncomputable def lI(g h:f8)(L:au):List (au×Obj):=(c6 h.objs.size).filterMap λa=>if a=L\/(g.get? a).isSome=aC then aB else(h.get? a).map λo=>(a,o)
def rest(g h:f8)(L d:au):List (au×Obj):=(lI g h L).filter λp=>decide (p.1≠d)
structure Mod(K:af)(mg:Str->Option ag)(base:f8):Prop where
 kin:K.In base
 glob:base.Ns mainGlobals mg
 blt:∃mb,base.Ns builtinsNs mb/\∀x:Str,x≠"__name__"->mb x=bootBuiltins x
 nolimit:base.NoLimit
set_option genInjectivity false in
structure Cx where
 prog:cg
 w:dn
 K:af
 mg:Str->Option ag
 base:f8
 A:dg
 N:List Str
 s₀:am
 H₀:Hp
 env:Env
 outer:List Env
 stack:List Env
 ex:List au
 fn:Str->Bool
 calm:Bool
 pn:List (au×Obj)
 xe:ag->am->Prop
noncomputable def frs(l:List Env):List Addr:=l.filterMap (·.frame)
abbrev Cx.fs(X:Cx):List Addr:=frs X.outer
def Xp(sc:Scope)(x:Str):Prop:=sc.names.lookup x=aA .local\/sc.names.lookup x=aA .cell\/sc.names.lookup x=aA .free
def Loc(sc:Scope)(x:Str):Prop:=sc.names.lookup x=aA .local\/sc.names.lookup x=aA .cell
def AW(env:Env)(h:f8)(m:Str->Option ag)(x:Str)(u:ag):Prop:=
 (env.kindOf x=aA .local/\m x=aA u)\/((env.kindOf x=aA .cell\/env.kindOf x=aA .free)/\∃c,env.cells.lookup x=aA c/\h.IsCell c (aA u))
set_option genInjectivity false in
structure Cx.Ok(X:Cx):Prop where
 mod:Mod X.K X.mg X.base
 kind:X.env.scope.kind= .function
 glob:X.env.globals=mainGlobals
 blt:X.env.builtins=builtinsNs
 above:X.s₀.heap.objs.size<=X.env.locals
 inj:∀x y c,X.env.cells.lookup x=aA c->X.env.cells.lookup y=aA c->x=y
 has:∀x,(X.env.kindOf x=aA .cell\/X.env.kindOf x=aA .free)->∃c,X.env.cells.lookup x=aA c
 cab:∀x c,X.fn x=aC->X.env.cells.lookup x=aA c->X.s₀.heap.objs.size<=c
 hd:X.calm=aC->X.A.handled=aB
 frames:X.A.frames=aA X.stack
 stk:X.stack=X.outer\/(X.stack=X.env::X.outer/\X.env.frame=aA X.env.locals)
 exf:∀b∈X.ex,b≠X.env.locals/\∀x c,X.env.cells.lookup x=aA c->c≠b
 bs:∀b o,X.base.get? b=aA o->X.s₀.heap.get? b=aA o/\X.H₀ b=aB
 bsz:X.base.objs.size<=X.s₀.heap.objs.size
 noex:∀b o,X.base.get? b=aA o->b∉X.ex
 exfs:∀b∈X.ex,b∉X.fs
 funs:X.s₀.heap.FunFrames X.base X.outer
 frf:∀b∈X.fs,X.H₀ b=aB
structure eG(X:Cx)(eB:List (au×Obj))(σ:List (Option V))(H:Hp)(s:am):Prop where
 ok:X.Ok
 os:s.os=X.s₀.os
 bare:AllBare s.gens
 base:Un X.fs X.ex X.H₀ H X.s₀.heap s.heap
 loc:∃m,s.heap.Ns X.env.locals m/\∀(i:Nat) (x:Str) (v:V),X.N[i]? =aA x->σ[i]? =aA (aA v)->Xp X.env.scope x->∃u,Zy v u/\AW X.env s.heap m x u
 cell:∀x c,X.env.cells.lookup x=aA c->∃v,s.heap.IsCell c v
 free:H X.env.locals=aB
 freeC:∀x c,X.env.cells.lookup x=aA c->H c=aB
 pin:∀p∈X.pn++eB,s.heap.get? p.1=aA p.2/\H p.1=aB/\p.1≠X.env.locals/\p.1∉X.fs/\∀v,p.2.data≠.cell v
 hok:G9 X.prog X.w H s.heap
 len:σ.length=X.N.length
section
variable{X:Cx}{eB:List (au×Obj)}{σ:List (Option V)}{H H':Hp}{s:am}{h':f8}
theorem Cx.Ok.nofr(ok:X.Ok)(e:X.base.get? b=aA o):b∉X.fs:=λhb=>by have:=(ok.funs.mem hb).1;rw[e]at this;cases this
theorem eG.bs(I:eG X eB σ H s):∀b o,X.base.get? b=aA o->s.heap.get? b=aA o/\H b=aB:=λb o e=>
 ⟨I.base.keep b o (I.ok.bs b o e).1 (I.ok.bs b o e).2 (I.ok.nofr e) (I.ok.noex b o e),I.base.free b o (I.ok.bs b o e).1 (I.ok.bs b o e).2 (I.ok.noex b o e)⟩
theorem eG.bk(I:eG X eB σ H s):∀b o,X.base.get? b=aA o->s.heap.get? b=aA o:=λb o e=>(I.bs b o e).1
theorem eG.mod(I:eG X eB σ H s):Mod X.K X.mg X.base:=I.ok.mod
theorem eG.kIn(I:eG X eB σ H s):X.K.In s.heap:=I.ok.mod.kin.keeps I.bk
theorem eG.nolimit(I:eG X eB σ H s):s.heap.NoLimit:=I.ok.mod.nolimit.keeps I.bk
theorem eG.lt(I:eG X eB σ H s):X.env.locals<s.heap.objs.size:=let⟨_,hn,_⟩:=I.loc;hn.lt
theorem eG.sz(I:eG X eB σ H s):X.s₀.heap.objs.size<=s.heap.objs.size:=dm I.ok.above (Nat.le_of_lt I.lt)
theorem eG.nofs(I:eG X eB σ H s){a:au}(h:s.heap.objs.size<=a):a∉X.fs:=λhb=>by obtain⟨_,o,ho,_⟩:=I.ok.funs.mem hb;exact dM (df (bj ho) (dm I.sz h)) (Nat.lt_irrefl _)
theorem eG.cne(I:eG X eB σ H s):∀x c,X.env.cells.lookup x=aA c->c≠X.env.locals:=λx c e z=>by refine W1 (I.cell x c e) λv o ho hd=>?_;obtain⟨m,⟨o',es,ep,YR,XI,_⟩,_⟩:=I.loc;rw[z,YR]at ho;cases ho;rw[XI]at hd;cases hd
theorem eG.funs(I:eG X eB σ H s):s.heap.FunFrames X.base X.outer:=by
 have all:∀(l:List Env),(∀b∈frs l,b∈X.fs)->X.s₀.heap.FunFrames X.base l->s.heap.FunFrames X.base l:=by
  intro l;induction l with
  |nil=>intro _ _;trivial
  |cons env r ih=>intro hs hl;obtain⟨hk,⟨L,o,hf,hn,ho,hd⟩,hr⟩:=hl;have hL:L∈X.fs:=hs L (by unfold frs;rw[List.filterMap_cons,hf];exact ac);obtain⟨sl,e⟩:=I.base.slot L o ho (I.ok.frf L hL) hL λz=>I.ok.exfs L z hL;exact⟨hk,⟨L,_,hf,hn,e,hd⟩,ih (λb hb=>hs b (by unfold frs;rw[List.filterMap_cons,hf];exact ao _ hb)) hr⟩
 exact all X.outer (λ_ hb=>hb) I.ok.funs
theorem eG.stack(I:eG X eB σ H s):s.heap.FunFrames X.base X.stack:=by
 rcases I.ok.stk with e|⟨e,hf⟩
 .rw[e];exact I.funs
 .rw[e];obtain⟨m,hn,_⟩:=I.loc;refine .cons (by rw[I.ok.kind];decide) hf hn ?_ I.funs;exact Heap.get?_none_of_le (dm I.ok.bsz I.ok.above)
theorem eG.stkSub(I:eG X eB σ H s):∀b∈frs X.stack,b∈X.env.locals::X.fs:=λb hb=>by
 rcases I.ok.stk with e|⟨e,hf⟩
 .rw[e]at hb;exact ao _ hb
 .rw[e]at hb;unfold frs at hb;rw[List.filterMap_cons,hf]at hb;exact hb
theorem eG.stkFree(I:eG X eB σ H s):∀b∈frs X.stack,H b=aB:=λb hb=>by
 rcases b7.mp (I.stkSub b hb)with e|hb
 .rw[e];exact I.free
 .obtain⟨_,o,ho,_⟩:=I.ok.funs.mem hb;exact I.base.free b o ho (I.ok.frf b hb) λz=>I.ok.exfs b z hb
theorem eG.step{d'}{ch:List au}(I:eG X eB σ H s)(WA:∀b∈ch,(b∈X.ex\/X.s₀.heap.objs.size<=b)/\b≠X.env.locals/\(∀x c,X.env.cells.lookup x=aA c->c≠b)/\∀p∈X.pn++eB,p.1≠b)(keep:∀b o,b≠X.env.locals->b∉X.fs->b∉ch->s.heap.get? b=aA o->H b=aB->h'.get? b=aA o)(slot:∀b o,b≠X.env.locals->b∈X.fs->b∉ch->s.heap.get? b=aA o->H b=aB->∃sl,h'.get? b=aA {o with slots:=sl})(free:∀b o,b∉ch->s.heap.get? b=aA o->H b=aB->H' b=aB)(there:∀b o,b∉ch->s.heap.get? b=aA o->∃o',h'.get? b=aA o')(tups:∀b xs,H b=aA (.tup xs)->H' b=aA (.tup xs))(frzs:∀b o u,H b=aA (.frz o u)->H' b=aA (.frz o u))(tbls:∀b ps,H b=aA (.tbl ps)->∃more,H' b=aA (.tbl (ps++more)))(ns:∀m,s.heap.Ns X.env.locals m->h'.Ns X.env.locals m)(hok:G9 X.prog X.w H' h')(hg:AllBare g'):
  eG X eB σ H' {s with heap:=h',gens:=g',drawn:=d',toks:=t'}:=by
 have DW:∀b o,X.s₀.heap.get? b=aA o->b≠X.env.locals:=λb o e=>cj (df (bj e) I.ok.above);have MY:∀b o,X.s₀.heap.get? b=aA o->b∉X.ex->b∉ch:=λb o e hx hb=>by
  rcases(WA b hb).1 with z|z
  .exact hx z
  .exact dM (df (bj e) z) (Nat.lt_irrefl _)
 have SE:∀x c,X.env.cells.lookup x=aA c->∀v,s.heap.IsCell c v->h'.IsCell c v:=λx c e v ⟨o,ho,hd⟩=>by
  have OL:c∉ch:=λz=>(WA c z).2.2.1 x c e rfl;by_cases hc:c∈X.fs
  .obtain⟨sl,q⟩:=slot c o (I.cne x c e) hc OL ho (I.freeC x c e);exact⟨_,q,hd⟩
  .exact⟨o,keep c o (I.cne x c e) hc OL ho (I.freeC x c e),hd⟩
 refine⟨I.ok,I.os,hg,⟨λb o e n hb hx=>?_,λb o e n hb hx=>?_,λb o e n hx=>?_,λb o e hx=>?_,λb xs e=>tups b xs (I.base.tups b xs e),λb o xs e=>frzs b o xs (I.base.frzs b o xs e),λb ps e=>?_⟩,?_,λx c e=>?_,?_,λx c e=>?_,λp hp=>?_,hok,I.len⟩
 .exact keep b o (DW b o e) hb (MY b o e hx) (I.base.keep b o e n hb hx) (I.base.free b o e n hx)
 .obtain⟨sl,e1⟩:=I.base.slot b o e n hb hx;obtain⟨wq,e2⟩:=slot b _ (DW b o e) hb (MY b o e hx) e1 (I.base.free b o e n hx);exact⟨wq,e2⟩
 .obtain⟨o',e1⟩:=I.base.there b o e hx;exact free b o' (MY b o e hx) e1 (I.base.free b o e n hx)
 .obtain⟨o',e1⟩:=I.base.there b o e hx;exact there b o' (MY b o e hx) e1
 .obtain⟨m1,e1⟩:=I.base.tbls b ps e;obtain⟨m2,e2⟩:=tbls b _ e1;exact⟨m1++m2,by rw[e2,Array.append_assoc]⟩
 .obtain⟨m,hn,hl⟩:=I.loc;refine⟨m,ns m hn,λi x v e1 e2 e3=>?_⟩;obtain⟨u,r,l⟩:=hl i x v e1 e2 e3;refine⟨u,r,?_⟩;rcases l with l|⟨k,c,e,z⟩
  .exact .inl l
  .exact .inr ⟨k,c,e,SE x c e _ z⟩
 .obtain⟨v,z⟩:=I.cell x c e;exact⟨v,SE x c e v z⟩
 .obtain⟨m,⟨o,_,_,ho,_⟩,_⟩:=I.loc;exact free _ o (λz=>(WA _ z).2.1 rfl) ho I.free
 .refine W1 (I.cell x c e) λv o ho hd=>?_;exact free c o (λz=>(WA c z).2.2.1 x c e rfl) ho (I.freeC x c e)
 .obtain⟨e,n,ne,nf,d⟩:=I.pin p hp;have OL:p.1∉ch:=λz=>(WA p.1 z).2.2.2 p hp rfl;exact⟨keep p.1 p.2 ne nf OL e n,free p.1 p.2 OL e n,ne,nf,d⟩
theorem eG.un(I:eG X eB σ H s)(u:Un X.fs [] H H' s.heap h')(hok:G9 X.prog X.w H' h'):eG X eB σ H' {s with heap:=h',toks:=t'}:=by
 obtain⟨m,⟨o,es,ep,ho,r⟩,_⟩:=id I.loc;obtain⟨sl,hL⟩:=u.any ho I.free (by simp);exact I.step (g':=s.gens) (d':=s.drawn) (ch:=[]) (λ_ z=>nomatch z) (λb o _ hb _ e n=>u.keep b o e n hb (by simp)) (λb o _ hb _ e n=>u.slot b o e n hb (by simp)) (λb o _ e n=>u.free b o e n (by simp)) (λb o _ e=>u.there b o e (by simp)) u.tups u.frzs u.tbls (λm' hm=>by
  obtain⟨o',FB,YI,YR,r'⟩:=hm;rw[ho]at YR;cases YR;exact⟨_,FB,YI,hL,r'⟩) hok I.bare
theorem eG.call(I:eG X eB σ H s)(u:Un (frs X.stack) ch H H' s.heap h')(hok:G9 X.prog X.w H' h')(hg:AllBare g')(WA:∀b∈ch,(b∈X.ex\/X.s₀.heap.objs.size<=b)/\b≠X.env.locals/\(∀x c,X.env.cells.lookup x=aA c->c≠b)/\∀p∈X.pn++eB,p.1≠b):
  eG X eB σ H' {s with heap:=h',gens:=g',drawn:=d',toks:=t'}:=by
 obtain⟨m,⟨o,es,ep,ho,r⟩,_⟩:=id I.loc;obtain⟨sl,hL⟩:=u.any ho I.free λz=>(WA _ z).2.1 rfl;exact I.step (ch:=ch) WA (λb o hL hb hc e n=>u.keep b o e n (λz=>(b7.mp (I.stkSub b z)).elim hL hb) hc) (λb o _ _ hc e n=>u.any e n hc) (λb o hc e n=>u.free b o e n hc) (λb o hc e=>u.there b o e hc) u.tups u.frzs u.tbls (λm' hm=>by
  obtain⟨o',FB,YI,YR,r'⟩:=hm;rw[ho]at YR;cases YR;exact⟨_,FB,YI,hL,r'⟩) hok hg
theorem eG.turned(I:eG X eB σ H s)(k:∀b o,b≠it->s.heap.get? b=aA o->h'.get? b=aA o)(hn:H it=aB)(hL:it≠X.env.locals)(h1:it∈X.ex\/X.s₀.heap.objs.size<=it)(h2:∀x c,X.env.cells.lookup x=aA c->c≠it)(h3:∀p∈X.pn++eB,p.1≠it):eG X eB σ H {s with heap:=h',toks:=t'}:=by
 have DU:∀b u,H b=aA u->b≠it:=λb u e z=>by rw[z,hn]at e;cases e
 refine I.step (g':=s.gens) (d':=s.drawn) (ch:=[it]) (λb hb=>?_) (λb o _ _ hc e _=>k b o (λz=>hc (by simp[z])) e) (λb o _ _ hc e _=>⟨o.slots,k b o (λz=>hc (by simp[z])) e⟩) (λ_ _ _ _ n=>n)
  (λb o hc e=>⟨o,k b o (λz=>hc (by simp[z])) e⟩) (λ_ _ e=>e) (λ_ _ _ e=>e) (λb ps e=>⟨#[],by rw[e];simp⟩) (λm hm=>?_) (λb u e=>?_) I.bare
 .have e:b=it:=by simpa using hb
  subst e;exact⟨h1,hL,h2,h3⟩
 .obtain⟨o,es,ep,ho,r⟩:=hm;exact⟨o,es,ep,k _ o (Ne.symm hL) ho,r⟩
 .refine(I.hok b u e).stay (λc v hc q=>k c v ?_ q) (λ_ q=>q) (λ_ _ q=>q) λ_ _ q=>q;rcases hc with z|z
  .rw[z];exact DU b u e
  .exact DU c _ z
theorem eG.tok(I:eG X eB σ H s)(t):eG X eB σ H {s with toks:=t}:=I.un (h':=s.heap) (t':=t) Un.refl I.hok
theorem eG.kept(I:eG X eB σ H s)(k:∀b u,s.heap.get? b=aA u->h'.get? b=aA u):eG X eB σ H {s with heap:=h',toks:=t'}:=I.un (Un.kept k) (I.hok.kept k)
theorem eG.laid{a:au}(I:eG X eB σ H s)(k:∀b u,s.heap.get? b=aA u->h'.get? b=aA u)(hp:s.heap.objs.size<=a)(new:Yp X.prog X.w (Y7 H a o) h' a o):
  eG X eB σ (Y7 H a o) {s with heap:=h',toks:=t'}:=I.un (Un.laid k hp (I.hok.fresh hp)) (I.hok.laid k hp new)
theorem eG.write(I:eG X eB σ H s)(mu:Mut (H x))(he:e=x\/H e=aA (.own x))(k:∀b u,b≠e->s.heap.get? b=aA u->h'.get? b=aA u)(QV:∃u,h'.get? e=aA u)(new:Yp X.prog X.w (Y7 H x o) h' x o):eG X eB σ (Y7 H x o) {s with heap:=h',toks:=t'}:=I.un (Un.write mu he k QV) (I.hok.write mu he k QV new)
theorem eG.pins_of(I:eG X eB σ H s)(h:∀p∈pins',s.heap.get? p.1=aA p.2/\H p.1=aB/\p.1≠X.env.locals/\p.1∉X.fs/\∀v,p.2.data≠.cell v):eG X pins' σ H s:=
 ⟨I.ok,I.os,I.bare,I.base,I.loc,I.cell,I.free,I.freeC,λp hp=>(bo.mp hp).elim (λz=>I.pin p (bu _ z)) (h p),I.hok,I.len⟩
theorem Sh{N:List Str}(hN:N.Nodup){i:Nat}(a:N[i]? =aA x)(b:N[j]? =aA x):i=j:=by obtain⟨h1,e1⟩:=aw.mp a;obtain⟨h2,e2⟩:=aw.mp b;exact(List.getElem_inj hN).mp (e1.trans e2.symm)
theorem Kq(I:eG X eB σ H s)(hN:X.N.Nodup)(hi:X.N[i]? =aA x)(hx:Loc X.env.scope x)(r:Zy v u)(h:∀s',eG X eB (σ.set i (aA v)) H s'->(∃a,gm a s.heap s'.heap/\(a=X.env.locals\/X.env.cells.lookup x=aA a))->Q () s')(hf:‹X.fn x=aC\/X.env.scope.names.lookup x=aA .local›):bh M A (storeName X.env x u) Q E s:=by
 obtain⟨m,hn,hl⟩:=id I.loc;have GF:(X.env.scope.kind== .class|| (X.env.scope.kind== .module&&X.env.locals !=X.env.globals))=aD:=by rw[I.ok.kind];rfl
 have NE:i<σ.length:=by rw[I.len];exact(aw.mp hi).1
 have cne:=I.cne;have WG:∀{a:au} {h':f8},(∃o,s.heap.get? a=aA o/\H a=aB)->gm a s.heap h'->G9 X.prog X.w H h':=fun{a h'} ha hs b ob e=>by
  obtain⟨_,_,XH⟩:=ha;refine(I.hok b ob e).stay (λc w' hc q=>(hs.2 c ?_).trans q) (λ_ q=>q) (λ_ _ q=>q) λ_ _ q=>q;rintro rfl;rcases hc with rfl|hc
  .rw[XH]at e;cases e
  .rw[XH]at hc;cases hc
 rcases hx with hk|hk
 .refine wpAny_storeName_local hk hn (λh' vz hs=>?_) GF;obtain⟨oL,_,_,XY,_⟩:=id hn;refine h _ ⟨I.ok,I.os,I.bare,⟨λb o e n hb hx=>?_,λb o e n hb hx=>?_,I.base.free,λb o e hx=>?_,I.base.tups,I.base.frzs,I.base.tbls⟩,⟨_,vz,λj y v' e1 e2 e3=>?_⟩,λy c e=>?_,I.free,I.freeC,λp hp=>?_,WG ⟨oL,XY,I.free⟩ hs,by simpa using I.len⟩ ⟨_,hs,.inl rfl⟩
  .exact(hs.2 b (cj (df (bj e) I.ok.above))).trans (I.base.keep b o e n hb hx)
  .obtain⟨sl,e1⟩:=I.base.slot b o e n hb hx;exact⟨sl,(hs.2 b (cj (df (bj e) I.ok.above))).trans e1⟩
  .obtain⟨o',e1⟩:=I.base.there b o e hx;exact⟨o',(hs.2 b (cj (df (bj e) I.ok.above))).trans e1⟩
  .by_cases hj:j=i
   .subst hj;rw[hi]at e1;cases e1;rw[gh NE]at e2;cases e2;exact⟨u,r,.inl ⟨hk,by simp⟩⟩
   .rw[g8 (Ne.symm hj)]at e2;obtain⟨u',r',q⟩:=hl j y v' e1 e2 e3;refine⟨u',r',?_⟩;rcases q with⟨k,e⟩|⟨k,c,e,z⟩
    .refine .inl ⟨k,?_⟩;have:y≠x:=λe=>hj (Sh hN e1 (e▸hi));simp[this,e]
    .exact .inr ⟨k,c,e,z.sameBut hs (cne y c e)⟩
  .obtain⟨w',z⟩:=I.cell y c e;exact⟨w',z.sameBut hs (cne y c e)⟩
  .obtain⟨e,n,ne,nf,d⟩:=I.pin p hp;exact⟨(hs.2 p.1 ne).trans e,n,ne,nf,d⟩
 .have hfn:X.fn x=aC:=by
   rcases hf with z|z
   .exact z
   .rw[z]at hk;cases hk
  obtain⟨c,hc⟩:=I.ok.has x (.inl hk);obtain⟨w',z⟩:=I.cell x c hc;refine wpAny_storeName_cell I.ok.kind hk hc z (λh' TY hs=>?_);obtain⟨oc,VS,VR⟩:=id z;refine h {s with heap:=h'} ⟨I.ok,I.os,I.bare,⟨λb o e n hb hx=>?_,λb o e n hb hx=>?_,I.base.free,λb o e hx=>?_,I.base.tups,I.base.frzs,I.base.tbls⟩,⟨m,hn.sameBut hs (Ne.symm (cne x c hc)),λj y v' e1 e2 e3=>?_⟩,λy c' e=>?_,I.free,I.freeC,λp hp=>?_,WG ⟨oc,VS,I.freeC x c hc⟩ hs,by simpa using I.len⟩ ⟨c,hs,.inr hc⟩
  .exact(hs.2 b (cj (df (bj e) (I.ok.cab x c hfn hc)))).trans (I.base.keep b o e n hb hx)
  .obtain⟨sl,e1⟩:=I.base.slot b o e n hb hx;exact⟨sl,(hs.2 b (cj (df (bj e) (I.ok.cab x c hfn hc)))).trans e1⟩
  .obtain⟨o',e1⟩:=I.base.there b o e hx;exact⟨o',(hs.2 b (cj (df (bj e) (I.ok.cab x c hfn hc)))).trans e1⟩
  .by_cases hj:j=i
   .subst hj;rw[hi]at e1;cases e1;rw[gh NE]at e2;cases e2;exact⟨u,r,.inr ⟨.inl hk,c,hc,TY⟩⟩
   .rw[g8 (Ne.symm hj)]at e2;obtain⟨u',r',q⟩:=hl j y v' e1 e2 e3;refine⟨u',r',?_⟩;rcases q with q|⟨k,c',e,z'⟩
    .exact .inl q
    .refine .inr ⟨k,c',e,z'.sameBut hs ?_⟩;rintro rfl;exact hj (Sh hN e1 (I.ok.inj _ _ _ e hc▸hi))
  .by_cases hcc:c'=c
   .subst hcc;exact⟨_,TY⟩
   .obtain⟨w2,z2⟩:=I.cell y c' e;exact⟨w2,z2.sameBut hs hcc⟩
  .obtain⟨e,n,ne,nf,d⟩:=I.pin p hp;refine⟨(hs.2 p.1 ?_).trans e,n,ne,nf,d⟩;intro q;rw[q,VS]at e;have q':oc=p.2:=dq.inj e;exact d w' (by rw[<-q'];exact VR)
theorem Si(I:eG X eB σ H s)(hN:X.N.Nodup)(hi:X.N[i]? =aA x)(hx:Loc X.env.scope x)(r:Zy v u)(h:∀s',eG X eB (σ.set i (aA v)) H s'->Q () s')(hf:‹X.fn x=aC\/X.env.scope.names.lookup x=aA .local›):bh M A (storeName X.env x u) Q E s:=
 Kq I hN hi hx r (λs' I' _=>h s' I') hf
theorem eG.call'(I:eG X eB σ H s)(ho:s'.os=s.os)(u:Un (frs X.stack) ch H H' s.heap s'.heap)(hok:G9 X.prog X.w H' s'.heap)(hg:AllBare s'.gens)(WA:∀b∈ch,(b∈X.ex\/X.s₀.heap.objs.size<=b)/\b≠X.env.locals/\(∀x c,X.env.cells.lookup x=aA c->c≠b)/\∀p∈X.pn++eB,p.1≠b):eG X eB σ H' s':=by
 obtain⟨h',g',d',t',o'⟩:=s';have e:o'=s.os:=ho;subst e;exact I.call (g':=g') (t':=t') (d':=d') u hok hg WA
end
abbrev XK:=ag->Option au->Hp->Prop
noncomputable abbrev St:=List (Option V)
abbrev VK:=V->Hp->Prop
abbrev TE:=St->Hp->VK->Prop
abbrev TT:=St->Hp->(Bool->Hp->Prop)->Prop
abbrev TA:=St->Hp->(List V->Hp->Prop)->Prop
set_option genInjectivity false in
structure Ends where
 nx:St->Hp->Prop
 rt:VK
 bk:St->Hp->Prop:=λ_ _=>False
 ct:St->Hp->Prop:=λ_ _=>False
abbrev TS:=Ends->St->Hp->Prop
def EP(X:Cx)(eB:List (au×Obj))(σ:St)(Q:VK)(u:ag)(s':am):Prop:=∃v H',eG X eB σ H' s'/\Zy v u/\Q v H'
def TP(X:Cx)(eB:List (au×Obj))(σ:St)(Q:Bool->Hp->Prop)(b:Bool)(s':am):Prop:=∃H',eG X eB σ H' s'/\Q b H'
def AP(X:Cx)(eB:List (au×Obj))(σ:St)(Q:List V->Hp->Prop)(us:List ag)(s':am):Prop:=∃vs H',eG X eB σ H' s'/\Z5 vs us/\Q vs H'
def SP(X:Cx)(eB:List (au×Obj))(D:Ends)(f:Flow)(s':am):Prop:=
 match f with
 | .next=>∃ZB H',eG X eB ZB H' s'/\D.nx ZB H'
 | .brk=>∃ZB H',eG X eB ZB H' s'/\D.bk ZB H'
 | .cont=>∃ZB H',eG X eB ZB H' s'/\D.ct ZB H'
 | .ret u=>∃v ZB H',eG X eB ZB H' s'/\Zy v u/\D.rt v H'
def PE(X:Cx)(e:da)(t:TE):Prop:=
 ∀(eB:List (au×Obj)) (s:am) (σ:St) (H:Hp) (Q:VK),eG X eB σ H s->t σ H Q->bh (b9 X.prog X.w) X.A (ip e X.env) (EP X eB σ Q) X.xe s
def PT(X:Cx)(e:da)(t:TT):Prop:=
 ∀(eB:List (au×Obj)) (s:am) (σ:St) (H:Hp) (Q:Bool->Hp->Prop),eG X eB σ H s->t σ H Q->bh (b9 X.prog X.w) X.A (isTrue e X.env (ip e X.env)) (TP X eB σ Q) X.xe s
def PW(X:Cx)(e:da)(t:TT):Prop:=
 ∀(whole:Sem ag) (eB:List (au×Obj)) (s:am) (σ:St) (H:Hp) (Q:Bool->Hp->Prop),eG X eB σ H s->t σ H Q->bh (b9 X.prog X.w) X.A (isTrue e X.env whole) (TP X eB σ Q) X.xe s
theorem PW.pt(h:PW X e t):PT X e t:=h _
def PA(X:Cx)(es:List da)(t:TA):Prop:=
 ∀(pos:Pos) (eB:List (au×Obj)) (s:am) (σ:St) (H:Hp) (Q:List V->Hp->Prop),eG X eB σ H s->t σ H Q->bh (b9 X.prog X.w) X.A (spliced (gd pos (bd es X.env))) (AP X eB σ Q) X.xe s
def PS(X:Cx)(st:Stmt)(t:TS):Prop:=
 ∀(eB:List (au×Obj)) (s:am) (σ:St) (H:Hp) (D:Ends),eG X eB σ H s->t D σ H->bh (b9 X.prog X.w) X.A (exec st X.env) (SP X eB D) X.xe s
def M0(X:Cx)(st:List Stmt)(t:TS):Prop:=
 ∀(eB:List (au×Obj)) (s:am) (σ:St) (H:Hp) (D:Ends),eG X eB σ H s->t D σ H->bh (b9 X.prog X.w) X.A (execs st X.env) (SP X eB D) X.xe s
theorem Wq{Q:α->am->Prop}(h:bh M A t Q E s)(hQ:∀a s,Q a s->Q' a s):bh M A t Q' E s:=g9 h hQ λ_ _ x=>x
section
def R8(i:Nat):TE:=λσ H Q=>∃v,σ[i]? =aA (aA v)/\Q v H
def tC(v:V):TE:=λ_ H Q=>Q v H
theorem Oa{X:Cx}{pos}(hN:X.N[i]? =aA x)(hv:Xp X.env.scope x)(hd:‹(x==("__debug__":Str))=aD›)(ZS:‹(x==("__classdict__":Str))=aD›):PE X (.Name x pos) (R8 i):=by
 intro eB s σ H Q I h;obtain⟨v,e,h⟩:=h;obtain⟨m,hn,hl⟩:=I.loc;obtain⟨u,r,l⟩:=hl i x v hN e hv;have fin:EP X eB σ Q u s:=⟨v,H,I,r,h⟩
 rcases l with⟨hk,hm⟩|⟨hk,c,hc,hcell⟩
 .exact wpAny_Name (wpAny_loadName_local I.ok.kind hk hn hm fin) hd
 .rcases hk with hk|hk
  .exact wpAny_Name (wpAny_loadName_cell I.ok.kind hk hc hcell fin) hd
  .exact wpAny_Name (wpAny_loadName_free I.ok.kind hk hc hcell fin ZS) hd
theorem oZ:PE X (.Constant (.int i) j pos) (tC (.int i)):=λ_ _ _ H _ I h=>wpAny_Constant_int ⟨.int i,H,I.tok _,⟨_,rfl⟩,h⟩
theorem qJ:PE X (.Constant (.bool b) j pos) (tC (.bl b)):=λ_ _ _ H _ I h=>Constant_bool ⟨.bl b,H,I,rfl,h⟩
theorem oY:PE X (.Constant .none j pos) (tC .non):=λ_ _ _ H _ I h=>Constant_none ⟨.non,H,I,rfl,h⟩
theorem yz:PE X (.Constant (.str x) j pos) (tC (.str x)):=λ_ _ _ H _ I h=>Calls.Constant_str ⟨.str x,H,I.tok _,⟨_,rfl⟩,h⟩
def Gl(X:Cx)(x:Str):Prop:=X.env.kindOf x=aA .globalImplicit
theorem wE{σ:St}(I:eG X eB σ H s)(hg:Gl X x)(hm:X.mg x=aA u)(h:Q u s)(hd:‹(x==("__debug__":Str))=aD›):bh (b9 X.prog X.w) X.A (ip (.Name x pos) X.env) Q E s:=
 Calls.Name_function_global I.ok.kind hg (Calls.loadGlobal_global (by rw[I.ok.glob];exact I.mod.glob.keeps I.bk) hm h) hd
theorem O9{E}{σ:St}{pos}(I:eG X eB σ H s)(hg:Gl X x)(hm:X.mg x=aB)(hv:bootBuiltins x=aA u)(h:Q u s)(hn:‹x≠"__name__"›)(hd:‹(x==("__debug__":Str))=aD›):bh (b9 X.prog X.w) X.A (ip (.Name x pos) X.env) Q E s:=by
 obtain⟨mb,h1,h2⟩:=I.mod.blt;exact Calls.Name_function_global I.ok.kind hg (Calls.loadGlobal_builtin (by rw[I.ok.glob];exact I.mod.glob.keeps I.bk) hm (by rw[I.ok.blt];exact h1.keeps I.bk) ((h2 x hn).trans hv) h) hd
theorem lH(hg:Gl X x)(hm:X.mg x=aA u)(r:Zy v u)(hd:‹(x==("__debug__":Str))=aD›):PE X (.Name x pos) (tC v):=
 λ_ _ _ H _ I h=>wE I hg hm ⟨v,H,I,r,h⟩ hd
def t2I(ta tb:TE)(k:Int->Int->Hp->Prop):St->Hp->Prop:=λσ H=>ta σ H λx H1=>tb σ H1 λy H2=>∃i j,x= .int i/\y= .int j/\k i j H2
def tW(p:Int->Int->Bool)(ta tb:TE):TE:=λσ H Q=>t2I ta tb (λi j H2=>Q (.bl (p i j)) H2) σ H
abbrev tLt:TE->TE->TE:=tW λi j=>decide (i<j)
def tB(t:TE):TT:=λσ H Q=>t σ H λx H1=>∃c,x= .bl c/\Q c H1
theorem oW(h:PE X e t)(he:‹∀whole,isTrue e X.env whole=(do let v<-whole;standAt e.pos;holding [v] (truthy v))›):PT X e (tB t):=by intro eB s σ H Q I hw;refine isTrue_plain (Wq (h eB s σ H _ I hw) λv s1 ⟨x,H1,I1,r1,q1⟩=>?_) (he _);obtain⟨d,rfl,q⟩:=q1;cases r1;exact wpAny_truthy_bool ⟨H1,I1,q⟩
variable{rest:List da}
def AV(t u:TT):TT:=λσ H Q=>t σ H λc H1=>if c=aC then u σ H1 Q else Q aD H1
def tOr(t u:TT):TT:=λσ H Q=>t σ H λc H1=>if c=aC then Q aC H1 else u σ H1 Q
def AU(t:TT):TT:=λσ H Q=>t σ H λc H1=>Q (!c) H1
theorem lG(ha:PT X a tA):PW X (.BoolOp .And [a] pos) tA:=by
 intro wh eB s σ H Q I h;refine isTrue_and (Wq (ha eB s σ H Q I h) λc s1 e=>?_);cases c with
 |true=>exact isTrue_and_nil e
 |false=>exact e
theorem oV(ha:PT X a tA):PW X (.BoolOp .Or [a] pos) tA:=by
 intro wh eB s σ H Q I h;refine isTrue_or (Wq (ha eB s σ H Q I h) λc s1 e=>?_);cases c with
 |false=>exact isTrue_or_nil e
 |true=>exact e
theorem oU(ha:PT X a tA)(hb:PW X (.BoolOp .And (b::rest) pos) tB'):PW X (.BoolOp .And (a::b::rest) pos) (AV tA tB'):=by
 intro wh eB s σ H Q I h;refine isTrue_and (Wq (ha eB s σ H _ I h) λc s1 ZE=>?_);obtain⟨H1,I1,q1⟩:=ZE;cases c with
 |true=>exact hb wh eB s1 σ H1 Q I1 q1
 |false=>exact⟨H1,I1,q1⟩
theorem qI(ha:PT X a tA)(hb:PW X (.BoolOp .Or (b::rest) pos) tB'):PW X (.BoolOp .Or (a::b::rest) pos) (tOr tA tB'):=by
 intro wh eB s σ H Q I h;refine isTrue_or (Wq (ha eB s σ H _ I h) λc s1 ZE=>?_);obtain⟨H1,I1,q1⟩:=ZE;cases c with
 |true=>exact⟨H1,I1,q1⟩
 |false=>exact hb wh eB s1 σ H1 Q I1 q1
theorem oS(ha:PT X a tA):PT X (.UnaryOp .Not a pos) (AU tA):=by intro eB s σ H Q I h;exact isTrue_not (ha eB s σ H (λc H1=>Q (!c) H1) I h)
def zu(ta tb:TE):TE:=λσ H Q=>ta σ H λx H1=>∃c,x= .bl c/\if c=aC then tb σ H1 Q else Q (.bl aD) H1
def AS(ta tb:TE):TE:=λσ H Q=>ta σ H λx H1=>∃c,x= .bl c/\if c=aC then Q (.bl aC) H1 else tb σ H1 Q
theorem oP  (h:PE X a t):PE X (.BoolOp op [a] pos) t:=λeB s σ H Q I hw=>BoolOp_one (h eB s σ H Q I hw)
theorem oO(ha:PE X a ta)(hb:PE X (.BoolOp .And (b::rest) pos) tb):PE X (.BoolOp .And (a::b::rest) pos) (zu ta tb):=by
 intro eB s σ H Q I h;refine BoolOp_and (Wq (ha eB s σ H _ I h) λv s1 ZE=>?_);obtain⟨x,H1,I1,r1,q1⟩:=ZE;obtain⟨c,rfl,q1⟩:=q1;cases r1;refine wpAny_truthy_bool ?_;cases c with
 |true=>exact hb eB s1 σ H1 Q I1 q1
 |false=>exact⟨.bl aD,H1,I1,rfl,q1⟩
theorem qH(ha:PE X a ta)(hb:PE X (.BoolOp .Or (b::rest) pos) tb):PE X (.BoolOp .Or (a::b::rest) pos) (AS ta tb):=by
 intro eB s σ H Q I h;refine BoolOp_or (Wq (ha eB s σ H _ I h) λv s1 ZE=>?_);obtain⟨x,H1,I1,r1,q1⟩:=ZE;obtain⟨c,rfl,q1⟩:=q1;cases r1;refine wpAny_truthy_bool ?_;cases c with
 |false=>exact hb eB s1 σ H1 Q I1 q1
 |true=>exact⟨.bl aC,H1,I1,rfl,q1⟩
def tIf(t:TT)(ta tb:TE):TE:=λσ H Q=>t σ H λc H1=>if c=aC then ta σ H1 Q else tb σ H1 Q
theorem jT(hc:PT X c tA)(ha:PE X a ta)(hb:PE X b tb):PE X (.IfExp c a b pos) (tIf tA ta tb):=by
 intro eB s σ H Q I h;refine wpAny_IfExp (Wq (hc eB s σ H _ I h) λd s1 ZE=>?_);obtain⟨H1,I1,q1⟩:=ZE;cases d with
 |true=>exact ha eB s1 σ H1 Q I1 q1
 |false=>exact hb eB s1 σ H1 Q I1 q1
end
def Bm(K:af)(H:Hp)(a:au)(xs:List V):Prop:=
 Rd H a (.lst xs)\/
  ∃(o:Obj) (eC:Array ag) (n:Nat),K.lookup a=aA o/\o.cls= .type "list"/\o.dict=aB/\o.data= .seq eC n/\eC.size<=sizeLine/\Z5 xs eC.toList
def Mx(K:af)(H:Hp)(a:au)(xs:List V):Prop:=
 Rd H a (.tup xs)\/
  ∃(o:Obj) (eC:Array ag) (n:Nat),K.lookup a=aA o/\o.cls= .type "tuple"/\o.data= .seq eC n/\eC.size<=sizeLine/\Z5 xs eC.toList
noncomputable def tV:ag->Option V
 | .none=>aA .non
 | .bool b=>aA (.bl b)
 | .int i _=>aA (.int i)
 | .str x _=>aA (.str x)
 | .bytes b _=>aA (.byt b)
 | .float b _=>aA (.flt b)
 | .ref a=>aA (.ref a)
 | .type n=>aA (.ty n)
 |_=>aB
theorem Zy.abs(r:Zy x u):tV u=aA x:=by
 cases x with
 |non=>cases r;rfl
 |bl _=>cases r;rfl
 |int _=>obtain⟨t,rfl⟩:=r;rfl
 |str _=>obtain⟨t,rfl⟩:=r;rfl
 |byt _=>obtain⟨t,rfl⟩:=r;rfl
 |flt _=>obtain⟨t,rfl⟩:=r;rfl
 |ref _=>cases r;rfl
 |ty _=>cases r;rfl
theorem Zy.inj(r:Zy x u)(q:Zy y u):x=y:=dq.inj (r.abs.symm.trans q.abs)
theorem Z5.inj:∀{ys:List V} {us:List ag},Z5 xs us->Z5 ys us->xs=ys:=by
 induction xs with
 |nil=>intro ys us h g;cases h;cases g;rfl
 |cons x xs ih=>
  intro ys us h g;cases h with
  |cons r t=>
   cases g with
   |cons r' t'=>rw[r.inj r',ih t t']
section
variable{X:Cx}{eB:List (au×Obj)}{σ:St}{H:Hp}{s:am}{a:au}{xs ys:List V}
theorem eG.list(I:eG X eB σ H s)(h:Bm X.K H a xs):∃eC,Z5 xs eC/\PlainL s.heap a eC.toArray/\xs.length<=sizeLine:=by
 rcases h with h|⟨o,eC,n,hk,hc,hd,hs,hz,r⟩
 .obtain⟨z,eC,n,r,e⟩:=h.ok I.hok;exact⟨eC,r,⟨_,n,e,rfl,rfl,rfl⟩,z⟩
 .refine⟨eC.toList,r,⟨o,n,I.kIn a o hk,hc,hd,by simpa using hs⟩,?_⟩;have e:=r.length;simp only[ba]at e;omega
theorem eG.tuple(I:eG X eB σ H s)(h:Mx X.K H a xs):∃eC,Z5 xs eC/\IsTup s.heap a eC.toArray/\xs.length<=sizeLine:=by
 rcases h with h|⟨o,eC,n,hk,hc,hs,hz,r⟩
 .obtain⟨z,eC,r,p⟩:=h.ok I.hok;exact⟨eC,r,p,z⟩
 .refine⟨eC.toList,r,⟨o,I.kIn a o hk,hc,n,by simpa using hs⟩,?_⟩;have e:=r.length;simp only[ba]at e;omega
theorem eG.list_inj(I:eG X eB σ H s)(h:Bm X.K H a xs)(h':Bm X.K H a ys):xs=ys:=by
 obtain⟨eC,r,⟨o,n,e,_,_,d⟩,_⟩:=I.list h;obtain⟨its',r',⟨o',n',e',_,_,d'⟩,_⟩:=I.list h';rw[e]at e';cases e';rw[d]at d';injection d' with d1 _
 have:eC=its':=by simpa using congrArg Array.toList d1
 subst this;exact r.inj r'
theorem eG.tuple_inj(I:eG X eB σ H s)(h:Mx X.K H a xs)(h':Mx X.K H a ys):xs=ys:=by
 obtain⟨eC,r,⟨o,e,_,n,d⟩,_⟩:=I.tuple h;obtain⟨its',r',⟨o',e',_,n',d'⟩,_⟩:=I.tuple h';rw[e]at e';cases e';rw[d]at d';injection d' with d1 _
 have:eC=its':=by simpa using congrArg Array.toList d1
 subst this;exact r.inj r'
end
noncomputable abbrev Cx.wish(X:Cx)(E:ag->am->Prop):Cx:={X with xe:=E}
noncomputable abbrev Cx.nox(X:Cx):Cx:=X.wish λ_ _=>False
theorem Cx.Ok.wish{X:Cx}(ok:X.Ok)(E):(X.wish E).Ok:=
 ⟨ok.mod,ok.kind,ok.glob,ok.blt,ok.above,ok.inj,ok.has,ok.cab,ok.hd,ok.frames,ok.stk,ok.exf,ok.bs,ok.bsz,ok.noex,ok.exfs,ok.funs,ok.frf⟩
theorem Cx.Ok.unwish{X:Cx}(ok:(X.wish E).Ok):X.Ok:=
 ⟨ok.mod,ok.kind,ok.glob,ok.blt,ok.above,ok.inj,ok.has,ok.cab,ok.hd,ok.frames,ok.stk,ok.exf,ok.bs,ok.bsz,ok.noex,ok.exfs,ok.funs,ok.frf⟩
section
variable{X:Cx}{eB:List (au×Obj)}{σ:St}{H:Hp}{s:am}{E:ag->am->Prop}
theorem eG.wish(I:eG X eB σ H s)(E):eG (X.wish E) eB σ H s:=⟨I.ok.wish E,I.os,I.bare,I.base,I.loc,I.cell,I.free,I.freeC,I.pin,I.hok,I.len⟩
theorem eG.unwish(I:eG (X.wish E) eB σ H s):eG X eB σ H s:=⟨I.ok.unwish,I.os,I.bare,I.base,I.loc,I.cell,I.free,I.freeC,I.pin,I.hok,I.len⟩
theorem SP.unwish(h:SP (X.wish E) eB D f s'):SP X eB D f s':=by
 cases f with
 |next=>refine W1 h λZB H' I q=>?_;exact⟨ZB,H',I.unwish,q⟩
 |brk=>refine W1 h λZB H' I q=>?_;exact⟨ZB,H',I.unwish,q⟩
 |cont=>refine W1 h λZB H' I q=>?_;exact⟨ZB,H',I.unwish,q⟩
 |ret u=>obtain⟨v,ZB,H',I,r,q⟩:=h;exact⟨v,ZB,H',I.unwish,r,q⟩
theorem M0.nox{st}(h:M0 X.nox st t):M0 X st t:=λeB s σ H D I hw=>
 g9 (h eB s σ H D (I.wish _) hw) (λ_ _ q=>q.unwish) λ_ _ z=>False.elim z
end
section
variable{X:Cx}{st:Stmt}{t u:TS}
def zq:TS:=λD σ H=>D.nx σ H
def AR(t u:TS):TS:=λD σ H=>t {D with nx:=u D} σ H
theorem lF:M0 X [] zq:=λ_ _ σ H _ I h=>wpAny_execs_nil ⟨σ,H,I,h⟩
theorem jS{rest:List Stmt}(h1:PS X st t)(h2:M0 X rest u):M0 X (st::rest) (AR t u):=by
 intro eB s σ H D I h;refine wpAny_execs_cons (Wq (h1 eB s σ H {D with nx:=u D} I h) λf s1 q=>?_);cases f with
 |next=>refine W1 q λZB H' I' q=>?_;exact h2 eB s1 ZB H' D I' q
 |ret v=>exact q
 |brk=>exact q
 |cont=>exact q
theorem lE(h1:PS X st t):M0 X [st] t:=by
 intro eB s σ H D I h;refine wpAny_execs_cons (Wq (h1 eB s σ H D I h) λf s1 q=>?_);cases f with
 |next=>exact wpAny_execs_nil q
 |ret v=>exact q
 |brk=>exact q
 |cont=>exact q
theorem eG.quiet{σ:St}(I:eG X eB σ H s):interactive X.env=aD:=by simp[interactive,I.ok.kind]
def JB(te:TE):TS:=λD σ H=>te σ H λ_ H1=>D.nx σ H1
theorem Al(he:PE X e te)(hs:‹swapsWith e aB pos.line X.env=pure aD›):PS X (.Expr e pos) (JB te):=by intro eB s σ H D I h;exact wpAny_Expr_any (Wq (he eB s σ H _ I h) λv s1 ⟨x,H1,I1,r1,q1⟩=>⟨σ,H1,I1,q1⟩) I.quiet hs
def EE(te:TE):TS:=λD σ H=>te σ H D.rt
theorem yx(he:PE X e te):PS X (.Return (aA e) pos) (EE te):=by intro eB s σ H D I h;exact wpAny_Return_some (Wq (he eB s σ H _ I h) λv s1 ⟨x,H1,I1,r1,q1⟩=>⟨x,σ,H1,I1,r1,q1⟩)
def AQ(c:TT)(t u:TS):TS:=λD σ H=>c σ H λb H1=>if b=aC then t D σ H1 else u D σ H1
theorem qG(hc:PT X c tc)(ha:M0 X a t)(hb:M0 X b u):PS X (.If c a b pos) (AQ tc t u):=by
 intro eB s σ H D I h;refine wpAny_If (Wq (hc eB s σ H _ I h) λd s1 ZE=>?_);obtain⟨H1,I1,q1⟩:=ZE;cases d with
 |true=>exact ha eB s1 σ H1 D I1 q1
 |false=>exact hb eB s1 σ H1 D I1 q1
end
abbrev TG:=V->St->Hp->(St->Hp->Prop)->Prop
abbrev TGs:=List V->St->Hp->(St->Hp->Prop)->Prop
def PG(X:Cx)(YJ:da)(t:TG):Prop:=
 ∀(eB:List (au×Obj)) (s:am) (σ:St) (H:Hp) (v:V) (u:ag) (Q:St->Hp->Prop),eG X eB σ H s->Zy v u->t v σ H Q->
  bh (b9 X.prog X.w) X.A (assign YJ X.env u) (λ_ s'=>∃ZB H',eG X eB ZB H' s'/\Q ZB H') X.xe s
def PGs(X:Cx)(ts:List da)(t:TGs):Prop:=
 ∀(eB:List (au×Obj)) (s:am) (σ:St) (H:Hp) (vs:List V) (us:List ag) (Q:St->Hp->Prop),eG X eB σ H s->Z5 vs us->t vs σ H Q->
  bh (b9 X.prog X.w) X.A (assignInOrder ((assignEach ts X.env).map (·.2)) us) (λ_ s'=>∃ZB H',eG X eB ZB H' s'/\Q ZB H') X.xe s
section
variable{pos:Pos}
def Tt(i:Nat):TG:=λv σ H Q=>Q (σ.set i (aA v)) H
theorem lD(hN:X.N.Nodup)(hi:X.N[i]? =aA x)(hx:Loc X.env.scope x)(hf:‹X.fn x=aC\/X.env.scope.names.lookup x=aA .local›):PG X (.Name x pos) (Tt i):=by intro eB s σ H v u Q I r h;exact wpAny_assign_Name (Si I hN hi hx r (λs' I'=>⟨_,H,I',h⟩) hf)
def AO:TGs:=λvs σ H Q=>vs=[]/\Q σ H
def zo(t:TG)(u:TGs):TGs:=λvs σ H Q=>∃v r,vs=v::r/\t v σ H λZB H'=>u r ZB H' Q
theorem lC:PGs X [] AO:=by intro eB s σ H vs us Q I r h;obtain⟨e,h⟩:=h;subst e;cases r;exact assignInOrder_nil ⟨σ,H,I,h⟩
theorem jR(h1:PG X e t)(h2:PGs X es u)(hs:‹(assignEach (e::es) X.env).map (·.2)=assign e X.env::(assignEach es X.env).map (·.2)›):PGs X (e::es) (zo t u):=by
 intro eB s σ H vs us Q I r h;obtain⟨v,vr,e1,h⟩:=h;subst e1;cases r with
 |cons r rr=>rw[hs];refine assignInOrder_cons (Wq (h1 eB s σ H _ _ _ I r h) λ_ s1 ZE=>?_);obtain⟨UM,H1,I1,q1⟩:=ZE;exact h2 eB s1 UM H1 _ _ Q I1 rr q1
def AN(K:af)(n:Nat)(t:TGs):TG:=λv σ H Q=>∃a xs,v= .ref a/\Mx K H a xs/\xs.length=n/\t xs σ H Q
theorem oJ{k}(hc:X.calm=aC)(h:PGs X es t)(hn:‹(assignEach es X.env).length=n›)(OW:‹(assignEach es X.env).findIdx? (·.1)=aB›):PG X (.Tuple es k pos) (AN X.K n t):=by
 intro eB s σ H v u Q I r hw;obtain⟨a,xs,e1,hq,hl,hw⟩:=hw;subst e1;cases r;obtain⟨eC,rv,ht,hz⟩:=I.tuple hq;refine assign_Tuple_tuple (I.ok.hd hc) ht (by simp[hn,<-hl,rv.length]) OW λh' hx=>?_;have I1:eG X eB σ H {s with heap:=h'}:=I.kept (t':=s.toks) λb o e=>hx b o (cj (bj e)) e;exact h eB _ σ H xs _ Q I1 (by simpa using rv) hw
def Xq(te:TE)(g:TG):TS:=λD σ H=>te σ H λx H1=>g x σ H1 D.nx
theorem oH(he:PE X e te)(hg:PG X tg g)(hs:‹swapsWithSole [tg] e pos.line X.env=pure aD›)(hw:‹swappedStores [tg] e X.env=pure aB›)(h1:‹(assignEach [tg] X.env).map (·.2)=[assign tg X.env]›):PS X (.Assign [tg] e pos) (Xq te g):=by
 intro eB s σ H D I h;refine wpAny_Assign_stores (Wq (he eB s σ H _ I h) λv s1 ⟨x,H1,I1,r1,q1⟩=>?_) hs hw;rw[h1];exact Wq (hg eB s1 σ H1 x v _ I1 r1 q1) λ_ s2 q=>q
theorem Xr(hN:X.N.Nodup)(hi:X.N[i]? =aA x)(hx:Loc X.env.scope x)(he:PE X e te)(hs:‹swapsWith e (aA (.Name x pos')) pos.line X.env=pure aD›)(hf:‹X.fn x=aC\/X.env.scope.names.lookup x=aA .local›):
  PS X (.Assign [.Name x pos'] e pos) (Xq te (Tt i)):=by
 intro eB s σ H D I h;refine wpAny_Assign_Name (Wq (he eB s σ H _ I h) λv s1 ⟨y,H1,I1,r1,q1⟩=>?_) hs;exact Si I1 hN hi hx r1 (λs2 I2=>⟨_,H1,I2,q1⟩) hf
def yw(c:TT)(tb:TS):TS:=λD σ H=>∃W:Nat->St->Hp->Prop,(∃m,W m σ H)/\∀m σ H,W m σ H->
 c σ H λb H1=>if b=aC then∃N:St->Hp->Prop,(∀ZB H',N ZB H'->∃m',m'<m/\W m' ZB H')/\tb {D with nx:=N,ct:=N,bk:=D.nx} σ H1 else D.nx σ H1
theorem jQ(hp:PassesOwn (b9 X.prog X.w) X.A X.env X.xe)(hc:PT X c tc)(hb:M0 X body tb):PS X (.While c body [] pos) (yw tc tb):=by
 intro eB s σ H D I h;obtain⟨W,⟨m0,w0⟩,turn⟩:=h;refine wpAny_While (codeAny_whileLoop (λn s'=>∃ZB H',eG X eB ZB H' s'/\W n ZB H') ?_ m0 ⟨σ,H,I,w0⟩);rintro n s1 ⟨UM,H1,I1,w1⟩;refine wpAny_passesOwn hp (Wq (hc eB s1 UM H1 _ I1 (turn n UM H1 w1)) λb s2 ZE=>?_);obtain⟨H2,I2,q2⟩:=ZE;cases b with
 |true=>
  obtain⟨N,hN,q2⟩:=q2;rw[dG rfl];refine wpAny_passesOwn hp (Wq (hb eB s2 UM H2 _ I2 q2) λf s3 q3=>?_);cases f with
  |next=>refine W1 q3 λVH H3 I3 n3=>?_;obtain⟨m',hm,w3⟩:=hN VH H3 n3;exact⟨m',hm,VH,H3,I3,w3⟩
  |cont=>refine W1 q3 λVH H3 I3 n3=>?_;obtain⟨m',hm,w3⟩:=hN VH H3 n3;exact⟨m',hm,VH,H3,I3,w3⟩
  |brk=>exact q3
  |ret v=>exact q3
 |false=>rw[dF bv];exact wpAny_execs_nil ⟨UM,H2,I2,q2⟩
end
set_option genInjectivity false in
structure It where
 go:Nat->Hp->Prop
 yld:Nat->Hp->V->Hp->Prop
 stop:Nat->Hp->Prop
def Jf(X:Cx)(eB:List (au×Obj))(H:Hp)(b:au):Prop:=
 H b=aB/\b≠X.env.locals/\b∉X.fs/\(b∈X.ex\/X.s₀.heap.objs.size<=b)/\(∀x c,X.env.cells.lookup x=aA c->c≠b)/\∀p∈X.pn++eB,p.1≠b
theorem eG.fpOk{σ:St}{b:au}(I:eG X eB σ H s)(hb:s.heap.objs.size<=b)(hn:H' b=aB):Jf X eB H' b:=by
 refine⟨hn,Nat.ne_of_gt (df I.lt hb),I.nofs hb,.inr (dm I.sz hb),λx c e z=>?_,λp hp z=>?_⟩
 .obtain⟨v,q⟩:=I.cell x c e;exact dM (df q.lt (by rw[z];exact hb)) (Nat.lt_irrefl _)
 .exact dM (df (bj (I.pin p hp).1) (by rw[z];exact hb)) (Nat.lt_irrefl _)
structure Turn(P:cg)(w:dn)(K:af)(tg:da)(J:It)(fp:List au)(it:au)(tn:Nat->f8->Prop):Prop where
 mem:it∈fp
 obj:∀i h,tn i h->∀b∈fp,∃o,h.get? b=aA o/\∀v,o.data≠.cell v
 keep:∀i h h',tn i h->(∀b∈fp,∀o,h.get? b=aA o->h'.get? b=aA o)->tn i h'
 item:∀(X:Cx),X.prog=P->X.w=w->X.K=K->X.calm=aC->∀(i:Nat) (eB:List (au×Obj)) (s:am) (σ:St) (H:Hp) (E:ag->am->Prop),eG X eB σ H s->(∀b∈fp,Jf X eB H b)->tn i s.heap->J.go i H->
  bh (b9 P w) X.A (pyNext (.ref it)) (λr s1=>∃u,r=aA u/\
   bh (b9 P w) X.A (letOwnedTupleGo tg (.ref it) u) (λ_ s2=>∃x H',eG X eB σ H' s2/\Zy x u/\J.yld i H x H'/\tn (i+1) s2.heap/\∀b∈fp,H' b=aB) E s1) E s
 done:∀(X:Cx),X.prog=P->X.w=w->X.K=K->X.calm=aC->∀(i:Nat) (eB:List (au×Obj)) (s:am) (σ:St) (H:Hp) (E:ag->am->Prop),eG X eB σ H s->(∀b∈fp,Jf X eB H b)->tn i s.heap->J.stop i H->
  bh (b9 P w) X.A (pyNext (.ref it)) (λr s1=>r=aB/\eG X eB σ H s1) E s
 self:∀(A:dg) (i:Nat) (s:am) (Q:ag->am->Prop) (E:ag->am->Prop),tn i s.heap->Q (.ref it) s->bh (b9 P w) A (pyIter (.ref it)) Q E s
abbrev TI:=St->Hp->(It->Hp->Prop)->Prop
def PIE(X:Cx)(eB:List (au×Obj))(σ:St)(tg:da)(R:It->Hp->Prop)(MZ:ag)(s2:am):Prop:=
 ∃(it:au) (fp:List au) (tn:Nat->f8->Prop) (J:It) (H':Hp),MZ= .ref it/\eG X eB σ H' s2/\Turn X.prog X.w X.K tg J fp it tn/\tn 0 s2.heap/\(∀b∈fp,Jf X eB H' b)/\R J H'
def PI(X:Cx)(tg ZF:da)(wi:TI):Prop:=
 ∀(eB:List (au×Obj)) (s:am) (σ:St) (H:Hp) (R:It->Hp->Prop),eG X eB σ H s->wi σ H R->
  bh (b9 X.prog X.w) X.A (ip ZF X.env) (λv s1=>bh (b9 X.prog X.w) X.A (pyIter v) (PIE X eB σ tg R) X.xe s1) X.xe s
theorem Eg(ho:s.heap.get? it=aA o)(hc:o.cls= .type n)(hd:o.data= .fields vs)(hn:["enumerate","zip","dict_itemiterator","dict_reverseitemiterator","odict_iterator","itertools.zip_longest","itertools.pairwise"].contains n=aD)(hQ:Q () s):bh M A (letOwnedTupleGo tg (.ref it) u) Q E s:=by
  unfold letOwnedTupleGo;cases tg<;> first
    |exact ad hQ
    | (cases u<;> first
        |exact ad hQ
        | (refine aa (wpAny_load ho ?_)
           rw[hc,hd];show bh M A (if(["enumerate","zip","dict_itemiterator","dict_reverseitemiterator","odict_iterator","itertools.zip_longest","itertools.pairwise"].contains n&&vs[0]? ==aA (rawInt _))=aC then _ else _) Q E s;rw[dF (by intro h;rw[hn,Bool.false_and]at h;cases h)];exact ad hQ))
noncomputable def Itl(K:af)(a:au):It:=
 ⟨λi H=>∃xs x,Bm K H a xs/\xs[i]? =aA x,λi H x H'=>H'=H/\∀xs,Bm K H a xs->xs[i]? =aA x,λi H=>∃xs,Bm K H a xs/\xs.length<=i⟩
noncomputable def Itt(K:af)(a:au):It:=
 ⟨λi H=>∃xs x,Mx K H a xs/\xs[i]? =aA x,λi H x H'=>H'=H/\∀xs,Mx K H a xs->xs[i]? =aA x,λi H=>∃xs,Mx K H a xs/\xs.length<=i⟩
noncomputable def Itr(lo:Int)(n:Nat):It:=⟨λi _=>i<n,λi H x H'=>H'=H/\x= .int (lo+i),λi _=>n<=i⟩
theorem iV{P:cg}{w:dn}{K:af}{tg:da}(a it:au):Turn P w K tg (Itl K a) [it] it (λi h=>h.IsListIter it a i)where
 mem:=by simp
 obj:=λi h st b hb=>by
  have e:b=it:=by simpa using hb
  subst e;refine Zp st λo e c d=>?_;exact⟨o,e,λv z=>by rw[d]at z;cases z⟩
 keep:=λi h h' st k=>st.at λo e=>k it (by simp) o e
 item:=by intro X hP hw hK hc i eB s σ H E I hf st hg;subst hP hw hK;refine W1 hg λxs x hq hx=>?_;refine Zp (I.list hq) λeC rv p hz=>?_;obtain⟨u,hu,ru⟩:=rv.get hx;refine Qi (hf it (by simp)) λf0 f1 f2 f3 f4 f5=>?_;refine wpAny_pyNext_list_item st p.isList (x:=u) (by simpa using hu) λh' YD sb=>?_;have I1:eG X eB σ H {s with heap:=h'}:=I.turned (t':=s.toks) (λb o hb e=>(sb.2 b hb).trans e) f0 f1 f3 f4 f5;refine Zp (id YD) λo e c d=>?_;exact⟨u,rfl,Eg (s:={s with heap:=h'}) e c d (by decide) ⟨x,H,I1,ru,⟨rfl,λys hy=>by rw[I.list_inj hy hq];exact hx⟩,YD,λb hb=>(hf b hb).1⟩⟩
 done:=by intro X hP hw hK hc i eB s σ H E I hf st hg;subst hP hw hK;obtain⟨xs,hq,hx⟩:=hg;refine Zp (I.list hq) λeC rv p hz=>?_;refine Qi (hf it (by simp)) λf0 f1 f2 f3 f4 f5=>?_;have hl:=rv.length;exact wpAny_pyNext_list_end (I.ok.hd hc) st p.isList (by simp;omega) λh' eb=>⟨rfl,I.turned (t':=s.toks) (λb o hb e=>eb b o hb e) f0 f1 f3 f4 f5⟩
 self:=λ_ _ _ _ _ st h=>wpAny_pyIter_listiter st h
theorem Xs{P:cg}{w:dn}{K:af}{tg:da}(a it:au):Turn P w K tg (Itt K a) [it] it (λi h=>h.IsTupleIter it a i)where
 mem:=by simp
 obj:=λi h st b hb=>by
  have e:b=it:=by simpa using hb
  subst e;refine Zp st λo e c d=>?_;exact⟨o,e,λv z=>by rw[d]at z;cases z⟩
 keep:=λi h h' st k=>st.at λo e=>k it (by simp) o e
 item:=by intro X hP hw hK hc i eB s σ H E I hf st hg;subst hP hw hK;refine W1 hg λxs x hq hx=>?_;refine Zp (I.tuple hq) λeC rv p hz=>?_;obtain⟨u,hu,ru⟩:=rv.get hx;refine Qi (hf it (by simp)) λf0 f1 f2 f3 f4 f5=>?_;refine wpAny_pyNext_tuple_item st (show s.heap.IsTuple a eC.toArray from p) (x:=u) (by simpa using hu) λh' YD sb=>?_;have I1:eG X eB σ H {s with heap:=h'}:=I.turned (t':=s.toks) (λb o hb e=>(sb.2 b hb).trans e) f0 f1 f3 f4 f5;refine Zp (id YD) λo e c d=>?_;exact⟨u,rfl,Eg (s:={s with heap:=h'}) e c d (by decide) ⟨x,H,I1,ru,⟨rfl,λys hy=>by rw[I.tuple_inj hy hq];exact hx⟩,YD,λb hb=>(hf b hb).1⟩⟩
 done:=by intro X hP hw hK hc i eB s σ H E I hf st hg;subst hP hw hK;obtain⟨xs,hq,hx⟩:=hg;refine Zp (I.tuple hq) λeC rv p hz=>?_;refine Qi (hf it (by simp)) λf0 f1 f2 f3 f4 f5=>?_;have hl:=rv.length;exact wpAny_pyNext_tuple_end (I.ok.hd hc) st (show s.heap.IsTuple a eC.toArray from p) (by simp;omega) λh' eb=>⟨rfl,I.turned (t':=s.toks) (λb o hb e=>eb b o hb e) f0 f1 f3 f4 f5⟩
 self:=λ_ _ _ _ _ st h=>wpAny_pyIter_tupleiter st h
theorem Xt{P:cg}{w:dn}{K:af}{tg:da}(it:au)(lo:Int)(n:Nat):Turn P w K tg (Itr lo n) [it] it (λi h=>IsRangeIter h it (lo+(i:Nat)*1) ((n:Int)- (i:Nat)) 1)where
 mem:=by simp
 obj:=λi h st b hb=>by
  have e:b=it:=by simpa using hb
  subst e;exact⟨_,st,λv z=>by
   have z':Data.fields _=Data.cell v:=z;cases z'⟩
 keep:=λi h h' st k=>k it (by simp) _ st
 item:=by intro X hP hw hK hc i eB s σ H E I hf st hg;subst hP hw hK;refine Qi (hf it (by simp)) λf0 f1 f2 f3 f4 f5=>?_;have W:=Walks.range (prog:=X.prog) (w:=X.w) (I.ok.hd hc) it lo 1 n;refine W.item i s _ _ hg st λv h' tk hv YD kk=>?_;obtain⟨t,rfl⟩:=hv;have I1:eG X eB σ H {s with heap:=h',toks:=tk}:=I.turned (λb o hb e=>kk b o (by simpa using hb) e) f0 f1 f3 f4 f5;refine⟨_,rfl,Eg (s:={s with heap:=h',toks:=tk}) (n:="range_iterator") YD rfl rfl (by decide) ⟨.int (lo+i),H,I1,⟨t,?_⟩,⟨rfl,rfl⟩,YD,λb hb=>(hf b hb).1⟩⟩;rw[Int.mul_one]
 done:=by intro X hP hw hK hc i eB s σ H E I hf st hg;subst hP hw hK;refine Qi (hf it (by simp)) λf0 f1 f2 f3 f4 f5=>?_;exact wpAny_pyNext_range_end (I.ok.hd hc) st (by have:n<=i:=hg;omega) λh' eb=>⟨rfl,I.turned (t':=s.toks) (λb o hb e=>eb b o hb e) f0 f1 f3 f4 f5⟩
 self:=λ_ _ _ _ _ st h=>wpAny_pyIter_rangeiter st h
theorem jP{σ:St}{lo:Int}(I:eG X eB σ H s)(h1:-(2^62)<=lo)(h2:lo<2^62)(h3:-(2^62)<=hi)(h4:hi<2^62)(q:R (Itr lo (hi- lo).toNat) H):bh (b9 X.prog X.w) X.A (pyIter (.ref s.heap.objs.size)) (PIE X eB σ tg R) E {s with heap:=s.heap.push {cls:=.type "range",data:=.fields #[.int lo t,.int hi u,.int 1 v]},toks:=tk}:=by
 refine wpAny_pyIter_range (IsRange.new ..) (small_one h1 h2 h3 h4) ?_;have I1:eG X eB σ H {s with heap:=s.heap.push {cls:=.type "range",data:=.fields #[.int lo t,.int hi u,.int 1 v]},toks:=tk}:=I.kept λb o e=>aq _ e;refine⟨(s.heap.push {cls:=.type "range",data:=.fields #[.int lo t,.int hi u,.int 1 v]}).objs.size,[(s.heap.push {cls:=.type "range",data:=.fields #[.int lo t,.int hi u,.int 1 v]}).objs.size],_,_,H,rfl,
  I1.kept (t':=tk) λb o e=>aq _ e,Xt _ lo (hi- lo).toNat,?_,λb hb=>?_,q⟩
 .have e1:lo+((0:Nat):Int)*1=lo:=by simp
  have e2:(((hi- lo).toNat:Nat):Int)- ((0:Nat):Int)=Builtin.Range.rangeSize lo hi 1:=by rw[rangeSize_one];split<;> omega
  show IsRangeIter _ _ (lo+((0:Nat):Int)*1) ((((hi- lo).toNat:Nat):Int)- ((0:Nat):Int)) 1;rw[e1,e2];exact bi _ rfl
 .have e:b=(s.heap.push {cls:=.type "range",data:=.fields #[.int lo t,.int hi u,.int 1 v]}).objs.size:=by simpa using hb
  subst e;exact I1.fpOk (bf _) (I1.hok.fresh (bf _))
def yG(ta:TA):TI:=λσ H R=>ta σ H λvs H1=>∃j:Int,vs=[.int j]/\-(2^62)<=j/\j<2^62/\R (Itr 0 j.toNat) H1
theorem iU(hg:Gl X "range")(hm:X.mg "range"=aB)(ha:PA X [a] ta)(hs:‹bd [a] X.env=[(aD,ip a X.env)]›):PI X tg (.Call (.Name "range" p) [a] [] pos) (yG ta):=by
 intro eB s σ H R I h;refine Call_ (O9 I hg hm boot_range (PyProof.Rows.callWith_type1 (Wq (ha pos eB s σ H _ I h) λus s1 ⟨vs,H1,I1,r1,q1⟩=>?_) hs rfl));obtain⟨j,e,q1,q2,q⟩:=q1;subst e;cases r1 with
 |cons r rr=>cases rr;obtain⟨t,rfl⟩:=r;exact call_range_1 (jP I1 (by omega) (by omega) q1 q2 (by simpa using q))
def AM(wi:TI)(g:TG)(tb:TS):TS:=λD σ H=>wi σ H λJ H1=>∃W:Nat->Nat->St->Hp->Prop,(∃m,W 0 m σ H1)/\∀i m σ H,W i m σ H->
 (J.stop i H/\D.nx σ H)\/(J.go i H/\∃N:St->Hp->Prop,(∀ZB H',N ZB H'->∃m',m'<m/\W (i+1) m' ZB H')/\∀x H',J.yld i H x H'->g x σ H' λWW H2=>tb {D with nx:=N,ct:=N,bk:=D.nx} WW H2)
noncomputable def Eh(fp:List au)(h:f8):List (au×Obj):=fp.filterMap λb=>(h.get? b).map λo=>(b,o)
theorem B3(hb:b∈fp)(e:h.get? b=aA o):(b,o)∈Eh fp h:=List.mem_filterMap.mpr ⟨b,hb,by rw[e];rfl⟩
theorem iT(hp:p∈Eh fp h):p.1∈fp/\h.get? p.1=aA p.2:=by
 obtain⟨b,hb,e⟩:=List.mem_filterMap.mp hp;cases q:h.get? b with
 |none=>rw[q]at e;cases e
 |some o=>rw[q]at e;have e':(b,o)=p:=dq.inj e;subst e';exact⟨hb,q⟩
theorem eG.pinned{σ:St}(I:eG X eB σ H s)(hf:∀b∈fp,Jf X eB H b)(ho:∀b∈fp,∃o,s.heap.get? b=aA o/\∀v,o.data≠.cell v):eG X (eB++Eh fp s.heap) σ H s:=
 I.pins_of λp hp=>(bo.mp hp).elim (λz=>I.pin p (bp _ z)) λz=>by obtain⟨hb,e⟩:=iT z;obtain⟨f0,f1,f2,_⟩:=hf p.1 hb;obtain⟨o,e',d⟩:=ho p.1 hb;rw[e]at e';cases e';exact⟨e,f0,f1,f2,d⟩
theorem eG.unpinned{σ:St}(I:eG X (eB++pl) σ H s):eG X eB σ H s:=I.pins_of λp hp=>I.pin p (bp _ (bu _ hp))
theorem oG {ZF:da}{body:List Stmt}{wi:TI}{g:TG}{tb:TS}{pos:Pos}(hp:PassesOwn (b9 X.prog X.w) X.A X.env X.xe)(hc:X.calm=aC)(hi:PI X tg ZF wi)(hg:PG X tg g)(hb:M0 X body tb)(hs:‹∀ x,foldedSetIterable ZF X.env x=pure x›):PS X (.For tg ZF body [] pos) (AM wi g tb):=by
  intro eB s σ H D I h;refine wpAny_For (Wq (hi eB s σ H _ I h) λv s1 h1=>Wq h1 λMZ s2 h2=>?_) hs;obtain ⟨it,fp,tn,J,H2,e,I2,T,OA,f2,W,⟨m0,w0⟩,turn⟩:=h2;subst e
  have SU:∀ {H':Hp},(∀ b ∈ fp,H' b=aB)->∀ b ∈ fp,Jf X eB H' b:=λhn b hb=>⟨hn b hb,(f2 b hb).2⟩
  refine codeAny_forLoop_any (λn s'=>∃ i ZB H',eG X eB ZB H' s'/\tn i s'.heap/\(∀ b ∈ fp,H' b=aB)/\W i n ZB H') ?_ m0 ⟨0,σ,H2,I2,OA,λb hb=>(f2 b hb).1,w0⟩;rintro n s3 ⟨i,VH,H3,I3,st3,fr3,w3⟩;rcases turn i n VH H3 w3 with ⟨stop,qn⟩ | ⟨go,N,hN,step⟩
  · refine wpAny_passesOwn hp (Wq (T.done X rfl rfl rfl hc i eB s3 VH H3 X.xe I3 (SU fr3) st3 stop) λr s4 ⟨hr,I4⟩=>?_)
    subst hr;exact wpAny_execs_nil ⟨VH,H3,I4,qn⟩
  · refine wpAny_passesOwn hp (Wq (T.item X rfl rfl rfl hc i eB s3 VH H3 X.xe I3 (SU fr3) st3 go) λr s4 ⟨u,hr,h4⟩=>?_)
    subst hr;refine wpAny_passesOwn hp (Wq h4 λ_ s5 ZE=>?_);obtain ⟨x,H5,I5,r5,y5,st5,fr5⟩:=ZE;have I5':=I5.pinned (SU fr5) (T.obj _ _ st5);refine wpAny_passesOwn hp (Wq (hg _ s5 VH H5 x u _ I5' r5 (step x H5 y5)) λ_ s6 ZE=>?_);obtain ⟨XQ,H6,I6,q6⟩:=ZE;refine wpAny_passesOwn hp (Wq (hb _ s6 XQ H6 _ I6 q6) λf s7 q7=>?_);have again:∀ {YT:St} {H7:Hp},eG X (eB ++ Eh fp s5.heap) YT H7 s7->N YT H7->∃ m,m < n/\∃ i ZB H',eG X eB ZB H' s7/\tn i s7.heap/\(∀ b ∈ fp,H' b=aB)/\W i m ZB H':=λ{YT H7} I7 n7=>by obtain ⟨m',hm,w7⟩:=hN YT H7 n7;refine ⟨m',hm,i + 1,YT,H7,I7.unpinned,T.keep _ _ _ st5 λb hb o e=>(I7.pin (b,o) (bp _ (bp _ (B3 hb e)))).1,λb hb=>?_,w7⟩;obtain ⟨o,e,d⟩:=T.obj _ _ st5 b hb;exact (I7.pin (b,o) (bp _ (bp _ (B3 hb e)))).2.1
    cases f with
    | next=>refine W1 q7 λYT H7 I7 n7=>?_;exact again I7 n7
    | cont=>refine W1 q7 λYT H7 I7 n7=>?_;exact again I7 n7
    | brk=>refine W1 q7 λYT H7 I7 q7=>?_;exact ⟨YT,H7,I7.unpinned,q7⟩
    | ret v=>obtain ⟨x7,YT,H7,I7,r7,q7⟩:=q7; exact ⟨x7,YT,H7,I7.unpinned,r7,q7⟩
abbrev R2:=V->V->Hp->VK->Prop
def Bo(X:Cx)(f:ag->ag->Sem ag)(r:R2):Prop:=
 ∀(eB:List (au×Obj)) (s:am) (σ:St) (H:Hp) (x y:V) (v u:ag) (Q:VK),eG X eB σ H s->Zy x v->Zy y u->r x y H Q->
  bh (b9 X.prog X.w) X.A (f v u) (EP X eB σ Q) X.xe s
def UnR(X:Cx)(f:ag->Sem ag)(r:V->Hp->VK->Prop):Prop:=
 ∀(eB:List (au×Obj)) (s:am) (σ:St) (H:Hp) (x:V) (v:ag) (Q:VK),eG X eB σ H s->Zy x v->r x H Q->
  bh (b9 X.prog X.w) X.A (f v) (EP X eB σ Q) X.xe s
def Jq(X:Cx)(f:ag)(r:List V->Hp->VK->Prop):Prop:=
 ∀(eB:List (au×Obj)) (s:am) (σ:St) (H:Hp) (xs:List V) (us:List ag) (Q:VK),eG X eB σ H s->Z5 xs us->r xs H Q->
  bh (b9 X.prog X.w) X.A (call f us) (EP X eB σ Q) X.xe s
def tOp(r:R2)(ta tb:TE):TE:=λσ H Q=>ta σ H λx H1=>tb σ H1 λy H2=>r x y H2 Q
def tUn(r:V->Hp->VK->Prop)(ta:TE):TE:=λσ H Q=>ta σ H λx H1=>r x H1 Q
def rI(C:Int->Int->Prop)(g:Int->Int->V):R2:=λx y H Q=>∃i j,x= .int i/\y= .int j/\C i j/\Q (g i j) H
def rI0(g:Int->Int->V):R2:=λx y H Q=>∃i j,x= .int i/\y= .int j/\Q (g i j) H
def rU(g:Int->V):V->Hp->VK->Prop:=λx H Q=>∃i,x= .int i/\Q (g i) H
theorem ED(ha:PE X a ta)(hb:PE X b tb){σ:St}{R:V->V->Hp->Prop}(I:eG X eB σ H s)(h:ta σ H λx H1=>tb σ H1 λy H2=>R x y H2){f:ag->ag->Sem ag}(hf:∀v u s2 x y H2,eG X eB σ H2 s2->Zy x v->Zy y u->R x y H2->bh (b9 X.prog X.w) X.A (f v u) Q X.xe s2):
  bh (b9 X.prog X.w) X.A (ip a X.env) (λv s₁=>bh (b9 X.prog X.w) X.A (ip b X.env) (λu s₂=>bh (b9 X.prog X.w) X.A (f v u) Q X.xe s₂) X.xe s₁) X.xe s:=by
 refine Wq (ha eB s σ H _ I h) λv s1 ZE=>?_;obtain⟨x,H1,I1,r1,q1⟩:=ZE;refine Wq (hb eB s1 σ H1 _ I1 q1) λu s2 ZE=>?_;obtain⟨y,H2,I2,r2,q2⟩:=ZE;exact hf v u s2 x y H2 I2 r1 r2 q2
theorem qF(ho:Bo X (binaryOp op) r)(ha:PE X a ta)(hb:PE X b tb):PE X (.BinOp a op b pos) (tOp r ta tb):=by intro eB s σ H Q I h;exact wpAny_BinOp (ED ha hb I h λv u s2 x y H2 I2 rx ry q=>ho eB s2 σ H2 x y v u Q I2 rx ry q)
theorem qE(ho:UnR X (unaryOp op) r)(ha:PE X a ta):PE X (.UnaryOp op a pos) (tUn r ta):=by intro eB s σ H Q I h;exact UnaryOp_ (Wq (ha eB s σ H _ I h) λv s1 ⟨x,H1,I1,r1,q1⟩=>ho eB s1 σ H1 x v Q I1 r1 q1)
theorem opI{g:Int->Int->Int}(rule:∀i j t u s Q E,C i j->Q (.int (g i j) s.toks) {s with toks:=s.toks+1}->bh (b9 X.prog X.w) X.A (f (.int i t) (.int j u)) Q E s):
  Bo X f (rI C λi j=>.int (g i j)):=by
 intro eB s σ H x y v u Q I rx ry h;obtain⟨i,j,rfl,rfl,hc,q⟩:=h;obtain⟨t,rfl⟩:=rx;obtain⟨t',rfl⟩:=ry;exact rule i j t t' s _ _ hc ⟨.int (g i j),H,I.tok _,⟨_,rfl⟩,q⟩
theorem AL{g:Int->Int->Int}(rule:∀i j t u s Q E,Q (.int (g i j) s.toks) {s with toks:=s.toks+1}->bh (b9 X.prog X.w) X.A (f (.int i t) (.int j u)) Q E s):
  Bo X f (rI0 λi j=>.int (g i j)):=by
 intro eB s σ H x y v u Q I rx ry h;obtain⟨i,j,rfl,rfl,q⟩:=h;obtain⟨t,rfl⟩:=rx;obtain⟨t',rfl⟩:=ry;exact rule i j t t' s _ _ ⟨.int (g i j),H,I.tok _,⟨_,rfl⟩,q⟩
theorem EC{g:Int->Int->Bool}(rule:∀i j t u s Q E,Q (.bool (g i j)) s->bh (b9 X.prog X.w) X.A (f (.int i t) (.int j u)) Q E s):
  Bo X f (rI0 λi j=>.bl (g i j)):=by
 intro eB s σ H x y v u Q I rx ry h;obtain⟨i,j,rfl,rfl,q⟩:=h;obtain⟨t,rfl⟩:=rx;obtain⟨t',rfl⟩:=ry;exact rule i j t t' s _ _ ⟨.bl (g i j),H,I,rfl,q⟩
def AK(i j:Int):Prop:=0<j/\j<1073741824
def MK(i j:Int):Prop:=(-(2^64)<i/\i<2^64)\/(-(2^64)<j/\j<2^64)
theorem MK.ok(h:MK i j):IntMulOk i j:=by
 rcases h with⟨h1,h2⟩|⟨h1,h2⟩
 .exact .of_left (intBits_le_64 h1 h2)
 .exact .of_right (intBits_le_64 h1 h2)
theorem oF:Bo X (binaryOp .Add) (rI0 λi j=>.int (i+j)):=AL λ_ _ _ _ _ _ _ q=>add_int q
theorem oE:Bo X (binaryOp .Sub) (rI0 λi j=>.int (i- j)):=AL λ_ _ _ _ _ _ _ q=>sub_int q
theorem oy:Bo X (binaryOp .Mult) (rI MK λi j=>.int (i*j)):=opI λ_ _ _ _ _ _ _ hc q=>mul_int q hc.ok
theorem lB:Bo X (binaryOp .FloorDiv) (rI AK λi j=>.int (i / j)):=opI λi j _ _ _ _ _ hc q=>by have h1:(0:Int)<j:=hc.1;have h2:j<1073741824:=hc.2;exact floordiv_int (by omega) (by rw[Int.fdiv_eq_ediv_of_nonneg i (by omega)];exact q) (.inl (PyProof.noPylong_small (by omega)))
theorem ox:Bo X (binaryOp .Mod) (rI (λ_ j=>0<j) λi j=>.int (i % j)):=opI λi j _ _ _ _ _ hc q=>by have h1:(0:Int)<j:=hc;exact mod_int' (by omega) (by rw[Int.fmod_eq_emod_of_nonneg i (by omega)];exact q)
theorem unI{g:Int->Int}(rule:∀i t s Q E,Q (.int (g i) s.toks) {s with toks:=s.toks+1}->bh (b9 X.prog X.w) X.A (f (.int i t)) Q E s):
  UnR X f (rU λi=>.int (g i)):=by
 intro eB s σ H x v Q I rx h;obtain⟨i,rfl,q⟩:=h;obtain⟨t,rfl⟩:=rx;exact rule i t s _ _ ⟨.int (g i),H,I.tok _,⟨_,rfl⟩,q⟩
theorem ou:UnR X (unaryOp .USub) (rU λi=>.int (-i)):=unI λ_ _ _ _ _ q=>neg_int q
noncomputable def scal:V->V->Bool
 | .non,.non=>aC| .non,.int _=>aC| .int _,.non=>aC| .non,.bl _=>aC| .bl _,.non=>aC| .non,.str _=>aC| .str _,.non=>aC
 | .int _,.int _=>aC| .bl _,.bl _=>aC| .str _,.str _=>aC| .byt _,.byt _=>aC
 | .int _,.str _=>aC| .str _,.int _=>aC| .bl _,.str _=>aC| .str _,.bl _=>aC
 |_,_=>aD
def rEq:R2:=λx y H Q=>scal x y=aC/\Q (.bl (decide (x=y))) H
def rNe:R2:=λx y H Q=>scal x y=aC/\Q (.bl (!decide (x=y))) H
theorem wD:decide (V.int i=V.int j)=(i==j):=by rw[Bool.eq_iff_iff];simp
theorem yv:decide (V.bl i=V.bl j)=(i==j):=by rw[Bool.eq_iff_iff];simp
theorem wC:decide (V.str i=V.str j)=(i==j):=by rw[Bool.eq_iff_iff];simp
theorem wB:decide (V.byt i=V.byt j)=(i.toList==j.toList):=by rw[Bool.eq_iff_iff];cases i;cases j;simp
theorem Ym{σ:St}(I:eG X eB σ H s)(q:Q (.bl k) H)(e:k=k'):EP X eB σ Q (.bool k') s:=by subst e;exact⟨.bl k,H,I,rfl,q⟩
theorem yF:Bo X (ik .Eq) rEq:=by
 intro eB s σ H x y v u Q I rx ry h;obtain⟨hs,q⟩:=h;cases x with
 |non=>
  cases rx;cases y with
  |non=>cases ry;exact PySem.EqNone.eq_none_none (Ym I q (by simp))
  |bl j=>cases ry;exact PySem.EqNone.eq_none_bool (Ym I q (by simp))
  |int j=>obtain⟨t',rfl⟩:=ry;exact PySem.EqNone.eq_none_int (Ym I q (by simp))
  |str j=>obtain⟨t',rfl⟩:=ry;exact PySem.EqNone.eq_none_str (Ym I q (by simp))
  |_=>exact dM (show aD=aC from hs) bv
 |bl i=>
  cases rx;cases y with
  |non=>cases ry;exact PySem.EqNone.eq_bool_none (Ym I q (by simp))
  |bl j=>cases ry;exact eq_bool (Ym I q yv)
  |str j=>obtain⟨t',rfl⟩:=ry;exact PySem.EqMixed.eq_bool_str (Ym I q (by simp))
  |_=>exact dM (show aD=aC from hs) bv
 |int i=>
  obtain⟨t,rfl⟩:=rx;cases y with
  |non=>cases ry;exact PySem.EqNone.eq_int_none (Ym I q (by simp))
  |int j=>obtain⟨t',rfl⟩:=ry;exact eq_int (Ym I q wD)
  |str j=>obtain⟨t',rfl⟩:=ry;exact PySem.EqMixed.eq_int_str (Ym I q (by simp))
  |_=>exact dM (show aD=aC from hs) bv
 |str i=>
  obtain⟨t,rfl⟩:=rx;cases y with
  |non=>cases ry;exact PySem.EqNone.eq_str_none (Ym I q (by simp))
  |bl j=>cases ry;exact PySem.EqMixed.eq_str_bool (Ym I q (by simp))
  |int j=>obtain⟨t',rfl⟩:=ry;exact PySem.EqMixed.eq_str_int (Ym I q (by simp))
  |str j=>obtain⟨t',rfl⟩:=ry;exact eq_str (Ym I q wC)
  |_=>exact dM (show aD=aC from hs) bv
 |byt i=>
  obtain⟨t,rfl⟩:=rx;cases y with
  |byt j=>obtain⟨t',rfl⟩:=ry;exact PySem.W.eq_bytes (Ym I q wB)
  |_=>exact dM (show aD=aC from hs) bv
 |_=>cases y<;> exact dM (show aD=aC from hs) bv
theorem qD:Bo X (ik .NotEq) rNe:=by
 intro eB s σ H x y v u Q I rx ry h;obtain⟨hs,q⟩:=h;cases x with
 |non=>
  cases rx;cases y with
  |non=>cases ry;exact PySem.EqNone.ne_none_none (Ym I q (by simp))
  |bl j=>cases ry;exact PySem.EqNone.ne_none_bool (Ym I q (by simp))
  |int j=>obtain⟨t',rfl⟩:=ry;exact PySem.EqNone.ne_none_int (Ym I q (by simp))
  |str j=>obtain⟨t',rfl⟩:=ry;exact PySem.EqNone.ne_none_str (Ym I q (by simp))
  |_=>exact dM (show aD=aC from hs) bv
 |bl i=>
  cases rx;cases y with
  |non=>cases ry;exact PySem.EqNone.ne_bool_none (Ym I q (by simp))
  |bl j=>cases ry;exact ne_bool (Ym I q (congrArg not yv))
  |str j=>obtain⟨t',rfl⟩:=ry;exact PySem.EqMixed.ne_bool_str (Ym I q (by simp))
  |_=>exact dM (show aD=aC from hs) bv
 |int i=>
  obtain⟨t,rfl⟩:=rx;cases y with
  |non=>cases ry;exact PySem.EqNone.ne_int_none (Ym I q (by simp))
  |int j=>obtain⟨t',rfl⟩:=ry;exact ne_int (Ym I q (congrArg not wD))
  |str j=>obtain⟨t',rfl⟩:=ry;exact PySem.EqMixed.ne_int_str (Ym I q (by simp))
  |_=>exact dM (show aD=aC from hs) bv
 |str i=>
  obtain⟨t,rfl⟩:=rx;cases y with
  |non=>cases ry;exact PySem.EqNone.ne_str_none (Ym I q (by simp))
  |bl j=>cases ry;exact PySem.EqMixed.ne_str_bool (Ym I q (by simp))
  |int j=>obtain⟨t',rfl⟩:=ry;exact PySem.EqMixed.ne_str_int (Ym I q (by simp))
  |str j=>obtain⟨t',rfl⟩:=ry;exact ne_str (Ym I q (congrArg not wC))
  |_=>exact dM (show aD=aC from hs) bv
 |byt i=>
  obtain⟨t,rfl⟩:=rx;cases y with
  |byt j=>obtain⟨t',rfl⟩:=ry;exact PySem.W.ne_bytes (Ym I q (congrArg not wB))
  |_=>exact dM (show aD=aC from hs) bv
 |_=>cases y<;> exact dM (show aD=aC from hs) bv
theorem qC:Bo X (ik .Lt) (rI0 λi j=>.bl (decide (i<j))):=EC λ_ _ _ _ _ _ _ q=>lt_int q
theorem qB:Bo X (ik .Gt) (rI0 λi j=>.bl (decide (j<i))):=EC λ_ _ _ _ _ _ _ q=>gt_int q
theorem yE:Bo X (ik .GtE) (rI0 λi j=>.bl (decide (j<=i))):=EC λ_ _ _ _ _ _ _ q=>ge_int q
theorem iS:Bo X (ik .In) (λx y H Q=>∃i j,x= .str i/\y= .str j/\Q (.bl (!(fq j i 0 j.length 1).isEmpty)) H):=by intro eB s σ H x y v u Q I rx ry h;obtain⟨i,j,rfl,rfl,q⟩:=h;obtain⟨t,rfl⟩:=rx;obtain⟨t',rfl⟩:=ry;exact in_str (Ym I q rfl)
theorem ot:Bo X (ik .Is) (λx y H Q=>y= .non/\Q (.bl (decide (x= .non))) H):=by
 intro eB s σ H x y v u Q I rx ry h;obtain⟨rfl,q⟩:=h;cases ry;refine is_none_gen (Ym I q ?_);cases x<;> first
  | (cases rx;rfl)
  | (obtain⟨t,rfl⟩:=rx;rfl)
theorem lA:Bo X (ik .IsNot) (λx y H Q=>y= .non/\Q (.bl (!decide (x= .non))) H):=by
 intro eB s σ H x y v u Q I rx ry h;obtain⟨rfl,q⟩:=h;cases ry;refine isnot_none_gen (Ym I q ?_);cases x<;> first
  | (cases rx;rfl)
  | (obtain⟨t,rfl⟩:=rx;rfl)
theorem Bo.or(h:Bo X f r)(h':Bo X f r'):Bo X f (λx y H Q=>r x y H Q\/r' x y H Q):=by
 intro eB s σ H x y v u Q I rx ry q;rcases q with q|q
 .exact h eB s σ H x y v u Q I rx ry q
 .exact h' eB s σ H x y v u Q I rx ry q
theorem B4(b)(h:‹op≠.In›)(h2:‹op≠.NotIn›):behindInMarks op b=aD:=by
 have e1:(op==CmpOp.In)=aD:=by cases op<;> first|rfl|exact dM rfl h
 have e2:(op==CmpOp.NotIn)=aD:=by cases op<;> first|rfl|exact dM rfl h2
 cases b<;> simp[behindInMarks,e1,e2]
theorem m_(ho:Bo X (ik op) r)(ha:PE X a ta)(hb:PE X b tb)(hm:behindInMarks op b=aD):PE X (.Compare a [op] [b] pos) (tOp r ta tb):=by intro eB s σ H Q I h;exact wpAny_Compare1 (ED ha hb I h λv u s2 x y H2 I2 rx ry q=>ho eB s2 σ H2 x y v u Q I2 rx ry q) hm
def yD(t:TE):TT:=λσ H Q=>t σ H λx H'=>∃k,x= .bl k/\Q k H'
theorem m9(ho:Bo X (ik op) r)(ha:PE X a ta)(hb:PE X b tb)(hm:behindInMarks op b=aD):PT X (.Compare a [op] [b] pos) (yD (tOp r ta tb)):=by
 intro eB s σ H Q I h;refine wpAny_isTrue_Compare1 (Wq (ha eB s σ H _ I h) λv s1 ⟨x,H1,I1,r1,q1⟩=>Wq (hb eB s1 σ H1 _ I1 q1) λu s2 ⟨y,H2,I2,r2,q2⟩=>
  Wq (ho eB s2 σ H2 x y v u _ I2 r1 r2 q2) λc s3 ⟨z,H3,I3,r3,k,e,q3⟩=>?_) hm
 subst e;cases r3;exact wpAny_truthy_bool ⟨H3,I3,q3⟩
theorem Ei:(sizeLine:Nat)<2^63:=by rw[gp];decide
theorem Xu:Bo X (binaryOp .Add) (λx y H Q=>∃i j,x= .str i/\y= .str j/\i.length+j.length<=sizeLine/\Q (.str (i++j)) H):=by intro eB s σ H x y v u Q I rx ry h;obtain⟨i,j,rfl,rfl,hz,q⟩:=h;obtain⟨t,rfl⟩:=rx;obtain⟨t',rfl⟩:=ry;exact add_str (λt' tk=>⟨.str (i++j),H,I.tok _,⟨_,rfl⟩,q⟩) hz
theorem Uu(r:Z5 [x] us):∃u,us=[u]/\Zy x u:=by
 cases r with
 |cons r1 r2=>cases r2;exact⟨_,rfl,r1⟩
theorem qA(r:Z5 [x,y] us):∃u w',us=[u,w']/\Zy x u/\Zy y w':=by
 cases r with
 |cons r1 r2=>
  cases r2 with
  |cons r3 r4=>cases r4;exact⟨_,_,rfl,r1,r3⟩
theorem iR:Jq X (.type "int") (λxs H Q=>(∃i,xs=[.int i]/\Q (.int i) H)\/∃k,xs=[.bl k]/\Q (.int (if k then 1 else 0)) H):=by
 intro eB s σ H xs us Q I r h;rcases h with⟨i,rfl,q⟩|⟨k,rfl,q⟩
 .obtain⟨u,rfl,t,rfl⟩:=Uu r;exact call_int_int ⟨.int i,H,I,⟨_,rfl⟩,q⟩
 .obtain⟨u,rfl,r1⟩:=Uu r;cases r1;exact call_int_bool ⟨.int (if k then 1 else 0),H,I.tok _,⟨_,rfl⟩,q⟩
theorem Nm:Jq X (.type "str") (λxs H Q=>∃i,xs=[.int i]/\i.natAbs.log2<1920/\Q (.str (toString i)) H):=by intro eB s σ H xs us Q I r h;obtain⟨i,rfl,hz,q⟩:=h;obtain⟨u,rfl,t,rfl⟩:=Uu r;exact PySem.P.str_of_int hz ⟨.str _,H,I.tok _,⟨_,rfl⟩,q⟩
noncomputable def tI(f:Str)(v:V):List (Str×V)->List (Str×V)
  | []=>[(f,v)]
  | (g,x)::r=>if g=f then(g,v)::r else(g,x)::tI f v r
theorem R7.some_of(r:R7 (aA v) o):∃u,o=aA u/\Zy v u:=by
 cases o with
 |none=>exact(show False from r).elim
 |some u=>exact⟨u,rfl,r⟩
structure eT(k:Nat)(A:dg):Prop where
 hd:A.handled=aB
 dp:A.depth+3*k+5<recursionLimit
 un:A.units+16*k+200<f9
theorem eT.mono(r:eT k A)(h:j<=k):eT j A:=⟨r.hd,by have:=r.dp;omega,by have:=r.un;omega⟩
theorem eT.deeper(r:eT (k+1) A)(env):eT k (A.deeper env):=
 ⟨r.hd,by have:=r.dp;show A.depth+1+3*k+5<_;omega,by have:=r.un;show A.units+3+16*k+200<_;omega⟩
theorem eT.in1(r:eT (k+1) A):eT k A.in1:=
 ⟨r.hd,by have:=r.dp;show A.depth+3*k+5<_;omega,by have:=r.un;show A.units+1+16*k+200<_;omega⟩
theorem eT.depth(r:eT k A):A.depth<recursionLimit:=by have:=r.dp;omega
theorem eT.units(r:eT k A):A.units+64<cLine:=by have:=r.un;omega
def Xv:TA:=λ_ H Q=>Q [] H
def Kr(ta:TE)(tr:TA):TA:=λσ H Q=>ta σ H λx H1=>tr σ H1 λxs H2=>Q (x::xs) H2
theorem Cv:PA X [] Xv:=λ_ _ _ _ H Q I h=>Calls.spliced_nil ⟨[],H,I,.nil,h⟩
theorem B5(ha:PE X e te)(hr:PA X es t)(hs:‹bd (e::es) X.env=(aD,ip e X.env)::bd es X.env›):PA X (e::es) (Kr te t):=by intro pos eB s σ H Q I h;rw[hs];show bh _ _ (spliced ((aD,ip e X.env)::gd pos (bd es X.env))) _ _ s;refine Calls.spliced_cons (Wq (ha eB s σ H _ I h) λu s1 ZE=>?_);obtain⟨x,H1,I1,r1,q1⟩:=ZE;exact Wq (hr pos eB s1 σ H1 _ I1 q1) λus s2 ⟨xs,H2,I2,r2,q2⟩=>⟨x::xs,H2,I2,.cons r1 r2,q2⟩
def AJ(t:TA):TE:=λσ H Q=>t σ H λxs H1=>xs.length<=sizeLine/\∀p,H1 p=aB->Q (.ref p) (Y7 H1 p (.tup xs))
def EF(t:TA):TE:=λσ H Q=>t σ H λxs H1=>xs.length<=sizeLine/\∀p,H1 p=aB->Q (.ref p) (Y7 H1 p (.lst xs))
theorem oq (h:PA X es t):PE X (.Tuple es x1 pos) (AJ t):=by intro eB s σ H Q I hq;refine wpAny_Tuple_spliced (Wq (h pos eB s σ H _ I hq) λus s1 ⟨xs,H1,I1,r,z,q⟩=>⟨by rw[<-r.length];exact z,?_⟩);have hf:H1 s1.heap.objs.size=aB:=I1.hok.fresh (bf _);refine⟨.ref s1.heap.objs.size,Y7 H1 s1.heap.objs.size (.tup xs),I1.laid (t':=s1.toks) (λb u e=>aq _ e) (bf _) ?_,rfl,q _ hf⟩;exact⟨z,us,r,⟨_,bi _ rfl,rfl,_,rfl⟩⟩
theorem Xw(h:PA X es t):PE X (.List es pos) (EF t):=by intro eB s σ H Q I hq;refine wpAny_List_spliced (Wq (h pos eB s σ H _ I hq) λus s1 ⟨xs,H1,I1,r,z,q⟩=>⟨by rw[<-r.length];exact z,?_⟩);have hf:H1 s1.heap.objs.size=aB:=I1.hok.fresh (bf _);refine⟨.ref s1.heap.objs.size,Y7 H1 s1.heap.objs.size (.lst xs),I1.laid (t':=s1.toks) (λb u e=>aq _ e) (bf _) ?_,rfl,q _ hf⟩;exact⟨z,us,0,r,bi _ rfl⟩
abbrev Sp:=List V->Hp->VK->XK->Prop
abbrev CXT:=List Env->Hp->am->XK->ag->am->Prop
structure Env0(P:cg)(w:dn)(K:af)(mg:Str->Option ag)(base:f8)(A:dg)(outer:List Env)(s:am)(H:Hp):Prop where
 frames:A.frames=aA outer
 mod:Mod K mg base
 bs:∀b o,base.get? b=aA o->s.heap.get? b=aA o/\H b=aB
 bsz:base.objs.size<=s.heap.objs.size
 funs:s.heap.FunFrames base outer
 frf:∀b∈frs outer,H b=aB
 hok:G9 P w H s.heap
 bare:AllBare s.gens
def CE(outer:List Env)(P:cg)(w:dn)(H:Hp)(s:am)(Q:VK)(u:ag)(s':am):Prop:=
 ∃v H',s'.os=s.os/\AllBare s'.gens/\Un (frs outer) [] H H' s.heap s'.heap/\G9 P w H' s'.heap/\Zy v u/\Q v H'
def CR(CX:CXT)(outer:List Env)(P:cg)(w:dn)(H:Hp)(s:am)(Q:VK)(E:XK)(r:Result)(s':am):Prop:=
 match r with
 | .ok (.ret u)=>CE outer P w H s Q u s'
 | .ok _=>False
 | .error e=>CX outer H s E e s'
structure FnOk(P:cg)(w:dn)(K:af)(mg:Str->Option ag)(base:f8)(CX:CXT)(k:Nat)(f:au)(fd:FuncData)(ps:List Str)(sp:Sp):Prop where
 len:∀vs H Q E,sp vs H Q E->vs.length=ps.length
 run:∀(A:dg) (outer:List Env) (s:am) (H:Hp) (args:Args) (us:List ag) (vs:List V) (Q:VK) (E:XK),eT k A->Env0 P w K mg base A outer s H->BindsTo s fd args (ps.zip us)->Z5 vs us->sp vs H Q E->
  codeAny (b9 P w) A (.call (.ref f) args) (CR CX outer P w H s Q E) s
section
variable{X:Cx}{eB:List (au×Obj)}{σ:St}{H:Hp}{s s':am}
theorem eG.env0(I:eG X eB σ H s):Env0 X.prog X.w X.K X.mg X.base X.A X.stack s H:=
 ⟨I.ok.frames,I.ok.mod,I.bs,dm I.ok.bsz I.sz,I.stack,I.stkFree,I.hok,I.bare⟩
theorem eG.after(I:eG X eB σ H s)(h:CE X.stack X.prog X.w H s Q u s'):EP X eB σ Q u s':=by obtain⟨v,H',os,bare,un,hok,r,q⟩:=h;obtain⟨hh,g,d,t,JU⟩:=s';obtain rfl:JU=s.os:=os;exact⟨v,H',I.call (h':=hh) (g':=g) (d':=d) (t':=t) (ch:=[]) un hok bare (λb z=>dM z (by simp)),r,q⟩
end
def DF(sp:Sp)(SC:List V)(E:XK)(t:TA):TE:=λσ H Q=>t σ H λvs H1=>sp (vs++SC) H1 Q E
def Tu(K:af)(fd:FuncData)(ps:List Str)(ds:List ag):Prop:=
 ∀(s:am) (us:List ag),K.In s.heap->(us++ds).length=ps.length->BindsTo s fd ⟨us,[]⟩ (ps.zip (us++ds))
theorem Tu.all{K}(h:∀us,us.length=ps.length->bindArgs fd ⟨us,[]⟩=pure (ps.zip us)):Tu K fd ps []:=λs us _ hl=>by rw[List.append_nil]at hl⊢;exact .of_eq (h us hl)
def Xx(CX:CXT)(X:Cx)(E:XK):Prop:=∀(eB:List (au×Obj)) (σ:St) (H:Hp) (s:am) (e:ag) (s':am),eG X eB σ H s->CX X.stack H s E e s'->X.xe e s'
section
variable{X:Cx}{CX:CXT}{k:Nat}{f C:au}{fd:FuncData}{ps:List Str}{sp:Sp}{SC:List V}{ds:List ag}{E:XK}{x m:Str}{p pos ZD:Pos}{e o:da}{es:List da}{t:TA}
theorem om{σ:St}(F:FnOk X.prog X.w X.K X.mg X.base CX k f fd ps sp)(hr:eT k X.A)(hb:Tu X.K fd ps ds)(hd:Z5 SC ds)(hx:Xx CX X E)(I:eG X eB σ H s)(r:Z5 vs us)(h:sp (vs++SC) H Q E):bh (b9 X.prog X.w) X.A (call (.ref f) us) (EP X eB σ Q) X.xe s:=by
 have r2:Z5 (vs++SC) (us++ds):=r.append hd;have hl:(us++ds).length=ps.length:=by rw[<-r2.length];exact F.len _ _ _ _ h
 refine wpAny_call (codeAny_mono (F.run X.A X.stack s H ⟨us,[]⟩ (us++ds) (vs++SC) Q E hr I.env0 (hb s us I.kIn hl) r2 h) λr s' hq=>?_);cases r with
 |error e=>exact hx eB σ H s e s' I hq
 |ok fl=>
  cases fl with
  |ret u=>exact I.after hq
  |next=>exact False.elim hq
  |brk=>exact False.elim hq
  |cont=>exact False.elim hq
theorem wA(F:FnOk X.prog X.w X.K X.mg X.base CX k f fd ps sp)(hr:eT k X.A)(hg:Gl X x)(hm:X.mg x=aA (.ref f))(hk:PySem.W.keepIn X.K (.ref f)=aC)(hb:Tu X.K fd ps ds)(hd:Z5 SC ds)(hx:Xx CX X E)(ha:PA X (e::es) t)(YO:‹(x==("__debug__":Str))=aD›)(he:‹bd (e::es) X.env=(aD,ip e X.env)::bd es X.env›)(ZI:‹(gd pos (bd es X.env)).any (·.1)=aD›):
  PE X (.Call (.Name x p) (e::es) [] pos) (DF sp SC E t):=by
 intro eB s σ H Q I h;refine wpAny_Call_Name_kw (wE I hg hm ?_ YO);refine PySem.W.callWith_K (h₀:=X.base) I.ok.mod.kin hk (Wq (ha pos eB s σ H _ I h) λus s1 ⟨vs,H1,I1,r,q⟩=>⟨I1.kIn,?_⟩) he ZI;exact om F hr hb hd hx I1 r q
end
def PK(X:Cx)(vV:List Keyword)(t:TA):Prop:=
 ∀(pos:Pos) (eB:List (au×Obj)) (s:am) (σ:St) (H:Hp) (Q:List V->Hp->Prop),eG X eB σ H s->t σ H Q->bh (b9 X.prog X.w) X.A (evalAll ((backToKw pos (keywordEach vV X.env)).map (·.2))) (AP X eB σ Q) X.xe s
structure FnScope(N P:List Str)(sc:Scope):Prop where
 kind:sc.kind= .function
 co:sc.isCoroutine=aD
 gen:sc.isGenerator=aD
 nd:N.Nodup
 pre:N.take P.length=P
 par:∀x∈P,sc.names.lookup x=aA .local\/sc.names.lookup x=aA .cell
 nofree:∀y∈sc.names,y.2≠.free
theorem Ks{kindOf}:∀{binds:List (Str×ag)} {m:Str->Option ag},(∀v,(x,v)∉binds)->bindL kindOf binds m x=m x
  | [],_,_=>rfl
  | (n,v)::r,m,h=>by
    unfold bindL;rw[Ks λw hw=>h w (ao _ hw)];split
    · have:x≠n:=by rintro rfl;exact h v ac
      simp[this]
    · rfl
theorem Kt{kindOf}:∀{binds:List (Str×ag)} {m:Str->Option ag},(∀v,(x,v)∉binds)->bindC kindOf binds m x=m x
  | [],_,_=>rfl
  | (n,v)::r,m,h=>by
    unfold bindC;rw[Kt λw hw=>h w (ao _ hw)];split
    · rfl
    · have:x≠n:=by rintro rfl;exact h v ac
      simp[this]
theorem Ku{kindOf}:∀{P:List Str} {vs:List ag} {i:Nat} {m:Str->Option ag},P.Nodup->P[i]? =aA x->vs[i]? =aA v->kindOf x=aA .local->
  bindL kindOf (P.zip vs) m x=aA v
 | [],_,_,_,_,h,_,_=>by simp at h
 |_::_,[],_,_,_,_,h,_=>by simp at h
 |p::P,w::vs,0,m,nd,h1,h2,hk=>by simp at h1 h2;subst h1;subst h2;show bindL kindOf ((p,w)::P.zip vs) m p=_;unfold bindL;rw[Ks λv hv=>(eh.mp nd).1 (List.of_mem_zip hv).1,dG hk];simp
 |p::P,w::vs,i+1,m,nd,h1,h2,hk=>by show bindL kindOf ((p,w)::P.zip vs) m x=_;unfold bindL;exact Ku (i:=i) (eh.mp nd).2 (by simpa using h1) (by simpa using h2) hk
theorem Kv{kindOf}:∀{P:List Str} {vs:List ag} {i:Nat} {m:Str->Option ag},P.Nodup->P[i]? =aA x->vs[i]? =aA v->kindOf x≠aA .local->
  bindC kindOf (P.zip vs) m x=aA v
 | [],_,_,_,_,h,_,_=>by simp at h
 |_::_,[],_,_,_,_,h,_=>by simp at h
 |p::P,w::vs,0,m,nd,h1,h2,hk=>by simp at h1 h2;subst h1;subst h2;show bindC kindOf ((p,w)::P.zip vs) m p=_;unfold bindC;rw[Kt λv hv=>(eh.mp nd).1 (List.of_mem_zip hv).1,dF hk];simp
 |p::P,w::vs,i+1,m,nd,h1,h2,hk=>by show bindC kindOf ((p,w)::P.zip vs) m x=_;unfold bindC;exact Kv (i:=i) (eh.mp nd).2 (by simpa using h1) (by simpa using h2) hk
noncomputable def Bp(N:List Str)(vs:List V):St:=vs.map aA++List.replicate (N.length- vs.length) aB
noncomputable def Sj(CX:CXT)(P:cg)(w:dn)(K:af)(mg:Str->Option ag)(base:f8)(N:List Str)(qual:Str)(scope:Scope)(f:au)(cd:ag)(A:dg)(outer:List Env)(s:am)(H:Hp)(E:XK):Cx where
 prog:=P
 w:=w
 K:=K
 mg:=mg
 base:=base
 A:=A.deeper (envOfC qual scope s.heap.objs.size f cd)
 N:=N
 s₀:=s
 H₀:=H
 env:=envOfC qual scope s.heap.objs.size f cd
 outer:=outer
 stack:=envOfC qual scope s.heap.objs.size f cd::outer
 ex:=[]
 calm:=aC
 fn:=λ_=>aC
 pn:=[]
 xe:=λe s'=>bh (b9 P w) (A.deeper (envOfC qual scope s.heap.objs.size f cd)) (leaving (envOfC qual scope s.heap.objs.size f cd) e) (λ_ YA=>CX outer H s E e YA) (λe' YA=>CX outer H s E e' YA) s'
theorem Sk{sc:Scope}(h:sc.names.lookup x=aA .cell):∃c,(cellsFrom n sc.names []).lookup x=aA c:=by have q:=PySem.W.cellsFrom_some sc.names n [] (.inl h);exact Option.isSome_iff_exists.mp q
theorem iQ{K}(S:FnScope N ps scope)(hd:A.handled=aB)(e0:Env0 P w K mg base A outer s H)(hl:vs.length=ps.length)(r:Z5 vs us)(x:InCallC s s.heap.objs.size (bindL (envOfC qual scope s.heap.objs.size f cd).kindOf (ps.zip us) λ_=>aB) (cellsFrom (s.heap.objs.size+1) scope.names []) (bindC (envOfC qual scope s.heap.objs.size f cd).kindOf (ps.zip us) λ_=>aB) s1):
  eG (Sj CX P w K mg base N qual scope f cd A outer s H E) [] (Bp N vs) H s1:=by
 have ZI:ps.length<=N.length:=by have:=congrArg List.length S.pre;rw[List.length_take]at this;omega
 obtain⟨h1,tk,rfl,hk⟩:=x.done;have UP:∀b:au,b∉(Sj CX P w K mg base N qual scope f cd A outer s H E).ex:=λb z=>dM (show b∈([]:List au)from z) (by simp);refine⟨⟨e0.mod,S.kind,rfl,rfl,bf _,λy z c h1 h2=>?_,λy hy=>?_,λy c _ h=>?_,λ_=>hd,Around.frames_deeper e0.frames,.inr ⟨rfl,rfl⟩,λb z=>dM z (UP b),e0.bs,e0.bsz,λb _ _=>UP b,λb z=>dM z (UP b),e0.funs,e0.frf⟩,
  rfl,e0.bare,Un.kept hk,⟨_,x.toInCall.ns,λi y v h1 h2 h3=>?_⟩,λy c h=>⟨_,x.cell y c h⟩,e0.hok.fresh (bf _),λy c h=>?_,λp hp=>dM (show p∈([]:List (au×Obj))from hp) (by simp),e0.hok.kept hk,?_⟩
 .exact name_of_addr x.apart (PySem.mem_of_lookup h1) (PySem.mem_of_lookup h2)
 .have hy:scope.names.lookup y=aA .cell\/scope.names.lookup y=aA .free:=hy;rcases hy with hy|hy
  .exact Sk hy
  .exact dM rfl (S.nofree _ (PySem.mem_of_lookup hy))
 .exact Nat.le_of_lt (x.above y c (PySem.mem_of_lookup h))
 .have hi:i<vs.length:=by
   unfold Bp at h2;by_cases hi:i<vs.length
   .exact hi
   .rw[dr (by simpa using hi)]at h2;rw[List.getElem?_replicate]at h2;split at h2<;> cases h2
  have ha:vs[i]? =aA v:=by
   unfold Bp at h2;rw[ci (by simpa using hi),az]at h2;cases e:vs[i]? with
   |none=>rw[e]at h2;cases h2
   |some a=>rw[e]at h2;cases h2;rfl
  obtain⟨u,hu,rv⟩:=r.get ha;have hp:ps[i]? =aA y:=by rw[<-S.pre,List.getElem?_take_of_lt (by omega)];exact h1
  have OK:ps.Nodup:=by rw[<-S.pre];exact S.nd.sublist (List.take_sublist _ _)
  refine⟨u,rv,?_⟩;rcases S.par y (bz hp)with k|k
  .exact .inl ⟨k,Ku OK hp hu k⟩
  .obtain⟨c,e⟩:=Sk (n:=s.heap.objs.size+1) k;refine .inr ⟨.inl k,c,e,?_⟩;have q:=x.cell y c e;rw[Kv OK hp hu (by show scope.names.lookup y≠_;rw[k];decide)]at q;exact q
 .exact e0.hok.fresh (Nat.le_of_lt (x.above y c (PySem.mem_of_lookup h)))
 .unfold Bp;show _=N.length;rw[av,ah,List.length_replicate];omega
theorem yC{K}{dV kV ZW pm ZP ct oc}(lk:K.lookup f=aA ⟨oc,od,.func (PySem.W.fnOf name qual params body scope dV kV ZW pm an ZP ct),XM⟩)(ZS:PySem.W.codeIn K ZP qual=aC)(S:FnScope N ps scope)(len:∀vs H Q E,sp vs H Q E->vs.length=ps.length)(XJ:∀A outer s H vs Q E,eT k (A.deeper (envOfC qual scope s.heap.objs.size f ZP))->sp vs H Q E->
   ∃t,M0 (Sj CX P w K mg base N qual scope f ZP A outer s H E) body t/\t {nx:=λ_ H'=>Q .non H',rt:=Q} (Bp N vs) H):
  FnOk P w K mg base CX (k+1) f (PySem.W.fnOf name qual params body scope dV kV ZW pm an ZP ct) ps sp:=by
 refine⟨len,λA outer s H args us vs Q E hr e0 hb r UH=>?_⟩;have hl:=len _ _ _ _ UH;have KX:K.In s.heap:=e0.mod.kin.keeps λb o e=>(e0.bs b o e).1;have vQ:s.heap.NoLimit:=e0.mod.nolimit.keeps λb o e=>(e0.bs b o e).1;have WQ:∀y∈ps.zip us,scope.names.lookup y.1=aA .local\/(scope.names.lookup y.1=aA .cell/\((cellsFrom (s.heap.objs.size+1) scope.names []).lookup y.1).isSome=aC):=λ⟨n,v⟩ hy=>by
  rcases S.par n (List.of_mem_zip hy).1 with q|q
  .exact .inl q
  .exact .inr ⟨q,PySem.W.cellsFrom_some _ _ _ (.inl q)⟩
 refine codeAny_call_function hr.depth (KX _ _ lk) rfl S.co S.gen rfl (PySem.W.codeRec_of KX ZS) (hb _ _ _ _ ?_);refine wpAny_newFunctionEnv_cells S.kind WQ λenv he s1 x=>?_;subst he;refine⟨vQ.keeps x.toInCall.keep,codeAny_func ?_⟩;obtain⟨t,ht,hq⟩:=XJ A outer s H vs Q E (hr.deeper _) UH;have I:eG (Sj CX P w K mg base N qual scope f ZP A outer s H E) [] (Bp N vs) H s1:=iQ S hr.hd e0 hl r x;refine g9 (ht [] s1 (Bp N vs) H _ I hq) (λfl s' hs=>?_) λe s' hs=>hs;have fin:∀{ZB:St} {H':Hp} {v:V} {u:ag},eG (Sj CX P w K mg base N qual scope f ZP A outer s H E) [] ZB H' s'->Zy v u->Q v H'->CE outer P w H s Q u s':=
  fun{ZB H' v u} J rv q=>⟨v,H',J.os,J.bare,J.base,J.hok,rv,q⟩
 cases fl with
 |ret u=>obtain⟨v,ZB,H',J,rv,q⟩:=hs;exact fin J rv q
 |next=>refine W1 hs λZB H' J q=>?_;exact fin (v:=V.non) (u:=de) J rfl q
 |brk=>refine W1 hs λ_ _ _ q=>?_;exact False.elim q
 |cont=>refine W1 hs λ_ _ _ q=>?_;exact False.elim q
section
variable{X:Cx}{x:Str}{p pos:Pos}{e:da}{es:List da}{t:TA}{id T:String}{r:List V->Hp->VK->Prop}
def tCB(r:List V->Hp->VK->Prop)(t:TA):TE:=λσ H Q=>t σ H λvs H1=>r vs H1 Q
theorem jg(hc:Jq X (.builtin id) r)(hg:Gl X x)(hm:X.mg x=aB)(hv:bootBuiltins x=aA (.builtin id))(ha:PA X (e::es) t)(hn:‹x≠"__name__"›)(YO:‹(x==("__debug__":Str))=aD›)(he:‹bd (e::es) X.env=(aD,ip e X.env)::bd es X.env›)(ZI:‹(gd pos (bd es X.env)).any (·.1)=aD›):PE X (.Call (.Name x p) (e::es) [] pos) (tCB r t):=by
 intro eB s σ H Q I h;refine wpAny_Call_Name_kw (O9 I hg hm hv ?_ hn YO);exact PyProof.Rows.callWith_builtin1 (Wq (ha pos eB s σ H _ I h) λus s1 ⟨vs,H1,I1,r1,q1⟩=>hc eB s1 σ H1 vs us Q I1 r1 q1) he ZI
theorem iP(hc:Jq X (.type T) r)(hg:Gl X x)(hm:X.mg x=aB)(hv:bootBuiltins x=aA (.type T))(ha:PA X (e::es) t)(hn:‹x≠"__name__"›)(YO:‹(x==("__debug__":Str))=aD›)(he:‹bd (e::es) X.env=(aD,ip e X.env)::bd es X.env›)(ZI:‹(gd pos (bd es X.env)).any (·.1)=aD›):PE X (.Call (.Name x p) (e::es) [] pos) (tCB r t):=by
 intro eB s σ H Q I h;refine wpAny_Call_Name_kw (O9 I hg hm hv ?_ hn YO);exact PyProof.Rows.callWith_type1 (Wq (ha pos eB s σ H _ I h) λus s1 ⟨vs,H1,I1,r1,q1⟩=>hc eB s1 σ H1 vs us Q I1 r1 q1) he ZI
end
end L2
namespace HT
noncomputable def Kw:List Int->List Int->Bool
 | [],[]=>aD
 | [],_::_=>aC
 |_::_,[]=>aD
 |x::xs,y::ys=>if x=y then Kw xs ys else decide (x<y)
theorem fX(x y xs ys):Kw (x::xs) (y::ys)=if x=y then Kw xs ys else decide (x<y):=rfl
theorem fZ:Kw [] []=aD:=rfl
theorem eA(y ys):Kw [] (y::ys)=aC:=rfl
theorem f_(x xs):Kw (x::xs) []=aD:=rfl
noncomputable def sIx(n d:Nat):Option Int->Nat
 |none=>d
 |some v=>if v<0 then(v+(n:Int)).toNat else min v.toNat n
theorem fQ(n d):sIx n d aB=d:=rfl
theorem sIx_nat(n d k:Nat):sIx n d (aA (k:Int))=min k n:=by show(if(k:Int)<0 then((k:Int)+(n:Int)).toNat else min (k:Int).toNat n)=min k n;rw[dF (by omega),Int.toNat_natCast]
end HT
namespace L2
abbrev TO:=St->Hp->(Option Int->Hp->Prop)->Prop
def PO(X:Cx)(e:Option da)(t:TO):Prop:=
 ∀(eB:List (au×Obj)) (s:am) (σ:St) (H:Hp) (Q:Option Int->Hp->Prop),eG X eB σ H s->t σ H Q->
  bh (b9 X.prog X.w) X.A (evalPart e X.env) (λu s'=>∃o H',eG X eB σ H' s'/\IsPart u o/\Q o H') X.xe s
def yB(t:TE):TO:=λσ H Q=>t σ H λx H1=>∃i,x= .int i/\Q (aA i) H1
theorem m8(h:PE X e te):PO X (aA e) (yB te):=by intro eB s σ H Q I hw;rw[evalPart_some];refine Wq (h eB s σ H _ I hw) λu s1 ZE=>?_;obtain⟨x,H1,I1,r1,q1⟩:=ZE;obtain⟨i,rfl,q⟩:=q1;obtain⟨t,rfl⟩:=r1;exact⟨aA i,H1,I1,.int i t,q⟩
def SlR(X:Cx)(r:V->Option Int->Option Int->Hp->VK->Prop):Prop:=
 ∀(eB:List (au×Obj)) (s:am) (σ:St) (H:Hp) (x:V) (v vl vu:ag) (lo hi:Option Int) (sl:au) (Q:VK),eG X eB σ H s->Zy x v->s.heap.IsSliceOf sl vl vu .none->IsPart vl lo->IsPart vu hi->r x lo hi H Q->
  ∃T id,typeLookup (.type T) "__getitem__"=pure (aA (.builtin id))/\s.TypeIs v T/\bh (b9 X.prog X.w) X.A (getItem v (.ref sl)) (EP X eB σ Q) X.xe s
theorem SlR.or(h:SlR X r)(h':SlR X r'):SlR X (λx lo hi H Q=>r x lo hi H Q\/r' x lo hi H Q):=by
 intro eB s σ H x v vl vu lo hi sl Q I rx hs pl pu q;rcases q with q|q
 .exact h eB s σ H x v vl vu lo hi sl Q I rx hs pl pu q
 .exact h' eB s σ H x v vl vu lo hi sl Q I rx hs pl pu q
def tSl(r:V->Option Int->Option Int->Hp->VK->Prop)(te:TE)(tl th:TO):TE:=λσ H Q=>te σ H λx H1=>tl σ H1 λl H2=>th σ H2 λu H3=>r x l u H3 Q
theorem jf{lo hi:Option da}(hr:SlR X r)(he:PE X e te)(hl:PO X lo tl)(hu:PO X hi th):PE X (.Subscript e (.Slice lo hi aB p2) pos) (tSl r te tl th):=by intro eB s σ H Q I h;refine Subscript_ (Wq (he eB s σ H _ I h) λv s1 ZE=>?_);obtain⟨x,H1,I1,r1,q1⟩:=ZE;refine wpAny_Slice (Wq (hl eB s1 σ H1 _ I1 q1) λvl s2 ⟨l,H2,I2,pl,q2⟩=>Wq (hu eB s2 σ H2 _ I2 q2) λvu s3 ZE=>?_);obtain⟨u,H3,I3,pu,q3⟩:=ZE;rw[evalPart_none];refine ad ?_;have I4:eG X eB σ H3 {s3 with heap:=s3.heap.push {cls:=.type "slice",data:=.fields #[vl,vu,.none]}}:=I3.kept (t':=s3.toks) λb ob q=>aq _ q;refine Y9 (hr eB {s3 with heap:=s3.heap.push {cls:=.type "slice",data:=.fields #[vl,vu,.none]}} σ H3 x v vl vu l u s3.heap.objs.size Q I4 r1 (Heap.IsSliceOf.new ..) pl pu q3) λT id hT ht hg=>?_;show bh (b9 X.prog X.w) X.A (subscriptTail e (.Slice lo hi aB p2) v (.ref s3.heap.objs.size)) (EP X eB σ Q) X.xe {s3 with heap:=s3.heap.push {cls:=.type "slice",data:=.fields #[vl,vu,.none]}};exact tail_any (ops:=[.ref s3.heap.objs.size,v]) ht hT hg (by with_unfolding_all rfl)
def PM(xs:List V)(lo hi:Option Int):List V:=(xs.drop (HT.sIx xs.length 0 lo)).take (HT.sIx xs.length xs.length hi- HT.sIx xs.length 0 lo)
theorem Sl(xs lo hi):(PM xs lo hi).length<=xs.length:=by unfold PM;rw[List.length_take,List.length_drop];omega
noncomputable def ixN(n:Nat)(i:Int):Option Nat:=if 0<=i then(if i<n then aA i.toNat else aB)else if-(n:Int)<=i then aA (i+n).toNat else aB
def atI{α:Type}(xs:List α)(i:Int):Option α:=(ixN xs.length i).bind λj=>xs[j]?
theorem m7(h:ixN n i=aA j):seqIndex? i n=aA j/\j<n/\-(n:Int)<=i/\i<n:=by
 unfold ixN at h;by_cases h0:0<=i
 .rw[dG h0]at h;by_cases h1:i<n
  .rw[dG h1]at h;have e:i.toNat=j:=dq.inj h;exact⟨by rw[seqIndex_of h0 h1,e],by omega,by omega,h1⟩
  .rw[dF h1]at h;cases h
 .rw[dF h0]at h;by_cases h1:-(n:Int)<=i
  .rw[dG h1]at h;have e:(i+n).toNat=j:=dq.inj h;exact⟨by rw[seqIndex_neg (by omega) h1,e],by omega,h1,by omega⟩
  .rw[dF h1]at h;cases h
theorem Nn{v:α}(h:atI xs i=aA v):∃j,seqIndex? i xs.length=aA j/\xs[j]? =aA v/\j<xs.length/\-(xs.length:Int)<=i/\i<xs.length:=by
 unfold atI at h;cases e:ixN xs.length i with
 |none=>rw[e]at h;cases h
 |some j=>rw[e]at h;obtain⟨h1,h2,h3,h4⟩:=m7 e;exact⟨j,h1,h,h2,h3,h4⟩
def Np(b:da):Prop:=∀o i,subscripted b aD o i=operate [o,i] (getItem o i)
def IxR(X:Cx)(r:R2):Prop:=
 ∀(value slice:da) (eB:List (au×Obj)) (s:am) (σ:St) (H:Hp) (x y:V) (v u:ag) (Q:VK),eG X eB σ H s->Zy x v->Zy y u->r x y H Q->
  subscripted slice aD v u=operate [v,u] (getItem v u)->bh (b9 X.prog X.w) X.A (subscriptTail value slice v u) (EP X eB σ Q) X.xe s
def MtR(X:Cx)(id:String)(r:V->List V->Hp->VK->Prop):Prop:=
 ∀(eB:List (au×Obj)) (s:am) (σ:St) (H:Hp) (x:V) (xs:List V) (v:ag) (us:List ag) (Q:VK),eG X eB σ H s->Zy x v->Z5 xs us->r x xs H Q->
  bh (b9 X.prog X.w) X.A (call (.builtin id) (v::us)) (EP X eB σ Q) X.xe s
section
variable{X:Cx}
theorem IxR.or(h:IxR X r)(h':IxR X r'):IxR X (λx y H Q=>r x y H Q\/r' x y H Q):=by
 intro value slice eB s σ H x y v u Q I rx ry q hs;rcases q with q|q
 .exact h value slice eB s σ H x y v u Q I rx ry q hs
 .exact h' value slice eB s σ H x y v u Q I rx ry q hs
theorem yA(hr:IxR X r)(ha:PE X a ta)(hb:PE X b tb)(hs:Np b):PE X (.Subscript a b pos) (tOp r ta tb):=by intro eB s σ H Q I h;exact Subscript_ (ED ha hb I h λv u s2 x y H2 I2 rx ry q=>hr a b eB s2 σ H2 x y v u Q I2 rx ry q (hs _ _))
def zC(K:af):R2:=λx y H Q=>∃p xs i v,x= .ref p/\y= .int i/\Bm K H p xs/\atI xs i=aA v/\Q v H
def zB(K:af):R2:=λx y H Q=>∃p xs i v,x= .ref p/\y= .int i/\Mx K H p xs/\atI xs i=aA v/\Q v H
def zA:R2:=λx y H Q=>∃z i c,x= .str z/\y= .int i/\z.length<=sizeLine/\atI z.cps.toList i=aA c/\Q (.str ⟨#[c]⟩) H
theorem m6:IxR X (zC X.K):=by
 intro value slice eB s σ H x y v u Q I rx ry h hs;obtain⟨p,xs,i,z,rfl,rfl,hq,he,q⟩:=h;cases rx;obtain⟨t,rfl⟩:=ry;refine Zp (I.list hq) λeC r pl hz=>?_;obtain⟨j,h1,h2,h3,h4,h5⟩:=Nn he;obtain⟨w,ew,XU⟩:=r.get h2;have hl:=r.length;have hn:=Ei;have fin:EP X eB σ Q w s:=⟨z,H,I,XU,q⟩
 by_cases h0:0<=i
 .have hj:i.toNat=j:=by rw[seqIndex_of h0 h5]at h1;exact dq.inj h1
  exact item_listR pl.isList h0 (by omega) (by rw[hj];simpa using ew) fin hs
 .have hj:(i+(eC.toArray.size:Int)).toNat=j:=by rw[seqIndex_neg (by omega) h4]at h1;rw[bq,<-hl];exact dq.inj h1
  exact subscriptTail_builtinR (x:=w) pl.isList.typeIs slot_list_getitem.lookup
   (wpAny_getItem_list_neg (Q:=λr s'=>r=w/\EP X eB σ Q r s') pl.isList (by omega) (by rw[bq]<;> omega) (by omega) (by rw[hj];simpa using ew) ⟨rfl,fin⟩) hs
theorem oj:IxR X (zB X.K):=by
 intro value slice eB s σ H x y v u Q I rx ry h hs;obtain⟨p,xs,i,z,rfl,rfl,hq,he,q⟩:=h;cases rx;obtain⟨t,rfl⟩:=ry;refine Zp (I.tuple hq) λeC r pl hz=>?_;obtain⟨j,h1,h2,h3,h4,h5⟩:=Nn he;obtain⟨w,ew,XU⟩:=r.get h2;have hl:=r.length;have hn:=Ei;have fin:EP X eB σ Q w s:=⟨z,H,I,XU,q⟩
 exact subscriptTail_builtinR (x:=w) pl.typeIs slot_tuple_getitem.lookup
  (getItem_tuple (j:=j) (Q:=λr s'=>r=w/\EP X eB σ Q r s') pl (by omega) (by omega) (by rw[bq,<-hl];exact h1) (by simpa using ew) ⟨rfl,fin⟩) hs
theorem p6:IxR X zA:=by
 intro value slice eB s σ H x y v u Q I rx ry h hs;obtain⟨z,i,c,rfl,rfl,hz,he,q⟩:=h;obtain⟨t,rfl⟩:=rx;obtain⟨t',rfl⟩:=ry;obtain⟨j,h1,h2,h3,h4,h5⟩:=Nn he;have hl:z.cps.toList.length=z.length:=by simp[Str.length]
 rw[hl]at h1 h4 h5;have hn:=Ei;exact tail_any (typeIs_str s z t) slot_str_getitem.lookup (getItem_str (c:=c) (by
  have e1:decide (i< -(2^63:Int))=aD:=dH (by omega);have e2:decide (i>=2^63)=aD:=dH (by omega);rw[e1,e2,Bool.or_false]) (by rw[h1];simpa using h2) ⟨.str ⟨#[c]⟩,H,I.tok _,⟨_,rfl⟩,q⟩) hs
def rIx(K:af):R2:=λx y H Q=>zC K x y H Q\/zB K x y H Q\/zA x y H Q
theorem xD:IxR X (rIx X.K):=m6.or (oj.or p6)
theorem Nq(lo hi n):(sliceBounds lo hi aB n).1=((HT.sIx n 0 lo:Nat):Int)/\(sliceBounds lo hi aB n).2.1=((HT.sIx n n hi:Nat):Int)/\(sliceBounds lo hi aB n).2.2=1:=by
 refine⟨?_,?_,rfl⟩
 .cases lo with
  |none=>simp[sliceBounds,HT.sIx]
  |some i=>
   simp only[sliceBounds,HT.sIx,Option.getD_none,show(1:Int) > 0 by decide,if_true];by_cases h:i<0
   .simp only[h,if_true]<;> omega
   .simp only[h,if_false]<;> omega
 .cases hi with
  |none=>simp[sliceBounds,HT.sIx]
  |some i=>
   simp only[sliceBounds,HT.sIx,Option.getD_none,show(1:Int) > 0 by decide,if_true];by_cases h:i<0
   .simp only[h,if_true]<;> omega
   .simp only[h,if_false]<;> omega
theorem Kc(eC:List ag)(lo hi):slicePick eC.toArray lo hi aB=((eC.drop (HT.sIx eC.length 0 lo)).take (HT.sIx eC.length eC.length hi- HT.sIx eC.length 0 lo)).toArray:=by obtain⟨h1,h2,h3⟩:=Nq lo hi eC.toArray.size;unfold slicePick;rw[h1,h2,h3];simp only[sliceRange_one,pick_run,bq]<;> rfl
def A_(K:af):V->Option Int->Option Int->Hp->VK->Prop:=λx lo hi H Q=>∃a xs,x= .ref a/\Bm K H a xs/\∀p,H p=aB->Q (.ref p) (Y7 H p (.lst (PM xs lo hi)))
theorem m4:SlR X (A_ X.K):=by intro eB s σ H x v vl vu lo hi sl Q I rx hs pl pu h;obtain⟨a,xs,rfl,hx,q⟩:=h;cases rx;refine Zp (I.list hx) λeC r ht hz=>?_;have hlen:=r.length;refine⟨"list",_,slot_list_getitem.lookup,ht.isList.typeIs,?_⟩;refine wpAny_getItem_list_slice ht.isList hs pl pu .none (by simp) ?_ (by rw[bq]<;> omega);rw[Kc,<-hlen];refine⟨.ref s.heap.objs.size,_,I.laid (t':=s.toks) (o:=.lst (PM xs lo hi)) (λb ob q=>aq _ q) (bf _) ?_,rfl,q _ (I.hok.fresh (bf _))⟩;exact⟨dm (Sl xs lo hi) hz,_,0,(r.drop (HT.sIx xs.length 0 lo)).take (HT.sIx xs.length xs.length hi- HT.sIx xs.length 0 lo),bi _ rfl⟩
noncomputable def Wt:V->Bool
 | .non=>aC
 | .bl _=>aC
 | .int _=>aC
 | .str _=>aC
 |_=>aD
noncomputable def Xy:V->V->Bool
 | .non,.non=>aC
 | .bl a,.bl b=>a==b
 | .bl a,.int b=>(if a then 1 else 0)==b
 | .int a,.bl b=>a==(if b then 1 else 0)
 | .int a,.int b=>a==b
 | .str a,.str b=>a==b
 |_,_=>aD
theorem xC(ry:Zy y u)(rx:Zy x v)(fy:Wt y=aC)(fx:Wt x=aC):SeqAt.EqAt A s u v (Xy y x):=by
 cases y with
 |non=>
  cases ry;cases x with
  |non=>cases rx;exact SeqAt.EqAt.same _
  |bl b=>cases rx;exact SeqAt.EqAt.none_bool b
  |int b=>obtain⟨t,rfl⟩:=rx;exact SeqAt.EqAt.none_int b t
  |str b=>obtain⟨t,rfl⟩:=rx;exact SeqAt.EqAt.none_str b t
  |_=>exact dM (show aD=aC from fx) bv
 |bl a=>
  cases ry;cases x with
  |non=>cases rx;exact SeqAt.EqAt.bool_none a
  |bl b=>cases rx;exact SeqAt.EqAt.bool_bool a b
  |int b=>obtain⟨t,rfl⟩:=rx;exact SeqAt.EqAt.bool_int a b t
  |str b=>obtain⟨t,rfl⟩:=rx;exact SeqAt.EqAt.bool_str a b t
  |_=>exact dM (show aD=aC from fx) bv
 |int a=>
  obtain⟨t',rfl⟩:=ry;cases x with
  |non=>cases rx;exact SeqAt.EqAt.int_none a t'
  |bl b=>cases rx;exact SeqAt.EqAt.int_bool a t' b
  |int b=>obtain⟨t,rfl⟩:=rx;exact SeqAt.EqAt.int_int a t' b t
  |str b=>obtain⟨t,rfl⟩:=rx;exact SeqAt.EqAt.int_str a t' b t
  |_=>exact dM (show aD=aC from fx) bv
 |str a=>
  obtain⟨t',rfl⟩:=ry;cases x with
  |non=>cases rx;exact SeqAt.EqAt.str_none a t'
  |bl b=>cases rx;exact SeqAt.EqAt.str_bool a t' b
  |int b=>obtain⟨t,rfl⟩:=rx;exact SeqAt.EqAt.str_int a t' b t
  |str b=>obtain⟨t,rfl⟩:=rx;exact SeqAt.EqAt.str_str a t' b t
  |_=>exact dM (show aD=aC from fx) bv
 |_=>exact dM (show aD=aC from fy) bv
def Xz(x:V)(u:ag):Bool:=match u with
 | .none=>Xy .non x
 | .bool b=>Xy (.bl b) x
 | .int i _=>Xy (.int i) x
 | .str z _=>Xy (.str z) x
 |_=>aD
theorem xB(r:Zy y u)(f:Wt y=aC):Xz x u=Xy y x:=by
 cases y with
 |non=>cases r;rfl
 |bl b=>cases r;rfl
 |int i=>obtain⟨t,rfl⟩:=r;rfl
 |str z=>obtain⟨t,rfl⟩:=r;rfl
 |_=>exact dM (show aD=aC from f) bv
theorem R9:∀{xs:List V} {us:List ag},Z5 xs us->xs.all Wt=aC->us.any (Xz x)=xs.any λy=>Xy y x
 |_,_,.nil,_=>rfl
 |y::xs,u::us,.cons r t,f=>by rw[List.all_cons,Bool.and_eq_true]at f;rw[List.any_cons,List.any_cons,xB r f.1,R9 t f.2]
theorem Cw(rx:Zy x v)(fx:Wt x=aC):∀{xs:List V} {us:List ag},Z5 xs us->xs.all Wt=aC->∀u∈us,SeqAt.EqAt A s u v (Xz x u)
 |_,_,.nil,_=>λu hu=>by cases hu
 |y::xs,u::us,.cons r t,f=>λu' hu=>by
  rw[List.all_cons,Bool.and_eq_true]at f;rcases b7.mp hu with rfl|hu
  .rw[xB r f.1];exact xC r rx f.1 fx
  .exact Cw rx fx t f.2 u' hu
def inV(x:V)(xs:List V):Bool:=xs.any λy=>Xy y x
def rIn(K:af)(RC:Bool):R2:=λx y H Q=>∃p xs,y= .ref p/\(Bm K H p xs\/Mx K H p xs)/\Wt x=aC/\xs.all Wt=aC/\Q (.bl (if RC then !inV x xs else inV x xs)) H
theorem iO:Bo X (ik .In) (rIn X.K aD):=by
 intro eB s σ H x y v u Q I rx ry h;obtain⟨p,xs,rfl,hq,fx,fs,q⟩:=h;cases ry;rcases hq with hq|hq
 .refine Zp (I.list hq) λeC r pl hz=>?_;refine SeqAt.in_listAt (Xz x) pl.isList (λw hw=>Cw rx fx r fs w (by simpa using hw)) ⟨.bl _,H,I,rfl,?_⟩;rw[show eC.toArray.any (Xz x)=eC.any (Xz x) by simp,R9 r fs];exact q
 .refine Zp (I.tuple hq) λeC r pl hz=>?_;refine SeqAt.in_tupleAt (Xz x) pl (λw hw=>Cw rx fx r fs w (by simpa using hw)) ⟨.bl _,H,I,rfl,?_⟩;rw[show eC.toArray.any (Xz x)=eC.any (Xz x) by simp,R9 r fs];exact q
theorem Nr:Bo X (ik .NotIn) (rIn X.K aC):=by
 intro eB s σ H x y v u Q I rx ry h;obtain⟨p,xs,rfl,hq,fx,fs,q⟩:=h;cases ry;rcases hq with hq|hq
 .refine Zp (I.list hq) λeC r pl hz=>?_;refine SeqAt.notIn_listAt (Xz x) pl.isList (λw hw=>Cw rx fx r fs w (by simpa using hw)) ⟨.bl _,H,I,rfl,?_⟩;rw[show eC.toArray.any (Xz x)=eC.any (Xz x) by simp,R9 r fs];exact q
 .refine Zp (I.tuple hq) λeC r pl hz=>?_;refine SeqAt.notIn_tupleAt (Xz x) pl (λw hw=>Cw rx fx r fs w (by simpa using hw)) ⟨.bl _,H,I,rfl,?_⟩;rw[show eC.toArray.any (Xz x)=eC.any (Xz x) by simp,R9 r fs];exact q
theorem Nt:Bo X (ik .NotIn) (λx y H Q=>∃i j,x= .str i/\y= .str j/\Q (.bl (!(!(fq j i 0 j.length 1).isEmpty))) H):=by intro eB s σ H x y v u Q I rx ry h;obtain⟨i,j,rfl,rfl,q⟩:=h;obtain⟨t,rfl⟩:=rx;obtain⟨t',rfl⟩:=ry;exact notIn_str ⟨.bl _,H,I,rfl,q⟩
theorem Ma:Jq X (.builtin "len") (λxs H Q=>∃p ys,xs=[.ref p]/\(Bm X.K H p ys\/Mx X.K H p ys)/\Q (.int ys.length) H):=by
 intro eB s σ H xs us Q I r h;obtain⟨p,ys,rfl,hq,q⟩:=h;obtain⟨u,rfl,rx⟩:=Uu r;cases rx;have hn:=Ei;rcases hq with hq|hq
 .refine Zp (I.list hq) λeC r' pl hz=>?_;have hlen:=r'.length;exact Calls.call_len_list pl.isList (by simp only[bq]<;> omega) ⟨.int ys.length,H,I.tok _,⟨s.toks+1,by rw[bq,hlen]⟩,q⟩
 .refine Zp (I.tuple hq) λeC r' pl hz=>?_;have hlen:=r'.length;exact len_tuple pl (by simp only[bq]<;> omega) ⟨.int ys.length,H,I.tok _,⟨s.toks+1,by rw[bq,hlen]⟩,q⟩
theorem Mb:Jq X (.builtin "len") (λxs H Q=>∃z,xs=[.str z]/\z.length<=sizeLine/\Q (.int z.length) H):=by intro eB s σ H xs us Q I r h;obtain⟨z,rfl,hz,q⟩:=h;obtain⟨u,rfl,t,rfl⟩:=Uu r;have hn:=Ei;exact len_str (by omega) ⟨.int z.length,H,I.tok _,⟨_,rfl⟩,q⟩
theorem Jq.or(h:Jq X f r)(h':Jq X f r'):Jq X f (λxs H Q=>r xs H Q\/r' xs H Q):=by
 intro eB s σ H xs us Q I rs q;rcases q with q|q
 .exact h eB s σ H xs us Q I rs q
 .exact h' eB s σ H xs us Q I rs q
theorem Kd:Jq X (.type "tuple") (λxs H Q=>∃p ys,xs=[.ref p]/\((Bm X.K H p ys/\∀l,H l=aB->Q (.ref l) (Y7 H l (.tup ys)))\/(Mx X.K H p ys/\Q (.ref p) H))):=by
 intro eB s σ H xs us Q I r h;obtain⟨p,ys,rfl,h⟩:=h;obtain⟨u,rfl,rx⟩:=Uu r;cases rx;rcases h with⟨hq,q⟩|⟨hq,q⟩
 .refine Zp (I.list hq) λeC r' pl hz=>?_;have hlen:=r'.length;refine call_tuple_list pl.isList (λh' kp=>?_) (by simp only[bq]<;> omega);have I1:eG X eB σ H {s with heap:=h'}:=I.kept (t':=s.toks) kp;have I2:eG X eB σ (Y7 H h'.objs.size (.tup ys)) {s with heap:=h'.push {cls:=.type "tuple",data:=.seq eC.toArray}}:=
   I1.laid (t':=s.toks) (λb o e=>aq _ e) (bf _) (show Yp X.prog X.w _ _ _ (.tup ys)from⟨hz,eC,r',IsTup.new _ _⟩)
  exact⟨.ref h'.objs.size,_,I2,rfl,q _ (I1.hok.fresh (bf _))⟩
 .refine Zp (I.tuple hq) λeC r' pl hz=>?_;exact call_tuple_same pl ⟨.ref p,H,I,rfl,q⟩
def tyV(K:af)(T:String)(x:V)(H:Hp):Prop:=match x with
 | .str _=>T="str"
 | .int _=>T="int"
 | .ref p=>(T="list"/\∃xs,Bm K H p xs)\/(T="tuple"/\∃o,K.lookup p=aA o/\o.cls= .type "tuple"/\o.dict=aB)\/
   (T="dict"/\((∃kvs,HK H p kvs)\/∃kvs,HTt H p kvs))\/(T="set"/\∃S n,H p=aA (.set S n))
 |_=>False
theorem xA{σ:St}(I:eG X eB σ H s)(r:Zy x v)(ty:tyV X.K T x H):
  s.TypeIs v T/\∀a,v= .ref a->∃ob,s.heap.get? a=aA ob/\ob.dict=aB:=by
 cases x with
 |str z=>obtain⟨t,rfl⟩:=r;cases(show T="str"from ty);exact⟨typeIs_str s z t,λ_ e=>nomatch e⟩
 |int i=>obtain⟨t,rfl⟩:=r;cases(show T="int"from ty);exact⟨typeIs_int s i t,λ_ e=>nomatch e⟩
 |ref p=>
  cases r;rcases ty with⟨rfl,xs,hq⟩|⟨rfl,o,hk,hc,hd⟩|⟨rfl,hk⟩|⟨rfl,S,n,hk⟩
  .refine Zp (I.list hq) λeC _ pl _=>?_;refine⟨pl.isList.typeIs,λa e=>?_⟩;cases e;refine Cu pl λo n e c hd _=>?_;exact⟨o,e,hd⟩
  .refine⟨⟨o,I.kIn p o hk,hc⟩,λa e=>?_⟩;cases e;exact⟨o,I.kIn _ o hk,hd⟩
  .have z:∃o,s.heap.get? p=aA o/\o.ExactDict:=by
    rcases hk with⟨kvs,ep,hk⟩|⟨kvs,ep,bs,hk⟩
    .obtain⟨_,_,_,_,o,_,e,ex,_⟩:=I.hok p _ hk;exact⟨o,e,ex⟩
    .obtain⟨_,_,_,_,o,_,e,ex,_⟩:=I.hok p _ hk;exact⟨o,e,ex⟩
   obtain⟨o,e,ex⟩:=z;refine⟨⟨o,e,ex.1⟩,λa e2=>?_⟩;cases e2;exact⟨o,e,ex.2.1⟩
  .refine Ox (I.hok p _ hk) λo _ _ _ e ex _=>?_;refine⟨⟨o,e,ex.1⟩,λa e2=>?_⟩;cases e2;exact⟨o,e,ex.2.1⟩
 |_=>exact False.elim ty
def AZ(K:af)(T:String)(r:V->List V->Hp->VK->Prop)(to:TE):TE:=λσ H Q=>to σ H λx H1=>tyV K T x H1/\r x [] H1 Q
def tBM(K:af)(T:String)(r:V->List V->Hp->VK->Prop)(to:TE)(t:TA):TE:=λσ H Q=>to σ H λx H1=>tyV K T x H1/\t σ H1 λxs H2=>r x xs H2 Q
variable{o e:da}{to:TE}{name:Str}{ZD cpos:Pos}{T id:String}{r:V->List V->Hp->VK->Prop}
theorem po(pa:PlainAttrs T)(slot:Slot T name id)(IT:typeOf (.builtin id)=pure (.type "method_descriptor"))(hm:MtR X id r)(ho:PE X o to)(ZO:‹attributeBase o name X.env (ip o X.env)=ip o X.env›)(ZN:‹(ZD.endLine==cpos.line)=aC›):PE X (.Call (.Attribute o name ZD) [] [] cpos) (AZ X.K T r to):=by
 intro eB s σ H Q I h;refine wpAny_Call_method0_late ZO ZN (Wq (ho eB s σ H _ I h) λv s1 ZE=>?_);obtain⟨x,H1,I1,r1,ty,q1⟩:=ZE;obtain⟨h1,h2⟩:=xA I1 r1 ty;exact⟨T,id,pa,slot,IT,h1,h2,Calls.callWith_builtin rfl (PySem.evalArgs_none (hm eB s1 σ H1 x [] v [] Q I1 r1 .nil q1))⟩
theorem Sm(pa:PlainAttrs T)(slot:Slot T name id)(IT:typeOf (.builtin id)=pure (.type "method_descriptor"))(hm:MtR X id r)(ho:PE X o to)(ha:PA X (e::es) t)(ZO:‹attributeBase o name X.env (ip o X.env)=ip o X.env›)(YN:((gd cpos (bd (e::es) X.env)).all (λx=>!x.1)&&(backToKw cpos (keywordEach [] X.env)).all (λx=>x.1.isSome)
   &&decide ((e::es).length+([]:List Keyword).length+(if([]:List Keyword).isEmpty then 0 else 1)<30))=aC:=by rfl)(ZN:‹(ZD.endLine==cpos.line)=aC›)(hs:‹bd (e::es) X.env=(aD,ip e X.env)::bd es X.env›)(RJ:‹(gd cpos (bd es X.env)).any (·.1)=aD›):
  PE X (.Call (.Attribute o name ZD) (e::es) [] cpos) (tBM X.K T r to t):=by
 intro eB s σ H Q I h;refine wpAny_Call_method_late ZO YN ZN rfl (Wq (ho eB s σ H _ I h) λv s1 ZE=>?_);obtain⟨x,H1,I1,r1,ty,q1⟩:=ZE;obtain⟨h1,h2⟩:=xA I1 r1 ty;refine⟨T,id,pa,slot,IT,h1,h2,?_⟩;have hA:=ha cpos eB s1 σ H1 _ I1 q1;rw[hs]at hA⊢;refine Calls.callWith_builtin (by show(aD|| (gd cpos (bd es X.env)).any (·.1))=aD;rw[RJ]<;> rfl) (Calls.evalArgs_plain ?_);exact Wq hA λus s2 ⟨vs,H2,I2,r2,q2⟩=>hm eB s2 σ H2 x vs v us Q I2 r1 r2 q2
end
def MtM(X:Cx)(id:String)(r:V->List V->Hp->VK->Prop):Prop:=
 ∀(eB:List (au×Obj)) (s:am) (σ:St) (H:Hp) (x:V) (xs:List V) (v:ag) (us:List ag) (Q:VK),eG X eB σ H s->Zy x v->Z5 xs us->r x xs H Q->
  bh (b9 X.prog X.w) X.A (call (.builtin id) (v::us)) (EP X eB σ Q) X.xe s
theorem Z5.one(h:Z5 [x] us):∃u,us=[u]/\Zy x u:=by
 cases h with
 |cons r t=>cases t;exact⟨_,rfl,r⟩
theorem Z5.zero:∀{us:List ag},Z5 [] us->us=[]
 |_,.nil=>rfl
theorem Z5.dropLast(h:Z5 xs us):Z5 xs.dropLast us.dropLast:=by
 induction h with
 |nil=>exact .nil
 |cons r t ih=>
  cases t with
  |nil=>exact .nil
  |cons q t'=>exact .cons r ih
theorem X3{α:Type}(l:List α):l.eraseIdx (l.length- 1)=l.dropLast:=by
 induction l with
 |nil=>rfl
 |cons a r ih=>
  cases r with
  |nil=>rfl
  |cons b r=>
   have e:(a::b::r).length- 1=((b::r).length- 1)+1:=by have h1:(a::b::r).length=r.length+2:=rfl;have h2:(b::r).length=r.length+1:=rfl;omega
   rw[e,List.eraseIdx_cons_succ,ih]
   all_goals rfl
section
variable{X:Cx}{eB:List (au×Obj)}{σ:St}{H:Hp}{s:am}{l b:au}{xs ys zs:List V}
theorem eG.lset{eC:List ag}(I:eG X eB σ H s)(hH:H l=aA (.lst xs))(e:s.heap.get? l=aA {cls:=.type "list",data:=.seq eC.toArray n})(hf:f eC.toArray=its'.toArray)(hv:Z5 ys its')(hz:ys.length<=sizeLine):
  eG X eB σ (Y7 H l (.lst ys)) {s with heap:=s.heap.update l (d6 f),toks:=t'}:=by
 have q:=PySem.IsL.update e f;rw[hf]at q;refine I.write (x:=l) (e:=l) (by rw[hH];exact trivial) (.inl rfl) (λb' u hb hu=>(Heap.get?_update_other s.heap (d6 f) (Ne.symm hb)).trans hu) ⟨_,q⟩ ?_;exact⟨hz,its',_,hv,q⟩
theorem eG.lnew(I:eG X eB σ H s)(hv:Z5 ys eC)(hz:ys.length<=sizeLine):
  eG X eB σ (Y7 H s.heap.objs.size (.lst ys)) {s with heap:=s.heap.push {cls:=.type "list",data:=.seq eC.toArray},toks:=t'}:=
 I.laid (λ_ _ q=>aq _ q) (bf _) ⟨hz,eC,0,hv,bi _ rfl⟩
theorem eG.fresh(I:eG X eB σ H s):H s.heap.objs.size=aB:=I.hok.fresh (bf _)
theorem eG.lstM(I:eG X eB σ H s)(hH:H l=aA (.lst xs)):xs.length<=sizeLine/\∃eC n,Z5 xs eC/\xs.length=eC.length/\s.heap.get? l=aA {cls:=.type "list",data:=.seq eC.toArray n}:=by obtain⟨z,eC,n,r,e⟩:=I.hok l _ hH;exact⟨z,eC,n,r,r.length,e⟩
theorem je(h:n<=sizeLine):Builtin.List.listTooLong n=aD:=by unfold Builtin.List.listTooLong;exact dH (by omega)
end
def Gp:V->List V->Hp->VK->Prop:=λx vs H Q=>∃l xs y,x= .ref l/\vs=[y]/\H l=aA (.lst xs)/\xs.length<sizeLine/\Q .non (Y7 H l (.lst (xs++[y])))
theorem M3:MtM X "list.append" Gp:=by intro eB s σ H x vs v us Q I rx rv h;obtain⟨l,xs,y,rfl,rfl,hH,hz,q⟩:=h;cases rx;obtain⟨u,rfl,ru⟩:=rv.one;obtain⟨z,eC,n,r,hl,e⟩:=I.lstM hH;refine call_meets F.slot_list_append ⟨_,e,rfl⟩ F.entry_list_append (F.args_list_append_2 _ _) (PySem.list_append l eC.toArray n u (by rw[bq];omega)) ⟨e,?_⟩;refine⟨.non,_,I.lset (its':=eC++[u]) hH e (by simp) (r.append (.cons ru .nil)) ?_,rfl,q⟩;rw[av,fu];omega
def AY:V->List V->Hp->VK->Prop:=λx vs H Q=>∃l xs y,x= .ref l/\vs=[]/\H l=aA (.lst xs)/\xs[xs.length- 1]? =aA y/\Q y (Y7 H l (.lst xs.dropLast))
theorem pi:MtM X "list.pop" AY:=by
 intro eB s σ H x vs v us Q I rx rv h;obtain⟨l,xs,y,rfl,rfl,hH,hy,q⟩:=h;cases rx;have hus:=rv.zero;subst hus;obtain⟨z,eC,n,r,hl,e⟩:=I.lstM hH;obtain⟨u,hu,ru⟩:=r.get hy;have VN:eC.toArray[eC.toArray.size- 1]? =aA u:=by show eC.toArray[eC.length- 1]? =aA u;rw[<-dh,<-hl];exact hu
 refine call_meets F.slot_list_pop ⟨_,e,rfl⟩ F.entry_list_pop (F.args_list_pop_1 _) (MeetsSeq.list_pop_last l eC.toArray n u VN (by rw[bq];omega)) ⟨e,?_⟩;refine⟨y,_,I.lset (its':=eC.dropLast) hH e ?_ r.dropLast ?_,ru,q⟩
 .show eC.toArray.eraseIdxIfInBounds (eC.toArray.size- 1)=eC.dropLast.toArray;rw[bq,List.eraseIdxIfInBounds_toArray,X3]
 .rw[List.length_dropLast];omega
section
variable{κ:Type}[DecidableEq κ]
noncomputable def Jp(kvs:List (κ×V))(k:κ):Option V:=(kvs.find? λkv=>decide (kv.1=k)).map (·.2)
noncomputable def Jd(kvs:List (κ×V))(k:κ)(v:V):List (κ×V):=
 if(kvs.any λkv=>decide (kv.1=k))=aC then kvs.map (λkv=>if kv.1=k then(kv.1,v)else kv)else kvs++[(k,v)]
theorem jd:Jp ([]:List (κ×V)) k=aB:=rfl
theorem Bq{k:κ}(e:p.1=k):Jp (p::r) k=aA p.2:=by simp[Jp,List.find?_cons,e]
theorem Ob{k:κ}(e:¬p.1=k):Jp (p::r) k=Jp r k:=by simp[Jp,List.find?_cons,e]
theorem Ej(k):∀kvs:List (κ×V),(kvs.any λkv=>decide (kv.1=k))=(Jp kvs k).isSome
 | []=>rfl
 |p::r=>by
  rw[List.any_cons];by_cases e:p.1=k
  .simp only[Bq e,dJ e,Bool.true_or,Option.isSome_some]
  .rw[Ob e,dH e,Bool.false_or];exact Ej k r
theorem Cy(kvs)(k:κ)(v):(Jd kvs k v).length<=kvs.length+1:=by
 unfold Jd;split
 .rw[ah];omega
 .rw[av,bc,List.length_nil];omega
theorem R7.isSome_eq(r:R7 o u):o.isSome=u.isSome:=by
 cases o with
 |none=>cases u with
  |none=>rfl
  |some _=>exact(show False from r).elim
 |some _=>cases u with
  |none=>exact(show False from r).elim
  |some _=>rfl
theorem R7.getD(r:R7 o u)(rd:Zy d d'):Zy (o.getD d) (u.getD d'):=by
 cases o with
 |none=>cases u with
  |none=>exact rd
  |some _=>exact(show False from r).elim
 |some _=>cases u with
  |none=>exact(show False from r).elim
  |some _=>exact r
theorem KV.val(r:KV kvs vs)(k:κ):R7 (Jp kvs k) (valueAt vs k):=by
 unfold KV at r;induction r with
 |nil=>exact True.intro
 | @cons p q ps qs h t ih=>
  obtain⟨h1,h2⟩:=h;by_cases e:p.1=k
  .have e':q.1=k:=h1.symm.trans e;have b:valueAt (q::qs) k=aA q.2:=by simp[valueAt,List.find?_cons,e']
   rw[Bq e,b];exact h2
  .have e':¬q.1=k:=λz=>e (h1.trans z);have b:valueAt (q::qs) k=valueAt qs k:=by simp[valueAt,List.find?_cons,e']
   rw[Ob e,b];exact ih
theorem KV.any(r:KV kvs vs)(k:κ):(kvs.any λkv=>decide (kv.1=k))=vs.any λkv=>decide (kv.1=k):=by
 unfold KV at r;induction r with
 |nil=>rfl
 |cons h t ih=>rw[List.any_cons,List.any_cons,ih,h.1]
theorem KV.repl(r:KV kvs vs)(k:κ)(ry:Zy y u):
  KV (kvs.map λkv=>if kv.1=k then(kv.1,y)else kv) (vs.map λkv=>if kv.1=k then(kv.1,u)else kv):=by
 unfold KV at r⊢;induction r with
 |nil=>exact .nil
 | @cons p q ps qs h t ih=>
  rw[ay,ay];refine .cons ?_ ih;obtain⟨h1,h2⟩:=h;by_cases e:p.1=k
  .rw[dG e,dG (h1.symm.trans e)];exact⟨h1,ry⟩
  .rw[dF e,dF (λz=>e (h1.trans z))];exact⟨h1,h2⟩
theorem KV.put(r:KV kvs vs)(k:κ)(ry:Zy y u):KV (Jd kvs k y) (stored vs k u):=by
 unfold Jd stored;rw[r.any k];by_cases e:(vs.any λkv=>decide (kv.1=k))=aC
 .rw[dG e,dG e];exact r.repl k ry
 .rw[dF e,dF e];exact Paired.snoc r ⟨rfl,ry⟩
theorem KV.length{vs:List (κ×ag)}(r:KV kvs vs):kvs.length=vs.length:=Paired.length r
end
theorem Tv(r:Zy (kV k) u):(Zs P w).is k u=aC:=by
 cases k with
 |inl i=>obtain⟨t,e⟩:=(show∃t,u=Value.int i t from r);subst e;exact Se P w i t
 |inr x=>obtain⟨t,e⟩:=(show∃t,u=Value.str x t from r);subst e;exact Sf P w x t
theorem Kx:∀{ks:List Key} {us:List ag},Z5 (ks.map kV) us->ItemsAre (Zs P w) ks us
 | [],_,r=>by rw[List.map_nil]at r;cases r;exact .nil
 |k::ks,_,r=>by
  rw[ay]at r;cases r with
  |cons h t=>exact .cons (Tv h) (Kx t)
abbrev KT(H:Hp):List (List Key×V)->List (List Key×au×ag)->Prop:=Paired λp q=>p.1=q.1/\H q.2.1=aA (.tup (p.1.map kV))/\Zy p.2 q.2.2
theorem KT.val(r:KT H kvs xs)(k):R7 (Jp kvs k) ((atKey xs k).map (·.2)):=by
 induction r with
 |nil=>exact True.intro
 | @cons p q ps qs h t ih=>
  obtain⟨h1,_,h2⟩:=h;by_cases e:p.1=k
  .have e':q.1=k:=h1.symm.trans e;have b:atKey (q::qs) k=aA q.2:=by simp[atKey,List.find?_cons,e']
   rw[Bq e,b];exact h2
  .have e':¬q.1=k:=λz=>e (h1.trans z);have b:atKey (q::qs) k=atKey qs k:=by simp[atKey,List.find?_cons,e']
   rw[Ob e,b];exact ih
theorem KT.repl(r:KT H kvs xs)(k)(ry:Zy y u):
  KT H (kvs.map λkv=>if kv.1=k then(kv.1,y)else kv) (xs.map (putAt k u)):=by
 induction r with
 |nil=>exact .nil
 | @cons p q ps qs h t ih=>
  rw[ay,ay];refine .cons ?_ ih;obtain⟨h1,h2,h3⟩:=h;unfold putAt;by_cases e:p.1=k
  .rw[dG e,dG (h1.symm.trans e)];exact⟨h1,h2,ry⟩
  .rw[dF e,dF (λz=>e (h1.trans z))];exact⟨h1,h2,h3⟩
theorem KT.put(r:KT H kvs xs)(k)(hb:H b=aA (.tup (k.map kV)))(ry:Zy y u):
  KT H (Jd kvs k y) (storedH xs k b u):=by
 have e:(kvs.any λkv=>decide (kv.1=k))=(atKey xs k).isSome:=by rw[Ej,(r.val k).isSome_eq,Option.isSome_map]
 unfold Jd storedH;rw[e];by_cases q:(atKey xs k).isSome=aC
 .rw[dG q,dG q];exact r.repl k ry
 .rw[dF q,dF q];exact Paired.snoc r ⟨rfl,hb,ry⟩
theorem KT.keeps(r:KT H kvs xs)(ht:∀b ys,H b=aA (.tup ys)->H' b=aA (.tup ys)):KT H' kvs xs:=
 Paired.mapP r λ_ _ z=>⟨z.1,ht _ _ z.2.1,z.2.2⟩
theorem DE(ok:G9 P w H h)(e:Rd H a u):Yp P w H h a u:=e.ok ok
theorem Cz(ok:G9 P w H h)(e:RdK H a kvs):kvs.length<=sizeLine/\(a==sysModules)=aD/\∃vs,KV kvs vs/\h.DictOf (Zs P w) a vs:=
 let⟨ep,e⟩:=e;let⟨z,y,vs,r,d⟩:=(show Yp P w H h a (.dK kvs ep)from DE ok e);⟨z,y,vs,r,d.dictOf⟩
theorem z_(ok:G9 P w H h)(e:HK H a kvs):kvs.length<=sizeLine/\(a==sysModules)=aD/\∃vs,KV kvs vs/\h.DictOf (Zs P w) a vs:=Cz ok e.rd
theorem B6(ok:G9 P w H h)(e:H a=aA (.tup (ks.map kV))):(tupleKind (Zs P w)).is h ks a:=by
 obtain⟨_,eC,r,o,h1,h2,n,h3⟩:=(show Yp P w H h a (.tup (ks.map kV))from ok a _ e)
 exact⟨o,eC.toArray,n,h1,h2,h3,by simpa using Kx r⟩
theorem Ek(ok:G9 P w H h)(e:RdT H a kvs):kvs.length<=sizeLine/\(a==sysModules)=aD/\
  ∃xs,KT H kvs xs/\h.DictOfH (tupleKind (Zs P w)) a xs:=by
 obtain⟨ep,bs,e⟩:=e;obtain⟨z,y,xs,r,o,es,h1,h2,h3,h4,h5,_⟩:=(show Yp P w H h a (.dT kvs ep bs)from DE ok e)
 refine⟨z,y,xs,r,o,es,ep,h1,h2,h3,h4,λx hx=>?_,h5⟩;have all:∀{l:List (List Key×V)} {m:List (List Key×au×ag)},KT H l m->∀x∈m,(tupleKind (Zs P w)).is h x.1 x.2.1:=by
  intro l m q;induction q with
  |nil=>intro x hx;exact nomatch hx
  | @cons p q ps qs hq t ih=>
   intro x hx;rcases b7.mp hx with e|hx
   .subst e;exact B6 ok (by rw[<-hq.1];exact hq.2.1)
   .exact ih x hx
 exact all r x hx
theorem qM(ok:G9 P w H h)(e:HTt H a kvs):kvs.length<=sizeLine/\(a==sysModules)=aD/\
  ∃xs,KT H kvs xs/\h.DictOfH (tupleKind (Zs P w)) a xs:=Ek ok e.rd
def Br(H:Hp)(a:au)(y:V)(r:Option V):Prop:=
 (∃kvs k,RdK H a kvs/\y=kV k/\r=Jp kvs k)\/∃kvs k b,RdT H a kvs/\y= .ref b/\H b=aA (.tup (k.map kV))/\r=Jp kvs k
def Nu(H:Hp)(a:au)(y v:V)(R:Hp->Prop):Prop:=
 (∃kvs k,HK H a kvs/\y=kV k/\kvs.length<sizeLine/\∀ep,R (Y7 H a (.dK (Jd kvs k v) ep)))\/
 ∃kvs k b,HTt H a kvs/\y= .ref b/\H b=aA (.tup (k.map kV))/\kvs.length<sizeLine/\∀ep UE bs,H a=aA (.dT kvs UE bs)->R (Y7 H a (.dT (Jd kvs k v) ep (Sg kvs bs k b)))
theorem Br.k{k:Key}(e:HK H a kvs):Br H a (kV k) (Jp kvs k):=.inl ⟨kvs,k,e.rd,rfl,rfl⟩
theorem Br.t{k}(e:HTt H a kvs)(eb:H b=aA (.tup (k.map kV))):Br H a (.ref b) (Jp kvs k):=.inr ⟨kvs,k,b,e.rd,rfl,eb,rfl⟩
theorem Nu.k{k:Key}(e:HK H a kvs)(hl:kvs.length<sizeLine)(h:∀ep,R (Y7 H a (.dK (Jd kvs k v) ep))):Nu H a (kV k) v R:=.inl ⟨kvs,k,e,rfl,hl,h⟩
theorem Nu.t{k}(e:HTt H a kvs)(eb:H b=aA (.tup (k.map kV)))(hl:kvs.length<sizeLine)(h:∀ep UE bs,H a=aA (.dT kvs UE bs)->R (Y7 H a (.dT (Jd kvs k v) ep (Sg kvs bs k b)))):
  Nu H a (.ref b) v R:=.inr ⟨kvs,k,b,e,rfl,eb,hl,h⟩
section
variable{X:Cx}{eB:List (au×Obj)}{σ:St}{H:Hp}{s:am}{a:au}{y v:V}{u r:ag}{o:Option V}{A:dg}{E:ag->am->Prop}
theorem eG.big(I:eG X eB σ H s):sysModules<s.heap.objs.size:=by have h:mainGlobals<s.heap.objs.size:=(I.mod.glob.keeps I.bk).lt;exact Nat.lt_trans (by decide) h
theorem iN(hu:A.units+1<f9)(I:eG X eB σ H s)(g:Br H a y (aA v))(ry:Zy y u)(h:∀w' s',eG X eB σ H s'->Zy v w'->Q w' s'):
  bh (b9 X.prog X.w) A (getItem (.ref a) u) Q E s:=by
 rcases g with⟨kvs,k,e,ey,l⟩|⟨kvs,k,b,e,ey,eb,l⟩
 .subst ey;obtain⟨z,hd,vs,rel,dd⟩:=Cz I.hok e;obtain⟨w',hw,XU⟩:=R7.some_of (v:=v) (o:=valueAt vs k) (by rw[l];exact rel.val k);exact wpAny_getItem_of (Tv ry) dd.mapOf hw (h w' _ (I.tok _) XU)
 .subst ey;cases(show u=cr b from ry);obtain⟨z,hd,xs,rel,dd⟩:=Ek I.hok e;obtain⟨w',hw,XU⟩:=R7.some_of (v:=v) (o:=(atKey xs k).map (·.2)) (by rw[l];exact rel.val k);obtain⟨p,hp,VO⟩:=cu.mp hw;refine wpAny_getItem_heap (tupleKind_room_in1 hu) (B6 I.hok eb) dd hp ?_;rw[VO];exact h w' _ (I.tok _) XU
theorem tH(hu:A.units+1<f9)(I:eG X eB σ H s)(g:Br H a y o)(ry:Zy y u)(h:∀s',eG X eB σ H s'->Q (.bool o.isSome) s'):
  bh (b9 X.prog X.w) A (ik .In u (.ref a)) Q E s:=by
 rcases g with⟨kvs,k,e,ey,l⟩|⟨kvs,k,b,e,ey,eb,l⟩
 .subst ey;obtain⟨z,hd,vs,rel,dd⟩:=Cz I.hok e;refine wpAny_in_of (Tv ry) hd dd.mapOf ?_;rw[<-(rel.val k).isSome_eq,<-l];exact h _ (I.tok _)
 .subst ey;cases(show u=cr b from ry);obtain⟨z,hd,xs,rel,dd⟩:=Ek I.hok e;refine wpAny_in_heap (tupleKind_room_in1 hu) (B6 I.hok eb) hd dd ?_;have q:=(rel.val k).isSome_eq;rw[Option.isSome_map]at q;rw[<-q,<-l];exact h _ (I.tok _)
theorem lW(hu:A.units+1<f9)(I:eG X eB σ H s)(g:Br H a y o)(ry:Zy y u)(h:∀s',eG X eB σ H s'->Q (.bool (!o.isSome)) s'):
  bh (b9 X.prog X.w) A (ik .NotIn u (.ref a)) Q E s:=by
 rcases g with⟨kvs,k,e,ey,l⟩|⟨kvs,k,b,e,ey,eb,l⟩
 .subst ey;obtain⟨z,hd,vs,rel,dd⟩:=Cz I.hok e;refine wpAny_notIn_of (Tv ry) hd dd.mapOf ?_;rw[<-(rel.val k).isSome_eq,<-l];exact h _ (I.tok _)
 .subst ey;cases(show u=cr b from ry);obtain⟨z,hd,xs,rel,dd⟩:=Ek I.hok e;refine wpAny_notIn_heap (tupleKind_room_in1 hu) (B6 I.hok eb) hd dd ?_;have q:=(rel.val k).isSome_eq;rw[Option.isSome_map]at q;rw[<-q,<-l];exact h _ (I.tok _)
theorem Am(I:eG X eB σ H s)(mu:Mut (H a))(hs:gm a s.heap h')(he:∃q,h'.get? a=aA q)(new:Yp X.prog X.w (Y7 H a ob) h' a ob):
  eG X eB σ (Y7 H a ob) {s with heap:=h',toks:=t'}:=
 I.write (x:=a) (e:=a) mu (.inl rfl) (λb q hb z=>(hs.2 b hb).trans z) he new
theorem X4(z:kvs.length<=sizeLine)(hd:(a==sysModules)=aD)(rel:KV kvs vs)(dd:h'.DictOf (Zs P w) a vs):
  ∃ep,∀H',Yp P w H' h' a (.dK kvs ep):=let⟨ep,dd⟩:=dd.dictAt;⟨ep,λ_=>⟨z,hd,vs,rel,dd⟩⟩
theorem iM(hu:A.units+1<f9)(I:eG X eB σ H s)(g:Nu H a y v R)(ry:Zy y u)(rv:Zy v r)(h:∀H' s',R H'->eG X eB σ H' s'->Q () s'):
  bh (b9 X.prog X.w) A (setItem (.ref a) u r) Q E s:=by
 rcases g with⟨kvs,k,e,ey,l,eH⟩|⟨kvs,k,b,e,ey,eb,l,eH⟩
 .subst ey;obtain⟨z,hd,vs,rel,dd⟩:=z_ I.hok e;have hz:vs.length<=sizeLine:=by rw[<-rel.length];exact z
  have hl:(Jd kvs k v).length<=sizeLine:=by have:=Cy kvs k v;omega
  refine wpAny_setItem_pairs (hsz:=hz) (Tv ry) dd λh' UF hs=>?_;have he:∃q,h'.get? a=aA q:=let⟨q,_,_,hq,_⟩:=UF;⟨q,hq⟩
  obtain⟨ep,ok⟩:=X4 hl hd (rel.put k rv) UF;exact h _ _ (eH ep) (Am I (by obtain⟨e0,e⟩:=e;rw[e];exact True.intro) hs he (ok _))
 .subst ey;cases(show u=cr b from ry);obtain⟨z,hd,xs,rel,dd⟩:=qM I.hok e;have hz:xs.length<=sizeLine:=by rw[<-Paired.length rel];exact z
  have hl:(Jd kvs k v).length<=sizeLine:=by have:=Cy kvs k v;omega
  refine wpAny_setItem_heap (hsz:=hz) (tupleKind_room_in1 hu) (B6 I.hok eb) dd λh' UF hs=>?_;obtain⟨q,es,ep,hq,h2,h3,h4,_,h5⟩:=UF;obtain⟨e0,bs,e⟩:=e;have hb:(xs.map λx=>x.2.1)=bs:=by
   obtain⟨_,_,DI,r',_,_,w1,_,w3,w4,_,w6⟩:=(show Yp X.prog X.w H s.heap a (.dT kvs e0 bs)from I.hok a _ e)
   obtain⟨_,_,_,y1,_,y3,y4,_⟩:=dd;rw[w1]at y1;cases y1;rw[w3]at y3;cases y3;have:DI.map (λx=>x.2.1)=xs.map λx=>x.2.1:=by
    have z:=congrArg (List.map DictEntry.key) (w4.symm.trans y4);rw[cp,cp]at z;have inj:∀{l m:List (List Key×au×ag)},l.map (DictEntry.key∘entryOfKey (tupleKind (Zs X.prog X.w)))=m.map (DictEntry.key∘entryOfKey (tupleKind (Zs X.prog X.w)))->(l.map λx=>x.2.1)=m.map λx=>x.2.1:=by
     intro l;induction l with
     |nil=>intro m z;cases m with
      |nil=>rfl
      |cons _ _=>cases z
     |cons x l ih=>intro m z;cases m with
      |nil=>cases z
      |cons y m=>rw[ay,ay]at z⊢;injection z with z1 z2;have JG:cr x.2.1=cr y.2.1:=z1;injection JG with JG;rw[JG,ih z2]
    exact inj z
   rw[<-this];exact w6
  have WT:((storedH xs k b r).map λx=>x.2.1)=Sg kvs bs k b:=by
   have ee:(kvs.any λkv=>decide (kv.1=k))=(atKey xs k).isSome:=by rw[Ej,(rel.val k).isSome_eq,Option.isSome_map]
   unfold Sg storedH;rw[ee];by_cases qq:(atKey xs k).isSome=aC
   .rw[dG qq,dG qq,cp,<-hb];refine List.map_congr_left λx _=>?_;show(putAt k r x).2.1=x.2.1;unfold putAt;split<;> rfl
   .rw[dF qq,dF qq,b8,hb];rfl
  refine h _ _ (eH ep e0 bs e) (Am I (by rw[e];exact True.intro) hs ⟨q,hq⟩ ⟨hl,hd,_,(rel.put k eb rv).keeps λc ys ec=>?_,q,es,hq,h2,h3,h4,h5,WT⟩);rw[Zv (zv ec e (λz=>nomatch z))];exact ec
end
theorem qL{σ:St}(I:eG X eB σ H s)(e:RdK H a kvs)(h:∀t s',eG X eB σ H s'->Q (.int kvs.length t) s'):bh (b9 X.prog X.w) A (call (.builtin "len") [.ref a]) Q E s:=by obtain⟨z,hd,vs,rel,dd⟩:=Cz I.hok e;refine call_len_dict hd dd (by rw[<-rel.length];rw[gp]at z;omega) ?_;rw[<-rel.length];exact h _ _ (I.tok _)
def FZ(i:da):Prop:=∀ov iv,subscripted i aD ov iv=operate [ov,iv] (getItem ov iv)
theorem x_{id:String}(hl:typeLookup (.type T) "__getitem__"=pure (aA (.builtin id)))(hs:FZ slice)(h:bh (b9 prog w) A (ip value env) (λo s₁=>bh (b9 prog w) A (ip slice env) (λi s₂=>s₂.TypeIs o T/\bh (b9 prog w) A (getItem o i) Q E s₂) E s₁) E s):
  bh (b9 prog w) A (ip (.Subscript value slice pos) env) Q E s:=by
 refine Subscript_ (g9 h (λo s₁ h₁=>g9 h₁ (λi s₂ VM=>?_) λ_ _ x=>x) λ_ _ x=>x);obtain⟨hT,VM⟩:=VM;unfold subscriptTail;refine aa ?_;rw[getitemInPython_of_ne hT.not_modules];refine aa (wpAny_specialOf hT hl ?_);have fin:bh (b9 prog w) A (subscripted slice aD o i) (λr s₃=>bh (b9 prog w) A (letTemporaryGo value o r >>=λ_=>pure r) Q E s₃) E s₂:=by rw[hs o i];exact wpAny_operating (g9 VM (λr s₃ UR=>aa (wpAny_letTemporaryGo (ad UR))) λ_ _ x=>x)
 first
  |exact ad (aa fin)
  |exact aa (ad (aa fin))
  |exact aa fin
theorem Sn{σ:St}(I:eG X eB σ H s)(g:Br H a y o):s.TypeIs (.ref a) "dict":=by
 rcases g with⟨kvs,k,e,_,_⟩|⟨kvs,k,b,e,_,_,_⟩
 .obtain⟨_,_,vs,_,dd⟩:=Cz I.hok e;exact dd.typeIs
 .obtain⟨_,_,xs,_,dd⟩:=Ek I.hok e;exact dd.typeIs
def qK(td ty:TE):TE:=λσ H Q=>td σ H λx H1=>ty σ H1 λy H2=>∃a v,x= .ref a/\Br H2 a y (aA v)/\Q v H2
def zy(td ty tv:TE):TS:=λD σ H=>tv σ H λv H1=>td σ H1 λx H2=>ty σ H2 λy H3=>∃a,x= .ref a/\Nu H3 a y v (D.nx σ)
theorem lV(hu:X.A.units+1<f9)(ho:PE X o td)(hi:PE X i ty)(hs:FZ i):PE X (.Subscript o i pos) (qK td ty):=by intro eB s σ H Q I h;refine x_ PySem.F.slot_dict_getitem.lookup hs (Wq (ho eB s σ H _ I h) λu s1 ⟨x,H1,I1,rx,q1⟩=>Wq (hi eB s1 σ H1 _ I1 q1) λiv s2 ZE=>?_);obtain⟨y,H2,I2,ry,a,v,ex,g,q2⟩:=ZE;subst ex;obtain rfl:u=cr a:=rx;exact⟨Sn I2 g,iN hu I2 g ry λw' s3 I3 XU=>⟨v,H2,I3,XU,q2⟩⟩
theorem lU(hu:X.A.units+1<f9)(ho:PE X o td)(hi:PE X i ty)(hv:PE X value tv)(hs:swapsWith value (aA (.Subscript o i pos')) pos.line X.env=pure aD):
  PS X (.Assign [.Subscript o i pos'] value pos) (zy td ty tv):=by
 intro eB s σ H D I h;refine wpAny_Assign_Subscript (Wq (hv eB s σ H _ I h) λr s1 ⟨v,H1,I1,rv,q1⟩=>Wq (ho eB s1 σ H1 _ I1 q1) λu s2 ⟨x,H2,I2,rx,q2⟩=>Wq (hi eB s2 σ H2 _ I2 q2) λiv s3 ⟨y,H3,I3,ry,a,ex,g⟩=>?_) hs;subst ex;obtain rfl:u=cr a:=rx;exact iM hu I3 g ry rv λH4 s4 q3 I4=>⟨σ,H4,I4,q3⟩
theorem Sq(h:f8)(hb:sysModules<h.objs.size):Yp P w H (h.push {cls:=.type "dict",data:=.dict #[]}) h.objs.size (.dK [] 0):=
 ⟨gq _,beq_eq_false_iff_ne.mpr (Ne.symm (cj hb)),[],.nil,_,#[],bi _ rfl,⟨rfl,rfl,rfl⟩,rfl,λ_ he=>by simp at he,Pairs.nil,c7⟩
theorem jJ(h:f8)(hb:sysModules<h.objs.size):Yp P w H (h.push {cls:=.type "dict",data:=.dict #[]}) h.objs.size (.dT [] 0 []):=
 ⟨gq _,beq_eq_false_iff_ne.mpr (Ne.symm (cj hb)),[],.nil,_,#[],bi _ rfl,⟨rfl,rfl,rfl⟩,rfl,rfl,c7,rfl⟩
def yo:TE:=λ_ H Q=>∀p,H p=aB->Q (.ref p) (Y7 H p (.dK [] 0))
def yn:TE:=λ_ H Q=>∀p,H p=aB->Q (.ref p) (Y7 H p (.dT [] 0 []))
theorem jI:PE X (.Dict [] [] pos) yo:=λeB s σ H Q I h=>
 wpAny_Dict_empty ⟨.ref s.heap.objs.size,_,I.laid (a:=s.heap.objs.size) (o:=.dK [] 0) (t':=s.toks) (λ_ _ q=>aq _ q) (bf _) (Sq s.heap I.big),rfl,h _ (I.hok.fresh (bf _))⟩
theorem jH:PE X (.Dict [] [] pos) yn:=λeB s σ H Q I h=>
 wpAny_Dict_empty ⟨.ref s.heap.objs.size,_,I.laid (a:=s.heap.objs.size) (o:=.dT [] 0 []) (t':=s.toks) (λ_ _ q=>aq _ q) (bf _) (jJ s.heap I.big),rfl,h _ (I.hok.fresh (bf _))⟩
def X5:List (TE×TE)->St->Hp->(List (V×V)->Hp->Prop)->Prop
  | [],_,H,Q=>Q [] H
  | (tk,tv)::r,σ,H,Q=>tk σ H λx H1=>tv σ H1 λy H2=>X5 r σ H2 λps H3=>Q ((x,y)::ps) H3
abbrev VV:List (V×V)->List (ag×ag)->Prop:=Paired λp q=>Zy p.1 q.1/\Zy p.2 q.2
def PPs(X:Cx)(pos:Pos)(keys:List (Option da))(YY:List da)(SN:List (TE×TE)):Prop:=
 ∀(eB:List (au×Obj)) (s:am) (σ:St) (H:Hp) (Q:List (V×V)->Hp->Prop),eG X eB σ H s->X5 SN σ H Q->
  bh (b9 X.prog X.w) X.A (evalPairs (pairTrees keys YY X.env pos)) (λvs s'=>∃ps H',eG X eB σ H' s'/\VV ps vs/\Q ps H') X.xe s
theorem lT:PPs X pos [] [] []:=λeB s σ H Q I h=>pairTrees_nil_walk ⟨[],H,I,.nil,h⟩
theorem jG(hk:PE X k tk)(hv:PE X v tv)(hr:PPs X pos ks vs SN):
  PPs X pos (aA k::ks) (v::vs) ((tk,tv)::SN):=λeB s σ H Q I h=>
 pairTrees_cons_walk (Wq (hk eB s σ H _ I h) λu s1 ⟨x,H1,I1,rx,q1⟩=>Wq (hv eB s1 σ H1 _ I1 q1) λw2 s2 ⟨y,H2,I2,ry,q2⟩=>
  Wq (hr eB s2 σ H2 _ I2 q2) λws s3 ⟨ps,H3,I3,rel,q3⟩=>⟨(x,y)::ps,H3,I3,.cons ⟨rx,ry⟩ rel,q3⟩)
def B7(kvs more:List (Key×V)):List (Key×V):=more.foldl (λacc kv=>Jd acc kv.1 kv.2) kvs
theorem KV.merge:∀{more:List (Key×V)} {rs:List (Key×ag)} {kvs:List (Key×V)} {vs:List (Key×ag)},KV more rs->KV kvs vs->KV (B7 kvs more) (merged vs rs):=by
 intro more rs kvs vs r;unfold KV at r;induction r generalizing kvs vs with
 |nil=>intro q;exact q
 | @cons p q ps qs h t ih=>
  intro r0;have e:KV (Jd kvs p.1 p.2) (stored vs q.1 q.2):=by have:=r0.put p.1 h.2;rw[<-h.1];exact this
  exact ih e
theorem Ra:∀more kvs,(B7 kvs more).length<=kvs.length+more.length
 | [],kvs=>by show kvs.length<=kvs.length+0;omega
 |p::r,kvs=>by have h1:=Ra r (Jd kvs p.1 p.2);have h2:=Cy kvs p.1 p.2;show(B7 (Jd kvs p.1 p.2) r).length<=_;rw[bc];omega
theorem El:∀{kvs:List (Key×V)} {ws:List (ag×ag)},VV (kvs.map λkv=>(kV kv.1,kv.2)) ws->∃rs,Carries (Zs P w) ws rs/\KV kvs rs
 | [],_,r=>by rw[List.map_nil]at r;cases r;exact⟨[],True.intro,.nil⟩
 |p::kvs,_,r=>by
  rw[ay]at r;cases r with
  | @cons a b as bs h t=>obtain⟨rs,c,q⟩:=El (P:=P) (w:=w) t;obtain⟨b1,b2⟩:=b;exact⟨(p.1,b2)::rs,⟨Tv h.1,rfl,c⟩,.cons ⟨rfl,h.2⟩ q⟩
structure M1(X:Cx)(o:da)(m:Str)(ZD:Pos)(e:da)(cpos:Pos):Prop where
 base:attributeBase o m X.env (ip o X.env)=ip o X.env
 few:((gd cpos (bd [e] X.env)).all (λx=>!x.1)&&(backToKw cpos (keywordEach [] X.env)).all (λx=>x.1.isSome)
  &&decide (([e]:List da).length+([]:List Keyword).length+(if([]:List Keyword).isEmpty then 0 else 1)<30))=aC
 line:(ZD.endLine==cpos.line)=aC
 trees:gd cpos (bd [e] X.env)=[(aD,ip e X.env)]
structure M2(X:Cx)(o:da)(m:Str)(ZD:Pos)(e f:da)(cpos:Pos):Prop where
 base:attributeBase o m X.env (ip o X.env)=ip o X.env
 few:((gd cpos (bd [e,f] X.env)).all (λx=>!x.1)&&(backToKw cpos (keywordEach [] X.env)).all (λx=>x.1.isSome)
  &&decide (([e,f]:List da).length+([]:List Keyword).length+(if([]:List Keyword).isEmpty then 0 else 1)<30))=aC
 line:(ZD.endLine==cpos.line)=aC
 trees:gd cpos (bd [e,f] X.env)=[(aD,ip e X.env),(aD,ip f X.env)]
def IsD(H:Hp)(a:au):Prop:=(∃kvs,RdK H a kvs)\/∃kvs,RdT H a kvs
section
variable{X:Cx}{eB:List (au×Obj)}{σ:St}{H:Hp}{s:am}{a:au}{y d:V}{u r:ag}{o:Option V}{A:dg}{E:ag->am->Prop}
theorem pg(hu:A.units+1<f9)(I:eG X eB σ H s)(g:Br H a y o)(ry:Zy y u)(h:∀w' s',eG X eB σ H s'->Zy (o.getD .non) w'->Q w' s'):
  bh (b9 X.prog X.w) A (call (.builtin "dict.get") [.ref a,u]) Q E s:=by
 rcases g with⟨kvs,k,e,ey,l⟩|⟨kvs,k,b,e,ey,eb,l⟩
 .subst ey;obtain⟨z,hd,vs,rel,dd⟩:=Cz I.hok e;refine call_meetsIn PySem.F.slot_dict_get dd.typeIs PySem.F.entry_dict_get (PySem.F.args_dict_get_2 _ _) (meets_dict_get (Zs X.prog X.w) a (Tv ry) hd) ⟨_,dd.mapOf,h _ _ (I.tok _) ?_⟩;rw[l];exact(rel.val k).getD rfl
 .subst ey;cases(show u=cr b from ry);obtain⟨z,hd,xs,rel,dd⟩:=Ek I.hok e;refine call_meetsIn PySem.F.slot_dict_get dd.typeIs PySem.F.entry_dict_get (PySem.F.args_dict_get_2 _ _) (meetsH_dict_get (tupleKind (Zs X.prog X.w)) a b hd) ⟨tupleKind_room_in1 hu,k,xs,B6 I.hok eb,dd,h _ _ (I.tok _) ?_⟩;rw[l];exact(rel.val k).getD rfl
theorem pf(hu:A.units+1<f9)(I:eG X eB σ H s)(g:Br H a y o)(ry:Zy y u)(rd:Zy d r)(h:∀w' s',eG X eB σ H s'->Zy (o.getD d) w'->Q w' s'):
  bh (b9 X.prog X.w) A (call (.builtin "dict.get") [.ref a,u,r]) Q E s:=by
 rcases g with⟨kvs,k,e,ey,l⟩|⟨kvs,k,b,e,ey,eb,l⟩
 .subst ey;obtain⟨z,hd,vs,rel,dd⟩:=Cz I.hok e;refine call_meetsIn PySem.F.slot_dict_get dd.typeIs PySem.F.entry_dict_get (PySem.F.args_dict_get_3 _ _ _) (meets_dict_get_default (Zs X.prog X.w) a (Tv ry) hd r) ⟨_,dd.mapOf,h _ _ (I.tok _) ?_⟩;rw[l];exact(rel.val k).getD rd
 .subst ey;cases(show u=cr b from ry);obtain⟨z,hd,xs,rel,dd⟩:=Ek I.hok e;refine call_meetsIn PySem.F.slot_dict_get dd.typeIs PySem.F.entry_dict_get (PySem.F.args_dict_get_3 _ _ _) (meetsH_dict_get_default (tupleKind (Zs X.prog X.w)) a b hd r) ⟨tupleKind_room_in1 hu,k,xs,B6 I.hok eb,dd,h _ _ (I.tok _) ?_⟩;rw[l];exact(rel.val k).getD rd
end
theorem jF{σ:St}(I:eG X eB σ H s)(e:RdK H a kvs)(h:∀p ep s',H p=aB->eG X eB σ (Y7 H p (.dK kvs ep)) s'->Q (.ref p) s'):bh (b9 X.prog X.w) A (call (.type "dict") [.ref a]) Q E s:=by obtain⟨z,hd,vs,rel,dd⟩:=Cz I.hok e;refine kt_call_dict hd dd (by rw[<-rel.length];exact z) λh' UF hs=>?_;obtain⟨ep,ok⟩:=X4 z (beq_eq_false_iff_ne.mpr (Ne.symm (cj I.big))) rel UF;refine h _ ep _ (I.hok.fresh (bf _)) (I.laid (a:=s.heap.objs.size) (o:=.dK kvs ep) (t':=s.toks) (λb q hq=>?_) (bf _) (ok _));exact(hs.2 b (cj (bj hq))).trans (aq _ hq)
end L2
namespace Att
open PySem.W PySem.Calls
theorem Aa:∀ns vs,WellAll P h vs (ns.map WData.int)->IntsAre vs ns:=by
 intro ns;induction ns with
 |nil=>intro vs w;rw[List.map_nil]at w;cases w;exact .nil
 |cons n ns ih=>
  intro vs w;rw[ay]at w;cases w with
  |cons a b=>cases a;exact .cons _ _ (ih _ b)
theorem iL{l:OpenLaw}(hn:l.most=aA n)(ZY:l.row.toRowW.claim.pre args=aC)(IR:WellAll P h vals args):
  ∃a vs ns,vals=[cr a]/\args=[WData.list (ns.map WData.int)]/\h.get? a=aA {cls:=.type "list",data:=.seq vs.toArray}/\IntsAre vs ns/\ns.length<=n:=by
 have vi:WShape.hasAll [] args [.list .int]=aC:=(pre_splitW ZY).1;have hc:l.pre.holds [] {args:=args}=aC:=(pre_splitW ZY).2;obtain⟨d,r,rfl,h1,h2⟩:=hasAllW_cons vi;obtain rfl:=hasAllW_nil h2;obtain⟨xs,rfl,h3⟩:=hasW_list h1;obtain⟨ns,rfl⟩:=items_int h3;have hlen:ns.length<=n:=by
  unfold OpenLaw.pre at hc;have h4:(WTm.not (.lt (.lit (.int (n:Int))) (.len (.arg 0)))).holds [] {args:=[.list (ns.map .int)]}=aC:=by have h4:=(holds_andW hc).1;rw[hn]at h4;exact h4
  have h5:=condW_of h4 (w_not (w_lt w_lit (w_len_list (w_arg rfl))));rw[ah]at h5;refine Nat.le_of_not_lt λq=>?_;have q':(n:Int)<((ns.length:Nat):Int):=by omega
  first
   | (rw[dJ q']at h5;exact dM h5 (by decide))
   | (simp at h5;omega)
 cases IR with
 |cons w1 w2=>
  cases w2;cases w1 with
  |list ho hall=>exact⟨_,_,ns,rfl,rfl,ho,Aa ns _ hall,hlen⟩
theorem iK(l:OpenLaw)(args):l.row.toRowW.claim.post args (.bool aC) args=aC:=
 postW_of (r:=l.row.toRowW) (X:=(aC==aC))
  (show WShape.has [] (.bool aC) .bool=aC by first|rfl|decide|simp[WShape.has,WShape.arms,WShape.armsAll])
  (show(WTm.eq .res (.lit (.bool aC))).value [] {args:=args,res:=aA (.bool aC),after:=args}=aA (.bool (aC==aC))from w_eq_bool (w_res rfl) w_lit) rfl
theorem attach_call{l:OpenLaw}(hn:l.most=aA n)(NN:d.params.defaults=[])(call:∀w s₀ s₁ mg mb fa o pm cd ZW a vs ns,
   Ground q loose [] XP w s₀ mg mb s₁.heap->YP w s₁.heap->
   s₁.heap.get? fa=aA o->o.data= .func (docDef d.name d.params d.body d.scope pm cd ZW)->s₁.heap.CodeRec cd d.name->mg d.name=aA (.ref fa)->
   s₁.heap.get? a=aA {cls:=.type "list",data:=.seq vs.toArray}->IntsAre vs ns->ns.length<=n->s₁.gens= #[]->
   codeAny (b9 l.prog w) callerA (.call (.ref fa) ⟨[.ref a],[]⟩) (λr s'=>r= .ok (.ret (.bool aC))/\OldK s₁.heap s'.heap/\s'.os=s₁.os/\AllBare s'.gens) s₁):
  WalkO q loose XP YP l.row.toRowW d [] (λf vs=>PySem.call f vs):=by
 intro w s₀ s₁ mg mb G Y fa o pm cd ZW dV kV ho hd ZS hD HL hg args vals as ZY hlay hrd IR hlo;obtain rfl:dV= .none:=Dflts.none hD NN;obtain rfl:kV= .none:=Dflts.noKw hD;obtain⟨a,vs,ns,rfl,rfl,RM,VX,hlen⟩:=iL hn ZY IR;refine enter_call (codeAny_mono (call w s₀ s₁ mg mb fa o pm cd ZW a vs ns G Y ho (fd_plain hd) ZS HL RM VX hlen hg) λr s' hq=>?_);obtain⟨rfl,h2,h3,h4⟩:=hq;exact⟨.inl ⟨.bool aC,.bool aC,[],rfl,λ_=>rfl,.bool aC,iK l _,λ_=>⟨List.Pairwise.nil,λ_ hm=>(nomatch hm)⟩⟩,h2,h3,h4⟩
end Att
namespace L2
theorem Ky:∀{vs:List ag} {ns:List Int},IntsAre vs ns->Z5 (ns.map V.int) vs
 |_,_,.nil=>.nil
 |_,_,.cons n t h=>.cons ⟨t,rfl⟩ (Ky h)
noncomputable def Ux(s:Stmt):Arguments:=match s with
 | .FunctionDef _ a _ _ _ _ _ _ _ _=>a
 |_=>{posonlyargs:=[],args:=[],vararg:=aB,kwonlyargs:=[],kw_defaults:=[],kwarg:=aB,defaults:=[]}
noncomputable def Qs(s:Stmt):List Stmt:=match s with
 | .FunctionDef _ _ b _ _ _ _ _ _ _=>b
 |_=>[]
noncomputable def Yt(s:Stmt):Scope:=match s with
 | .FunctionDef _ _ _ _ _ _ sc _ _ _=>sc
 |_=>{kind:=.function,names:=[],isGenerator:=aD,isCoroutine:=aD}
abbrev Ot:CXT:=λ_ _ _ _ _ _=>False
abbrev E0:XK:=λ_ _ _=>False
theorem zx:Xx Ot X E0:=λ_ _ _ _ _ _ _ h=>h.elim
structure Fun(K:af)(x qual:Str)(st:Stmt)(f:au)(fd:FuncData):Prop where
 ex:∃(oc:ag) (od:Option au) (kV ZW pm:ag) (an:Option au) (ZP ct:ag) (XM:Array (Option ag)),
  fd=PySem.W.fnOf x qual (Ux st) (Qs st) (Yt st) .none kV ZW pm an ZP ct/\K.lookup f=aA ⟨oc,od,.func fd,XM⟩/\PySem.W.codeIn K ZP qual=aC
 kp:PySem.W.keepIn K (.ref f)=aC
section
variable{K:af}
theorem Fun.ok{st}(F:Fun K x qual st f fd)(S:FnScope N ps (Yt st))(len:∀vs H Q E,sp vs H Q E->vs.length=ps.length)(XJ:∀ZP A outer s H vs Q E,eT k (A.deeper (envOfC qual (Yt st) s.heap.objs.size f ZP))->sp vs H Q E->
   ∃t,M0 (Sj Ot P w K mg base N qual (Yt st) f ZP A outer s H E).nox (Qs st) t/\t {nx:=λ_ H'=>Q .non H',rt:=Q} (Bp N vs) H):FnOk P w K mg base Ot (k+1) f fd ps sp:=by
 obtain⟨oc,od,kV,ZW,pm,an,ZP,ct,XM,rfl,lk,ZS⟩:=F.ex;refine yC lk ZS S len λA outer s H vs Q E hr UH=>?_;obtain⟨t,h,q⟩:=XJ ZP A outer s H vs Q E hr UH;exact⟨t,h.nox,q⟩
theorem Fun.binds{st}(F:Fun K x qual st f fd)(h:∀kV ZW pm an ZP ct us,us.length=ps.length->bindArgs (PySem.W.fnOf x qual (Ux st) (Qs st) (Yt st) .none kV ZW pm an ZP ct) ⟨us,[]⟩=pure (ps.zip us)):Tu K fd ps []:=by
 obtain⟨oc,od,kV,ZW,pm,an,ZP,ct,XM,rfl,lk,ZS⟩:=F.ex;exact .all (h kV ZW pm an ZP ct)
theorem fV{st}{kV ZW pm ZP ct}(l:K.lookup f=aA ⟨oc,od,.func (PySem.W.fnOf x qual (Ux st) (Qs st) (Yt st) .none kV ZW pm an ZP ct),XM⟩)(c:PySem.W.codeIn K ZP qual=aC)(k:PySem.W.keepIn K (.ref f)=aC):Fun K x qual st f (PySem.W.fnOf x qual (Ux st) (Qs st) (Yt st) .none kV ZW pm an ZP ct):=⟨⟨oc,od,kV,ZW,pm,an,ZP,ct,XM,rfl,l,c⟩,k⟩
end
theorem DD(hr:eT k A):A.units+1<cLine:=ib (Nat.add_le_add_left (by decide:1<=64) _) hr.units
theorem iJ:Jq X (.builtin "len") (λxs H Q=>∃a kvs,xs=[V.ref a]/\HK H a kvs/\Q (.int kvs.length) H):=by intro eB s σ H xs us Q I r h;obtain⟨a,kvs,rfl,ha,q⟩:=h;obtain⟨u,rfl,ru⟩:=Uu r;cases ru;exact qL I ha.rd λt s' I'=>⟨.int kvs.length,H,I',⟨t,rfl⟩,q⟩
def Zk(H H':Hp):Prop:=∀b o,H b=aA o->H' b=aA o
theorem Zk.refl(H):Zk H H:=λ_ _ h=>h
theorem Zk.trans(a:Zk H H1)(b:Zk H1 H2):Zk H H2:=λc o h=>b c o (a c o h)
theorem Zk.free(e:Zk H H')(h:H' l=Option.none):H l=Option.none:=by
 cases q:H l with
 |none=>rfl
 |some o=>rw[e l o q]at h;cases h
theorem PE.imp(h:PE X e t)(w:∀σ H Q,t' σ H Q->t σ H Q):PE X e t':=λeB s σ H Q I q=>h eB s σ H Q I (w σ H Q q)
theorem PT.imp(h:PT X e t)(w:∀σ H Q,t' σ H Q->t σ H Q):PT X e t':=λeB s σ H Q I q=>h eB s σ H Q I (w σ H Q q)
theorem PW.imp(h:PW X e t)(w:∀σ H Q,t' σ H Q->t σ H Q):PW X e t':=λwh eB s σ H Q I q=>h wh eB s σ H Q I (w σ H Q q)
theorem PA.imp(h:PA X e t)(w:∀σ H Q,t' σ H Q->t σ H Q):PA X e t':=λpos eB s σ H Q I q=>h pos eB s σ H Q I (w σ H Q q)
theorem PS.imp(h:PS X e t)(w:∀D σ H,t' D σ H->t D σ H):PS X e t':=λeB s σ H D I q=>h eB s σ H D I (w D σ H q)
theorem M0.imp(h:M0 X e t)(w:∀D σ H,t' D σ H->t D σ H):M0 X e t':=λeB s σ H D I q=>h eB s σ H D I (w D σ H q)
theorem PG.imp(h:PG X e t)(w:∀v σ H Q,t' v σ H Q->t v σ H Q):PG X e t':=λeB s σ H v u Q I r q=>h eB s σ H v u Q I r (w v σ H Q q)
theorem PGs.imp(h:PGs X e t)(w:∀v σ H Q,t' v σ H Q->t v σ H Q):PGs X e t':=λeB s σ H vs us Q I r q=>h eB s σ H vs us Q I r (w vs σ H Q q)
theorem PI.imp(h:PI X tg e t)(w:∀σ H R,t' σ H R->t σ H R):PI X tg e t':=λeB s σ H R I q=>h eB s σ H R I (w σ H R q)
noncomputable def Ab(cells:List (Str×au)):List (Str×NameKind)->List (Str×au)->List (Str×au)
 | [],cs=>cs
 | (n,k)::r,cs=>Ab cells r (if k= .free then(n,(cells.lookup n).getD 0)::cs else cs)
theorem Rk:∀names cs,(∀y∈names,y.2= .free->∃c,env.cells.lookup y.1=aA c)->
    (forIn names cs (λx r=>if(x.2==gx)=aC then do let a<-cellOf env x.1;pure (ForInStep.yield ((x.1,a)::r))else pure (ForInStep.yield r)):Sem (List (Str×au)))=pure (Ab env.cells names cs)
  | [],cs,_=>by rw[List.forIn_nil];rfl
  | (n,k)::r,cs,h=>by
    rw[List.forIn_cons];by_cases hk:k= .free
    · obtain⟨c,hc⟩:=h (n,k) ac hk
      subst hk;have e1:cellOf env n=pure c:=by unfold cellOf;rw[hc]
      show((if(gx==gx)=aC then(cellOf env n >>=λa=>pure (ForInStep.yield ((n,a)::cs)))else pure (ForInStep.yield cs)) >>=λs=>_)=_;rw[dG (show(gx==gx)=aC by decide),e1];show(forIn r ((n,c)::cs) _:Sem (List (Str×au)))=_;rw[Rk r _ λy hy=>h y (ao _ hy)];show _=pure (Ab env.cells r (if gx=gx then(n,(env.cells.lookup n).getD 0)::cs else cs));rw[dG rfl,hc];rfl
    · have hb:(k==gx)=aD:=by simpa using hk
      show((if(k==gx)=aC then(cellOf env n >>=λa=>pure (ForInStep.yield ((n,a)::cs)))else pure (ForInStep.yield cs)) >>=λs=>_)=_;rw[hb,dF bv];show(forIn r cs _:Sem (List (Str×au)))=_;rw[Rk r _ λy hy=>h y (ao _ hy)];show _=pure (Ab env.cells r (if k=gx then _ else cs));rw[dF hk]
theorem Rb(h:∀y∈scope.names,y.2= .free->∃c,env.cells.lookup y.1=aA c):closureFor scope env=pure (Ab env.cells scope.names []):=by simp only[closureFor];rw[Rk scope.names [] h];rfl
theorem Sr:∀{names:List (Str×NameKind)} {cs:List (Str×au)},(∀y∈names,y.2= .free->∃c,cells.lookup y.1=aA c)->
    (cs.lookup x=aA c->cells.lookup x=aA c)->(Ab cells names cs).lookup x=aA c->cells.lookup x=aA c
  | [],_,_,h0,e=>h0 e
  | (n,k)::r,cs,h,h0,e=>by
    refine Sr (names:=r) (λy hy=>h y (ao _ hy)) ?_ e;intro e';by_cases hk:k= .free
    · rw[dG hk]at e'
      obtain⟨c',hc⟩:=h (n,k) ac hk;rw[hc]at e';by_cases hx:x==n
      · simp only[List.lookup_cons,hx]at e'
        cases e';have:x=n:=by simpa using hx
        rw[this];exact hc
      · have WL:(x==n)=aD:=by simpa using hx
        simp only[List.lookup_cons,WL]at e';exact h0 e'
    · rw[dF hk]at e';exact h0 e'
theorem Kz:∀{names:List (Str×NameKind)} {cs:List (Str×au)},(∃c,cs.lookup x=aA c)->∃c,(Ab cells names cs).lookup x=aA c
  | [],_,h=>h
  | (n,k)::r,cs,⟨c,h⟩=>by
    refine Kz (names:=r) ?_;by_cases hk:k= .free
    · rw[dG hk]
      by_cases hx:x==n
      · exact⟨(cells.lookup n).getD 0,by simp only[List.lookup_cons,hx]⟩
      · have WL:(x==n)=aD:=by simpa using hx
        exact⟨c,by simp only[List.lookup_cons,WL];exact h⟩
    · rw[dF hk];exact⟨c,h⟩
theorem Mc:∀{names:List (Str×NameKind)} {cs:List (Str×au)},(x,gx)∈names->∃c,(Ab cells names cs).lookup x=aA c
  | [],_,h=>nomatch h
  | (n,k)::r,cs,h=>by
    rcases b7.mp h with e|e
    · cases e
      refine Kz (names:=r) ⟨(cells.lookup x).getD 0,?_⟩;rw[dG rfl];simp[List.lookup_cons]
    · exact Mc (names:=r) e
noncomputable def rlF(env:Env):Str×NameKind->Str×NameKind:=λ(n,k)=>if(k==gx&&env.scope.kind== .function&&env.kindOf n==aA .cell)then(n,NameKind.cell)else(n,k)
theorem Nv(env p):(rlF env p).1=p.1:=by obtain⟨n,k⟩:=p;unfold rlF;dsimp only;split<;> rfl
theorem Oy{f:Str×NameKind->Str×NameKind}(h:∀p,(f p).1=p.1)(x):∀names:List (Str×NameKind),(names.map f).lookup x=(names.lookup x).map λk=>(f (x,k)).2
  | []=>rfl
  | (n,k)::r=>by
    have ih:=Oy h x r;have e:f (n,k)=(n,(f (n,k)).2):=Prod.ext (h (n,k)) rfl;rw[ay,e,List.lookup_cons,List.lookup_cons];cases hx:x==n with
    |true=>
      have:x=n:=by simpa using hx
      subst this;rfl
    |false=>exact ih
theorem Em:∀{names:List (Str×NameKind)},names.lookup x=aA k->(x,k)∈names
  | [],h=>by simp at h
  | (n,k')::r,h=>by
    rw[List.lookup_cons]at h;cases hx:x==n with
    |true=>
      rw[hx]at h;have:x=n:=by simpa using hx
      subst this;cases h;exact ac
    |false=>rw[hx]at h;exact ao _ (Em h)
theorem B8{names:List (Str×NameKind)}(hn:∀y∈names,y.2≠.cell)(hk:kk= .cell\/kk= .free)(h:(names.map (rlF env)).lookup x=aA kk):(x,gx)∈names:=by
 rw[Oy (Nv env)]at h;obtain⟨k,h1,h2⟩:=cu.mp h;have hm:=Em h1;have hc:k≠.cell:=hn _ hm;by_cases hf:k= .free
 .subst hf;exact hm
 .exfalso;have hb:(k==gx)=aD:=by simpa using hf
  unfold rlF at h2;simp only[hb,Bool.false_and,bx,if_false]at h2;rcases hk with e|e
  .exact hc (h2.trans e)
  .exact hf (h2.trans e)
inductive BSrc where
 |own|cap (j:Nat)|acc
noncomputable def ze(σ:St)(acc:au):BSrc->Option V
 | .own=>aB
 | .cap j=>(σ[j]?).join
 | .acc=>aA (.ref acc)
def X6(src:List BSrc)(σ:St)(acc:au):St:=src.map (ze σ acc)
abbrev Cx.block(X:Cx)(N':List Str)(scope:Scope)(C:au)(s₀:am)(H₀:Hp)(ex:List au):Cx:=
 {X with N:=N',env:=compEnvC scope (Ab X.env.cells scope.names []) C X.env,s₀:=s₀,H₀:=H₀,outer:=X.stack,stack:=X.stack,ex:=ex,fn:=λ_=>aD,pn:=[],xe:=λ_ _=>False}
structure CompScope(X:Cx)(N':List Str)(scope:Scope)(src:List BSrc):Prop where
 kind:scope.kind= .function
 nocell:∀y∈scope.names,y.2≠.cell
 names:∀y∈scope.names,y.2= .local->scope.names.lookup y.1=aA .local
 free:∀y∈scope.names,y.2= .free->X.env.kindOf y.1=aA .cell\/X.env.kindOf y.1=aA .free
 len:src.length=N'.length
 cap:∀(k j:Nat) (x:Str),src[k]? =aA (.cap j)->N'[k]? =aA x->X.N[j]? =aA x/\(X.env.kindOf x=aA .cell\/X.env.kindOf x=aA .free)/\scope.names.lookup x=aA .free
 acc:∀(k:Nat) (x:Str),src[k]? =aA .acc->N'[k]? =aA x->scope.names.lookup x=aB
theorem G3{names:List (Str×NameKind)}(h:names.lookup x=aB):(names.map (rlF env)).lookup x=aB:=by rw[Oy (Nv env),h];rfl
theorem G4{names:List (Str×NameKind)}(h:names.lookup x=aA .free):(names.map (rlF env)).lookup x=aA .cell\/(names.map (rlF env)).lookup x=aA .free:=by
 rw[Oy (Nv env),h];unfold rlF;dsimp only[Option.map];split
 .exact .inl rfl
 .exact .inr rfl
section
variable{X:Cx}{N':List Str}{scope:Scope}{src:List BSrc}{eB:List (au×Obj)}{σ:St}{H:Hp}{s:am}{C acc:au}{fp:List au}
theorem Ss(S:CompScope X N' scope src)(I:eG X eB σ H s)(hC:C=s.heap.objs.size)(hf:∀b∈fp,Jf X eB H b)(LG:∀b∈fp,∃o,s.heap.get? b=aA o)(WN:h1.Ns C λ_=>aB)(hk:∀b o,s.heap.get? b=aA o->h1.get? b=aA o):
  eG (X.block N' scope C s H fp) [] (X6 src σ acc) H {s with heap:=h1,toks:=tk}:=by
 have NX:∀y∈scope.names,y.2= .free->∃c,X.env.cells.lookup y.1=aA c:=λy hy e=>I.ok.has y.1 (S.free y hy e);have sub:∀x c,(Ab X.env.cells scope.names []).lookup x=aA c->X.env.cells.lookup x=aA c:=λx c e=>Sr NX (λh=>by simp at h) e;have gt:∀b,b<s.heap.objs.size->b≠C:=λb hb e=>by rw[e,hC]at hb;exact Nat.lt_irrefl _ hb
 refine⟨⟨I.ok.mod,S.kind,I.ok.glob,I.ok.blt,by rw[hC];exact bf _,λx y c h1 h2=>I.ok.inj x y c (sub x c h1) (sub y c h2),λx hx=>?_,λx c h=>dM h bv,I.ok.hd,I.ok.frames,.inl rfl,λb hb=>?_,I.bs,
  dm I.ok.bsz I.sz,λb o e hb=>?_,λb hb hs=>?_,I.stack,I.stkFree⟩,rfl,I.bare,Un.kept hk,⟨_,WN,λi x v e1 e2 e3=>?_⟩,λx c e=>?_,?_,λx c e=>I.freeC x c (sub x c e),λp hp=>?_,I.hok.kept hk,?_⟩
 .rcases hx with hx|hx
  .exact Mc (B8 S.nocell (.inl rfl) hx)
  .exact Mc (B8 S.nocell (.inr rfl) hx)
 .refine Qi (hf b hb) λf0 f1 f2 f3 f4 f5=>?_;refine⟨?_,λx c e=>f4 x c (sub x c e)⟩;show b≠C;obtain⟨o,ho⟩:=LG b hb;exact gt b (bj ho)
 .refine Qi (hf b hb) λf0 f1 f2 f3 f4 f5=>?_;rcases f3 with z|z
  .exact I.ok.noex b o e z
  .exact dM (df (bj e) (dm I.ok.bsz z)) (Nat.lt_irrefl _)
 .refine Qi (hf b hb) λf0 f1 f2 f3 f4 f5=>?_;rcases b7.mp (I.stkSub b hs)with z|z
  .exact f1 z
  .exact f2 z
 .have IV:∃q,src[i]? =aA q:=by
   cases q:src[i]? with
   |some q0=>exact⟨q0,rfl⟩
   |none=>have UU:(X6 src σ acc)[i]? =aA (aA v):=e2;unfold X6 at UU;rw[az,q]at UU;cases UU
  obtain⟨q,hq⟩:=IV;have UU:(X6 src σ acc)[i]? =aA (aA v):=e2;unfold X6 at UU;rw[az,hq]at UU;have NU:ze σ acc q=aA v:=dq.inj UU;cases q with
  |own=>cases NU
  |acc=>
   exfalso;have hno:=G3 (env:=X.env) (S.acc i x hq e1);have RN:(relabel scope X.env).names.lookup x=aB:=hno;have FF:Xp (relabel scope X.env) x:=e3;rcases FF with z|z|z
   .rw[RN]at z;cases z
   .rw[RN]at z;cases z
   .rw[RN]at z;cases z
  |cap j=>
   obtain⟨hj,WQ,uC⟩:=S.cap i j x hq e1;have OR:σ[j]? =aA (aA v):=by
    have e4:(σ[j]?).join=aA v:=NU;cases r:σ[j]? with
    |none=>rw[r]at e4;cases e4
    |some o=>rw[r]at e4;cases o with
     |none=>cases e4
     |some w'=>cases e4;rfl
   obtain⟨m,hn,hl⟩:=I.loc;obtain⟨u,ru,l⟩:=hl j x v hj OR (by rcases WQ with z|z;exact .inr (.inl z);exact .inr (.inr z));refine⟨u,ru,?_⟩;rcases l with⟨z,_⟩|⟨_,c,hc,hcell⟩
   .rcases WQ with y|y
    .rw[y]at z;cases z
    .rw[y]at z;cases z
   .have FF:Xp (relabel scope X.env) x:=e3;have fin:∀kk,kk= .cell\/kk= .free->(relabel scope X.env).names.lookup x=aA kk->AW (X.block N' scope C s H fp).env h1 (λ_=>aB) x u:=λkk CM hx=>by
     obtain⟨c',TY⟩:=Mc (cells:=X.env.cells) (cs:=[]) (B8 S.nocell CM hx);have:=sub x c' TY;rw[hc]at this;cases this;obtain⟨oc,VS,VR⟩:=hcell;refine .inr ⟨?_,c,TY,oc,hk c oc VS,VR⟩;rcases CM with y|y
     .subst y;exact .inl hx
     .subst y;exact .inr hx
    rcases FF with z|z|z
    .exfalso;have z':(relabel scope X.env).names.lookup x=aA .local:=z;rcases G4 (env:=X.env) uC with y|y
     .have y':(relabel scope X.env).names.lookup x=aA .cell:=y;rw[z']at y';cases y'
     .have y':(relabel scope X.env).names.lookup x=aA .free:=y;rw[z']at y';cases y'
    .exact fin .cell (.inl rfl) z
    .exact fin .free (.inr rfl) z
 .refine W1 (I.cell x c (sub x c e)) λv oc VS VR=>?_;exact⟨v,oc,hk c oc VS,VR⟩
 .show H C=aB;rw[hC];exact I.hok.fresh (bf _)
 .have hp':p∈([]:List (au×Obj)):=by simpa using hp
  exact nomatch hp'
 .show(X6 src σ acc).length=N'.length;unfold X6;rw[ah];exact S.len
def DC(src:List BSrc)(wi:TI)(g:TG)(tt:TT)(te:TE):TE:=λσ H Q=>wi σ H λJ H1=>∀acc,H1 acc=aB->
 ∃W:Nat->Nat->St->Hp->Prop,(∃m,W 0 m (X6 src σ acc) (Y7 H1 acc (.lst [])))/\∀i m ZB H,W i m ZB H->(J.stop i H/\Q (.ref acc) H)\/
  (J.go i H/\∀x H',J.yld i H x H'->g x ZB H' λWW H2=>tt WW H2 λb H3=>if b=aC then te WW H3 λy H4=>Gp (.ref acc) [y] H4 λ_ H5=>∃m',m'<m/\W (i+1) m' WW H5 else∃m',m'<m/\W (i+1) m' WW H3)
def PTs(X:Cx)(YL:List da)(t:TT):Prop:=
 ∀(eB:List (au×Obj)) (s:am) (σ:St) (H:Hp) (Q:Bool->Hp->Prop),eG X eB σ H s->t σ H Q->
  bh (b9 X.prog X.w) X.A (forIn YL aC λc r=>if r=aC then do let ok<-isTrue c X.env (ip c X.env);pure (ForInStep.yield ok)else pure (ForInStep.yield r)) (TP X eB σ Q) X.xe s
def rZ:TT:=λ_ H Q=>Q aC H
theorem lS:PTs X [] rZ:=λ_ s σ H Q I h=>wpAny_tests_nil ⟨H,I,h⟩
theorem lR(h:PT X c t):PTs X [c] t:=λeB s σ H Q I q=>wpAny_tests_one (h eB s σ H Q I q)
theorem iI{acc:ag}(I:Nat->am->Prop)(turn:∀n s,I n s->bh (b9 prog w) A (pyNext it) (λr s₁=>match r with
   |none=>R (.ok .next) s₁
   |some v=>bh (b9 prog w) A (letOwnedTupleGo YJ it v) (λ_ s₀=>bh (b9 prog w) A (assign YJ env v) (λ_ s₂=>
     bh (b9 prog w) A (forIn YL aC λc r=>if r=aC then do let ok<-isTrue c env (ip c env);pure (ForInStep.yield ok)else pure (ForInStep.yield r)) (λok s₃=>if ok=aC then bh (b9 prog w) A (ip elt env) (λx UN=>
      bh (b9 prog w) A (call (.builtin "list.append") [acc,x]) (λ_ P_=>∃m,m<n/\I m P_) (λ_ _=>False) UN) (λ_ _=>False) s₃
      else∃m,m<n/\I m s₃) (λ_ _=>False) s₂)
     (λ_ _=>False) s₀) (λ_ _=>False) s₁) (λ_ _=>False) s)(n)(h:I n s):codeAny (b9 prog w) A (.compLoop (.ListComp elt [⟨YJ,ZF,YL,0⟩] scope pos) 0 it acc env) R s:=by
 refine codeAny_loop rfl I (λn s hI=>?_) n h;show bh _ A ((compTurn (.ListComp elt [⟨YJ,ZF,YL,0⟩] scope pos) 0 it acc env).onRaise (λx=>do noteFrame x env;theTreesLotGoes x)) _ _ s;refine wpAny_noted ?_;rw[compTurn_list];refine aa (wpAny_standAt (aa (g9 (turn n s hI) (λr s₁ h₁=>?_) λ_ _ f=>f.elim)));cases r with
 |none=>exact ad h₁
 |some v=>
  refine aa (g9 h₁ (λ_ s₀ OQ=>?_) λ_ _ f=>f.elim);refine aa (g9 OQ (λ_ s₂ VM=>?_) λ_ _ f=>f.elim);refine aa (g9 VM (λvJ s₃ UR=>?_) λ_ _ f=>f.elim);cases vJ with
  |false=>exact ad ⟨rfl,UR⟩
  |true=>exact aa (aa (g9 UR (λx UN IL=>aa (g9 IL (λ_ P_ IK=>ad (ad ⟨rfl,IK⟩)) λ_ _ f=>f.elim)) λ_ _ f=>f.elim))
theorem En{Q:VK}{RR:ag->au->Result->am->Prop}(hc:X.calm=aC)(S:CompScope X N' scope src)(hg:∀C s₀ H₀ ex,PG (X.block N' scope C s₀ H₀ ex) tg g)(ht:∀C s₀ H₀ ex,PTs (X.block N' scope C s₀ H₀ ex) YL tt)(he:∀C s₀ H₀ ex,PE (X.block N' scope C s₀ H₀ ex) elt te)(I:eG X eB σ H s)(T:Turn X.prog X.w X.K tg J fp it tn)(st:tn 0 s.heap)(hf:∀b∈fp,Jf X eB H b)(q:∀acc,H acc=aB->∃W:Nat->Nat->St->Hp->Prop,(∃m,W 0 m (X6 src σ acc) (Y7 H acc (.lst [])))/\∀i m ZB H,W i m ZB H->(J.stop i H/\Q (.ref acc) H)\/
   (J.go i H/\∀x H',J.yld i H x H'->g x ZB H' λWW H2=>tt WW H2 λb H3=>if b=aC then te WW H3 λy H4=>Gp (.ref acc) [y] H4 λ_ H5=>∃m',m'<m/\W (i+1) m' WW H5 else∃m',m'<m/\W (i+1) m' WW H3))(uM:∀acc C s' H' m,eG X eB σ H' s'->Q (.ref acc) H'->s'.heap.Ns C m->H' C=aB->C≠X.env.locals->X.s₀.heap.objs.size<=C->(∀x c,X.env.cells.lookup x=aA c->c≠C)->(∀p∈X.pn++eB,p.1≠C)->
   RR (.ref acc) C (.ok .next) s'):
  bh (b9 X.prog X.w) X.A (newList []) (λacc s₃=>bh (b9 X.prog X.w) X.A (newFunctionEnv scope X.env.globals (Ab X.env.cells scope.names []) [] X.env.qual aB .none (aA X.env)) (λNW UN=>
   codeAny (b9 X.prog X.w) X.A (.compStart (.ListComp elt [⟨tg,ZF,YL,0⟩] scope pos) 0 (.ref it) acc {NW with scope:=relabel scope X.env}) (RR acc NW.locals) UN) E s₃) E s:=by
 have LG:∀b∈fp,∃o,s.heap.get? b=aA o:=λb hb=>let⟨o,e,_⟩:=T.obj 0 _ st b hb;⟨o,e⟩
 refine g7 (wpAny_newFunctionEnv S.nocell (by intro y hy;simp at hy) (λh₁ X_ XW=>?_) S.kind);dsimp only at X_ XW⊢;have WB:H s.heap.objs.size=aB:=I.hok.fresh (bf _);have I3:eG X eB σ (Y7 H s.heap.objs.size (.lst [])) {s with heap:=s.heap.push {cls:=.type "list",dict:=aB,data:=.seq ([]:List ag).toArray}}:=I.lnew (t':=s.toks) (eC:=[]) (ys:=[]) .nil (gq _);have LI:∀b∈fp,Jf X eB (Y7 H s.heap.objs.size (.lst [])) b:=λb hb=>by obtain⟨f0,f⟩:=hf b hb;obtain⟨o,ho⟩:=LG b hb;exact⟨by rw[Zv (cj (bj ho))];exact f0,f⟩
 have NJ:∀b∈fp,∃o,(s.heap.push {cls:=.type "list",dict:=aB,data:=.seq ([]:List ag).toArray}).get? b=aA o:=λb hb=>let⟨o,e⟩:=LG b hb;⟨o,aq _ e⟩
 obtain⟨W,⟨m0,w0⟩,turn⟩:=q _ WB;generalize hH2:s.heap.push {cls:=.type "list",dict:=aB,data:=.seq ([]:List ag).toArray}=H2 at X_ XW I3 NJ⊢;have keep:∀b o,H2.get? b=aA o->h₁.get? b=aA o:=λb o e=>XW.extBut b o (cj (bj e)) (aq _ e);have J0:=Ss (N':=N') (scope:=scope) (src:=src) (acc:=s.heap.objs.size) (tk:=s.toks+([]:List (Str×ag)).length) (C:=H2.objs.size) S I3 rfl LI NJ (show h₁.Ns H2.objs.size (λ_=>aB)from X_) keep;have QH:tn 0 h₁:=T.keep 0 s.heap h₁ st λb hb o e=>keep b o (by rw[<-hH2];exact aq _ e);have cne:H2.objs.size≠X.env.locals:=Nat.ne_of_gt I3.lt;have ui:X.s₀.heap.objs.size<=H2.objs.size:=I3.sz;have NY:∀x c,X.env.cells.lookup x=aA c->c≠H2.objs.size:=λx c e z=>by refine W1 (I3.cell x c e) λv oc VS _=>?_;exact dM (bj VS) (by rw[z];exact Nat.lt_irrefl _)
 have FJ:∀p∈X.pn++eB,p.1≠H2.objs.size:=λp hp z=>dM (bj (I3.pin p hp).1) (by rw[z];exact Nat.lt_irrefl _);have RE:∀s₃:am,s₃={s with heap:=h₁,toks:=s.toks+([]:List (Str×ag)).length}->
   codeAny (b9 X.prog X.w) X.A (.compLoop (.ListComp elt [⟨tg,ZF,YL,0⟩] scope pos) 0 (.ref it) (.ref s.heap.objs.size) (compEnvC scope (Ab X.env.cells scope.names []) H2.objs.size X.env)) (RR (.ref s.heap.objs.size) H2.objs.size) s₃:=by
  rintro s₃ rfl;refine iI (λn s'=>∃i ZB H',eG (X.block N' scope H2.objs.size {s with heap:=H2} (Y7 H s.heap.objs.size (.lst [])) fp) [] ZB H' s'/\tn i s'.heap/\(∀b∈fp,H' b=aB)/\W i n ZB H') ?_ m0 ⟨0,_,_,J0,QH,λb hb=>(LI b hb).1,w0⟩;rintro n s4 ⟨i,UW,H4,J4,st4,fr4,w4⟩;have G_:∀{H':Hp},(∀b∈fp,H' b=aB)->∀b∈fp,Jf (X.block N' scope H2.objs.size {s with heap:=H2} (Y7 H s.heap.objs.size (.lst [])) fp) [] H' b:=fun{H'} hn b hb=>by
   refine Qi (LI b hb) λf0 f1 f2 f3 f4 f5=>?_;refine⟨hn b hb,?_,λz=>J4.ok.exfs b hb z,.inl hb,λx c e=>(J4.ok.exf b hb).2 x c e,λp hp=>?_⟩
   .exact(J4.ok.exf b hb).1
   .have hp':p∈([]:List (au×Obj)):=by simpa using hp
    exact nomatch hp'
  rcases turn i n UW H4 w4 with⟨stop,qn⟩|⟨go,step⟩
  .refine Wq (T.done (X.block N' scope H2.objs.size {s with heap:=H2} (Y7 H s.heap.objs.size (.lst [])) fp) rfl rfl rfl hc i [] s4 UW H4 _ J4 (G_ fr4) st4 stop) λr s5 ⟨hr,J5⟩=>?_;subst hr;obtain⟨m5,vq,_⟩:=J5.loc;have I5:eG X eB σ H4 s5:=I3.call' (ch:=fp) J5.os J5.base J5.hok J5.bare λb hb=>by refine Qi (LI b hb) λf0 f1 f2 f3 f4 f5=>?_;exact⟨f3,f1,f4,f5⟩
   exact uM _ _ s5 H4 m5 I5 qn vq J5.free cne ui NY FJ
  .refine Wq (T.item (X.block N' scope H2.objs.size {s with heap:=H2} (Y7 H s.heap.objs.size (.lst [])) fp) rfl rfl rfl hc i [] s4 UW H4 _ J4 (G_ fr4) st4 go) λr s5 ⟨u,hr,h5⟩=>?_;subst hr;refine Wq h5 λ_ s6 ZE=>?_;obtain⟨x,H6,J6,r6,y6,JL,uW⟩:=ZE;have J6':=J6.pinned (G_ uW) (T.obj _ _ JL);have again:∀{YT:St} {H7:Hp} {s7:am},eG (X.block N' scope H2.objs.size {s with heap:=H2} (Y7 H s.heap.objs.size (.lst [])) fp) ([]++Eh fp s6.heap) YT H7 s7->(∃m',m'<n/\W (i+1) m' YT H7)->
     ∃m,m<n/\∃i ZB H',eG (X.block N' scope H2.objs.size {s with heap:=H2} (Y7 H s.heap.objs.size (.lst [])) fp) [] ZB H' s7/\tn i s7.heap/\(∀b∈fp,H' b=aB)/\W i m ZB H':=fun{YT H7 s7} J7 ⟨m',hm,w7⟩=>by
    refine⟨m',hm,i+1,YT,H7,J7.unpinned,T.keep _ _ _ JL λb hb o e=>(J7.pin (b,o) (bp _ (bp _ (B3 hb e)))).1,λb hb=>?_,w7⟩;obtain⟨o,e,d⟩:=T.obj _ _ JL b hb;exact(J7.pin (b,o) (bp _ (bp _ (B3 hb e)))).2.1
   refine Wq (hg _ _ _ _ _ s6 UW H6 x u _ J6' r6 (step x H6 y6)) λ_ s7 ZE=>?_;obtain⟨YT,H7,J7,q7⟩:=ZE;refine Wq (ht _ _ _ _ _ s7 YT H7 _ J7 q7) λb s8 ZE=>?_;obtain⟨H8,J8,q8⟩:=ZE;cases b with
   |false=>rw[dF bv]at q8⊢;exact again J8 q8
   |true=>rw[dG rfl]at q8⊢;refine Wq (he _ _ _ _ _ s8 YT H8 _ J8 q8) λy s9 ZE=>?_;obtain⟨vy,H9,J9,r9,q9⟩:=ZE;refine Wq (M3 _ s9 YT H9 (.ref s.heap.objs.size) [vy] (.ref s.heap.objs.size) [y] _ J9 rfl (.cons r9 .nil) q9) λ_ MV ⟨_,H10,J10,_,q10⟩=>again J10 q10
 exact codeAny_compStart_list (RE _ rfl) (T.self X.A 0 _ _ _ QH (RE _ rfl))
theorem lQ(hc:X.calm=aC)(S:CompScope X N' scope src)(hi:PI X tg ZF wi)(hg:∀C s₀ H₀ ex,PG (X.block N' scope C s₀ H₀ ex) tg g)(ht:∀C s₀ H₀ ex,PTs (X.block N' scope C s₀ H₀ ex) YL tt)(he:∀C s₀ H₀ ex,PE (X.block N' scope C s₀ H₀ ex) elt te)(hs:‹∀x,foldedSetIterable ZF X.env x=pure x›):PE X (.ListComp elt [⟨tg,ZF,YL,0⟩] scope pos) (DC src wi g tt te):=by
 intro eB s σ H Q I h;rw[eval_ListComp];refine wpAny_comprehension_free (use:=aB) rfl hs (Rb λy hy e=>I.ok.has y.1 (S.free y hy e)) S.kind S.names (Wq (hi eB s σ H _ I h) λv s1 h1=>Wq h1 λMZ s2 h2=>?_);obtain⟨it,fp,tn,J,H2,e,I2,T,OA,f2,q⟩:=h2;subst e;refine En hc S hg ht he I2 T OA f2 q λacc C s' H' m I' q' hn hC c1 c2 c3 c4=>⟨m,hn,λh' QO=>?_⟩
 exact⟨.ref acc,H',I'.turned (t':=s'.toks) (λb o hb e=>(QO.2 b hb).trans e) hC c1 (.inr c2) c3 c4,rfl,q'⟩
theorem X7(hc:X.calm=aC)(S:CompScope X N' scope src)(hi:PI X tg ZF wi)(hg:∀C s₀ H₀ ex,PG (X.block N' scope C s₀ H₀ ex) tg g)(ht:∀C s₀ H₀ ex,PTs (X.block N' scope C s₀ H₀ ex) YL tt)(he:∀C s₀ H₀ ex,PE (X.block N' scope C s₀ H₀ ex) elt te)(hN:X.N.Nodup)(NF:X.N[i]? =aA y)(hx:X.env.scope.names.lookup y=aA .local)(W':swapsWith (.ListComp elt [⟨tg,ZF,YL,0⟩] scope pos) (aA (.Name y py)) spos.line X.env=pure aC)(hs:‹∀x,foldedSetIterable ZF X.env x=pure x›):PS X (.Assign [.Name y py] (.ListComp elt [⟨tg,ZF,YL,0⟩] scope pos) spos) (Xq (DC src wi g tt te) (Tt i)):=by
 intro eB s σ H D I h;rw[exec_Assign_Name_used _ _ _ _ W'];refine aa (wpAny_standAt (aa ?_));show bh _ X.A (do let _<-comprehension (.ListComp elt [⟨tg,ZF,YL,0⟩] scope pos) scope X.env _ (newList []) aD (ip ZF X.env) (aA (assign (.Name y py) X.env))) _ _ s;refine aa (g9 (wpAny_comprehension_free (use:=aA (assign (.Name y py) X.env)) (Q:=λ_ s'=>SP X eB D .next s') rfl hs (Rb λy hy e=>I.ok.has y.1 (S.free y hy e)) S.kind S.names
  (Wq (hi eB s σ H _ I h) λv s1 h1=>Wq h1 λMZ s2 h2=>?_)) (λ_ s' hq=>ad (ad hq)) λ_ _ e=>e)
 obtain⟨it,fp,tn,J,H2,e,I2,T,OA,f2,q⟩:=h2;subst e;refine En (Q:=λx H1=>Tt i x σ H1 D.nx) hc S hg ht he I2 T OA f2 q λacc C s' H' m I' q' hn hC c1 c2 c3 c4=>?_;refine wpAny_assign_Name (Kq I' hN NF (.inl hx) (v:=.ref acc) (u:=.ref acc) rfl (λYA i6 ⟨a,hsb,ha⟩=>?_) (.inr hx));have uR:C≠a:=by
  rcases ha with z|z
  .rw[z];exact c1
  .exact Ne.symm (c3 _ _ z)
 refine⟨m,hn.sameBut hsb uR,λh' QO=>?_⟩;exact⟨_,H',i6.turned (t':=YA.toks) (λb o hb e=>(QO.2 b hb).trans e) hC c1 (.inr c2) c3 c4,q'⟩
end
abbrev EXT:=ag->Option au->St->Hp->Prop
noncomputable abbrev Cx.inSuite(X:Cx)(a:au):Cx:={X with A:=X.A.mark (aA (.ref a)),calm:=aD,xe:=λ_ _=>False}
def DB(a C:au)(dx:Option au):f8->Prop:=λh=>∃o,h.get? a=aA o/\o.cls= .ref C/\o.dict=dx/\PySem.W.notCls o=aC
set_option genInjectivity false in
structure Hd where
 x:Str
 np:Pos
 nm:Option (Str×Nat)
 b0:Stmt
 suite:List Stmt
 pos:Pos
 B:au
 t:TS
noncomputable def Ends.but(D:Ends)(i:Nat):Ends:={nx:=λσ H=>D.nx (σ.set i aB) H,bk:=λσ H=>D.bk (σ.set i aB) H,ct:=λσ H=>D.ct (σ.set i aB) H,rt:=D.rt}
def Hd.run(h:Hd)(C:au)(dx:Option au)(D:Ends)(σ:St)(H:Hp):Prop:=match h.nm with
 |none=>h.t D σ H
 |some (_,i)=>∀a,H a=aB->h.t (D.but i) (σ.set i (aA (.ref a))) (Y7 H a (.ext (DB a C dx)))
set_option genInjectivity false in
structure Hd.Ok(X:Cx)(h:Hd):Prop where
 gl:Gl X h.x
 mg:X.mg h.x=aA (.ref h.B)
 ty:PySem.W.typeIn X.K (.ref h.B)=aA (.type "type")
 cl:PySem.W.isClsIn X.K h.B=aC
 bs:PySem.W.mroIn X.K h.B (.type "BaseException")=aA aC
 db:(h.x==("__debug__":Str))=aD
 nm:∀n i,h.nm=aA (n,i)->X.N.Nodup/\X.N[i]? =aA n/\Loc X.env.scope n/\X.env.kindOf n=aA .local/\X.env.scope.names.lookup n=aA .local
 su:∀a,M0 (X.inSuite a) (h.b0::h.suite) h.t
section
open PySem.Calls Builtin.ObjectAttr Builtin.Getset_descriptor
theorem Nw:∀{Bs:List au} {us:List ag},Z5 (Bs.map V.ref) us->us=Bs.map cr
 | [],_,r=>by rw[List.map_nil]at r;cases r;rfl
 |B::Bs,_,r=>by
  rw[ay]at r;cases r with
  |cons h t=>rw[show _=cr B from h,Nw t];rfl
end
end L2
namespace PySem
open PySem.Sem (wp)
end PySem
namespace L2
section
open PySem.Calls Builtin.ObjectAttr
end
noncomputable def drop(H:Hp)(e:au):Hp:=λb=>if b=e then aB else H b
section
variable{K:af}
inductive D where
 |non|bl (b:Bool)|int (i:Int)|str (x:Str)
 |tup (xs:List D)|lst (xs:List D)
 |dK (ks:List Key) (vs:List D)|dT (ks:List (List Key)) (vs:List D)|dX (ks:List Zo) (vs:List D)
 |exc (c:Str) (ks:List Str) (vs:List D)
def Su(K:af)(c:Str)(C:au):Prop:=PySem.W.nsIn K mainGlobals c=aA (aA (.ref C))
def KB(F:Hp)(kvs:List (List Key×V))(bs:List au):Prop:=Paired (λ(p:List Key×V) (b:au)=>F b=aA (.tup (p.1.map kV))) kvs bs
def KN(F:Hp)(kvs:List (Zo×V))(bs:List au):Prop:=Paired (λ(p:Zo×V) (b:au)=>Jo F p.1 b) kvs bs
mutual
inductive eP(K:af)(F:Hp):D->V->Prop where
 |non:eP K F .non .non
 |bl (b:Bool):eP K F (.bl b) (.bl b)
 |int (i:Int):eP K F (.int i) (.int i)
 |str (x:Str):eP K F (.str x) (.str x)
 |tup {a:au} {xs:List D} {vs:List V} (h:F a=aA (.tup vs)) (r:eF K F xs vs):eP K F (.tup xs) (.ref a)
 |lst {a:au} {xs:List D} {vs:List V} (h:Bm K F a vs) (o:F a=aA (.lst vs)\/∀d∈xs,∃i,d= .int i) (r:eF K F xs vs):eP K F (.lst xs) (.ref a)
 |dK {a:au} {ks:List Key} {ds:List D} {kvs:List (Key×V)} {ep:Nat} (h:F a=aA (.dK kvs ep)) (e:kvs.map (·.1)=ks) (r:eF K F ds (kvs.map (·.2))):eP K F (.dK ks ds) (.ref a)
 |dT {a:au} {ks:List (List Key)} {ds:List D} {kvs:List (List Key×V)} {ep:Nat} {bs:List au} (h:F a=aA (.dT kvs ep bs)) (kb:KB F kvs bs) (e:kvs.map (·.1)=ks) (r:eF K F ds (kvs.map (·.2))):eP K F (.dT ks ds) (.ref a)
 |dX {a:au} {ks:List Zo} {ds:List D} {kvs:List (Zo×V)} {ep:Nat} {bs:List au} (h:F a=aA (.dN kvs ep bs)) (kb:KN F kvs bs) (e:kvs.map (·.1)=ks) (r:eF K F ds (kvs.map (·.2))):eP K F (.dX ks ds) (.ref a)
 |exc {a C:au} {c:Str} (cl:Su K c C) (h:F a=aA (.ext (DB a C aB))):eP K F (.exc c [] []) (.ref a)
 |exd {a C dx:au} {c:Str} {ks:List Str} {ds:List D} {fs:List (Str×V)} (cl:Su K c C) (h:F a=aA (.ext (DB a C (aA dx)))) (hx:F dx=aA (.xd fs)) (e:fs.map (·.1)=ks) (r:eF K F ds (fs.map (·.2))):eP K F (.exc c ks ds) (.ref a)
inductive eF(K:af)(F:Hp):List D->List V->Prop where
 |nil:eF K F [] []
 |cons {d:D} {v:V} {ds:List D} {vs:List V} (h:eP K F d v) (t:eF K F ds vs):eF K F (d::ds) (v::vs)
end
theorem KB.mono(s:Zk F F')(h:KB F kvs bs):KB F' kvs bs:=Paired.mapP h λ_ _ z=>s _ _ z
theorem KN.mono(s:Zk F F')(h:KN F kvs bs):KN F' kvs bs:=Paired.mapP h λ_ _ z=>z.mono λ_ _ q=>s _ _ q
theorem ym(s:Zk F F')(h:Rd F a u):Rd F' a u:=by
 rcases h with h|⟨o,h⟩
 .exact .inl (s _ _ h)
 .exact .inr ⟨o,s _ _ h⟩
theorem Wn(s:Zk F F')(h:Bm K F a xs):Bm K F' a xs:=by
 rcases h with h|h
 .exact .inl (ym s h)
 .exact .inr h
theorem Qj(s:Zk F F')(h:Mx K F a xs):Mx K F' a xs:=by
 rcases h with h|h
 .exact .inl (ym s h)
 .exact .inr h
theorem Rc(h:F a=aA (.tup vs)):Mx K F a vs:=.inl (.inl h)
mutual
theorem eP.mono{F F':Hp}(s:Zk F F'):∀{d:D} {v:V},eP K F d v->eP K F' d v
 |_,_,.non=>.non
 |_,_,.bl b=>.bl b
 |_,_,.int i=>.int i
 |_,_,.str x=>.str x
 |_,_,.tup h r=>.tup (s _ _ h) (eF.mono s r)
 |_,_,.lst h o r=>.lst (Wn s h) (o.imp (λz=>s _ _ z) id) (eF.mono s r)
 |_,_,.dK h e r=>.dK (s _ _ h) e (eF.mono s r)
 |_,_,.dT h kb e r=>.dT (s _ _ h) (kb.mono s) e (eF.mono s r)
 |_,_,.dX h kb e r=>.dX (s _ _ h) (kb.mono s) e (eF.mono s r)
 |_,_,.exc cl h=>.exc cl (s _ _ h)
 |_,_,.exd cl h hx e r=>.exd cl (s _ _ h) (s _ _ hx) e (eF.mono s r)
theorem eF.mono{F F':Hp}(s:Zk F F'):∀{ds:List D} {vs:List V},eF K F ds vs->eF K F' ds vs
 |_,_,.nil=>.nil
 |_,_,.cons h t=>.cons (eP.mono s h) (eF.mono s t)
end
theorem eF.length:∀{vs:List V},eF K F ds vs->ds.length=vs.length:=by
 induction ds with
 |nil=>intro vs h;cases h;rfl
 |cons d ds ih=>
  intro vs h;cases h with
  |cons _ t=>rw[bc,bc,ih t]
theorem eF.append(h:eF K F ds vs)(q:eF K F es us):eF K F (ds++es) (vs++us):=by
 induction ds generalizing vs with
 |nil=>cases h;exact q
 |cons d ds ih=>
  cases h with
  |cons h t=>exact .cons h (ih t)
theorem eF.snoc(r:eF K F ds vs)(h:eP K F d v):eF K F (ds++[d]) (vs++[v]):=r.append (.cons h .nil)
theorem eF.get:∀{ds:List D} {vs:List V} {i:Nat} {d:D},eF K F ds vs->ds[i]? =aA d->∃v,vs[i]? =aA v/\eP K F d v
 |_,_,_,_,.nil,e=>by simp at e
 |_,_,0,_,.cons h t,e=>by simp at e;subst e;exact⟨_,rfl,h⟩
 |_,_,i+1,d,.cons h t,e=>by obtain⟨v,h1,h2⟩:=eF.get (i:=i) (d:=d) t (by simpa using e);exact⟨v,by simpa using h1,h2⟩
theorem eF.take:∀{ds:List D} {vs:List V} n,eF K F ds vs->eF K F (ds.take n) (vs.take n)
 |_,_,0,_=>.nil
 |_,_,_+1,.nil=>.nil
 |_,_,n+1,.cons h t=>.cons h (t.take n)
theorem eF.drop:∀{ds:List D} {vs:List V} n,eF K F ds vs->eF K F (ds.drop n) (vs.drop n)
 |_,_,0,r=>r
 |_,_,_+1,.nil=>.nil
 |_,_,n+1,.cons h t=>t.drop n
inductive SV where
 |fz (d:D)|ol (xs:List D)|oK (ks:List Key) (vs:List D)|oT (ks:List (List Key)) (vs:List D)|oN (ks:List Key) (ZC:List (List D))|oL (pin:Option au) (ZC:List (List D))|oQ (pin:au) (ks:List Key) (vs:List D)|oX (ks:List Zo) (ZC:List (List D))|oD (WV:List (List Key×List D))|oM (ks:List Zo) (vs:List D)|oR (pin:au) (ks:List Key) (ZC:List (List D))
@[simp]noncomputable def SV.toD:SV->D
 | .fz d=>d
 | .ol xs=>.lst xs
 | .oK ks vs=>.dK ks vs
 | .oT ks vs=>.dT ks vs
 | .oN ks ZC=>.dK ks (ZC.map D.lst)
 | .oL _ ZC=>.lst (ZC.map D.lst)
 | .oQ _ ks vs=>.dK ks vs
 | .oX ks ZC=>.dX ks (ZC.map D.lst)
 | .oD WV=>.lst (WV.map λp=>.dK p.1 p.2)
 | .oM ks vs=>.dX ks vs
 | .oR _ ks ZC=>.dK ks (ZC.map D.lst)
noncomputable abbrev Zu:=List (au×HO)
inductive eU(K:af)(F:Hp):List (List D)->List V->Zu->Prop where
 |nil:eU K F [] [] []
 |cons {xs:List D} {ZC:List (List D)} {b:au} {vs:List V} {ws:List V} {ns:Zu} (r:eF K F xs vs) (t:eU K F ZC ws ns):eU K F (xs::ZC) (.ref b::ws) ((b,.lst vs)::ns)
inductive KidD(K:af)(F:Hp):List (List Key×List D)->List V->Zu->Prop where
 |nil:KidD K F [] [] []
 |cons {ds:List D} {WV:List (List Key×List D)} {b:au} {kvs:List (Key×V)} {ep:Nat} {ws:List V} {ns:Zu} (r:eF K F ds (kvs.map (·.2))) (t:KidD K F WV ws ns):KidD K F ((kvs.map (·.1),ds)::WV) (.ref b::ws) ((b,.dK kvs ep)::ns)
inductive eN(K:af)(F:Hp):SV->V->Zu->Prop where
 |fz {d:D} {v:V} (h:eP K F d v):eN K F (.fz d) v []
 |ol {a:au} {xs:List D} {vs:List V} (r:eF K F xs vs):eN K F (.ol xs) (.ref a) [(a,.lst vs)]
 |oK {a:au} {ks:List Key} {ds:List D} {kvs:List (Key×V)} {ep:Nat} (e:kvs.map (·.1)=ks) (r:eF K F ds (kvs.map (·.2))):eN K F (.oK ks ds) (.ref a) [(a,.dK kvs ep)]
 |oT {a:au} {ks:List (List Key)} {ds:List D} {kvs:List (List Key×V)} {ep:Nat} {bs:List au} (kb:KB F kvs bs) (e:kvs.map (·.1)=ks) (r:eF K F ds (kvs.map (·.2))):eN K F (.oT ks ds) (.ref a) [(a,.dT kvs ep bs)]
 |oN {a:au} {ks:List Key} {ZC:List (List D)} {kvs:List (Key×V)} {ns:Zu} {ep:Nat} (e:kvs.map (·.1)=ks) (r:eU K F ZC (kvs.map (·.2)) ns):eN K F (.oN ks ZC) (.ref a) ((a,.dK kvs ep)::ns)
 |oR {a:au} {ks:List Key} {ZC:List (List D)} {kvs:List (Key×V)} {ns:Zu} {ep:Nat} (e:kvs.map (·.1)=ks) (r:eU K F ZC (kvs.map (·.2)) ns):eN K F (.oR a ks ZC) (.ref a) ((a,.dK kvs ep)::ns)
 |oL {pin:Option au} {a:au} {ZC:List (List D)} {ws:List V} {ns:Zu} (hp:∀b,pin=aA b->b=a) (r:eU K F ZC ws ns):eN K F (.oL pin ZC) (.ref a) ((a,.lst ws)::ns)
 |oQ {a:au} {ks:List Key} {ds:List D} {kvs:List (Key×V)} {ep:Nat} (e:kvs.map (·.1)=ks) (r:eF K F ds (kvs.map (·.2))):eN K F (.oQ a ks ds) (.ref a) [(a,.dK kvs ep)]
 |oX {a:au} {ks:List Zo} {ZC:List (List D)} {kvs:List (Zo×V)} {ns:Zu} {ep:Nat} {bs:List au} (kb:KN F kvs bs) (e:kvs.map (·.1)=ks) (r:eU K F ZC (kvs.map (·.2)) ns):eN K F (.oX ks ZC) (.ref a) ((a,.dN kvs ep bs)::ns)
 |oD {a:au} {WV:List (List Key×List D)} {ws:List V} {ns:Zu} (r:KidD K F WV ws ns):eN K F (.oD WV) (.ref a) ((a,.lst ws)::ns)
 |oM {a:au} {ks:List Zo} {ds:List D} {kvs:List (Zo×V)} {ep:Nat} {bs:List au} (kb:KN F kvs bs) (e:kvs.map (·.1)=ks) (r:eF K F ds (kvs.map (·.2))):eN K F (.oM ks ds) (.ref a) [(a,.dN kvs ep bs)]
theorem KidD.mono(s:Zk F F'):∀{WV:List (List Key×List D)} {ws:List V} {ns:Zu},KidD K F WV ws ns->KidD K F' WV ws ns
 |_,_,_,.nil=>.nil
 |_,_,_,.cons r t=>.cons (r.mono s) (t.mono s)
theorem eU.mono(s:Zk F F')(h:eU K F ZC ws ns):eU K F' ZC ws ns:=by
 induction h with
 |nil=>exact .nil
 |cons r _ ih=>exact .cons (r.mono s) ih
theorem eN.mono(s:Zk F F')(h:eN K F sv v ns):eN K F' sv v ns:=by
 cases h with
 |fz h=>exact .fz (h.mono s)
 |ol r=>exact .ol (r.mono s)
 |oK e r=>exact .oK e (r.mono s)
 |oT kb e r=>exact .oT (kb.mono s) e (r.mono s)
 |oN e r=>exact .oN e (r.mono s)
 |oR e r=>exact .oR e (r.mono s)
 |oL hp r=>exact .oL hp (r.mono s)
 |oQ e r=>exact .oQ e (r.mono s)
 |oX kb e r=>exact .oX (kb.mono s) e (r.mono s)
 |oD r=>exact .oD (r.mono s)
 |oM kb e r=>exact .oM (kb.mono s) e (r.mono s)
noncomputable def Uy(F:Hp):Zu->Hp
 | []=>F
 |p::r=>Y7 (Uy F r) p.1 p.2
noncomputable abbrev Ac(ns:Zu):List Addr:=ns.map (·.1)
theorem Bt:∀{ns:Zu},b∉Ac ns->Uy F ns b=F b
 | [],_=>rfl
 |p::r,h=>by have h1:b≠p.1:=λe=>h (by rw[e];exact ac);have h2:b∉Ac r:=λe=>h (ao _ e);show Y7 (Uy F r) p.1 p.2 b=F b;rw[Zv h1,Bt h2]
theorem Eo:∀{ns:Zu},(Ac ns).Nodup->p∈ns->Uy F ns p.1=aA p.2
 | [],_,h=>nomatch h
 |q::r,nd,h=>by
  obtain⟨n1,n2⟩:=eh.mp nd;show Y7 (Uy F r) q.1 q.2 p.1=aA p.2;rcases b7.mp h with e|e
  .subst e;exact Yk
  .rw[Zv λz=>n1 (ax.mpr ⟨p,e,z⟩)];exact Eo n2 e
theorem Q4(h:∀p∈ns,F p.1=aB):Zk F (Uy F ns):=λb o e=>by
 by_cases hb:b∈Ac ns
 .obtain⟨p,hp,ep⟩:=ax.mp hb;subst ep;rw[h p hp]at e;cases e
 .rw[Bt hb];exact e
theorem xz(nd:(Ac ns).Nodup)(le:Zk F H)(h:∀p∈ns,H p.1=aA p.2):Zk (Uy F ns) H:=λb o e=>by
 by_cases hb:b∈Ac ns
 .obtain⟨p,hp,ep⟩:=ax.mp hb;subst ep;rw[Eo nd hp]at e;cases e;exact h p hp
 .rw[Bt hb]at e;exact le b o e
theorem Sw{Z:Hp×Hp}(nd:(Ac ns).Nodup)(fro:∀b o,F b=aA o->Z.2 b=aA o\/Z.1 b=aB)(hz:∀p∈ns,Z.1 p.1=aB):∀b o,Uy F ns b=aA o->Z.2 b=aA o\/Z.1 b=aB:=λb o e=>by
 by_cases hb:b∈Ac ns
 .obtain⟨p,hp,ep⟩:=ax.mp hb;subst ep;exact .inr (hz p hp)
 .rw[Bt hb]at e;exact fro b o e
theorem eU.rep(s:Zk F F'):∀{ZC:List (List D)} {ws:List V} {ns:Zu},eU K F ZC ws ns->(∀p∈ns,F' p.1=aA p.2)->eF K F' (ZC.map D.lst) ws
 |_,_,_,.nil,_=>.nil
 |_,_,_,.cons r t,h=>.cons (.lst (.inl (.inl (h _ ac))) (.inl (h _ ac)) (r.mono s)) (t.rep s λp hp=>h p (ao _ hp))
theorem KidD.rep(s:Zk F F'):∀{WV:List (List Key×List D)} {ws:List V} {ns:Zu},KidD K F WV ws ns->(∀p∈ns,F' p.1=aA p.2)->eF K F' (WV.map λp=>.dK p.1 p.2) ws
 |_,_,_,.nil,_=>.nil
 |_,_,_,.cons r t,h=>.cons (.dK (h _ ac) rfl (r.mono s)) (t.rep s λp hp=>h p (ao _ hp))
theorem eN.rep(h:eN K F sv v ns)(nd:(Ac ns).Nodup)(hn:∀p∈ns,F p.1=aB):eP K (Uy F ns) sv.toD v:=by
 have s:=Q4 hn;have a:∀p∈ns,Uy F ns p.1=aA p.2:=λp hp=>Eo nd hp;cases h with
 |fz h=>exact h
 |ol r=>exact .lst (.inl (.inl (a (_,_) ac))) (.inl (a (_,_) ac)) (r.mono s)
 |oK e r=>exact .dK (a (_,_) ac) e (r.mono s)
 |oT kb e r=>exact .dT (a (_,_) ac) (kb.mono s) e (r.mono s)
 |oN e r=>exact .dK (a (_,_) ac) e (r.rep s λp hp=>a p (ao _ hp))
 |oR e r=>exact .dK (a (_,_) ac) e (r.rep s λp hp=>a p (ao _ hp))
 |oL _ r=>exact .lst (.inl (.inl (a (_,_) ac))) (.inl (a (_,_) ac)) (r.rep s λp hp=>a p (ao _ hp))
 |oQ e r=>exact .dK (a (_,_) ac) e (r.mono s)
 |oX kb e r=>exact .dX (a (_,_) ac) (kb.mono s) e (r.rep s λp hp=>a p (ao _ hp))
 |oD r=>exact .lst (.inl (.inl (a (_,_) ac))) (.inl (a (_,_) ac)) (r.rep s λp hp=>a p (ao _ hp))
 |oM kb e r=>exact .dX (a (_,_) ac) (kb.mono s) e (r.mono s)
noncomputable abbrev Yy:=List (Option SV)
set_option genInjectivity false in
structure eM(K:af)where
 h:Hp
 f:Hp
 x:EXT
abbrev ent(H F:Hp):eM K:=⟨H,F,λ_ _ _ _=>False⟩
set_option genInjectivity false in
structure Exn where
 c:Str
 ks:List Str:=[]
 vs:List D:=[]
def pd(K:af)(F:Hp)(e:Exn)(cls:ag)(od:Option au):Prop:=∃C,Su K e.c C/\cls= .ref C/\match od with
 |none=>e.ks=[]/\e.vs=[]
 |some dx=>∃fs:List (Str×V),F dx=aA (.xd fs)/\fs.map (·.1)=e.ks/\eF K F e.vs (fs.map (·.2))
structure SR(Z:eM K)(F H:Hp)(σ:St)(δ:Yy)(own:Nat->Zu):Prop where
 le:Zk F H
 fro:∀(b:au) (o:HO),F b=aA o->Z.f b=aA o\/Z.h b=aB
 old:Zk Z.h H
 len:σ.length=δ.length
 at':∀(i:Nat) (sv:SV),δ[i]? =aA (aA sv)->∃v,σ[i]? =aA (aA v)/\eN K F sv v (own i)
 nod:∀i:Nat,(Ac (own i)).Nodup
 ok:∀(i:Nat) (p:au×HO),p∈own i->F p.1=aB/\Z.h p.1=aB/\H p.1=aA p.2
 sep:∀(i j:Nat) (p q:au×HO),i≠j->p∈own i->q∈own j->p.1≠q.1
inductive RV where
 |tmp (sv:SV)|bw (i:Nat)
structure eW(Z:eM K)(F H:Hp)(own:Nat->Zu)(sv:SV)(v:V)(ns:Zu):Prop where
 sh:eN K F sv v ns
 nd:(Ac ns).Nodup
 ok:∀p∈ns,F p.1=aB/\Z.h p.1=aB/\H p.1=aA p.2
 sep:∀(i:Nat) (p q:au×HO),p∈ns->q∈own i->p.1≠q.1
def Sx(Z:eM K)(F H:Hp)(σ:St)(own:Nat->Zu):RV->V->Prop
 | .tmp sv,v=>∃ns,eW Z F H own sv v ns
 | .bw i,v=>σ[i]? =aA (aA v)
theorem eW.fz{Z:eM K}(h:eP K F d v):eW Z F H own (.fz d) v []:=
 ⟨.fz h,c7,λ_ h=>(nomatch h),λ_ _ _ h=>(nomatch h)⟩
theorem Ug(h:H p=aB):Zk H (Y7 H p o):=λb u e=>by rw[Zv λz=>by rw[z,h]at e;cases e];exact e
theorem SR.grow{Z:eM K}(s:SR Z F H σ δ own)(h:Zk H H'):SR Z F H' σ δ own:=
 ⟨s.le.trans h,s.fro,s.old.trans h,s.len,s.at',s.nod,λi p hp=>let⟨a,b,c⟩:=s.ok i p hp;⟨a,b,h _ _ c⟩,s.sep⟩
theorem SR.addF{Z:eM K}(s:SR Z F H σ δ own)(nd:(Ac ns).Nodup)(hn:∀p∈ns,F p.1=aB)(hH:∀p∈ns,H p.1=aA p.2)(hz:∀p∈ns,Z.h p.1=aB)(hs:∀i p q,p∈ns->q∈own i->p.1≠q.1):SR Z (Uy F ns) H σ δ own:=by
 have sm:=Q4 hn;refine⟨xz nd s.le hH,Sw (Z:=(Z.h,Z.f)) nd s.fro hz,s.old,s.len,λi sv e=>?_,s.nod,λi p hp=>?_,s.sep⟩
 .obtain⟨v,h1,h2⟩:=s.at' i sv e;exact⟨v,h1,h2.mono sm⟩
 .obtain⟨a,b,c⟩:=s.ok i p hp;refine⟨?_,b,c⟩;rw[Bt λhb=>?_]
  .exact a
  .obtain⟨q,hq,e⟩:=ax.mp hb;exact hs i q p hq hp e
theorem SR.settle{Z:eM K}(s:SR Z F H σ δ own)(t:eW Z F H own sv v ns):
  ∃F1,Zk F F1/\SR Z F1 H σ δ own/\eP K F1 sv.toD v:=
 ⟨Uy F ns,Q4 λp hp=>(t.ok p hp).1,s.addF t.nd (λp hp=>(t.ok p hp).1) (λp hp=>(t.ok p hp).2.2) (λp hp=>(t.ok p hp).2.1) t.sep,t.sh.rep t.nd λp hp=>(t.ok p hp).1⟩
noncomputable def put(own:Nat->Zu)(i:Nat)(ns:Zu):Nat->Zu:=λj=>if j=i then ns else own j
theorem Yu:put own i ns i=ns:=dG rfl
theorem Y8(h:j≠i):put own i ns j=own j:=dF h
theorem SR.freeze{Z:eM K}(s:SR Z F H σ δ own)(e:δ[i]? =aA (aA sv)):
  ∃F1 v,Zk F F1/\σ[i]? =aA (aA v)/\eP K F1 sv.toD v/\SR Z F1 H σ (δ.set i (aA (.fz sv.toD))) (put own i []):=by
 obtain⟨v,h1,h2⟩:=s.at' i sv e;have hn:∀p∈own i,F p.1=aB:=λp hp=>(s.ok i p hp).1;have sm:=Q4 hn;have hi:i<δ.length:=(aw.mp e).1;refine⟨Uy F (own i),v,sm,h1,h2.rep (s.nod i) hn,⟨xz (s.nod i) s.le λp hp=>(s.ok i p hp).2.2,Sw (Z:=(Z.h,Z.f)) (s.nod i) s.fro λp hp=>(s.ok i p hp).2.1,s.old,by rw[List.length_set];exact s.len,λj sw ej=>?_,λj=>?_,λj p hp=>?_,λj k p q VA hp hq=>?_⟩⟩
 .by_cases hj:j=i
  .subst hj;rw[gh hi]at ej;cases ej;rw[Yu];exact⟨v,h1,.fz (h2.rep (s.nod j) hn)⟩
  .rw[g8 (Ne.symm hj)]at ej;obtain⟨w,g1,g2⟩:=s.at' j sw ej;rw[Y8 hj];exact⟨w,g1,g2.mono sm⟩
 .by_cases hj:j=i
  .subst hj;rw[Yu];exact c7
  .rw[Y8 hj];exact s.nod j
 .by_cases hj:j=i
  .subst hj;rw[Yu]at hp;exact nomatch hp
  .rw[Y8 hj]at hp;obtain⟨a,b,c⟩:=s.ok j p hp;refine⟨?_,b,c⟩;rw[Bt λhb=>?_]
   .exact a
   .obtain⟨q,hq,z⟩:=ax.mp hb;exact s.sep i j q p (Ne.symm hj) hq hp z
 .by_cases hj:j=i
  .subst hj;rw[Yu]at hp;exact nomatch hp
  .by_cases hk:k=i
   .subst hk;rw[Yu]at hq;exact nomatch hq
   .rw[Y8 hj]at hp;rw[Y8 hk]at hq;exact s.sep j k p q VA hp hq
theorem SR.store{Z:eM K}(s:SR Z F H σ δ own)(t:eW Z F H own sv v ns)(hi:i<σ.length):
  SR Z F H (σ.set i (aA v)) (δ.set i (aA sv)) (put own i ns):=by
 refine⟨s.le,s.fro,s.old,by rw[List.length_set,List.length_set];exact s.len,λj sw ej=>?_,λj=>?_,λj p hp=>?_,λj k p q VA hp hq=>?_⟩
 .by_cases hj:j=i
  .subst hj;have hd:j<δ.length:=by have:=(aw.mp ej).1;simpa using this
   rw[gh hd]at ej;cases ej;rw[Yu,gh hi];exact⟨v,rfl,t.sh⟩
  .rw[g8 (Ne.symm hj)]at ej;rw[Y8 hj,g8 (Ne.symm hj)];exact s.at' j sw ej
 .by_cases hj:j=i
  .subst hj;rw[Yu];exact t.nd
  .rw[Y8 hj];exact s.nod j
 .by_cases hj:j=i
  .subst hj;rw[Yu]at hp;exact t.ok p hp
  .rw[Y8 hj]at hp;exact s.ok j p hp
 .by_cases hj:j=i
  .subst hj;rw[Yu]at hp;rw[Y8 (Ne.symm VA)]at hq;exact t.sep k p q hp hq
  .by_cases hk:k=i
   .subst hk;rw[Yu]at hq;rw[Y8 hj]at hp;exact Ne.symm (t.sep j q p hq hp)
   .rw[Y8 hj]at hp;rw[Y8 hk]at hq;exact s.sep j k p q VA hp hq
theorem SR.change{Z:eM K}(s:SR Z F H σ δ own)(e:δ[i]? =aA (aA sv))(hv:σ[i]? =aA (aA v))(ha:(a,o)∈own i)(hs:eN K F sv' v ns')(WN:∀p∈ns',p=(a,o')\/(p∈own i/\p.1≠a))(nd:(Ac ns').Nodup):SR Z F (Y7 H a o') σ (δ.set i (aA sv')) (put own i ns'):=by
 obtain⟨fa,UL,hHa⟩:=s.ok i (a,o) ha;have hi:i<δ.length:=(aw.mp e).1;refine⟨λb u eb=>?_,s.fro,λb u eb=>?_,by rw[List.length_set];exact s.len,λj sw ej=>?_,λj=>?_,λj p hp=>?_,λj k p q VA hp hq=>?_⟩
 .rw[Zv λz=>by rw[z]at eb;rw[fa]at eb;cases eb];exact s.le b u eb
 .rw[Zv λz=>by rw[z]at eb;rw[UL]at eb;cases eb];exact s.old b u eb
 .by_cases hj:j=i
  .subst hj;rw[gh hi]at ej;cases ej;rw[Yu];exact⟨v,hv,hs⟩
  .rw[g8 (Ne.symm hj)]at ej;rw[Y8 hj];exact s.at' j sw ej
 .by_cases hj:j=i
  .subst hj;rw[Yu];exact nd
  .rw[Y8 hj];exact s.nod j
 .by_cases hj:j=i
  .subst hj;rw[Yu]at hp;rcases WN p hp with z|⟨z,ne⟩
   .subst z;exact⟨fa,UL,Yk⟩
   .obtain⟨x,y,w⟩:=s.ok j p z;exact⟨x,y,by rw[Zv ne];exact w⟩
  .rw[Y8 hj]at hp;obtain⟨x,y,w⟩:=s.ok j p hp;exact⟨x,y,by rw[Zv (s.sep j i p (a,o) hj hp ha)];exact w⟩
 .have own':∀r∈ns',∃r'∈own i,r.1=r'.1:=λr hr=>by
   rcases WN r hr with z|⟨z,_⟩
   .subst z;exact⟨(a,o),ha,rfl⟩
   .exact⟨r,z,rfl⟩
  by_cases hj:j=i
  .subst hj;rw[Yu]at hp;rw[Y8 (Ne.symm VA)]at hq;obtain⟨r',M',er⟩:=own' p hp;rw[er];exact s.sep j k r' q VA M' hq
  .by_cases hk:k=i
   .subst hk;rw[Yu]at hq;rw[Y8 hj]at hp;obtain⟨r',M',er⟩:=own' q hq;rw[er];exact s.sep j k p r' VA hp M'
   .rw[Y8 hj]at hp;rw[Y8 hk]at hq;exact s.sep j k p q VA hp hq
end
section
variable{K:af}
abbrev FE:=Yy->Option (RV×Yy)
abbrev FT:=Yy->Option (Bool×Yy)
abbrev FA:=Yy->Option (List RV×Yy)
abbrev FD:=Yy->Option (List D×Yy)
@[simp]noncomputable def SV.nested:SV->Bool
 | .oN _ _=>aC
 | .oR _ _ _=>aC
 | .oL _ _=>aC
 | .oX _ _=>aC
 | .oD _=>aC
 | .oM _ _=>aC
 |_=>aD
@[simp]def rdv:RV->Yy->Option D
 | .tmp sv,_=>aA sv.toD
 | .bw i,δ=>(δ[i]?.join).bind λsv=>if sv.nested then aB else aA sv.toD
@[simp]def frz:RV->Yy->Option (D×Yy)
 | .tmp sv,δ=>aA (sv.toD,δ)
 | .bw i,δ=>(δ[i]?.join).bind λsv=>aA (sv.toD,δ.set i (aA (.fz sv.toD)))
theorem U6{δ:Yy}{i:Nat}(h:δ[i]?.join=aA sv):δ[i]? =aA (aA sv):=by
 cases e:δ[i]? with
 |none=>rw[e]at h;cases h
 |some o=>rw[e]at h;cases o with
  |none=>cases h
  |some s=>cases h;rfl
def Ze(Z:eM K)(f:FE):TE:=λσ H Q=>∃F δ own rv δ',SR Z F H σ δ own/\f δ=aA (rv,δ')/\
 ∀v H' F' own',Zk H H'->Zk F F'->SR Z F' H' σ δ' own'->Sx Z F' H' σ own' rv v->Q v H'
def Yj(Z:eM K)(f:FT):TT:=λσ H Q=>∃F δ own b δ',SR Z F H σ δ own/\f δ=aA (b,δ')/\
 ∀H' F' own',Zk H H'->Zk F F'->SR Z F' H' σ δ' own'->Q b H'
def RVS(K:af)(F:Hp)(σ:St):RV->V->Prop
 | .tmp sv,v=>eP K F sv.toD v
 | .bw i,v=>σ[i]? =aA (aA v)
inductive RVSs(K:af)(F:Hp)(σ:St):List RV->List V->Prop where
 |nil:RVSs K F σ [] []
 |cons {rv:RV} {v:V} {rvs:List RV} {vs:List V} (h:RVS K F σ rv v) (t:RVSs K F σ rvs vs):RVSs K F σ (rv::rvs) (v::vs)
def Uv(Z:eM K)(f:FA):TA:=λσ H Q=>∃F δ own rvs δ',SR Z F H σ δ own/\f δ=aA (rvs,δ')/\
 ∀vs H' F' own',Zk H H'->Zk F F'->SR Z F' H' σ δ' own'->RVSs K F' σ rvs vs->Q vs H'
def Q5(Z:eM K)(f:FD):TA:=λσ H Q=>∃F δ own ds δ',SR Z F H σ δ own/\f δ=aA (ds,δ')/\
 ∀vs H' F' own',Zk H H'->Zk F F'->SR Z F' H' σ δ' own'->eF K F' ds vs->Q vs H'
section
variable{Z:eM K}{F H F' H':Hp}{σ:St}{δ δ':Yy}{own:Nat->Zu}{rv:RV}{v:V}{d:D}
theorem RVS.mono(s:Zk F F')(h:RVS K F σ rv v):RVS K F' σ rv v:=by
 cases rv with
 |tmp sv=>exact eP.mono s h
 |bw i=>exact h
theorem SR.settleR(s:SR Z F H σ δ own)(h:Sx Z F H σ own rv v):∃F1,Zk F F1/\SR Z F1 H σ δ own/\RVS K F1 σ rv v:=by
 cases rv with
 |tmp sv=>obtain⟨ns,t⟩:=h;exact s.settle t
 |bw i=>exact⟨F,Zk.refl F,s,h⟩
theorem SR.frzR(s:SR Z F H σ δ own)(h:RVS K F σ rv v)(e:frz rv δ=aA (d,δ')):∃F1 ZA,Zk F F1/\SR Z F1 H σ δ' ZA/\eP K F1 d v:=by
 cases rv with
 |tmp sv=>cases e;exact⟨F,own,Zk.refl F,s,h⟩
 |bw i=>refine eK e λsv e1 e2=>?_;cases e2;refine Cu (s.freeze (U6 e1)) λF1 w h1 h2 h3 h4=>?_;have h':σ[i]? =aA (aA v):=h;rw[h']at h2;cases h2;exact⟨F1,_,h1,h4,h3⟩
def Yv(K:af)(F H:Hp)(d:D)(v:V):Prop:=∃sv ns,sv.toD=d/\sv.nested=aD/\eN K F sv v ns/\∀p∈ns,H p.1=aA p.2
theorem Yv.of(h:eP K F d v):Yv K F H d v:=⟨.fz d,[],rfl,rfl,.fz h,λ_ h=>nomatch h⟩
theorem SR.rd(s:SR Z F H σ δ own)(h:RVS K F σ rv v)(e:rdv rv δ=aA d):Yv K F H d v:=by
 cases rv with
 |tmp sv=>cases e;exact Yv.of h
 |bw i=>
  refine eK e λsv e1 e2=>?_;cases hn:sv.nested with
  |true=>rw[hn]at e2;cases e2
  |false=>rw[hn]at e2;cases e2;obtain⟨w,h1,h2⟩:=s.at' i sv (U6 e1);have h':σ[i]? =aA (aA v):=h;rw[h']at h1;cases h1;exact⟨sv,own i,rfl,hn,h2,λp hp=>(s.ok i p hp).2.2⟩
inductive RepNs(K:af)(F H:Hp):List D->List V->Prop where
 |nil:RepNs K F H [] []
 |cons {d:D} {v:V} {ds:List D} {vs:List V} (h:Yv K F H d v) (t:RepNs K F H ds vs):RepNs K F H (d::ds) (v::vs)
theorem Yv.non(h:Yv K F H .non v):v= .non:=by
 refine Cu h λsv ns e n sh hp=>?_;cases sh with
 |fz r=>cases e;cases r;rfl
 |ol r=>cases e
 |oK e' r=>cases e
 |oT kb e' r=>cases e
 |oN e' r=>cases n
 |oR e' r=>cases n
 |oX kb' e' r=>cases n
 |oD r=>cases n
 |oM kb' e' r=>cases n
 |oL _ r=>cases n
 |oQ e' r=>cases e
theorem Yv.bl(h:Yv K F H (.bl b) v):v= .bl b:=by
 refine Cu h λsv ns e n sh hp=>?_;cases sh with
 |fz r=>cases e;cases r;rfl
 |ol r=>cases e
 |oK e' r=>cases e
 |oT kb e' r=>cases e
 |oN e' r=>cases n
 |oR e' r=>cases n
 |oX kb' e' r=>cases n
 |oD r=>cases n
 |oM kb' e' r=>cases n
 |oL _ r=>cases n
 |oQ e' r=>cases e
theorem Yv.int(h:Yv K F H (.int i) v):v= .int i:=by
 refine Cu h λsv ns e n sh hp=>?_;cases sh with
 |fz r=>cases e;cases r;rfl
 |ol r=>cases e
 |oK e' r=>cases e
 |oT kb e' r=>cases e
 |oN e' r=>cases n
 |oR e' r=>cases n
 |oX kb' e' r=>cases n
 |oD r=>cases n
 |oM kb' e' r=>cases n
 |oL _ r=>cases n
 |oQ e' r=>cases e
theorem Yv.str(h:Yv K F H (.str x) v):v= .str x:=by
 refine Cu h λsv ns e n sh hp=>?_;cases sh with
 |fz r=>cases e;cases r;rfl
 |ol r=>cases e
 |oK e' r=>cases e
 |oT kb e' r=>cases e
 |oN e' r=>cases n
 |oR e' r=>cases n
 |oX kb' e' r=>cases n
 |oD r=>cases n
 |oM kb' e' r=>cases n
 |oL _ r=>cases n
 |oQ e' r=>cases e
theorem Yv.tup(le:Zk F H)(h:Yv K F H (.tup xs) v):∃a vs,v= .ref a/\Mx K H a vs/\eF K F xs vs:=by
 obtain⟨sv,ns,e,n,sh,hp⟩:=h;cases sh with
 |fz r=>cases e;cases r with|tup h r=>exact⟨_,_,rfl,Qj le (Rc h),r⟩
 |ol r=>cases e
 |oK e' r=>cases e
 |oT kb e' r=>cases e
 |oN e' r=>cases n
 |oR e' r=>cases n
 |oX kb' e' r=>cases n
 |oD r=>cases n
 |oM kb' e' r=>cases n
 |oL _ r=>cases n
 |oQ e' r=>cases e
theorem Yv.lst(le:Zk F H)(h:Yv K F H (.lst xs) v):∃a vs,v= .ref a/\Bm K H a vs/\eF K F xs vs:=by
 obtain⟨sv,ns,e,n,sh,hp⟩:=h;cases sh with
 |fz r=>cases e;cases r with|lst h _ r=>exact⟨_,_,rfl,Wn le h,r⟩
 |ol r=>cases e;exact⟨_,_,rfl,.inl (.inl (hp _ ac)),r⟩
 |oK e' r=>cases e
 |oT kb e' r=>cases e
 |oN e' r=>cases n
 |oR e' r=>cases n
 |oX kb' e' r=>cases n
 |oD r=>cases n
 |oM kb' e' r=>cases n
 |oL _ r=>cases n
 |oQ e' r=>cases e
theorem Yv.dK(le:Zk F H)(h:Yv K F H (.dK ks ds) v):∃a kvs,v= .ref a/\HK H a kvs/\kvs.map (·.1)=ks/\eF K F ds (kvs.map (·.2)):=by
 obtain⟨sv,ns,e,n,sh,hp⟩:=h;cases sh with
 |fz r=>cases e;cases r with|dK h e r=>exact⟨_,_,rfl,⟨_,le _ _ h⟩,e,r⟩
 |ol r=>cases e
 |oK e' r=>cases e;exact⟨_,_,rfl,⟨_,hp _ ac⟩,e',r⟩
 |oT kb e' r=>cases e
 |oN e' r=>cases n
 |oR e' r=>cases n
 |oX kb' e' r=>cases n
 |oD r=>cases n
 |oM kb' e' r=>cases n
 |oL _ r=>cases n
 |oQ e' r=>cases e;exact⟨_,_,rfl,⟨_,hp _ ac⟩,e',r⟩
theorem Yv.dT(le:Zk F H)(h:Yv K F H (.dT ks ds) v):∃a kvs,v= .ref a/\HTt H a kvs/\kvs.map (·.1)=ks/\eF K F ds (kvs.map (·.2)):=by
 obtain⟨sv,ns,e,n,sh,hp⟩:=h;cases sh with
 |fz r=>cases e;cases r with|dT h kb e r=>exact⟨_,_,rfl,⟨_,_,le _ _ h⟩,e,r⟩
 |ol r=>cases e
 |oK e' r=>cases e
 |oT kb e' r=>cases e;exact⟨_,_,rfl,⟨_,_,hp _ ac⟩,e',r⟩
 |oN e' r=>cases n
 |oR e' r=>cases n
 |oX kb' e' r=>cases n
 |oD r=>cases n
 |oM kb' e' r=>cases n
 |oL _ r=>cases n
 |oQ e' r=>cases e
end
theorem Ke:([a]:List au).Nodup:=eh.mpr ⟨λh=>(nomatch h),c7⟩
def Fin(Z:eM K)(F H:Hp)(σ:St)(δ:Yy)(own:Nat->Zu)(sv:SV)(Q:VK):Prop:=
 ∀v H' F' ns,Zk H H'->Zk F F'->SR Z F' H' σ δ own->eW Z F' H' own sv v ns->Q v H'
section
variable{Z:eM K}{F H:Hp}{σ:St}{δ:Yy}{own:Nat->Zu}{Q:VK}
theorem Fin.fz(f:Fin Z F H σ δ own (.fz d) Q)(s:SR Z F H σ δ own)(h:eP K F d v):Q v H:=f v H F [] (Zk.refl H) (Zk.refl F) s (.fz h)
theorem Fin.one(f:Fin Z F H σ δ own sv Q)(s:SR Z F H σ δ own)(sh:eN K F sv (.ref p) [(p,o)])(hp:H p=aB):Q (.ref p) (Y7 H p o):=by
 have sm:=Ug (o:=o) hp;refine f (.ref p) (Y7 H p o) F [(p,o)] sm (Zk.refl F) (s.grow sm) ⟨sh,Ke,λq hq=>?_,λi q r hq hr=>?_⟩
 .obtain rfl:=aj.mp hq;exact⟨s.le.free hp,s.old.free hp,Yk⟩
 .obtain rfl:=aj.mp hq;intro e;have e':p=r.1:=e;have z:=(s.ok i r hr).2.2;rw[<-e',hp]at z;cases z
theorem Fin.lst(f:Fin Z F H σ δ own (.ol xs) Q)(s:SR Z F H σ δ own)(r:eF K F xs vs)(hp:H p=aB):Q (.ref p) (Y7 H p (.lst vs)):=f.one s (.ol r) hp
theorem Fin.tup(f:Fin Z F H σ δ own (.fz (.tup xs)) Q)(s:SR Z F H σ δ own)(r:eF K F xs vs)(hp:H p=aB):Q (.ref p) (Y7 H p (.tup vs)):=by
 have sm:=Ug (o:=.tup vs) hp;have sF:Zk F (Uy F [(p,.tup vs)]):=Q4 λq hq=>by obtain rfl:=aj.mp hq;exact s.le.free hp
 refine f (.ref p) (Y7 H p (.tup vs)) (Uy F [(p,.tup vs)]) [] sm sF ?_ (.fz (.tup Yk (r.mono sF)));refine(s.grow sm).addF (Ke) (λq hq=>?_) (λq hq=>?_) (λq hq=>?_) λi q u hq hu=>?_
 .obtain rfl:=aj.mp hq;exact s.le.free hp
 .obtain rfl:=aj.mp hq;exact Yk
 .obtain rfl:=aj.mp hq;exact s.old.free hp
 .obtain rfl:=aj.mp hq;intro e;have e':p=u.1:=e;have z:=(s.ok i u hu).2.2;rw[<-e',hp]at z;cases z
end
theorem Uh(h:eN K F (.fz d) v ns):eP K F d v:=by
 cases h with
 |fz r=>exact r
section
variable{Z:eM K}{H:Hp}{σ:St}{Q:VK}
@[simp]noncomputable def Za(i:Nat):FE:=λδ=>match δ[i]? with
 |some (aA (.fz d))=>aA (.tmp (.fz d),δ)
 |some (aA _)=>aA (.bw i,δ)
 |_=>aB
theorem rY(h:Ze Z (Za i) σ H Q):R8 i σ H Q:=by
 refine Yx h λF δ own rv δ' s e k=>?_;unfold Za at e;split at e
 .rename_i d hd;cases e;obtain⟨v,h1,h2⟩:=s.at' i _ hd;exact⟨v,h1,k v H F own (Zk.refl H) (Zk.refl F) s ⟨[],.fz (Uh h2)⟩⟩
 .rename_i sv hsv hd;cases e;obtain⟨v,h1,h2⟩:=s.at' i _ hd;exact⟨v,h1,k v H F own (Zk.refl H) (Zk.refl F) s h1⟩
 .cases e
@[simp]noncomputable def Zf(d:D):FE:=λδ=>some (.tmp (.fz d),δ)
theorem Md(hr:∀F,eP K F d v)(h:Ze Z (Zf d) σ H Q):tC v σ H Q:=by refine Yx h λF δ own rv δ' s e k=>?_;cases e;exact k v H F own (Zk.refl H) (Zk.refl F) s ⟨[],.fz (hr F)⟩
@[simp]noncomputable def Zi:FA:=λδ=>some ([],δ)
@[simp]noncomputable def Zc(fe:FE)(fa:FA):FA:=λδ=>(fe δ).bind λp=>(fa p.2).bind λq=>some (p.1::q.1,q.2)
theorem jE(h:Uv Z Zi σ H R):Xv σ H R:=by refine Yx h λF δ own rvs δ' s e k=>?_;cases e;exact k [] H F own (Zk.refl H) (Zk.refl F) s .nil
theorem iH(h:Uv Z (Zc fe fa) σ H R):Kr (Ze Z fe) (Uv Z fa) σ H R:=by refine Yx h λF δ own rvs δ' s e k=>?_;refine eL e λrv δ1 e1 e2=>?_;refine eL e2 λrr δ2 e3 e4=>?_;cases e4;refine⟨F,δ,own,rv,δ1,s,e1,λv H1 F1 ZA sH sF s1 r1=>?_⟩;refine Zp (s1.settleR r1) λF2 ZG s2 r2=>?_;exact⟨F2,δ1,ZA,rr,δ2,s2,e3,λvs H3 F3 ZH WH ZR s3 r3=>k _ H3 F3 ZH (sH.trans WH) (sF.trans (ZG.trans ZR)) s3 (.cons (r2.mono ZR) r3)⟩
@[simp]def B9:List RV->Yy->Option (List D)
 | [],_=>aA []
 |rv::r,δ=>(rdv rv δ).bind λd=>(B9 r δ).bind λds=>aA (d::ds)
theorem SR.rdAll(s:SR Z F H σ δ own):∀{rvs:List RV} {vs:List V} {ds:List D},RVSs K F σ rvs vs->B9 rvs δ=aA ds->RepNs K F H ds vs
 |_,_,_,.nil,e=>by cases e;exact .nil
 |_,_,_,.cons h t,e=>by refine eK e λd e1 e2=>?_;refine eK e2 λds e3 e4=>?_;cases e4;exact .cons (s.rd h e1) (s.rdAll t e3)
@[simp]def Yq(g:List D->Option SV)(fa:FA):FE:=λδ=>(fa δ).bind λp=>(B9 p.1 p.2).bind λds=>(g ds).bind λsv=>some (.tmp sv,p.2)
def Oc(Z:eM K)(r:List V->Hp->VK->Prop)(g:List D->Option SV):Prop:=
 ∀(F H:Hp) (σ:St) (δ:Yy) (own:Nat->Zu) (vs:List V) (ds:List D) (sv:SV) (Q:VK),SR Z F H σ δ own->RepNs K F H ds vs->g ds=aA sv->Fin Z F H σ δ own sv Q->r vs H Q
theorem Ep(hg:Oc Z r g)(h:Ze Z (Yq g fa) σ H Q):tCB r (Uv Z fa) σ H Q:=by refine Yx h λF δ own rv δ' s e k=>?_;refine eL e λrvs δ1 e1 e2=>?_;refine eK e2 λds e3 e4=>?_;refine eK e4 λsv e5 e6=>?_;cases e6;refine⟨F,δ,own,rvs,δ1,s,e1,λvs H1 F1 ZA sH sF s1 r1=>?_⟩;exact hg F1 H1 σ δ1 ZA vs ds sv Q s1 (s1.rdAll r1 e3) e5 λv H2 F2 ns SX ZG s2 t=>k v H2 F2 ZA (sH.trans SX) (sF.trans ZG) s2 ⟨ns,t⟩
@[simp]noncomputable def g2(g:D->D->Option SV):List D->Option SV
 | [x,y]=>g x y
 |_=>aB
@[simp]def Zj(g:D->D->Option SV)(fa fb:FE):FE:=Yq (g2 g) (Zc fa (Zc fb Zi))
def Y4(Z:eM K)(r:R2)(g:D->D->Option SV):Prop:=
 ∀(F H:Hp) (σ:St) (δ:Yy) (own:Nat->Zu) (x y:V) (d1 d2:D) (sv:SV) (Q:VK),SR Z F H σ δ own->Yv K F H d1 x->Yv K F H d2 y->g d1 d2=aA sv->Fin Z F H σ δ own sv Q->r x y H Q
theorem K5(hg:Y4 Z r g)(h:Ze Z (Zj g fa fb) σ H Q):tOp r (Ze Z fa) (Ze Z fb) σ H Q:=by
 have hN:Oc Z (λvs H Q=>∃x y,vs=[x,y]/\r x y H Q) (g2 g):=by
  intro F H σ δ own vs ds sv Q s rs e f;cases rs with
  |nil=>cases e
  |cons h1 t1=>
   cases t1 with
   |nil=>cases e
   |cons h2 t2=>
    cases t2 with
    |nil=>exact⟨_,_,rfl,hg F H σ δ own _ _ _ _ sv Q s h1 h2 e f⟩
    |cons h3 t3=>cases e
 refine Yx (Ep hN h) λF δ own rv δ' s e k=>?_;refine eL e λWI δ1 e1 e2=>?_;refine eL e2 λrr δ2 e3 e4=>?_;cases e4;refine eL e3 λOC ZX e5 e6=>?_;refine eL e6 λvB QG e7 e8=>?_;cases e8;cases e7;refine⟨F,δ,own,WI,δ1,s,e1,λv H1 F1 ZA sH sF s1 r1=>?_⟩;refine Zp (s1.settleR r1) λF2 ZG s2 r2=>?_;refine⟨F2,δ1,ZA,OC,ZX,s2,e5,λu H3 F3 ZH WH ZR s3 r3=>?_⟩;refine Zp (s3.settleR r3) λF4 YK s4 r4=>?_;refine W1 (k [v,u] H3 F4 ZH (sH.trans WH) (sF.trans (ZG.trans (ZR.trans YK))) s4 (.cons (r2.mono (ZR.trans YK)) (.cons r4 .nil))) λx y uX q=>?_;injection uX with ex ey
 injection ey with ey _;subst ex ey;exact q
@[simp]def unF(g:D->Option SV)(fa:FE):FE:=Yq (λ| [x]=>g x|_=>none) (Zc fa Zi)
def zd(Z:eM K)(r:V->Hp->VK->Prop)(g:D->Option SV):Prop:=
 ∀(F H:Hp) (σ:St) (δ:Yy) (own:Nat->Zu) (x:V) (d:D) (sv:SV) (Q:VK),SR Z F H σ δ own->Yv K F H d x->g d=aA sv->Fin Z F H σ δ own sv Q->r x H Q
theorem tG(hg:zd Z r g)(h:Ze Z (unF g fa) σ H Q):tUn r (Ze Z fa) σ H Q:=by refine Yx h λF δ own rv δ' s e k=>?_;refine eL e λrvs δ1 e1 e2=>?_;refine eK e2 λds e3 e4=>?_;refine eK e4 λsv e5 e6=>?_;cases e6;refine eL e1 λWI δ2 e7 e8=>?_;refine eL e8 λvB QG e9 SA=>?_;cases SA;cases e9;refine eK e3 λd FI FH=>?_;cases FH;refine⟨F,δ,own,WI,δ2,s,e7,λv H1 F1 ZA sH sF s1 r1=>?_⟩;refine Zp (s1.settleR r1) λF2 ZG s2 r2=>?_;exact hg F2 H1 σ δ2 ZA v d sv Q s2 (s2.rd r2 FI) e5 λv H2 i7 ns SX JP s2 t=>k v H2 i7 ZA (sH.trans SX) (sF.trans (ZG.trans JP)) s2 ⟨ns,t⟩
@[simp]noncomputable def Zt:FD:=λδ=>some ([],δ)
@[simp]def Zl(fe:FE)(fd:FD):FD:=λδ=>(fe δ).bind λp=>(frz p.1 p.2).bind λq=>(fd q.2).bind λr=>some (q.1::r.1,r.2)
theorem K6(h:Q5 Z Zt σ H R):Xv σ H R:=by refine Yx h λF δ own rvs δ' s e k=>?_;cases e;exact k [] H F own (Zk.refl H) (Zk.refl F) s .nil
theorem Er(h:Q5 Z (Zl fe fd) σ H R):Kr (Ze Z fe) (Q5 Z fd) σ H R:=by refine Yx h λF δ own rvs δ' s e k=>?_;refine eL e λrv δ1 e1 e2=>?_;refine eL e2 λd δ2 e3 e4=>?_;refine eL e4 λds ZX e5 e6=>?_;cases e6;refine⟨F,δ,own,rv,δ1,s,e1,λv H1 F1 ZA sH sF s1 r1=>?_⟩;refine Zp (s1.settleR r1) λF2 ZG s2 r2=>?_;refine Y9 (s2.frzR r2 e3) λF3 ZH ZR s3 r3=>?_;exact⟨F3,δ2,ZH,ds,ZX,s3,e5,λvs H4 F4 ZU SW YK s4 r4=>k _ H4 F4 ZU (sH.trans SW) (sF.trans (ZG.trans (ZR.trans YK))) s4 (.cons (r3.mono YK) r4)⟩
@[simp]noncomputable def tupF(fd:FD):FE:=λδ=>(fd δ).bind λp=>if p.1.length<=cf then some (.tmp (.fz (.tup p.1)),p.2)else none
@[simp]noncomputable def Ba(fd:FD):FE:=λδ=>(fd δ).bind λp=>if p.1.length<=cf then some (.tmp (.ol p.1),p.2)else none
theorem rX(h:Ze Z (tupF fd) σ H Q):AJ (Q5 Z fd) σ H Q:=by
 refine Yx h λF δ own rv δ' s e k=>?_;refine eL e λds δ1 e1 e2=>?_;by_cases hz:ds.length<=cf
 .rw[dG hz]at e2;cases e2;refine⟨F,δ,own,ds,δ1,s,e1,λvs H1 F1 ZA sH sF s1 r1=>⟨by rw[<-r1.length];exact hz,λp hp=>?_⟩⟩;exact Fin.tup (λv H2 F2 ns a b c t=>k v H2 F2 ZA (sH.trans a) (sF.trans b) c ⟨ns,t⟩) s1 r1 hp
 .rw[dF hz]at e2;cases e2
theorem rW(h:Ze Z (Ba fd) σ H Q):EF (Q5 Z fd) σ H Q:=by
 refine Yx h λF δ own rv δ' s e k=>?_;refine eL e λds δ1 e1 e2=>?_;by_cases hz:ds.length<=cf
 .rw[dG hz]at e2;cases e2;refine⟨F,δ,own,ds,δ1,s,e1,λvs H1 F1 ZA sH sF s1 r1=>⟨by rw[<-r1.length];exact hz,λp hp=>?_⟩⟩;exact Fin.lst (λv H2 F2 ns a b c t=>k v H2 F2 ZA (sH.trans a) (sF.trans b) c ⟨ns,t⟩) s1 r1 hp
 .rw[dF hz]at e2;cases e2
end
@[simp]noncomputable def SV.scal:SV->Bool
 | .fz .non=>aC
 | .fz (.bl _)=>aC
 | .fz (.int _)=>aC
 | .fz (.str _)=>aC
 |_=>aD
def Wh(K:af)(n:Nat)(g:List D->Option SV):Sp:=λvs H Q _=>∃F ds sv,Zk F H/\eF K F ds vs/\ds.length=n/\g ds=aA sv/\
 ∀v H' F' ns,Zk H H'->Zk F F'->Zk F' H'->(∀(b:au) (o:HO),F' b=aA o->F b=aA o\/H b=aB)->eN K F' sv v ns->(Ac ns).Nodup->(∀p∈ns,F' p.1=aB/\H p.1=aB/\H' p.1=aA p.2)->Q v H'
@[simp]def frzAll:List RV->Yy->Option (List D×Yy)
 | [],δ=>aA ([],δ)
 |rv::r,δ=>(frz rv δ).bind λp=>(frzAll r p.2).bind λq=>aA (p.1::q.1,q.2)
theorem RVSs.mono(s:Zk F F')(h:RVSs K F σ rvs vs):RVSs K F' σ rvs vs:=by
 induction h with
 |nil=>exact .nil
 |cons h _ ih=>exact .cons (h.mono s) ih
section
variable{Z:eM K}
theorem SR.frzAll{F:Hp}{δ:Yy}{own:Nat->Zu}:∀{rvs:List RV} {vs:List V} {ds:List D} {δ':Yy} {F:Hp} {δ:Yy} {own:Nat->Zu},SR Z F H σ δ own->RVSs K F σ rvs vs->L2.frzAll rvs δ=aA (ds,δ')->
  ∃F1 ZA,Zk F F1/\SR Z F1 H σ δ' ZA/\eF K F1 ds vs
 |_,_,_,_,F,_,own,s,.nil,e=>by cases e;exact⟨F,own,Zk.refl F,s,.nil⟩
 |_,_,_,_,F,_,own,s,.cons h t,e=>by refine eL e λd δ1 e1 e2=>?_;refine eL e2 λds δ2 e3 e4=>?_;cases e4;refine Y9 (s.frzR h e1) λF1 ZA XE s1 r1=>?_;refine Y9 (SR.frzAll (own:=own) (F:=F) (δ:=δ1) s1 (t.mono XE) e3) λF2 own2 ZG s2 r2=>?_;exact⟨F2,own2,XE.trans ZG,s2,.cons (r1.mono ZG) r2⟩
@[simp]def Z8(n:Nat)(g:List D->Option SV)(fa:FA):FE:=λδ=>(fa δ).bind λp=>(L2.frzAll p.1 p.2).bind λq=>if q.1.length=n then(g q.1).bind λsv=>some (.tmp sv,if sv.scal then p.2 else q.2)else none
theorem jC(h:sv.scal=aC)(sh:eN K F sv v ns):ns=[]/\eN K F' sv v []:=by
 cases sh with
 |fz r=>
  refine⟨rfl,.fz ?_⟩;cases r with
  |non=>exact .non
  |bl b=>exact .bl b
  |int i=>exact .int i
  |str x=>exact .str x
  |tup _ _=>cases h
  |lst _ _ _=>cases h
  |dK _ _ _=>cases h
  |dT _ _ _ _=>cases h
  |exc _ _=>cases h
  |dX _ _ _ _=>cases h
  |exd _ _ _ _ _=>cases h
 |ol _=>cases h
 |oK _ _=>cases h
 |oT _ _ _=>cases h
 |oN _ _=>cases h
 |oR _ _=>cases h
 |oX _ _ _=>cases h
 |oD _=>cases h
 |oM _ _ _=>cases h
 |oL _ _=>cases h
 |oQ _ _=>cases h
theorem yk(h:Ze Z (Z8 n g fa) σ H Q):DF (Wh K n g) [] E (Uv Z fa) σ H Q:=by
 obtain⟨F,δ,own,rv,δ',s,e,k⟩:=h;refine eL e λrvs δ1 e1 e2=>?_;refine eL e2 λds δ2 e3 e4=>?_;by_cases hn:ds.length=n
 .rw[dG hn]at e4;refine eK e4 λsv e5 e6=>?_;refine⟨F,δ,own,rvs,δ1,s,e1,λvs H1 F1 ZA sH sF s1 r1=>?_⟩;obtain⟨F2,own2,ZG,s2,r2⟩:=s1.frzAll (own:=own) (F:=F) (δ:=δ) r1 e3;rw[List.append_nil];refine⟨F2,ds,sv,s2.le,r2,hn,e5,λv H3 F3 ns WH ZR ON UC sh nd ok=>?_⟩;by_cases hs:sv.scal=aC
  .rw[dG hs]at e6;cases e6;obtain⟨_,UO⟩:=jC (F':=F1) hs sh;exact k v H3 F1 ZA (sH.trans WH) sF (s1.grow WH) ⟨[],UO,c7,λ_ h=>(nomatch h),λ_ _ _ h=>(nomatch h)⟩
  .rw[dF hs]at e6;cases e6;have s3:SR Z F3 H3 σ δ2 own2:=by
    refine⟨ON,λb o e=>?_,s2.old.trans WH,s2.len,λi sw ei=>?_,s2.nod,λi p hp=>?_,s2.sep⟩
    .rcases UC b o e with z|z
     .exact s2.fro b o z
     .exact .inr (s2.old.free z)
    .obtain⟨w,h1,h2⟩:=s2.at' i sw ei;exact⟨w,h1,h2.mono ZR⟩
    .obtain⟨a,b,c⟩:=s2.ok i p hp;refine⟨?_,b,WH _ _ c⟩;cases z:F3 p.1 with
     |none=>rfl
     |some u=>
      rcases UC _ u z with y|y
      .rw[a]at y;cases y
      .rw[c]at y;cases y
   exact k v H3 F3 own2 (sH.trans WH) (sF.trans (ZG.trans ZR)) s3 ⟨ns,sh,nd,λp hp=>⟨(ok p hp).1,(s2.old).free (ok p hp).2.1,(ok p hp).2.2⟩,λi p q hp hq e=>by
    have z:=(s2.ok i q hq).2.2;rw[<-e,(ok p hp).2.1]at z;cases z⟩
 .rw[dF hn]at e4;cases e4
end
end
section
variable{K:af}
section
variable{Z:eM K}
@[simp]noncomputable def Yg(fe:FE):FT:=λδ=>(fe δ).bind λp=>match p.1 with
 | .tmp (.fz (.bl b))=>aA (b,p.2)
 |_=>aB
theorem Nx(h:Yj Z (Yg fe) σ H R):yD (Ze Z fe) σ H R:=by
 refine Yx h λF δ own b δ' s e k=>?_;refine eL e λrv δ1 e1 e2=>?_;refine⟨F,δ,own,rv,δ1,s,e1,λv H1 F1 ZA sH sF s1 r1=>?_⟩;dsimp only at e2;split at e2
 .cases e2;obtain⟨ns,t⟩:=r1;cases Uh t.sh;exact⟨_,rfl,k H1 F1 ZA sH sF s1⟩
 .cases e2
theorem lO(h:Yj Z (Yg fe) σ H R):tB (Ze Z fe) σ H R:=Nx h
@[simp]noncomputable def X8(f g:FT):FT:=λδ=>(f δ).bind λp=>if p.1=true then g p.2 else some (false,p.2)
@[simp]noncomputable def orF(f g:FT):FT:=λδ=>(f δ).bind λp=>if p.1=true then some (true,p.2)else g p.2
@[simp]noncomputable def PJ(f:FT):FT:=λδ=>(f δ).bind λp=>some (!p.1,p.2)
theorem rV(h:Yj Z (X8 f g) σ H R):AV (Yj Z f) (Yj Z g) σ H R:=by
 refine Yx h λF δ own b δ' s e k=>?_;refine eL e λc δ1 e1 e2=>?_;refine⟨F,δ,own,c,δ1,s,e1,λH1 F1 ZA sH sF s1=>?_⟩;cases c with
 |true=>rw[dG rfl]at e2⊢;exact⟨F1,δ1,ZA,b,δ',s1,e2,λH2 F2 own2 a c d=>k H2 F2 own2 (sH.trans a) (sF.trans c) d⟩
 |false=>rw[dF bv]at e2⊢;cases e2;exact k H1 F1 ZA sH sF s1
theorem tF(h:Yj Z (orF f g) σ H R):tOr (Yj Z f) (Yj Z g) σ H R:=by
 refine Yx h λF δ own b δ' s e k=>?_;refine eL e λc δ1 e1 e2=>?_;refine⟨F,δ,own,c,δ1,s,e1,λH1 F1 ZA sH sF s1=>?_⟩;cases c with
 |true=>rw[dG rfl]at e2⊢;cases e2;exact k H1 F1 ZA sH sF s1
 |false=>rw[dF bv]at e2⊢;exact⟨F1,δ1,ZA,b,δ',s1,e2,λH2 F2 own2 a c d=>k H2 F2 own2 (sH.trans a) (sF.trans c) d⟩
theorem rT(h:Yj Z (PJ f) σ H R):AU (Yj Z f) σ H R:=by refine Yx h λF δ own b δ' s e k=>?_;refine eL e λc δ1 e1 e2=>?_;cases e2;exact⟨F,δ,own,c,δ1,s,e1,k⟩
@[simp]noncomputable def FY(f g:FE):FE:=λδ=>(Yg f δ).bind λp=>if p.1=true then g p.2 else some (.tmp (.fz (.bl false)),p.2)
@[simp]noncomputable def orV(f g:FE):FE:=λδ=>(Yg f δ).bind λp=>if p.1=true then some (.tmp (.fz (.bl true)),p.2)else g p.2
theorem zc:Sx Z F H σ own (.tmp (.fz (.bl b))) (.bl b):=⟨[],.fz (.bl b)⟩
theorem pc(h:Ze Z (FY f g) σ H Q):zu (Ze Z f) (Ze Z g) σ H Q:=by
 refine Yx h λF δ own rv δ' s e k=>?_;refine eL e λc δ1 e1 e2=>?_;refine Nx ⟨F,δ,own,c,δ1,s,e1,λH1 F1 ZA sH sF s1=>?_⟩;cases c with
 |true=>rw[dG rfl]at e2⊢;exact⟨F1,δ1,ZA,rv,δ',s1,e2,λv H2 F2 own2 a c d=>k v H2 F2 own2 (sH.trans a) (sF.trans c) d⟩
 |false=>rw[dF bv]at e2⊢;cases e2;exact k _ H1 F1 ZA sH sF s1 zc
theorem rS(h:Ze Z (orV f g) σ H Q):AS (Ze Z f) (Ze Z g) σ H Q:=by
 refine Yx h λF δ own rv δ' s e k=>?_;refine eL e λc δ1 e1 e2=>?_;refine Nx ⟨F,δ,own,c,δ1,s,e1,λH1 F1 ZA sH sF s1=>?_⟩;cases c with
 |true=>rw[dG rfl]at e2⊢;cases e2;exact k _ H1 F1 ZA sH sF s1 zc
 |false=>rw[dF bv]at e2⊢;exact⟨F1,δ1,ZA,rv,δ',s1,e2,λv H2 F2 own2 a c d=>k v H2 F2 own2 (sH.trans a) (sF.trans c) d⟩
@[simp]noncomputable def ifF(t:FT)(f g:FE):FE:=λδ=>(t δ).bind λp=>if p.1=true then f p.2 else g p.2
theorem tD(h:Ze Z (ifF t f g) σ H Q):tIf (Yj Z t) (Ze Z f) (Ze Z g) σ H Q:=by
 refine Yx h λF δ own rv δ' s e k=>?_;refine eL e λc δ1 e1 e2=>?_;refine⟨F,δ,own,c,δ1,s,e1,λH1 F1 ZA sH sF s1=>?_⟩;cases c with
 |true=>rw[dG rfl]at e2⊢;exact⟨F1,δ1,ZA,rv,δ',s1,e2,λv H2 F2 own2 a c d=>k v H2 F2 own2 (sH.trans a) (sF.trans c) d⟩
 |false=>rw[dF bv]at e2⊢;exact⟨F1,δ1,ZA,rv,δ',s1,e2,λv H2 F2 own2 a c d=>k v H2 F2 own2 (sH.trans a) (sF.trans c) d⟩
end
inductive Fl where
 |nx (δ:Yy)|bk (δ:Yy)|ct (δ:Yy)|rt (sv:SV)|ex (e:Exn) (δ:Yy)
abbrev FS:=Yy->Option Fl
def Ny(Z:eM K)(F:Hp)(D:Ends):Fl->Prop
 | .nx δ=>∀ZB H' F' own',Zk F F'->SR Z F' H' ZB δ own'->D.nx ZB H'
 | .bk δ=>∀ZB H' F' own',Zk F F'->SR Z F' H' ZB δ own'->D.bk ZB H'
 | .ct δ=>∀ZB H' F' own',Zk F F'->SR Z F' H' ZB δ own'->D.ct ZB H'
 | .rt sv=>∀v H' F' ns,Zk F F'->Zk F' H'->(∀(b:au) (o:HO),F' b=aA o->Z.f b=aA o\/Z.h b=aB)->Zk Z.h H'->eN K F' sv v ns->(Ac ns).Nodup->
   (∀p∈ns,F' p.1=aB/\Z.h p.1=aB/\H' p.1=aA p.2)->D.rt v H'
 | .ex x δ=>∀ZB H' F' own' cls od,Zk F F'->SR Z F' H' ZB δ own'->pd K F' x cls od->Z.x cls od ZB H'
theorem Ny.mono{Z:eM K}{D}(s:Zk F F'):∀{fl:Fl},Ny Z F D fl->Ny Z F' D fl
 | .nx _,h=>λZB H' F2 own' a b=>h ZB H' F2 own' (s.trans a) b
 | .bk _,h=>λZB H' F2 own' a b=>h ZB H' F2 own' (s.trans a) b
 | .ct _,h=>λZB H' F2 own' a b=>h ZB H' F2 own' (s.trans a) b
 | .rt _,h=>λv H' F2 ns a=>h v H' F2 ns (s.trans a)
 | .ex _ _,h=>λZB H' F2 own' cls od a=>h ZB H' F2 own' cls od (s.trans a)
def Yf(Z:eM K)(f:FS):TS:=λD σ H=>∃F δ own fl,SR Z F H σ δ own/\f δ=aA fl/\Ny Z F D fl
section
variable{Z:eM K}{H:Hp}{σ:St}
@[simp]noncomputable def Qk:FS:=λδ=>some (.nx δ)
theorem pb(h:Yf Z Qk E σ H):zq E σ H:=by refine Ox h λF δ own fl s e k=>?_;cases e;exact k σ H F own (Zk.refl F) s
@[simp]noncomputable def Zz(f g:FS):FS:=λδ=>(f δ).bind fun
 | .nx δ'=>g δ'
 |fl=>aA fl
theorem rR(h:Yf Z (Zz f g) E σ H):AR (Yf Z f) (Yf Z g) E σ H:=by
 refine Ox h λF δ own fl s e k=>?_;refine eK e λf1 e1 e2=>?_;refine⟨F,δ,own,f1,s,e1,?_⟩;cases f1 with
 |nx δ1=>exact λZB H' F' own' sF s'=>⟨F',δ1,own',fl,s',e2,k.mono sF⟩
 |bk δ1=>cases e2;exact k
 |ct δ1=>cases e2;exact k
 |rt sv=>cases e2;exact k
 |ex x δ1=>cases e2;exact k
@[simp]noncomputable def Fz(t:FT)(f g:FS):FS:=λδ=>(t δ).bind λp=>if p.1=true then f p.2 else g p.2
theorem rQ(h:Yf Z (Fz t f g) E σ H):AQ (Yj Z t) (Yf Z f) (Yf Z g) E σ H:=by
 refine Ox h λF δ own fl s e k=>?_;refine eL e λc δ1 e1 e2=>?_;refine⟨F,δ,own,c,δ1,s,e1,λH1 F1 ZA sH sF s1=>?_⟩;cases c with
 |true=>rw[dG rfl]at e2⊢;exact⟨F1,δ1,ZA,fl,s1,e2,k.mono sF⟩
 |false=>rw[dF bv]at e2⊢;exact⟨F1,δ1,ZA,fl,s1,e2,k.mono sF⟩
@[simp]noncomputable def FW:RV->Yy->Option SV
 | .tmp sv,_=>aA sv
 | .bw i,δ=>δ[i]?.join
@[simp]noncomputable def Wp(fe:FE):FS:=λδ=>(fe δ).bind λp=>(FW p.1 p.2).bind λsv=>some (.rt sv)
theorem rP(h:Yf Z (Wp fe) E σ H):EE (Ze Z fe) E σ H:=by
 refine Ox h λF δ own fl s e k=>?_;refine eL e λrv δ1 e1 e2=>?_;refine eK e2 λsv e3 e4=>?_;cases e4;refine⟨F,δ,own,rv,δ1,s,e1,λv H1 F1 ZA sH sF s1 r1=>?_⟩;cases rv with
 |tmp sw=>cases e3;obtain⟨ns,t⟩:=r1;exact k v H1 F1 ns sF s1.le s1.fro s1.old t.sh t.nd t.ok
 |bw i=>obtain⟨w,h1,h2⟩:=s1.at' i sv (U6 e3);have QI:σ[i]? =aA (aA v):=r1;rw[QI]at h1;cases h1;exact k v H1 F1 (ZA i) sF s1.le s1.fro s1.old h2 (s1.nod i) (s1.ok i)
@[simp]def stow(i:Nat):RV->Yy->Option Yy
 | .tmp sv,δ=>if i<δ.length then aA (δ.set i (aA sv))else aB
 | .bw j,δ=>(frz (.bw j) δ).bind λp=>if i<p.2.length then aA (p.2.set i (aA (.fz p.1)))else aB
theorem SR.stow(s:SR Z F H σ δ own)(r:Sx Z F H σ own rv v)(e:L2.stow i rv δ=aA δ'):∃F' own',Zk F F'/\SR Z F' H (σ.set i (aA v)) δ' own':=by
 cases rv with
 |tmp sv=>
  obtain⟨ns,t⟩:=r;have e:(if i<δ.length then aA (δ.set i (aA sv))else aB)=aA δ':=e;by_cases hi:i<δ.length
  .rw[dG hi]at e;cases e;exact⟨F,_,Zk.refl F,s.store t (by rw[s.len];exact hi)⟩
  .rw[dF hi]at e;cases e
 |bw j=>
  refine eL e λd δ1 e1 e2=>?_;refine Y9 (s.frzR (rv:=.bw j) (v:=v) r e1) λF1 ZA sF s1 r1=>?_;by_cases hi:i<δ1.length
  .rw[dG hi]at e2;cases e2;exact⟨F1,_,sF,s1.store (.fz r1) (by rw[s1.len];exact hi)⟩
  .rw[dF hi]at e2;cases e2
@[simp]def Yi(i:Nat)(fe:FE):FS:=λδ=>(fe δ).bind λp=>(stow i p.1 p.2).bind λδ'=>some (.nx δ')
theorem zb(h:Yf Z (Yi i fe) E σ H):Xq (Ze Z fe) (Tt i) E σ H:=by refine Ox h λF δ own fl s e k=>?_;refine eL e λrv δ1 e1 e2=>?_;refine eK e2 λδ2 e3 e4=>?_;cases e4;refine⟨F,δ,own,rv,δ1,s,e1,λv H1 F1 ZA sH sF s1 r1=>?_⟩;refine W1 (s1.stow r1 e3) λF2 own2 ZG s2=>?_;exact k _ H1 F2 own2 (sF.trans ZG) s2
set_option genInjectivity false in
structure FG where
 run:D->Yy->Option Yy
 tch:List Nat
set_option genInjectivity false in
structure FGs where
 run:List D->Yy->Option Yy
 tch:List Nat
def Oz(Z:eM K)(g:FG):TG:=λv σ H Q=>∃F δ own d δ',SR Z F H σ δ own/\eP K F d v/\g.run d δ=aA δ'/\∀ZB own',SR Z F H ZB δ' own'->(∀j:Nat,j∉g.tch->ZB[j]? =σ[j]?)->Q ZB H
def C0(Z:eM K)(g:FGs):TGs:=λvs σ H Q=>∃F δ own ds δ',SR Z F H σ δ own/\eF K F ds vs/\g.run ds δ=aA δ'/\∀ZB own',SR Z F H ZB δ' own'->(∀j:Nat,j∉g.tch->ZB[j]? =σ[j]?)->Q ZB H
noncomputable def Zd(i:Nat):FG:=⟨λd δ=>if i<δ.length then aA (δ.set i (aA (.fz d)))else aB,[i]⟩
theorem lN(h:Oz Z (Zd i) v σ H Q):Tt i v σ H Q:=by
 obtain⟨F,δ,own,d,δ',s,r,e,k⟩:=h;have e:(if i<δ.length then aA (δ.set i (aA (.fz d)))else aB)=aA δ':=e;by_cases hi:i<δ.length
 .rw[dG hi]at e;cases e;exact k _ _ (s.store (.fz r) (by rw[s.len];exact hi)) λj hj=>g8 λz=>hj (by rw[z];exact ac)
 .rw[dF hi]at e;cases e
noncomputable def Y1:FGs:=⟨λds δ=>match ds with
 | []=>aA δ
 |_=>aB,[]⟩
noncomputable def Zn(g:FG)(r:FGs):FGs:=⟨λds δ=>match ds with
 |d::t=>(g.run d δ).bind λδ1=>r.run t δ1
 | []=>aB,g.tch++r.tch⟩
@[simp]theorem fU(i d δ):(Zd i).run d δ=if i<δ.length then some (δ.set i (some (.fz d)))else none:=rfl
@[simp]theorem fP(δ):Y1.run [] δ=some δ:=rfl
@[simp]theorem fT(g r d t δ):(Zn g r).run (d::t) δ=(g.run d δ).bind λδ1=>r.run t δ1:=rfl
theorem pZ(h:C0 Z Y1 vs σ H Q):AO vs σ H Q:=by
 obtain⟨F,δ,own,ds,δ',s,r,e,k⟩:=h;cases r with
 |nil=>cases e;exact⟨rfl,k σ own s λ_ _=>rfl⟩
 |cons h t=>cases e
theorem lM(h:C0 Z (Zn g r) vs σ H Q):zo (Oz Z g) (C0 Z r) vs σ H Q:=by
 obtain⟨F,δ,own,ds,δ',s,rr,e,k⟩:=h;cases rr with
 |nil=>cases e
 |cons h t=>refine eK e λδ1 e1 e2=>?_;exact⟨_,_,rfl,F,δ,own,_,δ1,s,h,e1,λUM ZA s1 t1=>⟨F,δ1,ZA,_,δ',s1,t,e2,λWW own2 s2 t2=>k WW own2 s2 λj hj=>(t2 j λz=>hj (bp _ z)).trans (t1 j λz=>hj (bu _ z))⟩⟩
noncomputable def Yz(n:Nat)(g:FGs):FG:=⟨λd δ=>match d with
 | .tup xs=>if xs.length=n then g.run xs δ else aB
 |_=>aB,g.tch⟩
@[simp]theorem fO(n g xs δ):(Yz n g).run (.tup xs) δ=if xs.length=n then g.run xs δ else none:=rfl
theorem pY(h:Oz Z (Yz n g) v σ H Q):AN K n (C0 Z g) v σ H Q:=by
 obtain⟨F,δ,own,d,δ',s,r,e,k⟩:=h;dsimp only[Yz]at e;split at e
 .rename_i xs;by_cases hn:xs.length=n
  .rw[dG hn]at e;cases r with
   |tup h r=>exact⟨_,_,rfl,Qj s.le (Rc h),by rw[<-r.length];exact hn,F,δ,own,_,δ',s,r,e,k⟩
  .rw[dF hn]at e;cases e
 .cases e
@[simp]def An(g:FG)(fe:FE):FS:=λδ=>(fe δ).bind λp=>(frz p.1 p.2).bind λq=>(g.run q.1 q.2).bind λδ'=>some (.nx δ')
theorem jB(h:Yf Z (An g fe) E σ H):Xq (Ze Z fe) (Oz Z g) E σ H:=by refine Ox h λF δ own fl s e k=>?_;refine eL e λrv δ1 e1 e2=>?_;refine eL e2 λd δ2 e3 e4=>?_;refine eK e4 λZX e5 e6=>?_;cases e6;refine⟨F,δ,own,rv,δ1,s,e1,λv H1 F1 ZA sH sF s1 r1=>?_⟩;refine Zp (s1.settleR r1) λF2 ZG s2 r2=>?_;refine Y9 (s2.frzR r2 e3) λF3 ZH ZR s3 r3=>?_;exact⟨F3,δ2,ZH,d,ZX,s3,r3,e5,λZB own' s' _=>k ZB H1 F3 own' (sF.trans (ZG.trans ZR)) s'⟩
@[simp]noncomputable def Yb(tg:FG)(body:FS):List D->Yy->Option Fl
 | [],δ=>aA (.nx δ)
 |d::ds,δ=>(tg.run d δ).bind λδ1=>(body δ1).bind fun
  | .nx δ2=>Yb tg body ds δ2
  | .ct δ2=>Yb tg body ds δ2
  | .bk δ2=>aA (.nx δ2)
  | .rt sv=>aA (.rt sv)
  | .ex x δ2=>aA (.ex x δ2)
def Bb(K:af)(J:It)(F:Hp)(ds:List D):Prop:=∀F' H,Zk F F'->Zk F' H->∀i:Nat,
 (∀d,ds[i]? =aA d->J.go i H/\∀x H',J.yld i H x H'->Zk H H'/\∃ns,(Ac ns).Nodup/\(∀p∈ns,H p.1=aB/\H' p.1=aA p.2)/\eP K (Uy F' ns) d x)/\(ds.length<=i->J.stop i H)
def Ql(Z:eM K)(f:FD):TI:=λσ H R=>∃F δ own ds δ',SR Z F H σ δ own/\f δ=aA (ds,δ')/\
 ∀J H' F' own',Zk H H'->Zk F F'->SR Z F' H' σ δ' own'->Bb K J F' ds->R J H'
@[simp]noncomputable def Qm(fi:FD)(tg:FG)(body:FS):FS:=λδ=>(fi δ).bind λp=>Yb tg body p.1 p.2
theorem SR.fresh(s:SR Z F H σ δ own)(sm:Zk H H')(nd:(Ac ns).Nodup)(h:∀p∈ns,H p.1=aB/\H' p.1=aA p.2):Zk F (Uy F ns)/\SR Z (Uy F ns) H' σ δ own:=by refine⟨Q4 λp hp=>s.le.free (h p hp).1,(s.grow sm).addF nd (λp hp=>s.le.free (h p hp).1) (λp hp=>(h p hp).2) (λp hp=>s.old.free (h p hp).1) λi p q hp hq e=>?_⟩;have z:=(s.ok i q hq).2.2;rw[<-e,(h p hp).1]at z;cases z
theorem rO(h:Yf Z (Qm fi tg body) E σ H):AM (Ql Z fi) (Oz Z tg) (Yf Z body) E σ H:=by
 refine Ox h λF δ own fl s e k=>?_;refine eL e λds δ1 e1 e2=>?_;refine⟨F,δ,own,ds,δ1,s,e1,λJ H1 F1 ZA sH sF s1 yl=>?_⟩;refine⟨λi m σ H=>m=ds.length- i/\i<=ds.length/\∃F δ own,Zk F1 F/\SR Z F H σ δ own/\Yb tg body (ds.drop i) δ=aA fl,⟨ds.length,by simp,gq _,F1,δ1,ZA,Zk.refl F1,s1,e2⟩,?_⟩;rintro i m ZB H' ⟨rfl,hi,F2,δ2,own2,ZG,s2,ef⟩;by_cases ZM:i<ds.length
 .have hd:ds[i]? =aA ds[i]:=by simp[ZM]
  obtain⟨go,yy⟩:=(yl F2 H' ZG s2.le i).1 _ hd;rw[List.drop_eq_getElem_cons ZM]at ef;refine eK ef λZX e3 e4=>?_;refine eK e4 λf1 e5 e6=>?_;refine .inr ⟨go,λUW H4=>∃F δ own,Zk F1 F/\SR Z F H4 UW δ own/\Yb tg body (ds.drop (i+1)) δ=aA fl,λUW H4 ⟨F4,QG,ZU,a,b,c⟩=>⟨ds.length- (i+1),by omega,rfl,ZM,F4,QG,ZU,a,b,c⟩,λx H3 hy=>?_⟩;obtain⟨sm,ns,nd,hn,rp⟩:=yy x H3 hy;obtain⟨TB,sn⟩:=s2.fresh sm nd hn;refine⟨Uy F2 ns,δ2,own2,_,ZX,sn,rp,e3,λi9 OG s5 _=>⟨Uy F2 ns,ZX,OG,f1,s5,e5,?_⟩⟩;cases f1 with
  |nx XR=>exact λXQ H6 F6 ZQ a b=>⟨F6,XR,ZQ,ZG.trans (TB.trans a),b,e6⟩
  |ct XR=>exact λXQ H6 F6 ZQ a b=>⟨F6,XR,ZQ,ZG.trans (TB.trans a),b,e6⟩
  |bk XR=>cases e6;exact λXQ H6 F6 ZQ a b=>k XQ H6 F6 ZQ (sF.trans (ZG.trans (TB.trans a))) b
  |rt sv=>cases e6;exact λv H6 F6 J_ a=>k v H6 F6 J_ (sF.trans (ZG.trans (TB.trans a)))
  |ex x XR=>cases e6;exact λXQ H6 F6 ZQ cls od a=>k XQ H6 F6 ZQ cls od (sF.trans (ZG.trans (TB.trans a)))
 .have hz:i=ds.length:=by omega
  subst hz;rw[List.drop_length]at ef;cases ef;exact .inl ⟨(yl F2 H' ZG s2.le _).2 (bf _),k ZB H' F2 own2 (sF.trans ZG) s2⟩
noncomputable def Ut(t:FT)(body:FS):Nat->Yy->Option Fl
 |0,_=>aB
 |n+1,δ=>(t δ).bind λp=>if p.1=aC then(body p.2).bind (fun
  | .nx δ2=>Ut t body n δ2
  | .ct δ2=>Ut t body n δ2
  | .bk δ2=>aA (.nx δ2)
  | .rt sv=>aA (.rt sv)
  | .ex x δ2=>aA (.ex x δ2))else aA (.nx p.2)
theorem mZ(h:Yf Z (Ut t body n) E σ H):yw (Yj Z t) (Yf Z body) E σ H:=by
 refine Ox h λF δ own fl s e k=>?_;refine⟨λm σ H=>∃F2 δ own,Zk F F2/\SR Z F2 H σ δ own/\Ut t body m δ=aA fl,⟨n,F,δ,own,Zk.refl F,s,e⟩,?_⟩;rintro m UM H1 ⟨F1,δ1,ZA,XE,s1,e1⟩;cases m with
 |zero=>cases e1
 |succ m=>
  refine eL e1 λc δ2 e2 e3=>?_;refine⟨F1,δ1,ZA,c,δ2,s1,e2,λH2 F2 own2 sH ZG s2=>?_⟩;cases c with
  |false=>rw[dF bv]at e3⊢;cases e3;exact k UM H2 F2 own2 (XE.trans ZG) s2
  |true=>
   rw[dG rfl]at e3⊢;refine eK e3 λf1 e4 e5=>?_;refine⟨λZB H'=>∃F2 δ own,Zk F F2/\SR Z F2 H' ZB δ own/\Ut t body m δ=aA fl,λZB H' w=>⟨m,Nat.lt_succ_self m,w⟩,F2,δ2,own2,f1,s2,e4,?_⟩;cases f1 with
   |nx XR=>exact λXQ H6 F6 ZQ a b=>⟨F6,XR,ZQ,XE.trans (ZG.trans a),b,e5⟩
   |ct XR=>exact λXQ H6 F6 ZQ a b=>⟨F6,XR,ZQ,XE.trans (ZG.trans a),b,e5⟩
   |bk XR=>cases e5;exact λXQ H6 F6 ZQ a b=>k XQ H6 F6 ZQ (XE.trans (ZG.trans a)) b
   |rt sv=>cases e5;exact λv H6 F6 J_ a=>k v H6 F6 J_ (XE.trans (ZG.trans a))
   |ex x XR=>cases e5;exact λXQ H6 F6 ZQ cls od a=>k XQ H6 F6 ZQ cls od (XE.trans (ZG.trans a))
theorem Sy(h:Bm K F a vs)(r:eF K F xs vs):Bb K (Itl K a) F xs:=λF' H sF sH i=>by have q:Bm K H a vs:=Wn (sF.trans sH) h;refine⟨λd hd=>?_,λhl=>⟨vs,q,by rw[<-r.length];exact hl⟩⟩;obtain⟨v,h1,h2⟩:=r.get hd;refine⟨⟨vs,v,q,h1⟩,λx H' ZE=>?_⟩;obtain⟨e1,e2⟩:=ZE;subst e1;have e3:=e2 vs q;rw[h1]at e3;cases e3;exact⟨Zk.refl _,[],c7,λ_ h=>(nomatch h),h2.mono sF⟩
theorem X9(h:Mx K F a vs)(r:eF K F xs vs):Bb K (Itt K a) F xs:=λF' H sF sH i=>by have q:Mx K H a vs:=Qj (sF.trans sH) h;refine⟨λd hd=>?_,λhl=>⟨vs,q,by rw[<-r.length];exact hl⟩⟩;obtain⟨v,h1,h2⟩:=r.get hd;refine⟨⟨vs,v,q,h1⟩,λx H' ZE=>?_⟩;obtain⟨e1,e2⟩:=ZE;subst e1;have e3:=e2 vs q;rw[h1]at e3;cases e3;exact⟨Zk.refl _,[],c7,λ_ h=>(nomatch h),h2.mono sF⟩
noncomputable def Es(lo:Int)(n:Nat):List D:=(c6 n).map λi=>.int (lo+(i:Nat))
theorem Nz{lo}:Bb K (Itr lo n) F (Es lo n):=λF' H sF sH i=>by
 have hl:(Es lo n).length=n:=by unfold Es;rw[ah,List.length_range]
 refine⟨λd hd=>?_,λh=>by rw[hl]at h;exact h⟩;have hi:i<n:=by have:=(aw.mp hd).1;rw[hl]at this;exact this
 refine⟨hi,λx H' ZE=>?_⟩;obtain⟨e1,e2⟩:=ZE;subst e1 e2;unfold Es at hd;rw[az,List.getElem?_range hi]at hd;cases hd;exact⟨Zk.refl _,[],c7,λ_ h=>(nomatch h),.int _⟩
def Ad(j:Int):Prop:=-(2^62)<=j/\j<2^62
theorem mY(h0:0<=j)(h:j<=16777216):Ad j:=⟨by omega,by omega⟩
theorem Ui{n:Nat}(h:n<=16777216):Ad (n:Int):=mY (by omega) (by omega)
open Classical in
@[simp]def Et(fa:FA):FD:=λδ=>(fa δ).bind λp=>match B9 p.1 p.2 with
 |some [.int j]=>if Ad j then aA (Es 0 j.toNat,p.2)else aB
 |_=>aB
theorem pX(h:Ql Z (Et fa) σ H R):yG (Uv Z fa) σ H R:=by
 refine Yx h λF δ own ds δ' s e k=>?_;refine eL e λrvs δ1 e1 e2=>?_;refine⟨F,δ,own,rvs,δ1,s,e1,λvs H1 F1 ZA sH sF s1 r1=>?_⟩;dsimp only at e2;split at e2
 .rename_i j hj;have rn:=s1.rdAll r1 hj;cases rn with
  |cons h t=>
   cases t;by_cases hb:Ad j
   .rw[dG hb]at e2;cases e2;exact⟨j,by rw[h.int],hb.1,hb.2,k _ H1 F1 ZA sH sF s1 Nz⟩
   .rw[dF hb]at e2;cases e2
 .cases e2
@[simp]def Ae(i:Nat)(fe:FE):FS:=λδ=>match δ[i]? with
 |some (aA (.ol _))=>(fe δ).bind λp=>(frz p.1 p.2).bind λq=>match q.2[i]? with
  |some (aA (.ol xs))=>if xs.length<cf then aA (.nx (q.2.set i (aA (.ol (xs++[q.1])))))else aB
  |_=>aB
 |_=>aB
theorem Od(h:eN K F (.ol xs) v ns):∃a vs,v= .ref a/\ns=[(a,.lst vs)]/\eF K F xs vs:=by
 cases h with
 |ol r=>exact⟨_,_,rfl,rfl,r⟩
theorem rN(h:Yf Z (Ae i fe) E σ H):JB (tBM K "list" Gp (R8 i) (Kr (Ze Z fe) Xv)) E σ H:=by
 refine Ox h λF δ own fl s e k=>?_;unfold Ae at e;split at e
 .rename_i xs0 VE;refine eL e λrv δ1 e1 e2=>?_;refine eL e2 λd δ2 e3 e4=>?_;obtain⟨v,hv,sh⟩:=s.at' i _ VE;refine Y9 (Od sh) λa UY ev en r0=>?_;refine⟨v,hv,?_,F,δ,own,rv,δ1,s,e1,λy H1 F1 ZA sH sF s1 r1=>?_⟩
  .subst ev;exact .inl ⟨rfl,UY,.inl (.inl (s.ok i (a,.lst UY) (by rw[en];exact ac)).2.2)⟩
  refine Zp (s1.settleR r1) λF2 ZG s2 r2=>?_;refine Y9 (s2.frzR r2 e3) λF3 ZH ZR s3 r3=>?_;dsimp only at e4;split at e4
  .rename_i xs hx;by_cases hz:xs.length<cf
   .rw[dG hz]at e4;cases e4;obtain⟨v',XG,UO⟩:=s3.at' i _ hx;rw[hv]at XG;cases XG;refine Y9 (Od UO) λb vs eb R_ r'=>?_;have mb:(b,HO.lst vs)∈ZH i:=by rw[R_];exact ac
    subst eb;refine⟨b,vs,y,rfl,rfl,(s3.ok i _ mb).2.2,by rw[<-r'.length];exact hz,?_⟩;exact k σ _ F3 _ (sF.trans (ZG.trans ZR)) (s3.change (sv':=.ol (xs++[d])) (o':=.lst (vs++[y])) (ns':=[(b,.lst (vs++[y]))]) hx hv mb (.ol (r'.snoc r3)) (λp hp=>.inl (aj.mp hp)) Ke)
   .rw[dF hz]at e4;cases e4
  .cases e4
 .cases e
end
@[simp]noncomputable def Eu(n:Nat)(ds:List D):Yy:=ds.map (λd=>some (.fz d))++List.replicate (n- ds.length) none
theorem Sz(le:Zk F H)(r:eF K F ds vs):SR (ent H F:eM K) F H (L2.Bp N vs) (Eu N.length ds) λ_=>[]:=by
 have hl:=r.length;refine⟨le,λb o e=>.inl e,Zk.refl H,?_,λi sv e=>?_,λ_=>c7,λ_ _ h=>(nomatch h),λ_ _ _ _ _ h=>(nomatch h)⟩
 .unfold L2.Bp Eu;rw[av,av,ah,ah,List.length_replicate,List.length_replicate,hl]
 .unfold Eu at e;by_cases hi:i<ds.length
  .rw[ci (by simpa using hi),az]at e;cases hd:ds[i]? with
   |none=>rw[hd]at e;cases e
   |some d=>rw[hd]at e;cases e;obtain⟨v,h1,h2⟩:=r.get hd;refine⟨v,?_,.fz h2⟩;unfold L2.Bp;rw[ci (by rw[ah];omega),az,h1];rfl
  .rw[dr (by simpa using hi),List.getElem?_replicate]at e;split at e<;> cases e
theorem Ev(h:Wh K n g vs H Q E):vs.length=n:=by obtain⟨F,ds,sv,le,r,hn,e,k⟩:=h;rw[<-r.length];exact hn
end
section
variable{K:af}
def xG(K:af)(g:FG):TG:=λv σ H Q=>∃Z:eM K,Oz Z g v σ H Q
def xT(K:af)(f:FT):TT:=λσ H Q=>∃Z:eM K,Yj Z f σ H Q
def xE(K:af)(f:FE):TE:=λσ H Q=>∃Z:eM K,Ze Z f σ H Q
noncomputable def W3:FT:=λδ=>aA (aC,δ)
@[simp]theorem fN(δ):W3 δ=some (true,δ):=rfl
@[simp]noncomputable def caps(src:List BSrc):List RV:=src.filterMap fun
 | .cap j=>aA (.bw j)
 |_=>aB
@[simp]noncomputable def Ha(δ:Yy):BSrc->Option SV
 | .own=>aB
 | .cap j=>match δ[j]?.join with
  |some (.fz d)=>aA (.fz d)
  |_=>aB
 | .acc=>aA (.ol [])
@[simp]def bD(src:List BSrc)(δ:Yy):Yy:=src.map (Ha δ)
@[simp]noncomputable def resetSlot:BSrc->Option SV->Option SV
 | .own,_=>aB
 |_,o=>o
@[simp]def Me:List BSrc->Yy->Yy
 |b::r,o::t=>resetSlot b o::Me r t
 |_,t=>t
@[simp]def Yd(src:List BSrc)(k:Nat)(g:FG)(tt:FT)(te:FE):List D->Yy->Option Yy
 | [],δ=>aA δ
 |d::ds,δ=>(g.run d δ).bind λδ1=>(tt δ1).bind λp=>if p.1=aC then(te p.2).bind λq=>(frz q.1 q.2).bind λr=>match r.2[k]? with
   |some (aA (.ol zs))=>if zs.length<cf then Yd src k g tt te ds (Me src (r.2.set k (aA (.ol (zs++[r.1])))))else aB
   |_=>aB
  else Yd src k g tt te ds (Me src p.2)
@[simp]def Jg(src:List BSrc)(k:Nat)(fi:FD)(g:FG)(tt:FT)(te:FE):FE:=λδ=>(fi δ).bind λp=>(frzAll (caps src) p.2).bind λc=>(Yd src k g tt te p.1 (bD src c.2)).bind λwS=>match wS[k]? with
 |some (aA (.ol ys))=>aA (.tmp (.ol ys),c.2)
 |_=>aB
theorem M4:∀src δ,(Me src δ).length=δ.length
 | [],t=>by unfold Me;rfl
 |_::_,[]=>by unfold Me;rfl
 |b::r,o::t=>by show(resetSlot b o::Me r t).length=_;rw[bc,bc,M4 r t]
theorem M5:∀{src:List BSrc} {δ:Yy} {i:Nat} {sv:SV},(Me src δ)[i]? =aA (aA sv)->δ[i]? =aA (aA sv)
 | [],_,_,_,h=>h
 |_::_,[],_,_,h=>h
 |b::r,o::t,0,sv,h=>by
  have h:aA (resetSlot b o)=aA (aA sv):=h;cases b with
  |own=>cases h
  |cap j=>exact h
  |acc=>exact h
 |b::r,o::t,i+1,sv,h=>by have h:(Me r t)[i]? =aA (aA sv):=h;show t[i]? =_;exact M5 h
section
variable{Z:eM K}{F H:Hp}{σ:St}{δ δ':Yy}{own:Nat->Zu}
theorem SR.forget(s:SR Z F H σ δ own)(hl:δ'.length=δ.length)(h:∀(i:Nat) sv,δ'[i]? =aA (aA sv)->δ[i]? =aA (aA sv)):SR Z F H σ δ' own:=
 ⟨s.le,s.fro,s.old,s.len.trans hl.symm,λi sv e=>s.at' i sv (h i sv e),s.nod,s.ok,s.sep⟩
theorem SR.caps:∀{rvs:List RV} {ds:List D} {δ δ':Yy} {F:Hp} {own:Nat->Zu},(∀rv∈rvs,∃j,rv= .bw j)->SR Z F H σ δ own->L2.frzAll rvs δ=aA (ds,δ')->∃F1 ZA,Zk F F1/\SR Z F1 H σ δ' ZA
 | [],_,_,_,F,own,_,s,e=>by cases e;exact⟨F,own,Zk.refl F,s⟩
 |rv::r,_,_,_,F,own,hb,s,e=>by refine eL e λd δ1 e1 e2=>?_;refine eL e2 λds δ2 e3 e4=>?_;cases e4;obtain⟨j,rfl⟩:=hb rv ac;refine eK e1 λsv e5 e6=>?_;cases e6;refine Cu (s.freeze (U6 e5)) λF1 v sF _ _ s1=>?_;obtain⟨F2,own2,ZG,s2⟩:=SR.caps (λrv h=>hb rv (ao _ h)) s1 e3;exact⟨F2,own2,sF.trans ZG,s2⟩
theorem SR.after(s2:SR Z F H σ δ own)(WH:Zk H H3)(ZR:Zk F F3)(ON:Zk F3 H3)(UC:∀b o,F3 b=aA o->F b=aA o\/H b=aB):SR Z F3 H3 σ δ own:=by
 refine⟨ON,λb o e=>?_,s2.old.trans WH,s2.len,λi sw ei=>?_,s2.nod,λi p hp=>?_,s2.sep⟩
 .rcases UC b o e with z|z
  .exact s2.fro b o z
  .exact .inr (s2.old.free z)
 .obtain⟨w,h1,h2⟩:=s2.at' i sw ei;exact⟨w,h1,h2.mono ZR⟩
 .obtain⟨a,b,c⟩:=s2.ok i p hp;refine⟨?_,b,WH _ _ c⟩;cases z:F3 p.1 with
  |none=>rfl
  |some u=>
   rcases UC _ u z with y|y
   .rw[a]at y;cases y
   .rw[c]at y;cases y
end
structure SrcOk(src:List BSrc)(k:Nat):Prop where
 acc:src[k]? =aA .acc
 uni:∀i:Nat,src[i]? =aA .acc->i=k
theorem jA{Z:eM K}(S:SrcOk src k)(s:SR Z F H σ δ own)(ha:H acc=aB):
  SR (ent H F:eM K) F (Y7 H acc (.lst [])) (X6 src σ acc) (bD src δ) (λi=>if i=k then[(acc,.lst [])]else[]):=by
 have mem:∀{i:Nat} {p:au×HO},p∈(if i=k then[(acc,HO.lst [])]else[])->i=k/\p=(acc,.lst []):=fun{i p} h=>by
  by_cases hi:i=k
  .rw[dG hi]at h;exact⟨hi,aj.mp h⟩
  .rw[dF hi]at h;exact nomatch h
 refine⟨s.le.trans (Ug ha),λb o e=>.inl e,Ug ha,by unfold X6 bD;rw[ah,ah],λi sv e=>?_,λi=>?_,λi p hp=>?_,λi j p q YS hp hq=>?_⟩
 .unfold bD at e;rw[az]at e;cases hq:src[i]? with
  |none=>rw[hq]at e;cases e
  |some q=>
   rw[hq]at e;have e:Ha δ q=aA sv:=dq.inj e;cases q with
   |own=>cases e
   |acc=>cases e;have hi:=S.uni i hq;refine⟨.ref acc,by unfold X6;rw[az,hq];rfl,?_⟩;show eN K F (.ol []) (.ref acc) (if i=k then[(acc,.lst [])]else[]);rw[dG hi];exact .ol .nil
   |cap j=>
    have hi:i≠k:=λz=>by rw[z,S.acc]at hq;cases hq
    unfold Ha at e;dsimp only at e;split at e
    .rename_i d hd;cases e;obtain⟨v,h1,h2⟩:=s.at' j _ (U6 hd);refine⟨v,by unfold X6;rw[az,hq];show aA (σ[j]?).join=_;rw[h1];rfl,?_⟩;show eN K F (.fz d) v (if i=k then[(acc,.lst [])]else[]);rw[dF hi];exact .fz (Uh h2)
    .cases e
 .show(Ac (if i=k then[(acc,HO.lst [])]else[])).Nodup;by_cases hi:i=k
  .rw[dG hi];exact Ke
  .rw[dF hi];exact c7
 .obtain⟨_,rfl⟩:=mem hp;exact⟨s.le.free ha,ha,Yk⟩
 .obtain⟨z,_⟩:=mem hp;obtain⟨y,_⟩:=mem hq;exact dM (z.trans y.symm) YS
theorem yj{Z:eM K}(S:SrcOk src k)(hk:k∉g.tch)(h:Ze Z (Jg src k fi g tt te) σ H Q):
  DC src (Ql Z fi) (xG K g) (xT K tt) (xE K te) σ H Q:=by
 refine Yx h λF δ own rv δ' s e k0=>?_;refine eL e λds δ1 e1 e2=>?_;refine eL e2 λcs δ2 e3 e4=>?_;refine eK e4 λwR e5 e6=>?_;refine⟨F,δ,own,ds,δ1,s,e1,λJ H1 F1 ZA sH sF s1 yl acc ha=>?_⟩;obtain⟨F2,own2,ZG,s2⟩:=s1.caps (λrv hr=>by
  unfold L2.caps at hr;obtain⟨b,_,hb⟩:=List.mem_filterMap.mp hr;cases b with
  |own=>cases hb
  |acc=>cases hb
  |cap j=>cases hb;exact⟨j,rfl⟩) e3
 have s3:=jA S s2 ha;have NQ:(X6 src σ acc)[k]? =aA (aA (.ref acc)):=by unfold X6;rw[az,S.acc];rfl
 refine⟨λi m ZB H=>m=ds.length- i/\i<=ds.length/\ZB[k]? =aA (aA (.ref acc))/\∃F δ own,Zk F2 F/\SR (ent H1 F2:eM K) F H ZB δ own/\Yd src k g tt te (ds.drop i) δ=aA wR,
  ⟨ds.length,by simp,gq _,NQ,F2,_,_,Zk.refl F2,s3,e5⟩,?_⟩
 rintro i m UW H4 ⟨rfl,hi,WB,F4,QG,ZU,YK,s4,ef⟩;by_cases ZM:i<ds.length
 .have hd:ds[i]? =aA ds[i]:=by simp[ZM]
  obtain⟨go,yy⟩:=(yl F4 H4 (ZG.trans YK) s4.le i).1 _ hd;rw[List.drop_eq_getElem_cons ZM]at ef;refine eK ef λML e7 e8=>?_;refine eL e8 λb XR e9 SA=>?_;refine .inr ⟨go,λx H5 hy=>?_⟩;obtain⟨sm,ns,nd,hn,rp⟩:=yy x H5 hy;obtain⟨TB,sn⟩:=s4.fresh sm nd hn;refine⟨(ent H1 F2:eM K),Uy F4 ns,QG,ZU,_,ML,sn,rp,e7,λXQ ZQ s6 t6=>⟨(ent H1 F2:eM K),Uy F4 ns,ML,ZQ,b,XR,s6,e9,λH7 F7 VI gE MT s7=>?_⟩⟩;have WU:XQ[k]? =aA (aA (.ref acc)):=(t6 k hk).trans WB;cases b with
  |false=>dsimp only;rw[dF bv]at SA⊢;exact⟨ds.length- (i+1),by omega,rfl,ZM,WU,F7,_,VI,YK.trans (TB.trans MT),s7.forget (M4 src XR) (λj sv hj=>M5 hj),SA⟩
  |true=>
   dsimp only;rw[dG rfl]at SA⊢;refine eL SA λwz wT FI FH=>?_;refine eL FH λd9 i_ ug QA=>?_;refine⟨(ent H1 F2:eM K),F7,XR,VI,wz,wT,s7,FI,λy H8 F8 OF gC JO s8 r8=>?_⟩;refine Zp (s8.settleR r8) λF9 wv s9 r9=>?_;refine Y9 (s9.frzR r9 ug) λi8 OH JQ MV vC=>?_;dsimp only at QA;split at QA
   .rename_i zs hz;by_cases hzl:zs.length<cf
    .rw[dG hzl]at QA;obtain⟨v',XG,UO⟩:=MV.at' k _ hz;rw[WU]at XG;cases XG;refine Y9 (Od UO) λb vs eb R_ r'=>?_;cases eb;have mb:(acc,HO.lst vs)∈OH k:=by rw[R_];exact ac
     refine⟨acc,vs,y,rfl,rfl,(MV.ok k _ mb).2.2,by rw[<-r'.length];exact hzl,?_⟩;have s11:=MV.change (sv':=.ol (zs++[d9])) (o':=.lst (vs++[y])) (ns':=[(acc,.lst (vs++[y]))]) hz WU mb (.ol (r'.snoc vC)) (λp hp=>.inl (aj.mp hp)) Ke;exact⟨ds.length- (i+1),by omega,rfl,ZM,WU,i8,_,_,YK.trans (TB.trans (MT.trans (JO.trans (wv.trans JQ)))),s11.forget (M4 src _) (λj sv hj=>M5 hj),QA⟩
    .rw[dF hzl]at QA;cases QA
   .cases QA
 .have hz:i=ds.length:=by omega
  subst hz;rw[List.drop_length]at ef;cases ef;refine .inl ⟨(yl F4 H4 (ZG.trans YK) s4.le _).2 (bf _),?_⟩;dsimp only at e6;split at e6
  .rename_i ys M_;cases e6;obtain⟨v',XG,UO⟩:=s4.at' k _ M_;rw[WB]at XG;cases XG;refine Y9 (Od UO) λb vs eb R_ r'=>?_;cases eb;have mb:(acc,HO.lst vs)∈ZU k:=by rw[R_];exact ac
   obtain⟨o1,o2,o3⟩:=s4.ok k _ mb;refine k0 (.ref acc) H4 F4 own2 (sH.trans s4.old) (sF.trans (ZG.trans YK)) (s2.after s4.old YK s4.le λb o e=>s4.fro b o e) ⟨[(acc,.lst vs)],.ol r',Ke,λp hp=>?_,λj p q hp hq e=>?_⟩
   .obtain rfl:=aj.mp hp;exact⟨o1,s2.old.free ha,o3⟩
   .obtain rfl:=aj.mp hp;have z:=(s2.ok j q hq).2.2;have e':acc=q.1:=e;rw[<-e',ha]at z;cases z
  .cases e6
end
section
variable{K:af}
variable{Z:eM K}
@[simp]noncomputable def PQ(f:Int->Int->D):D->D->Option SV
 | .int i,.int j=>aA (.fz (f i j))
 |_,_=>aB
@[simp]noncomputable def MJ(C:Int->Int->Bool)(f:Int->Int->D):D->D->Option SV
 | .int i,.int j=>if C i j=aC then aA (.fz (f i j))else aB
 |_,_=>aB
theorem JA(hr:∀F i j,eP K F (f i j) (g i j)):Y4 Z (rI0 g) (PQ f):=by
 intro F H σ δ own x y d1 d2 sv Q s r1 r2 e k;unfold PQ at e;split at e
 .cases e;exact⟨_,_,r1.int,r2.int,k.fz s (hr _ _ _)⟩
 .cases e
theorem FV(hc:∀i j,c i j=aC->C i j)(hr:∀F i j,eP K F (f i j) (g i j)):Y4 Z (rI C g) (MJ c f):=by
 intro F H σ δ own x y d1 d2 sv Q s r1 r2 e k;unfold MJ at e;split at e
 .split at e
  .rename_i hcc;cases e;exact⟨_,_,r1.int,r2.int,hc _ _ hcc,k.fz s (hr _ _ _)⟩
  .cases e
 .cases e
@[simp]def FU:D->D->Option SV:=PQ λi j=>.int (i- j)
noncomputable def MI(i j:Int):Bool:=(decide (-(2^64)<i)&&decide (i<2^64))|| (decide (-(2^64)<j)&&decide (j<2^64))
@[simp]def AG:D->D->Option SV:=MJ MI λi j=>.int (i*j)
@[simp]noncomputable def AF(i j:Int):Bool:=decide (0<j)&&decide (j<1073741824)
@[simp]def Tw:D->D->Option SV:=MJ AF λi j=>.int (i / j)
@[simp]noncomputable def AE(i j:Int):Bool:=decide (0<j)
@[simp]def Uz:D->D->Option SV:=MJ AE λi j=>.int (i % j)
theorem rM:Y4 Z (rI0 λi j=>V.int (i- j)) FU:=JA λ_ _ _=>.int _
theorem rL:Y4 Z (rI MK λi j=>V.int (i*j)) AG:=FV (λi j h=>by
 unfold MI at h;simp only[Bool.or_eq_true,Bool.and_eq_true,decide_eq_true_eq]at h;exact h) λ_ _ _=>.int _
theorem pV:Y4 Z (rI AK λi j=>V.int (i / j)) Tw:=FV (λi j h=>by
 unfold AF at h;simp only[Bool.and_eq_true,decide_eq_true_eq]at h;exact h) λ_ _ _=>.int _
theorem rK:Y4 Z (rI (λ_ j=>0<j) λi j=>V.int (i % j)) Uz:=FV (λi j h=>by
 unfold AE at h;simp only[decide_eq_true_eq]at h;exact h) λ_ _ _=>.int _
@[simp]def ltD:D->D->Option SV:=PQ λi j=>.bl (decide (i<j))
@[simp]def gtD:D->D->Option SV:=PQ λi j=>.bl (decide (j<i))
@[simp]def geD:D->D->Option SV:=PQ λi j=>.bl (decide (j<=i))
theorem u_:Y4 Z (rI0 λi j=>V.bl (decide (i<j))) ltD:=JA λ_ _ _=>.bl _
theorem u9:Y4 Z (rI0 λi j=>V.bl (decide (j<i))) gtD:=JA λ_ _ _=>.bl _
theorem AD:Y4 Z (rI0 λi j=>V.bl (decide (j<=i))) geD:=JA λ_ _ _=>.bl _
def u8:R2:=λx y H Q=>∃i j,x= .str i/\y= .str j/\i.length+j.length<=cf/\Q (.str (i++j)) H
def za(K:af):R2:=λx y H Q=>∃l b xs zs,x= .ref l/\y= .ref b/\Bm K H l xs/\Bm K H b zs/\xs.length+zs.length<=cf/\∀p,H p=aB->Q (.ref p) (Y7 H p (.lst (xs++zs)))
theorem mX:Bo X (binaryOp .Add) (za X.K):=by
 intro eB s σ H x y v u Q I rx ry h;obtain⟨l,b,xs,zs,rfl,rfl,hH,hB,hz,q⟩:=h;cases rx;cases ry;refine Zp (I.list hH) λeC r pl z=>?_;refine Zp (I.list hB) λXF r2 vG z2=>?_;have hl:=r.length;have hl2:=r2.length;obtain⟨⟨cls,dd,data,sl⟩,ho,hc,n,hd⟩:=pl.isList;obtain⟨⟨cls2,dd2,data2,sl2⟩,XN,XA,n2,hd2⟩:=vG.isList;simp only at hc hd XA hd2;subst hc hd XA hd2;have ea:eC.toArray++XF.toArray=(eC++XF).toArray:=by simp
 refine concat_meets ⟨_,ho,rfl⟩ ⟨_,XN,rfl⟩ noFill_list_add seq_list_add PySem.F.slot_list_add PySem.F.entry_list_add (PySem.F.args_list_add_2 _ _) (list_addW l b eC.toArray XF.toArray n n2 dd dd2 sl sl2 (by rw[bq,bq];omega)) ⟨ho,XN,?_⟩;rw[ea];exact⟨.ref _,_,I.lnew (t':=s.toks) (r.append r2) (by rw[av];omega),rfl,q _ I.fresh⟩
def zZ(K:af):R2:=λx y H Q=>rI0 (λi j=>V.int (i+j)) x y H Q\/(u8 x y H Q\/za K x y H Q)
theorem mW:Bo X (binaryOp .Add) (zZ X.K):=oF.or (Xu.or mX)
@[simp]noncomputable def Uj:D->D->Option SV
 | .int i,.int j=>aA (.fz (.int (i+j)))
 | .str x,.str y=>if x.length+y.length<=cf then aA (.fz (.str (x++y)))else aB
 | .lst xs,.lst ys=>if xs.length+ys.length<=cf then aA (.ol (xs++ys))else aB
 |_,_=>aB
theorem rJ:Y4 Z (zZ K) Uj:=by
 intro F H σ δ own x y d1 d2 sv Q s r1 r2 e k;unfold Uj at e;split at e
 .cases e;exact .inl ⟨_,_,r1.int,r2.int,k.fz s (.int _)⟩
 .split at e
  .rename_i hz;cases e;exact .inr (.inl ⟨_,_,r1.str,r2.str,hz,k.fz s (.str _)⟩)
  .cases e
 .split at e
  .rename_i hz;cases e;refine Y9 (r1.lst s.le) λa vs ex ha ra=>?_;refine Y9 (r2.lst s.le) λb us ey hb rb=>?_;exact .inr (.inr ⟨a,b,vs,us,ex,ey,ha,hb,by rw[<-ra.length,<-rb.length];exact hz,λp hp=>k.lst s (ra.append rb) hp⟩)
  .cases e
 .cases e
@[simp]noncomputable def eqS:D->D->Option Bool
 | .non,.non=>aA aC
 | .non,.int _=>aA aD
 | .int _,.non=>aA aD
 | .non,.bl _=>aA aD
 | .bl _,.non=>aA aD
 | .non,.str _=>aA aD
 | .str _,.non=>aA aD
 | .int i,.int j=>aA (decide (i=j))
 | .bl i,.bl j=>aA (decide (i=j))
 | .str i,.str j=>aA (decide (i=j))
 | .int _,.str _=>aA aD
 | .str _,.int _=>aA aD
 | .bl _,.str _=>aA aD
 | .str _,.bl _=>aA aD
 |_,_=>aB
theorem yi(e:eqS d1 d2=aA b)(r1:Yv K F H d1 x)(r2:Yv K F H d2 y):scal x y=aC/\b=decide (x=y):=by
 unfold eqS at e;split at e<;> cases e
 .rw[r1.non,r2.non];exact⟨rfl,by simp⟩
 .rw[r1.non,r2.int];exact⟨rfl,by simp⟩
 .rw[r1.int,r2.non];exact⟨rfl,by simp⟩
 .rw[r1.non,r2.bl];exact⟨rfl,by simp⟩
 .rw[r1.bl,r2.non];exact⟨rfl,by simp⟩
 .rw[r1.non,r2.str];exact⟨rfl,by simp⟩
 .rw[r1.str,r2.non];exact⟨rfl,by simp⟩
 .rw[r1.int,r2.int];exact⟨rfl,by simp⟩
 .rw[r1.bl,r2.bl];exact⟨rfl,by simp⟩
 .rw[r1.str,r2.str];exact⟨rfl,by simp⟩
 .rw[r1.int,r2.str];exact⟨rfl,by simp⟩
 .rw[r1.str,r2.int];exact⟨rfl,by simp⟩
 .rw[r1.bl,r2.str];exact⟨rfl,by simp⟩
 .rw[r1.str,r2.bl];exact⟨rfl,by simp⟩
@[simp]def eqD(d1 d2:D):Option SV:=(eqS d1 d2).bind λb=>some (.fz (.bl b))
@[simp]def neD(d1 d2:D):Option SV:=(eqS d1 d2).bind λb=>some (.fz (.bl (!b)))
theorem u7:Y4 Z rEq eqD:=by intro F H σ δ own x y d1 d2 sv Q s r1 r2 e k;refine eK e λb e1 e2=>?_;cases e2;obtain⟨h1,h2⟩:=yi e1 r1 r2;subst h2;exact⟨h1,k.fz s (.bl _)⟩
theorem u6:Y4 Z rNe neD:=by intro F H σ δ own x y d1 d2 sv Q s r1 r2 e k;refine eK e λb e1 e2=>?_;cases e2;obtain⟨h1,h2⟩:=yi e1 r1 r2;subst h2;exact⟨h1,k.fz s (.bl _)⟩
@[simp]noncomputable def D.isNon:D->Bool
 | .non=>aC
 |_=>aD
theorem S0(r:Yv K F H d x):decide (x= .non)=d.isNon:=by
 obtain⟨sv,ns,e,n,sh,hp⟩:=r;subst e;cases sh with
 |fz r=>cases r<;> rfl
 |_=>rfl
@[simp]noncomputable def Hb(d1 d2:D):Option SV:=if d2.isNon=true then some (.fz (.bl d1.isNon))else none
@[simp]noncomputable def K'(d1 d2:D):Option SV:=if d2.isNon=true then some (.fz (.bl (!d1.isNon)))else none
theorem S1{d:D}(h:d.isNon=aC):d= .non:=by cases d<;> first|rfl|cases h
theorem r_:Y4 Z (λx y H Q=>y=V.non/\Q (.bl (decide (x= .non))) H) Hb:=by
 intro F H σ δ own x y d1 d2 sv Q s r1 r2 e k;unfold Hb at e;split at e
 .rename_i h;cases e;have:=S1 h;subst this;exact⟨r2.non,by rw[S0 r1];exact k.fz s (.bl _)⟩
 .cases e
theorem pU:Y4 Z (λx y H Q=>y=V.non/\Q (.bl (!decide (x= .non))) H) K':=by
 intro F H σ δ own x y d1 d2 sv Q s r1 r2 e k;unfold K' at e;split at e
 .rename_i h;cases e;have:=S1 h;subst this;exact⟨r2.non,by rw[S0 r1];exact k.fz s (.bl _)⟩
 .cases e
theorem eF.atI(r:eF K F xs vs)(e:L2.atI xs i=aA d):∃v,L2.atI vs i=aA v/\eP K F d v:=by unfold L2.atI at e⊢;refine eK e λj e1 e2=>?_;obtain⟨v,h1,h2⟩:=r.get e2;exact⟨v,di.mpr ⟨j,by rw[<-r.length];exact e1,h1⟩,h2⟩
@[simp]def ixD:D->D->Option SV
 | .lst xs,.int i=>(L2.atI xs i).bind λd=>aA (.fz d)
 | .tup xs,.int i=>(L2.atI xs i).bind λd=>aA (.fz d)
 | .str z,.int i=>if z.length<=cf then(L2.atI z.cps.toList i).bind λc=>aA (.fz (.str ⟨#[c]⟩))else aB
 |_,_=>aB
theorem AI:Y4 Z (rIx K) ixD:=by
 intro F H σ δ own x y d1 d2 sv Q s r1 r2 e k;unfold ixD at e;split at e
 .refine eK e λd e1 e2=>?_;cases e2;refine Y9 (r1.lst s.le) λa vs ex ha ra=>?_;obtain⟨v,h1,h2⟩:=ra.atI e1;exact .inl ⟨a,vs,_,v,ex,r2.int,ha,h1,k.fz s h2⟩
 .refine eK e λd e1 e2=>?_;cases e2;refine Y9 (r1.tup s.le) λa vs ex ha ra=>?_;obtain⟨v,h1,h2⟩:=ra.atI e1;exact .inr (.inl ⟨a,vs,_,v,ex,r2.int,ha,h1,k.fz s h2⟩)
 .split at e
  .rename_i hz;refine eK e λc e1 e2=>?_;cases e2;exact .inr (.inr ⟨_,_,c,r1.str,r2.int,hz,e1,k.fz s (.str _)⟩)
  .cases e
 .cases e
abbrev FO:=Yy->Option (Option Int×Yy)
def K7(Z:eM K)(f:FO):TO:=λσ H Q=>∃F δ own o δ',SR Z F H σ δ own/\f δ=aA (o,δ')/\∀H' F' own',Zk H H'->Zk F F'->SR Z F' H' σ δ' own'->Q o H'
@[simp]noncomputable def K_(fe:FE):FO:=λδ=>(fe δ).bind λp=>match p.1 with
 | .tmp (.fz (.int i))=>aA (aA i,p.2)
 |_=>aB
section
variable{H:Hp}{σ:L2.St}{Q:VK}
theorem pT(h:K7 Z (K_ fe) σ H R):yB (Ze Z fe) σ H R:=by
 refine Yx h λF δ own b δ' s e k=>?_;refine eL e λrv δ1 e1 e2=>?_;refine⟨F,δ,own,rv,δ1,s,e1,λv H1 F1 ZA sH sF s1 r1=>?_⟩;dsimp only at e2;split at e2
 .cases e2;obtain⟨ns,t⟩:=r1;cases Uh t.sh;exact⟨_,rfl,k H1 F1 ZA sH sF s1⟩
 .cases e2
@[simp]def slF(g:D->Option Int->Option Int->Option SV)(fe:FE)(fl fh:FO):FE:=λδ=>(fe δ).bind λp=>(fl p.2).bind λl=>(fh l.2).bind λh=>(rdv p.1 h.2).bind λd=>(g d l.1 h.1).bind λsv=>some (.tmp sv,h.2)
def zY(Z:eM K)(r:V->Option Int->Option Int->Hp->VK->Prop)(g:D->Option Int->Option Int->Option SV):Prop:=
 ∀(F H:Hp) (σ:L2.St) (δ:Yy) (own:Nat->Zu) (x:V) (d:D) (lo hi:Option Int) (sv:SV) (Q:VK),SR Z F H σ δ own->Yv K F H d x->g d lo hi=aA sv->Fin Z F H σ δ own sv Q->r x lo hi H Q
theorem u5(hg:zY Z r g)(h:Ze Z (slF g fe fl fh) σ H Q):tSl r (Ze Z fe) (K7 Z fl) (K7 Z fh) σ H Q:=by
 refine Yx h λF δ own rv δ' s e k=>?_;refine eL e λWI δ1 e1 e=>?_;refine eL e λlo δ2 e2 e=>?_;refine eL e λhi ZX e3 e=>?_;refine eK e λd e4 e=>?_;refine eK e λsv e5 e=>?_;cases e;refine⟨F,δ,own,WI,δ1,s,e1,λv H1 F1 ZA OB XE s1 r1=>?_⟩;refine Zp (s1.settleR r1) λDG SY SZ QI=>?_;refine⟨DG,δ1,ZA,lo,δ2,SZ,e2,λH2 F2 own2 SX ZG s2=>⟨F2,δ2,own2,hi,ZX,s2,e3,λH3 F3 ZH WH ZR s3=>?_⟩⟩;exact hg F3 H3 σ ZX ZH v d lo hi sv Q s3 (s3.rd (QI.mono (ZG.trans ZR)) e4) e5 λq H4 F4 ns SW YK s4 t4=>
  k q H4 F4 ZH (OB.trans (SX.trans (WH.trans SW))) (XE.trans (SY.trans (ZG.trans (ZR.trans YK)))) s4 ⟨ns,t4⟩
end
def S2(xs:List D)(lo hi:Option Int):List D:=(xs.drop (HT.sIx xs.length 0 lo)).take (HT.sIx xs.length xs.length hi- HT.sIx xs.length 0 lo)
theorem eF.cut(r:eF K F xs vs)(lo hi):eF K F (S2 xs lo hi) (PM vs lo hi):=by unfold S2 PM;rw[r.length];exact(r.drop _).take _
def AH:V->Option Int->Option Int->Hp->VK->Prop:=λx lo hi H Q=>∃z,x= .str z/\z.length<=cf/\Q (.str (Txt.slice z lo hi)) H
theorem pS:SlR X AH:=by
 intro eB s σ H x v vl vu lo hi sl Q I rx hs pl pu h;obtain⟨z,rfl,hz,q⟩:=h;obtain⟨t,rfl⟩:=rx;refine⟨"str",_,F.slot_str_getitem.lookup,typeIs_str _ _ _,?_⟩;have fin:∀(t':Tok) (k:Nat),EP X eB σ Q (.str (Txt.slice z lo hi) t') {s with toks:=k}:=λt' k=>⟨.str (Txt.slice z lo hi),H,I.tok _,⟨_,rfl⟩,q⟩
 cases pl with
 |none=>cases pu with
  |none=>exact wpAny_getItem_str_slice (l:=aB) (u:=aB) (st:=aB) hs rfl (post_val_or_str ⟨dm (Txt.slice_le z _ _) hz,fin⟩)
  |int j tj=>exact wpAny_getItem_str_slice (l:=aB) (u:=aA (j,tj)) (st:=aB) hs rfl (post_val_or_str ⟨dm (Txt.slice_le z _ _) hz,fin⟩)
 |int i ti=>cases pu with
  |none=>exact wpAny_getItem_str_slice (l:=aA (i,ti)) (u:=aB) (st:=aB) hs rfl (post_val_or_str ⟨dm (Txt.slice_le z _ _) hz,fin⟩)
  |int j tj=>exact wpAny_getItem_str_slice (l:=aA (i,ti)) (u:=aA (j,tj)) (st:=aB) hs rfl (post_val_or_str ⟨dm (Txt.slice_le z _ _) hz,fin⟩)
@[simp]def slD:D->Option Int->Option Int->Option SV
 | .lst xs,lo,hi=>aA (.ol (S2 xs lo hi))
 | .str z,lo,hi=>if z.length<=cf then aA (.fz (.str (Txt.slice z lo hi)))else aB
 |_,_,_=>aB
theorem u4:zY Z (λx lo hi H Q=>A_ K x lo hi H Q\/AH x lo hi H Q) slD:=by
 intro F H σ δ own x d lo hi sv Q s r1 e k;unfold slD at e;split at e
 .cases e;refine Y9 (r1.lst s.le) λa vs ex ha ra=>?_;exact .inl ⟨a,vs,ex,ha,λp hp=>k.lst s (ra.cut _ _) hp⟩
 .split at e
  .rename_i hz;cases e;exact .inr ⟨_,r1.str,hz,k.fz s (.str _)⟩
  .cases e
 .cases e
end
section
variable{X:Cx}
def Ite(K:af)(a:au):It:=
 ⟨λi H=>∃xs x,Bm K H a xs/\xs[i]? =aA x,λi H x H'=>∃p v,x= .ref p/\H p=aB/\H'=Y7 H p (.tup [.int (i:Nat),v])/\∀xs,Bm K H a xs->xs[i]? =aA v,λi H=>∃xs,Bm K H a xs/\xs.length<=i⟩
theorem eG.turnedT{σ:L2.St}{T:au}(I:eG X eB σ H s)(k:∀b o,b≠e->b≠it->s.heap.get? b=aA o->h'.get? b=aA o)(f1:Jf X eB H e)(f2:Jf X eB H it)(hT:T=s.heap.objs.size)(ht:IsTup h' T eC.toArray)(rv:Z5 xs eC)(hz:xs.length<=sizeLine)(he:∃o,h'.get? e=aA o)(hi:∃o,h'.get? it=aA o):
  eG X eB σ (Y7 H T (.tup xs)) {s with heap:=h',toks:=t'}:=by
 have NR:H T=aB:=by rw[hT];exact I.hok.fresh (bf _)
 have neT:∀b o,s.heap.get? b=aA o->b≠T:=λb o q=>by rw[hT];exact cj (bj q)
 have MW:∀b u,H b=aA u->b≠e/\b≠it:=λb u q=>⟨(λz=>by rw[z,f1.1]at q;cases q),(λz=>by rw[z,f2.1]at q;cases q)⟩
 refine I.step (g':=s.gens) (d':=s.drawn) (ch:=[e,it]) (λb hb=>?_) (λb o _ _ hc q _=>k b o (λz=>hc (by simp[z])) (λz=>hc (by simp[z])) q)
  (λb o _ _ hc q _=>⟨o.slots,k b o (λz=>hc (by simp[z])) (λz=>hc (by simp[z])) q⟩) (λb o _ q n=>by rw[Zv (neT b o q)];exact n)
  (λb o hc q=>⟨o,k b o (λz=>hc (by simp[z])) (λz=>hc (by simp[z])) q⟩) (λb ys q=>by rw[Zv (Wa q NR)];exact q) (λb o u q=>by rw[Zv (Wa q NR)];exact q)
  (λb ps q=>⟨#[],by rw[Zv (Wa q NR),q];simp⟩) (λm hm=>?_) (λb u q=>?_) I.bare
 .have ZZ:b=e\/b=it:=by simpa using hb
  rcases ZZ with z|z
  .subst z;refine Qi f1 λ_ a1 _ a3 a4 a5=>?_;exact⟨a3,a1,a4,a5⟩
  .subst z;refine Qi f2 λ_ a1 _ a3 a4 a5=>?_;exact⟨a3,a1,a4,a5⟩
 .obtain⟨o,es,ep,ho,r⟩:=hm;exact⟨o,es,ep,k _ o (Ne.symm f1.2.1) (Ne.symm f2.2.1) ho,r⟩
 .by_cases hb:b=T
  .subst hb;rw[Yk]at q;cases q;exact⟨hz,eC,rv,ht⟩
  .rw[Zv hb]at q;refine(I.hok b u q).stay (λc v hc z=>?_) (λc z=>by rw[Zv (Wa z NR)];exact z) (λc ys z=>by rw[Zv (Wa z NR)];exact z) λc o z=>by rw[Zv (Wa z NR)];exact z
   rcases hc with y|y
   .rw[y]at z⊢;exact k _ _ (MW b u q).1 (MW b u q).2 z
   .exact k _ _ (MW c _ y).1 (MW c _ y).2 z
theorem i5{P:cg}{w:dn}{K:af}{WC:List da}{kk:Nat}{XT:Pos}(a e it:au)(UT:e≠it):Turn P w K (.Tuple WC kk XT) (Ite K a) [e,it] e (λi h=>(∃old,IsEnum h e it ((i:Nat):Int) old)/\h.IsListIter it a i)where
 mem:=by simp
 obj:=λi h st b hb=>by
  have ZZ:b=e\/b=it:=by simpa using hb
  rcases ZZ with z|z
  .subst z;obtain⟨old,q⟩:=st.1;exact⟨_,q,λv y=>by
    have y':Data.fields _=Data.cell v:=y;cases y'⟩
  .subst z;refine Zp st.2 λo q c d=>?_;exact⟨o,q,λv y=>by rw[d]at y;cases y⟩
 keep:=λi h h' st k=>⟨let⟨old,q⟩:=st.1;⟨old,k e (by simp) _ q⟩,st.2.at λo q=>k it (by simp) o q⟩
 item:=by
  intro X hP hw hK hc i eB s σ H E I hf st hg;subst hP hw hK;refine W1 hg λxs x hq hx=>?_;refine Zp (I.list hq) λeC rv p hz=>?_;obtain⟨u,hu,ru⟩:=rv.get hx;obtain⟨⟨old,he⟩,YF⟩:=st;have hl:s.heap.IsList a eC.toArray:=p.isList;have ai:a≠it:=λz=>by refine Zp YF λo1 q1 c1 _=>?_;refine Zp hl λo2 q2 c2 _=>?_;rw[z,q1]at q2;cases q2;rw[c1]at c2;exact dM c2 (by decide)
  have ae:e∉[it,a]:=λz=>by
   have z':e=it\/e=a:=by simpa using z
   rcases z' with z|z
   .exact UT z
   .refine Zp hl λo2 q2 c2 _=>?_;rw[<-z,he]at q2;cases q2;exact dM (show Value.type "enumerate"=Value.type "list"from c2) (by decide)
  have D:=Draws.list (prog:=X.prog) (w:=X.w) (A:=X.A.in1) (by first|exact I.ok.hd hc| (rw[show X.A.in1.handled=X.A.handled from rfl];exact I.ok.hd hc)) it a ai eC.toArray;have ZM:i<eC.toArray.size:=by have:=(aw.mp hu).1;rw[bq];exact this
  refine wpAny_pyNext_enum_itemD D he ⟨YF,hl⟩ ZM UT ae λy h' tk hy RK YD hT hsz hk=>⟨.ref s.heap.objs.size,rfl,?_⟩
  refine wpAny_letOwnedTupleGo_enum RK λh2 X' XX=>?_;have VN:eC.toArray[i]? =aA y:=hy;have ey:y=u:=by
   have:eC[i]? =aA y:=by simpa using VN
   rw[hu]at this;cases this;rfl
  subst ey;have kk:∀b o,b≠e->b≠it->s.heap.get? b=aA o->h2.get? b=aA o:=λb o h1 h3 q=>(XX.2 b h1).trans (hk b o h1 h3 q);have neT:s.heap.objs.size≠e:=Nat.ne_of_gt (bj he);have I2:=I.turnedT (h':=h2) (t':=tk+1) (e:=e) (it:=it) (T:=s.heap.objs.size) (xs:=[.int (i:Nat),x]) (eC:=[.int i tk,y]) kk (hf e (by simp)) (hf it (by simp)) rfl ⟨_,(XX.2 _ neT).trans hT,rfl,_,rfl⟩ (.cons ⟨tk,rfl⟩ (.cons ru .nil)) (by show 2<=sizeLine;decide)
   ⟨_,X'⟩ (let⟨o,q,_⟩:=YD.1;⟨o,(XX.2 it (Ne.symm UT)).trans q⟩)
  refine⟨.ref s.heap.objs.size,_,I2,rfl,⟨s.heap.objs.size,x,rfl,I.hok.fresh (bf _),rfl,λys IP=>by rw[I.list_inj IP hq];exact hx⟩,⟨⟨_,X'⟩,YD.1.at λo q=>(XX.2 it (Ne.symm UT)).trans q⟩,λb hb=>?_⟩;rw[Zv λz=>?_]
  .exact(hf b hb).1
  .have ZZ:b=e\/b=it:=by simpa using hb
   rcases ZZ with y|y
   .rw[<-z,y]at neT;exact neT rfl
   .obtain⟨o,q,_⟩:=YF;rw[y]at z;exact dM (bj q) (by rw[z];exact Nat.lt_irrefl _)
 done:=by intro X hP hw hK hc i eB s σ H E I hf st hg;subst hP hw hK;obtain⟨xs,hq,hx⟩:=hg;refine Zp (I.list hq) λeC rv p hz=>?_;obtain⟨⟨old,he⟩,YF⟩:=st;refine Qi (hf it (by simp)) λf0 f1 f2 f3 f4 f5=>?_;have hl:=rv.length;exact wpAny_pyNext_enum_end (I.ok.hd hc) he YF p.isList (by simp;omega) λh' eb=>⟨rfl,I.turned (t':=s.toks) (λb o hb q=>eb b o hb q) f0 f1 f3 f4 f5⟩
 self:=λ_ _ _ _ _ st h=>let⟨⟨old,he⟩,_⟩:=st;wpAny_pyIter_enum he h
def zX(K:af)(ta:TA):TI:=λσ H R=>ta σ H λvs H1=>∃a xs,vs=[.ref a]/\Bm K H1 a xs/\R (Ite K a) H1
theorem mV(hg:Gl X "enumerate")(hm:X.mg "enumerate"=aB)(ha:PA X [l] ta)(hs:‹bd [l] X.env=[(aD,ip l X.env)]›):
  PI X (.Tuple WC kk XT) (.Call (.Name "enumerate" p) [l] [] pos) (zX X.K ta):=by
 intro eB s σ H R I h;refine Call_ (O9 I hg hm boot_enumerate (PyProof.Rows.callWith_type1 (Wq (ha pos eB s σ H _ I h) λus s1 ⟨vs,H1,I1,r1,q1⟩=>?_) hs rfl));refine Y9 q1 λa xs e hq q=>?_;subst e;obtain⟨u,rfl,ru⟩:=Uu r1;cases ru;refine Zp (I1.list hq) λeC rv p hz=>?_;refine call_enumerate_list p.isList λh' he YF hsz hk=>wpAny_pyIter_enum he ?_;have I2:eG X eB σ H1 {s1 with heap:=h'}:=I1.kept (t':=s1.toks) hk;refine⟨s1.heap.objs.size+1,[s1.heap.objs.size+1,s1.heap.objs.size],_,_,H1,rfl,I2,i5 a _ _ (Nat.succ_ne_self _),⟨⟨.none,by simpa using he⟩,YF⟩,λb hb=>?_,q⟩;have ZZ:b=s1.heap.objs.size+1\/b=s1.heap.objs.size:=by simpa using hb
 rcases ZZ with z|z
 .subst z;exact I1.fpOk (Nat.le_succ _) (I1.hok.fresh (Nat.le_succ _))
 .subst z;exact I1.fpOk (bf _) (I1.hok.fresh (bf _))
end
section
variable{K:af}
noncomputable def Qb(xs:List D):List D:=xs.zipIdx.map λp=>.tup [.int (p.2:Nat),p.1]
theorem K8{d:D}(h:(Qb xs)[i]? =aA d):∃x,xs[i]? =aA x/\d= .tup [.int (i:Nat),x]:=by
 unfold Qb at h;rw[az,List.getElem?_zipIdx]at h;cases e:xs[i]? with
 |none=>rw[e]at h;cases h
 |some x=>rw[e]at h;cases h;exact⟨x,rfl,by simp⟩
theorem K9(xs):(Qb xs).length=xs.length:=by unfold Qb;rw[ah,List.length_zipIdx]
theorem S3(h:Bm K F a vs)(r:eF K F xs vs):Bb K (Ite K a) F (Qb xs):=λF' H sF sH i=>by
 have q:Bm K H a vs:=Wn (sF.trans sH) h;refine⟨λd hd=>?_,λhl=>⟨vs,q,by rw[<-r.length,<-K9];exact hl⟩⟩;obtain⟨x,hx,rfl⟩:=K8 hd;obtain⟨v,h1,h2⟩:=r.get hx;refine⟨⟨vs,v,q,h1⟩,λy H' ZE=>?_⟩;obtain⟨p,w,e1,e2,e3,e4⟩:=ZE;subst e1 e3;have e5:=e4 vs q;rw[h1]at e5;cases e5;have hp:F' p=aB:=sH.free e2;have sm:Zk F' (Uy F' [(p,.tup [.int (i:Nat),v])]):=Q4 λz hz=>by obtain rfl:=aj.mp hz;exact hp
 refine⟨Ug e2,[(p,.tup [.int (i:Nat),v])],Ke,λz hz=>?_,.tup Yk (.cons (.int _) (.cons (h2.mono (sF.trans sm)) .nil))⟩;obtain rfl:=aj.mp hz;exact⟨e2,Yk⟩
@[simp]def zW(fd:FD):FD:=λδ=>(fd δ).bind λp=>match p.1 with
 | [.lst xs]=>aA (Qb xs,p.2)
 |_=>aB
theorem mT{Z:eM K}(h:Ql Z (zW fd) σ H R):zX K (Q5 Z fd) σ H R:=by
 refine Yx h λF δ own ds δ' s e k=>?_;refine eL e λQZ δ1 e1 e2=>?_;refine⟨F,δ,own,QZ,δ1,s,e1,λvs H1 F1 ZA sH sF s1 r1=>?_⟩;dsimp only at e2;split at e2
 .rename_i xs;cases e2;cases r1 with
  |cons h t=>
   cases t;cases h with
   |lst h _ r=>exact⟨_,_,rfl,Wn s1.le h,k _ H1 F1 ZA sH sF s1 (S3 h r)⟩
 .cases e2
@[simp]noncomputable def D.ty:D->String
 | .str _=>"str"
 | .int _=>"int"
 | .lst _=>"list"
 | .dK _ _=>"dict"
 | .dT _ _=>"dict"
 |_=>"?"
@[simp]noncomputable def FR(T:String)(d:D):Bool:=T==d.ty&&(T=="str" ||T=="list" ||T=="dict")
theorem rq(le:Zk F H)(r:Yv K F H d x)(h:FR T d=aC):tyV K T x H:=by
 unfold FR at h;simp only[Bool.and_eq_true,beq_iff_eq]at h;obtain⟨h1,h2⟩:=h;subst h1;cases d with
 |str y=>rw[r.str];rfl
 |lst xs=>refine Y9 (r.lst le) λa vs e ha _=>?_;subst e;exact .inl ⟨rfl,vs,ha⟩
 |dK ks vs=>obtain⟨a,kvs,e,⟨ep,ha⟩,_⟩:=r.dK le;subst e;exact .inr (.inr (.inl ⟨rfl,.inl ⟨kvs,ep,ha⟩⟩))
 |dT ks vs=>obtain⟨a,kvs,e,⟨ep,bs,ha⟩,_⟩:=r.dT le;subst e;exact .inr (.inr (.inl ⟨rfl,.inr ⟨kvs,ep,bs,ha⟩⟩))
 |non=>exact dM (show("?"=="str" || "?"=="list" || "?"=="dict")=aC from h2) (by decide)
 |bl b=>exact dM (show("?"=="str" || "?"=="list" || "?"=="dict")=aC from h2) (by decide)
 |int i=>exact dM (show("int"=="str" || "int"=="list" || "int"=="dict")=aC from h2) (by decide)
 |tup xs=>exact dM (show("?"=="str" || "?"=="list" || "?"=="dict")=aC from h2) (by decide)
 |exc C ks vs=>exact dM (show("?"=="str" || "?"=="list" || "?"=="dict")=aC from h2) (by decide)
 |dX ks vs=>exact dM (show("?"=="str" || "?"=="list" || "?"=="dict")=aC from h2) (by decide)
@[simp]noncomputable def strs?:List D->Option (List Str)
 | []=>aA []
 | .str x::r=>(strs? r).bind λt=>aA (x::t)
 |_=>aB
variable{Z:eM K}
@[simp]noncomputable def Ew:List D->Option SV
 | [.lst xs]=>aA (.fz (.int (xs.length:Nat)))
 | [.tup xs]=>aA (.fz (.int (xs.length:Nat)))
 | [.str x]=>if x.length<=cf then aA (.fz (.int (x.length:Nat)))else aB
 |_=>aB
theorem KZ:Oc Z (λxs H Q=>(∃p ys,xs=[V.ref p]/\(Bm K H p ys\/Mx K H p ys)/\Q (.int ys.length) H)\/(∃z,xs=[V.str z]/\z.length<=cf/\Q (.int z.length) H)) Ew:=by
 intro F H σ δ own vs ds sv Q s r e k;unfold Ew at e;split at e
 .cases e;cases r with
  |cons h t=>cases t;refine Y9 (h.lst s.le) λa us ex ha ra=>?_;subst ex;exact .inl ⟨a,us,rfl,.inl ha,by rw[<-ra.length];exact k.fz s (.int _)⟩
 .cases e;cases r with
  |cons h t=>cases t;refine Y9 (h.tup s.le) λa us ex ha ra=>?_;subst ex;exact .inl ⟨a,us,rfl,.inr ha,by rw[<-ra.length];exact k.fz s (.int _)⟩
 .split at e
  .rename_i hz;cases e;cases r with
   |cons h t=>cases t;exact .inr ⟨_,by rw[h.str],hz,k.fz s (.int _)⟩
  .cases e
 .cases e
@[simp]noncomputable def Ex:List D->Option SV
 | [.lst xs]=>aA (.fz (.tup xs))
 |_=>aB
theorem mS:Oc Z (λxs H Q=>∃p ys,xs=[V.ref p]/\((Bm K H p ys/\∀l,H l=aB->Q (.ref l) (Y7 H l (.tup ys)))\/(Mx K H p ys/\Q (.ref p) H))) Ex:=by
 intro F H σ δ own vs ds sv Q s r e k;unfold Ex at e;split at e
 .cases e;cases r with
  |cons h t=>cases t;refine Y9 (h.lst s.le) λa us ex ha ra=>?_;subst ex;exact⟨a,us,rfl,.inl ⟨ha,λl hl=>k.tup s ra hl⟩⟩
 .cases e
@[simp]noncomputable def MH:List D->Option SV
 | [.int i]=>aA (.fz (.int i))
 | [.bl b]=>aA (.fz (.int (if b then 1 else 0)))
 |_=>aB
theorem rm:Oc Z (λxs H Q=>(∃i,xs=[V.int i]/\Q (.int i) H)\/∃k,xs=[V.bl k]/\Q (.int (if k then 1 else 0)) H) MH:=by
 intro F H σ δ own vs ds sv Q s r e k;unfold MH at e;split at e
 .cases e;cases r with
  |cons h t=>cases t;exact .inl ⟨_,by rw[h.int],k.fz s (.int _)⟩
 .cases e;cases r with
  |cons h t=>cases t;exact .inr ⟨_,by rw[h.bl],k.fz s (.int _)⟩
 .cases e
section
variable{X:Cx}{Z:eM X.K}{a b c:da}{fa fb fc:FE}{pos:Pos}
theorem Zb(i)(hN:‹X.N[i]? =aA x›)(hv:‹Xp X.env.scope x›)(hd:‹(x==("__debug__":Str))=aD›)(ZS:‹(x==("__classdict__":Str))=aD›):PE X (.Name x pos) (Ze Z (Za i)):=(Oa hN hv hd ZS).imp λ_ _ _ h=>rY h
theorem Zq:PE X (.Constant (.int i) j pos) (Ze Z (Zf (.int i))):=oZ.imp λ_ _ _ h=>Md (λ_=>.int _) h
theorem Af:PE X (.Constant (.bool i) j pos) (Ze Z (Zf (.bl i))):=qJ.imp λ_ _ _ h=>Md (λ_=>.bl _) h
theorem Tx:PE X (.Constant .none j pos) (Ze Z (Zf .non)):=oY.imp λ_ _ _ h=>Md (λ_=>.non) h
theorem Jr:PE X (.Constant (.str i) j pos) (Ze Z (Zf (.str i))):=yz.imp λ_ _ _ h=>Md (λ_=>.str _) h
theorem mR(hm:X.mg x=aA (.str y t))(hg:‹Gl X x›)(hd:‹(x==("__debug__":Str))=aD›):PE X (.Name x pos) (Ze Z (Zf (.str y))):=
 (lH (v:=.str y) hg hm ⟨t,rfl⟩ hd).imp λ_ _ _ h=>Md (λ_=>.str _) h
theorem S4(ho:Bo X (binaryOp op) r)(hp:Y4 Z r g)(ha:PE X a (Ze Z fa))(hb:PE X b (Ze Z fb)):PE X (.BinOp a op b pos) (Ze Z (Zj g fa fb)):=(qF ho ha hb).imp λ_ _ _ h=>K5 hp h
theorem Qc(ha:PE X a (Ze Z fa))(hb:PE X b (Ze Z fb)):PE X (.BinOp a .Add b pos) (Ze Z (Zj Uj fa fb)):=S4 mW rJ ha hb
theorem rj(ha:PE X a (Ze Z fa))(hb:PE X b (Ze Z fb)):PE X (.BinOp a .Sub b pos) (Ze Z (Zj FU fa fb)):=S4 oE rM ha hb
theorem M6(ha:PE X a (Ze Z fa))(hb:PE X b (Ze Z fb)):PE X (.BinOp a .FloorDiv b pos) (Ze Z (Zj Tw fa fb)):=S4 lB pV ha hb
theorem Qd(ha:PE X a (Ze Z fa))(hb:PE X b (Ze Z fb)):PE X (.BinOp a .Mod b pos) (Ze Z (Zj Uz fa fb)):=S4 ox rK ha hb
theorem DA(ho:Bo X (ik op) r)(hp:Y4 Z r g)(ha:PE X a (Ze Z fa))(hb:PE X b (Ze Z fb))(hm:behindInMarks op b=aD):PE X (.Compare a [op] [b] pos) (Ze Z (Zj g fa fb)):=(m_ ho ha hb hm).imp λ_ _ _ h=>K5 hp h
theorem Re(ho:Bo X (ik op) r)(hp:Y4 Z r g)(ha:PE X a (Ze Z fa))(hb:PE X b (Ze Z fb))(hm:behindInMarks op b=aD):PT X (.Compare a [op] [b] pos) (Yj Z (Yg (Zj g fa fb))):=
 (m9 ho ha hb hm).imp λσ H Q h=>by refine Yx (Nx h) λF δ own rv δ' s e k=>?_;exact K5 hp ⟨F,δ,own,rv,δ',s,e,k⟩
theorem tP(ha:PE X a (Ze Z fa))(hb:PE X b (Ze Z fb)):PE X (.Compare a [.GtE] [b] pos) (Ze Z (Zj geD fa fb)):=DA yE AD ha hb (B4 _)
theorem tO(ha:PE X a (Ze Z fa))(hb:PE X b (Ze Z fb)):PT X (.Compare a [.Lt] [b] pos) (Yj Z (Yg (Zj ltD fa fb))):=Re qC u_ ha hb (B4 _)
theorem FQ(ha:PE X a (Ze Z fa))(hb:PE X b (Ze Z fb)):PT X (.Compare a [.Gt] [b] pos) (Yj Z (Yg (Zj gtD fa fb))):=Re qB u9 ha hb (B4 _)
theorem tN(ha:PE X a (Ze Z fa))(hb:PE X b (Ze Z fb)):PT X (.Compare a [.GtE] [b] pos) (Yj Z (Yg (Zj geD fa fb))):=Re yE AD ha hb (B4 _)
theorem KY(ha:PE X a (Ze Z fa))(hb:PE X b (Ze Z fb)):PT X (.Compare a [.Is] [b] pos) (Yj Z (Yg (Zj Hb fa fb))):=Re ot r_ ha hb (B4 _)
theorem pR(ha:PE X a (Ze Z fa))(hb:PE X b (Ze Z fb)):PT X (.Compare a [.IsNot] [b] pos) (Yj Z (Yg (Zj K' fa fb))):=Re lA pU ha hb (B4 _)
theorem Hc(ha:PT X a (Yj Z f)):PW X (.BoolOp .And [a] pos) (Yj Z f):=lG ha
theorem rh(ha:PT X a (Yj Z f)):PW X (.BoolOp .Or [a] pos) (Yj Z f):=oV ha
theorem E_{rest}(ha:PT X a (Yj Z f))(hb:PW X (.BoolOp .And (b::rest) pos) (Yj Z g)):PW X (.BoolOp .And (a::b::rest) pos) (Yj Z (X8 f g)):=(oU ha hb).imp λ_ _ _ h=>rV h
theorem tM{rest}(ha:PT X a (Yj Z f))(hb:PW X (.BoolOp .Or (b::rest) pos) (Yj Z g)):PW X (.BoolOp .Or (a::b::rest) pos) (Yj Z (orF f g)):=(qI ha hb).imp λ_ _ _ h=>tF h
theorem EZ(ha:PT X a (Yj Z f)):PT X (.UnaryOp .Not a pos) (Yj Z (PJ f)):=(oS ha).imp λ_ _ _ h=>rT h
theorem KW(h:PE X a (Ze Z fa))(he:‹∀whole,isTrue a X.env whole=(do let v<-whole;standAt a.pos;holding [v] (truthy v))›):PT X a (Yj Z (Yg fa)):=(oW h he).imp λ_ _ _ h=>lO h
theorem zV(h:PE X a (Ze Z fa)):PE X (.BoolOp op [a] pos) (Ze Z fa):=oP h
theorem rg{rest}(ha:PE X a (Ze Z fa))(hb:PE X (.BoolOp .And (b::rest) pos) (Ze Z fb)):PE X (.BoolOp .And (a::b::rest) pos) (Ze Z (FY fa fb)):=(oO ha hb).imp λ_ _ _ h=>pc h
theorem tL{rest}(ha:PE X a (Ze Z fa))(hb:PE X (.BoolOp .Or (b::rest) pos) (Ze Z fb)):PE X (.BoolOp .Or (a::b::rest) pos) (Ze Z (orV fa fb)):=(qH ha hb).imp λ_ _ _ h=>rS h
theorem EB(hc:PT X c (Yj Z t))(ha:PE X a (Ze Z fa))(hb:PE X b (Ze Z fb)):PE X (.IfExp c a b pos) (Ze Z (ifF t fa fb)):=(jT hc ha hb).imp λ_ _ _ h=>tD h
theorem Z4:PA X [] (Uv Z Zi):=Cv.imp λ_ _ _ h=>jE h
theorem Zh(ha:PE X a (Ze Z fa))(hr:PA X es (Uv Z fr))(hs:‹bd (a::es) X.env=(aD,ip a X.env)::bd es X.env›):PA X (a::es) (Uv Z (Zc fa fr)):=(B5 ha hr hs).imp λ_ _ _ h=>iH h
theorem Yr:PA X [] (Q5 Z Zt):=Cv.imp λ_ _ _ h=>K6 h
theorem Z1(ha:PE X a (Ze Z fa))(hr:PA X es (Q5 Z fr))(hs:‹bd (a::es) X.env=(aD,ip a X.env)::bd es X.env›):PA X (a::es) (Q5 Z (Zl fa fr)):=(B5 ha hr hs).imp λ_ _ _ h=>Er h
theorem O0(h:PA X es (Q5 Z fd)):PE X (.Tuple es k pos) (Ze Z (tupF fd)):=(oq h).imp λ_ _ _ h=>rX h
theorem Jh(h:PA X es (Q5 Z fd)):PE X (.List es pos) (Ze Z (Ba fd)):=(Xw h).imp λ_ _ _ h=>rW h
theorem yu(ha:PE X a (Ze Z fa)):PO X (aA a) (K7 Z (K_ fa)):=λeB s σ H Q I h=>m8 ha eB s σ H Q I (pT h)
theorem tK{lo:Option da}(ha:PE X a (Ze Z fa))(hl:PO X lo (K7 Z fl))(hh:PO X hi (K7 Z fh)):PE X (.Subscript a (.Slice lo hi aB p2) pos) (Ze Z (slF slD fa fl fh)):=
 (jf (m4.or pS) ha hl hh).imp λ_ _ _ h=>u5 u4 h
theorem oC{p}(F:FnOk X.prog X.w X.K X.mg X.base Ot k f fd ps (Wh X.K n g))(hr:eT k X.A)(hm:X.mg x=aA (.ref f))(hk:PySem.W.keepIn X.K (.ref f)=aC)(hb:Tu X.K fd ps [])(ha:PA X (a::es) (Uv Z fr))(hg:‹Gl X x›)(YO:‹(x==("__debug__":Str))=aD›)(he:‹bd (a::es) X.env=(aD,ip a X.env)::bd es X.env›)(ZI:‹(gd pos (bd es X.env)).any (·.1)=aD›):
  PE X (.Call (.Name x p) (a::es) [] pos) (Ze Z (Z8 n g fr)):=(wA F hr hg hm hk hb .nil zx ha YO he ZI).imp λ_ _ _ h=>yk h
theorem Ao{id}{p}(hc:Jq X (.builtin id) r)(hp:Oc Z r g)(hm:X.mg x=aB)(hv:bootBuiltins x=aA (.builtin id))(ha:PA X (a::es) (Uv Z fr))(hg:‹Gl X x›)(hn:‹x≠"__name__"›)(YO:‹(x==("__debug__":Str))=aD›)(he:‹bd (a::es) X.env=(aD,ip a X.env)::bd es X.env›)(ZI:‹(gd pos (bd es X.env)).any (·.1)=aD›):PE X (.Call (.Name x p) (a::es) [] pos) (Ze Z (Yq g fr)):=(jg hc hg hm hv ha hn YO he ZI).imp λ_ _ _ h=>Ep hp h
theorem Mf{p}(hc:Jq X (.type T) r)(hp:Oc Z r g)(hm:X.mg x=aB)(hv:bootBuiltins x=aA (.type T))(ha:PA X (a::es) (Uv Z fr))(hg:‹Gl X x›)(hn:‹x≠"__name__"›)(YO:‹(x==("__debug__":Str))=aD›)(he:‹bd (a::es) X.env=(aD,ip a X.env)::bd es X.env›)(ZI:‹(gd pos (bd es X.env)).any (·.1)=aD›):PE X (.Call (.Name x p) (a::es) [] pos) (Ze Z (Yq g fr)):=(iP hc hg hm hv ha hn YO he ZI).imp λ_ _ _ h=>Ep hp h
theorem La{p}(hm:X.mg "len"=aB)(ha:PE X a (Ze Z fa))(hg:‹Gl X "len"›)(he:‹bd [a] X.env=(aD,ip a X.env)::bd [] X.env›)(ZI:‹(gd pos (bd [] X.env)).any (·.1)=aD›):PE X (.Call (.Name "len" p) [a] [] pos) (Ze Z (Yq Ew (Zc fa Zi))):=
 Ao (Ma.or Mb) KZ hm PySem.boot_len (Zh ha Z4 he) hg (by decide) (by decide) he ZI
theorem xy{p}(hm:X.mg "tuple"=aB)(ha:PE X a (Ze Z fa))(hg:‹Gl X "tuple"›)(he:‹bd [a] X.env=(aD,ip a X.env)::bd [] X.env›)(ZI:‹(gd pos (bd [] X.env)).any (·.1)=aD›):PE X (.Call (.Name "tuple" p) [a] [] pos) (Ze Z (Yq Ex (Zc fa Zi))):=
 Mf Kd mS hm boot_tuple (Zh ha Z4 he) hg (by decide) (by decide) he ZI
theorem yt{p}(hm:X.mg "int"=aB)(ha:PE X a (Ze Z fa))(hg:‹Gl X "int"›)(he:‹bd [a] X.env=(aD,ip a X.env)::bd [] X.env›)(ZI:‹(gd pos (bd [] X.env)).any (·.1)=aD›):PE X (.Call (.Name "int" p) [a] [] pos) (Ze Z (Yq MH (Zc fa Zi))):=
 Mf iR rm hm boot_int (Zh ha Z4 he) hg (by decide) (by decide) he ZI
theorem Zw(i)(hN:X.N.Nodup)(hi:‹X.N[i]? =aA x›)(hx:‹Loc X.env.scope x›)(hf:‹X.fn x=aC\/X.env.scope.names.lookup x=aA .local›):PG X (.Name x pos) (Oz Z (Zd i)):=(lD hN hi hx hf).imp λ_ _ _ _ h=>lN h
theorem Oe:PGs X [] (C0 Z Y1):=lC.imp λ_ _ _ _ h=>pZ h
theorem Yw(h1:PG X a (Oz Z g))(h2:PGs X es (C0 Z r))(hs:‹(assignEach (a::es) X.env).map (·.2)=assign a X.env::(assignEach es X.env).map (·.2)›):PGs X (a::es) (C0 Z (Zn g r)):=(jR h1 h2 hs).imp λ_ _ _ _ h=>lM h
theorem C1{k:Nat}(hc:X.calm=aC)(h:PGs X es (C0 Z g))(hn:‹(assignEach es X.env).length=n›)(OW:‹(assignEach es X.env).findIdx? (·.1)=aB›):PG X (.Tuple es k pos) (Oz Z (Yz n g)):=(oJ hc h hn OW).imp λ_ _ _ _ h=>pY h
theorem Mg{tg}{p}(hm:X.mg "range"=aB)(ha:PE X a (Ze Z fa))(hg:‹Gl X "range"›)(hs:‹bd [a] X.env=[(aD,ip a X.env)]›):PI X tg (.Call (.Name "range" p) [a] [] pos) (Ql Z (Et (Zc fa Zi))):=(iU hg hm (Zh ha Z4 hs) hs).imp λ_ _ _ h=>pX h
theorem Lb{src:List BSrc}(kind:scope.kind= .function)(nocell:(scope.names.all λy=>!(y.2== .cell))=aC)(names:(scope.names.all λy=>!(y.2== .local)|| (scope.names.lookup y.1==aA .local))=aC)(free:(scope.names.all λy=>!(y.2== .free)|| (X.env.kindOf y.1==aA .cell)|| (X.env.kindOf y.1==aA .free))=aC)(len:src.length=N'.length)(cap:((c6 src.length).all λk=>match src[k]?,N'[k]? with
   |some (.cap j),aA x=>(X.N[j]? ==aA x)&&((X.env.kindOf x==aA .cell)|| (X.env.kindOf x==aA .free))&&(scope.names.lookup x==aA .free)
   |some .acc,aA x=>scope.names.lookup x==aB
   |_,_=>aC)=aC):CompScope X N' scope src:=by
 have NZ:∀(k:Nat) (q:BSrc) (x:Str),src[k]? =aA q->N'[k]? =aA x->(match aA q,aA x with
   |some (.cap j),aA x=>(X.N[j]? ==aA x)&&((X.env.kindOf x==aA .cell)|| (X.env.kindOf x==aA .free))&&(scope.names.lookup x==aA .free)
   |some .acc,aA x=>scope.names.lookup x==aB
   |_,_=>aC)=aC:=λk q x h1 h2=>by
  have hk:k<src.length:=(aw.mp h1).1;have:=List.all_eq_true.mp cap k (c8.mpr hk);rw[h1,h2]at this;exact this
 refine⟨kind,λy hy e=>?_,λy hy e=>?_,λy hy e=>?_,len,λk j x h1 h2=>?_,λk x h1 h2=>?_⟩
 .have:=List.all_eq_true.mp nocell y hy;rw[e]at this;cases this
 .have:=List.all_eq_true.mp names y hy;rw[e]at this;simpa using this
 .have:=List.all_eq_true.mp free y hy;rw[e]at this;simpa using this
 .have:=NZ k (.cap j) x h1 h2;simp only[Bool.and_eq_true,Bool.or_eq_true,beq_iff_eq]at this;exact⟨this.1.1,this.1.2,this.2⟩
 .have:=NZ k .acc x h1 h2;simpa using this
theorem zU{src:List BSrc}(k)(acc:src[k]? =aA .acc)(uni:((c6 src.length).all λi=>match src[i]? with
   |some .acc=>i==k
   |_=>aC)=aC):SrcOk src k:=⟨acc,λi h=>by
  have hi:i<src.length:=(aw.mp h).1;have:=List.all_eq_true.mp uni i (c8.mpr hi);rw[h]at this;simpa using this⟩
theorem xg(h:∀Z:eM X.K,PG X tg (Oz Z g)):PG X tg (xG X.K g):=λeB s σ H v u Q I r ⟨Z,q⟩=>h Z eB s σ H v u Q I r q
theorem xe(h:∀Z:eM X.K,PE X e (Ze Z f)):PE X e (xE X.K f):=λeB s σ H Q I ⟨Z,q⟩=>h Z eB s σ H Q I q
theorem xt(h:∀Z:eM X.K,PT X e (Yj Z f)):PTs X [e] (xT X.K f):=λeB s σ H Q I ⟨Z,q⟩=>lR (h Z) eB s σ H Q I q
theorem xt0:PTs X [] (xT X.K W3):=λeB s σ H Q I ⟨Z,q⟩=>by refine Yx q λF δ own b δ' sr e k=>?_;cases e;exact lS eB s σ H Q I (k H F own (Zk.refl H) (Zk.refl F) sr)
theorem oB(hc:X.calm=aC)(S:CompScope X N' scope src)(So:SrcOk src k)(hk:k∉g.tch)(hi:PI X tg ZF (Ql Z fi))(hg:∀C s₀ H₀ ex,PG (X.block N' scope C s₀ H₀ ex) tg (xG X.K g))(ht:∀C s₀ H₀ ex,PTs (X.block N' scope C s₀ H₀ ex) YL (xT X.K tt))(he:∀C s₀ H₀ ex,PE (X.block N' scope C s₀ H₀ ex) elt (xE X.K te))(hs:‹∀x,foldedSetIterable ZF X.env x=pure x›):PE X (.ListComp elt [⟨tg,ZF,YL,0⟩] scope pos) (Ze Z (Jg src k fi g tt te)):=(lQ hc S hi hg ht he hs).imp λ_ _ _ h=>yj So hk h
theorem Wr:M0 X [] (Yf Z Qk):=lF.imp λ_ _ _ h=>pb h
theorem Zg{st}{rest}(h1:PS X st (Yf Z f))(h2:M0 X rest (Yf Z g)):M0 X (st::rest) (Yf Z (Zz f g)):=(jS h1 h2).imp λ_ _ _ h=>rR h
theorem Zm{st}(h:PS X st (Yf Z f)):M0 X [st] (Yf Z f):=lE h
theorem Y2(h:PE X a (Ze Z fa)):PS X (.Return (aA a) pos) (Yf Z (Wp fa)):=(yx h).imp λ_ _ _ h=>rP h
theorem Ca(hc:PT X c (Yj Z t))(ha:M0 X bt (Yf Z f))(hb:M0 X be (Yf Z g)):PS X (.If c bt be pos) (Yf Z (Fz t f g)):=(qG hc ha hb).imp λ_ _ _ h=>rQ h
theorem Z2(i){pos'}(hN:X.N.Nodup)(he:PE X a (Ze Z fa))(hi:‹X.N[i]? =aA x›)(hx:‹Loc X.env.scope x›)(hs:‹swapsWith a (aA (.Name x pos')) pos.line X.env=pure aD›)(hf:‹X.fn x=aC\/X.env.scope.names.lookup x=aA .local›):
  PS X (.Assign [.Name x pos'] a pos) (Yf Z (Yi i fa)):=(Xr hN hi hx he hs hf).imp λ_ _ _ h=>zb h
theorem i4(i){py spos}(hc:X.calm=aC)(S:CompScope X N' scope src)(So:SrcOk src k)(hk:k∉g.tch)(hi:PI X tg ZF (Ql Z fi))(hg:∀C s₀ H₀ ex,PG (X.block N' scope C s₀ H₀ ex) tg (xG X.K g))(ht:∀C s₀ H₀ ex,PTs (X.block N' scope C s₀ H₀ ex) YL (xT X.K tt))(he:∀C s₀ H₀ ex,PE (X.block N' scope C s₀ H₀ ex) elt (xE X.K te))(hN:X.N.Nodup)(NF:‹X.N[i]? =aA y›)(hx:‹X.env.scope.names.lookup y=aA .local›)(W':‹swapsWith (.ListComp elt [⟨tg,ZF,YL,0⟩] scope pos) (aA (.Name y py)) spos.line X.env=pure aC›)(hs:‹∀x,foldedSetIterable ZF X.env x=pure x›):PS X (.Assign [.Name y py] (.ListComp elt [⟨tg,ZF,YL,0⟩] scope pos) spos) (Yf Z (Yi i (Jg src k fi g tt te))):=
 (X7 hc S hi hg ht he hN NF hx W' hs).imp λD σ H h=>by refine Yx (zb h) λF δ own rv δ' s e q=>?_;exact yj So hk ⟨F,δ,own,rv,δ',s,e,q⟩
theorem S5(he:PE X a (Ze Z fa))(hg:PG X tg (Oz Z g))(hs:‹swapsWithSole [tg] a pos.line X.env=pure aD›)(hw:‹swappedStores [tg] a X.env=pure aB›)(h1:‹(assignEach [tg] X.env).map (·.2)=[assign tg X.env]›):
  PS X (.Assign [tg] a pos) (Yf Z (An g fa)):=(oH he hg hs hw h1).imp λ_ _ _ h=>jB h
theorem Wi(hp:PassesOwn (b9 X.prog X.w) X.A X.env X.xe)(hc:X.calm=aC)(hi:PI X tg ZF (Ql Z fi))(hg:PG X tg (Oz Z g))(hb:M0 X body (Yf Z f))(hs:‹∀x,foldedSetIterable ZF X.env x=pure x›):
  PS X (.For tg ZF body [] pos) (Yf Z (Qm fi g f)):=(oG hp hc hi hg hb hs).imp λ_ _ _ h=>rO h
theorem xx(n)(hp:PassesOwn (b9 X.prog X.w) X.A X.env X.xe)(hc:PT X c (Yj Z t))(hb:M0 X body (Yf Z f)):PS X (.While c body [] pos) (Yf Z (Ut t f n)):=(jQ hp hc hb).imp λ_ _ _ h=>mZ h
theorem Mh(i){px ZD cpos}(hb:PE X b (Ze Z fb))(hN:‹X.N[i]? =aA x›)(hv:‹Xp X.env.scope x›)(hd:‹(x==("__debug__":Str))=aD›)(ZS:‹(x==("__classdict__":Str))=aD›)(ZO:‹attributeBase (.Name x px) "append" X.env (ip (.Name x px) X.env)=ip (.Name x px) X.env›)(YN:‹((gd cpos (bd [b] X.env)).all (λx=>!x.1)&&(backToKw cpos (keywordEach [] X.env)).all (λx=>x.1.isSome)&&decide ([b].length+([]:List Keyword).length+(if([]:List Keyword).isEmpty then 0 else 1)<30))=aC›)(ZN:‹(ZD.endLine==cpos.line)=aC›)(hs:‹bd [b] X.env=(aD,ip b X.env)::bd [] X.env›)(ZI:‹(gd cpos (bd [] X.env)).any (·.1)=aD›)(W':‹swapsWith (.Call (.Attribute (.Name x px) "append" ZD) [b] [] cpos) aB pos.line X.env=pure aD›):
  PS X (.Expr (.Call (.Attribute (.Name x px) "append" ZD) [b] [] cpos) pos) (Yf Z (Ae i fb)):=
 (Al (Sm PySem.F.plainAttrs_list PySem.F.slot_list_append PySem.F.type_list_append M3 (Oa (i:=i) hN hv hd ZS) (B5 hb Cv hs) ZO YN ZN hs ZI) W').imp λ_ _ _ h=>rN h
end
@[simp]noncomputable def Y0(f:FS)(n:Nat)(ds:List D):Option SV:=match f (Eu n ds)with
 |some (.rt sv)=>aA sv
 |some (.nx _)=>aA (.fz .non)
 |_=>aB
theorem Ey(h:Wh K n (Y0 f N.length) vs H Q E):∃F,Yf (ent H F:eM K) f {nx:=λ_ H'=>Q .non H',rt:=Q} (L2.Bp N vs) H:=by
 obtain⟨F,ds,sv,le,r,hn,e,k⟩:=h;unfold Y0 at e;split at e
 .rename_i sw hf;cases e;exact⟨F,F,_,_,.rt sv,Sz (N:=N) le r,hf,λv H' F' ns a b c d e' nd ok=>k v H' F' ns d a b c e' nd ok⟩
 .rename_i δ hf;cases e;exact⟨F,F,_,_,.nx δ,Sz (N:=N) le r,hf,λZB H' F' own' a s'=>k .non H' F' [] s'.old a s'.le s'.fro (.fz .non) c7 λ_ h=>(nomatch h)⟩
 .cases e
theorem S6:∀ns:List Int,eF K F (ns.map D.int) (ns.map V.int)
 | []=>.nil
 |n::r=>.cons (.int n) (S6 r)
end
section
variable{K:af}
@[simp]noncomputable def Bu(f:D->D->Option Bool):List D->List D->Option Bool
 |x::xs,y::ys=>(f x y).bind λb=>(Bu f xs ys).bind λc=>aA (b&&c)
 |_,_=>aA aC
@[simp]def M7(f:D->D->Option Bool):D->D->Option Bool
 | .lst xs,.lst ys=>if xs.length=ys.length then Bu f xs ys else aA aD
 | .tup xs,.tup ys=>(Bu f xs ys).bind λb=>aA (b&&decide (xs.length=ys.length))
 | .lst _,.tup _=>aA aD
 | .tup _,.lst _=>aA aD
 |d1,d2=>eqS d1 d2
@[simp]def W2:Nat->D->D->Option Bool
 |0=>λ_ _=>aB
 |n+1=>M7 (W2 n)
theorem Ez(e:eqS d1 d2=aA b)(r1:Yv K F H d1 x)(r2:Yv K F H d2 y):Wt x=aC/\Wt y=aC/\b=Xy x y:=by unfold eqS at e;split at e<;> cases e<;> (first|obtain rfl:=r1.non|obtain rfl:=r1.int|obtain rfl:=r1.bl|obtain rfl:=r1.str)<;> (first|obtain rfl:=r2.non|obtain rfl:=r2.int|obtain rfl:=r2.bl|obtain rfl:=r2.str)<;> refine⟨rfl,rfl,?_⟩<;> first|rfl|simp[Xy]
section
variable{X:Cx}{eB:List (au×Obj)}{σ:L2.St}{F H:Hp}{s:am}
theorem jO(rx:Zy x v)(ry:Zy y v)(fx:Wt x=aC)(fy:Wt y=aC):Xy x y=aC:=by
 cases x with
 |non=>cases rx;cases y with
  |non=>rfl
  |bl b=>cases ry
  |int b=>obtain⟨t,e⟩:=ry;cases e
  |str b=>obtain⟨t,e⟩:=ry;cases e
  |_=>cases fy
 |bl a=>cases rx;cases y with
  |non=>cases ry
  |bl b=>cases ry;simp[Xy]
  |int b=>obtain⟨t,e⟩:=ry;cases e
  |str b=>obtain⟨t,e⟩:=ry;cases e
  |_=>cases fy
 |int a=>obtain⟨t,rfl⟩:=rx;cases y with
  |non=>cases ry
  |bl b=>cases ry
  |int b=>obtain⟨t,e⟩:=ry;cases e;simp[Xy]
  |str b=>obtain⟨t,e⟩:=ry;cases e
  |_=>cases fy
 |str a=>obtain⟨t,rfl⟩:=rx;cases y with
  |non=>cases ry
  |bl b=>cases ry
  |int b=>obtain⟨t,e⟩:=ry;cases e
  |str b=>obtain⟨t,e⟩:=ry;cases e;simp[Xy]
  |_=>cases fy
 |_=>cases fx
theorem He{h:f8}(h1:h.IsList a i1)(h2:h.IsList a i2):i1=i2:=by obtain⟨o,e1,c1,n1,d1⟩:=h1;obtain⟨o2,e2,c2,n2,d2⟩:=h2;rw[e1]at e2;cases e2;rw[d1]at d2;cases d2;rfl
theorem S7{h:f8}(h1:h.IsTuple a i1)(h2:h.IsTuple a i2):i1=i2:=by obtain⟨o,e1,c1,n1,d1⟩:=h1;obtain⟨o2,e2,c2,n2,d2⟩:=h2;rw[e1]at e2;cases e2;rw[d1]at d2;cases d2;rfl
theorem xw(hf:∀d1 d2 b x y v,eP X.K F d1 x->Zy x v->eP X.K F d2 y->Zy y v->f d1 d2=aA b->b=aC):∀{ys:List D} {vs ws:List V} {us:List ag} {b:Bool},eF X.K F xs vs->Z5 vs us->eF X.K F ys ws->Z5 ws us->Bu f xs ys=aA b->b=aC:=by
 induction xs with
 |nil=>intro ys vs ws us b _ _ _ _ e;cases e;rfl
 |cons x xs ih=>
  intro ys vs ws us b r1 v1 r2 v2 e;cases r1 with
  |cons h1 t1=>
   cases v1 with
   |cons a1 w1=>
    cases v2 with
    |cons a2 w2=>
     cases r2 with
     |cons h2 t2=>obtain⟨b,e1,e2⟩:=di.mp e;obtain⟨c,e3,e4⟩:=di.mp e2;cases e4;rw[hf _ _ _ _ _ _ h1 a1 h2 a2 e1,ih t1 w1 t2 w2 e3];rfl
theorem i3(I:eG X eB σ H s)(le:Zk F H)(ih:∀d1 d2 b x y v,eP X.K F d1 x->Zy x v->eP X.K F d2 y->Zy y v->f d1 d2=aA b->b=aC)(d1 d2 b x y v)(r1:eP X.K F d1 x)(v1:Zy x v)(r2:eP X.K F d2 y)(v2:Zy y v)(e:M7 f d1 d2=aA b):b=aC:=by
  unfold M7 at e;split at e
  .rename_i xs ys;cases r1 with
   |lst q1 _ p1=>
   cases r2 with
   |lst q2 _ p2=>
   cases v1;cases v2;refine Zp (I.list (Wn le q1)) λi1 w1 l1 _=>?_;refine Zp (I.list (Wn le q2)) λi2 w2 l2 _=>?_;have z:=He l1.isList l2.isList;have z:i1=i2:=by simpa using z
   subst z;split at e
   .exact xw (ih) p1 w1 p2 w2 e
   .rename_i hl;have h1:=w1.length;have h2:=w2.length;have h3:=p1.length;have h4:=p2.length;exact dM (by omega) hl
  .rename_i xs ys;cases r1 with
   |tup q1 p1=>
   cases r2 with
   |tup q2 p2=>
   cases v1;cases v2;refine Zp (I.tuple (Qj le (Rc q1))) λi1 w1 l1 _=>?_;refine Zp (I.tuple (Qj le (Rc q2))) λi2 w2 l2 _=>?_;have z:=S7 l1 l2;have z:i1=i2:=by simpa using z
   subst z;refine eK e λc e1 e2=>?_;cases e2;have h1:=w1.length;have h2:=w2.length;have h3:=p1.length;have h4:=p2.length;rw[xw (ih) p1 w1 p2 w2 e1,dJ (by omega)];rfl
  .cases r1 with
   |lst q1 _ p1=>
   cases r2 with
   |tup q2 p2=>
   cases v1;cases v2;refine Zp (I.list (Wn le q1)) λi1 w1 l1 _=>?_;refine Zp (I.tuple (Qj le (Rc q2))) λi2 w2 l2 _=>?_;exact dM rfl (SeqAt.ne_of_list_tuple (s:=s) l1.isList l2)
  .cases r1 with
   |tup q1 p1=>
   cases r2 with
   |lst q2 _ p2=>
   cases v1;cases v2;refine Zp (I.tuple (Qj le (Rc q1))) λi1 w1 l1 _=>?_;refine Zp (I.list (Wn le q2)) λi2 w2 l2 _=>?_;exact dM rfl (SeqAt.ne_of_list_tuple (s:=s) l2.isList l1)
  .obtain⟨f1,f2,rfl⟩:=Ez (H:=H) e (Yv.of r1) (Yv.of r2);exact jO v1 v2 f1 f2
theorem S8(I:eG X eB σ H s)(le:Zk F H):∀n d1 d2 b x y v,eP X.K F d1 x->Zy x v->eP X.K F d2 y->Zy y v->W2 n d1 d2=aA b->b=aC
 |0,_,_,_,_,_,_,_,_,_,_,e=>by cases e
 |n+1,d1,d2,b,x,y,v,r1,v1,r2,v2,e=>i3 I le (S8 I le n) d1 d2 b x y v r1 v1 r2 v2 e
theorem S9(hf:∀d1 d2 b x y v u,eP X.K F d1 x->Zy x v->eP X.K F d2 y->Zy y u->f d1 d2=aA b->SeqAt.EqAt A s v u b):∀{ys:List D} {vs ws:List V} {us zs:List ag} {b:Bool},eF X.K F xs vs->Z5 vs us->eF X.K F ys ws->Z5 ws zs->Bu f xs ys=aA b->
  ∃e,(∀j h1 (h2:j<zs.length),SeqAt.EqAt A s us[j] zs[j] (e j))/\(c6 (min us.length zs.length)).all e=b:=by
 induction xs with
 |nil=>intro ys vs ws us zs b r1 v1 _ _ e;cases r1;cases v1;cases e;exact⟨λ_=>aC,λj h1=>dM h1 (f6 _),by rw[List.length_nil,Nat.zero_min];rfl⟩
 |cons x xs ih=>
  intro ys vs ws us zs b r1 v1 r2 v2 e;cases r1 with
  |cons h1 t1=>
   cases v1 with
   |cons a1 w1=>
    cases v2 with
    |nil=>cases r2;cases e;exact⟨λ_=>aC,λj _ h2=>dM h2 (f6 _),by rw[List.length_nil,Nat.min_zero];rfl⟩
    |cons a2 w2=>
     cases r2 with
     |cons h2 t2=>
      obtain⟨b,e1,e2⟩:=di.mp e;obtain⟨c,e3,e4⟩:=di.mp e2;cases e4;obtain⟨g,g1,g2⟩:=ih t1 w1 t2 w2 e3;refine⟨λj=>Nat.casesOn j b g,λj h1 h2=>?_,?_⟩
      .cases j with
       |zero=>exact hf _ _ _ _ _ _ _ (by assumption:_) a1 (by assumption:_) a2 e1
       |succ j=>exact g1 j (Nat.lt_of_succ_lt_succ h1) (Nat.lt_of_succ_lt_succ h2)
      .rw[bc,bc,Nat.succ_min_succ,List.range_succ_eq_map,List.all_cons,List.all_map,<-g2];rfl
theorem rcN(I:eG X eB σ H s)(le:Zk F H)(ih:∀d1 d2 b x y v u,eP X.K F d1 x->Zy x v->eP X.K F d2 y->Zy y u->f d1 d2=aA b->SeqAt.EqAt A.in1 s v u b)(r1:Yv X.K F H d1 x)(v1:Zy x v)(r2:Yv X.K F H d2 y)(v2:Zy y u)(e:M7 f d1 d2=aA b)(hu:A.units<f9)(hr:Wt x=aD\/Wt y=aD):(∃a c,v= .ref a/\u= .ref c)/\SeqAt.RcAt A s v u b/\SeqAt.RcNeAt A s v u (!b):=by
 unfold M7 at e;split at e
 .obtain⟨a1,PV,rfl,q1,p1⟩:=r1.lst le;obtain⟨a2,JJ,rfl,q2,p2⟩:=r2.lst le;cases v1;cases v2;refine Zp (I.list q1) λi1 w1 l1 _=>?_;refine Zp (I.list q2) λi2 w2 l2 _=>?_;have h1:=w1.length;have h2:=w2.length;have h3:=p1.length;have h4:=p2.length;refine⟨⟨_,_,rfl,rfl⟩,?_⟩;split at e
  .rename_i hl;obtain⟨g,g1,g2⟩:=S9 ih p1 w1 p2 w2 e;have hm:min i1.length i2.length=i1.toArray.size:=by simp;omega
   rw[hm]at g2;subst g2;have hz:i1.toArray.size=i2.toArray.size:=by simp;omega
   exact⟨SeqAt.RcAt.lists l1.isList l2.isList hz hu (λj j1 j2=>by simpa using g1 j (by simpa using j1) (by simpa using j2)),SeqAt.RcNeAt.lists l1.isList l2.isList hz hu (λj j1 j2=>by simpa using g1 j (by simpa using j1) (by simpa using j2))⟩
  .rename_i hl;cases e;have hz:(i1.toArray.size !=i2.toArray.size)=aC:=by simp;omega
   exact⟨SeqAt.RcAt.lists_lengths l1.isList l2.isList hz hu,SeqAt.RcNeAt.lists_lengths l1.isList l2.isList hz hu⟩
 .rename_i xs ys;obtain⟨a1,PV,rfl,q1,p1⟩:=r1.tup le;obtain⟨a2,JJ,rfl,q2,p2⟩:=r2.tup le;cases v1;cases v2;refine Zp (I.tuple q1) λi1 w1 l1 _=>?_;refine Zp (I.tuple q2) λi2 w2 l2 _=>?_;have h1:=w1.length;have h2:=w2.length;have h3:=p1.length;have h4:=p2.length;refine eK e λc e1 e2=>?_;cases e2;refine⟨⟨_,_,rfl,rfl⟩,?_⟩;obtain⟨g,g1,g2⟩:=S9 ih p1 w1 p2 w2 e1;subst g2;have e3:((c6 (min i1.length i2.length)).all g&&decide (xs.length=ys.length))=((c6 (min i1.toArray.size i2.toArray.size)).all g&&i1.toArray.size==i2.toArray.size):=by
   have:(i1.toArray.size==i2.toArray.size)=decide (xs.length=ys.length):=by rw[bq,bq,<-h1,<-h2,<-h3,<-h4];rfl
   rw[this];simp
  rw[e3];exact⟨SeqAt.RcAt.tuples l1 l2 hu (λj j1 j2=>by simpa using g1 j (by simpa using j1) (by simpa using j2)),SeqAt.RcNeAt.tuples l1 l2 hu (λj j1 j2=>by simpa using g1 j (by simpa using j1) (by simpa using j2))⟩
 .obtain⟨a1,PV,rfl,q1,p1⟩:=r1.lst le;obtain⟨a2,JJ,rfl,q2,p2⟩:=r2.tup le;cases v1;cases v2;cases e;refine Zp (I.list q1) λi1 w1 l1 _=>?_;refine Zp (I.tuple q2) λi2 w2 l2 _=>?_;exact⟨⟨_,_,rfl,rfl⟩,SeqAt.RcAt.list_tuple l1.isList l2 hu,SeqAt.RcNeAt.list_tuple l1.isList l2 hu⟩
 .obtain⟨a1,PV,rfl,q1,p1⟩:=r1.tup le;obtain⟨a2,JJ,rfl,q2,p2⟩:=r2.lst le;cases v1;cases v2;cases e;refine Zp (I.tuple q1) λi1 w1 l1 _=>?_;refine Zp (I.list q2) λi2 w2 l2 _=>?_;exact⟨⟨_,_,rfl,rfl⟩,SeqAt.RcAt.tuple_list l1 l2.isList hu,SeqAt.RcNeAt.tuple_list l1 l2.isList hu⟩
 .obtain⟨f1,f2,_⟩:=Ez e r1 r2;rcases hr with hr|hr
  .rw[f1]at hr;cases hr
  .rw[f2]at hr;cases hr
theorem M8(I:eG X eB σ H s)(le:Zk F H):∀n A d1 d2 b x y v u,A.units+n<f9->eP X.K F d1 x->Zy x v->eP X.K F d2 y->Zy y u->W2 n d1 d2=aA b->SeqAt.EqAt A s v u b
 |0,_,_,_,_,_,_,_,_,_,_,_,_,_,e=>by cases e
 |n+1,A,d1,d2,b,x,y,v,u,hu,r1,v1,r2,v2,e=>by
  by_cases hf:Wt x=aC/\Wt y=aC
  .have e':eqS d1 d2=aA b:=by
    unfold W2 M7 at e;split at e
    .cases r1;cases hf.1
    .cases r1;cases hf.1
    .cases r1;cases hf.1
    .cases r1;cases hf.1
    .exact e
   obtain⟨f1,f2,rfl⟩:=Ez (H:=H) e' (Yv.of r1) (Yv.of r2);exact xC v1 v2 f1 f2
  .have hf':Wt x=aD\/Wt y=aD:=by
    cases h1:Wt x with
    |false=>exact .inl rfl
    |true=>cases h2:Wt y with
     |false=>exact .inr rfl
     |true=>exact dM ⟨h1,h2⟩ hf
   obtain⟨⟨a,c,rfl,rfl⟩,h1,_⟩:=rcN I le (A:=A) (f:=W2 n) (λd1 d2 b x y v u q1 w1 q2 w2 e=>M8 I le n A.in1 d1 d2 b x y v u (by have:A.in1.units=A.units+1:=rfl;omega) q1 w1 q2 w2 e) (Yv.of r1) v1 (Yv.of r2) v2 e (by omega) hf';by_cases LO:a=c
   .subst LO;rw[S8 I le (n+1) d1 d2 b x y _ r1 v1 r2 v2 e];exact SeqAt.EqAt.same _
   .exact SeqAt.EqAt.of_refs LO h1
def LZ(K:af)(RC:Bool):R2:=λx y H Q=>∃F d1 d2 b,Zk F H/\Yv K F H d1 x/\Yv K F H d2 y/\W2 48 d1 d2=aA b/\(Wt x=aD\/Wt y=aD)/\Q (.bl (if RC then !b else b)) H
theorem yr(hu:X.A.units+64<f9):Bo X (ik .Eq) (LZ X.K aD):=by intro eB s σ H x y v u Q I rx ry h;obtain⟨F,d1,d2,b,le,r1,r2,e,hf,q⟩:=h;obtain⟨_,h1,_⟩:=rcN I le (A:=X.A) (f:=W2 47) (λd1 d2 b x y v u q1 w1 q2 w2 e=>M8 I le 47 X.A.in1 d1 d2 b x y v u (by have:X.A.in1.units=X.A.units+1:=rfl;omega) q1 w1 q2 w2 e) r1 rx r2 ry e (by omega) hf;exact h1 X.prog X.w X.xe _ ⟨.bl b,H,I,rfl,q⟩
theorem oA(hu:X.A.units+64<f9):Bo X (ik .NotEq) (LZ X.K aC):=by intro eB s σ H x y v u Q I rx ry h;obtain⟨F,d1,d2,b,le,r1,r2,e,hf,q⟩:=h;obtain⟨_,_,h1⟩:=rcN I le (A:=X.A) (f:=W2 47) (λd1 d2 b x y v u q1 w1 q2 w2 e=>M8 I le 47 X.A.in1 d1 d2 b x y v u (by have:X.A.in1.units=X.A.units+1:=rfl;omega) q1 w1 q2 w2 e) r1 rx r2 ry e (by omega) hf;exact h1 X.prog X.w X.xe _ ⟨.bl !b,H,I,rfl,q⟩
end
@[simp]noncomputable def D.isFlat:D->Bool
 | .non=>aC| .bl _=>aC| .int _=>aC| .str _=>aC|_=>aD
@[simp]def Hf(d1 d2:D):Option SV:=if d1.isFlat=true/\d2.isFlat=true then eqD d1 d2 else(W2 48 d1 d2).bind λb=>some (.fz (.bl b))
@[simp]def neX(d1 d2:D):Option SV:=if d1.isFlat=true/\d2.isFlat=true then neD d1 d2 else(W2 48 d1 d2).bind λb=>some (.fz (.bl !b))
theorem Cb(r:Yv K F H d x)(h:d.isFlat=aD):Wt x=aD:=by
 obtain⟨sv,ns,e,n,sh,hp⟩:=r;cases sh with
 |fz r=>cases e;cases r<;> first|rfl|cases h
 |ol r=>rfl
 |oK e' r=>rfl
 |oT kb e' r=>rfl
 |oN e' r=>rfl
 |oR e' r=>rfl
 |oX kb' e' r=>rfl
 |oD r=>rfl
 |oM kb' e' r=>rfl
 |oL _ r=>rfl
 |oQ e' r=>rfl
section
variable{Z:eM K}
theorem zT:Y4 Z (λx y H Q=>rEq x y H Q\/LZ K aD x y H Q) Hf:=by
 intro F H σ δ own x y d1 d2 sv Q s r1 r2 e k;unfold Hf at e;split at e
 .exact .inl (u7 F H σ δ own x y d1 d2 sv Q s r1 r2 e k)
 .rename_i hf;refine eK e λb e1 e2=>?_;cases e2;refine .inr ⟨F,d1,d2,b,s.le,r1,r2,e1,?_,k.fz s (.bl _)⟩;cases h1:d1.isFlat with
  |false=>exact .inl (Cb r1 h1)
  |true=>cases h2:d2.isFlat with
   |false=>exact .inr (Cb r2 h2)
   |true=>exact dM ⟨h1,h2⟩ hf
theorem rf:Y4 Z (λx y H Q=>rNe x y H Q\/LZ K aC x y H Q) neX:=by
 intro F H σ δ own x y d1 d2 sv Q s r1 r2 e k;unfold neX at e;split at e
 .exact .inl (u6 F H σ δ own x y d1 d2 sv Q s r1 r2 e k)
 .rename_i hf;refine eK e λb e1 e2=>?_;cases e2;refine .inr ⟨F,d1,d2,b,s.le,r1,r2,e1,?_,k.fz s (.bl _)⟩;cases h1:d1.isFlat with
  |false=>exact .inl (Cb r1 h1)
  |true=>cases h2:d2.isFlat with
   |false=>exact .inr (Cb r2 h2)
   |true=>exact dM ⟨h1,h2⟩ hf
@[simp]noncomputable def PN:D->Option SV
 | .int i=>aA (.fz (.int (-i)))
 |_=>aB
theorem rC:zd Z (rU λi=>.int (-i)) PN:=by
 intro F H σ δ own x d sv Q s r e k;unfold PN at e;split at e
 .cases e;exact⟨_,r.int,k.fz s (.int _)⟩
 .cases e
end
section
variable{X:Cx}{Z:eM X.K}{a b c:da}{fa fb fc:FE}{pos:Pos}
theorem rB(ha:PE X a (Ze Z fa)):PE X (.UnaryOp .USub a pos) (Ze Z (unF PN fa)):=(qE ou ha).imp λ_ _ _ h=>tG rC h
theorem Va(hv:X.A.units+64<f9)(ha:PE X a (Ze Z fa))(hb:PE X b (Ze Z fb)):PE X (.Compare a [.Eq] [b] pos) (Ze Z (Zj Hf fa fb)):=DA (yF.or (yr hv)) zT ha hb (B4 _)
theorem Lc(hv:X.A.units+64<f9)(ha:PE X a (Ze Z fa))(hb:PE X b (Ze Z fb)):PT X (.Compare a [.Eq] [b] pos) (Yj Z (Yg (Zj Hf fa fb))):=Re (yF.or (yr hv)) zT ha hb (B4 _)
theorem KU(hv:X.A.units+64<f9)(ha:PE X a (Ze Z fa))(hb:PE X b (Ze Z fb)):PT X (.Compare a [.NotEq] [b] pos) (Yj Z (Yg (Zj neX fa fb))):=Re (qD.or (oA hv)) rf ha hb (B4 _)
end
end
section
variable{X:Cx}{tg:da}
noncomputable def Its(z:Str):It:=⟨λi _=>i<z.length,λi H x H'=>H'=H/\∃c,z.cps[i]? =aA c/\x= .str ⟨#[c]⟩,λi _=>z.length<=i⟩
theorem iz{P:cg}{w:dn}{K:af}{tg:da}(z:Str)(t:Tok)(it:au):Turn P w K tg (Its z) [it] it (λi h=>h.IsStrIter it (strIterType z) z t i)where
 mem:=by simp
 obj:=λi h st b hb=>by
  have e:b=it:=by simpa using hb
  subst e;refine Zp st λo e c d=>?_;exact⟨o,e,λv q=>by rw[d]at q;cases q⟩
 keep:=λi h h' st k=>by refine Zp st λo e c d=>?_;exact⟨o,k it (by simp) o e,c,d⟩
 item:=by
  intro X hP hw hK hc i eB s σ H E I hf st hg;subst hP hw hK;refine Qi (hf it (by simp)) λf0 f1 f2 f3 f4 f5=>?_;have ZM:i<z.cps.size:=hg;have hx:z.cps[i]? =aA z.cps[i]:=by simp[ZM]
  have fin:∀h',h'.IsStrIter it (strIterType z) z t (i+1)->gm it s.heap h'->∃u,aA (Value.str ⟨#[z.cps[i]]⟩ s.toks)=aA u/\bh (b9 X.prog X.w) X.A (letOwnedTupleGo tg (.ref it) u) (λ_ s2=>∃x H',eG X eB σ H' s2/\Zy x u/\(Its z).yld i H x H'/\s2.heap.IsStrIter it (strIterType z) z t (i+1)/\∀b∈[it],H' b=aB) E {s with heap:=h',toks:=s.toks+1}:=λh' YD sb=>by
   have I1:eG X eB σ H {s with heap:=h',toks:=s.toks+1}:=I.turned (t':=s.toks+1) (λb o hb q=>(sb.2 b hb).trans q) f0 f1 f3 f4 f5;refine Zp (id YD) λo e c d=>?_;have hn:["enumerate","zip","dict_itemiterator","dict_reverseitemiterator","odict_iterator","itertools.zip_longest","itertools.pairwise"].contains (strIterType z)=aD:=by unfold strIterType;split<;> decide
   exact⟨_,rfl,Eg (s:={s with heap:=h',toks:=s.toks+1}) e c d hn ⟨.str ⟨#[z.cps[i]]⟩,H,I1,⟨_,rfl⟩,⟨rfl,_,hx,rfl⟩,YD,λb hb=>(hf b hb).1⟩⟩
  cases ha:z.cps.all (· <128)with
  |false=>
   have et:strIterType z="str_iterator":=by unfold strIterType;rw[ha];rfl
   rw[et]at st fin;rw[et];exact wpAny_pyNext_wide_item st hx fin
  |true=>
   have et:strIterType z="str_ascii_iterator":=by unfold strIterType;rw[ha];rfl
   rw[et]at st fin;rw[et];exact wpAny_pyNext_ascii_item st hx fin
 done:=by
  intro X hP hw hK hc i eB s σ H E I hf st hg;subst hP hw hK;refine Qi (hf it (by simp)) λf0 f1 f2 f3 f4 f5=>?_;have UJ:z.cps.size<=i:=hg;have hx:z.cps[i]? =aB:=by simp[UJ]
  cases ha:z.cps.all (· <128)with
  |false=>
   have et:strIterType z="str_iterator":=by unfold strIterType;rw[ha];rfl
   rw[et]at st;exact wpAny_pyNext_wide_end (I.ok.hd hc) st hx λh' eb=>⟨rfl,I.turned (t':=s.toks) (λb o hb q=>eb b o hb q) f0 f1 f3 f4 f5⟩
  |true=>
   have et:strIterType z="str_ascii_iterator":=by unfold strIterType;rw[ha];rfl
   rw[et]at st;exact wpAny_pyNext_ascii_end (I.ok.hd hc) st hx λh' eb=>⟨rfl,I.turned (t':=s.toks) (λb o hb q=>eb b o hb q) f0 f1 f3 f4 f5⟩
 self:=λ_ _ _ _ _ st h=>by
  cases ha:z.cps.all (· <128)with
  |false=>
   have et:strIterType z="str_iterator":=by unfold strIterType;rw[ha];rfl
   rw[et]at st;exact wpAny_pyIter_striter_wide st h
  |true=>
   have et:strIterType z="str_ascii_iterator":=by unfold strIterType;rw[ha];rfl
   rw[et]at st;exact wpAny_pyIter_striter_ascii st h
def AA(K:af)(tl:TE):TI:=λσ H R=>tl σ H λx H1=>(∃a,x= .ref a/\(∃xs,Bm K H1 a xs)/\R (Itl K a) H1)\/(∃a,x= .ref a/\(∃xs,Mx K H1 a xs)/\R (Itt K a) H1)\/(∃z,x= .str z/\R (Its z) H1)
theorem p_(hl:PE X l tl):PI X tg l (AA X.K tl):=by
 intro eB s σ H R I h;refine Wq (hl eB s σ H _ I h) λv s1 ZE=>?_;obtain⟨x,H1,I1,r1,q1⟩:=ZE;rcases q1 with⟨a,e,⟨xs,hq⟩,q⟩|⟨a,e,⟨xs,hq⟩,q⟩|⟨z,e,q⟩
 .subst e;cases r1;refine Zp (I1.list hq) λeC rv p hz=>?_;refine wpAny_pyIter_list p.isList ?_;refine⟨s1.heap.objs.size,[s1.heap.objs.size],_,_,H1,rfl,I1.kept (t':=s1.toks) λb o e=>aq _ e,iV a _,⟨_,bi _ rfl,rfl,rfl⟩,λb hb=>?_,q⟩;have e:b=s1.heap.objs.size:=by simpa using hb
  subst e;exact I1.fpOk (bf _) (I1.hok.fresh (bf _))
 .subst e;cases r1;refine Zp (I1.tuple hq) λeC rv p hz=>?_;refine wpAny_pyIter_tuple (show s1.heap.IsTuple a eC.toArray from p) ?_;refine⟨s1.heap.objs.size,[s1.heap.objs.size],_,_,H1,rfl,I1.kept (t':=s1.toks) λb o e=>aq _ e,Xs a _,⟨_,bi _ rfl,rfl,rfl⟩,λb hb=>?_,q⟩;have e:b=s1.heap.objs.size:=by simpa using hb
  subst e;exact I1.fpOk (bf _) (I1.hok.fresh (bf _))
 .subst e;obtain⟨t,rfl⟩:=r1;refine wpAny_pyIter_strU ?_;refine⟨s1.heap.objs.size,[s1.heap.objs.size],_,_,H1,rfl,I1.kept (t':=s1.toks) λb o e=>aq _ e,iz z t _,⟨_,bi _ rfl,rfl,rfl⟩,λb hb=>?_,q⟩;have e:b=s1.heap.objs.size:=by simpa using hb
  subst e;exact I1.fpOk (bf _) (I1.hok.fresh (bf _))
def B_(K:af):List V->Hp->VK->Prop:=λxs H Q=>∃(p:au) (bs:List Bool),xs=[.ref p]/\Bm K H p (bs.map V.bl)/\Q (.bl (bs.all id)) H
theorem Vb:∀{bs:List Bool} {us:List ag},Z5 (bs.map V.bl) us->us=bs.map Value.bool
 | [],_,r=>by rw[List.map_nil]at r;cases r;rfl
 |b::bs,_,r=>by
  rw[ay]at r;cases r with
  |cons h t=>cases(show _=Value.bool b from h);rw[Vb t];rfl
theorem Ld:∀bs:List Bool,(c6 bs.length).all (λi=>(bs[i]?).getD aC)=bs.all id
 | []=>rfl
 |b::bs=>by rw[bc,List.range_succ_eq_map,List.all_cons,List.all_map,List.all_cons,<-Ld bs];rfl
theorem jN(hc:X.calm=aC):Jq X (.builtin "all") (B_ X.K):=by
 intro eB s σ H xs us Q I rs h;obtain⟨p,bs,rfl,hq,q⟩:=h;obtain⟨u,rfl,ru⟩:=Uu rs;cases ru;refine Zp (I.list hq) λeC rv pl hz=>?_;have e:=Vb rv;subst e;refine call_all_walk (wpAny_pyIter_list pl.isList ?_);have VU:p≠s.heap.objs.size:=λz=>by obtain⟨o,ho,_⟩:=pl.isList;have:=bj ho;rw[z]at this;exact Nat.lt_irrefl _ this
 refine⟨s.heap.objs.size,_,_,_,_,_,λi=>(bs[i]?).getD aC,rfl,Walks.list (by first|exact I.ok.hd hc| (rw[show X.A.in1.handled=X.A.handled from rfl];exact I.ok.hd hc)) _ p VU (bs.map Value.bool).toArray,⟨⟨_,bi _ rfl,rfl,rfl⟩,pl.isList.at λo e=>aq _ e⟩,?_,λh' tk hk=>?_⟩
 .intro i v s' Q' E' hP hQ;have T_:(bs.map Value.bool)[i]? =aA v:=by simpa using hP
  rw[az]at T_;cases hb:bs[i]? with
  |none=>rw[hb]at T_;cases T_
  |some b=>rw[hb]at T_;cases T_;dsimp only at hQ;rw[hb]at hQ;exact wpAny_truthy_bool hQ
 .have e:(c6 (bs.map Value.bool).toArray.size).all (λi=>(bs[i]?).getD aC)=bs.all id:=by rw[bq,ah];exact Ld bs
  rw[e];refine⟨.bl _,H,I.kept (t':=tk) λb o hb=>hk b o (λz=>?_) (aq _ hb),rfl,q⟩;have z':b=s.heap.objs.size:=by simpa using z
  have:=bj hb;rw[z']at this;exact Nat.lt_irrefl _ this
end
section
variable{K:af}
noncomputable def Vc(z:Str):List D:=z.cps.toList.map λc=>.str ⟨#[c]⟩
theorem Vd:Bb K (Its z) F (Vc z):=λF' H sF sH i=>by
 have hl:(Vc z).length=z.length:=by unfold Vc;rw[ah];rfl
 refine⟨λd hd=>?_,λh=>by rw[hl]at h;exact h⟩;have hi:i<z.length:=by have:=(aw.mp hd).1;rw[hl]at this;exact this
 refine⟨hi,λx H' ZE=>?_⟩;obtain⟨e1,c,e2,e3⟩:=ZE;subst e1 e3;unfold Vc at hd;rw[az]at hd;have e4:z.cps.toList[i]? =aA c:=by simpa using e2
 rw[e4]at hd;cases hd;exact⟨Zk.refl _,[],c7,λ_ h=>(nomatch h),.str _⟩
section
variable{Z:eM K}{H:Hp}{σ:L2.St}{Q:VK}
@[simp]def Bv(fe:FE):FD:=λδ=>(fe δ).bind λp=>(frz p.1 p.2).bind λq=>match q.1 with
 | .lst xs=>aA (xs,q.2)
 | .tup xs=>aA (xs,q.2)
 | .str z=>aA (Vc z,q.2)
 |_=>aB
theorem p9(h:Ql Z (Bv fe) σ H R):AA K (Ze Z fe) σ H R:=by
 refine Yx h λF δ own ds δ' s e k=>?_;refine eL e λrv δ1 e1 e2=>?_;refine eL e2 λd δ2 e3 e4=>?_;refine⟨F,δ,own,rv,δ1,s,e1,λv H1 F1 ZA sH sF s1 r1=>?_⟩;refine Zp (s1.settleR r1) λF2 ZG s2 r2=>?_;refine Y9 (s2.frzR r2 e3) λF3 ZH ZR s3 r3=>?_;dsimp only at e4;split at e4
 .cases e4;cases r3 with
  |lst h _ r=>exact .inl ⟨_,rfl,⟨_,Wn s3.le h⟩,k _ H1 F3 ZH sH (sF.trans (ZG.trans ZR)) s3 (Sy h r)⟩
 .cases e4;cases r3 with
  |tup h r=>exact .inr (.inl ⟨_,rfl,⟨_,Qj s3.le (Rc h)⟩,k _ H1 F3 ZH sH (sF.trans (ZG.trans ZR)) s3 (X9 (Rc h) r)⟩)
 .cases e4;cases r3 with
  |str x=>exact .inr (.inr ⟨_,rfl,k _ H1 F3 ZH sH (sF.trans (ZG.trans ZR)) s3 Vd⟩)
 .cases e4
@[simp]noncomputable def inS(i j:Str):Bool:=!(fq j i 0 j.length 1).isEmpty
@[simp]def inD:D->D->Option SV
 | .str i,.str j=>aA (.fz (.bl (inS i j)))
 |_,_=>aB
@[simp]def Hg:D->D->Option SV
 | .str i,.str j=>aA (.fz (.bl (!inS i j)))
 |_,_=>aB
theorem tJ:Y4 Z (λx y H Q=>∃i j,x= .str i/\y= .str j/\Q (.bl (!(fq j i 0 j.length 1).isEmpty)) H) inD:=by
 intro F H σ δ own x y d1 d2 sv Q s r1 r2 e k;unfold inD at e;split at e
 .cases e;exact⟨_,_,r1.str,r2.str,k.fz s (.bl _)⟩
 .cases e
theorem mQ:Y4 Z (λx y H Q=>∃i j,x= .str i/\y= .str j/\Q (.bl (!(!(fq j i 0 j.length 1).isEmpty))) H) Hg:=by
 intro F H σ δ own x y d1 d2 sv Q s r1 r2 e k;unfold Hg at e;split at e
 .cases e;exact⟨_,_,r1.str,r2.str,k.fz s (.bl _)⟩
 .cases e
@[simp]noncomputable def bools?:List D->Option (List Bool)
 | []=>aA []
 | .bl x::r=>(bools? r).bind λt=>aA (x::t)
 |_=>aB
theorem Ve:∀{ds:List D} {xs:List Bool} {vs:List V},bools? ds=aA xs->eF K F ds vs->vs=xs.map V.bl
 | [],_,_,e,r=>by cases e;cases r;rfl
 |d::ds,_,_,e,r=>by
  cases r with
  |cons h t=>
   unfold bools? at e;split at e
   .rename_i e0;cases e0
   .rename_i x r0 e0;cases e0;refine eK e λys e1 e2=>?_;cases e2;cases h;rw[Ve e1 t];rfl
   .cases e
@[simp]def LY:List D->Option SV
 | [.lst xs]=>(bools? xs).bind λbs=>aA (.fz (.bl (bs.all id)))
 |_=>aB
theorem rA:Oc Z (B_ K) LY:=by
 intro F H σ δ own vs ds sv Q s r e k;unfold LY at e;split at e
 .refine eK e λbs e1 e2=>?_;cases e2;cases r with
  |cons h1 t=>cases t;obtain⟨a,vs,rfl,ha,ra⟩:=h1.lst s.le;rw[Ve e1 ra]at ha;exact⟨a,bs,rfl,ha,k.fz s (.bl _)⟩
 .cases e
end
section
variable{X:Cx}{Z:eM X.K}{a b c:da}{fa fb fc:FE}{pos:Pos}{tg:da}
theorem Uk(ha:PE X a (Ze Z fa)):PI X tg a (Ql Z (Bv fa)):=λeB s σ H R I h=>p_ ha eB s σ H R I (p9 h)
theorem s_{p}(hm:X.mg "all"=aB)(ha:PE X a (Ze Z fa))(hc:‹X.calm=aC›)(hg:‹Gl X "all"›)(he:‹bd [a] X.env=(aD,ip a X.env)::bd [] X.env›)(ZI:‹(gd pos (bd [] X.env)).any (·.1)=aD›):PE X (.Call (.Name "all" p) [a] [] pos) (Ze Z (Yq LY (Zc fa Zi))):=
 Ao (jN hc) rA hm boot_all (Zh ha Z4 he) hg (by decide) (by decide) he ZI
end
end
section
open AutoSeq1 (wpAny_loadPart')
section
variable{prog:cg}{w:dn}{A:dg}{E:ag->am->Prop}{s:am}
theorem Ag(YF:s.heap.IsTupleIter it t i)(ht:s.heap.IsTuple t eD)(hx:eD[i]? =aA x)(hQ:∀h',h'.IsTupleIter it t (i+1)->gm it s.heap h'->Q x {s with heap:=h'}):bh (b9 prog w) A (Builtin.SmallTypes.nextOf (.ref it)) Q E s:=by
 refine Zp (id YF) λo ho hc hd=>?_;obtain⟨ol,QR,_,nl,QW⟩:=ht;unfold Builtin.SmallTypes.nextOf;refine aa (ij (name:=dz "__next__") YF.typeIs F.slot_tuple_iterator_next (d8 F.slot_tuple_iterator_next YF.typeIs F.entry_tuple_iterator_next ?_ (F.args_tuple_iterator_next_1 _)));show bh _ _ (field (.ref it) 0 >>=_) _ _ s;refine aa (wpAny_field ho hd (x:=.ref t) rfl ?_);show bh _ _ (if(cr t==de)=aC then _ else _) _ _ s;rw[dF (show¬((cr t==de)=aC)from bv)];show bh _ _ (field (.ref it) 1 >>=_) _ _ s;refine aa (wpAny_field ho hd (x:=.int i 0) rfl ?_);show bh _ _ (seqItems? (.ref t) >>=_) _ _ s;refine aa (wpAny_seqItems QR QW ?_);simp only[Int.toNat_natCast,hx];refine aa (wpAny_setField ho hd (by simp) (ad ⟨x,rfl,ad (hQ _ ⟨_,ig _ ho (Obj.isFreed_of_fields (Obj.data_mapFields hd _)),(Obj.cls_mapFields ..).trans hc,by rw[Obj.data_mapFields hd];simp[rawInt]⟩ (ii ..))⟩))
theorem C2(hh:A.handled=aB)(YF:s.heap.IsTupleIter it t i)(ht:s.heap.IsTuple t eD)(hx:eD[i]? =aB)(hE:∀h' e,Heap.ExtBut it s.heap h'->(∃o,h'.get? e=aA o/\o.cls= .type "StopIteration")->E (.ref e) {s with heap:=h'}):bh (b9 prog w) A (Builtin.SmallTypes.nextOf (.ref it)) Q E s:=by
 refine Zp (id YF) λo ho hc hd=>?_;obtain⟨ol,QR,_,nl,QW⟩:=ht;unfold Builtin.SmallTypes.nextOf;refine aa (ij (name:=dz "__next__") YF.typeIs F.slot_tuple_iterator_next (d8 F.slot_tuple_iterator_next YF.typeIs F.entry_tuple_iterator_next ?_ (F.args_tuple_iterator_next_1 _)));show bh _ _ (field (.ref it) 0 >>=_) _ _ s;refine aa (wpAny_field ho hd (x:=.ref t) rfl ?_);show bh _ _ (if(cr t==de)=aC then _ else _) _ _ s;rw[dF (show¬((cr t==de)=aC)from bv)];show bh _ _ (field (.ref it) 1 >>=_) _ _ s;refine aa (wpAny_field ho hd (x:=.int i 0) rfl ?_);show bh _ _ (seqItems? (.ref t) >>=_) _ _ s;refine aa (wpAny_seqItems QR QW ?_);simp only[Int.toNat_natCast,hx];refine aa (wpAny_rule (aa (wpAny_setField ho hd (by simp) ?_)));show bh _ _ (newExc (.type "StopIteration") [] >>=_) _ _ _;refine aa ?_;simp only[newExc,newTuple];refine aa (g7 ?_ (by size_fits));refine aa (m:=firstArgMember _ _) (wpAny_of_eq (a:=de) (by first|rfl| (simp only[firstArgMember];rfl)) ?_);refine g7 ?_ (by size_fits);simp only[raiseNew];refine aa (wpAny_handled ?_);first|rw[show A.in1.handled=aB from hh]|rw[hh]
 refine aa (ad (wpAny_throw ?_));exact hE _ _ (((ii ..).extBut.push _).push _) ⟨_,bi _ rfl,rfl⟩
theorem Vf(x:h.IsTuple t eD)(hs:Heap.ExtBut it h h')(VU:t≠it):h'.IsTuple t eD:=let⟨o,ho,r⟩:=x;⟨o,hs t o VU ho,r⟩
theorem iy{prog:cg}{w:dn}{A:dg}(hh:A.handled=aB)(it l:au)(VU:l≠it)(eD:Array ag):
  Draws prog w A it [it,l] eD.size (λi v=>eD[i]? =aA v) (λi h=>h.IsTupleIter it l i/\h.IsTuple l eD)where
 live:=λ_ _ st=>let⟨o,ho,_⟩:=st.1;⟨o,ho⟩
 frame:=λ_ _ _ st hk=>⟨st.1.at λo e=>hk it (by simp) o e,let⟨o,ho,r⟩:=st.2;⟨o,hk l (by simp) o ho,r⟩⟩
 item:=λi s Q E hi st hQ=>by refine Ag st.1 st.2 (x:=eD[i]) (by simp[hi]) λh' HY QO=>?_;exact hQ _ h' s.toks (by simp[hi]) ⟨HY,Vf st.2 QO.extBut VU⟩ QO
 done:=λs Q E st hE=>C2 hh st.1 st.2 (by simp) hE
theorem N0(l eD n dct sl):
  Meets (Builtin.«enumerate.__new__» ⟨[.type "enumerate",.ref l],[]⟩) (λ_ R s=>s.heap.get? l=aA {cls:=.type "tuple",dict:=dct,data:=.seq eD n,slots:=sl}/\
   R (.ok (.ret (.ref (s.heap.push {cls:=.type "tuple_iterator",data:=.fields #[.ref l,.int 0 0]}).objs.size))) {s with heap:=(s.heap.push {cls:=.type "tuple_iterator",data:=.fields #[.ref l,.int 0 0]}).push {cls:=.type "enumerate",data:=.fields #[.none,.bool aD,.ref s.heap.objs.size,rawInt 0,.none,.none]}}):=
 .of_wp λprog w A R s h=>by
  obtain⟨hp,g,d,tk,os⟩:=s;obtain⟨hl,h⟩:=h;have hsub:=sub_enumerate;have hL:Heap.IsTuple (Shared.heap ⟨hp,g,d,tk,os⟩) l eD:=⟨_,hl,rfl,n,rfl⟩
  wp_walk using fg hl;refine wpAny_stack_any λst=>ad ?_;split
  .rename_i c _ _ _ _ _;cases(c==Value.type "enumerate")
   .wp_walk using fg hl,wpAny_pyIter_tuple hL;exact⟨_,rfl,h⟩
   .wp_walk using fg hl,wpAny_pyIter_tuple hL;exact⟨_,rfl,h⟩
  .wp_walk using fg hl,wpAny_pyIter_tuple hL;exact⟨_,rfl,h⟩
theorem Kf(hL:s.heap.IsTuple l eD)(h:∀h',IsEnum h' (s.heap.objs.size+1) s.heap.objs.size 0 .none->h'.IsTupleIter s.heap.objs.size l 0->h'.objs.size=s.heap.objs.size+2->(∀b o,s.heap.get? b=aA o->h'.get? b=aA o)->Q (.ref (s.heap.objs.size+1)) {s with heap:=h'}):
  bh (b9 prog w) A (call (.type "enumerate") [.ref l]) Q E s:=by
 obtain⟨⟨c,dct,dt,sl⟩,hl,hc,n,hd⟩:=hL;replace hc:c= .type "tuple":=hc;replace hd:dt= .seq eD n:=hd;subst hc hd;refine callType_new F.called_enumerate (by decide) (F.typeCall_enumerate_1 _) (F.newCall_enumerate_1 _) (λobj=>F.args_object_init_2 obj _) F.entry_enumerate_new (N0 l eD n dct sl) ⟨hl,?_⟩;have hz:(s.heap.push {cls:=.type "tuple_iterator",data:=.fields #[.ref l,.int 0 0]}).objs.size=s.heap.objs.size+1:=Heap.size_push ..;show _/\_;rw[hz];have he:IsEnum ((s.heap.push {cls:=.type "tuple_iterator",data:=.fields #[.ref l,.int 0 0]}).push {cls:=.type "enumerate",data:=.fields #[.none,.bool aD,.ref s.heap.objs.size,rawInt 0,.none,.none]}) (s.heap.objs.size+1) s.heap.objs.size 0 .none:=by have:=bi (s.heap.push {cls:=.type "tuple_iterator",data:=.fields #[.ref l,.int 0 0]}) (o:={cls:=.type "enumerate",data:=.fields #[.none,.bool aD,.ref s.heap.objs.size,rawInt 0,.none,.none]}) rfl;rw[hz]at this;exact this
 exact⟨⟨_,he,rfl⟩,h _ he ⟨_,aq _ (bi _ rfl),rfl,rfl⟩ (by rw[Heap.size_push,hz]) λb o x=>aq _ (aq _ x)⟩
theorem N3{i:Nat}(hh:A.handled=aB)(he:IsEnum s.heap e it i old)(YF:s.heap.IsTupleIter it l i)(hl:s.heap.IsTuple l eD)(hx:eD[i]? =aB)(hQ:∀h',Heap.ExtBut it s.heap h'->Q aB {s with heap:=h'}):bh (b9 prog w) A (pyNext (.ref e)) Q E s:=by
 have hT:s.TypeIs (.ref e) "enumerate":=⟨_,he,rfl⟩;unfold pyNext;refine aa (wpAny_attempt (ij (name:=dz "__next__") hT F.slot_enumerate_next (d8 F.slot_enumerate_next hT F.entry_enumerate_next ?_ (F.args_enumerate_next_1 _))));show bh _ _ (field (.ref e) 2 >>=_) _ _ _;refine aa (wpAny_field he rfl (x:=.ref it) rfl ?_);refine aa (C2 (by first|exact hh| (rw[show A.in1.handled=A.handled from rfl];exact hh)) YF hl hx λh' x LJ WL=>?_);obtain⟨o,ho,hc⟩:=WL;refine aa (wpAny_isInstance (T:="StopIteration") (b:=aC) ⟨o,ho,hc⟩ isSubtype_stop ?_);exact ad (hQ _ LJ)
end
section
variable{X:Cx}
def EA(K:af)(a:au):It:=
 ⟨λi H=>∃xs x,Mx K H a xs/\xs[i]? =aA x,λi H x H'=>∃p v,x= .ref p/\H p=aB/\H'=Y7 H p (.tup [.int (i:Nat),v])/\∀xs,Mx K H a xs->xs[i]? =aA v,λi H=>∃xs,Mx K H a xs/\xs.length<=i⟩
theorem Hh{P:cg}{w:dn}{K:af}{WC:List da}{kk:Nat}{XT:Pos}(a e it:au)(UT:e≠it):Turn P w K (.Tuple WC kk XT) (EA K a) [e,it] e (λi h=>(∃old,IsEnum h e it ((i:Nat):Int) old)/\h.IsTupleIter it a i)where
 mem:=by simp
 obj:=λi h st b hb=>by
  have ZZ:b=e\/b=it:=by simpa using hb
  rcases ZZ with z|z
  .subst z;obtain⟨old,q⟩:=st.1;exact⟨_,q,λv y=>by
    have y':Data.fields _=Data.cell v:=y;cases y'⟩
  .subst z;refine Zp st.2 λo q c d=>?_;exact⟨o,q,λv y=>by rw[d]at y;cases y⟩
 keep:=λi h h' st k=>⟨let⟨old,q⟩:=st.1;⟨old,k e (by simp) _ q⟩,st.2.at λo q=>k it (by simp) o q⟩
 item:=by
  intro X hP hw hK hc i eB s σ H E I hf st hg;subst hP hw hK;refine W1 hg λxs x hq hx=>?_;refine Zp (I.tuple hq) λeC rv p hz=>?_;obtain⟨u,hu,ru⟩:=rv.get hx;obtain⟨⟨old,he⟩,YF⟩:=st;have hl:s.heap.IsTuple a eC.toArray:=p;have ai:a≠it:=λz=>by refine Zp YF λo1 q1 c1 _=>?_;refine Zp hl λo2 q2 c2 _=>?_;rw[z,q1]at q2;cases q2;rw[c1]at c2;exact dM c2 (by decide)
  have ae:e∉[it,a]:=λz=>by
   have z':e=it\/e=a:=by simpa using z
   rcases z' with z|z
   .exact UT z
   .refine Zp hl λo2 q2 c2 _=>?_;rw[<-z,he]at q2;cases q2;exact dM (show Value.type "enumerate"=Value.type "tuple"from c2) (by decide)
  have D:=iy (prog:=X.prog) (w:=X.w) (A:=X.A.in1) (by first|exact I.ok.hd hc| (rw[show X.A.in1.handled=X.A.handled from rfl];exact I.ok.hd hc)) it a ai eC.toArray;have ZM:i<eC.toArray.size:=by have:=(aw.mp hu).1;rw[bq];exact this
  refine wpAny_pyNext_enum_itemD D he ⟨YF,hl⟩ ZM UT ae λy h' tk hy RK YD hT hsz hk=>⟨.ref s.heap.objs.size,rfl,?_⟩
  refine wpAny_letOwnedTupleGo_enum RK λh2 X' XX=>?_;have VN:eC.toArray[i]? =aA y:=hy;have ey:y=u:=by
   have:eC[i]? =aA y:=by simpa using VN
   rw[hu]at this;cases this;rfl
  subst ey;have kk:∀b o,b≠e->b≠it->s.heap.get? b=aA o->h2.get? b=aA o:=λb o h1 h3 q=>(XX.2 b h1).trans (hk b o h1 h3 q);have neT:s.heap.objs.size≠e:=Nat.ne_of_gt (bj he);have I2:=I.turnedT (h':=h2) (t':=tk+1) (e:=e) (it:=it) (T:=s.heap.objs.size) (xs:=[.int (i:Nat),x]) (eC:=[.int i tk,y]) kk (hf e (by simp)) (hf it (by simp)) rfl ⟨_,(XX.2 _ neT).trans hT,rfl,_,rfl⟩ (.cons ⟨tk,rfl⟩ (.cons ru .nil)) (by show 2<=sizeLine;decide)
   ⟨_,X'⟩ (let⟨o,q,_⟩:=YD.1;⟨o,(XX.2 it (Ne.symm UT)).trans q⟩)
  refine⟨.ref s.heap.objs.size,_,I2,rfl,⟨s.heap.objs.size,x,rfl,I.hok.fresh (bf _),rfl,λys IP=>by rw[I.tuple_inj IP hq];exact hx⟩,⟨⟨_,X'⟩,YD.1.at λo q=>(XX.2 it (Ne.symm UT)).trans q⟩,λb hb=>?_⟩;rw[Zv λz=>?_]
  .exact(hf b hb).1
  .have ZZ:b=e\/b=it:=by simpa using hb
   rcases ZZ with y|y
   .rw[<-z,y]at neT;exact neT rfl
   .obtain⟨o,q,_⟩:=YF;rw[y]at z;exact dM (bj q) (by rw[z];exact Nat.lt_irrefl _)
 done:=by intro X hP hw hK hc i eB s σ H E I hf st hg;subst hP hw hK;obtain⟨xs,hq,hx⟩:=hg;refine Zp (I.tuple hq) λeC rv p hz=>?_;obtain⟨⟨old,he⟩,YF⟩:=st;refine Qi (hf it (by simp)) λf0 f1 f2 f3 f4 f5=>?_;have hl:=rv.length;exact N3 (I.ok.hd hc) he YF (show s.heap.IsTuple a eC.toArray from p) (by simp;omega) λh' eb=>⟨rfl,I.turned (t':=s.toks) (λb o hb q=>eb b o hb q) f0 f1 f3 f4 f5⟩
 self:=λ_ _ _ _ _ st h=>let⟨⟨old,he⟩,_⟩:=st;wpAny_pyIter_enum he h
def yq(K:af)(ta:TA):TI:=λσ H R=>ta σ H λvs H1=>∃a xs,vs=[.ref a]/\Mx K H1 a xs/\R (EA K a) H1
theorem jM(hg:Gl X "enumerate")(hm:X.mg "enumerate"=aB)(ha:PA X [l] ta)(hs:‹bd [l] X.env=[(aD,ip l X.env)]›):
  PI X (.Tuple WC kk XT) (.Call (.Name "enumerate" p) [l] [] pos) (yq X.K ta):=by
 intro eB s σ H R I h;refine Call_ (O9 I hg hm boot_enumerate (PyProof.Rows.callWith_type1 (Wq (ha pos eB s σ H _ I h) λus s1 ⟨vs,H1,I1,r1,q1⟩=>?_) hs rfl));refine Y9 q1 λa xs e hq q=>?_;subst e;obtain⟨u,rfl,ru⟩:=Uu r1;cases ru;refine Zp (I1.tuple hq) λeC rv p hz=>?_;refine Kf (show s1.heap.IsTuple a eC.toArray from p) λh' he YF hsz hk=>wpAny_pyIter_enum he ?_;have I2:eG X eB σ H1 {s1 with heap:=h'}:=I1.kept (t':=s1.toks) hk;refine⟨s1.heap.objs.size+1,[s1.heap.objs.size+1,s1.heap.objs.size],_,_,H1,rfl,I2,Hh a _ _ (Nat.succ_ne_self _),⟨⟨.none,by simpa using he⟩,YF⟩,λb hb=>?_,q⟩;have ZZ:b=s1.heap.objs.size+1\/b=s1.heap.objs.size:=by simpa using hb
 rcases ZZ with z|z
 .subst z;exact I1.fpOk (Nat.le_succ _) (I1.hok.fresh (Nat.le_succ _))
 .subst z;exact I1.fpOk (bf _) (I1.hok.fresh (bf _))
end
end
section
variable{K:af}
theorem N4(h:Mx K F a vs)(r:eF K F xs vs):Bb K (EA K a) F (Qb xs):=λF' H sF sH i=>by
 have q:Mx K H a vs:=Qj (sF.trans sH) h;refine⟨λd hd=>?_,λhl=>⟨vs,q,by rw[<-r.length,<-K9];exact hl⟩⟩;obtain⟨x,hx,rfl⟩:=K8 hd;obtain⟨v,h1,h2⟩:=r.get hx;refine⟨⟨vs,v,q,h1⟩,λy H' ZE=>?_⟩;obtain⟨p,w,e1,e2,e3,e4⟩:=ZE;subst e1 e3;have e5:=e4 vs q;rw[h1]at e5;cases e5;have hp:F' p=aB:=sH.free e2;have sm:Zk F' (Uy F' [(p,.tup [.int (i:Nat),v])]):=Q4 λz hz=>by obtain rfl:=aj.mp hz;exact hp
 refine⟨Ug e2,[(p,.tup [.int (i:Nat),v])],Ke,λz hz=>?_,.tup Yk (.cons (.int _) (.cons (h2.mono (sF.trans sm)) .nil))⟩;obtain rfl:=aj.mp hz;exact⟨e2,Yk⟩
@[simp]def yp(fd:FD):FD:=λδ=>(fd δ).bind λp=>match p.1 with
 | [.tup xs]=>aA (Qb xs,p.2)
 |_=>aB
theorem jL{Z:eM K}(h:Ql Z (yp fd) σ H R):yq K (Q5 Z fd) σ H R:=by
 refine Yx h λF δ own ds δ' s e k=>?_;refine eL e λQZ δ1 e1 e2=>?_;refine⟨F,δ,own,QZ,δ1,s,e1,λvs H1 F1 ZA sH sF s1 r1=>?_⟩;dsimp only at e2;split at e2
 .rename_i xs;cases e2;cases r1 with
  |cons h t=>
   cases t;cases h with
   |tup h r=>exact⟨_,_,rfl,Qj s1.le (Rc h),k _ H1 F1 ZA sH sF s1 (N4 (Rc h) r)⟩
 .cases e2
section
variable{X:Cx}{Z:eM X.K}{a:da}{pos:Pos}
@[simp]def Bc(fd:FD):FD:=λδ=>(fd δ).bind λp=>match p.1 with
 | [.lst xs]=>aA (Qb xs,p.2)
 | [.tup xs]=>aA (Qb xs,p.2)
 |_=>aB
theorem jK(h:Ql Z (Bc fd) σ H R):Ql Z (zW fd) σ H R\/Ql Z (yp fd) σ H R:=by
 refine Yx h λF δ own ds δ' s e k=>?_;refine eL e λQZ δ1 e1 e2=>?_;dsimp only at e2;split at e2
 .rename_i xs;exact .inl ⟨F,δ,own,ds,δ',s,di.mpr ⟨_,e1,e2⟩,k⟩
 .rename_i xs;exact .inr ⟨F,δ,own,ds,δ',s,di.mpr ⟨_,e1,e2⟩,k⟩
 .cases e2
theorem Cc{WC}{kk}{XT p}(hm:X.mg "enumerate"=aB)(ha:PA X [a] (Q5 Z fd))(hg:‹Gl X "enumerate"›)(hs:‹bd [a] X.env=[(aD,ip a X.env)]›):
  PI X (.Tuple WC kk XT) (.Call (.Name "enumerate" p) [a] [] pos) (Ql Z (Bc fd)):=λeB s σ H R I h=>by
 rcases jK h with h|h
 .exact mV hg hm ha hs eB s σ H R I (mT h)
 .exact jM hg hm ha hs eB s σ H R I (jL h)
end
end
def sj:R2:=λx y H Q=>∃a v,x= .ref a/\Br H a y (aA v)/\Q v H
def MG:R2:=λy x H Q=>∃a o,x= .ref a/\Br H a y o/\Q (.bl o.isSome) H
def Mi:R2:=λy x H Q=>∃a o,x= .ref a/\Br H a y o/\Q (.bl (!o.isSome)) H
theorem Hi(hu:X.A.units+1<f9):Bo X (ik .In) MG:=by intro eB s σ H y x v u Q I ry rx h;obtain⟨a,o,rfl,g,q⟩:=h;cases rx;exact tH hu I g ry λs' I'=>⟨.bl o.isSome,H,I',rfl,q⟩
theorem Kg(hu:X.A.units+1<f9):Bo X (ik .NotIn) Mi:=by intro eB s σ H y x v u Q I ry rx h;obtain⟨a,o,rfl,g,q⟩:=h;cases rx;exact lW hu I g ry λs' I'=>⟨.bl (!o.isSome),H,I',rfl,q⟩
section
variable{K:af}
@[simp]noncomputable def D.key?:D->Option Key
 | .int i=>aA (.inl i)
 | .str x=>aA (.inr x)
 |_=>aB
@[simp]noncomputable def keys?:List D->Option (List Key)
 | []=>aA []
 |d::r=>d.key?.bind λk=>(keys? r).bind λt=>aA (k::t)
section
variable{κ:Type}[DecidableEq κ]
@[simp]noncomputable def look(ks:List κ)(vs:List D)(k:κ):Option D:=match ks,vs with
 |a::ks,v::vs=>if a=k then aA v else look ks vs k
 |_,_=>aB
theorem Ap{F:Hp}(k:κ):∀(kvs:List (κ×V)) (ds:List D),eF K F ds (kvs.map (·.2))->match look (kvs.map (·.1)) ds k with
  |some d=>∃v,Jp kvs k=aA v/\eP K F d v
  |none=>Jp kvs k=aB
 | [],_,r=>by cases r;exact jd
 |p::kvs,_,r=>by
  cases r with
  | @cons d v ds vs h t=>
   show match(if p.1=k then aA d else look (kvs.map (·.1)) ds k)with
    |some d=>∃v,Jp (p::kvs) k=aA v/\eP K F d v
    |none=>Jp (p::kvs) k=aB
   by_cases e:p.1=k
   .rw[dG e];exact⟨p.2,Bq e,h⟩
   .rw[dF e,Ob e];exact Ap k kvs ds t
@[simp]noncomputable def Wf(ks:List κ)(vs:List D)(k:κ)(v:D):List κ×List D:=
 if k∈ks then(ks,(ks.zip vs).map λp=>if p.1=k then v else p.2)else(ks++[k],vs++[v])
theorem eF.length_map{α:Type}{kvs:List (α×V)}(r:eF K F ds (kvs.map (·.2))):ds.length=kvs.length:=by rw[r.length,ah]
theorem xv(hd:eP K F d v):∀(kvs:List (κ×V)) ds,eF K F ds (kvs.map (·.2))->
  eF K F (((kvs.map (·.1)).zip ds).map λp=>if p.1=k then d else p.2) ((kvs.map λkv=>if kv.1=k then(kv.1,v)else kv).map (·.2))
 | [],_,r=>by cases r;exact .nil
 |p::kvs,_,r=>by
  cases r with
  | @cons d' v' ds vs h t=>
   have ih:=xv (k:=k) hd kvs ds t;show eF K F ((if p.1=k then d else d')::(((kvs.map (·.1)).zip ds).map λp=>if p.1=k then d else p.2)) ((if p.1=k then(p.1,v)else p).2::((kvs.map λkv=>if kv.1=k then(kv.1,v)else kv).map (·.2)));refine .cons ?_ ih;by_cases e:p.1=k
   .rw[dG e,dG e];exact hd
   .rw[dF e,dF e];exact h
theorem kr(kvs:List (κ×V)):(kvs.map λkv=>if kv.1=k then(kv.1,v)else kv).map (·.1)=kvs.map (·.1):=by rw[cp];refine List.map_congr_left λp _=>?_;show(if p.1=k then(p.1,v)else p).1=p.1;split<;> rfl
theorem xu(k)(kvs:List (κ×V)):(kvs.any λkv=>decide (kv.1=k))=aC↔k∈kvs.map (·.1):=by
 rw[List.any_eq_true,ax];constructor
 .rintro⟨p,h1,h2⟩;exact⟨p,h1,dL h2⟩
 .rintro⟨p,h1,h2⟩;exact⟨p,h1,dJ h2⟩
theorem Hj(hd:eP K F d v)(kvs:List (κ×V))(ds)(r:eF K F ds (kvs.map (·.2))):
  (Jd kvs k v).map (·.1)=(Wf (kvs.map (·.1)) ds k d).1/\eF K F (Wf (kvs.map (·.1)) ds k d).2 ((Jd kvs k v).map (·.2)):=by
 unfold Jd Wf;by_cases h:k∈kvs.map (·.1)
 .rw[dG h,dG ((xu k kvs).mpr h)];exact⟨kr kvs,xv hd kvs ds r⟩
 .rw[dF h,dF λz=>h ((xu k kvs).mp z),b8,b8];exact⟨rfl,r.snoc hd⟩
end
theorem N5(e:d.key? =aA k)(r:Yv K F H d y):y=kV k:=by
 cases d with
 |int i=>cases e;exact r.int
 |str x=>cases e;exact r.str
 |_=>cases e
theorem xr(e:d.key? =aA k)(r:eP K F d y):y=kV k:=N5 (H:=F) e (Yv.of r)
theorem N6:∀{ds:List D} {ks:List Key} {vs:List V},keys? ds=aA ks->eF K F ds vs->vs=ks.map kV
 | [],_,_,e,r=>by cases e;cases r;rfl
 |d::ds,_,_,e,r=>by
  cases r with
  |cons h t=>refine eK e λk e1 e2=>?_;refine eK e2 λt' e3 e4=>?_;cases e4;rw[xr e1 h,N6 e3 t];rfl
theorem Yv.tupH(le:Zk F H)(h:Yv K F H (.tup xs) v):∃a vs,v= .ref a/\H a=aA (.tup vs)/\eF K F xs vs:=by
 obtain⟨sv,ns,e,n,sh,hp⟩:=h;cases sh with
 |fz r=>cases e;cases r with|tup h r=>exact⟨_,_,rfl,le _ _ h,r⟩
 |ol r=>cases e
 |oK e' r=>cases e
 |oT kb e' r=>cases e
 |oN e' r=>cases n
 |oR e' r=>cases n
 |oX kb' e' r=>cases n
 |oD r=>cases n
 |oM kb' e' r=>cases n
 |oL _ r=>cases n
 |oQ e' r=>cases e
@[simp]def Hk:D->D->Option (Option D)
 | .dK ks vs,d=>d.key?.bind λk=>aA (look ks vs k)
 | .dT ks vs,.tup xs=>(keys? xs).bind λk=>aA (look ks vs k)
 |_,_=>aB
theorem E1{F H:Hp}{d1 d2:D}{x y:V}{o:Option D}(le:Zk F H)(e:Hk d1 d2=aA o)(r1:Yv K F H d1 x)(r2:Yv K F H d2 y):
  ∃a,x= .ref a/\IsD H a/\match o with
   |some d=>∃v,Br H a y (aA v)/\eP K F d v
   |none=>Br H a y aB:=by
 unfold Hk at e;split at e
 .refine eK e λk e1 e2=>?_;obtain⟨a,kvs,rfl,ha,rfl,rr⟩:=r1.dK le;refine⟨a,rfl,.inl ⟨kvs,ha.rd⟩,?_⟩;rw[N5 e1 r2];have z:=Ap k kvs _ rr;have g:=Br.k (k:=k) ha;rw[dq.inj e2]at z;cases o with
  |none=>rw[show Jp kvs k=aB from z]at g;exact g
  |some d=>obtain⟨v,z1,z2⟩:=z;rw[z1]at g;exact⟨v,g,z2⟩
 .refine eK e λk e1 e2=>?_;obtain⟨a,kvs,rfl,ha,rfl,rr⟩:=r1.dT le;obtain⟨b,vs,rfl,hb,rb⟩:=r2.tupH le;refine⟨a,rfl,.inr ⟨kvs,ha.rd⟩,?_⟩;rw[N6 e1 rb]at hb;have z:=Ap k kvs _ rr;have g:=Br.t ha hb;rw[dq.inj e2]at z;cases o with
  |none=>rw[show Jp kvs k=aB from z]at g;exact g
  |some d=>obtain⟨v,z1,z2⟩:=z;rw[z1]at g;exact⟨v,g,z2⟩
 .cases e
section
variable{Z:eM K}
@[simp]def EY(d1 d2:D):Option SV:=(Hk d1 d2).bind λo=>o.bind λd=>some (.fz d)
theorem p8:Y4 Z sj EY:=by intro F H σ δ own x y d1 d2 sv Q s r1 r2 e k;refine eK e λo e1 e2=>?_;refine eK e2 λd e3 e4=>?_;cases e4;subst e3;obtain⟨a,rfl,_,v,g,rv⟩:=E1 s.le e1 r1 r2;exact⟨a,v,rfl,g,k.fz s rv⟩
@[simp]def Bn(d1 d2:D):Option SV:=(Hk d2 d1).bind λo=>some (.fz (.bl o.isSome))
@[simp]def xq(d1 d2:D):Option SV:=(Hk d2 d1).bind λo=>some (.fz (.bl (!o.isSome)))
theorem p7:Y4 Z MG Bn:=by
 intro F H σ δ own x y d1 d2 sv Q s r1 r2 e k;refine eK e λo e1 e2=>?_;cases e2;obtain⟨a,rfl,_,g⟩:=E1 s.le e1 r2 r1;cases o with
 |none=>exact⟨a,aB,rfl,g,k.fz s (.bl _)⟩
 |some d=>obtain⟨v,g,_⟩:=g;exact⟨a,aA v,rfl,g,k.fz s (.bl _)⟩
theorem ix:Y4 Z Mi xq:=by
 intro F H σ δ own x y d1 d2 sv Q s r1 r2 e k;refine eK e λo e1 e2=>?_;cases e2;obtain⟨a,rfl,_,g⟩:=E1 s.le e1 r2 r1;cases o with
 |none=>exact⟨a,aB,rfl,g,k.fz s (.bl _)⟩
 |some d=>obtain⟨v,g,_⟩:=g;exact⟨a,aA v,rfl,g,k.fz s (.bl _)⟩
@[simp]noncomputable def D.isD:D->Bool
 | .dK _ _=>aC| .dT _ _=>aC|_=>aD
@[simp]def W8(d1 d2:D):Option SV:=if d1.isD=true then EY d1 d2 else ixD d1 d2
@[simp]def inX(d1 d2:D):Option SV:=if d2.isD=true then Bn d1 d2 else inD d1 d2
@[simp]def Hl(d1 d2:D):Option SV:=if d2.isD=true then xq d1 d2 else Hg d1 d2
theorem iw(hg:∀d1 d2 sv,g d1 d2=aA sv->g1 d1 d2=aA sv\/g2' d1 d2=aA sv)(h:Ze Z (Zj g fa fb) σ H Q):Ze Z (Zj g1 fa fb) σ H Q\/Ze Z (Zj g2' fa fb) σ H Q:=by
 refine Yx h λF δ own rv δ' s e k=>?_;refine eL e λrvs δ1 e1 e2=>?_;refine eK e2 λds e3 e4=>?_;refine eK e4 λsv e5 e6=>?_;have:(g2 g1) ds=aA sv\/(g2 g2') ds=aA sv:=by
  unfold g2 at e5⊢;split at e5
  .exact hg _ _ _ e5
  .cases e5
 rcases this with z|z
 .exact .inl ⟨F,δ,own,rv,δ',s,di.mpr ⟨_,e1,di.mpr ⟨_,e3,di.mpr ⟨_,z,e6⟩⟩⟩,k⟩
 .exact .inr ⟨F,δ,own,rv,δ',s,di.mpr ⟨_,e1,di.mpr ⟨_,e3,di.mpr ⟨_,z,e6⟩⟩⟩,k⟩
theorem si:Y4 Z (λx y H Q=>(∃i j,x= .str i/\y= .str j/\Q (.bl (!(fq j i 0 j.length 1).isEmpty)) H)\/MG x y H Q) inX:=by
 intro F H σ δ own x y d1 d2 sv Q s r1 r2 e k;unfold inX at e;split at e
 .exact .inr (p7 F H σ δ own x y d1 d2 sv Q s r1 r2 e k)
 .exact .inl (tJ F H σ δ own x y d1 d2 sv Q s r1 r2 e k)
theorem kq:Y4 Z (λx y H Q=>(∃i j,x= .str i/\y= .str j/\Q (.bl (!(!(fq j i 0 j.length 1).isEmpty))) H)\/Mi x y H Q) Hl:=by
 intro F H σ δ own x y d1 d2 sv Q s r1 r2 e k;unfold Hl at e;split at e
 .exact .inr (ix F H σ δ own x y d1 d2 sv Q s r1 r2 e k)
 .exact .inl (mQ F H σ δ own x y d1 d2 sv Q s r1 r2 e k)
end
section
variable{X:Cx}{Z:eM X.K}{a b c:da}{fa fb fc:FE}{pos:Pos}
theorem Z3(hu:X.A.units+1<f9)(ha:PE X a (Ze Z fa))(hb:PE X b (Ze Z fb))(hs:‹Np b›):PE X (.Subscript a b pos) (Ze Z (Zj W8 fa fb)):=λeB s σ H Q I h=>by
 rcases iw (g1:=EY) (g2':=ixD) (λd1 d2 sv e=>by
  unfold W8 at e;split at e
  .exact .inl e
  .exact .inr e) h with h|h
 .exact lV hu ha hb hs eB s σ H Q I (K5 p8 h)
 .exact yA xD ha hb hs eB s σ H Q I (K5 AI h)
end
end
def yb:V->List V->Hp->VK->Prop:=λx xs H Q=>∃a,x= .ref a/\((∃y o,xs=[y]/\Br H a y o/\Q (o.getD .non) H)\/(∃y z o,xs=[y,z]/\Br H a y o/\Q (o.getD z) H))
theorem mP(hu:X.A.units+1<f9):MtR X "dict.get" yb:=by
 intro eB s σ H x xs v us Q I rx rs h;obtain⟨a,rfl,h⟩:=h;cases rx;rcases h with⟨y,o,rfl,g,q⟩|⟨y,z,o,rfl,g,q⟩
 .obtain⟨u,rfl,ru⟩:=Uu rs;exact pg hu I g ru λw' s' I' r'=>⟨_,H,I',r',q⟩
 .obtain⟨u,w',rfl,r1,r2⟩:=qA rs;exact pf hu I g r1 r2 λw' s' I' r'=>⟨_,H,I',r',q⟩
section
variable{K:af}
section
variable{Z:eM K}{H:Hp}{σ:L2.St}{Q:VK}
@[simp]noncomputable def Tz:FE:=λδ=>some (.tmp (.oK [] []),δ)
@[simp]noncomputable def KR:FE:=λδ=>some (.tmp (.oT [] []),δ)
theorem mO(h:Ze Z Tz σ H Q):yo σ H Q:=by refine Yx h λF δ own rv δ' s e k=>?_;cases e;intro p hp;have f:Fin Z F H σ δ own (.oK [] []) Q:=λv H' F' ns a b c t=>k v H' F' own a b c ⟨ns,t⟩;exact f.one s (.oK (kvs:=[]) rfl .nil) hp
theorem mN(h:Ze Z KR σ H Q):yn σ H Q:=by refine Yx h λF δ own rv δ' s e k=>?_;cases e;intro p hp;have f:Fin Z F H σ δ own (.oT [] []) Q:=λv H' F' ns a b c t=>k v H' F' own a b c ⟨ns,t⟩;exact f.one s (.oT (kvs:=[]) .nil rfl .nil) hp
@[simp]noncomputable def SV.isOD:Option (Option SV)->Bool
 |some (aA (.oK _ _))=>aC
 |some (aA (.oT _ _))=>aC
 |some (aA (.oQ _ _ _))=>aC
 |_=>aD
@[simp]def MF(kd d:D):Option (Option SV)->Option SV
 |some (aA (.oK ks vs))=>kd.key?.bind λk=>if vs.length<cf then aA (.oK (Wf ks vs k d).1 (Wf ks vs k d).2)else aB
 |some (aA (.oT ks vs))=>match kd with
  | .tup xs=>(keys? xs).bind λk=>if vs.length<cf then aA (.oT (Wf ks vs k d).1 (Wf ks vs k d).2)else aB
  |_=>aB
 |some (aA (.oQ q ks vs))=>kd.key?.bind λk=>if vs.length<cf then aA (.oQ q (Wf ks vs k d).1 (Wf ks vs k d).2)else aB
 |_=>aB
@[simp]def Rl(i:Nat)(fk fv:FE):FS:=λδ=>(fv δ).bind λp=>(frz p.1 p.2).bind λq=>if SV.isOD (q.2[i]?)=true then(fk q.2).bind λr=>(rdv r.1 r.2).bind λkd=>(MF kd q.1 (r.2[i]?)).bind λsv=>some (.nx (r.2.set i (some sv)))else none
theorem km(h:eN K F (.oK ks ds) v ns):∃a kvs ep,v= .ref a/\ns=[(a,.dK kvs ep)]/\kvs.map (·.1)=ks/\eF K F ds (kvs.map (·.2)):=by
 cases h with
 |oK e r=>exact⟨_,_,_,rfl,rfl,e,r⟩
theorem kj(h:eN K F (.oQ q ks ds) v ns):∃kvs ep,v= .ref q/\ns=[(q,.dK kvs ep)]/\kvs.map (·.1)=ks/\eF K F ds (kvs.map (·.2)):=by
 cases h with
 |oQ e r=>exact⟨_,_,rfl,rfl,e,r⟩
theorem kg(h:eN K F (.oT ks ds) v ns):∃a kvs ep bs,v= .ref a/\ns=[(a,.dT kvs ep bs)]/\KB F kvs bs/\kvs.map (·.1)=ks/\eF K F ds (kvs.map (·.2)):=by
 cases h with
 |oT kb e r=>exact⟨_,_,_,_,rfl,rfl,kb,e,r⟩
theorem KB.put(h:KB F kvs bs)(hb:F b=aA (.tup (k.map kV))):KB F (Jd kvs k v) (Sg kvs bs k b):=by
 unfold Jd Sg;split
 .unfold KB at*;clear hb;rename_i hq;clear hq;induction h with
  |nil=>exact .nil
  | @cons p c ps cs h1 t ih=>
   rw[ay];refine .cons ?_ ih;by_cases e:p.1=k
   .rw[dG e];exact h1
   .rw[dF e];exact h1
 .exact Paired.snoc h hb
theorem Yv.tupF(h:Yv K F H (.tup xs) v):∃a vs,v= .ref a/\F a=aA (.tup vs)/\eF K F xs vs:=by
 obtain⟨sv,ns,e,n,sh,hp⟩:=h;cases sh with
 |fz r=>cases e;cases r with|tup h r=>exact⟨_,_,rfl,h,r⟩
 |ol r=>cases e
 |oK e' r=>cases e
 |oT kb e' r=>cases e
 |oN e' r=>cases n
 |oR e' r=>cases n
 |oX kb' e' r=>cases n
 |oD r=>cases n
 |oM kb' e' r=>cases n
 |oL _ r=>cases n
 |oQ e' r=>cases e
theorem mM(h:SV.isOD o=aC):∃sv,o=aA (aA sv):=by
 unfold SV.isOD at h;split at h
 .exact⟨_,rfl⟩
 .exact⟨_,rfl⟩
 .exact⟨_,rfl⟩
 .cases h
theorem sg(h:Yf Z (Rl i fk fv) E σ H):zy (R8 i) (Ze Z fk) (Ze Z fv) E σ H:=by
 refine Ox h λF δ own fl s e k=>?_;refine eL e λrv δ1 e1 e=>?_;refine eL e λd δ2 e2 e=>?_;dsimp only at e;split at e
 .rename_i HC;refine eL e λrk ZX e3 e=>?_;refine eK e λkd e4 e=>?_;refine eK e λsv e5 e=>?_;cases e;refine⟨F,δ,own,rv,δ1,s,e1,λv H1 F1 ZA OB XE s1 r1=>?_⟩;refine Zp (s1.settleR r1) λF2 ZG s2 r2=>?_;refine Y9 (s2.frzR r2 e2) λF3 ZH ZR s3 r3=>?_;obtain⟨wf,IU⟩:=mM HC;obtain⟨x,hx,_⟩:=s3.at' i wf IU;refine⟨x,hx,F3,δ2,ZH,rk,ZX,s3,e3,λy H4 F4 ZU SW YK s4 r4=>?_⟩;refine Zp (s4.settleR r4) λF5 MU s5 r5=>?_;have rk':=s5.rd r5 e4;have rd:eP K F5 d v:=r3.mono (YK.trans MU);have sF:Zk F F5:=XE.trans (ZG.trans (ZR.trans (YK.trans MU)));dsimp only at e5;generalize ho:ZX[i]? =o at e5;unfold MF at e5;split at e5
  .rename_i ks vs;refine eK e5 λkk f1 f2=>?_;split at f2
   .rename_i hz;cases f2;obtain⟨x',WL,sh⟩:=s5.at' i _ ho;rw[hx]at WL;cases WL;obtain⟨a,kvs,UE,ea,en,rfl,rr⟩:=km sh;subst ea;have mb:(a,HO.dK kvs UE)∈ZU i:=by rw[en];exact ac
    have hH:=(s5.ok i _ mb).2.2;have z:=Hj (k:=kk) rd kvs vs rr;refine⟨a,rfl,?_⟩;rw[N5 f1 rk'];refine Nu.k ⟨_,hH⟩ (by rw[<-rr.length_map];exact hz) λep=>?_;exact k σ _ F5 _ sF (s5.change (sv':=.oK (Wf (kvs.map (·.1)) vs kk d).1 (Wf (kvs.map (·.1)) vs kk d).2) (o':=.dK (Jd kvs kk v) ep) (ns':=[(a,.dK (Jd kvs kk v) ep)]) ho hx mb (.oK z.1 z.2) (λp hp=>.inl (aj.mp hp)) Ke)
   .cases f2
  .rename_i ks vs;split at e5
   .rename_i xs;refine eK e5 λkk f1 f2=>?_;split at f2
    .rename_i hz;cases f2;obtain⟨x',WL,sh⟩:=s5.at' i _ ho;rw[hx]at WL;cases WL;obtain⟨a,kvs,UE,No,ea,en,kb,rfl,rr⟩:=kg sh;subst ea;have mb:(a,HO.dT kvs UE No)∈ZU i:=by rw[en];exact ac
     have hH:=(s5.ok i _ mb).2.2;have z:=Hj (k:=kk) rd kvs vs rr;obtain⟨b,us,rfl,GP,rb⟩:=rk'.tupF;rw[N6 f1 rb]at GP;refine⟨a,rfl,Nu.t ⟨_,_,hH⟩ (s5.le _ _ GP) (by rw[<-rr.length_map];exact hz) λep uZ uk hq=>?_⟩;rw[hH]at hq;cases hq;exact k σ _ F5 _ sF (s5.change (sv':=.oT (Wf (kvs.map (·.1)) vs kk d).1 (Wf (kvs.map (·.1)) vs kk d).2) (o':=.dT (Jd kvs kk v) ep (Sg kvs No kk b)) (ns':=[(a,.dT (Jd kvs kk v) ep (Sg kvs No kk b))]) ho hx mb (.oT (kb.put GP) z.1 z.2) (λp hp=>.inl (aj.mp hp)) Ke)
    .cases f2
   .cases e5
  .rename_i q ks vs;refine eK e5 λkk f1 f2=>?_;split at f2
   .rename_i hz;cases f2;obtain⟨x',WL,sh⟩:=s5.at' i _ ho;rw[hx]at WL;cases WL;obtain⟨kvs,UE,ea,en,rfl,rr⟩:=kj sh;subst ea;have mb:(q,HO.dK kvs UE)∈ZU i:=by rw[en];exact ac
    have hH:=(s5.ok i _ mb).2.2;have z:=Hj (k:=kk) rd kvs vs rr;refine⟨q,rfl,?_⟩;rw[N5 f1 rk'];refine Nu.k ⟨_,hH⟩ (by rw[<-rr.length_map];exact hz) λep=>?_;exact k σ _ F5 _ sF (s5.change (sv':=.oQ q (Wf (kvs.map (·.1)) vs kk d).1 (Wf (kvs.map (·.1)) vs kk d).2) (o':=.dK (Jd kvs kk v) ep) (ns':=[(q,.dK (Jd kvs kk v) ep)]) ho hx mb (.oQ z.1 z.2) (λp hp=>.inl (aj.mp hp)) Ke)
   .cases f2
  .cases e5
 .cases e
@[simp]def LX(T:String)(g:D->List D->Option SV)(fo:FE)(fd:FD):FE:=λδ=>(fo δ).bind λp=>(rdv p.1 p.2).bind λd0=>if FR T d0=true then(fd p.2).bind λq=>(rdv p.1 q.2).bind λd1=>(g d1 q.1).bind λsv=>some (.tmp sv,q.2)else none
def zS(Z:eM K)(r:V->List V->Hp->VK->Prop)(g:D->List D->Option SV):Prop:=
 ∀(F H:Hp) (σ:L2.St) (δ:Yy) (own:Nat->Zu) (x:V) (d:D) (vs:List V) (ds:List D) (sv:SV) (Q:VK),SR Z F H σ δ own->Yv K F H d x->eF K F ds vs->g d ds=aA sv->Fin Z F H σ δ own sv Q->r x vs H Q
theorem se(hg:zS Z r g)(h:Ze Z (LX T g fo fd) σ H Q):tBM K T r (Ze Z fo) (Q5 Z fd) σ H Q:=by
 refine Yx h λF δ own rv δ' s e k=>?_;refine eL e λWI δ1 e1 e=>?_;refine eK e λd0 e2 e=>?_;dsimp only at e;split at e
 .rename_i ht;refine eL e λds δ2 e3 e=>?_;refine eK e λd1 e4 e=>?_;refine eK e λsv e5 e=>?_;cases e;refine⟨F,δ,own,WI,δ1,s,e1,λv H1 F1 ZA OB XE s1 r1=>?_⟩;refine Zp (s1.settleR r1) λDG SY SZ QI=>?_;refine⟨rq SZ.le (SZ.rd QI e2) ht,DG,δ1,ZA,ds,δ2,SZ,e3,λvs H2 F2 own2 SX ZG s2 r2=>?_⟩;exact hg F2 H2 σ δ2 own2 v d1 vs ds sv Q s2 (s2.rd (QI.mono ZG) e4) r2 e5 λq H4 F4 ns SW YK s4 t4=>
   k q H4 F4 own2 (OB.trans (SX.trans SW)) (XE.trans (SY.trans (ZG.trans YK))) s4 ⟨ns,t4⟩
 .cases e
@[simp]def E2:D->List D->Option SV
 |d,[y]=>(Hk d y).bind λo=>aA (.fz (o.getD .non))
 |d,[y,z]=>(Hk d y).bind λo=>aA (.fz (o.getD z))
 |_,_=>aB
theorem mL:zS Z yb E2:=by
 intro F H σ δ own x d vs ds sv Q s r1 r2 e k;unfold E2 at e;split at e
 .refine eK e λo e1 e2=>?_;cases e2;cases r2 with
  |cons h t=>
   cases t;obtain⟨a,rfl,_,g⟩:=E1 s.le e1 r1 (Yv.of h);cases o with
   |none=>exact⟨a,rfl,.inl ⟨_,aB,rfl,g,k.fz s .non⟩⟩
   |some d=>obtain⟨v,g,rv⟩:=g;exact⟨a,rfl,.inl ⟨_,aA v,rfl,g,k.fz s rv⟩⟩
 .refine eK e λo e1 e2=>?_;cases e2;cases r2 with
  |cons h t=>
   cases t with
   |cons h2 t=>
    cases t;obtain⟨a,rfl,_,g⟩:=E1 s.le e1 r1 (Yv.of h);cases o with
    |none=>exact⟨a,rfl,.inr ⟨_,_,aB,rfl,g,k.fz s h2⟩⟩
    |some d=>obtain⟨v,g,rv⟩:=g;exact⟨a,rfl,.inr ⟨_,_,aA v,rfl,g,k.fz s rv⟩⟩
 .cases e
end
section
variable{X:Cx}{Z:eM X.K}{a b c:da}{fa fb fc:FE}{pos:Pos}
theorem Gq:PE X (.Dict [] [] pos) (Ze Z Tz):=jI.imp λ_ _ _ h=>mO h
theorem xp:PE X (.Dict [] [] pos) (Ze Z KR):=jH.imp λ_ _ _ h=>mN h
theorem ya{ZD cpos}(hu:X.A.units+1<f9)(ha:PE X a (Ze Z fa))(hb:PA X (b::es) (Q5 Z fd))(ZO:‹attributeBase a "get" X.env (ip a X.env)=ip a X.env›)(YN:‹((gd cpos (bd (b::es) X.env)).all (λx=>!x.1)&&(backToKw cpos (keywordEach [] X.env)).all (λx=>x.1.isSome)&&decide ((b::es).length+([]:List Keyword).length+(if([]:List Keyword).isEmpty then 0 else 1)<30))=aC›)(ZN:‹(ZD.endLine==cpos.line)=aC›)(hs:‹bd (b::es) X.env=(aD,ip b X.env)::bd es X.env›)(ZI:‹(gd cpos (bd es X.env)).any (·.1)=aD›):
  PE X (.Call (.Attribute a "get" ZD) (b::es) [] cpos) (Ze Z (LX "dict" E2 fa fd)):=
 (Sm PySem.F.plainAttrs_dict PySem.F.slot_dict_get PySem.F.type_dict_get (mP hu) ha hb ZO YN ZN hs ZI).imp λ_ _ _ h=>se mL h
theorem C3(i){px p1}(hu:X.A.units+1<f9)(hb:PE X b (Ze Z fb))(XG:PE X a (Ze Z fa))(hN:‹X.N[i]? =aA x›)(hv:‹Xp X.env.scope x›)(hd:‹(x==("__debug__":Str))=aD›)(ZS:‹(x==("__classdict__":Str))=aD›)(hs:‹swapsWith a (aA (.Subscript (.Name x px) b p1)) pos.line X.env=pure aD›):
  PS X (.Assign [.Subscript (.Name x px) b p1] a pos) (Yf Z (Rl i fb fa)):=(lU hu (Oa (i:=i) hN hv hd ZS) hb XG hs).imp λ_ _ _ h=>sg h
end
end
def xo:List V->Hp->VK->Prop:=λxs H Q=>∃a kvs,xs=[.ref a]/\RdK H a kvs/\∀p ep,H p=aB->Q (.ref p) (Y7 H p (.dK kvs ep))
theorem Vg:Jq X (.type "dict") xo:=by intro eB s σ H xs us Q I rs h;obtain⟨a,kvs,rfl,e,q⟩:=h;obtain⟨u,rfl,ru⟩:=Uu rs;cases ru;exact jF I e λp ep s' hp I'=>⟨.ref p,_,I',rfl,q p ep hp⟩
section
variable{K:af}
@[simp]noncomputable def KQ:List D->Option SV
 | [.dK ks vs]=>aA (.oK ks vs)
 |_=>aB
theorem kf{Z:eM K}:Oc Z xo KQ:=by
 intro F H σ δ own vs ds sv Q s r e k;unfold KQ at e;split at e
 .cases e;cases r with
  |cons h t=>cases t;obtain⟨a,kvs,rfl,ha,ek,rr⟩:=h.dK s.le;exact⟨a,kvs,rfl,ha.rd,λp ep hp=>k.one s (.oK ek rr) hp⟩
 .cases e
section
variable{X:Cx}{Z:eM X.K}{a b c:da}{fa fb fc:FE}{pos:Pos}
theorem ke{p}(hm:X.mg "dict"=aB)(ha:PE X a (Ze Z fa))(hg:‹Gl X "dict"›)(he:‹bd [a] X.env=(aD,ip a X.env)::bd [] X.env›)(ZI:‹(gd pos (bd [] X.env)).any (·.1)=aD›):PE X (.Call (.Name "dict" p) [a] [] pos) (Ze Z (Yq KQ (Zc fa Zi))):=
 Mf Vg kf hm boot_dict (Zh ha Z4 he) hg (by decide) (by decide) he ZI
end
end
theorem Hm(h:Q 0xFCA86420 {s with toks:=s.toks+1}):bh (b9 prog w) A (pyHash .none) Q E s:=by have hT:s.TypeIs .none "NoneType":=rfl;refine PySem.W.pyHash_slot (v:=.none) (Q:=Q) hT F.slot_NoneType_hash F.entry_NoneType_hash (F.args_NoneType_hash_1 _) rfl (.inl rfl) ?_;show bh (b9 prog w) A.in1 (mkInt 0xFCA86420 >>=λv=>ret v) _ E s;refine aa (wpAny_mkInt ?_);exact ad ⟨_,_,rfl,h⟩
noncomputable def EW:Option Key->ag->Bool
 |none,.none=>aC
 |none,_=>aD
 |some k,v=>G7 k v
theorem Wc(h:EW k v=aC):(k=aB/\v= .none)\/∃j,k=aA j/\G7 j v=aC:=by
 cases k with
 |none=>cases v<;> first|exact .inl ⟨rfl,rfl⟩|cases h
 |some j=>exact .inr ⟨j,rfl,h⟩
theorem E3(h:G7 j .none=aC):False:=by rcases Ye h with⟨i,t,_,e⟩|⟨x,t,_,e⟩<;> cases e
def N7(prog:cg)(w:dn):PySem.KeyKind prog w (Option Key)where
 is:=EW
 hash:=λ|none=>0xFCA86420|some k=>(Zs prog w).hash k
 inj:=λv a b ha hb=>by
  rcases Wc ha with⟨rfl,rfl⟩|⟨i,rfl,hi⟩
  .rcases Wc hb with⟨rfl,_⟩|⟨j,rfl,hj⟩
   .rfl
   .exact(E3 hj).elim
  .rcases Wc hb with⟨rfl,rfl⟩|⟨j,rfl,hj⟩
   .exact(E3 hi).elim
   .rw[(Zs prog w).inj v i j hi hj]
 byValue:=λk v h=>by
  rcases Wc h with⟨rfl,rfl⟩|⟨i,rfl,hi⟩
  .rfl
  .exact(Zs prog w).byValue i v hi
 pyHash:=fun{A E s k v Q} hv h=>by
  rcases Wc hv with⟨rfl,rfl⟩|⟨i,rfl,hi⟩
  .exact Hm h
  .exact(Zs prog w).pyHash hi h
 eqBool:=fun{A E s a b u v Q} hu hv h=>by
  rcases Wc hu with⟨rfl,rfl⟩|⟨i,rfl,hi⟩
  .rcases Wc hv with⟨rfl,rfl⟩|⟨j,rfl,hj⟩
   .exact SeqAt.EqAt.same _ _ _ _ _ (by simpa using h)
   .rw[dH (λz=>nomatch z)]at h;rcases Ye hj with⟨i,t,rfl,rfl⟩|⟨x,t,rfl,rfl⟩
    .exact SeqAt.EqAt.none_int i t _ _ _ _ h
    .exact SeqAt.EqAt.none_str x t _ _ _ _ h
  .rcases Wc hv with⟨rfl,rfl⟩|⟨j,rfl,hj⟩
   .rw[dH (λz=>nomatch z)]at h;rcases Ye hi with⟨i,t,rfl,rfl⟩|⟨x,t,rfl,rfl⟩
    .exact SeqAt.EqAt.int_none i t _ _ _ _ h
    .exact SeqAt.EqAt.str_none x t _ _ _ _ h
   .refine(Zs prog w).eqBool hi hj ?_;have e:decide (aA i=aA j)=decide (i=j):=by simp
    rw[<-e];exact h
 «strs»:=λk x t v h=>by
  rcases Wc h with⟨rfl,e⟩|⟨i,rfl,hi⟩
  .cases e
  .exact(Zs prog w).strs i x t v hi
theorem wN{h:f8}(d:h.DictOf (Zs P w) a vs):h.MapOf (N7 P w) a (λ|none=>aB|some k=>valueAt vs k):=by
 obtain⟨o,es,ep,ho,hc,hd,hk,hf⟩:=d.mapOf;refine⟨o,es,ep,ho,hc,hd,λe he=>?_,λk=>?_⟩
 .obtain⟨k,h1,h2⟩:=hk e he;exact⟨aA k,h1,h2⟩
 .cases k with
  |some k=>exact hf k
  |none=>
   show(es.find? λe=>EW aB e.key).map (·.val)=aB;rw[Array.find?_eq_none.mpr λe he z=>?_]
   .rfl
   .obtain⟨k,h1,_⟩:=hk e he;rcases Wc z with⟨_,e2⟩|⟨j,e2,_⟩
    .rw[e2]at h1;exact E3 h1
    .cases e2
def M9(RC:Bool):R2:=λy x H Q=>∃a kvs,y= .non/\x= .ref a/\RdK H a kvs/\Q (.bl RC) H
theorem iu:Bo X (ik .In) (M9 aD):=by intro eB s σ H y x v u Q I ry rx h;obtain⟨a,kvs,rfl,rfl,e,q⟩:=h;cases ry;cases rx;obtain⟨z,hd,vs,rel,dd⟩:=Cz I.hok e;exact wpAny_in_of (knd:=N7 X.prog X.w) (k:=aB) rfl hd (wN dd) ⟨.bl aD,H,I.tok _,rfl,q⟩
theorem N8:Bo X (ik .NotIn) (M9 aC):=by intro eB s σ H y x v u Q I ry rx h;obtain⟨a,kvs,rfl,rfl,e,q⟩:=h;cases ry;cases rx;obtain⟨z,hd,vs,rel,dd⟩:=Cz I.hok e;exact wpAny_notIn_of (knd:=N7 X.prog X.w) (k:=aB) rfl hd (wN dd) ⟨.bl aC,H,I.tok _,rfl,q⟩
noncomputable def place(kvs:List (Str×ag))(x:Str):Option Nat:=kvs.findIdx? λp=>decide (p.1=x)
section
variable{K:af}
@[simp]def inY(d1 d2:D):Option SV:=match d1,d2 with
 | .non,.dK _ _=>aA (.fz (.bl aD))
 |_,_=>inX d1 d2
@[simp]def Hn(d1 d2:D):Option SV:=match d1,d2 with
 | .non,.dK _ _=>aA (.fz (.bl aC))
 |_,_=>Hl d1 d2
section
variable{Z:eM K}
theorem sZ:Y4 Z (λx y H Q=>((∃i j,x= .str i/\y= .str j/\Q (.bl (!(fq j i 0 j.length 1).isEmpty)) H)\/MG x y H Q)\/M9 aD x y H Q) inY:=by
 intro F H σ δ own x y d1 d2 sv Q s r1 r2 e k;unfold inY at e;split at e
 .cases e;obtain⟨a,kvs,rfl,ha,_,_⟩:=r2.dK s.le;exact .inr ⟨a,kvs,r1.non,rfl,ha.rd,k.fz s (.bl _)⟩
 .exact .inl (si F H σ δ own x y d1 d2 sv Q s r1 r2 e k)
theorem ka:Y4 Z (λx y H Q=>((∃i j,x= .str i/\y= .str j/\Q (.bl (!(!(fq j i 0 j.length 1).isEmpty))) H)\/Mi x y H Q)\/M9 aC x y H Q) Hn:=by
 intro F H σ δ own x y d1 d2 sv Q s r1 r2 e k;unfold Hn at e;split at e
 .cases e;obtain⟨a,kvs,rfl,ha,_,_⟩:=r2.dK s.le;exact .inr ⟨a,kvs,r1.non,rfl,ha.rd,k.fz s (.bl _)⟩
 .exact .inl (kq F H σ δ own x y d1 d2 sv Q s r1 r2 e k)
end
end
section
variable{K:af}
theorem SR.changeT{Z:eM K}(s:SR Z F H σ δ own)(t:eW Z F H own svT vT nsT)(e:δ[i]? =aA (aA sv))(hv:σ[i]? =aA (aA v))(ha:(a,o)∈own i)(hs:eN K F sv' v ns')(WN:∀p∈ns',p=(a,o')\/(p∈own i/\p.1≠a)\/p∈nsT)(nd:(Ac ns').Nodup):SR Z F (Y7 H a o') σ (δ.set i (aA sv')) (put own i ns'):=by
 obtain⟨fa,UL,hHa⟩:=s.ok i (a,o) ha;have hi:i<δ.length:=(aw.mp e).1;refine⟨λb u eb=>?_,s.fro,λb u eb=>?_,by rw[List.length_set];exact s.len,λj sw ej=>?_,λj=>?_,λj p hp=>?_,λj k p q VA hp hq=>?_⟩
 .rw[Zv λz=>by rw[z]at eb;rw[fa]at eb;cases eb];exact s.le b u eb
 .rw[Zv λz=>by rw[z]at eb;rw[UL]at eb;cases eb];exact s.old b u eb
 .by_cases hj:j=i
  .subst hj;rw[gh hi]at ej;cases ej;rw[Yu];exact⟨v,hv,hs⟩
  .rw[g8 (Ne.symm hj)]at ej;rw[Y8 hj];exact s.at' j sw ej
 .by_cases hj:j=i
  .subst hj;rw[Yu];exact nd
  .rw[Y8 hj];exact s.nod j
 .by_cases hj:j=i
  .subst hj;rw[Yu]at hp;rcases WN p hp with z|⟨z,ne⟩|z
   .subst z;exact⟨fa,UL,Yk⟩
   .obtain⟨x,y,w⟩:=s.ok j p z;exact⟨x,y,by rw[Zv ne];exact w⟩
   .obtain⟨x,y,w⟩:=t.ok p z;exact⟨x,y,by rw[Zv (t.sep j p (a,o) z ha)];exact w⟩
  .rw[Y8 hj]at hp;obtain⟨x,y,w⟩:=s.ok j p hp;exact⟨x,y,by rw[Zv (s.sep j i p (a,o) hj hp ha)];exact w⟩
 .have BI:∀(l:Nat) (r q:au×HO),l≠i->r∈ns'->q∈own l->r.1≠q.1:=λl r q hl hr hq=>by
   rcases WN r hr with z|⟨z,_⟩|z
   .subst z;exact s.sep i l (a,o) q (Ne.symm hl) ha hq
   .exact s.sep i l r q (Ne.symm hl) z hq
   .exact t.sep l r q z hq
  by_cases hj:j=i
  .subst hj;rw[Yu]at hp;rw[Y8 (Ne.symm VA)]at hq;exact BI k p q (Ne.symm VA) hp hq
  .by_cases hk:k=i
   .subst hk;rw[Yu]at hq;rw[Y8 hj]at hp;exact λz=>BI j q p hj hq hp z.symm
   .rw[Y8 hj]at hp;rw[Y8 hk]at hq;exact s.sep j k p q VA hp hq
theorem eU.snoc:∀{ZC:List (List D)} {ws:List V} {ns:Zu} {xs:List D} {b:au} {vs:List V},eU K F ZC ws ns->eF K F xs vs->eU K F (ZC++[xs]) (ws++[.ref b]) (ns++[(b,.lst vs)])
 |_,_,_,_,_,_,.nil,r=>.cons r .nil
 |_,_,_,_,_,_,.cons h t,r=>.cons h (t.snoc r)
theorem eU.length:∀{ZC:List (List D)} {ws:List V} {ns:Zu},eU K F ZC ws ns->ZC.length=ws.length
 |_,_,_,.nil=>rfl
 |_,_,_,.cons _ t=>by rw[bc,bc,t.length]
theorem eU.ref:∀{ZC:List (List D)} {ws:List V} {ns:Zu} {p:Nat} {v:V},eU K F ZC ws ns->ws[p]? =aA v->∃b,v= .ref b
 |_,_,_,_,_,.nil,e=>by simp at e
 |_,_,_,0,_,.cons _ _,e=>by simp at e;exact⟨_,e.symm⟩
 |_,_,_,p+1,_,.cons _ t,e=>t.ref (p:=p) (by simpa using e)
end
section
variable{K:af}
@[simp]def F_(fe:FE):FS:=λδ=>(fe δ).bind λp=>(frz p.1 p.2).bind λq=>some (.rt (.fz q.1))
theorem pH{Z:eM K}(h:Yf Z (F_ fe) E σ H):EE (Ze Z fe) E σ H:=by refine Ox h λF δ own fl s e k=>?_;refine eL e λrv δ1 e1 e2=>?_;refine eL e2 λd δ2 e3 e4=>?_;cases e4;refine⟨F,δ,own,rv,δ1,s,e1,λv H1 F1 ZA sH sF s1 r1=>?_⟩;refine Zp (s1.settleR r1) λF2 ZG s2 r2=>?_;refine Y9 (s2.frzR r2 e3) λF3 ZH ZR s3 r3=>?_;exact k v H1 F3 [] (sF.trans (ZG.trans ZR)) s3.le s3.fro s3.old (.fz r3) c7 λ_ h=>(nomatch h)
section
variable{X:Cx}{Z:eM X.K}{a b c:da}{fa fb fc:FE}{pos:Pos}
theorem pG(h:PE X a (Ze Z fa)):PS X (.Return (aA a) pos) (Yf Z (F_ fa)):=(yx h).imp λ_ _ _ h=>pH h
end
end
def zR:R2:=λx y H Q=>∃a k,x= .str a/\y= .int k/\MulOk a k/\Q (.str (Txt.mul a k)) H
theorem mK:Bo X (binaryOp .Mult) zR:=by intro eB s σ H x y v u Q I rx ry h;obtain⟨a,k,rfl,rfl,hm,q⟩:=h;obtain⟨t,rfl⟩:=rx;obtain⟨t',rfl⟩:=ry;exact SB.mul hm λt' k=>⟨.str _,H,I.tok _,⟨_,rfl⟩,q⟩
section
variable{K:af}
@[simp]noncomputable def D.fv:D->V
 | .bl b=>.bl b
 | .int i=>.int i
 | .str x=>.str x
 |_=>.non
theorem EV(r:Yv K F H d x)(h:d.isFlat=aC):x=d.fv/\Wt x=aC:=by
 cases d with
 |non=>rw[r.non];exact⟨rfl,rfl⟩
 |bl b=>rw[r.bl];exact⟨rfl,rfl⟩
 |int i=>rw[r.int];exact⟨rfl,rfl⟩
 |str y=>rw[r.str];exact⟨rfl,rfl⟩
 |_=>cases h
theorem Ho:∀{ds:List D} {vs:List V},eF K F ds vs->ds.all D.isFlat=aC->vs=ds.map D.fv/\vs.all Wt=aC
 |_,_,.nil,_=>⟨rfl,rfl⟩
 |_,_,.cons h t,e=>by rw[List.all_cons,Bool.and_eq_true]at e;obtain⟨a1,a2⟩:=EV (H:=F) (Yv.of h) e.1;obtain⟨b1,b2⟩:=Ho t e.2;refine⟨by rw[ay,<-a1,<-b1],by rw[List.all_cons,a2,b2];rfl⟩
def ME(y x:D):Bool:=Xy y.fv x.fv
@[simp]theorem fK(a b):ME (.str a) (.str b)=decide (a=b):=by
 show(a==b)=decide (a=b);by_cases h:a=b
 .subst h;simp
 .rw[dH h];exact beq_eq_false_iff_ne.mpr h
@[simp]theorem mJ(a b):ME (.bl a) (.bl b)=decide (a=b):=by cases a<;> cases b<;> rfl
@[simp]theorem fJ:ME .non .non=true:=rfl
@[simp]theorem fE(a):ME (.str a) .non=false:=rfl
def N9(x:D)(xs:List D):Bool:=xs.any λy=>ME y x
theorem wM:inV d.fv (ds.map D.fv)=N9 d ds:=by unfold inV N9;rw[List.any_map];rfl
noncomputable def D.seq?:D->Option (List D)
 | .lst xs=>aA xs
 | .tup xs=>aA xs
 |_=>aB
@[simp]theorem fC(xs):D.seq? (.lst xs)=some xs:=rfl
@[simp]theorem fB(xs):D.seq? (.tup xs)=some xs:=rfl
@[simp]theorem fA(x):D.seq? (.str x)=none:=rfl
@[simp]theorem gY(ks vs):D.seq? (.dK ks vs)=none:=rfl
@[simp]theorem gX(ks vs):D.seq? (.dT ks vs)=none:=rfl
@[simp]def inZ(d1 d2:D):Option SV:=match d2.seq? with
 |some xs=>if d1.isFlat=aC/\xs.all D.isFlat=aC then aA (.fz (.bl (N9 d1 xs)))else aB
 |none=>inY d1 d2
@[simp]def Jt(d1 d2:D):Option SV:=match d2.seq? with
 |some xs=>if d1.isFlat=aC/\xs.all D.isFlat=aC then aA (.fz (.bl (!N9 d1 xs)))else aB
 |none=>Hn d1 d2
section
variable{Z:eM K}{H:Hp}{σ:L2.St}{Q:VK}
theorem yZ(le:Zk F H)(r:Yv K F H d x)(h:d.seq? =aA xs):∃a vs,x= .ref a/\(Bm K H a vs\/Mx K H a vs)/\eF K F xs vs:=by
 cases d with
 |lst ys=>cases h;refine Y9 (r.lst le) λa vs e q rr=>?_;exact⟨a,vs,e,.inl q,rr⟩
 |tup ys=>cases h;refine Y9 (r.tup le) λa vs e q rr=>?_;exact⟨a,vs,e,.inr q,rr⟩
 |_=>cases h
theorem sY:Y4 Z (λx y H Q=>(((∃i j,x= .str i/\y= .str j/\Q (.bl (!(fq j i 0 j.length 1).isEmpty)) H)\/MG x y H Q)\/M9 aD x y H Q)\/rIn K aD x y H Q) inZ:=by
 intro F H σ δ own x y d1 d2 sv Q s r1 r2 e k;unfold inZ at e;split at e
 .rename_i xs hx;split at e
  .rename_i hf;cases e;obtain⟨a,vs,rfl,hq,rr⟩:=yZ s.le r2 hx;obtain⟨e1,f1⟩:=EV r1 hf.1;obtain⟨e2,f2⟩:=Ho rr hf.2;refine .inr ⟨a,vs,rfl,hq,f1,f2,?_⟩;rw[e1,e2,wM];exact k.fz s (.bl _)
  .cases e
 .exact .inl (sZ F H σ δ own x y d1 d2 sv Q s r1 r2 e k)
theorem kZ:Y4 Z (λx y H Q=>(((∃i j,x= .str i/\y= .str j/\Q (.bl (!(!(fq j i 0 j.length 1).isEmpty))) H)\/Mi x y H Q)\/M9 aC x y H Q)\/rIn K aC x y H Q) Jt:=by
 intro F H σ δ own x y d1 d2 sv Q s r1 r2 e k;unfold Jt at e;split at e
 .rename_i xs hx;split at e
  .rename_i hf;cases e;obtain⟨a,vs,rfl,hq,rr⟩:=yZ s.le r2 hx;obtain⟨e1,f1⟩:=EV r1 hf.1;obtain⟨e2,f2⟩:=Ho rr hf.2;refine .inr ⟨a,vs,rfl,hq,f1,f2,?_⟩;rw[e1,e2,wM];exact k.fz s (.bl _)
  .cases e
 .exact .inl (ka F H σ δ own x y d1 d2 sv Q s r1 r2 e k)
open Classical in
noncomputable def LW(a:Str)(k:Int):Option SV:=if MulOk a k then aA (.fz (.str (Txt.mul a k)))else aB
theorem mI(h:LW a k=aA sv):MulOk a k/\sv= .fz (.str (Txt.mul a k)):=by
 unfold LW at h;split at h
 .rename_i hm;cases h;exact⟨hm,rfl⟩
 .cases h
def JC(i j:Int):Prop:=MI i j=aC
open Classical in
noncomputable def Vh(i j:Int):Option SV:=if JC i j then aA (.fz (.int (i*j)))else aB
theorem mH(h:Vh i j=aA sv):AG (.int i) (.int j)=aA sv:=by
 unfold Vh at h;split at h
 .rename_i hc;cases h;unfold JC at hc;simp[hc]
 .cases h
theorem Hq(h:-(2^64)<j/\j<2^64):Vh i j=aA (.fz (.int (i*j))):=by unfold Vh;rw[dG];unfold JC MI;rw[dJ h.1,dJ h.2];simp
theorem Hr(h:-(2^64)<i/\i<2^64):Vh i j=aA (.fz (.int (i*j))):=by unfold Vh;rw[dG];unfold JC MI;rw[dJ h.1,dJ h.2];simp
def E4:D->D->Option SV
 | .str a,.int k=>LW a k
 | .int i,.int j=>Vh i j
 |_,_=>aB
@[simp]theorem g_(a k):E4 (.str a) (.int k)=LW a k:=rfl
@[simp]theorem gZ(i j):E4 (.int i) (.int j)=Vh i j:=rfl
theorem pF:Y4 Z (λx y H Q=>rI MK (λi j=>V.int (i*j)) x y H Q\/zR x y H Q) E4:=by
 intro F H σ δ own x y d1 d2 sv Q s r1 r2 e k;unfold E4 at e;split at e
 .obtain⟨hm,rfl⟩:=mI e;exact .inr ⟨_,_,r1.str,r2.int,hm,k.fz s (.str _)⟩
 .exact .inl (rL F H σ δ own x y _ _ sv Q s r1 r2 (mH e) k)
 .cases e
@[simp]noncomputable def PH:List D->Option SV
 | [.int i]=>if i.natAbs.log2<1920 then aA (.fz (.str (toString i)))else aB
 |_=>aB
theorem pE:Oc Z (λxs H Q=>∃i,xs=[.int i]/\i.natAbs.log2<1920/\Q (.str (toString i)) H) PH:=by
 intro F H σ δ own vs ds sv Q s r e k;unfold PH at e;split at e
 .split at e
  .rename_i hm;cases e;cases r with
   |cons h1 t=>cases t;exact⟨_,by rw[h1.int],hm,k.fz s (.str _)⟩
  .cases e
 .cases e
end
section
variable{X:Cx}{Z:eM X.K}{a b c:da}{fa fb fc:FE}{pos:Pos}
theorem zQ(hu:X.A.units+1<f9)(ha:PE X a (Ze Z fa))(hb:PE X b (Ze Z fb))(hm:‹behindInMarks .In b=aD›):PE X (.Compare a [.In] [b] pos) (Ze Z (Zj inZ fa fb)):=DA (((iS.or (Hi hu)).or iu).or iO) sY ha hb hm
theorem Mj(hu:X.A.units+1<f9)(ha:PE X a (Ze Z fa))(hb:PE X b (Ze Z fb))(hm:‹behindInMarks .NotIn b=aD›):PT X (.Compare a [.NotIn] [b] pos) (Yj Z (Yg (Zj Jt fa fb))):=Re (((Nt.or (Kg hu)).or N8).or Nr) kZ ha hb hm
theorem Ta(ha:PE X a (Ze Z fa))(hb:PE X b (Ze Z fb)):PE X (.BinOp a .Mult b pos) (Ze Z (Zj E4 fa fb)):=S4 (oy.or mK) pF ha hb
theorem pD{p}(hm:X.mg "str"=aB)(ha:PE X a (Ze Z fa))(hg:‹Gl X "str"›)(he:‹bd [a] X.env=(aD,ip a X.env)::bd [] X.env›)(ZI:‹(gd pos (bd [] X.env)).any (·.1)=aD›):PE X (.Call (.Name "str" p) [a] [] pos) (Ze Z (Yq PH (Zc fa Zi))):=
 Mf Nm pE hm boot_str (Zh ha Z4 he) hg (by decide) (by decide) he ZI
end
end
section
variable{K:af}
@[simp]noncomputable def EU(f:FT):FT:=λδ=>(f δ).bind λp=>some (p.1,δ)
theorem mG{Z:eM K}(h:Yj Z (EU f) σ H Q):Yj Z f σ H Q:=by refine Yx h λF δ own b δ' s e k=>?_;refine eL e λb1 δ1 e1 e2=>?_;cases e2;exact⟨F,δ,own,b1,δ1,s,e1,λH' F' own' sH sF s'=>k H' F own sH (Zk.refl F) (s.grow sH)⟩
section
variable{X:Cx}{Z:eM X.K}{a:da}{ft:FT}
theorem pC(ha:PT X a (Yj Z ft)):PT X a (Yj Z (EU ft)):=ha.imp λ_ _ _ h=>mG h
end
end
section
variable{K:af}
inductive RX where
 |v (rv:RV) (δ:Yy)|x (e:Exn) (δ:Yy)
abbrev FX:=Yy->Option RX
@[simp]noncomputable def FX.val(f:FX):FE:=λδ=>match f δ with
 |some (.v rv δ')=>aA (rv,δ')
 |_=>aB
section
variable{Z:eM K}
set_option genInjectivity false in
structure HX where
 x:Str
 np:Pos
 nm:Option (Str×Nat)
 b0:Stmt
 suite:List Stmt
 pos:Pos
 B:au
 yes:List Str
 no:List Str
 f:FS
set_option genInjectivity false in
structure HX.Sub(K:af)(h:HX):Prop where
 yes:∀c∈h.yes,∀C,Su K c C->PySem.W.mroIn K C (.ref h.B)=aA aC
 no:∀c∈h.no,∀C,Su K c C->PySem.W.mroIn K C (.ref h.B)=aA aD
def HX.hd(Z:eM K)(h:HX):Hd:=⟨h.x,h.np,h.nm,h.b0,h.suite,h.pos,h.B,Yf Z h.f⟩
set_option genInjectivity false in
structure HF where
 i:Option Nat
 yes:List Str
 no:List Str
 f:FS
@[simp]noncomputable def HX.hf(h:HX):HF:=⟨h.nm.map (·.2),h.yes,h.no,h.f⟩
@[simp]noncomputable def Fl.but(i:Nat):Fl->Fl
 | .nx δ=>.nx (δ.set i aB)
 | .bk δ=>.bk (δ.set i aB)
 | .ct δ=>.ct (δ.set i aB)
 | .ex e δ=>.ex e (δ.set i aB)
 | .rt sv=>.rt sv
@[simp]noncomputable def Fl.isEx:Fl->Bool
 | .ex _ _=>aC
 |_=>aD
@[simp]def HF.run(h:HF)(x:Exn)(δ:Yy):Option Fl:=match h.i with
 |none=>h.f δ
 |some i=>if i<δ.length then(h.f (δ.set i (aA (.fz (.exc x.c x.ks x.vs))))).bind λfl=>if fl.isEx=aC then aB else aA (fl.but i)else aB
noncomputable abbrev eM.wish(Z:eM K)(EX:EXT):eM K:=⟨Z.h,Z.f,EX⟩
end
end
theorem eG.trackO{σ:L2.St}(I:eG X eB σ H s)(e0:X.s₀.heap.get? a=aB)(eH:H a=aB)(le:a≠X.env.locals)(ce:∀x c,X.env.cells.lookup x=aA c->c≠a)(pe:∀p∈X.pn++eB,p.1≠a)(new:Yp X.prog X.w (Y7 H a o) s.heap a o):eG X eB σ (Y7 H a o) s:=by
 refine⟨I.ok,I.os,I.bare,⟨I.base.keep,I.base.slot,λb o q n hx=>?_,I.base.there,λb xs q=>?_,λb o u q=>?_,λb ps q=>?_⟩,I.loc,I.cell,?_,λx c ec=>?_,λp hp=>?_,λb u q=>?_,I.len⟩
 .rw[Zv (λz=>by rw[z,e0]at q;cases q)];exact I.base.free b o q n hx
 .have:=I.base.tups b xs q;rw[Zv (λz=>by rw[z,eH]at this;cases this)];exact this
 .have:=I.base.frzs b o u q;rw[Zv (λz=>by rw[z,eH]at this;cases this)];exact this
 .obtain⟨m,this⟩:=I.base.tbls b ps q;exact⟨m,by rw[Zv (λz=>by rw[z,eH]at this;cases this)];exact this⟩
 .rw[Zv (Ne.symm le)];exact I.free
 .rw[Zv (ce x c ec)];exact I.freeC x c ec
 .obtain⟨q,n,r⟩:=I.pin p hp;exact⟨q,by rw[Zv (pe p hp)];exact n,r⟩
 .by_cases hb:b=a
  .subst hb;rw[Yk]at q;cases q;exact new
  .rw[Zv hb]at q;exact(I.hok b u q).stay (λc v _ z=>z) (λc z=>by rw[Zv (λy=>by rw[y,eH]at z;cases z)];exact z) (λc xs z=>by rw[Zv (λy=>by rw[y,eH]at z;cases z)];exact z) λc o z=>by rw[Zv (λy=>by rw[y,eH]at z;cases z)];exact z
def yY(SN:List (TE×TE)):TE:=λσ H Q=>X5 SN σ H λps H2=>∃kvs:List (Key×V),ps=kvs.map (λkv=>(kV kv.1,kv.2))/\kvs.length<=15/\∀p ep,H2 p=aB->Q (.ref p) (Y7 H2 p (.dK (B7 [] kvs) ep))
theorem kY(h:PPs X pos keys YY SN)(hall:keys.all (·.isSome)=aC)(hl:keys.length=YY.length)(h0:keys≠[])(uU:keys.length<=15):PE X (.Dict keys YY pos) (yY SN):=by
 intro eB s σ H Q I q;have hn:=I.hok.fresh (bf s.heap.objs.size);have I0:=I.kept (h':=s.heap.push {cls:=.type "dict",data:=.dict #[]}) (t':=s.toks) (λ_ _ q=>aq _ q);have TV:(s.heap.push {cls:=.type "dict",data:=.dict #[]}).get? s.heap.objs.size=aA {cls:=.type "dict",data:=.dict #[]}:=bi _ rfl;have old:∀b o,s.heap.get? b=aA o->b≠s.heap.objs.size:=λb o z=>cj (bj z);have apart:∀p∈X.pn++eB,p.1≠s.heap.objs.size:=λp hp=>old _ _ (I.pin p hp).1;have NA:s.heap.objs.size≠X.env.locals:=λz=>Nat.lt_irrefl _ (df (z▸I.lt) (bf _));have GG:∀x c,X.env.cells.lookup x=aA c->c≠s.heap.objs.size:=λx c ec=>by refine W1 (I.cell x c ec) λv o ho _=>?_;exact old _ _ ho
 have UI:X.s₀.heap.get? s.heap.objs.size=aB:=Heap.get?_none_of_le I.sz;have I1:=I0.pins_of (pins':=(s.heap.objs.size,{cls:=.type "dict",data:=.dict #[]})::eB) λp hp=>by
  rcases b7.mp hp with z|z
  .subst z;exact⟨TV,hn,NA,I.nofs (bf _),λv z=>nomatch z⟩
  .exact I0.pin p (bp _ z)
 refine wpAny_Dict_walk (knd:=Zs X.prog X.w) hall hl h0 uU (Wq (h _ _ σ _ _ I1 q) λws s2 ZE=>?_);obtain⟨ps,H2,I2,rel,kvs,ep,lk,q2⟩:=ZE;subst ep;obtain⟨rs,c,rk⟩:=El (P:=X.prog) (w:=X.w) rel;obtain⟨p1,p2,p3,p4,p5⟩:=I2.pin (s.heap.objs.size,{cls:=.type "dict",data:=.dict #[]}) (bp _ ac);have IB:Yp X.prog X.w (Y7 H2 s.heap.objs.size (.dK [] 0)) s2.heap s.heap.objs.size (.dK [] 0):=(show Yp X.prog X.w (λ_=>aB) _ _ (.dK [] 0)from Sq s.heap I.big).stay (λb u hb z=>by
  rcases hb with rfl|hb
  .rw[TV]at z;cases z;exact p1
  .cases hb) (λ_ z=>nomatch z) (λ_ _ z=>nomatch z) λ_ _ z=>nomatch z
 have I3:eG X eB σ (Y7 H2 s.heap.objs.size (.dK [] 0)) s2:=eG.trackO (I2.pins_of (pins':=eB) λp hp=>I2.pin p (bp _ (ao _ hp))) UI p2 NA GG apart IB;obtain⟨z,hd,UY,r0,dd⟩:=z_ I3.hok ⟨_,(show Y7 H2 s.heap.objs.size (.dK [] 0) s.heap.objs.size=aA (.dK [] 0)from Yk)⟩;cases r0;refine⟨rs,c,dd,λh' UF hs=>?_⟩;have hz:(B7 [] kvs).length<=sizeLine:=by have h1:=Ra kvs [];rw[List.length_nil]at h1;rw[gp];omega
 have he:∃q,h'.get? s.heap.objs.size=aA q:=let⟨q,_,_,hq,_⟩:=UF;⟨q,hq⟩
 obtain⟨ep,ok⟩:=X4 hz hd (rk.merge .nil) UF;have I4:L2.eG X eB σ (Y7 (Y7 H2 s.heap.objs.size (.dK [] 0)) s.heap.objs.size (.dK (B7 [] kvs) ep)) {s2 with heap:=h',toks:=s2.toks+ws.length}:=Am I3 (by rw[Yk];exact True.intro) hs he (ok _);rw[lK]at I4;exact⟨.ref s.heap.objs.size,_,I4,rfl,q2 _ ep p2⟩
theorem Hs{K:af}{Z:eM K}(m:∀v H,Q v H->Q' v H)(h:Ze Z f σ H Q):Ze Z f σ H Q':=by refine Yx h λF δ own rv δ' s e k=>?_;exact⟨F,δ,own,rv,δ',s,e,λv H' F' own' a b c d=>m _ _ (k v H' F' own' a b c d)⟩
theorem Le:∀more acc,((acc++more).map (·.1)).Nodup->B7 acc more=acc++more
 | [],acc,_=>by show acc=acc++[];rw[List.append_nil]
 |p::r,acc,h=>by
  have e:Jd acc p.1 p.2=acc++[p]:=by unfold Jd;rw[dF];intro z;obtain⟨q,hq,z⟩:=List.any_eq_true.mp z;rw[b8,cz]at h;exact h.2.2 p.1 (ax.mpr ⟨q,hq,dL z⟩) p.1 (by simp) rfl
  show B7 (Jd acc p.1 p.2) r=_;rw[e,Le r (acc++[p]) (by simpa using h)];simp
@[simp]noncomputable def Pa(ss:List Str)(fd:FD):FD:=λδ=>(fd δ).bind λp=>some (ss.map D.str++p.1,p.2)
theorem mF{K}{Z:eM K}:∀ss {R:List V->Hp->Prop},Q5 Z (Pa ss fd) σ H R->Q5 Z fd σ H λvs H'=>R (ss.map V.str++vs) H'
 |ss,R,h=>by refine Yx h λF δ own ds δ' s e k=>?_;refine eL e λQZ δ1 e1 e2=>?_;cases e2;refine⟨F,δ,own,QZ,δ1,s,e1,λvs H' F' own' a b c r=>k _ H' F' own' a b c ?_⟩;exact eF.append (strs_rep ss) r
where strs_rep {F:Hp}:∀ss:List Str,eF K F (ss.map D.str) (ss.map V.str)
 | []=>.nil
 |x::r=>.cons (.str x) (strs_rep r)
noncomputable abbrev cst(x:Str×Nat×Pos):Expr:=.Constant (.str x.1) x.2.1 x.2.2
theorem Vi(h:PA X es t):∀l:List (Str×Nat×Pos),PA X (l.map cst++es) λσ H R=>t σ H λvs H'=>R ((l.map λx=>V.str x.1)++vs) H'
 | []=>h
 |x::r=>(B5 (e:=cst x) (es:=r.map cst++es) yz (Vi h r) rfl).imp λσ H R q=>q
theorem wL{Z:eM X.K}(l:List (Str×Nat×Pos))(h:PA X es (Q5 Z fd)):PA X (l.map cst++es) (Q5 Z (Pa (l.map (·.1)) fd)):=
 (Vi h l).imp λσ H R q=>by have:=mF (l.map (·.1)) q;rw[cp]at this;exact this
section
variable{α:Type}{P:List α->Prop}
@[elab_as_elim]theorem of1(h:∀a,P [a])(us)(hl:us.length=1):P us:=by obtain⟨a,e⟩:=List.length_eq_one_iff.mp hl;rw[e];exact h a
theorem ofC(h:∀a us,us.length=n->P (a::us))(us)(hl:us.length=n+1):P us:=by
 cases us with
 |nil=>exact dM hl (by simp)
 |cons a r=>exact h a r (by simpa using hl)
@[elab_as_elim]theorem of2(h:∀a b,P [a,b])(us)(hl:us.length=2):P us:=ofC (λa=>of1 (P:=λus=>P (a::us)) (h a)) us hl
@[elab_as_elim]theorem of3(h:∀a b c,P [a,b,c])(us)(hl:us.length=3):P us:=ofC (λa=>of2 (P:=λus=>P (a::us)) (h a)) us hl
@[elab_as_elim]theorem of4(h:∀a b c d,P [a,b,c,d])(us)(hl:us.length=4):P us:=ofC (λa=>of3 (P:=λus=>P (a::us)) (h a)) us hl
@[elab_as_elim]theorem of5(h:∀a b c d e,P [a,b,c,d,e])(us)(hl:us.length=5):P us:=ofC (λa=>of4 (P:=λus=>P (a::us)) (h a)) us hl
end
theorem E5(hs:(d==sysModules)=aD)(g:s.heap.get? d=aA od)(x:od.ExactDict)(c:od.data= .dict es ep)(k:Q (.ref s.heap.objs.size) {s with heap:=s.heap.push {cls:=.type "dict_keyiterator",data:=.fields #[.ref d,.int 0 0,.int es.size 0,.int ep 0]}}):bh (b9 prog w) A (pyIter (.ref d)) Q E s:=by
 have T:s.TypeIs (.ref d) "dict":=⟨od,g,x.1⟩
 refine wpAny_pyIter_slot T PySem.F.slot_dict_iter (d8 PySem.F.slot_dict_iter T PySem.F.entry_dict_iter (show bh _ _ (Builtin.«dict.__iter__» _) _ _ _ from ?_) (PySem.F.args_dict_iter_1 _));unfold Builtin.«dict.__iter__» Builtin.Dict.dictSlotNone;refine aa (aa (wpAny_notOrdered_dict T (show bh _ _ (pure (cr d)) _ _ s from ad ?_)));show bh _ _ (Builtin.Dict.showsAll d >>=_) _ _ s;unfold Builtin.Dict.showsAll;rw[dF (by rw[hs];decide)];refine aa (ad (aa (wpAny_dictEntries g c (aa (wpAny_dictEpoch g c (aa (g7 (ad ⟨_,rfl,"dict_keyiterator",_,⟨_,bi _ rfl,rfl⟩,iq.lookup,?_⟩))))))));simpa[rawInt]using k
theorem E6(t:s.heap.IsKeyIter q d i n ep)(g:s.heap.get? d=aA od)(c:od.data= .dict es ep)(hn:es.size=n)(he:es[i]? =aA e)(k:∀h',h'.IsKeyIter q d (i+1) n ep->gm q s.heap h'->Q (aA e.key) {s with heap:=h'}):bh (b9 prog w) A (pyNext (.ref q)) Q E s:=by
 refine Zp (id t) λo ho hc hd=>?_;have T:=t.typeIs;unfold pyNext;refine aa (wpAny_attempt (ij (name:="__next__") T iq (d8 iq T PySem.F.entry_dict_keyiterator_next (aa (ad (aa (aa ?_)))) (PySem.F.args_dict_keyiterator_next_1 _))))
 first| (refine aa (wpAny_typeNameOfWhole_keyiter T (ad (aa (wpAny_fieldsOf ho hd ?_)))))| (refine aa (wpAny_typeNameOf_keyiter T (ad (aa (wpAny_fieldsOf ho hd ?_)))))
 have z0:Builtin.Dict_items.ownsTuple "dict_keyiterator"=aD:=rfl;rw[z0];simp only[bx,if_false];show bh _ _ (ite ((cr d==de)=aC) _ _) _ _ s;rw[dF (show¬(cr d==de)=aC from λz=>bv z)];refine aa (ad (aa (wpAny_dictEntries g c ?_)));rw[dF (by rw[hn];simp)];refine aa (ad (aa (wpAny_dictEpoch g c ?_)));rw[dF (by simp)];have hi:i<es.size:=(gu.mp he).1;refine ad ?_;simp only[show¬((i:Int)<0) by omega,if_false,Int.toNat_natCast,he];refine aa ?_
 first| (refine aa (wpAny_typeNameOfWhole_keyiter T (ad (aa (wpAny_isOneOf_keyiter T ?_)))))| (refine aa (wpAny_typeNameOf_keyiter T (ad (aa (wpAny_isOneOf_keyiter T ?_)))))
 show bh _ _ (setField (.ref q) 1 (rawInt ((i:Int)+1)) >>=_) _ _ s;refine aa (wpAny_setField ho hd (by simp) ?_);have t':(s.heap.update q (Obj.mapFields (·.setIfInBounds 1 (rawInt ((i:Int)+1))))).IsKeyIter q d (i+1) n ep:=⟨_,ig _ ho (Obj.isFreed_of_fields (Obj.data_mapFields hd _)),(Obj.cls_mapFields ..).trans hc,(Obj.data_mapFields hd _).trans (by simp[rawInt])⟩
 refine aa (gn (aa (wpAny_isOneOf_keyiter (s:={s with heap:=s.heap.update q (Obj.mapFields (·.setIfInBounds 1 (rawInt ((i:Int)+1))))}) t'.typeIs (show bh _ _ (pure e.key) _ _ _ from ad (ad ⟨_,rfl,ad (k _ t' (ii ..))⟩)))))
theorem E7(hh:A.handled=aB)(t:s.heap.IsKeyIter q d i n ep)(g:s.heap.get? d=aA od)(c:od.data= .dict es ep)(hn:es.size=n)(hi:n<=i)(k:∀h',Heap.ExtBut q s.heap h'->Q aB {s with heap:=h'}):bh (b9 prog w) A (pyNext (.ref q)) Q E s:=by
 refine Zp (id t) λo ho hc hd=>?_;have T:=t.typeIs;unfold pyNext;refine aa (wpAny_attempt (ij (name:="__next__") T iq (d8 iq T PySem.F.entry_dict_keyiterator_next (aa (ad (aa (aa ?_)))) (PySem.F.args_dict_keyiterator_next_1 _))))
 first| (refine aa (wpAny_typeNameOfWhole_keyiter T (ad (aa (wpAny_fieldsOf ho hd ?_)))))| (refine aa (wpAny_typeNameOf_keyiter T (ad (aa (wpAny_fieldsOf ho hd ?_)))))
 have z0:Builtin.Dict_items.ownsTuple "dict_keyiterator"=aD:=rfl;rw[z0];simp only[bx,if_false];show bh _ _ (ite ((cr d==de)=aC) _ _) _ _ s;rw[dF (show¬(cr d==de)=aC from λz=>bv z)];refine aa (ad (aa (wpAny_dictEntries g c ?_)));rw[dF (by rw[hn];simp)];refine aa (ad (aa (wpAny_dictEpoch g c ?_)));rw[dF (by simp)];have he:es[i]? =aB:=Array.getElem?_eq_none (by omega);refine ad ?_;simp only[show¬((i:Int)<0) by omega,if_false,Int.toNat_natCast,he];refine aa ?_
 first| (refine aa (wpAny_typeNameOfWhole_keyiter T (ad ?_)))| (refine aa (wpAny_typeNameOf_keyiter T (ad ?_)))
 show bh _ _ (setField (.ref q) 0 de >>=_) _ _ s;refine aa (wpAny_setField ho hd (by simp) (show bh _ _ (newExc (.type "StopIteration") [] >>=_) _ _ _ from aa ?_));simp only[newExc,newTuple];refine aa (g7 (aa (m:=firstArgMember _ _) (wpAny_of_eq (a:=de) (by first|rfl| (simp only[firstArgMember];rfl)) (g7 ?_ (by size_fits)))) (by size_fits));simp only[raiseNew];refine aa (wpAny_handled ?_);rw[show A.in1.handled=Option.none from hh];refine aa (ad (wpAny_throw ?_));refine aa (wpAny_isInstance (T:="StopIteration") (b:=aC) (by exact⟨_,bi _ rfl,rfl⟩) isSubtype_stop ?_);exact ad (k _ (((ii ..).extBut.push _).push _))
theorem wK(h:(Zs P w).is k u=aC):Zy (kV k) u:=by
 rcases Ye h with⟨i,t,rfl,rfl⟩|⟨x,t,rfl,rfl⟩
 .exact⟨t,rfl⟩
 .exact⟨t,rfl⟩
def Itk(a:au)(n ep:Nat):It:=
 ⟨λi H=>∃kvs,H a=aA (.dK kvs ep)/\kvs.length=n/\i<n,λi H x H'=>H'=H/\∃kvs kv,H a=aA (.dK kvs ep)/\kvs[i]? =aA kv/\x=kV kv.1,λi H=>∃kvs,H a=aA (.dK kvs ep)/\kvs.length=n/\n<=i⟩
noncomputable def Itd(a:au)(n ep:Nat):It:=
 ⟨λi H=>∃kvs bs,H a=aA (.dT kvs ep bs)/\kvs.length=n/\i<n,λi H x H'=>H'=H/\∃kvs bs b,H a=aA (.dT kvs ep bs)/\bs[i]? =aA b/\x= .ref b,λi H=>∃kvs bs,H a=aA (.dT kvs ep bs)/\kvs.length=n/\n<=i⟩
theorem Pb{h h':f8}(t:h.IsKeyIter q d i n ep)(k:∀o,h.get? q=aA o->h'.get? q=aA o):h'.IsKeyIter q d i n ep:=let⟨o,e,r⟩:=t;⟨o,k o e,r⟩
theorem kX(h:Pairs (Zs P w) es vs){i:Nat}(hi:vs[i]? =aA kv):∃e,es[i]? =aA e/\(Zs P w).is kv.1 e.key=aC:=by
 induction h generalizing i with
 |nil=>simp at hi
 | @cons e0 kv0 es0 OO h1 h2 _ ih=>
  cases i with
  |zero=>simp at hi;subst hi;exact⟨e0,by simp,h1⟩
  |succ j=>obtain⟨e,a1,a2⟩:=ih (i:=j) (by simpa using hi);exact⟨e,by simpa using a1,a2⟩
theorem Tc(h:Pairs (Zs P w) es vs):es.length=vs.length:=by
 induction h with
 |nil=>rfl
 |cons _ _ _ ih=>rw[bc,bc,ih]
theorem U7{l:List α}{m:List β}(h:Paired R l m):∀{i:Nat} {x:α},l[i]? =aA x->∃y,m[i]? =aA y/\R x y:=by
 induction h with
 |nil=>intro i x hi;simp at hi
 | @cons a b as bs h1 t ih=>
  intro i x hi;cases i with
  |zero=>simp at hi;subst hi;exact⟨b,by simp,h1⟩
  |succ j=>obtain⟨y,a1,a2⟩:=ih (i:=j) (by simpa using hi);exact⟨y,by simpa using a1,a2⟩
theorem Cd{P:cg}{w:dn}{K:af}{tg:da}(a it:au)(n ep:Nat):Turn P w K tg (Itk a n ep) [it] it (λi h=>h.IsKeyIter it a i n ep)where
 mem:=ac
 obj:=λi h st b hb=>by obtain rfl:=aj.mp hb;refine Zp st λo e c d=>?_;exact⟨o,e,λv z=>by rw[d]at z;cases z⟩
 keep:=λi h h' st k=>Pb st λo e=>k it ac o e
 item:=by
  intro X hP hw hK hc i eB s σ H E I hf st hg;subst hP hw hK;refine Zp hg λkvs hq hn hi=>?_;obtain⟨z,hd,vs,rel,od,es,g,x,c,ko,pr,nd⟩:=(show Yp X.prog X.w H s.heap a (.dK kvs ep)from I.hok a _ hq)
  refine Qi (hf it ac) λf0 f1 f2 f3 f4 f5=>?_;have TW:kvs[i]? =aA (kvs[i]'(by omega)):=ar (by omega);obtain⟨vv,hv,hr⟩:=U7 rel TW;obtain⟨e,he,HV⟩:=kX pr hv;have hz:es.size=n:=by rw[<-ba,Tc pr,<-Paired.length rel,hn]
  refine E6 st g c hz (e:=e) (by rw[<-dh];exact he) λh' YD sb=>?_;have I1:eG X eB σ H {s with heap:=h'}:=I.turned (t':=s.toks) (λb o hb e=>(sb.2 b hb).trans e) f0 f1 f3 f4 f5;refine Zp (id YD) λo e1 c1 d1=>?_;exact⟨e.key,rfl,Eg (s:={s with heap:=h'}) e1 c1 d1 (by decide) ⟨kV (kvs[i]'(by omega)).1,H,I1,wK (by rw[hr.1];exact HV),⟨rfl,kvs,_,hq,TW,rfl⟩,YD,λb hb=>(hf b hb).1⟩⟩
 done:=by
  intro X hP hw hK hc i eB s σ H E I hf st hg;subst hP hw hK;refine Zp hg λkvs hq hn hi=>?_;obtain⟨z,hd,vs,rel,od,es,g,x,c,ko,pr,nd⟩:=(show Yp X.prog X.w H s.heap a (.dK kvs ep)from I.hok a _ hq)
  refine Qi (hf it ac) λf0 f1 f2 f3 f4 f5=>?_;have hz:es.size=n:=by rw[<-ba,Tc pr,<-Paired.length rel,hn]
  exact E7 (I.ok.hd hc) st g c hz hi λh' eb=>⟨rfl,I.turned (t':=s.toks) (λb o hb e=>eb b o hb e) f0 f1 f3 f4 f5⟩
 self:=λ_ _ s _ _ st h=>by exact wpAny_pyIter_slot st.typeIs PySem.F.slot_dict_keyiterator_iter (d8 PySem.F.slot_dict_keyiterator_iter st.typeIs PySem.F.entry_dict_keyiterator_iter (by exact ad ⟨_,rfl,"dict_keyiterator",_,st.typeIs,iq.lookup,h⟩) (PySem.F.args_dict_keyiterator_iter_1 _))
theorem mE{P:cg}{w:dn}{K:af}{tg:da}(a it:au)(n ep:Nat):Turn P w K tg (Itd a n ep) [it] it (λi h=>h.IsKeyIter it a i n ep)where
 mem:=ac
 obj:=(Cd (P:=P) (w:=w) (K:=K) (tg:=tg) a it n ep).obj
 keep:=(Cd (P:=P) (w:=w) (K:=K) (tg:=tg) a it n ep).keep
 item:=by
  intro X hP hw hK hc i eB s σ H E I hf st hg;subst hP hw hK;refine Y9 hg λkvs bs hq hn hi=>?_;obtain⟨z,hd,xs,rel,od,es,g,x,c,en,nd,UB⟩:=(show Yp X.prog X.w H s.heap a (.dT kvs ep bs)from I.hok a _ hq)
  refine Qi (hf it ac) λf0 f1 f2 f3 f4 f5=>?_;have TW:kvs[i]? =aA (kvs[i]'(by omega)):=ar (by omega);obtain⟨vv,hv,hr⟩:=U7 rel TW;have hz:es.size=n:=by rw[<-ba,en,ah,<-Paired.length rel,hn]
  have he:es[i]? =aA (entryOfKey (tupleKind (Zs X.prog X.w)) vv):=by rw[<-dh,en,az,hv];rfl
  refine E6 st g c hz he λh' YD sb=>?_;have I1:eG X eB σ H {s with heap:=h'}:=I.turned (t':=s.toks) (λb o hb e=>(sb.2 b hb).trans e) f0 f1 f3 f4 f5;refine Zp (id YD) λo e1 c1 d1=>?_;exact⟨.ref vv.2.1,rfl,Eg (s:={s with heap:=h'}) e1 c1 d1 (by decide) ⟨.ref vv.2.1,H,I1,rfl,⟨rfl,kvs,bs,vv.2.1,hq,by rw[<-UB,az,hv];rfl,rfl⟩,YD,λb hb=>(hf b hb).1⟩⟩
 done:=by
  intro X hP hw hK hc i eB s σ H E I hf st hg;subst hP hw hK;refine Y9 hg λkvs bs hq hn hi=>?_;obtain⟨z,hd,xs,rel,od,es,g,x,c,en,nd,UB⟩:=(show Yp X.prog X.w H s.heap a (.dT kvs ep bs)from I.hok a _ hq)
  refine Qi (hf it ac) λf0 f1 f2 f3 f4 f5=>?_;have hz:es.size=n:=by rw[<-ba,en,ah,<-Paired.length rel,hn]
  exact E7 (I.ok.hd hc) st g c hz hi λh' eb=>⟨rfl,I.turned (t':=s.toks) (λb o hb e=>eb b o hb e) f0 f1 f3 f4 f5⟩
 self:=(Cd (P:=P) (w:=w) (K:=K) (tg:=tg) a it n ep).self
def BZ(tl:TE):TI:=λσ H R=>tl σ H λx H1=>(∃a kvs ep,x= .ref a/\H1 a=aA (.dK kvs ep)/\R (Itk a kvs.length ep) H1)\/(∃a kvs ep bs,x= .ref a/\H1 a=aA (.dT kvs ep bs)/\R (Itd a kvs.length ep) H1)
theorem pB(hl:PE X l tl):PI X tg l (BZ tl):=by
 intro eB s σ H R I h;refine Wq (hl eB s σ H _ I h) λv s1 ZE=>?_;obtain⟨x,H1,I1,r1,q1⟩:=ZE;rcases q1 with⟨a,kvs,ep,rfl,hq,q⟩|⟨a,kvs,ep,bs,rfl,hq,q⟩
 .cases r1;obtain⟨z,hd,vs,rel,od,es,g,x,c,ko,pr,nd⟩:=(show Yp X.prog X.w H1 s1.heap a (.dK kvs ep)from I1.hok a _ hq)
  have hz:es.size=kvs.length:=by rw[<-ba,Tc pr,<-Paired.length rel]
  refine E5 hd g x c ⟨s1.heap.objs.size,[s1.heap.objs.size],_,_,H1,rfl,I1.kept (t':=s1.toks) λb o e=>aq _ e,Cd a _ kvs.length ep,⟨_,bi _ rfl,rfl,by rw[hz];rfl⟩,λb hb=>?_,q⟩;obtain rfl:=aj.mp hb;exact I1.fpOk (bf _) (I1.hok.fresh (bf _))
 .cases r1;obtain⟨z,hd,xs,rel,od,es,g,x,c,en,nd,UB⟩:=(show Yp X.prog X.w H1 s1.heap a (.dT kvs ep bs)from I1.hok a _ hq)
  have hz:es.size=kvs.length:=by rw[<-ba,en,ah,<-Paired.length rel]
  refine E5 hd g x c ⟨s1.heap.objs.size,[s1.heap.objs.size],_,_,H1,rfl,I1.kept (t':=s1.toks) λb o e=>aq _ e,mE a _ kvs.length ep,⟨_,bi _ rfl,rfl,by rw[hz];rfl⟩,λb hb=>?_,q⟩;obtain rfl:=aj.mp hb;exact I1.fpOk (bf _) (I1.hok.fresh (bf _))
section
variable{K:af}
@[simp]noncomputable def Ah:Key->D
 | .inl i=>.int i
 | .inr x=>.str x
theorem Vj(k):eP K F (Ah k) (kV k):=by
 cases k with
 |inl i=>exact .int i
 |inr x=>exact .str x
theorem Td:∀k:List Key,eF K F (k.map Ah) (k.map kV)
 | []=>.nil
 |k::r=>.cons (Vj k) (Td r)
theorem j8(h:F a=aA (.dK kvs ep)):Bb K (Itk a kvs.length ep) F ((kvs.map (·.1)).map Ah):=λF' H sF sH i=>by have q:H a=aA (.dK kvs ep):=sH _ _ (sF _ _ h);refine⟨λd hd=>?_,λhl=>⟨kvs,q,rfl,by simpa using hl⟩⟩;rw[cp,az]at hd;obtain⟨kv,h1,h2⟩:=cu.mp hd;refine⟨⟨kvs,q,rfl,(aw.mp h1).1⟩,λx H' ⟨e1,kvs',kv',e2,e3,e4⟩=>?_⟩;subst e1;rw[q]at e2;cases e2;rw[h1]at e3;cases e3;subst e4;rw[<-h2];exact⟨Zk.refl _,[],c7,λ_ h=>(nomatch h),Vj _⟩
theorem j7(h:F a=aA (.dT kvs ep bs))(kb:KB F kvs bs):Bb K (Itd a kvs.length ep) F ((kvs.map (·.1)).map λk=>D.tup (k.map Ah)):=λF' H sF sH i=>by have q:H a=aA (.dT kvs ep bs):=sH _ _ (sF _ _ h);refine⟨λd hd=>?_,λhl=>⟨kvs,bs,q,rfl,by simpa using hl⟩⟩;rw[cp,az]at hd;obtain⟨kv,h1,h2⟩:=cu.mp hd;refine⟨⟨kvs,bs,q,rfl,(aw.mp h1).1⟩,λx H' ⟨e1,kvs',bs',b,e2,e3,e4⟩=>?_⟩;subst e1;rw[q]at e2;cases e2;subst e4;obtain⟨b',g1,g2⟩:=U7 (kb.mono sF) h1;rw[e3]at g1;cases g1;rw[<-h2];exact⟨Zk.refl _,[],c7,λ_ h=>(nomatch h),.tup g2 (Td _)⟩
@[simp]def Pc(fe:FE):FD:=λδ=>(fe δ).bind λp=>(frz p.1 p.2).bind λq=>match q.1 with
 | .dK ks _=>aA (ks.map Ah,q.2)
 | .dT ks _=>aA (ks.map λk=>D.tup (k.map Ah),q.2)
 |_=>aB
theorem pA{Z:eM K}(h:Ql Z (Pc fe) σ H R):BZ (Ze Z fe) σ H R:=by
 refine Yx h λF δ own ds δ' s e k=>?_;refine eL e λrv δ1 e1 e2=>?_;refine eL e2 λd δ2 e3 e4=>?_;refine⟨F,δ,own,rv,δ1,s,e1,λv H1 F1 ZA sH sF s1 r1=>?_⟩;refine Zp (s1.settleR r1) λF2 ZG s2 r2=>?_;refine Y9 (s2.frzR r2 e3) λF3 ZH ZR s3 r3=>?_;dsimp only at e4;split at e4
 .cases e4;cases r3 with
  |dK h e r=>subst e;exact .inl ⟨_,_,_,rfl,s3.le _ _ h,k _ H1 F3 ZH sH (sF.trans (ZG.trans ZR)) s3 (j8 h)⟩
 .cases e4;cases r3 with
  |dT h kb e r=>subst e;exact .inr ⟨_,_,_,_,rfl,s3.le _ _ h,k _ H1 F3 ZH sH (sF.trans (ZG.trans ZR)) s3 (j7 h kb)⟩
 .cases e4
theorem E8{Z:eM X.K}(ha:PE X a (Ze Z fa)):PI X tg a (Ql Z (Pc fa)):=λeB s σ H R I h=>pB ha eB s σ H R I (pA h)
end
theorem zP{X:Cx}{pos:Pos}(i)(hN:‹X.N[i]? =aA x›)(hv:‹Xp X.env.scope x›)(hd:‹(x==("__debug__":Str))=aD›)(ZS:‹(x==("__classdict__":Str))=aD›):PE X (.Name x pos) (R8 i):=Oa hN hv hd ZS
theorem Vk:∀{xs ys:List Str},xs.map V.str=ys.map V.str->xs=ys
 | [],[],_=>rfl
 | [],_::_,h=>by simp at h
 |_::_,[],h=>by simp at h
 |x::xs,y::ys,h=>by simp only[ay,List.cons.injEq]at h;obtain⟨h1,h2⟩:=h;cases h1;rw[Vk h2]
theorem Vl:∀{xs:List V} {eC:List ag},xs.length=eC.length->(∀(j:Nat) x v,xs[j]? =aA x->eC[j]? =aA v->Zy x v)->Z5 xs eC
 | [],[],_,_=>.nil
 |x::xs,v::eC,h,g=>.cons (g 0 x v rfl rfl) (Vl (by simpa using h) λj x v a b=>g (j+1) x v (by simpa using a) (by simpa using b))
 | [],_::_,h,_=>nomatch h
 |_::_,[],h,_=>nomatch h
def yX:List V->Hp->VK->Prop:=λxs H Q=>∃p kvs,xs=[.ref p]/\RdK H p kvs/\∀l,H l=aB->Q (.ref l) (Y7 H l (.lst (kvs.map λkv=>kV kv.1)))
theorem E9(hc:X.calm=aC):Jq X (.type "list") yX:=by
 intro eB s σ H xs us Q I r h;obtain⟨p,kvs,rfl,⟨ep,e⟩,q⟩:=h;obtain⟨u,rfl,rx⟩:=Uu r;cases rx;obtain⟨z,hd,vs,rel,dd⟩:=(show Yp X.prog X.w H s.heap p (.dK kvs ep)from DE I.hok e)
 have hl:vs.length=kvs.length:=(Paired.length rel).symm;refine PySem.W.kdl_call (PySem.W.kdl_dict (knd:=Zs X.prog X.w) (kvs:=vs) (ep:=ep) hd) (I.ok.hd hc) dd (by rw[hl];exact z) λh' tk N_ c' hk hD WB=>?_;have hv:Z5 (kvs.map λkv=>kV kv.1) N_.toList:=by refine Vl ((ah _).trans (hl.symm.trans (WB.1.symm.trans (ba).symm))) λj x v hx hv=>?_;obtain⟨k,y,e1,e2⟩:=WB.2 j v (by rw[<-dh];exact hv);rw[az]at hx;obtain⟨kv,e3,e4⟩:=cu.mp hx;refine Zp (U7 rel e3) λq' e5 e6 _=>?_;rw[e5]at e1;cases e1;rw[<-e4,e6];exact wK e2
 exact⟨.ref s.heap.objs.size,_,I.laid (t':=tk) hk (bf _) (show Yp X.prog X.w _ h' _ (.lst (kvs.map λkv=>kV kv.1))from⟨by rw[ah];exact z,N_.toList,c',hv,by simpa using hD⟩),rfl,q _ (I.hok.fresh (bf _))⟩
section
variable{K:af}
noncomputable def Lf:List D->Option SV
 | [.dK ks _]=>aA (.ol (ks.map Ah))
 |_=>aB
@[simp]theorem fH(ks vs):Lf [.dK ks vs]=some (.ol (ks.map Ah)):=rfl
theorem q_{Z:eM K}:Oc Z yX Lf:=by
 intro F H σ δ own vs ds sv Q s r e k;unfold Lf at e;split at e
 .cases e;cases r with
  |cons h t=>
   cases t;obtain⟨a,kvs,rfl,ha,ek,rr⟩:=h.dK s.le;refine⟨a,kvs,rfl,ha.rd,λl hl=>?_⟩;rw[<-ek]at k;have hr:=Td (K:=K) (F:=F) (kvs.map (·.1));have hr:eF K F ((kvs.map (·.1)).map Ah) (kvs.map λkv=>kV kv.1):=by rw[cp (g:=kV)]at hr;exact hr
   exact k.one s (.ol hr) hl
 .cases e
section
variable{X:Cx}{Z:eM X.K}{a b c:da}{fa fb fc:FE}{pos:Pos}
theorem yW{p}(hc:X.calm=aC)(hm:X.mg "list"=aB)(ha:PE X a (Ze Z fa))(hg:‹Gl X "list"›)(he:‹bd [a] X.env=(aD,ip a X.env)::bd [] X.env›)(ZI:‹(gd pos (bd [] X.env)).any (·.1)=aD›):PE X (.Call (.Name "list" p) [a] [] pos) (Ze Z (Yq Lf (Zc fa Zi))):=
 Mf (E9 hc) q_ hm boot_list (Zh ha Z4 he) hg (by decide) (by decide) he ZI
end
end
section
variable{K:af}
@[simp]noncomputable def Lg:List D->Option SV
 | [.lst xs]=>aA (.fz (.int (xs.length:Nat)))
 | [.tup xs]=>aA (.fz (.int (xs.length:Nat)))
 | [.str x]=>if x.length<=cf then aA (.fz (.int (x.length:Nat)))else aB
 | [.dK ks _]=>aA (.fz (.int (ks.length:Nat)))
 |_=>aB
theorem q5{Z:eM K}:Oc Z (λxs H Q=>((∃p ys,xs=[V.ref p]/\(Bm K H p ys\/Mx K H p ys)/\Q (.int ys.length) H)\/(∃z,xs=[V.str z]/\z.length<=cf/\Q (.int z.length) H))\/(∃a kvs,xs=[V.ref a]/\HK H a kvs/\Q (.int kvs.length) H)) Lg:=by
 intro F H σ δ own vs ds sv Q s r e k;unfold Lg at e;split at e
 .exact .inl (KZ F H σ δ own vs _ sv Q s r e k)
 .exact .inl (KZ F H σ δ own vs _ sv Q s r e k)
 .exact .inl (KZ F H σ δ own vs _ sv Q s r e k)
 .cases e;cases r with
  |cons h t=>cases t;refine Cu (h.dK s.le) λa kvs ex ha ek ra=>?_;subst ex;exact .inr ⟨a,kvs,rfl,ha,by rw[<-ah (f:=λx=>x.1) (as:=kvs),ek];exact k.fz s (.int _)⟩
 .cases e
section
variable{X:Cx}{Z:eM X.K}{a:da}{fa:FE}{pos:Pos}
theorem Ht{p}(hm:X.mg "len"=aB)(ha:PE X a (Ze Z fa))(hg:‹Gl X "len"›)(he:‹bd [a] X.env=(aD,ip a X.env)::bd [] X.env›)(ZI:‹(gd pos (bd [] X.env)).any (·.1)=aD›):PE X (.Call (.Name "len" p) [a] [] pos) (Ze Z (Yq Lg (Zc fa Zi))):=
 Ao ((Ma.or Mb).or iJ) q5 hm PySem.boot_len (Zh ha Z4 he) hg (by decide) (by decide) he ZI
end
end
open Classical in
def res(S:au->Prop)(F:Hp):Hp:=λb=>if S b then F b else aB
def Ce(l:List Nat):Prop:=l.Pairwise (· < ·)
def At(xs:Array Nat)(j p:Nat):Prop:=p<=xs.size/\(∀i y,i<p->xs[i]? =aA y->y<j)/\∀i y,p<=i->xs[i]? =aA y->j<=y
theorem Cf{xs:Array Nat}(h:Ce xs.toList){i:Nat}(hi:xs[i]? =aA y)(hk:xs[k]? =aA z)(v9:i<k):y<z:=by rw[<-dh]at hi hk;obtain⟨a,ha⟩:=aw.mp hi;obtain⟨b,hb⟩:=aw.mp hk;have:=List.pairwise_iff_getElem.mp h i k a b v9;rw[ha,hb]at this;exact this
theorem ET(h:Ce xs.toList):∀fuel lo hi,hi<=lo+fuel->lo<=hi->hi<=xs.size->(∀i y,i<lo->xs[i]? =aA y->y<j)->(∀i y,hi<=i->xs[i]? =aA y->j<=y)->At xs j (SetTable.below.go xs j fuel lo hi)
 |0,lo,hi,h1,h2,h3,a,b=>by
  have:lo=hi:=by omega
  subst this;unfold SetTable.below.go;exact⟨h3,a,b⟩
 |fuel+1,lo,hi,h1,h2,h3,a,b=>by
  unfold SetTable.below.go;by_cases hl:lo<hi
  .rw[dG hl];dsimp only;have hm:(lo+hi) / 2<xs.size:=by omega
   have hg:xs.getD ((lo+hi) / 2) j=xs[(lo+hi) / 2]:=by simp[Array.getD,hm]
   have he:xs[(lo+hi) / 2]? =aA xs[(lo+hi) / 2]:=by simp[hm]
   by_cases hc:xs.getD ((lo+hi) / 2) j<j
   .rw[dG hc];refine ET h fuel _ hi (by omega) (by omega) h3 (λi y hi' e=>?_) b;by_cases hq:i=(lo+hi) / 2
    .subst hq;rw[he]at e;cases e;rw[<-hg];exact hc
    .have:=Cf h e he (by omega);rw[hg]at hc;omega
   .rw[dF hc];refine ET h fuel lo _ (by omega) (by omega) (by omega) a (λi y hi' e=>?_);by_cases hq:i=(lo+hi) / 2
    .subst hq;rw[he]at e;cases e;rw[<-hg];omega
    .have:=Cf h he e (by omega);rw[hg]at hc;omega
  .rw[dF hl];have:lo=hi:=by omega
   subst this;exact⟨h3,a,b⟩
theorem Ia(h:Ce xs.toList)(j):At xs j (SetTable.below xs j):=
 ET h xs.size 0 xs.size (by omega) (gq _) (bf _) (λi _ z=>dM z (by omega)) λi y z e=>by have:=(gu.mp e).1;omega
theorem wJ(a:At xs j p)(b:At xs j q):p=q:=by
 rcases Nat.lt_trichotomy p q with h|h|h
 .have hp:p<xs.size:=by have:=b.1;omega
  have e:xs[p]? =aA xs[p]:=by simp[hp]
  have:=a.2.2 p _ (bf _) e;have:=b.2.1 p _ h e;omega
 .exact h
 .have hq:q<xs.size:=by have:=a.1;omega
  have e:xs[q]? =aA xs[q]:=by simp[hq]
  have:=b.2.2 q _ (bf _) e;have:=a.2.1 q _ h e;omega
theorem Vm(h:Ce xs.toList)(hn:xs[SetTable.below xs j]?≠aA j):Ce (SetTable.insertAt xs (SetTable.below xs j) j).toList:=by
 have a:=Ia h j;generalize SetTable.below xs j=p at*;rw[SetTable.toList_insertAt];obtain⟨a1,a2,a3⟩:=a;have lo:∀y∈xs.toList.take p,y<j:=λy hy=>by
  obtain⟨i,hi,e⟩:=dy hy;rw[List.getElem_take]at e;have hi':i<p:=by simp at hi;omega
  refine a2 i y hi' ?_;rw[<-dh,aw];exact⟨_,e⟩
 have hi:∀y∈xs.toList.drop p,j<y:=λy hy=>by
  obtain⟨i,hi,e⟩:=dy hy;rw[List.getElem_drop]at e;have ep:xs[p+i]? =aA y:=by rw[<-dh,aw];exact⟨_,e⟩
  have h1:=a3 (p+i) y (by omega) ep;rcases Nat.lt_or_eq_of_le h1 with z|z
  .exact z
  .subst z;cases i with
   |zero=>exact dM ep hn
   |succ i=>
    have hp:p<xs.size:=by have:=(gu.mp ep).1;omega
    have e0:xs[p]? =aA xs[p]:=by simp[hp]
    have q1:=a3 p _ (bf _) e0;have q2:=Cf h e0 ep (by omega);omega
 refine List.pairwise_append.mpr ⟨h.sublist (List.take_sublist _ _),List.pairwise_cons.mpr ⟨hi,h.sublist (List.drop_sublist _ _)⟩,λa ha b hb=>?_⟩;rcases b7.mp hb with z|z
 .rw[z];exact lo a ha
 .exact Nat.lt_trans (lo a ha) (hi b z)
structure Tab(B:Bool)(t:fj):Prop where
 led:t.led= !B
 dum:t.dummies= #[]
 rise:t.plain=aC->Ce t.place.toList
theorem Aq(j):SetTable.has #[] j=aD:=by unfold SetTable.has;simp
theorem Tab.fresh(B f m):Tab B (SetTable.fresh f m (!B)):=⟨rfl,rfl,λ_=>List.Pairwise.nil⟩
theorem Tab.standIn(h:Tab B t)(n):Tab B (t.standIn n):=⟨h.led,rfl,λz=>nomatch z⟩
theorem Tab.or(h:Tab B t)(n):Tab B (t.orStandIn n):=by
 unfold SetTable.orStandIn;split
 .exact h
 .exact h.standIn n
theorem Tab.plainOff(h:Tab B t):Tab B {t with plain:=aD}:=⟨h.led,h.dum,λz=>nomatch z⟩
theorem T0(hd:t.dummies= #[])(f h):∀n p,p.dummy=aB->∀j d,SetTable.probe.go t f h n p=aA (.empty j d)->d=aB/\t.place[SetTable.below t.place j]?≠aA j
 |0,p,_,j,d,e=>by unfold SetTable.probe.go at e;cases e
 |n+1,p,hp,j,d,e=>by
  unfold SetTable.probe.go at e;have GQ:∀q:SetTable.Probe,(t.advance q).dummy=q.dummy:=λq=>by
   unfold SetTable.advance;split
   .rfl
   .rfl
  cases hs:t.slot p.j with
  |empty=>rw[hs]at e;dsimp only at e;cases e;refine⟨hp,λz=>?_⟩;unfold SetTable.slot at hs;dsimp only at hs;rw[dG (by rw[z];simp)]at hs;cases hs
  |dummy=>
   unfold SetTable.slot at hs;dsimp only at hs;rw[hd,Aq]at hs;split at hs
   .cases hs
   .simp at hs
  |live i=>
   rw[hs]at e;dsimp only at e;split at e
   .cases e
   .exact T0 hd f h n _ ((GQ p).trans hp) j d e
theorem mD{t:fj}(hd:t.dummies= #[])(e:t.freeSlot h=aA (j,b)):t.place[SetTable.below t.place j]?≠aA j:=by
 unfold SetTable.freeSlot at e;split at e
 .rename_i j' d hq;cases e;unfold SetTable.probe at hq;obtain⟨rfl,z⟩:=T0 hd _ _ _ _ rfl _ _ hq;exact z
 .cases e
theorem Tab.put(h:Tab B t)(hn:t.place[SetTable.below t.place j]?≠aA j):Tab B (t.put j).1:=by unfold SetTable.put;dsimp only;refine⟨h.led,?_,λz=>Vm (h.rise z) hn⟩;dsimp only;rw[h.dum,Aq];rfl
theorem Tab.layNew{B:Bool}{t:fj}(h:Tab B t)(es:Array (Int×ag))(k:Int)(x:ag):Tab B (layNew t es k x).2.1:=by
 unfold PySem.layNew;split
 .rename_i slot wd hf;exact(h.put (mD h.dum hf)).or _
 .exact h.standIn _
theorem Tab.relay(h:Tab B t)(es n):Tab B (relayAll t es n).2.1:=by
 unfold relayAll;split
 .rename_i t' ZT hr;dsimp only;split
  .unfold SetTable.relaid SetTable.laid at hr;refine eK hr λowner ho e=>?_;cases e;refine⟨h.led,rfl,λ_=>?_⟩;unfold Ce;dsimp only;rw[du];refine List.Pairwise.filterMap _ (λa b YW c hc d hd=>?_) List.pairwise_lt_range;obtain⟨_,_,rfl⟩:=cu.mp hc;obtain⟨_,_,rfl⟩:=cu.mp hd;exact YW
  .exact h.standIn _
 .exact h.standIn _
noncomputable abbrev FN(l:List (Int×ag)):List Int:=l.map λe=>numOf e.2
def Own(prog:cg)(w:dn)(B:Bool)(o:Obj)(ks:List Int):Prop:=∃es ep t,o.ExactSet/\o.data= .set es ep t/\ElemsOf (intKind prog w) es.toList/\(FN es.toList).Perm ks/\t.fits es.size=aC/\Tab B t/\es.size<scanBound
theorem Lh(h:(intKind prog w).is k v=aC):∃t,v= .int k t:=Value.isInt_shape h
theorem Vn(h:ElemsOf (intKind prog w) l)(he:e∈l):∃t,e.2= .int (numOf e.2) t:=by obtain⟨⟨k,hk,_⟩,_⟩:=h e he;obtain⟨t,ht⟩:=Lh hk;exact⟨t,by rw[ht];rfl⟩
theorem yV(h:ElemsOf (intKind prog w) l)(he:e∈l):(intKind prog w).is k e.2=aC↔numOf e.2=k:=by
 obtain⟨t,ht⟩:=Vn h he;constructor
 .intro z;obtain⟨u,hu⟩:=Lh z;rw[hu];rfl
 .intro z;rw[ht,z];exact intKind_is _ _ _ _
theorem yh{g:Bool->Sem Unit}(hg:∀b s' Q,Q () s'->bh (b9 prog w) A (g b) Q E s')(ho:s.heap.get? a=aA o)(hx:o.ExactSet)(hd:o.data= .set es0 ep t0)(el:ElemsOf (intKind prog w) ZK.toList)(pm:(FN ZK.toList).Perm ks)(hb:ZK.size<scanBound)(hf:t1.fits ZK.size=aC)(ht:Tab B t1)(h:∀h' o',gm a s.heap h'->h'.get? a=aA o'->Own prog w B o' ks->R (aA aC) {s with heap:=h'}):
  bh (b9 prog w) A (do
   storeSet a ZK t1
   if(!wd&&t1.tooFull)=aC then do
    g (relayAll t1 ZK (SetTable.grown ZK.size)).2.2
    storeSet a (relayAll t1 ZK (SetTable.grown ZK.size)).1 (relayAll t1 ZK (SetTable.grown ZK.size)).2.1
    pure (aA aC)
   else pure (aA aC)) R E s:=by
 have o1:(s.heap.update a (Obj.putSet ZK t1)).get? a=aA {o with data:=.set ZK (ep+1) t1}:=by have z:=ig (Obj.putSet ZK t1) ho (by rw[putSet_of ZK t1 hd];rfl);rw[putSet_of ZK t1 hd]at z;exact z
 have b1:=ii s.heap a (Obj.putSet ZK t1);refine aa (wpAny_storeSet_of ho hd ?_ (fits_of_scanBound hb));split
 .have q1:=relayAll_perm t1 ZK (SetTable.grown ZK.size);have q2:=relayAll_fits t1 ZK (SetTable.grown ZK.size);have q3:=ht.relay ZK (SetTable.grown ZK.size);generalize relayAll t1 ZK (SetTable.grown ZK.size)=L at*;obtain⟨QY,t2,gv⟩:=L;dsimp only at q1 q2 q3⊢;have sz:QY.size=ZK.size:=by rw[<-ba,q1.length_eq,ba]
  have WT:QY.size<scanBound:=by omega
  refine aa (hg _ _ _ ?_);refine aa (wpAny_storeSet_of o1 rfl ?_ (fits_of_scanBound WT));have o2:=ig (Obj.putSet QY t2) o1 (by rw[putSet_of QY t2 rfl];rfl);rw[putSet_of QY t2 rfl]at o2;exact ad (h _ _ (b1.trans (ii _ a _)) o2 ⟨QY,_,t2,hx,rfl,el.perm q1,(q1.map _).trans pm,q2,q3,WT⟩)
 .exact ad (h _ _ b1 o1 ⟨ZK,_,t1,hx,rfl,el,pm,hf,ht,hb⟩)
theorem qz(ho:s.heap.get? a=aA o)(hS:Own prog w B o ks)(hr:ks.length+1<scanBound)(h:∀h' o' b,gm a s.heap h'->h'.get? a=aA o'->Own prog w B o' (if k∈ks then ks else ks++[k])->Q b {s with heap:=h'}):
  bh (b9 prog w) A (setAddHashed a (.int k t) (hashInt k)) Q E s:=by
 obtain⟨es,ep,tb,hx,hd,el,pm,hf,ht,hb⟩:=hS;have hk:(intKind prog w).is k (.int k t)=aC:=intKind_is _ _ _ _;have sz:es.size=ks.length:=by have:=pm.length_eq;rw[ah,ba]at this;exact this
 unfold setAddHashed setAddHashedIn;refine gn (aa (wpAny_setState_of ho hd hf ?_));dsimp only;rw[byScan_of (knd:=intKind prog w) (x:=.int k t) rfl hb el];simp only[↓reduceIte];unfold setAddByScan;refine aa (aa (wpAny_rule (aa (wpAny_setScan_of (knd:=intKind prog w) (k:=k) hk ho hd hf el ?_))));cases hq:es.toList.findIdx? (λe=>(intKind prog w).is k e.2)with
 |some j=>dsimp only;obtain⟨hj,pj,_⟩:=List.findIdx?_eq_some_iff_getElem.mp hq;have mem:k∈ks:=pm.mem_iff.mp (ax.mpr ⟨_,gz hj,(yV el (gz hj)).mp pj⟩);have z:=h s.heap o aD (Heap.SameBut.refl a s.heap) ho (by rw[dG mem];exact⟨es,ep,tb,hx,hd,el,pm,hf,ht,hb⟩);exact ad (ad z)
 |none=>
  dsimp only;have out:k∉ks:=λz=>by obtain⟨e,he,en⟩:=ax.mp (pm.mem_iff.mpr z);have:=List.findIdx?_eq_none_iff.mp hq e he;rw[(yV el he).mpr en]at this;cases this
  have q1:=layNew_perm tb es (hashInt k) (.int k t);have q2:=layNew_fits tb es (hashInt k) (.int k t);have q3:=ht.layNew es (hashInt k) (.int k t);generalize layNew tb es (hashInt k) (.int k t)=L at*;obtain⟨ZK,t1,wd,gv⟩:=L;dsimp only at q1 q2 q3⊢;rw[Array.toList_push]at q1;have BJ:ElemsOf (intKind prog w) ZK.toList:=(el.push hk rfl).perm q1;have QK:(FN ZK.toList).Perm (ks++[k]):=(q1.map _).trans (by
   rw[b8];exact pm.append_right _)
  have SS:ZK.size=es.size+1:=by rw[<-ba,q1.length_eq,av,ba];rfl
  have fin:∀h' o',gm a s.heap h'->h'.get? a=aA o'->Own prog w B o' (ks++[k])->Q aC {s with heap:=h'}:=λh' o' x y z=>h h' o' aC x y (by rw[dF out];exact z);refine aa ?_;have gw:∀(b:Bool) (s':am) (R:Unit->am->Prop),R () s'->bh (b9 prog w) A (match b with|true=>rule "set.scan.the-table-gave-way" |false=>pure ()) R E s':=λb s' R hR=>by
   cases b
   .exact ad hR
   .exact wpAny_rule hR
  refine gw gv _ _ ?_;split
  .rw[hashByValue_scannable 8 (x:=Value.int k t) rfl];refine aa (ad ?_);refine yh (B:=B) (ks:=ks++[k]) gw ho hx hd BJ QK (by omega) ?_ ?_ ?_
   .split
    .exact q2
    .exact SetTable.fits_plain_off q2
   .split
    .exact q3
    .exact q3.plainOff
   .exact λh' o' x y z=>ad (fin h' o' x y z)
  .refine aa (ad ?_);simp only[↓reduceIte];exact yh (B:=B) (ks:=ks++[k]) gw ho hx hd BJ QK (by omega) q2 q3 λh' o' x y z=>ad (fin h' o' x y z)
noncomputable def dd(val:Nat->Int):Nat->List Int
 |0=>[]
 |i+1=>if val i∈dd val i then dd val i else dd val i++[val i]
theorem Pd(val):∀i,(dd val i).length<=i
 |0=>bf _
 |i+1=>by
  have:=Pd val i;unfold dd;split
  .omega
  .rw[av];simp;omega
theorem Vo(val):∀i,(dd val i).Nodup
 |0=>c7
 |i+1=>by
  have ih:=Vo val i;unfold dd;split
  .exact ih
  .rename_i h;refine cz.mpr ⟨ih,by simp,λa ha b hb=>?_⟩;rw[aj.mp hb];exact λz=>h (z▸ha)
theorem yg(val k):∀i,k∈dd val i↔∃j,j<i/\val j=k
 |0=>⟨λh=>(nomatch h),λ⟨j,h,_⟩=>dM h (by omega)⟩
 |i+1=>by
  have ih:=yg val k i;have up:(∃j,j<i+1/\val j=k)↔((∃j,j<i/\val j=k)\/val i=k):=by
   constructor
   .rintro⟨j,hj,e⟩;by_cases z:j=i
    .subst z;exact .inr e
    .exact .inl ⟨j,by omega,e⟩
   .rintro(⟨j,hj,e⟩|e)
    .exact⟨j,by omega,e⟩
    .exact⟨i,by omega,e⟩
  rw[up,<-ih,show dd val (i+1)=if val i∈dd val i then dd val i else dd val i++[val i]from rfl];split
  .rename_i h;constructor
   .exact .inl
   .rintro(z|z)
    .exact z
    .rw[<-z];exact h
  .rw[bo,aj];exact⟨λz=>z.imp id Eq.symm,λz=>z.imp id Eq.symm⟩
def Kpt(h0 h:f8):Prop:=∀b o,h0.get? b=aA o->h.get? b=aA o
theorem sX{St:Nat->am->Prop}(W:WalksS prog w A.in1 I fp wr G n P St)(S)(hS:S∉fp)(uL:h0.get? S=aB)(CC:∀b∈wr,h0.get? b=aB)(Ow:f8->Obj->Nat->Prop)(re:∀{h h':f8} {o:Obj} {i:Nat},Kpt h0 h'->Ow h o i->Ow h' o i)(add:∀i v s1 o Q E,i<n->P i v->Kpt h0 s1.heap->s1.heap.get? S=aA o->Ow s1.heap o i->(∀h2 o2 tk b,gm S s1.heap h2->h2.get? S=aA o2->Ow h2 o2 (i+1)->Q b {s1 with heap:=h2,toks:=s1.toks+tk})->bh (b9 prog w) A.in1 (setAdd S v) Q E s1):
  ∀m i s o,i+m=n->St i s->Kpt h0 s.heap->s.heap.get? S=aA o->Ow s.heap o i->
  (∀s' o',Moved (S::wr) G s s'->Kpt h0 s'.heap->s'.heap.get? S=aA o'->Ow s'.heap o' n->R (.ok (.ret .none)) s')->codeAny (b9 prog w) A (.builtin "set.update.loop" ⟨[.ref S,.ref I],[]⟩) R s:=by
 have nw:S∉wr:=λz=>hS (W.sub _ z);have up:∀b∈wr,b∈S::wr:=λ_ z=>ao _ z;intro m;induction m with
 |zero=>intro i s o hi st kp ho hO hR;obtain rfl:i=n:=hi;refine ir PyProof.Rows.F.entry_set_update_loop ?_;rw[gr PyProof.Rows.F.plain_set_update_loop _];show bh _ A.in1 (pyNext (.ref I) >>=_) _ _ s;refine aa (W.done s _ _ st λs' mv=>?_);have D_:Kpt h0 s'.heap:=λb x e=>mv.heap b x (λz=>by rw[CC b z]at e;cases e) (kp b x e);exact ad (hR s' o (mv.mono up) D_ (mv.heap S _ nw ho) (re D_ hO))
 |succ m ih=>
  intro i s o hi st kp ho hO hR;have ZM:i<n:=by omega
  refine ir PyProof.Rows.F.entry_set_update_loop ?_;rw[gr PyProof.Rows.F.plain_set_update_loop _];show bh _ A.in1 (pyNext (.ref I) >>=_) _ _ s;refine aa (W.item i s _ _ ZM st λv s1 pv QH mv=>?_);have ho1:=mv.heap S _ nw ho;have II:Kpt h0 s1.heap:=λb x e=>mv.heap b x (λz=>by rw[CC b z]at e;cases e) (kp b x e);show bh _ A.in1 (holding [v] (setAdd S v) >>=_) _ _ s1;refine aa (gn ?_);refine add i v s1 o _ _ ZM pv II ho1 (re II hO) λh2 o2 tk b sb g2 O2=>?_;have vX:Kpt h0 h2:=λc x e=>by
   have hc:c≠S:=λz=>by rw[z,uL]at e;cases e
   rw[sb.2 c hc];exact II c x e
  refine ad ⟨plainId_quiet PyProof.Rows.F.plain_set_update_loop _,ih (i+1) _ o2 (by omega) (W.frame _ s1 _ _ QH (Nat.le_add_right _ _) λc hc x e=>?_) vX g2 O2 λs3 o3 m3 k3 g3 O3=>?_⟩
  .rw[sb.2 c λz=>hS (z▸hc)];exact e
  .refine hR s3 o3 (Moved.trans W.gtrans ((mv.mono up).then_heap (Nat.le_add_right _ _) λc x hc e=>?_) m3) k3 g3 O3;rw[sb.2 c λz=>hc (z▸ac)];exact e
noncomputable abbrev By(w:dn):Bool:=w.params.followText "set-order"
abbrev Rm(w:dn):Obj:={cls:=.type "set",dict:=aB,data:=.set #[] 0 (.fresh 0 0 (!By w))}
theorem u3:Own prog w (By w) (Rm w) []:=⟨#[],0,_,⟨rfl,rfl,rfl⟩,rfl,(λe he=>by simp at he),List.Perm.nil,rfl,Tab.fresh _ _ _,by decide⟩
theorem mz(a)(h:Q (.ref s.heap.objs.size) {s with heap:=s.heap.push (Rm w)}):
  codeAny (b9 prog w) A (.call (.builtin "set.__new__") ⟨[.type "set",a],[]⟩) (wants Q E) s:=by
 refine codeAny_of_tree ?_;show bh _ A.in1 (checkBuiltinCall "set.__new__" ⟨[.type "set",a],[]⟩>>=λ_=>again (.builtin "set.__new__" ⟨[.type "set",a],[]⟩)) _ _ s;refine aa (wpAny_of_eq (PySem.F.newCall_set_1 a) (ad ⟨plainId_quiet PySem.F.plain_set_new _,ir PySem.F.entry_set_new ?_⟩));rw[gr PySem.F.plain_set_new _];have hs:=sub_set_self;obtain⟨hp,g,d,tk,os⟩:=s;unfold Builtin.«set.__new__» Builtin.Frozenset.newClass;dsimp only;wp_walk;refine wpAny_askSetting (ad ?_);dsimp only;simp only[newObj];exact aa (wpAny_alloc (ad (ad h)))
theorem zO{s:am}(hh:A.handled=aB)(hl:s.heap.IsList l eC)(Ow:f8->Obj->Nat->Prop)(re:∀{h h':f8} {o:Obj} {i:Nat},Kpt s.heap h'->Ow h o i->Ow h' o i)(own:∀h,Ow h (Rm w) 0)(add:∀A' i v s1 o Q E,A'.units=A.units+3->eC[i]? =aA v->Kpt s.heap s1.heap->s1.heap.get? s.heap.objs.size=aA o->Ow s1.heap o i->(∀h2 o2 tk b,gm s.heap.objs.size s1.heap h2->h2.get? s.heap.objs.size=aA o2->Ow h2 o2 (i+1)->Q b {s1 with heap:=h2,toks:=s1.toks+tk})->bh (b9 prog w) A' (setAdd s.heap.objs.size v) Q E s1)(h:∀h' tk o,h'.get? s.heap.objs.size=aA o->Ow h' o eC.size->(∀b x,b<s.heap.objs.size->s.heap.get? b=aA x->h'.get? b=aA x)->Q (.ref s.heap.objs.size) {s with heap:=h',toks:=tk}):
  bh (b9 prog w) A (call (.type "set") [.ref l]) Q E s:=by
 obtain⟨c,tl,v0⟩:=PySem.F.called_set.mro;have hmade:=PySem.F.called_set.made;have hsub:=PySem.F.called_set.sub;have h1:=PySem.F.called_set.notType;have h2:=PySem.F.called_set.canCreate;have hct:=PySem.F.typeCall_set_1 (.ref l);refine wpAny_call (codeAny_of_tree ?_);show bh _ _ (callAny (.type "set") _) _ _ _;refine ad ⟨Code.quiet_builtin _ (by decide+kernel),ir PySem.F.entry_type_call ?_⟩;rw[Around.under_plain (weight_type_call_type "set" [.ref l] []) rfl]
 repeat (any_goals (first|assumption|wp_step))
 refine codeAny_mono (mz (.ref l) (E:=E) (Q:=λv s1=>v= .ref s.heap.objs.size/\s1={s with heap:=s.heap.push (Rm w)}) ⟨rfl,rfl⟩) λr s1 hr=>?_;cases r with
 |error e=>exact hr
 |ok fl=>
  cases fl with
  |ret obj=>
   obtain⟨rfl,rfl⟩:=hr;have hS:(s.heap.push (Rm w)).get? s.heap.objs.size=aA (Rm w):=bi _ rfl;have hT:Shared.TypeIs {s with heap:=s.heap.push (Rm w)} (.ref s.heap.objs.size) "set":=⟨_,hS,rfl⟩
   have hli:=PySem.F.called_set.init.lookup;have hbi:=PySem.F.called_set.init.bind (.ref s.heap.objs.size)
   repeat (any_goals (first|assumption|wp_step))
   refine codeAny_mono (codeAny_call_builtin (R:=wants (λr s2=>r= .none/\∃h' tk o,s2={s with heap:=h',toks:=tk}/\h'.get? s.heap.objs.size=aA o/\Ow h' o eC.size/\(∀b x,b<s.heap.objs.size->s.heap.get? b=aA x->h'.get? b=aA x)) E)
    PySem.F.called_set.init.plain PySem.F.entry_set_init (check_set_init_1 hT ?_)) λr2 s2 QP=>?_
   .obtain⟨ol,QR,YG,nl,QW⟩:=hl;obtain⟨vK,od,DS,XM⟩:=ol;simp only at YG QW;subst YG QW;have HA:(s.heap.push (Rm w)).get? l=aA {cls:=.type "list",dict:=od,data:=.seq eC nl,slots:=XM}:=aq _ QR;have hsa:=PySem.F.sub_list_set;have hsb:=PySem.F.sub_list_frozenset;have gH:(Value.type "list"==Value.type "dict")=aD:=by decide
    have CL:(s.heap.push (Rm w)).IsList l eC:=⟨_,HA,rfl,nl,rfl⟩
    unfold Builtin.«set.__init__» noKeywords Builtin.Frozenset.updateFrom;generalize hPI:pyIter=PI;wp_walk;subst hPI;refine wpAny_pyIter_list CL (aa (wpAny_runValue ?_));have ll:l<s.heap.objs.size:=bj QR;have v_:A.in1.in1.in1.handled=aB:=by simp[hh]
    have sz:(s.heap.push (Rm w)).objs.size=s.heap.objs.size+1:=Heap.size_push _ _;have ne:l≠(s.heap.push (Rm w)).objs.size:=by rw[sz];exact cj (Nat.lt_succ_of_lt ll)
    have nf:s.heap.objs.size∉[(s.heap.push (Rm w)).objs.size,l]:=by rw[sz];simp only[b7,List.not_mem_nil,or_false,not_or];exact⟨cj (Nat.lt_succ_self _),Nat.ne_of_gt ll⟩
    refine sX (h0:=s.heap) ((Walks.list v_ _ l ne eC).toS) s.heap.objs.size nf (Heap.get?_none_of_le (bf _)) (λb ZZ=>?_) Ow re (λi v s1 o Q E _ hv=>add _ i v s1 o Q E rfl hv) eC.size 0 _ (Rm w) (by omega)
     ⟨⟨_,bi _ rfl,rfl,rfl⟩,(CL.push _)⟩ (λb o e=>aq _ (aq _ e)) (aq _ hS) (own _) λs' o' mv kp go Oo=>?_
    .have:b=(s.heap.push (Rm w)).objs.size:=by simpa using ZZ
     rw[this,sz];exact Heap.get?_none_of_le (Nat.le_succ _)
    have eg:s'.gens=s.gens:=mv.gens;have ed:s'.drawn=s.drawn:=mv.drawn;have eo:s'.os=s.os:=mv.os;have es:s'={s with heap:=s'.heap,toks:=s'.toks}:=by cases s';simp only at eg ed eo;subst eg ed eo;rfl
    show bh _ _ _ _ _ _;refine ad ?_;show bh _ _ (ret de) _ _ _;exact ad ⟨rfl,s'.heap,s'.toks,o',es,go,Oo,λb x hb e=>kp b x e⟩
   .cases r2 with
    |error e=>exact QP
    |ok f2=>
     cases f2 with
     |ret r=>
      obtain⟨rfl,h',tk,o',rfl,g',O',k'⟩:=QP
      repeat (any_goals (first|assumption|wp_step))
      exact h _ _ _ g' O' k'
     |_=>exact QP.elim
  |_=>exact hr.elim
theorem mw(hh:A.handled=aB)(hl:s.heap.IsList l eC)(hi:IntsAre eC.toList ns)(hb:eC.size+1<scanBound)(h:∀h' tk o,h'.get? s.heap.objs.size=aA o->Own prog w (By w) o (dd (λi=>ns.getD i 0) eC.size)->(∀b x,b<s.heap.objs.size->s.heap.get? b=aA x->h'.get? b=aA x)->Q (.ref s.heap.objs.size) {s with heap:=h',toks:=tk}):
  bh (b9 prog w) A (call (.type "set") [.ref l]) Q E s:=
 zO hh hl (λ_ o i=>Own prog w (By w) o (dd (λi=>ns.getD i 0) i)) (λ_ z=>z) (λ_=>u3) (λA' i v s1 o Q E _ hv _ ho hO k=>by
  obtain⟨t,rfl⟩:=IntsAre.int_at hi i v (by rw[dh];exact hv);have li:i<eC.size:=(gu.mp hv).1;unfold setAdd;refine gn (aa (wpAny_pyHash_int ?_));exact qz (s:={s1 with toks:=s1.toks+1}) ho hO (by have:=Pd (λi=>ns.getD i 0) i;omega) λh2 o2 b sb g2 O2=>k h2 o2 1 b sb g2 O2) h
theorem Wv:Slot "set_iterator" "__next__" "set_iterator.__next__":=
 .of (owner:="set_iterator") (n:="__next__") (by rw[typeLookup_type,builtinLookup_eq_fast];kernel_rfl) (by decide+kernel) (by decide+kernel) (by decide+kernel) (by first|exact .inl (by decide+kernel)|exact .inr (by decide+kernel)) (by rw[isSubtype_type];kernel_rfl)
theorem Cg:entryFor table "set_iterator.__next__"=aA Builtin.«set_iterator.__next__»:=entryFor_of_tree (by kernel_rfl)
theorem Gr(a):argsOk "set_iterator.__next__" ⟨[a],[]⟩:=by unfold argsOk;kernel_rfl
theorem Hu:entryFor table "set.__iter__"=aA Builtin.«frozenset.__iter__»:=entryFor_alias (id':="frozenset.__iter__") (by kernel_rfl) rfl (by decide+kernel) (by kernel_rfl)
theorem k_(hn:n≠0)(h:∀i d,i<n->Q i {s with drawn:=d}):bh (b9 prog w) A (choose src n) Q E s:=
 λ_ _ _=>⟨hn,h _ _ (Nat.mod_lt _ (Nat.pos_of_ne_zero hn))⟩
theorem Te{α:Type}:∀(l:List α) i h,(l[i]::l.eraseIdx i).Perm l
 |x::l,0,_=>List.Perm.refl _
 |x::l,i+1,h=>(List.Perm.swap x _ _).trans ((Te l i (by simpa using h)).cons x)
theorem yf:∀n xs s {Q:List α->am->Prop},n=xs.length->(∀ys d,ys.Perm xs->Q ys {s with drawn:=d})->bh (b9 prog w) A (drawOrder n xs) Q E s
 |0,[],s,Q,_,h=>by unfold drawOrder;exact ad (h [] s.drawn (List.Perm.refl _))
 |n+1,x::xs,s,Q,hn,h=>by
  unfold drawOrder;refine aa (k_ (by simp) λi d hi=>?_);have e:(x::xs)[i]? =aA (x::xs)[i]:=ar hi;rw[e];dsimp only;have hl:n=((x::xs).eraseIdx i).length:=by rw[List.length_eraseIdx_of_lt hi];simpa using hn
  refine aa (yf n ((x::xs).eraseIdx i) _ hl λys d' hp=>ad (h _ d' ?_));exact(hp.cons _).trans (Te _ i hi)
 |0,_::_,_,_,hn,_=>by simp at hn
 |_+1,[],_,_,hn,_=>by simp at hn
noncomputable abbrev Xm(first:ag)(i:Nat)(r:au)(n ep:Nat):Obj:={cls:=.type "set_iterator",dict:=aB,data:=.fields #[first,.int (i:Int) 0,.ref r,.int (n:Int) 0,.int (ep:Int) 0],slots:= #[]}
noncomputable abbrev Tf(ps:List Nat):Obj:={cls:=.type "tuple",data:=.seq (ps.map λi:Nat=>rawInt i).toArray}
theorem mn(ho:s.heap.get? r=aA o)(hx:o.ExactSet)(hd:o.data= .set es ep t)(hf:t.fits es.size=aC)(hb:es.size<scanBound)(hN:(!By w&&(!t.plain&&decide (es.size > 1)))=aD->Q (.ref s.heap.objs.size) {s with heap:=s.heap.push (Xm (.int 0 0) 0 r es.size ep)})(hD:(!By w&&(!t.plain&&decide (es.size > 1)))=aC->∀ps d,ps.Perm (c6 es.size)->Q (.ref (s.heap.objs.size+1)) {s with heap:=(s.heap.push (Tf ps)).push (Xm (.ref s.heap.objs.size) 0 r es.size ep),drawn:=d}):
  bh (b9 prog w) A (pyIter (.ref r)) Q E s:=by
 have hT:s.TypeIs (.ref r) "set":=⟨o,ho,hx.1⟩
 refine wpAny_pyIter_slot hT PySem.F.slot_set_iter (d8 PySem.F.slot_set_iter hT Hu ?_ (PySem.F.args_set_iter_1 _));unfold Builtin.«frozenset.__iter__»;refine aa (m:=Builtin.Frozenset.slot0 "__iter__" ⟨[.ref r],[]⟩) (Q:=_) (ad ?_);refine aa (m:=Builtin.Frozenset.sizeOf r) ?_;unfold Builtin.Frozenset.sizeOf;refine aa (wpAny_setEntries_of ho hd hf (ad ?_));refine aa ?_;unfold setDrawn;refine aa (wpAny_setState_of ho hd hf ?_);unfold setsByText;refine aa (aa (wpAny_askSetting (ad ?_)));refine ad ?_;show bh _ _ (if(!By w&&(!t.plain&&decide (es.size > 1)))=aC then _ else _) _ _ _;cases hc:(!By w&&(!t.plain&&decide (es.size > 1)))with
 |false=>rw[dF (by simp)];refine aa (ad ?_);refine aa (wpAny_setEpoch_of ho hd hf ?_);refine aa (m:=newFields _ _) (g7 (ad ⟨_,rfl,"set_iterator",_,⟨_,bi _ rfl,rfl⟩,Wv.lookup,hN hc⟩))
 |true=>rw[dG rfl];have hl:(c6 es.size).length=es.size:=List.length_range;refine aa ?_;refine yf _ (c6 es.size) _ hl.symm λps d hp=>?_;have pl:ps.length=es.size:=hp.length_eq.trans hl;refine aa (wpAny_newTuple ?_ (by rw[ah,pl];exact fits_of_scanBound hb));have XN:(s.heap.push (Tf ps)).get? r=aA o:=aq _ ho;refine aa (wpAny_setEpoch_of (s:={s with heap:=s.heap.push (Tf ps),drawn:=d}) XN hd hf ?_);have sz:(s.heap.push (Tf ps)).objs.size=s.heap.objs.size+1:=Heap.size_push _ _;refine aa (m:=newFields _ _) (g7 (ad ⟨_,rfl,"set_iterator",_,⟨_,bi _ rfl,rfl⟩,Wv.lookup,?_⟩));have z:=hD hc ps d hp;rw[<-sz]at z;exact z
section
variable{prog:cg}{w:dn}{A:dg}{E:ag->am->Prop}{s:am}{I r:au}{o:Obj}{es:Array (Int×ag)}{ep:Nat}{t:fj}{slot i nx:Nat}{x:ag}{Q:Option ag->am->Prop}
abbrev Pe(prog:cg)(w:dn)(A:dg)(s:am)(r:au)(slot i ep:Nat)(y:Option (ag×Nat)):Prop:=∀(R:Option (ag×Nat)->am->Prop) (E':ag->am->Prop),R y s->bh (b9 prog w) A (setNext r slot i ep) R E' s
theorem zN(hI:s.heap.get? I=aA (Xm (.int (slot:Int) 0) i r es.size ep))(ho:s.heap.get? r=aA o)(hd:o.data= .set es ep t)(hf:t.fits es.size=aC)(hn:Pe prog w A.in1 s r slot i ep (aA (x,nx)))(hQ:∀h',h'.get? I=aA (Xm (.int (nx:Int) 0) (i+1) r es.size ep)->gm I s.heap h'->Q (aA x) {s with heap:=h'}):bh (b9 prog w) A (pyNext (.ref I)) Q E s:=by
 have hT:s.TypeIs (.ref I) "set_iterator":=⟨_,hI,rfl⟩
 unfold pyNext;refine aa (wpAny_attempt (ij (name:=dz "__next__") hT Wv (d8 Wv hT Cg ?_ (Gr _))));unfold Builtin.«set_iterator.__next__»;refine aa (m:=slotArgs "__next__" 0 ⟨[.ref I],[]⟩) (ad ?_);refine aa (wpAny_fieldsOf hI rfl ?_);dsimp only;refine aa (wpAny_setEntries_of ho hd hf ?_);rw[dF (by simp)];simp only[Int.toNat_natCast];refine aa (hn _ _ ?_);dsimp only;refine aa (wpAny_setField_rec hI (by simp) λh1 g1 b1=>?_);refine aa (wpAny_setField_rec (s:={s with heap:=h1}) g1 (by simp) λh2 g2 b2=>?_);refine ad ⟨_,rfl,ad (hQ h2 ?_ (b1.trans b2))⟩;rw[g2];rfl
theorem zM(hh:A.handled=aB)(hI:s.heap.get? I=aA (Xm (.int (slot:Int) 0) i r es.size ep))(ho:s.heap.get? r=aA o)(hd:o.data= .set es ep t)(hf:t.fits es.size=aC)(hn:Pe prog w A.in1 s r slot i ep aB)(hQ:∀h',Heap.ExtBut I s.heap h'->Q aB {s with heap:=h'}):bh (b9 prog w) A (pyNext (.ref I)) Q E s:=by
 have hT:s.TypeIs (.ref I) "set_iterator":=⟨_,hI,rfl⟩
 unfold pyNext;refine aa (wpAny_attempt (ij (name:=dz "__next__") hT Wv (d8 Wv hT Cg ?_ (Gr _))));unfold Builtin.«set_iterator.__next__»;refine aa (m:=slotArgs "__next__" 0 ⟨[.ref I],[]⟩) (ad ?_);refine aa (wpAny_fieldsOf hI rfl ?_);dsimp only;refine aa (wpAny_setEntries_of ho hd hf ?_);rw[dF (by simp)];simp only[Int.toNat_natCast];refine aa (hn _ _ ?_);dsimp only;refine aa (wpAny_setField_rec hI (by simp) λh1 g1 b1=>?_);refine aa (m:=newExc (.type "StopIteration") []) ?_;simp only[newExc,newTuple];refine aa (g7 ?_ (by size_fits));refine aa (m:=firstArgMember _ _) (wpAny_of_eq (a:=de) (by first|rfl| (simp only[firstArgMember];rfl)) ?_);refine g7 ?_ (by size_fits);simp only[raiseNew];refine aa (wpAny_handled ?_);rw[show A.in1.handled=aB from hh];refine aa (ad (wpAny_throw ?_));refine aa (wpAny_isInstance (T:="StopIteration") (b:=aC) ⟨_,bi _ rfl,rfl⟩ isSubtype_stop ?_);exact ad (hQ _ ((b1.extBut.push _).push _))
theorem Li(hB:By w=aD)(ho:s.heap.get? r=aA o)(hd:o.data= .set es ep t)(hf:t.fits es.size=aC)(hl:t.led=aC)(hr:(!t.plain&&decide (es.size > 1))=aD):
  Pe prog w A s r slot i ep (match es[SetTable.below t.place slot]?,t.place[SetTable.below t.place slot]? with
   |some (_,x),aA j=>aA (x,j+1)
   |_,_=>aB):=by
 intro R E' h;unfold setNext;refine aa (wpAny_setState_of ho hd hf ?_);dsimp only;unfold setsByText;refine aa (aa (wpAny_askSetting (ad ?_)));have e1:(b9 prog w).w.params.followText "set-order"=aD:=hB;dsimp only;rw[dF (by rw[e1];simp)];show bh _ _ (if(!t.plain&&decide (es.size > 1))=aC then _ else _) _ _ _;rw[dF (by rw[hr];simp)];refine aa ?_;show bh _ _ (if(!t.led&& !es.isEmpty)=aC then _ else _) _ _ _;rw[dF (by rw[hl];simp)];exact ad (ad h)
theorem Vp(hB:By w=aC)(ho:s.heap.get? r=aA o)(hd:o.data= .set es ep t)(hf:t.fits es.size=aC):
  Pe prog w A s r slot i ep (((pickOrder (w.params.setOrder r ep) es)[i]?).map λe=>(e.2,slot)):=by
 intro R E' h;unfold setNext;refine aa (wpAny_setState_of ho hd hf ?_);dsimp only;unfold setsByText;refine aa (aa (wpAny_askSetting (ad ?_)));have e1:(b9 prog w).w.params.followText "set-order"=aC:=hB;dsimp only;rw[dG (by rw[e1])];rw[dF (by simp)];refine aa ?_;unfold setWalk;refine aa (wpAny_setState_of ho hd hf ?_);dsimp only;unfold setsByText;refine aa (aa (wpAny_askSetting (ad ?_)));dsimp only;rw[dG (by rw[e1])];refine aa (wpAny_askSetting (ad ?_));exact ad h
theorem sW(hI:s.heap.get? I=aA (Xm (.ref T) i r es.size ep))(GR:s.heap.get? T=aA (Tf ps))(hp:ps[i]? =aA p)(he:es[p]? =aA (hx,x))(ho:s.heap.get? r=aA o)(hd:o.data= .set es ep t)(hf:t.fits es.size=aC)(hQ:∀h',h'.get? I=aA (Xm (.ref T) (i+1) r es.size ep)->gm I s.heap h'->Q (aA x) {s with heap:=h'}):bh (b9 prog w) A (pyNext (.ref I)) Q E s:=by
 have hT:s.TypeIs (.ref I) "set_iterator":=⟨_,hI,rfl⟩
 unfold pyNext;refine aa (wpAny_attempt (ij (name:=dz "__next__") hT Wv (d8 Wv hT Cg ?_ (Gr _))));unfold Builtin.«set_iterator.__next__»;refine aa (m:=slotArgs "__next__" 0 ⟨[.ref I],[]⟩) (ad ?_);refine aa (wpAny_fieldsOf hI rfl ?_);dsimp only;refine aa (wpAny_setEntries_of ho hd hf ?_);rw[dF (by simp)];refine aa (m:=seqItems? (.ref T)) ?_;unfold seqItems?;refine aa (wpAny_load GR (ad ?_));dsimp only;have e1:(ps.map λi:Nat=>rawInt i).toArray[((i:Nat):Int).toNat]? =aA (.int (p:Int) 0):=by simp[hp,rawInt]
 rw[e1];dsimp only;refine aa ?_;unfold setNextDrawn;refine aa (wpAny_setState_of ho hd hf ?_);dsimp only;rw[dF (by simp)];have e2:es[((p:Nat):Int).toNat]? =aA (hx,x):=by simpa using he
 rw[e2];refine ad ?_;refine aa (wpAny_setField_rec hI (by simp) λh1 g1 b1=>?_);refine ad ⟨_,rfl,ad (hQ h1 ?_ b1)⟩;rw[g1];rfl
theorem sV(hh:A.handled=aB)(hI:s.heap.get? I=aA (Xm (.ref T) i r es.size ep))(GR:s.heap.get? T=aA (Tf ps))(hp:ps[i]? =aB)(ho:s.heap.get? r=aA o)(hd:o.data= .set es ep t)(hf:t.fits es.size=aC)(hQ:∀h',Heap.ExtBut I s.heap h'->Q aB {s with heap:=h'}):bh (b9 prog w) A (pyNext (.ref I)) Q E s:=by
 have hT:s.TypeIs (.ref I) "set_iterator":=⟨_,hI,rfl⟩
 unfold pyNext;refine aa (wpAny_attempt (ij (name:=dz "__next__") hT Wv (d8 Wv hT Cg ?_ (Gr _))));unfold Builtin.«set_iterator.__next__»;refine aa (m:=slotArgs "__next__" 0 ⟨[.ref I],[]⟩) (ad ?_);refine aa (wpAny_fieldsOf hI rfl ?_);dsimp only;refine aa (wpAny_setEntries_of ho hd hf ?_);rw[dF (by simp)];refine aa (m:=seqItems? (.ref T)) ?_;unfold seqItems?;refine aa (wpAny_load GR (ad ?_));dsimp only;have e1:(ps.map λi:Nat=>rawInt i).toArray[((i:Nat):Int).toNat]? =aB:=by simp only[Int.toNat_natCast,List.getElem?_toArray,az,hp,Option.map_none]
 rw[e1];dsimp only;refine aa (wpAny_setField_rec hI (by simp) λh1 g1 b1=>?_);refine aa (wpAny_setField_rec (s:={s with heap:=h1}) g1 (by simp) λh2 g2 b2=>?_);refine aa (m:=newExc (.type "StopIteration") []) ?_;simp only[newExc,newTuple];refine aa (g7 ?_ (by size_fits));refine aa (m:=firstArgMember _ _) (wpAny_of_eq (a:=de) (by first|rfl| (simp only[firstArgMember];rfl)) ?_);refine g7 ?_ (by size_fits);simp only[raiseNew];refine aa (wpAny_handled ?_);rw[show A.in1.handled=aB from hh];refine aa (ad (wpAny_throw ?_));refine aa (wpAny_isInstance (T:="StopIteration") (b:=aC) ⟨_,bi _ rfl,rfl⟩ isSubtype_stop ?_);exact ad (hQ _ (((b1.trans b2).extBut.push _).push _))
end
noncomputable abbrev Ib(acc:Array ag)(c:Nat):Obj:={cls:=.type "list",dict:=aB,data:=.seq acc c,slots:= #[]}
structure Tells(prog:cg)(w:dn)(A:dg)(I:au)(fp:List au)(ord:List ag)(St:Nat->f8->Prop):Prop where
 mem:I∈fp
 keep:∀i h h',St i h->(∀b∈fp,∀o,h.get? b=aA o->h'.get? b=aA o)->St i h'
 step:∀i (s:am) x (Q:Option ag->am->Prop) (E:ag->am->Prop),St i s.heap->ord[i]? =aA x->(∀h',St (i+1) h'->gm I s.heap h'->Q (aA x) {s with heap:=h'})->bh (b9 prog w) A (pyNext (.ref I)) Q E s
 stop:∀(s:am) (Q:Option ag->am->Prop) (E:ag->am->Prop),St ord.length s.heap->(∀h',Heap.ExtBut I s.heap h'->Q aB {s with heap:=h'})->bh (b9 prog w) A (pyNext (.ref I)) Q E s
theorem wI{St:Nat->f8->Prop}(T:Tells prog w A.in1 I fp ord St)(hS:S∉fp)(hz:ord.length<=10000)(res):∀m i s c,i+m=ord.length->St i s.heap->s.heap.get? S=aA (Ib (ord.take i).toArray c)->
  (∀h' c',(∀b x,b≠S->b≠I->s.heap.get? b=aA x->h'.get? b=aA x)->h'.get? S=aA (Ib ord.toArray c')->R (.ok (.ret res)) {s with heap:=h'})->codeAny (b9 prog w) A (.builtin "list.extend.loop" ⟨[.ref S,.ref I,res],[]⟩) R s:=by
 have BC:S≠I:=λz=>hS (z▸T.mem);intro m;induction m with
 |zero=>intro i s c hi st hl hR;obtain rfl:i=ord.length:=hi;rw[List.take_length]at hl;refine ir PySem.F.entry_extend_loop ?_;rw[gr PySem.F.plain_extend_loop _];show bh _ A.in1 (pyNext (.ref I) >>=_) _ _ s;refine aa (T.stop s _ _ st λh' ex=>?_);exact ad (hR h' c (λb x _ hb e=>ex b x hb e) (ex S _ BC hl))
 |succ m ih=>
  intro i s c hi st hl hR;have ZM:i<ord.length:=by omega
  refine ir PySem.F.entry_extend_loop ?_;rw[gr PySem.F.plain_extend_loop _];show bh _ A.in1 (pyNext (.ref I) >>=_) _ _ s;refine aa (T.step i s ord[i] _ _ st (by simp[ZM]) λh1 QH b1=>?_);have l1:h1.get? S=aA (Ib (ord.take i).toArray c):=(b1.2 S BC).trans hl;have tk:(ord.take i).toArray.push ord[i]=(ord.take (i+1)).toArray:=by rw[List.take_add_one,ar ZM];simp
  show bh _ A.in1 (updateSeq S (·.push ord[i]) >>=_) _ _ _;refine aa (wpAny_updateSeq l1 rfl (ad ⟨plainId_quiet PySem.F.plain_extend_loop _,?_⟩) (by rw[bq,List.length_take,gp];omega) (by show((ord.take i).toArray.push ord[i]).size<=_;rw[tk,bq,List.length_take,gp];omega));have g2:=ig (d6 (·.push ord[i])) l1 rfl;have hm:∃c',d6 (·.push ord[i]) (Ib (ord.take i).toArray c)=Ib (ord.take (i+1)).toArray c':=by rw[<-tk];exact⟨_,rfl⟩
  obtain⟨c',TY⟩:=hm;rw[TY]at g2;refine ih (i+1) _ c' (by omega) (T.keep _ _ _ QH λb hb x e=>(Heap.get?_update_other _ _ (λz:S=b=>hS (by rw[z];exact hb))).trans e) g2 λh3 c3 k3 g3=>?_;exact hR h3 c3 (λb x hb BA e=>k3 b x hb BA ((Heap.get?_update_other _ _ (Ne.symm hb)).trans ((b1.2 b BA).trans e))) g3
theorem mh(hT:s.TypeIs (.ref r) "set")(h:Q aD s):bh (b9 prog w) A (Builtin.List.listLengthHint (.ref r)) Q E s:=by
 unfold Builtin.List.listLengthHint;refine aa (wpAny_specialOf hT PySem.F.slot_set_len.lookup ?_);generalize hid:("set.__len__":String)=id0
 wp_delta
 rw[show splitId id0=aA ("set","__len__")from by subst hid;decide+kernel];subst hid;refine aa (wpAny_isInstance (T:="set") (b:=aC) hT sub_set_self ?_);refine wpAny_ite_split (λz=>dM z (by decide)) λ_=>?_;refine wpAny_ite_split (λ_=>?_) λz=>dM (by decide+kernel) z;exact aa (wpAny_typeOf hT (ad h))
theorem wH(f):∀n k l (out:Array α),n=l.length->(pickOrder.go f n k l out).toList.Perm (out.toList++l)
 |0,k,l,out,h=>by have:l=[]:=List.eq_nil_of_length_eq_zero h.symm;subst this;unfold pickOrder.go;simp
 |n+1,k,l,out,h=>by
  unfold pickOrder.go;have hp:0<l.length:=by omega
  have hm:f k % l.length<l.length:=Nat.mod_lt _ hp;rw[ar hm];dsimp only;refine(wH f n (k+1) _ _ (by rw[List.length_eraseIdx_of_lt hm];omega)).trans ?_;rw[Array.toList_push,d7];exact(Te l _ hm).append_left _
theorem kx(f)(xs:Array α):(pickOrder f xs).toList.Perm xs.toList:=by have:=wH f xs.size 0 xs.toList #[] (ba).symm;simpa[pickOrder]using this
noncomputable def sl(t:fj):Nat->Nat
 |0=>0
 |i+1=>t.place.getD i 0+1
theorem zL(h:Ce t.place.toList)(hi:i<=t.place.size):SetTable.below t.place (sl t i)=i:=by
 refine wJ (Ia h _) ⟨hi,λk y hk e=>?_,λk y hk e=>?_⟩
 .cases i with
  |zero=>omega
  |succ i=>
   have hp:i<t.place.size:=by omega
   have e2:t.place[i]? =aA t.place[i]:=by simp[hp]
   have eg:sl t (i+1)=t.place[i]+1:=by unfold sl;simp[Array.getD,hp]
   rw[eg];by_cases z:k=i
   .subst z;rw[e2]at e;cases e;omega
   .have:=Cf h e e2 (by omega);omega
 .cases i with
  |zero=>exact gq _
  |succ i=>
   have hp:i<t.place.size:=by omega
   have e2:t.place[i]? =aA t.place[i]:=by simp[hp]
   have eg:sl t (i+1)=t.place[i]+1:=by unfold sl;simp[Array.getD,hp]
   rw[eg];have:=Cf h e2 e (by omega);omega
theorem Pf(h:r≠I)(b:gm I h1 h2)(e:h1.get? r=aA x):h2.get? r=aA x:=(b.2 r h).trans e
theorem Hv(hh:A.handled=aB)(hr:r≠I)(hd:o.data= .set es ep t)(hf:t.fits es.size=aC)(hB:By w=aD)(hl:t.led=aC)(hp:(!t.plain&&decide (es.size > 1))=aD)(rise:Ce t.place.toList)(sz:t.place.size=es.size):
  Tells prog w A I [I,r] (es.toList.map (·.2)) (λi h=>h.get? I=aA (Xm (.int (sl t i:Int) 0) i r es.size ep)/\h.get? r=aA o):=by
 refine⟨by simp,λi h h' st k=>⟨k I (by simp) _ st.1,k r (by simp) _ st.2⟩,λi s x Q E st hx hQ=>?_,λs Q E st hQ=>?_⟩
 .rw[az]at hx;obtain⟨e,he,rfl⟩:=cu.mp hx;rw[dh]at he;have hi:i<es.size:=(gu.mp he).1;have hi':i<t.place.size:=by omega
  have e2:t.place[i]? =aA t.place[i]:=by simp[hi']
  have nx:=Li (prog:=prog) (w:=w) (A:=A.in1) (s:=s) (slot:=sl t i) (i:=i) hB st.2 hd hf hl hp;rw[zL rise (by omega),he,e2]at nx;refine zN st.1 st.2 hd hf nx λh' g b=>hQ h' ⟨?_,Pf hr b st.2⟩ b;have eg:sl t (i+1)=t.place[i]+1:=by unfold sl;simp[Array.getD,hi']
  rw[eg];exact g
 .have hn:(es.toList.map (·.2)).length=es.size:=by rw[ah,ba]
  rw[hn]at st;have nx:=Li (prog:=prog) (w:=w) (A:=A.in1) (s:=s) (slot:=sl t es.size) (i:=es.size) hB st.2 hd hf hl hp;rw[zL rise (by omega),show es[es.size]? =aB by simp]at nx;exact zM hh st.1 st.2 hd hf nx hQ
theorem j6(hh:A.handled=aB)(hr:r≠I)(hd:o.data= .set es ep t)(hf:t.fits es.size=aC)(hB:By w=aC):
  Tells prog w A I [I,r] ((pickOrder (w.params.setOrder r ep) es).toList.map (·.2)) (λi h=>h.get? I=aA (Xm (.int ((0:Nat):Int) 0) i r es.size ep)/\h.get? r=aA o):=by
 refine⟨by simp,λi h h' st k=>⟨k I (by simp) _ st.1,k r (by simp) _ st.2⟩,λi s x Q E st hx hQ=>?_,λs Q E st hQ=>?_⟩
 .rw[az]at hx;obtain⟨e,he,rfl⟩:=cu.mp hx;rw[dh]at he;have nx:=Vp (prog:=prog) (w:=w) (A:=A.in1) (s:=s) (slot:=0) (i:=i) hB st.2 hd hf;rw[he]at nx;exact zN st.1 st.2 hd hf nx λh' g b=>hQ h' ⟨g,Pf hr b st.2⟩ b
 .have nx:=Vp (prog:=prog) (w:=w) (A:=A.in1) (s:=s) (slot:=0) (i:=((pickOrder (w.params.setOrder r ep) es).toList.map (·.2)).length) hB st.2 hd hf;rw[ah,ba,show(pickOrder (w.params.setOrder r ep) es)[(pickOrder (w.params.setOrder r ep) es).size]? =aB by simp]at nx;rw[ah,ba]at st;exact zM hh st.1 st.2 hd hf nx hQ
theorem Hw(hh:A.handled=aB)(hr:r≠I)(hT:T≠I)(hd:o.data= .set es ep t)(hf:t.fits es.size=aC)(hp:∀p∈ps,p<es.size):
  Tells prog w A I [I,r,T] (ps.map λp=>(es.getD p (0,.none)).2) (λi h=>h.get? I=aA (Xm (.ref T) i r es.size ep)/\h.get? r=aA o/\h.get? T=aA (Tf ps)):=by
 refine⟨by simp,λi h h' st k=>⟨k I (by simp) _ st.1,k r (by simp) _ st.2.1,k T (by simp) _ st.2.2⟩,λi s x Q E st hx hQ=>?_,λs Q E st hQ=>?_⟩
 .rw[az]at hx;obtain⟨p,he,rfl⟩:=cu.mp hx;have lt:=hp p (bz he);have e2:es[p]? =aA ((es.getD p (0,.none)).1,(es.getD p (0,.none)).2):=by simp[Array.getD,lt]
  exact sW st.1 st.2.2 he e2 st.2.1 hd hf λh' g b=>hQ h' ⟨g,Pf hr b st.2.1,Pf hT b st.2.2⟩ b
 .rw[ah]at st;exact sV hh st.1 st.2.2 (by simp) st.2.1 hd hf hQ
theorem Pg{St}{res}(T:Tells prog w A.in1 I fp ord St)(hS:S∉fp)(hz:ord.length<=10000)(hT:s.TypeIs (.ref r) "set")(st:St 0 s.heap)(hl:s.heap.get? S=aA (Ib #[] c)){f:Bool->Bool}(hR:∀h' c',(∀b x,b≠S->b≠I->s.heap.get? b=aA x->h'.get? b=aA x)->h'.get? S=aA (Ib ord.toArray c')->R (.ok (.ret res)) {s with heap:=h'}):
  bh (b9 prog w) A.in1 (do
   let room<-holding [.ref I] (Builtin.List.listLengthHint (.ref r))
   if f room=aC then do
    rule "list.extend.makes-room"
    Builtin.List.listTouch (.ref S)
    again (.builtin "list.extend.loop" ⟨[.ref S,.ref I,res],[]⟩)
   else again (.builtin "list.extend.loop" ⟨[.ref S,.ref I,res],[]⟩))
   (λfin s'=>match fin with| .done f=>R (.ok f) s'| .again c'=>c'.quiet=aC/\codeAny (b9 prog w) A c' R s') (λe s'=>R (.error e) s') s:=by
 refine aa (gn (mh hT ?_));refine wpAny_ite_split (λ_=>?_) (λ_=>ad ⟨plainId_quiet PySem.F.plain_extend_loop _,wI T hS hz res ord.length 0 s c (by omega) st (by simpa using hl) hR⟩);refine aa (wpAny_rule (aa ?_));show bh _ _ (updateSeq S (·.push .none) >>=λ_=>updateSeq S (·.pop)) _ _ _;refine aa (wpAny_updateSeq hl rfl ?_);have l2:=ig (d6 (·.push de)) hl rfl;refine wpAny_updateSeq (hz:=by seq_fits) l2 rfl ?_;have l3:=ig (d6 (·.pop)) l2 rfl;have DR:∀b x,b≠S->s.heap.get? b=aA x->((s.heap.update S (d6 (·.push de))).update S (d6 (·.pop))).get? b=aA x:=
  λb x hb e=>(Heap.get?_update_other _ _ (Ne.symm hb)).trans ((Heap.get?_update_other _ _ (Ne.symm hb)).trans e)
 refine ad ⟨plainId_quiet PySem.F.plain_extend_loop _,wI T hS hz res ord.length 0 _ _ (by omega) (T.keep _ _ _ st λb hb x e=>DR b x (λz=>hS (z▸hb)) e) l3 λh' c' k g=>?_⟩;exact hR h' c' (λb x hb hI e=>k b x hb hI (DR b x hb e)) g
theorem uz{res}(hh:A.handled=aB)(ho:s.heap.get? r=aA o)(hx:o.ExactSet)(hd:o.data= .set es ep t)(hf:t.fits es.size=aC)(Y_:t.led= !By w)(rise:t.plain=aC->Ce t.place.toList)(hr:es.size<=1000)(hS:S≠r)(hl:s.heap.get? S=aA (Ib #[] c))(hR:∀h' d c' (ord:List ag),ord.Perm (es.toList.map (·.2))->(∀b x,b≠S->s.heap.get? b=aA x->h'.get? b=aA x)->h'.get? S=aA (Ib ord.toArray c')->R (.ok (.ret res)) {s with heap:=h',drawn:=d}):
  bh (b9 prog w) A.in1 (Builtin.List.listExtendWith (.ref S) (.ref r) res) (λfin s'=>match fin with| .done f=>R (.ok f) s'| .again c'=>c'.quiet=aC/\codeAny (b9 prog w) A c' R s') (λe s'=>R (.error e) s') s:=by
 have hb:es.size<scanBound:=by unfold scanBound;omega
 have vE:t.place.size=es.size:=by unfold SetTable.fits at hf;simp only[Bool.and_eq_true,beq_iff_eq]at hf;exact hf.1
 have hT:s.TypeIs (.ref r) "set":=⟨o,ho,hx.1⟩
 have HR:S<s.heap.objs.size:=bj hl;have QS:r<s.heap.objs.size:=bj ho;unfold Builtin.List.listExtendWith;refine aa (wpAny_typeOf (T:="set") hT ?_);have z1:Builtin.List.listSameRef (.ref S) (.ref r)=aD:=by simp[Builtin.List.listSameRef,hS]
 have z2:(Value.type "set"==Value.type "list")=aD:=by decide
 have z3:(Value.type "set"==Value.type "tuple")=aD:=by decide
 simp only[z1,z2,z3,Bool.or_false,bx,if_false];have YM:A.in1.handled=aB:=hh;refine aa (mn ho hx hd hf hb (λhc=>?_) λhc ps d hp=>?_)
 .have rI:r≠s.heap.objs.size:=cj QS;have SI:S≠s.heap.objs.size:=cj HR;have nf:S∉[s.heap.objs.size,r]:=by simp only[b7,List.not_mem_nil,or_false,not_or];exact⟨SI,hS⟩
  have old:∀b x,s.heap.get? b=aA x->b≠s.heap.objs.size:=λb x e=>cj (bj e);cases hB:By w with
  |false=>
   have WO:t.led=aC:=by rw[Y_,hB];rfl
   have hp:(!t.plain&&decide (es.size > 1))=aD:=by rw[hB]at hc;simpa using hc
   have rise:Ce t.place.toList:=by
    cases ZI:t.plain with
    |true=>exact rise ZI
    |false=>
     rw[ZI]at hp;have:¬es.size > 1:=by simpa using hp
     unfold Ce;have hle:t.place.toList.length<=1:=by rw[ba];omega
     match hq:t.place.toList,hle with
     | [],_=>exact List.Pairwise.nil
     | [a],_=>exact List.pairwise_singleton _ _
   refine Pg (Hv YM rI hd hf hB WO hp rise vE) nf (by rw[ah,ba];omega) ⟨o,aq _ ho,hx.1⟩ ⟨bi _ rfl,aq _ ho⟩ (aq _ hl) (f:=λb=>b||_) λh' c' k g=>?_;exact hR h' s.drawn c' _ (List.Perm.refl _) (λb x hb e=>k b x hb (old b x e) (aq _ e)) g
  |true=>have pp:=kx (w.params.setOrder r ep) es;refine Pg (j6 YM rI hd hf hB) nf (by rw[ah,pp.length_eq,ba];omega) ⟨o,aq _ ho,hx.1⟩ ⟨bi _ rfl,aq _ ho⟩ (aq _ hl) (f:=λb=>b||_) λh' c' k g=>?_;exact hR h' s.drawn c' _ (pp.map _) (λb x hb e=>k b x hb (old b x e) (aq _ e)) g
 .have vF:∀p∈ps,p<es.size:=λp hq=>c8.mp (hp.mem_iff.mp hq);have rI:r≠s.heap.objs.size+1:=cj (Nat.lt_succ_of_lt QS);have TI:s.heap.objs.size≠s.heap.objs.size+1:=cj (Nat.lt_succ_self _);have nf:S∉[s.heap.objs.size+1,r,s.heap.objs.size]:=by simp only[b7,List.not_mem_nil,or_false,not_or];exact⟨cj (Nat.lt_succ_of_lt HR),hS,cj HR⟩
  have up:∀b x,s.heap.get? b=aA x->((s.heap.push (Tf ps)).push (Xm (.ref s.heap.objs.size) 0 r es.size ep)).get? b=aA x:=λb x e=>aq _ (aq _ e);have we:(s.heap.push (Tf ps)).objs.size=s.heap.objs.size+1:=Heap.size_push _ _;have gI:((s.heap.push (Tf ps)).push (Xm (.ref s.heap.objs.size) 0 r es.size ep)).get? (s.heap.objs.size+1)=aA (Xm (.ref s.heap.objs.size) 0 r es.size ep):=by rw[<-we];exact bi _ rfl
  have gT:((s.heap.push (Tf ps)).push (Xm (.ref s.heap.objs.size) 0 r es.size ep)).get? s.heap.objs.size=aA (Tf ps):=aq _ (bi _ rfl);have pl:(ps.map λp=>es.getD p (0,de)).Perm es.toList:=by
   refine(hp.map _).trans ?_;have:(c6 es.size).map (λp=>es.getD p (0,de))=es.toList:=by
    apply List.ext_getElem?;intro i;rw[az];by_cases hi:i<es.size
    .rw[List.getElem?_range hi,dh];simp[Array.getD,hi]
    .rw[d3 (by simpa using hi),d3 (by simpa using hi)];rfl
   rw[this]
  have eo:(ps.map λp=>(es.getD p (0,de)).2)=(ps.map λp=>es.getD p (0,de)).map (·.2):=by rw[cp];rfl
  refine Pg (s:={s with heap:=(s.heap.push (Tf ps)).push (Xm (.ref s.heap.objs.size) 0 r es.size ep),drawn:=d}) (Hw YM rI TI hd hf vF) nf (by rw[ah,hp.length_eq,List.length_range];omega) ⟨o,up _ _ ho,hx.1⟩ ⟨gI,up _ _ ho,gT⟩ (up _ _ hl) (f:=λb=>b||_) λh' c' k g=>?_;rw[eo]at g;exact hR h' d c' _ (pl.map _) (λb x hb e=>k b x hb (cj (Nat.lt_succ_of_lt (bj e))) (up b x e)) g
theorem Vq(hh:A.handled=aB)(ho:s.heap.get? r=aA o)(hx:o.ExactSet)(hd:o.data= .set es ep t)(hf:t.fits es.size=aC)(Y_:t.led= !By w)(rise:t.plain=aC->Ce t.place.toList)(hr:es.size<=1000)(h:∀ord h' d,ord.Perm (es.toList.map (·.2))->(∀b x,s.heap.get? b=aA x->h'.get? b=aA x)->s.heap.objs.size<=h'.objs.size->Q ord {s with heap:=h',drawn:=d}):bh (b9 prog w) A (collect (.ref r)) Q E s:=by
 have QS:r<s.heap.objs.size:=bj ho;have nS:s.heap.objs.size≠r:=Nat.ne_of_gt QS;unfold collect;refine aa (wpAny_runValue (ir PySem.F.entry_proto_collect ?_));rw[gr PySem.F.plain_proto_collect _];show bh _ A.in1 (newList [] >>=λl=>again (.builtin "list.__iadd__" ⟨[l,.ref r],[]⟩)) _ _ s;refine aa (g7 ?_);refine ad ⟨plainId_quiet PySem.F.plain_list_iadd _,ir PySem.F.entry_list_iadd ?_⟩;rw[gr PySem.F.plain_list_iadd _];show bh _ A.in1 (Builtin.List.listExtendWith (.ref s.heap.objs.size) (.ref r) (.ref s.heap.objs.size)) _ _ _;refine uz (R:=λrr s'=>match rr with
  | .ok (.ret v)=>bh (b9 prog w) A (match v with
   | .ref a=>(load a >>=λx=>match x.data with
    | .seq xs _=>pure xs.toList
    |_=>unsupported "internal:collect")
   |_=>unsupported "internal:collect") Q E s'
  | .ok _=>False
  | .error e=>E e s') (s:={s with heap:=s.heap.push (Ib #[] 0)}) (c:=0) hh (aq _ ho) hx hd hf Y_ rise hr nS (bi _ rfl) λh' d c' ord hp hk g=>?_
 show bh _ A (load s.heap.objs.size >>=_) _ _ _;refine aa (wpAny_load g ?_);refine ad ?_;have e:ord.toArray.toList=ord:=by simp
 show Q ord.toArray.toList _;rw[e];exact h ord h' d hp (λb x e=>hk b x (cj (bj e)) (aq _ e)) (Nat.le_of_lt (bj g))
theorem Hx(hh:A.handled=aB)(ho:s.heap.get? r=aA o)(hO:Own prog w (By w) o ks)(hr:ks.length<=1000)(h:∀vs ZJ h' d,IntsAre vs ZJ->ZJ.Perm ks->(∀b x,s.heap.get? b=aA x->h'.get? b=aA x)->s.heap.objs.size<=h'.objs.size->Q vs {s with heap:=h',drawn:=d}):bh (b9 prog w) A (collect (.ref r)) Q E s:=by
 obtain⟨es,ep,t,hx,hd,el,pm,hf,ht,hb⟩:=hO;refine Vq hh ho hx hd hf ht.led ht.rise (by have:=pm.length_eq;rw[ah,ba]at this;omega) λord h' d hp hk hs=>?_;refine h ord (ord.map numOf) h' d (intsAre_map _ λv hv=>?_) (((hp.map numOf).trans (by rw[cp];exact .refl _)).trans pm) hk hs;obtain⟨x,hx,rfl⟩:=ax.mp (hp.mem_iff.mp hv);obtain⟨t,ht⟩:=Vn el hx;exact⟨_,t,ht⟩
theorem mf(hh:A.handled=aB)(ho:s.heap.get? r=aA o)(hO:Own prog w (By w) o ks)(hr:ks.length<64)(h:∀h' d L out c ns',(∀b x,s.heap.get? b=aA x->h'.get? b=aA x)->s.heap.objs.size<=L->h'.get? L=aA (Ib out c)->IntsAre out.toList ns'->ns'.Perm ks->ns'.Pairwise (· <= ·)->Q (.ref L) {s with heap:=h',drawn:=d}):
  bh (b9 prog w) A (call (.builtin "sorted") [.ref r]) Q E s:=by
 refine Calls.call_function_entry kind_sorted plain_sorted entry_sorted (args_sorted1 _) ?_;unfold Builtin.«sorted»;refine aa (m:=checkCount "sorted" 1 1 _) (ad ?_);refine aa (Hx (A:=A.in1) hh ho hO (by omega) λvs ZJ h1 d hI hp hk ge=>?_);have hl:vs.length<64:=by rw[IntsAre.length hI,hp.length_eq];exact hr
 refine aa (wpAny_newList ?_ (by rw[gp];omega));have gL:(h1.push (d5 "list" vs.toArray 0)).get? h1.objs.size=aA (d5 "list" vs.toArray 0):=bi _ rfl;have vO:h1.objs.size<(h1.push (d5 "list" vs.toArray 0)).objs.size:=bj gL;refine aa (gn (d8 slot_list_sort ⟨_,gL,rfl⟩ entry_list_sort (list_sort_tree (s:={s with heap:=h1.push (d5 "list" vs.toArray 0),drawn:=d}) gL hI hl λout ns' a1 a2 a3=>⟨_,rfl,?_⟩) (args_list_sort _)));obtain⟨c,hc⟩:=sortedHeap_at (out:=out) gL;refine ad ⟨_,rfl,h _ d _ out c ns' (λb x e=>?_) ge hc a1 (a2.trans hp) a3⟩;have e1:=hk b x e;have Do:b<h1.objs.size:=bj e1;rw[sortedHeap_old (cj Do) (Nat.lt_trans Do vO)];exact aq _ e1
def Vr(ns:List Int):List Int:=(dd (λi=>ns.getD i 0) ns.length).mergeSort λa b=>decide (a<=b)
theorem Ic(ns):(Vr ns).Perm (dd (λi=>ns.getD i 0) ns.length):=List.mergeSort_perm _ _
theorem ye(ns):(Vr ns).Pairwise (· <= ·):=by have:=List.pairwise_mergeSort (le:=λa b:Int=>decide (a<=b)) (λa b c h1 h2=>by simp at*;omega) (λa b=>by simp;omega) (dd (λi=>ns.getD i 0) ns.length);exact this.imp λh=>by simpa using h
theorem me(ns):(Vr ns).length<=ns.length:=by rw[(Ic ns).length_eq];exact Pd _ _
theorem Lj:∀{ns:List Int} {vs:List ag},IntsAre vs ns->Z5 (ns.map V.int) vs
 |_,_,.nil=>.nil
 |_,_,.cons n t h=>.cons ⟨t,rfl⟩ (Lj h)
theorem Ie:∀{ns:List Int} {vs:List ag},Z5 (ns.map V.int) vs->IntsAre vs ns
 | [],_,h=>by cases h;exact .nil
 |n::ns,_,h=>by
  cases h with
  |cons r t=>obtain⟨tk,rfl⟩:=r;exact .cons n tk (Ie t)
theorem eG.drawnAt{σ:St}(I:eG X eB σ H s)(d):eG X eB σ H {s with drawn:=d}:=
 ⟨I.ok,I.os,I.bare,I.base,I.loc,I.cell,I.free,I.freeC,I.pin,I.hok,I.len⟩
def rSS(K:af):List V->Hp->VK->Prop:=λxs H Q=>∃l ns,xs=[.ref l]/\Bm K H l (ns.map V.int)/\ns.length<64/\∀q,H q=aB->Q (.ref q) (Y7 H q (.lst ((Vr ns).map V.int)))
theorem C4:bootBuiltins "sorted"=aA (.builtin "sorted"):=by kernel_rfl
theorem Vs:bootBuiltins "set"=aA (.type "set"):=by kernel_rfl
theorem qy(hc:X.calm=aC)(h1:X.mg "sorted"=aB)(h2:X.mg "set"=aB)(ha:PA X [a] t)(g1:Gl X "sorted")(g2:Gl X "set")(Y':bd [.Call (.Name "set" q1) [a] [] q2] X.env=(aD,ip (.Call (.Name "set" q1) [a] [] q2) X.env)::bd [] X.env)(VQ:(gd p2 (bd [] X.env)).any (·.1)=aD)(X':bd [a] X.env=(aD,ip a X.env)::bd [] X.env)(VO:(gd q2 (bd [] X.env)).any (·.1)=aD):
  PE X (.Call (.Name "sorted" p1) [.Call (.Name "set" q1) [a] [] q2] [] p2) (tCB (rSS X.K) t):=by
 intro eB s σ H Q I h;refine wpAny_Call_Name_kw (O9 I g1 h1 C4 ?_);refine PyProof.Rows.callWith_builtin1 ?_ Y' VQ;rw[Y'];show bh _ _ (spliced ((aD,ip (.Call (.Name "set" q1) [a] [] q2) X.env)::gd p2 (bd [] X.env))) _ _ s;refine Calls.spliced_cons (wpAny_Call_Name_kw (O9 I g2 h2 Vs ?_));refine PyProof.Rows.callWith_type1 (Wq (ha q2 eB s σ H _ I h) λus s1 ⟨vs,H1,I1,r1,z1⟩=>?_) X' VO;obtain⟨l,ns,rfl,hl,hz,q⟩:=z1;obtain⟨u,rfl,ru⟩:=Uu r1;cases ru;obtain⟨eC,rv,⟨o,n,ho,YG,_,hd⟩,_⟩:=I1.list hl;have hI:=Ie rv;have li:eC.length=ns.length:=IntsAre.length hI;have hh:=I1.ok.hd hc;refine mw (eC:=eC.toArray) (ns:=ns) hh ⟨o,ho,YG,n,hd⟩ (by simpa using hI) (by rw[bq];unfold scanBound;omega) λh' tk o' YR hO hk=>?_;rw[bq,li]at hO;show bh _ _ (spliced []) _ _ _;refine Calls.spliced_nil ?_;refine mf (s:={s1 with heap:=h',toks:=tk}) hh YR hO (by have:=Pd (λi=>ns.getD i 0) ns.length;omega) λh2 d L out c ns' hk2 ge gL uN hp hw=>?_;have e:ns'=Vr ns:=PySem.W.lks_uniq (hp.trans (Ic ns).symm) hw (ye ns);subst e;have lo:s1.heap.objs.size<h'.objs.size:=bj YR;have BG:s1.heap.objs.size<=L:=dm (Nat.le_of_lt lo) ge;have keep:∀b x,s1.heap.get? b=aA x->h2.get? b=aA x:=λb x e=>hk2 b x (hk b x (bj e) e);have ok:Yp X.prog X.w (Y7 H1 L (.lst ((Vr ns).map V.int))) h2 L (.lst ((Vr ns).map V.int)):=by refine⟨?_,out.toList,c,Lj uN,by simpa using gL⟩;rw[ah,gp];have:=me ns;omega
 exact⟨.ref L,_,(I1.laid (t':=tk) keep BG ok).drawnAt d,rfl,q L (I1.hok.fresh BG)⟩
section
variable{K:af}
@[simp]noncomputable def ints?:List D->Option (List Int)
 | []=>aA []
 | .int i::r=>(ints? r).bind λl=>aA (i::l)
 |_=>aB
theorem Vt:∀ns,ints? (ns.map D.int)=aA ns
 | []=>rfl
 |n::ns=>by rw[ay,ints?,Vt ns];rfl
theorem wG:∀{xs:List D} {ns:List Int},ints? xs=aA ns->xs=ns.map D.int
 | [],_,h=>by cases h;rfl
 |x::xs,ns,h=>by
  unfold ints? at h;split at h
  .rename_i e;cases e
  .rename_i i r e;cases e;refine eK h λl h1 h2=>?_;cases h2;rw[wG h1];rfl
  .cases h
theorem Ll:∀{ns:List Int} {vs:List V},eF K F (ns.map D.int) vs->vs=ns.map V.int
 | [],_,h=>by cases h;rfl
 |n::ns,_,h=>by
  cases h with
  |cons h t=>cases h;rw[Ll t];rfl
theorem Lm:∀(ns:List Int),eF K F (ns.map D.int) (ns.map V.int)
 | []=>.nil
 |n::ns=>.cons (.int n) (Lm ns)
def PC:List D->Option SV
 | [.lst xs]=>(ints? xs).bind λns=>if ns.length<64 then aA (.ol ((Vr ns).map D.int))else aB
 |_=>aB
theorem md(h:ns.length<64):PC [.lst (ns.map D.int)]=aA (.ol ((Vr ns).map D.int)):=by show(ints? (ns.map D.int)).bind _=_;rw[Vt];show(if ns.length<64 then _ else _)=_;rw[dG h]
theorem sU{Z:eM K}:Oc Z (rSS K) PC:=by
 intro F H σ δ own vs ds sv Q s r e k;unfold PC at e;split at e
 .refine eK e λns e1 e2=>?_;split at e2
  .rename_i hz;cases e2;have:=wG e1;subst this;cases r with
   |cons h t=>cases t;obtain⟨a,us,rfl,ha,ru⟩:=h.lst s.le;have eu:=Ll ru;subst eu;exact⟨a,ns,rfl,ha,hz,λq hq=>k.lst s (Lm _) hq⟩
  .cases e2
 .cases e
section
variable{X:Cx}{Z:eM X.K}{a b c:da}{fa fb fc:FE}{pos:Pos}
theorem sT{p1 q1 q2}(hc:X.calm=aC)(h1:X.mg "sorted"=aB)(h2:X.mg "set"=aB)(ha:PE X a (Ze Z fa))(g1:‹Gl X "sorted"›)(g2:‹Gl X "set"›)(Y':‹bd [.Call (.Name "set" q1) [a] [] q2] X.env=(aD,ip (.Call (.Name "set" q1) [a] [] q2) X.env)::bd [] X.env›)(VQ:‹(gd pos (bd [] X.env)).any (·.1)=aD›)(X':‹bd [a] X.env=(aD,ip a X.env)::bd [] X.env›)(VO:‹(gd q2 (bd [] X.env)).any (·.1)=aD›):
  PE X (.Call (.Name "sorted" p1) [.Call (.Name "set" q1) [a] [] q2] [] pos) (Ze Z (Yq PC (Zc fa Zi))):=
 (qy hc h1 h2 (Zh ha Z4 X') g1 g2 Y' VQ X' VO).imp λ_ _ _ h=>Ep sU h
end
end
section
open PySem.W
def W9{α:Type}(lt:Nat->Nat->Bool)(n:Nat)(R:α->Prop):KasT α->Prop
 | .ret a=>R a
 | .ask i j k=>i<n/\j<n/\W9 lt n R (k (lt i j))
theorem W9.bind{f:α->KasT β}(h:∀a,R a->W9 lt n S (f a)):∀{t:KasT α},W9 lt n R t->W9 lt n S (t.bind f)
 | .ret a,g=>h a g
 | .ask i j k,g=>⟨g.1,g.2.1,W9.bind h (t:=k (lt i j)) g.2.2⟩
theorem W9.mono{R:α->Prop}(h:∀a,R a->S a):∀{t:KasT α},W9 lt n R t->W9 lt n S t
 | .ret a,g=>h a g
 | .ask i j k,g=>⟨g.1,g.2.1,W9.mono h (t:=k (lt i j)) g.2.2⟩
theorem W9.wp{I:am->Prop}{Q:α->am->Prop}(hc:∀i j C s,i<n->j<n->I s->(∀s',I s'->C (lt i j) s')->cmp i j C s)(hq:∀a s,R a->I s->Q a s):∀{t:KasT α} {s:am},W9 lt n R t->I s->t.kasWp cmp Q s
 | .ret a,s,g,i=>hq a s g i
 | .ask i j k,s,g,x=>hc i j _ s g.1 g.2.1 x λs' x'=>W9.wp hc hq (t:=k (lt i j)) g.2.2 x'
section
variable{O:KeyOrd}{key:Nat->O.α}{n:Nat}
noncomputable abbrev Kh(O:KeyOrd)(key:Nat->O.α)(i j:Nat):Bool:=O.blt (key i) (key j)
noncomputable def Kp(key:Nat->O.α)(p:Array Nat)(i:Nat):O.α:=key (p.getD i 0)
def Ph(key:Nat->O.α)(p:Array Nat)(k:Nat):Prop:=∀i j,i<=j->j<k->O.kle (Kp key p i) (Kp key p j)
def Dec(key:Nat->O.α)(p:Array Nat)(k:Nat):Prop:=∀i j,i<=j->j<k->O.kle (Kp key p j) (Kp key p i)
def Pm(n:Nat)(p:Array Nat):Prop:=p.Perm (List.toArray (c6 n))
theorem Pm.size(h:Pm n p):p.size=n:=by have:=(Array.perm_iff_toList_perm.mp h).length_eq;simpa using this
theorem Pm.lt(h:Pm n p){i}(hi:i<n):p.getD i 0<n:=by
 have hs:i<p.size:=by rw[h.size];exact hi
 have hm:p[i]∈(c6 n):=(Array.perm_iff_toList_perm.mp h).mem_iff.mp (by simp);rw[Array.getD_eq_getD_getElem?,getElem?_pos p i hs];exact c8.mp hm
theorem C5(h:p[i]? =q[j]?):Kp key p i=Kp key q j:=by unfold Kp;rw[Array.getD_eq_getD_getElem?,Array.getD_eq_getD_getElem?,h]
theorem Ig(hj:j<=p.size)(k):Kp key (kas_rev p i j) k=if i<=k/\k<j then Kp key p (i+j- 1- k)else Kp key p k:=by
 have e:=getElem?_mirror_all (xs:=p) (i:=i) hj k;unfold kas_rev;by_cases h:i<=k/\k<j
 .rw[dG h]at e⊢;exact C5 e
 .rw[dF h]at e⊢;exact C5 e
theorem yd(hs:src<p.size)(hd:d<=src)(k):Kp key (bubble p src d) k=if k=src- d then Kp key p src else if src- d<k/\k<=src then Kp key p (k- 1)else Kp key p k:=by
 have e:=getElem?_bubble hs d hd k;by_cases h1:k=src- d
 .rw[dG h1]at e⊢;exact C5 e
 .rw[dF h1]at e⊢;by_cases h2:src- d<k/\k<=src
  .rw[dG h2]at e⊢;exact C5 e
  .rw[dF h2]at e⊢;exact C5 e
theorem Pm.rev(h:Pm n p)(i j):Pm n (kas_rev p i j):=(mirror_perm p i j _).trans h
theorem Pm.bub(h:Pm n p)(i j):Pm n (bubble p i j):=(bubble_perm p i j).trans h
theorem Ih(hp:Pm n p):∀f m,1<=m->m+f<=n->Ph key p m->
  W9 (Kh O key) n (λr=>m<=r/\r<=m+f/\Ph key p r/\(r=m+f\/O.klt (Kp key p r) (Kp key p (r- 1)))) (kas_asc p f m)
 |0,m,_,_,hs=>⟨bf _,bf _,hs,.inl rfl⟩
 |f+1,m,h1,hm,hs=>by
  refine⟨hp.lt (by omega),hp.lt (by omega),?_⟩;show W9 _ _ _ (if O.blt (Kp key p m) (Kp key p (m- 1))=aC then _ else _);by_cases c:O.blt (Kp key p m) (Kp key p (m- 1))=aC
  .rw[dG c];exact⟨bf _,by omega,hs,.inr c⟩
  .rw[dF c];refine(Ih hp f (m+1) (by omega) (by omega) λi j YS hj=>?_).mono λr ⟨a,b,d,e⟩=>⟨by omega,by omega,d,by rcases e with e|e;exact .inl (by omega);exact .inr e⟩
   by_cases NC:j<m
   .exact hs i j YS NC
   .have:j=m:=by omega
    subst this;by_cases hi:i=j
    .subst hi;exact KeyOrd.kle_refl _
    .exact KeyOrd.kle_trans (hs i (j- 1) (by omega) (by omega)) (KeyOrd.kle_of_not_klt c)
theorem Gs:∀f p m q,Pm n p->1<=m->m+f<=n->Dec key p m->q+1<=m->(∀i,m- (q+1)<=i->i<m->Kp key p i=Kp key p (m- 1))->
  W9 (Kh O key) n (λr=>Pm n r.1/\m<=r.2.1/\r.2.1<=m+f/\Dec key r.1 r.2.1/\r.2.2+1<=r.2.1/\∀i,r.2.1- (r.2.2+1)<=i->i<r.2.1->Kp key r.1 i=Kp key r.1 (r.2.1- 1)) (kas_desc f p m q)
 |0,p,m,q,hp,_,_,hs,hq,he=>⟨hp,bf _,bf _,hs,hq,he⟩
 |f+1,p,m,q,hp,h1,hm,hs,hq,he=>by
  have hsz:m<=p.size:=by rw[hp.size];omega
  refine⟨hp.lt (by omega),hp.lt (by omega),?_⟩;show W9 _ _ _ (if O.blt (Kp key p m) (Kp key p (m- 1))=aC then _ else _);have up:∀{r:Array Nat×Nat×Nat},(Pm n r.1/\m+1<=r.2.1/\r.2.1<=m+1+f/\Dec key r.1 r.2.1/\r.2.2+1<=r.2.1/\∀i,r.2.1- (r.2.2+1)<=i->i<r.2.1->Kp key r.1 i=Kp key r.1 (r.2.1- 1))->
    (Pm n r.1/\m<=r.2.1/\r.2.1<=m+(f+1)/\Dec key r.1 r.2.1/\r.2.2+1<=r.2.1/\∀i,r.2.1- (r.2.2+1)<=i->i<r.2.1->Kp key r.1 i=Kp key r.1 (r.2.1- 1)):=
   λ⟨a,b,c,d⟩=>⟨a,by omega,by omega,d⟩
  have U_:∀x:Array Nat,O.blt (Kp key p m) (Kp key p (m- 1))=aC->(∀k,Kp key x k=Kp key p k)->Dec key x (m+1):=by
   intro x c hk i j YS hj;rw[hk,hk];by_cases QT:j<m
   .exact hs i j YS QT
   .have hj':j=m:=by omega
    subst hj';by_cases hi':i=j
    .subst hi';exact KeyOrd.kle_refl _
    .exact KeyOrd.kle_trans (KeyOrd.kle_of_klt c) (hs i (j- 1) (by omega) (by omega))
  have one:∀x:Array Nat,∀i,m+1- (0+1)<=i->i<m+1->Kp key x i=Kp key x (m+1- 1):=λx i a b=>by congr 1;omega
  by_cases c:O.blt (Kp key p m) (Kp key p (m- 1))=aC
  .rw[dG c];by_cases hq0:q > 0
   .rw[dG hq0];refine(Gs f (kas_rev p (m- (q+1)) m) (m+1) 0 (hp.rev _ _) (by omega) (by omega) (U_ _ c λk=>?_) (by omega) (one _)).mono λr=>up;rw[Ig hsz];by_cases hk:m- (q+1)<=k/\k<m
    .rw[dG hk,he _ (by omega) (by omega),he k hk.1 hk.2]
    .rw[dF hk]
   .rw[dF hq0];exact(Gs f p (m+1) 0 hp (by omega) (by omega) (U_ _ c λ_=>rfl) (by omega) (one _)).mono λr=>up
  .rw[dF c];refine⟨hp.lt (by omega),hp.lt (by omega),?_⟩;show W9 _ _ _ (if O.blt (Kp key p (m- 1)) (Kp key p m)=aC then _ else _);by_cases d:O.blt (Kp key p (m- 1)) (Kp key p m)=aC
   .rw[dG d];exact⟨hp,bf _,Nat.le_add_right _ _,hs,hq,he⟩
   .rw[dF d];have ex:Kp key p m=Kp key p (m- 1):=KeyOrd.kle_antisymm (by simpa[KeyOrd.kle]using d) (by simpa[KeyOrd.kle]using c);refine(Gs f p (m+1) (q+1) hp (by omega) (by omega) (λi j YS hj=>?_) (by omega) λi a b=>?_).mono λr=>up
    .by_cases QT:j<m
     .exact hs i j YS QT
     .have hj':j=m:=by omega
      subst hj';by_cases hi':i=j
      .subst hi';exact KeyOrd.kle_refl _
      .rw[ex];exact hs i (j- 1) (by omega) (by omega)
    .rw[show m+1- 1=m by omega];by_cases hix:i=m
     .subst hix;rfl
     .rw[ex];exact he i (by omega) (by omega)
abbrev Ct(key:Nat->O.α)(n:Nat)(r:Nat×Array Nat):Prop:=Pm n r.2/\1<=r.1/\r.1<=n/\Ph key r.2 r.1
theorem Ii(hp:Pm n p)(h1:1<=m)(hm:m<=n)(hs:Dec key p m):W9 (Kh O key) n (Ct key n) (kas_tail3 m n p):=by
 have hsz:m<=p.size:=by rw[hp.size];exact hm
 refine W9.bind (R:=λr=>m<=r/\r<=m+(n- m)/\Ph key (kas_rev p 0 m) r/\_) (λr ⟨a,b,c,_⟩=>⟨hp.rev _ _,by show 1<=r;omega,by show r<=n;omega,c⟩) (Ih (hp.rev 0 m) (n- m) m h1 (by omega) λi j YS hj=>?_);rw[Ig hsz,Ig hsz,dG (by omega),dG (by omega)];exact hs _ _ (by omega) (by omega)
theorem Rf(hp:Pm n p)(hm:m+1<=n)(hs:Dec key p (m+1)):W9 (Kh O key) n (Ct key n) (kas_descPart m n p):=by
 refine W9.bind (λr h=>?_) (Gs (n- (m+1)) p (m+1) 0 hp (by omega) (by omega) hs (by omega) λi a b=>by congr 1;omega);obtain⟨a,b,c,d,e,g⟩:=h;have hsz:r.2.1<=r.1.size:=by rw[a.size];omega
 by_cases hq:r.2.2 > 0
 .rw[dG hq];refine Ii (a.rev _ _) (by omega) (by omega) λi j YS hj=>?_;have k:∀x,Kp key (kas_rev r.1 (r.2.1- (r.2.2+1)) r.2.1) x=Kp key r.1 x:=λx=>by
   rw[Ig hsz];by_cases hk:r.2.1- (r.2.2+1)<=x/\x<r.2.1
   .rw[dG hk,g _ (by omega) (by omega),g x hk.1 hk.2]
   .rw[dF hk]
  rw[k,k];exact d i j YS hj
 .rw[dF hq];exact Ii a (by omega) (by omega) d
theorem Hy(hp:Pm n p)(h1:1<=n):W9 (Kh O key) n (Ct key n) (kas_count n p):=by
 refine W9.bind (λm h=>?_) (Ih (key:=key) hp (n- 1) 1 (bf _) (by omega) λi j YS hj=>by(have:i=j:=by omega);subst this;exact KeyOrd.kle_refl _);obtain⟨a,b,c,d⟩:=h;by_cases hm:(m==n)=aC
 .rw[dG hm];exact⟨hp,a,by show m<=n;omega,c⟩
 .rw[dF hm];have VU:m≠n:=λz=>hm (by rw[z];exact beq_self_eq_true n);have br:O.klt (Kp key p m) (Kp key p (m- 1)):=by
   rcases d with d|d
   .omega
   .exact d
  by_cases h2:m > 1
  .rw[dG h2];refine⟨hp.lt (by omega),hp.lt (by omega),?_⟩;show W9 _ _ _ (if O.blt (Kp key p 0) (Kp key p (m- 1))=aC then _ else _);by_cases c0:O.blt (Kp key p 0) (Kp key p (m- 1))=aC
   .rw[dG c0];exact⟨hp,a,by show m<=n;omega,c⟩
   .rw[dF c0];have hsz:m<=p.size:=by rw[hp.size];omega
    have eq:∀i,i<m->Kp key p i=Kp key p (m- 1):=λi hi=>
     KeyOrd.kle_antisymm (c i (m- 1) (by omega) (by omega)) (KeyOrd.kle_trans (by simpa[KeyOrd.kle]using c0) (c 0 i (by omega) hi))
    have k:∀x,Kp key (kas_rev p 0 m) x=Kp key p x:=λx=>by
     rw[Ig hsz];by_cases hk:0<=x/\x<m
     .rw[dG hk,eq _ (by omega),eq x hk.2]
     .rw[dF hk]
    refine Rf (hp.rev 0 m) (by omega) λi j YS hj=>?_;rw[k,k];by_cases NC:j=m
    .subst NC;by_cases hi:i=j
     .subst hi;exact KeyOrd.kle_refl _
     .rw[eq i (by omega)];exact KeyOrd.kle_of_klt br
    .rw[eq i (by omega),eq j (by omega)];exact KeyOrd.kle_refl _
  .rw[dF h2];have:m=1:=by omega
   subst this;refine Rf hp (by omega) λi j YS hj=>?_;by_cases hi:i=j
   .subst hi;exact KeyOrd.kle_refl _
   .have:i=0:=by omega
    subst this;have:j=1:=by omega
    subst this;exact KeyOrd.kle_of_klt br
theorem Rn(hp:Pm n p)(hk:k<n)(hs:Ph key p k):∀f l r,l<=r->r<=k->r- l<=f->(∀i,i<l->O.kle (Kp key p i) (Kp key p k))->(∀i,r<=i->i<k->O.kle (Kp key p k) (Kp key p i))->
  W9 (Kh O key) n (λm=>m<=k/\(∀i,i<m->O.kle (Kp key p i) (Kp key p k))/\∀i,m<=i->i<k->O.kle (Kp key p k) (Kp key p i)) (kas_place p k f l r)
 |0,l,r,QS,hr,hf,h1,h2=>⟨by omega,h1,λi a b=>h2 i (by omega) b⟩
 |f+1,l,r,QS,hr,hf,h1,h2=>by
  show W9 _ _ _ (if l>=r then _ else _);by_cases c:l>=r
  .rw[dG c];exact⟨by omega,h1,λi a b=>h2 i (by omega) b⟩
  .rw[dF c];refine⟨hp.lt hk,hp.lt (by omega),?_⟩;show W9 _ _ _ (if O.blt (Kp key p k) (Kp key p ((l+r) / 2))=aC then _ else _);by_cases d:O.blt (Kp key p k) (Kp key p ((l+r) / 2))=aC
   .rw[dG d];exact Rn hp hk hs f l ((l+r) / 2) (by omega) (by omega) (by omega) h1 λi a b=>KeyOrd.kle_trans (KeyOrd.kle_of_klt d) (hs _ i a b)
   .rw[dF d];exact Rn hp hk hs f ((l+r) / 2+1) r (by omega) hr (by omega) (λi a=>KeyOrd.kle_trans (hs i ((l+r) / 2) (by omega) (by omega)) (KeyOrd.kle_of_not_klt d)) h2
theorem Vu:∀f p k,Pm n p->k+f=n->Ph key p k->W9 (Kh O key) n (λq=>Pm n q/\Ph key q n) (kas_bin f p k)
 |0,p,k,hp,hk,hs=>⟨hp,by(have:k=n:=hk);rw[<-this];exact hs⟩
 |f+1,p,k,hp,hk,hs=>by
  refine W9.bind (λl h=>?_) (Rn hp (by omega) hs k 0 k (gq _) (bf _) (by omega) (λi hi=>dM hi (f6 _)) λi a b=>dM b (by omega));obtain⟨hl,a,b⟩:=h;have hsz:k<p.size:=by rw[hp.size];omega
  refine Vu f (bubble p k (k- l)) (k+1) (hp.bub _ _) (by omega) λi j YS hj=>?_;rw[yd hsz (by omega),yd hsz (by omega)];have e:k- (k- l)=l:=by omega
  rw[e];by_cases i1:i=l
  .rw[dG i1];by_cases j1:j=l
   .rw[dG j1];exact KeyOrd.kle_refl _
   .rw[dF j1,dG (by omega)];exact b (j- 1) (by omega) (by omega)
  .rw[dF i1];by_cases i2:l<i/\i<=k
   .rw[dG i2,dF (by omega),dG (by omega)];exact hs _ _ (by omega) (by omega)
   .rw[dF i2];by_cases j1:j=l
    .rw[dG j1];exact a i (by omega)
    .rw[dF j1];by_cases j2:l<j/\j<=k
     .rw[dG j2];exact hs _ _ (by omega) (by omega)
     .rw[dF j2];exact hs _ _ YS (by omega)
theorem Ln(h1:1<=n):W9 (Kh O key) n (λq=>Pm n q/\Ph key q n) (kas_sort n):=by
 refine W9.bind (λr h=>?_) (Hy (key:=key) (Array.Perm.refl _) h1);obtain⟨a,b,c,d⟩:=h;by_cases hr:r.1<n
 .rw[dG hr];have e:max r.1 1=r.1:=by omega
  rw[e];exact Vu _ _ _ a (by omega) d
 .rw[dF hr];have:r.1=n:=by omega
  exact⟨a,by rw[this]at d;exact d⟩
end
end
section
open PySem.SeqAt
open AutoSeq1 (wpAny_loadPart')
open MeetsSeq MeetsSeq2 MeetsSeq3 SeqRoads2
def Bd(A:dg)(s:am)(y x:ag)(b:Bool):Prop:=
 ∀(prog:cg) (w:dn) (E:ag->am->Prop) (Q:ag->am->Prop),Q (.bool b) s->bh (b9 prog w) A (richCompare .Lt y x) Q E s
noncomputable def U0(fin:Bool)(e l:Nat->Bool):Nat->Nat->Bool
 |0,_=>fin
 |k+1,i=>if e i=aC then U0 fin e l k (i+1)else l i
theorem j5(l b eD eE n n2 dd dd2 sl sl2 e lt k):
  ∀i:Nat,(∀j,j<i->e j=aC)->min eD.size eE.size- i=k->Meets (Builtin.«list.__eq__.loop» ⟨[.ref l,.ref b,rawInt i,rawInt 0],[]⟩)
   (λA R s=>s.heap.get? l=aA {cls:=.type "list",dict:=dd,data:=.seq eD n,slots:=sl}/\s.heap.get? b=aA {cls:=.type "list",dict:=dd2,data:=.seq eE n2,slots:=sl2}/\
    (∀j h1 (h2:j<eE.size),(∀i,i<j->e i=aC)->EqAt A.in1 s eD[j] eE[j] (e j))/\(∀j h1 (h2:j<eE.size),(∀i,i<j->e i=aC)->e j=aD->Bd A.in1 s eD[j] eE[j] (lt j))/\
    R (.ok (.ret (.bool (U0 (decide (eD.size<eE.size)) e lt k i)))) s):=by
 induction k with
 |zero=>
  intro i ZY hk prog w A R s h;obtain⟨hp,g,d,tk,os⟩:=s;obtain⟨hl,hb,he,ht,h⟩:=h;wp_walk using fg hl,fg hb;have hi:eD[((i:Nat):Int).toNat]? =aB\/eE[((i:Nat):Int).toNat]? =aB:=by
   rcases dv i eD.size with z|z
   .right;simp;omega
   .left;simp;omega
  rcases h1:eD[((i:Nat):Int).toNat]? with _|x
  .wp_walk using fg hl,fg hb;exact h
  .rcases hi with hi|hi
   .rw[h1]at hi;cases hi
   .rw[hi];wp_walk using fg hl,fg hb;exact h
 |succ k ih=>
  intro i ZY hk prog w A R s h;obtain⟨hp,g,d,tk,os⟩:=s;obtain⟨hl,hb,he,ht,h⟩:=h;wp_walk using fg hl,fg hb;have ZM:i<eD.size:=by omega
  have RO:i<eE.size:=by omega
  have CY:eD[((i:Nat):Int).toNat]? =aA eD[i]:=by simp[ZM]
  have CW:eE[((i:Nat):Int).toNat]? =aA eE[i]:=by simp[RO]
  have hc:((i:Int)+1)=((i+1:Nat):Int):=by push_cast;rfl
  rw[CY,CW];refine aa (he i ZM RO ZY prog w _ _ ?_);cases ZZ:e i with
  |true=>
   have h':R (.ok (.ret (.bool (U0 (decide (eD.size<eE.size)) e lt k (i+1))))) ⟨hp,g,d,tk,os⟩:=by have z:=h;unfold U0 at z;rw[dG ZZ]at z;exact z
   wp_walk;rw[hc];exact⟨plainId_quiet plain_eq_loop _,ir entry_eq_loop (by
    rw[gr plain_eq_loop _];exact ih (i+1) (λj hj=>by
     rcases dv j i with z|z
     .exact ZY j z
     .have:j=i:=by omega
      rw[this];exact ZZ) (by omega) prog w A R _ ⟨hl,hb,he,ht,h'⟩)⟩
  |false=>
   have h':R (.ok (.ret (.bool (lt i)))) ⟨hp,g,d,tk,os⟩:=by have z:=h;unfold U0 at z;rw[dF (by rw[ZZ];simp)]at z;exact z
   wp_walk using fg hl,fg hb;rw[CY,CW];refine aa (ht i ZM RO ZY ZZ prog w _ _ ?_);wp_walk;exact h'
theorem Lo(l b eD eE n n2 dd dd2 sl sl2 e lt):
  Meets (Builtin.«list.__lt__» ⟨[.ref l,.ref b],[]⟩)
   (λA R s=>s.heap.get? l=aA {cls:=.type "list",dict:=dd,data:=.seq eD n,slots:=sl}/\s.heap.get? b=aA {cls:=.type "list",dict:=dd2,data:=.seq eE n2,slots:=sl2}/\
    (∀j h1 (h2:j<eE.size),(∀i,i<j->e i=aC)->EqAt A.in1 s eD[j] eE[j] (e j))/\(∀j h1 (h2:j<eE.size),(∀i,i<j->e i=aC)->e j=aD->Bd A.in1 s eD[j] eE[j] (lt j))/\
    R (.ok (.ret (.bool (U0 (decide (eD.size<eE.size)) e lt (min eD.size eE.size) 0)))) s):=by
 intro prog w A R s h;obtain⟨hp,g,d,tk,os⟩:=s;obtain⟨hl,hb,he,ht,h⟩:=h;have f3:=AutoSeq1.sub_list_list;wp_walk using fg hl,fg hb;exact⟨plainId_quiet plain_eq_loop _,ir entry_eq_loop (by
  rw[gr plain_eq_loop _];exact j5 l b eD eE n n2 dd dd2 sl sl2 e lt _ 0 (λj hj=>dM hj (f6 _)) rfl prog w A R _ ⟨hl,hb,he,ht,h⟩)⟩
theorem Hz(l b eD eE n n2 dd dd2 sl sl2 e lt):
  Meets (Builtin.«tuple.__lt__» ⟨[.ref l,.ref b],[]⟩)
   (λA R s=>s.heap.get? l=aA {cls:=.type "tuple",dict:=dd,data:=.seq eD n,slots:=sl}/\s.heap.get? b=aA {cls:=.type "tuple",dict:=dd2,data:=.seq eE n2,slots:=sl2}/\
    (∀j h1 (h2:j<eE.size),(∀i,i<j->e i=aC)->EqAt A.in1 s eD[j] eE[j] (e j))/\(∀j h1 (h2:j<eE.size),(∀i,i<j->e i=aC)->e j=aD->Bd A.in1 s eD[j] eE[j] (lt j))/\
    R (.ok (.ret (.bool (U0 (decide (eD.size<eE.size)) e lt (min eD.size eE.size) 0)))) s):=
 .of_wp λprog w A R s h=>by
  obtain⟨hp,g,d,tk,os⟩:=s;obtain⟨hl,hb,he,ht,h⟩:=h;have f2:=AutoSeq1.sub_tuple_tuple;have hZ:(eD.toList.zip eE.toList).length=min eD.size eE.size:=by simp
  wp_walk using fg hl,fg hb,wpAny_forIn_list _ (λrest b s'=>b.1=aB/\s'=⟨hp,g,d,tk,os⟩/\∃i,rest=(eD.toList.zip eE.toList).drop i/\(∀j,j<i->e j=aC)/\
   R (.ok (.ret (.bool (U0 (decide (eD.size<eE.size)) e lt (min eD.size eE.size- i) i)))) ⟨hp,g,d,tk,os⟩) _
  case turn=>
   rintro⟨y,x⟩ rest b s' ⟨ZZ,rfl,i,hz,ZY,hR⟩;have ZM:i<(eD.toList.zip eE.toList).length:=by
    rcases dv i (eD.toList.zip eE.toList).length with h'|h'
    .exact h'
    .rw[List.drop_of_length_le h']at hz;cases hz
   have hm:i<min eD.size eE.size:=hZ▸ZM;have h1:i<eD.size:=df hm (Nat.min_le_left _ _);have h2:i<eE.size:=df hm (Nat.min_le_right _ _);rw[List.drop_eq_getElem_cons ZM]at hz;injection hz with hyx hrest;have hy:y=eD[i]:=by have:=congrArg Prod.fst hyx;simpa using this
   have hx:x=eE[i]:=by have:=congrArg Prod.snd hyx;simpa using this
   subst hy hx;have hk:min eD.size eE.size- i=(min eD.size eE.size- (i+1))+1:=by omega
   rw[hk]at hR;unfold U0 at hR;refine aa (he i h1 h2 ZY prog w _ _ ?_);cases hy:e i with
   |true=>
    rw[dG hy]at hR;wp_walk;exact⟨rfl,rfl,i+1,hrest,λj hj=>by
     rcases dv j i with z|z
     .exact ZY j z
     .have:j=i:=by omega
      rw[this];exact hy,hR⟩
   |false=>rw[dF (by rw[hy];simp)]at hR;simp only[Bool.not_false,if_true];refine aa (wpAny_rule (aa (ht i h1 h2 ZY hy prog w _ _ ?_)));wp_walk;exact⟨_,rfl,hR⟩
  case fin=>
   rintro⟨b1,b2⟩ s' ⟨ZZ,rfl,i,hz,ZY,hR⟩;simp only at ZZ;subst ZZ;have UJ:min eD.size eE.size<=i:=by
    rcases dv i (eD.toList.zip eE.toList).length with h'|h'
    .rw[List.drop_eq_getElem_cons h']at hz;cases hz
    .exact hZ▸h'
   have hk:min eD.size eE.size- i=0:=by omega
   rw[hk]at hR;wp_walk;exact⟨_,rfl,hR⟩
  case h=>
   exact⟨rfl,rfl,0,rfl,λj hj=>dM hj (f6 _),by simpa using h⟩
theorem Bd.lists(hl:s.heap.IsList l eD)(hb:s.heap.IsList b eE)(hu:A.units<f9)(he:∀j h1 (h2:j<eE.size),(∀i,i<j->e i=aC)->EqAt A.in1 s eD[j] eE[j] (e j))(ht:∀j h1 (h2:j<eE.size),(∀i,i<j->e i=aC)->e j=aD->Bd A.in1 s eD[j] eE[j] (lt j)):
  Bd A s (.ref l) (.ref b) (U0 (decide (eD.size<eE.size)) e lt (min eD.size eE.size) 0):=λprog w E Q h=>by
 obtain⟨⟨cls,dd,data,sl⟩,ho,hc,n,hd⟩:=id hl;obtain⟨⟨cls2,dd2,data2,sl2⟩,XN,XA,n2,hd2⟩:=id hb;simp only at hc hd XA hd2;subst hc hd XA hd2;exact richCompare_meets_room (op:=.Lt) ⟨_,ho,rfl⟩ ⟨_,XN,rfl⟩ F.slot_list_lt F.entry_list_lt (F.args_list_lt_2 _ _) (Lo l b eD eE n n2 dd dd2 sl sl2 e lt)
  ⟨ho,XN,he,ht,show Value.bool (U0 (decide (eD.size<eE.size)) e lt (min eD.size eE.size) 0)≠Value.notImplemented/\Q (.bool (U0 (decide (eD.size<eE.size)) e lt (min eD.size eE.size) 0)) s from⟨(λx=>nomatch x),h⟩⟩ hu
theorem Bd.tuples(hl:s.heap.IsTuple l eD)(hb:s.heap.IsTuple b eE)(hu:A.units<f9)(he:∀j h1 (h2:j<eE.size),(∀i,i<j->e i=aC)->EqAt A.in1 s eD[j] eE[j] (e j))(ht:∀j h1 (h2:j<eE.size),(∀i,i<j->e i=aC)->e j=aD->Bd A.in1 s eD[j] eE[j] (lt j)):
  Bd A s (.ref l) (.ref b) (U0 (decide (eD.size<eE.size)) e lt (min eD.size eE.size) 0):=λprog w E Q h=>by
 obtain⟨⟨cls,dd,data,sl⟩,ho,hc,n,hd⟩:=id hl;obtain⟨⟨cls2,dd2,data2,sl2⟩,XN,XA,n2,hd2⟩:=id hb;simp only at hc hd XA hd2;subst hc hd XA hd2;exact richCompare_meets_room (op:=.Lt) ⟨_,ho,rfl⟩ ⟨_,XN,rfl⟩ F.slot_tuple_lt F.entry_tuple_lt (F.args_tuple_lt_2 _ _) (Hz l b eD eE n n2 dd dd2 sl sl2 e lt)
  ⟨ho,XN,he,ht,show Value.bool (U0 (decide (eD.size<eE.size)) e lt (min eD.size eE.size) 0)≠Value.notImplemented/\Q (.bool (U0 (decide (eD.size<eE.size)) e lt (min eD.size eE.size) 0)) s from⟨(λx=>nomatch x),h⟩⟩ hu
def Rg(A:dg)(s:am)(y x:ag)(b:Bool):Prop:=
 ∀(prog:cg) (w:dn) (E:ag->am->Prop) (Q:Bool->am->Prop),Q b s->bh (b9 prog w) A (PyProof.Rows.oneLt' aC y x) Q E s
theorem Rg.lists(hl:s.heap.IsList l eD)(hb:s.heap.IsList b eE)(hu:A.units<f9)(he:∀j h1 (h2:j<eE.size),(∀i,i<j->e i=aC)->EqAt A.in1 s eD[j] eE[j] (e j))(ht:∀j h1 (h2:j<eE.size),(∀i,i<j->e i=aC)->e j=aD->Bd A.in1 s eD[j] eE[j] (lt j)):
  Rg A s (.ref l) (.ref b) (U0 (decide (eD.size<eE.size)) e lt (min eD.size eE.size) 0):=λprog w E Q h=>by
 obtain⟨⟨cls,dd,data,sl⟩,ho,hc,n,hd⟩:=id hl;obtain⟨⟨cls2,dd2,data2,sl2⟩,XN,XA,n2,hd2⟩:=id hb;simp only at hc hd XA hd2;subst hc hd XA hd2;rw[PyProof.Rows.oneLt'_eq];simp only[if_true];refine aa (wpAny_cRoomFor hu ?_);refine aa (wpAny_callSpecialIfBound?_slot ⟨_,ho,rfl⟩ F.slot_list_lt (call_meets F.slot_list_lt ⟨_,ho,rfl⟩ F.entry_list_lt (F.args_list_lt_2 _ _) (Lo l b eD eE n n2 dd dd2 sl sl2 e lt) ⟨ho,XN,he,ht,?_⟩));exact wpAny_truthy_bool h
theorem Rg.int(a t b u):Rg A s (.int a t) (.int b u) (decide (a<b)):=λprog w E Q h=>PyProof.Rows.oneLt_int h
theorem Rg.str(a t b u):Rg A s (.str a t) (.str b u) (decide (a.cps.toList<b.cps.toList)):=λprog w E Q h=>PyProof.Rows.oneLt_str h
theorem Bd.int(a t b u):Bd A s (.int a t) (.int b u) (decide (a<b)):=λprog w E Q h=>wpAny_lt_int h
theorem Bd.str(a t b u):Bd A s (.str a t) (.str b u) (decide (a.cps.toList<b.cps.toList)):=λprog w E Q h=>PySem.P.lt_str h
end
section
open PySem.W (kla_fn kla_obj kla_callFunE kla_codeExpr envX)
structure LamS(x:Str)(fs:List Str)(sc:Scope):Prop where
 kind:sc.kind= .function
 co:sc.isCoroutine=aD
 gen:sc.isGenerator=aD
 par:sc.names.lookup x=aA .local
 nocell:∀y∈sc.names,y.2≠.cell
 nd:x∉fs
noncomputable abbrev L_(qual:Str)(sc:Scope)(L f:au)(c:au)(cl:List (Str×au)):Env:=envX qual sc L f (.ref c) cl
def cxL(X:Cx)(N:List Str)(qual:Str)(sc:Scope)(f c:au)(cl:List (Str×au))(A:dg)(s:am)(H:Hp):Cx where
 prog:=X.prog
 w:=X.w
 K:=X.K
 mg:=X.mg
 base:=X.base
 A:=A.deeper (L_ qual sc s.heap.objs.size f c cl)
 N:=N
 s₀:=s
 H₀:=H
 env:=L_ qual sc s.heap.objs.size f c cl
 outer:=X.stack
 stack:=L_ qual sc s.heap.objs.size f c cl::X.stack
 ex:=[]
 calm:=aC
 fn:=λ_=>aD
 pn:=[]
 xe:=λ_ _=>False
section
variable{σ:L2.St}
theorem ma
  (S:LamS x fs sc)(hd:A.handled=aB)(hA:A.frames=aA X.stack)(I:eG X eB σ H s)(YG:∀y c,cl.lookup y=aA c->X.env.cells.lookup y=aA c)(has:∀y,sc.names.lookup y=aA .free->∃c,cl.lookup y=aA c)(IQ:ws.length=fs.length)(OR:∀(i:Nat) y w,fs[i]? =aA y->ws[i]? =aA (aA w)->∃j:Nat,X.N[j]? =aA y/\σ[j]? =aA (aA w)/\X.env.scope.names.lookup y=aA .cell/\sc.names.lookup y=aA .free)(r:Zy v u)(WN:h1.Ns s.heap.objs.size (λy=>[(x,u)].reverse.lookup y))(hsb:gm s.heap.objs.size (s.heap.push {cls:=.type "frame",data:=.dict #[]}) h1):
  eG (cxL X (x::fs) qual sc f c cl A s H) [] (aA v::ws) H {s with heap:=h1,toks:=tk}:=by
 have hk:∀b o,s.heap.get? b=aA o->h1.get? b=aA o:=λb o e=>(hsb.2 b (cj (bj e))).trans (aq _ e);have UP:∀b:au,b∉(cxL X (x::fs) qual sc f c cl A s H).ex:=λb z=>dM (show b∈([]:List au)from z) (by simp);have e0:=I.env0;refine⟨⟨e0.mod,S.kind,rfl,rfl,bf _,λy z c h1 h2=>I.ok.inj y z c (YG y c h1) (YG z c h2),λy hy=>?_,(λy c h=>nomatch h),λ_=>hd,Around.frames_deeper hA,.inr ⟨rfl,rfl⟩,λb z=>dM z (UP b),e0.bs,e0.bsz,λb _ _=>UP b,λb z=>dM z (UP b),e0.funs,e0.frf⟩,
  rfl,e0.bare,Un.kept hk,⟨_,WN,λi y w h1 h2 h3=>?_⟩,λy c h=>?_,e0.hok.fresh (bf _),λy c h=>I.freeC y c (YG y c h),λp hp=>dM (show p∈([]:List (au×Obj))from hp) (by simp),e0.hok.kept hk,by show(aA v::ws).length=(x::fs).length;rw[bc,bc,IQ]⟩
 .have hy:sc.names.lookup y=aA .cell\/sc.names.lookup y=aA .free:=hy;rcases hy with hy|hy
  .exact dM rfl (S.nocell _ (PySem.mem_of_lookup hy))
  .exact has y hy
 .cases i with
  |zero=>
   obtain rfl:x=y:=by simpa[cxL]using h1
   obtain rfl:v=w:=by simpa using h2
   exact⟨u,r,.inl ⟨S.par,by simp⟩⟩
  |succ i=>
   have h1:fs[i]? =aA y:=by simpa[cxL]using h1
   have h2:ws[i]? =aA (aA w):=by simpa using h2
   obtain⟨j,a1,a2,a3,a4⟩:=OR i y w h1 h2;obtain⟨m,_,hl⟩:=I.loc;obtain⟨u',r',lk⟩:=hl j y w a1 a2 (.inr (.inl a3));obtain⟨cc,ec⟩:=has y a4;refine⟨u',r',.inr ⟨.inr a4,cc,ec,?_⟩⟩;rcases lk with⟨k,_⟩|⟨_,c',e1,z⟩
   .have k:X.env.scope.names.lookup y=aA .local:=k;rw[a3]at k;cases k
   .rw[YG y cc ec]at e1;cases e1;obtain⟨o,z1,z2⟩:=z;exact⟨o,hk _ _ z1,z2⟩
 .refine W1 (I.cell y c (YG y c h)) λw o z1 z2=>?_;exact⟨w,o,hk _ _ z1,z2⟩
theorem ku
  (S:LamS x fs sc)(hr:eT 1 A)(hA:A.frames=aA X.stack)(I:eG X eB σ H s)(ho:s.heap.get? f=aA (kla_obj name qual params body sc cl pm c WE))(ZS:s.heap.CodeRec (.ref c) qual)(YQ:bindArgs (kla_fn name qual params body sc cl pm (.ref c) WE) ⟨[u],[]⟩=pure [(x,u)])(YG:∀y c,cl.lookup y=aA c->X.env.cells.lookup y=aA c)(has:∀y,sc.names.lookup y=aA .free->∃c,cl.lookup y=aA c)(IQ:ws.length=fs.length)(OR:∀(i:Nat) y w,fs[i]? =aA y->ws[i]? =aA (aA w)->∃j:Nat,X.N[j]? =aA y/\σ[j]? =aA (aA w)/\X.env.scope.names.lookup y=aA .cell/\sc.names.lookup y=aA .free)(r:Zy v u)(hb:PE (cxL X (x::fs) qual sc f c cl A s H) body t)(ht:t (aA v::ws) H Q):
  bh (b9 X.prog X.w) A (call (.ref f) [u]) (λu' s'=>CE X.stack X.prog X.w H s Q u' s') (λ_ _=>False) s:=by
 refine wpAny_call ?_;refine kla_callFunE hr.depth ho rfl S.co S.gen rfl ZS ?_;rw[YQ];refine ad (wpAny_newFunctionEnv (λy hy=>S.nocell y hy) (λy hy=>?_) (λh1 WN hsb=>⟨?_,?_⟩) S.kind)
 .have hy:y=(x,u):=by simpa using hy
  subst hy;exact S.par
 .exact(I.nolimit).fresh _ hsb
 .show codeAny _ _ (.expr body (L_ qual sc s.heap.objs.size f c cl)) _ _;refine kla_codeExpr ?_;have J:=ma (tk:=s.toks+[(x,u)].length) (f:=f) (c:=c) (qual:=qual) S hr.hd hA I YG has IQ OR r WN hsb;refine g9 (hb [] _ _ H Q J ht) (λu' s' hs=>?_) λe s' hs=>hs.elim;refine Y9 hs λv' H' J' rv q=>?_;exact⟨v',H',J'.os,J'.bare,J'.base,J'.hok,rv,q⟩
end
end
section
open PySem.W (kla_fn kla_obj kla_eval kla_makeFunction kla_makeFunctionHit CodeHd tabObj)
theorem Da(l)(h:TriplesOk l)(e:codeAmong p (l++[rawInt a,rawInt b,c])=aA cv):codeAmong p l=aA cv\/cv=c:=by
 fun_induction TriplesOk l with
 |case1=>
  right;simp only[d4,codeAmong,rawInt]at e;split at e
  .exact(dq.inj e).symm
  .cases e
 |case2 a t b u x rest ih=>
  simp only[List.cons_append,codeAmong]at e⊢;split at e
  .rename_i z;rw[dG z];exact .inl e
  .rename_i z;rw[dF z];exact ih h e
 |case3=>exact h.elim
def Bw(mg:Str->Option ag)(h:f8):Prop:=∃bm ob,mg "__builtins__"=aA (.ref bm)/\bm≠builtinsNs/\h.get? bm=aA ob/\ob.cls= .type "module"/\ob.dict=aA builtinsNs/\ob.data= .plain
def BY(o:Obj)(q:Str):Prop:=∃vs t,o.data= .fields vs/\vs[1]? =aA (.str q t)
theorem qx(ok:G9 P w H h)(e:H c=aA (.frz o (.own p)))(x:BY o q):h.CodeRec (.ref c) q:=
 let⟨vs,t,a,b⟩:=x;⟨c,o,vs,t,rfl,(ok c _ e).1,a,b⟩
theorem kt{σ:L2.St}(I:eG X eB σ H s)(YV:X.env.code= .ref c)(C:CodeHd X.base c P)(hT:H P=aA (.tab q))(hq:X.env.qual++ "<lambda>"=q)(B:Bw X.mg X.base)(YG:closureFor sc X.env=pure clos)(UA:defaultsOf params X.env=([],[]))(h:∀f c' pm WE oc H' s',Zk H H'->Jf X eB H' f->eG X eB σ H' s'->s'.heap.get? f=aA (kla_obj "<lambda>" q params body sc clos pm c' WE)->H' c'=aA (.frz oc (.own P))->BY oc q->Q (.ref f) s'):
  bh M A (ip (.Lambda params body sc pos) X.env) Q E s:=by
 refine kla_eval UA ?_;rw[hq];refine Zp (I.hok P _ hT) λps e t cs=>?_;have GC:s.heap.Ns mainGlobals X.mg:=I.ok.mod.glob.keeps I.bk;have uB:mainGlobals≠P:=λz=>by obtain⟨o,es,ep,eo,hd,_⟩:=GC;rw[z,e]at eo;cases eo;cases hd
 obtain⟨bm,ob,b1,b2,b3,b4,b5,b6⟩:=B;have LM:bm≠P:=λz=>by have eo:=I.bk _ _ b3;rw[z,e]at eo;cases eo;cases b4
 have uJ:bm≠mainGlobals:=λz=>by obtain⟨o,es,ep,eo,hd,_⟩:=I.ok.mod.glob;rw[z,eo]at b3;cases b3;rw[hd]at b6;cases b6
 have hB:s.heap.BuiltinsAt X.mg P:=⟨bm,ob,b1,b2,uJ,LM,I.bk _ _ b3,b4,b5,b6⟩
 have C':CodeHd s.heap c P:=C.keeps I.bk;cases hf:codeAmong pos ps.toList with
 |some cv=>obtain⟨c',oc,WZ,tc,rfl,ho,HC,vn⟩:=cs pos cv hf;refine kla_makeFunctionHit (mg:=X.mg) YG I.ok.glob GC YV C' e t hf hB λWE h' tk hk hsz=>?_;exact h _ c' _ WE oc H _ (Zk.refl H) (I.fpOk hsz (I.hok.fresh hsz)) (I.kept λb u z=>aq _ (hk b u z)) (bi _ rfl) ho ⟨WZ,tc,HC,vn⟩
 |none=>
  refine kla_makeFunction (mg:=X.mg) YG I.ok.glob GC YV C' e t hf uB hB λc' WE h' tk hx UJ ZM IX vf=>?_;have hn:H c'=aB:=I.hok.fresh UJ;have gM:P≠c':=cj (df (bj e) UJ);obtain⟨c2,oc,DJ,tc,e1,e2,e3,e4⟩:=IX;cases e1;have sm:Zk H (Y7 H c' (.frz oc (.own P))):=λb o z=>by rw[Zv (Wa z hn)];exact z
  have DV:∀b,H b=aB->b≠P:=λb z y=>by rw[y,hT]at z;cases z
  have kp:∀b o,b≠P->s.heap.get? b=aA o->(h'.push (kla_obj "<lambda>" q params body sc clos ((X.mg "__name__").getD .none) c' WE)).get? b=aA o:=λb o nb z=>aq _ (hx b o nb z);have T_:(h'.push (kla_obj "<lambda>" q params body sc clos ((X.mg "__name__").getD .none) c' WE)).get? P=aA (tabObj (ps++ #[rawInt pos.line,rawInt pos.col,.ref c'])):=aq _ vf;have VS:(h'.push (kla_obj "<lambda>" q params body sc clos ((X.mg "__name__").getD .none) c' WE)).get? c'=aA oc:=aq _ e2;refine h _ c' _ WE oc (Y7 H c' (.frz oc (.own P))) _ sm ?_ (I.un (t':=tk) ⟨λb o z n _ _=>kp b o (DV b n) z,λb o z n _ _=>⟨o.slots,kp b o (DV b n) z⟩,λb o z n _=>?_,λb o z _=>?_,λb xs z=>sm _ _ z,λb o u z=>sm _ _ z,λb qs z=>⟨#[],by rw[sm _ _ z];simp⟩⟩ λb u z=>?_) (bi _ rfl) Yk ⟨DJ,tc,e3,e4⟩
  .refine I.fpOk (Nat.le_of_lt (ib UJ ZM)) ?_;rw[Zv (Nat.ne_of_gt ZM)];exact I.hok.fresh (Nat.le_of_lt (ib UJ ZM))
  .rw[Zv (cj (df (bj z) UJ))];exact n
  .by_cases hb:b=P
   .subst hb;exact⟨_,T_⟩
   .exact⟨o,kp b o hb z⟩
  .by_cases hbc:b=c'
   .subst hbc;rw[Yk]at z;cases z;exact⟨VS,oc,VS⟩
   .rw[Zv hbc]at z;by_cases LM:b=P
    .subst LM;rw[hT]at z;cases z;refine⟨_,T_,?_,λp2 cv z=>?_⟩
     .have:=TriplesOk_snoc pos.line pos.col (.ref c') _ t;simpa using this
     .have z:codeAmong p2 (ps.toList++[rawInt pos.line,rawInt pos.col,.ref c'])=aA cv:=by simpa using z
      rcases Da _ t z with y|y
      .refine Ox (cs p2 cv y) λc1 o1 PV t1 a1 a2 a3=>?_;exact⟨c1,o1,PV,t1,a1,sm _ _ a2,a3⟩
      .exact⟨c',oc,DJ,tc,y,Yk,e3,e4⟩
    .refine(I.hok b u z).stay (λd w hd y=>kp d w ?_ y) (λd y=>sm _ _ y) (λd xs y=>sm _ _ y) λd o y=>sm _ _ y;rcases hd with hd|hd
     .rw[hd];exact LM
     .intro y;rw[y,hT]at hd;cases hd
end
section
open PySem.SeqAt (EqAt)
variable{K:af}
@[simp]noncomputable def Mk(eq lt:D->D->Option Bool):List D->List D->Option Bool
 | [],ys=>aA (!ys.isEmpty)
 |_::_,[]=>aA aD
 |x::xs,y::ys=>(eq x y).bind λb=>if b=aC then Mk eq lt xs ys else lt x y
@[simp]def Db(eq lt:D->D->Option Bool):D->D->Option Bool
 | .int i,.int j=>aA (decide (i<j))
 | .str a,.str b=>aA (decide (a.cps.toList<b.cps.toList))
 | .lst xs,.lst ys=>Mk eq lt xs ys
 | .tup xs,.tup ys=>Mk eq lt xs ys
 |_,_=>aB
@[simp]def Ji:Nat->D->D->Option Bool
 |0=>λ_ _=>aB
 |n+1=>Db (W2 n) (Ji n)
noncomputable def isT:Option Bool->Bool
 |some aC=>aC
 |_=>aD
abbrev eJ(f:D->D->Option Bool)(xs ys:List D)(j:Nat):Bool:=isT (f (xs.getD j .non) (ys.getD j .non))
theorem Ij:∀k i,U0 fin e l k (i+1)=U0 fin (λj=>e (j+1)) (λj=>l (j+1)) k i
 |0,_=>rfl
 |k+1,i=>by
  show(if e (i+1)=aC then U0 fin e l k (i+1+1)else l (i+1))=(if e (i+1)=aC then _ else _)
  rw[Ij k (i+1)]
theorem Lp:∀{xs ys:List D} {b:Bool},Mk eq lt xs ys=aA b->
  U0 (decide (xs.length<ys.length)) (eJ eq xs ys) (eJ lt xs ys) (min xs.length ys.length) 0=b/\
  ∀j,j<xs.length->j<ys.length->(∀i,i<j->eJ eq xs ys i=aC)->eq (xs.getD j .non) (ys.getD j .non)=aA (eJ eq xs ys j)/\(eJ eq xs ys j=aD->lt (xs.getD j .non) (ys.getD j .non)=aA (eJ lt xs ys j))
 | [],ys,b,h=>by
  refine⟨?_,λj hj=>dM hj (f6 _)⟩;obtain rfl:(!ys.isEmpty)=b:=by simpa using h
  cases ys<;> simp[U0]
 |x::xs,[],b,h=>by
  refine⟨?_,λj _ hj=>dM hj (f6 _)⟩;obtain rfl:aD=b:=by simpa using h
  simp[U0]
 |x::xs,y::ys,b,h=>by
  have h:(eq x y).bind (λb=>if b=aC then Mk eq lt xs ys else lt x y)=aA b:=h;refine eK h λc hc h2=>?_;have e0:eJ eq (x::xs) (y::ys) 0=c:=by show isT (eq x y)=c;rw[hc];cases c<;> rfl
  have hm:min (x::xs).length (y::ys).length=min xs.length ys.length+1:=by simp only[bc];omega
  have US:decide ((x::xs).length<(y::ys).length)=decide (xs.length<ys.length):=by simp
  rw[hm,US];cases c with
  |false=>
   have h2:lt x y=aA b:=by simpa using h2
   refine⟨?_,λj CU CQ hp=>?_⟩
   .show(if eJ eq (x::xs) (y::ys) 0=aC then _ else eJ lt (x::xs) (y::ys) 0)=b;rw[e0,dF (by simp)];show isT (lt x y)=b;rw[h2];cases b<;> rfl
   .cases j with
    |zero=>refine⟨by rw[e0];exact hc,λ_=>?_⟩;show lt x y=aA (isT (lt x y));rw[h2];cases b<;> rfl
    |succ j=>have:=hp 0 (Nat.succ_pos _);rw[e0]at this;cases this
  |true=>
   have h2:Mk eq lt xs ys=aA b:=by simpa using h2
   obtain⟨i1,i2⟩:=Lp h2;refine⟨?_,λj CU CQ hp=>?_⟩
   .show(if eJ eq (x::xs) (y::ys) 0=aC then U0 _ _ _ _ (0+1)else eJ lt (x::xs) (y::ys) 0)=b;rw[e0,dG rfl,Ij];exact i1
   .cases j with
    |zero=>refine⟨by rw[e0];exact hc,λz=>?_⟩;rw[e0]at z;cases z
    |succ j=>exact i2 j (by simpa using CU) (by simpa using CQ) λi hi=>hp (i+1) (by omega)
theorem eF.getD:∀{ds:List D} {vs:List V} {eC:List ag},eF K F ds vs->Z5 vs eC->∀j hj,∃v,eP K F (ds.getD j .non) v/\Zy v eC[j]/\j<ds.length
 |_,_,_,.nil,.nil,j,hj=>dM hj (f6 _)
 |_,_,_,.cons h t,.cons q qs,0,_=>⟨_,h,q,Nat.succ_pos _⟩
 |_,_,_,.cons h t,.cons q qs,j+1,hj=>by refine Zp (eF.getD t qs j (Nat.lt_of_succ_lt_succ hj)) λv a b c=>?_;exact⟨v,a,b,Nat.succ_lt_succ c⟩
theorem eF.lenV:∀{ds:List D} {vs:List V} {eC:List ag},eF K F ds vs->Z5 vs eC->ds.length=eC.length
 |_,_,_,.nil,.nil=>rfl
 |_,_,_,.cons h t,.cons q qs=>congrArg (· +1) (eF.lenV t qs)
section
variable{X:Cx}{eB:List (au×Obj)}{σ:L2.St}{F H:Hp}{s:am}
theorem Qz(I:eG X eB σ H s)(le:Zk F H)(h:Bm X.K F a vs):∃eC,Z5 vs eC/\s.heap.IsList a eC.toArray:=by obtain⟨eC,rv,⟨o,n,ho,YG,_,hd⟩,_⟩:=I.list (Wn le h);exact⟨eC,rv,o,ho,YG,n,hd⟩
theorem Ju(I:eG X eB σ H s)(le:Zk F H)(h:F a=aA (.tup vs)):∃eC,Z5 vs eC/\s.heap.IsTuple a eC.toArray:=by obtain⟨_,eC,rv,p⟩:=I.hok a _ (le _ _ h);obtain⟨o,ho,hc,n,hd⟩:=p;exact⟨eC,rv,o,ho,hc,n,hd⟩
theorem Ik(I:eG X eB σ H s)(le:Zk F H)(hu:A.units+n<f9)(ih:∀d1 d2 b x y v u,eP X.K F d1 x->Zy x v->eP X.K F d2 y->Zy y u->Ji n d1 d2=aA b->Bd A s v u b)(r1:eF X.K F ds vs)(WI:Z5 vs eC)(r2:eF X.K F es ws)(OC:Z5 ws YU)(h:Mk (W2 n) (Ji n) ds es=aA b):
  U0 (decide (eC.toArray.size<YU.toArray.size)) (eJ (W2 n) ds es) (eJ (Ji n) ds es) (min eC.toArray.size YU.toArray.size) 0=b/\
  (∀j h1 (h2:j<YU.toArray.size),(∀i,i<j->eJ (W2 n) ds es i=aC)->EqAt A s eC.toArray[j] YU.toArray[j] (eJ (W2 n) ds es j))/\
  (∀j h1 (h2:j<YU.toArray.size),(∀i,i<j->eJ (W2 n) ds es i=aC)->eJ (W2 n) ds es j=aD->Bd A s eC.toArray[j] YU.toArray[j] (eJ (Ji n) ds es j)):=by
 obtain⟨a,c⟩:=Lp h;rw[eF.lenV r1 WI,eF.lenV r2 OC]at a;refine⟨by simpa using a,λj h1 h2 hp=>?_,λj h1 h2 hp hf=>?_⟩
 .have QX:j<eC.length:=by simpa using h1
  have VC:j<YU.length:=by simpa using h2
  refine Zp (eF.getD r1 WI j QX) λv p1 p2 p3=>?_;refine Zp (eF.getD r2 OC j VC) λw q1 q2 q3=>?_;exact M8 I le n A _ _ _ _ _ _ _ hu p1 (by simpa using p2) q1 (by simpa using q2) (c j p3 q3 hp).1
 .have QX:j<eC.length:=by simpa using h1
  have VC:j<YU.length:=by simpa using h2
  refine Zp (eF.getD r1 WI j QX) λv p1 p2 p3=>?_;refine Zp (eF.getD r2 OC j VC) λw q1 q2 q3=>?_;exact ih _ _ _ _ _ _ _ p1 (by simpa using p2) q1 (by simpa using q2) ((c j p3 q3 hp).2 hf)
theorem Pj(I:eG X eB σ H s)(le:Zk F H):∀n A d1 d2 b x y v u,A.units+n<f9->eP X.K F d1 x->Zy x v->eP X.K F d2 y->Zy y u->Ji n d1 d2=aA b->Bd A s v u b
 |0,_,_,_,_,_,_,_,_,_,_,_,_,_,e=>by cases e
 |n+1,A,d1,d2,b,x,y,v,u,hu,r1,v1,r2,v2,e=>by
  have e:Db (W2 n) (Ji n) d1 d2=aA b:=e;have hi:A.in1.units+n<cLine:=by have:A.in1.units=A.units+1:=rfl;omega
  have ih:=λ(d1 d2:D) (b:Bool) (x y:V) (v u:ag)=>Pj I le n A.in1 d1 d2 b x y v u hi;cases r1 with
  |int i=>cases r2 with
   |int j=>
    obtain⟨t1,rfl⟩:=v1;obtain⟨t2,rfl⟩:=v2;obtain rfl:decide (i<j)=b:=by simpa using e
    exact Bd.int i t1 j t2
   |_=>cases e
  |str i=>cases r2 with
   |str j=>
    obtain⟨t1,rfl⟩:=v1;obtain⟨t2,rfl⟩:=v2;obtain rfl:decide (i.cps.toList<j.cps.toList)=b:=by simpa using e
    exact Bd.str i t1 j t2
   |_=>cases e
  |lst h _ r=>cases r2 with
   |lst h' _ r'=>cases v1;cases v2;obtain⟨eC,rv,hl⟩:=Qz I le h;obtain⟨YU,OD,WO⟩:=Qz I le h';obtain⟨a,c,d⟩:=Ik I le hi ih r rv r' OD e;rw[<-a];exact Bd.lists hl WO (by omega) c d
   |_=>cases e
  |tup h r=>cases r2 with
   |tup h' r'=>cases v1;cases v2;obtain⟨eC,rv,hl⟩:=Ju I le h;obtain⟨YU,OD,WO⟩:=Ju I le h';obtain⟨a,c,d⟩:=Ik I le hi ih r rv r' OD e;rw[<-a];exact Bd.tuples hl WO (by omega) c d
   |_=>cases e
  |_=>cases e
theorem qw(I:eG X eB σ H s)(le:Zk F H)(hu:A.units+(n+1)<f9)(r1:eP X.K F d1 x)(v1:Zy x v)(r2:eP X.K F d2 y)(v2:Zy y u)(e:Ji (n+1) d1 d2=aA b)(hn:∀xs,d1≠.tup xs):Rg A s v u b:=by
 have e:Db (W2 n) (Ji n) d1 d2=aA b:=e;have hi:A.in1.units+n<cLine:=by have:A.in1.units=A.units+1:=rfl;omega
 have ih:=λ(d1 d2:D) (b:Bool) (x y:V) (v u:ag)=>Pj I le n A.in1 d1 d2 b x y v u hi;cases r1 with
 |int i=>cases r2 with
  |int j=>
   obtain⟨t1,rfl⟩:=v1;obtain⟨t2,rfl⟩:=v2;obtain rfl:decide (i<j)=b:=by simpa using e
   exact Rg.int i t1 j t2
  |_=>cases e
 |str i=>cases r2 with
  |str j=>
   obtain⟨t1,rfl⟩:=v1;obtain⟨t2,rfl⟩:=v2;obtain rfl:decide (i.cps.toList<j.cps.toList)=b:=by simpa using e
   exact Rg.str i t1 j t2
  |_=>cases e
 |lst h _ r=>cases r2 with
  |lst h' _ r'=>cases v1;cases v2;obtain⟨eC,rv,hl⟩:=Qz I le h;obtain⟨YU,OD,WO⟩:=Qz I le h';obtain⟨a,c,d⟩:=Ik I le hi ih r rv r' OD e;rw[<-a];exact Rg.lists hl WO (by omega) c d
  |_=>cases e
 |tup h r=>exact dM rfl (hn _)
 |_=>cases e
end
end
section
open PySem.W (kas_sort kas_ask kas_item kat_run kat_snds)
section
variable{σ:L2.St}
theorem Ar{D}{o:Obj}{xs ys:Array ag}{n:Nat}(I:eG X eB σ H s)(fD:Jf X eB H D):eG X eB σ H {s with heap:=s.heap.update D (d6 g),toks:=t'}:=
 I.turned (λb o hb e=>by rw[Heap.get?_update_ne _ _ _ _ hb];exact e) fD.1 fD.2.1 fD.2.2.2.1 fD.2.2.2.2.1 fD.2.2.2.2.2
theorem eG.notStk(I:eG X eB σ H s){D}(fD:Jf X eB H D):D∉frs X.stack:=λz=>by
 rcases b7.mp (I.stkSub D z)with z|z
 .exact fD.2.1 z
 .exact fD.2.2.1 z
theorem FM{D}(fD:Jf X eB H D)(h:H' D=aB):Jf X eB H' D:=⟨h,fD.2⟩
def KS(X:Cx)(eB:List (au×Obj))(σ:L2.St)(H0:Hp)(f:au)(fo:Obj)(D kS:au)(e1:Nat)(KeyOk:Nat->V->Hp->Prop)(i:Nat)(s:am):Prop:=
 ∃H ks kvs e,Zk H0 H/\eG X eB σ H s/\Jf X eB H D/\Jf X eB H kS/\Jf X eB H f/\s.heap.get? D=aA (d5 "list" #[] e1)/\s.heap.get? kS=aA (d5 "list" (List.toArray ks) e)/\s.heap.get? f=aA fo/\
  Z5 kvs ks/\ks.length=i/\∀j kv,kvs[j]? =aA kv->KeyOk j kv H
end
end
section
open PySem.W (kas_sort kas_ask kas_item kat_run kat_snds)
def Cmp(X:Cx)(eB:List (au×Obj))(σ:L2.St)(H0:Hp)(A:dg)(KeyOk:Nat->V->Hp->Prop)(O:KeyOrd)(key:Nat->O.α)(n:Nat):Prop:=
 ∀H2 s2 ks kvs,Zk H0 H2->eG X eB σ H2 s2->Z5 kvs ks->ks.length=n->(∀j kv,kvs[j]? =aA kv->KeyOk j kv H2)->2<=n->
  ∃κ,(∀Q:SortKind->am->Prop,Q κ s2->bh (b9 X.prog X.w) A (keyKind' (List.toArray ks)) Q (λ_ _=>False) s2)/\
   ∀i j (Q:Bool->am->Prop),i<n->j<n->Q (O.blt (key i) (key j)) s2->bh (b9 X.prog X.w) A (keyLt' κ (ks.getD i .none) (ks.getD j .none)) Q (λ_ _=>False) s2
end
section
open PySem.Calls
end
section
open PySem.Calls
open PySem.W (KatLex kat_lt kat_kind KatTups kat_one kat_nil kat_cons kat_yes kat_no)
section
variable{σ:L2.St}
theorem yc(I:eG X eB σ H s)(le:Zk F H)(hu:A.units+(n+1)<f9):∀{ds es:List D} {vs ws:List V} {eC YU:List ag} {b:Bool} i,
  eF X.K F ds vs->Z5 vs eC->eF X.K F es ws->Z5 ws YU->(i=0->∀d,ds.head? =aA d->∀xs,d≠.tup xs)->Mk (W2 (n+1)) (Ji (n+1)) ds es=aA b->(eC.length=YU.length->fin=aD)->(eC.length<YU.length->fin=aC)->(YU.length<eC.length->fin=aD)->Q b s->
  KatLex X.prog X.w A aC fin Q (eC.zip YU) i s
 |_,_,_,_,_,_,b,i,.nil,.nil,.nil,.nil,_,e,f1,_,_,q=>by
  obtain rfl:aD=b:=by simpa using e
  show Q fin s;rw[f1 rfl];exact q
 |_,_,_,_,_,_,b,i,.nil,.nil,.cons _ _,.cons _ _,_,e,_,f2,_,q=>by
  obtain rfl:aC=b:=by simpa using e
  show Q fin s;rw[f2 (by simp)];exact q
 |_,_,_,_,_,_,b,i,.cons _ _,.cons _ _,.nil,.nil,_,e,_,_,f3,q=>by
  obtain rfl:aD=b:=by simpa using e
  show Q fin s;rw[f3 (by simp)];exact q
 |d::ds,d'::es,_,_,_,_,b,i,.cons h t,.cons r rs,.cons h' t',.cons r' S_,hd,e,f1,f2,f3,q=>by
  have e:(W2 (n+1) d d').bind (λb=>if b=aC then Mk (W2 (n+1)) (Ji (n+1)) ds es else Ji (n+1) d d')=aA b:=e;refine eK e λc hc e2=>?_;refine kat_cons (M8 I le (n+1) A _ _ _ _ _ _ _ (by omega) h r h' r' hc X.prog X.w _ _ ?_);cases c with
  |true=>
   have e2:Mk (W2 (n+1)) (Ji (n+1)) ds es=aA b:=by simpa using e2
   exact kat_yes (yc I le hu (i+1) t rs t' S_ (λz=>dM z (Nat.succ_ne_zero i)) e2 (λz=>f1 (by simp[z])) (λz=>f2 (by simpa using z)) (λz=>f3 (by simpa using z)) q)
  |false=>
   have e2:Ji (n+1) d d'=aA b:=by simpa using e2
   refine kat_no ?_;cases i with
   |zero=>exact qw I le hu h r h' r' e2 (hd rfl d rfl) X.prog X.w _ _ q
   |succ i=>
    have:(aC&&(i+1==0))=aD:=by simp
    rw[this];refine kat_one _ _ (Pj I le (n+1) A _ _ _ _ _ _ _ (by omega) h r h' r' e2 X.prog X.w _ _ ?_);exact q
inductive KK where
 |lst|str|int
inductive IsKey:KK->D->Prop where
 |lst (xs:List D) (r:List D):IsKey .lst (.tup (.lst xs::r))
 |str (x:Str) (r:List D):IsKey .str (.tup (.str x::r))
 |int (i:Int) (r:List D):IsKey .int (.tup (.int i::r))
theorem IsKey.shape(h:IsKey b d):∃e r,d= .tup (e::r)/\∀xs,e≠.tup xs:=by
 cases h with
 |lst xs r=>exact⟨_,r,rfl,λ_ z=>by cases z⟩
 |str x r=>exact⟨_,r,rfl,λ_ z=>by cases z⟩
 |int x r=>exact⟨_,r,rfl,λ_ z=>by cases z⟩
noncomputable def kT:KK->String
 | .lst=>"list"
 | .str=>"str"
 | .int=>"int"
theorem qv(I:eG X eB σ H s)(le:Zk F H)(hu:A.units+(n+2)<f9)(k1:IsKey k d1)(k2:IsKey k d2)(r1:eP X.K F d1 x)(v1:Zy x v)(r2:eP X.K F d2 y)(v2:Zy y u)(e:Ji (n+2) d1 d2=aA b)(q:Q b s):bh (b9 X.prog X.w) A (keyLt' (tuples' aC) v u) Q E s:=by
 obtain⟨e1,w8,rfl,vw⟩:=k1.shape;obtain⟨e2,w5,rfl,_⟩:=k2.shape;cases r1 with
 |tup h1 p1=>cases r2 with
  |tup h2 p2=>
   cases v1;cases v2;obtain⟨eC,rv,o,ho,hc,m,hd⟩:=Ju I le h1;obtain⟨YU,XU,o',YR,TY,m',XI⟩:=Ju I le h2;have e:Mk (W2 (n+1)) (Ji (n+1)) (e1::w8) (e2::w5)=aA b:=e;refine kat_lt ho hd YR XI ?_;refine yc I le (by omega) 0 p1 rv p2 XU (λ_ d z xs=>?_) e (λz=>?_) (λz=>?_) (λz=>?_) q
   .obtain rfl:e1=d:=by simpa using z
    exact vw xs
   .simp[z]
   .simpa using z
   .have z:YU.length<eC.length:=by simpa using z
    simp;omega
theorem Lq(I:eG X eB σ H s)(le:Zk F H):∀{ds:List D} {vs:List V} {eC:List ag},(∀d∈ds,IsKey k d)->eF X.K F ds vs->Z5 vs eC->∃fs,KatTups s.heap eC fs/\fs.length=eC.length/\∀v∈fs,PySem.W.Looks (b9 X.prog X.w) s.heap (typeOf v) (.type (kT k))
 |_,_,_,_,.nil,.nil=>⟨[],trivial,rfl,λ_ z=>nomatch z⟩
 |d::ds,_,_,hk,.cons h t,.cons r rs=>by
  obtain⟨fs,a,b,c⟩:=Lq I le (λd z=>hk d (ao _ z)) t rs;cases hk d ac with
  |lst xs rr=>cases h with
   |tup h1 p1=>
    cases r;obtain⟨eC,rv,o,ho,hc,m,hd⟩:=Ju I le h1;cases p1 with
    |cons q1 q2=>cases rv with
     |cons w1 w2=>cases q1 with
      |lst g1 _ g2=>
       cases w1;obtain⟨YU,_,o2,XN,XA,_⟩:=Qz I le g1;refine⟨_::fs,KatTups.cons ho hc hd rfl a,by simp[b],λv z=>?_⟩;rcases b7.mp z with z|z
       .subst z;exact λA Q E s' k q=>wpAny_typeOf (T:="list") ⟨o2,k _ _ XN,XA⟩ q
       .exact c v z
  |str x rr=>cases h with
   |tup h1 p1=>
    cases r;obtain⟨eC,rv,o,ho,hc,m,hd⟩:=Ju I le h1;cases p1 with
    |cons q1 q2=>cases rv with
     |cons w1 w2=>cases q1 with
      |str y=>
       obtain⟨tk,rfl⟩:=w1;refine⟨_::fs,KatTups.cons ho hc hd rfl a,by simp[b],λv z=>?_⟩;rcases b7.mp z with z|z
       .subst z;exact λA Q E s' k q=>wpAny_typeOf (T:="str") (typeIs_str s' x tk) q
       .exact c v z
  |int x rr=>cases h with
   |tup h1 p1=>
    cases r;obtain⟨eC,rv,o,ho,hc,m,hd⟩:=Ju I le h1;cases p1 with
    |cons q1 q2=>cases rv with
     |cons w1 w2=>cases q1 with
      |int y=>
       obtain⟨tk,rfl⟩:=w1;refine⟨_::fs,KatTups.cons ho hc hd rfl a,by simp[b],λv z=>?_⟩;rcases b7.mp z with z|z
       .subst z;exact λA Q E s' k q=>wpAny_typeOf (T:="int") (typeIs_int s' x tk) q
       .exact c v z
theorem kO(I:eG X eB σ H s)(le:Zk F H)(hk:∀d∈ds,IsKey k d)(r:eF X.K F ds vs)(rv:Z5 vs eC)(h2:0<eC.length)(q:Q (tuples' aC) s):
  bh (b9 X.prog X.w) A (keyKind' (List.toArray eC)) Q E s:=by
 refine Zp (Lq I le hk r rv) λfs a b c=>?_;refine kat_kind (T:=.type (kT k)) a (by omega) c (by cases k<;> decide) ?_;cases k<;> exact q
end
end
section
open PySem.Calls
structure eR(ks:List D):Prop where
 key:∃k,∀d∈ks,IsKey k d
 ord:∃eS:D->List Nat,(∀a∈ks,∀b∈ks,Ji 16 a b=aA (decide (eS a<eS b)))/\∀i j:Nat,i<ks.length->j<ks.length->eS (ks.getD i .non)=eS (ks.getD j .non)->i=j
def T1(ks:List D)(p:List Nat):Prop:=p.Perm (c6 ks.length)/\p.Pairwise λi j=>Ji 16 (ks.getD j .non) (ks.getD i .non)=aA aD
theorem Dc(h:eR ks)(hp:T1 ks p)(hq:T1 ks q):p=q:=by
 obtain⟨eS,he,hd⟩:=h.ord;have get:∀i,i<ks.length->ks.getD i .non∈ks:=λi hi=>by rw[bg,ar hi];exact gz hi
 have mp:∀i∈p,i<ks.length:=λi hi=>c8.mp (hp.1.mem_iff.mp hi);have mq:∀i∈q,i<ks.length:=λi hi=>c8.mp (hq.1.mem_iff.mp hi);refine List.Perm.eq_of_pairwise (le:=λi j=>Ji 16 (ks.getD j .non) (ks.getD i .non)=aA aD) (λa b ha hb h1 h2=>?_) hp.2 hq.2 (hp.1.trans hq.1.symm);rw[he _ (get _ (mq b hb)) _ (get _ (mp a ha))]at h1;rw[he _ (get _ (mp a ha)) _ (get _ (mq b hb))]at h2;have h1:¬eS (ks.getD b .non)<eS (ks.getD a .non):=by simpa using h1
 have h2:¬eS (ks.getD a .non)<eS (ks.getD b .non):=by simpa using h2
 exact hd a b (mp a ha) (mq b hb) (List.le_antisymm (dw.mp h1) (dw.mp h2))
theorem Ch(h:eR ks):∃p,T1 ks p:=by
 obtain⟨eS,he,hd⟩:=h.ord;have get:∀i,i<ks.length->ks.getD i .non∈ks:=λi hi=>by rw[bg,ar hi];exact gz hi
 refine⟨(c6 ks.length).mergeSort λi j=>decide (¬eS (ks.getD j .non)<eS (ks.getD i .non)),List.mergeSort_perm _ _,?_⟩;have pw:=List.pairwise_mergeSort (le:=λi j:Nat=>decide (¬eS (ks.getD j .non)<eS (ks.getD i .non)))
  (λa b c h1 h2=>by
   simp only[decide_eq_true_eq]at*;exact dw.mpr (List.le_trans (dw.mp h1) (dw.mp h2)))
  (λa b=>by
   simp only[Bool.or_eq_true,decide_eq_true_eq];rcases List.le_total (eS (ks.getD a .non)) (eS (ks.getD b .non))with z|z
   .exact .inl (dw.mpr z)
   .exact .inr (dw.mpr z)) (c6 ks.length)
 refine(List.Pairwise.imp_of_mem ?_ pw);intro i j hi hj z;have hi:i<ks.length:=c8.mp ((List.mergeSort_perm _ _).mem_iff.mp hi);have hj:j<ks.length:=c8.mp ((List.mergeSort_perm _ _).mem_iff.mp hj);rw[he _ (get j hj) _ (get i hi)];simpa using z
open Classical in
noncomputable def Pk(ks xs:List D):Option SV:=
 if h:ks.length=xs.length/\xs.length<64/\eR ks then aA (.ol ((Classical.choose (Ch h.2.2)).map λi=>xs.getD i .non))else aB
theorem nv(e:Pk ks xs=aA sv):ks.length=xs.length/\xs.length<64/\eR ks/\∃p,T1 ks p/\sv= .ol (p.map λi=>xs.getD i .non):=by
 unfold Pk at e;split at e
 .rename_i h;cases e;exact⟨h.1,h.2.1,h.2.2,_,Classical.choose_spec (Ch h.2.2),rfl⟩
 .cases e
theorem nu(h1:ks.length=xs.length)(h2:xs.length<64)(h3:eR ks):∃p,T1 ks p/\Pk ks xs=aA (.ol (p.map λi=>xs.getD i .non)):=by refine⟨_,Classical.choose_spec (Ch h3),?_⟩;unfold Pk;rw[dif_pos ⟨h1,h2,h3⟩]
@[simp]def PB(fb:FE)(cs:List D)(d:D):Option D:=(fb (some (.fz d)::cs.map λc=>some (.fz c))).bind λp=>(frz p.1 p.2).bind λq=>some q.1
@[simp]def T2(fb:FE)(cs:List D):List D->Option (List D)
 | []=>aA []
 |d::ds=>(PB fb cs d).bind λk=>(T2 fb cs ds).bind λks=>aA (k::ks)
theorem Il:∀{xs ks:List D},T2 fb cs xs=aA ks->ks.length=xs.length/\∀(j:Nat) d,xs[j]? =aA d->∃k,ks[j]? =aA k/\PB fb cs d=aA k
 | [],ks,e=>by
  obtain rfl:[]=ks:=by simpa using e
  exact⟨rfl,λj d z=>by simp at z⟩
 |x::xs,ks,e=>by
  have e:(PB fb cs x).bind (λk=>(T2 fb cs xs).bind λks=>aA (k::ks))=aA ks:=e;refine eK e λk e1 e2=>?_;refine eK e2 λZJ e3 e4=>?_;cases e4;obtain⟨a,b⟩:=Il e3;refine⟨by simp[a],λj d z=>?_⟩;cases j with
  |zero=>
   obtain rfl:x=d:=by simpa using z
   exact⟨k,rfl,e1⟩
  |succ j=>exact b j d (by simpa using z)
section
variable{K:af}
theorem yS{Z:eM K}:∀{js:List Nat} {F:Hp} {δ δ':Yy} {own:Nat->Zu} {ds:List D},SR Z F H σ δ own->frzAll (js.map RV.bw) δ=aA (ds,δ')->
  ∃F1 ZA vs,Zk F F1/\SR Z F1 H σ δ' ZA/\eF K F1 ds vs/\vs.length=js.length/\∀(i j:Nat) v,js[i]? =aA j->vs[i]? =aA v->σ[j]? =aA (aA v)
 | [],F,δ,δ',own,ds,s,e=>by have e:aA (([]:List D),δ)=aA (ds,δ'):=e;cases e;exact⟨F,own,[],Zk.refl F,s,.nil,rfl,λi j v z=>by simp at z⟩
 |j::js,F,δ,δ',own,ds,s,e=>by
  have e:(frz (.bw j) δ).bind (λp=>(frzAll (js.map RV.bw) p.2).bind λq=>aA (p.1::q.1,q.2))=aA (ds,δ'):=e;refine eL e λd δ1 e1 e2=>?_;refine eL e2 λQB δ2 e3 e4=>?_;cases e4;refine eK e1 λsv e5 e6=>?_;cases e6;refine Cu (s.freeze (U6 e5)) λF1 v MQ h1 h2 s1=>?_;obtain⟨F2,own2,vs,W_,s2,r2,l2,g2⟩:=yS s1 e3;refine⟨F2,own2,v::vs,MQ.trans W_,s2,.cons (h2.mono W_) r2,by simp[l2],λi k w z1 z2=>?_⟩;cases i with
  |zero=>
   obtain rfl:j=k:=by simpa using z1
   obtain rfl:v=w:=by simpa using z2
   exact h1
  |succ i=>exact g2 i k w (by simpa using z1) (by simpa using z2)
theorem eF.getI:∀{ds:List D} {vs:List V} {i:Nat} {d:D},eF K F ds vs->ds[i]? =aA d->∃v,vs[i]? =aA v/\eP K F d v:=λr e=>L2.eF.get r e
theorem eF.len2:∀{ds:List D} {vs:List V},eF K F ds vs->ds.length=vs.length
 |_,_,.nil=>rfl
 |_,_,.cons _ t=>congrArg (· +1) (eF.len2 t)
theorem qu(le:Zk F H1)(r:eP K F d v)(rs:eF K F cs vs):
  SR (ent H1 F:eM K) F H1 (aA v::vs.map aA) (aA (.fz d)::cs.map λc=>aA (.fz c)) (λ_=>[]):=by
 refine⟨le,λb o e=>.inl e,Zk.refl H1,by simp[eF.len2 rs],λi sv e=>?_,λ_=>c7,λ_ _ z=>(nomatch z),λ_ _ _ _ _ z=>(nomatch z)⟩;cases i with
 |zero=>
  have e:sv=SV.fz d:=by simpa using e.symm
  subst e;exact⟨v,rfl,.fz r⟩
 |succ i=>
  have e:(cs.map λc=>aA (SV.fz c))[i]? =aA (aA sv):=by simpa using e
  rw[az]at e;cases hc:cs[i]? with
  |none=>rw[hc]at e;cases e
  |some c=>
   rw[hc]at e;have e:sv=SV.fz c:=by simpa using e.symm
   subst e;obtain⟨w,h1,h2⟩:=eF.getI rs hc;exact⟨w,by simp[h1],.fz h2⟩
end
end
section
open PySem.Calls
open PySem.W (CodeHd kla_fn kla_obj)
theorem wF{K}:∀{ks:List D} {kvs:List V},kvs.length=ks.length->(∀j kv,kvs[j]? =aA kv->eP K F (ks.getD j .non) kv)->eF K F ks kvs
 | [],[],_,_=>.nil
 |k::ks,v::kvs,hl,h=>.cons (h 0 v rfl) (wF (by simpa using hl) λj kv e=>h (j+1) kv (by simpa using e))
theorem j4:∀{ws:List V} {eC:List ag},Z5 ws eC->∀{p:List Nat},(∀i∈p,i<eC.length)->Z5 (p.map λi=>ws.getD i .non) (p.map λi=>eC.getD i de):=by
 intro ws eC h p hp;have at':∀{ws:List V} {eC:List ag},Z5 ws eC->∀i,i<eC.length->Zy (ws.getD i .non) (eC.getD i de):=by
  intro ws eC h;induction h with
  |nil=>intro i hi;simp at hi
  |cons r t ih=>intro i hi;cases i with
   |zero=>exact r
   |succ i=>exact ih i (by simpa using hi)
 induction p with
 |nil=>exact .nil
 |cons i r ih=>exact .cons (at' h i (hp i ac)) (ih λj hj=>hp j (ao _ hj))
theorem Ml{K}:∀{xs:List D} {ws:List V},eF K F xs ws->∀i,i<xs.length->eP K F (xs.getD i .non) (ws.getD i .non)
 |_,_,.nil,i,hi=>dM hi (f6 _)
 |_,_,.cons h t,0,_=>h
 |_,_,.cons h t,i+1,hi=>Ml t i (Nat.lt_of_succ_lt_succ hi)
theorem Lr{K}(h:eF K F xs ws):∀{p:List Nat},(∀i∈p,i<xs.length)->eF K F (p.map λi=>xs.getD i .non) (p.map λi=>ws.getD i .non)
 | [],_=>.nil
 |i::r,hp=>.cons (Ml h i (hp i ac)) (Lr h λj hj=>hp j (ao _ hj))
noncomputable abbrev KL(eS:D->List Nat)(ks:List D)(i:Nat):strKind.toKeyOrd.α:=eS (ks.getD i .non)
theorem yR(hu:A.units+16<f9)(hk:∀d∈ks,IsKey kb d)(he:∀a∈ks,∀b∈ks,Ji 16 a b=aA (decide (eS a<eS b)))(hn:ks.length=n):
  Cmp X eB σ H A (λj kv H=>eP X.K H (ks.getD j .non) kv) strKind.toKeyOrd (KL eS ks) n:=by
 intro H2 s2 ksV kvs sm I2 rv hl TW h2;have NB:kvs.length=ks.length:=by have:=rv.length;omega
 have rr:=wF NB TW;have get:∀i,i<ks.length->ks.getD i .non∈ks:=λi hi=>by rw[bg,ar hi];exact gz hi
 refine⟨tuples' aC,λQ q=>kO I2 (Zk.refl H2) hk rr rv (by omega) q,λi j Q hi hj q=>?_⟩;refine Zp (eF.getD rr rv i (by omega)) λv a1 a2 a3=>?_;refine Zp (eF.getD rr rv j (by omega)) λw b1 b2 b3=>?_;have e1:ksV.getD i de=ksV[i]:=by simp[bg,ar (show i<ksV.length by omega)]
 have e2:ksV.getD j de=ksV[j]:=by simp[bg,ar (show j<ksV.length by omega)]
 rw[e1,e2];exact qv I2 (Zk.refl H2) (n:=14) hu (hk _ (get i a3)) (hk _ (get j b3)) a1 a2 b1 b2 (he _ (get i a3) _ (get j b3)) q
theorem yQ(he:∀a∈ks,∀b∈ks,Ji 16 a b=aA (decide (eS a<eS b)))(hn:ks.length=n)(hp:Pm n p)(hs:Ph (O:=strKind.toKeyOrd) (KL eS ks) p n):T1 ks p.toList:=by
 subst hn;have pt:p.toList.Perm (c6 ks.length):=Array.perm_iff_toList_perm.mp hp;have get:∀i,i<ks.length->ks.getD i .non∈ks:=λi hi=>by rw[bg,ar hi];exact gz hi
 refine⟨pt,List.pairwise_iff_getElem.mpr λi j hi hj YS=>?_⟩;have hj':j<ks.length:=by have:=pt.length_eq;rw[List.length_range]at this;omega
 have mi:p.toList[i]<ks.length:=c8.mp (pt.mem_iff.mp (gz hi));have mj:p.toList[j]<ks.length:=c8.mp (pt.mem_iff.mp (gz hj));rw[he _ (get _ mj) _ (get _ mi)];have z:=hs i j (Nat.le_of_lt YS) hj';unfold Kp at z;have ei:p.getD i 0=p.toList[i]:=by rw[Array.getD_eq_getD_getElem?];simp at hi⊢;simp[hi]
 have ej:p.getD j 0=p.toList[j]:=by rw[Array.getD_eq_getD_getElem?];simp at hj⊢;simp[hj]
 rw[ei,ej]at z;have z:decide (eS (ks.getD p.toList[j] .non)<eS (ks.getD p.toList[i] .non))=aD:=z;rw[z]
end
section
open PySem.Calls
open PySem.W (CodeHd tabObj)
abbrev spT(P:au)(q:Str)(sp:Sp):Sp:=λvs H Q E=>H P=aA (.tab q)/\sp vs H Q E
theorem nr{K:af}{Z:eM K}(hT:Z.h P=aA (.tab q))(h:Ze Z (Z8 n g fa) σ H Q):DF (spT P q (Wh K n g)) [] E (Uv Z fa) σ H Q:=by refine Yx (yk (E:=E) h) λF δ own rvs δ' s e k=>?_;exact⟨F,δ,own,rvs,δ',s,e,λvs H' F' own' a b c d=>⟨c.old _ _ hT,k vs H' F' own' a b c d⟩⟩
theorem nq{Z:eM X.K}{pos:Pos}{p}(hT:Z.h P=aA (.tab q))(F:FnOk X.prog X.w X.K X.mg X.base Ot k f fd ps (spT P q (Wh X.K n g)))(hr:eT k X.A)(hm:X.mg x=aA (.ref f))(hk:PySem.W.keepIn X.K (.ref f)=aC)(hb:Tu X.K fd ps [])(ha:PA X (a::es) (Uv Z fr))(hg:‹Gl X x›)(YO:‹(x==("__debug__":Str))=aD›)(he:‹bd (a::es) X.env=(aD,ip a X.env)::bd es X.env›)(ZI:‹(gd pos (bd es X.env)).any (·.1)=aD›):
  PE X (.Call (.Name x p) (a::es) [] pos) (Ze Z (Z8 n g fr)):=(wA F hr hg hm hk hb .nil zx ha YO he ZI).imp λ_ _ _ h=>nr hT h
structure FunC(K:af)(x qual:Str)(st:Stmt)(f:au)(fd:FuncData)(c:au):Prop where
 ex:∃(oc:ag) (od:Option au) (kV ZW pm:ag) (an:Option au) (ct:ag) (XM:Array (Option ag)),
  fd=PySem.W.fnOf x qual (Ux st) (Qs st) (Yt st) .none kV ZW pm an (.ref c) ct/\K.lookup f=aA ⟨oc,od,.func fd,XM⟩/\PySem.W.codeIn K (.ref c) qual=aC
 kp:PySem.W.keepIn K (.ref f)=aC
theorem FunC.fn{K}{st}(F:FunC K x qual st f fd c):Fun K x qual st f fd:=by obtain⟨oc,od,kV,ZW,pm,an,ct,XM,a,b,d⟩:=F.ex;exact⟨⟨oc,od,kV,ZW,pm,an,.ref c,ct,XM,a,b,d⟩,F.kp⟩
theorem fY{K}{st}{kV:ag}(l:K.lookup f=aA ⟨oc,od,.func (PySem.W.fnOf x qual (Ux st) (Qs st) (Yt st) .none kV ZW pm an (.ref c) ct),XM⟩)(h:PySem.W.codeIn K (.ref c) qual=aC)(k:PySem.W.keepIn K (.ref f)=aC):FunC K x qual st f (PySem.W.fnOf x qual (Ux st) (Qs st) (Yt st) .none kV ZW pm an (.ref c) ct) c:=⟨⟨oc,od,kV,ZW,pm,an,ct,XM,rfl,l,h⟩,k⟩
theorem FunC.ok{K:af}{st}(F:FunC K x qual st f fd c)(S:FnScope N ps (Yt st))(len:∀vs H Q E,sp vs H Q E->vs.length=ps.length)(XJ:∀A outer s H vs Q E,eT k (A.deeper (envOfC qual (Yt st) s.heap.objs.size f (.ref c)))->sp vs H Q E->
   ∃t,M0 (Sj Ot P w K mg base N qual (Yt st) f (.ref c) A outer s H E).nox (Qs st) t/\t {nx:=λ_ H'=>Q .non H',rt:=Q} (Bp N vs) H):FnOk P w K mg base Ot (k+1) f fd ps sp:=by
 obtain⟨oc,od,kV,ZW,pm,an,ct,XM,rfl,lk,ZS⟩:=F.ex;refine yC lk ZS S len λA outer s H vs Q E hr UH=>?_;obtain⟨t,h,q⟩:=XJ A outer s H vs Q E hr UH;exact⟨t,h.nox,q⟩
theorem j3{K}(KX:K.In s₁.heap)(WN:s₁.heap.Ns mainGlobals mg)(hb:s₁.heap.Ns builtinsNs mb)(uI:∀x:Str,x≠"__name__"->mb x=bootBuiltins x)(HM:s₁.heap.NoLimit)(GO:Bw mg s₁.heap)(hg:s₁.gens= #[])(ZS:CodeHd s₁.heap c T)(hT:s₁.heap.get? T=aA (tabObj #[]))(NT:K.lookup T=aB)(ha:s₁.heap.get? a=aA {cls:=.type "list",data:=.seq vs.toArray})(hi:IntsAre vs ns)(hl:ns.length<=sizeLine)(hr:eT k callerA)(F:∀base,K.In base->base.Ns mainGlobals mg->Bw mg base->FnOk P w K mg base CX k fa fd [x] (spT T q sp))(YQ:∀s u,BindsTo s fd ⟨[u],[]⟩ [(x,u)])(UH:∀H,Bm K H a (ns.map V.int)->sp [.ref a] H (λv H'=>v= .bl aC/\Zk H H') λ_ _ _=>False)(GY:∀H e s',CX [] H s₁ (λ_ _ _=>False) e s'->False):
  codeAny (b9 P w) callerA (.call (.ref fa) ⟨[.ref a],[]⟩) (λr s'=>r= .ok (.ret (.bool aC))/\OldK s₁.heap s'.heap/\s'.os=s₁.os/\AllBare s'.gens) s₁:=by
 have rv:=Ky hi;have lenV:=hi.length;have aT:a≠T:=λz=>by rw[z,hT]at ha;cases ha
 have NV:∀H:Hp,(∀b,b≠T->H b=aB\/∃o xs,H b=aA (.frz o (.lst xs)))->H T=aA (.tab q)->Bm K H a (ns.map V.int)->G9 P w H s₁.heap->(∀b,H b≠aB->b=a\/b=T)->(H a≠aB->K.lookup a=aB)->
   codeAny (b9 P w) callerA (.call (.ref fa) ⟨[.ref a],[]⟩) (λr s'=>r= .ok (.ret (.bool aC))/\OldK s₁.heap s'.heap/\s'.os=s₁.os/\AllBare s'.gens) s₁:=by
  intro H hO hHT hS hok hA hK;have XB:∀{b:au} {o:Obj},s₁.heap.get? b=aA o->H b=aB->(Kb s₁.heap H).get? b=aA o:=λe n=>jU e n;have UP:∀{b:au} {o:Obj},s₁.heap.get? b=aA o->o.cls≠.none->o.cls≠.type "list"->H b=aB:=fun{b o} e d1 d2=>by
   cases q:H b with
   |none=>rfl
   |some u=>
    rcases hA b (by rw[q];simp)with e'|e'
    .subst e';rw[ha]at e;cases e;exact dM rfl d2
    .subst e';rw[hT]at e;cases e;exact dM rfl d1
  have vL:∀{b:au} {o:Obj} {es:Array DictEntry} {ep:Nat},s₁.heap.get? b=aA o->o.data= .dict es ep->H b=aB:=fun{b o es ep} e d=>by
   cases q:H b with
   |none=>rfl
   |some u=>
    rcases hA b (by rw[q];simp)with e'|e'
    .subst e';rw[ha]at e;cases e;cases d
    .subst e';rw[hT]at e;cases e;cases d
  have MX:∀{b:au} {m:Str->Option ag},s₁.heap.Ns b m->(Kb s₁.heap H).Ns b m:=fun{b m} ⟨o,es,ep,e,d,r⟩=>⟨o,es,ep,XB e (vL e d),d,r⟩
  have BE:K.In (Kb s₁.heap H):=λb o e=>XB (KX b o e) (by
   cases q:H b with
   |none=>rfl
   |some u=>
    rcases hA b (by rw[q];simp)with e'|e'
    .subst e';rw[hK (by rw[q];simp)]at e;cases e
    .subst e';rw[NT]at e;cases e)
  have uS:Bw mg (Kb s₁.heap H):=by obtain⟨bm,ob,b1,b2,b3,b4,b5,b6⟩:=GO;exact⟨bm,ob,b1,b2,XB b3 (UP b3 (by rw[b4];intro z;cases z) (by rw[b4];decide)),b4,b5,b6⟩
  have hM:Mod K mg (Kb s₁.heap H):=⟨BE,MX WN,⟨mb,MX hb,uI⟩,let⟨mc,h1,h2⟩:=HM;⟨mc,MX h1,h2⟩⟩
  have e0:Env0 P w K mg (Kb s₁.heap H) callerA [] s₁ H:=⟨rfl,hM,λb o e=>lJ e,Nat.le_of_eq (iW _ _),trivial,λb hb=>dM (show b∈([]:List au)from hb) (by simp),hok,.of_eq hg⟩
  refine codeAny_mono ((F _ BE (MX WN) uS).run callerA [] s₁ H ⟨[.ref a],[]⟩ [.ref a] [.ref a] _ _ hr e0 (YQ s₁ (.ref a)) (.cons rfl .nil) ⟨hHT,UH H hS⟩) λr s' h=>?_;cases r with
  |error e=>exact(GY H e s' h).elim
  |ok fl=>
   cases fl with
   |next=>exact False.elim h
   |brk=>exact False.elim h
   |cont=>exact False.elim h
   |ret u=>
    obtain⟨v,H',os,bare,un,OX,r',rfl,sm⟩:=h;obtain rfl:u=Value.bool aC:=r';have kept:∀b o,b≠T->s₁.heap.get? b=aA o->s'.heap.get? b=aA o:=λb o hb e=>by
     cases q:H b with
     |none=>exact un.keep b o e q (by intro z;exact dM (show b∈([]:List au)from z) (by simp)) (by simp)
     |some u=>
      rcases hO b hb with z|⟨ob,xs,z⟩
      .rw[q]at z;cases z
      .obtain⟨e1,_⟩:=hok b _ z;obtain⟨e2,_⟩:=OX b _ (sm _ _ z);rw[e]at e1;cases e1;exact e2
    obtain⟨ps,CG,_⟩:=OX T _ (sm _ _ hHT);refine⟨rfl,⟨λb o e=>?_,λb o e=>?_⟩,os,bare⟩
    .by_cases hbT:b=T
     .subst hbT;rw[hT]at e;cases e;exact .inr (.inl ⟨(ZS.tab hT).isCodeTable,rfl,#[],ps,rfl,by rw[CG];simp⟩)
     .exact .inl (kept b o hbT e)
    .by_cases hbT:b=T
     .subst hbT;exact⟨_,CG⟩
     .exact⟨o,kept b o hbT e⟩
 have UZ:∀H:Hp,Yp P w H s₁.heap T (.tab q):=λH=>⟨#[],hT,trivial,λpos cv z=>by cases z⟩
 cases hk:K.lookup a with
 |some o=>
  have e:=KX a o hk;rw[ha]at e;cases e;refine NV (λb=>if b=T then aA (.tab q)else aB) (λb hb=>.inl (dF hb)) (dG rfl) (.inr ⟨_,vs.toArray,_,hk,rfl,rfl,rfl,by rw[bq,lenV];exact hl,by simpa using rv⟩) (λb u z=>?_) (λb z=>?_) λz=>dM (dF aT) z
  .by_cases hb:b=T
   .have z':=(dG hb).symm.trans z;cases z';subst hb;exact UZ _
   .have z':=(dF hb).symm.trans z;cases z'
  .by_cases hb:b=T
   .exact .inr hb
   .exact dM (dF hb) z
 |none=>
  refine NV (λb=>if b=T then aA (.tab q)else if b=a then aA (.frz {cls:=.type "list",data:=.seq vs.toArray} (.lst (ns.map V.int)))else aB) (λb hb=>?_) (dG rfl) (.inl (.inr ⟨{cls:=.type "list",data:=.seq vs.toArray},by simp[aT]⟩)) (λb u z=>?_) (λb z=>?_) λ_=>hk
  .by_cases WT:b=a
   .exact .inr ⟨_,_,by simp only[dF hb];exact dG WT⟩
   .exact .inl (by simp only[dF hb];exact dF WT)
  .by_cases hb:b=T
   .have z':=(dG hb).symm.trans z;cases z';subst hb;exact UZ _
   .have z:=(dF hb).symm.trans z;by_cases WT:b=a
    .have z':=(dG WT).symm.trans z;cases z';subst WT;exact⟨ha,by rw[ah];exact hl,vs,_,rv,ha⟩
    .have z':=(dF WT).symm.trans z;cases z'
  .by_cases hb:b=T
   .exact .inr hb
   .by_cases WT:b=a
    .exact .inl WT
    .exact dM (by simp[hb,WT]) z
end
section
open PySem.Calls
end
section
open PySem.Calls
end
section
open PySem.Calls
end
section
open PySem.Calls
open PySem.W (CodeHd tabObj)
noncomputable def BX(names:List (Str×NameKind))(cl:List (Str×au)):Bool:=names.all λp=>p.2 != .free|| (cl.lookup p.1).isSome
theorem qt(h:BX names cl=aC)(y)(e:names.lookup y=aA .free):∃c,cl.lookup y=aA c:=by have:=List.all_eq_true.mp h (y,.free) (PySem.mem_of_lookup e);have z:((gx !=gx)|| (cl.lookup y).isSome)=aC:=this;rw[show(gx !=gx)=aD by decide,Bool.false_or]at z;exact Option.isSome_iff_exists.mp z
theorem kN{l:PySem.W.OpenLaw}{K:Params->af}{sp:af->Sp}(hn:l.most=aA n)(CJ:n<=sizeLine)(NN:d.params.defaults=[])(hr:eT k callerA)(hY:∀w h,YP w h->(K w.params).In h/\h.get? T=aA (tabObj #[]))(GI:∀p,PySem.W.codeHdIn (K p) c T=aC)(NT:∀p,(K p).lookup T=aB)(F:∀w mg fa h,(K w.params).In h->h.Ns mainGlobals mg->mg d.name=aA (.ref fa)->
   ∃fd,(∀s u,BindsTo s fd ⟨[u],[]⟩ [(x,u)])/\
    ∀base,(K w.params).In base->base.Ns mainGlobals mg->Bw mg base->FnOk l.prog w (K w.params) mg base CX k fa fd [x] (spT T q (sp (K w.params))))(UH:∀K H a (ns:List Int),ns.length<=n->Bm K H a (ns.map V.int)->sp K [.ref a] H (λv H'=>v= .bl aC/\Zk H H') λ_ _ _=>False)(GY:∀H s e s',CX [] H s (λ_ _ _=>False) e s'->False):
  PySem.W.WalkO qp loose XP YP l.row.toRowW d [] (λf vs=>PySem.call f vs):=by
 refine Att.attach_call hn NN λw s₀ s₁ mg mb fa o pm cd ZW a vs ns G Y ho hd ZS HL RM VX hlen hg=>?_;obtain⟨KX,hT⟩:=hY w _ Y;obtain⟨fd,hb,hF⟩:=F w mg fa _ KX G.T.g HL;exact j3 KX G.T.g G.T.b G.T.builtins G.T.nolimit G.T.bmain hg (PySem.W.codeHd_of_K KX (GI w.params)) hT (NT w.params) RM VX (dm hlen CJ) hr hF hb (λH hS=>UH _ H a ns hlen hS) λH e s'=>GY H s₁ e s'
end
section
open PySem.Calls
end
section
open PySem.Calls
end
section
open PySem.Calls
open PySem.W (kas_sort kas_ask kas_item kat_run kat_snds)
theorem Dd{σ:L2.St}(I:eG X eB σ H s)(hl:s.heap.IsList l eC.toArray)(h64:eC.length<64)(rv:Z5 kvs eC)(hk:∀j kv,kvs[j]? =aA kv->KeyOk j kv H)(hc:Cmp X eB σ H X.A.in1.in1 KeyOk O key eC.length)(hQ:∀p D s' c,Pm eC.length p->Ph key p eC.length->X.s₀.heap.get? D=aB->eG X eB σ H s'->Jf X eB H D->s'.heap.get? D=aA (d5 "list" (List.toArray (p.toList.map λi=>eC.getD i de)) c)->Q (.ref D) s'):
  bh (b9 X.prog X.w) X.A (call (.builtin "sorted") [.ref l]) Q E s:=by
 refine Calls.call_function_entry kind_sorted plain_sorted entry_sorted (args_sorted1 _) ?_;unfold Builtin.«sorted»;refine aa (m:=checkCount "sorted" 1 1 _) (ad ?_);refine aa (collect_list hl ?_ (by rw[gp];omega));refine aa (wpAny_newList ?_ (by rw[gp];omega));have hsz:((s.heap.push (d5 "list" #[] 0)).update s.heap.objs.size (d6 (· ++eC.toArray))).objs.size=s.heap.objs.size+1:=by rw[Heap.size_update,size_push']
 have XY:(((s.heap.push (d5 "list" #[] 0)).update s.heap.objs.size (d6 (· ++eC.toArray))).push (d5 "list" eC.toArray 0)).get? (s.heap.objs.size+1)=aA (d5 "list" eC.toArray 0):=by rw[<-hsz];exact bi _ rfl
 have keep:∀b o,s.heap.get? b=aA o->(((s.heap.push (d5 "list" #[] 0)).update s.heap.objs.size (d6 (· ++eC.toArray))).push (d5 "list" eC.toArray 0)).get? b=aA o:=λb o q=>by have ZM:b<s.heap.objs.size:=bj q;rw[Heap.get?_push_ne _ _ _ (by rw[hsz];exact cj (Nat.lt_succ_of_lt ZM)),Heap.get?_update_ne _ _ _ _ (cj ZM),Heap.get?_push_ne _ _ _ (cj ZM)];exact q
 show bh _ _ _ _ _ {s with heap:=((s.heap.push (d5 "list" #[] 0)).update s.heap.objs.size (d6 (· ++eC.toArray))).push (d5 "list" eC.toArray 0)};rw[hsz];refine aa (gn (d8 slot_list_sort ⟨_,XY,rfl⟩ entry_list_sort ?body (args_list_sort _)))
 case body=>
  rw[list_sort_plain];have XX:(((s.heap.push (d5 "list" #[] 0)).update s.heap.objs.size (d6 (· ++eC.toArray))).push (d5 "list" eC.toArray 0)).objs.size=s.heap.objs.size+2:=by rw[size_push',hsz]
  generalize hh:(((s.heap.push (d5 "list" #[] 0)).update s.heap.objs.size (d6 (· ++eC.toArray))).push (d5 "list" eC.toArray 0))=h1 at XY keep XX⊢;generalize hD:s.heap.objs.size+1=D at XY⊢;have uQ: @Eq Nat D (s.heap.objs.size+1):=hD.symm;obtain⟨e1,ho1⟩:∃e1,(h1.update D (d6 λ_=>(#[]:Array ag))).get? D=aA (d5 "list" #[] e1):=⟨_,get?_update_seq XY λ_=> #[]⟩
  refine aa (listItems_at XY rfl ?_);refine aa (listUpdate_at XY rfl ?_ (by rw[bq,gp];omega) (gq _));refine aa (seqEpoch_at ho1 rfl ?_);refine aa (wpAny_newTuple ?_ (by show eC.length<=_;rw[gp];omega));refine aa (wpAny_newList ?_ (gq _));refine gn ?_;have kp:∀b o,s.heap.get? b=aA o->(((h1.update D (d6 λ_=>(#[]:Array ag))).push (d5 "tuple" eC.toArray 0)).push (d5 "list" #[] 0)).get? b=aA o:=λb o q=>by have ZM: @LT.lt Nat _ b s.heap.objs.size:=bj q;have:=keep b o q;refine aq _ (aq _ ?_);rw[Heap.get?_update_ne _ _ _ _ (cj (show @LT.lt Nat _ b D by omega))];exact this
  have nD:H D=aB:=I.hok.fresh (by omega);have fD:Jf X eB H D:=I.fpOk (by omega) nD;have XZ:(((h1.update D (d6 λ_=>(#[]:Array ag))).push (d5 "tuple" eC.toArray 0)).push (d5 "list" #[] 0)).get? D=aA (d5 "list" #[] e1):=aq _ (aq _ ho1);have I6:eG X eB σ H {s with heap:=((h1.update D (d6 λ_=>(#[]:Array ag))).push (d5 "tuple" eC.toArray 0)).push (d5 "list" #[] 0)}:=I.kept kp;show bh (b9 X.prog X.w) X.A.in1.in1 _ _ _ {s with heap:=((h1.update D (d6 λ_=>(#[]:Array ag))).push (d5 "tuple" eC.toArray 0)).push (d5 "list" #[] 0)};have RZ:X.s₀.heap.get? D=aB:=Heap.get?_none_of_le (dm I.sz (by omega));generalize hs6:({s with heap:=((h1.update D (d6 λ_=>(#[]:Array ag))).push (d5 "tuple" eC.toArray 0)).push (d5 "list" #[] 0)}:am)=s6 at I6⊢;have XZ:s6.heap.get? D=aA (d5 "list" #[] e1):=by rw[<-hs6];exact XZ
  have fin:∀(p:Array Nat) (out:Array ag),out=List.toArray (p.toList.map λi=>eC.getD i de)->out.size<64->Pm eC.length p->Ph key p eC.length->
    Q (.ref D) {s6 with heap:=s6.heap.update D (d6 λ_=>out)}:=λp out ho hz z1 z2=>by
   subst ho;exact hQ p D _ _ z1 z2 RZ (Ar (o:=d5 "list" #[] 0) (xs:= #[]) (ys:= #[]) (n:=0) I6 fD) fD (get?_update_seq XZ λ_=>_)
  try dsimp only
  by_cases h2:eC.toArray.size<2
  .rw[dG h2,dG h2];have VC:eC.length<2:=by simpa using h2
   refine aa (ad ?_);rw[StateT.run_pure];refine aa (ad ?_)
   try dsimp only
   have eo:(arrOf (SortSt.mk' general' (eC.toArray.zip eC.toArray) #[] 7 aB)).map (·.2)=List.toArray ((List.toArray (c6 eC.length)).toList.map λi=>eC.getD i de):=by
    show(eC.toArray.zip eC.toArray).map (·.2)=_;apply Array.toList_inj.mp;rw[Array.toList_map,ksk_zip];simp only[List.toList_toArray];rw[List.map_snd_zip (by omega)];apply List.ext_getElem
    .simp
    .intro i a b;simp[a]
   rw[eo];refine aa (seqEpoch_at XZ rfl ?_);refine aa (listUpdate_at XZ rfl ?_ (gq _) (by rw[bq,gp];simp;omega));show bh _ _ (if((e1 !=e1)=aC)then _ else _) _ _ _;simp only[bne_self_eq_false,bx,if_false];refine ad ⟨_,rfl,ad ⟨_,rfl,fin (List.toArray (c6 eC.length)) _ rfl (by simp;omega) (Array.Perm.refl _) (λi j YS hj=>?_)⟩⟩;have:i=j:=by omega
   subst this;exact KeyOrd.kle_refl _
  .rw[dF h2,dF h2];have VC:2<=eC.length:=Nat.le_of_not_lt (by simpa using h2);obtain⟨κ,IM,ZM⟩:=hc H s6 eC kvs (Zk.refl H) I6 rv rfl hk VC;refine aa (g9 (IM (λSF s'=>SF=κ/\s'=s6) ⟨rfl,rfl⟩) (λSF s' z=>?_) λ_ _ z=>z.elim);obtain⟨rfl,rfl⟩:=z;have g:=W9.wp (lt:=Kh O key) (n:=eC.length) (R:=λq=>Pm eC.length q/\Ph key q eC.length) (cmp:=kas_ask X.prog X.w X.A.in1.in1 SF eC) (I:=λYA=>YA=s') (Q:=λq YA=>YA=s'/\Pm eC.length q/\Ph key q eC.length)
    (λi j C YA hi hj z hC=>by subst z;exact ZM i j C hi hj (hC _ rfl)) (λq YA z1 z2=>⟨z2,z1⟩) (Ln (key:=key) (by omega)) rfl
   refine aa (g9 (kat_run (Q:=λst YA=>∃p:Array Nat,YA=s'/\Pm eC.length p/\Ph key p eC.length/\arrOf st=p.map (kas_item (eC.toArray.zip eC.toArray))/\failedOf st=aB) rfl VC h64
    (λp st YA _ a1 a2 z=>⟨p,z.1,z.2.1,z.2.2,a1,a2⟩) g) (λr YA z=>?_) λ_ _ z=>z)
   obtain⟨⟨⟩,st⟩:=r;obtain⟨p,rfl,z1,z2,z3,z4⟩:=z
   try dsimp only
   rw[kat_snds rfl z3];refine aa (seqEpoch_at XZ rfl ?_);refine aa (listUpdate_at XZ rfl ?_ (gq _) (by rw[bq,ah,ba,z1.size,gp];omega));rw[z4];simp only[bne_self_eq_false,bx,if_false];exact ad ⟨_,rfl,ad ⟨_,rfl,fin p _ rfl (by rw[bq,ah,ba,z1.size];exact h64) z1 z2⟩⟩
end
section
open PySem.Calls
def zJ(K:af):List V->Hp->VK->Prop:=λvs H Q=>∃l F ds ws p,vs=[.ref l]/\Zk F H/\Bm K H l ws/\eF K F ds ws/\eR ds/\T1 ds p/\ws.length<64/\∀q,H q=aB->Q (.ref q) (Y7 H q (.lst (p.map λi=>ws.getD i .non)))
theorem jz(hu:X.A.units+64<f9):Jq X (.builtin "sorted") (zJ X.K):=by
 intro eB s σ H xs us Q I r h;obtain⟨l,F,ds,ws,p0,rfl,le,hl,rr,ko,I_,hz,q⟩:=h;obtain⟨u,rfl,ru⟩:=Uu r;cases ru;obtain⟨eC,XV,⟨o,n,ho,YG,_,hd⟩,_⟩:=I.list hl;have hlen:ds.length=eC.length:=L2.eF.lenV rr XV;have JH:ws.length=eC.length:=XV.length;obtain⟨eS,he,GD⟩:=id ko.ord;obtain⟨kb,HW⟩:=id ko.key;have TQ:X.A.in1.in1.units+16<cLine:=by show X.A.units+1+1+16<f9;omega
 refine Dd (KeyOk:=λj kv H=>eP X.K H (ds.getD j .non) kv) (O:=strKind.toKeyOrd) (key:=KL eS ds) I ⟨o,ho,YG,n,hd⟩ (by omega) XV (λj kv e=>?_) (yR TQ HW he hlen) ?hQ
 .have hj:j<ws.length:=(aw.mp e).1;have h1:=Ml rr j (by omega);have:ws.getD j .non=kv:=by rw[bg,e];rfl
  rw[this]at h1;exact h1.mono le
 case hQ=>
  intro p D s3 cc hp hs RZ I3 fD gD;have ep:p.toList=p0:=Dc ko (yQ he hlen hp hs) I_;rw[ep]at gD;have UG:∀i∈p0,i<eC.length:=λi hi=>by have:=c8.mp (I_.1.mem_iff.mp hi);omega
  have new:Yp X.prog X.w (Y7 H D (.lst (p0.map λi=>ws.getD i .non))) s3.heap D (.lst (p0.map λi=>ws.getD i .non)):=by refine⟨?_,p0.map λi=>eC.getD i de,cc,j4 XV UG,gD⟩;have:=I_.1.length_eq;rw[List.length_range]at this;rw[ah,this,gp];omega
  exact⟨.ref D,_,eG.trackO I3 RZ fD.1 fD.2.1 fD.2.2.2.2.1 fD.2.2.2.2.2 new,rfl,q D fD.1⟩
end
section
open PySem.Calls
variable{K:af}
def Im:List D->Option SV
 | [.lst xs]=>Pk xs xs
 |_=>aB
theorem qr{Z:eM K}:Oc Z (zJ K) Im:=by
 intro F H σ δ own vs ds sv Q s r e k;unfold Im at e;split at e
 .rename_i xs;obtain⟨_,hz,ko,p,hp,rfl⟩:=nv e;cases r with
  |cons h t=>cases t;obtain⟨a,us,rfl,ha,ru⟩:=h.lst s.le;have UG:∀i∈p,i<xs.length:=λi hi=>c8.mp (hp.1.mem_iff.mp hi);exact⟨a,F,xs,us,p,rfl,s.le,ha,ru,ko,hp,by rw[<-eF.len2 ru];exact hz,λq hq=>k.lst s (Lr ru UG) hq⟩
 .cases e
section
variable{X:Cx}{Z:eM X.K}{a b c:da}{fa fb fc:FE}{pos:Pos}
theorem yP{p}(hv:X.A.units+64<f9)(hm:X.mg "sorted"=aB)(ha:PE X a (Ze Z fa))(hg:‹Gl X "sorted"›)(he:‹bd [a] X.env=(aD,ip a X.env)::bd [] X.env›)(ZI:‹(gd pos (bd [] X.env)).any (·.1)=aD›):
  PE X (.Call (.Name "sorted" p) [a] [] pos) (Ze Z (Yq Im (Zc fa Zi))):=Ao (jz hv) qr hm L2.C4 (Zh ha Z4 he) hg (by decide) (by decide) he ZI
end
end
section
open PySem.Calls
@[simp]noncomputable def Ro(lt:D->D->Option Bool):Nat->D->List D->Nat->Option Nat
 |b,_,[],_=>aA b
 |b,kb,k::ks,j=>(lt k kb).bind λc=>if c=aC then Ro lt j k ks (j+1)else Ro lt b kb ks (j+1)
def MSt(X:Cx)(eB:List (au×Obj))(σ:L2.St)(H0:Hp)(f:au)(fo:Obj)(I S l:au)(j:Nat)(WF:Array ag)(H:Hp)(s:am):Prop:=
 Zk H0 H/\eG X eB σ H s/\Jf X eB H I/\Jf X eB H S/\Jf X eB H f/\s.heap.IsListIter I l j/\(∃c,s.heap.get? S=aA (d5 "list" WF c))/\s.heap.get? f=aA fo
def De(X:Cx)(eB:List (au×Obj))(σ:L2.St)(H:Hp)(A:dg)(f:au)(fo:Obj)(ws:List V)(ks:List D):Prop:=
 ∀(j:Nat) (u:ag) (H1:Hp) (s1:am),j<ws.length->Zy (ws.getD j .non) u->Zk H H1->eG X eB σ H1 s1->s1.heap.get? f=aA fo->Jf X eB H1 f->
  bh (b9 X.prog X.w) A (call (.ref f) [u]) (λk s2=>∃kv H2,Zk H1 H2/\eG X eB σ H2 s2/\Un (frs X.stack) [] H1 H2 s1.heap s2.heap/\Zy kv k/\eP X.K H2 (ks.getD j .non) kv) (λ_ _=>False) s1
theorem Mm:(toString "min"++toString ".loop":String)="min.loop":=by decide
theorem Vv
  (hk:De X eB σ H A f fo ws ks)(hj:j<ws.length)(hu:Zy (ws.getD j .non) u)(m:MSt X eB σ H f fo I S l i WF H1 s):
  bh (b9 X.prog X.w) A (call (.ref f) [u]) (λk s2=>∃kv H2,Zy kv k/\eP X.K H2 (ks.getD j .non) kv/\Zk H1 H2/\MSt X eB σ H f fo I S l i WF H2 s2) (λ_ _=>False) s:=by
 obtain⟨sm,I1,fI,fS,ff,⟨oI,gI,cI,dI⟩,⟨c,gS⟩,gf⟩:=m;refine g9 (hk j u H1 s hj hu sm I1 gf ff) (λk s2 z=>?_) λ_ _ z=>z.elim;obtain⟨kv,H2,W_,I2,un,rk,rp⟩:=z;have nI:=un.free I _ gI fI.1 (by simp);have nS:=un.free S _ gS fS.1 (by simp);have nf:=un.free f _ gf ff.1 (by simp);have gI2:=un.keep I _ gI fI.1 (eG.notStk I1 fI) (by simp);have gS2:=un.keep S _ gS fS.1 (eG.notStk I1 fS) (by simp);have gf2:=un.keep f _ gf ff.1 (eG.notStk I1 ff) (by simp);exact⟨kv,H2,rk,rp,W_,sm.trans W_,I2,FM fI nI,FM fS nS,FM ff nf,⟨oI,gI2,cI,dI⟩,⟨c,gS2⟩,gf2⟩
theorem MSt.turn(VB:I≠S)(T':I≠f)(m:MSt X eB σ H f fo I S l j WF H1 s)(k:∀b o,b∉[I]->s.heap.get? b=aA o->h'.get? b=aA o)(hi:h'.IsListIter I l (j+1)):
  MSt X eB σ H f fo I S l (j+1) WF H1 {s with heap:=h',toks:=tk}:=by
 obtain⟨sm,I1,fI,fS,ff,gI,⟨c,gS⟩,gf⟩:=m;refine⟨sm,I1.turned (λb o hb e=>k b o (by simpa using hb) e) fI.1 fI.2.1 fI.2.2.2.1 fI.2.2.2.2.1 fI.2.2.2.2.2,fI,fS,ff,hi,⟨c,k _ _ (by simpa using VB.symm) gS⟩,k _ _ (by simpa using T'.symm) gf⟩
theorem MSt.gone(m:MSt X eB σ H f fo I S l j WF H1 s)(k:∀b o,b∉[I]->s.heap.get? b=aA o->h'.get? b=aA o):eG X eB σ H1 {s with heap:=h',toks:=tk}:=by obtain⟨sm,I1,fI,fS,ff,gI,⟨c,gS⟩,gf⟩:=m;exact I1.turned (λb o hb e=>k b o (by simpa using hb) e) fI.1 fI.2.1 fI.2.2.2.1 fI.2.2.2.2.1 fI.2.2.2.2.2
theorem MSt.put(VB:I≠S)(TZ:S≠f)(m:MSt X eB σ H f fo I S l j WF H1 s):MSt X eB σ H f fo I S l j best' H1 {s with heap:=s.heap.update S (d6 λ_=>best')}:=by
 obtain⟨sm,I1,fI,fS,ff,⟨oI,gI,cI,dI⟩,⟨c,gS⟩,gf⟩:=m;refine⟨sm,Ar (o:=d5 "list" #[] 0) (xs:= #[]) (ys:= #[]) (n:=0) I1 fS,fI,fS,ff,⟨oI,?_,cI,dI⟩,⟨_,get?_update_seq gS λ_=>best'⟩,?_⟩
 .show(s.heap.update S _).get? I=_;rw[Heap.get?_update_ne _ _ _ _ VB];exact gI
 .show(s.heap.update S _).get? f=_;rw[Heap.get?_update_ne _ _ _ _ (Ne.symm TZ)];exact gf
theorem jy{α:Type}{l r:List α}{k}(h:l.drop j=k::r):l[j]? =aA k/\l.drop (j+1)=r:=by
 have hj:j<l.length:=by
  rcases dv j l.length with z|z
  .exact z
  .rw[List.drop_of_length_le z]at h;cases h
 rw[List.drop_eq_getElem_cons hj]at h;obtain⟨h1,h2⟩:=List.cons.inj h;exact⟨by rw[ar hj,h1],h2⟩
theorem xb:∀{ws:List V} {eC:List ag},Z5 ws eC->∀{j:Nat} {v:ag},eC[j]? =aA v->Zy (ws.getD j .non) v:=by
 intro ws eC h;induction h with
 |nil=>intro j v z;simp at z
 |cons r t ih=>
  intro j v z;cases j with
  |zero=>simp only[List.getElem?_cons_zero,Option.some.injEq]at z;subst z;exact r
  |succ j=>exact ih (by simpa using z)
theorem Io(hh:X.A.handled=aB)(TQ:X.A.units+32<f9)(VB:I≠S)(T':I≠f)(TZ:S≠f)(RQ:l≠I)(hk:De X eB σ H X.A.in1 f fo ws ks)(RP:ks.length=ws.length)(hl:∀H' s',Zk H H'->eG X eB σ H' s'->∃eC,Z5 ws eC/\s'.heap.IsList l eC.toArray)(hR:∀H' s' v,Zk H H'->eG X eB σ H' s'->Zy (ws.getD m .non) v->R (.ok (.ret v)) s'):
  ∀r j b vb QM OP H1 s,ks.drop j=r->j<=ws.length->MSt X eB σ H f fo I S l j #[vb,QM] H1 s->Zy (ws.getD b .non) vb->Zy OP QM->eP X.K H1 (ks.getD b .non) OP->Ro (Ji 16) b (ks.getD b .non) r j=aA m->
   codeAny (b9 X.prog X.w) X.A (.builtin "min.loop" ⟨[.ref I,.ref f,.ref S],kw⟩) R s
 | [],j,b,vb,QM,OP,H1,s,hr,RU,ms,hb,rb,rpb,e=>by
  obtain rfl:b=m:=by simpa using e
  have UJ:ks.length<=j:=by
   rcases dv j ks.length with z|z
   .rw[List.drop_eq_getElem_cons z]at hr;cases hr
   .exact z
  obtain⟨sm,I1,fI,fS,ff,gI,⟨c,gS⟩,gf⟩:=id ms;obtain⟨eC,XV,WR⟩:=hl H1 s sm I1;have wl:ws.length=eC.length:=XV.length;have W:=Walks.list (prog:=X.prog) (w:=X.w) (A:=X.A.in1) hh I l RQ eC.toArray;refine ir PySem.F.entry_min_loop ?_;rw[gr PySem.F.plain_min_loop _];show bh _ X.A.in1 (seqItems? (.ref S) >>=_) _ _ _;refine aa (wpAny_seqItems gS rfl ?_);show bh _ X.A.in1 (tryCatch (pyNext (.ref I)) _ >>=_) _ _ _;have v8:j=eC.toArray.size:=by rw[bq];omega
  refine aa (wpAny_tryCatch (W.done _ _ _ ⟨by rw[<-v8];exact gI,WR⟩ λh' SO XO=>?_));have gS':=XO S _ (by simpa using VB.symm) gS;show bh _ X.A.in1 (updateSeq S (λ_=> #[]) >>=_) _ _ _;refine aa ?_;refine wpAny_updateSeq gS' rfl (aa (wpAny_letGo (ad ?_)));have I2:=ms.gone (tk:=SO) XO;exact hR H1 _ vb sm (Ar (o:=d5 "list" #[] 0) (xs:= #[]) (ys:= #[]) (n:=0) (t':=SO) (g:=λ_=>(#[]:Array ag)) I2 fS) hb
 |k0::r,j,b,vb,QM,OP,H1,s,hr,RU,ms,hb,rb,rpb,e=>by
  obtain⟨CN,QP⟩:=jy hr;have hj:j<ws.length:=by have:=(aw.mp CN).1;omega
  have gk:ks.getD j .non=k0:=by rw[bg,CN];rfl
  obtain⟨sm,I1,fI,fS,ff,gI,⟨c,gS⟩,gf⟩:=id ms;obtain⟨eC,XV,WR⟩:=hl H1 s sm I1;have wl:ws.length=eC.length:=XV.length;have W:=Walks.list (prog:=X.prog) (w:=X.w) (A:=X.A.in1) hh I l RQ eC.toArray;refine ir PySem.F.entry_min_loop ?_;rw[gr PySem.F.plain_min_loop _];show bh _ X.A.in1 (seqItems? (.ref S) >>=_) _ _ _;refine aa (wpAny_seqItems gS rfl ?_);show bh _ X.A.in1 (tryCatch (pyNext (.ref I)) _ >>=_) _ _ _;refine aa (wpAny_tryCatch (W.item j _ _ _ (by rw[bq];omega) ⟨gI,WR⟩ λv h' SO hP RH XO=>?_));have hv:Zy (ws.getD j .non) v:=xb XV (by simpa using hP);have ms1:=ms.turn (tk:=SO) VB T' XO RH.1;show bh _ X.A.in1 (tryCatch (holding [v] (call (.ref f) [v])) _ >>=_) _ _ _;refine aa (wpAny_tryCatch (gn (g9 (Vv hk hj hv ms1) (λx YA he=>?_) λ_ _ hF=>hF.elim)));refine Cu he λkv H2 rk rp W_ QL=>?_;obtain⟨sm3,I2,fI2,fS2,ff2,gI2,⟨c2,gS2⟩,gf2⟩:=id QL;have e:(Ji 16 k0 (ks.getD b .non)).bind (λc=>if c=aC then Ro (Ji 16) j k0 r (j+1)else Ro (Ji 16) b (ks.getD b .non) r (j+1))=aA m:=e;refine eK e λc0 e1 e2=>?_;rw[<-gk]at e1;have lt:=Pj I2 (Zk.refl H2) 16 X.A.in1 _ _ _ _ _ _ _ (by show X.A.units+1+16<f9;omega) rp rk (rpb.mono W_) rb e1;show bh _ X.A.in1 (tryCatch (holding [v,x] (richCompare .Lt x QM >>=_)) _ >>=_) _ _ _;refine aa (wpAny_tryCatch (gn (aa (lt X.prog X.w _ _ ?_))));refine aa (gn (wpAny_truthy_bool ?_));refine aa (wpAny_letGo (ad ?_));cases c0 with
  |true=>simp only[if_true]at e2⊢;refine aa ?_;refine wpAny_updateSeq gS2 rfl (aa (wpAny_letGo ?_));rw[Mm];rw[<-gk]at e2;exact ad ⟨plainId_quiet PySem.F.plain_min_loop _,Io hh TQ VB T' TZ RQ hk RP hl hR r (j+1) j v x kv H2 _ QP hj (QL.put VB TZ) hv rk rp e2⟩
  |false=>simp only[bx,if_false]at e2⊢;refine aa (wpAny_letGo ?_);rw[Mm];exact ad ⟨plainId_quiet PySem.F.plain_min_loop _,Io hh TQ VB T' TZ RQ hk RP hl hR r (j+1) b vb QM OP H2 _ QP hj QL hb rb (rpb.mono W_) e2⟩
end
section
open PySem.Calls
open PySem.W (CodeHd kla_fn kla_obj)
theorem kM(a v u):argsOk "min" ⟨[a],[(dz "key",v),(dz "default",u)]⟩:=by unfold argsOk;kernel_rfl
@[simp]def Q_(lt:D->D->Option Bool):List D->Option (Option Nat)
 | []=>aA aB
 |k::ks=>(Ro lt 0 k ks 1).bind λm=>aA (aA m)
theorem kL{σ:L2.St}{f l:au}(hh:X.A.handled=aB)(TQ:X.A.units+32<f9)(I:eG X eB σ H s)(HU:l<s.heap.objs.size)(gf:s.heap.get? f=aA fo)(ff:Jf X eB H f)(hk:De X eB σ H X.A.in1 f fo ws ks)(RP:ks.length=ws.length)(hl:∀H' s',Zk H H'->eG X eB σ H' s'->∃eC,Z5 ws eC/\s'.heap.IsList l eC.toArray)(hm:Q_ (Ji 16) ks=aA m)(hQ:∀H' s' v,Zk H H'->eG X eB σ H' s'->Zy ((m.map λi=>ws.getD i .non).getD .non) v->Q v s'):
  bh (b9 X.prog X.w) X.A (call (.builtin "min") [.ref l] [(dz "key",.ref f),(dz "default",.none)]) Q E s:=by
 refine kmk_tree PySem.F.kind_min PySem.F.plain_min PySem.F.entry_min (kM _ _ _) ?_;show bh _ X.A.in1 (Builtin.Builtins.bindParams "min" ["key","default"] 0 ⟨[],[(dz "key",.ref f),(dz "default",.none)]⟩>>=_) _ _ s;refine aa (wpAny_of_eq (show Builtin.Builtins.bindParams "min" ["key","default"] 0 ⟨[],[(dz "key",.ref f),(dz "default",.none)]⟩=pure [aA (.ref f),aA .none]from rfl) ?_);refine aa (ad ?_);obtain⟨vZ,_,GA⟩:=hl H s (Zk.refl H) I;refine aa (wpAny_pyIter_list GA ?_);refine aa (wpAny_newList ?_ (gq _));rw[Mm];have hS:(s.heap.push {cls:=.type "list_iterator",data:=.fields #[.ref l,.int 0 0]}).objs.size=s.heap.objs.size+1:=size_push' ..;refine ad ⟨plainId_quiet PySem.F.plain_min_loop _,?_⟩;have gI:((s.heap.push {cls:=.type "list_iterator",data:=.fields #[.ref l,.int 0 0]}).push (d5 "list" #[] 0)).get? s.heap.objs.size=aA {cls:=.type "list_iterator",data:=.fields #[.ref l,.int 0 0]}:=
  aq _ (bi _ rfl)
 have gS:((s.heap.push {cls:=.type "list_iterator",data:=.fields #[.ref l,.int 0 0]}).push (d5 "list" #[] 0)).get? (s.heap.objs.size+1)=aA (d5 "list" #[] 0):=by rw[<-hS];exact bi _ rfl
 have CZ: @LT.lt Nat _ f s.heap.objs.size:=bj gf;have kp:∀b o,s.heap.get? b=aA o->((s.heap.push {cls:=.type "list_iterator",data:=.fields #[.ref l,.int 0 0]}).push (d5 "list" #[] 0)).get? b=aA o:=λb o e=>aq _ (aq _ e);have nI:H s.heap.objs.size=aB:=I.hok.fresh (bf _);have nS:H (s.heap.objs.size+1)=aB:=I.hok.fresh (Nat.le_succ _);have ms:MSt X eB σ H f fo s.heap.objs.size (s.heap.objs.size+1) l 0 #[] H {s with heap:=(s.heap.push {cls:=.type "list_iterator",data:=.fields #[.ref l,.int 0 0]}).push (d5 "list" #[] 0)}:=
  ⟨Zk.refl H,I.kept kp,I.fpOk (bf _) nI,I.fpOk (Nat.le_succ _) nS,ff,⟨_,gI,rfl,rfl⟩,⟨_,gS⟩,kp _ _ gf⟩
 have VB:s.heap.objs.size≠s.heap.objs.size+1:=cj (Nat.lt_succ_self _);have T':s.heap.objs.size≠f:=Nat.ne_of_gt CZ;have TZ:s.heap.objs.size+1≠f:=Nat.ne_of_gt (Nat.lt_succ_of_lt CZ);have RQ:l≠s.heap.objs.size:=cj HU;rw[hS];show codeAny (b9 X.prog X.w) X.A (.builtin "min.loop" ⟨[.ref s.heap.objs.size,.ref f,.ref (s.heap.objs.size+1)],[(dz "default",.none)]⟩) _ _;obtain⟨eC,XV,WR⟩:=hl H _ (Zk.refl H) ms.2.1;have wl:ws.length=eC.length:=XV.length;have W:=Walks.list (prog:=X.prog) (w:=X.w) (A:=X.A.in1) hh s.heap.objs.size l RQ eC.toArray;refine ir PySem.F.entry_min_loop ?_;rw[gr PySem.F.plain_min_loop _];show bh _ X.A.in1 (seqItems? (.ref (s.heap.objs.size+1)) >>=_) _ _ _;refine aa (wpAny_seqItems gS rfl ?_);show bh _ X.A.in1 (tryCatch (pyNext (.ref s.heap.objs.size)) _ >>=_) _ _ _;cases TX:ks with
 |nil=>
  rw[TX]at hm RP;obtain rfl:aB=m:=by simpa using hm
  have h0:eC.toArray.size=0:=by rw[bq,<-wl,<-RP];rfl
  refine aa (wpAny_tryCatch (W.done _ _ _ ⟨by rw[h0];exact⟨_,gI,rfl,rfl⟩,WR⟩ λh' SO XO=>?_));show bh _ X.A.in1 (rule _ >>=_) _ _ _;refine aa (wpAny_rule (ad ?_));exact hQ H _ _ (Zk.refl H) (ms.gone XO) rfl
 |cons k0 r=>
  rw[TX]at hm;have hm:(Ro (Ji 16) 0 k0 r 1).bind (λm=>aA (aA m))=aA m:=hm;refine eK hm λmi e1 e2=>?_;cases e2;have hj:0<ws.length:=by rw[<-RP,TX];exact Nat.succ_pos _
  refine aa (wpAny_tryCatch (W.item 0 _ _ _ (by rw[bq];omega) ⟨⟨_,gI,rfl,rfl⟩,WR⟩ λv h' SO hP RH XO=>?_));have hv:Zy (ws.getD 0 .non) v:=xb XV (by simpa using hP);have ms1:=ms.turn (tk:=SO) VB T' XO RH.1;show bh _ X.A.in1 (tryCatch (holding [v] (call (.ref f) [v])) _ >>=_) _ _ _;refine aa (wpAny_tryCatch (gn (g9 (Vv hk hj hv ms1) (λx YA he=>?_) λ_ _ hF=>hF.elim)));refine Cu he λkv H2 rk rp W_ QL=>?_;obtain⟨sm3,I2,fI2,fS2,ff2,gI2,⟨c2,gS2⟩,gf2⟩:=id QL;show bh _ X.A.in1 (updateSeq (s.heap.objs.size+1) (λ_=> #[v,x]) >>=_) _ _ _;refine aa ?_;refine wpAny_updateSeq gS2 rfl ?_;rw[Mm];have g0:ks.getD 0 .non=k0:=by rw[TX];rfl
  refine ad ⟨plainId_quiet PySem.F.plain_min_loop _,Io (m:=mi) hh TQ VB T' TZ RQ hk RP hl (λH' s' v a b r=>hQ H' s' v a b r) r 1 0 v x kv H2 _ (by rw[TX];rfl) hj (QL.put VB TZ) hv rk rp (by rw[g0];exact e1)⟩
end
section
open PySem.Calls
open PySem.W (CodeHd kla_fn kla_obj)
@[simp]def AC(fb:FE)(js:List Nat)(d:D)(δ:Yy):Option (RV×Yy):=match d with
 | .lst xs=>(frzAll (js.map RV.bw) δ).bind λr=>(T2 fb r.1 xs).bind λks=>(Q_ (Ji 16) ks).bind λm=>aA (.tmp (.fz ((m.map λi=>xs.getD i .non).getD .non)),r.2)
 |_=>aB
@[simp]def EQ(fa:FE)(js:List Nat)(fb:FE):FE:=λδ=>(fa δ).bind λp=>(frz p.1 p.2).bind λq=>AC fb js q.1 q.2
theorem kK:bootBuiltins "min"=aA (.builtin "min"):=by kernel_rfl
theorem Pl:∀{ks:List D} {b j m:Nat} {kb:D},Ro lt b kb ks j=aA m->b<j->m<j+ks.length
 | [],b,j,m,kb,h,hb=>by
  obtain rfl:b=m:=by simpa using h
  simpa using hb
 |k::ks,b,j,m,kb,h,hb=>by
  have h:(lt k kb).bind (λc=>if c=aC then Ro lt j k ks (j+1)else Ro lt b kb ks (j+1))=aA m:=h;refine eK h λc _ h2=>?_;rw[bc];cases c with
  |true=>have:=Pl (b:=j) (by simpa using h2) (Nat.lt_succ_self _);omega
  |false=>have:=Pl (b:=b) (by simpa using h2) (by omega);omega
theorem nj(h:Q_ lt ks=aA (aA m)):m<ks.length:=by
 cases ks with
 |nil=>simp at h
 |cons k ks=>have h:(Ro lt 0 k ks 1).bind (λm=>aA (aA m))=aA (aA m):=h;refine eK h λm' e1 e2=>?_;cases e2;have:=Pl e1 (Nat.lt_succ_self _);rw[bc];omega
theorem qo{Z:eM X.K}{p1 p2 lp kp np np2}{ck}(hr:eT 2 X.A)(hc:X.calm=aC)(hv:X.A.units+64<f9)(h1:X.mg "min"=aB)(YV:X.env.code= .ref c)(C:CodeHd X.base c P)(hT:Z.h P=aA (.tab q))(hq:X.env.qual++ "<lambda>"=q)(B:Bw X.mg X.base)(S:LamS x fs sc)(YG:closureFor sc X.env=pure clos)(UA:defaultsOf params X.env=([],[]))(YQ:∀cl pm c WE u,bindArgs (kla_fn "<lambda>" q params body sc cl pm (.ref c) WE) ⟨[u],[]⟩=pure [(x,u)])(XA:∀y c,clos.lookup y=aA c->X.env.cells.lookup y=aA c)(has:∀y,sc.names.lookup y=aA .free->∃c,clos.lookup y=aA c)(RU:js.length=fs.length)(v7:∀(i j:Nat) y,js[i]? =aA j->fs[i]? =aA y->X.N[j]? =aA y/\X.env.scope.names.lookup y=aA .cell/\sc.names.lookup y=aA .free)(ha:PE X a (Ze Z fa))(hb:∀f c A s1 H1 F1,(cxL X (x::fs) q sc f c clos A s1 H1).A.units+1<f9->PE (cxL X (x::fs) q sc f c clos A s1 H1) body (Ze (ent H1 F1:eM X.K) fb))(g1:‹Gl X "min"›)(Y':‹bd [a] X.env=(aD,ip a X.env)::bd [] X.env›)(VQ:‹(gd p2 (bd [] X.env)).any (·.1)=aD›):
  PE X (.Call (.Name "min" p1) [a] [⟨aA "key",.Lambda params body sc lp,kp⟩,⟨aA "default",.Constant .none ck np,np2⟩] p2) (Ze Z (EQ fa js fb)):=by
 intro eB s σ H Q I h;refine Yx h λF δ own rv δ' sr e k=>?_;refine eL e λWI δ1 e1 e2=>?_;refine eL e2 λd δ2 e3 e4=>?_;refine wpAny_Call_Name_kw (O9 I g1 h1 L2.kK ?_);refine callWith_builtin_kwB (by rw[Y'];show(aD|| (gd p2 (bd [] X.env)).any (·.1))=aD;rw[VQ];rfl) rfl ?_;rw[Y'];show bh _ _ (evalArgs (.builtin "min") aC ((aD,ip a X.env)::gd p2 (bd [] X.env)) _) _ _ s;refine evalArgs_kwB rfl (Calls.spliced_cons (g9 (ha eB s σ H (λv H'=>∃F' own',Zk H H'/\Zk F F'/\SR Z F' H' σ δ1 own'/\Sx Z F' H' σ own' WI v) I ⟨F,δ,own,WI,δ1,sr,e1,λv H' F' own' a1 a2 a3 a4=>⟨F',own',a1,a2,a3,a4⟩⟩) (λu s1 z=>?_) λ_ _ z=>z));obtain⟨v,H1,I1,ru,F1,ZA,MQ,DQ,wm,vA⟩:=z;show bh _ _ (spliced []) _ _ _;refine Calls.spliced_nil ?_;refine Zp (wm.settleR vA) λF2 DP wk w_=>?_;refine Y9 (wk.frzR w_ e3) λF3 ZH DO wj JS=>?_;cases d with
 |lst xs=>
  have e4:(frzAll (js.map RV.bw) δ2).bind (λr=>(T2 fb r.1 xs).bind λks=>(Q_ (Ji 16) ks).bind λm=>aA (RV.tmp (.fz ((m.map λi=>xs.getD i .non).getD .non)),r.2))=aA (rv,δ'):=e4;refine eL e4 λcs ZX e5 e6=>?_;refine eK e6 λks e7 e8=>?_;refine eK e8 λm e9 SA=>?_;cases SA;obtain⟨F4,ZU,vs,JN,DN,r4,l4,g4⟩:=yS wj e5;have rep4:=JS.mono JN;refine kws_cons ?_;have uK:H1 P=aA (.tab q):=DN.old _ _ hT;refine kt I1 YV C uK hq B YG UA λf c' pm WE oc H2 s2 W_ nf I2 gf ZS vc=>?_;refine kws_cons ?_;refine Constant_none ?_;refine kws_nil ?_;have sr5:=DN.grow W_;cases rep4 with
  | @lst al DI ws hsq _ rws=>
   cases ru;obtain⟨eC,XV,WR⟩:=Qz I2 sr5.le hsq;have hlen:xs.length=eC.length:=eF.lenV rws XV;have JH:ws.length=eC.length:=XV.length;have kl:=(Il e7).1;have vj:eT 1 X.A.in1:=hr.in1;have HU:al<s2.heap.objs.size:=by obtain⟨o,ho,_⟩:=WR;exact bj ho
   have UQ:∀(j:Nat) (dj:D),xs[j]? =aA dj->∃kd,ks.getD j .non=kd/\PB fb cs dj=aA kd:=λj dj hj=>by obtain⟨kd,a1,a2⟩:=(Il e7).2 j dj hj;exact⟨kd,by rw[bg,a1];rfl,a2⟩
   show bh _ _ (call (.builtin "min") [.ref al] [(dz "key",.ref f),(dz "default",.none)]) _ _ s2;refine kL (m:=m) (ks:=ks) (ws:=ws) (I1.ok.hd hc) (by omega) I2 HU gf nf ?hcall (by omega) ?hlst e9 ?hQ
   case hlst=>
    intro H' s' sm' I';exact Qz I' ((sr5.le).trans sm') hsq
   case hcall=>
    intro j u H3 s3 hj rw2 sm3 I3 gf3 ff3;have QT:j<xs.length:=by omega
    have rw1:=Ml rws j QT;have OU:xs[j]? =aA (xs.getD j .non):=by rw[bg,ar QT];rfl
    obtain⟨kd,ek,FC⟩:=UQ j _ OU;have FC:(fb (aA (.fz (xs.getD j .non))::cs.map λc=>aA (.fz c))).bind (λp=>(frz p.1 p.2).bind λq=>aA q.1)=aA kd:=FC;refine eL FC λwy wQ f1 f2=>?_;refine eL f2 λdk wP f3 f4=>?_;cases f4;have ON:Zk F4 H3:=(sr5.le).trans sm3;have hcr:=qx I3.hok (sm3 _ _ ZS) vc;refine g9 (ku (ws:=vs.map aA) S vj I3.ok.frames I3 gf3 hcr (YQ _ _ _ _ _) XA has (by rw[ah,l4,RU]) (λi y w' z1 z2=>?_) rw2 (hb f c' X.A.in1 s3 H3 F4 (by show X.A.units+1+3+1<f9;omega)) (Q:=λkv H4=>Zk H3 H4/\eP X.K H4 dk kv) ⟨F4,_,_,wy,wQ,qu ON rw1 r4,f1,λkv H4 F5 OG a1 a2 a3 a4=>?_⟩) (λk s4 z=>?_) λ_ _ z=>z
    .have UX:(vs.map aA)[i]? =aA (aA w'):=z2;rw[az]at UX;have gJ:i<vs.length:=by
      rcases dv i vs.length with zz|zz
      .exact zz
      .rw[d3 zz]at UX;cases UX
     obtain⟨jj,hjj⟩:∃jj,js[i]? =aA jj:=⟨_,ar (by omega)⟩
     obtain⟨b1,b2,b3⟩:=v7 i jj y hjj z1;have vd:vs[i]? =aA w':=by
      cases hq:vs[i]? with
      |none=>rw[hq]at UX;cases UX
      |some v2=>rw[hq]at UX;simp at UX;rw[UX]
     exact⟨jj,b1,g4 i jj w' hjj vd,b2,b3⟩
    .refine Zp (a3.settleR a4) λF6 gA sr6 w9=>?_;refine Y9 (sr6.frzR w9 f3) λF7 VI h_ wg JR=>?_;exact⟨a1,JR.mono wg.le⟩
    .obtain⟨kv,H4,os,bare,un,hok,rk,wo,rep⟩:=z;refine⟨kv,H4,wo,?_,un,rk,by rw[ek];exact rep⟩;obtain⟨hh,gg,dd,tt,JU⟩:=s4;obtain rfl:JU=s3.os:=os;exact I3.call (h':=hh) (g':=gg) (d':=dd) (t':=tt) (ch:=[]) un hok bare (λb z=>dM z (by simp))
   case hQ=>
    intro H3 s3 v3 sm3 I3 rv3;have sr6:=sr5.grow sm3;cases m with
    |none=>exact⟨.non,H3,I3,rv3,k .non H3 F4 ZU ((MQ.trans W_).trans sm3) (((DQ.trans DP).trans DO).trans JN) sr6 ⟨[],eW.fz .non⟩⟩
    |some i=>
     have hi:i<xs.length:=by have:=nj e9;omega
     exact⟨ws.getD i .non,H3,I3,rv3,k _ H3 F4 ZU ((MQ.trans W_).trans sm3) (((DQ.trans DP).trans DO).trans JN) sr6 ⟨[],eW.fz (Ml rws i hi)⟩⟩
 |_=>cases e4
end
section
open PySem.Calls
section
variable{X:Cx}{Z:eM X.K}{a b:da}{fa fb:FE}{pos:Pos}
theorem qm(x){params}{p1 lp kp np np2}{ck}(hr:eT 2 X.A)(hv:X.A.units+64<f9)(h1:X.mg "min"=aB)(C:PySem.W.CodeHd X.base c P)(hT:Z.h P=aA (.tab q))(B:Bw X.mg X.base)(ha:PE X a (Ze Z fa))(hb:∀f c A s1 H1 F1,(cxL X [x] q sc f c [] A s1 H1).A.units+1<f9->PE (cxL X [x] q sc f c [] A s1 H1) body (Ze (ent H1 F1:eM X.K) fb))(hc:‹X.calm=aC›)(YV:‹X.env.code= .ref c›)(hq:‹X.env.qual++ "<lambda>"=q›)(S:LamS x [] sc)(YG:‹closureFor sc X.env=pure []›)(UA:‹defaultsOf params X.env=([],[])›)(YQ:∀cl pm c WE u,bindArgs (PySem.W.kla_fn "<lambda>" q params body sc cl pm (.ref c) WE) ⟨[u],[]⟩=pure [(x,u)])(has:‹BX sc.names []=aC›)(g1:‹Gl X "min"›)(Y':‹bd [a] X.env=(aD,ip a X.env)::bd [] X.env›)(VQ:‹(gd pos (bd [] X.env)).any (·.1)=aD›):
  PE X (.Call (.Name "min" p1) [a] [⟨aA "key",.Lambda params body sc lp,kp⟩,⟨aA "default",.Constant .none ck np,np2⟩] pos) (Ze Z (EQ fa [] fb)):=
 L2.qo (fs:=[]) (js:=[]) hr hc hv h1 YV C hT hq B S YG UA YQ (λ_ _ h=>by cases h) (λy e=>qt has y e) rfl (λi j y h=>by simp at h) ha hb g1 Y' VQ
end
end
section
open PySem.Calls
end
section
open PySem.Calls
open PySem.W (kas_sort kas_ask kas_item kat_run kat_snds)
theorem jx{σ:L2.St}{Q:ag->am->Prop}(I:eG X eB σ H s)(h64:eC.length<64)(rv:Z5 kvs eC)(hk:∀j kv,kvs[j]? =aA kv->KeyOk j kv H)(hc:Cmp X eB σ H X.A.in1.in1 KeyOk O key eC.length)(hQ:∀p D s' c,Pm eC.length p->Ph key p eC.length->X.s₀.heap.get? D=aB->eG X eB σ H s'->Jf X eB H D->s'.heap.get? D=aA (d5 "list" (List.toArray (p.toList.map λi=>eC.getD i de)) c)->Q (.ref D) s'):
  bh (b9 X.prog X.w) X.A.in1 (do
   let l<-newList eC;let _<-holding [l] (call (.builtin "list.sort") [l] [])
   ret l) (λfin s'=>∃v,fin= .done (.ret v)/\Q v s') E s:=by
 refine aa (wpAny_newList ?_ (by rw[gp];omega));have XY:(s.heap.push (d5 "list" eC.toArray 0)).get? s.heap.objs.size=aA (d5 "list" eC.toArray 0):=bi _ rfl;have keep:∀b o,s.heap.get? b=aA o->(s.heap.push (d5 "list" eC.toArray 0)).get? b=aA o:=λb o q=>aq _ q;refine aa (gn (d8 (s:={s with heap:=s.heap.push (d5 "list" eC.toArray 0)}) slot_list_sort ⟨_,XY,rfl⟩ entry_list_sort ?body (args_list_sort _)))
 case body=>
  rw[list_sort_plain];have XX:(s.heap.push (d5 "list" eC.toArray 0)).objs.size=s.heap.objs.size+1:=size_push' ..;generalize hh:(s.heap.push (d5 "list" eC.toArray 0))=h1 at XY keep XX⊢;generalize hD:s.heap.objs.size=D at XY⊢;have uQ: @Eq Nat D s.heap.objs.size:=hD.symm;obtain⟨e1,ho1⟩:∃e1,(h1.update D (d6 λ_=>(#[]:Array ag))).get? D=aA (d5 "list" #[] e1):=⟨_,get?_update_seq XY λ_=> #[]⟩
  refine aa (listItems_at XY rfl ?_);refine aa (listUpdate_at XY rfl ?_ (by rw[bq,gp];omega) (gq _));refine aa (seqEpoch_at ho1 rfl ?_);refine aa (wpAny_newTuple ?_ (by show eC.length<=_;rw[gp];omega));refine aa (wpAny_newList ?_ (gq _));refine gn ?_;have kp:∀b o,s.heap.get? b=aA o->(((h1.update D (d6 λ_=>(#[]:Array ag))).push (d5 "tuple" eC.toArray 0)).push (d5 "list" #[] 0)).get? b=aA o:=λb o q=>by have ZM: @LT.lt Nat _ b s.heap.objs.size:=bj q;have:=keep b o q;refine aq _ (aq _ ?_);rw[Heap.get?_update_ne _ _ _ _ (cj (show @LT.lt Nat _ b D by omega))];exact this
  have nD:H D=aB:=I.hok.fresh (by omega);have fD:Jf X eB H D:=I.fpOk (by omega) nD;have XZ:(((h1.update D (d6 λ_=>(#[]:Array ag))).push (d5 "tuple" eC.toArray 0)).push (d5 "list" #[] 0)).get? D=aA (d5 "list" #[] e1):=aq _ (aq _ ho1);have I6:eG X eB σ H {s with heap:=((h1.update D (d6 λ_=>(#[]:Array ag))).push (d5 "tuple" eC.toArray 0)).push (d5 "list" #[] 0)}:=I.kept kp;show bh (b9 X.prog X.w) X.A.in1.in1 _ _ _ {s with heap:=((h1.update D (d6 λ_=>(#[]:Array ag))).push (d5 "tuple" eC.toArray 0)).push (d5 "list" #[] 0)};have RZ:X.s₀.heap.get? D=aB:=Heap.get?_none_of_le (dm I.sz (by omega));generalize hs6:({s with heap:=((h1.update D (d6 λ_=>(#[]:Array ag))).push (d5 "tuple" eC.toArray 0)).push (d5 "list" #[] 0)}:am)=s6 at I6⊢;have XZ:s6.heap.get? D=aA (d5 "list" #[] e1):=by rw[<-hs6];exact XZ
  have fin:∀(p:Array Nat) (out:Array ag),out=List.toArray (p.toList.map λi=>eC.getD i de)->out.size<64->Pm eC.length p->Ph key p eC.length->
    Q (.ref D) {s6 with heap:=s6.heap.update D (d6 λ_=>out)}:=λp out ho hz z1 z2=>by
   subst ho;exact hQ p D _ _ z1 z2 RZ (Ar (o:=d5 "list" #[] 0) (xs:= #[]) (ys:= #[]) (n:=0) I6 fD) fD (get?_update_seq XZ λ_=>_)
  try dsimp only
  by_cases h2:eC.toArray.size<2
  .rw[dG h2,dG h2];have VC:eC.length<2:=by simpa using h2
   refine aa (ad ?_);rw[StateT.run_pure];refine aa (ad ?_)
   try dsimp only
   have eo:(arrOf (SortSt.mk' general' (eC.toArray.zip eC.toArray) #[] 7 aB)).map (·.2)=List.toArray ((List.toArray (c6 eC.length)).toList.map λi=>eC.getD i de):=by
    show(eC.toArray.zip eC.toArray).map (·.2)=_;apply Array.toList_inj.mp;rw[Array.toList_map,ksk_zip];simp only[List.toList_toArray];rw[List.map_snd_zip (by omega)];apply List.ext_getElem
    .simp
    .intro i a b;simp[a]
   rw[eo];refine aa (seqEpoch_at XZ rfl ?_);refine aa (listUpdate_at XZ rfl ?_ (gq _) (by rw[bq,gp];simp;omega));show bh _ _ (if((e1 !=e1)=aC)then _ else _) _ _ _;simp only[bne_self_eq_false,bx,if_false];refine ad ⟨_,rfl,ad ⟨_,rfl,fin (List.toArray (c6 eC.length)) _ rfl (by simp;omega) (Array.Perm.refl _) (λi j YS hj=>?_)⟩⟩;have:i=j:=by omega
   subst this;exact KeyOrd.kle_refl _
  .rw[dF h2,dF h2];have VC:2<=eC.length:=Nat.le_of_not_lt (by simpa using h2);obtain⟨κ,IM,ZM⟩:=hc H s6 eC kvs (Zk.refl H) I6 rv rfl hk VC;refine aa (g9 (IM (λSF s'=>SF=κ/\s'=s6) ⟨rfl,rfl⟩) (λSF s' z=>?_) λ_ _ z=>z.elim);obtain⟨rfl,rfl⟩:=z;have g:=W9.wp (lt:=Kh O key) (n:=eC.length) (R:=λq=>Pm eC.length q/\Ph key q eC.length) (cmp:=kas_ask X.prog X.w X.A.in1.in1 SF eC) (I:=λYA=>YA=s') (Q:=λq YA=>YA=s'/\Pm eC.length q/\Ph key q eC.length)
    (λi j C YA hi hj z hC=>by subst z;exact ZM i j C hi hj (hC _ rfl)) (λq YA z1 z2=>⟨z2,z1⟩) (Ln (key:=key) (by omega)) rfl
   refine aa (g9 (kat_run (Q:=λst YA=>∃p:Array Nat,YA=s'/\Pm eC.length p/\Ph key p eC.length/\arrOf st=p.map (kas_item (eC.toArray.zip eC.toArray))/\failedOf st=aB) rfl VC h64
    (λp st YA _ a1 a2 z=>⟨p,z.1,z.2.1,z.2.2,a1,a2⟩) g) (λr YA z=>?_) λ_ _ z=>z)
   obtain⟨⟨⟩,st⟩:=r;obtain⟨p,rfl,z1,z2,z3,z4⟩:=z
   try dsimp only
   rw[kat_snds rfl z3];refine aa (seqEpoch_at XZ rfl ?_);refine aa (listUpdate_at XZ rfl ?_ (gq _) (by rw[bq,ah,ba,z1.size,gp];omega));rw[z4];simp only[bne_self_eq_false,bx,if_false];exact ad ⟨_,rfl,ad ⟨_,rfl,fin p _ rfl (by rw[bq,ah,ba,z1.size];exact h64) z1 z2⟩⟩
end
section
open PySem.Calls
end
section
open PySem.Calls
abbrev zI(k:List Key):D:=.tup (k.map Ah)
end
noncomputable def rH(n:Nat)(g:FGs):FG:=⟨λd δ=>match d with
 | .lst xs=>if xs.length=n then g.run xs δ else aB
 |_=>aB,g.tch⟩
@[simp]theorem fM(n g xs δ):(rH n g).run (.lst xs) δ=if xs.length=n then g.run xs δ else none:=rfl
section
open PySem.SetTable
noncomputable def Df(m:Nat)(p:Probe):Probe:=
 if p.more > 0 then{p with j:=p.j+1,more:=p.more- 1}else
 {p with j:=(leap m p.i p.perturb).1,more:=runEnd m (leap m p.i p.perturb).1- (leap m p.i p.perturb).1,i:=(leap m p.i p.perturb).1,perturb:=(leap m p.i p.perturb).2}
theorem ql(t:fj)(p:Probe):t.advance p=Df t.mask p:=rfl
def Ws(m:Nat):Nat->Probe->Probe
 |0,p=>p
 |n+1,p=>Ws m n (Df m p)
theorem Jj(m):∀a b p,Ws m (a+b) p=Ws m b (Ws m a p)
 |0,b,p=>by rw[Nat.zero_add];rfl
 |a+1,b,p=>by rw[Nat.add_right_comm];exact Jj m a b (Df m p)
noncomputable def Mn(m i q:Nat):Probe:={j:=i,more:=runEnd m i- i,i:=i,perturb:=q,dummy:=aB}
theorem xa(m)(p:Probe):(Df m p).dummy=p.dummy:=by unfold Df;split<;> rfl
theorem Vw(m):∀n p,(Ws m n p).dummy=p.dummy
 |0,_=>rfl
 |n+1,p=>(Vw m n (Df m p)).trans (xa m p)
theorem qk(m i):runEnd m i- i<=9:=by unfold runEnd;split<;> omega
theorem yO(h:i<=m):runEnd m i<=m:=by unfold runEnd;split<;> omega
theorem Pn(m i):i<=runEnd m i:=by unfold runEnd;split<;> omega
theorem U8:∀{k:Nat},k<=runEnd m i- i->Ws m k (Mn m i q)={j:=i+k,more:=runEnd m i- i- k,i:=i,perturb:=q,dummy:=aB}
 |0,_=>rfl
 |k+1,h=>by rw[Jj m k 1,U8 (by omega)];show Df m _=_;unfold Df;rw[dG (by show runEnd m i- i- k > 0;omega)];rfl
theorem Ci(m i q):Ws m (runEnd m i- i+1) (Mn m i q)=Mn m (leap m i q).1 (leap m i q).2:=by rw[Jj m _ 1,U8 (bf _)];show Df m _=_;unfold Df;rw[dF (by show¬runEnd m i- i- (runEnd m i- i) > 0;omega)];rfl
noncomputable def Uw(m:Nat):Nat->Nat×Nat->Nat×Nat
 |0,x=>x
 |n+1,x=>Uw m n (leap m x.1 x.2)
theorem Ls(m):∀a b x,Uw m (a+b) x=Uw m b (Uw m a x)
 |0,b,x=>by rw[Nat.zero_add];rfl
 |a+1,b,x=>by rw[Nat.add_right_comm];exact Ls m a b _
theorem Vx:∀n x,x.1<=m->(Uw m n x).1<=m
 |0,_,h=>h
 |n+1,x,_=>Vx n _ (Nat.le_of_lt_succ (Nat.mod_lt (x.1*5+1+x.2 / 32) (Nat.succ_pos m)))
theorem Lu(m):∀n x,(Uw m n x).2=x.2 / 32^n
 |0,x=>by simp[Uw]
 |n+1,x=>by show(Uw m n (leap m x.1 x.2)).2=_;rw[Lu m n];show x.2 / 32 / 32^n=_;rw[Nat.div_div_eq_div_mul,Nat.pow_succ,Nat.mul_comm]
noncomputable def orb(m:Nat):Nat->Nat->Nat
 |0,_=>0
 |n+1,i=>(1<<<i)|||orb m n ((i*5+1) % (m+1))
theorem xZ:∀n i j,(orb m n i).testBit j=aC->∃c,c<n/\(Uw m c (i,0)).1=j
 |0,i,j,h=>by simp[orb]at h
 |n+1,i,j,h=>by
  unfold orb at h;rw[Nat.testBit_or,Bool.or_eq_true]at h;rcases h with h|h
  .refine⟨0,by omega,?_⟩;rw[Nat.one_shiftLeft,Nat.testBit_two_pow]at h;show i=j;exact dL h
  .obtain⟨c,hc,e⟩:=xZ n _ j h;refine⟨c+1,by omega,?_⟩;show(Uw m c (leap m i 0)).1=j;have:leap m i 0=((i*5+1) % (m+1),0):=by simp[leap]
   rw[this];exact e
def Msk(m:Nat):Prop:=m=7\/m=31\/m=127
theorem nh(h:Msk m):(c6 (m+1)).all (λi=>orb m (m+1) i==2^(m+1)- 1)=aC:=by rcases h with rfl|rfl|rfl<;> decide+kernel
theorem zn(h:Msk m)(hi:i<=m)(hq:q<2^64)(hj:j<=m):∃c,c<m+15/\(Uw m c (i,q)).1=j:=by
 have GZ:(Uw m 13 (i,q)).2=0:=by rw[Lu];exact Nat.div_eq_of_lt (df hq (by decide))
 have hle:=Vx (m:=m) 13 (i,q) hi;generalize hx:Uw m 13 (i,q)=x at GZ hle;obtain⟨a,b⟩:=x;simp only at GZ hle;subst GZ;have ho:=List.all_eq_true.mp (nh h) a (c8.mpr (by omega));have ho:orb m (m+1) a=2^(m+1)- 1:=by simpa using ho
 obtain⟨c,hc,e⟩:=xZ (m+1) a j (by rw[ho,Nat.testBit_two_pow_sub_one];simpa using by omega);exact⟨13+c,by omega,by rw[Ls,hx];exact e⟩
theorem yN(m):∀c i q,∃n,n<=10*c/\Ws m n (Mn m i q)=Mn m (Uw m c (i,q)).1 (Uw m c (i,q)).2
 |0,i,q=>⟨0,by omega,rfl⟩
 |c+1,i,q=>by obtain⟨n,hn,e⟩:=yN m c (leap m i q).1 (leap m i q).2;refine⟨runEnd m i- i+1+n,by have:=qk m i;omega,?_⟩;rw[Jj,Ci,e];rfl
abbrev Jv(m:Nat)(h:Int):Probe:=Mn m (bits h % (m+1)) (bits h)
theorem fL(t:fj)(h):t.probeStart h=Jv t.mask h:=rfl
theorem xY(h):bits h<2^64:=by unfold bits;have h1:=f7 h (show(0:Int)<2^64 by decide);have h2:=g6 h (show(2^64:Int)≠0 by decide);omega
theorem rG(hm:Msk m)(h)(hj:j<=m):∃n,n<10*turns m/\(Ws m n (Jv m h)).j=j:=by obtain⟨c,hc,e⟩:=zn (q:=bits h) hm (Nat.le_of_lt_succ (Nat.mod_lt (bits h) (Nat.succ_pos m))) (xY h) hj;obtain⟨n,hn,e2⟩:=yN m c (bits h % (m+1)) (bits h);exact⟨n,by unfold turns;omega,by rw[e2];exact e⟩
abbrev sq(m:Nat)(h:Int)(n:Nat):Nat:=(Ws m n (Jv m h)).j
theorem xX:∀n p,p.i<=m->p.j+p.more<=m->(Ws m n p).j<=m
 |0,p,_,h=>by show p.j<=m;omega
 |n+1,p,hi,h=>by
  refine xX n (Df m p) ?_ ?_
  .unfold Df;split
   .exact hi
   .exact Nat.le_of_lt_succ (Nat.mod_lt (p.i*5+1+p.perturb / 32) (Nat.succ_pos m))
  .unfold Df;split
   .show p.j+1+(p.more- 1)<=m;omega
   .have hl:(leap m p.i p.perturb).1<=m:=Nat.le_of_lt_succ (Nat.mod_lt (p.i*5+1+p.perturb / 32) (Nat.succ_pos m));have:=yO hl;have:=Pn m (leap m p.i p.perturb).1;show(leap m p.i p.perturb).1+(runEnd m (leap m p.i p.perturb).1- (leap m p.i p.perturb).1)<=m;omega
theorem EO(m h n):sq m h n<=m:=by have h1:bits h % (m+1)<=m:=Nat.le_of_lt_succ (Nat.mod_lt _ (Nat.succ_pos m));refine xX n _ h1 ?_;have:=yO h1;have:=Pn m (bits h % (m+1));show bits h % (m+1)+(runEnd m (bits h % (m+1))- bits h % (m+1))<=m;omega
theorem Tg{t:fj}(hr:Ce t.place.toList)(h:t.place[i]? =aA j):t.slot j= .live i:=by
 have hi:i<t.place.size:=(gu.mp h).1;have a:At t.place j i:=by
  refine⟨by omega,λk y hk e=>Cf hr e h hk,λk y hk e=>?_⟩;rcases Nat.lt_or_eq_of_le hk with z|z
  .exact Nat.le_of_lt (Cf hr h e z)
  .subst z;rw[h]at e;cases e;exact bf _
 have e:=wJ (Ia hr j) a;unfold SetTable.slot;dsimp only;rw[e,h,dG (by simp)]
theorem Po{t:fj}(h:t.slot j= .live i):t.place[i]? =aA j:=by
 unfold SetTable.slot at h;dsimp only at h;split at h
 .rename_i e;cases h;simpa using e
 .split at h<;> cases h
theorem xW{t:fj}(hr:Ce t.place.toList)(h:t.slot j= .empty):j∉t.place.toList:=λz=>by
 obtain⟨i,hi,e⟩:=dy z;have:t.place[i]? =aA j:=by rw[<-dh,aw];exact⟨hi,e⟩
 rw[Tg hr this]at h;cases h
theorem Ip{t:fj}(hd:t.dummies= #[])(j):t.slot j= .empty\/∃i,t.slot j= .live i:=by
 unfold SetTable.slot;dsimp only;split
 .exact .inr ⟨_,rfl⟩
 .rw[hd,Aq];exact .inl (by simp)
theorem Iq{t:fj}(hd:t.dummies= #[])(h:j∉t.place.toList):t.slot j= .empty:=by
 rcases Ip hd j with z|⟨i,z⟩
 .exact z
 .have:=Po z;rw[<-dh]at this;exact dM (bz this) h
theorem xV(hd:t.dummies= #[])(f h):∀fuel p,p.dummy=aB->(∃n,n<fuel/\t.slot (Ws t.mask n p).j= .empty)->
  (∃n,n<fuel/\SetTable.probe.go t f h fuel p=aA (.empty (Ws t.mask n p).j aB)/\t.slot (Ws t.mask n p).j= .empty/\∀k,k<n->∃i,t.slot (Ws t.mask k p).j= .live i/\f i≠h)\/
  (∃n i,n<fuel/\SetTable.probe.go t f h fuel p=aA (.candidate (Ws t.mask n p).j i (Ws t.mask (n+1) p))/\t.slot (Ws t.mask n p).j= .live i/\f i=h/\∀k,k<n->∃i,t.slot (Ws t.mask k p).j= .live i/\f i≠h)
 |0,p,_,⟨n,hn,_⟩=>dM hn (f6 _)
 |fuel+1,p,hp,⟨n,hn,he⟩=>by
  unfold SetTable.probe.go;rcases Ip hd p.j with hs|⟨i,hs⟩
  .refine .inl ⟨0,by omega,?_,hs,λk hk=>dM hk (f6 _)⟩;rw[hs];show aA (Met.empty p.j p.dummy)=_;rw[hp];rfl
  .rw[hs];dsimp only;by_cases hf:f i=h
   .refine .inr ⟨0,i,by omega,?_,hs,hf,λk hk=>dM hk (f6 _)⟩;rw[dG (by simpa using hf)];rfl
   .rw[dF (by simpa using hf),ql];cases n with
    |zero=>have he:t.slot p.j= .empty:=he;rw[hs]at he;cases he
    |succ n=>
     have first:∀n,(∀k,k<n->∃i,t.slot (Ws t.mask k (Df t.mask p)).j= .live i/\f i≠h)->∀k,k<n+1->∃i,t.slot (Ws t.mask k p).j= .live i/\f i≠h:=λn a k hk=>by
      cases k with
      |zero=>exact⟨i,hs,hf⟩
      |succ k=>exact a k (by omega)
     rcases xV hd f h fuel (Df t.mask p) ((xa _ _).trans hp) ⟨n,by omega,he⟩with⟨n',h1,h2,h3,h4⟩|⟨n',i',h1,h2,h3,h4,h5⟩
     .exact .inl ⟨n'+1,by omega,h2,h3,first n' h4⟩
     .exact .inr ⟨n'+1,i',by omega,h2,h3,h4,first n' h5⟩
def Lk(m:Nat)(pl:List Nat)(h:Int)(j:Nat):Prop:=∃n,sq m h n=j/\∀k,k<n->sq m h k∈pl
theorem Lk.mono(hs:∀x∈pl,x∈ZV)(l:Lk m pl h j):Lk m ZV h j:=let⟨n,a,b⟩:=l;⟨n,a,λk hk=>hs _ (b k hk)⟩
structure Tb(t:fj)(hs:List Int):Prop where
 dum:t.dummies= #[]
 msk:Msk t.mask
 rise:Ce t.place.toList
 le:∀j∈t.place.toList,j<=t.mask
 len:t.place.toList.length=hs.length
 room:hs.length<=t.mask
 look:∀e∈hs.zip t.place.toList,Lk t.mask t.place.toList e.1 e.2
theorem Tb.fits(b:Tb t hs)(hn:n=hs.length):t.fits n=aC:=by
 have h1:=b.len;have h2:=b.room;have h3:t.place.size=hs.length:=by rw[<-h1,ba]
 unfold SetTable.fits SetTable.fill;rw[b.dum,h3,hn];simp;omega
theorem Tb.gave(b:Tb t hs):t.gaveWay=aD:=by unfold SetTable.gaveWay;rcases b.msk with e|e|e<;> rw[e]<;> rfl
theorem Rp(h:Ce l):l.Nodup:=h.imp λz=>cj z
theorem xU{pl:List Nat}(nd:pl.Nodup)(hl:pl.length<=m):∃j,j<=m/\j∉pl:=by apply Classical.byContradiction;intro hn;have all:∀j,j<=m->j∈pl:=λj hj=>Classical.byContradiction λz=>hn ⟨j,hj,z⟩;have:(c6 (m+1)).length<=pl.length:=c9 List.nodup_range λj hj=>all j (by have:=c8.mp hj;omega);rw[List.length_range]at this;omega
theorem Tb.empty(b:Tb t hs)(h):∃n,n<10*turns t.mask/\t.slot (sq t.mask h n)= .empty:=by obtain⟨j,hj,hn⟩:=xU (Rp b.rise) (by rw[b.len];exact b.room);obtain⟨n,h1,h2⟩:=rG b.msk h hj;exact⟨n,h1,by show t.slot (Ws t.mask n (Jv t.mask h)).j= .empty;rw[h2];exact Iq b.dum hn⟩
theorem Tb.fresh(f m l):Tb (SetTable.fresh f m l) []:=⟨rfl,.inl rfl,List.Pairwise.nil,(λ_ z=>nomatch z),rfl,gq _,(λ_ z=>nomatch z)⟩
theorem ng{α β:Type}(p){as:List α}{bs}(h:as.length=bs.length)(a)(b:β):(as.take p++a::as.drop p).zip (bs.take p++b::bs.drop p)=(as.zip bs).take p++(a,b)::(as.zip bs).drop p:=by rw[List.zip_append (by simp[h]),List.zip_cons_cons];simp only[List.zip_eq_zipWith,List.take_zipWith,List.drop_zipWith]
theorem Tb.put(b:Tb t hs)(h)(he:t.slot (sq t.mask h n)= .empty)(hb:∀k,k<n->t.slot (sq t.mask h k)≠.empty)(hr:hs.length+1<=t.mask):
  Tb (t.put (sq t.mask h n)).1 (hs.take (below t.place (sq t.mask h n))++h::hs.drop (below t.place (sq t.mask h n))):=by
 have hn:t.place[SetTable.below t.place (sq t.mask h n)]?≠aA (sq t.mask h n):=λz=>by rw[Tg b.rise z]at he;cases he
 have hni:=xW b.rise he;have GO:∀k,k<n->sq t.mask h k∈t.place.toList:=λk hk=>Classical.byContradiction λz=>hb k hk (Iq b.dum z);have hjle:=EO t.mask h n;have NB:Lk t.mask t.place.toList h (sq t.mask h n):=⟨n,rfl,GO⟩
 generalize sq t.mask h n=j at*;have ZI:(t.put j).1.place.toList=t.place.toList.take (below t.place j)++j::t.place.toList.drop (below t.place j):=SetTable.toList_insertAt _ _ _;have hsub:∀x∈t.place.toList,x∈(t.put j).1.place.toList:=λx hx=>by
  rw[ZI];rw[<-List.take_append_drop (below t.place j) t.place.toList]at hx;rcases bo.mp hx with z|z
  .exact bu _ z
  .exact bp _ (ao _ z)
 have hm:(t.put j).1.mask=t.mask:=rfl;refine⟨?_,by rw[hm];exact b.msk,Vm b.rise hn,λx hx=>?_,?_,?_,λe LJ=>?_⟩
 .show(if has t.dummies j then _ else t.dummies)= #[];rw[b.dum,Aq];rfl
 .rw[hm];rw[ZI]at hx;rcases bo.mp hx with z|z
  .exact b.le x (List.mem_of_mem_take z)
  .rcases b7.mp z with z|z
   .rw[z];exact hjle
   .exact b.le x (List.mem_of_mem_drop z)
 .rw[ZI];have:=b.len;simp only[av,List.length_take,bc,List.length_drop];omega
 .rw[hm];simp only[av,List.length_take,bc,List.length_drop];omega
 .rw[ZI,ng _ b.len.symm]at LJ;rw[hm];rcases bo.mp LJ with z|z
  .exact(b.look e (List.mem_of_mem_take z)).mono hsub
  .rcases b7.mp z with z|z
   .rw[z];exact NB.mono hsub
   .exact(b.look e (List.mem_of_mem_drop z)).mono hsub
theorem Tb.plainOff(b:Tb t hs):Tb {t with plain:=aD} hs:=⟨b.dum,b.msk,b.rise,b.le,b.len,b.room,b.look⟩
end
section
open PySem.SetTable
def Ow(owner:Array (Option Nat))(j:Nat):Prop:=(owner.getD j (aA 0)).isNone=aD
theorem Lv:∀fuel i q,(∃c,c<fuel/\¬Ow owner (Uw m c (i,q)).1)->
  ∃n,layClean.free m owner fuel i q=aA (Ws m n (Mn m i q)).j/\¬Ow owner (Ws m n (Mn m i q)).j/\∀k,k<n->Ow owner (Ws m k (Mn m i q)).j
 |0,i,q,⟨c,hc,_⟩=>dM hc (f6 _)
 |fuel+1,i,q,⟨c,hc,hn⟩=>by
  unfold layClean.free;cases hf:(c6 (runEnd m i+1- i)).find? λk=>(owner.getD (i+k) (aA 0)).isNone with
  |some k=>
   have hk:=List.find?_range_eq_some.mp hf;have hr:=Pn m i;have hkl:k<=runEnd m i- i:=by have:=c8.mp hk.2.1;omega
   refine⟨k,?_,?_,λk' XO=>?_⟩
   .rw[U8 hkl]
   .rw[U8 hkl];intro z;unfold Ow at z;dsimp only at z;rw[hk.1]at z;cases z
   .rw[U8 (by omega)];have:=hk.2.2 k' XO;unfold Ow;dsimp only;simpa using this
  |none=>
   have hall:=List.find?_eq_none.mp hf;have hr:=Pn m i;have own:∀k,k<=runEnd m i- i->Ow owner (i+k):=λk hk=>by
    have:=hall k (c8.mpr (by omega));unfold Ow;cases z:(owner.getD (i+k) (aA 0)).isNone with
    |false=>rfl
    |true=>exact dM z this
   cases c with
   |zero=>exact dM (own 0 (gq _)) hn
   |succ c=>
    obtain⟨n,h1,h2,h3⟩:=Lv fuel (leap m i q).1 (leap m i q).2 ⟨c,by omega,hn⟩;refine⟨runEnd m i- i+1+n,?_,?_,λk hk=>?_⟩
    .rw[Jj,Ci];exact h1
    .rw[Jj,Ci];exact h2
    .by_cases hk2:k<=runEnd m i- i
     .rw[U8 hk2];exact own k hk2
     .have e:k=runEnd m i- i+1+(k- (runEnd m i- i+1)):=by omega
      rw[e,Jj,Ci];exact h3 _ (by omega)
structure Ly(m:Nat)(hs:List Int)(owner:Array (Option Nat))(js:List Nat):Prop where
 size:owner.size=m+1
 len:js.length=hs.length
 nd:js.Nodup
 le:∀j∈js,j<=m
 own:∀j k,j<=m->(owner.getD j aB=aA k↔js[k]? =aA j)
 look:∀e∈hs.zip js,Lk m js e.1 e.2
theorem Ly.ow(l:Ly m hs owner js)(hj:j<=m):Ow owner j↔j∈js:=by
 have hs:j<owner.size:=by rw[l.size];omega
 have e1:owner.getD j (aA 0)=owner[j]:=by simp[Array.getD,hs]
 have e2:owner.getD j aB=owner[j]:=by simp[Array.getD,hs]
 unfold Ow;rw[e1];constructor
 .intro h;cases z:owner[j]with
  |none=>rw[z]at h;cases h
  |some k=>exact bz ((l.own j k hj).mp (by rw[e2];exact z))
 .intro h;obtain⟨k,hk,e⟩:=dy h;have:=(l.own j k hj).mpr (aw.mpr ⟨hk,e⟩);rw[e2]at this;rw[this];rfl
theorem Ly.nil(m):Ly m [] (Array.replicate (m+1) aB) []:=by
 refine⟨by simp,rfl,c7,(λ_ z=>nomatch z),λj k hj=>?_,(λ_ z=>nomatch z)⟩;have:(Array.replicate (m+1) (aB:Option Nat)).getD j aB=aB:=by simp[Array.getD]
 rw[this];simp
theorem Ly.step(hm:Msk m)(l:Ly m hs owner js)(hl:hs.length<=m)(h):
  ∃j,layClean.free m owner (turns m) (bits h % (m+1)) (bits h)=aA j/\Ly m (hs++[h]) (owner.setIfInBounds j (aA hs.length)) (js++[j]):=by
 obtain⟨j0,CV,vx⟩:=xU l.nd (by rw[l.len];exact hl);obtain⟨c,hc,e⟩:=zn (q:=bits h) hm (Nat.le_of_lt_succ (Nat.mod_lt (bits h) (Nat.succ_pos m))) (xY h) CV;obtain⟨n,h1,h2,h3⟩:=Lv (m:=m) (owner:=owner) (turns m) (bits h % (m+1)) (bits h) ⟨c,hc,by rw[e,l.ow CV];exact vx⟩;have hle:=EO m h n;have NB:Lk m js h (sq m h n):=⟨n,rfl,λk hk=>(l.ow (EO m h k)).mp (h3 k hk)⟩
 have CI:sq m h n∉js:=λz=>h2 ((l.ow hle).mpr z);refine⟨sq m h n,h1,?_⟩;generalize sq m h n=j at*;have hsz:j<owner.size:=by rw[l.size];omega
 refine⟨by simp[l.size],by simp[l.len],cz.mpr ⟨l.nd,by simp,λa ha b hb=>?_⟩,λx hx=>?_,λx k hx=>?_,λe he=>?_⟩
 .rw[aj.mp hb];exact λz=>CI (z▸ha)
 .rcases bo.mp hx with z|z
  .exact l.le x z
  .rw[aj.mp z];exact hle
 .by_cases OU:x=j
  .subst OU;have:(owner.setIfInBounds x (aA hs.length)).getD x aB=aA hs.length:=by simp[Array.getD,hsz]
   rw[this];constructor
   .intro z;cases z;rw[<-l.len];simp
   .intro z;by_cases hk:k<js.length
    .rw[ci hk]at z;exact dM (bz z) CI
    .have hk2:=(aw.mp z).1;rw[av,fu]at hk2;rw[<-l.len,show k=js.length by omega]
  .have hxs:x<owner.size:=by rw[l.size];omega
   have:(owner.setIfInBounds j (aA hs.length)).getD x aB=owner.getD x aB:=by simp[Array.getD,hxs,Array.getElem_setIfInBounds,Ne.symm OU]
   rw[this,l.own x k hx];by_cases hk:k<js.length
   .rw[ci hk]
   .rw[d3 (by omega)];constructor
    .intro z;cases z
    .intro z;have hk2:=(aw.mp z).1;rw[av,fu]at hk2;have:k=js.length:=by omega
     subst this;rw[dr (bf _)]at z;simp at z;exact dM z.symm OU
 .rw[List.zip_append l.len.symm]at he;rcases bo.mp he with z|z
  .exact(l.look e z).mono λx hx=>bu _ hx
  .simp at z;rw[z];exact NB.mono λx hx=>bu _ hx
theorem xS(hm:Msk m):∀rest hs owner js,Ly m hs owner js->hs.length+rest.length<=m+1->
  ∃YZ IJ,rest.foldl (λ acc h=>do
   let(owner,k)<-acc;let j<-layClean.free m owner (turns m) (bits h % (m+1)) (bits h)
   pure (owner.setIfInBounds j (aA k),k+1)) (aA (owner,hs.length))=aA (YZ,(hs++rest).length)/\Ly m (hs++rest) YZ IJ
 | [],hs,owner,js,l,_=>⟨owner,js,by simp,by simpa using l⟩
 |h::rest,hs,owner,js,l,hl=>by
  obtain⟨j,e,l2⟩:=l.step hm (by simp only[bc]at hl;omega) h;obtain⟨YZ,IJ,e2,l3⟩:=xS hm rest (hs++[h]) _ _ l2 (by simp only[av,bc,List.length_nil]at hl⊢;omega);refine⟨YZ,IJ,?_,by simpa using l3⟩;rw[List.foldl_cons];have z:(do
   let(owner,k)<-(aA (owner,hs.length):Option (Array (Option Nat)×Nat));let j<-layClean.free m owner (turns m) (bits h % (m+1)) (bits h)
   pure (owner.setIfInBounds j (aA k),k+1))=aA (owner.setIfInBounds j (aA hs.length),(hs++[h]).length):=by
   show(layClean.free m owner (turns m) (bits h % (m+1)) (bits h) >>=λj=>pure (owner.setIfInBounds j (aA hs.length),hs.length+1))=_;rw[e];simp
  rw[z,e2];simp
theorem jw{t:fj}{es:Array (Int×ag)}(hm:Msk (sizeAbove wanted- 1))(hl:es.size<=sizeAbove wanted- 1):
  ∃t' ZT,t.relaid (es.map λ e=>e.1) wanted=aA (t',ZT)/\t'.led=t.led/\(ZT.filterMap λi=>es[i]?).toList.Perm es.toList/\Tb t' ((ZT.filterMap λi=>es[i]?).toList.map λ e=>e.1):=by
 unfold SetTable.relaid SetTable.laid SetTable.layClean;generalize sizeAbove wanted- 1=m at*;have CD:(es.map (·.1)).toList.length=es.size:=by simp
 obtain⟨owner,js,e,l⟩:=xS hm (es.map λe=>e.1).toList [] _ [] (Ly.nil m) (by rw[CD];simp;omega);rw[<-Array.foldl_toList];have e:((es.map (·.1)).toList.foldl (λ(acc:Option (Array (Option Nat)×Nat)) h=>do
   let(owner,k)<-acc;let j<-layClean.free m owner (turns m) (bits h % (m+1)) (bits h)
   pure (owner.setIfInBounds j (aA k),k+1)) (aA (Array.replicate (m+1) aB,0)))=aA (owner,(([]:List Int)++(es.map λ(e:Int×ag)=>e.1).toList).length):=e
 rw[e];rw[d4]at l;have jl:js.length=es.size:=by rw[l.len,CD]
 generalize hlive:((c6 (m+1)).filterMap λj=>(owner.getD j aB).map (j,·))=live;have mem:∀j k,(j,k)∈live↔j<=m/\js[k]? =aA j:=λj k=>by
  rw[<-hlive,List.mem_filterMap];constructor
  .rintro⟨j',hj',z⟩;obtain⟨k',z1,z2⟩:=cu.mp z;cases z2;have hj:j<=m:=by have:=c8.mp hj';omega
   exact⟨hj,(l.own j k hj).mp z1⟩
  .rintro⟨hj,z⟩;exact⟨j,c8.mpr (by omega),by rw[(l.own j k hj).mpr z];rfl⟩
 have rise:Ce (live.map (·.1)):=by rw[<-hlive];unfold Ce;rw[du];refine List.Pairwise.filterMap _ (λa b YW c hc d hd=>?_) List.pairwise_lt_range;obtain⟨_,_,rfl⟩:=cu.mp hc;obtain⟨_,_,rfl⟩:=cu.mp hd;exact YW
 have RA:∀x,x∈live.map (·.1)↔x∈js:=λx=>by
  rw[ax];constructor
  .rintro⟨⟨j,k⟩,hp,rfl⟩;exact bz ((mem j k).mp hp).2
  .intro hx;obtain⟨k,hk,e⟩:=dy hx;exact⟨(x,k),(mem x k).mpr ⟨l.le x hx,aw.mpr ⟨hk,e⟩⟩,rfl⟩
 have JT:live.length=es.size:=by have p:(live.map (·.1)).Perm js:=(List.perm_ext_iff_of_nodup (Rp rise) l.nd).mpr RA;have:=p.length_eq;rw[ah]at this;omega
 have vI:(live.map (·.2)).Nodup:=by have Ke:live.Pairwise λa b=>a.1≠b.1:=du.mp (Rp rise);refine du.mpr (List.Pairwise.imp_of_mem (fun{a b} ha hb YW z=>?_) Ke);obtain⟨j1,k1⟩:=a;obtain⟨j2,k2⟩:=b;simp only at z YW;subst z;have z1:=((mem j1 k1).mp ha).2;have z2:=((mem j2 k1).mp hb).2;rw[z1]at z2;exact YW (dq.inj z2)
 have TH:(live.map (·.2)).Perm (c6 es.size):=by
  refine(List.perm_ext_iff_of_nodup vI List.nodup_range).mpr λk=>?_;rw[ax,c8];constructor
  .rintro⟨⟨j,k⟩,hp,rfl⟩;have:=(aw.mp ((mem j k).mp hp).2).1;omega
  .intro hk;have XO:k<js.length:=by omega
   exact⟨(js[k],k),(mem _ _).mpr ⟨l.le _ (gz XO),ar XO⟩,rfl⟩
 refine⟨{mask:=m,place:=(live.map (·.1)).toArray,dummies:= #[],finger:=t.finger,led:=t.led,moves:=t.movedTo m,plain:=t.plain},(live.map (·.2)).toArray,by rw[<-hlive];rfl,rfl,?_,?_⟩
 .rw[Array.toList_filterMap];exact(TH.filterMap _).trans (by rw[filterMap_getElem?_range])
 .have ge:∀p∈live,∃v,es[p.2]? =aA v:=λp hp=>by have:=c8.mp (TH.mem_iff.mp (ax.mpr ⟨p,hp,rfl⟩));exact⟨es[p.2],by simp[this]⟩
  have fm:∀l:List (Nat×Nat),(∀p∈l,∃v,es[p.2]? =aA v)->(l.map (·.2)).filterMap (λi=>es[i]?)=l.map λp=>es.getD p.2 (0,de):=by
   intro l;induction l with
   |nil=>intro _;rfl
   |cons p l ih=>intro h;obtain⟨v,hv⟩:=h p ac;have hv2:=gu.mp hv;rw[ay,List.filterMap_cons_some hv,ih λq hq=>h q (ao _ hq),ay];congr 1;simp only[Array.getD,hv2.1,↓reduceDIte];exact hv2.2.symm
  have el:(((live.map (·.2)).toArray.filterMap λi=>es[i]?).toList.map λ(e:Int×ag)=>e.1)=live.map λp=>(es.getD p.2 (0,de)).1:=by rw[Array.toList_filterMap,List.toList_toArray,fm live ge,cp];rfl
  rw[el];refine⟨rfl,hm,by simpa using rise,λj hj=>?_,?_,?_,λe he=>?_⟩
  .exact l.le j ((RA j).mp (by simpa using hj))
  .simp
  .rw[ah,JT];exact hl
  .have:e∈(live.map λp=>(es.getD p.2 (0,de)).1).zip (live.map (·.1)):=by simpa using he
   rw[List.zip_map']at this;obtain⟨⟨j,k⟩,hp,rfl⟩:=ax.mp this;obtain⟨hj,hk⟩:=(mem j k).mp hp;have hkl:=(aw.mp hk).1;have HV:k<es.size:=by omega
   have hz:((es.getD k (0,de)).1,j)∈(es.map (·.1)).toList.zip js:=by rw[List.mem_iff_getElem?];refine⟨k,?_⟩;rw[List.getElem?_zip_eq_some];refine⟨?_,hk⟩;simp[HV,Array.getD]
   have lk:=l.look _ hz;show Lk m _ _ _;refine lk.mono λx hx=>?_;have:=(RA x).mpr hx;simpa using this
end
section
open PySem.SetTable
section
variable{prog:cg}{w:dn}
theorem xR(n)(h:carriedByValue v=aC):ofAClassStatement n v=pure aD:=by
 cases v with
 |ref a=>simp[carriedByValue]at h
 |_=>first|rfl| (unfold ofAClassStatement;rfl)
theorem Vy(hk:IsTupleKey (Zs prog w) s.heap ks a)(h:Q aD s):bh (b9 prog w) A (ofAClassStatement (m+1) (.ref a)) Q E s:=by
 have hT:=hk.typeIs;obtain⟨o,eD,n,ho,_,hd,hi⟩:=hk;unfold ofAClassStatement;refine aa (wpAny_typeOf hT ?_);dsimp only;rw[dG (by decide)];refine aa (ad ?_);simp only[ie,bx,if_false];refine aa (wpAny_seqItems ho hd ?_);dsimp only;refine aa ?_;rw[<-Array.forIn_toList];refine wpAny_forIn_list _ (λrest r s'=>r.1=aB/\s'=s/\∀v∈rest,carriedByValue v=aC) _ ?_ ?_ _ _ ⟨rfl,rfl,hi.byValue⟩
 .rintro v rest r s' ⟨hr,rfl,hall⟩;rw[xR _ (hall v ac)];refine aa (ad ?_);simp only[bx,if_false];exact ad ⟨rfl,rfl,λu OV=>hall u (ao _ OV)⟩
 .rintro⟨r1,r2⟩ s' ⟨hr,rfl,_⟩;simp only at hr;subst hr;exact ad h
theorem zm(hk:Bl prog w s.heap k a)(h:Q aD s):bh (b9 prog w) A (ofAClassStatement 8 (.ref a)) Q E s:=by
 cases k with
 |inl l=>exact Vy hk h
 |inr p=>have hT:=hk.typeIs;obtain⟨n,l⟩:=p;obtain⟨o,eD,m,t,b,ho,_,hd,hi,hb⟩:=hk;unfold ofAClassStatement;refine aa (wpAny_typeOf hT ?_);dsimp only;rw[dG (by decide)];refine aa (ad ?_);simp only[ie,bx,if_false];refine aa (wpAny_seqItems ho hd ?_);dsimp only;refine aa ?_;rw[<-Array.forIn_toList,hi];simp only[List.forIn_cons,List.forIn_nil];rw[xR _ (v:=Value.int n t) rfl];refine aa (aa (ad ?_));simp only[bx,if_false];refine ad ?_;dsimp only;refine aa (aa (Vy hb ?_));simp only[bx,if_false];exact ad (ad (ad h))
theorem nc(n)(h:carriedByValue v=aC):∃b,hashByValue n v=pure b:=by
 cases v with
 |ref a=>simp[carriedByValue]at h
 |_=>unfold hashByValue;exact⟨_,rfl⟩
theorem Vz(hk:IsTupleKey (Zs prog w) s.heap ks a)(h:∀b,Q b s):bh (b9 prog w) A (hashByValue (m+1) (.ref a)) Q E s:=by
 have hT:=hk.typeIs;obtain⟨o,eD,n,ho,_,hd,hi⟩:=hk;unfold hashByValue;refine aa (wpAny_specialOf hT F.slot_tuple_hash.lookup ?_);refine aa (wpAny_seqItems ho hd ?_);refine aa ?_;show bh _ _ (forIn eD _ _) _ _ s;rw[<-Array.forIn_toList];refine wpAny_forIn_list _ (λrest r s'=>r.1=aB/\s'=s/\∀v∈rest,carriedByValue v=aC) _ ?_ ?_ _ _ ⟨rfl,rfl,hi.byValue⟩
 .rintro v rest r s' ⟨hr,rfl,hall⟩;obtain⟨b,hb⟩:=nc m (hall v ac);rw[hb];refine aa (ad ?_);cases b with
  |true=>simp only[ie,bx,if_false];exact ad ⟨rfl,rfl,λu OV=>hall u (ao _ OV)⟩
  |false=>simp only[Bool.not_false,if_true];exact ad (ad (h _))
 .rintro⟨r1,r2⟩ s' ⟨hr,rfl,_⟩;simp only at hr;subst hr;exact ad (h _)
theorem rF(hk:Bl prog w s.heap k a)(h:∀b,Q b s):bh (b9 prog w) A (hashByValue 8 (.ref a)) Q E s:=by
 cases k with
 |inl l=>exact Vz hk h
 |inr p=>
  have hT:=hk.typeIs;obtain⟨n,l⟩:=p;obtain⟨o,eD,m,t,b,ho,_,hd,hi,hb⟩:=hk;unfold hashByValue;refine aa (wpAny_specialOf hT F.slot_tuple_hash.lookup ?_);refine aa (wpAny_seqItems ho hd ?_);refine aa ?_;show bh _ _ (forIn eD _ _) _ _ s;rw[<-Array.forIn_toList,hi];simp only[List.forIn_cons,List.forIn_nil];have e:hashByValue 7 (Value.int n t)=pure aC:=by unfold hashByValue;rfl
  rw[e];refine aa (aa (ad ?_));simp only[ie,bx,if_false];refine ad ?_;dsimp only;refine aa (aa (Vz hb λbb=>?_));cases bb with
  |true=>simp only[ie,bx,if_false];exact ad (ad (ad (h _)))
  |false=>simp only[Bool.not_false,if_true];exact ad (ad (ad (h _)))
theorem qj(hk:Bl prog w s.heap k a)(hy:∀v∈ys,∃k' b,v= .ref b/\Bl prog w s.heap k' b)(h:Q aD s):bh (b9 prog w) A (searchCouldBeSeen (.ref a) ys) Q E s:=by
 unfold searchCouldBeSeen;refine aa ?_;refine wpAny_forIn_list _ (λrest r s'=>r.1=aB/\s'=s/\∀v∈rest,∃k' b,v= .ref b/\Bl prog w s.heap k' b) _ ?_ ?_ _ _ ⟨rfl,rfl,hy⟩
 .rintro v rest r s' ⟨hr,rfl,hall⟩;obtain⟨k',b,rfl,hb⟩:=hall v ac;have go:∀u∈rest,∃k' b,u= .ref b/\Bl prog w s'.heap k' b:=λu hu=>hall u (ao _ hu);dsimp only;by_cases YW:(a==b|| (carriedByValue (.ref a)&&carriedByValue (.ref b)))=aC
  .rw[dG YW];exact ad ⟨rfl,rfl,go⟩
  .rw[dF YW];refine aa (Nl hk ?_);simp only[ie,bx,if_false];refine aa (Nl hb ?_);simp only[ie,bx,if_false];refine aa (zm hk ?_);simp only[bx,if_false];refine aa (zm hb ?_);simp only[bx,if_false];exact ad ⟨rfl,rfl,go⟩
 .rintro⟨r1,r2⟩ s' ⟨hr,rfl,_⟩;simp only at hr;subst hr;exact ad h
theorem jv[Decidable c]{K:Sem α}(hm:∀Q',Q' aD s->bh (b9 prog w) A m Q' E s)(hK:bh (b9 prog w) A K Q E s):
  bh (b9 prog w) A (if c then m >>=λr=>if r=aC then X else K else K) Q E s:=by
 split
 .refine aa (hm _ ?_);simp only[bx,if_false];exact hK
 .exact hK
noncomputable abbrev Dg(prog:cg)(w:dn)(z:Zo×au):Int×Value:=(Yo prog w z.1,cr z.2)
variable{es:Array (Int×ag)}{t:fj}{zs:List (Zo×au)}{k:Zo}
theorem EN(he:es.toList=zs.map (Dg prog w))(i:Nat):es[i]? =(zs[i]?).map (Dg prog w):=by rw[<-dh,he,az]
theorem pQ(he:es.toList=zs.map (Dg prog w))(tb:Tb t (es.toList.map (·.1)))(hz:zs[i]? =aA z):∃n,t.slot (sq t.mask (Yo prog w z.1) n)= .live i/\∀k,k<n->t.slot (sq t.mask (Yo prog w z.1) k)≠.empty:=by
 have hl:zs.length=t.place.toList.length:=by rw[tb.len,he,ah,ah]
 have hi:i<zs.length:=(aw.mp hz).1;have hp:t.place.toList[i]? =aA (t.place.toList[i]'(by omega)):=ar _;have hh:(es.toList.map (·.1))[i]? =aA (Yo prog w z.1):=by rw[he,az,az,hz];rfl
 obtain⟨n,e1,e2⟩:=tb.look (Yo prog w z.1,t.place.toList[i]'(by omega)) (List.mem_iff_getElem?.mpr ⟨i,List.getElem?_zip_eq_some.mpr ⟨hh,hp⟩⟩);refine⟨n,?_,λk hk=>?_⟩
 .refine Tg tb.rise ?_;rw[<-dh,hp];exact congrArg aA e1.symm
 .have:=e2 k hk;intro z;exact xW tb.rise z this
theorem xQ(hu:A.units+1<f9)(hk:Bl prog w s.heap k b)(ho:s.heap.get? a=aA o)(hd:o.data= .set es ep t)(he:es.toList=zs.map (Dg prog w))(VW:∀z∈zs,Bl prog w s.heap z.1 z.2)(tb:Tb t (es.toList.map (·.1)))(hN:N<10*turns t.mask)(hE:t.slot (sq t.mask (Yo prog w k) N)= .empty)(VZ:k∈zs.map (·.1)->∀r,Q (.there r) s)(XH:∀n,k∉zs.map (·.1)->t.slot (sq t.mask (Yo prog w k) n)= .empty->(∀j,j<n->t.slot (sq t.mask (Yo prog w k) j)≠.empty)->Q (.free (sq t.mask (Yo prog w k) n) aD) s):
  ∀fuel n st,st.getD (t.probeStart (Yo prog w k))=Ws t.mask n (Jv t.mask (Yo prog w k))->n<=N->N<n+fuel->(∀j,j<n->∃i z,t.slot (sq t.mask (Yo prog w k) j)= .live i/\zs[i]? =aA z/\z.1≠k)->
   bh (b9 prog w) A (setSearchFrom a (.ref b) (Yo prog w k) aC fuel st) Q E s
 |0,n,st,_,h1,h2,_=>by omega
 |fuel+1,n,st,OW,h1,h2,hb=>by
  have V_:t.fits es.size=aC:=tb.fits (by simp);unfold setSearchFrom;refine aa (wpAny_setState_of ho hd V_ ?_);dsimp only;rw[tb.gave];simp only[bx,if_false];rw[OW];have hj:∀j,(Ws t.mask j (Ws t.mask n (Jv t.mask (Yo prog w k)))).j=sq t.mask (Yo prog w k) (n+j):=λj=>by rw[<-Jj]
  unfold SetTable.probe;rcases xV tb.dum (λi=>(es[i]?.map (·.1)).getD 0) (Yo prog w k) (10*turns t.mask) (Ws t.mask n (Jv t.mask (Yo prog w k))) ((Vw _ _ _).trans rfl) ⟨N- n,by omega,by rw[hj,show n+(N- n)=N by omega];exact hE⟩with⟨m,g1,g2,g3,g4⟩|⟨m,i,g1,g2,g3,g4,g5⟩
  .have key:∀f:Nat->Int,f=(λi=>(es[i]?.map (·.1)).getD 0)->SetTable.probe.go t f (Yo prog w k) (10*turns t.mask) (Ws t.mask n (Jv t.mask (Yo prog w k)))=aA (.empty (Ws t.mask m (Ws t.mask n (Jv t.mask (Yo prog w k)))).j aB):=λf hf=>by rw[hf];exact g2
   rw[key]
   case a=>rfl
   dsimp only;rw[hj]at g3⊢;refine ad (XH (n+m) ?_ g3 λj NC=>?_)
   .intro H_;obtain⟨z,hz,ez⟩:=ax.mp H_;obtain⟨i0,NI,e0⟩:=dy hz;have TM:zs[i0]? =aA z:=aw.mpr ⟨NI,e0⟩;obtain⟨n0,q1,q2⟩:=pQ he tb TM;rw[ez]at q1 q2;rcases Nat.lt_trichotomy n0 (n+m)with c|c|c
    .rcases dv n0 n with c'|c'
     .obtain⟨i,z',w1,w2,w3⟩:=hb n0 c';rw[q1]at w1;cases w1;rw[TM]at w2;cases w2;exact w3 ez
     .obtain⟨i,w1,w2⟩:=g4 (n0- n) (by omega);rw[hj,show n+(n0- n)=n0 by omega,q1]at w1;cases w1;apply w2;show(es[i0]?.map (·.1)).getD 0=_;rw[EN he,TM,<-ez];rfl
    .rw[<-c,q1]at g3;cases g3
    .exact q2 _ c g3
   .rcases dv j n with c|c
    .obtain⟨i,z',w1,_⟩:=hb j c;rw[w1];exact λz=>nomatch z
    .obtain⟨i,w1,_⟩:=g4 (j- n) (by omega);rw[hj,show n+(j- n)=j by omega]at w1;rw[w1];exact λz=>nomatch z
  .have key:∀f:Nat->Int,f=(λi=>(es[i]?.map (·.1)).getD 0)->SetTable.probe.go t f (Yo prog w k) (10*turns t.mask) (Ws t.mask n (Jv t.mask (Yo prog w k)))=aA (.candidate (Ws t.mask m (Ws t.mask n (Jv t.mask (Yo prog w k)))).j i (Ws t.mask (m+1) (Ws t.mask n (Jv t.mask (Yo prog w k))))):=λf hf=>by rw[hf];exact g2
   rw[key]
   case a=>rfl
   dsimp only;have hp:=Po g3;have WR:i<zs.length:=by have:=(gu.mp hp).1;have l:=tb.len;rw[he,ah,ah,ba]at l;omega
   have TM:zs[i]? =aA zs[i]:=ar WR;have hzi:=VW zs[i] (gz WR);generalize zs[i]=z at TM hzi;have C_:es[i]? =aA (Yo prog w z.1,cr z.2):=by rw[EN he,TM];rfl
   refine jv (λQ' q=>qj hk (λv hv=>?_) q) ?_
   .obtain⟨e,uE,rfl⟩:=ax.mp hv;have:e∈es.toList:=by have:=Array.mem_toList_iff.mp uE;exact Array.mem_toList_iff.mpr (Array.mem_filter.mp this).1
    rw[he]at this;obtain⟨z',TN,rfl⟩:=ax.mp this;exact⟨z'.1,z'.2,rfl,VW z' TN⟩
   rw[C_];dsimp only;refine aa (gn (AX hu hzi hk ?_));refine aa (wpAny_setState_of ho hd V_ ?_);dsimp only;by_cases hzk:z.1=k
   .rw[dJ hzk];simp only[Bool.and_self,if_true];exact ad (VZ (ax.mpr ⟨z,bz TM,hzk⟩) _)
   .rw[dH hzk];simp only[Bool.and_false,bx,if_false];have vh:t.sameMemory t.moves t.mask=aA aC:=by unfold SetTable.sameMemory;simp
    rw[vh];simp only[if_true];rw[g3];dsimp only;rw[C_];dsimp only;refine aa (wpAny_isSame_ref_self ?_);simp only[if_true];refine aa (ad ?_);dsimp only;have GV:n+m+1<=N:=by
     have:¬N<=n+m:=λc=>by
      rcases Nat.lt_or_eq_of_le c with c|c
      .rcases dv N n with c'|c'
       .omega
       .obtain⟨i',w1,_⟩:=g5 (N- n) (by omega);rw[hj,show n+(N- n)=N by omega,hE]at w1;cases w1
      .rw[hj,<-c,hE]at g3;cases g3
     omega
    refine xQ hu hk ho hd he VW tb hN hE VZ XH fuel (n+m+1) _ ?_ GV (by omega) λj NC=>?_
    .show Ws t.mask (m+1) (Ws t.mask n (Jv t.mask (Yo prog w k)))=_;rw[<-Jj,<-Nat.add_assoc]
    .rcases dv j n with c|c
     .exact hb j c
     .rcases dv j (n+m)with c'|c'
      .obtain⟨i',w1,w2⟩:=g5 (j- n) (by omega);rw[hj,show n+(j- n)=j by omega]at w1;have hp':=Po w1;have NH:i'<zs.length:=by have:=(gu.mp hp').1;have l:=tb.len;rw[he,ah,ah,ba]at l;omega
       refine⟨i',zs[i'],w1,ar NH,λzz=>w2 ?_⟩;show(es[i']?.map (·.1)).getD 0=_;rw[EN he,ar NH,<-zz];rfl
      .have:j=n+m:=by omega
       subst this;rw[hj]at g3;exact⟨i,z,g3,TM,hzk⟩
end
end
section
open PySem.SetTable
def Ki(prog:cg)(w:dn)(B:Bool)(h:f8)(o:Obj)(xs:List (Zo×au)):Prop:=
 ∃(es:Array (Int×ag)) (ep:Nat) (t:fj) (zs:List (Zo×au)),o.ExactSet/\o.data= .set es ep t/\es.toList=zs.map (Dg prog w)/\zs.Perm xs/\(xs.map (·.1)).Nodup/\(∀z∈xs,Bl prog w h z.1 z.2)/\Tb t (es.toList.map (·.1))/\t.led= !B/\es.size*5<t.mask*3
noncomputable def Rq(xs:List (Zo×au))(k:Zo)(b:au):List (Zo×au):=if(xs.any λz=>decide (z.1=k))=aC then xs else xs++[(k,b)]
theorem V0{xs:List (Zo×au)}:(xs.any λz=>decide (z.1=k))=aC↔k∈xs.map (·.1):=by
 rw[List.any_eq_true,ax];constructor
 .rintro⟨z,hz,e⟩;exact⟨z,hz,dL e⟩
 .rintro⟨z,hz,e⟩;exact⟨z,hz,dJ e⟩
theorem Bl.but(x:Bl prog w h k a)(ho:h.get? d=aA o)(hd:o.data= .set es ep t)(hs:∀b u,b≠d->h.get? b=aA u->h'.get? b=aA u):Bl prog w h' k a:=by
 have ne:∀{c:au} {u:Obj} {eC n},h.get? c=aA u->u.data= .seq eC n->c≠d:=fun{c u eC n} e1 e2 z=>by subst z;rw[ho]at e1;cases e1;rw[hd]at e2;cases e2
 cases k with
 |inl l=>obtain⟨u,eC,n,e,c,d',r⟩:=x;exact⟨u,eC,n,hs _ _ (ne e d') e,c,d',r⟩
 |inr p=>obtain⟨u,eC,n,tt,b,e,c,d',ei,⟨u2,i2,n2,e2,c2,d2,r2⟩⟩:=x;exact⟨u,eC,n,tt,b,hs _ _ (ne e d') e,c,d',ei,u2,i2,n2,hs _ _ (ne e2 d2) e2,c2,d2,r2⟩
theorem Mo{α β:Type}{f}{l}{m:List β}(p:l.Perm m):∀zs,m=zs.map f->∃l':List α,l'.Perm zs/\l=l'.map f:=by
 induction p with
 |nil=>intro zs e;cases zs with
  |nil=>exact⟨[],List.Perm.nil,rfl⟩
  |cons z zs=>cases e
 | @cons x l1 l2 _ ih=>intro zs e;cases zs with
  |nil=>cases e
  |cons z zs=>injection e with e1 e2;obtain⟨l',p',e'⟩:=ih zs e2;exact⟨z::l',p'.cons z,by rw[ay,e1,e']⟩
 |swap x y l=>intro zs e;cases zs with
  |nil=>cases e
  |cons z zs=>cases zs with
   |nil=>cases e
   |cons z2 zs=>injection e with e1 e2;injection e2 with e2 e3;exact⟨z2::z::zs,List.Perm.swap z z2 zs,by rw[ay,ay,e1,e2,e3]⟩
 |trans _ _ ih1 ih2=>intro zs e;obtain⟨l2,p2,e2⟩:=ih2 zs e;obtain⟨l3,p3,e3⟩:=ih1 l2 e2;exact⟨l3,p3.trans p2,e3⟩
theorem uy(hu:A.units+1<f9)(ho:s.heap.get? a=aA o)(hO:Ki prog w B s.heap o xs)(hk:Bl prog w s.heap k b)(hr:xs.length+1<=76)(h:∀h' o' r,gm a s.heap h'->h'.get? a=aA o'->Ki prog w B h' o' (Rq xs k b)->Q r {s with heap:=h'}):
  bh (b9 prog w) A (setAddHashed a (.ref b) (Yo prog w k)) Q E s:=by
 obtain⟨es,ep,t,zs,hx,hd,he,pm,nd,VW,tb,Y_,TR⟩:=hO;have HZ:∀z∈zs,Bl prog w s.heap z.1 z.2:=λz hz=>VW z (pm.mem_iff.mp hz);have V_:t.fits es.size=aC:=tb.fits (by simp);have zl:zs.length=es.size:=by rw[<-ba,he,ah]
 have xl:xs.length=es.size:=by rw[<-pm.length_eq,zl]
 have kz:k∈zs.map (·.1)↔k∈xs.map (·.1):=(pm.map _).mem_iff;unfold setAddHashed;refine gn ?_;unfold setAddHashedIn;refine aa (wpAny_setState_of ho hd V_ ?_);dsimp only;rw[show byScan (cr b) es=aD from rfl];simp only[bx,if_false];obtain⟨N,hN,hE⟩:=tb.empty (Yo prog w k);unfold setSearch;have CK:t.mask<=127:=by rcases tb.msk with e|e|e<;> omega
 refine aa (xQ hu hk ho hd he HZ tb hN hE (λH_ r=>?_) (λn hni uP uH=>?_) 100000 0 aB rfl (gq _) (by unfold turns at hN;omega) (λj hj=>dM hj (f6 _)))
 .dsimp only;refine ad ?_;refine h s.heap o aD (Heap.SameBut.refl a s.heap) ho ?_;unfold Rq;rw[dG (V0.mpr (kz.mp H_))];exact⟨es,ep,t,zs,hx,hd,he,pm,nd,VW,tb,Y_,TR⟩
 .dsimp only;have OZ:k∉xs.map (·.1):=λz=>hni (kz.mpr z);refine aa (wpAny_setState_of ho hd V_ ?_);dsimp only;have NP:es.size+1<=t.mask:=by rcases tb.msk with e|e|e<;> omega
  have tb1:=tb.put (Yo prog w k) uP uH (by rw[ah,ba];exact NP);have IZ:(t.put (sq t.mask (Yo prog w k) n)).2=below t.place (sq t.mask (Yo prog w k) n):=rfl;have LA:(t.put (sq t.mask (Yo prog w k) n)).1.mask=t.mask:=rfl;have LF:(t.put (sq t.mask (Yo prog w k) n)).1.led=t.led:=rfl;rw[IZ];generalize below t.place (sq t.mask (Yo prog w k) n)=p at tb1⊢;generalize (t.put (sq t.mask (Yo prog w k) n)).1=t1 at tb1 LA LF⊢;have Y':(insertAt es p (Yo prog w k,cr b)).toList=(zs.take p++(k,b)::zs.drop p).map (Dg prog w):=by rw[SetTable.toList_insertAt,he,b8,ay,List.map_take,List.map_drop]
  have GB:(insertAt es p (Yo prog w k,cr b)).toList.map (·.1)=(es.toList.map (·.1)).take p++Yo prog w k::(es.toList.map (·.1)).drop p:=by rw[SetTable.toList_insertAt,b8,ay,List.map_take,List.map_drop]
  have SS:(insertAt es p (Yo prog w k,cr b)).size=es.size+1:=by rw[<-ba,SetTable.toList_insertAt,av,bc,List.length_take,List.length_drop,ba];omega
  rw[<-GB]at tb1;have QK:(zs.take p++(k,b)::zs.drop p).Perm (xs++[(k,b)]):=by refine List.perm_middle.trans ?_;rw[List.take_append_drop];exact(pm.cons _).trans (List.perm_append_singleton _ _).symm
  have Ke:((xs++[(k,b)]).map (·.1)).Nodup:=by rw[b8,cz];refine⟨nd,by simp,λx hx y hy=>?_⟩;simp only[ay,List.map_nil,aj]at hy;subst hy;exact λz=>OZ (z▸hx)
  generalize insertAt es p (Yo prog w k,cr b)=ZK at Y' tb1 SS⊢;generalize zs.take p++(k,b)::zs.drop p=zs1 at Y' QK;have US:∀h' o' r,gm a s.heap h'->h'.get? a=aA o'->Ki prog w B h' o' (xs++[(k,b)])->Q r {s with heap:=h'}:=λh' o' r x y z=>h h' o' r x y (by unfold Rq;rw[dF λy=>OZ (V0.mp y)];exact z);have NG:∀h',gm a s.heap h'->∀z∈xs++[(k,b)],Bl prog w h' z.1 z.2:=λh' sb z hz=>by
   have RL:Bl prog w s.heap z.1 z.2:=by
    rcases bo.mp hz with q|q
    .exact VW z q
    .rw[aj.mp q];exact hk
   exact Bl.but RL ho hd λc u hc e=>(sb.2 c hc).trans e
  have SQ:∀(t2:fj),Tb t2 (ZK.toList.map (·.1))->t2.mask=t.mask->t2.led=t.led->bh (b9 prog w) A (do
    storeSet a ZK t2
    if(!aD&&t2.tooFull)=aC then do
     setRelay a (grown (es.size+1))
     pure aC
    else pure aC) Q E s:=λt2 MO m2 l2=>by
   refine aa (wpAny_storeSet_of ho hd ?_ (by rw[SS,gp];omega));have o1:(s.heap.update a (Obj.putSet ZK t2)).get? a=aA {o with data:=.set ZK (ep+1) t2}:=by have z:=ig (Obj.putSet ZK t2) ho (by rw[putSet_of ZK t2 hd];rfl);rw[putSet_of ZK t2 hd]at z;exact z
   have b1:=ii s.heap a (Obj.putSet ZK t2);have fl:t2.fill=es.size+1:=by unfold SetTable.fill;have:=MO.len;rw[ah,ba,ba]at this;rw[MO.dum,this,SS];rfl
   by_cases hf:t2.tooFull=aC
   .rw[dG (by rw[hf];rfl)];have UJ:(es.size+1)*5>=t.mask*3:=by unfold SetTable.tooFull at hf;rw[fl,m2]at hf;exact dL hf
    have hS:Msk (sizeAbove (grown (es.size+1))- 1)/\ZK.size<=sizeAbove (grown (es.size+1))- 1/\ZK.size*5<(sizeAbove (grown (es.size+1))- 1)*3/\sizeAbove (grown (es.size+1))<=128:=by
     rw[SS];rcases tb.msk with e|e|e
     .have:es.size=4:=by omega
      rw[this];exact⟨.inr (.inl (by decide)),by decide,by decide,by decide⟩
     .have:es.size=18:=by omega
      rw[this];exact⟨.inr (.inr (by decide)),by decide,by decide,by decide⟩
     .omega
    refine aa ?_;unfold setRelay;refine aa (wpAny_setState_of (s:={s with heap:=s.heap.update a (Obj.putSet ZK t2)}) o1 rfl (MO.fits (by simp)) ?_);dsimp only;rw[dF (by rw[gp];have:=hS.2.2.2;omega)];obtain⟨t3,ZT,q1,q2,q3,q4⟩:=jw (t:=t2) (es:=ZK) hS.1 hS.2.1;have vD:t2.relaid (ZK.map (·.1)) (grown (es.size+1))=aA (t3,ZT):=q1;rw[vD];have HJ:t3.mask=sizeAbove (grown (es.size+1))- 1:=by unfold SetTable.relaid SetTable.laid at q1;refine eK q1 λow _ z=>?_;cases z;rfl
    have MP:(ZT.filterMap λi=>ZK[i]?).size=ZK.size:=by rw[<-ba,q3.length_eq,ba]
    refine aa ?_;show bh _ _ (if((ZT.filterMap λi=>ZK[i]?).size !=ZK.size)=aC then _ else _) _ _ _;rw[dF (by rw[MP];simp)];refine ad ?_;dsimp only;refine wpAny_storeSet_of (s:={s with heap:=s.heap.update a (Obj.putSet ZK t2)}) o1 rfl ?_ (by rw[MP,SS,gp];omega);have o2:=ig (Obj.putSet (ZT.filterMap λi=>ZK[i]?) t3) o1 (by rw[putSet_of _ t3 rfl];rfl);rw[putSet_of _ t3 rfl]at o2;have b2:=b1.trans (ii _ a (Obj.putSet (ZT.filterMap λi=>ZK[i]?) t3));generalize (ZT.filterMap λi=>ZK[i]?)=es3 at q3 q4 MP o2 b2⊢;have uF:∃MN:List (Zo×au),es3.toList=MN.map (Dg prog w)/\MN.Perm zs1:=by rw[Y']at q3;obtain⟨l3,r1,r2⟩:=Mo q3 zs1 rfl;exact⟨l3,r2,r1⟩
    obtain⟨MN,r1,r2⟩:=uF;refine ad (US _ _ aC b2 o2 ⟨es3,_,t3,MN,hx,rfl,r1,r2.trans QK,Ke,NG _ b2,q4,by rw[q2,l2];exact Y_,?_⟩);rw[MP,HJ];exact hS.2.2.1
   .rw[dF (by simpa using hf)];refine ad (US _ _ aC b1 o1 ⟨ZK,_,t2,zs1,hx,rfl,Y',QK,Ke,NG _ b1,MO,by rw[l2];exact Y_,?_⟩);unfold SetTable.tooFull at hf;rw[fl,m2]at hf;rw[SS,m2];have:¬(es.size+1)*5>=t.mask*3:=λz=>hf (dJ z);omega
  by_cases ZI:t1.plain=aC
  .rw[dG ZI];refine aa (rF hk λbb=>?_);cases bb with
   |true=>exact SQ t1 tb1 LA LF
   |false=>exact SQ {t1 with plain:=aD} tb1.plainOff LA LF
  .rw[dF ZI];refine aa (ad ?_);exact SQ t1 tb1 LA LF
end
section
open PySem.SetTable
def Sa(ys:List (Zo×au)):List (Zo×au):=ys.foldl (λacc y=>Rq acc y.1 y.2) []
theorem kJ(xs k b):(Rq xs k b).length<=xs.length+1:=by
 unfold Rq;split
 .omega
 .simp
theorem kI(h:z∈Rq xs k b):z∈xs\/z=(k,b):=by
 unfold Rq at h;split at h
 .exact .inl h
 .rcases bo.mp h with q|q
  .exact .inl q
  .exact .inr (aj.mp q)
theorem kH{ys:List (Zo×au)}(h:ys[i]? =aA y):Sa (ys.take (i+1))=Rq (Sa (ys.take i)) y.1 y.2:=by unfold Sa;rw[List.take_add_one,h];simp
theorem T3:∀(ys acc:List (Zo×au)),(ys.foldl (λacc y=>Rq acc y.1 y.2) acc).length<=acc.length+ys.length
 | [],acc=>by simp
 |y::ys,acc=>by rw[List.foldl_cons];have h1:=T3 ys (Rq acc y.1 y.2);have h2:=kJ acc y.1 y.2;rw[bc];omega
theorem nZ(ys):(Sa ys).length<=ys.length:=by have:=T3 ys [];simpa[Sa]using this
theorem T4:∀(ys acc:List (Zo×au)) z,z∈ys.foldl (λacc y=>Rq acc y.1 y.2) acc->z∈acc\/z∈ys
 | [],acc,z,h=>.inl h
 |y::ys,acc,z,h=>by
  rw[List.foldl_cons]at h;rcases T4 ys _ z h with q|q
  .rcases kI q with r|r
   .exact .inl r
   .exact .inr (by rw[r];exact ac)
  .exact .inr (ao _ q)
theorem Pp(h:z∈Sa ys):z∈ys:=by
 rcases T4 ys [] z h with q|q
 .exact nomatch q
 .exact q
theorem Ki.re(x:Ki prog w B h o xs)(hk:∀z∈xs,Bl prog w h' z.1 z.2):Ki prog w B h' o xs:=by obtain⟨es,ep,t,zs,a,b,c,d,e,_,f⟩:=x;exact⟨es,ep,t,zs,a,b,c,d,e,hk,f⟩
theorem rE:Ki prog w (By w) h (Rm w) []:=⟨#[],0,_,[],⟨rfl,rfl,rfl⟩,rfl,rfl,List.Perm.nil,c7,(λz hz=>nomatch hz),Tb.fresh _ _ _,rfl,by show 0*5<7*3;decide⟩
theorem kG{s:am}(hh:A.handled=aB)(hu:A.units+5<f9)(hl:s.heap.IsList l eC)(hi:eC.toList=ys.map λy=>cr y.2)(M_:∀y∈ys,Bl prog w s.heap y.1 y.2)(hb:ys.length<=75)(h:∀h' tk o,h'.get? s.heap.objs.size=aA o->Ki prog w (By w) h' o (Sa ys)->(∀b x,b<s.heap.objs.size->s.heap.get? b=aA x->h'.get? b=aA x)->Q (.ref s.heap.objs.size) {s with heap:=h',toks:=tk}):
  bh (b9 prog w) A (call (.type "set") [.ref l]) Q E s:=by
 have hsz:eC.size=ys.length:=by rw[<-ba,hi,ah]
 have kz:∀{i:Nat} {h:f8},Kpt s.heap h->∀z∈Sa (ys.take i),Bl prog w h z.1 z.2:=λkp z hz=>(M_ z (List.mem_of_mem_take (Pp hz))).mono kp;refine zO hh hl (λh o i=>Ki prog w (By w) h o (Sa (ys.take i))) (λkp hO=>hO.re (kz kp)) (λ_=>rE) (λA' i v s1 o Q E hA hv kp ho hO k=>?_) λh' tk o g O m=>h h' tk o g (by rw[hsz,List.take_length]at O;exact O) m;rw[<-dh,hi,az]at hv;obtain⟨y,hy,rfl⟩:=cu.mp hv;have CH:Bl prog w s1.heap y.1 y.2:=(M_ y (bz hy)).mono kp;unfold setAdd;refine gn (aa (y_ (by omega) CH ?_));refine uy (s:={s1 with toks:=s1.toks+Ee y.1}) (B:=By w) (xs:=Sa (ys.take i)) (by omega) ho hO CH (by have:=nZ (ys.take i);rw[List.length_take]at this;omega) λh2 o2 b sb g2 O2=>k h2 o2 _ b sb g2 ?_;rw[kH hy];exact O2
theorem kF(hh:A.handled=aB)(ho:s.heap.get? r=aA o)(hO:Ki prog w (By w) s.heap o xs)(hr:xs.length<=1000)(h:∀(zs:List (Zo×au)) h' d,zs.Perm xs->(∀b x,s.heap.get? b=aA x->h'.get? b=aA x)->s.heap.objs.size<=h'.objs.size->Q (zs.map λz=>cr z.2) {s with heap:=h',drawn:=d}):bh (b9 prog w) A (collect (.ref r)) Q E s:=by
 obtain⟨es,ep,t,zs,hx,hd,he,pm,nd,VW,tb,Y_,TR⟩:=hO;have zl:zs.length=es.size:=by rw[<-ba,he,ah]
 have xl:xs.length=es.size:=by rw[<-pm.length_eq,zl]
 refine Vq hh ho hx hd (tb.fits (by simp)) Y_ (λ_=>tb.rise) (by omega) λord h' d hp hk hs=>?_;rw[he,cp]at hp;obtain⟨wU,p',e'⟩:=Mo hp zs rfl;rw[e'];exact h wU h' d (p'.trans pm) hk hs
end
noncomputable def Zr:Zo->D
 | .inl l=>.tup (l.map D.str)
 | .inr (n,l)=>.tup [.int n,.tup (l.map D.str)]
noncomputable def Ai(ks:List Zo)(k:Zo):List Zo:=if(ks.any λz=>decide (z=k))=aC then ks else ks++[k]
def Lw(ks:List Zo):List Zo:=ks.foldl Ai []
theorem kE(xs k b):(Rq xs k b).map (·.1)=Ai (xs.map (·.1)) k:=by
 unfold Rq Ai;have e:((xs.map (·.1)).any λz=>decide (z=k))=xs.any λz=>decide (z.1=k):=by rw[List.any_map];rfl
 rw[e];split
 .rfl
 .rw[b8];rfl
theorem xP(ys):(Sa ys).map (·.1)=Lw (ys.map (·.1)):=by
 have go:∀(ys acc:List (Zo×au)),(ys.foldl (λacc y=>Rq acc y.1 y.2) acc).map (·.1)=(ys.map (·.1)).foldl Ai (acc.map (·.1)):=by
  intro ys;induction ys with
  |nil=>intro acc;rfl
  |cons y ys ih=>intro acc;rw[List.foldl_cons,ih,ay,List.foldl_cons,kE]
 exact go ys []
def Mp(ds out:List D):Prop:=out.Perm ds/\out.Pairwise λa b=>Ji 16 b a=aA aD
theorem ju{ks:List D}{eS:D->List Nat}(hd:∀i j,i<ks.length->j<ks.length->eS (ks.getD i .non)=eS (ks.getD j .non)->i=j)(ha:a∈ks)(hb:b∈ks)(e:eS a=eS b):a=b:=by
 obtain⟨i,hi,rfl⟩:=dy ha;obtain⟨j,hj,rfl⟩:=dy hb;have gi:ks.getD i .non=ks[i]:=by rw[bg,ar hi];rfl
 have gj:ks.getD j .non=ks[j]:=by rw[bg,ar hj];rfl
 have:=hd i j hi hj (by rw[gi,gj];exact e);subst this;rfl
theorem Rr(h:eR ds)(ha:Mp ds a)(hb:Mp ds b):a=b:=by
 obtain⟨eS,he,hd⟩:=h.ord;refine List.Perm.eq_of_pairwise (le:=λa b=>Ji 16 b a=aA aD) (λx y hx hy h1 h2=>?_) ha.2 hb.2 (ha.1.trans hb.1.symm);have mx:=ha.1.mem_iff.mp hx;have my:=hb.1.mem_iff.mp hy;rw[he _ my _ mx]at h1;rw[he _ mx _ my]at h2;have h1:¬eS y<eS x:=by simpa using h1
 have h2:¬eS x<eS y:=by simpa using h2
 exact ju hd mx my (List.le_antisymm (dw.mp h1) (dw.mp h2))
theorem Ir(h:T1 ds p):Mp ds (p.map λi=>ds.getD i .non):=by
 refine⟨?_,du.mpr h.2⟩;refine(h.1.map _).trans ?_;have:(c6 ds.length).map (λi=>ds.getD i .non)=ds:=by
  apply List.ext_getElem
  .simp
  .intro i h1 h2;simp[bg,ar h2]
 rw[this]
theorem Rs(h:eR ds):∃out,Mp ds out:=let⟨_,hp⟩:=Ch h;⟨_,Ir hp⟩
theorem Gu{ks:List D}{eS:D->List Nat}:(∀i j,i<ks.length->j<ks.length->eS (ks.getD i .non)=eS (ks.getD j .non)->i=j)↔(ks.map eS).Nodup:=by
 have gi:∀i (hi:i<ks.length),ks.getD i .non=ks[i]:=λi hi=>by rw[bg,ar hi];rfl
 constructor
 .intro h;refine List.pairwise_iff_getElem.mpr λi j hi hj YS e=>?_;rw[ah]at hi hj;rw[List.getElem_map,List.getElem_map]at e;have:=h i j hi hj (by rw[gi i hi,gi j hj];exact e);omega
 .intro h i j hi hj e;rw[gi i hi,gi j hj]at e;have:=(List.getElem?_inj (i:=i) (j:=j) (by rw[ah];exact hi) h).mp (by simp[hi,hj,e]);exact this
theorem V1(h:eR ds)(p:es.Perm ds):eR es:=by obtain⟨k,hk⟩:=h.key;obtain⟨eS,he,hd⟩:=h.ord;refine⟨⟨k,λd hd=>hk d (p.mem_iff.mp hd)⟩,eS,λa ha b hb=>he a (p.mem_iff.mp ha) b (p.mem_iff.mp hb),?_⟩;exact Gu.mpr ((p.map eS).nodup_iff.mpr (Gu.mp hd))
section
open PySem.Calls
theorem Pq(ok:G9 P w H h)(e:Jo H k b):Bl P w h k b:=by
 cases k with
 |inl l=>exact B6 ok e
 |inr p=>
  obtain⟨n,l⟩:=p;obtain⟨c,h1,h2⟩:=e;obtain⟨_,eC,r,o,q1,q2,m,q3⟩:=(show Yp P w H h b (.tup [.int n,.ref c])from ok b _ h1)
  cases r with
  |cons r1 t=>cases t with
   |cons r2 t=>cases t;obtain⟨tk,rfl⟩:=r1;cases r2;exact⟨o,_,m,tk,c,q1,q2,q3,rfl,B6 ok h2⟩
theorem C6{K}(e:Jo F k b):eP K F (Zr k) (.ref b):=by
 have tx:∀l:List Str,eF K F (l.map D.str) ((G8 l).map kV):=λl=>by
  induction l with
  |nil=>exact .nil
  |cons x l ih=>exact .cons (.str x) ih
 cases k with
 |inl l=>exact .tup e (tx l)
 |inr p=>obtain⟨n,l⟩:=p;obtain⟨c,h1,h2⟩:=e;exact .tup h1 (.cons (.int n) (.cons (.tup h2 (tx l)) .nil))
theorem C7{K}(r:eP K F (Zr k) v):∃b,v= .ref b/\Jo F k b:=by
 have tx:∀{l:List Str} {vs:List V},eF K F (l.map D.str) vs->vs=(G8 l).map kV:=fun{l}=>by
  induction l with
  |nil=>intro vs h;cases h;rfl
  |cons x l ih=>intro vs h;cases h with
   |cons h t=>cases h;rw[ih t];rfl
 cases k with
 |inl l=>cases r with
  |tup h r=>rw[tx r]at h;exact⟨_,rfl,h⟩
 |inr p=>
  obtain⟨n,l⟩:=p;cases r with
  |tup h r=>cases r with
   |cons r1 t=>cases r1;cases t with
    |cons r2 t=>cases t;cases r2 with
     |tup h2 r2=>rw[tx r2]at h2;exact⟨_,rfl,_,h,h2⟩
def rSN(K:af):List V->Hp->VK->Prop:=λvs H Q=>∃(l:au) (ys:List (Zo×au)),vs=[.ref l]/\Bm K H l (ys.map λy=>V.ref y.2)/\(∀y∈ys,Jo H y.1 y.2)/\ys.length<=75/\(Sa ys).length<64/\eR ((Sa ys).map λy=>Zr y.1)/\
 ∀(zs:List (Zo×au)) (q:au),zs.Perm (Sa ys)->Mp ((Sa ys).map λy=>Zr y.1) (zs.map λy=>Zr y.1)->H q=aB->Q (.ref q) (Y7 H q (.lst (zs.map λz=>V.ref z.2)))
theorem AB:∀{ys:List (Zo×au)} {eC:List ag},Z5 (ys.map λy=>V.ref y.2) eC->eC=ys.map λy=>cr y.2
 | [],_,h=>by cases h;rfl
 |y::ys,_,h=>by
  cases h with
  |cons r t=>cases r;rw[AB t];rfl
theorem EM:∀ys:List (Zo×au),Z5 (ys.map λy=>V.ref y.2) (ys.map λy=>cr y.2)
 | []=>.nil
 |y::ys=>.cons rfl (EM ys)
theorem nY(hc:X.calm=aC)(hu:X.A.units+64<f9)(h1:X.mg "sorted"=aB)(h2:X.mg "set"=aB)(ha:PA X [a] t)(g1:Gl X "sorted")(g2:Gl X "set")(Y':bd [.Call (.Name "set" q1) [a] [] q2] X.env=(aD,ip (.Call (.Name "set" q1) [a] [] q2) X.env)::bd [] X.env)(VQ:(gd p2 (bd [] X.env)).any (·.1)=aD)(X':bd [a] X.env=(aD,ip a X.env)::bd [] X.env)(VO:(gd q2 (bd [] X.env)).any (·.1)=aD):
  PE X (.Call (.Name "sorted" p1) [.Call (.Name "set" q1) [a] [] q2] [] p2) (tCB (rSN X.K) t):=by
 intro eB s σ H Q I h;refine wpAny_Call_Name_kw (O9 I g1 h1 C4 ?_);refine PyProof.Rows.callWith_builtin1 ?_ Y' VQ;rw[Y'];show bh _ _ (spliced ((aD,ip (.Call (.Name "set" q1) [a] [] q2) X.env)::gd p2 (bd [] X.env))) _ _ s;refine Calls.spliced_cons (wpAny_Call_Name_kw (O9 I g2 h2 Vs ?_));refine PyProof.Rows.callWith_type1 (Wq (ha q2 eB s σ H _ I h) λus s1 ⟨vs,H1,I1,r1,z1⟩=>?_) X' VO;obtain⟨l,ys,rfl,hl,hn,hz,OT,ko,q⟩:=z1;obtain⟨u,rfl,ru⟩:=Uu r1;cases ru;obtain⟨eC,rv,⟨o,n,ho,YG,_,hd⟩,_⟩:=I1.list hl;have hits:=AB rv;have hh:=I1.ok.hd hc;refine kG (eC:=eC.toArray) (ys:=ys) hh (by omega) ⟨o,ho,YG,n,hd⟩ (by simpa using hits) (λy hy=>Pq I1.hok (hn y hy)) hz λh' tk o' YR hO hk=>?_;show bh _ _ (spliced []) _ _ _;refine Calls.spliced_nil ?_;have kept:∀b x,s1.heap.get? b=aA x->h'.get? b=aA x:=λb x e=>hk b x (bj e) e;have I2:eG X eB σ H1 {s1 with heap:=h',toks:=tk}:=I1.kept kept;refine Calls.call_function_entry kind_sorted plain_sorted entry_sorted (args_sorted1 _) ?_;unfold Builtin.«sorted»;refine aa (m:=checkCount "sorted" 1 1 _) (ad ?_);refine aa (kF (A:=X.A.in1) (s:={s1 with heap:=h',toks:=tk}) hh YR hO (by omega) λzs h3 d hp v6 ge=>?_);have I3:eG X eB σ H1 {s1 with heap:=h3,toks:=tk,drawn:=d}:=(I2.kept (t':=tk) v6).drawnAt d;have kz:eR (zs.map λy=>Zr y.1):=V1 ko (hp.map _);obtain⟨eS,he,GD⟩:=id kz.ord;obtain⟨kb,HW⟩:=id kz.key;have TQ:X.A.in1.in1.units+16<cLine:=by show X.A.units+1+1+16<f9;omega
 have zl:zs.length=(Sa ys).length:=hp.length_eq;have dl:(zs.map λy=>Zr y.1).length=(zs.map λz=>cr z.2).length:=by simp
 have vp:∀z∈zs,Jo H1 z.1 z.2:=λz TN=>hn z (Pp (hp.mem_iff.mp TN));refine jx (eC:=zs.map λz=>cr z.2) (kvs:=zs.map λz=>V.ref z.2) (KeyOk:=λj kv H=>eP X.K H ((zs.map λy=>Zr y.1).getD j .non) kv) (O:=strKind.toKeyOrd) (key:=KL eS (zs.map λy=>Zr y.1)) I3 (by rw[ah];omega) (EM zs) (λj kv e=>?_) (yR TQ HW he dl) ?hQ
 .rw[az]at e;obtain⟨z,ez,rfl⟩:=cu.mp e;have:(zs.map λy=>Zr y.1).getD j .non=Zr z.1:=by rw[bg,az,ez];rfl
  rw[this];exact C6 (vp z (bz ez))
 case hQ=>
  intro p D s3 cc hp2' hs RZ I4 fD gD;have sb:=yQ he dl hp2' hs;have pt:p.toList.Perm (c6 zs.length):=by have:=sb.1;rw[ah]at this;exact this
  have UG:∀i∈p.toList,i<zs.length:=λi hi=>c8.mp (pt.mem_iff.mp hi);have uV:∀i∈p.toList,(zs.map λz=>cr z.2).getD i de=cr (zs.getD i (.inl [],0)).2:=λi hi=>by have hb:=UG i hi;simp[bg,az,ar hb]
  have g2':∀i∈p.toList,(zs.map λy=>Zr y.1).getD i .non=Zr (zs.getD i (.inl [],0)).1:=λi hi=>by have hb:=UG i hi;simp[bg,az,ar hb]
  generalize hzs2:p.toList.map (λi=>zs.getD i (.inl [],0))=zs2;have e1:(p.toList.map λi=>(zs.map λz=>cr z.2).getD i de)=zs2.map λz=>cr z.2:=by rw[<-hzs2,cp];exact List.map_congr_left uV
  have e2:(p.toList.map λi=>(zs.map λy=>Zr y.1).getD i .non)=zs2.map λy=>Zr y.1:=by rw[<-hzs2,cp];exact List.map_congr_left g2'
  have pz:zs2.Perm zs:=by
   rw[<-hzs2];refine(pt.map _).trans ?_;have:(c6 zs.length).map (λi=>zs.getD i (.inl [],0))=zs:=by
    apply List.ext_getElem
    .simp
    .intro i h1 h2;simp[bg,ar h2]
   rw[this]
  have so:=Ir sb;rw[e2]at so;have wn:Mp ((Sa ys).map λy=>Zr y.1) (zs2.map λy=>Zr y.1):=⟨so.1.trans (hp.map _),so.2⟩
  rw[e1]at gD;have new:Yp X.prog X.w (Y7 H1 D (.lst (zs2.map λz=>V.ref z.2))) s3.heap D (.lst (zs2.map λz=>V.ref z.2)):=by refine⟨?_,zs2.map λz=>cr z.2,cc,EM zs2,gD⟩;rw[ah,pz.length_eq,gp];omega
  exact⟨.ref D,_,eG.trackO I4 RZ fD.1 fD.2.1 fD.2.2.2.2.1 fD.2.2.2.2.2 new,rfl,q zs2 D (pz.trans hp) wn fD.1⟩
end
section
variable{K:af}
def nk?:D->Option Zo
 | .tup xs=>match strs? xs with
  |some l=>aA (.inl l)
  |none=>match xs with
   | [.int n,.tup ys]=>(strs? ys).bind λl=>aA (.inr (n,l))
   |_=>aB
 |_=>aB
theorem Iu:∀l,strs? (l.map D.str)=aA l
 | []=>rfl
 |x::l=>by rw[ay,strs?,Iu l];rfl
theorem Pr:∀{xs:List D} {l:List Str},strs? xs=aA l->xs=l.map D.str
 | [],_,h=>by cases h;rfl
 |x::xs,l,h=>by
  unfold strs? at h;split at h
  .rename_i e;cases e
  .rename_i y r e;cases e;refine eK h λt h1 h2=>?_;cases h2;rw[Pr h1];rfl
  .cases h
@[simp]theorem Cj(k):nk? (Zr k)=some k:=by
 cases k with
 |inl l=>show(match strs? (l.map D.str)with|some l=>_|none=>_)=_;rw[Iu]
 |inr p=>obtain⟨n,l⟩:=p;show(strs? (l.map D.str)).bind _=_;rw[Iu];rfl
theorem KJ(h:nk? d=aA k):d=Zr k:=by
 unfold nk? at h;split at h
 .rename_i xs;split at h
  .rename_i l hl;cases h;rw[Pr hl];rfl
  .split at h
   .refine eK h λl h1 h2=>?_;cases h2;rw[Pr h1];rfl
   .cases h
 .cases h
def nks?:List D->Option (List Zo)
 | []=>aA []
 |d::r=>(nk? d).bind λk=>(nks? r).bind λks=>aA (k::ks)
@[simp]theorem As:∀ks,nks? (ks.map Zr)=some ks
 | []=>rfl
 |k::ks=>by rw[ay,nks?,Cj,As ks];rfl
theorem Ps:∀{ds:List D} {ks:List Zo},nks? ds=aA ks->ds=ks.map Zr
 | [],_,h=>by cases h;rfl
 |d::ds,_,h=>by refine eK (show(nk? d).bind _=_ from h) λk h1 h2=>?_;refine eK h2 λks h3 h4=>?_;cases h4;rw[KJ h1,Ps h3];rfl
theorem V2:∀{ks:List Zo} {vs:List V},eF K F (ks.map Zr) vs->∃ys:List (Zo×au),ys.map (·.1)=ks/\vs=ys.map (λy=>V.ref y.2)/\∀y∈ys,Jo F y.1 y.2
 | [],_,h=>by cases h;exact⟨[],rfl,rfl,λ_ z=>nomatch z⟩
 |k::ks,_,h=>by
  cases h with
  |cons h t=>
   obtain⟨b,rfl,hb⟩:=C7 h;obtain⟨ys,rfl,rfl,hy⟩:=V2 t;refine⟨(k,b)::ys,rfl,rfl,λy VN=>?_⟩;rcases b7.mp VN with z|z
   .rw[z];exact hb
   .exact hy y z
theorem Lx:∀{ys:List (Zo×au)},(∀y∈ys,Jo F y.1 y.2)->eF K F (ys.map λy=>Zr y.1) (ys.map λy=>V.ref y.2)
 | [],_=>.nil
 |y::ys,h=>.cons (C6 (h y ac)) (Lx λz hz=>h z (ao _ hz))
open Classical in
def Iv(ks:List Zo):Option SV:=
 if h:ks.length<=75/\(Lw ks).length<64/\eR ((Lw ks).map Zr)then aA (.ol (Classical.choose (Rs h.2.2)))else aB
theorem kD(e:Iv ks=aA sv):ks.length<=75/\(Lw ks).length<64/\eR ((Lw ks).map Zr)/\∃out,Mp ((Lw ks).map Zr) out/\sv= .ol out:=by
 unfold Iv at e;split at e
 .rename_i h;cases e;exact⟨h.1,h.2.1,h.2.2,_,Classical.choose_spec (Rs h.2.2),rfl⟩
 .cases e
theorem kC(h1:ks.length<=75)(h2:(Lw ks).length<64)(h3:eR ((Lw ks).map Zr))(h4:Mp ((Lw ks).map Zr) out):Iv ks=aA (.ol out):=by unfold Iv;rw[dif_pos ⟨h1,h2,h3⟩,Rr h3 (Classical.choose_spec (Rs h3)) h4]
def Mq:List D->Option SV
 | [.lst xs]=>(nks? xs).bind Iv
 |_=>aB
@[simp]theorem jt(ks):Mq [.lst (ks.map Zr)]=Iv ks:=by show(nks? (ks.map Zr)).bind _=_;rw[As];rfl
theorem pP{Z:eM K}:Oc Z (rSN K) Mq:=by
 intro F H σ δ own vs ds sv Q s r e k;unfold Mq at e;split at e
 .refine eK e λks e1 e2=>?_;obtain⟨z1,z2,ko,out,ho,rfl⟩:=kD e2;have:=Ps e1;subst this;cases r with
  |cons h t=>
   cases t;obtain⟨a,us,rfl,ha,ru⟩:=h.lst s.le;obtain⟨ys,rfl,rfl,hy⟩:=V2 ru;have ek:(Sa ys).map (λy=>Zr y.1)=(Lw (ys.map (·.1))).map Zr:=by rw[<-xP,cp];rfl
   refine⟨a,ys,rfl,ha,λy VN=>(hy y VN).mono λ_ _ q=>s.le _ _ q,by simpa using z1,?_,by rw[ek];exact ko,λzs q hp so hq=>?_⟩
   .have:=congrArg List.length (xP ys);rw[ah]at this;omega
   .have eo:out=zs.map λy=>Zr y.1:=by rw[ek]at so;exact Rr ko ho so
    rw[eo]at k;exact k.lst s (Lx λz hz=>hy z (Pp (hp.mem_iff.mp hz))) hq
 .cases e
section
variable{X:Cx}{Z:eM X.K}{a b c:da}{fa fb fc:FE}{pos:Pos}
theorem Dh{p1 q1 q2}(hc:X.calm=aC)(hv:X.A.units+64<f9)(h1:X.mg "sorted"=aB)(h2:X.mg "set"=aB)(ha:PE X a (Ze Z fa))(g1:‹Gl X "sorted"›)(g2:‹Gl X "set"›)(Y':‹bd [.Call (.Name "set" q1) [a] [] q2] X.env=(aD,ip (.Call (.Name "set" q1) [a] [] q2) X.env)::bd [] X.env›)(VQ:‹(gd pos (bd [] X.env)).any (·.1)=aD›)(X':‹bd [a] X.env=(aD,ip a X.env)::bd [] X.env›)(VO:‹(gd q2 (bd [] X.env)).any (·.1)=aD›):
  PE X (.Call (.Name "sorted" p1) [.Call (.Name "set" q1) [a] [] q2] [] pos) (Ze Z (Yq Mq (Zc fa Zi))):=
 (nY hc hv h1 h2 (Zh ha Z4 X') g1 g2 Y' VQ X' VO).imp λ_ _ _ h=>Ep pP h
end
end
section
open PySem.Calls
section
variable{prog:cg}{w:dn}{K:Type}[DecidableEq K]{knd:HeapKind prog w K}{A:dg}{E:ag->am->Prop}{s:am}
theorem V3(hu:knd.room A)(RT:knd.is s.heap k a)(hm:s.heap.DictOfH knd d xs)(RL:∀p,atKey xs k=aA p->Q p.2 {s with toks:=s.toks+knd.draws k})(HG:atKey xs k=aB->∀h',h'.DictOfH knd d (xs++[(k,a,v)])->gm d s.heap h'->Q v {s with heap:=h',toks:=s.toks+knd.draws k})(hsz:xs.length<=sizeLine):
  bh (b9 prog w) A (dictSetDefault d (.ref a) v) Q E s:=by
 obtain⟨o,es,ep,ho,hc,hd,he,VW,hn⟩:=hm;unfold dictSetDefault
 try with_reducible refine gn ?_
 refine aa (knd.pyHash hu RT (aa (wpAny_dictFind_heap (s:={s with toks:=s.toks+knd.draws k}) hu RT ho hd he VW hn ?_ ?_)))
 .intro hno;have HE:k∉xs.map (·.1):=not_mem_keys_of_get hno;dsimp only;refine aa (wpAny_rule (aa (wpAny_updateDictKeys (hz:=by have e:=size_of_entries he;omega) (s:={s with toks:=s.toks+knd.draws k}) ho hd (ad (HG (atKey_none_of_get hno) _ ⟨_,_,ep+1,ig _ ho (Obj.isFreed_of_dict (Obj.data_mapDictKeys hd _)),
   hc.mapDictKeys _,Obj.data_mapDictKeys hd _,?_,?_,?_⟩ (ii ..))))))
  .simp[he,entryOfKey]
  .intro x hx;rcases bo.mp hx with hx|hx
   .exact knd.keeps (VW x hx) ho hd (ii ..)
   .simp only[aj]at hx;subst hx;exact knd.keeps RT ho hd (ii ..)
  .rw[b8,cz];refine⟨hn,by simp,?_⟩;intro x hx y hy;simp only[ay,List.map_nil,aj]at hy;subst hy;exact λe=>HE (e▸hx)
 .intro j p hj;dsimp only;refine aa (wpAny_dictEntries (s:={s with toks:=s.toks+knd.draws k}) ho hd ?_);rw[entry_at he j,hj];exact aa (wpAny_rule (ad (RL p (atKey_of_get hn hj))))
end
def KNt(H:Hp):List (Zo×V)->List (Zo×au×ag)->Prop:=Paired λ(p:Zo×V) (q:Zo×au×ag)=>p.1=q.1/\Jo H p.1 q.2.1/\Zy p.2 q.2.2
theorem EL(ok:G9 P w H h)(e:H a=aA (.dN kvs ep bs)):kvs.length<=sizeLine/\(a==sysModules)=aD/\
  ∃xs,KNt H kvs xs/\h.DictOfH (Ko P w) a xs/\(xs.map λx=>x.2.1)=bs:=by
 obtain⟨z,y,xs,r,o,es,h1,h2,h3,h4,h5,h6⟩:=(show Yp P w H h a (.dN kvs ep bs)from ok a _ e)
 refine⟨z,y,xs,r,⟨o,es,ep,h1,h2,h3,h4,λx hx=>?_,h5⟩,h6⟩;have all:∀{l:List (Zo×V)} {m:List (Zo×au×ag)},KNt H l m->∀x∈m,(Ko P w).is h x.1 x.2.1:=by
  intro l m q;induction q with
  |nil=>intro x hx;exact nomatch hx
  | @cons p q ps qs hq t ih=>
   intro x hx;rcases b7.mp hx with e|hx
   .subst e;exact Pq ok (by rw[<-hq.1];exact hq.2.1)
   .exact ih x hx
 exact all r x hx
theorem KNt.val(r:KNt H kvs xs)(k):R7 (Jp kvs k) ((atKey xs k).map (·.2)):=by
 induction r with
 |nil=>exact True.intro
 | @cons p q ps qs hq t ih=>
  by_cases e:p.1=k
  .rw[Bq e];have:atKey (q::qs) k=aA q.2:=by unfold atKey;rw[List.find?_cons_of_pos (by rw[<-hq.1];exact dJ e)];rfl
   rw[this];exact hq.2.2
  .rw[Ob e];have:atKey (q::qs) k=atKey qs k:=by unfold atKey;rw[List.find?_cons_of_neg (by rw[<-hq.1];simpa using e)]
   rw[this];exact ih
def IsN(H:Hp)(a:au):Prop:=∃kvs ep bs,H a=aA (.dN kvs ep bs)
def rD(td ty:TE):TE:=λσ H Q=>td σ H λx H1=>ty σ H1 λy H2=>∃a b kvs ep bs k v,x= .ref a/\y= .ref b/\H2 a=aA (.dN kvs ep bs)/\Jo H2 k b/\Jp kvs k=aA v/\Q v H2
def EK(td ty tx:TE):TE:=λσ H Q=>td σ H λx H1=>∃a,x= .ref a/\IsN H1 a/\ty σ H1 λy H2=>tx σ H2 λz H3=>∃kvs ep bs k b,y= .ref b/\H3 a=aA (.dN kvs ep bs)/\Jo H3 k b/\kvs.length<sizeLine/\
 ((∃v,Jp kvs k=aA v/\Q v H3)\/(Jp kvs k=aB/\∀YI,Q z (Y7 H3 a (.dN (kvs++[(k,z)]) YI (bs++[b])))))
theorem zk{A:dg}(hu:A.units+2<f9):(Ko P w).room A.in1:=hu
theorem nX(hu:X.A.units+2<f9)(ho:PE X o td)(hi:PE X i ty)(hs:FZ i):PE X (.Subscript o i pos) (rD td ty):=by intro eB s σ H Q I h;refine x_ PySem.F.slot_dict_getitem.lookup hs (Wq (ho eB s σ H _ I h) λu s1 ⟨x,H1,I1,rx,q1⟩=>Wq (hi eB s1 σ H1 _ I1 q1) λiv s2 ZE=>?_);obtain⟨y,H2,I2,ry,a,b,kvs,ep,bs,k,v,ex,ey,ea,eb,ev,q2⟩:=ZE;subst ex ey;obtain rfl:u=cr a:=rx;obtain rfl:iv=cr b:=ry;obtain⟨z,hd,xs,rel,dd,_⟩:=EL I2.hok ea;obtain⟨w',hw,XU⟩:=R7.some_of (v:=v) (o:=(atKey xs k).map (·.2)) (by rw[<-ev];exact rel.val k);obtain⟨p,hp,VO⟩:=cu.mp hw;refine⟨dd.typeIs,wpAny_getItem_heap (zk hu) (Pq I2.hok eb) dd hp ?_⟩;rw[VO];exact⟨v,H2,I2.tok _,XU,q2⟩
theorem Pt(hu:X.A.units+2<f9)(ho:PE X o td)(he:PE X e ty)(hf:PE X f tx)(m:M2 X o "setdefault" ZD e f cpos):PE X (.Call (.Attribute o "setdefault" ZD) [e,f] [] cpos) (EK td ty tx):=by
 intro eB s σ H Q I h;refine wpAny_Call_method m.base m.few m.line PySem.F.plainAttrs_dict PySem.F.slot_dict_setdefault PySem.F.type_dict_setdefault (Wq (ho eB s σ H _ I h) λu s1 ZE=>?_);obtain⟨x,H1,I1,rx,a,ex,d,q1⟩:=ZE;subst ex;obtain rfl:u=cr a:=rx;obtain⟨vW,uZ,uk,uf⟩:=d;obtain⟨_,_,hX,_,BN,_⟩:=EL I1.hok uf;refine⟨BN.typeIs,λb q=>?_,?_⟩
 .cases q;obtain⟨ob,_,_,h1,h2,_⟩:=BN;exact⟨ob,h1,h2.2.1⟩
 rw[m.trees];refine Calls.callWith_builtin rfl (Calls.evalArgs_plain (Calls.spliced_cons (Wq (he eB s1 σ H1 _ I1 q1) λiv s2 ⟨y,H2,I2,ry,q2⟩=>
  Calls.spliced_cons (Wq (hf eB s2 σ H2 _ I2 q2) λfv s3 ⟨z,H3,I3,rz,kvs,ep,bs,k,b,ey,ea,eb,hl,q3⟩=>Calls.spliced_nil ?_))))
 subst ey;obtain rfl:iv=cr b:=ry;obtain⟨hz,hd,xs,rel,dd,UB⟩:=EL I3.hok ea;have gG:xs.length=kvs.length:=(Paired.length rel).symm;refine d8 PySem.F.slot_dict_setdefault dd.typeIs PySem.F.entry_dict_setdefault ?_ (PySem.F.args_dict_setdefault_3 _ _ _);unfold Builtin.«dict.setdefault»;refine aa (m:=Builtin.Dict.keyAndDefault "setdefault" ⟨[.ref a,.ref b,fv],[]⟩) ?_;show bh _ _ (Builtin.Dict.notOrdered "setdefault" ⟨[.ref a,.ref b,fv],[]⟩>>=_) _ _ s3;refine aa (wpAny_notOrdered_dict dd.typeIs ?_);refine ad (a:=(a,cr b,aA fv)) ?_;dsimp only;rw[dF (by rw[hd];simp)];refine aa (V3 (knd:=Ko X.prog X.w) (zk hu) (Pq I3.hok eb) dd (λp hp=>?_) (λhno h' UF hs=>?_) (by omega))
 .rcases q3 with⟨v,ev,q⟩|⟨ev,_⟩
  .have r:=rel.val k;rw[hp,ev]at r;exact ad ⟨_,rfl,v,H3,I3.tok _,r,q⟩
  .have r:=rel.val k;rw[hp,ev]at r;exact r.elim
 .rcases q3 with⟨v,ev,q⟩|⟨ev,q⟩
  .have r:=rel.val k;rw[hno,ev]at r;exact r.elim
  .obtain⟨ob,es,YI,hq,h2,h3,h4,_,h5⟩:=UF;refine ad ⟨_,rfl,z,_,Am I3 (ob:=.dN (kvs++[(k,z)]) YI (bs++[b])) (by rw[ea];exact True.intro) hs ⟨ob,hq⟩ ⟨by rw[av,fu];omega,hd,xs++[(k,b,fv)],?_,ob,es,hq,h2,h3,h4,h5,by rw[b8,UB];rfl⟩,rz,q YI⟩;have app:∀{l:List (Zo×V)} {m:List (Zo×au×ag)},KNt H3 l m->Paired (λ(p:Zo×V) (q:Zo×au×ag)=>p.1=q.1/\Jo (Y7 H3 a (.dN (kvs++[(k,z)]) YI (bs++[b]))) p.1 q.2.1/\Zy p.2 q.2.2) (l++[(k,z)]) (m++[(k,b,fv)]):=by
    have up:∀c ys,H3 c=aA (.tup ys)->Y7 H3 a (.dN (kvs++[(k,z)]) YI (bs++[b])) c=aA (.tup ys):=λc ys ec=>by rw[Zv (zv ec ea (λz=>nomatch z))];exact ec
    intro l m r;induction r with
    |nil=>exact .cons ⟨rfl,eb.mono up,rz⟩ .nil
    |cons hq t ih=>exact .cons ⟨hq.1,hq.2.1.mono up,hq.2.2⟩ ih
   exact app rel
theorem kB(h:f8)(hb:sysModules<h.objs.size):Yp P w H (h.push {cls:=.type "dict",data:=.dict #[]}) h.objs.size (.dN [] 0 []):=
 ⟨gq _,beq_eq_false_iff_ne.mpr (Ne.symm (cj hb)),[],.nil,_,#[],bi _ rfl,⟨rfl,rfl,rfl⟩,rfl,rfl,c7,rfl⟩
def Di:TE:=λ_ H Q=>∀p,H p=aB->Q (.ref p) (Y7 H p (.dN [] 0 []))
theorem V4:PE X (.Dict [] [] pos) Di:=λeB s σ H Q I h=>
 wpAny_Dict_empty ⟨.ref s.heap.objs.size,_,I.laid (a:=s.heap.objs.size) (o:=.dN [] 0 []) (t':=s.toks) (λ_ _ q=>aq _ q) (bf _) (kB s.heap I.big),rfl,h _ (I.hok.fresh (bf _))⟩
def KI(K:af):V->List V->Hp->VK->Prop:=λx vs H Q=>∃l b xs zs,x= .ref l/\vs=[.ref b]/\H l=aA (.lst xs)/\Bm K H b zs/\xs.length+zs.length<=sizeLine/\Q .non (Y7 H l (.lst (xs++zs)))
end
section
open PySem.Calls
theorem nW(l eD n b eE n2 dc sl)(UI:¬(!eD.isEmpty&&Builtin.List.listTooLong (eD.size+eE.size))=aC)(IW:eD.size<=sizeLine)(XX:eD.size+eE.size<=sizeLine+1):
  Meets (Builtin.«list.extend» ⟨[.ref l,.ref b],[]⟩) (λ_ R s=>s.heap.get? l=aA {cls:=.type "list",dict:=aB,data:=.seq eD n,slots:= #[]}/\s.heap.get? b=aA {cls:=.type "list",dict:=dc,data:=.seq eE n2,slots:=sl}/\R (.ok (.ret de)) {s with heap:=s.heap.update l (d6 λx=>x++eE),toks:=s.toks}):=
 .of_wp λprog w A R s h=>by
  obtain⟨hp,g,d,tk,os⟩:=s;obtain⟨hl,hb,h⟩:=h;have f1:=AutoSeq1.idx_int;have f2:=AutoSeq1.sub_tuple_tuple;have f3:=AutoSeq1.sub_list_list;have f4:=AutoSeq1.sub_tuple_list;have f5:=AutoSeq1.sub_list_tuple;have TN:(eD++eE).size<=sizeLine+1:=by rw[Array.size_append];exact XX
  wp_walk using(wpAny_updateSeq hl rfl (hz:=IW) (_hz':=TN)),AutoSeq1.wpAny_loadPart' hl,AutoSeq1.wpAny_loadPart' hb;exact⟨_,rfl,h⟩
theorem xO:MtM X "list.extend" (KI X.K):=by
 intro eB s σ H x vs v us Q I rx rv h;obtain⟨l,b,xs,zs,rfl,rfl,hH,hB,hz,q⟩:=h;cases rx;obtain⟨u,rfl,ru⟩:=rv.one;cases ru;obtain⟨z,eC,n,r,hl,e⟩:=I.lstM hH;obtain⟨XF,r2,⟨o,n2,ho,hc,hdn,hd⟩,z2⟩:=I.list hB;have hl2:=r2.length;obtain⟨cls,dc,data,sl⟩:=o;cases hc;cases hd;have hsz:eC.toArray.size+XF.toArray.size<=sizeLine:=by rw[bq,bq];omega
 have O_:¬(!eC.toArray.isEmpty&&Builtin.List.listTooLong (eC.toArray.size+XF.toArray.size))=aC:=by rw[je hsz,Bool.and_false];exact bv
 refine call_meets F.slot_list_extend ⟨_,e,rfl⟩ F.entry_list_extend (F.args_list_extend_2 _ _)
  (nW l eC.toArray n b XF.toArray n2 dc sl O_ (by rw[bq];omega) (by omega)) ⟨e,ho,?_⟩
 refine⟨.non,_,I.lset (its':=eC++XF) hH e (by simp) (r.append r2) ?_,rfl,q⟩;rw[av];omega
end
section
variable{K:af}
theorem eU.appL:∀{ZC:List (List D)} {ws:List V} {ns:Zu} {p:Nat} {b:au},eU K F ZC ws ns->ws[p]? =aA (.ref b)->(Ac ns).Nodup->
  ∃xs vs,ZC[p]? =aA xs/\(b,HO.lst vs)∈ns/\eF K F xs vs/\∀{ys:List D} {us:List V},eF K F ys us->∃ns',eU K F (ZC.set p (xs++ys)) ws ns'/\Ac ns'=Ac ns/\∀q∈ns',q=(b,HO.lst (vs++us))\/(q∈ns/\q.1≠b)
 |_,_,_,_,_,.nil,e,_=>by simp at e
 |_,_,_,0,b,@eU.cons _ _ xs ZC b' vs ws ns r t,e,nd=>by
  have e':b'=b:=by simpa using e
  subst e';obtain⟨n1,n2⟩:=eh.mp nd;refine⟨xs,vs,rfl,ac,r,fun{ys us} hd=>⟨(b',.lst (vs++us))::ns,.cons (r.append hd) t,rfl,λq hq=>?_⟩⟩;rcases b7.mp hq with z|z
  .exact .inl z
  .exact .inr ⟨ao _ z,λw=>n1 (ax.mpr ⟨q,z,w⟩)⟩
 |_,_,_,p+1,b,@eU.cons _ _ xs0 ZC b' UY ws ns r t,e,nd=>by
  obtain⟨n1,n2⟩:=eh.mp nd;obtain⟨xs,vs,h1,h2,h3,h4⟩:=eU.appL (p:=p) (b:=b) t (by simpa using e) n2;refine⟨xs,vs,by simpa using h1,ao _ h2,h3,fun{ys us} hd=>?_⟩;obtain⟨ns',k1,k2,k3⟩:=h4 hd;refine⟨(b',.lst UY)::ns',by rw[List.set_cons_succ];exact .cons r k1,by show b'::Ac ns'=b'::Ac ns;rw[k2],λq hq=>?_⟩;rcases b7.mp hq with z|z
  .refine .inr ⟨by rw[z];exact ac,λw=>n1 ?_⟩;rw[z]at w;exact ax.mpr ⟨_,h2,w.symm⟩
  .rcases k3 q z with w|⟨w,w2⟩
   .exact .inl w
   .exact .inr ⟨ao _ w,w2⟩
@[simp]noncomputable def Ys:List Zo->Zo->Option Nat
 | [],_=>aB
 |a::r,k=>if a=k then aA 0 else(Ys r k).map (· +1)
theorem Th:∀{kvs:List (Zo×V)} {p:Nat},Ys (kvs.map (·.1)) k=aA p->∃v,(kvs.map (·.2))[p]? =aA v/\Jp kvs k=aA v
 | [],_,e=>by cases e
 |q::r,p,e=>by
  have e:(if q.1=k then aA 0 else(Ys (r.map (·.1)) k).map (· +1))=aA p:=e;by_cases h:q.1=k
  .rw[dG h]at e;cases e;exact⟨q.2,rfl,Bq h⟩
  .rw[dF h]at e;obtain⟨p',e1,e2⟩:=cu.mp e;subst e2;obtain⟨v,h1,h2⟩:=Th e1;exact⟨v,by simpa using h1,by rw[Ob h];exact h2⟩
theorem Ti:∀{kvs:List (Zo×V)},Ys (kvs.map (·.1)) k=aB->Jp kvs k=aB
 | [],_=>rfl
 |q::r,e=>by
  have e:(if q.1=k then aA 0 else(Ys (r.map (·.1)) k).map (· +1))=aB:=e;by_cases h:q.1=k
  .rw[dG h]at e;cases e
  .rw[dF h]at e;rw[Ob h];exact Ti (Option.map_eq_none_iff.mp e)
theorem KN.snoc(h:KN F kvs bs)(hb:Jo F k b):KN F (kvs++[(k,v)]) (bs++[b]):=by
 induction h with
 |nil=>exact .cons hb .nil
 |cons r t ih=>exact .cons r ih
theorem kW(h:eN K F (.oX ks ZC) v ns):∃a kvs ns' ep bs,v= .ref a/\ns=(a,.dN kvs ep bs)::ns'/\KN F kvs bs/\kvs.map (·.1)=ks/\eU K F ZC (kvs.map (·.2)) ns':=by
 cases h with
 |oX kb e r=>exact⟨_,_,_,_,_,rfl,rfl,kb,e,r⟩
section
variable{Z:eM K}
@[simp]noncomputable def KH:FE:=λδ=>some (.tmp (.oX [] []),δ)
theorem nV(h:Ze Z KH σ H Q):Di σ H Q:=by obtain⟨F,δ,own,rv,δ',s,e,k⟩:=h;cases e;intro p hp;have f:Fin Z F H σ δ own (.oX [] []) Q:=λv H' F' ns a b c t=>k v H' F' own a b c ⟨ns,t⟩;exact f.one s (.oX (kvs:=[]) .nil rfl .nil) hp
theorem Mr(s:SR Z F H σ δ own)(e:δ[i]? =aA (aA (.oX ks ZC))):∃a kvs ep bs ns',σ[i]? =aA (aA (.ref a))/\own i=(a,.dN kvs ep bs)::ns'/\H a=aA (.dN kvs ep bs)/\KN F kvs bs/\kvs.map (·.1)=ks/\eU K F ZC (kvs.map (·.2)) ns':=by obtain⟨x,hx,sh⟩:=s.at' i _ e;obtain⟨a,kvs,ns',ep,bs,rfl,en,kb,ek,kd⟩:=kW sh;exact⟨a,kvs,ep,bs,ns',hx,en,(s.ok i (a,.dN kvs ep bs) (by rw[en];exact ac)).2.2,kb,ek,kd⟩
theorem sJ(s:SR Z F H σ δ own)(e:δ[i]? =aA (aA (.oX ks ZC)))(hp:Ys ks k=aA p):
  ∃a kvs ep bs c vs xs,σ[i]? =aA (aA (.ref a))/\H a=aA (.dN kvs ep bs)/\kvs.length=ZC.length/\Jp kvs k=aA (.ref c)/\H c=aA (.lst vs)/\ZC[p]? =aA xs/\xs.length=vs.length/\F c=aB/\
   ∀ys us,eF K F ys us->∃own',SR Z F (Y7 H c (.lst (vs++us))) σ (δ.set i (aA (.oX ks (ZC.set p (xs++ys))))) own':=by
 obtain⟨a,kvs,ep,bs,ns',hx,en,hH,kb,ek,kd⟩:=Mr s e;rw[<-ek]at hp;obtain⟨v,g1,g2⟩:=Th hp;obtain⟨c,rfl⟩:=kd.ref g1;have nd:=s.nod i;rw[en]at nd;obtain⟨n1,n2⟩:=eh.mp nd;obtain⟨xs,vs,q1,q2,q3,q4⟩:=kd.appL g1 n2;have mb:(c,HO.lst vs)∈own i:=by rw[en];exact ao _ q2
 obtain⟨fc,_,LQ⟩:=s.ok i _ mb;refine⟨a,kvs,ep,bs,c,vs,xs,hx,hH,by have:=kd.length;rw[ah]at this;exact this.symm,g2,LQ,q1,q3.length,fc,λys us r=>?_⟩;obtain⟨IA,k1,k2,k3⟩:=q4 r;have LO:a≠c:=λz=>n1 (ax.mpr ⟨_,q2,z.symm⟩);refine⟨_,s.change (sv':=.oX ks (ZC.set p (xs++ys))) (o':=.lst (vs++us)) (ns':=(a,.dN kvs ep bs)::IA) e hx mb (.oX kb ek k1) (λq hq=>?_) ?_⟩
 .rcases b7.mp hq with z|z
  .exact .inr ⟨by rw[en,z];exact ac,by rw[z];exact LO⟩
  .rcases k3 q z with w|⟨w,w2⟩
   .exact .inl w
   .exact .inr ⟨by rw[en];exact ao _ w,w2⟩
 .show(a::Ac IA).Nodup;rw[k2];exact nd
theorem sI(s:SR Z F H σ δ own)(e:δ[i]? =aA (aA (.oX ks ZC)))(hp:Ys ks k=aB):
  ∃a kvs ep bs,σ[i]? =aA (aA (.ref a))/\H a=aA (.dN kvs ep bs)/\kvs.length=ZC.length/\Jp kvs k=aB/\
   ∀l b ys us YI,H l=aB->Jo F k b->eF K F ys us->∃own',SR Z F (Y7 (Y7 (Y7 H l (.lst [])) a (.dN (kvs++[(k,.ref l)]) YI (bs++[b]))) l (.lst us)) σ (δ.set i (aA (.oX (ks++[k]) (ZC++[ys])))) own':=by
 obtain⟨a,kvs,ep,bs,ns',hx,en,hH,kb,ek,kd⟩:=Mr s e;rw[<-ek]at hp;have nd:=s.nod i;rw[en]at nd;obtain⟨n1,n2⟩:=eh.mp nd;have mb:(a,HO.dN kvs ep bs)∈own i:=by rw[en];exact ac
 refine⟨a,kvs,ep,bs,hx,hH,by have:=kd.length;rw[ah]at this;exact this.symm,Ti hp,λl b ys us YI hl hb r=>?_⟩;have HQ:l≠a:=λz=>by rw[z,hH]at hl;cases hl
 have eH:Y7 (Y7 (Y7 H l (.lst [])) a (.dN (kvs++[(k,.ref l)]) YI (bs++[b]))) l (.lst us)=Y7 (Y7 H l (.lst us)) a (.dN (kvs++[(k,.ref l)]) YI (bs++[b])):=by
  funext c;unfold Y7;by_cases h1:c=l
  .rw[dG h1];by_cases h2:c=a
   .exact dM (h1.symm.trans h2) HQ
   .rw[dF h2,dG h1]
  .rw[dF h1];by_cases h2:c=a
   .rw[dG h2,dG h2]
   .rw[dF h2,dF h2,dF h1,dF h1]
 rw[eH];have sm:=Ug (o:=HO.lst us) hl;have s1:=s.grow sm;have t:eW Z F (Y7 H l (.lst us)) own (.ol ys) (.ref l) [(l,.lst us)]:=by
  refine⟨.ol r,Ke,λq hq=>?_,λj q r hq hr z=>?_⟩
  .obtain rfl:=aj.mp hq;exact⟨s.le.free hl,s.old.free hl,Yk⟩
  .obtain rfl:=aj.mp hq;have z':l=r.1:=z;have:=(s.ok j r hr).2.2;rw[<-z',hl]at this;cases this
 have ZZ:∀p∈own i,p.1≠l:=λp hp z=>t.sep i (l,.lst us) p ac hp z.symm;refine⟨_,s1.changeT (o':=.dN (kvs++[(k,.ref l)]) YI (bs++[b])) (ns':=(a,.dN (kvs++[(k,.ref l)]) YI (bs++[b]))::(ns'++[(l,.lst us)])) t e hx mb (.oX (kb.snoc hb) (by rw[b8,ek];rfl) (by rw[b8];exact kd.snoc r)) (λp hp=>?_) ?_⟩
 .rcases b7.mp hp with z|z
  .exact .inl z
  .rcases bo.mp z with z|z
   .exact .inr (.inl ⟨by rw[en];exact ao _ z,λw=>n1 (ax.mpr ⟨p,z,w⟩)⟩)
   .exact .inr (.inr z)
 .show(a::(ns'++[(l,HO.lst us)]).map (·.1)).Nodup;rw[b8];refine eh.mpr ⟨λz=>?_,?_⟩
  .rcases bo.mp z with z|z
   .exact n1 z
   .exact ZZ _ mb (aj.mp z)
  .refine cz.mpr ⟨n2,Ke,λx hx y hy z=>?_⟩;obtain⟨p,hp,ep⟩:=ax.mp hx;have VN:y=l:=aj.mp hy;exact ZZ p (by rw[en];exact ao _ hp) (by rw[ep,z,VN])
@[simp]noncomputable def Aj(ks:List Zo)(ZC:List (List D))(k:Zo)(ys:List D):List Zo×List (List D):=match Ys ks k with
 |some p=>(ks,ZC.set p (ZC.getD p []++ys))
 |none=>(ks++[k],ZC++[ys])
def okX(ZC:List (List D))(n:Nat):Prop:=ZC.length<cf/\n<cf/\∀xs∈ZC,xs.length+n<cf
open Classical in
def T5(i:Nat)(fk:FE)(j:Nat)(ext:Bool):FS:=λδ=>match δ[i]? with
 |some (aA (.oX _ _))=>(fk δ).bind λp=>(frz p.1 p.2).bind λq=>(nk? q.1).bind λk=>match q.2[i]?,q.2[j]? with
  |some (aA (.oX ks ZC)),aA (aA (.fz d))=>(if ext=aC then(match d with| .lst ys=>aA ys|_=>aB)else aA [d]).bind λys=>if okX ZC ys.length then aA (.nx (q.2.set i (aA (.oX (Aj ks ZC k ys).1 (Aj ks ZC k ys).2))))else aB
  |_,_=>aB
 |_=>aB
theorem xN(h:Yf Z (T5 i fk j ext) E σ H):JB (tBM K "list" (if ext=aC then KI K else Gp) (EK (R8 i) (Ze Z fk) (EF Xv)) (Kr (R8 j) Xv)) E σ H:=by
 obtain⟨F,δ,own,fl,s,e,k⟩:=h;unfold T5 at e;split at e
 .rename_i ks0 xss0 NI;refine eL e λrv δ1 e1 e=>?_;refine eL e λkd δ2 e2 e=>?_;refine eK e λkk e3 e=>?_;dsimp only at e2 e3 e;split at e
  .rename_i ks ZC d hi hj;refine eK e λys e4 e=>?_;split at e
   .rename_i hok;cases e;obtain⟨a,OO,UE,No,gF,VE,ud,GX,_⟩:=Mr s NI;refine⟨.ref a,VE,a,rfl,⟨_,_,_,GX⟩,F,δ,own,rv,δ1,s,e1,λv H1 F1 ZA sH sF s1 r1=>?_⟩;obtain⟨F2,ZG,s2,r2⟩:=s1.settleR r1;obtain⟨F3,ZH,ZR,s3,r3⟩:=s2.frzR r2 e2;rw[KJ e3]at r3;obtain⟨b,rfl,hb⟩:=C7 r3;obtain⟨y,hy,JM⟩:=s3.at' j _ hj;have ry:=Uh JM;have hus:∃us,eF K F3 ys us/\(∀{c:au} {vs:List V} {H4:Hp} {Q:VK},Zk F3 H4->H4 c=aA (.lst vs)->F3 c=aB->vs.length+ys.length<cf->Q .non (Y7 H4 c (.lst (vs++us)))->(if ext=aC then KI K else Gp) (.ref c) [y] H4 Q):=by
     cases ext with
     |false=>
      obtain rfl:[d]=ys:=by simpa using e4
      refine⟨[y],.cons ry .nil,fun{c vs H4 Q} le hc hf hz q=>?_⟩;exact⟨c,vs,y,rfl,rfl,hc,by simpa using(by simp at hz;omega:vs.length<cf),q⟩
     |true=>
      simp only[if_true]at e4;split at e4
      .rename_i zs;cases e4;cases ry with
       | @lst l _ us hl _ ru=>refine⟨us,ru,fun{c vs H4 Q} le hc hf hz q=>?_⟩;exact⟨c,l,vs,us,rfl,rfl,hc,Wn le hl,by rw[<-ru.length];omega,q⟩
      .cases e4
    obtain⟨us,ru,step⟩:=hus;have lu:=ru.length;have sFt:=sF.trans (ZG.trans ZR);refine⟨gq _,λl hl=>?_⟩;have sml:=Ug (o:=HO.lst []) hl;cases hp:Ys ks kk with
    |some p=>
     obtain⟨a',kvs,ep,bs,c,vs,xs,hx,hH,hlen,hv,LQ,q1,q2,fc,q3⟩:=sJ (s3.grow sml) hi hp;rw[VE]at hx;cases hx;have hxs:=bz q1;have hz:=hok.2.2 xs hxs;refine⟨kvs,ep,bs,kk,b,rfl,hH,hb.mono λ_ _ q=>(s3.grow sml).le _ _ q,by rw[hlen];exact hok.1,.inl ⟨.ref c,hv,.inl ⟨rfl,vs,.inl (.inl LQ)⟩,y,hy,?_⟩⟩;refine step (s3.grow sml).le LQ fc (by omega) ?_;obtain⟨own',sr⟩:=q3 ys us ru;refine k σ _ F3 own' sFt ?_;have:Aj ks ZC kk ys=(ks,ZC.set p (xs++ys)):=by
      unfold Aj;rw[hp];have:ZC.getD p []=xs:=by rw[bg,q1];rfl
      show(ks,ZC.set p (ZC.getD p []++ys))=_;rw[this]
     rw[this];exact sr
    |none=>
     obtain⟨a',kvs,ep,bs,hx,hH,hlen,hv,q3⟩:=sI s3 hi hp;rw[VE]at hx;cases hx;have uO:(Y7 H1 l (.lst [])) a=aA (.dN kvs ep bs):=sml _ _ hH;refine⟨kvs,ep,bs,kk,b,rfl,uO,hb.mono λ_ _ q=>(s3.grow sml).le _ _ q,by rw[hlen];exact hok.1,.inr ⟨hv,λYI=>?_⟩⟩;have HQ:l≠a:=λz=>by rw[z,hH]at hl;cases hl
     have BF:(Y7 (Y7 H1 l (.lst [])) a (.dN (kvs++[(kk,.ref l)]) YI (bs++[b]))) l=aA (.lst []):=by rw[Zv HQ,Yk]
     have vR:Zk F3 (Y7 (Y7 H1 l (.lst [])) a (.dN (kvs++[(kk,.ref l)]) YI (bs++[b]))):=λc u ec=>by
      have GH:c≠a:=λz=>by obtain⟨a2,IH,uY,uj,IA,CB,ub,_⟩:=Mr s3 hi;rw[VE]at CB;cases CB;have:=(s3.ok i (a,.dN IH uY uj) (by rw[ub];exact ac)).1;rw[z,this]at ec;cases ec
      rw[Zv GH];exact(s3.grow sml).le _ _ ec
     refine⟨.inl ⟨rfl,[],.inl (.inl BF)⟩,y,hy,?_⟩;refine step (vs:=[]) vR BF (s3.le.free hl) (by have h1:=hok.2.1;simpa using h1) ?_;obtain⟨own',sr⟩:=q3 l b ys us YI hl hb ru;refine k σ _ F3 own' sFt ?_;have:Aj ks ZC kk ys=(ks++[kk],ZC++[ys]):=by unfold Aj;rw[hp]
     rw[this];exact sr
   .cases e
  .cases e
 .cases e
end
section
variable{X:Cx}{Z:eM X.K}{pos:Pos}
theorem xM:PE X (.Dict [] [] pos) (Ze Z KH):=V4.imp λ_ _ _ h=>nV h
theorem nU(i j){y:Str}{px py p2 ap1 cp1 ZD cpos}(hu:X.A.units+64<f9)(hk:PE X k (Ze Z fk))(hN:‹X.N[i]? =aA x›)(hv:‹Xp X.env.scope x›)(hd:‹(x==("__debug__":Str))=aD›)(ZS:‹(x==("__classdict__":Str))=aD›)(GW:‹X.N[j]? =aA y›)(XG:‹Xp X.env.scope y›)(XI:‹(y==("__debug__":Str))=aD›)(RW:‹(y==("__classdict__":Str))=aD›)(m:‹M2 X (.Name x px) "setdefault" ap1 k (.List [] p2) cp1›)(ZO:‹attributeBase (.Call (.Attribute (.Name x px) "setdefault" ap1) [k,.List [] p2] [] cp1) "append" X.env (ip (.Call (.Attribute (.Name x px) "setdefault" ap1) [k,.List [] p2] [] cp1) X.env)=ip (.Call (.Attribute (.Name x px) "setdefault" ap1) [k,.List [] p2] [] cp1) X.env›)(YN:‹((gd cpos (bd [.Name y py] X.env)).all (λx=>!x.1)&&(backToKw cpos (keywordEach [] X.env)).all (λx=>x.1.isSome)&&decide ([Expr.Name y py].length+([]:List Keyword).length+(if([]:List Keyword).isEmpty then 0 else 1)<30))=aC›)(ZN:‹(ZD.endLine==cpos.line)=aC›)(hs:‹bd [.Name y py] X.env=(aD,ip (.Name y py) X.env)::bd [] X.env›)(ZI:‹(gd cpos (bd [] X.env)).any (·.1)=aD›)(W':‹swapsWith (.Call (.Attribute (.Call (.Attribute (.Name x px) "setdefault" ap1) [k,.List [] p2] [] cp1) "append" ZD) [.Name y py] [] cpos) aB pos.line X.env=pure aD›):
  PS X (.Expr (.Call (.Attribute (.Call (.Attribute (.Name x px) "setdefault" ap1) [k,.List [] p2] [] cp1) "append" ZD) [.Name y py] [] cpos) pos) (Yf Z (T5 i fk j aD)):=
 (Al (Sm PySem.F.plainAttrs_list PySem.F.slot_list_append PySem.F.type_list_append M3 (Pt (by omega) (Oa (i:=i) hN hv hd ZS) hk (Xw Cv) m) (B5 (Oa (i:=j) GW XG XI RW) Cv hs) ZO YN ZN hs ZI) W').imp λ_ _ _ h=>xN (ext:=aD) h
theorem nR(i j){y:Str}{px py p2 ap1 cp1 ZD cpos}(hu:X.A.units+64<f9)(hk:PE X k (Ze Z fk))(hN:‹X.N[i]? =aA x›)(hv:‹Xp X.env.scope x›)(hd:‹(x==("__debug__":Str))=aD›)(ZS:‹(x==("__classdict__":Str))=aD›)(GW:‹X.N[j]? =aA y›)(XG:‹Xp X.env.scope y›)(XI:‹(y==("__debug__":Str))=aD›)(RW:‹(y==("__classdict__":Str))=aD›)(m:‹M2 X (.Name x px) "setdefault" ap1 k (.List [] p2) cp1›)(ZO:‹attributeBase (.Call (.Attribute (.Name x px) "setdefault" ap1) [k,.List [] p2] [] cp1) "extend" X.env (ip (.Call (.Attribute (.Name x px) "setdefault" ap1) [k,.List [] p2] [] cp1) X.env)=ip (.Call (.Attribute (.Name x px) "setdefault" ap1) [k,.List [] p2] [] cp1) X.env›)(YN:‹((gd cpos (bd [.Name y py] X.env)).all (λx=>!x.1)&&(backToKw cpos (keywordEach [] X.env)).all (λx=>x.1.isSome)&&decide ([Expr.Name y py].length+([]:List Keyword).length+(if([]:List Keyword).isEmpty then 0 else 1)<30))=aC›)(ZN:‹(ZD.endLine==cpos.line)=aC›)(hs:‹bd [.Name y py] X.env=(aD,ip (.Name y py) X.env)::bd [] X.env›)(ZI:‹(gd cpos (bd [] X.env)).any (·.1)=aD›)(W':‹swapsWith (.Call (.Attribute (.Call (.Attribute (.Name x px) "setdefault" ap1) [k,.List [] p2] [] cp1) "extend" ZD) [.Name y py] [] cpos) aB pos.line X.env=pure aD›):
  PS X (.Expr (.Call (.Attribute (.Call (.Attribute (.Name x px) "setdefault" ap1) [k,.List [] p2] [] cp1) "extend" ZD) [.Name y py] [] cpos) pos) (Yf Z (T5 i fk j aC)):=
 (Al (Sm PySem.F.plainAttrs_list PySem.F.slot_list_extend PySem.F.type_list_extend xO (Pt (by omega) (Oa (i:=i) hN hv hd ZS) hk (Xw Cv) m) (B5 (Oa (i:=j) GW XG XI RW) Cv hs) ZO YN ZN hs ZI) W').imp λ_ _ _ h=>xN (ext:=aC) h
end
end
section
open PySem.Calls
def sG:V->V->Hp->VK->Prop:=λx y H Q=>∃a b kvs ep bs k v,x= .ref a/\y= .ref b/\H a=aA (.dN kvs ep bs)/\Jo H k b/\Jp kvs k=aA v/\Q v H
noncomputable def Itn(a:au)(n ep:Nat):It:=
 ⟨λi H=>∃kvs bs,H a=aA (.dN kvs ep bs)/\kvs.length=n/\i<n,λi H x H'=>H'=H/\∃kvs bs b,H a=aA (.dN kvs ep bs)/\bs[i]? =aA b/\x= .ref b,λi H=>∃kvs bs,H a=aA (.dN kvs ep bs)/\kvs.length=n/\n<=i⟩
theorem nQ{P:cg}{w:dn}{K:af}{tg:da}(a it:au)(n ep:Nat):Turn P w K tg (Itn a n ep) [it] it (λi h=>h.IsKeyIter it a i n ep)where
 mem:=ac
 obj:=(Cd (P:=P) (w:=w) (K:=K) (tg:=tg) a it n ep).obj
 keep:=(Cd (P:=P) (w:=w) (K:=K) (tg:=tg) a it n ep).keep
 item:=by
  intro X hP hw hK hc i eB s σ H E I hf st hg;subst hP hw hK;obtain⟨kvs,bs,hq,hn,hi⟩:=hg;obtain⟨z,hd,xs,rel,od,es,g,x,c,en,nd,UB⟩:=(show Yp X.prog X.w H s.heap a (.dN kvs ep bs)from I.hok a _ hq)
  obtain⟨f0,f1,f2,f3,f4,f5⟩:=hf it ac;have TW:kvs[i]? =aA (kvs[i]'(by omega)):=ar (by omega);obtain⟨vv,hv,hr⟩:=U7 rel TW;have hz:es.size=n:=by rw[<-ba,en,ah,<-Paired.length rel,hn]
  have he:es[i]? =aA (entryOfKey (Ko X.prog X.w) vv):=by rw[<-dh,en,az,hv];rfl
  refine E6 st g c hz he λh' YD sb=>?_;have I1:eG X eB σ H {s with heap:=h'}:=I.turned (t':=s.toks) (λb o hb e=>(sb.2 b hb).trans e) f0 f1 f3 f4 f5;obtain⟨o,e1,c1,d1⟩:=id YD;exact⟨.ref vv.2.1,rfl,Eg (s:={s with heap:=h'}) e1 c1 d1 (by decide) ⟨.ref vv.2.1,H,I1,rfl,⟨rfl,kvs,bs,vv.2.1,hq,by rw[<-UB,az,hv];rfl,rfl⟩,YD,λb hb=>(hf b hb).1⟩⟩
 done:=by
  intro X hP hw hK hc i eB s σ H E I hf st hg;subst hP hw hK;obtain⟨kvs,bs,hq,hn,hi⟩:=hg;obtain⟨z,hd,xs,rel,od,es,g,x,c,en,nd,UB⟩:=(show Yp X.prog X.w H s.heap a (.dN kvs ep bs)from I.hok a _ hq)
  obtain⟨f0,f1,f2,f3,f4,f5⟩:=hf it ac;have hz:es.size=n:=by rw[<-ba,en,ah,<-Paired.length rel,hn]
  exact E7 (I.ok.hd hc) st g c hz hi λh' eb=>⟨rfl,I.turned (t':=s.toks) (λb o hb e=>eb b o hb e) f0 f1 f3 f4 f5⟩
 self:=(Cd (P:=P) (w:=w) (K:=K) (tg:=tg) a it n ep).self
def zj(tl:TE):TI:=λσ H R=>tl σ H λx H1=>∃a kvs ep bs,x= .ref a/\H1 a=aA (.dN kvs ep bs)/\R (Itn a kvs.length ep) H1
theorem nP(hl:PE X l tl):PI X tg l (zj tl):=by
 intro eB s σ H R I h;refine Wq (hl eB s σ H _ I h) λv s1 ZE=>?_;obtain⟨x,H1,I1,r1,q1⟩:=ZE;obtain⟨a,kvs,ep,bs,rfl,hq,q⟩:=q1;cases r1;obtain⟨z,hd,xs,rel,od,es,g,x,c,en,nd,UB⟩:=(show Yp X.prog X.w H1 s1.heap a (.dN kvs ep bs)from I1.hok a _ hq)
 have hz:es.size=kvs.length:=by rw[<-ba,en,ah,<-Paired.length rel]
 refine E5 hd g x c ⟨s1.heap.objs.size,[s1.heap.objs.size],_,_,H1,rfl,I1.kept (t':=s1.toks) λb o e=>aq _ e,nQ a _ kvs.length ep,⟨_,bi _ rfl,rfl,by rw[hz];rfl⟩,λb hb=>?_,q⟩;obtain rfl:=aj.mp hb;exact I1.fpOk (bf _) (I1.hok.fresh (bf _))
end
section
variable{K:af}
theorem jr(h:F a=aA (.dN kvs ep bs))(kb:KN F kvs bs):Bb K (Itn a kvs.length ep) F ((kvs.map (·.1)).map Zr):=λF' H sF sH i=>by have q:H a=aA (.dN kvs ep bs):=sH _ _ (sF _ _ h);refine⟨λd hd=>?_,λhl=>⟨kvs,bs,q,rfl,by simpa using hl⟩⟩;rw[cp,az]at hd;obtain⟨kv,h1,h2⟩:=cu.mp hd;refine⟨⟨kvs,bs,q,rfl,(aw.mp h1).1⟩,λx H' ⟨e1,kvs',bs',b,e2,e3,e4⟩=>?_⟩;subst e1;rw[q]at e2;cases e2;subst e4;obtain⟨b',g1,g2⟩:=U7 (kb.mono sF) h1;rw[e3]at g1;cases g1;rw[<-h2];exact⟨Zk.refl _,[],c7,λ_ h=>(nomatch h),C6 g2⟩
theorem Yv.dX(le:Zk F H)(h:Yv K F H (.dX ks ds) v):∃a kvs ep bs,v= .ref a/\H a=aA (.dN kvs ep bs)/\kvs.map (·.1)=ks/\eF K F ds (kvs.map (·.2)):=by
 obtain⟨sv,ns,e,n,sh,hp⟩:=h;cases sh with
 |fz r=>cases e;cases r with|dX h kb e r=>exact⟨_,_,_,_,rfl,le _ _ h,e,r⟩
 |ol r=>cases e
 |oK e' r=>cases e
 |oT kb e' r=>cases e
 |oN e' r=>cases n
 |oR e' r=>cases n
 |oX kb' e' r=>cases n
 |oD r=>cases n
 |oM kb' e' r=>cases n
 |oL _ r=>cases n
 |oQ e' r=>cases e
theorem Yv.nk(le:Zk F H)(e0:nk? d=aA k)(h:Yv K F H d v):∃b,v= .ref b/\Jo H k b:=by
 rw[KJ e0]at h;obtain⟨sv,ns,e,n,sh,hp⟩:=h;have nt:∀{xs:List D},Zr k≠.lst xs:=fun{xs} z=>by cases k<;> cases z
 have nd:∀{ks:List Key} {xs:List D},Zr k≠.dK ks xs:=fun{ks xs} z=>by cases k<;> cases z
 have vM:∀{ks:List (List Key)} {xs:List D},Zr k≠.dT ks xs:=fun{ks xs} z=>by cases k<;> cases z
 cases sh with
 |fz r=>have e:_=Zr k:=e;simp only[SV.toD]at e;subst e;obtain⟨b,rfl,hb⟩:=C7 r;exact⟨b,rfl,hb.mono λ_ _ q=>le _ _ q⟩
 |ol r=>exact dM e.symm nt
 |oK e' r=>exact dM e.symm nd
 |oT kb e' r=>exact dM e.symm vM
 |oN e' r=>cases n
 |oR e' r=>cases n
 |oX kb' e' r=>cases n
 |oD r=>cases n
 |oM kb' e' r=>cases n
 |oL _ r=>cases n
 |oQ e' r=>exact dM e.symm nd
section
variable{Z:eM K}
@[simp]def ES(fe:FE):FD:=λδ=>(fe δ).bind λp=>(frz p.1 p.2).bind λq=>match q.1 with
 | .dX ks _=>aA (ks.map Zr,q.2)
 |_=>aB
theorem nO(h:Ql Z (ES fe) σ H R):zj (Ze Z fe) σ H R:=by
 obtain⟨F,δ,own,ds,δ',s,e,k⟩:=h;refine eL e λrv δ1 e1 e2=>?_;refine eL e2 λd δ2 e3 e4=>?_;refine⟨F,δ,own,rv,δ1,s,e1,λv H1 F1 ZA sH sF s1 r1=>?_⟩;obtain⟨F2,ZG,s2,r2⟩:=s1.settleR r1;obtain⟨F3,ZH,ZR,s3,r3⟩:=s2.frzR r2 e3;dsimp only at e4;split at e4
 .cases e4;cases r3 with
  |dX h kb e r=>subst e;exact⟨_,_,_,_,rfl,s3.le _ _ h,k _ H1 F3 ZH sH (sF.trans (ZG.trans ZR)) s3 (jr h kb)⟩
 .cases e4
@[simp]def MC(d1 d2:D):Option SV:=match d1 with
 | .dX ks vs=>(nk? d2).bind λk=>(look ks vs k).bind λd=>aA (.fz d)
 |_=>aB
theorem sE:Y4 Z sG MC:=by
 intro F H σ δ own x y d1 d2 sv Q s r1 r2 e k;unfold MC at e;split at e
 .rename_i ks vs;refine eK e λkk e1 e2=>?_;refine eK e2 λd e3 e4=>?_;cases e4;obtain⟨a,kvs,ep,bs,rfl,ha,rfl,rr⟩:=r1.dX s.le;obtain⟨b,rfl,hb⟩:=r2.nk s.le e1;have z:=Ap kk kvs _ rr;rw[e3]at z;obtain⟨v,z1,z2⟩:=z;exact⟨a,b,kvs,ep,bs,kk,v,rfl,rfl,ha,hb,z1,k.fz s z2⟩
 .cases e
@[simp]def V5(i:Nat)(fe:FE):FS:=λδ=>match δ[i]? with
 |some (aA (.ol _))=>(fe δ).bind λp=>(frz p.1 p.2).bind λq=>match q.1,q.2[i]? with
  | .lst ys,aA (aA (.ol xs))=>if xs.length+ys.length<=cf then aA (.nx (q.2.set i (aA (.ol (xs++ys)))))else aB
  |_,_=>aB
 |_=>aB
theorem pO(h:Yf Z (V5 i fe) E σ H):JB (tBM K "list" (KI K) (R8 i) (Kr (Ze Z fe) Xv)) E σ H:=by
 obtain⟨F,δ,own,fl,s,e,k⟩:=h;unfold V5 at e;split at e
 .rename_i xs0 VE;refine eL e λrv δ1 e1 e2=>?_;refine eL e2 λd δ2 e3 e4=>?_;obtain⟨v,hv,sh⟩:=s.at' i _ VE;obtain⟨a,UY,ev,en,r0⟩:=Od sh;refine⟨v,hv,?_,F,δ,own,rv,δ1,s,e1,λy H1 F1 ZA sH sF s1 r1=>?_⟩
  .subst ev;exact .inl ⟨rfl,UY,.inl (.inl (s.ok i (a,.lst UY) (by rw[en];exact ac)).2.2)⟩
  obtain⟨F2,ZG,s2,r2⟩:=s1.settleR r1;obtain⟨F3,ZH,ZR,s3,r3⟩:=s2.frzR r2 e3;dsimp only at e4;split at e4
  .rename_i ys xs hx;by_cases hz:xs.length+ys.length<=cf
   .rw[dG hz]at e4;cases e4;obtain⟨v',XG,UO⟩:=s3.at' i _ hx;rw[hv]at XG;cases XG;obtain⟨b,vs,eb,R_,r'⟩:=Od UO;have mb:(b,HO.lst vs)∈ZH i:=by rw[R_];exact ac
    subst eb;cases r3 with
    | @lst l _ us hl _ ru=>refine⟨b,l,vs,us,rfl,rfl,(s3.ok i _ mb).2.2,Wn s3.le hl,by rw[<-r'.length,<-ru.length];exact hz,?_⟩;exact k σ _ F3 _ (sF.trans (ZG.trans ZR)) (s3.change (sv':=.ol (xs++ys)) (o':=.lst (vs++us)) (ns':=[(b,.lst (vs++us))]) hx hv mb (.ol (r'.append ru)) (λp hp=>.inl (aj.mp hp)) Ke)
   .rw[dF hz]at e4;cases e4
  .cases e4
 .cases e
@[simp]def Pu(j ia il:Nat):FS:=λδ=>match δ[ia]?,δ[il]? with
 |some (aA (.fz (.lst hs))),aA (aA (.ol xs))=>(xs[xs.length- 1]?).bind λd=>(ixD (.lst hs) d).bind λsv=>(stow j (.tmp sv) (δ.set il (aA (.ol xs.dropLast)))).bind λδ'=>aA (.nx δ')
 |_,_=>aB
theorem eF.dropLast(r:eF K F ds vs):eF K F ds.dropLast vs.dropLast:=by rw[List.dropLast_eq_take,List.dropLast_eq_take,<-r.length];exact r.take _
theorem nN(h:Yf Z (Pu j ia il) E σ H):Xq (tOp (rIx K) (R8 ia) (AZ K "list" AY (R8 il))) (Tt j) E σ H:=by
 obtain⟨F,δ,own,fl,s,e,k⟩:=h;unfold Pu at e;split at e
 .rename_i hs xs VY WR;refine eK e λd e1 e=>?_;refine eK e λsv e2 e=>?_;refine eK e λδ2 e3 e=>?_;cases e;obtain⟨x,hx,wt⟩:=s.at' ia _ VY;have rx:=Uh wt;obtain⟨y,hy,JM⟩:=s.at' il _ WR;obtain⟨a,vs,ea,en,ra⟩:=Od JM;subst ea;have mb:(a,HO.lst vs)∈own il:=by rw[en];exact ac
  have hHa:=(s.ok il _ mb).2.2;obtain⟨v,hv,rv⟩:=ra.get e1;have hl:=ra.length;refine⟨x,hx,.ref a,hy,.inl ⟨rfl,vs,.inl (.inl hHa)⟩,a,vs,v,rfl,rfl,hHa,by rw[<-hl];exact hv,?_⟩;have s2:=s.change (sv':=.ol xs.dropLast) (o':=.lst vs.dropLast) (ns':=[(a,.lst vs.dropLast)]) WR hy mb (.ol ra.dropLast) (λp hp=>.inl (aj.mp hp)) Ke;refine AI F _ σ _ _ x v (.lst hs) d sv _ s2 (Yv.of rx) (Yv.of rv) e2 λw H3 F3 ns sH sF s3 t3=>?_;obtain⟨F4,ZU,YK,s4⟩:=s3.stow (rv:=.tmp sv) (v:=w) ⟨ns,t3⟩ e3;exact k _ H3 F4 ZU (sF.trans YK) s4
 .cases e
@[simp]def KG(j:Nat)(f1:FE):FE:=λδ=>match δ[j]? with
 |some (aA (.fz kd))=>kd.key?.bind λk=>(Zl f1 Zt δ).bind λp=>match p.1 with
  | [v1]=>aA (.tmp (.oK [k] [v1]),p.2)
  |_=>aB
 |_=>aB
theorem nM(h:Ze Z (KG j f1) σ H Q):yY [(R8 j,Ze Z f1)] σ H Q:=by
 obtain⟨F,δ,own,rv,δ',s,e,k⟩:=h;unfold KG at e;split at e
 .rename_i kd hx;refine eK e λkk e0 e=>?_;refine eL e λds δ1 e1 e2=>?_;dsimp only at e2;split at e2
  .rename_i v1;cases e2;obtain⟨v,hv,sh⟩:=s.at' j _ hx;have r:=Uh sh;have ev:v=kV kk:=xr e0 r;have hd:Q5 Z (Zl f1 Zt) σ H (λvs H'=>∃kvs:List (Key×V),([kV kk].zip vs)=kvs.map (λkv=>(kV kv.1,kv.2))/\kvs.length<=15/\∀p ep,H' p=aB->Q (.ref p) (Y7 H' p (.dK (B7 [] kvs) ep))):=by
    refine⟨F,δ,own,[v1],_,s,e1,λvs H1 F1 ZA sH sF s1 r1=>?_⟩;obtain⟨w1,rfl⟩:∃w1,vs=[w1]:=by
     cases r1 with
     |cons h t=>cases t;exact⟨_,rfl⟩
    refine⟨[(kk,w1)],rfl,by show 1<=15;decide,λp ep hp=>?_⟩;have nd:((([]:List (Key×V))++[(kk,w1)]).map (·.1)).Nodup:=by simp
    rw[Le _ [] nd,d4];exact Fin.one (λw H' F' ns a b c t=>k w H' F' ZA (sH.trans a) (sF.trans b) c ⟨ns,t⟩) s1 (.oK rfl r1) hp
   have h2:=Er (fe:=f1) (fd:=Zt) hd;refine⟨v,hv,?_⟩;rw[ev];refine Hs (λu H1 q=>?_) h2;have z:=K6 q;exact z
  .cases e2
 .cases e
end
section
variable{X:Cx}{Z:eM X.K}{a b c:da}{fa fb fc:FE}{pos:Pos}
theorem pN(ha:PE X a (Ze Z fa)):PI X tg a (Ql Z (ES fa)):=λeB s σ H R I h=>nP ha eB s σ H R I (nO h)
theorem zi(hu:X.A.units+64<f9)(ha:PE X a (Ze Z fa))(hb:PE X b (Ze Z fb))(hs:‹Np b›):PE X (.Subscript a b pos) (Ze Z (Zj MC fa fb)):=λeB s σ H Q I h=>nX (by omega) ha hb hs eB s σ H Q I (K5 sE h)
theorem yU(i){px ZD cpos}(hb:PE X b (Ze Z fb))(hN:‹X.N[i]? =aA x›)(hv:‹Xp X.env.scope x›)(hd:‹(x==("__debug__":Str))=aD›)(ZS:‹(x==("__classdict__":Str))=aD›)(ZO:‹attributeBase (.Name x px) "extend" X.env (ip (.Name x px) X.env)=ip (.Name x px) X.env›)(YN:‹((gd cpos (bd [b] X.env)).all (λx=>!x.1)&&(backToKw cpos (keywordEach [] X.env)).all (λx=>x.1.isSome)&&decide ([b].length+([]:List Keyword).length+(if([]:List Keyword).isEmpty then 0 else 1)<30))=aC›)(ZN:‹(ZD.endLine==cpos.line)=aC›)(hs:‹bd [b] X.env=(aD,ip b X.env)::bd [] X.env›)(ZI:‹(gd cpos (bd [] X.env)).any (·.1)=aD›)(W':‹swapsWith (.Call (.Attribute (.Name x px) "extend" ZD) [b] [] cpos) aB pos.line X.env=pure aD›):
  PS X (.Expr (.Call (.Attribute (.Name x px) "extend" ZD) [b] [] cpos) pos) (Yf Z (V5 i fb)):=
 (Al (Sm PySem.F.plainAttrs_list PySem.F.slot_list_extend PySem.F.type_list_extend xO (Oa (i:=i) hN hv hd ZS) (B5 hb Cv hs) ZO YN ZN hs ZI) W').imp λ_ _ _ h=>pO h
theorem nL(j ia il){py pz ZD cpos p1 p2}(hn:X.N.Nodup)(hy:PE X (.Name y py) (R8 ia))(hz:PE X (.Name z pz) (R8 il))(hj:‹X.N[j]? =aA x›)(hl:‹Loc X.env.scope x›)(ZO:‹attributeBase (.Name z pz) "pop" X.env (ip (.Name z pz) X.env)=ip (.Name z pz) X.env›)(ZN:‹(ZD.endLine==cpos.line)=aC›)(hs:‹swapsWith (.Subscript (.Name y py) (.Call (.Attribute (.Name z pz) "pop" ZD) [] [] cpos) p2) (aA (.Name x p1)) pos.line X.env=pure aD›)(hf:‹X.fn x=aC\/X.env.scope.names.lookup x=aA .local›):
  PS X (.Assign [.Name x p1] (.Subscript (.Name y py) (.Call (.Attribute (.Name z pz) "pop" ZD) [] [] cpos) p2) pos) (Yf Z (Pu j ia il)):=
 (Xr hn hj hl (yA xD hy (po PySem.F.plainAttrs_list PySem.F.slot_list_pop PySem.F.type_list_pop pi hz ZO ZN) (by intro _ _;rfl)) hs hf).imp λ_ _ _ h=>nN h
theorem nK(j){p2}(hb:PE X b (Ze Z fb))(hN:‹X.N[j]? =aA x›)(hv:‹Xp X.env.scope x›)(hd:‹(x==("__debug__":Str))=aD›)(ZS:‹(x==("__classdict__":Str))=aD›):PE X (.Dict [aA (.Name x p2)] [b] pos) (Ze Z (KG j fb)):=
 (kY (jG (Oa (i:=j) hN hv hd ZS) hb lT) (by rfl) (by rfl) (by simp) (by show 1<=15;decide)).imp λ_ _ _ h=>nM h
end
end
section
open PySem.Calls
end
section
open PySem.Calls
end
section
variable{K:af}
abbrev NTs(H:Hp)(bs:List au)(ks:List Zo):Prop:=Paired (λ(b:au) (k:Zo)=>Jo H k b) bs ks
open Classical in
def Kj(H:Hp)(k:Zo):ag->Bool:=λw=>decide (∃b,w= .ref b/\Jo H k b)
theorem xL(h:(G8 a).map kV=(G8 b).map kV):a=b:=by
 have e:∀l:List Str,(G8 l).map kV=l.map V.str:=λl=>by unfold G8;rw[cp];rfl
 rw[e,e]at h;exact Vk h
theorem kU(h:Jo H k b)(h':Jo H k' b):k=k':=by
 cases k with
 |inl l=>
  cases k' with
  |inl l'=>have e:=HO.tup.inj (dq.inj ((show H b=_ from h).symm.trans h'));rw[xL e]
  |inr p=>
   obtain⟨c,h1,h2⟩:=h';have e:=HO.tup.inj (dq.inj ((show H b=_ from h).symm.trans h1));cases l with
   |nil=>simp[G8]at e
   |cons x l=>simp[G8,kV]at e
 |inr p=>
  obtain⟨c,h1,h2⟩:=h;cases k' with
  |inl l'=>
   have e:=HO.tup.inj (dq.inj (h1.symm.trans (show H b=_ from h')));cases l' with
   |nil=>simp[G8]at e
   |cons x l=>simp[G8,kV]at e
  |inr p'=>obtain⟨c',QX,VC⟩:=h';have e:=HO.tup.inj (dq.inj (h1.symm.trans QX));simp at e;obtain⟨e1,e2⟩:=e;subst e2;have e3:=HO.tup.inj (dq.inj (h2.symm.trans VC));obtain⟨n,l⟩:=p;obtain⟨n',l'⟩:=p';rw[show n=n' from e1,show l=l' from xL e3]
theorem V6(h:Jo H k' b):Kj H k (.ref b)=decide (k'=k):=by
 unfold Kj;by_cases e:k'=k
 .subst e;rw[dJ rfl];exact @dJ _ (Classical.propDecidable _) ⟨b,rfl,h⟩
 .rw[dH e];exact @dH _ (Classical.propDecidable _) λ⟨b',z,q⟩=>by cases z;exact e (kU h q)
theorem Iw:∀{bs:List au} {ks:List Zo},NTs H bs ks->(bs.map cr).any (Kj H k)=ks.any λx=>decide (x=k)
 |_,_,.nil=>rfl
 |c::bs,x::ks,.cons h t=>by rw[ay,List.any_cons,List.any_cons,V6 h,Iw t]
def LU(K:af)(RC:Bool):R2:=λx y H Q=>∃b k a bs ks,x= .ref b/\Jo H k b/\y= .ref a/\Bm K H a (bs.map V.ref)/\NTs H bs ks/\(∀k'∈ks,W2 48 (Zr k') (Zr k)=aA (decide (k'=k)))/\Q (.bl (if RC then !(ks.any λx=>decide (x=k))else ks.any λx=>decide (x=k))) H
theorem Ix{σ:L2.St}(I:eG X eB σ H s)(hu:A.units+48<f9)(hb:Jo H k b):∀{bs:List au} {ks:List Zo},NTs H bs ks->(∀k'∈ks,W2 48 (Zr k') (Zr k)=aA (decide (k'=k)))->∀u∈bs.map cr,SeqAt.EqAt A s u (.ref b) (Kj H k u)
 |_,_,.nil,_,u,hm=>nomatch hm
 |c::bs,x::ks,.cons h t,hq,u,hm=>by
  rw[ay]at hm;rcases b7.mp hm with z|z
  .subst z;rw[V6 h];exact M8 I (Zk.refl H) 48 A (Zr x) (Zr k) _ (.ref c) (.ref b) _ _ hu (C6 h) rfl (C6 hb) rfl (hq x ac)
  .exact Ix I hu hb t (λk' hk=>hq k' (ao _ hk)) u z
theorem pM(hu:X.A.units+64<f9):Bo X (ik .In) (LU X.K aD):=by intro eB s σ H x y v u Q I rx ry h;obtain⟨b,k,a,bs,ks,rfl,hb,rfl,hq,ht,he,q⟩:=h;cases rx;cases ry;obtain⟨eC,r,pl,hz⟩:=I.list hq;have ei:=Nw r;subst ei;refine SeqAt.in_listAt (Kj H k) pl.isList (λw hw=>Ix I (by have:X.A.in1.units=X.A.units+1:=rfl;omega) hb ht he w (by simpa using hw)) ⟨.bl _,H,I,rfl,?_⟩;rw[show(bs.map cr).toArray.any (Kj H k)=(bs.map cr).any (Kj H k) by simp,Iw ht];exact q
theorem jq(hu:X.A.units+64<f9):Bo X (ik .NotIn) (LU X.K aC):=by intro eB s σ H x y v u Q I rx ry h;obtain⟨b,k,a,bs,ks,rfl,hb,rfl,hq,ht,he,q⟩:=h;cases rx;cases ry;obtain⟨eC,r,pl,hz⟩:=I.list hq;have ei:=Nw r;subst ei;refine SeqAt.notIn_listAt (Kj H k) pl.isList (λw hw=>Ix I (by have:X.A.in1.units=X.A.units+1:=rfl;omega) hb ht he w (by simpa using hw)) ⟨.bl _,H,I,rfl,?_⟩;rw[show(bs.map cr).toArray.any (Kj H k)=(bs.map cr).any (Kj H k) by simp,Iw ht];exact q
open Classical in
def inN(d1 d2:D):Option SV:=match d2 with
 | .lst xs=>(nk? d1).bind λk=>(nks? xs).bind λks=>if(∀k'∈ks,W2 48 (Zr k') (Zr k)=aA (decide (k'=k)))then aA (.fz (.bl (ks.any λx=>decide (x=k))))else aB
 |_=>aB
open Classical in
def Rt(d1 d2:D):Option SV:=match d2 with
 | .lst xs=>(nk? d1).bind λk=>(nks? xs).bind λks=>if(∀k'∈ks,W2 48 (Zr k') (Zr k)=aA (decide (k'=k)))then aA (.fz (.bl (!(ks.any λx=>decide (x=k)))))else aB
 |_=>aB
theorem pL{ks:List Zo}(h:∀k'∈ks,W2 48 (Zr k') (Zr k)=aA (decide (k'=k))):inN (Zr k) (.lst (ks.map Zr))=aA (.fz (.bl (ks.any λx=>decide (x=k)))):=by unfold inN;dsimp only;rw[Cj];dsimp only[cm];rw[As];dsimp only[cm];rw[dG h]
theorem jp{ks:List Zo}(h:∀k'∈ks,W2 48 (Zr k') (Zr k)=aA (decide (k'=k))):Rt (Zr k) (.lst (ks.map Zr))=aA (.fz (.bl (!(ks.any λx=>decide (x=k))))):=by unfold Rt;dsimp only;rw[Cj];dsimp only[cm];rw[As];dsimp only[cm];rw[dG h]
theorem Dj:∀{ks:List Zo} {vs:List V},eF K F (ks.map Zr) vs->∃bs,vs=bs.map V.ref/\NTs F bs ks
 | [],_,h=>by cases h;exact⟨[],rfl,.nil⟩
 |k::ks,_,h=>by
  cases h with
  |cons h t=>obtain⟨b,rfl,hb⟩:=C7 h;obtain⟨bs,rfl,UB⟩:=Dj t;exact⟨b::bs,rfl,.cons hb UB⟩
section
variable{Z:eM K}
theorem sD:Y4 Z (LU K aD) inN:=by
 intro F H σ δ own x y d1 d2 sv Q s r1 r2 e k;unfold inN at e;split at e
 .refine eK e λkk e1 e=>?_;refine eK e λks e2 e=>?_;split at e
  .rename_i hq;cases e;obtain⟨b,rfl,hb⟩:=r1.nk s.le e1;obtain⟨a,us,rfl,hs,ru⟩:=r2.lst s.le;rw[Ps e2]at ru;obtain⟨bs,rfl,tb⟩:=Dj ru;exact⟨b,kk,a,bs,ks,rfl,hb,rfl,hs,Paired.mapP tb λ_ _ z=>z.mono λ_ _ w=>s.le _ _ w,hq,k.fz s (.bl _)⟩
  .cases e
 .cases e
theorem kR:Y4 Z (LU K aC) Rt:=by
 intro F H σ δ own x y d1 d2 sv Q s r1 r2 e k;unfold Rt at e;split at e
 .refine eK e λkk e1 e=>?_;refine eK e λks e2 e=>?_;split at e
  .rename_i hq;cases e;obtain⟨b,rfl,hb⟩:=r1.nk s.le e1;obtain⟨a,us,rfl,hs,ru⟩:=r2.lst s.le;rw[Ps e2]at ru;obtain⟨bs,rfl,tb⟩:=Dj ru;exact⟨b,kk,a,bs,ks,rfl,hb,rfl,hs,Paired.mapP tb λ_ _ z=>z.mono λ_ _ w=>s.le _ _ w,hq,k.fz s (.bl _)⟩
  .cases e
 .cases e
end
end
end L2
namespace RV
end RV
namespace L2
section
open RV
end
section
variable{K:af}{Z:eM K}
section
variable{X:Cx}{Z:eM X.K}{a b c:da}{fa fb fc:FE}{pos:Pos}
theorem sC(hv:X.A.units+64<f9)(ha:PE X a (Ze Z fa))(hb:PE X b (Ze Z fb))(hm:‹behindInMarks .In b=aD›):PT X (.Compare a [.In] [b] pos) (Yj Z (Yg (Zj inN fa fb))):=Re (pM hv) sD ha hb hm
theorem kQ(hv:X.A.units+64<f9)(ha:PE X a (Ze Z fa))(hb:PE X b (Ze Z fb))(hm:‹behindInMarks .NotIn b=aD›):PT X (.Compare a [.NotIn] [b] pos) (Yj Z (Yg (Zj Rt fa fb))):=Re (jq hv) kR ha hb hm
end
end
section
variable{K:af}
theorem kP(h:eN K F (.oM ks ds) v ns):∃a kvs ep bs,v= .ref a/\ns=[(a,.dN kvs ep bs)]/\KN F kvs bs/\kvs.map (·.1)=ks/\eF K F ds (kvs.map (·.2)):=by
 cases h with
 |oM kb e r=>exact⟨_,_,_,_,rfl,rfl,kb,e,r⟩
section
variable{Z:eM K}
@[simp]noncomputable def ER:FE:=λδ=>some (.tmp (.oM [] []),δ)
theorem nJ(h:Ze Z ER σ H Q):Di σ H Q:=by obtain⟨F,δ,own,rv,δ',s,e,k⟩:=h;cases e;intro p hp;have f:Fin Z F H σ δ own (.oM [] []) Q:=λv H' F' ns a b c t=>k v H' F' own a b c ⟨ns,t⟩;exact f.one s (.oM (kvs:=[]) .nil rfl .nil) hp
theorem yT(s:SR Z F H σ δ own)(e:δ[i]? =aA (aA (.oM ks ds))):∃a kvs ep bs,σ[i]? =aA (aA (.ref a))/\own i=[(a,.dN kvs ep bs)]/\H a=aA (.dN kvs ep bs)/\KN F kvs bs/\kvs.map (·.1)=ks/\eF K F ds (kvs.map (·.2)):=by obtain⟨x,hx,sh⟩:=s.at' i _ e;obtain⟨a,kvs,ep,bs,rfl,en,kb,ek,r⟩:=kP sh;exact⟨a,kvs,ep,bs,hx,en,(s.ok i (a,.dN kvs ep bs) (by rw[en];exact ac)).2.2,kb,ek,r⟩
def Be(j i:Nat)(fk fv:FE):FS:=λδ=>match δ[i]? with
 |some (aA (.oM _ _))=>(fk δ).bind λp=>(frz p.1 p.2).bind λq=>(nk? q.1).bind λkk=>(fv q.2).bind λr=>(frz r.1 r.2).bind λw=>match w.2[i]? with
  |some (aA (.oM ks ds))=>if ds.length<cf then match Ys ks kk with
   |some p=>(ds[p]?).bind λd=>(stow j (.tmp (.fz d)) w.2).bind λδ'=>aA (.nx δ')
   |none=>(stow j (.tmp (.fz w.1)) (w.2.set i (aA (.oM (ks++[kk]) (ds++[w.1]))))).bind λδ'=>aA (.nx δ')
   else aB
  |_=>aB
 |_=>aB
theorem nH(h:Yf Z (Be j i fk fv) E σ H):Xq (EK (R8 i) (Ze Z fk) (Ze Z fv)) (Tt j) E σ H:=by
 obtain⟨F,δ,own,fl,s,e,k⟩:=h;unfold Be at e;split at e
 .rename_i ks0 ds0 NI;refine eL e λrk δ1 e1 e=>?_;refine eL e λkd δ2 e2 e=>?_;refine eK e λkk e3 e=>?_;refine eL e λXU ZX e4 e=>?_;refine eL e λd QG e5 e=>?_;dsimp only at e2 e3 e5 e;split at e
  .rename_i ks ds hi;split at e
   .rename_i hz;obtain⟨a,OO,UE,No,VE,ud,GX,_⟩:=yT s NI;refine⟨.ref a,VE,a,rfl,⟨_,_,_,GX⟩,F,δ,own,rk,δ1,s,e1,λy H1 F1 ZA OB XE s1 r1=>?_⟩;obtain⟨F2,ZG,s2,r2⟩:=s1.settleR r1;obtain⟨F3,ZH,ZR,s3,r3⟩:=s2.frzR r2 e2;rw[KJ e3]at r3;obtain⟨b,rfl,hb⟩:=C7 r3;refine⟨F3,δ2,ZH,XU,ZX,s3,e4,λz H4 F4 ZU SW YK s4 r4=>?_⟩;obtain⟨F5,MU,s5,r5⟩:=s4.settleR r4;obtain⟨F6,ZQ,wx,s6,r6⟩:=s5.frzR r5 e5;obtain⟨a6,kvs,ep,bs,hx,en,hH,kb,ek,rr⟩:=yT s6 hi;rw[VE]at hx;cases hx;have sFF:=YK.trans (MU.trans wx);have BB:Jo F6 kk b:=hb.mono λ_ _ q=>sFF _ _ q;have ll:ds.length=kvs.length:=by rw[rr.length,ah]
    have sF:Zk F F6:=XE.trans (ZG.trans (ZR.trans sFF));refine⟨kvs,ep,bs,kk,b,rfl,hH,BB.mono λ_ _ q=>s6.le _ _ q,by rw[<-ll];exact hz,?_⟩;have mb:(a,HO.dN kvs ep bs)∈ZQ i:=by rw[en];exact ac
    cases hp:Ys ks kk with
    |some p=>rw[hp]at e;refine eK e λd' e6 e=>?_;refine eK e λML e7 e=>?_;cases e;obtain⟨v,g1,g2⟩:=Th (kvs:=kvs) (by rw[ek];exact hp);obtain⟨v',g3,g4⟩:=rr.get e6;rw[g1]at g3;cases g3;obtain⟨F7,VI,MT,s7⟩:=s6.stow (rv:=.tmp (.fz d')) (v:=v) ⟨[],eW.fz g4⟩ e7;exact .inl ⟨v,g2,k _ H4 F7 VI (sF.trans MT) s7⟩
    |none=>rw[hp]at e;refine eK e λML e7 e=>?_;cases e;refine .inr ⟨Ti (kvs:=kvs) (by rw[ek];exact hp),λYI=>?_⟩;have s7:=s6.change (sv':=.oM (ks++[kk]) (ds++[d])) (o':=.dN (kvs++[(kk,z)]) YI (bs++[b])) (ns':=[(a,.dN (kvs++[(kk,z)]) YI (bs++[b]))]) hi VE mb (.oM (kb.snoc BB) (by rw[b8,ek];rfl) (by rw[b8];exact rr.snoc r6)) (λq hq=>.inl (aj.mp hq)) Ke;obtain⟨F8,OF,JO,s8⟩:=s7.stow (rv:=.tmp (.fz d)) (v:=z) ⟨[],eW.fz r6⟩ e7;exact k _ _ F8 OF (sF.trans JO) s8
   .cases e
  .cases e
 .cases e
end
section
variable{X:Cx}{Z:eM X.K}{a b c:da}{fa fb fc:FE}{pos:Pos}
theorem mC:PE X (.Dict [] [] pos) (Ze Z ER):=V4.imp λ_ _ _ h=>nJ h
theorem mB(j i){x:Str}{py ZD cpos p1}(hn:X.N.Nodup)(hu:X.A.units+64<f9)(ha:PE X a (Ze Z fa))(hb:PE X b (Ze Z fb))(hN:‹X.N[i]? =aA y›)(hv:‹Xp X.env.scope y›)(hd:‹(y==("__debug__":Str))=aD›)(ZS:‹(y==("__classdict__":Str))=aD›)(hj:‹X.N[j]? =aA x›)(hl:‹Loc X.env.scope x›)(m:‹M2 X (.Name y py) "setdefault" ZD a b cpos›)(hs:‹swapsWith (.Call (.Attribute (.Name y py) "setdefault" ZD) [a,b] [] cpos) (aA (.Name x p1)) pos.line X.env=pure aD›)(hf:‹X.fn x=aC\/X.env.scope.names.lookup x=aA .local›):
  PS X (.Assign [.Name x p1] (.Call (.Attribute (.Name y py) "setdefault" ZD) [a,b] [] cpos) pos) (Yf Z (Be j i fa fb)):=
 (Xr hn hj hl (Pt (by omega) (Oa (i:=i) hN hv hd ZS) ha hb m) hs hf).imp λ_ _ _ h=>nH h
end
end
section
open PySem.Calls
end
abbrev AtF(K:af)(x:Str)(st:Stmt)(f:au)(fd:FuncData):Prop:=PySem.W.nsIn K mainGlobals x=aA (aA (.ref f))/\Fun K x x st f fd
abbrev AtC(K:af)(c:au)(x:Str)(st:Stmt)(f:au)(fd:FuncData):Prop:=PySem.W.nsIn K mainGlobals x=aA (aA (.ref f))/\L2.FunC K x x st f fd c
abbrev Und(K:af)(mg:Str->Option ag):Prop:=∀{x:Str} {v:ag},PySem.W.nsIn K mainGlobals x=aA (aA v)->mg x=aA v
def Sv(P:cg)(w:dn)(K:af)(mg:Str->Option ag)(base:f8)(CX:CXT)(k:Nat)(x:Str)(ps:List Str)(sp:Sp):Prop:=
 ∃f fd,FnOk P w K mg base CX k f fd ps sp/\mg x=aA (.ref f)/\PySem.W.keepIn K (.ref f)=aC/\Tu K fd ps []
structure Sc(x:Str)(st:Stmt)(n:Nat)(N:List Str):Prop where
 S:FnScope N (N.take n) (Yt st)
 B:∀(kV ZW pm:ag) (an:Option au) (ZP ct:ag) (us:List ag),us.length=(N.take n).length->bindArgs (PySem.W.fnOf x x (Ux st) (Qs st) (Yt st) .none kV ZW pm an ZP ct) ⟨us,[]⟩=pure ((N.take n).zip us)
 n:n=(N.take n).length
abbrev HB(P:cg)(w:dn)(K:af)(mg:Str->Option ag)(base:f8)(N:List Str)(x:Str)(st:Stmt)(f:au)(k:Nat)(p:Hp->Prop)(f0:FS)(ZP:ag):Prop:=
 ∀{A:dg} {outer:List Env} {s:am} {H F0:Hp} {E:XK},N.Nodup->p H->eT k (A.deeper (envOfC x (Yt st) s.heap.objs.size f ZP))->(A.deeper (envOfC x (Yt st) s.heap.objs.size f ZP)).units+1<f9->(A.deeper (envOfC x (Yt st) s.heap.objs.size f ZP)).units+64<f9->
  M0 (Sj Ot P w K mg base N x (Yt st) f ZP A outer s H E).nox (Qs st) (Yf (ent H F0:eM K) f0)
section
variable{P:cg}{w:dn}{K:af}{mg:Str->Option ag}{base:f8}{x:Str}{st:Stmt}{f:au}{fd:FuncData}
theorem ok0(a:AtF K x st f fd)(k n N g f0)(hb:∀{ZP:ag},HB P w K mg base N x st f k (λ_=>True) f0 ZP)(S:‹Sc x st n N›)(hg:‹g=Y0 f0 N.length›):FnOk P w K mg base Ot (k+1) f fd (N.take n) (Wh K n g):=by
 subst hg;exact a.2.ok S.S (λ_ _ _ _ h=>(Ev h).trans S.n) λZP A outer s H vs Q E hr h=>by obtain⟨F0,h⟩:=Ey (N:=N) (f:=f0) h;exact⟨_,hb S.S.nd trivial hr (DD hr) hr.units,h⟩
theorem Iy(u:Und K mg)(a:∃f fd,AtF K x st f fd)(k n N g f0)(hb:∀{f:au} {ZP:ag},HB P w K mg base N x st f k (λ_=>True) f0 ZP)(S:‹Sc x st n N›)(hg:‹g=Y0 f0 N.length›):Sv P w K mg base Ot (k+1) x (N.take n) (Wh K n g):=by
 obtain⟨f,fd,a⟩:=a;exact⟨f,fd,ok0 a k n N g f0 hb S hg,u a.1,a.2.kp,a.2.binds S.B⟩
variable{tq:au}{q:Str}{c:au}
theorem BU(a:AtF K x st f fd)(k n N g f0)(hb:∀{ZP:ag},HB P w K mg base N x st f k (λH=>H tq=aA (.tab q)) f0 ZP)(S:‹Sc x st n N›)(hg:‹g=Y0 f0 N.length›):FnOk P w K mg base Ot (k+1) f fd (N.take n) (L2.spT tq q (Wh K n g)):=by
 subst hg;exact a.2.ok S.S (λ_ _ _ _ h=>(Ev h.2).trans S.n) λZP A outer s H vs Q E hr h=>by obtain⟨F0,h'⟩:=Ey (N:=N) (f:=f0) h.2;exact⟨_,hb S.S.nd h.1 hr (DD hr) hr.units,h'⟩
theorem LV(u:Und K mg)(a:∃f fd,AtF K x st f fd)(k n N g f0)(hb:∀{f:au} {ZP:ag},HB P w K mg base N x st f k (λH=>H tq=aA (.tab q)) f0 ZP)(S:‹Sc x st n N›)(hg:‹g=Y0 f0 N.length›):Sv P w K mg base Ot (k+1) x (N.take n) (L2.spT tq q (Wh K n g)):=by
 obtain⟨f,fd,a⟩:=a;exact⟨f,fd,BU a k n N g f0 hb S hg,u a.1,a.2.kp,a.2.binds S.B⟩
theorem ux(u:Und K mg)(a:∃f fd,AtC K c x st f fd)(k n N g f0)(hb:∀{f:au},HB P w K mg base N x st f k (λH=>H tq=aA (.tab q)) f0 (.ref c))(S:‹Sc x st n N›)(hg:‹g=Y0 f0 N.length›):Sv P w K mg base Ot (k+1) x (N.take n) (L2.spT tq q (Wh K n g)):=by
 obtain⟨f,fd,a⟩:=a;refine⟨f,fd,?_,u a.1,a.2.kp,a.2.fn.binds S.B⟩;subst hg;exact a.2.ok S.S (λ_ _ _ _ h=>(Ev h.2).trans S.n) λA outer s H vs Q E hr h=>by obtain⟨F0,h'⟩:=Ey (N:=N) (f:=f0) h.2;exact⟨_,hb S.S.nd h.1 hr (DD hr) hr.units,h'⟩
theorem n_(F:Fun K x x st f fd)(h:∀kV ZW pm an ZP ct v,bindArgs (PySem.W.fnOf x x (Ux st) (Qs st) (Yt st) .none kV ZW pm an ZP ct) ⟨[v],[]⟩=pure [(p,v)])(s v):BindsTo s fd ⟨[v],[]⟩ [(p,v)]:=by obtain⟨oc,od,kV,ZW,pm,an,ZP,ct,XM,rfl,lk,ZS⟩:=F.ex;exact .of_eq (h kV ZW pm an ZP ct v)
end
section
variable{X:Cx}{Z:eM X.K}{pos:Pos}{p:Pos}
theorem n9(u:Und X.K X.mg)(h:∃t,PySem.W.nsIn X.K mainGlobals x=aA (aA (.str y t)))(hg:‹Gl X x›)(hd:‹(x==("__debug__":Str))=aD›):PE X (.Name x pos) (Ze Z (Zf (.str y))):=let⟨_,h⟩:=h;mR (u h) hg hd
theorem Ya(S:Sv X.prog X.w X.K X.mg X.base Ot k x ps (Wh X.K n g))(hr:eT j X.A)(ha:PA X (a::es) (Uv Z fr))(hj:‹k<=j›)(hg:‹Gl X x›)(YO:‹(x==("__debug__":Str))=aD›)(he:‹bd (a::es) X.env=(aD,ip a X.env)::bd es X.env›)(ZI:‹(gd pos (bd es X.env)).any (·.1)=aD›):
  PE X (.Call (.Name x p) (a::es) [] pos) (Ze Z (Z8 n g fr)):=
 let⟨_,_,a,b,c,d⟩:=S;oC a (hr.mono hj) b c d ha hg YO he ZI
theorem Ck(hT:Z.h Q=aA (.tab q))(S:Sv X.prog X.w X.K X.mg X.base Ot k x ps (L2.spT Q q (Wh X.K n g)))(hr:eT j X.A)(ha:PA X (a::es) (Uv Z fr))(hj:‹k<=j›)(hg:‹Gl X x›)(YO:‹(x==("__debug__":Str))=aD›)(he:‹bd (a::es) X.env=(aD,ip a X.env)::bd es X.env›)(ZI:‹(gd pos (bd es X.env)).any (·.1)=aD›):
  PE X (.Call (.Name x p) (a::es) [] pos) (Ze Z (Z8 n g fr)):=
 let⟨_,_,a,b,c,d⟩:=S;L2.nq hT a (hr.mono hj) b c d ha hg YO he ZI
end
section
variable{X:Cx}{Z:eM X.K}{pos:Pos}{src:List BSrc}{k:Nat}
theorem Cm(N')(hi:PI X tg ZF (Ql Z fi))(hg:∀{C:au} {s₀:am} {H₀:Hp} {ex:List au} {Y:eM X.K},N'.Nodup->PG (X.block N' scope C s₀ H₀ ex) tg (Oz Y g))(ht:∀{C:au} {s₀:am} {H₀:Hp} {ex:List au},PTs (X.block N' scope C s₀ H₀ ex) YL (xT X.K tt))(he:∀{C:au} {s₀:am} {H₀:Hp} {ex:List au} {Y:eM X.K},PE (X.block N' scope C s₀ H₀ ex) elt (Ze Y te))(hc:‹X.calm=aC›)(S:‹CompScope X N' scope src›)(So:‹SrcOk src k›)(nd:‹N'.Nodup›)(hk:‹k∉g.tch›)(hs:‹∀x,foldedSetIterable ZF X.env x=pure x›):PE X (.ListComp elt [⟨tg,ZF,YL,0⟩] scope pos) (Ze Z (Jg src k fi g tt te)):=
 oB hc S So hk hi (λ_ _ _ _=>xg λ_=>hg nd) (λ_ _ _ _=>ht) (λ_ _ _ _=>xe λ_=>he) hs
theorem Tj(i N'){y}{py spos}(hN:X.N.Nodup)(hi:PI X tg ZF (Ql Z fi))(hg:∀{C:au} {s₀:am} {H₀:Hp} {ex:List au} {Y:eM X.K},N'.Nodup->PG (X.block N' scope C s₀ H₀ ex) tg (Oz Y g))(ht:∀{C:au} {s₀:am} {H₀:Hp} {ex:List au},PTs (X.block N' scope C s₀ H₀ ex) YL (xT X.K tt))(he:∀{C:au} {s₀:am} {H₀:Hp} {ex:List au} {Y:eM X.K},PE (X.block N' scope C s₀ H₀ ex) elt (Ze Y te))(hc:‹X.calm=aC›)(S:‹CompScope X N' scope src›)(So:‹SrcOk src k›)(nd:‹N'.Nodup›)(hk:‹k∉g.tch›)(NF:‹X.N[i]? =aA y›)(hx:‹X.env.scope.names.lookup y=aA .local›)(W':‹swapsWith (.ListComp elt [⟨tg,ZF,YL,0⟩] scope pos) (aA (.Name y py)) spos.line X.env=pure aC›)(hs:‹∀x,foldedSetIterable ZF X.env x=pure x›):PS X (.Assign [.Name y py] (.ListComp elt [⟨tg,ZF,YL,0⟩] scope pos) spos) (Yf Z (Yi i (Jg src k fi g tt te))):=
 i4 i hc S So hk hi (λ_ _ _ _=>xg λ_=>hg nd) (λ_ _ _ _=>ht) (λ_ _ _ _=>xe λ_=>he) hN NF hx W' hs
end
theorem pK{K}{ns:List Int}(hn:g [.lst (ns.map D.int)]=aA (.fz (.bl aC)))(hS:Bm K H a (ns.map V.int)):Wh K 1 g [.ref a] H (λv H'=>v= .bl aC/\Zk H H') λ_ _ _=>False:=by refine⟨H,[.lst (ns.map D.int)],.fz (.bl aC),Zk.refl H,.cons (.lst hS (.inr λd hd=>let⟨i,_,e⟩:=ax.mp hd;⟨i,e.symm⟩) (S6 ns)) .nil,rfl,hn,λv H' F' ms sm _ _ _ sh _ _=>?_⟩;cases Uh sh;exact⟨rfl,sm⟩
abbrev BS(l:PySem.W.OpenLaw)(x:Str)(k:Nat)(g:List D->Option SV)(tq:au)(qn:Str)(K:af)(w:dn)(mg:Str->Option ag)(fa:au):Prop:=
 ∃fd:FuncData,(∀(s:am) (u:ag),BindsTo s fd ⟨[u],[]⟩ [(x,u)])/\∀base:f8,K.In base->base.Ns mainGlobals mg->L2.Bw mg base->FnOk l.prog w K mg base Ot k fa fd [x] (L2.spT tq qn (Wh K 1 g))
theorem fG{K:Params->af}(hn:l.most=aA 63)(NN:d.params.defaults=[])(hY:∀w h,YP w h->(K w.params).In h/\h.get? tq=aA (PySem.W.tabObj #[]))(GI:∀p,PySem.W.codeHdIn (K p) c0 tq=aC)(NT:∀p,(K p).lookup tq=aB)(hr:eT k callerA)(HN:∀ns:List Int,ns.length<=63->g [.lst (ns.map D.int)]=aA (.fz (.bl aC)))(F:∀w mg fa h,(K w.params).In h->h.Ns mainGlobals mg->mg d.name=aA (.ref fa)->BS l x k g tq qn (K w.params) w mg fa):
  PySem.W.WalkO q loose XP YP l.row.toRowW d [] (λf vs=>PySem.call f vs):=
 L2.kN (n:=63) (CX:=Ot) (sp:=λK=>Wh K 1 g) hn (by decide) NN hr hY GI NT F (λ_ _ _ ns hl hS=>pK (HN ns hl) hS) λ_ _ _ _ z=>z
end L2
namespace My
open L2
theorem Qt(h:n<=16777216):n<=PySem.sizeLine:=h
theorem Z9(h:n<16777216):n<PySem.sizeLine:=h
theorem fF(c):(⟨#[c]⟩:Str).length=1:=rfl
theorem n8(ns:List Int)(lo hi):∃ms:List Int,S2 (ns.map D.int) lo hi=ms.map D.int/\ms.length<=ns.length:=by unfold S2;refine⟨(ns.drop _).take _,by rw[List.map_take,List.map_drop],?_⟩;rw[List.length_take,List.length_drop];omega
theorem Bx{te:FE}:∀xs ys,(∀x∈xs,∀zs,te [aA (.fz x),c,aA (.ol zs)]=aA (.tmp (.fz (f x)),[aA (.fz x),c,aA (.ol zs)]))->ys.length+xs.length<=16777216->
  Yd [.own,.cap j,.acc] 2 (Zd 0) W3 te xs [aB,c,aA (.ol ys)]=aA [aB,c,aA (.ol (ys++xs.map f))]
 | [],ys,_,_=>by simp
 |x::xs,ys,h,hl=>by rw[bc]at hl;have ih:=Bx (te:=te) (f:=f) (c:=c) (j:=j) xs (ys++[f x]) (λy hy=>h y (ao _ hy)) (by rw[av];simp;omega);have e1:=h x ac ys;have h4:ys.length<PySem.sizeLine:=Z9 (by omega);simp[e1,h4];simpa using ih
theorem Ru:∀xs,(∀x∈xs,f x x=aA aC)->Bu f xs xs=aA aC
 | [],_=>rfl
 |x::r,h=>by simp[h x ac,Ru r λy hy=>h y (ao _ hy)]
end My
namespace My
open L2 StrLaws Builtin.Str
noncomputable def jl(y:List Nat):List (List Nat)->List Nat
 | []=>[]
 | [p]=>p
 |p::q::r=>p++y++jl y (q::r)
noncomputable def pos(n:Nat):Nat->List (List Nat)->List Nat
 |_,[]=>[]
 |_,[_]=>[]
 |a,p::q::r=>(a+p.length)::pos n (a+p.length+n) (q::r)
end My
namespace My
open L2
theorem Y5(h1:tg.run d δ=aA δ1)(h2:body δ1=aA (.nx δ2)):Yb tg body (d::ds) δ=Yb tg body ds δ2:=by show(tg.run d δ).bind _=_;rw[h1,cm,h2,cm]
theorem n6(h1:tg.run d δ=aA δ1)(h2:body δ1=aA (.rt sv)):Yb tg body (d::ds) δ=aA (.rt sv):=by show(tg.run d δ).bind _=_;rw[h1,cm,h2,cm]
noncomputable abbrev S(l:List Nat):Str:=⟨l.toArray⟩
theorem zh(l):(S l).length=l.length:=by show l.toArray.size=_;simp
theorem sB(a b):S a++S b=S (a++b):=by
 show(⟨a.toArray++b.toArray⟩:Str)=⟨(a++b).toArray⟩
 simp
theorem zg(h:S a=S b):a=b:=by have:a.toArray=b.toArray:=congrArg Str.cps h;simpa using this
theorem BR(x):x=S x.cps.toList:=by cases x;simp
theorem pJ(l):(S l).cps.toList=l:=by simp
theorem Cn(p)(i:Nat)(c:α)(h:p[i]? =aA c):L2.atI p (i:Int)=aA c:=by have hl:=(aw.mp h).1;unfold L2.atI L2.ixN;rw[dG (by omega),dG (by omega)];simpa using h
noncomputable abbrev Co(s n:Nat):List D:=(List.range' s n).map λi:Nat=>D.int (i:Int)
theorem Q6(n):Es 0 n=Co 0 n:=by unfold Es;rw[List.range_eq_range'];refine List.map_congr_left λi _=>?_;simp
theorem Gv{P:Nat->Yy->Prop}:∀n s δ,P s δ->(∀i,s<=i->i<s+n->∀δ,P i δ->∃δ1 δ2,tg.run (.int (i:Int)) δ=aA δ1/\body δ1=aA (.nx δ2)/\P (i+1) δ2)->
  ∃δ',Yb tg body (Co s n) δ=aA (.nx δ')/\P (s+n) δ'
 |0,s,δ,h,_=>⟨δ,rfl,h⟩
 |n+1,s,δ,h,k=>by obtain⟨δ1,δ2,h1,h2,h3⟩:=k s (bf _) (by omega) δ h;obtain⟨δ',e,h'⟩:=Gv (tg:=tg) (body:=body) (P:=P) n (s+1) δ2 h3 λi hi hj=>k i (by omega) (by omega);refine⟨δ',?_,by rw[show s+(n+1)=s+1+n by omega];exact h'⟩;show Yb tg body (.int (s:Int)::Co (s+1) n) δ=_;rw[Y5 h1 h2];exact e
theorem xK{st:List D->Yy}:∀ds ys,
  (∀d∈ds,∀zs QB,zs.length<cf->Yd src k g tt te (d::QB) (st zs)=Yd src k g tt te QB (st (zs++(f d).toList)))->ys.length+ds.length<=16777216->
  Yd src k g tt te ds (st ys)=aA (st (ys++ds.filterMap f))
 | [],ys,_,_=>by simp
 |d::ds,ys,h,hl=>by
  rw[bc]at hl;rw[h d ac ys ds (Z9 (by omega))];have hz:(f d).toList.length<=1:=by cases f d<;> simp
  rw[xK ds (ys++(f d).toList) (λx hx=>h x (ao _ hx)) (by rw[av];omega),d7];congr 3;cases hd:f d with
  |none=>rw[List.filterMap_cons_none hd];rfl
  |some v=>rw[List.filterMap_cons_some hd];rfl
end My
namespace My
open L2 StrLaws Builtin.Str
end My
namespace My
open L2
noncomputable abbrev Z0(xs:List Str):List L2.Key:=xs.map cw
theorem Qn(k):∀xs vs,look (Z0 xs) vs (cw k)=look xs vs k
 | [],[]=>rfl
 | [],_::_=>rfl
 |_::_,[]=>rfl
 |x::xs,v::vs=>by
  show(if(cw x:L2.Key)=cw k then aA v else look (Z0 xs) vs (cw k))=if x=k then aA v else look xs vs k;rw[Qn k xs vs];by_cases h:x=k
  .rw[dG h,dG (by rw[h])]
  .rw[dF h,dF λe=>h (cw.inj e)]
theorem Of(k v xs vs):Wf (Z0 xs) vs (cw k) v=(Z0 (Wf xs vs k v).1,(Wf xs vs k v).2):=by
 have hm:((cw k:L2.Key)∈Z0 xs)↔k∈xs:=by
  constructor
  .intro h;obtain⟨y,hy,e⟩:=ax.mp h;rw[<-cw.inj e];exact hy
  .exact λh=>ax.mpr ⟨k,h,rfl⟩
 unfold Wf;by_cases h:k∈xs
 .rw[dG h,dG (hm.mpr h)];congr 1;have:∀(xs:List Str) (vs:List D),((Z0 xs).zip vs).map (λp=>if p.1=(cw k:L2.Key)then v else p.2)=(xs.zip vs).map λp=>if p.1=k then v else p.2:=by
   intro xs;induction xs with
   |nil=>intro vs;rfl
   |cons x xs ih=>
    intro vs;cases vs with
    |nil=>rfl
    |cons u vs=>
     show(if(cw x:L2.Key)=cw k then v else u)::((Z0 xs).zip vs).map (λp=>if p.1=(cw k:L2.Key)then v else p.2)=(if x=k then v else u)::(xs.zip vs).map λp=>if p.1=k then v else p.2;rw[ih vs];by_cases hx:x=k
     .rw[dG hx,dG (by rw[hx])]
     .rw[dF hx,dF λe=>hx (cw.inj e)]
  exact this xs vs
 .rw[dF h,dF λe=>h (hm.mp e)];simp[Z0]
theorem Og{xs:List Str}(h:k∉xs):Wf xs vs k v=(xs++[k],vs++[v]):=by unfold Wf;rw[dF h]
theorem Iz:∀{vs:List D},xs.Nodup->xs.length=vs.length->∀(i:Nat) (x:Str) v,xs[i]? =aA x->vs[i]? =aA v->look xs vs x=aA v:=by
 induction xs with
 |nil=>intro vs _ _ i x v h;simp at h
 |cons y xs ih=>
  intro vs nd hl i x v hx hv;cases vs with
  |nil=>simp at hv
  |cons u vs=>
   obtain⟨n1,n2⟩:=eh.mp nd;show(if y=x then aA u else look xs vs x)=aA v;cases i with
   |zero=>simp at hx hv;rw[dG hx,hv]
   |succ i=>simp at hx hv;have hm:=bz hx;rw[dF λe=>n1 (by rw[e];exact hm)];exact ih n2 (by simpa using hl) i x v hx hv
theorem Pv(n xs)(h:∀x∈xs,W2 n x x=aA aC):W2 (n+1) (.lst xs) (.lst xs)=aA aC:=by simp[Ru xs h]
theorem n5(n xs)(h:∀x∈xs,W2 n x x=aA aC):W2 (n+1) (.tup xs) (.tup xs)=aA aC:=by simp[Ru xs h]
theorem xJ(n x):W2 (n+1) (.str x) (.str x)=aA aC:=by simp
abbrev NK:=L2.Zo
noncomputable def tE(s:List Nat):List Nat:=s.map (· +1)++[0]
theorem KC:∀s t u v,(tE s++u<tE t++v)↔(s<t\/(s=t/\u<v))
 | [],[],u,v=>by show(0::u<0::v)↔_;rw[List.cons_lt_cons_iff];simp
 | [],b::t,u,v=>by show(0::u<(b+1)::(tE t++v))↔_;rw[List.cons_lt_cons_iff];simp
 |a::s,[],u,v=>by show((a+1)::(tE s++u)<0::v)↔_;rw[List.cons_lt_cons_iff];simp
 |a::s,b::t,u,v=>by
  show((a+1)::(tE s++u)<(b+1)::(tE t++v))↔_;rw[List.cons_lt_cons_iff,KC s t u v,List.cons_lt_cons_iff];constructor
  .rintro(h|⟨h1,h2|⟨h2,h3⟩⟩)
   .exact .inl (.inl (by omega))
   .exact .inl (.inr ⟨by omega,h2⟩)
   .exact .inr ⟨by rw[h2,show a=b by omega],h3⟩
  .rintro((h|⟨h1,h2⟩)|⟨h1,h2⟩)
   .exact .inl (by omega)
   .exact .inr ⟨by omega,.inl h2⟩
   .cases h1;exact .inr ⟨rfl,.inr ⟨rfl,h2⟩⟩
theorem FP:∀s t u v,tE s++u=tE t++v->s=t/\u=v:=by
 intro s;induction s with
 |nil=>intro t u v z;cases t with
  |nil=>exact⟨rfl,by simpa[tE]using z⟩
  |cons b t=>simp[tE]at z
 |cons a s ih=>intro t u v z;cases t with
  |nil=>simp[tE]at z
  |cons b t=>have z:(a+1)::(tE s++u)=(b+1)::(tE t++v):=z;obtain⟨z1,z2⟩:=List.cons.inj z;obtain⟨i1,i2⟩:=ih t u v z2;exact⟨by rw[i1,show a=b by omega],i2⟩
theorem I8{a:Str}(h:a.cps.toList=b.cps.toList):a=b:=by rw[BR a,BR b,h]
def Bf:List Str->List Nat
 | []=>[0]
 |x::l=>1::(tE x.cps.toList++Bf l)
theorem I9:∀{a b:List Str},Bf a=Bf b->a=b
 | [],[],_=>rfl
 | [],_::_,h=>by simp[Bf]at h
 |_::_,[],h=>by simp[Bf]at h
 |x::a,y::b,h=>by obtain⟨_,h2⟩:=List.cons.inj h;obtain⟨e1,e2⟩:=FP _ _ _ _ h2;rw[I8 e1,I9 e2]
theorem Pw(n x y):W2 (n+1) (.str x) (.str y)=aA (decide (x=y)):=by simp
theorem Dk(n x y):L2.Ji (n+1) (.str x) (.str y)=aA (decide (x.cps.toList<y.cps.toList)):=rfl
theorem Fa(n):∀a b,L2.Mk (W2 (n+1)) (L2.Ji (n+1)) (a.map D.str) (b.map D.str)=aA (decide (Bf a<Bf b))
 | [],[]=>by show aA aD=_;exact congrArg aA (by decide)
 | [],y::b=>by show aA aC=_;refine congrArg aA (dJ ?_).symm;show[0]<1::_;rw[List.cons_lt_cons_iff];exact .inl (by decide)
 |x::a,[]=>by show aA aD=_;refine congrArg aA (dH ?_).symm;show¬(1::_< [0]);rw[List.cons_lt_cons_iff];rintro(h|⟨h,_⟩)<;> omega
 |x::a,y::b=>by
  show(W2 (n+1) (.str x) (.str y)).bind (λc=>if c=aC then L2.Mk (W2 (n+1)) (L2.Ji (n+1)) (a.map D.str) (b.map D.str)else L2.Ji (n+1) (.str x) (.str y))=_;rw[Pw,Fa n a b,Dk];have e:(Bf (x::a)<Bf (y::b))↔(x.cps.toList<y.cps.toList\/(x.cps.toList=y.cps.toList/\Bf a<Bf b)):=by
   show(1::(tE x.cps.toList++Bf a)<1::(tE y.cps.toList++Bf b))↔_;rw[List.cons_lt_cons_iff,KC];constructor
   .rintro(h|⟨_,h⟩)
    .omega
    .exact h
   .exact λh=>.inr ⟨rfl,h⟩
  by_cases h:x=y
  .subst h;have i:=im x.cps.toList;rw[dJ rfl];show aA (decide (Bf a<Bf b))=_;refine congrArg aA (decide_eq_decide.mpr ?_);rw[e];exact⟨λz=>.inr ⟨rfl,z⟩,λz=>z.elim (λz=>dM z i) λz=>z.2⟩
  .rw[dH h];show aA (decide (x.cps.toList<y.cps.toList))=_;refine congrArg aA (decide_eq_decide.mpr ?_);rw[e];exact⟨.inl,λz=>z.elim id λz=>dM (I8 z.1) h⟩
theorem Fb(n):∀a b:List Str,∃c,Bu (W2 (n+1)) (a.map D.str) (b.map D.str)=aA c/\(c&&decide ((a.map D.str).length=(b.map D.str).length))=decide (a=b)
 | [],[]=>⟨aC,rfl,by simp⟩
 | [],y::b=>⟨aC,rfl,by simp⟩
 |x::a,[]=>⟨aC,rfl,by simp⟩
 |x::a,y::b=>by
  obtain⟨c,e1,e2⟩:=Fb n a b;refine⟨decide (x=y)&&c,?_,?_⟩
  .show(W2 (n+1) (.str x) (.str y)).bind (λb'=>(Bu (W2 (n+1)) (a.map D.str) (b.map D.str)).bind λc'=>aA (b'&&c'))=_;rw[Pw,e1];rfl
  .rw[Bool.and_assoc];have:decide (((x::a).map D.str).length=((y::b).map D.str).length)=decide ((a.map D.str).length=(b.map D.str).length):=by simp
   rw[this,e2];by_cases h:x=y
   .by_cases h2:a=b<;> simp[h,h2]
   .simp[h]
theorem Dl(n)(a b:List Str):W2 (n+2) (.tup (a.map D.str)) (.tup (b.map D.str))=aA (decide (a=b)):=by obtain⟨c,e1,e2⟩:=Fb n a b;show(Bu (W2 (n+1)) (a.map D.str) (b.map D.str)).bind (λb'=>aA (b'&&decide ((a.map D.str).length=(b.map D.str).length)))=_;rw[e1];show aA (c&&_)=_;rw[e2]
inductive OneK:NK->NK->Prop where
 |nm (a b:List Str):OneK (.inl a) (.inl b)
 |mk (n m:Nat) (a b:List Str):OneK (.inr ((n:Int),a)) (.inr ((m:Int),b))
def Bg:NK->List Nat
 | .inl l=>Bf l
 | .inr (n,l)=>n.toNat::Bf l
theorem Fc(h:OneK a b)(e:Bg a=Bg b):a=b:=by
 cases h with
 |nm a b=>rw[I9 e]
 |mk n m a b=>obtain⟨e1,e2⟩:=List.cons.inj e;rw[I9 e2,show n=m by simpa using e1]
theorem KA(n)(h:OneK a b):W2 (n+3) (Zr a) (Zr b)=aA (decide (a=b)):=by
 cases h with
 |nm a b=>show W2 (n+3) (.tup (a.map D.str)) (.tup (b.map D.str))=_;rw[show n+3=n+1+2 from rfl,Dl];exact congrArg aA (decide_eq_decide.mpr ⟨λz=>by rw[z],λz=>Sum.inl.inj z⟩)
 |mk n1 m1 a b=>
  have e:=Dl n a b;show(Bu (W2 (n+2)) [.int (n1:Int),.tup (a.map D.str)] [.int (m1:Int),.tup (b.map D.str)]).bind (λb'=>aA (b'&&decide (2=2)))=_;show((W2 (n+2) (.int (n1:Int)) (.int (m1:Int))).bind λb'=>((W2 (n+2) (.tup (a.map D.str)) (.tup (b.map D.str))).bind λc1=>(aA aC).bind λc2=>aA (c1&&c2)).bind λc'=>aA (b'&&c')).bind (λb'=>aA (b'&&decide (2=2)))=_;rw[e,show W2 (n+2) (.int (n1:Int)) (.int (m1:Int))=aA (decide ((n1:Int)=m1)) by simp];show aA _=_;refine congrArg aA ?_;by_cases h1:n1=m1
  .by_cases h2:a=b
   .subst h1 h2;simp
   .subst h1;have hf:decide ((cw ((n1:Int),a):NK)=cw ((n1:Int),b))=aD:=dH λz=>h2 (Prod.mk.inj (cw.inj z)).2;rw[hf,dH h2];simp
  .have hf:decide ((cw ((n1:Int),a):NK)=cw ((m1:Int),b))=aD:=dH λz=>h1 (by have:=(Prod.mk.inj (cw.inj z)).1;omega);rw[hf,dH (show¬(n1:Int)=m1 by omega)];simp
theorem EJ(n)(h:OneK a b):L2.Ji (n+4) (Zr a) (Zr b)=aA (decide (Bg a<Bg b)):=by
 cases h with
 |nm a b=>exact Fa (n+2) a b
 |mk n1 m1 a b=>
  have e:=Dl (n+1) a b;have e2:=Fa (n+1) a b;show(W2 (n+3) (.int (n1:Int)) (.int (m1:Int))).bind (λc=>if c=aC then(W2 (n+3) (.tup (a.map D.str)) (.tup (b.map D.str))).bind (λc=>if c=aC then aA aD else L2.Ji (n+3) (.tup (a.map D.str)) (.tup (b.map D.str)))else L2.Ji (n+3) (.int (n1:Int)) (.int (m1:Int)))=_;rw[e,show W2 (n+3) (.int (n1:Int)) (.int (m1:Int))=aA (decide ((n1:Int)=m1)) by simp];show(if decide ((n1:Int)=m1)=aC then(if decide (a=b)=aC then aA aD else L2.Mk (W2 (n+2)) (L2.Ji (n+2)) (a.map D.str) (b.map D.str))else aA (decide ((n1:Int)<m1)))=_;rw[e2];have el:(Bg (.inr ((n1:Int),a))<Bg (.inr ((m1:Int),b)))↔(n1<m1\/(n1=m1/\Bf a<Bf b)):=by show((n1:Int).toNat::Bf a<(m1:Int).toNat::Bf b)↔_;rw[List.cons_lt_cons_iff];simp
  by_cases h1:n1=m1
  .rw[dG (by simp[h1])];by_cases h2:a=b
   .rw[dG (by simp[h2])];refine congrArg aA (dH ?_).symm;rw[el];subst h1 h2;rintro(z|⟨_,z⟩)
    .omega
    .exact im _ z
   .rw[dF (by simp[h2])];refine congrArg aA (decide_eq_decide.mpr ?_);rw[el];exact⟨λz=>.inr ⟨h1,z⟩,λz=>z.elim (λz=>by omega) λz=>z.2⟩
  .rw[dF (by simp;omega)];refine congrArg aA (decide_eq_decide.mpr ?_);rw[el];exact⟨λz=>.inl (by omega),λz=>z.elim (λz=>by omega) λz=>dM z.1 h1⟩
def C8(ks:List NK):Prop:=(∀k∈ks,∃(x:Str) (l:List Str),k= .inl (x::l))\/∀k∈ks,∃(n:Nat) (l:List Str),k= .inr ((n:Int),l)
theorem C8.one(h:C8 ks)(ha:a∈ks)(hb:b∈ks):OneK a b:=by
 rcases h with h|h
 .obtain⟨x,l,rfl⟩:=h a ha;obtain⟨y,m,rfl⟩:=h b hb;exact .nm _ _
 .obtain⟨x,l,rfl⟩:=h a ha;obtain⟨y,m,rfl⟩:=h b hb;exact .mk _ _ _ _
theorem C8.sub(h:C8 ks)(hs:∀k∈js,k∈ks):C8 js:=h.imp (λh k hk=>h k (hs k hk)) λh k hk=>h k (hs k hk)
def MB(d:D):List Nat:=Bg ((nk? d).getD (.inl []))
theorem Au(k:NK):MB (Zr k)=Bg k:=by unfold MB;rw[Cj];rfl
theorem jo(h:C8 ks)(nd:ks.Nodup):L2.eR (ks.map Zr):=by
 refine⟨?_,MB,λa ha b hb=>?_,?_⟩
 .rcases h with h|h
  .refine⟨.str,λd hd=>?_⟩;obtain⟨k,hk,rfl⟩:=ax.mp hd;obtain⟨x,l,rfl⟩:=h k hk;exact .str _ _
  .refine⟨.int,λd hd=>?_⟩;obtain⟨k,hk,rfl⟩:=ax.mp hd;obtain⟨x,l,rfl⟩:=h k hk;exact .int _ _
 .obtain⟨k,hk,rfl⟩:=ax.mp ha;obtain⟨l,hl,rfl⟩:=ax.mp hb;rw[Au,Au];exact EJ 12 (h.one hk hl)
 .refine Gu.mpr ?_;rw[cp];refine List.Pairwise.map _ (R:=λa b=>a≠b/\a∈ks/\b∈ks) (λa b ⟨h1,h2,h3⟩ e=>h1 ?_) ?_
  .have e:MB (Zr a)=MB (Zr b):=e;rw[Au,Au]at e;exact Fc (h.one h2 h3) e
  .exact(List.Pairwise.and_mem.mp nd).imp fun{a b} z=>⟨z.2.2,z.1,z.2.1⟩
theorem lz{ks:List NK}{k x:NK}:x∈Ai ks k↔x∈ks\/x=k:=by
 unfold Ai;have e:(ks.any λz=>decide (z=k))=aC↔k∈ks:=by rw[List.any_eq_true];exact⟨λ⟨z,hz,e⟩=>by have:z=k:=dL e;rw[<-this];exact hz,λh=>⟨k,h,dJ rfl⟩⟩
 split
 .rename_i h;exact⟨.inl,λz=>z.elim id λz=>by rw[z];exact e.mp h⟩
 .rw[bo,aj]
theorem n4{ks:List NK}{k:NK}(h:ks.Nodup):(Ai ks k).Nodup:=by
 unfold Ai;split
 .exact h
 .rename_i hn;refine cz.mpr ⟨h,by simp,λa ha b hb z=>hn ?_⟩;rw[aj.mp hb]at z;rw[List.any_eq_true];exact⟨a,ha,dJ z⟩
theorem Fd:∀(ks acc:List NK),acc.Nodup->(ks.foldl Ai acc).Nodup/\∀x,x∈ks.foldl Ai acc↔x∈acc\/x∈ks
 | [],acc,h=>⟨h,λx=>by simp⟩
 |k::ks,acc,h=>by obtain⟨a,b⟩:=Fd ks (Ai acc k) (n4 h);refine⟨a,λx=>?_⟩;rw[List.foldl_cons,b x,lz,b7];exact⟨λz=>by rcases z with(z|z)|z;(· exact .inl z);(· exact .inr (.inl z));exact .inr (.inr z),λz=>by rcases z with z|z|z;(· exact .inl (.inl z));(· exact .inl (.inr z));exact .inr z⟩
theorem Px(ks:List NK):(Lw ks).Nodup:=(Fd ks [] c7).1
theorem Av(ks:List NK)(x:NK):x∈Lw ks↔x∈ks:=by rw[show Lw ks=ks.foldl Ai []from rfl,(Fd ks [] c7).2 x];simp
theorem ny(ks:List NK):(Lw ks).length<=ks.length:=c9 (Px ks) λx hx=>(Av ks x).mp hx
theorem pI{out:List NK}(h:C8 ks)(hl:ks.length<64)(hm:∀x,x∈out↔x∈ks)(hs:out.Pairwise λa b=>Bg a<Bg b):Iv ks=aA (.ol (out.map Zr)):=by
 have nd:out.Nodup:=hs.imp fun{a b} z e=>by rw[e]at z;exact im _ z
 have pm:out.Perm (Lw ks):=(List.perm_ext_iff_of_nodup nd (Px ks)).mpr λx=>by rw[hm,Av]
 have hk:=h.sub λk hk=>(Av ks k).mp hk;refine kC (by omega) (by have:=ny ks;omega) (jo hk (Px ks)) ⟨pm.map _,du.mpr ?_⟩;refine(List.Pairwise.and_mem.mp hs).imp fun{a b} ⟨ha,hb,z⟩=>?_;rw[EJ 12 (h.one ((hm b).mp hb) ((hm a).mp ha))];exact congrArg aA (dH λy=>im _ (List.lt_trans y z))
theorem nG(hk:L2.eR ds)(hl:ds.length<64)(so:Mp ds out):L2.Pk ds ds=aA (.ol out):=by obtain⟨p,hp,e⟩:=L2.nu (ks:=ds) (xs:=ds) rfl hl hk;rw[e,Rr hk (Ir hp) so]
open Classical in
theorem xn{α:Type}{f:α->D}{eS:α->List Nat}{xs out:List α}{kk:L2.KK}(hk:∀a∈xs,L2.IsKey kk (f a))(ZM:∀a∈xs,∀b∈xs,L2.Ji 16 (f a) (f b)=aA (decide (eS a<eS b)))(nd:(xs.map eS).Nodup)(hl:xs.length<64)
  (hp:out.Perm xs) (hs:out.Pairwise λa b=>¬eS b<eS a):L2.Pk (xs.map f) (xs.map f)=aA (.ol (out.map f)):=by
 have same:∀a∈xs,∀b∈xs,f a=f b->eS a=eS b:=λa ha b hb e=>by
  have h1:=ZM a ha b hb;have h2:=ZM b hb a ha;rw[<-e,ZM a ha a ha]at h1;rw[<-e,ZM a ha a ha]at h2;have i:¬eS a<eS a:=im _;have h1:decide (eS a<eS b)=aD:=by rw[<-dq.inj h1];exact dH i
  have h2:decide (eS b<eS a)=aD:=by rw[<-dq.inj h2];exact dH i
  exact List.le_antisymm (dw.mp (of_decide_eq_false h2)) (dw.mp (of_decide_eq_false h1))
 let e:D->List Nat:=λd=>if h:∃a,a∈xs/\f a=d then eS (Classical.choose h)else[]
 have ee:∀a∈xs,e (f a)=eS a:=λa ha=>by
  have h:∃a',a'∈xs/\f a'=f a:=⟨a,ha,rfl⟩
  show(if h:∃a',a'∈xs/\f a'=f a then eS (Classical.choose h)else[])=eS a;rw[dif_pos h];exact same _ (Classical.choose_spec h).1 a ha (Classical.choose_spec h).2
 have ko:L2.eR (xs.map f):=by
  refine⟨⟨kk,λd hd=>?_⟩,e,λa ha b hb=>?_,?_⟩
  .obtain⟨a,ha,rfl⟩:=ax.mp hd;exact hk a ha
  .obtain⟨x,hx,rfl⟩:=ax.mp ha;obtain⟨y,hy,rfl⟩:=ax.mp hb;rw[ee x hx,ee y hy];exact ZM x hx y hy
  .refine Gu.mpr ?_;rw[cp];have:xs.map (e∘f)=xs.map eS:=List.map_congr_left λa ha=>ee a ha;rw[this];exact nd
 refine nG ko (by rw[ah];exact hl) ⟨hp.map f,du.mpr ?_⟩;refine(List.Pairwise.and_mem.mp hs).imp fun{a b} ⟨ha,hb,z⟩=>?_;rw[ZM b (hp.mem_iff.mp hb) a (hp.mem_iff.mp ha)];exact congrArg aA (dH z)
abbrev Js:=Str×Str×List NK
noncomputable abbrev Y3(t:Js):D:=.tup [.str t.1,.str t.2.1,.lst (t.2.2.map Zr)]
structure HP where
 ns:List NK
 ms:List NK
 fs:List Js
noncomputable abbrev Z7(h:HP):D:=.tup [.lst (h.ns.map Zr),.lst (h.ms.map Zr),.lst (h.fs.map Y3)]
def Mz(k:NK):Prop:=∃(x:Str) (l:List Str),k= .inl (x::l)
def isM(k:NK):Prop:=∃(n:Nat) (l:List Str),k= .inr ((n:Int),l)
structure eZ(h:HP):Prop where
 ne:h.ns≠[]
 nm:∀k∈h.ns,Mz k
 mr:∀k∈h.ms,isM k
 fl:∀t∈h.fs,∀k∈t.2.2,Mz k
theorem V7(n):∀as bs,C8 (as++bs)->as.length=bs.length->Bu (W2 (n+3)) (as.map Zr) (bs.map Zr)=aA (decide (as=bs))
 | [],[],_,_=>rfl
 | [],_::_,_,h=>by simp at h
 |_::_,[],_,h=>by simp at h
 |a::as,b::bs,ho,hl=>by
  have h1:OneK a b:=ho.one (by simp) (by simp);have ih:=V7 n as bs (ho.sub λk hk=>by
   rcases bo.mp hk with z|z
   .simp[z]
   .simp[z]) (by simpa using hl)
  show(W2 (n+3) (Zr a) (Zr b)).bind (λb'=>(Bu (W2 (n+3)) (as.map Zr) (bs.map Zr)).bind λc'=>aA (b'&&c'))=_;rw[KA n h1,ih];show aA _=_;refine congrArg aA ?_;by_cases h:a=b
  .by_cases h2:as=bs
   .simp[h,h2]
   .rw[dH h2,dH λz=>h2 (List.cons.inj z).2];simp
  .rw[dH h,dH λz=>h (List.cons.inj z).1];simp
theorem qi(n)(ho:C8 (as++bs)):W2 (n+4) (.lst (as.map Zr)) (.lst (bs.map Zr))=aA (decide (as=bs)):=by
 show(if(as.map Zr).length=(bs.map Zr).length then Bu (W2 (n+3)) (as.map Zr) (bs.map Zr)else aA aD)=_;rw[ah,ah];by_cases h:as.length=bs.length
 .rw[dG h,V7 n as bs ho h]
 .rw[dF h];exact congrArg aA (dH λz=>h (by rw[z])).symm
theorem qh(n k)(h:Mz k\/isM k):W2 (n+3) (Zr k) (Zr k)=aA aC:=by
 have:OneK k k:=by
  rcases h with⟨x,l,rfl⟩|⟨x,l,rfl⟩
  .exact .nm _ _
  .exact .mk _ _ _ _
 rw[KA n this];simp
theorem Py(n)(ks:List NK)(h:∀k∈ks,Mz k\/isM k):W2 (n+4) (.lst (ks.map Zr)) (.lst (ks.map Zr))=aA aC:=Pv (n+3) _ λx hx=>by obtain⟨k,hk,rfl⟩:=ax.mp hx;exact qh n k (h k hk)
theorem nE(n t)(h:∀k∈t.2.2,Mz k):W2 (n+5) (Y3 t) (Y3 t)=aA aC:=n5 (n+4) _ λx hx=>by
 simp only[b7,List.not_mem_nil,or_false]at hx;rcases hx with rfl|rfl|rfl
 .exact xJ (n+3) _
 .exact xJ (n+3) _
 .exact Py n _ λk hk=>.inl (h k hk)
def Wo(t:Js):List Nat:=tE t.1.cps.toList++(tE t.2.1.cps.toList++[])
theorem ly(h:Wo s=Wo t):s.1=t.1/\s.2.1=t.2.1:=by obtain⟨h1,h2⟩:=FP _ _ _ _ h;exact⟨I8 h1,I8 (FP _ _ _ _ h2).1⟩
theorem qg(s t)(hs:∀k∈s.2.2,Mz k)(h:Wo s=Wo t->s=t):L2.Ji 16 (Y3 s) (Y3 t)=aA (decide (Wo s<Wo t)):=by
 have el:(Wo s<Wo t)↔(s.1.cps.toList<t.1.cps.toList\/(s.1.cps.toList=t.1.cps.toList/\s.2.1.cps.toList<t.2.1.cps.toList)):=by
  unfold Wo;rw[KC,KC];constructor
  .rintro(z|⟨z,w|⟨_,w⟩⟩)
   .exact .inl z
   .exact .inr ⟨z,w⟩
   .exact dM w (im _)
  .rintro(z|⟨z,w⟩)
   .exact .inl z
   .exact .inr ⟨z,.inl w⟩
 show(W2 15 (.str s.1) (.str t.1)).bind (λc=>if c=aC then(W2 15 (.str s.2.1) (.str t.2.1)).bind (λc=>if c=aC then(W2 15 (.lst (s.2.2.map Zr)) (.lst (t.2.2.map Zr))).bind (λc=>if c=aC then aA aD else L2.Ji 15 (.lst (s.2.2.map Zr)) (.lst (t.2.2.map Zr)))else L2.Ji 15 (.str s.2.1) (.str t.2.1))else L2.Ji 15 (.str s.1) (.str t.1))=_;rw[Pw,Pw,Dk,Dk];by_cases h1:s.1=t.1
 .rw[dJ h1];by_cases h2:s.2.1=t.2.1
  .rw[dJ h2];have e:s=t:=h (by unfold Wo;rw[h1,h2]);subst e;rw[Py 11 _ λk hk=>.inl (hs k hk)];show aA aD=_;exact congrArg aA (dH (im _)).symm
  .rw[dH h2];show aA (decide (s.2.1.cps.toList<t.2.1.cps.toList))=_;refine congrArg aA (decide_eq_decide.mpr ?_);rw[el,h1];exact⟨λz=>.inr ⟨rfl,z⟩,λz=>z.elim (λz=>dM z (im _)) λz=>z.2⟩
 .rw[dH h1];show aA (decide (s.1.cps.toList<t.1.cps.toList))=_;refine congrArg aA (decide_eq_decide.mpr ?_);rw[el];exact⟨.inl,λz=>z.elim id λz=>dM (I8 z.1) h1⟩
theorem Dm{α β:Type}{f:α->β}{xs:List α}(h:(xs.map f).Nodup){a b}(ha:a∈xs)(hb:b∈xs)(e:f a=f b):a=b:=by obtain⟨i,hi,rfl⟩:=dy ha;obtain⟨j,hj,rfl⟩:=dy hb;have:i=j:=(List.getElem?_inj (by rw[ah];exact hi) h).mp (by simp[hi,hj,e]);subst this;rfl
theorem nC{out:List Js}(hf:∀t∈ts,∀k∈t.2.2,Mz k)(nd:(ts.map Wo).Nodup)(hl:ts.length<64)(hp:out.Perm ts)(hs:out.Pairwise λa b=>¬Wo b<Wo a):L2.Pk (ts.map Y3) (ts.map Y3)=aA (.ol (out.map Y3)):=
 xn (eS:=Wo) (kk:=.str) (λa _=>.str _ _) (λa ha b hb=>qg a b (hf a ha) λe=>Dm nd ha hb e) nd hl hp hs
def Je(h:HP):List Nat:=Bg (h.ns.headD (.inl []))
theorem sA(a b)(oa:eZ a)(ob:eZ b)(h:Je a=Je b->a=b):L2.Ji 16 (Z7 a) (Z7 b)=aA (decide (Je a<Je b)):=by
 show(W2 15 (.lst (a.ns.map Zr)) (.lst (b.ns.map Zr))).bind (λc=>if c=aC then(W2 15 (.lst (a.ms.map Zr)) (.lst (b.ms.map Zr))).bind (λc=>if c=aC then(W2 15 (.lst (a.fs.map Y3)) (.lst (b.fs.map Y3))).bind (λc=>if c=aC then aA aD else L2.Ji 15 (.lst (a.fs.map Y3)) (.lst (b.fs.map Y3)))else L2.Ji 15 (.lst (a.ms.map Zr)) (.lst (b.ms.map Zr)))else L2.Ji 15 (.lst (a.ns.map Zr)) (.lst (b.ns.map Zr)))=_;have on:C8 (a.ns++b.ns):=.inl λk hk=>by
  rcases bo.mp hk with z|z
  .exact oa.nm k z
  .exact ob.nm k z
 rw[qi 11 on];by_cases hn:Je a=Je b
 .have e:=h hn;subst e;rw[dJ rfl,Py 11 _ λk hk=>.inr (oa.mr k hk)];have e3:W2 15 (.lst (a.fs.map Y3)) (.lst (a.fs.map Y3))=aA aC:=Pv 14 _ λx hx=>by obtain⟨t,ht,rfl⟩:=ax.mp hx;exact nE 9 t (oa.fl t ht)
  rw[e3];show aA aD=_;exact congrArg aA (dH (im _)).symm
 .obtain⟨x,as,ea⟩:=io oa.ne;obtain⟨y,bs,eb⟩:=io ob.ne;have CA:x≠y:=λz=>hn (by unfold Je;rw[ea,eb,z];rfl);rw[dH λz=>CA (by rw[ea,eb]at z;exact(List.cons.inj z).1)];show L2.Ji 15 (.lst (a.ns.map Zr)) (.lst (b.ns.map Zr))=_;unfold Je;rw[ea,eb];have ok:OneK x y:=on.one (by rw[ea];simp) (by rw[eb];simp);show(W2 14 (Zr x) (Zr y)).bind (λc=>if c=aC then _ else L2.Ji 14 (Zr x) (Zr y))=_;rw[KA 11 ok,dH CA];show L2.Ji 14 (Zr x) (Zr y)=_;exact EJ 10 ok
theorem qf{out:List HP}(ok:∀h∈hs,eZ h)(nd:(hs.map Je).Nodup)(hl:hs.length<64)(hp:out.Perm hs)(vg:out.Pairwise λa b=>¬Je b<Je a):L2.Pk (hs.map Z7) (hs.map Z7)=aA (.ol (out.map Z7)):=
 xn (eS:=Je) (kk:=.lst) (λa _=>.lst _ _) (λa ha b hb=>sA a b (ok a ha) (ok b hb) λe=>Dm nd ha hb e) nd hl hp vg
noncomputable abbrev U1(h:HP):List NK:=h.ns++h.ms
abbrev kLt(a b:NK):Prop:=Bg a<Bg b
abbrev tLt(a b:Js):Prop:=Wo a<Wo b
theorem nB{a:List Nat}(h:a<b):¬b<a:=λz=>im _ (List.lt_trans h z)
theorem Jw{α:Type}{f:α->List Nat}{l:List α}(h:l.Pairwise λa b=>f a<f b):l.Nodup:=h.imp fun{a b} h e=>by subst e;exact im _ h
theorem O1{α:Type}{f:α->List Nat}{l m:List α}(h1:l.Pairwise λa b=>f a<f b)(h2:m.Pairwise λa b=>f a<f b)(hm:∀x,x∈l↔x∈m):l=m:=
 List.Perm.eq_of_pairwise (λx y _ _ z1 z2=>dM z2 (nB z1)) h1 h2 ((List.perm_ext_iff_of_nodup (Jw h1) (Jw h2)).mpr hm)
structure eI(G:HP->Prop)(h:HP):Prop where
 ns_s:h.ns.Pairwise kLt
 ns_m:∀k,k∈h.ns↔∃a,G a/\k∈a.ns
 ms_s:h.ms.Pairwise kLt
 ms_m:∀k,k∈h.ms↔∃a,G a/\k∈a.ms
 fs_s:h.fs.Pairwise tLt
 fs_m:∀f v,(∃l,(f,v,l)∈h.fs)↔∃a,G a/\∃l,(f,v,l)∈a.fs
 fs_l:∀t∈h.fs,t.2.2.Pairwise kLt/\∀k,k∈t.2.2↔∃a,G a/\∃l,(t.1,t.2.1,l)∈a.fs/\k∈l
theorem eI.uniq(m:eI G h)(m':eI G' h')(e:∀a,G a↔G' a):h=h':=by
 have e1:h.ns=h'.ns:=O1 m.ns_s m'.ns_s λk=>by rw[m.ns_m,m'.ns_m];simp only[e]
 have e2:h.ms=h'.ms:=O1 m.ms_s m'.ms_s λk=>by rw[m.ms_m,m'.ms_m];simp only[e]
 have one:∀{G G':HP->Prop} {h h':HP},eI G h->eI G' h'->(∀a,G a↔G' a)->∀t∈h.fs,t∈h'.fs:=fun{G G' h h'} m m' e t ht=>by
  have h1:=(m.fs_m t.1 t.2.1).mp ⟨t.2.2,ht⟩;simp only[e]at h1;obtain⟨l,hl⟩:=(m'.fs_m t.1 t.2.1).mpr h1;have:t.2.2=l:=O1 (m.fs_l t ht).1 (m'.fs_l _ hl).1 λk=>by rw[(m.fs_l t ht).2,(m'.fs_l _ hl).2];simp only[e]
  rw[<-this]at hl;exact hl
 have e3:h.fs=h'.fs:=O1 m.fs_s m'.fs_s λt=>⟨one m m' e t,one m' m (λa=>(e a).symm) t⟩
 cases h;cases h';simp only at e1 e2 e3;rw[e1,e2,e3]
def shr(a b:HP):Prop:=∃t,t∈U1 a/\t∈U1 b
theorem lx(h:shr a b):shr b a:=let⟨t,h1,h2⟩:=h;⟨t,h2,h1⟩
inductive eO(S:HP->Prop):HP->HP->Prop where
 |here {a:HP}:S a->eO S a a
 |step {a b c:HP}:eO S a b->S c->shr b c->eO S a c
theorem eO.right{S}(h:eO S a b):S b:=by
 cases h with
 |here h=>exact h
 |step _ h _=>exact h
theorem eO.trans{S}(h:eO S a b)(k:eO S b c):eO S a c:=by
 induction k with
 |here _=>exact h
 |step _ hc sh ih=>exact .step ih hc sh
theorem eO.symm{S}(h:eO S a b):eO S b a:=by
 induction h with
 |here h=>exact .here h
 | @step b c k hc sh ih=>exact(eO.step (.here hc) k.right (lx sh)).trans ih
theorem eO.mono{S:HP->Prop}(hs:∀a,S a->T a)(h:eO S a b):eO T a b:=by
 induction h with
 |here h=>exact .here (hs _ h)
 |step _ hc sh ih=>exact .step ih (hs _ hc) sh
structure eQ(S:HP->Prop)(out:List HP):Prop where
 sorted:out.Pairwise λa b=>Je a<Je b
 each:∀h∈out,∃a,S a/\eI (eO S a) h
 all:∀a,S a->∃h∈out,eI (eO S a) h
theorem eI.tie(m:eI G h)(t):t∈U1 h↔∃a,G a/\t∈U1 a:=by
 constructor
 .intro z;rcases bo.mp z with z|z
  .obtain⟨a,g,z⟩:=(m.ns_m t).mp z;exact⟨a,g,bu _ z⟩
  .obtain⟨a,g,z⟩:=(m.ms_m t).mp z;exact⟨a,g,bp _ z⟩
 .rintro⟨a,g,z⟩;rcases bo.mp z with z|z
  .exact bu _ ((m.ns_m t).mpr ⟨a,g,z⟩)
  .exact bp _ ((m.ms_m t).mpr ⟨a,g,z⟩)
theorem eI.of{part:HP->HP->Prop}(m:eI P h)(hp:∀p,P p->eI (part p) p)(e:∀a,G a↔∃p,P p/\part p a):eI G h:=by
 refine⟨m.ns_s,λk=>?_,m.ms_s,λk=>?_,m.fs_s,λf v=>?_,λt ht=>⟨(m.fs_l t ht).1,λk=>?_⟩⟩
 .rw[m.ns_m];constructor
  .rintro⟨p,hP,hk⟩;obtain⟨a,g,hk⟩:=((hp p hP).ns_m k).mp hk;exact⟨a,(e a).mpr ⟨p,hP,g⟩,hk⟩
  .rintro⟨a,g,hk⟩;obtain⟨p,hP,g⟩:=(e a).mp g;exact⟨p,hP,((hp p hP).ns_m k).mpr ⟨a,g,hk⟩⟩
 .rw[m.ms_m];constructor
  .rintro⟨p,hP,hk⟩;obtain⟨a,g,hk⟩:=((hp p hP).ms_m k).mp hk;exact⟨a,(e a).mpr ⟨p,hP,g⟩,hk⟩
  .rintro⟨a,g,hk⟩;obtain⟨p,hP,g⟩:=(e a).mp g;exact⟨p,hP,((hp p hP).ms_m k).mpr ⟨a,g,hk⟩⟩
 .rw[m.fs_m];constructor
  .rintro⟨p,hP,hk⟩;obtain⟨a,g,hk⟩:=((hp p hP).fs_m f v).mp hk;exact⟨a,(e a).mpr ⟨p,hP,g⟩,hk⟩
  .rintro⟨a,g,hk⟩;obtain⟨p,hP,g⟩:=(e a).mp g;exact⟨p,hP,((hp p hP).fs_m f v).mpr ⟨a,g,hk⟩⟩
 .rw[(m.fs_l t ht).2];constructor
  .rintro⟨p,hP,l,hl,hk⟩;obtain⟨a,g,l',WO,hk⟩:=(((hp p hP).fs_l _ hl).2 k).mp hk;exact⟨a,(e a).mpr ⟨p,hP,g⟩,l',WO,hk⟩
  .rintro⟨a,g,l,hl,hk⟩;obtain⟨p,hP,g⟩:=(e a).mp g;obtain⟨l',WO⟩:=((hp p hP).fs_m t.1 t.2.1).mpr ⟨a,g,l,hl⟩;exact⟨p,hP,l',WO,(((hp p hP).fs_l _ WO).2 k).mpr ⟨a,g,l,hl,hk⟩⟩
theorem eI.sum(h0:∃G,eI G h/\∀b,G b->X b)(h1:∀b,X b->∃G,eI G h/\G b):eI X h:=by
 obtain⟨G,m,hG⟩:=h0;refine⟨m.ns_s,λk=>⟨λz=>?_,λz=>?_⟩,m.ms_s,λk=>⟨λz=>?_,λz=>?_⟩,m.fs_s,λf v=>⟨λz=>?_,λz=>?_⟩,λt ht=>⟨(m.fs_l t ht).1,λk=>⟨λz=>?_,λz=>?_⟩⟩⟩
 .obtain⟨a,g,z⟩:=(m.ns_m k).mp z;exact⟨a,hG a g,z⟩
 .obtain⟨a,x,z⟩:=z;obtain⟨G',m',g'⟩:=h1 a x;exact(m'.ns_m k).mpr ⟨a,g',z⟩
 .obtain⟨a,g,z⟩:=(m.ms_m k).mp z;exact⟨a,hG a g,z⟩
 .obtain⟨a,x,z⟩:=z;obtain⟨G',m',g'⟩:=h1 a x;exact(m'.ms_m k).mpr ⟨a,g',z⟩
 .obtain⟨a,g,z⟩:=(m.fs_m f v).mp z;exact⟨a,hG a g,z⟩
 .obtain⟨a,x,z⟩:=z;obtain⟨G',m',g'⟩:=h1 a x;exact(m'.fs_m f v).mpr ⟨a,g',z⟩
 .obtain⟨a,g,z⟩:=((m.fs_l t ht).2 k).mp z;exact⟨a,hG a g,z⟩
 .obtain⟨a,x,z⟩:=z;obtain⟨G',m',g'⟩:=h1 a x;exact((m'.fs_l t ht).2 k).mpr ⟨a,g',z⟩
theorem eQ.pour {S T:HP->Prop} {P Q R:List HP} (nS:∀ a,S a->a.ns≠[]) (nT:∀ a,T a->a.ns≠[]) (p:eQ S P) (q:eQ T Q) (r:eQ (λh=>h ∈ P\/h ∈ Q) R):eQ (λa=>S a\/T a) R:=by
  let part:HP->HP->Prop:=λh b=>(∃ a,h ∈ P/\eI (eO S a) h/\eO S a b)\/(∃ a,h ∈ Q/\eI (eO T a) h/\eO T a b);have pm:∀ h b,part h b->∃ G,eI G h/\G b:=λh b z=>by
    rcases z with ⟨a,_,m,c⟩ | ⟨a,_,m,c⟩
    · exact ⟨_,m,c⟩
    · exact ⟨_,m,c⟩
  have pu:∀ h b,part h b->(S b\/T b)/\(h ∈ P\/h ∈ Q):=λh b z=>by
    rcases z with ⟨a,hp,m,c⟩ | ⟨a,hq,m,c⟩
    · exact ⟨.inl c.right,.inl hp⟩
    · exact ⟨.inr c.right,.inr hq⟩
  have pe:∀ h,h ∈ P\/h ∈ Q->∃ G a,eI G h/\G a/\∀ b,G b->part h b:=λh hh=>by
    rcases hh with z | z
    · obtain ⟨a,sa,m⟩:=p.each h z
      exact ⟨_,a,m,.here sa,λb c=>.inl ⟨a,z,m,c⟩⟩
    · obtain ⟨a,sa,m⟩:=q.each h z
      exact ⟨_,a,m,.here sa,λb c=>.inr ⟨a,z,m,c⟩⟩
  have mp:∀ h,h ∈ P\/h ∈ Q->eI (part h) h:=λh hh=>by obtain ⟨G,a,m,ga,hG⟩:=pe h hh;exact .sum ⟨G,m,hG⟩ (pm h)
  have tie:∀ h t,h ∈ P\/h ∈ Q->(t ∈ U1 h ↔ ∃ b,part h b/\t ∈ U1 b):=λh t hh=>(mp h hh).tie t
  have up:∀ h b c,part h b->part h c->(∀ G,eI G h->G b->(∀ x,G x->eO (λa=>S a\/T a) b x)->∀ G',eI G' h->G' c->(∀ x,G' x->eO (λa=>S a\/T a) c x)->eO (λa=>S a\/T a) b c):=λh b c hb hc G m gb cb G' m' gc cc=>by
    have nb:b.ns≠[]:=(pu h b hb).1.elim (nS b) (nT b);obtain ⟨k,l,ek⟩:=io nb;have kb:k ∈ b.ns:=by rw [ek]; exact ac
    have kh:=(m.ns_m k).mpr ⟨b,gb,kb⟩;obtain ⟨y,gy,ky⟩:=(m'.ns_m k).mp kh;have sb:shr b y:=⟨k,bu _ kb,bu _ ky⟩
    have cy:=cc y gy;exact (eO.step (.here (pu h b hb).1) cy.right sb).trans cy.symm
  have inS:∀ {a b},eO S a b->eO (λa=>S a\/T a) a b:=λh=>h.mono λ_ z=>.inl z;have va:∀ {a b},eO T a b->eO (λa=>S a\/T a) a b:=λh=>h.mono λ_ z=>.inr z;have DM:∀ h b,part h b->∃ G,eI G h/\G b/\∀ x,G x->eO (λa=>S a\/T a) b x:=λh b z=>by
    rcases z with ⟨a,_,m,c⟩ | ⟨a,_,m,c⟩
    · exact ⟨_,m,c,λx cx=>inS (c.symm.trans cx)⟩
    · exact ⟨_,m,c,λx cx=>va (c.symm.trans cx)⟩
  have same:∀ h b c,part h b->part h c->eO (λa=>S a\/T a) b c:=λh b c hb hc=>by obtain ⟨G,m,gb,cb⟩:=DM h b hb;obtain ⟨G',m',gc,cc⟩:=DM h c hc;exact up h b c hb hc G m gb cb G' m' gc cc
  have key:∀ h0 a0,(h0 ∈ P\/h0 ∈ Q)->part h0 a0->∀ b,eO (λa=>S a\/T a) a0 b ↔ ∃ h,eO (λh=>h ∈ P\/h ∈ Q) h0 h/\part h b:=λh0 a0 QU UL b=>by
    constructor
    · intro c
      have:∀ {x y},eO (λa=>S a\/T a) x y->part h0 x->∃ h,eO (λh=>h ∈ P\/h ∈ Q) h0 h/\part h y:=λ{x y} c=>by
        induction c with
        | here _=>exact λz=>⟨h0,.here QU,z⟩
        | @step x y c' uc sh ih =>
          intro z;rename_i y' c2;obtain ⟨h,ch,ph⟩:=ih z;obtain ⟨h',YM,m',g'⟩:∃ h',(h' ∈ P\/h' ∈ Q)/\part h' y/\True:=by
            rcases uc with uc | uc
            · obtain ⟨h',YM,m'⟩:=p.all _ uc
              exact ⟨h',.inl YM,.inl ⟨_,YM,m',.here uc⟩,trivial⟩
            · obtain ⟨h',YM,m'⟩:=q.all _ uc
              exact ⟨h',.inr YM,.inr ⟨_,YM,m',.here uc⟩,trivial⟩
          obtain ⟨t,t1,t2⟩:=sh;exact ⟨h',.step ch YM ⟨t,(tie h t ch.right).mpr ⟨_,ph,t1⟩,(tie h' t YM).mpr ⟨_,m',t2⟩⟩,m'⟩
      exact this c UL
    · rintro ⟨h,ch,ph⟩
      have:∀ {x y},eO (λh=>h ∈ P\/h ∈ Q) x y->part x a0->∀ b,part y b->eO (λa=>S a\/T a) a0 b:=λ{x y} c=>by
        induction c with
        | here _=>exact λz b hb=>same _ _ _ z hb
        | step c' hc sh ih =>intro z b hb;obtain ⟨t,t1,t2⟩:=sh;obtain ⟨u,pu1,tu⟩:=(tie _ t c'.right).mp t1;obtain ⟨v,pv1,tv⟩:=(tie _ t hc).mp t2;exact (eO.step (ih z u pu1) (pu _ v pv1).1 ⟨t,tu,tv⟩).trans (same _ _ _ pv1 hb)
      exact this ch UL b ph
  have mk:∀ h0 a0 r0,(h0 ∈ P\/h0 ∈ Q)->part h0 a0->eI (eO (λh=>h ∈ P\/h ∈ Q) h0) r0->eI (eO (λa=>S a\/T a) a0) r0:=λh0 a0 r0 QU UL m =>
    m.of (λh ch=>mp h ch.right) (key h0 a0 QU UL)
  refine ⟨r.sorted,λr0 hr=>?_,λa ua=>?_⟩
  · obtain ⟨h0,QU,m⟩:=r.each r0 hr
    obtain ⟨G,a0,_,g,hG⟩:=pe h0 QU;exact ⟨a0,(pu h0 a0 (hG a0 g)).1,mk h0 a0 r0 QU (hG a0 g) m⟩
  · obtain ⟨h',YM,ph⟩:∃ h',(h' ∈ P\/h' ∈ Q)/\part h' a:=by
      rcases ua with uc | uc
      · obtain ⟨h',YM,m'⟩:=p.all _ uc
        exact ⟨h',.inl YM,.inl ⟨_,YM,m',.here uc⟩⟩
      · obtain ⟨h',YM,m'⟩:=q.all _ uc
        exact ⟨h',.inr YM,.inr ⟨_,YM,m',.here uc⟩⟩
    obtain ⟨r0,hr,m⟩:=r.all h' YM;exact ⟨r0,hr,mk h' a r0 YM ph m⟩
end My
noncomputable section
namespace Gen
open L2
noncomputable def top(i:Nat):Stmt:=PySem.Challenge.pw_citeward_k42_whole_no_work_is_lost.main.body.getD i (.Pass ⟨0,0,0,0⟩)
noncomputable abbrev MA:Nat:=1000
def Wj:FS:=
 Zz (Yi 9 (Zj E4 (Za 6) (Yq MH (Zc (Zj Hf (Za 8) (Za 4)) Zi)))) (Yi 7 (Zj Uj (Za 7) (Zj W8 (Za 2) (Zj Uz (Zj Uj (Zj Tw (Za 0) (Zj Uj (Za 8) (Zf (.int 2)))) (Za 9)) (Zf (.int 22))))))
def J2:FS:=
 Zz (Yi 7 (Zf (.str ""))) (Zz (Qm (Et (Zc (Za 3) Zi)) (Zd 8) Wj) (Ae 5 (Za 7)))
def C9:FS:=
 Zz (Yi 2 (Zf (.str "abcdefghjlmpqrstuvwxyz"))) (Zz (Yi 3 (Zj Uj (Zf (.int 1)) (Zj Uz (Za 0) (Zf (.int 8))))) (Zz (Yi 4 (Zj Uz (Zj Tw (Za 0) (Zf (.int 8))) (Za 3))) (Zz (Yi 5 (Ba (Zt))) (Zz (Qm (Et (Zc (Za 1) Zi)) (Zd 6) J2) (Wp (Za 5))))))
def Wd:List D->Option SV:=Y0 C9 10
def Qu:FS:=
 Zz (Ae 2 (Zj Uz (Za 3) (Zf (.int 5040)))) (Yi 3 (Zj Tw (Za 3) (Zf (.int 5040))))
def Qv:FS:=
 Zz (Yi 3 (Zj Uz (Zj E4 (Zj Uj (Zj Uj (Za 3) (Za 4)) (Zf (.int 1))) (Zf (.int 48271))) (Zf (.int 2147483647)))) (Ae 2 (Zj Uz (Zj E4 (Za 3) (Zf (.int 69621))) (Zf (.int 2147483629))))
def J3:FS:=
 Zz (Yi 2 (Ba (Zt))) (Zz (Yi 3 (Zj Tw (Za 0) (Zf (.int 2)))) (Zz (Fz (Yg (Zj Hf (Zj Uz (Za 0) (Zf (.int 2))) (Zf (.int 1)))) (Zz (Qm (Et (Zc (Za 1) Zi)) (Zd 4) Qu) (Wp (Za 2))) (Qk)) (Zz (Yi 3 (Zj Uz (Za 3) (Zf (.int 2147483647)))) (Zz (Qm (Et (Zc (Za 1) Zi)) (Zd 4) Qv) (Wp (Za 2))))))
def Y6:List D->Option SV:=Y0 J3 5
def Ua:FS:=
 Ae 5 (Zj W8 (Zj Uj (Za 0) (Ba (Zl (Zf (.str "kind")) (Zt)))) (Zj Uz (Zj W8 (Za 2) (Zj Uj (Zj Uj (Zf (.int 2)) (Zj E4 (Zf (.int 3)) (Za 4))) (Za 6))) (Zf (.int 4))))
def Ub:FS:=
 Zz (Yi 5 (Ba (Zt))) (Zz (Qm (Et (Zc (Zj Uj (Zf (.int 1)) (Zj Uz (Zj W8 (Za 2) (Zj Uj (Zf (.int 1)) (Zj E4 (Zf (.int 3)) (Za 4)))) (Zf (.int 2)))) Zi)) (Zd 6) Ua) (Ae 3 (Za 5)))
def Ga:FS:=
 Zz (Yi 2 (Z8 2 Y6 (Zc (Za 1) (Zc (Zf (.int 10)) (Zi))))) (Zz (Yi 3 (Ba (Zt))) (Zz (Qm (Et (Zc (Zj Uz (Zj W8 (Za 2) (Zf (.int 0))) (Zf (.int 4))) Zi)) (Zd 4) Ub) (Wp (Za 3))))
def Ul:List D->Option SV:=Y0 Ga 7
def Ww:FS:=
 Fz (Yg (Zj gtD (Zj Uz (Zj W8 (Za 8) (Za 10)) (Zf (.int 4))) (Zf (.int 0)))) (Rl 9 (Za 11) (Zj Uj (Zf (.str "It's ")) (Yq PH (Zc (Zj Uz (Zj W8 (Za 8) (Zj Uj (Zf (.int 4)) (Za 10))) (Za 4)) Zi)))) (Qk)
def Wx:FS:=
 Zz (Yi 8 (Z8 2 Y6 (Zc (Za 7) (Zc (Zf (.int 11)) (Zi))))) (Zz (Yi 9 (Tz)) (Zz (Qm (Bc (Zl (Zj Uj (Za 2) (Ba (Zl (Zf (.str "note")) (Zt)))) Zt)) (Yz 2 (Zn (Zd 10) (Zn (Zd 11) (Y1)))) Ww) (Zz (Fz (Yg (Zj gtD (Zj Uz (Zj W8 (Za 8) (Zf (.int 8))) (Zf (.int 4))) (Zf (.int 0)))) (Rl 9 (Zf (.str "in")) (Zj W8 (Zj Uj (Za 1) (Ba (Zl (Zf (.str "Some book")) (Zt)))) (Zj Uz (Zj W8 (Za 8) (Zf (.int 9))) (Zf (.int 5))))) (Qk)) (Rl 5 (tupF (Zl (Zj W8 (Za 0) (Zj Uz (Za 6) (Zf (.int 3)))) (Zl (Zj W8 (Za 1) (Zj Tw (Za 6) (Zf (.int 3)))) (Zt)))) (tupF (Zl (Zj W8 (Ba (Pa ["book","part"] (Zt))) (Zj Uz (Zj W8 (Za 8) (Zf (.int 10))) (Zf (.int 2)))) (Zl (Za 9) (Zt))))))))
def Gb:FS:=
 Zz (Yi 5 (KR)) (Zz (Qm (Bc (Zl (Za 3) Zt)) (Yz 2 (Zn (Zd 6) (Zn (Zd 7) (Y1)))) Wx) (Wp (Za 5)))
def Um:List D->Option SV:=Y0 Gb 12
def Dn:FT:=
 Yg (Zj geD (Za 2) (Zf (.int 0)))
def Dp:FS:=
 Zz (Yi 1 (Zj Uj (Zj W8 (Zf (.str "abcdefghijklmnopqrstuvwxyz")) (Zj Uz (Za 2) (Zf (.int 26)))) (Za 1))) (Yi 2 (Zj FU (Zj Tw (Za 2) (Zf (.int 26))) (Zf (.int 1))))
def V8:FS:=
 Zz (Yi 1 (Zf (.str ""))) (Zz (Yi 2 (Za 0)) (Zz (Ut Dn Dp MA) (Wp (Za 1))))
def Oh:List D->Option SV:=Y0 V8 3
def Qw:FT:=
 Yg (Zj Hf (Zj W8 (Za 0) (Zf (.int 0))) (Za 1))
def Qx:FE:=
 Za 0
def Bh:FS:=
 Zz (Yi 2 (Jg [.own,.cap 1,.acc] 2 (Bv (Zj W8 (Za 0) (Zf (.int 2)))) (Zd 0) (Qw) Qx)) (Wp (L2.EQ (Za 2) [] (tupF (Zl (unF PN (Yq Ew (Zc (Zj W8 (Za 0) (Zf (.int 2))) Zi))) (Zl (Zj W8 (Za 0) (Zf (.int 1))) (Zt))))))
def Wl:List D->Option SV:=Y0 Bh 3
def Aw:FS:=
 Zz (Yi 2 (Z8 2 Wl (Zc (Za 0) (Zc (Za 1) (Zi))))) (Wp (ifF (Yg (Zj Hb (Za 2) (Zf .non))) (Zf .non) (Zj W8 (Za 2) (Zf (.int 1)))))
def O4:List D->Option SV:=Y0 Aw 3
def Wy:FS:=
 Rl 1 (Za 2) (Zf (.bl aC))
def Gc:FS:=
 Zz (Yi 1 (Tz)) (Zz (Qm (Bv (Za 0)) (Zd 2) Wy) (Wp (Yq Lf (Zc (Za 1) Zi))))
def Uo:List D->Option SV:=Y0 Gc 3
def Q7:FS:=
 Fz (Yg (Zj inN (Za 1) (Zj W8 (Za 3) (Zf (.int 0))))) (Wp (Za 2)) (Qk)
def Gw:FS:=
 Zz (Qm (Bc (Zl (Za 0) Zt)) (Yz 2 (Zn (Zd 2) (Zn (Zd 3) (Y1)))) Q7) (Wp (Zf .non))
def Yn:List D->Option SV:=Y0 Gw 4
def Gx:FS:=
 Zz (Yi 2 (Z8 2 Wl (Zc (Za 1) (Zc (Zf (.str "in")) (Zi))))) (Zz (Yi 3 (Zj W8 (Zj W8 (Zj W8 (Za 2) (Zf (.int 2))) (Zf (.int 0))) (Zf (.int 0)))) (Zz (Yi 4 (Z8 2 Yn (Zc (Za 0) (Zc (tupF (Zl (Za 3) (Zl (Zj W8 (Za 2) (Zf (.int 1))) (Zt)))) (Zi))))) (Wp (ifF (Yg (Zj Hb (Za 4) (Zf .non))) (Zf .non) (Z8 1 Oh (Zc (Za 4) (Zi)))))))
def U9:List D->Option SV:=Y0 Gx 5
def Qy:FE:=
 Zj W8 (Za 0) (Zf (.int 0))
def Wb:FS:=
 Zz (Yi 4 (ifF (Yg (Zj Hf (Za 3) (Zf (.str "in")))) (Z8 2 U9 (Zc (Za 0) (Zc (Za 1) (Zi)))) (Z8 2 O4 (Zc (Za 1) (Zc (Za 3) (Zi)))))) (Fz (X8 (Yg (Zj neX (Za 3) (Zf (.str "kind")))) (Yg (Zj K' (Za 4) (Zf .non)))) (Rl 2 (Za 3) (Za 4)) (Qk))
def Bi:FS:=
 Zz (Yi 2 (Tz)) (Zz (Qm (Bv (Z8 1 Uo (Zc (Jg [.own,.acc] 1 (Bv (Zj W8 (Za 1) (Zf (.int 2)))) (Zd 0) (W3) Qy) (Zi)))) (Zd 3) Wb) (Wp (Za 2)))
def Qo:List D->Option SV:=Y0 Bi 5
def U2:FS:=
 Rl 1 (Z8 1 Oh (Zc (Za 2) (Zi))) (tupF (Zl (Z8 2 O4 (Zc (Za 3) (Zc (Zf (.str "kind")) (Zi)))) (Zl (Z8 2 Qo (Zc (Za 0) (Zc (Za 3) (Zi)))) (Zt))))
def Rv:FS:=
 Zz (Yi 1 (Tz)) (Zz (Qm (Bc (Zl (Za 0) Zt)) (Yz 2 (Zn (Zd 2) (Zn (Zd 3) (Y1)))) U2) (Wp (Za 1)))
def Oi:List D->Option SV:=Y0 Rv 4
def Gd:FS:=
 Wp (Zj Uz (Zj E4 (Zj Uz (Za 0) (Zf (.int 2147483647))) (Za 1)) (Zf (.int 2147483647)))
def W4:List D->Option SV:=Y0 Gd 2
def Uc:FS:=
 Zz (Fz (Yg (Zj ltD (Za 1) (Yq Ew (Zc (Za 0) Zi)))) (Wp (Zj W8 (Za 0) (Za 1))) (Qk)) (Wp (Zf (.int 0)))
def Zx:List D->Option SV:=Y0 Uc 2
def Oj:FS:=
 T5 1 (Za 4) 2 aD
def W5:FS:=
 Qm (Bv (Zj Uj (Zj W8 (Za 3) (Zf (.int 0))) (Zj W8 (Za 3) (Zf (.int 1))))) (Zd 4) Oj
def Cp:FS:=
 Zz (Yi 1 (KH)) (Zz (Qm (Bc (Zl (Za 0) Zt)) (Yz 2 (Zn (Zd 2) (Zn (Zd 3) (Y1)))) W5) (F_ (Za 1)))
def Jk:List D->Option SV:=Y0 Cp 5
def Ol:FS:=
 Fz (Yg (Zj Jt (Za 7) (Za 3))) (Zz (Rl 3 (Za 7) (Zf (.bl aC))) (Ae 4 (Za 7))) (Qk)
def Ms:FS:=
 Qm (Bv (Zj MC (Za 1) (Za 6))) (Zd 7) Ol
def Om:FT:=
 Yg (Zj gtD (Yq Ew (Zc (Za 4) Zi)) (Zf (.int 0)))
def Ge:FS:=
 Zz (Pu 5 0 4) (Qm (Bv (Zj Uj (Zj W8 (Za 5) (Zf (.int 0))) (Zj W8 (Za 5) (Zf (.int 1))))) (Zd 6) Ms)
def Dq:FS:=
 Zz (Yi 3 (KG 2 (Zf (.bl aC)))) (Zz (Yi 4 (Ba (Zl (Za 2) (Zt)))) (Zz (Ut Om Ge MA) (Wp (Yq Lf (Zc (Za 3) Zi)))))
def Fe:List D->Option SV:=Y0 Dq 8
def On:FS:=
 T5 3 (tupF (Zl (Za 5) (Zl (Za 6) (Zt)))) 7 aC
def W6:FS:=
 Zz (V5 1 (Zj W8 (Za 4) (Zf (.int 0)))) (Zz (V5 2 (Zj W8 (Za 4) (Zf (.int 1)))) (Qm (Bv (Zj W8 (Za 4) (Zf (.int 2)))) (Yz 3 (Zn (Zd 5) (Zn (Zd 6) (Zn (Zd 7) (Y1))))) On))
def Jl:FE:=
 tupF (Zl (Zj W8 (Za 0) (Zf (.int 0))) (Zl (Zj W8 (Za 0) (Zf (.int 1))) (Zl (Yq Mq (Zc (Zj MC (Za 1) (Za 0)) Zi)) (Zt))))
def Cq:FS:=
 Zz (Yi 1 (Ba (Zt))) (Zz (Yi 2 (Ba (Zt))) (Zz (Yi 3 (KH)) (Zz (Qm (Bv (Za 0)) (Zd 4) W6) (Zz (Yi 8 (Jg [.own,.cap 3,.acc] 2 (ES (Za 3)) (Zd 0) (W3) Jl)) (Wp (tupF (Zl (Yq Mq (Zc (Za 1) Zi)) (Zl (Yq Mq (Zc (Za 2) Zi)) (Zl (Yq Im (Zc (Za 8) Zi)) (Zt))))))))))
def Jm:List D->Option SV:=Y0 Cq 9
def Op:FS:=
 Rl 3 (Za 6) (Zf (.bl aC))
def Cr:FE:=
 Zj W8 (Za 1) (Za 0)
def Jx:FS:=
 Fz (Yg (Zj Jt (Za 4) (Za 3))) (Zz (Yi 5 (Z8 3 Fe (Zc (Za 0) (Zc (Za 1) (Zc (Za 4) (Zi)))))) (Zz (Qm (Bv (Za 5)) (Zd 6) Op) (Ae 2 (Z8 1 Jm (Zc (Jg [.own,.cap 0,.acc] 2 (Bv (Za 5)) (Zd 0) (W3) Cr) (Zi)))))) (Qk)
def Ff:FS:=
 Zz (Yi 1 (Z8 1 Jk (Zc (Za 0) (Zi)))) (Zz (Yi 2 (Ba (Zt))) (Zz (Yi 3 (Tz)) (Zz (Qm (Et (Zc (Yq Ew (Zc (Za 0) Zi)) Zi)) (Zd 4) Jx) (Wp (Yq Im (Zc (Za 2) Zi))))))
def Bz:List D->Option SV:=Y0 Ff 7
def Dr:FS:=
 Wp (Z8 1 Bz (Zc (Zj Uj (Za 0) (Za 1)) (Zi)))
def Gf:List D->Option SV:=Y0 Dr 2
def Ud:FE:=
 orV (Zj Hf (Za 0) (Zf (.str "kind"))) (Zj inZ (Za 0) (Za 1))
def Ue:FE:=
 Zj W8 (Ba (Zl (LX "dict" E2 (Za 2) (Zl (Za 0) (Zt))) (Zl (Za 1) (Zt)))) (Yq MH (Zc (Zj Hf (Za 0) (Zf (.str "kind"))) Zi))
def Qp:FS:=
 Fz (EU (Yg (Zj Jt (Zf (.bl aD)) (Jg [.own,.cap 3,.acc] 2 (Bv (Za 6)) (Zd 0) (W3) Ud)))) (Ae 4 (tupF (Zl (Za 5) (Zl (Yq Ex (Zc (Jg [.own,.cap 2,.cap 3,.acc] 3 (Bv (Za 6)) (Zd 0) (W3) Ue) Zi)) (Zt))))) (Qk)
def Gg:FS:=
 Zz (An (Yz 2 (Zn (Zd 2) (Zn (Zd 3) (Y1)))) (Za 0)) (Zz (Yi 4 (Ba (Zt))) (Zz (Qm (Bc (Zl (Za 1) Zt)) (Yz 2 (Zn (Zd 5) (Zn (Zd 6) (Y1)))) Qp) (Wp (Za 4))))
def Up:List D->Option SV:=Y0 Gg 7
def Gh:FS:=
 Zz (Yi 1 (Yq KQ (Zc (Zj W8 (Za 0) (Zf (.int 1))) Zi))) (Zz (Rl 1 (Zf (.str "kind")) (Zj W8 (Za 0) (Zf (.int 0)))) (Wp (Za 1)))
def Q8:List D->Option SV:=Y0 Gh 2
def U3:FE:=
 Zj inZ (Za 0) (Za 1)
def U4:FE:=
 Zj W8 (Za 1) (Za 0)
def Jn:FS:=
 Fz (Yg (Yq LY (Zc (Jg [.own,.cap 0,.acc] 2 (Bv (Za 4)) (Zd 0) (W3) U3) Zi))) (Ae 2 (tupF (Zl (Za 3) (Zl (Yq Ex (Zc (Jg [.own,.cap 0,.acc] 2 (Bv (Za 4)) (Zd 0) (W3) U4) Zi)) (Zt))))) (Qk)
def Rw:FS:=
 Zz (Yi 2 (Ba (Zt))) (Zz (Qm (Bc (Zl (Za 1) Zt)) (Yz 2 (Zn (Zd 3) (Zn (Zd 4) (Y1)))) Jn) (Wp (Za 2)))
def Oq:List D->Option SV:=Y0 Rw 5
def Qq:FT:=
 Yg (Zj neX (Za 0) (Zf (.str "note")))
def Uf:FE:=
 tupF (Zl (Za 0) (Zl (Zj W8 (Za 1) (Za 0)) (Zl (Ba (Zl (Za 2) (Zt))) (Zt))))
def Gi:FS:=
 Zz (Yi 3 (Z8 1 Q8 (Zc (Za 1) (Zi)))) (Zz (Yi 4 (Jg [.own,.cap 3,.cap 0,.acc] 3 (Pc (Za 3)) (Zd 0) (Qq) Uf)) (Wp (tupF (Zl (Ba (Zl (Za 0) (Zt))) (Zl (Z8 2 Oq (Zc (Za 3) (Zc (Za 2) (Zi)))) (Zl (Za 4) (Zt)))))))
def Q9:List D->Option SV:=Y0 Gi 5
def O5:FE:=
 Z8 3 Q9 (Zc (tupF (Zl (Za 2) (Zl (Za 0) (Zt)))) (Zc (Zj W8 (Za 3) (Za 0)) (Zc (Za 1) (Zi))))
def Tk:FS:=
 Wp (Z8 1 Bz (Zc (Jg [.own,.cap 2,.cap 0,.cap 1,.acc] 4 (Pc (Za 1)) (Zd 0) (W3) O5) (Zi)))
def Ja:List D->Option SV:=Y0 Tk 3
def Wg:FS:=
 Fz (X8 (Yg (Zj Hf (Za 4) (Za 1))) (Yg (Zj Hf (Za 5) (Za 2)))) (Yi 3 (Zj Uj (Za 3) (Za 6))) (Qk)
def Bj:FS:=
 Zz (Yi 3 (Ba (Zt))) (Zz (Qm (Bv (Zj W8 (Za 0) (Zf (.int 2)))) (Yz 3 (Zn (Zd 4) (Zn (Zd 5) (Zn (Zd 6) (Y1))))) Wg) (Wp (Za 3)))
def Wm:List D->Option SV:=Y0 Bj 7
def Rx:FS:=
 Zz (Yi 4 (Yq Ew (Zc (Z8 3 Wm (Zc (Za 0) (Zc (Za 1) (Zc (Za 3) (Zi))))) Zi))) (Wp (Zj geD (Yq Ew (Zc (Z8 3 Wm (Zc (Za 0) (Zc (Za 1) (Zc (Za 2) (Zi))))) Zi)) (Za 4)))
def Jy:List D->Option SV:=Y0 Rx 5
def Wz:FS:=
 Zz (Fz (X8 (Yg (Zj neX (Za 6) (Zf (.str "note")))) (Yg (Zj Rt (Za 1) (Z8 3 Wm (Zc (Za 2) (Zc (Za 6) (Zc (Zj W8 (Za 5) (Za 6)) (Zi)))))))) (Wp (Zf (.bl aD))) (Qk)) (Fz (Yg (Zj Jt (Za 6) (tupF (Pa ["note","in"] (Zt))))) (Zz (Yi 7 (LX "dict" E2 (Zj W8 (Za 3) (Zf (.int 1))) (Zl (Za 6) (Zt)))) (Fz (orF (Yg (Zj Hb (Za 7) (Zf .non))) (PJ (Yg (Z8 4 Jy (Zc (Za 2) (Zc (Za 6) (Zc (Za 7) (Zc (Zj W8 (Za 5) (Za 6)) (Zi))))))))) (Wp (Zf (.bl aD))) (Qk))) (Qk))
def Gj:FS:=
 Zz (An (Yz 2 (Zn (Zd 4) (Zn (Zd 5) (Y1)))) (Zj W8 (Za 0) (Za 1))) (Zz (Fz (PJ (Yg (Z8 4 Jy (Zc (Za 2) (Zc (Zf (.str "kind")) (Zc (Zj W8 (Za 3) (Zf (.int 0))) (Zc (Za 4) (Zi)))))))) (Wp (Zf (.bl aD))) (Qk)) (Zz (Qm (Pc (Za 5)) (Zd 6) Wz) (Wp (Zf (.bl aC)))))
def Jb:List D->Option SV:=Y0 Gj 8
def Qr:FS:=
 Fz (Yg (Zj Hf (Zj W8 (Za 3) (Zf (.int 0))) (Za 1))) (Rl 2 (Zj W8 (Za 3) (Zf (.int 1))) (Zj W8 (Za 0) (Za 3))) (Qk)
def Gk:FS:=
 Zz (Yi 2 (Tz)) (Zz (Qm (Pc (Za 0)) (Zd 3) Qr) (Wp (Za 2)))
def Jc:List D->Option SV:=Y0 Gk 4
def Ax:FS:=
 Zz (Yi 8 (Zj W8 (Za 1) (Zj Uz (Zj Uj (Za 7) (Z8 2 Zx (Zc (Za 0) (Zc (Zf (.int 5)) (Zi))))) (Zf (.int 3))))) (Yi 6 (Z8 2 Gf (Zc (Za 6) (Zc (Z8 3 Ja (Zc (Za 8) (Zc (Z8 2 Jc (Zc (Za 5) (Zc (Za 8) (Zi)))) (Zc (Za 4) (Zi))))) (Zi)))))
def Mt:FS:=
 Zz (Yi 12 (Z8 2 Yn (Zc (Za 6) (Zc (Za 11) (Zi))))) (Zz (Fz (Yg (Zj Hb (Za 12) (Zf .non))) (Wp (Zf (.bl aD))) (Qk)) (Zz (Yi 13 (Zj W8 (Za 9) (Z8 1 Oh (Zc (Za 12) (Zi))))) (Zz (Fz (PJ (Yg (Z8 4 Jb (Zc (Za 5) (Zc (Za 11) (Zc (Zj W8 (Za 6) (Za 12)) (Zc (Za 13) (Zi)))))))) (Wp (Zf (.bl aD))) (Qk)) (Rl 10 (Za 11) (Za 12)))))
def Ay:FS:=
 Zz (Be 16 14 (Za 15) (Za 11)) (Fz (Yg (Zj neX (Zj W8 (Za 10) (Za 16)) (Zj W8 (Za 10) (Za 11)))) (Wp (Zf (.bl aD))) (Qk))
def Az:FS:=
 Qm (Bv (Z8 2 Up (Zc (Zj W8 (Za 5) (Za 11)) (Zc (Za 4) (Zi))))) (Zd 15) Ay
def Ea:FE:=
 Zj W8 (Za 1) (Za 0)
def Pz:FE:=
 Za 0
def EI:FS:=
 Zz (Yi 1 (Z8 2 Wd (Zc (Z8 2 W4 (Zc (Z8 2 Zx (Zc (Za 0) (Zc (Zf (.int 0)) (Zi)))) (Zc (Zf (.int 16807)) (Zi)))) (Zc (Zf (.int 3)) (Zi))))) (Zz (Yi 2 (Z8 2 Wd (Zc (Z8 2 W4 (Zc (Z8 2 Zx (Zc (Za 0) (Zc (Zf (.int 1)) (Zi)))) (Zc (Zf (.int 16807)) (Zi)))) (Zc (Zf (.int 4)) (Zi))))) (Zz (Yi 3 (Z8 2 Wd (Zc (Z8 2 W4 (Zc (Z8 2 Zx (Zc (Za 0) (Zc (Zf (.int 2)) (Zi)))) (Zc (Zf (.int 16807)) (Zi)))) (Zc (Zf (.int 3)) (Zi))))) (Zz (Yi 4 (Z8 2 Ul (Zc (Za 3) (Zc (Z8 2 Zx (Zc (Za 0) (Zc (Zf (.int 3)) (Zi)))) (Zi))))) (Zz (Yi 5 (Z8 5 Um (Zc (Za 1) (Zc (Za 2) (Zc (Za 3) (Zc (slF slD (Za 0) (K_ (Zf (.int 6))) (K_ (Zf (.int 18)))) (Zc (Zj Uj (Zf (.int 2)) (Zj Uz (Z8 2 Zx (Zc (Za 0) (Zc (Zf (.int 4)) (Zi)))) (Zf (.int 9)))) (Zi)))))))) (Zz (Yi 6 (Ba (Zt))) (Zz (Qm (Et (Zc (Zf (.int 3)) Zi)) (Zd 7) Ax) (Zz (Yi 9 (Z8 1 Oi (Zc (Za 6) (Zi)))) (Zz (Yi 10 (KR)) (Zz (Qm (Pc (Za 5)) (Zd 11) Mt) (Zz (Yi 14 (ER)) (Zz (Qm (Pc (Za 5)) (Zd 11) Az) (Zz (Yi 17 (Yq PC (Zc (Jg [.own,.cap 10,.acc] 2 (Pc (Za 10)) (Zd 0) (W3) Ea) Zi))) (Wp (FY (Zj Hf (Yq Lg (Zc (Za 9) Zi)) (Yq Lg (Zc (Za 6) Zi))) (Zj Hf (Za 17) (Jg [.own,.acc] 1 (Et (Zc (Yq Lg (Zc (Za 6) Zi)) Zi)) (Zd 0) (W3) Pz))))))))))))))))
def KO:List D->Option SV:=Y0 EI 18
abbrev At(K:af)(x:Str)(i:Nat):Prop:=∃f fd,AtF K x (top i) f fd
structure Env(K:af)(mg:Str->Option ag)(c0:au):Prop where
 u:Und K mg
 a0:At K "_law_names" 24
 a1:At K "_law_numbers" 25
 a2:At K "_law_rules" 26
 a3:At K "_law_works" 27
 a4:At K "letter" 4
 a5:∃f fd,AtC K c0 "told_triple" (top 17) f fd
 a6:At K "tells" 16
 a7:At K "each_once" 2
 a8:At K "heap_of" 15
 a9:At K "told_in" 20
 a10:At K "told_fields" 19
 a11:At K "shelf_of" 18
 a12:At K "_law_mixed" 23
 a13:At K "_law_cell_at" 22
 a14:At K "holders_of" 12
 a15:At K "tied" 13
 a16:At K "join_heaps" 14
 a17:At K "joined" 11
 a18:At K "pour" 10
 a19:At K "_law_marks" 29
 a20:At K "own_texts" 8
 a21:At K "marks_of" 9
 a22:At K "lone_heap" 7
 a23:At K "pool_of" 6
 a24:At K "_law_tellers" 30
 a25:At K "_law_more" 31
 a26:At K "_law_there" 32
 a27:At K "_law_shelf" 28
 a28:At K "law" 33
 z_all:mg "all"=aB
 z_dict:mg "dict"=aB
 z_enumerate:mg "enumerate"=aB
 z_int:mg "int"=aB
 z_len:mg "len"=aB
 z_list:mg "list"=aB
 z_min:mg "min"=aB
 z_range:mg "range"=aB
 z_set:mg "set"=aB
 z_sorted:mg "sorted"=aB
 z_str:mg "str"=aB
 z_tuple:mg "tuple"=aB
 c_SMALL_LETTERS:∃t,PySem.W.nsIn K mainGlobals "SMALL_LETTERS"=aA (aA (.str "abcdefghijklmnopqrstuvwxyz" t))
section
variable{P:cg}{w:dn}{K:af}{mg:Str->Option ag}{base:f8}{c0 tq:au}(E:Env K mg c0)
include E
noncomputable abbrev QN:Str:=(dz "told_triple"++ ".<locals>."++ "<lambda>")
theorem k0:Sv P w K mg base Ot 1 "_law_names" ["_law_number","_law_many"] (Wh K 2 Wd):=Iy E.u E.a0 0 2 ["_law_number","_law_many","_law_letters","_law_size","_law_at","_law_names_here","_law_turn","_law_name","_law_k","_law_step"] Wd C9 λnd _ hr hu hv=>(Zg (Z2 2 nd Jr) (Zg (Z2 3 nd (Qc Zq (Qd (Zb 0) Zq))) (Zg (Z2 4 nd (Qd (M6 (Zb 0) Zq) (Zb 3))) (Zg (Z2 5 nd (Jh Yr)) (Zg (Wi cq rfl (Mg E.z_range (Zb 1)) (Zw 6 nd) (Zg (Z2 7 nd Jr) (Zg (Wi cq rfl (Mg E.z_range (Zb 3)) (Zw 8 nd) (Zg (Z2 9 nd (Ta (Zb 6) (yt E.z_int (Va hv (Zb 8) (Zb 4))))) (Zm (Z2 7 nd (Qc (Zb 7) (Z3 hu (Zb 2) (Qd (Qc (M6 (Zb 0) (Qc (Zb 8) Zq)) (Zb 9)) Zq))))))) (Zm (Mh 5 (Zb 7)))))) (Zm (Y2 (Zb 5))))))))
theorem k1:Sv P w K mg base Ot 1 "_law_numbers" ["_law_cell","_law_many"] (Wh K 2 Y6):=Iy E.u E.a1 0 2 ["_law_cell","_law_many","_law_found","_law_number","_law_k"] Y6 J3 λnd _ hr hu hv=>(Zg (Z2 2 nd (Jh Yr)) (Zg (Z2 3 nd (M6 (Zb 0) Zq)) (Zg (Ca (Lc hv (Qd (Zb 0) Zq) Zq) (Zg (Wi cq rfl (Mg E.z_range (Zb 1)) (Zw 4 nd) (Zg (Mh 2 (Qd (Zb 3) Zq)) (Zm (Z2 3 nd (M6 (Zb 3) Zq))))) (Zm (Y2 (Zb 2)))) Wr) (Zg (Z2 3 nd (Qd (Zb 3) Zq)) (Zg (Wi cq rfl (Mg E.z_range (Zb 1)) (Zw 4 nd) (Zg (Z2 3 nd (Qd (Ta (Qc (Qc (Zb 3) (Zb 4)) Zq) Zq) Zq)) (Zm (Mh 2 (Qd (Ta (Zb 3) Zq) Zq))))) (Zm (Y2 (Zb 2))))))))
theorem k2:Sv P w K mg base Ot 2 "_law_rules" ["_law_fields","_law_cell"] (Wh K 2 Ul):=Iy E.u E.a2 1 2 ["_law_fields","_law_cell","_law_some","_law_rules_here","_law_k","_law_rule","_law_j"] Ul Ga λnd _ hr hu hv=>(Zg (Z2 2 nd (Ya (k1 E) hr (Zh (Zb 1) (Zh Zq Z4)))) (Zg (Z2 3 nd (Jh Yr)) (Zg (Wi cq rfl (Mg E.z_range (Qd (Z3 hu (Zb 2) Zq) Zq)) (Zw 4 nd) (Zg (Z2 5 nd (Jh Yr)) (Zg (Wi cq rfl (Mg E.z_range (Qc Zq (Qd (Z3 hu (Zb 2) (Qc Zq (Ta Zq (Zb 4)))) Zq))) (Zw 6 nd) (Zm (Mh 5 (Z3 hu (Qc (Zb 0) (Jh (Z1 Jr Yr))) (Qd (Z3 hu (Zb 2) (Qc (Qc Zq (Ta Zq (Zb 4))) (Zb 6))) Zq))))) (Zm (Mh 3 (Zb 5)))))) (Zm (Y2 (Zb 3))))))
theorem k3:Sv P w K mg base Ot 2 "_law_works" ["_law_books","_law_keys","_law_fields","_law_cells","_law_wide"] (Wh K 5 Um):=Iy E.u E.a3 1 5 ["_law_books","_law_keys","_law_fields","_law_cells","_law_wide","_law_works_here","_law_k","_law_cell","_law_some","_law_own","_law_j","_law_field"] Um Gb λnd _ hr hu hv=>(Zg (Z2 5 nd xp) (Zg (Wi cq rfl (Cc E.z_enumerate (Z1 (Zb 3) Yr)) (C1 rfl (Yw (Zw 6 nd) (Yw (Zw 7 nd) Oe))) (Zg (Z2 8 nd (Ya (k1 E) hr (Zh (Zb 7) (Zh Zq Z4)))) (Zg (Z2 9 nd Gq) (Zg (Wi cq rfl (Cc E.z_enumerate (Z1 (Qc (Zb 2) (Jh (Z1 Jr Yr))) Yr)) (C1 rfl (Yw (Zw 10 nd) (Yw (Zw 11 nd) Oe))) (Zm (Ca (FQ (Qd (Z3 hu (Zb 8) (Zb 10)) Zq) Zq) (Zm (C3 9 hu (Zb 11) (Qc Jr (pD E.z_str (Qd (Z3 hu (Zb 8) (Qc Zq (Zb 10))) (Zb 4)))))) Wr))) (Zg (Ca (FQ (Qd (Z3 hu (Zb 8) Zq) Zq) Zq) (Zm (C3 9 hu Jr (Z3 hu (Qc (Zb 1) (Jh (Z1 Jr Yr))) (Qd (Z3 hu (Zb 8) Zq) Zq)))) Wr) (Zm (C3 5 hu (O0 (Z1 (Z3 hu (Zb 0) (Qd (Zb 6) Zq)) (Z1 (Z3 hu (Zb 1) (M6 (Zb 6) Zq)) Yr))) (O0 (Z1 (Z3 hu (Jh (wL [("book",_,_),("part",_,_)] Yr)) (Qd (Z3 hu (Zb 8) Zq) Zq)) (Z1 (Zb 9) Yr)))))))))) (Zm (Y2 (Zb 5)))))
theorem k4:Sv P w K mg base Ot 1 "letter" ["n"] (Wh K 1 Oh):=Iy E.u E.a4 0 1 ["n","text","left"] Oh V8 λnd _ hr hu hv=>(Zg (Z2 1 nd Jr) (Zg (Z2 2 nd (Zb 0)) (Zg (xx MA cq (tN (Zb 2) Zq) (Zg (Z2 1 nd (Qc (Z3 hu (n9 E.u E.c_SMALL_LETTERS) (Qd (Zb 2) Zq)) (Zb 1))) (Zm (Z2 2 nd (rj (M6 (Zb 2) Zq) Zq))))) (Zm (Y2 (Zb 1))))))
theorem k5(CT:PySem.W.CodeHd base c0 tq)(BM:L2.Bw mg base):Sv P w K mg base Ot 4 "told_triple" ["heap","field"] (L2.spT tq QN (Wh K 2 Wl)):=ux (tq:=tq) (q:=QN) E.u E.a5 3 2 ["heap","field","triples"] Wl Bh λnd hT hr hu hv=>(Zg (Tj 2 ["triple","field",".acc"] nd (Uk (Z3 hu (Zb 0) Zq)) (λnd=>(Zw 0 nd)) (xt λ_=>(Lc hv (Z3 hu (Zb 0) Zq) (Zb 1))) ((Zb 0))) (Zm (Y2 (qm (S:=by exact⟨rfl,rfl,rfl,rfl,by decide+kernel,by decide⟩) (YQ:=by intro _ _ _ _ _;rfl) "triple" (hr.mono (by decide)) hv E.z_min CT hT BM (Zb 2) (λ_ _ _ _ _ _ hu=>(O0 (Z1 (rB (La E.z_len (Z3 hu (Zb 0) Zq))) (Z1 (Z3 hu (Zb 0) Zq) Yr))))))))
theorem k6(CT:PySem.W.CodeHd base c0 tq)(BM:L2.Bw mg base):Sv P w K mg base Ot 5 "tells" ["heap","field"] (L2.spT tq QN (Wh K 2 O4)):=LV (tq:=tq) (q:=QN) E.u E.a6 4 2 ["heap","field","triple"] O4 Aw λnd hT hr hu hv=>(Zg (Z2 2 nd (Ck hT (k5 E CT BM) hr (Zh (Zb 0) (Zh (Zb 1) Z4)))) (Zm (Y2 (EB (KY (Zb 2) Tx) Tx (Z3 hu (Zb 2) Zq)))))
theorem k7:Sv P w K mg base Ot 1 "each_once" ["things"] (Wh K 1 Uo):=Iy E.u E.a7 0 1 ["things","found","thing"] Uo Gc λnd _ hr hu hv=>(Zg (Z2 1 nd Gq) (Zg (Wi cq rfl (Uk (Zb 0)) (Zw 2 nd) (Zm (C3 1 hu (Zb 2) Af))) (Zm (Y2 (yW rfl E.z_list (Zb 1))))))
theorem k8:Sv P w K mg base Ot 1 "heap_of" ["pool","name"] (Wh K 2 Yn):=Iy E.u E.a8 0 2 ["pool","name","place","heap"] Yn Gw λnd _ hr hu hv=>(Zg (Wi cq rfl (Cc E.z_enumerate (Z1 (Zb 0) Yr)) (C1 rfl (Yw (Zw 2 nd) (Yw (Zw 3 nd) Oe))) (Zm (Ca (sC hv (Zb 1) (Z3 hu (Zb 3) Zq)) (Zm (Y2 (Zb 2))) Wr))) (Zm (Y2 Tx)))
theorem k9(CT:PySem.W.CodeHd base c0 tq)(BM:L2.Bw mg base):Sv P w K mg base Ot 5 "told_in" ["pool","heap"] (L2.spT tq QN (Wh K 2 U9)):=LV (tq:=tq) (q:=QN) E.u E.a9 4 2 ["pool","heap","triple","book","place"] U9 Gx λnd hT hr hu hv=>(Zg (Z2 2 nd (Ck hT (k5 E CT BM) hr (Zh (Zb 1) (Zh Jr Z4)))) (Zg (Z2 3 nd (Z3 hu (Z3 hu (Z3 hu (Zb 2) Zq) Zq) Zq)) (Zg (Z2 4 nd (Ya (k8 E) hr (Zh (Zb 0) (Zh (O0 (Z1 (Zb 3) (Z1 (Z3 hu (Zb 2) Zq) Yr))) Z4)))) (Zm (Y2 (EB (KY (Zb 4) Tx) Tx (Ya (k4 E) hr (Zh (Zb 4) Z4))))))))
theorem k10(CT:PySem.W.CodeHd base c0 tq)(BM:L2.Bw mg base):Sv P w K mg base Ot 6 "told_fields" ["pool","heap"] (L2.spT tq QN (Wh K 2 Qo)):=LV (tq:=tq) (q:=QN) E.u E.a10 5 2 ["pool","heap","fields","field","text"] Qo Bi λnd hT hr hu hv=>(Zg (Z2 2 nd Gq) (Zg (Wi cq rfl (Uk (Ya (k7 E) hr (Zh (Cm ["triple",".acc"] (Uk (Z3 hu (Zb 1) Zq)) (λnd=>(Zw 0 nd)) (xt0) ((Z3 hu (Zb 0) Zq))) Z4))) (Zw 3 nd) (Zg (Z2 4 nd (EB (Lc hv (Zb 3) Jr) (Ck hT (k9 E CT BM) hr (Zh (Zb 0) (Zh (Zb 1) Z4))) (Ck hT (k6 E CT BM) hr (Zh (Zb 1) (Zh (Zb 3) Z4))))) (Zm (Ca (PW.pt (E_ (KU hv (Zb 3) Jr) (Hc (pR (Zb 4) Tx)))) (Zm (C3 2 hu (Zb 3) (Zb 4))) Wr)))) (Zm (Y2 (Zb 2)))))
theorem k11(CT:PySem.W.CodeHd base c0 tq)(BM:L2.Bw mg base):Sv P w K mg base Ot 7 "shelf_of" ["pool"] (L2.spT tq QN (Wh K 1 Oi)):=LV (tq:=tq) (q:=QN) E.u E.a11 6 1 ["pool","shelf","place","heap"] Oi Rv λnd hT hr hu hv=>(Zg (Z2 1 nd Gq) (Zg (Wi cq rfl (Cc E.z_enumerate (Z1 (Zb 0) Yr)) (C1 rfl (Yw (Zw 2 nd) (Yw (Zw 3 nd) Oe))) (Zm (C3 1 hu (Ya (k4 E) hr (Zh (Zb 2) Z4)) (O0 (Z1 (Ck hT (k6 E CT BM) hr (Zh (Zb 3) (Zh Jr Z4))) (Z1 (Ck hT (k10 E CT BM) hr (Zh (Zb 0) (Zh (Zb 3) Z4))) Yr)))))) (Zm (Y2 (Zb 1)))))
theorem k12:Sv P w K mg base Ot 1 "_law_mixed" ["_law_cell","_law_by"] (Wh K 2 W4):=Iy E.u E.a12 0 2 ["_law_cell","_law_by"] W4 Gd λnd _ hr hu hv=>(Zm (Y2 (Qd (Ta (Qd (Zb 0) Zq) (Zb 1)) Zq)))
theorem k13:Sv P w K mg base Ot 1 "_law_cell_at" ["_law_script","_law_k"] (Wh K 2 Zx):=Iy E.u E.a13 0 2 ["_law_script","_law_k"] Zx Uc λnd _ hr hu hv=>(Zg (Ca (tO (Zb 1) (La E.z_len (Zb 0))) (Zm (Y2 (Z3 hu (Zb 0) (Zb 1)))) Wr) (Zm (Y2 Zq)))
theorem k14:Sv P w K mg base Ot 1 "holders_of" ["heaps"] (Wh K 1 Jk):=Iy E.u E.a14 0 1 ["heaps","holders","place","heap","tie"] Jk Cp λnd _ hr hu hv=>(Zg (Z2 1 nd xM) (Zg (Wi cq rfl (Cc E.z_enumerate (Z1 (Zb 0) Yr)) (C1 rfl (Yw (Zw 2 nd) (Yw (Zw 3 nd) Oe))) (Zm (Wi cq rfl (Uk (Qc (Z3 hu (Zb 3) Zq) (Z3 hu (Zb 3) Zq))) (Zw 4 nd) (Zm (nU 1 2 hv (Zb 4)))))) (Zm (pG (Zb 1)))))
theorem k15:Sv P w K mg base Ot 1 "tied" ["heaps","holders","place"] (Wh K 3 Fe):=Iy E.u E.a15 0 3 ["heaps","holders","place","found","left","heap","tie","other"] Fe Dq λnd _ hr hu hv=>(Zg (Z2 3 nd (nK 2 Af)) (Zg (Z2 4 nd (Jh (Z1 (Zb 2) Yr))) (Zg (xx MA cq (FQ (La E.z_len (Zb 4)) Zq) (Zg (nL 5 0 4 nd (zP 0) (zP 4)) (Zm (Wi cq rfl (Uk (Qc (Z3 hu (Zb 5) Zq) (Z3 hu (Zb 5) Zq))) (Zw 6 nd) (Zm (Wi cq rfl (Uk (zi hv (Zb 1) (Zb 6))) (Zw 7 nd) (Zm (Ca (Mj hu (Zb 7) (Zb 3)) (Zg (C3 3 hu (Zb 7) Af) (Zm (Mh 4 (Zb 7)))) Wr)))))))) (Zm (Y2 (yW rfl E.z_list (Zb 3)))))))
theorem k16:Sv P w K mg base Ot 1 "join_heaps" ["heaps"] (Wh K 1 Jm):=Iy E.u E.a16 0 1 ["heaps","names","marks","tellers","heap","field","value","told_by","fields"] Jm Cq λnd _ hr hu hv=>(Zg (Z2 1 nd (Jh Yr)) (Zg (Z2 2 nd (Jh Yr)) (Zg (Z2 3 nd xM) (Zg (Wi cq rfl (Uk (Zb 0)) (Zw 4 nd) (Zg (yU 1 (Z3 hu (Zb 4) Zq)) (Zg (yU 2 (Z3 hu (Zb 4) Zq)) (Zm (Wi cq rfl (Uk (Z3 hu (Zb 4) Zq)) (C1 rfl (Yw (Zw 5 nd) (Yw (Zw 6 nd) (Yw (Zw 7 nd) Oe)))) (Zm (nR 3 7 hv (O0 (Z1 (Zb 5) (Z1 (Zb 6) Yr)))))))))) (Zg (Tj 8 ["pair","tellers",".acc"] nd (pN (Zb 3)) (λnd=>(Zw 0 nd)) (xt0) ((O0 (Z1 (Z3 hu (Zb 0) Zq) (Z1 (Z3 hu (Zb 0) Zq) (Z1 (Dh rfl hv E.z_sorted E.z_set (zi hv (Zb 1) (Zb 0))) Yr)))))) (Zm (Y2 (O0 (Z1 (Dh rfl hv E.z_sorted E.z_set (Zb 1)) (Z1 (Dh rfl hv E.z_sorted E.z_set (Zb 2)) (Z1 (yP hv E.z_sorted (Zb 8)) Yr)))))))))))
theorem k17:Sv P w K mg base Ot 2 "joined" ["heaps"] (Wh K 1 Bz):=Iy E.u E.a17 1 1 ["heaps","holders","pool","seen","place","group","other"] Bz Ff λnd _ hr hu hv=>(Zg (Z2 1 nd (Ya (k14 E) hr (Zh (Zb 0) Z4))) (Zg (Z2 2 nd (Jh Yr)) (Zg (Z2 3 nd Gq) (Zg (Wi cq rfl (Mg E.z_range (La E.z_len (Zb 0))) (Zw 4 nd) (Zm (Ca (Mj hu (Zb 4) (Zb 3)) (Zg (Z2 5 nd (Ya (k15 E) hr (Zh (Zb 0) (Zh (Zb 1) (Zh (Zb 4) Z4))))) (Zg (Wi cq rfl (Uk (Zb 5)) (Zw 6 nd) (Zm (C3 3 hu (Zb 6) Af))) (Zm (Mh 2 (Ya (k16 E) hr (Zh (Cm ["other","heaps",".acc"] (Uk (Zb 5)) (λnd=>(Zw 0 nd)) (xt0) ((Z3 hu (Zb 1) (Zb 0)))) Z4)))))) Wr))) (Zm (Y2 (yP hv E.z_sorted (Zb 2))))))))
theorem k18:Sv P w K mg base Ot 3 "pour" ["one","other"] (Wh K 2 Gf):=Iy E.u E.a18 2 2 ["one","other"] Gf Dr λnd _ hr hu hv=>(Zm (Y2 (Ya (k17 E) hr (Zh (Qc (Zb 0) (Zb 1)) Z4))))
theorem k19:Sv P w K mg base Ot 1 "_law_marks" ["_law_work","_law_rules_here"] (Wh K 2 Up):=Iy E.u E.a19 0 2 ["_law_work","_law_rules_here","_law_kind","_law_own","_law_marks_here","_law_n","_law_rule"] Up Gg λnd _ hr hu hv=>(Zg (S5 (Zb 0) (C1 rfl (Yw (Zw 2 nd) (Yw (Zw 3 nd) Oe)))) (Zg (Z2 4 nd (Jh Yr)) (Zg (Wi cq rfl (Cc E.z_enumerate (Z1 (Zb 1) Yr)) (C1 rfl (Yw (Zw 5 nd) (Yw (Zw 6 nd) Oe))) (Zm (Ca (pC (Mj hu Af (Cm ["_law_field","_law_own",".acc"] (Uk (Zb 6)) (λnd=>(Zw 0 nd)) (xt0) ((tL (Va hv (Zb 0) Jr) (zV (zQ hu (Zb 0) (Zb 1)))))))) (Zm (Mh 4 (O0 (Z1 (Zb 5) (Z1 (xy E.z_tuple (Cm ["_law_field","_law_kind","_law_own",".acc"] (Uk (Zb 6)) (λnd=>(Zw 0 nd)) (xt0) ((Z3 hu (Jh (Z1 (ya hu (Zb 2) (Z1 (Zb 0) Yr)) (Z1 (Zb 1) Yr))) (yt E.z_int (Va hv (Zb 0) Jr)))))) Yr))))) Wr))) (Zm (Y2 (Zb 4))))))
theorem k20:Sv P w K mg base Ot 1 "own_texts" ["work"] (Wh K 1 Q8):=Iy E.u E.a20 0 1 ["work","texts"] Q8 Gh λnd _ hr hu hv=>(Zg (Z2 1 nd (ke E.z_dict (Z3 hu (Zb 0) Zq))) (Zg (C3 1 hu Jr (Z3 hu (Zb 0) Zq)) (Zm (Y2 (Zb 1)))))
theorem k21:Sv P w K mg base Ot 1 "marks_of" ["texts","rules"] (Wh K 2 Oq):=Iy E.u E.a21 0 2 ["texts","rules","marks","number","rule"] Oq Rw λnd _ hr hu hv=>(Zg (Z2 2 nd (Jh Yr)) (Zg (Wi cq rfl (Cc E.z_enumerate (Z1 (Zb 1) Yr)) (C1 rfl (Yw (Zw 3 nd) (Yw (Zw 4 nd) Oe))) (Zm (Ca (KW (s_ E.z_all (Cm ["field","texts",".acc"] (Uk (Zb 4)) (λnd=>(Zw 0 nd)) (xt0) ((zQ hu (Zb 0) (Zb 1)))))) (Zm (Mh 2 (O0 (Z1 (Zb 3) (Z1 (xy E.z_tuple (Cm ["field","texts",".acc"] (Uk (Zb 4)) (λnd=>(Zw 0 nd)) (xt0) ((Z3 hu (Zb 1) (Zb 0))))) Yr))))) Wr))) (Zm (Y2 (Zb 2)))))
theorem k22:Sv P w K mg base Ot 2 "lone_heap" ["name","work","rules"] (Wh K 3 Q9):=Iy E.u E.a22 1 3 ["name","work","rules","texts","fields"] Q9 Gi λnd _ hr hu hv=>(Zg (Z2 3 nd (Ya (k20 E) hr (Zh (Zb 1) Z4))) (Zg (Tj 4 ["field","texts","name",".acc"] nd (E8 (Zb 3)) (λnd=>(Zw 0 nd)) (xt λ_=>(KU hv (Zb 0) Jr)) ((O0 (Z1 (Zb 0) (Z1 (Z3 hu (Zb 1) (Zb 0)) (Z1 (Jh (Z1 (Zb 2) Yr)) Yr)))))) (Zm (Y2 (O0 (Z1 (Jh (Z1 (Zb 0) Yr)) (Z1 (Ya (k21 E) hr (Zh (Zb 3) (Zh (Zb 2) Z4))) (Z1 (Zb 4) Yr))))))))
theorem k23:Sv P w K mg base Ot 3 "pool_of" ["book","shelf","rules"] (Wh K 3 Ja):=Iy E.u E.a23 2 3 ["book","shelf","rules"] Ja Tk λnd _ hr hu hv=>(Zm (Y2 (Ya (k17 E) hr (Zh (Cm ["key","rules","book","shelf",".acc"] (E8 (Zb 1)) (λnd=>(Zw 0 nd)) (xt0) ((Ya (k22 E) hr (Zh (O0 (Z1 (Zb 2) (Z1 (Zb 0) Yr))) (Zh (Z3 hu (Zb 3) (Zb 0)) (Zh (Zb 1) Z4)))))) Z4))))
theorem k24:Sv P w K mg base Ot 1 "_law_tellers" ["_law_heap","_law_field","_law_value"] (Wh K 3 Wm):=Iy E.u E.a24 0 3 ["_law_heap","_law_field","_law_value","_law_tellers_here","_law_one","_law_other","_law_names_here"] Wm Bj λnd _ hr hu hv=>(Zg (Z2 3 nd (Jh Yr)) (Zg (Wi cq rfl (Uk (Z3 hu (Zb 0) Zq)) (C1 rfl (Yw (Zw 4 nd) (Yw (Zw 5 nd) (Yw (Zw 6 nd) Oe)))) (Zm (Ca (PW.pt (E_ (Lc hv (Zb 4) (Zb 1)) (Hc (Lc hv (Zb 5) (Zb 2))))) (Zm (Z2 3 nd (Qc (Zb 3) (Zb 6)))) Wr))) (Zm (Y2 (Zb 3)))))
theorem k25:Sv P w K mg base Ot 2 "_law_more" ["_law_heap","_law_field","_law_one","_law_other"] (Wh K 4 Jy):=Iy E.u E.a25 1 4 ["_law_heap","_law_field","_law_one","_law_other","_law_least"] Jy Rx λnd _ hr hu hv=>(Zg (Z2 4 nd (La E.z_len (Ya (k24 E) hr (Zh (Zb 0) (Zh (Zb 1) (Zh (Zb 3) Z4)))))) (Zm (Y2 (tP (La E.z_len (Ya (k24 E) hr (Zh (Zb 0) (Zh (Zb 1) (Zh (Zb 2) Z4))))) (Zb 4)))))
theorem k26:Sv P w K mg base Ot 3 "_law_there" ["_law_works_here","_law_name","_law_heap","_law_work"] (Wh K 4 Jb):=Iy E.u E.a26 2 4 ["_law_works_here","_law_name","_law_heap","_law_work","_law_kind","_law_own","_law_field","_law_value"] Jb Gj λnd _ hr hu hv=>(Zg (S5 (Z3 hu (Zb 0) (Zb 1)) (C1 rfl (Yw (Zw 4 nd) (Yw (Zw 5 nd) Oe)))) (Zg (Ca (EZ (KW (Ya (k25 E) hr (Zh (Zb 2) (Zh Jr (Zh (Z3 hu (Zb 3) Zq) (Zh (Zb 4) Z4))))))) (Zm (Y2 Af)) Wr) (Zg (Wi cq rfl (E8 (Zb 5)) (Zw 6 nd) (Zg (Ca (PW.pt (E_ (KU hv (Zb 6) Jr) (Hc (kQ hv (Zb 1) (Ya (k24 E) hr (Zh (Zb 2) (Zh (Zb 6) (Zh (Z3 hu (Zb 5) (Zb 6)) Z4)))))))) (Zm (Y2 Af)) Wr) (Zm (Ca (Mj hu (Zb 6) (O0 (wL [("note",_,_),("in",_,_)] Yr))) (Zg (Z2 7 nd (ya hu (Z3 hu (Zb 3) Zq) (Z1 (Zb 6) Yr))) (Zm (Ca (PW.pt (tM (KY (Zb 7) Tx) (rh (EZ (KW (Ya (k25 E) hr (Zh (Zb 2) (Zh (Zb 6) (Zh (Zb 7) (Zh (Z3 hu (Zb 5) (Zb 6)) Z4)))))))))) (Zm (Y2 Af)) Wr))) Wr)))) (Zm (Y2 Af)))))
theorem k27:Sv P w K mg base Ot 1 "_law_shelf" ["_law_works_here","_law_book"] (Wh K 2 Jc):=Iy E.u E.a27 0 2 ["_law_works_here","_law_book","_law_shelf_here","_law_name"] Jc Gk λnd _ hr hu hv=>(Zg (Z2 2 nd Gq) (Zg (Wi cq rfl (E8 (Zb 0)) (Zw 3 nd) (Zm (Ca (Lc hv (Z3 hu (Zb 3) Zq) (Zb 1)) (Zm (C3 2 hu (Z3 hu (Zb 3) Zq) (Z3 hu (Zb 0) (Zb 3)))) Wr))) (Zm (Y2 (Zb 2)))))
end
theorem fR{K}(E:Env K mg c0)(uD:mg "law"=aA (.ref fa))(hct:PySem.W.codeHdIn K c0 tq=aC):BS l "_law_script" 8 KO tq QN K w mg fa:=by obtain⟨_,_,a⟩:=E.a28;cases uD.symm.trans (E.u a.1);refine⟨_,n_ a.2 λ_ _ _ _ _ _ _=>rfl,λbase kb nb BM=>?_⟩;have CT:=PySem.W.codeHd_of_K kb hct;exact BU a 7 1 ["_law_script","_law_books","_law_keys","_law_fields","_law_rules_here","_law_works_here","_law_pool","_law_k","_law_book","_law_shelf_here","_law_places","_law_name","_law_place","_law_work","_law_marks_here","_law_mark","_law_first","_law_met"] KO EI λnd hT hr hu hv=>(Zg (Z2 1 nd (Ya (k0 E) hr (Zh (Ya (k12 E) hr (Zh (Ya (k13 E) hr (Zh (Zb 0) (Zh Zq Z4))) (Zh Zq Z4))) (Zh Zq Z4)))) (Zg (Z2 2 nd (Ya (k0 E) hr (Zh (Ya (k12 E) hr (Zh (Ya (k13 E) hr (Zh (Zb 0) (Zh Zq Z4))) (Zh Zq Z4))) (Zh Zq Z4)))) (Zg (Z2 3 nd (Ya (k0 E) hr (Zh (Ya (k12 E) hr (Zh (Ya (k13 E) hr (Zh (Zb 0) (Zh Zq Z4))) (Zh Zq Z4))) (Zh Zq Z4)))) (Zg (Z2 4 nd (Ya (k2 E) hr (Zh (Zb 3) (Zh (Ya (k13 E) hr (Zh (Zb 0) (Zh Zq Z4))) Z4)))) (Zg (Z2 5 nd (Ya (k3 E) hr (Zh (Zb 1) (Zh (Zb 2) (Zh (Zb 3) (Zh (tK (Zb 0) (yu Zq) (yu Zq)) (Zh (Qc Zq (Qd (Ya (k13 E) hr (Zh (Zb 0) (Zh Zq Z4))) Zq)) Z4))))))) (Zg (Z2 6 nd (Jh Yr)) (Zg (Wi cq rfl (Mg E.z_range Zq) (Zw 7 nd) (Zg (Z2 8 nd (Z3 hu (Zb 1) (Qd (Qc (Zb 7) (Ya (k13 E) hr (Zh (Zb 0) (Zh Zq Z4)))) Zq))) (Zm (Z2 6 nd (Ya (k18 E) hr (Zh (Zb 6) (Zh (Ya (k23 E) hr (Zh (Zb 8) (Zh (Ya (k27 E) hr (Zh (Zb 5) (Zh (Zb 8) Z4))) (Zh (Zb 4) Z4)))) Z4))))))) (Zg (Z2 9 nd (Ck hT (k11 E CT BM) hr (Zh (Zb 6) Z4))) (Zg (Z2 10 nd xp) (Zg (Wi cq rfl (E8 (Zb 5)) (Zw 11 nd) (Zg (Z2 12 nd (Ya (k8 E) hr (Zh (Zb 6) (Zh (Zb 11) Z4)))) (Zg (Ca (KY (Zb 12) Tx) (Zm (Y2 Af)) Wr) (Zg (Z2 13 nd (Z3 hu (Zb 9) (Ya (k4 E) hr (Zh (Zb 12) Z4)))) (Zg (Ca (EZ (KW (Ya (k26 E) hr (Zh (Zb 5) (Zh (Zb 11) (Zh (Z3 hu (Zb 6) (Zb 12)) (Zh (Zb 13) Z4))))))) (Zm (Y2 Af)) Wr) (Zm (C3 10 hu (Zb 11) (Zb 12)))))))) (Zg (Z2 14 nd mC) (Zg (Wi cq rfl (E8 (Zb 5)) (Zw 11 nd) (Zm (Wi cq rfl (Uk (Ya (k19 E) hr (Zh (Z3 hu (Zb 5) (Zb 11)) (Zh (Zb 4) Z4)))) (Zw 15 nd) (Zg (mB 16 14 nd hv (Zb 15) (Zb 11)) (Zm (Ca (KU hv (Z3 hu (Zb 10) (Zb 16)) (Z3 hu (Zb 10) (Zb 11))) (Zm (Y2 Af)) Wr)))))) (Zg (Z2 17 nd (sT rfl E.z_sorted E.z_set (Cm ["_law_name","_law_places",".acc"] (E8 (Zb 10)) (λnd=>(Zw 0 nd)) (xt0) ((Z3 hu (Zb 1) (Zb 0)))))) (Zm (Y2 (rg (Va hv (Ht E.z_len (Zb 9)) (Ht E.z_len (Zb 6))) (zV (Va hv (Zb 17) (Cm ["_law_k",".acc"] (Mg E.z_range (Ht E.z_len (Zb 6))) (λnd=>(Zw 0 nd)) (xt0) ((Zb 0)))))))))))))))))))))
end Gen
namespace My
open L2
theorem t_{r}(h1:a δ=aA (.nx δ1))(h2:b δ1=r):Zz a b δ=r:=by simp[h1,h2]
theorem t9{e}{δ δ1 δ2}{rv}(h1:e δ=aA (rv,δ1))(h2:stow i rv δ1=aA δ2):Yi i e δ=aA (.nx δ2):=by simp[h1,h2,-stow]
theorem qe{fa}{δ δ1 δ2 ZX}{rvs}{ds}{sv}{c}(h1:fa δ=aA (rvs,δ1))(h2:frzAll rvs δ1=aA (ds,δ2))(hn:ds.length=n)(h3:g ds=aA sv)(hs:sv.scal=c)(hc:(bif c then δ1 else δ2)=ZX):Z8 n g fa δ=aA (.tmp sv,ZX):=by cases c<;> simp_all[-frzAll,-SV.scal]
theorem yK{fa}{δ δ1}{rvs}{ds}{sv}(h1:fa δ=aA (rvs,δ1))(h2:B9 rvs δ1=aA ds)(h3:g ds=aA sv):Yq g fa δ=aA (.tmp sv,δ1):=by simp[h1,h2,h3,-B9]
theorem t8{fa fb}{δ δ1 δ2}{u v}{x y}{sv}(h1:fa δ=aA (u,δ1))(h2:fb δ1=aA (v,δ2))(h3:B9 [u,v] δ2=aA [x,y])(h4:g x y=aA sv):Zj g fa fb δ=aA (.tmp sv,δ2):=by unfold Zj;exact yK (rvs:=[u,v]) (by simp[h1,h2]) h3 h4
theorem t7{δ1 δ2:Yy}{u}{us}(h1:fe δ=aA (u,δ1))(h2:fa δ1=aA (us,δ2)):Zc fe fa δ=aA (u::us,δ2):=by simp[h1,h2]
theorem qd{δ1:Yy}{b}(h:fe δ=aA (.tmp (.fz (.bl b)),δ1)):Yg fe δ=aA (b,δ1):=by simp[h]
theorem t5{δ1:Yy}{b}(h:t δ=aA (b,δ1)):PJ t δ=aA (!b,δ1):=by simp[h]
theorem uw{δ1:Yy}{c}{r}(h1:t δ=aA (c,δ1))(h2:(bif c then a δ1 else b δ1)=r):Fz t a b δ=r:=by cases c<;> simp_all
theorem tz{δ1:Yy}{rv}{sv}(h1:fe δ=aA (rv,δ1))(h2:FW rv δ1=aA sv):Wp fe δ=aA (.rt sv):=by simp[h1,h2,-FW]
theorem tw(h:L2.atI xs i=aA d):W8 (.lst xs) (.int i)=aA (.fz d):=by simp[h]
theorem tp{ks:List L2.Key}{vs}{s}{d}(h:look ks vs (cw s)=aA d):W8 (.dK ks vs) (.str s)=aA (.fz d):=by simp[h,-look]
theorem tf{ks:List (List L2.Key)}{vs}{s t}{d}(h:look ks vs [cw s,cw t]=aA d):W8 (.dT ks vs) (.tup [.str s,.str t])=aA (.fz d):=by simp[h,-look]
theorem qc(h:f (Eu n ds)=aA (.rt sv)):Y0 f n ds=aA sv:=by unfold Y0;rw[h]
theorem tZ{δ1:Yy}{xs}{r}(h1:fi δ=aA (xs,δ1))(h2:Yb tg body xs δ1=r):Qm fi tg body δ=r:=by simp[h1,h2,-Yb]
theorem qb{δ1 δ2:Yy}{u}{xs}(h1:fe δ=aA (u,δ1))(h2:frz u δ1=aA (.lst xs,δ2)):Bv fe δ=aA (xs,δ2):=by simp[h1,h2,-frz]
theorem qa{δ1 δ2 ZX:Yy}{u}{d}{ds}(h1:fe δ=aA (u,δ1))(h2:frz u δ1=aA (d,δ2))(h3:fd δ2=aA (ds,ZX)):Zl fe fd δ=aA (d::ds,ZX):=by simp[h1,h2,h3,-frz]
theorem tY{δ1:Yy}{ds}(h1:fd δ=aA (ds,δ1))(h2:decide (ds.length<=cf)=aC):tupF fd δ=aA (.tmp (.fz (.tup ds)),δ1):=by simp[h1,dL h2]
theorem sS{δ1:Yy}{c}{r}(h1:t δ=aA (c,δ1))(h2:(bif c then a δ1 else b δ1)=r):ifF t a b δ=r:=by cases c<;> simp_all
theorem sR{δ1:Yy}{c}{r}(h1:t δ=aA (c,δ1))(h2:(bif c then u δ1 else aA (aD,δ1))=r):X8 t u δ=r:=by unfold X8;rw[h1];cases c<;> simpa using h2
theorem uv{α:Type}{a b r:α}(_:0=0)(h:a=r):(bif aC then a else b)=r:=h
theorem uu{α:Type}{a b r:α}(_:0=0)(h:b=r):(bif aD then a else b)=r:=h
theorem qZ{fi}{g}{tt}{te}{δ δ1 δ2 ZX}{xs ds ys}(h1:fi δ=aA (xs,δ1))(h2:frzAll (caps src) δ1=aA (ds,δ2))(h3:Yd src k g tt te xs (bD src δ2)=aA ZX)(h4:ZX[k]? =aA (aA (.ol ys))):Jg src k fi g tt te δ=aA (.tmp (.ol ys),δ2):=by unfold Jg;simp only[h1,h2,h3,h4,cm]
theorem sQ{fv:FE}{δ δ1 δ2 ZX}{u v}{d kd}{sv}{r}(h1:fv δ=aA (u,δ1))(h2:frz u δ1=aA (d,δ2))(h0:SV.isOD (δ2[i]?)=aC)(h3:fk δ2=aA (v,ZX))(h4:rdv v ZX=aA kd)(h5:MF kd d (ZX[i]?)=aA sv)(h6:aA (.nx (ZX.set i (aA sv)))=r):Rl i fk fv δ=r:=by rw[<-h6];simp only[Rl,h1,h2,h0,h3,h4,h5,cm,if_true]
theorem sP{vs WZ:List D}{d}{k}{ks ZJ}(h8:Wf ks vs k d=(ZJ,WZ))(h5:keys? xs=aA k)(h9:vs.length<cf):MF (.tup xs) d (aA (aA (.oT ks vs)))=aA (.oT ZJ WZ):=by simp[h5,h8,h9,-keys?,-Wf]
theorem sO{d:D}{vs WZ}{k}{ks ZJ}(h8:Wf ks vs k d=(ZJ,WZ))(h5:kd.key? =aA k)(h9:vs.length<cf):MF kd d (aA (aA (.oK ks vs)))=aA (.oK ZJ WZ):=by simp[h5,h8,h9,-D.key?,-Wf]
theorem ut[Decidable p]{α:Type}{a b r:α}(h:p)(h2:a=r):(bif decide p then a else b)=r:=by rw[dJ h];exact h2
theorem ur[Decidable p]{α:Type}{a b r:α}(h:¬p)(h2:b=r):(bif decide p then a else b)=r:=by rw[dH h];exact h2
theorem sN[Decidable p]{α:Type}{a b r:α}(h:p)(h2:b=r):(bif !decide p then a else b)=r:=by rw[dJ h];exact h2
theorem sM[Decidable p]{α:Type}{a b r:α}(h:¬p)(h2:a=r):(bif !decide p then a else b)=r:=by rw[dH h];exact h2
theorem uq{δ1:Yy}{xs}(h1:fd δ=aA ([.lst xs],δ1)):Bc fd δ=aA (Qb xs,δ1):=by simp[h1]
theorem sL(h:xs.length+ys.length<=cf):Uj (.lst xs) (.lst ys)=aA (.ol (xs++ys)):=by simp[h]
def dA(k:String)(l:List Lean.Syntax):=Lean.Syntax.node .none (.str `Lean.Parser.Tactic k) l.toArray
def e_(k:String)(l:List Lean.Syntax):=dA k (.atom .none ""::l)
def dB(l:List Lean.Syntax):=Lean.mkNullNode l.toArray
def dD(l:List Lean.Syntax):=e_ "first" [dB (l.map λt=>e_ "" [t])]
def dC(l:String)(f:Lean.Syntax->Lean.Syntax):=(l.splitOn " ").map λc=>f (e_ "apply" [Lean.mkIdent (.str `My c)])
def dE(t:Lean.Syntax):=e_ "withReducible" [t]
def evE:=e_ "repeat'" [dA "tacticSeq" [dD (dC "t_ t9 uw tz tZ sQ qc" dE++e_ "tacticRfl" []::dC "t8 qe yK t7 qd t5 sS sR tY qa qZ qb uq" dE++e_ "assumption" []::dC "sP sO tw tp tf sL ut ur sN sM uv uu" λt=>dB [t,dD [e_ "assumption" [],e_ "tacticRfl" [],e_ "omega" [dA "optConfig" [dB []]]]])]]
theorem Ou{p:Prop}(h:autoParam p evE):p:=h
noncomputable abbrev B0:Str:="abcdefghjlmpqrstuvwxyz"
theorem lw:B0.cps.toList.length=22:=by decide+kernel
theorem Lz:B0.length<=PySem.sizeLine:=by decide+kernel
noncomputable def LC(j:Nat):Nat:=B0.cps.toList.getD j 0
theorem qY:∀i<22,∀j<22,LC i=LC j->i=j:=by decide+kernel
theorem qX:∀i<22,LC i≠105/\LC i≠110/\LC i≠111:=by decide+kernel
theorem sK(i):L2.atI B0.cps.toList (i % 22)=aA (LC (i % 22).toNat):=by
 have h0:0<=i % 22:=g6 _ (by decide);have h1:i % 22<22:=f7 _ (by decide);obtain⟨j,hj⟩:=Int.eq_ofNat_of_zero_le h0;rw[hj];have RU:j<B0.cps.toList.length:=by rw[lw];omega
 refine Cn _ _ _ ?_;unfold LC;rw[bg,show((j:Int)).toNat=j by omega,ar RU];rfl
def sgn(x:Int)(at':Int)(t:Nat)(k:Nat):Nat:=LC ((x / ((k:Int)+2)+(t:Int)*(if(k:Int)=at' then 1 else 0)) % 22).toNat
def Sb(x at':Int)(size t:Nat):List Nat:=(c6 size).map (sgn x at' t)
theorem jn(a1 a3 a5 x at')(t k:Nat)(hk:k<=100)(w)(hw:w.length<=1000)(x9):
  ∃y9,Gen.Wj [aA (.fz (.int x)),a1,aA (.fz (.str B0)),a3,aA (.fz (.int at')),a5,aA (.fz (.int (t:Int))),aA (.fz (.str (S w))),aA (.fz (.int (k:Int))),x9]=aA (.nx [aA (.fz (.int x)),a1,aA (.fz (.str B0)),a3,aA (.fz (.int at')),a5,aA (.fz (.int (t:Int))),aA (.fz (.str (S (w++[sgn x at' t k])))),aA (.fz (.int (k:Int))),y9]):=by
 have go:∀ki ti:Int,0<=ki->ki<=100->∀b:Int,(b=0\/b=1)->(if ki=at' then(1:Int)else 0)=b->∀ch,L2.atI B0.cps.toList ((x / (ki+2)+ti*b) % 22)=aA ch->
   Gen.Wj [aA (.fz (.int x)),a1,aA (.fz (.str B0)),a3,aA (.fz (.int at')),a5,aA (.fz (.int ti)),aA (.fz (.str (S w))),aA (.fz (.int ki)),x9]=aA (.nx [aA (.fz (.int x)),a1,aA (.fz (.str B0)),a3,aA (.fz (.int at')),a5,aA (.fz (.int ti)),aA (.fz (.str (S (w++[ch])))),aA (.fz (.int ki)),aA (.fz (.int (ti*b)))]):=by
  intro ki ti h0 h1 b hb hif ch WA;have hm:=Hq (i:=ti) (j:=b) (by omega);have d1:0<ki+2:=by omega
  have d2:ki+2<1073741824:=by omega
  have z:(S w).length+(⟨#[ch]⟩:Str).length<=PySem.sizeLine:=Qt (by rw[zh w];show w.length+1<=_;omega);have ea:S w++(⟨#[ch]⟩:Str)=S (w++[ch]):=sB w [ch];by_cases hk:ki=at'
  .rw[dG hk]at hif;subst hif;unfold Gen.Wj;simp[hk]at hm WA d1 d2⊢;simp[hm,WA,d1,d2,Lz,z,ea]
  .rw[dF hk]at hif;subst hif;unfold Gen.Wj;simp[hk]at hm WA⊢;simp[hm,WA,d1,d2,Lz,z,ea]
 refine⟨_,go (k:Int) (t:Int) (by omega) (by omega) (if(k:Int)=at' then 1 else 0) (by split<;> simp) rfl (sgn x at' t k) (sK _)⟩
theorem jm(a1 a3 a5 x at')(t size:Nat)(hs:size<=100)(x8 x9):
  ∃y8 y9,Yb (Zd 8) Gen.Wj (Co 0 size) [aA (.fz (.int x)),a1,aA (.fz (.str B0)),a3,aA (.fz (.int at')),a5,aA (.fz (.int (t:Int))),aA (.fz (.str (S []))),x8,x9]=aA (.nx [aA (.fz (.int x)),a1,aA (.fz (.str B0)),a3,aA (.fz (.int at')),a5,aA (.fz (.int (t:Int))),aA (.fz (.str (S (Sb x at' size t)))),y8,y9]):=by
 obtain⟨δ',e,y8,y9,hy⟩:=Gv (tg:=Zd 8) (body:=Gen.Wj) (P:=λi δ=>∃y8 y9,δ=[aA (.fz (.int x)),a1,aA (.fz (.str B0)),a3,aA (.fz (.int at')),a5,aA (.fz (.int (t:Int))),aA (.fz (.str (S (Sb x at' i t)))),y8,y9]) size 0 [aA (.fz (.int x)),a1,aA (.fz (.str B0)),a3,aA (.fz (.int at')),a5,aA (.fz (.int (t:Int))),aA (.fz (.str (S []))),x8,x9] ⟨x8,x9,rfl⟩ (λi _ hi δ ⟨y8,y9,hy⟩=>by
  subst hy;obtain⟨z9,e⟩:=jn a1 a3 a5 x at' t i (by omega) (Sb x at' i t) (by unfold Sb;simp;omega) y9;refine⟨[aA (.fz (.int x)),a1,aA (.fz (.str B0)),a3,aA (.fz (.int at')),a5,aA (.fz (.int (t:Int))),aA (.fz (.str (S (Sb x at' i t)))),aA (.fz (.int (i:Int))),y9],_,by simp,e,aA (.fz (.int (i:Int))),z9,?_⟩;have:Sb x at' (i+1) t=Sb x at' i t++[sgn x at' t i]:=by unfold Sb;rw[List.range_succ,b8];rfl
  rw[this])
 subst hy;rw[Nat.zero_add]at e;exact⟨y8,y9,e⟩
def Qe(x at':Int)(size m:Nat):List Str:=(c6 m).map λt=>S (Sb x at' size t)
theorem Ds(a1 x at')(size:Nat)(hs:size<=8)(m)(hm:m<=100):
  ∃δ,Yb (Zd 6) Gen.J2 (Co 0 m) [aA (.fz (.int x)),a1,aA (.fz (.str B0)),aA (.fz (.int (size:Int))),aA (.fz (.int at')),aA (.ol []),aB,aB,aB,aB]=aA (.nx δ)/\δ[5]? =aA (aA (.ol ((Qe x at' size m).map D.str))):=by
 obtain⟨δ',e,y6,y7,y8,y9,hy⟩:=Gv (tg:=Zd 6) (body:=Gen.J2) (P:=λi δ=>∃y6 y7 y8 y9,δ=[aA (.fz (.int x)),a1,aA (.fz (.str B0)),aA (.fz (.int (size:Int))),aA (.fz (.int at')),aA (.ol ((Qe x at' size i).map D.str)),y6,y7,y8,y9]) m 0 [aA (.fz (.int x)),a1,aA (.fz (.str B0)),aA (.fz (.int (size:Int))),aA (.fz (.int at')),aA (.ol []),aB,aB,aB,aB] ⟨aB,aB,aB,aB,rfl⟩ (λi _ hi δ ⟨y6,y7,y8,y9,hy⟩=>by
  subst hy;obtain⟨z8,z9,e⟩:=jm a1 (aA (.fz (.int (size:Int)))) (aA (.ol ((Qe x at' size i).map D.str))) x at' i size (by omega) y8 y9;have g1:Ad (size:Int):=Ui (by omega);have et:((size:Int)).toNat=size:=by omega
  have z:(Qe x at' size i).length<PySem.sizeLine:=Z9 (by unfold Qe;simp;omega);have he:dz ""=S []:=rfl;have hr:Qe x at' size (i+1)=Qe x at' size i++[S (Sb x at' size i)]:=by unfold Qe;rw[List.range_succ,b8];rfl
  refine⟨[aA (.fz (.int x)),a1,aA (.fz (.str B0)),aA (.fz (.int (size:Int))),aA (.fz (.int at')),aA (.ol ((Qe x at' size i).map D.str)),aA (.fz (.int (i:Int))),y7,y8,y9],[aA (.fz (.int x)),a1,aA (.fz (.str B0)),aA (.fz (.int (size:Int))),aA (.fz (.int at')),aA (.ol ((Qe x at' size (i+1)).map D.str)),aA (.fz (.int (i:Int))),aA (.fz (.str (S (Sb x at' size i)))),z8,z9],by simp,?_,_,_,_,_,rfl⟩;rw[hr];generalize Qe x at' size i=NL at*;unfold Gen.J2;simp[-Yb,he,g1,et,Q6,e,z])
 subst hy;rw[Nat.zero_add]at e;exact⟨_,e,rfl⟩
structure Nam(w:Str):Prop where
 one:1<=w.length
 most:w.length<=8
 no:∀c∈w.cps.toList,c≠105/\c≠110/\c≠111
theorem Fg(x)(h0:0<=x)(m:Nat)(hm:m<=20):∃ws:List Str,Gen.Wd [.int x,.int (m:Int)]=aA (.ol (ws.map D.str))/\ws.length=m/\ws.Nodup/\∀w∈ws,Nam w:=by
 have s0:0<=x % 8:=g6 _ (by decide);have s1:x % 8<8:=f7 _ (by decide);obtain⟨size,hs⟩:∃n:Nat,(n:Int)=1+x % 8:=⟨(1+x % 8).toNat,by omega⟩
 have IW:1<=size:=by omega
 have CF:size<=8:=by omega
 have p0:(0:Int)<(size:Int):=by omega
 have a0:0<=x / 8 % (size:Int):=g6 _ (by omega);have a1:x / 8 % (size:Int)<(size:Int):=f7 _ p0;generalize hat:x / 8 % (size:Int)=at' at a0 a1;obtain⟨δ,e,D'⟩:=Ds (aA (.fz (.int (m:Int)))) x at' size CF m (by omega);have g1:Ad (m:Int):=Ui (by omega);have et:((m:Int)).toNat=m:=by omega
 refine⟨Qe x at' size m,?_,by unfold Qe;simp,?_,λw hw=>?_⟩
 .generalize Qe x at' size m=NL at D';unfold Gen.Wd Gen.C9;have UI:0<size:=by omega
  simp[-Yb,<-hs,p0,UI,hat,g1,et,Q6,e,D']
 .unfold Qe;refine List.Pairwise.map _ (R:=λa b=>a≠b/\a<m/\b<m) (λa b h=>?_) ?_
  .intro z;obtain⟨VU,ha,hb⟩:=h;have hl:=zg z;obtain⟨k,hk⟩:=Int.eq_ofNat_of_zero_le a0;have TX:k<size:=by omega
   have e1:(Sb x at' size a)[k]? =aA (sgn x at' a k):=by unfold Sb;rw[az,List.getElem?_range TX];rfl
   have e2:(Sb x at' size b)[k]? =aA (sgn x at' b k):=by unfold Sb;rw[az,List.getElem?_range TX];rfl
   rw[hl,e2]at e1;have e3:=dq.inj e1;unfold sgn at e3;rw[dG hk.symm]at e3;have q:=λy:Int=>(g6 y (show(22:Int)≠0 by decide))
   have q':=λy:Int=>(f7 y (show(0:Int)<22 by decide))
   have r1:=q (x / ((k:Int)+2)+(a:Int)*1);have r2:=q' (x / ((k:Int)+2)+(a:Int)*1);have r3:=q (x / ((k:Int)+2)+(b:Int)*1);have r4:=q' (x / ((k:Int)+2)+(b:Int)*1);have e4:=qY _ (by omega) _ (by omega) e3;generalize x / ((k:Int)+2)=y at*;omega
  .have nd:(c6 m).Pairwise (λa b=>a<b):=List.pairwise_lt_range;refine(List.Pairwise.and_mem.mp nd).imp fun{a b} h=>?_;exact⟨cj h.2.2,c8.mp h.1,c8.mp h.2.1⟩
 .unfold Qe at hw;obtain⟨t,_,rfl⟩:=ax.mp hw;have hl:(S (Sb x at' size t)).length=size:=by rw[zh];unfold Sb;simp
  refine⟨by rw[hl];exact IW,by rw[hl];exact CF,λc hc=>?_⟩;rw[pJ]at hc;unfold Sb at hc;obtain⟨k,_,rfl⟩:=ax.mp hc;have r1:=g6 (x / ((k:Int)+2)+(t:Int)*(if(k:Int)=at' then 1 else 0)) (show(22:Int)≠0 by decide);have r2:=f7 (x / ((k:Int)+2)+(t:Int)*(if(k:Int)=at' then 1 else 0)) (show(0:Int)<22 by decide);exact qX _ (by omega)
theorem EH(c b):Gen.W4 [.int c,.int b]=aA (.fz (.int (c % 2147483647*b % 2147483647))):=by have h1:0<=c % 2147483647:=g6 _ (by decide);have h2:c % 2147483647<2147483647:=f7 _ (by decide);have hm:=Hr (i:=c % 2147483647) (j:=b) (by omega);unfold Gen.W4 Gen.Gd;exact Ou
theorem Gy(ns:List Int)(k:Nat):∃c,Gen.Zx [.lst (ns.map D.int),.int (k:Int)]=aA (.fz (.int c)):=by
 by_cases h:k<ns.length
 .have a:L2.atI (ns.map D.int) (k:Int)=aA (.int ns[k]):=Cn _ _ _ (by rw[az,ar h];rfl);refine⟨ns[k],?_⟩;have h':(k:Int)<(ns.length:Int):=by omega
  unfold Gen.Zx Gen.Uc;simp[h',h,a]
 .refine⟨0,?_⟩;have h':¬(k:Int)<(ns.length:Int):=by omega
  unfold Gen.Zx Gen.Uc;simp[h',h]
theorem P3(c b:Int):0<=c % 2147483647*b % 2147483647:=g6 _ (by decide)
theorem jz1:1<=PySem.sizeLine:=by decide
theorem jz2:2<=PySem.sizeLine:=by decide
theorem jz3:3<=PySem.sizeLine:=by decide
noncomputable abbrev Xn:=List (List Nat)
noncomputable abbrev Qh(l:List Nat):List D:=l.map λp:Nat=>.int (p:Int)
noncomputable def Kk(ks:List NK)(pl:Xn)(t:NK)(p:Nat):List NK×Xn:=match Ys ks t with
 |some q=>(ks,pl.set q (pl.getD q []++[p]))
 |none=>(ks++[t],pl++[[p]])
theorem O6:∀{ks:List NK} {k:NK} {q:Nat},Ys ks k=aA q->ks[q]? =aA k
 |a::ks,k,q,h=>by
  have h:(if a=k then aA 0 else(Ys ks k).map (· +1))=aA q:=h;by_cases e:a=k
  .rw[dG e]at h;cases h;rw[e];rfl
  .rw[dF e]at h;obtain⟨r,hr,e2⟩:=cu.mp h;subst e2;show ks[r]? =aA k;exact O6 hr
theorem O7:∀{ks:List NK} {k:NK},Ys ks k=aB->k∉ks
 | [],k,_=>λz=>nomatch z
 |a::ks,k,h=>by
  have h:(if a=k then aA 0 else(Ys ks k).map (· +1))=aB:=h;by_cases e:a=k
  .rw[dG e]at h;cases h
  .rw[dF e]at h;have:=O7 (Option.map_eq_none_iff.mp h);intro z;rcases b7.mp z with z|z
   .exact e z.symm
   .exact this z
structure eV(R:NK->Nat->Prop)(B:Nat)(ks:List NK)(pl:Xn):Prop where
 nd:ks.Nodup
 len:ks.length=pl.length
 has:∀(t:NK) (p:Nat),(∃(q:Nat) (l:List Nat),ks[q]? =aA t/\pl[q]? =aA l/\p∈l)↔R t p
 few:ks.length<=B
 each:∀l∈pl,l.length<=B
theorem eV.add(h:eV R B ks pl)(t p):eV (λu q=>R u q\/(u=t/\q=p)) (B+1) (Kk ks pl t p).1 (Kk ks pl t p).2:=by
 unfold Kk;cases e:Ys ks t with
 |some q=>
  have hq:=O6 e;have QQ:q<ks.length:=by rcases dv q ks.length with z|z;exact z;rw[d3 z]at hq;cases hq
  have WM:q<pl.length:=by rw[<-h.len];exact QQ
  have eg:pl.getD q []=pl[q]:=by rw[bg,ar WM];rfl
  refine⟨h.nd,by rw[List.length_set];exact h.len,λu r=>?_,Nat.le_succ_of_le h.few,λl hl=>?_⟩
  .rw[<-h.has u r];constructor
   .rintro⟨i,l,h1,h2,h3⟩;by_cases hi:i=q
    .subst hi;have eu:u=t:=by rw[hq]at h1;exact(dq.inj h1).symm
     rw[gh WM]at h2;have el:=dq.inj h2;rw[<-el]at h3;rcases bo.mp h3 with z|z
     .rw[eg]at z;exact .inl ⟨i,pl[i],h1,ar WM,z⟩
     .exact .inr ⟨eu,aj.mp z⟩
    .rw[g8 (λz=>hi z.symm)]at h2;exact .inl ⟨i,l,h1,h2,h3⟩
   .rintro(⟨i,l,h1,h2,h3⟩|⟨rfl,rfl⟩)
    .by_cases hi:i=q
     .subst hi;refine⟨i,pl.getD i []++[p],h1,gh WM,bu _ ?_⟩;rw[eg];rw[ar WM]at h2;rw[dq.inj h2];exact h3
     .exact⟨i,l,h1,by rw[g8 (λz=>hi z.symm)];exact h2,h3⟩
    .exact⟨q,_,hq,gh WM,bp _ ac⟩
  .rcases List.mem_or_eq_of_mem_set hl with z|z
   .exact Nat.le_succ_of_le (h.each l z)
   .rw[z,av,eg];have:=h.each _ (gz WM);simpa using this
 |none=>
  have hn:=O7 e;refine⟨cz.mpr ⟨h.nd,by simp,λa ha b hb e=>hn (by rw[<-aj.mp hb,<-e];exact ha)⟩,by simp[h.len],λu r=>?_,by have:=h.few;simp;omega,λl hl=>?_⟩
  .rw[<-h.has u r];constructor
   .rintro⟨i,l,h1,h2,h3⟩;rcases dv i ks.length with z|z
    .rw[ci z]at h1;rw[ci (by rw[<-h.len];exact z)]at h2;exact .inl ⟨i,l,h1,h2,h3⟩
    .rw[dr z]at h1;rw[dr (by rw[<-h.len];exact z),<-h.len]at h2;cases ei:i- ks.length with
     |zero=>rw[ei]at h1 h2;cases h1;cases h2;exact .inr ⟨rfl,aj.mp h3⟩
     |succ j=>rw[ei]at h1;cases h1
   .rintro(⟨i,l,h1,h2,h3⟩|⟨rfl,rfl⟩)
    .have z:i<ks.length:=by rcases dv i ks.length with z|z;exact z;rw[d3 z]at h1;cases h1
     exact⟨i,l,by rw[ci z];exact h1,by rw[ci (by rw[<-h.len];exact z)];exact h2,h3⟩
    .exact⟨ks.length,[r],by simp,by rw[h.len];simp,ac⟩
  .rcases bo.mp hl with z|z
   .exact Nat.le_succ_of_le (h.each l z)
   .rw[aj.mp z];simp
theorem jk(ks:List NK)(pl)(t:NK)(p:Nat):Aj ks (pl.map Qh) t [.int (p:Int)]=((Kk ks pl t p).1,(Kk ks pl t p).2.map Qh):=by
 unfold Aj Kk;cases Ys ks t with
 |some q=>
  dsimp only;rw[List.map_set];have:(pl.map Qh).getD q []=Qh (pl.getD q []):=by rw[bg,bg,az];cases pl[q]? <;> rfl
  rw[this];simp[Qh]
 |none=>simp[Qh]
theorem xm{ks:List NK}{k:NK}(h1:δ[i]? =aA (aA (.oX ks ZC)))(h2:fk δ=aA p)(h3:frz p.1 p.2=aA q)(h4:nk? q.1=aA k)(h5:q.2[i]? =aA (aA (.oX ks ZC)))(h6:q.2[j]? =aA (aA (.fz d)))(h7:(ext=aD/\ys=[d])\/(ext=aC/\d= .lst ys))(h8:okX ZC ys.length):T5 i fk j ext δ=aA (.nx (q.2.set i (aA (.oX (Aj ks ZC k ys).1 (Aj ks ZC k ys).2)))):=by
 unfold T5;rw[h1];dsimp only;rw[h2];dsimp only[cm];rw[h3];dsimp only[cm];rw[h4];dsimp only[cm];rw[h5,h6];dsimp only;rcases h7 with⟨rfl,rfl⟩|⟨rfl,rfl⟩
 .rw[dF (by decide)];dsimp only[cm];rw[dG h8]
 .rw[dG rfl];dsimp only[cm];rw[dG h8]
theorem yJ(h1:ZC.length<=100000)(h2:n<=100000)(h3:∀xs∈ZC,xs.length<=100000):okX ZC n:=
 ⟨Z9 (by omega),Z9 (by omega),λxs hx=>Z9 (by have:=h3 xs hx;omega)⟩
theorem eV.ok(h:eV R B ks pl)(hB:B<=10000)(n)(hn:n<=10000):okX (pl.map Qh) n:=
 yJ (by rw[ah,<-h.len];have:=h.few;omega) (by omega) λxs hx=>by obtain⟨l,hl,rfl⟩:=ax.mp hx;have:=h.each l hl;simp[Qh];omega
theorem eV.imp(h:eV R B ks pl)(e:∀t p,R t p↔R' t p)(hB:B<=B'):eV R' B' ks pl:=
 ⟨h.nd,h.len,λt p=>(h.has t p).trans (e t p),dm h.few hB,λl hl=>dm (h.each l hl) hB⟩
theorem V9(A hd n):∀(ts:List NK) R B ks pl x4,eV R B ks pl->B+ts.length<=10000->∃ZJ ZV y4,eV (λu q=>R u q\/(u∈ts/\q=n)) (B+ts.length) ZJ ZV/\
  Yb (Zd 4) Gen.Oj (ts.map Zr) [A,aA (.oX ks (pl.map Qh)),aA (.fz (.int (n:Int))),hd,x4]=aA (.nx [A,aA (.oX ZJ (ZV.map Qh)),aA (.fz (.int (n:Int))),hd,y4])
 | [],R,B,ks,pl,x4,h,_=>⟨ks,pl,x4,h.imp (λt p=>by simp) (bf _),by simp⟩
 |t::ts,R,B,ks,pl,x4,h,hz=>by
  rw[bc]at hz;obtain⟨ZJ,ZV,y4,h',ih⟩:=V9 A hd n ts _ (B+1) (Kk ks pl t n).1 (Kk ks pl t n).2 (aA (.fz (Zr t))) (h.add t n) (by omega);refine⟨ZJ,ZV,y4,h'.imp (λu q=>?_) (by rw[bc];omega),?_⟩
  .rw[b7];constructor
   .rintro((z|⟨z1,z2⟩)|⟨z1,z2⟩)
    .exact .inl z
    .exact .inr ⟨.inl z1,z2⟩
    .exact .inr ⟨.inr z1,z2⟩
   .rintro(z|⟨z1|z1,z2⟩)
    .exact .inl (.inl z)
    .exact .inl (.inr ⟨z1,z2⟩)
    .exact .inr ⟨z1,z2⟩
  .have a:Gen.Oj [A,aA (.oX ks (pl.map Qh)),aA (.fz (.int (n:Int))),hd,aA (.fz (Zr t))]=aA (.nx [A,aA (.oX (Kk ks pl t n).1 ((Kk ks pl t n).2.map Qh)),aA (.fz (.int (n:Int))),hd,aA (.fz (Zr t))]):=by have:=xm (δ:=[A,aA (.oX ks (pl.map Qh)),aA (.fz (.int (n:Int))),hd,aA (.fz (Zr t))]) (i:=1) (j:=2) (fk:=Za 4) (p:=(.tmp (.fz (Zr t)),[A,aA (.oX ks (pl.map Qh)),aA (.fz (.int (n:Int))),hd,aA (.fz (Zr t))])) (q:=(Zr t,[A,aA (.oX ks (pl.map Qh)),aA (.fz (.int (n:Int))),hd,aA (.fz (Zr t))])) (d:=.int (n:Int)) (ext:=aD) (ys:=[.int (n:Int)]) rfl rfl rfl (Cj t) rfl rfl (.inl ⟨rfl,rfl⟩) (h.ok (by omega) _ (by simp));rw[jk]at this;exact this
   rw[ay];unfold Yb;rw[show(Zd 4).run (Zr t) [A,aA (.oX ks (pl.map Qh)),aA (.fz (.int (n:Int))),hd,x4]=aA [A,aA (.oX ks (pl.map Qh)),aA (.fz (.int (n:Int))),hd,aA (.fz (Zr t))]from by simp];dsimp only[cm];rw[a];exact ih
noncomputable def Kl(hs:List HP):Nat:=(hs.map λh=>(U1 h).length).sum
theorem Tl(h hs):Kl (h::hs)=(U1 h).length+Kl hs:=by unfold Kl;simp
theorem ji(A n h R B ks pl x4)(ho:eV R B ks pl)(hz:B+(U1 h).length<=10000):∃ZJ ZV y4,eV (λu q=>R u q\/(u∈U1 h/\q=n)) (B+(U1 h).length) ZJ ZV/\
  Gen.W5 [A,aA (.oX ks (pl.map Qh)),aA (.fz (.int (n:Int))),aA (.fz (Z7 h)),x4]=aA (.nx [A,aA (.oX ZJ (ZV.map Qh)),aA (.fz (.int (n:Int))),aA (.fz (Z7 h)),y4]):=by
 obtain⟨ZJ,ZV,y4,h',e⟩:=V9 A (aA (.fz (Z7 h))) n (U1 h) R B ks pl x4 ho hz;refine⟨ZJ,ZV,y4,h',?_⟩;have zl:(h.ns.map Zr).length+(h.ms.map Zr).length<=PySem.sizeLine:=Qt (by rw[ah,ah];rw[av]at hz;omega);have QE:∀a b c:D,L2.atI [a,b,c] 1=aA b:=λ_ _ _=>rfl;have QF:∀a b c:D,L2.atI [a,b,c] 0=aA a:=λ_ _ _=>rfl;rw[show(U1 h).map Zr=h.ns.map Zr++h.ms.map Zr from b8]at e;unfold Gen.W5;unfold Z7 at e⊢;exact Ou
abbrev Ry(hs:List HP)(t:NK)(p:Nat):Prop:=∃h,hs[p]? =aA h/\t∈U1 h
theorem L0(A):∀hs pre B ks pl x2 x3 x4,eV (Ry pre) B ks pl->B+Kl hs<=10000->∃ZJ ZV y2 y3 y4,eV (Ry (pre++hs)) (B+Kl hs) ZJ ZV/\
  Yb (Yz 2 (Zn (Zd 2) (Zn (Zd 3) Y1))) Gen.W5 (((hs.map Z7).zipIdx pre.length).map λp=>D.tup [.int (p.2:Nat),p.1]) [A,aA (.oX ks (pl.map Qh)),x2,x3,x4]=aA (.nx [A,aA (.oX ZJ (ZV.map Qh)),y2,y3,y4])
 | [],pre,B,ks,pl,x2,x3,x4,ho,_=>⟨ks,pl,x2,x3,x4,by rw[List.append_nil];exact ho,by simp⟩
 |h::hs,pre,B,ks,pl,x2,x3,x4,ho,hz=>by
  rw[Tl]at hz;obtain⟨WJ,pl1,z4,h1,t⟩:=ji A pre.length h _ B ks pl x4 ho (by omega);have h2:eV (Ry (pre++[h])) (B+(U1 h).length) WJ pl1:=h1.imp (λu p=>by
   constructor
   .rintro(⟨g,e,z⟩|⟨z,rfl⟩)
    .have hp:p<pre.length:=by rcases dv p pre.length with q|q;exact q;rw[d3 q]at e;cases e
     exact⟨g,by rw[ci hp];exact e,z⟩
    .exact⟨h,by simp,z⟩
   .rintro⟨g,e,z⟩;rcases dv p pre.length with q|q
    .rw[ci q]at e;exact .inl ⟨g,e,z⟩
    .rw[dr q]at e;cases ei:p- pre.length with
     |zero=>rw[ei]at e;cases e;exact .inr ⟨z,by omega⟩
     |succ j=>rw[ei]at e;cases e) (bf _)
  obtain⟨ZJ,ZV,y2,y3,y4,h',ih⟩:=L0 A hs (pre++[h]) _ WJ pl1 (aA (.fz (.int (pre.length:Int)))) (aA (.fz (Z7 h))) z4 h2 (by omega);refine⟨ZJ,ZV,y2,y3,y4,?_,?_⟩
  .rw[d7]at h';rw[Tl];exact h'.imp (λ_ _=>Iff.rfl) (by omega)
  .rw[ay,List.zipIdx_cons,ay];rw[av]at ih;unfold Yb;rw[show(Yz 2 (Zn (Zd 2) (Zn (Zd 3) Y1))).run (.tup [.int (pre.length:Nat),Z7 h]) [A,aA (.oX ks (pl.map Qh)),x2,x3,x4]=aA [A,aA (.oX ks (pl.map Qh)),aA (.fz (.int (pre.length:Int))),aA (.fz (Z7 h)),x4]from by simp];dsimp only[cm];rw[t];exact ih
abbrev We(ks:List NK)(pl:Xn):D:=.dX ks ((pl.map Qh).map D.lst)
theorem holders_of(hs)(hz:Kl hs<=10000):∃ks pl,eV (Ry hs) (Kl hs) ks pl/\Gen.Jk [.lst (hs.map Z7)]=aA (.fz (We ks pl)):=by
 have h0:eV (Ry []) 0 [] []:=⟨c7,rfl,λt p=>⟨λ⟨q,l,h,_⟩=>by simp at h,λ⟨h,e,_⟩=>by simp at e⟩,bf _,λl hl=>nomatch hl⟩
 obtain⟨ks,pl,y2,y3,y4,ho,e⟩:=L0 (aA (.fz (.lst (hs.map Z7)))) hs [] 0 [] [] aB aB aB h0 (by omega);refine⟨ks,pl,by simpa using ho,?_⟩;rw[show(((hs.map Z7).zipIdx ([]:List HP).length).map λp=>D.tup [.int (p.2:Nat),p.1])=Qb (hs.map Z7)from rfl]at e;have e:Yb (Yz 2 (Zn (Zd 2) (Zn (Zd 3) Y1))) Gen.W5 (Qb (hs.map Z7)) [aA (.fz (.lst (hs.map Z7))),aA (.oX [] []),aB,aB,aB]=_:=e;unfold Gen.Jk Gen.Cp We;exact Ou
theorem P4:∀{ks:List NK} {vs:List D} {q:Nat} {t:NK} {v:D},ks.Nodup->ks[q]? =aA t->vs[q]? =aA v->look ks vs t=aA v
 | [],vs,q,t,v,_,h,_=>by simp at h
 |k::ks,[],q,t,v,_,_,h=>by simp at h
 |k::ks,u::vs,q,t,v,nd,h1,h2=>by
  obtain⟨n1,n2⟩:=eh.mp nd;show(if k=t then aA u else look ks vs t)=aA v;cases q with
  |zero=>cases h1;cases h2;rw[dG rfl]
  |succ q=>have h1:ks[q]? =aA t:=h1;rw[dF λe=>n1 (by rw[e];exact bz h1)];exact P4 n2 h1 h2
theorem eV.look(h:eV R B ks pl)(hr:R t p):∃l,L2.look ks ((pl.map Qh).map D.lst) t=aA (.lst (Qh l))/\(∀p,p∈l↔R t p)/\l.length<=B:=by
 obtain⟨q,l,h1,h2,h3⟩:=(h.has t p).mpr hr;refine⟨l,P4 h.nd h1 (by rw[az,az,h2];rfl),λp'=>?_,h.each l (bz h2)⟩;rw[<-h.has t p'];constructor
 .exact λz=>⟨q,l,h1,h2,z⟩
 .rintro⟨q',l',g1,g2,g3⟩;have hq:q<ks.length:=by rcases dv q ks.length with z|z;exact z;rw[d3 z]at h1;cases h1
  have:q=q':=(List.getElem?_inj hq h.nd).mp (h1.trans g1.symm);subst this;rw[h2]at g2;rw[dq.inj g2];exact g3
noncomputable abbrev Uq(f:List Nat):List L2.Key:=f.map λp:Nat=>.inl (p:Int)
noncomputable abbrev Ur(f:List Nat):List D:=f.map λ_=>.bl aC
theorem B1{p:Nat}:(Sum.inl (p:Int):L2.Key)∈Uq f↔p∈f:=by
 constructor
 .intro z;obtain⟨q,hq,e⟩:=ax.mp z;have e:=Sum.inl.inj e;have:q=p:=by omega
  rw[<-this];exact hq
 .exact λz=>List.mem_map_of_mem (f:=λp:Nat=>(Sum.inl (p:Int):L2.Key)) z
theorem Fh:∀{ks:List L2.Key} {vs:List D} {k:L2.Key},k∉ks->look ks vs k=aB
 | [],vs,k,_=>by cases vs<;> rfl
 |a::ks,[],k,_=>rfl
 |a::ks,v::vs,k,h=>by show(if a=k then aA v else look ks vs k)=aB;rw[dF λz=>h (by rw[z];exact ac),Fh λz=>h (ao _ z)]
theorem Tn:∀{ks:List L2.Key} {vs:List D} {k:L2.Key},ks.length=vs.length->k∈ks->∃v,look ks vs k=aA v
 |a::ks,[],k,h,_=>by simp at h
 |a::ks,v::vs,k,h,hk=>by
  by_cases e:a=k
  .exact⟨v,by show(if a=k then aA v else _)=_;rw[dG e]⟩
  .obtain⟨w,hw⟩:=Tn (ks:=ks) (vs:=vs) (k:=k) (by simpa using h) (by
    rcases b7.mp hk with z|z
    .exact dM z.symm e
    .exact z)
   exact⟨w,by show(if a=k then aA v else look ks vs k)=_;rw[dF e,hw]⟩
structure TI(n:Nat)(f l:List Nat):Prop where
 nd:f.Nodup
 lt:∀x∈f,x<n
 ld:l.Nodup
 sub:∀x∈l,x∈f
theorem P5{f:List Nat}(nd:f.Nodup)(lt:∀x∈f,x<n):f.length<=n:=by have:=c9 nd (l₂:=c6 n) λx hx=>c8.mpr (lt x hx);simpa using this
theorem TI.len(h:TI n f l):f.length<=n/\l.length<=n:=⟨P5 h.nd h.lt,P5 h.ld λx hx=>h.lt x (h.sub x hx)⟩
abbrev R6(HS:List D)(HD:D)(i:Nat)(f l:List Nat)(x5 x6 x7:Option SV):Yy:=[aA (.fz (.lst HS)),aA (.fz HD),aA (.fz (.int (i:Int))),aA (.oK (Uq f) (Ur f)),aA (.ol (Qh l)),x5,x6,x7]
theorem Dt(HS HD i n)(hn:n<=1000)(f l)(h:TI n f l)(o:Nat)(x5 x6):
  Gen.Ol (R6 HS HD i f l x5 x6 (aA (.fz (.int (o:Int)))))=aA (.nx (if o∈f then R6 HS HD i f l x5 x6 (aA (.fz (.int (o:Int))))else R6 HS HD i (f++[o]) (l++[o]) x5 x6 (aA (.fz (.int (o:Int)))))):=by
 have z1:(Ur f).length<PySem.sizeLine:=Z9 (by have:=h.len;simp;omega);have z2:(Qh l).length<PySem.sizeLine:=Z9 (by have:=h.len;simp[Qh];omega);by_cases ho:o∈f
 .rw[dG ho];obtain⟨v,lk⟩:=Tn (ks:=Uq f) (vs:=Ur f) (k:=.inl (o:Int)) (by simp) (B1.mpr ho);unfold Gen.Ol R6;generalize Uq f=KF,Ur f=VF,Qh l=PL at*;simp[lk,-look]
 .rw[dF ho];have lk:look (Uq f) (Ur f) (.inl (o:Int))=aB:=Fh λz=>ho (B1.mp z);have p:Wf (Uq f) (Ur f) (Sum.inl (o:Int)) (.bl aC)=(Uq (f++[o]),Ur (f++[o])):=by unfold Wf;rw[dF λz=>ho (B1.mp z)];simp[Uq,Ur]
  have e:Qh (l++[o])=Qh l++[.int (o:Int)]:=by simp[Qh]
  unfold Gen.Ol R6;rw[e];generalize Uq (f++[o])=KF',Ur (f++[o])=VF',Uq f=KF,Ur f=VF,Qh l=PL at*;simp[lk,p,z1,z2,-look,-Wf]
theorem TI.snoc(h:TI n f l)(ho:o∉f)(hn:o<n):TI n (f++[o]) (l++[o]):=by
 refine⟨cz.mpr ⟨h.nd,by simp,λa ha b hb e=>ho (by rw[<-aj.mp hb,<-e];exact ha)⟩,λx hx=>?_,cz.mpr ⟨h.ld,by simp,λa ha b hb e=>ho (by rw[<-aj.mp hb,<-e];exact h.sub a ha)⟩,λx hx=>?_⟩
 .rcases bo.mp hx with z|z
  .exact h.lt x z
  .rw[aj.mp z];exact hn
 .rcases bo.mp hx with z|z
  .exact bu _ (h.sub x z)
  .exact bp _ z
structure eY(X:Nat->Prop)(f l f' l':List Nat):Prop where
 gf:∀x,x∈f'↔x∈f\/X x
 gl:∀x,x∈l'↔x∈l\/(X x/\x∉f)
 len:f'.length+l.length=f.length+l'.length
theorem eY.imp(g:eY X f l f' l')(e:∀x,X x↔Y x):eY Y f l f' l':=⟨λx=>by rw[g.gf,e],λx=>by rw[g.gl,e],g.len⟩
theorem eY.trans(g:eY X f l f1 l1)(h:eY Y f1 l1 f2 l2):eY (λx=>X x\/Y x) f l f2 l2:=by
 refine⟨λx=>?_,λx=>?_,by have:=g.len;have:=h.len;omega⟩
 .rw[h.gf,g.gf,or_assoc]
 .rw[h.gl,g.gl,g.gf];constructor
  .rintro((z|⟨z1,z2⟩)|⟨z1,z2⟩)
   .exact .inl z
   .exact .inr ⟨.inl z1,z2⟩
   .exact .inr ⟨.inr z1,λw=>z2 (.inl w)⟩
  .rintro(z|⟨z1|z1,z2⟩)
   .exact .inl (.inl z)
   .exact .inl (.inr ⟨z1,z2⟩)
   .by_cases hx:X x
    .exact .inl (.inr ⟨hx,z2⟩)
    .exact .inr ⟨z1,λw=>w.elim z2 hx⟩
theorem Gm(HS HD i n)(hn:n<=1000)(x5 x6):∀os f l x7,TI n f l->(∀o∈os,o<n)->∃f' l' y7,TI n f' l'/\eY (· ∈os) f l f' l'/\
  Yb (Zd 7) Gen.Ol (Qh os) (R6 HS HD i f l x5 x6 x7)=aA (.nx (R6 HS HD i f' l' x5 x6 y7))
 | [],f,l,x7,h,_=>⟨f,l,x7,h,⟨λx=>by simp,λx=>by simp,rfl⟩,by simp[Qh]⟩
 |o::os,f,l,x7,h,ho=>by
  have t:=Dt HS HD i n hn f l h o x5 x6;have r:(Zd 7).run (.int (o:Int)) (R6 HS HD i f l x5 x6 x7)=aA (R6 HS HD i f l x5 x6 (aA (.fz (.int (o:Int))))):=by simp[R6]
  by_cases hf:o∈f
  .rw[dG hf]at t;obtain⟨f',l',y7,h',g,ih⟩:=Gm HS HD i n hn x5 x6 os f l (aA (.fz (.int (o:Int)))) h λx hx=>ho x (ao _ hx);refine⟨f',l',y7,h',⟨λx=>?_,λx=>?_,g.len⟩,?_⟩
   .rw[g.gf,b7];exact⟨λz=>z.elim .inl λz=>.inr (.inr z),λz=>z.elim .inl λz=>z.elim (λz=>.inl (by rw[z];exact hf)) .inr⟩
   .rw[g.gl,b7];exact⟨λz=>z.elim .inl λz=>.inr ⟨.inr z.1,z.2⟩,λz=>z.elim .inl λz=>z.1.elim (λw=>dM (by rw[w];exact hf) z.2) λw=>.inr ⟨w,z.2⟩⟩
   .show Yb (Zd 7) Gen.Ol (.int (o:Int)::Qh os) _=_;unfold Yb;rw[r];dsimp only[cm];rw[t];exact ih
  .rw[dF hf]at t;obtain⟨f',l',y7,h',g,ih⟩:=Gm HS HD i n hn x5 x6 os (f++[o]) (l++[o]) (aA (.fz (.int (o:Int)))) (h.snoc hf (ho o ac)) λx hx=>ho x (ao _ hx);have g0:eY (· =o) f l (f++[o]) (l++[o]):=⟨λx=>by simp,λx=>by
    rw[bo,aj];exact⟨λz=>z.elim .inl λz=>.inr ⟨z,by rw[z];exact hf⟩,λz=>z.elim .inl λz=>.inr z.1⟩,by simp;omega⟩
   refine⟨f',l',y7,h',(g0.trans g).imp λx=>by rw[b7],?_⟩;show Yb (Zd 7) Gen.Ol (.int (o:Int)::Qh os) _=_;unfold Yb;rw[r];dsimp only[cm];rw[t];exact ih
theorem lv(hs ks pl B)(ho:eV (Ry hs) B ks pl)(i n)(hn:n<=1000)(hl:hs.length=n)(f l)(h:TI n f l)(t j)(ht:Ry hs t j)(x5 x7):∃f' l' y7,TI n f' l'/\eY (Ry hs t) f l f' l'/\
  Gen.Ms (R6 (hs.map Z7) (We ks pl) i f l x5 (aA (.fz (Zr t))) x7)=aA (.nx (R6 (hs.map Z7) (We ks pl) i f' l' x5 (aA (.fz (Zr t))) y7)):=by
 obtain⟨os,lk,hm,_⟩:=ho.look ht;obtain⟨f',l',y7,h',g,e⟩:=Gm (hs.map Z7) (We ks pl) i n hn x5 (aA (.fz (Zr t))) os f l x7 h λo vo=>by
  obtain⟨g,eg,_⟩:=(hm o).mp vo;rw[<-hl];rcases dv o hs.length with z|z
  .exact z
  .rw[d3 z]at eg;cases eg
 refine⟨f',l',y7,h',g.imp hm,?_⟩;have nk:=Cj t;unfold Gen.Ms;unfold R6 We at e⊢;generalize hs.map Z7=HS,(pl.map Qh).map D.lst=HX,Zr t=T,Qh os=OS,Uq f'=A1,Ur f'=A2,Qh l'=A3,Uq f=A4,Ur f=A5,Qh l=A6 at*;simp[nk,lk,e,-look,-Yb]
theorem L1(hs ks pl B)(ho:eV (Ry hs) B ks pl)(i n)(hn:n<=1000)(hl:hs.length=n)(j x5):∀(ts:List NK) f l x6 x7,TI n f l->(∀t∈ts,Ry hs t j)->∃f' l' y6 y7,TI n f' l'/\eY (λx=>∃t∈ts,Ry hs t x) f l f' l'/\
  Yb (Zd 6) Gen.Ms (ts.map Zr) (R6 (hs.map Z7) (We ks pl) i f l x5 x6 x7)=aA (.nx (R6 (hs.map Z7) (We ks pl) i f' l' x5 y6 y7))
 | [],f,l,x6,x7,h,_=>⟨f,l,x6,x7,h,⟨λx=>by simp,λx=>by simp,rfl⟩,by simp⟩
 |t::ts,f,l,x6,x7,h,ht=>by
  obtain⟨f1,l1,z7,h1,g1,e1⟩:=lv hs ks pl B ho i n hn hl f l h t j (ht t ac) x5 x7;obtain⟨f',l',y6,y7,h',g',ih⟩:=L1 hs ks pl B ho i n hn hl j x5 ts f1 l1 (aA (.fz (Zr t))) z7 h1 λu hu=>ht u (ao _ hu);refine⟨f',l',y6,y7,h',(g1.trans g').imp λx=>?_,?_⟩
  .simp only[b7,exists_eq_or_imp]
  .rw[ay];unfold Yb;rw[show(Zd 6).run (Zr t) (R6 (hs.map Z7) (We ks pl) i f l x5 x6 x7)=aA (R6 (hs.map Z7) (We ks pl) i f l x5 (aA (.fz (Zr t))) x7)from by simp[R6]];dsimp only[cm];rw[e1];exact ih
def shI(hs:List HP)(a b:Nat):Prop:=∃t,Ry hs t a/\Ry hs t b
inductive RI(hs:List HP)(i:Nat):Nat->Prop where
 |here:RI hs i i
 |step {a b:Nat}:RI hs i a->shI hs a b->RI hs i b
theorem zf{hs:List HP}{i:Nat}(e:hs[i]? =aA h):L2.atI (hs.map Z7) (i:Int)=aA (Z7 h):=by
 have hl:i<hs.length:=by rcases dv i hs.length with z|z;exact z;rw[d3 z]at e;cases e
 have:L2.ixN hs.length (i:Int)=aA i:=by unfold L2.ixN;simp;omega
 unfold L2.atI;rw[ah,this];show(hs.map Z7)[i]? =_;rw[az,e];rfl
section
variable(hs:List HP)(ks:List NK)(pl:Xn)(B:Nat)(ho:eV (Ry hs) B ks pl)(i n:Nat)(hn:n<=1000)(hl:hs.length=n)(hB:∀h∈hs,(U1 h).length<=10000)
include ho hn hl hB
theorem iG(f l j h)(hj:hs[j]? =aA h)(ti:TI n f (l++[j]))(x5 x6 x7):∃f' l' y5 y6 y7,TI n f' l'/\eY (shI hs j) f l f' l'/\
  Gen.Ge (R6 (hs.map Z7) (We ks pl) i f (l++[j]) x5 x6 x7)=aA (.nx (R6 (hs.map Z7) (We ks pl) i f' l' y5 y6 y7)):=by
 have wa:TI n f l:=⟨ti.nd,ti.lt,(cz.mp ti.ld).1,λx hx=>ti.sub x (bu _ hx)⟩
 obtain⟨f',l',y6,y7,h',g,e⟩:=L1 hs ks pl B ho i n hn hl j (aA (.fz (Z7 h))) (U1 h) f l x6 x7 wa λt ht=>⟨h,hj,ht⟩
 refine⟨f',l',aA (.fz (Z7 h)),y6,y7,h',g.imp λx=>?_,?_⟩
 .constructor
  .rintro⟨t,ht,hx⟩;exact⟨t,⟨h,hj,ht⟩,hx⟩
  .rintro⟨t,⟨h2,e2,ht⟩,hx⟩;rw[hj]at e2;cases e2;exact⟨t,ht,hx⟩
 .have OT:(U1 h).length<=10000:=hB h (bz hj);have zl:(h.ns.map Zr).length+(h.ms.map Zr).length<=PySem.sizeLine:=Qt (by rw[ah,ah];rw[av]at OT;omega);have QE:∀a b c:D,L2.atI [a,b,c] 1=aA b:=λ_ _ _=>rfl;have QF:∀a b c:D,L2.atI [a,b,c] 0=aA a:=λ_ _ _=>rfl;have ai:=zf hj;rw[show(U1 h).map Zr=h.ns.map Zr++h.ms.map Zr from b8]at e;have el:Qh (l++[j])=Qh l++[.int (j:Int)]:=by simp[Qh]
  have e1:(Qh l++[D.int (j:Int)])[(Qh l++[D.int (j:Int)]).length- 1]? =aA (.int (j:Int)):=by simp
  have e2:(Qh l++[D.int (j:Int)]).dropLast=Qh l:=List.dropLast_concat;unfold Gen.Ge;unfold R6 at e⊢;rw[el];rw[show Z7 h= .tup [.lst (h.ns.map Zr),.lst (h.ms.map Zr),.lst (h.fs.map Y3)]from rfl]at e ai⊢;generalize hs.map Z7=HS at*;generalize We ks pl=HD at*;generalize h.ns.map Zr=NS at*;generalize h.ms.map Zr=MS at*;generalize h.fs.map Y3=TS at*;generalize Uq f'=A1 at*;generalize Ur f'=A2 at*;generalize Qh l'=A3 at*;generalize Uq f=A4 at*;generalize Ur f=A5 at*;generalize Qh l=A6 at*;generalize hQ:A6++[D.int (j:Int)]=A7 at*;simp[e1,e2,ai,QF,QE,zl,e,-Yb]
theorem Fi:∀m f l x5 x6 x7,TI n f l->2*(n- f.length)+l.length<m->i∈f->(∀a∈f,RI hs i a)->(∀a∈f,a∉l->∀b,shI hs a b->b∈f)->(∀a∈f,a<n)->∃f' y5 y6 y7,TI n f' []/\i∈f'/\(∀a∈f',RI hs i a)/\(∀a∈f',∀b,shI hs a b->b∈f')/\
  Ut Gen.Om Gen.Ge m (R6 (hs.map Z7) (We ks pl) i f l x5 x6 x7)=aA (.nx (R6 (hs.map Z7) (We ks pl) i f' [] y5 y6 y7))
 |0,f,l,x5,x6,x7,_,hm,_,_,_,_=>dM hm (f6 _)
 |m+1,f,l,x5,x6,x7,ti,hm,hi,hr,hc,ZM=>by
  rcases List.eq_nil_or_concat l with rfl|⟨l0,j,rfl⟩
  .refine⟨f,x5,x6,x7,ti,hi,hr,λa ha=>hc a ha (by simp),?_⟩;have t2:Gen.Om (R6 (hs.map Z7) (We ks pl) i f [] x5 x6 x7)=aA (aD,R6 (hs.map Z7) (We ks pl) i f [] x5 x6 x7):=by unfold Gen.Om R6;exact Ou
   unfold Ut;rw[t2];rfl
  .rw[List.concat_eq_append]at*;have CP:j∈f:=ti.sub j (by simp);have RU:j<hs.length:=by rw[hl];exact ZM j CP
   have hj:hs[j]? =aA hs[j]:=ar RU;obtain⟨f',l',y5,y6,y7,PY,g,e⟩:=iG hs ks pl B ho i n hn hl hB f l0 j hs[j] hj ti x5 x6 x7;have t1:Gen.Om (R6 (hs.map Z7) (We ks pl) i f (l0++[j]) x5 x6 x7)=aA (aC,R6 (hs.map Z7) (We ks pl) i f (l0++[j]) x5 x6 x7):=by unfold Gen.Om R6;simp[Qh]
   have hlen:=g.len;have hf':=PY.len.1;have gK:f.length<=f'.length:=c9 ti.nd λx hx=>(g.gf x).mpr (.inl hx);have hfn:=ti.len.1;rw[av]at hm;obtain⟨f2,z5,z6,z7,wZ,a1,a2,a3,a4⟩:=Fi m f' l' y5 y6 y7 PY (by simp at hm;omega) ((g.gf i).mpr (.inl hi)) (λa ha=>by
     rcases(g.gf a).mp ha with z|z
     .exact hr a z
     .exact .step (hr j CP) z) (λa ha LN b YW=>by
     by_cases haf:a∈f
     .by_cases haj:a=j
      .rw[haj]at YW;exact(g.gf b).mpr (.inr YW)
      .have:a∉l0++[j]:=λz=>by
        rcases bo.mp z with z|z
        .exact LN ((g.gl a).mpr (.inl z))
        .exact haj (aj.mp z)
       exact(g.gf b).mpr (.inl (hc a haf this b YW))
     .rcases(g.gf a).mp ha with z|z
      .exact dM z haf
      .exact dM ((g.gl a).mpr (.inr ⟨z,haf⟩)) LN) (λa ha=>PY.lt a ha)
   refine⟨f2,z5,z6,z7,wZ,a1,a2,a3,?_⟩;unfold Ut;rw[t1];dsimp only[cm];rw[dG rfl,e];exact a4
theorem tied(hi:i<n)(CJ:n<=300):∃f,TI n f []/\i∈f/\(∀a∈f,RI hs i a)/\(∀a∈f,∀b,shI hs a b->b∈f)/\Gen.Fe [.lst (hs.map Z7),We ks pl,.int (i:Int)]=aA (.ol (Qh f)):=by
 have ti:TI n [i] [i]:=⟨by simp,λx hx=>by rw[aj.mp hx];exact hi,by simp,λx hx=>hx⟩
 obtain⟨f,y5,y6,y7,PY,a1,a2,a3,w⟩:=Fi hs ks pl B ho i n hn hl hB 1000 [i] [i] aB aB aB ti (by simp;omega) (by simp) (λa ha=>by rw[aj.mp ha];exact .here) (λa ha LN=>dM ha LN) (λa ha=>ti.lt a ha);refine⟨f,PY,a1,a2,a3,?_⟩;have ek:(Uq f).map Ah=Qh f:=by rw[cp];rfl
 unfold Gen.Fe Gen.Dq;have w:Ut Gen.Om Gen.Ge Gen.MA [aA (.fz (.lst (hs.map Z7))),aA (.fz (We ks pl)),aA (.fz (.int (i:Int))),aA (.oK [.inl (i:Int)] [.bl aC]),aA (.ol [.int (i:Int)]),aB,aB,aB]=_:=w;unfold R6 at w;generalize hs.map Z7=HS,We ks pl=HD,Uq f=A1,Ur f=A2,Qh f=A3 at*;simp[w,ek,jz1]
end
noncomputable abbrev Yh(t:Js):NK:=.inl [t.1,t.2.1]
def OkK(l:List NK):Prop:=(∀k∈l,Mz k)\/(∀k∈l,isM k)
theorem OkK.one(h:OkK l):C8 l:=h.imp (λh k hk=>h k hk) λh k hk=>h k hk
theorem xk(h:OkK l):∃out:List NK,out.Pairwise kLt/\∀x,x∈out↔x∈l:=by
 let le:NK->NK->Bool:=λa b=>!decide (Bg b<Bg a);have pm:((Lw l).mergeSort le).Perm (Lw l):=List.mergeSort_perm _ _;have pw:((Lw l).mergeSort le).Pairwise λa b=>le a b=aC:=List.pairwise_mergeSort (le:=le) (λa b c h1 h2=>by
   simp only[le,Bool.not_eq_true',decide_eq_false_iff_not]at*;exact dw.mpr (List.le_trans (dw.mp h1) (dw.mp h2))) (λa b=>by
   simp only[le,Bool.or_eq_true,Bool.not_eq_true',decide_eq_false_iff_not];rcases List.le_total (Bg a) (Bg b)with z|z
   .exact .inl (dw.mpr z)
   .exact .inr (dw.mpr z)) _
 have nd:((Lw l).mergeSort le).Nodup:=pm.nodup_iff.mpr (Px l);have mem:∀x,x∈(Lw l).mergeSort le↔x∈l:=λx=>by rw[pm.mem_iff,Av]
 refine⟨_,?_,mem⟩;refine(List.Pairwise.and_mem.mp (pw.and nd)).imp fun{a b} ⟨ha,hb,h1,h2⟩=>?_;simp only[le,Bool.not_eq_true',decide_eq_false_iff_not]at h1;by_cases z:Bg a<Bg b
 .exact z
 .exact dM (Fc (h.one.one ((mem a).mp ha) ((mem b).mp hb)) (List.le_antisymm (dw.mp h1) (dw.mp z))) h2
open Classical in
def rise(l:List NK):List NK:=if h:∃out:List NK,out.Pairwise kLt/\∀x,x∈out↔x∈l then Classical.choose h else[]
theorem U5(h:OkK l):(rise l).Pairwise kLt/\∀x,x∈rise l↔x∈l:=by unfold rise;rw[dif_pos (xk h)];exact Classical.choose_spec (xk h)
theorem Fj(h:OkK l)(hl:l.length<64):Mq [.lst (l.map Zr)]=aA (.ol ((rise l).map Zr)):=(jt l).trans (pI h.one hl (λx=>(U5 h).2 x) (U5 h).1)
def Rz(ts:List Js):List Js:=ts.mergeSort λa b=>!decide (Wo b<Wo a)
theorem Us(ts):(Rz ts).Perm ts:=List.mergeSort_perm _ _
theorem L3(ts):(Rz ts).Pairwise λa b=>¬Wo b<Wo a:=by
 have:=List.pairwise_mergeSort (le:=λa b:Js=>!decide (Wo b<Wo a)) (λa b c h1 h2=>by
   simp only[Bool.not_eq_true',decide_eq_false_iff_not]at*;exact dw.mpr (List.le_trans (dw.mp h1) (dw.mp h2))) (λa b=>by
   simp only[Bool.or_eq_true,Bool.not_eq_true',decide_eq_false_iff_not];rcases List.le_total (Wo a) (Wo b)with z|z
   .exact .inl (dw.mpr z)
   .exact .inr (dw.mpr z)) ts
 exact this.imp fun{a b} h=>by simpa using h
abbrev Xo:=List (List NK)
abbrev Ov(l:List NK):List D:=l.map Zr
noncomputable def Km(ks:List NK)(pl:Xo)(t:NK)(ys:List NK):List NK×Xo:=match Ys ks t with
 |some q=>(ks,pl.set q (pl.getD q []++ys))
 |none=>(ks++[t],pl++[ys])
structure Tell(S:NK->Prop)(R:NK->NK->Prop)(L:NK->Nat)(B:Nat)(ks:List NK)(pl:Xo):Prop where
 nd:ks.Nodup
 len:ks.length=pl.length
 key:∀t,t∈ks↔S t
 has:∀(q:Nat) (t:NK) (l:List NK),ks[q]? =aA t->pl[q]? =aA l->(∀k,k∈l↔R t k)/\l.length<=L t
 few:ks.length<=B
theorem Tell.imp{S:NK->Prop}(h:Tell S R L B ks pl)(e1:∀t,S t↔S' t)(e2:∀t k,R t k↔R' t k)(e3:∀t,L t<=L' t)(hB:B<=B'):Tell S' R' L' B' ks pl:=
 ⟨h.nd,h.len,λt=>(h.key t).trans (e1 t),λq t l h1 h2=>⟨λk=>((h.has q t l h1 h2).1 k).trans (e2 t k),dm (h.has q t l h1 h2).2 (e3 t)⟩,dm h.few hB⟩
theorem Tell.add{S}(h:Tell S R L B ks pl)(hs:∀t k,R t k->S t)(t ys):Tell (λu=>S u\/u=t) (λu k=>R u k\/(u=t/\k∈ys)) (λu=>L u+if u=t then ys.length else 0) (B+1) (Km ks pl t ys).1 (Km ks pl t ys).2:=by
 unfold Km;cases e:Ys ks t with
 |some q=>
  have hq:=O6 e;have QQ:q<ks.length:=by rcases dv q ks.length with z|z;exact z;rw[d3 z]at hq;cases hq
  have WM:q<pl.length:=by rw[<-h.len];exact QQ
  have eg:pl.getD q []=pl[q]:=by rw[bg,ar WM];rfl
  have ht:S t:=(h.key t).mp (bz hq);refine⟨h.nd,by rw[List.length_set];exact h.len,λu=>?_,λi u l h1 h2=>?_,by have:=h.few;show ks.length<=_;omega⟩
  .rw[h.key];exact⟨.inl,λz=>z.elim id λz=>by rw[z];exact ht⟩
  .by_cases hi:i=q
   .subst hi;have eu:u=t:=by rw[hq]at h1;exact(dq.inj h1).symm
    rw[gh WM]at h2;have el:=dq.inj h2;obtain⟨g1,g2⟩:=h.has i u pl[i] h1 (ar WM);refine⟨λk=>?_,?_⟩
    .rw[<-el,bo,eg,g1 k];exact⟨λz=>z.elim .inl λz=>.inr ⟨eu,z⟩,λz=>z.elim .inl λz=>.inr z.2⟩
    .rw[<-el,av,eg,dG eu];omega
   .rw[g8 (λz=>hi z.symm)]at h2;obtain⟨g1,g2⟩:=h.has i u l h1 h2;refine⟨λk=>?_,by omega⟩;rw[g1 k];refine⟨.inl,λz=>z.elim id λz=>?_⟩;rw[z.1]at h1;exact dM ((List.getElem?_inj QQ h.nd).mp (hq.trans h1.symm)) λw=>hi w.symm
 |none=>
  have hn:=O7 e;refine⟨cz.mpr ⟨h.nd,by simp,λa ha b hb e=>hn (by rw[<-aj.mp hb,<-e];exact ha)⟩,by simp[h.len],λu=>?_,λi u l h1 h2=>?_,by have:=h.few;simp;omega⟩
  .rw[bo,h.key,aj]
  .rcases dv i ks.length with z|z
   .rw[ci z]at h1;rw[ci (by rw[<-h.len];exact z)]at h2;obtain⟨g1,g2⟩:=h.has i u l h1 h2;refine⟨λk=>?_,by omega⟩;rw[g1 k];exact⟨.inl,λw=>w.elim id λw=>dM (by rw[<-w.1];exact bz h1) hn⟩
   .rw[dr z]at h1;rw[dr (by rw[<-h.len];exact z),<-h.len]at h2;cases ei:i- ks.length with
    |zero=>rw[ei]at h1 h2;cases h1;cases h2;refine⟨λk=>⟨λw=>.inr ⟨rfl,w⟩,λw=>w.elim (λw=>dM ((h.key t).mpr (hs t k w)) hn) λw=>w.2⟩,by rw[dG rfl];omega⟩
    |succ j=>rw[ei]at h1;cases h1
theorem iF(ks:List NK)(pl)(t:NK)(ys):Aj ks (pl.map Ov) t (Ov ys)=((Km ks pl t ys).1,(Km ks pl t ys).2.map Ov):=by
 unfold Aj Km;cases Ys ks t with
 |some q=>
  dsimp only;rw[List.map_set];have:(pl.map Ov).getD q []=Ov (pl.getD q []):=by rw[bg,bg,az];cases pl[q]? <;> rfl
  rw[this];simp[Ov]
 |none=>simp[Ov]
theorem Tell.ok{S}(h:Tell S R L B ks pl)(hB:B<=10000)(hL:∀t,L t<=10000)(n)(hn:n<=10000):okX (pl.map Ov) n:=
 yJ (by rw[ah,<-h.len];have:=h.few;omega) (by omega) λxs hx=>by
  obtain⟨l,hl,rfl⟩:=ax.mp hx;obtain⟨q,hq,rfl⟩:=dy hl;have vm:q<ks.length:=by rw[h.len];exact hq
  have:=(h.has q ks[q] pl[q] (ar vm) (ar hq)).2;have:=hL ks[q];simp[Ov];omega
noncomputable def Kn(t:NK)(fs:List Js):Nat:=(fs.map λx=>if Yh x=t then x.2.2.length else 0).sum
noncomputable def tlG(t:NK)(gs:List HP):Nat:=(gs.map λh=>Kn t h.fs).sum
theorem B2(t x fs):Kn t (x::fs)=(if Yh x=t then x.2.2.length else 0)+Kn t fs:=by unfold Kn;simp
theorem Fk(t h gs):tlG t (h::gs)=Kn t h.fs+tlG t gs:=by unfold tlG;simp
noncomputable abbrev Xa(A:Option SV)(ns ms:List NK)(ks:List NK)(pl:Xo)(h x5 x6 x7 x8:Option SV):Yy:=[A,aA (.ol (Ov ns)),aA (.ol (Ov ms)),aA (.oX ks (pl.map Ov)),h,x5,x6,x7,x8]
theorem L4(A h x8 ns ms):∀fs S R L B ks pl x5 x6 x7,Tell S R L B ks pl->(∀t k,R t k->S t)->B+fs.length<=10000->(∀t,L t+Kn t fs<=10000)->(∀x∈fs,x.2.2.length<=10000)->∃ZJ ZV y5 y6 y7,Tell (λt=>S t\/∃x∈fs,t=Yh x) (λt k=>R t k\/∃x∈fs,t=Yh x/\k∈x.2.2) (λt=>L t+Kn t fs) (B+fs.length) ZJ ZV/\
  Yb (Yz 3 (Zn (Zd 5) (Zn (Zd 6) (Zn (Zd 7) Y1)))) Gen.On (fs.map Y3) (Xa A ns ms ks pl h x5 x6 x7 x8)=aA (.nx (Xa A ns ms ZJ ZV h y5 y6 y7 x8))
 | [],S,R,L,B,ks,pl,x5,x6,x7,te,_,_,_,_=>⟨ks,pl,x5,x6,x7,te.imp (λt=>by simp) (λt k=>by simp) (λt=>by simp[Kn]) (bf _),by simp⟩
 |x::fs,S,R,L,B,ks,pl,x5,x6,x7,te,RY,hz,hL,hx=>by
  rw[bc]at hz;have te1:=te.add RY (Yh x) x.2.2;obtain⟨ZJ,ZV,y5,y6,y7,PZ,ih⟩:=L4 A h x8 ns ms fs _ _ _ (B+1) (Km ks pl (Yh x) x.2.2).1 (Km ks pl (Yh x) x.2.2).2 (aA (.fz (.str x.1))) (aA (.fz (.str x.2.1))) (aA (.fz (.lst (Ov x.2.2)))) te1 (λt k z=>z.elim (λz=>.inl (RY t k z)) λz=>.inr z.1) (by omega) (λt=>by
   have:=hL t;rw[B2]at this;by_cases e:t=Yh x
   .rw[dG e];rw[dG e.symm]at this;omega
   .rw[dF e];omega) λy hy=>hx y (ao _ hy)
  refine⟨ZJ,ZV,y5,y6,y7,PZ.imp (λt=>?_) (λt k=>?_) (λt=>?_) (by rw[bc];omega),?_⟩
  .simp only[b7,exists_eq_or_imp,or_assoc]
  .simp only[b7,exists_eq_or_imp,or_assoc]
  .rw[B2];by_cases e:t=Yh x
   .rw[dG e,dG e.symm];omega
   .rw[dF e,dF λz=>e z.symm];omega
  .have a:Gen.On (Xa A ns ms ks pl h (aA (.fz (.str x.1))) (aA (.fz (.str x.2.1))) (aA (.fz (.lst (Ov x.2.2)))) x8)=aA (.nx (Xa A ns ms (Km ks pl (Yh x) x.2.2).1 (Km ks pl (Yh x) x.2.2).2 h (aA (.fz (.str x.1))) (aA (.fz (.str x.2.1))) (aA (.fz (.lst (Ov x.2.2)))) x8)):=by have:=xm (δ:=Xa A ns ms ks pl h (aA (.fz (.str x.1))) (aA (.fz (.str x.2.1))) (aA (.fz (.lst (Ov x.2.2)))) x8) (i:=3) (j:=7) (fk:=tupF (Zl (Za 5) (Zl (Za 6) Zt))) (p:=(.tmp (.fz (.tup [.str x.1,.str x.2.1])),Xa A ns ms ks pl h (aA (.fz (.str x.1))) (aA (.fz (.str x.2.1))) (aA (.fz (.lst (Ov x.2.2)))) x8)) (q:=(.tup [.str x.1,.str x.2.1],Xa A ns ms ks pl h (aA (.fz (.str x.1))) (aA (.fz (.str x.2.1))) (aA (.fz (.lst (Ov x.2.2)))) x8)) (d:=.lst (Ov x.2.2)) (ys:=Ov x.2.2) (ext:=aC) (k:=Yh x) rfl (by simp[jz2]) rfl (Cj (Yh x)) rfl rfl (.inr ⟨rfl,rfl⟩) (te.ok (by omega) (λt=>by have:=hL t;omega) _ (by simp[Ov];exact hx x ac));rw[iF]at this;exact this
   rw[ay];unfold Yb;rw[show(Yz 3 (Zn (Zd 5) (Zn (Zd 6) (Zn (Zd 7) Y1)))).run (Y3 x) (Xa A ns ms ks pl h x5 x6 x7 x8)=aA (Xa A ns ms ks pl h (aA (.fz (.str x.1))) (aA (.fz (.str x.2.1))) (aA (.fz (.lst (Ov x.2.2)))) x8)from by simp];dsimp only[cm];rw[a];exact ih
abbrev SG(gs:List HP)(t:NK):Prop:=∃h∈gs,∃x∈h.fs,t=Yh x
abbrev RG(gs:List HP)(t k:NK):Prop:=∃h∈gs,∃x∈h.fs,t=Yh x/\k∈x.2.2
noncomputable def Ak(gs:List HP):Nat:=(gs.map λh=>h.fs.length).sum
theorem L5(h gs):Ak (h::gs)=h.fs.length+Ak gs:=by unfold Ak;simp
structure Few(h:HP):Prop where
 ns:h.ns.length<=1000
 ms:h.ms.length<=1000
 tl:∀x∈h.fs,x.2.2.length<=10000
theorem iE(A x8 hp)(fw:Few hp)(ns ms)(hz:ns.length+1000<=100000)(OT:ms.length+1000<=100000)(S R L B ks pl)(te:Tell S R L B ks pl)(RY:∀t k,R t k->S t)(hB:B+hp.fs.length<=10000)(hL:∀t,L t+Kn t hp.fs<=10000)(x5 x6 x7):∃ZJ ZV y5 y6 y7,Tell (λt=>S t\/∃x∈hp.fs,t=Yh x) (λt k=>R t k\/∃x∈hp.fs,t=Yh x/\k∈x.2.2) (λt=>L t+Kn t hp.fs) (B+hp.fs.length) ZJ ZV/\
  Gen.W6 (Xa A ns ms ks pl (aA (.fz (Z7 hp))) x5 x6 x7 x8)=aA (.nx (Xa A (ns++hp.ns) (ms++hp.ms) ZJ ZV (aA (.fz (Z7 hp))) y5 y6 y7 x8)):=by
 obtain⟨ZJ,ZV,y5,y6,y7,PZ,l⟩:=L4 A (aA (.fz (Z7 hp))) x8 (ns++hp.ns) (ms++hp.ms) hp.fs S R L B ks pl x5 x6 x7 te RY hB hL fw.tl;refine⟨ZJ,ZV,y5,y6,y7,PZ,?_⟩;have z1:(Ov ns).length+(hp.ns.map Zr).length<=PySem.sizeLine:=Qt (by have:=fw.ns;simp[Ov];omega);have z2:(Ov ms).length+(hp.ms.map Zr).length<=PySem.sizeLine:=Qt (by have:=fw.ms;simp[Ov];omega);have uo:∀a b c:D,L2.atI [a,b,c] 2=aA c:=λ_ _ _=>rfl;have QE:∀a b c:D,L2.atI [a,b,c] 1=aA b:=λ_ _ _=>rfl;have QF:∀a b c:D,L2.atI [a,b,c] 0=aA a:=λ_ _ _=>rfl;have e1:Ov (ns++hp.ns)=Ov ns++hp.ns.map Zr:=b8;have e2:Ov (ms++hp.ms)=Ov ms++hp.ms.map Zr:=b8;unfold Gen.W6;unfold Xa at l⊢;rw[e1,e2]at l⊢;clear e1 e2;rw[show Z7 hp= .tup [.lst (hp.ns.map Zr),.lst (hp.ms.map Zr),.lst (hp.fs.map Y3)]from rfl]at l⊢;generalize pl.map Ov=P1,ZV.map Ov=P2,Ov ns=N1,Ov ms=N2,hp.ns.map Zr=NS,hp.ms.map Zr=MS,hp.fs.map Y3=TS at*;simp[QF,QE,uo,z1,z2,l,-Yb]
theorem L6(A x8):∀gs ns ms S R L B ks pl x4 x5 x6 x7,Tell S R L B ks pl->(∀t k,R t k->S t)->(∀h∈gs,Few h)->ns.length+1000*gs.length<=90000->ms.length+1000*gs.length<=90000->B+Ak gs<=10000->(∀t,L t+tlG t gs<=10000)->∃ZJ ZV y4 y5 y6 y7,Tell (λt=>S t\/SG gs t) (λt k=>R t k\/RG gs t k) (λt=>L t+tlG t gs) (B+Ak gs) ZJ ZV/\
  Yb (Zd 4) Gen.W6 (gs.map Z7) (Xa A ns ms ks pl x4 x5 x6 x7 x8)=aA (.nx (Xa A (ns++gs.flatMap HP.ns) (ms++gs.flatMap HP.ms) ZJ ZV y4 y5 y6 y7 x8))
 | [],ns,ms,S,R,L,B,ks,pl,x4,x5,x6,x7,te,_,_,_,_,_,_=>⟨ks,pl,x4,x5,x6,x7,te.imp (λt=>by simp) (λt k=>by simp) (λt=>by simp[tlG]) (by simp[Ak]),by simp⟩
 |h::gs,ns,ms,S,R,L,B,ks,pl,x4,x5,x6,x7,te,RY,fw,hz,OT,hB,hL=>by
  rw[bc]at hz OT;rw[L5]at hB;have fh:=fw h ac;obtain⟨WJ,pl1,z5,z6,z7,te1,t1⟩:=iE A x8 h fh ns ms (by omega) (by omega) S R L B ks pl te RY (by omega) (λt=>by have:=hL t;rw[Fk]at this;omega) x5 x6 x7;obtain⟨ZJ,ZV,y4,y5,y6,y7,PZ,ih⟩:=L6 A x8 gs (ns++h.ns) (ms++h.ms) _ _ _ _ WJ pl1 (aA (.fz (Z7 h))) z5 z6 z7 te1 (λt k z=>z.elim (λz=>.inl (RY t k z)) λ⟨x,hx,e,_⟩=>.inr ⟨x,hx,e⟩) (λg hg=>fw g (ao _ hg)) (by have:=fh.ns;rw[av];omega) (by have:=fh.ms;rw[av];omega) (by omega) (λt=>by have:=hL t;rw[Fk]at this;omega);refine⟨ZJ,ZV,y4,y5,y6,y7,PZ.imp (λt=>?_) (λt k=>?_) (λt=>by rw[Fk];omega) (by rw[L5];omega),?_⟩
  .simp only[SG,b7,exists_eq_or_imp,or_assoc]
  .simp only[RG,b7,exists_eq_or_imp,or_assoc]
  .rw[ay,List.flatMap_cons,List.flatMap_cons,<-d7,<-d7];unfold Yb;rw[show(Zd 4).run (Z7 h) (Xa A ns ms ks pl x4 x5 x6 x7 x8)=aA (Xa A ns ms ks pl (aA (.fz (Z7 h))) x5 x6 x7 x8)from by simp];dsimp only[cm];rw[t1];exact ih
noncomputable def Qf(ks:List NK)(pl:Xo)(k:NK):List NK:=match Ys ks k with
 |some q=>pl.getD q []
 |none=>[]
theorem iD{ks:List NK}(h:k∈ks):∃q,Ys ks k=aA q:=by
 cases e:Ys ks k with
 |some q=>exact⟨q,rfl⟩
 |none=>exact dM h (O7 e)
theorem Eb{S}(te:Tell S R L B ks pl)(hk:k∈ks):(∀x,x∈Qf ks pl k↔R k x)/\(Qf ks pl k).length<=L k/\look ks ((pl.map Ov).map D.lst) k=aA (.lst (Ov (Qf ks pl k))):=by
 obtain⟨q,e⟩:=iD hk;have hq:=O6 e;have QQ:q<ks.length:=by rcases dv q ks.length with z|z;exact z;rw[d3 z]at hq;cases hq
 have WM:q<pl.length:=by rw[<-te.len];exact QQ
 have et:Qf ks pl k=pl[q]:=by unfold Qf;rw[e];show pl.getD q []=_;rw[bg,ar WM];rfl
 have hp:=ar WM;obtain⟨g1,g2⟩:=te.has q k pl[q] hq hp;rw[et];exact⟨g1,g2,P4 te.nd hq (by rw[az,az,hp];rfl)⟩
def R3(ks:List NK)(pl:Xo):NK->Js
 | .inl [a,b]=>(a,b,rise (Qf ks pl (.inl [a,b])))
 |_=>("","",[])
def L7(ks:List NK)(pl:Xo)(d:D):D:=match nk? d with
 |some k=>Y3 (R3 ks pl k)
 |none=>.non
theorem iC{S}(te:Tell S R L B ks pl)(hB:B<=10000)(hp:∀t,S t->∃a b,t= .inl [a,b])(hL:∀t,L t<64)(hR:∀t k,R t k->Mz k):
  Yd [.own,.cap 3,.acc] 2 (Zd 0) W3 Gen.Jl (ks.map Zr) [aB,aA (.fz (.dX ks ((pl.map Ov).map D.lst))),aA (.ol [])]=
  aA [aB,aA (.fz (.dX ks ((pl.map Ov).map D.lst))),aA (.ol ((ks.map (R3 ks pl)).map Y3))]:=by
 have c:=Bx (te:=Gen.Jl) (f:=L7 ks pl) (c:=aA (.fz (.dX ks ((pl.map Ov).map D.lst)))) (j:=3) (ks.map Zr) [] (λx hx zs=>by
  obtain⟨k,hk,rfl⟩:=ax.mp hx;obtain⟨a,b,rfl⟩:=hp k ((te.key k).mp hk);obtain⟨g1,g2,lk⟩:=Eb te hk;have ok:OkK (Qf ks pl (.inl [a,b])):=.inl λx hx=>hR _ _ ((g1 x).mp hx);have sd:Mq [.lst ((Qf ks pl (.inl [a,b])).map Zr)]=aA (.ol (Ov (rise (Qf ks pl (.inl [a,b]))))):=Fj ok (ib g2 (hL _));have QE:∀a b:D,L2.atI [a,b] 1=aA b:=λ_ _=>rfl;have QF:∀a b:D,L2.atI [a,b] 0=aA a:=λ_ _=>rfl;have ek:Zr (.inl [a,b])= .tup [.str a,.str b]:=rfl;have nk:=Cj (.inl [a,b]);have ef:L7 ks pl (Zr (.inl [a,b]))= .tup [.str a,.str b,.lst (Ov (rise (Qf ks pl (.inl [a,b]))))]:=by unfold L7;rw[nk];rfl
  rw[ef];rw[ek]at nk⊢;unfold Gen.Jl;generalize (pl.map Ov).map D.lst=XS,Ov (rise (Qf ks pl (.inl [a,b])))=RS at*;have vP:look ks XS (Sum.inl [a,b])=aA (.lst ((Qf ks pl (.inl [a,b])).map Zr)):=lk;generalize (Qf ks pl (.inl [a,b])).map Zr=TD,(Sum.inl [a,b]:NK)=P at*;simp[QF,QE,nk,vP,sd,jz3,-look]) (by have:=te.few;simp;omega)
 have e:(ks.map Zr).map (L7 ks pl)=(ks.map (R3 ks pl)).map Y3:=by rw[cp,cp];refine List.map_congr_left λk _=>?_;show L7 ks pl (Zr k)=Y3 (R3 ks pl k);unfold L7;rw[Cj]
 rw[c,d4,e]
structure Grp(gs:List HP):Prop where
 few:∀h∈gs,Few h
 nn:∀h∈gs,∀k∈h.ns,Mz k
 mm:∀h∈gs,∀k∈h.ms,isM k
 tt:∀h∈gs,∀x∈h.fs,∀k∈x.2.2,Mz k
 n64:(gs.flatMap HP.ns).length<64
 m64:(gs.flatMap HP.ms).length<64
 t64:∀t,tlG t gs<64
 len:gs.length<64
 cnt:Ak gs<=10000
 p64:∃ps:List NK,ps.length<64/\∀t,SG gs t->t∈ps
theorem join_heaps(gs)(g:Grp gs):∃h,eI (· ∈gs) h/\Gen.Jm [.lst (gs.map Z7)]=aA (.fz (Z7 h)):=by
 have wb:Tell (λ_=>False) (λ_ _=>False) (λ_=>0) 0 [] []:=⟨c7,rfl,λt=>by simp,λq t l h _=>by simp at h,bf _⟩
 obtain⟨ks,pl,y4,y5,y6,y7,te1,l⟩:=L6 (aA (.fz (.lst (gs.map Z7)))) aB gs [] [] _ _ _ 0 [] [] aB aB aB aB wb (λ_ _ z=>z) g.few (by have:=g.len;simp;omega) (by have:=g.len;simp;omega) (by have:=g.cnt;omega) (λt=>by have:=g.t64 t;omega);have te:Tell (SG gs) (RG gs) (λt=>tlG t gs) (Ak gs) ks pl:=te1.imp (λt=>by simp) (λt k=>by simp) (λt=>by simp) (by omega);have TU:∀t,SG gs t->∃a b,t= .inl [a,b]:=λt ⟨h,_,x,_,e⟩=>⟨x.1,x.2.1,e⟩
 have GU:∀t k,RG gs t k->Mz k:=λt k ⟨h,hh,x,hx,_,hk⟩=>g.tt h hh x hx k hk;have c:=iC te g.cnt TU g.t64 GU;have JX:OkK (gs.flatMap HP.ns):=.inl λk hk=>by obtain⟨h,hh,hk⟩:=List.mem_flatMap.mp hk;exact g.nn h hh k hk
 have JY:OkK (gs.flatMap HP.ms):=.inr λk hk=>by obtain⟨h,hh,hk⟩:=List.mem_flatMap.mp hk;exact g.mm h hh k hk
 have r1:=Fj JX g.n64;have r2:=Fj JY g.m64;have vY:ks.length<64:=by obtain⟨ps,h1,h2⟩:=g.p64;exact ib (c9 te.nd λt ht=>h2 t ((te.key t).mp ht)) h1
 have tri:∀k∈ks,∃a b,k= .inl [a,b]/\R3 ks pl k=(a,b,rise (Qf ks pl k)):=λk hk=>by obtain⟨a,b,rfl⟩:=TU k ((te.key k).mp hk);exact⟨a,b,rfl,rfl⟩
 have JW:∀k∈ks,OkK (Qf ks pl k):=λk hk=>.inl λx hx=>GU k x (((Eb te hk).1 x).mp hx);have OJ:((ks.map (R3 ks pl)).map Wo).Nodup:=by rw[cp];refine du.mpr ((List.Pairwise.and_mem.mp te.nd).imp fun{x y} ⟨hx,hy,h⟩ e=>h ?_);obtain⟨a,b,e1,e2⟩:=tri x hx;obtain⟨a',b',uh,UU⟩:=tri y hy;have e:Wo (R3 ks pl x)=Wo (R3 ks pl y):=e;rw[e2,UU]at e;obtain⟨z1,z2⟩:=ly e;have z1:a=a':=z1;have z2:b=b':=z2;rw[e1,uh,z1,z2]
 have r3:Im [.lst ((ks.map (R3 ks pl)).map Y3)]=aA (.ol ((Rz (ks.map (R3 ks pl))).map Y3)):=nC (λt ht k hk=>by
   obtain⟨x,hx,rfl⟩:=ax.mp ht;obtain⟨a,b,e1,e2⟩:=tri x hx;rw[e2]at hk;exact GU x k (((Eb te hx).1 k).mp (((U5 (JW x hx)).2 k).mp hk))) OJ (by rw[ah];exact vY) (Us _) (L3 _)
 refine⟨⟨rise (gs.flatMap HP.ns),rise (gs.flatMap HP.ms),Rz (ks.map (R3 ks pl))⟩,⟨(U5 JX).1,λk=>?_,(U5 JY).1,λk=>?_,?_,λf v=>?_,λt ht=>?_⟩,?_⟩
 .rw[(U5 JX).2,List.mem_flatMap]
 .rw[(U5 JY).2,List.mem_flatMap]
 .have nd2:((Rz (ks.map (R3 ks pl))).map Wo).Nodup:=(((Us _).map Wo).nodup_iff).mpr OJ;refine((L3 _).and (du.mp nd2)).imp fun{a b} ⟨h1,h2⟩=>?_;by_cases z:Wo a<Wo b
  .exact z
  .exact dM (List.le_antisymm (dw.mp h1) (dw.mp z)) h2
 .constructor
  .rintro⟨l,hl⟩;obtain⟨k,hk,e⟩:=ax.mp ((Us _).mem_iff.mp hl);obtain⟨a,b,e1,e2⟩:=tri k hk;rw[e2]at e;obtain⟨h,hh,x,hx,ex⟩:=(te.key k).mp hk;rw[e1]at ex;have ex:=List.cons.inj (Sum.inl.inj ex);have ex2:=(List.cons.inj ex.2).1;have ea:=(Prod.mk.inj e).1;have eb:=(Prod.mk.inj (Prod.mk.inj e).2).1;refine⟨h,hh,x.2.2,?_⟩;rw[<-ea,<-eb,ex.1,ex2];exact hx
  .rintro⟨h,hh,l,hl⟩;have hk:Yh (f,v,l)∈ks:=(te.key _).mpr ⟨h,hh,_,hl,rfl⟩;exact⟨_,(Us _).mem_iff.mpr (List.mem_map_of_mem (f:=R3 ks pl) hk)⟩
 .obtain⟨k,hk,rfl⟩:=ax.mp ((Us _).mem_iff.mp ht);obtain⟨a,b,e1,e2⟩:=tri k hk;rw[e2];refine⟨(U5 (JW k hk)).1,λx=>?_⟩;show x∈rise (Qf ks pl k)↔_;rw[(U5 (JW k hk)).2,(Eb te hk).1 x,e1];constructor
  .rintro⟨h,hh,y,hy,ey,hx⟩;have ey:=List.cons.inj (Sum.inl.inj ey);have ey2:=(List.cons.inj ey.2).1;exact⟨h,hh,y.2.2,by show(a,b,y.2.2)∈h.fs;rw[ey.1,ey2];exact hy,hx⟩
  .rintro⟨h,hh,l,hl,hx⟩;exact⟨h,hh,_,hl,rfl,hx⟩
 .rw[d4,d4]at l;have l:Yb (Zd 4) Gen.W6 (gs.map Z7) [aA (.fz (.lst (gs.map Z7))),aA (.ol []),aA (.ol []),aA (.oX [] []),aB,aB,aB,aB,aB]=_:=l;unfold Gen.Jm Gen.Cq;unfold Xa at l;unfold Ov at l;unfold Ov at c;rw[show Z7 ⟨rise (gs.flatMap HP.ns),rise (gs.flatMap HP.ms),Rz (ks.map (R3 ks pl))⟩=D.tup [.lst ((rise (gs.flatMap HP.ns)).map Zr),.lst ((rise (gs.flatMap HP.ms)).map Zr),.lst ((Rz (ks.map (R3 ks pl))).map Y3)]from rfl];exact Ou
theorem eI.congr(m:eI G h)(e:∀a,G a↔G' a):eI G' h:=by have:G=G':=funext λa=>propext (e a);rw[<-this];exact m
noncomputable abbrev Sd(hs:List HP)(b:Nat):HP:=(hs[b]?).getD ⟨[],[],[]⟩
theorem R4(hb:b<hs.length):hs[b]? =aA (Sd hs b):=by unfold Sd;rw[ar hb];rfl
abbrev Fm(hs:List HP)(p:Nat)(g:HP):Prop:=∃b,RI hs p b/\hs[b]? =aA g
theorem ls(h:shI hs a b):shI hs b a:=let⟨t,h1,h2⟩:=h;⟨t,h2,h1⟩
theorem RI.trans(h:RI hs a b)(k:RI hs b c):RI hs a c:=by
 induction k with
 |here=>exact h
 |step _ s ih=>exact .step ih s
theorem RI.symm(h:RI hs a b):RI hs b a:=by
 induction h with
 |here=>exact .here
 |step _ s ih=>exact(RI.step .here (ls s)).trans ih
theorem Xb(hp:hs[p]? =aA a)(g):Fm hs p g↔eO (· ∈hs) a g:=by
 constructor
 .rintro⟨b,r,e⟩;have:∀{x y},RI hs x y->x=p->∀g,hs[y]? =aA g->eO (· ∈hs) a g:=fun{x y} r=>by
   induction r with
   |here=>intro hx g e;rw[hx,hp]at e;cases e;exact .here (bz hp)
   |step r s ih=>intro hx g e;obtain⟨t,⟨u,eu,tu⟩,⟨v,ev,tv⟩⟩:=s;rw[e]at ev;cases ev;exact .step (ih hx u eu) (bz e) ⟨t,tu,tv⟩
  exact this r rfl g e
 .intro c;have:∀{x y},eO (· ∈hs) x y->hs[p]? =aA x->Fm hs p y:=fun{x y} c=>by
   induction c with
   |here _=>exact λz=>⟨p,.here,z⟩
   |step c' hc sh ih=>intro z;obtain⟨b,r,e⟩:=ih z;obtain⟨q,hq⟩:=List.getElem?_of_mem hc;obtain⟨t,t1,t2⟩:=sh;exact⟨q,.step r ⟨t,⟨_,e,t1⟩,⟨_,hq,t2⟩⟩,hq⟩
  exact this c hp
theorem Du(w:Nat->Nat):∀n (f:List Nat),f.Nodup->(∀x∈f,x<n)->(f.map w).sum<=((c6 n).map w).sum
 |0,f,_,h=>by
  cases f with
  |nil=>simp
  |cons x f=>exact dM (h x ac) (f6 _)
 |n+1,f,nd,h=>by
  rw[List.range_succ,b8,List.sum_append];by_cases hn:n∈f
  .have pm:=List.perm_cons_erase hn;have nd2:=pm.nodup_iff.mp nd;obtain⟨n1,n2⟩:=eh.mp nd2;have ih:=Du w n (f.erase n) n2 λx hx=>by have h1:=h x (List.mem_of_mem_erase hx);have h2:x≠n:=λz=>n1 (z▸hx);omega
   rw[(pm.map w).sum_nat,ay,List.sum_cons];simp only[ay,List.map_nil,List.sum_cons,List.sum_nil];omega
  .have ih:=Du w n f nd λx hx=>by have h1:=h x hx;have h2:x≠n:=λz=>hn (by rw[<-z];exact hx);omega
   omega
theorem lr(w:HP->Nat)(hs):(c6 hs.length).map (λb=>w (Sd hs b))=hs.map w:=by refine List.ext_getElem (by simp) λi h1 h2=>?_;simp at h1;have:=R4 h1;rw[ar h1]at this;rw[List.getElem_map,List.getElem_map,List.getElem_range,<-dq.inj this]
structure Tot(hs:List HP):Prop where
 all:Grp hs
 ne:∀h∈hs,h.ns≠[]
theorem Tot.grp(T:Tot hs){f:List Nat}(nd:f.Nodup)(lt:∀x∈f,x<hs.length):Grp (f.map (Sd hs)):=by
 have mem:∀h∈f.map (Sd hs),h∈hs:=λh hh=>by obtain⟨b,hb,rfl⟩:=ax.mp hh;exact bz (R4 (lt b hb))
 have le:∀w:HP->Nat,((f.map (Sd hs)).map w).sum<=(hs.map w).sum:=λw=>by rw[cp,<-lr w hs];exact Du (w∘Sd hs) hs.length f nd lt
 have A:=T.all;refine⟨λh hh=>A.few h (mem h hh),λh hh=>A.nn h (mem h hh),λh hh=>A.mm h (mem h hh),λh hh=>A.tt h (mem h hh),?_,?_,λt=>ib (le _) (A.t64 t),?_,dm (le _) A.cnt,?_⟩
 .have:=A.n64;rw[List.length_flatMap]at this⊢;exact ib (le _) this
 .have:=A.m64;rw[List.length_flatMap]at this⊢;exact ib (le _) this
 .rw[ah];have:=P5 nd lt;have:=A.len;omega
 .obtain⟨ps,h1,h2⟩:=A.p64;exact⟨ps,h1,λt ⟨h,hh,z⟩=>h2 t ⟨h,mem h hh,z⟩⟩
abbrev Dv(HS:List D)(HD:D)(P:List D)(sk:List Nat)(x4 x5 x6:Option SV):Yy:=[aA (.fz (.lst HS)),aA (.fz HD),aA (.ol P),aA (.oK (Uq sk) (Ur sk)),x4,x5,x6]
theorem L8(HS HD P x4 x5):∀f sk x6,(sk++f).Nodup->sk.length+f.length<=10000->∃y6,
  Yb (Zd 6) Gen.Op (Qh f) (Dv HS HD P sk x4 x5 x6)=aA (.nx (Dv HS HD P (sk++f) x4 x5 y6))
 | [],sk,x6,_,_=>⟨x6,by simp[Qh]⟩
 |o::f,sk,x6,nd,hz=>by
  rw[bc]at hz;have e0:(sk++[o])++f=sk++o::f:=by simp
  obtain⟨y6,ih⟩:=L8 HS HD P x4 x5 f (sk++[o]) (aA (.fz (.int (o:Int)))) (by rw[e0];exact nd) (by rw[av];simp;omega);refine⟨y6,?_⟩;have ho:o∉sk:=λz=>(cz.mp nd).2.2 o z o ac rfl;have p:Wf (Uq sk) (Ur sk) (Sum.inl (o:Int)) (.bl aC)=(Uq (sk++[o]),Ur (sk++[o])):=by unfold Wf;rw[dF λz=>ho (B1.mp z)];simp[Uq,Ur]
  have z1:(Ur sk).length<PySem.sizeLine:=Z9 (by simp;omega);have t:Gen.Op (Dv HS HD P sk x4 x5 (aA (.fz (.int (o:Int)))))=aA (.nx (Dv HS HD P (sk++[o]) x4 x5 (aA (.fz (.int (o:Int)))))):=by unfold Gen.Op Dv;exact Ou
  show Yb (Zd 6) Gen.Op (.int (o:Int)::Qh f) _=_;unfold Yb;rw[show(Zd 6).run (.int (o:Int)) (Dv HS HD P sk x4 x5 x6)=aA (Dv HS HD P sk x4 x5 (aA (.fz (.int (o:Int)))))from by simp];dsimp only[cm];rw[t];dsimp only[cm];rw[ih,e0]
theorem lh(hs f)(lt:∀x∈f,x<hs.length)(hf:f.length<=10000):
  Yd [.own,.cap 0,.acc] 2 (Zd 0) W3 Gen.Cr (Qh f) [aB,aA (.fz (.lst (hs.map Z7))),aA (.ol [])]=aA [aB,aA (.fz (.lst (hs.map Z7))),aA (.ol ((f.map (Sd hs)).map Z7))]:=by
 let F:D->D:=λd=>match d with| .int i=>Z7 (Sd hs i.toNat)|_=>.non
 have c:=Bx (te:=Gen.Cr) (f:=F) (c:=aA (.fz (.lst (hs.map Z7)))) (j:=0) (Qh f) [] (λx hx zs=>by
  obtain⟨b,hb,rfl⟩:=ax.mp hx;have ai:=zf (R4 (lt b hb));have ef:F (.int (b:Int))=Z7 (Sd hs b):=by show Z7 (Sd hs ((b:Int)).toNat)=_;rw[Int.toNat_natCast]
  rw[ef];unfold Gen.Cr;generalize Z7 (Sd hs b)=Q,hs.map Z7=HS at*;simp[ai]) (by simp[Qh];omega)
 have e:(Qh f).map F=(f.map (Sd hs)).map Z7:=by rw[cp,cp];refine List.map_congr_left λb _=>?_;show Z7 (Sd hs ((b:Int)).toNat)=Z7 (Sd hs b);rw[Int.toNat_natCast]
 rw[c,d4,e]
structure JI(hs:List HP)(i:Nat)(sk:List Nat)(ps:List HP):Prop where
 nd:sk.Nodup
 lt:∀x∈sk,x<hs.length
 cl:∀a∈sk,∀b,shI hs a b->b∈sk
 upto:∀p,p<i->p∈sk
 each:∀h∈ps,∃a∈sk,eI (Fm hs a) h
 all:∀a∈sk,∃h∈ps,eI (Fm hs a) h
 apart:ps.Pairwise λh h'=>∀k,k∈h.ns->k∉h'.ns
 len:ps.length<=i
theorem JI.ri(j:JI hs i sk ps)(ha:a∈sk)(r:RI hs a b):b∈sk:=by
 induction r with
 |here=>exact ha
 |step _ s ih=>exact j.cl _ ih _ s
theorem Xc(hs)(T:Tot hs)(ks pl B)(ho:eV (Ry hs) B ks pl)(i)(hi:i<hs.length)(sk ps)(j:JI hs i sk ps)(x5 x6):∃MR YE y5 y6,JI hs (i+1) MR YE/\
  Gen.Jx (Dv (hs.map Z7) (We ks pl) (ps.map Z7) sk (aA (.fz (.int (i:Int)))) x5 x6)=aA (.nx (Dv (hs.map Z7) (We ks pl) (YE.map Z7) MR (aA (.fz (.int (i:Int)))) y5 y6)):=by
 have h64:=T.all.len;have hB:∀h∈hs,(U1 h).length<=10000:=λh hh=>by have f:=T.all.few h hh;have:=f.ns;have:=f.ms;rw[av];omega
 by_cases UI:i∈sk
 .refine⟨sk,ps,x5,x6,⟨j.nd,j.lt,j.cl,λp hp=>?_,j.each,j.all,j.apart,by have:=j.len;omega⟩,?_⟩
  .by_cases e:p=i
   .rw[e];exact UI
   .exact j.upto p (by omega)
  .obtain⟨v,lk⟩:=Tn (ks:=Uq sk) (vs:=Ur sk) (k:=.inl (i:Int)) (by simp) (B1.mpr UI);unfold Gen.Jx Dv;generalize Uq sk=K1,Ur sk=K2 at*;simp[lk,-look]
 .obtain⟨f,ti,fi,fr,fc,tg⟩:=tied hs ks pl B ho i hs.length (by omega) rfl hB hi (by omega);have out:∀x∈f,x∉sk:=λx hx z=>UI (j.ri z (fr x hx).symm);have nd2:(sk++f).Nodup:=cz.mpr ⟨j.nd,ti.nd,λa ha b hb e=>out b hb (by rw[<-e];exact ha)⟩;have fl:=ti.len.1;have skl:=P5 j.nd j.lt;obtain⟨h,m,jh⟩:=join_heaps (f.map (Sd hs)) (T.grp ti.nd ti.lt);have mem:∀g,g∈f.map (Sd hs)↔Fm hs i g:=λg=>by
   constructor
   .intro z;obtain⟨b,hb,rfl⟩:=ax.mp z;exact⟨b,fr b hb,R4 (ti.lt b hb)⟩
   .rintro⟨b,r,e⟩;have hb:b∈f:=by
     have:∀{x y},RI hs x y->x∈f->y∈f:=fun{x y} r=>by
      induction r with
      |here=>exact id
      |step _ s ih=>exact λz=>fc _ (ih z) _ s
     exact this r fi
    have:=R4 (ti.lt b hb);rw[e]at this;rw[dq.inj this];exact List.mem_map_of_mem hb
  have m:eI (Fm hs i) h:=m.congr mem;obtain⟨y6,sl⟩:=L8 (hs.map Z7) (We ks pl) (ps.map Z7) (aA (.fz (.int (i:Int)))) (aA (.fz (.lst (Qh f)))) f sk x6 nd2 (by omega);refine⟨sk++f,ps++[h],aA (.fz (.lst (Qh f))),y6,⟨nd2,λx hx=>?_,λa ha b YW=>?_,λp hp=>?_,λh' hh=>?_,λa ha=>?_,?_,by have:=j.len;simp;omega⟩,?_⟩
  .rcases bo.mp hx with z|z
   .exact j.lt x z
   .exact ti.lt x z
  .rcases bo.mp ha with z|z
   .exact bu _ (j.cl a z b YW)
   .exact bp _ (fc a z b YW)
  .by_cases e:p=i
   .rw[e];exact bp _ fi
   .exact bu _ (j.upto p (by omega))
  .rcases bo.mp hh with z|z
   .obtain⟨a,ha,m'⟩:=j.each h' z;exact⟨a,bu _ ha,m'⟩
   .rw[aj.mp z];exact⟨i,bp _ fi,m⟩
  .rcases bo.mp ha with z|z
   .obtain⟨h',hh,m'⟩:=j.all a z;exact⟨h',bu _ hh,m'⟩
   .refine⟨h,by simp,m.congr λg=>?_⟩;constructor
    .rintro⟨b,r,e⟩;exact⟨b,(fr a z).symm.trans r,e⟩
    .rintro⟨b,r,e⟩;exact⟨b,(fr a z).trans r,e⟩
  .refine List.pairwise_append.mpr ⟨j.apart,by simp,λh1 GB h2 uA k k1 k2=>?_⟩;rw[aj.mp uA]at k2;obtain⟨a,ha,m1⟩:=j.each h1 GB;obtain⟨u,⟨c,rc,ec⟩,kc⟩:=(m1.ns_m k).mp k1;obtain⟨v,⟨d,rd,ed⟩,kd⟩:=(m.ns_m k).mp k2;have cs:=j.ri ha rc;have ds:=j.cl c cs d ⟨k,⟨u,ec,bu _ kc⟩,⟨v,ed,bu _ kd⟩⟩;exact UI (j.ri ds rd.symm)
  .have lk:look (Uq sk) (Ur sk) (.inl (i:Int))=aB:=Fh λz=>UI (B1.mp z);have c:=lh hs f ti.lt (by omega);have zp:(ps.map Z7).length<PySem.sizeLine:=Z9 (by have:=j.len;rw[ah];omega);have ep:(ps++[h]).map Z7=ps.map Z7++[Z7 h]:=by simp
   rw[ep];rw[show Z7 h= .tup [.lst (h.ns.map Zr),.lst (h.ms.map Zr),.lst (h.fs.map Y3)]from rfl]at jh⊢;unfold Gen.Jx;unfold Dv at sl⊢;generalize [D.lst (h.ns.map Zr),.lst (h.ms.map Zr),.lst (h.fs.map Y3)]=HH,(f.map (Sd hs)).map Z7=GS,hs.map Z7=HS,We ks pl=HD,ps.map Z7=PP,Uq (sk++f)=K1,Ur (sk++f)=K2,Uq sk=K3,Ur sk=K4,Qh f=PF at*;simp[lk,tg,sl,c,jh,zp,-look,-Yb,-Yd]
theorem lg(T:Tot hs)(ha:a<hs.length)(m:eI (Fm hs a) h):eZ h:=by
 have A:=T.all;refine⟨λz=>?_,λk hk=>?_,λk hk=>?_,λt ht k hk=>?_⟩
 .have e:=R4 ha;have hm:=bz e;obtain⟨k,l,ek⟩:=io (T.ne _ hm);have:=(m.ns_m k).mpr ⟨_,⟨a,.here,e⟩,by rw[ek];exact ac⟩;rw[z]at this;cases this
 .obtain⟨g,⟨b,_,e⟩,hk⟩:=(m.ns_m k).mp hk;exact A.nn g (bz e) k hk
 .obtain⟨g,⟨b,_,e⟩,hk⟩:=(m.ms_m k).mp hk;exact A.mm g (bz e) k hk
 .obtain⟨g,⟨b,_,e⟩,l,hl,hk⟩:=((m.fs_l t ht).2 k).mp hk;exact A.tt g (bz e) _ hl k hk
theorem Dw(o:eZ h)(o':eZ h')(ap:∀k,k∈h.ns->k∉h'.ns):Je h≠Je h':=λe=>by
 obtain⟨x,l,ex⟩:=io o.ne;obtain⟨y,l',ey⟩:=io o'.ne;unfold Je at e;rw[ex,ey]at e;have e:Bg x=Bg y:=e;have hx:x∈h.ns:=by rw[ex];exact ac
 have hy:y∈h'.ns:=by rw[ey];exact ac
 obtain⟨u,v,e1⟩:=o.nm x hx;obtain⟨u',v',e2⟩:=o'.nm y hy;have one:OneK x y:=by rw[e1,e2];exact .nm _ _
 have:=Fc one e;rw[<-this]at hy;exact ap x hx hy
def L9(ts:List HP):List HP:=ts.mergeSort λa b=>!decide (Je b<Je a)
theorem Jz(ts):(L9 ts).Perm ts:=List.mergeSort_perm _ _
theorem Xd(ts):(L9 ts).Pairwise λa b=>¬Je b<Je a:=by
 have:=List.pairwise_mergeSort (le:=λa b:HP=>!decide (Je b<Je a)) (λa b c h1 h2=>by
   simp only[Bool.not_eq_true',decide_eq_false_iff_not]at*;exact dw.mpr (List.le_trans (dw.mp h1) (dw.mp h2))) (λa b=>by
   simp only[Bool.or_eq_true,Bool.not_eq_true',decide_eq_false_iff_not];rcases List.le_total (Je a) (Je b)with z|z
   .exact .inl (dw.mpr z)
   .exact .inr (dw.mpr z)) ts
 exact this.imp fun{a b} h=>by simpa using h
theorem joined(hs)(T:Tot hs):∃out,eQ (· ∈hs) out/\(∀h∈out,eZ h)/\out.length<=hs.length/\Gen.Bz [.lst (hs.map Z7)]=aA (.ol (out.map Z7)):=by
 have h64:=T.all.len;have few:∀h∈hs,(U1 h).length<=126:=λh hh=>by have n:=T.all.n64;have m:=T.all.m64;obtain⟨a,b,rfl⟩:=List.append_of_mem hh;simp only[List.flatMap_append,List.flatMap_cons,av]at n m;rw[av];omega
 have hz:Kl hs<=10000:=by
  have:∀l:List HP,(∀h∈l,(U1 h).length<=126)->Kl l<=126*l.length:=λl=>by
   induction l with
   |nil=>intro _;simp[Kl]
   |cons h l ih=>intro hl;have:=ih λg hg=>hl g (ao _ hg);have:=hl h ac;rw[Tl,bc];omega
  have:=this hs few;omega
 obtain⟨ks,pl,ho,hd⟩:=holders_of hs hz;obtain⟨δ',e,sk,ps,y4,y5,y6,j,hy⟩:=Gv (tg:=Zd 4) (body:=Gen.Jx) (P:=λi δ=>∃sk ps y4 y5 y6,JI hs i sk ps/\δ=Dv (hs.map Z7) (We ks pl) (ps.map Z7) sk y4 y5 y6) hs.length 0 (Dv (hs.map Z7) (We ks pl) [] [] aB aB aB) ⟨[],[],aB,aB,aB,⟨c7,(λ_ z=>nomatch z),(λ_ z=>nomatch z),(λp z=>dM z (f6 _)),(λ_ z=>nomatch z),(λ_ z=>nomatch z),.nil,bf _⟩,rfl⟩ (λi _ hi δ ⟨sk,ps,y4,y5,y6,j,hy⟩=>by
  subst hy;rw[Nat.zero_add]at hi;obtain⟨MR,YE,z5,z6,j',t⟩:=Xc hs T ks pl _ ho i hi sk ps j y5 y6;exact⟨Dv (hs.map Z7) (We ks pl) (ps.map Z7) sk (aA (.fz (.int (i:Int)))) y5 y6,_,by simp,t,MR,YE,_,z5,z6,j',rfl⟩)
 subst hy;rw[Nat.zero_add]at j;have ok:∀h∈ps,eZ h:=λh hh=>by obtain⟨a,ha,m⟩:=j.each h hh;exact lg T (j.lt a ha) m
 have OJ:(ps.map Je).Nodup:=du.mpr ((List.Pairwise.and_mem.mp j.apart).imp fun{a b} ⟨ha,hb,ap⟩=>Dw (ok a ha) (ok b hb) ap);have s:=qf ok OJ (by have:=j.len;omega) (Jz ps) (Xd ps);have s:Im [.lst (ps.map Z7)]=aA (.ol ((L9 ps).map Z7)):=s;refine⟨L9 ps,⟨?_,λh hh=>?_,λa ha=>?_⟩,λh hh=>ok h ((Jz ps).mem_iff.mp hh),by rw[(Jz ps).length_eq];exact j.len,?_⟩
 .have nd2:((L9 ps).map Je).Nodup:=(((Jz ps).map Je).nodup_iff).mpr OJ;refine((Xd ps).and (du.mp nd2)).imp fun{a b} ⟨h1,h2⟩=>?_;by_cases z:Je a<Je b
  .exact z
  .exact dM (List.le_antisymm (dw.mp h1) (dw.mp z)) h2
 .obtain⟨p,hp,m⟩:=j.each h ((Jz ps).mem_iff.mp hh);have e:=R4 (j.lt p hp);exact⟨_,bz e,m.congr (Xb e)⟩
 .obtain⟨p,e⟩:=List.getElem?_of_mem ha;have hp:p<hs.length:=by rcases dv p hs.length with z|z;exact z;rw[d3 z]at e;cases e
  obtain⟨h,hh,m⟩:=j.all p (j.upto p hp);exact⟨h,(Jz ps).mem_iff.mpr hh,m.congr (Xb e)⟩
 .have g1:Ad (hs.length:Int):=Ui (by omega);have et:((hs.length:Int)).toNat=hs.length:=by omega
  have el:(hs.map Z7).length=hs.length:=ah _;have e:Yb (Zd 4) Gen.Jx (Co 0 hs.length) [aA (.fz (.lst (hs.map Z7))),aA (.fz (We ks pl)),aA (.ol []),aA (.oK [] []),aB,aB,aB]=_:=e;unfold Gen.Bz Gen.Ff;unfold Dv We at e;unfold We at hd;generalize (L9 ps).map Z7=OS,ps.map Z7=PS,Uq sk=K1,Ur sk=K2,(pl.map Qh).map D.lst=HX,hs.map Z7=HS,hs.length=N at*;simp[hd,e,s,g1,el,et,Q6,-Yb]
theorem s1:1<=PySem.sizeLine:=by decide
theorem s2:2<=PySem.sizeLine:=by decide
theorem s3:3<=PySem.sizeLine:=by decide
noncomputable abbrev Z6:Str:=dz "kind"
noncomputable abbrev Qg:Str:=dz "note"
noncomputable def Yl(fs ts:List Str)(f:Str):Option Str:=(fs.zip ts).lookup f
theorem J1:∀fs ts f,look fs (ts.map D.str) f=(Yl fs ts f).map D.str
 | [],ts,f=>by cases ts<;> rfl
 |_::_,[],f=>rfl
 |x::fs,t::ts,f=>by
  show(if x=f then aA (D.str t)else look fs (ts.map D.str) f)=_;rw[J1 fs ts f];unfold Yl;rw[List.zip_cons_cons,List.lookup_cons];by_cases h:x=f
  .subst h;simp
  .have:(f==x)=aD:=beq_eq_false_iff_ne.mpr λz=>h z.symm;rw[dF h,this]
noncomputable abbrev Na(kind:Str)(fs ts:List Str):D:=.tup [.str kind,.dK (Z0 fs) (ts.map D.str)]
theorem own_texts(kind fs ts)(hl:fs.length=ts.length)(hz:ts.length<=1000)(hk:Z6∉fs):Gen.Q8 [Na kind fs ts]=aA (.oK (Z0 (fs++[Z6])) ((ts++[kind]).map D.str)):=by
 have hp:Wf (Z0 fs) (ts.map D.str) (cw Z6) (.str kind)=(Z0 (fs++[Z6]),(ts++[kind]).map D.str):=by rw[Of,Og hk];simp
 have z:(ts.map D.str).length<PySem.sizeLine:=Z9 (by simp;omega);have QE:∀a b:D,L2.atI [a,b] 1=aA b:=λ_ _=>rfl;have QF:∀a b:D,L2.atI [a,b] 0=aA a:=λ_ _=>rfl;unfold Na Gen.Q8 Gen.Gh;exact Ou
def Q3(fs ts:List Str):Nat->List (List Str)->List NK
 |_,[]=>[]
 |i,r::rs=>(match r.mapM (Yl fs ts)with|some l=>[(.inr ((i:Int),l):NK)]|none=>[])++Q3 fs ts (i+1) rs
noncomputable abbrev Yc(r:List Str):D:=.lst (r.map D.str)
def BV(fs ts:List Str):D->D
 | .str f=>.bl (Yl fs ts f).isSome
 |_=>.non
def zH(fs ts:List Str):D->D
 | .str f=>.str ((Yl fs ts f).getD "")
 |_=>.non
theorem lf(fs ts j)(r:List Str)(hr:r.length<=100):
  Yd [.own,.cap j,.acc] 2 (Zd 0) W3 Gen.U3 (r.map D.str) [aB,aA (.fz (.dK (Z0 fs) (ts.map D.str))),aA (.ol [])]=aA [aB,aA (.fz (.dK (Z0 fs) (ts.map D.str))),aA (.ol (r.map λf=>.bl (Yl fs ts f).isSome))]:=by
 have c:=Bx (te:=Gen.U3) (f:=BV fs ts) (c:=aA (.fz (.dK (Z0 fs) (ts.map D.str)))) (j:=j) (r.map D.str) [] (λx hx zs=>by
  obtain⟨f,hf,rfl⟩:=ax.mp hx;have l:=(Qn f fs (ts.map D.str)).trans (J1 fs ts f);unfold Gen.U3 BV;generalize ts.map D.str=TS,Z0 fs=FS at*;simp[l,-look]) (by rw[ah];simp;omega)
 rw[c,d4,cp];rfl
theorem lc(fs ts j)(r:List Str)(hr:r.length<=100)(hh:∀f∈r,(Yl fs ts f).isSome):
  Yd [.own,.cap j,.acc] 2 (Zd 0) W3 Gen.U4 (r.map D.str) [aB,aA (.fz (.dK (Z0 fs) (ts.map D.str))),aA (.ol [])]=aA [aB,aA (.fz (.dK (Z0 fs) (ts.map D.str))),aA (.ol (r.map λf=>.str ((Yl fs ts f).getD "")))]:=by
 have c:=Bx (te:=Gen.U4) (f:=zH fs ts) (c:=aA (.fz (.dK (Z0 fs) (ts.map D.str)))) (j:=j) (r.map D.str) [] (λx hx zs=>by
  obtain⟨f,hf,rfl⟩:=ax.mp hx;have l:=(Qn f fs (ts.map D.str)).trans (J1 fs ts f);obtain⟨v,hv⟩:=Option.isSome_iff_exists.mp (hh f hf);rw[hv]at l;have g:zH fs ts (.str f)= .str v:=by show D.str ((Yl fs ts f).getD "")=_;rw[hv];rfl
  rw[g];unfold Gen.U4;generalize ts.map D.str=TS,Z0 fs=FS at*;simp[l,-look]) (by rw[ah];simp;omega)
 rw[c,d4,cp];rfl
theorem Fn(fs ts):∀r:List Str,r.mapM (Yl fs ts)=if(∀f∈r,(Yl fs ts f).isSome)then aA (r.map λf=>(Yl fs ts f).getD "")else aB
 | []=>by simp
 |f::r=>by
  rw[List.mapM_cons,Fn fs ts r];cases h:Yl fs ts f with
  |none=>simp[h]
  |some v=>
   by_cases h2:∀f∈r,(Yl fs ts f).isSome
   .rw[dG h2,dG λg hg=>(b7.mp hg).elim (λz=>by rw[z,h];rfl) λz=>h2 g z];simp[h]
   .rw[dF h2,dF λz=>h2 λg hg=>z g (ao _ hg)];rfl
theorem Nb:∀(r:List Str) p,bools? (r.map λf=>D.bl (p f))=aA (r.map p)
 | [],p=>rfl
 |f::r,p=>by have:=Nb r p;rw[ay,ay];simp[this]
theorem Dx(fs ts R)(M:List NK)(n:Nat)(r)(hr:r.length<=100)(hM:M.length<=100):
  Gen.Jn [aA (.fz (.dK (Z0 fs) (ts.map D.str))),R,aA (.ol (M.map Zr)),aA (.fz (.int (n:Int))),aA (.fz (Yc r))]=
  aA (.nx [aA (.fz (.dK (Z0 fs) (ts.map D.str))),R,aA (.ol ((M++(match r.mapM (Yl fs ts)with|some l=>[(.inr ((n:Int),l):NK)]|none=>[])).map Zr)),aA (.fz (.int (n:Int))),aA (.fz (Yc r))]):=by
 have h1:=lf fs ts 0 r hr;have b:=Nb r λf=>(Yl fs ts f).isSome;have z1:M.length<PySem.sizeLine:=Z9 (by omega);unfold Gen.Jn;rw[Fn];by_cases h:∀f∈r,(Yl fs ts f).isSome
 .have h2:=lc fs ts 0 r hr h;rw[dG h];have al:(r.map λf=>(Yl fs ts f).isSome).all id=aC:=by rw[List.all_map];exact List.all_eq_true.mpr λf hf=>h f hf
  generalize ts.map D.str=TS,Z0 fs=FS at*;simp[h1,h2,b,al,z1,s2,-Yd];unfold Zr;simp
 .rw[dF h];have al:(r.map λf=>(Yl fs ts f).isSome).all id=aD:=by rw[List.all_map,Bool.eq_false_iff];exact λz=>h λf hf=>List.all_eq_true.mp z f hf
  generalize ts.map D.str=TS,Z0 fs=FS at*;simp[h1,b,al,z1,-Yd]
theorem Fo(fs ts R):∀rs n M x3 x4,(∀r∈rs,r.length<=100)->M.length+rs.length<=100->∃y3 y4,
  Yb (Yz 2 (Zn (Zd 3) (Zn (Zd 4) Y1))) Gen.Jn (((rs.map Yc).zipIdx n).map λp=>D.tup [.int (p.2:Nat),p.1]) [aA (.fz (.dK (Z0 fs) (ts.map D.str))),R,aA (.ol (M.map Zr)),x3,x4]=
  aA (.nx [aA (.fz (.dK (Z0 fs) (ts.map D.str))),R,aA (.ol ((M++Q3 fs ts n rs).map Zr)),y3,y4])
 | [],n,M,x3,x4,_,_=>⟨x3,x4,by simp[Q3]⟩
 |r::rs,n,M,x3,x4,hr,hM=>by
  rw[bc]at hM;have t:=Dx fs ts R M n r (hr r ac) (by omega);obtain⟨y3,y4,ih⟩:=Fo fs ts R rs (n+1) (M++(match r.mapM (Yl fs ts)with|some l=>[(.inr ((n:Int),l):NK)]|none=>[])) (aA (.fz (.int (n:Int)))) (aA (.fz (Yc r))) (λq hq=>hr q (ao _ hq)) (by
   rw[av];cases r.mapM (Yl fs ts)<;> simp<;> omega)
  refine⟨y3,y4,?_⟩;rw[ay,List.zipIdx_cons,ay,Q3];rw[d7]at ih;have e:∀δ,(Yz 2 (Zn (Zd 3) (Zn (Zd 4) Y1))).run (.tup [.int (n:Nat),Yc r]) [aA (.fz (.dK (Z0 fs) (ts.map D.str))),R,aA (.ol (M.map Zr)),x3,x4]=aA δ->δ=[aA (.fz (.dK (Z0 fs) (ts.map D.str))),R,aA (.ol (M.map Zr)),aA (.fz (.int (n:Int))),aA (.fz (Yc r))]:=λδ h=>by simpa using h.symm
  unfold Yb;generalize ts.map D.str=TS,Z0 fs=FS at*;rw[show(Yz 2 (Zn (Zd 3) (Zn (Zd 4) Y1))).run (.tup [.int (n:Nat),Yc r]) [aA (.fz (.dK FS TS)),R,aA (.ol (M.map Zr)),x3,x4]=aA [aA (.fz (.dK FS TS)),R,aA (.ol (M.map Zr)),aA (.fz (.int (n:Int))),aA (.fz (Yc r))]from by simp];dsimp only[cm];rw[t];exact ih
theorem marks_of(fs ts rs)(hr:∀r∈rs,r.length<=100)(hn:rs.length<=100):Gen.Oq [.dK (Z0 fs) (ts.map D.str),.lst (rs.map Yc)]=aA (.ol ((Q3 fs ts 0 rs).map Zr)):=by obtain⟨y3,y4,e⟩:=Fo fs ts (aA (.fz (.lst (rs.map Yc)))) rs 0 [] aB aB hr (by simpa using hn);rw[d4]at e;have e2:Qb (rs.map Yc)=(((rs.map Yc).zipIdx 0).map λp=>D.tup [.int (p.2:Nat),p.1]):=rfl;unfold Gen.Oq Gen.Rw;rw[<-e2]at e;generalize ts.map D.str=TS,Z0 fs=FS,rs.map Yc=RS,(Q3 fs ts 0 rs).map Zr=MS at*;have e:Yb (Yz 2 (Zn (Zd 3) (Zn (Zd 4) Y1))) Gen.Jn (Qb RS) [aA (.fz (.dK FS TS)),aA (.fz (.lst RS)),aA (.ol []),aB,aB]=_:=e;exact Ou
structure Wk where
 key:Str
 kind:Str
 fs:List Str
 ts:List Str
structure eX(w:Wk):Prop where
 len:w.fs.length=w.ts.length
 nd:w.fs.Nodup
 few:w.fs.length<=10
 nk:Z6∉w.fs
abbrev Wk.at'(w:Wk):List Str:=w.fs++[Z6]
noncomputable abbrev Wk.vt(w:Wk):List Str:=w.ts++[w.kind]
abbrev Wk.val(w:Wk)(f:Str):Str:=(Yl w.at' w.vt f).getD ""
noncomputable abbrev Wk.d(w:Wk):D:=Na w.kind w.fs w.ts
noncomputable abbrev Ka(b k:Str):NK:=.inl [b,k]
def Wk.tri(b:Str)(w:Wk):List Js:=(w.at'.filter λf=>decide (f≠Qg)).map λf=>(f,w.val f,[Ka b w.key])
abbrev Wk.marks(rs:List (List Str))(w:Wk):List NK:=Q3 w.at' w.vt 0 rs
def Os(b:Str)(rs:List (List Str))(w:Wk):HP:=⟨[Ka b w.key],w.marks rs,w.tri b⟩
theorem Gn:∀fs ts f,fs.length=ts.length->(f∈fs↔(Yl fs ts f).isSome=aC)
 | [],[],f,_=>by simp[Yl]
 | [],_::_,f,h=>by simp at h
 |_::_,[],f,h=>by simp at h
 |x::fs,t::ts,f,h=>by
  have ih:=Gn fs ts f (by simpa using h);unfold Yl at*;rw[List.zip_cons_cons,List.lookup_cons,b7,ih];by_cases e:f=x
  .subst e;simp
  .have:(f==x)=aD:=beq_eq_false_iff_ne.mpr e;rw[this];simp[e]
theorem To(fs ts nm)(hl:fs.length=ts.length):∀(xs:List Str) zs,(∀x∈xs,x∈fs)->zs.length+xs.length<=1000->
  Yd [.own,.cap 3,.cap 0,.acc] 3 (Zd 0) Gen.Qq Gen.Uf (xs.map D.str) [aB,aA (.fz (.dK (Z0 fs) (ts.map D.str))),aA (.fz nm),aA (.ol zs)]=
  aA [aB,aA (.fz (.dK (Z0 fs) (ts.map D.str))),aA (.fz nm),aA (.ol (zs++(xs.filter λf=>decide (f≠Qg)).map λf=>D.tup [.str f,.str ((Yl fs ts f).getD ""),.lst [nm]]))]
 | [],zs,_,_=>by simp
 |x::xs,zs,h,hz=>by
  rw[bc]at hz;obtain⟨v,hv⟩:=Option.isSome_iff_exists.mp ((Gn fs ts x hl).mp (h x ac));have l:=(Qn x fs (ts.map D.str)).trans (J1 fs ts x);rw[hv]at l;have z1:zs.length<PySem.sizeLine:=Z9 (by omega);rw[ay,List.filter_cons];unfold Yd;by_cases hx:x=Qg
  .have ih:=To fs ts nm hl xs zs (λy hy=>h y (ao _ hy)) (by omega);rw[dF (by simp[hx])];generalize ts.map D.str=TS,Z0 fs=FS at*;rw[show Gen.Qq=Yg (Zj neX (Za 0) (Zf (.str "note")))from rfl]at*;simp[hx,-Yd,-look];simpa[-Yd,-look]using ih
  .have ih:=To fs ts nm hl xs (zs++[D.tup [.str x,.str ((Yl fs ts x).getD ""),.lst [nm]]]) (λy hy=>h y (ao _ hy)) (by rw[av];simp;omega);rw[dG (by simp[hx]),ay];rw[d7]at ih;generalize ts.map D.str=TS,Z0 fs=FS at*;have e0:∀q,Gen.Qq [aA (SV.fz (D.str x)),aA (.fz (.dK FS TS)),aA (.fz nm),aA (.ol q)]=aA (aC,[aA (SV.fz (D.str x)),aA (.fz (.dK FS TS)),aA (.fz nm),aA (.ol q)]):=λq=>by unfold Gen.Qq;simp[hx]
   have e1:∀q,Gen.Uf [aA (SV.fz (D.str x)),aA (.fz (.dK FS TS)),aA (.fz nm),aA (.ol q)]=aA (.tmp (.fz (D.tup [.str x,.str v,.lst [nm]])),[aA (SV.fz (D.str x)),aA (.fz (.dK FS TS)),aA (.fz nm),aA (.ol q)]):=λq=>by unfold Gen.Uf;exact Ou
   rw[hv]at ih⊢;simp[e0,e1,z1,-Yd,-look];simpa[-Yd,-look]using ih
theorem Gz(xs):(Z0 xs).map Ah=xs.map D.str:=by rw[cp];rfl
theorem lone_heap(b rs w)(ok:eX w)(hr:∀r∈rs,r.length<=100)(hn:rs.length<=100):
  Gen.Q9 [Zr (Ka b w.key),w.d,.lst (rs.map Yc)]=aA (.fz (Z7 (Os b rs w))):=by
 have o:Gen.Q8 [w.d]=aA (.oK (Z0 w.at') (w.vt.map D.str)):=own_texts w.kind w.fs w.ts ok.len (by have:=ok.len;have:=ok.few;omega) ok.nk;have hl:w.at'.length=w.vt.length:=by simp[ok.len]
 have m:=marks_of w.at' w.vt rs hr hn;have c:=To w.at' w.vt (Zr (Ka b w.key)) hl w.at' [] (λx hx=>hx) (by have:=ok.few;simp;omega);have ek:=Gz w.at';have el:(Os b rs w).fs.map Y3=(w.at'.filter λf=>decide (f≠Qg)).map λf=>D.tup [.str f,.str (w.val f),.lst [Zr (Ka b w.key)]]:=by show(w.tri b).map Y3=_;unfold Wk.tri;rw[cp];rfl
 have en:(Os b rs w).ns.map Zr=[Zr (Ka b w.key)]:=rfl;have em:(Os b rs w).ms=w.marks rs:=rfl;unfold Gen.Q9 Gen.Gi Z7;rw[el,en,em];rw[d4]at c;have ev:∀f,w.val f=(Yl w.at' w.vt f).getD "":=λ_=>rfl;generalize Zr (Ka b w.key)=NM at*;generalize hM:(w.marks rs).map Zr=MS at*;generalize w.d=W at*;generalize w.at'=AT at*;generalize w.vt=VT at*;generalize VT.map D.str=TS at*;generalize Z0 AT=FS at*;simp[o,m,c,ek,s1,s3,hM,ev,-Yd,-look]
noncomputable abbrev Bk(ws:List Wk):D:=.dK (Z0 (ws.map Wk.key)) (ws.map Wk.d)
theorem Dy{ws:List Wk}(nd:(ws.map Wk.key).Nodup)(h:w∈ws):look (Z0 (ws.map Wk.key)) (ws.map Wk.d) (cw w.key)=aA w.d:=by rw[Qn];obtain⟨i,hi,rfl⟩:=dy h;exact Iz nd (by simp) i _ _ (by simp[hi]) (by simp[hi])
theorem Nc(b rs ws)(nd:(ws.map Wk.key).Nodup)(ok:∀w∈ws,eX w)(hr:∀r∈rs,r.length<=100)(hn:rs.length<=100):∀(xs:List Wk) zs,(∀x∈xs,x∈ws)->zs.length+xs.length<=1000->
  Yd [.own,.cap 2,.cap 0,.cap 1,.acc] 4 (Zd 0) W3 Gen.O5 ((xs.map Wk.key).map D.str) [aB,aA (.fz (.lst (rs.map Yc))),aA (.fz (.str b)),aA (.fz (Bk ws)),aA (.ol zs)]=
  aA [aB,aA (.fz (.lst (rs.map Yc))),aA (.fz (.str b)),aA (.fz (Bk ws)),aA (.ol (zs++(xs.map (Os b rs)).map Z7))]
 | [],zs,_,_=>by simp
 |x::xs,zs,h,hz=>by
  rw[bc]at hz;have ih:=Nc b rs ws nd ok hr hn xs (zs++[Z7 (Os b rs x)]) (λy hy=>h y (ao _ hy)) (by rw[av];simp;omega);have hx:=h x ac;have l:=Dy nd hx;have lo:Gen.Q9 [.tup [.str b,.str x.key],x.d,.lst (rs.map Yc)]=aA (.fz (Z7 (Os b rs x))):=lone_heap b rs x (ok x hx) hr hn;have z1:zs.length<PySem.sizeLine:=Z9 (by omega);rw[d7]at ih;rw[ay,ay,ay,ay];have e1:∀q,Gen.O5 [aA (.fz (.str x.key)),aA (.fz (.lst (rs.map Yc))),aA (.fz (.str b)),aA (.fz (Bk ws)),aA (.ol q)]=aA (.tmp (.fz (Z7 (Os b rs x))),[aA (.fz (.str x.key)),aA (.fz (.lst (rs.map Yc))),aA (.fz (.str b)),aA (.fz (Bk ws)),aA (.ol q)]):=λq=>by unfold Gen.O5;unfold Bk;unfold Z7 at lo⊢;exact Ou
  unfold Bk at e1 ih⊢;generalize Z7 (Os b rs x)=HH,ws.map Wk.d=WD,Z0 (ws.map Wk.key)=WK,rs.map Yc=RD at*;unfold Yd;simp[e1,z1,-Yd];simpa[-Yd]using ih
theorem tU(ok:eX w):w.at'.Nodup:=cz.mpr ⟨ok.nd,by simp,λa ha c hc e=>ok.nk (by rw[<-aj.mp hc,<-e];exact ha)⟩
theorem Fp:∀fs ts rs n,∀m∈Q3 fs ts n rs,∃(j:Nat) (l:List Str),m= .inr ((j:Int),l)/\n<=j/\∃r,rs[j- n]? =aA r/\r.mapM (Yl fs ts)=aA l
 |fs,ts,[],n,m,h=>nomatch h
 |fs,ts,r::rs,n,m,h=>by
  rw[Q3]at h;rcases bo.mp h with z|z
  .cases e:r.mapM (Yl fs ts)with
   |none=>rw[e]at z;cases z
   |some l=>rw[e]at z;exact⟨n,l,aj.mp z,bf _,r,by simp,e⟩
  .obtain⟨j,l,e,hj,r',h1,h2⟩:=Fp fs ts rs (n+1) m z;refine⟨j,l,e,by omega,r',?_,h2⟩;rw[show j- n=(j- (n+1))+1 by omega];exact h1
theorem G0:∀fs ts rs n,(Q3 fs ts n rs).length<=rs.length
 |fs,ts,[],n=>bf _
 |fs,ts,r::rs,n=>by rw[Q3,av,bc];have:=G0 fs ts rs (n+1);cases r.mapM (Yl fs ts)<;> simp<;> omega
structure Shw(rs:List (List Str))(ws:List Wk):Prop where
 nd:(ws.map Wk.key).Nodup
 ok:∀w∈ws,eX w
 few:ws.length<=40
 m64:ws.length*rs.length<64
 rl:∀r∈rs,r.length<=100
 rn:rs.length<=60
theorem iB(b w)(ok:eX w):((w.tri b).map Yh).Nodup:=by unfold Wk.tri;rw[cp];refine du.mpr (((tU ok).filter _).imp fun{x y} h e=>h ?_);have e:=Sum.inl.inj e;exact(List.cons.inj e).1
theorem xj(t):∀fs,(fs.map Yh).Nodup->(∀x∈fs,x.2.2.length=1)->Kn t fs<=1
 | [],_,_=>by simp[Kn]
 |x::fs,nd,h=>by
  obtain⟨n1,n2⟩:=eh.mp nd;have ih:=xj t fs n2 λy hy=>h y (ao _ hy);rw[B2];by_cases e:Yh x=t
  .have z:Kn t fs=0:=by
    have:∀l:List Js,t∉l.map Yh->Kn t l=0:=λl=>by
     induction l with
     |nil=>intro _;simp[Kn]
     |cons y l ih=>intro hn;rw[B2,dF λz=>hn (by rw[<-z];simp),ih λz=>hn (ao _ z)]
    exact this fs (by rw[<-e];exact n1)
   rw[dG e,z,h x ac];decide
  .rw[dF e];omega
theorem W7{α:Type}(w B):∀l:List α,(∀x∈l,w x<=B)->(l.map w).sum<=l.length*B
 | [],_=>by simp
 |x::l,h=>by have:=W7 w B l λy hy=>h y (ao _ hy);have:=h x ac;rw[ay,List.sum_cons,bc,Nat.add_mul];omega
theorem lb(b rs ws)(s:Shw rs ws)(hp:∃ps:List NK,ps.length<64/\∀w∈ws,∀x∈w.tri b,Yh x∈ps):Tot (ws.map (Os b rs)):=by
 have few:=s.few;have JK:∀w:Wk,∀x∈w.tri b,x.2.2=[Ka b w.key]:=λw x hx=>by obtain⟨f,_,rfl⟩:=ax.mp hx;rfl
 have ml:∀w:Wk,(w.marks rs).length<=rs.length:=λw=>G0 w.at' w.vt rs 0;have fl:∀w∈ws,(w.tri b).length<=11:=λw hw=>by
  unfold Wk.tri;rw[ah];have:=List.length_filter_le (λf=>decide (f≠Qg)) w.at';have h2:w.at'.length=w.fs.length+1:=by simp
  have:=(s.ok w hw).few;omega
 refine⟨⟨λh hh=>?_,λh hh k hk=>?_,λh hh k hk=>?_,λh hh x hx k hk=>?_,?_,?_,λt=>?_,by rw[ah];omega,?_,?_⟩,λh hh=>?_⟩
 .obtain⟨w,hw,rfl⟩:=ax.mp hh;have:=ml w;have:=s.rn;exact⟨by show[Ka b w.key].length<=_;simp,by show(w.marks rs).length<=_;omega,λx hx=>by rw[JK w x hx];simp⟩
 .obtain⟨w,hw,rfl⟩:=ax.mp hh;exact⟨b,[w.key],aj.mp hk⟩
 .obtain⟨w,hw,rfl⟩:=ax.mp hh;obtain⟨j,l,e,_⟩:=Fp _ _ _ _ k (show k∈w.marks rs from hk);exact⟨j,l,e⟩
 .obtain⟨w,hw,rfl⟩:=ax.mp hh;rw[JK w x hx]at hk;exact⟨b,[w.key],aj.mp hk⟩
 .rw[List.length_flatMap,cp];have:=W7 ((λh:HP=>h.ns.length)∘Os b rs) 1 ws λw _=>bf _;exact ib this (by omega)
 .rw[List.length_flatMap,cp];exact ib (W7 ((λh:HP=>h.ms.length)∘Os b rs) rs.length ws λw _=>ml w) s.m64
 .unfold tlG;rw[cp];have:=W7 ((λh:HP=>Kn t h.fs)∘Os b rs) 1 ws λw hw=>xj t (w.tri b) (iB b w (s.ok w hw)) λx hx=>by rw[JK w x hx];rfl
  exact ib this (by omega)
 .unfold Ak;rw[cp];have:=W7 ((λh:HP=>h.fs.length)∘Os b rs) 11 ws λw hw=>fl w hw;exact dm this (by omega)
 .obtain⟨ps,h1,h2⟩:=hp;refine⟨ps,h1,λt ZE=>?_⟩;obtain⟨h,hh,x,hx,e⟩:=ZE;obtain⟨w,hw,rfl⟩:=ax.mp hh;rw[e];exact h2 w hw x hx
 .obtain⟨w,hw,rfl⟩:=ax.mp hh;exact λz=>nomatch z
theorem pool_of(b rs ws)(s:Shw rs ws)(hp:∃ps:List NK,ps.length<64/\∀w∈ws,∀x∈w.tri b,Yh x∈ps):∃out,eQ (· ∈ws.map (Os b rs)) out/\(∀h∈out,eZ h)/\out.length<=ws.length/\Gen.Ja [.str b,Bk ws,.lst (rs.map Yc)]=aA (.ol (out.map Z7)):=by have c:=Nc b rs ws s.nd s.ok s.rl (by have:=s.rn;omega) ws [] (λ_ h=>h) (by have:=s.few;simp;omega);rw[d4]at c;obtain⟨out,p,ok,len,j⟩:=joined (ws.map (Os b rs)) (lb b rs ws s hp);refine⟨out,p,ok,by rw[ah]at len;exact len,?_⟩;have ek:=Gz (ws.map Wk.key);unfold Gen.Ja Gen.Tk;unfold Bk at c⊢;generalize out.map Z7=OUT,(ws.map (Os b rs)).map Z7=LH,ws.map Wk.d=WD,Z0 (ws.map Wk.key)=WK,rs.map Yc=RD,(ws.map Wk.key).map D.str=KS at*;simp[c,j,ek,-Yd]
structure Uni(U V W:List NK)(S:HP->Prop):Prop where
 ne:∀a,S a->a.ns≠[]
 ns:∀a,S a->∀k∈a.ns,k∈U/\Mz k
 ms:∀a,S a->∀k∈a.ms,k∈V/\isM k
 fs:∀a,S a->∀x∈a.fs,Yh x∈W/\∀k∈x.2.2,k∈a.ns
theorem Uni.or{V:List NK}{S:HP->Prop}(s:Uni U V W S)(t:Uni U V W T):Uni U V W λa=>S a\/T a:=
 ⟨λa h=>h.elim (s.ne a) (t.ne a),λa h=>h.elim (s.ns a) (t.ns a),λa h=>h.elim (s.ms a) (t.ms a),λa h=>h.elim (s.fs a) (t.fs a)⟩
theorem G1{V:List NK}{S}(u:Uni U V W S)(sa:S a)(m:eI (eO S a) h):h.ns≠[]/\(∀k∈h.ns,k∈U/\Mz k)/\(∀k∈h.ms,k∈V/\isM k)/\∀x∈h.fs,Yh x∈W/\∀k∈x.2.2,k∈h.ns:=by
 refine⟨λz=>?_,λk hk=>?_,λk hk=>?_,λx hx=>⟨?_,λk hk=>?_⟩⟩
 .obtain⟨k,l,ek⟩:=io (u.ne a sa);have:=(m.ns_m k).mpr ⟨a,.here sa,by rw[ek];exact ac⟩;rw[z]at this;cases this
 .obtain⟨b,c,hk⟩:=(m.ns_m k).mp hk;exact u.ns b c.right k hk
 .obtain⟨b,c,hk⟩:=(m.ms_m k).mp hk;exact u.ms b c.right k hk
 .obtain⟨b,c,l,hl⟩:=(m.fs_m x.1 x.2.1).mp ⟨x.2.2,hx⟩;exact(u.fs b c.right _ hl).1
 .obtain⟨b,c,l,hl,hk⟩:=((m.fs_l x hx).2 k).mp hk;exact(m.ns_m k).mpr ⟨b,c,(u.fs b c.right _ hl).2 k hk⟩
theorem Mu{V:List NK}{S}(u:Uni U V W S)(p:eQ S P):Uni U V W (· ∈P):=
 ⟨λh hh=>let⟨_,sa,m⟩:=p.each h hh;(G1 u sa m).1,λh hh=>let⟨_,sa,m⟩:=p.each h hh;(G1 u sa m).2.1,λh hh=>let⟨_,sa,m⟩:=p.each h hh;(G1 u sa m).2.2.1,λh hh=>let⟨_,sa,m⟩:=p.each h hh;(G1 u sa m).2.2.2⟩
theorem Fq{S}(p:eQ S P):P.Pairwise λh h'=>∀t,t∈U1 h->t∉U1 h':=by
 refine(List.Pairwise.and_mem.mp p.sorted).imp fun{h h'} ⟨hh,YM,lt⟩ t t1 t2=>?_;obtain⟨a,sa,m⟩:=p.each h hh;obtain⟨a',gB,m'⟩:=p.each h' YM;obtain⟨b,c,tb⟩:=(m.tie t).mp t1;obtain⟨b',c',wc⟩:=(m'.tie t).mp t2;have cc:eO S a a':=(eO.step c c'.right ⟨t,tb,wc⟩).trans c'.symm;have:h=h':=m.uniq m' λx=>⟨λz=>cc.symm.trans z,λz=>cc.trans z⟩
 rw[this]at lt;exact im _ lt
structure Small(u v w:Nat)(P:List HP):Prop where
 ns:(P.flatMap HP.ns).length<=u
 ms:(P.flatMap HP.ms).length<=v
 tl:∀t,tlG t P<=u
 cn:Ak P<=P.length*w
 ln:P.length<=u
 fw:∀h∈P,h.ns.length<=u/\h.ms.length<=v/\∀x∈h.fs,x.2.2.length<=u
theorem yI(t B):∀fs,(fs.map Yh).Nodup->(∀x∈fs,x.2.2.length<=B)->Kn t fs<=B
 | [],_,_=>by simp[Kn]
 |x::fs,nd,h=>by
  obtain⟨n1,n2⟩:=eh.mp nd;have ih:=yI t B fs n2 λy hy=>h y (ao _ hy);rw[B2];by_cases e:Yh x=t
  .have z:Kn t fs=0:=by
    have:∀l:List Js,t∉l.map Yh->Kn t l=0:=λl=>by
     induction l with
     |nil=>intro _;simp[Kn]
     |cons y l ih=>intro hn;rw[B2,dF λz=>hn (by rw[<-z];simp),ih λz=>hn (ao _ z)]
    exact this fs (by rw[<-e];exact n1)
   rw[dG e,z];exact h x ac
  .rw[dF e];omega
theorem BQ:∀l:List HP,(l.map λ_=>1).sum=l.length
 | []=>rfl
 |h::l=>by rw[ay,List.sum_cons,BQ l,bc];omega
theorem R5{V:List NK}{S}(u:Uni U V W S)(p:eQ S P):Small U.length V.length W.length P:=by
 have q:=Mu u p;have ap:=Fq p;have Vr:∀h∈P,h.ns.Pairwise kLt/\h.ms.Pairwise kLt/\h.fs.Pairwise tLt/\∀x∈h.fs,x.2.2.Pairwise kLt:=λh hh=>by obtain⟨a,sa,m⟩:=p.each h hh;exact⟨m.ns_s,m.ms_s,m.fs_s,λx hx=>(m.fs_l x hx).1⟩
 have IC:(P.flatMap HP.ns).Nodup:=List.pairwise_flatMap.mpr ⟨λh hh=>Jw (Vr h hh).1,ap.imp fun{h h'} z x hx y hy e=>z x (bu _ hx) (by rw[e];exact bu _ hy)⟩;have vN:(P.flatMap HP.ms).Nodup:=List.pairwise_flatMap.mpr ⟨λh hh=>Jw (Vr h hh).2.1,ap.imp fun{h h'} z x hx y hy e=>z x (bp _ hx) (by rw[e];exact bp _ hy)⟩;have DT:∀h∈P,h.ns.length<=U.length:=λh hh=>c9 (Jw (Vr h hh).1) λk hk=>(q.ns h hh k hk).1;have OK:∀h∈P,(h.fs.map Yh).Nodup:=λh hh=>du.mpr ((Vr h hh).2.2.1.imp fun{x y} lt e=>by
  have e:=Sum.inl.inj e;have e1:=(List.cons.inj e).1;have e2:=(List.cons.inj (List.cons.inj e).2).1;have:Wo x=Wo y:=by unfold Wo;rw[e1,e2]
  have lt:Wo x<Wo y:=lt;rw[this]at lt;exact im _ lt)
 have DL:∀h∈P,∀x∈h.fs,x.2.2.length<=h.ns.length:=λh hh x hx=>c9 (Jw ((Vr h hh).2.2.2 x hx)) λk hk=>(q.fs h hh x hx).2 k hk;have n1:(P.flatMap HP.ns).length<=U.length:=c9 IC λk hk=>by obtain⟨h,hh,hk⟩:=List.mem_flatMap.mp hk;exact(q.ns h hh k hk).1
 have XC:∀(w w':HP->Nat) (l:List HP),(∀h∈l,w h<=w' h)->(l.map w).sum<=(l.map w').sum:=λw w' l=>by
  induction l with
  |nil=>intro _;simp
  |cons h l ih=>intro z;have:=ih λg hg=>z g (ao _ hg);have:=z h ac;simp only[ay,List.sum_cons];omega
 refine⟨n1,c9 vN λk hk=>?_,λt=>?_,?_,?_,λh hh=>⟨DT h hh,c9 (Jw (Vr h hh).2.1) λk hk=>(q.ms h hh k hk).1,λx hx=>dm (DL h hh x hx) (DT h hh)⟩⟩
 .obtain⟨h,hh,hk⟩:=List.mem_flatMap.mp hk;exact(q.ms h hh k hk).1
 .refine dm ?_ n1;rw[List.length_flatMap];exact XC _ _ P λh hh=>yI t _ h.fs (OK h hh) (DL h hh)
 .exact W7 (λh:HP=>h.fs.length) W.length P λh hh=>by
   have:=c9 (OK h hh) (l₂:=W) λk hk=>by obtain⟨x,hx,rfl⟩:=ax.mp hk;exact(q.fs h hh x hx).1
   rw[ah]at this;exact this
 .refine dm ?_ n1;rw[List.length_flatMap];have:=XC (λ_=>1) (λh=>h.ns.length) P λh hh=>by have:=q.ne h hh;exact List.length_pos_iff.mpr this
  have e1:=BQ P;exact dm (Nat.le_of_eq e1.symm) this
def Num(x:Int):Prop:=0<=x/\x<2147483647
theorem yH(h:0<m/\m<=2147483647)(x):Num (x % m):=⟨g6 _ (by omega),Int.lt_of_lt_of_le (f7 _ h.1) h.2⟩
theorem Rh(a b):∀n s (ms:List Int) x y,(∀m∈ms,Num m)->ms.length+n<=1000->
  ∃(VL:List Int) (x':Int) (y':Option SV),Yb (Zd 4) Gen.Qu (Co s n) [a,b,aA (.ol (ms.map D.int)),aA (.fz (.int x)),y]=aA (.nx [a,b,aA (.ol (VL.map D.int)),aA (.fz (.int x')),y'])/\(∀m∈VL,Num m)/\VL.length=ms.length+n
 |0,s,ms,x,y,h,_=>⟨ms,x,y,rfl,h,rfl⟩
 |n+1,s,ms,x,y,h,hl=>by
  have z:ms.length<PySem.sizeLine:=Z9 (by omega);have hb:Gen.Qu [a,b,aA (.ol (ms.map D.int)),aA (.fz (.int x)),aA (.fz (.int (s:Int)))]=aA (.nx [a,b,aA (.ol ((ms++[x % 5040]).map D.int)),aA (.fz (.int (x / 5040))),aA (.fz (.int (s:Int)))]):=by unfold Gen.Qu;simp[z]
  obtain⟨VL,x',y',e,h1,h2⟩:=Rh a b n (s+1) (ms++[x % 5040]) (x / 5040) (aA (.fz (.int (s:Int)))) (λm hm=>by
   rcases bo.mp hm with hm|hm
   .exact h m hm
   .rw[aj.mp hm];exact yH (by decide) _) (by rw[av,fu];omega)
  refine⟨VL,x',y',(Y5 (ds:=Co (s+1) n) (by simp) hb).trans e,h1,by rw[h2,av,fu];omega⟩
theorem Ri(a b):∀n s (ms:List Int) x y,(∀m∈ms,Num m)->ms.length+n<=1000->
  ∃(VL:List Int) (x':Int) (y':Option SV),Yb (Zd 4) Gen.Qv (Co s n) [a,b,aA (.ol (ms.map D.int)),aA (.fz (.int x)),y]=aA (.nx [a,b,aA (.ol (VL.map D.int)),aA (.fz (.int x')),y'])/\(∀m∈VL,Num m)/\VL.length=ms.length+n
 |0,s,ms,x,y,h,_=>⟨ms,x,y,rfl,h,rfl⟩
 |n+1,s,ms,x,y,h,hl=>by
  have z:ms.length<PySem.sizeLine:=Z9 (by omega);have hb:Gen.Qv [a,b,aA (.ol (ms.map D.int)),aA (.fz (.int x)),aA (.fz (.int (s:Int)))]=aA (.nx [a,b,aA (.ol ((ms++[(x+(s:Int)+1)*48271 % 2147483647*69621 % 2147483629]).map D.int)),aA (.fz (.int ((x+(s:Int)+1)*48271 % 2147483647))),aA (.fz (.int (s:Int)))]):=by have hm:=Hq (i:=x+(s:Int)+1) (j:=48271) (by omega);have hm2:=Hq (i:=(x+(s:Int)+1)*48271 % 2147483647) (j:=69621) (by omega);unfold Gen.Qv;simp[hm,hm2,z]
  obtain⟨VL,x',y',e,h1,h2⟩:=Ri a b n (s+1) (ms++[(x+(s:Int)+1)*48271 % 2147483647*69621 % 2147483629]) ((x+(s:Int)+1)*48271 % 2147483647) (aA (.fz (.int (s:Int)))) (λm hm=>by
   rcases bo.mp hm with hm|hm
   .exact h m hm
   .rw[aj.mp hm];exact yH (by decide) _) (by rw[av,fu];omega)
  refine⟨VL,x',y',(Y5 (ds:=Co (s+1) n) (by simp) hb).trans e,h1,by rw[h2,av,fu];omega⟩
theorem Fs(c)(n:Nat)(h:n<=1000):∃ms:List Int,Gen.Y6 [.int c,.int (n:Int)]=aA (.ol (ms.map D.int))/\(∀m∈ms,Num m)/\ms.length=n:=by
 have g1:Ad (n:Int):=Ui (by omega);have et:((n:Int)).toNat=n:=by omega
 by_cases hc:c % 2=1
 .obtain⟨ms,x',y',e,h1,h2⟩:=Rh (aA (.fz (.int c))) (aA (.fz (.int (n:Int)))) n 0 [] (c / 2) aB (λ_ h=>nomatch h) (by simpa using h);refine⟨ms,?_,h1,by simpa using h2⟩;simp only[List.map_nil]at e;unfold Gen.Y6 Gen.J3;simp[-Yb,g1,et,Q6,e,hc]
 .obtain⟨ms,x',y',e,h1,h2⟩:=Ri (aA (.fz (.int c))) (aA (.fz (.int (n:Int)))) n 0 [] (c / 2 % 2147483647) aB (λ_ h=>nomatch h) (by simpa using h);refine⟨ms,?_,h1,by simpa using h2⟩;simp only[List.map_nil]at e;unfold Gen.Y6 Gen.J3;simp[-Yb,g1,et,Q6,e,hc]
theorem la(h:Nam w):w≠Z6:=λe=>(h.no 105 (by rw[e];decide+kernel)).1 rfl
theorem lZ(h:Nam w):w≠Qg:=λe=>(h.no 110 (by rw[e];decide+kernel)).2.1 rfl
theorem xi:Qg≠Z6:=by decide+kernel
noncomputable abbrev PS:=List (Str×Str)
noncomputable abbrev Qa(ps:PS):List L2.Key:=Z0 (ps.map (·.1))
noncomputable abbrev W0(ps:PS):List D:=(ps.map (·.2)).map D.str
noncomputable abbrev nS(n:Nat):Str:=dz (toString ((n:Nat):Int))
noncomputable abbrev ITS:Str:=dz "It's "
def itT(n:Nat):Str:=ITS++nS n
theorem qW:∀n<10,(nS n).length<=2:=by decide+kernel
theorem nA:ITS.length=5:=by decide+kernel
theorem int_at{ms:List Int}(h:j<ms.length):L2.atI (ms.map D.int) (j:Int)=aA (.int ms[j]):=Cn _ _ _ (by rw[az,ar h];rfl)
noncomputable abbrev oSt(A0 A1 A2 A3 A5 A6 A7:Option SV)(wd:Nat)(ms:List Int)(ps:PS)(YC YB:Option SV):Yy:=[A0,A1,A2,A3,aA (.fz (.int (wd:Int))),A5,A6,A7,aA (.ol (ms.map D.int)),aA (.oK (Qa ps) (W0 ps)),YC,YB]
theorem lY(A0 A1 A2 A3 A5 A6 A7 wd)(h2:2<=wd)(VG:wd<=10)(ms)(hl:ms.length=11)(ps:PS)(hp:ps.length<=10)(j:Nat)(hj:j<4)(f)(hf:f∉ps.map (·.1)):∃YE,(YE=ps\/∃n<10,YE=ps++[(f,itT n)])/\
  Gen.Ww (oSt A0 A1 A2 A3 A5 A6 A7 wd ms ps (aA (.fz (.int (j:Int)))) (aA (.fz (.str f))))=aA (.nx (oSt A0 A1 A2 A3 A5 A6 A7 wd ms YE (aA (.fz (.int (j:Int)))) (aA (.fz (.str f))))):=by
 have a1:=int_at (ms:=ms) (j:=j) (by omega);have a2:=int_at (ms:=ms) (j:=4+j) (by omega);rw[show(((4+j:Nat)):Int)=4+(j:Int) by omega]at a2;generalize ms[j]'(by omega)=x at a1;generalize ms[4+j]'(by omega)=y at a2;by_cases h:0<x % 4
 .have y0:0<=y % (wd:Int):=g6 _ (by omega);have y1:y % (wd:Int)<(wd:Int):=f7 _ (by omega);obtain⟨n,hn⟩:∃n:Nat,(n:Int)=y % (wd:Int):=⟨(y % (wd:Int)).toNat,by omega⟩
  have DY:n<10:=by omega
  refine⟨ps++[(f,itT n)],.inr ⟨n,DY,rfl⟩,?_⟩;have nl:=qW n DY;have l1:ITS.length+(nS n).length<=PySem.sizeLine:=Qt (by rw[nA];omega);have pp:Wf (Qa ps) (W0 ps) (cw f) (.str (ITS++nS n))=(Qa (ps++[(f,itT n)]),W0 (ps++[(f,itT n)])):=by unfold Qa W0 itT;rw[Of,Og hf];simp
  have z:(W0 ps).length<PySem.sizeLine:=Z9 (by simp;omega);have w0:(0:Int)<(wd:Int):=by omega
  have w1:0<wd:=by omega
  have w2:(wd:Int)<1073741824:=by omega
  have g1:((n:Nat):Int).natAbs.log2<1920:=by refine ib (Nat.log2_le_self _) ?_;omega
  have sd:PH [.int (n:Int)]=aA (.fz (.str (nS n))):=by show(if((n:Nat):Int).natAbs.log2<1920 then _ else _)=_;rw[dG g1]
  unfold Gen.Ww oSt;generalize Qa (ps++[(f,itT n)])=KK,W0 (ps++[(f,itT n)])=VV,Qa ps=KP,W0 ps=VP,ms.map D.int=MS,nS n=NS at*;simp[h,a1,a2,w0,w1,w2,<-hn,l1,sd,pp,z,-Wf,-PH]
 .refine⟨ps,.inl rfl,?_⟩;unfold Gen.Ww oSt;exact Ou
structure Own(F:List Str)(ps:PS):Prop where
 nd:(ps.map (·.1)).Nodup
 all:∀p∈ps,p.1∈F++[Qg]/\∃n<10,p.2=itT n
theorem Xe(F)(hF:F.length=3)(A0 A1 A2 A3 A5 A6 A7 wd)(h2:2<=wd)(VG:wd<=10)(ms)(hl:ms.length=11):∀xs j ps x9 YC,(ps.map (·.1)++xs).Nodup->Own F ps->j+xs.length<=4->ps.length<=j->(∀x∈xs,x∈F++[Qg])->∃YE y9 WX,Own F YE/\YE.length<=4/\
  Yb (Yz 2 (Zn (Zd 10) (Zn (Zd 11) Y1))) Gen.Ww (((xs.map D.str).zipIdx j).map λp=>D.tup [.int (p.2:Nat),p.1]) (oSt A0 A1 A2 A3 A5 A6 A7 wd ms ps x9 YC)=aA (.nx (oSt A0 A1 A2 A3 A5 A6 A7 wd ms YE y9 WX))
 | [],j,ps,x9,YC,_,ow,hj,hp,_=>⟨ps,x9,YC,ow,by simp at hj;omega,by simp⟩
 |f::xs,j,ps,x9,YC,nd,ow,hj,hp,hx=>by
  rw[bc]at hj;have hf:f∉ps.map (·.1):=λz=>(cz.mp nd).2.2 _ z f ac rfl;obtain⟨QJ,o1,t⟩:=lY A0 A1 A2 A3 A5 A6 A7 wd h2 VG ms hl ps (by omega) j (by omega) f hf;have o2:(QJ.map (·.1)++xs).Nodup/\Own F QJ/\QJ.length<=j+1:=by
   rcases o1 with z|⟨n,hn,z⟩
   .subst z;exact⟨nd.sublist (List.Sublist.append (List.Sublist.refl _) (List.sublist_cons_self _ _)),ow,by omega⟩
   .subst z;have e:(ps++[(f,itT n)]).map (·.1)=ps.map (·.1)++[f]:=by simp
    have DX:(ps.map (·.1)++[f]++xs).Nodup:=by rw[d7];exact nd
    refine⟨by rw[e];exact DX,⟨by rw[e];exact(cz.mp DX).1,λp hp'=>?_⟩,by simp;omega⟩;rcases bo.mp hp' with z|z
    .exact ow.all p z
    .rw[aj.mp z];exact⟨hx f ac,n,hn,rfl⟩
  obtain⟨YE,y9,WX,vH,l',ih⟩:=Xe F hF A0 A1 A2 A3 A5 A6 A7 wd h2 VG ms hl xs (j+1) QJ (aA (.fz (.int (j:Int)))) (aA (.fz (.str f))) o2.1 o2.2.1 (by omega) o2.2.2 λx h=>hx x (ao _ h);refine⟨YE,y9,WX,vH,l',?_⟩;rw[ay,List.zipIdx_cons,ay];unfold Yb;rw[show(Yz 2 (Zn (Zd 10) (Zn (Zd 11) Y1))).run (.tup [.int (j:Nat),.str f]) (oSt A0 A1 A2 A3 A5 A6 A7 wd ms ps x9 YC)=aA (oSt A0 A1 A2 A3 A5 A6 A7 wd ms ps (aA (.fz (.int (j:Int)))) (aA (.fz (.str f))))from by simp];dsimp only[cm];rw[t];exact ih
noncomputable abbrev IN:Str:=dz "in"
noncomputable abbrev SB:Str:=dz "Some book"
theorem qV(h:Nam w):w≠IN:=λe=>(h.no 105 (by rw[e];decide+kernel)).1 rfl
theorem zG:IN≠Z6:=by decide+kernel
theorem o_:Qg≠IN:=by decide+kernel
noncomputable abbrev wkP(key kd:Str)(ps:PS):Wk:=⟨key,kd,ps.map (·.1),ps.map (·.2)⟩
noncomputable abbrev LS:Str:=dz "book"
noncomputable abbrev LR:Str:=dz "part"
structure WP(F T:List Str)(w:Wk):Prop where
 ok:eX w
 kd:w.kind=LS\/w.kind=LR
 all:∃ps:PS,w.fs=ps.map (·.1)/\w.ts=ps.map (·.2)/\∀p∈ps,(p.1∈F++[Qg]/\∃n<10,p.2=itT n)\/(p.1=IN/\p.2∈T)
theorem o9(i):∃kd,(kd=LS\/kd=LR)/\L2.atI [D.str LS,D.str LR] (i % 2)=aA (.str kd):=by
 have:i % 2=0\/i % 2=1:=by omega
 rcases this with h|h<;> rw[h]
 .exact⟨_,.inl rfl,rfl⟩
 .exact⟨_,.inr rfl,rfl⟩
theorem qU{xs:List Str}(h:n<xs.length):L2.atI (xs.map D.str) (n:Int)=aA (.str xs[n]):=Cn _ _ _ (by rw[az,ar h];rfl)
noncomputable abbrev BW:=Str×Wk
noncomputable abbrev Wu(p:BW):List L2.Key:=[cw p.1,cw p.2.key]
noncomputable abbrev Rj(p:BW):D:=p.2.d
noncomputable abbrev sSt(bs ks F:List Str)(cs:List Int)(wd:Nat)(P:List BW)(x6 x7 x8 x9 YC YB:Option SV):Yy:=[aA (.fz (.lst (bs.map D.str))),aA (.fz (.lst (ks.map D.str))),aA (.fz (.lst (F.map D.str))),aA (.fz (.lst (cs.map D.int))),aA (.fz (.int (wd:Int))),aA (.oT (P.map Wu) (P.map Rj)),x6,x7,x8,x9,YC,YB]
theorem Dz(bs ks F)(hb:bs.length=3)(hk:ks.length=4)(hF:F.length=3)(nF:F.Nodup)(hN:∀f∈F,Nam f)(cs wd)(h2:2<=wd)(VG:wd<=10)(P)(k:Nat)(gN:k<12)(c b key)(eb:bs[k % 3]? =aA b)(ek:ks[k / 3]? =aA key)(fresh:([cw b,cw key]:List L2.Key)∉P.map Wu)(hP:P.length<=100)(x8 x9 YC YB):∃w y8 y9 WX YX,w.key=key/\WP F (ks++[SB]) w/\
  Gen.Wx (sSt bs ks F cs wd P (aA (.fz (.int (k:Int)))) (aA (.fz (.int c))) x8 x9 YC YB)=aA (.nx (sSt bs ks F cs wd (P++[(b,w)]) (aA (.fz (.int (k:Int)))) (aA (.fz (.int c))) y8 y9 WX YX)):=by
 obtain⟨ms,en,hm,ml⟩:=Fs c 11 (by omega);have IC:(F++[Qg]).Nodup:=cz.mpr ⟨nF,by simp,λa ha b hb e=>lZ (hN a ha) (by rw[e];exact aj.mp hb)⟩;obtain⟨ps,WX,YX,ow,pl,lo⟩:=Xe F hF (aA (.fz (.lst (bs.map D.str)))) (aA (.fz (.lst (ks.map D.str)))) (aA (.fz (.lst (F.map D.str)))) (aA (.fz (.lst (cs.map D.int)))) (aA (.oT (P.map Wu) (P.map Rj))) (aA (.fz (.int (k:Int)))) (aA (.fz (.int c))) wd h2 VG ms ml (F++[Qg]) 0 [] YC YB (by simpa using IC) ⟨by simp,λ_ z=>nomatch z⟩ (by simp;omega) (by simp) (λ_ h=>h);rw[show((((F++[Qg]).map D.str).zipIdx 0).map λp=>D.tup [.int (p.2:Nat),p.1])=Qb ((F++[Qg]).map D.str)from rfl,b8]at lo;have lo:Yb (Yz 2 (Zn (Zd 10) (Zn (Zd 11) Y1))) Gen.Ww (Qb (F.map D.str++[D.str Qg])) _=_:=lo;have zF:(F.map D.str).length+1<=PySem.sizeLine:=Qt (by rw[ah];omega);have zK:(ks.map D.str).length+1<=PySem.sizeLine:=Qt (by rw[ah];omega);have a8:=int_at (ms:=ms) (j:=8) (by omega);have a9:=int_at (ms:=ms) (j:=9) (by omega);have a10:=int_at (ms:=ms) (j:=10) (by omega);generalize ms[8]'(by omega)=x at a8;generalize ms[9]'(by omega)=y at a9;generalize ms[10]'(by omega)=z at a10;obtain⟨kd,CO,ak⟩:=o9 z;have zw:(P.map Rj).length<PySem.sizeLine:=Z9 (by rw[ah];omega);have ab:L2.atI (bs.map D.str) ((k:Int) % 3)=aA (.str b):=by rw[show(k:Int) % 3=((k % 3:Nat):Int) by omega];exact Cn _ _ _ (by rw[az,eb];rfl)
 have gR:L2.atI (ks.map D.str) ((k:Int) / 3)=aA (.str key):=by rw[show(k:Int) / 3=((k / 3:Nat):Int) by omega];exact Cn _ _ _ (by rw[az,ek];rfl)
 have fin:∀OE:PS,Wf (P.map Wu) (P.map Rj) [cw b,cw key] (.tup [.str kd,.dK (Qa OE) (W0 OE)])=((P++[(b,wkP key kd OE)]).map Wu,(P++[(b,wkP key kd OE)]).map Rj):=λOE=>by unfold Wf;rw[dF fresh];simp[Wk.d,Na]
 have en:Gen.Y6 [.int c,.int 11]=_:=en;have a8:L2.atI (ms.map D.int) 8=_:=a8;have a9:L2.atI (ms.map D.int) 9=_:=a9;have a10:L2.atI (ms.map D.int) 10=_:=a10;have TJ:IN∉ps.map (·.1):=λz=>by
  obtain⟨p,hp,e⟩:=ax.mp z;have:=(ow.all p hp).1;rw[e]at this;rcases bo.mp this with z|z
  .exact qV (hN _ z) rfl
  .exact o_ (aj.mp z).symm
 have VJ:∀qs:PS,(∀p∈qs,p∈ps\/p.1=IN)->Z6∉qs.map (·.1):=λqs hq z=>by
  obtain⟨p,hp,e⟩:=ax.mp z;rcases hq p hp with h|h
  .have:=(ow.all p h).1;rw[e]at this;rcases bo.mp this with z|z
   .exact la (hN _ z) rfl
   .exact xi (aj.mp z).symm
  .rw[e]at h;exact zG h.symm
 by_cases hx:0<x % 4
 .have y0:0<=y % 5:=g6 _ (by decide);have y1:y % 5<5:=f7 _ (by decide);obtain⟨n,hn⟩:∃n:Nat,(n:Int)=y % 5:=⟨(y % 5).toNat,by omega⟩
  have tl:(ks++[SB]).length=5:=by simp[hk]
  have um:L2.atI (ks.map D.str++[D.str SB]) (y % 5)=aA (.str ((ks++[SB])[n]'(by omega))):=by rw[<-hn,show ks.map D.str++[D.str SB]=(ks++[SB]).map D.str by simp];exact qU (by omega)
  have tm:(ks++[SB])[n]'(by omega)∈ks++[SB]:=gz _;generalize (ks++[SB])[n]'(by omega)=t at um tm;have pp:Wf (Qa ps) (W0 ps) (cw IN) (.str t)=(Qa (ps++[(IN,t)]),W0 (ps++[(IN,t)])):=by unfold Qa W0;rw[Of,Og TJ];simp
  have zp:(W0 ps).length<PySem.sizeLine:=Z9 (by simp;omega);have f:=fin (ps++[(IN,t)]);have em:(ps++[(IN,t)]).map (·.1)=ps.map (·.1)++[IN]:=by simp
  refine⟨wkP key kd (ps++[(IN,t)]),aA (.ol (ms.map D.int)),aA (.fz (.dK (Qa (ps++[(IN,t)])) (W0 (ps++[(IN,t)])))),WX,YX,rfl,⟨⟨by simp,?_,by simp;omega,VJ _ λp hp=>?_⟩,CO,ps++[(IN,t)],rfl,rfl,λp hp=>?_⟩,?_⟩
  .show((ps++[(IN,t)]).map (·.1)).Nodup;rw[em];exact cz.mpr ⟨ow.nd,by simp,λa ha c hc e=>TJ (by rw[<-aj.mp hc,<-e];exact ha)⟩
  .rcases bo.mp hp with h|h
   .exact .inl h
   .rw[aj.mp h];exact .inr rfl
  .rcases bo.mp hp with h|h
   .exact .inl (ow.all p h)
   .rw[aj.mp h];exact .inr ⟨rfl,tm⟩
  .unfold Gen.Wx sSt;unfold oSt at lo;rw[show Qa ([]:PS)=[]from rfl,show W0 ([]:PS)=[]from rfl]at lo;exact Ou
 .have f:=fin ps;refine⟨wkP key kd ps,aA (.ol (ms.map D.int)),aA (.fz (.dK (Qa ps) (W0 ps))),WX,YX,rfl,⟨⟨by simp,ow.nd,by simp;omega,VJ _ λp hp=>.inl hp⟩,CO,ps,rfl,rfl,λp hp=>.inl (ow.all p hp)⟩,?_⟩;unfold Gen.Wx sSt;unfold oSt at lo;rw[show Qa ([]:PS)=[]from rfl,show W0 ([]:PS)=[]from rfl]at lo;exact Ou
structure Wks(bs ks F:List Str)(k:Nat)(P:List BW):Prop where
 len:P.length=k
 at':∀i p,P[i]? =aA p->bs[i % 3]? =aA p.1/\ks[i / 3]? =aA p.2.key
 ok:∀p∈P,WP F (ks++[SB]) p.2
theorem KM{xs:List Str}(nd:xs.Nodup){i:Nat}(h1:xs[i]? =aA x)(h2:xs[j]? =aA x):i=j:=by obtain⟨a,ha⟩:=aw.mp h1;obtain⟨b,hb⟩:=aw.mp h2;exact(List.getElem_inj nd).mp (ha.trans hb.symm)
theorem Wks.inj(nb:bs.Nodup)(nk:ks.Nodup)(s:Wks bs ks F k P){i:Nat}(hi:P[i]? =aA p)(hj:P[j]? =aA q)(e1:p.1=q.1)(e2:p.2.key=q.2.key):i=j:=by obtain⟨a1,a2⟩:=s.at' i p hi;obtain⟨b1,b2⟩:=s.at' j q hj;rw[<-e1]at b1;rw[<-e2]at b2;have:=KM nb a1 b1;have:=KM nk a2 b2;omega
theorem Ft(bs ks F)(hb:bs.length=3)(nb:bs.Nodup)(hk:ks.length=4)(nk:ks.Nodup)(hF:F.length=3)(nF:F.Nodup)(hN:∀f∈F,Nam f)(CS wd)(h2:2<=wd)(VG:wd<=10):∀(cs:List Int) k P x6 x7 x8 x9 YC YB,k+cs.length<=12->Wks bs ks F k P->∃(P':List BW) (y6 y7 y8 y9 WX YX:Option SV),Wks bs ks F (k+cs.length) P'/\
  Yb (Yz 2 (Zn (Zd 6) (Zn (Zd 7) Y1))) Gen.Wx (((cs.map D.int).zipIdx k).map λp=>D.tup [.int (p.2:Nat),p.1]) (sSt bs ks F CS wd P x6 x7 x8 x9 YC YB)=aA (.nx (sSt bs ks F CS wd P' y6 y7 y8 y9 WX YX))
 | [],k,P,x6,x7,x8,x9,YC,YB,_,s=>⟨P,x6,x7,x8,x9,YC,YB,s,by simp⟩
 |c::cs,k,P,x6,x7,x8,x9,YC,YB,hl,s=>by
  rw[bc]at hl;have eb:bs[k % 3]? =aA (bs[k % 3]'(by omega)):=ar _;have ek:ks[k / 3]? =aA (ks[k / 3]'(by omega)):=ar _;generalize bs[k % 3]'(by omega)=b at eb;generalize ks[k / 3]'(by omega)=key at ek;have fresh:([cw b,cw key]:List L2.Key)∉P.map Wu:=λz=>by obtain⟨p,hp,e⟩:=ax.mp z;obtain⟨i,hi,rfl⟩:=dy hp;simp at e;obtain⟨a1,a2⟩:=s.at' i _ (ar hi);rw[e.1]at a1;rw[e.2]at a2;have:=KM nb a1 eb;have:=KM nk a2 ek;have:=s.len;omega
  obtain⟨w,z8,z9,wV,DH,ew,wp,t⟩:=Dz bs ks F hb hk hF nF hN CS wd h2 VG P k (by omega) c b key eb ek fresh (by have:=s.len;omega) x8 x9 YC YB;have s':Wks bs ks F (k+1) (P++[(b,w)]):=⟨by rw[av,s.len];rfl,λi p hp=>by
   rcases dv i P.length with z|z
   .rw[ci z]at hp;exact s.at' i p hp
   .rw[dr z]at hp;have:i- P.length=0:=by
     rcases Nat.eq_zero_or_pos (i- P.length)with q|q
     .exact q
     .rw[d3 (by simp;omega)]at hp;cases hp
    rw[this]at hp;cases hp;have:i=k:=by have:=s.len;omega
    rw[this];exact⟨eb,by rw[ew];exact ek⟩,λp hp=>by
   rcases bo.mp hp with z|z
   .exact s.ok p z
   .rw[aj.mp z];exact wp⟩
  obtain⟨P',y6,y7,y8,y9,WX,YX,u,ih⟩:=Ft bs ks F hb nb hk nk hF nF hN CS wd h2 VG cs (k+1) (P++[(b,w)]) (aA (.fz (.int (k:Int)))) (aA (.fz (.int c))) z8 z9 wV DH (by omega) s';refine⟨P',y6,y7,y8,y9,WX,YX,by rw[bc,show k+(cs.length+1)=k+1+cs.length by omega];exact u,?_⟩;rw[ay,List.zipIdx_cons,ay];unfold Yb;rw[show(Yz 2 (Zn (Zd 6) (Zn (Zd 7) Y1))).run (.tup [.int (k:Nat),.int c]) (sSt bs ks F CS wd P x6 x7 x8 x9 YC YB)=aA (sSt bs ks F CS wd P (aA (.fz (.int (k:Int)))) (aA (.fz (.int c))) x8 x9 YC YB)from by simp];dsimp only[cm];rw[t];exact ih
theorem iA(bs ks F)(hb:bs.length=3)(nb:bs.Nodup)(hk:ks.length=4)(nk:ks.Nodup)(hF:F.length=3)(nF:F.Nodup)(hN:∀f∈F,Nam f)(cs:List Int)(hc:cs.length<=12)(wd:Nat)(h2:2<=wd)(VG:wd<=10):∃P,Wks bs ks F cs.length P/\
  Gen.Um [.lst (bs.map D.str),.lst (ks.map D.str),.lst (F.map D.str),.lst (cs.map D.int),.int (wd:Int)]=aA (.oT (P.map Wu) (P.map Rj)):=by
 obtain⟨P,y6,y7,y8,y9,WX,YX,s,l⟩:=Ft bs ks F hb nb hk nk hF nF hN cs wd h2 VG cs 0 [] aB aB aB aB aB aB (by omega) ⟨rfl,λi p h=>by simp at h,λ_ h=>nomatch h⟩;rw[Nat.zero_add]at s;refine⟨P,s,?_⟩;rw[show(((cs.map D.int).zipIdx 0).map λp=>D.tup [.int (p.2:Nat),p.1])=Qb (cs.map D.int)from rfl]at l;unfold sSt at l;have l:Yb (Yz 2 (Zn (Zd 6) (Zn (Zd 7) Y1))) Gen.Wx (Qb (cs.map D.int)) [aA (.fz (.lst (bs.map D.str))),aA (.fz (.lst (ks.map D.str))),aA (.fz (.lst (F.map D.str))),aA (.fz (.lst (cs.map D.int))),aA (.fz (.int (wd:Int))),aA (.oT [] []),aB,aB,aB,aB,aB,aB]=_:=l;unfold Gen.Um Gen.Gb;exact Ou
theorem Nd(F:List Str)(hF:F.length=3)(A1 A3)(ms:List Int)(hl:ms.length=10)(k:Nat)(hk:k<=2):∀n s (r:List Str) x6,s+n<=2->r.length=s->∃(r':List Str) (y6:Option SV),r'.length=s+n/\
  Yb (Zd 6) Gen.Ua (Co s n) [aA (.fz (.lst (F.map D.str))),A1,aA (.ol (ms.map D.int)),A3,aA (.fz (.int (k:Int))),aA (.ol (r.map D.str)),x6]=aA (.nx [aA (.fz (.lst (F.map D.str))),A1,aA (.ol (ms.map D.int)),A3,aA (.fz (.int (k:Int))),aA (.ol (r'.map D.str)),y6])
 |0,s,r,x6,_,hr=>⟨r,x6,by omega,rfl⟩
 |n+1,s,r,x6,hs,hr=>by
  have a:=int_at (ms:=ms) (j:=2+3*k+s) (by omega);rw[show((2+3*k+s:Nat):Int)=2+3*(k:Int)+(s:Int) by omega]at a;generalize ms[2+3*k+s]'(by omega)=y at a;have m:=Hr (i:=3) (j:=(k:Int)) (by omega);have y0:0<=y % 4:=g6 _ (by decide);have y1:y % 4<4:=f7 _ (by decide);obtain⟨i,hi⟩:∃i:Nat,(i:Int)=y % 4:=⟨(y % 4).toNat,by omega⟩
  have fl:(F++[Z6]).length=4:=by simp[hF]
  have BO:L2.atI (F.map D.str++[D.str Z6]) (y % 4)=aA (.str ((F++[Z6])[i]'(by omega))):=by
   rw[<-hi];have e:F.map D.str++[D.str Z6]=(F++[Z6]).map D.str:=by simp
   rw[e];exact Cn _ _ _ (by rw[az,ar (by omega)];rfl)
  generalize (F++[Z6])[i]'(by omega)=f at BO;have zF:(F.map D.str).length+1<=PySem.sizeLine:=Qt (by rw[ah];omega);have zr:r.length<PySem.sizeLine:=Z9 (by omega);obtain⟨r',y6,l',ih⟩:=Nd F hF A1 A3 ms hl k hk n (s+1) (r++[f]) (aA (.fz (.int (s:Int)))) (by omega) (by simp[hr]);refine⟨r',y6,by omega,?_⟩;have hb:Gen.Ua [aA (.fz (.lst (F.map D.str))),A1,aA (.ol (ms.map D.int)),A3,aA (.fz (.int (k:Int))),aA (.ol (r.map D.str)),aA (.fz (.int (s:Int)))]=aA (.nx [aA (.fz (.lst (F.map D.str))),A1,aA (.ol (ms.map D.int)),A3,aA (.fz (.int (k:Int))),aA (.ol ((r++[f]).map D.str)),aA (.fz (.int (s:Int)))]):=by unfold Gen.Ua;generalize F.map D.str=FD,ms.map D.int=MS at*;simp[a,m,BO,zF,zr,s1]
  exact(Y5 (ds:=Co (s+1) n) (by simp) hb).trans ih
theorem Fu(F:List Str)(hF:F.length=3)(A1)(ms:List Int)(hl:ms.length=10):∀n s (rs:List (List Str)) x4 x5 x6,s+n<=3->rs.length=s->(∀r∈rs,r.length<=3)->∃(S_:List (List Str)) (y4 y5 y6:Option SV),S_.length=s+n/\(∀r∈S_,r.length<=3)/\
  Yb (Zd 4) Gen.Ub (Co s n) [aA (.fz (.lst (F.map D.str))),A1,aA (.ol (ms.map D.int)),aA (.ol (rs.map Yc)),x4,x5,x6]=aA (.nx [aA (.fz (.lst (F.map D.str))),A1,aA (.ol (ms.map D.int)),aA (.ol (S_.map Yc)),y4,y5,y6])
 |0,s,rs,x4,x5,x6,_,hr,h3=>⟨rs,x4,x5,x6,by omega,h3,rfl⟩
 |n+1,s,rs,x4,x5,x6,hs,hr,h3=>by
  have a:=int_at (ms:=ms) (j:=1+3*s) (by omega);rw[show((1+3*s:Nat):Int)=1+3*(s:Int) by omega]at a;generalize ms[1+3*s]'(by omega)=y at a;have m:=Hr (i:=3) (j:=(s:Int)) (by omega);have y0:0<=y % 2:=g6 _ (by decide);have y1:y % 2<2:=f7 _ (by decide);obtain⟨q,hq⟩:∃q:Nat,(q:Int)=1+y % 2:=⟨(1+y % 2).toNat,by omega⟩
  obtain⟨r,z6,rl,e⟩:=Nd F hF A1 (aA (.ol (rs.map Yc))) ms hl s (by omega) q 0 [] x6 (by omega) rfl;have g1:Ad (q:Int):=Ui (by omega);have et:((q:Int)).toNat=q:=by omega
  have zr:rs.length<PySem.sizeLine:=Z9 (by omega);obtain⟨S_,y4,y5,y6,l',uT,ih⟩:=Fu F hF A1 ms hl n (s+1) (rs++[r]) (aA (.fz (.int (s:Int)))) (aA (.fz (.lst (r.map D.str)))) z6 (by omega) (by simp[hr]) (λv hv=>by
   rcases bo.mp hv with z|z
   .exact h3 v z
   .rw[aj.mp z,rl];omega)
  refine⟨S_,y4,y5,y6,by omega,uT,?_⟩;have hb:Gen.Ub [aA (.fz (.lst (F.map D.str))),A1,aA (.ol (ms.map D.int)),aA (.ol (rs.map Yc)),aA (.fz (.int (s:Int))),x5,x6]=aA (.nx [aA (.fz (.lst (F.map D.str))),A1,aA (.ol (ms.map D.int)),aA (.ol ((rs++[r]).map Yc)),aA (.fz (.int (s:Int))),aA (.fz (.lst (r.map D.str))),z6]):=by rw[List.map_nil]at e;unfold Gen.Ub;generalize F.map D.str=FD,ms.map D.int=MS at*;simp[a,m,<-hq,g1,et,Q6,e,zr,-Yb]
  exact(Y5 (ds:=Co (s+1) n) (by simp) hb).trans ih
theorem j_(F:List Str)(hF:F.length=3)(c):∃rs:List (List Str),rs.length<=3/\(∀r∈rs,r.length<=3)/\Gen.Ul [.lst (F.map D.str),.int c]=aA (.ol (rs.map Yc)):=by
 obtain⟨ms,en,hm,ml⟩:=Fs c 10 (by omega);have a:=int_at (ms:=ms) (j:=0) (by omega);generalize ms[0]'(by omega)=y at a;have y0:0<=y % 4:=g6 _ (by decide);have y1:y % 4<4:=f7 _ (by decide);obtain⟨q,hq⟩:∃q:Nat,(q:Int)=y % 4:=⟨(y % 4).toNat,by omega⟩
 obtain⟨rs,y4,y5,y6,rl,h3,e⟩:=Fu F hF (aA (.fz (.int c))) ms ml q 0 [] aB aB aB (by omega) rfl (λ_ h=>nomatch h);have g1:Ad (q:Int):=Ui (by omega);have et:((q:Int)).toNat=q:=by omega
 refine⟨rs,by omega,h3,?_⟩;rw[List.map_nil]at e;have en:Gen.Y6 [.int c,.int 10]=_:=en;have a:L2.atI (ms.map D.int) 0=_:=a;unfold Gen.Ul Gen.Ga;generalize F.map D.str=FD,ms.map D.int=MS at*;simp[en,a,<-hq,g1,et,Q6,e,-Yb]
noncomputable def bt(b t:Js):Bool:=decide (b.2.2.length<t.2.2.length)|| (decide (t.2.2.length=b.2.2.length)&&decide (t.2.1.cps.toList<b.2.1.cps.toList))
noncomputable def nxt(o:Option Js)(t:Js):Option Js:=match o with
 |none=>aA t
 |some b=>aA (if bt b t=aC then t else b)
def fd(o:Option Js)(l:List Js):Option Js:=l.foldl nxt o
noncomputable abbrev Xf(t:Js):D:=.tup [.int (-(t.2.2.length:Int)),.str t.2.1]
theorem tT(t b):L2.Ji 16 (Xf t) (Xf b)=aA (bt b t):=by
 obtain⟨_,v,l⟩:=t;obtain⟨_,u,m⟩:=b;unfold bt;simp only[Xf];by_cases h1:l.length=m.length
 .rw[h1];by_cases h2:v=u
  .subst h2;have i:=im v.cps.toList;simp
  .simp[h2]
 .have QX:¬(-(l.length:Int)=-(m.length:Int)):=by omega
  have h2:(-(l.length:Int)< -(m.length:Int))↔m.length<l.length:=by omega
  have h3:¬((l.length:Int)=(m.length:Int)):=by omega
  simp[h1,h3]
theorem D2:∀r pre b tb,pre[b]? =aA tb->∃m z,L2.Ro (L2.Ji 16) b (Xf tb) (r.map Xf) pre.length=aA m/\fd (aA tb) r=aA z/\(pre++r)[m]? =aA z
 | [],pre,b,tb,h=>⟨b,tb,rfl,rfl,by rw[List.append_nil];exact h⟩
 |t::r,pre,b,tb,h=>by
  rw[ay];show∃m z,((L2.Ji 16 (Xf t) (Xf tb)).bind λc=>if c=aC then L2.Ro (L2.Ji 16) pre.length (Xf t) (r.map Xf) (pre.length+1)else L2.Ro (L2.Ji 16) b (Xf tb) (r.map Xf) (pre.length+1))=aA m/\fd (nxt (aA tb) t) r=aA z/\(pre++t::r)[m]? =aA z;rw[tT,cm,show pre++t::r=(pre++[t])++r by simp,show pre.length+1=(pre++[t]).length by simp];have hb:b<pre.length:=(aw.mp h).1;rw[show nxt (aA tb) t=aA (if bt tb t=aC then t else tb)from rfl];cases hc:bt tb t with
  |true=>obtain⟨m,z,h1,h2,h3⟩:=D2 r (pre++[t]) pre.length t (by simp);exact⟨m,z,h1,(by rw[dG rfl];exact h2),h3⟩
  |false=>obtain⟨m,z,h1,h2,h3⟩:=D2 r (pre++[t]) b tb (by rw[ci hb];exact h);exact⟨m,z,h1,(by rw[dF (by decide)];exact h2),h3⟩
noncomputable def oTr:Option Js->D
 |none=>.non
 |some t=>Y3 t
theorem o8(l):∃m,L2.Q_ (L2.Ji 16) (l.map Xf)=aA m/\((m.map λi=>(l.map Y3).getD i .non).getD .non)=oTr (fd aB l):=by
 cases l with
 |nil=>exact⟨aB,rfl,rfl⟩
 |cons t r=>
  obtain⟨m,z,h1,h2,h3⟩:=D2 r [t] 0 t rfl;refine⟨aA m,?_,?_⟩
  .rw[ay];show(L2.Ro (L2.Ji 16) 0 (Xf t) (r.map Xf) 1).bind _=_;rw[show(1:Nat)=[t].length from rfl,h1];rfl
  .have:fd aB (t::r)=aA z:=h2;rw[this];show((t::r).map Y3).getD m .non=Y3 z;rw[bg,az];have h3:(t::r)[m]? =aA z:=h3;rw[h3];rfl
abbrev LB:FE:=tupF (Zl (unF PN (Yq Ew (Zc (Zj W8 (Za 0) (Zf (.int 2))) Zi))) (Zl (Zj W8 (Za 0) (Zf (.int 1))) (Zt)))
theorem Xg:∀l:List Js,(∀t∈l,t.2.2.length<=36)->L2.T2 LB [] (l.map Y3)=aA (l.map Xf)
 | [],_=>rfl
 |t::l,h=>by
  have ih:=Xg l λx hx=>h x (ao _ hx);have k1:L2.PB LB [] (Y3 t)=aA (Xf t):=by have z2:2<=PySem.sizeLine:=Qt (by omega);simp[z2,L2.atI,L2.ixN]
  rw[ay,ay];show(L2.PB LB [] (Y3 t)).bind (λk=>(L2.T2 LB [] (l.map Y3)).bind λks=>aA (k::ks))=_;rw[k1,ih];rfl
noncomputable def EG(f:Str):D->Option D
 | .tup [.str a,b,c]=>if a=f then aA (.tup [.str a,b,c])else aB
 |_=>aB
theorem xh(f):∀ts:List Js,(ts.map Y3).filterMap (EG f)=(ts.filter λt=>decide (t.1=f)).map Y3
 | []=>rfl
 |t::ts=>by
  have ih:=xh f ts;by_cases h:t.1=f
  .rw[ay,List.filterMap_cons_some (b:=Y3 t) (by show(if t.1=f then _ else _)=_;rw[dG h]),List.filter_cons_of_pos (by simpa using h),ay,ih]
  .rw[ay,List.filterMap_cons_none (by show(if t.1=f then _ else _)=_;rw[dF h]),List.filter_cons_of_neg (by simpa using h),ih]
theorem Nf(nms mks)(ts:List Js)(hl:ts.length<=100)(ht:∀t∈ts,t.2.2.length<=36)(f):Gen.Wl [.tup [.lst nms,.lst mks,.lst (ts.map Y3)],.str f]=aA (.fz (oTr (fd aB (ts.filter λt=>decide (t.1=f))))):=by
 have hc:=xK (src:=[.own,.cap 1,.acc]) (k:=2) (g:=Zd 0) (tt:=Gen.Qw) (te:=Gen.Qx) (st:=λys=>[aB,aA (.fz (.str f)),aA (.ol ys)]) (f:=EG f) (ts.map Y3) [] (λd hd zs QB hz=>by
  obtain⟨t,_,rfl⟩:=ax.mp hd;unfold EG
  conv=>lhs;rw[Yd]
  by_cases h:t.1=f
  .subst h;simp[-Yd,Gen.Qw,Gen.Qx,hz,L2.atI,L2.ixN]
  .simp[-Yd,Gen.Qw,Gen.Qx,h,hz,L2.atI,L2.ixN]) (by simp;omega)
 rw[xh,d4]at hc;have hk:=Xg (ts.filter λt=>decide (t.1=f)) λt h=>ht t ((List.mem_filter.mp h).1);obtain⟨m,hm,ho⟩:=o8 (ts.filter λt=>decide (t.1=f));generalize (ts.filter λt=>decide (t.1=f))=FL at*;unfold LB at hk;generalize FL.map Y3=FT,FL.map Xf=FK,ts.map Y3=TTT at*;unfold Gen.Wl Gen.Bh;generalize (tupF (Zl (unF PN (Yq Ew (Zc (Zj W8 (Za 0) (Zf (.int 2))) Zi))) (Zl (Zj W8 (Za 0) (Zf (.int 1))) (Zt))))=LBB at*;have v4:L2.AC LBB [] (.lst FT) [aA (.fz (.tup [.lst nms,.lst mks,.lst TTT])),aA (.fz (.str f)),aA (.fz (.lst FT))]=aA (.tmp (.fz (oTr (fd aB FL))),[aA (.fz (.tup [.lst nms,.lst mks,.lst TTT])),aA (.fz (.str f)),aA (.fz (.lst FT))]):=by simp[-L2.T2,-L2.Q_,-L2.Ji,-bg,hk,hm,ho]
 exact Ou
noncomputable def dV:Option Js->D
 |none=>.non
 |some t=>.str t.2.1
theorem lX(nms mks)(ts:List Js)(hl:ts.length<=100)(ht:∀t∈ts,t.2.2.length<=36)(f):Gen.O4 [.tup [.lst nms,.lst mks,.lst (ts.map Y3)],.str f]=aA (.fz (dV (fd aB (ts.filter λt=>decide (t.1=f))))):=by
 have e:=Nf nms mks ts hl ht f;generalize (fd aB (ts.filter λt=>decide (t.1=f)))=o,D.tup [.lst nms,.lst mks,.lst (ts.map Y3)]=HD at*;cases o with
 |none=>unfold oTr at e;unfold dV Gen.O4 Gen.Aw;exact Ou
 |some t=>unfold oTr at e;unfold dV Gen.O4 Gen.Aw;exact Ou
theorem xf:∀l b,∃z,fd (aA b) l=aA z/\(z=b\/z∈l)/\∀t,(t=b\/t∈l)->t.2.2.length<=z.2.2.length
 | [],b=>⟨b,rfl,.inl rfl,λt h=>by rcases h with rfl|h;exact bf _;exact nomatch h⟩
 |t::l,b=>by
  obtain⟨z,e,hm,hx⟩:=xf l (if bt b t=aC then t else b);refine⟨z,e,?_,λu hu=>?_⟩
  .rcases hm with h|h
   .by_cases c:bt b t=aC
    .rw[dG c]at h;rw[h];exact .inr ac
    .rw[dF c]at h;exact .inl h
   .exact .inr (ao _ h)
  .have h0:=hx _ (.inl rfl);have DK:b.2.2.length<=(if bt b t=aC then t else b).2.2.length/\t.2.2.length<=(if bt b t=aC then t else b).2.2.length:=by
    unfold bt;by_cases c1:b.2.2.length<t.2.2.length
    .simp[c1];omega
    .by_cases c2:t.2.2.length=b.2.2.length
     .split<;> simp<;> omega
     .simp[c1,c2];omega
   rcases hu with rfl|hu
   .exact dm DK.1 h0
   .rcases b7.mp hu with rfl|hu
    .exact dm DK.2 h0
    .exact hx u (.inr hu)
structure Best(h:HP)(f:Str)(z:Js):Prop where
 mem:z∈h.fs
 fld:z.1=f
 max:∀t∈h.fs,t.1=f->t.2.2.length<=z.2.2.length
structure FewT(h:HP):Prop where
 fs:h.fs.length<=100
 tl:∀t∈h.fs,t.2.2.length<=36
theorem xc(h f)(hx:∃t∈h.fs,t.1=f):∃z,fd aB (h.fs.filter λt=>decide (t.1=f))=aA z/\Best h f z:=by
 have mm:∀t,t∈h.fs.filter (λt=>decide (t.1=f))↔t∈h.fs/\t.1=f:=λt=>by rw[List.mem_filter];simp
 generalize h.fs.filter (λt=>decide (t.1=f))=l at mm;cases l with
 |nil=>obtain⟨t,h1,h2⟩:=hx;exact nomatch (mm t).mpr ⟨h1,h2⟩
 |cons b l=>
  obtain⟨z,e,hm,hz⟩:=xf l b;have TN:z∈b::l:=by rcases hm with rfl|h;exact ac;exact ao _ h
  exact⟨z,e,((mm z).mp TN).1,((mm z).mp TN).2,λt h1 h2=>hz t (b7.mp ((mm t).mpr ⟨h1,h2⟩))⟩
theorem Fv(h)(s:FewT h)(f)(hx:∃t∈h.fs,t.1=f):∃z,Best h f z/\Gen.O4 [Z7 h,.str f]=aA (.fz (.str z.2.1)):=by obtain⟨z,e,b⟩:=xc h f hx;exact⟨z,b,by rw[lX _ _ _ s.fs s.tl f,e];rfl⟩
theorem Tp(A0):∀(xs U:List Str) x2,U.Nodup->U.length+xs.length<=900->∃U' y2,U'.Nodup/\(∀x,x∈U'↔x∈U\/x∈xs)/\U'.length<=U.length+xs.length/\
  Yb (Zd 2) Gen.Wy (xs.map D.str) [A0,aA (.oK (Z0 U) (U.map λ_=>.bl aC)),x2]=aA (.nx [A0,aA (.oK (Z0 U') (U'.map λ_=>.bl aC)),y2])
 | [],U,x2,nd,_=>⟨U,x2,nd,λx=>by simp,by simp,by simp⟩
 |x::xs,U,x2,nd,hl=>by
  rw[bc]at hl;have z:(U.map λ_=>D.bl aC).length<PySem.sizeLine:=Z9 (by rw[ah];omega);by_cases h:x∈U
  .obtain⟨U',y2,n',m',l',ih⟩:=Tp A0 xs U (aA (.fz (.str x))) nd (by omega);have pp:Wf (Z0 U) (U.map λ_=>D.bl aC) (cw x) (.bl aC)=(Z0 U,U.map λ_=>.bl aC):=by unfold Wf;rw[dG (List.mem_map_of_mem h)];refine Prod.ext rfl ?_;show((Z0 U).zip (U.map λ_=>D.bl aC)).map (λp=>if p.1=cw x then D.bl aC else p.2)=_;rw[show Z0 U=U.map cw from rfl,List.zip_map',cp];refine List.map_congr_left λy _=>?_;show(if(cw y:L2.Key)=cw x then D.bl aC else D.bl aC)=_;split<;> rfl
   refine⟨U',y2,n',λy=>?_,by rw[bc];omega,?_⟩
   .rw[m',b7];exact⟨λz=>z.imp id .inr,λz=>by rcases z with z|z|z;exact .inl z;(· rw[z];exact .inl h);exact .inr z⟩
   .have hb:Gen.Wy [A0,aA (.oK (Z0 U) (U.map λ_=>.bl aC)),aA (.fz (.str x))]=aA (.nx [A0,aA (.oK (Z0 U) (U.map λ_=>.bl aC)),aA (.fz (.str x))]):=by unfold Gen.Wy;exact Ou
    exact(Y5 (by simp) hb).trans ih
  .obtain⟨U',y2,n',m',l',ih⟩:=Tp A0 xs (U++[x]) (aA (.fz (.str x))) (cz.mpr ⟨nd,by simp,λa ha c hc e=>h (by rw[<-aj.mp hc,<-e];exact ha)⟩) (by simp;omega);have pp:Wf (Z0 U) (U.map λ_=>D.bl aC) (cw x) (.bl aC)=(Z0 (U++[x]),(U++[x]).map λ_=>.bl aC):=by rw[Of,Og h];simp
   refine⟨U',y2,n',λy=>?_,by rw[bc];simp at l';omega,?_⟩
   .rw[m',bo,aj,b7];exact or_assoc
   .have hb:Gen.Wy [A0,aA (.oK (Z0 U) (U.map λ_=>.bl aC)),aA (.fz (.str x))]=aA (.nx [A0,aA (.oK (Z0 (U++[x])) ((U++[x]).map λ_=>.bl aC)),aA (.fz (.str x))]):=by unfold Gen.Wy;exact Ou
    exact(Y5 (by simp) hb).trans ih
theorem each_once(xs:List Str)(hl:xs.length<=900):∃U:List Str,U.Nodup/\(∀x,x∈U↔x∈xs)/\U.length<=xs.length/\Gen.Uo [.lst (xs.map D.str)]=aA (.ol (U.map D.str)):=by obtain⟨U,y2,nd,mm,ll,e⟩:=Tp (aA (.fz (.lst (xs.map D.str)))) xs [] aB c7 (by simpa using hl);refine⟨U,nd,λx=>by rw[mm];simp,by simpa using ll,?_⟩;have ek:=Gz U;rw[show Z0 ([]:List Str)=[]from rfl,List.map_nil]at e;unfold Gen.Uo Gen.Gc;generalize xs.map D.str=XS,(U.map λ_=>D.bl aC)=UV,U.map D.str=UD,Z0 U=UK at*;simp[e,ek,-Yb]
theorem yM(ha:Mz a)(hc:Mz c):W2 48 (Zr a) (Zr c)=aA (decide (a=c)):=by obtain⟨x,l,rfl⟩:=ha;obtain⟨y,l',rfl⟩:=hc;exact KA 45 (.nm _ _)
theorem zE{ks:List NK}(hm:Mz m)(hk:∀k∈ks,Mz k)(c)(hc:c=aC↔m∈ks):inN (Zr m) (.lst (ks.map Zr))=aA (.fz (.bl c)):=by rw[pL λk h=>yM (hk k h) hm];congr 3;rw[Bool.eq_iff_iff,hc];simp
theorem Ng(A0 nm)(hn:Mz nm):∀(hs:List HP) i x2 x3,(∀h∈hs,∀k∈h.ns,Mz k)->
  (∃(j:Nat) (h:HP),hs[j]? =aA h/\nm∈h.ns/\Yb (Yz 2 (Zn (Zd 2) (Zn (Zd 3) Y1))) Gen.Q7 (((hs.map Z7).zipIdx i).map λp=>D.tup [.int (p.2:Nat),p.1]) [A0,aA (.fz (Zr nm)),x2,x3]=aA (.rt (.fz (.int ((i+j:Nat):Int)))))\/
  ((∀h∈hs,nm∉h.ns)/\∃y2 y3,Yb (Yz 2 (Zn (Zd 2) (Zn (Zd 3) Y1))) Gen.Q7 (((hs.map Z7).zipIdx i).map λp=>D.tup [.int (p.2:Nat),p.1]) [A0,aA (.fz (Zr nm)),x2,x3]=aA (.nx [A0,aA (.fz (Zr nm)),y2,y3]))
 | [],i,x2,x3,_=>.inr ⟨λ_ h=>(nomatch h),x2,x3,rfl⟩
 |h::hs,i,x2,x3,hh=>by
  have h0:=hh h ac;have a0:∀a b c:D,L2.atI [a,b,c] 0=aA a:=λ_ _ _=>rfl;have run:(Yz 2 (Zn (Zd 2) (Zn (Zd 3) Y1))).run (.tup [.int (i:Nat),Z7 h]) [A0,aA (.fz (Zr nm)),x2,x3]=aA [A0,aA (.fz (Zr nm)),aA (.fz (.int (i:Int))),aA (.fz (Z7 h))]:=by simp
  rw[ay,List.zipIdx_cons,ay];by_cases c:nm∈h.ns
  .refine .inl ⟨0,h,rfl,c,n6 run ?_⟩;have e:=zE hn h0 aC ⟨λ_=>c,λ_=>rfl⟩;unfold Gen.Q7 Z7;exact Ou
  .have e:=zE hn h0 aD ⟨λz=>(nomatch z),λz=>dM z c⟩;have hb:Gen.Q7 [A0,aA (.fz (Zr nm)),aA (.fz (.int (i:Int))),aA (.fz (Z7 h))]=aA (.nx [A0,aA (.fz (Zr nm)),aA (.fz (.int (i:Int))),aA (.fz (Z7 h))]):=by unfold Gen.Q7 Z7;exact Ou
   rcases Ng A0 nm hn hs (i+1) (aA (.fz (.int (i:Int)))) (aA (.fz (Z7 h))) λg hg=>hh g (ao _ hg)with⟨j,g,g1,g2,ih⟩|⟨g1,y2,y3,ih⟩
   .refine .inl ⟨j+1,g,g1,g2,?_⟩;rw[show i+(j+1)=i+1+j by omega];exact(Y5 run hb).trans ih
   .refine .inr ⟨λg hg=>?_,y2,y3,(Y5 run hb).trans ih⟩;rcases b7.mp hg with rfl|hg
    .exact c
    .exact g1 g hg
noncomputable abbrev G5(P:List HP):D:=.lst (P.map Z7)
theorem heap_of(P)(hP:∀h∈P,∀k∈h.ns,Mz k)(nm)(hn:Mz nm):(∃(j:Nat) (h:HP),P[j]? =aA h/\nm∈h.ns/\Gen.Yn [G5 P,Zr nm]=aA (.fz (.int (j:Int))))\/((∀h∈P,nm∉h.ns)/\Gen.Yn [G5 P,Zr nm]=aA (.fz .non)):=by
 have e2:Qb (P.map Z7)=(((P.map Z7).zipIdx 0).map λp=>D.tup [.int (p.2:Nat),p.1]):=rfl;rcases Ng (aA (.fz (G5 P))) nm hn P 0 aB aB hP with⟨j,h,h1,h2,l⟩|⟨h1,y2,y3,l⟩
 .refine .inl ⟨j,h,h1,h2,?_⟩;rw[Nat.zero_add,<-e2]at l;unfold Gen.Yn Gen.Gw;unfold G5 at*;generalize P.map Z7=PD,Zr nm=NM at*;simp[l,-Yb]
 .refine .inr ⟨h1,?_⟩;rw[<-e2]at l;unfold Gen.Yn Gen.Gw;unfold G5 at*;exact Ou
def LTR(i:Nat):Str:=S [97+i]
theorem Tq:∀i:Nat,i<13->Gen.Oh [.int (i:Int)]=aA (.fz (.str (LTR i)))
 |0,_=>by kernel_rfl
 |1,_=>by kernel_rfl
 |2,_=>by kernel_rfl
 |3,_=>by kernel_rfl
 |4,_=>by kernel_rfl
 |5,_=>by kernel_rfl
 |6,_=>by kernel_rfl
 |7,_=>by kernel_rfl
 |8,_=>by kernel_rfl
 |9,_=>by kernel_rfl
 |10,_=>by kernel_rfl
 |11,_=>by kernel_rfl
 |12,_=>by kernel_rfl
 |n+13,h=>dM h (by omega)
theorem xI(e:LTR i=LTR j):i=j:=by have:=zg e;simp at this;exact this
structure PoolOk(P:List HP):Prop where
 few:∀h∈P,FewT h
 len:P.length<=12
 nm:∀h∈P,∀k∈h.ns,Mz k
 tl:∀h∈P,∀t∈h.fs,t.2.2≠[]/\∀k∈t.2.2,∃b x,k=Ka b x
theorem told_in(P)(ok:PoolOk P)(h)(hh:h∈P)(hx:∃t∈h.fs,t.1=IN):∃o:Option Str,Gen.U9 [G5 P,Z7 h]=aA (.fz (match o with|some t=>.str t|none=>.non)):=by
 obtain⟨z,e,b⟩:=xc h IN hx;have s:=ok.few h hh;have tr:=Nf (h.ns.map Zr) (h.ms.map Zr) h.fs s.fs s.tl IN;rw[e]at tr;obtain⟨ne,all⟩:=ok.tl h hh z b.mem;obtain⟨k,l,ek⟩:=io ne;obtain⟨bk,x,rfl⟩:=all k (by rw[ek];exact ac);have a0:L2.atI (z.2.2.map Zr) 0=aA (Zr (Ka bk x)):=by rw[ek];exact Cn _ 0 _ rfl
 have u0:∀a b:D,L2.atI [a,b] 0=aA a:=λ_ _=>rfl;have t1:∀a b c:D,L2.atI [a,b,c] 1=aA b:=λ_ _ _=>rfl;have t2:∀a b c:D,L2.atI [a,b,c] 2=aA c:=λ_ _ _=>rfl;have nD:Zr (Ka bk x)= .tup [.str bk,.str x]:=rfl;rw[nD]at a0;have tr:Gen.Wl [Z7 h,.str IN]=aA (.fz (.tup [.str z.1,.str z.2.1,.lst (z.2.2.map Zr)])):=tr;rcases heap_of P ok.nm (Ka bk z.2.1) ⟨bk,[z.2.1],rfl⟩with⟨j,g,h1,_,ho⟩|⟨_,ho⟩
 .have hj:j<P.length:=(aw.mp h1).1;have lt:=Tq j (by have:=ok.len;omega);refine⟨aA (LTR j),?_⟩;have ho:Gen.Yn [G5 P,.tup [.str bk,.str z.2.1]]=_:=ho;unfold Gen.U9 Gen.Gx;exact Ou
 .refine⟨aB,?_⟩;have ho:Gen.Yn [G5 P,.tup [.str bk,.str z.2.1]]=_:=ho;unfold Gen.U9 Gen.Gx;exact Ou
structure Flds(h:HP)(U:List Str)(ps:PS):Prop where
 nd:(ps.map (·.1)).Nodup
 sub:∀p∈ps,p.1∈U
 has:∀f∈U,f≠Z6->f≠IN->∃z,Best h f z/\(f,z.2.1)∈ps
theorem Xh(P)(ok:PoolOk P)(h)(hh:h∈P)(U ps)(s:Flds h U ps)(hl:ps.length<=100)(f)(hf:f∉U)(hx:∃t∈h.fs,t.1=f)(x4):∃YE y4,Flds h (U++[f]) YE/\YE.length<=ps.length+1/\
  Gen.Wb [aA (.fz (G5 P)),aA (.fz (Z7 h)),aA (.oK (Qa ps) (W0 ps)),aA (.fz (.str f)),x4]=aA (.nx [aA (.fz (G5 P)),aA (.fz (Z7 h)),aA (.oK (Qa YE) (W0 YE)),aA (.fz (.str f)),y4]):=by
 have fr:f∉ps.map (·.1):=λz=>by obtain⟨p,hp,e⟩:=ax.mp z;exact hf (by rw[<-e];exact s.sub p hp)
 have stay:Flds h (U++[f]) ps->True:=λ_=>trivial;have add:∀t:Str,(f≠Z6->f≠IN->∃z,Best h f z/\z.2.1=t)->Flds h (U++[f]) (ps++[(f,t)]):=λt ht=>⟨by
   rw[b8];exact cz.mpr ⟨s.nd,by simp,λa ha c hc e=>fr (by rw[<-(show c=f by simpa using hc),<-e];exact ha)⟩,λp hp=>by
   rcases bo.mp hp with q|q
   .exact bu _ (s.sub p q)
   .rw[aj.mp q];exact bp _ ac,λg hg h1 h2=>by
   rcases bo.mp hg with q|q
   .obtain⟨z,b,m⟩:=s.has g q h1 h2;exact⟨z,b,bu _ m⟩
   .have:=aj.mp q;subst this;obtain⟨z,b,e⟩:=ht h1 h2;exact⟨z,b,by rw[e];exact bp _ ac⟩⟩
 have same:(f=Z6\/f=IN)->Flds h (U++[f]) ps:=λhk=>⟨s.nd,λp hp=>bu _ (s.sub p hp),λg hg h1 h2=>by
   rcases bo.mp hg with q|q
   .exact s.has g q h1 h2
   .have:=aj.mp q;subst this;rcases hk with z|z
    .exact dM z h1
    .exact dM z h2⟩
 have pp:∀t:Str,Wf (Qa ps) (W0 ps) (cw f) (.str t)=(Qa (ps++[(f,t)]),W0 (ps++[(f,t)])):=λt=>by unfold Qa W0;rw[Of,Og fr];simp
 have z:(W0 ps).length<PySem.sizeLine:=Z9 (by simp;omega);by_cases hi:f=IN
 .subst hi;obtain⟨o,e⟩:=told_in P ok h hh hx;have ne:¬IN=Z6:=zG;cases o with
  |none=>refine⟨ps,aA (.fz .non),same (.inr rfl),by omega,?_⟩;unfold Gen.Wb;exact Ou
  |some t=>refine⟨ps++[(IN,t)],aA (.fz (.str t)),add t λ_ h2=>dM rfl h2,by simp,?_⟩;have q:=pp t;unfold Gen.Wb;exact Ou
 .obtain⟨zt,b,e⟩:=Fv h (ok.few h hh) f hx;by_cases hk:f=Z6
  .refine⟨ps,aA (.fz (.str zt.2.1)),same (.inl hk),by omega,?_⟩;subst hk;unfold Gen.Wb;exact Ou
  .refine⟨ps++[(f,zt.2.1)],aA (.fz (.str zt.2.1)),add zt.2.1 λ_ _=>⟨zt,b,rfl⟩,by simp,?_⟩;have q:=pp zt.2.1;unfold Gen.Wb;exact Ou
theorem T6(P)(ok:PoolOk P)(h)(hh:h∈P):∀xs U ps x3 x4,(U++xs).Nodup->(∀f∈xs,∃t∈h.fs,t.1=f)->Flds h U ps->ps.length+xs.length<=100->∃YE y3 y4,Flds h (U++xs) YE/\
  Yb (Zd 3) Gen.Wb (xs.map D.str) [aA (.fz (G5 P)),aA (.fz (Z7 h)),aA (.oK (Qa ps) (W0 ps)),x3,x4]=aA (.nx [aA (.fz (G5 P)),aA (.fz (Z7 h)),aA (.oK (Qa YE) (W0 YE)),y3,y4])
 | [],U,ps,x3,x4,_,_,s,_=>⟨ps,x3,x4,by rw[List.append_nil];exact s,rfl⟩
 |f::xs,U,ps,x3,x4,nd,hx,s,hl=>by rw[bc]at hl;have hf:f∉U:=λz=>(cz.mp nd).2.2 _ z f ac rfl;obtain⟨QJ,z4,SZ,l1,t⟩:=Xh P ok h hh U ps s (by omega) f hf (hx f ac) x4;obtain⟨YE,y3,y4,s',ih⟩:=T6 P ok h hh xs (U++[f]) QJ (aA (.fz (.str f))) z4 (by rw[d7];exact nd) (λg hg=>hx g (ao _ hg)) SZ (by omega);rw[d7]at s';exact⟨YE,y3,y4,s',(Y5 (by simp) t).trans ih⟩
theorem Xi:∀(ts:List Js) zs,zs.length+ts.length<=900->
  Yd [.own,.acc] 1 (Zd 0) W3 Gen.Qy (ts.map Y3) [aB,aA (.ol (zs.map D.str))]=aA [aB,aA (.ol ((zs++ts.map (·.1)).map D.str))]
 | [],zs,_=>by simp
 |t::ts,zs,hz=>by
  rw[bc]at hz;have ih:=Xi ts (zs++[t.1]) (by rw[av,fu];omega);rw[d7,b8]at ih;rw[show[t.1].map D.str=[D.str t.1]from rfl]at ih;have e5:(zs++([t.1]++ts.map (·.1))).map D.str=(zs++(t::ts).map (·.1)).map D.str:=rfl;rw[e5]at ih;have z1:zs.length<PySem.sizeLine:=Z9 (by omega);have a0:∀a b c:D,L2.atI [a,b,c] 0=aA a:=λ_ _ _=>rfl;have e1:∀q,Gen.Qy [aA (.fz (Y3 t)),aA (.ol q)]=aA (.tmp (.fz (.str t.1)),[aA (.fz (Y3 t)),aA (.ol q)]):=λq=>by unfold Gen.Qy Y3;exact Ou
  rw[ay];generalize (zs++(t::ts).map (·.1)).map D.str=RR at*;generalize Y3 t=TD at*;unfold Yd;simp[e1,z1,-Yd];simpa[-Yd]using ih
theorem told_fields(P)(ok:PoolOk P)(h)(hh:h∈P):∃U ps,(∀f,f∈U↔∃t∈h.fs,t.1=f)/\Flds h U ps/\Gen.Qo [G5 P,Z7 h]=aA (.oK (Qa ps) (W0 ps)):=by
 have few:=(ok.few h hh).fs;have c:=Xi h.fs [] (by simp;omega);rw[d4,List.map_nil]at c;obtain⟨U,nd,mm,ul,eo⟩:=each_once (h.fs.map (·.1)) (by rw[ah];omega);rw[ah]at ul;have mU:∀f,f∈U↔∃t∈h.fs,t.1=f:=λf=>by rw[mm,ax]
 obtain⟨ps,y3,y4,s,l⟩:=T6 P ok h hh U [] [] aB aB (by simpa using nd) (λf hf=>(mU f).mp hf) ⟨c7,(λ_ h=>nomatch h),λ_ h=>nomatch h⟩ (by simp;omega);rw[d4]at s;refine⟨U,ps,mU,s,?_⟩;have t2:∀a b c:D,L2.atI [a,b,c] 2=aA c:=λ_ _ _=>rfl;rw[show Qa ([]:PS)=[]from rfl,show W0 ([]:PS)=[]from rfl]at l;unfold Gen.Qo Gen.Bi;unfold Z7 at l⊢;exact Ou
theorem xH{α:Type}{f}(k:NK):∀l:List α,(l.map f).Nodup->(l.filter λx=>decide (f x=k)).length<=1
 | [],_=>by simp
 |x::l,nd=>by
  obtain⟨n1,n2⟩:=eh.mp nd;have ih:=xH k l n2;rw[List.filter_cons];by_cases e:f x=k
  .rw[dG (by simpa using e),List.filter_eq_nil_iff.mpr λy hy=>?_]
   .simp
   .have:=λz:f y=k=>n1 (by rw[e,<-z];exact List.mem_map_of_mem hy);simpa using this
  .rw[dF (by simpa using e)];exact ih
def ShV(h:HP)(d:D):Prop:=∃(z:Js) (ps:PS) (U:List Str),Best h Z6 z/\Flds h U ps/\(∀f,f∈U↔∃t∈h.fs,t.1=f)/\d= .tup [.str z.2.1,.dK (Qa ps) (W0 ps)]
abbrev P6(n:Nat):List Str:=(c6 n).map LTR
theorem qT(n):(P6 n).Nodup:=du.mpr (List.nodup_range.imp λh e=>h (xI e))
theorem D3(P)(ok:PoolOk P)(i)(hi:i<12)(h)(hh:h∈P)(hk:∃t∈h.fs,t.1=Z6)(vs)(hv:vs.length=i):∃d,ShV h d/\
  Gen.U2 [aA (.fz (G5 P)),aA (.oK (Z0 (P6 i)) vs),aA (.fz (.int (i:Int))),aA (.fz (Z7 h))]=aA (.nx [aA (.fz (G5 P)),aA (.oK (Z0 (P6 (i+1))) (vs++[d])),aA (.fz (.int (i:Int))),aA (.fz (Z7 h))]):=by
 obtain⟨z,b,e⟩:=Fv h (ok.few h hh) Z6 hk;obtain⟨U,ps,mU,s,e2⟩:=told_fields P ok h hh;refine⟨.tup [.str z.2.1,.dK (Qa ps) (W0 ps)],⟨z,ps,U,b,s,mU,rfl⟩,?_⟩;have lt:=Tq i (by omega);have fr:LTR i∉P6 i:=λq=>by obtain⟨j,hj,e⟩:=ax.mp q;have:=xI e;have:=c8.mp hj;omega
 have pp:∀d:D,Wf (Z0 (P6 i)) vs (cw (LTR i)) d=(Z0 (P6 (i+1)),vs++[d]):=λd=>by rw[Of,Og fr];unfold P6;rw[List.range_succ,b8];rfl
 have zz:vs.length<PySem.sizeLine:=Z9 (by omega);have q:=pp (.tup [.str z.2.1,.dK (Qa ps) (W0 ps)]);unfold Gen.U2;exact Ou
theorem Fw(P)(ok:PoolOk P)(hk:∀h∈P,∃t∈h.fs,t.1=Z6):∀hs pre vs x2 x3,pre++hs=P->vs.length=pre.length->(∀(j:Nat) h,pre[j]? =aA h->∃d,vs[j]? =aA d/\ShV h d)->∃(WZ:List D) (y2 y3:Option SV),WZ.length=P.length/\(∀(j:Nat) h,P[j]? =aA h->∃d,WZ[j]? =aA d/\ShV h d)/\
  Yb (Yz 2 (Zn (Zd 2) (Zn (Zd 3) Y1))) Gen.U2 (((hs.map Z7).zipIdx pre.length).map λp=>D.tup [.int (p.2:Nat),p.1]) [aA (.fz (G5 P)),aA (.oK (Z0 (P6 pre.length)) vs),x2,x3]=aA (.nx [aA (.fz (G5 P)),aA (.oK (Z0 (P6 P.length)) WZ),y2,y3])
 | [],pre,vs,x2,x3,e,hv,ha=>by rw[List.append_nil]at e;subst e;exact⟨vs,x2,x3,hv,ha,rfl⟩
 |h::hs,pre,vs,x2,x3,e,hv,ha=>by
  have hl:pre.length<P.length:=by rw[<-e,av,bc];omega
  have hh:h∈P:=by rw[<-e];simp
  obtain⟨d,sv,t⟩:=D3 P ok pre.length (by have:=ok.len;omega) h hh (hk h hh) vs hv;obtain⟨WZ,y2,y3,l',a',ih⟩:=Fw P ok hk hs (pre++[h]) (vs++[d]) (aA (.fz (.int (pre.length:Int)))) (aA (.fz (Z7 h))) (by rw[<-e];simp) (by simp[hv]) (λj g hg=>by
   rcases dv j pre.length with q|q
   .rw[ci q]at hg;obtain⟨d',h1,h2⟩:=ha j g hg;exact⟨d',by rw[ci (by omega)];exact h1,h2⟩
   .have:j=pre.length:=by
     rcases dv pre.length j with r|r
     .rw[d3 (by simp;omega)]at hg;cases hg
     .omega
    subst this;rw[dr (bf _),Nat.sub_self]at hg;cases hg;exact⟨d,by rw[dr (by omega),hv,Nat.sub_self];rfl,sv⟩)
  refine⟨WZ,y2,y3,l',a',?_⟩;rw[show(pre++[h]).length=pre.length+1 by simp]at ih;rw[ay,List.zipIdx_cons,ay];exact(Y5 (by simp) t).trans ih
theorem shelf_of(P)(ok:PoolOk P)(hk:∀h∈P,∃t∈h.fs,t.1=Z6):∃vs,vs.length=P.length/\(∀(j:Nat) h,P[j]? =aA h->∃d,vs[j]? =aA d/\ShV h d)/\Gen.Oi [G5 P]=aA (.oK (Z0 (P6 P.length)) vs):=by obtain⟨vs,y2,y3,l,a,e⟩:=Fw P ok hk P [] [] aB aB rfl rfl (λj h hj=>by simp at hj);refine⟨vs,l,a,?_⟩;rw[show(((P.map Z7).zipIdx ([]:List HP).length).map λp=>D.tup [.int (p.2:Nat),p.1])=Qb (P.map Z7)from rfl]at e;rw[show Z0 (P6 ([]:List HP).length)=[]from rfl]at e;unfold Gen.Oi Gen.Rv;unfold G5 at*;exact Ou
theorem kA(hl:vs.length=n)(h:vs[j]? =aA d):look (Z0 (P6 n)) vs (cw (LTR j))=aA d:=by
 have hj:j<n:=by have:=(aw.mp h).1;omega
 rw[Qn];exact Iz (qT n) (by simp[hl]) j _ _ (by rw[az,List.getElem?_range hj];rfl) h
noncomputable def P7(f v:Str)(ts:List Js):List NK:=(ts.filter λt=>decide (t.1=f)&&decide (t.2.1=v)).flatMap (·.2.2)
theorem Cs(A0 f v):∀ts L x4 x5 x6,(∀t∈ts,t.2.2.length<=36)->L.length+36*ts.length<=4000->∃y4 y5 y6,
  Yb (Yz 3 (Zn (Zd 4) (Zn (Zd 5) (Zn (Zd 6) Y1)))) Gen.Wg (ts.map Y3) [A0,aA (.fz (.str f)),aA (.fz (.str v)),aA (.ol (L.map Zr)),x4,x5,x6]=aA (.nx [A0,aA (.fz (.str f)),aA (.fz (.str v)),aA (.ol ((L++P7 f v ts).map Zr)),y4,y5,y6])
 | [],L,x4,x5,x6,_,_=>⟨x4,x5,x6,by simp[P7]⟩
 |t::ts,L,x4,x5,x6,ht,hl=>by
  rw[bc]at hl;have t0:=ht t ac;have z:(L.map Zr).length+(t.2.2.map Zr).length<=PySem.sizeLine:=Qt (by rw[ah,ah];omega);have run:(Yz 3 (Zn (Zd 4) (Zn (Zd 5) (Zn (Zd 6) Y1)))).run (Y3 t) [A0,aA (.fz (.str f)),aA (.fz (.str v)),aA (.ol (L.map Zr)),x4,x5,x6]=aA [A0,aA (.fz (.str f)),aA (.fz (.str v)),aA (.ol (L.map Zr)),aA (.fz (.str t.1)),aA (.fz (.str t.2.1)),aA (.fz (.lst (t.2.2.map Zr)))]:=by unfold Y3;generalize t.2.2.map Zr=TL;simp
  by_cases c:t.1=f/\t.2.1=v
  .obtain⟨y4,y5,y6,ih⟩:=Cs A0 f v ts (L++t.2.2) (aA (.fz (.str t.1))) (aA (.fz (.str t.2.1))) (aA (.fz (.lst (t.2.2.map Zr)))) (λu hu=>ht u (ao _ hu)) (by rw[av];omega);have e:P7 f v (t::ts)=t.2.2++P7 f v ts:=by unfold P7;rw[List.filter_cons,dG (by simp[c]),List.flatMap_cons]
   rw[e,<-d7];have hb:Gen.Wg [A0,aA (.fz (.str f)),aA (.fz (.str v)),aA (.ol (L.map Zr)),aA (.fz (.str t.1)),aA (.fz (.str t.2.1)),aA (.fz (.lst (t.2.2.map Zr)))]=aA (.nx [A0,aA (.fz (.str f)),aA (.fz (.str v)),aA (.ol ((L++t.2.2).map Zr)),aA (.fz (.str t.1)),aA (.fz (.str t.2.1)),aA (.fz (.lst (t.2.2.map Zr)))]):=by rw[b8];unfold Gen.Wg;generalize t.2.2.map Zr=TL,L.map Zr=LD at*;simp[c.1,c.2,z]
   exact⟨y4,y5,y6,(Y5 run hb).trans ih⟩
  .obtain⟨y4,y5,y6,ih⟩:=Cs A0 f v ts L (aA (.fz (.str t.1))) (aA (.fz (.str t.2.1))) (aA (.fz (.lst (t.2.2.map Zr)))) (λu hu=>ht u (ao _ hu)) (by omega);have e:P7 f v (t::ts)=P7 f v ts:=by unfold P7;rw[List.filter_cons,dF (by simpa using λh=>not_and.mp c h)]
   rw[e];have hb:Gen.Wg [A0,aA (.fz (.str f)),aA (.fz (.str v)),aA (.ol (L.map Zr)),aA (.fz (.str t.1)),aA (.fz (.str t.2.1)),aA (.fz (.lst (t.2.2.map Zr)))]=aA (.nx [A0,aA (.fz (.str f)),aA (.fz (.str v)),aA (.ol (L.map Zr)),aA (.fz (.str t.1)),aA (.fz (.str t.2.1)),aA (.fz (.lst (t.2.2.map Zr)))]):=by
    unfold Gen.Wg;generalize t.2.2.map Zr=TL,L.map Zr=LD at*;by_cases c1:t.1=f
    .have c2:¬t.2.1=v:=λq=>c ⟨c1,q⟩;exact Ou
    .exact Ou
   exact⟨y4,y5,y6,(Y5 run hb).trans ih⟩
theorem Go(h)(s:FewT h)(f v):Gen.Wm [Z7 h,.str f,.str v]=aA (.ol ((P7 f v h.fs).map Zr)):=by obtain⟨y4,y5,y6,l⟩:=Cs (aA (.fz (Z7 h))) f v h.fs [] aB aB aB s.tl (by have:=s.fs;simp;omega);rw[d4,List.map_nil]at l;have t2:∀a b c:D,L2.atI [a,b,c] 2=aA c:=λ_ _ _=>rfl;unfold Gen.Wm Gen.Bj;unfold Z7 at l⊢;exact Ou
theorem P8(nd:(ts.map Yh).Nodup)(ht:t∈ts):P7 t.1 t.2.1 ts=t.2.2:=by
 unfold P7;have one:=xH (f:=Yh) (Yh t) ts nd;have e:(ts.filter λu=>decide (u.1=t.1)&&decide (u.2.1=t.2.1))=ts.filter λu=>decide (Yh u=Yh t):=List.filter_congr λu _=>by rw[Bool.eq_iff_iff];simp[Yh]
 rw[e];have hm:t∈ts.filter λu=>decide (Yh u=Yh t):=List.mem_filter.mpr ⟨ht,by simp⟩
 match h:(ts.filter λu=>decide (Yh u=Yh t)),one,hm with
 | [u],_,hm=>rw[aj.mp hm];simp
theorem qS(nd:(ts.map Yh).Nodup)(f v):P7 f v ts=[]\/∃t∈ts,t.1=f/\t.2.1=v/\P7 f v ts=t.2.2:=by
 by_cases h:∃t∈ts,t.1=f/\t.2.1=v
 .obtain⟨t,ht,rfl,rfl⟩:=h;exact .inr ⟨t,ht,rfl,rfl,P8 nd ht⟩
 .refine .inl ?_;unfold P7;rw[List.filter_eq_nil_iff.mpr λt ht=>?_];rfl;have:=λq=>h ⟨t,ht,q⟩;simpa using λa b=>this ⟨a,b⟩
theorem Xj(h)(s:FewT h)(nd:(h.fs.map Yh).Nodup)(f z)(b:Best h f z)(v):Gen.Jy [Z7 h,.str f,.str z.2.1,.str v]=aA (.fz (.bl aC)):=by
 have e1:=Go h s f z.2.1;have e2:=Go h s f v;have o1:P7 f z.2.1 h.fs=z.2.2:=by rw[<-b.fld];exact P8 nd b.mem
 have le:(P7 f v h.fs).length<=z.2.2.length:=by
  rcases qS nd f v with q|⟨t,ht,q1,_,q2⟩
  .rw[q];exact gq _
  .rw[q2];exact b.max t ht q1
 rw[o1]at e1;have vU:((P7 f v h.fs).map Zr).length<=(z.2.2.map Zr).length:=by rw[ah,ah];exact le
 unfold Gen.Jy Gen.Rx;generalize (P7 f v h.fs).map Zr=TO,z.2.2.map Zr=ZL,Z7 h=HD at*;have vS:(TO.length:Int)<=(ZL.length:Int):=by omega
 simp[e1,e2,vU,vS]
theorem Mv(hl:fs.length=ts.length)(hk:Z6∉fs)(kind f):Yl (fs++[Z6]) (ts++[kind]) f=if f=Z6 then aA kind else Yl fs ts f:=by
 unfold Yl;rw[List.zip_append hl,List.lookup_append];show((fs.zip ts).lookup f).or (List.lookup f [(Z6,kind)])=_;rw[List.lookup_cons];by_cases h:f=Z6
 .subst h;have:(fs.zip ts).lookup Z6=aB:=by
   rcases h:(fs.zip ts).lookup Z6 with _|v
   .rfl
   .obtain⟨l1,l2,e,_⟩:=List.lookup_eq_some_iff.mp h;exact dM (List.of_mem_zip (show(Z6,v)∈fs.zip ts by rw[e];simp)).1 hk
  rw[this];simp
 .rw[dF h,beq_eq_false_iff_ne.mpr h];simp
theorem zD(nb:bs.Nodup)(nk:ks.Nodup)(s:Wks bs ks F k P):(P.map Wu).Nodup:=by refine du.mpr (List.pairwise_iff_getElem.mpr λi j hi hj YS e=>?_);simp at e;have:=s.inj nb nk (ar hi) (ar hj) e.1 e.2;omega
theorem Ec:∀{P:List BW},(P.map Wu).Nodup->∀p∈P,look (P.map Wu) (P.map Rj) [cw p.1,cw p.2.key]=aA p.2.d
 | [],_,p,h=>nomatch h
 |q::P,nd,p,h=>by
  obtain⟨n1,n2⟩:=eh.mp nd;show(if Wu q=Wu p then aA (Rj q)else look (P.map Wu) (P.map Rj) (Wu p))=_;rcases b7.mp h with z|z
  .rw[z,dG rfl]
  .rw[dF λe=>n1 (by rw[e];exact List.mem_map_of_mem z)];exact Ec n2 p z
theorem yL(P:List BW):(P.map Wu).map zI=P.map λp=>D.tup [.str p.1,.str p.2.key]:=by rw[cp];rfl
noncomputable abbrev O8(P:List BW)(b:Str):List Wk:=(P.filter λp=>decide (p.1=b)).map (·.2)
theorem Ed:w∈O8 P b↔(b,w)∈P:=by
 unfold O8;rw[ax];constructor
 .rintro⟨p,hp,rfl⟩;obtain⟨h1,h2⟩:=List.mem_filter.mp hp;have h2:p.1=b:=by simpa using h2
  rw[<-h2];exact h1
 .exact λh=>⟨(b,w),List.mem_filter.mpr ⟨h,by simp⟩,rfl⟩
theorem D4(nd:(P.map Wu).Nodup)(b):((O8 P b).map Wk.key).Nodup:=by
 unfold O8;rw[cp];have h:=(du.mp nd).filter λp=>decide (p.1=b);refine du.mpr ((List.Pairwise.and_mem.mp h).imp fun{p q} ⟨hp,hq,VU⟩ e=>VU ?_);have e1:p.1=b:=by simpa using(List.mem_filter.mp hp).2
 have e2:q.1=b:=by simpa using(List.mem_filter.mp hq).2
 have e:p.2.key=q.2.key:=e;simp[Wu,e1,e2,e]
theorem Nh(P)(nd:(P.map Wu).Nodup)(hl:P.length<=100)(b):∀xs ds x3,ds++xs=P->∃y3,
  Yb (Zd 3) Gen.Qr (xs.map λp=>D.tup [.str p.1,.str p.2.key]) [aA (.fz (.dT (P.map Wu) (P.map Rj))),aA (.fz (.str b)),aA (.oK (Z0 ((O8 ds b).map Wk.key)) ((O8 ds b).map Wk.d)),x3]=aA (.nx [aA (.fz (.dT (P.map Wu) (P.map Rj))),aA (.fz (.str b)),aA (.oK (Z0 ((O8 P b).map Wk.key)) ((O8 P b).map Wk.d)),y3])
 | [],ds,x3,e=>⟨x3,by rw[List.append_nil]at e;rw[e];rfl⟩
 |p::xs,ds,x3,e=>by
  have hp:p∈P:=by rw[<-e];simp
  have l:=Ec nd p hp;obtain⟨y3,ih⟩:=Nh P nd hl b xs (ds++[p]) (aA (.fz (.tup [.str p.1,.str p.2.key]))) (by rw[<-e];simp);refine⟨y3,?_⟩;have u0:∀a b:D,L2.atI [a,b] 0=aA a:=λ_ _=>rfl;have u1:∀a b:D,L2.atI [a,b] 1=aA b:=λ_ _=>rfl;have zl:((O8 ds b).map Wk.d).length<PySem.sizeLine:=Z9 (by
   rw[ah];unfold O8;rw[ah];have:=List.length_filter_le (λp:BW=>decide (p.1=b)) ds;have:=congrArg List.length e;rw[av]at this;omega)
  have hb:Gen.Qr [aA (.fz (.dT (P.map Wu) (P.map Rj))),aA (.fz (.str b)),aA (.oK (Z0 ((O8 ds b).map Wk.key)) ((O8 ds b).map Wk.d)),aA (.fz (.tup [.str p.1,.str p.2.key]))]=aA (.nx [aA (.fz (.dT (P.map Wu) (P.map Rj))),aA (.fz (.str b)),aA (.oK (Z0 ((O8 (ds++[p]) b).map Wk.key)) ((O8 (ds++[p]) b).map Wk.d)),aA (.fz (.tup [.str p.1,.str p.2.key]))]):=by
   by_cases c:p.1=b
   .have es:O8 (ds++[p]) b=O8 ds b++[p.2]:=by unfold O8;rw[List.filter_append,b8,List.filter_cons,dG (by simpa using c)];rfl
    have fr:p.2.key∉(O8 ds b).map Wk.key:=λz=>by
     have n2:=D4 nd b;rw[<-e,show ds++p::xs=(ds++[p])++xs by simp]at n2;have:O8 ((ds++[p])++xs) b=O8 (ds++[p]) b++O8 xs b:=by unfold O8;rw[List.filter_append,b8]
     rw[this,es,b8,b8]at n2;exact(cz.mp (cz.mp n2).1).2.2 _ z p.2.key (by simp) rfl
    have pp:Wf (Z0 ((O8 ds b).map Wk.key)) ((O8 ds b).map Wk.d) (cw p.2.key) p.2.d=(Z0 ((O8 (ds++[p]) b).map Wk.key),(O8 (ds++[p]) b).map Wk.d):=by rw[Of,Og fr,es];simp
    unfold Gen.Qr;generalize (O8 (ds++[p]) b).map Wk.d=D1,Z0 ((O8 (ds++[p]) b).map Wk.key)=K1,(O8 ds b).map Wk.d=D0,Z0 ((O8 ds b).map Wk.key)=K0,p.2.d=XD,P.map Rj=PD,P.map Wu=PK at*;rw[c]at l;simp[u0,u1,c,l,pp,zl,-look,-Wf]
   .have es:O8 (ds++[p]) b=O8 ds b:=by unfold O8;rw[List.filter_append,List.filter_cons,dF (by simpa using c)];simp
    rw[es];unfold Gen.Qr;exact Ou
  rw[ay];exact(Y5 (by simp) hb).trans ih
theorem j9(P)(nd:(P.map Wu).Nodup)(hl:P.length<=100)(b):Gen.Jc [.dT (P.map Wu) (P.map Rj),.str b]=aA (.oK (Z0 ((O8 P b).map Wk.key)) ((O8 P b).map Wk.d)):=by obtain⟨y3,l⟩:=Nh P nd hl b P [] aB rfl;rw[<-yL]at l;rw[show Z0 ((O8 ([]:List BW) b).map Wk.key)=[]from rfl,show(O8 ([]:List BW) b).map Wk.d=[]from rfl]at l;unfold Gen.Jc Gen.Gk;exact Ou
theorem o7(r:List Str)(p:Str->Bool):(r.map λf=>D.bl (p f)).all D.isFlat=aC:=by rw[List.all_map];exact List.all_eq_true.mpr λf hf=>rfl
theorem tS(r:List Str)(p):N9 (.bl aD) (r.map λf=>D.bl (p f))= !(r.all p):=by
 unfold N9;induction r with
 |nil=>rfl
 |cons x r ih=>rw[ay,List.any_cons,ih,List.all_cons,mJ];cases p x<;> simp
theorem tR(r:List Str)(p):Jt (.bl aD) (.lst (r.map λf=>D.bl (p f)))=aA (.fz (.bl (r.all p))):=by show(if D.isFlat (.bl aD)=aC/\(r.map λf=>D.bl (p f)).all D.isFlat=aC then aA (SV.fz (.bl (!N9 (.bl aD) (r.map λf=>D.bl (p f)))))else aB)=_;rw[dG ⟨rfl,o7 r p⟩,tS,Bool.not_not]
section
variable(fs ts:List Str)(kind:Str)
def BP:D->D
 | .str f=>.bl (decide (f=Z6)|| (Yl fs ts f).isSome)
 |_=>.non
theorem jc(r:List Str)(hr:r.length<=100):
  Yd [.own,.cap 3,.acc] 2 (Zd 0) W3 Gen.Ud (r.map D.str) [aB,aA (.fz (.dK (Z0 fs) (ts.map D.str))),aA (.ol [])]=aA [aB,aA (.fz (.dK (Z0 fs) (ts.map D.str))),aA (.ol (r.map λf=>.bl (decide (f=Z6)|| (Yl fs ts f).isSome)))]:=by
 have c:=Bx (te:=Gen.Ud) (f:=BP fs ts) (c:=aA (.fz (.dK (Z0 fs) (ts.map D.str)))) (j:=3) (r.map D.str) [] (λx hx zs=>by
  obtain⟨f,hf,rfl⟩:=ax.mp hx;have l:=(Qn f fs (ts.map D.str)).trans (J1 fs ts f);unfold Gen.Ud BP;generalize ts.map D.str=TS,Z0 fs=FS at*;by_cases h:f=Z6
  .simp[h]
  .simp[h,l,-look]) (by rw[ah];simp;omega)
 rw[c,d4,cp];rfl
theorem Ni:∀(r vs:List Str),(∀f∈r,f=Z6\/(Yl fs ts f).isSome)->vs.length+r.length<=900->
  Yd [.own,.cap 2,.cap 3,.acc] 3 (Zd 0) W3 Gen.Ue (r.map D.str) [aB,aA (.fz (.str kind)),aA (.fz (.dK (Z0 fs) (ts.map D.str))),aA (.ol (vs.map D.str))]=aA [aB,aA (.fz (.str kind)),aA (.fz (.dK (Z0 fs) (ts.map D.str))),aA (.ol ((vs++r.map λf=>if f=Z6 then kind else(Yl fs ts f).getD "").map D.str))]
 | [],vs,_,_=>by simp
 |f::r,vs,h,hl=>by
  rw[bc]at hl;have ih:=Ni r (vs++[if f=Z6 then kind else(Yl fs ts f).getD ""]) (λg hg=>h g (ao _ hg)) (by rw[av,fu];omega);have l:=(Qn f fs (ts.map D.str)).trans (J1 fs ts f);have z:vs.length<PySem.sizeLine:=Z9 (by omega);have t1:∀a b:D,L2.atI [a,b] 1=aA b:=λ_ _=>rfl;have t0:∀a b:D,L2.atI [a,b] 0=aA a:=λ_ _=>rfl;have e1:∀q,Gen.Ue [aA (.fz (.str f)),aA (.fz (.str kind)),aA (.fz (.dK (Z0 fs) (ts.map D.str))),aA (.ol q)]=aA (.tmp (.fz (.str (if f=Z6 then kind else(Yl fs ts f).getD ""))),[aA (.fz (.str f)),aA (.fz (.str kind)),aA (.fz (.dK (Z0 fs) (ts.map D.str))),aA (.ol q)]):=λq=>by
   unfold Gen.Ue;generalize ts.map D.str=TS,Z0 fs=FS at*;by_cases e:f=Z6
   .simp[e,t1,s2,-look]
   .obtain⟨v,hv⟩:=Option.isSome_iff_exists.mp ((h f ac).resolve_left e);rw[hv]at l;simp[e,l,hv,t0,s2,-look]
  rw[d7]at ih;rw[show(vs++[if f=Z6 then kind else(Yl fs ts f).getD ""]).map D.str=vs.map D.str++[.str (if f=Z6 then kind else(Yl fs ts f).getD "")] by simp]at ih;rw[ay,ay];rw[show([if f=Z6 then kind else(Yl fs ts f).getD ""]++r.map λf=>if f=Z6 then kind else(Yl fs ts f).getD "")=((if f=Z6 then kind else(Yl fs ts f).getD "")::r.map λf=>if f=Z6 then kind else(Yl fs ts f).getD "")from rfl]at ih;generalize (vs++((if f=Z6 then kind else(Yl fs ts f).getD "")::r.map λf=>if f=Z6 then kind else(Yl fs ts f).getD "")).map D.str=RR,(if f=Z6 then kind else(Yl fs ts f).getD "")=VF,ts.map D.str=TS,Z0 fs=FS at*;unfold Yd;simp[e1,z,-Yd];simpa[-Yd]using ih
end
noncomputable abbrev mSt(kind:Str)(A0 A1:Option SV)(o3:Option SV)(M:List D)(x5 x6:Option SV):Yy:=[A0,A1,aA (.fz (.str kind)),o3,aA (.ol M),x5,x6]
theorem jb(fs ts kind)(hl:fs.length=ts.length)(hk:Z6∉fs)(A0 A1)(M:List NK)(n:Nat)(r)(hr:r.length<=100)(hM:M.length<=100):
  Gen.Qp (mSt kind A0 A1 (aA (.fz (.dK (Z0 fs) (ts.map D.str)))) (M.map Zr) (aA (.fz (.int (n:Int)))) (aA (.fz (Yc r))))=
  aA (.nx (mSt kind A0 A1 (aA (.fz (.dK (Z0 fs) (ts.map D.str)))) ((M++(match r.mapM (Yl (fs++[Z6]) (ts++[kind]))with|some l=>[(.inr ((n:Int),l):NK)]|none=>[])).map Zr) (aA (.fz (.int (n:Int)))) (aA (.fz (Yc r))))):=by
 have h1:=jc fs ts r hr;have nz:=tR r λf=>decide (f=Z6)|| (Yl fs ts f).isSome;have z1:M.length<PySem.sizeLine:=Z9 (by omega);have vk:=Mv hl hk kind;rw[Fn];by_cases h:∀f∈r,(Yl (fs++[Z6]) (ts++[kind]) f).isSome
 .have h':∀f∈r,f=Z6\/(Yl fs ts f).isSome:=λf hf=>by
   have:=h f hf;rw[vk]at this;by_cases e:f=Z6
   .exact .inl e
   .rw[dF e]at this;exact .inr this
  have lo:=Ni fs ts kind r [] h' (by simp;omega);rw[dG h];have al:(r.all λf=>decide (f=Z6)|| (Yl fs ts f).isSome)=aC:=List.all_eq_true.mpr λf hf=>by
   rcases h' f hf with z|z
   .exact Ou
   .simp[z]
  rw[al]at nz;have em:(r.map λf=>if f=Z6 then kind else(Yl fs ts f).getD "")=r.map λf=>(Yl (fs++[Z6]) (ts++[kind]) f).getD "":=List.map_congr_left λf _=>by rw[vk];split<;> rfl
  rw[d4,em]at lo;unfold Gen.Qp mSt;rw[b8];rw[show List.map D.str ([]:List Str)=[]from rfl]at lo;generalize r.map (λf=>(Yl (fs++[Z6]) (ts++[kind]) f).getD "")=R,(r.map λf=>D.bl (decide (f=Z6)|| (Yl fs ts f).isSome))=BL,ts.map D.str=TS,Z0 fs=FS at*;simp[h1,nz,lo,z1,s2,-Yd,-Jt,-Yb];unfold Zr;simp
 .rw[dF h];have al:(r.all λf=>decide (f=Z6)|| (Yl fs ts f).isSome)=aD:=by
   rw[Bool.eq_false_iff];refine λz=>h λf hf=>?_;have:=List.all_eq_true.mp z f hf;rw[vk];by_cases e:f=Z6
   .rw[dG e];rfl
   .rw[dF e];simpa[e]using this
  rw[al]at nz;unfold Gen.Qp mSt;generalize (r.map λf=>D.bl (decide (f=Z6)|| (Yl fs ts f).isSome))=BL,ts.map D.str=TS,Z0 fs=FS at*;simp[h1,nz,-Yd,-Jt]
theorem T7(fs ts kind)(hl:fs.length=ts.length)(hk:Z6∉fs)(A0 A1):∀rs n M x5 x6,(∀r∈rs,r.length<=100)->M.length+rs.length<=100->∃y5 y6,
  Yb (Yz 2 (Zn (Zd 5) (Zn (Zd 6) Y1))) Gen.Qp (((rs.map Yc).zipIdx n).map λp=>D.tup [.int (p.2:Nat),p.1]) (mSt kind A0 A1 (aA (.fz (.dK (Z0 fs) (ts.map D.str)))) (M.map Zr) x5 x6)=
  aA (.nx (mSt kind A0 A1 (aA (.fz (.dK (Z0 fs) (ts.map D.str)))) ((M++Q3 (fs++[Z6]) (ts++[kind]) n rs).map Zr) y5 y6))
 | [],n,M,x5,x6,_,_=>⟨x5,x6,by simp[Q3]⟩
 |r::rs,n,M,x5,x6,hr,hM=>by
  rw[bc]at hM;have t:=jb fs ts kind hl hk A0 A1 M n r (hr r ac) (by omega);obtain⟨y5,y6,ih⟩:=T7 fs ts kind hl hk A0 A1 rs (n+1) (M++(match r.mapM (Yl (fs++[Z6]) (ts++[kind]))with|some l=>[(.inr ((n:Int),l):NK)]|none=>[])) (aA (.fz (.int (n:Int)))) (aA (.fz (Yc r))) (λq hq=>hr q (ao _ hq)) (by
   rw[av];cases r.mapM (Yl (fs++[Z6]) (ts++[kind]))<;> simp<;> omega)
  refine⟨y5,y6,?_⟩;rw[ay,List.zipIdx_cons,ay,Q3];rw[d7]at ih;unfold Yb;rw[show(Yz 2 (Zn (Zd 5) (Zn (Zd 6) Y1))).run (.tup [.int (n:Nat),Yc r]) (mSt kind A0 A1 (aA (.fz (.dK (Z0 fs) (ts.map D.str)))) (M.map Zr) x5 x6)=aA (mSt kind A0 A1 (aA (.fz (.dK (Z0 fs) (ts.map D.str)))) (M.map Zr) (aA (.fz (.int (n:Int)))) (aA (.fz (Yc r))))from by simp];dsimp only[cm];rw[t];exact ih
theorem ja(rs w)(ok:eX w)(hr:∀r∈rs,r.length<=100)(hn:rs.length<=100):Gen.Up [w.d,.lst (rs.map Yc)]=aA (.ol ((w.marks rs).map Zr)):=by obtain⟨y5,y6,e⟩:=T7 w.fs w.ts w.kind ok.len ok.nk (aA (.fz w.d)) (aA (.fz (.lst (rs.map Yc)))) rs 0 [] aB aB hr (by simpa using hn);rw[d4]at e;have e2:Qb (rs.map Yc)=(((rs.map Yc).zipIdx 0).map λp=>D.tup [.int (p.2:Nat),p.1]):=rfl;unfold Gen.Up Gen.Gg;rw[<-e2]at e;unfold mSt at e;rw[show List.map Zr ([]:List NK)=[]from rfl]at e;show _=aA (SV.ol ((Q3 (w.fs++[Z6]) (w.ts++[w.kind]) 0 rs).map Zr));unfold Wk.d Na at*;exact Ou
theorem l_{ks:List NK}(hm:Mz m)(hk:∀k∈ks,Mz k)(h:m∈ks):Rt (Zr m) (.lst (ks.map Zr))=aA (.fz (.bl aD)):=by rw[jp λk h=>yM (hk k h) hm];congr 3;simp;exact h
structure HpT(h:HP):Prop where
 few:FewT h
 nd:(h.fs.map Yh).Nodup
 nm:∀t∈h.fs,∀k∈t.2.2,Mz k
theorem o6(nd:(ps.map (·.1)).Nodup)(h:(f,v)∈ps):look (Qa ps) (W0 ps) (cw f)=aA (.str v):=by unfold Qa W0;rw[Qn];obtain⟨i,hi,e⟩:=dy h;exact Iz nd (by simp) i _ _ (by rw[az,ar hi,e];rfl) (by rw[az,az,ar hi,e];rfl)
theorem qR(f):Jt (.str f) (.tup [.str Qg,.str IN])=aA (.fz (.bl (!(decide (f=Qg)||decide (f=IN))))):=by show(if D.isFlat (.str f)=aC/\[D.str Qg,.str IN].all D.isFlat=aC then aA (SV.fz (.bl (!N9 (.str f) [D.str Qg,.str IN])))else aB)=_;rw[dG ⟨rfl,rfl⟩];congr 4;unfold N9;simp[eq_comm]
noncomputable abbrev Xk(x0:Option SV)(nm:NK)(h:HP)(d:D)(kind:Str)(fs ts:List Str)(x6 x7:Option SV):Yy:=[x0,aA (.fz (Zr nm)),aA (.fz (Z7 h)),aA (.fz d),aA (.fz (.str kind)),aA (.fz (.dK (Z0 fs) (ts.map D.str))),x6,x7]
theorem D5(x0 nm)(hn:Mz nm)(h)(H:HpT h)(z:Js)(ps U)(s:Flds h U ps)(mU:∀f,f∈U↔∃t∈h.fs,t.1=f)(kind fs ts f v)(hk:f≠Z6)(hv:Yl fs ts f=aA v)(hx:f≠Qg->∃t∈h.fs,t.1=f/\t.2.1=v/\nm∈t.2.2)(x7):∃y7,
  Gen.Wz (Xk x0 nm h (.tup [.str z.2.1,.dK (Qa ps) (W0 ps)]) kind fs ts (aA (.fz (.str f))) x7)=aA (.nx (Xk x0 nm h (.tup [.str z.2.1,.dK (Qa ps) (W0 ps)]) kind fs ts (aA (.fz (.str f))) y7)):=by
 have l:=(Qn f fs (ts.map D.str)).trans (J1 fs ts f);rw[hv]at l;have u1:∀a b:D,L2.atI [a,b] 1=aA b:=λ_ _=>rfl;have n2:=qR f;by_cases c1:f=Qg
 .refine⟨x7,?_⟩;rw[show(!(decide (f=Qg)||decide (f=IN)))=aD by simp[c1]]at n2;unfold Gen.Wz Xk;generalize Zr nm=NM,Z7 h=HD,ts.map D.str=TS,Z0 fs=FS at*;simp only[Qg,IN]at*;subst c1;exact Ou
 .obtain⟨t,ht,e1,e2,tn⟩:=hx c1;have te:=Go h H.few f v;have eo:P7 f v h.fs=t.2.2:=by rw[<-e1,<-e2];exact P8 H.nd ht
  rw[eo]at te;have ni:=l_ hn (H.nm t ht) tn;by_cases c2:f=IN
  .refine⟨x7,?_⟩;rw[show(!(decide (f=Qg)||decide (f=IN)))=aD by simp[c2]]at n2;unfold Gen.Wz Xk;generalize t.2.2.map Zr=TL,Zr nm=NM,Z7 h=HD,ts.map D.str=TS,Z0 fs=FS at*;simp only[Qg,IN]at*;simp[c1,l,te,ni,n2,s2,-Jt,-look]
  .obtain⟨y,b,m⟩:=s.has f ((mU f).mpr ⟨t,ht,e1⟩) hk c2;have lp:=o6 s.nd m;have mo:=Xj h H.few H.nd f y b v;refine⟨aA (.fz (.str y.2.1)),?_⟩;rw[show(!(decide (f=Qg)||decide (f=IN)))=aC by simp[c1,c2]]at n2;unfold Gen.Wz Xk;generalize t.2.2.map Zr=TL,Zr nm=NM,Z7 h=HD,Qa ps=KP,W0 ps=VP,ts.map D.str=TS,Z0 fs=FS at*;simp only[Qg,IN]at*;simp[c1,l,te,ni,n2,u1,lp,mo,s2,-Jt,-look]
theorem Fx(x0 nm)(hn:Mz nm)(h)(H:HpT h)(z:Js)(ps U)(s:Flds h U ps)(mU:∀f,f∈U↔∃t∈h.fs,t.1=f)(kind fs ts)(hl:fs.length=ts.length)(hk:Z6∉fs)(hx:∀f v,Yl fs ts f=aA v->f≠Qg->∃t∈h.fs,t.1=f/\t.2.1=v/\nm∈t.2.2):∀(xs:List Str) x6 x7,(∀x∈xs,x∈fs)->∃y6 y7,
  Yb (Zd 6) Gen.Wz (xs.map D.str) (Xk x0 nm h (.tup [.str z.2.1,.dK (Qa ps) (W0 ps)]) kind fs ts x6 x7)=aA (.nx (Xk x0 nm h (.tup [.str z.2.1,.dK (Qa ps) (W0 ps)]) kind fs ts y6 y7))
 | [],x6,x7,_=>⟨x6,x7,rfl⟩
 |f::xs,x6,x7,hs=>by obtain⟨v,hv⟩:=Option.isSome_iff_exists.mp ((Gn fs ts f hl).mp (hs f ac));obtain⟨z7,hb⟩:=D5 x0 nm hn h H z ps U s mU kind fs ts f v (λe=>hk (by rw[<-e];exact hs f ac)) hv (hx f v hv) x7;obtain⟨y6,y7,ih⟩:=Fx x0 nm hn h H z ps U s mU kind fs ts hl hk hx xs (aA (.fz (.str f))) z7 λx h=>hs x (ao _ h);exact⟨y6,y7,(Y5 (by simp) hb).trans ih⟩
theorem jZ(P:List BW)(nd:(P.map Wu).Nodup)(p)(hp:p∈P)(ok:eX p.2)(h)(H:HpT h)(d)(sv:ShV h d)(hx:∀f v,Yl p.2.fs p.2.ts f=aA v->f≠Qg->∃t∈h.fs,t.1=f/\t.2.1=v/\Ka p.1 p.2.key∈t.2.2):
  Gen.Jb [.dT (P.map Wu) (P.map Rj),Zr (Ka p.1 p.2.key),Z7 h,d]=aA (.fz (.bl aC)):=by
 obtain⟨z,ps,U,b,s,mU,rfl⟩:=sv;obtain⟨y6,y7,lo⟩:=Fx (aA (.fz (.dT (P.map Wu) (P.map Rj)))) (Ka p.1 p.2.key) ⟨p.1,[p.2.key],rfl⟩ h H z ps U s mU p.2.kind p.2.fs p.2.ts ok.len ok.nk hx p.2.fs aB aB λ_ h=>h;have l:=Ec nd p hp;have mo:=Xj h H.few H.nd Z6 z b p.2.kind;have u0:∀a b:D,L2.atI [a,b] 0=aA a:=λ_ _=>rfl;have ek:=Gz p.2.fs;unfold Gen.Jb Gen.Gj;unfold Xk at lo;rw[show Zr (Ka p.1 p.2.key)= .tup [.str p.1,.str p.2.key]from rfl]at*;unfold Wk.d Na at l;generalize Qa ps=KP,W0 ps=VP,Z7 h=HD,p.2.fs.map D.str=FD,p.2.ts.map D.str=TS,Z0 p.2.fs=FS,P.map Rj=PD,P.map Wu=PK at*;simp[l,u0,mo,ek,lo,-look,-Yb]
theorem pour(P Q)(T:Tot (P++Q)):∃out,eQ (λh=>h∈P\/h∈Q) out/\(∀h∈out,eZ h)/\out.length<=P.length+Q.length/\Gen.Gf [.lst (P.map Z7),.lst (Q.map Z7)]=aA (.ol (out.map Z7)):=by
 obtain⟨out,p,ok,len,j⟩:=joined (P++Q) T;have pq:∀a,a∈P++Q↔(a∈P\/a∈Q):=λa=>bo;have e:(λh=>h∈P++Q)=λh=>h∈P\/h∈Q:=funext λa=>propext (pq a);have p':eQ (λh=>h∈P\/h∈Q) out:=by rw[<-e];exact p
 refine⟨out,p',ok,by rw[av]at len;exact len,?_⟩;have z:(P.map Z7).length+(Q.map Z7).length<=PySem.sizeLine:=Qt (by have:=T.all.len;rw[av]at this;rw[ah,ah];omega);rw[b8]at j;unfold Gen.Gf Gen.Dr;exact Ou
theorem jY{S:HP->Prop}(nS:∀a,S a->a.ns≠[])(nT:∀a,T a->a.ns≠[])(p:eQ S P)(q:eQ T Q)(t:Tot (P++Q)):∃out,eQ (λa=>S a\/T a) out/\(∀h∈out,eZ h)/\out.length<=P.length+Q.length/\Gen.Gf [.lst (P.map Z7),.lst (Q.map Z7)]=aA (.ol (out.map Z7)):=by obtain⟨out,r,ok,len,e⟩:=pour P Q t;exact⟨out,p.pour nS nT q r,ok,len,e⟩
theorem jX{U V U' V' W}{S:HP->Prop}(u:Uni U V W S)(u':Uni U' V' W T)(p:eQ S P)(q:eQ T Q)(hU:U.length+U'.length<=60)(hV:V.length+V'.length<=63)(hW:W.length<64):Tot (P++Q):=by
 have s:=R5 u p;have s':=R5 u' q;have b:=Mu u p;have b':=Mu u' q;have or:∀h,h∈P++Q->h∈P\/h∈Q:=λh=>bo.mp;refine⟨⟨λh hh=>?_,λh hh k hk=>(or h hh).elim (λz=>(b.ns h z k hk).2) λz=>(b'.ns h z k hk).2,λh hh k hk=>(or h hh).elim (λz=>(b.ms h z k hk).2) λz=>(b'.ms h z k hk).2,λh hh x hx k hk=>(or h hh).elim (λz=>(b.ns h z k ((b.fs h z x hx).2 k hk)).2) λz=>(b'.ns h z k ((b'.fs h z x hx).2 k hk)).2,?_,?_,λt=>?_,?_,?_,W,hW,λt ⟨h,hh,x,hx,e⟩=>by rw[e];exact(or h hh).elim (λz=>(b.fs h z x hx).1) λz=>(b'.fs h z x hx).1⟩,λh hh=>(or h hh).elim (b.ne h) (b'.ne h)⟩
 .rcases or h hh with z|z
  .obtain⟨z1,z2,z3⟩:=s.fw h z;exact⟨by omega,by omega,λx hx=>by have:=z3 x hx;omega⟩
  .obtain⟨z1,z2,z3⟩:=s'.fw h z;exact⟨by omega,by omega,λx hx=>by have:=z3 x hx;omega⟩
 .rw[List.flatMap_append,av];have:=s.ns;have:=s'.ns;omega
 .rw[List.flatMap_append,av];have:=s.ms;have:=s'.ms;omega
 .unfold tlG;rw[b8,List.sum_append];have h1:=s.tl t;have h2:=s'.tl t;unfold tlG at h1 h2;omega
 .rw[av];have:=s.ln;have:=s'.ln;omega
 .unfold Ak;rw[b8,List.sum_append];have h1:=s.cn;have h2:=s'.cn;unfold Ak at h1 h2;have l1:=s.ln;have l2:=s'.ln;have m1:P.length*W.length<=60*63:=Nat.mul_le_mul (by omega) (by omega);have m2:Q.length*W.length<=60*63:=Nat.mul_le_mul (by omega) (by omega);omega
theorem l9(F T)(hF:F.length=3)(hT:T.length=5):∃W:List NK,W.length<64/\∀b w,WP F T w->∀x∈w.tri b,Yh x∈W:=by
 refine⟨(F.flatMap λf=>(c6 10).map λn=>(.inl [f,itT n]:NK))++(T.map λt=>.inl [IN,t])++[.inl [Z6,LS],.inl [Z6,LR]],?_,λb w p x hx=>?_⟩
 .rw[av,av,List.length_flatMap,ah];have:=W7 (λf=>((c6 10).map λn=>(.inl [f,itT n]:NK)).length) 10 F λf _=>by simp
  simp only[bc,List.length_nil];omega
 .obtain⟨f,hf,rfl⟩:=ax.mp hx;obtain⟨hf,hn⟩:=List.mem_filter.mp hf;have hn:f≠Qg:=by simpa using hn
  have vk:=Mv p.ok.len p.ok.nk w.kind f;show(.inl [f,w.val f]:NK)∈_;unfold Wk.val Wk.at' Wk.vt;rw[vk];by_cases e:f=Z6
  .rw[dG e,e];refine bp _ ?_;show(.inl [Z6,w.kind]:NK)∈_;rcases p.kd with z|z<;> rw[z]<;> simp
  .rw[dF e];have hf:f∈w.fs:=(bo.mp hf).resolve_right λz=>e (aj.mp z);obtain⟨v,hv⟩:=Option.isSome_iff_exists.mp ((Gn w.fs w.ts f p.ok.len).mp hf);rw[hv];obtain⟨ps,e1,e2,all⟩:=p.all;unfold Yl at hv;rw[e1,e2,List.zip_map',show(ps.map λp=>(p.1,p.2))=ps by simp]at hv;obtain⟨l1,l2,el,_⟩:=List.lookup_eq_some_iff.mp hv;refine bu _ ?_;rcases all (f,v) (by rw[el];simp)with⟨h1,n,VG,h2⟩|⟨h1,h2⟩
   .have h1:f∈F:=(bo.mp h1).resolve_right λz=>hn (aj.mp z);have h2:v=itT n:=h2;refine bu _ (List.mem_flatMap.mpr ⟨f,h1,ax.mpr ⟨n,c8.mpr VG,?_⟩⟩);rw[h2];rfl
   .refine bp _ (ax.mpr ⟨v,h2,?_⟩);have h1:f=IN:=h1;rw[h1];rfl
theorem qQ(rs)(w:Wk):∀m∈w.marks rs,isM m:=λm hm=>by obtain⟨j,l,e,_⟩:=Fp _ _ _ _ m hm;exact⟨j,l,e⟩
theorem l8{V:List NK}{ws:List Wk}(hU:∀w∈ws,Ka b w.key∈U)(hV:∀w∈ws,∀m∈w.marks rs,m∈V)(hW:∀w∈ws,∀x∈w.tri b,Yh x∈W):Uni U V W (· ∈ws.map (Os b rs)):=by
 refine⟨λa h=>?_,λa h k hk=>?_,λa h k hk=>?_,λa h x hx=>?_⟩
 .obtain⟨w,hw,rfl⟩:=ax.mp h;exact λz=>nomatch z
 .obtain⟨w,hw,rfl⟩:=ax.mp h;rw[aj.mp (show k∈[Ka b w.key]from hk)];exact⟨hU w hw,b,[w.key],rfl⟩
 .obtain⟨w,hw,rfl⟩:=ax.mp h;exact⟨hV w hw k hk,qQ rs w k hk⟩
 .obtain⟨w,hw,rfl⟩:=ax.mp h;refine⟨hW w hw x hx,λk hk=>?_⟩;obtain⟨f,_,rfl⟩:=ax.mp (show x∈w.tri b from hx);exact hk
theorem Uni.up{U V U' V' W}{S}(s:Uni U V W S)(hU:∀k∈U,k∈U')(hV:∀k∈V,k∈V'):Uni U' V' W S:=
 ⟨s.ne,λa h k hk=>⟨hU k (s.ns a h k hk).1,(s.ns a h k hk).2⟩,λa h k hk=>⟨hV k (s.ms a h k hk).1,(s.ms a h k hk).2⟩,s.fs⟩
structure PL(W:List NK)(n:Nat)(S:HP->Prop)(P:List HP):Prop where
 p:eQ S P
 u:∃U V:List NK,U.length<=n/\V.length<=3*n/\Uni U V W S
 ok:∀h∈P,eZ h
theorem qP(W):PL W 0 (λ_=>False) []:=⟨⟨.nil,(λ_ h=>nomatch h),λ_ h=>h.elim⟩,⟨[],[],bf _,bf _,⟨λ_ h=>h.elim,λ_ h=>h.elim,λ_ h=>h.elim,λ_ h=>h.elim⟩⟩,λ_ h=>nomatch h⟩
theorem P9(hW:W.length<64)(hn:n+m<=12){S:HP->Prop}(p:PL W n S P)(q:PL W m T Q):∃R,PL W (n+m) (λa=>S a\/T a) R/\Gen.Gf [G5 P,G5 Q]=aA (.ol (R.map Z7)):=by obtain⟨U,V,u1,u2,u⟩:=p.u;obtain⟨U',V',v1,v2,v⟩:=q.u;obtain⟨R,r,ok,_,e⟩:=jY u.ne v.ne p.p q.p (jX u v p.p q.p (by omega) (by omega) hW);exact⟨R,⟨r,⟨U++U',V++V',by rw[av];omega,by rw[av];omega,(u.up (λk h=>bu _ h) λk h=>bu _ h).or (v.up (λk h=>bp _ h) λk h=>bp _ h)⟩,ok⟩,e⟩
theorem o5(hW:W.length<64)(pW:∀b w,WP F T w->∀x∈w.tri b,Yh x∈W)(rs)(hr:rs.length<=3)(IY:∀r∈rs,r.length<=3)(b ws)(nd:(ws.map Wk.key).Nodup)(ok:∀w∈ws,WP F T w)(hl:ws.length<=4):∃P,PL W 4 (· ∈ws.map (Os b rs)) P/\Gen.Ja [.str b,Bk ws,.lst (rs.map Yc)]=aA (.ol (P.map Z7)):=by obtain⟨P,p,oo,_,e⟩:=pool_of b rs ws ⟨nd,λw h=>(ok w h).ok,by omega,by have:=Nat.mul_le_mul hl hr;omega,λr h=>by have:=IY r h;omega,by omega⟩ ⟨W,hW,λw hw=>pW b w (ok w hw)⟩;refine⟨P,⟨p,⟨ws.map λw=>Ka b w.key,ws.flatMap λw=>w.marks rs,by rw[ah];exact hl,?_,l8 (λw h=>ax.mpr ⟨w,h,rfl⟩) (λw h m hm=>List.mem_flatMap.mpr ⟨w,h,hm⟩) λw hw=>pW b w (ok w hw)⟩,oo⟩,e⟩;rw[List.length_flatMap];have:=W7 (λw:Wk=>(w.marks rs).length) 3 ws λw _=>dm (G0 _ _ rs 0) hr;omega
noncomputable abbrev G2(p:BW):NK:=Ka p.1 p.2.key
abbrev lnP(rs:List (List Str))(p:BW):HP:=Os p.1 rs p.2
structure Whole(rs:List (List Str))(WS:List BW)(P:List HP):Prop where
 pk:PoolOk P
 kd:∀h∈P,∃t∈h.fs,t.1=Z6
 ht:∀h∈P,HpT h
 nm:∀p∈WS,∃h∈P,G2 p∈h.ns
 tl:∀p∈WS,∀h∈P,G2 p∈h.ns->∀f v,Yl p.2.fs p.2.ts f=aA v->f≠Qg->∃t∈h.fs,t.1=f/\t.2.1=v/\G2 p∈t.2.2
 sh:∀p∈WS,∀q∈WS,∀m,m∈p.2.marks rs->m∈q.2.marks rs->∀h∈P,∀g∈P,G2 p∈h.ns->G2 q∈g.ns->h=g
 ne:∀h∈P,∃p∈WS,G2 p∈h.ns
 one:∀(i j:Nat) (h g:HP) (k:NK),P[i]? =aA h->P[j]? =aA g->k∈h.ns->k∈g.ns->i=j
theorem qO{WS:List BW}(nd:(WS.map Wu).Nodup)(hp:p∈WS)(hq:q∈WS)(e:G2 p=G2 q):p=q:=by
 have e:p.1=q.1/\p.2.key=q.2.key:=by simpa[G2,Ka]using e
 exact Dm nd hp hq (by simp[Wu,e.1,e.2])
theorem whole {W:List NK} (hW:W.length < 64) {rs:List (List Str)} {WS:List BW} (nd:(WS.map Wu).Nodup) (ok:∀ p ∈ WS,eX p.2) {S:HP->Prop} {P:List HP} (pl:PL W 12 S P) (hA:∀ a,S a ↔ ∃ p ∈ WS,a=lnP rs p):Whole rs WS P:=by
  obtain ⟨U,V,u1,u2,u⟩:=pl.u;have sm:=R5 u pl.p;have un:=Mu u pl.p;have mg:∀ h ∈ P,∃ p ∈ WS,eI (eO S (lnP rs p)) h:=λh hh=>by obtain ⟨a,sa,m⟩:=pl.p.each h hh;obtain ⟨p,hp,rfl⟩:=(hA a).mp sa;exact ⟨p,hp,m⟩
  have pn:∀ h ∈ P,(h.fs.map Yh).Nodup:=λh hh=>by
    obtain ⟨a,sa,m⟩:=pl.p.each h hh;exact du.mpr (m.fs_s.imp λ{x y} lt e=>by
      have e:=Sum.inl.inj e;have e1:=(List.cons.inj e).1;have e2:=(List.cons.inj (List.cons.inj e).2).1;have:Wo x=Wo y:=by unfold Wo; rw [e1,e2]
      have lt:Wo x < Wo y:=lt;rw [this] at lt;exact im _ lt)
  have few:∀ h ∈ P,FewT h:=λh hh=>⟨by
    have:=c9 (pn h hh) (l₂:=W) λk hk=>by obtain ⟨x,hx,rfl⟩:=ax.mp hk;exact (un.fs h hh x hx).1
    rw [ah] at this;omega,λt ht=>by have:=(sm.fw h hh).2.2 t ht; omega⟩
  have PX:∀ (p:BW) (x:Js),x ∈ p.2.tri p.1->x.2.2=[G2 p]:=λp x hx=>by obtain ⟨f,_,rfl⟩:=ax.mp hx; rfl
  have mem:∀ p ∈ WS,∀ {q:BW} {h:HP},eI (eO S (lnP rs q)) h->G2 p ∈ h.ns->eO S (lnP rs q) (lnP rs p):=λp hp {q h} m hk=>by obtain ⟨c,cc,kc⟩:=(m.ns_m _).mp hk;obtain ⟨r,hr,rfl⟩:=(hA c).mp cc.right;have:=qO nd hp hr (aj.mp kc);rw [this]; exact cc
  have wY:∀ (p:BW),eX p.2->∀ f v,Yl p.2.fs p.2.ts f=aA v->f≠Qg->(f,v,[G2 p]) ∈ p.2.tri p.1:=λp RB f v hv hn=>by have hf:f ∈ p.2.fs:=(Gn p.2.fs p.2.ts f RB.len).mpr (by rw [hv]; rfl);have nk:f≠Z6:=λe=>RB.nk (by rw [<- e]; exact hf);refine ax.mpr ⟨f,List.mem_filter.mpr ⟨bu _ hf,by simpa using hn⟩,?_⟩;have vk:=Mv RB.len RB.nk p.2.kind f;show (f,p.2.val f,[G2 p])=_;unfold Wk.val Wk.at' Wk.vt;rw [vk,dF nk,hv]; rfl
  have kin:∀ p:BW,eX p.2->(Z6,p.2.kind,[G2 p]) ∈ p.2.tri p.1:=λp RB=>by refine ax.mpr ⟨Z6,List.mem_filter.mpr ⟨bp _ ac,by simpa using λz=>xi z.symm⟩,?_⟩;have vk:=Mv RB.len RB.nk p.2.kind Z6;show (Z6,p.2.val Z6,[G2 p])=_;unfold Wk.val Wk.at' Wk.vt;rw [vk,dG rfl]; rfl
  have ap:=Fq pl.p;refine ⟨⟨few,by have:=sm.ln; omega,λh hh k hk=>(un.ns h hh k hk).2,λh hh t ht=>?_⟩,λh hh=>?_,λh hh=>⟨few h hh,pn h hh,λt ht k hk=>(un.ns h hh k ((un.fs h hh t ht).2 k hk)).2⟩,λp hp=>?_,λp hp h hh hk f v hv hn=>?_,λp hp q hq m v5 hm2 h hh g hg k1 k2=>?_,λh hh=>?_,λi j h g k hi hj k1 k2=>?_⟩
  · obtain ⟨q,hq,m⟩:=mg h hh
    obtain ⟨a,ca,l,hl⟩:=(m.fs_m t.1 t.2.1).mp ⟨t.2.2,ht⟩;obtain ⟨r,hr,rfl⟩:=(hA a).mp ca.right;have el:l=[G2 r]:=PX r _ hl;refine ⟨λz=>?_,λk hk=>?_⟩
    · have:=((m.fs_l t ht).2 (G2 r)).mpr ⟨_,ca,l,hl,by rw [el]; exact aj.mpr rfl⟩
      rw [z] at this; cases this
    · obtain ⟨a',ca',l',WO,XO⟩:=((m.fs_l t ht).2 k).mp hk
      obtain ⟨r',M',rfl⟩:=(hA a').mp ca'.right;have ue:l'=[G2 r']:=PX r' _ WO;rw [ue] at XO;exact ⟨r'.1,r'.2.key,aj.mp XO⟩
  · obtain ⟨q,hq,m⟩:=mg h hh
    obtain ⟨l,hl⟩:=(m.fs_m Z6 q.2.kind).mpr ⟨_,.here ((hA _).mpr ⟨q,hq,rfl⟩),_,kin q (ok q hq)⟩;exact ⟨_,hl,rfl⟩
  · obtain ⟨h,hh,m⟩:=pl.p.all (lnP rs p) ((hA _).mpr ⟨p,hp,rfl⟩)
    exact ⟨h,hh,(m.ns_m _).mpr ⟨_,.here ((hA _).mpr ⟨p,hp,rfl⟩),aj.mpr rfl⟩⟩
  · obtain ⟨q,hq,m⟩:=mg h hh
    have c:=mem p hp m hk;have hi:=wY p (ok p hp) f v hv hn;obtain ⟨l,hl⟩:=(m.fs_m f v).mpr ⟨_,c,_,hi⟩;exact ⟨_,hl,rfl,rfl,((m.fs_l _ hl).2 (G2 p)).mpr ⟨_,c,_,hi,aj.mpr rfl⟩⟩
  · obtain ⟨x,hx,mx⟩:=mg h hh
    obtain ⟨y,hy,my⟩:=mg g hg;have c1:=mem p hp mx k1;have c2:=mem q hq my k2;have c3:eO S (lnP rs x) (lnP rs q):=.step c1 ((hA _).mpr ⟨q,hq,rfl⟩) ⟨m,bp _ v5,bp _ hm2⟩;exact mx.uniq my λa=>⟨λz=>c2.trans (c3.symm.trans z),λz=>c3.trans (c2.symm.trans z)⟩
  · obtain ⟨q,hq,m⟩:=mg h hh
    exact ⟨q,hq,(m.ns_m _).mpr ⟨_,.here ((hA _).mpr ⟨q,hq,rfl⟩),aj.mpr rfl⟩⟩
  · have hi':=aw.mp hi
    have hj':=aw.mp hj;obtain ⟨li,ei⟩:=hi';obtain ⟨lj,ej⟩:=hj';have pw:=List.pairwise_iff_getElem.mp ap;rcases Nat.lt_trichotomy i j with z | z | z
    · exact dM (bu _ (by rw [ej]; exact k2)) (pw i j li lj z k (bu _ (by rw [ei]; exact k1)))
    · exact z
    · exact dM (bu _ (by rw [ei]; exact k1)) (pw j i lj li z k (bu _ (by rw [ej]; exact k2)))
theorem l7(w:Whole rs WS P):∃J:BW->Nat,∀p∈WS,Gen.Yn [G5 P,Zr (G2 p)]=aA (.fz (.int (J p:Int)))/\∃h,P[J p]? =aA h/\G2 p∈h.ns:=by
 have one:∀p:BW,∃j:Nat,p∈WS->Gen.Yn [G5 P,Zr (G2 p)]=aA (.fz (.int (j:Int)))/\∃h,P[j]? =aA h/\G2 p∈h.ns:=λp=>by
  by_cases hp:p∈WS
  .rcases heap_of P w.pk.nm (G2 p) ⟨p.1,[p.2.key],rfl⟩with⟨j,h,h1,h2,e⟩|⟨no,_⟩
   .exact⟨j,λ_=>⟨e,h,h1,h2⟩⟩
   .obtain⟨h,hh,hk⟩:=w.nm p hp;exact dM hk (no h hh)
  .exact⟨0,λz=>dM z hp⟩
 exact⟨λp=>Classical.choose (one p),λp hp=>Classical.choose_spec (one p) hp⟩
theorem Tr(A2 A3 s4 s5 x8 ND BD RD P0 Q R PD SD PK SK kk c5 b)(h4:s4=aA (.ol RD)\/s4=aA (.fz (.lst RD)))(h5:s5=aA (.oT PK PD)\/s5=aA (.fz (.dT PK PD)))(hc:Gen.Zx [.lst ND,.int 5]=aA (.fz (.int c5)))(ha:L2.atI BD ((kk+c5) % 3)=aA (.str b))(hs:Gen.Jc [.dT PK PD,.str b]=aA (.oK SK SD))(hp:Gen.Ja [.str b,.dK SK SD,.lst RD]=aA (.ol Q))(hr:Gen.Gf [.lst P0,.lst Q]=aA (.ol R)):
  Gen.Ax [aA (.fz (.lst ND)),aA (.fz (.lst BD)),A2,A3,s4,s5,aA (.ol P0),aA (.fz (.int kk)),x8,aB,aB,aB,aB,aB,aB,aB,aB,aB]=aA (.nx [aA (.fz (.lst ND)),aA (.fz (.lst BD)),A2,A3,aA (.fz (.lst RD)),aA (.fz (.dT PK PD)),aA (.ol R),aA (.fz (.int kk)),aA (.fz (.str b)),aB,aB,aB,aB,aB,aB,aB,aB,aB]):=by
 unfold Gen.Ax;rcases h4 with rfl|rfl<;> rcases h5 with rfl|rfl<;> simp[hc,ha,hs,hp,hr]
theorem D6(A0 A1 A2 A3 A4 A7 A8 SM SL PO PD vs TD TD')(PK TK wO:List (List L2.Key))(LK:List L2.Key)(jj b k l d hD)(ho:Gen.Yn [.lst PO,.tup [.str b,.str k]]=aA (.fz (.int jj)))(le:Gen.Oh [.int jj]=aA (.fz (.str l)))(lk:look LK vs (cw l)=aA d)(ha:L2.atI PO jj=aA hD)(th:Gen.Jb [.dT PK PD,.tup [.str b,.str k],hD,d]=aA (.fz (.bl aC)))(pp:Wf TK TD [cw b,cw k] (.int jj)=(wO,TD'))(zl:TD.length<cf):
  Gen.Mt [A0,A1,A2,A3,A4,aA (.fz (.dT PK PD)),aA (.fz (.lst PO)),A7,A8,aA (.oK LK vs),aA (.oT TK TD),aA (.fz (.tup [.str b,.str k])),SM,SL,aB,aB,aB,aB]=aA (.nx [A0,A1,A2,A3,A4,aA (.fz (.dT PK PD)),aA (.fz (.lst PO)),A7,A8,aA (.oK LK vs),aA (.oT wO TD'),aA (.fz (.tup [.str b,.str k])),aA (.fz (.int jj)),aA (.fz d),aB,aB,aB,aB]):=by
 unfold Gen.Mt;exact Ou
theorem D7(A0 A1 A2 A3 A4 A5 A6 A7 A8 A9 Z' Z_ YH)(ks:List NK)(ds QB TD)(ZJ:List NK)(TK)(m:NK)(b k b' k' jj)(hs:Be 16 14 (Za 15) (Za 11) [A0,A1,A2,A3,A4,A5,A6,A7,A8,A9,aA (.oT TK TD),aA (.fz (.tup [.str b,.str k])),Z',Z_,aA (.oM ks ds),aA (.fz (Zr m)),YH,aB]=aA (.nx [A0,A1,A2,A3,A4,A5,A6,A7,A8,A9,aA (.oT TK TD),aA (.fz (.tup [.str b,.str k])),Z',Z_,aA (.oM ZJ QB),aA (.fz (Zr m)),aA (.fz (.tup [.str b',.str k'])),aB]))(l1:look TK TD [cw b',cw k']=aA (.int jj))(l2:look TK TD [cw b,cw k]=aA (.int jj)):
  Gen.Ay [A0,A1,A2,A3,A4,A5,A6,A7,A8,A9,aA (.oT TK TD),aA (.fz (.tup [.str b,.str k])),Z',Z_,aA (.oM ks ds),aA (.fz (Zr m)),YH,aB]=aA (.nx [A0,A1,A2,A3,A4,A5,A6,A7,A8,A9,aA (.oT TK TD),aA (.fz (.tup [.str b,.str k])),Z',Z_,aA (.oM ZJ QB),aA (.fz (Zr m)),aA (.fz (.tup [.str b',.str k'])),aB]):=by
 unfold Gen.Ay;exact Ou
theorem l6(A0 A1 A2 A3 A4 A5 A6 A7 A8 A9 YC Z' Z_ YH)(ks:List NK)(ds)(m:NK)(i nm d)(hl:ds.length<cf)(hp:Ys ks m=aA i)(hd:ds[i]? =aA d):
  Be 16 14 (Za 15) (Za 11) [A0,A1,A2,A3,A4,A5,A6,A7,A8,A9,YC,aA (.fz nm),Z',Z_,aA (.oM ks ds),aA (.fz (Zr m)),YH,aB]=aA (.nx [A0,A1,A2,A3,A4,A5,A6,A7,A8,A9,YC,aA (.fz nm),Z',Z_,aA (.oM ks ds),aA (.fz (Zr m)),aA (.fz d),aB]):=by
 unfold Be;simp[hl,hp,hd,-Ys]
theorem l5(A0 A1 A2 A3 A4 A5 A6 A7 A8 A9 YC Z' Z_ YH)(ks:List NK)(ds)(m:NK)(nm)(hl:ds.length<cf)(hp:Ys ks m=aB):
  Be 16 14 (Za 15) (Za 11) [A0,A1,A2,A3,A4,A5,A6,A7,A8,A9,YC,aA (.fz nm),Z',Z_,aA (.oM ks ds),aA (.fz (Zr m)),YH,aB]=aA (.nx [A0,A1,A2,A3,A4,A5,A6,A7,A8,A9,YC,aA (.fz nm),Z',Z_,aA (.oM (ks++[m]) (ds++[nm])),aA (.fz (Zr m)),aA (.fz nm),aB]):=by
 unfold Be;simp[hl,hp,-Ys]
theorem rot(bs:List Str)(hb:bs.length=3)(c):∃y0 y1 y2,L2.atI (bs.map D.str) ((0+c) % 3)=aA (.str y0)/\L2.atI (bs.map D.str) ((1+c) % 3)=aA (.str y1)/\L2.atI (bs.map D.str) ((2+c) % 3)=aA (.str y2)/\∀x∈bs,x=y0\/x=y1\/x=y2:=by
 match bs,hb with
 | [a,b,d],_=>
  have o:c % 3=0\/c % 3=1\/c % 3=2:=by omega
  rcases o with o|o|o
  .refine⟨a,b,d,?_,?_,?_,λx hx=>by simpa using hx⟩
   .rw[show(0+c) % 3=0 by omega];rfl
   .rw[show(1+c) % 3=1 by omega];rfl
   .rw[show(2+c) % 3=2 by omega];rfl
  .refine⟨b,d,a,?_,?_,?_,λx hx=>?_⟩
   .rw[show(0+c) % 3=1 by omega];rfl
   .rw[show(1+c) % 3=2 by omega];rfl
   .rw[show(2+c) % 3=0 by omega];rfl
   .simp only[b7,List.not_mem_nil,or_false]at hx;rcases hx with h|h|h
    .exact .inr (.inr h)
    .exact .inl h
    .exact .inr (.inl h)
  .refine⟨d,a,b,?_,?_,?_,λx hx=>?_⟩
   .rw[show(0+c) % 3=2 by omega];rfl
   .rw[show(1+c) % 3=0 by omega];rfl
   .rw[show(2+c) % 3=1 by omega];rfl
   .simp only[b7,List.not_mem_nil,or_false]at hx;rcases hx with h|h|h
    .exact .inr (.inl h)
    .exact .inr (.inr h)
    .exact .inl h
theorem jW{W:List NK}(hW:W.length<64)(pW:∀b w,WP F T w->∀x∈w.tri b,Yh x∈W)(rs)(hr:rs.length<=3)(IY:∀r∈rs,r.length<=3)(bs:List Str)(hb:bs.length=3)(WS)(nd:(WS.map Wu).Nodup)(hl:WS.length<=100)(ok:∀p∈WS,WP F T p.2)(mem:∀p∈WS,p.1∈bs)(wu:∀b,(O8 WS b).length<=4)(ND c5)(hc:Gen.Zx [.lst ND,.int 5]=aA (.fz (.int c5)))(A2 A3):
  ∃(P:List HP) (y8:Option SV),Whole rs WS P/\Yb (Zd 7) Gen.Ax [.int 0,.int 1,.int 2] [aA (.fz (.lst ND)),aA (.fz (.lst (bs.map D.str))),A2,A3,aA (.ol (rs.map Yc)),aA (.oT (WS.map Wu) (WS.map Rj)),aA (.ol []),aB,aB,aB,aB,aB,aB,aB,aB,aB,aB,aB]=aA (.nx [aA (.fz (.lst ND)),aA (.fz (.lst (bs.map D.str))),A2,A3,aA (.fz (.lst (rs.map Yc))),aA (.fz (.dT (WS.map Wu) (WS.map Rj))),aA (.ol (P.map Z7)),aA (.fz (.int 2)),y8,aB,aB,aB,aB,aB,aB,aB,aB,aB]):=by
 obtain⟨y0,y1,y2,a0,a1,a2,al⟩:=rot bs hb c5;have QC:∀b:Str,∃P,PL W 4 (· ∈(O8 WS b).map (Os b rs)) P/\Gen.Ja [.str b,Bk (O8 WS b),.lst (rs.map Yc)]=aA (.ol (P.map Z7)):=λb=>o5 hW pW rs hr IY b (O8 WS b) (D4 nd b) (λw h=>ok (b,w) (Ed.mp h)) (wu b);obtain⟨Q0,q0,p0⟩:=QC y0;obtain⟨Q1,q1,p1⟩:=QC y1;obtain⟨Q2,q2,p2⟩:=QC y2;obtain⟨R0,r0,e0⟩:=P9 hW (by omega) (qP W) q0;obtain⟨R1,r1,e1⟩:=P9 hW (by omega) r0 q1;obtain⟨R2,r2,e2⟩:=P9 hW (by omega) r1 q2;have sf:=j9 WS nd hl;have t0:=Tr A2 A3 _ _ aB ND (bs.map D.str) (rs.map Yc) _ _ _ (WS.map Rj) _ (WS.map Wu) _ 0 c5 y0 (.inl rfl) (.inl rfl) hc a0 (sf y0) p0 e0;have t1:=Tr A2 A3 _ _ (aA (.fz (.str y0))) ND (bs.map D.str) (rs.map Yc) _ _ _ (WS.map Rj) _ (WS.map Wu) _ 1 c5 y1 (.inr rfl) (.inr rfl) hc a1 (sf y1) p1 e1;have t2:=Tr A2 A3 _ _ (aA (.fz (.str y1))) ND (bs.map D.str) (rs.map Yc) _ _ _ (WS.map Rj) _ (WS.map Wu) _ 2 c5 y2 (.inr rfl) (.inr rfl) hc a2 (sf y2) p2 e2;refine⟨R2,aA (.fz (.str y2)),whole hW nd (λp hp=>(ok p hp).ok) r2 λa=>⟨λz=>?_,λ⟨p,hp,e⟩=>?_⟩,?_⟩
 .have one:∀y:Str,a∈(O8 WS y).map (Os y rs)->∃p∈WS,a=lnP rs p:=λy h=>by obtain⟨w,hw,rfl⟩:=ax.mp h;exact⟨(y,w),Ed.mp hw,rfl⟩
  rcases z with((z|z)|z)|z
  .exact z.elim
  .exact one y0 z
  .exact one y1 z
  .exact one y2 z
 .have one:∀y:Str,p.1=y->a∈(O8 WS y).map (Os y rs):=λy h=>by subst h;exact ax.mpr ⟨p.2,Ed.mpr hp,e.symm⟩
  rcases al p.1 (mem p hp)with h|h|h
  .exact .inl (.inl (.inr (one y0 h)))
  .exact .inl (.inr (one y1 h))
  .exact .inr (one y2 h)
 .refine(Y5 ?_ t0).trans ((Y5 ?_ t1).trans ((Y5 ?_ t2).trans rfl))<;> simp
theorem o4(nb:bs.Nodup)(nk:ks.Nodup)(hk:ks.length=4)(s:Wks bs ks F k P)(b):(O8 P b).length<=4:=by
 have:=c9 (D4 (zD nb nk s) b) (l₂:=ks) λx hx=>by obtain⟨w,hw,rfl⟩:=ax.mp hx;obtain⟨i,hi,e⟩:=dy (Ed.mp hw);have:=(s.at' i _ (ar hi)).2;rw[e]at this;exact bz this
 rw[ah]at this;omega
theorem qN(s:Wks bs ks F k P)(p)(hp:p∈P):p.1∈bs:=by obtain⟨i,hi,e⟩:=dy hp;have:=(s.at' i _ (ar hi)).1;rw[e]at this;exact bz this
theorem Mw(f):∀{P:List BW},(P.map Wu).Nodup->∀p∈P,look (P.map Wu) (P.map f) [cw p.1,cw p.2.key]=aA (f p)
 | [],_,p,h=>nomatch h
 |q::P,nd,p,h=>by
  obtain⟨n1,n2⟩:=eh.mp nd;show(if Wu q=Wu p then aA (f q)else look (P.map Wu) (P.map f) (Wu p))=_;rcases b7.mp h with z|z
  .rw[z,dG rfl]
  .rw[dF λe=>n1 (by rw[e];exact List.mem_map_of_mem z)];exact Mw f n2 p z
noncomputable abbrev jD(J:BW->Nat)(p:BW):D:=.int (J p:Int)
theorem T8(nd:(WS.map Wu).Nodup)(hl:WS.length<=100)(ok:∀p∈WS,eX p.2)(w:Whole rs WS P)(vl:vs.length=P.length)(hv:∀(j:Nat) h,P[j]? =aA h->∃d,vs[j]? =aA d/\ShV h d)(hJ:∀p∈WS,Gen.Yn [G5 P,Zr (G2 p)]=aA (.fz (.int (J p:Int)))/\∃h,P[J p]? =aA h/\G2 p∈h.ns)(A0 A1 A2 A3 A4 A7 A8):
  ∀xs ds YB SM SL,ds++xs=WS->∃YX PU PR,
  Yb (Zd 11) Gen.Mt (xs.map λp=>D.tup [.str p.1,.str p.2.key]) [A0,A1,A2,A3,A4,aA (.fz (.dT (WS.map Wu) (WS.map Rj))),aA (.fz (G5 P)),A7,A8,aA (.oK (Z0 (P6 P.length)) vs),aA (.oT (ds.map Wu) (ds.map (jD J))),YB,SM,SL,aB,aB,aB,aB]=aA (.nx [A0,A1,A2,A3,A4,aA (.fz (.dT (WS.map Wu) (WS.map Rj))),aA (.fz (G5 P)),A7,A8,aA (.oK (Z0 (P6 P.length)) vs),aA (.oT (WS.map Wu) (WS.map (jD J))),YX,PU,PR,aB,aB,aB,aB])
 | [],ds,YB,SM,SL,e=>⟨YB,SM,SL,by rw[List.append_nil]at e;rw[e];rfl⟩
 |p::xs,ds,YB,SM,SL,e=>by
  have hp:p∈WS:=by rw[<-e];simp
  obtain⟨ho,h,ph,hn⟩:=hJ p hp;obtain⟨d,hd,sv⟩:=hv _ _ ph;have lt:J p<P.length:=(aw.mp ph).1;have hh:h∈P:=bz ph;have le:=Tq (J p) (by have:=w.pk.len;omega);have lk:=kA vl hd;have ha:L2.atI (P.map Z7) (J p:Int)=aA (Z7 h):=Cn _ _ _ (by rw[az,ph];rfl);have th:=jZ WS nd p hp (ok p hp) h (w.ht h hh) d sv (w.tl p hp h hh hn);have fr:Wu p∉ds.map Wu:=λz=>by rw[<-e,b8,ay]at nd;exact(cz.mp nd).2.2 _ z (Wu p) (by simp) rfl
  have pp:Wf (ds.map Wu) (ds.map (jD J)) (Wu p) (.int (J p:Int))=((ds++[p]).map Wu,(ds++[p]).map (jD J)):=by unfold Wf;rw[dF (by simpa using fr)];simp
  have zl:(ds.map (jD J)).length<PySem.sizeLine:=Z9 (by
   rw[ah];have:=congrArg List.length e;rw[av]at this;omega)
  have t:=D6 A0 A1 A2 A3 A4 A7 A8 SM SL (P.map Z7) (WS.map Rj) vs (ds.map (jD J)) _ (WS.map Wu) (ds.map Wu) _ (Z0 (P6 P.length)) (J p:Int) p.1 p.2.key _ d (Z7 h) ho le lk ha th pp zl;obtain⟨YX,PU,PR,ih⟩:=T8 nd hl ok w vl hv hJ A0 A1 A2 A3 A4 A7 A8 xs (ds++[p]) (aA (.fz (.tup [.str p.1,.str p.2.key]))) (aA (.fz (.int (J p:Int)))) (aA (.fz d)) (by rw[<-e];simp);refine⟨YX,PU,PR,?_⟩;rw[ay];exact(Y5 (by simp) t).trans ih
structure Seen(rs:List (List Str))(WS:List BW)(ks:List NK)(qs:List BW):Prop where
 len:ks.length=qs.length
 at':∀(i:Nat) (m:NK) (q:BW),ks[i]? =aA m->qs[i]? =aA q->q∈WS/\m∈q.2.marks rs
theorem Nj{m:NK}:∀{ks:List NK} {i:Nat},Ys ks m=aA i->ks[i]? =aA m
 | [],i,e=>by cases e
 |k::ks,i,e=>by
  unfold Ys at e;split at e
  .rename_i h;cases e;rw[h];rfl
  .obtain⟨j,hj,rfl⟩:=cu.mp e;rw[List.getElem?_cons_succ];exact Nj hj
theorem tQ(w:Whole rs WS P){J:BW->Nat}(hJ:∀p∈WS,Gen.Yn [G5 P,Zr (G2 p)]=aA (.fz (.int (J p:Int)))/\∃h,P[J p]? =aA h/\G2 p∈h.ns)(hp:p∈WS)(hq:q∈WS)(m1:m∈p.2.marks rs)(m2:m∈q.2.marks rs):J p=J q:=by obtain⟨_,h,h1,h2⟩:=hJ p hp;obtain⟨_,g,g1,g2⟩:=hJ q hq;have e:=w.sh p hp q hq m m1 m2 h (bz h1) g (bz g1) h2 g2;rw[e]at h1 h2;exact w.one _ _ g g _ h1 g1 h2 h2
noncomputable abbrev Ts(q:BW):D:=.tup [.str q.1,.str q.2.key]
abbrev fSt(A0 A1 A2 A3:Option SV)(rs:List (List Str))(WS:List BW)(A6 A7 A8 A9:Option SV)(J:BW->Nat)(YB Z' Z_:Option SV)(ks:List NK)(qs:List BW)(WY YH:Option SV):Yy:=[A0,A1,A2,A3,aA (.fz (.lst (rs.map Yc))),aA (.fz (.dT (WS.map Wu) (WS.map Rj))),A6,A7,A8,A9,aA (.oT (WS.map Wu) (WS.map (jD J))),YB,Z',Z_,aA (.oM ks (qs.map Ts)),WY,YH,aB]
theorem Fy(nd:(WS.map Wu).Nodup)(w:Whole rs WS P)(hJ:∀p∈WS,Gen.Yn [G5 P,Zr (G2 p)]=aA (.fz (.int (J p:Int)))/\∃h,P[J p]? =aA h/\G2 p∈h.ns)(A0 A1 A2 A3 A6 A7 A8 A9 Z' Z_)(hp:p∈WS):
  ∀(ms ks:List NK) qs WY YH,(∀m∈ms,m∈p.2.marks rs)->Seen rs WS ks qs->ks.length+ms.length<=900->∃(ZJ:List NK) (TF:List BW) (SJ SH:Option SV),Seen rs WS ZJ TF/\ZJ.length<=ks.length+ms.length/\
  Yb (Zd 15) Gen.Ay (ms.map Zr) (fSt A0 A1 A2 A3 rs WS A6 A7 A8 A9 J (aA (.fz (Ts p))) Z' Z_ ks qs WY YH)=aA (.nx (fSt A0 A1 A2 A3 rs WS A6 A7 A8 A9 J (aA (.fz (Ts p))) Z' Z_ ZJ TF SJ SH))
 | [],ks,qs,WY,YH,_,s,_=>⟨ks,qs,WY,YH,s,bf _,rfl⟩
 |m::ms,ks,qs,WY,YH,hm,s,hl=>by
  rw[bc]at hl;have zl:(qs.map Ts).length<PySem.sizeLine:=Z9 (by rw[ah,<-s.len];omega);have l2:=Mw (jD J) nd p hp;have mp:=hm m ac;have st:∃(WJ:List NK) (TC:List BW) (q:BW),Seen rs WS WJ TC/\WJ.length<=ks.length+1/\q∈WS/\m∈q.2.marks rs/\
    Be 16 14 (Za 15) (Za 11) (fSt A0 A1 A2 A3 rs WS A6 A7 A8 A9 J (aA (.fz (Ts p))) Z' Z_ ks qs (aA (.fz (Zr m))) YH)=aA (.nx (fSt A0 A1 A2 A3 rs WS A6 A7 A8 A9 J (aA (.fz (Ts p))) Z' Z_ WJ TC (aA (.fz (Zr m))) (aA (.fz (Ts q))))):=by
   rcases ZI:Ys ks m with _|i
   .refine⟨ks++[m],qs++[p],p,⟨by rw[av,av,s.len];rfl,λi m' q h1 h2=>?_⟩,by simp,hp,mp,?_⟩
    .rcases dv i ks.length with z|z
     .rw[ci z]at h1;rw[ci (by rw[<-s.len];exact z)]at h2;exact s.at' i m' q h1 h2
     .rw[dr z]at h1;rw[dr (by rw[<-s.len];exact z)]at h2;have h1:=aj.mp (bz h1);have h2:=aj.mp (bz h2);rw[h1,h2];exact⟨hp,mp⟩
    .have:=l5 A0 A1 A2 A3 (aA (.fz (.lst (rs.map Yc)))) (aA (.fz (.dT (WS.map Wu) (WS.map Rj)))) A6 A7 A8 A9 (aA (.oT (WS.map Wu) (WS.map (jD J)))) Z' Z_ YH ks (qs.map Ts) m (Ts p) zl ZI;unfold fSt;rw[b8];exact this
   .have hk:=Nj ZI;have li:i<qs.length:=by rw[<-s.len];exact(aw.mp hk).1
    obtain⟨a,b⟩:=s.at' i m _ hk (ar li);refine⟨ks,qs,qs[i],s,by omega,a,b,?_⟩;exact l6 A0 A1 A2 A3 (aA (.fz (.lst (rs.map Yc)))) (aA (.fz (.dT (WS.map Wu) (WS.map Rj)))) A6 A7 A8 A9 (aA (.oT (WS.map Wu) (WS.map (jD J)))) Z' Z_ YH ks (qs.map Ts) m i (Ts p) _ zl ZI (by rw[az,ar li];rfl)
  obtain⟨WJ,TC,q,s1,l1,hq,mq,e⟩:=st;have lq:=Mw (jD J) nd q hq;have ej:=tQ w hJ hq hp mq mp;have lq:look (WS.map Wu) (WS.map (jD J)) [cw q.1,cw q.2.key]=aA (.int (J p:Int)):=by rw[lq,<-ej]
  have t:=D7 A0 A1 A2 A3 (aA (.fz (.lst (rs.map Yc)))) (aA (.fz (.dT (WS.map Wu) (WS.map Rj)))) A6 A7 A8 A9 Z' Z_ YH ks (qs.map Ts) (TC.map Ts) (WS.map (jD J)) WJ (WS.map Wu) m p.1 p.2.key q.1 q.2.key (J p:Int) e lq l2;obtain⟨ZJ,TF,SJ,SH,s',l',ih⟩:=Fy nd w hJ A0 A1 A2 A3 A6 A7 A8 A9 Z' Z_ hp ms WJ TC (aA (.fz (Zr m))) (aA (.fz (Ts q))) (λx hx=>hm x (ao _ hx)) s1 (by omega);refine⟨ZJ,TF,SJ,SH,s',by rw[bc];omega,?_⟩;rw[ay];refine(Y5 ?_ t).trans ih;unfold fSt;generalize Zr m=MD;simp
theorem T9(hr:∀r∈rs,r.length<=100)(hn:rs.length<=3)(nd:(WS.map Wu).Nodup)(ok:∀p∈WS,eX p.2)(w:Whole rs WS P)(hJ:∀p∈WS,Gen.Yn [G5 P,Zr (G2 p)]=aA (.fz (.int (J p:Int)))/\∃h,P[J p]? =aA h/\G2 p∈h.ns)(A0 A1 A2 A3 A6 A7 A8 A9 Z' Z_):
  ∀(xs:List BW) ks qs YB WY YH,(∀p∈xs,p∈WS)->Seen rs WS ks qs->ks.length+3*xs.length<=900->∃(ZJ:List NK) (TF:List BW) (YX SJ SH:Option SV),
  Yb (Zd 11) Gen.Az (xs.map Ts) (fSt A0 A1 A2 A3 rs WS A6 A7 A8 A9 J YB Z' Z_ ks qs WY YH)=aA (.nx (fSt A0 A1 A2 A3 rs WS A6 A7 A8 A9 J YX Z' Z_ ZJ TF SJ SH))
 | [],ks,qs,YB,WY,YH,_,_,_=>⟨ks,qs,YB,WY,YH,rfl⟩
 |p::xs,ks,qs,YB,WY,YH,hx,s,hl=>by
  rw[bc]at hl;have hp:=hx p ac;have ml:(p.2.marks rs).length<=3:=dm (G0 _ _ rs 0) hn;obtain⟨WJ,TC,JF,JE,s1,l1,lo⟩:=Fy nd w hJ A0 A1 A2 A3 A6 A7 A8 A9 Z' Z_ hp (p.2.marks rs) ks qs WY YH (λ_ h=>h) s (by omega);obtain⟨ZJ,TF,YX,SJ,SH,ih⟩:=T9 hr hn nd ok w hJ A0 A1 A2 A3 A6 A7 A8 A9 Z' Z_ xs WJ TC (aA (.fz (Ts p))) JF JE (λq h=>hx q (ao _ h)) s1 (by omega);refine⟨ZJ,TF,YX,SJ,SH,?_⟩;have lm:=ja rs p.2 (ok p hp) hr (by omega);have l:=Ec nd p hp;have t:Gen.Az (fSt A0 A1 A2 A3 rs WS A6 A7 A8 A9 J (aA (.fz (Ts p))) Z' Z_ ks qs WY YH)=aA (.nx (fSt A0 A1 A2 A3 rs WS A6 A7 A8 A9 J (aA (.fz (Ts p))) Z' Z_ WJ TC JF JE)):=by unfold Gen.Az;unfold fSt at*;exact Ou
  rw[ay];refine(Y5 ?_ t).trans ih;unfold fSt;simp
theorem jV(ns:List Int):∃ms:List Int,S2 (ns.map D.int) (aA 6) (aA 18)=ms.map D.int/\ms.length<=12:=by
 obtain⟨ms,e,_⟩:=n8 ns (aA 6) (aA 18);refine⟨ms,e,?_⟩;have h:(S2 (ns.map D.int) (aA 6) (aA 18)).length<=12:=by unfold S2;rw[List.length_take];have e1:HT.sIx (ns.map D.int).length (ns.map D.int).length (aA 18)=min 18 (ns.map D.int).length:=HT.sIx_nat _ _ 18;have e2:HT.sIx (ns.map D.int).length 0 (aA 6)=min 6 (ns.map D.int).length:=HT.sIx_nat _ _ 6;omega
 rw[e,ah]at h;exact h
theorem Xl{WS:List BW}(nd:(WS.map Wu).Nodup)(J):∀xs ds:List BW,(∀p∈xs,p∈WS)->ds.length+xs.length<=900->
  Yd [.own,.cap 10,.acc] 2 (Zd 0) W3 Gen.Ea (xs.map Ts) [aB,aA (.fz (.dT (WS.map Wu) (WS.map (jD J)))),aA (.ol (ds.map (jD J)))]=aA [aB,aA (.fz (.dT (WS.map Wu) (WS.map (jD J)))),aA (.ol ((ds++xs).map (jD J)))]
 | [],ds,_,_=>by rw[List.append_nil];simp
 |p::xs,ds,hx,hz=>by
  rw[bc]at hz;have ih:=Xl nd J xs (ds++[p]) (λq h=>hx q (ao _ h)) (by rw[av,fu];omega);rw[d7,b8]at ih;rw[show[p].map (jD J)=[jD J p]from rfl]at ih;have e5:(ds++([p]++xs)).map (jD J)=(ds++p::xs).map (jD J):=rfl;rw[e5]at ih;have z1:(ds.map (jD J)).length<PySem.sizeLine:=Z9 (by rw[ah];omega);have l:=Mw (jD J) nd p (hx p ac);have e1:∀q,Gen.Ea [aA (.fz (Ts p)),aA (.fz (.dT (WS.map Wu) (WS.map (jD J)))),aA (.ol q)]=aA (.tmp (.fz (jD J p)),[aA (.fz (Ts p)),aA (.fz (.dT (WS.map Wu) (WS.map (jD J)))),aA (.ol q)]):=λq=>by unfold Gen.Ea;exact Ou
  rw[ay];generalize (ds++p::xs).map (jD J)=RR at*;generalize ds.map (jD J)=D0,WS.map Wu=PK,WS.map (jD J)=JD,Ts p=MD,jD J p=VD at*;unfold Yd;simp[e1,z1,-Yd];simpa[-Yd]using ih
theorem xF:∀xs zs,zs.length+xs.length<=900->Yd [.own,.acc] 1 (Zd 0) W3 Gen.Pz xs [aB,aA (.ol zs)]=aA [aB,aA (.ol (zs++xs))]
 | [],zs,_=>by simp
 |x::xs,zs,hz=>by rw[bc]at hz;have ih:=xF xs (zs++[x]) (by rw[av,fu];omega);rw[d7]at ih;have z1:zs.length<PySem.sizeLine:=Z9 (by omega);unfold Yd;unfold Gen.Pz at*;simp[z1,-Yd];simpa[-Yd]using ih
theorem o0(w:Whole rs WS P){J:BW->Nat}(hJ:∀p∈WS,Gen.Yn [G5 P,Zr (G2 p)]=aA (.fz (.int (J p:Int)))/\∃h,P[J p]? =aA h/\G2 p∈h.ns):L2.Vr (WS.map λp=>(J p:Int))=(c6 P.length).map λn:Nat=>(n:Int):=by
 refine PySem.W.lks_uniq ((L2.Ic _).trans ?_) (L2.ye _) ?_
 .rw[List.perm_ext_iff_of_nodup (L2.Vo _ _) (du.mpr (List.nodup_range.imp λh e=>h (by omega)))];intro k;rw[L2.yg];constructor
  .rintro⟨j,hj,e⟩;rw[ah]at hj;have hp:WS[j]∈WS:=gz hj;obtain⟨_,h,h1,_⟩:=hJ _ hp;have e:(J WS[j]:Int)=k:=by rw[<-e];simp[hj]
   exact ax.mpr ⟨J WS[j],c8.mpr (aw.mp h1).1,e⟩
  .intro hk;obtain⟨n,hn,rfl⟩:=ax.mp hk;have hn:=c8.mp hn;obtain⟨p,hp,hk⟩:=w.ne P[n] (gz hn);obtain⟨_,h,h1,h2⟩:=hJ p hp;have ej:=w.one (J p) n h P[n] _ h1 (ar hn) h2 hk;obtain⟨j,hj,e⟩:=dy hp;exact⟨j,by rw[ah];exact hj,by simp[hj,e,ej]⟩
 .exact du.mpr (List.pairwise_lt_range.imp λh=>by omega)
theorem oz(ns:List Int):W2 48 (.lst (ns.map D.int)) (.lst (ns.map D.int))=aA aC:=Pv 47 _ λx hx=>by obtain⟨n,_,rfl⟩:=ax.mp hx;simp
theorem law_true(ns:List Int)(hn:ns.length<=63):Gen.KO [.lst (ns.map D.int)]=aA (.fz (.bl aC)):=by
 obtain⟨ms,em,HI⟩:=jV ns;obtain⟨c0,GN⟩:=Gy ns 0;obtain⟨c1,GM⟩:=Gy ns 1;obtain⟨c2,XA⟩:=Gy ns 2;obtain⟨c3,GL⟩:=Gy ns 3;obtain⟨c4,GK⟩:=Gy ns 4;obtain⟨c5,GJ⟩:=Gy ns 5;have m0:=EH c0 16807;have m1:=EH c1 16807;have m2:=EH c2 16807;have p0:=P3 c0 16807;have p1:=P3 c1 16807;have p2:=P3 c2 16807;generalize c0 % 2147483647*16807 % 2147483647=X0,c1 % 2147483647*16807 % 2147483647=X1,c2 % 2147483647*16807 % 2147483647=X2 at*;obtain⟨bs,b0,bl,UG,bn⟩:=Fg X0 p0 3 (by omega);obtain⟨ks,k0,kl,knd,kn⟩:=Fg X1 p1 4 (by omega);obtain⟨F,f0,fl,BH,fn⟩:=Fg X2 p2 3 (by omega);obtain⟨rs,rl,ro,r0⟩:=j_ F fl c3;have wX:0<=c4 % 9:=g6 _ (by decide);have wW:c4 % 9<9:=f7 _ (by decide);obtain⟨wd,hwd⟩:∃wd:Nat,(wd:Int)=2+c4 % 9:=⟨(2+c4 % 9).toNat,by omega⟩
 obtain⟨WS,ww,w0⟩:=iA bs ks F bl UG kl knd fl BH fn ms HI wd (by omega) (by omega);obtain⟨W,hW,pW⟩:=l9 F (ks++[SB]) fl (by rw[av,kl];rfl);have nd:=zD UG knd ww;have hl:WS.length<=12:=by rw[ww.len];exact HI
 have JV:∀p∈WS,eX p.2:=λp hp=>(ww.ok p hp).ok;have b0:Gen.Wd [.int X0,.int 3]=aA (.ol (bs.map D.str)):=b0;have k0:Gen.Wd [.int X1,.int 4]=aA (.ol (ks.map D.str)):=k0;have f0:Gen.Wd [.int X2,.int 3]=aA (.ol (F.map D.str)):=f0;have GN:Gen.Zx [.lst (ns.map D.int),.int 0]=aA (.fz (.int c0)):=GN;have GM:Gen.Zx [.lst (ns.map D.int),.int 1]=aA (.fz (.int c1)):=GM;have XA:Gen.Zx [.lst (ns.map D.int),.int 2]=aA (.fz (.int c2)):=XA;have GL:Gen.Zx [.lst (ns.map D.int),.int 3]=aA (.fz (.int c3)):=GL;have GK:Gen.Zx [.lst (ns.map D.int),.int 4]=aA (.fz (.int c4)):=GK;have GJ:Gen.Zx [.lst (ns.map D.int),.int 5]=aA (.fz (.int c5)):=GJ;have IS:2+c4 % 9=(wd:Int):=hwd.symm;obtain⟨P,y8,wh,lo1⟩:=jW hW pW rs rl ro bs bl WS nd (by omega) ww.ok (qN ww) (o4 UG knd kl ww) (ns.map D.int) c5 GJ (aA (.fz (.lst (ks.map D.str)))) (aA (.fz (.lst (F.map D.str))));obtain⟨vs,vl,hv,s0⟩:=shelf_of P wh.pk wh.kd;obtain⟨J,hJ⟩:=l7 wh;obtain⟨YX,PU,PR,IG⟩:=T8 nd (by omega) JV wh vl hv hJ (aA (.fz (.lst (ns.map D.int)))) (aA (.fz (.lst (bs.map D.str)))) (aA (.fz (.lst (ks.map D.str)))) (aA (.fz (.lst (F.map D.str)))) (aA (.fz (.lst (rs.map Yc)))) (aA (.fz (.int 2))) y8 WS [] aB aB aB rfl;obtain⟨mk,qs,DH,JF,JE,IF⟩:=T9 (λr hr=>by have:=ro r hr;omega) rl nd JV wh hJ (aA (.fz (.lst (ns.map D.int)))) (aA (.fz (.lst (bs.map D.str)))) (aA (.fz (.lst (ks.map D.str)))) (aA (.fz (.lst (F.map D.str)))) (aA (.fz (G5 P))) (aA (.fz (.int 2))) y8 (aA (.oK (Z0 (P6 P.length)) vs)) PU PR WS [] [] YX aB aB (λ_ h=>h) ⟨rfl,λi m q h=>by simp at h⟩ (by rw[List.length_nil];omega);have mc:=Xl nd J WS [] (λ_ h=>h) (by rw[List.length_nil];omega);have sm:PC [.lst (WS.map (jD J))]=aA (.ol (((c6 P.length).map λn:Nat=>(n:Int)).map D.int)):=by rw[<-o0 wh hJ,<-md (ns:=WS.map λp=>(J p:Int)) (by rw[ah];omega),cp];rfl
 have ic:=xF (Co 0 P.length) [] (by have:=wh.pk.len;simp[Co];omega);have en:((c6 P.length).map λn:Nat=>(n:Int)).map D.int=Co 0 P.length:=by unfold Co;rw[cp,List.range_eq_range'];rfl
 have ee:=oz ((c6 P.length).map λn:Nat=>(n:Int));rw[en]at ee sm;have lP:(P.map Z7).length=P.length:=ah _;have lL:(Z0 (P6 P.length)).length=P.length:=by simp
 have gP:Ad (P.length:Int):=Ui (by have:=wh.pk.len;omega);have g3:Ad (3:Int):=Ui (n:=3) (by decide);have t3:(3:Int).toNat=3:=rfl;have n3:Co 0 3=[.int 0,.int 1,.int 2]:=rfl;rw[<-n3]at lo1;have bk:=yL WS;have bk:(WS.map Wu).map zI=WS.map Ts:=bk;have IG:Yb (Zd 11) Gen.Mt (WS.map Ts) [aA (.fz (.lst (ns.map D.int))),aA (.fz (.lst (bs.map D.str))),aA (.fz (.lst (ks.map D.str))),aA (.fz (.lst (F.map D.str))),aA (.fz (.lst (rs.map Yc))),aA (.fz (.dT (WS.map Wu) (WS.map Rj))),aA (.fz (G5 P)),aA (.fz (.int 2)),y8,aA (.oK (Z0 (P6 P.length)) vs),aA (.oT [] []),aB,aB,aB,aB,aB,aB,aB]=_:=IG;unfold fSt at IF;rw[show([]:List BW).map Ts=[]from rfl]at IF;rw[show([]:List BW).map (jD J)=[]from rfl,d4]at mc;rw[d4]at ic;clear hJ hv vl JV nd pW hW ww wh en n3 HI p0 p1 p2 UG knd BH bn kn fn bl kl fl rl ro wX wW hwd hl hn;unfold G5 at*;generalize P.length=LP at*;generalize Z0 (P6 LP)=LL,P.map Z7=PD,WS.map Ts=MD,WS.map Wu=BK,WS.map Rj=BD,WS.map (jD J)=JD,qs.map Ts=QD,rs.map Yc=RD,bs.map D.str=SB',ks.map D.str=KD,F.map D.str=FD,ms.map D.int=MM,ns.map D.int=ND at*;unfold Gen.KO Gen.EI;simp[em,GN,GM,XA,GL,GK,m0,m1,m2,b0,k0,f0,r0,IS,w0,g3,t3,Q6,lo1,s0,bk,IG,IF,mc,sm,lP,lL,gP,ic,ee,-Yb,-Yd,-W2]
end My
end
end Lake
open Lake
namespace PySem.W.Fast
def tw1036963535349493863:=()
def tw3962645981332920293:=()
def tw1076511129213080129:=()
def tw7217790548169177436:=()
def tw11491801404220560479:=()
def tw17691593802164621883:=()
def tw11738172523237502539:=()
def tw12273306053530833558:=()
def tw3200372538955985142:=()
def tw11247940912288900457:=()
def tw15680706558930595527:=()
def tw3622540731805550824:=()
def tw12492048568679171802:=()
def tw6220424461038011457:=()
def tw1289228154004140223:=()
def tw1479794486739012675:=()
def tw12885199236879616784:=()
def tw1348043156143511487:=()
def tw12141883270356112052:=()
def tw308003723257187993:=()
def tw17012873272446698686:=()
def tw15745845914075714293:=()
def tw12054987508810095337:=()
def tw8970545777277691170:=()
def tw15159020369734553863:=()
def tw1587645873147903879:=()
def tw14938821009134291868:=()
def tw16134370007276396194:=()
def tw58541971360837214:=()
def tw433507260857745472:=()
def tw4671425026343806175:=()
def tw6107518889325515154:=()
def tw5373931218025785029:=()
def tw4261890565959345330:=()
def tw100771101263976552:=()
def tw5973660223567153976:=()
def tw9335171554104099763:=()
def tw10056683439964422390:=()
def tw10951395350324126934:=()
def tw9211510668154001731:=()
def tw12071151503415965486:=()
def tw13025512428108787570:=()
def tw1290552271412042599:=()
def tw7321086247293427733:=()
def tw14460260721173220629:=()
def tw16106269834594184759:=()
def tw8747926989209541870:=()
def tw14022169978254906395:=()
def tw7923788349728641678:=()
def tw17306887424686498756:=()
def tw3828134580273816506:=()
def tw7229764279935890620:=()
def tw11643511263474348140:=()
def tw10774027887178039039:=()
def tw5797846024753265425:=()
def tw9783342046860236989:=()
def tw1379147471051967974:=()
def tw5574301828882532088:=()
def tw8267565224246054793:=()
def tw172098877376575861:=()
def tw16174906991186766911:=()
def tw17932688212404018765:=()
def tw18051144464583089127:=()
def tw2154648549554417603:=()
def tw1936906245844201618:=()
def tw4060954228003344832:=()
def tw1778351808480212638:=()
def tw2381167156528253228:=()
def tw869382134096274844:=()
def tw9277693718056867037:=()
def tw6063236173854432733:=()
def tw17292252070140872162:=()
def tw6478638547079795983:=()
def tw4206618008984595987:=()
def tw18079118962806320121:=()
def tw5926496685045907114:=()
def tw12767975773010593210:=()
def tw9083427780237085733:=()
def tw13852346570284122752:=()
def tw17484254542916073910:=()
def tw9387490884955054838:=()
def tw9815232793586269809:=()
def tw3433999536023754396:=()
def tw14741837888030641185:=()
def tw1154033972095258660:=()
def tw780446300448879655:=()
def tw6590008937344249365:=()
def tw2358054798891496016:=()
def tw17906722137472385486:=()
def tw6295981475807479606:=()
def tw770056196520747822:=()
def tw12486580212221334436:=()
def tw7897292053977627972:=()
def tw2447223996736355905:=()
def tw1046647408762188683:=()
def tw9526771713088327044:=()
def tw5104296200669849273:=()
def tw2459898701718258148:=()
def tw13698915299515676120:=()
def tw17047555035724430376:=()
def tw5922322976338511453:=()
def tw6440747037163575720:=()
def tw13537908698952294766:=()
def tw12101924941408428856:=()
def tw16566641902154273126:=()
def tw4395432208370655309:=()
def tw6036209203518130632:=()
def tw13611484639252078207:=()
def tw13418499186031313473:=()
def tw6580167368575659985:=()
def tw5449711398146706900:=()
def tw17856532576979598622:=()
def tw8879547629767064310:=()
def tw9180865783126910919:=()
end PySem.W.Fast
open PySem.W
set_option maxRecDepth 100000 in
set_option maxHeartbeats 0 in
theorem PySem.Challenge.cw_citeward_k42_whole_no_work_is_lost_holds : PySem.Challenge.rw_citeward_k42_whole_no_work_is_lost.Holds := by
  w_on; o_law; k_head; (case hw => w_witness2)
  k_fill
  refine L2.fG (l := PySem.Challenge.rw_citeward_k42_whole_no_work_is_lost) (c0 := 99) (tq := 97) rfl rfl (fun w h Y => ⟨PySem.W.km_in_of Y, PySem.W.km_tabs_of Y 97 (by simp)⟩) (fun _ => by kernel_rfl) (fun _ => by kernel_rfl) ⟨rfl, by decide, by decide⟩ My.law_true fun w mg fa h X G m => Gen.fR (c0 := 99) ?_ m (by kernel_rfl)
  constructor <;> first | exact PySem.W.mg_of X G | exact PySem.W.mg_none_of X G (by k_is) | exact ⟨_, _, by k_is, L2.fV (by k_is) (by k_is) (by k_is)⟩ | exact ⟨_, _, by k_is, L2.fY (by k_is) (by k_is) (by k_is)⟩ | exact ⟨_, by k_is⟩
