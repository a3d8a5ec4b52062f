import PyProof.Rows.All
import Wide.All
import OpenK.AllK
import Wide.FinOn
import Lean
import PyProof.EqAt
import PyProof.EqKinds
import PyProof.TupleCall
import PyProof.NeKinds
import PyProof.EnumMake
import PyProof.ConsumeWalk
import PyProof.StrWalks
import PyProof.WalksMore
import PyProof.StrLawsNeg
import KE.KDictList
import KE.KLam
import KE.KMinKey
import KE.KSortTup
import KE.KUnpack
import PySem.Challenge.RW_citeward_k37_two_heaps_joined
set_option Elab.async false
set_option linter.all false
set_option genSizeOf false
set_option genSizeOfSpec false
set_option maxRecDepth 100000
set_option maxHeartbeats 4000000
open Option renaming bind_eq_some_iff->aa,map_eq_some_iff->cq,some->cy,bind_some->da
open PySem renaming wpAny_bind->ab,wpAny_pure->af,Value->aj,Shared->ao,Addr->aq,starEach->az,wpAny->bj,model->cf,Program->cg,sizeLine->cj,Expr->cw,World->c8,Around->dh,wpAny_newObj_type->di,wpAny_call_entry->dq,wpAny_loadPart'->dr,Heap->d6,sizeLine_eq->d7,wpAny_callSpecial?_slot->fg,cLine->fj,backTo->gb,eval->gg,SetTable->gn,strIterType->gw,assignEach->gx,codeAny_builtin->gy
open List renaming mem_cons_self->ac,length_map->ah,mem_singleton->ak,mem_cons_of_mem->am,getElem?_eq_getElem->au,length_append->av,getElem?_eq_some_iff->aw,mem_map->ax,mem_cons->ay,mem_append->ba,getElem?_map->bg,length_cons->bh,getD_eq_getElem?_getD->bi,map_cons->bm,size_toArray->bv,mem_append_right->bx,mem_append_left->bz,mem_of_getElem?->b9,map_append->ci,not_lt->ck,mem_range->cr,map_map->cu,nodup_nil->cx,getElem?_set_ne->cz,getElem?_set_self->c9,range->df,getElem?_append_left->dg,getElem?_eq_none->dj,nodup_append->dn,exists_cons_of_ne_nil->du,pairwise_map->dw,nil_append->d3,lt_irrefl->d4,getElem_of_mem->d5,cons_lt_cons_iff->eh,nodup_cons->fq,length_singleton->f7,length_filter_le->f8,getElem?_append_right->gc,cons->gh,length_set->gp,append_nil->gq,map_congr_left->gr
open PySem.W renaming Frag->ad
open PySem.Heap renaming get?_push_of_some->ar,get?_push_size->bo,lt_size->bp,SameBut->gm
open Nat renaming le_refl->bc,ne_of_lt->cm,lt_of_lt_of_le->de,zero_le->dk,lt_or_ge->dv,not_lt_zero->dz,le_trans->ga,lt_irrefl->gz
open Array renaming length_toList->bf,getElem?_toList->c7,getElem?_eq_some_iff->gd
open Bool renaming false_ne_true->bq,false_eq_true->bu,not_true->fu,not_eq_true'->gu
open List.Nodup renaming length_le_of_subset->b7
open PySem.Value renaming ref->b8,none->cn
open PySem.Obj renaming mapSeq->dm
open PySem.PassesOwn renaming never->dy
open PyProof.Rows renaming seqObj->d8
open Classical renaming choose_spec->ff
open PySem.Around renaming under_plainId->ft
open Sum renaming inl->f6
open List.Pairwise renaming and_mem->f9
open PySem.F renaming slot_dict_keyiterator_next->gk
open Or renaming inr->gv
open PySem.NameKind renaming free->g6
open Option renaming some->aA,none->aB
open Bool renaming true->aC,false->aD
theorem m4.{u}{c:Prop}{h:Decidable c}(n:¬c){α:Sort u}{t e:α}:@ite α c h t e=e:=if_neg n
theorem m6.{u}{c:Prop}{h:Decidable c}(n:c){α:Sort u}{t e:α}:@ite α c h t e=t:=if_pos n
theorem m7{p:Prop}[Decidable p](h:¬p):decide p=false:=decide_eq_false h
theorem m8{p:Prop}[Decidable p](h:p):decide p=true:=decide_eq_true h
theorem m9{p:Prop}[Decidable p](h:decide p=true):p:=of_decide_eq_true h
theorem m_{a b:Prop}(h:a)(g:¬a):b:=absurd h g
set_option compiler.extract_closed false
open PySem PySem.Spec PyProof.Rows
set_option bootstrap.genMatcherCode false
noncomputable section
namespace L2
noncomputable abbrev Key:=Sum Int Str
def Cn:Key->aj->Bool
 | .inl k,v=>Value.isInt k v
 | .inr x,v=>Value.isStrOf x v
def xV(w:c8):Key->Int
 | .inl k=>hashInt k
 | .inr x=>hashStr w x
theorem Z7:∀{k:Key} {v:aj},Cn k v=aC->(∃i t,k=f6 i/\v=Value.int i t)\/(∃x t,k=Sum.inr x/\v=Value.str x t)
 | .inl i,v,h=>by obtain⟨t,e⟩:=Value.isInt_shape (k:=i) (v:=v) h;exact .inl ⟨i,t,rfl,e⟩
 | .inr x,v,h=>by obtain⟨t,e⟩:=Value.isStrOf_shape (x:=x) (v:=v) h;exact .inr ⟨x,t,rfl,e⟩
theorem oO(i:Int)(t:Tok):Cn (.inl i) (.int i t)=aC:=by simp[Cn,Value.isInt]
theorem oJ(x:Str)(t:Tok):Cn (.inr x) (.str x t)=aC:=by simp[Cn,Value.isStrOf]
theorem um(a b:Int):decide ((f6 a:Key)=f6 b)=(a==b):=by
 by_cases e:a=b
 .subst e;simp
 .have h:¬(f6 a:Key)=f6 b:=λq=>e (f6.inj q);rw[m7 h];exact(beq_eq_false_iff_ne.mpr e).symm
theorem ul(a b:Str):decide ((Sum.inr a:Key)=Sum.inr b)=decide (a=b):=by
 by_cases e:a=b
 .subst e;simp
 .have h:¬(Sum.inr a:Key)=Sum.inr b:=λq=>e (Sum.inr.inj q);rw[m7 h,m7 e]
theorem uk(a:Int)(b:Str):decide ((f6 a:Key)=Sum.inr b)=aD:=m7 (λq=>nomatch q)
theorem uj(a:Str)(b:Int):decide ((Sum.inr a:Key)=f6 b)=aD:=m7 (λq=>nomatch q)
def Zq(prog:cg)(w:c8):PySem.KeyKind prog w Key where
 is:=Cn
 hash:=xV w
 inj:=λv a b ha hb=>by
  rcases Z7 ha with⟨i,t,rfl,rfl⟩|⟨x,t,rfl,rfl⟩
  .rcases Z7 hb with⟨j,u,rfl,e⟩|⟨y,u,rfl,e⟩
   .injection e with e1 _;rw[e1]
   .exact nomatch e
  .rcases Z7 hb with⟨j,u,rfl,e⟩|⟨y,u,rfl,e⟩
   .exact nomatch e
   .injection e with e1 _;rw[e1]
 byValue:=λk v h=>by rcases Z7 h with⟨i,t,rfl,rfl⟩|⟨x,t,rfl,rfl⟩<;> rfl
 pyHash:=λhv h=>by
  rcases Z7 hv with⟨i,t,rfl,rfl⟩|⟨x,t,rfl,rfl⟩
  .exact wpAny_pyHash_int h
  .exact wpAny_pyHash_str h
 eqBool:=λhu hv h=>by
  rcases Z7 hu with⟨i,t,rfl,rfl⟩|⟨x,t,rfl,rfl⟩
  .rcases Z7 hv with⟨j,u,rfl,rfl⟩|⟨y,u,rfl,rfl⟩
   .rw[um]at h;exact wpAny_eqBool_int h
   .rw[uk]at h;exact SeqAt.EqAt.int_str i t y u _ _ _ _ h
  .rcases Z7 hv with⟨j,u,rfl,rfl⟩|⟨y,u,rfl,rfl⟩
   .rw[uj]at h;exact SeqAt.EqAt.str_int x t j u _ _ _ _ h
   .rw[ul]at h;exact wpAny_eqBool_str h
 «strs»:=λk x t v h=>by
  rcases Z7 h with⟨i,u,rfl,e⟩|⟨y,u,rfl,e⟩
  .exact nomatch e
  .injection e with e1 _;subst e1;cases v<;> rfl
theorem n4(prog:cg)(w:c8)(k:Key)(v:aj):(Zq prog w).is k v=Cn k v:=rfl
theorem Ny(prog:cg)(w:c8)(i:Int)(t:Tok):(Zq prog w).is (.inl i) (.int i t)=aC:=oO i t
theorem Nz(prog:cg)(w:c8)(x:Str)(t:Tok):(Zq prog w).is (.inr x) (.str x t)=aC:=oJ x t
noncomputable abbrev Zm:=Sum (List Str) (Int×List Str)
def Wp(l:List Str):List Key:=l.map Sum.inr
theorem B4{a b:List Str}(h:Wp a=Wp b):a=b:=by
 induction a generalizing b with
 |nil=>cases b with
  |nil=>rfl
  |cons y b=>simp[Wp]at h
 |cons x a ih=>cases b with
  |nil=>simp[Wp]at h
  |cons y b=>simp only[Wp,bm,List.cons.injEq]at h;rw[Sum.inr.inj h.1,ih h.2]
theorem X1(a b:List Str):decide (Wp a=Wp b)=decide (a=b):=by
 by_cases e:a=b
 .rw[e];simp
 .rw[m7 e,m7 λz=>e (B4 z)]
def Uw(prog:cg)(w:c8)(h:d6):Zm->aq->Prop
 | .inl l,a=>IsTupleKey (Zq prog w) h (Wp l) a
 | .inr (n,l),a=>∃o mB m t b,h.get? a=aA o/\o.cls= .type "tuple"/\o.data= .seq mB m/\mB.toList=[.int n t,.ref b]/\IsTupleKey (Zq prog w) h (Wp l) b
def Yd(prog:cg)(w:c8):Zm->Int
 | .inl l=>tupleKeyHash (Zq prog w) (Wp l)
 | .inr (n,l)=>reduceHash (Builtin.Tuple.tupleHashOf [hashInt n,tupleKeyHash (Zq prog w) (Wp l)])
def Te:Zm->Nat
 | .inl l=>(Wp l).length+1
 | .inr (_,l)=>1+((Wp l).length+1)+1
section
variable{prog:cg}{w:c8}{A:dh}{E:aj->ao->Prop}{s:ao}
theorem Uw.typeIs{k:Zm}{a:aq}(x:Uw prog w s.heap k a):s.TypeIs (.ref a) "tuple":=by
 cases k with
 |inl l=>exact IsTupleKey.typeIs (show IsTupleKey (Zq prog w) s.heap (Wp l) a from x)
 |inr p=>obtain⟨o,_,_,_,_,ho,hc,_⟩:=x;exact⟨o,ho,hc⟩
theorem Tf{l:List Str}{n:Int}{t:Tok}{vs:List aj}(h:ItemsAre (Zq prog w) (Wp l) (.int n t::vs)):False:=by
 cases l with
 |nil=>cases h
 |cons x l=>
  cases h with
  |cons h1 _=>
   rcases Z7 (k:=.inr x) (v:=.int n t) h1 with⟨_,_,e,_⟩|⟨_,_,_,e⟩
   .cases e
   .cases e
theorem Uw.inj{h:d6}{a:aq}{x y:Zm}(hx:Uw prog w h x a)(hy:Uw prog w h y a):x=y:=by
 have FI:∀{l:List Str} {n:Int} {l2:List Str},Uw prog w h (.inl l) a->Uw prog w h (.inr (n,l2)) a->False:=fun{l n l2} h1 h2=>by obtain⟨o,mB,m,ho,_,hd,hi⟩:=h1;obtain⟨o',TX,m',t,b,XG,_,XB,e,_⟩:=h2;obtain rfl:o=o':=cy.inj (ho.symm.trans XG);rw[hd]at XB;injection XB with z _;subst z;rw[e]at hi;exact Tf hi
 cases x with
 |inl l=>cases y with
  |inl l2=>rw[B4 (IsTupleKey.inj (show IsTupleKey (Zq prog w) h (Wp l) a from hx) hy)]
  |inr p=>exact(FI hx hy).elim
 |inr p=>cases y with
  |inl l2=>exact(FI hy hx).elim
  |inr q=>obtain⟨n,l⟩:=p;obtain⟨n2,l2⟩:=q;obtain⟨o,mB,m,t,b,ho,_,hd,e,hb⟩:=hx;obtain⟨o',TX,m',t',b',XG,_,XB,e',ZX⟩:=hy;obtain rfl:o=o':=cy.inj (ho.symm.trans XG);rw[hd]at XB;injection XB with z _;subst z;rw[e]at e';injection e' with e1 e2;injection e1 with e1 _;injection e2 with e2 _;injection e2 with e2;subst e1 e2;rw[B4 (hb.inj ZX)]
theorem Uw.keeps{h h':d6}{k:Zm}{a d:aq}{o:Obj}{es ep} (x:Uw prog w h k a) (ho:h.get? d=aA o) (hd:o.data= .dict es ep) (hs:gm d h h'):Uw prog w h' k a:=by
 cases k with
 |inl l=>exact IsTupleKey.keeps (show IsTupleKey (Zq prog w) h (Wp l) a from x) ho hd hs
 |inr p=>
  obtain⟨o',mB,m,t,b,XG,hc,XB,e,hb⟩:=x;have VE:a≠d:=by rintro rfl;obtain rfl:o'=o:=cy.inj (XG.symm.trans ho);rw[hd]at XB;exact nomatch XB
  exact⟨o',mB,m,t,b,(hs.2 a VE).trans XG,hc,XB,e,hb.keeps ho hd hs⟩
theorem Uw.mono{h h':d6}{k:Zm}{a:aq}(x:Uw prog w h k a)(hk:∀b o,h.get? b=aA o->h'.get? b=aA o):Uw prog w h' k a:=by
 cases k with
 |inl l=>obtain⟨o,mB,m,ho,r⟩:=x;exact⟨o,mB,m,hk _ _ ho,r⟩
 |inr p=>obtain⟨o,mB,m,t,b,ho,hc,hd,e,⟨o2,i2,m2,XT,r2⟩⟩:=x;exact⟨o,mB,m,t,b,hk _ _ ho,hc,hd,e,o2,i2,m2,hk _ _ XT,r2⟩
theorem A_{k:Zm}{a:aq}{Q:Int->ao->Prop}(hu:A.units+1<fj)(hk:Uw prog w s.heap k a)(h:Q (Yd prog w k) {s with toks:=s.toks+Te k}):bj (cf prog w) A (pyHash (.ref a)) Q E s:=by
 cases k with
 |inl l=>exact wpAny_pyHash_tuple (knd:=Zq prog w) (by omega) hk h
 |inr p=>
  have hT:=hk.typeIs;obtain⟨n,l⟩:=p;obtain⟨o,mB,m,t,b,ho,_,hd,hi,hb⟩:=hk;unfold pyHash
  first|unfold pyHashByItsType|skip
  first|refine ab (wpAny_cRoomFor_or (.inr (by omega)) ?_)|skip
  refine ab (wpAny_specialOf hT F.slot_tuple_hash.lookup ?_);show bj _ _ (if(aA (Value.builtin "tuple.__hash__")==aA cn)=aC then _ else _) Q E s;rw[m4 (by rw[beq_builtin_none];exact bq)];refine ab (wpAny_specialOf hT F.slot_tuple_hash.lookup ?_);show bj _ _ (callSpecialIfBoundUnlessNone? (.ref a) "__hash__" _ >>=_) Q E s;refine ab (wpAny_callSpecialIfBoundUnlessNone?_slot hT F.slot_tuple_hash (dq F.slot_tuple_hash hT F.entry_tuple_hash ?_ (F.args_tuple_hash_1 _)));show bj _ _ (Builtin.Tuple.tupleItemsOf (.ref a) >>=_) _ _ s;refine ab (wpAny_tupleItemsOf ho hd ?_);refine ab ?_;rw[<-Array.forIn_toList,hi];simp only[List.forIn_cons,List.forIn_nil];have yB:A.in1.units<cLine:=hu;refine ab (ab (wpAny_pyHash_int ?_));refine af ?_;dsimp only;refine ab (ab (wpAny_pyHash_tuple (knd:=Zq prog w) (s:={s with toks:=s.toks+1}) yB hb ?_));refine af ?_;refine af ?_;generalize hg:tupleKeyHash (Zq prog w) (Wp l)=g at h⊢;show bj _ _ (retInt (Builtin.Tuple.tupleHashOf [hashInt n,g])) _ _ _;refine wpAny_ret_mkInt ?_;unfold Yd at h;dsimp only at h;rw[hg]at h;generalize Builtin.Tuple.tupleHashOf [hashInt n,g]=z at h⊢;show bj _ _ (if(decide (-(2:Int)^63<=z)&&decide (z<2^63))=aC then _ else _) Q E _;unfold reduceHash at h;by_cases hr:(decide (-(2:Int)^63<=z)&&decide (z<2^63))=aC
  .rw[m6 hr];rw[m6 hr]at h;exact af (by simpa[Te,Nat.add_assoc]using h)
  .rw[m4 hr];rw[m4 hr]at h;exact ab (wpAny_rule (af (by simpa[Te,Nat.add_assoc]using h)))
theorem oI{x y:Zm}{a b:aq}{P:Fin->ao->Prop}(hu:A.units<fj)(hx:Uw prog w s.heap x a)(hy:Uw prog w s.heap y b)(h:P (.done (.ret (.bool (decide (x=y))))) s):
  bj (cf prog w) A (Builtin.«tuple.__eq__» ⟨[.ref a,.ref b],[]⟩) P E s:=by
 have LQ:∀(x:Str) (tx:Tok) (n:Int) (tn:Tok) {Q:Bool->ao->Prop},Q aD s->bj (cf prog w) A (eqBool (.str x tx) (.int n tn)) Q E s:=λx tx n tn Q q=>SeqAt.EqAt.str_int x tx n tn _ _ _ _ q;have LR:∀(x:Str) (tx:Tok) (n:Int) (tn:Tok) {Q:Bool->ao->Prop},Q aD s->bj (cf prog w) A (eqBool (.int n tn) (.str x tx)) Q E s:=λx tx n tn Q q=>SeqAt.EqAt.int_str n tn x tx _ _ _ _ q;have hTb:=hy.typeIs;cases x with
 |inl l=>cases y with
  |inl l2=>
   refine tuple_eq_tree (knd:=Zq prog w) (x:=Wp l) (y:=Wp l2) hx hy ?_;rw[X1];have:decide ((f6 l:Zm)=f6 l2)=decide (l=l2):=by
    by_cases e:l=l2
    .rw[e];simp
    .rw[m7 e,m7 λz=>e (f6.inj z)]
   rw[this]at h;exact h
  |inr p=>
   obtain⟨n,l2⟩:=p;obtain⟨oa,xs,na,QS,_,PK,VI⟩:=hx;obtain⟨ob,ys,nb,t,c,U_,_,YB,e,hc⟩:=hy;have hf:decide ((f6 l:Zm)=Sum.inr (n,l2))=aD:=m7 λz=>nomatch z;rw[hf]at h;show bj _ _ (isInstance (.ref b) (.type "tuple") >>=_) _ _ s;refine ab (wpAny_isInstance hTb isSubtype_tuple_tuple ?_);simp only[fu,bu,if_false];refine ab (wpAny_tupleItemsOf QS PK ?_);refine ab (wpAny_tupleItemsOf U_ YB ?_);rw[e];have sy:ys.size=2:=by rw[<-bf,e];rfl
   cases l with
   |nil=>
    generalize hxs:xs.toList=vs at VI;cases VI;have sx:xs.size=0:=by rw[<-bf,hxs];rfl
    simp only[List.zip_nil_left,List.forIn_nil];refine ab (af ?_);refine af ?_;show P (.done (.ret (.bool (xs.size==ys.size)))) s;rw[sx,sy];exact h
   |cons x l=>
    generalize hxs:xs.toList=vs at VI;cases VI with
    | @cons _ v _ vs h1 _=>
     rcases Z7 (k:=.inr x) (v:=v) h1 with⟨_,_,z,_⟩|⟨_,tx,z,rfl⟩
     .cases z
     .simp only[List.zip_cons_cons,List.forIn_cons];refine ab (ab (ab (LQ _ _ _ _ ?_)));simp only[Bool.not_false,if_true];exact ab (af (af (af (af h))))
 |inr p=>cases y with
  |inl l=>
   obtain⟨n,l2⟩:=p;obtain⟨ob,ys,nb,t,c,U_,_,YB,e,hc⟩:=hx;obtain⟨oa,xs,na,QS,_,PK,VI⟩:=hy;have hf:decide ((Sum.inr (n,l2):Zm)=f6 l)=aD:=m7 λz=>nomatch z;rw[hf]at h;show bj _ _ (isInstance (.ref b) (.type "tuple") >>=_) _ _ s;refine ab (wpAny_isInstance hTb isSubtype_tuple_tuple ?_);simp only[fu,bu,if_false];refine ab (wpAny_tupleItemsOf U_ YB ?_);refine ab (wpAny_tupleItemsOf QS PK ?_);rw[e];have sy:ys.size=2:=by rw[<-bf,e];rfl
   cases l with
   |nil=>
    generalize hxs:xs.toList=vs at VI;cases VI;have sx:xs.size=0:=by rw[<-bf,hxs];rfl
    simp only[List.zip_nil_right,List.forIn_nil];refine ab (af ?_);refine af ?_;show P (.done (.ret (.bool (ys.size==xs.size)))) s;rw[sx,sy];exact h
   |cons x l=>
    generalize hxs:xs.toList=vs at VI;cases VI with
    | @cons _ v _ vs h1 _=>
     rcases Z7 (k:=.inr x) (v:=v) h1 with⟨_,_,z,_⟩|⟨_,tx,z,rfl⟩
     .cases z
     .simp only[List.zip_cons_cons,List.forIn_cons];refine ab (ab (ab (LR _ _ _ _ ?_)));simp only[Bool.not_false,if_true];exact ab (af (af (af (af h))))
  |inr q=>
   obtain⟨n,l⟩:=p;obtain⟨n2,l2⟩:=q;obtain⟨oa,xs,na,ta,ca,QS,_,PK,ea,JL⟩:=hx;obtain⟨ob,ys,nb,tb,cb,U_,_,YB,eb,yc⟩:=hy;show bj _ _ (isInstance (.ref b) (.type "tuple") >>=_) _ _ s;refine ab (wpAny_isInstance hTb isSubtype_tuple_tuple ?_);simp only[fu,bu,if_false];refine ab (wpAny_tupleItemsOf QS PK ?_);refine ab (wpAny_tupleItemsOf U_ YB ?_);rw[ea,eb];have sx:xs.size=2:=by rw[<-bf,ea];rfl
   have sy:ys.size=2:=by rw[<-bf,eb];rfl
   simp only[List.zip_cons_cons,List.zip_nil_left,List.forIn_cons,List.forIn_nil];refine ab (ab (ab (wpAny_eqBool_int ?_)));by_cases hn:n=n2
   .subst hn;simp only[beq_self_eq_true,fu,bu,if_false];refine af ?_;dsimp only;refine ab (ab (wpAny_eqBool_tuple (knd:=Zq prog w) hu JL yc ?_));rw[X1];by_cases hl:l=l2
    .subst hl;simp only[decide_true,fu,bu,if_false];refine af (af (af ?_));show P (.done (.ret (.bool (xs.size==ys.size)))) s;rw[sx,sy];simpa using h
    .simp only[m7 hl,Bool.not_false,if_true];have hf:decide ((Sum.inr (n,l):Zm)=Sum.inr (n,l2))=aD:=m7 λz=>hl (by injection z with z;injection z);rw[hf]at h;exact ab (af (af (af (af h))))
   .have hb:(n==n2)=aD:=beq_eq_false_iff_ne.mpr hn;simp only[hb,Bool.not_false,if_true];have hf:decide ((Sum.inr (n,l):Zm)=Sum.inr (n2,l2))=aD:=m7 λz=>hn (by injection z with z;injection z);rw[hf]at h;exact ab (af (af (af (af h))))
theorem DM{x y:Zm}{a b:aq}{Q:Bool->ao->Prop}(hu:A.units+1<fj)(hx:Uw prog w s.heap x a)(hy:Uw prog w s.heap y b)(h:Q (decide (x=y)) s):bj (cf prog w) A (eqBool (.ref a) (.ref b)) Q E s:=by
 unfold eqBool
 try with_reducible refine wpAny_holding ?_
 show bj _ _ (if(b8 a==b8 b)=aC then _ else _) Q E s;by_cases XH:(b8 a==b8 b)=aC
 .rw[m6 XH];have e:a=b:=by have:=eq_of_beq XH;injection this
  subst e;obtain rfl:=hx.inj hy;exact ab (wpAny_rule (af (by simpa using h)))
 .rw[m4 XH];exact ab (wpAny_richCompare_same_room (op:=.Eq) hx.typeIs hy.typeIs F.slot_tuple_eq
   (dq F.slot_tuple_eq hx.typeIs F.entry_tuple_eq (oI (A:=A.in1) hu hx hy ⟨_,rfl,(λe=>nomatch e),wpAny_truthy_bool h⟩) (F.args_tuple_eq_2 _ _)) (by omega))
theorem X2{m:Nat}{ks:List Key}{a:aq}{Q:Bool->ao->Prop}(hk:IsTupleKey (Zq prog w) s.heap ks a)(h:Q aC s):bj (cf prog w) A (eqIsQuiet (m+1) (.ref a)) Q E s:=by
 have hT:=hk.typeIs;obtain⟨o,mB,n,ho,_,hd,hi⟩:=hk;unfold eqIsQuiet;refine ab (wpAny_specialOf hT F.slot_tuple_eq.lookup ?_);show bj _ _ (isInstance (.ref a) (.type "tuple") >>=_) _ _ s;refine ab (wpAny_isInstance hT isSubtype_tuple_tuple ?_);simp only[fu,bu,if_false];refine ab (wpAny_seqItems ho hd ?_);refine ab ?_;show bj _ _ (forIn mB _ _) _ _ s;rw[<-Array.forIn_toList];refine wpAny_forIn_list _ (λrest r s'=>r.1=aB/\s'=s/\∀v∈rest,carriedByValue v=aC) _ ?_ ?_ _ _ ⟨rfl,rfl,hi.byValue⟩
 .rintro v rest r s' ⟨hr,rfl,hall⟩;rw[eqIsQuiet_byValue _ (hall v ac)];refine ab (af ?_);simp only[fu,bu,if_false];exact af ⟨rfl,rfl,λu UF=>hall u (am _ UF)⟩
 .rintro⟨r1,r2⟩ s' ⟨hr,rfl,_⟩;simp only at hr;subst hr;exact af h
theorem Ko{k:Zm}{a:aq}{Q:Bool->ao->Prop}(hk:Uw prog w s.heap k a)(h:Q aC s):bj (cf prog w) A (eqIsQuiet 8 (.ref a)) Q E s:=by
 cases k with
 |inl l=>exact X2 hk h
 |inr p=>have hT:=hk.typeIs;obtain⟨n,l⟩:=p;obtain⟨o,mB,m,t,b,ho,_,hd,hi,hb⟩:=hk;unfold eqIsQuiet;refine ab (wpAny_specialOf hT F.slot_tuple_eq.lookup ?_);show bj _ _ (isInstance (.ref a) (.type "tuple") >>=_) _ _ s;refine ab (wpAny_isInstance hT isSubtype_tuple_tuple ?_);simp only[fu,bu,if_false];refine ab (wpAny_seqItems ho hd ?_);refine ab ?_;show bj _ _ (forIn mB _ _) _ _ s;rw[<-Array.forIn_toList,hi];simp only[List.forIn_cons,List.forIn_nil];rw[eqIsQuiet_byValue _ (v:=Value.int n t) rfl];refine ab (ab (af ?_));simp only[fu,bu,if_false];refine af ?_;dsimp only;refine ab (ab (X2 hb ?_));simp only[fu,bu,if_false];exact af (af (af h))
end
def Ie(prog:cg)(w:c8):HeapKind prog w Zm where
 is:=Uw prog w
 hash:=Yd prog w
 draws:=Te
 room:=λA=>A.units+1<fj
 inj:=λhx hy=>hx.inj hy
 keeps:=λx ho hd hs=>x.keeps ho hd hs
 pyHash:=λhu hk h=>A_ hu hk h
 eqBool:=λhu hx hy h=>DM hu hx hy h
 quiet:=λhk h=>Ko hk h
inductive V where
 |non|bl (b:Bool)|int (i:Int)|str (x:Str)|byt (b:Array UInt8)|flt (b:UInt64)|ref (a:aq)|ty (n:String)
 deriving DecidableEq
def Zy:V->aj->Prop
 | .non,u=>u=cn
 | .bl b,u=>u=Value.bool b
 | .int i,u=>∃t,u=Value.int i t
 | .str x,u=>∃t,u=Value.str x t
 | .byt b,u=>∃t,u=Value.bytes b t
 | .flt b,u=>∃t,u=Value.float b t
 | .ref a,u=>u=b8 a
 | .ty n,u=>u=Value.type n
abbrev Z1:List V->List aj->Prop:=Paired Zy
theorem Z1.length{xs:List V}{us:List aj}(r:Z1 xs us):xs.length=us.length:=Paired.length r
theorem Z1.get:∀{xs:List V} {us:List aj} {i:Nat} {x:V},Z1 xs us->xs[i]? =aA x->∃u,us[i]? =aA u/\Zy x u
 |_,_,_,_,.nil,e=>by simp at e
 |_,_,0,_,.cons r _,e=>by simp at e;subst e;exact⟨_,rfl,r⟩
 |_,_,i+1,x,.cons _ t,e=>by obtain⟨u,h1,h2⟩:=Z1.get (i:=i) (x:=x) t (by simpa using e);exact⟨u,by simpa using h1,h2⟩
theorem Z1.append:∀{xs ys:List V} {us ws:List aj},Z1 xs us->Z1 ys ws->Z1 (xs++ys) (us++ws)
 |_,_,_,_,.nil,s=>s
 |_,_,_,_,.cons r t,s=>.cons r (Z1.append t s)
theorem Z1.take:∀{xs:List V} {us:List aj} (n:Nat),Z1 xs us->Z1 (xs.take n) (us.take n)
 |_,_,0,_=>.nil
 |_,_,_+1,.nil=>.nil
 |_,_,n+1,.cons r t=>.cons r (Z1.take n t)
theorem Z1.drop:∀{xs:List V} {us:List aj} (n:Nat),Z1 xs us->Z1 (xs.drop n) (us.drop n)
 |_,_,0,r=>r
 |_,_,_+1,.nil=>.nil
 |_,_,n+1,.cons _ t=>Z1.drop n t
def Gf:Option V->Option aj->Prop
 |some v,aA u=>Zy v u
 |none,aB=>True
 |_,_=>False
def KV{κ:Type}:List (κ×V)->List (κ×aj)->Prop:=Paired λ(p:κ×V) (q:κ×aj)=>p.1=q.1/\Zy p.2 q.2
def kV:Key->V
 | .inl i=>.int i
 | .inr x=>.str x
inductive HO where
 |lst (xs:List V)
 |tup (xs:List V)
 |dK (kvs:List (Key×V)) (ep:Nat)|dT (kvs:List (List Key×V)) (ep:Nat) (bs:List aq)|dN (kvs:List (Zm×V)) (ep:Nat) (bs:List aq)
 |set (S:Int->Bool) (n:Nat)
 |ins (C dx:aq) (fs:List (Str×V))
 |own (x:aq)
 |xd (fs:List (Str×V))
 |met (f x:aq)
 |rng (lo hi:Int)
 |frz (o:Obj) (u:HO)
 |tbl (ps:Array aj)
 |tab (q:Str)
 |ext (φ:d6->Prop)
noncomputable abbrev Hp:=aq->Option HO
def Yo(H:Hp)(a:aq)(o:HO):Hp:=λb=>if b=a then aA o else H b
theorem Z8{H:Hp}{a:aq}{o:HO}:Yo H a o a=aA o:=by unfold Yo;rw[m6 rfl]
theorem Zp{H:Hp}{a b:aq}{o:HO}(h:b≠a):Yo H a o b=H b:=by unfold Yo;rw[m4 h]
theorem rF{H:Hp}{a:aq}{o u:HO}:Yo (Yo H a o) a u=Yo H a u:=by funext b;unfold Yo;split<;> rfl
theorem CY{H:Hp}{a b:aq}{o u:HO}(h:H a=aA o)(h':H b=aA u)(d:o≠u):a≠b:=by intro e;subst e;rw[h]at h';exact d (cy.inj h')
theorem Y1{H:Hp}{a b:aq}{o:HO}(h:H a=aA o)(h':H b=aB):a≠b:=by intro e;subst e;rw[h]at h';cases h'
def Qs(H:Hp):Zm->aq->Prop
 | .inl l,b=>H b=aA (.tup ((Wp l).map kV))
 | .inr (n,l),b=>∃c,H b=aA (.tup [.int n,.ref c])/\H c=aA (.tup ((Wp l).map kV))
theorem Qs.mono{H H':Hp}{k:Zm}{b:aq}(h:Qs H k b)(ht:∀b xs,H b=aA (.tup xs)->H' b=aA (.tup xs)):Qs H' k b:=by
 cases k with
 |inl l=>exact ht _ _ h
 |inr p=>obtain⟨c,h1,h2⟩:=h;exact⟨c,ht _ _ h1,ht _ _ h2⟩
section
variable(P:cg)(w:c8)
def Yc(H:Hp)(h:d6)(a:aq):HO->Prop
 | .lst xs=>xs.length<=sizeLine/\∃(mC:List aj) (n:Nat),Z1 xs mC/\h.get? a=aA {cls:=.type "list",data:=.seq mC.toArray n}
 | .tup xs=>xs.length<=sizeLine/\∃mC:List aj,Z1 xs mC/\IsTup h a mC.toArray
 | .dK kvs ep=>kvs.length<=sizeLine/\(a==sysModules)=aD/\∃vs,KV kvs vs/\h.DictAt (Zq P w) a vs ep
 | .dT kvs ep bs=>kvs.length<=sizeLine/\(a==sysModules)=aD/\∃xs:List (List Key×aq×aj),
   Paired (λ(p:List Key×V) (q:List Key×aq×aj)=>p.1=q.1/\H q.2.1=aA (.tup (p.1.map kV))/\Zy p.2 q.2.2) kvs xs/\
   ∃o es,h.get? a=aA o/\o.ExactDict/\o.data= .dict es ep/\es.toList=xs.map (entryOfKey (tupleKind (Zq P w)))/\(xs.map (·.1)).Nodup/\(xs.map λx=>x.2.1)=bs
 | .dN kvs ep bs=>kvs.length<=sizeLine/\(a==sysModules)=aD/\∃xs:List (Zm×aq×aj),
   Paired (λ(p:Zm×V) (q:Zm×aq×aj)=>p.1=q.1/\Qs H p.1 q.2.1/\Zy p.2 q.2.2) kvs xs/\
   ∃o es,h.get? a=aA o/\o.ExactDict/\o.data= .dict es ep/\es.toList=xs.map (entryOfKey (Ie P w))/\(xs.map (·.1)).Nodup/\(xs.map λx=>x.2.1)=bs
 | .set S n=>h.SetOf (intKind P w) a S n
 | .ins C dx fs=>H dx=aA (.own a)/\fs.length<=1000/\dx≠a/\h.get? a=aA (PySem.W.instObj C dx)/\
   ∃mA,h.Ns1 dx mA/\(∀f,Gf (fs.lookup f) (mA f))/\PySem.Within mA (fs.map (·.1))
 | .own _=>∃o,h.get? a=aA o
 | .xd fs=>∃mA,h.Ns1 a mA/\∀f,Gf (fs.lookup f) (mA f)
 | .rng lo hi=>∃t u v,h.get? a=aA {cls:=.type "range",data:=.fields #[.int lo t,.int hi u,.int 1 v]}
 | .frz o u=>h.get? a=aA o/\Yc H h a u
 | .tbl ps=>h.get? a=aA {cls:=.none,data:=.fields ps}
 | .met f x=>h.get? a=aA (PySem.W.methodObj (.ref f) (.ref x))
 | .tab q=>∃ps:Array aj,h.get? a=aA {cls:=.none,data:=.fields ps}/\TriplesOk ps.toList/\∀pos cv,codeAmong pos ps.toList=aA cv->∃c o vs t,cv= .ref c/\H c=aA (.frz o (.own a))/\o.data= .fields vs/\vs[1]? =aA (.str q t)
 | .ext φ=>φ h/\(∃o,h.get? a=aA o)/\∀h1 h2:d6,φ h1->(∀o,h1.get? a=aA o->h2.get? a=aA o)->φ h2
def Cy(H:Hp)(h:d6):Prop:=∀a o,H a=aA o->Yc P w H h a o
end
section
variable{P:cg}{w:c8}{H H':Hp}{h h':d6}{a:aq}{o:HO}
theorem Yc.lt(x:Yc P w H h a o):a<h.objs.size:=by
 cases o with
 |lst xs=>obtain⟨_,_,_,_,e⟩:=x;exact bp e
 |tup xs=>obtain⟨_,_,_,p⟩:=x;exact p.lt
 |dK kvs ep=>obtain⟨_,_,_,_,o,_,e,_⟩:=x;exact bp e
 |dT kvs ep bs=>obtain⟨_,_,_,_,o,_,e,_⟩:=x;exact bp e
 |dN kvs ep bs=>obtain⟨_,_,_,_,o,_,e,_⟩:=x;exact bp e
 |set S n=>obtain⟨o,_,_,_,e,_⟩:=x;exact bp e
 |ins C dx fs=>obtain⟨_,_,_,e,_⟩:=x;exact bp e
 |own y=>obtain⟨_,e⟩:=x;exact bp e
 |xd fs=>obtain⟨_,⟨_,_,_,e,_⟩,_⟩:=x;exact bp e
 |rng lo hi=>obtain⟨_,_,_,e⟩:=x;exact bp e
 |frz ob u=>obtain⟨e,_⟩:=x;exact bp e
 |tbl ps=>exact bp (show h.get? a=aA _ from x)
 |met f y=>exact bp (show h.get? a=aA _ from x)
 |tab q=>obtain⟨_,e,_⟩:=x;exact bp e
 |ext φ=>obtain⟨_,⟨_,e⟩,_⟩:=x;exact bp e
theorem Paired.mapP{α β:Type}{F G:α->β->Prop}{QJ:List α}{l₂:List β}(h:Paired F QJ l₂)(f:∀a b,F a b->G a b):Paired G QJ l₂:=by
 induction h with
 |nil=>exact .nil
 |cons r _ ih=>exact .cons (f _ _ r) ih
theorem Yc.stay(x:Yc P w H h a o)(k:∀b u,(b=a\/H b=aA (.own a))->h.get? b=aA u->h'.get? b=aA u)
  (ho:∀b,H b=aA (.own a)->H' b=aA (.own a)) (ht:∀b xs,H b=aA (.tup xs)->H' b=aA (.tup xs))
  (hz:∀b o,H b=aA (.frz o (.own a))->H' b=aA (.frz o (.own a)):=by first|exact λ_ _ q=>q| (intro b o q;rw[Zp (Y1 q (by assumption))];exact q)):Yc P w H' h' a o:=by
 induction o with
 |lst xs=>obtain⟨z,mC,n,r,e⟩:=x;exact⟨z,mC,n,r,k _ _ (.inl rfl) e⟩
 |tup xs=>obtain⟨z,mC,r,ob,e,c⟩:=x;exact⟨z,mC,r,ob,k _ _ (.inl rfl) e,c⟩
 |dK kvs ep=>obtain⟨z,y,vs,r,ob,es,e,c⟩:=x;exact⟨z,y,vs,r,ob,es,k _ _ (.inl rfl) e,c⟩
 |dT kvs ep bs=>obtain⟨z,y,xs,r,ob,es,e,c⟩:=x;exact⟨z,y,xs,Paired.mapP r λp q z=>⟨z.1,ht _ _ z.2.1,z.2.2⟩,ob,es,k _ _ (.inl rfl) e,c⟩
 |dN kvs ep bs=>obtain⟨z,y,xs,r,ob,es,e,c⟩:=x;exact⟨z,y,xs,Paired.mapP r λp q z=>⟨z.1,z.2.1.mono ht,z.2.2⟩,ob,es,k _ _ (.inl rfl) e,c⟩
 |set S n=>obtain⟨ob,es,ep,t,e,c⟩:=x;exact⟨ob,es,ep,t,k _ _ (.inl rfl) e,c⟩
 |ins C dx fs=>obtain⟨d,z,ne,e,mA,⟨od,es,ep,e2,c⟩,r⟩:=x;exact⟨ho _ d,z,ne,k _ _ (.inl rfl) e,mA,⟨od,es,ep,k _ _ (.inr d) e2,c⟩,r⟩
 |own y=>obtain⟨ob,e⟩:=x;exact⟨ob,k _ _ (.inl rfl) e⟩
 |xd fs=>obtain⟨mA,⟨od,es,ep,e,c⟩,r⟩:=x;exact⟨mA,⟨od,es,ep,k _ _ (.inl rfl) e,c⟩,r⟩
 |rng lo hi=>obtain⟨t,u,v,e⟩:=x;exact⟨t,u,v,k _ _ (.inl rfl) e⟩
 |frz ob u ih=>obtain⟨e,q⟩:=x;exact⟨k _ _ (.inl rfl) e,ih q⟩
 |tbl ps=>have e:h.get? a=aA {cls:=.none,data:=.fields ps}:=x;show h'.get? a=aA {cls:=.none,data:=.fields ps};exact k a _ (.inl rfl) e
 |met f y=>have e:h.get? a=aA (PySem.W.methodObj (.ref f) (.ref y)):=x;show h'.get? a=aA (PySem.W.methodObj (.ref f) (.ref y));exact k a _ (.inl rfl) e
 |tab q=>obtain⟨ps,e,t,c⟩:=x;refine⟨ps,k _ _ (.inl rfl) e,t,λpos cv z=>?_⟩;obtain⟨c1,o1,vs,tt,e1,e2,r⟩:=c pos cv z;exact⟨c1,o1,vs,tt,e1,hz _ _ e2,r⟩
 |ext φ=>obtain⟨p,⟨o,e⟩,st⟩:=x;exact⟨st _ _ p λo q=>k _ _ (.inl rfl) q,⟨o,k _ _ (.inl rfl) e⟩,st⟩
theorem Cy.lt(x:Cy P w H h)(e:H a=aA o):a<h.objs.size:=(x a o e).lt
theorem Cy.fresh(x:Cy P w H h)(e:h.objs.size<=a):H a=aB:=by
 cases q:H a with
 |none=>rfl
 |some u=>exact m_ (de (x.lt q) e) (gz _)
theorem Cy.kept(x:Cy P w H h)(k:∀b u,h.get? b=aA u->h'.get? b=aA u):Cy P w H h':=λa o e=>
 (x a o e).stay (λb u _ q=>k b u q) (λ_ q=>q) λ_ _ q=>q
theorem Cy.laid(x:Cy P w H h)(k:∀b u,h.get? b=aA u->h'.get? b=aA u)(hp:h.objs.size<=a)(new:Yc P w (Yo H a o) h' a o):Cy P w (Yo H a o) h':=λb u e=>by
 have hn:=x.fresh hp;by_cases hb:b=a
 .subst hb;rw[Z8]at e;cases e;exact new
 .rw[Zp hb]at e;exact(x b u e).stay (λc v _ q=>k c v q) (λc q=>by rw[Zp (Y1 q hn)];exact q) λc xs q=>by rw[Zp (Y1 q hn)];exact q
end
def Rd(H:Hp)(a:aq)(u:HO):Prop:=H a=aA u\/∃o,H a=aA (.frz o u)
theorem Rd.ok{P:cg}{w:c8}{H:Hp}{h:d6}{a:aq}{u:HO}(r:Rd H a u)(x:Cy P w H h):Yc P w H h a u:=by
 rcases r with r|⟨o,r⟩
 .exact x a u r
 .obtain⟨_,q⟩:=x a _ r;exact q
def HK(H:Hp)(a:aq)(kvs:List (Key×V)):Prop:=∃ep,H a=aA (.dK kvs ep)
def HTt(H:Hp)(a:aq)(kvs:List (List Key×V)):Prop:=∃ep bs,H a=aA (.dT kvs ep bs)
def RdK(H:Hp)(a:aq)(kvs:List (Key×V)):Prop:=∃ep,Rd H a (.dK kvs ep)
def RdT(H:Hp)(a:aq)(kvs:List (List Key×V)):Prop:=∃ep bs,Rd H a (.dT kvs ep bs)
theorem HK.rd{H:Hp}{a:aq}{kvs:List (Key×V)}(h:HK H a kvs):RdK H a kvs:=let⟨ep,h⟩:=h;⟨ep,.inl h⟩
def N3(kvs:List (List Key×V))(bs:List aq)(k:List Key)(b:aq):List Addr:=if(kvs.any λkv=>decide (kv.1=k))=aC then bs else bs++[b]
theorem HTt.rd{H:Hp}{a:aq}{kvs:List (List Key×V)}(h:HTt H a kvs):RdT H a kvs:=let⟨ep,bs,h⟩:=h;⟨ep,bs,.inl h⟩
def Mut:Option HO->Prop
 |some (.lst _)=>True
 |some (.dK _ _)=>True
 |some (.dT _ _ _)=>True
 |some (.dN _ _ _)=>True
 |some (.set _ _)=>True
 |some (.ins _ _ _)=>True
 |some (.ext _)=>True
 |_=>False
section
variable{P:cg}{w:c8}{H:Hp}{h h':d6}{x e:aq}{o':HO}
theorem Cy.write(ok:Cy P w H h)(mu:Mut (H x))(he:e=x\/H e=aA (.own x))(k:∀b u,b≠e->h.get? b=aA u->h'.get? b=aA u)(RF:∃u,h'.get? e=aA u)
  (new:Yc P w (Yo H x o') h' x o'):Cy P w (Yo H x o') h':=λb u q=>by
 have QF:∀c y,H c=aA (.own y)->c≠x:=λc y r z=>by subst z;rw[r]at mu;exact mu
 have LK:∀c xs,H c=aA (.tup xs)->c≠x:=λc xs r z=>by subst z;rw[r]at mu;exact mu
 by_cases hb:b=x
 .subst hb;rw[Z8]at q;cases q;exact new
 .rw[Zp hb]at q;by_cases hbe:b=e
  .have q':H b=aA (.own x):=by
    rcases he with z|z
    .exact m_ (hbe.trans z) hb
    .rw[hbe];exact z
   rw[q]at q';cases q';obtain⟨v,hv⟩:=RF;exact⟨v,by rw[hbe];exact hv⟩
  .refine(ok b u q).stay (λc v hc r=>k c v ?_ r) (λc r=>by rw[Zp (QF c b r)];exact r) (λc xs r=>by rw[Zp (LK c xs r)];exact r) λc o r=>by rw[Zp (λz=>by subst z;rw[r]at mu;exact mu)];exact r
   rcases hc with rfl|hc
   .exact hbe
   .rintro rfl;rcases he with z|z
    .exact QF c b hc z
    .rw[hc]at z;cases z;exact hb rfl
end
structure Un(fs ex:List aq)(H H':Hp)(h h':d6):Prop where
 keep:∀b o,h.get? b=aA o->H b=aB->b∉fs->b∉ex->h'.get? b=aA o
 slot:∀b o,h.get? b=aA o->H b=aB->b∈fs->b∉ex->∃sl,h'.get? b=aA {o with slots:=sl}
 free:∀b o,h.get? b=aA o->H b=aB->b∉ex->H' b=aB
 there:∀b o,h.get? b=aA o->b∉ex->∃o',h'.get? b=aA o'
 tups:∀b xs,H b=aA (.tup xs)->H' b=aA (.tup xs)
 frzs:∀b o u,H b=aA (.frz o u)->H' b=aA (.frz o u)
 tbls:∀b ps,H b=aA (.tbl ps)->∃more,H' b=aA (.tbl (ps++more))
section
variable{fs nF ex nG:List aq}{H H1 H2:Hp}{h h1 h2 h':d6}{a x e:aq}{o:HO}
theorem Un.any(u:Un fs ex H H1 h h1){b:aq}{ob:Obj}(q:h.get? b=aA ob)(n:H b=aB)(hx:b∉ex):∃sl,h1.get? b=aA {ob with slots:=sl}:=by
 by_cases hb:b∈fs
 .exact u.slot b ob q n hb hx
 .exact⟨ob.slots,u.keep b ob q n hb hx⟩
theorem Un.kept(k:∀b u,h.get? b=aA u->h'.get? b=aA u):Un fs ex H H h h':=
 ⟨λb ob q _ _ _=>k b ob q,λb ob q _ _ _=>⟨ob.slots,k b ob q⟩,λ_ _ _ n _=>n,λb ob q _=>⟨ob,k b ob q⟩,λ_ _ q=>q,λ_ _ _ q=>q,λ_ ps q=>⟨#[],by rw[q];simp⟩⟩
theorem Un.refl:Un fs ex H H h h:=Un.kept λ_ _ q=>q
theorem Un.laid(k:∀b u,h.get? b=aA u->h'.get? b=aA u)(hp:h.objs.size<=a)(hn:H a=aB):Un fs ex H (Yo H a o) h h' where
 keep:=λb u q _ _ _=>k b u q
 slot:=λb u q _ _ _=>⟨u.slots,k b u q⟩
 free:=λb u q n _=>by rw[Zp (cm (de (bp q) hp))];exact n
 there:=λb u q _=>⟨u,k b u q⟩
 tups:=λb xs q=>by rw[Zp (Y1 q hn)];exact q
 frzs:=λb u xs q=>by rw[Zp (Y1 q hn)];exact q
 tbls:=λb ps q=>⟨#[],by rw[Zp (Y1 q hn),q];simp⟩
theorem Un.write(mu:Mut (H x))(he:e=x\/H e=aA (.own x))(k:∀b u,b≠e->h.get? b=aA u->h'.get? b=aA u)(RF:∃u,h'.get? e=aA u):Un fs ex H (Yo H x o) h h':=by
 have hx:∀b,H b=aB->b≠x:=λb n z=>by subst z;rw[n]at mu;exact mu
 have hb:∀b,H b=aB->b≠e:=λb n z=>by
  subst z;rcases he with r|r
  .exact hx b n r
  .rw[n]at r;cases r
 have hm:∀b u,H b=aA u->¬Mut (aA u)->b≠x:=λb u q nm z=>by subst z;rw[q]at mu;exact nm mu
 refine⟨λb u q n _ _=>k b u (hb b n) q,λb u q n _ _=>⟨u.slots,k b u (hb b n) q⟩,λb u q n _=>by rw[Zp (hx b n)];exact n,λb u q _=>?_,
  λb xs q=>by rw[Zp (hm b _ q λz=>z)];exact q,λb u xs q=>by rw[Zp (hm b _ q λz=>z)];exact q,λb ps q=>⟨#[],by rw[Zp (hm b _ q λz=>z),q];simp⟩⟩
 by_cases hbe:b=e
 .subst hbe;exact RF
 .exact⟨u,k b u hbe q⟩
end
def trk(h:d6)(H:Hp):List Addr:=(df h.objs.size).filter λa=>(H a).isSome
def Kq(h:d6)(H:Hp):Heap:=PySem.W.hideAll h (trk h H)
theorem oH(h:d6)(H:Hp):(Kq h H).objs.size=h.objs.size:=PySem.W.hideAll_size _ _
theorem pi{h:d6}{H:Hp}{b:aq}{o:Obj}(e:h.get? b=aA o)(n:H b=aB):(Kq h H).get? b=aA o:=
 PySem.W.hideAll_get _ e λhm=>by have q:(H b).isSome=aC:=(List.mem_filter.mp hm).2;rw[n]at q;simp at q
theorem rE{h:d6}{H:Hp}{b:aq}{o:Obj}(e:(Kq h H).get? b=aA o):h.get? b=aA o/\H b=aB:=by
 have e':h.get? b=aA o:=PySem.W.of_hideAll (trk h H) e;refine⟨e',?_⟩;cases q:H b with
 |none=>rfl
 |some x=>have hm:b∈trk h H:=List.mem_filter.mpr ⟨cr.mpr (bp e'),by simp[q]⟩;have z:(Kq h H).get? b=aB:=PySem.W.hideAll_none (trk h H) hm;rw[z]at e;cases e
noncomputable def rD(g h:d6)(L:aq):List (aq×Obj):=(df h.objs.size).filterMap λa=>if a=L\/(g.get? a).isSome=aC then aB else(h.get? a).map λo=>(a,o)
def rest(g h:d6)(L d:aq):List (aq×Obj):=(rD g h L).filter λp=>decide (p.1≠d)
structure Mod(K:ad)(mg:Str->Option aj)(base:d6):Prop where
 kin:K.In base
 glob:base.Ns mainGlobals mg
 blt:∃mb,base.Ns builtinsNs mb/\∀x:Str,x≠"__name__"->mb x=bootBuiltins x
 nolimit:base.NoLimit
set_option genInjectivity false in
structure Cx where
 prog:cg
 w:c8
 K:ad
 mg:Str->Option aj
 base:d6
 A:dh
 N:List Str
 s₀:ao
 H₀:Hp
 env:Env
 outer:List Env
 stack:List Env
 ex:List aq
 fn:Str->Bool
 calm:Bool
 pn:List (aq×Obj)
 xe:aj->ao->Prop
noncomputable def frs(l:List Env):List Addr:=l.filterMap (·.frame)
abbrev Cx.fs(X:Cx):List Addr:=frs X.outer
def X3(sc:Scope)(x:Str):Prop:=sc.names.lookup x=aA .local\/sc.names.lookup x=aA .cell\/sc.names.lookup x=aA .free
def Loc(sc:Scope)(x:Str):Prop:=sc.names.lookup x=aA .local\/sc.names.lookup x=aA .cell
def DL(env:Env)(h:d6)(m:Str->Option aj)(x:Str)(u:aj):Prop:=
 (env.kindOf x=aA .local/\m x=aA u)\/((env.kindOf x=aA .cell\/env.kindOf x=aA .free)/\∃c,env.cells.lookup x=aA c/\h.IsCell c (aA u))
set_option genInjectivity false in
structure Cx.Ok(X:Cx):Prop where
 mod:Mod X.K X.mg X.base
 kind:X.env.scope.kind= .function
 glob:X.env.globals=mainGlobals
 blt:X.env.builtins=builtinsNs
 above:X.s₀.heap.objs.size<=X.env.locals
 inj:∀x y c,X.env.cells.lookup x=aA c->X.env.cells.lookup y=aA c->x=y
 has:∀x,(X.env.kindOf x=aA .cell\/X.env.kindOf x=aA .free)->∃c,X.env.cells.lookup x=aA c
 cab:∀x c,X.fn x=aC->X.env.cells.lookup x=aA c->X.s₀.heap.objs.size<=c
 hd:X.calm=aC->X.A.handled=aB
 frames:X.A.frames=aA X.stack
 stk:X.stack=X.outer\/(X.stack=X.env::X.outer/\X.env.frame=aA X.env.locals)
 exf:∀b∈X.ex,b≠X.env.locals/\∀x c,X.env.cells.lookup x=aA c->c≠b
 bs:∀b o,X.base.get? b=aA o->X.s₀.heap.get? b=aA o/\X.H₀ b=aB
 bsz:X.base.objs.size<=X.s₀.heap.objs.size
 noex:∀b o,X.base.get? b=aA o->b∉X.ex
 exfs:∀b∈X.ex,b∉X.fs
 funs:X.s₀.heap.FunFrames X.base X.outer
 frf:∀b∈X.fs,X.H₀ b=aB
structure mE(X:Cx)(n_:List (aq×Obj))(σ:List (Option V))(H:Hp)(s:ao):Prop where
 ok:X.Ok
 os:s.os=X.s₀.os
 bare:AllBare s.gens
 base:Un X.fs X.ex X.H₀ H X.s₀.heap s.heap
 loc:∃m,s.heap.Ns X.env.locals m/\∀(i:Nat) (x:Str) (v:V),X.N[i]? =aA x->σ[i]? =aA (aA v)->X3 X.env.scope x->∃u,Zy v u/\DL X.env s.heap m x u
 cell:∀x c,X.env.cells.lookup x=aA c->∃v,s.heap.IsCell c v
 free:H X.env.locals=aB
 freeC:∀x c,X.env.cells.lookup x=aA c->H c=aB
 pin:∀p∈X.pn++n_,s.heap.get? p.1=aA p.2/\H p.1=aB/\p.1≠X.env.locals/\p.1∉X.fs/\∀v,p.2.data≠.cell v
 hok:Cy X.prog X.w H s.heap
 len:σ.length=X.N.length
section
variable{X:Cx}{n_:List (aq×Obj)}{σ:List (Option V)}{H H':Hp}{s:ao}{h':d6}
theorem Cx.Ok.nofr(ok:X.Ok){b:aq}{o:Obj}(e:X.base.get? b=aA o):b∉X.fs:=λhb=>by have:=(ok.funs.mem hb).1;rw[e]at this;cases this
theorem mE.bs(I:mE X n_ σ H s):∀b o,X.base.get? b=aA o->s.heap.get? b=aA o/\H b=aB:=λb o e=>
 ⟨I.base.keep b o (I.ok.bs b o e).1 (I.ok.bs b o e).2 (I.ok.nofr e) (I.ok.noex b o e),I.base.free b o (I.ok.bs b o e).1 (I.ok.bs b o e).2 (I.ok.noex b o e)⟩
theorem mE.bk(I:mE X n_ σ H s):∀b o,X.base.get? b=aA o->s.heap.get? b=aA o:=λb o e=>(I.bs b o e).1
theorem mE.mod(I:mE X n_ σ H s):Mod X.K X.mg X.base:=I.ok.mod
theorem mE.kIn(I:mE X n_ σ H s):X.K.In s.heap:=I.ok.mod.kin.keeps I.bk
theorem mE.lt(I:mE X n_ σ H s):X.env.locals<s.heap.objs.size:=let⟨_,hn,_⟩:=I.loc;hn.lt
theorem mE.sz(I:mE X n_ σ H s):X.s₀.heap.objs.size<=s.heap.objs.size:=ga I.ok.above (Nat.le_of_lt I.lt)
theorem mE.nofs(I:mE X n_ σ H s){a:aq}(h:s.heap.objs.size<=a):a∉X.fs:=λhb=>by obtain⟨_,o,ho,_⟩:=I.ok.funs.mem hb;exact m_ (de (bp ho) (ga I.sz h)) (gz _)
theorem mE.cne(I:mE X n_ σ H s):∀x c,X.env.cells.lookup x=aA c->c≠X.env.locals:=λx c e z=>by obtain⟨v,o,ho,hd⟩:=I.cell x c e;obtain⟨m,⟨o',es,ep,XG,XB,_⟩,_⟩:=I.loc;rw[z,XG]at ho;cases ho;rw[XB]at hd;cases hd
theorem mE.funs(I:mE X n_ σ H s):s.heap.FunFrames X.base X.outer:=by
 have all:∀(l:List Env),(∀b∈frs l,b∈X.fs)->X.s₀.heap.FunFrames X.base l->s.heap.FunFrames X.base l:=by
  intro l;induction l with
  |nil=>intro _ _;trivial
  |cons env r ih=>intro hs hl;obtain⟨hk,⟨L,o,hf,hn,ho,hd⟩,hr⟩:=hl;have hL:L∈X.fs:=hs L (by unfold frs;rw[List.filterMap_cons,hf];exact ac);obtain⟨sl,e⟩:=I.base.slot L o ho (I.ok.frf L hL) hL λz=>I.ok.exfs L z hL;exact⟨hk,⟨L,_,hf,hn,e,hd⟩,ih (λb hb=>hs b (by unfold frs;rw[List.filterMap_cons,hf];exact am _ hb)) hr⟩
 exact all X.outer (λ_ hb=>hb) I.ok.funs
theorem mE.stack(I:mE X n_ σ H s):s.heap.FunFrames X.base X.stack:=by
 rcases I.ok.stk with e|⟨e,hf⟩
 .rw[e];exact I.funs
 .rw[e];obtain⟨m,hn,_⟩:=I.loc;refine .cons (by rw[I.ok.kind];decide) hf hn ?_ I.funs;exact Heap.get?_none_of_le (ga I.ok.bsz I.ok.above)
theorem mE.stkSub(I:mE X n_ σ H s):∀b∈frs X.stack,b∈X.env.locals::X.fs:=λb hb=>by
 rcases I.ok.stk with e|⟨e,hf⟩
 .rw[e]at hb;exact am _ hb
 .rw[e]at hb;unfold frs at hb;rw[List.filterMap_cons,hf]at hb;exact hb
theorem mE.stkFree(I:mE X n_ σ H s):∀b∈frs X.stack,H b=aB:=λb hb=>by
 rcases ay.mp (I.stkSub b hb)with e|hb
 .rw[e];exact I.free
 .obtain⟨_,o,ho,_⟩:=I.ok.funs.mem hb;exact I.base.free b o ho (I.ok.frf b hb) λz=>I.ok.exfs b z hb
theorem mE.step{g':Array GenState}{t':Nat}{d':Drawn}{ch:List aq}(I:mE X n_ σ H s)
  (WE:∀b∈ch,(b∈X.ex\/X.s₀.heap.objs.size<=b)/\b≠X.env.locals/\(∀x c,X.env.cells.lookup x=aA c->c≠b)/\∀p∈X.pn++n_,p.1≠b)
  (keep:∀b o,b≠X.env.locals->b∉X.fs->b∉ch->s.heap.get? b=aA o->H b=aB->h'.get? b=aA o)
  (slot:∀b o,b≠X.env.locals->b∈X.fs->b∉ch->s.heap.get? b=aA o->H b=aB->∃sl,h'.get? b=aA {o with slots:=sl}) (free:∀b o,b∉ch->s.heap.get? b=aA o->H b=aB->H' b=aB)
  (there:∀b o,b∉ch->s.heap.get? b=aA o->∃o',h'.get? b=aA o')
  (tups:∀b xs,H b=aA (.tup xs)->H' b=aA (.tup xs)) (frzs:∀b o u,H b=aA (.frz o u)->H' b=aA (.frz o u)) (tbls:∀b ps,H b=aA (.tbl ps)->∃more,H' b=aA (.tbl (ps++more)))
  (ns:∀m,s.heap.Ns X.env.locals m->h'.Ns X.env.locals m) (hok:Cy X.prog X.w H' h') (hg:AllBare g'):
  mE X n_ σ H' {s with heap:=h',gens:=g',drawn:=d',toks:=t'}:=by
 have FC:∀b o,X.s₀.heap.get? b=aA o->b≠X.env.locals:=λb o e=>cm (de (bp e) I.ok.above);have NC:∀b o,X.s₀.heap.get? b=aA o->b∉X.ex->b∉ch:=λb o e hx hb=>by
  rcases(WE b hb).1 with z|z
  .exact hx z
  .exact m_ (de (bp e) z) (gz _)
 have TK:∀x c,X.env.cells.lookup x=aA c->∀v,s.heap.IsCell c v->h'.IsCell c v:=λx c e v ⟨o,ho,hd⟩=>by
  have QI:c∉ch:=λz=>(WE c z).2.2.1 x c e rfl;by_cases hc:c∈X.fs
  .obtain⟨sl,q⟩:=slot c o (I.cne x c e) hc QI ho (I.freeC x c e);exact⟨_,q,hd⟩
  .exact⟨o,keep c o (I.cne x c e) hc QI ho (I.freeC x c e),hd⟩
 refine⟨I.ok,I.os,hg,⟨λb o e n hb hx=>?_,λb o e n hb hx=>?_,λb o e n hx=>?_,λb o e hx=>?_,λb xs e=>tups b xs (I.base.tups b xs e),λb o xs e=>frzs b o xs (I.base.frzs b o xs e),λb ps e=>?_⟩,?_,λx c e=>?_,?_,λx c e=>?_,λp hp=>?_,hok,I.len⟩
 .exact keep b o (FC b o e) hb (NC b o e hx) (I.base.keep b o e n hb hx) (I.base.free b o e n hx)
 .obtain⟨sl,e1⟩:=I.base.slot b o e n hb hx;obtain⟨zP,e2⟩:=slot b _ (FC b o e) hb (NC b o e hx) e1 (I.base.free b o e n hx);exact⟨zP,e2⟩
 .obtain⟨o',e1⟩:=I.base.there b o e hx;exact free b o' (NC b o e hx) e1 (I.base.free b o e n hx)
 .obtain⟨o',e1⟩:=I.base.there b o e hx;exact there b o' (NC b o e hx) e1
 .obtain⟨m1,e1⟩:=I.base.tbls b ps e;obtain⟨m2,e2⟩:=tbls b _ e1;exact⟨m1++m2,by rw[e2,Array.append_assoc]⟩
 .obtain⟨m,hn,hl⟩:=I.loc;refine⟨m,ns m hn,λi x v e1 e2 e3=>?_⟩;obtain⟨u,r,l⟩:=hl i x v e1 e2 e3;refine⟨u,r,?_⟩;rcases l with l|⟨k,c,e,z⟩
  .exact .inl l
  .exact .inr ⟨k,c,e,TK x c e _ z⟩
 .obtain⟨v,z⟩:=I.cell x c e;exact⟨v,TK x c e v z⟩
 .obtain⟨m,⟨o,_,_,ho,_⟩,_⟩:=I.loc;exact free _ o (λz=>(WE _ z).2.1 rfl) ho I.free
 .obtain⟨v,o,ho,hd⟩:=I.cell x c e;exact free c o (λz=>(WE c z).2.2.1 x c e rfl) ho (I.freeC x c e)
 .obtain⟨e,n,ne,nf,d⟩:=I.pin p hp;have QI:p.1∉ch:=λz=>(WE p.1 z).2.2.2 p hp rfl;exact⟨keep p.1 p.2 ne nf QI e n,free p.1 p.2 QI e n,ne,nf,d⟩
theorem mE.un{t':Nat}(I:mE X n_ σ H s)(u:Un X.fs [] H H' s.heap h')(hok:Cy X.prog X.w H' h'):mE X n_ σ H' {s with heap:=h',toks:=t'}:=by
 obtain⟨m,⟨o,es,ep,ho,r⟩,_⟩:=id I.loc;obtain⟨sl,hL⟩:=u.any ho I.free (by simp);exact I.step (g':=s.gens) (d':=s.drawn) (ch:=[]) (λ_ z=>nomatch z) (λb o _ hb _ e n=>u.keep b o e n hb (by simp)) (λb o _ hb _ e n=>u.slot b o e n hb (by simp)) (λb o _ e n=>u.free b o e n (by simp)) (λb o _ e=>u.there b o e (by simp)) u.tups u.frzs u.tbls (λm' hm=>by
  obtain⟨o',JX,YT,XG,r'⟩:=hm;rw[ho]at XG;cases XG;exact⟨_,JX,YT,hL,r'⟩) hok I.bare
theorem mE.call{g':Array GenState}{t':Nat}{d':Drawn}{ch:List aq}(I:mE X n_ σ H s)(u:Un (frs X.stack) ch H H' s.heap h')(hok:Cy X.prog X.w H' h')(hg:AllBare g')
  (WE:∀b∈ch,(b∈X.ex\/X.s₀.heap.objs.size<=b)/\b≠X.env.locals/\(∀x c,X.env.cells.lookup x=aA c->c≠b)/\∀p∈X.pn++n_,p.1≠b):
  mE X n_ σ H' {s with heap:=h',gens:=g',drawn:=d',toks:=t'}:=by
 obtain⟨m,⟨o,es,ep,ho,r⟩,_⟩:=id I.loc;obtain⟨sl,hL⟩:=u.any ho I.free λz=>(WE _ z).2.1 rfl;exact I.step (ch:=ch) WE (λb o hL hb hc e n=>u.keep b o e n (λz=>(ay.mp (I.stkSub b z)).elim hL hb) hc) (λb o _ _ hc e n=>u.any e n hc) (λb o hc e n=>u.free b o e n hc) (λb o hc e=>u.there b o e hc) u.tups u.frzs u.tbls (λm' hm=>by
  obtain⟨o',JX,YT,XG,r'⟩:=hm;rw[ho]at XG;cases XG;exact⟨_,JX,YT,hL,r'⟩) hok hg
theorem mE.turned{t':Nat}{it:aq}(I:mE X n_ σ H s)(k:∀b o,b≠it->s.heap.get? b=aA o->h'.get? b=aA o)(hn:H it=aB)(hL:it≠X.env.locals)
  (h1:it∈X.ex\/X.s₀.heap.objs.size<=it) (h2:∀x c,X.env.cells.lookup x=aA c->c≠it) (h3:∀p∈X.pn++n_,p.1≠it):mE X n_ σ H {s with heap:=h',toks:=t'}:=by
 have G_:∀b u,H b=aA u->b≠it:=λb u e z=>by rw[z,hn]at e;cases e
 refine I.step (g':=s.gens) (d':=s.drawn) (ch:=[it]) (λb hb=>?_) (λb o _ _ hc e _=>k b o (λz=>hc (by simp[z])) e) (λb o _ _ hc e _=>⟨o.slots,k b o (λz=>hc (by simp[z])) e⟩) (λ_ _ _ _ n=>n)
  (λb o hc e=>⟨o,k b o (λz=>hc (by simp[z])) e⟩) (λ_ _ e=>e) (λ_ _ _ e=>e) (λb ps e=>⟨#[],by rw[e];simp⟩) (λm hm=>?_) (λb u e=>?_) I.bare
 .have e:b=it:=by simpa using hb
  subst e;exact⟨h1,hL,h2,h3⟩
 .obtain⟨o,es,ep,ho,r⟩:=hm;exact⟨o,es,ep,k _ o (Ne.symm hL) ho,r⟩
 .refine(I.hok b u e).stay (λc v hc q=>k c v ?_ q) (λ_ q=>q) λ_ _ q=>q;rcases hc with z|z
  .rw[z];exact G_ b u e
  .exact G_ c _ z
theorem mE.tok(I:mE X n_ σ H s)(t:Nat):mE X n_ σ H {s with toks:=t}:=I.un (h':=s.heap) (t':=t) Un.refl I.hok
theorem mE.kept{t':Nat}(I:mE X n_ σ H s)(k:∀b u,s.heap.get? b=aA u->h'.get? b=aA u):mE X n_ σ H {s with heap:=h',toks:=t'}:=I.un (Un.kept k) (I.hok.kept k)
theorem mE.laid{a:aq}{o:HO}{t':Nat}(I:mE X n_ σ H s)(k:∀b u,s.heap.get? b=aA u->h'.get? b=aA u)(hp:s.heap.objs.size<=a)(new:Yc X.prog X.w (Yo H a o) h' a o):
  mE X n_ σ (Yo H a o) {s with heap:=h',toks:=t'}:=I.un (Un.laid k hp (I.hok.fresh hp)) (I.hok.laid k hp new)
theorem mE.write{x e:aq}{o:HO}{t':Nat}(I:mE X n_ σ H s)(mu:Mut (H x))(he:e=x\/H e=aA (.own x))(k:∀b u,b≠e->s.heap.get? b=aA u->h'.get? b=aA u)(RF:∃u,h'.get? e=aA u)
  (new:Yc X.prog X.w (Yo H x o) h' x o):mE X n_ σ (Yo H x o) {s with heap:=h',toks:=t'}:=I.un (Un.write mu he k RF) (I.hok.write mu he k RF new)
theorem mE.pins_of{pins':List (aq×Obj)}(I:mE X n_ σ H s)(h:∀p∈pins',s.heap.get? p.1=aA p.2/\H p.1=aB/\p.1≠X.env.locals/\p.1∉X.fs/\∀v,p.2.data≠.cell v):mE X pins' σ H s:=
 ⟨I.ok,I.os,I.bare,I.base,I.loc,I.cell,I.free,I.freeC,λp hp=>(ba.mp hp).elim (λz=>I.pin p (bz _ z)) (h p),I.hok,I.len⟩
theorem N4{N:List Str}(hN:N.Nodup){i j:Nat}{x:Str}(a:N[i]? =aA x)(b:N[j]? =aA x):i=j:=by obtain⟨h1,e1⟩:=aw.mp a;obtain⟨h2,e2⟩:=aw.mp b;exact(List.getElem_inj hN).mp (e1.trans e2.symm)
theorem Ig{M:Model}{A:dh}{E:aj->ao->Prop}{i:Nat}{x:Str}{v:V}{u:aj}{Q:Unit->ao->Prop}(I:mE X n_ σ H s)(hN:X.N.Nodup)(hi:X.N[i]? =aA x)(hx:Loc X.env.scope x)(r:Zy v u)
  (h:∀s',mE X n_ (σ.set i (aA v)) H s'->(∃a,gm a s.heap s'.heap/\(a=X.env.locals\/X.env.cells.lookup x=aA a))->Q () s') (hf:X.fn x=aC\/X.env.scope.names.lookup x=aA .local:=by first|exact .inl rfl|exact .inr rfl|assumption):bj M A (storeName X.env x u) Q E s:=by
 obtain⟨m,hn,hl⟩:=id I.loc;have JJ:(X.env.scope.kind== .class|| (X.env.scope.kind== .module&&X.env.locals !=X.env.globals))=aD:=by rw[I.ok.kind];rfl
 have QZ:i<σ.length:=by rw[I.len];exact(aw.mp hi).1
 have cne:=I.cne;have YZ:∀{a:aq} {h':d6},(∃o,s.heap.get? a=aA o/\H a=aB)->gm a s.heap h'->Cy X.prog X.w H h':=fun{a h'} ha hs b ob e=>by
  obtain⟨_,_,XR⟩:=ha;refine(I.hok b ob e).stay (λc w' hc q=>(hs.2 c ?_).trans q) (λ_ q=>q) λ_ _ q=>q;rintro rfl;rcases hc with rfl|hc
  .rw[XR]at e;cases e
  .rw[XR]at hc;cases hc
 rcases hx with hk|hk
 .refine wpAny_storeName_local hk hn (λh' NO hs=>?_) JJ;obtain⟨oL,_,_,X',_⟩:=id hn;refine h _ ⟨I.ok,I.os,I.bare,⟨λb o e n hb hx=>?_,λb o e n hb hx=>?_,I.base.free,λb o e hx=>?_,I.base.tups,I.base.frzs,I.base.tbls⟩,⟨_,NO,λj y v' e1 e2 e3=>?_⟩,λy c e=>?_,I.free,I.freeC,λp hp=>?_,YZ ⟨oL,X',I.free⟩ hs,by simpa using I.len⟩ ⟨_,hs,.inl rfl⟩
  .exact(hs.2 b (cm (de (bp e) I.ok.above))).trans (I.base.keep b o e n hb hx)
  .obtain⟨sl,e1⟩:=I.base.slot b o e n hb hx;exact⟨sl,(hs.2 b (cm (de (bp e) I.ok.above))).trans e1⟩
  .obtain⟨o',e1⟩:=I.base.there b o e hx;exact⟨o',(hs.2 b (cm (de (bp e) I.ok.above))).trans e1⟩
  .by_cases hj:j=i
   .subst hj;rw[hi]at e1;cases e1;rw[c9 QZ]at e2;cases e2;exact⟨u,r,.inl ⟨hk,by simp⟩⟩
   .rw[cz (Ne.symm hj)]at e2;obtain⟨u',r',q⟩:=hl j y v' e1 e2 e3;refine⟨u',r',?_⟩;rcases q with⟨k,e⟩|⟨k,c,e,z⟩
    .refine .inl ⟨k,?_⟩;have:y≠x:=λe=>hj (N4 hN e1 (e▸hi));simp[this,e]
    .exact .inr ⟨k,c,e,z.sameBut hs (cne y c e)⟩
  .obtain⟨w',z⟩:=I.cell y c e;exact⟨w',z.sameBut hs (cne y c e)⟩
  .obtain⟨e,n,ne,nf,d⟩:=I.pin p hp;exact⟨(hs.2 p.1 ne).trans e,n,ne,nf,d⟩
 .have hfn:X.fn x=aC:=by
   rcases hf with z|z
   .exact z
   .rw[z]at hk;cases hk
  obtain⟨c,hc⟩:=I.ok.has x (.inl hk);obtain⟨w',z⟩:=I.cell x c hc;refine wpAny_storeName_cell I.ok.kind hk hc z (λh' TF hs=>?_);obtain⟨oc,UZ,VD⟩:=id z;refine h {s with heap:=h'} ⟨I.ok,I.os,I.bare,⟨λb o e n hb hx=>?_,λb o e n hb hx=>?_,I.base.free,λb o e hx=>?_,I.base.tups,I.base.frzs,I.base.tbls⟩,⟨m,hn.sameBut hs (Ne.symm (cne x c hc)),λj y v' e1 e2 e3=>?_⟩,λy c' e=>?_,I.free,I.freeC,λp hp=>?_,YZ ⟨oc,UZ,I.freeC x c hc⟩ hs,by simpa using I.len⟩ ⟨c,hs,.inr hc⟩
  .exact(hs.2 b (cm (de (bp e) (I.ok.cab x c hfn hc)))).trans (I.base.keep b o e n hb hx)
  .obtain⟨sl,e1⟩:=I.base.slot b o e n hb hx;exact⟨sl,(hs.2 b (cm (de (bp e) (I.ok.cab x c hfn hc)))).trans e1⟩
  .obtain⟨o',e1⟩:=I.base.there b o e hx;exact⟨o',(hs.2 b (cm (de (bp e) (I.ok.cab x c hfn hc)))).trans e1⟩
  .by_cases hj:j=i
   .subst hj;rw[hi]at e1;cases e1;rw[c9 QZ]at e2;cases e2;exact⟨u,r,.inr ⟨.inl hk,c,hc,TF⟩⟩
   .rw[cz (Ne.symm hj)]at e2;obtain⟨u',r',q⟩:=hl j y v' e1 e2 e3;refine⟨u',r',?_⟩;rcases q with q|⟨k,c',e,z'⟩
    .exact .inl q
    .refine .inr ⟨k,c',e,z'.sameBut hs ?_⟩;rintro rfl;exact hj (N4 hN e1 (I.ok.inj _ _ _ e hc▸hi))
  .by_cases hcc:c'=c
   .subst hcc;exact⟨_,TF⟩
   .obtain⟨w2,z2⟩:=I.cell y c' e;exact⟨w2,z2.sameBut hs hcc⟩
  .obtain⟨e,n,ne,nf,d⟩:=I.pin p hp;refine⟨(hs.2 p.1 ?_).trans e,n,ne,nf,d⟩;intro q;rw[q,UZ]at e;have q':oc=p.2:=cy.inj e;exact d w' (by rw[<-q'];exact VD)
theorem N5{M:Model}{A:dh}{E:aj->ao->Prop}{i:Nat}{x:Str}{v:V}{u:aj}{Q:Unit->ao->Prop}(I:mE X n_ σ H s)(hN:X.N.Nodup)(hi:X.N[i]? =aA x)(hx:Loc X.env.scope x)(r:Zy v u)
  (h:∀s',mE X n_ (σ.set i (aA v)) H s'->Q () s') (hf:X.fn x=aC\/X.env.scope.names.lookup x=aA .local:=by first|exact .inl rfl|exact .inr rfl|assumption):bj M A (storeName X.env x u) Q E s:=
 Ig I hN hi hx r (λs' I' _=>h s' I') hf
theorem mE.call'{s':ao}{ch:List aq}(I:mE X n_ σ H s)(ho:s'.os=s.os)(u:Un (frs X.stack) ch H H' s.heap s'.heap)(hok:Cy X.prog X.w H' s'.heap)(hg:AllBare s'.gens)
  (WE:∀b∈ch,(b∈X.ex\/X.s₀.heap.objs.size<=b)/\b≠X.env.locals/\(∀x c,X.env.cells.lookup x=aA c->c≠b)/\∀p∈X.pn++n_,p.1≠b):mE X n_ σ H' s':=by
 obtain⟨h',g',d',t',o'⟩:=s';have e:o'=s.os:=ho;subst e;exact I.call (g':=g') (t':=t') (d':=d') u hok hg WE
end
abbrev XK:=aj->Option aq->Hp->Prop
noncomputable abbrev St:=List (Option V)
abbrev VK:=V->Hp->Prop
abbrev TE:=St->Hp->VK->Prop
abbrev TT:=St->Hp->(Bool->Hp->Prop)->Prop
abbrev TA:=St->Hp->(List V->Hp->Prop)->Prop
set_option genInjectivity false in
structure Ends where
 nx:St->Hp->Prop
 rt:VK
 bk:St->Hp->Prop:=λ_ _=>False
 ct:St->Hp->Prop:=λ_ _=>False
abbrev TS:=Ends->St->Hp->Prop
def EP(X:Cx)(n_:List (aq×Obj))(σ:St)(Q:VK)(u:aj)(s':ao):Prop:=∃v H',mE X n_ σ H' s'/\Zy v u/\Q v H'
def TP(X:Cx)(n_:List (aq×Obj))(σ:St)(Q:Bool->Hp->Prop)(b:Bool)(s':ao):Prop:=∃H',mE X n_ σ H' s'/\Q b H'
def AP(X:Cx)(n_:List (aq×Obj))(σ:St)(Q:List V->Hp->Prop)(us:List aj)(s':ao):Prop:=∃vs H',mE X n_ σ H' s'/\Z1 vs us/\Q vs H'
def SP(X:Cx)(n_:List (aq×Obj))(D:Ends)(f:Flow)(s':ao):Prop:=
 match f with
 | .next=>∃ZD H',mE X n_ ZD H' s'/\D.nx ZD H'
 | .brk=>∃ZD H',mE X n_ ZD H' s'/\D.bk ZD H'
 | .cont=>∃ZD H',mE X n_ ZD H' s'/\D.ct ZD H'
 | .ret u=>∃v ZD H',mE X n_ ZD H' s'/\Zy v u/\D.rt v H'
def PE(X:Cx)(e:cw)(t:TE):Prop:=
 ∀(n_:List (aq×Obj)) (s:ao) (σ:St) (H:Hp) (Q:VK),mE X n_ σ H s->t σ H Q->bj (cf X.prog X.w) X.A (gg e X.env) (EP X n_ σ Q) X.xe s
def PT(X:Cx)(e:cw)(t:TT):Prop:=
 ∀(n_:List (aq×Obj)) (s:ao) (σ:St) (H:Hp) (Q:Bool->Hp->Prop),mE X n_ σ H s->t σ H Q->bj (cf X.prog X.w) X.A (isTrue e X.env (gg e X.env)) (TP X n_ σ Q) X.xe s
def PW(X:Cx)(e:cw)(t:TT):Prop:=
 ∀(YK:Sem aj) (n_:List (aq×Obj)) (s:ao) (σ:St) (H:Hp) (Q:Bool->Hp->Prop),mE X n_ σ H s->t σ H Q->bj (cf X.prog X.w) X.A (isTrue e X.env YK) (TP X n_ σ Q) X.xe s
theorem PW.pt{X:Cx}{e:cw}{t:TT}(h:PW X e t):PT X e t:=h _
def PA(X:Cx)(es:List cw)(t:TA):Prop:=
 ∀(pos:Pos) (n_:List (aq×Obj)) (s:ao) (σ:St) (H:Hp) (Q:List V->Hp->Prop),mE X n_ σ H s->t σ H Q->bj (cf X.prog X.w) X.A (spliced (gb pos (az es X.env))) (AP X n_ σ Q) X.xe s
def PS(X:Cx)(st:Stmt)(t:TS):Prop:=
 ∀(n_:List (aq×Obj)) (s:ao) (σ:St) (H:Hp) (D:Ends),mE X n_ σ H s->t D σ H->bj (cf X.prog X.w) X.A (exec st X.env) (SP X n_ D) X.xe s
def Gd(X:Cx)(st:List Stmt)(t:TS):Prop:=
 ∀(n_:List (aq×Obj)) (s:ao) (σ:St) (H:Hp) (D:Ends),mE X n_ σ H s->t D σ H->bj (cf X.prog X.w) X.A (execs st X.env) (SP X n_ D) X.xe s
theorem Wl{α:Type}{t:Sem α}{Q Q':α->ao->Prop}{M:Model}{A:dh}{E:aj->ao->Prop}{s:ao}(h:bj M A t Q E s)(hQ:∀a s,Q a s->Q' a s):bj M A t Q' E s:=wpAny_mono h hQ λ_ _ x=>x
section
variable{X:Cx}
def Uo(i:Nat):TE:=λσ H Q=>∃v,σ[i]? =aA (aA v)/\Q v H
def tC(v:V):TE:=λ_ H Q=>Q v H
theorem Up{i:Nat}{x:Str}{pos:Pos}(hN:X.N[i]? =aA x)(hv:X3 X.env.scope x)(hd:(x==("__debug__":Str))=aD:=by decide)(YD:(x==("__classdict__":Str))=aD:=by decide):PE X (.Name x pos) (Uo i):=by
 intro n_ s σ H Q I h;obtain⟨v,e,h⟩:=h;obtain⟨m,hn,hl⟩:=I.loc;obtain⟨u,r,l⟩:=hl i x v hN e hv;have fin:EP X n_ σ Q u s:=⟨v,H,I,r,h⟩
 rcases l with⟨hk,hm⟩|⟨hk,c,hc,hcell⟩
 .exact wpAny_Name (wpAny_loadName_local I.ok.kind hk hn hm fin) hd
 .rcases hk with hk|hk
  .exact wpAny_Name (wpAny_loadName_cell I.ok.kind hk hc hcell fin) hd
  .exact wpAny_Name (wpAny_loadName_free I.ok.kind hk hc hcell fin YD) hd
theorem AZ{i j pos}:PE X (.Constant (.int i) j pos) (tC (.int i)):=λ_ _ _ H _ I h=>wpAny_Constant_int ⟨.int i,H,I.tok _,⟨_,rfl⟩,h⟩
theorem vA{b j pos}:PE X (.Constant (.bool b) j pos) (tC (.bl b)):=λ_ _ _ H _ I h=>Constant_bool ⟨.bl b,H,I,rfl,h⟩
theorem Kr{x j pos}:PE X (.Constant (.str x) j pos) (tC (.str x)):=λ_ _ _ H _ I h=>Calls.Constant_str ⟨.str x,H,I.tok _,⟨_,rfl⟩,h⟩
def Gl(X:Cx)(x:Str):Prop:=X.env.kindOf x=aA .globalImplicit
theorem rC{E:aj->ao->Prop}{n_:List (aq×Obj)}{s:ao}{σ:St}{H:Hp}{x:Str}{u:aj}{pos:Pos}{Q:aj->ao->Prop}(I:mE X n_ σ H s)(hg:Gl X x)(hm:X.mg x=aA u)(h:Q u s)
  (hd:(x==("__debug__":Str))=aD:=by decide):bj (cf X.prog X.w) X.A (gg (.Name x pos) X.env) Q E s:=
 Calls.Name_function_global I.ok.kind hg (Calls.loadGlobal_global (by rw[I.ok.glob];exact I.mod.glob.keeps I.bk) hm h) hd
theorem O8{E:aj->ao->Prop}{n_:List (aq×Obj)}{s:ao}{σ:St}{H:Hp}{x:Str}{u:aj}{pos:Pos}{Q:aj->ao->Prop}(I:mE X n_ σ H s)(hg:Gl X x)(hm:X.mg x=aB)(hv:bootBuiltins x=aA u)(h:Q u s)
  (hn:x≠"__name__":=by decide) (hd:(x==("__debug__":Str))=aD:=by decide):bj (cf X.prog X.w) X.A (gg (.Name x pos) X.env) Q E s:=by
 obtain⟨mb,h1,h2⟩:=I.mod.blt;exact Calls.Name_function_global I.ok.kind hg (Calls.loadGlobal_builtin (by rw[I.ok.glob];exact I.mod.glob.keeps I.bk) hm (by rw[I.ok.blt];exact h1.keeps I.bk) ((h2 x hn).trans hv) h) hd
theorem rB{x:Str}{v:V}{u:aj}{pos:Pos}(hg:Gl X x)(hm:X.mg x=aB)(hv:bootBuiltins x=aA u)(r:Zy v u)(hn:x≠"__name__":=by decide)(hd:(x==("__debug__":Str))=aD:=by decide):PE X (.Name x pos) (tC v):=
 λ_ _ _ H _ I h=>O8 I hg hm hv ⟨v,H,I,r,h⟩ hn hd
def t2I(ta tb:TE)(k:Int->Int->Hp->Prop):St->Hp->Prop:=λσ H=>ta σ H λx H1=>tb σ H1 λy H2=>∃i j,x= .int i/\y= .int j/\k i j H2
variable{a b:cw}{ta tb:TE}{pos:Pos}
def xU(p:Int->Int->Bool)(ta tb:TE):TE:=λσ H Q=>t2I ta tb (λi j H2=>Q (.bl (p i j)) H2) σ H
abbrev tLt:TE->TE->TE:=xU λi j=>decide (i<j)
def tB(t:TE):TT:=λσ H Q=>t σ H λx H1=>∃c,x= .bl c/\Q c H1
theorem ui{e:cw}{t:TE}(h:PE X e t)(he:∀YK,isTrue e X.env YK=(do let v<-YK;standAt e.pos;holding [v] (truthy v)):=by intro _;rfl):PT X e (tB t):=by intro n_ s σ H Q I hw;refine isTrue_plain (Wl (h n_ s σ H _ I hw) λv s1 ⟨x,H1,I1,r1,q1⟩=>?_) (he _);obtain⟨d,rfl,q⟩:=q1;cases r1;exact wpAny_truthy_bool ⟨H1,I1,q⟩
variable{tA ON:TT}{rest:List cw}
def DK(t u:TT):TT:=λσ H Q=>t σ H λc H1=>if c=aC then u σ H1 Q else Q aD H1
def tOr(t u:TT):TT:=λσ H Q=>t σ H λc H1=>if c=aC then Q aC H1 else u σ H1 Q
def DJ(t:TT):TT:=λσ H Q=>t σ H λc H1=>Q (!c) H1
theorem rA(ha:PT X a tA):PW X (.BoolOp .And [a] pos) tA:=by
 intro wh n_ s σ H Q I h;refine isTrue_and (Wl (ha n_ s σ H Q I h) λc s1 e=>?_);cases c with
 |true=>exact isTrue_and_nil e
 |false=>exact e
theorem uh(ha:PT X a tA):PW X (.BoolOp .Or [a] pos) tA:=by
 intro wh n_ s σ H Q I h;refine isTrue_or (Wl (ha n_ s σ H Q I h) λc s1 e=>?_);cases c with
 |false=>exact isTrue_or_nil e
 |true=>exact e
theorem ug(ha:PT X a tA)(hb:PW X (.BoolOp .And (b::rest) pos) ON):PW X (.BoolOp .And (a::b::rest) pos) (DK tA ON):=by
 intro wh n_ s σ H Q I h;refine isTrue_and (Wl (ha n_ s σ H _ I h) λc s1 ZG=>?_);obtain⟨H1,I1,q1⟩:=ZG;cases c with
 |true=>exact hb wh n_ s1 σ H1 Q I1 q1
 |false=>exact⟨H1,I1,q1⟩
theorem w_(ha:PT X a tA)(hb:PW X (.BoolOp .Or (b::rest) pos) ON):PW X (.BoolOp .Or (a::b::rest) pos) (tOr tA ON):=by
 intro wh n_ s σ H Q I h;refine isTrue_or (Wl (ha n_ s σ H _ I h) λc s1 ZG=>?_);obtain⟨H1,I1,q1⟩:=ZG;cases c with
 |true=>exact⟨H1,I1,q1⟩
 |false=>exact hb wh n_ s1 σ H1 Q I1 q1
theorem uf(ha:PT X a tA):PT X (.UnaryOp .Not a pos) (DJ tA):=by intro n_ s σ H Q I h;exact isTrue_not (ha n_ s σ H (λc H1=>Q (!c) H1) I h)
def CW(ta tb:TE):TE:=λσ H Q=>ta σ H λx H1=>∃c,x= .bl c/\if c=aC then tb σ H1 Q else Q (.bl aD) H1
theorem ue{op} {t:TE} (h:PE X a t):PE X (.BoolOp op [a] pos) t:=λn_ s σ H Q I hw=>BoolOp_one (h n_ s σ H Q I hw)
theorem uY(ha:PE X a ta)(hb:PE X (.BoolOp .And (b::rest) pos) tb):PE X (.BoolOp .And (a::b::rest) pos) (CW ta tb):=by
 intro n_ s σ H Q I h;refine BoolOp_and (Wl (ha n_ s σ H _ I h) λv s1 ZG=>?_);obtain⟨x,H1,I1,r1,q1⟩:=ZG;obtain⟨c,rfl,q1⟩:=q1;cases r1;refine wpAny_truthy_bool ?_;cases c with
 |true=>exact hb n_ s1 σ H1 Q I1 q1
 |false=>exact⟨.bl aD,H1,I1,rfl,q1⟩
end
def J3(K:ad)(H:Hp)(a:aq)(xs:List V):Prop:=
 Rd H a (.lst xs)\/
  ∃(o:Obj) (mC:Array aj) (n:Nat),K.lookup a=aA o/\o.cls= .type "list"/\o.dict=aB/\o.data= .seq mC n/\mC.size<=sizeLine/\Z1 xs mC.toList
def Rl(K:ad)(H:Hp)(a:aq)(xs:List V):Prop:=
 Rd H a (.tup xs)\/
  ∃(o:Obj) (mC:Array aj) (n:Nat),K.lookup a=aA o/\o.cls= .type "tuple"/\o.data= .seq mC n/\mC.size<=sizeLine/\Z1 xs mC.toList
noncomputable def xS:aj->Option V
 | .none=>aA .non
 | .bool b=>aA (.bl b)
 | .int i _=>aA (.int i)
 | .str x _=>aA (.str x)
 | .bytes b _=>aA (.byt b)
 | .float b _=>aA (.flt b)
 | .ref a=>aA (.ref a)
 | .type n=>aA (.ty n)
 |_=>aB
theorem Zy.abs{x:V}{u:aj}(r:Zy x u):xS u=aA x:=by
 cases x with
 |non=>cases r;rfl
 |bl _=>cases r;rfl
 |int _=>obtain⟨t,rfl⟩:=r;rfl
 |str _=>obtain⟨t,rfl⟩:=r;rfl
 |byt _=>obtain⟨t,rfl⟩:=r;rfl
 |flt _=>obtain⟨t,rfl⟩:=r;rfl
 |ref _=>cases r;rfl
 |ty _=>cases r;rfl
theorem Zy.inj{x y:V}{u:aj}(r:Zy x u)(q:Zy y u):x=y:=cy.inj (r.abs.symm.trans q.abs)
theorem Z1.inj{xs:List V}:∀{ys:List V} {us:List aj},Z1 xs us->Z1 ys us->xs=ys:=by
 induction xs with
 |nil=>intro ys us h g;cases h;cases g;rfl
 |cons x xs ih=>
  intro ys us h g;cases h with
  |cons r t=>
   cases g with
   |cons r' t'=>rw[r.inj r',ih t t']
section
variable{X:Cx}{n_:List (aq×Obj)}{σ:St}{H:Hp}{s:ao}{a:aq}{xs ys:List V}
theorem mE.list(I:mE X n_ σ H s)(h:J3 X.K H a xs):∃mC:List aj,Z1 xs mC/\PlainL s.heap a mC.toArray/\xs.length<=sizeLine:=by
 rcases h with h|⟨o,mC,n,hk,hc,hd,hs,hz,r⟩
 .obtain⟨z,mC,n,r,e⟩:=h.ok I.hok;exact⟨mC,r,⟨_,n,e,rfl,rfl,rfl⟩,z⟩
 .refine⟨mC.toList,r,⟨o,n,I.kIn a o hk,hc,hd,by simpa using hs⟩,?_⟩;have e:=r.length;simp only[bf]at e;omega
theorem mE.tuple(I:mE X n_ σ H s)(h:Rl X.K H a xs):∃mC:List aj,Z1 xs mC/\IsTup s.heap a mC.toArray/\xs.length<=sizeLine:=by
 rcases h with h|⟨o,mC,n,hk,hc,hs,hz,r⟩
 .obtain⟨z,mC,r,p⟩:=h.ok I.hok;exact⟨mC,r,p,z⟩
 .refine⟨mC.toList,r,⟨o,I.kIn a o hk,hc,n,by simpa using hs⟩,?_⟩;have e:=r.length;simp only[bf]at e;omega
theorem mE.list_inj(I:mE X n_ σ H s)(h:J3 X.K H a xs)(h':J3 X.K H a ys):xs=ys:=by
 obtain⟨mC,r,⟨o,n,e,_,_,d⟩,_⟩:=I.list h;obtain⟨its',r',⟨o',n',e',_,_,d'⟩,_⟩:=I.list h';rw[e]at e';cases e';rw[d]at d';injection d' with d1 _
 have:mC=its':=by simpa using congrArg Array.toList d1
 subst this;exact r.inj r'
theorem mE.tuple_inj(I:mE X n_ σ H s)(h:Rl X.K H a xs)(h':Rl X.K H a ys):xs=ys:=by
 obtain⟨mC,r,⟨o,e,_,n,d⟩,_⟩:=I.tuple h;obtain⟨its',r',⟨o',e',_,n',d'⟩,_⟩:=I.tuple h';rw[e]at e';cases e';rw[d]at d';injection d' with d1 _
 have:mC=its':=by simpa using congrArg Array.toList d1
 subst this;exact r.inj r'
end
noncomputable abbrev Cx.wish(X:Cx)(E:aj->ao->Prop):Cx:={X with xe:=E}
noncomputable abbrev Cx.nox(X:Cx):Cx:=X.wish λ_ _=>False
theorem Cx.Ok.wish{X:Cx}(ok:X.Ok)(E:aj->ao->Prop):(X.wish E).Ok:=
 ⟨ok.mod,ok.kind,ok.glob,ok.blt,ok.above,ok.inj,ok.has,ok.cab,ok.hd,ok.frames,ok.stk,ok.exf,ok.bs,ok.bsz,ok.noex,ok.exfs,ok.funs,ok.frf⟩
theorem Cx.Ok.unwish{X:Cx}{E:aj->ao->Prop}(ok:(X.wish E).Ok):X.Ok:=
 ⟨ok.mod,ok.kind,ok.glob,ok.blt,ok.above,ok.inj,ok.has,ok.cab,ok.hd,ok.frames,ok.stk,ok.exf,ok.bs,ok.bsz,ok.noex,ok.exfs,ok.funs,ok.frf⟩
section
variable{X:Cx}{n_:List (aq×Obj)}{σ:St}{H:Hp}{s:ao}{E:aj->ao->Prop}
theorem mE.wish(I:mE X n_ σ H s)(E:aj->ao->Prop):mE (X.wish E) n_ σ H s:=⟨I.ok.wish E,I.os,I.bare,I.base,I.loc,I.cell,I.free,I.freeC,I.pin,I.hok,I.len⟩
theorem mE.unwish(I:mE (X.wish E) n_ σ H s):mE X n_ σ H s:=⟨I.ok.unwish,I.os,I.bare,I.base,I.loc,I.cell,I.free,I.freeC,I.pin,I.hok,I.len⟩
theorem SP.unwish{D:Ends}{f:Flow}{s':ao}(h:SP (X.wish E) n_ D f s'):SP X n_ D f s':=by
 cases f with
 |next=>obtain⟨ZD,H',I,q⟩:=h;exact⟨ZD,H',I.unwish,q⟩
 |brk=>obtain⟨ZD,H',I,q⟩:=h;exact⟨ZD,H',I.unwish,q⟩
 |cont=>obtain⟨ZD,H',I,q⟩:=h;exact⟨ZD,H',I.unwish,q⟩
 |ret u=>obtain⟨v,ZD,H',I,r,q⟩:=h;exact⟨v,ZD,H',I.unwish,r,q⟩
theorem Gd.nox{st:List Stmt}{t:TS}(h:Gd X.nox st t):Gd X st t:=λn_ s σ H D I hw=>
 wpAny_mono (h n_ s σ H D (I.wish _) hw) (λ_ _ q=>q.unwish) λ_ _ z=>False.elim z
end
section
variable{X:Cx}{st:Stmt}{rest:List Stmt}{t u:TS}{e:cw}{te:TE}{pos:Pos}
def Ih:TS:=λD σ H=>D.nx σ H
def Gg(t u:TS):TS:=λD σ H=>t {D with nx:=u D} σ H
theorem X4:Gd X [] Ih:=λ_ _ σ H _ I h=>wpAny_execs_nil ⟨σ,H,I,h⟩
theorem Ux(h1:PS X st t)(h2:Gd X rest u):Gd X (st::rest) (Gg t u):=by
 intro n_ s σ H D I h;refine wpAny_execs_cons (Wl (h1 n_ s σ H {D with nx:=u D} I h) λf s1 q=>?_);cases f with
 |next=>obtain⟨ZD,H',I',q⟩:=q;exact h2 n_ s1 ZD H' D I' q
 |ret v=>exact q
 |brk=>exact q
 |cont=>exact q
theorem Kt(h1:PS X st t):Gd X [st] t:=by
 intro n_ s σ H D I h;refine wpAny_execs_cons (Wl (h1 n_ s σ H D I h) λf s1 q=>?_);cases f with
 |next=>exact wpAny_execs_nil q
 |ret v=>exact q
 |brk=>exact q
 |cont=>exact q
theorem mE.quiet{n_:List (aq×Obj)}{σ:St}{H:Hp}{s:ao}(I:mE X n_ σ H s):interactive X.env=aD:=by simp[interactive,I.ok.kind]
def Gh(te:TE):TS:=λD σ H=>te σ H λ_ H1=>D.nx σ H1
theorem B5(he:PE X e te)(hs:swapsWith e aB pos.line X.env=pure aD:=by rfl):PS X (.Expr e pos) (Gh te):=by intro n_ s σ H D I h;exact wpAny_Expr_any (Wl (he n_ s σ H _ I h) λv s1 ⟨x,H1,I1,r1,q1⟩=>⟨σ,H1,I1,q1⟩) I.quiet hs
def IR(te:TE):TS:=λD σ H=>te σ H D.rt
theorem AY(he:PE X e te):PS X (.Return (aA e) pos) (IR te):=by intro n_ s σ H D I h;exact wpAny_Return_some (Wl (he n_ s σ H _ I h) λv s1 ⟨x,H1,I1,r1,q1⟩=>⟨x,σ,H1,I1,r1,q1⟩)
def OH(c:TT)(t u:TS):TS:=λD σ H=>c σ H λb H1=>if b=aC then t D σ H1 else u D σ H1
theorem CV{c:cw}{a b:List Stmt}{tc:TT}(hc:PT X c tc)(ha:Gd X a t)(hb:Gd X b u):PS X (.If c a b pos) (OH tc t u):=by
 intro n_ s σ H D I h;refine wpAny_If (Wl (hc n_ s σ H _ I h) λd s1 ZG=>?_);obtain⟨H1,I1,q1⟩:=ZG;cases d with
 |true=>exact ha n_ s1 σ H1 D I1 q1
 |false=>exact hb n_ s1 σ H1 D I1 q1
end
abbrev TG:=V->St->Hp->(St->Hp->Prop)->Prop
abbrev TGs:=List V->St->Hp->(St->Hp->Prop)->Prop
def PG(X:Cx)(Z':cw)(t:TG):Prop:=
 ∀(n_:List (aq×Obj)) (s:ao) (σ:St) (H:Hp) (v:V) (u:aj) (Q:St->Hp->Prop),mE X n_ σ H s->Zy v u->t v σ H Q->
  bj (cf X.prog X.w) X.A (assign Z' X.env u) (λ_ s'=>∃ZD H',mE X n_ ZD H' s'/\Q ZD H') X.xe s
def PGs(X:Cx)(ts:List cw)(t:TGs):Prop:=
 ∀(n_:List (aq×Obj)) (s:ao) (σ:St) (H:Hp) (vs:List V) (us:List aj) (Q:St->Hp->Prop),mE X n_ σ H s->Z1 vs us->t vs σ H Q->
  bj (cf X.prog X.w) X.A (assignInOrder ((gx ts X.env).map (·.2)) us) (λ_ s'=>∃ZD H',mE X n_ ZD H' s'/\Q ZD H') X.xe s
section
variable{X:Cx}{pos:Pos}
def W9(i:Nat):TG:=λv σ H Q=>Q (σ.set i (aA v)) H
theorem Gi{i:Nat}{x:Str}(hN:X.N.Nodup)(hi:X.N[i]? =aA x)(hx:Loc X.env.scope x)(hf:X.fn x=aC\/X.env.scope.names.lookup x=aA .local:=by first|exact .inl rfl|exact .inr rfl|assumption):PG X (.Name x pos) (W9 i):=by intro n_ s σ H v u Q I r h;exact wpAny_assign_Name (N5 I hN hi hx r (λs' I'=>⟨_,H,I',h⟩) hf)
def MP:TGs:=λvs σ H Q=>vs=[]/\Q σ H
def Ma(t:TG)(u:TGs):TGs:=λvs σ H Q=>∃v r,vs=v::r/\t v σ H λZD H'=>u r ZD H' Q
theorem X5:PGs X [] MP:=by intro n_ s σ H vs us Q I r h;obtain⟨e,h⟩:=h;subst e;cases r;exact assignInOrder_nil ⟨σ,H,I,h⟩
theorem Gj{e:cw}{es:List cw}{t:TG}{u:TGs}(h1:PG X e t)(h2:PGs X es u)
  (hs:(gx (e::es) X.env).map (·.2)=assign e X.env::(gx es X.env).map (·.2):=by rfl):PGs X (e::es) (Ma t u):=by
 intro n_ s σ H vs us Q I r h;obtain⟨v,vr,e1,h⟩:=h;subst e1;cases r with
 |cons r rr=>rw[hs];refine assignInOrder_cons (Wl (h1 n_ s σ H _ _ _ I r h) λ_ s1 ZG=>?_);obtain⟨V',H1,I1,q1⟩:=ZG;exact h2 n_ s1 V' H1 _ _ Q I1 rr q1
def MO(K:ad)(n:Nat)(t:TGs):TG:=λv σ H Q=>∃a xs,v= .ref a/\Rl K H a xs/\xs.length=n/\t xs σ H Q
theorem AX{es:List cw}{k:Nat}{t:TGs}{n:Nat}(hc:X.calm=aC)(h:PGs X es t)
  (hn:(gx es X.env).length=n:=by rfl) (TZ:(gx es X.env).findIdx? (·.1)=aB:=by rfl):PG X (.Tuple es k pos) (MO X.K n t):=by
 intro n_ s σ H v u Q I r hw;obtain⟨a,xs,e1,hq,hl,hw⟩:=hw;subst e1;cases r;obtain⟨mC,rv,ht,hz⟩:=I.tuple hq;refine assign_Tuple_tuple (I.ok.hd hc) ht (by simp[hn,<-hl,rv.length]) TZ λh' hx=>?_;have I1:mE X n_ σ H {s with heap:=h'}:=I.kept (t':=s.toks) λb o e=>hx b o (cm (bp e)) e;exact h n_ _ σ H xs _ Q I1 (by simpa using rv) hw
def Ku(te:TE)(g:TG):TS:=λD σ H=>te σ H λx H1=>g x σ H1 D.nx
theorem uX{tg e:cw}{te:TE}{g:TG}(he:PE X e te)(hg:PG X tg g)(hs:swapsWithSole [tg] e pos.line X.env=pure aD:=by rfl)(hw:swappedStores [tg] e X.env=pure aB:=by rfl)
  (h1:(gx [tg] X.env).map (·.2)=[assign tg X.env]:=by rfl):PS X (.Assign [tg] e pos) (Ku te g):=by
 intro n_ s σ H D I h;refine wpAny_Assign_stores (Wl (he n_ s σ H _ I h) λv s1 ⟨x,H1,I1,r1,q1⟩=>?_) hs hw;rw[h1];exact Wl (hg n_ s1 σ H1 x v _ I1 r1 q1) λ_ s2 q=>q
theorem S6{i:Nat}{x:Str}{e:cw}{te:TE}{XN:Pos}(hN:X.N.Nodup)(hi:X.N[i]? =aA x)(hx:Loc X.env.scope x)(he:PE X e te)(hs:swapsWith e (aA (.Name x XN)) pos.line X.env=pure aD:=by rfl)(hf:X.fn x=aC\/X.env.scope.names.lookup x=aA .local:=by first|exact .inl rfl|exact .inr rfl|assumption):
  PS X (.Assign [.Name x XN] e pos) (Ku te (W9 i)):=by
 intro n_ s σ H D I h;refine wpAny_Assign_Name (Wl (he n_ s σ H _ I h) λv s1 ⟨y,H1,I1,r1,q1⟩=>?_) hs;exact N5 I1 hN hi hx r1 (λs2 I2=>⟨_,H1,I2,q1⟩) hf
def AW(c:TT)(tb:TS):TS:=λD σ H=>∃W:Nat->St->Hp->Prop,(∃m,W m σ H)/\∀m σ H,W m σ H->
 c σ H λb H1=>if b=aC then∃N:St->Hp->Prop,(∀ZD H',N ZD H'->∃m',m'<m/\W m' ZD H')/\tb {D with nx:=N,ct:=N,bk:=D.nx} σ H1 else D.nx σ H1
theorem ph{c:cw}{body:List Stmt}{tc:TT}{tb:TS}(hp:PassesOwn (cf X.prog X.w) X.A X.env X.xe)(hc:PT X c tc)(hb:Gd X body tb):PS X (.While c body [] pos) (AW tc tb):=by
 intro n_ s σ H D I h;obtain⟨W,⟨m0,w0⟩,turn⟩:=h;refine wpAny_While (codeAny_whileLoop (λn s'=>∃ZD H',mE X n_ ZD H' s'/\W n ZD H') ?_ m0 ⟨σ,H,I,w0⟩);rintro n s1 ⟨V',H1,I1,w1⟩;refine wpAny_passesOwn hp (Wl (hc n_ s1 V' H1 _ I1 (turn n V' H1 w1)) λb s2 ZG=>?_);obtain⟨H2,I2,q2⟩:=ZG;cases b with
 |true=>
  obtain⟨N,hN,q2⟩:=q2;rw[m6 rfl];refine wpAny_passesOwn hp (Wl (hb n_ s2 V' H2 _ I2 q2) λf s3 q3=>?_);cases f with
  |next=>obtain⟨WT,H3,I3,n3⟩:=q3;obtain⟨m',hm,w3⟩:=hN WT H3 n3;exact⟨m',hm,WT,H3,I3,w3⟩
  |cont=>obtain⟨WT,H3,I3,n3⟩:=q3;obtain⟨m',hm,w3⟩:=hN WT H3 n3;exact⟨m',hm,WT,H3,I3,w3⟩
  |brk=>exact q3
  |ret v=>exact q3
 |false=>rw[m4 bq];exact wpAny_execs_nil ⟨V',H2,I2,q2⟩
end
set_option genInjectivity false in
structure It where
 go:Nat->Hp->Prop
 yld:Nat->Hp->V->Hp->Prop
 stop:Nat->Hp->Prop
def Uy(X:Cx)(n_:List (aq×Obj))(H:Hp)(b:aq):Prop:=
 H b=aB/\b≠X.env.locals/\b∉X.fs/\(b∈X.ex\/X.s₀.heap.objs.size<=b)/\(∀x c,X.env.cells.lookup x=aA c->c≠b)/\∀p∈X.pn++n_,p.1≠b
theorem mE.fpOk{X:Cx}{n_:List (aq×Obj)}{σ:St}{H H':Hp}{s:ao}{b:aq}(I:mE X n_ σ H s)(hb:s.heap.objs.size<=b)(hn:H' b=aB):Uy X n_ H' b:=by
 refine⟨hn,Nat.ne_of_gt (de I.lt hb),I.nofs hb,.inr (ga I.sz hb),λx c e z=>?_,λp hp z=>?_⟩
 .obtain⟨v,q⟩:=I.cell x c e;exact m_ (de q.lt (by rw[z];exact hb)) (gz _)
 .exact m_ (de (bp (I.pin p hp).1) (by rw[z];exact hb)) (gz _)
structure Turn(P:cg)(w:c8)(K:ad)(tg:cw)(J:It)(fp:List aq)(it:aq)(tn:Nat->d6->Prop):Prop where
 mem:it∈fp
 obj:∀i h,tn i h->∀b∈fp,∃o,h.get? b=aA o/\∀v,o.data≠.cell v
 keep:∀i h h',tn i h->(∀b∈fp,∀o,h.get? b=aA o->h'.get? b=aA o)->tn i h'
 item:∀(X:Cx),X.prog=P->X.w=w->X.K=K->X.calm=aC->∀(i:Nat) (n_:List (aq×Obj)) (s:ao) (σ:St) (H:Hp) (E:aj->ao->Prop),mE X n_ σ H s->(∀b∈fp,Uy X n_ H b)->tn i s.heap->J.go i H->
  bj (cf P w) X.A (pyNext (.ref it)) (λr s1=>∃u,r=aA u/\
   bj (cf P w) X.A (letOwnedTupleGo tg (.ref it) u) (λ_ s2=>∃x H',mE X n_ σ H' s2/\Zy x u/\J.yld i H x H'/\tn (i+1) s2.heap/\∀b∈fp,H' b=aB) E s1) E s
 done:∀(X:Cx),X.prog=P->X.w=w->X.K=K->X.calm=aC->∀(i:Nat) (n_:List (aq×Obj)) (s:ao) (σ:St) (H:Hp) (E:aj->ao->Prop),mE X n_ σ H s->(∀b∈fp,Uy X n_ H b)->tn i s.heap->J.stop i H->
  bj (cf P w) X.A (pyNext (.ref it)) (λr s1=>r=aB/\mE X n_ σ H s1) E s
 self:∀(A:dh) (i:Nat) (s:ao) (Q:aj->ao->Prop) (E:aj->ao->Prop),tn i s.heap->Q (.ref it) s->bj (cf P w) A (pyIter (.ref it)) Q E s
abbrev TI:=St->Hp->(It->Hp->Prop)->Prop
def PIE(X:Cx)(n_:List (aq×Obj))(σ:St)(tg:cw)(R:It->Hp->Prop)(NE:aj)(s2:ao):Prop:=
 ∃(it:aq) (fp:List aq) (tn:Nat->d6->Prop) (J:It) (H':Hp),NE= .ref it/\mE X n_ σ H' s2/\Turn X.prog X.w X.K tg J fp it tn/\tn 0 s2.heap/\(∀b∈fp,Uy X n_ H' b)/\R J H'
def PI(X:Cx)(tg iter:cw)(wi:TI):Prop:=
 ∀(n_:List (aq×Obj)) (s:ao) (σ:St) (H:Hp) (R:It->Hp->Prop),mE X n_ σ H s->wi σ H R->
  bj (cf X.prog X.w) X.A (gg iter X.env) (λv s1=>bj (cf X.prog X.w) X.A (pyIter v) (PIE X n_ σ tg R) X.xe s1) X.xe s
theorem Ii{M:Model}{A:dh}{E:aj->ao->Prop}{s:ao}{tg:cw}{it:aq}{u:aj}{o:Obj}{n:String}{vs:Array aj}{Q:Unit->ao->Prop}(ho:s.heap.get? it=aA o)(hc:o.cls= .type n)(hd:o.data= .fields vs)
    (hn:["enumerate","zip","dict_itemiterator","dict_reverseitemiterator","odict_iterator","itertools.zip_longest","itertools.pairwise"].contains n=aD) (hQ:Q () s):bj M A (letOwnedTupleGo tg (.ref it) u) Q E s:=by
  unfold letOwnedTupleGo;cases tg<;> first
    |exact af hQ
    | (cases u<;> first
        |exact af hQ
        | (refine ab (wpAny_load ho ?_)
           rw[hc,hd];show bj M A (if(["enumerate","zip","dict_itemiterator","dict_reverseitemiterator","odict_iterator","itertools.zip_longest","itertools.pairwise"].contains n&&vs[0]? ==aA (rawInt _))=aC then _ else _) Q E s;rw[m4 (by intro h;rw[hn,Bool.false_and]at h;cases h)];exact af hQ))
noncomputable def Itl(K:ad)(a:aq):It:=
 ⟨λi H=>∃xs x,J3 K H a xs/\xs[i]? =aA x,λi H x H'=>H'=H/\∀xs,J3 K H a xs->xs[i]? =aA x,λi H=>∃xs,J3 K H a xs/\xs.length<=i⟩
noncomputable def Itt(K:ad)(a:aq):It:=
 ⟨λi H=>∃xs x,Rl K H a xs/\xs[i]? =aA x,λi H x H'=>H'=H/\∀xs,Rl K H a xs->xs[i]? =aA x,λi H=>∃xs,Rl K H a xs/\xs.length<=i⟩
noncomputable def Itr(lo:Int)(n:Nat):It:=⟨λi _=>i<n,λi H x H'=>H'=H/\x= .int (lo+i),λi _=>n<=i⟩
theorem Ij{P:cg}{w:c8}{K:ad}{tg:cw}(a it:aq):Turn P w K tg (Itl K a) [it] it (λi h=>h.IsListIter it a i)where
 mem:=by simp
 obj:=λi h st b hb=>by
  have e:b=it:=by simpa using hb
  subst e;obtain⟨o,e,c,d⟩:=st;exact⟨o,e,λv z=>by rw[d]at z;cases z⟩
 keep:=λi h h' st k=>st.at λo e=>k it (by simp) o e
 item:=by intro X hP hw hK hc i n_ s σ H E I hf st hg;subst hP hw hK;obtain⟨xs,x,hq,hx⟩:=hg;obtain⟨mC,rv,p,hz⟩:=I.list hq;obtain⟨u,hu,ru⟩:=rv.get hx;obtain⟨f0,f1,f2,f3,f4,f5⟩:=hf it (by simp);refine wpAny_pyNext_list_item st p.isList (x:=u) (by simpa using hu) λh' YM sb=>?_;have I1:mE X n_ σ H {s with heap:=h'}:=I.turned (t':=s.toks) (λb o hb e=>(sb.2 b hb).trans e) f0 f1 f3 f4 f5;obtain⟨o,e,c,d⟩:=id YM;exact⟨u,rfl,Ii (s:={s with heap:=h'}) e c d (by decide) ⟨x,H,I1,ru,⟨rfl,λys hy=>by rw[I.list_inj hy hq];exact hx⟩,YM,λb hb=>(hf b hb).1⟩⟩
 done:=by intro X hP hw hK hc i n_ s σ H E I hf st hg;subst hP hw hK;obtain⟨xs,hq,hx⟩:=hg;obtain⟨mC,rv,p,hz⟩:=I.list hq;obtain⟨f0,f1,f2,f3,f4,f5⟩:=hf it (by simp);have hl:=rv.length;exact wpAny_pyNext_list_end (I.ok.hd hc) st p.isList (by simp;omega) λh' eb=>⟨rfl,I.turned (t':=s.toks) (λb o hb e=>eb b o hb e) f0 f1 f3 f4 f5⟩
 self:=λ_ _ _ _ _ st h=>wpAny_pyIter_listiter st h
theorem Tg{P:cg}{w:c8}{K:ad}{tg:cw}(a it:aq):Turn P w K tg (Itt K a) [it] it (λi h=>h.IsTupleIter it a i)where
 mem:=by simp
 obj:=λi h st b hb=>by
  have e:b=it:=by simpa using hb
  subst e;obtain⟨o,e,c,d⟩:=st;exact⟨o,e,λv z=>by rw[d]at z;cases z⟩
 keep:=λi h h' st k=>st.at λo e=>k it (by simp) o e
 item:=by intro X hP hw hK hc i n_ s σ H E I hf st hg;subst hP hw hK;obtain⟨xs,x,hq,hx⟩:=hg;obtain⟨mC,rv,p,hz⟩:=I.tuple hq;obtain⟨u,hu,ru⟩:=rv.get hx;obtain⟨f0,f1,f2,f3,f4,f5⟩:=hf it (by simp);refine wpAny_pyNext_tuple_item st (show s.heap.IsTuple a mC.toArray from p) (x:=u) (by simpa using hu) λh' YM sb=>?_;have I1:mE X n_ σ H {s with heap:=h'}:=I.turned (t':=s.toks) (λb o hb e=>(sb.2 b hb).trans e) f0 f1 f3 f4 f5;obtain⟨o,e,c,d⟩:=id YM;exact⟨u,rfl,Ii (s:={s with heap:=h'}) e c d (by decide) ⟨x,H,I1,ru,⟨rfl,λys hy=>by rw[I.tuple_inj hy hq];exact hx⟩,YM,λb hb=>(hf b hb).1⟩⟩
 done:=by intro X hP hw hK hc i n_ s σ H E I hf st hg;subst hP hw hK;obtain⟨xs,hq,hx⟩:=hg;obtain⟨mC,rv,p,hz⟩:=I.tuple hq;obtain⟨f0,f1,f2,f3,f4,f5⟩:=hf it (by simp);have hl:=rv.length;exact wpAny_pyNext_tuple_end (I.ok.hd hc) st (show s.heap.IsTuple a mC.toArray from p) (by simp;omega) λh' eb=>⟨rfl,I.turned (t':=s.toks) (λb o hb e=>eb b o hb e) f0 f1 f3 f4 f5⟩
 self:=λ_ _ _ _ _ st h=>wpAny_pyIter_tupleiter st h
theorem S7{P:cg}{w:c8}{K:ad}{tg:cw}(it:aq)(lo:Int)(n:Nat):Turn P w K tg (Itr lo n) [it] it (λi h=>IsRangeIter h it (lo+(i:Nat)*1) ((n:Int)- (i:Nat)) 1)where
 mem:=by simp
 obj:=λi h st b hb=>by
  have e:b=it:=by simpa using hb
  subst e;exact⟨_,st,λv z=>by
   have z':Data.fields _=Data.cell v:=z;cases z'⟩
 keep:=λi h h' st k=>k it (by simp) _ st
 item:=by intro X hP hw hK hc i n_ s σ H E I hf st hg;subst hP hw hK;obtain⟨f0,f1,f2,f3,f4,f5⟩:=hf it (by simp);have W:=Walks.range (prog:=X.prog) (w:=X.w) (I.ok.hd hc) it lo 1 n;refine W.item i s _ _ hg st λv h' tk hv YM kk=>?_;obtain⟨t,rfl⟩:=hv;have I1:mE X n_ σ H {s with heap:=h',toks:=tk}:=I.turned (λb o hb e=>kk b o (by simpa using hb) e) f0 f1 f3 f4 f5;refine⟨_,rfl,Ii (s:={s with heap:=h',toks:=tk}) (n:="range_iterator") YM rfl rfl (by decide) ⟨.int (lo+i),H,I1,⟨t,?_⟩,⟨rfl,rfl⟩,YM,λb hb=>(hf b hb).1⟩⟩;rw[Int.mul_one]
 done:=by intro X hP hw hK hc i n_ s σ H E I hf st hg;subst hP hw hK;obtain⟨f0,f1,f2,f3,f4,f5⟩:=hf it (by simp);exact wpAny_pyNext_range_end (I.ok.hd hc) st (by have:n<=i:=hg;omega) λh' eb=>⟨rfl,I.turned (t':=s.toks) (λb o hb e=>eb b o hb e) f0 f1 f3 f4 f5⟩
 self:=λ_ _ _ _ _ st h=>wpAny_pyIter_rangeiter st h
section
variable{X:Cx}{tg:cw}
theorem pD{n_:List (aq×Obj)}{σ:St}{H:Hp}{s:ao}{R:It->Hp->Prop}{E:aj->ao->Prop}{lo hi:Int}{t u v:Tok}{tk:Nat}(I:mE X n_ σ H s)(h1:-(2^62)<=lo)(h2:lo<2^62)(h3:-(2^62)<=hi)(h4:hi<2^62)
  (q:R (Itr lo (hi- lo).toNat) H):bj (cf X.prog X.w) X.A (pyIter (.ref s.heap.objs.size)) (PIE X n_ σ tg R) E {s with heap:=s.heap.push {cls:=.type "range",data:=.fields #[.int lo t,.int hi u,.int 1 v]},toks:=tk}:=by
 refine wpAny_pyIter_range (IsRange.new ..) (small_one h1 h2 h3 h4) ?_;have I1:mE X n_ σ H {s with heap:=s.heap.push {cls:=.type "range",data:=.fields #[.int lo t,.int hi u,.int 1 v]},toks:=tk}:=I.kept λb o e=>ar _ e;refine⟨(s.heap.push {cls:=.type "range",data:=.fields #[.int lo t,.int hi u,.int 1 v]}).objs.size,[(s.heap.push {cls:=.type "range",data:=.fields #[.int lo t,.int hi u,.int 1 v]}).objs.size],_,_,H,rfl,
  I1.kept (t':=tk) λb o e=>ar _ e,S7 _ lo (hi- lo).toNat,?_,λb hb=>?_,q⟩
 .have e1:lo+((0:Nat):Int)*1=lo:=by simp
  have e2:(((hi- lo).toNat:Nat):Int)- ((0:Nat):Int)=Builtin.Range.rangeSize lo hi 1:=by rw[rangeSize_one];split<;> omega
  show IsRangeIter _ _ (lo+((0:Nat):Int)*1) ((((hi- lo).toNat:Nat):Int)- ((0:Nat):Int)) 1;rw[e1,e2];exact bo _ rfl
 .have e:b=(s.heap.push {cls:=.type "range",data:=.fields #[.int lo t,.int hi u,.int 1 v]}).objs.size:=by simpa using hb
  subst e;exact I1.fpOk (bc _) (I1.hok.fresh (bc _))
def CU(ta:TA):TI:=λσ H R=>ta σ H λvs H1=>∃j:Int,vs=[.int j]/\-(2^62)<=j/\j<2^62/\R (Itr 0 j.toNat) H1
theorem oG{a:cw}{ta:TA}{p pos:Pos}(hg:Gl X "range")(hm:X.mg "range"=aB)(ha:PA X [a] ta)(hs:az [a] X.env=[(aD,gg a X.env)]:=by rfl):PI X tg (.Call (.Name "range" p) [a] [] pos) (CU ta):=by
 intro n_ s σ H R I h;refine Call_ (O8 I hg hm boot_range (PyProof.Rows.callWith_type1 (Wl (ha pos n_ s σ H _ I h) λus s1 ⟨vs,H1,I1,r1,q1⟩=>?_) hs rfl));obtain⟨j,e,q1,q2,q⟩:=q1;subst e;cases r1 with
 |cons r rr=>cases rr;obtain⟨t,rfl⟩:=r;exact call_range_1 (pD I1 (by omega) (by omega) q1 q2 (by simpa using q))
def S8(wi:TI)(g:TG)(tb:TS):TS:=λD σ H=>wi σ H λJ H1=>∃W:Nat->Nat->St->Hp->Prop,(∃m,W 0 m σ H1)/\∀i m σ H,W i m σ H->
 (J.stop i H/\D.nx σ H)\/(J.go i H/\∃N:St->Hp->Prop,(∀ZD H',N ZD H'->∃m',m'<m/\W (i+1) m' ZD H')/\∀x H',J.yld i H x H'->g x σ H' λXJ H2=>tb {D with nx:=N,ct:=N,bk:=D.nx} XJ H2)
noncomputable def Th(fp:List aq)(h:d6):List (aq×Obj):=fp.filterMap λb=>(h.get? b).map λo=>(b,o)
theorem U9{fp:List aq}{h:d6}{b:aq}{o:Obj}(hb:b∈fp)(e:h.get? b=aA o):(b,o)∈Th fp h:=List.mem_filterMap.mpr ⟨b,hb,by rw[e];rfl⟩
theorem oF{fp:List aq}{h:d6}{p:aq×Obj}(hp:p∈Th fp h):p.1∈fp/\h.get? p.1=aA p.2:=by
 obtain⟨b,hb,e⟩:=List.mem_filterMap.mp hp;cases q:h.get? b with
 |none=>rw[q]at e;cases e
 |some o=>rw[q]at e;have e':(b,o)=p:=cy.inj e;subst e';exact⟨hb,q⟩
theorem mE.pinned{n_:List (aq×Obj)}{σ:St}{H:Hp}{s:ao}{fp:List aq}(I:mE X n_ σ H s)(hf:∀b∈fp,Uy X n_ H b)(ho:∀b∈fp,∃o,s.heap.get? b=aA o/\∀v,o.data≠.cell v):mE X (n_++Th fp s.heap) σ H s:=
 I.pins_of λp hp=>(ba.mp hp).elim (λz=>I.pin p (bx _ z)) λz=>by obtain⟨hb,e⟩:=oF z;obtain⟨f0,f1,f2,_⟩:=hf p.1 hb;obtain⟨o,e',d⟩:=ho p.1 hb;rw[e]at e';cases e';exact⟨e,f0,f1,f2,d⟩
theorem mE.unpinned{n_ pl:List (aq×Obj)}{σ:St}{H:Hp}{s:ao}(I:mE X (n_++pl) σ H s):mE X n_ σ H s:=I.pins_of λp hp=>I.pin p (bx _ (bz _ hp))
theorem S9 {iter : cw} {body : List Stmt} {wi : TI} {g : TG} {tb : TS} {pos : Pos} (hp : PassesOwn (cf X.prog X.w) X.A X.env X.xe) (hc : X.calm = aC) (hi : PI X tg iter wi) (hg : PG X tg g) (hb : Gd X body tb)
    (hs : ∀ x, foldedSetIterable iter X.env x = pure x := by intro _; rfl) : PS X (.For tg iter body [] pos) (S8 wi g tb) := by
  intro n_ s σ H D I h;refine wpAny_For (Wl (hi n_ s σ H _ I h) λv s1 h1 => Wl h1 λNE s2 h2 => ?_) hs;obtain ⟨it, fp, tn, J, H2, e, I2, T, RW, f2, W, ⟨m0, w0⟩, turn⟩ := h2;subst e
  -- what stays aC of the iterator's objects through the UD
  have TR : ∀ {H' : Hp}, (∀ b ∈ fp, H' b = aB) -> ∀ b ∈ fp, Uy X n_ H' b := λhn b hb => ⟨hn b hb, (f2 b hb).2⟩
  refine codeAny_forLoop_any (λn s' => ∃ i ZD H', mE X n_ ZD H' s' /\ tn i s'.heap /\ (∀ b ∈ fp, H' b = aB) /\ W i n ZD H') ?_ m0 ⟨0, σ, H2, I2, RW, λb hb => (f2 b hb).1, w0⟩;rintro n s3 ⟨i, WT, H3, I3, st3, fr3, w3⟩;rcases turn i n WT H3 w3 with ⟨stop, qn⟩ | ⟨go, N, hN, step⟩
  · refine wpAny_passesOwn hp (Wl (T.done X rfl rfl rfl hc i n_ s3 WT H3 X.xe I3 (TR fr3) st3 stop) λr s4 ⟨hr, I4⟩ => ?_)
    subst hr;exact wpAny_execs_nil ⟨WT, H3, I4, qn⟩
  · refine wpAny_passesOwn hp (Wl (T.item X rfl rfl rfl hc i n_ s3 WT H3 X.xe I3 (TR fr3) st3 go) λr s4 ⟨u, hr, h4⟩ => ?_)
    subst hr;refine wpAny_passesOwn hp (Wl h4 λ_ s5 ZG => ?_);obtain ⟨x, H5, I5, r5, y5, st5, fr5⟩ := ZG;have I5' := I5.pinned (TR fr5) (T.obj _ _ st5);refine wpAny_passesOwn hp (Wl (hg _ s5 WT H5 x u _ I5' r5 (step x H5 y5)) λ_ s6 ZG => ?_);obtain ⟨XU, H6, I6, q6⟩ := ZG;refine wpAny_passesOwn hp (Wl (hb _ s6 XU H6 _ I6 q6) λf s7 q7 => ?_);have again : ∀ {YU : St} {H7 : Hp}, mE X (n_ ++ Th fp s5.heap) YU H7 s7 -> N YU H7 -> ∃ m, m < n /\ ∃ i ZD H', mE X n_ ZD H' s7 /\ tn i s7.heap /\ (∀ b ∈ fp, H' b = aB) /\ W i m ZD H' := λ{YU H7} I7 n7 => by obtain ⟨m', hm, w7⟩ := hN YU H7 n7;refine ⟨m', hm, i + 1, YU, H7, I7.unpinned, T.keep _ _ _ st5 λb hb o e => (I7.pin (b, o) (bx _ (bx _ (U9 hb e)))).1, λb hb => ?_, w7⟩;obtain ⟨o, e, d⟩ := T.obj _ _ st5 b hb;exact (I7.pin (b, o) (bx _ (bx _ (U9 hb e)))).2.1
    cases f with
    | next => obtain ⟨YU, H7, I7, n7⟩ := q7; exact again I7 n7
    | cont => obtain ⟨YU, H7, I7, n7⟩ := q7; exact again I7 n7
    | brk => obtain ⟨YU, H7, I7, q7⟩ := q7; exact ⟨YU, H7, I7.unpinned, q7⟩
    | ret v => obtain ⟨x7, YU, H7, I7, r7, q7⟩ := q7; exact ⟨x7, YU, H7, I7.unpinned, r7, q7⟩
end
abbrev R2:=V->V->Hp->VK->Prop
def O9(X:Cx)(f:aj->aj->Sem aj)(r:R2):Prop:=
 ∀(n_:List (aq×Obj)) (s:ao) (σ:St) (H:Hp) (x y:V) (v u:aj) (Q:VK),mE X n_ σ H s->Zy x v->Zy y u->r x y H Q->
  bj (cf X.prog X.w) X.A (f v u) (EP X n_ σ Q) X.xe s
def UnR(X:Cx)(f:aj->Sem aj)(r:V->Hp->VK->Prop):Prop:=
 ∀(n_:List (aq×Obj)) (s:ao) (σ:St) (H:Hp) (x:V) (v:aj) (Q:VK),mE X n_ σ H s->Zy x v->r x H Q->
  bj (cf X.prog X.w) X.A (f v) (EP X n_ σ Q) X.xe s
def Je(X:Cx)(f:aj)(r:List V->Hp->VK->Prop):Prop:=
 ∀(n_:List (aq×Obj)) (s:ao) (σ:St) (H:Hp) (xs:List V) (us:List aj) (Q:VK),mE X n_ σ H s->Z1 xs us->r xs H Q->
  bj (cf X.prog X.w) X.A (call f us) (EP X n_ σ Q) X.xe s
def Va(r:R2)(ta tb:TE):TE:=λσ H Q=>ta σ H λx H1=>tb σ H1 λy H2=>r x y H2 Q
def tUn(r:V->Hp->VK->Prop)(ta:TE):TE:=λσ H Q=>ta σ H λx H1=>r x H1 Q
def rI(C:Int->Int->Prop)(g:Int->Int->V):R2:=λx y H Q=>∃i j,x= .int i/\y= .int j/\C i j/\Q (g i j) H
def rI0(g:Int->Int->V):R2:=λx y H Q=>∃i j,x= .int i/\y= .int j/\Q (g i j) H
def rU(g:Int->V):V->Hp->VK->Prop:=λx H Q=>∃i,x= .int i/\Q (g i) H
section
variable{X:Cx}{a b c:cw}{ta tb tc:TE}{pos:Pos}
theorem IQ(ha:PE X a ta)(hb:PE X b tb){n_:List (aq×Obj)}{s:ao}{σ:St}{H:Hp}{R:V->V->Hp->Prop}(I:mE X n_ σ H s)
  (h:ta σ H λx H1=>tb σ H1 λy H2=>R x y H2) {Q:aj->ao->Prop} {f:aj->aj->Sem aj}
  (hf:∀v u s2 x y H2,mE X n_ σ H2 s2->Zy x v->Zy y u->R x y H2->bj (cf X.prog X.w) X.A (f v u) Q X.xe s2):
  bj (cf X.prog X.w) X.A (gg a X.env) (λv s₁=>bj (cf X.prog X.w) X.A (gg b X.env) (λu s₂=>bj (cf X.prog X.w) X.A (f v u) Q X.xe s₂) X.xe s₁) X.xe s:=by
 refine Wl (ha n_ s σ H _ I h) λv s1 ZG=>?_;obtain⟨x,H1,I1,r1,q1⟩:=ZG;refine Wl (hb n_ s1 σ H1 _ I1 q1) λu s2 ZG=>?_;obtain⟨y,H2,I2,r2,q2⟩:=ZG;exact hf v u s2 x y H2 I2 r1 r2 q2
theorem CT{op:Operator}{r:R2}(ho:O9 X (binaryOp op) r)(ha:PE X a ta)(hb:PE X b tb):PE X (.BinOp a op b pos) (Va r ta tb):=by intro n_ s σ H Q I h;exact wpAny_BinOp (IQ ha hb I h λv u s2 x y H2 I2 rx ry q=>ho n_ s2 σ H2 x y v u Q I2 rx ry q)
theorem w9{op:UnaryOp}{r:V->Hp->VK->Prop}(ho:UnR X (unaryOp op) r)(ha:PE X a ta):PE X (.UnaryOp op a pos) (tUn r ta):=by intro n_ s σ H Q I h;exact UnaryOp_ (Wl (ha n_ s σ H _ I h) λv s1 ⟨x,H1,I1,r1,q1⟩=>ho n_ s1 σ H1 x v Q I1 r1 q1)
theorem opI{f:aj->aj->Sem aj}{C:Int->Int->Prop}{g:Int->Int->Int}
  (rule:∀(i j:Int) (t u:Tok) (s:ao) (Q:aj->ao->Prop) (E:aj->ao->Prop),C i j->Q (.int (g i j) s.toks) {s with toks:=s.toks+1}->bj (cf X.prog X.w) X.A (f (.int i t) (.int j u)) Q E s):
  O9 X f (rI C λi j=>.int (g i j)):=by
 intro n_ s σ H x y v u Q I rx ry h;obtain⟨i,j,rfl,rfl,hc,q⟩:=h;obtain⟨t,rfl⟩:=rx;obtain⟨t',rfl⟩:=ry;exact rule i j t t' s _ _ hc ⟨.int (g i j),H,I.tok _,⟨_,rfl⟩,q⟩
theorem DI{f:aj->aj->Sem aj}{g:Int->Int->Int}
  (rule:∀(i j:Int) (t u:Tok) (s:ao) (Q:aj->ao->Prop) (E:aj->ao->Prop),Q (.int (g i j) s.toks) {s with toks:=s.toks+1}->bj (cf X.prog X.w) X.A (f (.int i t) (.int j u)) Q E s):
  O9 X f (rI0 λi j=>.int (g i j)):=by
 intro n_ s σ H x y v u Q I rx ry h;obtain⟨i,j,rfl,rfl,q⟩:=h;obtain⟨t,rfl⟩:=rx;obtain⟨t',rfl⟩:=ry;exact rule i j t t' s _ _ ⟨.int (g i j),H,I.tok _,⟨_,rfl⟩,q⟩
theorem DH{f:aj->aj->Sem aj}{g:Int->Int->Bool}
  (rule:∀(i j:Int) (t u:Tok) (s:ao) (Q:aj->ao->Prop) (E:aj->ao->Prop),Q (.bool (g i j)) s->bj (cf X.prog X.w) X.A (f (.int i t) (.int j u)) Q E s):
  O9 X f (rI0 λi j=>.bl (g i j)):=by
 intro n_ s σ H x y v u Q I rx ry h;obtain⟨i,j,rfl,rfl,q⟩:=h;obtain⟨t,rfl⟩:=rx;obtain⟨t',rfl⟩:=ry;exact rule i j t t' s _ _ ⟨.bl (g i j),H,I,rfl,q⟩
def DG(i j:Int):Prop:=0<j/\j<1073741824
def DF(i j:Int):Prop:=0<=j/\j<=1000000/\i.natAbs<2^64
def OG(i j:Int):Prop:=(-(2^64)<i/\i<2^64)\/(-(2^64)<j/\j<2^64)
theorem OG.ok{i j:Int}(h:OG i j):IntMulOk i j:=by
 rcases h with⟨h1,h2⟩|⟨h1,h2⟩
 .exact .of_left (intBits_le_64 h1 h2)
 .exact .of_right (intBits_le_64 h1 h2)
theorem uW:O9 X (binaryOp .Add) (rI0 λi j=>.int (i+j)):=DI λ_ _ _ _ _ _ _ q=>add_int q
theorem uV:O9 X (binaryOp .Sub) (rI0 λi j=>.int (i- j)):=DI λ_ _ _ _ _ _ _ q=>sub_int q
theorem uU:O9 X (binaryOp .Mult) (rI OG λi j=>.int (i*j)):=opI λ_ _ _ _ _ _ _ hc q=>mul_int q hc.ok
theorem s_:O9 X (binaryOp .FloorDiv) (rI DG λi j=>.int (i / j)):=opI λi j _ _ _ _ _ hc q=>by have h1:(0:Int)<j:=hc.1;have h2:j<1073741824:=hc.2;exact floordiv_int (by omega) (by rw[Int.fdiv_eq_ediv_of_nonneg i (by omega)];exact q) (.inl (PyProof.noPylong_small (by omega)))
theorem uT:O9 X (binaryOp .Mod) (rI (λ_ j=>0<j) λi j=>.int (i % j)):=opI λi j _ _ _ _ _ hc q=>by have h1:(0:Int)<j:=hc;exact mod_int' (by omega) (by rw[Int.fmod_eq_emod_of_nonneg i (by omega)];exact q)
theorem uS:O9 X (binaryOp .Pow) (rI DF λi j=>.int (i^j.toNat)):=opI λ_ _ _ _ _ _ _ hc q=>pow_int_small hc.1 hc.2.1 hc.2.2 q
theorem unI{f:aj->Sem aj}{g:Int->Int}
  (rule:∀(i:Int) (t:Tok) (s:ao) (Q:aj->ao->Prop) (E:aj->ao->Prop),Q (.int (g i) s.toks) {s with toks:=s.toks+1}->bj (cf X.prog X.w) X.A (f (.int i t)) Q E s):
  UnR X f (rU λi=>.int (g i)):=by
 intro n_ s σ H x v Q I rx h;obtain⟨i,rfl,q⟩:=h;obtain⟨t,rfl⟩:=rx;exact rule i t s _ _ ⟨.int (g i),H,I.tok _,⟨_,rfl⟩,q⟩
theorem uR:UnR X (unaryOp .USub) (rU λi=>.int (-i)):=unI λ_ _ _ _ _ q=>neg_int q
end
noncomputable def scal:V->V->Bool
 | .non,.non=>aC| .non,.int _=>aC| .int _,.non=>aC| .non,.bl _=>aC| .bl _,.non=>aC| .non,.str _=>aC| .str _,.non=>aC
 | .int _,.int _=>aC| .bl _,.bl _=>aC| .str _,.str _=>aC| .byt _,.byt _=>aC
 | .int _,.str _=>aC| .str _,.int _=>aC| .bl _,.str _=>aC| .str _,.bl _=>aC
 |_,_=>aD
def rEq:R2:=λx y H Q=>scal x y=aC/\Q (.bl (decide (x=y))) H
def rNe:R2:=λx y H Q=>scal x y=aC/\Q (.bl (!decide (x=y))) H
theorem X6{i j:Int}:decide (V.int i=V.int j)=(i==j):=by rw[Bool.eq_iff_iff];simp
theorem AU{i j:Bool}:decide (V.bl i=V.bl j)=(i==j):=by rw[Bool.eq_iff_iff];simp
theorem X7{i j:Str}:decide (V.str i=V.str j)=(i==j):=by rw[Bool.eq_iff_iff];simp
theorem X8{i j:Array UInt8}:decide (V.byt i=V.byt j)=(i.toList==j.toList):=by rw[Bool.eq_iff_iff];cases i;cases j;simp
section
variable{X:Cx}{a b c:cw}{ta tb tc:TE}{pos:Pos}
theorem Yj{n_:List (aq×Obj)}{σ:St}{H:Hp}{s:ao}{Q:VK}{k k':Bool}(I:mE X n_ σ H s)(q:Q (.bl k) H)(e:k=k'):EP X n_ σ Q (.bool k') s:=by subst e;exact⟨.bl k,H,I,rfl,q⟩
theorem CS:O9 X (compareOp .Eq) rEq:=by
 intro n_ s σ H x y v u Q I rx ry h;obtain⟨hs,q⟩:=h;cases x with
 |non=>
  cases rx;cases y with
  |non=>cases ry;exact PySem.EqNone.eq_none_none (Yj I q (by simp))
  |bl j=>cases ry;exact PySem.EqNone.eq_none_bool (Yj I q (by simp))
  |int j=>obtain⟨t',rfl⟩:=ry;exact PySem.EqNone.eq_none_int (Yj I q (by simp))
  |str j=>obtain⟨t',rfl⟩:=ry;exact PySem.EqNone.eq_none_str (Yj I q (by simp))
  |_=>exact m_ (show aD=aC from hs) bq
 |bl i=>
  cases rx;cases y with
  |non=>cases ry;exact PySem.EqNone.eq_bool_none (Yj I q (by simp))
  |bl j=>cases ry;exact eq_bool (Yj I q AU)
  |str j=>obtain⟨t',rfl⟩:=ry;exact PySem.EqMixed.eq_bool_str (Yj I q (by simp))
  |_=>exact m_ (show aD=aC from hs) bq
 |int i=>
  obtain⟨t,rfl⟩:=rx;cases y with
  |non=>cases ry;exact PySem.EqNone.eq_int_none (Yj I q (by simp))
  |int j=>obtain⟨t',rfl⟩:=ry;exact eq_int (Yj I q X6)
  |str j=>obtain⟨t',rfl⟩:=ry;exact PySem.EqMixed.eq_int_str (Yj I q (by simp))
  |_=>exact m_ (show aD=aC from hs) bq
 |str i=>
  obtain⟨t,rfl⟩:=rx;cases y with
  |non=>cases ry;exact PySem.EqNone.eq_str_none (Yj I q (by simp))
  |bl j=>cases ry;exact PySem.EqMixed.eq_str_bool (Yj I q (by simp))
  |int j=>obtain⟨t',rfl⟩:=ry;exact PySem.EqMixed.eq_str_int (Yj I q (by simp))
  |str j=>obtain⟨t',rfl⟩:=ry;exact eq_str (Yj I q X7)
  |_=>exact m_ (show aD=aC from hs) bq
 |byt i=>
  obtain⟨t,rfl⟩:=rx;cases y with
  |byt j=>obtain⟨t',rfl⟩:=ry;exact PySem.W.eq_bytes (Yj I q X8)
  |_=>exact m_ (show aD=aC from hs) bq
 |_=>cases y<;> exact m_ (show aD=aC from hs) bq
theorem w8:O9 X (compareOp .NotEq) rNe:=by
 intro n_ s σ H x y v u Q I rx ry h;obtain⟨hs,q⟩:=h;cases x with
 |non=>
  cases rx;cases y with
  |non=>cases ry;exact PySem.EqNone.ne_none_none (Yj I q (by simp))
  |bl j=>cases ry;exact PySem.EqNone.ne_none_bool (Yj I q (by simp))
  |int j=>obtain⟨t',rfl⟩:=ry;exact PySem.EqNone.ne_none_int (Yj I q (by simp))
  |str j=>obtain⟨t',rfl⟩:=ry;exact PySem.EqNone.ne_none_str (Yj I q (by simp))
  |_=>exact m_ (show aD=aC from hs) bq
 |bl i=>
  cases rx;cases y with
  |non=>cases ry;exact PySem.EqNone.ne_bool_none (Yj I q (by simp))
  |bl j=>cases ry;exact ne_bool (Yj I q (congrArg not AU))
  |str j=>obtain⟨t',rfl⟩:=ry;exact PySem.EqMixed.ne_bool_str (Yj I q (by simp))
  |_=>exact m_ (show aD=aC from hs) bq
 |int i=>
  obtain⟨t,rfl⟩:=rx;cases y with
  |non=>cases ry;exact PySem.EqNone.ne_int_none (Yj I q (by simp))
  |int j=>obtain⟨t',rfl⟩:=ry;exact ne_int (Yj I q (congrArg not X6))
  |str j=>obtain⟨t',rfl⟩:=ry;exact PySem.EqMixed.ne_int_str (Yj I q (by simp))
  |_=>exact m_ (show aD=aC from hs) bq
 |str i=>
  obtain⟨t,rfl⟩:=rx;cases y with
  |non=>cases ry;exact PySem.EqNone.ne_str_none (Yj I q (by simp))
  |bl j=>cases ry;exact PySem.EqMixed.ne_str_bool (Yj I q (by simp))
  |int j=>obtain⟨t',rfl⟩:=ry;exact PySem.EqMixed.ne_str_int (Yj I q (by simp))
  |str j=>obtain⟨t',rfl⟩:=ry;exact ne_str (Yj I q (congrArg not X7))
  |_=>exact m_ (show aD=aC from hs) bq
 |byt i=>
  obtain⟨t,rfl⟩:=rx;cases y with
  |byt j=>obtain⟨t',rfl⟩:=ry;exact PySem.W.ne_bytes (Yj I q (congrArg not X8))
  |_=>exact m_ (show aD=aC from hs) bq
 |_=>cases y<;> exact m_ (show aD=aC from hs) bq
theorem w5:O9 X (compareOp .Lt) (rI0 λi j=>.bl (decide (i<j))):=DH λ_ _ _ _ _ _ _ q=>lt_int q
theorem wz:O9 X (compareOp .Gt) (rI0 λi j=>.bl (decide (j<i))):=DH λ_ _ _ _ _ _ _ q=>gt_int q
theorem O9.or{f:aj->aj->Sem aj}{r r':R2}(h:O9 X f r)(h':O9 X f r'):O9 X f (λx y H Q=>r x y H Q\/r' x y H Q):=by
 intro n_ s σ H x y v u Q I rx ry q;rcases q with q|q
 .exact h n_ s σ H x y v u Q I rx ry q
 .exact h' n_ s σ H x y v u Q I rx ry q
theorem Ti(b:cw){op:CmpOp}(h:op≠.In:=by decide)(h2:op≠.NotIn:=by decide):behindInMarks op b=aD:=by
 have e1:(op==CmpOp.In)=aD:=by cases op<;> first|rfl|exact m_ rfl h
 have e2:(op==CmpOp.NotIn)=aD:=by cases op<;> first|rfl|exact m_ rfl h2
 cases b<;> simp[behindInMarks,e1,e2]
theorem sj{op:CmpOp}{r:R2}(ho:O9 X (compareOp op) r)(ha:PE X a ta)(hb:PE X b tb)(hm:behindInMarks op b=aD):PE X (.Compare a [op] [b] pos) (Va r ta tb):=by intro n_ s σ H Q I h;exact wpAny_Compare1 (IQ ha hb I h λv u s2 x y H2 I2 rx ry q=>ho n_ s2 σ H2 x y v u Q I2 rx ry q) hm
def CQ(t:TE):TT:=λσ H Q=>t σ H λx H'=>∃k,x= .bl k/\Q k H'
theorem si{op:CmpOp}{r:R2}(ho:O9 X (compareOp op) r)(ha:PE X a ta)(hb:PE X b tb)(hm:behindInMarks op b=aD):PT X (.Compare a [op] [b] pos) (CQ (Va r ta tb)):=by
 intro n_ s σ H Q I h;refine wpAny_isTrue_Compare1 (Wl (ha n_ s σ H _ I h) λv s1 ⟨x,H1,I1,r1,q1⟩=>Wl (hb n_ s1 σ H1 _ I1 q1) λu s2 ⟨y,H2,I2,r2,q2⟩=>
  Wl (ho n_ s2 σ H2 x y v u _ I2 r1 r2 q2) λc s3 ⟨z,H3,I3,r3,k,e,q3⟩=>?_) hm
 subst e;cases r3;exact wpAny_truthy_bool ⟨H3,I3,q3⟩
theorem Tj:(sizeLine:Nat)<2^63:=by rw[d7];decide
theorem Vb:O9 X (binaryOp .Add) (λx y H Q=>∃i j,x= .str i/\y= .str j/\i.length+j.length<=sizeLine/\Q (.str (i++j)) H):=by intro n_ s σ H x y v u Q I rx ry h;obtain⟨i,j,rfl,rfl,hz,q⟩:=h;obtain⟨t,rfl⟩:=rx;obtain⟨t',rfl⟩:=ry;exact add_str (λt' tk=>⟨.str (i++j),H,I.tok _,⟨_,rfl⟩,q⟩) hz
theorem Oy{x:V}{us:List aj}(r:Z1 [x] us):∃u,us=[u]/\Zy x u:=by
 cases r with
 |cons r1 r2=>cases r2;exact⟨_,rfl,r1⟩
theorem CP{x y:V}{us:List aj}(r:Z1 [x,y] us):∃u w',us=[u,w']/\Zy x u/\Zy y w':=by
 cases r with
 |cons r1 r2=>
  cases r2 with
  |cons r3 r4=>cases r4;exact⟨_,_,rfl,r1,r3⟩
theorem oE:Je X (.type "int") (λxs H Q=>(∃i,xs=[.int i]/\Q (.int i) H)\/∃k,xs=[.bl k]/\Q (.int (if k then 1 else 0)) H):=by
 intro n_ s σ H xs us Q I r h;rcases h with⟨i,rfl,q⟩|⟨k,rfl,q⟩
 .obtain⟨u,rfl,t,rfl⟩:=Oy r;exact call_int_int ⟨.int i,H,I,⟨_,rfl⟩,q⟩
 .obtain⟨u,rfl,r1⟩:=Oy r;cases r1;exact call_int_bool ⟨.int (if k then 1 else 0),H,I.tok _,⟨_,rfl⟩,q⟩
end
noncomputable def xR(f:Str)(v:V):List (Str×V)->List (Str×V)
  | []=>[(f,v)]
  | (g,x)::r=>if g=f then(g,v)::r else(g,x)::xR f v r
theorem Gf.some_of{v:V}{o:Option aj}(r:Gf (aA v) o):∃u,o=aA u/\Zy v u:=by
 cases o with
 |none=>exact(show False from r).elim
 |some u=>exact⟨u,rfl,r⟩
structure mO(k:Nat)(A:dh):Prop where
 hd:A.handled=aB
 dp:A.depth+3*k+5<recursionLimit
 un:A.units+16*k+200<fj
theorem mO.mono{j k:Nat}{A:dh}(r:mO k A)(h:j<=k):mO j A:=⟨r.hd,by have:=r.dp;omega,by have:=r.un;omega⟩
theorem mO.deeper{k:Nat}{A:dh}(r:mO (k+1) A)(env:Env):mO k (A.deeper env):=
 ⟨r.hd,by have:=r.dp;show A.depth+1+3*k+5<_;omega,by have:=r.un;show A.units+3+16*k+200<_;omega⟩
theorem mO.depth{k:Nat}{A:dh}(r:mO k A):A.depth<recursionLimit:=by have:=r.dp;omega
theorem mO.units{k:Nat}{A:dh}(r:mO k A):A.units+64<cLine:=by have:=r.un;omega
def Tk:TA:=λ_ H Q=>Q [] H
def Oz(ta:TE)(tr:TA):TA:=λσ H Q=>ta σ H λx H1=>tr σ H1 λxs H2=>Q (x::xs) H2
section
variable{X:Cx}{e:cw}{es:List cw}{te:TE}{t:TA}{pos:Pos}
theorem Jl:PA X [] Tk:=λ_ _ _ _ H Q I h=>Calls.spliced_nil ⟨[],H,I,.nil,h⟩
theorem W5(ha:PE X e te)(hr:PA X es t)(hs:az (e::es) X.env=(aD,gg e X.env)::az es X.env:=by rfl):PA X (e::es) (Oz te t):=by intro pos n_ s σ H Q I h;rw[hs];show bj _ _ (spliced ((aD,gg e X.env)::gb pos (az es X.env))) _ _ s;refine Calls.spliced_cons (Wl (ha n_ s σ H _ I h) λu s1 ZG=>?_);obtain⟨x,H1,I1,r1,q1⟩:=ZG;exact Wl (hr pos n_ s1 σ H1 _ I1 q1) λus s2 ⟨xs,H2,I2,r2,q2⟩=>⟨x::xs,H2,I2,.cons r1 r2,q2⟩
def MR(t:TA):TE:=λσ H Q=>t σ H λxs H1=>xs.length<=sizeLine/\∀p,H1 p=aB->Q (.ref p) (Yo H1 p (.tup xs))
def IP(t:TA):TE:=λσ H Q=>t σ H λxs H1=>xs.length<=sizeLine/\∀p,H1 p=aB->Q (.ref p) (Yo H1 p (.lst xs))
theorem AT{x1} (h:PA X es t):PE X (.Tuple es x1 pos) (MR t):=by intro n_ s σ H Q I hq;refine wpAny_Tuple_spliced (Wl (h pos n_ s σ H _ I hq) λus s1 ⟨xs,H1,I1,r,z,q⟩=>⟨by rw[<-r.length];exact z,?_⟩);have hf:H1 s1.heap.objs.size=aB:=I1.hok.fresh (bc _);refine⟨.ref s1.heap.objs.size,Yo H1 s1.heap.objs.size (.tup xs),I1.laid (t':=s1.toks) (λb u e=>ar _ e) (bc _) ?_,rfl,q _ hf⟩;exact⟨z,us,r,⟨_,bo _ rfl,rfl,_,rfl⟩⟩
theorem Vc(h:PA X es t):PE X (.List es pos) (IP t):=by intro n_ s σ H Q I hq;refine wpAny_List_spliced (Wl (h pos n_ s σ H _ I hq) λus s1 ⟨xs,H1,I1,r,z,q⟩=>⟨by rw[<-r.length];exact z,?_⟩);have hf:H1 s1.heap.objs.size=aB:=I1.hok.fresh (bc _);refine⟨.ref s1.heap.objs.size,Yo H1 s1.heap.objs.size (.lst xs),I1.laid (t':=s1.toks) (λb u e=>ar _ e) (bc _) ?_,rfl,q _ hf⟩;exact⟨z,us,0,r,bo _ rfl⟩
end
abbrev Sp:=List V->Hp->VK->XK->Prop
abbrev CXT:=List Env->Hp->ao->XK->aj->ao->Prop
structure Env0(P:cg)(w:c8)(K:ad)(mg:Str->Option aj)(base:d6)(A:dh)(outer:List Env)(s:ao)(H:Hp):Prop where
 frames:A.frames=aA outer
 mod:Mod K mg base
 bs:∀b o,base.get? b=aA o->s.heap.get? b=aA o/\H b=aB
 bsz:base.objs.size<=s.heap.objs.size
 funs:s.heap.FunFrames base outer
 frf:∀b∈frs outer,H b=aB
 hok:Cy P w H s.heap
 bare:AllBare s.gens
def CE(outer:List Env)(P:cg)(w:c8)(H:Hp)(s:ao)(Q:VK)(u:aj)(s':ao):Prop:=
 ∃v H',s'.os=s.os/\AllBare s'.gens/\Un (frs outer) [] H H' s.heap s'.heap/\Cy P w H' s'.heap/\Zy v u/\Q v H'
def CR(CX:CXT)(outer:List Env)(P:cg)(w:c8)(H:Hp)(s:ao)(Q:VK)(E:XK)(r:Result)(s':ao):Prop:=
 match r with
 | .ok (.ret u)=>CE outer P w H s Q u s'
 | .ok _=>False
 | .error e=>CX outer H s E e s'
structure FnOk(P:cg)(w:c8)(K:ad)(mg:Str->Option aj)(base:d6)(CX:CXT)(k:Nat)(f:aq)(fd:FuncData)(ps:List Str)(sp:Sp):Prop where
 len:∀vs H Q E,sp vs H Q E->vs.length=ps.length
 run:∀(A:dh) (outer:List Env) (s:ao) (H:Hp) (args:Args) (us:List aj) (vs:List V) (Q:VK) (E:XK),mO k A->Env0 P w K mg base A outer s H->BindsTo s fd args (ps.zip us)->Z1 vs us->sp vs H Q E->
  codeAny (cf P w) A (.call (.ref f) args) (CR CX outer P w H s Q E) s
section
variable{X:Cx}{n_:List (aq×Obj)}{σ:St}{H:Hp}{s s':ao}
theorem mE.env0(I:mE X n_ σ H s):Env0 X.prog X.w X.K X.mg X.base X.A X.stack s H:=
 ⟨I.ok.frames,I.ok.mod,I.bs,ga I.ok.bsz I.sz,I.stack,I.stkFree,I.hok,I.bare⟩
theorem mE.after{Q:VK}{u:aj}(I:mE X n_ σ H s)(h:CE X.stack X.prog X.w H s Q u s'):EP X n_ σ Q u s':=by obtain⟨v,H',os,bare,un,hok,r,q⟩:=h;obtain⟨hh,g,d,t,ze⟩:=s';obtain rfl:ze=s.os:=os;exact⟨v,H',I.call (h':=hh) (g':=g) (d':=d) (t':=t) (ch:=[]) un hok bare (λb z=>m_ z (by simp)),r,q⟩
end
def O0(sp:Sp)(TH:List V)(E:XK)(t:TA):TE:=λσ H Q=>t σ H λvs H1=>sp (vs++TH) H1 Q E
def Tn(K:ad)(fd:FuncData)(ps:List Str)(ds:List aj):Prop:=
 ∀(s:ao) (us:List aj),K.In s.heap->(us++ds).length=ps.length->BindsTo s fd ⟨us,[]⟩ (ps.zip (us++ds))
theorem Tn.all{K:ad}{fd:FuncData}{ps:List Str}(h:∀us:List aj,us.length=ps.length->bindArgs fd ⟨us,[]⟩=pure (ps.zip us)):Tn K fd ps []:=λs us _ hl=>by rw[gq]at hl⊢;exact .of_eq (h us hl)
def Vd(CX:CXT)(X:Cx)(E:XK):Prop:=∀(n_:List (aq×Obj)) (σ:St) (H:Hp) (s:ao) (e:aj) (s':ao),mE X n_ σ H s->CX X.stack H s E e s'->X.xe e s'
section
variable{X:Cx}{CX:CXT}{k:Nat}{f C:aq}{fd:FuncData}{ps:List Str}{sp:Sp}{TH:List V}{ds:List aj}{E:XK}{x m:Str}{p pos ZF:Pos}{e o:cw}{es:List cw}{ta:TE}{t:TA}
theorem uQ{n_:List (aq×Obj)}{σ:St}{H:Hp}{s:ao}{Q:VK}{us:List aj}{vs:List V}(F:FnOk X.prog X.w X.K X.mg X.base CX k f fd ps sp)(hr:mO k X.A)(hb:Tn X.K fd ps ds)(hd:Z1 TH ds)(hx:Vd CX X E)
  (I:mE X n_ σ H s) (r:Z1 vs us) (h:sp (vs++TH) H Q E):bj (cf X.prog X.w) X.A (call (.ref f) us) (EP X n_ σ Q) X.xe s:=by
 have r2:Z1 (vs++TH) (us++ds):=r.append hd;have hl:(us++ds).length=ps.length:=by rw[<-r2.length];exact F.len _ _ _ _ h
 refine wpAny_call (codeAny_mono (F.run X.A X.stack s H ⟨us,[]⟩ (us++ds) (vs++TH) Q E hr I.env0 (hb s us I.kIn hl) r2 h) λr s' hq=>?_);cases r with
 |error e=>exact hx n_ σ H s e s' I hq
 |ok fl=>
  cases fl with
  |ret u=>exact I.after hq
  |next=>exact False.elim hq
  |brk=>exact False.elim hq
  |cont=>exact False.elim hq
theorem Kv(F:FnOk X.prog X.w X.K X.mg X.base CX k f fd ps sp)(hr:mO k X.A)(hg:Gl X x)(hm:X.mg x=aA (.ref f))(hk:PySem.W.keepIn X.K (.ref f)=aC)(hb:Tn X.K fd ps ds)(hd:Z1 TH ds)(hx:Vd CX X E)
  (ha:PA X (e::es) t) (YB:(x==("__debug__":Str))=aD:=by decide) (he:az (e::es) X.env=(aD,gg e X.env)::az es X.env:=by rfl) (ZO:(gb pos (az es X.env)).any (·.1)=aD:=by rfl):
  PE X (.Call (.Name x p) (e::es) [] pos) (O0 sp TH E t):=by
 intro n_ s σ H Q I h;refine wpAny_Call_Name_kw (rC I hg hm ?_ YB);refine PySem.W.callWith_K (h₀:=X.base) I.ok.mod.kin hk (Wl (ha pos n_ s σ H _ I h) λus s1 ⟨vs,H1,I1,r,q⟩=>⟨I1.kIn,?_⟩) he ZO;exact uQ F hr hb hd hx I1 r q
end
structure FnScope(N P:List Str)(sc:Scope):Prop where
 kind:sc.kind= .function
 co:sc.isCoroutine=aD
 gen:sc.isGenerator=aD
 nd:N.Nodup
 pre:N.take P.length=P
 par:∀x∈P,sc.names.lookup x=aA .local\/sc.names.lookup x=aA .cell
 nofree:∀y∈sc.names,y.2≠.free
theorem Ik{kindOf:Str->Option NameKind}{x:Str}:∀{binds:List (Str×aj)} {m:Str->Option aj},(∀v,(x,v)∉binds)->bindL kindOf binds m x=m x
  | [],_,_=>rfl
  | (n,v)::r,m,h=>by
    unfold bindL;rw[Ik λw hw=>h w (am _ hw)];split
    · have:x≠n:=by rintro rfl;exact h v ac
      simp[this]
    · rfl
theorem Il{kindOf:Str->Option NameKind}{x:Str}:∀{binds:List (Str×aj)} {m:Str->Option aj},(∀v,(x,v)∉binds)->bindC kindOf binds m x=m x
  | [],_,_=>rfl
  | (n,v)::r,m,h=>by
    unfold bindC;rw[Il λw hw=>h w (am _ hw)];split
    · rfl
    · have:x≠n:=by rintro rfl;exact h v ac
      simp[this]
theorem Im{kindOf:Str->Option NameKind}{x:Str}{v:aj}:∀{P:List Str} {vs:List aj} {i:Nat} {m:Str->Option aj},P.Nodup->P[i]? =aA x->vs[i]? =aA v->kindOf x=aA .local->
  bindL kindOf (P.zip vs) m x=aA v
 | [],_,_,_,_,h,_,_=>by simp at h
 |_::_,[],_,_,_,_,h,_=>by simp at h
 |p::P,w::vs,0,m,nd,h1,h2,hk=>by simp at h1 h2;subst h1;subst h2;show bindL kindOf ((p,w)::P.zip vs) m p=_;unfold bindL;rw[Ik λv hv=>(fq.mp nd).1 (List.of_mem_zip hv).1,m6 hk];simp
 |p::P,w::vs,i+1,m,nd,h1,h2,hk=>by show bindL kindOf ((p,w)::P.zip vs) m x=_;unfold bindL;exact Im (i:=i) (fq.mp nd).2 (by simpa using h1) (by simpa using h2) hk
theorem Io{kindOf:Str->Option NameKind}{x:Str}{v:aj}:∀{P:List Str} {vs:List aj} {i:Nat} {m:Str->Option aj},P.Nodup->P[i]? =aA x->vs[i]? =aA v->kindOf x≠aA .local->
  bindC kindOf (P.zip vs) m x=aA v
 | [],_,_,_,_,h,_,_=>by simp at h
 |_::_,[],_,_,_,_,h,_=>by simp at h
 |p::P,w::vs,0,m,nd,h1,h2,hk=>by simp at h1 h2;subst h1;subst h2;show bindC kindOf ((p,w)::P.zip vs) m p=_;unfold bindC;rw[Il λv hv=>(fq.mp nd).1 (List.of_mem_zip hv).1,m4 hk];simp
 |p::P,w::vs,i+1,m,nd,h1,h2,hk=>by show bindC kindOf ((p,w)::P.zip vs) m x=_;unfold bindC;exact Io (i:=i) (fq.mp nd).2 (by simpa using h1) (by simpa using h2) hk
def O5(N:List Str)(vs:List V):St:=vs.map aA++List.replicate (N.length- vs.length) aB
def Ve(CX:CXT)(P:cg)(w:c8)(K:ad)(mg:Str->Option aj)(base:d6)(N:List Str)(qual:Str)(scope:Scope)(f:aq)(cd:aj)(A:dh)(outer:List Env)(s:ao)(H:Hp)(E:XK):Cx where
 prog:=P
 w:=w
 K:=K
 mg:=mg
 base:=base
 A:=A.deeper (envOfC qual scope s.heap.objs.size f cd)
 N:=N
 s₀:=s
 H₀:=H
 env:=envOfC qual scope s.heap.objs.size f cd
 outer:=outer
 stack:=envOfC qual scope s.heap.objs.size f cd::outer
 ex:=[]
 calm:=aC
 fn:=λ_=>aC
 pn:=[]
 xe:=λe s'=>bj (cf P w) (A.deeper (envOfC qual scope s.heap.objs.size f cd)) (leaving (envOfC qual scope s.heap.objs.size f cd) e) (λ_ YE=>CX outer H s E e YE) (λe' YE=>CX outer H s E e' YE) s'
theorem N6{sc:Scope}{n:Nat}{x:Str}(h:sc.names.lookup x=aA .cell):∃c,(cellsFrom n sc.names []).lookup x=aA c:=by have q:=PySem.W.cellsFrom_some sc.names n [] (.inl h);exact Option.isSome_iff_exists.mp q
theorem oC{CX:CXT}{P:cg}{w:c8}{K:ad}{mg:Str->Option aj}{base:d6}{N ps:List Str}{qual:Str}{scope:Scope}{f:aq}{cd:aj}{A:dh}{outer:List Env}{s s1:ao}{H:Hp}{E:XK}{us:List aj}{vs:List V}
  (S:FnScope N ps scope) (hd:A.handled=aB) (e0:Env0 P w K mg base A outer s H) (hl:vs.length=ps.length) (r:Z1 vs us)
  (x:InCallC s s.heap.objs.size (bindL (envOfC qual scope s.heap.objs.size f cd).kindOf (ps.zip us) λ_=>aB) (cellsFrom (s.heap.objs.size+1) scope.names []) (bindC (envOfC qual scope s.heap.objs.size f cd).kindOf (ps.zip us) λ_=>aB) s1):
  mE (Ve CX P w K mg base N qual scope f cd A outer s H E) [] (O5 N vs) H s1:=by
 have ZO:ps.length<=N.length:=by have:=congrArg List.length S.pre;rw[List.length_take]at this;omega
 obtain⟨h1,tk,rfl,hk⟩:=x.done;have QG:∀b:aq,b∉(Ve CX P w K mg base N qual scope f cd A outer s H E).ex:=λb z=>m_ (show b∈([]:List aq)from z) (by simp);refine⟨⟨e0.mod,S.kind,rfl,rfl,bc _,λy z c h1 h2=>?_,λy hy=>?_,λy c _ h=>?_,λ_=>hd,Around.frames_deeper e0.frames,.inr ⟨rfl,rfl⟩,λb z=>m_ z (QG b),e0.bs,e0.bsz,λb _ _=>QG b,λb z=>m_ z (QG b),e0.funs,e0.frf⟩,
  rfl,e0.bare,Un.kept hk,⟨_,x.toInCall.ns,λi y v h1 h2 h3=>?_⟩,λy c h=>⟨_,x.cell y c h⟩,e0.hok.fresh (bc _),λy c h=>?_,λp hp=>m_ (show p∈([]:List (aq×Obj))from hp) (by simp),e0.hok.kept hk,?_⟩
 .exact name_of_addr x.apart (PySem.mem_of_lookup h1) (PySem.mem_of_lookup h2)
 .have hy:scope.names.lookup y=aA .cell\/scope.names.lookup y=aA .free:=hy;rcases hy with hy|hy
  .exact N6 hy
  .exact m_ rfl (S.nofree _ (PySem.mem_of_lookup hy))
 .exact Nat.le_of_lt (x.above y c (PySem.mem_of_lookup h))
 .have hi:i<vs.length:=by
   unfold O5 at h2;by_cases hi:i<vs.length
   .exact hi
   .rw[gc (by simpa using hi)]at h2;rw[List.getElem?_replicate]at h2;split at h2<;> cases h2
  have ha:vs[i]? =aA v:=by
   unfold O5 at h2;rw[dg (by simpa using hi),bg]at h2;cases e:vs[i]? with
   |none=>rw[e]at h2;cases h2
   |some a=>rw[e]at h2;cases h2;rfl
  obtain⟨u,hu,rv⟩:=r.get ha;have hp:ps[i]? =aA y:=by rw[<-S.pre,List.getElem?_take_of_lt (by omega)];exact h1
  have FF:ps.Nodup:=by rw[<-S.pre];exact S.nd.sublist (List.take_sublist _ _)
  refine⟨u,rv,?_⟩;rcases S.par y (b9 hp)with k|k
  .exact .inl ⟨k,Im FF hp hu k⟩
  .obtain⟨c,e⟩:=N6 (n:=s.heap.objs.size+1) k;refine .inr ⟨.inl k,c,e,?_⟩;have q:=x.cell y c e;rw[Io FF hp hu (by show scope.names.lookup y≠_;rw[k];decide)]at q;exact q
 .exact e0.hok.fresh (Nat.le_of_lt (x.above y c (PySem.mem_of_lookup h)))
 .unfold O5;show _=N.length;rw[av,ah,List.length_replicate];omega
theorem wy{CX:CXT}{P:cg}{w:c8}{K:ad}{mg:Str->Option aj}{base:d6}{k:Nat}{f:aq}{name qual:Str}{params:Arguments}{body:List Stmt}{scope:Scope}{dV kV YJ pm ZS ct oc:aj}{an od:Option aq}
  {VA:Array (Option aj)} {N ps:List Str} {sp:Sp} (lk:K.lookup f=aA ⟨oc,od,.func (PySem.W.fnOf name qual params body scope dV kV YJ pm an ZS ct),VA⟩) (YD:PySem.W.codeIn K ZS qual=aC) (S:FnScope N ps scope)
  (len:∀vs H Q E,sp vs H Q E->vs.length=ps.length)
  (VM:∀(A:dh) (outer:List Env) (s:ao) (H:Hp) (vs:List V) (Q:VK) (E:XK),mO k (A.deeper (envOfC qual scope s.heap.objs.size f ZS))->sp vs H Q E->
   ∃t,Gd (Ve CX P w K mg base N qual scope f ZS A outer s H E) body t/\t {nx:=λ_ H'=>Q .non H',rt:=Q} (O5 N vs) H):
  FnOk P w K mg base CX (k+1) f (PySem.W.fnOf name qual params body scope dV kV YJ pm an ZS ct) ps sp:=by
 refine⟨len,λA outer s H args us vs Q E hr e0 hb r VT=>?_⟩;have hl:=len _ _ _ _ VT;have KX:K.In s.heap:=e0.mod.kin.keeps λb o e=>(e0.bs b o e).1;have zq:s.heap.NoLimit:=e0.mod.nolimit.keeps λb o e=>(e0.bs b o e).1;have WH:∀y∈ps.zip us,scope.names.lookup y.1=aA .local\/(scope.names.lookup y.1=aA .cell/\((cellsFrom (s.heap.objs.size+1) scope.names []).lookup y.1).isSome=aC):=λ⟨n,v⟩ hy=>by
  rcases S.par n (List.of_mem_zip hy).1 with q|q
  .exact .inl q
  .exact .inr ⟨q,PySem.W.cellsFrom_some _ _ _ (.inl q)⟩
 refine codeAny_call_function hr.depth (KX _ _ lk) rfl S.co S.gen rfl (PySem.W.codeRec_of KX YD) (hb _ _ _ _ ?_);refine wpAny_newFunctionEnv_cells S.kind WH λenv he s1 x=>?_;subst he;refine⟨zq.keeps x.toInCall.keep,codeAny_func ?_⟩;obtain⟨t,ht,hq⟩:=VM A outer s H vs Q E (hr.deeper _) VT;have I:mE (Ve CX P w K mg base N qual scope f ZS A outer s H E) [] (O5 N vs) H s1:=oC S hr.hd e0 hl r x;refine wpAny_mono (ht [] s1 (O5 N vs) H _ I hq) (λfl s' hs=>?_) λe s' hs=>hs;have fin:∀{ZD:St} {H':Hp} {v:V} {u:aj},mE (Ve CX P w K mg base N qual scope f ZS A outer s H E) [] ZD H' s'->Zy v u->Q v H'->CE outer P w H s Q u s':=
  fun{ZD H' v u} J rv q=>⟨v,H',J.os,J.bare,J.base,J.hok,rv,q⟩
 cases fl with
 |ret u=>obtain⟨v,ZD,H',J,rv,q⟩:=hs;exact fin J rv q
 |next=>obtain⟨ZD,H',J,q⟩:=hs;exact fin (v:=V.non) (u:=cn) J rfl q
 |brk=>obtain⟨_,_,_,q⟩:=hs;exact False.elim q
 |cont=>obtain⟨_,_,_,q⟩:=hs;exact False.elim q
section
variable{X:Cx}{x:Str}{p pos:Pos}{e:cw}{es:List cw}{t:TA}{id T:String}{r:List V->Hp->VK->Prop}
def tCB(r:List V->Hp->VK->Prop)(t:TA):TE:=λσ H Q=>t σ H λvs H1=>r vs H1 Q
theorem N7(hc:Je X (.builtin id) r)(hg:Gl X x)(hm:X.mg x=aB)(hv:bootBuiltins x=aA (.builtin id))(ha:PA X (e::es) t)(hn:x≠"__name__":=by decide)(YB:(x==("__debug__":Str))=aD:=by decide)
  (he:az (e::es) X.env=(aD,gg e X.env)::az es X.env:=by rfl) (ZO:(gb pos (az es X.env)).any (·.1)=aD:=by rfl):PE X (.Call (.Name x p) (e::es) [] pos) (tCB r t):=by
 intro n_ s σ H Q I h;refine wpAny_Call_Name_kw (O8 I hg hm hv ?_ hn YB);exact PyProof.Rows.callWith_builtin1 (Wl (ha pos n_ s σ H _ I h) λus s1 ⟨vs,H1,I1,r1,q1⟩=>hc n_ s1 σ H1 vs us Q I1 r1 q1) he ZO
theorem oB(hc:Je X (.type T) r)(hg:Gl X x)(hm:X.mg x=aB)(hv:bootBuiltins x=aA (.type T))(ha:PA X (e::es) t)(hn:x≠"__name__":=by decide)(YB:(x==("__debug__":Str))=aD:=by decide)
  (he:az (e::es) X.env=(aD,gg e X.env)::az es X.env:=by rfl) (ZO:(gb pos (az es X.env)).any (·.1)=aD:=by rfl):PE X (.Call (.Name x p) (e::es) [] pos) (tCB r t):=by
 intro n_ s σ H Q I h;refine wpAny_Call_Name_kw (O8 I hg hm hv ?_ hn YB);exact PyProof.Rows.callWith_type1 (Wl (ha pos n_ s σ H _ I h) λus s1 ⟨vs,H1,I1,r1,q1⟩=>hc n_ s1 σ H1 vs us Q I1 r1 q1) he ZO
end
end L2
namespace HT
noncomputable def Ip:List Int->List Int->Bool
 | [],[]=>aD
 | [],_::_=>aC
 |_::_,[]=>aD
 |x::xs,y::ys=>if x=y then Ip xs ys else decide (x<y)
theorem ny(x y:Int)(xs ys:List Int):Ip (x::xs) (y::ys)=if x=y then Ip xs ys else decide (x<y):=rfl
theorem n6:Ip [] []=aD:=rfl
theorem n9(y:Int)(ys:List Int):Ip [] (y::ys)=aC:=rfl
theorem n8(x:Int)(xs:List Int):Ip (x::xs) []=aD:=rfl
section
variable{prog:cg}{w:c8}{A:dh}{E:aj->ao->Prop}{s:ao}
noncomputable def sIx(n d:Nat):Option Int->Nat
 |none=>d
 |some v=>if v<0 then(v+(n:Int)).toNat else min v.toNat n
theorem nr(n d:Nat):sIx n d aB=d:=rfl
theorem uP(n d:Nat)(hd:d<=n)(o:Option Int):sIx n d o<=n:=by
 cases o with
 |none=>exact hd
 |some v=>
  show(if v<0 then(v+(n:Int)).toNat else min v.toNat n)<=n;by_cases hv:v<0
  .rw[m6 hv];omega
  .rw[m4 hv];exact Nat.min_le_right _ _
theorem X9(v:Int)(n d:Nat):(if v<0 then max (v+(n:Int)) 0 else min v (n:Int))=((sIx n d (aA v):Nat):Int):=by
 show(if v<0 then max (v+(n:Int)) 0 else min v (n:Int))=(((if v<0 then(v+(n:Int)).toNat else min v.toNat n):Nat):Int)
 by_cases hv:v<0
 .simp only[m6 hv];omega
 .simp only[m4 hv];omega
theorem Vf(lo hi:Option Int)(n:Nat):Builtin.Slice.sliceAdjust lo hi 1 (n:Int)=(((sIx n 0 lo:Nat):Int),((sIx n n hi:Nat):Int)):=by
 have h1:¬((1:Int)<0):=by omega
 unfold Builtin.Slice.sliceAdjust;simp only[h1,if_false];refine Prod.ext ?_ ?_
 .cases lo with
  |none=>rfl
  |some v=>exact X9 v n 0
 .cases hi with
  |none=>rfl
  |some v=>exact X9 v n n
theorem Vg(i j:Nat):Builtin.Slice.slicePlaces (i:Int) (j:Int) 1=j- i:=by
 unfold Builtin.Slice.slicePlaces;have h1:(1:Int) > 0:=by omega
 simp only[h1,if_true,Int.ediv_one];split<;> omega
theorem To{v:aj}{o:Option Int}{Q:Option Int->ao->Prop}(p:IsPart v o)(h:Q o s):bj (cf prog w) A (Builtin.Slice.slicePartIndex v) Q E s:=by
 cases p with
 |none=>exact slicePart_none h
 |int i t=>exact slicePart_int h
theorem Rm{sl:aq}{vl vu:aj}{lo hi:Option Int}{n:Nat}{Q:Int×Int×Nat->ao->Prop}(hs:s.heap.IsSliceOf sl vl vu .none)(pl:IsPart vl lo)(pu:IsPart vu hi)
  (h:Q (((sIx n 0 lo:Nat):Int),1,sIx n n hi- sIx n 0 lo) s):bj (cf prog w) A (Builtin.Slice.sliceApplied (.ref sl) (pure (n:Int))) Q E s:=by
 obtain⟨os,QR,EJ,TC⟩:=id hs;unfold Builtin.Slice.sliceApplied Builtin.Slice.sliceFields;refine ab (ab (wpAny_field QR TC (x:=vl) rfl (ab (wpAny_field QR TC (x:=vu) rfl (ab (wpAny_field QR TC (x:=.none) rfl (af ?_)))))));refine ab (slicePart_none ?_);show bj _ _ (if((1:Int)==0)=aC then _ else _) _ _ s;rw[m4 (by decide)];refine ab (To pl (ab (To pu (ab (af ?_)))));show bj _ _ (match Builtin.Slice.sliceAdjust lo hi 1 (n:Int)with| (lo,hi)=>pure (lo,(1:Int),Builtin.Slice.slicePlaces lo hi 1)) _ _ s;rw[Vf lo hi n];show bj _ _ (pure (((sIx n 0 lo:Nat):Int),(1:Int),Builtin.Slice.slicePlaces ((sIx n 0 lo:Nat):Int) ((sIx n n hi:Nat):Int) 1)) _ _ s;rw[Vg];exact af h
theorem pC(xs:Array aj)(i k:Nat):((df k).filterMap λ(m:Nat)=>xs[((i:Int)+(m:Int)*1).toNat]?).toArray=((xs.toList.drop i).take k).toArray:=by
 have e:(λ(m:Nat)=>xs[((i:Int)+(m:Int)*1).toNat]?)=λm=>xs[i+m]?:=by
  funext m;have:((i:Int)+(m:Int)*1).toNat=i+m:=by omega
  rw[this]
 rw[e];have:=pick_run xs i k;rw[List.filterMap_map]at this;have e2:((λx=>xs[x]?)∘λx=>i+x)=λm=>xs[i+m]?:=rfl;rw[e2]at this;rw[this]
theorem getItem_tuple_cut{t sl:aq}{mB:Array aj}{vl vu:aj}{lo hi:Option Int}{Q:aj->ao->Prop}(ht:IsTup s.heap t mB)(hs:s.heap.IsSliceOf sl vl vu .none)(pl:IsPart vl lo)(pu:IsPart vu hi)
  (hw:¬(sIx mB.size 0 lo=0/\sIx mB.size mB.size hi=mB.size))
  (h:Q (.ref s.heap.objs.size) {s with heap:=s.heap.push {cls:=.type "tuple",data:=.seq ((mB.toList.drop (sIx mB.size 0 lo)).take (sIx mB.size mB.size hi- sIx mB.size 0 lo)).toArray}})
  (hsz:mB.size<=sizeLine):bj (cf prog w) A (getItem (.ref t) (.ref sl)) Q E s:=by
 have WF:sizeOk (.seq ((mB.toList.drop (sIx mB.size 0 lo)).take (sIx mB.size mB.size hi- sIx mB.size 0 lo)).toArray):=by show((mB.toList.drop (sIx mB.size 0 lo)).take (sIx mB.size mB.size hi- sIx mB.size 0 lo)).toArray.size<=sizeLine;rw[bv,List.length_take,List.length_drop,bf];omega
 have hj:sIx mB.size mB.size hi<=mB.size:=uP _ _ (bc _) hi;obtain⟨os,QR,EJ,TC⟩:=id hs;have yh:s.TypeIs (.ref sl) "slice":=⟨os,QR,EJ⟩
 unfold getItem
 try with_reducible refine wpAny_holding ?_
 first|refine ab (af ?_)|skip
 refine ab (wpAny_sequenceKey ht.typeIs (by decide) ?_);refine ab (fg (name:=Str.ofString "__getitem__") ht.typeIs PyProof.Rows.slot_tuple_getitem
  (dq PyProof.Rows.slot_tuple_getitem ht.typeIs entry_tuple_getitem ?_ (args_tuple_getitem _ _)))
 show bj _ _ (Builtin.Tuple.tupleItemsOf (.ref t) >>=_) _ _ s;refine ab (tupleItemsOf_ ht ?_);refine ab (wpAny_typeOf yh ?_);rw[m6 (by decide)];refine ab (Rm hs pl pu ?_);have hno:¬((((sIx mB.size 0 lo:Nat):Int)==0&&(1:Int)==1&&(sIx mB.size mB.size hi- sIx mB.size 0 lo)==mB.size)=aC):=by intro q;rw[Bool.and_eq_true,Bool.and_eq_true]at q;have q1:((sIx mB.size 0 lo:Nat):Int)=0:=eq_of_beq q.1.1;have q2:sIx mB.size mB.size hi- sIx mB.size 0 lo=mB.size:=eq_of_beq q.2;exact hw ⟨by omega,by omega⟩
 show bj _ _ (if(((sIx mB.size 0 lo:Nat):Int)==0&&(1:Int)==1&&(sIx mB.size mB.size hi- sIx mB.size 0 lo)==mB.size)=aC then _ else _) _ _ s;rw[m4 hno,pC]
 first
  |exact ab (m:=Builtin.Tuple.tupleExact _) (di (af ⟨_,rfl,af h⟩) WF)
  |exact ab (m:=Builtin.Tuple.tupleExact _) (di (ab (af (af ⟨_,rfl,af h⟩))) WF)
  |exact ab (ab (m:=Builtin.Tuple.tupleExact _) (di (af (af ⟨_,rfl,af h⟩)) WF))
  |exact ab (ab (m:=Builtin.Tuple.tupleExact _) (di (af ⟨_,rfl,af h⟩) WF))
end
end HT
namespace L2
abbrev TO:=St->Hp->(Option Int->Hp->Prop)->Prop
def PO(X:Cx)(e:Option cw)(t:TO):Prop:=
 ∀(n_:List (aq×Obj)) (s:ao) (σ:St) (H:Hp) (Q:Option Int->Hp->Prop),mE X n_ σ H s->t σ H Q->
  bj (cf X.prog X.w) X.A (evalPart e X.env) (λu s'=>∃o H',mE X n_ σ H' s'/\IsPart u o/\Q o H') X.xe s
def Ha:TO:=λ_ H Q=>Q aB H
def CO(t:TE):TO:=λσ H Q=>t σ H λx H1=>∃i,x= .int i/\Q (aA i) H1
section
variable{X:Cx}{e:cw}{te:TE}{lo hi:Option cw}{tl th:TO}{pos p2:Pos}
theorem rO:PO X aB Ha:=by intro n_ s σ H Q I h;rw[evalPart_none];exact af ⟨aB,H,I,.none,h⟩
theorem rN(h:PE X e te):PO X (aA e) (CO te):=by intro n_ s σ H Q I hw;rw[evalPart_some];refine Wl (h n_ s σ H _ I hw) λu s1 ZG=>?_;obtain⟨x,H1,I1,r1,q1⟩:=ZG;obtain⟨i,rfl,q⟩:=q1;obtain⟨t,rfl⟩:=r1;exact⟨aA i,H1,I1,.int i t,q⟩
def SlR(X:Cx)(r:V->Option Int->Option Int->Hp->VK->Prop):Prop:=
 ∀(n_:List (aq×Obj)) (s:ao) (σ:St) (H:Hp) (x:V) (v vl vu:aj) (lo hi:Option Int) (sl:aq) (Q:VK),mE X n_ σ H s->Zy x v->s.heap.IsSliceOf sl vl vu .none->IsPart vl lo->IsPart vu hi->r x lo hi H Q->
  ∃T id,typeLookup (.type T) "__getitem__"=pure (aA (.builtin id))/\s.TypeIs v T/\bj (cf X.prog X.w) X.A (getItem v (.ref sl)) (EP X n_ σ Q) X.xe s
def tSl(r:V->Option Int->Option Int->Hp->VK->Prop)(te:TE)(tl th:TO):TE:=λσ H Q=>te σ H λx H1=>tl σ H1 λl H2=>th σ H2 λu H3=>r x l u H3 Q
theorem pB{r:V->Option Int->Option Int->Hp->VK->Prop}(hr:SlR X r)(he:PE X e te)(hl:PO X lo tl)(hu:PO X hi th):PE X (.Subscript e (.Slice lo hi aB p2) pos) (tSl r te tl th):=by intro n_ s σ H Q I h;refine Subscript_ (Wl (he n_ s σ H _ I h) λv s1 ZG=>?_);obtain⟨x,H1,I1,r1,q1⟩:=ZG;refine wpAny_Slice (Wl (hl n_ s1 σ H1 _ I1 q1) λvl s2 ⟨l,H2,I2,pl,q2⟩=>Wl (hu n_ s2 σ H2 _ I2 q2) λvu s3 ZG=>?_);obtain⟨u,H3,I3,pu,q3⟩:=ZG;rw[evalPart_none];refine af ?_;have I4:mE X n_ σ H3 {s3 with heap:=s3.heap.push {cls:=.type "slice",data:=.fields #[vl,vu,.none]}}:=I3.kept (t':=s3.toks) λb ob q=>ar _ q;obtain⟨T,id,hT,ht,hg⟩:=hr n_ {s3 with heap:=s3.heap.push {cls:=.type "slice",data:=.fields #[vl,vu,.none]}} σ H3 x v vl vu l u s3.heap.objs.size Q I4 r1 (Heap.IsSliceOf.new ..) pl pu q3;show bj (cf X.prog X.w) X.A (subscriptTail e (.Slice lo hi aB p2) v (.ref s3.heap.objs.size)) (EP X n_ σ Q) X.xe {s3 with heap:=s3.heap.push {cls:=.type "slice",data:=.fields #[vl,vu,.none]}};exact tail_any (ops:=[.ref s3.heap.objs.size,v]) ht hT hg (by with_unfolding_all rfl)
def RN(xs:List V)(lo hi:Option Int):List V:=(xs.drop (HT.sIx xs.length 0 lo)).take (HT.sIx xs.length xs.length hi- HT.sIx xs.length 0 lo)
theorem N8(xs:List V)(lo hi:Option Int):(RN xs lo hi).length<=xs.length:=by unfold RN;rw[List.length_take,List.length_drop];omega
def DR(K:ad):V->Option Int->Option Int->Hp->VK->Prop:=λx lo hi H Q=>∃a xs,x= .ref a/\Rl K H a xs/\
 ¬(HT.sIx xs.length 0 lo=0/\HT.sIx xs.length xs.length hi=xs.length)/\∀p,H p=aB->Q (.ref p) (Yo H p (.tup (RN xs lo hi)))
theorem uO:SlR X (DR X.K):=by
 intro n_ s σ H x v vl vu lo hi sl Q I rx hs pl pu h;obtain⟨a,xs,rfl,hx,hw,q⟩:=h;cases rx;obtain⟨mC,r,ht,hz⟩:=I.tuple hx;have hlen:mC.toArray.size=xs.length:=by rw[bv];exact r.length.symm
 refine⟨"tuple",_,PyProof.Rows.slot_tuple_getitem.lookup,ht.typeIs,?_⟩;refine HT.getItem_tuple_cut ht hs pl pu (by rw[hlen];exact hw) ?_ (by rw[hlen];exact hz);rw[hlen];refine⟨.ref s.heap.objs.size,_,I.laid (t':=s.toks) (o:=.tup (RN xs lo hi)) (λb ob q=>ar _ q) (bc _) ?_,rfl,q _ (I.hok.fresh (bc _))⟩;exact⟨ga (N8 xs lo hi) hz,_,(r.drop (HT.sIx xs.length 0 lo)).take (HT.sIx xs.length xs.length hi- HT.sIx xs.length 0 lo),IsTup.new _ _⟩
end
noncomputable def ixN(n:Nat)(i:Int):Option Nat:=if 0<=i then(if i<n then aA i.toNat else aB)else if-(n:Int)<=i then aA (i+n).toNat else aB
def atI{α:Type}(xs:List α)(i:Int):Option α:=(ixN xs.length i).bind λj=>xs[j]?
theorem rM{n:Nat}{i:Int}{j:Nat}(h:ixN n i=aA j):seqIndex? i n=aA j/\j<n/\-(n:Int)<=i/\i<n:=by
 unfold ixN at h;by_cases h0:0<=i
 .rw[m6 h0]at h;by_cases h1:i<n
  .rw[m6 h1]at h;have e:i.toNat=j:=cy.inj h;exact⟨by rw[seqIndex_of h0 h1,e],by omega,by omega,h1⟩
  .rw[m4 h1]at h;cases h
 .rw[m4 h0]at h;by_cases h1:-(n:Int)<=i
  .rw[m6 h1]at h;have e:(i+n).toNat=j:=cy.inj h;exact⟨by rw[seqIndex_neg (by omega) h1,e],by omega,h1,by omega⟩
  .rw[m4 h1]at h;cases h
theorem Kw{α:Type}{xs:List α}{i:Int}{v:α}(h:atI xs i=aA v):∃j,seqIndex? i xs.length=aA j/\xs[j]? =aA v/\j<xs.length/\-(xs.length:Int)<=i/\i<xs.length:=by
 unfold atI at h;cases e:ixN xs.length i with
 |none=>rw[e]at h;cases h
 |some j=>rw[e]at h;obtain⟨h1,h2,h3,h4⟩:=rM e;exact⟨j,h1,h,h2,h3,h4⟩
def Kx(b:cw):Prop:=∀o i,subscripted b aD o i=operate [o,i] (getItem o i)
def IxR(X:Cx)(r:R2):Prop:=
 ∀(value ZR:cw) (n_:List (aq×Obj)) (s:ao) (σ:St) (H:Hp) (x y:V) (v u:aj) (Q:VK),mE X n_ σ H s->Zy x v->Zy y u->r x y H Q->
  subscripted ZR aD v u=operate [v,u] (getItem v u)->bj (cf X.prog X.w) X.A (subscriptTail value ZR v u) (EP X n_ σ Q) X.xe s
def MtR(X:Cx)(id:String)(r:V->List V->Hp->VK->Prop):Prop:=
 ∀(n_:List (aq×Obj)) (s:ao) (σ:St) (H:Hp) (x:V) (xs:List V) (v:aj) (us:List aj) (Q:VK),mE X n_ σ H s->Zy x v->Z1 xs us->r x xs H Q->
  bj (cf X.prog X.w) X.A (call (.builtin id) (v::us)) (EP X n_ σ Q) X.xe s
section
variable{X:Cx}{a b:cw}{ta tb:TE}{pos:Pos}
theorem IxR.or{r r':R2}(h:IxR X r)(h':IxR X r'):IxR X (λx y H Q=>r x y H Q\/r' x y H Q):=by
 intro value ZR n_ s σ H x y v u Q I rx ry q hs;rcases q with q|q
 .exact h value ZR n_ s σ H x y v u Q I rx ry q hs
 .exact h' value ZR n_ s σ H x y v u Q I rx ry q hs
theorem GD{r:R2}(hr:IxR X r)(ha:PE X a ta)(hb:PE X b tb)(hs:Kx b):PE X (.Subscript a b pos) (Va r ta tb):=by intro n_ s σ H Q I h;exact Subscript_ (IQ ha hb I h λv u s2 x y H2 I2 rx ry q=>hr a b n_ s2 σ H2 x y v u Q I2 rx ry q (hs _ _))
def DQ(K:ad):R2:=λx y H Q=>∃p xs i v,x= .ref p/\y= .int i/\J3 K H p xs/\atI xs i=aA v/\Q v H
def DP(K:ad):R2:=λx y H Q=>∃p xs i v,x= .ref p/\y= .int i/\Rl K H p xs/\atI xs i=aA v/\Q v H
def DO:R2:=λx y H Q=>∃z i c,x= .str z/\y= .int i/\z.length<=sizeLine/\atI z.cps.toList i=aA c/\Q (.str ⟨#[c]⟩) H
theorem rL:IxR X (DQ X.K):=by
 intro value ZR n_ s σ H x y v u Q I rx ry h hs;obtain⟨p,xs,i,z,rfl,rfl,hq,he,q⟩:=h;cases rx;obtain⟨t,rfl⟩:=ry;obtain⟨mC,r,pl,hz⟩:=I.list hq;obtain⟨j,h1,h2,h3,h4,h5⟩:=Kw he;obtain⟨w,ew,WO⟩:=r.get h2;have hl:=r.length;have hn:=Tj;have fin:EP X n_ σ Q w s:=⟨z,H,I,WO,q⟩
 by_cases h0:0<=i
 .have hj:i.toNat=j:=by rw[seqIndex_of h0 h5]at h1;exact cy.inj h1
  exact item_listR pl.isList h0 (by omega) (by rw[hj];simpa using ew) fin hs
 .have hj:(i+(mC.toArray.size:Int)).toNat=j:=by rw[seqIndex_neg (by omega) h4]at h1;rw[bv,<-hl];exact cy.inj h1
  exact subscriptTail_builtinR (x:=w) pl.isList.typeIs slot_list_getitem.lookup
   (wpAny_getItem_list_neg (Q:=λr s'=>r=w/\EP X n_ σ Q r s') pl.isList (by omega) (by rw[bv]<;> omega) (by omega) (by rw[hj];simpa using ew) ⟨rfl,fin⟩) hs
theorem uN:IxR X (DP X.K):=by
 intro value ZR n_ s σ H x y v u Q I rx ry h hs;obtain⟨p,xs,i,z,rfl,rfl,hq,he,q⟩:=h;cases rx;obtain⟨t,rfl⟩:=ry;obtain⟨mC,r,pl,hz⟩:=I.tuple hq;obtain⟨j,h1,h2,h3,h4,h5⟩:=Kw he;obtain⟨w,ew,WO⟩:=r.get h2;have hl:=r.length;have hn:=Tj;have fin:EP X n_ σ Q w s:=⟨z,H,I,WO,q⟩
 exact subscriptTail_builtinR (x:=w) pl.typeIs slot_tuple_getitem.lookup
  (getItem_tuple (j:=j) (Q:=λr s'=>r=w/\EP X n_ σ Q r s') pl (by omega) (by omega) (by rw[bv,<-hl];exact h1) (by simpa using ew) ⟨rfl,fin⟩) hs
theorem uM:IxR X DO:=by
 intro value ZR n_ s σ H x y v u Q I rx ry h hs;obtain⟨z,i,c,rfl,rfl,hz,he,q⟩:=h;obtain⟨t,rfl⟩:=rx;obtain⟨t',rfl⟩:=ry;obtain⟨j,h1,h2,h3,h4,h5⟩:=Kw he;have hl:z.cps.toList.length=z.length:=by simp[Str.length]
 rw[hl]at h1 h4 h5;have hn:=Tj;exact tail_any (typeIs_str s z t) slot_str_getitem.lookup (getItem_str (c:=c) (by
  have e1:decide (i< -(2^63:Int))=aD:=m7 (by omega);have e2:decide (i>=2^63)=aD:=m7 (by omega);rw[e1,e2,Bool.or_false]) (by rw[h1];simpa using h2) ⟨.str ⟨#[c]⟩,H,I.tok _,⟨_,rfl⟩,q⟩) hs
def rIx(K:ad):R2:=λx y H Q=>DQ K x y H Q\/DP K x y H Q\/DO x y H Q
theorem Vh:IxR X (rIx X.K):=rL.or (uN.or uM)
noncomputable def Wj:V->Bool
 | .non=>aC
 | .bl _=>aC
 | .int _=>aC
 | .str _=>aC
 |_=>aD
noncomputable def Vi:V->V->Bool
 | .non,.non=>aC
 | .bl a,.bl b=>a==b
 | .bl a,.int b=>(if a then 1 else 0)==b
 | .int a,.bl b=>a==(if b then 1 else 0)
 | .int a,.int b=>a==b
 | .str a,.str b=>a==b
 |_,_=>aD
theorem AS{A:dh}{s:ao}{y x:V}{u v:aj}(ry:Zy y u)(rx:Zy x v)(fy:Wj y=aC)(fx:Wj x=aC):SeqAt.EqAt A s u v (Vi y x):=by
 cases y with
 |non=>
  cases ry;cases x with
  |non=>cases rx;exact SeqAt.EqAt.same _
  |bl b=>cases rx;exact SeqAt.EqAt.none_bool b
  |int b=>obtain⟨t,rfl⟩:=rx;exact SeqAt.EqAt.none_int b t
  |str b=>obtain⟨t,rfl⟩:=rx;exact SeqAt.EqAt.none_str b t
  |_=>exact m_ (show aD=aC from fx) bq
 |bl a=>
  cases ry;cases x with
  |non=>cases rx;exact SeqAt.EqAt.bool_none a
  |bl b=>cases rx;exact SeqAt.EqAt.bool_bool a b
  |int b=>obtain⟨t,rfl⟩:=rx;exact SeqAt.EqAt.bool_int a b t
  |str b=>obtain⟨t,rfl⟩:=rx;exact SeqAt.EqAt.bool_str a b t
  |_=>exact m_ (show aD=aC from fx) bq
 |int a=>
  obtain⟨t',rfl⟩:=ry;cases x with
  |non=>cases rx;exact SeqAt.EqAt.int_none a t'
  |bl b=>cases rx;exact SeqAt.EqAt.int_bool a t' b
  |int b=>obtain⟨t,rfl⟩:=rx;exact SeqAt.EqAt.int_int a t' b t
  |str b=>obtain⟨t,rfl⟩:=rx;exact SeqAt.EqAt.int_str a t' b t
  |_=>exact m_ (show aD=aC from fx) bq
 |str a=>
  obtain⟨t',rfl⟩:=ry;cases x with
  |non=>cases rx;exact SeqAt.EqAt.str_none a t'
  |bl b=>cases rx;exact SeqAt.EqAt.str_bool a t' b
  |int b=>obtain⟨t,rfl⟩:=rx;exact SeqAt.EqAt.str_int a t' b t
  |str b=>obtain⟨t,rfl⟩:=rx;exact SeqAt.EqAt.str_str a t' b t
  |_=>exact m_ (show aD=aC from fx) bq
 |_=>exact m_ (show aD=aC from fy) bq
def eqU(x:V)(u:aj):Bool:=match u with
 | .none=>Vi .non x
 | .bool b=>Vi (.bl b) x
 | .int i _=>Vi (.int i) x
 | .str z _=>Vi (.str z) x
 |_=>aD
theorem AR{x y:V}{u:aj}(r:Zy y u)(f:Wj y=aC):eqU x u=Vi y x:=by
 cases y with
 |non=>cases r;rfl
 |bl b=>cases r;rfl
 |int i=>obtain⟨t,rfl⟩:=r;rfl
 |str z=>obtain⟨t,rfl⟩:=r;rfl
 |_=>exact m_ (show aD=aC from f) bq
theorem Ky{x:V}:∀{xs:List V} {us:List aj},Z1 xs us->xs.all Wj=aC->us.any (eqU x)=xs.any λy=>Vi y x
 |_,_,.nil,_=>rfl
 |y::xs,u::us,.cons r t,f=>by rw[List.all_cons,Bool.and_eq_true]at f;rw[List.any_cons,List.any_cons,AR r f.1,Ky t f.2]
theorem Tp{A:dh}{s:ao}{x:V}{v:aj}(rx:Zy x v)(fx:Wj x=aC):∀{xs:List V} {us:List aj},Z1 xs us->xs.all Wj=aC->∀u∈us,SeqAt.EqAt A s u v (eqU x u)
 |_,_,.nil,_=>λu hu=>by cases hu
 |y::xs,u::us,.cons r t,f=>λu' hu=>by
  rw[List.all_cons,Bool.and_eq_true]at f;rcases ay.mp hu with rfl|hu
  .rw[AR r f.1];exact AS r rx f.1 fx
  .exact Tp rx fx t f.2 u' hu
def inV(x:V)(xs:List V):Bool:=xs.any λy=>Vi y x
def rIn(K:ad)(TW:Bool):R2:=λx y H Q=>∃p xs,y= .ref p/\(J3 K H p xs\/Rl K H p xs)/\Wj x=aC/\xs.all Wj=aC/\Q (.bl (if TW then !inV x xs else inV x xs)) H
theorem Kz:O9 X (compareOp .NotIn) (rIn X.K aC):=by
 intro n_ s σ H x y v u Q I rx ry h;obtain⟨p,xs,rfl,hq,fx,fs,q⟩:=h;cases ry;rcases hq with hq|hq
 .obtain⟨mC,r,pl,hz⟩:=I.list hq;refine SeqAt.notIn_listAt (eqU x) pl.isList (λw hw=>Tp rx fx r fs w (by simpa using hw)) ⟨.bl _,H,I,rfl,?_⟩;rw[show mC.toArray.any (eqU x)=mC.any (eqU x) by simp,Ky r fs];exact q
 .obtain⟨mC,r,pl,hz⟩:=I.tuple hq;refine SeqAt.notIn_tupleAt (eqU x) pl (λw hw=>Tp rx fx r fs w (by simpa using hw)) ⟨.bl _,H,I,rfl,?_⟩;rw[show mC.toArray.any (eqU x)=mC.any (eqU x) by simp,Ky r fs];exact q
theorem K5:O9 X (compareOp .NotIn) (λx y H Q=>∃i j,x= .str i/\y= .str j/\Q (.bl (!(!(Builtin.Str.occurrences j i 0 j.length 1).isEmpty))) H):=by intro n_ s σ H x y v u Q I rx ry h;obtain⟨i,j,rfl,rfl,q⟩:=h;obtain⟨t,rfl⟩:=rx;obtain⟨t',rfl⟩:=ry;exact notIn_str ⟨.bl _,H,I,rfl,q⟩
theorem K6:Je X (.builtin "len") (λxs H Q=>∃p ys,xs=[.ref p]/\(J3 X.K H p ys\/Rl X.K H p ys)/\Q (.int ys.length) H):=by
 intro n_ s σ H xs us Q I r h;obtain⟨p,ys,rfl,hq,q⟩:=h;obtain⟨u,rfl,rx⟩:=Oy r;cases rx;have hn:=Tj;rcases hq with hq|hq
 .obtain⟨mC,r',pl,hz⟩:=I.list hq;have hlen:=r'.length;exact Calls.call_len_list pl.isList (by simp only[bv]<;> omega) ⟨.int ys.length,H,I.tok _,⟨s.toks+1,by rw[bv,hlen]⟩,q⟩
 .obtain⟨mC,r',pl,hz⟩:=I.tuple hq;have hlen:=r'.length;exact len_tuple pl (by simp only[bv]<;> omega) ⟨.int ys.length,H,I.tok _,⟨s.toks+1,by rw[bv,hlen]⟩,q⟩
theorem K7:Je X (.builtin "len") (λxs H Q=>∃z,xs=[.str z]/\z.length<=sizeLine/\Q (.int z.length) H):=by intro n_ s σ H xs us Q I r h;obtain⟨z,rfl,hz,q⟩:=h;obtain⟨u,rfl,t,rfl⟩:=Oy r;have hn:=Tj;exact len_str (by omega) ⟨.int z.length,H,I.tok _,⟨_,rfl⟩,q⟩
theorem Je.or{f:aj}{r r':List V->Hp->VK->Prop}(h:Je X f r)(h':Je X f r'):Je X f (λxs H Q=>r xs H Q\/r' xs H Q):=by
 intro n_ s σ H xs us Q I rs q;rcases q with q|q
 .exact h n_ s σ H xs us Q I rs q
 .exact h' n_ s σ H xs us Q I rs q
def tyV(K:ad)(T:String)(x:V)(H:Hp):Prop:=match x with
 | .str _=>T="str"
 | .int _=>T="int"
 | .ref p=>(T="list"/\∃xs,J3 K H p xs)\/(T="tuple"/\∃o,K.lookup p=aA o/\o.cls= .type "tuple"/\o.dict=aB)\/
   (T="dict"/\((∃kvs,HK H p kvs)\/∃kvs,HTt H p kvs))\/(T="set"/\∃S n,H p=aA (.set S n))
 |_=>False
theorem AQ{n_:List (aq×Obj)}{σ:St}{H:Hp}{s:ao}{T:String}{x:V}{v:aj}(I:mE X n_ σ H s)(r:Zy x v)(ty:tyV X.K T x H):
  s.TypeIs v T/\∀a,v= .ref a->∃ob,s.heap.get? a=aA ob/\ob.dict=aB:=by
 cases x with
 |str z=>obtain⟨t,rfl⟩:=r;cases(show T="str"from ty);exact⟨typeIs_str s z t,λ_ e=>nomatch e⟩
 |int i=>obtain⟨t,rfl⟩:=r;cases(show T="int"from ty);exact⟨typeIs_int s i t,λ_ e=>nomatch e⟩
 |ref p=>
  cases r;rcases ty with⟨rfl,xs,hq⟩|⟨rfl,o,hk,hc,hd⟩|⟨rfl,hk⟩|⟨rfl,S,n,hk⟩
  .obtain⟨mC,_,pl,_⟩:=I.list hq;refine⟨pl.isList.typeIs,λa e=>?_⟩;cases e;obtain⟨o,n,e,c,hd,_⟩:=pl;exact⟨o,e,hd⟩
  .refine⟨⟨o,I.kIn p o hk,hc⟩,λa e=>?_⟩;cases e;exact⟨o,I.kIn _ o hk,hd⟩
  .have z:∃o,s.heap.get? p=aA o/\o.ExactDict:=by
    rcases hk with⟨kvs,ep,hk⟩|⟨kvs,ep,bs,hk⟩
    .obtain⟨_,_,_,_,o,_,e,ex,_⟩:=I.hok p _ hk;exact⟨o,e,ex⟩
    .obtain⟨_,_,_,_,o,_,e,ex,_⟩:=I.hok p _ hk;exact⟨o,e,ex⟩
   obtain⟨o,e,ex⟩:=z;refine⟨⟨o,e,ex.1⟩,λa e2=>?_⟩;cases e2;exact⟨o,e,ex.2.1⟩
  .obtain⟨o,_,_,_,e,ex,_⟩:=I.hok p _ hk;refine⟨⟨o,e,ex.1⟩,λa e2=>?_⟩;cases e2;exact⟨o,e,ex.2.1⟩
 |_=>exact False.elim ty
def MQ(K:ad)(T:String)(r:V->List V->Hp->VK->Prop)(to:TE):TE:=λσ H Q=>to σ H λx H1=>tyV K T x H1/\r x [] H1 Q
def tBM(K:ad)(T:String)(r:V->List V->Hp->VK->Prop)(to:TE)(t:TA):TE:=λσ H Q=>to σ H λx H1=>tyV K T x H1/\t σ H1 λxs H2=>r x xs H2 Q
variable{o e:cw}{es:List cw}{to:TE}{t:TA}{name:Str}{ZF ZC:Pos}{T id:String}{r:V->List V->Hp->VK->Prop}
theorem AO(pa:PlainAttrs T)(slot:Slot T name id)(KH:typeOf (.builtin id)=pure (.type "method_descriptor"))(hm:MtR X id r)(ho:PE X o to)
  (ZN:attributeBase o name X.env (gg o X.env)=gg o X.env:=by rfl) (ZM:(ZF.endLine==ZC.line)=aC:=by rfl):PE X (.Call (.Attribute o name ZF) [] [] ZC) (MQ X.K T r to):=by
 intro n_ s σ H Q I h;refine wpAny_Call_method0_late ZN ZM (Wl (ho n_ s σ H _ I h) λv s1 ZG=>?_);obtain⟨x,H1,I1,r1,ty,q1⟩:=ZG;obtain⟨h1,h2⟩:=AQ I1 r1 ty;exact⟨T,id,pa,slot,KH,h1,h2,Calls.callWith_builtin rfl (PySem.evalArgs_none (hm n_ s1 σ H1 x [] v [] Q I1 r1 .nil q1))⟩
theorem Iq(pa:PlainAttrs T)(slot:Slot T name id)(KH:typeOf (.builtin id)=pure (.type "method_descriptor"))(hm:MtR X id r)(ho:PE X o to)(ha:PA X (e::es) t)
  (ZN:attributeBase o name X.env (gg o X.env)=gg o X.env:=by rfl)
  (YA:((gb ZC (az (e::es) X.env)).all (λx=>!x.1)&&(backToKw ZC (keywordEach [] X.env)).all (λx=>x.1.isSome)
   &&decide ((e::es).length+([]:List Keyword).length+(if([]:List Keyword).isEmpty then 0 else 1)<30))=aC:=by rfl)
  (ZM:(ZF.endLine==ZC.line)=aC:=by rfl) (hs:az (e::es) X.env=(aD,gg e X.env)::az es X.env:=by rfl) (T_:(gb ZC (az es X.env)).any (·.1)=aD:=by rfl):
  PE X (.Call (.Attribute o name ZF) (e::es) [] ZC) (tBM X.K T r to t):=by
 intro n_ s σ H Q I h;refine wpAny_Call_method_late ZN YA ZM rfl (Wl (ho n_ s σ H _ I h) λv s1 ZG=>?_);obtain⟨x,H1,I1,r1,ty,q1⟩:=ZG;obtain⟨h1,h2⟩:=AQ I1 r1 ty;refine⟨T,id,pa,slot,KH,h1,h2,?_⟩;have hA:=ha ZC n_ s1 σ H1 _ I1 q1;rw[hs]at hA⊢;refine Calls.callWith_builtin (by show(aD|| (gb ZC (az es X.env)).any (·.1))=aD;rw[T_]<;> rfl) (Calls.evalArgs_plain ?_);exact Wl hA λus s2 ⟨vs,H2,I2,r2,q2⟩=>hm n_ s2 σ H2 x vs v us Q I2 r1 r2 q2
end
def MtM(X:Cx)(id:String)(r:V->List V->Hp->VK->Prop):Prop:=
 ∀(n_:List (aq×Obj)) (s:ao) (σ:St) (H:Hp) (x:V) (xs:List V) (v:aj) (us:List aj) (Q:VK),mE X n_ σ H s->Zy x v->Z1 xs us->r x xs H Q->
  bj (cf X.prog X.w) X.A (call (.builtin id) (v::us)) (EP X n_ σ Q) X.xe s
theorem Z1.one{x:V}{us:List aj}(h:Z1 [x] us):∃u,us=[u]/\Zy x u:=by
 cases h with
 |cons r t=>cases t;exact⟨_,rfl,r⟩
theorem Z1.zero:∀{us:List aj},Z1 [] us->us=[]
 |_,.nil=>rfl
theorem Z1.dropLast{xs:List V}{us:List aj}(h:Z1 xs us):Z1 xs.dropLast us.dropLast:=by
 induction h with
 |nil=>exact .nil
 |cons r t ih=>
  cases t with
  |nil=>exact .nil
  |cons q t'=>exact .cons r ih
theorem Vj{α:Type}(l:List α):l.eraseIdx (l.length- 1)=l.dropLast:=by
 induction l with
 |nil=>rfl
 |cons a r ih=>
  cases r with
  |nil=>rfl
  |cons b r=>
   have e:(a::b::r).length- 1=((b::r).length- 1)+1:=by have h1:(a::b::r).length=r.length+2:=rfl;have h2:(b::r).length=r.length+1:=rfl;omega
   rw[e,List.eraseIdx_cons_succ,ih]
   all_goals rfl
section
variable{X:Cx}{n_:List (aq×Obj)}{σ:St}{H:Hp}{s:ao}{l b:aq}{xs ys zs:List V}
theorem mE.lset{mC its':List aj}{n:Nat}{f:Array aj->Array aj}{t':Nat}(I:mE X n_ σ H s)(hH:H l=aA (.lst xs))
  (e:s.heap.get? l=aA {cls:=.type "list",data:=.seq mC.toArray n}) (hf:f mC.toArray=its'.toArray) (hv:Z1 ys its') (hz:ys.length<=sizeLine):
  mE X n_ σ (Yo H l (.lst ys)) {s with heap:=s.heap.update l (dm f),toks:=t'}:=by
 have q:=PySem.IsL.update e f;rw[hf]at q;refine I.write (x:=l) (e:=l) (by rw[hH];exact trivial) (.inl rfl) (λb' u hb hu=>(Heap.get?_update_other s.heap (dm f) (Ne.symm hb)).trans hu) ⟨_,q⟩ ?_;exact⟨hz,its',_,hv,q⟩
theorem mE.lnew{mC:List aj}{t':Nat}(I:mE X n_ σ H s)(hv:Z1 ys mC)(hz:ys.length<=sizeLine):
  mE X n_ σ (Yo H s.heap.objs.size (.lst ys)) {s with heap:=s.heap.push {cls:=.type "list",data:=.seq mC.toArray},toks:=t'}:=
 I.laid (λ_ _ q=>ar _ q) (bc _) ⟨hz,mC,0,hv,bo _ rfl⟩
theorem mE.fresh(I:mE X n_ σ H s):H s.heap.objs.size=aB:=I.hok.fresh (bc _)
theorem mE.lstM(I:mE X n_ σ H s)(hH:H l=aA (.lst xs)):xs.length<=sizeLine/\∃(mC:List aj) (n:Nat),Z1 xs mC/\xs.length=mC.length/\s.heap.get? l=aA {cls:=.type "list",data:=.seq mC.toArray n}:=by obtain⟨z,mC,n,r,e⟩:=I.hok l _ hH;exact⟨z,mC,n,r,r.length,e⟩
theorem pA{n:Nat}(h:n<=sizeLine):Builtin.List.listTooLong n=aD:=by unfold Builtin.List.listTooLong;exact m7 (by omega)
end
section
variable{X:Cx}
def Qf:V->List V->Hp->VK->Prop:=λx vs H Q=>∃l xs y,x= .ref l/\vs=[y]/\H l=aA (.lst xs)/\xs.length<sizeLine/\Q .non (Yo H l (.lst (xs++[y])))
theorem B6:MtM X "list.append" Qf:=by intro n_ s σ H x vs v us Q I rx rv h;obtain⟨l,xs,y,rfl,rfl,hH,hz,q⟩:=h;cases rx;obtain⟨u,rfl,ru⟩:=rv.one;obtain⟨z,mC,n,r,hl,e⟩:=I.lstM hH;refine call_meets F.slot_list_append ⟨_,e,rfl⟩ F.entry_list_append (F.args_list_append_2 _ _) (PySem.list_append l mC.toArray n u (by rw[bv];omega)) ⟨e,?_⟩;refine⟨.non,_,I.lset (its':=mC++[u]) hH e (by simp) (r.append (.cons ru .nil)) ?_,rfl,q⟩;rw[av,f7];omega
def DN:V->List V->Hp->VK->Prop:=λx vs H Q=>∃l xs y,x= .ref l/\vs=[]/\H l=aA (.lst xs)/\xs[xs.length- 1]? =aA y/\Q y (Yo H l (.lst xs.dropLast))
theorem uL:MtM X "list.pop" DN:=by
 intro n_ s σ H x vs v us Q I rx rv h;obtain⟨l,xs,y,rfl,rfl,hH,hy,q⟩:=h;cases rx;have hus:=rv.zero;subst hus;obtain⟨z,mC,n,r,hl,e⟩:=I.lstM hH;obtain⟨u,hu,ru⟩:=r.get hy;have VC:mC.toArray[mC.toArray.size- 1]? =aA u:=by show mC.toArray[mC.length- 1]? =aA u;rw[<-c7,<-hl];exact hu
 refine call_meets F.slot_list_pop ⟨_,e,rfl⟩ F.entry_list_pop (F.args_list_pop_1 _) (MeetsSeq.list_pop_last l mC.toArray n u VC (by rw[bv];omega)) ⟨e,?_⟩;refine⟨y,_,I.lset (its':=mC.dropLast) hH e ?_ r.dropLast ?_,ru,q⟩
 .show mC.toArray.eraseIdxIfInBounds (mC.toArray.size- 1)=mC.dropLast.toArray;rw[bv,List.eraseIdxIfInBounds_toArray,Vj]
 .rw[List.length_dropLast];omega
def AN:V->List V->Hp->VK->Prop:=λx vs H Q=>∃l xs,x= .ref l/\vs=[]/\H l=aA (.lst xs)/\Q .non (Yo H l (.lst []))
theorem q_:MtM X "list.clear" AN:=by intro n_ s σ H x vs v us Q I rx rv h;obtain⟨l,xs,rfl,rfl,hH,q⟩:=h;cases rx;have hus:=rv.zero;subst hus;obtain⟨z,mC,n,r,hl,e⟩:=I.lstM hH;refine call_meets F.slot_list_clear ⟨_,e,rfl⟩ F.entry_list_clear (F.args_list_clear_1 _) (AutoSeq1.list_clear_list_0 l mC.toArray n (by rw[bv];omega)) ⟨e,?_⟩;exact⟨.non,_,I.lset (its':=[]) (ys:=[]) hH e rfl .nil (dk _),rfl,q⟩
end
section
variable{κ:Type}[DecidableEq κ]
noncomputable def Qp(kvs:List (κ×V))(k:κ):Option V:=(kvs.find? λkv=>decide (kv.1=k)).map (·.2)
noncomputable def Qd(kvs:List (κ×V))(k:κ)(v:V):List (κ×V):=
 if(kvs.any λkv=>decide (kv.1=k))=aC then kvs.map (λkv=>if kv.1=k then(kv.1,v)else kv)else kvs++[(k,v)]
theorem qz{k:κ}:Qp ([]:List (κ×V)) k=aB:=rfl
theorem Uz{p:κ×V}{r:List (κ×V)}{k:κ}(e:p.1=k):Qp (p::r) k=aA p.2:=by simp[Qp,List.find?_cons,e]
theorem Jm{p:κ×V}{r:List (κ×V)}{k:κ}(e:¬p.1=k):Qp (p::r) k=Qp r k:=by simp[Qp,List.find?_cons,e]
theorem Tq(k:κ):∀kvs:List (κ×V),(kvs.any λkv=>decide (kv.1=k))=(Qp kvs k).isSome
 | []=>rfl
 |p::r=>by
  rw[List.any_cons];by_cases e:p.1=k
  .simp only[Uz e,m8 e,Bool.true_or,Option.isSome_some]
  .rw[Jm e,m7 e,Bool.false_or];exact Tq k r
theorem Ba(kvs:List (κ×V))(k:κ)(v:V):(Qd kvs k v).length<=kvs.length+1:=by
 unfold Qd;split
 .rw[ah];omega
 .rw[av,bh,List.length_nil];omega
theorem Gf.isSome_eq{o:Option V}{u:Option aj}(r:Gf o u):o.isSome=u.isSome:=by
 cases o with
 |none=>cases u with
  |none=>rfl
  |some _=>exact(show False from r).elim
 |some _=>cases u with
  |none=>exact(show False from r).elim
  |some _=>rfl
theorem Gf.getD{o:Option V}{u:Option aj}{d:V}{d':aj}(r:Gf o u)(rd:Zy d d'):Zy (o.getD d) (u.getD d'):=by
 cases o with
 |none=>cases u with
  |none=>exact rd
  |some _=>exact(show False from r).elim
 |some _=>cases u with
  |none=>exact(show False from r).elim
  |some _=>exact r
theorem KV.val{kvs:List (κ×V)}{vs:List (κ×aj)}(r:KV kvs vs)(k:κ):Gf (Qp kvs k) (valueAt vs k):=by
 unfold KV at r;induction r with
 |nil=>exact True.intro
 | @cons p q ps qs h t ih=>
  obtain⟨h1,h2⟩:=h;by_cases e:p.1=k
  .have e':q.1=k:=h1.symm.trans e;have b:valueAt (q::qs) k=aA q.2:=by simp[valueAt,List.find?_cons,e']
   rw[Uz e,b];exact h2
  .have e':¬q.1=k:=λz=>e (h1.trans z);have b:valueAt (q::qs) k=valueAt qs k:=by simp[valueAt,List.find?_cons,e']
   rw[Jm e,b];exact ih
theorem KV.any{kvs:List (κ×V)}{vs:List (κ×aj)}(r:KV kvs vs)(k:κ):(kvs.any λkv=>decide (kv.1=k))=vs.any λkv=>decide (kv.1=k):=by
 unfold KV at r;induction r with
 |nil=>rfl
 |cons h t ih=>rw[List.any_cons,List.any_cons,ih,h.1]
theorem KV.repl{kvs:List (κ×V)}{vs:List (κ×aj)}(r:KV kvs vs)(k:κ){y:V}{u:aj}(ry:Zy y u):
  KV (kvs.map λkv=>if kv.1=k then(kv.1,y)else kv) (vs.map λkv=>if kv.1=k then(kv.1,u)else kv):=by
 unfold KV at r⊢;induction r with
 |nil=>exact .nil
 | @cons p q ps qs h t ih=>
  rw[bm,bm];refine .cons ?_ ih;obtain⟨h1,h2⟩:=h;by_cases e:p.1=k
  .rw[m6 e,m6 (h1.symm.trans e)];exact⟨h1,ry⟩
  .rw[m4 e,m4 (λz=>e (h1.trans z))];exact⟨h1,h2⟩
theorem KV.put{kvs:List (κ×V)}{vs:List (κ×aj)}(r:KV kvs vs)(k:κ){y:V}{u:aj}(ry:Zy y u):KV (Qd kvs k y) (stored vs k u):=by
 unfold Qd stored;rw[r.any k];by_cases e:(vs.any λkv=>decide (kv.1=k))=aC
 .rw[m6 e,m6 e];exact r.repl k ry
 .rw[m4 e,m4 e];exact Paired.snoc r ⟨rfl,ry⟩
theorem KV.length{kvs:List (κ×V)}{vs:List (κ×aj)}(r:KV kvs vs):kvs.length=vs.length:=Paired.length r
end
theorem Tr{P:cg}{w:c8}{k:Key}{u:aj}(r:Zy (kV k) u):(Zq P w).is k u=aC:=by
 cases k with
 |inl i=>obtain⟨t,e⟩:=(show∃t,u=Value.int i t from r);subst e;exact Ny P w i t
 |inr x=>obtain⟨t,e⟩:=(show∃t,u=Value.str x t from r);subst e;exact Nz P w x t
theorem Ir{P:cg}{w:c8}:∀{ks:List Key} {us:List aj},Z1 (ks.map kV) us->ItemsAre (Zq P w) ks us
 | [],_,r=>by rw[List.map_nil]at r;cases r;exact .nil
 |k::ks,_,r=>by
  rw[bm]at r;cases r with
  |cons h t=>exact .cons (Tr h) (Ir t)
abbrev KT(H:Hp):List (List Key×V)->List (List Key×aq×aj)->Prop:=Paired λp q=>p.1=q.1/\H q.2.1=aA (.tup (p.1.map kV))/\Zy p.2 q.2.2
theorem KT.val{H:Hp}{kvs:List (List Key×V)}{xs:List (List Key×aq×aj)}(r:KT H kvs xs)(k:List Key):Gf (Qp kvs k) ((atKey xs k).map (·.2)):=by
 induction r with
 |nil=>exact True.intro
 | @cons p q ps qs h t ih=>
  obtain⟨h1,_,h2⟩:=h;by_cases e:p.1=k
  .have e':q.1=k:=h1.symm.trans e;have b:atKey (q::qs) k=aA q.2:=by simp[atKey,List.find?_cons,e']
   rw[Uz e,b];exact h2
  .have e':¬q.1=k:=λz=>e (h1.trans z);have b:atKey (q::qs) k=atKey qs k:=by simp[atKey,List.find?_cons,e']
   rw[Jm e,b];exact ih
theorem KT.repl{H:Hp}{kvs:List (List Key×V)}{xs:List (List Key×aq×aj)}(r:KT H kvs xs)(k:List Key){y:V}{u:aj}(ry:Zy y u):
  KT H (kvs.map λkv=>if kv.1=k then(kv.1,y)else kv) (xs.map (putAt k u)):=by
 induction r with
 |nil=>exact .nil
 | @cons p q ps qs h t ih=>
  rw[bm,bm];refine .cons ?_ ih;obtain⟨h1,h2,h3⟩:=h;unfold putAt;by_cases e:p.1=k
  .rw[m6 e,m6 (h1.symm.trans e)];exact⟨h1,h2,ry⟩
  .rw[m4 e,m4 (λz=>e (h1.trans z))];exact⟨h1,h2,h3⟩
theorem KT.put{H:Hp}{kvs:List (List Key×V)}{xs:List (List Key×aq×aj)}(r:KT H kvs xs)(k:List Key){b:aq}{y:V}{u:aj}(hb:H b=aA (.tup (k.map kV)))(ry:Zy y u):
  KT H (Qd kvs k y) (storedH xs k b u):=by
 have e:(kvs.any λkv=>decide (kv.1=k))=(atKey xs k).isSome:=by rw[Tq,(r.val k).isSome_eq,Option.isSome_map]
 unfold Qd storedH;rw[e];by_cases q:(atKey xs k).isSome=aC
 .rw[m6 q,m6 q];exact r.repl k ry
 .rw[m4 q,m4 q];exact Paired.snoc r ⟨rfl,hb,ry⟩
theorem KT.keeps{H H':Hp}{kvs:List (List Key×V)}{xs:List (List Key×aq×aj)}(r:KT H kvs xs)(ht:∀b ys,H b=aA (.tup ys)->H' b=aA (.tup ys)):KT H' kvs xs:=
 Paired.mapP r λ_ _ z=>⟨z.1,ht _ _ z.2.1,z.2.2⟩
section
variable{P:cg}{w:c8}{H:Hp}{h:d6}{a:aq}
theorem GC{u:HO}(ok:Cy P w H h)(e:Rd H a u):Yc P w H h a u:=e.ok ok
theorem Ts{kvs:List (Key×V)}(ok:Cy P w H h)(e:RdK H a kvs):kvs.length<=sizeLine/\(a==sysModules)=aD/\∃vs,KV kvs vs/\h.DictOf (Zq P w) a vs:=
 let⟨ep,e⟩:=e;let⟨z,y,vs,r,d⟩:=(show Yc P w H h a (.dK kvs ep)from GC ok e);⟨z,y,vs,r,d.dictOf⟩
theorem BD{kvs:List (Key×V)}(ok:Cy P w H h)(e:HK H a kvs):kvs.length<=sizeLine/\(a==sysModules)=aD/\∃vs,KV kvs vs/\h.DictOf (Zq P w) a vs:=Ts ok e.rd
theorem Bb{ks:List Key}(ok:Cy P w H h)(e:H a=aA (.tup (ks.map kV))):(tupleKind (Zq P w)).is h ks a:=by
 obtain⟨_,mC,r,o,h1,h2,n,h3⟩:=(show Yc P w H h a (.tup (ks.map kV))from ok a _ e)
 exact⟨o,mC.toArray,n,h1,h2,h3,by simpa using Ir r⟩
theorem Iu{kvs:List (List Key×V)}(ok:Cy P w H h)(e:RdT H a kvs):kvs.length<=sizeLine/\(a==sysModules)=aD/\
  ∃xs,KT H kvs xs/\h.DictOfH (tupleKind (Zq P w)) a xs:=by
 obtain⟨ep,bs,e⟩:=e;obtain⟨z,y,xs,r,o,es,h1,h2,h3,h4,h5,_⟩:=(show Yc P w H h a (.dT kvs ep bs)from GC ok e)
 refine⟨z,y,xs,r,o,es,ep,h1,h2,h3,h4,λx hx=>?_,h5⟩;have all:∀{l:List (List Key×V)} {m:List (List Key×aq×aj)},KT H l m->∀x∈m,(tupleKind (Zq P w)).is h x.1 x.2.1:=by
  intro l m q;induction q with
  |nil=>intro x hx;exact nomatch hx
  | @cons p q ps qs hq t ih=>
   intro x hx;rcases ay.mp hx with e|hx
   .subst e;exact Bb ok (by rw[<-hq.1];exact hq.2.1)
   .exact ih x hx
 exact all r x hx
theorem vG{kvs:List (List Key×V)}(ok:Cy P w H h)(e:HTt H a kvs):kvs.length<=sizeLine/\(a==sysModules)=aD/\
  ∃xs,KT H kvs xs/\h.DictOfH (tupleKind (Zq P w)) a xs:=Iu ok e.rd
end
def O6(H:Hp)(a:aq)(y:V)(r:Option V):Prop:=
 (∃kvs k,RdK H a kvs/\y=kV k/\r=Qp kvs k)\/∃kvs k b,RdT H a kvs/\y= .ref b/\H b=aA (.tup (k.map kV))/\r=Qp kvs k
def K8(H:Hp)(a:aq)(y v:V)(R:Hp->Prop):Prop:=
 (∃kvs k,HK H a kvs/\y=kV k/\kvs.length<sizeLine/\∀ep,R (Yo H a (.dK (Qd kvs k v) ep)))\/
 ∃kvs k b,HTt H a kvs/\y= .ref b/\H b=aA (.tup (k.map kV))/\kvs.length<sizeLine/\∀ep V_ bs,H a=aA (.dT kvs V_ bs)->R (Yo H a (.dT (Qd kvs k v) ep (N3 kvs bs k b)))
theorem O6.k{H:Hp}{a:aq}{kvs:List (Key×V)}{k:Key}(e:HK H a kvs):O6 H a (kV k) (Qp kvs k):=.inl ⟨kvs,k,e.rd,rfl,rfl⟩
theorem O6.t{H:Hp}{a b:aq}{kvs:List (List Key×V)}{k:List Key}(e:HTt H a kvs)(eb:H b=aA (.tup (k.map kV))):O6 H a (.ref b) (Qp kvs k):=.inr ⟨kvs,k,b,e.rd,rfl,eb,rfl⟩
theorem K8.k{H:Hp}{a:aq}{kvs:List (Key×V)}{k:Key}{v:V}{R:Hp->Prop}(e:HK H a kvs)(hl:kvs.length<sizeLine)(h:∀ep,R (Yo H a (.dK (Qd kvs k v) ep))):K8 H a (kV k) v R:=.inl ⟨kvs,k,e,rfl,hl,h⟩
theorem K8.t{H:Hp}{a b:aq}{kvs:List (List Key×V)}{k:List Key}{v:V}{R:Hp->Prop}(e:HTt H a kvs)(eb:H b=aA (.tup (k.map kV)))(hl:kvs.length<sizeLine)(h:∀ep V_ bs,H a=aA (.dT kvs V_ bs)->R (Yo H a (.dT (Qd kvs k v) ep (N3 kvs bs k b)))):
  K8 H a (.ref b) v R:=.inr ⟨kvs,k,b,e,rfl,eb,hl,h⟩
section
variable{X:Cx}{n_:List (aq×Obj)}{σ:St}{H:Hp}{s:ao}{a:aq}{y v:V}{u r:aj}{o:Option V}{A:dh}{E:aj->ao->Prop}
theorem mE.big(I:mE X n_ σ H s):sysModules<s.heap.objs.size:=by have h:mainGlobals<s.heap.objs.size:=(I.mod.glob.keeps I.bk).lt;exact Nat.lt_trans (by decide) h
theorem oA{Q:aj->ao->Prop}(hu:A.units+1<fj)(I:mE X n_ σ H s)(g:O6 H a y (aA v))(ry:Zy y u)(h:∀w' s',mE X n_ σ H s'->Zy v w'->Q w' s'):
  bj (cf X.prog X.w) A (getItem (.ref a) u) Q E s:=by
 rcases g with⟨kvs,k,e,ey,l⟩|⟨kvs,k,b,e,ey,eb,l⟩
 .subst ey;obtain⟨z,hd,vs,ZP,dd⟩:=Ts I.hok e;obtain⟨w',hw,WO⟩:=Gf.some_of (v:=v) (o:=valueAt vs k) (by rw[l];exact ZP.val k);exact wpAny_getItem_of (Tr ry) dd.mapOf hw (h w' _ (I.tok _) WO)
 .subst ey;cases(show u=b8 b from ry);obtain⟨z,hd,xs,ZP,dd⟩:=Iu I.hok e;obtain⟨w',hw,WO⟩:=Gf.some_of (v:=v) (o:=(atKey xs k).map (·.2)) (by rw[l];exact ZP.val k);obtain⟨p,hp,SA⟩:=cq.mp hw;refine wpAny_getItem_heap (tupleKind_room_in1 hu) (Bb I.hok eb) dd hp ?_;rw[SA];exact h w' _ (I.tok _) WO
theorem rK{Q:aj->ao->Prop}(hu:A.units+1<fj)(I:mE X n_ σ H s)(g:O6 H a y o)(ry:Zy y u)(h:∀s',mE X n_ σ H s'->Q (.bool (!o.isSome)) s'):
  bj (cf X.prog X.w) A (compareOp .NotIn u (.ref a)) Q E s:=by
 rcases g with⟨kvs,k,e,ey,l⟩|⟨kvs,k,b,e,ey,eb,l⟩
 .subst ey;obtain⟨z,hd,vs,ZP,dd⟩:=Ts I.hok e;refine wpAny_notIn_of (Tr ry) hd dd.mapOf ?_;rw[<-(ZP.val k).isSome_eq,<-l];exact h _ (I.tok _)
 .subst ey;cases(show u=b8 b from ry);obtain⟨z,hd,xs,ZP,dd⟩:=Iu I.hok e;refine wpAny_notIn_heap (tupleKind_room_in1 hu) (Bb I.hok eb) hd dd ?_;have q:=(ZP.val k).isSome_eq;rw[Option.isSome_map]at q;rw[<-q,<-l];exact h _ (I.tok _)
theorem Mx{h':d6}{t':Nat}{ob:HO}(I:mE X n_ σ H s)(mu:Mut (H a))(hs:gm a s.heap h')(he:∃q,h'.get? a=aA q)(new:Yc X.prog X.w (Yo H a ob) h' a ob):
  mE X n_ σ (Yo H a ob) {s with heap:=h',toks:=t'}:=
 I.write (x:=a) (e:=a) mu (.inl rfl) (λb q hb z=>(hs.2 b hb).trans z) he new
theorem AM{P:cg}{w:c8}{h':d6}{kvs:List (Key×V)}{vs:List (Key×aj)}(z:kvs.length<=sizeLine)(hd:(a==sysModules)=aD)(ZP:KV kvs vs)(dd:h'.DictOf (Zq P w) a vs):
  ∃ep,∀H':Hp,Yc P w H' h' a (.dK kvs ep):=let⟨ep,dd⟩:=dd.dictAt;⟨ep,λ_=>⟨z,hd,vs,ZP,dd⟩⟩
theorem p_{R:Hp->Prop}{Q:Unit->ao->Prop}(hu:A.units+1<fj)(I:mE X n_ σ H s)(g:K8 H a y v R)(ry:Zy y u)(rv:Zy v r)(h:∀H' s',R H'->mE X n_ σ H' s'->Q () s'):
  bj (cf X.prog X.w) A (setItem (.ref a) u r) Q E s:=by
 rcases g with⟨kvs,k,e,ey,l,eH⟩|⟨kvs,k,b,e,ey,eb,l,eH⟩
 .subst ey;obtain⟨z,hd,vs,ZP,dd⟩:=BD I.hok e;have hz:vs.length<=sizeLine:=by rw[<-ZP.length];exact z
  have hl:(Qd kvs k v).length<=sizeLine:=by have:=Ba kvs k v;omega
  refine wpAny_setItem_pairs (hsz:=hz) (Tr ry) dd λh' UO hs=>?_;have he:∃q,h'.get? a=aA q:=let⟨q,_,_,hq,_⟩:=UO;⟨q,hq⟩
  obtain⟨ep,ok⟩:=AM hl hd (ZP.put k rv) UO;exact h _ _ (eH ep) (Mx I (by obtain⟨e0,e⟩:=e;rw[e];exact True.intro) hs he (ok _))
 .subst ey;cases(show u=b8 b from ry);obtain⟨z,hd,xs,ZP,dd⟩:=vG I.hok e;have hz:xs.length<=sizeLine:=by rw[<-Paired.length ZP];exact z
  have hl:(Qd kvs k v).length<=sizeLine:=by have:=Ba kvs k v;omega
  refine wpAny_setItem_heap (hsz:=hz) (tupleKind_room_in1 hu) (Bb I.hok eb) dd λh' UO hs=>?_;obtain⟨q,es,ep,hq,h2,h3,h4,_,h5⟩:=UO;obtain⟨e0,bs,e⟩:=e;have hb:(xs.map λx=>x.2.1)=bs:=by
   obtain⟨_,_,zG,r',_,_,w1,_,w3,w4,_,w6⟩:=(show Yc X.prog X.w H s.heap a (.dT kvs e0 bs)from I.hok a _ e)
   obtain⟨_,_,_,y1,_,y3,y4,_⟩:=dd;rw[w1]at y1;cases y1;rw[w3]at y3;cases y3;have:zG.map (λx=>x.2.1)=xs.map λx=>x.2.1:=by
    have z:=congrArg (List.map DictEntry.key) (w4.symm.trans y4);rw[cu,cu]at z;have inj:∀{l m:List (List Key×aq×aj)},l.map (DictEntry.key∘entryOfKey (tupleKind (Zq X.prog X.w)))=m.map (DictEntry.key∘entryOfKey (tupleKind (Zq X.prog X.w)))->(l.map λx=>x.2.1)=m.map λx=>x.2.1:=by
     intro l;induction l with
     |nil=>intro m z;cases m with
      |nil=>rfl
      |cons _ _=>cases z
     |cons x l ih=>intro m z;cases m with
      |nil=>cases z
      |cons y m=>rw[bm,bm]at z⊢;injection z with z1 z2;have MV:b8 x.2.1=b8 y.2.1:=z1;injection MV with MV;rw[MV,ih z2]
    exact inj z
   rw[<-this];exact w6
  have yf:((storedH xs k b r).map λx=>x.2.1)=N3 kvs bs k b:=by
   have ee:(kvs.any λkv=>decide (kv.1=k))=(atKey xs k).isSome:=by rw[Tq,(ZP.val k).isSome_eq,Option.isSome_map]
   unfold N3 storedH;rw[ee];by_cases qq:(atKey xs k).isSome=aC
   .rw[m6 qq,m6 qq,cu,<-hb];refine gr λx _=>?_;show(putAt k r x).2.1=x.2.1;unfold putAt;split<;> rfl
   .rw[m4 qq,m4 qq,ci,hb];rfl
  refine h _ _ (eH ep e0 bs e) (Mx I (by rw[e];exact True.intro) hs ⟨q,hq⟩ ⟨hl,hd,_,(ZP.put k eb rv).keeps λc ys ec=>?_,q,es,hq,h2,h3,h4,h5,yf⟩);rw[Zp (CY ec e (λz=>nomatch z))];exact ec
end
def IN(i:cw):Prop:=∀ov iv,subscripted i aD ov iv=operate [ov,iv] (getItem ov iv)
theorem Hb{prog:cg}{w:c8}{A:dh}{E:aj->ao->Prop}{s:ao}{env:Env}{value ZR:cw}{pos:Pos}{T id:String}{Q:aj->ao->Prop}
  (hl:typeLookup (.type T) "__getitem__"=pure (aA (.builtin id))) (hs:IN ZR)
  (h:bj (cf prog w) A (gg value env) (λo s₁=>bj (cf prog w) A (gg ZR env) (λi s₂=>s₂.TypeIs o T/\bj (cf prog w) A (getItem o i) Q E s₂) E s₁) E s):
  bj (cf prog w) A (gg (.Subscript value ZR pos) env) Q E s:=by
 refine Subscript_ (wpAny_mono h (λo s₁ h₁=>wpAny_mono h₁ (λi s₂ VB=>?_) λ_ _ x=>x) λ_ _ x=>x);obtain⟨hT,VB⟩:=VB;unfold subscriptTail;refine ab ?_;rw[getitemInPython_of_ne hT.not_modules];refine ab (wpAny_specialOf hT hl ?_);have fin:bj (cf prog w) A (subscripted ZR aD o i) (λr s₃=>bj (cf prog w) A (letTemporaryGo value o r >>=λ_=>pure r) Q E s₃) E s₂:=by rw[hs o i];exact wpAny_operating (wpAny_mono VB (λr s₃ UE=>ab (wpAny_letTemporaryGo (af UE))) λ_ _ x=>x)
 first
  |exact af (ab fin)
  |exact ab (af (ab fin))
  |exact ab fin
theorem N9{X:Cx}{n_:List (aq×Obj)}{σ:St}{H:Hp}{s:ao}{a:aq}{y:V}{o:Option V}(I:mE X n_ σ H s)(g:O6 H a y o):s.TypeIs (.ref a) "dict":=by
 rcases g with⟨kvs,k,e,_,_⟩|⟨kvs,k,b,e,_,_,_⟩
 .obtain⟨_,_,vs,_,dd⟩:=Ts I.hok e;exact dd.typeIs
 .obtain⟨_,_,xs,_,dd⟩:=Iu I.hok e;exact dd.typeIs
def vF(td ty:TE):TE:=λσ H Q=>td σ H λx H1=>ty σ H1 λy H2=>∃a v,x= .ref a/\O6 H2 a y (aA v)/\Q v H2
def BC(td ty tv:TE):TS:=λD σ H=>tv σ H λv H1=>td σ H1 λx H2=>ty σ H2 λy H3=>∃a,x= .ref a/\K8 H3 a y v (D.nx σ)
section
variable{X:Cx}{o i e value:cw}{pos XN YN:Pos}{td ty tv:TE}
theorem rJ(hu:X.A.units+1<fj)(ho:PE X o td)(hi:PE X i ty)(hs:IN i):PE X (.Subscript o i pos) (vF td ty):=by intro n_ s σ H Q I h;refine Hb PySem.F.slot_dict_getitem.lookup hs (Wl (ho n_ s σ H _ I h) λu s1 ⟨x,H1,I1,rx,q1⟩=>Wl (hi n_ s1 σ H1 _ I1 q1) λiv s2 ZG=>?_);obtain⟨y,H2,I2,ry,a,v,ex,g,q2⟩:=ZG;subst ex;obtain rfl:u=b8 a:=rx;exact⟨N9 I2 g,oA hu I2 g ry λw' s3 I3 WO=>⟨v,H2,I3,WO,q2⟩⟩
theorem sT(hu:X.A.units+1<fj)(ho:PE X o td)(hi:PE X i ty)(hv:PE X value tv)(hs:swapsWith value (aA (.Subscript o i XN)) pos.line X.env=pure aD):
  PS X (.Assign [.Subscript o i XN] value pos) (BC td ty tv):=by
 intro n_ s σ H D I h;refine wpAny_Assign_Subscript (Wl (hv n_ s σ H _ I h) λr s1 ⟨v,H1,I1,rv,q1⟩=>Wl (ho n_ s1 σ H1 _ I1 q1) λu s2 ⟨x,H2,I2,rx,q2⟩=>Wl (hi n_ s2 σ H2 _ I2 q2) λiv s3 ⟨y,H3,I3,ry,a,ex,g⟩=>?_) hs;subst ex;obtain rfl:u=b8 a:=rx;exact p_ hu I3 g ry rv λH4 s4 q3 I4=>⟨σ,H4,I4,q3⟩
end
theorem Pa{P:cg}{w:c8}{H:Hp}(h:d6)(hb:sysModules<h.objs.size):Yc P w H (h.push {cls:=.type "dict",data:=.dict #[]}) h.objs.size (.dK [] 0):=
 ⟨dk _,beq_eq_false_iff_ne.mpr (Ne.symm (cm hb)),[],.nil,_, #[],bo _ rfl,⟨rfl,rfl,rfl⟩,rfl,λ_ he=>by simp at he,Pairs.nil,cx⟩
theorem qy{P:cg}{w:c8}{H:Hp}(h:d6)(hb:sysModules<h.objs.size):Yc P w H (h.push {cls:=.type "dict",data:=.dict #[]}) h.objs.size (.dT [] 0 []):=
 ⟨dk _,beq_eq_false_iff_ne.mpr (Ne.symm (cm hb)),[],.nil,_, #[],bo _ rfl,⟨rfl,rfl,rfl⟩,rfl,rfl,cx,rfl⟩
def AL:TE:=λ_ H Q=>∀p,H p=aB->Q (.ref p) (Yo H p (.dK [] 0))
def AK:TE:=λ_ H Q=>∀p,H p=aB->Q (.ref p) (Yo H p (.dT [] 0 []))
section
variable{X:Cx}{pos:Pos}
theorem qx:PE X (.Dict [] [] pos) AL:=λn_ s σ H Q I h=>
 wpAny_Dict_empty ⟨.ref s.heap.objs.size,_,I.laid (a:=s.heap.objs.size) (o:=.dK [] 0) (t':=s.toks) (λ_ _ q=>ar _ q) (bc _) (Pa s.heap I.big),rfl,h _ (I.hok.fresh (bc _))⟩
theorem qw:PE X (.Dict [] [] pos) AK:=λn_ s σ H Q I h=>
 wpAny_Dict_empty ⟨.ref s.heap.objs.size,_,I.laid (a:=s.heap.objs.size) (o:=.dT [] 0 []) (t':=s.toks) (λ_ _ q=>ar _ q) (bc _) (qy s.heap I.big),rfl,h _ (I.hok.fresh (bc _))⟩
end
def Vk:List (TE×TE)->St->Hp->(List (V×V)->Hp->Prop)->Prop
  | [],_,H,Q=>Q [] H
  | (tk,tv)::r,σ,H,Q=>tk σ H λx H1=>tv σ H1 λy H2=>Vk r σ H2 λps H3=>Q ((x,y)::ps) H3
abbrev VV:List (V×V)->List (aj×aj)->Prop:=Paired λp q=>Zy p.1 q.1/\Zy p.2 q.2
def PPs(X:Cx)(pos:Pos)(keys:List (Option cw))(YL:List cw)(UA:List (TE×TE)):Prop:=
 ∀(n_:List (aq×Obj)) (s:ao) (σ:St) (H:Hp) (Q:List (V×V)->Hp->Prop),mE X n_ σ H s->Vk UA σ H Q->
  bj (cf X.prog X.w) X.A (evalPairs (pairTrees keys YL X.env pos)) (λvs s'=>∃ps H',mE X n_ σ H' s'/\VV ps vs/\Q ps H') X.xe s
theorem sS{X:Cx}{pos:Pos}:PPs X pos [] [] []:=λn_ s σ H Q I h=>pairTrees_nil_walk ⟨[],H,I,.nil,h⟩
theorem qv{X:Cx}{pos:Pos}{k v:cw}{ks:List (Option cw)}{vs:List cw}{tk tv:TE}{UA:List (TE×TE)}(hk:PE X k tk)(hv:PE X v tv)(hr:PPs X pos ks vs UA):
  PPs X pos (aA k::ks) (v::vs) ((tk,tv)::UA):=λn_ s σ H Q I h=>
 pairTrees_cons_walk (Wl (hk n_ s σ H _ I h) λu s1 ⟨x,H1,I1,rx,q1⟩=>Wl (hv n_ s1 σ H1 _ I1 q1) λw2 s2 ⟨y,H2,I2,ry,q2⟩=>
  Wl (hr n_ s2 σ H2 _ I2 q2) λws s3 ⟨ps,H3,I3,ZP,q3⟩=>⟨(x,y)::ps,H3,I3,.cons ⟨rx,ry⟩ ZP,q3⟩)
def Oa(kvs more:List (Key×V)):List (Key×V):=more.foldl (λacc kv=>Qd acc kv.1 kv.2) kvs
theorem KV.merge:∀{more:List (Key×V)} {rs:List (Key×aj)} {kvs:List (Key×V)} {vs:List (Key×aj)},KV more rs->KV kvs vs->KV (Oa kvs more) (merged vs rs):=by
 intro more rs kvs vs r;unfold KV at r;induction r generalizing kvs vs with
 |nil=>intro q;exact q
 | @cons p q ps qs h t ih=>
  intro r0;have e:KV (Qd kvs p.1 p.2) (stored vs q.1 q.2):=by have:=r0.put p.1 h.2;rw[<-h.1];exact this
  exact ih e
theorem Co:∀(more kvs:List (Key×V)),(Oa kvs more).length<=kvs.length+more.length
 | [],kvs=>by show kvs.length<=kvs.length+0;omega
 |p::r,kvs=>by have h1:=Co r (Qd kvs p.1 p.2);have h2:=Ba kvs p.1 p.2;show(Oa (Qd kvs p.1 p.2) r).length<=_;rw[bh];omega
theorem Tt{P:cg}{w:c8}:∀{kvs:List (Key×V)} {ws:List (aj×aj)},VV (kvs.map λkv=>(kV kv.1,kv.2)) ws->∃rs,Carries (Zq P w) ws rs/\KV kvs rs
 | [],_,r=>by rw[List.map_nil]at r;cases r;exact⟨[],True.intro,.nil⟩
 |p::kvs,_,r=>by
  rw[bm]at r;cases r with
  | @cons a b as bs h t=>obtain⟨rs,c,q⟩:=Tt (P:=P) (w:=w) t;obtain⟨b1,b2⟩:=b;exact⟨(p.1,b2)::rs,⟨Tr h.1,rfl,c⟩,.cons ⟨rfl,h.2⟩ q⟩
structure M1(X:Cx)(o:cw)(m:Str)(ZF:Pos)(e:cw)(ZC:Pos):Prop where
 base:attributeBase o m X.env (gg o X.env)=gg o X.env
 few:((gb ZC (az [e] X.env)).all (λx=>!x.1)&&(backToKw ZC (keywordEach [] X.env)).all (λx=>x.1.isSome)
  &&decide (([e]:List cw).length+([]:List Keyword).length+(if([]:List Keyword).isEmpty then 0 else 1)<30))=aC
 line:(ZF.endLine==ZC.line)=aC
 trees:gb ZC (az [e] X.env)=[(aD,gg e X.env)]
structure M2(X:Cx)(o:cw)(m:Str)(ZF:Pos)(e f:cw)(ZC:Pos):Prop where
 base:attributeBase o m X.env (gg o X.env)=gg o X.env
 few:((gb ZC (az [e,f] X.env)).all (λx=>!x.1)&&(backToKw ZC (keywordEach [] X.env)).all (λx=>x.1.isSome)
  &&decide (([e,f]:List cw).length+([]:List Keyword).length+(if([]:List Keyword).isEmpty then 0 else 1)<30))=aC
 line:(ZF.endLine==ZC.line)=aC
 trees:gb ZC (az [e,f] X.env)=[(aD,gg e X.env),(aD,gg f X.env)]
def IsD(H:Hp)(a:aq):Prop:=(∃kvs,RdK H a kvs)\/∃kvs,RdT H a kvs
section
variable{X:Cx}{n_:List (aq×Obj)}{σ:St}{H:Hp}{s:ao}{a:aq}{y d:V}{u r:aj}{o:Option V}{A:dh}{E:aj->ao->Prop}
theorem uK{Q:aj->ao->Prop}(hu:A.units+1<fj)(I:mE X n_ σ H s)(g:O6 H a y o)(ry:Zy y u)(h:∀w' s',mE X n_ σ H s'->Zy (o.getD .non) w'->Q w' s'):
  bj (cf X.prog X.w) A (call (.builtin "dict.get") [.ref a,u]) Q E s:=by
 rcases g with⟨kvs,k,e,ey,l⟩|⟨kvs,k,b,e,ey,eb,l⟩
 .subst ey;obtain⟨z,hd,vs,ZP,dd⟩:=Ts I.hok e;refine call_meetsIn PySem.F.slot_dict_get dd.typeIs PySem.F.entry_dict_get (PySem.F.args_dict_get_2 _ _) (meets_dict_get (Zq X.prog X.w) a (Tr ry) hd) ⟨_,dd.mapOf,h _ _ (I.tok _) ?_⟩;rw[l];exact(ZP.val k).getD rfl
 .subst ey;cases(show u=b8 b from ry);obtain⟨z,hd,xs,ZP,dd⟩:=Iu I.hok e;refine call_meetsIn PySem.F.slot_dict_get dd.typeIs PySem.F.entry_dict_get (PySem.F.args_dict_get_2 _ _) (meetsH_dict_get (tupleKind (Zq X.prog X.w)) a b hd) ⟨tupleKind_room_in1 hu,k,xs,Bb I.hok eb,dd,h _ _ (I.tok _) ?_⟩;rw[l];exact(ZP.val k).getD rfl
theorem uJ{Q:aj->ao->Prop}(hu:A.units+1<fj)(I:mE X n_ σ H s)(g:O6 H a y o)(ry:Zy y u)(rd:Zy d r)(h:∀w' s',mE X n_ σ H s'->Zy (o.getD d) w'->Q w' s'):
  bj (cf X.prog X.w) A (call (.builtin "dict.get") [.ref a,u,r]) Q E s:=by
 rcases g with⟨kvs,k,e,ey,l⟩|⟨kvs,k,b,e,ey,eb,l⟩
 .subst ey;obtain⟨z,hd,vs,ZP,dd⟩:=Ts I.hok e;refine call_meetsIn PySem.F.slot_dict_get dd.typeIs PySem.F.entry_dict_get (PySem.F.args_dict_get_3 _ _ _) (meets_dict_get_default (Zq X.prog X.w) a (Tr ry) hd r) ⟨_,dd.mapOf,h _ _ (I.tok _) ?_⟩;rw[l];exact(ZP.val k).getD rd
 .subst ey;cases(show u=b8 b from ry);obtain⟨z,hd,xs,ZP,dd⟩:=Iu I.hok e;refine call_meetsIn PySem.F.slot_dict_get dd.typeIs PySem.F.entry_dict_get (PySem.F.args_dict_get_3 _ _ _) (meetsH_dict_get_default (tupleKind (Zq X.prog X.w)) a b hd r) ⟨tupleKind_room_in1 hu,k,xs,Bb I.hok eb,dd,h _ _ (I.tok _) ?_⟩;rw[l];exact(ZP.val k).getD rd
end
end L2
namespace Att
open PySem.W PySem.Calls
theorem Mp{P:Params}{h:d6}:∀(ns:List Int) (vs:List aj),WellAll P h vs (ns.map WData.int)->IntsAre vs ns:=by
 intro ns;induction ns with
 |nil=>intro vs w;rw[List.map_nil]at w;cases w;exact .nil
 |cons n ns ih=>
  intro vs w;rw[bm]at w;cases w with
  |cons a b=>cases a;exact .cons _ _ (ih _ b)
theorem p9{l:OpenLaw}{n:Nat}(hn:l.most=aA n){P:Params}{h:d6}{args:List WData}{TN:List aj}
  (ZQ:l.row.toRowW.claim.pre args=aC) (NH:WellAll P h TN args):
  ∃a vs ns,TN=[b8 a]/\args=[WData.list (ns.map WData.int)]/\h.get? a=aA {cls:=.type "list",data:=.seq vs.toArray}/\IntsAre vs ns/\ns.length<=n:=by
 have yF:WShape.hasAll [] args [.list .int]=aC:=(pre_splitW ZQ).1;have hc:l.pre.holds [] {args:=args}=aC:=(pre_splitW ZQ).2;obtain⟨d,r,rfl,h1,h2⟩:=hasAllW_cons yF;obtain rfl:=hasAllW_nil h2;obtain⟨xs,rfl,h3⟩:=hasW_list h1;obtain⟨ns,rfl⟩:=items_int h3;have hlen:ns.length<=n:=by
  unfold OpenLaw.pre at hc;have h4:(WTm.not (.lt (.lit (.int (n:Int))) (.len (.arg 0)))).holds [] {args:=[.list (ns.map .int)]}=aC:=by have h4:=(holds_andW hc).1;rw[hn]at h4;exact h4
  have h5:=condW_of h4 (w_not (w_lt w_lit (w_len_list (w_arg rfl))));rw[ah]at h5;refine Nat.le_of_not_lt λq=>?_;have q':(n:Int)<((ns.length:Nat):Int):=by omega
  first
   | (rw[m8 q']at h5;exact m_ h5 (by decide))
   | (simp at h5;omega)
 cases NH with
 |cons w1 w2=>
  cases w2;cases w1 with
  |list ho hall=>exact⟨_,_,ns,rfl,rfl,ho,Mp ns _ hall,hlen⟩
theorem p8(l:OpenLaw)(args:List WData):l.row.toRowW.claim.post args (.bool aC) args=aC:=
 postW_of (r:=l.row.toRowW) (X:=(aC==aC))
  (show WShape.has [] (.bool aC) .bool=aC by first|rfl|decide|simp[WShape.has,WShape.arms,WShape.armsAll])
  (show(WTm.eq .res (.lit (.bool aC))).value [] {args:=args,res:=aA (.bool aC),after:=args}=aA (.bool (aC==aC))from w_eq_bool (w_res rfl) w_lit) rfl
theorem attach_call{l:OpenLaw}{n:Nat}{q:cg}{YC:List Str}{XP:(Str->Option aj)->d6->Prop}{YP:c8->d6->Prop}{d:DefRec}
  (hn:l.most=aA n) (SN:d.params.defaults=[])
  (call:∀(w:c8) (s₀ s₁:ao) (mg mb:Str->Option aj) (fa:aq) (o:Obj) (pm cd YJ:aj) (a:aq) (vs:List aj) (ns:List Int),
   Ground q YC [] XP w s₀ mg mb s₁.heap->YP w s₁.heap->
   s₁.heap.get? fa=aA o->o.data= .func (docDef d.name d.params d.body d.scope pm cd YJ)->s₁.heap.CodeRec cd d.name->mg d.name=aA (.ref fa)->
   s₁.heap.get? a=aA {cls:=.type "list",data:=.seq vs.toArray}->IntsAre vs ns->ns.length<=n->s₁.gens= #[]->
   codeAny (cf l.prog w) callerA (.call (.ref fa) ⟨[.ref a],[]⟩) (λr s'=>r= .ok (.ret (.bool aC))/\OldK s₁.heap s'.heap/\s'.os=s₁.os/\AllBare s'.gens) s₁):
  WalkO q YC XP YP l.row.toRowW d [] (λf vs=>PySem.call f vs):=by
 intro w s₀ s₁ mg mb G Y fa o pm cd YJ dV kV ho hd YD hD KW hg args TN as ZQ hlay hrd NH KY;obtain rfl:dV= .none:=Dflts.none hD SN;obtain rfl:kV= .none:=Dflts.noKw hD;obtain⟨a,vs,ns,rfl,rfl,SF,VH,hlen⟩:=p9 hn ZQ NH;refine enter_call (codeAny_mono (call w s₀ s₁ mg mb fa o pm cd YJ a vs ns G Y ho (fd_plain hd) YD KW SF VH hlen hg) λr s' hq=>?_);obtain⟨rfl,h2,h3,h4⟩:=hq;exact⟨.inl ⟨.bool aC,.bool aC,[],rfl,λ_=>rfl,.bool aC,p8 l _,λ_=>⟨List.Pairwise.nil,λ_ hm=>(nomatch hm)⟩⟩,h2,h3,h4⟩
end Att
namespace L2
theorem Iv:∀{vs:List aj} {ns:List Int},IntsAre vs ns->Z1 (ns.map V.int) vs
 |_,_,.nil=>.nil
 |_,_,.cons n t h=>.cons ⟨t,rfl⟩ (Iv h)
def ML(H:Hp):Prop:=∀b,H b=aB\/∃o xs,H b=aA (.frz o (.lst xs))
theorem pH {P : cg} {w : c8} {K : ad} {mg mb : Str -> Option aj} {CX : CXT} {k : Nat} {fa a : aq} {fd : FuncData} {x : Str} {sp : Sp} {s₁ : ao} {vs : List aj} {ns : List Int}
    (KX : K.In s₁.heap) (VW : s₁.heap.Ns mainGlobals mg) (hb : s₁.heap.Ns builtinsNs mb) (hbb : ∀ x : Str, x ≠ "__name__" -> mb x = bootBuiltins x) (hlim : s₁.heap.NoLimit) (hg : s₁.gens = #[])
    (ha : s₁.heap.get? a = aA { cls := .type "list", data := .seq vs.toArray }) (hi : IntsAre vs ns) (hl : ns.length <= sizeLine) (hr : mO k callerA)
    (F : ∀ base : d6, K.In base -> base.Ns mainGlobals mg -> FnOk P w K mg base CX k fa fd [x] sp) (hbind : ∀ (s : ao) (u : aj), BindsTo s fd ⟨[u], []⟩ [(x, u)])
    (VT : ∀ H : Hp, ML H -> J3 K H a (ns.map V.int) -> sp [.ref a] H (λv _ => v = .bl aC) λ_ _ _ => False)
    (PR : ∀ H e s', CX [] H s₁ (λ_ _ _ => False) e s' -> False) :
    codeAny (cf P w) callerA (.call (.ref fa) ⟨[.ref a], []⟩) (λr s' => r = .ok (.ret (.bool aC)) /\ OldK s₁.heap s'.heap /\ s'.os = s₁.os /\ AllBare s'.gens) s₁ := by
  have rv := Iv hi;have lenV := hi.length
  -- from an abstract heap in which nothing but the script may be YZ
  have PX : ∀ H : Hp, ML H -> J3 K H a (ns.map V.int) -> Cy P w H s₁.heap -> (∀ b, H b ≠ aB -> b = a) -> (H a ≠ aB -> K.lookup a = aB) ->
      codeAny (cf P w) callerA (.call (.ref fa) ⟨[.ref a], []⟩) (λr s' => r = .ok (.ret (.bool aC)) /\ OldK s₁.heap s'.heap /\ s'.os = s₁.os /\ AllBare s'.gens) s₁ := by
    intro H hO hS hok hA hK;have WM : ∀ {b : aq} {o : Obj}, s₁.heap.get? b = aA o -> H b = aB -> (Kq s₁.heap H).get? b = aA o := λe n => pi e n;have QG : ∀ {b : aq} {o : Obj} {es : Array DictEntry} {ep : Nat}, s₁.heap.get? b = aA o -> o.data = .dict es ep -> H b = aB := λ{b o es ep} e d => by
      cases q : H b with
      | none => rfl
      | some u =>have e' : b = a := hA b (by rw [q]; simp);subst e';rw [ha] at e; cases e;have d' : Data.seq vs.toArray _ = Data.dict es ep := d;cases d'
    have O_ : ∀ {b : aq} {m : Str -> Option aj}, s₁.heap.Ns b m -> (Kq s₁.heap H).Ns b m := λ{b m} ⟨o, es, ep, e, d, r⟩ => ⟨o, es, ep, WM e (QG e d), d, r⟩
    have EM : K.In (Kq s₁.heap H) := λb o e => WM (KX b o e) (by
      cases q : H b with
      | none => rfl
      | some u =>
        have e' : b = a := hA b (by rw [q]; simp);subst e';rw [hK (by rw [q]; simp)] at e; cases e)
    have hM : Mod K mg (Kq s₁.heap H) := ⟨EM, O_ VW, ⟨mb, O_ hb, hbb⟩, let ⟨mc, h1, h2⟩ := hlim; ⟨mc, O_ h1, h2⟩⟩
    have e0 : Env0 P w K mg (Kq s₁.heap H) callerA [] s₁ H := ⟨rfl, hM, λb o e => rE e, Nat.le_of_eq (oH _ _), trivial, λb hb => m_ (show b ∈ ([] : List aq) from hb) (by simp), hok, .of_eq hg⟩
    refine codeAny_mono ((F _ EM (O_ VW)).run callerA [] s₁ H ⟨[.ref a], []⟩ [.ref a] [.ref a] _ _ hr e0 (hbind s₁ (.ref a)) (.cons rfl .nil) (VT H hO hS)) λr s' h => ?_;cases r with
    | error e => exact (PR H e s' h).elim
    | ok fl =>
      cases fl with
      | next => exact False.elim h
      | brk => exact False.elim h
      | cont => exact False.elim h
      | ret u =>
        obtain ⟨v, H', os, bare, un, hok', r', q⟩ := h;have q' : v = .bl aC := q;subst q';obtain rfl : u = Value.bool aC := r';refine ⟨rfl, OldK.of_keep λb o e => ?_, os, bare⟩;cases q : H b with
        | none => exact un.keep b o e q (by intro z; exact m_ (show b ∈ ([] : List aq) from z) (by simp)) (by simp)
        | some u =>
          rcases hO b with z | ⟨ob, xs, z⟩
          · rw [q] at z; cases z
          · have z2 := un.frzs b ob _ z
            obtain ⟨e1, _⟩ := hok b _ z;obtain ⟨e2, _⟩ := hok' b _ z2;rw [e] at e1; cases e1;exact e2
  cases hk : K.lookup a with
  | some o =>
    -- the script is one of the module's own objects
    have e := KX a o hk;rw [ha] at e;cases e;refine PX (λ_ => aB) (λ_ => .inl rfl) (.inr ⟨_, vs.toArray, _, hk, rfl, rfl, rfl, by rw [bv, lenV]; exact hl, by simpa using rv⟩) (λb u z => by have z' : (aB : Option HO) = aA u := z; cases z') (λb z => m_ rfl z) λz => m_ rfl z
  | none =>
    refine PX (λb => if b = a then aA (.frz { cls := .type "list", data := .seq vs.toArray } (.lst (ns.map V.int))) else aB) (λb => ?_) (.inl (.inr ⟨{ cls := .type "list", data := .seq vs.toArray }, m6 rfl⟩)) (λb u z => ?_) (λb z => ?_) λ_ => hk
    · by_cases hb : b = a
      · exact .inr ⟨_, _, m6 hb⟩
      · exact .inl (m4 hb)
    · by_cases hb : b = a
      · have z' := (m6 hb).symm.trans z
        cases z';subst hb;exact ⟨ha, by rw [ah]; exact hl, vs, _, rv, ha⟩
      · have z' := (m4 hb).symm.trans z
        cases z'
    · by_cases hb : b = a
      · exact hb
      · exact m_ (m4 hb) z
theorem sR{l:PySem.W.OpenLaw}{n k:Nat}{q:cg}{YC:List Str}{XP:(Str->Option aj)->d6->Prop}{YP:c8->d6->Prop}{d:DefRec}{K:Params->ad}{CX:c8->CXT}{sp:c8->Sp}{x:Str}
  (hn:l.most=aA n) (NJ:n<=sizeLine) (SN:d.params.defaults=[]) (hr:mO k callerA)
  (hY:∀(w:c8) (h:d6),YP w h->(K w.params).In h)
  (F:∀(w:c8) (mg:Str->Option aj) (fa:aq) (h:d6),(K w.params).In h->h.Ns mainGlobals mg->mg d.name=aA (.ref fa)->
   ∃fd:FuncData,(∀(s:ao) (u:aj),BindsTo s fd ⟨[u],[]⟩ [(x,u)])/\
    ∀base:d6,(K w.params).In base->base.Ns mainGlobals mg->FnOk l.prog w (K w.params) mg base (CX w) k fa fd [x] (sp w))
  (VT:∀(w:c8) (H:Hp) (a:aq) (ns:List Int),ns.length<=n->ML H->J3 (K w.params) H a (ns.map V.int)->sp w [.ref a] H (λv _=>v= .bl aC) λ_ _ _=>False)
  (PR:∀(w:c8) (H:Hp) (s:ao) (e:aj) (s':ao),CX w [] H s (λ_ _ _=>False) e s'->False):
  PySem.W.WalkO q YC XP YP l.row.toRowW d [] (λf vs=>PySem.call f vs):=by
 refine Att.attach_call hn SN λw s₀ s₁ mg mb fa o pm cd YJ a vs ns G Y ho hd YD KW SF VH hlen hg=>?_;have KX:=hY w _ Y;obtain⟨fd,hb,hF⟩:=F w mg fa _ KX G.T.g KW;exact pH KX G.T.g G.T.b G.T.builtins G.T.nolimit hg SF VH (ga hlen NJ) hr hF hb (λH hO hS=>VT w H a ns hlen hO hS) λH e s'=>PR w H s₁ e s'
theorem pG{l:PySem.W.OpenLaw}{n k:Nat}{q:cg}{YC:List Str}{XP:(Str->Option aj)->d6->Prop}{YP:c8->d6->Prop}{d:DefRec}{K:Params->ad}{CX:CXT}{sp:ad->Sp}{x:Str}
  (hn:l.most=aA n) (NJ:n<=sizeLine) (SN:d.params.defaults=[]) (hr:mO k callerA)
  (hY:∀(w:c8) (h:d6),YP w h->(K w.params).In h)
  (F:∀(w:c8) (mg:Str->Option aj) (fa:aq) (h:d6),(K w.params).In h->h.Ns mainGlobals mg->mg d.name=aA (.ref fa)->
   ∃fd:FuncData,(∀(s:ao) (u:aj),BindsTo s fd ⟨[u],[]⟩ [(x,u)])/\
    ∀base:d6,(K w.params).In base->base.Ns mainGlobals mg->FnOk l.prog w (K w.params) mg base CX k fa fd [x] (sp (K w.params)))
  (VT:∀(K:ad) (H:Hp) (a:aq) (ns:List Int),ns.length<=n->ML H->J3 K H a (ns.map V.int)->sp K [.ref a] H (λv _=>v= .bl aC) λ_ _ _=>False)
  (PR:∀(H:Hp) (s:ao) (e:aj) (s':ao),CX [] H s (λ_ _ _=>False) e s'->False):
  PySem.W.WalkO q YC XP YP l.row.toRowW d [] (λf vs=>PySem.call f vs):=
 sR (K:=K) (CX:=λ_=>CX) (sp:=λw=>sp (K w.params)) hn NJ SN hr hY F (λw H a ns h1 h2 h3=>VT (K w.params) H a ns h1 h2 h3) λ_ H s e s'=>PR H s e s'
noncomputable def B7(s:Stmt):Arguments:=match s with
 | .FunctionDef _ a _ _ _ _ _ _ _ _=>a
 |_=>{posonlyargs:=[],args:=[],vararg:=aB,kwonlyargs:=[],kw_defaults:=[],kwarg:=aB,defaults:=[]}
noncomputable def Uc(s:Stmt):List Stmt:=match s with
 | .FunctionDef _ _ b _ _ _ _ _ _ _=>b
 |_=>[]
noncomputable def Y5(s:Stmt):Scope:=match s with
 | .FunctionDef _ _ _ _ _ _ sc _ _ _=>sc
 |_=>{kind:=.function,names:=[],isGenerator:=aD,isCoroutine:=aD}
abbrev Rn:CXT:=λ_ _ _ _ _ _=>False
abbrev E0:XK:=λ_ _ _=>False
theorem GI{X:Cx}:Vd Rn X E0:=λ_ _ _ _ _ _ _ h=>h.elim
structure Fun(K:ad)(x qual:Str)(st:Stmt)(f:aq)(fd:FuncData):Prop where
 ex:∃(oc:aj) (od:Option aq) (kV YJ pm:aj) (an:Option aq) (ZS ct:aj) (VA:Array (Option aj)),
  fd=PySem.W.fnOf x qual (B7 st) (Uc st) (Y5 st) .none kV YJ pm an ZS ct/\K.lookup f=aA ⟨oc,od,.func fd,VA⟩/\PySem.W.codeIn K ZS qual=aC
 kp:PySem.W.keepIn K (.ref f)=aC
section
variable{P:cg}{w:c8}{K:ad}{mg:Str->Option aj}{base:d6}
theorem Fun.ok{x qual:Str}{st:Stmt}{f:aq}{fd:FuncData}{N ps:List Str}{k:Nat}{sp:Sp}(F:Fun K x qual st f fd)(S:FnScope N ps (Y5 st))(len:∀vs H Q E,sp vs H Q E->vs.length=ps.length)
  (VM:∀(ZS:aj) (A:dh) (outer:List Env) (s:ao) (H:Hp) (vs:List V) (Q:VK) (E:XK),mO k (A.deeper (envOfC qual (Y5 st) s.heap.objs.size f ZS))->sp vs H Q E->
   ∃t,Gd (Ve Rn P w K mg base N qual (Y5 st) f ZS A outer s H E).nox (Uc st) t/\t {nx:=λ_ H'=>Q .non H',rt:=Q} (O5 N vs) H):FnOk P w K mg base Rn (k+1) f fd ps sp:=by
 obtain⟨oc,od,kV,YJ,pm,an,ZS,ct,VA,rfl,lk,YD⟩:=F.ex;refine wy lk YD S len λA outer s H vs Q E hr VT=>?_;obtain⟨t,h,q⟩:=VM ZS A outer s H vs Q E hr VT;exact⟨t,h.nox,q⟩
theorem Fun.binds{x qual:Str}{st:Stmt}{f:aq}{fd:FuncData}{ps:List Str}(F:Fun K x qual st f fd)
  (h:∀(kV YJ pm:aj) (an:Option aq) (ZS ct:aj) (us:List aj),us.length=ps.length->bindArgs (PySem.W.fnOf x qual (B7 st) (Uc st) (Y5 st) .none kV YJ pm an ZS ct) ⟨us,[]⟩=pure (ps.zip us)):Tn K fd ps []:=by
 obtain⟨oc,od,kV,YJ,pm,an,ZS,ct,VA,rfl,lk,YD⟩:=F.ex;exact .all (h kV YJ pm an ZS ct)
theorem nv{x qual:Str}{st:Stmt}{f:aq}{oc:aj}{od an:Option aq}{VA:Array (Option aj)}{kV YJ pm ZS ct:aj}(l:K.lookup f=aA ⟨oc,od,.func (PySem.W.fnOf x qual (B7 st) (Uc st) (Y5 st) .none kV YJ pm an ZS ct),VA⟩)
  (c:PySem.W.codeIn K ZS qual=aC) (k:PySem.W.keepIn K (.ref f)=aC):Fun K x qual st f (PySem.W.fnOf x qual (B7 st) (Uc st) (Y5 st) .none kV YJ pm an ZS ct):=⟨⟨oc,od,kV,YJ,pm,an,ZS,ct,VA,rfl,l,c⟩,k⟩
end
theorem vE{A:dh}{k:Nat}(hr:mO k A):A.units+1<cLine:=Nat.lt_of_le_of_lt (Nat.add_le_add_left (by decide:1<=64) _) hr.units
def Zi(H H':Hp):Prop:=∀b o,H b=aA o->H' b=aA o
theorem Zi.refl(H:Hp):Zi H H:=λ_ _ h=>h
theorem Zi.trans{H H1 H2:Hp}(a:Zi H H1)(b:Zi H1 H2):Zi H H2:=λc o h=>b c o (a c o h)
theorem Zi.free{H H':Hp}(e:Zi H H'){l:aq}(h:H' l=Option.none):H l=Option.none:=by
 cases q:H l with
 |none=>rfl
 |some o=>rw[e l o q]at h;cases h
theorem PE.imp{X:Cx}{e:cw}{t t':TE}(h:PE X e t)(w:∀σ H Q,t' σ H Q->t σ H Q):PE X e t':=λn_ s σ H Q I q=>h n_ s σ H Q I (w σ H Q q)
theorem PT.imp{X:Cx}{e:cw}{t t':TT}(h:PT X e t)(w:∀σ H Q,t' σ H Q->t σ H Q):PT X e t':=λn_ s σ H Q I q=>h n_ s σ H Q I (w σ H Q q)
theorem PW.imp{X:Cx}{e:cw}{t t':TT}(h:PW X e t)(w:∀σ H Q,t' σ H Q->t σ H Q):PW X e t':=λwh n_ s σ H Q I q=>h wh n_ s σ H Q I (w σ H Q q)
theorem PA.imp{X:Cx}{e:List cw}{t t':TA}(h:PA X e t)(w:∀σ H Q,t' σ H Q->t σ H Q):PA X e t':=λpos n_ s σ H Q I q=>h pos n_ s σ H Q I (w σ H Q q)
theorem PS.imp{X:Cx}{e:Stmt}{t t':TS}(h:PS X e t)(w:∀D σ H,t' D σ H->t D σ H):PS X e t':=λn_ s σ H D I q=>h n_ s σ H D I (w D σ H q)
theorem Gd.imp{X:Cx}{e:List Stmt}{t t':TS}(h:Gd X e t)(w:∀D σ H,t' D σ H->t D σ H):Gd X e t':=λn_ s σ H D I q=>h n_ s σ H D I (w D σ H q)
theorem PG.imp{X:Cx}{e:cw}{t t':TG}(h:PG X e t)(w:∀v σ H Q,t' v σ H Q->t v σ H Q):PG X e t':=λn_ s σ H v u Q I r q=>h n_ s σ H v u Q I r (w v σ H Q q)
theorem PGs.imp{X:Cx}{e:List cw}{t t':TGs}(h:PGs X e t)(w:∀v σ H Q,t' v σ H Q->t v σ H Q):PGs X e t':=λn_ s σ H vs us Q I r q=>h n_ s σ H vs us Q I r (w vs σ H Q q)
theorem PI.imp{X:Cx}{tg e:cw}{t t':TI}(h:PI X tg e t)(w:∀σ H R,t' σ H R->t σ H R):PI X tg e t':=λn_ s σ H R I q=>h n_ s σ H R I (w σ H R q)
noncomputable def Mq(cells:List (Str×aq)):List (Str×NameKind)->List (Str×aq)->List (Str×aq)
 | [],cs=>cs
 | (n,k)::r,cs=>Mq cells r (if k= .free then(n,(cells.lookup n).getD 0)::cs else cs)
theorem Cz{env:Env}:∀(names:List (Str×NameKind)) (cs:List (Str×aq)),(∀y∈names,y.2= .free->∃c,env.cells.lookup y.1=aA c)->
    (forIn names cs (λx r=>if(x.2==g6)=aC then do let a<-cellOf env x.1;pure (ForInStep.yield ((x.1,a)::r))else pure (ForInStep.yield r)):Sem (List (Str×aq)))=pure (Mq env.cells names cs)
  | [],cs,_=>by rw[List.forIn_nil];rfl
  | (n,k)::r,cs,h=>by
    rw[List.forIn_cons];by_cases hk:k= .free
    · obtain⟨c,hc⟩:=h (n,k) ac hk
      subst hk;have e1:cellOf env n=pure c:=by unfold cellOf;rw[hc]
      show((if(g6==g6)=aC then(cellOf env n >>=λa=>pure (ForInStep.yield ((n,a)::cs)))else pure (ForInStep.yield cs)) >>=λs=>_)=_;rw[m6 (show(g6==g6)=aC by decide),e1];show(forIn r ((n,c)::cs) _:Sem (List (Str×aq)))=_;rw[Cz r _ λy hy=>h y (am _ hy)];show _=pure (Mq env.cells r (if g6=g6 then(n,(env.cells.lookup n).getD 0)::cs else cs));rw[m6 rfl,hc];rfl
    · have hb:(k==g6)=aD:=by simpa using hk
      show((if(k==g6)=aC then(cellOf env n >>=λa=>pure (ForInStep.yield ((n,a)::cs)))else pure (ForInStep.yield cs)) >>=λs=>_)=_;rw[hb,m4 bq];show(forIn r cs _:Sem (List (Str×aq)))=_;rw[Cz r _ λy hy=>h y (am _ hy)];show _=pure (Mq env.cells r (if k=g6 then _ else cs));rw[m4 hk]
theorem Cp{scope:Scope}{env:Env}(h:∀y∈scope.names,y.2= .free->∃c,env.cells.lookup y.1=aA c):closureFor scope env=pure (Mq env.cells scope.names []):=by simp only[closureFor];rw[Cz scope.names [] h];rfl
theorem Pb{cells:List (Str×aq)}{x:Str}{c:aq}:∀{names:List (Str×NameKind)} {cs:List (Str×aq)},(∀y∈names,y.2= .free->∃c,cells.lookup y.1=aA c)->
    (cs.lookup x=aA c->cells.lookup x=aA c)->(Mq cells names cs).lookup x=aA c->cells.lookup x=aA c
  | [],_,_,h0,e=>h0 e
  | (n,k)::r,cs,h,h0,e=>by
    refine Pb (names:=r) (λy hy=>h y (am _ hy)) ?_ e;intro e';by_cases hk:k= .free
    · rw[m6 hk]at e'
      obtain⟨c',hc⟩:=h (n,k) ac hk;rw[hc]at e';by_cases hx:x==n
      · simp only[List.lookup_cons,hx]at e'
        cases e';have:x=n:=by simpa using hx
        rw[this];exact hc
      · have YR:(x==n)=aD:=by simpa using hx
        simp only[List.lookup_cons,YR]at e';exact h0 e'
    · rw[m4 hk]at e';exact h0 e'
theorem Iw{cells:List (Str×aq)}{x:Str}:∀{names:List (Str×NameKind)} {cs:List (Str×aq)},(∃c,cs.lookup x=aA c)->∃c,(Mq cells names cs).lookup x=aA c
  | [],_,h=>h
  | (n,k)::r,cs,⟨c,h⟩=>by
    refine Iw (names:=r) ?_;by_cases hk:k= .free
    · rw[m6 hk]
      by_cases hx:x==n
      · exact⟨(cells.lookup n).getD 0,by simp only[List.lookup_cons,hx]⟩
      · have YR:(x==n)=aD:=by simpa using hx
        exact⟨c,by simp only[List.lookup_cons,YR];exact h⟩
    · rw[m4 hk];exact⟨c,h⟩
theorem Gk{cells:List (Str×aq)}{x:Str}:∀{names:List (Str×NameKind)} {cs:List (Str×aq)},(x,g6)∈names->∃c,(Mq cells names cs).lookup x=aA c
  | [],_,h=>nomatch h
  | (n,k)::r,cs,h=>by
    rcases ay.mp h with e|e
    · cases e
      refine Iw (names:=r) ⟨(cells.lookup x).getD 0,?_⟩;rw[m6 rfl];simp[List.lookup_cons]
    · exact Gk (names:=r) e
noncomputable def rlF(env:Env):Str×NameKind->Str×NameKind:=λ(n,k)=>if(k==g6&&env.scope.kind== .function&&env.kindOf n==aA .cell)then(n,NameKind.cell)else(n,k)
theorem K9(env:Env)(p:Str×NameKind):(rlF env p).1=p.1:=by obtain⟨n,k⟩:=p;unfold rlF;dsimp only;split<;> rfl
theorem Ud{f:Str×NameKind->Str×NameKind}(h:∀p,(f p).1=p.1)(x:Str):∀names:List (Str×NameKind),(names.map f).lookup x=(names.lookup x).map λk=>(f (x,k)).2
  | []=>rfl
  | (n,k)::r=>by
    have ih:=Ud h x r;have e:f (n,k)=(n,(f (n,k)).2):=Prod.ext (h (n,k)) rfl;rw[bm,e,List.lookup_cons,List.lookup_cons];cases hx:x==n with
    |true=>
      have:x=n:=by simpa using hx
      subst this;rfl
    |false=>exact ih
theorem Tu{x:Str}{k:NameKind}:∀{names:List (Str×NameKind)},names.lookup x=aA k->(x,k)∈names
  | [],h=>by simp at h
  | (n,k')::r,h=>by
    rw[List.lookup_cons]at h;cases hx:x==n with
    |true=>
      rw[hx]at h;have:x=n:=by simpa using hx
      subst this;cases h;exact ac
    |false=>rw[hx]at h;exact am _ (Tu h)
theorem Ob{env:Env}{names:List (Str×NameKind)}{x:Str}{kk:NameKind}(hn:∀y∈names,y.2≠.cell)(hk:kk= .cell\/kk= .free)(h:(names.map (rlF env)).lookup x=aA kk):(x,g6)∈names:=by
 rw[Ud (K9 env)]at h;obtain⟨k,h1,h2⟩:=cq.mp h;have hm:=Tu h1;have hc:k≠.cell:=hn _ hm;by_cases hf:k= .free
 .subst hf;exact hm
 .exfalso;have hb:(k==g6)=aD:=by simpa using hf
  unfold rlF at h2;simp only[hb,Bool.false_and,bu,if_false]at h2;rcases hk with e|e
  .exact hc (h2.trans e)
  .exact hf (h2.trans e)
inductive BSrc where
 |own|cap (j:Nat)|acc
def BB(σ:St)(acc:aq):BSrc->Option V
 | .own=>aB
 | .cap j=>(σ[j]?).join
 | .acc=>aA (.ref acc)
def Vl(src:List BSrc)(σ:St)(acc:aq):St:=src.map (BB σ acc)
abbrev Cx.block(X:Cx)(N':List Str)(scope:Scope)(C:aq)(s₀:ao)(H₀:Hp)(ex:List aq):Cx:=
 {X with N:=N',env:=compEnvC scope (Mq X.env.cells scope.names []) C X.env,s₀:=s₀,H₀:=H₀,outer:=X.stack,stack:=X.stack,ex:=ex,fn:=λ_=>aD,pn:=[],xe:=λ_ _=>False}
structure CompScope(X:Cx)(N':List Str)(scope:Scope)(src:List BSrc):Prop where
 kind:scope.kind= .function
 nocell:∀y∈scope.names,y.2≠.cell
 names:∀y∈scope.names,y.2= .local->scope.names.lookup y.1=aA .local
 free:∀y∈scope.names,y.2= .free->X.env.kindOf y.1=aA .cell\/X.env.kindOf y.1=aA .free
 len:src.length=N'.length
 cap:∀(k j:Nat) (x:Str),src[k]? =aA (.cap j)->N'[k]? =aA x->X.N[j]? =aA x/\(X.env.kindOf x=aA .cell\/X.env.kindOf x=aA .free)/\scope.names.lookup x=aA .free
 acc:∀(k:Nat) (x:Str),src[k]? =aA .acc->N'[k]? =aA x->scope.names.lookup x=aB
theorem Cj{env:Env}{names:List (Str×NameKind)}{x:Str}(h:names.lookup x=aB):(names.map (rlF env)).lookup x=aB:=by rw[Ud (K9 env),h];rfl
theorem Ck{env:Env}{names:List (Str×NameKind)}{x:Str}(h:names.lookup x=aA .free):(names.map (rlF env)).lookup x=aA .cell\/(names.map (rlF env)).lookup x=aA .free:=by
 rw[Ud (K9 env),h];unfold rlF;dsimp only[Option.map];split
 .exact .inl rfl
 .exact .inr rfl
section
variable{X:Cx}{N':List Str}{scope:Scope}{src:List BSrc}{n_:List (aq×Obj)}{σ:St}{H:Hp}{s:ao}{C acc:aq}{fp:List aq}
theorem Pc{h1:d6}{tk:Nat}(S:CompScope X N' scope src)(I:mE X n_ σ H s)(hC:C=s.heap.objs.size)(hf:∀b∈fp,Uy X n_ H b)(NU:∀b∈fp,∃o,s.heap.get? b=aA o)
  (VW:h1.Ns C λ_=>aB) (hk:∀b o,s.heap.get? b=aA o->h1.get? b=aA o):
  mE (X.block N' scope C s H fp) [] (Vl src σ acc) H {s with heap:=h1,toks:=tk}:=by
 have PZ:∀y∈scope.names,y.2= .free->∃c,X.env.cells.lookup y.1=aA c:=λy hy e=>I.ok.has y.1 (S.free y hy e);have sub:∀x c,(Mq X.env.cells scope.names []).lookup x=aA c->X.env.cells.lookup x=aA c:=λx c e=>Pb PZ (λh=>by simp at h) e;have gt:∀b,b<s.heap.objs.size->b≠C:=λb hb e=>by rw[e,hC]at hb;exact gz _ hb
 refine⟨⟨I.ok.mod,S.kind,I.ok.glob,I.ok.blt,by rw[hC];exact bc _,λx y c h1 h2=>I.ok.inj x y c (sub x c h1) (sub y c h2),λx hx=>?_,λx c h=>m_ h bq,I.ok.hd,I.ok.frames,.inl rfl,λb hb=>?_,I.bs,
  ga I.ok.bsz I.sz,λb o e hb=>?_,λb hb hs=>?_,I.stack,I.stkFree⟩,rfl,I.bare,Un.kept hk,⟨_,VW,λi x v e1 e2 e3=>?_⟩,λx c e=>?_,?_,λx c e=>I.freeC x c (sub x c e),λp hp=>?_,I.hok.kept hk,?_⟩
 .rcases hx with hx|hx
  .exact Gk (Ob S.nocell (.inl rfl) hx)
  .exact Gk (Ob S.nocell (.inr rfl) hx)
 .obtain⟨f0,f1,f2,f3,f4,f5⟩:=hf b hb;refine⟨?_,λx c e=>f4 x c (sub x c e)⟩;show b≠C;obtain⟨o,ho⟩:=NU b hb;exact gt b (bp ho)
 .obtain⟨f0,f1,f2,f3,f4,f5⟩:=hf b hb;rcases f3 with z|z
  .exact I.ok.noex b o e z
  .exact m_ (de (bp e) (ga I.ok.bsz z)) (gz _)
 .obtain⟨f0,f1,f2,f3,f4,f5⟩:=hf b hb;rcases ay.mp (I.stkSub b hs)with z|z
  .exact f1 z
  .exact f2 z
 .have KJ:∃q,src[i]? =aA q:=by
   cases q:src[i]? with
   |some q0=>exact⟨q0,rfl⟩
   |none=>have UN:(Vl src σ acc)[i]? =aA (aA v):=e2;unfold Vl at UN;rw[bg,q]at UN;cases UN
  obtain⟨q,hq⟩:=KJ;have UN:(Vl src σ acc)[i]? =aA (aA v):=e2;unfold Vl at UN;rw[bg,hq]at UN;have PV:BB σ acc q=aA v:=cy.inj UN;cases q with
  |own=>cases PV
  |acc=>
   exfalso;have hno:=Cj (env:=X.env) (S.acc i x hq e1);have SH:(relabel scope X.env).names.lookup x=aB:=hno;have JY:X3 (relabel scope X.env) x:=e3;rcases JY with z|z|z
   .rw[SH]at z;cases z
   .rw[SH]at z;cases z
   .rw[SH]at z;cases z
  |cap j=>
   obtain⟨hj,WH,yY⟩:=S.cap i j x hq e1;have KC:σ[j]? =aA (aA v):=by
    have e4:(σ[j]?).join=aA v:=PV;cases r:σ[j]? with
    |none=>rw[r]at e4;cases e4
    |some o=>rw[r]at e4;cases o with
     |none=>cases e4
     |some w'=>cases e4;rfl
   obtain⟨m,hn,hl⟩:=I.loc;obtain⟨u,ru,l⟩:=hl j x v hj KC (by rcases WH with z|z;exact .inr (.inl z);exact .inr (.inr z));refine⟨u,ru,?_⟩;rcases l with⟨z,_⟩|⟨_,c,hc,hcell⟩
   .rcases WH with y|y
    .rw[y]at z;cases z
    .rw[y]at z;cases z
   .have JY:X3 (relabel scope X.env) x:=e3;have fin:∀kk,kk= .cell\/kk= .free->(relabel scope X.env).names.lookup x=aA kk->DL (X.block N' scope C s H fp).env h1 (λ_=>aB) x u:=λkk EC hx=>by
     obtain⟨c',TF⟩:=Gk (cells:=X.env.cells) (cs:=[]) (Ob S.nocell EC hx);have:=sub x c' TF;rw[hc]at this;cases this;obtain⟨oc,UZ,VD⟩:=hcell;refine .inr ⟨?_,c,TF,oc,hk c oc UZ,VD⟩;rcases EC with y|y
     .subst y;exact .inl hx
     .subst y;exact .inr hx
    rcases JY with z|z|z
    .exfalso;have z':(relabel scope X.env).names.lookup x=aA .local:=z;rcases Ck (env:=X.env) yY with y|y
     .have y':(relabel scope X.env).names.lookup x=aA .cell:=y;rw[z']at y';cases y'
     .have y':(relabel scope X.env).names.lookup x=aA .free:=y;rw[z']at y';cases y'
    .exact fin .cell (.inl rfl) z
    .exact fin .free (.inr rfl) z
 .obtain⟨v,oc,UZ,VD⟩:=I.cell x c (sub x c e);exact⟨v,oc,hk c oc UZ,VD⟩
 .show H C=aB;rw[hC];exact I.hok.fresh (bc _)
 .have hp':p∈([]:List (aq×Obj)):=by simpa using hp
  exact nomatch hp'
 .show(Vl src σ acc).length=N'.length;unfold Vl;rw[ah];exact S.len
def GH(src:List BSrc)(wi:TI)(g:TG)(tt:TT)(te:TE):TE:=λσ H Q=>wi σ H λJ H1=>∀acc,H1 acc=aB->
 ∃W:Nat->Nat->St->Hp->Prop,(∃m,W 0 m (Vl src σ acc) (Yo H1 acc (.lst [])))/\∀i m ZD H,W i m ZD H->(J.stop i H/\Q (.ref acc) H)\/
  (J.go i H/\∀x H',J.yld i H x H'->g x ZD H' λXJ H2=>tt XJ H2 λb H3=>if b=aC then te XJ H3 λy H4=>Qf (.ref acc) [y] H4 λ_ H5=>∃m',m'<m/\W (i+1) m' XJ H5 else∃m',m'<m/\W (i+1) m' XJ H3)
def PTs(X:Cx)(ZY:List cw)(t:TT):Prop:=
 ∀(n_:List (aq×Obj)) (s:ao) (σ:St) (H:Hp) (Q:Bool->Hp->Prop),mE X n_ σ H s->t σ H Q->
  bj (cf X.prog X.w) X.A (forIn ZY aC λc r=>if r=aC then do let ok<-isTrue c X.env (gg c X.env);pure (ForInStep.yield ok)else pure (ForInStep.yield r)) (TP X n_ σ Q) X.xe s
def wn:TT:=λ_ H Q=>Q aC H
theorem sQ:PTs X [] wn:=λ_ s σ H Q I h=>wpAny_tests_nil ⟨H,I,h⟩
theorem sO{c:cw}{t:TT}(h:PT X c t):PTs X [c] t:=λn_ s σ H Q I q=>wpAny_tests_one (h n_ s σ H Q I q)
theorem p7{prog:cg}{w:c8}{A:dh}{s:ao}{Z_ Z' iter:cw}{ZY:List cw}{scope:Scope}{pos:Pos}{it acc:aj}{env:Env}{R:Result->ao->Prop}(I:Nat->ao->Prop)
  (turn:∀n s,I n s->bj (cf prog w) A (pyNext it) (λr s₁=>match r with
   |none=>R (.ok .next) s₁
   |some v=>bj (cf prog w) A (letOwnedTupleGo Z' it v) (λ_ s₀=>bj (cf prog w) A (assign Z' env v) (λ_ s₂=>
     bj (cf prog w) A (forIn ZY aC λc r=>if r=aC then do let ok<-isTrue c env (gg c env);pure (ForInStep.yield ok)else pure (ForInStep.yield r)) (λok s₃=>if ok=aC then bj (cf prog w) A (gg Z_ env) (λx UB=>
      bj (cf prog w) A (call (.builtin "list.append") [acc,x]) (λ_ RU=>∃m,m<n/\I m RU) (λ_ _=>False) UB) (λ_ _=>False) s₃
      else∃m,m<n/\I m s₃) (λ_ _=>False) s₂)
     (λ_ _=>False) s₀) (λ_ _=>False) s₁) (λ_ _=>False) s)
  (n:Nat) (h:I n s):codeAny (cf prog w) A (.compLoop (.ListComp Z_ [⟨Z',iter,ZY,0⟩] scope pos) 0 it acc env) R s:=by
 refine codeAny_loop rfl I (λn s hI=>?_) n h;show bj _ A ((compTurn (.ListComp Z_ [⟨Z',iter,ZY,0⟩] scope pos) 0 it acc env).onRaise (λx=>do noteFrame x env;theTreesLotGoes x)) _ _ s;refine wpAny_noted ?_;rw[compTurn_list];refine ab (wpAny_standAt (ab (wpAny_mono (turn n s hI) (λr s₁ h₁=>?_) λ_ _ f=>f.elim)));cases r with
 |none=>exact af h₁
 |some v=>
  refine ab (wpAny_mono h₁ (λ_ s₀ QM=>?_) λ_ _ f=>f.elim);refine ab (wpAny_mono QM (λ_ s₂ VB=>?_) λ_ _ f=>f.elim);refine ab (wpAny_mono VB (λzh s₃ UE=>?_) λ_ _ f=>f.elim);cases zh with
  |false=>exact af ⟨rfl,UE⟩
  |true=>exact ab (ab (wpAny_mono UE (λx UB KA=>ab (wpAny_mono KA (λ_ RU L_=>af (af ⟨rfl,L_⟩)) λ_ _ f=>f.elim)) λ_ _ f=>f.elim))
theorem Tv{tg Z_ iter:cw}{ZY:List cw}{pos:Pos}{g:TG}{tt:TT}{te:TE}{it:aq}{tn:Nat->d6->Prop}{J:It}{Q:VK}{RR:aj->aq->Result->ao->Prop}{E:aj->ao->Prop}
  (hc:X.calm=aC) (S:CompScope X N' scope src)
  (hg:∀(C:aq) (s₀:ao) (H₀:Hp) (ex:List aq),PG (X.block N' scope C s₀ H₀ ex) tg g)
  (ht:∀(C:aq) (s₀:ao) (H₀:Hp) (ex:List aq),PTs (X.block N' scope C s₀ H₀ ex) ZY tt)
  (he:∀(C:aq) (s₀:ao) (H₀:Hp) (ex:List aq),PE (X.block N' scope C s₀ H₀ ex) Z_ te)
  (I:mE X n_ σ H s) (T:Turn X.prog X.w X.K tg J fp it tn) (st:tn 0 s.heap) (hf:∀b∈fp,Uy X n_ H b)
  (q:∀acc,H acc=aB->∃W:Nat->Nat->St->Hp->Prop,(∃m,W 0 m (Vl src σ acc) (Yo H acc (.lst [])))/\∀i m ZD H,W i m ZD H->(J.stop i H/\Q (.ref acc) H)\/
   (J.go i H/\∀x H',J.yld i H x H'->g x ZD H' λXJ H2=>tt XJ H2 λb H3=>if b=aC then te XJ H3 λy H4=>Qf (.ref acc) [y] H4 λ_ H5=>∃m',m'<m/\W (i+1) m' XJ H5 else∃m',m'<m/\W (i+1) m' XJ H3))
  (yj:∀(acc C:aq) (s':ao) (H':Hp) (m:Str->Option aj),mE X n_ σ H' s'->Q (.ref acc) H'->s'.heap.Ns C m->H' C=aB->C≠X.env.locals->X.s₀.heap.objs.size<=C->(∀x c,X.env.cells.lookup x=aA c->c≠C)->(∀p∈X.pn++n_,p.1≠C)->
   RR (.ref acc) C (.ok .next) s'):
  bj (cf X.prog X.w) X.A (newList []) (λacc s₃=>bj (cf X.prog X.w) X.A (newFunctionEnv scope X.env.globals (Mq X.env.cells scope.names []) [] X.env.qual aB .none (aA X.env)) (λPY UB=>
   codeAny (cf X.prog X.w) X.A (.compStart (.ListComp Z_ [⟨tg,iter,ZY,0⟩] scope pos) 0 (.ref it) acc {PY with scope:=relabel scope X.env}) (RR acc PY.locals) UB) E s₃) E s:=by
 have NU:∀b∈fp,∃o,s.heap.get? b=aA o:=λb hb=>let⟨o,e,_⟩:=T.obj 0 _ st b hb;⟨o,e⟩
 refine di (wpAny_newFunctionEnv S.nocell (by intro y hy;simp at hy) (λh₁ WB X_=>?_) S.kind);dsimp only at WB X_⊢;have YS:H s.heap.objs.size=aB:=I.hok.fresh (bc _);have I3:mE X n_ σ (Yo H s.heap.objs.size (.lst [])) {s with heap:=s.heap.push {cls:=.type "list",dict:=aB,data:=.seq ([]:List aj).toArray}}:=I.lnew (t':=s.toks) (mC:=[]) (ys:=[]) .nil (dk _);have NV:∀b∈fp,Uy X n_ (Yo H s.heap.objs.size (.lst [])) b:=λb hb=>by obtain⟨f0,f⟩:=hf b hb;obtain⟨o,ho⟩:=NU b hb;exact⟨by rw[Zp (cm (bp ho))];exact f0,f⟩
 have PH:∀b∈fp,∃o,(s.heap.push {cls:=.type "list",dict:=aB,data:=.seq ([]:List aj).toArray}).get? b=aA o:=λb hb=>let⟨o,e⟩:=NU b hb;⟨o,ar _ e⟩
 obtain⟨W,⟨m0,w0⟩,turn⟩:=q _ YS;generalize hH2:s.heap.push {cls:=.type "list",dict:=aB,data:=.seq ([]:List aj).toArray}=H2 at WB X_ I3 PH⊢;have keep:∀b o,H2.get? b=aA o->h₁.get? b=aA o:=λb o e=>X_.extBut b o (cm (bp e)) (ar _ e);have J0:=Pc (N':=N') (scope:=scope) (src:=src) (acc:=s.heap.objs.size) (tk:=s.toks+([]:List (Str×aj)).length) (C:=H2.objs.size) S I3 rfl NV PH (show h₁.Ns H2.objs.size (λ_=>aB)from WB) keep;have SZ:tn 0 h₁:=T.keep 0 s.heap h₁ st λb hb o e=>keep b o (by rw[<-hH2];exact ar _ e);have cne:H2.objs.size≠X.env.locals:=Nat.ne_of_gt I3.lt;have xB:X.s₀.heap.objs.size<=H2.objs.size:=I3.sz;have P_:∀x c,X.env.cells.lookup x=aA c->c≠H2.objs.size:=λx c e z=>by obtain⟨v,oc,UZ,_⟩:=I3.cell x c e;exact m_ (bp UZ) (by rw[z];exact gz _)
 have IA:∀p∈X.pn++n_,p.1≠H2.objs.size:=λp hp z=>m_ (bp (I3.pin p hp).1) (by rw[z];exact gz _);have UD:∀s₃:ao,s₃={s with heap:=h₁,toks:=s.toks+([]:List (Str×aj)).length}->
   codeAny (cf X.prog X.w) X.A (.compLoop (.ListComp Z_ [⟨tg,iter,ZY,0⟩] scope pos) 0 (.ref it) (.ref s.heap.objs.size) (compEnvC scope (Mq X.env.cells scope.names []) H2.objs.size X.env)) (RR (.ref s.heap.objs.size) H2.objs.size) s₃:=by
  rintro s₃ rfl;refine p7 (λn s'=>∃i ZD H',mE (X.block N' scope H2.objs.size {s with heap:=H2} (Yo H s.heap.objs.size (.lst [])) fp) [] ZD H' s'/\tn i s'.heap/\(∀b∈fp,H' b=aB)/\W i n ZD H') ?_ m0 ⟨0,_,_,J0,SZ,λb hb=>(NV b hb).1,w0⟩;rintro n s4 ⟨i,UP,H4,J4,st4,fr4,w4⟩;have JW:∀{H':Hp},(∀b∈fp,H' b=aB)->∀b∈fp,Uy (X.block N' scope H2.objs.size {s with heap:=H2} (Yo H s.heap.objs.size (.lst [])) fp) [] H' b:=fun{H'} hn b hb=>by
   obtain⟨f0,f1,f2,f3,f4,f5⟩:=NV b hb;refine⟨hn b hb,?_,λz=>J4.ok.exfs b hb z,.inl hb,λx c e=>(J4.ok.exf b hb).2 x c e,λp hp=>?_⟩
   .exact(J4.ok.exf b hb).1
   .have hp':p∈([]:List (aq×Obj)):=by simpa using hp
    exact nomatch hp'
  rcases turn i n UP H4 w4 with⟨stop,qn⟩|⟨go,step⟩
  .refine Wl (T.done (X.block N' scope H2.objs.size {s with heap:=H2} (Yo H s.heap.objs.size (.lst [])) fp) rfl rfl rfl hc i [] s4 UP H4 _ J4 (JW fr4) st4 stop) λr s5 ⟨hr,J5⟩=>?_;subst hr;obtain⟨m5,yL,_⟩:=J5.loc;have I5:mE X n_ σ H4 s5:=I3.call' (ch:=fp) J5.os J5.base J5.hok J5.bare λb hb=>by obtain⟨f0,f1,f2,f3,f4,f5⟩:=NV b hb;exact⟨f3,f1,f4,f5⟩
   exact yj _ _ s5 H4 m5 I5 qn yL J5.free cne xB P_ IA
  .refine Wl (T.item (X.block N' scope H2.objs.size {s with heap:=H2} (Yo H s.heap.objs.size (.lst [])) fp) rfl rfl rfl hc i [] s4 UP H4 _ J4 (JW fr4) st4 go) λr s5 ⟨u,hr,h5⟩=>?_;subst hr;refine Wl h5 λ_ s6 ZG=>?_;obtain⟨x,H6,J6,r6,y6,MY,yt⟩:=ZG;have J6':=J6.pinned (JW yt) (T.obj _ _ MY);have again:∀{YU:St} {H7:Hp} {s7:ao},mE (X.block N' scope H2.objs.size {s with heap:=H2} (Yo H s.heap.objs.size (.lst [])) fp) ([]++Th fp s6.heap) YU H7 s7->(∃m',m'<n/\W (i+1) m' YU H7)->
     ∃m,m<n/\∃i ZD H',mE (X.block N' scope H2.objs.size {s with heap:=H2} (Yo H s.heap.objs.size (.lst [])) fp) [] ZD H' s7/\tn i s7.heap/\(∀b∈fp,H' b=aB)/\W i m ZD H':=fun{YU H7 s7} J7 ⟨m',hm,w7⟩=>by
    refine⟨m',hm,i+1,YU,H7,J7.unpinned,T.keep _ _ _ MY λb hb o e=>(J7.pin (b,o) (bx _ (bx _ (U9 hb e)))).1,λb hb=>?_,w7⟩;obtain⟨o,e,d⟩:=T.obj _ _ MY b hb;exact(J7.pin (b,o) (bx _ (bx _ (U9 hb e)))).2.1
   refine Wl (hg _ _ _ _ _ s6 UP H6 x u _ J6' r6 (step x H6 y6)) λ_ s7 ZG=>?_;obtain⟨YU,H7,J7,q7⟩:=ZG;refine Wl (ht _ _ _ _ _ s7 YU H7 _ J7 q7) λb s8 ZG=>?_;obtain⟨H8,J8,q8⟩:=ZG;cases b with
   |false=>rw[m4 bq]at q8⊢;exact again J8 q8
   |true=>rw[m6 rfl]at q8⊢;refine Wl (he _ _ _ _ _ s8 YU H8 _ J8 q8) λy s9 ZG=>?_;obtain⟨vy,H9,J9,r9,q9⟩:=ZG;refine Wl (B6 _ s9 YU H9 (.ref s.heap.objs.size) [vy] (.ref s.heap.objs.size) [y] _ J9 rfl (.cons r9 .nil) q9) λ_ OR ⟨_,H10,J10,_,q10⟩=>again J10 q10
 exact codeAny_compStart_list (UD _ rfl) (T.self X.A 0 _ _ _ SZ (UD _ rfl))
theorem sN{tg Z_ iter:cw}{ZY:List cw}{pos:Pos}{wi:TI}{g:TG}{tt:TT}{te:TE}(hc:X.calm=aC)(S:CompScope X N' scope src)(hi:PI X tg iter wi)
  (hg:∀(C:aq) (s₀:ao) (H₀:Hp) (ex:List aq),PG (X.block N' scope C s₀ H₀ ex) tg g)
  (ht:∀(C:aq) (s₀:ao) (H₀:Hp) (ex:List aq),PTs (X.block N' scope C s₀ H₀ ex) ZY tt)
  (he:∀(C:aq) (s₀:ao) (H₀:Hp) (ex:List aq),PE (X.block N' scope C s₀ H₀ ex) Z_ te)
  (hs:∀x,foldedSetIterable iter X.env x=pure x:=by intro _;rfl):PE X (.ListComp Z_ [⟨tg,iter,ZY,0⟩] scope pos) (GH src wi g tt te):=by
 intro n_ s σ H Q I h;rw[eval_ListComp];refine wpAny_comprehension_free (use:=aB) rfl hs (Cp λy hy e=>I.ok.has y.1 (S.free y hy e)) S.kind S.names (Wl (hi n_ s σ H _ I h) λv s1 h1=>Wl h1 λNE s2 h2=>?_);obtain⟨it,fp,tn,J,H2,e,I2,T,RW,f2,q⟩:=h2;subst e;refine Tv hc S hg ht he I2 T RW f2 q λacc C s' H' m I' q' hn hC c1 c2 c3 c4=>⟨m,hn,λh' UG=>?_⟩
 exact⟨.ref acc,H',I'.turned (t':=s'.toks) (λb o hb e=>(UG.2 b hb).trans e) hC c1 (.inr c2) c3 c4,rfl,q'⟩
theorem Vm{tg Z_ iter:cw}{ZY:List cw}{pos XM py:Pos}{wi:TI}{g:TG}{tt:TT}{te:TE}{i:Nat}{y:Str}(hc:X.calm=aC)(S:CompScope X N' scope src)(hi:PI X tg iter wi)
  (hg:∀(C:aq) (s₀:ao) (H₀:Hp) (ex:List aq),PG (X.block N' scope C s₀ H₀ ex) tg g)
  (ht:∀(C:aq) (s₀:ao) (H₀:Hp) (ex:List aq),PTs (X.block N' scope C s₀ H₀ ex) ZY tt)
  (he:∀(C:aq) (s₀:ao) (H₀:Hp) (ex:List aq),PE (X.block N' scope C s₀ H₀ ex) Z_ te)
  (hN:X.N.Nodup) (Q_:X.N[i]? =aA y) (hx:X.env.scope.names.lookup y=aA .local)
  (XQ:swapsWith (.ListComp Z_ [⟨tg,iter,ZY,0⟩] scope pos) (aA (.Name y py)) XM.line X.env=pure aC)
  (hs:∀x,foldedSetIterable iter X.env x=pure x:=by intro _;rfl):PS X (.Assign [.Name y py] (.ListComp Z_ [⟨tg,iter,ZY,0⟩] scope pos) XM) (Ku (GH src wi g tt te) (W9 i)):=by
 intro n_ s σ H D I h;rw[exec_Assign_Name_used _ _ _ _ XQ];refine ab (wpAny_standAt (ab ?_));show bj _ X.A (do let _<-comprehension (.ListComp Z_ [⟨tg,iter,ZY,0⟩] scope pos) scope X.env _ (newList []) aD (gg iter X.env) (aA (assign (.Name y py) X.env))) _ _ s;refine ab (wpAny_mono (wpAny_comprehension_free (use:=aA (assign (.Name y py) X.env)) (Q:=λ_ s'=>SP X n_ D .next s') rfl hs (Cp λy hy e=>I.ok.has y.1 (S.free y hy e)) S.kind S.names
  (Wl (hi n_ s σ H _ I h) λv s1 h1=>Wl h1 λNE s2 h2=>?_)) (λ_ s' hq=>af (af hq)) λ_ _ e=>e)
 obtain⟨it,fp,tn,J,H2,e,I2,T,RW,f2,q⟩:=h2;subst e;refine Tv (Q:=λx H1=>W9 i x σ H1 D.nx) hc S hg ht he I2 T RW f2 q λacc C s' H' m I' q' hn hC c1 c2 c3 c4=>?_;refine wpAny_assign_Name (Ig I' hN Q_ (.inl hx) (v:=.ref acc) (u:=.ref acc) rfl (λYE oj ⟨a,hsb,ha⟩=>?_) (.inr hx));have yp:C≠a:=by
  rcases ha with z|z
  .rw[z];exact c1
  .exact Ne.symm (c3 _ _ z)
 refine⟨m,hn.sameBut hsb yp,λh' UG=>?_⟩;exact⟨_,H',oj.turned (t':=YE.toks) (λb o hb e=>(UG.2 b hb).trans e) hC c1 (.inr c2) c3 c4,q'⟩
end
abbrev EXT:=aj->Option aq->St->Hp->Prop
noncomputable abbrev Cx.inSuite(X:Cx)(a:aq):Cx:={X with A:=X.A.mark (aA (.ref a)),calm:=aD,xe:=λ_ _=>False}
section
variable{X:Cx}{n_:List (aq×Obj)}{σ:St}{H:Hp}{s:ao}{e T:aq}{cls:aj}{dx:Option aq}{xe:aj->ao->Prop}
def GG(a C:aq)(dx:Option aq):d6->Prop:=λh=>∃o,h.get? a=aA o/\o.cls= .ref C/\o.dict=dx/\PySem.W.notCls o=aC
end
set_option genInjectivity false in
structure Hd where
 x:Str
 np:Pos
 nm:Option (Str×Nat)
 b0:Stmt
 suite:List Stmt
 pos:Pos
 B:aq
 t:TS
noncomputable def Ends.but(D:Ends)(i:Nat):Ends:={nx:=λσ H=>D.nx (σ.set i aB) H,bk:=λσ H=>D.bk (σ.set i aB) H,ct:=λσ H=>D.ct (σ.set i aB) H,rt:=D.rt}
def Hd.run(h:Hd)(C:aq)(dx:Option aq)(D:Ends)(σ:St)(H:Hp):Prop:=match h.nm with
 |none=>h.t D σ H
 |some (_,i)=>∀a,H a=aB->h.t (D.but i) (σ.set i (aA (.ref a))) (Yo H a (.ext (GG a C dx)))
set_option genInjectivity false in
structure Hd.Ok(X:Cx)(h:Hd):Prop where
 gl:Gl X h.x
 mg:X.mg h.x=aA (.ref h.B)
 ty:PySem.W.typeIn X.K (.ref h.B)=aA (.type "type")
 cl:PySem.W.isClsIn X.K h.B=aC
 bs:PySem.W.mroIn X.K h.B (.type "BaseException")=aA aC
 db:(h.x==("__debug__":Str))=aD
 nm:∀n i,h.nm=aA (n,i)->X.N.Nodup/\X.N[i]? =aA n/\Loc X.env.scope n/\X.env.kindOf n=aA .local/\X.env.scope.names.lookup n=aA .local
 su:∀a,Gd (X.inSuite a) (h.b0::h.suite) h.t
section
open PySem.Calls Builtin.ObjectAttr Builtin.Getset_descriptor
section
variable{X:Cx}
theorem Lc:∀{Bs:List aq} {us:List aj},Z1 (Bs.map V.ref) us->us=Bs.map b8
 | [],_,r=>by rw[List.map_nil]at r;cases r;rfl
 |B::Bs,_,r=>by
  rw[bm]at r;cases r with
  |cons h t=>rw[show _=b8 B from h,Lc t];rfl
end
end
end L2
namespace PySem
open PySem.Sem (wp)
end PySem
namespace L2
section
open PySem.Calls Builtin.ObjectAttr
end
def drop(H:Hp)(e:aq):Hp:=λb=>if b=e then aB else H b
section
variable{K:ad}
inductive D where
 |non|bl (b:Bool)|int (i:Int)|str (x:Str)
 |tup (xs:List D)|lst (xs:List D)
 |dK (ks:List Key) (vs:List D)|dT (ks:List (List Key)) (vs:List D)|dX (ks:List Zm) (vs:List D)|lso (xs:List D)
 |exc (c:Str) (ks:List Str) (vs:List D)
def Pd(K:ad)(c:Str)(C:aq):Prop:=PySem.W.nsIn K mainGlobals c=aA (aA (.ref C))
def KB(F:Hp)(kvs:List (List Key×V))(bs:List aq):Prop:=Paired (λ(p:List Key×V) (b:aq)=>F b=aA (.tup (p.1.map kV))) kvs bs
def KN(F:Hp)(kvs:List (Zm×V))(bs:List aq):Prop:=Paired (λ(p:Zm×V) (b:aq)=>Qs F p.1 b) kvs bs
def Pe(K:ad)(F:Hp)(a:aq)(xs:List V):Prop:=
 (∃o,F a=aA (.frz o (.lst xs)))\/∃(o:Obj) (mC:Array aj) (n:Nat),K.lookup a=aA o/\o.cls= .type "list"/\o.dict=aB/\o.data= .seq mC n/\mC.size<=sizeLine/\Z1 xs mC.toList
theorem Pe.sq{F:Hp}{a:aq}{xs:List V}(h:Pe K F a xs):J3 K F a xs:=h.imp .inr id
theorem Pe.mono{F F':Hp}(s:Zi F F'){a:aq}{xs:List V}(h:Pe K F a xs):Pe K F' a xs:=h.imp (λ⟨o,e⟩=>⟨o,s _ _ e⟩) id
mutual
inductive mI(K:ad)(F:Hp):D->V->Prop where
 |non:mI K F .non .non
 |bl (b:Bool):mI K F (.bl b) (.bl b)
 |int (i:Int):mI K F (.int i) (.int i)
 |str (x:Str):mI K F (.str x) (.str x)
 |tup {a:aq} {xs:List D} {vs:List V} (h:F a=aA (.tup vs)) (r:mD K F xs vs):mI K F (.tup xs) (.ref a)
 |lst {a:aq} {xs:List D} {vs:List V} (h:J3 K F a vs) (o:F a=aA (.lst vs)\/Pe K F a vs/\∀d∈xs,∃i,d= .int i) (r:mD K F xs vs):mI K F (.lst xs) (.ref a)
 |dK {a:aq} {ks:List Key} {ds:List D} {kvs:List (Key×V)} {ep:Nat} (h:F a=aA (.dK kvs ep)) (e:kvs.map (·.1)=ks) (r:mD K F ds (kvs.map (·.2))):mI K F (.dK ks ds) (.ref a)
 |dT {a:aq} {ks:List (List Key)} {ds:List D} {kvs:List (List Key×V)} {ep:Nat} {bs:List aq} (h:F a=aA (.dT kvs ep bs)) (kb:KB F kvs bs) (e:kvs.map (·.1)=ks) (r:mD K F ds (kvs.map (·.2))):mI K F (.dT ks ds) (.ref a)
 |dX {a:aq} {ks:List Zm} {ds:List D} {kvs:List (Zm×V)} {ep:Nat} {bs:List aq} (h:F a=aA (.dN kvs ep bs)) (kb:KN F kvs bs) (e:kvs.map (·.1)=ks) (r:mD K F ds (kvs.map (·.2))):mI K F (.dX ks ds) (.ref a)
 |lso {a:aq} {xs:List D} {vs:List V} (h:Pe K F a vs) (r:mD K F xs vs):mI K F (.lso xs) (.ref a)
 |exc {a C:aq} {c:Str} (cl:Pd K c C) (h:F a=aA (.ext (GG a C aB))):mI K F (.exc c [] []) (.ref a)
 |exd {a C dx:aq} {c:Str} {ks:List Str} {ds:List D} {fs:List (Str×V)} (cl:Pd K c C) (h:F a=aA (.ext (GG a C (aA dx)))) (hx:F dx=aA (.xd fs)) (e:fs.map (·.1)=ks) (r:mD K F ds (fs.map (·.2))):mI K F (.exc c ks ds) (.ref a)
inductive mD(K:ad)(F:Hp):List D->List V->Prop where
 |nil:mD K F [] []
 |cons {d:D} {v:V} {ds:List D} {vs:List V} (h:mI K F d v) (t:mD K F ds vs):mD K F (d::ds) (v::vs)
end
theorem KB.mono{F F':Hp}(s:Zi F F'){kvs:List (List Key×V)}{bs:List aq}(h:KB F kvs bs):KB F' kvs bs:=Paired.mapP h λ_ _ z=>s _ _ z
theorem KN.mono{F F':Hp}(s:Zi F F'){kvs:List (Zm×V)}{bs:List aq}(h:KN F kvs bs):KN F' kvs bs:=Paired.mapP h λ_ _ z=>z.mono λ_ _ q=>s _ _ q
theorem AV{F F':Hp}(s:Zi F F'){a:aq}{u:HO}(h:Rd F a u):Rd F' a u:=by
 rcases h with h|⟨o,h⟩
 .exact .inl (s _ _ h)
 .exact .inr ⟨o,s _ _ h⟩
theorem Yg{F F':Hp}(s:Zi F F'){a:aq}{xs:List V}(h:J3 K F a xs):J3 K F' a xs:=by
 rcases h with h|h
 .exact .inl (AV s h)
 .exact .inr h
theorem W3{F F':Hp}(s:Zi F F'){a:aq}{xs:List V}(h:Rl K F a xs):Rl K F' a xs:=by
 rcases h with h|h
 .exact .inl (AV s h)
 .exact .inr h
theorem Ue{F:Hp}{a:aq}{vs:List V}(h:F a=aA (.tup vs)):Rl K F a vs:=.inl (.inl h)
mutual
theorem mI.mono{F F':Hp}(s:Zi F F'):∀{d:D} {v:V},mI K F d v->mI K F' d v
 |_,_,.non=>.non
 |_,_,.bl b=>.bl b
 |_,_,.int i=>.int i
 |_,_,.str x=>.str x
 |_,_,.tup h r=>.tup (s _ _ h) (mD.mono s r)
 |_,_,.lst h o r=>.lst (Yg s h) (o.imp (λz=>s _ _ z) (.imp (.mono s) id)) (mD.mono s r)
 |_,_,.dK h e r=>.dK (s _ _ h) e (mD.mono s r)
 |_,_,.dT h kb e r=>.dT (s _ _ h) (kb.mono s) e (mD.mono s r)
 |_,_,.dX h kb e r=>.dX (s _ _ h) (kb.mono s) e (mD.mono s r)
 |_,_,.lso h r=>.lso (h.mono s) (mD.mono s r)
 |_,_,.exc cl h=>.exc cl (s _ _ h)
 |_,_,.exd cl h hx e r=>.exd cl (s _ _ h) (s _ _ hx) e (mD.mono s r)
theorem mD.mono{F F':Hp}(s:Zi F F'):∀{ds:List D} {vs:List V},mD K F ds vs->mD K F' ds vs
 |_,_,.nil=>.nil
 |_,_,.cons h t=>.cons (mI.mono s h) (mD.mono s t)
end
theorem mD.length{F:Hp}{ds:List D}:∀{vs:List V},mD K F ds vs->ds.length=vs.length:=by
 induction ds with
 |nil=>intro vs h;cases h;rfl
 |cons d ds ih=>
  intro vs h;cases h with
  |cons _ t=>rw[bh,bh,ih t]
theorem mD.append{F:Hp}{ds es:List D}{vs us:List V}(h:mD K F ds vs)(q:mD K F es us):mD K F (ds++es) (vs++us):=by
 induction ds generalizing vs with
 |nil=>cases h;exact q
 |cons d ds ih=>
  cases h with
  |cons h t=>exact .cons h (ih t)
theorem mD.snoc{F:Hp}{ds:List D}{vs:List V}{d:D}{v:V}(r:mD K F ds vs)(h:mI K F d v):mD K F (ds++[d]) (vs++[v]):=r.append (.cons h .nil)
theorem mD.get{F:Hp}:∀{ds:List D} {vs:List V} {i:Nat} {d:D},mD K F ds vs->ds[i]? =aA d->∃v,vs[i]? =aA v/\mI K F d v
 |_,_,_,_,.nil,e=>by simp at e
 |_,_,0,_,.cons h t,e=>by simp at e;subst e;exact⟨_,rfl,h⟩
 |_,_,i+1,d,.cons h t,e=>by obtain⟨v,h1,h2⟩:=mD.get (i:=i) (d:=d) t (by simpa using e);exact⟨v,by simpa using h1,h2⟩
theorem mD.getV{F:Hp}:∀{ds:List D} {vs:List V} {i:Nat} {v:V},mD K F ds vs->vs[i]? =aA v->∃d,ds[i]? =aA d/\mI K F d v
 |_,_,_,_,.nil,e=>by simp at e
 |_,_,0,_,.cons h t,e=>by simp at e;subst e;exact⟨_,rfl,h⟩
 |_,_,i+1,d,.cons h t,e=>by obtain⟨v,h1,h2⟩:=mD.getV (i:=i) (v:=d) t (by simpa using e);exact⟨v,by simpa using h1,h2⟩
theorem mD.take{F:Hp}:∀{ds:List D} {vs:List V} (n:Nat),mD K F ds vs->mD K F (ds.take n) (vs.take n)
 |_,_,0,_=>.nil
 |_,_,_+1,.nil=>.nil
 |_,_,n+1,.cons h t=>.cons h (t.take n)
theorem mD.drop{F:Hp}:∀{ds:List D} {vs:List V} (n:Nat),mD K F ds vs->mD K F (ds.drop n) (vs.drop n)
 |_,_,0,r=>r
 |_,_,_+1,.nil=>.nil
 |_,_,n+1,.cons h t=>t.drop n
inductive SV where
 |fz (d:D)|ol (xs:List D)|oK (ks:List Key) (vs:List D)|oT (ks:List (List Key)) (vs:List D)|oN (ks:List Key) (ZE:List (List D))|oL (pin:Option aq) (ZE:List (List D))|oQ (pin:aq) (ks:List Key) (vs:List D)|oX (ks:List Zm) (ZE:List (List D))|oD (WJ:List (List Key×List D))|oM (ks:List Zm) (vs:List D)|oR (pin:aq) (ks:List Key) (ZE:List (List D))
@[simp]noncomputable def SV.toD:SV->D
 | .fz d=>d
 | .ol xs=>.lst xs
 | .oK ks vs=>.dK ks vs
 | .oT ks vs=>.dT ks vs
 | .oN ks ZE=>.dK ks (ZE.map D.lst)
 | .oL _ ZE=>.lst (ZE.map D.lst)
 | .oQ _ ks vs=>.dK ks vs
 | .oX ks ZE=>.dX ks (ZE.map D.lst)
 | .oD WJ=>.lst (WJ.map λp=>.dK p.1 p.2)
 | .oM ks vs=>.dX ks vs
 | .oR _ ks ZE=>.dK ks (ZE.map D.lst)
noncomputable abbrev Zr:=List (aq×HO)
inductive mN(K:ad)(F:Hp):List (List D)->List V->Zr->Prop where
 |nil:mN K F [] [] []
 |cons {xs:List D} {ZE:List (List D)} {b:aq} {vs:List V} {ws:List V} {ns:Zr} (r:mD K F xs vs) (t:mN K F ZE ws ns):mN K F (xs::ZE) (.ref b::ws) ((b,.lst vs)::ns)
inductive KidD(K:ad)(F:Hp):List (List Key×List D)->List V->Zr->Prop where
 |nil:KidD K F [] [] []
 |cons {ds:List D} {WJ:List (List Key×List D)} {b:aq} {kvs:List (Key×V)} {ep:Nat} {ws:List V} {ns:Zr} (r:mD K F ds (kvs.map (·.2))) (t:KidD K F WJ ws ns):KidD K F ((kvs.map (·.1),ds)::WJ) (.ref b::ws) ((b,.dK kvs ep)::ns)
inductive mH(K:ad)(F:Hp):SV->V->Zr->Prop where
 |fz {d:D} {v:V} (h:mI K F d v):mH K F (.fz d) v []
 |ol {a:aq} {xs:List D} {vs:List V} (r:mD K F xs vs):mH K F (.ol xs) (.ref a) [(a,.lst vs)]
 |oK {a:aq} {ks:List Key} {ds:List D} {kvs:List (Key×V)} {ep:Nat} (e:kvs.map (·.1)=ks) (r:mD K F ds (kvs.map (·.2))):mH K F (.oK ks ds) (.ref a) [(a,.dK kvs ep)]
 |oT {a:aq} {ks:List (List Key)} {ds:List D} {kvs:List (List Key×V)} {ep:Nat} {bs:List aq} (kb:KB F kvs bs) (e:kvs.map (·.1)=ks) (r:mD K F ds (kvs.map (·.2))):mH K F (.oT ks ds) (.ref a) [(a,.dT kvs ep bs)]
 |oN {a:aq} {ks:List Key} {ZE:List (List D)} {kvs:List (Key×V)} {ns:Zr} {ep:Nat} (e:kvs.map (·.1)=ks) (r:mN K F ZE (kvs.map (·.2)) ns):mH K F (.oN ks ZE) (.ref a) ((a,.dK kvs ep)::ns)
 |oR {a:aq} {ks:List Key} {ZE:List (List D)} {kvs:List (Key×V)} {ns:Zr} {ep:Nat} (e:kvs.map (·.1)=ks) (r:mN K F ZE (kvs.map (·.2)) ns):mH K F (.oR a ks ZE) (.ref a) ((a,.dK kvs ep)::ns)
 |oL {pin:Option aq} {a:aq} {ZE:List (List D)} {ws:List V} {ns:Zr} (hp:∀b,pin=aA b->b=a) (r:mN K F ZE ws ns):mH K F (.oL pin ZE) (.ref a) ((a,.lst ws)::ns)
 |oQ {a:aq} {ks:List Key} {ds:List D} {kvs:List (Key×V)} {ep:Nat} (e:kvs.map (·.1)=ks) (r:mD K F ds (kvs.map (·.2))):mH K F (.oQ a ks ds) (.ref a) [(a,.dK kvs ep)]
 |oX {a:aq} {ks:List Zm} {ZE:List (List D)} {kvs:List (Zm×V)} {ns:Zr} {ep:Nat} {bs:List aq} (kb:KN F kvs bs) (e:kvs.map (·.1)=ks) (r:mN K F ZE (kvs.map (·.2)) ns):mH K F (.oX ks ZE) (.ref a) ((a,.dN kvs ep bs)::ns)
 |oD {a:aq} {WJ:List (List Key×List D)} {ws:List V} {ns:Zr} (r:KidD K F WJ ws ns):mH K F (.oD WJ) (.ref a) ((a,.lst ws)::ns)
 |oM {a:aq} {ks:List Zm} {ds:List D} {kvs:List (Zm×V)} {ep:Nat} {bs:List aq} (kb:KN F kvs bs) (e:kvs.map (·.1)=ks) (r:mD K F ds (kvs.map (·.2))):mH K F (.oM ks ds) (.ref a) [(a,.dN kvs ep bs)]
theorem KidD.mono{F F':Hp}(s:Zi F F'):∀{WJ:List (List Key×List D)} {ws:List V} {ns:Zr},KidD K F WJ ws ns->KidD K F' WJ ws ns
 |_,_,_,.nil=>.nil
 |_,_,_,.cons r t=>.cons (r.mono s) (t.mono s)
theorem mN.mono{F F':Hp}(s:Zi F F'){ZE:List (List D)}{ws:List V}{ns:Zr}(h:mN K F ZE ws ns):mN K F' ZE ws ns:=by
 induction h with
 |nil=>exact .nil
 |cons r _ ih=>exact .cons (r.mono s) ih
theorem mH.mono{F F':Hp}(s:Zi F F'){sv:SV}{v:V}{ns:Zr}(h:mH K F sv v ns):mH K F' sv v ns:=by
 cases h with
 |fz h=>exact .fz (h.mono s)
 |ol r=>exact .ol (r.mono s)
 |oK e r=>exact .oK e (r.mono s)
 |oT kb e r=>exact .oT (kb.mono s) e (r.mono s)
 |oN e r=>exact .oN e (r.mono s)
 |oR e r=>exact .oR e (r.mono s)
 |oL hp r=>exact .oL hp (r.mono s)
 |oQ e r=>exact .oQ e (r.mono s)
 |oX kb e r=>exact .oX (kb.mono s) e (r.mono s)
 |oD r=>exact .oD (r.mono s)
 |oM kb e r=>exact .oM (kb.mono s) e (r.mono s)
def Qt(F:Hp):Zr->Hp
 | []=>F
 |p::r=>Yo (Qt F r) p.1 p.2
abbrev Mb(ns:Zr):List Addr:=ns.map (·.1)
theorem Jn{F:Hp}{b:aq}:∀{ns:Zr},b∉Mb ns->Qt F ns b=F b
 | [],_=>rfl
 |p::r,h=>by have h1:b≠p.1:=λe=>h (by rw[e];exact ac);have h2:b∉Mb r:=λe=>h (am _ e);show Yo (Qt F r) p.1 p.2 b=F b;rw[Zp h1,Jn h2]
theorem Tw{F:Hp}{p:aq×HO}:∀{ns:Zr},(Mb ns).Nodup->p∈ns->Qt F ns p.1=aA p.2
 | [],_,h=>nomatch h
 |q::r,nd,h=>by
  obtain⟨n1,n2⟩:=fq.mp nd;show Yo (Qt F r) q.1 q.2 p.1=aA p.2;rcases ay.mp h with e|e
  .subst e;exact Z8
  .rw[Zp λz=>n1 (ax.mpr ⟨p,e,z⟩)];exact Tw n2 e
theorem Qa{F:Hp}{ns:Zr}(h:∀p∈ns,F p.1=aB):Zi F (Qt F ns):=λb o e=>by
 by_cases hb:b∈Mb ns
 .obtain⟨p,hp,ep⟩:=ax.mp hb;subst ep;rw[h p hp]at e;cases e
 .rw[Jn hb];exact e
theorem Ld{F H:Hp}{ns:Zr}(nd:(Mb ns).Nodup)(le:Zi F H)(h:∀p∈ns,H p.1=aA p.2):Zi (Qt F ns) H:=λb o e=>by
 by_cases hb:b∈Mb ns
 .obtain⟨p,hp,ep⟩:=ax.mp hb;subst ep;rw[Tw nd hp]at e;cases e;exact h p hp
 .rw[Jn hb]at e;exact le b o e
theorem Pf{Z:Hp×Hp}{F:Hp}{ns:Zr}(nd:(Mb ns).Nodup)(fro:∀(b:aq) (o:HO),F b=aA o->Z.2 b=aA o\/Z.1 b=aB)(hz:∀p∈ns,Z.1 p.1=aB):∀(b:aq) (o:HO),Qt F ns b=aA o->Z.2 b=aA o\/Z.1 b=aB:=λb o e=>by
 by_cases hb:b∈Mb ns
 .obtain⟨p,hp,ep⟩:=ax.mp hb;subst ep;exact .inr (hz p hp)
 .rw[Jn hb]at e;exact fro b o e
theorem mN.rep{F F':Hp}(s:Zi F F'):∀{ZE:List (List D)} {ws:List V} {ns:Zr},mN K F ZE ws ns->(∀p∈ns,F' p.1=aA p.2)->mD K F' (ZE.map D.lst) ws
 |_,_,_,.nil,_=>.nil
 |_,_,_,.cons r t,h=>.cons (.lst (.inl (.inl (h _ ac))) (.inl (h _ ac)) (r.mono s)) (t.rep s λp hp=>h p (am _ hp))
theorem KidD.rep{F F':Hp}(s:Zi F F'):∀{WJ:List (List Key×List D)} {ws:List V} {ns:Zr},KidD K F WJ ws ns->(∀p∈ns,F' p.1=aA p.2)->mD K F' (WJ.map λp=>.dK p.1 p.2) ws
 |_,_,_,.nil,_=>.nil
 |_,_,_,.cons r t,h=>.cons (.dK (h _ ac) rfl (r.mono s)) (t.rep s λp hp=>h p (am _ hp))
theorem mH.rep{F:Hp}{sv:SV}{v:V}{ns:Zr}(h:mH K F sv v ns)(nd:(Mb ns).Nodup)(hn:∀p∈ns,F p.1=aB):mI K (Qt F ns) sv.toD v:=by
 have s:=Qa hn;have a:∀p∈ns,Qt F ns p.1=aA p.2:=λp hp=>Tw nd hp;cases h with
 |fz h=>exact h
 |ol r=>exact .lst (.inl (.inl (a (_,_) ac))) (.inl (a (_,_) ac)) (r.mono s)
 |oK e r=>exact .dK (a (_,_) ac) e (r.mono s)
 |oT kb e r=>exact .dT (a (_,_) ac) (kb.mono s) e (r.mono s)
 |oN e r=>exact .dK (a (_,_) ac) e (r.rep s λp hp=>a p (am _ hp))
 |oR e r=>exact .dK (a (_,_) ac) e (r.rep s λp hp=>a p (am _ hp))
 |oL _ r=>exact .lst (.inl (.inl (a (_,_) ac))) (.inl (a (_,_) ac)) (r.rep s λp hp=>a p (am _ hp))
 |oQ e r=>exact .dK (a (_,_) ac) e (r.mono s)
 |oX kb e r=>exact .dX (a (_,_) ac) (kb.mono s) e (r.rep s λp hp=>a p (am _ hp))
 |oD r=>exact .lst (.inl (.inl (a (_,_) ac))) (.inl (a (_,_) ac)) (r.rep s λp hp=>a p (am _ hp))
 |oM kb e r=>exact .dX (a (_,_) ac) (kb.mono s) e (r.mono s)
noncomputable abbrev Ym:=List (Option SV)
set_option genInjectivity false in
structure mF(K:ad)where
 h:Hp
 f:Hp
 x:EXT
abbrev ent(H F:Hp):mF K:=⟨H,F,λ_ _ _ _=>False⟩
set_option genInjectivity false in
structure Exn where
 c:Str
 ks:List Str:=[]
 vs:List D:=[]
def uI(K:ad)(F:Hp)(e:Exn)(cls:aj)(od:Option aq):Prop:=∃C,Pd K e.c C/\cls= .ref C/\match od with
 |none=>e.ks=[]/\e.vs=[]
 |some dx=>∃fs:List (Str×V),F dx=aA (.xd fs)/\fs.map (·.1)=e.ks/\mD K F e.vs (fs.map (·.2))
structure SR(Z:mF K)(F H:Hp)(σ:St)(δ:Ym)(own:Nat->Zr):Prop where
 le:Zi F H
 fro:∀(b:aq) (o:HO),F b=aA o->Z.f b=aA o\/Z.h b=aB
 old:Zi Z.h H
 len:σ.length=δ.length
 at':∀(i:Nat) (sv:SV),δ[i]? =aA (aA sv)->∃v,σ[i]? =aA (aA v)/\mH K F sv v (own i)
 nod:∀i:Nat,(Mb (own i)).Nodup
 ok:∀(i:Nat) (p:aq×HO),p∈own i->F p.1=aB/\Z.h p.1=aB/\H p.1=aA p.2
 sep:∀(i j:Nat) (p q:aq×HO),i≠j->p∈own i->q∈own j->p.1≠q.1
inductive RV where
 |tmp (sv:SV)|bw (i:Nat)
structure mR(Z:mF K)(F H:Hp)(own:Nat->Zr)(sv:SV)(v:V)(ns:Zr):Prop where
 sh:mH K F sv v ns
 nd:(Mb ns).Nodup
 ok:∀p∈ns,F p.1=aB/\Z.h p.1=aB/\H p.1=aA p.2
 sep:∀(i:Nat) (p q:aq×HO),p∈ns->q∈own i->p.1≠q.1
def Hc(Z:mF K)(F H:Hp)(σ:St)(own:Nat->Zr):RV->V->Prop
 | .tmp sv,v=>∃ns,mR Z F H own sv v ns
 | .bw i,v=>σ[i]? =aA (aA v)
theorem mR.fz{Z:mF K}{F H:Hp}{own:Nat->Zr}{d:D}{v:V}(h:mI K F d v):mR Z F H own (.fz d) v []:=
 ⟨.fz h,cx,λ_ h=>(nomatch h),λ_ _ _ h=>(nomatch h)⟩
theorem Wq{H:Hp}{p:aq}{o:HO}(h:H p=aB):Zi H (Yo H p o):=λb u e=>by rw[Zp λz=>by rw[z,h]at e;cases e];exact e
theorem SR.grow{Z:mF K}{F H H':Hp}{σ:St}{δ:Ym}{own:Nat->Zr}(s:SR Z F H σ δ own)(h:Zi H H'):SR Z F H' σ δ own:=
 ⟨s.le.trans h,s.fro,s.old.trans h,s.len,s.at',s.nod,λi p hp=>let⟨a,b,c⟩:=s.ok i p hp;⟨a,b,h _ _ c⟩,s.sep⟩
theorem SR.addF{Z:mF K}{F H:Hp}{σ:St}{δ:Ym}{own:Nat->Zr}{ns:Zr}(s:SR Z F H σ δ own)(nd:(Mb ns).Nodup)(hn:∀p∈ns,F p.1=aB)(hH:∀p∈ns,H p.1=aA p.2)(hz:∀p∈ns,Z.h p.1=aB)
  (hs:∀(i:Nat) (p q:aq×HO),p∈ns->q∈own i->p.1≠q.1):SR Z (Qt F ns) H σ δ own:=by
 have sm:=Qa hn;refine⟨Ld nd s.le hH,Pf (Z:=(Z.h,Z.f)) nd s.fro hz,s.old,s.len,λi sv e=>?_,s.nod,λi p hp=>?_,s.sep⟩
 .obtain⟨v,h1,h2⟩:=s.at' i sv e;exact⟨v,h1,h2.mono sm⟩
 .obtain⟨a,b,c⟩:=s.ok i p hp;refine⟨?_,b,c⟩;rw[Jn λhb=>?_]
  .exact a
  .obtain⟨q,hq,e⟩:=ax.mp hb;exact hs i q p hq hp e
theorem SR.settle{Z:mF K}{F H:Hp}{σ:St}{δ:Ym}{own:Nat->Zr}{sv:SV}{v:V}{ns:Zr}(s:SR Z F H σ δ own)(t:mR Z F H own sv v ns):
  ∃F1,Zi F F1/\SR Z F1 H σ δ own/\mI K F1 sv.toD v:=
 ⟨Qt F ns,Qa λp hp=>(t.ok p hp).1,s.addF t.nd (λp hp=>(t.ok p hp).1) (λp hp=>(t.ok p hp).2.2) (λp hp=>(t.ok p hp).2.1) t.sep,t.sh.rep t.nd λp hp=>(t.ok p hp).1⟩
def put(own:Nat->Zr)(i:Nat)(ns:Zr):Nat->Zr:=λj=>if j=i then ns else own j
theorem Z6{own:Nat->Zr}{i:Nat}{ns:Zr}:put own i ns i=ns:=m6 rfl
theorem Ye{own:Nat->Zr}{i j:Nat}{ns:Zr}(h:j≠i):put own i ns j=own j:=m4 h
theorem SR.freeze{Z:mF K}{F H:Hp}{σ:St}{δ:Ym}{own:Nat->Zr}{i:Nat}{sv:SV}(s:SR Z F H σ δ own)(e:δ[i]? =aA (aA sv)):
  ∃F1 v,Zi F F1/\σ[i]? =aA (aA v)/\mI K F1 sv.toD v/\SR Z F1 H σ (δ.set i (aA (.fz sv.toD))) (put own i []):=by
 obtain⟨v,h1,h2⟩:=s.at' i sv e;have hn:∀p∈own i,F p.1=aB:=λp hp=>(s.ok i p hp).1;have sm:=Qa hn;have hi:i<δ.length:=(aw.mp e).1;refine⟨Qt F (own i),v,sm,h1,h2.rep (s.nod i) hn,⟨Ld (s.nod i) s.le λp hp=>(s.ok i p hp).2.2,Pf (Z:=(Z.h,Z.f)) (s.nod i) s.fro λp hp=>(s.ok i p hp).2.1,s.old,by rw[gp];exact s.len,λj sw ej=>?_,λj=>?_,λj p hp=>?_,λj k p q WD hp hq=>?_⟩⟩
 .by_cases hj:j=i
  .subst hj;rw[c9 hi]at ej;cases ej;rw[Z6];exact⟨v,h1,.fz (h2.rep (s.nod j) hn)⟩
  .rw[cz (Ne.symm hj)]at ej;obtain⟨w,g1,g2⟩:=s.at' j sw ej;rw[Ye hj];exact⟨w,g1,g2.mono sm⟩
 .by_cases hj:j=i
  .subst hj;rw[Z6];exact cx
  .rw[Ye hj];exact s.nod j
 .by_cases hj:j=i
  .subst hj;rw[Z6]at hp;exact nomatch hp
  .rw[Ye hj]at hp;obtain⟨a,b,c⟩:=s.ok j p hp;refine⟨?_,b,c⟩;rw[Jn λhb=>?_]
   .exact a
   .obtain⟨q,hq,z⟩:=ax.mp hb;exact s.sep i j q p (Ne.symm hj) hq hp z
 .by_cases hj:j=i
  .subst hj;rw[Z6]at hp;exact nomatch hp
  .by_cases hk:k=i
   .subst hk;rw[Z6]at hq;exact nomatch hq
   .rw[Ye hj]at hp;rw[Ye hk]at hq;exact s.sep j k p q WD hp hq
theorem SR.store{Z:mF K}{F H:Hp}{σ:St}{δ:Ym}{own:Nat->Zr}{i:Nat}{sv:SV}{v:V}{ns:Zr}(s:SR Z F H σ δ own)(t:mR Z F H own sv v ns)(hi:i<σ.length):
  SR Z F H (σ.set i (aA v)) (δ.set i (aA sv)) (put own i ns):=by
 refine⟨s.le,s.fro,s.old,by rw[gp,gp];exact s.len,λj sw ej=>?_,λj=>?_,λj p hp=>?_,λj k p q WD hp hq=>?_⟩
 .by_cases hj:j=i
  .subst hj;have hd:j<δ.length:=by have:=(aw.mp ej).1;simpa using this
   rw[c9 hd]at ej;cases ej;rw[Z6,c9 hi];exact⟨v,rfl,t.sh⟩
  .rw[cz (Ne.symm hj)]at ej;rw[Ye hj,cz (Ne.symm hj)];exact s.at' j sw ej
 .by_cases hj:j=i
  .subst hj;rw[Z6];exact t.nd
  .rw[Ye hj];exact s.nod j
 .by_cases hj:j=i
  .subst hj;rw[Z6]at hp;exact t.ok p hp
  .rw[Ye hj]at hp;exact s.ok j p hp
 .by_cases hj:j=i
  .subst hj;rw[Z6]at hp;rw[Ye (Ne.symm WD)]at hq;exact t.sep k p q hp hq
  .by_cases hk:k=i
   .subst hk;rw[Z6]at hq;rw[Ye hj]at hp;exact Ne.symm (t.sep j q p hq hp)
   .rw[Ye hj]at hp;rw[Ye hk]at hq;exact s.sep j k p q WD hp hq
theorem SR.change{Z:mF K}{F H:Hp}{σ:St}{δ:Ym}{own:Nat->Zr}{i:Nat}{sv sv':SV}{a:aq}{o o':HO}{v:V}{ns':Zr}(s:SR Z F H σ δ own)(e:δ[i]? =aA (aA sv))(hv:σ[i]? =aA (aA v))
  (ha:(a,o)∈own i) (hs:mH K F sv' v ns') (VW:∀p∈ns',p=(a,o')\/(p∈own i/\p.1≠a)) (nd:(Mb ns').Nodup):SR Z F (Yo H a o') σ (δ.set i (aA sv')) (put own i ns'):=by
 obtain⟨fa,UL,hHa⟩:=s.ok i (a,o) ha;have hi:i<δ.length:=(aw.mp e).1;refine⟨λb u eb=>?_,s.fro,λb u eb=>?_,by rw[gp];exact s.len,λj sw ej=>?_,λj=>?_,λj p hp=>?_,λj k p q WD hp hq=>?_⟩
 .rw[Zp λz=>by rw[z]at eb;rw[fa]at eb;cases eb];exact s.le b u eb
 .rw[Zp λz=>by rw[z]at eb;rw[UL]at eb;cases eb];exact s.old b u eb
 .by_cases hj:j=i
  .subst hj;rw[c9 hi]at ej;cases ej;rw[Z6];exact⟨v,hv,hs⟩
  .rw[cz (Ne.symm hj)]at ej;rw[Ye hj];exact s.at' j sw ej
 .by_cases hj:j=i
  .subst hj;rw[Z6];exact nd
  .rw[Ye hj];exact s.nod j
 .by_cases hj:j=i
  .subst hj;rw[Z6]at hp;rcases VW p hp with z|⟨z,ne⟩
   .subst z;exact⟨fa,UL,Z8⟩
   .obtain⟨x,y,w⟩:=s.ok j p z;exact⟨x,y,by rw[Zp ne];exact w⟩
  .rw[Ye hj]at hp;obtain⟨x,y,w⟩:=s.ok j p hp;exact⟨x,y,by rw[Zp (s.sep j i p (a,o) hj hp ha)];exact w⟩
 .have own':∀r∈ns',∃r'∈own i,r.1=r'.1:=λr hr=>by
   rcases VW r hr with z|⟨z,_⟩
   .subst z;exact⟨(a,o),ha,rfl⟩
   .exact⟨r,z,rfl⟩
  by_cases hj:j=i
  .subst hj;rw[Z6]at hp;rw[Ye (Ne.symm WD)]at hq;obtain⟨r',KL,er⟩:=own' p hp;rw[er];exact s.sep j k r' q WD KL hq
  .by_cases hk:k=i
   .subst hk;rw[Z6]at hq;rw[Ye hj]at hp;obtain⟨r',KL,er⟩:=own' q hq;rw[er];exact s.sep j k p r' WD hp KL
   .rw[Ye hj]at hp;rw[Ye hk]at hq;exact s.sep j k p q WD hp hq
end
section
variable{K:ad}
abbrev FE:=Ym->Option (RV×Ym)
abbrev FT:=Ym->Option (Bool×Ym)
abbrev FA:=Ym->Option (List RV×Ym)
abbrev FD:=Ym->Option (List D×Ym)
@[simp]noncomputable def SV.nested:SV->Bool
 | .oN _ _=>aC
 | .oR _ _ _=>aC
 | .oL _ _=>aC
 | .oX _ _=>aC
 | .oD _=>aC
 | .oM _ _=>aC
 |_=>aD
@[simp]def rdv:RV->Ym->Option D
 | .tmp sv,_=>aA sv.toD
 | .bw i,δ=>(δ[i]?.join).bind λsv=>if sv.nested then aB else aA sv.toD
@[simp]def frz:RV->Ym->Option (D×Ym)
 | .tmp sv,δ=>aA (sv.toD,δ)
 | .bw i,δ=>(δ[i]?.join).bind λsv=>aA (sv.toD,δ.set i (aA (.fz sv.toD)))
theorem U0{δ:Ym}{i:Nat}{sv:SV}(h:δ[i]?.join=aA sv):δ[i]? =aA (aA sv):=by
 cases e:δ[i]? with
 |none=>rw[e]at h;cases h
 |some o=>rw[e]at h;cases o with
  |none=>cases h
  |some s=>cases h;rfl
def Zf(Z:mF K)(f:FE):TE:=λσ H Q=>∃F δ own rv δ',SR Z F H σ δ own/\f δ=aA (rv,δ')/\
 ∀v H' F' own',Zi H H'->Zi F F'->SR Z F' H' σ δ' own'->Hc Z F' H' σ own' rv v->Q v H'
def Yh(Z:mF K)(f:FT):TT:=λσ H Q=>∃F δ own b δ',SR Z F H σ δ own/\f δ=aA (b,δ')/\
 ∀H' F' own',Zi H H'->Zi F F'->SR Z F' H' σ δ' own'->Q b H'
def RVS(K:ad)(F:Hp)(σ:St):RV->V->Prop
 | .tmp sv,v=>mI K F sv.toD v
 | .bw i,v=>σ[i]? =aA (aA v)
inductive RVSs(K:ad)(F:Hp)(σ:St):List RV->List V->Prop where
 |nil:RVSs K F σ [] []
 |cons {rv:RV} {v:V} {rvs:List RV} {vs:List V} (h:RVS K F σ rv v) (t:RVSs K F σ rvs vs):RVSs K F σ (rv::rvs) (v::vs)
def U1(Z:mF K)(f:FA):TA:=λσ H Q=>∃F δ own rvs δ',SR Z F H σ δ own/\f δ=aA (rvs,δ')/\
 ∀vs H' F' own',Zi H H'->Zi F F'->SR Z F' H' σ δ' own'->RVSs K F' σ rvs vs->Q vs H'
def Y3(Z:mF K)(f:FD):TA:=λσ H Q=>∃F δ own ds δ',SR Z F H σ δ own/\f δ=aA (ds,δ')/\
 ∀vs H' F' own',Zi H H'->Zi F F'->SR Z F' H' σ δ' own'->mD K F' ds vs->Q vs H'
section
variable{Z:mF K}{F H F' H':Hp}{σ:St}{δ δ':Ym}{own:Nat->Zr}{rv:RV}{v:V}{d:D}{Q:VK}
theorem RVS.mono(s:Zi F F')(h:RVS K F σ rv v):RVS K F' σ rv v:=by
 cases rv with
 |tmp sv=>exact mI.mono s h
 |bw i=>exact h
theorem SR.settleR(s:SR Z F H σ δ own)(h:Hc Z F H σ own rv v):∃F1,Zi F F1/\SR Z F1 H σ δ own/\RVS K F1 σ rv v:=by
 cases rv with
 |tmp sv=>obtain⟨ns,t⟩:=h;exact s.settle t
 |bw i=>exact⟨F,Zi.refl F,s,h⟩
theorem SR.frzR(s:SR Z F H σ δ own)(h:RVS K F σ rv v)(e:frz rv δ=aA (d,δ')):∃F1 ZB,Zi F F1/\SR Z F1 H σ δ' ZB/\mI K F1 d v:=by
 cases rv with
 |tmp sv=>cases e;exact⟨F,own,Zi.refl F,s,h⟩
 |bw i=>obtain⟨sv,e1,e2⟩:=aa.mp e;cases e2;obtain⟨F1,w,h1,h2,h3,h4⟩:=s.freeze (U0 e1);have h':σ[i]? =aA (aA v):=h;rw[h']at h2;cases h2;exact⟨F1,_,h1,h4,h3⟩
def Yb(K:ad)(F H:Hp)(d:D)(v:V):Prop:=∃sv ns,sv.toD=d/\sv.nested=aD/\mH K F sv v ns/\∀p∈ns,H p.1=aA p.2
theorem Yb.of(h:mI K F d v):Yb K F H d v:=⟨.fz d,[],rfl,rfl,.fz h,λ_ h=>nomatch h⟩
theorem SR.rd(s:SR Z F H σ δ own)(h:RVS K F σ rv v)(e:rdv rv δ=aA d):Yb K F H d v:=by
 cases rv with
 |tmp sv=>cases e;exact Yb.of h
 |bw i=>
  obtain⟨sv,e1,e2⟩:=aa.mp e;cases hn:sv.nested with
  |true=>rw[hn]at e2;cases e2
  |false=>rw[hn]at e2;cases e2;obtain⟨w,h1,h2⟩:=s.at' i sv (U0 e1);have h':σ[i]? =aA (aA v):=h;rw[h']at h1;cases h1;exact⟨sv,own i,rfl,hn,h2,λp hp=>(s.ok i p hp).2.2⟩
inductive RepNs(K:ad)(F H:Hp):List D->List V->Prop where
 |nil:RepNs K F H [] []
 |cons {d:D} {v:V} {ds:List D} {vs:List V} (h:Yb K F H d v) (t:RepNs K F H ds vs):RepNs K F H (d::ds) (v::vs)
theorem Yb.non(h:Yb K F H .non v):v= .non:=by
 obtain⟨sv,ns,e,n,sh,hp⟩:=h;cases sh with
 |fz r=>cases e;cases r;rfl
 |ol r=>cases e
 |oK e' r=>cases e
 |oT kb e' r=>cases e
 |oN e' r=>cases n
 |oR e' r=>cases n
 |oX kb' e' r=>cases n
 |oD r=>cases n
 |oM kb' e' r=>cases n
 |oL _ r=>cases n
 |oQ e' r=>cases e
theorem Yb.bl{b:Bool}(h:Yb K F H (.bl b) v):v= .bl b:=by
 obtain⟨sv,ns,e,n,sh,hp⟩:=h;cases sh with
 |fz r=>cases e;cases r;rfl
 |ol r=>cases e
 |oK e' r=>cases e
 |oT kb e' r=>cases e
 |oN e' r=>cases n
 |oR e' r=>cases n
 |oX kb' e' r=>cases n
 |oD r=>cases n
 |oM kb' e' r=>cases n
 |oL _ r=>cases n
 |oQ e' r=>cases e
theorem Yb.int{i:Int}(h:Yb K F H (.int i) v):v= .int i:=by
 obtain⟨sv,ns,e,n,sh,hp⟩:=h;cases sh with
 |fz r=>cases e;cases r;rfl
 |ol r=>cases e
 |oK e' r=>cases e
 |oT kb e' r=>cases e
 |oN e' r=>cases n
 |oR e' r=>cases n
 |oX kb' e' r=>cases n
 |oD r=>cases n
 |oM kb' e' r=>cases n
 |oL _ r=>cases n
 |oQ e' r=>cases e
theorem Yb.str{x:Str}(h:Yb K F H (.str x) v):v= .str x:=by
 obtain⟨sv,ns,e,n,sh,hp⟩:=h;cases sh with
 |fz r=>cases e;cases r;rfl
 |ol r=>cases e
 |oK e' r=>cases e
 |oT kb e' r=>cases e
 |oN e' r=>cases n
 |oR e' r=>cases n
 |oX kb' e' r=>cases n
 |oD r=>cases n
 |oM kb' e' r=>cases n
 |oL _ r=>cases n
 |oQ e' r=>cases e
theorem Yb.tup{xs:List D}(le:Zi F H)(h:Yb K F H (.tup xs) v):∃a vs,v= .ref a/\Rl K H a vs/\mD K F xs vs:=by
 obtain⟨sv,ns,e,n,sh,hp⟩:=h;cases sh with
 |fz r=>cases e;cases r with|tup h r=>exact⟨_,_,rfl,W3 le (Ue h),r⟩
 |ol r=>cases e
 |oK e' r=>cases e
 |oT kb e' r=>cases e
 |oN e' r=>cases n
 |oR e' r=>cases n
 |oX kb' e' r=>cases n
 |oD r=>cases n
 |oM kb' e' r=>cases n
 |oL _ r=>cases n
 |oQ e' r=>cases e
theorem Yb.lst{xs:List D}(le:Zi F H)(h:Yb K F H (.lst xs) v):∃a vs,v= .ref a/\J3 K H a vs/\mD K F xs vs:=by
 obtain⟨sv,ns,e,n,sh,hp⟩:=h;cases sh with
 |fz r=>cases e;cases r with|lst h _ r=>exact⟨_,_,rfl,Yg le h,r⟩
 |ol r=>cases e;exact⟨_,_,rfl,.inl (.inl (hp _ ac)),r⟩
 |oK e' r=>cases e
 |oT kb e' r=>cases e
 |oN e' r=>cases n
 |oR e' r=>cases n
 |oX kb' e' r=>cases n
 |oD r=>cases n
 |oM kb' e' r=>cases n
 |oL _ r=>cases n
 |oQ e' r=>cases e
theorem Yb.lso{xs:List D}(le:Zi F H)(h:Yb K F H (.lso xs) v):∃a vs,v= .ref a/\J3 K H a vs/\mD K F xs vs:=by
 obtain⟨sv,ns,e,n,sh,hp⟩:=h;cases sh with
 |fz r=>cases e;cases r with|lso h r=>exact⟨_,_,rfl,Yg le h.sq,r⟩
 |ol r=>cases e
 |oK e' r=>cases e
 |oT kb e' r=>cases e
 |oN e' r=>cases n
 |oR e' r=>cases n
 |oX kb' e' r=>cases n
 |oD r=>cases n
 |oM kb' e' r=>cases n
 |oL _ r=>cases n
 |oQ e' r=>cases e
theorem Yb.dK{ks:List Key}{ds:List D}(le:Zi F H)(h:Yb K F H (.dK ks ds) v):∃a kvs,v= .ref a/\HK H a kvs/\kvs.map (·.1)=ks/\mD K F ds (kvs.map (·.2)):=by
 obtain⟨sv,ns,e,n,sh,hp⟩:=h;cases sh with
 |fz r=>cases e;cases r with|dK h e r=>exact⟨_,_,rfl,⟨_,le _ _ h⟩,e,r⟩
 |ol r=>cases e
 |oK e' r=>cases e;exact⟨_,_,rfl,⟨_,hp _ ac⟩,e',r⟩
 |oT kb e' r=>cases e
 |oN e' r=>cases n
 |oR e' r=>cases n
 |oX kb' e' r=>cases n
 |oD r=>cases n
 |oM kb' e' r=>cases n
 |oL _ r=>cases n
 |oQ e' r=>cases e;exact⟨_,_,rfl,⟨_,hp _ ac⟩,e',r⟩
theorem Yb.dT{ks:List (List Key)}{ds:List D}(le:Zi F H)(h:Yb K F H (.dT ks ds) v):∃a kvs,v= .ref a/\HTt H a kvs/\kvs.map (·.1)=ks/\mD K F ds (kvs.map (·.2)):=by
 obtain⟨sv,ns,e,n,sh,hp⟩:=h;cases sh with
 |fz r=>cases e;cases r with|dT h kb e r=>exact⟨_,_,rfl,⟨_,_,le _ _ h⟩,e,r⟩
 |ol r=>cases e
 |oK e' r=>cases e
 |oT kb e' r=>cases e;exact⟨_,_,rfl,⟨_,_,hp _ ac⟩,e',r⟩
 |oN e' r=>cases n
 |oR e' r=>cases n
 |oX kb' e' r=>cases n
 |oD r=>cases n
 |oM kb' e' r=>cases n
 |oL _ r=>cases n
 |oQ e' r=>cases e
end
theorem Ev{a:aq}:([a]:List aq).Nodup:=fq.mpr ⟨λh=>(nomatch h),cx⟩
def Fin(Z:mF K)(F H:Hp)(σ:St)(δ:Ym)(own:Nat->Zr)(sv:SV)(Q:VK):Prop:=
 ∀v H' F' ns,Zi H H'->Zi F F'->SR Z F' H' σ δ own->mR Z F' H' own sv v ns->Q v H'
section
variable{Z:mF K}{F H:Hp}{σ:St}{δ:Ym}{own:Nat->Zr}{Q:VK}
theorem Fin.fz{d:D}{v:V}(f:Fin Z F H σ δ own (.fz d) Q)(s:SR Z F H σ δ own)(h:mI K F d v):Q v H:=f v H F [] (Zi.refl H) (Zi.refl F) s (.fz h)
theorem Fin.one{sv:SV}{o:HO}{p:aq}(f:Fin Z F H σ δ own sv Q)(s:SR Z F H σ δ own)(sh:mH K F sv (.ref p) [(p,o)])(hp:H p=aB):Q (.ref p) (Yo H p o):=by
 have sm:=Wq (o:=o) hp;refine f (.ref p) (Yo H p o) F [(p,o)] sm (Zi.refl F) (s.grow sm) ⟨sh,Ev,λq hq=>?_,λi q r hq hr=>?_⟩
 .obtain rfl:=ak.mp hq;exact⟨s.le.free hp,s.old.free hp,Z8⟩
 .obtain rfl:=ak.mp hq;intro e;have e':p=r.1:=e;have z:=(s.ok i r hr).2.2;rw[<-e',hp]at z;cases z
theorem Fin.lst{xs:List D}{vs:List V}{p:aq}(f:Fin Z F H σ δ own (.ol xs) Q)(s:SR Z F H σ δ own)(r:mD K F xs vs)(hp:H p=aB):Q (.ref p) (Yo H p (.lst vs)):=f.one s (.ol r) hp
theorem Fin.tup{xs:List D}{vs:List V}{p:aq}(f:Fin Z F H σ δ own (.fz (.tup xs)) Q)(s:SR Z F H σ δ own)(r:mD K F xs vs)(hp:H p=aB):Q (.ref p) (Yo H p (.tup vs)):=by
 have sm:=Wq (o:=.tup vs) hp;have sF:Zi F (Qt F [(p,.tup vs)]):=Qa λq hq=>by obtain rfl:=ak.mp hq;exact s.le.free hp
 refine f (.ref p) (Yo H p (.tup vs)) (Qt F [(p,.tup vs)]) [] sm sF ?_ (.fz (.tup Z8 (r.mono sF)));refine(s.grow sm).addF (Ev) (λq hq=>?_) (λq hq=>?_) (λq hq=>?_) λi q u hq hu=>?_
 .obtain rfl:=ak.mp hq;exact s.le.free hp
 .obtain rfl:=ak.mp hq;exact Z8
 .obtain rfl:=ak.mp hq;exact s.old.free hp
 .obtain rfl:=ak.mp hq;intro e;have e':p=u.1:=e;have z:=(s.ok i u hu).2.2;rw[<-e',hp]at z;cases z
end
theorem Q6{F:Hp}{d:D}{v:V}{ns:Zr}(h:mH K F (.fz d) v ns):mI K F d v:=by
 cases h with
 |fz r=>exact r
section
variable{Z:mF K}{H:Hp}{σ:St}{Q:VK}
@[simp]def Zb(i:Nat):FE:=λδ=>match δ[i]? with
 |some (aA (.fz d))=>aA (.tmp (.fz d),δ)
 |some (aA _)=>aA (.bw i,δ)
 |_=>aB
theorem wm{i:Nat}(h:Zf Z (Zb i) σ H Q):Uo i σ H Q:=by
 obtain⟨F,δ,own,rv,δ',s,e,k⟩:=h;unfold Zb at e;split at e
 .rename_i d hd;cases e;obtain⟨v,h1,h2⟩:=s.at' i _ hd;exact⟨v,h1,k v H F own (Zi.refl H) (Zi.refl F) s ⟨[],.fz (Q6 h2)⟩⟩
 .rename_i sv hsv hd;cases e;obtain⟨v,h1,h2⟩:=s.at' i _ hd;exact⟨v,h1,k v H F own (Zi.refl H) (Zi.refl F) s h1⟩
 .cases e
@[simp]def Zg(d:D):FE:=λδ=>some (.tmp (.fz d),δ)
theorem Le{d:D}{v:V}(hr:∀F,mI K F d v)(h:Zf Z (Zg d) σ H Q):tC v σ H Q:=by obtain⟨F,δ,own,rv,δ',s,e,k⟩:=h;cases e;exact k v H F own (Zi.refl H) (Zi.refl F) s ⟨[],.fz (hr F)⟩
@[simp]def Zo:FA:=λδ=>some ([],δ)
@[simp]def Ze(fe:FE)(fa:FA):FA:=λδ=>(fe δ).bind λp=>(fa p.2).bind λq=>some (p.1::q.1,q.2)
theorem pF{R:List V->Hp->Prop}(h:U1 Z Zo σ H R):Tk σ H R:=by obtain⟨F,δ,own,rvs,δ',s,e,k⟩:=h;cases e;exact k [] H F own (Zi.refl H) (Zi.refl F) s .nil
theorem p6{fe:FE}{fa:FA}{R:List V->Hp->Prop}(h:U1 Z (Ze fe fa) σ H R):Oz (Zf Z fe) (U1 Z fa) σ H R:=by obtain⟨F,δ,own,rvs,δ',s,e,k⟩:=h;obtain⟨⟨rv,δ1⟩,e1,e2⟩:=aa.mp e;obtain⟨⟨rr,δ2⟩,e3,e4⟩:=aa.mp e2;cases e4;refine⟨F,δ,own,rv,δ1,s,e1,λv H1 F1 ZB sH sF s1 r1=>?_⟩;obtain⟨F2,ZH,s2,r2⟩:=s1.settleR r1;exact⟨F2,δ1,ZB,rr,δ2,s2,e3,λvs H3 F3 ZI Y_ ZT s3 r3=>k _ H3 F3 ZI (sH.trans Y_) (sF.trans (ZH.trans ZT)) s3 (.cons (r2.mono ZT) r3)⟩
@[simp]def Oc:List RV->Ym->Option (List D)
 | [],_=>aA []
 |rv::r,δ=>(rdv rv δ).bind λd=>(Oc r δ).bind λds=>aA (d::ds)
theorem SR.rdAll{F:Hp}{δ:Ym}{own:Nat->Zr}(s:SR Z F H σ δ own):∀{rvs:List RV} {vs:List V} {ds:List D},RVSs K F σ rvs vs->Oc rvs δ=aA ds->RepNs K F H ds vs
 |_,_,_,.nil,e=>by cases e;exact .nil
 |_,_,_,.cons h t,e=>by obtain⟨d,e1,e2⟩:=aa.mp e;obtain⟨ds,e3,e4⟩:=aa.mp e2;cases e4;exact .cons (s.rd h e1) (s.rdAll t e3)
@[simp]def Yi(g:List D->Option SV)(fa:FA):FE:=λδ=>(fa δ).bind λp=>(Oc p.1 p.2).bind λds=>(g ds).bind λsv=>some (.tmp sv,p.2)
def Bc(Z:mF K)(r:List V->Hp->VK->Prop)(g:List D->Option SV):Prop:=
 ∀(F H:Hp) (σ:St) (δ:Ym) (own:Nat->Zr) (vs:List V) (ds:List D) (sv:SV) (Q:VK),SR Z F H σ δ own->RepNs K F H ds vs->g ds=aA sv->Fin Z F H σ δ own sv Q->r vs H Q
theorem Lf{r:List V->Hp->VK->Prop}{g:List D->Option SV}{fa:FA}(hg:Bc Z r g)(h:Zf Z (Yi g fa) σ H Q):tCB r (U1 Z fa) σ H Q:=by obtain⟨F,δ,own,rv,δ',s,e,k⟩:=h;obtain⟨⟨rvs,δ1⟩,e1,e2⟩:=aa.mp e;obtain⟨ds,e3,e4⟩:=aa.mp e2;obtain⟨sv,e5,e6⟩:=aa.mp e4;cases e6;refine⟨F,δ,own,rvs,δ1,s,e1,λvs H1 F1 ZB sH sF s1 r1=>?_⟩;exact hg F1 H1 σ δ1 ZB vs ds sv Q s1 (s1.rdAll r1 e3) e5 λv H2 F2 ns XY ZH s2 t=>k v H2 F2 ZB (sH.trans XY) (sF.trans ZH) s2 ⟨ns,t⟩
@[simp]noncomputable def g2(g:D->D->Option SV):List D->Option SV
 | [x,y]=>g x y
 |_=>aB
@[simp]def Zj(g:D->D->Option SV)(fa fb:FE):FE:=Yi (g2 g) (Ze fa (Ze fb Zo))
def Y6(Z:mF K)(r:R2)(g:D->D->Option SV):Prop:=
 ∀(F H:Hp) (σ:St) (δ:Ym) (own:Nat->Zr) (x y:V) (d1 d2:D) (sv:SV) (Q:VK),SR Z F H σ δ own->Yb K F H d1 x->Yb K F H d2 y->g d1 d2=aA sv->Fin Z F H σ δ own sv Q->r x y H Q
theorem Ix{r:R2}{g:D->D->Option SV}{fa fb:FE}(hg:Y6 Z r g)(h:Zf Z (Zj g fa fb) σ H Q):Va r (Zf Z fa) (Zf Z fb) σ H Q:=by
 have hN:Bc Z (λvs H Q=>∃x y,vs=[x,y]/\r x y H Q) (g2 g):=by
  intro F H σ δ own vs ds sv Q s rs e f;cases rs with
  |nil=>cases e
  |cons h1 t1=>
   cases t1 with
   |nil=>cases e
   |cons h2 t2=>
    cases t2 with
    |nil=>exact⟨_,_,rfl,hg F H σ δ own _ _ _ _ sv Q s h1 h2 e f⟩
    |cons h3 t3=>cases e
 obtain⟨F,δ,own,rv,δ',s,e,k⟩:=Lf hN h;obtain⟨⟨W',δ1⟩,e1,e2⟩:=aa.mp e;obtain⟨⟨rr,δ2⟩,e3,e4⟩:=aa.mp e2;cases e4;obtain⟨⟨R_,XV⟩,e5,e6⟩:=aa.mp e3;obtain⟨⟨rr',δ4⟩,e7,e8⟩:=aa.mp e6;cases e8;cases e7;refine⟨F,δ,own,W',δ1,s,e1,λv H1 F1 ZB sH sF s1 r1=>?_⟩;obtain⟨F2,ZH,s2,r2⟩:=s1.settleR r1;refine⟨F2,δ1,ZB,R_,XV,s2,e5,λu H3 F3 ZI Y_ ZT s3 r3=>?_⟩;obtain⟨F4,YO,s4,r4⟩:=s3.settleR r3;obtain⟨x,y,yu,q⟩:=k [v,u] H3 F4 ZI (sH.trans Y_) (sF.trans (ZH.trans (ZT.trans YO))) s4 (.cons (r2.mono (ZT.trans YO)) (.cons r4 .nil));injection yu with ex ey
 injection ey with ey _;subst ex ey;exact q
@[simp]def unF(g:D->Option SV)(fa:FE):FE:=Yi (λ| [x]=>g x|_=>none) (Ze fa Zo)
def GF(Z:mF K)(r:V->Hp->VK->Prop)(g:D->Option SV):Prop:=
 ∀(F H:Hp) (σ:St) (δ:Ym) (own:Nat->Zr) (x:V) (d:D) (sv:SV) (Q:VK),SR Z F H σ δ own->Yb K F H d x->g d=aA sv->Fin Z F H σ δ own sv Q->r x H Q
theorem DB{r:V->Hp->VK->Prop}{g:D->Option SV}{fa:FE}(hg:GF Z r g)(h:Zf Z (unF g fa) σ H Q):tUn r (Zf Z fa) σ H Q:=by obtain⟨F,δ,own,rv,δ',s,e,k⟩:=h;obtain⟨⟨rvs,δ1⟩,e1,e2⟩:=aa.mp e;obtain⟨ds,e3,e4⟩:=aa.mp e2;obtain⟨sv,e5,e6⟩:=aa.mp e4;cases e6;obtain⟨⟨W',δ2⟩,e7,e8⟩:=aa.mp e1;obtain⟨⟨rr',δ4⟩,e9,e10⟩:=aa.mp e8;cases e10;cases e9;obtain⟨d,J_,JZ⟩:=aa.mp e3;cases JZ;refine⟨F,δ,own,W',δ2,s,e7,λv H1 F1 ZB sH sF s1 r1=>?_⟩;obtain⟨F2,ZH,s2,r2⟩:=s1.settleR r1;exact hg F2 H1 σ δ2 ZB v d sv Q s2 (s2.rd r2 J_) e5 λv H2 ot ns XY M' s2 t=>k v H2 ot ZB (sH.trans XY) (sF.trans (ZH.trans M')) s2 ⟨ns,t⟩
@[simp]def Zd:FD:=λδ=>some ([],δ)
@[simp]def Za(fe:FE)(fd:FD):FD:=λδ=>(fe δ).bind λp=>(frz p.1 p.2).bind λq=>(fd q.2).bind λr=>some (q.1::r.1,r.2)
theorem Iy{R:List V->Hp->Prop}(h:Y3 Z Zd σ H R):Tk σ H R:=by obtain⟨F,δ,own,rvs,δ',s,e,k⟩:=h;cases e;exact k [] H F own (Zi.refl H) (Zi.refl F) s .nil
theorem Tx{fe:FE}{fd:FD}{R:List V->Hp->Prop}(h:Y3 Z (Za fe fd) σ H R):Oz (Zf Z fe) (Y3 Z fd) σ H R:=by obtain⟨F,δ,own,rvs,δ',s,e,k⟩:=h;obtain⟨⟨rv,δ1⟩,e1,e2⟩:=aa.mp e;obtain⟨⟨d,δ2⟩,e3,e4⟩:=aa.mp e2;obtain⟨⟨ds,XV⟩,e5,e6⟩:=aa.mp e4;cases e6;refine⟨F,δ,own,rv,δ1,s,e1,λv H1 F1 ZB sH sF s1 r1=>?_⟩;obtain⟨F2,ZH,s2,r2⟩:=s1.settleR r1;obtain⟨F3,ZI,ZT,s3,r3⟩:=s2.frzR r2 e3;exact⟨F3,δ2,ZI,ds,XV,s3,e5,λvs H4 F4 YF W_ YO s4 r4=>k _ H4 F4 YF (sH.trans W_) (sF.trans (ZH.trans (ZT.trans YO))) s4 (.cons (r3.mono YO) r4)⟩
@[simp]def tupF(fd:FD):FE:=λδ=>(fd δ).bind λp=>if p.1.length<=cj then some (.tmp (.fz (.tup p.1)),p.2)else none
@[simp]def Yn(fd:FD):FE:=λδ=>(fd δ).bind λp=>if p.1.length<=cj then some (.tmp (.ol p.1),p.2)else none
theorem wl{fd:FD}(h:Zf Z (tupF fd) σ H Q):MR (Y3 Z fd) σ H Q:=by
 obtain⟨F,δ,own,rv,δ',s,e,k⟩:=h;obtain⟨⟨ds,δ1⟩,e1,e2⟩:=aa.mp e;by_cases hz:ds.length<=cj
 .rw[m6 hz]at e2;cases e2;refine⟨F,δ,own,ds,δ1,s,e1,λvs H1 F1 ZB sH sF s1 r1=>⟨by rw[<-r1.length];exact hz,λp hp=>?_⟩⟩;exact Fin.tup (λv H2 F2 ns a b c t=>k v H2 F2 ZB (sH.trans a) (sF.trans b) c ⟨ns,t⟩) s1 r1 hp
 .rw[m4 hz]at e2;cases e2
theorem wk{fd:FD}(h:Zf Z (Yn fd) σ H Q):IP (Y3 Z fd) σ H Q:=by
 obtain⟨F,δ,own,rv,δ',s,e,k⟩:=h;obtain⟨⟨ds,δ1⟩,e1,e2⟩:=aa.mp e;by_cases hz:ds.length<=cj
 .rw[m6 hz]at e2;cases e2;refine⟨F,δ,own,ds,δ1,s,e1,λvs H1 F1 ZB sH sF s1 r1=>⟨by rw[<-r1.length];exact hz,λp hp=>?_⟩⟩;exact Fin.lst (λv H2 F2 ns a b c t=>k v H2 F2 ZB (sH.trans a) (sF.trans b) c ⟨ns,t⟩) s1 r1 hp
 .rw[m4 hz]at e2;cases e2
end
@[simp]noncomputable def SV.scal:SV->Bool
 | .fz .non=>aC
 | .fz (.bl _)=>aC
 | .fz (.int _)=>aC
 | .fz (.str _)=>aC
 |_=>aD
def Wk(K:ad)(n:Nat)(g:List D->Option SV):Sp:=λvs H Q _=>∃F ds sv,Zi F H/\mD K F ds vs/\ds.length=n/\g ds=aA sv/\
 ∀v H' F' ns,Zi H H'->Zi F F'->Zi F' H'->(∀(b:aq) (o:HO),F' b=aA o->F b=aA o\/H b=aB)->mH K F' sv v ns->(Mb ns).Nodup->(∀p∈ns,F' p.1=aB/\H p.1=aB/\H' p.1=aA p.2)->Q v H'
@[simp]def frzAll:List RV->Ym->Option (List D×Ym)
 | [],δ=>aA ([],δ)
 |rv::r,δ=>(frz rv δ).bind λp=>(frzAll r p.2).bind λq=>aA (p.1::q.1,q.2)
theorem RVSs.mono{F F':Hp}{σ:St}(s:Zi F F'){rvs:List RV}{vs:List V}(h:RVSs K F σ rvs vs):RVSs K F' σ rvs vs:=by
 induction h with
 |nil=>exact .nil
 |cons h _ ih=>exact .cons (h.mono s) ih
section
variable{Z:mF K}{H:Hp}{σ:St}{Q:VK}
theorem SR.frzAll{F:Hp}{δ:Ym}{own:Nat->Zr}:∀{rvs:List RV} {vs:List V} {ds:List D} {δ':Ym} {F:Hp} {δ:Ym} {own:Nat->Zr},SR Z F H σ δ own->RVSs K F σ rvs vs->L2.frzAll rvs δ=aA (ds,δ')->
  ∃F1 ZB,Zi F F1/\SR Z F1 H σ δ' ZB/\mD K F1 ds vs
 |_,_,_,_,F,_,own,s,.nil,e=>by cases e;exact⟨F,own,Zi.refl F,s,.nil⟩
 |_,_,_,_,F,_,own,s,.cons h t,e=>by obtain⟨⟨d,δ1⟩,e1,e2⟩:=aa.mp e;obtain⟨⟨ds,δ2⟩,e3,e4⟩:=aa.mp e2;cases e4;obtain⟨F1,ZB,XZ,s1,r1⟩:=s.frzR h e1;obtain⟨F2,own2,ZH,s2,r2⟩:=SR.frzAll (own:=own) (F:=F) (δ:=δ1) s1 (t.mono XZ) e3;exact⟨F2,own2,XZ.trans ZH,s2,.cons (r1.mono ZH) r2⟩
@[simp]def Y2(n:Nat)(g:List D->Option SV)(fa:FA):FE:=λδ=>(fa δ).bind λp=>(L2.frzAll p.1 p.2).bind λq=>if q.1.length=n then(g q.1).bind λsv=>some (.tmp sv,if sv.scal then p.2 else q.2)else none
theorem pE{F F':Hp}{sv:SV}{v:V}{ns:Zr}(h:sv.scal=aC)(sh:mH K F sv v ns):ns=[]/\mH K F' sv v []:=by
 cases sh with
 |fz r=>
  refine⟨rfl,.fz ?_⟩;cases r with
  |non=>exact .non
  |bl b=>exact .bl b
  |int i=>exact .int i
  |str x=>exact .str x
  |tup _ _=>cases h
  |lst _ _ _=>cases h
  |dK _ _ _=>cases h
  |dT _ _ _ _=>cases h
  |exc _ _=>cases h
  |dX _ _ _ _=>cases h
  |lso _ _=>cases h
  |exd _ _ _ _ _=>cases h
 |ol _=>cases h
 |oK _ _=>cases h
 |oT _ _ _=>cases h
 |oN _ _=>cases h
 |oR _ _=>cases h
 |oX _ _ _=>cases h
 |oD _=>cases h
 |oM _ _ _=>cases h
 |oL _ _=>cases h
 |oQ _ _=>cases h
theorem ud{n:Nat}{g:List D->Option SV}{fa:FA}{E:XK}(h:Zf Z (Y2 n g fa) σ H Q):O0 (Wk K n g) [] E (U1 Z fa) σ H Q:=by
 obtain⟨F,δ,own,rv,δ',s,e,k⟩:=h;obtain⟨⟨rvs,δ1⟩,e1,e2⟩:=aa.mp e;obtain⟨⟨ds,δ2⟩,e3,e4⟩:=aa.mp e2;by_cases hn:ds.length=n
 .rw[m6 hn]at e4;obtain⟨sv,e5,e6⟩:=aa.mp e4;refine⟨F,δ,own,rvs,δ1,s,e1,λvs H1 F1 ZB sH sF s1 r1=>?_⟩;obtain⟨F2,own2,ZH,s2,r2⟩:=s1.frzAll (own:=own) (F:=F) (δ:=δ) r1 e3;rw[gq];refine⟨F2,ds,sv,s2.le,r2,hn,e5,λv H3 F3 ns Y_ ZT LS VO sh nd ok=>?_⟩;by_cases hs:sv.scal=aC
  .rw[m6 hs]at e6;cases e6;obtain⟨_,WZ⟩:=pE (F':=F1) hs sh;exact k v H3 F1 ZB (sH.trans Y_) sF (s1.grow Y_) ⟨[],WZ,cx,λ_ h=>(nomatch h),λ_ _ _ h=>(nomatch h)⟩
  .rw[m4 hs]at e6;cases e6;have s3:SR Z F3 H3 σ δ2 own2:=by
    refine⟨LS,λb o e=>?_,s2.old.trans Y_,s2.len,λi sw ei=>?_,s2.nod,λi p hp=>?_,s2.sep⟩
    .rcases VO b o e with z|z
     .exact s2.fro b o z
     .exact .inr (s2.old.free z)
    .obtain⟨w,h1,h2⟩:=s2.at' i sw ei;exact⟨w,h1,h2.mono ZT⟩
    .obtain⟨a,b,c⟩:=s2.ok i p hp;refine⟨?_,b,Y_ _ _ c⟩;cases z:F3 p.1 with
     |none=>rfl
     |some u=>
      rcases VO _ u z with y|y
      .rw[a]at y;cases y
      .rw[c]at y;cases y
   exact k v H3 F3 own2 (sH.trans Y_) (sF.trans (ZH.trans ZT)) s3 ⟨ns,sh,nd,λp hp=>⟨(ok p hp).1,(s2.old).free (ok p hp).2.1,(ok p hp).2.2⟩,λi p q hp hq e=>by
    have z:=(s2.ok i q hq).2.2;rw[<-e,(ok p hp).2.1]at z;cases z⟩
 .rw[m4 hn]at e4;cases e4
end
end
section
variable{K:ad}
section
variable{Z:mF K}{H:Hp}{σ:St}{R:Bool->Hp->Prop}{Q:VK}
@[simp]def Yf(fe:FE):FT:=λδ=>(fe δ).bind λp=>match p.1 with
 | .tmp (.fz (.bl b))=>aA (b,p.2)
 |_=>aB
theorem Vn{fe:FE}(h:Yh Z (Yf fe) σ H R):CQ (Zf Z fe) σ H R:=by
 obtain⟨F,δ,own,b,δ',s,e,k⟩:=h;obtain⟨⟨rv,δ1⟩,e1,e2⟩:=aa.mp e;refine⟨F,δ,own,rv,δ1,s,e1,λv H1 F1 ZB sH sF s1 r1=>?_⟩;dsimp only at e2;split at e2
 .cases e2;obtain⟨ns,t⟩:=r1;cases Q6 t.sh;exact⟨_,rfl,k H1 F1 ZB sH sF s1⟩
 .cases e2
theorem sM{fe:FE}(h:Yh Z (Yf fe) σ H R):tB (Zf Z fe) σ H R:=Vn h
@[simp]def IV(f g:FT):FT:=λδ=>(f δ).bind λp=>if p.1=true then g p.2 else some (false,p.2)
@[simp]def orF(f g:FT):FT:=λδ=>(f δ).bind λp=>if p.1=true then some (true,p.2)else g p.2
@[simp]def IU(f:FT):FT:=λδ=>(f δ).bind λp=>some (!p.1,p.2)
theorem wj{f g:FT}(h:Yh Z (IV f g) σ H R):DK (Yh Z f) (Yh Z g) σ H R:=by
 obtain⟨F,δ,own,b,δ',s,e,k⟩:=h;obtain⟨⟨c,δ1⟩,e1,e2⟩:=aa.mp e;refine⟨F,δ,own,c,δ1,s,e1,λH1 F1 ZB sH sF s1=>?_⟩;cases c with
 |true=>rw[m6 rfl]at e2⊢;exact⟨F1,δ1,ZB,b,δ',s1,e2,λH2 F2 own2 a c d=>k H2 F2 own2 (sH.trans a) (sF.trans c) d⟩
 |false=>rw[m4 bq]at e2⊢;cases e2;exact k H1 F1 ZB sH sF s1
theorem xQ{f g:FT}(h:Yh Z (orF f g) σ H R):tOr (Yh Z f) (Yh Z g) σ H R:=by
 obtain⟨F,δ,own,b,δ',s,e,k⟩:=h;obtain⟨⟨c,δ1⟩,e1,e2⟩:=aa.mp e;refine⟨F,δ,own,c,δ1,s,e1,λH1 F1 ZB sH sF s1=>?_⟩;cases c with
 |true=>rw[m6 rfl]at e2⊢;cases e2;exact k H1 F1 ZB sH sF s1
 |false=>rw[m4 bq]at e2⊢;exact⟨F1,δ1,ZB,b,δ',s1,e2,λH2 F2 own2 a c d=>k H2 F2 own2 (sH.trans a) (sF.trans c) d⟩
theorem wg{f:FT}(h:Yh Z (IU f) σ H R):DJ (Yh Z f) σ H R:=by obtain⟨F,δ,own,b,δ',s,e,k⟩:=h;obtain⟨⟨c,δ1⟩,e1,e2⟩:=aa.mp e;cases e2;exact⟨F,δ,own,c,δ1,s,e1,k⟩
@[simp]def IT(f g:FE):FE:=λδ=>(Yf f δ).bind λp=>if p.1=true then g p.2 else some (.tmp (.fz (.bl false)),p.2)
theorem wf{F:Hp}{own:Nat->Zr}{b:Bool}:Hc Z F H σ own (.tmp (.fz (.bl b))) (.bl b):=⟨[],.fz (.bl b)⟩
theorem uc{f g:FE}(h:Zf Z (IT f g) σ H Q):CW (Zf Z f) (Zf Z g) σ H Q:=by
 obtain⟨F,δ,own,rv,δ',s,e,k⟩:=h;obtain⟨⟨c,δ1⟩,e1,e2⟩:=aa.mp e;refine Vn ⟨F,δ,own,c,δ1,s,e1,λH1 F1 ZB sH sF s1=>?_⟩;cases c with
 |true=>rw[m6 rfl]at e2⊢;exact⟨F1,δ1,ZB,rv,δ',s1,e2,λv H2 F2 own2 a c d=>k v H2 F2 own2 (sH.trans a) (sF.trans c) d⟩
 |false=>rw[m4 bq]at e2⊢;cases e2;exact k _ H1 F1 ZB sH sF s1 wf
end
inductive Fl where
 |nx (δ:Ym)|bk (δ:Ym)|ct (δ:Ym)|rt (sv:SV)|ex (e:Exn) (δ:Ym)
abbrev FS:=Ym->Option Fl
def Lg(Z:mF K)(F:Hp)(D:Ends):Fl->Prop
 | .nx δ=>∀ZD H' F' own',Zi F F'->SR Z F' H' ZD δ own'->D.nx ZD H'
 | .bk δ=>∀ZD H' F' own',Zi F F'->SR Z F' H' ZD δ own'->D.bk ZD H'
 | .ct δ=>∀ZD H' F' own',Zi F F'->SR Z F' H' ZD δ own'->D.ct ZD H'
 | .rt sv=>∀v H' F' ns,Zi F F'->Zi F' H'->(∀(b:aq) (o:HO),F' b=aA o->Z.f b=aA o\/Z.h b=aB)->Zi Z.h H'->mH K F' sv v ns->(Mb ns).Nodup->
   (∀p∈ns,F' p.1=aB/\Z.h p.1=aB/\H' p.1=aA p.2)->D.rt v H'
 | .ex x δ=>∀ZD H' F' own' cls od,Zi F F'->SR Z F' H' ZD δ own'->uI K F' x cls od->Z.x cls od ZD H'
theorem Lg.mono{Z:mF K}{F F':Hp}{D:Ends}(s:Zi F F'):∀{fl:Fl},Lg Z F D fl->Lg Z F' D fl
 | .nx _,h=>λZD H' F2 own' a b=>h ZD H' F2 own' (s.trans a) b
 | .bk _,h=>λZD H' F2 own' a b=>h ZD H' F2 own' (s.trans a) b
 | .ct _,h=>λZD H' F2 own' a b=>h ZD H' F2 own' (s.trans a) b
 | .rt _,h=>λv H' F2 ns a=>h v H' F2 ns (s.trans a)
 | .ex _ _,h=>λZD H' F2 own' cls od a=>h ZD H' F2 own' cls od (s.trans a)
def Z2(Z:mF K)(f:FS):TS:=λD σ H=>∃F δ own fl,SR Z F H σ δ own/\f δ=aA fl/\Lg Z F D fl
section
variable{Z:mF K}{H:Hp}{σ:St}{E:Ends}
@[simp]def Jo:FS:=λδ=>some (.nx δ)
theorem ub(h:Z2 Z Jo E σ H):Ih E σ H:=by obtain⟨F,δ,own,fl,s,e,k⟩:=h;cases e;exact k σ H F own (Zi.refl F) s
@[simp]def Z9(f g:FS):FS:=λδ=>(f δ).bind fun
 | .nx δ'=>g δ'
 |fl=>aA fl
theorem BA{f g:FS}(h:Z2 Z (Z9 f g) E σ H):Gg (Z2 Z f) (Z2 Z g) E σ H:=by
 obtain⟨F,δ,own,fl,s,e,k⟩:=h;obtain⟨f1,e1,e2⟩:=aa.mp e;refine⟨F,δ,own,f1,s,e1,?_⟩;cases f1 with
 |nx δ1=>exact λZD H' F' own' sF s'=>⟨F',δ1,own',fl,s',e2,k.mono sF⟩
 |bk δ1=>cases e2;exact k
 |ct δ1=>cases e2;exact k
 |rt sv=>cases e2;exact k
 |ex x δ1=>cases e2;exact k
@[simp]def Vo(t:FT)(f g:FS):FS:=λδ=>(t δ).bind λp=>if p.1=true then f p.2 else g p.2
theorem we{t:FT}{f g:FS}(h:Z2 Z (Vo t f g) E σ H):OH (Yh Z t) (Z2 Z f) (Z2 Z g) E σ H:=by
 obtain⟨F,δ,own,fl,s,e,k⟩:=h;obtain⟨⟨c,δ1⟩,e1,e2⟩:=aa.mp e;refine⟨F,δ,own,c,δ1,s,e1,λH1 F1 ZB sH sF s1=>?_⟩;cases c with
 |true=>rw[m6 rfl]at e2⊢;exact⟨F1,δ1,ZB,fl,s1,e2,k.mono sF⟩
 |false=>rw[m4 bq]at e2⊢;exact⟨F1,δ1,ZB,fl,s1,e2,k.mono sF⟩
@[simp]def IS:RV->Ym->Option SV
 | .tmp sv,_=>aA sv
 | .bw i,δ=>δ[i]?.join
@[simp]def U2(fe:FE):FS:=λδ=>(fe δ).bind λp=>(IS p.1 p.2).bind λsv=>some (.rt sv)
theorem wd{fe:FE}(h:Z2 Z (U2 fe) E σ H):IR (Zf Z fe) E σ H:=by
 obtain⟨F,δ,own,fl,s,e,k⟩:=h;obtain⟨⟨rv,δ1⟩,e1,e2⟩:=aa.mp e;obtain⟨sv,e3,e4⟩:=aa.mp e2;cases e4;refine⟨F,δ,own,rv,δ1,s,e1,λv H1 F1 ZB sH sF s1 r1=>?_⟩;cases rv with
 |tmp sw=>cases e3;obtain⟨ns,t⟩:=r1;exact k v H1 F1 ns sF s1.le s1.fro s1.old t.sh t.nd t.ok
 |bw i=>obtain⟨w,h1,h2⟩:=s1.at' i sv (U0 e3);have S_:σ[i]? =aA (aA v):=r1;rw[S_]at h1;cases h1;exact k v H1 F1 (ZB i) sF s1.le s1.fro s1.old h2 (s1.nod i) (s1.ok i)
@[simp]def stow(i:Nat):RV->Ym->Option Ym
 | .tmp sv,δ=>if i<δ.length then aA (δ.set i (aA sv))else aB
 | .bw j,δ=>(frz (.bw j) δ).bind λp=>if i<p.2.length then aA (p.2.set i (aA (.fz p.1)))else aB
theorem SR.stow{F:Hp}{δ δ':Ym}{own:Nat->Zr}{i:Nat}{rv:RV}{v:V}(s:SR Z F H σ δ own)(r:Hc Z F H σ own rv v)(e:L2.stow i rv δ=aA δ'):∃F' own',Zi F F'/\SR Z F' H (σ.set i (aA v)) δ' own':=by
 cases rv with
 |tmp sv=>
  obtain⟨ns,t⟩:=r;have e:(if i<δ.length then aA (δ.set i (aA sv))else aB)=aA δ':=e;by_cases hi:i<δ.length
  .rw[m6 hi]at e;cases e;exact⟨F,_,Zi.refl F,s.store t (by rw[s.len];exact hi)⟩
  .rw[m4 hi]at e;cases e
 |bw j=>
  obtain⟨⟨d,δ1⟩,e1,e2⟩:=aa.mp e;obtain⟨F1,ZB,sF,s1,r1⟩:=s.frzR (rv:=.bw j) (v:=v) r e1;by_cases hi:i<δ1.length
  .rw[m6 hi]at e2;cases e2;exact⟨F1,_,sF,s1.store (.fz r1) (by rw[s1.len];exact hi)⟩
  .rw[m4 hi]at e2;cases e2
@[simp]def Yu(i:Nat)(fe:FE):FS:=λδ=>(fe δ).bind λp=>(stow i p.1 p.2).bind λδ'=>some (.nx δ')
theorem C'{i:Nat}{fe:FE}(h:Z2 Z (Yu i fe) E σ H):Ku (Zf Z fe) (W9 i) E σ H:=by obtain⟨F,δ,own,fl,s,e,k⟩:=h;obtain⟨⟨rv,δ1⟩,e1,e2⟩:=aa.mp e;obtain⟨δ2,e3,e4⟩:=aa.mp e2;cases e4;refine⟨F,δ,own,rv,δ1,s,e1,λv H1 F1 ZB sH sF s1 r1=>?_⟩;obtain⟨F2,own2,ZH,s2⟩:=s1.stow r1 e3;exact k _ H1 F2 own2 (sF.trans ZH) s2
set_option genInjectivity false in
structure FG where
 run:D->Ym->Option Ym
 tch:List Nat
set_option genInjectivity false in
structure FGs where
 run:List D->Ym->Option Ym
 tch:List Nat
def Uf(Z:mF K)(g:FG):TG:=λv σ H Q=>∃F δ own d δ',SR Z F H σ δ own/\mI K F d v/\g.run d δ=aA δ'/\∀ZD own',SR Z F H ZD δ' own'->(∀j:Nat,j∉g.tch->ZD[j]? =σ[j]?)->Q ZD H
def Bd(Z:mF K)(g:FGs):TGs:=λvs σ H Q=>∃F δ own ds δ',SR Z F H σ δ own/\mD K F ds vs/\g.run ds δ=aA δ'/\∀ZD own',SR Z F H ZD δ' own'->(∀j:Nat,j∉g.tch->ZD[j]? =σ[j]?)->Q ZD H
noncomputable def Zh(i:Nat):FG:=⟨λd δ=>if i<δ.length then aA (δ.set i (aA (.fz d)))else aB,[i]⟩
theorem sK{i:Nat}{v:V}{Q:St->Hp->Prop}(h:Uf Z (Zh i) v σ H Q):W9 i v σ H Q:=by
 obtain⟨F,δ,own,d,δ',s,r,e,k⟩:=h;have e:(if i<δ.length then aA (δ.set i (aA (.fz d)))else aB)=aA δ':=e;by_cases hi:i<δ.length
 .rw[m6 hi]at e;cases e;exact k _ _ (s.store (.fz r) (by rw[s.len];exact hi)) λj hj=>cz λz=>hj (by rw[z];exact ac)
 .rw[m4 hi]at e;cases e
noncomputable def Wb:FGs:=⟨λds δ=>match ds with
 | []=>aA δ
 |_=>aB,[]⟩
noncomputable def Zw(g:FG)(r:FGs):FGs:=⟨λds δ=>match ds with
 |d::t=>(g.run d δ).bind λδ1=>r.run t δ1
 | []=>aB,g.tch++r.tch⟩
@[simp]theorem nq(i:Nat)(d:D)(δ:Ym):(Zh i).run d δ=if i<δ.length then some (δ.set i (some (.fz d)))else none:=rfl
@[simp]theorem ni(δ:Ym):Wb.run [] δ=some δ:=rfl
@[simp]theorem nj(g:FG)(r:FGs)(d:D)(t:List D)(δ:Ym):(Zw g r).run (d::t) δ=(g.run d δ).bind λδ1=>r.run t δ1:=rfl
theorem ua{vs:List V}{Q:St->Hp->Prop}(h:Bd Z Wb vs σ H Q):MP vs σ H Q:=by
 obtain⟨F,δ,own,ds,δ',s,r,e,k⟩:=h;cases r with
 |nil=>cases e;exact⟨rfl,k σ own s λ_ _=>rfl⟩
 |cons h t=>cases e
theorem sJ{g:FG}{r:FGs}{vs:List V}{Q:St->Hp->Prop}(h:Bd Z (Zw g r) vs σ H Q):Ma (Uf Z g) (Bd Z r) vs σ H Q:=by
 obtain⟨F,δ,own,ds,δ',s,rr,e,k⟩:=h;cases rr with
 |nil=>cases e
 |cons h t=>obtain⟨δ1,e1,e2⟩:=aa.mp e;exact⟨_,_,rfl,F,δ,own,_,δ1,s,h,e1,λV' ZB s1 t1=>⟨F,δ1,ZB,_,δ',s1,t,e2,λXJ own2 s2 t2=>k XJ own2 s2 λj hj=>(t2 j λz=>hj (bx _ z)).trans (t1 j λz=>hj (bz _ z))⟩⟩
noncomputable def Y7(n:Nat)(g:FGs):FG:=⟨λd δ=>match d with
 | .tup xs=>if xs.length=n then g.run xs δ else aB
 |_=>aB,g.tch⟩
@[simp]theorem ng(n:Nat)(g:FGs)(xs:List D)(δ:Ym):(Y7 n g).run (.tup xs) δ=if xs.length=n then g.run xs δ else none:=rfl
theorem uZ{n:Nat}{g:FGs}{v:V}{Q:St->Hp->Prop}(h:Uf Z (Y7 n g) v σ H Q):MO K n (Bd Z g) v σ H Q:=by
 obtain⟨F,δ,own,d,δ',s,r,e,k⟩:=h;dsimp only[Y7]at e;split at e
 .rename_i xs;by_cases hn:xs.length=n
  .rw[m6 hn]at e;cases r with
   |tup h r=>exact⟨_,_,rfl,W3 s.le (Ue h),by rw[<-r.length];exact hn,F,δ,own,_,δ',s,r,e,k⟩
  .rw[m4 hn]at e;cases e
 .cases e
@[simp]def Gm(g:FG)(fe:FE):FS:=λδ=>(fe δ).bind λp=>(frz p.1 p.2).bind λq=>(g.run q.1 q.2).bind λδ'=>some (.nx δ')
theorem ql{g:FG}{fe:FE}(h:Z2 Z (Gm g fe) E σ H):Ku (Zf Z fe) (Uf Z g) E σ H:=by obtain⟨F,δ,own,fl,s,e,k⟩:=h;obtain⟨⟨rv,δ1⟩,e1,e2⟩:=aa.mp e;obtain⟨⟨d,δ2⟩,e3,e4⟩:=aa.mp e2;obtain⟨XV,e5,e6⟩:=aa.mp e4;cases e6;refine⟨F,δ,own,rv,δ1,s,e1,λv H1 F1 ZB sH sF s1 r1=>?_⟩;obtain⟨F2,ZH,s2,r2⟩:=s1.settleR r1;obtain⟨F3,ZI,ZT,s3,r3⟩:=s2.frzR r2 e3;exact⟨F3,δ2,ZI,d,XV,s3,r3,e5,λZD own' s' _=>k ZD H1 F3 own' (sF.trans (ZH.trans ZT)) s'⟩
@[simp]def Yp(tg:FG)(body:FS):List D->Ym->Option Fl
 | [],δ=>aA (.nx δ)
 |d::ds,δ=>(tg.run d δ).bind λδ1=>(body δ1).bind fun
  | .nx δ2=>Yp tg body ds δ2
  | .ct δ2=>Yp tg body ds δ2
  | .bk δ2=>aA (.nx δ2)
  | .rt sv=>aA (.rt sv)
  | .ex x δ2=>aA (.ex x δ2)
def Be(K:ad)(J:It)(F:Hp)(ds:List D):Prop:=∀F' H,Zi F F'->Zi F' H->∀i:Nat,
 (∀d,ds[i]? =aA d->J.go i H/\∀x H',J.yld i H x H'->Zi H H'/\∃ns,(Mb ns).Nodup/\(∀p∈ns,H p.1=aB/\H' p.1=aA p.2)/\mI K (Qt F' ns) d x)/\(ds.length<=i->J.stop i H)
def Qg(Z:mF K)(f:FD):TI:=λσ H R=>∃F δ own ds δ',SR Z F H σ δ own/\f δ=aA (ds,δ')/\
 ∀J H' F' own',Zi H H'->Zi F F'->SR Z F' H' σ δ' own'->Be K J F' ds->R J H'
@[simp]def Bf(fi:FD)(tg:FG)(body:FS):FS:=λδ=>(fi δ).bind λp=>Yp tg body p.1 p.2
theorem SR.fresh{F H':Hp}{δ:Ym}{own:Nat->Zr}{ns:Zr}(s:SR Z F H σ δ own)(sm:Zi H H')(nd:(Mb ns).Nodup)(h:∀p∈ns,H p.1=aB/\H' p.1=aA p.2):Zi F (Qt F ns)/\SR Z (Qt F ns) H' σ δ own:=by refine⟨Qa λp hp=>s.le.free (h p hp).1,(s.grow sm).addF nd (λp hp=>s.le.free (h p hp).1) (λp hp=>(h p hp).2) (λp hp=>s.old.free (h p hp).1) λi p q hp hq e=>?_⟩;have z:=(s.ok i q hq).2.2;rw[<-e,(h p hp).1]at z;cases z
theorem wc{fi:FD}{tg:FG}{body:FS}(h:Z2 Z (Bf fi tg body) E σ H):S8 (Qg Z fi) (Uf Z tg) (Z2 Z body) E σ H:=by
 obtain⟨F,δ,own,fl,s,e,k⟩:=h;obtain⟨⟨ds,δ1⟩,e1,e2⟩:=aa.mp e;refine⟨F,δ,own,ds,δ1,s,e1,λJ H1 F1 ZB sH sF s1 yl=>?_⟩;refine⟨λi m σ H=>m=ds.length- i/\i<=ds.length/\∃F δ own,Zi F1 F/\SR Z F H σ δ own/\Yp tg body (ds.drop i) δ=aA fl,⟨ds.length,by simp,dk _,F1,δ1,ZB,Zi.refl F1,s1,e2⟩,?_⟩;rintro i m ZD H' ⟨rfl,hi,F2,δ2,own2,ZH,s2,ef⟩;by_cases ZL:i<ds.length
 .have hd:ds[i]? =aA ds[i]:=by simp[ZL]
  obtain⟨go,yy⟩:=(yl F2 H' ZH s2.le i).1 _ hd;rw[List.drop_eq_getElem_cons ZL]at ef;obtain⟨XV,e3,e4⟩:=aa.mp ef;obtain⟨f1,e5,e6⟩:=aa.mp e4;refine .inr ⟨go,λUP H4=>∃F δ own,Zi F1 F/\SR Z F H4 UP δ own/\Yp tg body (ds.drop (i+1)) δ=aA fl,λUP H4 ⟨F4,δ4,YF,a,b,c⟩=>⟨ds.length- (i+1),by omega,rfl,ZL,F4,δ4,YF,a,b,c⟩,λx H3 hy=>?_⟩;obtain⟨sm,ns,nd,hn,rp⟩:=yy x H3 hy;obtain⟨UT,sn⟩:=s2.fresh sm nd hn;refine⟨Qt F2 ns,δ2,own2,_,XV,sn,rp,e3,λoy LG s5 _=>⟨Qt F2 ns,XV,LG,f1,s5,e5,?_⟩⟩;cases f1 with
  |nx δ6=>exact λXU H6 F6 ZU a b=>⟨F6,δ6,ZU,ZH.trans (UT.trans a),b,e6⟩
  |ct δ6=>exact λXU H6 F6 ZU a b=>⟨F6,δ6,ZU,ZH.trans (UT.trans a),b,e6⟩
  |bk δ6=>cases e6;exact λXU H6 F6 ZU a b=>k XU H6 F6 ZU (sF.trans (ZH.trans (UT.trans a))) b
  |rt sv=>cases e6;exact λv H6 F6 LL a=>k v H6 F6 LL (sF.trans (ZH.trans (UT.trans a)))
  |ex x δ6=>cases e6;exact λXU H6 F6 ZU cls od a=>k XU H6 F6 ZU cls od (sF.trans (ZH.trans (UT.trans a)))
 .have hz:i=ds.length:=by omega
  subst hz;rw[List.drop_length]at ef;cases ef;exact .inl ⟨(yl F2 H' ZH s2.le _).2 (bc _),k ZD H' F2 own2 (sF.trans ZH) s2⟩
def Jp(t:FT)(body:FS):Nat->Ym->Option Fl
 |0,_=>aB
 |n+1,δ=>(t δ).bind λp=>if p.1=aC then(body p.2).bind (fun
  | .nx δ2=>Jp t body n δ2
  | .ct δ2=>Jp t body n δ2
  | .bk δ2=>aA (.nx δ2)
  | .rt sv=>aA (.rt sv)
  | .ex x δ2=>aA (.ex x δ2))else aA (.nx p.2)
theorem sI{n:Nat}{t:FT}{body:FS}(h:Z2 Z (Jp t body n) E σ H):AW (Yh Z t) (Z2 Z body) E σ H:=by
 obtain⟨F,δ,own,fl,s,e,k⟩:=h;refine⟨λm σ H=>∃F2 δ own,Zi F F2/\SR Z F2 H σ δ own/\Jp t body m δ=aA fl,⟨n,F,δ,own,Zi.refl F,s,e⟩,?_⟩;rintro m V' H1 ⟨F1,δ1,ZB,XZ,s1,e1⟩;cases m with
 |zero=>cases e1
 |succ m=>
  obtain⟨⟨c,δ2⟩,e2,e3⟩:=aa.mp e1;refine⟨F1,δ1,ZB,c,δ2,s1,e2,λH2 F2 own2 sH ZH s2=>?_⟩;cases c with
  |false=>rw[m4 bq]at e3⊢;cases e3;exact k V' H2 F2 own2 (XZ.trans ZH) s2
  |true=>
   rw[m6 rfl]at e3⊢;obtain⟨f1,e4,e5⟩:=aa.mp e3;refine⟨λZD H'=>∃F2 δ own,Zi F F2/\SR Z F2 H' ZD δ own/\Jp t body m δ=aA fl,λZD H' w=>⟨m,Nat.lt_succ_self m,w⟩,F2,δ2,own2,f1,s2,e4,?_⟩;cases f1 with
   |nx δ6=>exact λXU H6 F6 ZU a b=>⟨F6,δ6,ZU,XZ.trans (ZH.trans a),b,e5⟩
   |ct δ6=>exact λXU H6 F6 ZU a b=>⟨F6,δ6,ZU,XZ.trans (ZH.trans a),b,e5⟩
   |bk δ6=>cases e5;exact λXU H6 F6 ZU a b=>k XU H6 F6 ZU (XZ.trans (ZH.trans a)) b
   |rt sv=>cases e5;exact λv H6 F6 LL a=>k v H6 F6 LL (XZ.trans (ZH.trans a))
   |ex x δ6=>cases e5;exact λXU H6 F6 ZU cls od a=>k XU H6 F6 ZU cls od (XZ.trans (ZH.trans a))
def RM(K:ad)(tl:TE):TI:=λσ H R=>tl σ H λx H1=>(∃a,x= .ref a/\(∃xs,J3 K H1 a xs)/\R (Itl K a) H1)\/(∃a,x= .ref a/\(∃xs,Rl K H1 a xs)/\R (Itt K a) H1)
theorem Mc{F:Hp}{a:aq}{xs:List D}{vs:List V}(h:J3 K F a vs)(r:mD K F xs vs):Be K (Itl K a) F xs:=λF' H sF sH i=>by have q:J3 K H a vs:=Yg (sF.trans sH) h;refine⟨λd hd=>?_,λhl=>⟨vs,q,by rw[<-r.length];exact hl⟩⟩;obtain⟨v,h1,h2⟩:=r.get hd;refine⟨⟨vs,v,q,h1⟩,λx H' ZG=>?_⟩;obtain⟨e1,e2⟩:=ZG;subst e1;have e3:=e2 vs q;rw[h1]at e3;cases e3;exact⟨Zi.refl _,[],cx,λ_ h=>(nomatch h),h2.mono sF⟩
theorem Vp{F:Hp}{a:aq}{xs:List D}{vs:List V}(h:Rl K F a vs)(r:mD K F xs vs):Be K (Itt K a) F xs:=λF' H sF sH i=>by have q:Rl K H a vs:=W3 (sF.trans sH) h;refine⟨λd hd=>?_,λhl=>⟨vs,q,by rw[<-r.length];exact hl⟩⟩;obtain⟨v,h1,h2⟩:=r.get hd;refine⟨⟨vs,v,q,h1⟩,λx H' ZG=>?_⟩;obtain⟨e1,e2⟩:=ZG;subst e1;have e3:=e2 vs q;rw[h1]at e3;cases e3;exact⟨Zi.refl _,[],cx,λ_ h=>(nomatch h),h2.mono sF⟩
noncomputable def Md(lo:Int)(n:Nat):List D:=(df n).map λi=>.int (lo+(i:Nat))
theorem Lh{lo:Int}{n:Nat}{F:Hp}:Be K (Itr lo n) F (Md lo n):=λF' H sF sH i=>by
 have hl:(Md lo n).length=n:=by unfold Md;rw[ah,List.length_range]
 refine⟨λd hd=>?_,λh=>by rw[hl]at h;exact h⟩;have hi:i<n:=by have:=(aw.mp hd).1;rw[hl]at this;exact this
 refine⟨hi,λx H' ZG=>?_⟩;obtain⟨e1,e2⟩:=ZG;subst e1 e2;unfold Md at hd;rw[bg,List.getElem?_range hi]at hd;cases hd;exact⟨Zi.refl _,[],cx,λ_ h=>(nomatch h),.int _⟩
def Pg(j:Int):Prop:=-(2^62)<=j/\j<2^62
theorem sE{j:Int}(h0:0<=j)(h:j<=16777216):Pg j:=⟨by omega,by omega⟩
theorem Gn{n:Nat}(h:n<=16777216):Pg (n:Int):=sE (by omega) (by omega)
open Classical in
@[simp]def Vq(fa:FA):FD:=λδ=>(fa δ).bind λp=>match Oc p.1 p.2 with
 |some [.int j]=>if Pg j then aA (Md 0 j.toNat,p.2)else aB
 |_=>aB
theorem v9{fa:FA}{R:It->Hp->Prop}(h:Qg Z (Vq fa) σ H R):CU (U1 Z fa) σ H R:=by
 obtain⟨F,δ,own,ds,δ',s,e,k⟩:=h;obtain⟨⟨rvs,δ1⟩,e1,e2⟩:=aa.mp e;refine⟨F,δ,own,rvs,δ1,s,e1,λvs H1 F1 ZB sH sF s1 r1=>?_⟩;dsimp only at e2;split at e2
 .rename_i j hj;have rn:=s1.rdAll r1 hj;cases rn with
  |cons h t=>
   cases t;by_cases hb:Pg j
   .rw[m6 hb]at e2;cases e2;exact⟨j,by rw[h.int],hb.1,hb.2,k _ H1 F1 ZB sH sF s1 Lh⟩
   .rw[m4 hb]at e2;cases e2
 .cases e2
@[simp]def Vr(i:Nat)(fe:FE):FS:=λδ=>match δ[i]? with
 |some (aA (.ol _))=>(fe δ).bind λp=>(frz p.1 p.2).bind λq=>match q.2[i]? with
  |some (aA (.ol xs))=>if xs.length<cj then aA (.nx (q.2.set i (aA (.ol (xs++[q.1])))))else aB
  |_=>aB
 |_=>aB
theorem Q7{F:Hp}{xs:List D}{v:V}{ns:Zr}(h:mH K F (.ol xs) v ns):∃a vs,v= .ref a/\ns=[(a,.lst vs)]/\mD K F xs vs:=by
 cases h with
 |ol r=>exact⟨_,_,rfl,rfl,r⟩
theorem wb{i:Nat}{fe:FE}(h:Z2 Z (Vr i fe) E σ H):Gh (tBM K "list" Qf (Uo i) (Oz (Zf Z fe) Tk)) E σ H:=by
 obtain⟨F,δ,own,fl,s,e,k⟩:=h;unfold Vr at e;split at e
 .rename_i xs0 UW;obtain⟨⟨rv,δ1⟩,e1,e2⟩:=aa.mp e;obtain⟨⟨d,δ2⟩,e3,e4⟩:=aa.mp e2;obtain⟨v,hv,sh⟩:=s.at' i _ UW;obtain⟨a,UR,ev,en,r0⟩:=Q7 sh;refine⟨v,hv,?_,F,δ,own,rv,δ1,s,e1,λy H1 F1 ZB sH sF s1 r1=>?_⟩
  .subst ev;exact .inl ⟨rfl,UR,.inl (.inl (s.ok i (a,.lst UR) (by rw[en];exact ac)).2.2)⟩
  obtain⟨F2,ZH,s2,r2⟩:=s1.settleR r1;obtain⟨F3,ZI,ZT,s3,r3⟩:=s2.frzR r2 e3;dsimp only at e4;split at e4
  .rename_i xs hx;by_cases hz:xs.length<cj
   .rw[m6 hz]at e4;cases e4;obtain⟨v',YV,WZ⟩:=s3.at' i _ hx;rw[hv]at YV;cases YV;obtain⟨b,vs,eb,UM,r'⟩:=Q7 WZ;have mb:(b,HO.lst vs)∈ZI i:=by rw[UM];exact ac
    subst eb;refine⟨b,vs,y,rfl,rfl,(s3.ok i _ mb).2.2,by rw[<-r'.length];exact hz,?_⟩;exact k σ _ F3 _ (sF.trans (ZH.trans ZT)) (s3.change (sv':=.ol (xs++[d])) (o':=.lst (vs++[y])) (ns':=[(b,.lst (vs++[y]))]) hx hv mb (.ol (r'.snoc r3)) (λp hp=>.inl (ak.mp hp)) Ev)
   .rw[m4 hz]at e4;cases e4
  .cases e4
 .cases e
end
@[simp]def Tz(n:Nat)(ds:List D):Ym:=ds.map (λd=>some (.fz d))++List.replicate (n- ds.length) none
theorem Ph{N:List Str}{F H:Hp}{ds:List D}{vs:List V}(le:Zi F H)(r:mD K F ds vs):SR (ent H F:mF K) F H (L2.O5 N vs) (Tz N.length ds) λ_=>[]:=by
 have hl:=r.length;refine⟨le,λb o e=>.inl e,Zi.refl H,?_,λi sv e=>?_,λ_=>cx,λ_ _ h=>(nomatch h),λ_ _ _ _ _ h=>(nomatch h)⟩
 .unfold L2.O5 Tz;rw[av,av,ah,ah,List.length_replicate,List.length_replicate,hl]
 .unfold Tz at e;by_cases hi:i<ds.length
  .rw[dg (by simpa using hi),bg]at e;cases hd:ds[i]? with
   |none=>rw[hd]at e;cases e
   |some d=>rw[hd]at e;cases e;obtain⟨v,h1,h2⟩:=r.get hd;refine⟨v,?_,.fz h2⟩;unfold L2.O5;rw[dg (by rw[ah];omega),bg,h1];rfl
  .rw[gc (by simpa using hi),List.getElem?_replicate]at e;split at e<;> cases e
theorem qk{n:Nat}{g:List D->Option SV}{vs:List V}{H:Hp}{Q:VK}{E:XK}(h:Wk K n g vs H Q E):vs.length=n:=by obtain⟨F,ds,sv,le,r,hn,e,k⟩:=h;rw[<-r.length];exact hn
end
section
variable{K:ad}
def xG(K:ad)(g:FG):TG:=λv σ H Q=>∃Z:mF K,Uf Z g v σ H Q
def xT(K:ad)(f:FT):TT:=λσ H Q=>∃Z:mF K,Yh Z f σ H Q
def xE(K:ad)(f:FE):TE:=λσ H Q=>∃Z:mF K,Zf Z f σ H Q
def Qb:FT:=λδ=>aA (aC,δ)
@[simp]theorem nc(δ:Ym):Qb δ=some (true,δ):=rfl
@[simp]noncomputable def caps(src:List BSrc):List RV:=src.filterMap fun
 | .cap j=>aA (.bw j)
 |_=>aB
@[simp]def Vs(δ:Ym):BSrc->Option SV
 | .own=>aB
 | .cap j=>match δ[j]?.join with
  |some (.fz d)=>aA (.fz d)
  |_=>aB
 | .acc=>aA (.ol [])
@[simp]def bD(src:List BSrc)(δ:Ym):Ym:=src.map (Vs δ)
@[simp]noncomputable def resetSlot:BSrc->Option SV->Option SV
 | .own,_=>aB
 |_,o=>o
@[simp]def Go:List BSrc->Ym->Ym
 |b::r,o::t=>resetSlot b o::Go r t
 |_,t=>t
@[simp]def Yw(src:List BSrc)(k:Nat)(g:FG)(tt:FT)(te:FE):List D->Ym->Option Ym
 | [],δ=>aA δ
 |d::ds,δ=>(g.run d δ).bind λδ1=>(tt δ1).bind λp=>if p.1=aC then(te p.2).bind λq=>(frz q.1 q.2).bind λr=>match r.2[k]? with
   |some (aA (.ol zs))=>if zs.length<cj then Yw src k g tt te ds (Go src (r.2.set k (aA (.ol (zs++[r.1])))))else aB
   |_=>aB
  else Yw src k g tt te ds (Go src p.2)
@[simp]def Wf(src:List BSrc)(k:Nat)(fi:FD)(g:FG)(tt:FT)(te:FE):FE:=λδ=>(fi δ).bind λp=>(frzAll (caps src) p.2).bind λc=>(Yw src k g tt te p.1 (bD src c.2)).bind λzE=>match zE[k]? with
 |some (aA (.ol ys))=>aA (.tmp (.ol ys),c.2)
 |_=>aB
theorem Ro:∀(src:List BSrc) (δ:Ym),(Go src δ).length=δ.length
 | [],t=>by unfold Go;rfl
 |_::_,[]=>by unfold Go;rfl
 |b::r,o::t=>by show(resetSlot b o::Go r t).length=_;rw[bh,bh,Ro r t]
theorem Rp:∀{src:List BSrc} {δ:Ym} {i:Nat} {sv:SV},(Go src δ)[i]? =aA (aA sv)->δ[i]? =aA (aA sv)
 | [],_,_,_,h=>h
 |_::_,[],_,_,h=>h
 |b::r,o::t,0,sv,h=>by
  have h:aA (resetSlot b o)=aA (aA sv):=h;cases b with
  |own=>cases h
  |cap j=>exact h
  |acc=>exact h
 |b::r,o::t,i+1,sv,h=>by have h:(Go r t)[i]? =aA (aA sv):=h;show t[i]? =_;exact Rp h
section
variable{Z:mF K}{F H:Hp}{σ:St}{δ δ':Ym}{own:Nat->Zr}
theorem SR.forget(s:SR Z F H σ δ own)(hl:δ'.length=δ.length)(h:∀(i:Nat) (sv:SV),δ'[i]? =aA (aA sv)->δ[i]? =aA (aA sv)):SR Z F H σ δ' own:=
 ⟨s.le,s.fro,s.old,s.len.trans hl.symm,λi sv e=>s.at' i sv (h i sv e),s.nod,s.ok,s.sep⟩
theorem SR.caps:∀{rvs:List RV} {ds:List D} {δ δ':Ym} {F:Hp} {own:Nat->Zr},(∀rv∈rvs,∃j,rv= .bw j)->SR Z F H σ δ own->L2.frzAll rvs δ=aA (ds,δ')->∃F1 ZB,Zi F F1/\SR Z F1 H σ δ' ZB
 | [],_,_,_,F,own,_,s,e=>by cases e;exact⟨F,own,Zi.refl F,s⟩
 |rv::r,_,_,_,F,own,hb,s,e=>by obtain⟨⟨d,δ1⟩,e1,e2⟩:=aa.mp e;obtain⟨⟨ds,δ2⟩,e3,e4⟩:=aa.mp e2;cases e4;obtain⟨j,rfl⟩:=hb rv ac;obtain⟨sv,e5,e6⟩:=aa.mp e1;cases e6;obtain⟨F1,v,sF,_,_,s1⟩:=s.freeze (U0 e5);obtain⟨F2,own2,ZH,s2⟩:=SR.caps (λrv h=>hb rv (am _ h)) s1 e3;exact⟨F2,own2,sF.trans ZH,s2⟩
theorem SR.after{F3 H3:Hp}(s2:SR Z F H σ δ own)(Y_:Zi H H3)(ZT:Zi F F3)(LS:Zi F3 H3)(VO:∀(b:aq) (o:HO),F3 b=aA o->F b=aA o\/H b=aB):SR Z F3 H3 σ δ own:=by
 refine⟨LS,λb o e=>?_,s2.old.trans Y_,s2.len,λi sw ei=>?_,s2.nod,λi p hp=>?_,s2.sep⟩
 .rcases VO b o e with z|z
  .exact s2.fro b o z
  .exact .inr (s2.old.free z)
 .obtain⟨w,h1,h2⟩:=s2.at' i sw ei;exact⟨w,h1,h2.mono ZT⟩
 .obtain⟨a,b,c⟩:=s2.ok i p hp;refine⟨?_,b,Y_ _ _ c⟩;cases z:F3 p.1 with
  |none=>rfl
  |some u=>
   rcases VO _ u z with y|y
   .rw[a]at y;cases y
   .rw[c]at y;cases y
end
structure SrcOk(src:List BSrc)(k:Nat):Prop where
 acc:src[k]? =aA .acc
 uni:∀i:Nat,src[i]? =aA .acc->i=k
theorem qj{Z:mF K}{F H:Hp}{σ:St}{δ:Ym}{own:Nat->Zr}{src:List BSrc}{k:Nat}{acc:aq}(S:SrcOk src k)(s:SR Z F H σ δ own)(ha:H acc=aB):
  SR (ent H F:mF K) F (Yo H acc (.lst [])) (Vl src σ acc) (bD src δ) (λi=>if i=k then[(acc,.lst [])]else[]):=by
 have mem:∀{i:Nat} {p:aq×HO},p∈(if i=k then[(acc,HO.lst [])]else[])->i=k/\p=(acc,.lst []):=fun{i p} h=>by
  by_cases hi:i=k
  .rw[m6 hi]at h;exact⟨hi,ak.mp h⟩
  .rw[m4 hi]at h;exact nomatch h
 refine⟨s.le.trans (Wq ha),λb o e=>.inl e,Wq ha,by unfold Vl bD;rw[ah,ah],λi sv e=>?_,λi=>?_,λi p hp=>?_,λi j p q YW hp hq=>?_⟩
 .unfold bD at e;rw[bg]at e;cases hq:src[i]? with
  |none=>rw[hq]at e;cases e
  |some q=>
   rw[hq]at e;have e:Vs δ q=aA sv:=cy.inj e;cases q with
   |own=>cases e
   |acc=>cases e;have hi:=S.uni i hq;refine⟨.ref acc,by unfold Vl;rw[bg,hq];rfl,?_⟩;show mH K F (.ol []) (.ref acc) (if i=k then[(acc,.lst [])]else[]);rw[m6 hi];exact .ol .nil
   |cap j=>
    have hi:i≠k:=λz=>by rw[z,S.acc]at hq;cases hq
    unfold Vs at e;dsimp only at e;split at e
    .rename_i d hd;cases e;obtain⟨v,h1,h2⟩:=s.at' j _ (U0 hd);refine⟨v,by unfold Vl;rw[bg,hq];show aA (σ[j]?).join=_;rw[h1];rfl,?_⟩;show mH K F (.fz d) v (if i=k then[(acc,.lst [])]else[]);rw[m4 hi];exact .fz (Q6 h2)
    .cases e
 .show(Mb (if i=k then[(acc,HO.lst [])]else[])).Nodup;by_cases hi:i=k
  .rw[m6 hi];exact Ev
  .rw[m4 hi];exact cx
 .obtain⟨_,rfl⟩:=mem hp;exact⟨s.le.free ha,ha,Z8⟩
 .obtain⟨z,_⟩:=mem hp;obtain⟨y,_⟩:=mem hq;exact m_ (z.trans y.symm) YW
theorem AI{Z:mF K}{H:Hp}{σ:St}{Q:VK}{src:List BSrc}{k:Nat}{fi:FD}{g:FG}{tt:FT}{te:FE}(S:SrcOk src k)(hk:k∉g.tch)(h:Zf Z (Wf src k fi g tt te) σ H Q):
  GH src (Qg Z fi) (xG K g) (xT K tt) (xE K te) σ H Q:=by
 obtain⟨F,δ,own,rv,δ',s,e,k0⟩:=h;obtain⟨⟨ds,δ1⟩,e1,e2⟩:=aa.mp e;obtain⟨⟨cs,δ2⟩,e3,e4⟩:=aa.mp e2;obtain⟨zD,e5,e6⟩:=aa.mp e4;refine⟨F,δ,own,ds,δ1,s,e1,λJ H1 F1 ZB sH sF s1 yl acc ha=>?_⟩;obtain⟨F2,own2,ZH,s2⟩:=s1.caps (λrv hr=>by
  unfold L2.caps at hr;obtain⟨b,_,hb⟩:=List.mem_filterMap.mp hr;cases b with
  |own=>cases hb
  |acc=>cases hb
  |cap j=>cases hb;exact⟨j,rfl⟩) e3
 have s3:=qj S s2 ha;have PN:(Vl src σ acc)[k]? =aA (aA (.ref acc)):=by unfold Vl;rw[bg,S.acc];rfl
 refine⟨λi m ZD H=>m=ds.length- i/\i<=ds.length/\ZD[k]? =aA (aA (.ref acc))/\∃F δ own,Zi F2 F/\SR (ent H1 F2:mF K) F H ZD δ own/\Yw src k g tt te (ds.drop i) δ=aA zD,
  ⟨ds.length,by simp,dk _,PN,F2,_,_,Zi.refl F2,s3,e5⟩,?_⟩
 rintro i m UP H4 ⟨rfl,hi,YS,F4,δ4,YF,YO,s4,ef⟩;by_cases ZL:i<ds.length
 .have hd:ds[i]? =aA ds[i]:=by simp[ZL]
  obtain⟨go,yy⟩:=(yl F4 H4 (ZH.trans YO) s4.le i).1 _ hd;rw[List.drop_eq_getElem_cons ZL]at ef;obtain⟨GK,e7,e8⟩:=aa.mp ef;obtain⟨⟨b,δ6⟩,e9,e10⟩:=aa.mp e8;refine .inr ⟨go,λx H5 hy=>?_⟩;obtain⟨sm,ns,nd,hn,rp⟩:=yy x H5 hy;obtain⟨UT,sn⟩:=s4.fresh sm nd hn;refine⟨(ent H1 F2:mF K),Qt F4 ns,δ4,YF,_,GK,sn,rp,e7,λXU ZU s6 t6=>⟨(ent H1 F2:mF K),Qt F4 ns,GK,ZU,b,δ6,s6,e9,λH7 F7 QB o8 GO s7=>?_⟩⟩;have WI:XU[k]? =aA (aA (.ref acc)):=(t6 k hk).trans YS;cases b with
  |false=>dsimp only;rw[m4 bq]at e10⊢;exact⟨ds.length- (i+1),by omega,rfl,ZL,WI,F7,_,QB,YO.trans (UT.trans GO),s7.forget (Ro src δ6) (λj sv hj=>Rp hj),e10⟩
  |true=>
   dsimp only;rw[m6 rfl]at e10⊢;obtain⟨⟨rv8,δ8⟩,J_,JZ⟩:=aa.mp e10;obtain⟨⟨d9,δ9⟩,e13,e14⟩:=aa.mp JZ;refine⟨(ent H1 F2:mF K),F7,δ6,QB,rv8,δ8,s7,J_,λy H8 F8 zd o7 zV s8 r8=>?_⟩;obtain⟨F9,zU,s9,r9⟩:=s8.settleR r8;obtain⟨ou,QC,LB,OR,zW⟩:=s9.frzR r9 e13;dsimp only at e14;split at e14
   .rename_i zs hz;by_cases hzl:zs.length<cj
    .rw[m6 hzl]at e14;obtain⟨v',YV,WZ⟩:=OR.at' k _ hz;rw[WI]at YV;cases YV;obtain⟨b,vs,eb,UM,r'⟩:=Q7 WZ;cases eb;have mb:(acc,HO.lst vs)∈QC k:=by rw[UM];exact ac
     refine⟨acc,vs,y,rfl,rfl,(OR.ok k _ mb).2.2,by rw[<-r'.length];exact hzl,?_⟩;have s11:=OR.change (sv':=.ol (zs++[d9])) (o':=.lst (vs++[y])) (ns':=[(acc,.lst (vs++[y]))]) hz WI mb (.ol (r'.snoc zW)) (λp hp=>.inl (ak.mp hp)) Ev;exact⟨ds.length- (i+1),by omega,rfl,ZL,WI,ou,_,_,YO.trans (UT.trans (GO.trans (zV.trans (zU.trans LB)))),s11.forget (Ro src _) (λj sv hj=>Rp hj),e14⟩
    .rw[m4 hzl]at e14;cases e14
   .cases e14
 .have hz:i=ds.length:=by omega
  subst hz;rw[List.drop_length]at ef;cases ef;refine .inl ⟨(yl F4 H4 (ZH.trans YO) s4.le _).2 (bc _),?_⟩;dsimp only at e6;split at e6
  .rename_i ys NF;cases e6;obtain⟨v',YV,WZ⟩:=s4.at' k _ NF;rw[YS]at YV;cases YV;obtain⟨b,vs,eb,UM,r'⟩:=Q7 WZ;cases eb;have mb:(acc,HO.lst vs)∈YF k:=by rw[UM];exact ac
   obtain⟨o1,o2,o3⟩:=s4.ok k _ mb;refine k0 (.ref acc) H4 F4 own2 (sH.trans s4.old) (sF.trans (ZH.trans YO)) (s2.after s4.old YO s4.le λb o e=>s4.fro b o e) ⟨[(acc,.lst vs)],.ol r',Ev,λp hp=>?_,λj p q hp hq e=>?_⟩
   .obtain rfl:=ak.mp hp;exact⟨o1,s2.old.free ha,o3⟩
   .obtain rfl:=ak.mp hp;have z:=(s2.ok j q hq).2.2;have e':acc=q.1:=e;rw[<-e',ha]at z;cases z
  .cases e6
end
section
variable{K:ad}
variable{Z:mF K}
@[simp]noncomputable def OE(f:Int->Int->D):D->D->Option SV
 | .int i,.int j=>aA (.fz (f i j))
 |_,_=>aB
@[simp]noncomputable def RL(C:Int->Int->Bool)(f:Int->Int->D):D->D->Option SV
 | .int i,.int j=>if C i j=aC then aA (.fz (f i j))else aB
 |_,_=>aB
theorem HY{g:Int->Int->V}{f:Int->Int->D}(hr:∀F i j,mI K F (f i j) (g i j)):Y6 Z (rI0 g) (OE f):=by
 intro F H σ δ own x y d1 d2 sv Q s r1 r2 e k;unfold OE at e;split at e
 .cases e;exact⟨_,_,r1.int,r2.int,k.fz s (hr _ _ _)⟩
 .cases e
theorem MJ{C:Int->Int->Prop}{c:Int->Int->Bool}{g:Int->Int->V}{f:Int->Int->D}(hc:∀i j,c i j=aC->C i j)(hr:∀F i j,mI K F (f i j) (g i j)):Y6 Z (rI C g) (RL c f):=by
 intro F H σ δ own x y d1 d2 sv Q s r1 r2 e k;unfold RL at e;split at e
 .split at e
  .rename_i hcc;cases e;exact⟨_,_,r1.int,r2.int,hc _ _ hcc,k.fz s (hr _ _ _)⟩
  .cases e
 .cases e
@[simp]def IM:D->D->Option SV:=OE λi j=>.int (i- j)
noncomputable def OD(i j:Int):Bool:=(decide (-(2^64)<i)&&decide (i<2^64))|| (decide (-(2^64)<j)&&decide (j<2^64))
@[simp]def DA:D->D->Option SV:=RL OD λi j=>.int (i*j)
@[simp]noncomputable def E_(i j:Int):Bool:=decide (0<j)&&decide (j<1073741824)
@[simp]def Me:D->D->Option SV:=RL E_ λi j=>.int (i / j)
@[simp]noncomputable def EZ(i j:Int):Bool:=decide (0<j)
@[simp]def Cm:D->D->Option SV:=RL EZ λi j=>.int (i % j)
@[simp]noncomputable def EY(i j:Int):Bool:=decide (0<=j)&&decide (j<=1000000)&&decide (i.natAbs<2^64)
@[simp]def IL:D->D->Option SV:=RL EY λi j=>.int (i^j.toNat)
theorem wa:Y6 Z (rI0 λi j=>V.int (i- j)) IM:=HY λ_ _ _=>.int _
theorem wZ:Y6 Z (rI OG λi j=>V.int (i*j)) DA:=MJ (λi j h=>by
 unfold OD at h;simp only[Bool.or_eq_true,Bool.and_eq_true,decide_eq_true_eq]at h;exact h) λ_ _ _=>.int _
theorem v8:Y6 Z (rI DG λi j=>V.int (i / j)) Me:=MJ (λi j h=>by
 unfold E_ at h;simp only[Bool.and_eq_true,decide_eq_true_eq]at h;exact h) λ_ _ _=>.int _
theorem wY:Y6 Z (rI (λ_ j=>0<j) λi j=>V.int (i % j)) Cm:=MJ (λi j h=>by
 unfold EZ at h;simp only[decide_eq_true_eq]at h;exact h) λ_ _ _=>.int _
theorem wX:Y6 Z (rI DF λi j=>V.int (i^j.toNat)) IL:=MJ (λi j h=>by
 unfold EY at h;simp only[Bool.and_eq_true,decide_eq_true_eq]at h;exact⟨h.1.1,h.1.2,h.2⟩) λ_ _ _=>.int _
@[simp]def ltD:D->D->Option SV:=OE λi j=>.bl (decide (i<j))
@[simp]def gtD:D->D->Option SV:=OE λi j=>.bl (decide (j<i))
theorem xP:Y6 Z (rI0 λi j=>V.bl (decide (i<j))) ltD:=HY λ_ _ _=>.bl _
theorem xO:Y6 Z (rI0 λi j=>V.bl (decide (j<i))) gtD:=HY λ_ _ _=>.bl _
def xN:R2:=λx y H Q=>∃i j,x= .str i/\y= .str j/\i.length+j.length<=cj/\Q (.str (i++j)) H
def C_(K:ad):R2:=λx y H Q=>∃l b xs zs,x= .ref l/\y= .ref b/\J3 K H l xs/\J3 K H b zs/\xs.length+zs.length<=cj/\∀p,H p=aB->Q (.ref p) (Yo H p (.lst (xs++zs)))
theorem sD{X:Cx}:O9 X (binaryOp .Add) (C_ X.K):=by
 intro n_ s σ H x y v u Q I rx ry h;obtain⟨l,b,xs,zs,rfl,rfl,hH,hB,hz,q⟩:=h;cases rx;cases ry;obtain⟨mC,r,pl,z⟩:=I.list hH;obtain⟨XO,r2,za,z2⟩:=I.list hB;have hl:=r.length;have hl2:=r2.length;obtain⟨⟨cls,dd,data,sl⟩,ho,hc,n,hd⟩:=pl.isList;obtain⟨⟨cls2,WK,data2,XF⟩,XT,WQ,n2,hd2⟩:=za.isList;simp only at hc hd WQ hd2;subst hc hd WQ hd2;have ea:mC.toArray++XO.toArray=(mC++XO).toArray:=by simp
 refine concat_meets ⟨_,ho,rfl⟩ ⟨_,XT,rfl⟩ noFill_list_add seq_list_add PySem.F.slot_list_add PySem.F.entry_list_add (PySem.F.args_list_add_2 _ _) (list_addW l b mC.toArray XO.toArray n n2 dd WK sl XF (by rw[bv,bv];omega)) ⟨ho,XT,?_⟩;rw[ea];exact⟨.ref _,_,I.lnew (t':=s.toks) (r.append r2) (by rw[av];omega),rfl,q _ I.fresh⟩
def T0(K:ad):R2:=λx y H Q=>rI0 (λi j=>V.int (i+j)) x y H Q\/(xN x y H Q\/C_ K x y H Q)
theorem He{X:Cx}:O9 X (binaryOp .Add) (T0 X.K):=uW.or (Vb.or sD)
@[simp]noncomputable def Qu:D->D->Option SV
 | .int i,.int j=>aA (.fz (.int (i+j)))
 | .str x,.str y=>if x.length+y.length<=cj then aA (.fz (.str (x++y)))else aB
 | .lst xs,.lst ys=>if xs.length+ys.length<=cj then aA (.ol (xs++ys))else aB
 | .lso xs,.lso ys=>if xs.length+ys.length<=cj then aA (.ol (xs++ys))else aB
 |_,_=>aB
theorem wW:Y6 Z (T0 K) Qu:=by
 intro F H σ δ own x y d1 d2 sv Q s r1 r2 e k;unfold Qu at e;split at e
 .cases e;exact .inl ⟨_,_,r1.int,r2.int,k.fz s (.int _)⟩
 .split at e
  .rename_i hz;cases e;exact .inr (.inl ⟨_,_,r1.str,r2.str,hz,k.fz s (.str _)⟩)
  .cases e
 .split at e
  .rename_i hz;cases e;obtain⟨a,vs,ex,ha,ra⟩:=r1.lst s.le;obtain⟨b,us,ey,hb,rb⟩:=r2.lst s.le;exact .inr (.inr ⟨a,b,vs,us,ex,ey,ha,hb,by rw[<-ra.length,<-rb.length];exact hz,λp hp=>k.lst s (ra.append rb) hp⟩)
  .cases e
 .split at e
  .rename_i hz;cases e;obtain⟨a,vs,ex,ha,ra⟩:=r1.lso s.le;obtain⟨b,us,ey,hb,rb⟩:=r2.lso s.le;exact .inr (.inr ⟨a,b,vs,us,ex,ey,ha,hb,by rw[<-ra.length,<-rb.length];exact hz,λp hp=>k.lst s (ra.append rb) hp⟩)
  .cases e
 .cases e
@[simp]noncomputable def eqS:D->D->Option Bool
 | .non,.non=>aA aC
 | .non,.int _=>aA aD
 | .int _,.non=>aA aD
 | .non,.bl _=>aA aD
 | .bl _,.non=>aA aD
 | .non,.str _=>aA aD
 | .str _,.non=>aA aD
 | .int i,.int j=>aA (decide (i=j))
 | .bl i,.bl j=>aA (decide (i=j))
 | .str i,.str j=>aA (decide (i=j))
 | .int _,.str _=>aA aD
 | .str _,.int _=>aA aD
 | .bl _,.str _=>aA aD
 | .str _,.bl _=>aA aD
 |_,_=>aB
theorem AH{F H:Hp}{d1 d2:D}{x y:V}{b:Bool}(e:eqS d1 d2=aA b)(r1:Yb K F H d1 x)(r2:Yb K F H d2 y):scal x y=aC/\b=decide (x=y):=by
 unfold eqS at e;split at e<;> cases e
 .rw[r1.non,r2.non];exact⟨rfl,by simp⟩
 .rw[r1.non,r2.int];exact⟨rfl,by simp⟩
 .rw[r1.int,r2.non];exact⟨rfl,by simp⟩
 .rw[r1.non,r2.bl];exact⟨rfl,by simp⟩
 .rw[r1.bl,r2.non];exact⟨rfl,by simp⟩
 .rw[r1.non,r2.str];exact⟨rfl,by simp⟩
 .rw[r1.str,r2.non];exact⟨rfl,by simp⟩
 .rw[r1.int,r2.int];exact⟨rfl,by simp⟩
 .rw[r1.bl,r2.bl];exact⟨rfl,by simp⟩
 .rw[r1.str,r2.str];exact⟨rfl,by simp⟩
 .rw[r1.int,r2.str];exact⟨rfl,by simp⟩
 .rw[r1.str,r2.int];exact⟨rfl,by simp⟩
 .rw[r1.bl,r2.str];exact⟨rfl,by simp⟩
 .rw[r1.str,r2.bl];exact⟨rfl,by simp⟩
@[simp]def eqD(d1 d2:D):Option SV:=(eqS d1 d2).bind λb=>some (.fz (.bl b))
@[simp]def neD(d1 d2:D):Option SV:=(eqS d1 d2).bind λb=>some (.fz (.bl (!b)))
theorem xM:Y6 Z rEq eqD:=by intro F H σ δ own x y d1 d2 sv Q s r1 r2 e k;obtain⟨b,e1,e2⟩:=aa.mp e;cases e2;obtain⟨h1,h2⟩:=AH e1 r1 r2;subst h2;exact⟨h1,k.fz s (.bl _)⟩
theorem xL:Y6 Z rNe neD:=by intro F H σ δ own x y d1 d2 sv Q s r1 r2 e k;obtain⟨b,e1,e2⟩:=aa.mp e;cases e2;obtain⟨h1,h2⟩:=AH e1 r1 r2;subst h2;exact⟨h1,k.fz s (.bl _)⟩
theorem mD.atI{F:Hp}{xs:List D}{vs:List V}{i:Int}{d:D}(r:mD K F xs vs)(e:L2.atI xs i=aA d):∃v,L2.atI vs i=aA v/\mI K F d v:=by unfold L2.atI at e⊢;obtain⟨j,e1,e2⟩:=aa.mp e;obtain⟨v,h1,h2⟩:=r.get e2;exact⟨v,aa.mpr ⟨j,by rw[<-r.length];exact e1,h1⟩,h2⟩
@[simp]def ixD:D->D->Option SV
 | .lst xs,.int i=>(L2.atI xs i).bind λd=>aA (.fz d)
 | .tup xs,.int i=>(L2.atI xs i).bind λd=>aA (.fz d)
 | .str z,.int i=>if z.length<=cj then(L2.atI z.cps.toList i).bind λc=>aA (.fz (.str ⟨#[c]⟩))else aB
 |_,_=>aB
theorem DE:Y6 Z (rIx K) ixD:=by
 intro F H σ δ own x y d1 d2 sv Q s r1 r2 e k;unfold ixD at e;split at e
 .obtain⟨d,e1,e2⟩:=aa.mp e;cases e2;obtain⟨a,vs,ex,ha,ra⟩:=r1.lst s.le;obtain⟨v,h1,h2⟩:=ra.atI e1;exact .inl ⟨a,vs,_,v,ex,r2.int,ha,h1,k.fz s h2⟩
 .obtain⟨d,e1,e2⟩:=aa.mp e;cases e2;obtain⟨a,vs,ex,ha,ra⟩:=r1.tup s.le;obtain⟨v,h1,h2⟩:=ra.atI e1;exact .inr (.inl ⟨a,vs,_,v,ex,r2.int,ha,h1,k.fz s h2⟩)
 .split at e
  .rename_i hz;obtain⟨c,e1,e2⟩:=aa.mp e;cases e2;exact .inr (.inr ⟨_,_,c,r1.str,r2.int,hz,e1,k.fz s (.str _)⟩)
  .cases e
 .cases e
abbrev FO:=Ym->Option (Option Int×Ym)
def Mf(Z:mF K)(f:FO):TO:=λσ H Q=>∃F δ own o δ',SR Z F H σ δ own/\f δ=aA (o,δ')/\∀H' F' own',Zi H H'->Zi F F'->SR Z F' H' σ δ' own'->Q o H'
@[simp]def Rq:FO:=λδ=>some (none,δ)
@[simp]def Iz(fe:FE):FO:=λδ=>(fe δ).bind λp=>match p.1 with
 | .tmp (.fz (.int i))=>aA (aA i,p.2)
 |_=>aB
section
variable{H:Hp}{σ:L2.St}{Q:VK}{R:Option Int->Hp->Prop}
theorem qi(h:Mf Z Rq σ H R):Ha σ H R:=by obtain⟨F,δ,own,o,δ',s,e,k⟩:=h;cases e;exact k H F own (Zi.refl H) (Zi.refl F) s
theorem v7{fe:FE}(h:Mf Z (Iz fe) σ H R):CO (Zf Z fe) σ H R:=by
 obtain⟨F,δ,own,b,δ',s,e,k⟩:=h;obtain⟨⟨rv,δ1⟩,e1,e2⟩:=aa.mp e;refine⟨F,δ,own,rv,δ1,s,e1,λv H1 F1 ZB sH sF s1 r1=>?_⟩;dsimp only at e2;split at e2
 .cases e2;obtain⟨ns,t⟩:=r1;cases Q6 t.sh;exact⟨_,rfl,k H1 F1 ZB sH sF s1⟩
 .cases e2
@[simp]def slF(g:D->Option Int->Option Int->Option SV)(fe:FE)(fl fh:FO):FE:=λδ=>(fe δ).bind λp=>(fl p.2).bind λl=>(fh l.2).bind λh=>(rdv p.1 h.2).bind λd=>(g d l.1 h.1).bind λsv=>some (.tmp sv,h.2)
def CZ(Z:mF K)(r:V->Option Int->Option Int->Hp->VK->Prop)(g:D->Option Int->Option Int->Option SV):Prop:=
 ∀(F H:Hp) (σ:L2.St) (δ:Ym) (own:Nat->Zr) (x:V) (d:D) (lo hi:Option Int) (sv:SV) (Q:VK),SR Z F H σ δ own->Yb K F H d x->g d lo hi=aA sv->Fin Z F H σ δ own sv Q->r x lo hi H Q
theorem xK{r:V->Option Int->Option Int->Hp->VK->Prop}{g:D->Option Int->Option Int->Option SV}{fe:FE}{fl fh:FO}(hg:CZ Z r g)(h:Zf Z (slF g fe fl fh) σ H Q):tSl r (Zf Z fe) (Mf Z fl) (Mf Z fh) σ H Q:=by
 obtain⟨F,δ,own,rv,δ',s,e,k⟩:=h;obtain⟨⟨W',δ1⟩,e1,e⟩:=aa.mp e;obtain⟨⟨lo,δ2⟩,e2,e⟩:=aa.mp e;obtain⟨⟨hi,XV⟩,e3,e⟩:=aa.mp e;obtain⟨d,e4,e⟩:=aa.mp e;obtain⟨sv,e5,e⟩:=aa.mp e;cases e;refine⟨F,δ,own,W',δ1,s,e1,λv H1 F1 ZB OQ XZ s1 r1=>?_⟩;obtain⟨GJ,TU,RZ,S_⟩:=s1.settleR r1;refine⟨GJ,δ1,ZB,lo,δ2,RZ,e2,λH2 F2 own2 XY ZH s2=>⟨F2,δ2,own2,hi,XV,s2,e3,λH3 F3 ZI Y_ ZT s3=>?_⟩⟩;exact hg F3 H3 σ XV ZI v d lo hi sv Q s3 (s3.rd (S_.mono (ZH.trans ZT)) e4) e5 λq H4 F4 ns W_ YO s4 t4=>
  k q H4 F4 ZI (OQ.trans (XY.trans (Y_.trans W_))) (XZ.trans (TU.trans (ZH.trans (ZT.trans YO)))) s4 ⟨ns,t4⟩
end
def IK(xs:List D)(lo hi:Option Int):List D:=(xs.drop (HT.sIx xs.length 0 lo)).take (HT.sIx xs.length xs.length hi- HT.sIx xs.length 0 lo)
theorem mD.cut{F:Hp}{xs:List D}{vs:List V}(r:mD K F xs vs)(lo hi:Option Int):mD K F (IK xs lo hi) (RN vs lo hi):=by unfold IK RN;rw[r.length];exact(r.drop _).take _
end
section
variable{X:Cx}{tg:cw}
theorem AG{l:cw}{tl:TE}(hl:PE X l tl):PI X tg l (L2.RM X.K tl):=by
 intro n_ s σ H R I h;refine Wl (hl n_ s σ H _ I h) λv s1 ZG=>?_;obtain⟨x,H1,I1,r1,q1⟩:=ZG;rcases q1 with⟨a,e,⟨xs,hq⟩,q⟩|⟨a,e,⟨xs,hq⟩,q⟩
 .subst e;cases r1;obtain⟨mC,rv,p,hz⟩:=I1.list hq;refine wpAny_pyIter_list p.isList ?_;refine⟨s1.heap.objs.size,[s1.heap.objs.size],_,_,H1,rfl,I1.kept (t':=s1.toks) λb o e=>ar _ e,Ij a _,⟨_,bo _ rfl,rfl,rfl⟩,λb hb=>?_,q⟩;have e:b=s1.heap.objs.size:=by simpa using hb
  subst e;exact I1.fpOk (bc _) (I1.hok.fresh (bc _))
 .subst e;cases r1;obtain⟨mC,rv,p,hz⟩:=I1.tuple hq;refine wpAny_pyIter_tuple (show s1.heap.IsTuple a mC.toArray from p) ?_;refine⟨s1.heap.objs.size,[s1.heap.objs.size],_,_,H1,rfl,I1.kept (t':=s1.toks) λb o e=>ar _ e,Tg a _,⟨_,bo _ rfl,rfl,rfl⟩,λb hb=>?_,q⟩;have e:b=s1.heap.objs.size:=by simpa using hb
  subst e;exact I1.fpOk (bc _) (I1.hok.fresh (bc _))
def Ite(K:ad)(a:aq):It:=
 ⟨λi H=>∃xs x,J3 K H a xs/\xs[i]? =aA x,λi H x H'=>∃p v,x= .ref p/\H p=aB/\H'=Yo H p (.tup [.int (i:Nat),v])/\∀xs,J3 K H a xs->xs[i]? =aA v,λi H=>∃xs,J3 K H a xs/\xs.length<=i⟩
theorem mE.turnedT{n_:List (aq×Obj)}{σ:L2.St}{H:Hp}{s:ao}{h':d6}{t':Nat}{e it T:aq}{xs:List V}{mC:List aj}(I:mE X n_ σ H s)(k:∀b o,b≠e->b≠it->s.heap.get? b=aA o->h'.get? b=aA o)
  (f1:Uy X n_ H e) (f2:Uy X n_ H it) (hT:T=s.heap.objs.size) (ht:IsTup h' T mC.toArray) (rv:Z1 xs mC) (hz:xs.length<=sizeLine) (he:∃o,h'.get? e=aA o) (hi:∃o,h'.get? it=aA o):
  mE X n_ σ (Yo H T (.tup xs)) {s with heap:=h',toks:=t'}:=by
 have PQ:H T=aB:=by rw[hT];exact I.hok.fresh (bc _)
 have neT:∀b o,s.heap.get? b=aA o->b≠T:=λb o q=>by rw[hT];exact cm (bp q)
 have OZ:∀b u,H b=aA u->b≠e/\b≠it:=λb u q=>⟨(λz=>by rw[z,f1.1]at q;cases q),(λz=>by rw[z,f2.1]at q;cases q)⟩
 refine I.step (g':=s.gens) (d':=s.drawn) (ch:=[e,it]) (λb hb=>?_) (λb o _ _ hc q _=>k b o (λz=>hc (by simp[z])) (λz=>hc (by simp[z])) q)
  (λb o _ _ hc q _=>⟨o.slots,k b o (λz=>hc (by simp[z])) (λz=>hc (by simp[z])) q⟩) (λb o _ q n=>by rw[Zp (neT b o q)];exact n)
  (λb o hc q=>⟨o,k b o (λz=>hc (by simp[z])) (λz=>hc (by simp[z])) q⟩) (λb ys q=>by rw[Zp (Y1 q PQ)];exact q) (λb o u q=>by rw[Zp (Y1 q PQ)];exact q)
  (λb ps q=>⟨#[],by rw[Zp (Y1 q PQ),q];simp⟩) (λm hm=>?_) (λb u q=>?_) I.bare
 .have ZX:b=e\/b=it:=by simpa using hb
  rcases ZX with z|z
  .subst z;obtain⟨_,a1,_,a3,a4,a5⟩:=f1;exact⟨a3,a1,a4,a5⟩
  .subst z;obtain⟨_,a1,_,a3,a4,a5⟩:=f2;exact⟨a3,a1,a4,a5⟩
 .obtain⟨o,es,ep,ho,r⟩:=hm;exact⟨o,es,ep,k _ o (Ne.symm f1.2.1) (Ne.symm f2.2.1) ho,r⟩
 .by_cases hb:b=T
  .subst hb;rw[Z8]at q;cases q;exact⟨hz,mC,rv,ht⟩
  .rw[Zp hb]at q;refine(I.hok b u q).stay (λc v hc z=>?_) (λc z=>by rw[Zp (Y1 z PQ)];exact z) λc ys z=>by rw[Zp (Y1 z PQ)];exact z
   rcases hc with y|y
   .rw[y]at z⊢;exact k _ _ (OZ b u q).1 (OZ b u q).2 z
   .exact k _ _ (OZ c _ y).1 (OZ c _ y).2 z
theorem pq{P:cg}{w:c8}{K:ad}{XC:List cw}{kk:Nat}{YN:Pos}(a e it:aq)(UI:e≠it):Turn P w K (.Tuple XC kk YN) (Ite K a) [e,it] e (λi h=>(∃old,IsEnum h e it ((i:Nat):Int) old)/\h.IsListIter it a i)where
 mem:=by simp
 obj:=λi h st b hb=>by
  have ZX:b=e\/b=it:=by simpa using hb
  rcases ZX with z|z
  .subst z;obtain⟨old,q⟩:=st.1;exact⟨_,q,λv y=>by
    have y':Data.fields _=Data.cell v:=y;cases y'⟩
  .subst z;obtain⟨o,q,c,d⟩:=st.2;exact⟨o,q,λv y=>by rw[d]at y;cases y⟩
 keep:=λi h h' st k=>⟨let⟨old,q⟩:=st.1;⟨old,k e (by simp) _ q⟩,st.2.at λo q=>k it (by simp) o q⟩
 item:=by
  intro X hP hw hK hc i n_ s σ H E I hf st hg;subst hP hw hK;obtain⟨xs,x,hq,hx⟩:=hg;obtain⟨mC,rv,p,hz⟩:=I.list hq;obtain⟨u,hu,ru⟩:=rv.get hx;obtain⟨⟨old,he⟩,YH⟩:=st;have hl:s.heap.IsList a mC.toArray:=p.isList;have ai:a≠it:=λz=>by obtain⟨o1,q1,c1,_⟩:=YH;obtain⟨o2,q2,c2,_⟩:=hl;rw[z,q1]at q2;cases q2;rw[c1]at c2;exact m_ c2 (by decide)
  have ae:e∉[it,a]:=λz=>by
   have z':e=it\/e=a:=by simpa using z
   rcases z' with z|z
   .exact UI z
   .obtain⟨o2,q2,c2,_⟩:=hl;rw[<-z,he]at q2;cases q2;exact m_ (show Value.type "enumerate"=Value.type "list"from c2) (by decide)
  have D:=Draws.list (prog:=X.prog) (w:=X.w) (A:=X.A.in1) (by first|exact I.ok.hd hc| (rw[show X.A.in1.handled=X.A.handled from rfl];exact I.ok.hd hc)) it a ai mC.toArray;have ZL:i<mC.toArray.size:=by have:=(aw.mp hu).1;rw[bv];exact this
  refine wpAny_pyNext_enum_itemD D he ⟨YH,hl⟩ ZL UI ae λy h' tk hy SD YM hT hsz hk=>⟨.ref s.heap.objs.size,rfl,?_⟩
  refine wpAny_letOwnedTupleGo_enum SD λh2 WU hs2=>?_;have VC:mC.toArray[i]? =aA y:=hy;have ey:y=u:=by
   have:mC[i]? =aA y:=by simpa using VC
   rw[hu]at this;cases this;rfl
  subst ey;have kk:∀b o,b≠e->b≠it->s.heap.get? b=aA o->h2.get? b=aA o:=λb o h1 h3 q=>(hs2.2 b h1).trans (hk b o h1 h3 q);have neT:s.heap.objs.size≠e:=Nat.ne_of_gt (bp he);have I2:=I.turnedT (h':=h2) (t':=tk+1) (e:=e) (it:=it) (T:=s.heap.objs.size) (xs:=[.int (i:Nat),x]) (mC:=[.int i tk,y]) kk (hf e (by simp)) (hf it (by simp)) rfl ⟨_,(hs2.2 _ neT).trans hT,rfl,_,rfl⟩ (.cons ⟨tk,rfl⟩ (.cons ru .nil)) (by show 2<=sizeLine;decide)
   ⟨_,WU⟩ (let⟨o,q,_⟩:=YM.1;⟨o,(hs2.2 it (Ne.symm UI)).trans q⟩)
  refine⟨.ref s.heap.objs.size,_,I2,rfl,⟨s.heap.objs.size,x,rfl,I.hok.fresh (bc _),rfl,λys KG=>by rw[I.list_inj KG hq];exact hx⟩,⟨⟨_,WU⟩,YM.1.at λo q=>(hs2.2 it (Ne.symm UI)).trans q⟩,λb hb=>?_⟩;rw[Zp λz=>?_]
  .exact(hf b hb).1
  .have ZX:b=e\/b=it:=by simpa using hb
   rcases ZX with y|y
   .rw[<-z,y]at neT;exact neT rfl
   .obtain⟨o,q,_⟩:=YH;rw[y]at z;exact m_ (bp q) (by rw[z];exact gz _)
 done:=by intro X hP hw hK hc i n_ s σ H E I hf st hg;subst hP hw hK;obtain⟨xs,hq,hx⟩:=hg;obtain⟨mC,rv,p,hz⟩:=I.list hq;obtain⟨⟨old,he⟩,YH⟩:=st;obtain⟨f0,f1,f2,f3,f4,f5⟩:=hf it (by simp);have hl:=rv.length;exact wpAny_pyNext_enum_end (I.ok.hd hc) he YH p.isList (by simp;omega) λh' eb=>⟨rfl,I.turned (t':=s.toks) (λb o hb q=>eb b o hb q) f0 f1 f3 f4 f5⟩
 self:=λ_ _ _ _ _ st h=>let⟨⟨old,he⟩,_⟩:=st;wpAny_pyIter_enum he h
def CN(K:ad)(ta:TA):TI:=λσ H R=>ta σ H λvs H1=>∃a xs,vs=[.ref a]/\J3 K H1 a xs/\R (Ite K a) H1
theorem sC{l:cw}{XC:List cw}{kk:Nat}{YN p pos:Pos}{ta:TA}(hg:Gl X "enumerate")(hm:X.mg "enumerate"=aB)(ha:PA X [l] ta)(hs:az [l] X.env=[(aD,gg l X.env)]:=by rfl):
  PI X (.Tuple XC kk YN) (.Call (.Name "enumerate" p) [l] [] pos) (CN X.K ta):=by
 intro n_ s σ H R I h;refine Call_ (O8 I hg hm boot_enumerate (PyProof.Rows.callWith_type1 (Wl (ha pos n_ s σ H _ I h) λus s1 ⟨vs,H1,I1,r1,q1⟩=>?_) hs rfl));obtain⟨a,xs,e,hq,q⟩:=q1;subst e;obtain⟨u,rfl,ru⟩:=Oy r1;cases ru;obtain⟨mC,rv,p,hz⟩:=I1.list hq;refine call_enumerate_list p.isList λh' he YH hsz hk=>wpAny_pyIter_enum he ?_;have I2:mE X n_ σ H1 {s1 with heap:=h'}:=I1.kept (t':=s1.toks) hk;refine⟨s1.heap.objs.size+1,[s1.heap.objs.size+1,s1.heap.objs.size],_,_,H1,rfl,I2,pq a _ _ (Nat.succ_ne_self _),⟨⟨.none,by simpa using he⟩,YH⟩,λb hb=>?_,q⟩;have ZX:b=s1.heap.objs.size+1\/b=s1.heap.objs.size:=by simpa using hb
 rcases ZX with z|z
 .subst z;exact I1.fpOk (Nat.le_succ _) (I1.hok.fresh (Nat.le_succ _))
 .subst z;exact I1.fpOk (bc _) (I1.hok.fresh (bc _))
inductive TyX(K:ad)(H:Hp):V->String->Prop where
 |non:TyX K H .non "NoneType"
 |bl (x:Bool):TyX K H (.bl x) "bool"
 |int (i:Int):TyX K H (.int i) "int"
 |str (x:Str):TyX K H (.str x) "str"
 |lst {a:aq} {xs:List V} (e:J3 K H a xs):TyX K H (.ref a) "list"
 |tup {a:aq} {xs:List V} (e:Rl K H a xs):TyX K H (.ref a) "tuple"
 |dK {a:aq} {kvs:List (Key×V)} {ep:Nat} (e:H a=aA (.dK kvs ep)):TyX K H (.ref a) "dict"
 |dT {a:aq} {kvs:List (List Key×V)} {ep:Nat} {bs:List aq} (e:H a=aA (.dT kvs ep bs)):TyX K H (.ref a) "dict"
theorem qh{n_:List (aq×Obj)}{σ:L2.St}{H:Hp}{s:ao}{A:dh}{E:aj->ao->Prop}{Q:aj->ao->Prop}{c:aj}{b:Bool}{x:V}{u:aj}{T:String}(I:mE X n_ σ H s)(rx:Zy x u)(ty:TyX X.K H x T)(e:PySem.W.kitOne X.K (.type T) c=aA b)(h:∀tk,Q (.bool b) {s with toks:=tk}):
  bj (cf X.prog X.w) A (call (.builtin "isinstance") [u,c]) Q E s:=by
 cases ty with
 |non=>cases(show u=cn from rx);exact PySem.W.kia_one PySem.W.kitx_none I.kIn True.intro e (λz=>nomatch z) h
 |bl y=>cases(show u=Value.bool y from rx);exact PySem.W.kia_one PySem.W.kitx_bool I.kIn True.intro e (λz=>nomatch z) h
 |int i=>obtain⟨t,q⟩:=(show∃t,u=Value.int i t from rx);cases q;exact PySem.W.kia_one PySem.W.kitx_int I.kIn True.intro e (λz=>nomatch z) h
 |str y=>obtain⟨t,q⟩:=(show∃t,u=Value.str y t from rx);cases q;exact PySem.W.kia_one PySem.W.kitx_str I.kIn True.intro e (λz=>nomatch z) h
 | @lst a xs ea=>cases(show u=b8 a from rx);obtain⟨mC,_,pl,_⟩:=I.list ea;obtain⟨o,h1,h2,_⟩:=pl.isList;exact PySem.W.kia_one PySem.W.kitx_list I.kIn ⟨o,h1,h2⟩ e (λz=>nomatch z) h
 | @tup a xs ea=>cases(show u=b8 a from rx);obtain⟨mC,_,pl,_⟩:=I.tuple ea;obtain⟨o,h1,h2,_⟩:=pl;exact PySem.W.kia_one PySem.W.kitx_tuple I.kIn ⟨o,h1,h2⟩ e (λz=>nomatch z) h
 | @dK a kvs ep ea=>
  cases(show u=b8 a from rx);obtain⟨_,_,vs,_,p⟩:=(show Yc X.prog X.w H s.heap a (.dK kvs ep)from I.hok a _ ea)
  obtain⟨o,es,h1,h2,_⟩:=p;exact PySem.W.kia_one PySem.W.kitx_dict I.kIn ⟨o,h1,h2.1⟩ e (λz=>nomatch z) h
 | @dT a kvs ep bs ea=>
  cases(show u=b8 a from rx);obtain⟨_,_,xs,_,o,es,h1,h2,_⟩:=(show Yc X.prog X.w H s.heap a (.dT kvs ep bs)from I.hok a _ ea)
  exact PySem.W.kia_one PySem.W.kitx_dict I.kIn ⟨o,h1,h2.1⟩ e (λz=>nomatch z) h
def DD(K:ad)(c:String):List V->Hp->VK->Prop:=λxs H Q=>∃x t b,xs=[x,.ty c]/\TyX K H x t/\PySem.W.kitOne K (.type t) (.type c)=aA b/\Q (.bl b) H
theorem qg{c:String}:Je X (.builtin "isinstance") (DD X.K c):=by intro n_ s σ H xs us Q I r h;obtain⟨x,t,b,rfl,ty,e,q⟩:=h;obtain⟨u,w',rfl,r1,r2⟩:=CP r;cases r2;exact qh I r1 ty e λtk=>⟨.bl b,H,I.tok _,rfl,q⟩
end
section
variable{K:ad}
noncomputable def Q8(xs:List D):List D:=xs.zipIdx.map λp=>.tup [.int (p.2:Nat),p.1]
theorem I8{xs:List D}{i:Nat}{d:D}(h:(Q8 xs)[i]? =aA d):∃x,xs[i]? =aA x/\d= .tup [.int (i:Nat),x]:=by
 unfold Q8 at h;rw[bg,List.getElem?_zipIdx]at h;cases e:xs[i]? with
 |none=>rw[e]at h;cases h
 |some x=>rw[e]at h;cases h;exact⟨x,rfl,by simp⟩
theorem I9(xs:List D):(Q8 xs).length=xs.length:=by unfold Q8;rw[ah,List.length_zipIdx]
theorem Pj{F:Hp}{a:aq}{xs:List D}{vs:List V}(h:J3 K F a vs)(r:mD K F xs vs):Be K (Ite K a) F (Q8 xs):=λF' H sF sH i=>by
 have q:J3 K H a vs:=Yg (sF.trans sH) h;refine⟨λd hd=>?_,λhl=>⟨vs,q,by rw[<-r.length,<-I9];exact hl⟩⟩;obtain⟨x,hx,rfl⟩:=I8 hd;obtain⟨v,h1,h2⟩:=r.get hx;refine⟨⟨vs,v,q,h1⟩,λy H' ZG=>?_⟩;obtain⟨p,w,e1,e2,e3,e4⟩:=ZG;subst e1 e3;have e5:=e4 vs q;rw[h1]at e5;cases e5;have hp:F' p=aB:=sH.free e2;have sm:Zi F' (Qt F' [(p,.tup [.int (i:Nat),v])]):=Qa λz hz=>by obtain rfl:=ak.mp hz;exact hp
 refine⟨Wq e2,[(p,.tup [.int (i:Nat),v])],Ev,λz hz=>?_,.tup Z8 (.cons (.int _) (.cons (h2.mono (sF.trans sm)) .nil))⟩;obtain rfl:=ak.mp hz;exact⟨e2,Z8⟩
section
variable{Z:mF K}{H:Hp}{σ:L2.St}{Q:VK}
@[simp]def CM(fd:FD):FD:=λδ=>(fd δ).bind λp=>match p.1 with
 | [.lst xs]=>aA (Q8 xs,p.2)
 |_=>aB
theorem sB{fd:FD}{R:It->Hp->Prop}(h:Qg Z (CM fd) σ H R):CN K (Y3 Z fd) σ H R:=by
 obtain⟨F,δ,own,ds,δ',s,e,k⟩:=h;obtain⟨⟨ds1,δ1⟩,e1,e2⟩:=aa.mp e;refine⟨F,δ,own,ds1,δ1,s,e1,λvs H1 F1 ZB sH sF s1 r1=>?_⟩;dsimp only at e2;split at e2
 .rename_i xs;cases e2;cases r1 with
  |cons h t=>
   cases t;cases h with
   |lst h _ r=>exact⟨_,_,rfl,Yg s1.le h,k _ H1 F1 ZB sH sF s1 (Pj h r)⟩
 .cases e2
@[simp]noncomputable def D.ty:D->String
 | .str _=>"str"
 | .int _=>"int"
 | .lst _=>"list"
 | .dK _ _=>"dict"
 | .dT _ _=>"dict"
 |_=>"?"
@[simp]noncomputable def IJ(T:String)(d:D):Bool:=T==d.ty&&(T=="str" ||T=="list" ||T=="dict")
theorem wx{F H:Hp}{d:D}{x:V}{T:String}(le:Zi F H)(r:Yb K F H d x)(h:IJ T d=aC):tyV K T x H:=by
 unfold IJ at h;simp only[Bool.and_eq_true,beq_iff_eq]at h;obtain⟨h1,h2⟩:=h;subst h1;cases d with
 |str y=>rw[r.str];rfl
 |lst xs=>obtain⟨a,vs,e,ha,_⟩:=r.lst le;subst e;exact .inl ⟨rfl,vs,ha⟩
 |dK ks vs=>obtain⟨a,kvs,e,⟨ep,ha⟩,_⟩:=r.dK le;subst e;exact .inr (.inr (.inl ⟨rfl,.inl ⟨kvs,ep,ha⟩⟩))
 |dT ks vs=>obtain⟨a,kvs,e,⟨ep,bs,ha⟩,_⟩:=r.dT le;subst e;exact .inr (.inr (.inl ⟨rfl,.inr ⟨kvs,ep,bs,ha⟩⟩))
 |non=>exact m_ (show("?"=="str" || "?"=="list" || "?"=="dict")=aC from h2) (by decide)
 |bl b=>exact m_ (show("?"=="str" || "?"=="list" || "?"=="dict")=aC from h2) (by decide)
 |int i=>exact m_ (show("int"=="str" || "int"=="list" || "int"=="dict")=aC from h2) (by decide)
 |tup xs=>exact m_ (show("?"=="str" || "?"=="list" || "?"=="dict")=aC from h2) (by decide)
 |exc C ks vs=>exact m_ (show("?"=="str" || "?"=="list" || "?"=="dict")=aC from h2) (by decide)
 |lso xs=>exact m_ (show("?"=="str" || "?"=="list" || "?"=="dict")=aC from h2) (by decide)
 |dX ks vs=>exact m_ (show("?"=="str" || "?"=="list" || "?"=="dict")=aC from h2) (by decide)
end
@[simp]noncomputable def strs?:List D->Option (List Str)
 | []=>aA []
 | .str x::r=>(strs? r).bind λt=>aA (x::t)
 |_=>aB
variable{Z:mF K}
@[simp]noncomputable def D.pyTy:D->String
 | .non=>"NoneType"
 | .bl _=>"bool"
 | .int _=>"int"
 | .str _=>"str"
 | .tup _=>"tuple"
 | .lst _=>"list"
 | .dK _ _=>"dict"
 | .dT _ _=>"dict"
 | .dX _ _=>"?"
 | .lso _=>"?"
 | .exc _ _ _=>"?"
@[simp]noncomputable def D.isExc:D->Bool
 | .exc _ _ _=>aC
 | .dX _ _=>aC
 | .lso _=>aC
 |_=>aD
theorem sA{F H:Hp}{d:D}{x:V}(le:Zi F H)(r:Yb K F H d x)(hx:d.isExc=aD):TyX K H x d.pyTy:=by
 cases d with
 |exc C ks vs=>cases hx
 |dX ks vs=>cases hx
 |lso xs=>cases hx
 |non=>rw[r.non];exact .non
 |bl b=>rw[r.bl];exact .bl b
 |int i=>rw[r.int];exact .int i
 |str y=>rw[r.str];exact .str y
 |tup xs=>obtain⟨a,vs,e,ha,_⟩:=r.tup le;subst e;exact .tup ha
 |lst xs=>obtain⟨a,vs,e,ha,_⟩:=r.lst le;subst e;exact .lst ha
 |dK ks vs=>obtain⟨a,kvs,e,⟨ep,ha⟩,_⟩:=r.dK le;subst e;exact .dK ha
 |dT ks vs=>obtain⟨a,kvs,e,⟨ep,bs,ha⟩,_⟩:=r.dT le;subst e;exact .dT ha
@[simp]noncomputable def MI(c:String)(d:D):Option SV:=if d.isExc=true then none else some (.fz (.bl (d.pyTy==c|| (c=="int" &&d.pyTy=="bool"))))
theorem ww{c:String}(hk:∀d:D,d.isExc=aD->PySem.W.kitOne K (.type d.pyTy) (.type c)=aA (d.pyTy==c|| (c=="int" &&d.pyTy=="bool"))):GF Z (λx H Q=>DD K c [x,.ty c] H Q) (MI c):=by
 intro F H σ δ own x d sv Q s r e k;unfold MI at e;split at e
 .cases e
 .rename_i hx;cases e;have YR:d.isExc=aD:=by cases z:d.isExc with
   |true=>exact m_ z hx
   |false=>rfl
  exact⟨x,_,_,rfl,sA s.le r YR,hk d YR,k.fz s (.bl _)⟩
@[simp]noncomputable def Pk:List D->Option SV
 | [.lst xs]=>aA (.fz (.int (xs.length:Nat)))
 | [.tup xs]=>aA (.fz (.int (xs.length:Nat)))
 | [.str x]=>if x.length<=cj then aA (.fz (.int (x.length:Nat)))else aB
 |_=>aB
theorem wv:Bc Z (λxs H Q=>(∃p ys,xs=[V.ref p]/\(J3 K H p ys\/Rl K H p ys)/\Q (.int ys.length) H)\/(∃z,xs=[V.str z]/\z.length<=cj/\Q (.int z.length) H)) Pk:=by
 intro F H σ δ own vs ds sv Q s r e k;unfold Pk at e;split at e
 .cases e;cases r with
  |cons h t=>cases t;obtain⟨a,us,ex,ha,ra⟩:=h.lst s.le;subst ex;exact .inl ⟨a,us,rfl,.inl ha,by rw[<-ra.length];exact k.fz s (.int _)⟩
 .cases e;cases r with
  |cons h t=>cases t;obtain⟨a,us,ex,ha,ra⟩:=h.tup s.le;subst ex;exact .inl ⟨a,us,rfl,.inr ha,by rw[<-ra.length];exact k.fz s (.int _)⟩
 .split at e
  .rename_i hz;cases e;cases r with
   |cons h t=>cases t;exact .inr ⟨_,by rw[h.str],hz,k.fz s (.int _)⟩
  .cases e
 .cases e
@[simp]noncomputable def MH:List D->Option SV
 | [.int i]=>aA (.fz (.int i))
 | [.bl b]=>aA (.fz (.int (if b then 1 else 0)))
 |_=>aB
theorem wu:Bc Z (λxs H Q=>(∃i,xs=[V.int i]/\Q (.int i) H)\/∃k,xs=[V.bl k]/\Q (.int (if k then 1 else 0)) H) MH:=by
 intro F H σ δ own vs ds sv Q s r e k;unfold MH at e;split at e
 .cases e;cases r with
  |cons h t=>cases t;exact .inl ⟨_,by rw[h.int],k.fz s (.int _)⟩
 .cases e;cases r with
  |cons h t=>cases t;exact .inr ⟨_,by rw[h.bl],k.fz s (.int _)⟩
 .cases e
section
variable{X:Cx}{Z:mF X.K}{a b c:cw}{fa fb fc:FE}{pos:Pos}
theorem Zc(i:Nat){x:Str}{pos:Pos}(hN:X.N[i]? =aA x:=by rfl)(hv:X3 X.env.scope x:=by first|exact Or.inl rfl|exact gv (Or.inl rfl)|exact gv (gv rfl))(hd:(x==("__debug__":Str))=aD:=by decide)
  (YD:(x==("__classdict__":Str))=aD:=by decide):PE X (.Name x pos) (Zf Z (Zb i)):=(Up hN hv hd YD).imp λ_ _ _ h=>wm h
theorem Zl{i:Int}{j:Nat}:PE X (.Constant (.int i) j pos) (Zf Z (Zg (.int i))):=AZ.imp λ_ _ _ h=>Le (λ_=>.int _) h
theorem OC{i:Bool}{j:Nat}:PE X (.Constant (.bool i) j pos) (Zf Z (Zg (.bl i))):=vA.imp λ_ _ _ h=>Le (λ_=>.bl _) h
theorem Pl{i:Str}{j:Nat}:PE X (.Constant (.str i) j pos) (Zf Z (Zg (.str i))):=Kr.imp λ_ _ _ h=>Le (λ_=>.str _) h
theorem Fa{op:Operator}{r:R2}{g:D->D->Option SV}(ho:O9 X (binaryOp op) r)(hp:Y6 Z r g)(ha:PE X a (Zf Z fa))(hb:PE X b (Zf Z fb)):PE X (.BinOp a op b pos) (Zf Z (Zj g fa fb)):=(CT ho ha hb).imp λ_ _ _ h=>Ix hp h
theorem Wr(ha:PE X a (Zf Z fa))(hb:PE X b (Zf Z fb)):PE X (.BinOp a .Add b pos) (Zf Z (Zj Qu fa fb)):=Fa He wW ha hb
theorem wt(ha:PE X a (Zf Z fa))(hb:PE X b (Zf Z fb)):PE X (.BinOp a .Sub b pos) (Zf Z (Zj IM fa fb)):=Fa uV wa ha hb
theorem Rr(ha:PE X a (Zf Z fa))(hb:PE X b (Zf Z fb)):PE X (.BinOp a .FloorDiv b pos) (Zf Z (Zj Me fa fb)):=Fa s_ v8 ha hb
theorem U3(ha:PE X a (Zf Z fa))(hb:PE X b (Zf Z fb)):PE X (.BinOp a .Mod b pos) (Zf Z (Zj Cm fa fb)):=Fa uT wY ha hb
theorem wq(ha:PE X a (Zf Z fa))(hb:PE X b (Zf Z fb)):PE X (.BinOp a .Pow b pos) (Zf Z (Zj IL fa fb)):=Fa uS wX ha hb
theorem wo{op:CmpOp}{r:R2}{g:D->D->Option SV}(ho:O9 X (compareOp op) r)(hp:Y6 Z r g)(ha:PE X a (Zf Z fa))(hb:PE X b (Zf Z fb))(hm:behindInMarks op b=aD):PE X (.Compare a [op] [b] pos) (Zf Z (Zj g fa fb)):=(sj ho ha hb hm).imp λ_ _ _ h=>Ix hp h
theorem T3{op:CmpOp}{r:R2}{g:D->D->Option SV}(ho:O9 X (compareOp op) r)(hp:Y6 Z r g)(ha:PE X a (Zf Z fa))(hb:PE X b (Zf Z fb))(hm:behindInMarks op b=aD):PT X (.Compare a [op] [b] pos) (Yh Z (Yf (Zj g fa fb))):=
 (si ho ha hb hm).imp λσ H Q h=>by obtain⟨F,δ,own,rv,δ',s,e,k⟩:=Vn h;exact Ix hp ⟨F,δ,own,rv,δ',s,e,k⟩
theorem xX(ha:PE X a (Zf Z fa))(hb:PE X b (Zf Z fb)):PT X (.Compare a [.Lt] [b] pos) (Yh Z (Yf (Zj ltD fa fb))):=T3 w5 xP ha hb (Ti _)
theorem DC(ha:PE X a (Zf Z fa))(hb:PE X b (Zf Z fb)):PT X (.Compare a [.Gt] [b] pos) (Yh Z (Yf (Zj gtD fa fb))):=T3 wz xO ha hb (Ti _)
theorem v6{f:FT}(ha:PT X a (Yh Z f)):PW X (.BoolOp .And [a] pos) (Yh Z f):=rA ha
theorem HW{f:FT}(ha:PT X a (Yh Z f)):PW X (.BoolOp .Or [a] pos) (Yh Z f):=uh ha
theorem wO{f g:FT}{rest:List cw}(ha:PT X a (Yh Z f))(hb:PW X (.BoolOp .And (b::rest) pos) (Yh Z g)):PW X (.BoolOp .And (a::b::rest) pos) (Yh Z (IV f g)):=(ug ha hb).imp λ_ _ _ h=>wj h
theorem OB{f g:FT}{rest:List cw}(ha:PT X a (Yh Z f))(hb:PW X (.BoolOp .Or (b::rest) pos) (Yh Z g)):PW X (.BoolOp .Or (a::b::rest) pos) (Yh Z (orF f g)):=(w_ ha hb).imp λ_ _ _ h=>xQ h
theorem wN{f:FT}(ha:PT X a (Yh Z f)):PT X (.UnaryOp .Not a pos) (Yh Z (IU f)):=(uf ha).imp λ_ _ _ h=>wg h
theorem wM(h:PE X a (Zf Z fa))(he:∀YK,isTrue a X.env YK=(do let v<-YK;standAt a.pos;holding [v] (truthy v)):=by intro _;rfl):PT X a (Yh Z (Yf fa)):=(ui h he).imp λ_ _ _ h=>sM h
theorem wL{op:BoolOp}(h:PE X a (Zf Z fa)):PE X (.BoolOp op [a] pos) (Zf Z fa):=ue h
theorem wK{rest:List cw}(ha:PE X a (Zf Z fa))(hb:PE X (.BoolOp .And (b::rest) pos) (Zf Z fb)):PE X (.BoolOp .And (a::b::rest) pos) (Zf Z (IT fa fb)):=(uY ha hb).imp λ_ _ _ h=>uc h
theorem Ys:PA X [] (U1 Z Zo):=Jl.imp λ_ _ _ h=>pF h
theorem Zt{es:List cw}{fr:FA}(ha:PE X a (Zf Z fa))(hr:PA X es (U1 Z fr))(hs:az (a::es) X.env=(aD,gg a X.env)::az es X.env:=by rfl):PA X (a::es) (U1 Z (Ze fa fr)):=(W5 ha hr hs).imp λ_ _ _ h=>p6 h
theorem Zv:PA X [] (Y3 Z Zd):=Jl.imp λ_ _ _ h=>Iy h
theorem Zk{es:List cw}{fr:FD}(ha:PE X a (Zf Z fa))(hr:PA X es (Y3 Z fr))(hs:az (a::es) X.env=(aD,gg a X.env)::az es X.env:=by rfl):PA X (a::es) (Y3 Z (Za fa fr)):=(W5 ha hr hs).imp λ_ _ _ h=>Tx h
theorem Wd{es:List cw}{fd:FD}{k:Nat}(h:PA X es (Y3 Z fd)):PE X (.Tuple es k pos) (Zf Z (tupF fd)):=(AT h).imp λ_ _ _ h=>wl h
theorem Yr{es:List cw}{fd:FD}(h:PA X es (Y3 Z fd)):PE X (.List es pos) (Zf Z (Yn fd)):=(Vc h).imp λ_ _ _ h=>wk h
theorem Vt:PO X aB (Mf Z Rq):=λn_ s σ H Q I h=>rO n_ s σ H Q I (qi h)
theorem Vu(ha:PE X a (Zf Z fa)):PO X (aA a) (Mf Z (Iz fa)):=λn_ s σ H Q I h=>rN ha n_ s σ H Q I (v7 h)
theorem v5{k n:Nat}{f:aq}{fd:FuncData}{ps:List Str}{g:List D->Option SV}{x:Str}{p:Pos}{es:List cw}{fr:FA}(F:FnOk X.prog X.w X.K X.mg X.base Rn k f fd ps (Wk X.K n g))(hr:mO k X.A)(hm:X.mg x=aA (.ref f))(hk:PySem.W.keepIn X.K (.ref f)=aC)(hb:Tn X.K fd ps [])
  (ha:PA X (a::es) (U1 Z fr)) (hg:Gl X x:=by rfl) (YB:(x==("__debug__":Str))=aD:=by decide) (he:az (a::es) X.env=(aD,gg a X.env)::az es X.env:=by rfl) (ZO:(gb pos (az es X.env)).any (·.1)=aD:=by rfl):
  PE X (.Call (.Name x p) (a::es) [] pos) (Zf Z (Y2 n g fr)):=(Kv F hr hg hm hk hb .nil GI ha YB he ZO).imp λ_ _ _ h=>ud h
theorem Mz{id:String}{r:List V->Hp->VK->Prop}{g:List D->Option SV}{x:Str}{p:Pos}{es:List cw}{fr:FA}(hc:Je X (.builtin id) r)(hp:Bc Z r g)(hm:X.mg x=aB)(hv:bootBuiltins x=aA (.builtin id))(ha:PA X (a::es) (U1 Z fr))(hg:Gl X x:=by rfl)(hn:x≠"__name__":=by decide)(YB:(x==("__debug__":Str))=aD:=by decide)
  (he:az (a::es) X.env=(aD,gg a X.env)::az es X.env:=by rfl) (ZO:(gb pos (az es X.env)).any (·.1)=aD:=by rfl):PE X (.Call (.Name x p) (a::es) [] pos) (Zf Z (Yi g fr)):=(N7 hc hg hm hv ha hn YB he ZO).imp λ_ _ _ h=>Lf hp h
theorem Hf{T:String}{r:List V->Hp->VK->Prop}{g:List D->Option SV}{x:Str}{p:Pos}{es:List cw}{fr:FA}(hc:Je X (.type T) r)(hp:Bc Z r g)(hm:X.mg x=aB)(hv:bootBuiltins x=aA (.type T))(ha:PA X (a::es) (U1 Z fr))(hg:Gl X x:=by rfl)(hn:x≠"__name__":=by decide)(YB:(x==("__debug__":Str))=aD:=by decide)
  (he:az (a::es) X.env=(aD,gg a X.env)::az es X.env:=by rfl) (ZO:(gb pos (az es X.env)).any (·.1)=aD:=by rfl):PE X (.Call (.Name x p) (a::es) [] pos) (Zf Z (Yi g fr)):=(oB hc hg hm hv ha hn YB he ZO).imp λ_ _ _ h=>Lf hp h
theorem Hg{p:Pos}(hm:X.mg "len"=aB)(ha:PE X a (Zf Z fa))(hg:Gl X "len":=by rfl)(he:az [a] X.env=(aD,gg a X.env)::az [] X.env:=by rfl)(ZO:(gb pos (az [] X.env)).any (·.1)=aD:=by rfl):PE X (.Call (.Name "len" p) [a] [] pos) (Zf Z (Yi Pk (Ze fa Zo))):=
 Mz (K6.or K7) wv hm PySem.boot_len (Zt ha Ys he) hg (by decide) (by decide) he ZO
theorem v4{p:Pos}(hm:X.mg "int"=aB)(ha:PE X a (Zf Z fa))(hg:Gl X "int":=by rfl)(he:az [a] X.env=(aD,gg a X.env)::az [] X.env:=by rfl)(ZO:(gb pos (az [] X.env)).any (·.1)=aD:=by rfl):PE X (.Call (.Name "int" p) [a] [] pos) (Zf Z (Yi MH (Ze fa Zo))):=
 Hf oE wu hm boot_int (Zt ha Ys he) hg (by decide) (by decide) he ZO
theorem wJ{x:Str}{c:String}{p p2:Pos}(hm:X.mg "isinstance"=aB)(yQ:X.mg x=aB)(hv:bootBuiltins x=aA (.type c))(hk:∀d:D,d.isExc=aD->PySem.W.kitOne X.K (.type d.pyTy) (.type c)=aA (d.pyTy==c|| (c=="int" &&d.pyTy=="bool")))(ha:PE X a (Zf Z fa))(hg:Gl X "isinstance":=by rfl)(yX:Gl X x:=by rfl)
  (hn:x≠"__name__":=by decide) (YB:(x==("__debug__":Str))=aD:=by decide)
  (he:az [a,.Name x p2] X.env=(aD,gg a X.env)::az [.Name x p2] X.env:=by rfl) (WU:az [.Name x p2] X.env=(aD,gg (.Name x p2) X.env)::az [] X.env:=by rfl) (ZO:(gb pos (az [.Name x p2] X.env)).any (·.1)=aD:=by rfl):
  PE X (.Call (.Name "isinstance" p) [a,.Name x p2] [] pos) (Zf Z (unF (MI c) fa)):=
 (N7 qg hg hm boot_isinstance (W5 ha (W5 (rB (v:=.ty c) yX yQ hv rfl hn YB) Jl WU) he) (by decide) (by decide) he ZO).imp λσ H Q h=>by have h2:=DB (ww hk) h;exact h2
theorem Z0(i:Nat){x:Str}(hN:X.N.Nodup)(hi:X.N[i]? =aA x:=by rfl)(hx:Loc X.env.scope x:=by first|exact Or.inl rfl|exact gv rfl)(hf:X.fn x=aC\/X.env.scope.names.lookup x=aA .local:=by first|exact .inl rfl|exact .inr rfl):PG X (.Name x pos) (Uf Z (Zh i)):=(Gi hN hi hx hf).imp λ_ _ _ _ h=>sK h
theorem Od:PGs X [] (Bd Z Wb):=X5.imp λ_ _ _ _ h=>ua h
theorem Yv{es:List cw}{g:FG}{r:FGs}(h1:PG X a (Uf Z g))(h2:PGs X es (Bd Z r))(hs:(gx (a::es) X.env).map (·.2)=assign a X.env::(gx es X.env).map (·.2):=by rfl):PGs X (a::es) (Bd Z (Zw g r)):=(Gj h1 h2 hs).imp λ_ _ _ _ h=>sJ h
theorem Gp{es:List cw}{k n:Nat}{g:FGs}(hc:X.calm=aC)(h:PGs X es (Bd Z g))(hn:(gx es X.env).length=n:=by rfl)(TZ:(gx es X.env).findIdx? (·.1)=aB:=by rfl):PG X (.Tuple es k pos) (Uf Z (Y7 n g)):=(AX hc h hn TZ).imp λ_ _ _ _ h=>uZ h
theorem Pn{tg:cw}{p:Pos}(hm:X.mg "range"=aB)(ha:PE X a (Zf Z fa))(hg:Gl X "range":=by rfl)(hs:az [a] X.env=[(aD,gg a X.env)]:=by rfl):PI X tg (.Call (.Name "range" p) [a] [] pos) (Qg Z (Vq (Ze fa Zo))):=(oG hg hm (Zt ha Ys hs) hs).imp λ_ _ _ h=>v9 h
theorem Fb{N':List Str}{scope:Scope}{src:List BSrc}(kind:scope.kind= .function)(nocell:(scope.names.all λy=>!(y.2== .cell))=aC)(names:(scope.names.all λy=>!(y.2== .local)|| (scope.names.lookup y.1==aA .local))=aC)
  (free:(scope.names.all λy=>!(y.2== .free)|| (X.env.kindOf y.1==aA .cell)|| (X.env.kindOf y.1==aA .free))=aC) (len:src.length=N'.length)
  (cap:((df src.length).all λk=>match src[k]?,N'[k]? with
   |some (.cap j),aA x=>(X.N[j]? ==aA x)&&((X.env.kindOf x==aA .cell)|| (X.env.kindOf x==aA .free))&&(scope.names.lookup x==aA .free)
   |some .acc,aA x=>scope.names.lookup x==aB
   |_,_=>aC)=aC):CompScope X N' scope src:=by
 have P':∀(k:Nat) (q:BSrc) (x:Str),src[k]? =aA q->N'[k]? =aA x->(match aA q,aA x with
   |some (.cap j),aA x=>(X.N[j]? ==aA x)&&((X.env.kindOf x==aA .cell)|| (X.env.kindOf x==aA .free))&&(scope.names.lookup x==aA .free)
   |some .acc,aA x=>scope.names.lookup x==aB
   |_,_=>aC)=aC:=λk q x h1 h2=>by
  have hk:k<src.length:=(aw.mp h1).1;have:=List.all_eq_true.mp cap k (cr.mpr hk);rw[h1,h2]at this;exact this
 refine⟨kind,λy hy e=>?_,λy hy e=>?_,λy hy e=>?_,len,λk j x h1 h2=>?_,λk x h1 h2=>?_⟩
 .have:=List.all_eq_true.mp nocell y hy;rw[e]at this;cases this
 .have:=List.all_eq_true.mp names y hy;rw[e]at this;simpa using this
 .have:=List.all_eq_true.mp free y hy;rw[e]at this;simpa using this
 .have:=P' k (.cap j) x h1 h2;simp only[Bool.and_eq_true,Bool.or_eq_true,beq_iff_eq]at this;exact⟨this.1.1,this.1.2,this.2⟩
 .have:=P' k .acc x h1 h2;simpa using this
theorem CL{src:List BSrc}(k:Nat)(acc:src[k]? =aA .acc)(uni:((df src.length).all λi=>match src[i]? with
   |some .acc=>i==k
   |_=>aC)=aC):SrcOk src k:=⟨acc,λi h=>by
  have hi:i<src.length:=(aw.mp h).1;have:=List.all_eq_true.mp uni i (cr.mpr hi);rw[h]at this;simpa using this⟩
theorem qf(K:ad):∀d:D,d.isExc=aD->PySem.W.kitOne K (.type d.pyTy) (.type "list")=aA (d.pyTy=="list" || ("list"=="int" &&d.pyTy=="bool")):=by intro d h;cases d<;> first| (cases h;done)|with_unfolding_all rfl
theorem xg{tg:cw}{g:FG}(h:∀Z:mF X.K,PG X tg (Uf Z g)):PG X tg (xG X.K g):=λn_ s σ H v u Q I r ⟨Z,q⟩=>h Z n_ s σ H v u Q I r q
theorem xe{e:cw}{f:FE}(h:∀Z:mF X.K,PE X e (Zf Z f)):PE X e (xE X.K f):=λn_ s σ H Q I ⟨Z,q⟩=>h Z n_ s σ H Q I q
theorem xt{e:cw}{f:FT}(h:∀Z:mF X.K,PT X e (Yh Z f)):PTs X [e] (xT X.K f):=λn_ s σ H Q I ⟨Z,q⟩=>sO (h Z) n_ s σ H Q I q
theorem xt0:PTs X [] (xT X.K Qb):=λn_ s σ H Q I ⟨Z,q⟩=>by obtain⟨F,δ,own,b,δ',sr,e,k⟩:=q;cases e;exact sQ n_ s σ H Q I (k H F own (Zi.refl H) (Zi.refl F) sr)
theorem v0{N':List Str}{scope:Scope}{src:List BSrc}{k:Nat}{tg Z_ iter:cw}{ZY:List cw}{fi:FD}{g:FG}{tt:FT}{te:FE}(hc:X.calm=aC)(S:CompScope X N' scope src)(So:SrcOk src k)(hk:k∉g.tch)(hi:PI X tg iter (Qg Z fi))
  (hg:∀(C:aq) (s₀:ao) (H₀:Hp) (ex:List aq),PG (X.block N' scope C s₀ H₀ ex) tg (xG X.K g)) (ht:∀(C:aq) (s₀:ao) (H₀:Hp) (ex:List aq),PTs (X.block N' scope C s₀ H₀ ex) ZY (xT X.K tt)) (he:∀(C:aq) (s₀:ao) (H₀:Hp) (ex:List aq),PE (X.block N' scope C s₀ H₀ ex) Z_ (xE X.K te))
  (hs:∀x,foldedSetIterable iter X.env x=pure x:=by intro _;rfl):PE X (.ListComp Z_ [⟨tg,iter,ZY,0⟩] scope pos) (Zf Z (Wf src k fi g tt te)):=(sN hc S hi hg ht he hs).imp λ_ _ _ h=>AI So hk h
theorem Jq:Gd X [] (Z2 Z Jo):=X4.imp λ_ _ _ h=>ub h
theorem Zn{st:Stmt}{rest:List Stmt}{f g:FS}(h1:PS X st (Z2 Z f))(h2:Gd X rest (Z2 Z g)):Gd X (st::rest) (Z2 Z (Z9 f g)):=(Ux h1 h2).imp λ_ _ _ h=>BA h
theorem Z5{st:Stmt}{f:FS}(h:PS X st (Z2 Z f)):Gd X [st] (Z2 Z f):=Kt h
theorem Q9(h:PE X a (Zf Z fa)):PS X (.Return (aA a) pos) (Z2 Z (U2 fa)):=(AY h).imp λ_ _ _ h=>wd h
theorem T4{t:FT}{f g:FS}{bt be:List Stmt}(hc:PT X c (Yh Z t))(ha:Gd X bt (Z2 Z f))(hb:Gd X be (Z2 Z g)):PS X (.If c bt be pos) (Z2 Z (Vo t f g)):=(CV hc ha hb).imp λ_ _ _ h=>we h
theorem Yl(i:Nat){x:Str}{XN:Pos}(hN:X.N.Nodup)(he:PE X a (Zf Z fa))(hi:X.N[i]? =aA x:=by rfl)(hx:Loc X.env.scope x:=by first|exact Or.inl rfl|exact gv rfl)(hs:swapsWith a (aA (.Name x XN)) pos.line X.env=pure aD:=by rfl)(hf:X.fn x=aC\/X.env.scope.names.lookup x=aA .local:=by first|exact .inl rfl|exact .inr rfl):
  PS X (.Assign [.Name x XN] a pos) (Z2 Z (Yu i fa)):=(S6 hN hi hx he hs hf).imp λ_ _ _ h=>C' h
theorem pk(i:Nat){N':List Str}{scope:Scope}{src:List BSrc}{k:Nat}{tg Z_ iter:cw}{ZY:List cw}{fi:FD}{g:FG}{tt:FT}{te:FE}{y:Str}{py XM:Pos}(hc:X.calm=aC)(S:CompScope X N' scope src)(So:SrcOk src k)(hk:k∉g.tch)(hi:PI X tg iter (Qg Z fi))
  (hg:∀(C:aq) (s₀:ao) (H₀:Hp) (ex:List aq),PG (X.block N' scope C s₀ H₀ ex) tg (xG X.K g)) (ht:∀(C:aq) (s₀:ao) (H₀:Hp) (ex:List aq),PTs (X.block N' scope C s₀ H₀ ex) ZY (xT X.K tt)) (he:∀(C:aq) (s₀:ao) (H₀:Hp) (ex:List aq),PE (X.block N' scope C s₀ H₀ ex) Z_ (xE X.K te))
  (hN:X.N.Nodup) (Q_:X.N[i]? =aA y:=by rfl) (hx:X.env.scope.names.lookup y=aA .local:=by rfl) (XQ:swapsWith (.ListComp Z_ [⟨tg,iter,ZY,0⟩] scope pos) (aA (.Name y py)) XM.line X.env=pure aC:=by rfl)
  (hs:∀x,foldedSetIterable iter X.env x=pure x:=by intro _;rfl):PS X (.Assign [.Name y py] (.ListComp Z_ [⟨tg,iter,ZY,0⟩] scope pos) XM) (Z2 Z (Yu i (Wf src k fi g tt te))):=
 (Vm hc S hi hg ht he hN Q_ hx XQ hs).imp λD σ H h=>by obtain⟨F,δ,own,rv,δ',s,e,q⟩:=C' h;exact AI So hk ⟨F,δ,own,rv,δ',s,e,q⟩
theorem Po{tg:cw}{g:FG}(he:PE X a (Zf Z fa))(hg:PG X tg (Uf Z g))(hs:swapsWithSole [tg] a pos.line X.env=pure aD:=by rfl)(hw:swappedStores [tg] a X.env=pure aB:=by rfl)(h1:(gx [tg] X.env).map (·.2)=[assign tg X.env]:=by rfl):
  PS X (.Assign [tg] a pos) (Z2 Z (Gm g fa)):=(uX he hg hs hw h1).imp λ_ _ _ h=>ql h
theorem Ug{tg iter:cw}{body:List Stmt}{fi:FD}{g:FG}{f:FS}(hp:PassesOwn (cf X.prog X.w) X.A X.env X.xe)(hc:X.calm=aC)(hi:PI X tg iter (Qg Z fi))(hg:PG X tg (Uf Z g))(hb:Gd X body (Z2 Z f))(hs:∀x,foldedSetIterable iter X.env x=pure x:=by intro _;rfl):
  PS X (.For tg iter body [] pos) (Z2 Z (Bf fi g f)):=(S9 hp hc hi hg hb hs).imp λ_ _ _ h=>wc h
theorem t_(n:Nat){t:FT}{body:List Stmt}{f:FS}(hp:PassesOwn (cf X.prog X.w) X.A X.env X.xe)(hc:PT X c (Yh Z t))(hb:Gd X body (Z2 Z f)):PS X (.While c body [] pos) (Z2 Z (Jp t f n)):=(ph hp hc hb).imp λ_ _ _ h=>sI h
theorem Hh(i:Nat){x:Str}{px ZF ZC:Pos}(hb:PE X b (Zf Z fb))(hN:X.N[i]? =aA x:=by rfl)(hv:X3 X.env.scope x:=by first|exact Or.inl rfl|exact gv (Or.inl rfl)|exact gv (gv rfl))(hd:(x==("__debug__":Str))=aD:=by decide)
  (YD:(x==("__classdict__":Str))=aD:=by decide) (ZN:attributeBase (.Name x px) "append" X.env (gg (.Name x px) X.env)=gg (.Name x px) X.env:=by rfl)
  (YA:((gb ZC (az [b] X.env)).all (λx=>!x.1)&&(backToKw ZC (keywordEach [] X.env)).all (λx=>x.1.isSome)&&decide ([b].length+([]:List Keyword).length+(if([]:List Keyword).isEmpty then 0 else 1)<30))=aC:=by rfl)
  (ZM:(ZF.endLine==ZC.line)=aC:=by rfl) (hs:az [b] X.env=(aD,gg b X.env)::az [] X.env:=by rfl) (ZO:(gb ZC (az [] X.env)).any (·.1)=aD:=by rfl) (XQ:swapsWith (.Call (.Attribute (.Name x px) "append" ZF) [b] [] ZC) aB pos.line X.env=pure aD:=by rfl):
  PS X (.Expr (.Call (.Attribute (.Name x px) "append" ZF) [b] [] ZC) pos) (Z2 Z (Vr i fb)):=
 (B5 (Iq PySem.F.plainAttrs_list PySem.F.slot_list_append PySem.F.type_list_append B6 (Up (i:=i) hN hv hd YD) (W5 hb Jl hs) ZN YA ZM hs ZO) XQ).imp λ_ _ _ h=>wb h
end
@[simp]def Qh(f:FS)(n:Nat)(ds:List D):Option SV:=match f (Tz n ds)with
 |some (.rt sv)=>aA sv
 |some (.nx _)=>aA (.fz .non)
 |_=>aB
theorem qe{N:List Str}{n:Nat}{f:FS}{vs:List V}{H:Hp}{Q:VK}{E:XK}(h:Wk K n (Qh f N.length) vs H Q E):∃F,Z2 (ent H F:mF K) f {nx:=λ_ H'=>Q .non H',rt:=Q} (L2.O5 N vs) H:=by
 obtain⟨F,ds,sv,le,r,hn,e,k⟩:=h;unfold Qh at e;split at e
 .rename_i sw hf;cases e;exact⟨F,F,_,_,.rt sv,Ph (N:=N) le r,hf,λv H' F' ns a b c d e' nd ok=>k v H' F' ns d a b c e' nd ok⟩
 .rename_i δ hf;cases e;exact⟨F,F,_,_,.nx δ,Ph (N:=N) le r,hf,λZD H' F' own' a s'=>k .non H' F' [] s'.old a s'.le s'.fro (.fz .non) cx λ_ h=>(nomatch h)⟩
 .cases e
theorem Pp{F:Hp}:∀ns:List Int,mD K F (ns.map D.int) (ns.map V.int)
 | []=>.nil
 |n::r=>.cons (.int n) (Pp r)
end
section
variable{K:ad}
@[simp]noncomputable def Uh(f:D->D->Option Bool):List D->List D->Option Bool
 |x::xs,y::ys=>(f x y).bind λb=>(Uh f xs ys).bind λc=>aA (b&&c)
 |_,_=>aA aC
@[simp]def Rs(f:D->D->Option Bool):D->D->Option Bool
 | .lst xs,.lst ys=>if xs.length=ys.length then Uh f xs ys else aA aD
 | .tup xs,.tup ys=>(Uh f xs ys).bind λb=>aA (b&&decide (xs.length=ys.length))
 | .lst _,.tup _=>aA aD
 | .tup _,.lst _=>aA aD
 |d1,d2=>eqS d1 d2
@[simp]def Wm:Nat->D->D->Option Bool
 |0=>λ_ _=>aB
 |n+1=>Rs (Wm n)
theorem T5{F H:Hp}{d1 d2:D}{x y:V}{b:Bool}(e:eqS d1 d2=aA b)(r1:Yb K F H d1 x)(r2:Yb K F H d2 y):Wj x=aC/\Wj y=aC/\b=Vi x y:=by unfold eqS at e;split at e<;> cases e<;> (first|obtain rfl:=r1.non|obtain rfl:=r1.int|obtain rfl:=r1.bl|obtain rfl:=r1.str)<;> (first|obtain rfl:=r2.non|obtain rfl:=r2.int|obtain rfl:=r2.bl|obtain rfl:=r2.str)<;> refine⟨rfl,rfl,?_⟩<;> first|rfl|simp[Vi]
section
variable{X:Cx}{n_:List (aq×Obj)}{σ:L2.St}{F H:Hp}{s:ao}
theorem qc{x y:V}{v:aj}(rx:Zy x v)(ry:Zy y v)(fx:Wj x=aC)(fy:Wj y=aC):Vi x y=aC:=by
 cases x with
 |non=>cases rx;cases y with
  |non=>rfl
  |bl b=>cases ry
  |int b=>obtain⟨t,e⟩:=ry;cases e
  |str b=>obtain⟨t,e⟩:=ry;cases e
  |_=>cases fy
 |bl a=>cases rx;cases y with
  |non=>cases ry
  |bl b=>cases ry;simp[Vi]
  |int b=>obtain⟨t,e⟩:=ry;cases e
  |str b=>obtain⟨t,e⟩:=ry;cases e
  |_=>cases fy
 |int a=>obtain⟨t,rfl⟩:=rx;cases y with
  |non=>cases ry
  |bl b=>cases ry
  |int b=>obtain⟨t,e⟩:=ry;cases e;simp[Vi]
  |str b=>obtain⟨t,e⟩:=ry;cases e
  |_=>cases fy
 |str a=>obtain⟨t,rfl⟩:=rx;cases y with
  |non=>cases ry
  |bl b=>cases ry
  |int b=>obtain⟨t,e⟩:=ry;cases e
  |str b=>obtain⟨t,e⟩:=ry;cases e;simp[Vi]
  |_=>cases fy
 |_=>cases fx
theorem Vv{h:d6}{a:aq}{i1 i2:Array aj}(h1:h.IsList a i1)(h2:h.IsList a i2):i1=i2:=by obtain⟨o,e1,c1,n1,d1⟩:=h1;obtain⟨o2,e2,c2,n2,d2⟩:=h2;rw[e1]at e2;cases e2;rw[d1]at d2;cases d2;rfl
theorem Pq{h:d6}{a:aq}{i1 i2:Array aj}(h1:h.IsTuple a i1)(h2:h.IsTuple a i2):i1=i2:=by obtain⟨o,e1,c1,n1,d1⟩:=h1;obtain⟨o2,e2,c2,n2,d2⟩:=h2;rw[e1]at e2;cases e2;rw[d1]at d2;cases d2;rfl
theorem Hi{f:D->D->Option Bool}(hf:∀d1 d2 b x y v,mI X.K F d1 x->Zy x v->mI X.K F d2 y->Zy y v->f d1 d2=aA b->b=aC){xs:List D}:∀{ys:List D} {vs ws:List V} {us:List aj} {b:Bool},mD X.K F xs vs->Z1 vs us->mD X.K F ys ws->Z1 ws us->Uh f xs ys=aA b->b=aC:=by
 induction xs with
 |nil=>intro ys vs ws us b _ _ _ _ e;cases e;rfl
 |cons x xs ih=>
  intro ys vs ws us b r1 v1 r2 v2 e;cases r1 with
  |cons h1 t1=>
   cases v1 with
   |cons a1 w1=>
    cases v2 with
    |cons a2 w2=>
     cases r2 with
     |cons h2 t2=>obtain⟨b,e1,e2⟩:=aa.mp e;obtain⟨c,e3,e4⟩:=aa.mp e2;cases e4;rw[hf _ _ _ _ _ _ h1 a1 h2 a2 e1,ih t1 w1 t2 w2 e3];rfl
theorem pj(I:mE X n_ σ H s)(le:Zi F H){f:D->D->Option Bool}(ih:∀(d1 d2:D) (b:Bool) (x y:V) (v:aj),mI X.K F d1 x->Zy x v->mI X.K F d2 y->Zy y v->f d1 d2=aA b->b=aC)(d1 d2:D)(b:Bool)(x y:V)(v:aj)(r1:mI X.K F d1 x)(v1:Zy x v)(r2:mI X.K F d2 y)(v2:Zy y v)(e:Rs f d1 d2=aA b):b=aC:=by
  unfold Rs at e;split at e
  .rename_i xs ys;cases r1 with
   |lst q1 _ p1=>
   cases r2 with
   |lst q2 _ p2=>
   cases v1;cases v2;obtain⟨i1,w1,l1,_⟩:=I.list (Yg le q1);obtain⟨i2,w2,l2,_⟩:=I.list (Yg le q2);have z:=Vv l1.isList l2.isList;have z:i1=i2:=by simpa using z
   subst z;split at e
   .exact Hi (ih) p1 w1 p2 w2 e
   .rename_i hl;have h1:=w1.length;have h2:=w2.length;have h3:=p1.length;have h4:=p2.length;exact m_ (by omega) hl
  .rename_i xs ys;cases r1 with
   |tup q1 p1=>
   cases r2 with
   |tup q2 p2=>
   cases v1;cases v2;obtain⟨i1,w1,l1,_⟩:=I.tuple (W3 le (Ue q1));obtain⟨i2,w2,l2,_⟩:=I.tuple (W3 le (Ue q2));have z:=Pq l1 l2;have z:i1=i2:=by simpa using z
   subst z;obtain⟨c,e1,e2⟩:=aa.mp e;cases e2;have h1:=w1.length;have h2:=w2.length;have h3:=p1.length;have h4:=p2.length;rw[Hi (ih) p1 w1 p2 w2 e1,m8 (by omega)];rfl
  .cases r1 with
   |lst q1 _ p1=>
   cases r2 with
   |tup q2 p2=>
   cases v1;cases v2;obtain⟨i1,w1,l1,_⟩:=I.list (Yg le q1);obtain⟨i2,w2,l2,_⟩:=I.tuple (W3 le (Ue q2));exact m_ rfl (SeqAt.ne_of_list_tuple (s:=s) l1.isList l2)
  .cases r1 with
   |tup q1 p1=>
   cases r2 with
   |lst q2 _ p2=>
   cases v1;cases v2;obtain⟨i1,w1,l1,_⟩:=I.tuple (W3 le (Ue q1));obtain⟨i2,w2,l2,_⟩:=I.list (Yg le q2);exact m_ rfl (SeqAt.ne_of_list_tuple (s:=s) l2.isList l1)
  .obtain⟨f1,f2,rfl⟩:=T5 (H:=H) e (Yb.of r1) (Yb.of r2);exact qc v1 v2 f1 f2
theorem Pr(I:mE X n_ σ H s)(le:Zi F H):∀(n:Nat) (d1 d2:D) (b:Bool) (x y:V) (v:aj),mI X.K F d1 x->Zy x v->mI X.K F d2 y->Zy y v->Wm n d1 d2=aA b->b=aC
 |0,_,_,_,_,_,_,_,_,_,_,e=>by cases e
 |n+1,d1,d2,b,x,y,v,r1,v1,r2,v2,e=>pj I le (Pr I le n) d1 d2 b x y v r1 v1 r2 v2 e
theorem Ps{A:dh}{f:D->D->Option Bool}(hf:∀d1 d2 b x y v u,mI X.K F d1 x->Zy x v->mI X.K F d2 y->Zy y u->f d1 d2=aA b->SeqAt.EqAt A s v u b){xs:List D}:∀{ys:List D} {vs ws:List V} {us zs:List aj} {b:Bool},mD X.K F xs vs->Z1 vs us->mD X.K F ys ws->Z1 ws zs->Uh f xs ys=aA b->
  ∃e:Nat->Bool,(∀j (h1:j<us.length) (h2:j<zs.length),SeqAt.EqAt A s us[j] zs[j] (e j))/\(df (min us.length zs.length)).all e=b:=by
 induction xs with
 |nil=>intro ys vs ws us zs b r1 v1 _ _ e;cases r1;cases v1;cases e;exact⟨λ_=>aC,λj h1=>m_ h1 (dz _),by rw[List.length_nil,Nat.zero_min];rfl⟩
 |cons x xs ih=>
  intro ys vs ws us zs b r1 v1 r2 v2 e;cases r1 with
  |cons h1 t1=>
   cases v1 with
   |cons a1 w1=>
    cases v2 with
    |nil=>cases r2;cases e;exact⟨λ_=>aC,λj _ h2=>m_ h2 (dz _),by rw[List.length_nil,Nat.min_zero];rfl⟩
    |cons a2 w2=>
     cases r2 with
     |cons h2 t2=>
      obtain⟨b,e1,e2⟩:=aa.mp e;obtain⟨c,e3,e4⟩:=aa.mp e2;cases e4;obtain⟨g,g1,g2⟩:=ih t1 w1 t2 w2 e3;refine⟨λj=>Nat.casesOn j b g,λj h1 h2=>?_,?_⟩
      .cases j with
       |zero=>exact hf _ _ _ _ _ _ _ ‹_› a1 ‹_› a2 e1
       |succ j=>exact g1 j (Nat.lt_of_succ_lt_succ h1) (Nat.lt_of_succ_lt_succ h2)
      .rw[bh,bh,Nat.succ_min_succ,List.range_succ_eq_map,List.all_cons,List.all_map,<-g2];rfl
theorem rcN(I:mE X n_ σ H s)(le:Zi F H){A:dh}{f:D->D->Option Bool}{d1 d2:D}{b:Bool}{x y:V}{v u:aj}
  (ih:∀d1 d2 b x y v u,mI X.K F d1 x->Zy x v->mI X.K F d2 y->Zy y u->f d1 d2=aA b->SeqAt.EqAt A.in1 s v u b) (r1:Yb X.K F H d1 x) (v1:Zy x v) (r2:Yb X.K F H d2 y) (v2:Zy y u)
  (e:Rs f d1 d2=aA b) (hu:A.units<fj) (hr:Wj x=aD\/Wj y=aD):(∃a c,v= .ref a/\u= .ref c)/\SeqAt.RcAt A s v u b/\SeqAt.RcNeAt A s v u (!b):=by
 unfold Rs at e;split at e
 .obtain⟨a1,XE,rfl,q1,p1⟩:=r1.lst le;obtain⟨a2,WN,rfl,q2,p2⟩:=r2.lst le;cases v1;cases v2;obtain⟨i1,w1,l1,_⟩:=I.list q1;obtain⟨i2,w2,l2,_⟩:=I.list q2;have h1:=w1.length;have h2:=w2.length;have h3:=p1.length;have h4:=p2.length;refine⟨⟨_,_,rfl,rfl⟩,?_⟩;split at e
  .rename_i hl;obtain⟨g,g1,g2⟩:=Ps ih p1 w1 p2 w2 e;have hm:min i1.length i2.length=i1.toArray.size:=by simp;omega
   rw[hm]at g2;subst g2;have hz:i1.toArray.size=i2.toArray.size:=by simp;omega
   exact⟨SeqAt.RcAt.lists l1.isList l2.isList hz hu (λj j1 j2=>by simpa using g1 j (by simpa using j1) (by simpa using j2)),SeqAt.RcNeAt.lists l1.isList l2.isList hz hu (λj j1 j2=>by simpa using g1 j (by simpa using j1) (by simpa using j2))⟩
  .rename_i hl;cases e;have hz:(i1.toArray.size !=i2.toArray.size)=aC:=by simp;omega
   exact⟨SeqAt.RcAt.lists_lengths l1.isList l2.isList hz hu,SeqAt.RcNeAt.lists_lengths l1.isList l2.isList hz hu⟩
 .rename_i xs ys;obtain⟨a1,XE,rfl,q1,p1⟩:=r1.tup le;obtain⟨a2,WN,rfl,q2,p2⟩:=r2.tup le;cases v1;cases v2;obtain⟨i1,w1,l1,_⟩:=I.tuple q1;obtain⟨i2,w2,l2,_⟩:=I.tuple q2;have h1:=w1.length;have h2:=w2.length;have h3:=p1.length;have h4:=p2.length;obtain⟨c,e1,e2⟩:=aa.mp e;cases e2;refine⟨⟨_,_,rfl,rfl⟩,?_⟩;obtain⟨g,g1,g2⟩:=Ps ih p1 w1 p2 w2 e1;subst g2;have e3:((df (min i1.length i2.length)).all g&&decide (xs.length=ys.length))=((df (min i1.toArray.size i2.toArray.size)).all g&&i1.toArray.size==i2.toArray.size):=by
   have:(i1.toArray.size==i2.toArray.size)=decide (xs.length=ys.length):=by rw[bv,bv,<-h1,<-h2,<-h3,<-h4];rfl
   rw[this];simp
  rw[e3];exact⟨SeqAt.RcAt.tuples l1 l2 hu (λj j1 j2=>by simpa using g1 j (by simpa using j1) (by simpa using j2)),SeqAt.RcNeAt.tuples l1 l2 hu (λj j1 j2=>by simpa using g1 j (by simpa using j1) (by simpa using j2))⟩
 .obtain⟨a1,XE,rfl,q1,p1⟩:=r1.lst le;obtain⟨a2,WN,rfl,q2,p2⟩:=r2.tup le;cases v1;cases v2;cases e;obtain⟨i1,w1,l1,_⟩:=I.list q1;obtain⟨i2,w2,l2,_⟩:=I.tuple q2;exact⟨⟨_,_,rfl,rfl⟩,SeqAt.RcAt.list_tuple l1.isList l2 hu,SeqAt.RcNeAt.list_tuple l1.isList l2 hu⟩
 .obtain⟨a1,XE,rfl,q1,p1⟩:=r1.tup le;obtain⟨a2,WN,rfl,q2,p2⟩:=r2.lst le;cases v1;cases v2;cases e;obtain⟨i1,w1,l1,_⟩:=I.tuple q1;obtain⟨i2,w2,l2,_⟩:=I.list q2;exact⟨⟨_,_,rfl,rfl⟩,SeqAt.RcAt.tuple_list l1 l2.isList hu,SeqAt.RcNeAt.tuple_list l1 l2.isList hu⟩
 .obtain⟨f1,f2,_⟩:=T5 e r1 r2;rcases hr with hr|hr
  .rw[f1]at hr;cases hr
  .rw[f2]at hr;cases hr
theorem Rt(I:mE X n_ σ H s)(le:Zi F H):∀(n:Nat) (A:dh) (d1 d2:D) (b:Bool) (x y:V) (v u:aj),A.units+n<fj->mI X.K F d1 x->Zy x v->mI X.K F d2 y->Zy y u->Wm n d1 d2=aA b->SeqAt.EqAt A s v u b
 |0,_,_,_,_,_,_,_,_,_,_,_,_,_,e=>by cases e
 |n+1,A,d1,d2,b,x,y,v,u,hu,r1,v1,r2,v2,e=>by
  by_cases hf:Wj x=aC/\Wj y=aC
  .have e':eqS d1 d2=aA b:=by
    unfold Wm Rs at e;split at e
    .cases r1;cases hf.1
    .cases r1;cases hf.1
    .cases r1;cases hf.1
    .cases r1;cases hf.1
    .exact e
   obtain⟨f1,f2,rfl⟩:=T5 (H:=H) e' (Yb.of r1) (Yb.of r2);exact AS v1 v2 f1 f2
  .have hf':Wj x=aD\/Wj y=aD:=by
    cases h1:Wj x with
    |false=>exact .inl rfl
    |true=>cases h2:Wj y with
     |false=>exact .inr rfl
     |true=>exact m_ ⟨h1,h2⟩ hf
   obtain⟨⟨a,c,rfl,rfl⟩,h1,_⟩:=rcN I le (A:=A) (f:=Wm n) (λd1 d2 b x y v u q1 w1 q2 w2 e=>Rt I le n A.in1 d1 d2 b x y v u (by have:A.in1.units=A.units+1:=rfl;omega) q1 w1 q2 w2 e) (Yb.of r1) v1 (Yb.of r2) v2 e (by omega) hf';by_cases NX:a=c
   .subst NX;rw[Pr I le (n+1) d1 d2 b x y _ r1 v1 r2 v2 e];exact SeqAt.EqAt.same _
   .exact SeqAt.EqAt.of_refs NX h1
def MG(K:ad)(TW:Bool):R2:=λx y H Q=>∃F d1 d2 b,Zi F H/\Yb K F H d1 x/\Yb K F H d2 y/\Wm 48 d1 d2=aA b/\(Wj x=aD\/Wj y=aD)/\Q (.bl (if TW then !b else b)) H
theorem AF(hu:X.A.units+64<fj):O9 X (compareOp .Eq) (MG X.K aD):=by intro n_ s σ H x y v u Q I rx ry h;obtain⟨F,d1,d2,b,le,r1,r2,e,hf,q⟩:=h;obtain⟨_,h1,_⟩:=rcN I le (A:=X.A) (f:=Wm 47) (λd1 d2 b x y v u q1 w1 q2 w2 e=>Rt I le 47 X.A.in1 d1 d2 b x y v u (by have:X.A.in1.units=X.A.units+1:=rfl;omega) q1 w1 q2 w2 e) r1 rx r2 ry e (by omega) hf;exact h1 X.prog X.w X.xe _ ⟨.bl b,H,I,rfl,q⟩
theorem vz(hu:X.A.units+64<fj):O9 X (compareOp .NotEq) (MG X.K aC):=by intro n_ s σ H x y v u Q I rx ry h;obtain⟨F,d1,d2,b,le,r1,r2,e,hf,q⟩:=h;obtain⟨_,_,h1⟩:=rcN I le (A:=X.A) (f:=Wm 47) (λd1 d2 b x y v u q1 w1 q2 w2 e=>Rt I le 47 X.A.in1 d1 d2 b x y v u (by have:X.A.in1.units=X.A.units+1:=rfl;omega) q1 w1 q2 w2 e) r1 rx r2 ry e (by omega) hf;exact h1 X.prog X.w X.xe _ ⟨.bl !b,H,I,rfl,q⟩
end
@[simp]noncomputable def D.isFlat:D->Bool
 | .non=>aC| .bl _=>aC| .int _=>aC| .str _=>aC|_=>aD
@[simp]def Mr(d1 d2:D):Option SV:=if d1.isFlat=true/\d2.isFlat=true then eqD d1 d2 else(Wm 48 d1 d2).bind λb=>some (.fz (.bl b))
@[simp]def T6(d1 d2:D):Option SV:=if d1.isFlat=true/\d2.isFlat=true then neD d1 d2 else(Wm 48 d1 d2).bind λb=>some (.fz (.bl !b))
theorem Oe{F H:Hp}{d:D}{x:V}(r:Yb K F H d x)(h:d.isFlat=aD):Wj x=aD:=by
 obtain⟨sv,ns,e,n,sh,hp⟩:=r;cases sh with
 |fz r=>cases e;cases r<;> first|rfl|cases h
 |ol r=>rfl
 |oK e' r=>rfl
 |oT kb e' r=>rfl
 |oN e' r=>rfl
 |oR e' r=>rfl
 |oX kb' e' r=>rfl
 |oD r=>rfl
 |oM kb' e' r=>rfl
 |oL _ r=>rfl
 |oQ e' r=>rfl
section
variable{Z:mF K}
theorem CK:Y6 Z (λx y H Q=>rEq x y H Q\/MG K aD x y H Q) Mr:=by
 intro F H σ δ own x y d1 d2 sv Q s r1 r2 e k;unfold Mr at e;split at e
 .exact .inl (xM F H σ δ own x y d1 d2 sv Q s r1 r2 e k)
 .rename_i hf;obtain⟨b,e1,e2⟩:=aa.mp e;cases e2;refine .inr ⟨F,d1,d2,b,s.le,r1,r2,e1,?_,k.fz s (.bl _)⟩;cases h1:d1.isFlat with
  |false=>exact .inl (Oe r1 h1)
  |true=>cases h2:d2.isFlat with
   |false=>exact .inr (Oe r2 h2)
   |true=>exact m_ ⟨h1,h2⟩ hf
theorem wI:Y6 Z (λx y H Q=>rNe x y H Q\/MG K aC x y H Q) T6:=by
 intro F H σ δ own x y d1 d2 sv Q s r1 r2 e k;unfold T6 at e;split at e
 .exact .inl (xL F H σ δ own x y d1 d2 sv Q s r1 r2 e k)
 .rename_i hf;obtain⟨b,e1,e2⟩:=aa.mp e;cases e2;refine .inr ⟨F,d1,d2,b,s.le,r1,r2,e1,?_,k.fz s (.bl _)⟩;cases h1:d1.isFlat with
  |false=>exact .inl (Oe r1 h1)
  |true=>cases h2:d2.isFlat with
   |false=>exact .inr (Oe r2 h2)
   |true=>exact m_ ⟨h1,h2⟩ hf
@[simp]noncomputable def MF:D->Option SV
 | .int i=>aA (.fz (.int (-i)))
 |_=>aB
theorem wG:GF Z (rU λi=>.int (-i)) MF:=by
 intro F H σ δ own x d sv Q s r e k;unfold MF at e;split at e
 .cases e;exact⟨_,r.int,k.fz s (.int _)⟩
 .cases e
end
section
variable{X:Cx}{Z:mF X.K}{a b c:cw}{fa fb fc:FE}{pos:Pos}
theorem wF(ha:PE X a (Zf Z fa)):PE X (.UnaryOp .USub a pos) (Zf Z (unF MF fa)):=(w9 uR ha).imp λ_ _ _ h=>DB wG h
theorem HU(hv:X.A.units+64<fj)(ha:PE X a (Zf Z fa))(hb:PE X b (Zf Z fb)):PE X (.Compare a [.Eq] [b] pos) (Zf Z (Zj Mr fa fb)):=wo (CS.or (AF hv)) CK ha hb (Ti _)
theorem Mg(hv:X.A.units+64<fj)(ha:PE X a (Zf Z fa))(hb:PE X b (Zf Z fb)):PT X (.Compare a [.Eq] [b] pos) (Yh Z (Yf (Zj Mr fa fb))):=T3 (CS.or (AF hv)) CK ha hb (Ti _)
theorem Gq(hv:X.A.units+64<fj)(ha:PE X a (Zf Z fa))(hb:PE X b (Zf Z fb)):PT X (.Compare a [.NotEq] [b] pos) (Yh Z (Yf (Zj T6 fa fb))):=T3 (w8.or (vz hv)) wI ha hb (Ti _)
end
end
section
variable{X:Cx}{tg:cw}
noncomputable def Its(z:Str):It:=⟨λi _=>i<z.length,λi H x H'=>H'=H/\∃c,z.cps[i]? =aA c/\x= .str ⟨#[c]⟩,λi _=>z.length<=i⟩
theorem oh{P:cg}{w:c8}{K:ad}{tg:cw}(z:Str)(t:Tok)(it:aq):Turn P w K tg (Its z) [it] it (λi h=>h.IsStrIter it (gw z) z t i)where
 mem:=by simp
 obj:=λi h st b hb=>by
  have e:b=it:=by simpa using hb
  subst e;obtain⟨o,e,c,d⟩:=st;exact⟨o,e,λv q=>by rw[d]at q;cases q⟩
 keep:=λi h h' st k=>by obtain⟨o,e,c,d⟩:=st;exact⟨o,k it (by simp) o e,c,d⟩
 item:=by
  intro X hP hw hK hc i n_ s σ H E I hf st hg;subst hP hw hK;obtain⟨f0,f1,f2,f3,f4,f5⟩:=hf it (by simp);have ZL:i<z.cps.size:=hg;have hx:z.cps[i]? =aA z.cps[i]:=by simp[ZL]
  have fin:∀h',h'.IsStrIter it (gw z) z t (i+1)->gm it s.heap h'->∃u,aA (Value.str ⟨#[z.cps[i]]⟩ s.toks)=aA u/\bj (cf X.prog X.w) X.A (letOwnedTupleGo tg (.ref it) u) (λ_ s2=>∃x H',mE X n_ σ H' s2/\Zy x u/\(Its z).yld i H x H'/\s2.heap.IsStrIter it (gw z) z t (i+1)/\∀b∈[it],H' b=aB) E {s with heap:=h',toks:=s.toks+1}:=λh' YM sb=>by
   have I1:mE X n_ σ H {s with heap:=h',toks:=s.toks+1}:=I.turned (t':=s.toks+1) (λb o hb q=>(sb.2 b hb).trans q) f0 f1 f3 f4 f5;obtain⟨o,e,c,d⟩:=id YM;have hn:["enumerate","zip","dict_itemiterator","dict_reverseitemiterator","odict_iterator","itertools.zip_longest","itertools.pairwise"].contains (gw z)=aD:=by unfold gw;split<;> decide
   exact⟨_,rfl,Ii (s:={s with heap:=h',toks:=s.toks+1}) e c d hn ⟨.str ⟨#[z.cps[i]]⟩,H,I1,⟨_,rfl⟩,⟨rfl,_,hx,rfl⟩,YM,λb hb=>(hf b hb).1⟩⟩
  cases ha:z.cps.all (· <128)with
  |false=>
   have et:gw z="str_iterator":=by unfold gw;rw[ha];rfl
   rw[et]at st fin;rw[et];exact wpAny_pyNext_wide_item st hx fin
  |true=>
   have et:gw z="str_ascii_iterator":=by unfold gw;rw[ha];rfl
   rw[et]at st fin;rw[et];exact wpAny_pyNext_ascii_item st hx fin
 done:=by
  intro X hP hw hK hc i n_ s σ H E I hf st hg;subst hP hw hK;obtain⟨f0,f1,f2,f3,f4,f5⟩:=hf it (by simp);have JG:z.cps.size<=i:=hg;have hx:z.cps[i]? =aB:=by simp[JG]
  cases ha:z.cps.all (· <128)with
  |false=>
   have et:gw z="str_iterator":=by unfold gw;rw[ha];rfl
   rw[et]at st;exact wpAny_pyNext_wide_end (I.ok.hd hc) st hx λh' eb=>⟨rfl,I.turned (t':=s.toks) (λb o hb q=>eb b o hb q) f0 f1 f3 f4 f5⟩
  |true=>
   have et:gw z="str_ascii_iterator":=by unfold gw;rw[ha];rfl
   rw[et]at st;exact wpAny_pyNext_ascii_end (I.ok.hd hc) st hx λh' eb=>⟨rfl,I.turned (t':=s.toks) (λb o hb q=>eb b o hb q) f0 f1 f3 f4 f5⟩
 self:=λ_ _ _ _ _ st h=>by
  cases ha:z.cps.all (· <128)with
  |false=>
   have et:gw z="str_iterator":=by unfold gw;rw[ha];rfl
   rw[et]at st;exact wpAny_pyIter_striter_wide st h
  |true=>
   have et:gw z="str_ascii_iterator":=by unfold gw;rw[ha];rfl
   rw[et]at st;exact wpAny_pyIter_striter_ascii st h
def EU(K:ad)(tl:TE):TI:=λσ H R=>tl σ H λx H1=>(∃a,x= .ref a/\(∃xs,J3 K H1 a xs)/\R (Itl K a) H1)\/(∃a,x= .ref a/\(∃xs,Rl K H1 a xs)/\R (Itt K a) H1)\/(∃z,x= .str z/\R (Its z) H1)
theorem vx{l:cw}{tl:TE}(hl:PE X l tl):PI X tg l (EU X.K tl):=by
 intro n_ s σ H R I h;refine Wl (hl n_ s σ H _ I h) λv s1 ZG=>?_;obtain⟨x,H1,I1,r1,q1⟩:=ZG;rcases q1 with⟨a,e,⟨xs,hq⟩,q⟩|⟨a,e,⟨xs,hq⟩,q⟩|⟨z,e,q⟩
 .subst e;cases r1;obtain⟨mC,rv,p,hz⟩:=I1.list hq;refine wpAny_pyIter_list p.isList ?_;refine⟨s1.heap.objs.size,[s1.heap.objs.size],_,_,H1,rfl,I1.kept (t':=s1.toks) λb o e=>ar _ e,Ij a _,⟨_,bo _ rfl,rfl,rfl⟩,λb hb=>?_,q⟩;have e:b=s1.heap.objs.size:=by simpa using hb
  subst e;exact I1.fpOk (bc _) (I1.hok.fresh (bc _))
 .subst e;cases r1;obtain⟨mC,rv,p,hz⟩:=I1.tuple hq;refine wpAny_pyIter_tuple (show s1.heap.IsTuple a mC.toArray from p) ?_;refine⟨s1.heap.objs.size,[s1.heap.objs.size],_,_,H1,rfl,I1.kept (t':=s1.toks) λb o e=>ar _ e,Tg a _,⟨_,bo _ rfl,rfl,rfl⟩,λb hb=>?_,q⟩;have e:b=s1.heap.objs.size:=by simpa using hb
  subst e;exact I1.fpOk (bc _) (I1.hok.fresh (bc _))
 .subst e;obtain⟨t,rfl⟩:=r1;refine wpAny_pyIter_strU ?_;refine⟨s1.heap.objs.size,[s1.heap.objs.size],_,_,H1,rfl,I1.kept (t':=s1.toks) λb o e=>ar _ e,oh z t _,⟨_,bo _ rfl,rfl,rfl⟩,λb hb=>?_,q⟩;have e:b=s1.heap.objs.size:=by simpa using hb
  subst e;exact I1.fpOk (bc _) (I1.hok.fresh (bc _))
end
section
variable{K:ad}
noncomputable def Pt(z:Str):List D:=z.cps.toList.map λc=>.str ⟨#[c]⟩
theorem Pu{z:Str}{F:Hp}:Be K (Its z) F (Pt z):=λF' H sF sH i=>by
 have hl:(Pt z).length=z.length:=by unfold Pt;rw[ah];rfl
 refine⟨λd hd=>?_,λh=>by rw[hl]at h;exact h⟩;have hi:i<z.length:=by have:=(aw.mp hd).1;rw[hl]at this;exact this
 refine⟨hi,λx H' ZG=>?_⟩;obtain⟨e1,c,e2,e3⟩:=ZG;subst e1 e3;unfold Pt at hd;rw[bg]at hd;have e4:z.cps.toList[i]? =aA c:=by simpa using e2
 rw[e4]at hd;cases hd;exact⟨Zi.refl _,[],cx,λ_ h=>(nomatch h),.str _⟩
section
variable{Z:mF K}{H:Hp}{σ:L2.St}{Q:VK}{E:Ends}
@[simp]def Jc(fe:FE):FD:=λδ=>(fe δ).bind λp=>(frz p.1 p.2).bind λq=>match q.1 with
 | .lst xs=>aA (xs,q.2)
 | .tup xs=>aA (xs,q.2)
 | .str z=>aA (Pt z,q.2)
 | .lso xs=>aA (xs,q.2)
 |_=>aB
theorem vw{fe:FE}{R:It->Hp->Prop}(h:Qg Z (Jc fe) σ H R):EU K (Zf Z fe) σ H R:=by
 obtain⟨F,δ,own,ds,δ',s,e,k⟩:=h;obtain⟨⟨rv,δ1⟩,e1,e2⟩:=aa.mp e;obtain⟨⟨d,δ2⟩,e3,e4⟩:=aa.mp e2;refine⟨F,δ,own,rv,δ1,s,e1,λv H1 F1 ZB sH sF s1 r1=>?_⟩;obtain⟨F2,ZH,s2,r2⟩:=s1.settleR r1;obtain⟨F3,ZI,ZT,s3,r3⟩:=s2.frzR r2 e3;dsimp only at e4;split at e4
 .cases e4;cases r3 with
  |lst h _ r=>exact .inl ⟨_,rfl,⟨_,Yg s3.le h⟩,k _ H1 F3 ZI sH (sF.trans (ZH.trans ZT)) s3 (Mc h r)⟩
 .cases e4;cases r3 with
  |tup h r=>exact .inr (.inl ⟨_,rfl,⟨_,W3 s3.le (Ue h)⟩,k _ H1 F3 ZI sH (sF.trans (ZH.trans ZT)) s3 (Vp (Ue h) r)⟩)
 .cases e4;cases r3 with
  |str x=>exact .inr (.inr ⟨_,rfl,k _ H1 F3 ZI sH (sF.trans (ZH.trans ZT)) s3 Pu⟩)
 .cases e4;cases r3 with
  |lso h r=>exact .inl ⟨_,rfl,⟨_,Yg s3.le h.sq⟩,k _ H1 F3 ZI sH (sF.trans (ZH.trans ZT)) s3 (Mc h.sq r)⟩
 .cases e4
@[simp]noncomputable def inS(i j:Str):Bool:=!(Builtin.Str.occurrences j i 0 j.length 1).isEmpty
@[simp]def Vw:D->D->Option SV
 | .str i,.str j=>aA (.fz (.bl (!inS i j)))
 |_,_=>aB
theorem t9:Y6 Z (λx y H Q=>∃i j,x= .str i/\y= .str j/\Q (.bl (!(!(Builtin.Str.occurrences j i 0 j.length 1).isEmpty))) H) Vw:=by
 intro F H σ δ own x y d1 d2 sv Q s r1 r2 e k;unfold Vw at e;split at e
 .cases e;exact⟨_,_,r1.str,r2.str,k.fz s (.bl _)⟩
 .cases e
end
section
variable{X:Cx}{Z:mF X.K}{a b c:cw}{fa fb fc:FE}{pos:Pos}{tg:cw}
theorem Qc(ha:PE X a (Zf Z fa)):PI X tg a (Qg Z (Jc fa)):=λn_ s σ H R I h=>vx ha n_ s σ H R I (vw h)
end
end
section
open AutoSeq1 (wpAny_loadPart')
section
variable{prog:cg}{w:c8}{A:dh}{E:aj->ao->Prop}{s:ao}
theorem Ms{it t:aq}{i:Nat}{mB:Array aj}{x:aj}{Q:aj->ao->Prop}(YH:s.heap.IsTupleIter it t i)(ht:s.heap.IsTuple t mB)(hx:mB[i]? =aA x)
  (hQ:∀h',h'.IsTupleIter it t (i+1)->gm it s.heap h'->Q x {s with heap:=h'}):bj (cf prog w) A (Builtin.SmallTypes.nextOf (.ref it)) Q E s:=by
 obtain⟨o,ho,hc,hd⟩:=id YH;obtain⟨ol,RD,_,nl,RH⟩:=ht;unfold Builtin.SmallTypes.nextOf;refine ab (fg (name:=Str.ofString "__next__") YH.typeIs F.slot_tuple_iterator_next (dq F.slot_tuple_iterator_next YH.typeIs F.entry_tuple_iterator_next ?_ (F.args_tuple_iterator_next_1 _)));show bj _ _ (field (.ref it) 0 >>=_) _ _ s;refine ab (wpAny_field ho hd (x:=.ref t) rfl ?_);show bj _ _ (if(b8 t==cn)=aC then _ else _) _ _ s;rw[m4 (show¬((b8 t==cn)=aC)from bq)];show bj _ _ (field (.ref it) 1 >>=_) _ _ s;refine ab (wpAny_field ho hd (x:=.int i 0) rfl ?_);show bj _ _ (seqItems? (.ref t) >>=_) _ _ s;refine ab (wpAny_seqItems RD RH ?_);simp only[Int.toNat_natCast,hx];refine ab (wpAny_setField ho hd (by simp) (af ⟨x,rfl,af (hQ _ ⟨_,Heap.get?_update_self _ ho (Obj.isFreed_of_fields (Obj.data_mapFields hd _)),(Obj.cls_mapFields ..).trans hc,by rw[Obj.data_mapFields hd];simp[rawInt]⟩ (Heap.SameBut.update ..))⟩))
theorem Bg{it t:aq}{i:Nat}{mB:Array aj}{Q:aj->ao->Prop}(hh:A.handled=aB)(YH:s.heap.IsTupleIter it t i)(ht:s.heap.IsTuple t mB)(hx:mB[i]? =aB)
  (hE:∀h' e,Heap.ExtBut it s.heap h'->(∃o,h'.get? e=aA o/\o.cls= .type "StopIteration")->E (.ref e) {s with heap:=h'}):bj (cf prog w) A (Builtin.SmallTypes.nextOf (.ref it)) Q E s:=by
 obtain⟨o,ho,hc,hd⟩:=id YH;obtain⟨ol,RD,_,nl,RH⟩:=ht;unfold Builtin.SmallTypes.nextOf;refine ab (fg (name:=Str.ofString "__next__") YH.typeIs F.slot_tuple_iterator_next (dq F.slot_tuple_iterator_next YH.typeIs F.entry_tuple_iterator_next ?_ (F.args_tuple_iterator_next_1 _)));show bj _ _ (field (.ref it) 0 >>=_) _ _ s;refine ab (wpAny_field ho hd (x:=.ref t) rfl ?_);show bj _ _ (if(b8 t==cn)=aC then _ else _) _ _ s;rw[m4 (show¬((b8 t==cn)=aC)from bq)];show bj _ _ (field (.ref it) 1 >>=_) _ _ s;refine ab (wpAny_field ho hd (x:=.int i 0) rfl ?_);show bj _ _ (seqItems? (.ref t) >>=_) _ _ s;refine ab (wpAny_seqItems RD RH ?_);simp only[Int.toNat_natCast,hx];refine ab (wpAny_rule (ab (wpAny_setField ho hd (by simp) ?_)));show bj _ _ (newExc (.type "StopIteration") [] >>=_) _ _ _;refine ab ?_;simp only[newExc,newTuple];refine ab (di ?_ (by size_fits));refine ab (m:=firstArgMember _ _) (wpAny_of_eq (a:=cn) (by first|rfl| (simp only[firstArgMember];rfl)) ?_);refine di ?_ (by size_fits);simp only[raiseNew];refine ab (wpAny_handled ?_);first|rw[show A.in1.handled=aB from hh]|rw[hh]
 refine ab (af (wpAny_throw ?_));exact hE _ _ (((Heap.SameBut.update ..).extBut.push _).push _) ⟨_,bo _ rfl,rfl⟩
theorem Pv{h h':d6}{t it:aq}{mB:Array aj}(x:h.IsTuple t mB)(hs:Heap.ExtBut it h h')(VE:t≠it):h'.IsTuple t mB:=let⟨o,ho,r⟩:=x;⟨o,hs t o VE ho,r⟩
theorem og{prog:cg}{w:c8}{A:dh}(hh:A.handled=aB)(it l:aq)(VE:l≠it)(mB:Array aj):
  Draws prog w A it [it,l] mB.size (λi v=>mB[i]? =aA v) (λi h=>h.IsTupleIter it l i/\h.IsTuple l mB)where
 live:=λ_ _ st=>let⟨o,ho,_⟩:=st.1;⟨o,ho⟩
 frame:=λ_ _ _ st hk=>⟨st.1.at λo e=>hk it (by simp) o e,let⟨o,ho,r⟩:=st.2;⟨o,hk l (by simp) o ho,r⟩⟩
 item:=λi s Q E hi st hQ=>by refine Ms st.1 st.2 (x:=mB[i]) (by simp[hi]) λh' JC UG=>?_;exact hQ _ h' s.toks (by simp[hi]) ⟨JC,Pv st.2 UG.extBut VE⟩ UG
 done:=λs Q E st hE=>Bg hh st.1 st.2 (by simp) hE
theorem Li(l:aq)(mB:Array aj)(n:Nat)(J':Option aq)(sl:Array (Option aj)):
  Meets (Builtin.«enumerate.__new__» ⟨[.type "enumerate",.ref l],[]⟩) (λ_ R s=>s.heap.get? l=aA {cls:=.type "tuple",dict:=J',data:=.seq mB n,slots:=sl}/\
   R (.ok (.ret (.ref (s.heap.push {cls:=.type "tuple_iterator",data:=.fields #[.ref l,.int 0 0]}).objs.size))) {s with heap:=(s.heap.push {cls:=.type "tuple_iterator",data:=.fields #[.ref l,.int 0 0]}).push {cls:=.type "enumerate",data:=.fields #[.none,.bool aD,.ref s.heap.objs.size,rawInt 0,.none,.none]}}):=
 .of_wp λprog w A R s h=>by
  obtain⟨hp,g,d,tk,os⟩:=s;obtain⟨hl,h⟩:=h;have hsub:=sub_enumerate;have hL:Heap.IsTuple (Shared.heap ⟨hp,g,d,tk,os⟩) l mB:=⟨_,hl,rfl,n,rfl⟩
  wp_walk using dr hl;refine wpAny_stack_any λst=>af ?_;split
  .rename_i c _ _ _ _ _;cases(c==Value.type "enumerate")
   .wp_walk using dr hl,wpAny_pyIter_tuple hL;exact⟨_,rfl,h⟩
   .wp_walk using dr hl,wpAny_pyIter_tuple hL;exact⟨_,rfl,h⟩
  .wp_walk using dr hl,wpAny_pyIter_tuple hL;exact⟨_,rfl,h⟩
theorem Ew{l:aq}{mB:Array aj}{Q:aj->ao->Prop}(hL:s.heap.IsTuple l mB)
  (h:∀h',IsEnum h' (s.heap.objs.size+1) s.heap.objs.size 0 .none->h'.IsTupleIter s.heap.objs.size l 0->h'.objs.size=s.heap.objs.size+2->(∀b o,s.heap.get? b=aA o->h'.get? b=aA o)->Q (.ref (s.heap.objs.size+1)) {s with heap:=h'}):
  bj (cf prog w) A (call (.type "enumerate") [.ref l]) Q E s:=by
 obtain⟨⟨c,J',dt,sl⟩,hl,hc,n,hd⟩:=hL;replace hc:c= .type "tuple":=hc;replace hd:dt= .seq mB n:=hd;subst hc hd;refine callType_new F.called_enumerate (by decide) (F.typeCall_enumerate_1 _) (F.newCall_enumerate_1 _) (λobj=>F.args_object_init_2 obj _) F.entry_enumerate_new (Li l mB n J' sl) ⟨hl,?_⟩;have hz:(s.heap.push {cls:=.type "tuple_iterator",data:=.fields #[.ref l,.int 0 0]}).objs.size=s.heap.objs.size+1:=Heap.size_push ..;show _/\_;rw[hz];have he:IsEnum ((s.heap.push {cls:=.type "tuple_iterator",data:=.fields #[.ref l,.int 0 0]}).push {cls:=.type "enumerate",data:=.fields #[.none,.bool aD,.ref s.heap.objs.size,rawInt 0,.none,.none]}) (s.heap.objs.size+1) s.heap.objs.size 0 .none:=by have:=bo (s.heap.push {cls:=.type "tuple_iterator",data:=.fields #[.ref l,.int 0 0]}) (o:={cls:=.type "enumerate",data:=.fields #[.none,.bool aD,.ref s.heap.objs.size,rawInt 0,.none,.none]}) rfl;rw[hz]at this;exact this
 exact⟨⟨_,he,rfl⟩,h _ he ⟨_,ar _ (bo _ rfl),rfl,rfl⟩ (by rw[Heap.size_push,hz]) λb o x=>ar _ (ar _ x)⟩
theorem Lj{e it l:aq}{i:Nat}{mB:Array aj}{old:aj}{Q:Option aj->ao->Prop}(hh:A.handled=aB)(he:IsEnum s.heap e it i old)(YH:s.heap.IsTupleIter it l i)(hl:s.heap.IsTuple l mB)(hx:mB[i]? =aB)
  (hQ:∀h',Heap.ExtBut it s.heap h'->Q aB {s with heap:=h'}):bj (cf prog w) A (pyNext (.ref e)) Q E s:=by
 have hT:s.TypeIs (.ref e) "enumerate":=⟨_,he,rfl⟩;unfold pyNext;refine ab (wpAny_attempt (fg (name:=Str.ofString "__next__") hT F.slot_enumerate_next (dq F.slot_enumerate_next hT F.entry_enumerate_next ?_ (F.args_enumerate_next_1 _))));show bj _ _ (field (.ref e) 2 >>=_) _ _ _;refine ab (wpAny_field he rfl (x:=.ref it) rfl ?_);refine ab (Bg (by first|exact hh| (rw[show A.in1.handled=A.handled from rfl];exact hh)) YH hl hx λh' x TB YR=>?_);obtain⟨o,ho,hc⟩:=YR;refine ab (wpAny_isInstance (T:="StopIteration") (b:=aC) ⟨o,ho,hc⟩ isSubtype_stop ?_);exact af (hQ _ TB)
end
section
variable{X:Cx}{tg:cw}
def II(K:ad)(a:aq):It:=
 ⟨λi H=>∃xs x,Rl K H a xs/\xs[i]? =aA x,λi H x H'=>∃p v,x= .ref p/\H p=aB/\H'=Yo H p (.tup [.int (i:Nat),v])/\∀xs,Rl K H a xs->xs[i]? =aA v,λi H=>∃xs,Rl K H a xs/\xs.length<=i⟩
theorem Vx{P:cg}{w:c8}{K:ad}{XC:List cw}{kk:Nat}{YN:Pos}(a e it:aq)(UI:e≠it):Turn P w K (.Tuple XC kk YN) (II K a) [e,it] e (λi h=>(∃old,IsEnum h e it ((i:Nat):Int) old)/\h.IsTupleIter it a i)where
 mem:=by simp
 obj:=λi h st b hb=>by
  have ZX:b=e\/b=it:=by simpa using hb
  rcases ZX with z|z
  .subst z;obtain⟨old,q⟩:=st.1;exact⟨_,q,λv y=>by
    have y':Data.fields _=Data.cell v:=y;cases y'⟩
  .subst z;obtain⟨o,q,c,d⟩:=st.2;exact⟨o,q,λv y=>by rw[d]at y;cases y⟩
 keep:=λi h h' st k=>⟨let⟨old,q⟩:=st.1;⟨old,k e (by simp) _ q⟩,st.2.at λo q=>k it (by simp) o q⟩
 item:=by
  intro X hP hw hK hc i n_ s σ H E I hf st hg;subst hP hw hK;obtain⟨xs,x,hq,hx⟩:=hg;obtain⟨mC,rv,p,hz⟩:=I.tuple hq;obtain⟨u,hu,ru⟩:=rv.get hx;obtain⟨⟨old,he⟩,YH⟩:=st;have hl:s.heap.IsTuple a mC.toArray:=p;have ai:a≠it:=λz=>by obtain⟨o1,q1,c1,_⟩:=YH;obtain⟨o2,q2,c2,_⟩:=hl;rw[z,q1]at q2;cases q2;rw[c1]at c2;exact m_ c2 (by decide)
  have ae:e∉[it,a]:=λz=>by
   have z':e=it\/e=a:=by simpa using z
   rcases z' with z|z
   .exact UI z
   .obtain⟨o2,q2,c2,_⟩:=hl;rw[<-z,he]at q2;cases q2;exact m_ (show Value.type "enumerate"=Value.type "tuple"from c2) (by decide)
  have D:=og (prog:=X.prog) (w:=X.w) (A:=X.A.in1) (by first|exact I.ok.hd hc| (rw[show X.A.in1.handled=X.A.handled from rfl];exact I.ok.hd hc)) it a ai mC.toArray;have ZL:i<mC.toArray.size:=by have:=(aw.mp hu).1;rw[bv];exact this
  refine wpAny_pyNext_enum_itemD D he ⟨YH,hl⟩ ZL UI ae λy h' tk hy SD YM hT hsz hk=>⟨.ref s.heap.objs.size,rfl,?_⟩
  refine wpAny_letOwnedTupleGo_enum SD λh2 WU hs2=>?_;have VC:mC.toArray[i]? =aA y:=hy;have ey:y=u:=by
   have:mC[i]? =aA y:=by simpa using VC
   rw[hu]at this;cases this;rfl
  subst ey;have kk:∀b o,b≠e->b≠it->s.heap.get? b=aA o->h2.get? b=aA o:=λb o h1 h3 q=>(hs2.2 b h1).trans (hk b o h1 h3 q);have neT:s.heap.objs.size≠e:=Nat.ne_of_gt (bp he);have I2:=I.turnedT (h':=h2) (t':=tk+1) (e:=e) (it:=it) (T:=s.heap.objs.size) (xs:=[.int (i:Nat),x]) (mC:=[.int i tk,y]) kk (hf e (by simp)) (hf it (by simp)) rfl ⟨_,(hs2.2 _ neT).trans hT,rfl,_,rfl⟩ (.cons ⟨tk,rfl⟩ (.cons ru .nil)) (by show 2<=sizeLine;decide)
   ⟨_,WU⟩ (let⟨o,q,_⟩:=YM.1;⟨o,(hs2.2 it (Ne.symm UI)).trans q⟩)
  refine⟨.ref s.heap.objs.size,_,I2,rfl,⟨s.heap.objs.size,x,rfl,I.hok.fresh (bc _),rfl,λys KG=>by rw[I.tuple_inj KG hq];exact hx⟩,⟨⟨_,WU⟩,YM.1.at λo q=>(hs2.2 it (Ne.symm UI)).trans q⟩,λb hb=>?_⟩;rw[Zp λz=>?_]
  .exact(hf b hb).1
  .have ZX:b=e\/b=it:=by simpa using hb
   rcases ZX with y|y
   .rw[<-z,y]at neT;exact neT rfl
   .obtain⟨o,q,_⟩:=YH;rw[y]at z;exact m_ (bp q) (by rw[z];exact gz _)
 done:=by intro X hP hw hK hc i n_ s σ H E I hf st hg;subst hP hw hK;obtain⟨xs,hq,hx⟩:=hg;obtain⟨mC,rv,p,hz⟩:=I.tuple hq;obtain⟨⟨old,he⟩,YH⟩:=st;obtain⟨f0,f1,f2,f3,f4,f5⟩:=hf it (by simp);have hl:=rv.length;exact Lj (I.ok.hd hc) he YH (show s.heap.IsTuple a mC.toArray from p) (by simp;omega) λh' eb=>⟨rfl,I.turned (t':=s.toks) (λb o hb q=>eb b o hb q) f0 f1 f3 f4 f5⟩
 self:=λ_ _ _ _ _ st h=>let⟨⟨old,he⟩,_⟩:=st;wpAny_pyIter_enum he h
def AE(K:ad)(ta:TA):TI:=λσ H R=>ta σ H λvs H1=>∃a xs,vs=[.ref a]/\Rl K H1 a xs/\R (II K a) H1
theorem qZ{l:cw}{XC:List cw}{kk:Nat}{YN p pos:Pos}{ta:TA}(hg:Gl X "enumerate")(hm:X.mg "enumerate"=aB)(ha:PA X [l] ta)(hs:az [l] X.env=[(aD,gg l X.env)]:=by rfl):
  PI X (.Tuple XC kk YN) (.Call (.Name "enumerate" p) [l] [] pos) (AE X.K ta):=by
 intro n_ s σ H R I h;refine Call_ (O8 I hg hm boot_enumerate (PyProof.Rows.callWith_type1 (Wl (ha pos n_ s σ H _ I h) λus s1 ⟨vs,H1,I1,r1,q1⟩=>?_) hs rfl));obtain⟨a,xs,e,hq,q⟩:=q1;subst e;obtain⟨u,rfl,ru⟩:=Oy r1;cases ru;obtain⟨mC,rv,p,hz⟩:=I1.tuple hq;refine Ew (show s1.heap.IsTuple a mC.toArray from p) λh' he YH hsz hk=>wpAny_pyIter_enum he ?_;have I2:mE X n_ σ H1 {s1 with heap:=h'}:=I1.kept (t':=s1.toks) hk;refine⟨s1.heap.objs.size+1,[s1.heap.objs.size+1,s1.heap.objs.size],_,_,H1,rfl,I2,Vx a _ _ (Nat.succ_ne_self _),⟨⟨.none,by simpa using he⟩,YH⟩,λb hb=>?_,q⟩;have ZX:b=s1.heap.objs.size+1\/b=s1.heap.objs.size:=by simpa using hb
 rcases ZX with z|z
 .subst z;exact I1.fpOk (Nat.le_succ _) (I1.hok.fresh (Nat.le_succ _))
 .subst z;exact I1.fpOk (bc _) (I1.hok.fresh (bc _))
end
end
section
variable{K:ad}
theorem Ll{F:Hp}{a:aq}{xs:List D}{vs:List V}(h:Rl K F a vs)(r:mD K F xs vs):Be K (II K a) F (Q8 xs):=λF' H sF sH i=>by
 have q:Rl K H a vs:=W3 (sF.trans sH) h;refine⟨λd hd=>?_,λhl=>⟨vs,q,by rw[<-r.length,<-I9];exact hl⟩⟩;obtain⟨x,hx,rfl⟩:=I8 hd;obtain⟨v,h1,h2⟩:=r.get hx;refine⟨⟨vs,v,q,h1⟩,λy H' ZG=>?_⟩;obtain⟨p,w,e1,e2,e3,e4⟩:=ZG;subst e1 e3;have e5:=e4 vs q;rw[h1]at e5;cases e5;have hp:F' p=aB:=sH.free e2;have sm:Zi F' (Qt F' [(p,.tup [.int (i:Nat),v])]):=Qa λz hz=>by obtain rfl:=ak.mp hz;exact hp
 refine⟨Wq e2,[(p,.tup [.int (i:Nat),v])],Ev,λz hz=>?_,.tup Z8 (.cons (.int _) (.cons (h2.mono (sF.trans sm)) .nil))⟩;obtain rfl:=ak.mp hz;exact⟨e2,Z8⟩
section
variable{Z:mF K}{H:Hp}{σ:L2.St}{Q:VK}
@[simp]def AD(fd:FD):FD:=λδ=>(fd δ).bind λp=>match p.1 with
 | [.tup xs]=>aA (Q8 xs,p.2)
 |_=>aB
theorem qY{fd:FD}{R:It->Hp->Prop}(h:Qg Z (AD fd) σ H R):AE K (Y3 Z fd) σ H R:=by
 obtain⟨F,δ,own,ds,δ',s,e,k⟩:=h;obtain⟨⟨ds1,δ1⟩,e1,e2⟩:=aa.mp e;refine⟨F,δ,own,ds1,δ1,s,e1,λvs H1 F1 ZB sH sF s1 r1=>?_⟩;dsimp only at e2;split at e2
 .rename_i xs;cases e2;cases r1 with
  |cons h t=>
   cases t;cases h with
   |tup h r=>exact⟨_,_,rfl,W3 s1.le (Ue h),k _ H1 F1 ZB sH sF s1 (Ll (Ue h) r)⟩
 .cases e2
end
section
variable{X:Cx}{Z:mF X.K}{a:cw}{fa:FE}{pos:Pos}
@[simp]def Of(fd:FD):FD:=λδ=>(fd δ).bind λp=>match p.1 with
 | [.lst xs]=>aA (Q8 xs,p.2)
 | [.tup xs]=>aA (Q8 xs,p.2)
 |_=>aB
theorem qX{H:Hp}{σ:L2.St}{fd:FD}{R:It->Hp->Prop}(h:Qg Z (Of fd) σ H R):Qg Z (CM fd) σ H R\/Qg Z (AD fd) σ H R:=by
 obtain⟨F,δ,own,ds,δ',s,e,k⟩:=h;obtain⟨⟨ds1,δ1⟩,e1,e2⟩:=aa.mp e;dsimp only at e2;split at e2
 .rename_i xs;exact .inl ⟨F,δ,own,ds,δ',s,aa.mpr ⟨_,e1,e2⟩,k⟩
 .rename_i xs;exact .inr ⟨F,δ,own,ds,δ',s,aa.mpr ⟨_,e1,e2⟩,k⟩
 .cases e2
theorem B8{XC:List cw}{kk:Nat}{YN p:Pos}{fd:FD}(hm:X.mg "enumerate"=aB)(ha:PA X [a] (Y3 Z fd))(hg:Gl X "enumerate":=by rfl)(hs:az [a] X.env=[(aD,gg a X.env)]:=by rfl):
  PI X (.Tuple XC kk YN) (.Call (.Name "enumerate" p) [a] [] pos) (Qg Z (Of fd)):=λn_ s σ H R I h=>by
 rcases qX h with h|h
 .exact sC hg hm ha hs n_ s σ H R I (sB h)
 .exact qZ hg hm ha hs n_ s σ H R I (qY h)
end
end
section
variable{X:Cx}
end
section
variable{K:ad}
end
section
variable{X:Cx}
def wE:R2:=λx y H Q=>∃a v,x= .ref a/\O6 H a y (aA v)/\Q v H
def Gr:R2:=λy x H Q=>∃a o,x= .ref a/\O6 H a y o/\Q (.bl (!o.isSome)) H
theorem Ex(hu:X.A.units+1<fj):O9 X (compareOp .NotIn) Gr:=by intro n_ s σ H y x v u Q I ry rx h;obtain⟨a,o,rfl,g,q⟩:=h;cases rx;exact rK hu I g ry λs' I'=>⟨.bl (!o.isSome),H,I',rfl,q⟩
end
section
variable{K:ad}
@[simp]def D.key?:D->Option Key
 | .int i=>aA (.inl i)
 | .str x=>aA (.inr x)
 |_=>aB
@[simp]def keys?:List D->Option (List Key)
 | []=>aA []
 |d::r=>d.key?.bind λk=>(keys? r).bind λt=>aA (k::t)
section
variable{κ:Type}[DecidableEq κ]
@[simp]noncomputable def look(ks:List κ)(vs:List D)(k:κ):Option D:=match ks,vs with
 |a::ks,v::vs=>if a=k then aA v else look ks vs k
 |_,_=>aB
theorem M0{F:Hp}(k:κ):∀(kvs:List (κ×V)) (ds:List D),mD K F ds (kvs.map (·.2))->match look (kvs.map (·.1)) ds k with
  |some d=>∃v,Qp kvs k=aA v/\mI K F d v
  |none=>Qp kvs k=aB
 | [],_,r=>by cases r;exact qz
 |p::kvs,_,r=>by
  cases r with
  | @cons d v ds vs h t=>
   show match(if p.1=k then aA d else look (kvs.map (·.1)) ds k)with
    |some d=>∃v,Qp (p::kvs) k=aA v/\mI K F d v
    |none=>Qp (p::kvs) k=aB
   by_cases e:p.1=k
   .rw[m6 e];exact⟨p.2,Uz e,h⟩
   .rw[m4 e,Jm e];exact M0 k kvs ds t
@[simp]noncomputable def W4(ks:List κ)(vs:List D)(k:κ)(v:D):List κ×List D:=
 if k∈ks then(ks,(ks.zip vs).map λp=>if p.1=k then v else p.2)else(ks++[k],vs++[v])
theorem mD.length_map{F:Hp}{α:Type}{ds:List D}{kvs:List (α×V)}(r:mD K F ds (kvs.map (·.2))):ds.length=kvs.length:=by rw[r.length,ah]
theorem Hj{F:Hp}{k:κ}{d:D}{v:V}(hd:mI K F d v):∀(kvs:List (κ×V)) (ds:List D),mD K F ds (kvs.map (·.2))->
  mD K F (((kvs.map (·.1)).zip ds).map λp=>if p.1=k then d else p.2) ((kvs.map λkv=>if kv.1=k then(kv.1,v)else kv).map (·.2))
 | [],_,r=>by cases r;exact .nil
 |p::kvs,_,r=>by
  cases r with
  | @cons d' v' ds vs h t=>
   have ih:=Hj (k:=k) hd kvs ds t;show mD K F ((if p.1=k then d else d')::(((kvs.map (·.1)).zip ds).map λp=>if p.1=k then d else p.2)) ((if p.1=k then(p.1,v)else p).2::((kvs.map λkv=>if kv.1=k then(kv.1,v)else kv).map (·.2)));refine .cons ?_ ih;by_cases e:p.1=k
   .rw[m6 e,m6 e];exact hd
   .rw[m4 e,m4 e];exact h
theorem qW{k:κ}{v:V}(kvs:List (κ×V)):(kvs.map λkv=>if kv.1=k then(kv.1,v)else kv).map (·.1)=kvs.map (·.1):=by rw[cu];refine gr λp _=>?_;show(if p.1=k then(p.1,v)else p).1=p.1;split<;> rfl
theorem Hk(k:κ)(kvs:List (κ×V)):(kvs.any λkv=>decide (kv.1=k))=aC↔k∈kvs.map (·.1):=by
 rw[List.any_eq_true,ax];constructor
 .rintro⟨p,h1,h2⟩;exact⟨p,h1,m9 h2⟩
 .rintro⟨p,h1,h2⟩;exact⟨p,h1,m8 h2⟩
theorem Vy{F:Hp}{k:κ}{d:D}{v:V}(hd:mI K F d v)(kvs:List (κ×V))(ds:List D)(r:mD K F ds (kvs.map (·.2))):
  (Qd kvs k v).map (·.1)=(W4 (kvs.map (·.1)) ds k d).1/\mD K F (W4 (kvs.map (·.1)) ds k d).2 ((Qd kvs k v).map (·.2)):=by
 unfold Qd W4;by_cases h:k∈kvs.map (·.1)
 .rw[m6 h,m6 ((Hk k kvs).mpr h)];exact⟨qW kvs,Hj hd kvs ds r⟩
 .rw[m4 h,m4 λz=>h ((Hk k kvs).mp z),ci,ci];exact⟨rfl,r.snoc hd⟩
end
theorem Lm{F H:Hp}{d:D}{k:Key}{y:V}(e:d.key? =aA k)(r:Yb K F H d y):y=kV k:=by
 cases d with
 |int i=>cases e;exact r.int
 |str x=>cases e;exact r.str
 |_=>cases e
theorem Hl{F:Hp}{d:D}{k:Key}{y:V}(e:d.key? =aA k)(r:mI K F d y):y=kV k:=Lm (H:=F) e (Yb.of r)
theorem Ln{F:Hp}:∀{ds:List D} {ks:List Key} {vs:List V},keys? ds=aA ks->mD K F ds vs->vs=ks.map kV
 | [],_,_,e,r=>by cases e;cases r;rfl
 |d::ds,_,_,e,r=>by
  cases r with
  |cons h t=>obtain⟨k,e1,e2⟩:=aa.mp e;obtain⟨t',e3,e4⟩:=aa.mp e2;cases e4;rw[Hl e1 h,Ln e3 t];rfl
theorem Yb.tupH{F H:Hp}{xs:List D}{v:V}(le:Zi F H)(h:Yb K F H (.tup xs) v):∃a vs,v= .ref a/\H a=aA (.tup vs)/\mD K F xs vs:=by
 obtain⟨sv,ns,e,n,sh,hp⟩:=h;cases sh with
 |fz r=>cases e;cases r with|tup h r=>exact⟨_,_,rfl,le _ _ h,r⟩
 |ol r=>cases e
 |oK e' r=>cases e
 |oT kb e' r=>cases e
 |oN e' r=>cases n
 |oR e' r=>cases n
 |oX kb' e' r=>cases n
 |oD r=>cases n
 |oM kb' e' r=>cases n
 |oL _ r=>cases n
 |oQ e' r=>cases e
@[simp]def RO:D->D->Option (Option D)
 | .dK ks vs,d=>d.key?.bind λk=>aA (look ks vs k)
 | .dT ks vs,.tup xs=>(keys? xs).bind λk=>aA (look ks vs k)
 |_,_=>aB
theorem Lo{F H:Hp}{d1 d2:D}{x y:V}{o:Option D}(le:Zi F H)(e:RO d1 d2=aA o)(r1:Yb K F H d1 x)(r2:Yb K F H d2 y):
  ∃a,x= .ref a/\IsD H a/\match o with
   |some d=>∃v,O6 H a y (aA v)/\mI K F d v
   |none=>O6 H a y aB:=by
 unfold RO at e;split at e
 .obtain⟨k,e1,e2⟩:=aa.mp e;obtain⟨a,kvs,rfl,ha,rfl,rr⟩:=r1.dK le;refine⟨a,rfl,.inl ⟨kvs,ha.rd⟩,?_⟩;rw[Lm e1 r2];have z:=M0 k kvs _ rr;have g:=O6.k (k:=k) ha;rw[cy.inj e2]at z;cases o with
  |none=>rw[show Qp kvs k=aB from z]at g;exact g
  |some d=>obtain⟨v,z1,z2⟩:=z;rw[z1]at g;exact⟨v,g,z2⟩
 .obtain⟨k,e1,e2⟩:=aa.mp e;obtain⟨a,kvs,rfl,ha,rfl,rr⟩:=r1.dT le;obtain⟨b,vs,rfl,hb,rb⟩:=r2.tupH le;refine⟨a,rfl,.inr ⟨kvs,ha.rd⟩,?_⟩;rw[Ln e1 rb]at hb;have z:=M0 k kvs _ rr;have g:=O6.t ha hb;rw[cy.inj e2]at z;cases o with
  |none=>rw[show Qp kvs k=aB from z]at g;exact g
  |some d=>obtain⟨v,z1,z2⟩:=z;rw[z1]at g;exact⟨v,g,z2⟩
 .cases e
section
variable{Z:mF K}
@[simp]def GB(d1 d2:D):Option SV:=(RO d1 d2).bind λo=>o.bind λd=>some (.fz d)
theorem vt:Y6 Z wE GB:=by intro F H σ δ own x y d1 d2 sv Q s r1 r2 e k;obtain⟨o,e1,e2⟩:=aa.mp e;obtain⟨d,e3,e4⟩:=aa.mp e2;cases e4;subst e3;obtain⟨a,rfl,_,v,g,rv⟩:=Lo s.le e1 r1 r2;exact⟨a,v,rfl,g,k.fz s rv⟩
@[simp]def Hm(d1 d2:D):Option SV:=(RO d2 d1).bind λo=>some (.fz (.bl (!o.isSome)))
theorem oe:Y6 Z Gr Hm:=by
 intro F H σ δ own x y d1 d2 sv Q s r1 r2 e k;obtain⟨o,e1,e2⟩:=aa.mp e;cases e2;obtain⟨a,rfl,_,g⟩:=Lo s.le e1 r2 r1;cases o with
 |none=>exact⟨a,aB,rfl,g,k.fz s (.bl _)⟩
 |some d=>obtain⟨v,g,_⟩:=g;exact⟨a,aA v,rfl,g,k.fz s (.bl _)⟩
@[simp]noncomputable def D.isD:D->Bool
 | .dK _ _=>aC| .dT _ _=>aC|_=>aD
@[simp]def Qe(d1 d2:D):Option SV:=if d1.isD=true then GB d1 d2 else ixD d1 d2
@[simp]def Vz(d1 d2:D):Option SV:=if d2.isD=true then Hm d1 d2 else Vw d1 d2
theorem oZ{H:Hp}{σ:L2.St}{Q:VK}{fa fb:FE}{g g1 g2':D->D->Option SV}(hg:∀d1 d2 sv,g d1 d2=aA sv->g1 d1 d2=aA sv\/g2' d1 d2=aA sv)(h:Zf Z (Zj g fa fb) σ H Q):Zf Z (Zj g1 fa fb) σ H Q\/Zf Z (Zj g2' fa fb) σ H Q:=by
 obtain⟨F,δ,own,rv,δ',s,e,k⟩:=h;obtain⟨⟨rvs,δ1⟩,e1,e2⟩:=aa.mp e;obtain⟨ds,e3,e4⟩:=aa.mp e2;obtain⟨sv,e5,e6⟩:=aa.mp e4;have:(g2 g1) ds=aA sv\/(g2 g2') ds=aA sv:=by
  unfold g2 at e5⊢;split at e5
  .exact hg _ _ _ e5
  .cases e5
 rcases this with z|z
 .exact .inl ⟨F,δ,own,rv,δ',s,aa.mpr ⟨_,e1,aa.mpr ⟨_,e3,aa.mpr ⟨_,z,e6⟩⟩⟩,k⟩
 .exact .inr ⟨F,δ,own,rv,δ',s,aa.mpr ⟨_,e1,aa.mpr ⟨_,e3,aa.mpr ⟨_,z,e6⟩⟩⟩,k⟩
theorem qu:Y6 Z (λx y H Q=>(∃i j,x= .str i/\y= .str j/\Q (.bl (!(!(Builtin.Str.occurrences j i 0 j.length 1).isEmpty))) H)\/Gr x y H Q) Vz:=by
 intro F H σ δ own x y d1 d2 sv Q s r1 r2 e k;unfold Vz at e;split at e
 .exact .inr (oe F H σ δ own x y d1 d2 sv Q s r1 r2 e k)
 .exact .inl (t9 F H σ δ own x y d1 d2 sv Q s r1 r2 e k)
end
section
variable{X:Cx}{Z:mF X.K}{a b c:cw}{fa fb fc:FE}{pos:Pos}
theorem Z3(hu:X.A.units+1<fj)(ha:PE X a (Zf Z fa))(hb:PE X b (Zf Z fb))(hs:Kx b:=by intro _ _;rfl):PE X (.Subscript a b pos) (Zf Z (Zj Qe fa fb)):=λn_ s σ H Q I h=>by
 rcases oZ (g1:=GB) (g2':=ixD) (λd1 d2 sv e=>by
  unfold Qe at e;split at e
  .exact .inl e
  .exact .inr e) h with h|h
 .exact rJ hu ha hb hs n_ s σ H Q I (Ix vt h)
 .exact GD Vh ha hb hs n_ s σ H Q I (Ix DE h)
end
end
section
variable{X:Cx}
def AJ:V->List V->Hp->VK->Prop:=λx xs H Q=>∃a,x= .ref a/\((∃y o,xs=[y]/\O6 H a y o/\Q (o.getD .non) H)\/(∃y z o,xs=[y,z]/\O6 H a y o/\Q (o.getD z) H))
theorem t8(hu:X.A.units+1<fj):MtR X "dict.get" AJ:=by
 intro n_ s σ H x xs v us Q I rx rs h;obtain⟨a,rfl,h⟩:=h;cases rx;rcases h with⟨y,o,rfl,g,q⟩|⟨y,z,o,rfl,g,q⟩
 .obtain⟨u,rfl,ru⟩:=Oy rs;exact uK hu I g ru λw' s' I' r'=>⟨_,H,I',r',q⟩
 .obtain⟨u,w',rfl,r1,r2⟩:=CP rs;exact uJ hu I g r1 r2 λw' s' I' r'=>⟨_,H,I',r',q⟩
end
section
variable{K:ad}
section
variable{Z:mF K}{H:Hp}{σ:L2.St}{Q:VK}{E:Ends}
@[simp]def GA:FE:=λδ=>some (.tmp (.oK [] []),δ)
@[simp]def Hn:FE:=λδ=>some (.tmp (.oT [] []),δ)
theorem t7(h:Zf Z GA σ H Q):AL σ H Q:=by obtain⟨F,δ,own,rv,δ',s,e,k⟩:=h;cases e;intro p hp;have f:Fin Z F H σ δ own (.oK [] []) Q:=λv H' F' ns a b c t=>k v H' F' own a b c ⟨ns,t⟩;exact f.one s (.oK (kvs:=[]) rfl .nil) hp
theorem sg(h:Zf Z Hn σ H Q):AK σ H Q:=by obtain⟨F,δ,own,rv,δ',s,e,k⟩:=h;cases e;intro p hp;have f:Fin Z F H σ δ own (.oT [] []) Q:=λv H' F' ns a b c t=>k v H' F' own a b c ⟨ns,t⟩;exact f.one s (.oT (kvs:=[]) .nil rfl .nil) hp
@[simp]noncomputable def SV.isOD:Option (Option SV)->Bool
 |some (aA (.oK _ _))=>aC
 |some (aA (.oT _ _))=>aC
 |some (aA (.oQ _ _ _))=>aC
 |_=>aD
@[simp]def ET(kd d:D):Option (Option SV)->Option SV
 |some (aA (.oK ks vs))=>kd.key?.bind λk=>if vs.length<cj then aA (.oK (W4 ks vs k d).1 (W4 ks vs k d).2)else aB
 |some (aA (.oT ks vs))=>match kd with
  | .tup xs=>(keys? xs).bind λk=>if vs.length<cj then aA (.oT (W4 ks vs k d).1 (W4 ks vs k d).2)else aB
  |_=>aB
 |some (aA (.oQ q ks vs))=>kd.key?.bind λk=>if vs.length<cj then aA (.oQ q (W4 ks vs k d).1 (W4 ks vs k d).2)else aB
 |_=>aB
@[simp]def OF(i:Nat)(fk fv:FE):FS:=λδ=>(fv δ).bind λp=>(frz p.1 p.2).bind λq=>if SV.isOD (q.2[i]?)=true then(fk q.2).bind λr=>(rdv r.1 r.2).bind λkd=>(ET kd q.1 (r.2[i]?)).bind λsv=>some (.nx (r.2.set i (some sv)))else none
theorem qr{F:Hp}{ks:List Key}{ds:List D}{v:V}{ns:Zr}(h:mH K F (.oK ks ds) v ns):∃a kvs ep,v= .ref a/\ns=[(a,.dK kvs ep)]/\kvs.map (·.1)=ks/\mD K F ds (kvs.map (·.2)):=by
 cases h with
 |oK e r=>exact⟨_,_,_,rfl,rfl,e,r⟩
theorem qp{F:Hp}{q:aq}{ks:List Key}{ds:List D}{v:V}{ns:Zr}(h:mH K F (.oQ q ks ds) v ns):∃kvs ep,v= .ref q/\ns=[(q,.dK kvs ep)]/\kvs.map (·.1)=ks/\mD K F ds (kvs.map (·.2)):=by
 cases h with
 |oQ e r=>exact⟨_,_,rfl,rfl,e,r⟩
theorem qo{F:Hp}{ks:List (List Key)}{ds:List D}{v:V}{ns:Zr}(h:mH K F (.oT ks ds) v ns):∃a kvs ep bs,v= .ref a/\ns=[(a,.dT kvs ep bs)]/\KB F kvs bs/\kvs.map (·.1)=ks/\mD K F ds (kvs.map (·.2)):=by
 cases h with
 |oT kb e r=>exact⟨_,_,_,_,rfl,rfl,kb,e,r⟩
theorem KB.put{F:Hp}{kvs:List (List Key×V)}{bs:List aq}{k:List Key}{b:aq}{v:V}(h:KB F kvs bs)(hb:F b=aA (.tup (k.map kV))):KB F (Qd kvs k v) (N3 kvs bs k b):=by
 unfold Qd N3;split
 .unfold KB at*;clear hb;rename_i hq;clear hq;induction h with
  |nil=>exact .nil
  | @cons p c ps cs h1 t ih=>
   rw[bm];refine .cons ?_ ih;by_cases e:p.1=k
   .rw[m6 e];exact h1
   .rw[m4 e];exact h1
 .exact Paired.snoc h hb
theorem Yb.tupF{F H:Hp}{xs:List D}{v:V}(h:Yb K F H (.tup xs) v):∃a vs,v= .ref a/\F a=aA (.tup vs)/\mD K F xs vs:=by
 obtain⟨sv,ns,e,n,sh,hp⟩:=h;cases sh with
 |fz r=>cases e;cases r with|tup h r=>exact⟨_,_,rfl,h,r⟩
 |ol r=>cases e
 |oK e' r=>cases e
 |oT kb e' r=>cases e
 |oN e' r=>cases n
 |oR e' r=>cases n
 |oX kb' e' r=>cases n
 |oD r=>cases n
 |oM kb' e' r=>cases n
 |oL _ r=>cases n
 |oQ e' r=>cases e
theorem sf{o:Option (Option SV)}(h:SV.isOD o=aC):∃sv,o=aA (aA sv):=by
 unfold SV.isOD at h;split at h
 .exact⟨_,rfl⟩
 .exact⟨_,rfl⟩
 .exact⟨_,rfl⟩
 .cases h
theorem wD{i:Nat}{fk fv:FE}(h:Z2 Z (OF i fk fv) E σ H):BC (Uo i) (Zf Z fk) (Zf Z fv) E σ H:=by
 obtain⟨F,δ,own,fl,s,e,k⟩:=h;obtain⟨⟨rv,δ1⟩,e1,e⟩:=aa.mp e;obtain⟨⟨d,δ2⟩,e2,e⟩:=aa.mp e;dsimp only at e;split at e
 .rename_i hod;obtain⟨⟨rk,XV⟩,e3,e⟩:=aa.mp e;obtain⟨kd,e4,e⟩:=aa.mp e;obtain⟨sv,e5,e⟩:=aa.mp e;cases e;refine⟨F,δ,own,rv,δ1,s,e1,λv H1 F1 ZB OQ XZ s1 r1=>?_⟩;obtain⟨F2,ZH,s2,r2⟩:=s1.settleR r1;obtain⟨F3,ZI,ZT,s3,r3⟩:=s2.frzR r2 e2;obtain⟨zN,KI⟩:=sf hod;obtain⟨x,hx,_⟩:=s3.at' i zN KI;refine⟨x,hx,F3,δ2,ZI,rk,XV,s3,e3,λy H4 F4 YF W_ YO s4 r4=>?_⟩;obtain⟨F5,GP,s5,r5⟩:=s4.settleR r4;have rk':=s5.rd r5 e4;have rd:mI K F5 d v:=r3.mono (YO.trans GP);have sF:Zi F F5:=XZ.trans (ZH.trans (ZT.trans (YO.trans GP)));dsimp only at e5;generalize ho:XV[i]? =o at e5;unfold ET at e5;split at e5
  .rename_i ks vs;obtain⟨kk,f1,f2⟩:=aa.mp e5;split at f2
   .rename_i hz;cases f2;obtain⟨x',YR,sh⟩:=s5.at' i _ ho;rw[hx]at YR;cases YR;obtain⟨a,kvs,V_,ea,en,rfl,rr⟩:=qr sh;subst ea;have mb:(a,HO.dK kvs V_)∈YF i:=by rw[en];exact ac
    have hH:=(s5.ok i _ mb).2.2;have z:=Vy (k:=kk) rd kvs vs rr;refine⟨a,rfl,?_⟩;rw[Lm f1 rk'];refine K8.k ⟨_,hH⟩ (by rw[<-rr.length_map];exact hz) λep=>?_;exact k σ _ F5 _ sF (s5.change (sv':=.oK (W4 (kvs.map (·.1)) vs kk d).1 (W4 (kvs.map (·.1)) vs kk d).2) (o':=.dK (Qd kvs kk v) ep) (ns':=[(a,.dK (Qd kvs kk v) ep)]) ho hx mb (.oK z.1 z.2) (λp hp=>.inl (ak.mp hp)) Ev)
   .cases f2
  .rename_i ks vs;split at e5
   .rename_i xs;obtain⟨kk,f1,f2⟩:=aa.mp e5;split at f2
    .rename_i hz;cases f2;obtain⟨x',YR,sh⟩:=s5.at' i _ ho;rw[hx]at YR;cases YR;obtain⟨a,kvs,V_,NZ,ea,en,kb,rfl,rr⟩:=qo sh;subst ea;have mb:(a,HO.dT kvs V_ NZ)∈YF i:=by rw[en];exact ac
     have hH:=(s5.ok i _ mb).2.2;have z:=Vy (k:=kk) rd kvs vs rr;obtain⟨b,us,rfl,JM,rb⟩:=rk'.tupF;rw[Ln f1 rb]at JM;refine⟨a,rfl,K8.t ⟨_,_,hH⟩ (s5.le _ _ JM) (by rw[<-rr.length_map];exact hz) λep yw xD hq=>?_⟩;rw[hH]at hq;cases hq;exact k σ _ F5 _ sF (s5.change (sv':=.oT (W4 (kvs.map (·.1)) vs kk d).1 (W4 (kvs.map (·.1)) vs kk d).2) (o':=.dT (Qd kvs kk v) ep (N3 kvs NZ kk b)) (ns':=[(a,.dT (Qd kvs kk v) ep (N3 kvs NZ kk b))]) ho hx mb (.oT (kb.put JM) z.1 z.2) (λp hp=>.inl (ak.mp hp)) Ev)
    .cases f2
   .cases e5
  .rename_i q ks vs;obtain⟨kk,f1,f2⟩:=aa.mp e5;split at f2
   .rename_i hz;cases f2;obtain⟨x',YR,sh⟩:=s5.at' i _ ho;rw[hx]at YR;cases YR;obtain⟨kvs,V_,ea,en,rfl,rr⟩:=qp sh;subst ea;have mb:(q,HO.dK kvs V_)∈YF i:=by rw[en];exact ac
    have hH:=(s5.ok i _ mb).2.2;have z:=Vy (k:=kk) rd kvs vs rr;refine⟨q,rfl,?_⟩;rw[Lm f1 rk'];refine K8.k ⟨_,hH⟩ (by rw[<-rr.length_map];exact hz) λep=>?_;exact k σ _ F5 _ sF (s5.change (sv':=.oQ q (W4 (kvs.map (·.1)) vs kk d).1 (W4 (kvs.map (·.1)) vs kk d).2) (o':=.dK (Qd kvs kk v) ep) (ns':=[(q,.dK (Qd kvs kk v) ep)]) ho hx mb (.oQ z.1 z.2) (λp hp=>.inl (ak.mp hp)) Ev)
   .cases f2
  .cases e5
 .cases e
@[simp]def IH(T:String)(g:D->List D->Option SV)(fo:FE)(fd:FD):FE:=λδ=>(fo δ).bind λp=>(rdv p.1 p.2).bind λd0=>if IJ T d0=true then(fd p.2).bind λq=>(rdv p.1 q.2).bind λd1=>(g d1 q.1).bind λsv=>some (.tmp sv,q.2)else none
def CJ(Z:mF K)(r:V->List V->Hp->VK->Prop)(g:D->List D->Option SV):Prop:=
 ∀(F H:Hp) (σ:L2.St) (δ:Ym) (own:Nat->Zr) (x:V) (d:D) (vs:List V) (ds:List D) (sv:SV) (Q:VK),SR Z F H σ δ own->Yb K F H d x->mD K F ds vs->g d ds=aA sv->Fin Z F H σ δ own sv Q->r x vs H Q
theorem wC{T:String}{r:V->List V->Hp->VK->Prop}{g:D->List D->Option SV}{fo:FE}{fd:FD}(hg:CJ Z r g)(h:Zf Z (IH T g fo fd) σ H Q):tBM K T r (Zf Z fo) (Y3 Z fd) σ H Q:=by
 obtain⟨F,δ,own,rv,δ',s,e,k⟩:=h;obtain⟨⟨W',δ1⟩,e1,e⟩:=aa.mp e;obtain⟨d0,e2,e⟩:=aa.mp e;dsimp only at e;split at e
 .rename_i ht;obtain⟨⟨ds,δ2⟩,e3,e⟩:=aa.mp e;obtain⟨d1,e4,e⟩:=aa.mp e;obtain⟨sv,e5,e⟩:=aa.mp e;cases e;refine⟨F,δ,own,W',δ1,s,e1,λv H1 F1 ZB OQ XZ s1 r1=>?_⟩;obtain⟨GJ,TU,RZ,S_⟩:=s1.settleR r1;refine⟨wx RZ.le (RZ.rd S_ e2) ht,GJ,δ1,ZB,ds,δ2,RZ,e3,λvs H2 F2 own2 XY ZH s2 r2=>?_⟩;exact hg F2 H2 σ δ2 own2 v d1 vs ds sv Q s2 (s2.rd (S_.mono ZH) e4) r2 e5 λq H4 F4 ns W_ YO s4 t4=>
   k q H4 F4 own2 (OQ.trans (XY.trans W_)) (XZ.trans (TU.trans (ZH.trans YO))) s4 ⟨ns,t4⟩
 .cases e
@[simp]def Lp:D->List D->Option SV
 |d,[y]=>(RO d y).bind λo=>aA (.fz (o.getD .non))
 |d,[y,z]=>(RO d y).bind λo=>aA (.fz (o.getD z))
 |_,_=>aB
theorem se:CJ Z AJ Lp:=by
 intro F H σ δ own x d vs ds sv Q s r1 r2 e k;unfold Lp at e;split at e
 .obtain⟨o,e1,e2⟩:=aa.mp e;cases e2;cases r2 with
  |cons h t=>
   cases t;obtain⟨a,rfl,_,g⟩:=Lo s.le e1 r1 (Yb.of h);cases o with
   |none=>exact⟨a,rfl,.inl ⟨_,aB,rfl,g,k.fz s .non⟩⟩
   |some d=>obtain⟨v,g,rv⟩:=g;exact⟨a,rfl,.inl ⟨_,aA v,rfl,g,k.fz s rv⟩⟩
 .obtain⟨o,e1,e2⟩:=aa.mp e;cases e2;cases r2 with
  |cons h t=>
   cases t with
   |cons h2 t=>
    cases t;obtain⟨a,rfl,_,g⟩:=Lo s.le e1 r1 (Yb.of h);cases o with
    |none=>exact⟨a,rfl,.inr ⟨_,_,aB,rfl,g,k.fz s h2⟩⟩
    |some d=>obtain⟨v,g,rv⟩:=g;exact⟨a,rfl,.inr ⟨_,_,aA v,rfl,g,k.fz s rv⟩⟩
 .cases e
end
section
variable{X:Cx}{Z:mF X.K}{a b c:cw}{fa fb fc:FE}{pos:Pos}
theorem sZ:PE X (.Dict [] [] pos) (Zf Z GA):=qx.imp λ_ _ _ h=>t7 h
theorem sY:PE X (.Dict [] [] pos) (Zf Z Hn):=qw.imp λ_ _ _ h=>sg h
theorem vq{ZF ZC:Pos}{es:List cw}{fd:FD}(hu:X.A.units+1<fj)(ha:PE X a (Zf Z fa))(hb:PA X (b::es) (Y3 Z fd))(ZN:attributeBase a "get" X.env (gg a X.env)=gg a X.env:=by rfl)
  (YA:((gb ZC (az (b::es) X.env)).all (λx=>!x.1)&&(backToKw ZC (keywordEach [] X.env)).all (λx=>x.1.isSome)&&decide ((b::es).length+([]:List Keyword).length+(if([]:List Keyword).isEmpty then 0 else 1)<30))=aC:=by rfl)
  (ZM:(ZF.endLine==ZC.line)=aC:=by rfl) (hs:az (b::es) X.env=(aD,gg b X.env)::az es X.env:=by rfl) (ZO:(gb ZC (az es X.env)).any (·.1)=aD:=by rfl):
  PE X (.Call (.Attribute a "get" ZF) (b::es) [] ZC) (Zf Z (IH "dict" Lp fa fd)):=
 (Iq PySem.F.plainAttrs_dict PySem.F.slot_dict_get PySem.F.type_dict_get (t8 hu) ha hb ZN YA ZM hs ZO).imp λ_ _ _ h=>wC se h
theorem H_(i:Nat){x:Str}{px p1:Pos}(hu:X.A.units+1<fj)(hb:PE X b (Zf Z fb))(YV:PE X a (Zf Z fa))(hN:X.N[i]? =aA x:=by rfl)(hv:X3 X.env.scope x:=by first|exact Or.inl rfl|exact gv (Or.inl rfl)|exact gv (gv rfl))(hd:(x==("__debug__":Str))=aD:=by decide)
  (YD:(x==("__classdict__":Str))=aD:=by decide) (hs:swapsWith a (aA (.Subscript (.Name x px) b p1)) pos.line X.env=pure aD:=by rfl):
  PS X (.Assign [.Subscript (.Name x px) b p1] a pos) (Z2 Z (OF i fb fa)):=(sT hu (Up (i:=i) hN hv hd YD) hb YV hs).imp λ_ _ _ h=>wD h
end
end
section
variable{X:Cx}
end
section
variable{K:ad}
end
section
section
variable{prog:cg}{w:c8}{A:dh}{E:aj->ao->Prop}{s:ao}
theorem V0{Q:Int->ao->Prop}(h:Q 0xFCA86420 {s with toks:=s.toks+1}):bj (cf prog w) A (pyHash .none) Q E s:=by have hT:s.TypeIs .none "NoneType":=rfl;refine PySem.W.pyHash_slot (v:=.none) (Q:=Q) hT F.slot_NoneType_hash F.entry_NoneType_hash (F.args_NoneType_hash_1 _) rfl (.inl rfl) ?_;show bj (cf prog w) A.in1 (mkInt 0xFCA86420 >>=λv=>ret v) _ E s;refine ab (wpAny_mkInt ?_);exact af ⟨_,_,rfl,h⟩
end
def HZ:Option Key->aj->Bool
 |none,.none=>aC
 |none,_=>aD
 |some k,v=>Cn k v
theorem Yx{k:Option Key}{v:aj}(h:HZ k v=aC):(k=aB/\v= .none)\/∃j,k=aA j/\Cn j v=aC:=by
 cases k with
 |none=>cases v<;> first|exact .inl ⟨rfl,rfl⟩|cases h
 |some j=>exact .inr ⟨j,rfl,h⟩
theorem T7{j:Key}(h:Cn j .none=aC):False:=by rcases Z7 h with⟨i,t,_,e⟩|⟨x,t,_,e⟩<;> cases e
def Ho(prog:cg)(w:c8):PySem.KeyKind prog w (Option Key)where
 is:=HZ
 hash:=λ|none=>0xFCA86420|some k=>(Zq prog w).hash k
 inj:=λv a b ha hb=>by
  rcases Yx ha with⟨rfl,rfl⟩|⟨i,rfl,hi⟩
  .rcases Yx hb with⟨rfl,_⟩|⟨j,rfl,hj⟩
   .rfl
   .exact(T7 hj).elim
  .rcases Yx hb with⟨rfl,rfl⟩|⟨j,rfl,hj⟩
   .exact(T7 hi).elim
   .rw[(Zq prog w).inj v i j hi hj]
 byValue:=λk v h=>by
  rcases Yx h with⟨rfl,rfl⟩|⟨i,rfl,hi⟩
  .rfl
  .exact(Zq prog w).byValue i v hi
 pyHash:=fun{A E s k v Q} hv h=>by
  rcases Yx hv with⟨rfl,rfl⟩|⟨i,rfl,hi⟩
  .exact V0 h
  .exact(Zq prog w).pyHash hi h
 eqBool:=fun{A E s a b u v Q} hu hv h=>by
  rcases Yx hu with⟨rfl,rfl⟩|⟨i,rfl,hi⟩
  .rcases Yx hv with⟨rfl,rfl⟩|⟨j,rfl,hj⟩
   .exact SeqAt.EqAt.same _ _ _ _ _ (by simpa using h)
   .rw[m7 (λz=>nomatch z)]at h;rcases Z7 hj with⟨i,t,rfl,rfl⟩|⟨x,t,rfl,rfl⟩
    .exact SeqAt.EqAt.none_int i t _ _ _ _ h
    .exact SeqAt.EqAt.none_str x t _ _ _ _ h
  .rcases Yx hv with⟨rfl,rfl⟩|⟨j,rfl,hj⟩
   .rw[m7 (λz=>nomatch z)]at h;rcases Z7 hi with⟨i,t,rfl,rfl⟩|⟨x,t,rfl,rfl⟩
    .exact SeqAt.EqAt.int_none i t _ _ _ _ h
    .exact SeqAt.EqAt.str_none x t _ _ _ _ h
   .refine(Zq prog w).eqBool hi hj ?_;have e:decide (aA i=aA j)=decide (i=j):=by simp
    rw[<-e];exact h
 «strs»:=λk x t v h=>by
  rcases Yx h with⟨rfl,e⟩|⟨i,rfl,hi⟩
  .cases e
  .exact(Zq prog w).strs i x t v hi
variable{X:Cx}
theorem sX{P:cg}{w:c8}{h:d6}{a:aq}{vs:List (Key×aj)}(d:h.DictOf (Zq P w) a vs):h.MapOf (Ho P w) a (λ|none=>aB|some k=>valueAt vs k):=by
 obtain⟨o,es,ep,ho,hc,hd,hk,hf⟩:=d.mapOf;refine⟨o,es,ep,ho,hc,hd,λe he=>?_,λk=>?_⟩
 .obtain⟨k,h1,h2⟩:=hk e he;exact⟨aA k,h1,h2⟩
 .cases k with
  |some k=>exact hf k
  |none=>
   show(es.find? λe=>HZ aB e.key).map (·.val)=aB;rw[Array.find?_eq_none.mpr λe he z=>?_]
   .rfl
   .obtain⟨k,h1,_⟩:=hk e he;rcases Yx z with⟨_,e2⟩|⟨j,e2,_⟩
    .rw[e2]at h1;exact T7 h1
    .cases e2
def V1(TW:Bool):R2:=λy x H Q=>∃a kvs,y= .non/\x= .ref a/\RdK H a kvs/\Q (.bl TW) H
theorem Lq:O9 X (compareOp .NotIn) (V1 aC):=by intro n_ s σ H y x v u Q I ry rx h;obtain⟨a,kvs,rfl,rfl,e,q⟩:=h;cases ry;cases rx;obtain⟨z,hd,vs,ZP,dd⟩:=Ts I.hok e;exact wpAny_notIn_of (knd:=Ho X.prog X.w) (k:=aB) rfl hd (sX dd) ⟨.bl aC,H,I.tok _,rfl,q⟩
end
noncomputable def place(kvs:List (Str×aj))(x:Str):Option Nat:=kvs.findIdx? λp=>decide (p.1=x)
section
variable{K:ad}
end
section
variable{K:ad}
end
section
variable{K:ad}
@[simp]def V2(d1 d2:D):Option SV:=match d1,d2 with
 | .non,.dK _ _=>aA (.fz (.bl aC))
 |_,_=>Vz d1 d2
section
variable{Z:mF K}
theorem qP:Y6 Z (λx y H Q=>((∃i j,x= .str i/\y= .str j/\Q (.bl (!(!(Builtin.Str.occurrences j i 0 j.length 1).isEmpty))) H)\/Gr x y H Q)\/V1 aC x y H Q) V2:=by
 intro F H σ δ own x y d1 d2 sv Q s r1 r2 e k;unfold V2 at e;split at e
 .cases e;obtain⟨a,kvs,rfl,ha,_,_⟩:=r2.dK s.le;exact .inr ⟨a,kvs,r1.non,rfl,ha.rd,k.fz s (.bl _)⟩
 .exact .inl (qu F H σ δ own x y d1 d2 sv Q s r1 r2 e k)
end
end
section
variable{K:ad}
theorem SR.changeT{Z:mF K}{F H:Hp}{σ:L2.St}{δ:Ym}{own:Nat->Zr}{i:Nat}{sv sv' zL:SV}{a:aq}{o o':HO}{v vT:V}{ns' GZ:Zr}(s:SR Z F H σ δ own)(t:mR Z F H own zL vT GZ)(e:δ[i]? =aA (aA sv))(hv:σ[i]? =aA (aA v))
  (ha:(a,o)∈own i) (hs:mH K F sv' v ns') (VW:∀p∈ns',p=(a,o')\/(p∈own i/\p.1≠a)\/p∈GZ) (nd:(Mb ns').Nodup):SR Z F (Yo H a o') σ (δ.set i (aA sv')) (put own i ns'):=by
 obtain⟨fa,UL,hHa⟩:=s.ok i (a,o) ha;have hi:i<δ.length:=(aw.mp e).1;refine⟨λb u eb=>?_,s.fro,λb u eb=>?_,by rw[gp];exact s.len,λj sw ej=>?_,λj=>?_,λj p hp=>?_,λj k p q WD hp hq=>?_⟩
 .rw[Zp λz=>by rw[z]at eb;rw[fa]at eb;cases eb];exact s.le b u eb
 .rw[Zp λz=>by rw[z]at eb;rw[UL]at eb;cases eb];exact s.old b u eb
 .by_cases hj:j=i
  .subst hj;rw[c9 hi]at ej;cases ej;rw[Z6];exact⟨v,hv,hs⟩
  .rw[cz (Ne.symm hj)]at ej;rw[Ye hj];exact s.at' j sw ej
 .by_cases hj:j=i
  .subst hj;rw[Z6];exact nd
  .rw[Ye hj];exact s.nod j
 .by_cases hj:j=i
  .subst hj;rw[Z6]at hp;rcases VW p hp with z|⟨z,ne⟩|z
   .subst z;exact⟨fa,UL,Z8⟩
   .obtain⟨x,y,w⟩:=s.ok j p z;exact⟨x,y,by rw[Zp ne];exact w⟩
   .obtain⟨x,y,w⟩:=t.ok p z;exact⟨x,y,by rw[Zp (t.sep j p (a,o) z ha)];exact w⟩
  .rw[Ye hj]at hp;obtain⟨x,y,w⟩:=s.ok j p hp;exact⟨x,y,by rw[Zp (s.sep j i p (a,o) hj hp ha)];exact w⟩
 .have EO:∀(l:Nat) (r q:aq×HO),l≠i->r∈ns'->q∈own l->r.1≠q.1:=λl r q hl hr hq=>by
   rcases VW r hr with z|⟨z,_⟩|z
   .subst z;exact s.sep i l (a,o) q (Ne.symm hl) ha hq
   .exact s.sep i l r q (Ne.symm hl) z hq
   .exact t.sep l r q z hq
  by_cases hj:j=i
  .subst hj;rw[Z6]at hp;rw[Ye (Ne.symm WD)]at hq;exact EO k p q (Ne.symm WD) hp hq
  .by_cases hk:k=i
   .subst hk;rw[Z6]at hq;rw[Ye hj]at hp;exact λz=>EO j q p hj hq hp z.symm
   .rw[Ye hj]at hp;rw[Ye hk]at hq;exact s.sep j k p q WD hp hq
theorem mN.snoc{F:Hp}:∀{ZE:List (List D)} {ws:List V} {ns:Zr} {xs:List D} {b:aq} {vs:List V},mN K F ZE ws ns->mD K F xs vs->mN K F (ZE++[xs]) (ws++[.ref b]) (ns++[(b,.lst vs)])
 |_,_,_,_,_,_,.nil,r=>.cons r .nil
 |_,_,_,_,_,_,.cons h t,r=>.cons h (t.snoc r)
section
variable{Z:mF K}{H:Hp}{σ:L2.St}{Q:VK}{E:Ends}
theorem mN.length{F:Hp}:∀{ZE:List (List D)} {ws:List V} {ns:Zr},mN K F ZE ws ns->ZE.length=ws.length
 |_,_,_,.nil=>rfl
 |_,_,_,.cons _ t=>by rw[bh,bh,t.length]
end
theorem mN.ref{F:Hp}:∀{ZE:List (List D)} {ws:List V} {ns:Zr} {p:Nat} {v:V},mN K F ZE ws ns->ws[p]? =aA v->∃b,v= .ref b
 |_,_,_,_,_,.nil,e=>by simp at e
 |_,_,_,0,_,.cons _ _,e=>by simp at e;exact⟨_,e.symm⟩
 |_,_,_,p+1,_,.cons _ t,e=>t.ref (p:=p) (by simpa using e)
end
section
variable{K:ad}
section
variable{Z:mF K}{H:Hp}{σ:L2.St}{E:Ends}
@[simp]def IG(fe:FE):FS:=λδ=>(fe δ).bind λp=>(frz p.1 p.2).bind λq=>some (.rt (.fz q.1))
theorem vp{fe:FE}(h:Z2 Z (IG fe) E σ H):IR (Zf Z fe) E σ H:=by obtain⟨F,δ,own,fl,s,e,k⟩:=h;obtain⟨⟨rv,δ1⟩,e1,e2⟩:=aa.mp e;obtain⟨⟨d,δ2⟩,e3,e4⟩:=aa.mp e2;cases e4;refine⟨F,δ,own,rv,δ1,s,e1,λv H1 F1 ZB sH sF s1 r1=>?_⟩;obtain⟨F2,ZH,s2,r2⟩:=s1.settleR r1;obtain⟨F3,ZI,ZT,s3,r3⟩:=s2.frzR r2 e3;exact k v H1 F3 [] (sF.trans (ZH.trans ZT)) s3.le s3.fro s3.old (.fz r3) cx λ_ h=>(nomatch h)
end
section
variable{X:Cx}{Z:mF X.K}{a b c:cw}{fa fb fc:FE}{pos:Pos}
theorem vo(h:PE X a (Zf Z fa)):PS X (.Return (aA a) pos) (Z2 Z (IG fa)):=(AY h).imp λ_ _ _ h=>vp h
end
end
section
variable{X:Cx}
def CI:R2:=λx y H Q=>∃a k,x= .str a/\y= .int k/\MulOk a k/\Q (.str (Txt.mul a k)) H
theorem sW:O9 X (binaryOp .Mult) CI:=by intro n_ s σ H x y v u Q I rx ry h;obtain⟨a,k,rfl,rfl,hm,q⟩:=h;obtain⟨t,rfl⟩:=rx;obtain⟨t',rfl⟩:=ry;exact SB.mul hm λt' k=>⟨.str _,H,I.tok _,⟨_,rfl⟩,q⟩
end
section
variable{K:ad}
@[simp]noncomputable def D.fv:D->V
 | .bl b=>.bl b
 | .int i=>.int i
 | .str x=>.str x
 |_=>.non
theorem CH{F H:Hp}{d:D}{x:V}(r:Yb K F H d x)(h:d.isFlat=aC):x=d.fv/\Wj x=aC:=by
 cases d with
 |non=>rw[r.non];exact⟨rfl,rfl⟩
 |bl b=>rw[r.bl];exact⟨rfl,rfl⟩
 |int i=>rw[r.int];exact⟨rfl,rfl⟩
 |str y=>rw[r.str];exact⟨rfl,rfl⟩
 |_=>cases h
theorem AA{F:Hp}:∀{ds:List D} {vs:List V},mD K F ds vs->ds.all D.isFlat=aC->vs=ds.map D.fv/\vs.all Wj=aC
 |_,_,.nil,_=>⟨rfl,rfl⟩
 |_,_,.cons h t,e=>by rw[List.all_cons,Bool.and_eq_true]at e;obtain⟨a1,a2⟩:=CH (H:=F) (Yb.of h) e.1;obtain⟨b1,b2⟩:=AA t e.2;refine⟨by rw[bm,<-a1,<-b1],by rw[List.all_cons,a2,b2];rfl⟩
def IF(y x:D):Bool:=Vi y.fv x.fv
@[simp]theorem nZ:IF .non .non=true:=rfl
@[simp]theorem nV(a:Str):IF (.str a) .non=false:=rfl
def IE(x:D)(xs:List D):Bool:=xs.any λy=>IF y x
theorem sV{d:D}{ds:List D}:inV d.fv (ds.map D.fv)=IE d ds:=by unfold inV IE;rw[List.any_map];rfl
noncomputable def D.seq?:D->Option (List D)
 | .lst xs=>aA xs
 | .tup xs=>aA xs
 |_=>aB
@[simp]theorem nU(xs:List D):D.seq? (.lst xs)=some xs:=rfl
@[simp]theorem nT(xs:List D):D.seq? (.tup xs)=some xs:=rfl
@[simp]theorem nR(x:Str):D.seq? (.str x)=none:=rfl
@[simp]theorem nP(ks:List Key)(vs:List D):D.seq? (.dK ks vs)=none:=rfl
@[simp]theorem nO(ks:List (List Key))(vs:List D):D.seq? (.dT ks vs)=none:=rfl
@[simp]def T8(d1 d2:D):Option SV:=match d2.seq? with
 |some xs=>if d1.isFlat=aC/\xs.all D.isFlat=aC then aA (.fz (.bl (!IE d1 xs)))else aB
 |none=>V2 d1 d2
section
variable{Z:mF K}{H:Hp}{σ:L2.St}{Q:VK}{E:Ends}
theorem vn{F:Hp}{d:D}{x:V}{xs:List D}(le:Zi F H)(r:Yb K F H d x)(h:d.seq? =aA xs):∃a vs,x= .ref a/\(J3 K H a vs\/Rl K H a vs)/\mD K F xs vs:=by
 cases d with
 |lst ys=>cases h;obtain⟨a,vs,e,q,rr⟩:=r.lst le;exact⟨a,vs,e,.inl q,rr⟩
 |tup ys=>cases h;obtain⟨a,vs,e,q,rr⟩:=r.tup le;exact⟨a,vs,e,.inr q,rr⟩
 |_=>cases h
theorem qO:Y6 Z (λx y H Q=>(((∃i j,x= .str i/\y= .str j/\Q (.bl (!(!(Builtin.Str.occurrences j i 0 j.length 1).isEmpty))) H)\/Gr x y H Q)\/V1 aC x y H Q)\/rIn K aC x y H Q) T8:=by
 intro F H σ δ own x y d1 d2 sv Q s r1 r2 e k;unfold T8 at e;split at e
 .rename_i xs hx;split at e
  .rename_i hf;cases e;obtain⟨a,vs,rfl,hq,rr⟩:=vn s.le r2 hx;obtain⟨e1,f1⟩:=CH r1 hf.1;obtain⟨e2,f2⟩:=AA rr hf.2;refine .inr ⟨a,vs,rfl,hq,f1,f2,?_⟩;rw[e1,e2,sV];exact k.fz s (.bl _)
  .cases e
 .exact .inl (qP F H σ δ own x y d1 d2 sv Q s r1 r2 e k)
open Classical in
noncomputable def MN(a:Str)(k:Int):Option SV:=if MulOk a k then aA (.fz (.str (Txt.mul a k)))else aB
theorem sU{a:Str}{k:Int}{sv:SV}(h:MN a k=aA sv):MulOk a k/\sv= .fz (.str (Txt.mul a k)):=by
 unfold MN at h;split at h
 .rename_i hm;cases h;exact⟨hm,rfl⟩
 .cases h
def Hq(i j:Int):Prop:=OD i j=aC
open Classical in
noncomputable def Pw(i j:Int):Option SV:=if Hq i j then aA (.fz (.int (i*j)))else aB
theorem tX{i j:Int}{sv:SV}(h:Pw i j=aA sv):DA (.int i) (.int j)=aA sv:=by
 unfold Pw at h;split at h
 .rename_i hc;cases h;unfold Hq at hc;simp[hc]
 .cases h
theorem vm{i j:Int}(h:-(2^64)<j/\j<2^64):Pw i j=aA (.fz (.int (i*j))):=by unfold Pw;rw[m6];unfold Hq OD;rw[m8 h.1,m8 h.2];simp
theorem Lr{i j:Int}(h:-(2^64)<i/\i<2^64):Pw i j=aA (.fz (.int (i*j))):=by unfold Pw;rw[m6];unfold Hq OD;rw[m8 h.1,m8 h.2];simp
def Ey:D->D->Option SV
 | .str a,.int k=>MN a k
 | .int i,.int j=>Pw i j
 |_,_=>aB
@[simp]theorem nN(a:Str)(k:Int):Ey (.str a) (.int k)=MN a k:=rfl
@[simp]theorem nM(i j:Int):Ey (.int i) (.int j)=Pw i j:=rfl
theorem vk:Y6 Z (λx y H Q=>rI OG (λi j=>V.int (i*j)) x y H Q\/CI x y H Q) Ey:=by
 intro F H σ δ own x y d1 d2 sv Q s r1 r2 e k;unfold Ey at e;split at e
 .obtain⟨hm,rfl⟩:=sU e;exact .inr ⟨_,_,r1.str,r2.int,hm,k.fz s (.str _)⟩
 .exact .inl (wZ F H σ δ own x y _ _ sv Q s r1 r2 (tX e) k)
 .cases e
end
section
variable{X:Cx}{Z:mF X.K}{a b c:cw}{fa fb fc:FE}{pos:Pos}
theorem Px(hu:X.A.units+1<fj)(ha:PE X a (Zf Z fa))(hb:PE X b (Zf Z fb))(hm:behindInMarks .NotIn b=aD:=by rfl):PT X (.Compare a [.NotIn] [b] pos) (Yh Z (Yf (Zj T8 fa fb))):=T3 (((K5.or (Ex hu)).or Lq).or Kz) qO ha hb hm
theorem T9(ha:PE X a (Zf Z fa))(hb:PE X b (Zf Z fb)):PE X (.BinOp a .Mult b pos) (Zf Z (Zj Ey fa fb)):=Fa (uU.or sW) vk ha hb
end
end
section
variable{K:ad}
end
section
variable{K:ad}
end
section
variable{K:ad}
section
variable{Z:mF K}
@[simp]def Hr:D->Option Int->Option Int->Option SV
 | .tup xs,lo,hi=>if¬(HT.sIx xs.length 0 lo=0/\HT.sIx xs.length xs.length hi=xs.length)then aA (.fz (.tup (IK xs lo hi)))else aB
 |_,_,_=>aB
theorem wB:CZ Z (DR K) Hr:=by
 intro F H σ δ own x d lo hi sv Q s r1 e k;unfold Hr at e;split at e
 .split at e
  .rename_i hw;cases e;obtain⟨a,vs,ex,ha,ra⟩:=r1.tup s.le;exact⟨a,vs,ex,ha,by rw[<-ra.length];exact hw,λp hp=>k.tup s (ra.cut _ _) hp⟩
  .cases e
 .cases e
end
section
variable{X:Cx}{Z:mF X.K}{a:cw}{fa:FE}{pos:Pos}
theorem HL{lo hi:Option cw}{fl fh:FO}{p2:Pos}(ha:PE X a (Zf Z fa))(hl:PO X lo (Mf Z fl))(hh:PO X hi (Mf Z fh)):PE X (.Subscript a (.Slice lo hi aB p2) pos) (Zf Z (slF Hr fa fl fh)):=
 (pB uO ha hl hh).imp λ_ _ _ h=>xK wB h
end
end
section
variable{K:ad}
inductive RX where
 |v (rv:RV) (δ:Ym)|x (e:Exn) (δ:Ym)
abbrev FX:=Ym->Option RX
@[simp]def FX.val(f:FX):FE:=λδ=>match f δ with
 |some (.v rv δ')=>aA (rv,δ')
 |_=>aB
section
variable{Z:mF K}{H:Hp}{σ:St}{Q:VK}{E:Ends}
set_option genInjectivity false in
structure HX where
 x:Str
 np:Pos
 nm:Option (Str×Nat)
 b0:Stmt
 suite:List Stmt
 pos:Pos
 B:aq
 yes:List Str
 no:List Str
 f:FS
set_option genInjectivity false in
structure HX.Sub(K:ad)(h:HX):Prop where
 yes:∀c∈h.yes,∀C,Pd K c C->PySem.W.mroIn K C (.ref h.B)=aA aC
 no:∀c∈h.no,∀C,Pd K c C->PySem.W.mroIn K C (.ref h.B)=aA aD
def HX.hd(Z:mF K)(h:HX):Hd:=⟨h.x,h.np,h.nm,h.b0,h.suite,h.pos,h.B,Z2 Z h.f⟩
set_option genInjectivity false in
structure HF where
 i:Option Nat
 yes:List Str
 no:List Str
 f:FS
@[simp]noncomputable def HX.hf(h:HX):HF:=⟨h.nm.map (·.2),h.yes,h.no,h.f⟩
@[simp]noncomputable def Fl.but(i:Nat):Fl->Fl
 | .nx δ=>.nx (δ.set i aB)
 | .bk δ=>.bk (δ.set i aB)
 | .ct δ=>.ct (δ.set i aB)
 | .ex e δ=>.ex e (δ.set i aB)
 | .rt sv=>.rt sv
@[simp]noncomputable def Fl.isEx:Fl->Bool
 | .ex _ _=>aC
 |_=>aD
@[simp]def HF.run(h:HF)(x:Exn)(δ:Ym):Option Fl:=match h.i with
 |none=>h.f δ
 |some i=>if i<δ.length then(h.f (δ.set i (aA (.fz (.exc x.c x.ks x.vs))))).bind λfl=>if fl.isEx=aC then aB else aA (fl.but i)else aB
abbrev mF.wish(Z:mF K)(EX:EXT):mF K:=⟨Z.h,Z.f,EX⟩
end
end
section
variable{X:Cx}{n_:List (aq×Obj)}{σ:L2.St}{H:Hp}{s:ao}
theorem mE.trackO{a:aq}{o:HO}(I:mE X n_ σ H s)(e0:X.s₀.heap.get? a=aB)(eH:H a=aB)(le:a≠X.env.locals)(ce:∀x c,X.env.cells.lookup x=aA c->c≠a)(pe:∀p∈X.pn++n_,p.1≠a)(new:Yc X.prog X.w (Yo H a o) s.heap a o):mE X n_ σ (Yo H a o) s:=by
 refine⟨I.ok,I.os,I.bare,⟨I.base.keep,I.base.slot,λb o q n hx=>?_,I.base.there,λb xs q=>?_,λb o u q=>?_,λb ps q=>?_⟩,I.loc,I.cell,?_,λx c ec=>?_,λp hp=>?_,λb u q=>?_,I.len⟩
 .rw[Zp (λz=>by rw[z,e0]at q;cases q)];exact I.base.free b o q n hx
 .have:=I.base.tups b xs q;rw[Zp (λz=>by rw[z,eH]at this;cases this)];exact this
 .have:=I.base.frzs b o u q;rw[Zp (λz=>by rw[z,eH]at this;cases this)];exact this
 .obtain⟨m,this⟩:=I.base.tbls b ps q;exact⟨m,by rw[Zp (λz=>by rw[z,eH]at this;cases this)];exact this⟩
 .rw[Zp (Ne.symm le)];exact I.free
 .rw[Zp (ce x c ec)];exact I.freeC x c ec
 .obtain⟨q,n,r⟩:=I.pin p hp;exact⟨q,by rw[Zp (pe p hp)];exact n,r⟩
 .by_cases hb:b=a
  .subst hb;rw[Z8]at q;cases q;exact new
  .rw[Zp hb]at q;exact(I.hok b u q).stay (λc v _ z=>z) (λc z=>by rw[Zp (λy=>by rw[y,eH]at z;cases z)];exact z) (λc xs z=>by rw[Zp (λy=>by rw[y,eH]at z;cases z)];exact z) λc o z=>by rw[Zp (λy=>by rw[y,eH]at z;cases z)];exact z
def B_(UA:List (TE×TE)):TE:=λσ H Q=>Vk UA σ H λps H2=>∃kvs:List (Key×V),ps=kvs.map (λkv=>(kV kv.1,kv.2))/\kvs.length<=15/\∀p ep,H2 p=aB->Q (.ref p) (Yo H2 p (.dK (Oa [] kvs) ep))
theorem qN{pos:Pos}{keys:List (Option cw)}{YL:List cw}{UA:List (TE×TE)}(h:PPs X pos keys YL UA)(hall:keys.all (·.isSome)=aC)(hl:keys.length=YL.length)(h0:keys≠[])
  (yq:keys.length<=15):PE X (.Dict keys YL pos) (B_ UA):=by
 intro n_ s σ H Q I q;have hn:=I.hok.fresh (bc s.heap.objs.size);have I0:=I.kept (h':=s.heap.push {cls:=.type "dict",data:=.dict #[]}) (t':=s.toks) (λ_ _ q=>ar _ q);have U_:(s.heap.push {cls:=.type "dict",data:=.dict #[]}).get? s.heap.objs.size=aA {cls:=.type "dict",data:=.dict #[]}:=bo _ rfl;have old:∀b o,s.heap.get? b=aA o->b≠s.heap.objs.size:=λb o z=>cm (bp z);have apart:∀p∈X.pn++n_,p.1≠s.heap.objs.size:=λp hp=>old _ _ (I.pin p hp).1;have QV:s.heap.objs.size≠X.env.locals:=λz=>gz _ (de (z▸I.lt) (bc _));have JK:∀x c,X.env.cells.lookup x=aA c->c≠s.heap.objs.size:=λx c ec=>by obtain⟨v,o,ho,_⟩:=I.cell x c ec;exact old _ _ ho
 have VU:X.s₀.heap.get? s.heap.objs.size=aB:=Heap.get?_none_of_le I.sz;have I1:=I0.pins_of (pins':=(s.heap.objs.size,{cls:=.type "dict",data:=.dict #[]})::n_) λp hp=>by
  rcases ay.mp hp with z|z
  .subst z;exact⟨U_,hn,QV,I.nofs (bc _),λv z=>nomatch z⟩
  .exact I0.pin p (bx _ z)
 refine wpAny_Dict_walk (knd:=Zq X.prog X.w) hall hl h0 yq (Wl (h _ _ σ _ _ I1 q) λws s2 ZG=>?_);obtain⟨ps,H2,I2,ZP,kvs,ep,lk,q2⟩:=ZG;subst ep;obtain⟨rs,c,rk⟩:=Tt (P:=X.prog) (w:=X.w) ZP;obtain⟨p1,p2,p3,p4,p5⟩:=I2.pin (s.heap.objs.size,{cls:=.type "dict",data:=.dict #[]}) (bx _ ac);have LN:Yc X.prog X.w (Yo H2 s.heap.objs.size (.dK [] 0)) s2.heap s.heap.objs.size (.dK [] 0):=(show Yc X.prog X.w (λ_=>aB) _ _ (.dK [] 0)from Pa s.heap I.big).stay (λb u hb z=>by
  rcases hb with rfl|hb
  .rw[U_]at z;cases z;exact p1
  .cases hb) (λ_ z=>nomatch z) (λ_ _ z=>nomatch z) λ_ _ z=>nomatch z
 have I3:mE X n_ σ (Yo H2 s.heap.objs.size (.dK [] 0)) s2:=mE.trackO (I2.pins_of (pins':=n_) λp hp=>I2.pin p (bx _ (am _ hp))) VU p2 QV JK apart LN;obtain⟨z,hd,UR,r0,dd⟩:=BD I3.hok ⟨_,(show Yo H2 s.heap.objs.size (.dK [] 0) s.heap.objs.size=aA (.dK [] 0)from Z8)⟩;cases r0;refine⟨rs,c,dd,λh' UO hs=>?_⟩;have hz:(Oa [] kvs).length<=sizeLine:=by have h1:=Co kvs [];rw[List.length_nil]at h1;rw[d7];omega
 have he:∃q,h'.get? s.heap.objs.size=aA q:=let⟨q,_,_,hq,_⟩:=UO;⟨q,hq⟩
 obtain⟨ep,ok⟩:=AM hz hd (rk.merge .nil) UO;have I4:L2.mE X n_ σ (Yo (Yo H2 s.heap.objs.size (.dK [] 0)) s.heap.objs.size (.dK (Oa [] kvs) ep)) {s2 with heap:=h',toks:=s2.toks+ws.length}:=Mx I3 (by rw[Z8];exact True.intro) hs he (ok _);rw[rF]at I4;exact⟨.ref s.heap.objs.size,_,I4,rfl,q2 _ ep p2⟩
end
section
variable{K:ad}{Z:mF K}{σ:L2.St}{H:Hp}{Q:VK}
theorem V3{f:FE}{Q':VK}(m:∀v H,Q v H->Q' v H)(h:Zf Z f σ H Q):Zf Z f σ H Q':=by obtain⟨F,δ,own,rv,δ',s,e,k⟩:=h;exact⟨F,δ,own,rv,δ',s,e,λv H' F' own' a b c d=>m _ _ (k v H' F' own' a b c d)⟩
theorem Fc:∀(more acc:List (Key×V)),((acc++more).map (·.1)).Nodup->Oa acc more=acc++more
 | [],acc,_=>by show acc=acc++[];rw[gq]
 |p::r,acc,h=>by
  have e:Qd acc p.1 p.2=acc++[p]:=by unfold Qd;rw[m4];intro z;obtain⟨q,hq,z⟩:=List.any_eq_true.mp z;rw[ci,dn]at h;exact h.2.2 p.1 (ax.mpr ⟨q,hq,m9 z⟩) p.1 (by simp) rfl
  show Oa (Qd acc p.1 p.2) r=_;rw[e,Fc r (acc++[p]) (by simpa using h)];simp
end
@[simp]def Ru(ss:List Str)(fd:FD):FD:=λδ=>(fd δ).bind λp=>some (ss.map D.str++p.1,p.2)
theorem tW{K:ad}{Z:mF K}{σ:L2.St}{H:Hp}{fd:FD}:∀(ss:List Str) {R:List V->Hp->Prop},Y3 Z (Ru ss fd) σ H R->Y3 Z fd σ H λvs H'=>R (ss.map V.str++vs) H'
 |ss,R,h=>by obtain⟨F,δ,own,ds,δ',s,e,k⟩:=h;obtain⟨⟨ds1,δ1⟩,e1,e2⟩:=aa.mp e;cases e2;refine⟨F,δ,own,ds1,δ1,s,e1,λvs H' F' own' a b c r=>k _ H' F' own' a b c ?_⟩;exact mD.append (strs_rep ss) r
where strs_rep {F:Hp}:∀ss:List Str,mD K F (ss.map D.str) (ss.map V.str)
 | []=>.nil
 |x::r=>.cons (.str x) (strs_rep r)
section
variable{X:Cx}{Z:mF X.K}{pos:Pos}
noncomputable abbrev cst(x:Str×Nat×Pos):Expr:=.Constant (.str x.1) x.2.1 x.2.2
theorem Py{es:List cw}{t:TA}(h:PA X es t):∀l:List (Str×Nat×Pos),PA X (l.map cst++es) λσ H R=>t σ H λvs H'=>R ((l.map λx=>V.str x.1)++vs) H'
 | []=>h
 |x::r=>(W5 (e:=cst x) (es:=r.map cst++es) Kr (Py h r) rfl).imp λσ H R q=>q
theorem M3{es:List cw}{fd:FD}(l:List (Str×Nat×Pos))(h:PA X es (Y3 Z fd)):PA X (l.map cst++es) (Y3 Z (Ru (l.map (·.1)) fd)):=
 (Py h l).imp λσ H R q=>by have:=tW (l.map (·.1)) q;rw[cu]at this;exact this
end
section
variable{α:Type}{P:List α->Prop}
@[elab_as_elim]theorem of1(h:∀a,P [a])(us:List α)(hl:us.length=1):P us:=by obtain⟨a,e⟩:=List.length_eq_one_iff.mp hl;rw[e];exact h a
theorem ofC{n:Nat}(h:∀a (us:List α),us.length=n->P (a::us))(us:List α)(hl:us.length=n+1):P us:=by
 cases us with
 |nil=>exact m_ hl (by simp)
 |cons a r=>exact h a r (by simpa using hl)
@[elab_as_elim]theorem of2(h:∀a b,P [a,b])(us:List α)(hl:us.length=2):P us:=ofC (λa=>of1 (P:=λus=>P (a::us)) (h a)) us hl
@[elab_as_elim]theorem of3(h:∀a b c,P [a,b,c])(us:List α)(hl:us.length=3):P us:=ofC (λa=>of2 (P:=λus=>P (a::us)) (h a)) us hl
@[elab_as_elim]theorem of4(h:∀a b c d,P [a,b,c,d])(us:List α)(hl:us.length=4):P us:=ofC (λa=>of3 (P:=λus=>P (a::us)) (h a)) us hl
@[elab_as_elim]theorem of5(h:∀a b c d e,P [a,b,c,d,e])(us:List α)(hl:us.length=5):P us:=ofC (λa=>of4 (P:=λus=>P (a::us)) (h a)) us hl
end
section
variable{prog:cg}{w:c8}{A:dh}{E:aj->ao->Prop}{s:ao}{q d:aq}{i n ep:Nat}{od:Obj}{es:Array DictEntry}
theorem Pz{Q:aj->ao->Prop}(hs:(d==sysModules)=aD)(g:s.heap.get? d=aA od)(x:od.ExactDict)(c:od.data= .dict es ep)
  (k:Q (.ref s.heap.objs.size) {s with heap:=s.heap.push {cls:=.type "dict_keyiterator",data:=.fields #[.ref d,.int 0 0,.int es.size 0,.int ep 0]}}):bj (cf prog w) A (pyIter (.ref d)) Q E s:=by
 have T:s.TypeIs (.ref d) "dict":=⟨od,g,x.1⟩
 refine wpAny_pyIter_slot T PySem.F.slot_dict_iter (dq PySem.F.slot_dict_iter T PySem.F.entry_dict_iter (show bj _ _ (Builtin.«dict.__iter__» _) _ _ _ from ?_) (PySem.F.args_dict_iter_1 _));unfold Builtin.«dict.__iter__» Builtin.Dict.dictSlotNone;refine ab (ab (wpAny_notOrdered_dict T (show bj _ _ (pure (b8 d)) _ _ s from af ?_)));show bj _ _ (Builtin.Dict.showsAll d >>=_) _ _ s;unfold Builtin.Dict.showsAll;rw[m4 (by rw[hs];decide)];refine ab (af (ab (wpAny_dictEntries g c (ab (wpAny_dictEpoch g c (ab (di (af ⟨_,rfl,"dict_keyiterator",_,⟨_,bo _ rfl,rfl⟩,gk.lookup,?_⟩))))))));simpa[rawInt]using k
theorem Aa{e:DictEntry}{Q:Option aj->ao->Prop}(t:s.heap.IsKeyIter q d i n ep)(g:s.heap.get? d=aA od)(c:od.data= .dict es ep)(hn:es.size=n)(he:es[i]? =aA e)
  (k:∀h',h'.IsKeyIter q d (i+1) n ep->gm q s.heap h'->Q (aA e.key) {s with heap:=h'}):bj (cf prog w) A (pyNext (.ref q)) Q E s:=by
 obtain⟨o,ho,hc,hd⟩:=id t;have T:=t.typeIs;unfold pyNext;refine ab (wpAny_attempt (fg (name:="__next__") T gk (dq gk T PySem.F.entry_dict_keyiterator_next (ab (af (ab (ab ?_)))) (PySem.F.args_dict_keyiterator_next_1 _))))
 first| (refine ab (wpAny_typeNameOfWhole_keyiter T (af (ab (wpAny_fieldsOf ho hd ?_)))))| (refine ab (wpAny_typeNameOf_keyiter T (af (ab (wpAny_fieldsOf ho hd ?_)))))
 have z0:Builtin.Dict_items.ownsTuple "dict_keyiterator"=aD:=rfl;rw[z0];simp only[bu,if_false];show bj _ _ (ite ((b8 d==cn)=aC) _ _) _ _ s;rw[m4 (show¬(b8 d==cn)=aC from λz=>bq z)];refine ab (af (ab (wpAny_dictEntries g c ?_)));rw[m4 (by rw[hn];simp)];refine ab (af (ab (wpAny_dictEpoch g c ?_)));rw[m4 (by simp)];have hi:i<es.size:=(gd.mp he).1;refine af ?_;simp only[show¬((i:Int)<0) by omega,if_false,Int.toNat_natCast,he];refine ab ?_
 first| (refine ab (wpAny_typeNameOfWhole_keyiter T (af (ab (wpAny_isOneOf_keyiter T ?_)))))| (refine ab (wpAny_typeNameOf_keyiter T (af (ab (wpAny_isOneOf_keyiter T ?_)))))
 show bj _ _ (setField (.ref q) 1 (rawInt ((i:Int)+1)) >>=_) _ _ s;refine ab (wpAny_setField ho hd (by simp) ?_);have t':(s.heap.update q (Obj.mapFields (·.setIfInBounds 1 (rawInt ((i:Int)+1))))).IsKeyIter q d (i+1) n ep:=⟨_,Heap.get?_update_self _ ho (Obj.isFreed_of_fields (Obj.data_mapFields hd _)),(Obj.cls_mapFields ..).trans hc,(Obj.data_mapFields hd _).trans (by simp[rawInt])⟩
 refine ab (wpAny_holding (ab (wpAny_isOneOf_keyiter (s:={s with heap:=s.heap.update q (Obj.mapFields (·.setIfInBounds 1 (rawInt ((i:Int)+1))))}) t'.typeIs (show bj _ _ (pure e.key) _ _ _ from af (af ⟨_,rfl,af (k _ t' (Heap.SameBut.update ..))⟩)))))
theorem Ab{Q:Option aj->ao->Prop}(hh:A.handled=aB)(t:s.heap.IsKeyIter q d i n ep)(g:s.heap.get? d=aA od)(c:od.data= .dict es ep)(hn:es.size=n)(hi:n<=i)
  (k:∀h',Heap.ExtBut q s.heap h'->Q aB {s with heap:=h'}):bj (cf prog w) A (pyNext (.ref q)) Q E s:=by
 obtain⟨o,ho,hc,hd⟩:=id t;have T:=t.typeIs;unfold pyNext;refine ab (wpAny_attempt (fg (name:="__next__") T gk (dq gk T PySem.F.entry_dict_keyiterator_next (ab (af (ab (ab ?_)))) (PySem.F.args_dict_keyiterator_next_1 _))))
 first| (refine ab (wpAny_typeNameOfWhole_keyiter T (af (ab (wpAny_fieldsOf ho hd ?_)))))| (refine ab (wpAny_typeNameOf_keyiter T (af (ab (wpAny_fieldsOf ho hd ?_)))))
 have z0:Builtin.Dict_items.ownsTuple "dict_keyiterator"=aD:=rfl;rw[z0];simp only[bu,if_false];show bj _ _ (ite ((b8 d==cn)=aC) _ _) _ _ s;rw[m4 (show¬(b8 d==cn)=aC from λz=>bq z)];refine ab (af (ab (wpAny_dictEntries g c ?_)));rw[m4 (by rw[hn];simp)];refine ab (af (ab (wpAny_dictEpoch g c ?_)));rw[m4 (by simp)];have he:es[i]? =aB:=Array.getElem?_eq_none (by omega);refine af ?_;simp only[show¬((i:Int)<0) by omega,if_false,Int.toNat_natCast,he];refine ab ?_
 first| (refine ab (wpAny_typeNameOfWhole_keyiter T (af ?_)))| (refine ab (wpAny_typeNameOf_keyiter T (af ?_)))
 show bj _ _ (setField (.ref q) 0 cn >>=_) _ _ s;refine ab (wpAny_setField ho hd (by simp) (show bj _ _ (newExc (.type "StopIteration") [] >>=_) _ _ _ from ab ?_));simp only[newExc,newTuple];refine ab (di (ab (m:=firstArgMember _ _) (wpAny_of_eq (a:=cn) (by first|rfl| (simp only[firstArgMember];rfl)) (di ?_ (by size_fits)))) (by size_fits));simp only[raiseNew];refine ab (wpAny_handled ?_);rw[show A.in1.handled=Option.none from hh];refine ab (af (wpAny_throw ?_));refine ab (wpAny_isInstance (T:="StopIteration") (b:=aC) (by exact⟨_,bo _ rfl,rfl⟩) isSubtype_stop ?_);exact af (k _ (((Heap.SameBut.update ..).extBut.push _).push _))
theorem Hs{P:cg}{w:c8}{k:Key}{u:aj}(h:(Zq P w).is k u=aC):Zy (kV k) u:=by
 rcases Z7 h with⟨i,t,rfl,rfl⟩|⟨x,t,rfl,rfl⟩
 .exact⟨t,rfl⟩
 .exact⟨t,rfl⟩
end
def Itk(a:aq)(n ep:Nat):It:=
 ⟨λi H=>∃kvs,H a=aA (.dK kvs ep)/\kvs.length=n/\i<n,λi H x H'=>H'=H/\∃kvs kv,H a=aA (.dK kvs ep)/\kvs[i]? =aA kv/\x=kV kv.1,λi H=>∃kvs,H a=aA (.dK kvs ep)/\kvs.length=n/\n<=i⟩
theorem Gs{q d:aq}{i n ep:Nat}{h h':d6}(t:h.IsKeyIter q d i n ep)(k:∀o,h.get? q=aA o->h'.get? q=aA o):h'.IsKeyIter q d i n ep:=let⟨o,e,r⟩:=t;⟨o,k o e,r⟩
theorem qM{P:cg}{w:c8}{es:List DictEntry}{vs:List (Key×aj)}(h:Pairs (Zq P w) es vs){i:Nat}{kv:Key×aj}(hi:vs[i]? =aA kv):∃e,es[i]? =aA e/\(Zq P w).is kv.1 e.key=aC:=by
 induction h generalizing i with
 |nil=>simp at hi
 | @cons e0 kv0 es0 LW h1 h2 _ ih=>
  cases i with
  |zero=>simp at hi;subst hi;exact⟨e0,by simp,h1⟩
  |succ j=>obtain⟨e,a1,a2⟩:=ih (i:=j) (by simpa using hi);exact⟨e,by simpa using a1,a2⟩
theorem Fd{P:cg}{w:c8}{es:List DictEntry}{vs:List (Key×aj)}(h:Pairs (Zq P w) es vs):es.length=vs.length:=by
 induction h with
 |nil=>rfl
 |cons _ _ _ ih=>rw[bh,bh,ih]
theorem B9{α β:Type}{R:α->β->Prop}{l:List α}{m:List β}(h:Paired R l m):∀{i:Nat} {x:α},l[i]? =aA x->∃y,m[i]? =aA y/\R x y:=by
 induction h with
 |nil=>intro i x hi;simp at hi
 | @cons a b as bs h1 t ih=>
  intro i x hi;cases i with
  |zero=>simp at hi;subst hi;exact⟨b,by simp,h1⟩
  |succ j=>obtain⟨y,a1,a2⟩:=ih (i:=j) (by simpa using hi);exact⟨y,by simpa using a1,a2⟩
theorem Ls{P:cg}{w:c8}{K:ad}{tg:cw}(a it:aq)(n ep:Nat):Turn P w K tg (Itk a n ep) [it] it (λi h=>h.IsKeyIter it a i n ep)where
 mem:=ac
 obj:=λi h st b hb=>by obtain rfl:=ak.mp hb;obtain⟨o,e,c,d⟩:=st;exact⟨o,e,λv z=>by rw[d]at z;cases z⟩
 keep:=λi h h' st k=>Gs st λo e=>k it ac o e
 item:=by
  intro X hP hw hK hc i n_ s σ H E I hf st hg;subst hP hw hK;obtain⟨kvs,hq,hn,hi⟩:=hg;obtain⟨z,hd,vs,ZP,od,es,g,x,c,ko,pr,nd⟩:=(show Yc X.prog X.w H s.heap a (.dK kvs ep)from I.hok a _ hq)
  obtain⟨f0,f1,f2,f3,f4,f5⟩:=hf it ac;have RE:kvs[i]? =aA (kvs[i]'(by omega)):=au (by omega);obtain⟨vv,hv,hr⟩:=B9 ZP RE;obtain⟨e,he,JA⟩:=qM pr hv;have hz:es.size=n:=by rw[<-bf,Fd pr,<-Paired.length ZP,hn]
  refine Aa st g c hz (e:=e) (by rw[<-c7];exact he) λh' YM sb=>?_;have I1:mE X n_ σ H {s with heap:=h'}:=I.turned (t':=s.toks) (λb o hb e=>(sb.2 b hb).trans e) f0 f1 f3 f4 f5;obtain⟨o,e1,c1,d1⟩:=id YM;exact⟨e.key,rfl,Ii (s:={s with heap:=h'}) e1 c1 d1 (by decide) ⟨kV (kvs[i]'(by omega)).1,H,I1,Hs (by rw[hr.1];exact JA),⟨rfl,kvs,_,hq,RE,rfl⟩,YM,λb hb=>(hf b hb).1⟩⟩
 done:=by
  intro X hP hw hK hc i n_ s σ H E I hf st hg;subst hP hw hK;obtain⟨kvs,hq,hn,hi⟩:=hg;obtain⟨z,hd,vs,ZP,od,es,g,x,c,ko,pr,nd⟩:=(show Yc X.prog X.w H s.heap a (.dK kvs ep)from I.hok a _ hq)
  obtain⟨f0,f1,f2,f3,f4,f5⟩:=hf it ac;have hz:es.size=n:=by rw[<-bf,Fd pr,<-Paired.length ZP,hn]
  exact Ab (I.ok.hd hc) st g c hz hi λh' eb=>⟨rfl,I.turned (t':=s.toks) (λb o hb e=>eb b o hb e) f0 f1 f3 f4 f5⟩
 self:=λ_ _ s _ _ st h=>by exact wpAny_pyIter_slot st.typeIs PySem.F.slot_dict_keyiterator_iter (dq PySem.F.slot_dict_keyiterator_iter st.typeIs PySem.F.entry_dict_keyiterator_iter (by exact af ⟨_,rfl,"dict_keyiterator",_,st.typeIs,gk.lookup,h⟩) (PySem.F.args_dict_keyiterator_iter_1 _))
section
variable{K:ad}
@[simp]def P0:Key->D
 | .inl i=>.int i
 | .inr x=>.str x
theorem qL{F:Hp}(k:Key):mI K F (P0 k) (kV k):=by
 cases k with
 |inl i=>exact .int i
 |inr x=>exact .str x
theorem Rv{F:Hp}:∀k:List Key,mD K F (k.map P0) (k.map kV)
 | []=>.nil
 |k::r=>.cons (qL k) (Rv r)
end
section
variable{K:ad}
end
section
variable{K:ad}
end
section
variable{K:ad}
theorem SR.drop{Z:mF K}{F H:Hp}{σ:L2.St}{δ:Ym}{own:Nat->Zr}(i:Nat)(s:SR Z F H σ δ own):SR Z F H σ (δ.set i aB) (put own i []):=by
 refine⟨s.le,s.fro,s.old,by rw[gp];exact s.len,λj sv e=>?_,λj=>?_,λj p hp=>?_,λj k p q WD hp hq=>?_⟩
 .by_cases hj:j=i
  .subst hj;rw[List.getElem?_set]at e;rw[m6 rfl]at e;split at e
   .cases e
   .cases e
  .rw[cz (Ne.symm hj)]at e;rw[Ye hj];exact s.at' j sv e
 .by_cases hj:j=i
  .subst hj;rw[Z6];exact cx
  .rw[Ye hj];exact s.nod j
 .by_cases hj:j=i
  .subst hj;rw[Z6]at hp;exact nomatch hp
  .rw[Ye hj]at hp;exact s.ok j p hp
 .by_cases hj:j=i
  .subst hj;rw[Z6]at hp;exact nomatch hp
  .by_cases hk:k=i
   .subst hk;rw[Z6]at hq;exact nomatch hq
   .rw[Ye hj]at hp;rw[Ye hk]at hq;exact s.sep j k p q WD hp hq
end
section
variable{X:Cx}{Z:mF X.K}{a b c:cw}{fa fb fc:FE}{pos:Pos}
theorem Ac(i:Nat){x:Str}{pos:Pos}(hN:X.N[i]? =aA x:=by rfl)(hv:X3 X.env.scope x:=by first|exact Or.inl rfl|exact gv (Or.inl rfl)|exact gv (gv rfl))(hd:(x==("__debug__":Str))=aD:=by decide)
  (YD:(x==("__classdict__":Str))=aD:=by decide):PE X (.Name x pos) (Uo i):=Up hN hv hd YD
end
section
variable{K:ad}
end
section
variable{K:ad}
theorem P3:∀{xs ys:List Str},xs.map V.str=ys.map V.str->xs=ys
 | [],[],_=>rfl
 | [],_::_,h=>by simp at h
 |_::_,[],h=>by simp at h
 |x::xs,y::ys,h=>by simp only[bm,List.cons.injEq]at h;obtain⟨h1,h2⟩:=h;cases h1;rw[P3 h2]
end
section
variable{K:ad}
end
section
variable{K:ad}
end
section
variable{K:ad}
end
section
variable{K:ad}
end
section
variable{X:Cx}
theorem P4:∀{xs:List V} {mC:List aj},xs.length=mC.length->(∀(j:Nat) (x:V) (v:aj),xs[j]? =aA x->mC[j]? =aA v->Zy x v)->Z1 xs mC
 | [],[],_,_=>.nil
 |x::xs,v::mC,h,g=>.cons (g 0 x v rfl rfl) (P4 (by simpa using h) λj x v a b=>g (j+1) x v (by simpa using a) (by simpa using b))
 | [],_::_,h,_=>nomatch h
 |_::_,[],h,_=>nomatch h
def Bn:List V->Hp->VK->Prop:=λxs H Q=>∃p kvs,xs=[.ref p]/\RdK H p kvs/\∀l,H l=aB->Q (.ref l) (Yo H l (.lst (kvs.map λkv=>kV kv.1)))
theorem Ad(hc:X.calm=aC):Je X (.type "list") Bn:=by
 intro n_ s σ H xs us Q I r h;obtain⟨p,kvs,rfl,⟨ep,e⟩,q⟩:=h;obtain⟨u,rfl,rx⟩:=Oy r;cases rx;obtain⟨z,hd,vs,ZP,dd⟩:=(show Yc X.prog X.w H s.heap p (.dK kvs ep)from GC I.hok e)
 have hl:vs.length=kvs.length:=(Paired.length ZP).symm;refine PySem.W.kdl_call (PySem.W.kdl_dict (knd:=Zq X.prog X.w) (kvs:=vs) (ep:=ep) hd) (I.ok.hd hc) dd (by rw[hl];exact z) λh' tk ZK c' hk hD YS=>?_;have hv:Z1 (kvs.map λkv=>kV kv.1) ZK.toList:=by refine P4 ((ah _).trans (hl.symm.trans (YS.1.symm.trans (bf).symm))) λj x v hx hv=>?_;obtain⟨k,y,e1,e2⟩:=YS.2 j v (by rw[<-c7];exact hv);rw[bg]at hx;obtain⟨kv,e3,e4⟩:=cq.mp hx;obtain⟨q',e5,e6,_⟩:=B9 ZP e3;rw[e5]at e1;cases e1;rw[<-e4,e6];exact Hs e2
 exact⟨.ref s.heap.objs.size,_,I.laid (t':=tk) hk (bc _) (show Yc X.prog X.w _ h' _ (.lst (kvs.map λkv=>kV kv.1))from⟨by rw[ah];exact z,ZK.toList,c',hv,by simpa using hD⟩),rfl,q _ (I.hok.fresh (bc _))⟩
end
section
variable{K:ad}
def P5:List D->Option SV
 | [.dK ks _]=>aA (.ol (ks.map P0))
 |_=>aB
@[simp]theorem nY(ks:List Key)(vs:List D):P5 [.dK ks vs]=some (.ol (ks.map P0)):=rfl
section
variable{Z:mF K}{H:Hp}{σ:L2.St}{Q:VK}{E:Ends}
theorem uH:Bc Z Bn P5:=by
 intro F H σ δ own vs ds sv Q s r e k;unfold P5 at e;split at e
 .cases e;cases r with
  |cons h t=>
   cases t;obtain⟨a,kvs,rfl,ha,ek,rr⟩:=h.dK s.le;refine⟨a,kvs,rfl,ha.rd,λl hl=>?_⟩;rw[<-ek]at k;have hr:=Rv (K:=K) (F:=F) (kvs.map (·.1));have hr:mD K F ((kvs.map (·.1)).map P0) (kvs.map λkv=>kV kv.1):=by rw[cu (g:=kV)]at hr;exact hr
   exact k.one s (.ol hr) hl
 .cases e
end
section
variable{X:Cx}{Z:mF X.K}{a b c:cw}{fa fb fc:FE}{pos:Pos}
theorem uG{p:Pos}(hc:X.calm=aC)(hm:X.mg "list"=aB)(ha:PE X a (Zf Z fa))(hg:Gl X "list":=by rfl)(he:az [a] X.env=(aD,gg a X.env)::az [] X.env:=by rfl)(ZO:(gb pos (az [] X.env)).any (·.1)=aD:=by rfl):PE X (.Call (.Name "list" p) [a] [] pos) (Zf Z (Yi P5 (Ze fa Zo))):=
 Hf (Ad hc) uH hm boot_list (Zt ha Ys he) hg (by decide) (by decide) he ZO
end
end
section
variable{K:ad}
end
section
variable{K:ad}
end
section
variable{K:ad}
end
section
variable{K:ad}
end
section
variable{K:ad}
end
section
variable{K:ad}
open Classical in
def res(S:aq->Prop)(F:Hp):Hp:=λb=>if S b then F b else aB
def Mh(Z:mF K)(F:Hp)(own:Nat->Zr)(W:aq->Prop):Prop:=∀b,W b->F b=aB/\Z.h b=aB/\∀i p,p∈own i->p.1≠b
section
variable{Z:mF K}{F H:Hp}{σ:L2.St}{δ:Ym}{own:Nat->Zr}{W:aq->Prop}
theorem SR.updW{b:aq}{o:HO}(s:SR Z F H σ δ own)(ap:Mh Z F own W)(hb:W b):SR Z F (Yo H b o) σ δ own:=by
 obtain⟨f0,z0,o0⟩:=ap b hb;refine⟨λc u e=>?_,s.fro,λc u e=>?_,s.len,s.at',s.nod,λi p hp=>?_,s.sep⟩
 .rw[Zp λz=>by rw[z,f0]at e;cases e];exact s.le c u e
 .rw[Zp λz=>by rw[z,z0]at e;cases e];exact s.old c u e
 .obtain⟨x,y,w⟩:=s.ok i p hp;exact⟨x,y,by rw[Zp (o0 i p hp)];exact w⟩
open Classical in
def wH(W:aq->Prop)(H F:Hp):Hp:=λb=>if W b then H b else F b
theorem tV(le:Zi F H):Zi F (wH W H F):=λb o e=>by
 unfold wH;split
 .exact le b o e
 .exact e
theorem wA(le:Zi F H):Zi (wH W H F) H:=λb o e=>by
 unfold wH at e;split at e
 .exact e
 .exact le b o e
theorem x_{b:aq}(h:W b):wH W H F b=H b:=m6 h
theorem V4{b:aq}(h:¬W b):wH W H F b=F b:=m4 h
theorem SR.seeW(s:SR Z F H σ δ own)(ap:Mh Z F own W):SR Z (wH W H F) H σ δ own:=by
 refine⟨wA s.le,λb o e=>?_,s.old,s.len,λi sv e=>?_,s.nod,λi p hp=>?_,s.sep⟩
 .by_cases hb:W b
  .exact .inr (ap b hb).2.1
  .rw[V4 hb]at e;exact s.fro b o e
 .obtain⟨v,h1,h2⟩:=s.at' i sv e;exact⟨v,h1,h2.mono (tV s.le)⟩
 .obtain⟨x,y,w⟩:=s.ok i p hp;refine⟨?_,y,w⟩;rw[V4 λz=>(ap _ z).2.2 i p hp rfl];exact x
theorem SR.blank(i:Nat)(o:Option V)(s:SR Z F H σ δ own):SR Z F H (σ.set i o) (δ.set i aB) (put own i []):=by
 have d:=s.drop i;refine⟨d.le,d.fro,d.old,by rw[gp];exact d.len,λj sv e=>?_,d.nod,d.ok,d.sep⟩;by_cases hj:j=i
 .subst hj;rw[List.getElem?_set,m6 rfl]at e;split at e<;> cases e
 .rw[cz (Ne.symm hj)];exact d.at' j sv e
theorem Mh.drop{i:Nat}(ap:Mh Z F own W):Mh Z F (put own i []) W:=λb hb=>by
 obtain⟨x,y,z⟩:=ap b hb;refine⟨x,y,λj p hp=>?_⟩;by_cases hj:j=i
 .subst hj;rw[Z6]at hp;exact nomatch hp
 .rw[Ye hj]at hp;exact z j p hp
theorem SR.look{i:Nat}{d:D}{v:V}(s:SR Z F H σ δ own)(ap:Mh Z F own W)(hv:σ[i]? =aA (aA v))(r:mI K (wH W H F) d v):SR Z (wH W H F) H σ (δ.set i (aA (.fz d))) (put own i []):=by
 have t:=(s.drop i).seeW (W:=W) ap.drop;have hi:i<σ.length:=(aw.mp hv).1;have q:=t.store (i:=i) (mR.fz r) hi;have e1:σ.set i (aA v)=σ:=by
  apply List.ext_getElem?;intro j;by_cases hj:i=j
  .subst hj;rw[c9 hi,hv]
  .rw[cz hj]
 rw[e1,List.set_set]at q;have e2:put (put own i []) i []=put own i []:=by funext j;unfold put;split<;> rfl
 rw[e2]at q;exact q
end
section
variable{X:Cx}{Z:mF X.K}{a b c:cw}{fa fb fc:FE}{pos:Pos}
theorem xW{T:FT}{bd:List Stmt}{f:FS}(hc:PT X c (Yh Z T))(hb:Gd X bd (Z2 Z f)):PS X (.If c bd [] pos) (OH (Yh Z T) (Z2 Z f) Ih):=CV hc hb X4
end
end
def Bh(l:List Nat):Prop:=l.Pairwise (· < ·)
def At(xs:Array Nat)(j p:Nat):Prop:=p<=xs.size/\(∀i y,i<p->xs[i]? =aA y->y<j)/\∀i y,p<=i->xs[i]? =aA y->j<=y
theorem Og{xs:Array Nat}(h:Bh xs.toList){i k y z:Nat}(hi:xs[i]? =aA y)(hk:xs[k]? =aA z)(yU:i<k):y<z:=by rw[<-c7]at hi hk;obtain⟨a,ha⟩:=aw.mp hi;obtain⟨b,hb⟩:=aw.mp hk;have:=List.pairwise_iff_getElem.mp h i k a b yU;rw[ha,hb]at this;exact this
theorem HJ{xs:Array Nat}{j:Nat}(h:Bh xs.toList):∀(fuel lo hi:Nat),hi<=lo+fuel->lo<=hi->hi<=xs.size->(∀i y,i<lo->xs[i]? =aA y->y<j)->(∀i y,hi<=i->xs[i]? =aA y->j<=y)->At xs j (SetTable.below.go xs j fuel lo hi)
 |0,lo,hi,h1,h2,h3,a,b=>by
  have:lo=hi:=by omega
  subst this;unfold SetTable.below.go;exact⟨h3,a,b⟩
 |fuel+1,lo,hi,h1,h2,h3,a,b=>by
  unfold SetTable.below.go;by_cases hl:lo<hi
  .rw[m6 hl];dsimp only;have hm:(lo+hi) / 2<xs.size:=by omega
   have hg:xs.getD ((lo+hi) / 2) j=xs[(lo+hi) / 2]:=by simp[Array.getD,hm]
   have he:xs[(lo+hi) / 2]? =aA xs[(lo+hi) / 2]:=by simp[hm]
   by_cases hc:xs.getD ((lo+hi) / 2) j<j
   .rw[m6 hc];refine HJ h fuel _ hi (by omega) (by omega) h3 (λi y VY e=>?_) b;by_cases hq:i=(lo+hi) / 2
    .subst hq;rw[he]at e;cases e;rw[<-hg];exact hc
    .have:=Og h e he (by omega);rw[hg]at hc;omega
   .rw[m4 hc];refine HJ h fuel lo _ (by omega) (by omega) (by omega) a (λi y VY e=>?_);by_cases hq:i=(lo+hi) / 2
    .subst hq;rw[he]at e;cases e;rw[<-hg];omega
    .have:=Og h he e (by omega);rw[hg]at hc;omega
  .rw[m4 hl];have:lo=hi:=by omega
   subst this;exact⟨h3,a,b⟩
theorem Ae{xs:Array Nat}(h:Bh xs.toList)(j:Nat):At xs j (SetTable.below xs j):=
 HJ h xs.size 0 xs.size (by omega) (dk _) (bc _) (λi _ z=>m_ z (by omega)) λi y z e=>by have:=(gd.mp e).1;omega
theorem Ht{xs:Array Nat}{j p q:Nat}(a:At xs j p)(b:At xs j q):p=q:=by
 rcases Nat.lt_trichotomy p q with h|h|h
 .have hp:p<xs.size:=by have:=b.1;omega
  have e:xs[p]? =aA xs[p]:=by simp[hp]
  have:=a.2.2 p _ (bc _) e;have:=b.2.1 p _ h e;omega
 .exact h
 .have hq:q<xs.size:=by have:=a.1;omega
  have e:xs[q]? =aA xs[q]:=by simp[hq]
  have:=b.2.2 q _ (bc _) e;have:=a.2.1 q _ h e;omega
theorem qK{xs:Array Nat}{j:Nat}(h:Bh xs.toList)(hn:xs[SetTable.below xs j]?≠aA j):Bh (SetTable.insertAt xs (SetTable.below xs j) j).toList:=by
 have a:=Ae h j;generalize SetTable.below xs j=p at*;rw[SetTable.toList_insertAt];obtain⟨a1,a2,a3⟩:=a;have lo:∀y∈xs.toList.take p,y<j:=λy hy=>by
  obtain⟨i,hi,e⟩:=d5 hy;rw[List.getElem_take]at e;have VY:i<p:=by simp at hi;omega
  refine a2 i y VY ?_;rw[<-c7,aw];exact⟨_,e⟩
 have hi:∀y∈xs.toList.drop p,j<y:=λy hy=>by
  obtain⟨i,hi,e⟩:=d5 hy;rw[List.getElem_drop]at e;have ep:xs[p+i]? =aA y:=by rw[<-c7,aw];exact⟨_,e⟩
  have h1:=a3 (p+i) y (by omega) ep;rcases Nat.lt_or_eq_of_le h1 with z|z
  .exact z
  .subst z;cases i with
   |zero=>exact m_ ep hn
   |succ i=>
    have hp:p<xs.size:=by have:=(gd.mp ep).1;omega
    have e0:xs[p]? =aA xs[p]:=by simp[hp]
    have q1:=a3 p _ (bc _) e0;have q2:=Og h e0 ep (by omega);omega
 refine List.pairwise_append.mpr ⟨h.sublist (List.take_sublist _ _),List.pairwise_cons.mpr ⟨hi,h.sublist (List.drop_sublist _ _)⟩,λa ha b hb=>?_⟩;rcases ay.mp hb with z|z
 .rw[z];exact lo a ha
 .exact Nat.lt_trans (lo a ha) (hi b z)
theorem Hu(j:Nat):SetTable.has #[] j=aD:=by unfold SetTable.has;simp
section
variable{prog:cg}{w:c8}{A:dh}{E:aj->ao->Prop}{s:ao}
end
noncomputable def dd(val:Nat->Int):Nat->List Int
 |0=>[]
 |i+1=>if val i∈dd val i then dd val i else dd val i++[val i]
def Kpt(h0 h:d6):Prop:=∀b o,h0.get? b=aA o->h.get? b=aA o
section
variable{prog:cg}{w:c8}{A:dh}{R:Result->ao->Prop}{I:aq}{fp wr:List aq}{G:Array GenState->Array GenState->Prop}{n:Nat}{P:Nat->aj->Prop}{St:Nat->ao->Prop}
theorem xz(W:WalksS prog w A.in1 I fp wr G n P St)(S:aq)(hS:S∉fp){h0:d6}(yi:h0.get? S=aB)(FR:∀b∈wr,h0.get? b=aB)(Ow:d6->Obj->Nat->Prop)(re:∀{h h':d6} {o:Obj} {i:Nat},Kpt h0 h'->Ow h o i->Ow h' o i)
  (add:∀(i:Nat) (v:aj) (s1:ao) (o:Obj) (Q:Bool->ao->Prop) (E:aj->ao->Prop),i<n->P i v->Kpt h0 s1.heap->s1.heap.get? S=aA o->Ow s1.heap o i->(∀(h2:d6) (o2:Obj) (tk:Nat) (b:Bool),gm S s1.heap h2->h2.get? S=aA o2->Ow h2 o2 (i+1)->Q b {s1 with heap:=h2,toks:=s1.toks+tk})->bj (cf prog w) A.in1 (setAdd S v) Q E s1):
  ∀(m i:Nat) (s:ao) (o:Obj),i+m=n->St i s->Kpt h0 s.heap->s.heap.get? S=aA o->Ow s.heap o i->
  (∀s' o',Moved (S::wr) G s s'->Kpt h0 s'.heap->s'.heap.get? S=aA o'->Ow s'.heap o' n->R (.ok (.ret .none)) s')->codeAny (cf prog w) A (.builtin "set.update.loop" ⟨[.ref S,.ref I],[]⟩) R s:=by
 have nw:S∉wr:=λz=>hS (W.sub _ z);have up:∀b∈wr,b∈S::wr:=λ_ z=>am _ z;intro m;induction m with
 |zero=>intro i s o hi st kp ho hO hR;obtain rfl:i=n:=hi;refine gy PyProof.Rows.F.entry_set_update_loop ?_;rw[ft PyProof.Rows.F.plain_set_update_loop _];show bj _ A.in1 (pyNext (.ref I) >>=_) _ _ s;refine ab (W.done s _ _ st λs' mv=>?_);have FK:Kpt h0 s'.heap:=λb x e=>mv.heap b x (λz=>by rw[FR b z]at e;cases e) (kp b x e);exact af (hR s' o (mv.mono up) FK (mv.heap S _ nw ho) (re FK hO))
 |succ m ih=>
  intro i s o hi st kp ho hO hR;have ZL:i<n:=by omega
  refine gy PyProof.Rows.F.entry_set_update_loop ?_;rw[ft PyProof.Rows.F.plain_set_update_loop _];show bj _ A.in1 (pyNext (.ref I) >>=_) _ _ s;refine ab (W.item i s _ _ ZL st λv s1 pv SZ mv=>?_);have ho1:=mv.heap S _ nw ho;have LX:Kpt h0 s1.heap:=λb x e=>mv.heap b x (λz=>by rw[FR b z]at e;cases e) (kp b x e);show bj _ A.in1 (holding [v] (setAdd S v) >>=_) _ _ s1;refine ab (wpAny_holding ?_);refine add i v s1 o _ _ ZL pv LX ho1 (re LX hO) λh2 o2 tk b sb g2 O2=>?_;have z_:Kpt h0 h2:=λc x e=>by
   have hc:c≠S:=λz=>by rw[z,yi]at e;cases e
   rw[sb.2 c hc];exact LX c x e
  refine af ⟨plainId_quiet PyProof.Rows.F.plain_set_update_loop _,ih (i+1) _ o2 (by omega) (W.frame _ s1 _ _ SZ (Nat.le_add_right _ _) λc hc x e=>?_) z_ g2 O2 λs3 o3 m3 k3 g3 O3=>?_⟩
  .rw[sb.2 c λz=>hS (z▸hc)];exact e
  .refine hR s3 o3 (Moved.trans W.gtrans ((mv.mono up).then_heap (Nat.le_add_right _ _) λc x hc e=>?_) m3) k3 g3 O3;rw[sb.2 c λz=>hc (z▸ac)];exact e
end
noncomputable abbrev By(w:c8):Bool:=w.params.followText "set-order"
abbrev Gu(w:c8):Obj:={cls:=.type "set",dict:=aB,data:=.set #[] 0 (.fresh 0 0 (!By w))}
section
variable{prog:cg}{w:c8}{A:dh}{E:aj->ao->Prop}{s:ao}
theorem tU(a:aj){Q:aj->ao->Prop}(h:Q (.ref s.heap.objs.size) {s with heap:=s.heap.push (Gu w)}):
  codeAny (cf prog w) A (.call (.builtin "set.__new__") ⟨[.type "set",a],[]⟩) (wants Q E) s:=by
 refine codeAny_of_tree ?_;show bj _ A.in1 (checkBuiltinCall "set.__new__" ⟨[.type "set",a],[]⟩>>=λ_=>again (.builtin "set.__new__" ⟨[.type "set",a],[]⟩)) _ _ s;refine ab (wpAny_of_eq (PySem.F.newCall_set_1 a) (af ⟨plainId_quiet PySem.F.plain_set_new _,gy PySem.F.entry_set_new ?_⟩));rw[ft PySem.F.plain_set_new _];have hs:=sub_set_self;obtain⟨hp,g,d,tk,os⟩:=s;unfold Builtin.«set.__new__» Builtin.Frozenset.newClass;dsimp only;wp_walk;refine wpAny_askSetting (af ?_);dsimp only;simp only[newObj];exact ab (wpAny_alloc (af (af h)))
theorem xy{l:aq}{mC:Array aj}{Q:aj->ao->Prop}(hh:A.handled=aB)(hl:s.heap.IsList l mC)(Ow:d6->Obj->Nat->Prop)(re:∀{h h':d6} {o:Obj} {i:Nat},Kpt s.heap h'->Ow h o i->Ow h' o i)(own:∀h:d6,Ow h (Gu w) 0)
  (add:∀(A':dh) (i:Nat) (v:aj) (s1:ao) (o:Obj) (Q:Bool->ao->Prop) (E:aj->ao->Prop),A'.units=A.units+3->mC[i]? =aA v->Kpt s.heap s1.heap->s1.heap.get? s.heap.objs.size=aA o->Ow s1.heap o i->(∀(h2:d6) (o2:Obj) (tk:Nat) (b:Bool),gm s.heap.objs.size s1.heap h2->h2.get? s.heap.objs.size=aA o2->Ow h2 o2 (i+1)->Q b {s1 with heap:=h2,toks:=s1.toks+tk})->bj (cf prog w) A' (setAdd s.heap.objs.size v) Q E s1)
  (h:∀(h':d6) (tk:Nat) (o:Obj),h'.get? s.heap.objs.size=aA o->Ow h' o mC.size->(∀b x,b<s.heap.objs.size->s.heap.get? b=aA x->h'.get? b=aA x)->Q (.ref s.heap.objs.size) {s with heap:=h',toks:=tk}):
  bj (cf prog w) A (call (.type "set") [.ref l]) Q E s:=by
 obtain⟨c,tl,yP⟩:=PySem.F.called_set.mro;have hmade:=PySem.F.called_set.made;have hsub:=PySem.F.called_set.sub;have h1:=PySem.F.called_set.notType;have h2:=PySem.F.called_set.canCreate;have hct:=PySem.F.typeCall_set_1 (.ref l);refine wpAny_call (codeAny_of_tree ?_);show bj _ _ (callAny (.type "set") _) _ _ _;refine af ⟨Code.quiet_builtin _ (by decide+kernel),gy PySem.F.entry_type_call ?_⟩;rw[Around.under_plain (weight_type_call_type "set" [.ref l] []) rfl]
 repeat (any_goals (first|assumption|wp_step))
 refine codeAny_mono (tU (.ref l) (E:=E) (Q:=λv s1=>v= .ref s.heap.objs.size/\s1={s with heap:=s.heap.push (Gu w)}) ⟨rfl,rfl⟩) λr s1 hr=>?_;cases r with
 |error e=>exact hr
 |ok fl=>
  cases fl with
  |ret obj=>
   obtain⟨rfl,rfl⟩:=hr;have hS:(s.heap.push (Gu w)).get? s.heap.objs.size=aA (Gu w):=bo _ rfl;have hT:Shared.TypeIs {s with heap:=s.heap.push (Gu w)} (.ref s.heap.objs.size) "set":=⟨_,hS,rfl⟩
   have hli:=PySem.F.called_set.init.lookup;have hbi:=PySem.F.called_set.init.bind (.ref s.heap.objs.size)
   repeat (any_goals (first|assumption|wp_step))
   refine codeAny_mono (codeAny_call_builtin (R:=wants (λr s2=>r= .none/\∃h' tk o,s2={s with heap:=h',toks:=tk}/\h'.get? s.heap.objs.size=aA o/\Ow h' o mC.size/\(∀b x,b<s.heap.objs.size->s.heap.get? b=aA x->h'.get? b=aA x)) E)
    PySem.F.called_set.init.plain PySem.F.entry_set_init (check_set_init_1 hT ?_)) λr2 s2 RB=>?_
   .obtain⟨ol,RD,VZ,nl,RH⟩:=hl;obtain⟨zi,od,GY,VA⟩:=ol;simp only at VZ RH;subst VZ RH;have KP:(s.heap.push (Gu w)).get? l=aA {cls:=.type "list",dict:=od,data:=.seq mC nl,slots:=VA}:=ar _ RD;have hsa:=PySem.F.sub_list_set;have hsb:=PySem.F.sub_list_frozenset;have nC:(Value.type "list"==Value.type "dict")=aD:=by decide
    have EA:(s.heap.push (Gu w)).IsList l mC:=⟨_,KP,rfl,nl,rfl⟩
    unfold Builtin.«set.__init__» noKeywords Builtin.Frozenset.updateFrom;generalize hPI:pyIter=PI;wp_walk;subst hPI;refine wpAny_pyIter_list EA (ab (wpAny_runValue ?_));have ll:l<s.heap.objs.size:=bp RD;have yV:A.in1.in1.in1.handled=aB:=by simp[hh]
    have sz:(s.heap.push (Gu w)).objs.size=s.heap.objs.size+1:=Heap.size_push _ _;have ne:l≠(s.heap.push (Gu w)).objs.size:=by rw[sz];exact cm (Nat.lt_succ_of_lt ll)
    have nf:s.heap.objs.size∉[(s.heap.push (Gu w)).objs.size,l]:=by rw[sz];simp only[ay,List.not_mem_nil,or_false,not_or];exact⟨cm (Nat.lt_succ_self _),Nat.ne_of_gt ll⟩
    refine xz (h0:=s.heap) ((Walks.list yV _ l ne mC).toS) s.heap.objs.size nf (Heap.get?_none_of_le (bc _)) (λb ZX=>?_) Ow re (λi v s1 o Q E _ hv=>add _ i v s1 o Q E rfl hv) mC.size 0 _ (Gu w) (by omega)
     ⟨⟨_,bo _ rfl,rfl,rfl⟩,(EA.push _)⟩ (λb o e=>ar _ (ar _ e)) (ar _ hS) (own _) λs' o' mv kp go Oo=>?_
    .have:b=(s.heap.push (Gu w)).objs.size:=by simpa using ZX
     rw[this,sz];exact Heap.get?_none_of_le (Nat.le_succ _)
    have eg:s'.gens=s.gens:=mv.gens;have ed:s'.drawn=s.drawn:=mv.drawn;have eo:s'.os=s.os:=mv.os;have es:s'={s with heap:=s'.heap,toks:=s'.toks}:=by cases s';simp only at eg ed eo;subst eg ed eo;rfl
    show bj _ _ _ _ _ _;refine af ?_;show bj _ _ (ret cn) _ _ _;exact af ⟨rfl,s'.heap,s'.toks,o',es,go,Oo,λb x hb e=>kp b x e⟩
   .cases r2 with
    |error e=>exact RB
    |ok f2=>
     cases f2 with
     |ret r=>
      obtain⟨rfl,h',tk,o',rfl,g',O',k'⟩:=RB
      repeat (any_goals (first|assumption|wp_step))
      exact h _ _ _ g' O' k'
     |_=>exact RB.elim
  |_=>exact hr.elim
end
theorem Wn:Slot "set_iterator" "__next__" "set_iterator.__next__":=
 .of (owner:="set_iterator") (n:="__next__") (by rw[typeLookup_type,builtinLookup_eq_fast];kernel_rfl) (by decide+kernel) (by decide+kernel) (by decide+kernel) (by first|exact .inl (by decide+kernel)|exact .inr (by decide+kernel)) (by rw[isSubtype_type];kernel_rfl)
theorem Oh:entryFor table "set_iterator.__next__"=aA Builtin.«set_iterator.__next__»:=entryFor_of_tree (by kernel_rfl)
theorem Ca(a:aj):argsOk "set_iterator.__next__" ⟨[a],[]⟩:=by unfold argsOk;kernel_rfl
theorem V5:entryFor table "set.__iter__"=aA Builtin.«frozenset.__iter__»:=entryFor_alias (id':="frozenset.__iter__") (by kernel_rfl) rfl (by decide+kernel) (by kernel_rfl)
section
variable{prog:cg}{w:c8}{A:dh}{E:aj->ao->Prop}{s:ao}
theorem qJ{src:Source}{n:Nat}{Q:Nat->ao->Prop}(hn:n≠0)(h:∀i d,i<n->Q i {s with drawn:=d}):bj (cf prog w) A (choose src n) Q E s:=
 λ_ _ _=>⟨hn,h _ _ (Nat.mod_lt _ (Nat.pos_of_ne_zero hn))⟩
theorem Rw{α:Type}:∀(l:List α) (i:Nat) (h:i<l.length),(l[i]::l.eraseIdx i).Perm l
 |x::l,0,_=>List.Perm.refl _
 |x::l,i+1,h=>(List.Perm.swap x _ _).trans ((Rw l i (by simpa using h)).cons x)
theorem BZ{α:Type}:∀(n:Nat) (xs:List α) (s:ao) {Q:List α->ao->Prop},n=xs.length->(∀ys d,ys.Perm xs->Q ys {s with drawn:=d})->bj (cf prog w) A (drawOrder n xs) Q E s
 |0,[],s,Q,_,h=>by unfold drawOrder;exact af (h [] s.drawn (List.Perm.refl _))
 |n+1,x::xs,s,Q,hn,h=>by
  unfold drawOrder;refine ab (qJ (by simp) λi d hi=>?_);have e:(x::xs)[i]? =aA (x::xs)[i]:=au hi;rw[e];dsimp only;have hl:n=((x::xs).eraseIdx i).length:=by rw[List.length_eraseIdx_of_lt hi];simpa using hn
  refine ab (BZ n ((x::xs).eraseIdx i) _ hl λys d' hp=>af (h _ d' ?_));exact(hp.cons _).trans (Rw _ i hi)
 |0,_::_,_,_,hn,_=>by simp at hn
 |_+1,[],_,_,hn,_=>by simp at hn
end
noncomputable abbrev S3(first:aj)(i:Nat)(r:aq)(n ep:Nat):Obj:={cls:=.type "set_iterator",dict:=aB,data:=.fields #[first,.int (i:Int) 0,.ref r,.int (n:Int) 0,.int (ep:Int) 0],slots:= #[]}
noncomputable abbrev Rx(ps:List Nat):Obj:={cls:=.type "tuple",data:=.seq (ps.map λi:Nat=>rawInt i).toArray}
section
variable{prog:cg}{w:c8}{A:dh}{E:aj->ao->Prop}{s:ao}{r:aq}{o:Obj}{es:Array (Int×aj)}{ep:Nat}{t:gn}
theorem tT{Q:aj->ao->Prop}(ho:s.heap.get? r=aA o)(hx:o.ExactSet)(hd:o.data= .set es ep t)(hf:t.fits es.size=aC)(hb:es.size<scanBound)
  (hN:(!By w&&(!t.plain&&decide (es.size > 1)))=aD->Q (.ref s.heap.objs.size) {s with heap:=s.heap.push (S3 (.int 0 0) 0 r es.size ep)})
  (hD:(!By w&&(!t.plain&&decide (es.size > 1)))=aC->∀ps d,ps.Perm (df es.size)->Q (.ref (s.heap.objs.size+1)) {s with heap:=(s.heap.push (Rx ps)).push (S3 (.ref s.heap.objs.size) 0 r es.size ep),drawn:=d}):
  bj (cf prog w) A (pyIter (.ref r)) Q E s:=by
 have hT:s.TypeIs (.ref r) "set":=⟨o,ho,hx.1⟩
 refine wpAny_pyIter_slot hT PySem.F.slot_set_iter (dq PySem.F.slot_set_iter hT V5 ?_ (PySem.F.args_set_iter_1 _));unfold Builtin.«frozenset.__iter__»;refine ab (m:=Builtin.Frozenset.slot0 "__iter__" ⟨[.ref r],[]⟩) (Q:=_) (af ?_);refine ab (m:=Builtin.Frozenset.sizeOf r) ?_;unfold Builtin.Frozenset.sizeOf;refine ab (wpAny_setEntries_of ho hd hf (af ?_));refine ab ?_;unfold setDrawn;refine ab (wpAny_setState_of ho hd hf ?_);unfold setsByText;refine ab (ab (wpAny_askSetting (af ?_)));refine af ?_;show bj _ _ (if(!By w&&(!t.plain&&decide (es.size > 1)))=aC then _ else _) _ _ _;cases hc:(!By w&&(!t.plain&&decide (es.size > 1)))with
 |false=>rw[m4 (by simp)];refine ab (af ?_);refine ab (wpAny_setEpoch_of ho hd hf ?_);refine ab (m:=newFields _ _) (di (af ⟨_,rfl,"set_iterator",_,⟨_,bo _ rfl,rfl⟩,Wn.lookup,hN hc⟩))
 |true=>rw[m6 rfl];have hl:(df es.size).length=es.size:=List.length_range;refine ab ?_;refine BZ _ (df es.size) _ hl.symm λps d hp=>?_;have pl:ps.length=es.size:=hp.length_eq.trans hl;refine ab (wpAny_newTuple ?_ (by rw[ah,pl];exact fits_of_scanBound hb));have XT:(s.heap.push (Rx ps)).get? r=aA o:=ar _ ho;refine ab (wpAny_setEpoch_of (s:={s with heap:=s.heap.push (Rx ps),drawn:=d}) XT hd hf ?_);have sz:(s.heap.push (Rx ps)).objs.size=s.heap.objs.size+1:=Heap.size_push _ _;refine ab (m:=newFields _ _) (di (af ⟨_,rfl,"set_iterator",_,⟨_,bo _ rfl,rfl⟩,Wn.lookup,?_⟩));have z:=hD hc ps d hp;rw[<-sz]at z;exact z
end
section
variable{prog:cg}{w:c8}{A:dh}{E:aj->ao->Prop}{s:ao}{I r:aq}{o:Obj}{es:Array (Int×aj)}{ep:Nat}{t:gn}{slot i nx:Nat}{x:aj}{Q:Option aj->ao->Prop}
abbrev Lu(prog:cg)(w:c8)(A:dh)(s:ao)(r:aq)(slot i ep:Nat)(y:Option (aj×Nat)):Prop:=∀(R:Option (aj×Nat)->ao->Prop) (E':aj->ao->Prop),R y s->bj (cf prog w) A (setNext r slot i ep) R E' s
theorem CG(hI:s.heap.get? I=aA (S3 (.int (slot:Int) 0) i r es.size ep))(ho:s.heap.get? r=aA o)(hd:o.data= .set es ep t)(hf:t.fits es.size=aC)(hn:Lu prog w A.in1 s r slot i ep (aA (x,nx)))
  (hQ:∀h',h'.get? I=aA (S3 (.int (nx:Int) 0) (i+1) r es.size ep)->gm I s.heap h'->Q (aA x) {s with heap:=h'}):bj (cf prog w) A (pyNext (.ref I)) Q E s:=by
 have hT:s.TypeIs (.ref I) "set_iterator":=⟨_,hI,rfl⟩
 unfold pyNext;refine ab (wpAny_attempt (fg (name:=Str.ofString "__next__") hT Wn (dq Wn hT Oh ?_ (Ca _))));unfold Builtin.«set_iterator.__next__»;refine ab (m:=slotArgs "__next__" 0 ⟨[.ref I],[]⟩) (af ?_);refine ab (wpAny_fieldsOf hI rfl ?_);dsimp only;refine ab (wpAny_setEntries_of ho hd hf ?_);rw[m4 (by simp)];simp only[Int.toNat_natCast];refine ab (hn _ _ ?_);dsimp only;refine ab (wpAny_setField_rec hI (by simp) λh1 g1 b1=>?_);refine ab (wpAny_setField_rec (s:={s with heap:=h1}) g1 (by simp) λh2 g2 b2=>?_);refine af ⟨_,rfl,af (hQ h2 ?_ (b1.trans b2))⟩;rw[g2];rfl
theorem CF(hh:A.handled=aB)(hI:s.heap.get? I=aA (S3 (.int (slot:Int) 0) i r es.size ep))(ho:s.heap.get? r=aA o)(hd:o.data= .set es ep t)(hf:t.fits es.size=aC)(hn:Lu prog w A.in1 s r slot i ep aB)
  (hQ:∀h',Heap.ExtBut I s.heap h'->Q aB {s with heap:=h'}):bj (cf prog w) A (pyNext (.ref I)) Q E s:=by
 have hT:s.TypeIs (.ref I) "set_iterator":=⟨_,hI,rfl⟩
 unfold pyNext;refine ab (wpAny_attempt (fg (name:=Str.ofString "__next__") hT Wn (dq Wn hT Oh ?_ (Ca _))));unfold Builtin.«set_iterator.__next__»;refine ab (m:=slotArgs "__next__" 0 ⟨[.ref I],[]⟩) (af ?_);refine ab (wpAny_fieldsOf hI rfl ?_);dsimp only;refine ab (wpAny_setEntries_of ho hd hf ?_);rw[m4 (by simp)];simp only[Int.toNat_natCast];refine ab (hn _ _ ?_);dsimp only;refine ab (wpAny_setField_rec hI (by simp) λh1 g1 b1=>?_);refine ab (m:=newExc (.type "StopIteration") []) ?_;simp only[newExc,newTuple];refine ab (di ?_ (by size_fits));refine ab (m:=firstArgMember _ _) (wpAny_of_eq (a:=cn) (by first|rfl| (simp only[firstArgMember];rfl)) ?_);refine di ?_ (by size_fits);simp only[raiseNew];refine ab (wpAny_handled ?_);rw[show A.in1.handled=aB from hh];refine ab (af (wpAny_throw ?_));refine ab (wpAny_isInstance (T:="StopIteration") (b:=aC) ⟨_,bo _ rfl,rfl⟩ isSubtype_stop ?_);exact af (hQ _ ((b1.extBut.push _).push _))
theorem Fe(hB:By w=aD)(ho:s.heap.get? r=aA o)(hd:o.data= .set es ep t)(hf:t.fits es.size=aC)(hl:t.led=aC)(hr:(!t.plain&&decide (es.size > 1))=aD):
  Lu prog w A s r slot i ep (match es[SetTable.below t.place slot]?,t.place[SetTable.below t.place slot]? with
   |some (_,x),aA j=>aA (x,j+1)
   |_,_=>aB):=by
 intro R E' h;unfold setNext;refine ab (wpAny_setState_of ho hd hf ?_);dsimp only;unfold setsByText;refine ab (ab (wpAny_askSetting (af ?_)));have e1:(cf prog w).w.params.followText "set-order"=aD:=hB;dsimp only;rw[m4 (by rw[e1];simp)];show bj _ _ (if(!t.plain&&decide (es.size > 1))=aC then _ else _) _ _ _;rw[m4 (by rw[hr];simp)];refine ab ?_;show bj _ _ (if(!t.led&& !es.isEmpty)=aC then _ else _) _ _ _;rw[m4 (by rw[hl];simp)];exact af (af h)
theorem P6(hB:By w=aC)(ho:s.heap.get? r=aA o)(hd:o.data= .set es ep t)(hf:t.fits es.size=aC):
  Lu prog w A s r slot i ep (((pickOrder (w.params.setOrder r ep) es)[i]?).map λe=>(e.2,slot)):=by
 intro R E' h;unfold setNext;refine ab (wpAny_setState_of ho hd hf ?_);dsimp only;unfold setsByText;refine ab (ab (wpAny_askSetting (af ?_)));have e1:(cf prog w).w.params.followText "set-order"=aC:=hB;dsimp only;rw[m6 (by rw[e1])];rw[m4 (by simp)];refine ab ?_;unfold setWalk;refine ab (wpAny_setState_of ho hd hf ?_);dsimp only;unfold setsByText;refine ab (ab (wpAny_askSetting (af ?_)));dsimp only;rw[m6 (by rw[e1])];refine ab (wpAny_askSetting (af ?_));exact af h
variable{T:aq}{ps:List Nat}
theorem xx{p:Nat}{hx:Int}(hI:s.heap.get? I=aA (S3 (.ref T) i r es.size ep))(JQ:s.heap.get? T=aA (Rx ps))(hp:ps[i]? =aA p)(he:es[p]? =aA (hx,x))(ho:s.heap.get? r=aA o)(hd:o.data= .set es ep t)(hf:t.fits es.size=aC)
  (hQ:∀h',h'.get? I=aA (S3 (.ref T) (i+1) r es.size ep)->gm I s.heap h'->Q (aA x) {s with heap:=h'}):bj (cf prog w) A (pyNext (.ref I)) Q E s:=by
 have hT:s.TypeIs (.ref I) "set_iterator":=⟨_,hI,rfl⟩
 unfold pyNext;refine ab (wpAny_attempt (fg (name:=Str.ofString "__next__") hT Wn (dq Wn hT Oh ?_ (Ca _))));unfold Builtin.«set_iterator.__next__»;refine ab (m:=slotArgs "__next__" 0 ⟨[.ref I],[]⟩) (af ?_);refine ab (wpAny_fieldsOf hI rfl ?_);dsimp only;refine ab (wpAny_setEntries_of ho hd hf ?_);rw[m4 (by simp)];refine ab (m:=seqItems? (.ref T)) ?_;unfold seqItems?;refine ab (wpAny_load JQ (af ?_));dsimp only;have e1:(ps.map λi:Nat=>rawInt i).toArray[((i:Nat):Int).toNat]? =aA (.int (p:Int) 0):=by simp[hp,rawInt]
 rw[e1];dsimp only;refine ab ?_;unfold setNextDrawn;refine ab (wpAny_setState_of ho hd hf ?_);dsimp only;rw[m4 (by simp)];have e2:es[((p:Nat):Int).toNat]? =aA (hx,x):=by simpa using he
 rw[e2];refine af ?_;refine ab (wpAny_setField_rec hI (by simp) λh1 g1 b1=>?_);refine af ⟨_,rfl,af (hQ h1 ?_ b1)⟩;rw[g1];rfl
theorem xw(hh:A.handled=aB)(hI:s.heap.get? I=aA (S3 (.ref T) i r es.size ep))(JQ:s.heap.get? T=aA (Rx ps))(hp:ps[i]? =aB)(ho:s.heap.get? r=aA o)(hd:o.data= .set es ep t)(hf:t.fits es.size=aC)
  (hQ:∀h',Heap.ExtBut I s.heap h'->Q aB {s with heap:=h'}):bj (cf prog w) A (pyNext (.ref I)) Q E s:=by
 have hT:s.TypeIs (.ref I) "set_iterator":=⟨_,hI,rfl⟩
 unfold pyNext;refine ab (wpAny_attempt (fg (name:=Str.ofString "__next__") hT Wn (dq Wn hT Oh ?_ (Ca _))));unfold Builtin.«set_iterator.__next__»;refine ab (m:=slotArgs "__next__" 0 ⟨[.ref I],[]⟩) (af ?_);refine ab (wpAny_fieldsOf hI rfl ?_);dsimp only;refine ab (wpAny_setEntries_of ho hd hf ?_);rw[m4 (by simp)];refine ab (m:=seqItems? (.ref T)) ?_;unfold seqItems?;refine ab (wpAny_load JQ (af ?_));dsimp only;have e1:(ps.map λi:Nat=>rawInt i).toArray[((i:Nat):Int).toNat]? =aB:=by simp only[Int.toNat_natCast,List.getElem?_toArray,bg,hp,Option.map_none]
 rw[e1];dsimp only;refine ab (wpAny_setField_rec hI (by simp) λh1 g1 b1=>?_);refine ab (wpAny_setField_rec (s:={s with heap:=h1}) g1 (by simp) λh2 g2 b2=>?_);refine ab (m:=newExc (.type "StopIteration") []) ?_;simp only[newExc,newTuple];refine ab (di ?_ (by size_fits));refine ab (m:=firstArgMember _ _) (wpAny_of_eq (a:=cn) (by first|rfl| (simp only[firstArgMember];rfl)) ?_);refine di ?_ (by size_fits);simp only[raiseNew];refine ab (wpAny_handled ?_);rw[show A.in1.handled=aB from hh];refine ab (af (wpAny_throw ?_));refine ab (wpAny_isInstance (T:="StopIteration") (b:=aC) ⟨_,bo _ rfl,rfl⟩ isSubtype_stop ?_);exact af (hQ _ (((b1.trans b2).extBut.push _).push _))
end
noncomputable abbrev Ez(acc:Array aj)(c:Nat):Obj:={cls:=.type "list",dict:=aB,data:=.seq acc c,slots:= #[]}
structure Tells(prog:cg)(w:c8)(A:dh)(I:aq)(fp:List aq)(ord:List aj)(St:Nat->d6->Prop):Prop where
 mem:I∈fp
 keep:∀i h h',St i h->(∀b∈fp,∀o,h.get? b=aA o->h'.get? b=aA o)->St i h'
 step:∀i (s:ao) x (Q:Option aj->ao->Prop) (E:aj->ao->Prop),St i s.heap->ord[i]? =aA x->(∀h',St (i+1) h'->gm I s.heap h'->Q (aA x) {s with heap:=h'})->bj (cf prog w) A (pyNext (.ref I)) Q E s
 stop:∀(s:ao) (Q:Option aj->ao->Prop) (E:aj->ao->Prop),St ord.length s.heap->(∀h',Heap.ExtBut I s.heap h'->Q aB {s with heap:=h'})->bj (cf prog w) A (pyNext (.ref I)) Q E s
section
variable{prog:cg}{w:c8}{A:dh}{E:aj->ao->Prop}{R:Result->ao->Prop}{I S:aq}{fp:List aq}{ord:List aj}{St:Nat->d6->Prop}
theorem Hv(T:Tells prog w A.in1 I fp ord St)(hS:S∉fp)(hz:ord.length<=10000)(res:aj):∀(m i:Nat) (s:ao) (c:Nat),i+m=ord.length->St i s.heap->s.heap.get? S=aA (Ez (ord.take i).toArray c)->
  (∀h' c',(∀b x,b≠S->b≠I->s.heap.get? b=aA x->h'.get? b=aA x)->h'.get? S=aA (Ez ord.toArray c')->R (.ok (.ret res)) {s with heap:=h'})->codeAny (cf prog w) A (.builtin "list.extend.loop" ⟨[.ref S,.ref I,res],[]⟩) R s:=by
 have EL:S≠I:=λz=>hS (z▸T.mem);intro m;induction m with
 |zero=>intro i s c hi st hl hR;obtain rfl:i=ord.length:=hi;rw[List.take_length]at hl;refine gy PySem.F.entry_extend_loop ?_;rw[ft PySem.F.plain_extend_loop _];show bj _ A.in1 (pyNext (.ref I) >>=_) _ _ s;refine ab (T.stop s _ _ st λh' ex=>?_);exact af (hR h' c (λb x _ hb e=>ex b x hb e) (ex S _ EL hl))
 |succ m ih=>
  intro i s c hi st hl hR;have ZL:i<ord.length:=by omega
  refine gy PySem.F.entry_extend_loop ?_;rw[ft PySem.F.plain_extend_loop _];show bj _ A.in1 (pyNext (.ref I) >>=_) _ _ s;refine ab (T.step i s ord[i] _ _ st (by simp[ZL]) λh1 SZ b1=>?_);have l1:h1.get? S=aA (Ez (ord.take i).toArray c):=(b1.2 S EL).trans hl;have tk:(ord.take i).toArray.push ord[i]=(ord.take (i+1)).toArray:=by rw[List.take_add_one,au ZL];simp
  show bj _ A.in1 (updateSeq S (·.push ord[i]) >>=_) _ _ _;refine ab (wpAny_updateSeq l1 rfl (af ⟨plainId_quiet PySem.F.plain_extend_loop _,?_⟩) (by rw[bv,List.length_take,d7];omega) (by show((ord.take i).toArray.push ord[i]).size<=_;rw[tk,bv,List.length_take,d7];omega));have g2:=Heap.get?_update_self (dm (·.push ord[i])) l1 rfl;have hm:∃c',dm (·.push ord[i]) (Ez (ord.take i).toArray c)=Ez (ord.take (i+1)).toArray c':=by rw[<-tk];exact⟨_,rfl⟩
  obtain⟨c',TF⟩:=hm;rw[TF]at g2;refine ih (i+1) _ c' (by omega) (T.keep _ _ _ SZ λb hb x e=>(Heap.get?_update_other _ _ (λz:S=b=>hS (by rw[z];exact hb))).trans e) g2 λh3 c3 k3 g3=>?_;exact hR h3 c3 (λb x hb EK e=>k3 b x hb EK ((Heap.get?_update_other _ _ (Ne.symm hb)).trans ((b1.2 b EK).trans e))) g3
theorem tS{s:ao}{r:aq}{Q:Bool->ao->Prop}(hT:s.TypeIs (.ref r) "set")(h:Q aD s):bj (cf prog w) A (Builtin.List.listLengthHint (.ref r)) Q E s:=by
 unfold Builtin.List.listLengthHint;refine ab (wpAny_specialOf hT PySem.F.slot_set_len.lookup ?_);generalize hid:("set.__len__":String)=id0
 wp_delta
 rw[show splitId id0=aA ("set","__len__")from by subst hid;decide+kernel];subst hid;refine ab (wpAny_isInstance (T:="set") (b:=aC) hT sub_set_self ?_);refine wpAny_ite_split (λz=>m_ z (by decide)) λ_=>?_;refine wpAny_ite_split (λ_=>?_) λz=>m_ (by decide+kernel) z;exact ab (wpAny_typeOf hT (af h))
theorem Hw{α:Type}(f:Nat->Nat):∀(n k:Nat) (l:List α) (out:Array α),n=l.length->(pickOrder.go f n k l out).toList.Perm (out.toList++l)
 |0,k,l,out,h=>by have:l=[]:=List.eq_nil_of_length_eq_zero h.symm;subst this;unfold pickOrder.go;simp
 |n+1,k,l,out,h=>by
  unfold pickOrder.go;have hp:0<l.length:=by omega
  have hm:f k % l.length<l.length:=Nat.mod_lt _ hp;rw[au hm];dsimp only;refine(Hw f n (k+1) _ _ (by rw[List.length_eraseIdx_of_lt hm];omega)).trans ?_;rw[Array.toList_push,List.append_assoc];exact(Rw l _ hm).append_left _
theorem qI{α:Type}(f:Nat->Nat)(xs:Array α):(pickOrder f xs).toList.Perm xs.toList:=by have:=Hw f xs.size 0 xs.toList #[] (bf).symm;simpa[pickOrder]using this
end
section
variable{prog:cg}{w:c8}{A:dh}{E:aj->ao->Prop}{s:ao}{I r T:aq}{o:Obj}{es:Array (Int×aj)}{ep:Nat}{t:gn}
noncomputable def sl(t:gn):Nat->Nat
 |0=>0
 |i+1=>t.place.getD i 0+1
theorem CD{t:gn}(h:Bh t.place.toList){i:Nat}(hi:i<=t.place.size):SetTable.below t.place (sl t i)=i:=by
 refine Ht (Ae h _) ⟨hi,λk y hk e=>?_,λk y hk e=>?_⟩
 .cases i with
  |zero=>omega
  |succ i=>
   have hp:i<t.place.size:=by omega
   have e2:t.place[i]? =aA t.place[i]:=by simp[hp]
   have eg:sl t (i+1)=t.place[i]+1:=by unfold sl;simp[Array.getD,hp]
   rw[eg];by_cases z:k=i
   .subst z;rw[e2]at e;cases e;omega
   .have:=Og h e e2 (by omega);omega
 .cases i with
  |zero=>exact dk _
  |succ i=>
   have hp:i<t.place.size:=by omega
   have e2:t.place[i]? =aA t.place[i]:=by simp[hp]
   have eg:sl t (i+1)=t.place[i]+1:=by unfold sl;simp[Array.getD,hp]
   rw[eg];have:=Og h e2 e (by omega);omega
theorem Lv{r I:aq}(h:r≠I){h1 h2:d6}(b:gm I h1 h2){x:Obj}(e:h1.get? r=aA x):h2.get? r=aA x:=(b.2 r h).trans e
theorem V6(hh:A.handled=aB)(hr:r≠I)(hd:o.data= .set es ep t)(hf:t.fits es.size=aC)(hB:By w=aD)(hl:t.led=aC)(hp:(!t.plain&&decide (es.size > 1))=aD)(rise:Bh t.place.toList)(sz:t.place.size=es.size):
  Tells prog w A I [I,r] (es.toList.map (·.2)) (λi h=>h.get? I=aA (S3 (.int (sl t i:Int) 0) i r es.size ep)/\h.get? r=aA o):=by
 refine⟨by simp,λi h h' st k=>⟨k I (by simp) _ st.1,k r (by simp) _ st.2⟩,λi s x Q E st hx hQ=>?_,λs Q E st hQ=>?_⟩
 .rw[bg]at hx;obtain⟨e,he,rfl⟩:=cq.mp hx;rw[c7]at he;have hi:i<es.size:=(gd.mp he).1;have VY:i<t.place.size:=by omega
  have e2:t.place[i]? =aA t.place[i]:=by simp[VY]
  have nx:=Fe (prog:=prog) (w:=w) (A:=A.in1) (s:=s) (slot:=sl t i) (i:=i) hB st.2 hd hf hl hp;rw[CD rise (by omega),he,e2]at nx;refine CG st.1 st.2 hd hf nx λh' g b=>hQ h' ⟨?_,Lv hr b st.2⟩ b;have eg:sl t (i+1)=t.place[i]+1:=by unfold sl;simp[Array.getD,VY]
  rw[eg];exact g
 .have hn:(es.toList.map (·.2)).length=es.size:=by rw[ah,bf]
  rw[hn]at st;have nx:=Fe (prog:=prog) (w:=w) (A:=A.in1) (s:=s) (slot:=sl t es.size) (i:=es.size) hB st.2 hd hf hl hp;rw[CD rise (by omega),show es[es.size]? =aB by simp]at nx;exact CF hh st.1 st.2 hd hf nx hQ
theorem oY(hh:A.handled=aB)(hr:r≠I)(hd:o.data= .set es ep t)(hf:t.fits es.size=aC)(hB:By w=aC):
  Tells prog w A I [I,r] ((pickOrder (w.params.setOrder r ep) es).toList.map (·.2)) (λi h=>h.get? I=aA (S3 (.int ((0:Nat):Int) 0) i r es.size ep)/\h.get? r=aA o):=by
 refine⟨by simp,λi h h' st k=>⟨k I (by simp) _ st.1,k r (by simp) _ st.2⟩,λi s x Q E st hx hQ=>?_,λs Q E st hQ=>?_⟩
 .rw[bg]at hx;obtain⟨e,he,rfl⟩:=cq.mp hx;rw[c7]at he;have nx:=P6 (prog:=prog) (w:=w) (A:=A.in1) (s:=s) (slot:=0) (i:=i) hB st.2 hd hf;rw[he]at nx;exact CG st.1 st.2 hd hf nx λh' g b=>hQ h' ⟨g,Lv hr b st.2⟩ b
 .have nx:=P6 (prog:=prog) (w:=w) (A:=A.in1) (s:=s) (slot:=0) (i:=((pickOrder (w.params.setOrder r ep) es).toList.map (·.2)).length) hB st.2 hd hf;rw[ah,bf,show(pickOrder (w.params.setOrder r ep) es)[(pickOrder (w.params.setOrder r ep) es).size]? =aB by simp]at nx;rw[ah,bf]at st;exact CF hh st.1 st.2 hd hf nx hQ
theorem V7(hh:A.handled=aB)(hr:r≠I)(hT:T≠I)(hd:o.data= .set es ep t)(hf:t.fits es.size=aC){ps:List Nat}(hp:∀p∈ps,p<es.size):
  Tells prog w A I [I,r,T] (ps.map λp=>(es.getD p (0,.none)).2) (λi h=>h.get? I=aA (S3 (.ref T) i r es.size ep)/\h.get? r=aA o/\h.get? T=aA (Rx ps)):=by
 refine⟨by simp,λi h h' st k=>⟨k I (by simp) _ st.1,k r (by simp) _ st.2.1,k T (by simp) _ st.2.2⟩,λi s x Q E st hx hQ=>?_,λs Q E st hQ=>?_⟩
 .rw[bg]at hx;obtain⟨p,he,rfl⟩:=cq.mp hx;have lt:=hp p (b9 he);have e2:es[p]? =aA ((es.getD p (0,.none)).1,(es.getD p (0,.none)).2):=by simp[Array.getD,lt]
  exact xx st.1 st.2.2 he e2 st.2.1 hd hf λh' g b=>hQ h' ⟨g,Lv hr b st.2.1,Lv hT b st.2.2⟩ b
 .rw[ah]at st;exact xw hh st.1 st.2.2 (by simp) st.2.1 hd hf hQ
end
section
variable{prog:cg}{w:c8}{A:dh}{E:aj->ao->Prop}{s:ao}{I r S:aq}{o:Obj}{es:Array (Int×aj)}{ep:Nat}{t:gn}
theorem Lw{R:Result->ao->Prop}{fp:List aq}{ord:List aj}{St:Nat->d6->Prop}{res:aj}{c:Nat}(T:Tells prog w A.in1 I fp ord St)(hS:S∉fp)(hz:ord.length<=10000)(hT:s.TypeIs (.ref r) "set")(st:St 0 s.heap)(hl:s.heap.get? S=aA (Ez #[] c)){f:Bool->Bool}
  (hR:∀h' c',(∀b x,b≠S->b≠I->s.heap.get? b=aA x->h'.get? b=aA x)->h'.get? S=aA (Ez ord.toArray c')->R (.ok (.ret res)) {s with heap:=h'}):
  bj (cf prog w) A.in1 (do
   let room<-holding [.ref I] (Builtin.List.listLengthHint (.ref r))
   if f room=aC then do
    rule "list.extend.makes-room"
    Builtin.List.listTouch (.ref S)
    again (.builtin "list.extend.loop" ⟨[.ref S,.ref I,res],[]⟩)
   else again (.builtin "list.extend.loop" ⟨[.ref S,.ref I,res],[]⟩))
   (λfin s'=>match fin with| .done f=>R (.ok f) s'| .again c'=>c'.quiet=aC/\codeAny (cf prog w) A c' R s') (λe s'=>R (.error e) s') s:=by
 refine ab (wpAny_holding (tS hT ?_));refine wpAny_ite_split (λ_=>?_) (λ_=>af ⟨plainId_quiet PySem.F.plain_extend_loop _,Hv T hS hz res ord.length 0 s c (by omega) st (by simpa using hl) hR⟩);refine ab (wpAny_rule (ab ?_));show bj _ _ (updateSeq S (·.push .none) >>=λ_=>updateSeq S (·.pop)) _ _ _;refine ab (wpAny_updateSeq hl rfl ?_);have l2:=Heap.get?_update_self (dm (·.push cn)) hl rfl;refine wpAny_updateSeq (hz:=by seq_fits) l2 rfl ?_;have l3:=Heap.get?_update_self (dm (·.pop)) l2 rfl;have GQ:∀b x,b≠S->s.heap.get? b=aA x->((s.heap.update S (dm (·.push cn))).update S (dm (·.pop))).get? b=aA x:=
  λb x hb e=>(Heap.get?_update_other _ _ (Ne.symm hb)).trans ((Heap.get?_update_other _ _ (Ne.symm hb)).trans e)
 refine af ⟨plainId_quiet PySem.F.plain_extend_loop _,Hv T hS hz res ord.length 0 _ _ (by omega) (T.keep _ _ _ st λb hb x e=>GQ b x (λz=>hS (z▸hb)) e) l3 λh' c' k g=>?_⟩;exact hR h' c' (λb x hb hI e=>k b x hb hI (GQ b x hb e)) g
theorem xJ{R:Result->ao->Prop}{res:aj}{c:Nat}(hh:A.handled=aB)(ho:s.heap.get? r=aA o)(hx:o.ExactSet)(hd:o.data= .set es ep t)(hf:t.fits es.size=aC)(XA:t.led= !By w)(rise:t.plain=aC->Bh t.place.toList)(hr:es.size<=1000)(hS:S≠r)(hl:s.heap.get? S=aA (Ez #[] c))
  (hR:∀(h':d6) d c' (ord:List aj),ord.Perm (es.toList.map (·.2))->(∀b x,b≠S->s.heap.get? b=aA x->h'.get? b=aA x)->h'.get? S=aA (Ez ord.toArray c')->R (.ok (.ret res)) {s with heap:=h',drawn:=d}):
  bj (cf prog w) A.in1 (Builtin.List.listExtendWith (.ref S) (.ref r) res) (λfin s'=>match fin with| .done f=>R (.ok f) s'| .again c'=>c'.quiet=aC/\codeAny (cf prog w) A c' R s') (λe s'=>R (.error e) s') s:=by
 have hb:es.size<scanBound:=by unfold scanBound;omega
 have zY:t.place.size=es.size:=by unfold SetTable.fits at hf;simp only[Bool.and_eq_true,beq_iff_eq]at hf;exact hf.1
 have hT:s.TypeIs (.ref r) "set":=⟨o,ho,hx.1⟩
 have K':S<s.heap.objs.size:=bp hl;have U':r<s.heap.objs.size:=bp ho;unfold Builtin.List.listExtendWith;refine ab (wpAny_typeOf (T:="set") hT ?_);have z1:Builtin.List.listSameRef (.ref S) (.ref r)=aD:=by simp[Builtin.List.listSameRef,hS]
 have z2:(Value.type "set"==Value.type "list")=aD:=by decide
 have z3:(Value.type "set"==Value.type "tuple")=aD:=by decide
 simp only[z1,z2,z3,Bool.or_false,bu,if_false];have PD:A.in1.handled=aB:=hh;refine ab (tT ho hx hd hf hb (λhc=>?_) λhc ps d hp=>?_)
 .have rI:r≠s.heap.objs.size:=cm U';have SI:S≠s.heap.objs.size:=cm K';have nf:S∉[s.heap.objs.size,r]:=by simp only[ay,List.not_mem_nil,or_false,not_or];exact⟨SI,hS⟩
  have old:∀b x,s.heap.get? b=aA x->b≠s.heap.objs.size:=λb x e=>cm (bp e);cases hB:By w with
  |false=>
   have WC:t.led=aC:=by rw[XA,hB];rfl
   have hp:(!t.plain&&decide (es.size > 1))=aD:=by rw[hB]at hc;simpa using hc
   have rise:Bh t.place.toList:=by
    cases ZO:t.plain with
    |true=>exact rise ZO
    |false=>
     rw[ZO]at hp;have:¬es.size > 1:=by simpa using hp
     unfold Bh;have hle:t.place.toList.length<=1:=by rw[bf];omega
     match hq:t.place.toList,hle with
     | [],_=>exact List.Pairwise.nil
     | [a],_=>exact List.pairwise_singleton _ _
   refine Lw (V6 PD rI hd hf hB WC hp rise zY) nf (by rw[ah,bf];omega) ⟨o,ar _ ho,hx.1⟩ ⟨bo _ rfl,ar _ ho⟩ (ar _ hl) (f:=λb=>b||_) λh' c' k g=>?_;exact hR h' s.drawn c' _ (List.Perm.refl _) (λb x hb e=>k b x hb (old b x e) (ar _ e)) g
  |true=>have pp:=qI (w.params.setOrder r ep) es;refine Lw (oY PD rI hd hf hB) nf (by rw[ah,pp.length_eq,bf];omega) ⟨o,ar _ ho,hx.1⟩ ⟨bo _ rfl,ar _ ho⟩ (ar _ hl) (f:=λb=>b||_) λh' c' k g=>?_;exact hR h' s.drawn c' _ (pp.map _) (λb x hb e=>k b x hb (old b x e) (ar _ e)) g
 .have zZ:∀p∈ps,p<es.size:=λp hq=>cr.mp (hp.mem_iff.mp hq);have rI:r≠s.heap.objs.size+1:=cm (Nat.lt_succ_of_lt U');have TI:s.heap.objs.size≠s.heap.objs.size+1:=cm (Nat.lt_succ_self _);have nf:S∉[s.heap.objs.size+1,r,s.heap.objs.size]:=by simp only[ay,List.not_mem_nil,or_false,not_or];exact⟨cm (Nat.lt_succ_of_lt K'),hS,cm K'⟩
  have up:∀b x,s.heap.get? b=aA x->((s.heap.push (Rx ps)).push (S3 (.ref s.heap.objs.size) 0 r es.size ep)).get? b=aA x:=λb x e=>ar _ (ar _ e);have zK:(s.heap.push (Rx ps)).objs.size=s.heap.objs.size+1:=Heap.size_push _ _;have gI:((s.heap.push (Rx ps)).push (S3 (.ref s.heap.objs.size) 0 r es.size ep)).get? (s.heap.objs.size+1)=aA (S3 (.ref s.heap.objs.size) 0 r es.size ep):=by rw[<-zK];exact bo _ rfl
  have gT:((s.heap.push (Rx ps)).push (S3 (.ref s.heap.objs.size) 0 r es.size ep)).get? s.heap.objs.size=aA (Rx ps):=ar _ (bo _ rfl);have pl:(ps.map λp=>es.getD p (0,cn)).Perm es.toList:=by
   refine(hp.map _).trans ?_;have:(df es.size).map (λp=>es.getD p (0,cn))=es.toList:=by
    apply List.ext_getElem?;intro i;rw[bg];by_cases hi:i<es.size
    .rw[List.getElem?_range hi,c7];simp[Array.getD,hi]
    .rw[dj (by simpa using hi),dj (by simpa using hi)];rfl
   rw[this]
  have eo:(ps.map λp=>(es.getD p (0,cn)).2)=(ps.map λp=>es.getD p (0,cn)).map (·.2):=by rw[cu];rfl
  refine Lw (s:={s with heap:=(s.heap.push (Rx ps)).push (S3 (.ref s.heap.objs.size) 0 r es.size ep),drawn:=d}) (V7 PD rI TI hd hf zZ) nf (by rw[ah,hp.length_eq,List.length_range];omega) ⟨o,up _ _ ho,hx.1⟩ ⟨gI,up _ _ ho,gT⟩ (up _ _ hl) (f:=λb=>b||_) λh' c' k g=>?_;rw[eo]at g;exact hR h' d c' _ (pl.map _) (λb x hb e=>k b x hb (cm (Nat.lt_succ_of_lt (bp e))) (up b x e)) g
end
section
variable{prog:cg}{w:c8}{A:dh}{E:aj->ao->Prop}{s:ao}{r:aq}{o:Obj}{ks:List Int}
theorem qH{es:Array (Int×aj)}{ep:Nat}{t:gn}{Q:List aj->ao->Prop}(hh:A.handled=aB)(ho:s.heap.get? r=aA o)(hx:o.ExactSet)(hd:o.data= .set es ep t)(hf:t.fits es.size=aC)(XA:t.led= !By w)(rise:t.plain=aC->Bh t.place.toList)(hr:es.size<=1000)
  (h:∀(ord:List aj) (h':d6) d,ord.Perm (es.toList.map (·.2))->(∀b x,s.heap.get? b=aA x->h'.get? b=aA x)->s.heap.objs.size<=h'.objs.size->Q ord {s with heap:=h',drawn:=d}):bj (cf prog w) A (collect (.ref r)) Q E s:=by
 have U':r<s.heap.objs.size:=bp ho;have nS:s.heap.objs.size≠r:=Nat.ne_of_gt U';unfold collect;refine ab (wpAny_runValue (gy PySem.F.entry_proto_collect ?_));rw[ft PySem.F.plain_proto_collect _];show bj _ A.in1 (newList [] >>=λl=>again (.builtin "list.__iadd__" ⟨[l,.ref r],[]⟩)) _ _ s;refine ab (di ?_);refine af ⟨plainId_quiet PySem.F.plain_list_iadd _,gy PySem.F.entry_list_iadd ?_⟩;rw[ft PySem.F.plain_list_iadd _];show bj _ A.in1 (Builtin.List.listExtendWith (.ref s.heap.objs.size) (.ref r) (.ref s.heap.objs.size)) _ _ _;refine xJ (R:=λrr s'=>match rr with
  | .ok (.ret v)=>bj (cf prog w) A (match v with
   | .ref a=>(load a >>=λx=>match x.data with
    | .seq xs _=>pure xs.toList
    |_=>unsupported "internal:collect")
   |_=>unsupported "internal:collect") Q E s'
  | .ok _=>False
  | .error e=>E e s') (s:={s with heap:=s.heap.push (Ez #[] 0)}) (c:=0) hh (ar _ ho) hx hd hf XA rise hr nS (bo _ rfl) λh' d c' ord hp hk g=>?_
 show bj _ A (load s.heap.objs.size >>=_) _ _ _;refine ab (wpAny_load g ?_);refine af ?_;have e:ord.toArray.toList=ord:=by simp
 show Q ord.toArray.toList _;rw[e];exact h ord h' d hp (λb x e=>hk b x (cm (bp e)) (ar _ e)) (Nat.le_of_lt (bp g))
end
def srt(ns:List Int):List Int:=(dd (λi=>ns.getD i 0) ns.length).mergeSort λa b=>decide (a<=b)
section
variable{X:Cx}
theorem mE.drawnAt{n_:List (aq×Obj)}{σ:St}{H:Hp}{s:ao}(I:mE X n_ σ H s)(d:_):mE X n_ σ H {s with drawn:=d}:=
 ⟨I.ok,I.os,I.bare,I.base,I.loc,I.cell,I.free,I.freeC,I.pin,I.hok,I.len⟩
theorem Ui:bootBuiltins "sorted"=aA (.builtin "sorted"):=by kernel_rfl
theorem qG:bootBuiltins "set"=aA (.type "set"):=by kernel_rfl
end
section
variable{K:ad}
end
section
open PySem.W
def Wx{α:Type}(lt:Nat->Nat->Bool)(n:Nat)(R:α->Prop):KasT α->Prop
 | .ret a=>R a
 | .ask i j k=>i<n/\j<n/\Wx lt n R (k (lt i j))
theorem Wx.bind{α β:Type}{lt:Nat->Nat->Bool}{n:Nat}{R:α->Prop}{S:β->Prop}{f:α->KasT β}(h:∀a,R a->Wx lt n S (f a)):∀{t:KasT α},Wx lt n R t->Wx lt n S (t.bind f)
 | .ret a,g=>h a g
 | .ask i j k,g=>⟨g.1,g.2.1,Wx.bind h (t:=k (lt i j)) g.2.2⟩
theorem Wx.mono{α:Type}{lt:Nat->Nat->Bool}{n:Nat}{R S:α->Prop}(h:∀a,R a->S a):∀{t:KasT α},Wx lt n R t->Wx lt n S t
 | .ret a,g=>h a g
 | .ask i j k,g=>⟨g.1,g.2.1,Wx.mono h (t:=k (lt i j)) g.2.2⟩
theorem Wx.wp{α:Type}{lt:Nat->Nat->Bool}{n:Nat}{R:α->Prop}{cmp:Nat->Nat->(Bool->ao->Prop)->ao->Prop}{I:ao->Prop}{Q:α->ao->Prop}
  (hc:∀i j C s,i<n->j<n->I s->(∀s',I s'->C (lt i j) s')->cmp i j C s) (hq:∀a s,R a->I s->Q a s):∀{t:KasT α} {s:ao},Wx lt n R t->I s->t.kasWp cmp Q s
 | .ret a,s,g,i=>hq a s g i
 | .ask i j k,s,g,x=>hc i j _ s g.1 g.2.1 x λs' x'=>Wx.wp hc hq (t:=k (lt i j)) g.2.2 x'
section
variable{O:KeyOrd}{key:Nat->O.α}{n:Nat}
noncomputable abbrev E4(O:KeyOrd)(key:Nat->O.α)(i j:Nat):Bool:=O.blt (key i) (key j)
noncomputable def Kp(key:Nat->O.α)(p:Array Nat)(i:Nat):O.α:=key (p.getD i 0)
def Lx(key:Nat->O.α)(p:Array Nat)(k:Nat):Prop:=∀i j,i<=j->j<k->O.kle (Kp key p i) (Kp key p j)
def Dec(key:Nat->O.α)(p:Array Nat)(k:Nat):Prop:=∀i j,i<=j->j<k->O.kle (Kp key p j) (Kp key p i)
def Pm(n:Nat)(p:Array Nat):Prop:=p.Perm (List.toArray (df n))
theorem Pm.size{p:Array Nat}(h:Pm n p):p.size=n:=by have:=(Array.perm_iff_toList_perm.mp h).length_eq;simpa using this
theorem Pm.lt{p:Array Nat}(h:Pm n p){i:Nat}(hi:i<n):p.getD i 0<n:=by
 have hs:i<p.size:=by rw[h.size];exact hi
 have hm:p[i]∈(df n):=(Array.perm_iff_toList_perm.mp h).mem_iff.mp (by simp);rw[Array.getD_eq_getD_getElem?,getElem?_pos p i hs];exact cr.mp hm
theorem Bi{p q:Array Nat}{i j:Nat}(h:p[i]? =q[j]?):Kp key p i=Kp key q j:=by unfold Kp;rw[Array.getD_eq_getD_getElem?,Array.getD_eq_getD_getElem?,h]
theorem Af{p:Array Nat}{i j:Nat}(hj:j<=p.size)(k:Nat):Kp key (kas_rev p i j) k=if i<=k/\k<j then Kp key p (i+j- 1- k)else Kp key p k:=by
 have e:=getElem?_mirror_all (xs:=p) (i:=i) hj k;unfold kas_rev;by_cases h:i<=k/\k<j
 .rw[m6 h]at e⊢;exact Bi e
 .rw[m4 h]at e⊢;exact Bi e
theorem BY{p:Array Nat}{src d:Nat}(hs:src<p.size)(hd:d<=src)(k:Nat):Kp key (bubble p src d) k=if k=src- d then Kp key p src else if src- d<k/\k<=src then Kp key p (k- 1)else Kp key p k:=by
 have e:=getElem?_bubble hs d hd k;by_cases h1:k=src- d
 .rw[m6 h1]at e⊢;exact Bi e
 .rw[m4 h1]at e⊢;by_cases h2:src- d<k/\k<=src
  .rw[m6 h2]at e⊢;exact Bi e
  .rw[m4 h2]at e⊢;exact Bi e
theorem Pm.rev{p:Array Nat}(h:Pm n p)(i j:Nat):Pm n (kas_rev p i j):=(mirror_perm p i j _).trans h
theorem Pm.bub{p:Array Nat}(h:Pm n p)(i j:Nat):Pm n (bubble p i j):=(bubble_perm p i j).trans h
theorem Ah{p:Array Nat}(hp:Pm n p):∀(f m:Nat),1<=m->m+f<=n->Lx key p m->
  Wx (E4 O key) n (λr=>m<=r/\r<=m+f/\Lx key p r/\(r=m+f\/O.klt (Kp key p r) (Kp key p (r- 1)))) (kas_asc p f m)
 |0,m,_,_,hs=>⟨bc _,bc _,hs,.inl rfl⟩
 |f+1,m,h1,hm,hs=>by
  refine⟨hp.lt (by omega),hp.lt (by omega),?_⟩;show Wx _ _ _ (if O.blt (Kp key p m) (Kp key p (m- 1))=aC then _ else _);by_cases c:O.blt (Kp key p m) (Kp key p (m- 1))=aC
  .rw[m6 c];exact⟨bc _,by omega,hs,.inr c⟩
  .rw[m4 c];refine(Ah hp f (m+1) (by omega) (by omega) λi j YW hj=>?_).mono λr ⟨a,b,d,e⟩=>⟨by omega,by omega,d,by rcases e with e|e;exact .inl (by omega);exact .inr e⟩
   by_cases QX:j<m
   .exact hs i j YW QX
   .have:j=m:=by omega
    subst this;by_cases hi:i=j
    .subst hi;exact KeyOrd.kle_refl _
    .exact KeyOrd.kle_trans (hs i (j- 1) (by omega) (by omega)) (KeyOrd.kle_of_not_klt c)
theorem Cb:∀(f:Nat) (p:Array Nat) (m q:Nat),Pm n p->1<=m->m+f<=n->Dec key p m->q+1<=m->(∀i,m- (q+1)<=i->i<m->Kp key p i=Kp key p (m- 1))->
  Wx (E4 O key) n (λr=>Pm n r.1/\m<=r.2.1/\r.2.1<=m+f/\Dec key r.1 r.2.1/\r.2.2+1<=r.2.1/\∀i,r.2.1- (r.2.2+1)<=i->i<r.2.1->Kp key r.1 i=Kp key r.1 (r.2.1- 1)) (kas_desc f p m q)
 |0,p,m,q,hp,_,_,hs,hq,he=>⟨hp,bc _,bc _,hs,hq,he⟩
 |f+1,p,m,q,hp,h1,hm,hs,hq,he=>by
  have hsz:m<=p.size:=by rw[hp.size];omega
  refine⟨hp.lt (by omega),hp.lt (by omega),?_⟩;show Wx _ _ _ (if O.blt (Kp key p m) (Kp key p (m- 1))=aC then _ else _);have up:∀{r:Array Nat×Nat×Nat},(Pm n r.1/\m+1<=r.2.1/\r.2.1<=m+1+f/\Dec key r.1 r.2.1/\r.2.2+1<=r.2.1/\∀i,r.2.1- (r.2.2+1)<=i->i<r.2.1->Kp key r.1 i=Kp key r.1 (r.2.1- 1))->
    (Pm n r.1/\m<=r.2.1/\r.2.1<=m+(f+1)/\Dec key r.1 r.2.1/\r.2.2+1<=r.2.1/\∀i,r.2.1- (r.2.2+1)<=i->i<r.2.1->Kp key r.1 i=Kp key r.1 (r.2.1- 1)):=
   λ⟨a,b,c,d⟩=>⟨a,by omega,by omega,d⟩
  have US:∀x:Array Nat,O.blt (Kp key p m) (Kp key p (m- 1))=aC->(∀k,Kp key x k=Kp key p k)->Dec key x (m+1):=by
   intro x c hk i j YW hj;rw[hk,hk];by_cases hjx:j<m
   .exact hs i j YW hjx
   .have VX:j=m:=by omega
    subst VX;by_cases VY:i=j
    .subst VY;exact KeyOrd.kle_refl _
    .exact KeyOrd.kle_trans (KeyOrd.kle_of_klt c) (hs i (j- 1) (by omega) (by omega))
  have one:∀x:Array Nat,∀i,m+1- (0+1)<=i->i<m+1->Kp key x i=Kp key x (m+1- 1):=λx i a b=>by congr 1;omega
  by_cases c:O.blt (Kp key p m) (Kp key p (m- 1))=aC
  .rw[m6 c];by_cases hq0:q > 0
   .rw[m6 hq0];refine(Cb f (kas_rev p (m- (q+1)) m) (m+1) 0 (hp.rev _ _) (by omega) (by omega) (US _ c λk=>?_) (by omega) (one _)).mono λr=>up;rw[Af hsz];by_cases hk:m- (q+1)<=k/\k<m
    .rw[m6 hk,he _ (by omega) (by omega),he k hk.1 hk.2]
    .rw[m4 hk]
   .rw[m4 hq0];exact(Cb f p (m+1) 0 hp (by omega) (by omega) (US _ c λ_=>rfl) (by omega) (one _)).mono λr=>up
  .rw[m4 c];refine⟨hp.lt (by omega),hp.lt (by omega),?_⟩;show Wx _ _ _ (if O.blt (Kp key p (m- 1)) (Kp key p m)=aC then _ else _);by_cases d:O.blt (Kp key p (m- 1)) (Kp key p m)=aC
   .rw[m6 d];exact⟨hp,bc _,Nat.le_add_right _ _,hs,hq,he⟩
   .rw[m4 d];have ex:Kp key p m=Kp key p (m- 1):=KeyOrd.kle_antisymm (by simpa[KeyOrd.kle]using d) (by simpa[KeyOrd.kle]using c);refine(Cb f p (m+1) (q+1) hp (by omega) (by omega) (λi j YW hj=>?_) (by omega) λi a b=>?_).mono λr=>up
    .by_cases hjx:j<m
     .exact hs i j YW hjx
     .have VX:j=m:=by omega
      subst VX;by_cases VY:i=j
      .subst VY;exact KeyOrd.kle_refl _
      .rw[ex];exact hs i (j- 1) (by omega) (by omega)
    .rw[show m+1- 1=m by omega];by_cases hix:i=m
     .subst hix;rfl
     .rw[ex];exact he i (by omega) (by omega)
abbrev Ct(key:Nat->O.α)(n:Nat)(r:Nat×Array Nat):Prop:=Pm n r.2/\1<=r.1/\r.1<=n/\Lx key r.2 r.1
theorem Ai{p:Array Nat}(hp:Pm n p){m:Nat}(h1:1<=m)(hm:m<=n)(hs:Dec key p m):Wx (E4 O key) n (Ct key n) (kas_tail3 m n p):=by
 have hsz:m<=p.size:=by rw[hp.size];exact hm
 refine Wx.bind (R:=λr=>m<=r/\r<=m+(n- m)/\Lx key (kas_rev p 0 m) r/\_) (λr ⟨a,b,c,_⟩=>⟨hp.rev _ _,by show 1<=r;omega,by show r<=n;omega,c⟩) (Ah (hp.rev 0 m) (n- m) m h1 (by omega) λi j YW hj=>?_);rw[Af hsz,Af hsz,m6 (by omega),m6 (by omega)];exact hs _ _ (by omega) (by omega)
theorem Cq{p:Array Nat}(hp:Pm n p){m:Nat}(hm:m+1<=n)(hs:Dec key p (m+1)):Wx (E4 O key) n (Ct key n) (kas_descPart m n p):=by
 refine Wx.bind (λr h=>?_) (Cb (n- (m+1)) p (m+1) 0 hp (by omega) (by omega) hs (by omega) λi a b=>by congr 1;omega);obtain⟨a,b,c,d,e,g⟩:=h;have hsz:r.2.1<=r.1.size:=by rw[a.size];omega
 by_cases hq:r.2.2 > 0
 .rw[m6 hq];refine Ai (a.rev _ _) (by omega) (by omega) λi j YW hj=>?_;have k:∀x,Kp key (kas_rev r.1 (r.2.1- (r.2.2+1)) r.2.1) x=Kp key r.1 x:=λx=>by
   rw[Af hsz];by_cases hk:r.2.1- (r.2.2+1)<=x/\x<r.2.1
   .rw[m6 hk,g _ (by omega) (by omega),g x hk.1 hk.2]
   .rw[m4 hk]
  rw[k,k];exact d i j YW hj
 .rw[m4 hq];exact Ai a (by omega) (by omega) d
theorem V8{p:Array Nat}(hp:Pm n p)(h1:1<=n):Wx (E4 O key) n (Ct key n) (kas_count n p):=by
 refine Wx.bind (λm h=>?_) (Ah (key:=key) hp (n- 1) 1 (bc _) (by omega) λi j YW hj=>by(have:i=j:=by omega);subst this;exact KeyOrd.kle_refl _);obtain⟨a,b,c,d⟩:=h;by_cases hm:(m==n)=aC
 .rw[m6 hm];exact⟨hp,a,by show m<=n;omega,c⟩
 .rw[m4 hm];have VE:m≠n:=λz=>hm (by rw[z];exact beq_self_eq_true n);have br:O.klt (Kp key p m) (Kp key p (m- 1)):=by
   rcases d with d|d
   .omega
   .exact d
  by_cases h2:m > 1
  .rw[m6 h2];refine⟨hp.lt (by omega),hp.lt (by omega),?_⟩;show Wx _ _ _ (if O.blt (Kp key p 0) (Kp key p (m- 1))=aC then _ else _);by_cases c0:O.blt (Kp key p 0) (Kp key p (m- 1))=aC
   .rw[m6 c0];exact⟨hp,a,by show m<=n;omega,c⟩
   .rw[m4 c0];have hsz:m<=p.size:=by rw[hp.size];omega
    have eq:∀i,i<m->Kp key p i=Kp key p (m- 1):=λi hi=>
     KeyOrd.kle_antisymm (c i (m- 1) (by omega) (by omega)) (KeyOrd.kle_trans (by simpa[KeyOrd.kle]using c0) (c 0 i (by omega) hi))
    have k:∀x,Kp key (kas_rev p 0 m) x=Kp key p x:=λx=>by
     rw[Af hsz];by_cases hk:0<=x/\x<m
     .rw[m6 hk,eq _ (by omega),eq x hk.2]
     .rw[m4 hk]
    refine Cq (hp.rev 0 m) (by omega) λi j YW hj=>?_;rw[k,k];by_cases QX:j=m
    .subst QX;by_cases hi:i=j
     .subst hi;exact KeyOrd.kle_refl _
     .rw[eq i (by omega)];exact KeyOrd.kle_of_klt br
    .rw[eq i (by omega),eq j (by omega)];exact KeyOrd.kle_refl _
  .rw[m4 h2];have:m=1:=by omega
   subst this;refine Cq hp (by omega) λi j YW hj=>?_;by_cases hi:i=j
   .subst hi;exact KeyOrd.kle_refl _
   .have:i=0:=by omega
    subst this;have:j=1:=by omega
    subst this;exact KeyOrd.kle_of_klt br
theorem C0{p:Array Nat}(hp:Pm n p){k:Nat}(hk:k<n)(hs:Lx key p k):∀(f l r:Nat),l<=r->r<=k->r- l<=f->(∀i,i<l->O.kle (Kp key p i) (Kp key p k))->(∀i,r<=i->i<k->O.kle (Kp key p k) (Kp key p i))->
  Wx (E4 O key) n (λm=>m<=k/\(∀i,i<m->O.kle (Kp key p i) (Kp key p k))/\∀i,m<=i->i<k->O.kle (Kp key p k) (Kp key p i)) (kas_place p k f l r)
 |0,l,r,U',hr,hf,h1,h2=>⟨by omega,h1,λi a b=>h2 i (by omega) b⟩
 |f+1,l,r,U',hr,hf,h1,h2=>by
  show Wx _ _ _ (if l>=r then _ else _);by_cases c:l>=r
  .rw[m6 c];exact⟨by omega,h1,λi a b=>h2 i (by omega) b⟩
  .rw[m4 c];refine⟨hp.lt hk,hp.lt (by omega),?_⟩;show Wx _ _ _ (if O.blt (Kp key p k) (Kp key p ((l+r) / 2))=aC then _ else _);by_cases d:O.blt (Kp key p k) (Kp key p ((l+r) / 2))=aC
   .rw[m6 d];exact C0 hp hk hs f l ((l+r) / 2) (by omega) (by omega) (by omega) h1 λi a b=>KeyOrd.kle_trans (KeyOrd.kle_of_klt d) (hs _ i a b)
   .rw[m4 d];exact C0 hp hk hs f ((l+r) / 2+1) r (by omega) hr (by omega) (λi a=>KeyOrd.kle_trans (hs i ((l+r) / 2) (by omega) (by omega)) (KeyOrd.kle_of_not_klt d)) h2
theorem P7:∀(f:Nat) (p:Array Nat) (k:Nat),Pm n p->k+f=n->Lx key p k->Wx (E4 O key) n (λq=>Pm n q/\Lx key q n) (kas_bin f p k)
 |0,p,k,hp,hk,hs=>⟨hp,by(have:k=n:=hk);rw[<-this];exact hs⟩
 |f+1,p,k,hp,hk,hs=>by
  refine Wx.bind (λl h=>?_) (C0 hp (by omega) hs k 0 k (dk _) (bc _) (by omega) (λi hi=>m_ hi (dz _)) λi a b=>m_ b (by omega));obtain⟨hl,a,b⟩:=h;have hsz:k<p.size:=by rw[hp.size];omega
  refine P7 f (bubble p k (k- l)) (k+1) (hp.bub _ _) (by omega) λi j YW hj=>?_;rw[BY hsz (by omega),BY hsz (by omega)];have e:k- (k- l)=l:=by omega
  rw[e];by_cases i1:i=l
  .rw[m6 i1];by_cases j1:j=l
   .rw[m6 j1];exact KeyOrd.kle_refl _
   .rw[m4 j1,m6 (by omega)];exact b (j- 1) (by omega) (by omega)
  .rw[m4 i1];by_cases i2:l<i/\i<=k
   .rw[m6 i2,m4 (by omega),m6 (by omega)];exact hs _ _ (by omega) (by omega)
   .rw[m4 i2];by_cases j1:j=l
    .rw[m6 j1];exact a i (by omega)
    .rw[m4 j1];by_cases j2:l<j/\j<=k
     .rw[m6 j2];exact hs _ _ (by omega) (by omega)
     .rw[m4 j2];exact hs _ _ YW (by omega)
theorem Ff(h1:1<=n):Wx (E4 O key) n (λq=>Pm n q/\Lx key q n) (kas_sort n):=by
 refine Wx.bind (λr h=>?_) (V8 (key:=key) (Array.Perm.refl _) h1);obtain⟨a,b,c,d⟩:=h;by_cases hr:r.1<n
 .rw[m6 hr];have e:max r.1 1=r.1:=by omega
  rw[e];exact P7 _ _ _ a (by omega) d
 .rw[m4 hr];have:r.1=n:=by omega
  exact⟨a,by rw[this]at d;exact d⟩
end
end
section
open PySem.SeqAt
open AutoSeq1 (wpAny_loadPart')
open MeetsSeq MeetsSeq2 MeetsSeq3 SeqRoads2
def Uq(A:dh)(s:ao)(y x:aj)(b:Bool):Prop:=
 ∀(prog:cg) (w:c8) (E:aj->ao->Prop) (Q:aj->ao->Prop),Q (.bool b) s->bj (cf prog w) A (richCompare .Lt y x) Q E s
noncomputable def Jg(fin:Bool)(e l:Nat->Bool):Nat->Nat->Bool
 |0,_=>fin
 |k+1,i=>if e i=aC then Jg fin e l k (i+1)else l i
theorem oW(l b:aq)(mB ZA:Array aj)(n n2:Nat)(dd WK:Option aq)(sl XF:Array (Option aj))(e lt:Nat->Bool)(k:Nat):
  ∀i:Nat,(∀j,j<i->e j=aC)->min mB.size ZA.size- i=k->Meets (Builtin.«list.__eq__.loop» ⟨[.ref l,.ref b,rawInt i,rawInt 0],[]⟩)
   (λA R s=>s.heap.get? l=aA {cls:=.type "list",dict:=dd,data:=.seq mB n,slots:=sl}/\s.heap.get? b=aA {cls:=.type "list",dict:=WK,data:=.seq ZA n2,slots:=XF}/\
    (∀j (h1:j<mB.size) (h2:j<ZA.size),(∀i,i<j->e i=aC)->EqAt A.in1 s mB[j] ZA[j] (e j))/\(∀j (h1:j<mB.size) (h2:j<ZA.size),(∀i,i<j->e i=aC)->e j=aD->Uq A.in1 s mB[j] ZA[j] (lt j))/\
    R (.ok (.ret (.bool (Jg (decide (mB.size<ZA.size)) e lt k i)))) s):=by
 induction k with
 |zero=>
  intro i ZQ hk prog w A R s h;obtain⟨hp,g,d,tk,os⟩:=s;obtain⟨hl,hb,he,ht,h⟩:=h;wp_walk using dr hl,dr hb;have hi:mB[((i:Nat):Int).toNat]? =aB\/ZA[((i:Nat):Int).toNat]? =aB:=by
   rcases dv i mB.size with z|z
   .right;simp;omega
   .left;simp;omega
  rcases h1:mB[((i:Nat):Int).toNat]? with _|x
  .wp_walk using dr hl,dr hb;exact h
  .rcases hi with hi|hi
   .rw[h1]at hi;cases hi
   .rw[hi];wp_walk using dr hl,dr hb;exact h
 |succ k ih=>
  intro i ZQ hk prog w A R s h;obtain⟨hp,g,d,tk,os⟩:=s;obtain⟨hl,hb,he,ht,h⟩:=h;wp_walk using dr hl,dr hb;have ZL:i<mB.size:=by omega
  have SJ:i<ZA.size:=by omega
  have EI:mB[((i:Nat):Int).toNat]? =aA mB[i]:=by simp[ZL]
  have EH:ZA[((i:Nat):Int).toNat]? =aA ZA[i]:=by simp[SJ]
  have hc:((i:Int)+1)=((i+1:Nat):Int):=by push_cast;rfl
  rw[EI,EH];refine ab (he i ZL SJ ZQ prog w _ _ ?_);cases ZX:e i with
  |true=>
   have h':R (.ok (.ret (.bool (Jg (decide (mB.size<ZA.size)) e lt k (i+1))))) ⟨hp,g,d,tk,os⟩:=by have z:=h;unfold Jg at z;rw[m6 ZX]at z;exact z
   wp_walk;rw[hc];exact⟨plainId_quiet plain_eq_loop _,gy entry_eq_loop (by
    rw[ft plain_eq_loop _];exact ih (i+1) (λj hj=>by
     rcases dv j i with z|z
     .exact ZQ j z
     .have:j=i:=by omega
      rw[this];exact ZX) (by omega) prog w A R _ ⟨hl,hb,he,ht,h'⟩)⟩
  |false=>
   have h':R (.ok (.ret (.bool (lt i)))) ⟨hp,g,d,tk,os⟩:=by have z:=h;unfold Jg at z;rw[m4 (by rw[ZX];simp)]at z;exact z
   wp_walk using dr hl,dr hb;rw[EI,EH];refine ab (ht i ZL SJ ZQ ZX prog w _ _ ?_);wp_walk;exact h'
theorem Fg(l b:aq)(mB ZA:Array aj)(n n2:Nat)(dd WK:Option aq)(sl XF:Array (Option aj))(e lt:Nat->Bool):
  Meets (Builtin.«list.__lt__» ⟨[.ref l,.ref b],[]⟩)
   (λA R s=>s.heap.get? l=aA {cls:=.type "list",dict:=dd,data:=.seq mB n,slots:=sl}/\s.heap.get? b=aA {cls:=.type "list",dict:=WK,data:=.seq ZA n2,slots:=XF}/\
    (∀j (h1:j<mB.size) (h2:j<ZA.size),(∀i,i<j->e i=aC)->EqAt A.in1 s mB[j] ZA[j] (e j))/\(∀j (h1:j<mB.size) (h2:j<ZA.size),(∀i,i<j->e i=aC)->e j=aD->Uq A.in1 s mB[j] ZA[j] (lt j))/\
    R (.ok (.ret (.bool (Jg (decide (mB.size<ZA.size)) e lt (min mB.size ZA.size) 0)))) s):=by
 intro prog w A R s h;obtain⟨hp,g,d,tk,os⟩:=s;obtain⟨hl,hb,he,ht,h⟩:=h;have f3:=AutoSeq1.sub_list_list;wp_walk using dr hl,dr hb;exact⟨plainId_quiet plain_eq_loop _,gy entry_eq_loop (by
  rw[ft plain_eq_loop _];exact oW l b mB ZA n n2 dd WK sl XF e lt _ 0 (λj hj=>m_ hj (dz _)) rfl prog w A R _ ⟨hl,hb,he,ht,h⟩)⟩
theorem V9(l b:aq)(mB ZA:Array aj)(n n2:Nat)(dd WK:Option aq)(sl XF:Array (Option aj))(e lt:Nat->Bool):
  Meets (Builtin.«tuple.__lt__» ⟨[.ref l,.ref b],[]⟩)
   (λA R s=>s.heap.get? l=aA {cls:=.type "tuple",dict:=dd,data:=.seq mB n,slots:=sl}/\s.heap.get? b=aA {cls:=.type "tuple",dict:=WK,data:=.seq ZA n2,slots:=XF}/\
    (∀j (h1:j<mB.size) (h2:j<ZA.size),(∀i,i<j->e i=aC)->EqAt A.in1 s mB[j] ZA[j] (e j))/\(∀j (h1:j<mB.size) (h2:j<ZA.size),(∀i,i<j->e i=aC)->e j=aD->Uq A.in1 s mB[j] ZA[j] (lt j))/\
    R (.ok (.ret (.bool (Jg (decide (mB.size<ZA.size)) e lt (min mB.size ZA.size) 0)))) s):=
 .of_wp λprog w A R s h=>by
  obtain⟨hp,g,d,tk,os⟩:=s;obtain⟨hl,hb,he,ht,h⟩:=h;have f2:=AutoSeq1.sub_tuple_tuple;have hZ:(mB.toList.zip ZA.toList).length=min mB.size ZA.size:=by simp
  wp_walk using dr hl,dr hb,wpAny_forIn_list _ (λrest b s'=>b.1=aB/\s'=⟨hp,g,d,tk,os⟩/\∃i,rest=(mB.toList.zip ZA.toList).drop i/\(∀j,j<i->e j=aC)/\
   R (.ok (.ret (.bool (Jg (decide (mB.size<ZA.size)) e lt (min mB.size ZA.size- i) i)))) ⟨hp,g,d,tk,os⟩) _
  case turn=>
   rintro⟨y,x⟩ rest b s' ⟨ZX,rfl,i,hz,ZQ,hR⟩;have ZL:i<(mB.toList.zip ZA.toList).length:=by
    rcases dv i (mB.toList.zip ZA.toList).length with h'|h'
    .exact h'
    .rw[List.drop_of_length_le h']at hz;cases hz
   have hm:i<min mB.size ZA.size:=hZ▸ZL;have h1:i<mB.size:=de hm (Nat.min_le_left _ _);have h2:i<ZA.size:=de hm (Nat.min_le_right _ _);rw[List.drop_eq_getElem_cons ZL]at hz;injection hz with hyx hrest;have hy:y=mB[i]:=by have:=congrArg Prod.fst hyx;simpa using this
   have hx:x=ZA[i]:=by have:=congrArg Prod.snd hyx;simpa using this
   subst hy hx;have hk:min mB.size ZA.size- i=(min mB.size ZA.size- (i+1))+1:=by omega
   rw[hk]at hR;unfold Jg at hR;refine ab (he i h1 h2 ZQ prog w _ _ ?_);cases hy:e i with
   |true=>
    rw[m6 hy]at hR;wp_walk;exact⟨rfl,rfl,i+1,hrest,λj hj=>by
     rcases dv j i with z|z
     .exact ZQ j z
     .have:j=i:=by omega
      rw[this];exact hy,hR⟩
   |false=>rw[m4 (by rw[hy];simp)]at hR;simp only[Bool.not_false,if_true];refine ab (wpAny_rule (ab (ht i h1 h2 ZQ hy prog w _ _ ?_)));wp_walk;exact⟨_,rfl,hR⟩
  case fin=>
   rintro⟨b1,b2⟩ s' ⟨ZX,rfl,i,hz,ZQ,hR⟩;simp only at ZX;subst ZX;have JG:min mB.size ZA.size<=i:=by
    rcases dv i (mB.toList.zip ZA.toList).length with h'|h'
    .rw[List.drop_eq_getElem_cons h']at hz;cases hz
    .exact hZ▸h'
   have hk:min mB.size ZA.size- i=0:=by omega
   rw[hk]at hR;wp_walk;exact⟨_,rfl,hR⟩
  case h=>
   exact⟨rfl,rfl,0,rfl,λj hj=>m_ hj (dz _),by simpa using h⟩
section
variable{A:dh}{s:ao}
theorem Uq.lists{l b:aq}{mB ZA:Array aj}{e lt:Nat->Bool}(hl:s.heap.IsList l mB)(hb:s.heap.IsList b ZA)(hu:A.units<fj)
  (he:∀j (h1:j<mB.size) (h2:j<ZA.size),(∀i,i<j->e i=aC)->EqAt A.in1 s mB[j] ZA[j] (e j)) (ht:∀j (h1:j<mB.size) (h2:j<ZA.size),(∀i,i<j->e i=aC)->e j=aD->Uq A.in1 s mB[j] ZA[j] (lt j)):
  Uq A s (.ref l) (.ref b) (Jg (decide (mB.size<ZA.size)) e lt (min mB.size ZA.size) 0):=λprog w E Q h=>by
 obtain⟨⟨cls,dd,data,sl⟩,ho,hc,n,hd⟩:=id hl;obtain⟨⟨cls2,WK,data2,XF⟩,XT,WQ,n2,hd2⟩:=id hb;simp only at hc hd WQ hd2;subst hc hd WQ hd2;exact richCompare_meets_room (op:=.Lt) ⟨_,ho,rfl⟩ ⟨_,XT,rfl⟩ F.slot_list_lt F.entry_list_lt (F.args_list_lt_2 _ _) (Fg l b mB ZA n n2 dd WK sl XF e lt)
  ⟨ho,XT,he,ht,show Value.bool (Jg (decide (mB.size<ZA.size)) e lt (min mB.size ZA.size) 0)≠Value.notImplemented/\Q (.bool (Jg (decide (mB.size<ZA.size)) e lt (min mB.size ZA.size) 0)) s from⟨(λx=>nomatch x),h⟩⟩ hu
theorem Uq.tuples{l b:aq}{mB ZA:Array aj}{e lt:Nat->Bool}(hl:s.heap.IsTuple l mB)(hb:s.heap.IsTuple b ZA)(hu:A.units<fj)
  (he:∀j (h1:j<mB.size) (h2:j<ZA.size),(∀i,i<j->e i=aC)->EqAt A.in1 s mB[j] ZA[j] (e j)) (ht:∀j (h1:j<mB.size) (h2:j<ZA.size),(∀i,i<j->e i=aC)->e j=aD->Uq A.in1 s mB[j] ZA[j] (lt j)):
  Uq A s (.ref l) (.ref b) (Jg (decide (mB.size<ZA.size)) e lt (min mB.size ZA.size) 0):=λprog w E Q h=>by
 obtain⟨⟨cls,dd,data,sl⟩,ho,hc,n,hd⟩:=id hl;obtain⟨⟨cls2,WK,data2,XF⟩,XT,WQ,n2,hd2⟩:=id hb;simp only at hc hd WQ hd2;subst hc hd WQ hd2;exact richCompare_meets_room (op:=.Lt) ⟨_,ho,rfl⟩ ⟨_,XT,rfl⟩ F.slot_tuple_lt F.entry_tuple_lt (F.args_tuple_lt_2 _ _) (V9 l b mB ZA n n2 dd WK sl XF e lt)
  ⟨ho,XT,he,ht,show Value.bool (Jg (decide (mB.size<ZA.size)) e lt (min mB.size ZA.size) 0)≠Value.notImplemented/\Q (.bool (Jg (decide (mB.size<ZA.size)) e lt (min mB.size ZA.size) 0)) s from⟨(λx=>nomatch x),h⟩⟩ hu
def Cr(A:dh)(s:ao)(y x:aj)(b:Bool):Prop:=
 ∀(prog:cg) (w:c8) (E:aj->ao->Prop) (Q:Bool->ao->Prop),Q b s->bj (cf prog w) A (PyProof.Rows.oneLt' aC y x) Q E s
theorem Cr.lists{l b:aq}{mB ZA:Array aj}{e lt:Nat->Bool}(hl:s.heap.IsList l mB)(hb:s.heap.IsList b ZA)(hu:A.units<fj)
  (he:∀j (h1:j<mB.size) (h2:j<ZA.size),(∀i,i<j->e i=aC)->EqAt A.in1 s mB[j] ZA[j] (e j)) (ht:∀j (h1:j<mB.size) (h2:j<ZA.size),(∀i,i<j->e i=aC)->e j=aD->Uq A.in1 s mB[j] ZA[j] (lt j)):
  Cr A s (.ref l) (.ref b) (Jg (decide (mB.size<ZA.size)) e lt (min mB.size ZA.size) 0):=λprog w E Q h=>by
 obtain⟨⟨cls,dd,data,sl⟩,ho,hc,n,hd⟩:=id hl;obtain⟨⟨cls2,WK,data2,XF⟩,XT,WQ,n2,hd2⟩:=id hb;simp only at hc hd WQ hd2;subst hc hd WQ hd2;rw[PyProof.Rows.oneLt'_eq];simp only[if_true];refine ab (wpAny_cRoomFor hu ?_);refine ab (wpAny_callSpecialIfBound?_slot ⟨_,ho,rfl⟩ F.slot_list_lt (call_meets F.slot_list_lt ⟨_,ho,rfl⟩ F.entry_list_lt (F.args_list_lt_2 _ _) (Fg l b mB ZA n n2 dd WK sl XF e lt) ⟨ho,XT,he,ht,?_⟩));exact wpAny_truthy_bool h
theorem Cr.int(a:Int)(t:Tok)(b:Int)(u:Tok):Cr A s (.int a t) (.int b u) (decide (a<b)):=λprog w E Q h=>PyProof.Rows.oneLt_int h
theorem Cr.str(a:Str)(t:Tok)(b:Str)(u:Tok):Cr A s (.str a t) (.str b u) (decide (a.cps.toList<b.cps.toList)):=λprog w E Q h=>PyProof.Rows.oneLt_str h
theorem Uq.int(a:Int)(t:Tok)(b:Int)(u:Tok):Uq A s (.int a t) (.int b u) (decide (a<b)):=λprog w E Q h=>wpAny_lt_int h
theorem Uq.str(a:Str)(t:Tok)(b:Str)(u:Tok):Uq A s (.str a t) (.str b u) (decide (a.cps.toList<b.cps.toList)):=λprog w E Q h=>PySem.P.lt_str h
end
end
section
open PySem.W (kla_fn kla_obj kla_callFunE kla_codeExpr envX)
end
section
open PySem.W (kla_fn kla_obj kla_eval kla_makeFunction kla_makeFunctionHit CodeHd tabObj)
end
section
open PySem.SeqAt (EqAt)
variable{K:ad}
@[simp]noncomputable def Gv(eq lt:D->D->Option Bool):List D->List D->Option Bool
 | [],ys=>aA (!ys.isEmpty)
 |_::_,[]=>aA aD
 |x::xs,y::ys=>(eq x y).bind λb=>if b=aC then Gv eq lt xs ys else lt x y
@[simp]def Xa(eq lt:D->D->Option Bool):D->D->Option Bool
 | .int i,.int j=>aA (decide (i<j))
 | .str a,.str b=>aA (decide (a.cps.toList<b.cps.toList))
 | .lst xs,.lst ys=>Gv eq lt xs ys
 | .tup xs,.tup ys=>Gv eq lt xs ys
 |_,_=>aB
@[simp]def Ua:Nat->D->D->Option Bool
 |0=>λ_ _=>aB
 |n+1=>Xa (Wm n) (Ua n)
noncomputable def isT:Option Bool->Bool
 |some aC=>aC
 |_=>aD
abbrev eJ(f:D->D->Option Bool)(xs ys:List D)(j:Nat):Bool:=isT (f (xs.getD j .non) (ys.getD j .non))
theorem Aj{fin:Bool}{e l:Nat->Bool}:∀(k i:Nat),Jg fin e l k (i+1)=Jg fin (λj=>e (j+1)) (λj=>l (j+1)) k i
 |0,_=>rfl
 |k+1,i=>by
  show(if e (i+1)=aC then Jg fin e l k (i+1+1)else l (i+1))=(if e (i+1)=aC then _ else _)
  rw[Aj k (i+1)]
theorem Fh{eq lt:D->D->Option Bool}:∀{xs ys:List D} {b:Bool},Gv eq lt xs ys=aA b->
  Jg (decide (xs.length<ys.length)) (eJ eq xs ys) (eJ lt xs ys) (min xs.length ys.length) 0=b/\
  ∀j,j<xs.length->j<ys.length->(∀i,i<j->eJ eq xs ys i=aC)->eq (xs.getD j .non) (ys.getD j .non)=aA (eJ eq xs ys j)/\(eJ eq xs ys j=aD->lt (xs.getD j .non) (ys.getD j .non)=aA (eJ lt xs ys j))
 | [],ys,b,h=>by
  refine⟨?_,λj hj=>m_ hj (dz _)⟩;obtain rfl:(!ys.isEmpty)=b:=by simpa using h
  cases ys<;> simp[Jg]
 |x::xs,[],b,h=>by
  refine⟨?_,λj _ hj=>m_ hj (dz _)⟩;obtain rfl:aD=b:=by simpa using h
  simp[Jg]
 |x::xs,y::ys,b,h=>by
  have h:(eq x y).bind (λb=>if b=aC then Gv eq lt xs ys else lt x y)=aA b:=h;obtain⟨c,hc,h2⟩:=aa.mp h;have e0:eJ eq (x::xs) (y::ys) 0=c:=by show isT (eq x y)=c;rw[hc];cases c<;> rfl
  have hm:min (x::xs).length (y::ys).length=min xs.length ys.length+1:=by simp only[bh];omega
  have UH:decide ((x::xs).length<(y::ys).length)=decide (xs.length<ys.length):=by simp
  rw[hm,UH];cases c with
  |false=>
   have h2:lt x y=aA b:=by simpa using h2
   refine⟨?_,λj EF EE hp=>?_⟩
   .show(if eJ eq (x::xs) (y::ys) 0=aC then _ else eJ lt (x::xs) (y::ys) 0)=b;rw[e0,m4 (by simp)];show isT (lt x y)=b;rw[h2];cases b<;> rfl
   .cases j with
    |zero=>refine⟨by rw[e0];exact hc,λ_=>?_⟩;show lt x y=aA (isT (lt x y));rw[h2];cases b<;> rfl
    |succ j=>have:=hp 0 (Nat.succ_pos _);rw[e0]at this;cases this
  |true=>
   have h2:Gv eq lt xs ys=aA b:=by simpa using h2
   obtain⟨i1,i2⟩:=Fh h2;refine⟨?_,λj EF EE hp=>?_⟩
   .show(if eJ eq (x::xs) (y::ys) 0=aC then Jg _ _ _ _ (0+1)else eJ lt (x::xs) (y::ys) 0)=b;rw[e0,m6 rfl,Aj];exact i1
   .cases j with
    |zero=>refine⟨by rw[e0];exact hc,λz=>?_⟩;rw[e0]at z;cases z
    |succ j=>exact i2 j (by simpa using EF) (by simpa using EE) λi hi=>hp (i+1) (by omega)
theorem mD.getD{F:Hp}:∀{ds:List D} {vs:List V} {mC:List aj},mD K F ds vs->Z1 vs mC->∀(j:Nat) (hj:j<mC.length),∃v,mI K F (ds.getD j .non) v/\Zy v mC[j]/\j<ds.length
 |_,_,_,.nil,.nil,j,hj=>m_ hj (dz _)
 |_,_,_,.cons h t,.cons q qs,0,_=>⟨_,h,q,Nat.succ_pos _⟩
 |_,_,_,.cons h t,.cons q qs,j+1,hj=>by obtain⟨v,a,b,c⟩:=mD.getD t qs j (Nat.lt_of_succ_lt_succ hj);exact⟨v,a,b,Nat.succ_lt_succ c⟩
theorem mD.lenV{F:Hp}:∀{ds:List D} {vs:List V} {mC:List aj},mD K F ds vs->Z1 vs mC->ds.length=mC.length
 |_,_,_,.nil,.nil=>rfl
 |_,_,_,.cons h t,.cons q qs=>congrArg (· +1) (mD.lenV t qs)
section
variable{X:Cx}{n_:List (aq×Obj)}{σ:L2.St}{F H:Hp}{s:ao}
theorem Jr(I:mE X n_ σ H s)(le:Zi F H){a:aq}{vs:List V}(h:J3 X.K F a vs):∃mC:List aj,Z1 vs mC/\s.heap.IsList a mC.toArray:=by obtain⟨mC,rv,⟨o,n,ho,VZ,_,hd⟩,_⟩:=I.list (Yg le h);exact⟨mC,rv,o,ho,VZ,n,hd⟩
theorem Qv(I:mE X n_ σ H s)(le:Zi F H){a:aq}{vs:List V}(h:F a=aA (.tup vs)):∃mC:List aj,Z1 vs mC/\s.heap.IsTuple a mC.toArray:=by obtain⟨_,mC,rv,p⟩:=I.hok a _ (le _ _ h);obtain⟨o,ho,hc,n,hd⟩:=p;exact⟨mC,rv,o,ho,hc,n,hd⟩
theorem Ak(I:mE X n_ σ H s)(le:Zi F H){n:Nat}{A:dh}(hu:A.units+n<fj)(ih:∀(d1 d2:D) (b:Bool) (x y:V) (v u:aj),mI X.K F d1 x->Zy x v->mI X.K F d2 y->Zy y u->Ua n d1 d2=aA b->Uq A s v u b)
  {ds es:List D} {vs ws:List V} {mC YQ:List aj} (r1:mD X.K F ds vs) (W':Z1 vs mC) (r2:mD X.K F es ws) (R_:Z1 ws YQ) {b:Bool} (h:Gv (Wm n) (Ua n) ds es=aA b):
  Jg (decide (mC.toArray.size<YQ.toArray.size)) (eJ (Wm n) ds es) (eJ (Ua n) ds es) (min mC.toArray.size YQ.toArray.size) 0=b/\
  (∀j (h1:j<mC.toArray.size) (h2:j<YQ.toArray.size),(∀i,i<j->eJ (Wm n) ds es i=aC)->EqAt A s mC.toArray[j] YQ.toArray[j] (eJ (Wm n) ds es j))/\
  (∀j (h1:j<mC.toArray.size) (h2:j<YQ.toArray.size),(∀i,i<j->eJ (Wm n) ds es i=aC)->eJ (Wm n) ds es j=aD->Uq A s mC.toArray[j] YQ.toArray[j] (eJ (Ua n) ds es j)):=by
 obtain⟨a,c⟩:=Fh h;rw[mD.lenV r1 W',mD.lenV r2 R_]at a;refine⟨by simpa using a,λj h1 h2 hp=>?_,λj h1 h2 hp hf=>?_⟩
 .have PU:j<mC.length:=by simpa using h1
  have WR:j<YQ.length:=by simpa using h2
  obtain⟨v,p1,p2,p3⟩:=mD.getD r1 W' j PU;obtain⟨w,q1,q2,q3⟩:=mD.getD r2 R_ j WR;exact Rt I le n A _ _ _ _ _ _ _ hu p1 (by simpa using p2) q1 (by simpa using q2) (c j p3 q3 hp).1
 .have PU:j<mC.length:=by simpa using h1
  have WR:j<YQ.length:=by simpa using h2
  obtain⟨v,p1,p2,p3⟩:=mD.getD r1 W' j PU;obtain⟨w,q1,q2,q3⟩:=mD.getD r2 R_ j WR;exact ih _ _ _ _ _ _ _ p1 (by simpa using p2) q1 (by simpa using q2) ((c j p3 q3 hp).2 hf)
theorem Xb(I:mE X n_ σ H s)(le:Zi F H):∀(n:Nat) (A:dh) (d1 d2:D) (b:Bool) (x y:V) (v u:aj),A.units+n<fj->mI X.K F d1 x->Zy x v->mI X.K F d2 y->Zy y u->Ua n d1 d2=aA b->Uq A s v u b
 |0,_,_,_,_,_,_,_,_,_,_,_,_,_,e=>by cases e
 |n+1,A,d1,d2,b,x,y,v,u,hu,r1,v1,r2,v2,e=>by
  have e:Xa (Wm n) (Ua n) d1 d2=aA b:=e;have hi:A.in1.units+n<cLine:=by have:A.in1.units=A.units+1:=rfl;omega
  have ih:=λ(d1 d2:D) (b:Bool) (x y:V) (v u:aj)=>Xb I le n A.in1 d1 d2 b x y v u hi;cases r1 with
  |int i=>cases r2 with
   |int j=>
    obtain⟨t1,rfl⟩:=v1;obtain⟨t2,rfl⟩:=v2;obtain rfl:decide (i<j)=b:=by simpa using e
    exact Uq.int i t1 j t2
   |_=>cases e
  |str i=>cases r2 with
   |str j=>
    obtain⟨t1,rfl⟩:=v1;obtain⟨t2,rfl⟩:=v2;obtain rfl:decide (i.cps.toList<j.cps.toList)=b:=by simpa using e
    exact Uq.str i t1 j t2
   |_=>cases e
  |lst h _ r=>cases r2 with
   |lst h' _ r'=>cases v1;cases v2;obtain⟨mC,rv,hl⟩:=Jr I le h;obtain⟨YQ,QA,WC⟩:=Jr I le h';obtain⟨a,c,d⟩:=Ak I le hi ih r rv r' QA e;rw[<-a];exact Uq.lists hl WC (by omega) c d
   |_=>cases e
  |tup h r=>cases r2 with
   |tup h' r'=>cases v1;cases v2;obtain⟨mC,rv,hl⟩:=Qv I le h;obtain⟨YQ,QA,WC⟩:=Qv I le h';obtain⟨a,c,d⟩:=Ak I le hi ih r rv r' QA e;rw[<-a];exact Uq.tuples hl WC (by omega) c d
   |_=>cases e
  |_=>cases e
theorem uF(I:mE X n_ σ H s)(le:Zi F H){n:Nat}{A:dh}{d1 d2:D}{b:Bool}{x y:V}{v u:aj}(hu:A.units+(n+1)<fj)(r1:mI X.K F d1 x)(v1:Zy x v)(r2:mI X.K F d2 y)(v2:Zy y u)
  (e:Ua (n+1) d1 d2=aA b) (hn:∀xs,d1≠.tup xs):Cr A s v u b:=by
 have e:Xa (Wm n) (Ua n) d1 d2=aA b:=e;have hi:A.in1.units+n<cLine:=by have:A.in1.units=A.units+1:=rfl;omega
 have ih:=λ(d1 d2:D) (b:Bool) (x y:V) (v u:aj)=>Xb I le n A.in1 d1 d2 b x y v u hi;cases r1 with
 |int i=>cases r2 with
  |int j=>
   obtain⟨t1,rfl⟩:=v1;obtain⟨t2,rfl⟩:=v2;obtain rfl:decide (i<j)=b:=by simpa using e
   exact Cr.int i t1 j t2
  |_=>cases e
 |str i=>cases r2 with
  |str j=>
   obtain⟨t1,rfl⟩:=v1;obtain⟨t2,rfl⟩:=v2;obtain rfl:decide (i.cps.toList<j.cps.toList)=b:=by simpa using e
   exact Cr.str i t1 j t2
  |_=>cases e
 |lst h _ r=>cases r2 with
  |lst h' _ r'=>cases v1;cases v2;obtain⟨mC,rv,hl⟩:=Jr I le h;obtain⟨YQ,QA,WC⟩:=Jr I le h';obtain⟨a,c,d⟩:=Ak I le hi ih r rv r' QA e;rw[<-a];exact Cr.lists hl WC (by omega) c d
  |_=>cases e
 |tup h r=>exact m_ rfl (hn _)
 |_=>cases e
end
end
section
open PySem.W (kas_sort kas_ask kas_item kat_run kat_snds)
section
variable{X:Cx}{n_:List (aq×Obj)}{σ:L2.St}{H:Hp}{s:ao}{E:aj->ao->Prop}
theorem Hx{D:aq}{o:Obj}{xs ys:Array aj}{n t':Nat}{g:Array aj->Array aj}(I:mE X n_ σ H s)(fD:Uy X n_ H D):mE X n_ σ H {s with heap:=s.heap.update D (dm g),toks:=t'}:=
 I.turned (λb o hb e=>by rw[Heap.get?_update_ne _ _ _ _ hb];exact e) fD.1 fD.2.1 fD.2.2.2.1 fD.2.2.2.2.1 fD.2.2.2.2.2
def KS(X:Cx)(n_:List (aq×Obj))(σ:L2.St)(H0:Hp)(f:aq)(fo:Obj)(D kS:aq)(e1:Nat)(KeyOk:Nat->V->Hp->Prop)(i:Nat)(s:ao):Prop:=
 ∃H ks kvs e,Zi H0 H/\mE X n_ σ H s/\Uy X n_ H D/\Uy X n_ H kS/\Uy X n_ H f/\s.heap.get? D=aA (d8 "list" #[] e1)/\s.heap.get? kS=aA (d8 "list" (List.toArray ks) e)/\s.heap.get? f=aA fo/\
  Z1 kvs ks/\ks.length=i/\∀j kv,kvs[j]? =aA kv->KeyOk j kv H
end
end
section
open PySem.W (kas_sort kas_ask kas_item kat_run kat_snds)
section
variable{X:Cx}{n_:List (aq×Obj)}{σ:L2.St}{H:Hp}{s:ao}{E:aj->ao->Prop}{mC:List aj}{f D kS:aq}{fo:Obj}{e1:Nat}{KeyOk:Nat->V->Hp->Prop}{A:dh}{P:PySem.Fin->ao->Prop}
variable{O:KeyOrd}{key:Nat->O.α}
def Cmp(X:Cx)(n_:List (aq×Obj))(σ:L2.St)(H0:Hp)(A:dh)(KeyOk:Nat->V->Hp->Prop)(O:KeyOrd)(key:Nat->O.α)(n:Nat):Prop:=
 ∀H2 s2 ks kvs,Zi H0 H2->mE X n_ σ H2 s2->Z1 kvs ks->ks.length=n->(∀j kv,kvs[j]? =aA kv->KeyOk j kv H2)->2<=n->
  ∃κ,(∀Q:SortKind->ao->Prop,Q κ s2->bj (cf X.prog X.w) A (keyKind' (List.toArray ks)) Q (λ_ _=>False) s2)/\
   ∀i j (Q:Bool->ao->Prop),i<n->j<n->Q (O.blt (key i) (key j)) s2->bj (cf X.prog X.w) A (keyLt' κ (ks.getD i .none) (ks.getD j .none)) Q (λ_ _=>False) s2
end
end
section
open PySem.Calls
end
section
open PySem.Calls
open PySem.W (KatLex kat_lt kat_kind KatTups kat_one kat_nil kat_cons kat_yes kat_no)
section
variable{X:Cx}{n_:List (aq×Obj)}{σ:L2.St}{F H:Hp}{s:ao}
theorem BX(I:mE X n_ σ H s)(le:Zi F H){n:Nat}{A:dh}(hu:A.units+(n+1)<fj){Q:Bool->ao->Prop}{fin:Bool}:∀{ds es:List D} {vs ws:List V} {mC YQ:List aj} {b:Bool} (i:Nat),
  mD X.K F ds vs->Z1 vs mC->mD X.K F es ws->Z1 ws YQ->(i=0->∀d,ds.head? =aA d->∀xs,d≠.tup xs)->Gv (Wm (n+1)) (Ua (n+1)) ds es=aA b->(mC.length=YQ.length->fin=aD)->(mC.length<YQ.length->fin=aC)->(YQ.length<mC.length->fin=aD)->Q b s->
  KatLex X.prog X.w A aC fin Q (mC.zip YQ) i s
 |_,_,_,_,_,_,b,i,.nil,.nil,.nil,.nil,_,e,f1,_,_,q=>by
  obtain rfl:aD=b:=by simpa using e
  show Q fin s;rw[f1 rfl];exact q
 |_,_,_,_,_,_,b,i,.nil,.nil,.cons _ _,.cons _ _,_,e,_,f2,_,q=>by
  obtain rfl:aC=b:=by simpa using e
  show Q fin s;rw[f2 (by simp)];exact q
 |_,_,_,_,_,_,b,i,.cons _ _,.cons _ _,.nil,.nil,_,e,_,_,f3,q=>by
  obtain rfl:aD=b:=by simpa using e
  show Q fin s;rw[f3 (by simp)];exact q
 |d::ds,d'::es,_,_,_,_,b,i,.cons h t,.cons r rs,.cons h' t',.cons r' rs',hd,e,f1,f2,f3,q=>by
  have e:(Wm (n+1) d d').bind (λb=>if b=aC then Gv (Wm (n+1)) (Ua (n+1)) ds es else Ua (n+1) d d')=aA b:=e;obtain⟨c,hc,e2⟩:=aa.mp e;refine kat_cons (Rt I le (n+1) A _ _ _ _ _ _ _ (by omega) h r h' r' hc X.prog X.w _ _ ?_);cases c with
  |true=>
   have e2:Gv (Wm (n+1)) (Ua (n+1)) ds es=aA b:=by simpa using e2
   exact kat_yes (BX I le hu (i+1) t rs t' rs' (λz=>m_ z (Nat.succ_ne_zero i)) e2 (λz=>f1 (by simp[z])) (λz=>f2 (by simpa using z)) (λz=>f3 (by simpa using z)) q)
  |false=>
   have e2:Ua (n+1) d d'=aA b:=by simpa using e2
   refine kat_no ?_;cases i with
   |zero=>exact uF I le hu h r h' r' e2 (hd rfl d rfl) X.prog X.w _ _ q
   |succ i=>
    have:(aC&&(i+1==0))=aD:=by simp
    rw[this];refine kat_one _ _ (Xb I le (n+1) A _ _ _ _ _ _ _ (by omega) h r h' r' e2 X.prog X.w _ _ ?_);exact q
inductive KK where
 |lst|str|int
inductive IsKey:KK->D->Prop where
 |lst (xs:List D) (r:List D):IsKey .lst (.tup (.lst xs::r))
 |str (x:Str) (r:List D):IsKey .str (.tup (.str x::r))
 |int (i:Int) (r:List D):IsKey .int (.tup (.int i::r))
theorem IsKey.shape{b:KK}{d:D}(h:IsKey b d):∃e r,d= .tup (e::r)/\∀xs,e≠.tup xs:=by
 cases h with
 |lst xs r=>exact⟨_,r,rfl,λ_ z=>by cases z⟩
 |str x r=>exact⟨_,r,rfl,λ_ z=>by cases z⟩
 |int x r=>exact⟨_,r,rfl,λ_ z=>by cases z⟩
noncomputable def kT:KK->String
 | .lst=>"list"
 | .str=>"str"
 | .int=>"int"
theorem uE(I:mE X n_ σ H s)(le:Zi F H){n:Nat}{A:dh}(hu:A.units+(n+2)<fj){d1 d2:D}{x y:V}{v u:aj}{b:Bool}{k:KK}{E:aj->ao->Prop}{Q:Bool->ao->Prop}(k1:IsKey k d1)(k2:IsKey k d2)
  (r1:mI X.K F d1 x) (v1:Zy x v) (r2:mI X.K F d2 y) (v2:Zy y u) (e:Ua (n+2) d1 d2=aA b) (q:Q b s):bj (cf X.prog X.w) A (keyLt' (tuples' aC) v u) Q E s:=by
 obtain⟨e1,OV,rfl,yM⟩:=k1.shape;obtain⟨e2,OT,rfl,_⟩:=k2.shape;cases r1 with
 |tup h1 p1=>cases r2 with
  |tup h2 p2=>
   cases v1;cases v2;obtain⟨mC,rv,o,ho,hc,m,hd⟩:=Qv I le h1;obtain⟨YQ,WO,o',XG,TF,m',XB⟩:=Qv I le h2;have e:Gv (Wm (n+1)) (Ua (n+1)) (e1::OV) (e2::OT)=aA b:=e;refine kat_lt ho hd XG XB ?_;refine BX I le (by omega) 0 p1 rv p2 WO (λ_ d z xs=>?_) e (λz=>?_) (λz=>?_) (λz=>?_) q
   .obtain rfl:e1=d:=by simpa using z
    exact yM xs
   .simp[z]
   .simpa using z
   .have z:YQ.length<mC.length:=by simpa using z
    simp;omega
theorem Fi(I:mE X n_ σ H s)(le:Zi F H){k:KK}:∀{ds:List D} {vs:List V} {mC:List aj},(∀d∈ds,IsKey k d)->mD X.K F ds vs->Z1 vs mC->∃fs,KatTups s.heap mC fs/\fs.length=mC.length/\∀v∈fs,PySem.W.Looks (cf X.prog X.w) s.heap (typeOf v) (.type (kT k))
 |_,_,_,_,.nil,.nil=>⟨[],trivial,rfl,λ_ z=>nomatch z⟩
 |d::ds,_,_,hk,.cons h t,.cons r rs=>by
  obtain⟨fs,a,b,c⟩:=Fi I le (λd z=>hk d (am _ z)) t rs;cases hk d ac with
  |lst xs rr=>cases h with
   |tup h1 p1=>
    cases r;obtain⟨mC,rv,o,ho,hc,m,hd⟩:=Qv I le h1;cases p1 with
    |cons q1 q2=>cases rv with
     |cons w1 w2=>cases q1 with
      |lst g1 _ g2=>
       cases w1;obtain⟨YQ,_,o2,XT,WQ,_⟩:=Jr I le g1;refine⟨_::fs,KatTups.cons ho hc hd rfl a,by simp[b],λv z=>?_⟩;rcases ay.mp z with z|z
       .subst z;exact λA Q E s' k q=>wpAny_typeOf (T:="list") ⟨o2,k _ _ XT,WQ⟩ q
       .exact c v z
  |str x rr=>cases h with
   |tup h1 p1=>
    cases r;obtain⟨mC,rv,o,ho,hc,m,hd⟩:=Qv I le h1;cases p1 with
    |cons q1 q2=>cases rv with
     |cons w1 w2=>cases q1 with
      |str y=>
       obtain⟨tk,rfl⟩:=w1;refine⟨_::fs,KatTups.cons ho hc hd rfl a,by simp[b],λv z=>?_⟩;rcases ay.mp z with z|z
       .subst z;exact λA Q E s' k q=>wpAny_typeOf (T:="str") (typeIs_str s' x tk) q
       .exact c v z
  |int x rr=>cases h with
   |tup h1 p1=>
    cases r;obtain⟨mC,rv,o,ho,hc,m,hd⟩:=Qv I le h1;cases p1 with
    |cons q1 q2=>cases rv with
     |cons w1 w2=>cases q1 with
      |int y=>
       obtain⟨tk,rfl⟩:=w1;refine⟨_::fs,KatTups.cons ho hc hd rfl a,by simp[b],λv z=>?_⟩;rcases ay.mp z with z|z
       .subst z;exact λA Q E s' k q=>wpAny_typeOf (T:="int") (typeIs_int s' x tk) q
       .exact c v z
theorem qF(I:mE X n_ σ H s)(le:Zi F H){A:dh}{E:aj->ao->Prop}{k:KK}{ds:List D}{vs:List V}{mC:List aj}(hk:∀d∈ds,IsKey k d)(r:mD X.K F ds vs)(rv:Z1 vs mC)(h2:0<mC.length){Q:SortKind->ao->Prop}(q:Q (tuples' aC) s):
  bj (cf X.prog X.w) A (keyKind' (List.toArray mC)) Q E s:=by
 obtain⟨fs,a,b,c⟩:=Fi I le hk r rv;refine kat_kind (T:=.type (kT k)) a (by omega) c (by cases k<;> decide) ?_;cases k<;> exact q
end
end
section
open PySem.Calls
structure mK(ks:List D):Prop where
 key:∃k,∀d∈ks,IsKey k d
 ord:∃mJ:D->List Nat,(∀a∈ks,∀b∈ks,Ua 16 a b=aA (decide (mJ a<mJ b)))/\∀i j:Nat,i<ks.length->j<ks.length->mJ (ks.getD i .non)=mJ (ks.getD j .non)->i=j
def Cs(ks:List D)(p:List Nat):Prop:=p.Perm (df ks.length)/\p.Pairwise λi j=>Ua 16 (ks.getD j .non) (ks.getD i .non)=aA aD
theorem Al{ks:List D}(h:mK ks){p q:List Nat}(hp:Cs ks p)(hq:Cs ks q):p=q:=by
 obtain⟨mJ,he,hd⟩:=h.ord;have get:∀i,i<ks.length->ks.getD i .non∈ks:=λi hi=>by rw[bi,au hi];exact List.getElem_mem hi
 have mp:∀i∈p,i<ks.length:=λi hi=>cr.mp (hp.1.mem_iff.mp hi);have mq:∀i∈q,i<ks.length:=λi hi=>cr.mp (hq.1.mem_iff.mp hi);refine List.Perm.eq_of_pairwise (le:=λi j=>Ua 16 (ks.getD j .non) (ks.getD i .non)=aA aD) (λa b ha hb h1 h2=>?_) hp.2 hq.2 (hp.1.trans hq.1.symm);rw[he _ (get _ (mq b hb)) _ (get _ (mp a ha))]at h1;rw[he _ (get _ (mp a ha)) _ (get _ (mq b hb))]at h2;have h1:¬mJ (ks.getD b .non)<mJ (ks.getD a .non):=by simpa using h1
 have h2:¬mJ (ks.getD a .non)<mJ (ks.getD b .non):=by simpa using h2
 exact hd a b (mp a ha) (mq b hb) (List.le_antisymm (ck.mp h1) (ck.mp h2))
theorem Oi{ks:List D}(h:mK ks):∃p,Cs ks p:=by
 obtain⟨mJ,he,hd⟩:=h.ord;have get:∀i,i<ks.length->ks.getD i .non∈ks:=λi hi=>by rw[bi,au hi];exact List.getElem_mem hi
 refine⟨(df ks.length).mergeSort λi j=>decide (¬mJ (ks.getD j .non)<mJ (ks.getD i .non)),List.mergeSort_perm _ _,?_⟩;have pw:=List.pairwise_mergeSort (le:=λi j:Nat=>decide (¬mJ (ks.getD j .non)<mJ (ks.getD i .non)))
  (λa b c h1 h2=>by
   simp only[decide_eq_true_eq]at*;exact ck.mpr (List.le_trans (ck.mp h1) (ck.mp h2)))
  (λa b=>by
   simp only[Bool.or_eq_true,decide_eq_true_eq];rcases List.le_total (mJ (ks.getD a .non)) (mJ (ks.getD b .non))with z|z
   .exact .inl (ck.mpr z)
   .exact .inr (ck.mpr z)) (df ks.length)
 refine(List.Pairwise.imp_of_mem ?_ pw);intro i j hi hj z;have hi:i<ks.length:=cr.mp ((List.mergeSort_perm _ _).mem_iff.mp hi);have hj:j<ks.length:=cr.mp ((List.mergeSort_perm _ _).mem_iff.mp hj);rw[he _ (get j hj) _ (get i hi)];simpa using z
open Classical in
noncomputable def Mt(ks xs:List D):Option SV:=
 if h:ks.length=xs.length/\xs.length<64/\mK ks then aA (.ol ((Classical.choose (Oi h.2.2)).map λi=>xs.getD i .non))else aB
theorem Hy{ks xs:List D}{sv:SV}(e:Mt ks xs=aA sv):ks.length=xs.length/\xs.length<64/\mK ks/\∃p,Cs ks p/\sv= .ol (p.map λi=>xs.getD i .non):=by
 unfold Mt at e;split at e
 .rename_i h;cases e;exact⟨h.1,h.2.1,h.2.2,_,ff (Oi h.2.2),rfl⟩
 .cases e
theorem tR{ks xs:List D}(h1:ks.length=xs.length)(h2:xs.length<64)(h3:mK ks):∃p,Cs ks p/\Mt ks xs=aA (.ol (p.map λi=>xs.getD i .non)):=by refine⟨_,ff (Oi h3),?_⟩;unfold Mt;rw[dif_pos ⟨h1,h2,h3⟩]
section
variable{K:ad}{Z:mF K}{H:Hp}{σ:L2.St}
theorem mD.len2{F:Hp}:∀{ds:List D} {vs:List V},mD K F ds vs->ds.length=vs.length
 |_,_,.nil=>rfl
 |_,_,.cons _ t=>congrArg (· +1) (mD.len2 t)
end
end
section
open PySem.Calls
open PySem.W (CodeHd kla_fn kla_obj)
section
variable{X:Cx}{n_:List (aq×Obj)}{σ:L2.St}{H:Hp}{s:ao}
theorem Hz{K:ad}{F:Hp}:∀{ks:List D} {kvs:List V},kvs.length=ks.length->(∀(j:Nat) kv,kvs[j]? =aA kv->mI K F (ks.getD j .non) kv)->mD K F ks kvs
 | [],[],_,_=>.nil
 |k::ks,v::kvs,hl,h=>.cons (h 0 v rfl) (Hz (by simpa using hl) λj kv e=>h (j+1) kv (by simpa using e))
theorem Ry:∀{ws:List V} {mC:List aj},Z1 ws mC->∀{p:List Nat},(∀i∈p,i<mC.length)->Z1 (p.map λi=>ws.getD i .non) (p.map λi=>mC.getD i cn):=by
 intro ws mC h p hp;have at':∀{ws:List V} {mC:List aj},Z1 ws mC->∀i,i<mC.length->Zy (ws.getD i .non) (mC.getD i cn):=by
  intro ws mC h;induction h with
  |nil=>intro i hi;simp at hi
  |cons r t ih=>intro i hi;cases i with
   |zero=>exact r
   |succ i=>exact ih i (by simpa using hi)
 induction p with
 |nil=>exact .nil
 |cons i r ih=>exact .cons (at' h i (hp i ac)) (ih λj hj=>hp j (am _ hj))
theorem Gw{K:ad}{F:Hp}:∀{xs:List D} {ws:List V},mD K F xs ws->∀(i:Nat),i<xs.length->mI K F (xs.getD i .non) (ws.getD i .non)
 |_,_,.nil,i,hi=>m_ hi (dz _)
 |_,_,.cons h t,0,_=>h
 |_,_,.cons h t,i+1,hi=>Gw t i (Nat.lt_of_succ_lt_succ hi)
theorem Cc{K:ad}{F:Hp}{xs:List D}{ws:List V}(h:mD K F xs ws):∀{p:List Nat},(∀i∈p,i<xs.length)->mD K F (p.map λi=>xs.getD i .non) (p.map λi=>ws.getD i .non)
 | [],_=>.nil
 |i::r,hp=>.cons (Gw h i (hp i ac)) (Cc h λj hj=>hp j (am _ hj))
noncomputable abbrev Fj(mJ:D->List Nat)(ks:List D)(i:Nat):strKind.toKeyOrd.α:=mJ (ks.getD i .non)
theorem Lz{ks:List D}{mJ:D->List Nat}{A:dh}{kb:KK}(hu:A.units+16<fj)(hk:∀d∈ks,IsKey kb d)(he:∀a∈ks,∀b∈ks,Ua 16 a b=aA (decide (mJ a<mJ b))){n:Nat}(hn:ks.length=n):
  Cmp X n_ σ H A (λj kv H=>mI X.K H (ks.getD j .non) kv) strKind.toKeyOrd (Fj mJ ks) n:=by
 intro H2 s2 ksV kvs sm I2 rv hl RE h2;have QW:kvs.length=ks.length:=by have:=rv.length;omega
 have rr:=Hz QW RE;have get:∀i,i<ks.length->ks.getD i .non∈ks:=λi hi=>by rw[bi,au hi];exact List.getElem_mem hi
 refine⟨tuples' aC,λQ q=>qF I2 (Zi.refl H2) hk rr rv (by omega) q,λi j Q hi hj q=>?_⟩;obtain⟨v,a1,a2,a3⟩:=mD.getD rr rv i (by omega);obtain⟨w,b1,b2,b3⟩:=mD.getD rr rv j (by omega);have e1:ksV.getD i cn=ksV[i]:=by simp[bi,au (show i<ksV.length by omega)]
 have e2:ksV.getD j cn=ksV[j]:=by simp[bi,au (show j<ksV.length by omega)]
 rw[e1,e2];exact uE I2 (Zi.refl H2) (n:=14) hu (hk _ (get i a3)) (hk _ (get j b3)) a1 a2 b1 b2 (he _ (get i a3) _ (get j b3)) q
theorem L0{ks:List D}{mJ:D->List Nat}(he:∀a∈ks,∀b∈ks,Ua 16 a b=aA (decide (mJ a<mJ b))){p:Array Nat}{n:Nat}(hn:ks.length=n)(hp:Pm n p)(hs:Lx (O:=strKind.toKeyOrd) (Fj mJ ks) p n):Cs ks p.toList:=by
 subst hn;have pt:p.toList.Perm (df ks.length):=Array.perm_iff_toList_perm.mp hp;have get:∀i,i<ks.length->ks.getD i .non∈ks:=λi hi=>by rw[bi,au hi];exact List.getElem_mem hi
 refine⟨pt,List.pairwise_iff_getElem.mpr λi j hi hj YW=>?_⟩;have VX:j<ks.length:=by have:=pt.length_eq;rw[List.length_range]at this;omega
 have mi:p.toList[i]<ks.length:=cr.mp (pt.mem_iff.mp (List.getElem_mem hi));have mj:p.toList[j]<ks.length:=cr.mp (pt.mem_iff.mp (List.getElem_mem hj));rw[he _ (get _ mj) _ (get _ mi)];have z:=hs i j (Nat.le_of_lt YW) VX;unfold Kp at z;have ei:p.getD i 0=p.toList[i]:=by rw[Array.getD_eq_getD_getElem?];simp at hi⊢;simp[hi]
 have ej:p.getD j 0=p.toList[j]:=by rw[Array.getD_eq_getD_getElem?];simp at hj⊢;simp[hj]
 rw[ei,ej]at z;have z:decide (mJ (ks.getD p.toList[j] .non)<mJ (ks.getD p.toList[i] .non))=aD:=z;rw[z]
end
end
section
open PySem.Calls
open PySem.W (CodeHd tabObj)
end
section
open PySem.Calls
end
section
open PySem.Calls
end
section
open PySem.Calls
variable{K:ad}
end
section
open PySem.Calls
open PySem.W (CodeHd tabObj)
end
section
open PySem.Calls
end
section
open PySem.Calls
end
section
open PySem.Calls
open PySem.W (kas_sort kas_ask kas_item kat_run kat_snds)
section
variable{X:Cx}{n_:List (aq×Obj)}{σ:L2.St}{H:Hp}{s:ao}{E:aj->ao->Prop}{mC:List aj}{l:aq}{KeyOk:Nat->V->Hp->Prop}{Q:aj->ao->Prop}{O:KeyOrd}{key:Nat->O.α}{kvs:List V}
theorem Am(I:mE X n_ σ H s)(hl:s.heap.IsList l mC.toArray)(h64:mC.length<64)(rv:Z1 kvs mC)(hk:∀j kv,kvs[j]? =aA kv->KeyOk j kv H)(hc:Cmp X n_ σ H X.A.in1.in1 KeyOk O key mC.length)
  (hQ:∀p D s' c,Pm mC.length p->Lx key p mC.length->X.s₀.heap.get? D=aB->mE X n_ σ H s'->Uy X n_ H D->s'.heap.get? D=aA (d8 "list" (List.toArray (p.toList.map λi=>mC.getD i cn)) c)->Q (.ref D) s'):
  bj (cf X.prog X.w) X.A (call (.builtin "sorted") [.ref l]) Q E s:=by
 refine Calls.call_function_entry kind_sorted plain_sorted entry_sorted (args_sorted1 _) ?_;unfold Builtin.«sorted»;refine ab (m:=checkCount "sorted" 1 1 _) (af ?_);refine ab (collect_list hl ?_ (by rw[d7];omega));refine ab (wpAny_newList ?_ (by rw[d7];omega));have hsz:((s.heap.push (d8 "list" #[] 0)).update s.heap.objs.size (dm (· ++mC.toArray))).objs.size=s.heap.objs.size+1:=by rw[Heap.size_update,size_push']
 have X':(((s.heap.push (d8 "list" #[] 0)).update s.heap.objs.size (dm (· ++mC.toArray))).push (d8 "list" mC.toArray 0)).get? (s.heap.objs.size+1)=aA (d8 "list" mC.toArray 0):=by rw[<-hsz];exact bo _ rfl
 have keep:∀b o,s.heap.get? b=aA o->(((s.heap.push (d8 "list" #[] 0)).update s.heap.objs.size (dm (· ++mC.toArray))).push (d8 "list" mC.toArray 0)).get? b=aA o:=λb o q=>by have ZL:b<s.heap.objs.size:=bp q;rw[Heap.get?_push_ne _ _ _ (by rw[hsz];exact cm (Nat.lt_succ_of_lt ZL)),Heap.get?_update_ne _ _ _ _ (cm ZL),Heap.get?_push_ne _ _ _ (cm ZL)];exact q
 show bj _ _ _ _ _ {s with heap:=((s.heap.push (d8 "list" #[] 0)).update s.heap.objs.size (dm (· ++mC.toArray))).push (d8 "list" mC.toArray 0)};rw[hsz];refine ab (wpAny_holding (dq slot_list_sort ⟨_,X',rfl⟩ entry_list_sort ?body (args_list_sort _)))
 case body=>
  rw[list_sort_plain];have hs2:(((s.heap.push (d8 "list" #[] 0)).update s.heap.objs.size (dm (· ++mC.toArray))).push (d8 "list" mC.toArray 0)).objs.size=s.heap.objs.size+2:=by rw[size_push',hsz]
  generalize hh:(((s.heap.push (d8 "list" #[] 0)).update s.heap.objs.size (dm (· ++mC.toArray))).push (d8 "list" mC.toArray 0))=h1 at X' keep hs2⊢;generalize hD:s.heap.objs.size+1=D at X'⊢;have yo: @Eq Nat D (s.heap.objs.size+1):=hD.symm;obtain⟨e1,ho1⟩:∃e1,(h1.update D (dm λ_=>(#[]:Array aj))).get? D=aA (d8 "list" #[] e1):=⟨_,get?_update_seq X' λ_=> #[]⟩
  refine ab (listItems_at X' rfl ?_);refine ab (listUpdate_at X' rfl ?_ (by rw[bv,d7];omega) (dk _));refine ab (seqEpoch_at ho1 rfl ?_);refine ab (wpAny_newTuple ?_ (by show mC.length<=_;rw[d7];omega));refine ab (wpAny_newList ?_ (dk _));refine wpAny_holding ?_;have kp:∀b o,s.heap.get? b=aA o->(((h1.update D (dm λ_=>(#[]:Array aj))).push (d8 "tuple" mC.toArray 0)).push (d8 "list" #[] 0)).get? b=aA o:=λb o q=>by have ZL: @LT.lt Nat _ b s.heap.objs.size:=bp q;have:=keep b o q;refine ar _ (ar _ ?_);rw[Heap.get?_update_ne _ _ _ _ (cm (show @LT.lt Nat _ b D by omega))];exact this
  have nD:H D=aB:=I.hok.fresh (by omega);have fD:Uy X n_ H D:=I.fpOk (by omega) nD;have WA:(((h1.update D (dm λ_=>(#[]:Array aj))).push (d8 "tuple" mC.toArray 0)).push (d8 "list" #[] 0)).get? D=aA (d8 "list" #[] e1):=ar _ (ar _ ho1);have I6:mE X n_ σ H {s with heap:=((h1.update D (dm λ_=>(#[]:Array aj))).push (d8 "tuple" mC.toArray 0)).push (d8 "list" #[] 0)}:=I.kept kp;show bj (cf X.prog X.w) X.A.in1.in1 _ _ _ {s with heap:=((h1.update D (dm λ_=>(#[]:Array aj))).push (d8 "tuple" mC.toArray 0)).push (d8 "list" #[] 0)};have VN:X.s₀.heap.get? D=aB:=Heap.get?_none_of_le (ga I.sz (by omega));generalize hs6:({s with heap:=((h1.update D (dm λ_=>(#[]:Array aj))).push (d8 "tuple" mC.toArray 0)).push (d8 "list" #[] 0)}:ao)=s6 at I6⊢;have WA:s6.heap.get? D=aA (d8 "list" #[] e1):=by rw[<-hs6];exact WA
  have fin:∀(p:Array Nat) (out:Array aj),out=List.toArray (p.toList.map λi=>mC.getD i cn)->out.size<64->Pm mC.length p->Lx key p mC.length->
    Q (.ref D) {s6 with heap:=s6.heap.update D (dm λ_=>out)}:=λp out ho hz z1 z2=>by
   subst ho;exact hQ p D _ _ z1 z2 VN (Hx (o:=d8 "list" #[] 0) (xs:= #[]) (ys:= #[]) (n:=0) I6 fD) fD (get?_update_seq WA λ_=>_)
  try dsimp only
  by_cases h2:mC.toArray.size<2
  .rw[m6 h2,m6 h2];have WR:mC.length<2:=by simpa using h2
   refine ab (af ?_);rw[StateT.run_pure];refine ab (af ?_)
   try dsimp only
   have eo:(arrOf (SortSt.mk' general' (mC.toArray.zip mC.toArray) #[] 7 aB)).map (·.2)=List.toArray ((List.toArray (df mC.length)).toList.map λi=>mC.getD i cn):=by
    show(mC.toArray.zip mC.toArray).map (·.2)=_;apply Array.toList_inj.mp;rw[Array.toList_map,ksk_zip];simp only[List.toList_toArray];rw[List.map_snd_zip (by omega)];apply List.ext_getElem
    .simp
    .intro i a b;simp[a]
   rw[eo];refine ab (seqEpoch_at WA rfl ?_);refine ab (listUpdate_at WA rfl ?_ (dk _) (by rw[bv,d7];simp;omega));show bj _ _ (if((e1 !=e1)=aC)then _ else _) _ _ _;simp only[bne_self_eq_false,bu,if_false];refine af ⟨_,rfl,af ⟨_,rfl,fin (List.toArray (df mC.length)) _ rfl (by simp;omega) (Array.Perm.refl _) (λi j YW hj=>?_)⟩⟩;have:i=j:=by omega
   subst this;exact KeyOrd.kle_refl _
  .rw[m4 h2,m4 h2];have WR:2<=mC.length:=Nat.le_of_not_lt (by simpa using h2);obtain⟨κ,KD,ZL⟩:=hc H s6 mC kvs (Zi.refl H) I6 rv rfl hk WR;refine ab (wpAny_mono (KD (λTM s'=>TM=κ/\s'=s6) ⟨rfl,rfl⟩) (λTM s' z=>?_) λ_ _ z=>z.elim);obtain⟨rfl,rfl⟩:=z;have g:=Wx.wp (lt:=E4 O key) (n:=mC.length) (R:=λq=>Pm mC.length q/\Lx key q mC.length) (cmp:=kas_ask X.prog X.w X.A.in1.in1 TM mC) (I:=λYE=>YE=s') (Q:=λq YE=>YE=s'/\Pm mC.length q/\Lx key q mC.length)
    (λi j C YE hi hj z hC=>by subst z;exact ZL i j C hi hj (hC _ rfl)) (λq YE z1 z2=>⟨z2,z1⟩) (Ff (key:=key) (by omega)) rfl
   refine ab (wpAny_mono (kat_run (Q:=λst YE=>∃p:Array Nat,YE=s'/\Pm mC.length p/\Lx key p mC.length/\arrOf st=p.map (kas_item (mC.toArray.zip mC.toArray))/\failedOf st=aB) rfl WR h64
    (λp st YE _ a1 a2 z=>⟨p,z.1,z.2.1,z.2.2,a1,a2⟩) g) (λr YE z=>?_) λ_ _ z=>z)
   obtain⟨⟨⟩,st⟩:=r;obtain⟨p,rfl,z1,z2,z3,z4⟩:=z
   try dsimp only
   rw[kat_snds rfl z3];refine ab (seqEpoch_at WA rfl ?_);refine ab (listUpdate_at WA rfl ?_ (dk _) (by rw[bv,ah,bf,z1.size,d7];omega));rw[z4];simp only[bne_self_eq_false,bu,if_false];exact af ⟨_,rfl,af ⟨_,rfl,fin p _ rfl (by rw[bv,ah,bf,z1.size];exact h64) z1 z2⟩⟩
end
end
section
open PySem.Calls
section
variable{X:Cx}
def CC(K:ad):List V->Hp->VK->Prop:=λvs H Q=>∃l F ds ws p,vs=[.ref l]/\Zi F H/\J3 K H l ws/\mD K F ds ws/\mK ds/\Cs ds p/\ws.length<64/\∀q,H q=aB->Q (.ref q) (Yo H q (.lst (p.map λi=>ws.getD i .non)))
theorem oV(hu:X.A.units+64<fj):Je X (.builtin "sorted") (CC X.K):=by
 intro n_ s σ H xs us Q I r h;obtain⟨l,F,ds,ws,p0,rfl,le,hl,rr,ko,SC,hz,q⟩:=h;obtain⟨u,rfl,ru⟩:=Oy r;cases ru;obtain⟨mC,rvi,⟨o,n,ho,VZ,_,hd⟩,_⟩:=I.list hl;have hlen:ds.length=mC.length:=L2.mD.lenV rr rvi;have MW:ws.length=mC.length:=rvi.length;obtain⟨mJ,he,PJ⟩:=id ko.ord;obtain⟨kb,SL⟩:=id ko.key;have TY:X.A.in1.in1.units+16<cLine:=by show X.A.units+1+1+16<fj;omega
 refine Am (KeyOk:=λj kv H=>mI X.K H (ds.getD j .non) kv) (O:=strKind.toKeyOrd) (key:=Fj mJ ds) I ⟨o,ho,VZ,n,hd⟩ (by omega) rvi (λj kv e=>?_) (Lz TY SL he hlen) ?hQ
 .have hj:j<ws.length:=(aw.mp e).1;have h1:=Gw rr j (by omega);have:ws.getD j .non=kv:=by rw[bi,e];rfl
  rw[this]at h1;exact h1.mono le
 case hQ=>
  intro p D s3 cc hp hs VN I3 fD gD;have ep:p.toList=p0:=Al ko (L0 he hlen hp hs) SC;rw[ep]at gD;have WL:∀i∈p0,i<mC.length:=λi hi=>by have:=cr.mp (SC.1.mem_iff.mp hi);omega
  have new:Yc X.prog X.w (Yo H D (.lst (p0.map λi=>ws.getD i .non))) s3.heap D (.lst (p0.map λi=>ws.getD i .non)):=by refine⟨?_,p0.map λi=>mC.getD i cn,cc,Ry rvi WL,gD⟩;have:=SC.1.length_eq;rw[List.length_range]at this;rw[ah,this,d7];omega
  exact⟨.ref D,_,mE.trackO I3 VN fD.1 fD.2.1 fD.2.2.2.2.1 fD.2.2.2.2.2 new,rfl,q D fD.1⟩
end
end
section
open PySem.Calls
variable{K:ad}
def We:List D->Option SV
 | [.lst xs]=>Mt xs xs
 |_=>aB
section
variable{Z:mF K}{H:Hp}{σ:L2.St}{Q:VK}{E:Ends}
theorem uD:Bc Z (CC K) We:=by
 intro F H σ δ own vs ds sv Q s r e k;unfold We at e;split at e
 .rename_i xs;obtain⟨_,hz,ko,p,hp,rfl⟩:=Hy e;cases r with
  |cons h t=>cases t;obtain⟨a,us,rfl,ha,ru⟩:=h.lst s.le;have WL:∀i∈p,i<xs.length:=λi hi=>cr.mp (hp.1.mem_iff.mp hi);exact⟨a,F,xs,us,p,rfl,s.le,ha,ru,ko,hp,by rw[<-mD.len2 ru];exact hz,λq hq=>k.lst s (Cc ru WL) hq⟩
 .cases e
end
section
variable{X:Cx}{Z:mF X.K}{a b c:cw}{fa fb fc:FE}{pos:Pos}
theorem Js{p:Pos}(hv:X.A.units+64<fj)(hm:X.mg "sorted"=aB)(ha:PE X a (Zf Z fa))(hg:Gl X "sorted":=by rfl)(he:az [a] X.env=(aD,gg a X.env)::az [] X.env:=by rfl)(ZO:(gb pos (az [] X.env)).any (·.1)=aD:=by rfl):
  PE X (.Call (.Name "sorted" p) [a] [] pos) (Zf Z (Yi We (Ze fa Zo))):=Mz (oV hv) uD hm L2.Ui (Zt ha Ys he) hg (by decide) (by decide) he ZO
end
end
section
open PySem.Calls
end
section
open PySem.Calls
open PySem.W (CodeHd kla_fn kla_obj)
end
section
open PySem.Calls
open PySem.W (CodeHd kla_fn kla_obj)
end
section
open PySem.Calls
end
section
open PySem.Calls
section
variable{prog:cg}{w:c8}{A:dh}{E:aj->ao->Prop}{s:ao}{d:aq}{od:Obj}{es:Array DictEntry}{ep:Nat}
theorem oU(hh:A.handled=aB)(I:aq)(VE:d≠I)(c:od.data= .dict es ep):Walks prog w A I [I,d] [I] es.size (λi v=>∃e,es[i]? =aA e/\v=e.key) (λi h=>h.IsKeyIter I d i es.size ep/\h.get? d=aA od)where
 sub:=λb hb=>by simp at hb;simp[hb]
 frame:=λ_ _ _ st hk=>⟨Gs st.1 λo e=>hk I (by simp) o e,hk d (by simp) _ st.2⟩
 item:=λi s Q E hi st hQ=>by
  have he:es[i]? =aA es[i]:=by simp[hi]
  refine Aa st.1 st.2 c rfl he λh' t' UG=>?_;exact hQ _ h' s.toks ⟨_,he,rfl⟩ ⟨t',(UG.2 d VE).trans st.2⟩ λb o hb e=>(UG.2 b (λh=>hb (by simp[h]))).trans e
 done:=λs Q E st hQ=>Ab hh st.1 st.2 c rfl (bc _) λh' TB=>hQ h' s.toks λb o hb e=>TB b o (λh=>hb (by simp[h])) e
 self:=λ_ _ _ _ st hQ=>wpAny_pyIter_keyiter st.1 hQ
theorem tQ(lo:(d==sysModules)=aD)(x:od.ExactDict)(c:od.data= .dict es ep):PySem.W.KdlSrc prog w "dict" d d es.size (λi v=>∃e,es[i]? =aA e/\v=e.key) (λh=>h.get? d=aA od)where
 type:=λ_ g=>⟨od,g,x.1⟩
 there:=λ_ g=>⟨bp g,bp g⟩
 keep:=λ_ _ g hk=>hk d (.inl rfl) _ g
 notList:=by decide
 notTuple:=by decide
 hint:=λ_ _ _ _ g hq=>PySem.W.kdl_hint_dict ⟨od,g,x.1⟩ hq
 iter:=λ_ _ hh g=>⟨_,_,(λ_ _ hq=>Pz lo g x c hq),oU hh _ (cm (bp g)) c,⟨⟨_,bo _ rfl,rfl,rfl⟩,ar _ g⟩⟩
theorem P8{Q:List aj->ao->Prop}(hh:A.handled=aB)(lo:(d==sysModules)=aD)(x:od.ExactDict)(c:od.data= .dict es ep)(g:s.heap.get? d=aA od)(hn:es.size<=1000)
  (h:∀h' tk,(∀b o,s.heap.get? b=aA o->h'.get? b=aA o)->s.heap.objs.size<=h'.objs.size->Q (es.toList.map (·.key)) {s with heap:=h',toks:=tk}):bj (cf prog w) A (collect (.ref d)) Q E s:=by
 have U':d<s.heap.objs.size:=bp g;have nS:s.heap.objs.size≠d:=Nat.ne_of_gt U';unfold collect;refine ab (wpAny_runValue (gy PySem.F.entry_proto_collect ?_));rw[ft PySem.F.plain_proto_collect _];show bj _ A.in1 (newList [] >>=λl=>again (.builtin "list.__iadd__" ⟨[l,.ref d],[]⟩)) _ _ s;refine ab (di ?_);refine af ⟨plainId_quiet PySem.F.plain_list_iadd _,gy PySem.F.entry_list_iadd ?_⟩;rw[ft PySem.F.plain_list_iadd _];show bj _ A.in1 (Builtin.List.listExtendWith (.ref s.heap.objs.size) (.ref d) (.ref s.heap.objs.size)) _ _ _;refine PySem.W.kdl_extend (R:=λrr s'=>match rr with
  | .ok (.ret v)=>bj (cf prog w) A (match v with
   | .ref a=>(load a >>=λx=>match x.data with
    | .seq xs _=>pure xs.toList
    |_=>unsupported "internal:collect")
   |_=>unsupported "internal:collect") Q E s'
  | .ok _=>False
  | .error e=>E e s') (s:={s with heap:=s.heap.push {cls:=.type "list",data:=.seq #[] 0}}) (tQ (prog:=prog) (w:=w) lo x c) hh (ar _ g) s.heap.objs.size nS nS _ 0 (bo _ rfl) (λh' tk ZK c' hk gS YS=>?_) (by rw[d7];omega)
 show bj _ A (load s.heap.objs.size >>=_) _ _ _;refine ab (wpAny_load gS ?_);refine af ?_;have e:ZK.toList=es.toList.map (·.key):=by
  apply List.ext_getElem?;intro i;rw[c7,bg,c7];cases hi:ZK[i]? with
  |none=>
   have:ZK.size<=i:=by simpa using hi
   rw[YS.1]at this;rw[show es[i]? =aB by simpa using this];rfl
  |some v=>obtain⟨e,he,rfl⟩:=YS.2 i v hi;rw[he];rfl
 show Q ZK.toList _;rw[e];exact h h' tk (λb o q=>hk b o (cm (bp q)) (ar _ q)) (Nat.le_of_lt (bp gS))
end
end
section
open PySem.Calls
open PySem.W (kas_sort kas_ask kas_item kat_run kat_snds)
section
variable{X:Cx}{n_:List (aq×Obj)}{σ:L2.St}{H:Hp}{s:ao}{E:aj->ao->Prop}{mC:List aj}{KeyOk:Nat->V->Hp->Prop}{Q:aj->ao->Prop}{O:KeyOrd}{key:Nat->O.α}{kvs:List V}
theorem Fk(I:mE X n_ σ H s)(h64:mC.length<64)(rv:Z1 kvs mC)(hk:∀j kv,kvs[j]? =aA kv->KeyOk j kv H)(hc:Cmp X n_ σ H X.A.in1.in1 KeyOk O key mC.length)
  (hQ:∀p D s' c,Pm mC.length p->Lx key p mC.length->X.s₀.heap.get? D=aB->mE X n_ σ H s'->Uy X n_ H D->s'.heap.get? D=aA (d8 "list" (List.toArray (p.toList.map λi=>mC.getD i cn)) c)->Q (.ref D) s'):
  bj (cf X.prog X.w) X.A.in1 (do
   let l<-newList mC;let _<-holding [l] (call (.builtin "list.sort") [l] [])
   ret l) (λfin s'=>∃v,fin= .done (.ret v)/\Q v s') E s:=by
 refine ab (wpAny_newList ?_ (by rw[d7];omega));have X':(s.heap.push (d8 "list" mC.toArray 0)).get? s.heap.objs.size=aA (d8 "list" mC.toArray 0):=bo _ rfl;have keep:∀b o,s.heap.get? b=aA o->(s.heap.push (d8 "list" mC.toArray 0)).get? b=aA o:=λb o q=>ar _ q;refine ab (wpAny_holding (dq (s:={s with heap:=s.heap.push (d8 "list" mC.toArray 0)}) slot_list_sort ⟨_,X',rfl⟩ entry_list_sort ?body (args_list_sort _)))
 case body=>
  rw[list_sort_plain];have hs2:(s.heap.push (d8 "list" mC.toArray 0)).objs.size=s.heap.objs.size+1:=size_push' ..;generalize hh:(s.heap.push (d8 "list" mC.toArray 0))=h1 at X' keep hs2⊢;generalize hD:s.heap.objs.size=D at X'⊢;have yo: @Eq Nat D s.heap.objs.size:=hD.symm;obtain⟨e1,ho1⟩:∃e1,(h1.update D (dm λ_=>(#[]:Array aj))).get? D=aA (d8 "list" #[] e1):=⟨_,get?_update_seq X' λ_=> #[]⟩
  refine ab (listItems_at X' rfl ?_);refine ab (listUpdate_at X' rfl ?_ (by rw[bv,d7];omega) (dk _));refine ab (seqEpoch_at ho1 rfl ?_);refine ab (wpAny_newTuple ?_ (by show mC.length<=_;rw[d7];omega));refine ab (wpAny_newList ?_ (dk _));refine wpAny_holding ?_;have kp:∀b o,s.heap.get? b=aA o->(((h1.update D (dm λ_=>(#[]:Array aj))).push (d8 "tuple" mC.toArray 0)).push (d8 "list" #[] 0)).get? b=aA o:=λb o q=>by have ZL: @LT.lt Nat _ b s.heap.objs.size:=bp q;have:=keep b o q;refine ar _ (ar _ ?_);rw[Heap.get?_update_ne _ _ _ _ (cm (show @LT.lt Nat _ b D by omega))];exact this
  have nD:H D=aB:=I.hok.fresh (by omega);have fD:Uy X n_ H D:=I.fpOk (by omega) nD;have WA:(((h1.update D (dm λ_=>(#[]:Array aj))).push (d8 "tuple" mC.toArray 0)).push (d8 "list" #[] 0)).get? D=aA (d8 "list" #[] e1):=ar _ (ar _ ho1);have I6:mE X n_ σ H {s with heap:=((h1.update D (dm λ_=>(#[]:Array aj))).push (d8 "tuple" mC.toArray 0)).push (d8 "list" #[] 0)}:=I.kept kp;show bj (cf X.prog X.w) X.A.in1.in1 _ _ _ {s with heap:=((h1.update D (dm λ_=>(#[]:Array aj))).push (d8 "tuple" mC.toArray 0)).push (d8 "list" #[] 0)};have VN:X.s₀.heap.get? D=aB:=Heap.get?_none_of_le (ga I.sz (by omega));generalize hs6:({s with heap:=((h1.update D (dm λ_=>(#[]:Array aj))).push (d8 "tuple" mC.toArray 0)).push (d8 "list" #[] 0)}:ao)=s6 at I6⊢;have WA:s6.heap.get? D=aA (d8 "list" #[] e1):=by rw[<-hs6];exact WA
  have fin:∀(p:Array Nat) (out:Array aj),out=List.toArray (p.toList.map λi=>mC.getD i cn)->out.size<64->Pm mC.length p->Lx key p mC.length->
    Q (.ref D) {s6 with heap:=s6.heap.update D (dm λ_=>out)}:=λp out ho hz z1 z2=>by
   subst ho;exact hQ p D _ _ z1 z2 VN (Hx (o:=d8 "list" #[] 0) (xs:= #[]) (ys:= #[]) (n:=0) I6 fD) fD (get?_update_seq WA λ_=>_)
  try dsimp only
  by_cases h2:mC.toArray.size<2
  .rw[m6 h2,m6 h2];have WR:mC.length<2:=by simpa using h2
   refine ab (af ?_);rw[StateT.run_pure];refine ab (af ?_)
   try dsimp only
   have eo:(arrOf (SortSt.mk' general' (mC.toArray.zip mC.toArray) #[] 7 aB)).map (·.2)=List.toArray ((List.toArray (df mC.length)).toList.map λi=>mC.getD i cn):=by
    show(mC.toArray.zip mC.toArray).map (·.2)=_;apply Array.toList_inj.mp;rw[Array.toList_map,ksk_zip];simp only[List.toList_toArray];rw[List.map_snd_zip (by omega)];apply List.ext_getElem
    .simp
    .intro i a b;simp[a]
   rw[eo];refine ab (seqEpoch_at WA rfl ?_);refine ab (listUpdate_at WA rfl ?_ (dk _) (by rw[bv,d7];simp;omega));show bj _ _ (if((e1 !=e1)=aC)then _ else _) _ _ _;simp only[bne_self_eq_false,bu,if_false];refine af ⟨_,rfl,af ⟨_,rfl,fin (List.toArray (df mC.length)) _ rfl (by simp;omega) (Array.Perm.refl _) (λi j YW hj=>?_)⟩⟩;have:i=j:=by omega
   subst this;exact KeyOrd.kle_refl _
  .rw[m4 h2,m4 h2];have WR:2<=mC.length:=Nat.le_of_not_lt (by simpa using h2);obtain⟨κ,KD,ZL⟩:=hc H s6 mC kvs (Zi.refl H) I6 rv rfl hk WR;refine ab (wpAny_mono (KD (λTM s'=>TM=κ/\s'=s6) ⟨rfl,rfl⟩) (λTM s' z=>?_) λ_ _ z=>z.elim);obtain⟨rfl,rfl⟩:=z;have g:=Wx.wp (lt:=E4 O key) (n:=mC.length) (R:=λq=>Pm mC.length q/\Lx key q mC.length) (cmp:=kas_ask X.prog X.w X.A.in1.in1 TM mC) (I:=λYE=>YE=s') (Q:=λq YE=>YE=s'/\Pm mC.length q/\Lx key q mC.length)
    (λi j C YE hi hj z hC=>by subst z;exact ZL i j C hi hj (hC _ rfl)) (λq YE z1 z2=>⟨z2,z1⟩) (Ff (key:=key) (by omega)) rfl
   refine ab (wpAny_mono (kat_run (Q:=λst YE=>∃p:Array Nat,YE=s'/\Pm mC.length p/\Lx key p mC.length/\arrOf st=p.map (kas_item (mC.toArray.zip mC.toArray))/\failedOf st=aB) rfl WR h64
    (λp st YE _ a1 a2 z=>⟨p,z.1,z.2.1,z.2.2,a1,a2⟩) g) (λr YE z=>?_) λ_ _ z=>z)
   obtain⟨⟨⟩,st⟩:=r;obtain⟨p,rfl,z1,z2,z3,z4⟩:=z
   try dsimp only
   rw[kat_snds rfl z3];refine ab (seqEpoch_at WA rfl ?_);refine ab (listUpdate_at WA rfl ?_ (dk _) (by rw[bv,ah,bf,z1.size,d7];omega));rw[z4];simp only[bne_self_eq_false,bu,if_false];exact af ⟨_,rfl,af ⟨_,rfl,fin p _ rfl (by rw[bv,ah,bf,z1.size];exact h64) z1 z2⟩⟩
end
end
section
open PySem.Calls
section
variable{X:Cx}
def CB(K:ad):List V->Hp->VK->Prop:=λvs H Q=>∃a kvs ep bs F ds p,vs=[.ref a]/\Zi F H/\H a=aA (.dT kvs ep bs)/\mD K F ds (bs.map V.ref)/\mK ds/\Cs ds p/\bs.length<64/\∀q,H q=aB->Q (.ref q) (Yo H q (.lst (p.map λi=>(bs.map V.ref).getD i .non)))
theorem Rz:∀bs:List aq,Z1 (bs.map V.ref) (bs.map b8)
 | []=>.nil
 |b::bs=>.cons rfl (Rz bs)
theorem Xc(hc:X.calm=aC)(hu:X.A.units+64<fj):Je X (.builtin "sorted") (CB X.K):=by
 intro n_ s σ H xs us Q I r h;obtain⟨a,kvs,ep,bs,F,ds,p0,rfl,le,ha,rr,ko,SC,hz,q⟩:=h;obtain⟨u,rfl,ru⟩:=Oy r;cases ru;obtain⟨_,hd,ys,ZP,od,es,g,x,c,en,nd,UK⟩:=(show Yc X.prog X.w H s.heap a (.dT kvs ep bs)from I.hok a _ ha)
 have ek:es.toList.map (·.key)=bs.map Value.ref:=by rw[en,<-UK,cu,cu];rfl
 have JH:es.size=bs.length:=by rw[<-bf,<-ah (f:=λe:DictEntry=>e.key),ek,ah]
 have hlen:ds.length=bs.length:=by have:=L2.mD.len2 rr;rw[ah]at this;exact this
 obtain⟨mJ,he,PJ⟩:=id ko.ord;obtain⟨kb,SL⟩:=id ko.key;have TY:X.A.in1.in1.units+16<cLine:=by show X.A.units+1+1+16<fj;omega
 refine Calls.call_function_entry kind_sorted plain_sorted entry_sorted (args_sorted1 _) ?_;unfold Builtin.«sorted»;refine ab (m:=checkCount "sorted" 1 1 _) (af ?_);refine ab (P8 (A:=X.A.in1) (I.ok.hd hc) hd x c g (by omega) λh' tk hk ge=>?_);rw[ek];have I1:mE X n_ σ H {s with heap:=h',toks:=tk}:=I.kept hk;have bl:(bs.map b8).length=bs.length:=ah ..;refine Fk (mC:=bs.map b8) (kvs:=bs.map V.ref) (KeyOk:=λj kv H=>mI X.K H (ds.getD j .non) kv) (O:=strKind.toKeyOrd) (key:=Fj mJ ds) I1 (by rw[bl];exact hz) (Rz bs) (λj kv e=>?_) (Lz TY SL he (by rw[bl];exact hlen)) ?hQ
 .have hj:j<(bs.map V.ref).length:=(aw.mp e).1;rw[ah]at hj;have h1:=Gw rr j (by omega);have:(bs.map V.ref).getD j .non=kv:=by rw[bi,e];rfl
  rw[this]at h1;exact h1.mono le
 case hQ=>
  intro p D s3 cc hp hs VN I3 fD gD;rw[bl]at hp hs;have ep:p.toList=p0:=Al ko (L0 he hlen hp hs) SC;rw[ep]at gD;have WL:∀i∈p0,i<bs.length:=λi hi=>by have:=cr.mp (SC.1.mem_iff.mp hi);omega
  have new:Yc X.prog X.w (Yo H D (.lst (p0.map λi=>(bs.map V.ref).getD i .non))) s3.heap D (.lst (p0.map λi=>(bs.map V.ref).getD i .non)):=by refine⟨?_,p0.map λi=>(bs.map b8).getD i cn,cc,Ry (Rz bs) (λi hi=>by rw[bl];exact WL i hi),gD⟩;have:=SC.1.length_eq;rw[List.length_range]at this;rw[ah,this,d7];omega
  exact⟨.ref D,_,mE.trackO I3 VN fD.1 fD.2.1 fD.2.2.2.2.1 fD.2.2.2.2.2 new,rfl,q D fD.1⟩
end
end
section
open PySem.Calls
section
variable{K:ad}{F H:Hp}{v:V}
theorem Yb.dT2{ks:List (List Key)}{ds:List D}(le:Zi F H)(h:Yb K F H (.dT ks ds) v):∃a kvs ep bs,v= .ref a/\H a=aA (.dT kvs ep bs)/\KB F kvs bs/\kvs.map (·.1)=ks:=by
 obtain⟨sv,ns,e,n,sh,hp⟩:=h;cases sh with
 |fz r=>cases e;cases r with|dT h kb e r=>exact⟨_,_,_,_,rfl,le _ _ h,kb,e⟩
 |ol r=>cases e
 |oK e' r=>cases e
 |oT kb e' r=>cases e;exact⟨_,_,_,_,rfl,hp _ ac,kb,e'⟩
 |oN e' r=>cases e
 |oR e' r=>cases e
 |oX kb' e' r=>cases e
 |oD r=>cases e
 |oM kb' e' r=>cases e
 |oL hp' r=>cases e
 |oQ e' r=>cases e
abbrev Mi(k:List Key):D:=.tup (k.map P0)
theorem Da:∀{kvs:List (List Key×V)} {bs:List aq},KB F kvs bs->mD K F ((kvs.map (·.1)).map Mi) (bs.map V.ref)
 |_,_,.nil=>.nil
 |_,_,.cons h t=>.cons (.tup h (Rv _)) (Da t)
theorem uC{kvs:List (List Key×V)}{bs:List aq}(h:KB F kvs bs):kvs.length=bs.length:=Paired.length h
def Fm:List D->Option SV
 | [.dT ks _]=>Mt (ks.map Mi) (ks.map Mi)
 |_=>aB
variable{Z:mF K}{σ:L2.St}{Q:VK}{E:Ends}
theorem uB:Bc Z (CB K) Fm:=by
 intro F H σ δ own vs ds sv Q s r e k;unfold Fm at e;split at e
 .rename_i ks us;obtain⟨_,hz,ko,p,hp,rfl⟩:=Hy e;cases r with
  |cons h t=>cases t;obtain⟨a,kvs,ep,bs,rfl,ha,kb,rfl⟩:=Yb.dT2 s.le h;have rr:mD K F ((kvs.map (·.1)).map Mi) (bs.map V.ref):=Da kb;have WL:∀i∈p,i<((kvs.map (·.1)).map Mi).length:=λi hi=>cr.mp (hp.1.mem_iff.mp hi);exact⟨a,kvs,ep,bs,F,_,p,rfl,s.le,ha,rr,ko,hp,by rw[<-uC kb];simpa using hz,λq hq=>k.lst s (Cc rr WL) hq⟩
 .cases e
end
section
variable{X:Cx}{Z:mF X.K}{a b c:cw}{fa fb fc:FE}{pos:Pos}
theorem uA{p:Pos}(hc:X.calm=aC)(hv:X.A.units+64<fj)(hm:X.mg "sorted"=aB)(ha:PE X a (Zf Z fa))(hg:Gl X "sorted":=by rfl)(he:az [a] X.env=(aD,gg a X.env)::az [] X.env:=by rfl)(ZO:(gb pos (az [] X.env)).any (·.1)=aD:=by rfl):
  PE X (.Call (.Name "sorted" p) [a] [] pos) (Zf Z (Yi Fm (Ze fa Zo))):=Mz (Xc hc hv) uB hm L2.Ui (Zt ha Ys he) hg (by decide) (by decide) he ZO
end
end
section
variable{X:Cx}{pos:Pos}
end
section
variable{K:ad}{Z:mF K}{H:Hp}{σ:L2.St}
noncomputable def xv(n:Nat)(g:FGs):FG:=⟨λd δ=>match d with
 | .lst xs=>if xs.length=n then g.run xs δ else aB
 |_=>aB,g.tch⟩
@[simp]theorem nX(n:Nat)(g:FGs)(xs:List D)(δ:Ym):(xv n g).run (.lst xs) δ=if xs.length=n then g.run xs δ else none:=rfl
variable{X:Cx}{Z:mF X.K}{pos:Pos}
end
section
open PySem.SetTable
noncomputable def Xd(m:Nat)(p:Probe):Probe:=
 if p.more > 0 then{p with j:=p.j+1,more:=p.more- 1}else
 {p with j:=(leap m p.i p.perturb).1,more:=runEnd m (leap m p.i p.perturb).1- (leap m p.i p.perturb).1,i:=(leap m p.i p.perturb).1,perturb:=(leap m p.i p.perturb).2}
theorem v_(t:gn)(p:Probe):t.advance p=Xd t.mask p:=rfl
def Wg(m:Nat):Nat->Probe->Probe
 |0,p=>p
 |n+1,p=>Wg m n (Xd m p)
theorem Qi(m:Nat):∀(a b:Nat) (p:Probe),Wg m (a+b) p=Wg m b (Wg m a p)
 |0,b,p=>by rw[Nat.zero_add];rfl
 |a+1,b,p=>by rw[Nat.add_right_comm];exact Qi m a b (Xd m p)
noncomputable def Gx(m i q:Nat):Probe:={j:=i,more:=runEnd m i- i,i:=i,perturb:=q,dummy:=aB}
theorem Db(m:Nat)(p:Probe):(Xd m p).dummy=p.dummy:=by unfold Xd;split<;> rfl
theorem P9(m:Nat):∀(n:Nat) (p:Probe),(Wg m n p).dummy=p.dummy
 |0,_=>rfl
 |n+1,p=>(P9 m n (Xd m p)).trans (Db m p)
theorem vc(m i:Nat):runEnd m i- i<=9:=by unfold runEnd;split<;> omega
theorem BW{m i:Nat}(h:i<=m):runEnd m i<=m:=by unfold runEnd;split<;> omega
theorem L3(m i:Nat):i<=runEnd m i:=by unfold runEnd;split<;> omega
theorem Jk{m i q:Nat}:∀{k:Nat},k<=runEnd m i- i->Wg m k (Gx m i q)={j:=i+k,more:=runEnd m i- i- k,i:=i,perturb:=q,dummy:=aB}
 |0,_=>rfl
 |k+1,h=>by rw[Qi m k 1,Jk (by omega)];show Xd m _=_;unfold Xd;rw[m6 (by show runEnd m i- i- k > 0;omega)];rfl
theorem Oj(m i q:Nat):Wg m (runEnd m i- i+1) (Gx m i q)=Gx m (leap m i q).1 (leap m i q).2:=by rw[Qi m _ 1,Jk (bc _)];show Xd m _=_;unfold Xd;rw[m4 (by show¬runEnd m i- i- (runEnd m i- i) > 0;omega)];rfl
noncomputable def Jf(m:Nat):Nat->Nat×Nat->Nat×Nat
 |0,x=>x
 |n+1,x=>Jf m n (leap m x.1 x.2)
theorem Fn(m:Nat):∀(a b:Nat) (x:Nat×Nat),Jf m (a+b) x=Jf m b (Jf m a x)
 |0,b,x=>by rw[Nat.zero_add];rfl
 |a+1,b,x=>by rw[Nat.add_right_comm];exact Fn m a b _
theorem Sa{m:Nat}:∀(n:Nat) (x:Nat×Nat),x.1<=m->(Jf m n x).1<=m
 |0,_,h=>h
 |n+1,x,_=>Sa n _ (Nat.le_of_lt_succ (Nat.mod_lt (x.1*5+1+x.2 / 32) (Nat.succ_pos m)))
theorem Fo(m:Nat):∀(n:Nat) (x:Nat×Nat),(Jf m n x).2=x.2 / 32^n
 |0,x=>by simp[Jf]
 |n+1,x=>by show(Jf m n (leap m x.1 x.2)).2=_;rw[Fo m n];show x.2 / 32 / 32^n=_;rw[Nat.div_div_eq_div_mul,Nat.pow_succ,Nat.mul_comm]
noncomputable def orb(m:Nat):Nat->Nat->Nat
 |0,_=>0
 |n+1,i=>(1<<<i)|||orb m n ((i*5+1) % (m+1))
theorem Dc{m:Nat}:∀(n i j:Nat),(orb m n i).testBit j=aC->∃c,c<n/\(Jf m c (i,0)).1=j
 |0,i,j,h=>by simp[orb]at h
 |n+1,i,j,h=>by
  unfold orb at h;rw[Nat.testBit_or,Bool.or_eq_true]at h;rcases h with h|h
  .refine⟨0,by omega,?_⟩;rw[Nat.one_shiftLeft,Nat.testBit_two_pow]at h;show i=j;exact m9 h
  .obtain⟨c,hc,e⟩:=Dc n _ j h;refine⟨c+1,by omega,?_⟩;show(Jf m c (leap m i 0)).1=j;have:leap m i 0=((i*5+1) % (m+1),0):=by simp[leap]
   rw[this];exact e
def Msk(m:Nat):Prop:=m=7\/m=31\/m=127
theorem tP{m:Nat}(h:Msk m):(df (m+1)).all (λi=>orb m (m+1) i==2^(m+1)- 1)=aC:=by rcases h with rfl|rfl|rfl<;> decide+kernel
theorem CA{m i q j:Nat}(h:Msk m)(hi:i<=m)(hq:q<2^64)(hj:j<=m):∃c,c<m+15/\(Jf m c (i,q)).1=j:=by
 have JV:(Jf m 13 (i,q)).2=0:=by rw[Fo];exact Nat.div_eq_of_lt (de hq (by decide))
 have hle:=Sa (m:=m) 13 (i,q) hi;generalize hx:Jf m 13 (i,q)=x at JV hle;obtain⟨a,b⟩:=x;simp only at JV hle;subst JV;have ho:=List.all_eq_true.mp (tP h) a (cr.mpr (by omega));have ho:orb m (m+1) a=2^(m+1)- 1:=by simpa using ho
 obtain⟨c,hc,e⟩:=Dc (m+1) a j (by rw[ho,Nat.testBit_two_pow_sub_one];simpa using by omega);exact⟨13+c,by omega,by rw[Fn,hx];exact e⟩
theorem BV(m:Nat):∀(c i q:Nat),∃n,n<=10*c/\Wg m n (Gx m i q)=Gx m (Jf m c (i,q)).1 (Jf m c (i,q)).2
 |0,i,q=>⟨0,by omega,rfl⟩
 |c+1,i,q=>by obtain⟨n,hn,e⟩:=BV m c (leap m i q).1 (leap m i q).2;refine⟨runEnd m i- i+1+n,by have:=vc m i;omega,?_⟩;rw[Qi,Oj,e];rfl
abbrev Qw(m:Nat)(h:Int):Probe:=Gx m (bits h % (m+1)) (bits h)
theorem nW(t:gn)(h:Int):t.probeStart h=Qw t.mask h:=rfl
theorem Dd(h:Int):bits h<2^64:=by unfold bits;have h1:=Int.emod_lt_of_pos h (show(0:Int)<2^64 by decide);have h2:=Int.emod_nonneg h (show(2^64:Int)≠0 by decide);omega
theorem wV{m:Nat}(hm:Msk m)(h:Int){j:Nat}(hj:j<=m):∃n,n<10*turns m/\(Wg m n (Qw m h)).j=j:=by obtain⟨c,hc,e⟩:=CA (q:=bits h) hm (Nat.le_of_lt_succ (Nat.mod_lt (bits h) (Nat.succ_pos m))) (Dd h) hj;obtain⟨n,hn,e2⟩:=BV m c (bits h % (m+1)) (bits h);exact⟨n,by unfold turns;omega,by rw[e2];exact e⟩
abbrev sq(m:Nat)(h:Int)(n:Nat):Nat:=(Wg m n (Qw m h)).j
theorem De{m:Nat}:∀(n:Nat) (p:Probe),p.i<=m->p.j+p.more<=m->(Wg m n p).j<=m
 |0,p,_,h=>by show p.j<=m;omega
 |n+1,p,hi,h=>by
  refine De n (Xd m p) ?_ ?_
  .unfold Xd;split
   .exact hi
   .exact Nat.le_of_lt_succ (Nat.mod_lt (p.i*5+1+p.perturb / 32) (Nat.succ_pos m))
  .unfold Xd;split
   .show p.j+1+(p.more- 1)<=m;omega
   .have hl:(leap m p.i p.perturb).1<=m:=Nat.le_of_lt_succ (Nat.mod_lt (p.i*5+1+p.perturb / 32) (Nat.succ_pos m));have:=BW hl;have:=L3 m (leap m p.i p.perturb).1;show(leap m p.i p.perturb).1+(runEnd m (leap m p.i p.perturb).1- (leap m p.i p.perturb).1)<=m;omega
theorem HI(m:Nat)(h:Int)(n:Nat):sq m h n<=m:=by have h1:bits h % (m+1)<=m:=Nat.le_of_lt_succ (Nat.mod_lt _ (Nat.succ_pos m));refine De n _ h1 ?_;have:=BW h1;have:=L3 m (bits h % (m+1));show bits h % (m+1)+(runEnd m (bits h % (m+1))- bits h % (m+1))<=m;omega
theorem R0{t:gn}(hr:Bh t.place.toList){i j:Nat}(h:t.place[i]? =aA j):t.slot j= .live i:=by
 have hi:i<t.place.size:=(gd.mp h).1;have a:At t.place j i:=by
  refine⟨by omega,λk y hk e=>Og hr e h hk,λk y hk e=>?_⟩;rcases Nat.lt_or_eq_of_le hk with z|z
  .exact Nat.le_of_lt (Og hr h e z)
  .subst z;rw[h]at e;cases e;exact bc _
 have e:=Ht (Ae hr j) a;unfold SetTable.slot;dsimp only;rw[e,h,m6 (by simp)]
theorem L4{t:gn}{i j:Nat}(h:t.slot j= .live i):t.place[i]? =aA j:=by
 unfold SetTable.slot at h;dsimp only at h;split at h
 .rename_i e;cases h;simpa using e
 .split at h<;> cases h
theorem Df{t:gn}(hr:Bh t.place.toList){j:Nat}(h:t.slot j= .empty):j∉t.place.toList:=λz=>by
 obtain⟨i,hi,e⟩:=d5 z;have:t.place[i]? =aA j:=by rw[<-c7,aw];exact⟨hi,e⟩
 rw[R0 hr this]at h;cases h
theorem An{t:gn}(hd:t.dummies= #[])(j:Nat):t.slot j= .empty\/∃i,t.slot j= .live i:=by
 unfold SetTable.slot;dsimp only;split
 .exact .inr ⟨_,rfl⟩
 .rw[hd,Hu];exact .inl (by simp)
theorem Ao{t:gn}(hd:t.dummies= #[]){j:Nat}(h:j∉t.place.toList):t.slot j= .empty:=by
 rcases An hd j with z|⟨i,z⟩
 .exact z
 .have:=L4 z;rw[<-c7]at this;exact m_ (b9 this) h
theorem Dg{t:gn}(hd:t.dummies= #[])(f:Nat->Int)(h:Int):∀(fuel:Nat) (p:Probe),p.dummy=aB->(∃n,n<fuel/\t.slot (Wg t.mask n p).j= .empty)->
  (∃n,n<fuel/\SetTable.probe.go t f h fuel p=aA (.empty (Wg t.mask n p).j aB)/\t.slot (Wg t.mask n p).j= .empty/\∀k,k<n->∃i,t.slot (Wg t.mask k p).j= .live i/\f i≠h)\/
  (∃n i,n<fuel/\SetTable.probe.go t f h fuel p=aA (.candidate (Wg t.mask n p).j i (Wg t.mask (n+1) p))/\t.slot (Wg t.mask n p).j= .live i/\f i=h/\∀k,k<n->∃i,t.slot (Wg t.mask k p).j= .live i/\f i≠h)
 |0,p,_,⟨n,hn,_⟩=>m_ hn (dz _)
 |fuel+1,p,hp,⟨n,hn,he⟩=>by
  unfold SetTable.probe.go;rcases An hd p.j with hs|⟨i,hs⟩
  .refine .inl ⟨0,by omega,?_,hs,λk hk=>m_ hk (dz _)⟩;rw[hs];show aA (Met.empty p.j p.dummy)=_;rw[hp];rfl
  .rw[hs];dsimp only;by_cases hf:f i=h
   .refine .inr ⟨0,i,by omega,?_,hs,hf,λk hk=>m_ hk (dz _)⟩;rw[m6 (by simpa using hf)];rfl
   .rw[m4 (by simpa using hf),v_];cases n with
    |zero=>have he:t.slot p.j= .empty:=he;rw[hs]at he;cases he
    |succ n=>
     have first:∀n,(∀k,k<n->∃i,t.slot (Wg t.mask k (Xd t.mask p)).j= .live i/\f i≠h)->∀k,k<n+1->∃i,t.slot (Wg t.mask k p).j= .live i/\f i≠h:=λn a k hk=>by
      cases k with
      |zero=>exact⟨i,hs,hf⟩
      |succ k=>exact a k (by omega)
     rcases Dg hd f h fuel (Xd t.mask p) ((Db _ _).trans hp) ⟨n,by omega,he⟩with⟨n',h1,h2,h3,h4⟩|⟨n',i',h1,h2,h3,h4,h5⟩
     .exact .inl ⟨n'+1,by omega,h2,h3,first n' h4⟩
     .exact .inr ⟨n'+1,i',by omega,h2,h3,h4,first n' h5⟩
def Lk(m:Nat)(pl:List Nat)(h:Int)(j:Nat):Prop:=∃n,sq m h n=j/\∀k,k<n->sq m h k∈pl
theorem Lk.mono{m:Nat}{pl ZV:List Nat}(hs:∀x∈pl,x∈ZV){h:Int}{j:Nat}(l:Lk m pl h j):Lk m ZV h j:=let⟨n,a,b⟩:=l;⟨n,a,λk hk=>hs _ (b k hk)⟩
structure Tb(t:gn)(hs:List Int):Prop where
 dum:t.dummies= #[]
 msk:Msk t.mask
 rise:Bh t.place.toList
 le:∀j∈t.place.toList,j<=t.mask
 len:t.place.toList.length=hs.length
 room:hs.length<=t.mask
 look:∀e∈hs.zip t.place.toList,Lk t.mask t.place.toList e.1 e.2
theorem Tb.fits{t:gn}{hs:List Int}(b:Tb t hs){n:Nat}(hn:n=hs.length):t.fits n=aC:=by
 have h1:=b.len;have h2:=b.room;have h3:t.place.size=hs.length:=by rw[<-h1,bf]
 unfold SetTable.fits SetTable.fill;rw[b.dum,h3,hn];simp;omega
theorem Tb.gave{t:gn}{hs:List Int}(b:Tb t hs):t.gaveWay=aD:=by unfold SetTable.gaveWay;rcases b.msk with e|e|e<;> rw[e]<;> rfl
theorem C1{l:List Nat}(h:Bh l):l.Nodup:=h.imp λz=>cm z
theorem Dh{m:Nat}{pl:List Nat}(nd:pl.Nodup)(hl:pl.length<=m):∃j,j<=m/\j∉pl:=by apply Classical.byContradiction;intro hn;have all:∀j,j<=m->j∈pl:=λj hj=>Classical.byContradiction λz=>hn ⟨j,hj,z⟩;have:(df (m+1)).length<=pl.length:=b7 List.nodup_range λj hj=>all j (by have:=cr.mp hj;omega);rw[List.length_range]at this;omega
theorem Tb.empty{t:gn}{hs:List Int}(b:Tb t hs)(h:Int):∃n,n<10*turns t.mask/\t.slot (sq t.mask h n)= .empty:=by obtain⟨j,hj,hn⟩:=Dh (C1 b.rise) (by rw[b.len];exact b.room);obtain⟨n,h1,h2⟩:=wV b.msk h hj;exact⟨n,h1,by show t.slot (Wg t.mask n (Qw t.mask h)).j= .empty;rw[h2];exact Ao b.dum hn⟩
theorem Tb.fresh(f m:Nat)(l:Bool):Tb (SetTable.fresh f m l) []:=⟨rfl,.inl rfl,List.Pairwise.nil,(λ_ z=>nomatch z),rfl,dk _,(λ_ z=>nomatch z)⟩
theorem tO{α β:Type}(p:Nat){as:List α}{bs:List β}(h:as.length=bs.length)(a:α)(b:β):(as.take p++a::as.drop p).zip (bs.take p++b::bs.drop p)=(as.zip bs).take p++(a,b)::(as.zip bs).drop p:=by rw[List.zip_append (by simp[h]),List.zip_cons_cons];simp only[List.zip_eq_zipWith,List.take_zipWith,List.drop_zipWith]
theorem Tb.put{t:gn}{hs:List Int}(b:Tb t hs)(h:Int){n:Nat}(he:t.slot (sq t.mask h n)= .empty)(hb:∀k,k<n->t.slot (sq t.mask h k)≠.empty)(hr:hs.length+1<=t.mask):
  Tb (t.put (sq t.mask h n)).1 (hs.take (below t.place (sq t.mask h n))++h::hs.drop (below t.place (sq t.mask h n))):=by
 have hn:t.place[SetTable.below t.place (sq t.mask h n)]?≠aA (sq t.mask h n):=λz=>by rw[R0 b.rise z]at he;cases he
 have hni:=Df b.rise he;have ye:∀k,k<n->sq t.mask h k∈t.place.toList:=λk hk=>Classical.byContradiction λz=>hb k hk (Ao b.dum z);have hjle:=HI t.mask h n;have QW:Lk t.mask t.place.toList h (sq t.mask h n):=⟨n,rfl,ye⟩
 generalize sq t.mask h n=j at*;have ZO:(t.put j).1.place.toList=t.place.toList.take (below t.place j)++j::t.place.toList.drop (below t.place j):=SetTable.toList_insertAt _ _ _;have hsub:∀x∈t.place.toList,x∈(t.put j).1.place.toList:=λx hx=>by
  rw[ZO];rw[<-List.take_append_drop (below t.place j) t.place.toList]at hx;rcases ba.mp hx with z|z
  .exact bz _ z
  .exact bx _ (am _ z)
 have hm:(t.put j).1.mask=t.mask:=rfl;refine⟨?_,by rw[hm];exact b.msk,qK b.rise hn,λx hx=>?_,?_,?_,λe TB=>?_⟩
 .show(if has t.dummies j then _ else t.dummies)= #[];rw[b.dum,Hu];rfl
 .rw[hm];rw[ZO]at hx;rcases ba.mp hx with z|z
  .exact b.le x (List.mem_of_mem_take z)
  .rcases ay.mp z with z|z
   .rw[z];exact hjle
   .exact b.le x (List.mem_of_mem_drop z)
 .rw[ZO];have:=b.len;simp only[av,List.length_take,bh,List.length_drop];omega
 .rw[hm];simp only[av,List.length_take,bh,List.length_drop];omega
 .rw[ZO,tO _ b.len.symm]at TB;rw[hm];rcases ba.mp TB with z|z
  .exact(b.look e (List.mem_of_mem_take z)).mono hsub
  .rcases ay.mp z with z|z
   .rw[z];exact QW.mono hsub
   .exact(b.look e (List.mem_of_mem_drop z)).mono hsub
theorem Tb.plainOff{t:gn}{hs:List Int}(b:Tb t hs):Tb {t with plain:=aD} hs:=⟨b.dum,b.msk,b.rise,b.le,b.len,b.room,b.look⟩
end
section
open PySem.SetTable
def Ow(owner:Array (Option Nat))(j:Nat):Prop:=(owner.getD j (aA 0)).isNone=aD
theorem Fp{m:Nat}{owner:Array (Option Nat)}:∀(fuel i q:Nat),(∃c,c<fuel/\¬Ow owner (Jf m c (i,q)).1)->
  ∃n,layClean.free m owner fuel i q=aA (Wg m n (Gx m i q)).j/\¬Ow owner (Wg m n (Gx m i q)).j/\∀k,k<n->Ow owner (Wg m k (Gx m i q)).j
 |0,i,q,⟨c,hc,_⟩=>m_ hc (dz _)
 |fuel+1,i,q,⟨c,hc,hn⟩=>by
  unfold layClean.free;cases hf:(df (runEnd m i+1- i)).find? λk=>(owner.getD (i+k) (aA 0)).isNone with
  |some k=>
   have hk:=List.find?_range_eq_some.mp hf;have hr:=L3 m i;have hkl:k<=runEnd m i- i:=by have:=cr.mp hk.2.1;omega
   refine⟨k,?_,?_,λk' NR=>?_⟩
   .rw[Jk hkl]
   .rw[Jk hkl];intro z;unfold Ow at z;dsimp only at z;rw[hk.1]at z;cases z
   .rw[Jk (by omega)];have:=hk.2.2 k' NR;unfold Ow;dsimp only;simpa using this
  |none=>
   have hall:=List.find?_eq_none.mp hf;have hr:=L3 m i;have own:∀k,k<=runEnd m i- i->Ow owner (i+k):=λk hk=>by
    have:=hall k (cr.mpr (by omega));unfold Ow;cases z:(owner.getD (i+k) (aA 0)).isNone with
    |false=>rfl
    |true=>exact m_ z this
   cases c with
   |zero=>exact m_ (own 0 (dk _)) hn
   |succ c=>
    obtain⟨n,h1,h2,h3⟩:=Fp fuel (leap m i q).1 (leap m i q).2 ⟨c,by omega,hn⟩;refine⟨runEnd m i- i+1+n,?_,?_,λk hk=>?_⟩
    .rw[Qi,Oj];exact h1
    .rw[Qi,Oj];exact h2
    .by_cases hk2:k<=runEnd m i- i
     .rw[Jk hk2];exact own k hk2
     .have e:k=runEnd m i- i+1+(k- (runEnd m i- i+1)):=by omega
      rw[e,Qi,Oj];exact h3 _ (by omega)
structure Ly(m:Nat)(hs:List Int)(owner:Array (Option Nat))(js:List Nat):Prop where
 size:owner.size=m+1
 len:js.length=hs.length
 nd:js.Nodup
 le:∀j∈js,j<=m
 own:∀j k,j<=m->(owner.getD j aB=aA k↔js[k]? =aA j)
 look:∀e∈hs.zip js,Lk m js e.1 e.2
theorem Ly.ow{m:Nat}{hs:List Int}{owner:Array (Option Nat)}{js:List Nat}(l:Ly m hs owner js){j:Nat}(hj:j<=m):Ow owner j↔j∈js:=by
 have hs:j<owner.size:=by rw[l.size];omega
 have e1:owner.getD j (aA 0)=owner[j]:=by simp[Array.getD,hs]
 have e2:owner.getD j aB=owner[j]:=by simp[Array.getD,hs]
 unfold Ow;rw[e1];constructor
 .intro h;cases z:owner[j]with
  |none=>rw[z]at h;cases h
  |some k=>exact b9 ((l.own j k hj).mp (by rw[e2];exact z))
 .intro h;obtain⟨k,hk,e⟩:=d5 h;have:=(l.own j k hj).mpr (aw.mpr ⟨hk,e⟩);rw[e2]at this;rw[this];rfl
theorem Ly.nil(m:Nat):Ly m [] (Array.replicate (m+1) aB) []:=by
 refine⟨by simp,rfl,cx,(λ_ z=>nomatch z),λj k hj=>?_,(λ_ z=>nomatch z)⟩;have:(Array.replicate (m+1) (aB:Option Nat)).getD j aB=aB:=by simp[Array.getD]
 rw[this];simp
theorem Ly.step{m:Nat}{hs:List Int}{owner:Array (Option Nat)}{js:List Nat}(hm:Msk m)(l:Ly m hs owner js)(hl:hs.length<=m)(h:Int):
  ∃j,layClean.free m owner (turns m) (bits h % (m+1)) (bits h)=aA j/\Ly m (hs++[h]) (owner.setIfInBounds j (aA hs.length)) (js++[j]):=by
 obtain⟨j0,EG,yN⟩:=Dh l.nd (by rw[l.len];exact hl);obtain⟨c,hc,e⟩:=CA (q:=bits h) hm (Nat.le_of_lt_succ (Nat.mod_lt (bits h) (Nat.succ_pos m))) (Dd h) EG;obtain⟨n,h1,h2,h3⟩:=Fp (m:=m) (owner:=owner) (turns m) (bits h % (m+1)) (bits h) ⟨c,hc,by rw[e,l.ow EG];exact yN⟩;have hle:=HI m h n;have QW:Lk m js h (sq m h n):=⟨n,rfl,λk hk=>(l.ow (HI m h k)).mp (h3 k hk)⟩
 have FZ:sq m h n∉js:=λz=>h2 ((l.ow hle).mpr z);refine⟨sq m h n,h1,?_⟩;generalize sq m h n=j at*;have hsz:j<owner.size:=by rw[l.size];omega
 refine⟨by simp[l.size],by simp[l.len],dn.mpr ⟨l.nd,by simp,λa ha b hb=>?_⟩,λx hx=>?_,λx k hx=>?_,λe he=>?_⟩
 .rw[ak.mp hb];exact λz=>FZ (z▸ha)
 .rcases ba.mp hx with z|z
  .exact l.le x z
  .rw[ak.mp z];exact hle
 .by_cases hxj:x=j
  .subst hxj;have:(owner.setIfInBounds x (aA hs.length)).getD x aB=aA hs.length:=by simp[Array.getD,hsz]
   rw[this];constructor
   .intro z;cases z;rw[<-l.len];simp
   .intro z;by_cases hk:k<js.length
    .rw[dg hk]at z;exact m_ (b9 z) FZ
    .have hk2:=(aw.mp z).1;rw[av,f7]at hk2;rw[<-l.len,show k=js.length by omega]
  .have hxs:x<owner.size:=by rw[l.size];omega
   have:(owner.setIfInBounds j (aA hs.length)).getD x aB=owner.getD x aB:=by simp[Array.getD,hxs,Array.getElem_setIfInBounds,Ne.symm hxj]
   rw[this,l.own x k hx];by_cases hk:k<js.length
   .rw[dg hk]
   .rw[dj (by omega)];constructor
    .intro z;cases z
    .intro z;have hk2:=(aw.mp z).1;rw[av,f7]at hk2;have:k=js.length:=by omega
     subst this;rw[gc (bc _)]at z;simp at z;exact m_ z.symm hxj
 .rw[List.zip_append l.len.symm]at he;rcases ba.mp he with z|z
  .exact(l.look e z).mono λx hx=>bz _ hx
  .simp at z;rw[z];exact QW.mono λx hx=>bz _ hx
theorem Di{m:Nat}(hm:Msk m):∀(rest hs:List Int) (owner:Array (Option Nat)) (js:List Nat),Ly m hs owner js->hs.length+rest.length<=m+1->
  ∃Y' LY,rest.foldl (λ(acc:Option (Array (Option Nat)×Nat)) h=>do
   let(owner,k)<-acc;let j<-layClean.free m owner (turns m) (bits h % (m+1)) (bits h)
   pure (owner.setIfInBounds j (aA k),k+1)) (aA (owner,hs.length))=aA (Y',(hs++rest).length)/\Ly m (hs++rest) Y' LY
 | [],hs,owner,js,l,_=>⟨owner,js,by simp,by simpa using l⟩
 |h::rest,hs,owner,js,l,hl=>by
  obtain⟨j,e,l2⟩:=l.step hm (by simp only[bh]at hl;omega) h;obtain⟨Y',LY,e2,l3⟩:=Di hm rest (hs++[h]) _ _ l2 (by simp only[av,bh,List.length_nil]at hl⊢;omega);refine⟨Y',LY,?_,by simpa using l3⟩;rw[List.foldl_cons];have z:(do
   let(owner,k)<-(aA (owner,hs.length):Option (Array (Option Nat)×Nat));let j<-layClean.free m owner (turns m) (bits h % (m+1)) (bits h)
   pure (owner.setIfInBounds j (aA k),k+1))=aA (owner.setIfInBounds j (aA hs.length),(hs++[h]).length):=by
   show(layClean.free m owner (turns m) (bits h % (m+1)) (bits h) >>=λj=>pure (owner.setIfInBounds j (aA hs.length),hs.length+1))=_;rw[e];simp
  rw[z,e2];simp
theorem oP{t:gn}{es:Array (Int×aj)}{YY:Nat}(hm:Msk (sizeAbove YY- 1))(hl:es.size<=sizeAbove YY- 1):
  ∃t' ZW,t.relaid (es.map λ(e:Int×aj)=>e.1) YY=aA (t',ZW)/\t'.led=t.led/\(ZW.filterMap λi=>es[i]?).toList.Perm es.toList/\Tb t' ((ZW.filterMap λi=>es[i]?).toList.map λ(e:Int×aj)=>e.1):=by
 unfold SetTable.relaid SetTable.laid SetTable.layClean;generalize sizeAbove YY- 1=m at*;have FV:(es.map (·.1)).toList.length=es.size:=by simp
 obtain⟨owner,js,e,l⟩:=Di hm (es.map λe=>e.1).toList [] _ [] (Ly.nil m) (by rw[FV];simp;omega);rw[<-Array.foldl_toList];have e:((es.map (·.1)).toList.foldl (λ(acc:Option (Array (Option Nat)×Nat)) h=>do
   let(owner,k)<-acc;let j<-layClean.free m owner (turns m) (bits h % (m+1)) (bits h)
   pure (owner.setIfInBounds j (aA k),k+1)) (aA (Array.replicate (m+1) aB,0)))=aA (owner,(([]:List Int)++(es.map λ(e:Int×aj)=>e.1).toList).length):=e
 rw[e];rw[d3]at l;have jl:js.length=es.size:=by rw[l.len,FV]
 generalize hlive:((df (m+1)).filterMap λj=>(owner.getD j aB).map (j,·))=live;have mem:∀j k,(j,k)∈live↔j<=m/\js[k]? =aA j:=λj k=>by
  rw[<-hlive,List.mem_filterMap];constructor
  .rintro⟨j',VX,z⟩;obtain⟨k',z1,z2⟩:=cq.mp z;cases z2;have hj:j<=m:=by have:=cr.mp VX;omega
   exact⟨hj,(l.own j k hj).mp z1⟩
  .rintro⟨hj,z⟩;exact⟨j,cr.mpr (by omega),by rw[(l.own j k hj).mpr z];rfl⟩
 have rise:Bh (live.map (·.1)):=by rw[<-hlive];unfold Bh;rw[dw];refine List.Pairwise.filterMap _ (λa b XH c hc d hd=>?_) List.pairwise_lt_range;obtain⟨_,_,rfl⟩:=cq.mp hc;obtain⟨_,_,rfl⟩:=cq.mp hd;exact XH
 have TV:∀x,x∈live.map (·.1)↔x∈js:=λx=>by
  rw[ax];constructor
  .rintro⟨⟨j,k⟩,hp,rfl⟩;exact b9 ((mem j k).mp hp).2
  .intro hx;obtain⟨k,hk,e⟩:=d5 hx;exact⟨(x,k),(mem x k).mpr ⟨l.le x hx,aw.mpr ⟨hk,e⟩⟩,rfl⟩
 have LF:live.length=es.size:=by have p:(live.map (·.1)).Perm js:=(List.perm_ext_iff_of_nodup (C1 rise) l.nd).mpr TV;have:=p.length_eq;rw[ah]at this;omega
 have zg:(live.map (·.2)).Nodup:=by have Ev:live.Pairwise λa b=>a.1≠b.1:=dw.mp (C1 rise);refine dw.mpr (List.Pairwise.imp_of_mem (fun{a b} ha hb XH z=>?_) Ev);obtain⟨j1,k1⟩:=a;obtain⟨j2,k2⟩:=b;simp only at z XH;subst z;have z1:=((mem j1 k1).mp ha).2;have z2:=((mem j2 k1).mp hb).2;rw[z1]at z2;exact XH (cy.inj z2)
 have UU:(live.map (·.2)).Perm (df es.size):=by
  refine(List.perm_ext_iff_of_nodup zg List.nodup_range).mpr λk=>?_;rw[ax,cr];constructor
  .rintro⟨⟨j,k⟩,hp,rfl⟩;have:=(aw.mp ((mem j k).mp hp).2).1;omega
  .intro hk;have NR:k<js.length:=by omega
   exact⟨(js[k],k),(mem _ _).mpr ⟨l.le _ (List.getElem_mem NR),au NR⟩,rfl⟩
 refine⟨{mask:=m,place:=(live.map (·.1)).toArray,dummies:= #[],finger:=t.finger,led:=t.led,moves:=t.movedTo m,plain:=t.plain},(live.map (·.2)).toArray,by rw[<-hlive];rfl,rfl,?_,?_⟩
 .rw[Array.toList_filterMap];exact(UU.filterMap _).trans (by rw[filterMap_getElem?_range])
 .have ge:∀p∈live,∃v,es[p.2]? =aA v:=λp hp=>by have:=cr.mp (UU.mem_iff.mp (ax.mpr ⟨p,hp,rfl⟩));exact⟨es[p.2],by simp[this]⟩
  have fm:∀l:List (Nat×Nat),(∀p∈l,∃v,es[p.2]? =aA v)->(l.map (·.2)).filterMap (λi=>es[i]?)=l.map λp=>es.getD p.2 (0,cn):=by
   intro l;induction l with
   |nil=>intro _;rfl
   |cons p l ih=>intro h;obtain⟨v,hv⟩:=h p ac;have hv2:=gd.mp hv;rw[bm,List.filterMap_cons_some hv,ih λq hq=>h q (am _ hq),bm];congr 1;simp only[Array.getD,hv2.1,↓reduceDIte];exact hv2.2.symm
  have el:(((live.map (·.2)).toArray.filterMap λi=>es[i]?).toList.map λ(e:Int×aj)=>e.1)=live.map λp=>(es.getD p.2 (0,cn)).1:=by rw[Array.toList_filterMap,List.toList_toArray,fm live ge,cu];rfl
  rw[el];refine⟨rfl,hm,by simpa using rise,λj hj=>?_,?_,?_,λe he=>?_⟩
  .exact l.le j ((TV j).mp (by simpa using hj))
  .simp
  .rw[ah,LF];exact hl
  .have:e∈(live.map λp=>(es.getD p.2 (0,cn)).1).zip (live.map (·.1)):=by simpa using he
   rw[List.zip_map']at this;obtain⟨⟨j,k⟩,hp,rfl⟩:=ax.mp this;obtain⟨hj,hk⟩:=(mem j k).mp hp;have hkl:=(aw.mp hk).1;have JA:k<es.size:=by omega
   have hz:((es.getD k (0,cn)).1,j)∈(es.map (·.1)).toList.zip js:=by rw[List.mem_iff_getElem?];refine⟨k,?_⟩;rw[List.getElem?_zip_eq_some];refine⟨?_,hk⟩;simp[JA,Array.getD]
   have lk:=l.look _ hz;show Lk m _ _ _;refine lk.mono λx hx=>?_;have:=(TV x).mpr hx;simpa using this
end
section
open PySem.SetTable
section
variable{prog:cg}{w:c8}{A:dh}{E:aj->ao->Prop}{s:ao}
theorem Dj(n:Nat){v:aj}(h:carriedByValue v=aC):ofAClassStatement n v=pure aD:=by
 cases v with
 |ref a=>simp[carriedByValue]at h
 |_=>first|rfl| (unfold ofAClassStatement;rfl)
theorem Sb{m:Nat}{ks:List Key}{a:aq}{Q:Bool->ao->Prop}(hk:IsTupleKey (Zq prog w) s.heap ks a)(h:Q aD s):bj (cf prog w) A (ofAClassStatement (m+1) (.ref a)) Q E s:=by
 have hT:=hk.typeIs;obtain⟨o,mB,n,ho,_,hd,hi⟩:=hk;unfold ofAClassStatement;refine ab (wpAny_typeOf hT ?_);dsimp only;rw[m6 (by decide)];refine ab (af ?_);simp only[fu,bu,if_false];refine ab (wpAny_seqItems ho hd ?_);dsimp only;refine ab ?_;rw[<-Array.forIn_toList];refine wpAny_forIn_list _ (λrest r s'=>r.1=aB/\s'=s/\∀v∈rest,carriedByValue v=aC) _ ?_ ?_ _ _ ⟨rfl,rfl,hi.byValue⟩
 .rintro v rest r s' ⟨hr,rfl,hall⟩;rw[Dj _ (hall v ac)];refine ab (af ?_);simp only[bu,if_false];exact af ⟨rfl,rfl,λu UF=>hall u (am _ UF)⟩
 .rintro⟨r1,r2⟩ s' ⟨hr,rfl,_⟩;simp only at hr;subst hr;exact af h
theorem D'{k:Zm}{a:aq}{Q:Bool->ao->Prop}(hk:Uw prog w s.heap k a)(h:Q aD s):bj (cf prog w) A (ofAClassStatement 8 (.ref a)) Q E s:=by
 cases k with
 |inl l=>exact Sb hk h
 |inr p=>have hT:=hk.typeIs;obtain⟨n,l⟩:=p;obtain⟨o,mB,m,t,b,ho,_,hd,hi,hb⟩:=hk;unfold ofAClassStatement;refine ab (wpAny_typeOf hT ?_);dsimp only;rw[m6 (by decide)];refine ab (af ?_);simp only[fu,bu,if_false];refine ab (wpAny_seqItems ho hd ?_);dsimp only;refine ab ?_;rw[<-Array.forIn_toList,hi];simp only[List.forIn_cons,List.forIn_nil];rw[Dj _ (v:=Value.int n t) rfl];refine ab (ab (af ?_));simp only[bu,if_false];refine af ?_;dsimp only;refine ab (ab (Sb hb ?_));simp only[bu,if_false];exact af (af (af h))
theorem tN(n:Nat){v:aj}(h:carriedByValue v=aC):∃b,hashByValue n v=pure b:=by
 cases v with
 |ref a=>simp[carriedByValue]at h
 |_=>unfold hashByValue;exact⟨_,rfl⟩
theorem Sd{m:Nat}{ks:List Key}{a:aq}{Q:Bool->ao->Prop}(hk:IsTupleKey (Zq prog w) s.heap ks a)(h:∀b,Q b s):bj (cf prog w) A (hashByValue (m+1) (.ref a)) Q E s:=by
 have hT:=hk.typeIs;obtain⟨o,mB,n,ho,_,hd,hi⟩:=hk;unfold hashByValue;refine ab (wpAny_specialOf hT F.slot_tuple_hash.lookup ?_);refine ab (wpAny_seqItems ho hd ?_);refine ab ?_;show bj _ _ (forIn mB _ _) _ _ s;rw[<-Array.forIn_toList];refine wpAny_forIn_list _ (λrest r s'=>r.1=aB/\s'=s/\∀v∈rest,carriedByValue v=aC) _ ?_ ?_ _ _ ⟨rfl,rfl,hi.byValue⟩
 .rintro v rest r s' ⟨hr,rfl,hall⟩;obtain⟨b,hb⟩:=tN m (hall v ac);rw[hb];refine ab (af ?_);cases b with
  |true=>simp only[fu,bu,if_false];exact af ⟨rfl,rfl,λu UF=>hall u (am _ UF)⟩
  |false=>simp only[Bool.not_false,if_true];exact af (af (h _))
 .rintro⟨r1,r2⟩ s' ⟨hr,rfl,_⟩;simp only at hr;subst hr;exact af (h _)
theorem wU{k:Zm}{a:aq}{Q:Bool->ao->Prop}(hk:Uw prog w s.heap k a)(h:∀b,Q b s):bj (cf prog w) A (hashByValue 8 (.ref a)) Q E s:=by
 cases k with
 |inl l=>exact Sd hk h
 |inr p=>
  have hT:=hk.typeIs;obtain⟨n,l⟩:=p;obtain⟨o,mB,m,t,b,ho,_,hd,hi,hb⟩:=hk;unfold hashByValue;refine ab (wpAny_specialOf hT F.slot_tuple_hash.lookup ?_);refine ab (wpAny_seqItems ho hd ?_);refine ab ?_;show bj _ _ (forIn mB _ _) _ _ s;rw[<-Array.forIn_toList,hi];simp only[List.forIn_cons,List.forIn_nil];have e:hashByValue 7 (Value.int n t)=pure aC:=by unfold hashByValue;rfl
  rw[e];refine ab (ab (af ?_));simp only[fu,bu,if_false];refine af ?_;dsimp only;refine ab (ab (Sd hb λbb=>?_));cases bb with
  |true=>simp only[fu,bu,if_false];exact af (af (af (h _)))
  |false=>simp only[Bool.not_false,if_true];exact af (af (af (h _)))
theorem vb{k:Zm}{a:aq}{Q:Bool->ao->Prop}(hk:Uw prog w s.heap k a){ys:List aj}(hy:∀v∈ys,∃k' b,v= .ref b/\Uw prog w s.heap k' b)(h:Q aD s):bj (cf prog w) A (searchCouldBeSeen (.ref a) ys) Q E s:=by
 unfold searchCouldBeSeen;refine ab ?_;refine wpAny_forIn_list _ (λrest r s'=>r.1=aB/\s'=s/\∀v∈rest,∃k' b,v= .ref b/\Uw prog w s.heap k' b) _ ?_ ?_ _ _ ⟨rfl,rfl,hy⟩
 .rintro v rest r s' ⟨hr,rfl,hall⟩;obtain⟨k',b,rfl,hb⟩:=hall v ac;have go:∀u∈rest,∃k' b,u= .ref b/\Uw prog w s'.heap k' b:=λu hu=>hall u (am _ hu);dsimp only;by_cases XH:(a==b|| (carriedByValue (.ref a)&&carriedByValue (.ref b)))=aC
  .rw[m6 XH];exact af ⟨rfl,rfl,go⟩
  .rw[m4 XH];refine ab (Ko hk ?_);simp only[fu,bu,if_false];refine ab (Ko hb ?_);simp only[fu,bu,if_false];refine ab (D' hk ?_);simp only[bu,if_false];refine ab (D' hb ?_);simp only[bu,if_false];exact af ⟨rfl,rfl,go⟩
 .rintro⟨r1,r2⟩ s' ⟨hr,rfl,_⟩;simp only at hr;subst hr;exact af h
theorem pg{α:Type}{c:Prop}[Decidable c]{m:Sem Bool}{X K:Sem α}{Q:α->ao->Prop}(hm:∀Q':Bool->ao->Prop,Q' aD s->bj (cf prog w) A m Q' E s)(hK:bj (cf prog w) A K Q E s):
  bj (cf prog w) A (if c then m >>=λr=>if r=aC then X else K else K) Q E s:=by
 split
 .refine ab (hm _ ?_);simp only[bu,if_false];exact hK
 .exact hK
abbrev Xe(prog:cg)(w:c8)(z:Zm×aq):Int×Value:=(Yd prog w z.1,b8 z.2)
variable{a b:aq}{o:Obj}{es:Array (Int×aj)}{ep:Nat}{t:gn}{zs:List (Zm×aq)}{k:Zm}
theorem HG(he:es.toList=zs.map (Xe prog w))(i:Nat):es[i]? =(zs[i]?).map (Xe prog w):=by rw[<-c7,he,bg]
theorem va(he:es.toList=zs.map (Xe prog w))(tb:Tb t (es.toList.map (·.1))){i:Nat}{z:Zm×aq}(hz:zs[i]? =aA z):∃n,t.slot (sq t.mask (Yd prog w z.1) n)= .live i/\∀k,k<n->t.slot (sq t.mask (Yd prog w z.1) k)≠.empty:=by
 have hl:zs.length=t.place.toList.length:=by rw[tb.len,he,ah,ah]
 have hi:i<zs.length:=(aw.mp hz).1;have hp:t.place.toList[i]? =aA (t.place.toList[i]'(by omega)):=au _;have hh:(es.toList.map (·.1))[i]? =aA (Yd prog w z.1):=by rw[he,bg,bg,hz];rfl
 obtain⟨n,e1,e2⟩:=tb.look (Yd prog w z.1,t.place.toList[i]'(by omega)) (List.mem_iff_getElem?.mpr ⟨i,List.getElem?_zip_eq_some.mpr ⟨hh,hp⟩⟩);refine⟨n,?_,λk hk=>?_⟩
 .refine R0 tb.rise ?_;rw[<-c7,hp];exact congrArg aA e1.symm
 .have:=e2 k hk;intro z;exact Df tb.rise z this
theorem Dk(hu:A.units+1<fj)(hk:Uw prog w s.heap k b)(ho:s.heap.get? a=aA o)(hd:o.data= .set es ep t)(he:es.toList=zs.map (Xe prog w))(VG:∀z∈zs,Uw prog w s.heap z.1 z.2)(tb:Tb t (es.toList.map (·.1))){N:Nat}(hN:N<10*turns t.mask)(hE:t.slot (sq t.mask (Yd prog w k) N)= .empty){Q:SetFound->ao->Prop}
  (VJ:k∈zs.map (·.1)->∀r,Q (.there r) s) (XR:∀n,k∉zs.map (·.1)->t.slot (sq t.mask (Yd prog w k) n)= .empty->(∀j,j<n->t.slot (sq t.mask (Yd prog w k) j)≠.empty)->Q (.free (sq t.mask (Yd prog w k) n) aD) s):
  ∀(fuel n:Nat) (st:Option Probe),st.getD (t.probeStart (Yd prog w k))=Wg t.mask n (Qw t.mask (Yd prog w k))->n<=N->N<n+fuel->(∀j,j<n->∃i z,t.slot (sq t.mask (Yd prog w k) j)= .live i/\zs[i]? =aA z/\z.1≠k)->
   bj (cf prog w) A (setSearchFrom a (.ref b) (Yd prog w k) aC fuel st) Q E s
 |0,n,st,_,h1,h2,_=>by omega
 |fuel+1,n,st,TZ,h1,h2,hb=>by
  have VL:t.fits es.size=aC:=tb.fits (by simp);unfold setSearchFrom;refine ab (wpAny_setState_of ho hd VL ?_);dsimp only;rw[tb.gave];simp only[bu,if_false];rw[TZ];have hj:∀j,(Wg t.mask j (Wg t.mask n (Qw t.mask (Yd prog w k)))).j=sq t.mask (Yd prog w k) (n+j):=λj=>by rw[<-Qi]
  unfold SetTable.probe;rcases Dg tb.dum (λi=>(es[i]?.map (·.1)).getD 0) (Yd prog w k) (10*turns t.mask) (Wg t.mask n (Qw t.mask (Yd prog w k))) ((P9 _ _ _).trans rfl) ⟨N- n,by omega,by rw[hj,show n+(N- n)=N by omega];exact hE⟩with⟨m,g1,g2,g3,g4⟩|⟨m,i,g1,g2,g3,g4,g5⟩
  .have key:∀f:Nat->Int,f=(λi=>(es[i]?.map (·.1)).getD 0)->SetTable.probe.go t f (Yd prog w k) (10*turns t.mask) (Wg t.mask n (Qw t.mask (Yd prog w k)))=aA (.empty (Wg t.mask m (Wg t.mask n (Qw t.mask (Yd prog w k)))).j aB):=λf hf=>by rw[hf];exact g2
   rw[key]
   case a=>rfl
   dsimp only;rw[hj]at g3⊢;refine af (XR (n+m) ?_ g3 λj QX=>?_)
   .intro JE;obtain⟨z,hz,ez⟩:=ax.mp JE;obtain⟨i0,hi0,e0⟩:=d5 hz;have UV:zs[i0]? =aA z:=aw.mpr ⟨hi0,e0⟩;obtain⟨n0,q1,q2⟩:=va he tb UV;rw[ez]at q1 q2;rcases Nat.lt_trichotomy n0 (n+m)with c|c|c
    .rcases dv n0 n with c'|c'
     .obtain⟨i,z',w1,w2,w3⟩:=hb n0 c';rw[q1]at w1;cases w1;rw[UV]at w2;cases w2;exact w3 ez
     .obtain⟨i,w1,w2⟩:=g4 (n0- n) (by omega);rw[hj,show n+(n0- n)=n0 by omega,q1]at w1;cases w1;apply w2;show(es[i0]?.map (·.1)).getD 0=_;rw[HG he,UV,<-ez];rfl
    .rw[<-c,q1]at g3;cases g3
    .exact q2 _ c g3
   .rcases dv j n with c|c
    .obtain⟨i,z',w1,_⟩:=hb j c;rw[w1];exact λz=>nomatch z
    .obtain⟨i,w1,_⟩:=g4 (j- n) (by omega);rw[hj,show n+(j- n)=j by omega]at w1;rw[w1];exact λz=>nomatch z
  .have key:∀f:Nat->Int,f=(λi=>(es[i]?.map (·.1)).getD 0)->SetTable.probe.go t f (Yd prog w k) (10*turns t.mask) (Wg t.mask n (Qw t.mask (Yd prog w k)))=aA (.candidate (Wg t.mask m (Wg t.mask n (Qw t.mask (Yd prog w k)))).j i (Wg t.mask (m+1) (Wg t.mask n (Qw t.mask (Yd prog w k))))):=λf hf=>by rw[hf];exact g2
   rw[key]
   case a=>rfl
   dsimp only;have hp:=L4 g3;have SM:i<zs.length:=by have:=(gd.mp hp).1;have l:=tb.len;rw[he,ah,ah,bf]at l;omega
   have UV:zs[i]? =aA zs[i]:=au SM;have hzi:=VG zs[i] (List.getElem_mem SM);generalize zs[i]=z at UV hzi;have JH:es[i]? =aA (Yd prog w z.1,b8 z.2):=by rw[HG he,UV];rfl
   refine pg (λQ' q=>vb hk (λv hv=>?_) q) ?_
   .obtain⟨e,ya,rfl⟩:=ax.mp hv;have:e∈es.toList:=by have:=Array.mem_toList_iff.mp ya;exact Array.mem_toList_iff.mpr (Array.mem_filter.mp this).1
    rw[he]at this;obtain⟨z',QP,rfl⟩:=ax.mp this;exact⟨z'.1,z'.2,rfl,VG z' QP⟩
   rw[JH];dsimp only;refine ab (wpAny_holding (DM hu hzi hk ?_));refine ab (wpAny_setState_of ho hd VL ?_);dsimp only;by_cases hzk:z.1=k
   .rw[m8 hzk];simp only[Bool.and_self,if_true];exact af (VJ (ax.mpr ⟨z,b9 UV,hzk⟩) _)
   .rw[m7 hzk];simp only[Bool.and_false,bu,if_false];have yE:t.sameMemory t.moves t.mask=aA aC:=by unfold SetTable.sameMemory;simp
    rw[yE];simp only[if_true];rw[g3];dsimp only;rw[JH];dsimp only;refine ab (wpAny_isSame_ref_self ?_);simp only[if_true];refine ab (af ?_);dsimp only;have JS:n+m+1<=N:=by
     have:¬N<=n+m:=λc=>by
      rcases Nat.lt_or_eq_of_le c with c|c
      .rcases dv N n with c'|c'
       .omega
       .obtain⟨i',w1,_⟩:=g5 (N- n) (by omega);rw[hj,show n+(N- n)=N by omega,hE]at w1;cases w1
      .rw[hj,<-c,hE]at g3;cases g3
     omega
    refine Dk hu hk ho hd he VG tb hN hE VJ XR fuel (n+m+1) _ ?_ JS (by omega) λj QX=>?_
    .show Wg t.mask (m+1) (Wg t.mask n (Qw t.mask (Yd prog w k)))=_;rw[<-Qi,<-Nat.add_assoc]
    .rcases dv j n with c|c
     .exact hb j c
     .rcases dv j (n+m)with c'|c'
      .obtain⟨i',w1,w2⟩:=g5 (j- n) (by omega);rw[hj,show n+(j- n)=j by omega]at w1;have hp':=L4 w1;have PC:i'<zs.length:=by have:=(gd.mp hp').1;have l:=tb.len;rw[he,ah,ah,bf]at l;omega
       refine⟨i',zs[i'],w1,au PC,λzz=>w2 ?_⟩;show(es[i']?.map (·.1)).getD 0=_;rw[HG he,au PC,<-zz];rfl
      .have:j=n+m:=by omega
       subst this;rw[hj]at g3;exact⟨i,z,g3,UV,hzk⟩
end
end
section
open PySem.SetTable
def E5(prog:cg)(w:c8)(B:Bool)(h:d6)(o:Obj)(xs:List (Zm×aq)):Prop:=
 ∃(es:Array (Int×aj)) (ep:Nat) (t:gn) (zs:List (Zm×aq)),o.ExactSet/\o.data= .set es ep t/\es.toList=zs.map (Xe prog w)/\zs.Perm xs/\(xs.map (·.1)).Nodup/\(∀z∈xs,Uw prog w h z.1 z.2)/\Tb t (es.toList.map (·.1))/\t.led= !B/\es.size*5<t.mask*3
def C2(xs:List (Zm×aq))(k:Zm)(b:aq):List (Zm×aq):=if(xs.any λz=>decide (z.1=k))=aC then xs else xs++[(k,b)]
theorem Se{xs:List (Zm×aq)}{k:Zm}:(xs.any λz=>decide (z.1=k))=aC↔k∈xs.map (·.1):=by
 rw[List.any_eq_true,ax];constructor
 .rintro⟨z,hz,e⟩;exact⟨z,hz,m9 e⟩
 .rintro⟨z,hz,e⟩;exact⟨z,hz,m8 e⟩
section
variable{prog:cg}{w:c8}{A:dh}{E:aj->ao->Prop}{s:ao}
theorem Uw.but{h h':d6}{k:Zm}{a d:aq}{o:Obj}{es:Array (Int×aj)}{ep:Nat}{t:gn}(x:Uw prog w h k a)(ho:h.get? d=aA o)(hd:o.data= .set es ep t)(hs:∀b u,b≠d->h.get? b=aA u->h'.get? b=aA u):Uw prog w h' k a:=by
 have ne:∀{c:aq} {u:Obj} {mC n},h.get? c=aA u->u.data= .seq mC n->c≠d:=fun{c u mC n} e1 e2 z=>by subst z;rw[ho]at e1;cases e1;rw[hd]at e2;cases e2
 cases k with
 |inl l=>obtain⟨u,mC,n,e,c,d',r⟩:=x;exact⟨u,mC,n,hs _ _ (ne e d') e,c,d',r⟩
 |inr p=>obtain⟨u,mC,n,tt,b,e,c,d',ei,⟨u2,i2,n2,e2,c2,d2,r2⟩⟩:=x;exact⟨u,mC,n,tt,b,hs _ _ (ne e d') e,c,d',ei,u2,i2,n2,hs _ _ (ne e2 d2) e2,c2,d2,r2⟩
theorem Gy{α β:Type}{f:α->β}{l:List β}{m:List β}(p:l.Perm m):∀zs:List α,m=zs.map f->∃l':List α,l'.Perm zs/\l=l'.map f:=by
 induction p with
 |nil=>intro zs e;cases zs with
  |nil=>exact⟨[],List.Perm.nil,rfl⟩
  |cons z zs=>cases e
 | @cons x l1 l2 _ ih=>intro zs e;cases zs with
  |nil=>cases e
  |cons z zs=>injection e with e1 e2;obtain⟨l',p',e'⟩:=ih zs e2;exact⟨z::l',p'.cons z,by rw[bm,e1,e']⟩
 |swap x y l=>intro zs e;cases zs with
  |nil=>cases e
  |cons z zs=>cases zs with
   |nil=>cases e
   |cons z2 zs=>injection e with e1 e2;injection e2 with e2 e3;exact⟨z2::z::zs,List.Perm.swap z z2 zs,by rw[bm,bm,e1,e2,e3]⟩
 |trans _ _ ih1 ih2=>intro zs e;obtain⟨l2,p2,e2⟩:=ih2 zs e;obtain⟨l3,p3,e3⟩:=ih1 l2 e2;exact⟨l3,p3.trans p2,e3⟩
theorem xI{B:Bool}{a b:aq}{o:Obj}{xs:List (Zm×aq)}{k:Zm}{Q:Bool->ao->Prop}(hu:A.units+1<fj)(ho:s.heap.get? a=aA o)(hO:E5 prog w B s.heap o xs)(hk:Uw prog w s.heap k b)(hr:xs.length+1<=76)
  (h:∀h' o' r,gm a s.heap h'->h'.get? a=aA o'->E5 prog w B h' o' (C2 xs k b)->Q r {s with heap:=h'}):
  bj (cf prog w) A (setAddHashed a (.ref b) (Yd prog w k)) Q E s:=by
 obtain⟨es,ep,t,zs,hx,hd,he,pm,nd,VG,tb,XA,UX⟩:=hO;have JD:∀z∈zs,Uw prog w s.heap z.1 z.2:=λz hz=>VG z (pm.mem_iff.mp hz);have VL:t.fits es.size=aC:=tb.fits (by simp);have zl:zs.length=es.size:=by rw[<-bf,he,ah]
 have xl:xs.length=es.size:=by rw[<-pm.length_eq,zl]
 have kz:k∈zs.map (·.1)↔k∈xs.map (·.1):=(pm.map _).mem_iff;unfold setAddHashed;refine wpAny_holding ?_;unfold setAddHashedIn;refine ab (wpAny_setState_of ho hd VL ?_);dsimp only;rw[show byScan (b8 b) es=aD from rfl];simp only[bu,if_false];obtain⟨N,hN,hE⟩:=tb.empty (Yd prog w k);unfold setSearch;have F_:t.mask<=127:=by rcases tb.msk with e|e|e<;> omega
 refine ab (Dk hu hk ho hd he JD tb hN hE (λJE r=>?_) (λn hni yn yd=>?_) 100000 0 aB rfl (dk _) (by unfold turns at hN;omega) (λj hj=>m_ hj (dz _)))
 .dsimp only;refine af ?_;refine h s.heap o aD (Heap.SameBut.refl a s.heap) ho ?_;unfold C2;rw[m6 (Se.mpr (kz.mp JE))];exact⟨es,ep,t,zs,hx,hd,he,pm,nd,VG,tb,XA,UX⟩
 .dsimp only;have QT:k∉xs.map (·.1):=λz=>hni (kz.mpr z);refine ab (wpAny_setState_of ho hd VL ?_);dsimp only;have PM:es.size+1<=t.mask:=by rcases tb.msk with e|e|e<;> omega
  have tb1:=tb.put (Yd prog w k) yn yd (by rw[ah,bf];exact PM);have KM:(t.put (sq t.mask (Yd prog w k) n)).2=below t.place (sq t.mask (Yd prog w k) n):=rfl;have NP:(t.put (sq t.mask (Yd prog w k) n)).1.mask=t.mask:=rfl;have NQ:(t.put (sq t.mask (Yd prog w k) n)).1.led=t.led:=rfl;rw[KM];generalize below t.place (sq t.mask (Yd prog w k) n)=p at tb1⊢;generalize (t.put (sq t.mask (Yd prog w k) n)).1=t1 at tb1 NP NQ⊢;have UJ:(insertAt es p (Yd prog w k,b8 b)).toList=(zs.take p++(k,b)::zs.drop p).map (Xe prog w):=by rw[SetTable.toList_insertAt,he,ci,bm,List.map_take,List.map_drop]
  have JF:(insertAt es p (Yd prog w k,b8 b)).toList.map (·.1)=(es.toList.map (·.1)).take p++Yd prog w k::(es.toList.map (·.1)).drop p:=by rw[SetTable.toList_insertAt,ci,bm,List.map_take,List.map_drop]
  have SY:(insertAt es p (Yd prog w k,b8 b)).size=es.size+1:=by rw[<-bf,SetTable.toList_insertAt,av,bh,List.length_take,List.length_drop,bf];omega
  rw[<-JF]at tb1;have LD:(zs.take p++(k,b)::zs.drop p).Perm (xs++[(k,b)]):=by refine List.perm_middle.trans ?_;rw[List.take_append_drop];exact(pm.cons _).trans (List.perm_append_singleton _ _).symm
  have Ev:((xs++[(k,b)]).map (·.1)).Nodup:=by rw[ci,dn];refine⟨nd,by simp,λx hx y hy=>?_⟩;simp only[bm,List.map_nil,ak]at hy;subst hy;exact λz=>QT (z▸hx)
  generalize insertAt es p (Yd prog w k,b8 b)=es1 at UJ tb1 SY⊢;generalize zs.take p++(k,b)::zs.drop p=zs1 at UJ LD;have UH:∀h' o' r,gm a s.heap h'->h'.get? a=aA o'->E5 prog w B h' o' (xs++[(k,b)])->Q r {s with heap:=h'}:=λh' o' r x y z=>h h' o' r x y (by unfold C2;rw[m4 λy=>QT (Se.mp y)];exact z);have PB:∀h',gm a s.heap h'->∀z∈xs++[(k,b)],Uw prog w h' z.1 z.2:=λh' sb z hz=>by
   have SE:Uw prog w s.heap z.1 z.2:=by
    rcases ba.mp hz with q|q
    .exact VG z q
    .rw[ak.mp q];exact hk
   exact Uw.but SE ho hd λc u hc e=>(sb.2 c hc).trans e
  have TQ:∀(t2:gn),Tb t2 (es1.toList.map (·.1))->t2.mask=t.mask->t2.led=t.led->bj (cf prog w) A (do
    storeSet a es1 t2
    if(!aD&&t2.tooFull)=aC then do
     setRelay a (grown (es.size+1))
     pure aC
    else pure aC) Q E s:=λt2 OM m2 l2=>by
   refine ab (wpAny_storeSet_of ho hd ?_ (by rw[SY,d7];omega));have o1:(s.heap.update a (Obj.putSet es1 t2)).get? a=aA {o with data:=.set es1 (ep+1) t2}:=by have z:=Heap.get?_update_self (Obj.putSet es1 t2) ho (by rw[putSet_of es1 t2 hd];rfl);rw[putSet_of es1 t2 hd]at z;exact z
   have b1:=Heap.SameBut.update s.heap a (Obj.putSet es1 t2);have fl:t2.fill=es.size+1:=by unfold SetTable.fill;have:=OM.len;rw[ah,bf,bf]at this;rw[OM.dum,this,SY];rfl
   by_cases hf:t2.tooFull=aC
   .rw[m6 (by rw[hf];rfl)];have JG:(es.size+1)*5>=t.mask*3:=by unfold SetTable.tooFull at hf;rw[fl,m2]at hf;exact m9 hf
    have hS:Msk (sizeAbove (grown (es.size+1))- 1)/\es1.size<=sizeAbove (grown (es.size+1))- 1/\es1.size*5<(sizeAbove (grown (es.size+1))- 1)*3/\sizeAbove (grown (es.size+1))<=128:=by
     rw[SY];rcases tb.msk with e|e|e
     .have:es.size=4:=by omega
      rw[this];exact⟨.inr (.inl (by decide)),by decide,by decide,by decide⟩
     .have:es.size=18:=by omega
      rw[this];exact⟨.inr (.inr (by decide)),by decide,by decide,by decide⟩
     .omega
    refine ab ?_;unfold setRelay;refine ab (wpAny_setState_of (s:={s with heap:=s.heap.update a (Obj.putSet es1 t2)}) o1 rfl (OM.fits (by simp)) ?_);dsimp only;rw[m4 (by rw[d7];have:=hS.2.2.2;omega)];obtain⟨t3,ZW,q1,q2,q3,q4⟩:=oP (t:=t2) (es:=es1) hS.1 hS.2.1;have zX:t2.relaid (es1.map (·.1)) (grown (es.size+1))=aA (t3,ZW):=q1;rw[zX];have KU:t3.mask=sizeAbove (grown (es.size+1))- 1:=by unfold SetTable.relaid SetTable.laid at q1;obtain⟨ow,_,z⟩:=aa.mp q1;cases z;rfl
    have OO:(ZW.filterMap λi=>es1[i]?).size=es1.size:=by rw[<-bf,q3.length_eq,bf]
    refine ab ?_;show bj _ _ (if((ZW.filterMap λi=>es1[i]?).size !=es1.size)=aC then _ else _) _ _ _;rw[m4 (by rw[OO];simp)];refine af ?_;dsimp only;refine wpAny_storeSet_of (s:={s with heap:=s.heap.update a (Obj.putSet es1 t2)}) o1 rfl ?_ (by rw[OO,SY,d7];omega);have o2:=Heap.get?_update_self (Obj.putSet (ZW.filterMap λi=>es1[i]?) t3) o1 (by rw[putSet_of _ t3 rfl];rfl);rw[putSet_of _ t3 rfl]at o2;have b2:=b1.trans (Heap.SameBut.update _ a (Obj.putSet (ZW.filterMap λi=>es1[i]?) t3));generalize (ZW.filterMap λi=>es1[i]?)=es3 at q3 q4 OO o2 b2⊢;have yb:∃OJ:List (Zm×aq),es3.toList=OJ.map (Xe prog w)/\OJ.Perm zs1:=by rw[UJ]at q3;obtain⟨l3,r1,r2⟩:=Gy q3 zs1 rfl;exact⟨l3,r2,r1⟩
    obtain⟨OJ,r1,r2⟩:=yb;refine af (UH _ _ aC b2 o2 ⟨es3,_,t3,OJ,hx,rfl,r1,r2.trans LD,Ev,PB _ b2,q4,by rw[q2,l2];exact XA,?_⟩);rw[OO,KU];exact hS.2.2.1
   .rw[m4 (by simpa using hf)];refine af (UH _ _ aC b1 o1 ⟨es1,_,t2,zs1,hx,rfl,UJ,LD,Ev,PB _ b1,OM,by rw[l2];exact XA,?_⟩);unfold SetTable.tooFull at hf;rw[fl,m2]at hf;rw[SY,m2];have:¬(es.size+1)*5>=t.mask*3:=λz=>hf (m8 z);omega
  by_cases ZO:t1.plain=aC
  .rw[m6 ZO];refine ab (wU hk λbb=>?_);cases bb with
   |true=>exact TQ t1 tb1 NP NQ
   |false=>exact TQ {t1 with plain:=aD} tb1.plainOff NP NQ
  .rw[m4 ZO];refine ab (af ?_);exact TQ t1 tb1 NP NQ
end
end
section
open PySem.SetTable
def Nu(ys:List (Zm×aq)):List (Zm×aq):=ys.foldl (λacc y=>C2 acc y.1 y.2) []
theorem qE(xs:List (Zm×aq))(k:Zm)(b:aq):(C2 xs k b).length<=xs.length+1:=by
 unfold C2;split
 .omega
 .simp
theorem qD{xs:List (Zm×aq)}{k:Zm}{b:aq}{z:Zm×aq}(h:z∈C2 xs k b):z∈xs\/z=(k,b):=by
 unfold C2 at h;split at h
 .exact .inl h
 .rcases ba.mp h with q|q
  .exact .inl q
  .exact .inr (ak.mp q)
theorem qC{ys:List (Zm×aq)}{i:Nat}{y:Zm×aq}(h:ys[i]? =aA y):Nu (ys.take (i+1))=C2 (Nu (ys.take i)) y.1 y.2:=by unfold Nu;rw[List.take_add_one,h];simp
theorem Mj:∀(ys acc:List (Zm×aq)),(ys.foldl (λacc y=>C2 acc y.1 y.2) acc).length<=acc.length+ys.length
 | [],acc=>by simp
 |y::ys,acc=>by rw[List.foldl_cons];have h1:=Mj ys (C2 acc y.1 y.2);have h2:=qE acc y.1 y.2;rw[bh];omega
theorem tM(ys:List (Zm×aq)):(Nu ys).length<=ys.length:=by have:=Mj ys [];simpa[Nu]using this
theorem Mk:∀(ys acc:List (Zm×aq)) (z:Zm×aq),z∈ys.foldl (λacc y=>C2 acc y.1 y.2) acc->z∈acc\/z∈ys
 | [],acc,z,h=>.inl h
 |y::ys,acc,z,h=>by
  rw[List.foldl_cons]at h;rcases Mk ys _ z h with q|q
  .rcases qD q with r|r
   .exact .inl r
   .exact .inr (by rw[r];exact ac)
  .exact .inr (am _ q)
theorem L5{ys:List (Zm×aq)}{z:Zm×aq}(h:z∈Nu ys):z∈ys:=by
 rcases Mk ys [] z h with q|q
 .exact nomatch q
 .exact q
theorem E5.re{prog:cg}{w:c8}{B:Bool}{h h':d6}{o:Obj}{xs:List (Zm×aq)}(x:E5 prog w B h o xs)(hk:∀z∈xs,Uw prog w h' z.1 z.2):E5 prog w B h' o xs:=by obtain⟨es,ep,t,zs,a,b,c,d,e,_,f⟩:=x;exact⟨es,ep,t,zs,a,b,c,d,e,hk,f⟩
section
variable{prog:cg}{w:c8}{A:dh}{E:aj->ao->Prop}{s:ao}
theorem wT{h:d6}:E5 prog w (By w) h (Gu w) []:=⟨#[],0,_,[],⟨rfl,rfl,rfl⟩,rfl,rfl,List.Perm.nil,cx,(λz hz=>nomatch hz),Tb.fresh _ _ _,rfl,by show 0*5<7*3;decide⟩
theorem qV{l:aq}{mC:Array aj}{ys:List (Zm×aq)}{Q:aj->ao->Prop}(hh:A.handled=aB)(hu:A.units+5<fj)(hl:s.heap.IsList l mC)(hi:mC.toList=ys.map λy=>b8 y.2)(NF:∀y∈ys,Uw prog w s.heap y.1 y.2)(hb:ys.length<=75)
  (h:∀(h':d6) (tk:Nat) (o:Obj),h'.get? s.heap.objs.size=aA o->E5 prog w (By w) h' o (Nu ys)->(∀b x,b<s.heap.objs.size->s.heap.get? b=aA x->h'.get? b=aA x)->Q (.ref s.heap.objs.size) {s with heap:=h',toks:=tk}):
  bj (cf prog w) A (call (.type "set") [.ref l]) Q E s:=by
 have hsz:mC.size=ys.length:=by rw[<-bf,hi,ah]
 have kz:∀{i:Nat} {h:d6},Kpt s.heap h->∀z∈Nu (ys.take i),Uw prog w h z.1 z.2:=λkp z hz=>(NF z (List.mem_of_mem_take (L5 hz))).mono kp;refine xy hh hl (λh o i=>E5 prog w (By w) h o (Nu (ys.take i))) (λkp hO=>hO.re (kz kp)) (λ_=>wT) (λA' i v s1 o Q E hA hv kp ho hO k=>?_) λh' tk o g O m=>h h' tk o g (by rw[hsz,List.take_length]at O;exact O) m;rw[<-c7,hi,bg]at hv;obtain⟨y,hy,rfl⟩:=cq.mp hv;have FY:Uw prog w s1.heap y.1 y.2:=(NF y (b9 hy)).mono kp;unfold setAdd;refine wpAny_holding (ab (A_ (by omega) FY ?_));refine xI (s:={s1 with toks:=s1.toks+Te y.1}) (B:=By w) (xs:=Nu (ys.take i)) (by omega) ho hO FY (by have:=tM (ys.take i);rw[List.length_take]at this;omega) λh2 o2 b sb g2 O2=>k h2 o2 _ b sb g2 ?_;rw[qC hy];exact O2
end
section
variable{prog:cg}{w:c8}{A:dh}{E:aj->ao->Prop}{s:ao}{I r S:aq}{o:Obj}{es:Array (Int×aj)}{ep:Nat}{t:gn}
theorem qU{xs:List (Zm×aq)}{Q:List aj->ao->Prop}(hh:A.handled=aB)(ho:s.heap.get? r=aA o)(hO:E5 prog w (By w) s.heap o xs)(hr:xs.length<=1000)
  (h:∀(zs:List (Zm×aq)) (h':d6) d,zs.Perm xs->(∀b x,s.heap.get? b=aA x->h'.get? b=aA x)->s.heap.objs.size<=h'.objs.size->Q (zs.map λz=>b8 z.2) {s with heap:=h',drawn:=d}):bj (cf prog w) A (collect (.ref r)) Q E s:=by
 obtain⟨es,ep,t,zs,hx,hd,he,pm,nd,VG,tb,XA,UX⟩:=hO;have zl:zs.length=es.size:=by rw[<-bf,he,ah]
 have xl:xs.length=es.size:=by rw[<-pm.length_eq,zl]
 refine qH hh ho hx hd (tb.fits (by simp)) XA (λ_=>tb.rise) (by omega) λord h' d hp hk hs=>?_;rw[he,cu]at hp;obtain⟨zF,p',e'⟩:=Gy hp zs rfl;rw[e'];exact h zF h' d (p'.trans pm) hk hs
end
end
def nkD:Zm->D
 | .inl l=>.tup (l.map D.str)
 | .inr (n,l)=>.tup [.int n,.tup (l.map D.str)]
def Mv(ks:List Zm)(k:Zm):List Zm:=if(ks.any λz=>decide (z=k))=aC then ks else ks++[k]
def Fq(ks:List Zm):List Zm:=ks.foldl Mv []
theorem qT(xs:List (Zm×aq))(k:Zm)(b:aq):(C2 xs k b).map (·.1)=Mv (xs.map (·.1)) k:=by
 unfold C2 Mv;have e:((xs.map (·.1)).any λz=>decide (z=k))=xs.any λz=>decide (z.1=k):=by rw[List.any_map];rfl
 rw[e];split
 .rfl
 .rw[ci];rfl
theorem Dl(ys:List (Zm×aq)):(Nu ys).map (·.1)=Fq (ys.map (·.1)):=by
 have go:∀(ys acc:List (Zm×aq)),(ys.foldl (λacc y=>C2 acc y.1 y.2) acc).map (·.1)=(ys.map (·.1)).foldl Mv (acc.map (·.1)):=by
  intro ys;induction ys with
  |nil=>intro acc;rfl
  |cons y ys ih=>intro acc;rw[List.foldl_cons,ih,bm,List.foldl_cons,qT]
 exact go ys []
def Uj(ds out:List D):Prop:=out.Perm ds/\out.Pairwise λa b=>Ua 16 b a=aA aD
theorem pf{ks:List D}{mJ:D->List Nat}(hd:∀i j:Nat,i<ks.length->j<ks.length->mJ (ks.getD i .non)=mJ (ks.getD j .non)->i=j){a b:D}(ha:a∈ks)(hb:b∈ks)(e:mJ a=mJ b):a=b:=by
 obtain⟨i,hi,rfl⟩:=d5 ha;obtain⟨j,hj,rfl⟩:=d5 hb;have gi:ks.getD i .non=ks[i]:=by rw[bi,au hi];rfl
 have gj:ks.getD j .non=ks[j]:=by rw[bi,au hj];rfl
 have:=hd i j hi hj (by rw[gi,gj];exact e);subst this;rfl
theorem C3{ds a b:List D}(h:mK ds)(ha:Uj ds a)(hb:Uj ds b):a=b:=by
 obtain⟨mJ,he,hd⟩:=h.ord;refine List.Perm.eq_of_pairwise (le:=λa b=>Ua 16 b a=aA aD) (λx y hx hy h1 h2=>?_) ha.2 hb.2 (ha.1.trans hb.1.symm);have mx:=ha.1.mem_iff.mp hx;have my:=hb.1.mem_iff.mp hy;rw[he _ my _ mx]at h1;rw[he _ mx _ my]at h2;have h1:¬mJ y<mJ x:=by simpa using h1
 have h2:¬mJ x<mJ y:=by simpa using h2
 exact pf hd mx my (List.le_antisymm (ck.mp h1) (ck.mp h2))
theorem Gz{ds:List D}{p:List Nat}(h:Cs ds p):Uj ds (p.map λi=>ds.getD i .non):=by
 refine⟨?_,dw.mpr h.2⟩;refine(h.1.map _).trans ?_;have:(df ds.length).map (λi=>ds.getD i .non)=ds:=by
  apply List.ext_getElem
  .simp
  .intro i h1 h2;simp[bi,au h2]
 rw[this]
theorem C4{ds:List D}(h:mK ds):∃out,Uj ds out:=let⟨_,hp⟩:=Oi h;⟨_,Gz hp⟩
theorem Cd{ks:List D}{mJ:D->List Nat}:(∀i j:Nat,i<ks.length->j<ks.length->mJ (ks.getD i .non)=mJ (ks.getD j .non)->i=j)↔(ks.map mJ).Nodup:=by
 have gi:∀i (hi:i<ks.length),ks.getD i .non=ks[i]:=λi hi=>by rw[bi,au hi];rfl
 constructor
 .intro h;refine List.pairwise_iff_getElem.mpr λi j hi hj YW e=>?_;rw[ah]at hi hj;rw[List.getElem_map,List.getElem_map]at e;have:=h i j hi hj (by rw[gi i hi,gi j hj];exact e);omega
 .intro h i j hi hj e;rw[gi i hi,gi j hj]at e;have:=(List.getElem?_inj (i:=i) (j:=j) (by rw[ah];exact hi) h).mp (by simp[hi,hj,e]);exact this
theorem Sf{ds es:List D}(h:mK ds)(p:es.Perm ds):mK es:=by obtain⟨k,hk⟩:=h.key;obtain⟨mJ,he,hd⟩:=h.ord;refine⟨⟨k,λd hd=>hk d (p.mem_iff.mp hd)⟩,mJ,λa ha b hb=>he a (p.mem_iff.mp ha) b (p.mem_iff.mp hb),?_⟩;exact Cd.mpr ((p.map mJ).nodup_iff.mpr (Cd.mp hd))
section
open PySem.Calls
theorem L6{P:cg}{w:c8}{H:Hp}{h:d6}(ok:Cy P w H h){k:Zm}{b:aq}(e:Qs H k b):Uw P w h k b:=by
 cases k with
 |inl l=>exact Bb ok e
 |inr p=>
  obtain⟨n,l⟩:=p;obtain⟨c,h1,h2⟩:=e;obtain⟨_,mC,r,o,q1,q2,m,q3⟩:=(show Yc P w H h b (.tup [.int n,.ref c])from ok b _ h1)
  cases r with
  |cons r1 t=>cases t with
   |cons r2 t=>cases t;obtain⟨tk,rfl⟩:=r1;cases r2;exact⟨o,_,m,tk,c,q1,q2,q3,rfl,Bb ok h2⟩
theorem Bj{K:ad}{F:Hp}{k:Zm}{b:aq}(e:Qs F k b):mI K F (nkD k) (.ref b):=by
 have tx:∀l:List Str,mD K F (l.map D.str) ((Wp l).map kV):=λl=>by
  induction l with
  |nil=>exact .nil
  |cons x l ih=>exact .cons (.str x) ih
 cases k with
 |inl l=>exact .tup e (tx l)
 |inr p=>obtain⟨n,l⟩:=p;obtain⟨c,h1,h2⟩:=e;exact .tup h1 (.cons (.int n) (.cons (.tup h2 (tx l)) .nil))
theorem G0{K:ad}{F:Hp}{k:Zm}{v:V}(r:mI K F (nkD k) v):∃b,v= .ref b/\Qs F k b:=by
 have tx:∀{l:List Str} {vs:List V},mD K F (l.map D.str) vs->vs=(Wp l).map kV:=fun{l}=>by
  induction l with
  |nil=>intro vs h;cases h;rfl
  |cons x l ih=>intro vs h;cases h with
   |cons h t=>cases h;rw[ih t];rfl
 cases k with
 |inl l=>cases r with
  |tup h r=>rw[tx r]at h;exact⟨_,rfl,h⟩
 |inr p=>
  obtain⟨n,l⟩:=p;cases r with
  |tup h r=>cases r with
   |cons r1 t=>cases r1;cases t with
    |cons r2 t=>cases t;cases r2 with
     |tup h2 r2=>rw[tx r2]at h2;exact⟨_,rfl,_,h,h2⟩
section
variable{X:Cx}
def rSN(K:ad):List V->Hp->VK->Prop:=λvs H Q=>∃(l:aq) (ys:List (Zm×aq)),vs=[.ref l]/\J3 K H l (ys.map λy=>V.ref y.2)/\(∀y∈ys,Qs H y.1 y.2)/\ys.length<=75/\(Nu ys).length<64/\mK ((Nu ys).map λy=>nkD y.1)/\
 ∀(zs:List (Zm×aq)) (q:aq),zs.Perm (Nu ys)->Uj ((Nu ys).map λy=>nkD y.1) (zs.map λy=>nkD y.1)->H q=aB->Q (.ref q) (Yo H q (.lst (zs.map λz=>V.ref z.2)))
theorem EW:∀{ys:List (Zm×aq)} {mC:List aj},Z1 (ys.map λy=>V.ref y.2) mC->mC=ys.map λy=>b8 y.2
 | [],_,h=>by cases h;rfl
 |y::ys,_,h=>by
  cases h with
  |cons r t=>cases r;rw[EW t];rfl
theorem HR:∀ys:List (Zm×aq),Z1 (ys.map λy=>V.ref y.2) (ys.map λy=>b8 y.2)
 | []=>.nil
 |y::ys=>.cons rfl (HR ys)
theorem tL{a:cw}{t:TA}{p1 p2 q1 q2:Pos}(hc:X.calm=aC)(hu:X.A.units+64<fj)(h1:X.mg "sorted"=aB)(h2:X.mg "set"=aB)(ha:PA X [a] t)(g1:Gl X "sorted")(g2:Gl X "set")
  (UJ:az [.Call (.Name "set" q1) [a] [] q2] X.env=(aD,gg (.Call (.Name "set" q1) [a] [] q2) X.env)::az [] X.env) (KO:(gb p2 (az [] X.env)).any (·.1)=aD)
  (WU:az [a] X.env=(aD,gg a X.env)::az [] X.env) (SA:(gb q2 (az [] X.env)).any (·.1)=aD):
  PE X (.Call (.Name "sorted" p1) [.Call (.Name "set" q1) [a] [] q2] [] p2) (tCB (rSN X.K) t):=by
 intro n_ s σ H Q I h;refine wpAny_Call_Name_kw (O8 I g1 h1 Ui ?_);refine PyProof.Rows.callWith_builtin1 ?_ UJ KO;rw[UJ];show bj _ _ (spliced ((aD,gg (.Call (.Name "set" q1) [a] [] q2) X.env)::gb p2 (az [] X.env))) _ _ s;refine Calls.spliced_cons (wpAny_Call_Name_kw (O8 I g2 h2 qG ?_));refine PyProof.Rows.callWith_type1 (Wl (ha q2 n_ s σ H _ I h) λus s1 ⟨vs,H1,I1,r1,z1⟩=>?_) WU SA;obtain⟨l,ys,rfl,hl,hn,hz,QO,ko,q⟩:=z1;obtain⟨u,rfl,ru⟩:=Oy r1;cases ru;obtain⟨mC,rv,⟨o,n,ho,VZ,_,hd⟩,_⟩:=I1.list hl;have hits:=EW rv;have hh:=I1.ok.hd hc;refine qV (mC:=mC.toArray) (ys:=ys) hh (by omega) ⟨o,ho,VZ,n,hd⟩ (by simpa using hits) (λy hy=>L6 I1.hok (hn y hy)) hz λh' tk o' XG hO hk=>?_;show bj _ _ (spliced []) _ _ _;refine Calls.spliced_nil ?_;have kept:∀b x,s1.heap.get? b=aA x->h'.get? b=aA x:=λb x e=>hk b x (bp e) e;have I2:mE X n_ σ H1 {s1 with heap:=h',toks:=tk}:=I1.kept kept;refine Calls.call_function_entry kind_sorted plain_sorted entry_sorted (args_sorted1 _) ?_;unfold Builtin.«sorted»;refine ab (m:=checkCount "sorted" 1 1 _) (af ?_);refine ab (qU (A:=X.A.in1) (s:={s1 with heap:=h',toks:=tk}) hh XG hO (by omega) λzs h3 d hp JB ge=>?_);have I3:mE X n_ σ H1 {s1 with heap:=h3,toks:=tk,drawn:=d}:=(I2.kept (t':=tk) JB).drawnAt d;have kz:mK (zs.map λy=>nkD y.1):=Sf ko (hp.map _);obtain⟨mJ,he,PJ⟩:=id kz.ord;obtain⟨kb,SL⟩:=id kz.key;have TY:X.A.in1.in1.units+16<cLine:=by show X.A.units+1+1+16<fj;omega
 have zl:zs.length=(Nu ys).length:=hp.length_eq;have dl:(zs.map λy=>nkD y.1).length=(zs.map λz=>b8 z.2).length:=by simp
 have yK:∀z∈zs,Qs H1 z.1 z.2:=λz QP=>hn z (L5 (hp.mem_iff.mp QP));refine Fk (mC:=zs.map λz=>b8 z.2) (kvs:=zs.map λz=>V.ref z.2) (KeyOk:=λj kv H=>mI X.K H ((zs.map λy=>nkD y.1).getD j .non) kv) (O:=strKind.toKeyOrd) (key:=Fj mJ (zs.map λy=>nkD y.1)) I3 (by rw[ah];omega) (HR zs) (λj kv e=>?_) (Lz TY SL he dl) ?hQ
 .rw[bg]at e;obtain⟨z,ez,rfl⟩:=cq.mp e;have:(zs.map λy=>nkD y.1).getD j .non=nkD z.1:=by rw[bi,bg,ez];rfl
  rw[this];exact Bj (yK z (b9 ez))
 case hQ=>
  intro p D s3 cc hp2' hs VN I4 fD gD;have sb:=L0 he dl hp2' hs;have pt:p.toList.Perm (df zs.length):=by have:=sb.1;rw[ah]at this;exact this
  have WL:∀i∈p.toList,i<zs.length:=λi hi=>cr.mp (pt.mem_iff.mp hi);have yr:∀i∈p.toList,(zs.map λz=>b8 z.2).getD i cn=b8 (zs.getD i (.inl [],0)).2:=λi hi=>by have hb:=WL i hi;simp[bi,bg,au hb]
  have g2':∀i∈p.toList,(zs.map λy=>nkD y.1).getD i .non=nkD (zs.getD i (.inl [],0)).1:=λi hi=>by have hb:=WL i hi;simp[bi,bg,au hb]
  generalize hzs2:p.toList.map (λi=>zs.getD i (.inl [],0))=zs2;have e1:(p.toList.map λi=>(zs.map λz=>b8 z.2).getD i cn)=zs2.map λz=>b8 z.2:=by rw[<-hzs2,cu];exact gr yr
  have e2:(p.toList.map λi=>(zs.map λy=>nkD y.1).getD i .non)=zs2.map λy=>nkD y.1:=by rw[<-hzs2,cu];exact gr g2'
  have pz:zs2.Perm zs:=by
   rw[<-hzs2];refine(pt.map _).trans ?_;have:(df zs.length).map (λi=>zs.getD i (.inl [],0))=zs:=by
    apply List.ext_getElem
    .simp
    .intro i h1 h2;simp[bi,au h2]
   rw[this]
  have so:=Gz sb;rw[e2]at so;have zO:Uj ((Nu ys).map λy=>nkD y.1) (zs2.map λy=>nkD y.1):=⟨so.1.trans (hp.map _),so.2⟩
  rw[e1]at gD;have new:Yc X.prog X.w (Yo H1 D (.lst (zs2.map λz=>V.ref z.2))) s3.heap D (.lst (zs2.map λz=>V.ref z.2)):=by refine⟨?_,zs2.map λz=>b8 z.2,cc,HR zs2,gD⟩;rw[ah,pz.length_eq,d7];omega
  exact⟨.ref D,_,mE.trackO I4 VN fD.1 fD.2.1 fD.2.2.2.2.1 fD.2.2.2.2.2 new,rfl,q zs2 D (pz.trans hp) zO fD.1⟩
end
end
section
variable{K:ad}
def nk?:D->Option Zm
 | .tup xs=>match strs? xs with
  |some l=>aA (.inl l)
  |none=>match xs with
   | [.int n,.tup ys]=>(strs? ys).bind λl=>aA (.inr (n,l))
   |_=>aB
 |_=>aB
theorem Ap:∀l:List Str,strs? (l.map D.str)=aA l
 | []=>rfl
 |x::l=>by rw[bm,strs?,Ap l];rfl
theorem L7:∀{xs:List D} {l:List Str},strs? xs=aA l->xs=l.map D.str
 | [],_,h=>by cases h;rfl
 |x::xs,l,h=>by
  unfold strs? at h;split at h
  .rename_i e;cases e
  .rename_i y r e;cases e;obtain⟨t,h1,h2⟩:=aa.mp h;cases h2;rw[L7 h1];rfl
  .cases h
@[simp]theorem Ol(k:Zm):nk? (nkD k)=some k:=by
 cases k with
 |inl l=>show(match strs? (l.map D.str)with|some l=>_|none=>_)=_;rw[Ap]
 |inr p=>obtain⟨n,l⟩:=p;show(strs? (l.map D.str)).bind _=_;rw[Ap];rfl
theorem HQ{d:D}{k:Zm}(h:nk? d=aA k):d=nkD k:=by
 unfold nk? at h;split at h
 .rename_i xs;split at h
  .rename_i l hl;cases h;rw[L7 hl];rfl
  .split at h
   .obtain⟨l,h1,h2⟩:=aa.mp h;cases h2;rw[L7 h1];rfl
   .cases h
 .cases h
def nks?:List D->Option (List Zm)
 | []=>aA []
 |d::r=>(nk? d).bind λk=>(nks? r).bind λks=>aA (k::ks)
@[simp]theorem M4:∀ks:List Zm,nks? (ks.map nkD)=some ks
 | []=>rfl
 |k::ks=>by rw[bm,nks?,Ol,M4 ks];rfl
theorem L8:∀{ds:List D} {ks:List Zm},nks? ds=aA ks->ds=ks.map nkD
 | [],_,h=>by cases h;rfl
 |d::ds,_,h=>by obtain⟨k,h1,h2⟩:=aa.mp (show(nk? d).bind _=_ from h);obtain⟨ks,h3,h4⟩:=aa.mp h2;cases h4;rw[HQ h1,L8 h3];rfl
theorem Sg{F:Hp}:∀{ks:List Zm} {vs:List V},mD K F (ks.map nkD) vs->∃ys:List (Zm×aq),ys.map (·.1)=ks/\vs=ys.map (λy=>V.ref y.2)/\∀y∈ys,Qs F y.1 y.2
 | [],_,h=>by cases h;exact⟨[],rfl,rfl,λ_ z=>nomatch z⟩
 |k::ks,_,h=>by
  cases h with
  |cons h t=>
   obtain⟨b,rfl,hb⟩:=G0 h;obtain⟨ys,rfl,rfl,hy⟩:=Sg t;refine⟨(k,b)::ys,rfl,rfl,λy VC=>?_⟩;rcases ay.mp VC with z|z
   .rw[z];exact hb
   .exact hy y z
theorem Fs{F:Hp}:∀{ys:List (Zm×aq)},(∀y∈ys,Qs F y.1 y.2)->mD K F (ys.map λy=>nkD y.1) (ys.map λy=>V.ref y.2)
 | [],_=>.nil
 |y::ys,h=>.cons (Bj (h y ac)) (Fs λz hz=>h z (am _ hz))
open Classical in
def Aq(ks:List Zm):Option SV:=
 if h:ks.length<=75/\(Fq ks).length<64/\mK ((Fq ks).map nkD)then aA (.ol (Classical.choose (C4 h.2.2)))else aB
theorem qS{ks:List Zm}{sv:SV}(e:Aq ks=aA sv):ks.length<=75/\(Fq ks).length<64/\mK ((Fq ks).map nkD)/\∃out,Uj ((Fq ks).map nkD) out/\sv= .ol out:=by
 unfold Aq at e;split at e
 .rename_i h;cases e;exact⟨h.1,h.2.1,h.2.2,_,ff (C4 h.2.2),rfl⟩
 .cases e
theorem qR{ks:List Zm}{out:List D}(h1:ks.length<=75)(h2:(Fq ks).length<64)(h3:mK ((Fq ks).map nkD))(h4:Uj ((Fq ks).map nkD) out):Aq ks=aA (.ol out):=by unfold Aq;rw[dif_pos ⟨h1,h2,h3⟩,C3 h3 (ff (C4 h3)) h4]
def G4:List D->Option SV
 | [.lst xs]=>(nks? xs).bind Aq
 |_=>aB
@[simp]theorem pc(ks:List Zm):G4 [.lst (ks.map nkD)]=Aq ks:=by show(nks? (ks.map nkD)).bind _=_;rw[M4];rfl
section
variable{Z:mF K}{H:Hp}{σ:L2.St}{Q:VK}{E:Ends}
theorem vZ:Bc Z (rSN K) G4:=by
 intro F H σ δ own vs ds sv Q s r e k;unfold G4 at e;split at e
 .obtain⟨ks,e1,e2⟩:=aa.mp e;obtain⟨z1,z2,ko,out,ho,rfl⟩:=qS e2;have:=L8 e1;subst this;cases r with
  |cons h t=>
   cases t;obtain⟨a,us,rfl,ha,ru⟩:=h.lst s.le;obtain⟨ys,rfl,rfl,hy⟩:=Sg ru;have ek:(Nu ys).map (λy=>nkD y.1)=(Fq (ys.map (·.1))).map nkD:=by rw[<-Dl,cu];rfl
   refine⟨a,ys,rfl,ha,λy VC=>(hy y VC).mono λ_ _ q=>s.le _ _ q,by simpa using z1,?_,by rw[ek];exact ko,λzs q hp so hq=>?_⟩
   .have:=congrArg List.length (Dl ys);rw[ah]at this;omega
   .have eo:out=zs.map λy=>nkD y.1:=by rw[ek]at so;exact C3 ko ho so
    rw[eo]at k;exact k.lst s (Fs λz hz=>hy z (L5 (hp.mem_iff.mp hz))) hq
 .cases e
end
section
variable{X:Cx}{Z:mF X.K}{a b c:cw}{fa fb fc:FE}{pos:Pos}
theorem Xf{p1 q1 q2:Pos}(hc:X.calm=aC)(hv:X.A.units+64<fj)(h1:X.mg "sorted"=aB)(h2:X.mg "set"=aB)(ha:PE X a (Zf Z fa))(g1:Gl X "sorted":=by rfl)(g2:Gl X "set":=by rfl)
  (UJ:az [.Call (.Name "set" q1) [a] [] q2] X.env=(aD,gg (.Call (.Name "set" q1) [a] [] q2) X.env)::az [] X.env:=by rfl) (KO:(gb pos (az [] X.env)).any (·.1)=aD:=by rfl)
  (WU:az [a] X.env=(aD,gg a X.env)::az [] X.env:=by rfl) (SA:(gb q2 (az [] X.env)).any (·.1)=aD:=by rfl):
  PE X (.Call (.Name "sorted" p1) [.Call (.Name "set" q1) [a] [] q2] [] pos) (Zf Z (Yi G4 (Ze fa Zo))):=
 (tL hc hv h1 h2 (Zt ha Ys WU) g1 g2 UJ KO WU SA).imp λ_ _ _ h=>Lf vZ h
end
end
section
open PySem.Calls
section
variable{prog:cg}{w:c8}{K:Type}[DecidableEq K]{knd:HeapKind prog w K}{A:dh}{E:aj->ao->Prop}{s:ao}
theorem Sh{d a:aq}{xs:List (K×aq×aj)}{k:K}{v:aj}{Q:aj->ao->Prop}(hu:knd.room A)(SK:knd.is s.heap k a)(hm:s.heap.DictOfH knd d xs)
  (SE:∀p,atKey xs k=aA p->Q p.2 {s with toks:=s.toks+knd.draws k})
  (KR:atKey xs k=aB->∀h',h'.DictOfH knd d (xs++[(k,a,v)])->gm d s.heap h'->Q v {s with heap:=h',toks:=s.toks+knd.draws k}) (hsz:xs.length<=sizeLine):
  bj (cf prog w) A (dictSetDefault d (.ref a) v) Q E s:=by
 obtain⟨o,es,ep,ho,hc,hd,he,VG,hn⟩:=hm;unfold dictSetDefault
 try with_reducible refine wpAny_holding ?_
 refine ab (knd.pyHash hu SK (ab (wpAny_dictFind_heap (s:={s with toks:=s.toks+knd.draws k}) hu SK ho hd he VG hn ?_ ?_)))
 .intro hno;have KQ:k∉xs.map (·.1):=not_mem_keys_of_get hno;dsimp only;refine ab (wpAny_rule (ab (wpAny_updateDictKeys (hz:=by have e:=size_of_entries he;omega) (s:={s with toks:=s.toks+knd.draws k}) ho hd (af (KR (atKey_none_of_get hno) _ ⟨_,_,ep+1,Heap.get?_update_self _ ho (Obj.isFreed_of_dict (Obj.data_mapDictKeys hd _)),
   hc.mapDictKeys _,Obj.data_mapDictKeys hd _,?_,?_,?_⟩ (Heap.SameBut.update ..))))))
  .simp[he,entryOfKey]
  .intro x hx;rcases ba.mp hx with hx|hx
   .exact knd.keeps (VG x hx) ho hd (Heap.SameBut.update ..)
   .simp only[ak]at hx;subst hx;exact knd.keeps SK ho hd (Heap.SameBut.update ..)
  .rw[ci,dn];refine⟨hn,by simp,?_⟩;intro x hx y hy;simp only[bm,List.map_nil,ak]at hy;subst hy;exact λe=>KQ (e▸hx)
 .intro j p hj;dsimp only;refine ab (wpAny_dictEntries (s:={s with toks:=s.toks+knd.draws k}) ho hd ?_);rw[entry_at he j,hj];exact ab (wpAny_rule (af (SE p (atKey_of_get hn hj))))
end
def KNt(H:Hp):List (Zm×V)->List (Zm×aq×aj)->Prop:=Paired λ(p:Zm×V) (q:Zm×aq×aj)=>p.1=q.1/\Qs H p.1 q.2.1/\Zy p.2 q.2.2
section
variable{P:cg}{w:c8}{H:Hp}{h:d6}{a:aq}
theorem HN{kvs:List (Zm×V)}{ep:Nat}{bs:List aq}(ok:Cy P w H h)(e:H a=aA (.dN kvs ep bs)):kvs.length<=sizeLine/\(a==sysModules)=aD/\
  ∃xs,KNt H kvs xs/\h.DictOfH (Ie P w) a xs/\(xs.map λx=>x.2.1)=bs:=by
 obtain⟨z,y,xs,r,o,es,h1,h2,h3,h4,h5,h6⟩:=(show Yc P w H h a (.dN kvs ep bs)from ok a _ e)
 refine⟨z,y,xs,r,⟨o,es,ep,h1,h2,h3,h4,λx hx=>?_,h5⟩,h6⟩;have all:∀{l:List (Zm×V)} {m:List (Zm×aq×aj)},KNt H l m->∀x∈m,(Ie P w).is h x.1 x.2.1:=by
  intro l m q;induction q with
  |nil=>intro x hx;exact nomatch hx
  | @cons p q ps qs hq t ih=>
   intro x hx;rcases ay.mp hx with e|hx
   .subst e;exact L6 ok (by rw[<-hq.1];exact hq.2.1)
   .exact ih x hx
 exact all r x hx
theorem KNt.val{kvs:List (Zm×V)}{xs:List (Zm×aq×aj)}(r:KNt H kvs xs)(k:Zm):Gf (Qp kvs k) ((atKey xs k).map (·.2)):=by
 induction r with
 |nil=>exact True.intro
 | @cons p q ps qs hq t ih=>
  by_cases e:p.1=k
  .rw[Uz e];have:atKey (q::qs) k=aA q.2:=by unfold atKey;rw[List.find?_cons_of_pos (by rw[<-hq.1];exact m8 e)];rfl
   rw[this];exact hq.2.2
  .rw[Jm e];have:atKey (q::qs) k=atKey qs k:=by unfold atKey;rw[List.find?_cons_of_neg (by rw[<-hq.1];simpa using e)]
   rw[this];exact ih
end
def IsN(H:Hp)(a:aq):Prop:=∃kvs ep bs,H a=aA (.dN kvs ep bs)
def wS(td ty:TE):TE:=λσ H Q=>td σ H λx H1=>ty σ H1 λy H2=>∃a b kvs ep bs k v,x= .ref a/\y= .ref b/\H2 a=aA (.dN kvs ep bs)/\Qs H2 k b/\Qp kvs k=aA v/\Q v H2
def D_(td ty tx:TE):TE:=λσ H Q=>td σ H λx H1=>∃a,x= .ref a/\IsN H1 a/\ty σ H1 λy H2=>tx σ H2 λz H3=>∃kvs ep bs k b,y= .ref b/\H3 a=aA (.dN kvs ep bs)/\Qs H3 k b/\kvs.length<sizeLine/\
 ((∃v,Qp kvs k=aA v/\Q v H3)\/(Qp kvs k=aB/\∀YT,Q z (Yo H3 a (.dN (kvs++[(k,z)]) YT (bs++[b])))))
section
variable{X:Cx}{o i e f:cw}{td ty tx:TE}{pos ZF ZC:Pos}
theorem Do{A:dh}{P:cg}{w:c8}(hu:A.units+2<fj):(Ie P w).room A.in1:=hu
theorem tK(hu:X.A.units+2<fj)(ho:PE X o td)(hi:PE X i ty)(hs:IN i):PE X (.Subscript o i pos) (wS td ty):=by intro n_ s σ H Q I h;refine Hb PySem.F.slot_dict_getitem.lookup hs (Wl (ho n_ s σ H _ I h) λu s1 ⟨x,H1,I1,rx,q1⟩=>Wl (hi n_ s1 σ H1 _ I1 q1) λiv s2 ZG=>?_);obtain⟨y,H2,I2,ry,a,b,kvs,ep,bs,k,v,ex,ey,ea,eb,ev,q2⟩:=ZG;subst ex ey;obtain rfl:u=b8 a:=rx;obtain rfl:iv=b8 b:=ry;obtain⟨z,hd,xs,ZP,dd,_⟩:=HN I2.hok ea;obtain⟨w',hw,WO⟩:=Gf.some_of (v:=v) (o:=(atKey xs k).map (·.2)) (by rw[<-ev];exact ZP.val k);obtain⟨p,hp,SA⟩:=cq.mp hw;refine⟨dd.typeIs,wpAny_getItem_heap (Do hu) (L6 I2.hok eb) dd hp ?_⟩;rw[SA];exact⟨v,H2,I2.tok _,WO,q2⟩
theorem Dm(hu:X.A.units+2<fj)(ho:PE X o td)(he:PE X e ty)(hf:PE X f tx)(m:M2 X o "setdefault" ZF e f ZC):PE X (.Call (.Attribute o "setdefault" ZF) [e,f] [] ZC) (D_ td ty tx):=by
 intro n_ s σ H Q I h;refine wpAny_Call_method m.base m.few m.line PySem.F.plainAttrs_dict PySem.F.slot_dict_setdefault PySem.F.type_dict_setdefault (Wl (ho n_ s σ H _ I h) λu s1 ZG=>?_);obtain⟨x,H1,I1,rx,a,ex,d,q1⟩:=ZG;subst ex;obtain rfl:u=b8 a:=rx;obtain⟨zy,yw,xD,y0⟩:=d;obtain⟨_,_,oz,_,EQ,_⟩:=HN I1.hok y0;refine⟨EQ.typeIs,λb q=>?_,?_⟩
 .cases q;obtain⟨ob,_,_,h1,h2,_⟩:=EQ;exact⟨ob,h1,h2.2.1⟩
 rw[m.trees];refine Calls.callWith_builtin rfl (Calls.evalArgs_plain (Calls.spliced_cons (Wl (he n_ s1 σ H1 _ I1 q1) λiv s2 ⟨y,H2,I2,ry,q2⟩=>
  Calls.spliced_cons (Wl (hf n_ s2 σ H2 _ I2 q2) λfv s3 ⟨z,H3,I3,rz,kvs,ep,bs,k,b,ey,ea,eb,hl,q3⟩=>Calls.spliced_nil ?_))))
 subst ey;obtain rfl:iv=b8 b:=ry;obtain⟨hz,hd,xs,ZP,dd,UK⟩:=HN I3.hok ea;have nB:xs.length=kvs.length:=(Paired.length ZP).symm;refine dq PySem.F.slot_dict_setdefault dd.typeIs PySem.F.entry_dict_setdefault ?_ (PySem.F.args_dict_setdefault_3 _ _ _);unfold Builtin.«dict.setdefault»;refine ab (m:=Builtin.Dict.keyAndDefault "setdefault" ⟨[.ref a,.ref b,fv],[]⟩) ?_;show bj _ _ (Builtin.Dict.notOrdered "setdefault" ⟨[.ref a,.ref b,fv],[]⟩>>=_) _ _ s3;refine ab (wpAny_notOrdered_dict dd.typeIs ?_);refine af (a:=(a,b8 b,aA fv)) ?_;dsimp only;rw[m4 (by rw[hd];simp)];refine ab (Sh (knd:=Ie X.prog X.w) (Do hu) (L6 I3.hok eb) dd (λp hp=>?_) (λhno h' UO hs=>?_) (by omega))
 .rcases q3 with⟨v,ev,q⟩|⟨ev,_⟩
  .have r:=ZP.val k;rw[hp,ev]at r;exact af ⟨_,rfl,v,H3,I3.tok _,r,q⟩
  .have r:=ZP.val k;rw[hp,ev]at r;exact r.elim
 .rcases q3 with⟨v,ev,q⟩|⟨ev,q⟩
  .have r:=ZP.val k;rw[hno,ev]at r;exact r.elim
  .obtain⟨ob,es,YT,hq,h2,h3,h4,_,h5⟩:=UO;refine af ⟨_,rfl,z,_,Mx I3 (ob:=.dN (kvs++[(k,z)]) YT (bs++[b])) (by rw[ea];exact True.intro) hs ⟨ob,hq⟩ ⟨by rw[av,f7];omega,hd,xs++[(k,b,fv)],?_,ob,es,hq,h2,h3,h4,h5,by rw[ci,UK];rfl⟩,rz,q YT⟩;have app:∀{l:List (Zm×V)} {m:List (Zm×aq×aj)},KNt H3 l m->Paired (λ(p:Zm×V) (q:Zm×aq×aj)=>p.1=q.1/\Qs (Yo H3 a (.dN (kvs++[(k,z)]) YT (bs++[b]))) p.1 q.2.1/\Zy p.2 q.2.2) (l++[(k,z)]) (m++[(k,b,fv)]):=by
    have up:∀c ys,H3 c=aA (.tup ys)->Yo H3 a (.dN (kvs++[(k,z)]) YT (bs++[b])) c=aA (.tup ys):=λc ys ec=>by rw[Zp (CY ec ea (λz=>nomatch z))];exact ec
    intro l m r;induction r with
    |nil=>exact .cons ⟨rfl,eb.mono up,rz⟩ .nil
    |cons hq t ih=>exact .cons ⟨hq.1,hq.2.1.mono up,hq.2.2⟩ ih
   exact app ZP
theorem qQ{P:cg}{w:c8}{H:Hp}(h:d6)(hb:sysModules<h.objs.size):Yc P w H (h.push {cls:=.type "dict",data:=.dict #[]}) h.objs.size (.dN [] 0 []):=
 ⟨dk _,beq_eq_false_iff_ne.mpr (Ne.symm (cm hb)),[],.nil,_, #[],bo _ rfl,⟨rfl,rfl,rfl⟩,rfl,rfl,cx,rfl⟩
def AB:TE:=λ_ H Q=>∀p,H p=aB->Q (.ref p) (Yo H p (.dN [] 0 []))
theorem rh:PE X (.Dict [] [] pos) AB:=λn_ s σ H Q I h=>
 wpAny_Dict_empty ⟨.ref s.heap.objs.size,_,I.laid (a:=s.heap.objs.size) (o:=.dN [] 0 []) (t':=s.toks) (λ_ _ q=>ar _ q) (bc _) (qQ s.heap I.big),rfl,h _ (I.hok.fresh (bc _))⟩
def Dn(K:ad):V->List V->Hp->VK->Prop:=λx vs H Q=>∃l b xs zs,x= .ref l/\vs=[.ref b]/\H l=aA (.lst xs)/\J3 K H b zs/\xs.length+zs.length<=sizeLine/\Q .non (Yo H l (.lst (xs++zs)))
end
end
section
open PySem.Calls
theorem tJ(l:aq)(mB:Array aj)(n:Nat)(b:aq)(ZA:Array aj)(n2:Nat)(dc:Option aq)(sl:Array (Option aj))(VU:¬(!mB.isEmpty&&Builtin.List.listTooLong (mB.size+ZA.size))=aC)(hs1:mB.size<=sizeLine)(hs2:mB.size+ZA.size<=sizeLine+1):
  Meets (Builtin.«list.extend» ⟨[.ref l,.ref b],[]⟩) (λ_ R s=>s.heap.get? l=aA {cls:=.type "list",dict:=aB,data:=.seq mB n,slots:= #[]}/\s.heap.get? b=aA {cls:=.type "list",dict:=dc,data:=.seq ZA n2,slots:=sl}/\R (.ok (.ret cn)) {s with heap:=s.heap.update l (dm λx=>x++ZA),toks:=s.toks}):=
 .of_wp λprog w A R s h=>by
  obtain⟨hp,g,d,tk,os⟩:=s;obtain⟨hl,hb,h⟩:=h;have f1:=AutoSeq1.idx_int;have f2:=AutoSeq1.sub_tuple_tuple;have f3:=AutoSeq1.sub_list_list;have f4:=AutoSeq1.sub_tuple_list;have f5:=AutoSeq1.sub_list_tuple;have QP:(mB++ZA).size<=sizeLine+1:=by rw[Array.size_append];exact hs2
  wp_walk using(wpAny_updateSeq hl rfl (hz:=hs1) (_hz':=QP)),AutoSeq1.wpAny_loadPart' hl,AutoSeq1.wpAny_loadPart' hb;exact⟨_,rfl,h⟩
theorem Dp{X:Cx}:MtM X "list.extend" (Dn X.K):=by
 intro n_ s σ H x vs v us Q I rx rv h;obtain⟨l,b,xs,zs,rfl,rfl,hH,hB,hz,q⟩:=h;cases rx;obtain⟨u,rfl,ru⟩:=rv.one;cases ru;obtain⟨z,mC,n,r,hl,e⟩:=I.lstM hH;obtain⟨XO,r2,⟨o,n2,ho,hc,hdn,hd⟩,z2⟩:=I.list hB;have hl2:=r2.length;obtain⟨cls,dc,data,sl⟩:=o;cases hc;cases hd;have hsz:mC.toArray.size+XO.toArray.size<=sizeLine:=by rw[bv,bv];omega
 have QU:¬(!mC.toArray.isEmpty&&Builtin.List.listTooLong (mC.toArray.size+XO.toArray.size))=aC:=by rw[pA hsz,Bool.and_false];exact bq
 refine call_meets F.slot_list_extend ⟨_,e,rfl⟩ F.entry_list_extend (F.args_list_extend_2 _ _)
  (tJ l mC.toArray n b XO.toArray n2 dc sl QU (by rw[bv];omega) (by omega)) ⟨e,ho,?_⟩
 refine⟨.non,_,I.lset (its':=mC++XO) hH e (by simp) (r.append r2) ?_,rfl,q⟩;rw[av];omega
end
section
variable{K:ad}
theorem mN.appL{F:Hp}:∀{ZE:List (List D)} {ws:List V} {ns:Zr} {p:Nat} {b:aq},mN K F ZE ws ns->ws[p]? =aA (.ref b)->(Mb ns).Nodup->
  ∃xs vs,ZE[p]? =aA xs/\(b,HO.lst vs)∈ns/\mD K F xs vs/\∀{ys:List D} {us:List V},mD K F ys us->∃ns',mN K F (ZE.set p (xs++ys)) ws ns'/\Mb ns'=Mb ns/\∀q∈ns',q=(b,HO.lst (vs++us))\/(q∈ns/\q.1≠b)
 |_,_,_,_,_,.nil,e,_=>by simp at e
 |_,_,_,0,b,@mN.cons _ _ xs ZE b' vs ws ns r t,e,nd=>by
  have e':b'=b:=by simpa using e
  subst e';obtain⟨n1,n2⟩:=fq.mp nd;refine⟨xs,vs,rfl,ac,r,fun{ys us} hd=>⟨(b',.lst (vs++us))::ns,.cons (r.append hd) t,rfl,λq hq=>?_⟩⟩;rcases ay.mp hq with z|z
  .exact .inl z
  .exact .inr ⟨am _ z,λw=>n1 (ax.mpr ⟨q,z,w⟩)⟩
 |_,_,_,p+1,b,@mN.cons _ _ xs0 ZE b' UR ws ns r t,e,nd=>by
  obtain⟨n1,n2⟩:=fq.mp nd;obtain⟨xs,vs,h1,h2,h3,h4⟩:=mN.appL (p:=p) (b:=b) t (by simpa using e) n2;refine⟨xs,vs,by simpa using h1,am _ h2,h3,fun{ys us} hd=>?_⟩;obtain⟨ns',k1,k2,k3⟩:=h4 hd;refine⟨(b',.lst UR)::ns',by rw[List.set_cons_succ];exact .cons r k1,by show b'::Mb ns'=b'::Mb ns;rw[k2],λq hq=>?_⟩;rcases ay.mp hq with z|z
  .refine .inr ⟨by rw[z];exact ac,λw=>n1 ?_⟩;rw[z]at w;exact ax.mpr ⟨_,h2,w.symm⟩
  .rcases k3 q z with w|⟨w,w2⟩
   .exact .inl w
   .exact .inr ⟨am _ w,w2⟩
@[simp]def Y4:List Zm->Zm->Option Nat
 | [],_=>aB
 |a::r,k=>if a=k then aA 0 else(Y4 r k).map (· +1)
theorem Ft{k:Zm}:∀{kvs:List (Zm×V)} {p:Nat},Y4 (kvs.map (·.1)) k=aA p->∃v,(kvs.map (·.2))[p]? =aA v/\Qp kvs k=aA v
 | [],_,e=>by cases e
 |q::r,p,e=>by
  have e:(if q.1=k then aA 0 else(Y4 (r.map (·.1)) k).map (· +1))=aA p:=e;by_cases h:q.1=k
  .rw[m6 h]at e;cases e;exact⟨q.2,rfl,Uz h⟩
  .rw[m4 h]at e;obtain⟨p',e1,e2⟩:=cq.mp e;subst e2;obtain⟨v,h1,h2⟩:=Ft e1;exact⟨v,by simpa using h1,by rw[Jm h];exact h2⟩
theorem Fu{k:Zm}:∀{kvs:List (Zm×V)},Y4 (kvs.map (·.1)) k=aB->Qp kvs k=aB
 | [],_=>rfl
 |q::r,e=>by
  have e:(if q.1=k then aA 0 else(Y4 (r.map (·.1)) k).map (· +1))=aB:=e;by_cases h:q.1=k
  .rw[m6 h]at e;cases e
  .rw[m4 h]at e;rw[Jm h];exact Fu (Option.map_eq_none_iff.mp e)
theorem KN.snoc{F:Hp}{kvs:List (Zm×V)}{bs:List aq}{k:Zm}{v:V}{b:aq}(h:KN F kvs bs)(hb:Qs F k b):KN F (kvs++[(k,v)]) (bs++[b]):=by
 induction h with
 |nil=>exact .cons hb .nil
 |cons r t ih=>exact .cons r ih
theorem rg{F:Hp}{ks:List Zm}{ZE:List (List D)}{v:V}{ns:Zr}(h:mH K F (.oX ks ZE) v ns):∃a kvs ns' ep bs,v= .ref a/\ns=(a,.dN kvs ep bs)::ns'/\KN F kvs bs/\kvs.map (·.1)=ks/\mN K F ZE (kvs.map (·.2)) ns':=by
 cases h with
 |oX kb e r=>exact⟨_,_,_,_,_,rfl,rfl,kb,e,r⟩
section
variable{Z:mF K}{H:Hp}{σ:L2.St}{Q:VK}{E:Ends}
@[simp]def Fv:FE:=λδ=>some (.tmp (.oX [] []),δ)
theorem tI(h:Zf Z Fv σ H Q):AB σ H Q:=by obtain⟨F,δ,own,rv,δ',s,e,k⟩:=h;cases e;intro p hp;have f:Fin Z F H σ δ own (.oX [] []) Q:=λv H' F' ns a b c t=>k v H' F' own a b c ⟨ns,t⟩;exact f.one s (.oX (kvs:=[]) .nil rfl .nil) hp
theorem G5{F:Hp}{δ:Ym}{own:Nat->Zr}{i:Nat}{ks:List Zm}{ZE:List (List D)}(s:SR Z F H σ δ own)(e:δ[i]? =aA (aA (.oX ks ZE))):∃a kvs ep bs ns',σ[i]? =aA (aA (.ref a))/\own i=(a,.dN kvs ep bs)::ns'/\H a=aA (.dN kvs ep bs)/\KN F kvs bs/\kvs.map (·.1)=ks/\mN K F ZE (kvs.map (·.2)) ns':=by obtain⟨x,hx,sh⟩:=s.at' i _ e;obtain⟨a,kvs,ns',ep,bs,rfl,en,kb,ek,kd⟩:=rg sh;exact⟨a,kvs,ep,bs,ns',hx,en,(s.ok i (a,.dN kvs ep bs) (by rw[en];exact ac)).2.2,kb,ek,kd⟩
theorem wR{F:Hp}{δ:Ym}{own:Nat->Zr}{i:Nat}{ks:List Zm}{ZE:List (List D)}{k:Zm}{p:Nat}(s:SR Z F H σ δ own)(e:δ[i]? =aA (aA (.oX ks ZE)))(hp:Y4 ks k=aA p):
  ∃a kvs ep bs c vs xs,σ[i]? =aA (aA (.ref a))/\H a=aA (.dN kvs ep bs)/\kvs.length=ZE.length/\Qp kvs k=aA (.ref c)/\H c=aA (.lst vs)/\ZE[p]? =aA xs/\xs.length=vs.length/\F c=aB/\
   ∀(ys:List D) (us:List V),mD K F ys us->∃own',SR Z F (Yo H c (.lst (vs++us))) σ (δ.set i (aA (.oX ks (ZE.set p (xs++ys))))) own':=by
 obtain⟨a,kvs,ep,bs,ns',hx,en,hH,kb,ek,kd⟩:=G5 s e;rw[<-ek]at hp;obtain⟨v,g1,g2⟩:=Ft hp;obtain⟨c,rfl⟩:=kd.ref g1;have nd:=s.nod i;rw[en]at nd;obtain⟨n1,n2⟩:=fq.mp nd;obtain⟨xs,vs,q1,q2,q3,q4⟩:=kd.appL g1 n2;have mb:(c,HO.lst vs)∈own i:=by rw[en];exact am _ q2
 obtain⟨fc,_,NY⟩:=s.ok i _ mb;refine⟨a,kvs,ep,bs,c,vs,xs,hx,hH,by have:=kd.length;rw[ah]at this;exact this.symm,g2,NY,q1,q3.length,fc,λys us r=>?_⟩;obtain⟨LM,k1,k2,k3⟩:=q4 r;have NX:a≠c:=λz=>n1 (ax.mpr ⟨_,q2,z.symm⟩);refine⟨_,s.change (sv':=.oX ks (ZE.set p (xs++ys))) (o':=.lst (vs++us)) (ns':=(a,.dN kvs ep bs)::LM) e hx mb (.oX kb ek k1) (λq hq=>?_) ?_⟩
 .rcases ay.mp hq with z|z
  .exact .inr ⟨by rw[en,z];exact ac,by rw[z];exact NX⟩
  .rcases k3 q z with w|⟨w,w2⟩
   .exact .inl w
   .exact .inr ⟨by rw[en];exact am _ w,w2⟩
 .show(a::Mb LM).Nodup;rw[k2];exact nd
theorem wQ{F:Hp}{δ:Ym}{own:Nat->Zr}{i:Nat}{ks:List Zm}{ZE:List (List D)}{k:Zm}(s:SR Z F H σ δ own)(e:δ[i]? =aA (aA (.oX ks ZE)))(hp:Y4 ks k=aB):
  ∃a kvs ep bs,σ[i]? =aA (aA (.ref a))/\H a=aA (.dN kvs ep bs)/\kvs.length=ZE.length/\Qp kvs k=aB/\
   ∀(l b:aq) (ys:List D) (us:List V) (YT:Nat),H l=aB->Qs F k b->mD K F ys us->∃own',SR Z F (Yo (Yo (Yo H l (.lst [])) a (.dN (kvs++[(k,.ref l)]) YT (bs++[b]))) l (.lst us)) σ (δ.set i (aA (.oX (ks++[k]) (ZE++[ys])))) own':=by
 obtain⟨a,kvs,ep,bs,ns',hx,en,hH,kb,ek,kd⟩:=G5 s e;rw[<-ek]at hp;have nd:=s.nod i;rw[en]at nd;obtain⟨n1,n2⟩:=fq.mp nd;have mb:(a,HO.dN kvs ep bs)∈own i:=by rw[en];exact ac
 refine⟨a,kvs,ep,bs,hx,hH,by have:=kd.length;rw[ah]at this;exact this.symm,Fu hp,λl b ys us YT hl hb r=>?_⟩;have K_:l≠a:=λz=>by rw[z,hH]at hl;cases hl
 have eH:Yo (Yo (Yo H l (.lst [])) a (.dN (kvs++[(k,.ref l)]) YT (bs++[b]))) l (.lst us)=Yo (Yo H l (.lst us)) a (.dN (kvs++[(k,.ref l)]) YT (bs++[b])):=by
  funext c;unfold Yo;by_cases h1:c=l
  .rw[m6 h1];by_cases h2:c=a
   .exact m_ (h1.symm.trans h2) K_
   .rw[m4 h2,m6 h1]
  .rw[m4 h1];by_cases h2:c=a
   .rw[m6 h2,m6 h2]
   .rw[m4 h2,m4 h2,m4 h1,m4 h1]
 rw[eH];have sm:=Wq (o:=HO.lst us) hl;have s1:=s.grow sm;have t:mR Z F (Yo H l (.lst us)) own (.ol ys) (.ref l) [(l,.lst us)]:=by
  refine⟨.ol r,Ev,λq hq=>?_,λj q r hq hr z=>?_⟩
  .obtain rfl:=ak.mp hq;exact⟨s.le.free hl,s.old.free hl,Z8⟩
  .obtain rfl:=ak.mp hq;have z':l=r.1:=z;have:=(s.ok j r hr).2.2;rw[<-z',hl]at this;cases this
 have ZX:∀p∈own i,p.1≠l:=λp hp z=>t.sep i (l,.lst us) p ac hp z.symm;refine⟨_,s1.changeT (o':=.dN (kvs++[(k,.ref l)]) YT (bs++[b])) (ns':=(a,.dN (kvs++[(k,.ref l)]) YT (bs++[b]))::(ns'++[(l,.lst us)])) t e hx mb (.oX (kb.snoc hb) (by rw[ci,ek];rfl) (by rw[ci];exact kd.snoc r)) (λp hp=>?_) ?_⟩
 .rcases ay.mp hp with z|z
  .exact .inl z
  .rcases ba.mp z with z|z
   .exact .inr (.inl ⟨by rw[en];exact am _ z,λw=>n1 (ax.mpr ⟨p,z,w⟩)⟩)
   .exact .inr (.inr z)
 .show(a::(ns'++[(l,HO.lst us)]).map (·.1)).Nodup;rw[ci];refine fq.mpr ⟨λz=>?_,?_⟩
  .rcases ba.mp z with z|z
   .exact n1 z
   .exact ZX _ mb (ak.mp z)
  .refine dn.mpr ⟨n2,Ev,λx hx y hy z=>?_⟩;obtain⟨p,hp,ep⟩:=ax.mp hx;have VC:y=l:=ak.mp hy;exact ZX p (by rw[en];exact am _ hp) (by rw[ep,z,VC])
@[simp]def Mw(ks:List Zm)(ZE:List (List D))(k:Zm)(ys:List D):List Zm×List (List D):=match Y4 ks k with
 |some p=>(ks,ZE.set p (ZE.getD p []++ys))
 |none=>(ks++[k],ZE++[ys])
def okX(ZE:List (List D))(n:Nat):Prop:=ZE.length<cj/\n<cj/\∀xs∈ZE,xs.length+n<cj
open Classical in
def Ml(i:Nat)(fk:FE)(j:Nat)(ext:Bool):FS:=λδ=>match δ[i]? with
 |some (aA (.oX _ _))=>(fk δ).bind λp=>(frz p.1 p.2).bind λq=>(nk? q.1).bind λk=>match q.2[i]?,q.2[j]? with
  |some (aA (.oX ks ZE)),aA (aA (.fz d))=>(if ext=aC then(match d with| .lst ys=>aA ys| .lso ys=>aA ys|_=>aB)else aA [d]).bind λys=>if okX ZE ys.length then aA (.nx (q.2.set i (aA (.oX (Mw ks ZE k ys).1 (Mw ks ZE k ys).2))))else aB
  |_,_=>aB
 |_=>aB
theorem Dq{i j:Nat}{fk:FE}{ext:Bool}(h:Z2 Z (Ml i fk j ext) E σ H):Gh (tBM K "list" (if ext=aC then Dn K else Qf) (D_ (Uo i) (Zf Z fk) (IP Tk)) (Oz (Uo j) Tk)) E σ H:=by
 obtain⟨F,δ,own,fl,s,e,k⟩:=h;unfold Ml at e;split at e
 .rename_i ks0 xss0 hi0;obtain⟨⟨rv,δ1⟩,e1,e⟩:=aa.mp e;obtain⟨⟨kd,δ2⟩,e2,e⟩:=aa.mp e;obtain⟨kk,e3,e⟩:=aa.mp e;dsimp only at e2 e3 e;split at e
  .rename_i ks ZE d hi hj;obtain⟨ys,e4,e⟩:=aa.mp e;split at e
   .rename_i hok;cases e;obtain⟨a,LW,V_,NZ,o_,UW,nH,yk,_⟩:=G5 s hi0;refine⟨.ref a,UW,a,rfl,⟨_,_,_,yk⟩,F,δ,own,rv,δ1,s,e1,λv H1 F1 ZB sH sF s1 r1=>?_⟩;obtain⟨F2,ZH,s2,r2⟩:=s1.settleR r1;obtain⟨F3,ZI,ZT,s3,r3⟩:=s2.frzR r2 e2;rw[HQ e3]at r3;obtain⟨b,rfl,hb⟩:=G0 r3;obtain⟨y,hy,MZ⟩:=s3.at' j _ hj;have ry:=Q6 MZ;have hus:∃us,mD K F3 ys us/\(∀{c:aq} {vs:List V} {H4:Hp} {Q:VK},Zi F3 H4->H4 c=aA (.lst vs)->F3 c=aB->vs.length+ys.length<cj->Q .non (Yo H4 c (.lst (vs++us)))->(if ext=aC then Dn K else Qf) (.ref c) [y] H4 Q):=by
     cases ext with
     |false=>
      obtain rfl:[d]=ys:=by simpa using e4
      refine⟨[y],.cons ry .nil,fun{c vs H4 Q} le hc hf hz q=>?_⟩;exact⟨c,vs,y,rfl,rfl,hc,by simpa using(by simp at hz;omega:vs.length<cj),q⟩
     |true=>
      simp only[if_true]at e4;split at e4
      .rename_i zs;cases e4;cases ry with
       | @lst l _ us hl _ ru=>refine⟨us,ru,fun{c vs H4 Q} le hc hf hz q=>?_⟩;exact⟨c,l,vs,us,rfl,rfl,hc,Yg le hl,by rw[<-ru.length];omega,q⟩
      .rename_i zs;cases e4;cases ry with
       | @lso l _ us hl ru=>refine⟨us,ru,fun{c vs H4 Q} le hc hf hz q=>?_⟩;exact⟨c,l,vs,us,rfl,rfl,hc,Yg le hl.sq,by rw[<-ru.length];omega,q⟩
      .cases e4
    obtain⟨us,ru,step⟩:=hus;have lu:=ru.length;have sFt:=sF.trans (ZH.trans ZT);refine⟨dk _,λl hl=>?_⟩;have sml:=Wq (o:=HO.lst []) hl;cases hp:Y4 ks kk with
    |some p=>
     obtain⟨a',kvs,ep,bs,c,vs,xs,hx,hH,hlen,hv,NY,q1,q2,fc,q3⟩:=wR (s3.grow sml) hi hp;rw[UW]at hx;cases hx;have hxs:=b9 q1;have hz:=hok.2.2 xs hxs;refine⟨kvs,ep,bs,kk,b,rfl,hH,hb.mono λ_ _ q=>(s3.grow sml).le _ _ q,by rw[hlen];exact hok.1,.inl ⟨.ref c,hv,.inl ⟨rfl,vs,.inl (.inl NY)⟩,y,hy,?_⟩⟩;refine step (s3.grow sml).le NY fc (by omega) ?_;obtain⟨own',sr⟩:=q3 ys us ru;refine k σ _ F3 own' sFt ?_;have:Mw ks ZE kk ys=(ks,ZE.set p (xs++ys)):=by
      unfold Mw;rw[hp];have:ZE.getD p []=xs:=by rw[bi,q1];rfl
      show(ks,ZE.set p (ZE.getD p []++ys))=_;rw[this]
     rw[this];exact sr
    |none=>
     obtain⟨a',kvs,ep,bs,hx,hH,hlen,hv,q3⟩:=wQ s3 hi hp;rw[UW]at hx;cases hx;have ym:(Yo H1 l (.lst [])) a=aA (.dN kvs ep bs):=sml _ _ hH;refine⟨kvs,ep,bs,kk,b,rfl,ym,hb.mono λ_ _ q=>(s3.grow sml).le _ _ q,by rw[hlen];exact hok.1,.inr ⟨hv,λYT=>?_⟩⟩;have K_:l≠a:=λz=>by rw[z,hH]at hl;cases hl
     have EN:(Yo (Yo H1 l (.lst [])) a (.dN (kvs++[(kk,.ref l)]) YT (bs++[b]))) l=aA (.lst []):=by rw[Zp K_,Z8]
     have zr:Zi F3 (Yo (Yo H1 l (.lst [])) a (.dN (kvs++[(kk,.ref l)]) YT (bs++[b]))):=λc u ec=>by
      have JL:c≠a:=λz=>by obtain⟨a2,LV,yv,xC,LM,FQ,yx,_⟩:=G5 s3 hi;rw[UW]at FQ;cases FQ;have:=(s3.ok i (a,.dN LV yv xC) (by rw[yx];exact ac)).1;rw[z,this]at ec;cases ec
      rw[Zp JL];exact(s3.grow sml).le _ _ ec
     refine⟨.inl ⟨rfl,[],.inl (.inl EN)⟩,y,hy,?_⟩;refine step (vs:=[]) zr EN (s3.le.free hl) (by have h1:=hok.2.1;simpa using h1) ?_;obtain⟨own',sr⟩:=q3 l b ys us YT hl hb ru;refine k σ _ F3 own' sFt ?_;have:Mw ks ZE kk ys=(ks++[kk],ZE++[ys]):=by unfold Mw;rw[hp]
     rw[this];exact sr
   .cases e
  .cases e
 .cases e
end
section
variable{X:Cx}{Z:mF X.K}{a b c:cw}{fa fb fc:FE}{pos:Pos}
theorem Dr:PE X (.Dict [] [] pos) (Zf Z Fv):=rh.imp λ_ _ _ h=>tI h
theorem tH(i j:Nat){x y:Str}{k:cw}{fk:FE}{px py p2 WS cp1 ZF ZC:Pos}(hu:X.A.units+64<fj)(hk:PE X k (Zf Z fk))(hN:X.N[i]? =aA x:=by rfl)(hv:X3 X.env.scope x:=by first|exact Or.inl rfl|exact gv (Or.inl rfl)|exact gv (gv rfl))(hd:(x==("__debug__":Str))=aD:=by decide)(YD:(x==("__classdict__":Str))=aD:=by decide)
  (JU:X.N[j]? =aA y:=by rfl) (YV:X3 X.env.scope y:=by first|exact Or.inl rfl|exact gv (Or.inl rfl)|exact gv (gv rfl)) (XB:(y==("__debug__":Str))=aD:=by decide) (SO:(y==("__classdict__":Str))=aD:=by decide)
  (m:M2 X (.Name x px) "setdefault" WS k (.List [] p2) cp1:=by exact⟨rfl,rfl,rfl,rfl⟩)
  (ZN:attributeBase (.Call (.Attribute (.Name x px) "setdefault" WS) [k,.List [] p2] [] cp1) "append" X.env (gg (.Call (.Attribute (.Name x px) "setdefault" WS) [k,.List [] p2] [] cp1) X.env)=gg (.Call (.Attribute (.Name x px) "setdefault" WS) [k,.List [] p2] [] cp1) X.env:=by rfl)
  (YA:((gb ZC (az [.Name y py] X.env)).all (λx=>!x.1)&&(backToKw ZC (keywordEach [] X.env)).all (λx=>x.1.isSome)&&decide ([Expr.Name y py].length+([]:List Keyword).length+(if([]:List Keyword).isEmpty then 0 else 1)<30))=aC:=by rfl)
  (ZM:(ZF.endLine==ZC.line)=aC:=by rfl) (hs:az [.Name y py] X.env=(aD,gg (.Name y py) X.env)::az [] X.env:=by rfl) (ZO:(gb ZC (az [] X.env)).any (·.1)=aD:=by rfl) (XQ:swapsWith (.Call (.Attribute (.Call (.Attribute (.Name x px) "setdefault" WS) [k,.List [] p2] [] cp1) "append" ZF) [.Name y py] [] ZC) aB pos.line X.env=pure aD:=by rfl):
  PS X (.Expr (.Call (.Attribute (.Call (.Attribute (.Name x px) "setdefault" WS) [k,.List [] p2] [] cp1) "append" ZF) [.Name y py] [] ZC) pos) (Z2 Z (Ml i fk j aD)):=
 (B5 (Iq PySem.F.plainAttrs_list PySem.F.slot_list_append PySem.F.type_list_append B6 (Dm (by omega) (Up (i:=i) hN hv hd YD) hk (Vc Jl) m) (W5 (Up (i:=j) JU YV XB SO) Jl hs) ZN YA ZM hs ZO) XQ).imp λ_ _ _ h=>Dq (ext:=aD) h
theorem tG(i j:Nat){x y:Str}{k:cw}{fk:FE}{px py p2 WS cp1 ZF ZC:Pos}(hu:X.A.units+64<fj)(hk:PE X k (Zf Z fk))(hN:X.N[i]? =aA x:=by rfl)(hv:X3 X.env.scope x:=by first|exact Or.inl rfl|exact gv (Or.inl rfl)|exact gv (gv rfl))(hd:(x==("__debug__":Str))=aD:=by decide)(YD:(x==("__classdict__":Str))=aD:=by decide)
  (JU:X.N[j]? =aA y:=by rfl) (YV:X3 X.env.scope y:=by first|exact Or.inl rfl|exact gv (Or.inl rfl)|exact gv (gv rfl)) (XB:(y==("__debug__":Str))=aD:=by decide) (SO:(y==("__classdict__":Str))=aD:=by decide)
  (m:M2 X (.Name x px) "setdefault" WS k (.List [] p2) cp1:=by exact⟨rfl,rfl,rfl,rfl⟩)
  (ZN:attributeBase (.Call (.Attribute (.Name x px) "setdefault" WS) [k,.List [] p2] [] cp1) "extend" X.env (gg (.Call (.Attribute (.Name x px) "setdefault" WS) [k,.List [] p2] [] cp1) X.env)=gg (.Call (.Attribute (.Name x px) "setdefault" WS) [k,.List [] p2] [] cp1) X.env:=by rfl)
  (YA:((gb ZC (az [.Name y py] X.env)).all (λx=>!x.1)&&(backToKw ZC (keywordEach [] X.env)).all (λx=>x.1.isSome)&&decide ([Expr.Name y py].length+([]:List Keyword).length+(if([]:List Keyword).isEmpty then 0 else 1)<30))=aC:=by rfl)
  (ZM:(ZF.endLine==ZC.line)=aC:=by rfl) (hs:az [.Name y py] X.env=(aD,gg (.Name y py) X.env)::az [] X.env:=by rfl) (ZO:(gb ZC (az [] X.env)).any (·.1)=aD:=by rfl) (XQ:swapsWith (.Call (.Attribute (.Call (.Attribute (.Name x px) "setdefault" WS) [k,.List [] p2] [] cp1) "extend" ZF) [.Name y py] [] ZC) aB pos.line X.env=pure aD:=by rfl):
  PS X (.Expr (.Call (.Attribute (.Call (.Attribute (.Name x px) "setdefault" WS) [k,.List [] p2] [] cp1) "extend" ZF) [.Name y py] [] ZC) pos) (Z2 Z (Ml i fk j aC)):=
 (B5 (Iq PySem.F.plainAttrs_list PySem.F.slot_list_extend PySem.F.type_list_extend Dp (Dm (by omega) (Up (i:=i) hN hv hd YD) hk (Vc Jl) m) (W5 (Up (i:=j) JU YV XB SO) Jl hs) ZN YA ZM hs ZO) XQ).imp λ_ _ _ h=>Dq (ext:=aC) h
end
end
section
open PySem.Calls
def wP:V->V->Hp->VK->Prop:=λx y H Q=>∃a b kvs ep bs k v,x= .ref a/\y= .ref b/\H a=aA (.dN kvs ep bs)/\Qs H k b/\Qp kvs k=aA v/\Q v H
noncomputable def Itn(a:aq)(n ep:Nat):It:=
 ⟨λi H=>∃kvs bs,H a=aA (.dN kvs ep bs)/\kvs.length=n/\i<n,λi H x H'=>H'=H/\∃kvs bs b,H a=aA (.dN kvs ep bs)/\bs[i]? =aA b/\x= .ref b,λi H=>∃kvs bs,H a=aA (.dN kvs ep bs)/\kvs.length=n/\n<=i⟩
theorem tF{P:cg}{w:c8}{K:ad}{tg:cw}(a it:aq)(n ep:Nat):Turn P w K tg (Itn a n ep) [it] it (λi h=>h.IsKeyIter it a i n ep)where
 mem:=ac
 obj:=(Ls (P:=P) (w:=w) (K:=K) (tg:=tg) a it n ep).obj
 keep:=(Ls (P:=P) (w:=w) (K:=K) (tg:=tg) a it n ep).keep
 item:=by
  intro X hP hw hK hc i n_ s σ H E I hf st hg;subst hP hw hK;obtain⟨kvs,bs,hq,hn,hi⟩:=hg;obtain⟨z,hd,xs,ZP,od,es,g,x,c,en,nd,UK⟩:=(show Yc X.prog X.w H s.heap a (.dN kvs ep bs)from I.hok a _ hq)
  obtain⟨f0,f1,f2,f3,f4,f5⟩:=hf it ac;have RE:kvs[i]? =aA (kvs[i]'(by omega)):=au (by omega);obtain⟨vv,hv,hr⟩:=B9 ZP RE;have hz:es.size=n:=by rw[<-bf,en,ah,<-Paired.length ZP,hn]
  have he:es[i]? =aA (entryOfKey (Ie X.prog X.w) vv):=by rw[<-c7,en,bg,hv];rfl
  refine Aa st g c hz he λh' YM sb=>?_;have I1:mE X n_ σ H {s with heap:=h'}:=I.turned (t':=s.toks) (λb o hb e=>(sb.2 b hb).trans e) f0 f1 f3 f4 f5;obtain⟨o,e1,c1,d1⟩:=id YM;exact⟨.ref vv.2.1,rfl,Ii (s:={s with heap:=h'}) e1 c1 d1 (by decide) ⟨.ref vv.2.1,H,I1,rfl,⟨rfl,kvs,bs,vv.2.1,hq,by rw[<-UK,bg,hv];rfl,rfl⟩,YM,λb hb=>(hf b hb).1⟩⟩
 done:=by
  intro X hP hw hK hc i n_ s σ H E I hf st hg;subst hP hw hK;obtain⟨kvs,bs,hq,hn,hi⟩:=hg;obtain⟨z,hd,xs,ZP,od,es,g,x,c,en,nd,UK⟩:=(show Yc X.prog X.w H s.heap a (.dN kvs ep bs)from I.hok a _ hq)
  obtain⟨f0,f1,f2,f3,f4,f5⟩:=hf it ac;have hz:es.size=n:=by rw[<-bf,en,ah,<-Paired.length ZP,hn]
  exact Ab (I.ok.hd hc) st g c hz hi λh' eb=>⟨rfl,I.turned (t':=s.toks) (λb o hb e=>eb b o hb e) f0 f1 f3 f4 f5⟩
 self:=(Ls (P:=P) (w:=w) (K:=K) (tg:=tg) a it n ep).self
section
variable{X:Cx}{tg:cw}
def DZ(tl:TE):TI:=λσ H R=>tl σ H λx H1=>∃a kvs ep bs,x= .ref a/\H1 a=aA (.dN kvs ep bs)/\R (Itn a kvs.length ep) H1
theorem tD{l:cw}{tl:TE}(hl:PE X l tl):PI X tg l (DZ tl):=by
 intro n_ s σ H R I h;refine Wl (hl n_ s σ H _ I h) λv s1 ZG=>?_;obtain⟨x,H1,I1,r1,q1⟩:=ZG;obtain⟨a,kvs,ep,bs,rfl,hq,q⟩:=q1;cases r1;obtain⟨z,hd,xs,ZP,od,es,g,x,c,en,nd,UK⟩:=(show Yc X.prog X.w H1 s1.heap a (.dN kvs ep bs)from I1.hok a _ hq)
 have hz:es.size=kvs.length:=by rw[<-bf,en,ah,<-Paired.length ZP]
 refine Pz hd g x c ⟨s1.heap.objs.size,[s1.heap.objs.size],_,_,H1,rfl,I1.kept (t':=s1.toks) λb o e=>ar _ e,tF a _ kvs.length ep,⟨_,bo _ rfl,rfl,by rw[hz];rfl⟩,λb hb=>?_,q⟩;obtain rfl:=ak.mp hb;exact I1.fpOk (bc _) (I1.hok.fresh (bc _))
end
end
section
variable{K:ad}
theorem pZ{F:Hp}{a:aq}{kvs:List (Zm×V)}{ep:Nat}{bs:List aq}(h:F a=aA (.dN kvs ep bs))(kb:KN F kvs bs):Be K (Itn a kvs.length ep) F ((kvs.map (·.1)).map nkD):=λF' H sF sH i=>by have q:H a=aA (.dN kvs ep bs):=sH _ _ (sF _ _ h);refine⟨λd hd=>?_,λhl=>⟨kvs,bs,q,rfl,by simpa using hl⟩⟩;rw[cu,bg]at hd;obtain⟨kv,h1,h2⟩:=cq.mp hd;refine⟨⟨kvs,bs,q,rfl,(aw.mp h1).1⟩,λx H' ⟨e1,kvs',bs',b,e2,e3,e4⟩=>?_⟩;subst e1;rw[q]at e2;cases e2;subst e4;obtain⟨b',g1,g2⟩:=B9 (kb.mono sF) h1;rw[e3]at g1;cases g1;rw[<-h2];exact⟨Zi.refl _,[],cx,λ_ h=>(nomatch h),Bj g2⟩
theorem Yb.dX{F H:Hp}{ks:List Zm}{ds:List D}{v:V}(le:Zi F H)(h:Yb K F H (.dX ks ds) v):∃a kvs ep bs,v= .ref a/\H a=aA (.dN kvs ep bs)/\kvs.map (·.1)=ks/\mD K F ds (kvs.map (·.2)):=by
 obtain⟨sv,ns,e,n,sh,hp⟩:=h;cases sh with
 |fz r=>cases e;cases r with|dX h kb e r=>exact⟨_,_,_,_,rfl,le _ _ h,e,r⟩
 |ol r=>cases e
 |oK e' r=>cases e
 |oT kb e' r=>cases e
 |oN e' r=>cases n
 |oR e' r=>cases n
 |oX kb' e' r=>cases n
 |oD r=>cases n
 |oM kb' e' r=>cases n
 |oL _ r=>cases n
 |oQ e' r=>cases e
theorem Yb.nk{F H:Hp}{d:D}{k:Zm}{v:V}(le:Zi F H)(e0:nk? d=aA k)(h:Yb K F H d v):∃b,v= .ref b/\Qs H k b:=by
 rw[HQ e0]at h;obtain⟨sv,ns,e,n,sh,hp⟩:=h;have nt:∀{xs:List D},nkD k≠.lst xs:=fun{xs} z=>by cases k<;> cases z
 have nd:∀{ks:List Key} {xs:List D},nkD k≠.dK ks xs:=fun{ks xs} z=>by cases k<;> cases z
 have zj:∀{ks:List (List Key)} {xs:List D},nkD k≠.dT ks xs:=fun{ks xs} z=>by cases k<;> cases z
 cases sh with
 |fz r=>have e:_=nkD k:=e;simp only[SV.toD]at e;subst e;obtain⟨b,rfl,hb⟩:=G0 r;exact⟨b,rfl,hb.mono λ_ _ q=>le _ _ q⟩
 |ol r=>exact m_ e.symm nt
 |oK e' r=>exact m_ e.symm nd
 |oT kb e' r=>exact m_ e.symm zj
 |oN e' r=>cases n
 |oR e' r=>cases n
 |oX kb' e' r=>cases n
 |oD r=>cases n
 |oM kb' e' r=>cases n
 |oL _ r=>cases n
 |oQ e' r=>exact m_ e.symm nd
section
variable{Z:mF K}{H:Hp}{σ:L2.St}{Q:VK}{E:Ends}
@[simp]def HC(fe:FE):FD:=λδ=>(fe δ).bind λp=>(frz p.1 p.2).bind λq=>match q.1 with
 | .dX ks _=>aA (ks.map nkD,q.2)
 |_=>aB
theorem u_{fe:FE}{R:It->Hp->Prop}(h:Qg Z (HC fe) σ H R):DZ (Zf Z fe) σ H R:=by
 obtain⟨F,δ,own,ds,δ',s,e,k⟩:=h;obtain⟨⟨rv,δ1⟩,e1,e2⟩:=aa.mp e;obtain⟨⟨d,δ2⟩,e3,e4⟩:=aa.mp e2;refine⟨F,δ,own,rv,δ1,s,e1,λv H1 F1 ZB sH sF s1 r1=>?_⟩;obtain⟨F2,ZH,s2,r2⟩:=s1.settleR r1;obtain⟨F3,ZI,ZT,s3,r3⟩:=s2.frzR r2 e3;dsimp only at e4;split at e4
 .cases e4;cases r3 with
  |dX h kb e r=>subst e;exact⟨_,_,_,_,rfl,s3.le _ _ h,k _ H1 F3 ZI sH (sF.trans (ZH.trans ZT)) s3 (pZ h kb)⟩
 .cases e4
@[simp]def OA(d1 d2:D):Option SV:=match d1 with
 | .dX ks vs=>(nk? d2).bind λk=>(look ks vs k).bind λd=>aA (.fz d)
 |_=>aB
theorem xu:Y6 Z wP OA:=by
 intro F H σ δ own x y d1 d2 sv Q s r1 r2 e k;unfold OA at e;split at e
 .rename_i ks vs;obtain⟨kk,e1,e2⟩:=aa.mp e;obtain⟨d,e3,e4⟩:=aa.mp e2;cases e4;obtain⟨a,kvs,ep,bs,rfl,ha,rfl,rr⟩:=r1.dX s.le;obtain⟨b,rfl,hb⟩:=r2.nk s.le e1;have z:=M0 kk kvs _ rr;rw[e3]at z;obtain⟨v,z1,z2⟩:=z;exact⟨a,b,kvs,ep,bs,kk,v,rfl,rfl,ha,hb,z1,k.fz s z2⟩
 .cases e
@[simp]def Si(i:Nat)(fe:FE):FS:=λδ=>match δ[i]? with
 |some (aA (.ol _))=>(fe δ).bind λp=>(frz p.1 p.2).bind λq=>match q.1,q.2[i]? with
  | .lst ys,aA (aA (.ol xs))=>if xs.length+ys.length<=cj then aA (.nx (q.2.set i (aA (.ol (xs++ys)))))else aB
  | .lso ys,aA (aA (.ol xs))=>if xs.length+ys.length<=cj then aA (.nx (q.2.set i (aA (.ol (xs++ys)))))else aB
  |_,_=>aB
 |_=>aB
theorem vY{i:Nat}{fe:FE}(h:Z2 Z (Si i fe) E σ H):Gh (tBM K "list" (Dn K) (Uo i) (Oz (Zf Z fe) Tk)) E σ H:=by
 obtain⟨F,δ,own,fl,s,e,k⟩:=h;unfold Si at e;split at e
 .rename_i xs0 UW;obtain⟨⟨rv,δ1⟩,e1,e2⟩:=aa.mp e;obtain⟨⟨d,δ2⟩,e3,e4⟩:=aa.mp e2;obtain⟨v,hv,sh⟩:=s.at' i _ UW;obtain⟨a,UR,ev,en,r0⟩:=Q7 sh;refine⟨v,hv,?_,F,δ,own,rv,δ1,s,e1,λy H1 F1 ZB sH sF s1 r1=>?_⟩
  .subst ev;exact .inl ⟨rfl,UR,.inl (.inl (s.ok i (a,.lst UR) (by rw[en];exact ac)).2.2)⟩
  obtain⟨F2,ZH,s2,r2⟩:=s1.settleR r1;obtain⟨F3,ZI,ZT,s3,r3⟩:=s2.frzR r2 e3;dsimp only at e4;split at e4
  .rename_i ys xs hx;by_cases hz:xs.length+ys.length<=cj
   .rw[m6 hz]at e4;cases e4;obtain⟨v',YV,WZ⟩:=s3.at' i _ hx;rw[hv]at YV;cases YV;obtain⟨b,vs,eb,UM,r'⟩:=Q7 WZ;have mb:(b,HO.lst vs)∈ZI i:=by rw[UM];exact ac
    subst eb;cases r3 with
    | @lst l _ us hl _ ru=>refine⟨b,l,vs,us,rfl,rfl,(s3.ok i _ mb).2.2,Yg s3.le hl,by rw[<-r'.length,<-ru.length];exact hz,?_⟩;exact k σ _ F3 _ (sF.trans (ZH.trans ZT)) (s3.change (sv':=.ol (xs++ys)) (o':=.lst (vs++us)) (ns':=[(b,.lst (vs++us))]) hx hv mb (.ol (r'.append ru)) (λp hp=>.inl (ak.mp hp)) Ev)
   .rw[m4 hz]at e4;cases e4
  .rename_i ys xs hx;by_cases hz:xs.length+ys.length<=cj
   .rw[m6 hz]at e4;cases e4;obtain⟨v',YV,WZ⟩:=s3.at' i _ hx;rw[hv]at YV;cases YV;obtain⟨b,vs,eb,UM,r'⟩:=Q7 WZ;have mb:(b,HO.lst vs)∈ZI i:=by rw[UM];exact ac
    subst eb;cases r3 with
    | @lso l _ us hl ru=>refine⟨b,l,vs,us,rfl,rfl,(s3.ok i _ mb).2.2,Yg s3.le hl.sq,by rw[<-r'.length,<-ru.length];exact hz,?_⟩;exact k σ _ F3 _ (sF.trans (ZH.trans ZT)) (s3.change (sv':=.ol (xs++ys)) (o':=.lst (vs++us)) (ns':=[(b,.lst (vs++us))]) hx hv mb (.ol (r'.append ru)) (λp hp=>.inl (ak.mp hp)) Ev)
   .rw[m4 hz]at e4;cases e4
  .cases e4
 .cases e
@[simp]def L9(j ia il:Nat):FS:=λδ=>match δ[ia]?,δ[il]? with
 |some (aA (.fz (.lst hs))),aA (aA (.ol xs))=>(xs[xs.length- 1]?).bind λd=>(ixD (.lst hs) d).bind λsv=>(stow j (.tmp sv) (δ.set il (aA (.ol xs.dropLast)))).bind λδ'=>aA (.nx δ')
 |_,_=>aB
theorem mD.dropLast{F:Hp}{ds:List D}{vs:List V}(r:mD K F ds vs):mD K F ds.dropLast vs.dropLast:=by rw[List.dropLast_eq_take,List.dropLast_eq_take,<-r.length];exact r.take _
theorem u9{j ia il:Nat}(h:Z2 Z (L9 j ia il) E σ H):Ku (Va (rIx K) (Uo ia) (MQ K "list" DN (Uo il))) (W9 j) E σ H:=by
 obtain⟨F,δ,own,fl,s,e,k⟩:=h;unfold L9 at e;split at e
 .rename_i hs xs VI SM;obtain⟨d,e1,e⟩:=aa.mp e;obtain⟨sv,e2,e⟩:=aa.mp e;obtain⟨δ2,e3,e⟩:=aa.mp e;cases e;obtain⟨x,hx,zQ⟩:=s.at' ia _ VI;have rx:=Q6 zQ;obtain⟨y,hy,MZ⟩:=s.at' il _ SM;obtain⟨a,vs,ea,en,ra⟩:=Q7 MZ;subst ea;have mb:(a,HO.lst vs)∈own il:=by rw[en];exact ac
  have hHa:=(s.ok il _ mb).2.2;obtain⟨v,hv,rv⟩:=ra.get e1;have hl:=ra.length;refine⟨x,hx,.ref a,hy,.inl ⟨rfl,vs,.inl (.inl hHa)⟩,a,vs,v,rfl,rfl,hHa,by rw[<-hl];exact hv,?_⟩;have s2:=s.change (sv':=.ol xs.dropLast) (o':=.lst vs.dropLast) (ns':=[(a,.lst vs.dropLast)]) SM hy mb (.ol ra.dropLast) (λp hp=>.inl (ak.mp hp)) Ev;refine DE F _ σ _ _ x v (.lst hs) d sv _ s2 (Yb.of rx) (Yb.of rv) e2 λw H3 F3 ns sH sF s3 t3=>?_;obtain⟨F4,YF,YO,s4⟩:=s3.stow (rv:=.tmp sv) (v:=w) ⟨ns,t3⟩ e3;exact k _ H3 F4 YF (sF.trans YO) s4
 .cases e
@[simp]def Ds(j:Nat)(f1:FE):FE:=λδ=>match δ[j]? with
 |some (aA (.fz kd))=>kd.key?.bind λk=>(Za f1 Zd δ).bind λp=>match p.1 with
  | [v1]=>aA (.tmp (.oK [k] [v1]),p.2)
  |_=>aB
 |_=>aB
theorem u8{f1:FE}{j:Nat}(h:Zf Z (Ds j f1) σ H Q):B_ [(Uo j,Zf Z f1)] σ H Q:=by
 obtain⟨F,δ,own,rv,δ',s,e,k⟩:=h;unfold Ds at e;split at e
 .rename_i kd hx;obtain⟨kk,e0,e⟩:=aa.mp e;obtain⟨⟨ds,δ1⟩,e1,e2⟩:=aa.mp e;dsimp only at e2;split at e2
  .rename_i v1;cases e2;obtain⟨v,hv,sh⟩:=s.at' j _ hx;have r:=Q6 sh;have ev:v=kV kk:=Hl e0 r;have hd:Y3 Z (Za f1 Zd) σ H (λvs H'=>∃kvs:List (Key×V),([kV kk].zip vs)=kvs.map (λkv=>(kV kv.1,kv.2))/\kvs.length<=15/\∀p ep,H' p=aB->Q (.ref p) (Yo H' p (.dK (Oa [] kvs) ep))):=by
    refine⟨F,δ,own,[v1],_,s,e1,λvs H1 F1 ZB sH sF s1 r1=>?_⟩;obtain⟨w1,rfl⟩:∃w1,vs=[w1]:=by
     cases r1 with
     |cons h t=>cases t;exact⟨_,rfl⟩
    refine⟨[(kk,w1)],rfl,by show 1<=15;decide,λp ep hp=>?_⟩;have nd:((([]:List (Key×V))++[(kk,w1)]).map (·.1)).Nodup:=by simp
    rw[Fc _ [] nd,d3];exact Fin.one (λw H' F' ns a b c t=>k w H' F' ZB (sH.trans a) (sF.trans b) c ⟨ns,t⟩) s1 (.oK rfl r1) hp
   have h2:=Tx (fe:=f1) (fd:=Zd) hd;refine⟨v,hv,?_⟩;rw[ev];refine V3 (λu H1 q=>?_) h2;have z:=Iy q;exact z
  .cases e2
 .cases e
end
section
variable{X:Cx}{Z:mF X.K}{a b c:cw}{fa fb fc:FE}{pos:Pos}
theorem vX{tg:cw}(ha:PE X a (Zf Z fa)):PI X tg a (Qg Z (HC fa)):=λn_ s σ H R I h=>tD ha n_ s σ H R I (u_ h)
theorem DY(hu:X.A.units+64<fj)(ha:PE X a (Zf Z fa))(hb:PE X b (Zf Z fb))(hs:Kx b:=by intro _ _;rfl):PE X (.Subscript a b pos) (Zf Z (Zj OA fa fb)):=λn_ s σ H Q I h=>tK (by omega) ha hb hs n_ s σ H Q I (Ix xu h)
theorem BQ(i:Nat){x:Str}{px ZF ZC:Pos}(hb:PE X b (Zf Z fb))(hN:X.N[i]? =aA x:=by rfl)(hv:X3 X.env.scope x:=by first|exact Or.inl rfl|exact gv (Or.inl rfl)|exact gv (gv rfl))(hd:(x==("__debug__":Str))=aD:=by decide)
  (YD:(x==("__classdict__":Str))=aD:=by decide) (ZN:attributeBase (.Name x px) "extend" X.env (gg (.Name x px) X.env)=gg (.Name x px) X.env:=by rfl)
  (YA:((gb ZC (az [b] X.env)).all (λx=>!x.1)&&(backToKw ZC (keywordEach [] X.env)).all (λx=>x.1.isSome)&&decide ([b].length+([]:List Keyword).length+(if([]:List Keyword).isEmpty then 0 else 1)<30))=aC:=by rfl)
  (ZM:(ZF.endLine==ZC.line)=aC:=by rfl) (hs:az [b] X.env=(aD,gg b X.env)::az [] X.env:=by rfl) (ZO:(gb ZC (az [] X.env)).any (·.1)=aD:=by rfl) (XQ:swapsWith (.Call (.Attribute (.Name x px) "extend" ZF) [b] [] ZC) aB pos.line X.env=pure aD:=by rfl):
  PS X (.Expr (.Call (.Attribute (.Name x px) "extend" ZF) [b] [] ZC) pos) (Z2 Z (Si i fb)):=
 (B5 (Iq PySem.F.plainAttrs_list PySem.F.slot_list_extend PySem.F.type_list_extend Dp (Up (i:=i) hN hv hd YD) (W5 hb Jl hs) ZN YA ZM hs ZO) XQ).imp λ_ _ _ h=>vY h
theorem u7(j ia il:Nat){x y z:Str}{py pz ZF ZC p1 p2:Pos}(hn:X.N.Nodup)(hy:PE X (.Name y py) (Uo ia))(hz:PE X (.Name z pz) (Uo il))(hj:X.N[j]? =aA x:=by rfl)(hl:Loc X.env.scope x:=by first|exact Or.inl rfl|exact gv rfl)
  (ZN:attributeBase (.Name z pz) "pop" X.env (gg (.Name z pz) X.env)=gg (.Name z pz) X.env:=by rfl) (ZM:(ZF.endLine==ZC.line)=aC:=by rfl)
  (hs:swapsWith (.Subscript (.Name y py) (.Call (.Attribute (.Name z pz) "pop" ZF) [] [] ZC) p2) (aA (.Name x p1)) pos.line X.env=pure aD:=by rfl) (hf:X.fn x=aC\/X.env.scope.names.lookup x=aA .local:=by first|exact .inl rfl|exact .inr rfl):
  PS X (.Assign [.Name x p1] (.Subscript (.Name y py) (.Call (.Attribute (.Name z pz) "pop" ZF) [] [] ZC) p2) pos) (Z2 Z (L9 j ia il)):=
 (S6 hn hj hl (GD Vh hy (AO PySem.F.plainAttrs_list PySem.F.slot_list_pop PySem.F.type_list_pop uL hz ZN ZM) (by intro _ _;rfl)) hs hf).imp λ_ _ _ h=>u9 h
theorem u6(j:Nat){x:Str}{p2:Pos}(hb:PE X b (Zf Z fb))(hN:X.N[j]? =aA x:=by rfl)(hv:X3 X.env.scope x:=by first|exact Or.inl rfl|exact gv (Or.inl rfl)|exact gv (gv rfl))(hd:(x==("__debug__":Str))=aD:=by decide)
  (YD:(x==("__classdict__":Str))=aD:=by decide):PE X (.Dict [aA (.Name x p2)] [b] pos) (Zf Z (Ds j fb)):=
 (qN (qv (Up (i:=j) hN hv hd YD) hb sS) (by rfl) (by rfl) (by simp) (by show 1<=15;decide)).imp λ_ _ _ h=>u8 h
end
end
section
open PySem.Calls
end
section
open PySem.Calls
variable{K:ad}
end
section
variable{K:ad}
end
section
variable{K:ad}
abbrev NTs(H:Hp)(bs:List aq)(ks:List Zm):Prop:=Paired (λ(b:aq) (k:Zm)=>Qs H k b) bs ks
open Classical in
def E6(H:Hp)(k:Zm):aj->Bool:=λw=>decide (∃b,w= .ref b/\Qs H k b)
theorem Dt{a b:List Str}(h:(Wp a).map kV=(Wp b).map kV):a=b:=by
 have e:∀l:List Str,(Wp l).map kV=l.map V.str:=λl=>by unfold Wp;rw[cu];rfl
 rw[e,e]at h;exact P3 h
theorem rf{H:Hp}{k k':Zm}{b:aq}(h:Qs H k b)(h':Qs H k' b):k=k':=by
 cases k with
 |inl l=>
  cases k' with
  |inl l'=>have e:=HO.tup.inj (cy.inj ((show H b=_ from h).symm.trans h'));rw[Dt e]
  |inr p=>
   obtain⟨c,h1,h2⟩:=h';have e:=HO.tup.inj (cy.inj ((show H b=_ from h).symm.trans h1));cases l with
   |nil=>simp[Wp]at e
   |cons x l=>simp[Wp,kV]at e
 |inr p=>
  obtain⟨c,h1,h2⟩:=h;cases k' with
  |inl l'=>
   have e:=HO.tup.inj (cy.inj (h1.symm.trans (show H b=_ from h')));cases l' with
   |nil=>simp[Wp]at e
   |cons x l=>simp[Wp,kV]at e
  |inr p'=>obtain⟨c',PU,WR⟩:=h';have e:=HO.tup.inj (cy.inj (h1.symm.trans PU));simp at e;obtain⟨e1,e2⟩:=e;subst e2;have e3:=HO.tup.inj (cy.inj (h2.symm.trans WR));obtain⟨n,l⟩:=p;obtain⟨n',l'⟩:=p';rw[show n=n' from e1,show l=l' from Dt e3]
theorem Sj{H:Hp}{k k':Zm}{b:aq}(h:Qs H k' b):E6 H k (.ref b)=decide (k'=k):=by
 unfold E6;by_cases e:k'=k
 .subst e;rw[m8 rfl];exact @m8 _ (Classical.propDecidable _) ⟨b,rfl,h⟩
 .rw[m7 e];exact @m7 _ (Classical.propDecidable _) λ⟨b',z,q⟩=>by cases z;exact e (rf h q)
theorem Ar{H:Hp}{k:Zm}:∀{bs:List aq} {ks:List Zm},NTs H bs ks->(bs.map b8).any (E6 H k)=ks.any λx=>decide (x=k)
 |_,_,.nil=>rfl
 |c::bs,x::ks,.cons h t=>by rw[bm,List.any_cons,List.any_cons,Sj h,Ar t]
def MD(K:ad)(TW:Bool):R2:=λx y H Q=>∃b k a bs ks,x= .ref b/\Qs H k b/\y= .ref a/\J3 K H a (bs.map V.ref)/\NTs H bs ks/\(∀k'∈ks,Wm 48 (nkD k') (nkD k)=aA (decide (k'=k)))/\Q (.bl (if TW then !(ks.any λx=>decide (x=k))else ks.any λx=>decide (x=k))) H
section
variable{X:Cx}{n_:List (aq×Obj)}{σ:L2.St}{H:Hp}{s:ao}
theorem As(I:mE X n_ σ H s){A:dh}(hu:A.units+48<fj){b:aq}{k:Zm}(hb:Qs H k b):∀{bs:List aq} {ks:List Zm},NTs H bs ks->(∀k'∈ks,Wm 48 (nkD k') (nkD k)=aA (decide (k'=k)))->∀u∈bs.map b8,SeqAt.EqAt A s u (.ref b) (E6 H k u)
 |_,_,.nil,_,u,hm=>nomatch hm
 |c::bs,x::ks,.cons h t,hq,u,hm=>by
  rw[bm]at hm;rcases ay.mp hm with z|z
  .subst z;rw[Sj h];exact Rt I (Zi.refl H) 48 A (nkD x) (nkD k) _ (.ref c) (.ref b) _ _ hu (Bj h) rfl (Bj hb) rfl (hq x ac)
  .exact As I hu hb t (λk' hk=>hq k' (am _ hk)) u z
theorem vW(hu:X.A.units+64<fj):O9 X (compareOp .In) (MD X.K aD):=by intro n_ s σ H x y v u Q I rx ry h;obtain⟨b,k,a,bs,ks,rfl,hb,rfl,hq,ht,he,q⟩:=h;cases rx;cases ry;obtain⟨mC,r,pl,hz⟩:=I.list hq;have ei:=Lc r;subst ei;refine SeqAt.in_listAt (E6 H k) pl.isList (λw hw=>As I (by have:X.A.in1.units=X.A.units+1:=rfl;omega) hb ht he w (by simpa using hw)) ⟨.bl _,H,I,rfl,?_⟩;rw[show(bs.map b8).toArray.any (E6 H k)=(bs.map b8).any (E6 H k) by simp,Ar ht];exact q
theorem pY(hu:X.A.units+64<fj):O9 X (compareOp .NotIn) (MD X.K aC):=by intro n_ s σ H x y v u Q I rx ry h;obtain⟨b,k,a,bs,ks,rfl,hb,rfl,hq,ht,he,q⟩:=h;cases rx;cases ry;obtain⟨mC,r,pl,hz⟩:=I.list hq;have ei:=Lc r;subst ei;refine SeqAt.notIn_listAt (E6 H k) pl.isList (λw hw=>As I (by have:X.A.in1.units=X.A.units+1:=rfl;omega) hb ht he w (by simpa using hw)) ⟨.bl _,H,I,rfl,?_⟩;rw[show(bs.map b8).toArray.any (E6 H k)=(bs.map b8).any (E6 H k) by simp,Ar ht];exact q
end
open Classical in
def inN(d1 d2:D):Option SV:=match d2 with
 | .lst xs=>(nk? d1).bind λk=>(nks? xs).bind λks=>if(∀k'∈ks,Wm 48 (nkD k') (nkD k)=aA (decide (k'=k)))then aA (.fz (.bl (ks.any λx=>decide (x=k))))else aB
 |_=>aB
open Classical in
def Om(d1 d2:D):Option SV:=match d2 with
 | .lst xs=>(nk? d1).bind λk=>(nks? xs).bind λks=>if(∀k'∈ks,Wm 48 (nkD k') (nkD k)=aA (decide (k'=k)))then aA (.fz (.bl (!(ks.any λx=>decide (x=k)))))else aB
 |_=>aB
theorem vV{k:Zm}{ks:List Zm}(h:∀k'∈ks,Wm 48 (nkD k') (nkD k)=aA (decide (k'=k))):inN (nkD k) (.lst (ks.map nkD))=aA (.fz (.bl (ks.any λx=>decide (x=k)))):=by unfold inN;dsimp only;rw[Ol];dsimp only[da];rw[M4];dsimp only[da];rw[m6 h]
theorem pX{k:Zm}{ks:List Zm}(h:∀k'∈ks,Wm 48 (nkD k') (nkD k)=aA (decide (k'=k))):Om (nkD k) (.lst (ks.map nkD))=aA (.fz (.bl (!(ks.any λx=>decide (x=k))))):=by unfold Om;dsimp only;rw[Ol];dsimp only[da];rw[M4];dsimp only[da];rw[m6 h]
theorem Xg{F:Hp}:∀{ks:List Zm} {vs:List V},mD K F (ks.map nkD) vs->∃bs,vs=bs.map V.ref/\NTs F bs ks
 | [],_,h=>by cases h;exact⟨[],rfl,.nil⟩
 |k::ks,_,h=>by
  cases h with
  |cons h t=>obtain⟨b,rfl,hb⟩:=G0 h;obtain⟨bs,rfl,UK⟩:=Xg t;exact⟨b::bs,rfl,.cons hb UK⟩
section
variable{Z:mF K}
theorem xr:Y6 Z (MD K aD) inN:=by
 intro F H σ δ own x y d1 d2 sv Q s r1 r2 e k;unfold inN at e;split at e
 .obtain⟨kk,e1,e⟩:=aa.mp e;obtain⟨ks,e2,e⟩:=aa.mp e;split at e
  .rename_i hq;cases e;obtain⟨b,rfl,hb⟩:=r1.nk s.le e1;obtain⟨a,us,rfl,hs,ru⟩:=r2.lst s.le;rw[L8 e2]at ru;obtain⟨bs,rfl,tb⟩:=Xg ru;exact⟨b,kk,a,bs,ks,rfl,hb,rfl,hs,Paired.mapP tb λ_ _ z=>z.mono λ_ _ w=>s.le _ _ w,hq,k.fz s (.bl _)⟩
  .cases e
 .cases e
theorem rZ:Y6 Z (MD K aC) Om:=by
 intro F H σ δ own x y d1 d2 sv Q s r1 r2 e k;unfold Om at e;split at e
 .obtain⟨kk,e1,e⟩:=aa.mp e;obtain⟨ks,e2,e⟩:=aa.mp e;split at e
  .rename_i hq;cases e;obtain⟨b,rfl,hb⟩:=r1.nk s.le e1;obtain⟨a,us,rfl,hs,ru⟩:=r2.lst s.le;rw[L8 e2]at ru;obtain⟨bs,rfl,tb⟩:=Xg ru;exact⟨b,kk,a,bs,ks,rfl,hb,rfl,hs,Paired.mapP tb λ_ _ z=>z.mono λ_ _ w=>s.le _ _ w,hq,k.fz s (.bl _)⟩
  .cases e
 .cases e
end
end
end L2
namespace RV
end RV
namespace L2
section
open RV
end
section
variable{K:ad}{Z:mF K}{σ:L2.St}{H:Hp}
section
variable{X:Cx}{Z:mF X.K}{a b c:cw}{fa fb fc:FE}{pos:Pos}
theorem DX(hv:X.A.units+64<fj)(ha:PE X a (Zf Z fa))(hb:PE X b (Zf Z fb))(hm:behindInMarks .In b=aD:=by rfl):PT X (.Compare a [.In] [b] pos) (Yh Z (Yf (Zj inN fa fb))):=T3 (vW hv) xr ha hb hm
theorem Au(hv:X.A.units+64<fj)(ha:PE X a (Zf Z fa))(hb:PE X b (Zf Z fb))(hm:behindInMarks .NotIn b=aD:=by rfl):PT X (.Compare a [.NotIn] [b] pos) (Yh Z (Yf (Zj Om fa fb))):=T3 (pY hv) rZ ha hb hm
end
end
section
variable{K:ad}
end
section
variable{K:ad}
end
section
variable{K:ad}
end
section
open PySem.Calls
end
section
variable{K:ad}
end
section
variable{K:ad}
end
section
variable{K:ad}
end
section
variable{K:ad}
end
abbrev AtF(K:ad)(x:Str)(st:Stmt)(f:aq)(fd:FuncData):Prop:=PySem.W.nsIn K mainGlobals x=aA (aA (.ref f))/\Fun K x x st f fd
abbrev Und(K:ad)(mg:Str->Option aj):Prop:=∀{x:Str} {v:aj},PySem.W.nsIn K mainGlobals x=aA (aA v)->mg x=aA v
def Sv(P:cg)(w:c8)(K:ad)(mg:Str->Option aj)(base:d6)(CX:CXT)(k:Nat)(x:Str)(ps:List Str)(sp:Sp):Prop:=
 ∃f fd,FnOk P w K mg base CX k f fd ps sp/\mg x=aA (.ref f)/\PySem.W.keepIn K (.ref f)=aC/\Tn K fd ps []
structure Sc(x:Str)(st:Stmt)(n:Nat)(N:List Str):Prop where
 S:FnScope N (N.take n) (Y5 st)
 B:∀(kV YJ pm:aj) (an:Option aq) (ZS ct:aj) (us:List aj),us.length=(N.take n).length->bindArgs (PySem.W.fnOf x x (B7 st) (Uc st) (Y5 st) .none kV YJ pm an ZS ct) ⟨us,[]⟩=pure ((N.take n).zip us)
 n:n=(N.take n).length
abbrev HB(P:cg)(w:c8)(K:ad)(mg:Str->Option aj)(base:d6)(N:List Str)(x:Str)(st:Stmt)(f:aq)(k:Nat)(p:Hp->Prop)(f0:FS)(ZS:aj):Prop:=
 ∀{A:dh} {outer:List Env} {s:ao} {H F0:Hp} {E:XK},N.Nodup->p H->mO k (A.deeper (envOfC x (Y5 st) s.heap.objs.size f ZS))->(A.deeper (envOfC x (Y5 st) s.heap.objs.size f ZS)).units+1<fj->(A.deeper (envOfC x (Y5 st) s.heap.objs.size f ZS)).units+64<fj->
  Gd (Ve Rn P w K mg base N x (Y5 st) f ZS A outer s H E).nox (Uc st) (Z2 (ent H F0:mF K) f0)
section
variable{P:cg}{w:c8}{K:ad}{mg:Str->Option aj}{base:d6}{x:Str}{st:Stmt}{f:aq}{fd:FuncData}
theorem ok0(a:AtF K x st f fd)(k n:Nat)(N:List Str)(g:List D->Option SV)(f0:FS)(hb:∀{ZS:aj},HB P w K mg base N x st f k (λ_=>True) f0 ZS)
  (S:Sc x st n N:=by exact⟨⟨rfl,rfl,rfl,by decide+kernel,rfl,by decide+kernel,by decide+kernel⟩,by first|exact λ_ _ _ _ _ _ us hl=>of1 (λ_=>rfl) us hl|exact λ_ _ _ _ _ _ us hl=>of2 (λ_ _=>rfl) us hl|exact λ_ _ _ _ _ _ us hl=>of3 (λ_ _ _=>rfl) us hl|exact λ_ _ _ _ _ _ us hl=>of4 (λ_ _ _ _=>rfl) us hl|exact λ_ _ _ _ _ _ us hl=>of5 (λ_ _ _ _ _=>rfl) us hl,rfl⟩)
  (hg:g=Qh f0 N.length:=by rfl):FnOk P w K mg base Rn (k+1) f fd (N.take n) (Wk K n g):=by
 subst hg;exact a.2.ok S.S (λ_ _ _ _ h=>(qk h).trans S.n) λZS A outer s H vs Q E hr h=>by obtain⟨F0,h⟩:=qe (N:=N) (f:=f0) h;exact⟨_,hb S.S.nd trivial hr (vE hr) hr.units,h⟩
theorem okS(u:Und K mg)(a:∃f fd,AtF K x st f fd)(k n:Nat)(N:List Str)(g:List D->Option SV)(f0:FS)(hb:∀{f:aq} {ZS:aj},HB P w K mg base N x st f k (λ_=>True) f0 ZS)
  (S:Sc x st n N:=by exact⟨⟨rfl,rfl,rfl,by decide+kernel,rfl,by decide+kernel,by decide+kernel⟩,by first|exact λ_ _ _ _ _ _ us hl=>of1 (λ_=>rfl) us hl|exact λ_ _ _ _ _ _ us hl=>of2 (λ_ _=>rfl) us hl|exact λ_ _ _ _ _ _ us hl=>of3 (λ_ _ _=>rfl) us hl|exact λ_ _ _ _ _ _ us hl=>of4 (λ_ _ _ _=>rfl) us hl|exact λ_ _ _ _ _ _ us hl=>of5 (λ_ _ _ _ _=>rfl) us hl,rfl⟩)
  (hg:g=Qh f0 N.length:=by rfl):Sv P w K mg base Rn (k+1) x (N.take n) (Wk K n g):=by
 obtain⟨f,fd,a⟩:=a;exact⟨f,fd,ok0 a k n N g f0 hb S hg,u a.1,a.2.kp,a.2.binds S.B⟩
variable{tq:aq}{q:Str}{c:aq}
theorem t5{p:Str}(F:Fun K x x st f fd)(h:∀(kV YJ pm:aj) (an:Option aq) (ZS ct v:aj),bindArgs (PySem.W.fnOf x x (B7 st) (Uc st) (Y5 st) .none kV YJ pm an ZS ct) ⟨[v],[]⟩=pure [(p,v)])(s:ao)(v:aj):BindsTo s fd ⟨[v],[]⟩ [(p,v)]:=by obtain⟨oc,od,kV,YJ,pm,an,ZS,ct,VA,rfl,lk,YD⟩:=F.ex;exact .of_eq (h kV YJ pm an ZS ct v)
end
section
variable{X:Cx}{Z:mF X.K}{a:cw}{pos:Pos}{k j n:Nat}{ps:List Str}{x:Str}{p:Pos}{es:List cw}
theorem Yq{g:List D->Option SV}{fr:FA}(S:Sv X.prog X.w X.K X.mg X.base Rn k x ps (Wk X.K n g))(hr:mO j X.A)(ha:PA X (a::es) (U1 Z fr))(hj:k<=j:=by decide)(hg:Gl X x:=by rfl)(YB:(x==("__debug__":Str))=aD:=by decide)(he:az (a::es) X.env=(aD,gg a X.env)::az es X.env:=by rfl)(ZO:(gb pos (az es X.env)).any (·.1)=aD:=by rfl):
  PE X (.Call (.Name x p) (a::es) [] pos) (Zf Z (Y2 n g fr)):=
 let⟨_,_,a,b,c,d⟩:=S;v5 a (hr.mono hj) b c d ha hg YB he ZO
end
section
variable{X:Cx}{Z:mF X.K}{pos:Pos}{scope:Scope}{src:List BSrc}{k:Nat}{tg Z_ iter:cw}{ZY:List cw}{fi:FD}{g:FG}{tt:FT}{te:FE}
theorem W7(N':List Str)(hi:PI X tg iter (Qg Z fi))(hg:∀{C:aq} {s₀:ao} {H₀:Hp} {ex:List aq} {Y:mF X.K},N'.Nodup->PG (X.block N' scope C s₀ H₀ ex) tg (Uf Y g))(ht:∀{C:aq} {s₀:ao} {H₀:Hp} {ex:List aq},PTs (X.block N' scope C s₀ H₀ ex) ZY (xT X.K tt))(he:∀{C:aq} {s₀:ao} {H₀:Hp} {ex:List aq} {Y:mF X.K},PE (X.block N' scope C s₀ H₀ ex) Z_ (Zf Y te))
  (hc:X.calm=aC:=by rfl) (S:CompScope X N' scope src:=by exact Fb (by rfl) (by rfl) (by rfl) (by rfl) (by rfl) (by rfl)) (So:SrcOk src k:=by exact CL _ (by rfl) (by rfl)) (nd:N'.Nodup:=by decide+kernel) (hk:k∉g.tch:=by decide) (hs:∀x,foldedSetIterable iter X.env x=pure x:=by intro _;rfl):PE X (.ListComp Z_ [⟨tg,iter,ZY,0⟩] scope pos) (Zf Z (Wf src k fi g tt te)):=
 v0 hc S So hk hi (λ_ _ _ _=>xg λ_=>hg nd) (λ_ _ _ _=>ht) (λ_ _ _ _=>xe λ_=>he) hs
theorem R1(i:Nat)(N':List Str){y:Str}{py XM:Pos}(hN:X.N.Nodup)(hi:PI X tg iter (Qg Z fi))(hg:∀{C:aq} {s₀:ao} {H₀:Hp} {ex:List aq} {Y:mF X.K},N'.Nodup->PG (X.block N' scope C s₀ H₀ ex) tg (Uf Y g))(ht:∀{C:aq} {s₀:ao} {H₀:Hp} {ex:List aq},PTs (X.block N' scope C s₀ H₀ ex) ZY (xT X.K tt))(he:∀{C:aq} {s₀:ao} {H₀:Hp} {ex:List aq} {Y:mF X.K},PE (X.block N' scope C s₀ H₀ ex) Z_ (Zf Y te))
  (hc:X.calm=aC:=by rfl) (S:CompScope X N' scope src:=by exact Fb (by rfl) (by rfl) (by rfl) (by rfl) (by rfl) (by rfl)) (So:SrcOk src k:=by exact CL _ (by rfl) (by rfl)) (nd:N'.Nodup:=by decide+kernel) (hk:k∉g.tch:=by decide) (Q_:X.N[i]? =aA y:=by rfl) (hx:X.env.scope.names.lookup y=aA .local:=by rfl) (XQ:swapsWith (.ListComp Z_ [⟨tg,iter,ZY,0⟩] scope pos) (aA (.Name y py)) XM.line X.env=pure aC:=by rfl)
  (hs:∀x,foldedSetIterable iter X.env x=pure x:=by intro _;rfl):PS X (.Assign [.Name y py] (.ListComp Z_ [⟨tg,iter,ZY,0⟩] scope pos) XM) (Z2 Z (Yu i (Wf src k fi g tt te))):=
 pk i hc S So hk hi (λ_ _ _ _=>xg λ_=>hg nd) (λ_ _ _ _=>ht) (λ_ _ _ _=>xe λ_=>he) hN Q_ hx XQ hs
end
theorem vU{g:List D->Option SV}{K:ad}{H:Hp}{a:aq}{ns:List Int}(hn:g [.lst (ns.map D.int)]=aA (.fz (.bl aC)))(hS:J3 K H a (ns.map V.int)):Wk K 1 g [.ref a] H (λv H'=>v= .bl aC/\Zi H H') λ_ _ _=>False:=by refine⟨H,[.lst (ns.map D.int)],.fz (.bl aC),Zi.refl H,.cons (.lst hS (hS.elim (λr=>r.elim .inl λz=>.inr ⟨.inl z,λd hd=>let⟨i,_,e⟩:=ax.mp hd;⟨i,e.symm⟩⟩) λc=>.inr ⟨.inr c,λd hd=>let⟨i,_,e⟩:=ax.mp hd;⟨i,e.symm⟩⟩) (Pp ns)) .nil,rfl,hn,λv H' F' ms sm _ _ _ sh _ _=>?_⟩;cases Q6 sh;exact⟨rfl,sm⟩
abbrev ES(l:PySem.W.OpenLaw)(x:Str)(k:Nat)(g:List D->Option SV)(K:ad)(w:c8)(mg:Str->Option aj)(fa:aq):Prop:=
 ∃fd:FuncData,(∀(s:ao) (u:aj),BindsTo s fd ⟨[u],[]⟩ [(x,u)])/\∀base:d6,K.In base->base.Ns mainGlobals mg->FnOk l.prog w K mg base Rn k fa fd [x] (Wk K 1 g)
theorem nQ{l:PySem.W.OpenLaw}{x:Str}{k:Nat}{g:List D->Option SV}{q:cg}{YC:List Str}{XP:(Str->Option aj)->d6->Prop}{YP:c8->d6->Prop}{d:DefRec}{K:Params->ad}(hn:l.most=aA 63)(SN:d.params.defaults=[])
  (hY:∀(w:c8) (h:d6),YP w h->(K w.params).In h) (hr:mO k callerA)
  (KZ:∀ns:List Int,ns.length<=63->g [.lst (ns.map D.int)]=aA (.fz (.bl aC)))
  (F:∀(w:c8) (mg:Str->Option aj) (fa:aq) (h:d6),(K w.params).In h->h.Ns mainGlobals mg->mg d.name=aA (.ref fa)->ES l x k g (K w.params) w mg fa):
  PySem.W.WalkO q YC XP YP l.row.toRowW d [] (λf vs=>PySem.call f vs):=
 L2.pG (n:=63) (CX:=Rn) (sp:=λK=>Wk K 1 g) hn (by decide) SN hr hY F (λ_ _ _ ns hl hO hS=>by
  obtain⟨F0,ds,sv,a,b,c,d,e⟩:=vU (KZ ns hl) hS;exact⟨F0,ds,sv,a,b,c,d,λv H' F' own z1 z2 z3 z4 z5 z6 z7=>(e v H' F' own z1 z2 z3 z4 z5 z6 z7).1⟩) λ_ _ _ _ z=>z
open Classical in
def rl(A:aq->Prop)(f:aq->Obj)(H:Hp):Hp:=λb=>match H b with
 |some (.lst vs)=>if A b then aA (.frz (f b) (.lst vs))else aA (.lst vs)
 |x=>x
open Classical in
def ur(A:aq->Prop)(H:Hp):Hp:=λb=>match H b with
 |some (.frz o (.lst vs))=>if A b then aA (.lst vs)else aA (.frz o (.lst vs))
 |x=>x
section
variable{A:aq->Prop}{f:aq->Obj}{H:Hp}{b:aq}{o:HO}{vs:List V}
theorem Mm(ha:A b)(h:H b=aA (.lst vs)):rl A f H b=aA (.frz (f b) (.lst vs)):=by unfold rl;rw[h];exact m6 ha
theorem C5(ha:¬A b):rl A f H b=H b:=by
 unfold rl;split
 .rename_i vs e;rw[m4 ha,e]
 .rfl
theorem On:rl A f H b=aB↔H b=aB:=by
 unfold rl;split
 .rename_i vs e;rw[e];split<;> simp
 .rfl
theorem Fw(h:H b=aA o)(n:∀vs,o≠.lst vs):rl A f H b=aA o:=by
 unfold rl;split
 .rename_i vs e;rw[e]at h;cases h;exact m_ rfl (n vs)
 .exact h
theorem I_{o:Obj}(ha:A b)(h:H b=aA (.frz o (.lst vs))):ur A H b=aA (.lst vs):=by unfold ur;rw[h];exact m6 ha
theorem Na(ha:¬A b):ur A H b=H b:=by
 unfold ur;split
 .rename_i o vs e;rw[m4 ha,e]
 .rfl
theorem Av(h:H b=aA o)(n:∀q vs,o≠.frz q (.lst vs)):ur A H b=aA o:=by
 unfold ur;split
 .rename_i q vs e;rw[e]at h;cases h;exact m_ rfl (n q vs)
 .exact h
theorem t0(h:H b=aB):ur A H b=aB:=by unfold ur;rw[h]
theorem xq{H2:Hp}(s:Zi (rl A f H) H2)(h:H b=aA o)(hA:A b->∃vs,H b=aA (.lst vs)):ur A H2 b=aA o:=by
 by_cases ha:A b
 .obtain⟨vs,e⟩:=hA ha;rw[e]at h;cases h;exact I_ ha (s _ _ (Mm ha e))
 .rw[Na ha];exact s _ _ (by rw[C5 ha];exact h)
end
def Du(sp:Sp):Sp:=λvs H Q E=>∃A:aq->Prop,(∀b,A b->∃vs,H b=aA (.lst vs))/\∀f,sp vs (rl A f H) (λv H2=>Q v (ur A H2)) E
theorem FnOk.aged{P:cg}{w:c8}{K:ad}{mg:Str->Option aj}{base:d6}{k:Nat}{f:aq}{fd:FuncData}{ps:List Str}{sp:Sp}(F:FnOk P w K mg base Rn k f fd ps sp):FnOk P w K mg base Rn k f fd ps (Du sp):=by
 refine⟨λvs H Q E ⟨A,_,h⟩=>F.len _ _ _ _ (h λ_=>default),λA outer s H args us vs Q E hr he hb hv ZG=>?_⟩;obtain⟨B,hB,h⟩:=ZG;have hh:=h λb=>(s.heap.get? b).getD default;generalize hg:(λb=>(s.heap.get? b).getD default)=g at hh;have rt:∀b xs,H b=aA (.tup xs)->rl B g H b=aA (.tup xs):=λb xs e=>Fw e λ_ z=>by cases z
 have TB:Env0 P w K mg base A outer s (rl B g H):=⟨he.frames,he.mod,λb o e=>⟨(he.bs b o e).1,On.mpr (he.bs b o e).2⟩,he.bsz,he.funs,λb hb=>On.mpr (he.frf b hb),λb o e=>by
  by_cases ha:B b
  .obtain⟨vs,e1⟩:=hB b ha;rw[Mm ha e1]at e;cases e;have q:=he.hok b _ e1;refine⟨?_,q⟩;obtain⟨_,mC,n,_,e2⟩:=q;rw[<-hg];show _=aA ((s.heap.get? b).getD default);rw[e2];rfl
  .rw[C5 ha]at e;exact(he.hok b o e).stay (λ_ _ _ z=>z) (λb e=>Fw e λ_ z=>by cases z) rt (λb o e=>Fw e λ_ z=>by cases z),he.bare⟩
 refine codeAny_mono (F.run A outer s _ args us vs _ E hr TB hb hv hh) ?_;intro r s' c;cases r with
 |error e=>exact c
 |ok r=>cases r with
  |ret u=>
   obtain⟨v,H2,a,b,c,d,e,q⟩:=c;have RA:∀x o,ur B H2 x=aA o->Yc P w (ur B H2) s'.heap x o:=λx o z=>by
    have st:∀o,Yc P w H2 s'.heap x o->Yc P w (ur B H2) s'.heap x o:=λo z=>z.stay (λ_ _ _ z=>z) (λb e=>Av e λ_ _ z=>by cases z) (λb xs e=>Av e λ_ _ z=>by cases z) (λb o e=>Av e λ_ _ z=>by cases z);unfold ur at z;split at z
    .rename_i q vs e2;have k:=d _ _ e2;split at z
     .cases z;exact st _ k.2
     .cases z;exact st _ k
    .exact st _ (d _ _ z)
   have un:Un (frs outer) [] H (ur B H2) s.heap s'.heap:=by
    refine⟨λx o p n=>c.keep x o p (On.mpr n),λx o p n=>c.slot x o p (On.mpr n),λx o p n z=>t0 (c.free x o p (On.mpr n) z),c.there,λx xs z=>Av (c.tups x xs (rt _ _ z)) (λ_ _ z=>by cases z),λx o u z=>?_,λx ps z=>?_⟩
    .have nA:¬B x:=λh=>by obtain⟨_,y⟩:=hB x h;rw[z]at y;cases y
     rw[Na nA];exact c.frzs x o u (by rw[C5 nA];exact z)
    .obtain⟨m,y⟩:=c.tbls x ps (Fw z λ_ z=>by cases z);exact⟨m,Av y λ_ _ z=>by cases z⟩
   exact⟨v,_,a,b,un,RA,e,q⟩
  |next=>exact c
  |brk=>exact c
  |cont=>exact c
section
variable{K:ad}
inductive Ag:D->D->Prop where
 |str (x:Str):Ag (.str x) (.str x)
 |int (i:Int):Ag (.int i) (.int i)
 |tup {xs ys:List D} (hl:xs.length=ys.length) (h:∀(i:Nat) (x y:D),xs[i]? =aA x->ys[i]? =aA y->Ag x y):Ag (.tup xs) (.tup ys)
 |lst {xs ys:List D} (hl:xs.length=ys.length) (h:∀(i:Nat) (x y:D),xs[i]? =aA x->ys[i]? =aA y->Ag x y):Ag (.lst xs) (.lso ys)
theorem G6{F F':Hp}:∀{xs ys:List D} {vs:List V},xs.length=ys.length->(∀(i:Nat) (x y:D),xs[i]? =aA x->ys[i]? =aA y->∀v,mI K F x v->mI K F' y v)->mD K F xs vs->mD K F' ys vs
 | [],[],_,_,_,.nil=>.nil
 |x::xs,y::ys,_,hl,h,.cons r t=>.cons (h 0 x y rfl rfl _ r) (G6 (by simpa using hl) (λi a b ha hb=>h (i+1) a b ha hb) t)
theorem Ag.rep{F Fr:Hp}(h1:∀b vs,F b=aA (.lst vs)->∃o,Fr b=aA (.frz o (.lst vs)))(h2:∀b xs,F b=aA (.tup xs)->Fr b=aA (.tup xs))(h3:∀b o u,F b=aA (.frz o u)->Fr b=aA (.frz o u)){d d':D}(a:Ag d d'):∀v,mI K F d v->mI K Fr d' v:=by
 induction a with
 |str x=>intro v r;cases r;exact .str x
 |int i=>intro v r;cases r;exact .int i
 |tup hl h ih=>intro v r;cases r with|tup ha r=>exact .tup (h2 _ _ ha) (G6 hl ih r)
 |lst hl h ih=>
  intro v r;cases r with
  |lst hq o r=>
   refine .lso ?_ (G6 hl ih r);rcases o with o|⟨⟨q,o⟩|o,_⟩
   .exact .inl (h1 _ _ o)
   .exact .inl ⟨q,h3 _ _ _ o⟩
   .exact .inr o
inductive Nw:D->Prop where
 |str (x:Str):Nw (.str x)
 |int (i:Int):Nw (.int i)
 |tup {xs:List D} (h:∀d∈xs,Nw d):Nw (.tup xs)
 |lst {xs:List D} (h:∀d∈xs,Nw d) (t:∀d∈xs,∃ys,d= .tup ys):Nw (.lst xs)
open Classical in
def gxH(A:aq->Prop)(G:Hp):Hp:=λb=>match G b with
 |some (.frz o (.lst vs))=>if A b then(if vs=[]then aA (.lst [])else aB)else aA (.frz o (.lst vs))
 |x=>x
section
variable{A:aq->Prop}{G H':Hp}{b:aq}{o:HO}
theorem BP(h:G b=aA o)(n:∀q vs,o≠.frz q (.lst vs)):gxH A G b=aA o:=by
 unfold gxH;split
 .rename_i q vs e;rw[e]at h;cases h;exact m_ rfl (n q vs)
 .exact h
theorem vS(h:gxH A G b=aA o):ur A G b=aA o:=by
 unfold gxH at h;split at h
 .rename_i q vs e;by_cases ha:A b
  .rw[m6 ha]at h;by_cases hv:vs=[]
   .rw[m6 hv]at h;cases h;subst hv;exact I_ ha e
   .rw[m4 hv]at h;cases h
  .rw[m4 ha]at h;rw[Na ha,e];exact h
 .rename_i n;exact Av h λq vs z=>by subst z;exact n q vs h
theorem tz(s:Zi G H')(h:ur A G b=aA o):ur A H' b=aA o:=by
 unfold ur at h;split at h
 .rename_i q vs e;by_cases ha:A b
  .rw[m6 ha]at h;cases h;exact I_ ha (s _ _ e)
  .rw[m4 ha]at h;cases h;rw[Na ha];exact s _ _ e
 .rename_i n;exact Av (s _ _ h) λq vs z=>by subst z;exact n q vs h
end
theorem Aw{F F':Hp}:∀{xs:List D} {vs:List V},(∀d∈xs,∀v,mI K F d v->mI K F' d v)->mD K F xs vs->mD K F' xs vs
 |_,_,_,.nil=>.nil
 |d::xs,_,h,.cons r t=>.cons (h d ac _ r) (Aw (λe he=>h e (am _ he)) t)
theorem Nw.rep{A:aq->Prop}{G:Hp}{d:D}(n:Nw d):∀v,mI K G d v->mI K (gxH A G) d v:=by
 induction n with
 |str x=>intro v r;cases r;exact .str x
 |int i=>intro v r;cases r;exact .int i
 |tup h ih=>intro v r;cases r with|tup ha r=>exact .tup (BP ha λ_ _ z=>by cases z) (Aw ih r)
 | @lst xs h t ih=>
  intro v r;cases r with
  | @lst a _ vs hq o r=>
   rcases o with o|⟨ol,oi⟩
   .have:=BP (A:=A) o λ_ _ z=>by cases z
    exact .lst (.inl (.inl this)) (.inl this) (Aw ih r)
   .have hx:xs=[]:=by
     cases xs with
     |nil=>rfl
     |cons d l=>obtain⟨ys,e1⟩:=t d ac;obtain⟨i,e2⟩:=oi d ac;rw[e1]at e2;cases e2
    subst hx;cases r;rcases ol with⟨q,o⟩|o
    rotate_left
    .exact .lst (.inr o) (.inr ⟨.inr o,oi⟩) .nil
    by_cases ha:A a
    .have:gxH A G a=aA (.lst []):=by unfold gxH;rw[o];dsimp only;rw[m6 ha,m6 rfl]
     exact .lst (.inl (.inl this)) (.inl this) .nil
    .have:gxH A G a=aA (.frz q (.lst [])):=by unfold gxH;rw[o];exact m4 ha
     exact .lst (.inl (.inr ⟨q,this⟩)) (.inr ⟨.inl ⟨q,this⟩,oi⟩) .nil
def Cu(K:ad)(fd:FD):TA:=λσ H Q=>∃Z:mF K,Y3 Z fd σ H Q
theorem Fx{F1 H1:Hp}{vs:List V}{n:Nat}{g:List D->Option SV}{ds YI:List D}{sv:SV}{Q:VK}{E':XK}(QL:Zi F1 H1)(r1:mD K F1 ds vs)(TC:ds.length=YI.length)(ag:∀(i:Nat) (x y:D),ds[i]? =aA x->YI[i]? =aA y->Ag x y)(hn:YI.length=n)(e2:g YI=aA sv)(nw:Nw sv.toD)
  (k:∀v H2 G,Zi H1 H2->Zi G H2->mI K G sv.toD v->(∀b o,G b=aA o->F1 b=aA o\/H1 b=aB)->(∀b us,G b=aA (.lst us)->us=[]\/H1 b=aB)->Q v H2):Du (Wk K n g) vs H1 Q E':=by
 generalize hA:(λb=>∃vs,F1 b=aA (.lst vs))=A;have FM:∀{b vs},F1 b=aA (.lst vs)->A b:=fun{b vs} e=>by rw[<-hA];exact⟨vs,e⟩
 have QE:∀{b},A b->∃vs,F1 b=aA (.lst vs):=fun{b} h=>by rw[<-hA]at h;exact h
 have lA:∀b,A b->∃vs,H1 b=aA (.lst vs):=λb hb=>let⟨vs,e⟩:=QE hb;⟨vs,QL _ _ e⟩
 refine⟨A,lA,λf=>?_⟩;refine⟨rl A f F1,YI,sv,λb o e=>?_,G6 TC (λi x y hx hy=>(ag i x y hx hy).rep (λb vs e=>⟨_,Mm (FM e) e⟩) (λb xs e=>Fw e λ_ z=>by cases z) (λb o u e=>Fw e λ_ z=>by cases z)) r1,hn,e2,λv H' F' ns zS o9 zv fro sh nd ok=>?_⟩
 .by_cases ha:A b
  .obtain⟨vs,q⟩:=QE ha;rw[Mm ha q]at e;cases e;exact Mm ha (QL _ _ q)
  .rw[C5 ha]at e⊢;exact QL _ _ e
 have rp:=sh.rep nd λp hp=>(ok p hp).1;have FJ:Zi (Qt F' ns) H':=Ld nd zv λp hp=>(ok p hp).2.2;have new:∀b o,Qt F' ns b=aA o->rl A f F1 b=aA o\/H1 b=aB:=λb o e=>by
  by_cases hb:b∈Mb ns
  .obtain⟨p,hp,ep⟩:=ax.mp hb;subst ep;exact .inr (On.mp (ok p hp).2.1)
  .rw[Jn hb]at e;exact(fro b o e).imp id On.mp
 generalize Qt F' ns=G at rp FJ new;refine k v (ur A H') (gxH A G) (λb o e=>xq zS e (lA b)) (λb o e=>tz FJ (vS e)) (nw.rep v rp) (λb o e=>?_) (λb us e=>?_)
 .have hF:F1 b=aA o\/H1 b=aB:=by
   unfold gxH at e;split at e
   .rename_i q vs eg;rcases new b _ eg with z|z
    .by_cases ha:A b
     .rw[m6 ha]at e;by_cases hv:vs=[]
      .rw[m6 hv]at e;cases e;obtain⟨us,y⟩:=QE ha;rw[Mm ha y]at z;cases z;subst hv;exact .inl y
      .rw[m4 hv]at e;cases e
     .rw[m4 ha]at e;rw[C5 ha]at z;exact .inl (z.trans e)
    .exact .inr z
   .rename_i n;rcases new b o e with z|z
    .by_cases ha:A b
     .obtain⟨us,y⟩:=QE ha;rw[Mm ha y]at z;cases z;exact m_ e (n _ _)
     .rw[C5 ha]at z;exact .inl z
    .exact .inr z
  exact hF
 .unfold gxH at e;split at e
  .rename_i q vs eg;by_cases ha:A b
   .rw[m6 ha]at e;by_cases hv:vs=[]
    .rw[m6 hv]at e;cases e;exact .inl rfl
    .rw[m4 hv]at e;cases e
   .rw[m4 ha]at e;cases e
  .rcases new b _ e with z|z
   .by_cases ha:A b
    .obtain⟨us,y⟩:=QE ha;rw[Mm ha y]at z;cases z
    .rw[C5 ha]at z;exact m_ (FM z) ha
   .exact .inr z
theorem C6{F H:Hp}{σ:L2.St}{δ' δ1:Ym}{fd:FD}{n:Nat}{g:List D->Option SV}{ds YI:List D}{sv:SV}{Q:VK}{E':XK}(le:Zi F H)(hl:σ.length=δ'.length)(at':∀(i:Nat) (sv:SV),δ'[i]? =aA (aA sv)->∃v d,sv= .fz d/\σ[i]? =aA (aA v)/\mI K F d v)(e1:fd δ'=aA (ds,δ1))(TC:ds.length=YI.length)(ag:∀(i:Nat) (x y:D),ds[i]? =aA x->YI[i]? =aA y->Ag x y)(hn:YI.length=n)(e2:g YI=aA sv)(nw:Nw sv.toD)
  (k:∀v H2 G,Zi H H2->Zi G H2->mI K G sv.toD v->(∀b o,G b=aA o->F b=aA o\/H b=aB)->(∀b us,G b=aA (.lst us)->us=[]\/H b=aB)->Q v H2):O0 (Du (Wk K n g)) [] E' (Cu K fd) σ H Q:=by
 refine⟨ent H F,F,δ',λ_=>[],ds,δ1,?_,e1,λvs H1 F1 ZB sH sF s1 r1=>?_⟩
 .exact⟨le,λb o e=>.inl e,Zi.refl H,hl,λi sv e=>by obtain⟨v,d,rfl,a,b⟩:=at' i sv e;exact⟨v,a,.fz b⟩,λ_=>cx,(λ_ _ hp=>nomatch hp),(λ_ _ _ _ _ hp=>nomatch hp)⟩
 show Du (Wk K n g) (vs++[]) H1 Q E';rw[gq];have old:∀b,H1 b=aB->H b=aB:=λb e=>sH.free e;exact Fx s1.le r1 TC ag hn e2 nw λv H2 G XY sG r hG hL=>k v H2 G (sH.trans XY) sG r (λb o e=>(hG b o e).elim (λz=>s1.fro b o z) λz=>.inr (old b z)) λb us e=>(hL b us e).imp id (old b)
end
section
theorem pW{h:d6}{l:aq}{o:Obj}(e:h.get? l=aA o){f:Obj->Obj}(hf:f o=o):h.update l f=h:=by
 have e1:=(Heap.get?_some_iff.mp e).1;cases h with
 |mk objs life=>
  have e1:objs[l]? =aA o:=e1;show Heap.mk (objs.modify l f) life=Heap.mk objs life;congr 1;apply Array.ext_getElem?;intro i;rw[Array.getElem?_modify];split
  .rename_i z;rw[<-z,e1];show aA (f o)=aA o;rw[hf]
  .rfl
def ID:V->List V->Hp->VK->Prop:=λx vs H Q=>AN x vs H Q\/∃l o,x= .ref l/\vs=[]/\H l=aA (.frz o (.lst []))/\Q .non H
theorem vR{X:Cx}:MtM X "list.clear" ID:=by
 intro n_ s σ H x vs v us Q I rx rv h;rcases h with h|⟨l,o,rfl,rfl,hH,q⟩
 .exact q_ n_ s σ H x vs v us Q I rx rv h
 cases rx;have hus:=rv.zero;subst hus;obtain⟨_,z,mC,n,r,e⟩:=I.hok l _ hH;have hi:mC=[]:=by cases r;rfl
 subst hi;refine call_meets F.slot_list_clear ⟨_,e,rfl⟩ F.entry_list_clear (F.args_list_clear_1 _) (AutoSeq1.list_clear_list_0 l #[] n (dk _)) ⟨e,?_⟩;rw[pW e (f:=dm λ_=> #[]) rfl];exact⟨.non,_,I.tok _,rfl,q⟩
variable{K:ad}
def Mu(H0 H8:Hp)(m:Nat)(b:aq):Prop:=H0 b=aB/\∃t rest a1 a2,H8 b=aA (.lst (.ref t::rest))/\rest.length<m/\H8 t=aA (.tup [a1,a2])
def Ch(H0 H8:Hp)(m B:Nat)(H':Hp):Prop:=∀b o,H8 b=aA o->(Mu H0 H8 m b/\∃us,H' b=aA (.lst us)/\us.length<=B)\/(¬Mu H0 H8 m b/\H' b=aA o)
section
variable{H0 H8 H':Hp}{m B:Nat}{l p:aq}{us:List V}
theorem Ch.refl(h:m<=B):Ch H0 H8 m B H8:=λb o e=>by
 by_cases z:Mu H0 H8 m b
 .have z':=z;obtain⟨_,t,rest,_,_,e1,e2,_⟩:=z';exact .inl ⟨z,_,e1,by rw[bh];omega⟩
 .exact .inr ⟨z,e⟩
theorem Ch.mu(c:Ch H0 H8 m B H')(h:Mu H0 H8 m l):∃us,H' l=aA (.lst us)/\us.length<=B:=by
 have h':=h;obtain⟨_,t,rest,_,_,e1,_⟩:=h';rcases c l _ e1 with⟨_,z⟩|⟨z,_⟩
 .exact z
 .exact m_ h z
theorem Ch.out(c:Ch H0 H8 m B H')(h:¬Mu H0 H8 m l){o:HO}(e:H8 l=aA o):H' l=aA o:=by
 rcases c l _ e with⟨z,_⟩|⟨_,z⟩
 .exact m_ z h
 .exact z
theorem Xh{o:HO}(e:H8 l=aA o)(n:∀t r,o≠.lst (.ref t::r)):¬Mu H0 H8 m l:=λ⟨_,t,r,_,_,z,_⟩=>by rw[e]at z;cases z;exact n t r rfl
theorem Ch.tup(c:Ch H0 H8 m B H'){xs:List V}(e:H8 l=aA (.tup xs)):H' l=aA (.tup xs):=c.out (Xh e λ_ _ z=>by cases z) e
theorem Ch.app(c:Ch H0 H8 m B H')(hl:Mu H0 H8 m l){ws:List V}(hp:H' p=aB){o:HO}(hz:ws.length<=B+1):Ch H0 H8 m (B+1) (Yo (Yo H' p o) l (.lst ws)):=λb o' e=>by
 by_cases hb:b=l
 .subst hb;exact .inl ⟨hl,ws,Z8,hz⟩
 .rcases c b o' e with⟨z,us,e1,e2⟩|⟨z,e1⟩
  .exact .inl ⟨z,us,by rw[Zp hb,Zp λy=>by rw[y,hp]at e1;cases e1];exact e1,by omega⟩
  .exact .inr ⟨z,by rw[Zp hb,Zp λy=>by rw[y,hp]at e1;cases e1];exact e1⟩
theorem Ch.clr(c:Ch H0 H8 m B H')(hl:Mu H0 H8 m l):Ch H0 H8 m B (Yo H' l (.lst [])):=λb o' e=>by
 by_cases hb:b=l
 .subst hb;exact .inl ⟨hl,[],Z8,dk _⟩
 .rcases c b o' e with⟨z,us,e1,e2⟩|⟨z,e1⟩
  .exact .inl ⟨z,us,by rw[Zp hb];exact e1,e2⟩
  .exact .inr ⟨z,by rw[Zp hb];exact e1⟩
def HV(H0 H8:Hp)(m:Nat)(v:V):Prop:=∃t l0 l1 l2 ws,v= .ref t/\H8 t=aA (.tup [.ref l0,.ref l1,.ref l2])/\Mu H0 H8 m l0/\(Mu H0 H8 m l1\/H8 l1=aA (.lst [])\/∃o,H8 l1=aA (.frz o (.lst [])))/\
 ¬Mu H0 H8 m l2/\(H8 l2=aA (.lst ws)\/∃o,H8 l2=aA (.frz o (.lst ws)))/\ws.length<=m/\∀w∈ws,∃t f v l,w= .ref t/\H8 t=aA (.tup [f,v,.ref l])/\Mu H0 H8 m l
end
theorem tw{σ:L2.St}{H':Hp}{l:aq}{us:List V}{c c':Str}{Q:VK}(h:H' l=aA (.lst us))(hz:us.length<cj)(k:∀p,H' p=aB->Q .non (Yo (Yo H' p (.tup [.str c,.str c'])) l (.lst (us++[.ref p])))):
  tyV K "list" (.ref l) H'/\Oz (MR (Oz (tC (.str c)) (Oz (tC (.str c')) Tk))) Tk σ H' λxs H2=>Qf (.ref l) xs H2 Q:=
 ⟨.inl ⟨rfl,us,.inl (.inl h)⟩,by show 2<=cj;decide,λp hp=>⟨l,us,.ref p,rfl,rfl,by rw[Zp λy=>by rw[y,hp]at h;cases h];exact h,hz,k p hp⟩⟩
abbrev tZz(c c':Str):TA:=Oz (MR (Oz (tC (.str c)) (Oz (tC (.str c')) Tk))) Tk
abbrev Dv(K:ad)(j:Nat)(c c':Str):TS:=Gh (tBM K "list" Qf (Va (rIx K) (Uo j) (tC (.int 0))) (tZz c c'))
abbrev tIn(K:ad)(j k1 k2 k3:Nat)(c c':Str):TS:=S8 (RM K (Va (rIx K) (Uo j) (tC (.int 2)))) (MO K 3 (Ma (W9 k1) (Ma (W9 k2) (Ma (W9 k3) MP)))) (Gh (tBM K "list" Qf (Uo k3) (tZz c c')))
abbrev ME(K:ad)(j:Nat):TS:=Gh (MQ K "list" ID (Va (rIx K) (Uo j) (tC (.int 1))))
section
variable{Z:mF K}{F H0 H8:Hp}{δ:Ym}{m:Nat}{j k1 k2 k3:Nat}{c c' d d':Str}
def Nb(Z:mF K)(F H0 H8:Hp)(δ:Ym)(m B:Nat)(σ:L2.St)(H':Hp):Prop:=∃own,SR Z F H' σ δ own/\Mh Z F own (λb=>H0 b=aB)/\Ch H0 H8 m B H'
theorem Nb.set{B:Nat}{σ:L2.St}{H':Hp}(h:Nb Z F H0 H8 δ m B σ H'){k:Nat}(hk:δ[k]? =aA aB)(v:V):Nb Z F H0 H8 δ m B (σ.set k (aA v)) H':=by
 obtain⟨own,s,ap,ch⟩:=h;have:=s.blank k (aA v);have e:δ.set k aB=δ:=by
  apply List.ext_getElem?;intro i;rw[List.getElem?_set];split
  .rename_i z;subst z;rw[hk,m6 (aw.mp hk).1]
  .rfl
 rw[e]at this;exact⟨_,this,ap.drop,ch⟩
theorem Nb.app{B:Nat}{σ:L2.St}{H':Hp}(h:Nb Z F H0 H8 δ m B σ H'){l:aq}(hl:Mu H0 H8 m l)(hB:B<cj){Q:VK}(k:∀H'',Nb Z F H0 H8 δ m (B+1) σ H''->Q .non H''):
  tyV K "list" (.ref l) H'/\tZz c c' σ H' λxs H2=>Qf (.ref l) xs H2 Q:=by
 obtain⟨own,s,ap,ch⟩:=h;obtain⟨us,e,hu⟩:=ch.mu hl;refine tw e (by omega) λp hp=>k _ ⟨own,?_,ap,ch.app hl hp (by rw[av,f7];omega)⟩;exact(s.grow (Wq hp)).updW ap hl.1
theorem xp{E:Ends}{B:Nat}{σ:L2.St}{H':Hp}{t l0 l1 l2:aq}{ws:List V}(h:Nb Z F H0 H8 δ m B σ H')(h1:δ[k1]? =aA aB)(h2:δ[k2]? =aA aB)(h3:δ[k3]? =aA aB)(n1:k1≠j)(n2:k2≠j)(n3:k3≠j)(hj:σ[j]? =aA (aA (.ref t)))(ht:H8 t=aA (.tup [.ref l0,.ref l1,.ref l2]))
  (hm:¬Mu H0 H8 m l2) (hw:H8 l2=aA (.lst ws)\/∃o,H8 l2=aA (.frz o (.lst ws))) (hl:∀w∈ws,∃t f v l,w= .ref t/\H8 t=aA (.tup [f,v,.ref l])/\Mu H0 H8 m l) (hB:B+ws.length<cj)
  (k:∀ZD H'',Nb Z F H0 H8 δ m (B+ws.length) ZD H''->ZD[j]? =aA (aA (.ref t))->E.nx ZD H''):tIn K j k1 k2 k3 c c' E σ H':=by
 have sq:∀{B H''},Ch H0 H8 m B H''->J3 K H'' l2 ws:=fun{B H''} ch=>by
  rcases hw with hw|⟨o,hw⟩
  .exact .inl (.inl (ch.out hm hw))
  .exact .inl (.inr ⟨o,ch.out hm hw⟩)
 obtain⟨own,s,ap,ch⟩:=h;refine⟨.ref t,hj,.inr (.inl ⟨t,_,2,.ref l2,rfl,rfl,Ue (ch.tup ht),rfl,.inl ⟨l2,rfl,⟨ws,sq ch⟩,?_⟩⟩)⟩;refine⟨λn mm ZD H''=>mm=ws.length- n/\n<=ws.length/\ZD[j]? =aA (aA (.ref t))/\Nb Z F H0 H8 δ m (B+n) ZD H'',⟨ws.length,rfl,dk _,hj,own,s,ap,ch⟩,?_⟩;rintro n mm ZD H'' ⟨rfl,hn,VX,hi⟩;have hi0:=hi;obtain⟨own',s',xH,TJ⟩:=hi;by_cases ZL:n<ws.length
 .have hx:ws[n]? =aA ws[n]:=au ZL;refine .inr ⟨⟨ws,_,sq TJ,hx⟩,λSX H9=>SX[j]? =aA (aA (.ref t))/\Nb Z F H0 H8 δ m (B+(n+1)) SX H9,λSX H9 a=>⟨ws.length- (n+1),by omega,rfl,ZL,a⟩,λx H9 hy=>?_⟩;obtain⟨e9,hy⟩:=hy;have e9:=e9.symm;subst e9;have ex:ws[n]=x:=by have:=hy ws (sq TJ);rw[hx]at this;exact cy.inj this
  obtain⟨tt,f,v,l,rfl,yC,yO⟩:=hl x (by rw[<-ex];exact List.getElem_mem ZL);refine⟨tt,_,rfl,Ue (TJ.tup yC),rfl,f,_,rfl,v,_,rfl,.ref l,_,rfl,rfl,?_⟩;have i3:=((hi0.set h1 f).set h2 v).set h3 (.ref l);have JB:k3<((ZD.set k1 (aA f)).set k2 (aA v)).length:=by have:=(aw.mp h3).1;rw[gp,gp,s'.len];exact this
  refine⟨.ref l,c9 JB,?_⟩;refine i3.app yO (by omega) λH'' hi=>⟨?_,hi⟩
  rw[cz n3,cz n2,cz n1];exact VX
 .have:n=ws.length:=by omega
  subst this;exact .inl ⟨⟨ws,sq TJ,bc _⟩,k ZD H'' hi0 VX⟩
theorem pV{E:Ends}{B:Nat}{σ:L2.St}{H':Hp}{v:V}(h:Nb Z F H0 H8 δ m B σ H')(h1:δ[k1]? =aA aB)(h2:δ[k2]? =aA aB)(h3:δ[k3]? =aA aB)(n1:k1≠j)(n2:k2≠j)(n3:k3≠j)(hj:σ[j]? =aA (aA v))(hv:HV H0 H8 m v)(hB:B+1+m<cj)
  (k:∀ZD H'',Nb Z F H0 H8 δ m (B+1+m) ZD H''->E.nx ZD H''):Gg (Dv K j c c') (Gg (tIn K j k1 k2 k3 d d') (ME K j)) E σ H':=by
 obtain⟨t,l0,l1,l2,ws,rfl,ht,m0,m1,m2,hw,NH,hall⟩:=hv;have up:∀{B B' ZD H''},Nb Z F H0 H8 δ m B ZD H''->B<=B'->Nb Z F H0 H8 δ m B' ZD H'':=fun{B B' ZD H''} ⟨own,s,ap,ch⟩ hb=>⟨own,s,ap,λb o e=>(ch b o e).imp (λ⟨a,us,b,c⟩=>⟨a,us,b,by omega⟩) id⟩
 obtain⟨own,s,ap,ch⟩:=h;refine⟨.ref t,hj,.inr (.inl ⟨t,_,0,.ref l0,rfl,rfl,Ue (ch.tup ht),rfl,?_⟩)⟩;refine Nb.app ⟨own,s,ap,ch⟩ m0 (by omega) λH2 i2=>?_;refine xp i2 h1 h2 h3 n1 n2 n3 hj ht m2 hw hall (by omega) λWT H3 i3 yT=>?_;obtain⟨ZI,s3,No,SS⟩:=i3;refine⟨.ref t,yT,.inr (.inl ⟨t,_,1,.ref l1,rfl,rfl,Ue (SS.tup ht),rfl,?_⟩)⟩;rcases m1 with z|z|⟨o,z⟩
 .obtain⟨us,e,_⟩:=SS.mu z;exact⟨.inl ⟨rfl,us,.inl (.inl e)⟩,.inl ⟨l1,us,rfl,rfl,e,k _ _ (up ⟨ZI,s3.updW No z.1,No,SS.clr z⟩ (by omega))⟩⟩
 .have e:=SS.out (Xh z λ_ _ y=>by cases y) z;have eu:Yo H3 l1 (.lst [])=H3:=by
   funext b;by_cases hb:b=l1
   .subst hb;rw[Z8,e]
   .rw[Zp hb]
  refine⟨.inl ⟨rfl,[],.inl (.inl e)⟩,.inl ⟨l1,[],rfl,rfl,e,?_⟩⟩;rw[eu];exact k _ _ (up ⟨ZI,s3,No,SS⟩ (by omega))
 .have e:=SS.out (Xh z λ_ _ y=>by cases y) z;exact⟨.inl ⟨rfl,[],.inl (.inr ⟨o,e⟩)⟩,.inr ⟨l1,o,rfl,rfl,e,k _ _ (up ⟨ZI,s3,No,SS⟩ (by omega))⟩⟩
end
end
section
variable{K:ad}
def PrL(m:Nat)(xs:List D):Prop:=xs≠[]/\xs.length<=m/\∀e∈xs,∃p q,e= .tup [p,q]
def HpN(m:Nat)(d:D):Prop:=∃xs ys zs,d= .tup [.lst xs,.lst ys,.lst zs]/\PrL m xs/\(ys=[]\/PrL m ys)/\zs.length<=m/\∀e∈zs,∃f v ns,e= .tup [f,v,.lst ns]/\PrL m ns
theorem rY{G:Hp}{p q:D}{v:V}(r:mI K G (.tup [p,q]) v):∃t a1 a2,v= .ref t/\G t=aA (.tup [a1,a2]):=by
 cases r with
 |tup h r=>cases r with
  |cons _ r=>cases r with
   |cons _ r=>cases r;exact⟨_,_,_,rfl,h⟩
theorem Ax{G:Hp}{p q s:D}{v:V}(r:mI K G (.tup [p,q,s]) v):∃t a1 a2 a3,v= .ref t/\G t=aA (.tup [a1,a2,a3])/\mI K G p a1/\mI K G q a2/\mI K G s a3:=by
 cases r with
 |tup h r=>cases r with
  |cons h1 r=>cases r with
   |cons h2 r=>cases r with
    |cons h3 r=>cases r;exact⟨_,_,_,_,rfl,h,h1,h2,h3⟩
def Xi(K:ad):Prop:=∀a o n,K.lookup a=aA o->o.cls= .type "list"->o.data= .seq #[] n->False
theorem Xi.old{F:Hp}{a:aq}(h:Xi K)(o:Pe K F a []):∃q,F a=aA (.frz q (.lst [])):=by
 rcases o with o|⟨ob,mC,n,e1,e2,_,e3,_,e4⟩
 .exact o
 .have:mC= #[]:=by
   cases mC with
   |mk l=>have e4:Z1 [] l:=e4;cases e4;rfl
  subst this;exact(h a ob n e1 e2 e3).elim
section
variable{H0 H8 G:Hp}{m:Nat}
theorem Is{xs:List D}{v:V}(s:Zi G H8)(hn:∀b us,G b=aA (.lst us)->us=[]\/H0 b=aB)(h:PrL m xs)(r:mI K G (.lst xs) v):∃a,v= .ref a/\Mu H0 H8 m a:=by
 obtain⟨h1,h2,h3⟩:=h;cases r with
 | @lst a _ vs hq o r=>
  cases r with
  |nil=>exact m_ rfl h1
  |cons r0 rt=>
   obtain⟨p,q,rfl⟩:=h3 _ ac;have hl:=rt.length;obtain⟨t,a1,a2,rfl,et⟩:=rY r0;rcases o with o|⟨_,o⟩
   .refine⟨a,rfl,?_,t,_,a1,a2,s _ _ o,by rw[<-hl];rw[bh]at h2;omega,s _ _ et⟩;rcases hn _ _ o with z|z
    .cases z
    .exact z
   .obtain⟨i,e⟩:=o _ ac;cases e
theorem xo{d:D}{v:V}(nk:Xi K)(s:Zi G H8)(hn:∀b us,G b=aA (.lst us)->us=[]\/H0 b=aB)(h:HpN m d)(r:mI K G d v):HV H0 H8 m v:=by
 obtain⟨xs,ys,zs,rfl,h1,h2,h3,h4⟩:=h;obtain⟨t,a1,a2,a3,rfl,et,r1,r2,r3⟩:=Ax r;obtain⟨l0,rfl,m0⟩:=Is s hn h1 r1;have hy:∃l1,a2= .ref l1/\(Mu H0 H8 m l1\/H8 l1=aA (.lst [])\/∃o,H8 l1=aA (.frz o (.lst []))):=by
  rcases h2 with rfl|h2
  .cases r2 with
   | @lst a _ vs hq o r=>
    cases r;rcases o with o|⟨o,_⟩
    .exact⟨a,rfl,.inr (.inl (s _ _ o))⟩
    .obtain⟨q,o⟩:=nk.old o;exact⟨a,rfl,.inr (.inr ⟨q,s _ _ o⟩)⟩
  .obtain⟨l1,e,m1⟩:=Is s hn h2 r2;exact⟨l1,e,.inl m1⟩
 obtain⟨l1,rfl,m1⟩:=hy;cases r3 with
 | @lst l2 _ ws hq o r=>
  have hw:H8 l2=aA (.lst ws)\/∃o,H8 l2=aA (.frz o (.lst ws)):=by
   rcases o with o|⟨o,oi⟩
   .exact .inl (s _ _ o)
   .have hz:zs=[]:=by
     cases zs with
     |nil=>rfl
     |cons z0 zt=>obtain⟨i,e⟩:=oi z0 ac;obtain⟨f,v,ns,e1,_⟩:=h4 z0 ac;rw[e1]at e;cases e
    subst hz;cases r;obtain⟨q,o⟩:=nk.old o;exact .inr ⟨q,s _ _ o⟩
  refine⟨t,l0,l1,l2,ws,rfl,s _ _ et,m0,m1,?_,hw,by rw[<-r.length];exact h3,?_⟩
  .rintro⟨_,t2,rest,b1,b2,e1,_,e2⟩;have ew:ws= .ref t2::rest:=by
    rcases hw with z|⟨o,z⟩
    .rw[z]at e1;cases e1;rfl
    .rw[z]at e1;cases e1
   subst ew;cases r with
   |cons r0 rt=>obtain⟨f,v,ns,rfl,_⟩:=h4 _ ac;obtain⟨t3,c1,c2,c3,e3,e4,_⟩:=Ax r0;cases e3;rw[s _ _ e4]at e2;cases e2
  .intro w hw';obtain⟨n,ZL,rfl⟩:=d5 hw';obtain⟨e,he,re⟩:=r.getV (au ZL);obtain⟨f,v,ns,rfl,hp⟩:=h4 e (b9 he);obtain⟨t3,c1,c2,c3,e3,e4,_,_,rn⟩:=Ax re;obtain⟨l,rfl,ml⟩:=Is s hn hp rn;exact⟨t3,c1,c2,l,e3,s _ _ e4,ml⟩
end
section
variable{Z:mF K}{F H0 H8:Hp}{δ:Ym}{m:Nat}{j k1 k2 k3:Nat}{c c' d d':Str}
theorem tm{E:Ends}{σ:L2.St}{a:aq}{vs:List V}(h:Nb Z F H0 H8 δ m m σ H8)(hj:δ[j]? =aA aB)(h1:δ[k1]? =aA aB)(h2:δ[k2]? =aA aB)(h3:δ[k3]? =aA aB)(n1:k1≠j)(n2:k2≠j)(n3:k3≠j)(ha:H8 a=aA (.lst vs))(hn:¬Mu H0 H8 m a)(hv:∀v∈vs,HV H0 H8 m v)(hB:m+vs.length*(m+1)<cj)
  (k:∀ZD H' own,SR Z F H' ZD δ own->E.nx ZD H'):∃W:Nat->Nat->L2.St->Hp->Prop,(∃mm,W 0 mm σ H8)/\∀i mm σ H,W i mm σ H->
   ((Itl K a).stop i H/\E.nx σ H)\/((Itl K a).go i H/\∃N:L2.St->Hp->Prop,(∀ZD H',N ZD H'->∃m',m'<mm/\W (i+1) m' ZD H')/\∀x H',(Itl K a).yld i H x H'->W9 j x σ H' λXJ H2=>Gg (Dv K j c c') (Gg (tIn K j k1 k2 k3 d d') (ME K j)) {E with nx:=N,ct:=N,bk:=E.nx} XJ H2):=by
 have sq:∀{B H''},Ch H0 H8 m B H''->J3 K H'' a vs:=fun{B H''} ch=>.inl (.inl (ch.out hn ha));refine⟨λn mm ZD H'=>mm=vs.length- n/\n<=vs.length/\Nb Z F H0 H8 δ m (m+n*(m+1)) ZD H',⟨vs.length,rfl,dk _,by rw[Nat.zero_mul];exact h⟩,?_⟩;rintro n mm ZD H' ⟨rfl,hle,hi⟩;have hi0:=hi;obtain⟨own',s',xH,TJ⟩:=hi;by_cases ZL:n<vs.length
 .have hx:vs[n]? =aA vs[n]:=au ZL;have hm:(n+1)*(m+1)<=vs.length*(m+1):=Nat.mul_le_mul_right _ ZL;have yR:(n+1)*(m+1)=n*(m+1)+(m+1):=Nat.succ_mul _ _;refine .inr ⟨⟨vs,_,sq TJ,hx⟩,λSX H9=>Nb Z F H0 H8 δ m (m+(n+1)*(m+1)) SX H9,λSX H9 a=>⟨vs.length- (n+1),by omega,rfl,ZL,a⟩,λx H9 hy=>?_⟩;obtain⟨e9,hy⟩:=hy;have e9:=e9.symm;subst e9;have ex:vs[n]=x:=by have:=hy vs (sq TJ);rw[hx]at this;exact cy.inj this
  have QY:j<ZD.length:=by rw[s'.len];exact(aw.mp hj).1
  refine pV (hi0.set hj x) h1 h2 h3 n1 n2 n3 (c9 QY) (hv x (by rw[<-ex];exact List.getElem_mem ZL)) (by omega) λXJ H2 i2=>?_;show Nb Z F H0 H8 δ m (m+(n+1)*(m+1)) XJ H2;rw[yR];have:m+n*(m+1)+1+m=m+(n*(m+1)+(m+1)):=by omega
  rw[<-this];exact i2
 .exact .inl ⟨⟨vs,sq TJ,by omega⟩,k _ _ _ s'⟩
end
def Bk(J:List Nat)(δ:Ym):Ym:=δ.mapIdx λi o=>if i∈J then o else aB
structure NewC(J:List Nat)(δ:Ym)(g:List D->Option SV)(fd:FD)(n m:Nat)(hs:List D):Prop where
 ex:∃ds δ1 YI sv,fd (Bk J δ)=aA (ds,δ1)/\ds.length=YI.length/\(∀(i:Nat) (x y:D),ds[i]? =aA x->YI[i]? =aA y->Ag x y)/\YI.length=n/\g YI=aA sv/\sv.toD= .lst hs
 nw:Nw (.lst hs)
 hp:∀h∈hs,HpN m h
structure WildQ(J:List Nat)(i j k1 k2 k3 n:Nat)(g:List D->Option SV)(WX WW WV:FD)(T1:FT)(δ:Ym)(m:Nat)(hs1 hs2 hs3:List D):Prop where
 c1:NewC J δ g WX n m hs1
 c2:NewC J δ g WW n m hs2
 c3:NewC J δ g WV n m hs3
 fz:∀q∈J,∀sv,δ[q]? =aA (aA sv)->∃d,sv= .fz d
 t1:∃δ2,T1 (δ.set i (aA (.fz (.lst hs1))))=aA (aD,δ2)
 sz:m+(hs1.length+hs2.length+hs3.length)*(m+1)<cj
 iJ:i∉J
 li:i<δ.length
 lj:j<δ.length
 l1:k1<δ.length
 l2:k2<δ.length
 l3:k3<δ.length
 n1:k1≠j
 n2:k2≠j
 n3:k3≠j
abbrev Xj(i j k1 k2 k3:Nat)(δ:Ym):Ym:=((((δ.set i aB).set j aB).set k1 aB).set k2 aB).set k3 aB
open Classical in
def R3(J:List Nat)(i j k1 k2 k3 n:Nat)(g:List D->Option SV)(WX WW WV:FD)(T1:FT):FS:=λδ=>
 if∃m hs1 hs2 hs3,WildQ J i j k1 k2 k3 n g WX WW WV T1 δ m hs1 hs2 hs3 then aA (.nx (Xj i j k1 k2 k3 δ))else aB
theorem pU{J:List Nat}{i j k1 k2 k3 n:Nat}{g:List D->Option SV}{WX WW WV:FD}{T1:FT}{δ:Ym}{m:Nat}{hs1 hs2 hs3:List D}(h:WildQ J i j k1 k2 k3 n g WX WW WV T1 δ m hs1 hs2 hs3):R3 J i j k1 k2 k3 n g WX WW WV T1 δ=aA (.nx (Xj i j k1 k2 k3 δ)):=m6 ⟨_,_,_,_,h⟩
theorem U4{δ:Ym}{k q:Nat}(h:δ[q]? =aA aB):(δ.set k aB)[q]? =aA aB:=by
 rw[List.getElem?_set];split
 .rename_i z;subst z;rw[m6 (aw.mp h).1]
 .exact h
theorem G7{δ:Ym}{q:Nat}(h:q<δ.length):(δ.set q aB)[q]? =aA aB:=c9 h
theorem Nc{G:Hp}{hs:List D}{v:V}{m:Nat}(r:mI K G (.lst hs) v):∃a vs,v= .ref a/\J3 K G a vs/\mD K G hs vs:=by
 cases r with
 |lst h o r=>exact⟨_,_,rfl,h,r⟩
section
variable{Z:mF K}{H:Hp}{σ:L2.St}{E:Ends}
theorem tj {J : List Nat} {i j k1 k2 k3 n : Nat} {g : List D -> Option SV} {WX WW WV : FD} {T1 : FT} {tb1 : TS} {c c' d d' : Str} {E1 E2 E3 : XK} (nk : Xi K) (h : Z2 Z (R3 J i j k1 k2 k3 n g WX WW WV T1) E σ H) :
    Gg (Ku (O0 (Du (Wk K n g)) [] E1 (Cu K WX)) (W9 i)) (Gg (OH (Yh Z T1) tb1 Ih) (S8 (RM K (Va (T0 K) (Va (T0 K) (Uo i) (O0 (Du (Wk K n g)) [] E2 (Cu K WW))) (O0 (Du (Wk K n g)) [] E3 (Cu K WV)))) (W9 j) (Gg (Dv K j c c') (Gg (tIn K j k1 k2 k3 d d') (ME K j))))) E σ H := by
  obtain ⟨F, δ, own, fl, s, e, k⟩ := h;unfold R3 at e;split at e
  · rename_i hC
    cases e;obtain ⟨m, hs1, hs2, hs3, C⟩ := hC;have KY : (Bk J δ).length = δ.length := by unfold Bk; rw [List.length_mapIdx]
    have zf : ∀ (q : Nat) (sv : SV), (Bk J δ)[q]? = aA (aA sv) -> q ∈ J /\ δ[q]? = aA (aA sv) := λq sv e => by
      unfold Bk at e;rw [List.getElem?_mapIdx] at e;obtain ⟨o, e1, e2⟩ := cq.mp e;by_cases hq : q ∈ J
      · rw [m6 hq] at e2; subst e2; exact ⟨hq, e1⟩
      · rw [m4 hq] at e2; cases e2
    have VQ : ∀ (ZD : L2.St), (∀ q ∈ J, ZD[q]? = σ[q]?) -> ∀ (q : Nat) (sv : SV), (Bk J δ)[q]? = aA (aA sv) -> ∃ v d, sv = .fz d /\ ZD[q]? = aA (aA v) /\ mI K F d v := λZD KC q sv e => by
      obtain ⟨hq, e1⟩ := zf q sv e;obtain ⟨d, rfl⟩ := C.fz q hq sv e1;obtain ⟨v, e2, sh⟩ := s.at' q _ e1;have r : mI K F d v := by
        generalize own q = nn at sh;cases sh with
        | fz r => exact r
      exact ⟨v, d, rfl, by rw [KC q hq]; exact e2, r⟩
    have ap : Mh Z F own (λb => H b = aB) := λb hb => ⟨s.le.free hb, s.old.free hb, λq p hp z => by
      have := (s.ok q p hp).2.2;rw [z, hb] at this; cases this⟩
    have fresh : ∀ {H' : Hp}, Zi H H' -> ∀ b, H' b = aB -> H b = aB := λ{H'} sm b e => sm.free e;obtain ⟨ds1, δ1, ds1', sv1, a1, a2, a3, a4, a5, a6⟩ := C.c1.ex;obtain ⟨xA, δ2, ds2', zM, b1, b2, b3, b4, b5, b6⟩ := C.c2.ex;obtain ⟨ds3, XV, ds3', sv3, c1, c2, c3, c4, c5, c6⟩ := C.c3.ex;refine C6 s.le (by rw [KY]; exact s.len) (VQ σ λ_ _ => rfl) a1 a2 a3 a4 a5 (by rw [a6]; exact C.c1.nw) λv1 H2 G1 XY M_ r1 g1 f1 => ?_;rw [a6] at r1
    -- the test
    have s2 := (s.grow XY).blank i (aA v1);have SM : i < σ.length := by rw [s.len]; exact C.li
    have FU : (σ.set i (aA v1))[i]? = aA (aA v1) := c9 SM;have rW : mI K (wH (λb => H b = aB) H2 F) (.lst hs1) v1 := r1.mono λb o e => by
      by_cases hb : H b = aB
      · rw [x_ hb]; exact M_ _ _ e
      · rw [V4 hb]; exact (g1 b o e).resolve_right hb
    have sL := s2.look ap.drop FU rW;rw [List.set_set] at sL;obtain ⟨δt, ht⟩ := C.t1;refine ⟨_, _, _, aD, δt, sL, ht, λH3 F3 ZI Y_ ZT _ => ?_⟩;have ef : ∀ {p q : Prop}, q -> (if aD = aC then p else q) := λ{p q} z => by rw [m4 (by decide)]; exact z
    refine ef ?_;unfold Ih;dsimp only;have QN : ∀ q ∈ J, (σ.set i (aA v1))[q]? = σ[q]? := λq hq => cz (λ(z : i = q) => C.iJ (by rw [z]; exact hq));have QK : (σ.set i (aA v1)).length = (Bk J δ).length := by rw [gp, KY]; exact s.len
    have sH03 := XY.trans Y_;refine ⟨v1, FU, ?_⟩;refine C6 (s.le.trans sH03) QK (VQ _ QN) b1 b2 b3 b4 b5 (by rw [b6]; exact C.c2.nw) λv2 H4 G2 W_ GN r2 g2 f2 => ?_;rw [b6] at r2;obtain ⟨l1, XE, rfl, q1, OV⟩ := Nc (m := 0) r1;obtain ⟨l2, WN, rfl, q2, OT⟩ := Nc (m := 0) r2;have y1 := OV.length;have y2 := OT.length;have o6 : hs1.length + hs2.length + hs3.length <= (hs1.length + hs2.length + hs3.length) * (m + 1) := Nat.le_mul_of_pos_right _ (Nat.succ_pos m);have hsz := C.sz;refine .inr (.inr ⟨l1, l2, XE, WN, rfl, rfl, Yg (M_.trans (Y_.trans W_)) q1, Yg GN q2, by omega, λp hp => ?_⟩);have sp := Wq (o := HO.lst (XE ++ WN)) hp;have sH05 := (sH03.trans W_).trans sp;refine C6 (s.le.trans sH05) QK (VQ _ QN) c1 c2 c3 c4 c5 (by rw [c6]; exact C.c3.nw) λv3 H6 G3 RY GM r3 g3 f3 => ?_;rw [c6] at r3;obtain ⟨l3, vs3, rfl, q3, rs3⟩ := Nc (m := 0) r3;have y3 := rs3.length;have yI : H6 p = aA (.lst (XE ++ WN)) := RY _ _ Z8;refine .inr (.inr ⟨p, l3, XE ++ WN, vs3, rfl, rfl, .inl (.inl yI), Yg GM q3, by rw [av]; omega, λq hq => ?_⟩);have sq := Wq (o := HO.lst (XE ++ WN ++ vs3)) hq;have NI : Yo H6 q (.lst (XE ++ WN ++ vs3)) q = aA (.lst (XE ++ WN ++ vs3)) := Z8;generalize Yo H6 q (.lst (XE ++ WN ++ vs3)) = H8 at sq NI ⊢;have oq : Zi G1 H8 := M_.trans (Y_.trans (W_.trans (sp.trans (RY.trans sq))));have oo : Zi G2 H8 := GN.trans (sp.trans (RY.trans sq));have om : Zi G3 H8 := GM.trans sq;have zR : Zi H H8 := sH05.trans (RY.trans sq);have hv : ∀ v ∈ XE ++ WN ++ vs3, HV H H8 m v := λv hv => by
      have one : ∀ {G : Hp} {hs : List D} {vs : List V}, Zi G H8 -> (∀ b us, G b = aA (.lst us) -> us = [] \/ H b = aB) -> (∀ h ∈ hs, HpN m h) -> mD K G hs vs -> v ∈ vs -> HV H H8 m v := λ{G hs vs} sG hf hh rs hv => by obtain ⟨n, ZL, rfl⟩ := d5 hv;obtain ⟨e, he, re⟩ := rs.getV (au ZL);exact xo nk sG hf (hh e (b9 he)) re
      rcases ba.mp hv with hv | hv
      · rcases ba.mp hv with hv | hv
        · exact one oq f1 C.c1.hp OV hv
        · exact one oo (λb us e => (f2 b us e).imp id (fresh sH03 b)) C.c2.hp OT hv
      · exact one om (λb us e => (f3 b us e).imp id (fresh sH05 b)) C.c3.hp rs3 hv
    have nm : ¬Mu H H8 m q := λ⟨_, t, rest, x1, x2, e1, _, e2⟩ => by rw [NI] at e1;have e1 := HO.lst.inj (cy.inj e1);obtain ⟨t', l0, _, _, _, e3, e4, _⟩ := hv (.ref t) (by rw [e1]; exact ac);cases e3;rw [e4] at e2; cases e2
    refine .inl ⟨q, rfl, ⟨_, .inl (.inl NI)⟩, ?_⟩;have s8 := (((s2.grow (Y_.trans (W_.trans (sp.trans (RY.trans sq))))).drop j).drop k1).drop k2 |>.drop k3;have ap8 := (((ap.drop (i := i)).drop (i := j)).drop (i := k1)).drop (i := k2) |>.drop (i := k3);have L1 : ∀ {δ : Ym} {a : Nat}, (δ.set a aB).length = δ.length := λ{δ a} => gp;refine tm (δ := Xj i j k1 k2 k3 δ) (m := m) ⟨_, s8, ap8, Ch.refl (bc _)⟩ (U4 (U4 (U4 (G7 (by rw [L1]; exact C.lj))))) (U4 (U4 (G7 (by rw [L1, L1]; exact C.l1)))) (U4 (G7 (by rw [L1, L1, L1]; exact C.l2))) (G7 (by rw [L1, L1, L1, L1]; exact C.l3)) C.n1 C.n2 C.n3 NI nm hv (by rw [av, av, <- y1, <- y2, <- y3]; exact hsz) λZD H' own' s' => k ZD H' F own' (Zi.refl F) s'
  · cases e
end
end
section
variable{X:Cx}{Z:mF X.K}{a b c:cw}{pos:Pos}{k j n:Nat}{ps:List Str}{x:Str}{p:Pos}{es:List cw}
theorem vQ{fr:FD}(h:∀{Z:mF X.K},PA X es (Y3 Z fr)):PA X es (Cu X.K fr):=λpos n_ s σ H Q I q=>let⟨Z,q⟩:=q;h (Z:=Z) pos n_ s σ H Q I q
theorem Ay{g:List D->Option SV}{fr:FD}(S:Sv X.prog X.w X.K X.mg X.base Rn k x ps (Wk X.K n g))(hr:mO j X.A)(ha:∀{Z:mF X.K},PA X (a::es) (Y3 Z fr))(hj:k<=j:=by decide)(hg:Gl X x:=by rfl)(YB:(x==("__debug__":Str))=aD:=by decide)(he:az (a::es) X.env=(aD,gg a X.env)::az es X.env:=by rfl)(ZO:(gb pos (az es X.env)).any (·.1)=aD:=by rfl):
  PE X (.Call (.Name x p) (a::es) [] pos) (O0 (Du (Wk X.K n g)) [] (λ_ _ _=>False) (Cu X.K fr)):=
 let⟨_,_,F,b,c,d⟩:=S;Kv (FnOk.aged F) (hr.mono hj) hg b c d .nil GI (vQ ha) YB he ZO
theorem tf(i:Nat){g:List D->Option SV}{fr:FD}{y:Str}{p1 p2:Pos}(S:Sv X.prog X.w X.K X.mg X.base Rn k x ps (Wk X.K n g))(hr:mO j X.A)(hN:X.N.Nodup)(ha:∀{Z:mF X.K},PA X (a::es) (Y3 Z fr))(hj:k<=j:=by decide)(hg:Gl X x:=by rfl)(YB:(x==("__debug__":Str))=aD:=by decide)(he:az (a::es) X.env=(aD,gg a X.env)::az es X.env:=by rfl)(ZO:(gb p2 (az es X.env)).any (·.1)=aD:=by rfl)
  (hi:X.N[i]? =aA y:=by rfl) (hx:Loc X.env.scope y:=by first|exact Or.inl rfl|exact gv rfl) (hs:swapsWith (.Call (.Name x p) (a::es) [] p2) (aA (.Name y p1)) pos.line X.env=pure aD:=by rfl) (hf:X.fn y=aC\/X.env.scope.names.lookup y=aA .local:=by first|exact .inl rfl|exact .inr rfl):
  PS X (.Assign [.Name y p1] (.Call (.Name x p) (a::es) [] p2) pos) (Ku (O0 (Du (Wk X.K n g)) [] (λ_ _ _=>False) (Cu X.K fr)) (W9 i)):=
 S6 hN hi hx (Ay S hr ha hj hg YB he ZO) hs hf
theorem BO{ta tb:TE}(ha:PE X a ta)(hb:PE X b tb):PE X (.BinOp a .Add b pos) (Va (T0 X.K) ta tb):=CT He ha hb
theorem vP(j:Nat){y:Str}{ta:TE}{p1:Pos}{s1 s2 s3:Stmt}{t1 t2 t3:TS}(hp:PassesOwn (cf X.prog X.w) X.A X.env X.xe)(hc:X.calm=aC)(hN:X.N.Nodup)(hi:PE X a ta)(h1:PS X s1 t1)(h2:PS X s2 t2)(h3:PS X s3 t3)
  (hj:X.N[j]? =aA y:=by rfl) (hx:Loc X.env.scope y:=by first|exact Or.inl rfl|exact gv rfl) (hf:X.fn y=aC\/X.env.scope.names.lookup y=aA .local:=by first|exact .inl rfl|exact .inr rfl) (hs:∀x,foldedSetIterable a X.env x=pure x:=by intro _;rfl):
  PS X (.For (.Name y p1) a [s1,s2,s3] [] pos) (S8 (RM X.K ta) (W9 j) (Gg t1 (Gg t2 t3))):=
 S9 hp hc (AG hi) (Gi hN hj hx hf) (Ux h1 (Ux h2 (Kt h3))) hs
theorem BN{te:TE}{e:cw}{cc cd:Str}{j2 j3 jt:Nat}{q4 q5 q6 ZF ZC:Pos}(hb:PE X e te)
  (ZN:attributeBase e "append" X.env (gg e X.env)=gg e X.env:=by rfl)
  (YA:((gb ZC (az [.Tuple [.Constant (.str cc) j2 q4,.Constant (.str cd) j3 q5] jt q6] X.env)).all (λx=>!x.1)&&(backToKw ZC (keywordEach [] X.env)).all (λx=>x.1.isSome)&&decide ([Expr.Tuple [.Constant (.str cc) j2 q4,.Constant (.str cd) j3 q5] jt q6].length+([]:List Keyword).length+(if([]:List Keyword).isEmpty then 0 else 1)<30))=aC:=by rfl)
  (ZM:(ZF.endLine==ZC.line)=aC:=by rfl) (hs:az [.Tuple [.Constant (.str cc) j2 q4,.Constant (.str cd) j3 q5] jt q6] X.env=(aD,gg (.Tuple [.Constant (.str cc) j2 q4,.Constant (.str cd) j3 q5] jt q6) X.env)::az [] X.env:=by rfl)
  (hs1:az [.Constant (.str cc) j2 q4,.Constant (.str cd) j3 q5] X.env=(aD,gg (.Constant (.str cc) j2 q4) X.env)::az [.Constant (.str cd) j3 q5] X.env:=by rfl) (hs2:az [.Constant (.str cd) j3 q5] X.env=(aD,gg (.Constant (.str cd) j3 q5) X.env)::az [] X.env:=by rfl)
  (ZO:(gb ZC (az [] X.env)).any (·.1)=aD:=by rfl) (XQ:swapsWith (.Call (.Attribute e "append" ZF) [.Tuple [.Constant (.str cc) j2 q4,.Constant (.str cd) j3 q5] jt q6] [] ZC) aB pos.line X.env=pure aD:=by rfl):
  PS X (.Expr (.Call (.Attribute e "append" ZF) [.Tuple [.Constant (.str cc) j2 q4,.Constant (.str cd) j3 q5] jt q6] [] ZC) pos) (Gh (tBM X.K "list" Qf te (tZz cc cd))):=
 B5 (Iq PySem.F.plainAttrs_list PySem.F.slot_list_append PySem.F.type_list_append B6 hb (W5 (AT (W5 Kr (W5 Kr Jl hs2) hs1)) Jl hs) ZN YA ZM hs ZO) XQ
theorem IZ(j:Nat){y:Str}{i:Int}{j1:Nat}{q1 q2 q3:Pos}(hb:PE X (.Name y q1) (Uo j)):PE X (.Subscript (.Name y q1) (.Constant (.int i) j1 q2) q3) (Va (rIx X.K) (Uo j) (tC (.int i))):=GD Vh hb AZ (by intro _ _;rfl)
theorem vO{te:TE}{e:cw}{ZF ZC:Pos}(hb:PE X e te)(ZN:attributeBase e "clear" X.env (gg e X.env)=gg e X.env:=by rfl)
  (ZM:(ZF.endLine==ZC.line)=aC:=by rfl) (XQ:swapsWith (.Call (.Attribute e "clear" ZF) [] [] ZC) aB pos.line X.env=pure aD:=by rfl):
  PS X (.Expr (.Call (.Attribute e "clear" ZF) [] [] ZC) pos) (Gh (MQ X.K "list" ID te)):=
 B5 (AO PySem.F.plainAttrs_list PySem.F.slot_list_clear PySem.F.type_list_clear vR hb ZN ZM) XQ
theorem xn(k1 k2 k3:Nat){x1 x2 x3:Str}{ta:TE}{kk:Nat}{p1 p2 p3 tp:Pos}{s1:Stmt}{t1:TS}(hp:PassesOwn (cf X.prog X.w) X.A X.env X.xe)(hc:X.calm=aC)(hN:X.N.Nodup)(hi:PE X a ta)(h1:PS X s1 t1)
  (e1:X.N[k1]? =aA x1:=by rfl) (l1:Loc X.env.scope x1:=by first|exact Or.inl rfl|exact gv rfl) (f1:X.fn x1=aC\/X.env.scope.names.lookup x1=aA .local:=by first|exact .inl rfl|exact .inr rfl)
  (e2:X.N[k2]? =aA x2:=by rfl) (l2:Loc X.env.scope x2:=by first|exact Or.inl rfl|exact gv rfl) (f2:X.fn x2=aC\/X.env.scope.names.lookup x2=aA .local:=by first|exact .inl rfl|exact .inr rfl)
  (e3:X.N[k3]? =aA x3:=by rfl) (l3:Loc X.env.scope x3:=by first|exact Or.inl rfl|exact gv rfl) (f3:X.fn x3=aC\/X.env.scope.names.lookup x3=aA .local:=by first|exact .inl rfl|exact .inr rfl)
  (g1:(gx [.Name x1 p1,.Name x2 p2,.Name x3 p3] X.env).map (·.2)=assign (.Name x1 p1) X.env::(gx [.Name x2 p2,.Name x3 p3] X.env).map (·.2):=by rfl) (g2:(gx [.Name x2 p2,.Name x3 p3] X.env).map (·.2)=assign (.Name x2 p2) X.env::(gx [.Name x3 p3] X.env).map (·.2):=by rfl) (g3:(gx [.Name x3 p3] X.env).map (·.2)=assign (.Name x3 p3) X.env::(gx [] X.env).map (·.2):=by rfl)
  (hn:(gx [.Name x1 p1,.Name x2 p2,.Name x3 p3] X.env).length=3:=by rfl) (TZ:(gx [.Name x1 p1,.Name x2 p2,.Name x3 p3] X.env).findIdx? (·.1)=aB:=by rfl) (hs:∀x,foldedSetIterable a X.env x=pure x:=by intro _;rfl):
  PS X (.For (.Tuple [.Name x1 p1,.Name x2 p2,.Name x3 p3] kk tp) a [s1] [] pos) (S8 (RM X.K ta) (MO X.K 3 (Ma (W9 k1) (Ma (W9 k2) (Ma (W9 k3) MP)))) t1):=
 S9 hp hc (AG hi) (AX hc (Gj (Gi hN e1 l1 f1) (Gj (Gi hN e2 l2 f2) (Gj (Gi hN e3 l3 f3) X5 g3) g2) g1) hn TZ) (Kt h1) hs
theorem rX{J:List Nat}{i j k1 k2 k3 n:Nat}{g:List D->Option SV}{WX WW WV:FD}{T1:FT}{tb1:TS}{c c' d d':Str}{s1 s2 s3:Stmt}{rest:List Stmt}{f0:FS}(nk:Xi X.K)(h1:PS X s1 (Ku (O0 (Du (Wk X.K n g)) [] (λ_ _ _=>False) (Cu X.K WX)) (W9 i)))(h2:PS X s2 (OH (Yh Z T1) tb1 Ih))
  (h3:PS X s3 (S8 (RM X.K (Va (T0 X.K) (Va (T0 X.K) (Uo i) (O0 (Du (Wk X.K n g)) [] (λ_ _ _=>False) (Cu X.K WW))) (O0 (Du (Wk X.K n g)) [] (λ_ _ _=>False) (Cu X.K WV)))) (W9 j) (Gg (Dv X.K j c c') (Gg (tIn X.K j k1 k2 k3 d d') (ME X.K j)))))
  (hr:Gd X rest (Z2 Z f0)):Gd X (s1::s2::s3::rest) (Z2 Z (Z9 (R3 J i j k1 k2 k3 n g WX WW WV T1) f0)):=
 (Ux h1 (Ux h2 (Ux h3 hr))).imp λD σ H h=>tj nk (E:={D with nx:=Z2 Z f0 D}) (BA h)
end
theorem Nd{xs ys zs:List D}(h1:xs.length=ys.length)(h2:xs.length=zs.length)(h:∀(i:Nat) (x y z:D),xs[i]? =aA x->ys[i]? =aA y->zs[i]? =aA z->y=z):ys=zs:=by
 apply List.ext_getElem?;intro i;by_cases hi:i<xs.length
 .have e1:xs[i]? =aA xs[i]:=au hi;have e2:ys[i]? =aA (ys[i]'(by omega)):=au (by omega);have e3:zs[i]? =aA (zs[i]'(by omega)):=au (by omega);rw[e2,e3,h i _ _ _ e1 e2 e3]
 .rw[dj (by omega),dj (by omega)]
theorem Ag.uniq{d a:D}(h:Ag d a):∀b,Ag d b->a=b:=by
 induction h with
 |str x=>intro b k;cases k;rfl
 |int i=>intro b k;cases k;rfl
 |tup hl h ih=>intro b k;cases k with|tup WC h'=>rw[Nd hl WC λi x y z ex ey ez=>ih i x y ex ey z (h' i x z ex ez)]
 |lst hl h ih=>intro b k;cases k with|lst WC h'=>rw[Nd hl WC λi x y z ex ey ez=>ih i x y ex ey z (h' i x z ex ez)]
structure AgL(ds YI:List D):Prop where
 len:ds.length=YI.length
 ag:∀(i:Nat) (x y:D),ds[i]? =aA x->YI[i]? =aA y->Ag x y
theorem AgL.uniq{ds a b:List D}(h:AgL ds a)(k:AgL ds b):a=b:=Nd h.len k.len λi x y z ex ey ez=>(h.ag i x y ex ey).uniq z (k.ag i x z ex ez)
def Az(n:Nat)(g:List D->Option SV)(ds:List D)(d:D):Prop:=∃YI sv,AgL ds YI/\YI.length=n/\g YI=aA sv/\Nw sv.toD/\d=sv.toD
theorem Az.uniq{n:Nat}{g:List D->Option SV}{ds:List D}{d e:D}(h:Az n g ds d)(k:Az n g ds e):d=e:=by obtain⟨YI,sv,a,_,b,_,rfl⟩:=h;obtain⟨xA,zM,a2,_,b2,_,rfl⟩:=k;cases a.uniq a2;rw[b]at b2;cases b2;rfl
open Classical in
def Op(n:Nat)(g:List D->Option SV)(fd:FD):FE:=λδ=>(fd δ).bind λp=>if h:∃d,Az n g p.1 d then aA (.tmp (.fz (Classical.choose h)),p.2)else aB
theorem Ce{n:Nat}{g:List D->Option SV}{fd:FD}{δ δ1:Ym}{ds:List D}{d:D}(h1:fd δ=aA (ds,δ1))(h:Az n g ds d):Op n g fd δ=aA (.tmp (.fz d),δ1):=by
 unfold Op;rw[h1];dsimp only[da];have hx:∃d,Az n g ds d:=⟨d,h⟩
 rw[dif_pos hx,(ff hx).uniq h]
open Classical in
def Xk(F G:Hp):Hp:=λb=>if F b=aB then G b else F b
section
variable{K:ad}{Z:mF K}{F G H:Hp}{σ:L2.St}{δ:Ym}{own:Nat->Zr}
theorem Xl:Zi F (Xk F G):=λb o e=>by unfold Xk;rw[m4 (by rw[e];simp)];exact e
theorem Nf{b:aq}{o:HO}(e:Xk F G b=aA o):F b=aA o\/(F b=aB/\G b=aA o):=by
 unfold Xk at e;split at e
 .rename_i h;exact .inr ⟨h,e⟩
 .exact .inl e
theorem SR.addG{H1:Hp}(s:SR Z F H1 σ δ own)(sH:Zi H1 H)(sG:Zi G H)(hn:∀b o,G b=aA o->F b=aA o\/H1 b=aB):SR Z (Xk F G) H σ δ own:=by
 refine⟨λb o e=>?_,λb o e=>?_,s.old.trans sH,s.len,λi sv e=>?_,s.nod,λi p hp=>?_,s.sep⟩
 .rcases Nf e with z|⟨_,z⟩
  .exact sH _ _ (s.le _ _ z)
  .exact sG _ _ z
 .rcases Nf e with z|⟨n,z⟩
  .exact s.fro b o z
  .rcases hn b o z with y|y
   .rw[n]at y;cases y
   .exact .inr (s.old.free y)
 .obtain⟨v,a,b⟩:=s.at' i sv e;exact⟨v,a,b.mono Xl⟩
 .obtain⟨a,b,c⟩:=s.ok i p hp;refine⟨?_,b,sH _ _ c⟩;cases h:Xk F G p.1 with
  |none=>rfl
  |some o=>
   rcases Nf h with z|⟨_,z⟩
   .rw[a]at z;cases z
   .rcases hn _ _ z with y|y
    .rw[a]at y;cases y
    .rw[y]at c;cases c
theorem tZ{n:Nat}{g:List D->Option SV}{fd:FD}{Q:VK}{E':XK}(h:Zf Z (Op n g fd) σ H Q):O0 (Du (Wk K n g)) [] E' (Y3 Z fd) σ H Q:=by
 obtain⟨F,δ,own,rv,δ',s,e,k⟩:=h;unfold Op at e;obtain⟨⟨ds,δ1⟩,e1,e⟩:=aa.mp e;dsimp only at e;split at e
 .rename_i hx;have hs:=ff hx;generalize Classical.choose hx=d at hs e;cases e;obtain⟨YI,sv,ag,hn,e2,nw,rfl⟩:=hs;refine⟨F,δ,own,ds,_,s,e1,λvs H1 F1 ZB sH sF s1 r1=>?_⟩;show Du (Wk K n g) (vs++[]) H1 Q E';rw[gq];refine Fx s1.le r1 ag.len ag.ag hn e2 nw λv H2 G XY sG r hG _=>?_;have s2:=s1.addG XY sG hG;refine k v H2 _ ZB (sH.trans XY) (sF.trans Xl) s2 ⟨[],mR.fz (r.mono λb o z=>?_)⟩;rcases hG b o z with y|y
  .exact Xl _ _ y
  .unfold Xk;rw[m6 (s1.le.free y)];exact z
 .cases e
end
section
variable{X:Cx}{Z:mF X.K}{a:cw}{pos:Pos}{k j n:Nat}{ps:List Str}{x:Str}{p:Pos}{es:List cw}
theorem M5{g:List D->Option SV}{fr:FD}(S:Sv X.prog X.w X.K X.mg X.base Rn k x ps (Wk X.K n g))(hr:mO j X.A)(ha:PA X (a::es) (Y3 Z fr))(hj:k<=j:=by decide)(hg:Gl X x:=by rfl)(YB:(x==("__debug__":Str))=aD:=by decide)(he:az (a::es) X.env=(aD,gg a X.env)::az es X.env:=by rfl)(ZO:(gb pos (az es X.env)).any (·.1)=aD:=by rfl):
  PE X (.Call (.Name x p) (a::es) [] pos) (Zf Z (Op n g fr)):=
 let⟨_,_,F,b,c,d⟩:=S;(Kv (E:=λ_ _ _=>False) (FnOk.aged F) (hr.mono hj) hg b c d .nil GI ha YB he ZO).imp λ_ _ _ h=>tZ h
end
structure KeyW(ks:List D):Prop where
 key:∃k,∀d∈ks,IsKey k d
 ord:∃mJ:D->List Nat,(∀a∈ks,∀b∈ks,Ua 16 a b=aA (decide (mJ a<mJ b)))/\∀a∈ks,∀b∈ks,mJ a=mJ b->a=b
section
open PySem.Calls
section
variable{X:Cx}
def DW(K:ad):List V->Hp->VK->Prop:=λvs H Q=>∃l F ds ws,vs=[.ref l]/\Zi F H/\J3 K H l ws/\mD K F ds ws/\KeyW ds/\ws.length<64/\∀p q,Cs ds p->H q=aB->Q (.ref q) (Yo H q (.lst (p.map λi=>ws.getD i .non)))
theorem pT(hu:X.A.units+64<fj):Je X (.builtin "sorted") (DW X.K):=by
 intro n_ s σ H xs us Q I r h;obtain⟨l,F,ds,ws,rfl,le,hl,rr,ko,hz,q⟩:=h;obtain⟨u,rfl,ru⟩:=Oy r;cases ru;obtain⟨mC,rvi,⟨o,n,ho,VZ,_,hd⟩,_⟩:=I.list hl;have hlen:ds.length=mC.length:=L2.mD.lenV rr rvi;have MW:ws.length=mC.length:=rvi.length;obtain⟨mJ,he,_⟩:=id ko.ord;obtain⟨kb,SL⟩:=id ko.key;have TY:X.A.in1.in1.units+16<cLine:=by show X.A.units+1+1+16<fj;omega
 refine Am (KeyOk:=λj kv H=>mI X.K H (ds.getD j .non) kv) (O:=strKind.toKeyOrd) (key:=Fj mJ ds) I ⟨o,ho,VZ,n,hd⟩ (by omega) rvi (λj kv e=>?_) (Lz TY SL he hlen) ?hQ
 .have hj:j<ws.length:=(aw.mp e).1;have h1:=Gw rr j (by omega);have:ws.getD j .non=kv:=by rw[bi,e];rfl
  rw[this]at h1;exact h1.mono le
 case hQ=>
  intro p D s3 cc hp hs VN I3 fD gD;have sb:=L0 he hlen hp hs;generalize p.toList=p0 at sb gD;have WL:∀i∈p0,i<mC.length:=λi hi=>by have:=cr.mp (sb.1.mem_iff.mp hi);omega
  have new:Yc X.prog X.w (Yo H D (.lst (p0.map λi=>ws.getD i .non))) s3.heap D (.lst (p0.map λi=>ws.getD i .non)):=by refine⟨?_,p0.map λi=>mC.getD i cn,cc,Ry rvi WL,gD⟩;have:=sb.1.length_eq;rw[List.length_range]at this;rw[ah,this,d7];omega
  exact⟨.ref D,_,mE.trackO I3 VN fD.1 fD.2.1 fD.2.2.2.2.1 fD.2.2.2.2.2 new,rfl,q p0 D sb fD.1⟩
end
end
section
open PySem.Calls
variable{K:ad}
theorem Fy{ds a b:List D}(h:KeyW ds)(ha:Uj ds a)(hb:Uj ds b):a=b:=by
 obtain⟨mJ,he,hd⟩:=h.ord;refine List.Perm.eq_of_pairwise (le:=λa b=>L2.Ua 16 b a=aA aD) (λx y hx hy h1 h2=>?_) ha.2 hb.2 (ha.1.trans hb.1.symm);have mx:=ha.1.mem_iff.mp hx;have my:=hb.1.mem_iff.mp hy;rw[he _ my _ mx]at h1;rw[he _ mx _ my]at h2;have h1:¬mJ y<mJ x:=by simpa using h1
 have h2:¬mJ x<mJ y:=by simpa using h2
 exact hd x mx y my (List.le_antisymm (ck.mp h1) (ck.mp h2))
open Classical in
noncomputable def A8:List D->Option SV
 | [.lst xs]=>if h:(xs.length<64/\KeyW xs)/\∃out,Uj xs out then aA (.ol (Classical.choose h.2))else aB
 |_=>aB
theorem tY{xs out:List D}(hk:KeyW xs)(hl:xs.length<64)(so:Uj xs out):A8 [.lst xs]=aA (.ol out):=by
 unfold A8;dsimp only;have h:(xs.length<64/\KeyW xs)/\∃out,Uj xs out:=⟨⟨hl,hk⟩,out,so⟩
 rw[dif_pos h,Fy hk (ff h.2) so]
section
variable{Z:mF K}{H:Hp}{σ:L2.St}{Q:VK}{E:Ends}
theorem vN:Bc Z (DW K) A8:=by
 intro F H σ δ own vs ds sv Q s r e k;unfold A8 at e;split at e
 .rename_i xs;split at e
  .rename_i h;have so:=ff h.2;generalize Classical.choose h.2=out at so e;cases e;cases r with
   |cons h' t=>cases t;obtain⟨a,us,rfl,ha,ru⟩:=h'.lst s.le;refine⟨a,F,xs,us,rfl,s.le,ha,ru,h.1.2,by rw[<-mD.len2 ru];exact h.1.1,λp q hp hq=>?_⟩;have WL:∀i∈p,i<xs.length:=λi hi=>cr.mp (hp.1.mem_iff.mp hi);have eo:(p.map λi=>xs.getD i .non)=out:=Fy h.1.2 (Gz hp) so;have rp:=Cc ru WL;rw[eo]at rp;exact k.lst s rp hq
  .cases e
 .cases e
end
section
variable{X:Cx}{Z:mF X.K}{a b c:cw}{fa fb fc:FE}{pos:Pos}
theorem vM{p:Pos}(hv:X.A.units+64<fj)(hm:X.mg "sorted"=aB)(ha:PE X a (Zf Z fa))(hg:Gl X "sorted":=by rfl)(he:az [a] X.env=(aD,gg a X.env)::az [] X.env:=by rfl)(ZO:(gb pos (az [] X.env)).any (·.1)=aD:=by rfl):
  PE X (.Call (.Name "sorted" p) [a] [] pos) (Zf Z (Yi A8 (Ze fa Zo))):=Mz (pT hv) vN hm L2.Ui (Zt ha Ys he) hg (by decide) (by decide) he ZO
end
end
theorem rV{xs es:List cw}{k:Nat}{p:Pos}{env:Env}:az (.Tuple xs k p::es) env=(aD,gg (.Tuple xs k p) env)::az es env:=by rfl
theorem W6{X:Cx}{Z:mF X.K}{xs es:List cw}{k:Nat}{p:Pos}{fa:FE}{fr:FD}(ha:PE X (.Tuple xs k p) (Zf Z fa))(hr:PA X es (Y3 Z fr)):PA X (.Tuple xs k p::es) (Y3 Z (Za fa fr)):=Zk ha hr rV
theorem rT{es:List cw}{c:Const}{k:Nat}{p:Pos}{env:Env}:az (.Constant c k p::es) env=(aD,gg (.Constant c k p) env)::az es env:=by rfl
theorem Jh{X:Cx}{Z:mF X.K}{es:List cw}{c:Const}{k:Nat}{p:Pos}{fa:FE}{fr:FD}(ha:PE X (.Constant c k p) (Zf Z fa))(hr:PA X es (Y3 Z fr)):PA X (.Constant c k p::es) (Y3 Z (Za fa fr)):=Zk ha hr rT
theorem n5{K:ad}(h:(K.all λp=>match p.2.cls with| .type t=>(match p.2.data with| .seq xs _=>!(t=="list" &&xs.isEmpty)|_=>aC)|_=>aC)=aC):Xi K:=λa o n hk hc hd=>by
 have:∀(l:List (aq×Obj)),l.lookup a=aA o->(a,o)∈l:=λl=>by
  induction l with
  |nil=>intro e;cases e
  |cons q l ih=>
   intro e;obtain⟨b,o'⟩:=q;rw[List.lookup_cons]at e;by_cases hb:a=b
   .subst hb;simp at e;rw[e];exact ac
   .rw[beq_eq_false_iff_ne.mpr hb]at e;exact am _ (ih e)
 have:=List.all_eq_true.mp h _ (this K hk);rw[hc,hd]at this;simp at this
end L2
namespace My
open L2
theorem Z4{n:Nat}(h:n<=16777216):n<=PySem.sizeLine:=h
theorem Yk{n:Nat}(h:n<16777216):n<PySem.sizeLine:=h
theorem nL(c:Nat):(⟨#[c]⟩:Str).length=1:=rfl
theorem Sk{te:FE}{f:D->D}:∀(xs ys:List D),(∀x∈xs,∀zs,te [aA (.fz x),aA (.ol zs)]=aA (.tmp (.fz (f x)),[aA (.fz x),aA (.ol zs)]))->ys.length+xs.length<=16777216->
  Yw [.own,.acc] 1 (Zh 0) Qb te xs [aB,aA (.ol ys)]=aA [aB,aA (.ol (ys++xs.map f))]
 | [],ys,_,_=>by simp
 |x::xs,ys,h,hl=>by rw[bh]at hl;have ih:=Sk (te:=te) (f:=f) xs (ys++[f x]) (λy hy=>h y (am _ hy)) (by rw[av];simp;omega);have e1:=h x ac ys;have h4:ys.length<PySem.sizeLine:=Yk (by omega);simp[e1,h4];simpa using ih
theorem Bl{te:FE}{f:D->D}{c:Option SV}{j:Nat}:∀(xs ys:List D),(∀x∈xs,∀zs,te [aA (.fz x),c,aA (.ol zs)]=aA (.tmp (.fz (f x)),[aA (.fz x),c,aA (.ol zs)]))->ys.length+xs.length<=16777216->
  Yw [.own,.cap j,.acc] 2 (Zh 0) Qb te xs [aB,c,aA (.ol ys)]=aA [aB,c,aA (.ol (ys++xs.map f))]
 | [],ys,_,_=>by simp
 |x::xs,ys,h,hl=>by rw[bh]at hl;have ih:=Bl (te:=te) (f:=f) (c:=c) (j:=j) xs (ys++[f x]) (λy hy=>h y (am _ hy)) (by rw[av];simp;omega);have e1:=h x ac ys;have h4:ys.length<PySem.sizeLine:=Yk (by omega);simp[e1,h4];simpa using ih
theorem C7{f:D->D->Option Bool}:∀xs:List D,(∀x∈xs,f x x=aA aC)->Uh f xs xs=aA aC
 | [],_=>rfl
 |x::r,h=>by simp[h x ac,C7 r λy hy=>h y (am _ hy)]
end My
namespace My
open L2 StrLaws Builtin.Str
noncomputable def jl(y:List Nat):List (List Nat)->List Nat
 | []=>[]
 | [p]=>p
 |p::q::r=>p++y++jl y (q::r)
noncomputable def pos(n:Nat):Nat->List (List Nat)->List Nat
 |_,[]=>[]
 |_,[_]=>[]
 |a,p::q::r=>(a+p.length)::pos n (a+p.length+n) (q::r)
end My
namespace My
open L2
theorem G8{tg:FG}{body:FS}{d:D}{ds:List D}{δ δ1 δ2:Ym}(h1:tg.run d δ=aA δ1)(h2:body δ1=aA (.nx δ2)):Yp tg body (d::ds) δ=Yp tg body ds δ2:=by show(tg.run d δ).bind _=_;rw[h1,da,h2,da]
noncomputable abbrev S(l:List Nat):Str:=⟨l.toArray⟩
theorem DV(l:List Nat):(S l).length=l.length:=by show l.toArray.size=_;simp
theorem xm(a b:List Nat):S a++S b=S (a++b):=by
 show(⟨a.toArray++b.toArray⟩:Str)=⟨(a++b).toArray⟩
 simp
theorem xk{a b:List Nat}(h:S a=S b):a=b:=by have:a.toArray=b.toArray:=congrArg Str.cps h;simpa using this
theorem ER(x:Str):x=S x.cps.toList:=by cases x;simp
theorem vL(l:List Nat):(S l).cps.toList=l:=by simp
theorem u5{α:Type}(p:List α)(c:α):L2.atI (p++[c]) (-1)=aA c:=by
 unfold L2.atI L2.ixN;rw[av,f7,m4 (by decide),m6 (by omega)];have e:(-1+((p.length+1:Nat):Int)).toNat=p.length:=by omega
 rw[e];simp
theorem R4{α:Type}(p:List α)(i:Nat)(c:α)(h:p[i]? =aA c):L2.atI p (i:Int)=aA c:=by have hl:=(aw.mp h).1;unfold L2.atI L2.ixN;rw[m6 (by omega),m6 (by omega)];simpa using h
section
variable{κ:Type}[DecidableEq κ]
theorem Sl(k k':κ)(v:D):∀(ks:List κ) (vs:List D),k∈ks->ks.length=vs.length->look ks ((ks.zip vs).map λp=>if p.1=k then v else p.2) k'=if k=k' then aA v else look ks vs k'
 |a::ks,u::vs,hk,hl=>by
  rw[List.zip_cons_cons,bm];show(if a=k' then aA (if a=k then v else u)else look ks ((ks.zip vs).map λp=>if p.1=k then v else p.2) k')=if k=k' then aA v else(if a=k' then aA u else look ks vs k')
  by_cases ha:a=k'
  .subst ha;rw[m6 rfl,m6 rfl];by_cases hk2:a=k
   .subst hk2;rw[m6 rfl,m6 rfl]
   .rw[m4 hk2,m4 λe=>hk2 e.symm]
  .rw[m4 ha,m4 ha];by_cases hm:k∈ks
   .exact Sl k k' v ks vs hm (by simpa using hl)
   .have yg:k=a:=by
     rcases ay.mp hk with e|e
     .exact e
     .exact m_ e hm
    rw[m4 λe=>ha (yg.symm.trans e)];have:((ks.zip vs).map λp=>if p.1=k then v else p.2)=vs:=by
     have WC:ks.length=vs.length:=by simpa using hl
     clear hk hl ha;induction ks generalizing vs with
     |nil=>cases vs with
      |nil=>rfl
      |cons _ _=>simp at WC
     |cons b ks ih=>cases vs with
      |nil=>simp at WC
      |cons w vs=>rw[List.zip_cons_cons,bm,m4 λe=>hm (by rw[<-e];exact ac),ih vs (λh=>hm (am _ h)) (by simpa using WC)]
    rw[this]
 | [],_,hk,_=>nomatch hk
theorem Fz(k k':κ)(v:D):∀(ks:List κ) (vs:List D),k∉ks->ks.length=vs.length->look (ks++[k]) (vs++[v]) k'=if k=k' then aA v else look ks vs k'
 | [],[],_,_=>by show(if k=k' then aA v else aB)=_;rfl
 |a::ks,u::vs,hk,hl=>by
  show(if a=k' then aA u else look (ks++[k]) (vs++[v]) k')=if k=k' then aA v else(if a=k' then aA u else look ks vs k')
  by_cases ha:a=k'
  .rw[m6 ha,m6 ha,m4 λe=>hk (by rw[e,<-ha];exact ac)]
  .rw[m4 ha,m4 ha];exact Fz k k' v ks vs (λh=>hk (am _ h)) (by simpa using hl)
theorem rS(k k':κ)(v:D)(ks:List κ)(vs:List D)(hl:ks.length=vs.length):look (W4 ks vs k v).1 (W4 ks vs k v).2 k'=if k=k' then aA v else look ks vs k':=by
 unfold W4;split
 .rename_i h;exact Sl k k' v ks vs h hl
 .rename_i h;exact Fz k k' v ks vs h hl
theorem u4(k:κ)(v:D)(ks:List κ)(vs:List D)(hl:ks.length=vs.length):(W4 ks vs k v).1.length=(W4 ks vs k v).2.length/\(W4 ks vs k v).2.length<=vs.length+1:=by
 unfold W4;split
 .simp[hl]
 .simp[hl]
end
noncomputable abbrev RK(s n:Nat):List D:=(List.range' s n).map λi:Nat=>D.int (i:Int)
theorem R5(n:Nat):Md 0 n=RK 0 n:=by unfold Md;rw[List.range_eq_range'];refine gr λi _=>?_;simp
theorem Cf{tg:FG}{body:FS}{P:Nat->Ym->Prop}:∀(n s:Nat) (δ:Ym),P s δ->(∀i,s<=i->i<s+n->∀δ,P i δ->∃δ1 δ2,tg.run (.int (i:Int)) δ=aA δ1/\body δ1=aA (.nx δ2)/\P (i+1) δ2)->
  ∃δ',Yp tg body (RK s n) δ=aA (.nx δ')/\P (s+n) δ'
 |0,s,δ,h,_=>⟨δ,rfl,h⟩
 |n+1,s,δ,h,k=>by obtain⟨δ1,δ2,h1,h2,h3⟩:=k s (bc _) (by omega) δ h;obtain⟨δ',e,h'⟩:=Cf (tg:=tg) (body:=body) (P:=P) n (s+1) δ2 h3 λi hi hj=>k i (by omega) (by omega);refine⟨δ',?_,by rw[show s+(n+1)=s+1+n by omega];exact h'⟩;show Yp tg body (.int (s:Int)::RK (s+1) n) δ=_;rw[G8 h1 h2];exact e
end My
namespace My
open L2 StrLaws Builtin.Str
end My
namespace My
open L2
theorem M6(n:Nat)(xs:List D)(h:∀x∈xs,Wm n x x=aA aC):Wm (n+1) (.lst xs) (.lst xs)=aA aC:=by simp[C7 xs h]
theorem Ng(n:Nat)(xs:List D)(h:∀x∈xs,Wm n x x=aA aC):Wm (n+1) (.tup xs) (.tup xs)=aA aC:=by simp[C7 xs h]
theorem Dw(n:Nat)(x:Str):Wm (n+1) (.str x) (.str x)=aA aC:=by simp
abbrev NK:=L2.Zm
noncomputable def tE(s:List Nat):List Nat:=s.map (· +1)++[0]
theorem Mn:∀(s t u v:List Nat),(tE s++u<tE t++v)↔(s<t\/(s=t/\u<v))
 | [],[],u,v=>by show(0::u<0::v)↔_;rw[eh];simp
 | [],b::t,u,v=>by show(0::u<(b+1)::(tE t++v))↔_;rw[eh];simp
 |a::s,[],u,v=>by show((a+1)::(tE s++u)<0::v)↔_;rw[eh];simp
 |a::s,b::t,u,v=>by
  show((a+1)::(tE s++u)<(b+1)::(tE t++v))↔_;rw[eh,Mn s t u v,eh];constructor
  .rintro(h|⟨h1,h2|⟨h2,h3⟩⟩)
   .exact .inl (.inl (by omega))
   .exact .inl (.inr ⟨by omega,h2⟩)
   .exact .inr ⟨by rw[h2,show a=b by omega],h3⟩
  .rintro((h|⟨h1,h2⟩)|⟨h1,h2⟩)
   .exact .inl (by omega)
   .exact .inr ⟨by omega,.inl h2⟩
   .cases h1;exact .inr ⟨rfl,.inr ⟨rfl,h2⟩⟩
theorem IC:∀(s t u v:List Nat),tE s++u=tE t++v->s=t/\u=v:=by
 intro s;induction s with
 |nil=>intro t u v z;cases t with
  |nil=>exact⟨rfl,by simpa[tE]using z⟩
  |cons b t=>simp[tE]at z
 |cons a s ih=>intro t u v z;cases t with
  |nil=>simp[tE]at z
  |cons b t=>have z:(a+1)::(tE s++u)=(b+1)::(tE t++v):=z;obtain⟨z1,z2⟩:=gh.inj z;obtain⟨i1,i2⟩:=ih t u v z2;exact⟨by rw[i1,show a=b by omega],i2⟩
theorem A9{a b:Str}(h:a.cps.toList=b.cps.toList):a=b:=by rw[ER a,ER b,h]
def Ur:List Str->List Nat
 | []=>[0]
 |x::l=>1::(tE x.cps.toList++Ur l)
theorem Ea:∀{a b:List Str},Ur a=Ur b->a=b
 | [],[],_=>rfl
 | [],_::_,h=>by simp[Ur]at h
 |_::_,[],h=>by simp[Ur]at h
 |x::a,y::b,h=>by obtain⟨_,h2⟩:=gh.inj h;obtain⟨e1,e2⟩:=IC _ _ _ _ h2;rw[A9 e1,Ea e2]
theorem Ni(n:Nat)(x y:Str):Wm (n+1) (.str x) (.str y)=aA (decide (x=y)):=by simp
theorem Xm(n:Nat)(x y:Str):L2.Ua (n+1) (.str x) (.str y)=aA (decide (x.cps.toList<y.cps.toList)):=rfl
theorem Eb(n:Nat):∀a b:List Str,L2.Gv (Wm (n+1)) (L2.Ua (n+1)) (a.map D.str) (b.map D.str)=aA (decide (Ur a<Ur b))
 | [],[]=>by show aA aD=_;exact congrArg aA (by decide)
 | [],y::b=>by show aA aC=_;refine congrArg aA (m8 ?_).symm;show[0]<1::_;rw[eh];exact .inl (by decide)
 |x::a,[]=>by show aA aD=_;refine congrArg aA (m7 ?_).symm;show¬(1::_< [0]);rw[eh];rintro(h|⟨h,_⟩)<;> omega
 |x::a,y::b=>by
  show(Wm (n+1) (.str x) (.str y)).bind (λc=>if c=aC then L2.Gv (Wm (n+1)) (L2.Ua (n+1)) (a.map D.str) (b.map D.str)else L2.Ua (n+1) (.str x) (.str y))=_;rw[Ni,Eb n a b,Xm];have e:(Ur (x::a)<Ur (y::b))↔(x.cps.toList<y.cps.toList\/(x.cps.toList=y.cps.toList/\Ur a<Ur b)):=by
   show(1::(tE x.cps.toList++Ur a)<1::(tE y.cps.toList++Ur b))↔_;rw[eh,Mn];constructor
   .rintro(h|⟨_,h⟩)
    .omega
    .exact h
   .exact λh=>.inr ⟨rfl,h⟩
  by_cases h:x=y
  .subst h;have i:=d4 x.cps.toList;rw[m8 rfl];show aA (decide (Ur a<Ur b))=_;refine congrArg aA (decide_eq_decide.mpr ?_);rw[e];exact⟨λz=>.inr ⟨rfl,z⟩,λz=>z.elim (λz=>m_ z i) λz=>z.2⟩
  .rw[m7 h];show aA (decide (x.cps.toList<y.cps.toList))=_;refine congrArg aA (decide_eq_decide.mpr ?_);rw[e];exact⟨.inl,λz=>z.elim id λz=>m_ (A9 z.1) h⟩
theorem Ec(n:Nat):∀a b:List Str,∃c,Uh (Wm (n+1)) (a.map D.str) (b.map D.str)=aA c/\(c&&decide ((a.map D.str).length=(b.map D.str).length))=decide (a=b)
 | [],[]=>⟨aC,rfl,by simp⟩
 | [],y::b=>⟨aC,rfl,by simp⟩
 |x::a,[]=>⟨aC,rfl,by simp⟩
 |x::a,y::b=>by
  obtain⟨c,e1,e2⟩:=Ec n a b;refine⟨decide (x=y)&&c,?_,?_⟩
  .show(Wm (n+1) (.str x) (.str y)).bind (λb'=>(Uh (Wm (n+1)) (a.map D.str) (b.map D.str)).bind λc'=>aA (b'&&c'))=_;rw[Ni,e1];rfl
  .rw[Bool.and_assoc];have:decide (((x::a).map D.str).length=((y::b).map D.str).length)=decide ((a.map D.str).length=(b.map D.str).length):=by simp
   rw[this,e2];by_cases h:x=y
   .by_cases h2:a=b<;> simp[h,h2]
   .simp[h]
theorem Xn(n:Nat)(a b:List Str):Wm (n+2) (.tup (a.map D.str)) (.tup (b.map D.str))=aA (decide (a=b)):=by obtain⟨c,e1,e2⟩:=Ec n a b;show(Uh (Wm (n+1)) (a.map D.str) (b.map D.str)).bind (λb'=>aA (b'&&decide ((a.map D.str).length=(b.map D.str).length)))=_;rw[e1];show aA (c&&_)=_;rw[e2]
inductive OneK:NK->NK->Prop where
 |nm (a b:List Str):OneK (.inl a) (.inl b)
 |mk (n m:Nat) (a b:List Str):OneK (.inr ((n:Int),a)) (.inr ((m:Int),b))
def Wo:NK->List Nat
 | .inl l=>Ur l
 | .inr (n,l)=>n.toNat::Ur l
theorem Jt{a b:NK}(h:OneK a b)(e:Wo a=Wo b):a=b:=by
 cases h with
 |nm a b=>rw[Ea e]
 |mk n m a b=>obtain⟨e1,e2⟩:=gh.inj e;rw[Ea e2,show n=m by simpa using e1]
theorem Ed(n:Nat){a b:NK}(h:OneK a b):Wm (n+3) (nkD a) (nkD b)=aA (decide (a=b)):=by
 cases h with
 |nm a b=>show Wm (n+3) (.tup (a.map D.str)) (.tup (b.map D.str))=_;rw[show n+3=n+1+2 from rfl,Xn];exact congrArg aA (decide_eq_decide.mpr ⟨λz=>by rw[z],λz=>f6.inj z⟩)
 |mk n1 m1 a b=>
  have e:=Xn n a b;show(Uh (Wm (n+2)) [.int (n1:Int),.tup (a.map D.str)] [.int (m1:Int),.tup (b.map D.str)]).bind (λb'=>aA (b'&&decide (2=2)))=_;show((Wm (n+2) (.int (n1:Int)) (.int (m1:Int))).bind λb'=>((Wm (n+2) (.tup (a.map D.str)) (.tup (b.map D.str))).bind λc1=>(aA aC).bind λc2=>aA (c1&&c2)).bind λc'=>aA (b'&&c')).bind (λb'=>aA (b'&&decide (2=2)))=_;rw[e,show Wm (n+2) (.int (n1:Int)) (.int (m1:Int))=aA (decide ((n1:Int)=m1)) by simp];show aA _=_;refine congrArg aA ?_;by_cases h1:n1=m1
  .by_cases h2:a=b
   .subst h1 h2;simp
   .subst h1;have hf:decide ((Sum.inr ((n1:Int),a):NK)=Sum.inr ((n1:Int),b))=aD:=m7 λz=>h2 (Prod.mk.inj (Sum.inr.inj z)).2;rw[hf,m7 h2];simp
  .have hf:decide ((Sum.inr ((n1:Int),a):NK)=Sum.inr ((m1:Int),b))=aD:=m7 λz=>h1 (by have:=(Prod.mk.inj (Sum.inr.inj z)).1;omega);rw[hf,m7 (show¬(n1:Int)=m1 by omega)];simp
theorem Ka(n:Nat){a b:NK}(h:OneK a b):L2.Ua (n+4) (nkD a) (nkD b)=aA (decide (Wo a<Wo b)):=by
 cases h with
 |nm a b=>exact Eb (n+2) a b
 |mk n1 m1 a b=>
  have e:=Xn (n+1) a b;have e2:=Eb (n+1) a b;show(Wm (n+3) (.int (n1:Int)) (.int (m1:Int))).bind (λc=>if c=aC then(Wm (n+3) (.tup (a.map D.str)) (.tup (b.map D.str))).bind (λc=>if c=aC then aA aD else L2.Ua (n+3) (.tup (a.map D.str)) (.tup (b.map D.str)))else L2.Ua (n+3) (.int (n1:Int)) (.int (m1:Int)))=_;rw[e,show Wm (n+3) (.int (n1:Int)) (.int (m1:Int))=aA (decide ((n1:Int)=m1)) by simp];show(if decide ((n1:Int)=m1)=aC then(if decide (a=b)=aC then aA aD else L2.Gv (Wm (n+2)) (L2.Ua (n+2)) (a.map D.str) (b.map D.str))else aA (decide ((n1:Int)<m1)))=_;rw[e2];have el:(Wo (.inr ((n1:Int),a))<Wo (.inr ((m1:Int),b)))↔(n1<m1\/(n1=m1/\Ur a<Ur b)):=by show((n1:Int).toNat::Ur a<(m1:Int).toNat::Ur b)↔_;rw[eh];simp
  by_cases h1:n1=m1
  .rw[m6 (by simp[h1])];by_cases h2:a=b
   .rw[m6 (by simp[h2])];refine congrArg aA (m7 ?_).symm;rw[el];subst h1 h2;rintro(z|⟨_,z⟩)
    .omega
    .exact d4 _ z
   .rw[m4 (by simp[h2])];refine congrArg aA (decide_eq_decide.mpr ?_);rw[el];exact⟨λz=>.inr ⟨h1,z⟩,λz=>z.elim (λz=>by omega) λz=>z.2⟩
  .rw[m4 (by simp;omega)];refine congrArg aA (decide_eq_decide.mpr ?_);rw[el];exact⟨λz=>.inl (by omega),λz=>z.elim (λz=>by omega) λz=>m_ z.1 h1⟩
def U5(ks:List NK):Prop:=(∀k∈ks,∃(x:Str) (l:List Str),k= .inl (x::l))\/∀k∈ks,∃(n:Nat) (l:List Str),k= .inr ((n:Int),l)
theorem U5.one{ks:List NK}(h:U5 ks){a b:NK}(ha:a∈ks)(hb:b∈ks):OneK a b:=by
 rcases h with h|h
 .obtain⟨x,l,rfl⟩:=h a ha;obtain⟨y,m,rfl⟩:=h b hb;exact .nm _ _
 .obtain⟨x,l,rfl⟩:=h a ha;obtain⟨y,m,rfl⟩:=h b hb;exact .mk _ _ _ _
theorem U5.sub{ks js:List NK}(h:U5 ks)(hs:∀k∈js,k∈ks):U5 js:=h.imp (λh k hk=>h k (hs k hk)) λh k hk=>h k (hs k hk)
def RJ(d:D):List Nat:=Wo ((nk? d).getD (.inl []))
theorem Uk(k:NK):RJ (nkD k)=Wo k:=by unfold RJ;rw[Ol];rfl
theorem Kb{ks:List NK}(h:U5 ks)(nd:ks.Nodup):L2.mK (ks.map nkD):=by
 refine⟨?_,RJ,λa ha b hb=>?_,?_⟩
 .rcases h with h|h
  .refine⟨.str,λd hd=>?_⟩;obtain⟨k,hk,rfl⟩:=ax.mp hd;obtain⟨x,l,rfl⟩:=h k hk;exact .str _ _
  .refine⟨.int,λd hd=>?_⟩;obtain⟨k,hk,rfl⟩:=ax.mp hd;obtain⟨x,l,rfl⟩:=h k hk;exact .int _ _
 .obtain⟨k,hk,rfl⟩:=ax.mp ha;obtain⟨l,hl,rfl⟩:=ax.mp hb;rw[Uk,Uk];exact Ka 12 (h.one hk hl)
 .refine Cd.mpr ?_;rw[cu];refine List.Pairwise.map _ (R:=λa b=>a≠b/\a∈ks/\b∈ks) (λa b ⟨h1,h2,h3⟩ e=>h1 ?_) ?_
  .have e:RJ (nkD a)=RJ (nkD b):=e;rw[Uk,Uk]at e;exact Jt (h.one h2 h3) e
  .exact(f9.mp nd).imp fun{a b} z=>⟨z.2.2,z.1,z.2.1⟩
theorem rR{ks:List NK}{k x:NK}:x∈Mv ks k↔x∈ks\/x=k:=by
 unfold Mv;have e:(ks.any λz=>decide (z=k))=aC↔k∈ks:=by rw[List.any_eq_true];exact⟨λ⟨z,hz,e⟩=>by have:z=k:=m9 e;rw[<-this];exact hz,λh=>⟨k,h,m8 rfl⟩⟩
 split
 .rename_i h;exact⟨.inl,λz=>z.elim id λz=>by rw[z];exact e.mp h⟩
 .rw[ba,ak]
theorem u3{ks:List NK}{k:NK}(h:ks.Nodup):(Mv ks k).Nodup:=by
 unfold Mv;split
 .exact h
 .rename_i hn;refine dn.mpr ⟨h,by simp,λa ha b hb z=>hn ?_⟩;rw[ak.mp hb]at z;rw[List.any_eq_true];exact⟨a,ha,m8 z⟩
theorem Ee:∀(ks acc:List NK),acc.Nodup->(ks.foldl Mv acc).Nodup/\∀x,x∈ks.foldl Mv acc↔x∈acc\/x∈ks
 | [],acc,h=>⟨h,λx=>by simp⟩
 |k::ks,acc,h=>by obtain⟨a,b⟩:=Ee ks (Mv acc k) (u3 h);refine⟨a,λx=>?_⟩;rw[List.foldl_cons,b x,rR,ay];exact⟨λz=>by rcases z with(z|z)|z;(· exact .inl z);(· exact .inr (.inl z));exact .inr (.inr z),λz=>by rcases z with z|z|z;(· exact .inl (.inl z));(· exact .inl (.inr z));exact .inr z⟩
theorem Nj(ks:List NK):(Fq ks).Nodup:=(Ee ks [] cx).1
theorem M7(ks:List NK)(x:NK):x∈Fq ks↔x∈ks:=by rw[show Fq ks=ks.foldl Mv []from rfl,(Ee ks [] cx).2 x];simp
theorem uz(ks:List NK):(Fq ks).length<=ks.length:=b7 (Nj ks) λx hx=>(M7 ks x).mp hx
theorem vK{ks out:List NK}(h:U5 ks)(hl:ks.length<64)(hm:∀x,x∈out↔x∈ks)(hs:out.Pairwise λa b=>Wo a<Wo b):Aq ks=aA (.ol (out.map nkD)):=by
 have nd:out.Nodup:=hs.imp fun{a b} z e=>by rw[e]at z;exact d4 _ z
 have pm:out.Perm (Fq ks):=(List.perm_ext_iff_of_nodup nd (Nj ks)).mpr λx=>by rw[hm,M7]
 have hk:=h.sub λk hk=>(M7 ks k).mp hk;refine qR (by omega) (by have:=uz ks;omega) (Kb hk (Nj ks)) ⟨pm.map _,dw.mpr ?_⟩;refine(f9.mp hs).imp fun{a b} ⟨ha,hb,z⟩=>?_;rw[Ka 12 (h.one ((hm b).mp hb) ((hm a).mp ha))];exact congrArg aA (m7 λy=>d4 _ (List.lt_trans y z))
theorem Dx{ds out:List D}(hk:L2.mK ds)(hl:ds.length<64)(so:Uj ds out):L2.Mt ds ds=aA (.ol out):=by obtain⟨p,hp,e⟩:=L2.tR (ks:=ds) (xs:=ds) rfl hl hk;rw[e,C3 hk (Gz hp) so]
open Classical in
theorem Dy{α:Type}{f:α->D}{mJ:α->List Nat}{xs out:List α}{kk:L2.KK}(hk:∀a∈xs,L2.IsKey kk (f a))(ZL:∀a∈xs,∀b∈xs,L2.Ua 16 (f a) (f b)=aA (decide (mJ a<mJ b)))(nd:(xs.map mJ).Nodup)(hl:xs.length<64)
  (hp:out.Perm xs) (hs:out.Pairwise λa b=>¬mJ b<mJ a):L2.Mt (xs.map f) (xs.map f)=aA (.ol (out.map f)):=by
 have same:∀a∈xs,∀b∈xs,f a=f b->mJ a=mJ b:=λa ha b hb e=>by
  have h1:=ZL a ha b hb;have h2:=ZL b hb a ha;rw[<-e,ZL a ha a ha]at h1;rw[<-e,ZL a ha a ha]at h2;have i:¬mJ a<mJ a:=d4 _;have h1:decide (mJ a<mJ b)=aD:=by rw[<-cy.inj h1];exact m7 i
  have h2:decide (mJ b<mJ a)=aD:=by rw[<-cy.inj h2];exact m7 i
  exact List.le_antisymm (ck.mp (of_decide_eq_false h2)) (ck.mp (of_decide_eq_false h1))
 let e:D->List Nat:=λd=>if h:∃a,a∈xs/\f a=d then mJ (Classical.choose h)else[]
 have ee:∀a∈xs,e (f a)=mJ a:=λa ha=>by
  have h:∃a',a'∈xs/\f a'=f a:=⟨a,ha,rfl⟩
  show(if h:∃a',a'∈xs/\f a'=f a then mJ (Classical.choose h)else[])=mJ a;rw[dif_pos h];exact same _ (ff h).1 a ha (ff h).2
 have ko:L2.mK (xs.map f):=by
  refine⟨⟨kk,λd hd=>?_⟩,e,λa ha b hb=>?_,?_⟩
  .obtain⟨a,ha,rfl⟩:=ax.mp hd;exact hk a ha
  .obtain⟨x,hx,rfl⟩:=ax.mp ha;obtain⟨y,hy,rfl⟩:=ax.mp hb;rw[ee x hx,ee y hy];exact ZL x hx y hy
  .refine Cd.mpr ?_;rw[cu];have:xs.map (e∘f)=xs.map mJ:=gr λa ha=>ee a ha;rw[this];exact nd
 refine Dx ko (by rw[ah];exact hl) ⟨hp.map f,dw.mpr ?_⟩;refine(f9.mp hs).imp fun{a b} ⟨ha,hb,z⟩=>?_;rw[ZL b (hp.mem_iff.mp hb) a (hp.mem_iff.mp ha)];exact congrArg aA (m7 z)
abbrev Bm:=Str×Str×List NK
abbrev Zx(t:Bm):D:=.tup [.str t.1,.str t.2.1,.lst (t.2.2.map nkD)]
structure HP where
 ns:List NK
 ms:List NK
 fs:List Bm
abbrev Zs(h:HP):D:=.tup [.lst (h.ns.map nkD),.lst (h.ms.map nkD),.lst (h.fs.map Zx)]
def E7(k:NK):Prop:=∃(x:Str) (l:List Str),k= .inl (x::l)
def isM(k:NK):Prop:=∃(n:Nat) (l:List Str),k= .inr ((n:Int),l)
structure mS(h:HP):Prop where
 ne:h.ns≠[]
 nm:∀k∈h.ns,E7 k
 mr:∀k∈h.ms,isM k
 fl:∀t∈h.fs,∀k∈t.2.2,E7 k
theorem Sm(n:Nat):∀as bs:List NK,U5 (as++bs)->as.length=bs.length->Uh (Wm (n+3)) (as.map nkD) (bs.map nkD)=aA (decide (as=bs))
 | [],[],_,_=>rfl
 | [],_::_,_,h=>by simp at h
 |_::_,[],_,h=>by simp at h
 |a::as,b::bs,ho,hl=>by
  have h1:OneK a b:=ho.one (by simp) (by simp);have ih:=Sm n as bs (ho.sub λk hk=>by
   rcases ba.mp hk with z|z
   .simp[z]
   .simp[z]) (by simpa using hl)
  show(Wm (n+3) (nkD a) (nkD b)).bind (λb'=>(Uh (Wm (n+3)) (as.map nkD) (bs.map nkD)).bind λc'=>aA (b'&&c'))=_;rw[Ed n h1,ih];show aA _=_;refine congrArg aA ?_;by_cases h:a=b
  .by_cases h2:as=bs
   .simp[h,h2]
   .rw[m7 h2,m7 λz=>h2 (gh.inj z).2];simp
  .rw[m7 h,m7 λz=>h (gh.inj z).1];simp
theorem vJ(n:Nat){as bs:List NK}(ho:U5 (as++bs)):Wm (n+4) (.lst (as.map nkD)) (.lst (bs.map nkD))=aA (decide (as=bs)):=by
 show(if(as.map nkD).length=(bs.map nkD).length then Uh (Wm (n+3)) (as.map nkD) (bs.map nkD)else aA aD)=_;rw[ah,ah];by_cases h:as.length=bs.length
 .rw[m6 h,Sm n as bs ho h]
 .rw[m4 h];exact congrArg aA (m7 λz=>h (by rw[z])).symm
theorem vI(n:Nat)(k:NK)(h:E7 k\/isM k):Wm (n+3) (nkD k) (nkD k)=aA aC:=by
 have:OneK k k:=by
  rcases h with⟨x,l,rfl⟩|⟨x,l,rfl⟩
  .exact .nm _ _
  .exact .mk _ _ _ _
 rw[Ed n this];simp
theorem G9(n:Nat)(ks:List NK)(h:∀k∈ks,E7 k\/isM k):Wm (n+4) (.lst (ks.map nkD)) (.lst (ks.map nkD))=aA aC:=M6 (n+3) _ λx hx=>by obtain⟨k,hk,rfl⟩:=ax.mp hx;exact vI n k (h k hk)
theorem Dz(n:Nat)(t:Bm)(h:∀k∈t.2.2,E7 k):Wm (n+5) (Zx t) (Zx t)=aA aC:=Ng (n+4) _ λx hx=>by
 simp only[ay,List.not_mem_nil,or_false]at hx;rcases hx with rfl|rfl|rfl
 .exact Dw (n+3) _
 .exact Dw (n+3) _
 .exact G9 n _ λk hk=>.inl (h k hk)
theorem Xo(n:Nat)(h:HP)(ok:mS h):Wm (n+7) (Zs h) (Zs h)=aA aC:=Ng (n+6) _ λx hx=>by
 simp only[ay,List.not_mem_nil,or_false]at hx;rcases hx with rfl|rfl|rfl
 .exact G9 (n+2) _ λk hk=>.inl (ok.nm k hk)
 .exact G9 (n+2) _ λk hk=>.inr (ok.mr k hk)
 .exact M6 (n+5) _ λx hx=>by obtain⟨t,ht,rfl⟩:=ax.mp hx;exact Dz n t (ok.fl t ht)
theorem Ra(n:Nat)(hs:List HP)(ok:∀h∈hs,mS h):Wm (n+8) (.lst (hs.map Zs)) (.lst (hs.map Zs))=aA aC:=M6 (n+7) _ λx hx=>by obtain⟨h,hh,rfl⟩:=ax.mp hx;exact Xo n h (ok h hh)
def Wy(t:Bm):List Nat:=tE t.1.cps.toList++(tE t.2.1.cps.toList++[])
theorem rQ{s t:Bm}(h:Wy s=Wy t):s.1=t.1/\s.2.1=t.2.1:=by obtain⟨h1,h2⟩:=IC _ _ _ _ h;exact⟨A9 h1,A9 (IC _ _ _ _ h2).1⟩
theorem vH(s t:Bm)(hs:∀k∈s.2.2,E7 k)(h:Wy s=Wy t->s=t):L2.Ua 16 (Zx s) (Zx t)=aA (decide (Wy s<Wy t)):=by
 have el:(Wy s<Wy t)↔(s.1.cps.toList<t.1.cps.toList\/(s.1.cps.toList=t.1.cps.toList/\s.2.1.cps.toList<t.2.1.cps.toList)):=by
  unfold Wy;rw[Mn,Mn];constructor
  .rintro(z|⟨z,w|⟨_,w⟩⟩)
   .exact .inl z
   .exact .inr ⟨z,w⟩
   .exact m_ w (d4 _)
  .rintro(z|⟨z,w⟩)
   .exact .inl z
   .exact .inr ⟨z,.inl w⟩
 show(Wm 15 (.str s.1) (.str t.1)).bind (λc=>if c=aC then(Wm 15 (.str s.2.1) (.str t.2.1)).bind (λc=>if c=aC then(Wm 15 (.lst (s.2.2.map nkD)) (.lst (t.2.2.map nkD))).bind (λc=>if c=aC then aA aD else L2.Ua 15 (.lst (s.2.2.map nkD)) (.lst (t.2.2.map nkD)))else L2.Ua 15 (.str s.2.1) (.str t.2.1))else L2.Ua 15 (.str s.1) (.str t.1))=_;rw[Ni,Ni,Xm,Xm];by_cases h1:s.1=t.1
 .rw[m8 h1];by_cases h2:s.2.1=t.2.1
  .rw[m8 h2];have e:s=t:=h (by unfold Wy;rw[h1,h2]);subst e;rw[G9 11 _ λk hk=>.inl (hs k hk)];show aA aD=_;exact congrArg aA (m7 (d4 _)).symm
  .rw[m7 h2];show aA (decide (s.2.1.cps.toList<t.2.1.cps.toList))=_;refine congrArg aA (decide_eq_decide.mpr ?_);rw[el,h1];exact⟨λz=>.inr ⟨rfl,z⟩,λz=>z.elim (λz=>m_ z (d4 _)) λz=>z.2⟩
 .rw[m7 h1];show aA (decide (s.1.cps.toList<t.1.cps.toList))=_;refine congrArg aA (decide_eq_decide.mpr ?_);rw[el];exact⟨.inl,λz=>z.elim id λz=>m_ (A9 z.1) h1⟩
theorem BM{α β:Type}{f:α->β}{xs:List α}(h:(xs.map f).Nodup){a b:α}(ha:a∈xs)(hb:b∈xs)(e:f a=f b):a=b:=by obtain⟨i,hi,rfl⟩:=d5 ha;obtain⟨j,hj,rfl⟩:=d5 hb;have:i=j:=(List.getElem?_inj (by rw[ah];exact hi) h).mp (by simp[hi,hj,e]);subst this;rfl
theorem uy{ts out:List Bm}(hf:∀t∈ts,∀k∈t.2.2,E7 k)(nd:(ts.map Wy).Nodup)(hl:ts.length<64)(hp:out.Perm ts)(hs:out.Pairwise λa b=>¬Wy b<Wy a):L2.Mt (ts.map Zx) (ts.map Zx)=aA (.ol (out.map Zx)):=
 Dy (mJ:=Wy) (kk:=.str) (λa _=>.str _ _) (λa ha b hb=>vH a b (hf a ha) λe=>BM nd ha hb e) nd hl hp hs
def Wh(h:HP):List Nat:=Wo (h.ns.headD (.inl []))
theorem xj(a b:HP)(oa:mS a)(ob:mS b)(h:Wh a=Wh b->a=b):L2.Ua 16 (Zs a) (Zs b)=aA (decide (Wh a<Wh b)):=by
 show(Wm 15 (.lst (a.ns.map nkD)) (.lst (b.ns.map nkD))).bind (λc=>if c=aC then(Wm 15 (.lst (a.ms.map nkD)) (.lst (b.ms.map nkD))).bind (λc=>if c=aC then(Wm 15 (.lst (a.fs.map Zx)) (.lst (b.fs.map Zx))).bind (λc=>if c=aC then aA aD else L2.Ua 15 (.lst (a.fs.map Zx)) (.lst (b.fs.map Zx)))else L2.Ua 15 (.lst (a.ms.map nkD)) (.lst (b.ms.map nkD)))else L2.Ua 15 (.lst (a.ns.map nkD)) (.lst (b.ns.map nkD)))=_;have on:U5 (a.ns++b.ns):=.inl λk hk=>by
  rcases ba.mp hk with z|z
  .exact oa.nm k z
  .exact ob.nm k z
 rw[vJ 11 on];by_cases hn:Wh a=Wh b
 .have e:=h hn;subst e;rw[m8 rfl,G9 11 _ λk hk=>.inr (oa.mr k hk)];have e3:Wm 15 (.lst (a.fs.map Zx)) (.lst (a.fs.map Zx))=aA aC:=M6 14 _ λx hx=>by obtain⟨t,ht,rfl⟩:=ax.mp hx;exact Dz 9 t (oa.fl t ht)
  rw[e3];show aA aD=_;exact congrArg aA (m7 (d4 _)).symm
 .obtain⟨x,as,ea⟩:=du oa.ne;obtain⟨y,bs,eb⟩:=du ob.ne;have NG:x≠y:=λz=>hn (by unfold Wh;rw[ea,eb,z];rfl);rw[m7 λz=>NG (by rw[ea,eb]at z;exact(gh.inj z).1)];show L2.Ua 15 (.lst (a.ns.map nkD)) (.lst (b.ns.map nkD))=_;unfold Wh;rw[ea,eb];have ok:OneK x y:=on.one (by rw[ea];simp) (by rw[eb];simp);show(Wm 14 (nkD x) (nkD y)).bind (λc=>if c=aC then _ else L2.Ua 14 (nkD x) (nkD y))=_;rw[Ed 11 ok,m7 NG];show L2.Ua 14 (nkD x) (nkD y)=_;exact Ka 10 ok
theorem BL{hs out:List HP}(ok:∀h∈hs,mS h)(nd:(hs.map Wh).Nodup)(hl:hs.length<64)(hp:out.Perm hs)(yD:out.Pairwise λa b=>¬Wh b<Wh a):L2.Mt (hs.map Zs) (hs.map Zs)=aA (.ol (out.map Zs)):=
 Dy (mJ:=Wh) (kk:=.lst) (λa _=>.lst _ _) (λa ha b hb=>xj a b (ok a ha) (ok b hb) λe=>BM nd ha hb e) nd hl hp yD
abbrev O7(h:HP):List NK:=h.ns++h.ms
abbrev Sn(a b:NK):Prop:=Wo a<Wo b
abbrev tLt(a b:Bm):Prop:=Wy a<Wy b
theorem D0{a b:List Nat}(h:a<b):¬b<a:=λz=>d4 _ (List.lt_trans h z)
theorem Ya{α:Type}{f:α->List Nat}{l:List α}(h:l.Pairwise λa b=>f a<f b):l.Nodup:=h.imp fun{a b} h e=>by subst e;exact d4 _ h
theorem Ja{α:Type}{f:α->List Nat}{l m:List α}(h1:l.Pairwise λa b=>f a<f b)(h2:m.Pairwise λa b=>f a<f b)(hm:∀x,x∈l↔x∈m):l=m:=
 List.Perm.eq_of_pairwise (λx y _ _ z1 z2=>m_ z2 (D0 z1)) h1 h2 ((List.perm_ext_iff_of_nodup (Ya h1) (Ya h2)).mpr hm)
structure mG(G:HP->Prop)(h:HP):Prop where
 ns_s:h.ns.Pairwise Sn
 ns_m:∀k,k∈h.ns↔∃a,G a/\k∈a.ns
 ms_s:h.ms.Pairwise Sn
 ms_m:∀k,k∈h.ms↔∃a,G a/\k∈a.ms
 fs_s:h.fs.Pairwise tLt
 fs_m:∀f v,(∃l,(f,v,l)∈h.fs)↔∃a,G a/\∃l,(f,v,l)∈a.fs
 fs_l:∀t∈h.fs,t.2.2.Pairwise Sn/\∀k,k∈t.2.2↔∃a,G a/\∃l,(t.1,t.2.1,l)∈a.fs/\k∈l
theorem mG.uniq{G G':HP->Prop}{h h':HP}(m:mG G h)(m':mG G' h')(e:∀a,G a↔G' a):h=h':=by
 have e1:h.ns=h'.ns:=Ja m.ns_s m'.ns_s λk=>by rw[m.ns_m,m'.ns_m];simp only[e]
 have e2:h.ms=h'.ms:=Ja m.ms_s m'.ms_s λk=>by rw[m.ms_m,m'.ms_m];simp only[e]
 have one:∀{G G':HP->Prop} {h h':HP},mG G h->mG G' h'->(∀a,G a↔G' a)->∀t∈h.fs,t∈h'.fs:=fun{G G' h h'} m m' e t ht=>by
  have h1:=(m.fs_m t.1 t.2.1).mp ⟨t.2.2,ht⟩;simp only[e]at h1;obtain⟨l,hl⟩:=(m'.fs_m t.1 t.2.1).mpr h1;have:t.2.2=l:=Ja (m.fs_l t ht).1 (m'.fs_l _ hl).1 λk=>by rw[(m.fs_l t ht).2,(m'.fs_l _ hl).2];simp only[e]
  rw[<-this]at hl;exact hl
 have e3:h.fs=h'.fs:=Ja m.fs_s m'.fs_s λt=>⟨one m m' e t,one m' m (λa=>(e a).symm) t⟩
 cases h;cases h';simp only at e1 e2 e3;rw[e1,e2,e3]
def shr(a b:HP):Prop:=∃t,t∈O7 a/\t∈O7 b
theorem Sq{a b:HP}(h:shr a b):shr b a:=let⟨t,h1,h2⟩:=h;⟨t,h2,h1⟩
inductive mM(S:HP->Prop):HP->HP->Prop where
 |here {a:HP}:S a->mM S a a
 |step {a b c:HP}:mM S a b->S c->shr b c->mM S a c
theorem mM.right{S:HP->Prop}{a b:HP}(h:mM S a b):S b:=by
 cases h with
 |here h=>exact h
 |step _ h _=>exact h
theorem mM.mono{S T:HP->Prop}(hs:∀a,S a->T a){a b:HP}(h:mM S a b):mM T a b:=by
 induction h with
 |here h=>exact .here (hs _ h)
 |step _ hc sh ih=>exact .step ih (hs _ hc) sh
theorem mM.congr{S T:HP->Prop}(hs:∀a,S a↔T a)(a b:HP):mM S a b↔mM T a b:=⟨mM.mono λa h=>(hs a).mp h,mM.mono λa h=>(hs a).mpr h⟩
structure mL(S:HP->Prop)(out:List HP):Prop where
 sorted:out.Pairwise λa b=>Wh a<Wh b
 each:∀h∈out,∃a,S a/\mG (mM S a) h
 all:∀a,S a->∃h∈out,mG (mM S a) h
theorem mL.uniq{S T:HP->Prop}{out WP:List HP}(p:mL S out)(q:mL T WP)(e:∀a,S a↔T a):out=WP:=by
 have one:∀{S T:HP->Prop} {out WP:List HP},mL S out->mL T WP->(∀a,S a↔T a)->∀h∈out,h∈WP:=fun{S T out WP} p q e h hh=>by obtain⟨a,sa,m⟩:=p.each h hh;obtain⟨h',PD,m'⟩:=q.all a ((e a).mp sa);rw[m.uniq m' (mM.congr e a)];exact PD
 exact Ja p.sorted q.sorted λh=>⟨one p q e h,one q p (λa=>(e a).symm) h⟩
end My
noncomputable section
namespace Gen
open L2
noncomputable def top(i:Nat):Stmt:=PySem.Challenge.pw_citeward_k37_two_heaps_joined.main.body.getD i (.Pass ⟨0,0,0,0⟩)
noncomputable abbrev IB:Nat:=1000
def Wa:FS:=
 Z9 (Yu 9 (Zj Ey (Zb 6) (Yi MH (Ze (Zj Mr (Zb 8) (Zb 4)) Zo)))) (Yu 7 (Zj Qu (Zb 7) (Zj Qe (Zb 2) (Zj Cm (Zj Qu (Zj Me (Zb 0) (Zj Qu (Zb 8) (Zg (.int 2)))) (Zb 9)) (Zg (.int 22))))))
def Q2:FS:=
 Z9 (Yu 7 (Zg (.str ""))) (Z9 (Bf (Vq (Ze (Zb 3) Zo)) (Zh 8) Wa) (Vr 5 (Zb 7)))
def Bo:FS:=
 Z9 (Yu 2 (Zg (.str "abcdefghjlmpqrstuvwxyz"))) (Z9 (Yu 3 (Zj Qu (Zg (.int 1)) (Zj Cm (Zb 0) (Zg (.int 8))))) (Z9 (Yu 4 (Zj Cm (Zj Me (Zb 0) (Zg (.int 8))) (Zb 3))) (Z9 (Yu 5 (Yn (Zd))) (Z9 (Bf (Vq (Ze (Zb 1) Zo)) (Zh 6) Q2) (U2 (Zb 5))))))
def Yy:List D->Option SV:=Qh Bo 10
def Bp:FS:=
 U2 (Zj Cm (Zj Ey (Zj Cm (Zb 0) (Zg (.int 2147483647))) (Zb 1)) (Zg (.int 2147483647)))
def Yz:List D->Option SV:=Qh Bp 2
def Ji:FT:=
 Yf (Zj Mr (Zj Cm (Zj Me (Zj Me (Zj Qe (Zb 2) (Zg (.int 0))) (Zj IL (Zg (.int 2)) (Zg (.int 3)))) (Zj Qu (Zj Ey (Zb 0) (Zb 0)) (Zg (.int 1)))) (Zg (.int 3))) (Zg (.int 0)))
def Rb:FE:=
 Zb 1
def Jj:FT:=
 Yf (Zj Mr (Zj Cm (Zj Me (Zj Qe (Zb 2) (Zg (.int 1))) (Zj Qu (Zj Ey (Zb 0) (Zb 0)) (Zg (.int 1)))) (Zg (.int 4))) (Zg (.int 0)))
def Rc:FE:=
 Zb 1
def Wz:FS:=
 Z9 (Yu 11 (Y2 2 Yz (Ze (Zj Qu (Zj Qu (Zj Qe (Zb 3) (Zg (.int 2))) (Zj Ey (Zg (.int 7)) (Zb 7))) (Zb 9)) (Ze (Zg (.int 48271)) (Zo))))) (Vo (Yf (Zj gtD (Zj Cm (Zb 11) (Zg (.int 3))) (Zg (.int 0)))) (Z9 (Yu 12 (tupF (Za (Zb 10) (Za (Zj Qe (Yn (Ru ["So","so","So.","A b"] (Zd))) (Zj Cm (Zj Me (Zb 11) (Zg (.int 3))) (Zg (.int 4)))) (Zd))))) (OF 6 (Zb 12) (Zj Qu (IH "dict" Lp (Zb 6) (Za (Zb 12) (Za (Yn (Zd)) (Zd)))) (Yn (Za (Zb 8) (Zd)))))) (Jo))
def W0:FS:=
 Bf (Of (Za (Zb 2) Zd)) (Y7 2 (Zw (Zh 9) (Zw (Zh 10) (Wb)))) Wz
def Qj:FE:=
 tupF (Za (Zj Qe (Zb 0) (Zg (.int 0))) (Za (Zj Qe (Zb 0) (Zg (.int 1))) (Za (Zj Qe (Zb 1) (Zb 0)) (Zd))))
def C8:FS:=
 Z9 (Yu 4 (Wf [.own,.own,.cap 3,.acc] 3 (Of (Za (Zb 0) Zd)) (Y7 2 (Zw (Zh 0) (Zw (Zh 1) (Wb)))) (Ji) Rb)) (Z9 (Vo (Yf (Zj Mr (Zb 4) (Yn (Zd)))) (Yu 4 (Yn (Za (Zj Qe (Zb 0) (Zj Cm (Zj Qe (Zb 3) (Zg (.int 0))) (Yi Pk (Ze (Zb 0) Zo)))) (Zd)))) (Jo)) (Z9 (Yu 5 (Wf [.own,.own,.cap 3,.acc] 3 (Of (Za (Zb 1) Zd)) (Y7 2 (Zw (Zh 0) (Zw (Zh 1) (Wb)))) (Jj) Rc)) (Z9 (Yu 6 (Hn)) (Z9 (Bf (Of (Za (Yi We (Ze (Zb 4) Zo)) Zd)) (Y7 2 (Zw (Zh 7) (Zw (Zh 8) (Wb)))) W0) (U2 (tupF (Za (Yi We (Ze (Zb 4) Zo)) (Za (Yi We (Ze (Zb 5) Zo)) (Za (Wf [.own,.cap 6,.acc] 2 (Jc (Yi Fm (Ze (Zb 6) Zo))) (Zh 0) (Qb) Qj) (Zd))))))))))
def Qx:List D->Option SV:=Qh C8 13
def Oq:FT:=
 Yf (Zj T6 (Zb 0) (Zj Qe (Zj Qe (Zb 1) (Zg (.int 0))) (Zg (.int 0))))
def Re:FE:=
 Zb 0
def Os:FT:=
 Yf (Zj T6 (Zb 0) (Zb 1))
def Rf:FE:=
 Zb 0
def Qy:FS:=
 Z9 (Vo (Yf (Zj Mr (Zj Cm (Zb 2) (Zg (.int 4))) (Zg (.int 1)))) (U2 (tupF (Za (Yi We (Ze (Zj Qu (Yn (Za (Zj Qe (Zj Qe (Zb 0) (Zg (.int 0))) (Zg (.int 0))) (Zd))) (Wf [.own,.cap 0,.acc] 2 (Jc (Zj Qe (Zb 1) (Zg (.int 0)))) (Zh 0) (Oq) Re)) Zo)) (Za (Zj Qe (Zb 1) (Zg (.int 1))) (Za (Zj Qe (Zb 1) (Zg (.int 2))) (Zd)))))) (Jo)) (Z9 (Vo (IV (Yf (Zj Mr (Zj Cm (Zb 2) (Zg (.int 4))) (Zg (.int 2)))) (Yf (Zj T6 (Zj Qe (Zb 0) (Zg (.int 1))) (Yn (Zd))))) (Z9 (Yu 3 (Zj Qe (Zj Qe (Zb 0) (Zg (.int 1))) (unF MF (Zg (.int 1))))) (U2 (tupF (Za (Zj Qe (Zb 1) (Zg (.int 0))) (Za (Yi We (Ze (Zj Qu (Yn (Za (Zb 3) (Zd))) (Wf [.own,.cap 3,.acc] 2 (Jc (Zj Qe (Zb 1) (Zg (.int 1)))) (Zh 0) (Os) Rf)) Zo)) (Za (Zj Qe (Zb 1) (Zg (.int 2))) (Zd))))))) (Jo)) (U2 (Zb 1)))
def Ws:List D->Option SV:=Qh Qy 4
def Q3:FS:=
 Z9 (Vo (Yf (Zj ltD (Zb 1) (Yi Pk (Ze (Zb 0) Zo)))) (U2 (Zj Qe (Zb 0) (Zb 1))) (Jo)) (U2 (Zg (.int 0)))
def Zu:List D->Option SV:=Qh Q3 2
def Us:FE:=
 tupF (Za (Zj Qe (Zb 1) (Zg (.int 0))) (Za (Zb 0) (Zd)))
def Ut:FE:=
 tupF (Za (Zj Qe (Zb 1) (Zg (.int 1))) (Za (Zb 0) (Zd)))
def Uu:FE:=
 Y2 2 Yz (Ze (Y2 2 Zu (Ze (Zb 1) (Ze (Zj Qu (Zg (.int 3)) (Zb 0)) (Zo)))) (Ze (Zg (.int 39373)) (Zo)))
def Uv:FE:=
 Y2 2 Yz (Ze (Y2 2 Zu (Ze (Zb 1) (Ze (Zj Qu (Zg (.int 6)) (Zb 0)) (Zo)))) (Ze (Zg (.int 69621)) (Zo)))
def Bq:FS:=
 Z9 (Yu 1 (Y2 2 Yy (Ze (Y2 2 Yz (Ze (Y2 2 Zu (Ze (Zb 0) (Ze (Zg (.int 0)) (Zo)))) (Ze (Zg (.int 16807)) (Zo)))) (Ze (Zg (.int 2)) (Zo))))) (Z9 (Yu 2 (Y2 2 Yy (Ze (Y2 2 Yz (Ze (Y2 2 Zu (Ze (Zb 0) (Ze (Zg (.int 1)) (Zo)))) (Ze (Zg (.int 16807)) (Zo)))) (Ze (Zg (.int 4)) (Zo))))) (Z9 (Yu 3 (Y2 2 Yy (Ze (Y2 2 Yz (Ze (Y2 2 Zu (Ze (Zb 0) (Ze (Zg (.int 2)) (Zo)))) (Ze (Zg (.int 16807)) (Zo)))) (Ze (Zg (.int 3)) (Zo))))) (Z9 (Yu 4 (Zj Qu (Wf [.own,.cap 1,.acc] 2 (Jc (Zb 2)) (Zh 0) (Qb) Us) (Wf [.own,.cap 1,.acc] 2 (Jc (Zb 2)) (Zh 0) (Qb) Ut))) (Z9 (Yu 5 (Yn (Za (tupF (Za (Zg (.int 0)) (Za (tupF (Za (Zg (.str "So")) (Zd))) (Zd)))) (Za (tupF (Za (Zg (.int 0)) (Za (tupF (Za (Zg (.str "so")) (Zd))) (Zd)))) (Za (tupF (Za (Zg (.int 1)) (Za (tupF (Ru ["So","a"] (Zd))) (Zd)))) (Za (tupF (Za (Zg (.int 1)) (Za (tupF (Ru ["a","So"] (Zd))) (Zd)))) (Za (tupF (Za (Zg (.int 2)) (Za (tupF (Za (Zg (.str "So")) (Zd))) (Zd)))) (Za (tupF (Za (Zg (.int 12)) (Za (tupF (Ru ["A b","c","c"] (Zd))) (Zd)))) (Zd))))))))) (Z9 (Yu 6 (Y2 4 Qx (Ze (Zb 4) (Ze (Zb 5) (Ze (Zb 3) (Ze (Wf [.own,.cap 0,.acc] 2 (Vq (Ze (Zg (.int 3)) Zo)) (Zh 0) (Qb) Uu) (Zo))))))) (Z9 (Yu 7 (Y2 4 Qx (Ze (Zb 4) (Ze (Zb 5) (Ze (Zb 3) (Ze (Wf [.own,.cap 0,.acc] 2 (Vq (Ze (Zg (.int 3)) Zo)) (Zh 0) (Qb) Uv) (Zo))))))) (U2 (tupF (Za (Zb 6) (Za (Y2 3 Ws (Ze (Zb 6) (Ze (Zb 7) (Ze (Zj Cm (Y2 2 Zu (Ze (Zb 0) (Ze (Zg (.int 9)) (Zo)))) (Zg (.int 4))) (Zo))))) (Zd)))))))))))
def Y8:List D->Option SV:=Qh Bq 8
def Ju:FS:=
 Ml 1 (Zb 4) 2 aD
def Wt:FS:=
 Bf (Jc (Zj Qu (Zj Qe (Zb 3) (Zg (.int 0))) (Zj Qe (Zb 3) (Zg (.int 1))))) (Zh 4) Ju
def Ot:FS:=
 Z9 (Yu 1 (Fv)) (Z9 (Bf (Of (Za (Zb 0) Zd)) (Y7 2 (Zw (Zh 2) (Zw (Zh 3) (Wb)))) Wt) (IG (Zb 1)))
def Qk:List D->Option SV:=Qh Ot 5
def Jv:FS:=
 Vo (Yf (Zj T8 (Zb 7) (Zb 3))) (Z9 (OF 3 (Zb 7) (Zg (.bl aC))) (Vr 4 (Zb 7))) (Jo)
def Rg:FS:=
 Bf (Jc (Zj OA (Zb 1) (Zb 6))) (Zh 7) Jv
def Jw:FT:=
 Yf (Zj gtD (Yi Pk (Ze (Zb 4) Zo)) (Zg (.int 0)))
def Br:FS:=
 Z9 (L9 5 0 4) (Bf (Jc (Zj Qu (Zj Qe (Zb 5) (Zg (.int 0))) (Zj Qe (Zb 5) (Zg (.int 1))))) (Zh 6) Rg)
def Xp:FS:=
 Z9 (Yu 3 (Ds 2 (Zg (.bl aC)))) (Z9 (Yu 4 (Yn (Za (Zb 2) (Zd)))) (Z9 (Jp Jw Br IB) (U2 (Yi P5 (Ze (Zb 3) Zo)))))
def Ef:List D->Option SV:=Qh Xp 8
def Jx:FS:=
 Ml 3 (tupF (Za (Zb 5) (Za (Zb 6) (Zd)))) 7 aC
def Wu:FS:=
 Z9 (Si 1 (Zj Qe (Zb 4) (Zg (.int 0)))) (Z9 (Si 2 (Zj Qe (Zb 4) (Zg (.int 1)))) (Bf (Jc (Zj Qe (Zb 4) (Zg (.int 2)))) (Y7 3 (Zw (Zh 5) (Zw (Zh 6) (Zw (Zh 7) (Wb))))) Jx))
def Ql:FE:=
 tupF (Za (Zj Qe (Zb 0) (Zg (.int 0))) (Za (Zj Qe (Zb 0) (Zg (.int 1))) (Za (Yi G4 (Ze (Zj OA (Zb 1) (Zb 0)) Zo)) (Zd))))
def Ou:FS:=
 Z9 (Yu 1 (Yn (Zd))) (Z9 (Yu 2 (Yn (Zd))) (Z9 (Yu 3 (Fv)) (Z9 (Bf (Jc (Zb 0)) (Zh 4) Wu) (Z9 (Yu 8 (Wf [.own,.cap 3,.acc] 2 (HC (Zb 3)) (Zh 0) (Qb) Ql)) (U2 (tupF (Za (Yi G4 (Ze (Zb 1) Zo)) (Za (Yi G4 (Ze (Zb 2) Zo)) (Za (Yi We (Ze (Zb 8) Zo)) (Zd))))))))))
def Qm:List D->Option SV:=Qh Ou 9
def Jy:FS:=
 OF 3 (Zb 6) (Zg (.bl aC))
def Ov:FE:=
 Zj Qe (Zb 1) (Zb 0)
def Qz:FS:=
 Vo (Yf (Zj T8 (Zb 4) (Zb 3))) (Z9 (Yu 5 (Y2 3 Ef (Ze (Zb 0) (Ze (Zb 1) (Ze (Zb 4) (Zo)))))) (Z9 (Bf (Jc (Zb 5)) (Zh 6) Jy) (Vr 2 (Y2 1 Qm (Ze (Wf [.own,.cap 0,.acc] 2 (Jc (Zb 5)) (Zh 0) (Qb) Ov) (Zo)))))) (Jo)
def Eg:FS:=
 Z9 (Yu 1 (Y2 1 Qk (Ze (Zb 0) (Zo)))) (Z9 (Yu 2 (Yn (Zd))) (Z9 (Yu 3 (GA)) (Z9 (Bf (Vq (Ze (Yi Pk (Ze (Zb 0) Zo)) Zo)) (Zh 4) Qz) (U2 (Yi We (Ze (Zb 2) Zo))))))
def Bt:List D->Option SV:=Qh Eg 7
def Xq:FS:=
 U2 (Y2 1 Bt (Ze (Zj Qu (Zb 0) (Zb 1)) (Zo)))
def Jd:List D->Option SV:=Qh Xq 2
def Jz:FT:=
 Yf (Zj Om (Zb 0) (Zj Qe (Zb 1) (Zg (.int 0))))
def Bu:FE:=
 Zb 0
def J1:FT:=
 Yf (Zj Om (Zb 0) (Zj Qe (Zb 1) (Zg (.int 1))))
def Bv:FE:=
 Zb 0
def Bw:FE:=
 slF Hr (Zb 0) (Rq) (Iz (Zg (.int 2)))
def Bx:FE:=
 slF Hr (Zb 0) (Rq) (Iz (Zg (.int 2)))
def J2:FT:=
 Yf (Zj Om (Zb 0) (Zb 1))
def Bz:FE:=
 Zb 0
def Wv:FS:=
 Vo (Yf (Zj Mr (slF Hr (Zb 9) (Rq) (Iz (Zg (.int 2)))) (Zb 7))) (Yu 8 (Zj Qu (Zb 8) (Wf [.own,.cap 8,.acc] 2 (Jc (Zj Qe (Zb 9) (Zg (.int 2)))) (Zh 0) (J2) Bz))) (Jo)
def Yt:FS:=
 Z9 (Yu 8 (Yn (Zd))) (Z9 (Bf (Jc (Zj Qu (Zj Qe (Zb 0) (Zg (.int 2))) (Zj Qe (Zb 1) (Zg (.int 2))))) (Zh 9) Wv) (Vo (orF (Yf (Zj Mr (Zb 6) (Zg (.int 0)))) (Yf (Zj T6 (Zj Qe (Zb 4) (Zj IM (Zb 6) (Zg (.int 1)))) (Zb 7)))) (Vr 5 (tupF (Za (Zj Qe (Zb 7) (Zg (.int 0))) (Za (Zj Qe (Zb 7) (Zg (.int 1))) (Za (Yi We (Ze (Zb 8) Zo)) (Zd)))))) (Jo)))
def Ox:FS:=
 Z9 (Yu 2 (Yi We (Ze (Zj Qu (Zj Qe (Zb 0) (Zg (.int 0))) (Wf [.own,.cap 0,.acc] 2 (Jc (Zj Qe (Zb 1) (Zg (.int 0)))) (Zh 0) (Jz) Bu)) Zo))) (Z9 (Yu 3 (Yi We (Ze (Zj Qu (Zj Qe (Zb 0) (Zg (.int 1))) (Wf [.own,.cap 0,.acc] 2 (Jc (Zj Qe (Zb 1) (Zg (.int 1)))) (Zh 0) (J1) Bv)) Zo))) (Z9 (Yu 4 (Yi A8 (Ze (Zj Qu (Wf [.own,.acc] 1 (Jc (Zj Qe (Zb 0) (Zg (.int 2)))) (Zh 0) (Qb) Bw) (Wf [.own,.acc] 1 (Jc (Zj Qe (Zb 1) (Zg (.int 2)))) (Zh 0) (Qb) Bx)) Zo))) (Z9 (Yu 5 (Yn (Zd))) (Z9 (Bf (Of (Za (Zb 4) Zd)) (Y7 2 (Zw (Zh 6) (Zw (Zh 7) (Wb)))) Yt) (U2 (tupF (Za (Zb 2) (Za (Zb 3) (Za (Zb 5) (Zd))))))))))
def Qn:List D->Option SV:=Qh Ox 10
def M8:FT:=
 Yf (Zj inN (Zb 0) (Zj Qe (Zb 1) (Zg (.int 0))))
def Nk:FE:=
 Zb 0
def M9:FT:=
 Yf (Zj inN (Zb 0) (Zj Qe (Zb 1) (Zg (.int 1))))
def Nl:FE:=
 Zb 0
def Nm:FT:=
 orF (IU (Yf (unF (MI "list") (Zb 7)))) (orF (Yf (Zj T6 (Zb 7) (Zb 4))) (Yf (Zj T6 (tupF (Za (Zb 5) (Za (Zb 6) (Zd)))) (Y2 1 Y8 (Ze (Zb 0) (Zo))))))
def IY:FS:=
 Z9 (Gm (Y7 2 (Zw (Zh 1) (Zw (Zh 2) (Wb)))) (Y2 1 Y8 (Ze (Zb 0) (Zo)))) (Z9 (Yu 3 (Zj Qu (Wf [.own,.cap 2,.acc] 2 (Jc (Zj Qe (Zb 1) (Zg (.int 0)))) (Zh 0) (M8) Nk) (Wf [.own,.cap 2,.acc] 2 (Jc (Zj Qe (Zb 1) (Zg (.int 1)))) (Zh 0) (M9) Nl))) (Z9 (Yu 4 (Yn (Za (Y2 2 Qn (Ze (Zb 1) (Ze (Zb 2) (Zo)))) (Zd)))) (Z9 (Vo (Yf (Zj Mr (Zb 3) (Yn (Zd)))) (Yu 4 (Yi We (Ze (Yn (Za (Zb 1) (Za (Zb 2) (Zd)))) Zo))) (Jo)) (Z9 (Gm (Y7 2 (Zw (Zh 5) (Zw (Zh 6) (Wb)))) (Y2 1 Y8 (Ze (Zb 0) (Zo)))) (Z9 (R3 [5,6] 7 8 9 10 11 2 Jd (Za (Yn (Za (Zb 5) (Zd))) (Za (Yn (Za (Zb 6) (Zd))) (Zd))) (Za (Yn (Za (Zb 5) (Zd))) (Za (Yn (Zd)) (Zd))) (Za (Yn (Zd)) (Za (Yn (Za (Zb 6) (Zd))) (Zd))) Nm) (Z9 (Vo (orF (Yf (Zj T6 (tupF (Za (Zb 5) (Za (Zb 6) (Zd)))) (Y2 1 Y8 (Ze (Zb 0) (Zo))))) (orF (Yf (Zj T6 (Op 2 Jd (Za (Yn (Za (Zb 5) (Zd))) (Za (Yn (Zd)) (Zd)))) (Yn (Za (Zb 1) (Zd))))) (Yf (Zj T6 (Op 2 Jd (Za (Yn (Zd)) (Za (Yn (Za (Zb 6) (Zd))) (Zd)))) (Yn (Za (Zb 2) (Zd))))))) (U2 (Zg (.bl aD))) (Jo)) (U2 (IT (Zj Mr (Op 2 Jd (Za (Yn (Za (Zb 6) (Zd))) (Za (Yn (Za (Zb 5) (Zd))) (Zd)))) (Zb 4)) (Zj Mr (Op 2 Jd (Za (Yn (Zd)) (Za (Yn (Zd)) (Zd)))) (Yn (Zd)))))))))))
def D1:List D->Option SV:=Qh IY 12
abbrev At(K:ad)(x:Str)(i:Nat):Prop:=∃f fd,AtF K x (top i) f fd
structure Env(K:ad)(mg:Str->Option aj):Prop where
 u:Und K mg
 nl:Xi K
 a0:At K "_law_names" 9
 a1:At K "_law_mixed" 8
 a2:At K "_law_heap" 10
 a3:At K "_law_mate" 12
 a4:At K "_law_cell_at" 7
 a5:At K "_law_drawn" 13
 a6:At K "holders_of" 3
 a7:At K "tied" 4
 a8:At K "join_heaps" 5
 a9:At K "joined" 2
 a10:At K "pour" 1
 a11:At K "_law_joined" 11
 a12:At K "law" 14
 z_enumerate:mg "enumerate"=aB
 z_int:mg "int"=aB
 z_isinstance:mg "isinstance"=aB
 z_len:mg "len"=aB
 z_list:mg "list"=aB
 z_range:mg "range"=aB
 z_set:mg "set"=aB
 z_sorted:mg "sorted"=aB
section
variable{P:cg}{w:c8}{K:ad}{mg:Str->Option aj}{base:d6}(E:Env K mg)
include E
theorem k0:Sv P w K mg base Rn 1 "_law_names" ["_law_number","_law_many"] (Wk K 2 Yy):=okS E.u E.a0 0 2 ["_law_number","_law_many","_law_letters","_law_size","_law_at","_law_names_here","_law_turn","_law_name","_law_k","_law_step"] Yy Bo λnd _ hr hu hv=>(Zn (Yl 2 nd Pl) (Zn (Yl 3 nd (Wr Zl (U3 (Zc 0) Zl))) (Zn (Yl 4 nd (U3 (Rr (Zc 0) Zl) (Zc 3))) (Zn (Yl 5 nd (Yr Zv)) (Zn (Ug dy rfl (Pn E.z_range (Zc 1)) (Z0 6 nd) (Zn (Yl 7 nd Pl) (Zn (Ug dy rfl (Pn E.z_range (Zc 3)) (Z0 8 nd) (Zn (Yl 9 nd (T9 (Zc 6) (v4 E.z_int (HU hv (Zc 8) (Zc 4))))) (Z5 (Yl 7 nd (Wr (Zc 7) (Z3 hu (Zc 2) (U3 (Wr (Rr (Zc 0) (Wr (Zc 8) Zl)) (Zc 9)) Zl))))))) (Z5 (Hh 5 (Zc 7)))))) (Z5 (Q9 (Zc 5))))))))
theorem k1:Sv P w K mg base Rn 1 "_law_mixed" ["_law_cell","_law_by"] (Wk K 2 Yz):=okS E.u E.a1 0 2 ["_law_cell","_law_by"] Yz Bp λnd _ hr hu hv=>(Z5 (Q9 (U3 (T9 (U3 (Zc 0) Zl) (Zc 1)) Zl)))
theorem k2:Sv P w K mg base Rn 2 "_law_heap" ["_law_names_here","_law_marks","_law_fields","_law_cells"] (Wk K 4 Qx):=okS E.u E.a2 1 4 ["_law_names_here","_law_marks","_law_fields","_law_cells","_law_own","_law_held","_law_told","_law_k","_law_name","_law_j","_law_field","_law_number","_law_pair"] Qx C8 λnd _ hr hu hv=>(Zn (R1 4 ["_law_k","_law_name","_law_cells",".acc"] nd (B8 E.z_enumerate (Zk (Zc 0) Zv)) (λnd=>(Gp rfl (Yv (Z0 0 nd) (Yv (Z0 1 nd) Od)))) (xt λ_=>(Mg hv (U3 (Rr (Rr (Z3 hu (Zc 2) Zl) (wq Zl Zl)) (Wr (T9 (Zc 0) (Zc 0)) Zl)) Zl) Zl)) ((Zc 1))) (Zn (T4 (Mg hv (Zc 4) (Yr Zv)) (Z5 (Yl 4 nd (Yr (Zk (Z3 hu (Zc 0) (U3 (Z3 hu (Zc 3) Zl) (Hg E.z_len (Zc 0)))) Zv)))) Jq) (Zn (R1 5 ["_law_k","_law_mark","_law_cells",".acc"] nd (B8 E.z_enumerate (Zk (Zc 1) Zv)) (λnd=>(Gp rfl (Yv (Z0 0 nd) (Yv (Z0 1 nd) Od)))) (xt λ_=>(Mg hv (U3 (Rr (Z3 hu (Zc 2) Zl) (Wr (T9 (Zc 0) (Zc 0)) Zl)) Zl) Zl)) ((Zc 1))) (Zn (Yl 6 nd sY) (Zn (Ug dy rfl (B8 E.z_enumerate (Zk (Js hv E.z_sorted (Zc 4)) Zv)) (Gp rfl (Yv (Z0 7 nd) (Yv (Z0 8 nd) Od))) (Z5 (Ug dy rfl (B8 E.z_enumerate (Zk (Zc 2) Zv)) (Gp rfl (Yv (Z0 9 nd) (Yv (Z0 10 nd) Od))) (Zn (Yl 11 nd (Yq (k1 E) hr (Zt (Wr (Wr (Z3 hu (Zc 3) Zl) (T9 Zl (Zc 7))) (Zc 9)) (Zt Zl Ys)))) (Z5 (T4 (DC (U3 (Zc 11) Zl) Zl) (Zn (Yl 12 nd (Wd (Zk (Zc 10) (Zk (Z3 hu (Yr (M3 [("So",_,_),("so",_,_),("So.",_,_),("A b",_,_)] Zv)) (U3 (Rr (Zc 11) Zl) Zl)) Zv)))) (Z5 (H_ 6 hu (Zc 12) (Wr (vq hu (Zc 6) (Zk (Zc 12) (Zk (Yr Zv) Zv))) (Yr (Zk (Zc 8) Zv)))))) Jq)))))) (Z5 (Q9 (Wd (Zk (Js hv E.z_sorted (Zc 4)) (Zk (Js hv E.z_sorted (Zc 5)) (Zk (W7 ["_law_pair","_law_told",".acc"] (Qc (uA rfl hv E.z_sorted (Zc 6))) (λnd=>(Z0 0 nd)) (xt0) ((Wd (Zk (Z3 hu (Zc 0) Zl) (Zk (Z3 hu (Zc 0) Zl) (Zk (Z3 hu (Zc 1) (Zc 0)) Zv)))))) Zv)))))))))))
theorem k3:Sv P w K mg base Rn 1 "_law_mate" ["_law_one","_law_other","_law_number"] (Wk K 3 Ws):=okS E.u E.a3 0 3 ["_law_one","_law_other","_law_number","_law_mark"] Ws Qy λnd _ hr hu hv=>(Zn (T4 (Mg hv (U3 (Zc 2) Zl) Zl) (Z5 (Q9 (Wd (Zk (Js hv E.z_sorted (Wr (Yr (Zk (Z3 hu (Z3 hu (Zc 0) Zl) Zl) Zv)) (W7 ["_law_name","_law_one",".acc"] (Qc (Z3 hu (Zc 1) Zl)) (λnd=>(Z0 0 nd)) (xt λ_=>(Gq hv (Zc 0) (Z3 hu (Z3 hu (Zc 1) Zl) Zl))) ((Zc 0))))) (Zk (Z3 hu (Zc 1) Zl) (Zk (Z3 hu (Zc 1) Zl) Zv)))))) Jq) (Zn (T4 (PW.pt (wO (Mg hv (U3 (Zc 2) Zl) Zl) (v6 (Gq hv (Z3 hu (Zc 0) Zl) (Yr Zv))))) (Zn (Yl 3 nd (Z3 hu (Z3 hu (Zc 0) Zl) (wF Zl))) (Z5 (Q9 (Wd (Zk (Z3 hu (Zc 1) Zl) (Zk (Js hv E.z_sorted (Wr (Yr (Zk (Zc 3) Zv)) (W7 ["_law_here","_law_mark",".acc"] (Qc (Z3 hu (Zc 1) Zl)) (λnd=>(Z0 0 nd)) (xt λ_=>(Gq hv (Zc 0) (Zc 1))) ((Zc 0))))) (Zk (Z3 hu (Zc 1) Zl) Zv))))))) Jq) (Z5 (Q9 (Zc 1)))))
theorem k4:Sv P w K mg base Rn 1 "_law_cell_at" ["_law_script","_law_k"] (Wk K 2 Zu):=okS E.u E.a4 0 2 ["_law_script","_law_k"] Zu Q3 λnd _ hr hu hv=>(Zn (T4 (xX (Zc 1) (Hg E.z_len (Zc 0))) (Z5 (Q9 (Z3 hu (Zc 0) (Zc 1)))) Jq) (Z5 (Q9 Zl)))
theorem k5:Sv P w K mg base Rn 3 "_law_drawn" ["_law_script"] (Wk K 1 Y8):=okS E.u E.a5 2 1 ["_law_script","_law_books","_law_keys","_law_fields","_law_names_here","_law_marks","_law_one","_law_other"] Y8 Bq λnd _ hr hu hv=>(Zn (Yl 1 nd (Yq (k0 E) hr (Zt (Yq (k1 E) hr (Zt (Yq (k4 E) hr (Zt (Zc 0) (Zt Zl Ys))) (Zt Zl Ys))) (Zt Zl Ys)))) (Zn (Yl 2 nd (Yq (k0 E) hr (Zt (Yq (k1 E) hr (Zt (Yq (k4 E) hr (Zt (Zc 0) (Zt Zl Ys))) (Zt Zl Ys))) (Zt Zl Ys)))) (Zn (Yl 3 nd (Yq (k0 E) hr (Zt (Yq (k1 E) hr (Zt (Yq (k4 E) hr (Zt (Zc 0) (Zt Zl Ys))) (Zt Zl Ys))) (Zt Zl Ys)))) (Zn (Yl 4 nd (Wr (W7 ["_law_key","_law_books",".acc"] (Qc (Zc 2)) (λnd=>(Z0 0 nd)) (xt0) ((Wd (Zk (Z3 hu (Zc 1) Zl) (Zk (Zc 0) Zv))))) (W7 ["_law_key","_law_books",".acc"] (Qc (Zc 2)) (λnd=>(Z0 0 nd)) (xt0) ((Wd (Zk (Z3 hu (Zc 1) Zl) (Zk (Zc 0) Zv))))))) (@Zn _ _ _ _ _ _ (@Yl _ _ _ _ _ 5 _ _ nd (@Yr _ _ _ _ _ (@W6 _ _ _ _ _ _ _ _ (@Wd _ _ _ _ _ _ (@Jh _ _ _ _ _ _ _ _ Zl (@W6 _ _ _ _ _ _ _ _ (@Wd _ _ _ _ _ _ (@Jh _ _ _ _ _ _ _ _ Pl Zv)) Zv))) (@W6 _ _ _ _ _ _ _ _ (@Wd _ _ _ _ _ _ (@Jh _ _ _ _ _ _ _ _ Zl (@W6 _ _ _ _ _ _ _ _ (@Wd _ _ _ _ _ _ (@Jh _ _ _ _ _ _ _ _ Pl Zv)) Zv))) (@W6 _ _ _ _ _ _ _ _ (@Wd _ _ _ _ _ _ (@Jh _ _ _ _ _ _ _ _ Zl (@W6 _ _ _ _ _ _ _ _ (@Wd _ _ _ _ _ _ (@M3 _ _ _ _ [("So",_,_),("a",_,_)] Zv)) Zv))) (@W6 _ _ _ _ _ _ _ _ (@Wd _ _ _ _ _ _ (@Jh _ _ _ _ _ _ _ _ Zl (@W6 _ _ _ _ _ _ _ _ (@Wd _ _ _ _ _ _ (@M3 _ _ _ _ [("a",_,_),("So",_,_)] Zv)) Zv))) (@W6 _ _ _ _ _ _ _ _ (@Wd _ _ _ _ _ _ (@Jh _ _ _ _ _ _ _ _ Zl (@W6 _ _ _ _ _ _ _ _ (@Wd _ _ _ _ _ _ (@Jh _ _ _ _ _ _ _ _ Pl Zv)) Zv))) (@W6 _ _ _ _ _ _ _ _ (@Wd _ _ _ _ _ _ (@Jh _ _ _ _ _ _ _ _ Zl (@W6 _ _ _ _ _ _ _ _ (@Wd _ _ _ _ _ _ (@M3 _ _ _ _ [("A b",_,_),("c",_,_),("c",_,_)] Zv)) Zv))) Zv))))))) (by rfl) (by first|exact Or.inl rfl|exact Or.inr rfl) (by rfl) (by first|exact .inl rfl|exact .inr rfl)) (Zn (Yl 6 nd (Yq (k2 E) hr (Zt (Zc 4) (Zt (Zc 5) (Zt (Zc 3) (Zt (W7 ["_law_k","_law_script",".acc"] (Pn E.z_range Zl) (λnd=>(Z0 0 nd)) (xt0) ((Yq (k1 E) hr (Zt (Yq (k4 E) hr (Zt (Zc 1) (Zt (Wr Zl (Zc 0)) Ys))) (Zt Zl Ys))))) Ys)))))) (Zn (Yl 7 nd (Yq (k2 E) hr (Zt (Zc 4) (Zt (Zc 5) (Zt (Zc 3) (Zt (W7 ["_law_k","_law_script",".acc"] (Pn E.z_range Zl) (λnd=>(Z0 0 nd)) (xt0) ((Yq (k1 E) hr (Zt (Yq (k4 E) hr (Zt (Zc 1) (Zt (Wr Zl (Zc 0)) Ys))) (Zt Zl Ys))))) Ys)))))) (Z5 (Q9 (Wd (Zk (Zc 6) (Zk (Yq (k3 E) hr (Zt (Zc 6) (Zt (Zc 7) (Zt (U3 (Yq (k4 E) hr (Zt (Zc 0) (Zt Zl Ys))) Zl) Ys)))) Zv))))))))))))
theorem k6:Sv P w K mg base Rn 1 "holders_of" ["heaps"] (Wk K 1 Qk):=okS E.u E.a6 0 1 ["heaps","holders","place","heap","tie"] Qk Ot λnd _ hr hu hv=>(Zn (Yl 1 nd Dr) (Zn (Ug dy rfl (B8 E.z_enumerate (Zk (Zc 0) Zv)) (Gp rfl (Yv (Z0 2 nd) (Yv (Z0 3 nd) Od))) (Z5 (Ug dy rfl (Qc (Wr (Z3 hu (Zc 3) Zl) (Z3 hu (Zc 3) Zl))) (Z0 4 nd) (Z5 (tH 1 2 hv (Zc 4)))))) (Z5 (vo (Zc 1)))))
theorem k7:Sv P w K mg base Rn 1 "tied" ["heaps","holders","place"] (Wk K 3 Ef):=okS E.u E.a7 0 3 ["heaps","holders","place","found","left","heap","tie","other"] Ef Xp λnd _ hr hu hv=>(Zn (Yl 3 nd (u6 2 OC)) (Zn (Yl 4 nd (Yr (Zk (Zc 2) Zv))) (Zn (t_ IB dy (DC (Hg E.z_len (Zc 4)) Zl) (Zn (u7 5 0 4 nd (Ac 0) (Ac 4)) (Z5 (Ug dy rfl (Qc (Wr (Z3 hu (Zc 5) Zl) (Z3 hu (Zc 5) Zl))) (Z0 6 nd) (Z5 (Ug dy rfl (Qc (DY hv (Zc 1) (Zc 6))) (Z0 7 nd) (Z5 (T4 (Px hu (Zc 7) (Zc 3)) (Zn (H_ 3 hu (Zc 7) OC) (Z5 (Hh 4 (Zc 7)))) Jq)))))))) (Z5 (Q9 (uG rfl E.z_list (Zc 3)))))))
theorem k8:Sv P w K mg base Rn 1 "join_heaps" ["heaps"] (Wk K 1 Qm):=okS E.u E.a8 0 1 ["heaps","names","marks","tellers","heap","field","value","told_by","fields"] Qm Ou λnd _ hr hu hv=>(Zn (Yl 1 nd (Yr Zv)) (Zn (Yl 2 nd (Yr Zv)) (Zn (Yl 3 nd Dr) (Zn (Ug dy rfl (Qc (Zc 0)) (Z0 4 nd) (Zn (BQ 1 (Z3 hu (Zc 4) Zl)) (Zn (BQ 2 (Z3 hu (Zc 4) Zl)) (Z5 (Ug dy rfl (Qc (Z3 hu (Zc 4) Zl)) (Gp rfl (Yv (Z0 5 nd) (Yv (Z0 6 nd) (Yv (Z0 7 nd) Od)))) (Z5 (tG 3 7 hv (Wd (Zk (Zc 5) (Zk (Zc 6) Zv)))))))))) (Zn (R1 8 ["pair","tellers",".acc"] nd (vX (Zc 3)) (λnd=>(Z0 0 nd)) (xt0) ((Wd (Zk (Z3 hu (Zc 0) Zl) (Zk (Z3 hu (Zc 0) Zl) (Zk (Xf rfl hv E.z_sorted E.z_set (DY hv (Zc 1) (Zc 0))) Zv)))))) (Z5 (Q9 (Wd (Zk (Xf rfl hv E.z_sorted E.z_set (Zc 1)) (Zk (Xf rfl hv E.z_sorted E.z_set (Zc 2)) (Zk (Js hv E.z_sorted (Zc 8)) Zv)))))))))))
theorem k9:Sv P w K mg base Rn 2 "joined" ["heaps"] (Wk K 1 Bt):=okS E.u E.a9 1 1 ["heaps","holders","pool","seen","place","group","other"] Bt Eg λnd _ hr hu hv=>(Zn (Yl 1 nd (Yq (k6 E) hr (Zt (Zc 0) Ys))) (Zn (Yl 2 nd (Yr Zv)) (Zn (Yl 3 nd sZ) (Zn (Ug dy rfl (Pn E.z_range (Hg E.z_len (Zc 0))) (Z0 4 nd) (Z5 (T4 (Px hu (Zc 4) (Zc 3)) (Zn (Yl 5 nd (Yq (k7 E) hr (Zt (Zc 0) (Zt (Zc 1) (Zt (Zc 4) Ys))))) (Zn (Ug dy rfl (Qc (Zc 5)) (Z0 6 nd) (Z5 (H_ 3 hu (Zc 6) OC))) (Z5 (Hh 2 (Yq (k8 E) hr (Zt (W7 ["other","heaps",".acc"] (Qc (Zc 5)) (λnd=>(Z0 0 nd)) (xt0) ((Z3 hu (Zc 1) (Zc 0)))) Ys)))))) Jq))) (Z5 (Q9 (Js hv E.z_sorted (Zc 2))))))))
theorem k10:Sv P w K mg base Rn 3 "pour" ["one","other"] (Wk K 2 Jd):=okS E.u E.a10 2 2 ["one","other"] Jd Xq λnd _ hr hu hv=>(Z5 (Q9 (Yq (k9 E) hr (Zt (Wr (Zc 0) (Zc 1)) Ys))))
theorem k11:Sv P w K mg base Rn 1 "_law_joined" ["_law_one","_law_other"] (Wk K 2 Qn):=okS E.u E.a11 0 2 ["_law_one","_law_other","_law_names_here","_law_marks","_law_pairs","_law_told","_law_k","_law_pair","_law_tellers","_law_part"] Qn Ox λnd _ hr hu hv=>(Zn (Yl 2 nd (Js hv E.z_sorted (Wr (Z3 hu (Zc 0) Zl) (W7 ["_law_name","_law_one",".acc"] (Qc (Z3 hu (Zc 1) Zl)) (λnd=>(Z0 0 nd)) (xt λ_=>(Au hv (Zc 0) (Z3 hu (Zc 1) Zl))) ((Zc 0)))))) (Zn (Yl 3 nd (Js hv E.z_sorted (Wr (Z3 hu (Zc 0) Zl) (W7 ["_law_mark","_law_one",".acc"] (Qc (Z3 hu (Zc 1) Zl)) (λnd=>(Z0 0 nd)) (xt λ_=>(Au hv (Zc 0) (Z3 hu (Zc 1) Zl))) ((Zc 0)))))) (Zn (Yl 4 nd (vM hv E.z_sorted (Wr (W7 ["_law_part",".acc"] (Qc (Z3 hu (Zc 0) Zl)) (λnd=>(Z0 0 nd)) (xt0) ((HL (Zc 0) Vt (Vu Zl)))) (W7 ["_law_part",".acc"] (Qc (Z3 hu (Zc 1) Zl)) (λnd=>(Z0 0 nd)) (xt0) ((HL (Zc 0) Vt (Vu Zl))))))) (Zn (Yl 5 nd (Yr Zv)) (Zn (Ug dy rfl (B8 E.z_enumerate (Zk (Zc 4) Zv)) (Gp rfl (Yv (Z0 6 nd) (Yv (Z0 7 nd) Od))) (Zn (Yl 8 nd (Yr Zv)) (Zn (Ug dy rfl (Qc (Wr (Z3 hu (Zc 0) Zl) (Z3 hu (Zc 1) Zl))) (Z0 9 nd) (Z5 (T4 (Mg hv (HL (Zc 9) Vt (Vu Zl)) (Zc 7)) (Z5 (Yl 8 nd (Wr (Zc 8) (W7 ["_law_name","_law_tellers",".acc"] (Qc (Z3 hu (Zc 9) Zl)) (λnd=>(Z0 0 nd)) (xt λ_=>(Au hv (Zc 0) (Zc 1))) ((Zc 0)))))) Jq))) (Z5 (T4 (PW.pt (OB (Mg hv (Zc 6) Zl) (HW (Gq hv (Z3 hu (Zc 4) (wt (Zc 6) Zl)) (Zc 7))))) (Z5 (Hh 5 (Wd (Zk (Z3 hu (Zc 7) Zl) (Zk (Z3 hu (Zc 7) Zl) (Zk (Js hv E.z_sorted (Zc 8)) Zv)))))) Jq))))) (Z5 (Q9 (Wd (Zk (Zc 2) (Zk (Zc 3) (Zk (Zc 5) Zv)))))))))))
end
theorem nu{l:PySem.W.OpenLaw}{w:c8}{K:ad}{mg:Str->Option aj}{fa:aq}(E:Env K mg)(yZ:mg "law"=aA (.ref fa)):ES l "_law_script" 4 D1 K w mg fa:=by obtain⟨_,_,a⟩:=E.a12;cases yZ.symm.trans (E.u a.1);refine⟨_,t5 a.2 λ_ _ _ _ _ _ _=>rfl,λbase kb nb=>?_⟩;exact ok0 a 3 1 ["_law_script","_law_one","_law_other","_law_common","_law_due","_law_here","_law_there","_law_found","_law_heap_here","_law_field","_law_value","_law_names_here"] D1 IY λnd _ hr hu hv=>(Zn (Po (Yq (k5 E) hr (Zt (Zc 0) Ys)) (Gp rfl (Yv (Z0 1 nd) (Yv (Z0 2 nd) Od)))) (Zn (Yl 3 nd (Wr (W7 ["_law_name","_law_other",".acc"] (Qc (Z3 hu (Zc 1) Zl)) (λnd=>(Z0 0 nd)) (xt λ_=>(DX hv (Zc 0) (Z3 hu (Zc 1) Zl))) ((Zc 0))) (W7 ["_law_mark","_law_other",".acc"] (Qc (Z3 hu (Zc 1) Zl)) (λnd=>(Z0 0 nd)) (xt λ_=>(DX hv (Zc 0) (Z3 hu (Zc 1) Zl))) ((Zc 0))))) (Zn (Yl 4 nd (Yr (Zk (Yq (k11 E) hr (Zt (Zc 1) (Zt (Zc 2) Ys))) Zv))) (Zn (T4 (Mg hv (Zc 3) (Yr Zv)) (Z5 (Yl 4 nd (Js hv E.z_sorted (Yr (Zk (Zc 1) (Zk (Zc 2) Zv)))))) Jq) (Zn (Po (Yq (k5 E) hr (Zt (Zc 0) Ys)) (Gp rfl (Yv (Z0 5 nd) (Yv (Z0 6 nd) Od)))) (rX E.nl (tf 7 (k10 E) hr nd (Zk (Yr (Zk (Zc 5) Zv)) (Zk (Yr (Zk (Zc 6) Zv)) Zv))) (xW (PW.pt (OB (wN (wM (wJ E.z_isinstance E.z_list boot_list (qf _) (Zc 7)))) (OB (Gq hv (Zc 7) (Zc 4)) (HW (Gq hv (Wd (Zk (Zc 5) (Zk (Zc 6) Zv))) (Yq (k5 E) hr (Zt (Zc 0) Ys))))))) (Z5 (Q9 OC))) (vP 8 dy rfl nd (BO (BO (Ac 7) (Ay (k10 E) hr (Zk (Yr (Zk (Zc 5) Zv)) (Zk (Yr Zv) Zv)))) (Ay (k10 E) hr (Zk (Yr Zv) (Zk (Yr (Zk (Zc 6) Zv)) Zv)))) (BN (IZ 8 (Ac 8))) (xn 9 10 11 dy rfl nd (IZ 8 (Ac 8)) (BN (Ac 11))) (vO (IZ 8 (Ac 8)))) (Zn (T4 (PW.pt (OB (Gq hv (Wd (Zk (Zc 5) (Zk (Zc 6) Zv))) (Yq (k5 E) hr (Zt (Zc 0) Ys))) (OB (Gq hv (M5 (k10 E) hr (Zk (Yr (Zk (Zc 5) Zv)) (Zk (Yr Zv) Zv))) (Yr (Zk (Zc 1) Zv))) (HW (Gq hv (M5 (k10 E) hr (Zk (Yr Zv) (Zk (Yr (Zk (Zc 6) Zv)) Zv))) (Yr (Zk (Zc 2) Zv))))))) (Z5 (Q9 OC)) Jq) (Z5 (Q9 (wK (HU hv (M5 (k10 E) hr (Zk (Yr (Zk (Zc 6) Zv)) (Zk (Yr (Zk (Zc 5) Zv)) Zv))) (Zc 4)) (wL (HU hv (M5 (k10 E) hr (Zk (Yr Zv) (Zk (Yr Zv) Zv))) (Yr Zv)))))))))))))
end Gen
namespace My
open L2
theorem BK{g:List D->Option SV}{fa:FA}{δ δ1:Ym}{rvs:List RV}{ds:List D}{sv:SV}(h1:fa δ=aA (rvs,δ1))(h2:Oc rvs δ1=aA ds)(h3:g ds=aA sv):Yi g fa δ=aA (.tmp sv,δ1):=by simp[h1,h2,h3,-Oc]
theorem xi{g:D->D->Option SV}{fa fb:FE}{δ δ1 δ2:Ym}{u v:RV}{x y:D}{sv:SV}(h1:fa δ=aA (u,δ1))(h2:fb δ1=aA (v,δ2))(h3:Oc [u,v] δ2=aA [x,y])(h4:g x y=aA sv):Zj g fa fb δ=aA (.tmp sv,δ2):=by unfold Zj;exact BK (rvs:=[u,v]) (by simp[h1,h2]) h3 h4
theorem xh{fe:FE}{δ δ1:Ym}{rv:RV}{sv:SV}(h1:fe δ=aA (rv,δ1))(h2:IS rv δ1=aA sv):U2 fe δ=aA (.rt sv):=by simp[h1,h2,-IS]
theorem Nn{f:FS}{n:Nat}{ds:List D}{sv:SV}(h:f (Tz n ds)=aA (.rt sv)):Qh f n ds=aA sv:=by unfold Qh;rw[h]
def mV(k:String)(l:List Lean.Syntax):=Lean.Syntax.node .none (.str `Lean.Parser.Tactic k) l.toArray
def mU(k:String)(l:List Lean.Syntax):=mV k (.atom .none ""::l)
def mW(l:List Lean.Syntax):=Lean.mkNullNode l.toArray
def mY(l:List Lean.Syntax):=mU "first" [mW (l.map λt=>mU "" [t])]
def mX(l:String)(f:Lean.Syntax->Lean.Syntax):=(l.splitOn " ").map λc=>f (mU "apply" [Lean.mkIdent (.str `My c)])
def mZ(t:Lean.Syntax):=mU "withReducible" [t]
def evE:=mU "repeat'" [mV "tacticSeq" [mY (mX "xh Nn" mZ++mU "tacticRfl" []::mX "xi BK" mZ++mU "assumption" []::mX "" λt=>mW [t,mY [mU "assumption" [],mU "tacticRfl" [],mU "omega" [mV "optConfig" [mW []]]]])]]
theorem evX{p:Prop}(h:autoParam p evE):p:=h
noncomputable abbrev U6:Str:="abcdefghjlmpqrstuvwxyz"
theorem rP:U6.cps.toList.length=22:=by decide+kernel
theorem Kc:U6.length<=PySem.sizeLine:=by decide+kernel
noncomputable def LC(j:Nat):Nat:=U6.cps.toList.getD j 0
theorem vj:∀i<22,∀j<22,LC i=LC j->i=j:=by decide+kernel
theorem vi:∀i<22,LC i≠105/\LC i≠110/\LC i≠111:=by decide+kernel
theorem xf(i:Int):L2.atI U6.cps.toList (i % 22)=aA (LC (i % 22).toNat):=by
 have h0:0<=i % 22:=Int.emod_nonneg _ (by decide);have h1:i % 22<22:=Int.emod_lt_of_pos _ (by decide);obtain⟨j,hj⟩:=Int.eq_ofNat_of_zero_le h0;rw[hj];have QY:j<U6.cps.toList.length:=by rw[rP];omega
 refine R4 _ _ _ ?_;unfold LC;rw[bi,show((j:Int)).toNat=j by omega,au QY];rfl
def sgn(x:Int)(at':Int)(t:Nat)(k:Nat):Nat:=LC ((x / ((k:Int)+2)+(t:Int)*(if(k:Int)=at' then 1 else 0)) % 22).toNat
def Nv(x at':Int)(size t:Nat):List Nat:=(df size).map (sgn x at' t)
theorem pS(a1 a3 a5:Option SV)(x at':Int)(t k:Nat)(hk:k<=100)(w:List Nat)(hw:w.length<=1000)(x9:Option SV):
  ∃y9,Gen.Wa [aA (.fz (.int x)),a1,aA (.fz (.str U6)),a3,aA (.fz (.int at')),a5,aA (.fz (.int (t:Int))),aA (.fz (.str (S w))),aA (.fz (.int (k:Int))),x9]=aA (.nx [aA (.fz (.int x)),a1,aA (.fz (.str U6)),a3,aA (.fz (.int at')),a5,aA (.fz (.int (t:Int))),aA (.fz (.str (S (w++[sgn x at' t k])))),aA (.fz (.int (k:Int))),y9]):=by
 have go:∀ki ti:Int,0<=ki->ki<=100->∀b:Int,(b=0\/b=1)->(if ki=at' then(1:Int)else 0)=b->∀ch,L2.atI U6.cps.toList ((x / (ki+2)+ti*b) % 22)=aA ch->
   Gen.Wa [aA (.fz (.int x)),a1,aA (.fz (.str U6)),a3,aA (.fz (.int at')),a5,aA (.fz (.int ti)),aA (.fz (.str (S w))),aA (.fz (.int ki)),x9]=aA (.nx [aA (.fz (.int x)),a1,aA (.fz (.str U6)),a3,aA (.fz (.int at')),a5,aA (.fz (.int ti)),aA (.fz (.str (S (w++[ch])))),aA (.fz (.int ki)),aA (.fz (.int (ti*b)))]):=by
  intro ki ti h0 h1 b hb hif ch WE;have hm:=vm (i:=ti) (j:=b) (by omega);have d1:0<ki+2:=by omega
  have d2:ki+2<1073741824:=by omega
  have z:(S w).length+(⟨#[ch]⟩:Str).length<=PySem.sizeLine:=Z4 (by rw[DV w];show w.length+1<=_;omega);have ea:S w++(⟨#[ch]⟩:Str)=S (w++[ch]):=xm w [ch];by_cases hk:ki=at'
  .rw[m6 hk]at hif;subst hif;unfold Gen.Wa;simp[hk]at hm WE d1 d2⊢;simp[hm,WE,d1,d2,Kc,z,ea]
  .rw[m4 hk]at hif;subst hif;unfold Gen.Wa;simp[hk]at hm WE⊢;simp[hm,WE,d1,d2,Kc,z,ea]
 refine⟨_,go (k:Int) (t:Int) (by omega) (by omega) (if(k:Int)=at' then 1 else 0) (by split<;> simp) rfl (sgn x at' t k) (xf _)⟩
theorem pR(a1 a3 a5:Option SV)(x at':Int)(t size:Nat)(hs:size<=100)(x8 x9:Option SV):
  ∃y8 y9,Yp (Zh 8) Gen.Wa (RK 0 size) [aA (.fz (.int x)),a1,aA (.fz (.str U6)),a3,aA (.fz (.int at')),a5,aA (.fz (.int (t:Int))),aA (.fz (.str (S []))),x8,x9]=aA (.nx [aA (.fz (.int x)),a1,aA (.fz (.str U6)),a3,aA (.fz (.int at')),a5,aA (.fz (.int (t:Int))),aA (.fz (.str (S (Nv x at' size t)))),y8,y9]):=by
 obtain⟨δ',e,y8,y9,hy⟩:=Cf (tg:=Zh 8) (body:=Gen.Wa) (P:=λi δ=>∃y8 y9,δ=[aA (.fz (.int x)),a1,aA (.fz (.str U6)),a3,aA (.fz (.int at')),a5,aA (.fz (.int (t:Int))),aA (.fz (.str (S (Nv x at' i t)))),y8,y9]) size 0 [aA (.fz (.int x)),a1,aA (.fz (.str U6)),a3,aA (.fz (.int at')),a5,aA (.fz (.int (t:Int))),aA (.fz (.str (S []))),x8,x9] ⟨x8,x9,rfl⟩ (λi _ hi δ ⟨y8,y9,hy⟩=>by
  subst hy;obtain⟨z9,e⟩:=pS a1 a3 a5 x at' t i (by omega) (Nv x at' i t) (by unfold Nv;simp;omega) y9;refine⟨[aA (.fz (.int x)),a1,aA (.fz (.str U6)),a3,aA (.fz (.int at')),a5,aA (.fz (.int (t:Int))),aA (.fz (.str (S (Nv x at' i t)))),aA (.fz (.int (i:Int))),y9],_,by simp,e,aA (.fz (.int (i:Int))),z9,?_⟩;have:Nv x at' (i+1) t=Nv x at' i t++[sgn x at' t i]:=by unfold Nv;rw[List.range_succ,ci];rfl
  rw[this])
 subst hy;rw[Nat.zero_add]at e;exact⟨y8,y9,e⟩
def W1(x at':Int)(size m:Nat):List Str:=(df m).map λt=>S (Nv x at' size t)
theorem Xr(a1:Option SV)(x at':Int)(size:Nat)(hs:size<=8)(m:Nat)(hm:m<=100):
  ∃δ,Yp (Zh 6) Gen.Q2 (RK 0 m) [aA (.fz (.int x)),a1,aA (.fz (.str U6)),aA (.fz (.int (size:Int))),aA (.fz (.int at')),aA (.ol []),aB,aB,aB,aB]=aA (.nx δ)/\δ[5]? =aA (aA (.ol ((W1 x at' size m).map D.str))):=by
 obtain⟨δ',e,y6,y7,y8,y9,hy⟩:=Cf (tg:=Zh 6) (body:=Gen.Q2) (P:=λi δ=>∃y6 y7 y8 y9,δ=[aA (.fz (.int x)),a1,aA (.fz (.str U6)),aA (.fz (.int (size:Int))),aA (.fz (.int at')),aA (.ol ((W1 x at' size i).map D.str)),y6,y7,y8,y9]) m 0 [aA (.fz (.int x)),a1,aA (.fz (.str U6)),aA (.fz (.int (size:Int))),aA (.fz (.int at')),aA (.ol []),aB,aB,aB,aB] ⟨aB,aB,aB,aB,rfl⟩ (λi _ hi δ ⟨y6,y7,y8,y9,hy⟩=>by
  subst hy;obtain⟨z8,z9,e⟩:=pR a1 (aA (.fz (.int (size:Int)))) (aA (.ol ((W1 x at' size i).map D.str))) x at' i size (by omega) y8 y9;have g1:Pg (size:Int):=Gn (by omega);have et:((size:Int)).toNat=size:=by omega
  have z:(W1 x at' size i).length<PySem.sizeLine:=Yk (by unfold W1;simp;omega);have he:Str.ofString ""=S []:=rfl;have hr:W1 x at' size (i+1)=W1 x at' size i++[S (Nv x at' size i)]:=by unfold W1;rw[List.range_succ,ci];rfl
  refine⟨[aA (.fz (.int x)),a1,aA (.fz (.str U6)),aA (.fz (.int (size:Int))),aA (.fz (.int at')),aA (.ol ((W1 x at' size i).map D.str)),aA (.fz (.int (i:Int))),y7,y8,y9],[aA (.fz (.int x)),a1,aA (.fz (.str U6)),aA (.fz (.int (size:Int))),aA (.fz (.int at')),aA (.ol ((W1 x at' size (i+1)).map D.str)),aA (.fz (.int (i:Int))),aA (.fz (.str (S (Nv x at' size i)))),z8,z9],by simp,?_,_,_,_,_,rfl⟩;rw[hr];generalize W1 x at' size i=NL at*;unfold Gen.Q2;simp[-Yp,he,g1,et,R5,e,z])
 subst hy;rw[Nat.zero_add]at e;exact⟨_,e,rfl⟩
structure Nam(w:Str):Prop where
 one:1<=w.length
 most:w.length<=8
 no:∀c∈w.cps.toList,c≠105/\c≠110/\c≠111
theorem Eh(x:Int)(h0:0<=x)(m:Nat)(hm:m<=20):∃ws:List Str,Gen.Yy [.int x,.int (m:Int)]=aA (.ol (ws.map D.str))/\ws.length=m/\ws.Nodup/\∀w∈ws,Nam w:=by
 have s0:0<=x % 8:=Int.emod_nonneg _ (by decide);have s1:x % 8<8:=Int.emod_lt_of_pos _ (by decide);obtain⟨size,hs⟩:∃n:Nat,(n:Int)=1+x % 8:=⟨(1+x % 8).toNat,by omega⟩
 have hs1:1<=size:=by omega
 have FW:size<=8:=by omega
 have p0:(0:Int)<(size:Int):=by omega
 have a0:0<=x / 8 % (size:Int):=Int.emod_nonneg _ (by omega);have a1:x / 8 % (size:Int)<(size:Int):=Int.emod_lt_of_pos _ p0;generalize hat:x / 8 % (size:Int)=at' at a0 a1;obtain⟨δ,e,FN⟩:=Xr (aA (.fz (.int (m:Int)))) x at' size FW m (by omega);have g1:Pg (m:Int):=Gn (by omega);have et:((m:Int)).toNat=m:=by omega
 refine⟨W1 x at' size m,?_,by unfold W1;simp,?_,λw hw=>?_⟩
 .generalize W1 x at' size m=NL at FN;unfold Gen.Yy Gen.Bo;have VU:0<size:=by omega
  simp[-Yp,<-hs,p0,VU,hat,g1,et,R5,e,FN]
 .unfold W1;refine List.Pairwise.map _ (R:=λa b=>a≠b/\a<m/\b<m) (λa b h=>?_) ?_
  .intro z;obtain⟨VE,ha,hb⟩:=h;have hl:=xk z;obtain⟨k,hk⟩:=Int.eq_ofNat_of_zero_le a0;have EB:k<size:=by omega
   have e1:(Nv x at' size a)[k]? =aA (sgn x at' a k):=by unfold Nv;rw[bg,List.getElem?_range EB];rfl
   have e2:(Nv x at' size b)[k]? =aA (sgn x at' b k):=by unfold Nv;rw[bg,List.getElem?_range EB];rfl
   rw[hl,e2]at e1;have e3:=cy.inj e1;unfold sgn at e3;rw[m6 hk.symm]at e3;have q:=λy:Int=>(Int.emod_nonneg y (show(22:Int)≠0 by decide))
   have q':=λy:Int=>(Int.emod_lt_of_pos y (show(0:Int)<22 by decide))
   have r1:=q (x / ((k:Int)+2)+(a:Int)*1);have r2:=q' (x / ((k:Int)+2)+(a:Int)*1);have r3:=q (x / ((k:Int)+2)+(b:Int)*1);have r4:=q' (x / ((k:Int)+2)+(b:Int)*1);have e4:=vj _ (by omega) _ (by omega) e3;generalize x / ((k:Int)+2)=y at*;omega
  .have nd:(df m).Pairwise (λa b=>a<b):=List.pairwise_lt_range;refine(f9.mp nd).imp fun{a b} h=>?_;exact⟨cm h.2.2,cr.mp h.1,cr.mp h.2.1⟩
 .unfold W1 at hw;obtain⟨t,_,rfl⟩:=ax.mp hw;have hl:(S (Nv x at' size t)).length=size:=by rw[DV];unfold Nv;simp
  refine⟨by rw[hl];exact hs1,by rw[hl];exact FW,λc hc=>?_⟩;rw[vL]at hc;unfold Nv at hc;obtain⟨k,_,rfl⟩:=ax.mp hc;have r1:=Int.emod_nonneg (x / ((k:Int)+2)+(t:Int)*(if(k:Int)=at' then 1 else 0)) (show(22:Int)≠0 by decide);have r2:=Int.emod_lt_of_pos (x / ((k:Int)+2)+(t:Int)*(if(k:Int)=at' then 1 else 0)) (show(0:Int)<22 by decide);exact vi _ (by omega)
theorem Cv(c b:Int):Gen.Yz [.int c,.int b]=aA (.fz (.int (c % 2147483647*b % 2147483647))):=by have h1:0<=c % 2147483647:=Int.emod_nonneg _ (by decide);have h2:c % 2147483647<2147483647:=Int.emod_lt_of_pos _ (by decide);have hm:=Lr (i:=c % 2147483647) (j:=b) (by omega);unfold Gen.Yz Gen.Bp;exact evX
theorem Q4(ns:List Int)(k:Nat):∃c:Int,Gen.Zu [.lst (ns.map D.int),.int (k:Int)]=aA (.fz (.int c)):=by
 by_cases h:k<ns.length
 .have a:L2.atI (ns.map D.int) (k:Int)=aA (.int ns[k]):=R4 _ _ _ (by rw[bg,au h];rfl);refine⟨ns[k],?_⟩;have h':(k:Int)<(ns.length:Int):=by omega
  unfold Gen.Zu Gen.Q3;simp[h',h,a]
 .refine⟨0,?_⟩;have h':¬(k:Int)<(ns.length:Int):=by omega
  unfold Gen.Zu Gen.Q3;simp[h',h]
theorem Ta(c b:Int):0<=c % 2147483647*b % 2147483647:=Int.emod_nonneg _ (by decide)
abbrev Sr(t:Bm):D:=.tup [.str t.1,.str t.2.1,.lso (t.2.2.map nkD)]
abbrev Y9(h:HP):D:=.tup [.lso (h.ns.map nkD),.lso (h.ms.map nkD),.lso (h.fs.map Sr)]
theorem jz1:1<=PySem.sizeLine:=by decide
theorem jz2:2<=PySem.sizeLine:=by decide
theorem jz3:3<=PySem.sizeLine:=by decide
noncomputable abbrev S4:=List (List Nat)
noncomputable abbrev Ww(l:List Nat):List D:=l.map λp:Nat=>.int (p:Int)
def E8(ks:List NK)(pl:S4)(t:NK)(p:Nat):List NK×S4:=match Y4 ks t with
 |some q=>(ks,pl.set q (pl.getD q []++[p]))
 |none=>(ks++[t],pl++[[p]])
theorem Ul:∀{ks:List NK} {k:NK} {q:Nat},Y4 ks k=aA q->ks[q]? =aA k
 |a::ks,k,q,h=>by
  have h:(if a=k then aA 0 else(Y4 ks k).map (· +1))=aA q:=h;by_cases e:a=k
  .rw[m6 e]at h;cases h;rw[e];rfl
  .rw[m4 e]at h;obtain⟨r,hr,e2⟩:=cq.mp h;subst e2;show ks[r]? =aA k;exact Ul hr
theorem Um:∀{ks:List NK} {k:NK},Y4 ks k=aB->k∉ks
 | [],k,_=>λz=>nomatch z
 |a::ks,k,h=>by
  have h:(if a=k then aA 0 else(Y4 ks k).map (· +1))=aB:=h;by_cases e:a=k
  .rw[m6 e]at h;cases h
  .rw[m4 e]at h;have:=Um (Option.map_eq_none_iff.mp h);intro z;rcases ay.mp z with z|z
   .exact e z.symm
   .exact this z
structure mQ(R:NK->Nat->Prop)(B:Nat)(ks:List NK)(pl:S4):Prop where
 nd:ks.Nodup
 len:ks.length=pl.length
 has:∀(t:NK) (p:Nat),(∃(q:Nat) (l:List Nat),ks[q]? =aA t/\pl[q]? =aA l/\p∈l)↔R t p
 few:ks.length<=B
 each:∀l∈pl,l.length<=B
theorem mQ.add{R:NK->Nat->Prop}{B:Nat}{ks:List NK}{pl:S4}(h:mQ R B ks pl)(t:NK)(p:Nat):mQ (λu q=>R u q\/(u=t/\q=p)) (B+1) (E8 ks pl t p).1 (E8 ks pl t p).2:=by
 unfold E8;cases e:Y4 ks t with
 |some q=>
  have hq:=Ul e;have RC:q<ks.length:=by rcases dv q ks.length with z|z;exact z;rw[dj z]at hq;cases hq
  have WG:q<pl.length:=by rw[<-h.len];exact RC
  have eg:pl.getD q []=pl[q]:=by rw[bi,au WG];rfl
  refine⟨h.nd,by rw[gp];exact h.len,λu r=>?_,Nat.le_succ_of_le h.few,λl hl=>?_⟩
  .rw[<-h.has u r];constructor
   .rintro⟨i,l,h1,h2,h3⟩;by_cases hi:i=q
    .subst hi;have eu:u=t:=by rw[hq]at h1;exact(cy.inj h1).symm
     rw[c9 WG]at h2;have el:=cy.inj h2;rw[<-el]at h3;rcases ba.mp h3 with z|z
     .rw[eg]at z;exact .inl ⟨i,pl[i],h1,au WG,z⟩
     .exact .inr ⟨eu,ak.mp z⟩
    .rw[cz (λz=>hi z.symm)]at h2;exact .inl ⟨i,l,h1,h2,h3⟩
   .rintro(⟨i,l,h1,h2,h3⟩|⟨rfl,rfl⟩)
    .by_cases hi:i=q
     .subst hi;refine⟨i,pl.getD i []++[p],h1,c9 WG,bz _ ?_⟩;rw[eg];rw[au WG]at h2;rw[cy.inj h2];exact h3
     .exact⟨i,l,h1,by rw[cz (λz=>hi z.symm)];exact h2,h3⟩
    .exact⟨q,_,hq,c9 WG,bx _ ac⟩
  .rcases List.mem_or_eq_of_mem_set hl with z|z
   .exact Nat.le_succ_of_le (h.each l z)
   .rw[z,av,eg];have:=h.each _ (List.getElem_mem WG);simpa using this
 |none=>
  have hn:=Um e;refine⟨dn.mpr ⟨h.nd,by simp,λa ha b hb e=>hn (by rw[<-ak.mp hb,<-e];exact ha)⟩,by simp[h.len],λu r=>?_,by have:=h.few;simp;omega,λl hl=>?_⟩
  .rw[<-h.has u r];constructor
   .rintro⟨i,l,h1,h2,h3⟩;rcases dv i ks.length with z|z
    .rw[dg z]at h1;rw[dg (by rw[<-h.len];exact z)]at h2;exact .inl ⟨i,l,h1,h2,h3⟩
    .rw[gc z]at h1;rw[gc (by rw[<-h.len];exact z),<-h.len]at h2;cases ei:i- ks.length with
     |zero=>rw[ei]at h1 h2;cases h1;cases h2;exact .inr ⟨rfl,ak.mp h3⟩
     |succ j=>rw[ei]at h1;cases h1
   .rintro(⟨i,l,h1,h2,h3⟩|⟨rfl,rfl⟩)
    .have z:i<ks.length:=by rcases dv i ks.length with z|z;exact z;rw[dj z]at h1;cases h1
     exact⟨i,l,by rw[dg z];exact h1,by rw[dg (by rw[<-h.len];exact z)];exact h2,h3⟩
    .exact⟨ks.length,[r],by simp,by rw[h.len];simp,ac⟩
  .rcases ba.mp hl with z|z
   .exact Nat.le_succ_of_le (h.each l z)
   .rw[ak.mp z];simp
theorem pQ(ks:List NK)(pl:S4)(t:NK)(p:Nat):Mw ks (pl.map Ww) t [.int (p:Int)]=((E8 ks pl t p).1,(E8 ks pl t p).2.map Ww):=by
 unfold Mw E8;cases Y4 ks t with
 |some q=>
  dsimp only;rw[List.map_set];have:(pl.map Ww).getD q []=Ww (pl.getD q []):=by rw[bi,bi,bg];cases pl[q]? <;> rfl
  rw[this];simp[Ww]
 |none=>simp[Ww]
theorem D2{δ:Ym}{i j:Nat}{fk:FE}{ext:Bool}{ks:List NK}{ZE:List (List D)}{k:NK}{p:RV×Ym}{q:D×Ym}{d:D}{ys:List D}(h1:δ[i]? =aA (aA (.oX ks ZE)))(h2:fk δ=aA p)(h3:frz p.1 p.2=aA q)(h4:nk? q.1=aA k)(h5:q.2[i]? =aA (aA (.oX ks ZE)))(h6:q.2[j]? =aA (aA (.fz d)))
  (h7:(ext=aD/\ys=[d])\/(ext=aC/\d= .lso ys)) (h8:okX ZE ys.length):Ml i fk j ext δ=aA (.nx (q.2.set i (aA (.oX (Mw ks ZE k ys).1 (Mw ks ZE k ys).2)))):=by
 unfold Ml;rw[h1];dsimp only;rw[h2];dsimp only[da];rw[h3];dsimp only[da];rw[h4];dsimp only[da];rw[h5,h6];dsimp only;rcases h7 with⟨rfl,rfl⟩|⟨rfl,rfl⟩
 .rw[m4 (by decide)];dsimp only[da];rw[m6 h8]
 .rw[m6 rfl];dsimp only[da];rw[m6 h8]
theorem BU{ZE:List (List D)}{n:Nat}(h1:ZE.length<=100000)(h2:n<=100000)(h3:∀xs∈ZE,xs.length<=100000):okX ZE n:=
 ⟨Yk (by omega),Yk (by omega),λxs hx=>Yk (by have:=h3 xs hx;omega)⟩
theorem mQ.ok{R:NK->Nat->Prop}{B:Nat}{ks:List NK}{pl:S4}(h:mQ R B ks pl)(hB:B<=10000)(n:Nat)(hn:n<=10000):okX (pl.map Ww) n:=
 BU (by rw[ah,<-h.len];have:=h.few;omega) (by omega) λxs hx=>by obtain⟨l,hl,rfl⟩:=ax.mp hx;have:=h.each l hl;simp[Ww];omega
theorem mQ.imp{R R':NK->Nat->Prop}{B B':Nat}{ks:List NK}{pl:S4}(h:mQ R B ks pl)(e:∀t p,R t p↔R' t p)(hB:B<=B'):mQ R' B' ks pl:=
 ⟨h.nd,h.len,λt p=>(h.has t p).trans (e t p),ga h.few hB,λl hl=>ga (h.each l hl) hB⟩
theorem Ss(A hd:Option SV)(n:Nat):∀(ts:List NK) (R:NK->Nat->Prop) (B:Nat) (ks:List NK) (pl:S4) (x4:Option SV),mQ R B ks pl->B+ts.length<=10000->∃ZZ ZV y4,mQ (λu q=>R u q\/(u∈ts/\q=n)) (B+ts.length) ZZ ZV/\
  Yp (Zh 4) Gen.Ju (ts.map nkD) [A,aA (.oX ks (pl.map Ww)),aA (.fz (.int (n:Int))),hd,x4]=aA (.nx [A,aA (.oX ZZ (ZV.map Ww)),aA (.fz (.int (n:Int))),hd,y4])
 | [],R,B,ks,pl,x4,h,_=>⟨ks,pl,x4,h.imp (λt p=>by simp) (bc _),by simp⟩
 |t::ts,R,B,ks,pl,x4,h,hz=>by
  rw[bh]at hz;obtain⟨ZZ,ZV,y4,h',ih⟩:=Ss A hd n ts _ (B+1) (E8 ks pl t n).1 (E8 ks pl t n).2 (aA (.fz (nkD t))) (h.add t n) (by omega);refine⟨ZZ,ZV,y4,h'.imp (λu q=>?_) (by rw[bh];omega),?_⟩
  .rw[ay];constructor
   .rintro((z|⟨z1,z2⟩)|⟨z1,z2⟩)
    .exact .inl z
    .exact .inr ⟨.inl z1,z2⟩
    .exact .inr ⟨.inr z1,z2⟩
   .rintro(z|⟨z1|z1,z2⟩)
    .exact .inl (.inl z)
    .exact .inl (.inr ⟨z1,z2⟩)
    .exact .inr ⟨z1,z2⟩
  .have a:Gen.Ju [A,aA (.oX ks (pl.map Ww)),aA (.fz (.int (n:Int))),hd,aA (.fz (nkD t))]=aA (.nx [A,aA (.oX (E8 ks pl t n).1 ((E8 ks pl t n).2.map Ww)),aA (.fz (.int (n:Int))),hd,aA (.fz (nkD t))]):=by have:=D2 (δ:=[A,aA (.oX ks (pl.map Ww)),aA (.fz (.int (n:Int))),hd,aA (.fz (nkD t))]) (i:=1) (j:=2) (fk:=Zb 4) (p:=(.tmp (.fz (nkD t)),[A,aA (.oX ks (pl.map Ww)),aA (.fz (.int (n:Int))),hd,aA (.fz (nkD t))])) (q:=(nkD t,[A,aA (.oX ks (pl.map Ww)),aA (.fz (.int (n:Int))),hd,aA (.fz (nkD t))])) (d:=.int (n:Int)) (ext:=aD) (ys:=[.int (n:Int)]) rfl rfl rfl (Ol t) rfl rfl (.inl ⟨rfl,rfl⟩) (h.ok (by omega) _ (by simp));rw[pQ]at this;exact this
   rw[bm];unfold Yp;rw[show(Zh 4).run (nkD t) [A,aA (.oX ks (pl.map Ww)),aA (.fz (.int (n:Int))),hd,x4]=aA [A,aA (.oX ks (pl.map Ww)),aA (.fz (.int (n:Int))),hd,aA (.fz (nkD t))]from by simp];dsimp only[da];rw[a];exact ih
def E9(hs:List HP):Nat:=(hs.map λh=>(O7 h).length).sum
theorem R6(h:HP)(hs:List HP):E9 (h::hs)=(O7 h).length+E9 hs:=by unfold E9;simp
theorem pP(A:Option SV)(n:Nat)(h:HP)(R:NK->Nat->Prop)(B:Nat)(ks:List NK)(pl:S4)(x4:Option SV)(ho:mQ R B ks pl)(hz:B+(O7 h).length<=10000):∃ZZ ZV y4,mQ (λu q=>R u q\/(u∈O7 h/\q=n)) (B+(O7 h).length) ZZ ZV/\
  Gen.Wt [A,aA (.oX ks (pl.map Ww)),aA (.fz (.int (n:Int))),aA (.fz (Y9 h)),x4]=aA (.nx [A,aA (.oX ZZ (ZV.map Ww)),aA (.fz (.int (n:Int))),aA (.fz (Y9 h)),y4]):=by
 obtain⟨ZZ,ZV,y4,h',e⟩:=Ss A (aA (.fz (Y9 h))) n (O7 h) R B ks pl x4 ho hz;refine⟨ZZ,ZV,y4,h',?_⟩;have zl:(h.ns.map nkD).length+(h.ms.map nkD).length<=PySem.sizeLine:=Z4 (by rw[ah,ah];rw[av]at hz;omega);have SU:∀a b c:D,L2.atI [a,b,c] 1=aA b:=λ_ _ _=>rfl;have VQ:∀a b c:D,L2.atI [a,b,c] 0=aA a:=λ_ _ _=>rfl;rw[show(O7 h).map nkD=h.ns.map nkD++h.ms.map nkD from ci]at e;unfold Gen.Wt;unfold Y9 at e⊢;generalize h.ns.map nkD=NS,h.ms.map nkD=MS,h.fs.map Sr=TS,pl.map Ww=PL,ZV.map Ww=PL' at*;simp[VQ,SU,zl,e,-Yp]
abbrev C9(hs:List HP)(t:NK)(p:Nat):Prop:=∃h,hs[p]? =aA h/\t∈O7 h
theorem Kd(A:Option SV):∀(hs pre:List HP) (B:Nat) (ks:List NK) (pl:S4) (x2 x3 x4:Option SV),mQ (C9 pre) B ks pl->B+E9 hs<=10000->∃ZZ ZV y2 y3 y4,mQ (C9 (pre++hs)) (B+E9 hs) ZZ ZV/\
  Yp (Y7 2 (Zw (Zh 2) (Zw (Zh 3) Wb))) Gen.Wt (((hs.map Y9).zipIdx pre.length).map λp=>D.tup [.int (p.2:Nat),p.1]) [A,aA (.oX ks (pl.map Ww)),x2,x3,x4]=aA (.nx [A,aA (.oX ZZ (ZV.map Ww)),y2,y3,y4])
 | [],pre,B,ks,pl,x2,x3,x4,ho,_=>⟨ks,pl,x2,x3,x4,by rw[gq];exact ho,by simp⟩
 |h::hs,pre,B,ks,pl,x2,x3,x4,ho,hz=>by
  rw[R6]at hz;obtain⟨ND,pl1,z4,h1,t⟩:=pP A pre.length h _ B ks pl x4 ho (by omega);have h2:mQ (C9 (pre++[h])) (B+(O7 h).length) ND pl1:=h1.imp (λu p=>by
   constructor
   .rintro(⟨g,e,z⟩|⟨z,rfl⟩)
    .have hp:p<pre.length:=by rcases dv p pre.length with q|q;exact q;rw[dj q]at e;cases e
     exact⟨g,by rw[dg hp];exact e,z⟩
    .exact⟨h,by simp,z⟩
   .rintro⟨g,e,z⟩;rcases dv p pre.length with q|q
    .rw[dg q]at e;exact .inl ⟨g,e,z⟩
    .rw[gc q]at e;cases ei:p- pre.length with
     |zero=>rw[ei]at e;cases e;exact .inr ⟨z,by omega⟩
     |succ j=>rw[ei]at e;cases e) (bc _)
  obtain⟨ZZ,ZV,y2,y3,y4,h',ih⟩:=Kd A hs (pre++[h]) _ ND pl1 (aA (.fz (.int (pre.length:Int)))) (aA (.fz (Y9 h))) z4 h2 (by omega);refine⟨ZZ,ZV,y2,y3,y4,?_,?_⟩
  .rw[List.append_assoc]at h';rw[R6];exact h'.imp (λ_ _=>Iff.rfl) (by omega)
  .rw[bm,List.zipIdx_cons,bm];rw[av]at ih;unfold Yp;rw[show(Y7 2 (Zw (Zh 2) (Zw (Zh 3) Wb))).run (.tup [.int (pre.length:Nat),Y9 h]) [A,aA (.oX ks (pl.map Ww)),x2,x3,x4]=aA [A,aA (.oX ks (pl.map Ww)),aA (.fz (.int (pre.length:Int))),aA (.fz (Y9 h)),x4]from by simp];dsimp only[da];rw[t];exact ih
abbrev Y0(ks:List NK)(pl:S4):D:=.dX ks ((pl.map Ww).map D.lst)
theorem holders_of(hs:List HP)(hz:E9 hs<=10000):∃ks pl,mQ (C9 hs) (E9 hs) ks pl/\Gen.Qk [.lst (hs.map Y9)]=aA (.fz (Y0 ks pl)):=by
 have h0:mQ (C9 []) 0 [] []:=⟨cx,rfl,λt p=>⟨λ⟨q,l,h,_⟩=>by simp at h,λ⟨h,e,_⟩=>by simp at e⟩,bc _,λl hl=>nomatch hl⟩
 obtain⟨ks,pl,y2,y3,y4,ho,e⟩:=Kd (aA (.fz (.lst (hs.map Y9)))) hs [] 0 [] [] aB aB aB h0 (by omega);refine⟨ks,pl,by simpa using ho,?_⟩;rw[show(((hs.map Y9).zipIdx ([]:List HP).length).map λp=>D.tup [.int (p.2:Nat),p.1])=Q8 (hs.map Y9)from rfl]at e;have e:Yp (Y7 2 (Zw (Zh 2) (Zw (Zh 3) Wb))) Gen.Wt (Q8 (hs.map Y9)) [aA (.fz (.lst (hs.map Y9))),aA (.oX [] []),aB,aB,aB]=_:=e;unfold Gen.Qk Gen.Ot Y0;generalize hs.map Y9=HS,pl.map Ww=HX at*;simp[e,Fv,-Yp]
theorem Np:∀{ks:List NK} {vs:List D} {q:Nat} {t:NK} {v:D},ks.Nodup->ks[q]? =aA t->vs[q]? =aA v->look ks vs t=aA v
 | [],vs,q,t,v,_,h,_=>by simp at h
 |k::ks,[],q,t,v,_,_,h=>by simp at h
 |k::ks,u::vs,q,t,v,nd,h1,h2=>by
  obtain⟨n1,n2⟩:=fq.mp nd;show(if k=t then aA u else look ks vs t)=aA v;cases q with
  |zero=>cases h1;cases h2;rw[m6 rfl]
  |succ q=>have h1:ks[q]? =aA t:=h1;rw[m4 λe=>n1 (by rw[e];exact b9 h1)];exact Np n2 h1 h2
theorem mQ.look{R:NK->Nat->Prop}{B:Nat}{ks:List NK}{pl:S4}(h:mQ R B ks pl){t:NK}{p:Nat}(hr:R t p):∃l:List Nat,L2.look ks ((pl.map Ww).map D.lst) t=aA (.lst (Ww l))/\(∀p,p∈l↔R t p)/\l.length<=B:=by
 obtain⟨q,l,h1,h2,h3⟩:=(h.has t p).mpr hr;refine⟨l,Np h.nd h1 (by rw[bg,bg,h2];rfl),λp'=>?_,h.each l (b9 h2)⟩;rw[<-h.has t p'];constructor
 .exact λz=>⟨q,l,h1,h2,z⟩
 .rintro⟨q',l',g1,g2,g3⟩;have hq:q<ks.length:=by rcases dv q ks.length with z|z;exact z;rw[dj z]at h1;cases h1
  have:q=q':=(List.getElem?_inj hq h.nd).mp (h1.trans g1.symm);subst this;rw[h2]at g2;rw[cy.inj g2];exact g3
abbrev Qq(f:List Nat):List L2.Key:=f.map λp:Nat=>.inl (p:Int)
noncomputable abbrev Qr(f:List Nat):List D:=f.map λ_=>.bl aC
theorem U7{f:List Nat}{p:Nat}:(f6 (p:Int):L2.Key)∈Qq f↔p∈f:=by
 constructor
 .intro z;obtain⟨q,hq,e⟩:=ax.mp z;have e:=f6.inj e;have:q=p:=by omega
  rw[<-this];exact hq
 .exact λz=>List.mem_map_of_mem (f:=λp:Nat=>(f6 (p:Int):L2.Key)) z
theorem Ei:∀{ks:List L2.Key} {vs:List D} {k:L2.Key},k∉ks->look ks vs k=aB
 | [],vs,k,_=>by cases vs<;> rfl
 |a::ks,[],k,_=>rfl
 |a::ks,v::vs,k,h=>by show(if a=k then aA v else look ks vs k)=aB;rw[m4 λz=>h (by rw[z];exact ac),Ei λz=>h (am _ z)]
theorem R7:∀{ks:List L2.Key} {vs:List D} {k:L2.Key},ks.length=vs.length->k∈ks->∃v,look ks vs k=aA v
 |a::ks,[],k,h,_=>by simp at h
 |a::ks,v::vs,k,h,hk=>by
  by_cases e:a=k
  .exact⟨v,by show(if a=k then aA v else _)=_;rw[m6 e]⟩
  .obtain⟨w,hw⟩:=R7 (ks:=ks) (vs:=vs) (k:=k) (by simpa using h) (by
    rcases ay.mp hk with z|z
    .exact m_ z.symm e
    .exact z)
   exact⟨w,by show(if a=k then aA v else look ks vs k)=_;rw[m4 e,hw]⟩
structure TI(n:Nat)(f l:List Nat):Prop where
 nd:f.Nodup
 lt:∀x∈f,x<n
 ld:l.Nodup
 sub:∀x∈l,x∈f
theorem Nq{n:Nat}{f:List Nat}(nd:f.Nodup)(lt:∀x∈f,x<n):f.length<=n:=by have:=b7 nd (l₂:=df n) λx hx=>cr.mpr (lt x hx);simpa using this
theorem TI.len{n:Nat}{f l:List Nat}(h:TI n f l):f.length<=n/\l.length<=n:=⟨Nq h.nd h.lt,Nq h.ld λx hx=>h.lt x (h.sub x hx)⟩
abbrev Ge(HS:List D)(HD:D)(i:Nat)(f l:List Nat)(x5 x6 x7:Option SV):Ym:=[aA (.fz (.lst HS)),aA (.fz HD),aA (.fz (.int (i:Int))),aA (.oK (Qq f) (Qr f)),aA (.ol (Ww l)),x5,x6,x7]
theorem Xs(HS:List D)(HD:D)(i n:Nat)(hn:n<=1000)(f l:List Nat)(h:TI n f l)(o:Nat)(x5 x6:Option SV):
  Gen.Jv (Ge HS HD i f l x5 x6 (aA (.fz (.int (o:Int)))))=aA (.nx (if o∈f then Ge HS HD i f l x5 x6 (aA (.fz (.int (o:Int))))else Ge HS HD i (f++[o]) (l++[o]) x5 x6 (aA (.fz (.int (o:Int)))))):=by
 have z1:(Qr f).length<PySem.sizeLine:=Yk (by have:=h.len;simp;omega);have z2:(Ww l).length<PySem.sizeLine:=Yk (by have:=h.len;simp[Ww];omega);by_cases ho:o∈f
 .rw[m6 ho];obtain⟨v,lk⟩:=R7 (ks:=Qq f) (vs:=Qr f) (k:=.inl (o:Int)) (by simp) (U7.mpr ho);unfold Gen.Jv Ge;generalize Qq f=KF,Qr f=VF,Ww l=PL at*;simp[lk,-look]
 .rw[m4 ho];have lk:look (Qq f) (Qr f) (.inl (o:Int))=aB:=Ei λz=>ho (U7.mp z);have p:W4 (Qq f) (Qr f) (f6 (o:Int)) (.bl aC)=(Qq (f++[o]),Qr (f++[o])):=by unfold W4;rw[m4 λz=>ho (U7.mp z)];simp[Qq,Qr]
  have e:Ww (l++[o])=Ww l++[.int (o:Int)]:=by simp[Ww]
  unfold Gen.Jv Ge;rw[e];generalize Qq (f++[o])=KF',Qr (f++[o])=VF',Qq f=KF,Qr f=VF,Ww l=PL at*;simp[lk,p,z1,z2,-look,-W4]
theorem TI.snoc{n:Nat}{f l:List Nat}(h:TI n f l){o:Nat}(ho:o∉f)(hn:o<n):TI n (f++[o]) (l++[o]):=by
 refine⟨dn.mpr ⟨h.nd,by simp,λa ha b hb e=>ho (by rw[<-ak.mp hb,<-e];exact ha)⟩,λx hx=>?_,dn.mpr ⟨h.ld,by simp,λa ha b hb e=>ho (by rw[<-ak.mp hb,<-e];exact h.sub a ha)⟩,λx hx=>?_⟩
 .rcases ba.mp hx with z|z
  .exact h.lt x z
  .rw[ak.mp z];exact hn
 .rcases ba.mp hx with z|z
  .exact bz _ (h.sub x z)
  .exact bx _ z
structure mT(X:Nat->Prop)(f l f' l':List Nat):Prop where
 gf:∀x,x∈f'↔x∈f\/X x
 gl:∀x,x∈l'↔x∈l\/(X x/\x∉f)
 len:f'.length+l.length=f.length+l'.length
theorem mT.imp{X Y:Nat->Prop}{f l f' l':List Nat}(g:mT X f l f' l')(e:∀x,X x↔Y x):mT Y f l f' l':=⟨λx=>by rw[g.gf,e],λx=>by rw[g.gl,e],g.len⟩
theorem mT.trans{X Y:Nat->Prop}{f l f1 l1 f2 l2:List Nat}(g:mT X f l f1 l1)(h:mT Y f1 l1 f2 l2):mT (λx=>X x\/Y x) f l f2 l2:=by
 refine⟨λx=>?_,λx=>?_,by have:=g.len;have:=h.len;omega⟩
 .rw[h.gf,g.gf,or_assoc]
 .rw[h.gl,g.gl,g.gf];constructor
  .rintro((z|⟨z1,z2⟩)|⟨z1,z2⟩)
   .exact .inl z
   .exact .inr ⟨.inl z1,z2⟩
   .exact .inr ⟨.inr z1,λw=>z2 (.inl w)⟩
  .rintro(z|⟨z1|z1,z2⟩)
   .exact .inl (.inl z)
   .exact .inl (.inr ⟨z1,z2⟩)
   .by_cases hx:X x
    .exact .inl (.inr ⟨hx,z2⟩)
    .exact .inr ⟨z1,λw=>w.elim z2 hx⟩
theorem B0(HS:List D)(HD:D)(i n:Nat)(hn:n<=1000)(x5 x6:Option SV):∀(os f l:List Nat) (x7:Option SV),TI n f l->(∀o∈os,o<n)->∃f' l' y7,TI n f' l'/\mT (· ∈os) f l f' l'/\
  Yp (Zh 7) Gen.Jv (Ww os) (Ge HS HD i f l x5 x6 x7)=aA (.nx (Ge HS HD i f' l' x5 x6 y7))
 | [],f,l,x7,h,_=>⟨f,l,x7,h,⟨λx=>by simp,λx=>by simp,rfl⟩,by simp[Ww]⟩
 |o::os,f,l,x7,h,ho=>by
  have t:=Xs HS HD i n hn f l h o x5 x6;have r:(Zh 7).run (.int (o:Int)) (Ge HS HD i f l x5 x6 x7)=aA (Ge HS HD i f l x5 x6 (aA (.fz (.int (o:Int))))):=by simp[Ge]
  by_cases hf:o∈f
  .rw[m6 hf]at t;obtain⟨f',l',y7,h',g,ih⟩:=B0 HS HD i n hn x5 x6 os f l (aA (.fz (.int (o:Int)))) h λx hx=>ho x (am _ hx);refine⟨f',l',y7,h',⟨λx=>?_,λx=>?_,g.len⟩,?_⟩
   .rw[g.gf,ay];exact⟨λz=>z.elim .inl λz=>.inr (.inr z),λz=>z.elim .inl λz=>z.elim (λz=>.inl (by rw[z];exact hf)) .inr⟩
   .rw[g.gl,ay];exact⟨λz=>z.elim .inl λz=>.inr ⟨.inr z.1,z.2⟩,λz=>z.elim .inl λz=>z.1.elim (λw=>m_ (by rw[w];exact hf) z.2) λw=>.inr ⟨w,z.2⟩⟩
   .show Yp (Zh 7) Gen.Jv (.int (o:Int)::Ww os) _=_;unfold Yp;rw[r];dsimp only[da];rw[t];exact ih
  .rw[m4 hf]at t;obtain⟨f',l',y7,h',g,ih⟩:=B0 HS HD i n hn x5 x6 os (f++[o]) (l++[o]) (aA (.fz (.int (o:Int)))) (h.snoc hf (ho o ac)) λx hx=>ho x (am _ hx);have g0:mT (· =o) f l (f++[o]) (l++[o]):=⟨λx=>by simp,λx=>by
    rw[ba,ak];exact⟨λz=>z.elim .inl λz=>.inr ⟨z,by rw[z];exact hf⟩,λz=>z.elim .inl λz=>.inr z.1⟩,by simp;omega⟩
   refine⟨f',l',y7,h',(g0.trans g).imp λx=>by rw[ay],?_⟩;show Yp (Zh 7) Gen.Jv (.int (o:Int)::Ww os) _=_;unfold Yp;rw[r];dsimp only[da];rw[t];exact ih
theorem qB(hs:List HP)(ks:List NK)(pl:S4)(B:Nat)(ho:mQ (C9 hs) B ks pl)(i n:Nat)(hn:n<=1000)(hl:hs.length=n)(f l:List Nat)(h:TI n f l)(t:NK)(j:Nat)(ht:C9 hs t j)(x5 x7:Option SV):∃f' l' y7,TI n f' l'/\mT (C9 hs t) f l f' l'/\
  Gen.Rg (Ge (hs.map Y9) (Y0 ks pl) i f l x5 (aA (.fz (nkD t))) x7)=aA (.nx (Ge (hs.map Y9) (Y0 ks pl) i f' l' x5 (aA (.fz (nkD t))) y7)):=by
 obtain⟨os,lk,hm,_⟩:=ho.look ht;obtain⟨f',l',y7,h',g,e⟩:=B0 (hs.map Y9) (Y0 ks pl) i n hn x5 (aA (.fz (nkD t))) os f l x7 h λo yJ=>by
  obtain⟨g,eg,_⟩:=(hm o).mp yJ;rw[<-hl];rcases dv o hs.length with z|z
  .exact z
  .rw[dj z]at eg;cases eg
 refine⟨f',l',y7,h',g.imp hm,?_⟩;have nk:=Ol t;unfold Gen.Rg;unfold Ge Y0 at e⊢;generalize hs.map Y9=HS,(pl.map Ww).map D.lst=HX,nkD t=T,Ww os=OS,Qq f'=A1,Qr f'=A2,Ww l'=A3,Qq f=A4,Qr f=A5,Ww l=A6 at*;simp[nk,lk,e,-look,-Yp]
theorem Ke(hs:List HP)(ks:List NK)(pl:S4)(B:Nat)(ho:mQ (C9 hs) B ks pl)(i n:Nat)(hn:n<=1000)(hl:hs.length=n)(j:Nat)(x5:Option SV):∀(ts:List NK) (f l:List Nat) (x6 x7:Option SV),TI n f l->(∀t∈ts,C9 hs t j)->∃f' l' y6 y7,TI n f' l'/\mT (λx=>∃t∈ts,C9 hs t x) f l f' l'/\
  Yp (Zh 6) Gen.Rg (ts.map nkD) (Ge (hs.map Y9) (Y0 ks pl) i f l x5 x6 x7)=aA (.nx (Ge (hs.map Y9) (Y0 ks pl) i f' l' x5 y6 y7))
 | [],f,l,x6,x7,h,_=>⟨f,l,x6,x7,h,⟨λx=>by simp,λx=>by simp,rfl⟩,by simp⟩
 |t::ts,f,l,x6,x7,h,ht=>by
  obtain⟨f1,l1,z7,h1,g1,e1⟩:=qB hs ks pl B ho i n hn hl f l h t j (ht t ac) x5 x7;obtain⟨f',l',y6,y7,h',g',ih⟩:=Ke hs ks pl B ho i n hn hl j x5 ts f1 l1 (aA (.fz (nkD t))) z7 h1 λu hu=>ht u (am _ hu);refine⟨f',l',y6,y7,h',(g1.trans g').imp λx=>?_,?_⟩
  .simp only[ay,exists_eq_or_imp]
  .rw[bm];unfold Yp;rw[show(Zh 6).run (nkD t) (Ge (hs.map Y9) (Y0 ks pl) i f l x5 x6 x7)=aA (Ge (hs.map Y9) (Y0 ks pl) i f l x5 (aA (.fz (nkD t))) x7)from by simp[Ge]];dsimp only[da];rw[e1];exact ih
def shI(hs:List HP)(a b:Nat):Prop:=∃t,C9 hs t a/\C9 hs t b
inductive RI(hs:List HP)(i:Nat):Nat->Prop where
 |here:RI hs i i
 |step {a b:Nat}:RI hs i a->shI hs a b->RI hs i b
theorem DT{hs:List HP}{i:Nat}{h:HP}(e:hs[i]? =aA h):L2.atI (hs.map Y9) (i:Int)=aA (Y9 h):=by
 have hl:i<hs.length:=by rcases dv i hs.length with z|z;exact z;rw[dj z]at e;cases e
 have:L2.ixN hs.length (i:Int)=aA i:=by unfold L2.ixN;simp;omega
 unfold L2.atI;rw[ah,this];show(hs.map Y9)[i]? =_;rw[bg,e];rfl
section
variable(hs:List HP)(ks:List NK)(pl:S4)(B:Nat)(ho:mQ (C9 hs) B ks pl)(i n:Nat)(hn:n<=1000)(hl:hs.length=n)(hB:∀h∈hs,(O7 h).length<=10000)
include ho hn hl hB
theorem pO(f l:List Nat)(j:Nat)(h:HP)(hj:hs[j]? =aA h)(ti:TI n f (l++[j]))(x5 x6 x7:Option SV):∃f' l' y5 y6 y7,TI n f' l'/\mT (shI hs j) f l f' l'/\
  Gen.Br (Ge (hs.map Y9) (Y0 ks pl) i f (l++[j]) x5 x6 x7)=aA (.nx (Ge (hs.map Y9) (Y0 ks pl) i f' l' y5 y6 y7)):=by
 have zI:TI n f l:=⟨ti.nd,ti.lt,(dn.mp ti.ld).1,λx hx=>ti.sub x (bz _ hx)⟩
 obtain⟨f',l',y6,y7,h',g,e⟩:=Ke hs ks pl B ho i n hn hl j (aA (.fz (Y9 h))) (O7 h) f l x6 x7 zI λt ht=>⟨h,hj,ht⟩
 refine⟨f',l',aA (.fz (Y9 h)),y6,y7,h',g.imp λx=>?_,?_⟩
 .constructor
  .rintro⟨t,ht,hx⟩;exact⟨t,⟨h,hj,ht⟩,hx⟩
  .rintro⟨t,⟨h2,e2,ht⟩,hx⟩;rw[hj]at e2;cases e2;exact⟨t,ht,hx⟩
 .have QO:(O7 h).length<=10000:=hB h (b9 hj);have zl:(h.ns.map nkD).length+(h.ms.map nkD).length<=PySem.sizeLine:=Z4 (by rw[ah,ah];rw[av]at QO;omega);have SU:∀a b c:D,L2.atI [a,b,c] 1=aA b:=λ_ _ _=>rfl;have VQ:∀a b c:D,L2.atI [a,b,c] 0=aA a:=λ_ _ _=>rfl;have ai:=DT hj;rw[show(O7 h).map nkD=h.ns.map nkD++h.ms.map nkD from ci]at e;have el:Ww (l++[j])=Ww l++[.int (j:Int)]:=by simp[Ww]
  have e1:(Ww l++[D.int (j:Int)])[(Ww l++[D.int (j:Int)]).length- 1]? =aA (.int (j:Int)):=by simp
  have e2:(Ww l++[D.int (j:Int)]).dropLast=Ww l:=List.dropLast_concat;unfold Gen.Br;unfold Ge at e⊢;rw[el];rw[show Y9 h= .tup [.lso (h.ns.map nkD),.lso (h.ms.map nkD),.lso (h.fs.map Sr)]from rfl]at e ai⊢;generalize hs.map Y9=HS at*;generalize Y0 ks pl=HD at*;generalize h.ns.map nkD=NS at*;generalize h.ms.map nkD=MS at*;generalize h.fs.map Sr=TS at*;generalize Qq f'=A1 at*;generalize Qr f'=A2 at*;generalize Ww l'=A3 at*;generalize Qq f=A4 at*;generalize Qr f=A5 at*;generalize Ww l=A6 at*;generalize hQ:A6++[D.int (j:Int)]=A7 at*;simp[e1,e2,ai,VQ,SU,zl,e,-Yp]
theorem Ej:∀(m:Nat) (f l:List Nat) (x5 x6 x7:Option SV),TI n f l->2*(n- f.length)+l.length<m->i∈f->(∀a∈f,RI hs i a)->(∀a∈f,a∉l->∀b,shI hs a b->b∈f)->(∀a∈f,a<n)->∃f' y5 y6 y7,TI n f' []/\i∈f'/\(∀a∈f',RI hs i a)/\(∀a∈f',∀b,shI hs a b->b∈f')/\
  Jp Gen.Jw Gen.Br m (Ge (hs.map Y9) (Y0 ks pl) i f l x5 x6 x7)=aA (.nx (Ge (hs.map Y9) (Y0 ks pl) i f' [] y5 y6 y7))
 |0,f,l,x5,x6,x7,_,hm,_,_,_,_=>m_ hm (dz _)
 |m+1,f,l,x5,x6,x7,ti,hm,hi,hr,hc,ZL=>by
  rcases List.eq_nil_or_concat l with rfl|⟨l0,j,rfl⟩
  .refine⟨f,x5,x6,x7,ti,hi,hr,λa ha=>hc a ha (by simp),?_⟩;have t2:Gen.Jw (Ge (hs.map Y9) (Y0 ks pl) i f [] x5 x6 x7)=aA (aD,Ge (hs.map Y9) (Y0 ks pl) i f [] x5 x6 x7):=by unfold Gen.Jw Ge;simp[Ww]
   unfold Jp;rw[t2];rfl
  .rw[List.concat_eq_append]at*;have ED:j∈f:=ti.sub j (by simp);have QY:j<hs.length:=by rw[hl];exact ZL j ED
   have hj:hs[j]? =aA hs[j]:=au QY;obtain⟨f',l',y5,y6,y7,RQ,g,e⟩:=pO hs ks pl B ho i n hn hl hB f l0 j hs[j] hj ti x5 x6 x7;have t1:Gen.Jw (Ge (hs.map Y9) (Y0 ks pl) i f (l0++[j]) x5 x6 x7)=aA (aC,Ge (hs.map Y9) (Y0 ks pl) i f (l0++[j]) x5 x6 x7):=by unfold Gen.Jw Ge;simp[Ww]
   have hlen:=g.len;have hf':=RQ.len.1;have nE:f.length<=f'.length:=b7 ti.nd λx hx=>(g.gf x).mpr (.inl hx);have hfn:=ti.len.1;rw[av]at hm;obtain⟨f2,z5,z6,z7,zH,a1,a2,a3,a4⟩:=Ej m f' l' y5 y6 y7 RQ (by simp at hm;omega) ((g.gf i).mpr (.inl hi)) (λa ha=>by
     rcases(g.gf a).mp ha with z|z
     .exact hr a z
     .exact .step (hr j ED) z) (λa ha NW b XH=>by
     by_cases haf:a∈f
     .by_cases haj:a=j
      .rw[haj]at XH;exact(g.gf b).mpr (.inr XH)
      .have:a∉l0++[j]:=λz=>by
        rcases ba.mp z with z|z
        .exact NW ((g.gl a).mpr (.inl z))
        .exact haj (ak.mp z)
       exact(g.gf b).mpr (.inl (hc a haf this b XH))
     .rcases(g.gf a).mp ha with z|z
      .exact m_ z haf
      .exact m_ ((g.gl a).mpr (.inr ⟨z,haf⟩)) NW) (λa ha=>RQ.lt a ha)
   refine⟨f2,z5,z6,z7,zH,a1,a2,a3,?_⟩;unfold Jp;rw[t1];dsimp only[da];rw[m6 rfl,e];exact a4
theorem tied(hi:i<n)(NJ:n<=300):∃f,TI n f []/\i∈f/\(∀a∈f,RI hs i a)/\(∀a∈f,∀b,shI hs a b->b∈f)/\Gen.Ef [.lst (hs.map Y9),Y0 ks pl,.int (i:Int)]=aA (.ol (Ww f)):=by
 have ti:TI n [i] [i]:=⟨by simp,λx hx=>by rw[ak.mp hx];exact hi,by simp,λx hx=>hx⟩
 obtain⟨f,y5,y6,y7,RQ,a1,a2,a3,w⟩:=Ej hs ks pl B ho i n hn hl hB 1000 [i] [i] aB aB aB ti (by simp;omega) (by simp) (λa ha=>by rw[ak.mp ha];exact .here) (λa ha NW=>m_ ha NW) (λa ha=>ti.lt a ha);refine⟨f,RQ,a1,a2,a3,?_⟩;have ek:(Qq f).map P0=Ww f:=by rw[cu];rfl
 unfold Gen.Ef Gen.Xp;have w:Jp Gen.Jw Gen.Br Gen.IB [aA (.fz (.lst (hs.map Y9))),aA (.fz (Y0 ks pl)),aA (.fz (.int (i:Int))),aA (.oK [.inl (i:Int)] [.bl aC]),aA (.ol [.int (i:Int)]),aB,aB,aB]=_:=w;unfold Ge at w;generalize hs.map Y9=HS,Y0 ks pl=HD,Qq f=A1,Qr f=A2,Ww f=A3 at*;simp[w,ek,jz1]
end
abbrev Zz(t:Bm):NK:=.inl [t.1,t.2.1]
def Ek(l:List NK):Prop:=(∀k∈l,E7 k)\/(∀k∈l,isM k)
theorem Ek.one{l:List NK}(h:Ek l):U5 l:=h.imp (λh k hk=>h k hk) λh k hk=>h k hk
theorem D3{l:List NK}(h:Ek l):∃out:List NK,out.Pairwise Sn/\∀x,x∈out↔x∈l:=by
 let le:NK->NK->Bool:=λa b=>!decide (Wo b<Wo a);have pm:((Fq l).mergeSort le).Perm (Fq l):=List.mergeSort_perm _ _;have pw:((Fq l).mergeSort le).Pairwise λa b=>le a b=aC:=List.pairwise_mergeSort (le:=le) (λa b c h1 h2=>by
   simp only[le,gu,decide_eq_false_iff_not]at*;exact ck.mpr (List.le_trans (ck.mp h1) (ck.mp h2))) (λa b=>by
   simp only[le,Bool.or_eq_true,gu,decide_eq_false_iff_not];rcases List.le_total (Wo a) (Wo b)with z|z
   .exact .inl (ck.mpr z)
   .exact .inr (ck.mpr z)) _
 have nd:((Fq l).mergeSort le).Nodup:=pm.nodup_iff.mpr (Nj l);have mem:∀x,x∈(Fq l).mergeSort le↔x∈l:=λx=>by rw[pm.mem_iff,M7]
 refine⟨_,?_,mem⟩;refine(f9.mp (pw.and nd)).imp fun{a b} ⟨ha,hb,h1,h2⟩=>?_;simp only[le,gu,decide_eq_false_iff_not]at h1;by_cases z:Wo a<Wo b
 .exact z
 .exact m_ (Jt (h.one.one ((mem a).mp ha) ((mem b).mp hb)) (List.le_antisymm (ck.mp h1) (ck.mp z))) h2
open Classical in
def rise(l:List NK):List NK:=if h:∃out:List NK,out.Pairwise Sn/\∀x,x∈out↔x∈l then Classical.choose h else[]
theorem Wi{l:List NK}(h:Ek l):(rise l).Pairwise Sn/\∀x,x∈rise l↔x∈l:=by unfold rise;rw[dif_pos (D3 h)];exact ff (D3 h)
theorem El{l:List NK}(h:Ek l)(hl:l.length<64):G4 [.lst (l.map nkD)]=aA (.ol ((rise l).map nkD)):=(pc l).trans (vK h.one hl (λx=>(Wi h).2 x) (Wi h).1)
def B1(ts:List Bm):List Bm:=ts.mergeSort λa b=>!decide (Wy b<Wy a)
theorem Jb(ts:List Bm):(B1 ts).Perm ts:=List.mergeSort_perm _ _
theorem Kf(ts:List Bm):(B1 ts).Pairwise λa b=>¬Wy b<Wy a:=by
 have:=List.pairwise_mergeSort (le:=λa b:Bm=>!decide (Wy b<Wy a)) (λa b c h1 h2=>by
   simp only[gu,decide_eq_false_iff_not]at*;exact ck.mpr (List.le_trans (ck.mp h1) (ck.mp h2))) (λa b=>by
   simp only[Bool.or_eq_true,gu,decide_eq_false_iff_not];rcases List.le_total (Wy a) (Wy b)with z|z
   .exact .inl (ck.mpr z)
   .exact .inr (ck.mpr z)) ts
 exact this.imp fun{a b} h=>by simpa using h
abbrev S5:=List (List NK)
abbrev Ub(l:List NK):List D:=l.map nkD
def Ia(ks:List NK)(pl:S5)(t:NK)(ys:List NK):List NK×S5:=match Y4 ks t with
 |some q=>(ks,pl.set q (pl.getD q []++ys))
 |none=>(ks++[t],pl++[ys])
structure Tell(S:NK->Prop)(R:NK->NK->Prop)(L:NK->Nat)(B:Nat)(ks:List NK)(pl:S5):Prop where
 nd:ks.Nodup
 len:ks.length=pl.length
 key:∀t,t∈ks↔S t
 has:∀(q:Nat) (t:NK) (l:List NK),ks[q]? =aA t->pl[q]? =aA l->(∀k,k∈l↔R t k)/\l.length<=L t
 few:ks.length<=B
theorem Tell.imp{S S':NK->Prop}{R R':NK->NK->Prop}{L L':NK->Nat}{B B':Nat}{ks:List NK}{pl:S5}(h:Tell S R L B ks pl)(e1:∀t,S t↔S' t)(e2:∀t k,R t k↔R' t k)(e3:∀t,L t<=L' t)(hB:B<=B'):Tell S' R' L' B' ks pl:=
 ⟨h.nd,h.len,λt=>(h.key t).trans (e1 t),λq t l h1 h2=>⟨λk=>((h.has q t l h1 h2).1 k).trans (e2 t k),ga (h.has q t l h1 h2).2 (e3 t)⟩,ga h.few hB⟩
theorem Tell.add{S:NK->Prop}{R:NK->NK->Prop}{L:NK->Nat}{B:Nat}{ks:List NK}{pl:S5}(h:Tell S R L B ks pl)(hs:∀t k,R t k->S t)(t:NK)(ys:List NK):Tell (λu=>S u\/u=t) (λu k=>R u k\/(u=t/\k∈ys)) (λu=>L u+if u=t then ys.length else 0) (B+1) (Ia ks pl t ys).1 (Ia ks pl t ys).2:=by
 unfold Ia;cases e:Y4 ks t with
 |some q=>
  have hq:=Ul e;have RC:q<ks.length:=by rcases dv q ks.length with z|z;exact z;rw[dj z]at hq;cases hq
  have WG:q<pl.length:=by rw[<-h.len];exact RC
  have eg:pl.getD q []=pl[q]:=by rw[bi,au WG];rfl
  have ht:S t:=(h.key t).mp (b9 hq);refine⟨h.nd,by rw[gp];exact h.len,λu=>?_,λi u l h1 h2=>?_,by have:=h.few;show ks.length<=_;omega⟩
  .rw[h.key];exact⟨.inl,λz=>z.elim id λz=>by rw[z];exact ht⟩
  .by_cases hi:i=q
   .subst hi;have eu:u=t:=by rw[hq]at h1;exact(cy.inj h1).symm
    rw[c9 WG]at h2;have el:=cy.inj h2;obtain⟨g1,g2⟩:=h.has i u pl[i] h1 (au WG);refine⟨λk=>?_,?_⟩
    .rw[<-el,ba,eg,g1 k];exact⟨λz=>z.elim .inl λz=>.inr ⟨eu,z⟩,λz=>z.elim .inl λz=>.inr z.2⟩
    .rw[<-el,av,eg,m6 eu];omega
   .rw[cz (λz=>hi z.symm)]at h2;obtain⟨g1,g2⟩:=h.has i u l h1 h2;refine⟨λk=>?_,by omega⟩;rw[g1 k];refine⟨.inl,λz=>z.elim id λz=>?_⟩;rw[z.1]at h1;exact m_ ((List.getElem?_inj RC h.nd).mp (hq.trans h1.symm)) λw=>hi w.symm
 |none=>
  have hn:=Um e;refine⟨dn.mpr ⟨h.nd,by simp,λa ha b hb e=>hn (by rw[<-ak.mp hb,<-e];exact ha)⟩,by simp[h.len],λu=>?_,λi u l h1 h2=>?_,by have:=h.few;simp;omega⟩
  .rw[ba,h.key,ak]
  .rcases dv i ks.length with z|z
   .rw[dg z]at h1;rw[dg (by rw[<-h.len];exact z)]at h2;obtain⟨g1,g2⟩:=h.has i u l h1 h2;refine⟨λk=>?_,by omega⟩;rw[g1 k];exact⟨.inl,λw=>w.elim id λw=>m_ (by rw[<-w.1];exact b9 h1) hn⟩
   .rw[gc z]at h1;rw[gc (by rw[<-h.len];exact z),<-h.len]at h2;cases ei:i- ks.length with
    |zero=>rw[ei]at h1 h2;cases h1;cases h2;refine⟨λk=>⟨λw=>.inr ⟨rfl,w⟩,λw=>w.elim (λw=>m_ ((h.key t).mpr (hs t k w)) hn) λw=>w.2⟩,by rw[m6 rfl];omega⟩
    |succ j=>rw[ei]at h1;cases h1
theorem pN(ks:List NK)(pl:S5)(t:NK)(ys:List NK):Mw ks (pl.map Ub) t (Ub ys)=((Ia ks pl t ys).1,(Ia ks pl t ys).2.map Ub):=by
 unfold Mw Ia;cases Y4 ks t with
 |some q=>
  dsimp only;rw[List.map_set];have:(pl.map Ub).getD q []=Ub (pl.getD q []):=by rw[bi,bi,bg];cases pl[q]? <;> rfl
  rw[this];simp[Ub]
 |none=>simp[Ub]
theorem Tell.ok{S:NK->Prop}{R:NK->NK->Prop}{L:NK->Nat}{B:Nat}{ks:List NK}{pl:S5}(h:Tell S R L B ks pl)(hB:B<=10000)(hL:∀t,L t<=10000)(n:Nat)(hn:n<=10000):okX (pl.map Ub) n:=
 BU (by rw[ah,<-h.len];have:=h.few;omega) (by omega) λxs hx=>by
  obtain⟨l,hl,rfl⟩:=ax.mp hx;obtain⟨q,hq,rfl⟩:=d5 hl;have hq2:q<ks.length:=by rw[h.len];exact hq
  have:=(h.has q ks[q] pl[q] (au hq2) (au hq)).2;have:=hL ks[q];simp[Ub];omega
def D4(t:NK)(fs:List Bm):Nat:=(fs.map λx=>if Zz x=t then x.2.2.length else 0).sum
def tlG(t:NK)(gs:List HP):Nat:=(gs.map λh=>D4 t h.fs).sum
theorem Rh(t:NK)(x:Bm)(fs:List Bm):D4 t (x::fs)=(if Zz x=t then x.2.2.length else 0)+D4 t fs:=by unfold D4;simp
theorem Ri(t:NK)(h:HP)(gs:List HP):tlG t (h::gs)=D4 t h.fs+tlG t gs:=by unfold tlG;simp
abbrev Su(A:Option SV)(ns ms:List NK)(ks:List NK)(pl:S5)(h x5 x6 x7 x8:Option SV):Ym:=[A,aA (.ol (Ub ns)),aA (.ol (Ub ms)),aA (.oX ks (pl.map Ub)),h,x5,x6,x7,x8]
theorem Kg(A h x8:Option SV)(ns ms:List NK):∀(fs:List Bm) (S:NK->Prop) (R:NK->NK->Prop) (L:NK->Nat) (B:Nat) (ks:List NK) (pl:S5) (x5 x6 x7:Option SV),Tell S R L B ks pl->(∀t k,R t k->S t)->B+fs.length<=10000->(∀t,L t+D4 t fs<=10000)->(∀x∈fs,x.2.2.length<=10000)->∃ZZ ZV y5 y6 y7,Tell (λt=>S t\/∃x∈fs,t=Zz x) (λt k=>R t k\/∃x∈fs,t=Zz x/\k∈x.2.2) (λt=>L t+D4 t fs) (B+fs.length) ZZ ZV/\
  Yp (Y7 3 (Zw (Zh 5) (Zw (Zh 6) (Zw (Zh 7) Wb)))) Gen.Jx (fs.map Sr) (Su A ns ms ks pl h x5 x6 x7 x8)=aA (.nx (Su A ns ms ZZ ZV h y5 y6 y7 x8))
 | [],S,R,L,B,ks,pl,x5,x6,x7,te,_,_,_,_=>⟨ks,pl,x5,x6,x7,te.imp (λt=>by simp) (λt k=>by simp) (λt=>by simp[D4]) (bc _),by simp⟩
 |x::fs,S,R,L,B,ks,pl,x5,x6,x7,te,SQ,hz,hL,hx=>by
  rw[bh]at hz;have te1:=te.add SQ (Zz x) x.2.2;obtain⟨ZZ,ZV,y5,y6,y7,RT,ih⟩:=Kg A h x8 ns ms fs _ _ _ (B+1) (Ia ks pl (Zz x) x.2.2).1 (Ia ks pl (Zz x) x.2.2).2 (aA (.fz (.str x.1))) (aA (.fz (.str x.2.1))) (aA (.fz (.lso (Ub x.2.2)))) te1 (λt k z=>z.elim (λz=>.inl (SQ t k z)) λz=>.inr z.1) (by omega) (λt=>by
   have:=hL t;rw[Rh]at this;by_cases e:t=Zz x
   .rw[m6 e];rw[m6 e.symm]at this;omega
   .rw[m4 e];omega) λy hy=>hx y (am _ hy)
  refine⟨ZZ,ZV,y5,y6,y7,RT.imp (λt=>?_) (λt k=>?_) (λt=>?_) (by rw[bh];omega),?_⟩
  .simp only[ay,exists_eq_or_imp,or_assoc]
  .simp only[ay,exists_eq_or_imp,or_assoc]
  .rw[Rh];by_cases e:t=Zz x
   .rw[m6 e,m6 e.symm];omega
   .rw[m4 e,m4 λz=>e z.symm];omega
  .have a:Gen.Jx (Su A ns ms ks pl h (aA (.fz (.str x.1))) (aA (.fz (.str x.2.1))) (aA (.fz (.lso (Ub x.2.2)))) x8)=aA (.nx (Su A ns ms (Ia ks pl (Zz x) x.2.2).1 (Ia ks pl (Zz x) x.2.2).2 h (aA (.fz (.str x.1))) (aA (.fz (.str x.2.1))) (aA (.fz (.lso (Ub x.2.2)))) x8)):=by have:=D2 (δ:=Su A ns ms ks pl h (aA (.fz (.str x.1))) (aA (.fz (.str x.2.1))) (aA (.fz (.lso (Ub x.2.2)))) x8) (i:=3) (j:=7) (fk:=tupF (Za (Zb 5) (Za (Zb 6) Zd))) (p:=(.tmp (.fz (.tup [.str x.1,.str x.2.1])),Su A ns ms ks pl h (aA (.fz (.str x.1))) (aA (.fz (.str x.2.1))) (aA (.fz (.lso (Ub x.2.2)))) x8)) (q:=(.tup [.str x.1,.str x.2.1],Su A ns ms ks pl h (aA (.fz (.str x.1))) (aA (.fz (.str x.2.1))) (aA (.fz (.lso (Ub x.2.2)))) x8)) (d:=.lso (Ub x.2.2)) (ys:=Ub x.2.2) (ext:=aC) (k:=Zz x) rfl (by simp[jz2]) rfl (Ol (Zz x)) rfl rfl (.inr ⟨rfl,rfl⟩) (te.ok (by omega) (λt=>by have:=hL t;omega) _ (by simp[Ub];exact hx x ac));rw[pN]at this;exact this
   rw[bm];unfold Yp;rw[show(Y7 3 (Zw (Zh 5) (Zw (Zh 6) (Zw (Zh 7) Wb)))).run (Sr x) (Su A ns ms ks pl h x5 x6 x7 x8)=aA (Su A ns ms ks pl h (aA (.fz (.str x.1))) (aA (.fz (.str x.2.1))) (aA (.fz (.lso (Ub x.2.2)))) x8)from by simp];dsimp only[da];rw[a];exact ih
abbrev SG(gs:List HP)(t:NK):Prop:=∃h∈gs,∃x∈h.fs,t=Zz x
abbrev RG(gs:List HP)(t k:NK):Prop:=∃h∈gs,∃x∈h.fs,t=Zz x/\k∈x.2.2
noncomputable def Ib(gs:List HP):Nat:=(gs.map λh=>h.fs.length).sum
theorem R8(h:HP)(gs:List HP):Ib (h::gs)=h.fs.length+Ib gs:=by unfold Ib;simp
structure Few(h:HP):Prop where
 ns:h.ns.length<=1000
 ms:h.ms.length<=1000
 tl:∀x∈h.fs,x.2.2.length<=10000
theorem pM(A x8:Option SV)(hp:HP)(fw:Few hp)(ns ms:List NK)(hz:ns.length+1000<=100000)(QO:ms.length+1000<=100000)(S:NK->Prop)(R:NK->NK->Prop)(L:NK->Nat)(B:Nat)(ks:List NK)(pl:S5)(te:Tell S R L B ks pl)(SQ:∀t k,R t k->S t)(hB:B+hp.fs.length<=10000)(hL:∀t,L t+D4 t hp.fs<=10000)(x5 x6 x7:Option SV):∃ZZ ZV y5 y6 y7,Tell (λt=>S t\/∃x∈hp.fs,t=Zz x) (λt k=>R t k\/∃x∈hp.fs,t=Zz x/\k∈x.2.2) (λt=>L t+D4 t hp.fs) (B+hp.fs.length) ZZ ZV/\
  Gen.Wu (Su A ns ms ks pl (aA (.fz (Y9 hp))) x5 x6 x7 x8)=aA (.nx (Su A (ns++hp.ns) (ms++hp.ms) ZZ ZV (aA (.fz (Y9 hp))) y5 y6 y7 x8)):=by
 obtain⟨ZZ,ZV,y5,y6,y7,RT,l⟩:=Kg A (aA (.fz (Y9 hp))) x8 (ns++hp.ns) (ms++hp.ms) hp.fs S R L B ks pl x5 x6 x7 te SQ hB hL fw.tl;refine⟨ZZ,ZV,y5,y6,y7,RT,?_⟩;have z1:(Ub ns).length+(hp.ns.map nkD).length<=PySem.sizeLine:=Z4 (by have:=fw.ns;simp[Ub];omega);have z2:(Ub ms).length+(hp.ms.map nkD).length<=PySem.sizeLine:=Z4 (by have:=fw.ms;simp[Ub];omega);have xF:∀a b c:D,L2.atI [a,b,c] 2=aA c:=λ_ _ _=>rfl;have SU:∀a b c:D,L2.atI [a,b,c] 1=aA b:=λ_ _ _=>rfl;have VQ:∀a b c:D,L2.atI [a,b,c] 0=aA a:=λ_ _ _=>rfl;have e1:Ub (ns++hp.ns)=Ub ns++hp.ns.map nkD:=ci;have e2:Ub (ms++hp.ms)=Ub ms++hp.ms.map nkD:=ci;unfold Gen.Wu;unfold Su at l⊢;rw[e1,e2]at l⊢;clear e1 e2;rw[show Y9 hp= .tup [.lso (hp.ns.map nkD),.lso (hp.ms.map nkD),.lso (hp.fs.map Sr)]from rfl]at l⊢;generalize pl.map Ub=P1,ZV.map Ub=P2,Ub ns=N1,Ub ms=N2,hp.ns.map nkD=NS,hp.ms.map nkD=MS,hp.fs.map Sr=TS at*;simp[VQ,SU,xF,z1,z2,l,-Yp]
theorem Kh(A x8:Option SV):∀(gs:List HP) (ns ms:List NK) (S:NK->Prop) (R:NK->NK->Prop) (L:NK->Nat) (B:Nat) (ks:List NK) (pl:S5) (x4 x5 x6 x7:Option SV),Tell S R L B ks pl->(∀t k,R t k->S t)->(∀h∈gs,Few h)->ns.length+1000*gs.length<=90000->ms.length+1000*gs.length<=90000->B+Ib gs<=10000->(∀t,L t+tlG t gs<=10000)->∃ZZ ZV y4 y5 y6 y7,Tell (λt=>S t\/SG gs t) (λt k=>R t k\/RG gs t k) (λt=>L t+tlG t gs) (B+Ib gs) ZZ ZV/\
  Yp (Zh 4) Gen.Wu (gs.map Y9) (Su A ns ms ks pl x4 x5 x6 x7 x8)=aA (.nx (Su A (ns++gs.flatMap HP.ns) (ms++gs.flatMap HP.ms) ZZ ZV y4 y5 y6 y7 x8))
 | [],ns,ms,S,R,L,B,ks,pl,x4,x5,x6,x7,te,_,_,_,_,_,_=>⟨ks,pl,x4,x5,x6,x7,te.imp (λt=>by simp) (λt k=>by simp) (λt=>by simp[tlG]) (by simp[Ib]),by simp⟩
 |h::gs,ns,ms,S,R,L,B,ks,pl,x4,x5,x6,x7,te,SQ,fw,hz,QO,hB,hL=>by
  rw[bh]at hz QO;rw[R8]at hB;have fh:=fw h ac;obtain⟨ND,pl1,z5,z6,z7,te1,t1⟩:=pM A x8 h fh ns ms (by omega) (by omega) S R L B ks pl te SQ (by omega) (λt=>by have:=hL t;rw[Ri]at this;omega) x5 x6 x7;obtain⟨ZZ,ZV,y4,y5,y6,y7,RT,ih⟩:=Kh A x8 gs (ns++h.ns) (ms++h.ms) _ _ _ _ ND pl1 (aA (.fz (Y9 h))) z5 z6 z7 te1 (λt k z=>z.elim (λz=>.inl (SQ t k z)) λ⟨x,hx,e,_⟩=>.inr ⟨x,hx,e⟩) (λg hg=>fw g (am _ hg)) (by have:=fh.ns;rw[av];omega) (by have:=fh.ms;rw[av];omega) (by omega) (λt=>by have:=hL t;rw[Ri]at this;omega);refine⟨ZZ,ZV,y4,y5,y6,y7,RT.imp (λt=>?_) (λt k=>?_) (λt=>by rw[Ri];omega) (by rw[R8];omega),?_⟩
  .simp only[SG,ay,exists_eq_or_imp,or_assoc]
  .simp only[RG,ay,exists_eq_or_imp,or_assoc]
  .rw[bm,List.flatMap_cons,List.flatMap_cons,<-List.append_assoc,<-List.append_assoc];unfold Yp;rw[show(Zh 4).run (Y9 h) (Su A ns ms ks pl x4 x5 x6 x7 x8)=aA (Su A ns ms ks pl (aA (.fz (Y9 h))) x5 x6 x7 x8)from by simp];dsimp only[da];rw[t1];exact ih
def W2(ks:List NK)(pl:S5)(k:NK):List NK:=match Y4 ks k with
 |some q=>pl.getD q []
 |none=>[]
theorem pL{ks:List NK}{k:NK}(h:k∈ks):∃q,Y4 ks k=aA q:=by
 cases e:Y4 ks k with
 |some q=>exact⟨q,rfl⟩
 |none=>exact m_ h (Um e)
theorem Tc{S:NK->Prop}{R:NK->NK->Prop}{L:NK->Nat}{B:Nat}{ks:List NK}{pl:S5}(te:Tell S R L B ks pl){k:NK}(hk:k∈ks):(∀x,x∈W2 ks pl k↔R k x)/\(W2 ks pl k).length<=L k/\look ks ((pl.map Ub).map D.lst) k=aA (.lst (Ub (W2 ks pl k))):=by
 obtain⟨q,e⟩:=pL hk;have hq:=Ul e;have RC:q<ks.length:=by rcases dv q ks.length with z|z;exact z;rw[dj z]at hq;cases hq
 have WG:q<pl.length:=by rw[<-te.len];exact RC
 have et:W2 ks pl k=pl[q]:=by unfold W2;rw[e];show pl.getD q []=_;rw[bi,au WG];rfl
 have hp:=au WG;obtain⟨g1,g2⟩:=te.has q k pl[q] hq hp;rw[et];exact⟨g1,g2,Np te.nd hq (by rw[bg,bg,hp];rfl)⟩
def B2(ks:List NK)(pl:S5):NK->Bm
 | .inl [a,b]=>(a,b,rise (W2 ks pl (.inl [a,b])))
 |_=>("","",[])
def Ki(ks:List NK)(pl:S5)(d:D):D:=match nk? d with
 |some k=>Zx (B2 ks pl k)
 |none=>.non
theorem pK{S:NK->Prop}{R:NK->NK->Prop}{L:NK->Nat}{B:Nat}{ks:List NK}{pl:S5}(te:Tell S R L B ks pl)(hB:B<=10000)(hp:∀t,S t->∃a b,t= .inl [a,b])(hL:∀t,L t<64)(hR:∀t k,R t k->E7 k):
  Yw [.own,.cap 3,.acc] 2 (Zh 0) Qb Gen.Ql (ks.map nkD) [aB,aA (.fz (.dX ks ((pl.map Ub).map D.lst))),aA (.ol [])]=
  aA [aB,aA (.fz (.dX ks ((pl.map Ub).map D.lst))),aA (.ol ((ks.map (B2 ks pl)).map Zx))]:=by
 have c:=Bl (te:=Gen.Ql) (f:=Ki ks pl) (c:=aA (.fz (.dX ks ((pl.map Ub).map D.lst)))) (j:=3) (ks.map nkD) [] (λx hx zs=>by
  obtain⟨k,hk,rfl⟩:=ax.mp hx;obtain⟨a,b,rfl⟩:=hp k ((te.key k).mp hk);obtain⟨g1,g2,lk⟩:=Tc te hk;have ok:Ek (W2 ks pl (.inl [a,b])):=.inl λx hx=>hR _ _ ((g1 x).mp hx);have sd:G4 [.lst ((W2 ks pl (.inl [a,b])).map nkD)]=aA (.ol (Ub (rise (W2 ks pl (.inl [a,b]))))):=El ok (Nat.lt_of_le_of_lt g2 (hL _));have SU:∀a b:D,L2.atI [a,b] 1=aA b:=λ_ _=>rfl;have VQ:∀a b:D,L2.atI [a,b] 0=aA a:=λ_ _=>rfl;have ek:nkD (.inl [a,b])= .tup [.str a,.str b]:=rfl;have nk:=Ol (.inl [a,b]);have ef:Ki ks pl (nkD (.inl [a,b]))= .tup [.str a,.str b,.lst (Ub (rise (W2 ks pl (.inl [a,b]))))]:=by unfold Ki;rw[nk];rfl
  rw[ef];rw[ek]at nk⊢;unfold Gen.Ql;generalize (pl.map Ub).map D.lst=XS,Ub (rise (W2 ks pl (.inl [a,b])))=RS at*;have zo:look ks XS (f6 [a,b])=aA (.lst ((W2 ks pl (.inl [a,b])).map nkD)):=lk;generalize (W2 ks pl (.inl [a,b])).map nkD=TD,(f6 [a,b]:NK)=P at*;simp[VQ,SU,nk,zo,sd,jz3,-look]) (by have:=te.few;simp;omega)
 have e:(ks.map nkD).map (Ki ks pl)=(ks.map (B2 ks pl)).map Zx:=by rw[cu,cu];refine gr λk _=>?_;show Ki ks pl (nkD k)=Zx (B2 ks pl k);unfold Ki;rw[Ol]
 rw[c,d3,e]
structure Grp(gs:List HP):Prop where
 few:∀h∈gs,Few h
 nn:∀h∈gs,∀k∈h.ns,E7 k
 mm:∀h∈gs,∀k∈h.ms,isM k
 tt:∀h∈gs,∀x∈h.fs,∀k∈x.2.2,E7 k
 n64:(gs.flatMap HP.ns).length<64
 m64:(gs.flatMap HP.ms).length<64
 t64:∀t,tlG t gs<64
 len:gs.length<64
 cnt:Ib gs<=10000
 p64:∃ps:List NK,ps.length<64/\∀t,SG gs t->t∈ps
theorem join_heaps(gs:List HP)(g:Grp gs):∃h,mG (· ∈gs) h/\Gen.Qm [.lst (gs.map Y9)]=aA (.fz (Zs h)):=by
 have zJ:Tell (λ_=>False) (λ_ _=>False) (λ_=>0) 0 [] []:=⟨cx,rfl,λt=>by simp,λq t l h _=>by simp at h,bc _⟩
 obtain⟨ks,pl,y4,y5,y6,y7,te1,l⟩:=Kh (aA (.fz (.lst (gs.map Y9)))) aB gs [] [] _ _ _ 0 [] [] aB aB aB aB zJ (λ_ _ z=>z) g.few (by have:=g.len;simp;omega) (by have:=g.len;simp;omega) (by have:=g.cnt;omega) (λt=>by have:=g.t64 t;omega);have te:Tell (SG gs) (RG gs) (λt=>tlG t gs) (Ib gs) ks pl:=te1.imp (λt=>by simp) (λt k=>by simp) (λt=>by simp) (by omega);have UY:∀t,SG gs t->∃a b,t= .inl [a,b]:=λt ⟨h,_,x,_,e⟩=>⟨x.1,x.2.1,e⟩
 have JR:∀t k,RG gs t k->E7 k:=λt k ⟨h,hh,x,hx,_,hk⟩=>g.tt h hh x hx k hk;have c:=pK te g.cnt UY g.t64 JR;have LI:Ek (gs.flatMap HP.ns):=.inl λk hk=>by obtain⟨h,hh,hk⟩:=List.mem_flatMap.mp hk;exact g.nn h hh k hk
 have LJ:Ek (gs.flatMap HP.ms):=.inr λk hk=>by obtain⟨h,hh,hk⟩:=List.mem_flatMap.mp hk;exact g.mm h hh k hk
 have r1:=El LI g.n64;have r2:=El LJ g.m64;have yA:ks.length<64:=by obtain⟨ps,h1,h2⟩:=g.p64;exact Nat.lt_of_le_of_lt (b7 te.nd λt ht=>h2 t ((te.key t).mp ht)) h1
 have RP:∀k∈ks,∃a b,k= .inl [a,b]/\B2 ks pl k=(a,b,rise (W2 ks pl k)):=λk hk=>by obtain⟨a,b,rfl⟩:=UY k ((te.key k).mp hk);exact⟨a,b,rfl,rfl⟩
 have LH:∀k∈ks,Ek (W2 ks pl k):=λk hk=>.inl λx hx=>JR k x (((Tc te hk).1 x).mp hx);have QH:((ks.map (B2 ks pl)).map Wy).Nodup:=by rw[cu];refine dw.mpr ((f9.mp te.nd).imp fun{x y} ⟨hx,hy,h⟩ e=>h ?_);obtain⟨a,b,e1,e2⟩:=RP x hx;obtain⟨a',b',y_,UN⟩:=RP y hy;have e:Wy (B2 ks pl x)=Wy (B2 ks pl y):=e;rw[e2,UN]at e;obtain⟨z1,z2⟩:=rQ e;have z1:a=a':=z1;have z2:b=b':=z2;rw[e1,y_,z1,z2]
 have r3:We [.lst ((ks.map (B2 ks pl)).map Zx)]=aA (.ol ((B1 (ks.map (B2 ks pl))).map Zx)):=uy (λt ht k hk=>by
   obtain⟨x,hx,rfl⟩:=ax.mp ht;obtain⟨a,b,e1,e2⟩:=RP x hx;rw[e2]at hk;exact JR x k (((Tc te hx).1 k).mp (((Wi (LH x hx)).2 k).mp hk))) QH (by rw[ah];exact yA) (Jb _) (Kf _)
 refine⟨⟨rise (gs.flatMap HP.ns),rise (gs.flatMap HP.ms),B1 (ks.map (B2 ks pl))⟩,⟨(Wi LI).1,λk=>?_,(Wi LJ).1,λk=>?_,?_,λf v=>?_,λt ht=>?_⟩,?_⟩
 .rw[(Wi LI).2,List.mem_flatMap]
 .rw[(Wi LJ).2,List.mem_flatMap]
 .have nd2:((B1 (ks.map (B2 ks pl))).map Wy).Nodup:=(((Jb _).map Wy).nodup_iff).mpr QH;refine((Kf _).and (dw.mp nd2)).imp fun{a b} ⟨h1,h2⟩=>?_;by_cases z:Wy a<Wy b
  .exact z
  .exact m_ (List.le_antisymm (ck.mp h1) (ck.mp z)) h2
 .constructor
  .rintro⟨l,hl⟩;obtain⟨k,hk,e⟩:=ax.mp ((Jb _).mem_iff.mp hl);obtain⟨a,b,e1,e2⟩:=RP k hk;rw[e2]at e;obtain⟨h,hh,x,hx,ex⟩:=(te.key k).mp hk;rw[e1]at ex;have ex:=gh.inj (f6.inj ex);have ex2:=(gh.inj ex.2).1;have ea:=(Prod.mk.inj e).1;have eb:=(Prod.mk.inj (Prod.mk.inj e).2).1;refine⟨h,hh,x.2.2,?_⟩;rw[<-ea,<-eb,ex.1,ex2];exact hx
  .rintro⟨h,hh,l,hl⟩;have hk:Zz (f,v,l)∈ks:=(te.key _).mpr ⟨h,hh,_,hl,rfl⟩;exact⟨_,(Jb _).mem_iff.mpr (List.mem_map_of_mem (f:=B2 ks pl) hk)⟩
 .obtain⟨k,hk,rfl⟩:=ax.mp ((Jb _).mem_iff.mp ht);obtain⟨a,b,e1,e2⟩:=RP k hk;rw[e2];refine⟨(Wi (LH k hk)).1,λx=>?_⟩;show x∈rise (W2 ks pl k)↔_;rw[(Wi (LH k hk)).2,(Tc te hk).1 x,e1];constructor
  .rintro⟨h,hh,y,hy,ey,hx⟩;have ey:=gh.inj (f6.inj ey);have ey2:=(gh.inj ey.2).1;exact⟨h,hh,y.2.2,by show(a,b,y.2.2)∈h.fs;rw[ey.1,ey2];exact hy,hx⟩
  .rintro⟨h,hh,l,hl,hx⟩;exact⟨h,hh,_,hl,rfl,hx⟩
 .rw[d3,d3]at l;have l:Yp (Zh 4) Gen.Wu (gs.map Y9) [aA (.fz (.lst (gs.map Y9))),aA (.ol []),aA (.ol []),aA (.oX [] []),aB,aB,aB,aB,aB]=_:=l;unfold Gen.Qm Gen.Ou;unfold Su at l;unfold Ub at l;unfold Ub at c;rw[show Zs ⟨rise (gs.flatMap HP.ns),rise (gs.flatMap HP.ms),B1 (ks.map (B2 ks pl))⟩=D.tup [.lst ((rise (gs.flatMap HP.ns)).map nkD),.lst ((rise (gs.flatMap HP.ms)).map nkD),.lst ((B1 (ks.map (B2 ks pl))).map Zx)]from rfl];generalize (B1 (ks.map (B2 ks pl))).map Zx=O3,(ks.map (B2 ks pl)).map Zx=O4,(rise (gs.flatMap HP.ns)).map nkD=O1,(rise (gs.flatMap HP.ms)).map nkD=O2,(gs.flatMap HP.ns).map nkD=I1,(gs.flatMap HP.ms).map nkD=I2,gs.map Y9=GS,(pl.map λl=>l.map nkD)=PL at*;simp[l,c,r1,r2,r3,jz3,Fv,-Yp,-Yw]
theorem mG.congr{G G':HP->Prop}{h:HP}(m:mG G h)(e:∀a,G a↔G' a):mG G' h:=by have:G=G':=funext λa=>propext (e a);rw[<-this];exact m
noncomputable abbrev Nx(hs:List HP)(b:Nat):HP:=(hs[b]?).getD ⟨[],[],[]⟩
theorem Ga{hs:List HP}{b:Nat}(hb:b<hs.length):hs[b]? =aA (Nx hs b):=by unfold Nx;rw[au hb];rfl
abbrev Em(hs:List HP)(p:Nat)(g:HP):Prop:=∃b,RI hs p b/\hs[b]? =aA g
theorem qA{hs:List HP}{a b:Nat}(h:shI hs a b):shI hs b a:=let⟨t,h1,h2⟩:=h;⟨t,h2,h1⟩
theorem RI.trans{hs:List HP}{a b c:Nat}(h:RI hs a b)(k:RI hs b c):RI hs a c:=by
 induction k with
 |here=>exact h
 |step _ s ih=>exact .step ih s
theorem RI.symm{hs:List HP}{a b:Nat}(h:RI hs a b):RI hs b a:=by
 induction h with
 |here=>exact .here
 |step _ s ih=>exact(RI.step .here (qA s)).trans ih
theorem Sw{hs:List HP}{p:Nat}{a:HP}(hp:hs[p]? =aA a)(g:HP):Em hs p g↔mM (· ∈hs) a g:=by
 constructor
 .rintro⟨b,r,e⟩;have:∀{x y},RI hs x y->x=p->∀g,hs[y]? =aA g->mM (· ∈hs) a g:=fun{x y} r=>by
   induction r with
   |here=>intro hx g e;rw[hx,hp]at e;cases e;exact .here (b9 hp)
   |step r s ih=>intro hx g e;obtain⟨t,⟨u,eu,tu⟩,⟨v,ev,tv⟩⟩:=s;rw[e]at ev;cases ev;exact .step (ih hx u eu) (b9 e) ⟨t,tu,tv⟩
  exact this r rfl g e
 .intro c;have:∀{x y},mM (· ∈hs) x y->hs[p]? =aA x->Em hs p y:=fun{x y} c=>by
   induction c with
   |here _=>exact λz=>⟨p,.here,z⟩
   |step c' hc sh ih=>intro z;obtain⟨b,r,e⟩:=ih z;obtain⟨q,hq⟩:=List.getElem?_of_mem hc;obtain⟨t,t1,t2⟩:=sh;exact⟨q,.step r ⟨t,⟨_,e,t1⟩,⟨_,hq,t2⟩⟩,hq⟩
  exact this c hp
theorem Xt(w:Nat->Nat):∀(n:Nat) (f:List Nat),f.Nodup->(∀x∈f,x<n)->(f.map w).sum<=((df n).map w).sum
 |0,f,_,h=>by
  cases f with
  |nil=>simp
  |cons x f=>exact m_ (h x ac) (dz _)
 |n+1,f,nd,h=>by
  rw[List.range_succ,ci,List.sum_append];by_cases hn:n∈f
  .have pm:=List.perm_cons_erase hn;have nd2:=pm.nodup_iff.mp nd;obtain⟨n1,n2⟩:=fq.mp nd2;have ih:=Xt w n (f.erase n) n2 λx hx=>by have h1:=h x (List.mem_of_mem_erase hx);have h2:x≠n:=λz=>n1 (z▸hx);omega
   rw[(pm.map w).sum_nat,bm,List.sum_cons];simp only[bm,List.map_nil,List.sum_cons,List.sum_nil];omega
  .have ih:=Xt w n f nd λx hx=>by have h1:=h x hx;have h2:x≠n:=λz=>hn (by rw[<-z];exact hx);omega
   omega
theorem r_(w:HP->Nat)(hs:List HP):(df hs.length).map (λb=>w (Nx hs b))=hs.map w:=by refine List.ext_getElem (by simp) λi h1 h2=>?_;simp at h1;have:=Ga h1;rw[au h1]at this;rw[List.getElem_map,List.getElem_map,List.getElem_range,<-cy.inj this]
structure Tot(hs:List HP):Prop where
 all:Grp hs
 ne:∀h∈hs,h.ns≠[]
theorem Tot.grp{hs:List HP}(T:Tot hs){f:List Nat}(nd:f.Nodup)(lt:∀x∈f,x<hs.length):Grp (f.map (Nx hs)):=by
 have mem:∀h∈f.map (Nx hs),h∈hs:=λh hh=>by obtain⟨b,hb,rfl⟩:=ax.mp hh;exact b9 (Ga (lt b hb))
 have le:∀w:HP->Nat,((f.map (Nx hs)).map w).sum<=(hs.map w).sum:=λw=>by rw[cu,<-r_ w hs];exact Xt (w∘Nx hs) hs.length f nd lt
 have A:=T.all;refine⟨λh hh=>A.few h (mem h hh),λh hh=>A.nn h (mem h hh),λh hh=>A.mm h (mem h hh),λh hh=>A.tt h (mem h hh),?_,?_,λt=>Nat.lt_of_le_of_lt (le _) (A.t64 t),?_,ga (le _) A.cnt,?_⟩
 .have:=A.n64;rw[List.length_flatMap]at this⊢;exact Nat.lt_of_le_of_lt (le _) this
 .have:=A.m64;rw[List.length_flatMap]at this⊢;exact Nat.lt_of_le_of_lt (le _) this
 .rw[ah];have:=Nq nd lt;have:=A.len;omega
 .obtain⟨ps,h1,h2⟩:=A.p64;exact⟨ps,h1,λt ⟨h,hh,z⟩=>h2 t ⟨h,mem h hh,z⟩⟩
abbrev Xu(HS:List D)(HD:D)(P:List D)(sk:List Nat)(x4 x5 x6:Option SV):Ym:=[aA (.fz (.lst HS)),aA (.fz HD),aA (.ol P),aA (.oK (Qq sk) (Qr sk)),x4,x5,x6]
theorem Kj(HS:List D)(HD:D)(P:List D)(x4 x5:Option SV):∀(f sk:List Nat) (x6:Option SV),(sk++f).Nodup->sk.length+f.length<=10000->∃y6,
  Yp (Zh 6) Gen.Jy (Ww f) (Xu HS HD P sk x4 x5 x6)=aA (.nx (Xu HS HD P (sk++f) x4 x5 y6))
 | [],sk,x6,_,_=>⟨x6,by simp[Ww]⟩
 |o::f,sk,x6,nd,hz=>by
  rw[bh]at hz;have e0:(sk++[o])++f=sk++o::f:=by simp
  obtain⟨y6,ih⟩:=Kj HS HD P x4 x5 f (sk++[o]) (aA (.fz (.int (o:Int)))) (by rw[e0];exact nd) (by rw[av];simp;omega);refine⟨y6,?_⟩;have ho:o∉sk:=λz=>(dn.mp nd).2.2 o z o ac rfl;have p:W4 (Qq sk) (Qr sk) (f6 (o:Int)) (.bl aC)=(Qq (sk++[o]),Qr (sk++[o])):=by unfold W4;rw[m4 λz=>ho (U7.mp z)];simp[Qq,Qr]
  have z1:(Qr sk).length<PySem.sizeLine:=Yk (by simp;omega);have t:Gen.Jy (Xu HS HD P sk x4 x5 (aA (.fz (.int (o:Int)))))=aA (.nx (Xu HS HD P (sk++[o]) x4 x5 (aA (.fz (.int (o:Int)))))):=by unfold Gen.Jy Xu;generalize Qq (sk++[o])=K1,Qr (sk++[o])=K2,Qq sk=K3,Qr sk=K4 at*;simp[p,z1,-W4]
  show Yp (Zh 6) Gen.Jy (.int (o:Int)::Ww f) _=_;unfold Yp;rw[show(Zh 6).run (.int (o:Int)) (Xu HS HD P sk x4 x5 x6)=aA (Xu HS HD P sk x4 x5 (aA (.fz (.int (o:Int)))))from by simp];dsimp only[da];rw[t];dsimp only[da];rw[ih,e0]
theorem rq(hs:List HP)(f:List Nat)(lt:∀x∈f,x<hs.length)(hf:f.length<=10000):
  Yw [.own,.cap 0,.acc] 2 (Zh 0) Qb Gen.Ov (Ww f) [aB,aA (.fz (.lst (hs.map Y9))),aA (.ol [])]=aA [aB,aA (.fz (.lst (hs.map Y9))),aA (.ol ((f.map (Nx hs)).map Y9))]:=by
 let F:D->D:=λd=>match d with| .int i=>Y9 (Nx hs i.toNat)|_=>.non
 have c:=Bl (te:=Gen.Ov) (f:=F) (c:=aA (.fz (.lst (hs.map Y9)))) (j:=0) (Ww f) [] (λx hx zs=>by
  obtain⟨b,hb,rfl⟩:=ax.mp hx;have ai:=DT (Ga (lt b hb));have ef:F (.int (b:Int))=Y9 (Nx hs b):=by show Y9 (Nx hs ((b:Int)).toNat)=_;rw[Int.toNat_natCast]
  rw[ef];unfold Gen.Ov;generalize Y9 (Nx hs b)=Q,hs.map Y9=HS at*;simp[ai]) (by simp[Ww];omega)
 have e:(Ww f).map F=(f.map (Nx hs)).map Y9:=by rw[cu,cu];refine gr λb _=>?_;show Y9 (Nx hs ((b:Int)).toNat)=Y9 (Nx hs b);rw[Int.toNat_natCast]
 rw[c,d3,e]
structure JI(hs:List HP)(i:Nat)(sk:List Nat)(ps:List HP):Prop where
 nd:sk.Nodup
 lt:∀x∈sk,x<hs.length
 cl:∀a∈sk,∀b,shI hs a b->b∈sk
 upto:∀p,p<i->p∈sk
 each:∀h∈ps,∃a∈sk,mG (Em hs a) h
 all:∀a∈sk,∃h∈ps,mG (Em hs a) h
 apart:ps.Pairwise λh h'=>∀k,k∈h.ns->k∉h'.ns
 len:ps.length<=i
theorem JI.ri{hs:List HP}{i:Nat}{sk:List Nat}{ps:List HP}(j:JI hs i sk ps){a b:Nat}(ha:a∈sk)(r:RI hs a b):b∈sk:=by
 induction r with
 |here=>exact ha
 |step _ s ih=>exact j.cl _ ih _ s
theorem Sx(hs:List HP)(T:Tot hs)(ks:List NK)(pl:S4)(B:Nat)(ho:mQ (C9 hs) B ks pl)(i:Nat)(hi:i<hs.length)(sk:List Nat)(ps:List HP)(j:JI hs i sk ps)(x5 x6:Option SV):∃OP OX y5 y6,JI hs (i+1) OP OX/\
  Gen.Qz (Xu (hs.map Y9) (Y0 ks pl) (ps.map Zs) sk (aA (.fz (.int (i:Int)))) x5 x6)=aA (.nx (Xu (hs.map Y9) (Y0 ks pl) (OX.map Zs) OP (aA (.fz (.int (i:Int)))) y5 y6)):=by
 have h64:=T.all.len;have hB:∀h∈hs,(O7 h).length<=10000:=λh hh=>by have f:=T.all.few h hh;have:=f.ns;have:=f.ms;rw[av];omega
 by_cases VU:i∈sk
 .refine⟨sk,ps,x5,x6,⟨j.nd,j.lt,j.cl,λp hp=>?_,j.each,j.all,j.apart,by have:=j.len;omega⟩,?_⟩
  .by_cases e:p=i
   .rw[e];exact VU
   .exact j.upto p (by omega)
  .obtain⟨v,lk⟩:=R7 (ks:=Qq sk) (vs:=Qr sk) (k:=.inl (i:Int)) (by simp) (U7.mpr VU);unfold Gen.Qz Xu;generalize Qq sk=K1,Qr sk=K2 at*;simp[lk,-look]
 .obtain⟨f,ti,fi,fr,fc,tg⟩:=tied hs ks pl B ho i hs.length (by omega) rfl hB hi (by omega);have out:∀x∈f,x∉sk:=λx hx z=>VU (j.ri z (fr x hx).symm);have nd2:(sk++f).Nodup:=dn.mpr ⟨j.nd,ti.nd,λa ha b hb e=>out b hb (by rw[<-e];exact ha)⟩;have fl:=ti.len.1;have skl:=Nq j.nd j.lt;obtain⟨h,m,jh⟩:=join_heaps (f.map (Nx hs)) (T.grp ti.nd ti.lt);have mem:∀g,g∈f.map (Nx hs)↔Em hs i g:=λg=>by
   constructor
   .intro z;obtain⟨b,hb,rfl⟩:=ax.mp z;exact⟨b,fr b hb,Ga (ti.lt b hb)⟩
   .rintro⟨b,r,e⟩;have hb:b∈f:=by
     have:∀{x y},RI hs x y->x∈f->y∈f:=fun{x y} r=>by
      induction r with
      |here=>exact id
      |step _ s ih=>exact λz=>fc _ (ih z) _ s
     exact this r fi
    have:=Ga (ti.lt b hb);rw[e]at this;rw[cy.inj this];exact List.mem_map_of_mem hb
  have m:mG (Em hs i) h:=m.congr mem;obtain⟨y6,sl⟩:=Kj (hs.map Y9) (Y0 ks pl) (ps.map Zs) (aA (.fz (.int (i:Int)))) (aA (.fz (.lst (Ww f)))) f sk x6 nd2 (by omega);refine⟨sk++f,ps++[h],aA (.fz (.lst (Ww f))),y6,⟨nd2,λx hx=>?_,λa ha b XH=>?_,λp hp=>?_,λh' hh=>?_,λa ha=>?_,?_,by have:=j.len;simp;omega⟩,?_⟩
  .rcases ba.mp hx with z|z
   .exact j.lt x z
   .exact ti.lt x z
  .rcases ba.mp ha with z|z
   .exact bz _ (j.cl a z b XH)
   .exact bx _ (fc a z b XH)
  .by_cases e:p=i
   .rw[e];exact bx _ fi
   .exact bz _ (j.upto p (by omega))
  .rcases ba.mp hh with z|z
   .obtain⟨a,ha,m'⟩:=j.each h' z;exact⟨a,bz _ ha,m'⟩
   .rw[ak.mp z];exact⟨i,bx _ fi,m⟩
  .rcases ba.mp ha with z|z
   .obtain⟨h',hh,m'⟩:=j.all a z;exact⟨h',bz _ hh,m'⟩
   .refine⟨h,by simp,m.congr λg=>?_⟩;constructor
    .rintro⟨b,r,e⟩;exact⟨b,(fr a z).symm.trans r,e⟩
    .rintro⟨b,r,e⟩;exact⟨b,(fr a z).trans r,e⟩
  .refine List.pairwise_append.mpr ⟨j.apart,by simp,λh1 JF h2 yW k k1 k2=>?_⟩;rw[ak.mp yW]at k2;obtain⟨a,ha,m1⟩:=j.each h1 JF;obtain⟨u,⟨c,rc,ec⟩,kc⟩:=(m1.ns_m k).mp k1;obtain⟨v,⟨d,rd,ed⟩,kd⟩:=(m.ns_m k).mp k2;have cs:=j.ri ha rc;have ds:=j.cl c cs d ⟨k,⟨u,ec,bz _ kc⟩,⟨v,ed,bz _ kd⟩⟩;exact VU (j.ri ds rd.symm)
  .have lk:look (Qq sk) (Qr sk) (.inl (i:Int))=aB:=Ei λz=>VU (U7.mp z);have c:=rq hs f ti.lt (by omega);have zp:(ps.map Zs).length<PySem.sizeLine:=Yk (by have:=j.len;rw[ah];omega);have ep:(ps++[h]).map Zs=ps.map Zs++[Zs h]:=by simp
   rw[ep];rw[show Zs h= .tup [.lst (h.ns.map nkD),.lst (h.ms.map nkD),.lst (h.fs.map Zx)]from rfl]at jh⊢;unfold Gen.Qz;unfold Xu at sl⊢;generalize [D.lst (h.ns.map nkD),.lst (h.ms.map nkD),.lst (h.fs.map Zx)]=HH,(f.map (Nx hs)).map Y9=GS,hs.map Y9=HS,Y0 ks pl=HD,ps.map Zs=PP,Qq (sk++f)=K1,Qr (sk++f)=K2,Qq sk=K3,Qr sk=K4,Ww f=PF at*;simp[lk,tg,sl,c,jh,zp,-look,-Yp,-Yw]
theorem ro{hs:List HP}(T:Tot hs){a:Nat}(ha:a<hs.length){h:HP}(m:mG (Em hs a) h):mS h:=by
 have A:=T.all;refine⟨λz=>?_,λk hk=>?_,λk hk=>?_,λt ht k hk=>?_⟩
 .have e:=Ga ha;have hm:=b9 e;obtain⟨k,l,ek⟩:=du (T.ne _ hm);have:=(m.ns_m k).mpr ⟨_,⟨a,.here,e⟩,by rw[ek];exact ac⟩;rw[z]at this;cases this
 .obtain⟨g,⟨b,_,e⟩,hk⟩:=(m.ns_m k).mp hk;exact A.nn g (b9 e) k hk
 .obtain⟨g,⟨b,_,e⟩,hk⟩:=(m.ms_m k).mp hk;exact A.mm g (b9 e) k hk
 .obtain⟨g,⟨b,_,e⟩,l,hl,hk⟩:=((m.fs_l t ht).2 k).mp hk;exact A.tt g (b9 e) _ hl k hk
theorem Xv{h h':HP}(o:mS h)(o':mS h')(ap:∀k,k∈h.ns->k∉h'.ns):Wh h≠Wh h':=λe=>by
 obtain⟨x,l,ex⟩:=du o.ne;obtain⟨y,l',ey⟩:=du o'.ne;unfold Wh at e;rw[ex,ey]at e;have e:Wo x=Wo y:=e;have hx:x∈h.ns:=by rw[ex];exact ac
 have hy:y∈h'.ns:=by rw[ey];exact ac
 obtain⟨u,v,e1⟩:=o.nm x hx;obtain⟨u',v',e2⟩:=o'.nm y hy;have one:OneK x y:=by rw[e1,e2];exact .nm _ _
 have:=Jt one e;rw[<-this]at hy;exact ap x hx hy
def Kk(ts:List HP):List HP:=ts.mergeSort λa b=>!decide (Wh b<Wh a)
theorem Q0(ts:List HP):(Kk ts).Perm ts:=List.mergeSort_perm _ _
theorem Sy(ts:List HP):(Kk ts).Pairwise λa b=>¬Wh b<Wh a:=by
 have:=List.pairwise_mergeSort (le:=λa b:HP=>!decide (Wh b<Wh a)) (λa b c h1 h2=>by
   simp only[gu,decide_eq_false_iff_not]at*;exact ck.mpr (List.le_trans (ck.mp h1) (ck.mp h2))) (λa b=>by
   simp only[Bool.or_eq_true,gu,decide_eq_false_iff_not];rcases List.le_total (Wh a) (Wh b)with z|z
   .exact .inl (ck.mpr z)
   .exact .inr (ck.mpr z)) ts
 exact this.imp fun{a b} h=>by simpa using h
theorem joined(hs:List HP)(T:Tot hs):∃out,mL (· ∈hs) out/\(∀h∈out,mS h)/\out.length<=hs.length/\Gen.Bt [.lst (hs.map Y9)]=aA (.ol (out.map Zs)):=by
 have h64:=T.all.len;have few:∀h∈hs,(O7 h).length<=126:=λh hh=>by have n:=T.all.n64;have m:=T.all.m64;obtain⟨a,b,rfl⟩:=List.append_of_mem hh;simp only[List.flatMap_append,List.flatMap_cons,av]at n m;rw[av];omega
 have hz:E9 hs<=10000:=by
  have:∀l:List HP,(∀h∈l,(O7 h).length<=126)->E9 l<=126*l.length:=λl=>by
   induction l with
   |nil=>intro _;simp[E9]
   |cons h l ih=>intro hl;have:=ih λg hg=>hl g (am _ hg);have:=hl h ac;rw[R6,bh];omega
  have:=this hs few;omega
 obtain⟨ks,pl,ho,hd⟩:=holders_of hs hz;obtain⟨δ',e,sk,ps,y4,y5,y6,j,hy⟩:=Cf (tg:=Zh 4) (body:=Gen.Qz) (P:=λi δ=>∃sk ps y4 y5 y6,JI hs i sk ps/\δ=Xu (hs.map Y9) (Y0 ks pl) (ps.map Zs) sk y4 y5 y6) hs.length 0 (Xu (hs.map Y9) (Y0 ks pl) [] [] aB aB aB) ⟨[],[],aB,aB,aB,⟨cx,(λ_ z=>nomatch z),(λ_ z=>nomatch z),(λp z=>m_ z (dz _)),(λ_ z=>nomatch z),(λ_ z=>nomatch z),.nil,bc _⟩,rfl⟩ (λi _ hi δ ⟨sk,ps,y4,y5,y6,j,hy⟩=>by
  subst hy;rw[Nat.zero_add]at hi;obtain⟨OP,OX,z5,z6,j',t⟩:=Sx hs T ks pl _ ho i hi sk ps j y5 y6;exact⟨Xu (hs.map Y9) (Y0 ks pl) (ps.map Zs) sk (aA (.fz (.int (i:Int)))) y5 y6,_,by simp,t,OP,OX,_,z5,z6,j',rfl⟩)
 subst hy;rw[Nat.zero_add]at j;have ok:∀h∈ps,mS h:=λh hh=>by obtain⟨a,ha,m⟩:=j.each h hh;exact ro T (j.lt a ha) m
 have QH:(ps.map Wh).Nodup:=dw.mpr ((f9.mp j.apart).imp fun{a b} ⟨ha,hb,ap⟩=>Xv (ok a ha) (ok b hb) ap);have s:=BL ok QH (by have:=j.len;omega) (Q0 ps) (Sy ps);have s:We [.lst (ps.map Zs)]=aA (.ol ((Kk ps).map Zs)):=s;refine⟨Kk ps,⟨?_,λh hh=>?_,λa ha=>?_⟩,λh hh=>ok h ((Q0 ps).mem_iff.mp hh),by rw[(Q0 ps).length_eq];exact j.len,?_⟩
 .have nd2:((Kk ps).map Wh).Nodup:=(((Q0 ps).map Wh).nodup_iff).mpr QH;refine((Sy ps).and (dw.mp nd2)).imp fun{a b} ⟨h1,h2⟩=>?_;by_cases z:Wh a<Wh b
  .exact z
  .exact m_ (List.le_antisymm (ck.mp h1) (ck.mp z)) h2
 .obtain⟨p,hp,m⟩:=j.each h ((Q0 ps).mem_iff.mp hh);have e:=Ga (j.lt p hp);exact⟨_,b9 e,m.congr (Sw e)⟩
 .obtain⟨p,e⟩:=List.getElem?_of_mem ha;have hp:p<hs.length:=by rcases dv p hs.length with z|z;exact z;rw[dj z]at e;cases e
  obtain⟨h,hh,m⟩:=j.all p (j.upto p hp);exact⟨h,(Q0 ps).mem_iff.mpr hh,m.congr (Sw e)⟩
 .have g1:Pg (hs.length:Int):=Gn (by omega);have et:((hs.length:Int)).toNat=hs.length:=by omega
  have el:(hs.map Y9).length=hs.length:=ah _;have e:Yp (Zh 4) Gen.Qz (RK 0 hs.length) [aA (.fz (.lst (hs.map Y9))),aA (.fz (Y0 ks pl)),aA (.ol []),aA (.oK [] []),aB,aB,aB]=_:=e;unfold Gen.Bt Gen.Eg;unfold Xu Y0 at e;unfold Y0 at hd;generalize (Kk ps).map Zs=OS,ps.map Zs=PS,Qq sk=K1,Qr sk=K2,(pl.map Ww).map D.lst=HX,hs.map Y9=HS,hs.length=N at*;simp[hd,e,s,g1,el,et,R5,-Yp]
theorem Rj{tt:FT}{c:Option SV}{n:Nat}(ht:∀(i:Nat) (d:D) (zs:List D),i<n->∃b,tt [aA (.fz (.int (i:Int))),aA (.fz d),c,aA (.ol zs)]=aA (b,[aA (.fz (.int (i:Int))),aA (.fz d),c,aA (.ol zs)])):
  ∀(xs:List D) (s:Nat) (ys:List D),s+xs.length<=n->ys.length+xs.length<=1000->∃zs,zs.Sublist xs/\Yw [.own,.own,.cap 3,.acc] 3 (Y7 2 (Zw (Zh 0) (Zw (Zh 1) Wb))) tt (Zb 1) ((xs.zipIdx s).map λp=>D.tup [.int (p.2:Nat),p.1]) [aB,aB,c,aA (.ol ys)]=aA [aB,aB,c,aA (.ol (ys++zs))]
 | [],s,ys,_,_=>⟨[],List.Sublist.slnil,by simp⟩
 |d::xs,s,ys,hn,hl=>by
  rw[bh]at hn hl;obtain⟨b,hb⟩:=ht s d ys (by omega);have z:ys.length<PySem.sizeLine:=Yk (by omega);cases b with
  |false=>obtain⟨zs,h1,h2⟩:=Rj ht xs (s+1) ys (by omega) (by omega);refine⟨zs,h1.cons d,?_⟩;rw[List.zipIdx_cons,bm];generalize ((xs.zipIdx (s+1)).map λp=>D.tup [.int (p.2:Nat),p.1])=L at h2⊢;simp[hb,h2]
  |true=>obtain⟨zs,h1,h2⟩:=Rj ht xs (s+1) (ys++[d]) (by omega) (by rw[av,f7];omega);refine⟨d::zs,h1.cons₂ d,?_⟩;rw[List.zipIdx_cons,bm];generalize ((xs.zipIdx (s+1)).map λp=>D.tup [.int (p.2:Nat),p.1])=L at h2⊢;simp[hb,h2,z]
noncomputable abbrev W8(c0 c1 c2:Int):D:=.lst [.int c0,.int c1,.int c2]
theorem xc(c0 c1 c2:Int)(i:Nat)(d:D)(zs:List D)(hi:i<100):∃b,Gen.Ji [aA (.fz (.int (i:Int))),aA (.fz d),aA (.fz (W8 c0 c1 c2)),aA (.ol zs)]=aA (b,[aA (.fz (.int (i:Int))),aA (.fz d),aA (.fz (W8 c0 c1 c2)),aA (.ol zs)]):=by
 have hm:=Lr (i:=(i:Int)) (j:=(i:Int)) (by omega);have hp:(0:Int)<=(i:Int)*(i:Int):=Int.mul_nonneg (by omega) (by omega);have hz:(0:Int)<(i:Int)*(i:Int)+1:=by omega
 have hq:(i:Int)*(i:Int)+1<1073741824:=by
  have:i*i<=100*100:=Nat.mul_le_mul (by omega) (by omega);have:((i*i:Nat):Int)<=10000:=by omega
  rw[Int.natCast_mul]at this;omega
 have a0:L2.atI [D.int c0,.int c1,.int c2] 0=aA (.int c0):=rfl;unfold Gen.Ji;generalize (i:Int)*(i:Int)=q at*;simp[hm,hz,hq,a0]
theorem xb(c0 c1 c2:Int)(i:Nat)(d:D)(zs:List D)(hi:i<100):∃b,Gen.Jj [aA (.fz (.int (i:Int))),aA (.fz d),aA (.fz (W8 c0 c1 c2)),aA (.ol zs)]=aA (b,[aA (.fz (.int (i:Int))),aA (.fz d),aA (.fz (W8 c0 c1 c2)),aA (.ol zs)]):=by
 have hm:=Lr (i:=(i:Int)) (j:=(i:Int)) (by omega);have hp:(0:Int)<=(i:Int)*(i:Int):=Int.mul_nonneg (by omega) (by omega);have hz:(0:Int)<(i:Int)*(i:Int)+1:=by omega
 have hq:(i:Int)*(i:Int)+1<1073741824:=by
  have:i*i<=100*100:=Nat.mul_le_mul (by omega) (by omega);have:((i*i:Nat):Int)<=10000:=by omega
  rw[Int.natCast_mul]at this;omega
 have a0:L2.atI [D.int c0,.int c1,.int c2] 1=aA (.int c1):=rfl;unfold Gen.Jj;generalize (i:Int)*(i:Int)=q at*;simp[hm,hz,hq,a0]
theorem R9{ks out:List NK}(h:U5 ks)(nd:ks.Nodup)(hl:ks.length<64)(hm:∀x,x∈out↔x∈ks)(hs:out.Pairwise Sn):L2.Mt (ks.map nkD) (ks.map nkD)=aA (.ol (out.map nkD)):=by
 have LP:out.Nodup:=hs.imp fun{a b} z e=>by rw[e]at z;exact d4 _ z
 have pm:out.Perm ks:=(List.perm_ext_iff_of_nodup LP nd).mpr hm;refine Dx (Kb h nd) (by rw[ah];exact hl) ⟨pm.map _,dw.mpr ?_⟩;refine(f9.mp hs).imp fun{a b} ⟨ha,hb,z⟩=>?_;rw[Ka 12 (h.one ((hm b).mp hb) ((hm a).mp ha))];exact congrArg aA (m7 λy=>d4 _ (List.lt_trans y z))
abbrev EV:=List Str×NK
def Cw(ZJ:List EV)(p:List Str):List NK:=(ZJ.filter λe=>decide (e.1=p)).map (·.2)
structure Tl(ZJ:List EV)(Ks:List (List Str))(vs:List D):Prop where
 nd:Ks.Nodup
 len:Ks.length=vs.length
 mem:∀p,p∈Ks↔∃e∈ZJ,e.1=p
 get:∀p∈Ks,look (Ks.map L2.Wp) vs (L2.Wp p)=aA (.lst ((Cw ZJ p).map nkD))
 no:∀p,p∉Ks->look (Ks.map L2.Wp) vs (L2.Wp p)=aB
theorem Tl.few{ZJ:List EV}{Ks:List (List Str)}{vs:List D}(h:Tl ZJ Ks vs):Ks.length<=ZJ.length:=by
 have:=b7 h.nd (l₂:=ZJ.map (·.1)) λp hp=>by obtain⟨e,he,rfl⟩:=(h.mem p).mp hp;exact List.mem_map_of_mem he
 simpa using this
theorem rm{ZJ:List EV}{Ks:List (List Str)}{vs:List D}(h:Tl ZJ Ks vs){p:List Str}(hp:p∉Ks):Cw ZJ p=[]:=by unfold Cw;rw[List.filter_eq_nil_iff.mpr λe he=>?_];rfl;have:=λz=>hp ((h.mem p).mpr ⟨e,he,z⟩);simpa using this
theorem Tl.getD{ZJ:List EV}{Ks:List (List Str)}{vs:List D}(h:Tl ZJ Ks vs)(p:List Str):(look (Ks.map L2.Wp) vs (L2.Wp p)).getD (.lst [])= .lst ((Cw ZJ p).map nkD):=by
 by_cases hp:p∈Ks
 .rw[h.get p hp];rfl
 .rw[h.no p hp,rm h hp];rfl
theorem Tl.put{ZJ:List EV}{Ks:List (List Str)}{vs:List D}(h:Tl ZJ Ks vs)(p:List Str)(nm:NK):∃XI vs',W4 (Ks.map L2.Wp) vs (L2.Wp p) (.lst ((Cw ZJ p).map nkD++[nkD nm]))=(XI.map L2.Wp,vs')/\Tl (ZJ++[(p,nm)]) XI vs':=by
 have hm:L2.Wp p∈Ks.map L2.Wp↔p∈Ks:=⟨λz=>by obtain⟨a,ha,e⟩:=ax.mp z;rw[<-L2.B4 e];exact ha,λz=>List.mem_map_of_mem z⟩
 have hl:(Ks.map L2.Wp).length=vs.length:=by rw[ah];exact h.len
 have e0:(W4 (Ks.map L2.Wp) vs (L2.Wp p) (.lst ((Cw ZJ p).map nkD++[nkD nm]))).1=(if p∈Ks then Ks else Ks++[p]).map L2.Wp:=by
  unfold W4;by_cases hp:p∈Ks
  .rw[m6 hp,m6 (hm.mpr hp)]
  .rw[m4 hp,m4 λz=>hp (hm.mp z),ci];rfl
 have lp:=λq=>rS (L2.Wp p) (L2.Wp q) (.lst ((Cw ZJ p).map nkD++[nkD nm])) (Ks.map L2.Wp) vs hl;have pl:=u4 (L2.Wp p) (.lst ((Cw ZJ p).map nkD++[nkD nm])) (Ks.map L2.Wp) vs hl;rw[e0,ah]at pl;rw[e0]at lp;have mem:∀q,q∈(if p∈Ks then Ks else Ks++[p])↔(q=p\/q∈Ks):=λq=>by
  by_cases hp:p∈Ks
  .rw[m6 hp];exact⟨.inr,λz=>by rcases z with z|z;(· rw[z];exact hp);exact z⟩
  .rw[m4 hp];simp[or_comm]
 have tp:∀q,Cw (ZJ++[(p,nm)]) q=Cw ZJ q++if p=q then[nm]else[]:=λq=>by
  unfold Cw;rw[List.filter_append,ci];by_cases e:p=q
  .simp[e]
  .simp[e]
 refine⟨if p∈Ks then Ks else Ks++[p],_,Prod.ext e0 rfl,⟨?_,pl.1,λq=>?_,λq hq=>?_,λq hq=>?_⟩⟩
 .by_cases hp:p∈Ks
  .rw[m6 hp];exact h.nd
  .rw[m4 hp];exact dn.mpr ⟨h.nd,by simp,λa ha b hb=>by simp at hb;subst hb;exact λz=>hp (z▸ha)⟩
 .rw[mem,h.mem];constructor
  .rintro(rfl|⟨e,he,rfl⟩)
   .exact⟨_,bx _ ac,rfl⟩
   .exact⟨e,bz _ he,rfl⟩
  .rintro⟨e,he,rfl⟩;rcases ba.mp he with z|z
   .exact .inr ⟨e,z,rfl⟩
   .rw[ak.mp z];exact .inl rfl
 .rw[lp q,tp];by_cases e:p=q
  .subst e;rw[m6 rfl,m6 rfl,ci];rfl
  .rw[m4 λz=>e (L2.B4 z),m4 e,gq];exact h.get q (((mem q).mp hq).resolve_left λz=>e z.symm)
 .have hq2:=λz=>hq ((mem q).mpr z);rw[lp q,m4 λz=>hq2 (.inl (L2.B4 z).symm)];exact h.no q λz=>hq2 (.inr z)
noncomputable abbrev Ic:List Str:=["So","so","So.","A b"]
abbrev hSt(A0 A1 A2:Option SV)(c0 c1 c2:Int)(A4 A5:Option SV)(Ks:List (List Str))(vs:List D)(k:Nat)(nm:NK)(x9 XW XD YX:Option SV):Ym:=[A0,A1,A2,aA (.fz (W8 c0 c1 c2)),A4,A5,aA (.oT (Ks.map L2.Wp) vs),aA (.fz (.int (k:Int))),aA (.fz (nkD nm)),x9,XW,XD,YX]
theorem vh(n:Int):∃v∈Ic,L2.atI (Ic.map D.str) (n % 4)=aA (.str v):=by
 have h1:=Int.emod_nonneg n (show(4:Int)≠0 by decide);have h2:=Int.emod_lt_of_pos n (show(0:Int)<4 by decide);generalize n % 4=q at*;have:q=0\/q=1\/q=2\/q=3:=by omega
 rcases this with rfl|rfl|rfl|rfl
 .exact⟨"So",by decide,rfl⟩
 .exact⟨"so",by decide,rfl⟩
 .exact⟨"So.",by decide,rfl⟩
 .exact⟨"A b",by decide,rfl⟩
theorem rj{ZJ:List EV}{Ks:List (List Str)}{vs:List D}(T:Tl ZJ Ks vs)(hn:ZJ.length<=900)(A0 A1 A2:Option SV)(c0 c1 c2:Int)(A4 A5:Option SV)(k:Nat)(hk:k<100)(nm:NK)(j:Nat)(f:Str)(XD YX:Option SV):∃E XI vs' VS VR,(E=[]\/∃v∈Ic,E=[([f,v],nm)])/\Tl (ZJ++E) XI vs'/\
  Gen.Wz (hSt A0 A1 A2 c0 c1 c2 A4 A5 Ks vs k nm (aA (.fz (.int (j:Int)))) (aA (.fz (.str f))) XD YX)=aA (.nx (hSt A0 A1 A2 c0 c1 c2 A4 A5 XI vs' k nm (aA (.fz (.int (j:Int)))) (aA (.fz (.str f))) VS VR)):=by
 have a2:L2.atI [D.int c0,.int c1,.int c2] 2=aA (.int c2):=rfl;have hm:=Lr (i:=7) (j:=(k:Int)) (by omega);have mx:=Cv (c2+7*(k:Int)+(j:Int)) 48271;have n0:=Ta (c2+7*(k:Int)+(j:Int)) 48271;generalize (c2+7*(k:Int)+(j:Int)) % 2147483647*48271 % 2147483647=n at mx n0;have r3:=Int.emod_nonneg n (show(3:Int)≠0 by decide);by_cases h3:n % 3=0
 .refine⟨[],Ks,vs,aA (.fz (.int n)),YX,.inl rfl,by rw[gq];exact T,?_⟩;have hg:¬(0<n % 3):=by omega
  unfold Gen.Wz hSt;generalize Ks.map L2.Wp=KS,nkD nm=NM,7*(k:Int)=q at*;simp[a2,hm,mx,hg]
 .have hg:0<n % 3:=by omega
  obtain⟨v,hv,ev⟩:=vh (n / 3);obtain⟨XI,vs',e,T'⟩:=T.put [f,v] nm;refine⟨[([f,v],nm)],XI,vs',aA (.fz (.int n)),aA (.fz (.tup [.str f,.str v])),.inr ⟨v,hv,rfl⟩,T',?_⟩;have g:=T.getD [f,v];have zl:vs.length<PySem.sizeLine:=Yk (by have:=T.len;have:=T.few;omega);have zz:((Cw ZJ [f,v]).map nkD).length+1<=PySem.sizeLine:=Z4 (by
   rw[ah];unfold Cw;rw[ah];have:=f8 (λe:EV=>decide (e.1=[f,v])) ZJ;omega)
  have z0:0<PySem.sizeLine:=Yk (by omega);have z4:4<=PySem.sizeLine:=Z4 (by omega);have z1:1<=PySem.sizeLine:=Z4 (by omega);have z2:2<=PySem.sizeLine:=Z4 (by omega);have ev:L2.atI [D.str "So",.str "so",.str "So.",.str "A b"] (n / 3 % 4)=aA (.str v):=ev;unfold Gen.Wz hSt;rw[show L2.Wp [f,v]=[Sum.inr f,Sum.inr v]from rfl]at e g;generalize (Cw ZJ [f,v]).map nkD=L,Ks.map L2.Wp=KS,XI.map L2.Wp=KS',nkD nm=NM,7*(k:Int)=q at*;simp[a2,hm,mx,hg,ev,g,e,zl,zz,z0,z1,z2,z4,-W4,-look]
theorem D5(a b:List EV)(p:List Str):Cw (a++b) p=Cw a p++Cw b p:=by unfold Cw;rw[List.filter_append,ci]
theorem Mo(A0 A1 A2:Option SV)(c0 c1 c2:Int)(A4 A5:Option SV)(k:Nat)(hk:k<100)(nm:NK):∀(fs:List Str) (s:Nat) (ZJ:List EV) (Ks:List (List Str)) (vs:List D) (x9 XW XD YX:Option SV),fs.Nodup->Tl ZJ Ks vs->ZJ.length+fs.length<=900->∃E XI vs' y9 UQ VS VR,E.length<=fs.length/\(∀e∈E,∃f∈fs,∃v∈Ic,e=([f,v],nm))/\(∀p,(Cw E p).Sublist [nm])/\Tl (ZJ++E) XI vs'/\
  Yp (Y7 2 (Zw (Zh 9) (Zw (Zh 10) Wb))) Gen.Wz (((fs.map D.str).zipIdx s).map λp=>D.tup [.int (p.2:Nat),p.1]) (hSt A0 A1 A2 c0 c1 c2 A4 A5 Ks vs k nm x9 XW XD YX)=aA (.nx (hSt A0 A1 A2 c0 c1 c2 A4 A5 XI vs' k nm y9 UQ VS VR))
 | [],s,ZJ,Ks,vs,x9,XW,XD,YX,_,T,_=>⟨[],Ks,vs,x9,XW,XD,YX,bc _,(λ_ h=>nomatch h),(λ_=>List.nil_sublist _),by rw[gq];exact T,by simp⟩
 |f::fs,s,ZJ,Ks,vs,x9,XW,XD,YX,nd,T,hn=>by
  rw[bh]at hn;obtain⟨n1,n2⟩:=fq.mp nd;obtain⟨E1,OI,XE,OL,OK,h1,T1,b1⟩:=rj T (by omega) A0 A1 A2 c0 c1 c2 A4 A5 k hk nm s f XD YX;have l1:E1.length<=1:=by rcases h1 with rfl|⟨v,_,rfl⟩<;> simp
  obtain⟨E2,XI,vs',y9,UQ,VS,VR,l2,h2,h3,T2,ih⟩:=Mo A0 A1 A2 c0 c1 c2 A4 A5 k hk nm fs (s+1) (ZJ++E1) OI XE (aA (.fz (.int (s:Int)))) (aA (.fz (.str f))) OL OK n2 T1 (by rw[av];omega);refine⟨E1++E2,XI,vs',y9,UQ,VS,VR,by rw[av,bh];omega,λe he=>?_,λp=>?_,by rw[<-List.append_assoc];exact T2,?_⟩
  .rcases ba.mp he with z|z
   .rcases h1 with rfl|⟨v,hv,rfl⟩
    .cases z
    .exact⟨f,ac,v,hv,ak.mp z⟩
   .obtain⟨g,hg,v,hv,rfl⟩:=h2 e z;exact⟨g,am _ hg,v,hv,rfl⟩
  .rw[D5];rcases h1 with rfl|⟨v,hv,rfl⟩
   .exact h3 p
   .by_cases hp:[f,v]=p
    .have:Cw E2 p=[]:=by
      unfold Cw;rw[List.filter_eq_nil_iff.mpr λe he=>?_];rfl;obtain⟨g,hg,w,_,rfl⟩:=h2 e he;have:¬[g,w]=p:=λz=>n1 (by
       rw[<-hp]at z;rw[<-(gh.inj z).1];exact hg)
      simpa using this
     rw[this,gq];unfold Cw;simp[hp]
    .have:Cw [(([f,v],nm):EV)] p=[]:=by unfold Cw;simp[hp]
     rw[this];exact h3 p
  .rw[bm,List.zipIdx_cons,bm];exact(G8 (by simp) b1).trans ih
abbrev wSt(A0 A1:Option SV)(fs:List Str)(c0 c1 c2:Int)(A4 A5:Option SV)(Ks:List (List Str))(vs:List D)(x7 x8 x9 XW XD YX:Option SV):Ym:=[A0,A1,aA (.fz (.lst (fs.map D.str))),aA (.fz (W8 c0 c1 c2)),A4,A5,aA (.oT (Ks.map L2.Wp) vs),x7,x8,x9,XW,XD,YX]
theorem En(A0 A1:Option SV)(fs:List Str)(nf:fs.Nodup)(lf:fs.length<=4)(c0 c1 c2:Int)(A4 A5:Option SV):∀(ns:List NK) (s:Nat) (ZJ:List EV) (Ks:List (List Str)) (vs:List D) (x7 x8 x9 XW XD YX:Option SV),s+ns.length<100->Tl ZJ Ks vs->ZJ.length+4*ns.length<=800->∃E XI vs' y7 y8 y9 UQ VS VR,(∀e∈E,∃f∈fs,∃v∈Ic,e.1=[f,v])/\(∀p,(Cw E p).Sublist ns)/\Tl (ZJ++E) XI vs'/\
  Yp (Y7 2 (Zw (Zh 7) (Zw (Zh 8) Wb))) Gen.W0 (((ns.map nkD).zipIdx s).map λp=>D.tup [.int (p.2:Nat),p.1]) (wSt A0 A1 fs c0 c1 c2 A4 A5 Ks vs x7 x8 x9 XW XD YX)=aA (.nx (wSt A0 A1 fs c0 c1 c2 A4 A5 XI vs' y7 y8 y9 UQ VS VR))
 | [],s,ZJ,Ks,vs,x7,x8,x9,XW,XD,YX,_,T,_=>⟨[],Ks,vs,x7,x8,x9,XW,XD,YX,(λ_ h=>nomatch h),(λ_=>List.nil_sublist _),by rw[gq];exact T,by simp⟩
 |nm::ns,s,ZJ,Ks,vs,x7,x8,x9,XW,XD,YX,hs,T,hn=>by
  rw[bh]at hs hn;obtain⟨E1,OI,XE,z9,GL,OL,OK,l1,h1,h2,T1,lo⟩:=Mo A0 A1 (aA (.fz (.lst (fs.map D.str)))) c0 c1 c2 A4 A5 s (by omega) nm fs 0 ZJ Ks vs x9 XW XD YX nf T (by omega);obtain⟨E2,XI,vs',y7,y8,y9,UQ,VS,VR,g1,g2,T2,ih⟩:=En A0 A1 fs nf lf c0 c1 c2 A4 A5 ns (s+1) (ZJ++E1) OI XE (aA (.fz (.int (s:Int)))) (aA (.fz (nkD nm))) z9 GL OL OK (by omega) T1 (by rw[av];omega);refine⟨E1++E2,XI,vs',y7,y8,y9,UQ,VS,VR,λe he=>?_,λp=>?_,by rw[<-List.append_assoc];exact T2,?_⟩
  .rcases ba.mp he with z|z
   .obtain⟨f,hf,v,hv,rfl⟩:=h1 e z;exact⟨f,hf,v,hv,rfl⟩
   .exact g1 e z
  .rw[D5];exact(h2 p).append (g2 p)
  .have hb:Gen.W0 (wSt A0 A1 fs c0 c1 c2 A4 A5 Ks vs (aA (.fz (.int (s:Int)))) (aA (.fz (nkD nm))) x9 XW XD YX)=aA (.nx (wSt A0 A1 fs c0 c1 c2 A4 A5 OI XE (aA (.fz (.int (s:Int)))) (aA (.fz (nkD nm))) z9 GL OL OK)):=by have lo:Yp (Y7 2 (Zw (Zh 9) (Zw (Zh 10) Wb))) Gen.Wz (Q8 (fs.map D.str)) _=_:=lo;unfold Gen.W0 wSt;unfold hSt at lo;generalize fs.map D.str=FS,Ks.map L2.Wp=KS,OI.map L2.Wp=KS1,nkD nm=NM at*;simp[lo,-Yp]
   rw[bm,List.zipIdx_cons,bm];exact(G8 (by simp) hb).trans ih
theorem Wc{a b:FS}{δ δ':Ym}(h:a δ=aA (.nx δ')):Z9 a b δ=b δ':=by unfold Z9;rw[h];rfl
theorem Sz{s t:Bm}(h:Sn (Zz s) (Zz t)):tLt s t:=by
 obtain⟨a,b,l⟩:=s;obtain⟨c,d,m⟩:=t;have h:(1::(tE a.cps.toList++(1::(tE b.cps.toList++[0]))))<(1::(tE c.cps.toList++(1::(tE d.cps.toList++[0])))):=h;show tE a.cps.toList++(tE b.cps.toList++[])<tE c.cps.toList++(tE d.cps.toList++[])
 rw[eh,Mn,eh,Mn]at h;rw[Mn,Mn];rcases h with h|⟨_,h|⟨e,h|⟨_,h|⟨_,h⟩⟩⟩⟩
 .exact m_ h (gz _)
 .exact .inl h
 .exact m_ h (gz _)
 .exact .inr ⟨e,.inl h⟩
 .exact m_ h (d4 _)
structure Nr(h:HP):Prop where
 ne:h.ns≠[]
 n2:∀k∈h.ns,∃a b,k= .inl [a,b]
 mr:∀k∈h.ms,isM k
 ns:h.ns.Pairwise Sn
 ms:h.ms.Pairwise Sn
 fs:h.fs.Pairwise tLt
 fl:∀t∈h.fs,t.2.2≠[]/\t.2.2.Pairwise Sn/\t.2.2.length<=9/\∀k∈t.2.2,∃a b,k= .inl [a,b]
 ln:h.ns.length<=9
 lm:h.ms.length<=7
 lf:h.fs.length<=12
theorem BS(xs:List D):Wm 48 (.lst xs) (.lst [])=aA (decide (xs=[])):=by
 show(if xs.length=([]:List D).length then Uh (Wm 47) xs []else aA aD)=_;cases xs with
 |nil=>rfl
 |cons x l=>rw[m4 (by simp)];simp
theorem Eo{ZJ:List EV}{Ks:List (List Str)}{vs:List D}(T:Tl ZJ Ks vs):∀(xs:List Bm) (zs:List D),(∀t∈xs,[t.1,t.2.1]∈Ks/\t.2.2=Cw ZJ [t.1,t.2.1])->zs.length+xs.length<=1000->
  Yw [.own,.cap 6,.acc] 2 (Zh 0) Qb Gen.Qj (xs.map λt=>nkD (Zz t)) [aB,aA (.fz (.dT (Ks.map L2.Wp) vs)),aA (.ol zs)]=aA [aB,aA (.fz (.dT (Ks.map L2.Wp) vs)),aA (.ol (zs++xs.map Zx))]
 | [],zs,_,_=>by simp
 |t::xs,zs,h,hz=>by
  rw[bh]at hz;obtain⟨h1,h2⟩:=h t ac;have ih:=Eo T xs (zs++[Zx t]) (λy hy=>h y (am _ hy)) (by rw[av,f7];omega);have l:=T.get _ h1;rw[List.append_assoc]at ih;have z1:zs.length<PySem.sizeLine:=Yk (by omega);have z3:3<=PySem.sizeLine:=Z4 (by omega);have a0:L2.atI [D.str t.1,D.str t.2.1] 0=aA (.str t.1):=rfl;have a1:L2.atI [D.str t.1,D.str t.2.1] 1=aA (.str t.2.1):=rfl;have e1:∀q,Gen.Qj [aA (.fz (nkD (Zz t))),aA (.fz (.dT (Ks.map L2.Wp) vs)),aA (.ol q)]=aA (.tmp (.fz (Zx t)),[aA (.fz (nkD (Zz t))),aA (.fz (.dT (Ks.map L2.Wp) vs)),aA (.ol q)]):=λq=>by unfold Gen.Qj Zx;rw[show nkD (Zz t)= .tup [.str t.1,.str t.2.1]from rfl];rw[show L2.Wp [t.1,t.2.1]=[Sum.inr t.1,Sum.inr t.2.1]from rfl,<-h2]at l;generalize Ks.map L2.Wp=KS,t.2.2.map nkD=TL at*;simp[l,a0,a1,z3,-look]
  rw[bm,bm];generalize Ks.map L2.Wp=KS,Zx t=TD at*;unfold Yw;simp[e1,z1,-Yw];simpa[-Yw]using ih
def MC(ZJ:List EV):NK->Bm
 | .inl [f,v]=>(f,v,Cw ZJ [f,v])
 |_=>("","",[])
theorem vg{fs:List Str}(nf:fs.length=3){Ks:List (List Str)}(nd:Ks.Nodup)(h:∀p∈Ks,∃f∈fs,∃v∈Ic,p=[f,v]):Ks.length<=12:=by
 have:=b7 nd (l₂:=fs.flatMap λf=>Ic.map λv=>[f,v]) λp hp=>by obtain⟨f,hf,v,hv,rfl⟩:=h p hp;exact List.mem_flatMap.mpr ⟨f,hf,ax.mpr ⟨v,hv,rfl⟩⟩
 have e:(fs.flatMap λf=>Ic.map λv=>[f,v]).length=fs.length*4:=by
  generalize fs=l;induction l with
  |nil=>rfl
  |cons x l ih=>rw[List.flatMap_cons,av,ih,bh];simp;omega
 rw[e,nf]at this;exact this
theorem ux{fs:List Str}(nf:fs.length=3){ZJ:List EV}{Ks:List (List Str)}{vs:List D}(T:Tl ZJ Ks vs){ns:List NK}(hs:ns.Pairwise Sn)(l9:ns.length<=9)(h2:∀k∈ns,∃a b,k= .inl [a,b])(h1:∀e∈ZJ,∃f∈fs,∃v∈Ic,e.1=[f,v])(hp:∀p,(Cw ZJ p).Sublist ns):
  ∃F:List Bm,F.Pairwise tLt/\F.length<=12/\(∀t∈F,t.2.2≠[]/\t.2.2.Pairwise Sn/\t.2.2.length<=9/\∀k∈t.2.2,∃a b,k= .inl [a,b])/\(∀t∈F,[t.1,t.2.1]∈Ks/\t.2.2=Cw ZJ [t.1,t.2.1])/\Fm [.dT (Ks.map L2.Wp) vs]=aA (.ol (F.map λt=>nkD (Zz t))):=by
 have kf:∀p∈Ks,∃f∈fs,∃v∈Ic,p=[f,v]:=λp hp=>by obtain⟨e,he,rfl⟩:=(T.mem p).mp hp;exact h1 e he
 have few:=vg nf T.nd kf;have nd:(Ks.map (f6:List Str->NK)).Nodup:=dw.mpr (T.nd.imp fun{x y} h z=>h (f6.inj z));have ok:Ek (Ks.map (f6:List Str->NK)):=.inl λk hk=>by obtain⟨p,hp,rfl⟩:=ax.mp hk;obtain⟨f,_,v,_,rfl⟩:=kf p hp;exact⟨_,_,rfl⟩
 obtain⟨r1,r2⟩:=Wi ok;have sk:=R9 ok.one nd (by rw[ah];omega) r2 r1;have lr:(rise (Ks.map (f6:List Str->NK))).length<=12:=by have:=b7 (Ya r1) (l₂:=Ks.map (f6:List Str->NK)) λk hk=>(r2 k).mp hk;rw[ah]at this;omega
 generalize rise (Ks.map (f6:List Str->NK))=R at r1 r2 sk lr;have VP:∀k∈R,∃f v,k= .inl [f,v]/\[f,v]∈Ks/\MC ZJ k=(f,v,Cw ZJ [f,v]):=λk hk=>by obtain⟨p,hp,rfl⟩:=ax.mp ((r2 k).mp hk);obtain⟨f,_,v,_,rfl⟩:=kf p hp;exact⟨f,v,rfl,hp,rfl⟩
 have ek:(Ks.map L2.Wp).map Mi=(Ks.map (f6:List Str->NK)).map nkD:=by rw[cu,cu];refine gr λl _=>?_;show D.tup ((l.map Sum.inr).map P0)=D.tup (l.map D.str);rw[cu];rfl
 have srt:(R.map (MC ZJ)).Pairwise tLt:=by refine dw.mpr ((f9.mp r1).imp fun{a b} h=>?_);obtain⟨ha,hb,z⟩:=h;obtain⟨f,v,rfl,_,e⟩:=VP a ha;obtain⟨g,w,rfl,_,e'⟩:=VP b hb;rw[e,e'];exact Sz z
 refine⟨R.map (MC ZJ),srt,by rw[ah];exact lr,λt ht=>?_,λt ht=>?_,?_⟩
 .obtain⟨k,hk,rfl⟩:=ax.mp ht;obtain⟨f,v,rfl,hm,e⟩:=VP k hk;rw[e];refine⟨λz=>?_,hs.sublist (hp _),ga (hp _).length_le l9,λk hk=>h2 k ((hp _).subset hk)⟩;obtain⟨ev,he,e1⟩:=(T.mem _).mp hm;have:ev.2∈Cw ZJ [f,v]:=ax.mpr ⟨ev,List.mem_filter.mpr ⟨he,by simpa using e1⟩,rfl⟩;rw[show Cw ZJ [f,v]=[]from z]at this;cases this
 .obtain⟨k,hk,rfl⟩:=ax.mp ht;obtain⟨f,v,rfl,hm,e⟩:=VP k hk;rw[e];exact⟨hm,rfl⟩
 .show L2.Mt ((Ks.map L2.Wp).map Mi) ((Ks.map L2.Wp).map Mi)=_;rw[ek,sk,cu];congr 2;refine gr λk hk=>?_;obtain⟨f,v,rfl,_,e⟩:=VP k hk;show nkD (.inl [f,v])=nkD (Zz (MC ZJ (.inl [f,v])));rw[e]
theorem BR{zs:List D}{l:List NK}(h:zs.Sublist (l.map nkD)):∃l':List NK,l'.Sublist l/\zs=l'.map nkD:=List.sublist_map_iff.mp h
theorem pJ(A0 A1:Option SV)(fs:List Str)(nf:fs.Nodup)(lf:fs.length=3)(c0 c1 c2:Int){own held:List NK}(h2:∀k∈own,∃a b,k= .inl [a,b])(ne:own≠[])(nd:own.Nodup)(l8:own.length<=8)(hm:∀k∈held,isM k)(LO:held.Nodup)(l6:held.length<=6):
  ∃h,Nr h/\(∀k,k∈h.ns↔k∈own)/\(∀k,k∈h.ms↔k∈held)/\Z9 (Yu 6 Hn) (Z9 (Bf (Of (Za (Yi We (Ze (Zb 4) Zo)) Zd)) (Y7 2 (Zw (Zh 7) (Zw (Zh 8) (Wb)))) Gen.W0) (U2 (tupF (Za (Yi We (Ze (Zb 4) Zo)) (Za (Yi We (Ze (Zb 5) Zo)) (Za (Wf [.own,.cap 6,.acc] 2 (Jc (Yi Fm (Ze (Zb 6) Zo))) (Zh 0) (Qb) Gen.Qj) (Zd)))))))
   [A0,A1,aA (.fz (.lst (fs.map D.str))),aA (.fz (W8 c0 c1 c2)),aA (.ol (own.map nkD)),aA (.ol (held.map nkD)),aB,aB,aB,aB,aB,aB,aB]=aA (.rt (.fz (Zs h))):=by
 have OY:Ek own:=.inl λk hk=>by obtain⟨a,b,rfl⟩:=h2 k hk;exact⟨_,_,rfl⟩
 have RA:Ek held:=.inr hm;obtain⟨r1,r2⟩:=Wi OY;obtain⟨q1,q2⟩:=Wi RA;have s1:We [.lst (own.map nkD)]=aA (.ol ((rise own).map nkD)):=R9 OY.one nd (by omega) r2 r1;have s2:We [.lst (held.map nkD)]=aA (.ol ((rise held).map nkD)):=R9 RA.one LO (by omega) q2 q1;have lr:(rise own).length<=8:=by have:=b7 (Ya r1) (l₂:=own) λk hk=>(r2 k).mp hk;omega
 have lq:(rise held).length<=6:=by have:=b7 (Ya q1) (l₂:=held) λk hk=>(q2 k).mp hk;omega
 have RB:∀k∈rise own,∃a b,k= .inl [a,b]:=λk hk=>h2 k ((r2 k).mp hk);generalize rise own=R,rise held=Q at*;obtain⟨E,Ks,vs,y7,y8,y9,UQ,VS,VR,g1,g2,T,lo⟩:=En A0 A1 fs nf (by omega) c0 c1 c2 (aA (.ol (own.map nkD))) (aA (.ol (held.map nkD))) R 0 [] [] [] aB aB aB aB aB aB (by omega) ⟨cx,rfl,(λp=>by simp),(λp hp=>nomatch hp),λp _=>rfl⟩ (by simp;omega);rw[d3]at T;obtain⟨F,f1,f2,f3,f4,sd⟩:=ux lf T r1 (by omega) RB g1 g2;have cp:=Eo T F [] f4 (by simp;omega);refine⟨⟨R,Q,F⟩,⟨λz=>?_,RB,λk hk=>hm k ((q2 k).mp hk),r1,q1,f1,f3,by show R.length<=9;omega,by show Q.length<=7;omega,f2⟩,r2,q2,?_⟩
 .have z:R=[]:=z;obtain⟨x,l,e⟩:=du ne;have:=(r2 x).mpr (by rw[e];exact ac);rw[z]at this;cases this
 have lo:Yp (Y7 2 (Zw (Zh 7) (Zw (Zh 8) Wb))) Gen.W0 (Q8 (R.map nkD)) (wSt A0 A1 fs c0 c1 c2 (aA (.ol (own.map nkD))) (aA (.ol (held.map nkD))) [] [] aB aB aB aB aB aB)=_:=lo;unfold wSt at lo;rw[show([]:List (List Str)).map L2.Wp=[]from rfl]at lo;rw[show Zs ⟨R,Q,F⟩= .tup [.lst (R.map nkD),.lst (Q.map nkD),.lst (F.map Zx)]from rfl];have z3:3<=PySem.sizeLine:=Z4 (by omega);rw[d3]at cp;generalize F.map Zx=FT,(F.map λt=>nkD (Zz t))=FP,fs.map D.str=FS,Ks.map L2.Wp=KS,own.map nkD=OW,held.map nkD=HE,R.map nkD=RR,Q.map nkD=QQ at*;simp[s1,s2,lo,sd,cp,z3,-Yp,-Yw]
theorem uw{YG:List NK}(l8:YG.length=8)(c:Int):∃k∈YG,L2.atI (YG.map nkD) (c % 8)=aA (nkD k):=by
 have h1:=Int.emod_nonneg c (show(8:Int)≠0 by decide);have h2:=Int.emod_lt_of_pos c (show(0:Int)<8 by decide);obtain⟨q,hq⟩:=Int.eq_ofNat_of_zero_le h1;rw[hq]at h2⊢;have hl:q<YG.length:=by omega
 exact⟨YG[q],List.getElem_mem hl,R4 _ _ _ (by rw[bg,au hl];rfl)⟩
theorem D6 {YG mks : List NK} (h2 : ∀ k ∈ YG, ∃ a b, k = .inl [a, b]) (nd : YG.Nodup) (l8 : YG.length = 8) (hm : ∀ k ∈ mks, isM k) (LO : mks.Nodup) (l6 : mks.length <= 6) {fs : List Str} (nf : fs.Nodup) (lf : fs.length = 3) (c0 c1 c2 : Int) :
    ∃ h, Nr h /\ (∀ k ∈ h.ns, k ∈ YG) /\ (∀ k ∈ h.ms, k ∈ mks) /\ h.ns.length <= 8 /\ h.ms.length <= 6 /\ Gen.Qx [.lst (YG.map nkD), .lst (mks.map nkD), .lst (fs.map D.str), W8 c0 c1 c2] = aA (.fz (Zs h)) := by
  obtain ⟨zs, hz, e1⟩ := Rj (n := 100) (λi d zs hi => xc c0 c1 c2 i d zs hi) (YG.map nkD) 0 [] (by rw [ah]; omega) (by rw [ah]; simp; omega);obtain ⟨own, ho, rfl⟩ := BR hz;obtain ⟨zs, hz, e3⟩ := Rj (n := 100) (λi d zs hi => xb c0 c1 c2 i d zs hi) (mks.map nkD) 0 [] (by rw [ah]; omega) (by rw [ah]; simp; omega);obtain ⟨held, hh, rfl⟩ := BR hz;rw [d3] at e1 e3;have e1 : Yw [.own, .own, .cap 3, .acc] 3 (Y7 2 (Zw (Zh 0) (Zw (Zh 1) Wb))) Gen.Ji (Zb 1) (Q8 (YG.map nkD)) [aB, aB, aA (.fz (W8 c0 c1 c2)), aA (.ol [])] = _ := e1;have e3 : Yw [.own, .own, .cap 3, .acc] 3 (Y7 2 (Zw (Zh 0) (Zw (Zh 1) Wb))) Gen.Jj (Zb 1) (Q8 (mks.map nkD)) [aB, aB, aA (.fz (W8 c0 c1 c2)), aA (.ol [])] = _ := e3;have z1 : 1 <= PySem.sizeLine := Z4 (by omega);have a0 : L2.atI [D.int c0, .int c1, .int c2] 0 = aA (.int c0) := rfl;obtain ⟨k0, hk0, ea⟩ := uw l8 c0
  -- the names
  obtain ⟨own', o1, o2, o3, o4, o5⟩ : ∃ own' : List NK, own' ≠ [] /\ own'.Nodup /\ own'.length <= 8 /\ (∀ k ∈ own', k ∈ YG) /\ ∀ A1 A2 : Option SV, Vo (Yf (Zj Mr (Zb 4) (Yn (Zd)))) (Yu 4 (Yn (Za (Zj Qe (Zb 0) (Zj Cm (Zj Qe (Zb 3) (Zg (.int 0))) (Yi Pk (Ze (Zb 0) Zo)))) (Zd)))) (Jo) [aA (.fz (.lst (YG.map nkD))), A1, A2, aA (.fz (W8 c0 c1 c2)), aA (.ol (own.map nkD)), aB, aB, aB, aB, aB, aB, aB, aB] = aA (.nx [aA (.fz (.lst (YG.map nkD))), A1, A2, aA (.fz (W8 c0 c1 c2)), aA (.ol (own'.map nkD)), aB, aB, aB, aB, aB, aB, aB, aB]) := by
    have en := BS (own.map nkD);by_cases hn : own = []
    · refine ⟨[k0], by simp, by simp, by simp, λk hk => by rw [ak.mp hk]; exact hk0, λA1 A2 => ?_⟩
      subst hn;have ll : ((YG.map nkD).length : Int) = 8 := by rw [ah, l8]; rfl
      have z0 : 0 <= PySem.sizeLine := dk _;rw [show ([k0] : List NK).map nkD = [nkD k0] from rfl];rw [show ([] : List NK).map nkD = [] from rfl] at *;generalize YG.map nkD = NM,nkD k0 = K0 at *;simp [en, ll, ea, a0, z1]
    · refine ⟨own, hn, nd.sublist ho, by rw [<- l8]; exact ho.length_le, λk hk => ho.subset hk, λA1 A2 => ?_⟩
      have NO : ¬ own.map nkD = [] := λz => hn (List.map_eq_nil_iff.mp z);rw [m7 NO] at en;generalize YG.map nkD = NM,own.map nkD = OW at *;simp [en, NO]
  obtain ⟨h, n1, n2, n3, e⟩ := pJ (aA (.fz (.lst (YG.map nkD)))) (aA (.fz (.lst (mks.map nkD)))) fs nf lf c0 c1 c2 (own := own') (held := held) (λk hk => h2 k (o4 k hk)) o1 o2 o3 (λk hk => hm k (hh.subset hk)) (LO.sublist hh) (ga hh.length_le l6);have QL : h.ns.length <= 8 := by have := b7 (Ya n1.ns) (l₂ := own') λk hk => (n2 k).mp hk;omega
  have zu : h.ms.length <= 6 := by have := b7 (Ya n1.ms) (l₂ := held) λk hk => (n3 k).mp hk;have := hh.length_le;omega
  refine ⟨h, n1, λk hk => o4 k ((n2 k).mp hk), λk hk => hh.subset ((n3 k).mp hk), QL, zu, ?_⟩;unfold Gen.Qx;refine Nn ?_;unfold Gen.C8;show Z9 _ _ [aA (.fz (.lst (YG.map nkD))), aA (.fz (.lst (mks.map nkD))), aA (.fz (.lst (fs.map D.str))), aA (.fz (W8 c0 c1 c2)), aB, aB, aB, aB, aB, aB, aB, aB, aB] = _;rw [Wc (δ' := [aA (.fz (.lst (YG.map nkD))), aA (.fz (.lst (mks.map nkD))), aA (.fz (.lst (fs.map D.str))), aA (.fz (W8 c0 c1 c2)), aA (.ol (own.map nkD)), aB, aB, aB, aB, aB, aB, aB, aB])];rw [Wc (o5 _ _), Wc (δ' := [aA (.fz (.lst (YG.map nkD))), aA (.fz (.lst (mks.map nkD))), aA (.fz (.lst (fs.map D.str))), aA (.fz (W8 c0 c1 c2)), aA (.ol (own'.map nkD)), aA (.ol (held.map nkD)), aB, aB, aB, aB, aB, aB, aB])]
  · exact e
  · generalize YG.map nkD = NM at *
    generalize mks.map nkD = MK,fs.map D.str = FS,own.map nkD = OW,own'.map nkD = OW',held.map nkD = HE at *;unfold Gen.Rc;simp [e3, -Yw]
  · generalize YG.map nkD = NM at *
    generalize mks.map nkD = MK,fs.map D.str = FS,own.map nkD = OW,own'.map nkD = OW',held.map nkD = HE at *;unfold Gen.Rb;simp [e1, -Yw]
theorem Qo{tt:FT}{c:Option SV}{j:Nat}{p:NK->Bool}:∀(ys:List NK) (zs:List D),(∀k∈ys,∀zs,tt [aA (.fz (nkD k)),c,aA (.ol zs)]=aA (p k,[aA (.fz (nkD k)),c,aA (.ol zs)]))->zs.length+ys.length<=1000->
  Yw [.own,.cap j,.acc] 2 (Zh 0) tt (Zb 0) (ys.map nkD) [aB,c,aA (.ol zs)]=aA [aB,c,aA (.ol (zs++(ys.filter p).map nkD))]
 | [],zs,_,_=>by simp
 |k::ys,zs,h,hl=>by
  rw[bh]at hl;have hk:=h k ac zs;have z:zs.length<PySem.sizeLine:=Yk (by omega);cases hp:p k with
  |true=>have ih:=Qo (j:=j) ys (zs++[nkD k]) (λy hy=>h y (am _ hy)) (by rw[av,f7];omega);rw[bm,List.filter_cons,m6 hp,bm];rw[hp]at hk;rw[List.append_assoc]at ih;generalize ys.map nkD=L,(ys.filter p).map nkD=M,nkD k=N at*;simpa[hk,z]using ih
  |false=>have ih:=Qo (j:=j) ys zs (λy hy=>h y (am _ hy)) (by omega);rw[bm,List.filter_cons,m4 (by rw[hp];simp)];rw[hp]at hk;generalize ys.map nkD=L,(ys.filter p).map nkD=M,nkD k=N at*;simpa[hk,z]using ih
theorem D7(k:NK):(nkD k).isFlat=aD:=by
 cases k with
 |inl l=>rfl
 |inr p=>rfl
theorem IX{a b:NK}(h:OneK a b):T6 (nkD a) (nkD b)=aA (.fz (.bl (!decide (a=b)))):=by have e:=Ed 45 h;unfold T6;rw[m4 (by rw[D7];simp),e];rfl
theorem D8{x:NK}{l:List NK}(ok:Ek (x::l))(nd:l.Nodup)(hl:l.length<=20):∃out:List NK,out.Pairwise Sn/\(∀k,k∈out↔k=x\/k∈l)/\We [.lst (nkD x::(l.filter λk=>decide (k≠x)).map nkD)]=aA (.ol (out.map nkD)):=by
 have LP:(x::l.filter λk=>decide (k≠x)).Nodup:=fq.mpr ⟨λz=>by have:=(List.mem_filter.mp z).2;simp at this,nd.sublist List.filter_sublist⟩;have QD:Ek (x::l.filter λk=>decide (k≠x)):=ok.imp (λh k hk=>h k (by
  rcases ay.mp hk with z|z
  .rw[z];exact ac
  .exact am _ (List.mem_filter.mp z).1)) λh k hk=>h k (by
  rcases ay.mp hk with z|z
  .rw[z];exact ac
  .exact am _ (List.mem_filter.mp z).1)
 obtain⟨r1,r2⟩:=Wi QD;have ll:=f8 (λk=>decide (k≠x)) l;refine⟨_,r1,λk=>?_,R9 QD.one LP (by rw[bh];omega) r2 r1⟩;rw[r2,ay,List.mem_filter];constructor
 .rintro(z|⟨z,_⟩)
  .exact .inl z
  .exact .inr z
 .rintro(z|z)
  .exact .inl z
  .by_cases e:k=x
   .exact .inl e
   .exact .inr ⟨z,by simpa using e⟩
theorem Nr.okn{h:HP}(n:Nr h):∀k∈h.ns,E7 k:=λk hk=>by obtain⟨a,b,rfl⟩:=n.n2 k hk;exact⟨_,_,rfl⟩
theorem Nr.ok{h:HP}(n:Nr h):mS h:=⟨n.ne,n.okn,n.mr,λt ht k hk=>by obtain⟨a,b,rfl⟩:=(n.fl t ht).2.2.2 k hk;exact⟨_,_,rfl⟩⟩
theorem BJ{out l:List NK}{x:NK}(h:out.Pairwise Sn)(hm:∀k,k∈out↔k=x\/k∈l):out.length<=l.length+1:=by have:=b7 (Ya h) (l₂:=x::l) λk hk=>ay.mpr ((hm k).mp hk);simpa using this
theorem uv {a b : HP} (na : Nr a) (nb : Nr b) (l8 : b.ns.length <= 8) (l6 : b.ms.length <= 6) (q : Int) : ∃ m, Nr m /\ Gen.Ws [Zs a, Zs b, .int q] = aA (.fz (Zs m)) := by
  have z1 : 1 <= PySem.sizeLine := Z4 (by omega);have z3 : 3 <= PySem.sizeLine := Z4 (by omega);by_cases q1 : q % 4 = 1
  · -- a name in common
    obtain ⟨x, l, ex⟩ := du na.ne;have hx : x ∈ a.ns := by rw [ex]; exact ac
    have ok : Ek (x :: b.ns) := .inl λk hk => by
      rcases ay.mp hk with z | z
      · rw [z]; exact na.okn x hx
      · exact nb.okn k z
    obtain ⟨out, o1, o2, so⟩ := D8 ok (Ya nb.ns) (by omega);have cp := Qo (j := 0) (tt := Gen.Oq) (c := aA (.fz (Zs a))) (p := λk => decide (k ≠ x)) b.ns [] (λk hk zs => by
      have e := IX (ok.one.one (am _ hk) (ac (a := x) (l := b.ns)));have a0 : L2.atI [D.lst (a.ns.map nkD), .lst (a.ms.map nkD), .lst (a.fs.map Zx)] 0 = aA (.lst (a.ns.map nkD)) := rfl;have a1 : L2.atI (a.ns.map nkD) 0 = aA (nkD x) := by rw [ex]; exact R4 ((x :: l).map nkD) 0 (nkD x) rfl
      unfold Gen.Oq Zs;generalize a.ns.map nkD = NS,a.ms.map nkD = MS,a.fs.map Zx = FS,nkD k = KK,nkD x = XX at *;rw [show decide (k ≠ x) = !decide (k = x) by by_cases h : k = x <;> simp [h]];simp [a0, a1, e, -T6]) (by simp; omega)
    rw [d3] at cp;have zl : 1 + ((b.ns.filter λk => decide (k ≠ x)).map nkD).length <= PySem.sizeLine := Z4 (by
      rw [ah];have := f8 (λk => decide (k ≠ x)) b.ns;omega)
    refine ⟨⟨out, b.ms, b.fs⟩, ⟨λz => ?_, λk hk => ?_, nb.mr, o1, nb.ms, nb.fs, nb.fl, by have := BJ o1 o2; show out.length <= 9; omega, nb.lm, nb.lf⟩, ?_⟩
    · have := (o2 x).mpr (.inl rfl)
      rw [show out = [] from z] at this; cases this
    · rcases (o2 k).mp hk with z | z
      · rw [z]; exact na.n2 x hx
      · exact nb.n2 k z
    · have a0 : L2.atI [D.lst (a.ns.map nkD), .lst (a.ms.map nkD), .lst (a.fs.map Zx)] 0 = aA (.lst (a.ns.map nkD)) := rfl
      have a1 : L2.atI (a.ns.map nkD) 0 = aA (nkD x) := by rw [ex]; exact R4 ((x :: l).map nkD) 0 (nkD x) rfl
      have b0 : L2.atI [D.lst (b.ns.map nkD), .lst (b.ms.map nkD), .lst (b.fs.map Zx)] 0 = aA (.lst (b.ns.map nkD)) := rfl;have b1 : L2.atI [D.lst (b.ns.map nkD), .lst (b.ms.map nkD), .lst (b.fs.map Zx)] 1 = aA (.lst (b.ms.map nkD)) := rfl;have b2 : L2.atI [D.lst (b.ns.map nkD), .lst (b.ms.map nkD), .lst (b.fs.map Zx)] 2 = aA (.lst (b.fs.map Zx)) := rfl;unfold Gen.Ws Gen.Qy Gen.Re;rw [show Zs ⟨out, b.ms, b.fs⟩ = .tup [.lst (out.map nkD), .lst (b.ms.map nkD), .lst (b.fs.map Zx)] from rfl];unfold Zs at *;generalize a.ns.map nkD = NS,a.ms.map nkD = MS,a.fs.map Zx = FS,b.ns.map nkD = NT,b.ms.map nkD = MT,b.fs.map Zx = FT,(b.ns.filter λk => decide (k ≠ x)).map nkD = FL,nkD x = XX,out.map nkD = OU at *;simp [q1, a0, a1, b0, b1, b2, cp, so, z1, z3, zl, -Yw]
  · by_cases q2 : q % 4 = 2 /\ a.ms ≠ []
    · obtain ⟨q2, qm⟩ := q2
      obtain ⟨l, x, ex⟩ : ∃ l x, a.ms = l ++ [x] := ⟨a.ms.dropLast, a.ms.getLast qm, (List.dropLast_concat_getLast qm).symm⟩
      have hx : x ∈ a.ms := by rw [ex]; simp
      have ok : Ek (x :: b.ms) := .inr λk hk => by
        rcases ay.mp hk with z | z
        · rw [z]; exact na.mr x hx
        · exact nb.mr k z
      obtain ⟨out, o1, o2, so⟩ := D8 ok (Ya nb.ms) (by omega);have cp := Qo (j := 3) (tt := Gen.Os) (c := aA (.fz (nkD x))) (p := λk => decide (k ≠ x)) b.ms [] (λk hk zs => by
        have e := IX (ok.one.one (am _ hk) (ac (a := x) (l := b.ms)));unfold Gen.Os;generalize nkD k = KK,nkD x = XX at *;rw [show decide (k ≠ x) = !decide (k = x) by by_cases h : k = x <;> simp [h]];simp [e, -T6]) (by simp; omega)
      rw [d3] at cp;have zl : 1 + ((b.ms.filter λk => decide (k ≠ x)).map nkD).length <= PySem.sizeLine := Z4 (by
        rw [ah];have := f8 (λk => decide (k ≠ x)) b.ms;omega)
      refine ⟨⟨b.ns, out, b.fs⟩, ⟨nb.ne, nb.n2, λk hk => ?_, nb.ns, o1, nb.fs, nb.fl, nb.ln, by have := BJ o1 o2; show out.length <= 7; omega, nb.lf⟩, ?_⟩
      · rcases (o2 k).mp hk with z | z
        · rw [z]; exact na.mr x hx
        · exact nb.mr k z
      · have a1 : L2.atI [D.lst (a.ns.map nkD), .lst (a.ms.map nkD), .lst (a.fs.map Zx)] 1 = aA (.lst (a.ms.map nkD)) := rfl
        have al : L2.atI (a.ms.map nkD) (-1) = aA (nkD x) := by rw [ex, ci]; exact u5 _ _
        have b0 : L2.atI [D.lst (b.ns.map nkD), .lst (b.ms.map nkD), .lst (b.fs.map Zx)] 0 = aA (.lst (b.ns.map nkD)) := rfl;have b1 : L2.atI [D.lst (b.ns.map nkD), .lst (b.ms.map nkD), .lst (b.fs.map Zx)] 1 = aA (.lst (b.ms.map nkD)) := rfl;have b2 : L2.atI [D.lst (b.ns.map nkD), .lst (b.ms.map nkD), .lst (b.fs.map Zx)] 2 = aA (.lst (b.fs.map Zx)) := rfl;have VE : ¬ a.ms.map nkD = [] := λz => qm (List.map_eq_nil_iff.mp z);unfold Gen.Ws Gen.Qy Gen.Rf;rw [show Zs ⟨b.ns, out, b.fs⟩ = .tup [.lst (b.ns.map nkD), .lst (out.map nkD), .lst (b.fs.map Zx)] from rfl];unfold Zs at *;generalize a.ns.map nkD = NS,a.ms.map nkD = MS,a.fs.map Zx = FS,b.ns.map nkD = NT,b.ms.map nkD = MT,b.fs.map Zx = FT,(b.ms.filter λk => decide (k ≠ x)).map nkD = FL,out.map nkD = OU at *;cases hN : nkD x with
        | tup tt =>rw [hN] at al cp so;simp [q1, q2, VE, a1, al, b0, b1, b2, cp, so, z1, z3, zl, -Yw]
        | _ => exact m_ hN (by cases x <;> simp [nkD])
    · refine ⟨b, nb, ?_⟩
      have a1 : L2.atI [D.lst (a.ns.map nkD), .lst (a.ms.map nkD), .lst (a.fs.map Zx)] 1 = aA (.lst (a.ms.map nkD)) := rfl;by_cases q3 : q % 4 = 2
      · have qm : a.ms = [] := Classical.byContradiction λz => q2 ⟨q3, z⟩
        unfold Gen.Ws Gen.Qy Zs;rw [qm] at a1 ⊢;rw [show ([] : List NK).map nkD = [] from rfl] at *;generalize a.ns.map nkD = NS,a.fs.map Zx = FS,b.ns.map nkD = NT,b.ms.map nkD = MT,b.fs.map Zx = FT at *;simp [q1, q3, a1]
      · unfold Gen.Ws Gen.Qy Zs
        generalize a.ns.map nkD = NS,a.ms.map nkD = MS,a.fs.map Zx = FS,b.ns.map nkD = NT,b.ms.map nkD = MT,b.fs.map Zx = FT at *;simp [q1, q3]
abbrev MKS:List NK:=[.inr (0,["So"]),.inr (0,["so"]),.inr (1,["So","a"]),.inr (1,["a","So"]),.inr (2,["So"]),.inr (12,["A b","c","c"])]
theorem DS:∀k∈MKS,isM k:=by
 intro k hk;simp only[MKS,ay,List.not_mem_nil,or_false]at hk;rcases hk with rfl|rfl|rfl|rfl|rfl|rfl
 .exact⟨0,_,rfl⟩
 .exact⟨0,_,rfl⟩
 .exact⟨1,_,rfl⟩
 .exact⟨1,_,rfl⟩
 .exact⟨2,_,rfl⟩
 .exact⟨12,_,rfl⟩
theorem BI:MKS.Nodup:=by decide+kernel
theorem vf(ns:List Int):∃c0 c1 c2:Int,Yw [.own,.cap 0,.acc] 2 (Zh 0) Qb Gen.Uu [.int 0,.int 1,.int 2] [aB,aA (.fz (.lst (ns.map D.int))),aA (.ol [])]=aA [aB,aA (.fz (.lst (ns.map D.int))),aA (.ol [.int c0,.int c1,.int c2])]:=by obtain⟨a,ha⟩:=Q4 ns 3;obtain⟨b,hb⟩:=Q4 ns 4;obtain⟨c,hc⟩:=Q4 ns 5;have ha:Gen.Zu [.lst (ns.map D.int),.int 3]=_:=ha;have hb:Gen.Zu [.lst (ns.map D.int),.int 4]=_:=hb;have hc:Gen.Zu [.lst (ns.map D.int),.int 5]=_:=hc;have ma:=Cv a 39373;have mb:=Cv b 39373;have mc:=Cv c 39373;refine⟨a % 2147483647*39373 % 2147483647,b % 2147483647*39373 % 2147483647,c % 2147483647*39373 % 2147483647,?_⟩;have z0:0<PySem.sizeLine:=Yk (by omega);have z1:1<PySem.sizeLine:=Yk (by omega);have z2:2<PySem.sizeLine:=Yk (by omega);generalize a % 2147483647*39373 % 2147483647=A,b % 2147483647*39373 % 2147483647=B,c % 2147483647*39373 % 2147483647=C at*;unfold Gen.Uu;generalize ns.map D.int=NS at*;simp[ha,hb,hc,ma,mb,mc,z0,z1,z2]
theorem ve(ns:List Int):∃c0 c1 c2:Int,Yw [.own,.cap 0,.acc] 2 (Zh 0) Qb Gen.Uv [.int 0,.int 1,.int 2] [aB,aA (.fz (.lst (ns.map D.int))),aA (.ol [])]=aA [aB,aA (.fz (.lst (ns.map D.int))),aA (.ol [.int c0,.int c1,.int c2])]:=by obtain⟨a,ha⟩:=Q4 ns 6;obtain⟨b,hb⟩:=Q4 ns 7;obtain⟨c,hc⟩:=Q4 ns 8;have ha:Gen.Zu [.lst (ns.map D.int),.int 6]=_:=ha;have hb:Gen.Zu [.lst (ns.map D.int),.int 7]=_:=hb;have hc:Gen.Zu [.lst (ns.map D.int),.int 8]=_:=hc;have ma:=Cv a 69621;have mb:=Cv b 69621;have mc:=Cv c 69621;refine⟨a % 2147483647*69621 % 2147483647,b % 2147483647*69621 % 2147483647,c % 2147483647*69621 % 2147483647,?_⟩;have z0:0<PySem.sizeLine:=Yk (by omega);have z1:1<PySem.sizeLine:=Yk (by omega);have z2:2<PySem.sizeLine:=Yk (by omega);generalize a % 2147483647*69621 % 2147483647=A,b % 2147483647*69621 % 2147483647=B,c % 2147483647*69621 % 2147483647=C at*;unfold Gen.Uv;generalize ns.map D.int=NS at*;simp[ha,hb,hc,ma,mb,mc,z0,z1,z2]
abbrev N_(b0 b1:Str)(ks:List Str):List NK:=(ks.map λk=>.inl [b0,k])++ks.map λk=>.inl [b1,k]
theorem BH{b0 b1:Str}(h:b0≠b1){ks:List Str}(nd:ks.Nodup):(N_ b0 b1 ks).Nodup:=by have inj:∀b:Str,(ks.map λk=>(f6 [b,k]:NK)).Nodup:=λb=>dw.mpr (nd.imp fun{x y} NG z=>NG (by simpa using z));refine dn.mpr ⟨inj b0,inj b1,λx hx y hy e=>?_⟩;obtain⟨k,_,rfl⟩:=ax.mp hx;obtain⟨k',_,rfl⟩:=ax.mp hy;exact h (by have:=gh.inj (f6.inj e);exact this.1)
theorem uu(ns:List Int):∃a b,Nr a/\Nr b/\Gen.Y8 [.lst (ns.map D.int)]=aA (.fz (.tup [Zs a,Zs b])):=by
 obtain⟨a0,UL⟩:=Q4 ns 0;obtain⟨a1,JP⟩:=Q4 ns 1;obtain⟨a2,JO⟩:=Q4 ns 2;obtain⟨a9,JN⟩:=Q4 ns 9;have UL:Gen.Zu [.lst (ns.map D.int),.int 0]=_:=UL;have JP:Gen.Zu [.lst (ns.map D.int),.int 1]=_:=JP;have JO:Gen.Zu [.lst (ns.map D.int),.int 2]=_:=JO;have JN:Gen.Zu [.lst (ns.map D.int),.int 9]=_:=JN;have m0:=Cv a0 16807;have m1:=Cv a1 16807;have m2:=Cv a2 16807;obtain⟨bs,n0,bl,bn,_⟩:=Eh _ (Ta a0 16807) 2 (by omega);obtain⟨ks,n1,kl,kn,_⟩:=Eh _ (Ta a1 16807) 4 (by omega);obtain⟨fs,n2,fl,fn,_⟩:=Eh _ (Ta a2 16807) 3 (by omega);generalize a0 % 2147483647*16807 % 2147483647=x0,a1 % 2147483647*16807 % 2147483647=x1,a2 % 2147483647*16807 % 2147483647=x2 at*;obtain⟨b0,b1,rfl⟩:∃b0 b1,bs=[b0,b1]:=by
  match bs,bl with
  | [a,b],_=>exact⟨a,b,rfl⟩
 have hb:b0≠b1:=by simpa using bn
 have n0:Gen.Yy [.int x0,.int 2]=aA (.ol [.str b0,.str b1]):=n0;have n1:Gen.Yy [.int x1,.int 4]=_:=n1;have n2:Gen.Yy [.int x2,.int 3]=_:=n2;obtain⟨c0,c1,c2,ec⟩:=vf ns;obtain⟨d0,d1,d2,ed⟩:=ve ns;have FH:∀k∈N_ b0 b1 ks,∃a b,k= .inl [a,b]:=λk hk=>by
  rcases ba.mp hk with z|z
  .obtain⟨w,_,rfl⟩:=ax.mp z;exact⟨_,_,rfl⟩
  .obtain⟨w,_,rfl⟩:=ax.mp z;exact⟨_,_,rfl⟩
 have l8:(N_ b0 b1 ks).length=8:=by rw[av,ah,ah,kl]
 obtain⟨ha,na,_,_,_,_,ea⟩:=D6 FH (BH hb kn) l8 DS BI (by decide) fn fl c0 c1 c2;obtain⟨ZX,nb,_,_,zw,zx,eb⟩:=D6 FH (BH hb kn) l8 DS BI (by decide) fn fl d0 d1 d2;obtain⟨hm,nm,em⟩:=uv na nb zw zx (a9 % 4);refine⟨ha,hm,na,nm,?_⟩;have u0:L2.atI [D.str b0,.str b1] 0=aA (.str b0):=rfl;have u1:L2.atI [D.str b0,.str b1] 1=aA (.str b1):=rfl;have z1:1<=PySem.sizeLine:=Z4 (by omega);have z2:2<=PySem.sizeLine:=Z4 (by omega);have z3:3<=PySem.sizeLine:=Z4 (by omega);have z6:6<=PySem.sizeLine:=Z4 (by omega);have q1:=Bl (te:=Gen.Us) (f:=λd=>.tup [.str b0,d]) (c:=aA (.fz (.lst [.str b0,.str b1]))) (j:=1) (ks.map D.str) [] (λx hx zs=>by
  obtain⟨k,_,rfl⟩:=ax.mp hx;unfold Gen.Us;simp[u0,z2]) (by simp;omega)
 have q2:=Bl (te:=Gen.Ut) (f:=λd=>.tup [.str b1,d]) (c:=aA (.fz (.lst [.str b0,.str b1]))) (j:=1) (ks.map D.str) [] (λx hx zs=>by
  obtain⟨k,_,rfl⟩:=ax.mp hx;unfold Gen.Ut;simp[u1,z2]) (by simp;omega)
 rw[d3,cu]at q1 q2;have en:(N_ b0 b1 ks).map nkD=ks.map ((λd=>D.tup [.str b0,d])∘D.str)++ks.map ((λd=>D.tup [.str b1,d])∘D.str):=by rw[ci,cu,cu];rfl
 have zn:(ks.map ((λd=>D.tup [.str b0,d])∘D.str)).length+(ks.map ((λd=>D.tup [.str b1,d])∘D.str)).length<=PySem.sizeLine:=Z4 (by rw[ah,ah];omega);have yz:MKS.map nkD=[.tup [.int 0,.tup [.str "So"]],.tup [.int 0,.tup [.str "so"]],.tup [.int 1,.tup [.str "So",.str "a"]],.tup [.int 1,.tup [.str "a",.str "So"]],.tup [.int 2,.tup [.str "So"]],.tup [.int 12,.tup [.str "A b",.str "c",.str "c"]]]:=rfl;rw[en,yz]at ea eb;have r3:Pg 3:=Gn (n:=3) (by omega);have ri:Md 0 3=[.int 0,.int 1,.int 2]:=rfl;unfold Gen.Y8;refine Nn ?_;unfold Gen.Bq;show Z9 _ _ [aA (.fz (.lst (ns.map D.int))),aB,aB,aB,aB,aB,aB,aB]=_;generalize ns.map D.int=NS at*;generalize ks.map D.str=KS at*;generalize fs.map D.str=FS at*;generalize ks.map ((λd=>D.tup [.str b0,d])∘D.str)=N0 at*;generalize ks.map ((λd=>D.tup [.str b1,d])∘D.str)=N1 at*;have y1:∀A B C:D,[A,B,C]=[A,B,C]:=λ_ _ _=>rfl;rw[Wc (δ':=[aA (.fz (.lst NS)),aA (.ol [.str b0,.str b1]),aB,aB,aB,aB,aB,aB]) (by simp[UL,m0,n0])];rw[Wc (δ':=[aA (.fz (.lst NS)),aA (.ol [.str b0,.str b1]),aA (.ol KS),aB,aB,aB,aB,aB]) (by simp[JP,m1,n1])];rw[Wc (δ':=[aA (.fz (.lst NS)),aA (.ol [.str b0,.str b1]),aA (.ol KS),aA (.ol FS),aB,aB,aB,aB]) (by simp[JO,m2,n2])];rw[Wc (δ':=[aA (.fz (.lst NS)),aA (.fz (.lst [.str b0,.str b1])),aA (.fz (.lst KS)),aA (.ol FS),aA (.ol (N0++N1)),aB,aB,aB]) (by simp[q1,q2,zn,-Yw])];have ec':=ec;generalize hMK:([.tup [.int 0,.tup [.str "So"]],.tup [.int 0,.tup [.str "so"]],.tup [.int 1,.tup [.str "So",.str "a"]],.tup [.int 1,.tup [.str "a",.str "So"]],.tup [.int 2,.tup [.str "So"]],.tup [.int 12,.tup [.str "A b",.str "c",.str "c"]]]:List D)=MK at ea eb;rw[Wc (δ':=[aA (.fz (.lst NS)),aA (.fz (.lst [.str b0,.str b1])),aA (.fz (.lst KS)),aA (.ol FS),aA (.ol (N0++N1)),aA (.ol MK),aB,aB]) (by rw[<-hMK];simp[z1,z2,z3,z6])];rw[Wc (δ':=[aA (.fz (.lst NS)),aA (.fz (.lst [.str b0,.str b1])),aA (.fz (.lst KS)),aA (.fz (.lst FS)),aA (.fz (.lst (N0++N1))),aA (.fz (.lst MK)),aA (.fz (Zs ha)),aB]) (by
  unfold Zs at*;generalize N0++N1=NN at*;simp[r3,ri,ec,ea,-Yw])]
 rw[Wc (δ':=[aA (.fz (.lst NS)),aA (.fz (.lst [.str b0,.str b1])),aA (.fz (.lst KS)),aA (.fz (.lst FS)),aA (.fz (.lst (N0++N1))),aA (.fz (.lst MK)),aA (.fz (Zs ha)),aA (.fz (Zs ZX))]) (by
  unfold Zs at*;generalize N0++N1=NN at*;simp[r3,ri,ed,eb,-Yw])]
 unfold Zs at*;simp[JN,em,z2]
theorem vd{a b:NK}(h:OneK a b):Mr (nkD a) (nkD b)=aA (.fz (.bl (decide (a=b)))):=by have e:=Ed 45 h;unfold Mr;rw[m4 (by rw[D7];simp),e];rfl
def U8(ks:List NK)(k:NK):Bool:=!(ks.any λx=>decide (x=k))
theorem Rk{ks:List NK}{k:NK}:U8 ks k=aC↔k∉ks:=by
 unfold U8;rw[gu,List.any_eq_false];constructor
 .intro h hk;exact h k hk (m8 rfl)
 .intro h x hx z;exact h (m9 z▸hx)
theorem Ep{k:NK}{ks:List NK}(h:Ek (k::ks)):Om (nkD k) (.lst (ks.map nkD))=aA (.fz (.bl (U8 ks k))):=
 pX λk' hk=>Ed 45 (h.one.one (am _ hk) ac)
theorem BG{k:NK}{ks:List NK}(h:Ek (k::ks)):inN (nkD k) (.lst (ks.map nkD))=aA (.fz (.bl (!U8 ks k))):=by rw[vV λk' hk=>Ed 45 (h.one.one (am _ hk) ac)];unfold U8;rw[Bool.not_not]
theorem D9{as bs:List NK}(ok:Ek (as++bs))(na:as.Nodup)(nb:bs.Nodup)(l1:as.length<=20)(l2:bs.length<=20):∃out:List NK,out.Pairwise Sn/\(∀k,k∈out↔k∈as\/k∈bs)/\We [.lst (as.map nkD++(bs.filter (U8 as)).map nkD)]=aA (.ol (out.map nkD)):=by
 have nd:(as++bs.filter (U8 as)).Nodup:=dn.mpr ⟨na,nb.sublist List.filter_sublist,λx hx y hy e=>by
  have:=Rk.mp (List.mem_filter.mp hy).2;rw[<-e]at this;exact this hx⟩
 have sub:∀k,k∈as++(bs.filter (U8 as))↔k∈as\/k∈bs:=λk=>by
  rw[ba,List.mem_filter];constructor
  .rintro(z|⟨z,_⟩)
   .exact .inl z
   .exact .inr z
  .rintro(z|z)
   .exact .inl z
   .by_cases h:k∈as
    .exact .inl h
    .exact .inr ⟨z,Rk.mpr h⟩
 have QD:Ek (as++bs.filter (U8 as)):=ok.imp (λh k hk=>h k (ba.mpr ((sub k).mp hk))) λh k hk=>h k (ba.mpr ((sub k).mp hk));obtain⟨r1,r2⟩:=Wi QD;have ll:=f8 (U8 as) bs;refine⟨_,r1,λk=>by rw[r2,sub],?_⟩;rw[<-ci];exact R9 QD.one nd (by rw[av];omega) r2 r1
abbrev jS(A B:Option SV)(x2 x3 x4 x5 x6:Option SV)(p:NK)(acc:List NK)(x9:Option SV):Ym:=[A,B,x2,x3,x4,x5,x6,aA (.fz (nkD p)),aA (.ol (acc.map nkD)),x9]
theorem pI(A B x2 x3 x4 x5 x6:Option SV)(p:NK)(hp:E7 p)(acc:List NK)(ha:∀k∈acc,E7 k)(hl:acc.length<=100)(t:Bm)(ht:∀k∈t.2.2,E7 k)(tn:t.2.2.Nodup)(tl:t.2.2.length<=100)(nd:acc.Nodup):∃ZK,ZK.Nodup/\ZK.length<=acc.length+t.2.2.length/\(∀k,k∈ZK↔k∈acc\/(Zz t=p/\k∈t.2.2))/\
  Gen.Wv (jS A B x2 x3 x4 x5 x6 p acc (aA (.fz (Zx t))))=aA (.nx (jS A B x2 x3 x4 x5 x6 p ZK (aA (.fz (Zx t))))):=by
 have one:OneK (Zz t) p:=by obtain⟨x,l,rfl⟩:=hp;exact .nm _ _
 have e:=vd one;have sl:Hr (Zx t) aB (aA 2)=aA (.fz (nkD (Zz t))):=rfl;have a2:L2.atI [D.str t.1,.str t.2.1,.lst (t.2.2.map nkD)] 2=aA (.lst (t.2.2.map nkD)):=rfl;by_cases h:Zz t=p
 .have cp:=Qo (j:=8) (tt:=Gen.J2) (c:=aA (.fz (.lst (acc.map nkD)))) (p:=U8 acc) t.2.2 [] (λk hk zs=>by
   have e:=Ep (k:=k) (ks:=acc) (.inl λx hx=>by
    rcases ay.mp hx with z|z
    .rw[z];exact ht k hk
    .exact ha x z)
   unfold Gen.J2;generalize acc.map nkD=AC,nkD k=KK at*;simp[e]) (by simp;omega)
  rw[d3]at cp;have ll:=f8 (U8 acc) t.2.2;refine⟨acc++t.2.2.filter (U8 acc),dn.mpr ⟨nd,tn.sublist List.filter_sublist,λx hx y hy e=>?_⟩,by rw[av];omega,λk=>?_,?_⟩
  .have:=Rk.mp (List.mem_filter.mp hy).2;rw[<-e]at this;exact this hx
  .rw[ba,List.mem_filter];constructor
   .rintro(z|⟨z,_⟩)
    .exact .inl z
    .exact .inr ⟨h,z⟩
   .rintro(z|⟨_,z⟩)
    .exact .inl z
    .by_cases hk:k∈acc
     .exact .inl hk
     .exact .inr ⟨z,Rk.mpr hk⟩
  .have zl:(acc.map nkD).length+((t.2.2.filter (U8 acc)).map nkD).length<=PySem.sizeLine:=Z4 (by rw[ah,ah];omega);rw[m8 h]at e;unfold Gen.Wv Gen.Bz jS;rw[ci];have XF:Hr (.tup [.str t.1,.str t.2.1,.lst (t.2.2.map nkD)]) aB (aA 2)=aA (.fz (nkD (Zz t))):=sl;rw[show Zx t= .tup [.str t.1,.str t.2.1,.lst (t.2.2.map nkD)]from rfl];generalize nkD (Zz t)=PT,acc.map nkD=AC,(t.2.2.filter (U8 acc)).map nkD=FL,t.2.2.map nkD=TL,nkD p=PP at*;simp[XF,e,a2,cp,zl,-Yw,-Hr,-Mr]
 .refine⟨acc,nd,Nat.le_add_right _ _,λk=>⟨.inl,λz=>z.elim id λz=>m_ z.1 h⟩,?_⟩;rw[m7 h]at e;unfold Gen.Wv jS;have XF:Hr (.tup [.str t.1,.str t.2.1,.lst (t.2.2.map nkD)]) aB (aA 2)=aA (.fz (nkD (Zz t))):=sl;rw[show Zx t= .tup [.str t.1,.str t.2.1,.lst (t.2.2.map nkD)]from rfl];generalize nkD (Zz t)=PT,acc.map nkD=AC,t.2.2.map nkD=TL,nkD p=PP at*;simp[XF,e,-Hr,-Mr]
theorem Er(A B x2 x3 x4 x5 x6:Option SV)(p:NK)(hp:E7 p):∀(ts:List Bm) (acc:List NK) (x9:Option SV),(∀t∈ts,(∀k∈t.2.2,E7 k)/\t.2.2.Nodup/\t.2.2.length<=9)->(∀k∈acc,E7 k)->acc.Nodup->acc.length<=20->(∀ZK:List NK,ZK.Nodup->(∀k∈ZK,k∈acc\/∃t∈ts,Zz t=p/\k∈t.2.2)->ZK.length<=20)->
  ∃ZK y9,ZK.Nodup/\ZK.length<=20/\(∀k,k∈ZK↔k∈acc\/∃t∈ts,Zz t=p/\k∈t.2.2)/\Yp (Zh 9) Gen.Wv (ts.map Zx) (jS A B x2 x3 x4 x5 x6 p acc x9)=aA (.nx (jS A B x2 x3 x4 x5 x6 p ZK y9))
 | [],acc,x9,_,_,nd,hl,_=>⟨acc,x9,nd,hl,λk=>by simp,by simp⟩
 |t::ts,acc,x9,h,ha,nd,hl,few=>by
  obtain⟨t1,t2,t3⟩:=h t ac;obtain⟨SW,a1,a2,a3,hb⟩:=pI A B x2 x3 x4 x5 x6 p hp acc ha (by omega) t t1 t2 (by omega) nd;have l1:SW.length<=20:=few SW a1 λk hk=>((a3 k).mp hk).imp id λz=>⟨t,ac,z⟩
  obtain⟨ZK,y9,b1,b2,b3,ih⟩:=Er A B x2 x3 x4 x5 x6 p hp ts SW (aA (.fz (Zx t))) (λu hu=>h u (am _ hu)) (λk hk=>((a3 k).mp hk).elim (ha k) λz=>t1 k z.2) a1 l1 λZK n m=>few ZK n λk hk=>by
   rcases m k hk with z|⟨u,hu,z⟩
   .exact((a3 k).mp z).imp id λz=>⟨t,ac,z⟩
   .exact .inr ⟨u,am _ hu,z⟩
  refine⟨ZK,y9,b1,b2,λk=>?_,(G8 (by simp) hb).trans ih⟩;rw[b3,a3];constructor
  .rintro((z|z)|⟨u,hu,z⟩)
   .exact .inl z
   .exact .inr ⟨t,ac,z⟩
   .exact .inr ⟨u,am _ hu,z⟩
  .rintro(z|⟨u,hu,z⟩)
   .exact .inl (.inl z)
   .rcases ay.mp hu with y|y
    .rw[y]at z;exact .inl (.inr z)
    .exact .inr ⟨u,y,z⟩
theorem ut{ks out:List NK}(h:U5 ks)(hl:ks.length<64)(pm:out.Perm ks)(hs:out.Pairwise λa b=>¬Wo b<Wo a):A8 [.lst (ks.map nkD)]=aA (.ol (out.map nkD)):=by
 refine tY ⟨?_,RJ,λa ha b hb=>?_,λa ha b hb e=>?_⟩ (by rw[ah];exact hl) ⟨pm.map _,dw.mpr ?_⟩
 .rcases h with h|h
  .refine⟨.str,λd hd=>?_⟩;obtain⟨k,hk,rfl⟩:=ax.mp hd;obtain⟨x,l,rfl⟩:=h k hk;exact .str _ _
  .refine⟨.int,λd hd=>?_⟩;obtain⟨k,hk,rfl⟩:=ax.mp hd;obtain⟨x,l,rfl⟩:=h k hk;exact .int _ _
 .obtain⟨k,hk,rfl⟩:=ax.mp ha;obtain⟨l,hl,rfl⟩:=ax.mp hb;rw[Uk,Uk];exact Ka 12 (h.one hk hl)
 .obtain⟨k,hk,rfl⟩:=ax.mp ha;obtain⟨l,hl,rfl⟩:=ax.mp hb;rw[Uk,Uk]at e;rw[Jt (h.one hk hl) e]
 .refine(f9.mp hs).imp fun{a b} z=>?_;obtain⟨ha,hb,z⟩:=z;rw[Ka 12 (h.one (pm.mem_iff.mp hb) (pm.mem_iff.mp ha))];exact congrArg aA (m7 z)
theorem uq(ks:List NK):∃out:List NK,out.Perm ks/\out.Pairwise λa b=>¬Wo b<Wo a:=by
 let le:NK->NK->Bool:=λa b=>!decide (Wo b<Wo a);refine⟨ks.mergeSort le,List.mergeSort_perm _ _,?_⟩;have:=List.pairwise_mergeSort (le:=le) (λa b c h1 h2=>by
  simp only[le,gu,decide_eq_false_iff_not]at*;exact ck.mpr (List.le_trans (ck.mp h1) (ck.mp h2))) (λa b=>by
  simp only[le,Bool.or_eq_true,gu,decide_eq_false_iff_not];by_cases h:Wo b<Wo a
  .exact .inr λz=>d4 _ (List.lt_trans h z)
  .exact .inl h) ks
 exact this.imp λh=>by simpa[le]using h
theorem Cg:∀{fs:List Bm},fs.Pairwise tLt->∀t∈fs,∀u∈fs,Zz t=Zz u->t=u
 |x::fs,h,t,ht,u,hu,e=>by
  obtain⟨h1,h2⟩:=List.pairwise_cons.mp h;have eq:∀t u:Bm,Zz t=Zz u->Wy t=Wy u:=λt u e=>by have:=f6.inj e;have e1:=(gh.inj this).1;have e2:=(gh.inj (gh.inj this).2).1;unfold Wy;rw[e1,e2]
  rcases ay.mp ht with e1|ht'
  .rcases ay.mp hu with e2|UF
   .rw[e1,e2]
   .have:=h1 u UF;unfold tLt at this;rw[<-e1,eq _ _ e]at this;exact m_ this (d4 _)
  .rcases ay.mp hu with e2|UF
   .have:=h1 t ht';unfold tLt at this;rw[<-e2,eq _ _ e]at this;exact m_ this (d4 _)
   .exact Cg h2 t ht' u UF e
theorem Kl{h:HP}(n:Nr h)(p:NK):∃L:List NK,L.length<=9/\∀k,(∃t∈h.fs,Zz t=p/\k∈t.2.2)->k∈L:=by
 by_cases hx:∃t∈h.fs,Zz t=p
 .obtain⟨t,ht,e⟩:=hx;refine⟨t.2.2,(n.fl t ht).2.2.1,λk hk=>?_⟩;obtain⟨u,hu,e2,hk⟩:=hk;rw[Cg n.fs t ht u hu (e.trans e2.symm)];exact hk
 .exact⟨[],by simp,λk hk=>by obtain⟨u,hu,e2,hk⟩:=hk;exact m_ ⟨u,hu,e2⟩ hx⟩
structure JT(a b:HP)(pre:List NK)(T:List Bm):Prop where
 srt:T.Pairwise tLt
 mem:∀t∈T,Zz t∈pre
 all:∀p∈pre,∃t∈T,Zz t=p
 tel:∀t∈T,t.2.2.Pairwise Sn/\t.2.2.length<=20/\∀k,k∈t.2.2↔∃u∈a.fs++b.fs,Zz u=Zz t/\k∈u.2.2
 len:T.length<=pre.length
abbrev oS(a b:HP)(x2 x3:Option SV)(P:List NK)(T:List Bm)(x6 x7 x8 x9:Option SV):Ym:=[aA (.fz (Zs a)),aA (.fz (Zs b)),x2,x3,aA (.fz (.lst (P.map nkD))),aA (.ol (T.map Zx)),x6,x7,x8,x9]
theorem uo {a b : HP} (na : Nr a) (nb : Nr b) (x2 x3 : Option SV) {P pre rest : List NK} {p : NK} (hP : P = pre ++ p :: rest) (LU : P.length < 64) (WY : ∀ k ∈ P, ∃ f v, k = .inl [f, v]) (sP : P.Pairwise λa b => ¬ Wo b < Wo a) {T : List Bm} (jt : JT a b pre T) (x8 x9 : Option SV) : ∃ T' y8 y9, JT a b (pre ++ [p]) T' /\
    Gen.Yt (oS a b x2 x3 P T (aA (.fz (.int (pre.length : Int)))) (aA (.fz (nkD p))) x8 x9) = aA (.nx (oS a b x2 x3 P T' (aA (.fz (.int (pre.length : Int)))) (aA (.fz (nkD p))) y8 y9)) := by
  have yG : p ∈ P := by rw [hP]; simp
  obtain ⟨f, v, rfl⟩ := WY p yG;have yH : E7 (.inl [f, v]) := ⟨_, _, rfl⟩
  obtain ⟨La, la, ha⟩ := Kl na (.inl [f, v]);obtain ⟨Lb, lb, hb⟩ := Kl nb (.inl [f, v]);have few : ∀ ZK : List NK, ZK.Nodup -> (∀ k ∈ ZK, k ∈ ([] : List NK) \/ ∃ t ∈ a.fs ++ b.fs, Zz t = .inl [f, v] /\ k ∈ t.2.2) -> ZK.length <= 20 := λZK nd h => by
    have := b7 nd (l₂ := La ++ Lb) λk hk => by
      rcases h k hk with z | ⟨t, ht, z⟩
      · cases z
      · rcases ba.mp ht with y | y
        · exact bz _ (ha k ⟨t, y, z⟩)
        · exact bx _ (hb k ⟨t, y, z⟩)
    rw [av] at this;omega
  have GV : ∀ t ∈ a.fs ++ b.fs, (∀ k ∈ t.2.2, E7 k) /\ t.2.2.Nodup /\ t.2.2.length <= 9 := λt ht => by
    rcases ba.mp ht with y | y
    · exact ⟨na.ok.fl t y, Ya (na.fl t y).2.1, (na.fl t y).2.2.1⟩
    · exact ⟨nb.ok.fl t y, Ya (nb.fl t y).2.1, (nb.fl t y).2.2.1⟩
  obtain ⟨acc, y9, n1, n2, n3, lo⟩ := Er (aA (.fz (Zs a))) (aA (.fz (Zs b))) x2 x3 (aA (.fz (.lst (P.map nkD)))) (aA (.ol (T.map Zx))) (aA (.fz (.int (pre.length : Int)))) (.inl [f, v]) yH (a.fs ++ b.fs) [] x9 GV (λ_ h => nomatch h) cx (by simp) few;have n3 : ∀ k, k ∈ acc ↔ ∃ t ∈ a.fs ++ b.fs, Zz t = .inl [f, v] /\ k ∈ t.2.2 := λk => by rw [n3]; simp
  have GX : Ek acc := .inl λk hk => by obtain ⟨t, ht, _, z⟩ := (n3 k).mp hk; exact (GV t ht).1 k z
  obtain ⟨r1, r2⟩ := Wi GX;have so : We [.lst (acc.map nkD)] = aA (.ol ((rise acc).map nkD)) := R9 GX.one n1 (by omega) r2 r1;have lr : (rise acc).length <= 20 := by have := b7 (Ya r1) (l₂ := acc) λk hk => (r2 k).mp hk;omega
  generalize rise acc = R at r1 r2 so lr;have a2 : L2.atI [D.lst (a.ns.map nkD), .lst (a.ms.map nkD), .lst (a.fs.map Zx)] 2 = aA (.lst (a.fs.map Zx)) := rfl;have b2 : L2.atI [D.lst (b.ns.map nkD), .lst (b.ms.map nkD), .lst (b.fs.map Zx)] 2 = aA (.lst (b.fs.map Zx)) := rfl;have MU : (a.fs.map Zx).length + (b.fs.map Zx).length <= PySem.sizeLine := Z4 (by rw [ah, ah]; have := na.lf; have := nb.lf; omega);have zT : (T.map Zx).length < PySem.sizeLine := Yk (by
    rw [ah];have := jt.len;have : pre.length <= P.length := by rw [hP]; simp
    omega)
  have z3 : 3 <= PySem.sizeLine := Z4 (by omega);have p0 : L2.atI [D.str f, .str v] 0 = aA (.str f) := rfl;have p1 : L2.atI [D.str f, .str v] 1 = aA (.str v) := rfl;rw [ci] at lo
  -- it is put behind
  have put : (∀ x ∈ pre, Wo x < Wo (.inl [f, v])) -> JT a b (pre ++ [.inl [f, v]]) (T ++ [(f, v, R)]) := λhx => by
    refine ⟨List.pairwise_append.mpr ⟨jt.srt, by simp, λt ht u hu => ?_⟩, λt ht => ?_, λp hp => ?_, λt ht => ?_, by rw [av, av]; have := jt.len; simp; omega⟩
    · rw [ak.mp hu]
      exact Sz (hx _ (jt.mem t ht))
    · rcases ba.mp ht with z | z
      · exact bz _ (jt.mem t z)
      · rw [ak.mp z]; simp
    · rcases ba.mp hp with z | z
      · obtain ⟨t, ht, e⟩ := jt.all p z
        exact ⟨t, bz _ ht, e⟩
      · exact ⟨(f, v, R), by simp, (ak.mp z).symm⟩
    · rcases ba.mp ht with z | z
      · exact jt.tel t z
      · rw [ak.mp z]
        exact ⟨r1, lr, λk => by rw [r2, n3]⟩
  have eT : (T ++ [(f, v, R)]).map Zx = T.map Zx ++ [.tup [.str f, .str v, .lst (R.map nkD)]] := by rw [ci]; rfl
  rw [show nkD (.inl [f, v]) = .tup [.str f, .str v] from rfl] at *;rcases List.eq_nil_or_concat pre with rfl | ⟨pre', last, ZQ⟩
  · refine ⟨T ++ [(f, v, R)], aA (.ol (acc.map nkD)), y9, put (λ_ h => nomatch h), ?_⟩
    unfold Gen.Yt oS;rw [eT];unfold jS Zs at lo;unfold Zs;rw [show ([] : List NK).map nkD = [] from rfl, show nkD (.inl [f, v]) = .tup [.str f, .str v] from rfl, show (([] : List NK).length : Int) = 0 from rfl] at lo;rw [show (([] : List NK).length : Int) = 0 from rfl];generalize P.map nkD = PP,T.map Zx = TT,R.map nkD = RR,acc.map nkD = AC,a.fs.map Zx = FA,b.fs.map Zx = FB,a.ns.map nkD = NA,b.ns.map nkD = NB,a.ms.map nkD = MA,b.ms.map nkD = MB at *;simp [a2, b2, MU, lo, so, zT, z3, p0, p1, -Yp]
  · have ZQ : pre = pre' ++ [last] := by rw [ZQ]; simp
    have yS : last ∈ P := by rw [hP, ZQ]; simp
    have one : OneK last (.inl [f, v]) := by obtain ⟨g, w, rfl⟩ := WY last yS; exact .nm _ _
    have ne := IX one;rw [show nkD (.inl [f, v]) = .tup [.str f, .str v] from rfl] at ne;have lp : pre.length = pre'.length + 1 := by rw [ZQ]; simp
    have al : L2.atI (P.map nkD) ((pre.length : Int) - 1) = aA (nkD last) := by rw [show ((pre.length : Int) - 1) = ((pre'.length : Nat) : Int) by omega];refine R4 _ _ _ ?_;rw [bg, hP, ZQ];simp
    have k0 : ¬ (pre.length : Int) = 0 := by omega
    rw [hP] at sP;obtain ⟨s1, _, s3⟩ := List.pairwise_append.mp sP;have sx : ∀ x ∈ pre, ¬ Wo (.inl [f, v]) < Wo x := λx hx => s3 x hx _ ac;by_cases hl : last = .inl [f, v]
    · refine ⟨T, aA (.ol (acc.map nkD)), y9, ⟨jt.srt, λt ht => bz _ (jt.mem t ht), λp hp => ?_, jt.tel, by rw [av]; have := jt.len; omega⟩, ?_⟩
      · rcases ba.mp hp with z | z
        · exact jt.all p z
        · exact jt.all p (by rw [ak.mp z, <- hl, ZQ]; simp)
      · rw [m8 hl] at ne
        unfold Gen.Yt oS;unfold jS Zs at lo;unfold Zs;rw [show ([] : List NK).map nkD = [] from rfl, show nkD (.inl [f, v]) = .tup [.str f, .str v] from rfl] at lo;generalize (pre.length : Int) = k at *;generalize nkD last = LA,P.map nkD = PP,T.map Zx = TT,acc.map nkD = AC,a.fs.map Zx = FA,b.fs.map Zx = FB,a.ns.map nkD = NA,b.ns.map nkD = NB,a.ms.map nkD = MA,b.ms.map nkD = MB at *;simp [a2, b2, MU, lo, al, ne, k0, -Yp, -T6]
    · refine ⟨T ++ [(f, v, R)], aA (.ol (acc.map nkD)), y9, put (λx hx => ?_), ?_⟩
      · have ox : OneK x (.inl [f, v]) := by obtain ⟨g, w, rfl⟩ := WY x (by rw [hP]; exact bz _ hx); exact .nm _ _
        have nx : x ≠ .inl [f, v] := λe => by
          rw [ZQ] at hx;rcases ba.mp hx with z | z
          · rw [ZQ] at s1
            have h1 := (List.pairwise_append.mp s1).2.2 x z last (by simp);have h2 := sx last (by rw [ZQ]; simp);rw [e] at h1;exact hl (Jt one (List.le_antisymm (ck.mp h2) (ck.mp h1)))
          · exact hl (by rw [<- ak.mp z]; exact e)
        refine Classical.byContradiction λh => nx (Jt ox (List.le_antisymm (ck.mp (sx x hx)) (ck.mp h)))
      · rw [m7 hl] at ne
        unfold Gen.Yt oS;rw [eT];unfold jS Zs at lo;unfold Zs;rw [show ([] : List NK).map nkD = [] from rfl, show nkD (.inl [f, v]) = .tup [.str f, .str v] from rfl] at lo;generalize (pre.length : Int) = k at *;generalize nkD last = LA,P.map nkD = PP,T.map Zx = TT,R.map nkD = RR,acc.map nkD = AC,a.fs.map Zx = FA,b.fs.map Zx = FB,a.ns.map nkD = NA,b.ns.map nkD = NB,a.ms.map nkD = MA,b.ms.map nkD = MB at *;simp [a2, b2, MU, lo, al, ne, k0, so, zT, z3, p0, p1, -Yp, -T6]
theorem S0{a b:HP}(na:Nr a)(nb:Nr b)(x2 x3:Option SV)(P:List NK)(LU:P.length<64)(WY:∀k∈P,∃f v,k= .inl [f,v])(sP:P.Pairwise λa b=>¬Wo b<Wo a):∀(rest pre:List NK),P=pre++rest->∀(T:List Bm),JT a b pre T->∀(x6 x7 x8 x9:Option SV),∃T' y6 y7 y8 y9,JT a b P T'/\
  Yp (Y7 2 (Zw (Zh 6) (Zw (Zh 7) Wb))) Gen.Yt (((rest.map nkD).zipIdx pre.length).map λp=>D.tup [.int (p.2:Nat),p.1]) (oS a b x2 x3 P T x6 x7 x8 x9)=aA (.nx (oS a b x2 x3 P T' y6 y7 y8 y9))
 | [],pre,hP,T,jt,x6,x7,x8,x9=>⟨T,x6,x7,x8,x9,by rw[hP,gq];exact jt,by simp⟩
 |p::rest,pre,hP,T,jt,x6,x7,x8,x9=>by obtain⟨T1,z8,z9,j1,hb⟩:=uo na nb x2 x3 hP LU WY sP jt x8 x9;obtain⟨T',y6,y7,y8,y9,j2,ih⟩:=S0 na nb x2 x3 P LU WY sP rest (pre++[p]) (by rw[hP];simp) T1 j1 (aA (.fz (.int (pre.length:Int)))) (aA (.fz (nkD p))) z8 z9;rw[av,f7]at ih;refine⟨T',y6,y7,y8,y9,j2,?_⟩;rw[bm,List.zipIdx_cons,bm];exact(G8 (by simp) hb).trans ih
theorem Km{te:FE}(he:te=slF Hr (Zb 0) Rq (Iz (Zg (.int 2)))):∀(fs:List Bm),fs.length<=100->Yw [.own,.acc] 1 (Zh 0) Qb te (fs.map Zx) [aB,aA (.ol [])]=aA [aB,aA (.ol ((fs.map Zz).map nkD))]:=λfs hl=>by
 have c:=Sk (te:=te) (f:=λd=>match d with| .tup [x,y,_]=>.tup [x,y]|_=>.non) (fs.map Zx) [] (λx hx zs=>by
  obtain⟨t,_,rfl⟩:=ax.mp hx;have sl:Hr (.tup [.str t.1,.str t.2.1,.lst (t.2.2.map nkD)]) aB (aA 2)=aA (.fz (.tup [.str t.1,.str t.2.1])):=rfl;subst he;show _=aA (RV.tmp (SV.fz (.tup [.str t.1,.str t.2.1])),_);unfold Zx;generalize t.2.2.map nkD=TL at*;simp[sl,-Hr]) (by simp;omega)
 rw[d3]at c;rw[c,cu,cu];rfl
theorem Xw{a b:HP}(na:Nr a)(nb:Nr b):∃m,mG (· ∈[a,b]) m/\m.ns.length<=20/\m.ms.length<=20/\m.fs.length<=30/\(∀t∈m.fs,t.2.2.length<=20)/\Gen.Qn [Zs a,Zs b]=aA (.fz (Zs m)):=by
 have OY:Ek (a.ns++b.ns):=.inl λk hk=>(ba.mp hk).elim (na.okn k) (nb.okn k);have RA:Ek (a.ms++b.ms):=.inr λk hk=>(ba.mp hk).elim (na.mr k) (nb.mr k);have la:=na.ln;have lb:=nb.ln;have lma:=na.lm;have lmb:=nb.lm;have lfa:=na.lf;have lfb:=nb.lf;obtain⟨N,n1,n2,sn⟩:=D9 OY (Ya na.ns) (Ya nb.ns) (by omega) (by omega);obtain⟨M,m1,m2,sm⟩:=D9 RA (Ya na.ms) (Ya nb.ms) (by omega) (by omega);have lN:N.length<=20:=by have:=b7 (Ya n1) (l₂:=a.ns++b.ns) λk hk=>ba.mpr ((n2 k).mp hk);rw[av]at this;omega
 have lM:M.length<=20:=by have:=b7 (Ya m1) (l₂:=a.ms++b.ms) λk hk=>ba.mpr ((m2 k).mp hk);rw[av]at this;omega
 have c1:=Qo (j:=0) (tt:=Gen.Jz) (c:=aA (.fz (Zs a))) (p:=U8 a.ns) b.ns [] (λk hk zs=>by
  have e:=Ep (k:=k) (ks:=a.ns) (.inl λx hx=>(ay.mp hx).elim (λz=>by rw[z];exact nb.okn k hk) (na.okn x));have a0:L2.atI [D.lst (a.ns.map nkD),.lst (a.ms.map nkD),.lst (a.fs.map Zx)] 0=aA (.lst (a.ns.map nkD)):=rfl;unfold Gen.Jz Zs;generalize a.ns.map nkD=NS,a.ms.map nkD=MS,a.fs.map Zx=FS,nkD k=KK at*;simp[a0,e]) (by simp;omega)
 have c3:=Qo (j:=0) (tt:=Gen.J1) (c:=aA (.fz (Zs a))) (p:=U8 a.ms) b.ms [] (λk hk zs=>by
  have e:=Ep (k:=k) (ks:=a.ms) (.inr λx hx=>(ay.mp hx).elim (λz=>by rw[z];exact nb.mr k hk) (na.mr x));have a1:L2.atI [D.lst (a.ns.map nkD),.lst (a.ms.map nkD),.lst (a.fs.map Zx)] 1=aA (.lst (a.ms.map nkD)):=rfl;unfold Gen.J1 Zs;generalize a.ns.map nkD=NS,a.ms.map nkD=MS,a.fs.map Zx=FS,nkD k=KK at*;simp[a1,e]) (by simp;omega)
 rw[d3]at c1 c3;have c5:=Km (te:=Gen.Bw) rfl a.fs (by omega);have c6:=Km (te:=Gen.Bx) rfl b.fs (by omega);obtain⟨P,pm,ps⟩:=uq (a.fs.map Zz++b.fs.map Zz);have lP:P.length<=24:=by rw[pm.length_eq,av,ah,ah];omega
 have mP:∀k,k∈P↔∃u∈a.fs++b.fs,Zz u=k:=λk=>by rw[pm.mem_iff,<-ci,ax]
 have WY:∀k∈P,∃f v,k= .inl [f,v]:=λk hk=>by obtain⟨u,_,rfl⟩:=(mP k).mp hk;exact⟨_,_,rfl⟩
 have sw:=ut (ks:=a.fs.map Zz++b.fs.map Zz) (.inl λk hk=>by obtain⟨f,v,rfl⟩:=WY k (pm.mem_iff.mpr hk);exact⟨_,_,rfl⟩) (by rw[<-pm.length_eq];omega) pm ps;rw[ci]at sw;obtain⟨T,y6,y7,y8,y9,jt,lo⟩:=S0 na nb (aA (.ol (N.map nkD))) (aA (.ol (M.map nkD))) P (by omega) WY ps P [] rfl [] ⟨.nil,(λ_ h=>nomatch h),(λ_ h=>nomatch h),(λ_ h=>nomatch h),bc _⟩ aB aB aB aB;have lo:Yp (Y7 2 (Zw (Zh 6) (Zw (Zh 7) Wb))) Gen.Yt (Q8 (P.map nkD)) (oS a b (aA (.ol (N.map nkD))) (aA (.ol (M.map nkD))) P [] aB aB aB aB)=_:=lo;have UC:∀{p:HP->Prop},(∃h,h∈[a,b]/\p h)↔p a\/p b:=fun{p}=>by simp
 refine⟨⟨N,M,T⟩,⟨n1,λk=>by rw[UC];exact n2 k,m1,λk=>by rw[UC];exact m2 k,jt.srt,λf v=>?_,λt ht=>⟨(jt.tel t ht).1,λk=>?_⟩⟩,lN,lM,by have:=jt.len;show T.length<=30;omega,λt ht=>(jt.tel t ht).2.1,?_⟩
 .rw[UC];have key:(∃l,(f,v,l)∈T)↔ .inl [f,v]∈P:=by
   constructor
   .rintro⟨l,hl⟩;exact jt.mem _ hl
   .intro h;obtain⟨t,ht,e⟩:=jt.all _ h;obtain⟨g,w,l⟩:=t;have e:=f6.inj e;have e1:g=f:=(gh.inj e).1;have e2:w=v:=(gh.inj (gh.inj e).2).1;subst e1;subst e2;exact⟨l,ht⟩
  rw[key,mP];constructor
  .rintro⟨⟨g,w,l⟩,hu,e⟩;have e:=f6.inj e;have e1:g=f:=(gh.inj e).1;have e2:w=v:=(gh.inj (gh.inj e).2).1;subst e1;subst e2;rcases ba.mp hu with z|z
   .exact .inl ⟨l,z⟩
   .exact .inr ⟨l,z⟩
  .rintro(⟨l,z⟩|⟨l,z⟩)
   .exact⟨_,bz _ z,rfl⟩
   .exact⟨_,bx _ z,rfl⟩
 .rw[(jt.tel t ht).2.2,UC];constructor
  .rintro⟨⟨g,w,l⟩,hu,e,hk⟩;have e:=f6.inj e;have e1:g=t.1:=(gh.inj e).1;have e2:w=t.2.1:=(gh.inj (gh.inj e).2).1;subst e1;subst e2;rcases ba.mp hu with z|z
   .exact .inl ⟨l,z,hk⟩
   .exact .inr ⟨l,z,hk⟩
  .rintro(⟨l,z,hk⟩|⟨l,z,hk⟩)
   .exact⟨_,bz _ z,rfl,hk⟩
   .exact⟨_,bx _ z,rfl,hk⟩
 .have a0:L2.atI [D.lst (a.ns.map nkD),.lst (a.ms.map nkD),.lst (a.fs.map Zx)] 0=aA (.lst (a.ns.map nkD)):=rfl;have a1:L2.atI [D.lst (a.ns.map nkD),.lst (a.ms.map nkD),.lst (a.fs.map Zx)] 1=aA (.lst (a.ms.map nkD)):=rfl;have a2:L2.atI [D.lst (a.ns.map nkD),.lst (a.ms.map nkD),.lst (a.fs.map Zx)] 2=aA (.lst (a.fs.map Zx)):=rfl;have b0:L2.atI [D.lst (b.ns.map nkD),.lst (b.ms.map nkD),.lst (b.fs.map Zx)] 0=aA (.lst (b.ns.map nkD)):=rfl;have b1:L2.atI [D.lst (b.ns.map nkD),.lst (b.ms.map nkD),.lst (b.fs.map Zx)] 1=aA (.lst (b.ms.map nkD)):=rfl;have b2:L2.atI [D.lst (b.ns.map nkD),.lst (b.ms.map nkD),.lst (b.fs.map Zx)] 2=aA (.lst (b.fs.map Zx)):=rfl;have f1:=f8 (U8 a.ns) b.ns;have f2:=f8 (U8 a.ms) b.ms;have zn:(a.ns.map nkD).length+((b.ns.filter (U8 a.ns)).map nkD).length<=PySem.sizeLine:=Z4 (by rw[ah,ah];omega);have zm:(a.ms.map nkD).length+((b.ms.filter (U8 a.ms)).map nkD).length<=PySem.sizeLine:=Z4 (by rw[ah,ah];omega);have zp:((a.fs.map Zz).map nkD).length+((b.fs.map Zz).map nkD).length<=PySem.sizeLine:=Z4 (by rw[ah,ah,ah,ah];omega);have z3:3<=PySem.sizeLine:=Z4 (by omega);have z0:0<=PySem.sizeLine:=dk _;unfold Gen.Qn Gen.Ox Gen.Bu Gen.Bv;unfold oS Zs at lo;rw[show([]:List Bm).map Zx=[]from rfl]at lo;rw[show Zs ⟨N,M,T⟩= .tup [.lst (N.map nkD),.lst (M.map nkD),.lst (T.map Zx)]from rfl];unfold Zs at*;generalize P.map nkD=PP,T.map Zx=TT,(b.ns.filter (U8 a.ns)).map nkD=F1,(b.ms.filter (U8 a.ms)).map nkD=F2,(a.fs.map Zz).map nkD=P1,(b.fs.map Zz).map nkD=P2,a.fs.map Zx=FA,b.fs.map Zx=FB,a.ns.map nkD=NA,b.ns.map nkD=NB,a.ms.map nkD=MA,b.ms.map nkD=MB,N.map nkD=NN,M.map nkD=MM at*;simp[a0,a1,a2,b0,b1,b2,c1,c3,c5,c6,sn,sm,sw,lo,zn,zm,zp,z3,-Yp,-Yw]
theorem Kn(t:NK):∀{fs:List Bm},fs.Pairwise tLt->(∀x∈fs,x.2.2.length<=9)->D4 t fs<=9
 | [],_,_=>by unfold D4;simp
 |x::fs,h,hl=>by
  rw[Rh];have ih:=Kn t (List.pairwise_cons.mp h).2 λy hy=>hl y (am _ hy);by_cases e:Zz x=t
  .have z:D4 t fs=0:=by
    have nz:∀y∈fs,Zz y≠t:=λy hy e2=>by have:=Cg h x ac y (am _ hy) (e.trans e2.symm);have lt:=(List.pairwise_cons.mp h).1 y hy;rw[<-this]at lt;exact d4 _ lt
    clear ih h hl;induction fs with
    |nil=>unfold D4;simp
    |cons y fs ih=>rw[Rh,m4 (nz y ac),ih λw hw=>nz w (am _ hw)]
   rw[m6 e,z];exact hl x ac
  .rw[m4 e];omega
theorem vD{hs:List HP}(h:∀x∈hs,Nr x)(hl:hs.length<=2):Tot hs:=by
 have n1:∀l:List HP,(∀x∈l,Nr x)->(l.flatMap HP.ns).length<=9*l.length/\(l.flatMap HP.ms).length<=9*l.length/\(∀t,tlG t l<=9*l.length)/\Ib l<=12*l.length/\(l.flatMap λx=>x.fs.map Zz).length<=12*l.length:=by
  intro l;induction l with
  |nil=>intro _;exact⟨by simp,by simp,λt=>by unfold tlG;simp,by unfold Ib;simp,by simp⟩
  |cons x l ih=>
   intro h;have hx:=h x ac;obtain⟨i1,i2,i3,i4,i5⟩:=ih λy hy=>h y (am _ hy);have q1:=hx.ln;have q2:=hx.lm;have q3:=hx.lf;refine⟨?_,?_,λt=>?_,?_,?_⟩
   .rw[List.flatMap_cons,av,bh];omega
   .rw[List.flatMap_cons,av,bh];omega
   .rw[Ri,bh];have:=Kn t hx.fs λy hy=>(hx.fl y hy).2.2.1;have:=i3 t;omega
   .rw[R8,bh];omega
   .rw[List.flatMap_cons,av,ah,bh];omega
 obtain⟨i1,i2,i3,i4,i5⟩:=n1 hs h;refine⟨⟨λx hx=>⟨by have:=(h x hx).ln;omega,by have:=(h x hx).lm;omega,λy hy=>by have:=((h x hx).fl y hy).2.2.1;omega⟩,λx hx=>(h x hx).okn,λx hx=>(h x hx).mr,λx hx=>(h x hx).ok.fl,by omega,by omega,λt=>by have:=i3 t;omega,by omega,by omega,hs.flatMap λx=>x.fs.map Zz,by omega,λt ht=>?_⟩,λx hx=>(h x hx).ne⟩;obtain⟨x,hx,y,hy,e⟩:=ht;exact List.mem_flatMap.mpr ⟨x,hx,ax.mpr ⟨y,hy,e.symm⟩⟩
theorem zC{xs ys:List HP}(h:∀x∈xs++ys,Nr x)(hl:(xs++ys).length<=2):∃out,mL (· ∈xs++ys) out/\Gen.Jd [.lso (xs.map Y9),.lso (ys.map Y9)]=aA (.ol (out.map Zs)):=by obtain⟨out,p,_,_,e⟩:=joined (xs++ys) (vD h hl);refine⟨out,p,?_⟩;rw[ci]at e;rw[av]at hl;have z:(xs.map Y9).length+(ys.map Y9).length<=PySem.sizeLine:=Z4 (by rw[ah,ah];omega);unfold Gen.Jd Gen.Xq;generalize xs.map Y9=X,ys.map Y9=Y,out.map Zs=O at*;simp[z,e]
theorem Q1{h:HP}(n:Nr h){G:HP->Prop}(g:∀x,G x↔x=h):mG G h:=by
 have ex:∀{p:HP->Prop},(∃x,G x/\p x)↔p h:=fun{p}=>⟨λ⟨x,hx,z⟩=>by rw[(g x).mp hx]at z;exact z,λz=>⟨h,(g h).mpr rfl,z⟩⟩
 refine⟨n.ns,λk=>(ex (p:=λx=>k∈x.ns)).symm,n.ms,λk=>(ex (p:=λx=>k∈x.ms)).symm,n.fs,λf v=>(ex (p:=λx=>∃l,(f,v,l)∈x.fs)).symm,λt ht=>⟨(n.fl t ht).2.1,λk=>?_⟩⟩;rw[ex];constructor
 .intro hk;exact⟨t.2.2,ht,hk⟩
 .rintro⟨l,hl,hk⟩;have:=Cg n.fs t ht (t.1,t.2.1,l) hl rfl;rw[this];exact hk
theorem Gb{a:HP}{S:HP->Prop}(sa:S a)(h:∀c,S c->shr a c->c=a)(x:HP):mM S a x↔x=a:=by
 constructor
 .intro c;generalize ha:a=a' at c;induction c with
  |here _=>exact rfl
  |step c1 sc sh ih=>subst ha;rw[ih]at sh;exact h _ sc sh
 .rintro rfl;exact .here sa
theorem S1{h:HP}(n:Nr h):mL (· ∈[h]) [h]:=by
 have c:∀x,mM (· ∈[h]) h x↔x=h:=λx=>Gb (by simp) (λc hc _=>ak.mp hc) x;refine⟨by simp,λx hx=>⟨h,by simp,?_⟩,λx hx=>⟨h,by simp,?_⟩⟩
 .rw[ak.mp hx];exact Q1 n c
 .have hx:x∈[h]:=hx;rw[ak.mp hx];exact Q1 n c
theorem S2{a b m:HP}(s:shr a b)(im:mG (· ∈[a,b]) m):mL (· ∈[a,b]) [m]:=by
 have ca:∀x,mM (· ∈[a,b]) a x↔x∈[a,b]:=λx=>⟨mM.right,λhx=>by
  have h0:mM (· ∈[a,b]) a a:=.here (by simp);have YR:x∈[a,b]:=hx;rcases ay.mp YR with z|z
  .rw[z];exact h0
  .rw[ak.mp z];exact .step h0 (by simp) s⟩
 have cb:∀x,mM (· ∈[a,b]) b x↔x∈[a,b]:=λx=>⟨mM.right,λhx=>by
  have h0:mM (· ∈[a,b]) b b:=.here (by simp);have YR:x∈[a,b]:=hx;rcases ay.mp YR with z|z
  .rw[z];exact .step h0 (by simp) (Sq s)
  .rw[ak.mp z];exact h0⟩
 have LZ:∀{G:HP->Prop},(∀x,G x↔x∈[a,b])->mG G m:=fun{G} g=>by have e:G=(· ∈[a,b]):=funext λx=>propext (g x);rw[e];exact im
 refine⟨by simp,λx hx=>⟨a,by simp,?_⟩,λx hx=>⟨m,by simp,?_⟩⟩
 .rw[ak.mp hx];exact LZ ca
 .have hx:x∈[a,b]:=hx;rcases ay.mp hx with z|z
  .rw[z];exact LZ ca
  .rw[ak.mp z];exact LZ cb
theorem Xx{a b:HP}(na:Nr a)(nb:Nr b)(s:¬shr a b):∃out,mL (· ∈[a,b]) out/\We [.lst [Zs a,Zs b]]=aA (.ol (out.map Zs))/\out.length=2/\∀h∈out,h=a\/h=b:=by
 have ne:Wh a≠Wh b:=λe=>by
  obtain⟨x,l,ex⟩:=du na.ne;obtain⟨y,k,ey⟩:=du nb.ne;unfold Wh at e;rw[ex,ey]at e;have hx:x∈a.ns:=by rw[ex];exact ac
  have hy:y∈b.ns:=by rw[ey];exact ac
  obtain⟨f,v,rfl⟩:=na.n2 x hx;obtain⟨g,w,rfl⟩:=nb.n2 y hy;have:=Jt (OneK.nm _ _) e;rw[<-this]at hy;exact s ⟨_,bz _ hx,bz _ hy⟩
 have ca:∀x,mM (· ∈[a,b]) a x↔x=a:=λx=>Gb (by simp) (λc hc sh=>by
  have hc:c∈[a,b]:=hc;rcases ay.mp hc with z|z
  .exact z
  .rw[ak.mp z]at sh;exact m_ sh s) x
 have cb:∀x,mM (· ∈[a,b]) b x↔x=b:=λx=>Gb (by simp) (λc hc sh=>by
  have hc:c∈[a,b]:=hc;rcases ay.mp hc with z|z
  .rw[z]at sh;exact m_ (Sq sh) s
  .exact ak.mp z) x
 have mk:∀out:List HP,out.Perm [a,b]->out.Pairwise (λx y=>Wh x<Wh y)->∃out,mL (· ∈[a,b]) out/\We [.lst [Zs a,Zs b]]=aA (.ol (out.map Zs))/\out.length=2/\∀h∈out,h=a\/h=b:=λout pm so=>by
  have mem:∀x,x∈out↔x=a\/x=b:=λx=>by rw[pm.mem_iff];simp
  refine⟨out,⟨so,λx hx=>?_,λx hx=>?_⟩,BL (hs:=[a,b]) (λx hx=>?_) (by simpa using ne) (by simp) pm (so.imp λh=>D0 h),pm.length_eq,λh hh=>(mem h).mp hh⟩
  .rcases(mem x).mp hx with rfl|rfl
   .exact⟨x,by simp,Q1 na ca⟩
   .exact⟨x,by simp,Q1 nb cb⟩
  .have hx:x∈[a,b]:=hx;rcases ay.mp hx with z|z
   .rw[z];exact⟨a,(mem a).mpr (.inl rfl),Q1 na ca⟩
   .rw[ak.mp z];exact⟨b,(mem b).mpr (.inr rfl),Q1 nb cb⟩
  .rcases ay.mp hx with z|z
   .rw[z];exact na.ok
   .rw[ak.mp z];exact nb.ok
 by_cases lt:Wh a<Wh b
 .exact mk [a,b] (.refl _) (by simpa using lt)
 .have zk:Wh b<Wh a:=Classical.byContradiction λz=>ne (List.le_antisymm (ck.mp z) (ck.mp lt));exact mk [b,a] (List.Perm.swap _ _ _) (by simpa using zk)
structure Nh(h:HP):Prop where
 ne:h.ns≠[]
 n2:∀k∈h.ns,∃a b,k= .inl [a,b]
 mr:∀k∈h.ms,isM k
 fl:∀t∈h.fs,t.2.2≠[]/\t.2.2.length<=20/\∀k∈t.2.2,∃a b,k= .inl [a,b]
 ln:h.ns.length<=20
 lm:h.ms.length<=20
 lf:h.fs.length<=30
theorem Nr.nh{h:HP}(n:Nr h):Nh h:=⟨n.ne,n.n2,n.mr,λt ht=>⟨(n.fl t ht).1,by have:=(n.fl t ht).2.2.1;omega,(n.fl t ht).2.2.2⟩,by have:=n.ln;omega,by have:=n.lm;omega,by have:=n.lf;omega⟩
theorem Nh.ok{h:HP}(n:Nh h):mS h:=⟨n.ne,λk hk=>by obtain⟨a,b,rfl⟩:=n.n2 k hk;exact⟨_,_,rfl⟩,n.mr,λt ht k hk=>by obtain⟨a,b,rfl⟩:=(n.fl t ht).2.2 k hk;exact⟨_,_,rfl⟩⟩
theorem rH{a b m:HP}(na:Nr a)(nb:Nr b)(im:mG (· ∈[a,b]) m)(l1:m.ns.length<=20)(l2:m.ms.length<=20)(l3:m.fs.length<=30)(l4:∀t∈m.fs,t.2.2.length<=20):Nh m:=by
 have each:∀h∈[a,b],Nr h:=λh hh=>by
  rcases ay.mp hh with z|z
  .rw[z];exact na
  .rw[ak.mp z];exact nb
 refine⟨λz=>?_,λk hk=>?_,λk hk=>?_,λt ht=>⟨λz=>?_,l4 t ht,λk hk=>?_⟩,l1,l2,l3⟩
 .obtain⟨x,l,ex⟩:=du na.ne;have:=(im.ns_m x).mpr ⟨a,by simp,by rw[ex];exact ac⟩;rw[z]at this;cases this
 .obtain⟨h,hh,z⟩:=(im.ns_m k).mp hk;exact(each h hh).n2 k z
 .obtain⟨h,hh,z⟩:=(im.ms_m k).mp hk;exact(each h hh).mr k z
 .obtain⟨h,hh,l,hl⟩:=(im.fs_m t.1 t.2.1).mp ⟨t.2.2,ht⟩;obtain⟨k,hk⟩:=List.exists_mem_of_ne_nil _ ((each h hh).fl _ hl).1;have:=((im.fs_l t ht).2 k).mpr ⟨h,hh,l,hl,hk⟩;rw[z]at this;cases this
 .obtain⟨h,hh,l,hl,hk⟩:=((im.fs_l t ht).2 k).mp hk;exact((each h hh).fl _ hl).2.2.2 k hk
theorem xa(k:NK):Nw (nkD k):=by
 cases k with
 |inl l=>exact .tup λd hd=>by obtain⟨s,_,rfl⟩:=ax.mp hd;exact .str s
 |inr p=>
  refine .tup λd hd=>?_;rcases ay.mp hd with z|z
  .rw[z];exact .int _
  .rw[ak.mp z];exact .tup λe he=>by obtain⟨s,_,rfl⟩:=ax.mp he;exact .str s
theorem vC(k:NK):∃ys,nkD k= .tup ys:=by cases k with|inl l=>exact⟨_,rfl⟩|inr p=>exact⟨_,rfl⟩
theorem Xy(l:List NK):Nw (.lst (l.map nkD)):=.lst (λd hd=>by obtain⟨k,_,rfl⟩:=ax.mp hd;exact xa k) λd hd=>by obtain⟨k,_,rfl⟩:=ax.mp hd;exact vC k
theorem xZ(h:HP):Nw (Zs h):=.tup λd hd=>by
 simp only[ay,List.not_mem_nil,or_false]at hd;rcases hd with rfl|rfl|rfl
 .exact Xy _
 .exact Xy _
 .refine .lst (λd hd=>?_) λd hd=>?_
  .obtain⟨t,_,rfl⟩:=ax.mp hd;exact .tup λe he=>by
    simp only[ay,List.not_mem_nil,or_false]at he;rcases he with rfl|rfl|rfl
    .exact .str _
    .exact .str _
    .exact Xy _
  .obtain⟨t,_,rfl⟩:=ax.mp hd;exact⟨_,rfl⟩
theorem zB(hs:List HP):Nw (.lst (hs.map Zs)):=.lst (λd hd=>by obtain⟨h,_,rfl⟩:=ax.mp hd;exact xZ h) λd hd=>by obtain⟨h,_,rfl⟩:=ax.mp hd;exact⟨_,rfl⟩
theorem Xz{l:List NK}(ne:l≠[])(hl:l.length<=30)(h:∀k∈l,(∃a b,k= .inl [a,b])\/isM k):PrL 30 (l.map nkD):=by
 refine⟨λz=>ne (List.map_eq_nil_iff.mp z),by rw[ah];exact hl,λe he=>?_⟩;obtain⟨k,hk,rfl⟩:=ax.mp he;rcases h k hk with⟨a,b,rfl⟩|⟨n,l,rfl⟩
 .exact⟨_,_,rfl⟩
 .exact⟨_,_,rfl⟩
theorem vB{h:HP}(n:Nh h):HpN 30 (Zs h):=by
 refine⟨_,_,_,rfl,Xz n.ne (by have:=n.ln;omega) λk hk=>.inl (n.n2 k hk),?_,by rw[ah];exact n.lf,λe he=>?_⟩
 .by_cases hm:h.ms=[]
  .rw[hm];exact .inl rfl
  .exact .inr (Xz hm (by have:=n.lm;omega) λk hk=>.inr (n.mr k hk))
 .obtain⟨t,ht,rfl⟩:=ax.mp he;exact⟨_,_,_,rfl,Xz (n.fl t ht).1 (by have:=(n.fl t ht).2.1;omega) λk hk=>.inl ((n.fl t ht).2.2 k hk)⟩
theorem Gc{α:Type}{f g:α->D}(h:∀x,Ag (f x) (g x))(l:List α):(l.map f).length=(l.map g).length/\∀(i:Nat) (x y:D),(l.map f)[i]? =aA x->(l.map g)[i]? =aA y->Ag x y:=by refine⟨by rw[ah,ah],λi x y hx hy=>?_⟩;rw[bg]at hx hy;obtain⟨a,e1,rfl⟩:=cq.mp hx;obtain⟨b,e2,rfl⟩:=cq.mp hy;rw[e1]at e2;cases e2;exact h a
theorem Es{xs ys:List D}(h:xs.length=ys.length/\∀(i:Nat) (x y:D),xs[i]? =aA x->ys[i]? =aA y->Ag x y):Ag (.tup xs) (.tup ys):=.tup h.1 h.2
theorem Et{xs ys:List D}(h:xs.length=ys.length/\∀(i:Nat) (x y:D),xs[i]? =aA x->ys[i]? =aA y->Ag x y):Ag (.lst xs) (.lso ys):=.lst h.1 h.2
theorem Nt:([]:List D).length=([]:List D).length/\∀(i:Nat) (x y:D),([]:List D)[i]? =aA x->([]:List D)[i]? =aA y->Ag x y:=⟨rfl,λi x y h=>by simp at h⟩
theorem Q5{a b:D}{xs ys:List D}(h0:Ag a b)(h:xs.length=ys.length/\∀(i:Nat) (x y:D),xs[i]? =aA x->ys[i]? =aA y->Ag x y):(a::xs).length=(b::ys).length/\∀(i:Nat) (x y:D),(a::xs)[i]? =aA x->(b::ys)[i]? =aA y->Ag x y:=by
 refine⟨by rw[bh,bh,h.1],λi x y hx hy=>?_⟩;cases i with
 |zero=>cases hx;cases hy;exact h0
 |succ i=>exact h.2 i x y (by simpa using hx) (by simpa using hy)
theorem IW(k:NK):Ag (nkD k) (nkD k):=by
 cases k with
 |inl l=>exact Es (Gc (λs=>.str s) l)
 |inr p=>exact Es (Q5 (.int _) (Q5 (Es (Gc (λs=>.str s) _)) Nt))
theorem xY(h:HP):Ag (Zs h) (Y9 h):=
 Es (Q5 (Et (Gc IW _)) (Q5 (Et (Gc IW _)) (Q5 (Et (Gc (λt=>Es (Q5 (.str _) (Q5 (.str _) (Q5 (Et (Gc IW _)) Nt)))) _)) Nt)))
theorem BF(hs:List HP):Ag (.lst (hs.map Zs)) (.lso (hs.map Y9)):=Et (Gc xY _)
theorem BE(xs ys:List HP):AgL [.lst (xs.map Zs),.lst (ys.map Zs)] [.lso (xs.map Y9),.lso (ys.map Y9)]:=
 let h:=Q5 (BF xs) (Q5 (BF ys) Nt);⟨h.1,h.2⟩
theorem Ci{xs ys:List HP}(h:∀x∈xs++ys,Nr x)(hl:(xs++ys).length<=2){due:List HP}(p:mL (· ∈xs++ys) due):Az 2 Gen.Jd [.lst (xs.map Zs),.lst (ys.map Zs)] (.lst (due.map Zs)):=by obtain⟨out,po,e⟩:=zC h hl;rw[po.uniq p λ_=>Iff.rfl]at e;exact⟨_,_,BE xs ys,rfl,e,zB due,rfl⟩
theorem Eu{xs ys:List HP}(h:∀x∈xs++ys,Nr x)(hl:(xs++ys).length<=2){due:List HP}(p:mL (· ∈xs++ys) due)(hd:∀x∈due,Nh x){J:List Nat}{δ δ1:Ym}{fd:FD}(e1:fd (Bk J δ)=aA ([.lst (xs.map Zs),.lst (ys.map Zs)],δ1)):NewC J δ Gen.Jd fd 2 30 (due.map Zs):=by obtain⟨out,po,e⟩:=zC h hl;rw[po.uniq p λ_=>Iff.rfl]at e;have ag:=BE xs ys;exact⟨⟨_,δ1,_,_,e1,ag.len,ag.ag,rfl,e,rfl⟩,zB due,λd XB=>by obtain⟨x,hx,rfl⟩:=ax.mp XB;exact vB (hd x hx)⟩
theorem Td{d:D}(hf:d.isFlat=aD)(h:Wm 48 d d=aA aC):T6 d d=aA (.fz (.bl aD)):=by unfold T6;rw[m4 (by rw[hf];simp),h];rfl
theorem zA{d:D}(hf:d.isFlat=aD)(h:Wm 48 d d=aA aC):Mr d d=aA (.fz (.bl aC)):=by unfold Mr;rw[m4 (by rw[hf];simp),h];rfl
theorem rG(xs:List D):(D.tup xs).isFlat=aD:=rfl
theorem B3(xs:List D):(D.lst xs).isFlat=aD:=rfl
theorem X0{a b:HP}(na:Nr a)(nb:Nr b):((a.ns.filter λk=>!U8 b.ns k).map nkD++(a.ms.filter λk=>!U8 b.ms k).map nkD=[])↔¬shr a b:=by
 have mem:∀{l:List NK} {k:NK},(!U8 l k)=aC↔k∈l:=fun{l k}=>by rw[gu,<-Bool.not_eq_true,Rk];exact⟨λh=>Classical.byContradiction h,λh z=>z h⟩
 rw[List.append_eq_nil_iff,List.map_eq_nil_iff,List.map_eq_nil_iff,List.filter_eq_nil_iff,List.filter_eq_nil_iff];constructor
 .rintro⟨h1,h2⟩ ⟨t,ta,tb⟩;rcases ba.mp ta with ta|ta<;> rcases ba.mp tb with tb|tb
  .exact h1 t ta (mem.mpr tb)
  .obtain⟨f,v,rfl⟩:=na.n2 t ta;obtain⟨n,l,e⟩:=nb.mr _ tb;cases e
  .obtain⟨f,v,rfl⟩:=nb.n2 t tb;obtain⟨n,l,e⟩:=na.mr _ ta;cases e
  .exact h2 t ta (mem.mpr tb)
 .intro h;exact⟨λk hk z=>h ⟨k,bz _ hk,bz _ (mem.mp z)⟩,λk hk z=>h ⟨k,bx _ hk,bx _ (mem.mp z)⟩⟩
theorem law_true (ns : List Int) (hn : ns.length <= 63) : Gen.D1 [.lst (ns.map D.int)] = aA (.fz (.bl aC)) := by
  obtain ⟨a, b, na, nb, ed⟩ := uu ns;obtain ⟨m, im, l1, l2, l3, l4, ej⟩ := Xw na nb;have la := na.ln;have lma := na.lm
  -- what both have
  have c1 := Qo (j := 2) (tt := Gen.M8) (c := aA (.fz (Zs b))) (p := λk => !U8 b.ns k) a.ns [] (λk hk zs => by
    have e := BG (k := k) (ks := b.ns) (.inl λx hx => (ay.mp hx).elim (λz => by rw [z]; exact na.okn k hk) (nb.okn x));have b0 : L2.atI [D.lst (b.ns.map nkD), .lst (b.ms.map nkD), .lst (b.fs.map Zx)] 0 = aA (.lst (b.ns.map nkD)) := rfl;unfold Gen.M8 Zs;generalize b.ns.map nkD = NS,b.ms.map nkD = MS,b.fs.map Zx = FS,nkD k = KK at *;simp [b0, e]) (by simp; omega)
  have c3 := Qo (j := 2) (tt := Gen.M9) (c := aA (.fz (Zs b))) (p := λk => !U8 b.ms k) a.ms [] (λk hk zs => by
    have e := BG (k := k) (ks := b.ms) (.inr λx hx => (ay.mp hx).elim (λz => by rw [z]; exact na.mr k hk) (nb.mr x));have b1 : L2.atI [D.lst (b.ns.map nkD), .lst (b.ms.map nkD), .lst (b.fs.map Zx)] 1 = aA (.lst (b.ms.map nkD)) := rfl;unfold Gen.M9 Zs;generalize b.ns.map nkD = NS,b.ms.map nkD = MS,b.fs.map Zx = FS,nkD k = KK at *;simp [b1, e]) (by simp; omega)
  rw [d3] at c1 c3;have f1 := f8 (λk => !U8 b.ns k) a.ns;have f2 := f8 (λk => !U8 b.ms k) a.ms;have zc : ((a.ns.filter λk => !U8 b.ns k).map nkD).length + ((a.ms.filter λk => !U8 b.ms k).map nkD).length <= PySem.sizeLine := Z4 (by rw [ah, ah]; omega);have cs := X0 na nb;have a0 : L2.atI [D.lst (a.ns.map nkD), .lst (a.ms.map nkD), .lst (a.fs.map Zx)] 0 = aA (.lst (a.ns.map nkD)) := rfl;have a1 : L2.atI [D.lst (a.ns.map nkD), .lst (a.ms.map nkD), .lst (a.fs.map Zx)] 1 = aA (.lst (a.ms.map nkD)) := rfl;have z1 : 1 <= PySem.sizeLine := Z4 (by omega);have z2 : 2 <= PySem.sizeLine := Z4 (by omega);have en := BS ((a.ns.filter λk => !U8 b.ns k).map nkD ++ (a.ms.filter λk => !U8 b.ms k).map nkD)
  -- the first part
  have h1 : Gm (Y7 2 (Zw (Zh 1) (Zw (Zh 2) (Wb)))) (Y2 1 Gen.Y8 (Ze (Zb 0) (Zo))) [aA (.fz (.lst (ns.map D.int))), aB, aB, aB, aB, aB, aB, aB, aB, aB, aB, aB] = aA (.nx [aA (.fz (.lst (ns.map D.int))), aA (.fz (Zs a)), aA (.fz (Zs b)), aB, aB, aB, aB, aB, aB, aB, aB, aB]) := by generalize ns.map D.int = NS at *;generalize Zs a = HA,Zs b = HB at *;simp [ed]
  have h2 : Yu 3 (Zj Qu (Wf [.own, .cap 2, .acc] 2 (Jc (Zj Qe (Zb 1) (Zg (.int 0)))) (Zh 0) (Gen.M8) Gen.Nk) (Wf [.own, .cap 2, .acc] 2 (Jc (Zj Qe (Zb 1) (Zg (.int 1)))) (Zh 0) (Gen.M9) Gen.Nl)) [aA (.fz (.lst (ns.map D.int))), aA (.fz (Zs a)), aA (.fz (Zs b)), aB, aB, aB, aB, aB, aB, aB, aB, aB] = aA (.nx [aA (.fz (.lst (ns.map D.int))), aA (.fz (Zs a)), aA (.fz (Zs b)), aA (.ol ((a.ns.filter λk => !U8 b.ns k).map nkD ++ (a.ms.filter λk => !U8 b.ms k).map nkD)), aB, aB, aB, aB, aB, aB, aB, aB]) := by unfold Gen.Nk Gen.Nl;rw [show Zs a = .tup [.lst (a.ns.map nkD), .lst (a.ms.map nkD), .lst (a.fs.map Zx)] from rfl];generalize (a.ns.filter λk => !U8 b.ns k).map nkD = F1,(a.ms.filter λk => !U8 b.ms k).map nkD = F2,ns.map D.int = NS,Zs b = HB,a.ns.map nkD = NA,a.ms.map nkD = MA,a.fs.map Zx = FA at *;simp [a0, a1, c1, c3, zc, -Yw]
  generalize hC : ((a.ns.filter λk => !U8 b.ns k).map nkD ++ (a.ms.filter λk => !U8 b.ms k).map nkD) = C at h2 en cs
  -- what is due
  obtain ⟨due, pd, hd, dl, h4⟩ : ∃ due : List HP, mL (· ∈ [a, b]) due /\ (∀ x ∈ due, Nh x) /\ due.length <= 2 /\ ∀ A : Option SV, Vo (Yf (Zj Mr (Zb 3) (Yn (Zd)))) (Yu 4 (Yi We (Ze (Yn (Za (Zb 1) (Za (Zb 2) (Zd)))) Zo))) (Jo) [A, aA (.fz (Zs a)), aA (.fz (Zs b)), aA (.ol C), aA (.ol [Zs m]), aB, aB, aB, aB, aB, aB, aB] = aA (.nx [A, aA (.fz (Zs a)), aA (.fz (Zs b)), aA (.ol C), aA (.ol (due.map Zs)), aB, aB, aB, aB, aB, aB, aB]) := by
    by_cases s : shr a b
    · refine ⟨[m], S2 s im, λx hx => by rw [ak.mp hx]; exact rH na nb im l1 l2 l3 l4, by simp, λA => ?_⟩
      have hc : ¬ C = [] := λz => cs.mp z s;rw [show ([m] : List HP).map Zs = [Zs m] from rfl];generalize Zs a = HA,Zs b = HB,Zs m = HM at *;simp [hc]
    · obtain ⟨out, po, so, lo, mo⟩ := Xx na nb s
      refine ⟨out, po, λx hx => by rcases mo x hx with z | z <;> rw [z]; exact na.nh; exact nb.nh, by omega, λA => ?_⟩;have hc : C = [] := cs.mpr s;subst hc;generalize out.map Zs = OU,Zs a = HA,Zs b = HB,Zs m = HM at *;simp [so, z2]
  have GW : ∀ x ∈ due, mS x := λx hx => (hd x hx).ok;have qd := Td (B3 _) (Ra 40 due GW);have qd' := zA (B3 _) (Ra 40 due GW);have pa := S1 na;have pb := S1 nb;have qa := Td (B3 _) (Ra 40 [a] λx hx => by rw [ak.mp hx]; exact na.ok);have qb := Td (B3 _) (Ra 40 [b] λx hx => by rw [ak.mp hx]; exact nb.ok);have qt : T6 (.tup [Zs a, Zs b]) (.tup [Zs a, Zs b]) = aA (.fz (.bl aD)) := Td (rG _) (Ng 47 _ λx hx => by
    simp only [ay, List.not_mem_nil, or_false] at hx;rcases hx with rfl | rfl
    · exact Xo 40 a na.ok
    · exact Xo 40 b nb.ok)
  have WY : ∀ x ∈ [a] ++ [b], Nr x := λx hx => by
    rcases ba.mp hx with z | z
    · rw [ak.mp z]; exact na
    · rw [ak.mp z]; exact nb
  have GU : ∀ x ∈ [a] ++ [], Nr x := λx hx => by rw [gq] at hx; rw [ak.mp hx]; exact na
  have GR : ∀ x ∈ [] ++ [b], Nr x := λx hx => by rw [d3] at hx; rw [ak.mp hx]; exact nb
  -- the UD that changes what was told
  have hw : R3 [5, 6] 7 8 9 10 11 2 Gen.Jd (Za (Yn (Za (Zb 5) (Zd))) (Za (Yn (Za (Zb 6) (Zd))) (Zd))) (Za (Yn (Za (Zb 5) (Zd))) (Za (Yn (Zd)) (Zd))) (Za (Yn (Zd)) (Za (Yn (Za (Zb 6) (Zd))) (Zd))) Gen.Nm
      [aA (.fz (.lst (ns.map D.int))), aA (.fz (Zs a)), aA (.fz (Zs b)), aA (.ol C), aA (.ol (due.map Zs)), aA (.fz (Zs a)), aA (.fz (Zs b)), aB, aB, aB, aB, aB] = aA (.nx [aA (.fz (.lst (ns.map D.int))), aA (.fz (Zs a)), aA (.fz (Zs b)), aA (.ol C), aA (.ol (due.map Zs)), aA (.fz (Zs a)), aA (.fz (Zs b)), aB, aB, aB, aB, aB]) := by
    refine pU (m := 30) (hs1 := due.map Zs) (hs2 := [a].map Zs) (hs3 := [b].map Zs) ⟨Eu WY (by simp) pd hd (δ1 := [aB, aB, aB, aB, aB, aA (.fz (Zs a)), aA (.fz (Zs b)), aB, aB, aB, aB, aB]) ?_, Eu GU (by simp) pa (λx hx => by rw [ak.mp hx]; exact na.nh) (δ1 := [aB, aB, aB, aB, aB, aA (.fz (Zs a)), aA (.fz (Zs b)), aB, aB, aB, aB, aB]) ?_, Eu GR (by simp) pb (λx hx => by rw [ak.mp hx]; exact nb.nh) (δ1 := [aB, aB, aB, aB, aB, aA (.fz (Zs a)), aA (.fz (Zs b)), aB, aB, aB, aB, aB]) ?_, ?_, ?_, ?_, by decide, by simp, by simp, by simp, by simp, by simp, by decide, by decide, by decide⟩
    · rw [show ([a] : List HP).map Zs = [Zs a] from rfl, show ([b] : List HP).map Zs = [Zs b] from rfl]
      generalize Zs a = HA,Zs b = HB;simp [Bk, z1]
    · rw [show ([a] : List HP).map Zs = [Zs a] from rfl, show ([] : List HP).map Zs = [] from rfl]
      generalize Zs a = HA,Zs b = HB;simp [Bk, z1]
    · rw [show ([b] : List HP).map Zs = [Zs b] from rfl, show ([] : List HP).map Zs = [] from rfl]
      generalize Zs a = HA,Zs b = HB;simp [Bk, z1]
    · intro q hq sv e
      simp only [ay, List.not_mem_nil, or_false] at hq;rcases hq with rfl | rfl
      · cases e; exact ⟨_, rfl⟩
      · cases e; exact ⟨_, rfl⟩
    · refine ⟨[aA (.fz (.lst (ns.map D.int))), aA (.fz (Zs a)), aA (.fz (Zs b)), aA (.ol C), aA (.ol (due.map Zs)), aA (.fz (Zs a)), aA (.fz (Zs b)), aA (.fz (.lst (due.map Zs))), aB, aB, aB, aB], ?_⟩
      unfold Gen.Nm;generalize due.map Zs = DU,ns.map D.int = NS,Zs a = HA,Zs b = HB at *;simp [qd, qt, ed, z2, -T6]
    · rw [ah, ah, ah]
      have : (due.length + [a].length + [b].length) * (30 + 1) <= 4 * 31 := Nat.mul_le_mul_right _ (by simp; omega);exact Yk (by omega)
  have k1 := Ce (fd := Za (Yn (Za (Zb 5) (Zd))) (Za (Yn (Zd)) (Zd))) (δ := [aA (.fz (.lst (ns.map D.int))), aA (.fz (Zs a)), aA (.fz (Zs b)), aA (.ol C), aA (.ol (due.map Zs)), aA (.fz (Zs a)), aA (.fz (Zs b)), aB, aB, aB, aB, aB]) (δ1 := [aA (.fz (.lst (ns.map D.int))), aA (.fz (Zs a)), aA (.fz (Zs b)), aA (.ol C), aA (.ol (due.map Zs)), aA (.fz (Zs a)), aA (.fz (Zs b)), aB, aB, aB, aB, aB]) (by
    rw [show ([a] : List HP).map Zs = [Zs a] from rfl, show ([] : List HP).map Zs = [] from rfl];generalize Zs a = HA,Zs b = HB;simp [z1]) (Ci GU (by simp) pa)
  have k2 := Ce (fd := Za (Yn (Zd)) (Za (Yn (Za (Zb 6) (Zd))) (Zd))) (δ := [aA (.fz (.lst (ns.map D.int))), aA (.fz (Zs a)), aA (.fz (Zs b)), aA (.ol C), aA (.ol (due.map Zs)), aA (.fz (Zs a)), aA (.fz (Zs b)), aB, aB, aB, aB, aB]) (δ1 := [aA (.fz (.lst (ns.map D.int))), aA (.fz (Zs a)), aA (.fz (Zs b)), aA (.ol C), aA (.ol (due.map Zs)), aA (.fz (Zs a)), aA (.fz (Zs b)), aB, aB, aB, aB, aB]) (by
    rw [show ([b] : List HP).map Zs = [Zs b] from rfl, show ([] : List HP).map Zs = [] from rfl];generalize Zs a = HA,Zs b = HB;simp [z1]) (Ci GR (by simp) pb)
  have MX : ∀ x ∈ [b] ++ [a], Nr x := λx hx => by
    rcases ba.mp hx with z | z
    · rw [ak.mp z]; exact nb
    · rw [ak.mp z]; exact na
  have zb : mL (· ∈ [b] ++ [a]) due := by have e : (· ∈ [b] ++ [a]) = ((· ∈ [a, b]) : HP -> Prop) := funext λx => propext (by simp [or_comm]);rw [e]; exact pd
  have k3 := Ce (fd := Za (Yn (Za (Zb 6) (Zd))) (Za (Yn (Za (Zb 5) (Zd))) (Zd))) (δ := [aA (.fz (.lst (ns.map D.int))), aA (.fz (Zs a)), aA (.fz (Zs b)), aA (.ol C), aA (.ol (due.map Zs)), aA (.fz (Zs a)), aA (.fz (Zs b)), aB, aB, aB, aB, aB]) (δ1 := [aA (.fz (.lst (ns.map D.int))), aA (.fz (Zs a)), aA (.fz (Zs b)), aA (.ol C), aA (.ol (due.map Zs)), aA (.fz (Zs a)), aA (.fz (Zs b)), aB, aB, aB, aB, aB]) (by
    rw [show ([a] : List HP).map Zs = [Zs a] from rfl, show ([b] : List HP).map Zs = [Zs b] from rfl];generalize Zs a = HA,Zs b = HB;simp [z1]) (Ci MX (by simp) zb)
  have p0 : mL (· ∈ ([] : List HP) ++ []) [] := ⟨.nil, (λ_ h => nomatch h), (λ_ h => nomatch h)⟩
  have k4 := Ce (fd := Za (Yn (Zd)) (Za (Yn (Zd)) (Zd))) (δ := [aA (.fz (.lst (ns.map D.int))), aA (.fz (Zs a)), aA (.fz (Zs b)), aA (.ol C), aA (.ol (due.map Zs)), aA (.fz (Zs a)), aA (.fz (Zs b)), aB, aB, aB, aB, aB]) (δ1 := [aA (.fz (.lst (ns.map D.int))), aA (.fz (Zs a)), aA (.fz (Zs b)), aA (.ol C), aA (.ol (due.map Zs)), aA (.fz (Zs a)), aA (.fz (Zs b)), aB, aB, aB, aB, aB]) (by
    rw [show ([] : List HP).map Zs = [] from rfl];generalize Zs a = HA,Zs b = HB;simp) (Ci (xs := []) (ys := []) (λ_ h => nomatch h) (by simp) p0)
  have q0 : Mr (.lst []) (.lst []) = aA (.fz (.bl aC)) := zA (B3 _) rfl;rw [show ([a] : List HP).map Zs = [Zs a] from rfl] at k1 qa;rw [show ([b] : List HP).map Zs = [Zs b] from rfl] at k2 qb;rw [show ([] : List HP).map Zs = [] from rfl] at k4;unfold Gen.D1;refine Nn ?_;unfold Gen.IY;show Z9 _ _ [aA (.fz (.lst (ns.map D.int))), aB, aB, aB, aB, aB, aB, aB, aB, aB, aB, aB] = _;rw [Wc h1, Wc h2, Wc (δ' := [aA (.fz (.lst (ns.map D.int))), aA (.fz (Zs a)), aA (.fz (Zs b)), aA (.ol C), aA (.ol [Zs m]), aB, aB, aB, aB, aB, aB, aB]) (by
    rw [show Zs m = .tup [.lst (m.ns.map nkD), .lst (m.ms.map nkD), .lst (m.fs.map Zx)] from rfl] at *;generalize Zs a = HA,Zs b = HB at *;simp [ej, z1]), Wc (h4 _), Wc (δ' := [aA (.fz (.lst (ns.map D.int))), aA (.fz (Zs a)), aA (.fz (Zs b)), aA (.ol C), aA (.ol (due.map Zs)), aA (.fz (Zs a)), aA (.fz (Zs b)), aB, aB, aB, aB, aB]) (by
    generalize due.map Zs = DU,ns.map D.int = NS,Zs a = HA,Zs b = HB at *;simp [ed]), Wc hw]
  generalize due.map Zs = DU,ns.map D.int = NS,Zs a = HA,Zs b = HB at *;simp [k1, k2, k3, k4, qa, qb, qd', qt, q0, ed, z1, z2, -T6, -Mr]
end My
namespace PySem.W.Fast
def tw1228269835392311845:=()
def tw5755108792151399087:=()
def tw6551450751231459576:=()
def tw4557156106110640446:=()
def tw3366145304606328523:=()
def tw14832809118469133817:=()
def tw5070512588733468766:=()
def tw12831517162466494612:=()
def tw10233827384299521918:=()
def tw14701178217460668236:=()
def tw14562707386849674187:=()
def tw17223800815870698774:=()
def tw6153563839111365131:=()
def tw17498973897826188437:=()
def tw5015376084896641776:=()
def tw2843618208270680551:=()
def tw443737641506397021:=()
def tw6111914716157435333:=()
def tw10409702419217745583:=()
def tw17820048368817616623:=()
def tw6273601768182668952:=()
def tw10881510396438313163:=()
def tw16716425197393427688:=()
def tw5009393855220558022:=()
def tw16270978499984242059:=()
def tw1831058215112727637:=()
def tw11515670879625944185:=()
def tw8737804154312310099:=()
def tw11532075093695737230:=()
def tw7966410466604024901:=()
def tw13302871967924654484:=()
def tw12848522376157507945:=()
def tw14355270672910822132:=()
def tw18061822163111702628:=()
def tw11064194224760737472:=()
def tw4672179482200225372:=()
def tw7729634140360814715:=()
def tw16649347771473455684:=()
def tw2245129861961492776:=()
def tw15100876060904372753:=()
def tw13747911153871980426:=()
def tw5339739497339972229:=()
def tw5172501938805072348:=()
def tw6254853971994411167:=()
def tw15074461149073634045:=()
def tw1771138791111426401:=()
def tw14709507003757352284:=()
def tw1508499314003356732:=()
def tw9867967808288308653:=()
def tw1790033572165408113:=()
end PySem.W.Fast
open PySem.W
set_option maxRecDepth 100000 in
set_option maxHeartbeats 0 in
theorem PySem.Challenge.cw_citeward_k37_two_heaps_joined_holds : PySem.Challenge.rw_citeward_k37_two_heaps_joined.Holds := by
  w_on; o_law; k_head; (case hw => w_witness2)
  k_fill
  refine L2.nQ (l := PySem.Challenge.rw_citeward_k37_two_heaps_joined) rfl rfl (fun w h Y => PySem.W.kIn_of Y) ⟨rfl, by decide, by decide⟩ My.law_true fun w mg fa h X G m => Gen.nu ?_ m
  constructor <;> first | exact PySem.W.mg_of X G | exact L2.n5 (by first | kernel_rfl | k_is) | exact PySem.W.mg_none_of X G (by k_is) | exact ⟨_, _, by k_is, L2.nv (by k_is) (by k_is) (by k_is)⟩ | exact ⟨_, by k_is⟩
