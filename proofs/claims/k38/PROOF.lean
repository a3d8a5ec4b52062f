import PyProof.Rows.All
import Wide.All
import OpenK.AllK
import Wide.FinOn
import Lean
import PyProof.EqAt
import PyProof.EqKinds
import PyProof.TupleCall
import PyProof.NeKinds
import PyProof.EnumMake
import PyProof.ConsumeWalk
import PyProof.StrWalks
import PyProof.WalksMore
import PyProof.StrLawsNeg
import KE.KDictList
import KE.KLam
import KE.KMinKey
import KE.KSortTup
import KE.KUnpack
import PySem.Challenge.RW_citeward_k38_whole_a_books_pool
set_option Elab.async false
set_option linter.all false
set_option genSizeOf false
set_option genSizeOfSpec false
set_option maxRecDepth 100000
set_option maxHeartbeats 4000000
open Option renaming bind_eq_some_iff->aa,bind_some->ck,map_eq_some_iff->c7,some->dk
open PySem renaming wpAny_bind->ad,wpAny_pure->ah,Value->am,Shared->ao,Addr->aq,wpAny->bc,starEach->bd,sizeLine->bg,model->b4,Program->b5,mainGlobals->b8,FuncData->cr,Expr->c5,World->da,Around->dg,wpAny_call_entry->dj,wpAny_newObj_type->dw,wpAny_loadPart'->dy,wpAny_callSpecial?_slot->d3,Heap->eh,sizeLine_eq->f6,cLine->f7,codeAny_builtin->gw,backTo->gx,eval->gy,compareOp->gz,SetTable->ib
open PySem.W renaming Frag->af,keepIn->bn,nsIn->cq,mg_of->dz,mg_none_of->fg
open List renaming mem_cons_self->ag,length_map->aj,mem_cons_of_mem->ar,mem_singleton->au,mem_map->aw,getElem?_eq_getElem->ax,getElem?_eq_some_iff->ay,length_append->az,map_cons->a7,getElem?_map->a9,length_cons->bf,getD_eq_getElem?_getD->bi,mem_append->bj,map_map->bo,mem_cons->bu,size_toArray->bv,mem_append_right->bx,map_append->b7,mem_of_getElem?->b9,mem_append_left->cf,pairwise_map->cu,nodup_nil->cx,mem_range->cz,range->c8,nodup_append->c9,append_assoc->de,mem_map_of_mem->dh,not_lt->dm,getElem?_append_left->dn,nil_append->dq,getElem?_eq_none->d5,nodup_cons->d7,getElem?_set_self->ff,length_singleton->fq,cons_lt_cons_iff->fu,map_congr_left->f8,getElem_of_mem->f9,lt_irrefl->gc,getElem?_set_ne->gd,getElem?_append_right->gm
open PySem.Heap renaming get?_push_of_some->av,get?_push_size->ba,lt_size->bh,get?_update_self->g9,SameBut->ic
open Nat renaming le_refl->a6,ne_of_lt->cj,lt_of_lt_of_le->di,le_trans->du,lt_or_ge->d4,not_lt_zero->d6,zero_le->gb,lt_of_le_of_lt->gv
open Array renaming length_toList->a8,getElem?_toList->c6,getElem?_eq_some_iff->gn
open Bool renaming false_ne_true->bp,false_eq_true->bq,not_true->gh
open PySem.Value renaming ref->bz,none->cm
open List.Nodup renaming length_le_of_subset->b6
open PySem.PassesOwn renaming never->ci
open Sum renaming inr->df,inl->gq
open PySem.Builtin.Str renaming occurrences->dr
open PySem.Obj renaming mapSeq->dv
open PyProof.Rows renaming seqObj->d8
open Int renaming emod_lt_of_pos->fj,emod_nonneg->gk,toNat_natCast->gp
open PySem.Around renaming under_plainId->gg
open PySem.Str renaming ofString->gr
open PySem.F renaming slot_dict_keyiterator_next->gu
open PySem.Paired renaming length->g6
open PySem.Heap.SameBut renaming update->g7
open List.Pairwise renaming and_mem->g8
local notation"А"=>List
local notation"Б"=>Option
local notation"В"=>Prop
local notation"Г"=>Nat
local notation"Д"=>if_neg
local notation"Е"=>if_pos
local notation"Ж"=>decide_eq_false
local macro"З":term=>`(by rfl)
local macro"И":term=>`(by omega)
local macro"Й":term=>`(by decide)
local macro"К":term=>`(by simp)
local macro"E"t:term:tactic=>`(tactic|exact $t)
local macro"R"t:term:tactic=>`(tactic|refine $t)
local macro"O"p:Lean.Parser.Tactic.rcasesPatMed":="t:term:tactic=>`(tactic|obtain $p := $t)
local macro"W":tactic=>`(tactic|omega)
local macro"C"x:ident:tactic=>`(tactic|cases $x:ident)
local macro"Л"d:Lean.Parser.Command.declId s:Lean.Parser.Command.declSig v:Lean.Parser.Command.declVal:command=>`(theorem $d:declId $s:declSig $v:declVal)
local macro"М"d:Lean.Parser.Command.declId s:Lean.Parser.Command.optDeclSig v:Lean.Parser.Command.declVal:command=>`(noncomputable def $d:declId $s:optDeclSig $v:declVal)
local macro"Н"d:Lean.Parser.Command.declId s:Lean.Parser.Command.optDeclSig v:Lean.Parser.Command.declVal:command=>`(@[simp] noncomputable def $d:declId $s:optDeclSig $v:declVal)
open Option renaming some->aA,none->aB
open Bool renaming true->aC,false->aD
local macro"G"t:term:51"="x:ident:tactic=>`(tactic|generalize $t=$x at *)
local macro"а"d:Lean.Parser.Command.declId s:Lean.Parser.Command.optDeclSig v:Lean.Parser.Command.declVal:command=>`(noncomputable abbrev $d:declId $s:optDeclSig $v:declVal)
local macro"V"d:Lean.Parser.Term.letDecl:tactic=>`(tactic|have $d:letDecl)
local macro"T"t:term:tactic=>`(tactic|show $t)
set_option bootstrap.genMatcherCode false
namespace L2
open PySem PySem.Spec PyProof.Rows
аKey:=Sum Int Str
МG9:Key->am->Bool
 | .inl k,v=>Value.isInt k v
 | .inr x,v=>Value.isStrOf x v
МZwe(w:da):Key->Int
 | .inl k=>hashInt k
 | .inr x=>hashStr w x
ЛZ5:∀{k:Key} {v:am},G9 k v=aC->(∃i t,k=gq i/\v=Value.int i t)\/(∃x t,k=df x/\v=Value.str x t)
 | .inl i,v,h=>by O⟨t,e⟩:=Value.isInt_shape (k:=i) (v:=v) h;E .inl ⟨i,t,rfl,e⟩
 | .inr x,v,h=>by O⟨t,e⟩:=Value.isStrOf_shape (x:=x) (v:=v) h;E .inr ⟨x,t,rfl,e⟩
ЛZcj(i:Int)(t:Tok):G9 (.inl i) (.int i t)=aC:=by simp[G9,Value.isInt]
ЛZck(x:Str)(t:Tok):G9 (.inr x) (.str x t)=aC:=by simp[G9,Value.isStrOf]
ЛZno(a b:Int):decide ((gq a:Key)=gq b)=(a==b):=by
 by_cases e:a=b
 ·subst e;simp
 ·V h:¬(gq a:Key)=gq b:=λq=>e (gq.inj q);rw[Ж h];E(beq_eq_false_iff_ne.mpr e).symm
ЛZnp(a b:Str):decide ((df a:Key)=df b)=decide (a=b):=by
 by_cases e:a=b
 ·subst e;simp
 ·V h:¬(df a:Key)=df b:=λq=>e (df.inj q);rw[Ж h,Ж e]
ЛZnq(a:Int)(b:Str):decide ((gq a:Key)=df b)=aD:=Ж (λq=>nomatch q)
ЛZnr(a:Str)(b:Int):decide ((df a:Key)=gq b)=aD:=Ж (λq=>nomatch q)
МZp(prog:b5)(w:da):PySem.KeyKind prog w Key where
 is:=G9
 hash:=Zwe w
 inj:=λv a b ha hb=>by
  rcases Z5 ha with⟨i,t,rfl,rfl⟩|⟨x,t,rfl,rfl⟩
  ·rcases Z5 hb with⟨j,u,rfl,e⟩|⟨y,u,rfl,e⟩
   ·injection e with e1 _;rw[e1]
   ·E nomatch e
  ·rcases Z5 hb with⟨j,u,rfl,e⟩|⟨y,u,rfl,e⟩
   ·E nomatch e
   ·injection e with e1 _;rw[e1]
 byValue:=λk v h=>by rcases Z5 h with⟨i,t,rfl,rfl⟩|⟨x,t,rfl,rfl⟩<;> rfl
 pyHash:=λhv h=>by
  rcases Z5 hv with⟨i,t,rfl,rfl⟩|⟨x,t,rfl,rfl⟩
  ·E wpAny_pyHash_int h
  ·E wpAny_pyHash_str h
 eqBool:=λhu hv h=>by
  rcases Z5 hu with⟨i,t,rfl,rfl⟩|⟨x,t,rfl,rfl⟩
  ·rcases Z5 hv with⟨j,u,rfl,rfl⟩|⟨y,u,rfl,rfl⟩
   ·rw[Zno]at h;E wpAny_eqBool_int h
   ·rw[Znq]at h;E SeqAt.EqAt.int_str i t y u _ _ _ _ h
  ·rcases Z5 hv with⟨j,u,rfl,rfl⟩|⟨y,u,rfl,rfl⟩
   ·rw[Znr]at h;E SeqAt.EqAt.str_int x t j u _ _ _ _ h
   ·rw[Znp]at h;E wpAny_eqBool_str h
 «strs»:=λk x t v h=>by
  rcases Z5 h with⟨i,u,rfl,e⟩|⟨y,u,rfl,e⟩
  ·E nomatch e
  ·injection e with e1 _;subst e1;cases v<;> rfl
ЛZns(prog:b5)(w:da)(k:Key)(v:am):(Zp prog w).is k v=G9 k v:=rfl
ЛS0(prog:b5)(w:da)(i:Int)(t:Tok):(Zp prog w).is (.inl i) (.int i t)=aC:=Zcj i t
ЛS1(prog:b5)(w:da)(x:Str)(t:Tok):(Zp prog w).is (.inr x) (.str x t)=aC:=Zck x t
аZl:=Sum (А Str) (Int×А Str)
МWy(l:А Str):А Key:=l.map df
ЛGx{a b:А Str}(h:Wy a=Wy b):a=b:=by
 induction a generalizing b with
 |nil=>cases b with
  |nil=>rfl
  |cons y b=>simp[Wy]at h
 |cons x a ih=>cases b with
  |nil=>simp[Wy]at h
  |cons y b=>simp only[Wy,a7,List.cons.injEq]at h;rw[df.inj h.1,ih h.2]
ЛZai(a b:А Str):decide (Wy a=Wy b)=decide (a=b):=by
 by_cases e:a=b
 ·rw[e];simp
 ·rw[Ж e,Ж λz=>e (Gx z)]
МO9(prog:b5)(w:da)(h:eh):Zl->aq->В
 | .inl l,a=>IsTupleKey (Zp prog w) h (Wy l) a
 | .inr (n,l),a=>∃o items m t b,h.get? a=aA o/\o.cls= .type "tuple"/\o.data= .seq items m/\items.toList=[.int n t,.ref b]/\IsTupleKey (Zp prog w) h (Wy l) b
МYh(prog:b5)(w:da):Zl->Int
 | .inl l=>tupleKeyHash (Zp prog w) (Wy l)
 | .inr (n,l)=>reduceHash (Builtin.Tuple.tupleHashOf [hashInt n,tupleKeyHash (Zp prog w) (Wy l)])
МEe:Zl->Г
 | .inl l=>(Wy l).length+1
 | .inr (_,l)=>1+((Wy l).length+1)+1
section
variable{prog:b5}{w:da}{A:dg}{E:am->ao->В}{s:ao}
ЛO9.typeIs{k:Zl}{a:aq}(x:O9 prog w s.heap k a):s.TypeIs (.ref a) "tuple":=by
 cases k with
 |inl l=>E IsTupleKey.typeIs (show IsTupleKey (Zp prog w) s.heap (Wy l) a from x)
 |inr p=>O⟨o,_,_,_,_,ho,hc,_⟩:=x;E⟨o,ho,hc⟩
ЛEf{l:А Str}{n:Int}{t:Tok}{vs:А am}(h:ItemsAre (Zp prog w) (Wy l) (.int n t::vs)):False:=by
 cases l with
 |nil=>C h
 |cons x l=>
  cases h with
  |cons h1 _=>
   rcases Z5 (k:=.inr x) (v:=.int n t) h1 with⟨_,_,e,_⟩|⟨_,_,_,e⟩
   ·C e
   ·C e
ЛO9.inj{h:eh}{a:aq}{x y:Zl}(hx:O9 prog w h x a)(hy:O9 prog w h y a):x=y:=by
 V mix:∀{l:А Str} {n:Int} {l2:А Str},O9 prog w h (.inl l) a->O9 prog w h (.inr (n,l2)) a->False:=fun{l n l2} h1 h2=>by O⟨o,items,m,ho,_,hd,hi⟩:=h1;O⟨o',items',m',t,b,ho',_,hd',e,_⟩:=h2;obtain rfl:o=o':=dk.inj (ho.symm.trans ho');rw[hd]at hd';injection hd' with z _;subst z;rw[e]at hi;E Ef hi
 cases x with
 |inl l=>cases y with
  |inl l2=>rw[Gx (IsTupleKey.inj (show IsTupleKey (Zp prog w) h (Wy l) a from hx) hy)]
  |inr p=>E(mix hx hy).elim
 |inr p=>cases y with
  |inl l2=>E(mix hy hx).elim
  |inr q=>O⟨n,l⟩:=p;O⟨n2,l2⟩:=q;O⟨o,items,m,t,b,ho,_,hd,e,hb⟩:=hx;O⟨o',items',m',t',b',ho',_,hd',e',hb'⟩:=hy;obtain rfl:o=o':=dk.inj (ho.symm.trans ho');rw[hd]at hd';injection hd' with z _;subst z;rw[e]at e';injection e' with e1 e2;injection e1 with e1 _;injection e2 with e2 _;injection e2 with e2;subst e1 e2;rw[Gx (hb.inj hb')]
ЛO9.keeps{h h':eh}{k:Zl}{a d:aq}{o:Obj}{es ep} (x:O9 prog w h k a) (ho:h.get? d=aA o) (hd:o.data= .dict es ep) (hs:ic d h h'):O9 prog w h' k a:=by
 cases k with
 |inl l=>E IsTupleKey.keeps (show IsTupleKey (Zp prog w) h (Wy l) a from x) ho hd hs
 |inr p=>
  O⟨o',items,m,t,b,ho',hc,hd',e,hb⟩:=x;V hne:a≠d:=by rintro rfl;obtain rfl:o'=o:=dk.inj (ho'.symm.trans ho);rw[hd]at hd';E nomatch hd'
  E⟨o',items,m,t,b,(hs.2 a hne).trans ho',hc,hd',e,hb.keeps ho hd hs⟩
ЛO9.mono{h h':eh}{k:Zl}{a:aq}(x:O9 prog w h k a)(hk:∀b o,h.get? b=aA o->h'.get? b=aA o):O9 prog w h' k a:=by
 cases k with
 |inl l=>O⟨o,items,m,ho,r⟩:=x;E⟨o,items,m,hk _ _ ho,r⟩
 |inr p=>O⟨o,items,m,t,b,ho,hc,hd,e,⟨o2,i2,m2,ho2,r2⟩⟩:=x;E⟨o,items,m,t,b,hk _ _ ho,hc,hd,e,o2,i2,m2,hk _ _ ho2,r2⟩
ЛZei{k:Zl}{a:aq}{Q:Int->ao->В}(hu:A.units+1<f7)(hk:O9 prog w s.heap k a)(h:Q (Yh prog w k) {s with toks:=s.toks+Ee k}):bc (b4 prog w) A (pyHash (.ref a)) Q E s:=by
 cases k with
 |inl l=>E wpAny_pyHash_tuple (knd:=Zp prog w) И hk h
 |inr p=>
  V hT:=hk.typeIs;O⟨n,l⟩:=p;O⟨o,items,m,t,b,ho,_,hd,hi,hb⟩:=hk;unfold pyHash
  first|unfold pyHashByItsType|skip
  first|R ad (wpAny_cRoomFor_or (.inr И) ?_)|skip
  R ad (wpAny_specialOf hT F.slot_tuple_hash.lookup ?_);T bc _ _ (if(aA (Value.builtin "tuple.__hash__")==aA cm)=aC then _ else _) Q E s;rw[Д (by rw[beq_builtin_none];E bp)];R ad (wpAny_specialOf hT F.slot_tuple_hash.lookup ?_);T bc _ _ (callSpecialIfBoundUnlessNone? (.ref a) "__hash__" _ >>=_) Q E s;R ad (wpAny_callSpecialIfBoundUnlessNone?_slot hT F.slot_tuple_hash (dj F.slot_tuple_hash hT F.entry_tuple_hash ?_ (F.args_tuple_hash_1 _)));T bc _ _ (Builtin.Tuple.tupleItemsOf (.ref a) >>=_) _ _ s;R ad (wpAny_tupleItemsOf ho hd ?_);R ad ?_;rw[<-Array.forIn_toList,hi];simp only[List.forIn_cons,List.forIn_nil];V hu1:A.in1.units<cLine:=hu;R ad (ad (wpAny_pyHash_int ?_));R ah ?_;dsimp only;R ad (ad (wpAny_pyHash_tuple (knd:=Zp prog w) (s:={s with toks:=s.toks+1}) hu1 hb ?_));R ah ?_;R ah ?_;generalize hg:tupleKeyHash (Zp prog w) (Wy l)=g at h⊢;show bc _ _ (retInt (Builtin.Tuple.tupleHashOf [hashInt n,g])) _ _ _;R wpAny_ret_mkInt ?_;unfold Yh at h;dsimp only at h;rw[hg]at h;generalize Builtin.Tuple.tupleHashOf [hashInt n,g]=z at h⊢;show bc _ _ (if(decide (-(2:Int)^63<=z)&&decide (z<2^63))=aC then _ else _) Q E _;unfold reduceHash at h;by_cases hr:(decide (-(2:Int)^63<=z)&&decide (z<2^63))=aC
  ·rw[Е hr];rw[Е hr]at h;E ah (by simpa[Ee,Nat.add_assoc]using h)
  ·rw[Д hr];rw[Д hr]at h;E ad (wpAny_rule (ah (by simpa[Ee,Nat.add_assoc]using h)))
ЛZcl{x y:Zl}{a b:aq}{P:Fin->ao->В}(hu:A.units<f7)(hx:O9 prog w s.heap x a)(hy:O9 prog w s.heap y b)(h:P (.done (.ret (.bool (decide (x=y))))) s):
  bc (b4 prog w) A (Builtin.«tuple.__eq__» ⟨[.ref a,.ref b],[]⟩) P E s:=by
 V mixS:∀(x:Str) (tx:Tok) (n:Int) (tn:Tok) {Q:Bool->ao->В},Q aD s->bc (b4 prog w) A (eqBool (.str x tx) (.int n tn)) Q E s:=λx tx n tn Q q=>SeqAt.EqAt.str_int x tx n tn _ _ _ _ q;V mixI:∀(x:Str) (tx:Tok) (n:Int) (tn:Tok) {Q:Bool->ao->В},Q aD s->bc (b4 prog w) A (eqBool (.int n tn) (.str x tx)) Q E s:=λx tx n tn Q q=>SeqAt.EqAt.int_str n tn x tx _ _ _ _ q;V hTb:=hy.typeIs;cases x with
 |inl l=>cases y with
  |inl l2=>
   R tuple_eq_tree (knd:=Zp prog w) (x:=Wy l) (y:=Wy l2) hx hy ?_;rw[Zai];V :decide ((gq l:Zl)=gq l2)=decide (l=l2):=by
    by_cases e:l=l2
    ·rw[e];simp
    ·rw[Ж e,Ж λz=>e (gq.inj z)]
   rw[this]at h;E h
  |inr p=>
   O⟨n,l2⟩:=p;O⟨oa,xs,na,hoa,_,hda,hia⟩:=hx;O⟨ob,ys,nb,t,c,hob,_,hdb,e,hc⟩:=hy;V hf:decide ((gq l:Zl)=df (n,l2))=aD:=Ж λz=>nomatch z;rw[hf]at h;T bc _ _ (isInstance (.ref b) (.type "tuple") >>=_) _ _ s;R ad (wpAny_isInstance hTb isSubtype_tuple_tuple ?_);simp only[gh,bq,if_false];R ad (wpAny_tupleItemsOf hoa hda ?_);R ad (wpAny_tupleItemsOf hob hdb ?_);rw[e];V sy:ys.size=2:=by rw[<-a8,e];rfl
   cases l with
   |nil=>
    generalize hxs:xs.toList=vs at hia;C hia;V sx:xs.size=0:=by rw[<-a8,hxs];rfl
    simp only[List.zip_nil_left,List.forIn_nil];R ad (ah ?_);R ah ?_;T P (.done (.ret (.bool (xs.size==ys.size)))) s;rw[sx,sy];E h
   |cons x l=>
    generalize hxs:xs.toList=vs at hia;cases hia with
    | @cons _ v _ vs h1 _=>
     rcases Z5 (k:=.inr x) (v:=v) h1 with⟨_,_,z,_⟩|⟨_,tx,z,rfl⟩
     ·C z
     ·simp only[List.zip_cons_cons,List.forIn_cons];R ad (ad (ad (mixS _ _ _ _ ?_)));simp only[Bool.not_false,if_true];E ad (ah (ah (ah (ah h))))
 |inr p=>cases y with
  |inl l=>
   O⟨n,l2⟩:=p;O⟨ob,ys,nb,t,c,hob,_,hdb,e,hc⟩:=hx;O⟨oa,xs,na,hoa,_,hda,hia⟩:=hy;V hf:decide ((df (n,l2):Zl)=gq l)=aD:=Ж λz=>nomatch z;rw[hf]at h;T bc _ _ (isInstance (.ref b) (.type "tuple") >>=_) _ _ s;R ad (wpAny_isInstance hTb isSubtype_tuple_tuple ?_);simp only[gh,bq,if_false];R ad (wpAny_tupleItemsOf hob hdb ?_);R ad (wpAny_tupleItemsOf hoa hda ?_);rw[e];V sy:ys.size=2:=by rw[<-a8,e];rfl
   cases l with
   |nil=>
    generalize hxs:xs.toList=vs at hia;C hia;V sx:xs.size=0:=by rw[<-a8,hxs];rfl
    simp only[List.zip_nil_right,List.forIn_nil];R ad (ah ?_);R ah ?_;T P (.done (.ret (.bool (ys.size==xs.size)))) s;rw[sx,sy];E h
   |cons x l=>
    generalize hxs:xs.toList=vs at hia;cases hia with
    | @cons _ v _ vs h1 _=>
     rcases Z5 (k:=.inr x) (v:=v) h1 with⟨_,_,z,_⟩|⟨_,tx,z,rfl⟩
     ·C z
     ·simp only[List.zip_cons_cons,List.forIn_cons];R ad (ad (ad (mixI _ _ _ _ ?_)));simp only[Bool.not_false,if_true];E ad (ah (ah (ah (ah h))))
  |inr q=>
   O⟨n,l⟩:=p;O⟨n2,l2⟩:=q;O⟨oa,xs,na,ta,ca,hoa,_,hda,ea,hca⟩:=hx;O⟨ob,ys,nb,tb,cb,hob,_,hdb,eb,hcb⟩:=hy;T bc _ _ (isInstance (.ref b) (.type "tuple") >>=_) _ _ s;R ad (wpAny_isInstance hTb isSubtype_tuple_tuple ?_);simp only[gh,bq,if_false];R ad (wpAny_tupleItemsOf hoa hda ?_);R ad (wpAny_tupleItemsOf hob hdb ?_);rw[ea,eb];V sx:xs.size=2:=by rw[<-a8,ea];rfl
   V sy:ys.size=2:=by rw[<-a8,eb];rfl
   simp only[List.zip_cons_cons,List.zip_nil_left,List.forIn_cons,List.forIn_nil];R ad (ad (ad (wpAny_eqBool_int ?_)));by_cases hn:n=n2
   ·subst hn;simp only[beq_self_eq_true,gh,bq,if_false];R ah ?_;dsimp only;R ad (ad (wpAny_eqBool_tuple (knd:=Zp prog w) hu hca hcb ?_));rw[Zai];by_cases hl:l=l2
    ·subst hl;simp only[decide_true,gh,bq,if_false];R ah (ah (ah ?_));T P (.done (.ret (.bool (xs.size==ys.size)))) s;rw[sx,sy];simpa using h
    ·simp only[decide_eq_false hl,Bool.not_false,if_true];V hf:decide ((df (n,l):Zl)=df (n,l2))=aD:=Ж λz=>hl (by injection z with z;injection z);rw[hf]at h;E ad (ah (ah (ah (ah h))))
   ·V hb:(n==n2)=aD:=beq_eq_false_iff_ne.mpr hn;simp only[hb,Bool.not_false,if_true];V hf:decide ((df (n,l):Zl)=df (n2,l2))=aD:=Ж λz=>hn (by injection z with z;injection z);rw[hf]at h;E ad (ah (ah (ah (ah h))))
ЛZqw{x y:Zl}{a b:aq}{Q:Bool->ao->В}(hu:A.units+1<f7)(hx:O9 prog w s.heap x a)(hy:O9 prog w s.heap y b)(h:Q (decide (x=y)) s):bc (b4 prog w) A (eqBool (.ref a) (.ref b)) Q E s:=by
 unfold eqBool
 try with_reducible R wpAny_holding ?_
 T bc _ _ (if(bz a==bz b)=aC then _ else _) Q E s;by_cases hab:(bz a==bz b)=aC
 ·rw[Е hab];V e:a=b:=by V :=eq_of_beq hab;injection this
  subst e;obtain rfl:=hx.inj hy;E ad (wpAny_rule (ah (by simpa using h)))
 ·rw[Д hab];E ad (wpAny_richCompare_same_room (op:=.Eq) hx.typeIs hy.typeIs F.slot_tuple_eq
   (dj F.slot_tuple_eq hx.typeIs F.entry_tuple_eq (Zcl (A:=A.in1) hu hx hy ⟨_,rfl,(λe=>nomatch e),wpAny_truthy_bool h⟩) (F.args_tuple_eq_2 _ _)) И)
ЛZaj{m:Г}{ks:А Key}{a:aq}{Q:Bool->ao->В}(hk:IsTupleKey (Zp prog w) s.heap ks a)(h:Q aC s):bc (b4 prog w) A (eqIsQuiet (m+1) (.ref a)) Q E s:=by
 V hT:=hk.typeIs;O⟨o,items,n,ho,_,hd,hi⟩:=hk;unfold eqIsQuiet;R ad (wpAny_specialOf hT F.slot_tuple_eq.lookup ?_);T bc _ _ (isInstance (.ref a) (.type "tuple") >>=_) _ _ s;R ad (wpAny_isInstance hT isSubtype_tuple_tuple ?_);simp only[gh,bq,if_false];R ad (wpAny_seqItems ho hd ?_);R ad ?_;T bc _ _ (forIn items _ _) _ _ s;rw[<-Array.forIn_toList];R wpAny_forIn_list _ (λrest r s'=>r.1=aB/\s'=s/\∀v∈rest,carriedByValue v=aC) _ ?_ ?_ _ _ ⟨rfl,rfl,hi.byValue⟩
 ·rintro v rest r s' ⟨hr,rfl,hall⟩;rw[eqIsQuiet_byValue _ (hall v ag)];R ad (ah ?_);simp only[gh,bq,if_false];E ah ⟨rfl,rfl,λu hu'=>hall u (ar _ hu')⟩
 ·rintro⟨r1,r2⟩ s' ⟨hr,rfl,_⟩;simp only at hr;subst hr;E ah h
ЛNy{k:Zl}{a:aq}{Q:Bool->ao->В}(hk:O9 prog w s.heap k a)(h:Q aC s):bc (b4 prog w) A (eqIsQuiet 8 (.ref a)) Q E s:=by
 cases k with
 |inl l=>E Zaj hk h
 |inr p=>have hT:=hk.typeIs;O⟨n,l⟩:=p;O⟨o,items,m,t,b,ho,_,hd,hi,hb⟩:=hk;unfold eqIsQuiet;R ad (wpAny_specialOf hT F.slot_tuple_eq.lookup ?_);T bc _ _ (isInstance (.ref a) (.type "tuple") >>=_) _ _ s;R ad (wpAny_isInstance hT isSubtype_tuple_tuple ?_);simp only[gh,bq,if_false];R ad (wpAny_seqItems ho hd ?_);R ad ?_;T bc _ _ (forIn items _ _) _ _ s;rw[<-Array.forIn_toList,hi];simp only[List.forIn_cons,List.forIn_nil];rw[eqIsQuiet_byValue _ (v:=Value.int n t) rfl];R ad (ad (ah ?_));simp only[gh,bq,if_false];R ah ?_;dsimp only;R ad (ad (Zaj hb ?_));simp only[gh,bq,if_false];E ah (ah (ah h))
end
МKt(prog:b5)(w:da):HeapKind prog w Zl where
 is:=O9 prog w
 hash:=Yh prog w
 draws:=Ee
 room:=λA=>A.units+1<f7
 inj:=λhx hy=>hx.inj hy
 keeps:=λx ho hd hs=>x.keeps ho hd hs
 pyHash:=λhu hk h=>Zei hu hk h
 eqBool:=λhu hx hy h=>Zqw hu hx hy h
 quiet:=λhk h=>Ny hk h
inductive V where
 |non|bl (b:Bool)|int (i:Int)|str (x:Str)|byt (b:Array UInt8)|flt (b:UInt64)|ref (a:aq)|ty (n:String)
 deriving DecidableEq
МZu:V->am->В
 | .non,u=>u=cm
 | .bl b,u=>u=Value.bool b
 | .int i,u=>∃t,u=Value.int i t
 | .str x,u=>∃t,u=Value.str x t
 | .byt b,u=>∃t,u=Value.bytes b t
 | .flt b,u=>∃t,u=Value.float b t
 | .ref a,u=>u=bz a
 | .ty n,u=>u=Value.type n
аZ3:А V->А am->Prop:=Paired Zu
ЛZ3.length{xs:А V}{us:А am}(r:Z3 xs us):xs.length=us.length:=g6 r
ЛZ3.get:∀{xs:А V} {us:А am} {i:Г} {x:V},Z3 xs us->xs[i]? =aA x->∃u,us[i]? =aA u/\Zu x u
 |_,_,_,_,.nil,e=>by simp at e
 |_,_,0,_,.cons r _,e=>by simp at e;subst e;E⟨_,rfl,r⟩
 |_,_,i+1,x,.cons _ t,e=>by O⟨u,h1,h2⟩:=Z3.get (i:=i) (x:=x) t (by simpa using e);E⟨u,by simpa using h1,h2⟩
ЛZ3.append:∀{xs ys:А V} {us ws:А am},Z3 xs us->Z3 ys ws->Z3 (xs++ys) (us++ws)
 |_,_,_,_,.nil,s=>s
 |_,_,_,_,.cons r t,s=>.cons r (Z3.append t s)
ЛZ3.take:∀{xs:А V} {us:А am} (n:Г),Z3 xs us->Z3 (xs.take n) (us.take n)
 |_,_,0,_=>.nil
 |_,_,_+1,.nil=>.nil
 |_,_,n+1,.cons r t=>.cons r (Z3.take n t)
ЛZ3.drop:∀{xs:А V} {us:А am} (n:Г),Z3 xs us->Z3 (xs.drop n) (us.drop n)
 |_,_,0,r=>r
 |_,_,_+1,.nil=>.nil
 |_,_,n+1,.cons _ t=>Z3.drop n t
МR9:Б V->Б am->В
 |some v,aA u=>Zu v u
 |none,aB=>True
 |_,_=>False
МKV{κ:Type}:А (κ×V)->А (κ×am)->Prop:=Paired λ(p:κ×V) (q:κ×am)=>p.1=q.1/\Zu p.2 q.2
МkV:Key->V
 | .inl i=>.int i
 | .inr x=>.str x
inductive HO where
 |lst (xs:А V)
 |tup (xs:А V)
 |dK (kvs:А (Key×V)) (ep:Г)|dT (kvs:А (А Key×V)) (ep:Г) (bs:А aq)|dN (kvs:А (Zl×V)) (ep:Г) (bs:А aq)
 |set (S:Int->Bool) (n:Г)
 |ins (C dx:aq) (fs:А (Str×V))
 |own (x:aq)
 |xd (fs:А (Str×V))
 |met (f x:aq)
 |rng (lo hi:Int)
 |frz (o:Obj) (u:HO)
 |tbl (ps:Array am)
 |tab (q:Str)
 |ext (φ:eh->В)
аHp:=aq->Б HO
МYa(H:Hp)(a:aq)(o:HO):Hp:=λb=>if b=a then aA o else H b
ЛYt{H:Hp}{a:aq}{o:HO}:Ya H a o a=aA o:=by unfold Ya;rw[Е rfl]
ЛZw{H:Hp}{a b:aq}{o:HO}(h:b≠a):Ya H a o b=H b:=by unfold Ya;rw[Д h]
ЛZi0{H:Hp}{a:aq}{o u:HO}:Ya (Ya H a o) a u=Ya H a u:=by funext b;unfold Ya;split<;> rfl
ЛEg{H:Hp}{a b:aq}{o u:HO}(h:H a=aA o)(h':H b=aA u)(d:o≠u):a≠b:=by intro e;subst e;rw[h]at h';E d (dk.inj h')
ЛWc{H:Hp}{a b:aq}{o:HO}(h:H a=aA o)(h':H b=aB):a≠b:=by intro e;subst e;rw[h]at h';C h'
МJi(H:Hp):Zl->aq->В
 | .inl l,b=>H b=aA (.tup ((Wy l).map kV))
 | .inr (n,l),b=>∃c,H b=aA (.tup [.int n,.ref c])/\H c=aA (.tup ((Wy l).map kV))
ЛJi.mono{H H':Hp}{k:Zl}{b:aq}(h:Ji H k b)(ht:∀b xs,H b=aA (.tup xs)->H' b=aA (.tup xs)):Ji H' k b:=by
 cases k with
 |inl l=>E ht _ _ h
 |inr p=>O⟨c,h1,h2⟩:=h;E⟨c,ht _ _ h1,ht _ _ h2⟩
section
variable(P:b5)(w:da)
МYc(H:Hp)(h:eh)(a:aq):HO->В
 | .lst xs=>xs.length<=sizeLine/\∃(its:А am) (n:Г),Z3 xs its/\h.get? a=aA {cls:=.type "list",data:=.seq its.toArray n}
 | .tup xs=>xs.length<=sizeLine/\∃its:А am,Z3 xs its/\IsTup h a its.toArray
 | .dK kvs ep=>kvs.length<=sizeLine/\(a==sysModules)=aD/\∃vs,KV kvs vs/\h.DictAt (Zp P w) a vs ep
 | .dT kvs ep bs=>kvs.length<=sizeLine/\(a==sysModules)=aD/\∃xs:А (А Key×aq×am),
   Paired (λ(p:А Key×V) (q:А Key×aq×am)=>p.1=q.1/\H q.2.1=aA (.tup (p.1.map kV))/\Zu p.2 q.2.2) kvs xs/\
   ∃o es,h.get? a=aA o/\o.ExactDict/\o.data= .dict es ep/\es.toList=xs.map (entryOfKey (tupleKind (Zp P w)))/\(xs.map (·.1)).Nodup/\(xs.map λx=>x.2.1)=bs
 | .dN kvs ep bs=>kvs.length<=sizeLine/\(a==sysModules)=aD/\∃xs:А (Zl×aq×am),
   Paired (λ(p:Zl×V) (q:Zl×aq×am)=>p.1=q.1/\Ji H p.1 q.2.1/\Zu p.2 q.2.2) kvs xs/\
   ∃o es,h.get? a=aA o/\o.ExactDict/\o.data= .dict es ep/\es.toList=xs.map (entryOfKey (Kt P w))/\(xs.map (·.1)).Nodup/\(xs.map λx=>x.2.1)=bs
 | .set S n=>h.SetOf (intKind P w) a S n
 | .ins C dx fs=>H dx=aA (.own a)/\fs.length<=1000/\dx≠a/\h.get? a=aA (PySem.W.instObj C dx)/\
   ∃mA,h.Ns1 dx mA/\(∀f,R9 (fs.lookup f) (mA f))/\PySem.Within mA (fs.map (·.1))
 | .own _=>∃o,h.get? a=aA o
 | .xd fs=>∃mA,h.Ns1 a mA/\∀f,R9 (fs.lookup f) (mA f)
 | .rng lo hi=>∃t u v,h.get? a=aA {cls:=.type "range",data:=.fields #[.int lo t,.int hi u,.int 1 v]}
 | .frz o u=>h.get? a=aA o/\Yc H h a u
 | .tbl ps=>h.get? a=aA {cls:=.none,data:=.fields ps}
 | .met f x=>h.get? a=aA (PySem.W.methodObj (.ref f) (.ref x))
 | .tab q=>∃ps:Array am,h.get? a=aA {cls:=.none,data:=.fields ps}/\TriplesOk ps.toList/\∀pos cv,codeAmong pos ps.toList=aA cv->∃c o vs t,cv= .ref c/\H c=aA (.frz o (.own a))/\o.data= .fields vs/\vs[1]? =aA (.str q t)
 | .ext φ=>φ h/\(∃o,h.get? a=aA o)/\∀h1 h2:eh,φ h1->(∀o,h1.get? a=aA o->h2.get? a=aA o)->φ h2
МRa(H:Hp)(h:eh):Prop:=∀a o,H a=aA o->Yc P w H h a o
end
section
variable{P:b5}{w:da}{H H':Hp}{h h':eh}{a:aq}{o:HO}
ЛYc.lt(x:Yc P w H h a o):a<h.objs.size:=by
 cases o with
 |lst xs=>O⟨_,_,_,_,e⟩:=x;E bh e
 |tup xs=>O⟨_,_,_,p⟩:=x;E p.lt
 |dK kvs ep=>O⟨_,_,_,_,o,_,e,_⟩:=x;E bh e
 |dT kvs ep bs=>O⟨_,_,_,_,o,_,e,_⟩:=x;E bh e
 |dN kvs ep bs=>O⟨_,_,_,_,o,_,e,_⟩:=x;E bh e
 |set S n=>O⟨o,_,_,_,e,_⟩:=x;E bh e
 |ins C dx fs=>O⟨_,_,_,e,_⟩:=x;E bh e
 |own y=>O⟨_,e⟩:=x;E bh e
 |xd fs=>O⟨_,⟨_,_,_,e,_⟩,_⟩:=x;E bh e
 |rng lo hi=>O⟨_,_,_,e⟩:=x;E bh e
 |frz ob u=>O⟨e,_⟩:=x;E bh e
 |tbl ps=>E bh (show h.get? a=aA _ from x)
 |met f y=>E bh (show h.get? a=aA _ from x)
 |tab q=>O⟨_,e,_⟩:=x;E bh e
 |ext φ=>O⟨_,⟨_,e⟩,_⟩:=x;E bh e
ЛPaired.mapP{α β:Type}{F G:α->β->В}{l₁:А α}{l₂:А β}(h:Paired F l₁ l₂)(f:∀a b,F a b->G a b):Paired G l₁ l₂:=by
 induction h with
 |nil=>E .nil
 |cons r _ ih=>E .cons (f _ _ r) ih
ЛYc.stay(x:Yc P w H h a o)(k:∀b u,(b=a\/H b=aA (.own a))->h.get? b=aA u->h'.get? b=aA u)
  (ho:∀b,H b=aA (.own a)->H' b=aA (.own a)) (ht:∀b xs,H b=aA (.tup xs)->H' b=aA (.tup xs))
  (hz:∀b o,H b=aA (.frz o (.own a))->H' b=aA (.frz o (.own a)):=by first|E λ_ _ q=>q| (intro b o q;rw[Zw (Wc q (by assumption))];E q)):Yc P w H' h' a o:=by
 induction o with
 |lst xs=>O⟨z,its,n,r,e⟩:=x;E⟨z,its,n,r,k _ _ (.inl rfl) e⟩
 |tup xs=>O⟨z,its,r,ob,e,c⟩:=x;E⟨z,its,r,ob,k _ _ (.inl rfl) e,c⟩
 |dK kvs ep=>O⟨z,y,vs,r,ob,es,e,c⟩:=x;E⟨z,y,vs,r,ob,es,k _ _ (.inl rfl) e,c⟩
 |dT kvs ep bs=>O⟨z,y,xs,r,ob,es,e,c⟩:=x;E⟨z,y,xs,Paired.mapP r λp q z=>⟨z.1,ht _ _ z.2.1,z.2.2⟩,ob,es,k _ _ (.inl rfl) e,c⟩
 |dN kvs ep bs=>O⟨z,y,xs,r,ob,es,e,c⟩:=x;E⟨z,y,xs,Paired.mapP r λp q z=>⟨z.1,z.2.1.mono ht,z.2.2⟩,ob,es,k _ _ (.inl rfl) e,c⟩
 |set S n=>O⟨ob,es,ep,t,e,c⟩:=x;E⟨ob,es,ep,t,k _ _ (.inl rfl) e,c⟩
 |ins C dx fs=>O⟨d,z,ne,e,mA,⟨od,es,ep,e2,c⟩,r⟩:=x;E⟨ho _ d,z,ne,k _ _ (.inl rfl) e,mA,⟨od,es,ep,k _ _ (.inr d) e2,c⟩,r⟩
 |own y=>O⟨ob,e⟩:=x;E⟨ob,k _ _ (.inl rfl) e⟩
 |xd fs=>O⟨mA,⟨od,es,ep,e,c⟩,r⟩:=x;E⟨mA,⟨od,es,ep,k _ _ (.inl rfl) e,c⟩,r⟩
 |rng lo hi=>O⟨t,u,v,e⟩:=x;E⟨t,u,v,k _ _ (.inl rfl) e⟩
 |frz ob u ih=>O⟨e,q⟩:=x;E⟨k _ _ (.inl rfl) e,ih q⟩
 |tbl ps=>have e:h.get? a=aA {cls:=.none,data:=.fields ps}:=x;T h'.get? a=aA {cls:=.none,data:=.fields ps};E k a _ (.inl rfl) e
 |met f y=>have e:h.get? a=aA (PySem.W.methodObj (.ref f) (.ref y)):=x;T h'.get? a=aA (PySem.W.methodObj (.ref f) (.ref y));E k a _ (.inl rfl) e
 |tab q=>O⟨ps,e,t,c⟩:=x;R⟨ps,k _ _ (.inl rfl) e,t,λpos cv z=>?_⟩;O⟨c1,o1,vs,tt,e1,e2,r⟩:=c pos cv z;E⟨c1,o1,vs,tt,e1,hz _ _ e2,r⟩
 |ext φ=>O⟨p,⟨o,e⟩,st⟩:=x;E⟨st _ _ p λo q=>k _ _ (.inl rfl) q,⟨o,k _ _ (.inl rfl) e⟩,st⟩
ЛRa.lt(x:Ra P w H h)(e:H a=aA o):a<h.objs.size:=(x a o e).lt
ЛRa.fresh(x:Ra P w H h)(e:h.objs.size<=a):H a=aB:=by
 cases q:H a with
 |none=>rfl
 |some u=>E absurd (di (x.lt q) e) (Nat.lt_irrefl _)
ЛRa.kept(x:Ra P w H h)(k:∀b u,h.get? b=aA u->h'.get? b=aA u):Ra P w H h':=λa o e=>
 (x a o e).stay (λb u _ q=>k b u q) (λ_ q=>q) λ_ _ q=>q
ЛRa.laid(x:Ra P w H h)(k:∀b u,h.get? b=aA u->h'.get? b=aA u)(hp:h.objs.size<=a)(new:Yc P w (Ya H a o) h' a o):Ra P w (Ya H a o) h':=λb u e=>by
 V hn:=x.fresh hp;by_cases hb:b=a
 ·subst hb;rw[Yt]at e;C e;E new
 ·rw[Zw hb]at e;E(x b u e).stay (λc v _ q=>k c v q) (λc q=>by rw[Zw (Wc q hn)];E q) λc xs q=>by rw[Zw (Wc q hn)];E q
end
МRd(H:Hp)(a:aq)(u:HO):Prop:=H a=aA u\/∃o,H a=aA (.frz o u)
ЛRd.ok{P:b5}{w:da}{H:Hp}{h:eh}{a:aq}{u:HO}(r:Rd H a u)(x:Ra P w H h):Yc P w H h a u:=by
 rcases r with r|⟨o,r⟩
 ·E x a u r
 ·O⟨_,q⟩:=x a _ r;E q
МHK(H:Hp)(a:aq)(kvs:А (Key×V)):Prop:=∃ep,H a=aA (.dK kvs ep)
МHTt(H:Hp)(a:aq)(kvs:А (А Key×V)):Prop:=∃ep bs,H a=aA (.dT kvs ep bs)
МRdK(H:Hp)(a:aq)(kvs:А (Key×V)):Prop:=∃ep,Rd H a (.dK kvs ep)
МRdT(H:Hp)(a:aq)(kvs:А (А Key×V)):Prop:=∃ep bs,Rd H a (.dT kvs ep bs)
ЛHK.rd{H:Hp}{a:aq}{kvs:А (Key×V)}(h:HK H a kvs):RdK H a kvs:=let⟨ep,h⟩:=h;⟨ep,.inl h⟩
МS2(kvs:А (А Key×V))(bs:А aq)(k:А Key)(b:aq):А Addr:=if(kvs.any λkv=>decide (kv.1=k))=aC then bs else bs++[b]
ЛHTt.rd{H:Hp}{a:aq}{kvs:А (А Key×V)}(h:HTt H a kvs):RdT H a kvs:=let⟨ep,bs,h⟩:=h;⟨ep,bs,.inl h⟩
МMut:Б HO->В
 |some (.lst _)=>True
 |some (.dK _ _)=>True
 |some (.dT _ _ _)=>True
 |some (.dN _ _ _)=>True
 |some (.set _ _)=>True
 |some (.ins _ _ _)=>True
 |some (.ext _)=>True
 |_=>False
section
variable{P:b5}{w:da}{H:Hp}{h h':eh}{x e:aq}{o':HO}
ЛRa.write(ok:Ra P w H h)(mu:Mut (H x))(he:e=x\/H e=aA (.own x))(k:∀b u,b≠e->h.get? b=aA u->h'.get? b=aA u)(heo:∃u,h'.get? e=aA u)
  (new:Yc P w (Ya H x o') h' x o'):Ra P w (Ya H x o') h':=λb u q=>by
 V nown:∀c y,H c=aA (.own y)->c≠x:=λc y r z=>by subst z;rw[r]at mu;E mu
 V ntup:∀c xs,H c=aA (.tup xs)->c≠x:=λc xs r z=>by subst z;rw[r]at mu;E mu
 by_cases hb:b=x
 ·subst hb;rw[Yt]at q;C q;E new
 ·rw[Zw hb]at q;by_cases hbe:b=e
  ·V q':H b=aA (.own x):=by
    rcases he with z|z
    ·E absurd (hbe.trans z) hb
    ·rw[hbe];E z
   rw[q]at q';C q';O⟨v,hv⟩:=heo;E⟨v,by rw[hbe];E hv⟩
  ·R(ok b u q).stay (λc v hc r=>k c v ?_ r) (λc r=>by rw[Zw (nown c b r)];E r) (λc xs r=>by rw[Zw (ntup c xs r)];E r) λc o r=>by rw[Zw (λz=>by subst z;rw[r]at mu;E mu)];E r
   rcases hc with rfl|hc
   ·E hbe
   ·rintro rfl;rcases he with z|z
    ·E nown c b hc z
    ·rw[hc]at z;C z;E hb rfl
end
structure Un(fs ex:А aq)(H H':Hp)(h h':eh):В where
 keep:∀b o,h.get? b=aA o->H b=aB->b∉fs->b∉ex->h'.get? b=aA o
 slot:∀b o,h.get? b=aA o->H b=aB->b∈fs->b∉ex->∃sl,h'.get? b=aA {o with slots:=sl}
 free:∀b o,h.get? b=aA o->H b=aB->b∉ex->H' b=aB
 there:∀b o,h.get? b=aA o->b∉ex->∃o',h'.get? b=aA o'
 tups:∀b xs,H b=aA (.tup xs)->H' b=aA (.tup xs)
 frzs:∀b o u,H b=aA (.frz o u)->H' b=aA (.frz o u)
 tbls:∀b ps,H b=aA (.tbl ps)->∃more,H' b=aA (.tbl (ps++more))
section
variable{fs fs' ex ex':А aq}{H H1 H2:Hp}{h h1 h2 h':eh}{a x e:aq}{o:HO}
ЛUn.any(u:Un fs ex H H1 h h1){b:aq}{ob:Obj}(q:h.get? b=aA ob)(n:H b=aB)(hx:b∉ex):∃sl,h1.get? b=aA {ob with slots:=sl}:=by
 by_cases hb:b∈fs
 ·E u.slot b ob q n hb hx
 ·E⟨ob.slots,u.keep b ob q n hb hx⟩
ЛUn.kept(k:∀b u,h.get? b=aA u->h'.get? b=aA u):Un fs ex H H h h':=
 ⟨λb ob q _ _ _=>k b ob q,λb ob q _ _ _=>⟨ob.slots,k b ob q⟩,λ_ _ _ n _=>n,λb ob q _=>⟨ob,k b ob q⟩,λ_ _ q=>q,λ_ _ _ q=>q,λ_ ps q=>⟨#[],by rw[q];simp⟩⟩
ЛUn.refl:Un fs ex H H h h:=Un.kept λ_ _ q=>q
ЛUn.laid(k:∀b u,h.get? b=aA u->h'.get? b=aA u)(hp:h.objs.size<=a)(hn:H a=aB):Un fs ex H (Ya H a o) h h' where
 keep:=λb u q _ _ _=>k b u q
 slot:=λb u q _ _ _=>⟨u.slots,k b u q⟩
 free:=λb u q n _=>by rw[Zw (cj (di (bh q) hp))];E n
 there:=λb u q _=>⟨u,k b u q⟩
 tups:=λb xs q=>by rw[Zw (Wc q hn)];E q
 frzs:=λb u xs q=>by rw[Zw (Wc q hn)];E q
 tbls:=λb ps q=>⟨#[],by rw[Zw (Wc q hn),q];simp⟩
ЛUn.write(mu:Mut (H x))(he:e=x\/H e=aA (.own x))(k:∀b u,b≠e->h.get? b=aA u->h'.get? b=aA u)(heo:∃u,h'.get? e=aA u):Un fs ex H (Ya H x o) h h':=by
 V hx:∀b,H b=aB->b≠x:=λb n z=>by subst z;rw[n]at mu;E mu
 V hb:∀b,H b=aB->b≠e:=λb n z=>by
  subst z;rcases he with r|r
  ·E hx b n r
  ·rw[n]at r;C r
 V hm:∀b u,H b=aA u->¬Mut (aA u)->b≠x:=λb u q nm z=>by subst z;rw[q]at mu;E nm mu
 R⟨λb u q n _ _=>k b u (hb b n) q,λb u q n _ _=>⟨u.slots,k b u (hb b n) q⟩,λb u q n _=>by rw[Zw (hx b n)];E n,λb u q _=>?_,
  λb xs q=>by rw[Zw (hm b _ q λz=>z)];E q,λb u xs q=>by rw[Zw (hm b _ q λz=>z)];E q,λb ps q=>⟨#[],by rw[Zw (hm b _ q λz=>z),q];simp⟩⟩
 by_cases hbe:b=e
 ·subst hbe;E heo
 ·E⟨u,k b u hbe q⟩
end
Мtrk(h:eh)(H:Hp):А Addr:=(c8 h.objs.size).filter λa=>(H a).isSome
МNz(h:eh)(H:Hp):Heap:=PySem.W.hideAll h (trk h H)
ЛZcm(h:eh)(H:Hp):(Nz h H).objs.size=h.objs.size:=PySem.W.hideAll_size _ _
ЛZej{h:eh}{H:Hp}{b:aq}{o:Obj}(e:h.get? b=aA o)(n:H b=aB):(Nz h H).get? b=aA o:=
 PySem.W.hideAll_get _ e λhm=>by V q:(H b).isSome=aC:=(List.mem_filter.mp hm).2;rw[n]at q;simp at q
ЛZi1{h:eh}{H:Hp}{b:aq}{o:Obj}(e:(Nz h H).get? b=aA o):h.get? b=aA o/\H b=aB:=by
 V e':h.get? b=aA o:=PySem.W.of_hideAll (trk h H) e;R⟨e',?_⟩;cases q:H b with
 |none=>rfl
 |some x=>have hm:b∈trk h H:=List.mem_filter.mpr ⟨cz.mpr (bh e'),by simp[q]⟩;V z:(Nz h H).get? b=aB:=PySem.W.hideAll_none (trk h H) hm;rw[z]at e;C e
МZi2(g h:eh)(L:aq):А (aq×Obj):=(c8 h.objs.size).filterMap λa=>if a=L\/(g.get? a).isSome=aC then aB else(h.get? a).map λo=>(a,o)
Мrest(g h:eh)(L d:aq):А (aq×Obj):=(Zi2 g h L).filter λp=>decide (p.1≠d)
structure Mod(K:af)(mg:Str->Б am)(base:eh):В where
 kin:K.In base
 glob:base.Ns b8 mg
 blt:∃mb,base.Ns builtinsNs mb/\∀x:Str,x≠"__name__"->mb x=bootBuiltins x
 nolimit:base.NoLimit
set_option genInjectivity false in
structure Cx where
 prog:b5
 w:da
 K:af
 mg:Str->Б am
 base:eh
 A:dg
 N:А Str
 s₀:ao
 H₀:Hp
 env:Env
 outer:А Env
 stack:А Env
 ex:А aq
 fn:Str->Bool
 calm:Bool
 pn:А (aq×Obj)
 xe:am->ao->В
Мfrs(l:А Env):А Addr:=l.filterMap (·.frame)
аCx.fs(X:Cx):А Addr:=frs X.outer
МVis(sc:Scope)(x:Str):Prop:=sc.names.lookup x=aA .local\/sc.names.lookup x=aA .cell\/sc.names.lookup x=aA .free
МLoc(sc:Scope)(x:Str):Prop:=sc.names.lookup x=aA .local\/sc.names.lookup x=aA .cell
МZqy(env:Env)(h:eh)(m:Str->Б am)(x:Str)(u:am):Prop:=
 (env.kindOf x=aA .local/\m x=aA u)\/((env.kindOf x=aA .cell\/env.kindOf x=aA .free)/\∃c,env.cells.lookup x=aA c/\h.IsCell c (aA u))
set_option genInjectivity false in
structure Cx.Ok(X:Cx):В where
 mod:Mod X.K X.mg X.base
 kind:X.env.scope.kind= .function
 glob:X.env.globals=b8
 blt:X.env.builtins=builtinsNs
 above:X.s₀.heap.objs.size<=X.env.locals
 inj:∀x y c,X.env.cells.lookup x=aA c->X.env.cells.lookup y=aA c->x=y
 has:∀x,(X.env.kindOf x=aA .cell\/X.env.kindOf x=aA .free)->∃c,X.env.cells.lookup x=aA c
 cab:∀x c,X.fn x=aC->X.env.cells.lookup x=aA c->X.s₀.heap.objs.size<=c
 hd:X.calm=aC->X.A.handled=aB
 frames:X.A.frames=aA X.stack
 stk:X.stack=X.outer\/(X.stack=X.env::X.outer/\X.env.frame=aA X.env.locals)
 exf:∀b∈X.ex,b≠X.env.locals/\∀x c,X.env.cells.lookup x=aA c->c≠b
 bs:∀b o,X.base.get? b=aA o->X.s₀.heap.get? b=aA o/\X.H₀ b=aB
 bsz:X.base.objs.size<=X.s₀.heap.objs.size
 noex:∀b o,X.base.get? b=aA o->b∉X.ex
 exfs:∀b∈X.ex,b∉X.fs
 funs:X.s₀.heap.FunFrames X.base X.outer
 frf:∀b∈X.fs,X.H₀ b=aB
structure Inv(X:Cx)(pins:А (aq×Obj))(σ:А (Б V))(H:Hp)(s:ao):В where
 ok:X.Ok
 os:s.os=X.s₀.os
 bare:AllBare s.gens
 base:Un X.fs X.ex X.H₀ H X.s₀.heap s.heap
 loc:∃m,s.heap.Ns X.env.locals m/\∀(i:Г) (x:Str) (v:V),X.N[i]? =aA x->σ[i]? =aA (aA v)->Vis X.env.scope x->∃u,Zu v u/\Zqy X.env s.heap m x u
 cell:∀x c,X.env.cells.lookup x=aA c->∃v,s.heap.IsCell c v
 free:H X.env.locals=aB
 freeC:∀x c,X.env.cells.lookup x=aA c->H c=aB
 pin:∀p∈X.pn++pins,s.heap.get? p.1=aA p.2/\H p.1=aB/\p.1≠X.env.locals/\p.1∉X.fs/\∀v,p.2.data≠.cell v
 hok:Ra X.prog X.w H s.heap
 len:σ.length=X.N.length
section
variable{X:Cx}{pins:А (aq×Obj)}{σ:А (Б V)}{H H':Hp}{s:ao}{h':eh}
ЛCx.Ok.nofr(ok:X.Ok){b:aq}{o:Obj}(e:X.base.get? b=aA o):b∉X.fs:=λhb=>by V :=(ok.funs.mem hb).1;rw[e]at this;C this
ЛInv.bs(I:Inv X pins σ H s):∀b o,X.base.get? b=aA o->s.heap.get? b=aA o/\H b=aB:=λb o e=>
 ⟨I.base.keep b o (I.ok.bs b o e).1 (I.ok.bs b o e).2 (I.ok.nofr e) (I.ok.noex b o e),I.base.free b o (I.ok.bs b o e).1 (I.ok.bs b o e).2 (I.ok.noex b o e)⟩
ЛInv.bk(I:Inv X pins σ H s):∀b o,X.base.get? b=aA o->s.heap.get? b=aA o:=λb o e=>(I.bs b o e).1
ЛInv.mod(I:Inv X pins σ H s):Mod X.K X.mg X.base:=I.ok.mod
ЛInv.kIn(I:Inv X pins σ H s):X.K.In s.heap:=I.ok.mod.kin.keeps I.bk
ЛInv.lt(I:Inv X pins σ H s):X.env.locals<s.heap.objs.size:=let⟨_,hn,_⟩:=I.loc;hn.lt
ЛInv.sz(I:Inv X pins σ H s):X.s₀.heap.objs.size<=s.heap.objs.size:=du I.ok.above (Nat.le_of_lt I.lt)
ЛInv.nofs(I:Inv X pins σ H s){a:aq}(h:s.heap.objs.size<=a):a∉X.fs:=λhb=>by O⟨_,o,ho,_⟩:=I.ok.funs.mem hb;E absurd (di (bh ho) (du I.sz h)) (Nat.lt_irrefl _)
ЛInv.cne(I:Inv X pins σ H s):∀x c,X.env.cells.lookup x=aA c->c≠X.env.locals:=λx c e z=>by O⟨v,o,ho,hd⟩:=I.cell x c e;O⟨m,⟨o',es,ep,ho',hd',_⟩,_⟩:=I.loc;rw[z,ho']at ho;C ho;rw[hd']at hd;C hd
ЛInv.funs(I:Inv X pins σ H s):s.heap.FunFrames X.base X.outer:=by
 V all:∀(l:А Env),(∀b∈frs l,b∈X.fs)->X.s₀.heap.FunFrames X.base l->s.heap.FunFrames X.base l:=by
  intro l;induction l with
  |nil=>intro _ _;trivial
  |cons env r ih=>intro hs hl;O⟨hk,⟨L,o,hf,hn,ho,hd⟩,hr⟩:=hl;V hL:L∈X.fs:=hs L (by unfold frs;rw[List.filterMap_cons,hf];E ag);O⟨sl,e⟩:=I.base.slot L o ho (I.ok.frf L hL) hL λz=>I.ok.exfs L z hL;E⟨hk,⟨L,_,hf,hn,e,hd⟩,ih (λb hb=>hs b (by unfold frs;rw[List.filterMap_cons,hf];E ar _ hb)) hr⟩
 E all X.outer (λ_ hb=>hb) I.ok.funs
ЛInv.stack(I:Inv X pins σ H s):s.heap.FunFrames X.base X.stack:=by
 rcases I.ok.stk with e|⟨e,hf⟩
 ·rw[e];E I.funs
 ·rw[e];O⟨m,hn,_⟩:=I.loc;R .cons (by rw[I.ok.kind];decide) hf hn ?_ I.funs;E Heap.get?_none_of_le (du I.ok.bsz I.ok.above)
ЛInv.stkSub(I:Inv X pins σ H s):∀b∈frs X.stack,b∈X.env.locals::X.fs:=λb hb=>by
 rcases I.ok.stk with e|⟨e,hf⟩
 ·rw[e]at hb;E ar _ hb
 ·rw[e]at hb;unfold frs at hb;rw[List.filterMap_cons,hf]at hb;E hb
ЛInv.stkFree(I:Inv X pins σ H s):∀b∈frs X.stack,H b=aB:=λb hb=>by
 rcases bu.mp (I.stkSub b hb)with e|hb
 ·rw[e];E I.free
 ·O⟨_,o,ho,_⟩:=I.ok.funs.mem hb;E I.base.free b o ho (I.ok.frf b hb) λz=>I.ok.exfs b z hb
ЛInv.step{g':Array GenState}{t':Г}{d':Drawn}{ch:А aq}(I:Inv X pins σ H s)
  (hch:∀b∈ch,(b∈X.ex\/X.s₀.heap.objs.size<=b)/\b≠X.env.locals/\(∀x c,X.env.cells.lookup x=aA c->c≠b)/\∀p∈X.pn++pins,p.1≠b)
  (keep:∀b o,b≠X.env.locals->b∉X.fs->b∉ch->s.heap.get? b=aA o->H b=aB->h'.get? b=aA o)
  (slot:∀b o,b≠X.env.locals->b∈X.fs->b∉ch->s.heap.get? b=aA o->H b=aB->∃sl,h'.get? b=aA {o with slots:=sl}) (free:∀b o,b∉ch->s.heap.get? b=aA o->H b=aB->H' b=aB)
  (there:∀b o,b∉ch->s.heap.get? b=aA o->∃o',h'.get? b=aA o')
  (tups:∀b xs,H b=aA (.tup xs)->H' b=aA (.tup xs)) (frzs:∀b o u,H b=aA (.frz o u)->H' b=aA (.frz o u)) (tbls:∀b ps,H b=aA (.tbl ps)->∃more,H' b=aA (.tbl (ps++more)))
  (ns:∀m,s.heap.Ns X.env.locals m->h'.Ns X.env.locals m) (hok:Ra X.prog X.w H' h') (hg:AllBare g'):
  Inv X pins σ H' {s with heap:=h',gens:=g',drawn:=d',toks:=t'}:=by
 V neL:∀b o,X.s₀.heap.get? b=aA o->b≠X.env.locals:=λb o e=>cj (di (bh e) I.ok.above);V neC:∀b o,X.s₀.heap.get? b=aA o->b∉X.ex->b∉ch:=λb o e hx hb=>by
  rcases(hch b hb).1 with z|z
  ·E hx z
  ·E absurd (di (bh e) z) (Nat.lt_irrefl _)
 V cellK:∀x c,X.env.cells.lookup x=aA c->∀v,s.heap.IsCell c v->h'.IsCell c v:=λx c e v ⟨o,ho,hd⟩=>by
  V nch:c∉ch:=λz=>(hch c z).2.2.1 x c e rfl;by_cases hc:c∈X.fs
  ·O⟨sl,q⟩:=slot c o (I.cne x c e) hc nch ho (I.freeC x c e);E⟨_,q,hd⟩
  ·E⟨o,keep c o (I.cne x c e) hc nch ho (I.freeC x c e),hd⟩
 R⟨I.ok,I.os,hg,⟨λb o e n hb hx=>?_,λb o e n hb hx=>?_,λb o e n hx=>?_,λb o e hx=>?_,λb xs e=>tups b xs (I.base.tups b xs e),λb o xs e=>frzs b o xs (I.base.frzs b o xs e),λb ps e=>?_⟩,?_,λx c e=>?_,?_,λx c e=>?_,λp hp=>?_,hok,I.len⟩
 ·E keep b o (neL b o e) hb (neC b o e hx) (I.base.keep b o e n hb hx) (I.base.free b o e n hx)
 ·O⟨sl,e1⟩:=I.base.slot b o e n hb hx;O⟨sl',e2⟩:=slot b _ (neL b o e) hb (neC b o e hx) e1 (I.base.free b o e n hx);E⟨sl',e2⟩
 ·O⟨o',e1⟩:=I.base.there b o e hx;E free b o' (neC b o e hx) e1 (I.base.free b o e n hx)
 ·O⟨o',e1⟩:=I.base.there b o e hx;E there b o' (neC b o e hx) e1
 ·O⟨m1,e1⟩:=I.base.tbls b ps e;O⟨m2,e2⟩:=tbls b _ e1;E⟨m1++m2,by rw[e2,Array.append_assoc]⟩
 ·O⟨m,hn,hl⟩:=I.loc;R⟨m,ns m hn,λi x v e1 e2 e3=>?_⟩;O⟨u,r,l⟩:=hl i x v e1 e2 e3;R⟨u,r,?_⟩;rcases l with l|⟨k,c,e,z⟩
  ·E .inl l
  ·E .inr ⟨k,c,e,cellK x c e _ z⟩
 ·O⟨v,z⟩:=I.cell x c e;E⟨v,cellK x c e v z⟩
 ·O⟨m,⟨o,_,_,ho,_⟩,_⟩:=I.loc;E free _ o (λz=>(hch _ z).2.1 rfl) ho I.free
 ·O⟨v,o,ho,hd⟩:=I.cell x c e;E free c o (λz=>(hch c z).2.2.1 x c e rfl) ho (I.freeC x c e)
 ·O⟨e,n,ne,nf,d⟩:=I.pin p hp;V nch:p.1∉ch:=λz=>(hch p.1 z).2.2.2 p hp rfl;E⟨keep p.1 p.2 ne nf nch e n,free p.1 p.2 nch e n,ne,nf,d⟩
ЛInv.un{t':Г}(I:Inv X pins σ H s)(u:Un X.fs [] H H' s.heap h')(hok:Ra X.prog X.w H' h'):Inv X pins σ H' {s with heap:=h',toks:=t'}:=by
 O⟨m,⟨o,es,ep,ho,r⟩,_⟩:=id I.loc;O⟨sl,hL⟩:=u.any ho I.free К;E I.step (g':=s.gens) (d':=s.drawn) (ch:=[]) (λ_ z=>nomatch z) (λb o _ hb _ e n=>u.keep b o e n hb К) (λb o _ hb _ e n=>u.slot b o e n hb К) (λb o _ e n=>u.free b o e n К) (λb o _ e=>u.there b o e К) u.tups u.frzs u.tbls (λm' hm=>by
  O⟨o',es',ep',ho',r'⟩:=hm;rw[ho]at ho';C ho';E⟨_,es',ep',hL,r'⟩) hok I.bare
ЛInv.call{g':Array GenState}{t':Г}{d':Drawn}{ch:А aq}(I:Inv X pins σ H s)(u:Un (frs X.stack) ch H H' s.heap h')(hok:Ra X.prog X.w H' h')(hg:AllBare g')
  (hch:∀b∈ch,(b∈X.ex\/X.s₀.heap.objs.size<=b)/\b≠X.env.locals/\(∀x c,X.env.cells.lookup x=aA c->c≠b)/\∀p∈X.pn++pins,p.1≠b):
  Inv X pins σ H' {s with heap:=h',gens:=g',drawn:=d',toks:=t'}:=by
 O⟨m,⟨o,es,ep,ho,r⟩,_⟩:=id I.loc;O⟨sl,hL⟩:=u.any ho I.free λz=>(hch _ z).2.1 rfl;E I.step (ch:=ch) hch (λb o hL hb hc e n=>u.keep b o e n (λz=>(bu.mp (I.stkSub b z)).elim hL hb) hc) (λb o _ _ hc e n=>u.any e n hc) (λb o hc e n=>u.free b o e n hc) (λb o hc e=>u.there b o e hc) u.tups u.frzs u.tbls (λm' hm=>by
  O⟨o',es',ep',ho',r'⟩:=hm;rw[ho]at ho';C ho';E⟨_,es',ep',hL,r'⟩) hok hg
ЛInv.turned{t':Г}{it:aq}(I:Inv X pins σ H s)(k:∀b o,b≠it->s.heap.get? b=aA o->h'.get? b=aA o)(hn:H it=aB)(hL:it≠X.env.locals)
  (h1:it∈X.ex\/X.s₀.heap.objs.size<=it) (h2:∀x c,X.env.cells.lookup x=aA c->c≠it) (h3:∀p∈X.pn++pins,p.1≠it):Inv X pins σ H {s with heap:=h',toks:=t'}:=by
 V nit:∀b u,H b=aA u->b≠it:=λb u e z=>by rw[z,hn]at e;C e
 R I.step (g':=s.gens) (d':=s.drawn) (ch:=[it]) (λb hb=>?_) (λb o _ _ hc e _=>k b o (λz=>hc (by simp[z])) e) (λb o _ _ hc e _=>⟨o.slots,k b o (λz=>hc (by simp[z])) e⟩) (λ_ _ _ _ n=>n)
  (λb o hc e=>⟨o,k b o (λz=>hc (by simp[z])) e⟩) (λ_ _ e=>e) (λ_ _ _ e=>e) (λb ps e=>⟨#[],by rw[e];simp⟩) (λm hm=>?_) (λb u e=>?_) I.bare
 ·V e:b=it:=by simpa using hb
  subst e;E⟨h1,hL,h2,h3⟩
 ·O⟨o,es,ep,ho,r⟩:=hm;E⟨o,es,ep,k _ o (Ne.symm hL) ho,r⟩
 ·R(I.hok b u e).stay (λc v hc q=>k c v ?_ q) (λ_ q=>q) λ_ _ q=>q;rcases hc with z|z
  ·rw[z];E nit b u e
  ·E nit c _ z
ЛInv.tok(I:Inv X pins σ H s)(t:Г):Inv X pins σ H {s with toks:=t}:=I.un (h':=s.heap) (t':=t) Un.refl I.hok
ЛInv.kept{t':Г}(I:Inv X pins σ H s)(k:∀b u,s.heap.get? b=aA u->h'.get? b=aA u):Inv X pins σ H {s with heap:=h',toks:=t'}:=I.un (Un.kept k) (I.hok.kept k)
ЛInv.laid{a:aq}{o:HO}{t':Г}(I:Inv X pins σ H s)(k:∀b u,s.heap.get? b=aA u->h'.get? b=aA u)(hp:s.heap.objs.size<=a)(new:Yc X.prog X.w (Ya H a o) h' a o):
  Inv X pins σ (Ya H a o) {s with heap:=h',toks:=t'}:=I.un (Un.laid k hp (I.hok.fresh hp)) (I.hok.laid k hp new)
ЛInv.write{x e:aq}{o:HO}{t':Г}(I:Inv X pins σ H s)(mu:Mut (H x))(he:e=x\/H e=aA (.own x))(k:∀b u,b≠e->s.heap.get? b=aA u->h'.get? b=aA u)(heo:∃u,h'.get? e=aA u)
  (new:Yc X.prog X.w (Ya H x o) h' x o):Inv X pins σ (Ya H x o) {s with heap:=h',toks:=t'}:=I.un (Un.write mu he k heo) (I.hok.write mu he k heo new)
ЛInv.pins_of{pins':А (aq×Obj)}(I:Inv X pins σ H s)(h:∀p∈pins',s.heap.get? p.1=aA p.2/\H p.1=aB/\p.1≠X.env.locals/\p.1∉X.fs/\∀v,p.2.data≠.cell v):Inv X pins' σ H s:=
 ⟨I.ok,I.os,I.bare,I.base,I.loc,I.cell,I.free,I.freeC,λp hp=>(bj.mp hp).elim (λz=>I.pin p (cf _ z)) (h p),I.hok,I.len⟩
ЛS3{N:А Str}(hN:N.Nodup){i j:Г}{x:Str}(a:N[i]? =aA x)(b:N[j]? =aA x):i=j:=by O⟨h1,e1⟩:=ay.mp a;O⟨h2,e2⟩:=ay.mp b;E(List.getElem_inj hN).mp (e1.trans e2.symm)
ЛKu{M:Model}{A:dg}{E:am->ao->В}{i:Г}{x:Str}{v:V}{u:am}{Q:Unit->ao->В}(I:Inv X pins σ H s)(hN:X.N.Nodup)(hi:X.N[i]? =aA x)(hx:Loc X.env.scope x)(r:Zu v u)
  (h:∀s',Inv X pins (σ.set i (aA v)) H s'->(∃a,ic a s.heap s'.heap/\(a=X.env.locals\/X.env.cells.lookup x=aA a))->Q () s') (hf:X.fn x=aC\/X.env.scope.names.lookup x=aA .local:=by first|E .inl rfl|E .inr rfl|assumption):bc M A (storeName X.env x u) Q E s:=by
 O⟨m,hn,hl⟩:=id I.loc;V hcls:(X.env.scope.kind== .class|| (X.env.scope.kind== .module&&X.env.locals !=X.env.globals))=aD:=by rw[I.ok.kind];rfl
 V hiσ:i<σ.length:=by rw[I.len];E(ay.mp hi).1
 V cne:=I.cne;V tracked:∀{a:aq} {h':eh},(∃o,s.heap.get? a=aA o/\H a=aB)->ic a s.heap h'->Ra X.prog X.w H h':=fun{a h'} ha hs b ob e=>by
  O⟨_,_,hfree⟩:=ha;R(I.hok b ob e).stay (λc w' hc q=>(hs.2 c ?_).trans q) (λ_ q=>q) λ_ _ q=>q;rintro rfl;rcases hc with rfl|hc
  ·rw[hfree]at e;C e
  ·rw[hfree]at hc;C hc
 rcases hx with hk|hk
 ·R wpAny_storeName_local hk hn (λh' hn' hs=>?_) hcls;O⟨oL,_,_,hoL,_⟩:=id hn;R h _ ⟨I.ok,I.os,I.bare,⟨λb o e n hb hx=>?_,λb o e n hb hx=>?_,I.base.free,λb o e hx=>?_,I.base.tups,I.base.frzs,I.base.tbls⟩,⟨_,hn',λj y v' e1 e2 e3=>?_⟩,λy c e=>?_,I.free,I.freeC,λp hp=>?_,tracked ⟨oL,hoL,I.free⟩ hs,by simpa using I.len⟩ ⟨_,hs,.inl rfl⟩
  ·E(hs.2 b (cj (di (bh e) I.ok.above))).trans (I.base.keep b o e n hb hx)
  ·O⟨sl,e1⟩:=I.base.slot b o e n hb hx;E⟨sl,(hs.2 b (cj (di (bh e) I.ok.above))).trans e1⟩
  ·O⟨o',e1⟩:=I.base.there b o e hx;E⟨o',(hs.2 b (cj (di (bh e) I.ok.above))).trans e1⟩
  ·by_cases hj:j=i
   ·subst hj;rw[hi]at e1;C e1;rw[ff hiσ]at e2;C e2;E⟨u,r,.inl ⟨hk,by simp⟩⟩
   ·rw[gd (Ne.symm hj)]at e2;O⟨u',r',q⟩:=hl j y v' e1 e2 e3;R⟨u',r',?_⟩;rcases q with⟨k,e⟩|⟨k,c,e,z⟩
    ·R .inl ⟨k,?_⟩;V :y≠x:=λe=>hj (S3 hN e1 (e▸hi));simp[this,e]
    ·E .inr ⟨k,c,e,z.sameBut hs (cne y c e)⟩
  ·O⟨w',z⟩:=I.cell y c e;E⟨w',z.sameBut hs (cne y c e)⟩
  ·O⟨e,n,ne,nf,d⟩:=I.pin p hp;E⟨(hs.2 p.1 ne).trans e,n,ne,nf,d⟩
 ·V hfn:X.fn x=aC:=by
   rcases hf with z|z
   ·E z
   ·rw[z]at hk;C hk
  O⟨c,hc⟩:=I.ok.has x (.inl hk);O⟨w',z⟩:=I.cell x c hc;R wpAny_storeName_cell I.ok.kind hk hc z (λh' hc' hs=>?_);O⟨oc,hoc,hocd⟩:=id z;R h {s with heap:=h'} ⟨I.ok,I.os,I.bare,⟨λb o e n hb hx=>?_,λb o e n hb hx=>?_,I.base.free,λb o e hx=>?_,I.base.tups,I.base.frzs,I.base.tbls⟩,⟨m,hn.sameBut hs (Ne.symm (cne x c hc)),λj y v' e1 e2 e3=>?_⟩,λy c' e=>?_,I.free,I.freeC,λp hp=>?_,tracked ⟨oc,hoc,I.freeC x c hc⟩ hs,by simpa using I.len⟩ ⟨c,hs,.inr hc⟩
  ·E(hs.2 b (cj (di (bh e) (I.ok.cab x c hfn hc)))).trans (I.base.keep b o e n hb hx)
  ·O⟨sl,e1⟩:=I.base.slot b o e n hb hx;E⟨sl,(hs.2 b (cj (di (bh e) (I.ok.cab x c hfn hc)))).trans e1⟩
  ·O⟨o',e1⟩:=I.base.there b o e hx;E⟨o',(hs.2 b (cj (di (bh e) (I.ok.cab x c hfn hc)))).trans e1⟩
  ·by_cases hj:j=i
   ·subst hj;rw[hi]at e1;C e1;rw[ff hiσ]at e2;C e2;E⟨u,r,.inr ⟨.inl hk,c,hc,hc'⟩⟩
   ·rw[gd (Ne.symm hj)]at e2;O⟨u',r',q⟩:=hl j y v' e1 e2 e3;R⟨u',r',?_⟩;rcases q with q|⟨k,c',e,z'⟩
    ·E .inl q
    ·R .inr ⟨k,c',e,z'.sameBut hs ?_⟩;rintro rfl;E hj (S3 hN e1 (I.ok.inj _ _ _ e hc▸hi))
  ·by_cases hcc:c'=c
   ·subst hcc;E⟨_,hc'⟩
   ·O⟨w2,z2⟩:=I.cell y c' e;E⟨w2,z2.sameBut hs hcc⟩
  ·O⟨e,n,ne,nf,d⟩:=I.pin p hp;R⟨(hs.2 p.1 ?_).trans e,n,ne,nf,d⟩;intro q;rw[q,hoc]at e;V q':oc=p.2:=dk.inj e;E d w' (by rw[<-q'];E hocd)
ЛS4{M:Model}{A:dg}{E:am->ao->В}{i:Г}{x:Str}{v:V}{u:am}{Q:Unit->ao->В}(I:Inv X pins σ H s)(hN:X.N.Nodup)(hi:X.N[i]? =aA x)(hx:Loc X.env.scope x)(r:Zu v u)
  (h:∀s',Inv X pins (σ.set i (aA v)) H s'->Q () s') (hf:X.fn x=aC\/X.env.scope.names.lookup x=aA .local:=by first|E .inl rfl|E .inr rfl|assumption):bc M A (storeName X.env x u) Q E s:=
 Ku I hN hi hx r (λs' I' _=>h s' I') hf
ЛInv.call'{s':ao}{ch:А aq}(I:Inv X pins σ H s)(ho:s'.os=s.os)(u:Un (frs X.stack) ch H H' s.heap s'.heap)(hok:Ra X.prog X.w H' s'.heap)(hg:AllBare s'.gens)
  (hch:∀b∈ch,(b∈X.ex\/X.s₀.heap.objs.size<=b)/\b≠X.env.locals/\(∀x c,X.env.cells.lookup x=aA c->c≠b)/\∀p∈X.pn++pins,p.1≠b):Inv X pins σ H' s':=by
 O⟨h',g',d',t',o'⟩:=s';V e:o'=s.os:=ho;subst e;E I.call (g':=g') (t':=t') (d':=d') u hok hg hch
end
аXK:=am->Б aq->Hp->В
аSt:=А (Б V)
аVK:=V->Hp->В
аTE:=St->Hp->VK->В
аTT:=St->Hp->(Bool->Hp->В)->В
аTA:=St->Hp->(А V->Hp->В)->В
set_option genInjectivity false in
structure Ends where
 nx:St->Hp->В
 rt:VK
 bk:St->Hp->Prop:=λ_ _=>False
 ct:St->Hp->Prop:=λ_ _=>False
аTS:=Ends->St->Hp->В
МEP(X:Cx)(pins:А (aq×Obj))(σ:St)(Q:VK)(u:am)(s':ao):Prop:=∃v H',Inv X pins σ H' s'/\Zu v u/\Q v H'
МTP(X:Cx)(pins:А (aq×Obj))(σ:St)(Q:Bool->Hp->В)(b:Bool)(s':ao):Prop:=∃H',Inv X pins σ H' s'/\Q b H'
МAP(X:Cx)(pins:А (aq×Obj))(σ:St)(Q:А V->Hp->В)(us:А am)(s':ao):Prop:=∃vs H',Inv X pins σ H' s'/\Z3 vs us/\Q vs H'
МSP(X:Cx)(pins:А (aq×Obj))(D:Ends)(f:Flow)(s':ao):Prop:=
 match f with
 | .next=>∃σ' H',Inv X pins σ' H' s'/\D.nx σ' H'
 | .brk=>∃σ' H',Inv X pins σ' H' s'/\D.bk σ' H'
 | .cont=>∃σ' H',Inv X pins σ' H' s'/\D.ct σ' H'
 | .ret u=>∃v σ' H',Inv X pins σ' H' s'/\Zu v u/\D.rt v H'
МPE(X:Cx)(e:c5)(t:TE):Prop:=
 ∀(pins:А (aq×Obj)) (s:ao) (σ:St) (H:Hp) (Q:VK),Inv X pins σ H s->t σ H Q->bc (b4 X.prog X.w) X.A (gy e X.env) (EP X pins σ Q) X.xe s
МPT(X:Cx)(e:c5)(t:TT):Prop:=
 ∀(pins:А (aq×Obj)) (s:ao) (σ:St) (H:Hp) (Q:Bool->Hp->В),Inv X pins σ H s->t σ H Q->bc (b4 X.prog X.w) X.A (isTrue e X.env (gy e X.env)) (TP X pins σ Q) X.xe s
МPW(X:Cx)(e:c5)(t:TT):Prop:=
 ∀(whole:Sem am) (pins:А (aq×Obj)) (s:ao) (σ:St) (H:Hp) (Q:Bool->Hp->В),Inv X pins σ H s->t σ H Q->bc (b4 X.prog X.w) X.A (isTrue e X.env whole) (TP X pins σ Q) X.xe s
ЛPW.pt{X:Cx}{e:c5}{t:TT}(h:PW X e t):PT X e t:=h _
МPA(X:Cx)(es:А c5)(t:TA):Prop:=
 ∀(pos:Pos) (pins:А (aq×Obj)) (s:ao) (σ:St) (H:Hp) (Q:А V->Hp->В),Inv X pins σ H s->t σ H Q->bc (b4 X.prog X.w) X.A (spliced (gx pos (bd es X.env))) (AP X pins σ Q) X.xe s
МPS(X:Cx)(st:Stmt)(t:TS):Prop:=
 ∀(pins:А (aq×Obj)) (s:ao) (σ:St) (H:Hp) (D:Ends),Inv X pins σ H s->t D σ H->bc (b4 X.prog X.w) X.A (exec st X.env) (SP X pins D) X.xe s
МT0(X:Cx)(st:А Stmt)(t:TS):Prop:=
 ∀(pins:А (aq×Obj)) (s:ao) (σ:St) (H:Hp) (D:Ends),Inv X pins σ H s->t D σ H->bc (b4 X.prog X.w) X.A (execs st X.env) (SP X pins D) X.xe s
ЛWv{α:Type}{t:Sem α}{Q Q':α->ao->В}{M:Model}{A:dg}{E:am->ao->В}{s:ao}(h:bc M A t Q E s)(hQ:∀a s,Q a s->Q' a s):bc M A t Q' E s:=wpAny_mono h hQ λ_ _ x=>x
section
variable{X:Cx}
МCy(i:Г):TE:=λσ H Q=>∃v,σ[i]? =aA (aA v)/\Q v H
МtC(v:V):TE:=λ_ H Q=>Q v H
ЛBa{i:Г}{x:Str}{pos:Pos}(hN:X.N[i]? =aA x)(hv:Vis X.env.scope x)(hd:(x==("__debug__":Str))=aD:=by decide)(hcd:(x==("__classdict__":Str))=aD:=by decide):PE X (.Name x pos) (Cy i):=by
 intro pins s σ H Q I h;O⟨v,e,h⟩:=h;O⟨m,hn,hl⟩:=I.loc;O⟨u,r,l⟩:=hl i x v hN e hv;V fin:EP X pins σ Q u s:=⟨v,H,I,r,h⟩
 rcases l with⟨hk,hm⟩|⟨hk,c,hc,hcell⟩
 ·E wpAny_Name (wpAny_loadName_local I.ok.kind hk hn hm fin) hd
 ·rcases hk with hk|hk
  ·E wpAny_Name (wpAny_loadName_cell I.ok.kind hk hc hcell fin) hd
  ·E wpAny_Name (wpAny_loadName_free I.ok.kind hk hc hcell fin hcd) hd
ЛZnt{i j pos}:PE X (.Constant (.int i) j pos) (tC (.int i)):=λ_ _ _ H _ I h=>wpAny_Constant_int ⟨.int i,H,I.tok _,⟨_,rfl⟩,h⟩
ЛZqz{b j pos}:PE X (.Constant (.bool b) j pos) (tC (.bl b)):=λ_ _ _ H _ I h=>Constant_bool ⟨.bl b,H,I,rfl,h⟩
ЛZek{x j pos}:PE X (.Constant (.str x) j pos) (tC (.str x)):=λ_ _ _ H _ I h=>Calls.Constant_str ⟨.str x,H,I.tok _,⟨_,rfl⟩,h⟩
МGl(X:Cx)(x:Str):Prop:=X.env.kindOf x=aA .globalImplicit
ЛZi3{E:am->ao->В}{pins:А (aq×Obj)}{s:ao}{σ:St}{H:Hp}{x:Str}{u:am}{pos:Pos}{Q:am->ao->В}(I:Inv X pins σ H s)(hg:Gl X x)(hm:X.mg x=aA u)(h:Q u s)
  (hd:(x==("__debug__":Str))=aD:=by decide):bc (b4 X.prog X.w) X.A (gy (.Name x pos) X.env) Q E s:=
 Calls.Name_function_global I.ok.kind hg (Calls.loadGlobal_global (by rw[I.ok.glob];E I.mod.glob.keeps I.bk) hm h) hd
ЛBt{E:am->ao->В}{pins:А (aq×Obj)}{s:ao}{σ:St}{H:Hp}{x:Str}{u:am}{pos:Pos}{Q:am->ao->В}(I:Inv X pins σ H s)(hg:Gl X x)(hm:X.mg x=aB)(hv:bootBuiltins x=aA u)(h:Q u s)
  (hn:x≠"__name__":=by decide) (hd:(x==("__debug__":Str))=aD:=by decide):bc (b4 X.prog X.w) X.A (gy (.Name x pos) X.env) Q E s:=by
 O⟨mb,h1,h2⟩:=I.mod.blt;E Calls.Name_function_global I.ok.kind hg (Calls.loadGlobal_builtin (by rw[I.ok.glob];E I.mod.glob.keeps I.bk) hm (by rw[I.ok.blt];E h1.keeps I.bk) ((h2 x hn).trans hv) h) hd
ЛZi4{x:Str}{v:V}{u:am}{pos:Pos}(hg:Gl X x)(hm:X.mg x=aB)(hv:bootBuiltins x=aA u)(r:Zu v u)(hn:x≠"__name__":=by decide)(hd:(x==("__debug__":Str))=aD:=by decide):PE X (.Name x pos) (tC v):=
 λ_ _ _ H _ I h=>Bt I hg hm hv ⟨v,H,I,r,h⟩ hn hd
Мt2I(ta tb:TE)(k:Int->Int->Hp->В):St->Hp->Prop:=λσ H=>ta σ H λx H1=>tb σ H1 λy H2=>∃i j,x= .int i/\y= .int j/\k i j H2
МZ1c(ta tb:TE):TE:=λσ H Q=>t2I ta tb (λi j H2=>Q (.int (i+j)) H2) σ H
МZ1d(ta tb:TE):TE:=λσ H Q=>t2I ta tb (λi j H2=>Q (.int (i- j)) H2) σ H
МZ1e(ta tb:TE):TE:=λσ H Q=>t2I ta tb (λi j H2=>(-(2^64)<i/\i<2^64)/\Q (.int (i*j)) H2) σ H
variable{a b:c5}{ta tb:TE}{pos:Pos}
МPC(X:Cx)(op:CmpOp)(a b:c5)(t:TE):Prop:=
 ∀(pins:А (aq×Obj)) (s:ao) (σ:St) (H:Hp) (Q:VK),Inv X pins σ H s->t σ H Q->
  bc (b4 X.prog X.w) X.A (gy a X.env) (λv s₁=>bc (b4 X.prog X.w) X.A (gy b X.env) (λu s₂=>bc (b4 X.prog X.w) X.A (gz op v u) (EP X pins σ Q) X.xe s₂) X.xe s₁) X.xe s
МZco(p:Int->Int->Bool)(ta tb:TE):TE:=λσ H Q=>t2I ta tb (λi j H2=>Q (.bl (p i j)) H2) σ H
аtLt:TE->TE->TE:=Zco λi j=>decide (i<j)
аtLe:TE->TE->TE:=Zco λi j=>decide (i<=j)
аtGt:TE->TE->TE:=Zco λi j=>decide (j<i)
аtGe:TE->TE->TE:=Zco λi j=>decide (j<=i)
аZ1f:TE->TE->TE:=Zco λi j=>decide (i=j)
аZ1g:TE->TE->TE:=Zco λi j=>!decide (i=j)
МZ1h(ta:TE):TE:=λσ H Q=>ta σ H λx H1=>Q (.bl (decide (x= .non))) H1
МZze(ta:TE):TE:=λσ H Q=>ta σ H λx H1=>Q (.bl (!decide (x= .non))) H1
МtB(t:TE):TT:=λσ H Q=>t σ H λx H1=>∃c,x= .bl c/\Q c H1
ЛZnu{e:c5}{t:TE}(h:PE X e t)(he:∀whole,isTrue e X.env whole=(do let v<-whole;standAt e.pos;holding [v] (truthy v)):=by intro _;rfl):PT X e (tB t):=by intro pins s σ H Q I hw;R isTrue_plain (Wv (h pins s σ H _ I hw) λv s1 ⟨x,H1,I1,r1,q1⟩=>?_) (he _);O⟨d,rfl,q⟩:=q1;C r1;E wpAny_truthy_bool ⟨H1,I1,q⟩
variable{tA tB':TT}{rest:А c5}
МZq1(t u:TT):TT:=λσ H Q=>t σ H λc H1=>if c=aC then u σ H1 Q else Q aD H1
МtOr(t u:TT):TT:=λσ H Q=>t σ H λc H1=>if c=aC then Q aC H1 else u σ H1 Q
МZq2(t:TT):TT:=λσ H Q=>t σ H λc H1=>Q (!c) H1
ЛZi5(ha:PT X a tA):PW X (.BoolOp .And [a] pos) tA:=by
 intro wh pins s σ H Q I h;R isTrue_and (Wv (ha pins s σ H Q I h) λc s1 e=>?_);cases c with
 |true=>E isTrue_and_nil e
 |false=>E e
ЛZnv(ha:PT X a tA):PW X (.BoolOp .Or [a] pos) tA:=by
 intro wh pins s σ H Q I h;R isTrue_or (Wv (ha pins s σ H Q I h) λc s1 e=>?_);cases c with
 |false=>E isTrue_or_nil e
 |true=>E e
ЛZnw(ha:PT X a tA)(hb:PW X (.BoolOp .And (b::rest) pos) tB'):PW X (.BoolOp .And (a::b::rest) pos) (Zq1 tA tB'):=by
 intro wh pins s σ H Q I h;R isTrue_and (Wv (ha pins s σ H _ I h) λc s1 zq9=>?_);O⟨H1,I1,q1⟩:=zq9;cases c with
 |true=>E hb wh pins s1 σ H1 Q I1 q1
 |false=>E⟨H1,I1,q1⟩
ЛZq3(ha:PT X a tA)(hb:PW X (.BoolOp .Or (b::rest) pos) tB'):PW X (.BoolOp .Or (a::b::rest) pos) (tOr tA tB'):=by
 intro wh pins s σ H Q I h;R isTrue_or (Wv (ha pins s σ H _ I h) λc s1 zq9=>?_);O⟨H1,I1,q1⟩:=zq9;cases c with
 |true=>E⟨H1,I1,q1⟩
 |false=>E hb wh pins s1 σ H1 Q I1 q1
ЛZnx(ha:PT X a tA):PT X (.UnaryOp .Not a pos) (Zq2 tA):=by intro pins s σ H Q I h;E isTrue_not (ha pins s σ H (λc H1=>Q (!c) H1) I h)
МZzg(ta tb:TE):TE:=λσ H Q=>ta σ H λx H1=>∃c,x= .bl c/\if c=aC then tb σ H1 Q else Q (.bl aD) H1
МZq4(ta tb:TE):TE:=λσ H Q=>ta σ H λx H1=>∃c,x= .bl c/\if c=aC then Q (.bl aC) H1 else tb σ H1 Q
МZzh(ta:TE):TE:=λσ H Q=>ta σ H λx H1=>∃c,x= .bl c/\Q (.bl (!c)) H1
ЛZny{op} {t:TE} (h:PE X a t):PE X (.BoolOp op [a] pos) t:=λpins s σ H Q I hw=>BoolOp_one (h pins s σ H Q I hw)
ЛZq5(ha:PE X a ta)(hb:PE X (.BoolOp .Or (b::rest) pos) tb):PE X (.BoolOp .Or (a::b::rest) pos) (Zq4 ta tb):=by
 intro pins s σ H Q I h;R BoolOp_or (Wv (ha pins s σ H _ I h) λv s1 zq9=>?_);O⟨x,H1,I1,r1,q1⟩:=zq9;O⟨c,rfl,q1⟩:=q1;C r1;R wpAny_truthy_bool ?_;cases c with
 |false=>E hb pins s1 σ H1 Q I1 q1
 |true=>E⟨.bl aC,H1,I1,rfl,q1⟩
МtIf(t:TT)(ta tb:TE):TE:=λσ H Q=>t σ H λc H1=>if c=aC then ta σ H1 Q else tb σ H1 Q
end
МW8(K:af)(H:Hp)(a:aq)(xs:А V):Prop:=
 Rd H a (.lst xs)\/
  ∃(o:Obj) (its:Array am) (n:Г),K.lookup a=aA o/\o.cls= .type "list"/\o.dict=aB/\o.data= .seq its n/\its.size<=sizeLine/\Z3 xs its.toList
МOv(K:af)(H:Hp)(a:aq)(xs:А V):Prop:=
 Rd H a (.tup xs)\/
  ∃(o:Obj) (its:Array am) (n:Г),K.lookup a=aA o/\o.cls= .type "tuple"/\o.data= .seq its n/\its.size<=sizeLine/\Z3 xs its.toList
МZwf:am->Б V
 | .none=>aA .non
 | .bool b=>aA (.bl b)
 | .int i _=>aA (.int i)
 | .str x _=>aA (.str x)
 | .bytes b _=>aA (.byt b)
 | .float b _=>aA (.flt b)
 | .ref a=>aA (.ref a)
 | .type n=>aA (.ty n)
 |_=>aB
ЛZu.abs{x:V}{u:am}(r:Zu x u):Zwf u=aA x:=by
 cases x with
 |non=>C r;rfl
 |bl _=>C r;rfl
 |int _=>O⟨t,rfl⟩:=r;rfl
 |str _=>O⟨t,rfl⟩:=r;rfl
 |byt _=>O⟨t,rfl⟩:=r;rfl
 |flt _=>O⟨t,rfl⟩:=r;rfl
 |ref _=>C r;rfl
 |ty _=>C r;rfl
ЛZu.inj{x y:V}{u:am}(r:Zu x u)(q:Zu y u):x=y:=dk.inj (r.abs.symm.trans q.abs)
ЛZ3.inj{xs:А V}:∀{ys:А V} {us:А am},Z3 xs us->Z3 ys us->xs=ys:=by
 induction xs with
 |nil=>intro ys us h g;C h;C g;rfl
 |cons x xs ih=>
  intro ys us h g;cases h with
  |cons r t=>
   cases g with
   |cons r' t'=>rw[r.inj r',ih t t']
section
variable{X:Cx}{pins:А (aq×Obj)}{σ:St}{H:Hp}{s:ao}{a:aq}{xs ys:А V}
ЛInv.list(I:Inv X pins σ H s)(h:W8 X.K H a xs):∃its:А am,Z3 xs its/\PlainL s.heap a its.toArray/\xs.length<=sizeLine:=by
 rcases h with h|⟨o,its,n,hk,hc,hd,hs,hz,r⟩
 ·O⟨z,its,n,r,e⟩:=h.ok I.hok;E⟨its,r,⟨_,n,e,rfl,rfl,rfl⟩,z⟩
 ·R⟨its.toList,r,⟨o,n,I.kIn a o hk,hc,hd,by simpa using hs⟩,?_⟩;V e:=r.length;simp only[a8]at e;W
ЛInv.tuple(I:Inv X pins σ H s)(h:Ov X.K H a xs):∃its:А am,Z3 xs its/\IsTup s.heap a its.toArray/\xs.length<=sizeLine:=by
 rcases h with h|⟨o,its,n,hk,hc,hs,hz,r⟩
 ·O⟨z,its,r,p⟩:=h.ok I.hok;E⟨its,r,p,z⟩
 ·R⟨its.toList,r,⟨o,I.kIn a o hk,hc,n,by simpa using hs⟩,?_⟩;V e:=r.length;simp only[a8]at e;W
ЛInv.list_inj(I:Inv X pins σ H s)(h:W8 X.K H a xs)(h':W8 X.K H a ys):xs=ys:=by
 O⟨its,r,⟨o,n,e,_,_,d⟩,_⟩:=I.list h;O⟨its',r',⟨o',n',e',_,_,d'⟩,_⟩:=I.list h';rw[e]at e';C e';rw[d]at d';injection d' with d1 _;V :its=its':=by simpa using congrArg Array.toList d1
 subst this;E r.inj r'
ЛInv.tuple_inj(I:Inv X pins σ H s)(h:Ov X.K H a xs)(h':Ov X.K H a ys):xs=ys:=by
 O⟨its,r,⟨o,e,_,n,d⟩,_⟩:=I.tuple h;O⟨its',r',⟨o',e',_,n',d'⟩,_⟩:=I.tuple h';rw[e]at e';C e';rw[d]at d';injection d' with d1 _;V :its=its':=by simpa using congrArg Array.toList d1
 subst this;E r.inj r'
end
аCx.wish(X:Cx)(E:am->ao->В):Cx:={X with xe:=E}
аCx.nox(X:Cx):Cx:=X.wish λ_ _=>False
ЛCx.Ok.wish{X:Cx}(ok:X.Ok)(E:am->ao->В):(X.wish E).Ok:=
 ⟨ok.mod,ok.kind,ok.glob,ok.blt,ok.above,ok.inj,ok.has,ok.cab,ok.hd,ok.frames,ok.stk,ok.exf,ok.bs,ok.bsz,ok.noex,ok.exfs,ok.funs,ok.frf⟩
ЛCx.Ok.unwish{X:Cx}{E:am->ao->В}(ok:(X.wish E).Ok):X.Ok:=
 ⟨ok.mod,ok.kind,ok.glob,ok.blt,ok.above,ok.inj,ok.has,ok.cab,ok.hd,ok.frames,ok.stk,ok.exf,ok.bs,ok.bsz,ok.noex,ok.exfs,ok.funs,ok.frf⟩
section
variable{X:Cx}{pins:А (aq×Obj)}{σ:St}{H:Hp}{s:ao}{E:am->ao->В}
ЛInv.wish(I:Inv X pins σ H s)(E:am->ao->В):Inv (X.wish E) pins σ H s:=⟨I.ok.wish E,I.os,I.bare,I.base,I.loc,I.cell,I.free,I.freeC,I.pin,I.hok,I.len⟩
ЛInv.unwish(I:Inv (X.wish E) pins σ H s):Inv X pins σ H s:=⟨I.ok.unwish,I.os,I.bare,I.base,I.loc,I.cell,I.free,I.freeC,I.pin,I.hok,I.len⟩
ЛSP.unwish{D:Ends}{f:Flow}{s':ao}(h:SP (X.wish E) pins D f s'):SP X pins D f s':=by
 cases f with
 |next=>O⟨σ',H',I,q⟩:=h;E⟨σ',H',I.unwish,q⟩
 |brk=>O⟨σ',H',I,q⟩:=h;E⟨σ',H',I.unwish,q⟩
 |cont=>O⟨σ',H',I,q⟩:=h;E⟨σ',H',I.unwish,q⟩
 |ret u=>O⟨v,σ',H',I,r,q⟩:=h;E⟨v,σ',H',I.unwish,r,q⟩
ЛT0.nox{st:А Stmt}{t:TS}(h:T0 X.nox st t):T0 X st t:=λpins s σ H D I hw=>
 wpAny_mono (h pins s σ H D (I.wish _) hw) (λ_ _ q=>q.unwish) λ_ _ z=>False.elim z
end
section
variable{X:Cx}{st:Stmt}{rest:А Stmt}{t u:TS}{e:c5}{te:TE}{pos:Pos}
МZl0:TS:=λD σ H=>D.nx σ H
МZnz(t u:TS):TS:=λD σ H=>t {D with nx:=u D} σ H
ЛZi6:T0 X [] Zl0:=λ_ _ σ H _ I h=>wpAny_execs_nil ⟨σ,H,I,h⟩
ЛZel(h1:PS X st t)(h2:T0 X rest u):T0 X (st::rest) (Znz t u):=by
 intro pins s σ H D I h;R wpAny_execs_cons (Wv (h1 pins s σ H {D with nx:=u D} I h) λf s1 q=>?_);cases f with
 |next=>O⟨σ',H',I',q⟩:=q;E h2 pins s1 σ' H' D I' q
 |ret v=>E q
 |brk=>E q
 |cont=>E q
ЛZi7(h1:PS X st t):T0 X [st] t:=by
 intro pins s σ H D I h;R wpAny_execs_cons (Wv (h1 pins s σ H D I h) λf s1 q=>?_);cases f with
 |next=>E wpAny_execs_nil q
 |ret v=>E q
 |brk=>E q
 |cont=>E q
МZwg:TS:=λD σ H=>D.bk σ H
МZzi:TS:=λD σ H=>D.ct σ H
ЛInv.quiet{pins:А (aq×Obj)}{σ:St}{H:Hp}{s:ao}(I:Inv X pins σ H s):interactive X.env=aD:=by simp[interactive,I.ok.kind]
МZal(te:TE):TS:=λD σ H=>te σ H λ_ H1=>D.nx σ H1
ЛAl(he:PE X e te)(hs:swapsWith e aB pos.line X.env=pure aD:=by rfl):PS X (.Expr e pos) (Zal te):=by intro pins s σ H D I h;E wpAny_Expr_any (Wv (he pins s σ H _ I h) λv s1 ⟨x,H1,I1,r1,q1⟩=>⟨σ,H1,I1,q1⟩) I.quiet hs
МZn0(te:TE):TS:=λD σ H=>te σ H D.rt
ЛZem(he:PE X e te):PS X (.Return (aA e) pos) (Zn0 te):=by intro pins s σ H D I h;E wpAny_Return_some (Wv (he pins s σ H _ I h) λv s1 ⟨x,H1,I1,r1,q1⟩=>⟨x,σ,H1,I1,r1,q1⟩)
МZzj:TS:=λD _ H=>D.rt .non H
МZq6(c:TT)(t u:TS):TS:=λD σ H=>c σ H λb H1=>if b=aC then t D σ H1 else u D σ H1
ЛZq7{c:c5}{a b:А Stmt}{tc:TT}(hc:PT X c tc)(ha:T0 X a t)(hb:T0 X b u):PS X (.If c a b pos) (Zq6 tc t u):=by
 intro pins s σ H D I h;R wpAny_If (Wv (hc pins s σ H _ I h) λd s1 zq9=>?_);O⟨H1,I1,q1⟩:=zq9;cases d with
 |true=>E ha pins s1 σ H1 D I1 q1
 |false=>E hb pins s1 σ H1 D I1 q1
МZwh:TS:=λ_ _ _=>False
end
аTG:=V->St->Hp->(St->Hp->В)->В
аTGs:=А V->St->Hp->(St->Hp->В)->В
МPG(X:Cx)(target:c5)(t:TG):Prop:=
 ∀(pins:А (aq×Obj)) (s:ao) (σ:St) (H:Hp) (v:V) (u:am) (Q:St->Hp->В),Inv X pins σ H s->Zu v u->t v σ H Q->
  bc (b4 X.prog X.w) X.A (assign target X.env u) (λ_ s'=>∃σ' H',Inv X pins σ' H' s'/\Q σ' H') X.xe s
МPGs(X:Cx)(ts:А c5)(t:TGs):Prop:=
 ∀(pins:А (aq×Obj)) (s:ao) (σ:St) (H:Hp) (vs:А V) (us:А am) (Q:St->Hp->В),Inv X pins σ H s->Z3 vs us->t vs σ H Q->
  bc (b4 X.prog X.w) X.A (assignInOrder ((assignEach ts X.env).map (·.2)) us) (λ_ s'=>∃σ' H',Inv X pins σ' H' s'/\Q σ' H') X.xe s
аZn1:=V->V->V->Hp->(Hp->В)->В
МZ1i(X:Cx)(t:Zn1):Prop:=
 ∀(pins:А (aq×Obj)) (s:ao) (σ:St) (H:Hp) (o i v:V) (ov iv u:am) (Q:Hp->В),Inv X pins σ H s->Zu o ov->Zu i iv->Zu v u->t o i v H Q->
  bc (b4 X.prog X.w) X.A (setItem ov iv u) (λ_ s'=>∃H',Inv X pins σ H' s'/\Q H') X.xe s
аTIp:=V->V->Hp->VK->В
МPIp(X:Cx)(op:Operator)(t:TIp):Prop:=
 ∀(pins:А (aq×Obj)) (s:ao) (σ:St) (H:Hp) (x y:V) (v u:am) (Q:VK),Inv X pins σ H s->Zu x v->Zu y u->t x y H Q->
  bc (b4 X.prog X.w) X.A (inplaceOp op v u) (EP X pins σ Q) X.xe s
section
variable{X:Cx}{pos:Pos}
МEh(i:Г):TG:=λv σ H Q=>Q (σ.set i (aA v)) H
ЛZi8{i:Г}{x:Str}(hN:X.N.Nodup)(hi:X.N[i]? =aA x)(hx:Loc X.env.scope x)(hf:X.fn x=aC\/X.env.scope.names.lookup x=aA .local:=by first|E .inl rfl|E .inr rfl|assumption):PG X (.Name x pos) (Eh i):=by intro pins s σ H v u Q I r h;E wpAny_assign_Name (S4 I hN hi hx r (λs' I'=>⟨_,H,I',h⟩) hf)
МZq8:TGs:=λvs σ H Q=>vs=[]/\Q σ H
МZl1(t:TG)(u:TGs):TGs:=λvs σ H Q=>∃v r,vs=v::r/\t v σ H λσ' H'=>u r σ' H' Q
ЛZi9:PGs X [] Zq8:=by intro pins s σ H vs us Q I r h;O⟨e,h⟩:=h;subst e;C r;E assignInOrder_nil ⟨σ,H,I,h⟩
ЛZeo{e:c5}{es:А c5}{t:TG}{u:TGs}(h1:PG X e t)(h2:PGs X es u)
  (hs:(assignEach (e::es) X.env).map (·.2)=assign e X.env::(assignEach es X.env).map (·.2):=by rfl):PGs X (e::es) (Zl1 t u):=by
 intro pins s σ H vs us Q I r h;O⟨v,vr,e1,h⟩:=h;subst e1;cases r with
 |cons r rr=>rw[hs];R assignInOrder_cons (Wv (h1 pins s σ H _ _ _ I r h) λ_ s1 zq9=>?_);O⟨σ1,H1,I1,q1⟩:=zq9;E h2 pins s1 σ1 H1 _ _ Q I1 rr q1
МZq9(K:af)(n:Г)(t:TGs):TG:=λv σ H Q=>∃a xs,v= .ref a/\Ov K H a xs/\xs.length=n/\t xs σ H Q
ЛZn2{es:А c5}{k:Г}{t:TGs}{n:Г}(hc:X.calm=aC)(h:PGs X es t)
  (hn:(assignEach es X.env).length=n:=by rfl) (hst:(assignEach es X.env).findIdx? (·.1)=aB:=by rfl):PG X (.Tuple es k pos) (Zq9 X.K n t):=by
 intro pins s σ H v u Q I r hw;O⟨a,xs,e1,hq,hl,hw⟩:=hw;subst e1;C r;O⟨its,rv,ht,hz⟩:=I.tuple hq;R assign_Tuple_tuple (I.ok.hd hc) ht (by simp[hn,<-hl,rv.length]) hst λh' hx=>?_;V I1:Inv X pins σ H {s with heap:=h'}:=I.kept (t':=s.toks) λb o e=>hx b o (cj (bh e)) e;E h pins _ σ H xs _ Q I1 (by simpa using rv) hw
МZ1j(to ti:TE)(t:Zn1):TG:=λv σ H Q=>to σ H λo H1=>ti σ H1 λi H2=>t o i v H2 λH3=>Q σ H3
МZcp(te:TE)(g:TG):TS:=λD σ H=>te σ H λx H1=>g x σ H1 D.nx
ЛZn3{tg e:c5}{te:TE}{g:TG}(he:PE X e te)(hg:PG X tg g)(hs:swapsWithSole [tg] e pos.line X.env=pure aD:=by rfl)(hw:swappedStores [tg] e X.env=pure aB:=by rfl)
  (h1:(assignEach [tg] X.env).map (·.2)=[assign tg X.env]:=by rfl):PS X (.Assign [tg] e pos) (Zcp te g):=by
 intro pins s σ H D I h;R wpAny_Assign_stores (Wv (he pins s σ H _ I h) λv s1 ⟨x,H1,I1,r1,q1⟩=>?_) hs hw;rw[h1];E Wv (hg pins s1 σ H1 x v _ I1 r1 q1) λ_ s2 q=>q
ЛZep{i:Г}{x:Str}{e:c5}{te:TE}{pos':Pos}(hN:X.N.Nodup)(hi:X.N[i]? =aA x)(hx:Loc X.env.scope x)(he:PE X e te)(hs:swapsWith e (aA (.Name x pos')) pos.line X.env=pure aD:=by rfl)(hf:X.fn x=aC\/X.env.scope.names.lookup x=aA .local:=by first|E .inl rfl|E .inr rfl|assumption):
  PS X (.Assign [.Name x pos'] e pos) (Zcp te (Eh i)):=by
 intro pins s σ H D I h;R wpAny_Assign_Name (Wv (he pins s σ H _ I h) λv s1 ⟨y,H1,I1,r1,q1⟩=>?_) hs;E S4 I1 hN hi hx r1 (λs2 I2=>⟨_,H1,I2,q1⟩) hf
МZ1k(i j:Г)(ta:TA):TS:=λD σ H=>ta σ H λvs H1=>∃v w,vs=[v,w]/\D.nx ((σ.set i (aA v)).set j (aA w)) H1
МZ1l(i:Г)(te:TE)(ti:TIp):TS:=λD σ H=>∃x,σ[i]? =aA (aA x)/\te σ H λy H1=>ti x y H1 λz H2=>D.nx (σ.set i (aA z)) H2
МZzk(to ti te:TE)(tget:V->V->Hp->VK->В)(tip:TIp)(tset:Zn1):TS:=λD σ H=>to σ H λo H1=>ti σ H1 λi H2=>tget o i H2 λx H3=>te σ H3 λy H4=>tip x y H4 λz H5=>tset o i z H5 λH6=>D.nx σ H6
МZ1m(X:Cx)(t:V->V->Hp->VK->В):Prop:=
 ∀(pins:А (aq×Obj)) (s:ao) (σ:St) (H:Hp) (o i:V) (ov iv:am) (Q:VK),Inv X pins σ H s->Zu o ov->Zu i iv->t o i H Q->
  bc (b4 X.prog X.w) X.A (getItem ov iv) (EP X pins σ Q) X.xe s
МipI(f:Int->Int->Int):TIp:=λx y H Q=>∃i j,x= .int i/\y= .int j/\Q (.int (f i j)) H
МZeq(c:TT)(tb:TS):TS:=λD σ H=>∃W:Г->St->Hp->В,(∃m,W m σ H)/\∀m σ H,W m σ H->
 c σ H λb H1=>if b=aC then∃N:St->Hp->В,(∀σ' H',N σ' H'->∃m',m'<m/\W m' σ' H')/\tb {D with nx:=N,ct:=N,bk:=D.nx} σ H1 else D.nx σ H1
ЛZer{c:c5}{body:А Stmt}{tc:TT}{tb:TS}(hp:PassesOwn (b4 X.prog X.w) X.A X.env X.xe)(hc:PT X c tc)(hb:T0 X body tb):PS X (.While c body [] pos) (Zeq tc tb):=by
 intro pins s σ H D I h;O⟨W,⟨m0,w0⟩,turn⟩:=h;R wpAny_While (codeAny_whileLoop (λn s'=>∃σ' H',Inv X pins σ' H' s'/\W n σ' H') ?_ m0 ⟨σ,H,I,w0⟩);rintro n s1 ⟨σ1,H1,I1,w1⟩;R wpAny_passesOwn hp (Wv (hc pins s1 σ1 H1 _ I1 (turn n σ1 H1 w1)) λb s2 zq9=>?_);O⟨H2,I2,q2⟩:=zq9;cases b with
 |true=>
  O⟨N,hN,q2⟩:=q2;rw[Е rfl];R wpAny_passesOwn hp (Wv (hb pins s2 σ1 H2 _ I2 q2) λf s3 q3=>?_);cases f with
  |next=>O⟨σ3,H3,I3,n3⟩:=q3;O⟨m',hm,w3⟩:=hN σ3 H3 n3;E⟨m',hm,σ3,H3,I3,w3⟩
  |cont=>O⟨σ3,H3,I3,n3⟩:=q3;O⟨m',hm,w3⟩:=hN σ3 H3 n3;E⟨m',hm,σ3,H3,I3,w3⟩
  |brk=>E q3
  |ret v=>E q3
 |false=>rw[Д bp];E wpAny_execs_nil ⟨σ1,H2,I2,q2⟩
end
set_option genInjectivity false in
structure It where
 go:Г->Hp->В
 yld:Г->Hp->V->Hp->В
 stop:Г->Hp->В
МUj(X:Cx)(pins:А (aq×Obj))(H:Hp)(b:aq):Prop:=
 H b=aB/\b≠X.env.locals/\b∉X.fs/\(b∈X.ex\/X.s₀.heap.objs.size<=b)/\(∀x c,X.env.cells.lookup x=aA c->c≠b)/\∀p∈X.pn++pins,p.1≠b
ЛInv.fpOk{X:Cx}{pins:А (aq×Obj)}{σ:St}{H H':Hp}{s:ao}{b:aq}(I:Inv X pins σ H s)(hb:s.heap.objs.size<=b)(hn:H' b=aB):Uj X pins H' b:=by
 R⟨hn,Nat.ne_of_gt (di I.lt hb),I.nofs hb,.inr (du I.sz hb),λx c e z=>?_,λp hp z=>?_⟩
 ·O⟨v,q⟩:=I.cell x c e;E absurd (di q.lt (by rw[z];E hb)) (Nat.lt_irrefl _)
 ·E absurd (di (bh (I.pin p hp).1) (by rw[z];E hb)) (Nat.lt_irrefl _)
structure Turn(P:b5)(w:da)(K:af)(tg:c5)(J:It)(fp:А aq)(it:aq)(tn:Г->eh->В):В where
 mem:it∈fp
 obj:∀i h,tn i h->∀b∈fp,∃o,h.get? b=aA o/\∀v,o.data≠.cell v
 keep:∀i h h',tn i h->(∀b∈fp,∀o,h.get? b=aA o->h'.get? b=aA o)->tn i h'
 item:∀(X:Cx),X.prog=P->X.w=w->X.K=K->X.calm=aC->∀(i:Г) (pins:А (aq×Obj)) (s:ao) (σ:St) (H:Hp) (E:am->ao->В),Inv X pins σ H s->(∀b∈fp,Uj X pins H b)->tn i s.heap->J.go i H->
  bc (b4 P w) X.A (pyNext (.ref it)) (λr s1=>∃u,r=aA u/\
   bc (b4 P w) X.A (letOwnedTupleGo tg (.ref it) u) (λ_ s2=>∃x H',Inv X pins σ H' s2/\Zu x u/\J.yld i H x H'/\tn (i+1) s2.heap/\∀b∈fp,H' b=aB) E s1) E s
 done:∀(X:Cx),X.prog=P->X.w=w->X.K=K->X.calm=aC->∀(i:Г) (pins:А (aq×Obj)) (s:ao) (σ:St) (H:Hp) (E:am->ao->В),Inv X pins σ H s->(∀b∈fp,Uj X pins H b)->tn i s.heap->J.stop i H->
  bc (b4 P w) X.A (pyNext (.ref it)) (λr s1=>r=aB/\Inv X pins σ H s1) E s
 self:∀(A:dg) (i:Г) (s:ao) (Q:am->ao->В) (E:am->ao->В),tn i s.heap->Q (.ref it) s->bc (b4 P w) A (pyIter (.ref it)) Q E s
аTI:=St->Hp->(It->Hp->В)->В
МPIE(X:Cx)(pins:А (aq×Obj))(σ:St)(tg:c5)(R:It->Hp->В)(itv:am)(s2:ao):Prop:=
 ∃(it:aq) (fp:А aq) (tn:Г->eh->В) (J:It) (H':Hp),itv= .ref it/\Inv X pins σ H' s2/\Turn X.prog X.w X.K tg J fp it tn/\tn 0 s2.heap/\(∀b∈fp,Uj X pins H' b)/\R J H'
МPI(X:Cx)(tg iter:c5)(wi:TI):Prop:=
 ∀(pins:А (aq×Obj)) (s:ao) (σ:St) (H:Hp) (R:It->Hp->В),Inv X pins σ H s->wi σ H R->
  bc (b4 X.prog X.w) X.A (gy iter X.env) (λv s1=>bc (b4 X.prog X.w) X.A (pyIter v) (PIE X pins σ tg R) X.xe s1) X.xe s
ЛT3{M:Model}{A:dg}{E:am->ao->В}{s:ao}{tg:c5}{it:aq}{u:am}{o:Obj}{n:String}{vs:Array am}{Q:Unit->ao->В}(ho:s.heap.get? it=aA o)(hc:o.cls= .type n)(hd:o.data= .fields vs)
    (hn:["enumerate","zip","dict_itemiterator","dict_reverseitemiterator","odict_iterator","itertools.zip_longest","itertools.pairwise"].contains n=aD) (hQ:Q () s):bc M A (letOwnedTupleGo tg (.ref it) u) Q E s:=by
  unfold letOwnedTupleGo;cases tg<;> first
    |E ah hQ
    | (cases u<;> first
        |E ah hQ
        | (R ad (wpAny_load ho ?_)
           rw[hc,hd];T bc M A (if(["enumerate","zip","dict_itemiterator","dict_reverseitemiterator","odict_iterator","itertools.zip_longest","itertools.pairwise"].contains n&&vs[0]? ==aA (rawInt _))=aC then _ else _) Q E s;rw[Д (by intro h;rw[hn,Bool.false_and]at h;C h)];E ah hQ))
МItl(K:af)(a:aq):It:=
 ⟨λi H=>∃xs x,W8 K H a xs/\xs[i]? =aA x,λi H x H'=>H'=H/\∀xs,W8 K H a xs->xs[i]? =aA x,λi H=>∃xs,W8 K H a xs/\xs.length<=i⟩
МItt(K:af)(a:aq):It:=
 ⟨λi H=>∃xs x,Ov K H a xs/\xs[i]? =aA x,λi H x H'=>H'=H/\∀xs,Ov K H a xs->xs[i]? =aA x,λi H=>∃xs,Ov K H a xs/\xs.length<=i⟩
МItr(lo:Int)(n:Г):It:=⟨λi _=>i<n,λi H x H'=>H'=H/\x= .int (lo+i),λi _=>n<=i⟩
ЛZcq{P:b5}{w:da}{K:af}{tg:c5}(a it:aq):Turn P w K tg (Itl K a) [it] it (λi h=>h.IsListIter it a i)where
 mem:=by simp
 obj:=λi h st b hb=>by
  V e:b=it:=by simpa using hb
  subst e;O⟨o,e,c,d⟩:=st;E⟨o,e,λv z=>by rw[d]at z;C z⟩
 keep:=λi h h' st k=>st.at λo e=>k it К o e
 item:=by intro X hP hw hK hc i pins s σ H E I hf st hg;subst hP hw hK;O⟨xs,x,hq,hx⟩:=hg;O⟨its,rv,p,hz⟩:=I.list hq;O⟨u,hu,ru⟩:=rv.get hx;O⟨f0,f1,f2,f3,f4,f5⟩:=hf it К;R wpAny_pyNext_list_item st p.isList (x:=u) (by simpa using hu) λh' st' sb=>?_;V I1:Inv X pins σ H {s with heap:=h'}:=I.turned (t':=s.toks) (λb o hb e=>(sb.2 b hb).trans e) f0 f1 f3 f4 f5;O⟨o,e,c,d⟩:=id st';E⟨u,rfl,T3 (s:={s with heap:=h'}) e c d Й ⟨x,H,I1,ru,⟨rfl,λys hy=>by rw[I.list_inj hy hq];E hx⟩,st',λb hb=>(hf b hb).1⟩⟩
 done:=by intro X hP hw hK hc i pins s σ H E I hf st hg;subst hP hw hK;O⟨xs,hq,hx⟩:=hg;O⟨its,rv,p,hz⟩:=I.list hq;O⟨f0,f1,f2,f3,f4,f5⟩:=hf it К;V hl:=rv.length;E wpAny_pyNext_list_end (I.ok.hd hc) st p.isList (by simp;W) λh' eb=>⟨rfl,I.turned (t':=s.toks) (λb o hb e=>eb b o hb e) f0 f1 f3 f4 f5⟩
 self:=λ_ _ _ _ _ st h=>wpAny_pyIter_listiter st h
ЛX8{P:b5}{w:da}{K:af}{tg:c5}(a it:aq):Turn P w K tg (Itt K a) [it] it (λi h=>h.IsTupleIter it a i)where
 mem:=by simp
 obj:=λi h st b hb=>by
  V e:b=it:=by simpa using hb
  subst e;O⟨o,e,c,d⟩:=st;E⟨o,e,λv z=>by rw[d]at z;C z⟩
 keep:=λi h h' st k=>st.at λo e=>k it К o e
 item:=by intro X hP hw hK hc i pins s σ H E I hf st hg;subst hP hw hK;O⟨xs,x,hq,hx⟩:=hg;O⟨its,rv,p,hz⟩:=I.tuple hq;O⟨u,hu,ru⟩:=rv.get hx;O⟨f0,f1,f2,f3,f4,f5⟩:=hf it К;R wpAny_pyNext_tuple_item st (show s.heap.IsTuple a its.toArray from p) (x:=u) (by simpa using hu) λh' st' sb=>?_;V I1:Inv X pins σ H {s with heap:=h'}:=I.turned (t':=s.toks) (λb o hb e=>(sb.2 b hb).trans e) f0 f1 f3 f4 f5;O⟨o,e,c,d⟩:=id st';E⟨u,rfl,T3 (s:={s with heap:=h'}) e c d Й ⟨x,H,I1,ru,⟨rfl,λys hy=>by rw[I.tuple_inj hy hq];E hx⟩,st',λb hb=>(hf b hb).1⟩⟩
 done:=by intro X hP hw hK hc i pins s σ H E I hf st hg;subst hP hw hK;O⟨xs,hq,hx⟩:=hg;O⟨its,rv,p,hz⟩:=I.tuple hq;O⟨f0,f1,f2,f3,f4,f5⟩:=hf it К;V hl:=rv.length;E wpAny_pyNext_tuple_end (I.ok.hd hc) st (show s.heap.IsTuple a its.toArray from p) (by simp;W) λh' eb=>⟨rfl,I.turned (t':=s.toks) (λb o hb e=>eb b o hb e) f0 f1 f3 f4 f5⟩
 self:=λ_ _ _ _ _ st h=>wpAny_pyIter_tupleiter st h
ЛX9{P:b5}{w:da}{K:af}{tg:c5}(it:aq)(lo:Int)(n:Г):Turn P w K tg (Itr lo n) [it] it (λi h=>IsRangeIter h it (lo+(i:Г)*1) ((n:Int)- (i:Г)) 1)where
 mem:=by simp
 obj:=λi h st b hb=>by
  V e:b=it:=by simpa using hb
  subst e;E⟨_,st,λv z=>by
   V z':Data.fields _=Data.cell v:=z;C z'⟩
 keep:=λi h h' st k=>k it К _ st
 item:=by intro X hP hw hK hc i pins s σ H E I hf st hg;subst hP hw hK;O⟨f0,f1,f2,f3,f4,f5⟩:=hf it К;V W:=Walks.range (prog:=X.prog) (w:=X.w) (I.ok.hd hc) it lo 1 n;R W.item i s _ _ hg st λv h' tk hv st' kk=>?_;O⟨t,rfl⟩:=hv;V I1:Inv X pins σ H {s with heap:=h',toks:=tk}:=I.turned (λb o hb e=>kk b o (by simpa using hb) e) f0 f1 f3 f4 f5;R⟨_,rfl,T3 (s:={s with heap:=h',toks:=tk}) (n:="range_iterator") st' rfl rfl Й ⟨.int (lo+i),H,I1,⟨t,?_⟩,⟨rfl,rfl⟩,st',λb hb=>(hf b hb).1⟩⟩;rw[Int.mul_one]
 done:=by intro X hP hw hK hc i pins s σ H E I hf st hg;subst hP hw hK;O⟨f0,f1,f2,f3,f4,f5⟩:=hf it К;E wpAny_pyNext_range_end (I.ok.hd hc) st (by V :n<=i:=hg;W) λh' eb=>⟨rfl,I.turned (t':=s.toks) (λb o hb e=>eb b o hb e) f0 f1 f3 f4 f5⟩
 self:=λ_ _ _ _ _ st h=>wpAny_pyIter_rangeiter st h
section
variable{X:Cx}{tg:c5}
МZzm(K:af)(tl:TE):TI:=λσ H R=>tl σ H λx H1=>∃a,x= .ref a/\(∃xs,W8 K H1 a xs)/\R (Itl K a) H1
МZ1n(K:af)(tl:TE):TI:=λσ H R=>tl σ H λx H1=>∃a,x= .ref a/\(∃xs,Ov K H1 a xs)/\R (Itt K a) H1
ЛZes{pins:А (aq×Obj)}{σ:St}{H:Hp}{s:ao}{R:It->Hp->В}{E:am->ao->В}{lo hi:Int}{t u v:Tok}{tk:Г}(I:Inv X pins σ H s)(h1:-(2^62)<=lo)(h2:lo<2^62)(h3:-(2^62)<=hi)(h4:hi<2^62)
  (q:R (Itr lo (hi- lo).toNat) H):bc (b4 X.prog X.w) X.A (pyIter (.ref s.heap.objs.size)) (PIE X pins σ tg R) E {s with heap:=s.heap.push {cls:=.type "range",data:=.fields #[.int lo t,.int hi u,.int 1 v]},toks:=tk}:=by
 R wpAny_pyIter_range (IsRange.new ..) (small_one h1 h2 h3 h4) ?_;V I1:Inv X pins σ H {s with heap:=s.heap.push {cls:=.type "range",data:=.fields #[.int lo t,.int hi u,.int 1 v]},toks:=tk}:=I.kept λb o e=>av _ e;R⟨(s.heap.push {cls:=.type "range",data:=.fields #[.int lo t,.int hi u,.int 1 v]}).objs.size,[(s.heap.push {cls:=.type "range",data:=.fields #[.int lo t,.int hi u,.int 1 v]}).objs.size],_,_,H,rfl,
  I1.kept (t':=tk) λb o e=>av _ e,X9 _ lo (hi- lo).toNat,?_,λb hb=>?_,q⟩
 ·V e1:lo+((0:Г):Int)*1=lo:=by simp
  V e2:(((hi- lo).toNat:Г):Int)- ((0:Г):Int)=Builtin.Range.rangeSize lo hi 1:=by rw[rangeSize_one];split<;> W
  T IsRangeIter _ _ (lo+((0:Г):Int)*1) ((((hi- lo).toNat:Г):Int)- ((0:Г):Int)) 1;rw[e1,e2];E ba _ rfl
 ·V e:b=(s.heap.push {cls:=.type "range",data:=.fields #[.int lo t,.int hi u,.int 1 v]}).objs.size:=by simpa using hb
  subst e;E I1.fpOk (a6 _) (I1.hok.fresh (a6 _))
МZl2(ta:TA):TI:=λσ H R=>ta σ H λvs H1=>∃j:Int,vs=[.int j]/\-(2^62)<=j/\j<2^62/\R (Itr 0 j.toNat) H1
МZzn(ta:TA):TI:=λσ H R=>ta σ H λvs H1=>∃i j:Int,vs=[.int i,.int j]/\(-(2^62)<=i/\i<2^62/\-(2^62)<=j/\j<2^62)/\R (Itr i (j- i).toNat) H1
ЛZcr{a:c5}{ta:TA}{p pos:Pos}(hg:Gl X "range")(hm:X.mg "range"=aB)(ha:PA X [a] ta)(hs:bd [a] X.env=[(aD,gy a X.env)]:=by rfl):PI X tg (.Call (.Name "range" p) [a] [] pos) (Zl2 ta):=by
 intro pins s σ H R I h;R Call_ (Bt I hg hm boot_range (PyProof.Rows.callWith_type1 (Wv (ha pos pins s σ H _ I h) λus s1 ⟨vs,H1,I1,r1,q1⟩=>?_) hs rfl));O⟨j,e,q1,q2,q⟩:=q1;subst e;cases r1 with
 |cons r rr=>C rr;O⟨t,rfl⟩:=r;E call_range_1 (Zes I1 И И q1 q2 (by simpa using q))
МZrd(wi:TI)(g:TG)(tb:TS):TS:=λD σ H=>wi σ H λJ H1=>∃W:Г->Г->St->Hp->В,(∃m,W 0 m σ H1)/\∀i m σ H,W i m σ H->
 (J.stop i H/\D.nx σ H)\/(J.go i H/\∃N:St->Hp->В,(∀σ' H',N σ' H'->∃m',m'<m/\W (i+1) m' σ' H')/\∀x H',J.yld i H x H'->g x σ H' λσ2 H2=>tb {D with nx:=N,ct:=N,bk:=D.nx} σ2 H2)
МEi(fp:А aq)(h:eh):А (aq×Obj):=fp.filterMap λb=>(h.get? b).map λo=>(b,o)
ЛBu{fp:А aq}{h:eh}{b:aq}{o:Obj}(hb:b∈fp)(e:h.get? b=aA o):(b,o)∈Ei fp h:=List.mem_filterMap.mpr ⟨b,hb,by rw[e];rfl⟩
ЛZcs{fp:А aq}{h:eh}{p:aq×Obj}(hp:p∈Ei fp h):p.1∈fp/\h.get? p.1=aA p.2:=by
 O⟨b,hb,e⟩:=List.mem_filterMap.mp hp;cases q:h.get? b with
 |none=>rw[q]at e;C e
 |some o=>rw[q]at e;V e':(b,o)=p:=dk.inj e;subst e';E⟨hb,q⟩
ЛInv.pinned{pins:А (aq×Obj)}{σ:St}{H:Hp}{s:ao}{fp:А aq}(I:Inv X pins σ H s)(hf:∀b∈fp,Uj X pins H b)(ho:∀b∈fp,∃o,s.heap.get? b=aA o/\∀v,o.data≠.cell v):Inv X (pins++Ei fp s.heap) σ H s:=
 I.pins_of λp hp=>(bj.mp hp).elim (λz=>I.pin p (bx _ z)) λz=>by O⟨hb,e⟩:=Zcs z;O⟨f0,f1,f2,_⟩:=hf p.1 hb;O⟨o,e',d⟩:=ho p.1 hb;rw[e]at e';C e';E⟨e,f0,f1,f2,d⟩
ЛInv.unpinned{pins pl:А (aq×Obj)}{σ:St}{H:Hp}{s:ao}(I:Inv X (pins++pl) σ H s):Inv X pins σ H s:=I.pins_of λp hp=>I.pin p (bx _ (cf _ hp))
ЛZn4 {iter : c5} {body : А Stmt} {wi : TI} {g : TG} {tb : TS} {pos : Pos} (hp : PassesOwn (b4 X.prog X.w) X.A X.env X.xe) (hc : X.calm = aC) (hi : PI X tg iter wi) (hg : PG X tg g) (hb : T0 X body tb)
    (hs : ∀ x, foldedSetIterable iter X.env x = pure x := by intro _; rfl) : PS X (.For tg iter body [] pos) (Zrd wi g tb) := by
  intro pins s σ H D I h;R wpAny_For (Wv (hi pins s σ H _ I h) λv s1 h1 => Wv h1 λitv s2 h2 => ?_) hs;obtain ⟨it, fp, tn, J, H2, e, I2, T, st2, f2, W, ⟨m0, w0⟩, turn⟩ := h2;subst e
  -- what stays aC of the iterator's objects through the loop
  V stat : ∀ {H' : Hp}, (∀ b ∈ fp, H' b = aB) -> ∀ b ∈ fp, Uj X pins H' b := λhn b hb => ⟨hn b hb, (f2 b hb).2⟩
  R codeAny_forLoop_any (λn s' => ∃ i σ' H', Inv X pins σ' H' s' /\ tn i s'.heap /\ (∀ b ∈ fp, H' b = aB) /\ W i n σ' H') ?_ m0 ⟨0, σ, H2, I2, st2, λb hb => (f2 b hb).1, w0⟩;rintro n s3 ⟨i, σ3, H3, I3, st3, fr3, w3⟩;rcases turn i n σ3 H3 w3 with ⟨stop, qn⟩ | ⟨go, N, hN, step⟩
  · R wpAny_passesOwn hp (Wv (T.done X rfl rfl rfl hc i pins s3 σ3 H3 X.xe I3 (stat fr3) st3 stop) λr s4 ⟨hr, I4⟩ => ?_)
    subst hr;E wpAny_execs_nil ⟨σ3, H3, I4, qn⟩
  · R wpAny_passesOwn hp (Wv (T.item X rfl rfl rfl hc i pins s3 σ3 H3 X.xe I3 (stat fr3) st3 go) λr s4 ⟨u, hr, h4⟩ => ?_)
    subst hr;R wpAny_passesOwn hp (Wv h4 λ_ s5 zq9 => ?_);obtain ⟨x, H5, I5, r5, y5, st5, fr5⟩ := zq9;V I5' := I5.pinned (stat fr5) (T.obj _ _ st5);R wpAny_passesOwn hp (Wv (hg _ s5 σ3 H5 x u _ I5' r5 (step x H5 y5)) λ_ s6 zq9 => ?_);obtain ⟨σ6, H6, I6, q6⟩ := zq9;R wpAny_passesOwn hp (Wv (hb _ s6 σ6 H6 _ I6 q6) λf s7 q7 => ?_);V again : ∀ {σ7 : St} {H7 : Hp}, Inv X (pins ++ Ei fp s5.heap) σ7 H7 s7 -> N σ7 H7 -> ∃ m, m < n /\ ∃ i σ' H', Inv X pins σ' H' s7 /\ tn i s7.heap /\ (∀ b ∈ fp, H' b = aB) /\ W i m σ' H' := λ{σ7 H7} I7 n7 => by obtain ⟨m', hm, w7⟩ := hN σ7 H7 n7;R⟨m', hm, i + 1, σ7, H7, I7.unpinned, T.keep _ _ _ st5 λb hb o e => (I7.pin (b, o) (bx _ (bx _ (Bu hb e)))).1, λb hb => ?_, w7⟩;obtain ⟨o, e, d⟩ := T.obj _ _ st5 b hb;E(I7.pin (b, o) (bx _ (bx _ (Bu hb e)))).2.1
    cases f with
    | next => obtain ⟨σ7, H7, I7, n7⟩ := q7; E again I7 n7
    | cont => obtain ⟨σ7, H7, I7, n7⟩ := q7; E again I7 n7
    | brk => obtain ⟨σ7, H7, I7, q7⟩ := q7; E⟨σ7, H7, I7.unpinned, q7⟩
    | ret v => obtain ⟨x7, σ7, H7, I7, r7, q7⟩ := q7; E⟨x7, σ7, H7, I7.unpinned, r7, q7⟩
end
аR2:=V->V->Hp->VK->В
МCw(X:Cx)(f:am->am->Sem am)(r:R2):Prop:=
 ∀(pins:А (aq×Obj)) (s:ao) (σ:St) (H:Hp) (x y:V) (v u:am) (Q:VK),Inv X pins σ H s->Zu x v->Zu y u->r x y H Q->
  bc (b4 X.prog X.w) X.A (f v u) (EP X pins σ Q) X.xe s
МUnR(X:Cx)(f:am->Sem am)(r:V->Hp->VK->В):Prop:=
 ∀(pins:А (aq×Obj)) (s:ao) (σ:St) (H:Hp) (x:V) (v:am) (Q:VK),Inv X pins σ H s->Zu x v->r x H Q->
  bc (b4 X.prog X.w) X.A (f v) (EP X pins σ Q) X.xe s
МQ6(X:Cx)(f:am)(r:А V->Hp->VK->В):Prop:=
 ∀(pins:А (aq×Obj)) (s:ao) (σ:St) (H:Hp) (xs:А V) (us:А am) (Q:VK),Inv X pins σ H s->Z3 xs us->r xs H Q->
  bc (b4 X.prog X.w) X.A (call f us) (EP X pins σ Q) X.xe s
МZ1o(X:Cx)(r:V->Hp->(Bool->Hp->В)->В):Prop:=
 ∀(pins:А (aq×Obj)) (s:ao) (σ:St) (H:Hp) (x:V) (v:am) (Q:Bool->Hp->В),Inv X pins σ H s->Zu x v->r x H Q->
  bc (b4 X.prog X.w) X.A (truthy v) (TP X pins σ Q) X.xe s
МtOp(r:R2)(ta tb:TE):TE:=λσ H Q=>ta σ H λx H1=>tb σ H1 λy H2=>r x y H2 Q
МtUn(r:V->Hp->VK->В)(ta:TE):TE:=λσ H Q=>ta σ H λx H1=>r x H1 Q
МrI(C:Int->Int->В)(g:Int->Int->V):R2:=λx y H Q=>∃i j,x= .int i/\y= .int j/\C i j/\Q (g i j) H
МrI0(g:Int->Int->V):R2:=λx y H Q=>∃i j,x= .int i/\y= .int j/\Q (g i j) H
МrU(g:Int->V):V->Hp->VK->Prop:=λx H Q=>∃i,x= .int i/\Q (g i) H
section
variable{X:Cx}{a b c:c5}{ta tb tc:TE}{pos:Pos}
ЛZn5(ha:PE X a ta)(hb:PE X b tb){pins:А (aq×Obj)}{s:ao}{σ:St}{H:Hp}{R:V->V->Hp->В}(I:Inv X pins σ H s)
  (h:ta σ H λx H1=>tb σ H1 λy H2=>R x y H2) {Q:am->ao->В} {f:am->am->Sem am}
  (hf:∀v u s2 x y H2,Inv X pins σ H2 s2->Zu x v->Zu y u->R x y H2->bc (b4 X.prog X.w) X.A (f v u) Q X.xe s2):
  bc (b4 X.prog X.w) X.A (gy a X.env) (λv s₁=>bc (b4 X.prog X.w) X.A (gy b X.env) (λu s₂=>bc (b4 X.prog X.w) X.A (f v u) Q X.xe s₂) X.xe s₁) X.xe s:=by
 R Wv (ha pins s σ H _ I h) λv s1 zq9=>?_;O⟨x,H1,I1,r1,q1⟩:=zq9;R Wv (hb pins s1 σ H1 _ I1 q1) λu s2 zq9=>?_;O⟨y,H2,I2,r2,q2⟩:=zq9;E hf v u s2 x y H2 I2 r1 r2 q2
ЛZre{op:Operator}{r:R2}(ho:Cw X (binaryOp op) r)(ha:PE X a ta)(hb:PE X b tb):PE X (.BinOp a op b pos) (tOp r ta tb):=by intro pins s σ H Q I h;E wpAny_BinOp (Zn5 ha hb I h λv u s2 x y H2 I2 rx ry q=>ho pins s2 σ H2 x y v u Q I2 rx ry q)
ЛopI{f:am->am->Sem am}{C:Int->Int->В}{g:Int->Int->Int}
  (rule:∀(i j:Int) (t u:Tok) (s:ao) (Q:am->ao->В) (E:am->ao->В),C i j->Q (.int (g i j) s.toks) {s with toks:=s.toks+1}->bc (b4 X.prog X.w) X.A (f (.int i t) (.int j u)) Q E s):
  Cw X f (rI C λi j=>.int (g i j)):=by
 intro pins s σ H x y v u Q I rx ry h;O⟨i,j,rfl,rfl,hc,q⟩:=h;O⟨t,rfl⟩:=rx;O⟨t',rfl⟩:=ry;E rule i j t t' s _ _ hc ⟨.int (g i j),H,I.tok _,⟨_,rfl⟩,q⟩
ЛZwj{f:am->am->Sem am}{g:Int->Int->Int}
  (rule:∀(i j:Int) (t u:Tok) (s:ao) (Q:am->ao->В) (E:am->ao->В),Q (.int (g i j) s.toks) {s with toks:=s.toks+1}->bc (b4 X.prog X.w) X.A (f (.int i t) (.int j u)) Q E s):
  Cw X f (rI0 λi j=>.int (g i j)):=by
 intro pins s σ H x y v u Q I rx ry h;O⟨i,j,rfl,rfl,q⟩:=h;O⟨t,rfl⟩:=rx;O⟨t',rfl⟩:=ry;E rule i j t t' s _ _ ⟨.int (g i j),H,I.tok _,⟨_,rfl⟩,q⟩
ЛZrf{f:am->am->Sem am}{g:Int->Int->Bool}
  (rule:∀(i j:Int) (t u:Tok) (s:ao) (Q:am->ao->В) (E:am->ao->В),Q (.bool (g i j)) s->bc (b4 X.prog X.w) X.A (f (.int i t) (.int j u)) Q E s):
  Cw X f (rI0 λi j=>.bl (g i j)):=by
 intro pins s σ H x y v u Q I rx ry h;O⟨i,j,rfl,rfl,q⟩:=h;O⟨t,rfl⟩:=rx;O⟨t',rfl⟩:=ry;E rule i j t t' s _ _ ⟨.bl (g i j),H,I,rfl,q⟩
МZrg(i j:Int):Prop:=0<j/\j<1073741824
МZzo(i j:Int):Prop:=j≠0/\j.natAbs<1073741824
МZ1q(i j:Int):Prop:=0<=j/\j<=1000000/\i.natAbs<2^64
МZet(i j:Int):Prop:=(-(2^64)<i/\i<2^64)\/(-(2^64)<j/\j<2^64)
ЛZet.ok{i j:Int}(h:Zet i j):IntMulOk i j:=by
 rcases h with⟨h1,h2⟩|⟨h1,h2⟩
 ·E .of_left (intBits_le_64 h1 h2)
 ·E .of_right (intBits_le_64 h1 h2)
ЛZn6:Cw X (binaryOp .Add) (rI0 λi j=>.int (i+j)):=Zwj λ_ _ _ _ _ _ _ q=>add_int q
ЛZn7:Cw X (binaryOp .Mult) (rI Zet λi j=>.int (i*j)):=opI λ_ _ _ _ _ _ _ hc q=>mul_int q hc.ok
ЛZjc:Cw X (binaryOp .FloorDiv) (rI Zrg λi j=>.int (i / j)):=opI λi j _ _ _ _ _ hc q=>by V h1:(0:Int)<j:=hc.1;V h2:j<1073741824:=hc.2;E floordiv_int И (by rw[Int.fdiv_eq_ediv_of_nonneg i И];E q) (.inl (PyProof.noPylong_small И))
ЛZn8:Cw X (binaryOp .Mod) (rI (λ_ j=>0<j) λi j=>.int (i % j)):=opI λi j _ _ _ _ _ hc q=>by V h1:(0:Int)<j:=hc;E mod_int' И (by rw[Int.fmod_eq_emod_of_nonneg i И];E q)
end
Мscal:V->V->Bool
 | .non,.non=>aC| .non,.int _=>aC| .int _,.non=>aC| .non,.bl _=>aC| .bl _,.non=>aC| .non,.str _=>aC| .str _,.non=>aC
 | .int _,.int _=>aC| .bl _,.bl _=>aC| .str _,.str _=>aC| .byt _,.byt _=>aC
 | .int _,.str _=>aC| .str _,.int _=>aC| .bl _,.str _=>aC| .str _,.bl _=>aC
 |_,_=>aD
МrEq:R2:=λx y H Q=>scal x y=aC/\Q (.bl (decide (x=y))) H
МrNe:R2:=λx y H Q=>scal x y=aC/\Q (.bl (!decide (x=y))) H
ЛZam{i j:Int}:decide (V.int i=V.int j)=(i==j):=by rw[Bool.eq_iff_iff];simp
ЛZeu{i j:Bool}:decide (V.bl i=V.bl j)=(i==j):=by rw[Bool.eq_iff_iff];simp
ЛZan{i j:Str}:decide (V.str i=V.str j)=(i==j):=by rw[Bool.eq_iff_iff];simp
ЛZao{i j:Array UInt8}:decide (V.byt i=V.byt j)=(i.toList==j.toList):=by rw[Bool.eq_iff_iff];C i;C j;simp
section
variable{X:Cx}{a b c:c5}{ta tb tc:TE}{pos:Pos}
ЛYk{pins:А (aq×Obj)}{σ:St}{H:Hp}{s:ao}{Q:VK}{k k':Bool}(I:Inv X pins σ H s)(q:Q (.bl k) H)(e:k=k'):EP X pins σ Q (.bool k') s:=by subst e;E⟨.bl k,H,I,rfl,q⟩
ЛZl3:Cw X (gz .Eq) rEq:=by
 intro pins s σ H x y v u Q I rx ry h;O⟨hs,q⟩:=h;cases x with
 |non=>
  C rx;cases y with
  |non=>C ry;E PySem.EqNone.eq_none_none (Yk I q К)
  |bl j=>C ry;E PySem.EqNone.eq_none_bool (Yk I q К)
  |int j=>O⟨t',rfl⟩:=ry;E PySem.EqNone.eq_none_int (Yk I q К)
  |str j=>O⟨t',rfl⟩:=ry;E PySem.EqNone.eq_none_str (Yk I q К)
  |_=>E absurd (show aD=aC from hs) bp
 |bl i=>
  C rx;cases y with
  |non=>C ry;E PySem.EqNone.eq_bool_none (Yk I q К)
  |bl j=>C ry;E eq_bool (Yk I q Zeu)
  |str j=>O⟨t',rfl⟩:=ry;E PySem.EqMixed.eq_bool_str (Yk I q К)
  |_=>E absurd (show aD=aC from hs) bp
 |int i=>
  O⟨t,rfl⟩:=rx;cases y with
  |non=>C ry;E PySem.EqNone.eq_int_none (Yk I q К)
  |int j=>O⟨t',rfl⟩:=ry;E eq_int (Yk I q Zam)
  |str j=>O⟨t',rfl⟩:=ry;E PySem.EqMixed.eq_int_str (Yk I q К)
  |_=>E absurd (show aD=aC from hs) bp
 |str i=>
  O⟨t,rfl⟩:=rx;cases y with
  |non=>C ry;E PySem.EqNone.eq_str_none (Yk I q К)
  |bl j=>C ry;E PySem.EqMixed.eq_str_bool (Yk I q К)
  |int j=>O⟨t',rfl⟩:=ry;E PySem.EqMixed.eq_str_int (Yk I q К)
  |str j=>O⟨t',rfl⟩:=ry;E eq_str (Yk I q Zan)
  |_=>E absurd (show aD=aC from hs) bp
 |byt i=>
  O⟨t,rfl⟩:=rx;cases y with
  |byt j=>O⟨t',rfl⟩:=ry;E PySem.W.eq_bytes (Yk I q Zao)
  |_=>E absurd (show aD=aC from hs) bp
 |_=>cases y<;> E absurd (show aD=aC from hs) bp
ЛZrh:Cw X (gz .NotEq) rNe:=by
 intro pins s σ H x y v u Q I rx ry h;O⟨hs,q⟩:=h;cases x with
 |non=>
  C rx;cases y with
  |non=>C ry;E PySem.EqNone.ne_none_none (Yk I q К)
  |bl j=>C ry;E PySem.EqNone.ne_none_bool (Yk I q К)
  |int j=>O⟨t',rfl⟩:=ry;E PySem.EqNone.ne_none_int (Yk I q К)
  |str j=>O⟨t',rfl⟩:=ry;E PySem.EqNone.ne_none_str (Yk I q К)
  |_=>E absurd (show aD=aC from hs) bp
 |bl i=>
  C rx;cases y with
  |non=>C ry;E PySem.EqNone.ne_bool_none (Yk I q К)
  |bl j=>C ry;E ne_bool (Yk I q (congrArg not Zeu))
  |str j=>O⟨t',rfl⟩:=ry;E PySem.EqMixed.ne_bool_str (Yk I q К)
  |_=>E absurd (show aD=aC from hs) bp
 |int i=>
  O⟨t,rfl⟩:=rx;cases y with
  |non=>C ry;E PySem.EqNone.ne_int_none (Yk I q К)
  |int j=>O⟨t',rfl⟩:=ry;E ne_int (Yk I q (congrArg not Zam))
  |str j=>O⟨t',rfl⟩:=ry;E PySem.EqMixed.ne_int_str (Yk I q К)
  |_=>E absurd (show aD=aC from hs) bp
 |str i=>
  O⟨t,rfl⟩:=rx;cases y with
  |non=>C ry;E PySem.EqNone.ne_str_none (Yk I q К)
  |bl j=>C ry;E PySem.EqMixed.ne_str_bool (Yk I q К)
  |int j=>O⟨t',rfl⟩:=ry;E PySem.EqMixed.ne_str_int (Yk I q К)
  |str j=>O⟨t',rfl⟩:=ry;E ne_str (Yk I q (congrArg not Zan))
  |_=>E absurd (show aD=aC from hs) bp
 |byt i=>
  O⟨t,rfl⟩:=rx;cases y with
  |byt j=>O⟨t',rfl⟩:=ry;E PySem.W.ne_bytes (Yk I q (congrArg not Zao))
  |_=>E absurd (show aD=aC from hs) bp
 |_=>cases y<;> E absurd (show aD=aC from hs) bp
ЛZri:Cw X (gz .Lt) (rI0 λi j=>.bl (decide (i<j))):=Zrf λ_ _ _ _ _ _ _ q=>lt_int q
ЛZrj:Cw X (gz .Gt) (rI0 λi j=>.bl (decide (j<i))):=Zrf λ_ _ _ _ _ _ _ q=>gt_int q
ЛZct:Cw X (gz .In) (λx y H Q=>∃i j,x= .str i/\y= .str j/\Q (.bl (!(dr j i 0 j.length 1).isEmpty)) H):=by intro pins s σ H x y v u Q I rx ry h;O⟨i,j,rfl,rfl,q⟩:=h;O⟨t,rfl⟩:=rx;O⟨t',rfl⟩:=ry;E in_str (Yk I q rfl)
МZzp:HO->Bool
 | .lst _=>aC
 | .ins _ _ _=>aC
 |_=>aD
ЛCw.or{f:am->am->Sem am}{r r':R2}(h:Cw X f r)(h':Cw X f r'):Cw X f (λx y H Q=>r x y H Q\/r' x y H Q):=by
 intro pins s σ H x y v u Q I rx ry q;rcases q with q|q
 ·E h pins s σ H x y v u Q I rx ry q
 ·E h' pins s σ H x y v u Q I rx ry q
ЛEj(b:c5){op:CmpOp}(h:op≠.In:=by decide)(h2:op≠.NotIn:=by decide):behindInMarks op b=aD:=by
 V e1:(op==CmpOp.In)=aD:=by cases op<;> first|rfl|E absurd rfl h
 V e2:(op==CmpOp.NotIn)=aD:=by cases op<;> first|rfl|E absurd rfl h2
 cases b<;> simp[behindInMarks,e1,e2]
ЛZjd{op:CmpOp}{r:R2}(ho:Cw X (gz op) r)(ha:PE X a ta)(hb:PE X b tb)(hm:behindInMarks op b=aD):PE X (.Compare a [op] [b] pos) (tOp r ta tb):=by intro pins s σ H Q I h;E wpAny_Compare1 (Zn5 ha hb I h λv u s2 x y H2 I2 rx ry q=>ho pins s2 σ H2 x y v u Q I2 rx ry q) hm
МZl4(t:TE):TT:=λσ H Q=>t σ H λx H'=>∃k,x= .bl k/\Q k H'
ЛZje{op:CmpOp}{r:R2}(ho:Cw X (gz op) r)(ha:PE X a ta)(hb:PE X b tb)(hm:behindInMarks op b=aD):PT X (.Compare a [op] [b] pos) (Zl4 (tOp r ta tb)):=by
 intro pins s σ H Q I h;R wpAny_isTrue_Compare1 (Wv (ha pins s σ H _ I h) λv s1 ⟨x,H1,I1,r1,q1⟩=>Wv (hb pins s1 σ H1 _ I1 q1) λu s2 ⟨y,H2,I2,r2,q2⟩=>
  Wv (ho pins s2 σ H2 x y v u _ I2 r1 r2 q2) λc s3 ⟨z,H3,I3,r3,k,e,q3⟩=>?_) hm
 subst e;C r3;E wpAny_truthy_bool ⟨H3,I3,q3⟩
МZwm(r r':R2)(ta tb tc:TE):TE:=λσ H Q=>ta σ H λx H1=>tb σ H1 λy H2=>r x y H2 λz H3=>∃k,z= .bl k/\
 (if k=aC then tc σ H3 λw' H4=>r' y w' H4 Q else Q (.bl aD) H3)
МZ1r(K:af)(x:V)(H:Hp)(k:Bool):Prop:=
 match x with
 | .non=>k=aD
 | .bl b=>k=b
 | .int i=>k=(i !=0)
 | .str y=>y.length<=sizeLine/\k=((y.length:Int) !=0)
 | .byt y=>y.size<=sizeLine/\k=((y.size:Int) !=0)
 | .ref p=>(∃xs,W8 K H p xs/\k= !xs.isEmpty)\/(∃xs,Ov K H p xs/\k= !xs.isEmpty)\/∃kvs,HK H p kvs/\k= !kvs.isEmpty
 |_=>False
ЛEk:(sizeLine:Г)<2^63:=by rw[f6];decide
ЛHa:Cw X (binaryOp .Add) (λx y H Q=>∃i j,x= .str i/\y= .str j/\i.length+j.length<=sizeLine/\Q (.str (i++j)) H):=by intro pins s σ H x y v u Q I rx ry h;O⟨i,j,rfl,rfl,hz,q⟩:=h;O⟨t,rfl⟩:=rx;O⟨t',rfl⟩:=ry;E add_str (λt' tk=>⟨.str (i++j),H,I.tok _,⟨_,rfl⟩,q⟩) hz
МZrk(b:c5):Prop:=∀o i,subscripted b aD o i=operate [o,i] (getItem o i)
ЛUl{x:V}{us:А am}(r:Z3 [x] us):∃u,us=[u]/\Zu x u:=by
 cases r with
 |cons r1 r2=>C r2;E⟨_,rfl,r1⟩
ЛZl5{x y:V}{us:А am}(r:Z3 [x,y] us):∃u w',us=[u,w']/\Zu x u/\Zu y w':=by
 cases r with
 |cons r1 r2=>
  cases r2 with
  |cons r3 r4=>C r4;E⟨_,_,rfl,r1,r3⟩
ЛZcu:Q6 X (.type "int") (λxs H Q=>(∃i,xs=[.int i]/\Q (.int i) H)\/∃k,xs=[.bl k]/\Q (.int (if k then 1 else 0)) H):=by
 intro pins s σ H xs us Q I r h;rcases h with⟨i,rfl,q⟩|⟨k,rfl,q⟩
 ·O⟨u,rfl,t,rfl⟩:=Ul r;E call_int_int ⟨.int i,H,I,⟨_,rfl⟩,q⟩
 ·O⟨u,rfl,r1⟩:=Ul r;C r1;E call_int_bool ⟨.int (if k then 1 else 0),H,I.tok _,⟨_,rfl⟩,q⟩
ЛN0:Q6 X (.type "str") (λxs H Q=>∃i,xs=[.int i]/\i.natAbs.log2<1920/\Q (.str (toString i)) H):=by intro pins s σ H xs us Q I r h;O⟨i,rfl,hz,q⟩:=h;O⟨u,rfl,t,rfl⟩:=Ul r;E PySem.P.str_of_int hz ⟨.str _,H,I.tok _,⟨_,rfl⟩,q⟩
МZ1s(K:af)(x:V)(H:Hp)(n:Г):Prop:=
 match x with
 | .str y=>y.length<=sizeLine/\n=y.length
 | .byt y=>y.size<=sizeLine/\n=y.size
 | .ref p=>(∃xs,W8 K H p xs/\n=xs.length)\/∃xs,Ov K H p xs/\n=xs.length
 |_=>False
end
structure ObjM(h:eh)(x dx C:aq)(mA:Str->Б am):В where
 obj:h.get? x=aA (PySem.W.instObj C dx)
 ns:h.Ns1 dx mA
 ne:dx≠x
МRk(f:Str)(v:V):А (Str×V)->А (Str×V)
  | []=>[(f,v)]
  | (g,x)::r=>if g=f then(g,v)::r else(g,x)::Rk f v r
ЛR9.some_of{v:V}{o:Б am}(r:R9 (aA v) o):∃u,o=aA u/\Zu v u:=by
 cases o with
 |none=>E(show False from r).elim
 |some u=>E⟨u,rfl,r⟩
structure Cls(K:af)(C:aq):В where
 pg:PySem.W.plainGet K C Str.empty=aC
 hd:PySem.W.hasDictIn K C=aC
 po:PySem.W.plainOver K C=aC
 sa:PySem.W.findIn K (.ref C) "__setattr__"=aA (aA (.builtin "object.__setattr__"))
МHb(K:af)(C:aq)(f:Str):Prop:=PySem.W.findIn K (.ref C) f=aA aB
structure Con(K:af)(C:aq)(f:Str)(v:V)(u:am):В where
 at_:PySem.W.findIn K (.ref C) f=aA (aA u)
 rel:Zu v u
 get:PySem.W.specialIn K u "__get__"=aA aB
 cp:PySem.W.copiedNames.contains f=aD
structure Meth(K:af)(C:aq)(m:Str)(f:aq):В where
 at_:PySem.W.findIn K (.ref C) m=aA (aA (.ref f))
 fn:PySem.W.isFn K (.ref f)=aC
 kp:bn K (.ref f)=aC
МZ1t(K:af)(ta:TE)(f:Str):TE:=λσ H Q=>ta σ H λx H1=>∃a C dx fs v,x= .ref a/\H1 a=aA (.ins C dx fs)/\Cls K C/\Hb K C f/\fs.lookup f=aA v/\Q v H1
МZ1u(K:af)(ta:TE)(f:Str):TE:=λσ H Q=>ta σ H λx H1=>∃a C dx fs v u,x= .ref a/\H1 a=aA (.ins C dx fs)/\Cls K C/\Con K C f v u/\fs.lookup f=aB/\Q v H1
МZ1v(K:af)(ta tv:TE)(f:Str):TS:=λD σ H=>tv σ H λy H1=>ta σ H1 λx H2=>∃a C dx fs,x= .ref a/\H2 a=aA (.ins C dx fs)/\Cls K C/\Hb K C f/\fs.length<1000/\
 D.nx σ (Ya H2 a (.ins C dx (Rk f y fs)))
МZ1w(X:Cx)(op:Operator)(rd:V->V->Hp->VK->В):Prop:=
 ∀(pins:А (aq×Obj)) (s:ao) (σ:St) (H:Hp) (x y:V) (u v:am) (Q:VK),Inv X pins σ H s->Zu x u->Zu y v->rd x y H Q->bc (b4 X.prog X.w) X.A (inplaceOp op u v) (EP X pins σ Q) X.xe s
МZu7(K:af)(ta tv:TE)(rd:V->V->Hp->VK->В)(f:Str):TS:=λD σ H=>ta σ H λx H1=>∃a C dx fs v,x= .ref a/\H1 a=aA (.ins C dx fs)/\Cls K C/\Hb K C f/\fs.lookup f=aA v/\
 tv σ H1 λy H2=>rd v y H2 λz H3=>∃dx' fs',H3 a=aA (.ins C dx' fs')/\fs'.length<1000/\D.nx σ (Ya H3 a (.ins C dx' (Rk f z fs')))
section
variable{X:Cx}{o e value:c5}{f:Str}{pos pos' tpos:Pos}{ta tv:TE}
МZ1x:V->V->Hp->VK->Prop:=λx y H Q=>∃i j,x= .int i/\y= .int j/\Q (.int (i+j)) H
МZ1y:V->V->Hp->VK->Prop:=λx y H Q=>∃i j,x= .int i/\y= .int j/\Q (.int (i- j)) H
end
section
variable{X:Cx}{pins:А (aq×Obj)}{σ:St}{H:Hp}{s:ao}{A:dg}{E:am->ao->В}{Q:am->ao->В}{c:am}{b:Bool}
inductive TyOf(K:af)(H:Hp):V->am->В where
 |non:TyOf K H .non (.type "NoneType")
 |bl (x:Bool):TyOf K H (.bl x) (.type "bool")
 |int (i:Int):TyOf K H (.int i) (.type "int")
 |str (x:Str):TyOf K H (.str x) (.type "str")
 |flt (x:UInt64):TyOf K H (.flt x) (.type "float")
 |lst {a:aq} {xs:А V} (e:H a=aA (.lst xs)):TyOf K H (.ref a) (.type "list")
 |frz {a:aq} {o:Obj} {xs:А V} (e:H a=aA (.frz o (.lst xs))):TyOf K H (.ref a) (.type "list")
 |tup {a:aq} {xs:А V} (e:H a=aA (.tup xs)):TyOf K H (.ref a) (.type "tuple")
 |dK {a:aq} {kvs:А (Key×V)} {ep:Г} (e:H a=aA (.dK kvs ep)):TyOf K H (.ref a) (.type "dict")
 |dT {a:aq} {kvs:А (А Key×V)} {ep:Г} {bs:А aq} (e:H a=aA (.dT kvs ep bs)):TyOf K H (.ref a) (.type "dict")
 |ins {a C dx:aq} {fs:А (Str×V)} (e:H a=aA (.ins C dx fs)) (cl:Cls K C) (ha:PySem.W.findIn K (.ref C) "__class__"=aA (aA (.builtin "object.__class__")))
   (hn:PySem.W.specialIn K (.builtin "object.__class__") "__get__"=aA (aA (.builtin "getset_descriptor.__get__"))) (htk:PySem.W.takesIn K (.builtin "object.__class__")=aA aC)
   (hm:PySem.W.mroIn K C (.type "object")=aA aC):TyOf K H (.ref a) (.ref C)
end
structure Room(k:Г)(A:dg):В where
 hd:A.handled=aB
 dp:A.depth+3*k+5<recursionLimit
 un:A.units+16*k+200<f7
ЛRoom.mono{j k:Г}{A:dg}(r:Room k A)(h:j<=k):Room j A:=⟨r.hd,by V :=r.dp;W,by V :=r.un;W⟩
ЛRoom.deeper{k:Г}{A:dg}(r:Room (k+1) A)(env:Env):Room k (A.deeper env):=
 ⟨r.hd,by V :=r.dp;T A.depth+1+3*k+5<_;W,by V :=r.un;show A.units+3+16*k+200<_;W⟩
ЛRoom.depth{k:Г}{A:dg}(r:Room k A):A.depth<recursionLimit:=by V :=r.dp;W
ЛRoom.units{k:Г}{A:dg}(r:Room k A):A.units+64<cLine:=by V :=r.un;W
МHc:TA:=λ_ H Q=>Q [] H
МKv(ta:TE)(tr:TA):TA:=λσ H Q=>ta σ H λx H1=>tr σ H1 λxs H2=>Q (x::xs) H2
section
variable{X:Cx}{e:c5}{es:А c5}{te:TE}{t:TA}{pos:Pos}
ЛBv:PA X [] Hc:=λ_ _ _ _ H Q I h=>Calls.spliced_nil ⟨[],H,I,.nil,h⟩
ЛUq(ha:PE X e te)(hr:PA X es t)(hs:bd (e::es) X.env=(aD,gy e X.env)::bd es X.env:=by rfl):PA X (e::es) (Kv te t):=by intro pos pins s σ H Q I h;rw[hs];T bc _ _ (spliced ((aD,gy e X.env)::gx pos (bd es X.env))) _ _ s;R Calls.spliced_cons (Wv (ha pins s σ H _ I h) λu s1 zq9=>?_);O⟨x,H1,I1,r1,q1⟩:=zq9;E Wv (hr pos pins s1 σ H1 _ I1 q1) λus s2 ⟨xs,H2,I2,r2,q2⟩=>⟨x::xs,H2,I2,.cons r1 r2,q2⟩
МZrl(t:TA):TE:=λσ H Q=>t σ H λxs H1=>xs.length<=sizeLine/\∀p,H1 p=aB->Q (.ref p) (Ya H1 p (.tup xs))
МZn9(t:TA):TE:=λσ H Q=>t σ H λxs H1=>xs.length<=sizeLine/\∀p,H1 p=aB->Q (.ref p) (Ya H1 p (.lst xs))
ЛZoa{x1} (h:PA X es t):PE X (.Tuple es x1 pos) (Zrl t):=by intro pins s σ H Q I hq;R wpAny_Tuple_spliced (Wv (h pos pins s σ H _ I hq) λus s1 ⟨xs,H1,I1,r,z,q⟩=>⟨by rw[<-r.length];E z,?_⟩);V hf:H1 s1.heap.objs.size=aB:=I1.hok.fresh (a6 _);R⟨.ref s1.heap.objs.size,Ya H1 s1.heap.objs.size (.tup xs),I1.laid (t':=s1.toks) (λb u e=>av _ e) (a6 _) ?_,rfl,q _ hf⟩;E⟨z,us,r,⟨_,ba _ rfl,rfl,_,rfl⟩⟩
ЛHe(h:PA X es t):PE X (.List es pos) (Zn9 t):=by intro pins s σ H Q I hq;R wpAny_List_spliced (Wv (h pos pins s σ H _ I hq) λus s1 ⟨xs,H1,I1,r,z,q⟩=>⟨by rw[<-r.length];E z,?_⟩);V hf:H1 s1.heap.objs.size=aB:=I1.hok.fresh (a6 _);R⟨.ref s1.heap.objs.size,Ya H1 s1.heap.objs.size (.lst xs),I1.laid (t':=s1.toks) (λb u e=>av _ e) (a6 _) ?_,rfl,q _ hf⟩;E⟨z,us,0,r,ba _ rfl⟩
end
аSp:=А V->Hp->VK->XK->В
аCXT:=А Env->Hp->ao->XK->am->ao->В
structure Env0(P:b5)(w:da)(K:af)(mg:Str->Б am)(base:eh)(A:dg)(outer:А Env)(s:ao)(H:Hp):В where
 frames:A.frames=aA outer
 mod:Mod K mg base
 bs:∀b o,base.get? b=aA o->s.heap.get? b=aA o/\H b=aB
 bsz:base.objs.size<=s.heap.objs.size
 funs:s.heap.FunFrames base outer
 frf:∀b∈frs outer,H b=aB
 hok:Ra P w H s.heap
 bare:AllBare s.gens
МCE(outer:А Env)(P:b5)(w:da)(H:Hp)(s:ao)(Q:VK)(u:am)(s':ao):Prop:=
 ∃v H',s'.os=s.os/\AllBare s'.gens/\Un (frs outer) [] H H' s.heap s'.heap/\Ra P w H' s'.heap/\Zu v u/\Q v H'
МCR(CX:CXT)(outer:А Env)(P:b5)(w:da)(H:Hp)(s:ao)(Q:VK)(E:XK)(r:Result)(s':ao):Prop:=
 match r with
 | .ok (.ret u)=>CE outer P w H s Q u s'
 | .ok _=>False
 | .error e=>CX outer H s E e s'
structure FnOk(P:b5)(w:da)(K:af)(mg:Str->Б am)(base:eh)(CX:CXT)(k:Г)(f:aq)(fd:cr)(ps:А Str)(sp:Sp):В where
 len:∀vs H Q E,sp vs H Q E->vs.length=ps.length
 run:∀(A:dg) (outer:А Env) (s:ao) (H:Hp) (args:Args) (us:А am) (vs:А V) (Q:VK) (E:XK),Room k A->Env0 P w K mg base A outer s H->BindsTo s fd args (ps.zip us)->Z3 vs us->sp vs H Q E->
  codeAny (b4 P w) A (.call (.ref f) args) (CR CX outer P w H s Q E) s
section
variable{X:Cx}{pins:А (aq×Obj)}{σ:St}{H:Hp}{s s':ao}
ЛInv.env0(I:Inv X pins σ H s):Env0 X.prog X.w X.K X.mg X.base X.A X.stack s H:=
 ⟨I.ok.frames,I.ok.mod,I.bs,du I.ok.bsz I.sz,I.stack,I.stkFree,I.hok,I.bare⟩
ЛInv.after{Q:VK}{u:am}(I:Inv X pins σ H s)(h:CE X.stack X.prog X.w H s Q u s'):EP X pins σ Q u s':=by O⟨v,H',os,bare,un,hok,r,q⟩:=h;O⟨hh,g,d,t,os'⟩:=s';obtain rfl:os'=s.os:=os;E⟨v,H',I.call (h':=hh) (g':=g) (d':=d) (t':=t) (ch:=[]) un hok bare (λb z=>absurd z К),r,q⟩
end
МZl6(sp:Sp)(dvs:А V)(E:XK)(t:TA):TE:=λσ H Q=>t σ H λvs H1=>sp (vs++dvs) H1 Q E
МZzq(C:aq)(m:Str)(sp:Sp)(dvs:А V)(E:XK)(ta:TE)(t:TA):TE:=λσ H Q=>ta σ H λx H1=>∃a dx fs,x= .ref a/\H1 a=aA (.ins C dx fs)/\fs.lookup m=aB/\
 t σ H1 λvs H2=>sp (x::(vs++dvs)) H2 Q E
МZzr(C:aq)(sp:Sp)(dvs:А V)(E:XK)(t:TA):TE:=λσ H Q=>t σ H λvs H1=>∀x dx,H1 x=aB->H1 dx=aB->dx≠x->
 sp (.ref x::(vs++dvs)) (Ya (Ya H1 dx (.own x)) x (.ins C dx [])) (λv H2=>v= .non/\Q (.ref x) H2) E
МWq(K:af)(fd:cr)(ps:А Str)(ds:А am):Prop:=
 ∀(s:ao) (us:А am),K.In s.heap->(us++ds).length=ps.length->BindsTo s fd ⟨us,[]⟩ (ps.zip (us++ds))
ЛWq.all{K:af}{fd:cr}{ps:А Str}(h:∀us:А am,us.length=ps.length->bindArgs fd ⟨us,[]⟩=pure (ps.zip us)):Wq K fd ps []:=λs us _ hl=>by rw[List.append_nil]at hl⊢;E .of_eq (h us hl)
МHf(CX:CXT)(X:Cx)(E:XK):Prop:=∀(pins:А (aq×Obj)) (σ:St) (H:Hp) (s:ao) (e:am) (s':ao),Inv X pins σ H s->CX X.stack H s E e s'->X.xe e s'
section
variable{X:Cx}{CX:CXT}{k:Г}{f C:aq}{fd:cr}{ps:А Str}{sp:Sp}{dvs:А V}{ds:А am}{E:XK}{x m:Str}{p pos apos:Pos}{e o:c5}{es:А c5}{ta:TE}{t:TA}
ЛZob{pins:А (aq×Obj)}{σ:St}{H:Hp}{s:ao}{Q:VK}{us:А am}{vs:А V}(F:FnOk X.prog X.w X.K X.mg X.base CX k f fd ps sp)(hr:Room k X.A)(hb:Wq X.K fd ps ds)(hd:Z3 dvs ds)(hx:Hf CX X E)
  (I:Inv X pins σ H s) (r:Z3 vs us) (h:sp (vs++dvs) H Q E):bc (b4 X.prog X.w) X.A (call (.ref f) us) (EP X pins σ Q) X.xe s:=by
 V r2:Z3 (vs++dvs) (us++ds):=r.append hd;V hl:(us++ds).length=ps.length:=by rw[<-r2.length];E F.len _ _ _ _ h
 R wpAny_call (codeAny_mono (F.run X.A X.stack s H ⟨us,[]⟩ (us++ds) (vs++dvs) Q E hr I.env0 (hb s us I.kIn hl) r2 h) λr s' hq=>?_);cases r with
 |error e=>E hx pins σ H s e s' I hq
 |ok fl=>
  cases fl with
  |ret u=>E I.after hq
  |next=>E False.elim hq
  |brk=>E False.elim hq
  |cont=>E False.elim hq
ЛZjf(F:FnOk X.prog X.w X.K X.mg X.base CX k f fd ps sp)(hr:Room k X.A)(hg:Gl X x)(hm:X.mg x=aA (.ref f))(hk:bn X.K (.ref f)=aC)(hb:Wq X.K fd ps ds)(hd:Z3 dvs ds)(hx:Hf CX X E)
  (ha:PA X (e::es) t) (hdb:(x==("__debug__":Str))=aD:=by decide) (he:bd (e::es) X.env=(aD,gy e X.env)::bd es X.env:=by rfl) (hpl:(gx pos (bd es X.env)).any (·.1)=aD:=by rfl):
  PE X (.Call (.Name x p) (e::es) [] pos) (Zl6 sp dvs E t):=by
 intro pins s σ H Q I h;R wpAny_Call_Name_kw (Zi3 I hg hm ?_ hdb);R PySem.W.callWith_K (h₀:=X.base) I.ok.mod.kin hk (Wv (ha pos pins s σ H _ I h) λus s1 ⟨vs,H1,I1,r,q⟩=>⟨I1.kIn,?_⟩) he hpl;E Zob F hr hb hd hx I1 r q
structure Mk(K:af)(C f:aq):В where
 makes:PySem.W.makesIn K C=aC
 init:PySem.W.findIn K (.ref C) "__init__"=aA (aA (.ref f))
 fn:PySem.W.isFn K (.ref f)=aC
 kp:bn K (.ref C)=aC
end
МPK(X:Cx)(kws:А Keyword)(t:TA):Prop:=
 ∀(pos:Pos) (pins:А (aq×Obj)) (s:ao) (σ:St) (H:Hp) (Q:А V->Hp->В),Inv X pins σ H s->t σ H Q->bc (b4 X.prog X.w) X.A (evalAll ((backToKw pos (keywordEach kws X.env)).map (·.2))) (AP X pins σ Q) X.xe s
section
variable{X:Cx}{CX:CXT}{k:Г}{f C:aq}{fd:cr}{ps ks:А Str}{sp:Sp}{E:XK}{x m:Str}{p pos apos kpos:Pos}{e o:c5}{es:А c5}{kws:А Keyword}{te ta:TE}{t tk:TA}{nm:Б Str}
structure KBinds(K:af)(fd:cr)(ps ks:А Str)(g:А am->А am->А am)(gV:А V->А V->А V):В where
 to:∀(s:ao) (us ws:А am),K.In s.heap->(g us ws).length=ps.length->BindsTo s fd ⟨us,ks.zip ws⟩ (ps.zip (g us ws))
 rel:∀{vs:А V} {us:А am} {zs:А V} {ws:А am},Z3 vs us->Z3 zs ws->Z3 (gV vs zs) (g us ws)
МZwn(sp:Sp)(gV:А V->А V->А V)(E:XK)(t tk:TA):TE:=λσ H Q=>t σ H λvs H1=>tk σ H1 λzs H2=>sp (gV vs zs) H2 Q E
variable{g:А am->А am->А am}{gV:А V->А V->А V}
end
structure FnScope(N P:А Str)(sc:Scope):В where
 kind:sc.kind= .function
 co:sc.isCoroutine=aD
 gen:sc.isGenerator=aD
 nd:N.Nodup
 pre:N.take P.length=P
 par:∀x∈P,sc.names.lookup x=aA .local\/sc.names.lookup x=aA .cell
 nofree:∀y∈sc.names,y.2≠.free
ЛKw{kindOf:Str->Б NameKind}{x:Str}:∀{binds:А (Str×am)} {m:Str->Б am},(∀v,(x,v)∉binds)->bindL kindOf binds m x=m x
  | [],_,_=>rfl
  | (n,v)::r,m,h=>by
    unfold bindL;rw[Kw λw hw=>h w (ar _ hw)];split
    · have:x≠n:=by rintro rfl;E h v ag
      simp[this]
    · rfl
ЛKx{kindOf:Str->Б NameKind}{x:Str}:∀{binds:А (Str×am)} {m:Str->Б am},(∀v,(x,v)∉binds)->bindC kindOf binds m x=m x
  | [],_,_=>rfl
  | (n,v)::r,m,h=>by
    unfold bindC;rw[Kx λw hw=>h w (ar _ hw)];split
    · rfl
    · have:x≠n:=by rintro rfl;E h v ag
      simp[this]
ЛKy{kindOf:Str->Б NameKind}{x:Str}{v:am}:∀{P:А Str} {vs:А am} {i:Г} {m:Str->Б am},P.Nodup->P[i]? =aA x->vs[i]? =aA v->kindOf x=aA .local->
  bindL kindOf (P.zip vs) m x=aA v
 | [],_,_,_,_,h,_,_=>by simp at h
 |_::_,[],_,_,_,_,h,_=>by simp at h
 |p::P,w::vs,0,m,nd,h1,h2,hk=>by simp at h1 h2;subst h1;subst h2;T bindL kindOf ((p,w)::P.zip vs) m p=_;unfold bindL;rw[Kw λv hv=>(d7.mp nd).1 (List.of_mem_zip hv).1,Е hk];simp
 |p::P,w::vs,i+1,m,nd,h1,h2,hk=>by T bindL kindOf ((p,w)::P.zip vs) m x=_;unfold bindL;E Ky (i:=i) (d7.mp nd).2 (by simpa using h1) (by simpa using h2) hk
ЛKz{kindOf:Str->Б NameKind}{x:Str}{v:am}:∀{P:А Str} {vs:А am} {i:Г} {m:Str->Б am},P.Nodup->P[i]? =aA x->vs[i]? =aA v->kindOf x≠aA .local->
  bindC kindOf (P.zip vs) m x=aA v
 | [],_,_,_,_,h,_,_=>by simp at h
 |_::_,[],_,_,_,_,h,_=>by simp at h
 |p::P,w::vs,0,m,nd,h1,h2,hk=>by simp at h1 h2;subst h1;subst h2;T bindC kindOf ((p,w)::P.zip vs) m p=_;unfold bindC;rw[Kx λv hv=>(d7.mp nd).1 (List.of_mem_zip hv).1,Д hk];simp
 |p::P,w::vs,i+1,m,nd,h1,h2,hk=>by T bindC kindOf ((p,w)::P.zip vs) m x=_;unfold bindC;E Kz (i:=i) (d7.mp nd).2 (by simpa using h1) (by simpa using h2) hk
МCq(N:А Str)(vs:А V):St:=vs.map aA++List.replicate (N.length- vs.length) aB
МHg(CX:CXT)(P:b5)(w:da)(K:af)(mg:Str->Б am)(base:eh)(N:А Str)(qual:Str)(scope:Scope)(f:aq)(cd:am)(A:dg)(outer:А Env)(s:ao)(H:Hp)(E:XK):Cx where
 prog:=P
 w:=w
 K:=K
 mg:=mg
 base:=base
 A:=A.deeper (envOfC qual scope s.heap.objs.size f cd)
 N:=N
 s₀:=s
 H₀:=H
 env:=envOfC qual scope s.heap.objs.size f cd
 outer:=outer
 stack:=envOfC qual scope s.heap.objs.size f cd::outer
 ex:=[]
 calm:=aC
 fn:=λ_=>aC
 pn:=[]
 xe:=λe s'=>bc (b4 P w) (A.deeper (envOfC qual scope s.heap.objs.size f cd)) (leaving (envOfC qual scope s.heap.objs.size f cd) e) (λ_ s''=>CX outer H s E e s'') (λe' s''=>CX outer H s E e' s'') s'
ЛS5{sc:Scope}{n:Г}{x:Str}(h:sc.names.lookup x=aA .cell):∃c,(cellsFrom n sc.names []).lookup x=aA c:=by V q:=PySem.W.cellsFrom_some sc.names n [] (.inl h);E Option.isSome_iff_exists.mp q
ЛZcw{CX:CXT}{P:b5}{w:da}{K:af}{mg:Str->Б am}{base:eh}{N ps:А Str}{qual:Str}{scope:Scope}{f:aq}{cd:am}{A:dg}{outer:А Env}{s s1:ao}{H:Hp}{E:XK}{us:А am}{vs:А V}
  (S:FnScope N ps scope) (hd:A.handled=aB) (e0:Env0 P w K mg base A outer s H) (hl:vs.length=ps.length) (r:Z3 vs us)
  (x:InCallC s s.heap.objs.size (bindL (envOfC qual scope s.heap.objs.size f cd).kindOf (ps.zip us) λ_=>aB) (cellsFrom (s.heap.objs.size+1) scope.names []) (bindC (envOfC qual scope s.heap.objs.size f cd).kindOf (ps.zip us) λ_=>aB) s1):
  Inv (Hg CX P w K mg base N qual scope f cd A outer s H E) [] (Cq N vs) H s1:=by
 V hpl:ps.length<=N.length:=by V :=congrArg List.length S.pre;rw[List.length_take]at this;W
 O⟨h1,tk,rfl,hk⟩:=x.done;V noA:∀b:aq,b∉(Hg CX P w K mg base N qual scope f cd A outer s H E).ex:=λb z=>absurd (show b∈([]:А aq)from z) К;R⟨⟨e0.mod,S.kind,rfl,rfl,a6 _,λy z c h1 h2=>?_,λy hy=>?_,λy c _ h=>?_,λ_=>hd,Around.frames_deeper e0.frames,.inr ⟨rfl,rfl⟩,λb z=>absurd z (noA b),e0.bs,e0.bsz,λb _ _=>noA b,λb z=>absurd z (noA b),e0.funs,e0.frf⟩,
  rfl,e0.bare,Un.kept hk,⟨_,x.toInCall.ns,λi y v h1 h2 h3=>?_⟩,λy c h=>⟨_,x.cell y c h⟩,e0.hok.fresh (a6 _),λy c h=>?_,λp hp=>absurd (show p∈([]:А (aq×Obj))from hp) К,e0.hok.kept hk,?_⟩
 ·E name_of_addr x.apart (PySem.mem_of_lookup h1) (PySem.mem_of_lookup h2)
 ·V hy:scope.names.lookup y=aA .cell\/scope.names.lookup y=aA .free:=hy;rcases hy with hy|hy
  ·E S5 hy
  ·E absurd rfl (S.nofree _ (PySem.mem_of_lookup hy))
 ·E Nat.le_of_lt (x.above y c (PySem.mem_of_lookup h))
 ·V hi:i<vs.length:=by
   unfold Cq at h2;by_cases hi:i<vs.length
   ·E hi
   ·rw[gm (by simpa using hi)]at h2;rw[List.getElem?_replicate]at h2;split at h2<;> C h2
  V ha:vs[i]? =aA v:=by
   unfold Cq at h2;rw[dn (by simpa using hi),a9]at h2;cases e:vs[i]? with
   |none=>rw[e]at h2;C h2
   |some a=>rw[e]at h2;C h2;rfl
  O⟨u,hu,rv⟩:=r.get ha;V hp:ps[i]? =aA y:=by rw[<-S.pre,List.getElem?_take_of_lt И];E h1
  V ndP:ps.Nodup:=by rw[<-S.pre];E S.nd.sublist (List.take_sublist _ _)
  R⟨u,rv,?_⟩;rcases S.par y (b9 hp)with k|k
  ·E .inl ⟨k,Ky ndP hp hu k⟩
  ·O⟨c,e⟩:=S5 (n:=s.heap.objs.size+1) k;R .inr ⟨.inl k,c,e,?_⟩;V q:=x.cell y c e;rw[Kz ndP hp hu (by T scope.names.lookup y≠_;rw[k];decide)]at q;E q
 ·E e0.hok.fresh (Nat.le_of_lt (x.above y c (PySem.mem_of_lookup h)))
 ·unfold Cq;T _=N.length;rw[az,aj,List.length_replicate];W
ЛZrm{CX:CXT}{P:b5}{w:da}{K:af}{mg:Str->Б am}{base:eh}{k:Г}{f:aq}{name qual:Str}{params:Arguments}{body:А Stmt}{scope:Scope}{dV kV doc pm cdv ct oc:am}{an od:Б aq}
  {osl:Array (Б am)} {N ps:А Str} {sp:Sp} (lk:K.lookup f=aA ⟨oc,od,.func (PySem.W.fnOf name qual params body scope dV kV doc pm an cdv ct),osl⟩) (hcd:PySem.W.codeIn K cdv qual=aC) (S:FnScope N ps scope)
  (len:∀vs H Q E,sp vs H Q E->vs.length=ps.length)
  (hbody:∀(A:dg) (outer:А Env) (s:ao) (H:Hp) (vs:А V) (Q:VK) (E:XK),Room k (A.deeper (envOfC qual scope s.heap.objs.size f cdv))->sp vs H Q E->
   ∃t,T0 (Hg CX P w K mg base N qual scope f cdv A outer s H E) body t/\t {nx:=λ_ H'=>Q .non H',rt:=Q} (Cq N vs) H):
  FnOk P w K mg base CX (k+1) f (PySem.W.fnOf name qual params body scope dV kV doc pm an cdv ct) ps sp:=by
 R⟨len,λA outer s H args us vs Q E hr e0 hb r hsp=>?_⟩;V hl:=len _ _ _ _ hsp;V KX:K.In s.heap:=e0.mod.kin.keeps λb o e=>(e0.bs b o e).1;V lim:s.heap.NoLimit:=e0.mod.nolimit.keeps λb o e=>(e0.bs b o e).1;V hkind:∀y∈ps.zip us,scope.names.lookup y.1=aA .local\/(scope.names.lookup y.1=aA .cell/\((cellsFrom (s.heap.objs.size+1) scope.names []).lookup y.1).isSome=aC):=λ⟨n,v⟩ hy=>by
  rcases S.par n (List.of_mem_zip hy).1 with q|q
  ·E .inl q
  ·E .inr ⟨q,PySem.W.cellsFrom_some _ _ _ (.inl q)⟩
 R codeAny_call_function hr.depth (KX _ _ lk) rfl S.co S.gen rfl (PySem.W.codeRec_of KX hcd) (hb _ _ _ _ ?_);R wpAny_newFunctionEnv_cells S.kind hkind λenv he s1 x=>?_;subst he;R⟨lim.keeps x.toInCall.keep,codeAny_func ?_⟩;O⟨t,ht,hq⟩:=hbody A outer s H vs Q E (hr.deeper _) hsp;V I:Inv (Hg CX P w K mg base N qual scope f cdv A outer s H E) [] (Cq N vs) H s1:=Zcw S hr.hd e0 hl r x;R wpAny_mono (ht [] s1 (Cq N vs) H _ I hq) (λfl s' hs=>?_) λe s' hs=>hs;V fin:∀{σ':St} {H':Hp} {v:V} {u:am},Inv (Hg CX P w K mg base N qual scope f cdv A outer s H E) [] σ' H' s'->Zu v u->Q v H'->CE outer P w H s Q u s':=
  fun{σ' H' v u} J rv q=>⟨v,H',J.os,J.bare,J.base,J.hok,rv,q⟩
 cases fl with
 |ret u=>O⟨v,σ',H',J,rv,q⟩:=hs;E fin J rv q
 |next=>O⟨σ',H',J,q⟩:=hs;E fin (v:=V.non) (u:=cm) J rfl q
 |brk=>O⟨_,_,_,q⟩:=hs;E False.elim q
 |cont=>O⟨_,_,_,q⟩:=hs;E False.elim q
section
variable{X:Cx}{x:Str}{p pos:Pos}{e:c5}{es:А c5}{t:TA}{id T:String}{r:А V->Hp->VK->В}
МtCB(r:А V->Hp->VK->В)(t:TA):TE:=λσ H Q=>t σ H λvs H1=>r vs H1 Q
ЛS6(hc:Q6 X (.builtin id) r)(hg:Gl X x)(hm:X.mg x=aB)(hv:bootBuiltins x=aA (.builtin id))(ha:PA X (e::es) t)(hn:x≠"__name__":=by decide)(hdb:(x==("__debug__":Str))=aD:=by decide)
  (he:bd (e::es) X.env=(aD,gy e X.env)::bd es X.env:=by rfl) (hpl:(gx pos (bd es X.env)).any (·.1)=aD:=by rfl):PE X (.Call (.Name x p) (e::es) [] pos) (tCB r t):=by
 intro pins s σ H Q I h;R wpAny_Call_Name_kw (Bt I hg hm hv ?_ hn hdb);E PyProof.Rows.callWith_builtin1 (Wv (ha pos pins s σ H _ I h) λus s1 ⟨vs,H1,I1,r1,q1⟩=>hc pins s1 σ H1 vs us Q I1 r1 q1) he hpl
ЛZcx(hc:Q6 X (.type T) r)(hg:Gl X x)(hm:X.mg x=aB)(hv:bootBuiltins x=aA (.type T))(ha:PA X (e::es) t)(hn:x≠"__name__":=by decide)(hdb:(x==("__debug__":Str))=aD:=by decide)
  (he:bd (e::es) X.env=(aD,gy e X.env)::bd es X.env:=by rfl) (hpl:(gx pos (bd es X.env)).any (·.1)=aD:=by rfl):PE X (.Call (.Name x p) (e::es) [] pos) (tCB r t):=by
 intro pins s σ H Q I h;R wpAny_Call_Name_kw (Bt I hg hm hv ?_ hn hdb);E PyProof.Rows.callWith_type1 (Wv (ha pos pins s σ H _ I h) λus s1 ⟨vs,H1,I1,r1,q1⟩=>hc pins s1 σ H1 vs us Q I1 r1 q1) he hpl
end
end L2
namespace HT
open PySem PyProof.Rows
МlexLt:А Int->А Int->Bool
 | [],[]=>aD
 | [],_::_=>aC
 |_::_,[]=>aD
 |x::xs,y::ys=>if x=y then lexLt xs ys else decide (x<y)
ЛZoc(x y:Int)(xs ys:А Int):lexLt (x::xs) (y::ys)=if x=y then lexLt xs ys else decide (x<y):=rfl
ЛZix:lexLt [] []=aD:=rfl
ЛZev(y:Int)(ys:А Int):lexLt [] (y::ys)=aC:=rfl
ЛZew(x:Int)(xs:А Int):lexLt (x::xs) []=aD:=rfl
section
variable{prog:b5}{w:da}{A:dg}{E:am->ao->В}{s:ao}
МsIx(n d:Г):Б Int->Г
 |none=>d
 |some v=>if v<0 then(v+(n:Int)).toNat else min v.toNat n
ЛZrn(n d:Г):sIx n d aB=d:=rfl
ЛsIx_nat(n d k:Г):sIx n d (aA (k:Int))=min k n:=by show(if(k:Int)<0 then((k:Int)+(n:Int)).toNat else min (k:Int).toNat n)=min k n;rw[Д И,gp]
end
end HT
namespace L2
open PySem PySem.Spec PyProof.Rows
аTO:=St->Hp->(Б Int->Hp->В)->В
МPO(X:Cx)(e:Б c5)(t:TO):Prop:=
 ∀(pins:А (aq×Obj)) (s:ao) (σ:St) (H:Hp) (Q:Б Int->Hp->В),Inv X pins σ H s->t σ H Q->
  bc (b4 X.prog X.w) X.A (evalPart e X.env) (λu s'=>∃o H',Inv X pins σ H' s'/\IsPart u o/\Q o H') X.xe s
МZu9:TO:=λ_ H Q=>Q aB H
МZl7(t:TE):TO:=λσ H Q=>t σ H λx H1=>∃i,x= .int i/\Q (aA i) H1
section
variable{X:Cx}{e:c5}{te:TE}{lo hi:Б c5}{tl th:TO}{pos p2:Pos}
ЛZjg(h:PE X e te):PO X (aA e) (Zl7 te):=by intro pins s σ H Q I hw;rw[evalPart_some];R Wv (h pins s σ H _ I hw) λu s1 zq9=>?_;O⟨x,H1,I1,r1,q1⟩:=zq9;O⟨i,rfl,q⟩:=q1;O⟨t,rfl⟩:=r1;E⟨aA i,H1,I1,.int i t,q⟩
МSlR(X:Cx)(r:V->Б Int->Б Int->Hp->VK->В):Prop:=
 ∀(pins:А (aq×Obj)) (s:ao) (σ:St) (H:Hp) (x:V) (v vl vu:am) (lo hi:Б Int) (sl:aq) (Q:VK),Inv X pins σ H s->Zu x v->s.heap.IsSliceOf sl vl vu .none->IsPart vl lo->IsPart vu hi->r x lo hi H Q->
  ∃T id,typeLookup (.type T) "__getitem__"=pure (aA (.builtin id))/\s.TypeIs v T/\bc (b4 X.prog X.w) X.A (getItem v (.ref sl)) (EP X pins σ Q) X.xe s
ЛSlR.or{r r':V->Б Int->Б Int->Hp->VK->В}(h:SlR X r)(h':SlR X r'):SlR X (λx lo hi H Q=>r x lo hi H Q\/r' x lo hi H Q):=by
 intro pins s σ H x v vl vu lo hi sl Q I rx hs pl pu q;rcases q with q|q
 ·E h pins s σ H x v vl vu lo hi sl Q I rx hs pl pu q
 ·E h' pins s σ H x v vl vu lo hi sl Q I rx hs pl pu q
МtSl(r:V->Б Int->Б Int->Hp->VK->В)(te:TE)(tl th:TO):TE:=λσ H Q=>te σ H λx H1=>tl σ H1 λl H2=>th σ H2 λu H3=>r x l u H3 Q
ЛZex{r:V->Б Int->Б Int->Hp->VK->В}(hr:SlR X r)(he:PE X e te)(hl:PO X lo tl)(hu:PO X hi th):PE X (.Subscript e (.Slice lo hi aB p2) pos) (tSl r te tl th):=by intro pins s σ H Q I h;R Subscript_ (Wv (he pins s σ H _ I h) λv s1 zq9=>?_);O⟨x,H1,I1,r1,q1⟩:=zq9;R wpAny_Slice (Wv (hl pins s1 σ H1 _ I1 q1) λvl s2 ⟨l,H2,I2,pl,q2⟩=>Wv (hu pins s2 σ H2 _ I2 q2) λvu s3 zq9=>?_);O⟨u,H3,I3,pu,q3⟩:=zq9;rw[evalPart_none];R ah ?_;V I4:Inv X pins σ H3 {s3 with heap:=s3.heap.push {cls:=.type "slice",data:=.fields #[vl,vu,.none]}}:=I3.kept (t':=s3.toks) λb ob q=>av _ q;O⟨T,id,hT,ht,hg⟩:=hr pins {s3 with heap:=s3.heap.push {cls:=.type "slice",data:=.fields #[vl,vu,.none]}} σ H3 x v vl vu l u s3.heap.objs.size Q I4 r1 (Heap.IsSliceOf.new ..) pl pu q3;T bc (b4 X.prog X.w) X.A (subscriptTail e (.Slice lo hi aB p2) v (.ref s3.heap.objs.size)) (EP X pins σ Q) X.xe {s3 with heap:=s3.heap.push {cls:=.type "slice",data:=.fields #[vl,vu,.none]}};E tail_any (ops:=[.ref s3.heap.objs.size,v]) ht hT hg (by with_unfolding_all rfl)
МHh(xs:А V)(lo hi:Б Int):А V:=(xs.drop (HT.sIx xs.length 0 lo)).take (HT.sIx xs.length xs.length hi- HT.sIx xs.length 0 lo)
ЛS7(xs:А V)(lo hi:Б Int):(Hh xs lo hi).length<=xs.length:=by unfold Hh;rw[List.length_take,List.length_drop];W
МZ1z(K:af):V->Б Int->Б Int->Hp->VK->Prop:=λx lo hi H Q=>∃a xs,x= .ref a/\Ov K H a xs/\
 ¬(HT.sIx xs.length 0 lo=0/\HT.sIx xs.length xs.length hi=xs.length)/\∀p,H p=aB->Q (.ref p) (Ya H p (.tup (Hh xs lo hi)))
МZ10(K:af):R2:=λx y H Q=>∃a b ns ms,x= .ref a/\y= .ref b/\Ov K H a (ns.map V.int)/\Ov K H b (ms.map V.int)/\Q (.bl (HT.lexLt ns ms)) H
МZzt(K:af):R2:=λx y H Q=>∃a b xs ys,x= .ref a/\y= .ref b/\Ov K H a xs/\Ov K H b ys/\xs≠[]/\xs.length+ys.length<=sizeLine/\
 (ys=[]->Q (.ref a) H)/\(ys≠[]->∀p,H p=aB->Q (.ref p) (Ya H p (.tup (xs++ys))))
end
МixN(n:Г)(i:Int):Б Nat:=if 0<=i then(if i<n then aA i.toNat else aB)else if-(n:Int)<=i then aA (i+n).toNat else aB
МatI{α:Type}(xs:А α)(i:Int):Б α:=(ixN xs.length i).bind λj=>xs[j]?
ЛZji{n:Г}{i:Int}{j:Г}(h:ixN n i=aA j):seqIndex? i n=aA j/\j<n/\-(n:Int)<=i/\i<n:=by
 unfold ixN at h;by_cases h0:0<=i
 ·rw[Е h0]at h;by_cases h1:i<n
  ·rw[Е h1]at h;V e:i.toNat=j:=dk.inj h;E⟨by rw[seqIndex_of h0 h1,e],by W,by W,h1⟩
  ·rw[Д h1]at h;C h
 ·rw[Д h0]at h;by_cases h1:-(n:Int)<=i
  ·rw[Е h1]at h;V e:(i+n).toNat=j:=dk.inj h;E⟨by rw[seqIndex_neg И h1,e],by W,h1,by W⟩
  ·rw[Д h1]at h;C h
ЛN3{α:Type}{xs:А α}{i:Int}{v:α}(h:atI xs i=aA v):∃j,seqIndex? i xs.length=aA j/\xs[j]? =aA v/\j<xs.length/\-(xs.length:Int)<=i/\i<xs.length:=by
 unfold atI at h;cases e:ixN xs.length i with
 |none=>rw[e]at h;C h
 |some j=>rw[e]at h;O⟨h1,h2,h3,h4⟩:=Zji e;E⟨j,h1,h,h2,h3,h4⟩
МN4(b:c5):Prop:=∀o i,subscripted b aD o i=operate [o,i] (getItem o i)
МIxR(X:Cx)(r:R2):Prop:=
 ∀(value slice:c5) (pins:А (aq×Obj)) (s:ao) (σ:St) (H:Hp) (x y:V) (v u:am) (Q:VK),Inv X pins σ H s->Zu x v->Zu y u->r x y H Q->
  subscripted slice aD v u=operate [v,u] (getItem v u)->bc (b4 X.prog X.w) X.A (subscriptTail value slice v u) (EP X pins σ Q) X.xe s
МMtR(X:Cx)(id:String)(r:V->А V->Hp->VK->В):Prop:=
 ∀(pins:А (aq×Obj)) (s:ao) (σ:St) (H:Hp) (x:V) (xs:А V) (v:am) (us:А am) (Q:VK),Inv X pins σ H s->Zu x v->Z3 xs us->r x xs H Q->
  bc (b4 X.prog X.w) X.A (call (.builtin id) (v::us)) (EP X pins σ Q) X.xe s
section
variable{X:Cx}{a b:c5}{ta tb:TE}{pos:Pos}
ЛIxR.or{r r':R2}(h:IxR X r)(h':IxR X r'):IxR X (λx y H Q=>r x y H Q\/r' x y H Q):=by
 intro value slice pins s σ H x y v u Q I rx ry q hs;rcases q with q|q
 ·E h value slice pins s σ H x y v u Q I rx ry q hs
 ·E h' value slice pins s σ H x y v u Q I rx ry q hs
ЛZl8{r:R2}(hr:IxR X r)(ha:PE X a ta)(hb:PE X b tb)(hs:N4 b):PE X (.Subscript a b pos) (tOp r ta tb):=by intro pins s σ H Q I h;E Subscript_ (Zn5 ha hb I h λv u s2 x y H2 I2 rx ry q=>hr a b pins s2 σ H2 x y v u Q I2 rx ry q (hs _ _))
МZoe(K:af):R2:=λx y H Q=>∃p xs i v,x= .ref p/\y= .int i/\W8 K H p xs/\atI xs i=aA v/\Q v H
МZro(K:af):R2:=λx y H Q=>∃p xs i v,x= .ref p/\y= .int i/\Ov K H p xs/\atI xs i=aA v/\Q v H
МZrp:R2:=λx y H Q=>∃z i c,x= .str z/\y= .int i/\z.length<=sizeLine/\atI z.cps.toList i=aA c/\Q (.str ⟨#[c]⟩) H
ЛZjk:IxR X (Zoe X.K):=by
 intro value slice pins s σ H x y v u Q I rx ry h hs;O⟨p,xs,i,z,rfl,rfl,hq,he,q⟩:=h;C rx;O⟨t,rfl⟩:=ry;O⟨its,r,pl,hz⟩:=I.list hq;O⟨j,h1,h2,h3,h4,h5⟩:=N3 he;O⟨w,ew,rw'⟩:=r.get h2;V hl:=r.length;V hn:=Ek;V fin:EP X pins σ Q w s:=⟨z,H,I,rw',q⟩
 by_cases h0:0<=i
 ·V hj:i.toNat=j:=by rw[seqIndex_of h0 h5]at h1;E dk.inj h1
  E item_listR pl.isList h0 И (by rw[hj];simpa using ew) fin hs
 ·V hj:(i+(its.toArray.size:Int)).toNat=j:=by rw[seqIndex_neg И h4]at h1;rw[bv,<-hl];E dk.inj h1
  E subscriptTail_builtinR (x:=w) pl.isList.typeIs slot_list_getitem.lookup
   (wpAny_getItem_list_neg (Q:=λr s'=>r=w/\EP X pins σ Q r s') pl.isList И (by rw[bv]<;> W) И (by rw[hj];simpa using ew) ⟨rfl,fin⟩) hs
ЛZof:IxR X (Zro X.K):=by
 intro value slice pins s σ H x y v u Q I rx ry h hs;O⟨p,xs,i,z,rfl,rfl,hq,he,q⟩:=h;C rx;O⟨t,rfl⟩:=ry;O⟨its,r,pl,hz⟩:=I.tuple hq;O⟨j,h1,h2,h3,h4,h5⟩:=N3 he;O⟨w,ew,rw'⟩:=r.get h2;V hl:=r.length;V hn:=Ek;V fin:EP X pins σ Q w s:=⟨z,H,I,rw',q⟩
 E subscriptTail_builtinR (x:=w) pl.typeIs slot_tuple_getitem.lookup
  (getItem_tuple (j:=j) (Q:=λr s'=>r=w/\EP X pins σ Q r s') pl И И (by rw[bv,<-hl];E h1) (by simpa using ew) ⟨rfl,fin⟩) hs
ЛZog:IxR X Zrp:=by
 intro value slice pins s σ H x y v u Q I rx ry h hs;O⟨z,i,c,rfl,rfl,hz,he,q⟩:=h;O⟨t,rfl⟩:=rx;O⟨t',rfl⟩:=ry;O⟨j,h1,h2,h3,h4,h5⟩:=N3 he;V hl:z.cps.toList.length=z.length:=by simp[Str.length]
 rw[hl]at h1 h4 h5;V hn:=Ek;E tail_any (typeIs_str s z t) slot_str_getitem.lookup (getItem_str (c:=c) (by
  V e1:decide (i< -(2^63:Int))=aD:=Ж И;V e2:decide (i>=2^63)=aD:=Ж И;rw[e1,e2,Bool.or_false]) (by rw[h1];simpa using h2) ⟨.str ⟨#[c]⟩,H,I.tok _,⟨_,rfl⟩,q⟩) hs
МrIx(K:af):R2:=λx y H Q=>Zoe K x y H Q\/Zro K x y H Q\/Zrp x y H Q
ЛZey:IxR X (rIx X.K):=Zjk.or (Zof.or Zog)
МZzu:V->V->V->Hp->(Hp->В)->Prop:=λo i v H Q=>∃p xs k j,o= .ref p/\i= .int k/\H p=aA (.lst xs)/\ixN xs.length k=aA j/\Q (Ya H p (.lst (xs.set j v)))
ЛN5(lo hi:Б Int)(n:Г):(sliceBounds lo hi aB n).1=((HT.sIx n 0 lo:Г):Int)/\(sliceBounds lo hi aB n).2.1=((HT.sIx n n hi:Г):Int)/\(sliceBounds lo hi aB n).2.2=1:=by
 R⟨?_,?_,rfl⟩
 ·cases lo with
  |none=>simp[sliceBounds,HT.sIx]
  |some i=>
   simp only[sliceBounds,HT.sIx,Option.getD_none,show(1:Int) > 0 by decide,if_true];by_cases h:i<0
   ·simp only[h,if_true]<;> W
   ·simp only[h,if_false]<;> W
 ·cases hi with
  |none=>simp[sliceBounds,HT.sIx]
  |some i=>
   simp only[sliceBounds,HT.sIx,Option.getD_none,show(1:Int) > 0 by decide,if_true];by_cases h:i<0
   ·simp only[h,if_true]<;> W
   ·simp only[h,if_false]<;> W
ЛFv(its:А am)(lo hi:Б Int):slicePick its.toArray lo hi aB=((its.drop (HT.sIx its.length 0 lo)).take (HT.sIx its.length its.length hi- HT.sIx its.length 0 lo)).toArray:=by O⟨h1,h2,h3⟩:=N5 lo hi its.toArray.size;unfold slicePick;rw[h1,h2,h3];simp only[sliceRange_one,pick_run,bv]<;> rfl
МZrr(K:af):V->Б Int->Б Int->Hp->VK->Prop:=λx lo hi H Q=>∃a xs,x= .ref a/\W8 K H a xs/\∀p,H p=aB->Q (.ref p) (Ya H p (.lst (Hh xs lo hi)))
ЛZjl:SlR X (Zrr X.K):=by intro pins s σ H x v vl vu lo hi sl Q I rx hs pl pu h;O⟨a,xs,rfl,hx,q⟩:=h;C rx;O⟨its,r,ht,hz⟩:=I.list hx;V hlen:=r.length;R⟨"list",_,slot_list_getitem.lookup,ht.isList.typeIs,?_⟩;R wpAny_getItem_list_slice ht.isList hs pl pu .none К ?_ (by rw[bv]<;> W);rw[Fv,<-hlen];R⟨.ref s.heap.objs.size,_,I.laid (t':=s.toks) (o:=.lst (Hh xs lo hi)) (λb ob q=>av _ q) (a6 _) ?_,rfl,q _ (I.hok.fresh (a6 _))⟩;E⟨du (S7 xs lo hi) hz,_,0,(r.drop (HT.sIx xs.length 0 lo)).take (HT.sIx xs.length xs.length hi- HT.sIx xs.length 0 lo),ba _ rfl⟩
МY7:V->Bool
 | .non=>aC
 | .bl _=>aC
 | .int _=>aC
 | .str _=>aC
 |_=>aD
МS8:V->V->Bool
 | .non,.non=>aC
 | .bl a,.bl b=>a==b
 | .bl a,.int b=>(if a then 1 else 0)==b
 | .int a,.bl b=>a==(if b then 1 else 0)
 | .int a,.int b=>a==b
 | .str a,.str b=>a==b
 |_,_=>aD
ЛZez{A:dg}{s:ao}{y x:V}{u v:am}(ry:Zu y u)(rx:Zu x v)(fy:Y7 y=aC)(fx:Y7 x=aC):SeqAt.EqAt A s u v (S8 y x):=by
 cases y with
 |non=>
  C ry;cases x with
  |non=>C rx;E SeqAt.EqAt.same _
  |bl b=>C rx;E SeqAt.EqAt.none_bool b
  |int b=>O⟨t,rfl⟩:=rx;E SeqAt.EqAt.none_int b t
  |str b=>O⟨t,rfl⟩:=rx;E SeqAt.EqAt.none_str b t
  |_=>E absurd (show aD=aC from fx) bp
 |bl a=>
  C ry;cases x with
  |non=>C rx;E SeqAt.EqAt.bool_none a
  |bl b=>C rx;E SeqAt.EqAt.bool_bool a b
  |int b=>O⟨t,rfl⟩:=rx;E SeqAt.EqAt.bool_int a b t
  |str b=>O⟨t,rfl⟩:=rx;E SeqAt.EqAt.bool_str a b t
  |_=>E absurd (show aD=aC from fx) bp
 |int a=>
  O⟨t',rfl⟩:=ry;cases x with
  |non=>C rx;E SeqAt.EqAt.int_none a t'
  |bl b=>C rx;E SeqAt.EqAt.int_bool a t' b
  |int b=>O⟨t,rfl⟩:=rx;E SeqAt.EqAt.int_int a t' b t
  |str b=>O⟨t,rfl⟩:=rx;E SeqAt.EqAt.int_str a t' b t
  |_=>E absurd (show aD=aC from fx) bp
 |str a=>
  O⟨t',rfl⟩:=ry;cases x with
  |non=>C rx;E SeqAt.EqAt.str_none a t'
  |bl b=>C rx;E SeqAt.EqAt.str_bool a t' b
  |int b=>O⟨t,rfl⟩:=rx;E SeqAt.EqAt.str_int a t' b t
  |str b=>O⟨t,rfl⟩:=rx;E SeqAt.EqAt.str_str a t' b t
  |_=>E absurd (show aD=aC from fx) bp
 |_=>E absurd (show aD=aC from fy) bp
МHi(x:V)(u:am):Bool:=match u with
 | .none=>S8 .non x
 | .bool b=>S8 (.bl b) x
 | .int i _=>S8 (.int i) x
 | .str z _=>S8 (.str z) x
 |_=>aD
ЛZe0{x y:V}{u:am}(r:Zu y u)(f:Y7 y=aC):Hi x u=S8 y x:=by
 cases y with
 |non=>C r;rfl
 |bl b=>C r;rfl
 |int i=>O⟨t,rfl⟩:=r;rfl
 |str z=>O⟨t,rfl⟩:=r;rfl
 |_=>E absurd (show aD=aC from f) bp
ЛMa{x:V}:∀{xs:А V} {us:А am},Z3 xs us->xs.all Y7=aC->us.any (Hi x)=xs.any λy=>S8 y x
 |_,_,.nil,_=>rfl
 |y::xs,u::us,.cons r t,f=>by rw[List.all_cons,Bool.and_eq_true]at f;rw[List.any_cons,List.any_cons,Ze0 r f.1,Ma t f.2]
ЛCz{A:dg}{s:ao}{x:V}{v:am}(rx:Zu x v)(fx:Y7 x=aC):∀{xs:А V} {us:А am},Z3 xs us->xs.all Y7=aC->∀u∈us,SeqAt.EqAt A s u v (Hi x u)
 |_,_,.nil,_=>λu hu=>by C hu
 |y::xs,u::us,.cons r t,f=>λu' hu=>by
  rw[List.all_cons,Bool.and_eq_true]at f;rcases bu.mp hu with rfl|hu
  ·rw[Ze0 r f.1];E Zez r rx f.1 fx
  ·E Cz rx fx t f.2 u' hu
МinV(x:V)(xs:А V):Bool:=xs.any λy=>S8 y x
МrIn(K:af)(neg:Bool):R2:=λx y H Q=>∃p xs,y= .ref p/\(W8 K H p xs\/Ov K H p xs)/\Y7 x=aC/\xs.all Y7=aC/\Q (.bl (if neg then !inV x xs else inV x xs)) H
ЛZcy:Cw X (gz .In) (rIn X.K aD):=by
 intro pins s σ H x y v u Q I rx ry h;O⟨p,xs,rfl,hq,fx,fs,q⟩:=h;C ry;rcases hq with hq|hq
 ·O⟨its,r,pl,hz⟩:=I.list hq;R SeqAt.in_listAt (Hi x) pl.isList (λw hw=>Cz rx fx r fs w (by simpa using hw)) ⟨.bl _,H,I,rfl,?_⟩;rw[show its.toArray.any (Hi x)=its.any (Hi x) by simp,Ma r fs];E q
 ·O⟨its,r,pl,hz⟩:=I.tuple hq;R SeqAt.in_tupleAt (Hi x) pl (λw hw=>Cz rx fx r fs w (by simpa using hw)) ⟨.bl _,H,I,rfl,?_⟩;rw[show its.toArray.any (Hi x)=its.any (Hi x) by simp,Ma r fs];E q
ЛN6:Cw X (gz .NotIn) (rIn X.K aC):=by
 intro pins s σ H x y v u Q I rx ry h;O⟨p,xs,rfl,hq,fx,fs,q⟩:=h;C ry;rcases hq with hq|hq
 ·O⟨its,r,pl,hz⟩:=I.list hq;R SeqAt.notIn_listAt (Hi x) pl.isList (λw hw=>Cz rx fx r fs w (by simpa using hw)) ⟨.bl _,H,I,rfl,?_⟩;rw[show its.toArray.any (Hi x)=its.any (Hi x) by simp,Ma r fs];E q
 ·O⟨its,r,pl,hz⟩:=I.tuple hq;R SeqAt.notIn_tupleAt (Hi x) pl (λw hw=>Cz rx fx r fs w (by simpa using hw)) ⟨.bl _,H,I,rfl,?_⟩;rw[show its.toArray.any (Hi x)=its.any (Hi x) by simp,Ma r fs];E q
ЛN7:Cw X (gz .NotIn) (λx y H Q=>∃i j,x= .str i/\y= .str j/\Q (.bl (!(!(dr j i 0 j.length 1).isEmpty))) H):=by intro pins s σ H x y v u Q I rx ry h;O⟨i,j,rfl,rfl,q⟩:=h;O⟨t,rfl⟩:=rx;O⟨t',rfl⟩:=ry;E notIn_str ⟨.bl _,H,I,rfl,q⟩
ЛN8:Q6 X (.builtin "len") (λxs H Q=>∃p ys,xs=[.ref p]/\(W8 X.K H p ys\/Ov X.K H p ys)/\Q (.int ys.length) H):=by
 intro pins s σ H xs us Q I r h;O⟨p,ys,rfl,hq,q⟩:=h;O⟨u,rfl,rx⟩:=Ul r;C rx;V hn:=Ek;rcases hq with hq|hq
 ·O⟨its,r',pl,hz⟩:=I.list hq;V hlen:=r'.length;E Calls.call_len_list pl.isList (by simp only[bv]<;> W) ⟨.int ys.length,H,I.tok _,⟨s.toks+1,by rw[bv,hlen]⟩,q⟩
 ·O⟨its,r',pl,hz⟩:=I.tuple hq;V hlen:=r'.length;E len_tuple pl (by simp only[bv]<;> W) ⟨.int ys.length,H,I.tok _,⟨s.toks+1,by rw[bv,hlen]⟩,q⟩
ЛN9:Q6 X (.builtin "len") (λxs H Q=>∃z,xs=[.str z]/\z.length<=sizeLine/\Q (.int z.length) H):=by intro pins s σ H xs us Q I r h;O⟨z,rfl,hz,q⟩:=h;O⟨u,rfl,t,rfl⟩:=Ul r;V hn:=Ek;E len_str И ⟨.int z.length,H,I.tok _,⟨_,rfl⟩,q⟩
ЛQ6.or{f:am}{r r':А V->Hp->VK->В}(h:Q6 X f r)(h':Q6 X f r'):Q6 X f (λxs H Q=>r xs H Q\/r' xs H Q):=by
 intro pins s σ H xs us Q I rs q;rcases q with q|q
 ·E h pins s σ H xs us Q I rs q
 ·E h' pins s σ H xs us Q I rs q
ЛFw:Q6 X (.type "tuple") (λxs H Q=>∃p ys,xs=[.ref p]/\((W8 X.K H p ys/\∀l,H l=aB->Q (.ref l) (Ya H l (.tup ys)))\/(Ov X.K H p ys/\Q (.ref p) H))):=by
 intro pins s σ H xs us Q I r h;O⟨p,ys,rfl,h⟩:=h;O⟨u,rfl,rx⟩:=Ul r;C rx;rcases h with⟨hq,q⟩|⟨hq,q⟩
 ·O⟨its,r',pl,hz⟩:=I.list hq;V hlen:=r'.length;R call_tuple_list pl.isList (λh' kp=>?_) (by simp only[bv]<;> W);V I1:Inv X pins σ H {s with heap:=h'}:=I.kept (t':=s.toks) kp;V I2:Inv X pins σ (Ya H h'.objs.size (.tup ys)) {s with heap:=h'.push {cls:=.type "tuple",data:=.seq its.toArray}}:=
   I1.laid (t':=s.toks) (λb o e=>av _ e) (a6 _) (show Yc X.prog X.w _ _ _ (.tup ys)from⟨hz,its,r',IsTup.new _ _⟩)
  E⟨.ref h'.objs.size,_,I2,rfl,q _ (I1.hok.fresh (a6 _))⟩
 ·O⟨its,r',pl,hz⟩:=I.tuple hq;E call_tuple_same pl ⟨.ref p,H,I,rfl,q⟩
МtyV(K:af)(T:String)(x:V)(H:Hp):Prop:=match x with
 | .str _=>T="str"
 | .int _=>T="int"
 | .ref p=>(T="list"/\∃xs,W8 K H p xs)\/(T="tuple"/\∃o,K.lookup p=aA o/\o.cls= .type "tuple"/\o.dict=aB)\/
   (T="dict"/\((∃kvs,HK H p kvs)\/∃kvs,HTt H p kvs))\/(T="set"/\∃S n,H p=aA (.set S n))
 |_=>False
ЛZe1{pins:А (aq×Obj)}{σ:St}{H:Hp}{s:ao}{T:String}{x:V}{v:am}(I:Inv X pins σ H s)(r:Zu x v)(ty:tyV X.K T x H):
  s.TypeIs v T/\∀a,v= .ref a->∃ob,s.heap.get? a=aA ob/\ob.dict=aB:=by
 cases x with
 |str z=>O⟨t,rfl⟩:=r;cases(show T="str"from ty);E⟨typeIs_str s z t,λ_ e=>nomatch e⟩
 |int i=>O⟨t,rfl⟩:=r;cases(show T="int"from ty);E⟨typeIs_int s i t,λ_ e=>nomatch e⟩
 |ref p=>
  C r;rcases ty with⟨rfl,xs,hq⟩|⟨rfl,o,hk,hc,hd⟩|⟨rfl,hk⟩|⟨rfl,S,n,hk⟩
  ·O⟨its,_,pl,_⟩:=I.list hq;R⟨pl.isList.typeIs,λa e=>?_⟩;C e;O⟨o,n,e,c,hd,_⟩:=pl;E⟨o,e,hd⟩
  ·R⟨⟨o,I.kIn p o hk,hc⟩,λa e=>?_⟩;C e;E⟨o,I.kIn _ o hk,hd⟩
  ·V z:∃o,s.heap.get? p=aA o/\o.ExactDict:=by
    rcases hk with⟨kvs,ep,hk⟩|⟨kvs,ep,bs,hk⟩
    ·O⟨_,_,_,_,o,_,e,ex,_⟩:=I.hok p _ hk;E⟨o,e,ex⟩
    ·O⟨_,_,_,_,o,_,e,ex,_⟩:=I.hok p _ hk;E⟨o,e,ex⟩
   O⟨o,e,ex⟩:=z;R⟨⟨o,e,ex.1⟩,λa e2=>?_⟩;C e2;E⟨o,e,ex.2.1⟩
  ·O⟨o,_,_,_,e,ex,_⟩:=I.hok p _ hk;R⟨⟨o,e,ex.1⟩,λa e2=>?_⟩;C e2;E⟨o,e,ex.2.1⟩
 |_=>E False.elim ty
МZrs(K:af)(T:String)(r:V->А V->Hp->VK->В)(to:TE):TE:=λσ H Q=>to σ H λx H1=>tyV K T x H1/\r x [] H1 Q
МtBM(K:af)(T:String)(r:V->А V->Hp->VK->В)(to:TE)(t:TA):TE:=λσ H Q=>to σ H λx H1=>tyV K T x H1/\t σ H1 λxs H2=>r x xs H2 Q
variable{o e:c5}{es:А c5}{to:TE}{t:TA}{name:Str}{apos cpos:Pos}{T id:String}{r:V->А V->Hp->VK->В}
ЛZoh(pa:PlainAttrs T)(slot:Slot T name id)(hty:typeOf (.builtin id)=pure (.type "method_descriptor"))(hm:MtR X id r)(ho:PE X o to)
  (hbase:attributeBase o name X.env (gy o X.env)=gy o X.env:=by rfl) (hline:(apos.endLine==cpos.line)=aC:=by rfl):PE X (.Call (.Attribute o name apos) [] [] cpos) (Zrs X.K T r to):=by
 intro pins s σ H Q I h;R wpAny_Call_method0_late hbase hline (Wv (ho pins s σ H _ I h) λv s1 zq9=>?_);O⟨x,H1,I1,r1,ty,q1⟩:=zq9;O⟨h1,h2⟩:=Ze1 I1 r1 ty;E⟨T,id,pa,slot,hty,h1,h2,Calls.callWith_builtin rfl (PySem.evalArgs_none (hm pins s1 σ H1 x [] v [] Q I1 r1 .nil q1))⟩
ЛVa(pa:PlainAttrs T)(slot:Slot T name id)(hty:typeOf (.builtin id)=pure (.type "method_descriptor"))(hm:MtR X id r)(ho:PE X o to)(ha:PA X (e::es) t)
  (hbase:attributeBase o name X.env (gy o X.env)=gy o X.env:=by rfl)
  (hfew:((gx cpos (bd (e::es) X.env)).all (λx=>!x.1)&&(backToKw cpos (keywordEach [] X.env)).all (λx=>x.1.isSome)
   &&decide ((e::es).length+([]:А Keyword).length+(if([]:А Keyword).isEmpty then 0 else 1)<30))=aC:=by rfl)
  (hline:(apos.endLine==cpos.line)=aC:=by rfl) (hs:bd (e::es) X.env=(aD,gy e X.env)::bd es X.env:=by rfl) (hplain:(gx cpos (bd es X.env)).any (·.1)=aD:=by rfl):
  PE X (.Call (.Attribute o name apos) (e::es) [] cpos) (tBM X.K T r to t):=by
 intro pins s σ H Q I h;R wpAny_Call_method_late hbase hfew hline rfl (Wv (ho pins s σ H _ I h) λv s1 zq9=>?_);O⟨x,H1,I1,r1,ty,q1⟩:=zq9;O⟨h1,h2⟩:=Ze1 I1 r1 ty;R⟨T,id,pa,slot,hty,h1,h2,?_⟩;V hA:=ha cpos pins s1 σ H1 _ I1 q1;rw[hs]at hA⊢;R Calls.callWith_builtin (by show(aD|| (gx cpos (bd es X.env)).any (·.1))=aD;rw[hplain]<;> rfl) (Calls.evalArgs_plain ?_);E Wv hA λus s2 ⟨vs,H2,I2,r2,q2⟩=>hm pins s2 σ H2 x vs v us Q I2 r1 r2 q2
end
МMtM(X:Cx)(id:String)(r:V->А V->Hp->VK->В):Prop:=
 ∀(pins:А (aq×Obj)) (s:ao) (σ:St) (H:Hp) (x:V) (xs:А V) (v:am) (us:А am) (Q:VK),Inv X pins σ H s->Zu x v->Z3 xs us->r x xs H Q->
  bc (b4 X.prog X.w) X.A (call (.builtin id) (v::us)) (EP X pins σ Q) X.xe s
ЛZ3.one{x:V}{us:А am}(h:Z3 [x] us):∃u,us=[u]/\Zu x u:=by
 cases h with
 |cons r t=>C t;E⟨_,rfl,r⟩
ЛZ3.zero:∀{us:А am},Z3 [] us->us=[]
 |_,.nil=>rfl
ЛZ3.dropLast{xs:А V}{us:А am}(h:Z3 xs us):Z3 xs.dropLast us.dropLast:=by
 induction h with
 |nil=>E .nil
 |cons r t ih=>
  cases t with
  |nil=>E .nil
  |cons q t'=>E .cons r ih
ЛHj{α:Type}(l:А α):l.eraseIdx (l.length- 1)=l.dropLast:=by
 induction l with
 |nil=>rfl
 |cons a r ih=>
  cases r with
  |nil=>rfl
  |cons b r=>
   V e:(a::b::r).length- 1=((b::r).length- 1)+1:=by V h1:(a::b::r).length=r.length+2:=rfl;V h2:(b::r).length=r.length+1:=rfl;W
   rw[e,List.eraseIdx_cons_succ,ih]
   all_goals rfl
section
variable{X:Cx}{pins:А (aq×Obj)}{σ:St}{H:Hp}{s:ao}{l b:aq}{xs ys zs:А V}
ЛInv.lset{its its':А am}{n:Г}{f:Array am->Array am}{t':Г}(I:Inv X pins σ H s)(hH:H l=aA (.lst xs))
  (e:s.heap.get? l=aA {cls:=.type "list",data:=.seq its.toArray n}) (hf:f its.toArray=its'.toArray) (hv:Z3 ys its') (hz:ys.length<=sizeLine):
  Inv X pins σ (Ya H l (.lst ys)) {s with heap:=s.heap.update l (dv f),toks:=t'}:=by
 V q:=PySem.IsL.update e f;rw[hf]at q;R I.write (x:=l) (e:=l) (by rw[hH];E trivial) (.inl rfl) (λb' u hb hu=>(Heap.get?_update_other s.heap (dv f) (Ne.symm hb)).trans hu) ⟨_,q⟩ ?_;E⟨hz,its',_,hv,q⟩
ЛInv.lnew{its:А am}{t':Г}(I:Inv X pins σ H s)(hv:Z3 ys its)(hz:ys.length<=sizeLine):
  Inv X pins σ (Ya H s.heap.objs.size (.lst ys)) {s with heap:=s.heap.push {cls:=.type "list",data:=.seq its.toArray},toks:=t'}:=
 I.laid (λ_ _ q=>av _ q) (a6 _) ⟨hz,its,0,hv,ba _ rfl⟩
ЛInv.fresh(I:Inv X pins σ H s):H s.heap.objs.size=aB:=I.hok.fresh (a6 _)
ЛInv.lstM(I:Inv X pins σ H s)(hH:H l=aA (.lst xs)):xs.length<=sizeLine/\∃(its:А am) (n:Г),Z3 xs its/\xs.length=its.length/\s.heap.get? l=aA {cls:=.type "list",data:=.seq its.toArray n}:=by O⟨z,its,n,r,e⟩:=I.hok l _ hH;E⟨z,its,n,r,r.length,e⟩
ЛZe2{n:Г}(h:n<=sizeLine):Builtin.List.listTooLong n=aD:=by unfold Builtin.List.listTooLong;EЖ И
end
section
variable{X:Cx}
МBw:V->А V->Hp->VK->Prop:=λx vs H Q=>∃l xs y,x= .ref l/\vs=[y]/\H l=aA (.lst xs)/\xs.length<sizeLine/\Q .non (Ya H l (.lst (xs++[y])))
ЛM9:MtM X "list.append" Bw:=by intro pins s σ H x vs v us Q I rx rv h;O⟨l,xs,y,rfl,rfl,hH,hz,q⟩:=h;C rx;O⟨u,rfl,ru⟩:=rv.one;O⟨z,its,n,r,hl,e⟩:=I.lstM hH;R call_meets F.slot_list_append ⟨_,e,rfl⟩ F.entry_list_append (F.args_list_append_2 _ _) (PySem.list_append l its.toArray n u (by rw[bv];W)) ⟨e,?_⟩;R⟨.non,_,I.lset (its':=its++[u]) hH e К (r.append (.cons ru .nil)) ?_,rfl,q⟩;rw[az,fq];W
МZvd:V->А V->Hp->VK->Prop:=λx vs H Q=>∃l b xs zs,x= .ref l/\vs=[.ref b]/\H l=aA (.lst xs)/\H b=aA (.lst zs)/\xs.length+zs.length<=sizeLine/\Q .non (Ya H l (.lst (xs++zs)))
МZru:V->А V->Hp->VK->Prop:=λx vs H Q=>∃l xs y,x= .ref l/\vs=[]/\H l=aA (.lst xs)/\xs[xs.length- 1]? =aA y/\Q y (Ya H l (.lst xs.dropLast))
ЛZoi:MtM X "list.pop" Zru:=by
 intro pins s σ H x vs v us Q I rx rv h;O⟨l,xs,y,rfl,rfl,hH,hy,q⟩:=h;C rx;V hus:=rv.zero;subst hus;O⟨z,its,n,r,hl,e⟩:=I.lstM hH;O⟨u,hu,ru⟩:=r.get hy;V hy':its.toArray[its.toArray.size- 1]? =aA u:=by T its.toArray[its.length- 1]? =aA u;rw[<-c6,<-hl];E hu
 R call_meets F.slot_list_pop ⟨_,e,rfl⟩ F.entry_list_pop (F.args_list_pop_1 _) (MeetsSeq.list_pop_last l its.toArray n u hy' (by rw[bv];W)) ⟨e,?_⟩;R⟨y,_,I.lset (its':=its.dropLast) hH e ?_ r.dropLast ?_,ru,q⟩
 ·T its.toArray.eraseIdxIfInBounds (its.toArray.size- 1)=its.dropLast.toArray;rw[bv,List.eraseIdxIfInBounds_toArray,Hj]
 ·rw[List.length_dropLast];W
МZwq:V->А V->Hp->VK->Prop:=λx vs H Q=>∃l xs i k y,x= .ref l/\vs=[.int i]/\H l=aA (.lst xs)/\-(2^63)<=i/\i<2^63/\seqIndex? i xs.length=aA k/\xs[k]? =aA y/\Q y (Ya H l (.lst (xs.eraseIdx k)))
МZrv:V->А V->Hp->VK->Prop:=λx vs H Q=>∃l xs,x= .ref l/\vs=[]/\H l=aA (.lst xs)/\Q .non (Ya H l (.lst xs.reverse))
МZwr:V->А V->Hp->VK->Prop:=λx vs H Q=>∃l xs,x= .ref l/\vs=[]/\H l=aA (.lst xs)/\Q .non (Ya H l (.lst []))
МZ11:R2:=λx y H Q=>∃l b xs zs,x= .ref l/\y= .ref b/\H l=aA (.lst xs)/\H b=aA (.lst zs)/\xs.length+zs.length<=sizeLine/\∀p,H p=aB->Q (.ref p) (Ya H p (.lst (xs++zs)))
МZ12:R2:=λx y H Q=>∃l k xs,x= .ref l/\y= .int k/\H l=aA (.lst xs)/\-(2^63)<=k/\k<2^63/\xs.length*k.toNat<=sizeLine/\
 ∀p,H p=aB->Q (.ref p) (Ya H p (.lst (List.replicate k.toNat xs).flatten))
end
section
variable{κ:Type}[DecidableEq κ]
МQk(kvs:А (κ×V))(k:κ):Б V:=(kvs.find? λkv=>decide (kv.1=k)).map (·.2)
МQ4(kvs:А (κ×V))(k:κ)(v:V):А (κ×V):=
 if(kvs.any λkv=>decide (kv.1=k))=aC then kvs.map (λkv=>if kv.1=k then(kv.1,v)else kv)else kvs++[(k,v)]
МZe3(kvs:А (κ×V))(k:κ):А (κ×V):=kvs.filter λkv=>decide (kv.1≠k)
ЛZe4{k:κ}:Qk ([]:А (κ×V)) k=aB:=rfl
ЛBi{p:κ×V}{r:А (κ×V)}{k:κ}(e:p.1=k):Qk (p::r) k=aA p.2:=by simp[Qk,List.find?_cons,e]
ЛU5{p:κ×V}{r:А (κ×V)}{k:κ}(e:¬p.1=k):Qk (p::r) k=Qk r k:=by simp[Qk,List.find?_cons,e]
ЛEl(k:κ):∀kvs:А (κ×V),(kvs.any λkv=>decide (kv.1=k))=(Qk kvs k).isSome
 | []=>rfl
 |p::r=>by
  rw[List.any_cons];by_cases e:p.1=k
  ·simp only[Bi e,decide_eq_true e,Bool.true_or,Option.isSome_some]
  ·rw[U5 e,Ж e,Bool.false_or];E El k r
ЛC0(kvs:А (κ×V))(k:κ)(v:V):(Q4 kvs k v).length<=kvs.length+1:=by
 unfold Q4;split
 ·rw[aj];W
 ·rw[az,bf,List.length_nil];W
ЛR9.isSome_eq{o:Б V}{u:Б am}(r:R9 o u):o.isSome=u.isSome:=by
 cases o with
 |none=>cases u with
  |none=>rfl
  |some _=>E(show False from r).elim
 |some _=>cases u with
  |none=>E(show False from r).elim
  |some _=>rfl
ЛR9.getD{o:Б V}{u:Б am}{d:V}{d':am}(r:R9 o u)(rd:Zu d d'):Zu (o.getD d) (u.getD d'):=by
 cases o with
 |none=>cases u with
  |none=>E rd
  |some _=>E(show False from r).elim
 |some _=>cases u with
  |none=>E(show False from r).elim
  |some _=>E r
ЛKV.val{kvs:А (κ×V)}{vs:А (κ×am)}(r:KV kvs vs)(k:κ):R9 (Qk kvs k) (valueAt vs k):=by
 unfold KV at r;induction r with
 |nil=>E True.intro
 | @cons p q ps qs h t ih=>
  O⟨h1,h2⟩:=h;by_cases e:p.1=k
  ·V e':q.1=k:=h1.symm.trans e;V b:valueAt (q::qs) k=aA q.2:=by simp[valueAt,List.find?_cons,e']
   rw[Bi e,b];E h2
  ·V e':¬q.1=k:=λz=>e (h1.trans z);V b:valueAt (q::qs) k=valueAt qs k:=by simp[valueAt,List.find?_cons,e']
   rw[U5 e,b];E ih
ЛKV.any{kvs:А (κ×V)}{vs:А (κ×am)}(r:KV kvs vs)(k:κ):(kvs.any λkv=>decide (kv.1=k))=vs.any λkv=>decide (kv.1=k):=by
 unfold KV at r;induction r with
 |nil=>rfl
 |cons h t ih=>rw[List.any_cons,List.any_cons,ih,h.1]
ЛKV.repl{kvs:А (κ×V)}{vs:А (κ×am)}(r:KV kvs vs)(k:κ){y:V}{u:am}(ry:Zu y u):
  KV (kvs.map λkv=>if kv.1=k then(kv.1,y)else kv) (vs.map λkv=>if kv.1=k then(kv.1,u)else kv):=by
 unfold KV at r⊢;induction r with
 |nil=>E .nil
 | @cons p q ps qs h t ih=>
  rw[a7,a7];R .cons ?_ ih;O⟨h1,h2⟩:=h;by_cases e:p.1=k
  ·rw[Е e,Е (h1.symm.trans e)];E⟨h1,ry⟩
  ·rw[Д e,Д (λz=>e (h1.trans z))];E⟨h1,h2⟩
ЛKV.put{kvs:А (κ×V)}{vs:А (κ×am)}(r:KV kvs vs)(k:κ){y:V}{u:am}(ry:Zu y u):KV (Q4 kvs k y) (stored vs k u):=by
 unfold Q4 stored;rw[r.any k];by_cases e:(vs.any λkv=>decide (kv.1=k))=aC
 ·rw[Е e,Е e];E r.repl k ry
 ·rw[Д e,Д e];E Paired.snoc r ⟨rfl,ry⟩
ЛKV.length{kvs:А (κ×V)}{vs:А (κ×am)}(r:KV kvs vs):kvs.length=vs.length:=g6 r
end
ЛT4{P:b5}{w:da}{k:Key}{u:am}(r:Zu (kV k) u):(Zp P w).is k u=aC:=by
 cases k with
 |inl i=>O⟨t,e⟩:=(show∃t,u=Value.int i t from r);subst e;E S0 P w i t
 |inr x=>O⟨t,e⟩:=(show∃t,u=Value.str x t from r);subst e;E S1 P w x t
ЛK5{P:b5}{w:da}:∀{ks:А Key} {us:А am},Z3 (ks.map kV) us->ItemsAre (Zp P w) ks us
 | [],_,r=>by rw[List.map_nil]at r;C r;E .nil
 |k::ks,_,r=>by
  rw[a7]at r;cases r with
  |cons h t=>E .cons (T4 h) (K5 t)
аKT(H:Hp):А (А Key×V)->А (А Key×aq×am)->Prop:=Paired λp q=>p.1=q.1/\H q.2.1=aA (.tup (p.1.map kV))/\Zu p.2 q.2.2
ЛKT.val{H:Hp}{kvs:А (А Key×V)}{xs:А (А Key×aq×am)}(r:KT H kvs xs)(k:А Key):R9 (Qk kvs k) ((atKey xs k).map (·.2)):=by
 induction r with
 |nil=>E True.intro
 | @cons p q ps qs h t ih=>
  O⟨h1,_,h2⟩:=h;by_cases e:p.1=k
  ·V e':q.1=k:=h1.symm.trans e;V b:atKey (q::qs) k=aA q.2:=by simp[atKey,List.find?_cons,e']
   rw[Bi e,b];E h2
  ·V e':¬q.1=k:=λz=>e (h1.trans z);V b:atKey (q::qs) k=atKey qs k:=by simp[atKey,List.find?_cons,e']
   rw[U5 e,b];E ih
ЛKT.repl{H:Hp}{kvs:А (А Key×V)}{xs:А (А Key×aq×am)}(r:KT H kvs xs)(k:А Key){y:V}{u:am}(ry:Zu y u):
  KT H (kvs.map λkv=>if kv.1=k then(kv.1,y)else kv) (xs.map (putAt k u)):=by
 induction r with
 |nil=>E .nil
 | @cons p q ps qs h t ih=>
  rw[a7,a7];R .cons ?_ ih;O⟨h1,h2,h3⟩:=h;unfold putAt;by_cases e:p.1=k
  ·rw[Е e,Е (h1.symm.trans e)];E⟨h1,h2,ry⟩
  ·rw[Д e,Д (λz=>e (h1.trans z))];E⟨h1,h2,h3⟩
ЛKT.put{H:Hp}{kvs:А (А Key×V)}{xs:А (А Key×aq×am)}(r:KT H kvs xs)(k:А Key){b:aq}{y:V}{u:am}(hb:H b=aA (.tup (k.map kV)))(ry:Zu y u):
  KT H (Q4 kvs k y) (storedH xs k b u):=by
 V e:(kvs.any λkv=>decide (kv.1=k))=(atKey xs k).isSome:=by rw[El,(r.val k).isSome_eq,Option.isSome_map]
 unfold Q4 storedH;rw[e];by_cases q:(atKey xs k).isSome=aC
 ·rw[Е q,Е q];E r.repl k ry
 ·rw[Д q,Д q];E Paired.snoc r ⟨rfl,hb,ry⟩
ЛKT.keeps{H H':Hp}{kvs:А (А Key×V)}{xs:А (А Key×aq×am)}(r:KT H kvs xs)(ht:∀b ys,H b=aA (.tup ys)->H' b=aA (.tup ys)):KT H' kvs xs:=
 Paired.mapP r λ_ _ z=>⟨z.1,ht _ _ z.2.1,z.2.2⟩
section
variable{P:b5}{w:da}{H:Hp}{h:eh}{a:aq}
ЛZe5{u:HO}(ok:Ra P w H h)(e:Rd H a u):Yc P w H h a u:=e.ok ok
ЛRb{kvs:А (Key×V)}(ok:Ra P w H h)(e:RdK H a kvs):kvs.length<=sizeLine/\(a==sysModules)=aD/\∃vs,KV kvs vs/\h.DictOf (Zp P w) a vs:=
 let⟨ep,e⟩:=e;let⟨z,y,vs,r,d⟩:=(show Yc P w H h a (.dK kvs ep)from Ze5 ok e);⟨z,y,vs,r,d.dictOf⟩
ЛZl9{kvs:А (Key×V)}(ok:Ra P w H h)(e:HK H a kvs):kvs.length<=sizeLine/\(a==sysModules)=aD/\∃vs,KV kvs vs/\h.DictOf (Zp P w) a vs:=Rb ok e.rd
ЛBx{ks:А Key}(ok:Ra P w H h)(e:H a=aA (.tup (ks.map kV))):(tupleKind (Zp P w)).is h ks a:=by
 O⟨_,its,r,o,h1,h2,n,h3⟩:=(show Yc P w H h a (.tup (ks.map kV))from ok a _ e)
 E⟨o,its.toArray,n,h1,h2,h3,by simpa using K5 r⟩
ЛEm{kvs:А (А Key×V)}(ok:Ra P w H h)(e:RdT H a kvs):kvs.length<=sizeLine/\(a==sysModules)=aD/\
  ∃xs,KT H kvs xs/\h.DictOfH (tupleKind (Zp P w)) a xs:=by
 O⟨ep,bs,e⟩:=e;O⟨z,y,xs,r,o,es,h1,h2,h3,h4,h5,_⟩:=(show Yc P w H h a (.dT kvs ep bs)from Ze5 ok e)
 R⟨z,y,xs,r,o,es,ep,h1,h2,h3,h4,λx hx=>?_,h5⟩;V all:∀{l:А (А Key×V)} {m:А (А Key×aq×am)},KT H l m->∀x∈m,(tupleKind (Zp P w)).is h x.1 x.2.1:=by
  intro l m q;induction q with
  |nil=>intro x hx;E nomatch hx
  | @cons p q ps qs hq t ih=>
   intro x hx;rcases bu.mp hx with e|hx
   ·subst e;E Bx ok (by rw[<-hq.1];E hq.2.1)
   ·E ih x hx
 E all r x hx
ЛZrw{kvs:А (А Key×V)}(ok:Ra P w H h)(e:HTt H a kvs):kvs.length<=sizeLine/\(a==sysModules)=aD/\
  ∃xs,KT H kvs xs/\h.DictOfH (tupleKind (Zp P w)) a xs:=Em ok e.rd
end
МUk(H:Hp)(a:aq)(y:V)(r:Б V):Prop:=
 (∃kvs k,RdK H a kvs/\y=kV k/\r=Qk kvs k)\/∃kvs k b,RdT H a kvs/\y= .ref b/\H b=aA (.tup (k.map kV))/\r=Qk kvs k
МFx(H:Hp)(a:aq)(y v:V)(R:Hp->В):Prop:=
 (∃kvs k,HK H a kvs/\y=kV k/\kvs.length<sizeLine/\∀ep,R (Ya H a (.dK (Q4 kvs k v) ep)))\/
 ∃kvs k b,HTt H a kvs/\y= .ref b/\H b=aA (.tup (k.map kV))/\kvs.length<sizeLine/\∀ep ep0 bs,H a=aA (.dT kvs ep0 bs)->R (Ya H a (.dT (Q4 kvs k v) ep (S2 kvs bs k b)))
ЛUk.k{H:Hp}{a:aq}{kvs:А (Key×V)}{k:Key}(e:HK H a kvs):Uk H a (kV k) (Qk kvs k):=.inl ⟨kvs,k,e.rd,rfl,rfl⟩
ЛUk.t{H:Hp}{a b:aq}{kvs:А (А Key×V)}{k:А Key}(e:HTt H a kvs)(eb:H b=aA (.tup (k.map kV))):Uk H a (.ref b) (Qk kvs k):=.inr ⟨kvs,k,b,e.rd,rfl,eb,rfl⟩
ЛFx.k{H:Hp}{a:aq}{kvs:А (Key×V)}{k:Key}{v:V}{R:Hp->В}(e:HK H a kvs)(hl:kvs.length<sizeLine)(h:∀ep,R (Ya H a (.dK (Q4 kvs k v) ep))):Fx H a (kV k) v R:=.inl ⟨kvs,k,e,rfl,hl,h⟩
ЛFx.t{H:Hp}{a b:aq}{kvs:А (А Key×V)}{k:А Key}{v:V}{R:Hp->В}(e:HTt H a kvs)(eb:H b=aA (.tup (k.map kV)))(hl:kvs.length<sizeLine)(h:∀ep ep0 bs,H a=aA (.dT kvs ep0 bs)->R (Ya H a (.dT (Q4 kvs k v) ep (S2 kvs bs k b)))):
  Fx H a (.ref b) v R:=.inr ⟨kvs,k,b,e,rfl,eb,hl,h⟩
section
variable{X:Cx}{pins:А (aq×Obj)}{σ:St}{H:Hp}{s:ao}{a:aq}{y v:V}{u r:am}{o:Б V}{A:dg}{E:am->ao->В}
ЛInv.big(I:Inv X pins σ H s):sysModules<s.heap.objs.size:=by V h:b8<s.heap.objs.size:=(I.mod.glob.keeps I.bk).lt;E Nat.lt_trans Й h
ЛZcz{Q:am->ao->В}(hu:A.units+1<f7)(I:Inv X pins σ H s)(g:Uk H a y (aA v))(ry:Zu y u)(h:∀w' s',Inv X pins σ H s'->Zu v w'->Q w' s'):
  bc (b4 X.prog X.w) A (getItem (.ref a) u) Q E s:=by
 rcases g with⟨kvs,k,e,ey,l⟩|⟨kvs,k,b,e,ey,eb,l⟩
 ·subst ey;O⟨z,hd,vs,rel,dd⟩:=Rb I.hok e;O⟨w',hw,rw'⟩:=R9.some_of (v:=v) (o:=valueAt vs k) (by rw[l];E rel.val k);E wpAny_getItem_of (T4 ry) dd.mapOf hw (h w' _ (I.tok _) rw')
 ·subst ey;cases(show u=bz b from ry);O⟨z,hd,xs,rel,dd⟩:=Em I.hok e;O⟨w',hw,rw'⟩:=R9.some_of (v:=v) (o:=(atKey xs k).map (·.2)) (by rw[l];E rel.val k);O⟨p,hp,hp2⟩:=c7.mp hw;R wpAny_getItem_heap (tupleKind_room_in1 hu) (Bx I.hok eb) dd hp ?_;rw[hp2];E h w' _ (I.tok _) rw'
ЛZws{Q:am->ao->В}(hu:A.units+1<f7)(I:Inv X pins σ H s)(g:Uk H a y o)(ry:Zu y u)(h:∀s',Inv X pins σ H s'->Q (.bool o.isSome) s'):
  bc (b4 X.prog X.w) A (gz .In u (.ref a)) Q E s:=by
 rcases g with⟨kvs,k,e,ey,l⟩|⟨kvs,k,b,e,ey,eb,l⟩
 ·subst ey;O⟨z,hd,vs,rel,dd⟩:=Rb I.hok e;R wpAny_in_of (T4 ry) hd dd.mapOf ?_;rw[<-(rel.val k).isSome_eq,<-l];E h _ (I.tok _)
 ·subst ey;cases(show u=bz b from ry);O⟨z,hd,xs,rel,dd⟩:=Em I.hok e;R wpAny_in_heap (tupleKind_room_in1 hu) (Bx I.hok eb) hd dd ?_;V q:=(rel.val k).isSome_eq;rw[Option.isSome_map]at q;rw[<-q,<-l];E h _ (I.tok _)
ЛZjm{Q:am->ao->В}(hu:A.units+1<f7)(I:Inv X pins σ H s)(g:Uk H a y o)(ry:Zu y u)(h:∀s',Inv X pins σ H s'->Q (.bool (!o.isSome)) s'):
  bc (b4 X.prog X.w) A (gz .NotIn u (.ref a)) Q E s:=by
 rcases g with⟨kvs,k,e,ey,l⟩|⟨kvs,k,b,e,ey,eb,l⟩
 ·subst ey;O⟨z,hd,vs,rel,dd⟩:=Rb I.hok e;R wpAny_notIn_of (T4 ry) hd dd.mapOf ?_;rw[<-(rel.val k).isSome_eq,<-l];E h _ (I.tok _)
 ·subst ey;cases(show u=bz b from ry);O⟨z,hd,xs,rel,dd⟩:=Em I.hok e;R wpAny_notIn_heap (tupleKind_room_in1 hu) (Bx I.hok eb) hd dd ?_;V q:=(rel.val k).isSome_eq;rw[Option.isSome_map]at q;rw[<-q,<-l];E h _ (I.tok _)
ЛAm{h':eh}{t':Г}{ob:HO}(I:Inv X pins σ H s)(mu:Mut (H a))(hs:ic a s.heap h')(he:∃q,h'.get? a=aA q)(new:Yc X.prog X.w (Ya H a ob) h' a ob):
  Inv X pins σ (Ya H a ob) {s with heap:=h',toks:=t'}:=
 I.write (x:=a) (e:=a) mu (.inl rfl) (λb q hb z=>(hs.2 b hb).trans z) he new
ЛHk{P:b5}{w:da}{h':eh}{kvs:А (Key×V)}{vs:А (Key×am)}(z:kvs.length<=sizeLine)(hd:(a==sysModules)=aD)(rel:KV kvs vs)(dd:h'.DictOf (Zp P w) a vs):
  ∃ep,∀H':Hp,Yc P w H' h' a (.dK kvs ep):=let⟨ep,dd⟩:=dd.dictAt;⟨ep,λ_=>⟨z,hd,vs,rel,dd⟩⟩
ЛZc0{R:Hp->В}{Q:Unit->ao->В}(hu:A.units+1<f7)(I:Inv X pins σ H s)(g:Fx H a y v R)(ry:Zu y u)(rv:Zu v r)(h:∀H' s',R H'->Inv X pins σ H' s'->Q () s'):
  bc (b4 X.prog X.w) A (setItem (.ref a) u r) Q E s:=by
 rcases g with⟨kvs,k,e,ey,l,eH⟩|⟨kvs,k,b,e,ey,eb,l,eH⟩
 ·subst ey;O⟨z,hd,vs,rel,dd⟩:=Zl9 I.hok e;V hz:vs.length<=sizeLine:=by rw[<-rel.length];E z
  V hl:(Q4 kvs k v).length<=sizeLine:=by V :=C0 kvs k v;W
  R wpAny_setItem_pairs (hsz:=hz) (T4 ry) dd λh' dd' hs=>?_;V he:∃q,h'.get? a=aA q:=let⟨q,_,_,hq,_⟩:=dd';⟨q,hq⟩
  O⟨ep,ok⟩:=Hk hl hd (rel.put k rv) dd';E h _ _ (eH ep) (Am I (by O⟨e0,e⟩:=e;rw[e];E True.intro) hs he (ok _))
 ·subst ey;cases(show u=bz b from ry);O⟨z,hd,xs,rel,dd⟩:=Zrw I.hok e;V hz:xs.length<=sizeLine:=by rw[<-g6 rel];E z
  V hl:(Q4 kvs k v).length<=sizeLine:=by V :=C0 kvs k v;W
  R wpAny_setItem_heap (hsz:=hz) (tupleKind_room_in1 hu) (Bx I.hok eb) dd λh' dd' hs=>?_;O⟨q,es,ep,hq,h2,h3,h4,_,h5⟩:=dd';O⟨e0,bs,e⟩:=e;V hb:(xs.map λx=>x.2.1)=bs:=by
   O⟨_,_,xs',r',_,_,w1,_,w3,w4,_,w6⟩:=(show Yc X.prog X.w H s.heap a (.dT kvs e0 bs)from I.hok a _ e)
   O⟨_,_,_,y1,_,y3,y4,_⟩:=dd;rw[w1]at y1;C y1;rw[w3]at y3;C y3;V :xs'.map (λx=>x.2.1)=xs.map λx=>x.2.1:=by
    V z:=congrArg (List.map DictEntry.key) (w4.symm.trans y4);rw[bo,bo]at z;V inj:∀{l m:А (А Key×aq×am)},l.map (DictEntry.key∘entryOfKey (tupleKind (Zp X.prog X.w)))=m.map (DictEntry.key∘entryOfKey (tupleKind (Zp X.prog X.w)))->(l.map λx=>x.2.1)=m.map λx=>x.2.1:=by
     intro l;induction l with
     |nil=>intro m z;cases m with
      |nil=>rfl
      |cons _ _=>C z
     |cons x l ih=>intro m z;cases m with
      |nil=>C z
      |cons y m=>rw[a7,a7]at z⊢;injection z with z1 z2;V z1':bz x.2.1=bz y.2.1:=z1;injection z1' with z1';rw[z1',ih z2]
    E inj z
   rw[<-this];E w6
  V hb2:((storedH xs k b r).map λx=>x.2.1)=S2 kvs bs k b:=by
   V ee:(kvs.any λkv=>decide (kv.1=k))=(atKey xs k).isSome:=by rw[El,(rel.val k).isSome_eq,Option.isSome_map]
   unfold S2 storedH;rw[ee];by_cases qq:(atKey xs k).isSome=aC
   ·rw[Е qq,Е qq,bo,<-hb];R f8 λx _=>?_;show(putAt k r x).2.1=x.2.1;unfold putAt;split<;> rfl
   ·rw[Д qq,Д qq,b7,hb];rfl
  R h _ _ (eH ep e0 bs e) (Am I (by rw[e];E True.intro) hs ⟨q,hq⟩ ⟨hl,hd,_,(rel.put k eb rv).keeps λc ys ec=>?_,q,es,hq,h2,h3,h4,h5,hb2⟩);rw[Zw (Eg ec e (λz=>nomatch z))];E ec
end
МZoj(i:c5):Prop:=∀ov iv,subscripted i aD ov iv=operate [ov,iv] (getItem ov iv)
ЛZap{prog:b5}{w:da}{A:dg}{E:am->ao->В}{s:ao}{env:Env}{value slice:c5}{pos:Pos}{T id:String}{Q:am->ao->В}
  (hl:typeLookup (.type T) "__getitem__"=pure (aA (.builtin id))) (hs:Zoj slice)
  (h:bc (b4 prog w) A (gy value env) (λo s₁=>bc (b4 prog w) A (gy slice env) (λi s₂=>s₂.TypeIs o T/\bc (b4 prog w) A (getItem o i) Q E s₂) E s₁) E s):
  bc (b4 prog w) A (gy (.Subscript value slice pos) env) Q E s:=by
 R Subscript_ (wpAny_mono h (λo s₁ h₁=>wpAny_mono h₁ (λi s₂ h₂=>?_) λ_ _ x=>x) λ_ _ x=>x);O⟨hT,h₂⟩:=h₂;unfold subscriptTail;R ad ?_;rw[getitemInPython_of_ne hT.not_modules];R ad (wpAny_specialOf hT hl ?_);V fin:bc (b4 prog w) A (subscripted slice aD o i) (λr s₃=>bc (b4 prog w) A (letTemporaryGo value o r >>=λ_=>pure r) Q E s₃) E s₂:=by rw[hs o i];E wpAny_operating (wpAny_mono h₂ (λr s₃ h₃=>ad (wpAny_letTemporaryGo (ah h₃))) λ_ _ x=>x)
 first
  |E ah (ad fin)
  |E ad (ah (ad fin))
  |E ad fin
ЛVb{X:Cx}{pins:А (aq×Obj)}{σ:St}{H:Hp}{s:ao}{a:aq}{y:V}{o:Б V}(I:Inv X pins σ H s)(g:Uk H a y o):s.TypeIs (.ref a) "dict":=by
 rcases g with⟨kvs,k,e,_,_⟩|⟨kvs,k,b,e,_,_,_⟩
 ·O⟨_,_,vs,_,dd⟩:=Rb I.hok e;E dd.typeIs
 ·O⟨_,_,xs,_,dd⟩:=Em I.hok e;E dd.typeIs
МZma(td ty:TE):TE:=λσ H Q=>td σ H λx H1=>ty σ H1 λy H2=>∃a v,x= .ref a/\Uk H2 a y (aA v)/\Q v H2
МZ13(ty td:TE):TE:=λσ H Q=>ty σ H λy H1=>td σ H1 λx H2=>∃a o,x= .ref a/\Uk H2 a y o/\Q (.bl o.isSome) H2
МZve(ty td:TE):TE:=λσ H Q=>ty σ H λy H1=>td σ H1 λx H2=>∃a o,x= .ref a/\Uk H2 a y o/\Q (.bl (!o.isSome)) H2
МZmb(td ty tv:TE):TS:=λD σ H=>tv σ H λv H1=>td σ H1 λx H2=>ty σ H2 λy H3=>∃a,x= .ref a/\Fx H3 a y v (D.nx σ)
МZzv(td ty tv:TE)(rd:V->V->Hp->VK->В):TS:=λD σ H=>td σ H λx H1=>ty σ H1 λy H2=>∃a v,x= .ref a/\Uk H2 a y (aA v)/\
 tv σ H2 λy2 H3=>rd v y2 H3 λz H4=>Fx H4 a y z (D.nx σ)
МZzw(td ty:TE):TS:=λD σ H=>td σ H λx H1=>ty σ H1 λy H2=>∃a kvs k,x= .ref a/\HK H2 a kvs/\y=kV k/\(Qk kvs k).isSome=aC/\∀ep,D.nx σ (Ya H2 a (.dK (Ze3 kvs k) ep))
section
variable{X:Cx}{o i e value:c5}{pos pos' tpos:Pos}{td ty tv:TE}
ЛZjn(hu:X.A.units+1<f7)(ho:PE X o td)(hi:PE X i ty)(hs:Zoj i):PE X (.Subscript o i pos) (Zma td ty):=by intro pins s σ H Q I h;R Zap PySem.F.slot_dict_getitem.lookup hs (Wv (ho pins s σ H _ I h) λu s1 ⟨x,H1,I1,rx,q1⟩=>Wv (hi pins s1 σ H1 _ I1 q1) λiv s2 zq9=>?_);O⟨y,H2,I2,ry,a,v,ex,g,q2⟩:=zq9;subst ex;obtain rfl:u=bz a:=rx;E⟨Vb I2 g,Zcz hu I2 g ry λw' s3 I3 rw'=>⟨v,H2,I3,rw',q2⟩⟩
ЛZjo(hu:X.A.units+1<f7)(ho:PE X o td)(hi:PE X i ty)(hv:PE X value tv)(hs:swapsWith value (aA (.Subscript o i pos')) pos.line X.env=pure aD):
  PS X (.Assign [.Subscript o i pos'] value pos) (Zmb td ty tv):=by
 intro pins s σ H D I h;R wpAny_Assign_Subscript (Wv (hv pins s σ H _ I h) λr s1 ⟨v,H1,I1,rv,q1⟩=>Wv (ho pins s1 σ H1 _ I1 q1) λu s2 ⟨x,H2,I2,rx,q2⟩=>Wv (hi pins s2 σ H2 _ I2 q2) λiv s3 ⟨y,H3,I3,ry,a,ex,g⟩=>?_) hs;subst ex;obtain rfl:u=bz a:=rx;E Zc0 hu I3 g ry rv λH4 s4 q3 I4=>⟨σ,H4,I4,q3⟩
end
ЛVc{P:b5}{w:da}{H:Hp}(h:eh)(hb:sysModules<h.objs.size):Yc P w H (h.push {cls:=.type "dict",data:=.dict #[]}) h.objs.size (.dK [] 0):=
 ⟨gb _,beq_eq_false_iff_ne.mpr (Ne.symm (cj hb)),[],.nil,_, #[],ba _ rfl,⟨rfl,rfl,rfl⟩,rfl,λ_ he=>by simp at he,Pairs.nil,cx⟩
ЛZe6{P:b5}{w:da}{H:Hp}(h:eh)(hb:sysModules<h.objs.size):Yc P w H (h.push {cls:=.type "dict",data:=.dict #[]}) h.objs.size (.dT [] 0 []):=
 ⟨gb _,beq_eq_false_iff_ne.mpr (Ne.symm (cj hb)),[],.nil,_, #[],ba _ rfl,⟨rfl,rfl,rfl⟩,rfl,rfl,cx,rfl⟩
МZe7:TE:=λ_ H Q=>∀p,H p=aB->Q (.ref p) (Ya H p (.dK [] 0))
МZe8:TE:=λ_ H Q=>∀p,H p=aB->Q (.ref p) (Ya H p (.dT [] 0 []))
section
variable{X:Cx}{pos:Pos}
ЛZe9:PE X (.Dict [] [] pos) Ze7:=λpins s σ H Q I h=>
 wpAny_Dict_empty ⟨.ref s.heap.objs.size,_,I.laid (a:=s.heap.objs.size) (o:=.dK [] 0) (t':=s.toks) (λ_ _ q=>av _ q) (a6 _) (Vc s.heap I.big),rfl,h _ (I.hok.fresh (a6 _))⟩
ЛZfa:PE X (.Dict [] [] pos) Ze8:=λpins s σ H Q I h=>
 wpAny_Dict_empty ⟨.ref s.heap.objs.size,_,I.laid (a:=s.heap.objs.size) (o:=.dT [] 0 []) (t':=s.toks) (λ_ _ q=>av _ q) (a6 _) (Ze6 s.heap I.big),rfl,h _ (I.hok.fresh (a6 _))⟩
end
МPa:А (TE×TE)->St->Hp->(А (V×V)->Hp->В)->В
  | [],_,H,Q=>Q [] H
  | (tk,tv)::r,σ,H,Q=>tk σ H λx H1=>tv σ H1 λy H2=>Pa r σ H2 λps H3=>Q ((x,y)::ps) H3
аVV:А (V×V)->А (am×am)->Prop:=Paired λp q=>Zu p.1 q.1/\Zu p.2 q.2
МPPs(X:Cx)(pos:Pos)(keys:А (Б c5))(values:А c5)(trs:А (TE×TE)):Prop:=
 ∀(pins:А (aq×Obj)) (s:ao) (σ:St) (H:Hp) (Q:А (V×V)->Hp->В),Inv X pins σ H s->Pa trs σ H Q->
  bc (b4 X.prog X.w) X.A (evalPairs (pairTrees keys values X.env pos)) (λvs s'=>∃ps H',Inv X pins σ H' s'/\VV ps vs/\Q ps H') X.xe s
ЛZjp{X:Cx}{pos:Pos}:PPs X pos [] [] []:=λpins s σ H Q I h=>pairTrees_nil_walk ⟨[],H,I,.nil,h⟩
ЛZfb{X:Cx}{pos:Pos}{k v:c5}{ks:А (Б c5)}{vs:А c5}{tk tv:TE}{trs:А (TE×TE)}(hk:PE X k tk)(hv:PE X v tv)(hr:PPs X pos ks vs trs):
  PPs X pos (aA k::ks) (v::vs) ((tk,tv)::trs):=λpins s σ H Q I h=>
 pairTrees_cons_walk (Wv (hk pins s σ H _ I h) λu s1 ⟨x,H1,I1,rx,q1⟩=>Wv (hv pins s1 σ H1 _ I1 q1) λw2 s2 ⟨y,H2,I2,ry,q2⟩=>
  Wv (hr pins s2 σ H2 _ I2 q2) λws s3 ⟨ps,H3,I3,rel,q3⟩=>⟨(x,y)::ps,H3,I3,.cons ⟨rx,ry⟩ rel,q3⟩)
МBb(kvs more:А (Key×V)):А (Key×V):=more.foldl (λacc kv=>Q4 acc kv.1 kv.2) kvs
ЛKV.merge:∀{more:А (Key×V)} {rs:А (Key×am)} {kvs:А (Key×V)} {vs:А (Key×am)},KV more rs->KV kvs vs->KV (Bb kvs more) (merged vs rs):=by
 intro more rs kvs vs r;unfold KV at r;induction r generalizing kvs vs with
 |nil=>intro q;E q
 | @cons p q ps qs h t ih=>
  intro r0;V e:KV (Q4 kvs p.1 p.2) (stored vs q.1 q.2):=by V :=r0.put p.1 h.2;rw[<-h.1];E this
  E ih e
ЛRc:∀(more kvs:А (Key×V)),(Bb kvs more).length<=kvs.length+more.length
 | [],kvs=>by T kvs.length<=kvs.length+0;W
 |p::r,kvs=>by V h1:=Rc r (Q4 kvs p.1 p.2);V h2:=C0 kvs p.1 p.2;show(Bb (Q4 kvs p.1 p.2) r).length<=_;rw[bf];W
ЛEn{P:b5}{w:da}:∀{kvs:А (Key×V)} {ws:А (am×am)},VV (kvs.map λkv=>(kV kv.1,kv.2)) ws->∃rs,Carries (Zp P w) ws rs/\KV kvs rs
 | [],_,r=>by rw[List.map_nil]at r;C r;E⟨[],True.intro,.nil⟩
 |p::kvs,_,r=>by
  rw[a7]at r;cases r with
  | @cons a b as bs h t=>O⟨rs,c,q⟩:=En (P:=P) (w:=w) t;O⟨b1,b2⟩:=b;E⟨(p.1,b2)::rs,⟨T4 h.1,rfl,c⟩,.cons ⟨rfl,h.2⟩ q⟩
МZzx(trs:А (TE×TE)):TE:=λσ H Q=>∀p,H p=aB->Pa trs σ (Ya H p (.dK [] 0)) λps H2=>H2 p=aA (.dK [] 0)/\∃kvs:А (Key×V),ps=kvs.map (λkv=>(kV kv.1,kv.2))/\kvs.length<=15/\∀ep,Q (.ref p) (Ya H2 p (.dK (Bb [] kvs) ep))
structure M1(X:Cx)(o:c5)(m:Str)(apos:Pos)(e:c5)(cpos:Pos):В where
 base:attributeBase o m X.env (gy o X.env)=gy o X.env
 few:((gx cpos (bd [e] X.env)).all (λx=>!x.1)&&(backToKw cpos (keywordEach [] X.env)).all (λx=>x.1.isSome)
  &&decide (([e]:А c5).length+([]:А Keyword).length+(if([]:А Keyword).isEmpty then 0 else 1)<30))=aC
 line:(apos.endLine==cpos.line)=aC
 trees:gx cpos (bd [e] X.env)=[(aD,gy e X.env)]
structure M2(X:Cx)(o:c5)(m:Str)(apos:Pos)(e f:c5)(cpos:Pos):В where
 base:attributeBase o m X.env (gy o X.env)=gy o X.env
 few:((gx cpos (bd [e,f] X.env)).all (λx=>!x.1)&&(backToKw cpos (keywordEach [] X.env)).all (λx=>x.1.isSome)
  &&decide (([e,f]:А c5).length+([]:А Keyword).length+(if([]:А Keyword).isEmpty then 0 else 1)<30))=aC
 line:(apos.endLine==cpos.line)=aC
 trees:gx cpos (bd [e,f] X.env)=[(aD,gy e X.env),(aD,gy f X.env)]
МIsD(H:Hp)(a:aq):Prop:=(∃kvs,RdK H a kvs)\/∃kvs,RdT H a kvs
section
variable{X:Cx}{pins:А (aq×Obj)}{σ:St}{H:Hp}{s:ao}{a:aq}{y d:V}{u r:am}{o:Б V}{A:dg}{E:am->ao->В}
ЛZok{Q:am->ao->В}(hu:A.units+1<f7)(I:Inv X pins σ H s)(g:Uk H a y o)(ry:Zu y u)(h:∀w' s',Inv X pins σ H s'->Zu (o.getD .non) w'->Q w' s'):
  bc (b4 X.prog X.w) A (call (.builtin "dict.get") [.ref a,u]) Q E s:=by
 rcases g with⟨kvs,k,e,ey,l⟩|⟨kvs,k,b,e,ey,eb,l⟩
 ·subst ey;O⟨z,hd,vs,rel,dd⟩:=Rb I.hok e;R call_meetsIn PySem.F.slot_dict_get dd.typeIs PySem.F.entry_dict_get (PySem.F.args_dict_get_2 _ _) (meets_dict_get (Zp X.prog X.w) a (T4 ry) hd) ⟨_,dd.mapOf,h _ _ (I.tok _) ?_⟩;rw[l];E(rel.val k).getD rfl
 ·subst ey;cases(show u=bz b from ry);O⟨z,hd,xs,rel,dd⟩:=Em I.hok e;R call_meetsIn PySem.F.slot_dict_get dd.typeIs PySem.F.entry_dict_get (PySem.F.args_dict_get_2 _ _) (meetsH_dict_get (tupleKind (Zp X.prog X.w)) a b hd) ⟨tupleKind_room_in1 hu,k,xs,Bx I.hok eb,dd,h _ _ (I.tok _) ?_⟩;rw[l];E(rel.val k).getD rfl
ЛZol{Q:am->ao->В}(hu:A.units+1<f7)(I:Inv X pins σ H s)(g:Uk H a y o)(ry:Zu y u)(rd:Zu d r)(h:∀w' s',Inv X pins σ H s'->Zu (o.getD d) w'->Q w' s'):
  bc (b4 X.prog X.w) A (call (.builtin "dict.get") [.ref a,u,r]) Q E s:=by
 rcases g with⟨kvs,k,e,ey,l⟩|⟨kvs,k,b,e,ey,eb,l⟩
 ·subst ey;O⟨z,hd,vs,rel,dd⟩:=Rb I.hok e;R call_meetsIn PySem.F.slot_dict_get dd.typeIs PySem.F.entry_dict_get (PySem.F.args_dict_get_3 _ _ _) (meets_dict_get_default (Zp X.prog X.w) a (T4 ry) hd r) ⟨_,dd.mapOf,h _ _ (I.tok _) ?_⟩;rw[l];E(rel.val k).getD rd
 ·subst ey;cases(show u=bz b from ry);O⟨z,hd,xs,rel,dd⟩:=Em I.hok e;R call_meetsIn PySem.F.slot_dict_get dd.typeIs PySem.F.entry_dict_get (PySem.F.args_dict_get_3 _ _ _) (meetsH_dict_get_default (tupleKind (Zp X.prog X.w)) a b hd r) ⟨tupleKind_room_in1 hu,k,xs,Bx I.hok eb,dd,h _ _ (I.tok _) ?_⟩;rw[l];E(rel.val k).getD rd
end
МZwt(td ty:TE):TE:=λσ H Q=>td σ H λx H1=>∃a,x= .ref a/\IsD H1 a/\ty σ H1 λy H2=>∃o,Uk H2 a y o/\Q (o.getD .non) H2
МZwu(td ty tx:TE):TE:=λσ H Q=>td σ H λx H1=>∃a,x= .ref a/\IsD H1 a/\ty σ H1 λy H2=>tx σ H2 λz H3=>∃o,Uk H3 a y o/\Q (o.getD z) H3
МZwv(td ty:TE):TE:=λσ H Q=>td σ H λx H1=>∃a,x= .ref a/\IsD H1 a/\ty σ H1 λy H2=>∃kvs k v,HK H2 a kvs/\y=kV k/\Qk kvs k=aA v/\∀ep,Q v (Ya H2 a (.dK (Ze3 kvs k) ep))
МZww(td ty tx:TE):TE:=λσ H Q=>td σ H λx H1=>∃a,x= .ref a/\IsD H1 a/\ty σ H1 λy H2=>tx σ H2 λz H3=>∃kvs k,HK H3 a kvs/\y=kV k/\
 (∀v ep,Qk kvs k=aA v->Q v (Ya H3 a (.dK (Ze3 kvs k) ep)))/\(Qk kvs k=aB->Q z H3)
section
variable{X:Cx}{pins:А (aq×Obj)}{σ:St}{H:Hp}{s:ao}{a:aq}{kvs:А (Key×V)}{A:dg}{E:am->ao->В}
ЛZfc{Q:am->ao->В}(I:Inv X pins σ H s)(e:RdK H a kvs)(h:∀p ep s',H p=aB->Inv X pins σ (Ya H p (.dK kvs ep)) s'->Q (.ref p) s'):bc (b4 X.prog X.w) A (call (.type "dict") [.ref a]) Q E s:=by O⟨z,hd,vs,rel,dd⟩:=Rb I.hok e;R kt_call_dict hd dd (by rw[<-rel.length];E z) λh' dd' hs=>?_;O⟨ep,ok⟩:=Hk z (beq_eq_false_iff_ne.mpr (Ne.symm (cj I.big))) rel dd';R h _ ep _ (I.hok.fresh (a6 _)) (I.laid (a:=s.heap.objs.size) (o:=.dK kvs ep) (t':=s.toks) (λb q hq=>?_) (a6 _) (ok _));E(hs.2 b (cj (bh hq))).trans (av _ hq)
end
end L2
namespace Att
open PySem PySem.W PySem.Calls PyProof.Rows
ЛAf{P:Params}{h:eh}:∀(ns:А Int) (vs:А am),WellAll P h vs (ns.map WData.int)->IntsAre vs ns:=by
 intro ns;induction ns with
 |nil=>intro vs w;rw[List.map_nil]at w;C w;E .nil
 |cons n ns ih=>
  intro vs w;rw[a7]at w;cases w with
  |cons a b=>C a;E .cons _ _ (ih _ b)
ЛZc1{l:OpenLaw}{n:Г}(hn:l.most=aA n){P:Params}{h:eh}{args:А WData}{vals:А am}
  (hpre:l.row.toRowW.claim.pre args=aC) (hwl:WellAll P h vals args):
  ∃a vs ns,vals=[bz a]/\args=[WData.list (ns.map WData.int)]/\h.get? a=aA {cls:=.type "list",data:=.seq vs.toArray}/\IntsAre vs ns/\ns.length<=n:=by
 V hsh:WShape.hasAll [] args [.list .int]=aC:=(pre_splitW hpre).1;V hc:l.pre.holds [] {args:=args}=aC:=(pre_splitW hpre).2;O⟨d,r,rfl,h1,h2⟩:=hasAllW_cons hsh;obtain rfl:=hasAllW_nil h2;O⟨xs,rfl,h3⟩:=hasW_list h1;O⟨ns,rfl⟩:=items_int h3;V hlen:ns.length<=n:=by
  unfold OpenLaw.pre at hc;V h4:(WTm.not (.lt (.lit (.int (n:Int))) (.len (.arg 0)))).holds [] {args:=[.list (ns.map .int)]}=aC:=by V h4:=(holds_andW hc).1;rw[hn]at h4;E h4
  V h5:=condW_of h4 (w_not (w_lt w_lit (w_len_list (w_arg rfl))));rw[aj]at h5;R Nat.le_of_not_lt λq=>?_;V q':(n:Int)<((ns.length:Г):Int):=by W
  first
   | (rw[decide_eq_true q']at h5;E absurd h5 Й)
   | (simp at h5;W)
 cases hwl with
 |cons w1 w2=>
  C w2;cases w1 with
  |list ho hall=>E⟨_,_,ns,rfl,rfl,ho,Af ns _ hall,hlen⟩
ЛZc2(l:OpenLaw)(args:А WData):l.row.toRowW.claim.post args (.bool aC) args=aC:=
 postW_of (r:=l.row.toRowW) (X:=(aC==aC))
  (show WShape.has [] (.bool aC) .bool=aC by first|rfl|decide|simp[WShape.has,WShape.arms,WShape.armsAll])
  (show(WTm.eq .res (.lit (.bool aC))).value [] {args:=args,res:=aA (.bool aC),after:=args}=aA (.bool (aC==aC))from w_eq_bool (w_res rfl) w_lit) rfl
Лattach_call{l:OpenLaw}{n:Г}{q:b5}{loose:А Str}{XP:(Str->Б am)->eh->В}{YP:da->eh->В}{d:DefRec}
  (hn:l.most=aA n) (hdf:d.params.defaults=[])
  (call:∀(w:da) (s₀ s₁:ao) (mg mb:Str->Б am) (fa:aq) (o:Obj) (pm cd doc:am) (a:aq) (vs:А am) (ns:А Int),
   Ground q loose [] XP w s₀ mg mb s₁.heap->YP w s₁.heap->
   s₁.heap.get? fa=aA o->o.data= .func (docDef d.name d.params d.body d.scope pm cd doc)->s₁.heap.CodeRec cd d.name->mg d.name=aA (.ref fa)->
   s₁.heap.get? a=aA {cls:=.type "list",data:=.seq vs.toArray}->IntsAre vs ns->ns.length<=n->s₁.gens= #[]->
   codeAny (b4 l.prog w) callerA (.call (.ref fa) ⟨[.ref a],[]⟩) (λr s'=>r= .ok (.ret (.bool aC))/\OldK s₁.heap s'.heap/\s'.os=s₁.os/\AllBare s'.gens) s₁):
  WalkO q loose XP YP l.row.toRowW d [] (λf vs=>PySem.call f vs):=by
 intro w s₀ s₁ mg mb G Y fa o pm cd doc dV kV ho hd hcd hD hmg hg args vals as hpre hlay hrd hwl hlo;obtain rfl:dV= .none:=Dflts.none hD hdf;obtain rfl:kV= .none:=Dflts.noKw hD;O⟨a,vs,ns,rfl,rfl,hobj,hints,hlen⟩:=Zc1 hn hpre hwl;R enter_call (codeAny_mono (call w s₀ s₁ mg mb fa o pm cd doc a vs ns G Y ho (fd_plain hd) hcd hmg hobj hints hlen hg) λr s' hq=>?_);O⟨rfl,h2,h3,h4⟩:=hq;E⟨.inl ⟨.bool aC,.bool aC,[],rfl,λ_=>rfl,.bool aC,Zc2 l _,λ_=>⟨List.Pairwise.nil,λ_ hm=>(nomatch hm)⟩⟩,h2,h3,h4⟩
section
variable{prog:b5}{w:da}{A:dg}{E:am->ao->В}{s:ao}{K:Frag}
МZwx(h:eh):Heap:={h with objs:= #[]}
МZwy(h:eh)(L d:aq):А (aq×Obj):=(c8 h.objs.size).filterMap λa=>if a=L\/a=d then aB else(h.get? a).map λo=>(a,o)
end
end Att
namespace L2
open PySem PySem.Spec PyProof.Rows
ЛK6:∀{vs:А am} {ns:А Int},IntsAre vs ns->Z3 (ns.map V.int) vs
 |_,_,.nil=>.nil
 |_,_,.cons n t h=>.cons ⟨t,rfl⟩ (K6 h)
МZfd(H:Hp):Prop:=∀b,H b=aB\/∃o xs,H b=aA (.frz o (.lst xs))
ЛZfe {P : b5} {w : da} {K : af} {mg mb : Str -> Б am} {CX : CXT} {k : Г} {fa a : aq} {fd : cr} {x : Str} {sp : Sp} {s₁ : ao} {vs : А am} {ns : А Int}
    (KX : K.In s₁.heap) (hns : s₁.heap.Ns b8 mg) (hb : s₁.heap.Ns builtinsNs mb) (hbb : ∀ x : Str, x ≠ "__name__" -> mb x = bootBuiltins x) (hlim : s₁.heap.NoLimit) (hg : s₁.gens = #[])
    (ha : s₁.heap.get? a = aA { cls := .type "list", data := .seq vs.toArray }) (hi : IntsAre vs ns) (hl : ns.length <= sizeLine) (hr : Room k callerA)
    (F : ∀ base : eh, K.In base -> base.Ns b8 mg -> FnOk P w K mg base CX k fa fd [x] sp) (hbind : ∀ (s : ao) (u : am), BindsTo s fd ⟨[u], []⟩ [(x, u)])
    (hsp : ∀ H : Hp, Zfd H -> W8 K H a (ns.map V.int) -> sp [.ref a] H (λv _ => v = .bl aC) λ_ _ _ => False)
    (hCX : ∀ H e s', CX [] H s₁ (λ_ _ _ => False) e s' -> False) :
    codeAny (b4 P w) callerA (.call (.ref fa) ⟨[.ref a], []⟩) (λr s' => r = .ok (.ret (.bool aC)) /\ OldK s₁.heap s'.heap /\ s'.os = s₁.os /\ AllBare s'.gens) s₁ := by
  V rv := K6 hi;V lenV := hi.length
  -- from an abstract heap in which nothing but the script may be tracked
  V core : ∀ H : Hp, Zfd H -> W8 K H a (ns.map V.int) -> Ra P w H s₁.heap -> (∀ b, H b ≠ aB -> b = a) -> (H a ≠ aB -> K.lookup a = aB) ->
      codeAny (b4 P w) callerA (.call (.ref fa) ⟨[.ref a], []⟩) (λr s' => r = .ok (.ret (.bool aC)) /\ OldK s₁.heap s'.heap /\ s'.os = s₁.os /\ AllBare s'.gens) s₁ := by
    intro H hO hS hok hA hK;V base_of : ∀ {b : aq} {o : Obj}, s₁.heap.get? b = aA o -> H b = aB -> (Nz s₁.heap H).get? b = aA o := λe n => Zej e n;V noA : ∀ {b : aq} {o : Obj} {es : Array DictEntry} {ep : Г}, s₁.heap.get? b = aA o -> o.data = .dict es ep -> H b = aB := λ{b o es ep} e d => by
      cases q : H b with
      | none => rfl
      | some u =>have e' : b = a := hA b (by rw [q]; simp);subst e';rw [ha] at e; C e;V d' : Data.seq vs.toArray _ = Data.dict es ep := d;C d'
    V nsK : ∀ {b : aq} {m : Str -> Б am}, s₁.heap.Ns b m -> (Nz s₁.heap H).Ns b m := λ{b m} ⟨o, es, ep, e, d, r⟩ => ⟨o, es, ep, base_of e (noA e d), d, r⟩
    V hKb : K.In (Nz s₁.heap H) := λb o e => base_of (KX b o e) (by
      cases q : H b with
      | none => rfl
      | some u =>
        V e' : b = a := hA b (by rw [q]; simp);subst e';rw [hK (by rw [q]; simp)] at e; C e)
    V hM : Mod K mg (Nz s₁.heap H) := ⟨hKb, nsK hns, ⟨mb, nsK hb, hbb⟩, let ⟨mc, h1, h2⟩ := hlim; ⟨mc, nsK h1, h2⟩⟩
    V e0 : Env0 P w K mg (Nz s₁.heap H) callerA [] s₁ H := ⟨rfl, hM, λb o e => Zi1 e, Nat.le_of_eq (Zcm _ _), trivial, λb hb => absurd (show b ∈ ([] : А aq) from hb) К, hok, .of_eq hg⟩
    R codeAny_mono ((F _ hKb (nsK hns)).run callerA [] s₁ H ⟨[.ref a], []⟩ [.ref a] [.ref a] _ _ hr e0 (hbind s₁ (.ref a)) (.cons rfl .nil) (hsp H hO hS)) λr s' h => ?_;cases r with
    | error e => E(hCX H e s' h).elim
    | ok fl =>
      cases fl with
      | next => E False.elim h
      | brk => E False.elim h
      | cont => E False.elim h
      | ret u =>
        obtain ⟨v, H', os, bare, un, hok', r', q⟩ := h;V q' : v = .bl aC := q;subst q';obtain rfl : u = Value.bool aC := r';R⟨rfl, OldK.of_keep λb o e => ?_, os, bare⟩;cases q : H b with
        | none => E un.keep b o e q (by intro z; E absurd (show b ∈ ([] : А aq) from z) К) К
        | some u =>
          rcases hO b with z | ⟨ob, xs, z⟩
          · rw [q] at z; C z
          · have z2 := un.frzs b ob _ z
            obtain ⟨e1, _⟩ := hok b _ z;obtain ⟨e2, _⟩ := hok' b _ z2;rw [e] at e1; C e1;E e2
  cases hk : K.lookup a with
  | some o =>
    -- the script is one of the module's own objects
    V e := KX a o hk;rw [ha] at e;C e;R core (λ_ => aB) (λ_ => .inl rfl) (.inr ⟨_, vs.toArray, _, hk, rfl, rfl, rfl, by rw [bv, lenV]; E hl, by simpa using rv⟩) (λb u z => by V z' : (aB : Б HO) = aA u := z; C z') (λb z => absurd rfl z) λz => absurd rfl z
  | none =>
    R core (λb => if b = a then aA (.frz { cls := .type "list", data := .seq vs.toArray } (.lst (ns.map V.int))) else aB) (λb => ?_) (.inl (.inr ⟨{ cls := .type "list", data := .seq vs.toArray }, Е rfl⟩)) (λb u z => ?_) (λb z => ?_) λ_ => hk
    · by_cases hb : b = a
      · E .inr ⟨_, _, Е hb⟩
      · E .inl (Д hb)
    · by_cases hb : b = a
      · have z' := (Е hb).symm.trans z
        C z';subst hb;E⟨ha, by rw [aj]; E hl, vs, _, rv, ha⟩
      · have z' := (Д hb).symm.trans z
        C z'
    · by_cases hb : b = a
      · E hb
      · E absurd (Д hb) z
аKOf{K:af}{h:eh}(_:K.In h):PySem.W.Frag:=K
ЛZjq{l:PySem.W.OpenLaw}{n k:Г}{q:b5}{loose:А Str}{XP:(Str->Б am)->eh->В}{YP:da->eh->В}{d:DefRec}{K:Params->af}{CX:da->CXT}{sp:da->Sp}{x:Str}
  (hn:l.most=aA n) (hn2:n<=sizeLine) (hdf:d.params.defaults=[]) (hr:Room k callerA)
  (hY:∀(w:da) (h:eh),YP w h->(K w.params).In h)
  (F:∀(w:da) (mg:Str->Б am) (fa:aq) (h:eh),(K w.params).In h->h.Ns b8 mg->mg d.name=aA (.ref fa)->
   ∃fd:cr,(∀(s:ao) (u:am),BindsTo s fd ⟨[u],[]⟩ [(x,u)])/\
    ∀base:eh,(K w.params).In base->base.Ns b8 mg->FnOk l.prog w (K w.params) mg base (CX w) k fa fd [x] (sp w))
  (hsp:∀(w:da) (H:Hp) (a:aq) (ns:А Int),ns.length<=n->Zfd H->W8 (K w.params) H a (ns.map V.int)->sp w [.ref a] H (λv _=>v= .bl aC) λ_ _ _=>False)
  (hCX:∀(w:da) (H:Hp) (s:ao) (e:am) (s':ao),CX w [] H s (λ_ _ _=>False) e s'->False):
  PySem.W.WalkO q loose XP YP l.row.toRowW d [] (λf vs=>PySem.call f vs):=by
 R Att.attach_call hn hdf λw s₀ s₁ mg mb fa o pm cd doc a vs ns G Y ho hd hcd hmg hobj hints hlen hg=>?_;V KX:=hY w _ Y;O⟨fd,hb,hF⟩:=F w mg fa _ KX G.T.g hmg;E Zfe KX G.T.g G.T.b G.T.builtins G.T.nolimit hg hobj hints (du hlen hn2) hr hF hb (λH hO hS=>hsp w H a ns hlen hO hS) λH e s'=>hCX w H s₁ e s'
ЛZff{l:PySem.W.OpenLaw}{n k:Г}{q:b5}{loose:А Str}{XP:(Str->Б am)->eh->В}{YP:da->eh->В}{d:DefRec}{K:Params->af}{CX:CXT}{sp:af->Sp}{x:Str}
  (hn:l.most=aA n) (hn2:n<=sizeLine) (hdf:d.params.defaults=[]) (hr:Room k callerA)
  (hY:∀(w:da) (h:eh),YP w h->(K w.params).In h)
  (F:∀(w:da) (mg:Str->Б am) (fa:aq) (h:eh),(K w.params).In h->h.Ns b8 mg->mg d.name=aA (.ref fa)->
   ∃fd:cr,(∀(s:ao) (u:am),BindsTo s fd ⟨[u],[]⟩ [(x,u)])/\
    ∀base:eh,(K w.params).In base->base.Ns b8 mg->FnOk l.prog w (K w.params) mg base CX k fa fd [x] (sp (K w.params)))
  (hsp:∀(K:af) (H:Hp) (a:aq) (ns:А Int),ns.length<=n->Zfd H->W8 K H a (ns.map V.int)->sp K [.ref a] H (λv _=>v= .bl aC) λ_ _ _=>False)
  (hCX:∀(H:Hp) (s:ao) (e:am) (s':ao),CX [] H s (λ_ _ _=>False) e s'->False):
  PySem.W.WalkO q loose XP YP l.row.toRowW d [] (λf vs=>PySem.call f vs):=
 Zjq (K:=K) (CX:=λ_=>CX) (sp:=λw=>sp (K w.params)) hn hn2 hdf hr hY F (λw H a ns h1 h2 h3=>hsp (K w.params) H a ns h1 h2 h3) λ_ H s e s'=>hCX H s e s'
МZvg(s:Stmt)(j:Г):Stmt:=match s with
 | .ClassDef _ _ _ body _ _ _ _ _ _ _=>body.getD j (.Pass ⟨0,0,0,0⟩)
 |_=>.Pass ⟨0,0,0,0⟩
МBz(s:Stmt):Arguments:=match s with
 | .FunctionDef _ a _ _ _ _ _ _ _ _=>a
 |_=>{posonlyargs:=[],args:=[],vararg:=aB,kwonlyargs:=[],kw_defaults:=[],kwarg:=aB,defaults:=[]}
МUr(s:Stmt):А Stmt:=match s with
 | .FunctionDef _ _ b _ _ _ _ _ _ _=>b
 |_=>[]
МZx(s:Stmt):Scope:=match s with
 | .FunctionDef _ _ _ _ _ _ sc _ _ _=>sc
 |_=>{kind:=.function,names:=[],isGenerator:=aD,isCoroutine:=aD}
аUs:CXT:=λ_ _ _ _ _ _=>False
аE0:XK:=λ_ _ _=>False
ЛZry{X:Cx}:Hf Us X E0:=λ_ _ _ _ _ _ _ h=>h.elim
structure Fun(K:af)(x qual:Str)(st:Stmt)(f:aq)(fd:cr):В where
 ex:∃(oc:am) (od:Б aq) (kV doc pm:am) (an:Б aq) (cdv ct:am) (osl:Array (Б am)),
  fd=PySem.W.fnOf x qual (Bz st) (Ur st) (Zx st) .none kV doc pm an cdv ct/\K.lookup f=aA ⟨oc,od,.func fd,osl⟩/\PySem.W.codeIn K cdv qual=aC
 kp:bn K (.ref f)=aC
section
variable{P:b5}{w:da}{K:af}{mg:Str->Б am}{base:eh}
ЛFun.ok{x qual:Str}{st:Stmt}{f:aq}{fd:cr}{N ps:А Str}{k:Г}{sp:Sp}(F:Fun K x qual st f fd)(S:FnScope N ps (Zx st))(len:∀vs H Q E,sp vs H Q E->vs.length=ps.length)
  (hbody:∀(cdv:am) (A:dg) (outer:А Env) (s:ao) (H:Hp) (vs:А V) (Q:VK) (E:XK),Room k (A.deeper (envOfC qual (Zx st) s.heap.objs.size f cdv))->sp vs H Q E->
   ∃t,T0 (Hg Us P w K mg base N qual (Zx st) f cdv A outer s H E).nox (Ur st) t/\t {nx:=λ_ H'=>Q .non H',rt:=Q} (Cq N vs) H):FnOk P w K mg base Us (k+1) f fd ps sp:=by
 O⟨oc,od,kV,doc,pm,an,cdv,ct,osl,rfl,lk,hcd⟩:=F.ex;R Zrm lk hcd S len λA outer s H vs Q E hr hsp=>?_;O⟨t,h,q⟩:=hbody cdv A outer s H vs Q E hr hsp;E⟨t,h.nox,q⟩
ЛFun.binds{x qual:Str}{st:Stmt}{f:aq}{fd:cr}{ps:А Str}(F:Fun K x qual st f fd)
  (h:∀(kV doc pm:am) (an:Б aq) (cdv ct:am) (us:А am),us.length=ps.length->bindArgs (PySem.W.fnOf x qual (Bz st) (Ur st) (Zx st) .none kV doc pm an cdv ct) ⟨us,[]⟩=pure (ps.zip us)):Wq K fd ps []:=by
 O⟨oc,od,kV,doc,pm,an,cdv,ct,osl,rfl,lk,hcd⟩:=F.ex;E .all (h kV doc pm an cdv ct)
ЛWn{x qual:Str}{st:Stmt}{f:aq}{oc:am}{od an:Б aq}{osl:Array (Б am)}{kV doc pm cdv ct:am}(l:K.lookup f=aA ⟨oc,od,.func (PySem.W.fnOf x qual (Bz st) (Ur st) (Zx st) .none kV doc pm an cdv ct),osl⟩)
  (c:PySem.W.codeIn K cdv qual=aC) (k:bn K (.ref f)=aC):Fun K x qual st f (PySem.W.fnOf x qual (Bz st) (Ur st) (Zx st) .none kV doc pm an cdv ct):=⟨⟨oc,od,kV,doc,pm,an,cdv,ct,osl,rfl,l,c⟩,k⟩
end
ЛZrz{A:dg}{k:Г}(hr:Room k A):A.units+1<cLine:=gv (Nat.add_le_add_left (by decide:1<=64) _) hr.units
МZi(H H':Hp):Prop:=∀b o,H b=aA o->H' b=aA o
ЛZi.refl(H:Hp):Zi H H:=λ_ _ h=>h
ЛZi.trans{H H1 H2:Hp}(a:Zi H H1)(b:Zi H1 H2):Zi H H2:=λc o h=>b c o (a c o h)
ЛZi.free{H H':Hp}(e:Zi H H'){l:aq}(h:H' l=Option.none):H l=Option.none:=by
 cases q:H l with
 |none=>rfl
 |some o=>rw[e l o q]at h;C h
ЛPE.imp{X:Cx}{e:c5}{t t':TE}(h:PE X e t)(w:∀σ H Q,t' σ H Q->t σ H Q):PE X e t':=λpins s σ H Q I q=>h pins s σ H Q I (w σ H Q q)
ЛPT.imp{X:Cx}{e:c5}{t t':TT}(h:PT X e t)(w:∀σ H Q,t' σ H Q->t σ H Q):PT X e t':=λpins s σ H Q I q=>h pins s σ H Q I (w σ H Q q)
ЛPW.imp{X:Cx}{e:c5}{t t':TT}(h:PW X e t)(w:∀σ H Q,t' σ H Q->t σ H Q):PW X e t':=λwh pins s σ H Q I q=>h wh pins s σ H Q I (w σ H Q q)
ЛPA.imp{X:Cx}{e:А c5}{t t':TA}(h:PA X e t)(w:∀σ H Q,t' σ H Q->t σ H Q):PA X e t':=λpos pins s σ H Q I q=>h pos pins s σ H Q I (w σ H Q q)
ЛPS.imp{X:Cx}{e:Stmt}{t t':TS}(h:PS X e t)(w:∀D σ H,t' D σ H->t D σ H):PS X e t':=λpins s σ H D I q=>h pins s σ H D I (w D σ H q)
ЛT0.imp{X:Cx}{e:А Stmt}{t t':TS}(h:T0 X e t)(w:∀D σ H,t' D σ H->t D σ H):T0 X e t':=λpins s σ H D I q=>h pins s σ H D I (w D σ H q)
ЛPG.imp{X:Cx}{e:c5}{t t':TG}(h:PG X e t)(w:∀v σ H Q,t' v σ H Q->t v σ H Q):PG X e t':=λpins s σ H v u Q I r q=>h pins s σ H v u Q I r (w v σ H Q q)
ЛPGs.imp{X:Cx}{e:А c5}{t t':TGs}(h:PGs X e t)(w:∀v σ H Q,t' v σ H Q->t v σ H Q):PGs X e t':=λpins s σ H vs us Q I r q=>h pins s σ H vs us Q I r (w vs σ H Q q)
ЛPI.imp{X:Cx}{tg e:c5}{t t':TI}(h:PI X tg e t)(w:∀σ H R,t' σ H R->t σ H R):PI X tg e t':=λpins s σ H R I q=>h pins s σ H R I (w σ H R q)
МTa(cells:А (Str×aq)):А (Str×NameKind)->А (Str×aq)->А (Str×aq)
 | [],cs=>cs
 | (n,k)::r,cs=>Ta cells r (if k= .free then(n,(cells.lookup n).getD 0)::cs else cs)
ЛRl{env:Env}:∀(names:А (Str×NameKind)) (cs:А (Str×aq)),(∀y∈names,y.2= .free->∃c,env.cells.lookup y.1=aA c)->
    (forIn names cs (λx r=>if(x.2==NameKind.free)=aC then do let a<-cellOf env x.1;pure (ForInStep.yield ((x.1,a)::r))else pure (ForInStep.yield r)):Sem (А (Str×aq)))=pure (Ta env.cells names cs)
  | [],cs,_=>by rw[List.forIn_nil];rfl
  | (n,k)::r,cs,h=>by
    rw[List.forIn_cons];by_cases hk:k= .free
    · O⟨c,hc⟩:=h (n,k) ag hk
      subst hk;V e1:cellOf env n=pure c:=by unfold cellOf;rw[hc]
      show((if(NameKind.free==NameKind.free)=aC then(cellOf env n >>=λa=>pure (ForInStep.yield ((n,a)::cs)))else pure (ForInStep.yield cs)) >>=λs=>_)=_;rw[Е (show(NameKind.free==NameKind.free)=aC by decide),e1];show(forIn r ((n,c)::cs) _:Sem (А (Str×aq)))=_;rw[Rl r _ λy hy=>h y (ar _ hy)];T _=pure (Ta env.cells r (if NameKind.free=NameKind.free then(n,(env.cells.lookup n).getD 0)::cs else cs));rw[Е rfl,hc];rfl
    · have hb:(k==NameKind.free)=aD:=by simpa using hk
      show((if(k==NameKind.free)=aC then(cellOf env n >>=λa=>pure (ForInStep.yield ((n,a)::cs)))else pure (ForInStep.yield cs)) >>=λs=>_)=_;rw[hb,Д bp];show(forIn r cs _:Sem (А (Str×aq)))=_;rw[Rl r _ λy hy=>h y (ar _ hy)];T _=pure (Ta env.cells r (if k=NameKind.free then _ else cs));rw[Д hk]
ЛRe{scope:Scope}{env:Env}(h:∀y∈scope.names,y.2= .free->∃c,env.cells.lookup y.1=aA c):closureFor scope env=pure (Ta env.cells scope.names []):=by simp only[closureFor];rw[Rl scope.names [] h];rfl
ЛVd{cells:А (Str×aq)}{x:Str}{c:aq}:∀{names:А (Str×NameKind)} {cs:А (Str×aq)},(∀y∈names,y.2= .free->∃c,cells.lookup y.1=aA c)->
    (cs.lookup x=aA c->cells.lookup x=aA c)->(Ta cells names cs).lookup x=aA c->cells.lookup x=aA c
  | [],_,_,h0,e=>h0 e
  | (n,k)::r,cs,h,h0,e=>by
    R Vd (names:=r) (λy hy=>h y (ar _ hy)) ?_ e;intro e';by_cases hk:k= .free
    · rw[Е hk]at e'
      O⟨c',hc⟩:=h (n,k) ag hk;rw[hc]at e';by_cases hx:x==n
      · simp only[List.lookup_cons,hx]at e'
        C e';V :x=n:=by simpa using hx
        rw[this];E hc
      · have hx':(x==n)=aD:=by simpa using hx
        simp only[List.lookup_cons,hx']at e';E h0 e'
    · rw[Д hk]at e';E h0 e'
ЛK7{cells:А (Str×aq)}{x:Str}:∀{names:А (Str×NameKind)} {cs:А (Str×aq)},(∃c,cs.lookup x=aA c)->∃c,(Ta cells names cs).lookup x=aA c
  | [],_,h=>h
  | (n,k)::r,cs,⟨c,h⟩=>by
    R K7 (names:=r) ?_;by_cases hk:k= .free
    · rw[Е hk]
      by_cases hx:x==n
      · E⟨(cells.lookup n).getD 0,by simp only[List.lookup_cons,hx]⟩
      · have hx':(x==n)=aD:=by simpa using hx
        E⟨c,by simp only[List.lookup_cons,hx'];E h⟩
    · rw[Д hk];E⟨c,h⟩
ЛMb{cells:А (Str×aq)}{x:Str}:∀{names:А (Str×NameKind)} {cs:А (Str×aq)},(x,NameKind.free)∈names->∃c,(Ta cells names cs).lookup x=aA c
  | [],_,h=>nomatch h
  | (n,k)::r,cs,h=>by
    rcases bu.mp h with e|e
    · C e
      R K7 (names:=r) ⟨(cells.lookup x).getD 0,?_⟩;rw[Е rfl];simp[List.lookup_cons]
    · E Mb (names:=r) e
МrlF(env:Env):Str×NameKind->Str×NameKind:=λ(n,k)=>if(k==NameKind.free&&env.scope.kind== .function&&env.kindOf n==aA .cell)then(n,NameKind.cell)else(n,k)
ЛPb(env:Env)(p:Str×NameKind):(rlF env p).1=p.1:=by O⟨n,k⟩:=p;unfold rlF;dsimp only;split<;> rfl
ЛOx{f:Str×NameKind->Str×NameKind}(h:∀p,(f p).1=p.1)(x:Str):∀names:А (Str×NameKind),(names.map f).lookup x=(names.lookup x).map λk=>(f (x,k)).2
  | []=>rfl
  | (n,k)::r=>by
    V ih:=Ox h x r;V e:f (n,k)=(n,(f (n,k)).2):=Prod.ext (h (n,k)) rfl;rw[a7,e,List.lookup_cons,List.lookup_cons];cases hx:x==n with
    |true=>
      V :x=n:=by simpa using hx
      subst this;rfl
    |false=>E ih
ЛEo{x:Str}{k:NameKind}:∀{names:А (Str×NameKind)},names.lookup x=aA k->(x,k)∈names
  | [],h=>by simp at h
  | (n,k')::r,h=>by
    rw[List.lookup_cons]at h;cases hx:x==n with
    |true=>
      rw[hx]at h;V :x=n:=by simpa using hx
      subst this;C h;E ag
    |false=>rw[hx]at h;E ar _ (Eo h)
ЛB0{env:Env}{names:А (Str×NameKind)}{x:Str}{kk:NameKind}(hn:∀y∈names,y.2≠.cell)(hk:kk= .cell\/kk= .free)(h:(names.map (rlF env)).lookup x=aA kk):(x,NameKind.free)∈names:=by
 rw[Ox (Pb env)]at h;O⟨k,h1,h2⟩:=c7.mp h;V hm:=Eo h1;V hc:k≠.cell:=hn _ hm;by_cases hf:k= .free
 ·subst hf;E hm
 ·exfalso;V hb:(k==NameKind.free)=aD:=by simpa using hf
  unfold rlF at h2;simp only[hb,Bool.false_and,bq,if_false]at h2;rcases hk with e|e
  ·E hc (h2.trans e)
  ·E hf (h2.trans e)
inductive BSrc where
 |own|cap (j:Г)|acc
МZmd(σ:St)(acc:aq):BSrc->Б V
 | .own=>aB
 | .cap j=>(σ[j]?).join
 | .acc=>aA (.ref acc)
МXz(src:А BSrc)(σ:St)(acc:aq):St:=src.map (Zmd σ acc)
аCx.block(X:Cx)(N':А Str)(scope:Scope)(C:aq)(s₀:ao)(H₀:Hp)(ex:А aq):Cx:=
 {X with N:=N',env:=compEnvC scope (Ta X.env.cells scope.names []) C X.env,s₀:=s₀,H₀:=H₀,outer:=X.stack,stack:=X.stack,ex:=ex,fn:=λ_=>aD,pn:=[],xe:=λ_ _=>False}
structure CompScope(X:Cx)(N':А Str)(scope:Scope)(src:А BSrc):В where
 kind:scope.kind= .function
 nocell:∀y∈scope.names,y.2≠.cell
 names:∀y∈scope.names,y.2= .local->scope.names.lookup y.1=aA .local
 free:∀y∈scope.names,y.2= .free->X.env.kindOf y.1=aA .cell\/X.env.kindOf y.1=aA .free
 len:src.length=N'.length
 cap:∀(k j:Г) (x:Str),src[k]? =aA (.cap j)->N'[k]? =aA x->X.N[j]? =aA x/\(X.env.kindOf x=aA .cell\/X.env.kindOf x=aA .free)/\scope.names.lookup x=aA .free
 acc:∀(k:Г) (x:Str),src[k]? =aA .acc->N'[k]? =aA x->scope.names.lookup x=aB
ЛG6{env:Env}{names:А (Str×NameKind)}{x:Str}(h:names.lookup x=aB):(names.map (rlF env)).lookup x=aB:=by rw[Ox (Pb env),h];rfl
ЛG7{env:Env}{names:А (Str×NameKind)}{x:Str}(h:names.lookup x=aA .free):(names.map (rlF env)).lookup x=aA .cell\/(names.map (rlF env)).lookup x=aA .free:=by
 rw[Ox (Pb env),h];unfold rlF;dsimp only[Option.map];split
 ·E .inl rfl
 ·E .inr rfl
section
variable{X:Cx}{N':А Str}{scope:Scope}{src:А BSrc}{pins:А (aq×Obj)}{σ:St}{H:Hp}{s:ao}{C acc:aq}{fp:А aq}
ЛVe{h1:eh}{tk:Г}(S:CompScope X N' scope src)(I:Inv X pins σ H s)(hC:C=s.heap.objs.size)(hf:∀b∈fp,Uj X pins H b)(hfo:∀b∈fp,∃o,s.heap.get? b=aA o)
  (hns:h1.Ns C λ_=>aB) (hk:∀b o,s.heap.get? b=aA o->h1.get? b=aA o):
  Inv (X.block N' scope C s H fp) [] (Xz src σ acc) H {s with heap:=h1,toks:=tk}:=by
 V cellf:∀y∈scope.names,y.2= .free->∃c,X.env.cells.lookup y.1=aA c:=λy hy e=>I.ok.has y.1 (S.free y hy e);V sub:∀x c,(Ta X.env.cells scope.names []).lookup x=aA c->X.env.cells.lookup x=aA c:=λx c e=>Vd cellf (λh=>by simp at h) e;V gt:∀b,b<s.heap.objs.size->b≠C:=λb hb e=>by rw[e,hC]at hb;E Nat.lt_irrefl _ hb
 R⟨⟨I.ok.mod,S.kind,I.ok.glob,I.ok.blt,by rw[hC];E a6 _,λx y c h1 h2=>I.ok.inj x y c (sub x c h1) (sub y c h2),λx hx=>?_,λx c h=>absurd h bp,I.ok.hd,I.ok.frames,.inl rfl,λb hb=>?_,I.bs,
  du I.ok.bsz I.sz,λb o e hb=>?_,λb hb hs=>?_,I.stack,I.stkFree⟩,rfl,I.bare,Un.kept hk,⟨_,hns,λi x v e1 e2 e3=>?_⟩,λx c e=>?_,?_,λx c e=>I.freeC x c (sub x c e),λp hp=>?_,I.hok.kept hk,?_⟩
 ·rcases hx with hx|hx
  ·E Mb (B0 S.nocell (.inl rfl) hx)
  ·E Mb (B0 S.nocell (.inr rfl) hx)
 ·O⟨f0,f1,f2,f3,f4,f5⟩:=hf b hb;R⟨?_,λx c e=>f4 x c (sub x c e)⟩;T b≠C;O⟨o,ho⟩:=hfo b hb;E gt b (bh ho)
 ·O⟨f0,f1,f2,f3,f4,f5⟩:=hf b hb;rcases f3 with z|z
  ·E I.ok.noex b o e z
  ·E absurd (di (bh e) (du I.ok.bsz z)) (Nat.lt_irrefl _)
 ·O⟨f0,f1,f2,f3,f4,f5⟩:=hf b hb;rcases bu.mp (I.stkSub b hs)with z|z
  ·E f1 z
  ·E f2 z
 ·V hsrc:∃q,src[i]? =aA q:=by
   cases q:src[i]? with
   |some q0=>E⟨q0,rfl⟩
   |none=>have e2':(Xz src σ acc)[i]? =aA (aA v):=e2;unfold Xz at e2';rw[a9,q]at e2';C e2'
  O⟨q,hq⟩:=hsrc;V e2':(Xz src σ acc)[i]? =aA (aA v):=e2;unfold Xz at e2';rw[a9,hq]at e2';V e2'':Zmd σ acc q=aA v:=dk.inj e2';cases q with
  |own=>C e2''
  |acc=>
   exfalso;V hno:=G6 (env:=X.env) (S.acc i x hq e1);V hno':(relabel scope X.env).names.lookup x=aB:=hno;V e3':Vis (relabel scope X.env) x:=e3;rcases e3' with z|z|z
   ·rw[hno']at z;C z
   ·rw[hno']at z;C z
   ·rw[hno']at z;C z
  |cap j=>
   O⟨hj,hkind,hfr⟩:=S.cap i j x hq e1;V hσ:σ[j]? =aA (aA v):=by
    V e4:(σ[j]?).join=aA v:=e2'';cases r:σ[j]? with
    |none=>rw[r]at e4;C e4
    |some o=>rw[r]at e4;cases o with
     |none=>C e4
     |some w'=>C e4;rfl
   O⟨m,hn,hl⟩:=I.loc;O⟨u,ru,l⟩:=hl j x v hj hσ (by rcases hkind with z|z;E .inr (.inl z);E .inr (.inr z));R⟨u,ru,?_⟩;rcases l with⟨z,_⟩|⟨_,c,hc,hcell⟩
   ·rcases hkind with y|y
    ·rw[y]at z;C z
    ·rw[y]at z;C z
   ·V e3':Vis (relabel scope X.env) x:=e3;V fin:∀kk,kk= .cell\/kk= .free->(relabel scope X.env).names.lookup x=aA kk->Zqy (X.block N' scope C s H fp).env h1 (λ_=>aB) x u:=λkk hkk hx=>by
     O⟨c',hc'⟩:=Mb (cells:=X.env.cells) (cs:=[]) (B0 S.nocell hkk hx);V :=sub x c' hc';rw[hc]at this;C this;O⟨oc,hoc,hocd⟩:=hcell;R .inr ⟨?_,c,hc',oc,hk c oc hoc,hocd⟩;rcases hkk with y|y
     ·subst y;E .inl hx
     ·subst y;E .inr hx
    rcases e3' with z|z|z
    ·exfalso;V z':(relabel scope X.env).names.lookup x=aA .local:=z;rcases G7 (env:=X.env) hfr with y|y
     ·V y':(relabel scope X.env).names.lookup x=aA .cell:=y;rw[z']at y';C y'
     ·V y':(relabel scope X.env).names.lookup x=aA .free:=y;rw[z']at y';C y'
    ·E fin .cell (.inl rfl) z
    ·E fin .free (.inr rfl) z
 ·O⟨v,oc,hoc,hocd⟩:=I.cell x c (sub x c e);E⟨v,oc,hk c oc hoc,hocd⟩
 ·T H C=aB;rw[hC];E I.hok.fresh (a6 _)
 ·V hp':p∈([]:А (aq×Obj)):=by simpa using hp
  E nomatch hp'
 ·show(Xz src σ acc).length=N'.length;unfold Xz;rw[aj];E S.len
МZfg(src:А BSrc)(wi:TI)(g:TG)(tt:TT)(te:TE):TE:=λσ H Q=>wi σ H λJ H1=>∀acc,H1 acc=aB->
 ∃W:Г->Г->St->Hp->В,(∃m,W 0 m (Xz src σ acc) (Ya H1 acc (.lst [])))/\∀i m σ' H,W i m σ' H->(J.stop i H/\Q (.ref acc) H)\/
  (J.go i H/\∀x H',J.yld i H x H'->g x σ' H' λσ2 H2=>tt σ2 H2 λb H3=>if b=aC then te σ2 H3 λy H4=>Bw (.ref acc) [y] H4 λ_ H5=>∃m',m'<m/\W (i+1) m' σ2 H5 else∃m',m'<m/\W (i+1) m' σ2 H3)
МPTs(X:Cx)(ifs:А c5)(t:TT):Prop:=
 ∀(pins:А (aq×Obj)) (s:ao) (σ:St) (H:Hp) (Q:Bool->Hp->В),Inv X pins σ H s->t σ H Q->
  bc (b4 X.prog X.w) X.A (forIn ifs aC λc r=>if r=aC then do let ok<-isTrue c X.env (gy c X.env);pure (ForInStep.yield ok)else pure (ForInStep.yield r)) (TP X pins σ Q) X.xe s
МZr0:TT:=λ_ H Q=>Q aC H
ЛZjs:PTs X [] Zr0:=λ_ s σ H Q I h=>wpAny_tests_nil ⟨H,I,h⟩
ЛZjt{c:c5}{t:TT}(h:PT X c t):PTs X [c] t:=λpins s σ H Q I q=>wpAny_tests_one (h pins s σ H Q I q)
ЛZc3{prog:b5}{w:da}{A:dg}{s:ao}{elt target iter:c5}{ifs:А c5}{scope:Scope}{pos:Pos}{it acc:am}{env:Env}{R:Result->ao->В}(I:Г->ao->В)
  (turn:∀n s,I n s->bc (b4 prog w) A (pyNext it) (λr s₁=>match r with
   |none=>R (.ok .next) s₁
   |some v=>bc (b4 prog w) A (letOwnedTupleGo target it v) (λ_ s₀=>bc (b4 prog w) A (assign target env v) (λ_ s₂=>
     bc (b4 prog w) A (forIn ifs aC λc r=>if r=aC then do let ok<-isTrue c env (gy c env);pure (ForInStep.yield ok)else pure (ForInStep.yield r)) (λok s₃=>if ok=aC then bc (b4 prog w) A (gy elt env) (λx s₄=>
      bc (b4 prog w) A (call (.builtin "list.append") [acc,x]) (λ_ s₅=>∃m,m<n/\I m s₅) (λ_ _=>False) s₄) (λ_ _=>False) s₃
      else∃m,m<n/\I m s₃) (λ_ _=>False) s₂)
     (λ_ _=>False) s₀) (λ_ _=>False) s₁) (λ_ _=>False) s)
  (n:Г) (h:I n s):codeAny (b4 prog w) A (.compLoop (.ListComp elt [⟨target,iter,ifs,0⟩] scope pos) 0 it acc env) R s:=by
 R codeAny_loop rfl I (λn s hI=>?_) n h;T bc _ A ((compTurn (.ListComp elt [⟨target,iter,ifs,0⟩] scope pos) 0 it acc env).onRaise (λx=>do noteFrame x env;theTreesLotGoes x)) _ _ s;R wpAny_noted ?_;rw[compTurn_list];R ad (wpAny_standAt (ad (wpAny_mono (turn n s hI) (λr s₁ h₁=>?_) λ_ _ f=>f.elim)));cases r with
 |none=>E ah h₁
 |some v=>
  R ad (wpAny_mono h₁ (λ_ s₀ h₀'=>?_) λ_ _ f=>f.elim);R ad (wpAny_mono h₀' (λ_ s₂ h₂=>?_) λ_ _ f=>f.elim);R ad (wpAny_mono h₂ (λokb s₃ h₃=>?_) λ_ _ f=>f.elim);cases okb with
  |false=>E ah ⟨rfl,h₃⟩
  |true=>E ad (ad (wpAny_mono h₃ (λx s₄ h₄=>ad (wpAny_mono h₄ (λ_ s₅ h₅=>ah (ah ⟨rfl,h₅⟩)) λ_ _ f=>f.elim)) λ_ _ f=>f.elim))
ЛEp{tg elt iter:c5}{ifs:А c5}{pos:Pos}{g:TG}{tt:TT}{te:TE}{it:aq}{tn:Г->eh->В}{J:It}{Q:VK}{RR:am->aq->Result->ao->В}{E:am->ao->В}
  (hc:X.calm=aC) (S:CompScope X N' scope src)
  (hg:∀(C:aq) (s₀:ao) (H₀:Hp) (ex:А aq),PG (X.block N' scope C s₀ H₀ ex) tg g)
  (ht:∀(C:aq) (s₀:ao) (H₀:Hp) (ex:А aq),PTs (X.block N' scope C s₀ H₀ ex) ifs tt)
  (he:∀(C:aq) (s₀:ao) (H₀:Hp) (ex:А aq),PE (X.block N' scope C s₀ H₀ ex) elt te)
  (I:Inv X pins σ H s) (T:Turn X.prog X.w X.K tg J fp it tn) (st:tn 0 s.heap) (hf:∀b∈fp,Uj X pins H b)
  (q:∀acc,H acc=aB->∃W:Г->Г->St->Hp->В,(∃m,W 0 m (Xz src σ acc) (Ya H acc (.lst [])))/\∀i m σ' H,W i m σ' H->(J.stop i H/\Q (.ref acc) H)\/
   (J.go i H/\∀x H',J.yld i H x H'->g x σ' H' λσ2 H2=>tt σ2 H2 λb H3=>if b=aC then te σ2 H3 λy H4=>Bw (.ref acc) [y] H4 λ_ H5=>∃m',m'<m/\W (i+1) m' σ2 H5 else∃m',m'<m/\W (i+1) m' σ2 H3))
  (hRR:∀(acc C:aq) (s':ao) (H':Hp) (m:Str->Б am),Inv X pins σ H' s'->Q (.ref acc) H'->s'.heap.Ns C m->H' C=aB->C≠X.env.locals->X.s₀.heap.objs.size<=C->(∀x c,X.env.cells.lookup x=aA c->c≠C)->(∀p∈X.pn++pins,p.1≠C)->
   RR (.ref acc) C (.ok .next) s'):
  bc (b4 X.prog X.w) X.A (newList []) (λacc s₃=>bc (b4 X.prog X.w) X.A (newFunctionEnv scope X.env.globals (Ta X.env.cells scope.names []) [] X.env.qual aB .none (aA X.env)) (λcenv s₄=>
   codeAny (b4 X.prog X.w) X.A (.compStart (.ListComp elt [⟨tg,iter,ifs,0⟩] scope pos) 0 (.ref it) acc {cenv with scope:=relabel scope X.env}) (RR acc cenv.locals) s₄) E s₃) E s:=by
 V hfo:∀b∈fp,∃o,s.heap.get? b=aA o:=λb hb=>let⟨o,e,_⟩:=T.obj 0 _ st b hb;⟨o,e⟩
 R dw (wpAny_newFunctionEnv S.nocell (by intro y hy;simp at hy) (λh₁ hns₁ hsb₁=>?_) S.kind);dsimp only at hns₁ hsb₁⊢;V hacc:H s.heap.objs.size=aB:=I.hok.fresh (a6 _);V I3:Inv X pins σ (Ya H s.heap.objs.size (.lst [])) {s with heap:=s.heap.push {cls:=.type "list",dict:=aB,data:=.seq ([]:А am).toArray}}:=I.lnew (t':=s.toks) (its:=[]) (ys:=[]) .nil (gb _);V hf3:∀b∈fp,Uj X pins (Ya H s.heap.objs.size (.lst [])) b:=λb hb=>by O⟨f0,f⟩:=hf b hb;O⟨o,ho⟩:=hfo b hb;E⟨by rw[Zw (cj (bh ho))];E f0,f⟩
 V hfo3:∀b∈fp,∃o,(s.heap.push {cls:=.type "list",dict:=aB,data:=.seq ([]:А am).toArray}).get? b=aA o:=λb hb=>let⟨o,e⟩:=hfo b hb;⟨o,av _ e⟩
 O⟨W,⟨m0,w0⟩,turn⟩:=q _ hacc;generalize hH2:s.heap.push {cls:=.type "list",dict:=aB,data:=.seq ([]:А am).toArray}=H2 at hns₁ hsb₁ I3 hfo3⊢;V keep:∀b o,H2.get? b=aA o->h₁.get? b=aA o:=λb o e=>hsb₁.extBut b o (cj (bh e)) (av _ e);V J0:=Ve (N':=N') (scope:=scope) (src:=src) (acc:=s.heap.objs.size) (tk:=s.toks+([]:А (Str×am)).length) (C:=H2.objs.size) S I3 rfl hf3 hfo3 (show h₁.Ns H2.objs.size (λ_=>aB)from hns₁) keep;V st1:tn 0 h₁:=T.keep 0 s.heap h₁ st λb hb o e=>keep b o (by rw[<-hH2];E av _ e);V cne:H2.objs.size≠X.env.locals:=Nat.ne_of_gt I3.lt;V csz:X.s₀.heap.objs.size<=H2.objs.size:=I3.sz;V ccell:∀x c,X.env.cells.lookup x=aA c->c≠H2.objs.size:=λx c e z=>by O⟨v,oc,hoc,_⟩:=I3.cell x c e;E absurd (bh hoc) (by rw[z];E Nat.lt_irrefl _)
 V cpin:∀p∈X.pn++pins,p.1≠H2.objs.size:=λp hp z=>absurd (bh (I3.pin p hp).1) (by rw[z];E Nat.lt_irrefl _);V loop:∀s₃:ao,s₃={s with heap:=h₁,toks:=s.toks+([]:А (Str×am)).length}->
   codeAny (b4 X.prog X.w) X.A (.compLoop (.ListComp elt [⟨tg,iter,ifs,0⟩] scope pos) 0 (.ref it) (.ref s.heap.objs.size) (compEnvC scope (Ta X.env.cells scope.names []) H2.objs.size X.env)) (RR (.ref s.heap.objs.size) H2.objs.size) s₃:=by
  rintro s₃ rfl;R Zc3 (λn s'=>∃i σ' H',Inv (X.block N' scope H2.objs.size {s with heap:=H2} (Ya H s.heap.objs.size (.lst [])) fp) [] σ' H' s'/\tn i s'.heap/\(∀b∈fp,H' b=aB)/\W i n σ' H') ?_ m0 ⟨0,_,_,J0,st1,λb hb=>(hf3 b hb).1,w0⟩;rintro n s4 ⟨i,σ4,H4,J4,st4,fr4,w4⟩;V fok:∀{H':Hp},(∀b∈fp,H' b=aB)->∀b∈fp,Uj (X.block N' scope H2.objs.size {s with heap:=H2} (Ya H s.heap.objs.size (.lst [])) fp) [] H' b:=fun{H'} hn b hb=>by
   O⟨f0,f1,f2,f3,f4,f5⟩:=hf3 b hb;R⟨hn b hb,?_,λz=>J4.ok.exfs b hb z,.inl hb,λx c e=>(J4.ok.exf b hb).2 x c e,λp hp=>?_⟩
   ·E(J4.ok.exf b hb).1
   ·V hp':p∈([]:А (aq×Obj)):=by simpa using hp
    E nomatch hp'
  rcases turn i n σ4 H4 w4 with⟨stop,qn⟩|⟨go,step⟩
  ·R Wv (T.done (X.block N' scope H2.objs.size {s with heap:=H2} (Ya H s.heap.objs.size (.lst [])) fp) rfl rfl rfl hc i [] s4 σ4 H4 _ J4 (fok fr4) st4 stop) λr s5 ⟨hr,J5⟩=>?_;subst hr;O⟨m5,hn5,_⟩:=J5.loc;V I5:Inv X pins σ H4 s5:=I3.call' (ch:=fp) J5.os J5.base J5.hok J5.bare λb hb=>by O⟨f0,f1,f2,f3,f4,f5⟩:=hf3 b hb;E⟨f3,f1,f4,f5⟩
   E hRR _ _ s5 H4 m5 I5 qn hn5 J5.free cne csz ccell cpin
  ·R Wv (T.item (X.block N' scope H2.objs.size {s with heap:=H2} (Ya H s.heap.objs.size (.lst [])) fp) rfl rfl rfl hc i [] s4 σ4 H4 _ J4 (fok fr4) st4 go) λr s5 ⟨u,hr,h5⟩=>?_;subst hr;R Wv h5 λ_ s6 zq9=>?_;O⟨x,H6,J6,r6,y6,st6,fr6⟩:=zq9;V J6':=J6.pinned (fok fr6) (T.obj _ _ st6);V again:∀{σ7:St} {H7:Hp} {s7:ao},Inv (X.block N' scope H2.objs.size {s with heap:=H2} (Ya H s.heap.objs.size (.lst [])) fp) ([]++Ei fp s6.heap) σ7 H7 s7->(∃m',m'<n/\W (i+1) m' σ7 H7)->
     ∃m,m<n/\∃i σ' H',Inv (X.block N' scope H2.objs.size {s with heap:=H2} (Ya H s.heap.objs.size (.lst [])) fp) [] σ' H' s7/\tn i s7.heap/\(∀b∈fp,H' b=aB)/\W i m σ' H':=fun{σ7 H7 s7} J7 ⟨m',hm,w7⟩=>by
    R⟨m',hm,i+1,σ7,H7,J7.unpinned,T.keep _ _ _ st6 λb hb o e=>(J7.pin (b,o) (bx _ (bx _ (Bu hb e)))).1,λb hb=>?_,w7⟩;O⟨o,e,d⟩:=T.obj _ _ st6 b hb;E(J7.pin (b,o) (bx _ (bx _ (Bu hb e)))).2.1
   R Wv (hg _ _ _ _ _ s6 σ4 H6 x u _ J6' r6 (step x H6 y6)) λ_ s7 zq9=>?_;O⟨σ7,H7,J7,q7⟩:=zq9;R Wv (ht _ _ _ _ _ s7 σ7 H7 _ J7 q7) λb s8 zq9=>?_;O⟨H8,J8,q8⟩:=zq9;cases b with
   |false=>rw[Д bp]at q8⊢;E again J8 q8
   |true=>rw[Е rfl]at q8⊢;R Wv (he _ _ _ _ _ s8 σ7 H8 _ J8 q8) λy s9 zq9=>?_;O⟨vy,H9,J9,r9,q9⟩:=zq9;R Wv (M9 _ s9 σ7 H9 (.ref s.heap.objs.size) [vy] (.ref s.heap.objs.size) [y] _ J9 rfl (.cons r9 .nil) q9) λ_ s10 ⟨_,H10,J10,_,q10⟩=>again J10 q10
 E codeAny_compStart_list (loop _ rfl) (T.self X.A 0 _ _ _ st1 (loop _ rfl))
ЛZju{tg elt iter:c5}{ifs:А c5}{pos:Pos}{wi:TI}{g:TG}{tt:TT}{te:TE}(hc:X.calm=aC)(S:CompScope X N' scope src)(hi:PI X tg iter wi)
  (hg:∀(C:aq) (s₀:ao) (H₀:Hp) (ex:А aq),PG (X.block N' scope C s₀ H₀ ex) tg g)
  (ht:∀(C:aq) (s₀:ao) (H₀:Hp) (ex:А aq),PTs (X.block N' scope C s₀ H₀ ex) ifs tt)
  (he:∀(C:aq) (s₀:ao) (H₀:Hp) (ex:А aq),PE (X.block N' scope C s₀ H₀ ex) elt te)
  (hs:∀x,foldedSetIterable iter X.env x=pure x:=by intro _;rfl):PE X (.ListComp elt [⟨tg,iter,ifs,0⟩] scope pos) (Zfg src wi g tt te):=by
 intro pins s σ H Q I h;rw[eval_ListComp];R wpAny_comprehension_free (use:=aB) rfl hs (Re λy hy e=>I.ok.has y.1 (S.free y hy e)) S.kind S.names (Wv (hi pins s σ H _ I h) λv s1 h1=>Wv h1 λitv s2 h2=>?_);O⟨it,fp,tn,J,H2,e,I2,T,st2,f2,q⟩:=h2;subst e;R Ep hc S hg ht he I2 T st2 f2 q λacc C s' H' m I' q' hn hC c1 c2 c3 c4=>⟨m,hn,λh' hs'=>?_⟩
 E⟨.ref acc,H',I'.turned (t':=s'.toks) (λb o hb e=>(hs'.2 b hb).trans e) hC c1 (.inr c2) c3 c4,rfl,q'⟩
ЛHl{tg elt iter:c5}{ifs:А c5}{pos spos py:Pos}{wi:TI}{g:TG}{tt:TT}{te:TE}{i:Г}{y:Str}(hc:X.calm=aC)(S:CompScope X N' scope src)(hi:PI X tg iter wi)
  (hg:∀(C:aq) (s₀:ao) (H₀:Hp) (ex:А aq),PG (X.block N' scope C s₀ H₀ ex) tg g)
  (ht:∀(C:aq) (s₀:ao) (H₀:Hp) (ex:А aq),PTs (X.block N' scope C s₀ H₀ ex) ifs tt)
  (he:∀(C:aq) (s₀:ao) (H₀:Hp) (ex:А aq),PE (X.block N' scope C s₀ H₀ ex) elt te)
  (hN:X.N.Nodup) (hiy:X.N[i]? =aA y) (hx:X.env.scope.names.lookup y=aA .local)
  (hsw:swapsWith (.ListComp elt [⟨tg,iter,ifs,0⟩] scope pos) (aA (.Name y py)) spos.line X.env=pure aC)
  (hs:∀x,foldedSetIterable iter X.env x=pure x:=by intro _;rfl):PS X (.Assign [.Name y py] (.ListComp elt [⟨tg,iter,ifs,0⟩] scope pos) spos) (Zcp (Zfg src wi g tt te) (Eh i)):=by
 intro pins s σ H D I h;rw[exec_Assign_Name_used _ _ _ _ hsw];R ad (wpAny_standAt (ad ?_));T bc _ X.A (do let _<-comprehension (.ListComp elt [⟨tg,iter,ifs,0⟩] scope pos) scope X.env _ (newList []) aD (gy iter X.env) (aA (assign (.Name y py) X.env))) _ _ s;R ad (wpAny_mono (wpAny_comprehension_free (use:=aA (assign (.Name y py) X.env)) (Q:=λ_ s'=>SP X pins D .next s') rfl hs (Re λy hy e=>I.ok.has y.1 (S.free y hy e)) S.kind S.names
  (Wv (hi pins s σ H _ I h) λv s1 h1=>Wv h1 λitv s2 h2=>?_)) (λ_ s' hq=>ah (ah hq)) λ_ _ e=>e)
 O⟨it,fp,tn,J,H2,e,I2,T,st2,f2,q⟩:=h2;subst e;R Ep (Q:=λx H1=>Eh i x σ H1 D.nx) hc S hg ht he I2 T st2 f2 q λacc C s' H' m I' q' hn hC c1 c2 c3 c4=>?_;R wpAny_assign_Name (Ku I' hN hiy (.inl hx) (v:=.ref acc) (u:=.ref acc) rfl (λs'' I'' ⟨a,hsb,ha⟩=>?_) (.inr hx));V hCa:C≠a:=by
  rcases ha with z|z
  ·rw[z];E c1
  ·E Ne.symm (c3 _ _ z)
 R⟨m,hn.sameBut hsb hCa,λh' hs'=>?_⟩;E⟨_,H',I''.turned (t':=s''.toks) (λb o hb e=>(hs'.2 b hb).trans e) hC c1 (.inr c2) c3 c4,q'⟩
end
Мwithout(h:eh)(xs:А aq):Heap:={objs:=(Array.range h.objs.size).map λa=>if a∈xs then{cls:=.none,data:=.freed}else(h.objs[a]?).getD {cls:=.none,data:=.freed}}
structure Raised(h:eh)(e:aq)(cls:am)(dx tb:Б aq):В where
 obj:∃oe vs,h.get? e=aA oe/\oe.cls=cls/\oe.dict=dx/\oe.data= .fields vs/\vs[1]? =aA (match tb with|none=>.none|some T=>.ref T)
 tr:∀T,tb=aA T->T≠e/\∃oT ts fl,h.get? T=aA oT/\oT.data= .fields ts/\ts[3]? =aA fl
МZwz:Б aq->А aq
 |none=>[]
 |some T=>[T]
structure Noted(l:А aq)(h h':eh)(e:aq)(cls:am)(dx tb:Б aq)(T:aq):В where
 keep:∀b o,b≠e->b∉Zwz tb->b∉l->h.get? b=aA o->h'.get? b=aA o
 slot:∀b o,b∈l->h.get? b=aA o->∃sl,h'.get? b=aA {o with slots:=sl}
 new:h.get? T=aB\/aA T=tb
 r:Raised h' e cls dx (aA T)
МCX1(P:b5)(w:da):CXT:=λouter H s E e s'=>∃(a:aq) (cls:am) (dx:Б aq) (T:aq) (H':Hp),e= .ref a/\s'.os=s.os/\AllBare s'.gens/\Un (frs outer) [] H H' s.heap s'.heap/\Ra P w H' s'.heap/\
 Raised s'.heap a cls dx (aA T)/\s.heap.get? a=aB/\s.heap.get? T=aB/\H' a=aB/\H' T=aB/\E cls dx H'
МZw0(X:Cx)(EX:XK):Prop:=∀(pins:А (aq×Obj)) (σ:St) (H:Hp) (s:ao) (e:aq) (cls:am) (dx tb:Б aq),Inv X pins σ H s->Raised s.heap e cls dx tb->X.s₀.heap.get? e=aB->H e=aB->
 (∀T,tb=aA T->X.s₀.heap.get? T=aB/\H T=aB)->EX cls dx H->X.xe (.ref e) s
abbrev VEB:А Value:=[.type "ValueError",.type "Exception",.type "BaseException",.type "object"]
МZw2(EX:XK)(C:aq)(t:TA):TS:=λ_ σ H=>t σ H λvs H1=>vs.length<=sizeLine/\EX (.ref C) aB H1
аEXT:=am->Б aq->St->Hp->В
МZvh(X:Cx)(EX:EXT):Prop:=∀(pins:А (aq×Obj)) (σ:St) (H:Hp) (s:ao) (e:aq) (cls:am) (dx:Б aq) (T:aq),Inv X pins σ H s->Raised s.heap e cls dx (aA T)->X.s₀.heap.get? e=aB->H e=aB->
 X.s₀.heap.get? T=aB->H T=aB->(∀p∈X.pn++pins,p.1≠e/\p.1≠T)->(e≠X.env.locals/\T≠X.env.locals)->(∀x c,X.env.cells.lookup x=aA c->c≠e/\c≠T)->EX cls dx σ H->X.xe (.ref e) s
МZzy(X:Cx)(EX:EXT):Prop:=∀(pins:А (aq×Obj)) (σ:St) (H:Hp) (s:ao) (e:am) (s':ao),Inv X pins σ H s->CX1 X.prog X.w X.stack H s (λcls od H'=>EX cls od σ H') e s'->X.xe e s'
МZw3(sp:Sp)(EX:EXT)(t:TA):TE:=λσ H Q=>t σ H λvs H1=>sp vs H1 Q λcls od H'=>EX cls od σ H'
structure Air(X:Cx)(pins:А (aq×Obj))(H:Hp)(s:ao)(e:aq)(cls:am)(dx:Б aq)(T:aq):В where
 r:Raised s.heap e cls dx (aA T)
 e0:X.s₀.heap.get? e=aB
 eH:H e=aB
 t0:X.s₀.heap.get? T=aB
 tH:H T=aB
 pe:∀p∈X.pn++pins,p.1≠e/\p.1≠T
 le:e≠X.env.locals/\T≠X.env.locals
 ce:∀x c,X.env.cells.lookup x=aA c->c≠e/\c≠T
аCx.inTry(X:Cx)(pn:А (aq×Obj))(xe:am->ao->В):Cx:={X with pn:=pn,xe:=xe}
аCx.inSuite(X:Cx)(a:aq):Cx:={X with A:=X.A.mark (aA (.ref a)),calm:=aD,xe:=λ_ _=>False}
section
variable{X:Cx}{pins:А (aq×Obj)}{σ:St}{H:Hp}{s:ao}{e T:aq}{cls:am}{dx:Б aq}{xe:am->ao->В}
МK8(a C:aq)(dx:Б aq):eh->Prop:=λh=>∃o,h.get? a=aA o/\o.cls= .ref C/\o.dict=dx/\PySem.W.notCls o=aC
end
set_option genInjectivity false in
structure Hd where
 x:Str
 np:Pos
 nm:Б (Str×Г)
 b0:Stmt
 suite:А Stmt
 pos:Pos
 B:aq
 t:TS
МHd.ast(h:Hd):ExceptHandler:=.ExceptHandler (aA (.Name h.x h.np)) (h.nm.map (·.1)) (h.b0::h.suite) h.pos
МEnds.but(D:Ends)(i:Г):Ends:={nx:=λσ H=>D.nx (σ.set i aB) H,bk:=λσ H=>D.bk (σ.set i aB) H,ct:=λσ H=>D.ct (σ.set i aB) H,rt:=D.rt}
МHd.run(h:Hd)(C:aq)(dx:Б aq)(D:Ends)(σ:St)(H:Hp):Prop:=match h.nm with
 |none=>h.t D σ H
 |some (_,i)=>∀a,H a=aB->h.t (D.but i) (σ.set i (aA (.ref a))) (Ya H a (.ext (K8 a C dx)))
МZme(K:af)(C:aq):А Hd->Б Hd
 | []=>aB
 |h::r=>match PySem.W.mroIn K C (.ref h.B)with
  |some aC=>aA h
  |some aD=>Zme K C r
  |none=>aB
set_option genInjectivity false in
structure Hd.Ok(X:Cx)(h:Hd):В where
 gl:Gl X h.x
 mg:X.mg h.x=aA (.ref h.B)
 ty:PySem.W.typeIn X.K (.ref h.B)=aA (.type "type")
 cl:PySem.W.isClsIn X.K h.B=aC
 bs:PySem.W.mroIn X.K h.B (.type "BaseException")=aA aC
 db:(h.x==("__debug__":Str))=aD
 nm:∀n i,h.nm=aA (n,i)->X.N.Nodup/\X.N[i]? =aA n/\Loc X.env.scope n/\X.env.kindOf n=aA .local/\X.env.scope.names.lookup n=aA .local
 su:∀a,T0 (X.inSuite a) (h.b0::h.suite) h.t
section
variable{X:Cx}{pins:А (aq×Obj)}{σ:St}{H:Hp}{s:ao}{e T C:aq}{dx:Б aq}{D:Ends}
МZ15(K:af)(tb:EXT->TS)(hs:А Hd):TS:=λD σ H=>tb (λcls dx σ' H'=>∃C h,cls= .ref C/\Zme K C hs=aA h/\h.run C dx D σ' H') D σ H
end
end L2
namespace L2
open PySem PySem.Spec PySem.Calls PyProof.Rows Builtin.ObjectAttr Builtin.Getset_descriptor
structure ExcKit(K:af)(C:aq):В where
 cl:PySem.W.isClsIn K C=aC
 ga:PySem.W.findIn K (.ref C) "__getattribute__"=aA (aA (.builtin "BaseException.__getattribute__"))
 gt:PySem.W.findIn K (.ref C) "__getattr__"=aA aB
 ca:PySem.W.findIn K (.ref C) "__class__"=aA (aA (.builtin "object.__class__"))
 gs:PySem.W.specialIn K (.builtin "object.__class__") "__get__"=aA (aA (.builtin "getset_descriptor.__get__"))
 tk:PySem.W.takesIn K (.builtin "object.__class__")=aA aC
 ob:PySem.W.mroIn K C (.type "object")=aA aC
 be:PySem.W.mroIn K C (.type "BaseException")=aA aC
section
variable{X:Cx}
МZ16(K:af)(c:V)(cv:am):А V->Hp->VK->Prop:=λxs H Q=>∃a C dx b,xs=[.ref a,c]/\H a=aA (.ext (K8 a C dx))/\ExcKit K C/\PySem.W.kitOne K (.ref C) cv=aA b/\Q (.bl b) H
МZzz(K:af)(Bs:А aq):А V->Hp->VK->Prop:=λxs H Q=>∃a C dx p b,xs=[.ref a,.ref p]/\H a=aA (.ext (K8 a C dx))/\ExcKit K C/\H p=aA (.tup (Bs.map V.ref))/\PySem.W.kitAny K (.ref C) (Bs.map bz)=aA b/\Q (.bl b) H
ЛPc:∀{Bs:А aq} {us:А am},Z3 (Bs.map V.ref) us->us=Bs.map bz
 | [],_,r=>by rw[List.map_nil]at r;C r;rfl
 |B::Bs,_,r=>by
  rw[a7]at r;cases r with
  |cons h t=>rw[show _=bz B from h,Pc t];rfl
end
end L2
namespace L2
open PySem PySem.Spec PyProof.Rows
аCx.blockX(X:Cx)(N':А Str)(scope:Scope)(C:aq)(s₀:ao)(H₀:Hp)(ex:А aq)(xe:am->ao->В):Cx:=
 {X with N:=N',env:=compEnvC scope (Ta X.env.cells scope.names []) C X.env,s₀:=s₀,H₀:=H₀,outer:=X.stack,stack:=X.stack,ex:=ex,fn:=λ_=>aD,pn:=[],xe:=xe}
section
variable{X:Cx}{N':А Str}{scope:Scope}{src:А BSrc}{pins:А (aq×Obj)}{σ:St}{H:Hp}{s:ao}{C acc:aq}{fp:А aq}
МZw4(src:А BSrc)(wi:TI)(g:TG)(tt:TT)(te:EXT->TE)(EX:EXT):TE:=λσ H Q=>wi σ H λJ H1=>∀acc,H1 acc=aB->
 ∃W:Г->Г->St->Hp->В,(∃m,W 0 m (Xz src σ acc) (Ya H1 acc (.lst [])))/\∀i m σ' H,W i m σ' H->(J.stop i H/\Q (.ref acc) H)\/
  (J.go i H/\∀x H',J.yld i H x H'->g x σ' H' λσ2 H2=>tt σ2 H2 λb H3=>if b=aC then te (λcls od _ H'=>EX cls od σ H') σ2 H3 λy H4=>Bw (.ref acc) [y] H4 λ_ H5=>∃m',m'<m/\W (i+1) m' σ2 H5 else∃m',m'<m/\W (i+1) m' σ2 H3)
end
end L2
namespace PySem
open Sem (wp)
end PySem
namespace L2
open PySem PySem.Spec PySem.Calls PyProof.Rows Builtin.ObjectAttr
МZfh:А am->Bool
 | .ref _::r=>Zfh r
 |l=>l==VEB
structure ExcSet(K:af)(C:aq)(name:Str):В where
 sa:PySem.W.findIn K (.ref C) "__setattr__"=aA (aA (.builtin "object.__setattr__"))
 ob:PySem.W.mroIn K C (.type "object")=aA aC
 na:PySem.W.findIn K (.ref C) name=aA aB
 mr:((PySem.W.clsIn K C).any λcd=>Zfh cd.mro&&cd.hasDict)=aC
МC1(a C:aq)(dx:Б aq):eh->Prop:=λh=>∃o t,h.get? a=aA o/\o.cls= .ref C/\o.dict=dx/\o.data= .fields #[.ref t,.none,.none,.none,.bool aD,.none]
end L2
namespace L2
open PySem PySem.Spec PyProof.Rows
МZw5(K:af)(C f:aq):Bool:=match K.lookup C with
 |some ⟨.type "type",_,.cls cd,sl⟩=>(match cd.mro,sl.toList with
  | .ref B::r,[_,_,_,_,aA (.builtin i),_]=>B==C&&i=="ValueError.__new__" && !cd.hasDel&&PySem.W.tailIn K VEB r&&PySem.W.nsOkIn K cd.ns&&cq K cd.ns "__init__"==aA (aA (.ref f))
  |_,_=>aD)
 |_=>aD
МZvi(C f:aq)(h:eh):Prop:=∃(bm:А am) (N:aq) (nm q:Str) (bs:А am) (hdct:Bool) (sn:А Str) (sub:А am) (ab:Bool) (col:Б Bool) (dd:Б aq) (k0 k1 k2 k3 k5:Б am) (mN:Str->Б am),
 h.get? C=aA (excClassObj nm q C N bs bm hdct sn sub ab col dd k0 k1 k2 k3 k5 "ValueError.__new__")/\h.Ns N mN/\mN "__init__"=aA (.ref f)/\OwnTail h VEB bm
Мdrop(H:Hp)(e:aq):Hp:=λb=>if b=e then aB else H b
structure ExcGet(K:af)(C:aq)(f:Str):В where
 kit:ExcKit K C
 na:PySem.W.findIn K (.ref C) f=aA aB
 mr:((PySem.W.clsIn K C).any λcd=>cd.hasDict)=aC
МZw6(K:af)(ta:TE)(f:Str):TE:=λσ H Q=>ta σ H λx H1=>∃a C dx fs v,x= .ref a/\H1 a=aA (.ext (K8 a C (aA dx)))/\H1 dx=aA (.xd fs)/\ExcGet K C f/\fs.lookup f=aA v/\Q v H1
section
variable{X:Cx}{e o value:c5}{f:Str}{pos pos':Pos}{ta tv:TE}
МZw7(K:af)(ta tv:TE)(f:Str):TS:=λD σ H=>tv σ H λy H1=>ta σ H1 λx H2=>∃a C,x= .ref a/\H2 a=aA (.ext (C1 a C aB))/\ExcSet K C f/\
 ∀dx,H2 dx=aB->D.nx σ (Ya (Ya H2 dx (.xd [(f,y)])) a (.ext (C1 a C (aA dx))))
end
МZvj(EX:XK)(C:aq)(sp:Sp)(t:TA):TS:=λ_ σ H=>t σ H λvs H1=>vs.length<=sizeLine/\∀e,H1 e=aB->sp (.ref e::vs) (Ya H1 e (.ext (C1 e C aB))) (λv H2=>v= .non/\∃dx,H2 e=aA (.ext (C1 e C dx))/\EX (.ref C) dx (drop H2 e)) E0
end L2
namespace DL
open PySem L2
variable{K:af}
inductive D where
 |non|bl (b:Bool)|int (i:Int)|str (x:Str)
 |tup (xs:А D)|lst (xs:А D)
 |dK (ks:А Key) (vs:А D)|dT (ks:А (А Key)) (vs:А D)|dX (ks:А Zl) (vs:А D)
 |exc (c:Str) (ks:А Str) (vs:А D)
МEr(K:af)(c:Str)(C:aq):Prop:=cq K b8 c=aA (aA (.ref C))
МKB(F:Hp)(kvs:А (А Key×V))(bs:А aq):Prop:=Paired (λ(p:А Key×V) (b:aq)=>F b=aA (.tup (p.1.map kV))) kvs bs
МKN(F:Hp)(kvs:А (Zl×V))(bs:А aq):Prop:=Paired (λ(p:Zl×V) (b:aq)=>Ji F p.1 b) kvs bs
mutual
inductive Rep(K:af)(F:Hp):D->V->В where
 |non:Rep K F .non .non
 |bl (b:Bool):Rep K F (.bl b) (.bl b)
 |int (i:Int):Rep K F (.int i) (.int i)
 |str (x:Str):Rep K F (.str x) (.str x)
 |tup {a:aq} {xs:А D} {vs:А V} (h:F a=aA (.tup vs)) (r:Reps K F xs vs):Rep K F (.tup xs) (.ref a)
 |lst {a:aq} {xs:А D} {vs:А V} (h:W8 K F a vs) (o:F a=aA (.lst vs)\/∀d∈xs,∃i,d= .int i) (r:Reps K F xs vs):Rep K F (.lst xs) (.ref a)
 |dK {a:aq} {ks:А Key} {ds:А D} {kvs:А (Key×V)} {ep:Г} (h:F a=aA (.dK kvs ep)) (e:kvs.map (·.1)=ks) (r:Reps K F ds (kvs.map (·.2))):Rep K F (.dK ks ds) (.ref a)
 |dT {a:aq} {ks:А (А Key)} {ds:А D} {kvs:А (А Key×V)} {ep:Г} {bs:А aq} (h:F a=aA (.dT kvs ep bs)) (kb:KB F kvs bs) (e:kvs.map (·.1)=ks) (r:Reps K F ds (kvs.map (·.2))):Rep K F (.dT ks ds) (.ref a)
 |dX {a:aq} {ks:А Zl} {ds:А D} {kvs:А (Zl×V)} {ep:Г} {bs:А aq} (h:F a=aA (.dN kvs ep bs)) (kb:KN F kvs bs) (e:kvs.map (·.1)=ks) (r:Reps K F ds (kvs.map (·.2))):Rep K F (.dX ks ds) (.ref a)
 |exc {a C:aq} {c:Str} (cl:Er K c C) (h:F a=aA (.ext (K8 a C aB))):Rep K F (.exc c [] []) (.ref a)
 |exd {a C dx:aq} {c:Str} {ks:А Str} {ds:А D} {fs:А (Str×V)} (cl:Er K c C) (h:F a=aA (.ext (K8 a C (aA dx)))) (hx:F dx=aA (.xd fs)) (e:fs.map (·.1)=ks) (r:Reps K F ds (fs.map (·.2))):Rep K F (.exc c ks ds) (.ref a)
inductive Reps(K:af)(F:Hp):А D->А V->В where
 |nil:Reps K F [] []
 |cons {d:D} {v:V} {ds:А D} {vs:А V} (h:Rep K F d v) (t:Reps K F ds vs):Reps K F (d::ds) (v::vs)
end
ЛKB.mono{F F':Hp}(s:Zi F F'){kvs:А (А Key×V)}{bs:А aq}(h:KB F kvs bs):KB F' kvs bs:=Paired.mapP h λ_ _ z=>s _ _ z
ЛKN.mono{F F':Hp}(s:Zi F F'){kvs:А (Zl×V)}{bs:А aq}(h:KN F kvs bs):KN F' kvs bs:=Paired.mapP h λ_ _ z=>z.mono λ_ _ q=>s _ _ q
ЛZfi{F F':Hp}(s:Zi F F'){a:aq}{u:HO}(h:Rd F a u):Rd F' a u:=by
 rcases h with h|⟨o,h⟩
 ·E .inl (s _ _ h)
 ·E .inr ⟨o,s _ _ h⟩
ЛWd{F F':Hp}(s:Zi F F'){a:aq}{xs:А V}(h:W8 K F a xs):W8 K F' a xs:=by
 rcases h with h|h
 ·E .inl (Zfi s h)
 ·E .inr h
ЛQl{F F':Hp}(s:Zi F F'){a:aq}{xs:А V}(h:Ov K F a xs):Ov K F' a xs:=by
 rcases h with h|h
 ·E .inl (Zfi s h)
 ·E .inr h
ЛRf{F:Hp}{a:aq}{vs:А V}(h:F a=aA (.tup vs)):Ov K F a vs:=.inl (.inl h)
mutual
ЛRep.mono{F F':Hp}(s:Zi F F'):∀{d:D} {v:V},Rep K F d v->Rep K F' d v
 |_,_,.non=>.non
 |_,_,.bl b=>.bl b
 |_,_,.int i=>.int i
 |_,_,.str x=>.str x
 |_,_,.tup h r=>.tup (s _ _ h) (Reps.mono s r)
 |_,_,.lst h o r=>.lst (Wd s h) (o.imp (λz=>s _ _ z) id) (Reps.mono s r)
 |_,_,.dK h e r=>.dK (s _ _ h) e (Reps.mono s r)
 |_,_,.dT h kb e r=>.dT (s _ _ h) (kb.mono s) e (Reps.mono s r)
 |_,_,.dX h kb e r=>.dX (s _ _ h) (kb.mono s) e (Reps.mono s r)
 |_,_,.exc cl h=>.exc cl (s _ _ h)
 |_,_,.exd cl h hx e r=>.exd cl (s _ _ h) (s _ _ hx) e (Reps.mono s r)
ЛReps.mono{F F':Hp}(s:Zi F F'):∀{ds:А D} {vs:А V},Reps K F ds vs->Reps K F' ds vs
 |_,_,.nil=>.nil
 |_,_,.cons h t=>.cons (Rep.mono s h) (Reps.mono s t)
end
ЛReps.length{F:Hp}{ds:А D}:∀{vs:А V},Reps K F ds vs->ds.length=vs.length:=by
 induction ds with
 |nil=>intro vs h;C h;rfl
 |cons d ds ih=>
  intro vs h;cases h with
  |cons _ t=>rw[bf,bf,ih t]
ЛReps.append{F:Hp}{ds es:А D}{vs us:А V}(h:Reps K F ds vs)(q:Reps K F es us):Reps K F (ds++es) (vs++us):=by
 induction ds generalizing vs with
 |nil=>C h;E q
 |cons d ds ih=>
  cases h with
  |cons h t=>E .cons h (ih t)
ЛReps.snoc{F:Hp}{ds:А D}{vs:А V}{d:D}{v:V}(r:Reps K F ds vs)(h:Rep K F d v):Reps K F (ds++[d]) (vs++[v]):=r.append (.cons h .nil)
ЛReps.get{F:Hp}:∀{ds:А D} {vs:А V} {i:Г} {d:D},Reps K F ds vs->ds[i]? =aA d->∃v,vs[i]? =aA v/\Rep K F d v
 |_,_,_,_,.nil,e=>by simp at e
 |_,_,0,_,.cons h t,e=>by simp at e;subst e;E⟨_,rfl,h⟩
 |_,_,i+1,d,.cons h t,e=>by O⟨v,h1,h2⟩:=Reps.get (i:=i) (d:=d) t (by simpa using e);E⟨v,by simpa using h1,h2⟩
ЛReps.take{F:Hp}:∀{ds:А D} {vs:А V} (n:Г),Reps K F ds vs->Reps K F (ds.take n) (vs.take n)
 |_,_,0,_=>.nil
 |_,_,_+1,.nil=>.nil
 |_,_,n+1,.cons h t=>.cons h (t.take n)
ЛReps.drop{F:Hp}:∀{ds:А D} {vs:А V} (n:Г),Reps K F ds vs->Reps K F (ds.drop n) (vs.drop n)
 |_,_,0,r=>r
 |_,_,_+1,.nil=>.nil
 |_,_,n+1,.cons h t=>t.drop n
inductive SV where
 |fz (d:D)|ol (xs:А D)|oK (ks:А Key) (vs:А D)|oT (ks:А (А Key)) (vs:А D)|oN (ks:А Key) (xss:А (А D))|oL (pin:Б aq) (xss:А (А D))|oQ (pin:aq) (ks:А Key) (vs:А D)|oX (ks:А Zl) (xss:А (А D))
НSV.toD:SV->D
 | .fz d=>d
 | .ol xs=>.lst xs
 | .oK ks vs=>.dK ks vs
 | .oT ks vs=>.dT ks vs
 | .oN ks xss=>.dK ks (xss.map D.lst)
 | .oL _ xss=>.lst (xss.map D.lst)
 | .oQ _ ks vs=>.dK ks vs
 | .oX ks xss=>.dX ks (xss.map D.lst)
аZs:=А (aq×HO)
inductive Kids(K:af)(F:Hp):А (А D)->А V->Zs->В where
 |nil:Kids K F [] [] []
 |cons {xs:А D} {xss:А (А D)} {b:aq} {vs:А V} {ws:А V} {ns:Zs} (r:Reps K F xs vs) (t:Kids K F xss ws ns):Kids K F (xs::xss) (.ref b::ws) ((b,.lst vs)::ns)
inductive Shape(K:af)(F:Hp):SV->V->Zs->В where
 |fz {d:D} {v:V} (h:Rep K F d v):Shape K F (.fz d) v []
 |ol {a:aq} {xs:А D} {vs:А V} (r:Reps K F xs vs):Shape K F (.ol xs) (.ref a) [(a,.lst vs)]
 |oK {a:aq} {ks:А Key} {ds:А D} {kvs:А (Key×V)} {ep:Г} (e:kvs.map (·.1)=ks) (r:Reps K F ds (kvs.map (·.2))):Shape K F (.oK ks ds) (.ref a) [(a,.dK kvs ep)]
 |oT {a:aq} {ks:А (А Key)} {ds:А D} {kvs:А (А Key×V)} {ep:Г} {bs:А aq} (kb:KB F kvs bs) (e:kvs.map (·.1)=ks) (r:Reps K F ds (kvs.map (·.2))):Shape K F (.oT ks ds) (.ref a) [(a,.dT kvs ep bs)]
 |oN {a:aq} {ks:А Key} {xss:А (А D)} {kvs:А (Key×V)} {ns:Zs} {ep:Г} (e:kvs.map (·.1)=ks) (r:Kids K F xss (kvs.map (·.2)) ns):Shape K F (.oN ks xss) (.ref a) ((a,.dK kvs ep)::ns)
 |oL {pin:Б aq} {a:aq} {xss:А (А D)} {ws:А V} {ns:Zs} (hp:∀b,pin=aA b->b=a) (r:Kids K F xss ws ns):Shape K F (.oL pin xss) (.ref a) ((a,.lst ws)::ns)
 |oQ {a:aq} {ks:А Key} {ds:А D} {kvs:А (Key×V)} {ep:Г} (e:kvs.map (·.1)=ks) (r:Reps K F ds (kvs.map (·.2))):Shape K F (.oQ a ks ds) (.ref a) [(a,.dK kvs ep)]
 |oX {a:aq} {ks:А Zl} {xss:А (А D)} {kvs:А (Zl×V)} {ns:Zs} {ep:Г} {bs:А aq} (kb:KN F kvs bs) (e:kvs.map (·.1)=ks) (r:Kids K F xss (kvs.map (·.2)) ns):Shape K F (.oX ks xss) (.ref a) ((a,.dN kvs ep bs)::ns)
ЛKids.mono{F F':Hp}(s:Zi F F'){xss:А (А D)}{ws:А V}{ns:Zs}(h:Kids K F xss ws ns):Kids K F' xss ws ns:=by
 induction h with
 |nil=>E .nil
 |cons r _ ih=>E .cons (r.mono s) ih
ЛShape.mono{F F':Hp}(s:Zi F F'){sv:SV}{v:V}{ns:Zs}(h:Shape K F sv v ns):Shape K F' sv v ns:=by
 cases h with
 |fz h=>E .fz (h.mono s)
 |ol r=>E .ol (r.mono s)
 |oK e r=>E .oK e (r.mono s)
 |oT kb e r=>E .oT (kb.mono s) e (r.mono s)
 |oN e r=>E .oN e (r.mono s)
 |oL hp r=>E .oL hp (r.mono s)
 |oQ e r=>E .oQ e (r.mono s)
 |oX kb e r=>E .oX (kb.mono s) e (r.mono s)
МUt(F:Hp):Zs->Hp
 | []=>F
 |p::r=>Ya (Ut F r) p.1 p.2
аRm(ns:Zs):А Addr:=ns.map (·.1)
ЛBj{F:Hp}{b:aq}:∀{ns:Zs},b∉Rm ns->Ut F ns b=F b
 | [],_=>rfl
 |p::r,h=>by V h1:b≠p.1:=λe=>h (by rw[e];E ag);V h2:b∉Rm r:=λe=>h (ar _ e);T Ya (Ut F r) p.1 p.2 b=F b;rw[Zw h1,Bj h2]
ЛEs{F:Hp}{p:aq×HO}:∀{ns:Zs},(Rm ns).Nodup->p∈ns->Ut F ns p.1=aA p.2
 | [],_,h=>nomatch h
 |q::r,nd,h=>by
  O⟨n1,n2⟩:=d7.mp nd;T Ya (Ut F r) q.1 q.2 p.1=aA p.2;rcases bu.mp h with e|e
  ·subst e;E Yt
  ·rw[Zw λz=>n1 (aw.mpr ⟨p,e,z⟩)];E Es n2 e
ЛQw{F:Hp}{ns:Zs}(h:∀p∈ns,F p.1=aB):Zi F (Ut F ns):=λb o e=>by
 by_cases hb:b∈Rm ns
 ·O⟨p,hp,ep⟩:=aw.mp hb;subst ep;rw[h p hp]at e;C e
 ·rw[Bj hb];E e
ЛZaq{F H:Hp}{ns:Zs}(nd:(Rm ns).Nodup)(le:Zi F H)(h:∀p∈ns,H p.1=aA p.2):Zi (Ut F ns) H:=λb o e=>by
 by_cases hb:b∈Rm ns
 ·O⟨p,hp,ep⟩:=aw.mp hb;subst ep;rw[Es nd hp]at e;C e;E h p hp
 ·rw[Bj hb]at e;E le b o e
ЛVf{Z:Hp×Hp}{F:Hp}{ns:Zs}(nd:(Rm ns).Nodup)(fro:∀(b:aq) (o:HO),F b=aA o->Z.2 b=aA o\/Z.1 b=aB)(hz:∀p∈ns,Z.1 p.1=aB):∀(b:aq) (o:HO),Ut F ns b=aA o->Z.2 b=aA o\/Z.1 b=aB:=λb o e=>by
 by_cases hb:b∈Rm ns
 ·O⟨p,hp,ep⟩:=aw.mp hb;subst ep;E .inr (hz p hp)
 ·rw[Bj hb]at e;E fro b o e
ЛKids.rep{F F':Hp}(s:Zi F F'):∀{xss:А (А D)} {ws:А V} {ns:Zs},Kids K F xss ws ns->(∀p∈ns,F' p.1=aA p.2)->Reps K F' (xss.map D.lst) ws
 |_,_,_,.nil,_=>.nil
 |_,_,_,.cons r t,h=>.cons (.lst (.inl (.inl (h _ ag))) (.inl (h _ ag)) (r.mono s)) (t.rep s λp hp=>h p (ar _ hp))
ЛShape.rep{F:Hp}{sv:SV}{v:V}{ns:Zs}(h:Shape K F sv v ns)(nd:(Rm ns).Nodup)(hn:∀p∈ns,F p.1=aB):Rep K (Ut F ns) sv.toD v:=by
 V s:=Qw hn;V a:∀p∈ns,Ut F ns p.1=aA p.2:=λp hp=>Es nd hp;cases h with
 |fz h=>E h
 |ol r=>E .lst (.inl (.inl (a (_,_) ag))) (.inl (a (_,_) ag)) (r.mono s)
 |oK e r=>E .dK (a (_,_) ag) e (r.mono s)
 |oT kb e r=>E .dT (a (_,_) ag) (kb.mono s) e (r.mono s)
 |oN e r=>E .dK (a (_,_) ag) e (r.rep s λp hp=>a p (ar _ hp))
 |oL _ r=>E .lst (.inl (.inl (a (_,_) ag))) (.inl (a (_,_) ag)) (r.rep s λp hp=>a p (ar _ hp))
 |oQ e r=>E .dK (a (_,_) ag) e (r.mono s)
 |oX kb e r=>E .dX (a (_,_) ag) (kb.mono s) e (r.rep s λp hp=>a p (ar _ hp))
аYq:=А (Б SV)
set_option genInjectivity false in
structure Ent(K:af)where
 h:Hp
 f:Hp
 x:EXT
аent(H F:Hp):Ent K:=⟨H,F,λ_ _ _ _=>False⟩
set_option genInjectivity false in
structure Exn where
 c:Str
 ks:А Str:=[]
 vs:А D:=[]
МPd(K:af)(F:Hp)(e:Exn)(cls:am)(od:Б aq):Prop:=∃C,Er K e.c C/\cls= .ref C/\match od with
 |none=>e.ks=[]/\e.vs=[]
 |some dx=>∃fs:А (Str×V),F dx=aA (.xd fs)/\fs.map (·.1)=e.ks/\Reps K F e.vs (fs.map (·.2))
structure SR(Z:Ent K)(F H:Hp)(σ:St)(δ:Yq)(own:Г->Zs):В where
 le:Zi F H
 fro:∀(b:aq) (o:HO),F b=aA o->Z.f b=aA o\/Z.h b=aB
 old:Zi Z.h H
 len:σ.length=δ.length
 at':∀(i:Г) (sv:SV),δ[i]? =aA (aA sv)->∃v,σ[i]? =aA (aA v)/\Shape K F sv v (own i)
 nod:∀i:Г,(Rm (own i)).Nodup
 ok:∀(i:Г) (p:aq×HO),p∈own i->F p.1=aB/\Z.h p.1=aB/\H p.1=aA p.2
 sep:∀(i j:Г) (p q:aq×HO),i≠j->p∈own i->q∈own j->p.1≠q.1
inductive RV where
 |tmp (sv:SV)|bw (i:Г)
structure TmpOk(Z:Ent K)(F H:Hp)(own:Г->Zs)(sv:SV)(v:V)(ns:Zs):В where
 sh:Shape K F sv v ns
 nd:(Rm ns).Nodup
 ok:∀p∈ns,F p.1=aB/\Z.h p.1=aB/\H p.1=aA p.2
 sep:∀(i:Г) (p q:aq×HO),p∈ns->q∈own i->p.1≠q.1
МVg(Z:Ent K)(F H:Hp)(σ:St)(own:Г->Zs):RV->V->В
 | .tmp sv,v=>∃ns,TmpOk Z F H own sv v ns
 | .bw i,v=>σ[i]? =aA (aA v)
ЛTmpOk.fz{Z:Ent K}{F H:Hp}{own:Г->Zs}{d:D}{v:V}(h:Rep K F d v):TmpOk Z F H own (.fz d) v []:=
 ⟨.fz h,cx,λ_ h=>(nomatch h),λ_ _ _ h=>(nomatch h)⟩
ЛJ2{H:Hp}{p:aq}{o:HO}(h:H p=aB):Zi H (Ya H p o):=λb u e=>by rw[Zw λz=>by rw[z,h]at e;cases e];E e
ЛSR.grow{Z:Ent K}{F H H':Hp}{σ:St}{δ:Yq}{own:Г->Zs}(s:SR Z F H σ δ own)(h:Zi H H'):SR Z F H' σ δ own:=
 ⟨s.le.trans h,s.fro,s.old.trans h,s.len,s.at',s.nod,λi p hp=>let⟨a,b,c⟩:=s.ok i p hp;⟨a,b,h _ _ c⟩,s.sep⟩
ЛSR.addF{Z:Ent K}{F H:Hp}{σ:St}{δ:Yq}{own:Г->Zs}{ns:Zs}(s:SR Z F H σ δ own)(nd:(Rm ns).Nodup)(hn:∀p∈ns,F p.1=aB)(hH:∀p∈ns,H p.1=aA p.2)(hz:∀p∈ns,Z.h p.1=aB)
  (hs:∀(i:Г) (p q:aq×HO),p∈ns->q∈own i->p.1≠q.1):SR Z (Ut F ns) H σ δ own:=by
 V sm:=Qw hn;R⟨Zaq nd s.le hH,Vf (Z:=(Z.h,Z.f)) nd s.fro hz,s.old,s.len,λi sv e=>?_,s.nod,λi p hp=>?_,s.sep⟩
 ·O⟨v,h1,h2⟩:=s.at' i sv e;E⟨v,h1,h2.mono sm⟩
 ·O⟨a,b,c⟩:=s.ok i p hp;R⟨?_,b,c⟩;rw[Bj λhb=>?_]
  ·E a
  ·O⟨q,hq,e⟩:=aw.mp hb;E hs i q p hq hp e
ЛSR.settle{Z:Ent K}{F H:Hp}{σ:St}{δ:Yq}{own:Г->Zs}{sv:SV}{v:V}{ns:Zs}(s:SR Z F H σ δ own)(t:TmpOk Z F H own sv v ns):
  ∃F1,Zi F F1/\SR Z F1 H σ δ own/\Rep K F1 sv.toD v:=
 ⟨Ut F ns,Qw λp hp=>(t.ok p hp).1,s.addF t.nd (λp hp=>(t.ok p hp).1) (λp hp=>(t.ok p hp).2.2) (λp hp=>(t.ok p hp).2.1) t.sep,t.sh.rep t.nd λp hp=>(t.ok p hp).1⟩
Мput(own:Г->Zs)(i:Г)(ns:Zs):Г->Zs:=λj=>if j=i then ns else own j
ЛYm{own:Г->Zs}{i:Г}{ns:Zs}:put own i ns i=ns:=Е rfl
ЛY0{own:Г->Zs}{i j:Г}{ns:Zs}(h:j≠i):put own i ns j=own j:=Д h
ЛSR.freeze{Z:Ent K}{F H:Hp}{σ:St}{δ:Yq}{own:Г->Zs}{i:Г}{sv:SV}(s:SR Z F H σ δ own)(e:δ[i]? =aA (aA sv)):
  ∃F1 v,Zi F F1/\σ[i]? =aA (aA v)/\Rep K F1 sv.toD v/\SR Z F1 H σ (δ.set i (aA (.fz sv.toD))) (put own i []):=by
 O⟨v,h1,h2⟩:=s.at' i sv e;V hn:∀p∈own i,F p.1=aB:=λp hp=>(s.ok i p hp).1;V sm:=Qw hn;V hi:i<δ.length:=(ay.mp e).1;R⟨Ut F (own i),v,sm,h1,h2.rep (s.nod i) hn,⟨Zaq (s.nod i) s.le λp hp=>(s.ok i p hp).2.2,Vf (Z:=(Z.h,Z.f)) (s.nod i) s.fro λp hp=>(s.ok i p hp).2.1,s.old,by rw[List.length_set];E s.len,λj sw ej=>?_,λj=>?_,λj p hp=>?_,λj k p q hjk hp hq=>?_⟩⟩
 ·by_cases hj:j=i
  ·subst hj;rw[ff hi]at ej;C ej;rw[Ym];E⟨v,h1,.fz (h2.rep (s.nod j) hn)⟩
  ·rw[gd (Ne.symm hj)]at ej;O⟨w,g1,g2⟩:=s.at' j sw ej;rw[Y0 hj];E⟨w,g1,g2.mono sm⟩
 ·by_cases hj:j=i
  ·subst hj;rw[Ym];E cx
  ·rw[Y0 hj];E s.nod j
 ·by_cases hj:j=i
  ·subst hj;rw[Ym]at hp;E nomatch hp
  ·rw[Y0 hj]at hp;O⟨a,b,c⟩:=s.ok j p hp;R⟨?_,b,c⟩;rw[Bj λhb=>?_]
   ·E a
   ·O⟨q,hq,z⟩:=aw.mp hb;E s.sep i j q p (Ne.symm hj) hq hp z
 ·by_cases hj:j=i
  ·subst hj;rw[Ym]at hp;E nomatch hp
  ·by_cases hk:k=i
   ·subst hk;rw[Ym]at hq;E nomatch hq
   ·rw[Y0 hj]at hp;rw[Y0 hk]at hq;E s.sep j k p q hjk hp hq
ЛSR.store{Z:Ent K}{F H:Hp}{σ:St}{δ:Yq}{own:Г->Zs}{i:Г}{sv:SV}{v:V}{ns:Zs}(s:SR Z F H σ δ own)(t:TmpOk Z F H own sv v ns)(hi:i<σ.length):
  SR Z F H (σ.set i (aA v)) (δ.set i (aA sv)) (put own i ns):=by
 R⟨s.le,s.fro,s.old,by rw[List.length_set,List.length_set];E s.len,λj sw ej=>?_,λj=>?_,λj p hp=>?_,λj k p q hjk hp hq=>?_⟩
 ·by_cases hj:j=i
  ·subst hj;V hd:j<δ.length:=by V :=(ay.mp ej).1;simpa using this
   rw[ff hd]at ej;C ej;rw[Ym,ff hi];E⟨v,rfl,t.sh⟩
  ·rw[gd (Ne.symm hj)]at ej;rw[Y0 hj,gd (Ne.symm hj)];E s.at' j sw ej
 ·by_cases hj:j=i
  ·subst hj;rw[Ym];E t.nd
  ·rw[Y0 hj];E s.nod j
 ·by_cases hj:j=i
  ·subst hj;rw[Ym]at hp;E t.ok p hp
  ·rw[Y0 hj]at hp;E s.ok j p hp
 ·by_cases hj:j=i
  ·subst hj;rw[Ym]at hp;rw[Y0 (Ne.symm hjk)]at hq;E t.sep k p q hp hq
  ·by_cases hk:k=i
   ·subst hk;rw[Ym]at hq;rw[Y0 hj]at hp;E Ne.symm (t.sep j q p hq hp)
   ·rw[Y0 hj]at hp;rw[Y0 hk]at hq;E s.sep j k p q hjk hp hq
ЛSR.change{Z:Ent K}{F H:Hp}{σ:St}{δ:Yq}{own:Г->Zs}{i:Г}{sv sv':SV}{a:aq}{o o':HO}{v:V}{ns':Zs}(s:SR Z F H σ δ own)(e:δ[i]? =aA (aA sv))(hv:σ[i]? =aA (aA v))
  (ha:(a,o)∈own i) (hs:Shape K F sv' v ns') (hns:∀p∈ns',p=(a,o')\/(p∈own i/\p.1≠a)) (nd:(Rm ns').Nodup):SR Z F (Ya H a o') σ (δ.set i (aA sv')) (put own i ns'):=by
 O⟨fa,ha0,hHa⟩:=s.ok i (a,o) ha;V hi:i<δ.length:=(ay.mp e).1;R⟨λb u eb=>?_,s.fro,λb u eb=>?_,by rw[List.length_set];E s.len,λj sw ej=>?_,λj=>?_,λj p hp=>?_,λj k p q hjk hp hq=>?_⟩
 ·rw[Zw λz=>by rw[z]at eb;rw[fa]at eb;cases eb];E s.le b u eb
 ·rw[Zw λz=>by rw[z]at eb;rw[ha0]at eb;cases eb];E s.old b u eb
 ·by_cases hj:j=i
  ·subst hj;rw[ff hi]at ej;C ej;rw[Ym];E⟨v,hv,hs⟩
  ·rw[gd (Ne.symm hj)]at ej;rw[Y0 hj];E s.at' j sw ej
 ·by_cases hj:j=i
  ·subst hj;rw[Ym];E nd
  ·rw[Y0 hj];E s.nod j
 ·by_cases hj:j=i
  ·subst hj;rw[Ym]at hp;rcases hns p hp with z|⟨z,ne⟩
   ·subst z;E⟨fa,ha0,Yt⟩
   ·O⟨x,y,w⟩:=s.ok j p z;E⟨x,y,by rw[Zw ne];E w⟩
  ·rw[Y0 hj]at hp;O⟨x,y,w⟩:=s.ok j p hp;E⟨x,y,by rw[Zw (s.sep j i p (a,o) hj hp ha)];E w⟩
 ·V own':∀r∈ns',∃r'∈own i,r.1=r'.1:=λr hr=>by
   rcases hns r hr with z|⟨z,_⟩
   ·subst z;E⟨(a,o),ha,rfl⟩
   ·E⟨r,z,rfl⟩
  by_cases hj:j=i
  ·subst hj;rw[Ym]at hp;rw[Y0 (Ne.symm hjk)]at hq;O⟨r',hr',er⟩:=own' p hp;rw[er];E s.sep j k r' q hjk hr' hq
  ·by_cases hk:k=i
   ·subst hk;rw[Ym]at hq;rw[Y0 hj]at hp;O⟨r',hr',er⟩:=own' q hq;rw[er];E s.sep j k p r' hjk hp hr'
   ·rw[Y0 hj]at hp;rw[Y0 hk]at hq;E s.sep j k p q hjk hp hq
end DL
namespace DL
open PySem L2
variable{K:af}
аFE:=Yq->Б (RV×Yq)
аFT:=Yq->Б (Bool×Yq)
аFA:=Yq->Б (А RV×Yq)
аFD:=Yq->Б (А D×Yq)
НSV.nested:SV->Bool
 | .oN _ _=>aC
 | .oL _ _=>aC
 | .oX _ _=>aC
 |_=>aD
НPe:RV->Yq->Б D
 | .tmp sv,_=>aA sv.toD
 | .bw i,δ=>(δ[i]?.join).bind λsv=>if sv.nested then aB else aA sv.toD
Нfrz:RV->Yq->Б (D×Yq)
 | .tmp sv,δ=>aA (sv.toD,δ)
 | .bw i,δ=>(δ[i]?.join).bind λsv=>aA (sv.toD,δ.set i (aA (.fz sv.toD)))
ЛBk{δ:Yq}{i:Г}{sv:SV}(h:δ[i]?.join=aA sv):δ[i]? =aA (aA sv):=by
 cases e:δ[i]? with
 |none=>rw[e]at h;C h
 |some o=>rw[e]at h;cases o with
  |none=>C h
  |some s=>C h;rfl
МZe(Z:Ent K)(f:FE):TE:=λσ H Q=>∃F δ own rv δ',SR Z F H σ δ own/\f δ=aA (rv,δ')/\
 ∀v H' F' own',Zi H H'->Zi F F'->SR Z F' H' σ δ' own'->Vg Z F' H' σ own' rv v->Q v H'
МYn(Z:Ent K)(f:FT):TT:=λσ H Q=>∃F δ own b δ',SR Z F H σ δ own/\f δ=aA (b,δ')/\
 ∀H' F' own',Zi H H'->Zi F F'->SR Z F' H' σ δ' own'->Q b H'
МRVS(K:af)(F:Hp)(σ:St):RV->V->В
 | .tmp sv,v=>Rep K F sv.toD v
 | .bw i,v=>σ[i]? =aA (aA v)
inductive RVSs(K:af)(F:Hp)(σ:St):А RV->А V->В where
 |nil:RVSs K F σ [] []
 |cons {rv:RV} {v:V} {rvs:А RV} {vs:А V} (h:RVS K F σ rv v) (t:RVSs K F σ rvs vs):RVSs K F σ (rv::rvs) (v::vs)
МCr(Z:Ent K)(f:FA):TA:=λσ H Q=>∃F δ own rvs δ',SR Z F H σ δ own/\f δ=aA (rvs,δ')/\
 ∀vs H' F' own',Zi H H'->Zi F F'->SR Z F' H' σ δ' own'->RVSs K F' σ rvs vs->Q vs H'
МW0(Z:Ent K)(f:FD):TA:=λσ H Q=>∃F δ own ds δ',SR Z F H σ δ own/\f δ=aA (ds,δ')/\
 ∀vs H' F' own',Zi H H'->Zi F F'->SR Z F' H' σ δ' own'->Reps K F' ds vs->Q vs H'
section
variable{Z:Ent K}{F H F' H':Hp}{σ:St}{δ δ':Yq}{own:Г->Zs}{rv:RV}{v:V}{d:D}{Q:VK}
ЛRVS.mono(s:Zi F F')(h:RVS K F σ rv v):RVS K F' σ rv v:=by
 cases rv with
 |tmp sv=>E Rep.mono s h
 |bw i=>E h
ЛSR.settleR(s:SR Z F H σ δ own)(h:Vg Z F H σ own rv v):∃F1,Zi F F1/\SR Z F1 H σ δ own/\RVS K F1 σ rv v:=by
 cases rv with
 |tmp sv=>O⟨ns,t⟩:=h;E s.settle t
 |bw i=>E⟨F,Zi.refl F,s,h⟩
ЛSR.frzR(s:SR Z F H σ δ own)(h:RVS K F σ rv v)(e:frz rv δ=aA (d,δ')):∃F1 own1,Zi F F1/\SR Z F1 H σ δ' own1/\Rep K F1 d v:=by
 cases rv with
 |tmp sv=>C e;E⟨F,own,Zi.refl F,s,h⟩
 |bw i=>O⟨sv,e1,e2⟩:=aa.mp e;C e2;O⟨F1,w,h1,h2,h3,h4⟩:=s.freeze (Bk e1);V h':σ[i]? =aA (aA v):=h;rw[h']at h2;C h2;E⟨F1,_,h1,h4,h3⟩
МYd(K:af)(F H:Hp)(d:D)(v:V):Prop:=∃sv ns,sv.toD=d/\sv.nested=aD/\Shape K F sv v ns/\∀p∈ns,H p.1=aA p.2
ЛYd.of(h:Rep K F d v):Yd K F H d v:=⟨.fz d,[],rfl,rfl,.fz h,λ_ h=>nomatch h⟩
ЛSR.rd(s:SR Z F H σ δ own)(h:RVS K F σ rv v)(e:Pe rv δ=aA d):Yd K F H d v:=by
 cases rv with
 |tmp sv=>C e;E Yd.of h
 |bw i=>
  O⟨sv,e1,e2⟩:=aa.mp e;cases hn:sv.nested with
  |true=>rw[hn]at e2;C e2
  |false=>rw[hn]at e2;C e2;O⟨w,h1,h2⟩:=s.at' i sv (Bk e1);V h':σ[i]? =aA (aA v):=h;rw[h']at h1;C h1;E⟨sv,own i,rfl,hn,h2,λp hp=>(s.ok i p hp).2.2⟩
inductive RepNs(K:af)(F H:Hp):А D->А V->В where
 |nil:RepNs K F H [] []
 |cons {d:D} {v:V} {ds:А D} {vs:А V} (h:Yd K F H d v) (t:RepNs K F H ds vs):RepNs K F H (d::ds) (v::vs)
ЛYd.non(h:Yd K F H .non v):v= .non:=by
 O⟨sv,ns,e,n,sh,hp⟩:=h;cases sh with
 |fz r=>C e;C r;rfl
 |ol r=>C e
 |oK e' r=>C e
 |oT kb e' r=>C e
 |oN e' r=>C n
 |oX kb' e' r=>C n
 |oL _ r=>C n
 |oQ e' r=>C e
ЛYd.bl{b:Bool}(h:Yd K F H (.bl b) v):v= .bl b:=by
 O⟨sv,ns,e,n,sh,hp⟩:=h;cases sh with
 |fz r=>C e;C r;rfl
 |ol r=>C e
 |oK e' r=>C e
 |oT kb e' r=>C e
 |oN e' r=>C n
 |oX kb' e' r=>C n
 |oL _ r=>C n
 |oQ e' r=>C e
ЛYd.int{i:Int}(h:Yd K F H (.int i) v):v= .int i:=by
 O⟨sv,ns,e,n,sh,hp⟩:=h;cases sh with
 |fz r=>C e;C r;rfl
 |ol r=>C e
 |oK e' r=>C e
 |oT kb e' r=>C e
 |oN e' r=>C n
 |oX kb' e' r=>C n
 |oL _ r=>C n
 |oQ e' r=>C e
ЛYd.str{x:Str}(h:Yd K F H (.str x) v):v= .str x:=by
 O⟨sv,ns,e,n,sh,hp⟩:=h;cases sh with
 |fz r=>C e;C r;rfl
 |ol r=>C e
 |oK e' r=>C e
 |oT kb e' r=>C e
 |oN e' r=>C n
 |oX kb' e' r=>C n
 |oL _ r=>C n
 |oQ e' r=>C e
ЛYd.tup{xs:А D}(le:Zi F H)(h:Yd K F H (.tup xs) v):∃a vs,v= .ref a/\Ov K H a vs/\Reps K F xs vs:=by
 O⟨sv,ns,e,n,sh,hp⟩:=h;cases sh with
 |fz r=>C e;cases r with|tup h r=>E⟨_,_,rfl,Ql le (Rf h),r⟩
 |ol r=>C e
 |oK e' r=>C e
 |oT kb e' r=>C e
 |oN e' r=>C n
 |oX kb' e' r=>C n
 |oL _ r=>C n
 |oQ e' r=>C e
ЛYd.lst{xs:А D}(le:Zi F H)(h:Yd K F H (.lst xs) v):∃a vs,v= .ref a/\W8 K H a vs/\Reps K F xs vs:=by
 O⟨sv,ns,e,n,sh,hp⟩:=h;cases sh with
 |fz r=>C e;cases r with|lst h _ r=>E⟨_,_,rfl,Wd le h,r⟩
 |ol r=>C e;E⟨_,_,rfl,.inl (.inl (hp _ ag)),r⟩
 |oK e' r=>C e
 |oT kb e' r=>C e
 |oN e' r=>C n
 |oX kb' e' r=>C n
 |oL _ r=>C n
 |oQ e' r=>C e
ЛYd.dK{ks:А Key}{ds:А D}(le:Zi F H)(h:Yd K F H (.dK ks ds) v):∃a kvs,v= .ref a/\HK H a kvs/\kvs.map (·.1)=ks/\Reps K F ds (kvs.map (·.2)):=by
 O⟨sv,ns,e,n,sh,hp⟩:=h;cases sh with
 |fz r=>C e;cases r with|dK h e r=>E⟨_,_,rfl,⟨_,le _ _ h⟩,e,r⟩
 |ol r=>C e
 |oK e' r=>C e;E⟨_,_,rfl,⟨_,hp _ ag⟩,e',r⟩
 |oT kb e' r=>C e
 |oN e' r=>C n
 |oX kb' e' r=>C n
 |oL _ r=>C n
 |oQ e' r=>C e;E⟨_,_,rfl,⟨_,hp _ ag⟩,e',r⟩
ЛYd.dT{ks:А (А Key)}{ds:А D}(le:Zi F H)(h:Yd K F H (.dT ks ds) v):∃a kvs,v= .ref a/\HTt H a kvs/\kvs.map (·.1)=ks/\Reps K F ds (kvs.map (·.2)):=by
 O⟨sv,ns,e,n,sh,hp⟩:=h;cases sh with
 |fz r=>C e;cases r with|dT h kb e r=>E⟨_,_,rfl,⟨_,_,le _ _ h⟩,e,r⟩
 |ol r=>C e
 |oK e' r=>C e
 |oT kb e' r=>C e;E⟨_,_,rfl,⟨_,_,hp _ ag⟩,e',r⟩
 |oN e' r=>C n
 |oX kb' e' r=>C n
 |oL _ r=>C n
 |oQ e' r=>C e
end
ЛK9{a:aq}:([a]:А aq).Nodup:=d7.mpr ⟨λh=>(nomatch h),cx⟩
МFin(Z:Ent K)(F H:Hp)(σ:St)(δ:Yq)(own:Г->Zs)(sv:SV)(Q:VK):Prop:=
 ∀v H' F' ns,Zi H H'->Zi F F'->SR Z F' H' σ δ own->TmpOk Z F' H' own sv v ns->Q v H'
section
variable{Z:Ent K}{F H:Hp}{σ:St}{δ:Yq}{own:Г->Zs}{Q:VK}
ЛFin.fz{d:D}{v:V}(f:Fin Z F H σ δ own (.fz d) Q)(s:SR Z F H σ δ own)(h:Rep K F d v):Q v H:=f v H F [] (Zi.refl H) (Zi.refl F) s (.fz h)
ЛFin.one{sv:SV}{o:HO}{p:aq}(f:Fin Z F H σ δ own sv Q)(s:SR Z F H σ δ own)(sh:Shape K F sv (.ref p) [(p,o)])(hp:H p=aB):Q (.ref p) (Ya H p o):=by
 V sm:=J2 (o:=o) hp;R f (.ref p) (Ya H p o) F [(p,o)] sm (Zi.refl F) (s.grow sm) ⟨sh,K9,λq hq=>?_,λi q r hq hr=>?_⟩
 ·obtain rfl:=au.mp hq;E⟨s.le.free hp,s.old.free hp,Yt⟩
 ·obtain rfl:=au.mp hq;intro e;V e':p=r.1:=e;V z:=(s.ok i r hr).2.2;rw[<-e',hp]at z;C z
ЛFin.lst{xs:А D}{vs:А V}{p:aq}(f:Fin Z F H σ δ own (.ol xs) Q)(s:SR Z F H σ δ own)(r:Reps K F xs vs)(hp:H p=aB):Q (.ref p) (Ya H p (.lst vs)):=f.one s (.ol r) hp
ЛFin.tup{xs:А D}{vs:А V}{p:aq}(f:Fin Z F H σ δ own (.fz (.tup xs)) Q)(s:SR Z F H σ δ own)(r:Reps K F xs vs)(hp:H p=aB):Q (.ref p) (Ya H p (.tup vs)):=by
 V sm:=J2 (o:=.tup vs) hp;V sF:Zi F (Ut F [(p,.tup vs)]):=Qw λq hq=>by obtain rfl:=au.mp hq;E s.le.free hp
 R f (.ref p) (Ya H p (.tup vs)) (Ut F [(p,.tup vs)]) [] sm sF ?_ (.fz (.tup Yt (r.mono sF)));R(s.grow sm).addF (K9) (λq hq=>?_) (λq hq=>?_) (λq hq=>?_) λi q u hq hu=>?_
 ·obtain rfl:=au.mp hq;E s.le.free hp
 ·obtain rfl:=au.mp hq;E Yt
 ·obtain rfl:=au.mp hq;E s.old.free hp
 ·obtain rfl:=au.mp hq;intro e;V e':p=u.1:=e;V z:=(s.ok i u hu).2.2;rw[<-e',hp]at z;C z
end
ЛJ3{F:Hp}{d:D}{v:V}{ns:Zs}(h:Shape K F (.fz d) v ns):Rep K F d v:=by
 cases h with
 |fz r=>E r
section
variable{Z:Ent K}{H:Hp}{σ:St}{Q:VK}
НZa(i:Г):FE:=λδ=>match δ[i]? with
 |some (aA (.fz d))=>aA (.tmp (.fz d),δ)
 |some (aA _)=>aA (.bw i,δ)
 |_=>aB
ЛZr1{i:Г}(h:Ze Z (Za i) σ H Q):Cy i σ H Q:=by
 O⟨F,δ,own,rv,δ',s,e,k⟩:=h;unfold Za at e;split at e
 ·rename_i d hd;C e;O⟨v,h1,h2⟩:=s.at' i _ hd;E⟨v,h1,k v H F own (Zi.refl H) (Zi.refl F) s ⟨[],.fz (J3 h2)⟩⟩
 ·rename_i sv hsv hd;C e;O⟨v,h1,h2⟩:=s.at' i _ hd;E⟨v,h1,k v H F own (Zi.refl H) (Zi.refl F) s h1⟩
 ·C e
НZh(d:D):FE:=λδ=>aA (.tmp (.fz d),δ)
ЛPf{d:D}{v:V}(hr:∀F,Rep K F d v)(h:Ze Z (Zh d) σ H Q):tC v σ H Q:=by O⟨F,δ,own,rv,δ',s,e,k⟩:=h;C e;E k v H F own (Zi.refl H) (Zi.refl F) s ⟨[],.fz (hr F)⟩
НZj:FA:=λδ=>aA ([],δ)
НZc(fe:FE)(fa:FA):FA:=λδ=>(fe δ).bind λp=>(fa p.2).bind λq=>aA (p.1::q.1,q.2)
ЛZfj{R:А V->Hp->В}(h:Cr Z Zj σ H R):Hc σ H R:=by O⟨F,δ,own,rvs,δ',s,e,k⟩:=h;C e;E k [] H F own (Zi.refl H) (Zi.refl F) s .nil
ЛZc4{fe:FE}{fa:FA}{R:А V->Hp->В}(h:Cr Z (Zc fe fa) σ H R):Kv (Ze Z fe) (Cr Z fa) σ H R:=by O⟨F,δ,own,rvs,δ',s,e,k⟩:=h;O⟨⟨rv,δ1⟩,e1,e2⟩:=aa.mp e;O⟨⟨rr,δ2⟩,e3,e4⟩:=aa.mp e2;C e4;R⟨F,δ,own,rv,δ1,s,e1,λv H1 F1 own1 sH sF s1 r1=>?_⟩;O⟨F2,sF2,s2,r2⟩:=s1.settleR r1;E⟨F2,δ1,own1,rr,δ2,s2,e3,λvs H3 F3 own3 sH3 sF3 s3 r3=>k _ H3 F3 own3 (sH.trans sH3) (sF.trans (sF2.trans sF3)) s3 (.cons (r2.mono sF3) r3)⟩
НOy:А RV->Yq->Б (А D)
 | [],_=>aA []
 |rv::r,δ=>(Pe rv δ).bind λd=>(Oy r δ).bind λds=>aA (d::ds)
ЛSR.rdAll{F:Hp}{δ:Yq}{own:Г->Zs}(s:SR Z F H σ δ own):∀{rvs:А RV} {vs:А V} {ds:А D},RVSs K F σ rvs vs->Oy rvs δ=aA ds->RepNs K F H ds vs
 |_,_,_,.nil,e=>by C e;E .nil
 |_,_,_,.cons h t,e=>by O⟨d,e1,e2⟩:=aa.mp e;O⟨ds,e3,e4⟩:=aa.mp e2;C e4;E .cons (s.rd h e1) (s.rdAll t e3)
НYf(g:А D->Б SV)(fa:FA):FE:=λδ=>(fa δ).bind λp=>(Oy p.1 p.2).bind λds=>(g ds).bind λsv=>aA (.tmp sv,p.2)
МU6(Z:Ent K)(r:А V->Hp->VK->В)(g:А D->Б SV):Prop:=
 ∀(F H:Hp) (σ:St) (δ:Yq) (own:Г->Zs) (vs:А V) (ds:А D) (sv:SV) (Q:VK),SR Z F H σ δ own->RepNs K F H ds vs->g ds=aA sv->Fin Z F H σ δ own sv Q->r vs H Q
ЛPg{r:А V->Hp->VK->В}{g:А D->Б SV}{fa:FA}(hg:U6 Z r g)(h:Ze Z (Yf g fa) σ H Q):tCB r (Cr Z fa) σ H Q:=by O⟨F,δ,own,rv,δ',s,e,k⟩:=h;O⟨⟨rvs,δ1⟩,e1,e2⟩:=aa.mp e;O⟨ds,e3,e4⟩:=aa.mp e2;O⟨sv,e5,e6⟩:=aa.mp e4;C e6;R⟨F,δ,own,rvs,δ1,s,e1,λvs H1 F1 own1 sH sF s1 r1=>?_⟩;E hg F1 H1 σ δ1 own1 vs ds sv Q s1 (s1.rdAll r1 e3) e5 λv H2 F2 ns sH2 sF2 s2 t=>k v H2 F2 own1 (sH.trans sH2) (sF.trans sF2) s2 ⟨ns,t⟩
Нg2(g:D->D->Б SV):А D->Б SV
 | [x,y]=>g x y
 |_=>aB
НZo(g:D->D->Б SV)(fa fb:FE):FE:=Yf (g2 g) (Zc fa (Zc fb Zj))
МY8(Z:Ent K)(r:R2)(g:D->D->Б SV):Prop:=
 ∀(F H:Hp) (σ:St) (δ:Yq) (own:Г->Zs) (x y:V) (d1 d2:D) (sv:SV) (Q:VK),SR Z F H σ δ own->Yd K F H d1 x->Yd K F H d2 y->g d1 d2=aA sv->Fin Z F H σ δ own sv Q->r x y H Q
ЛLa{r:R2}{g:D->D->Б SV}{fa fb:FE}(hg:Y8 Z r g)(h:Ze Z (Zo g fa fb) σ H Q):tOp r (Ze Z fa) (Ze Z fb) σ H Q:=by
 V hN:U6 Z (λvs H Q=>∃x y,vs=[x,y]/\r x y H Q) (g2 g):=by
  intro F H σ δ own vs ds sv Q s rs e f;cases rs with
  |nil=>C e
  |cons h1 t1=>
   cases t1 with
   |nil=>C e
   |cons h2 t2=>
    cases t2 with
    |nil=>E⟨_,_,rfl,hg F H σ δ own _ _ _ _ sv Q s h1 h2 e f⟩
    |cons h3 t3=>C e
 O⟨F,δ,own,rv,δ',s,e,k⟩:=Pg hN h;O⟨⟨rv1,δ1⟩,e1,e2⟩:=aa.mp e;O⟨⟨rr,δ2⟩,e3,e4⟩:=aa.mp e2;C e4;O⟨⟨rv2,δ3⟩,e5,e6⟩:=aa.mp e3;O⟨⟨rr',δ4⟩,e7,e8⟩:=aa.mp e6;C e8;C e7;R⟨F,δ,own,rv1,δ1,s,e1,λv H1 F1 own1 sH sF s1 r1=>?_⟩;O⟨F2,sF2,s2,r2⟩:=s1.settleR r1;R⟨F2,δ1,own1,rv2,δ3,s2,e5,λu H3 F3 own3 sH3 sF3 s3 r3=>?_⟩;O⟨F4,sF4,s4,r4⟩:=s3.settleR r3;O⟨x,y,exy,q⟩:=k [v,u] H3 F4 own3 (sH.trans sH3) (sF.trans (sF2.trans (sF3.trans sF4))) s4 (.cons (r2.mono (sF3.trans sF4)) (.cons r4 .nil));injection exy with ex ey;injection ey with ey _;subst ex ey;E q
НunF(g:D->Б SV)(fa:FE):FE:=Yf (λ| [x]=>g x|_=>aB) (Zc fa Zj)
МZmg(Z:Ent K)(r:V->Hp->VK->В)(g:D->Б SV):Prop:=
 ∀(F H:Hp) (σ:St) (δ:Yq) (own:Г->Zs) (x:V) (d:D) (sv:SV) (Q:VK),SR Z F H σ δ own->Yd K F H d x->g d=aA sv->Fin Z F H σ δ own sv Q->r x H Q
ЛZw9{r:V->Hp->VK->В}{g:D->Б SV}{fa:FE}(hg:Zmg Z r g)(h:Ze Z (unF g fa) σ H Q):tUn r (Ze Z fa) σ H Q:=by O⟨F,δ,own,rv,δ',s,e,k⟩:=h;O⟨⟨rvs,δ1⟩,e1,e2⟩:=aa.mp e;O⟨ds,e3,e4⟩:=aa.mp e2;O⟨sv,e5,e6⟩:=aa.mp e4;C e6;O⟨⟨rv1,δ2⟩,e7,e8⟩:=aa.mp e1;O⟨⟨rr',δ4⟩,e9,e10⟩:=aa.mp e8;C e10;C e9;O⟨d,e11,e12⟩:=aa.mp e3;C e12;R⟨F,δ,own,rv1,δ2,s,e7,λv H1 F1 own1 sH sF s1 r1=>?_⟩;O⟨F2,sF2,s2,r2⟩:=s1.settleR r1;E hg F2 H1 σ δ2 own1 v d sv Q s2 (s2.rd r2 e11) e5 λv H2 F2' ns sH2 sF2' s2 t=>k v H2 F2' own1 (sH.trans sH2) (sF.trans (sF2.trans sF2')) s2 ⟨ns,t⟩
НZn:FD:=λδ=>aA ([],δ)
НZg(fe:FE)(fd:FD):FD:=λδ=>(fe δ).bind λp=>(frz p.1 p.2).bind λq=>(fd q.2).bind λr=>aA (q.1::r.1,r.2)
ЛLb{R:А V->Hp->В}(h:W0 Z Zn σ H R):Hc σ H R:=by O⟨F,δ,own,rvs,δ',s,e,k⟩:=h;C e;E k [] H F own (Zi.refl H) (Zi.refl F) s .nil
ЛEt{fe:FE}{fd:FD}{R:А V->Hp->В}(h:W0 Z (Zg fe fd) σ H R):Kv (Ze Z fe) (W0 Z fd) σ H R:=by O⟨F,δ,own,rvs,δ',s,e,k⟩:=h;O⟨⟨rv,δ1⟩,e1,e2⟩:=aa.mp e;O⟨⟨d,δ2⟩,e3,e4⟩:=aa.mp e2;O⟨⟨ds,δ3⟩,e5,e6⟩:=aa.mp e4;C e6;R⟨F,δ,own,rv,δ1,s,e1,λv H1 F1 own1 sH sF s1 r1=>?_⟩;O⟨F2,sF2,s2,r2⟩:=s1.settleR r1;O⟨F3,own3,sF3,s3,r3⟩:=s2.frzR r2 e3;E⟨F3,δ2,own3,ds,δ3,s3,e5,λvs H4 F4 own4 sH4 sF4 s4 r4=>k _ H4 F4 own4 (sH.trans sH4) (sF.trans (sF2.trans (sF3.trans sF4))) s4 (.cons (r3.mono sF4) r4)⟩
НtupF(fd:FD):FE:=λδ=>(fd δ).bind λp=>if p.1.length<=bg then aA (.tmp (.fz (.tup p.1)),p.2)else aB
НJj(fd:FD):FE:=λδ=>(fd δ).bind λp=>if p.1.length<=bg then aA (.tmp (.ol p.1),p.2)else aB
ЛZr2{fd:FD}(h:Ze Z (tupF fd) σ H Q):Zrl (W0 Z fd) σ H Q:=by
 O⟨F,δ,own,rv,δ',s,e,k⟩:=h;O⟨⟨ds,δ1⟩,e1,e2⟩:=aa.mp e;by_cases hz:ds.length<=bg
 ·rw[Е hz]at e2;C e2;R⟨F,δ,own,ds,δ1,s,e1,λvs H1 F1 own1 sH sF s1 r1=>⟨by rw[<-r1.length];E hz,λp hp=>?_⟩⟩;E Fin.tup (λv H2 F2 ns a b c t=>k v H2 F2 own1 (sH.trans a) (sF.trans b) c ⟨ns,t⟩) s1 r1 hp
 ·rw[Д hz]at e2;C e2
ЛZr3{fd:FD}(h:Ze Z (Jj fd) σ H Q):Zn9 (W0 Z fd) σ H Q:=by
 O⟨F,δ,own,rv,δ',s,e,k⟩:=h;O⟨⟨ds,δ1⟩,e1,e2⟩:=aa.mp e;by_cases hz:ds.length<=bg
 ·rw[Е hz]at e2;C e2;R⟨F,δ,own,ds,δ1,s,e1,λvs H1 F1 own1 sH sF s1 r1=>⟨by rw[<-r1.length];E hz,λp hp=>?_⟩⟩;E Fin.lst (λv H2 F2 ns a b c t=>k v H2 F2 own1 (sH.trans a) (sF.trans b) c ⟨ns,t⟩) s1 r1 hp
 ·rw[Д hz]at e2;C e2
end
НSV.scal:SV->Bool
 | .fz .non=>aC
 | .fz (.bl _)=>aC
 | .fz (.int _)=>aC
 | .fz (.str _)=>aC
 |_=>aD
МY6(K:af)(n:Г)(g:А D->Б SV):Sp:=λvs H Q _=>∃F ds sv,Zi F H/\Reps K F ds vs/\ds.length=n/\g ds=aA sv/\
 ∀v H' F' ns,Zi H H'->Zi F F'->Zi F' H'->(∀(b:aq) (o:HO),F' b=aA o->F b=aA o\/H b=aB)->Shape K F' sv v ns->(Rm ns).Nodup->(∀p∈ns,F' p.1=aB/\H p.1=aB/\H' p.1=aA p.2)->Q v H'
НfrzAll:А RV->Yq->Б (А D×Yq)
 | [],δ=>aA ([],δ)
 |rv::r,δ=>(frz rv δ).bind λp=>(frzAll r p.2).bind λq=>aA (p.1::q.1,q.2)
ЛRVSs.mono{F F':Hp}{σ:St}(s:Zi F F'){rvs:А RV}{vs:А V}(h:RVSs K F σ rvs vs):RVSs K F' σ rvs vs:=by
 induction h with
 |nil=>E .nil
 |cons h _ ih=>E .cons (h.mono s) ih
section
variable{Z:Ent K}{H:Hp}{σ:St}{Q:VK}
ЛSR.frzAll{F:Hp}{δ:Yq}{own:Г->Zs}:∀{rvs:А RV} {vs:А V} {ds:А D} {δ':Yq} {F:Hp} {δ:Yq} {own:Г->Zs},SR Z F H σ δ own->RVSs K F σ rvs vs->DL.frzAll rvs δ=aA (ds,δ')->
  ∃F1 own1,Zi F F1/\SR Z F1 H σ δ' own1/\Reps K F1 ds vs
 |_,_,_,_,F,_,own,s,.nil,e=>by C e;E⟨F,own,Zi.refl F,s,.nil⟩
 |_,_,_,_,F,_,own,s,.cons h t,e=>by O⟨⟨d,δ1⟩,e1,e2⟩:=aa.mp e;O⟨⟨ds,δ2⟩,e3,e4⟩:=aa.mp e2;C e4;O⟨F1,own1,sF1,s1,r1⟩:=s.frzR h e1;O⟨F2,own2,sF2,s2,r2⟩:=SR.frzAll (own:=own) (F:=F) (δ:=δ1) s1 (t.mono sF1) e3;E⟨F2,own2,sF1.trans sF2,s2,.cons (r1.mono sF2) r2⟩
НYx(n:Г)(g:А D->Б SV)(fa:FA):FE:=λδ=>(fa δ).bind λp=>(DL.frzAll p.1 p.2).bind λq=>if q.1.length=n then(g q.1).bind λsv=>aA (.tmp sv,if sv.scal then p.2 else q.2)else aB
ЛZfk{F F':Hp}{sv:SV}{v:V}{ns:Zs}(h:sv.scal=aC)(sh:Shape K F sv v ns):ns=[]/\Shape K F' sv v []:=by
 cases sh with
 |fz r=>
  R⟨rfl,.fz ?_⟩;cases r with
  |non=>E .non
  |bl b=>E .bl b
  |int i=>E .int i
  |str x=>E .str x
  |tup _ _=>C h
  |lst _ _ _=>C h
  |dK _ _ _=>C h
  |dT _ _ _ _=>C h
  |exc _ _=>C h
  |dX _ _ _ _=>C h
  |exd _ _ _ _ _=>C h
 |ol _=>C h
 |oK _ _=>C h
 |oT _ _ _=>C h
 |oN _ _=>C h
 |oX _ _ _=>C h
 |oL _ _=>C h
 |oQ _ _=>C h
ЛZom{n:Г}{g:А D->Б SV}{fa:FA}{E:XK}(h:Ze Z (Yx n g fa) σ H Q):Zl6 (Y6 K n g) [] E (Cr Z fa) σ H Q:=by
 O⟨F,δ,own,rv,δ',s,e,k⟩:=h;O⟨⟨rvs,δ1⟩,e1,e2⟩:=aa.mp e;O⟨⟨ds,δ2⟩,e3,e4⟩:=aa.mp e2;by_cases hn:ds.length=n
 ·rw[Е hn]at e4;O⟨sv,e5,e6⟩:=aa.mp e4;R⟨F,δ,own,rvs,δ1,s,e1,λvs H1 F1 own1 sH sF s1 r1=>?_⟩;O⟨F2,own2,sF2,s2,r2⟩:=s1.frzAll (own:=own) (F:=F) (δ:=δ) r1 e3;rw[List.append_nil];R⟨F2,ds,sv,s2.le,r2,hn,e5,λv H3 F3 ns sH3 sF3 le3 fro3 sh nd ok=>?_⟩;by_cases hs:sv.scal=aC
  ·rw[Е hs]at e6;C e6;O⟨_,sh'⟩:=Zfk (F':=F1) hs sh;E k v H3 F1 own1 (sH.trans sH3) sF (s1.grow sH3) ⟨[],sh',cx,λ_ h=>(nomatch h),λ_ _ _ h=>(nomatch h)⟩
  ·rw[Д hs]at e6;C e6;V s3:SR Z F3 H3 σ δ2 own2:=by
    R⟨le3,λb o e=>?_,s2.old.trans sH3,s2.len,λi sw ei=>?_,s2.nod,λi p hp=>?_,s2.sep⟩
    ·rcases fro3 b o e with z|z
     ·E s2.fro b o z
     ·E .inr (s2.old.free z)
    ·O⟨w,h1,h2⟩:=s2.at' i sw ei;E⟨w,h1,h2.mono sF3⟩
    ·O⟨a,b,c⟩:=s2.ok i p hp;R⟨?_,b,sH3 _ _ c⟩;cases z:F3 p.1 with
     |none=>rfl
     |some u=>
      rcases fro3 _ u z with y|y
      ·rw[a]at y;C y
      ·rw[c]at y;C y
   E k v H3 F3 own2 (sH.trans sH3) (sF.trans (sF2.trans sF3)) s3 ⟨ns,sh,nd,λp hp=>⟨(ok p hp).1,(s2.old).free (ok p hp).2.1,(ok p hp).2.2⟩,λi p q hp hq e=>by
    V z:=(s2.ok i q hq).2.2;rw[<-e,(ok p hp).2.1]at z;C z⟩
 ·rw[Д hn]at e4;C e4
end
end DL
namespace DL
open PySem L2
variable{K:af}
section
variable{Z:Ent K}{H:Hp}{σ:St}{R:Bool->Hp->В}{Q:VK}
НYw(fe:FE):FT:=λδ=>(fe δ).bind λp=>match p.1 with
 | .tmp (.fz (.bl b))=>aA (b,p.2)
 |_=>aB
ЛHm{fe:FE}(h:Yn Z (Yw fe) σ H R):Zl4 (Ze Z fe) σ H R:=by
 O⟨F,δ,own,b,δ',s,e,k⟩:=h;O⟨⟨rv,δ1⟩,e1,e2⟩:=aa.mp e;R⟨F,δ,own,rv,δ1,s,e1,λv H1 F1 own1 sH sF s1 r1=>?_⟩;dsimp only at e2;split at e2
 ·C e2;O⟨ns,t⟩:=r1;cases J3 t.sh;E⟨_,rfl,k H1 F1 own1 sH sF s1⟩
 ·C e2
ЛZjw{fe:FE}(h:Yn Z (Yw fe) σ H R):tB (Ze Z fe) σ H R:=Hm h
НZon(f g:FT):FT:=λδ=>(f δ).bind λp=>if p.1=aC then g p.2 else aA (aD,p.2)
НorF(f g:FT):FT:=λδ=>(f δ).bind λp=>if p.1=aC then aA (aC,p.2)else g p.2
НZjx(f:FT):FT:=λδ=>(f δ).bind λp=>aA (!p.1,p.2)
ЛZr4{f g:FT}(h:Yn Z (Zon f g) σ H R):Zq1 (Yn Z f) (Yn Z g) σ H R:=by
 O⟨F,δ,own,b,δ',s,e,k⟩:=h;O⟨⟨c,δ1⟩,e1,e2⟩:=aa.mp e;R⟨F,δ,own,c,δ1,s,e1,λH1 F1 own1 sH sF s1=>?_⟩;cases c with
 |true=>rw[Е rfl]at e2⊢;E⟨F1,δ1,own1,b,δ',s1,e2,λH2 F2 own2 a c d=>k H2 F2 own2 (sH.trans a) (sF.trans c) d⟩
 |false=>rw[Д bp]at e2⊢;C e2;E k H1 F1 own1 sH sF s1
ЛZxa{f g:FT}(h:Yn Z (orF f g) σ H R):tOr (Yn Z f) (Yn Z g) σ H R:=by
 O⟨F,δ,own,b,δ',s,e,k⟩:=h;O⟨⟨c,δ1⟩,e1,e2⟩:=aa.mp e;R⟨F,δ,own,c,δ1,s,e1,λH1 F1 own1 sH sF s1=>?_⟩;cases c with
 |true=>rw[Е rfl]at e2⊢;C e2;E k H1 F1 own1 sH sF s1
 |false=>rw[Д bp]at e2⊢;E⟨F1,δ1,own1,b,δ',s1,e2,λH2 F2 own2 a c d=>k H2 F2 own2 (sH.trans a) (sF.trans c) d⟩
ЛZr5{f:FT}(h:Yn Z (Zjx f) σ H R):Zq2 (Yn Z f) σ H R:=by O⟨F,δ,own,b,δ',s,e,k⟩:=h;O⟨⟨c,δ1⟩,e1,e2⟩:=aa.mp e;C e2;E⟨F,δ,own,c,δ1,s,e1,k⟩
НZ17(f g:FE):FE:=λδ=>(Yw f δ).bind λp=>if p.1=aC then g p.2 else aA (.tmp (.fz (.bl aD)),p.2)
НorV(f g:FE):FE:=λδ=>(Yw f δ).bind λp=>if p.1=aC then aA (.tmp (.fz (.bl aC)),p.2)else g p.2
НZ18(f:FE):FE:=λδ=>(Yw f δ).bind λp=>aA (.tmp (.fz (.bl (!p.1))),p.2)
ЛZr6{F:Hp}{own:Г->Zs}{b:Bool}:Vg Z F H σ own (.tmp (.fz (.bl b))) (.bl b):=⟨[],.fz (.bl b)⟩
ЛZr7{f g:FE}(h:Ze Z (orV f g) σ H Q):Zq4 (Ze Z f) (Ze Z g) σ H Q:=by
 O⟨F,δ,own,rv,δ',s,e,k⟩:=h;O⟨⟨c,δ1⟩,e1,e2⟩:=aa.mp e;R Hm ⟨F,δ,own,c,δ1,s,e1,λH1 F1 own1 sH sF s1=>?_⟩;cases c with
 |true=>rw[Е rfl]at e2⊢;C e2;E k _ H1 F1 own1 sH sF s1 Zr6
 |false=>rw[Д bp]at e2⊢;E⟨F1,δ1,own1,rv,δ',s1,e2,λv H2 F2 own2 a c d=>k v H2 F2 own2 (sH.trans a) (sF.trans c) d⟩
НifF(t:FT)(f g:FE):FE:=λδ=>(t δ).bind λp=>if p.1=aC then f p.2 else g p.2
НZxc(g g':D->D->Б SV)(fa fb fc:FE):FE:=λδ=>(fa δ).bind λp=>(fb p.2).bind λq=>(Pe p.1 q.2).bind λx=>(Pe q.1 q.2).bind λy=>(g x y).bind fun
 | .fz (.bl aC)=>(fc q.2).bind λr=>(Pe q.1 r.2).bind λy'=>(Pe r.1 r.2).bind λz=>(g' y' z).bind λsv=>aA (.tmp sv,r.2)
 | .fz (.bl aD)=>aA (.tmp (.fz (.bl aD)),q.2)
 |_=>aB
end
inductive Fl where
 |nx (δ:Yq)|bk (δ:Yq)|ct (δ:Yq)|rt (sv:SV)|ex (e:Exn) (δ:Yq)
аFS:=Yq->Б Fl
МPh(Z:Ent K)(F:Hp)(D:Ends):Fl->В
 | .nx δ=>∀σ' H' F' own',Zi F F'->SR Z F' H' σ' δ own'->D.nx σ' H'
 | .bk δ=>∀σ' H' F' own',Zi F F'->SR Z F' H' σ' δ own'->D.bk σ' H'
 | .ct δ=>∀σ' H' F' own',Zi F F'->SR Z F' H' σ' δ own'->D.ct σ' H'
 | .rt sv=>∀v H' F' ns,Zi F F'->Zi F' H'->(∀(b:aq) (o:HO),F' b=aA o->Z.f b=aA o\/Z.h b=aB)->Zi Z.h H'->Shape K F' sv v ns->(Rm ns).Nodup->
   (∀p∈ns,F' p.1=aB/\Z.h p.1=aB/\H' p.1=aA p.2)->D.rt v H'
 | .ex x δ=>∀σ' H' F' own' cls od,Zi F F'->SR Z F' H' σ' δ own'->Pd K F' x cls od->Z.x cls od σ' H'
ЛPh.mono{Z:Ent K}{F F':Hp}{D:Ends}(s:Zi F F'):∀{fl:Fl},Ph Z F D fl->Ph Z F' D fl
 | .nx _,h=>λσ' H' F2 own' a b=>h σ' H' F2 own' (s.trans a) b
 | .bk _,h=>λσ' H' F2 own' a b=>h σ' H' F2 own' (s.trans a) b
 | .ct _,h=>λσ' H' F2 own' a b=>h σ' H' F2 own' (s.trans a) b
 | .rt _,h=>λv H' F2 ns a=>h v H' F2 ns (s.trans a)
 | .ex _ _,h=>λσ' H' F2 own' cls od a=>h σ' H' F2 own' cls od (s.trans a)
МZ8(Z:Ent K)(f:FS):TS:=λD σ H=>∃F δ own fl,SR Z F H σ δ own/\f δ=aA fl/\Ph Z F D fl
section
variable{Z:Ent K}{H:Hp}{σ:St}{E:Ends}
НUm:FS:=λδ=>aA (.nx δ)
НZxd:FS:=λδ=>aA (.bk δ)
НZz0:FS:=λδ=>aA (.ct δ)
ЛZoo(h:Z8 Z Um E σ H):Zl0 E σ H:=by O⟨F,δ,own,fl,s,e,k⟩:=h;C e;E k σ H F own (Zi.refl F) s
НZ1(f g:FS):FS:=λδ=>(f δ).bind fun
 | .nx δ'=>g δ'
 |fl=>aA fl
ЛZr8{f g:FS}(h:Z8 Z (Z1 f g) E σ H):Znz (Z8 Z f) (Z8 Z g) E σ H:=by
 O⟨F,δ,own,fl,s,e,k⟩:=h;O⟨f1,e1,e2⟩:=aa.mp e;R⟨F,δ,own,f1,s,e1,?_⟩;cases f1 with
 |nx δ1=>E λσ' H' F' own' sF s'=>⟨F',δ1,own',fl,s',e2,k.mono sF⟩
 |bk δ1=>C e2;E k
 |ct δ1=>C e2;E k
 |rt sv=>C e2;E k
 |ex x δ1=>C e2;E k
НX3(t:FT)(f g:FS):FS:=λδ=>(t δ).bind λp=>if p.1=aC then f p.2 else g p.2
ЛZr9{t:FT}{f g:FS}(h:Z8 Z (X3 t f g) E σ H):Zq6 (Yn Z t) (Z8 Z f) (Z8 Z g) E σ H:=by
 O⟨F,δ,own,fl,s,e,k⟩:=h;O⟨⟨c,δ1⟩,e1,e2⟩:=aa.mp e;R⟨F,δ,own,c,δ1,s,e1,λH1 F1 own1 sH sF s1=>?_⟩;cases c with
 |true=>rw[Е rfl]at e2⊢;E⟨F1,δ1,own1,fl,s1,e2,k.mono sF⟩
 |false=>rw[Д bp]at e2⊢;E⟨F1,δ1,own1,fl,s1,e2,k.mono sF⟩
НZz1(fe:FE):FS:=λδ=>(fe δ).bind λp=>aA (.nx p.2)
НZsa:RV->Yq->Б SV
 | .tmp sv,_=>aA sv
 | .bw i,δ=>δ[i]?.join
НJf(fe:FE):FS:=λδ=>(fe δ).bind λp=>(Zsa p.1 p.2).bind λsv=>aA (.rt sv)
ЛZsb{fe:FE}(h:Z8 Z (Jf fe) E σ H):Zn0 (Ze Z fe) E σ H:=by
 O⟨F,δ,own,fl,s,e,k⟩:=h;O⟨⟨rv,δ1⟩,e1,e2⟩:=aa.mp e;O⟨sv,e3,e4⟩:=aa.mp e2;C e4;R⟨F,δ,own,rv,δ1,s,e1,λv H1 F1 own1 sH sF s1 r1=>?_⟩;cases rv with
 |tmp sw=>C e3;O⟨ns,t⟩:=r1;E k v H1 F1 ns sF s1.le s1.fro s1.old t.sh t.nd t.ok
 |bw i=>O⟨w,h1,h2⟩:=s1.at' i sv (Bk e3);V r1':σ[i]? =aA (aA v):=r1;rw[r1']at h1;C h1;E k v H1 F1 (own1 i) sF s1.le s1.fro s1.old h2 (s1.nod i) (s1.ok i)
НZ19:FS:=λδ=>aA (.rt (.fz .non))
Нstow(i:Г):RV->Yq->Б Yq
 | .tmp sv,δ=>if i<δ.length then aA (δ.set i (aA sv))else aB
 | .bw j,δ=>(frz (.bw j) δ).bind λp=>if i<p.2.length then aA (p.2.set i (aA (.fz p.1)))else aB
ЛSR.stow{F:Hp}{δ δ':Yq}{own:Г->Zs}{i:Г}{rv:RV}{v:V}(s:SR Z F H σ δ own)(r:Vg Z F H σ own rv v)(e:DL.stow i rv δ=aA δ'):∃F' own',Zi F F'/\SR Z F' H (σ.set i (aA v)) δ' own':=by
 cases rv with
 |tmp sv=>
  O⟨ns,t⟩:=r;V e:(if i<δ.length then aA (δ.set i (aA sv))else aB)=aA δ':=e;by_cases hi:i<δ.length
  ·rw[Е hi]at e;C e;E⟨F,_,Zi.refl F,s.store t (by rw[s.len];E hi)⟩
  ·rw[Д hi]at e;C e
 |bw j=>
  O⟨⟨d,δ1⟩,e1,e2⟩:=aa.mp e;O⟨F1,own1,sF,s1,r1⟩:=s.frzR (rv:=.bw j) (v:=v) r e1;by_cases hi:i<δ1.length
  ·rw[Е hi]at e2;C e2;E⟨F1,_,sF,s1.store (.fz r1) (by rw[s1.len];E hi)⟩
  ·rw[Д hi]at e2;C e2
НYv(i:Г)(fe:FE):FS:=λδ=>(fe δ).bind λp=>(stow i p.1 p.2).bind λδ'=>aA (.nx δ')
ЛZmh{i:Г}{fe:FE}(h:Z8 Z (Yv i fe) E σ H):Zcp (Ze Z fe) (Eh i) E σ H:=by O⟨F,δ,own,fl,s,e,k⟩:=h;O⟨⟨rv,δ1⟩,e1,e2⟩:=aa.mp e;O⟨δ2,e3,e4⟩:=aa.mp e2;C e4;R⟨F,δ,own,rv,δ1,s,e1,λv H1 F1 own1 sH sF s1 r1=>?_⟩;O⟨F2,own2,sF2,s2⟩:=s1.stow r1 e3;E k _ H1 F2 own2 (sF.trans sF2) s2
set_option genInjectivity false in
structure FG where
 run:D->Yq->Б Yq
 tch:А Г
set_option genInjectivity false in
structure FGs where
 run:А D->Yq->Б Yq
 tch:А Г
МCs(Z:Ent K)(g:FG):TG:=λv σ H Q=>∃F δ own d δ',SR Z F H σ δ own/\Rep K F d v/\g.run d δ=aA δ'/\∀σ' own',SR Z F H σ' δ' own'->(∀j:Г,j∉g.tch->σ'[j]? =σ[j]?)->Q σ' H
МC2(Z:Ent K)(g:FGs):TGs:=λvs σ H Q=>∃F δ own ds δ',SR Z F H σ δ own/\Reps K F ds vs/\g.run ds δ=aA δ'/\∀σ' own',SR Z F H σ' δ' own'->(∀j:Г,j∉g.tch->σ'[j]? =σ[j]?)->Q σ' H
МZd(i:Г):FG:=⟨λd δ=>if i<δ.length then aA (δ.set i (aA (.fz d)))else aB,[i]⟩
ЛZjy{i:Г}{v:V}{Q:St->Hp->В}(h:Cs Z (Zd i) v σ H Q):Eh i v σ H Q:=by
 O⟨F,δ,own,d,δ',s,r,e,k⟩:=h;V e:(if i<δ.length then aA (δ.set i (aA (.fz d)))else aB)=aA δ':=e;by_cases hi:i<δ.length
 ·rw[Е hi]at e;C e;E k _ _ (s.store (.fz r) (by rw[s.len];E hi)) λj hj=>gd λz=>hj (by rw[z];E ag)
 ·rw[Д hi]at e;C e
МWh:FGs:=⟨λds δ=>match ds with
 | []=>aA δ
 |_=>aB,[]⟩
МZr(g:FG)(r:FGs):FGs:=⟨λds δ=>match ds with
 |d::t=>(g.run d δ).bind λδ1=>r.run t δ1
 | []=>aB,g.tch++r.tch⟩
@[simp] theorem Zqo(i:Г)(d:D)(δ:Yq):(Zd i).run d δ=if i<δ.length then some (δ.set i (some (.fz d)))else none:=rfl
@[simp] theorem Zsc(δ:Yq):Wh.run [] δ=some δ:=rfl
@[simp] theorem Zqp(g:FG)(r:FGs)(d:D)(t:А D)(δ:Yq):(Zr g r).run (d::t) δ=(g.run d δ).bind λδ1=>r.run t δ1:=rfl
ЛZop{vs:А V}{Q:St->Hp->В}(h:C2 Z Wh vs σ H Q):Zq8 vs σ H Q:=by
 O⟨F,δ,own,ds,δ',s,r,e,k⟩:=h;cases r with
 |nil=>C e;E⟨rfl,k σ own s λ_ _=>rfl⟩
 |cons h t=>C e
ЛZjz{g:FG}{r:FGs}{vs:А V}{Q:St->Hp->В}(h:C2 Z (Zr g r) vs σ H Q):Zl1 (Cs Z g) (C2 Z r) vs σ H Q:=by
 O⟨F,δ,own,ds,δ',s,rr,e,k⟩:=h;cases rr with
 |nil=>C e
 |cons h t=>O⟨δ1,e1,e2⟩:=aa.mp e;E⟨_,_,rfl,F,δ,own,_,δ1,s,h,e1,λσ1 own1 s1 t1=>⟨F,δ1,own1,_,δ',s1,t,e2,λσ2 own2 s2 t2=>k σ2 own2 s2 λj hj=>(t2 j λz=>hj (bx _ z)).trans (t1 j λz=>hj (cf _ z))⟩⟩
МWf(n:Г)(g:FGs):FG:=⟨λd δ=>match d with
 | .tup xs=>if xs.length=n then g.run xs δ else aB
 |_=>aB,g.tch⟩
@[simp] theorem Zsd(n:Г)(g:FGs)(xs:А D)(δ:Yq):(Wf n g).run (.tup xs) δ=if xs.length=n then g.run xs δ else none:=rfl
ЛZoq{n:Г}{g:FGs}{v:V}{Q:St->Hp->В}(h:Cs Z (Wf n g) v σ H Q):Zq9 K n (C2 Z g) v σ H Q:=by
 O⟨F,δ,own,d,δ',s,r,e,k⟩:=h;dsimp only[Wf]at e;split at e
 ·rename_i xs;by_cases hn:xs.length=n
  ·rw[Е hn]at e;cases r with
   |tup h r=>E⟨_,_,rfl,Ql s.le (Rf h),by rw[<-r.length];E hn,F,δ,own,_,δ',s,r,e,k⟩
  ·rw[Д hn]at e;C e
 ·C e
НMc(g:FG)(fe:FE):FS:=λδ=>(fe δ).bind λp=>(frz p.1 p.2).bind λq=>(g.run q.1 q.2).bind λδ'=>aA (.nx δ')
ЛZfl{g:FG}{fe:FE}(h:Z8 Z (Mc g fe) E σ H):Zcp (Ze Z fe) (Cs Z g) E σ H:=by O⟨F,δ,own,fl,s,e,k⟩:=h;O⟨⟨rv,δ1⟩,e1,e2⟩:=aa.mp e;O⟨⟨d,δ2⟩,e3,e4⟩:=aa.mp e2;O⟨δ3,e5,e6⟩:=aa.mp e4;C e6;R⟨F,δ,own,rv,δ1,s,e1,λv H1 F1 own1 sH sF s1 r1=>?_⟩;O⟨F2,sF2,s2,r2⟩:=s1.settleR r1;O⟨F3,own3,sF3,s3,r3⟩:=s2.frzR r2 e3;E⟨F3,δ2,own3,d,δ3,s3,r3,e5,λσ' own' s' _=>k σ' H1 F3 own' (sF.trans (sF2.trans sF3)) s'⟩
НZ0(tg:FG)(body:FS):А D->Yq->Б Fl
 | [],δ=>aA (.nx δ)
 |d::ds,δ=>(tg.run d δ).bind λδ1=>(body δ1).bind fun
  | .nx δ2=>Z0 tg body ds δ2
  | .ct δ2=>Z0 tg body ds δ2
  | .bk δ2=>aA (.nx δ2)
  | .rt sv=>aA (.rt sv)
  | .ex x δ2=>aA (.ex x δ2)
МU7(K:af)(J:It)(F:Hp)(ds:А D):Prop:=∀F' H,Zi F F'->Zi F' H->∀i:Г,
 (∀d,ds[i]? =aA d->J.go i H/\∀x H',J.yld i H x H'->Zi H H'/\∃ns,(Rm ns).Nodup/\(∀p∈ns,H p.1=aB/\H' p.1=aA p.2)/\Rep K (Ut F' ns) d x)/\(ds.length<=i->J.stop i H)
МQf(Z:Ent K)(f:FD):TI:=λσ H R=>∃F δ own ds δ',SR Z F H σ δ own/\f δ=aA (ds,δ')/\
 ∀J H' F' own',Zi H H'->Zi F F'->SR Z F' H' σ δ' own'->U7 K J F' ds->R J H'
НQt(fi:FD)(tg:FG)(body:FS):FS:=λδ=>(fi δ).bind λp=>Z0 tg body p.1 p.2
ЛSR.fresh{F H':Hp}{δ:Yq}{own:Г->Zs}{ns:Zs}(s:SR Z F H σ δ own)(sm:Zi H H')(nd:(Rm ns).Nodup)(h:∀p∈ns,H p.1=aB/\H' p.1=aA p.2):Zi F (Ut F ns)/\SR Z (Ut F ns) H' σ δ own:=by R⟨Qw λp hp=>s.le.free (h p hp).1,(s.grow sm).addF nd (λp hp=>s.le.free (h p hp).1) (λp hp=>(h p hp).2) (λp hp=>s.old.free (h p hp).1) λi p q hp hq e=>?_⟩;V z:=(s.ok i q hq).2.2;rw[<-e,(h p hp).1]at z;C z
ЛZse{fi:FD}{tg:FG}{body:FS}(h:Z8 Z (Qt fi tg body) E σ H):Zrd (Qf Z fi) (Cs Z tg) (Z8 Z body) E σ H:=by
 O⟨F,δ,own,fl,s,e,k⟩:=h;O⟨⟨ds,δ1⟩,e1,e2⟩:=aa.mp e;R⟨F,δ,own,ds,δ1,s,e1,λJ H1 F1 own1 sH sF s1 yl=>?_⟩;R⟨λi m σ H=>m=ds.length- i/\i<=ds.length/\∃F δ own,Zi F1 F/\SR Z F H σ δ own/\Z0 tg body (ds.drop i) δ=aA fl,⟨ds.length,by simp,gb _,F1,δ1,own1,Zi.refl F1,s1,e2⟩,?_⟩;rintro i m σ' H' ⟨rfl,hi,F2,δ2,own2,sF2,s2,ef⟩;by_cases hlt:i<ds.length
 ·V hd:ds[i]? =aA ds[i]:=by simp[hlt]
  O⟨go,yy⟩:=(yl F2 H' sF2 s2.le i).1 _ hd;rw[List.drop_eq_getElem_cons hlt]at ef;O⟨δ3,e3,e4⟩:=aa.mp ef;O⟨f1,e5,e6⟩:=aa.mp e4;R .inr ⟨go,λσ4 H4=>∃F δ own,Zi F1 F/\SR Z F H4 σ4 δ own/\Z0 tg body (ds.drop (i+1)) δ=aA fl,λσ4 H4 ⟨F4,δ4,own4,a,b,c⟩=>⟨ds.length- (i+1),by W,rfl,hlt,F4,δ4,own4,a,b,c⟩,λx H3 hy=>?_⟩;O⟨sm,ns,nd,hn,rp⟩:=yy x H3 hy;O⟨sFn,sn⟩:=s2.fresh sm nd hn;R⟨Ut F2 ns,δ2,own2,_,δ3,sn,rp,e3,λσ5 own5 s5 _=>⟨Ut F2 ns,δ3,own5,f1,s5,e5,?_⟩⟩;cases f1 with
  |nx δ6=>E λσ6 H6 F6 own6 a b=>⟨F6,δ6,own6,sF2.trans (sFn.trans a),b,e6⟩
  |ct δ6=>E λσ6 H6 F6 own6 a b=>⟨F6,δ6,own6,sF2.trans (sFn.trans a),b,e6⟩
  |bk δ6=>C e6;E λσ6 H6 F6 own6 a b=>k σ6 H6 F6 own6 (sF.trans (sF2.trans (sFn.trans a))) b
  |rt sv=>C e6;E λv H6 F6 ns6 a=>k v H6 F6 ns6 (sF.trans (sF2.trans (sFn.trans a)))
  |ex x δ6=>C e6;E λσ6 H6 F6 own6 cls od a=>k σ6 H6 F6 own6 cls od (sF.trans (sF2.trans (sFn.trans a)))
 ·V hz:i=ds.length:=by W
  subst hz;rw[List.drop_length]at ef;C ef;E .inl ⟨(yl F2 H' sF2 s2.le _).2 (a6 _),k σ' H' F2 own2 (sF.trans sF2) s2⟩
МU8(t:FT)(body:FS):Г->Yq->Б Fl
 |0,_=>aB
 |n+1,δ=>(t δ).bind λp=>if p.1=aC then(body p.2).bind (fun
  | .nx δ2=>U8 t body n δ2
  | .ct δ2=>U8 t body n δ2
  | .bk δ2=>aA (.nx δ2)
  | .rt sv=>aA (.rt sv)
  | .ex x δ2=>aA (.ex x δ2))else aA (.nx p.2)
ЛZj0{n:Г}{t:FT}{body:FS}(h:Z8 Z (U8 t body n) E σ H):Zeq (Yn Z t) (Z8 Z body) E σ H:=by
 O⟨F,δ,own,fl,s,e,k⟩:=h;R⟨λm σ H=>∃F2 δ own,Zi F F2/\SR Z F2 H σ δ own/\U8 t body m δ=aA fl,⟨n,F,δ,own,Zi.refl F,s,e⟩,?_⟩;rintro m σ1 H1 ⟨F1,δ1,own1,sF1,s1,e1⟩;cases m with
 |zero=>C e1
 |succ m=>
  O⟨⟨c,δ2⟩,e2,e3⟩:=aa.mp e1;R⟨F1,δ1,own1,c,δ2,s1,e2,λH2 F2 own2 sH sF2 s2=>?_⟩;cases c with
  |false=>rw[Д bp]at e3⊢;C e3;E k σ1 H2 F2 own2 (sF1.trans sF2) s2
  |true=>
   rw[Е rfl]at e3⊢;O⟨f1,e4,e5⟩:=aa.mp e3;R⟨λσ' H'=>∃F2 δ own,Zi F F2/\SR Z F2 H' σ' δ own/\U8 t body m δ=aA fl,λσ' H' w=>⟨m,Nat.lt_succ_self m,w⟩,F2,δ2,own2,f1,s2,e4,?_⟩;cases f1 with
   |nx δ6=>E λσ6 H6 F6 own6 a b=>⟨F6,δ6,own6,sF1.trans (sF2.trans a),b,e5⟩
   |ct δ6=>E λσ6 H6 F6 own6 a b=>⟨F6,δ6,own6,sF1.trans (sF2.trans a),b,e5⟩
   |bk δ6=>C e5;E λσ6 H6 F6 own6 a b=>k σ6 H6 F6 own6 (sF1.trans (sF2.trans a)) b
   |rt sv=>C e5;E λv H6 F6 ns6 a=>k v H6 F6 ns6 (sF1.trans (sF2.trans a))
   |ex x δ6=>C e5;E λσ6 H6 F6 own6 cls od a=>k σ6 H6 F6 own6 cls od (sF1.trans (sF2.trans a))
НZ2a(fe:FE):FD:=λδ=>(fe δ).bind λp=>(frz p.1 p.2).bind λq=>match q.1 with
 | .lst xs=>aA (xs,q.2)
 | .tup xs=>aA (xs,q.2)
 |_=>aB
МZ2b(K:af)(tl:TE):TI:=λσ H R=>tl σ H λx H1=>(∃a,x= .ref a/\(∃xs,W8 K H1 a xs)/\R (Itl K a) H1)\/(∃a,x= .ref a/\(∃xs,Ov K H1 a xs)/\R (Itt K a) H1)
ЛVh{F:Hp}{a:aq}{xs:А D}{vs:А V}(h:W8 K F a vs)(r:Reps K F xs vs):U7 K (Itl K a) F xs:=λF' H sF sH i=>by V q:W8 K H a vs:=Wd (sF.trans sH) h;R⟨λd hd=>?_,λhl=>⟨vs,q,by rw[<-r.length];E hl⟩⟩;O⟨v,h1,h2⟩:=r.get hd;R⟨⟨vs,v,q,h1⟩,λx H' zq9=>?_⟩;O⟨e1,e2⟩:=zq9;subst e1;V e3:=e2 vs q;rw[h1]at e3;C e3;E⟨Zi.refl _,[],cx,λ_ h=>(nomatch h),h2.mono sF⟩
ЛHn{F:Hp}{a:aq}{xs:А D}{vs:А V}(h:Ov K F a vs)(r:Reps K F xs vs):U7 K (Itt K a) F xs:=λF' H sF sH i=>by V q:Ov K H a vs:=Ql (sF.trans sH) h;R⟨λd hd=>?_,λhl=>⟨vs,q,by rw[<-r.length];E hl⟩⟩;O⟨v,h1,h2⟩:=r.get hd;R⟨⟨vs,v,q,h1⟩,λx H' zq9=>?_⟩;O⟨e1,e2⟩:=zq9;subst e1;V e3:=e2 vs q;rw[h1]at e3;C e3;E⟨Zi.refl _,[],cx,λ_ h=>(nomatch h),h2.mono sF⟩
МT5(lo:Int)(n:Г):А D:=(c8 n).map λi=>.int (lo+(i:Г))
ЛPi{lo:Int}{n:Г}{F:Hp}:U7 K (Itr lo n) F (T5 lo n):=λF' H sF sH i=>by
 V hl:(T5 lo n).length=n:=by unfold T5;rw[aj,List.length_range]
 R⟨λd hd=>?_,λh=>by rw[hl]at h;E h⟩;V hi:i<n:=by V :=(ay.mp hd).1;rw[hl]at this;E this
 R⟨hi,λx H' zq9=>?_⟩;O⟨e1,e2⟩:=zq9;subst e1 e2;unfold T5 at hd;rw[a9,List.getElem?_range hi]at hd;C hd;E⟨Zi.refl _,[],cx,λ_ h=>(nomatch h),.int _⟩
МTc(j:Int):Prop:=-(2^62)<=j/\j<2^62
ЛZj1{j:Int}(h0:0<=j)(h:j<=16777216):Tc j:=⟨by W,by W⟩
ЛU9{n:Г}(h:n<=16777216):Tc (n:Int):=Zj1 И И
open Classical in
НFy(fa:FA):FD:=λδ=>(fa δ).bind λp=>match Oy p.1 p.2 with
 |some [.int j]=>if Tc j then aA (T5 0 j.toNat,p.2)else aB
 |_=>aB
ЛZor{fa:FA}{R:It->Hp->В}(h:Qf Z (Fy fa) σ H R):Zl2 (Cr Z fa) σ H R:=by
 O⟨F,δ,own,ds,δ',s,e,k⟩:=h;O⟨⟨rvs,δ1⟩,e1,e2⟩:=aa.mp e;R⟨F,δ,own,rvs,δ1,s,e1,λvs H1 F1 own1 sH sF s1 r1=>?_⟩;dsimp only at e2;split at e2
 ·rename_i j hj;V rn:=s1.rdAll r1 hj;cases rn with
  |cons h t=>
   C t;by_cases hb:Tc j
   ·rw[Е hb]at e2;C e2;E⟨j,by rw[h.int],hb.1,hb.2,k _ H1 F1 own1 sH sF s1 Pi⟩
   ·rw[Д hb]at e2;C e2
 ·C e2
НRn(i:Г)(fe:FE):FS:=λδ=>match δ[i]? with
 |some (aA (.ol _))=>(fe δ).bind λp=>(frz p.1 p.2).bind λq=>match q.2[i]? with
  |some (aA (.ol xs))=>if xs.length<bg then aA (.nx (q.2.set i (aA (.ol (xs++[q.1])))))else aB
  |_=>aB
 |_=>aB
ЛOa{F:Hp}{xs:А D}{v:V}{ns:Zs}(h:Shape K F (.ol xs) v ns):∃a vs,v= .ref a/\ns=[(a,.lst vs)]/\Reps K F xs vs:=by
 cases h with
 |ol r=>E⟨_,_,rfl,rfl,r⟩
ЛZsf{i:Г}{fe:FE}(h:Z8 Z (Rn i fe) E σ H):Zal (tBM K "list" Bw (Cy i) (Kv (Ze Z fe) Hc)) E σ H:=by
 O⟨F,δ,own,fl,s,e,k⟩:=h;unfold Rn at e;split at e
 ·rename_i xs0 hx0;O⟨⟨rv,δ1⟩,e1,e2⟩:=aa.mp e;O⟨⟨d,δ2⟩,e3,e4⟩:=aa.mp e2;O⟨v,hv,sh⟩:=s.at' i _ hx0;O⟨a,vs0,ev,en,r0⟩:=Oa sh;R⟨v,hv,?_,F,δ,own,rv,δ1,s,e1,λy H1 F1 own1 sH sF s1 r1=>?_⟩
  ·subst ev;E .inl ⟨rfl,vs0,.inl (.inl (s.ok i (a,.lst vs0) (by rw[en];E ag)).2.2)⟩
  O⟨F2,sF2,s2,r2⟩:=s1.settleR r1;O⟨F3,own3,sF3,s3,r3⟩:=s2.frzR r2 e3;dsimp only at e4;split at e4
  ·rename_i xs hx;by_cases hz:xs.length<bg
   ·rw[Е hz]at e4;C e4;O⟨v',hv',sh'⟩:=s3.at' i _ hx;rw[hv]at hv';C hv';O⟨b,vs,eb,en',r'⟩:=Oa sh';V mb:(b,HO.lst vs)∈own3 i:=by rw[en'];E ag
    subst eb;R⟨b,vs,y,rfl,rfl,(s3.ok i _ mb).2.2,by rw[<-r'.length];E hz,?_⟩;E k σ _ F3 _ (sF.trans (sF2.trans sF3)) (s3.change (sv':=.ol (xs++[d])) (o':=.lst (vs++[y])) (ns':=[(b,.lst (vs++[y]))]) hx hv mb (.ol (r'.snoc r3)) (λp hp=>.inl (au.mp hp)) K9)
   ·rw[Д hz]at e4;C e4
  ·C e4
 ·C e
end
НEu(n:Г)(ds:А D):Yq:=ds.map (λd=>aA (.fz d))++List.replicate (n- ds.length) aB
ЛVi{N:А Str}{F H:Hp}{ds:А D}{vs:А V}(le:Zi F H)(r:Reps K F ds vs):SR (ent H F:Ent K) F H (L2.Cq N vs) (Eu N.length ds) λ_=>[]:=by
 V hl:=r.length;R⟨le,λb o e=>.inl e,Zi.refl H,?_,λi sv e=>?_,λ_=>cx,λ_ _ h=>(nomatch h),λ_ _ _ _ _ h=>(nomatch h)⟩
 ·unfold L2.Cq Eu;rw[az,az,aj,aj,List.length_replicate,List.length_replicate,hl]
 ·unfold Eu at e;by_cases hi:i<ds.length
  ·rw[dn (by simpa using hi),a9]at e;cases hd:ds[i]? with
   |none=>rw[hd]at e;C e
   |some d=>rw[hd]at e;C e;O⟨v,h1,h2⟩:=r.get hd;R⟨v,?_,.fz h2⟩;unfold L2.Cq;rw[dn (by rw[aj];W),a9,h1];rfl
  ·rw[gm (by simpa using hi),List.getElem?_replicate]at e;split at e<;> C e
ЛZfm{n:Г}{g:А D->Б SV}{vs:А V}{H:Hp}{Q:VK}{E:XK}(h:Y6 K n g vs H Q E):vs.length=n:=by O⟨F,ds,sv,le,r,hn,e,k⟩:=h;rw[<-r.length];E hn
end DL
namespace DL
open PySem L2
variable{K:af}
МxG(K:af)(g:FG):TG:=λv σ H Q=>∃Z:Ent K,Cs Z g v σ H Q
МxT(K:af)(f:FT):TT:=λσ H Q=>∃Z:Ent K,Yn Z f σ H Q
МxE(K:af)(f:FE):TE:=λσ H Q=>∃Z:Ent K,Ze Z f σ H Q
МW1:FT:=λδ=>aA (aC,δ)
@[simp] theorem Zsg(δ:Yq):W1 δ=some (true,δ):=rfl
Нcaps(src:А BSrc):А RV:=src.filterMap fun
 | .cap j=>aA (.bw j)
 |_=>aB
НHo(δ:Yq):BSrc->Б SV
 | .own=>aB
 | .cap j=>match δ[j]?.join with
  |some (.fz d)=>aA (.fz d)
  |_=>aB
 | .acc=>aA (.ol [])
НbD(src:А BSrc)(δ:Yq):Yq:=src.map (Ho δ)
НresetSlot:BSrc->Б SV->Б SV
 | .own,_=>aB
 |_,o=>o
НBl:А BSrc->Yq->Yq
 |b::r,o::t=>resetSlot b o::Bl r t
 |_,t=>t
НYb(src:А BSrc)(k:Г)(g:FG)(tt:FT)(te:FE):А D->Yq->Б Yq
 | [],δ=>aA δ
 |d::ds,δ=>(g.run d δ).bind λδ1=>(tt δ1).bind λp=>if p.1=aC then(te p.2).bind λq=>(frz q.1 q.2).bind λr=>match r.2[k]? with
   |some (aA (.ol zs))=>if zs.length<bg then Yb src k g tt te ds (Bl src (r.2.set k (aA (.ol (zs++[r.1])))))else aB
   |_=>aB
  else Yb src k g tt te ds (Bl src p.2)
НUo(src:А BSrc)(k:Г)(fi:FD)(g:FG)(tt:FT)(te:FE):FE:=λδ=>(fi δ).bind λp=>(frzAll (caps src) p.2).bind λc=>(Yb src k g tt te p.1 (bD src c.2)).bind λδb=>match δb[k]? with
 |some (aA (.ol ys))=>aA (.tmp (.ol ys),c.2)
 |_=>aB
ЛTd:∀(src:А BSrc) (δ:Yq),(Bl src δ).length=δ.length
 | [],t=>by unfold Bl;rfl
 |_::_,[]=>by unfold Bl;rfl
 |b::r,o::t=>by show(resetSlot b o::Bl r t).length=_;rw[bf,bf,Td r t]
ЛTe:∀{src:А BSrc} {δ:Yq} {i:Г} {sv:SV},(Bl src δ)[i]? =aA (aA sv)->δ[i]? =aA (aA sv)
 | [],_,_,_,h=>h
 |_::_,[],_,_,h=>h
 |b::r,o::t,0,sv,h=>by
  V h:aA (resetSlot b o)=aA (aA sv):=h;cases b with
  |own=>C h
  |cap j=>E h
  |acc=>E h
 |b::r,o::t,i+1,sv,h=>by V h:(Bl r t)[i]? =aA (aA sv):=h;T t[i]? =_;E Te h
section
variable{Z:Ent K}{F H:Hp}{σ:St}{δ δ':Yq}{own:Г->Zs}
ЛSR.forget(s:SR Z F H σ δ own)(hl:δ'.length=δ.length)(h:∀(i:Г) (sv:SV),δ'[i]? =aA (aA sv)->δ[i]? =aA (aA sv)):SR Z F H σ δ' own:=
 ⟨s.le,s.fro,s.old,s.len.trans hl.symm,λi sv e=>s.at' i sv (h i sv e),s.nod,s.ok,s.sep⟩
ЛSR.caps:∀{rvs:А RV} {ds:А D} {δ δ':Yq} {F:Hp} {own:Г->Zs},(∀rv∈rvs,∃j,rv= .bw j)->SR Z F H σ δ own->DL.frzAll rvs δ=aA (ds,δ')->∃F1 own1,Zi F F1/\SR Z F1 H σ δ' own1
 | [],_,_,_,F,own,_,s,e=>by C e;E⟨F,own,Zi.refl F,s⟩
 |rv::r,_,_,_,F,own,hb,s,e=>by O⟨⟨d,δ1⟩,e1,e2⟩:=aa.mp e;O⟨⟨ds,δ2⟩,e3,e4⟩:=aa.mp e2;C e4;O⟨j,rfl⟩:=hb rv ag;O⟨sv,e5,e6⟩:=aa.mp e1;C e6;O⟨F1,v,sF,_,_,s1⟩:=s.freeze (Bk e5);O⟨F2,own2,sF2,s2⟩:=SR.caps (λrv h=>hb rv (ar _ h)) s1 e3;E⟨F2,own2,sF.trans sF2,s2⟩
ЛSR.after{F3 H3:Hp}(s2:SR Z F H σ δ own)(sH3:Zi H H3)(sF3:Zi F F3)(le3:Zi F3 H3)(fro3:∀(b:aq) (o:HO),F3 b=aA o->F b=aA o\/H b=aB):SR Z F3 H3 σ δ own:=by
 R⟨le3,λb o e=>?_,s2.old.trans sH3,s2.len,λi sw ei=>?_,s2.nod,λi p hp=>?_,s2.sep⟩
 ·rcases fro3 b o e with z|z
  ·E s2.fro b o z
  ·E .inr (s2.old.free z)
 ·O⟨w,h1,h2⟩:=s2.at' i sw ei;E⟨w,h1,h2.mono sF3⟩
 ·O⟨a,b,c⟩:=s2.ok i p hp;R⟨?_,b,sH3 _ _ c⟩;cases z:F3 p.1 with
  |none=>rfl
  |some u=>
   rcases fro3 _ u z with y|y
   ·rw[a]at y;C y
   ·rw[c]at y;C y
end
structure SrcOk(src:А BSrc)(k:Г):В where
 acc:src[k]? =aA .acc
 uni:∀i:Г,src[i]? =aA .acc->i=k
ЛZfn{Z:Ent K}{F H:Hp}{σ:St}{δ:Yq}{own:Г->Zs}{src:А BSrc}{k:Г}{acc:aq}(S:SrcOk src k)(s:SR Z F H σ δ own)(ha:H acc=aB):
  SR (ent H F:Ent K) F (Ya H acc (.lst [])) (Xz src σ acc) (bD src δ) (λi=>if i=k then[(acc,.lst [])]else[]):=by
 V mem:∀{i:Г} {p:aq×HO},p∈(if i=k then[(acc,HO.lst [])]else[])->i=k/\p=(acc,.lst []):=fun{i p} h=>by
  by_cases hi:i=k
  ·rw[Е hi]at h;E⟨hi,au.mp h⟩
  ·rw[Д hi]at h;E nomatch h
 R⟨s.le.trans (J2 ha),λb o e=>.inl e,J2 ha,by unfold Xz bD;rw[aj,aj],λi sv e=>?_,λi=>?_,λi p hp=>?_,λi j p q hij hp hq=>?_⟩
 ·unfold bD at e;rw[a9]at e;cases hq:src[i]? with
  |none=>rw[hq]at e;C e
  |some q=>
   rw[hq]at e;V e:Ho δ q=aA sv:=dk.inj e;cases q with
   |own=>C e
   |acc=>C e;V hi:=S.uni i hq;R⟨.ref acc,by unfold Xz;rw[a9,hq];rfl,?_⟩;T Shape K F (.ol []) (.ref acc) (if i=k then[(acc,.lst [])]else[]);rw[Е hi];E .ol .nil
   |cap j=>
    V hi:i≠k:=λz=>by rw[z,S.acc]at hq;C hq
    unfold Ho at e;dsimp only at e;split at e
    ·rename_i d hd;C e;O⟨v,h1,h2⟩:=s.at' j _ (Bk hd);R⟨v,by unfold Xz;rw[a9,hq];T aA (σ[j]?).join=_;rw[h1];rfl,?_⟩;show Shape K F (.fz d) v (if i=k then[(acc,.lst [])]else[]);rw[Д hi];E .fz (J3 h2)
    ·C e
 ·show(Rm (if i=k then[(acc,HO.lst [])]else[])).Nodup;by_cases hi:i=k
  ·rw[Е hi];E K9
  ·rw[Д hi];E cx
 ·O⟨_,rfl⟩:=mem hp;E⟨s.le.free ha,ha,Yt⟩
 ·O⟨z,_⟩:=mem hp;O⟨y,_⟩:=mem hq;E absurd (z.trans y.symm) hij
ЛZfo{Z:Ent K}{H:Hp}{σ:St}{Q:VK}{src:А BSrc}{k:Г}{fi:FD}{g:FG}{tt:FT}{te:FE}(S:SrcOk src k)(hk:k∉g.tch)(h:Ze Z (Uo src k fi g tt te) σ H Q):
  Zfg src (Qf Z fi) (xG K g) (xT K tt) (xE K te) σ H Q:=by
 O⟨F,δ,own,rv,δ',s,e,k0⟩:=h;O⟨⟨ds,δ1⟩,e1,e2⟩:=aa.mp e;O⟨⟨cs,δ2⟩,e3,e4⟩:=aa.mp e2;O⟨δf,e5,e6⟩:=aa.mp e4;R⟨F,δ,own,ds,δ1,s,e1,λJ H1 F1 own1 sH sF s1 yl acc ha=>?_⟩;O⟨F2,own2,sF2,s2⟩:=s1.caps (λrv hr=>by
  unfold DL.caps at hr;O⟨b,_,hb⟩:=List.mem_filterMap.mp hr;cases b with
  |own=>C hb
  |acc=>C hb
  |cap j=>C hb;E⟨j,rfl⟩) e3
 V s3:=Zfn S s2 ha;V hacc0:(Xz src σ acc)[k]? =aA (aA (.ref acc)):=by unfold Xz;rw[a9,S.acc];rfl
 R⟨λi m σ' H=>m=ds.length- i/\i<=ds.length/\σ'[k]? =aA (aA (.ref acc))/\∃F δ own,Zi F2 F/\SR (ent H1 F2:Ent K) F H σ' δ own/\Yb src k g tt te (ds.drop i) δ=aA δf,
  ⟨ds.length,by simp,gb _,hacc0,F2,_,_,Zi.refl F2,s3,e5⟩,?_⟩
 rintro i m σ4 H4 ⟨rfl,hi,hacc,F4,δ4,own4,sF4,s4,ef⟩;by_cases hlt:i<ds.length
 ·V hd:ds[i]? =aA ds[i]:=by simp[hlt]
  O⟨go,yy⟩:=(yl F4 H4 (sF2.trans sF4) s4.le i).1 _ hd;rw[List.drop_eq_getElem_cons hlt]at ef;O⟨δ5,e7,e8⟩:=aa.mp ef;O⟨⟨b,δ6⟩,e9,e10⟩:=aa.mp e8;R .inr ⟨go,λx H5 hy=>?_⟩;O⟨sm,ns,nd,hn,rp⟩:=yy x H5 hy;O⟨sFn,sn⟩:=s4.fresh sm nd hn;R⟨(ent H1 F2:Ent K),Ut F4 ns,δ4,own4,_,δ5,sn,rp,e7,λσ6 own6 s6 t6=>⟨(ent H1 F2:Ent K),Ut F4 ns,δ5,own6,b,δ6,s6,e9,λH7 F7 own7 sH7 sF7 s7=>?_⟩⟩;V hacc6:σ6[k]? =aA (aA (.ref acc)):=(t6 k hk).trans hacc;cases b with
  |false=>dsimp only;rw[Д bp]at e10⊢;E⟨ds.length- (i+1),by W,rfl,hlt,hacc6,F7,_,own7,sF4.trans (sFn.trans sF7),s7.forget (Td src δ6) (λj sv hj=>Te hj),e10⟩
  |true=>
   dsimp only;rw[Е rfl]at e10⊢;O⟨⟨rv8,δ8⟩,e11,e12⟩:=aa.mp e10;O⟨⟨d9,δ9⟩,e13,e14⟩:=aa.mp e12;R⟨(ent H1 F2:Ent K),F7,δ6,own7,rv8,δ8,s7,e11,λy H8 F8 own8 sH8 sF8 s8 r8=>?_⟩;O⟨F9,sF9,s9,r9⟩:=s8.settleR r8;O⟨F10,own10,sF10,s10,r10⟩:=s9.frzR r9 e13;dsimp only at e14;split at e14
   ·rename_i zs hz;by_cases hzl:zs.length<bg
    ·rw[Е hzl]at e14;O⟨v',hv',sh'⟩:=s10.at' k _ hz;rw[hacc6]at hv';C hv';O⟨b,vs,eb,en',r'⟩:=Oa sh';C eb;V mb:(acc,HO.lst vs)∈own10 k:=by rw[en'];E ag
     R⟨acc,vs,y,rfl,rfl,(s10.ok k _ mb).2.2,by rw[<-r'.length];E hzl,?_⟩;V s11:=s10.change (sv':=.ol (zs++[d9])) (o':=.lst (vs++[y])) (ns':=[(acc,.lst (vs++[y]))]) hz hacc6 mb (.ol (r'.snoc r10)) (λp hp=>.inl (au.mp hp)) K9;E⟨ds.length- (i+1),by W,rfl,hlt,hacc6,F10,_,_,sF4.trans (sFn.trans (sF7.trans (sF8.trans (sF9.trans sF10)))),s11.forget (Td src _) (λj sv hj=>Te hj),e14⟩
    ·rw[Д hzl]at e14;C e14
   ·C e14
 ·V hz:i=ds.length:=by W
  subst hz;rw[List.drop_length]at ef;C ef;R .inl ⟨(yl F4 H4 (sF2.trans sF4) s4.le _).2 (a6 _),?_⟩;dsimp only at e6;split at e6
  ·rename_i ys hys;C e6;O⟨v',hv',sh'⟩:=s4.at' k _ hys;rw[hacc]at hv';C hv';O⟨b,vs,eb,en',r'⟩:=Oa sh';C eb;V mb:(acc,HO.lst vs)∈own4 k:=by rw[en'];E ag
   O⟨o1,o2,o3⟩:=s4.ok k _ mb;R k0 (.ref acc) H4 F4 own2 (sH.trans s4.old) (sF.trans (sF2.trans sF4)) (s2.after s4.old sF4 s4.le λb o e=>s4.fro b o e) ⟨[(acc,.lst vs)],.ol r',K9,λp hp=>?_,λj p q hp hq e=>?_⟩
   ·obtain rfl:=au.mp hp;E⟨o1,s2.old.free ha,o3⟩
   ·obtain rfl:=au.mp hp;V z:=(s2.ok j q hq).2.2;V e':acc=q.1:=e;rw[<-e',ha]at z;C z
  ·C e6
end DL
namespace DL
open PySem PySem.Spec PyProof.Rows L2
variable{K:af}
variable{Z:Ent K}
НHq(f:Int->Int->D):D->D->Б SV
 | .int i,.int j=>aA (.fz (f i j))
 |_,_=>aB
НZc5(C:Int->Int->Bool)(f:Int->Int->D):D->D->Б SV
 | .int i,.int j=>if C i j=aC then aA (.fz (f i j))else aB
 |_,_=>aB
ЛZmi{g:Int->Int->V}{f:Int->Int->D}(hr:∀F i j,Rep K F (f i j) (g i j)):Y8 Z (rI0 g) (Hq f):=by
 intro F H σ δ own x y d1 d2 sv Q s r1 r2 e k;unfold Hq at e;split at e
 ·C e;E⟨_,_,r1.int,r2.int,k.fz s (hr _ _ _)⟩
 ·C e
ЛZos{C:Int->Int->В}{c:Int->Int->Bool}{g:Int->Int->V}{f:Int->Int->D}(hc:∀i j,c i j=aC->C i j)(hr:∀F i j,Rep K F (f i j) (g i j)):Y8 Z (rI C g) (Zc5 c f):=by
 intro F H σ δ own x y d1 d2 sv Q s r1 r2 e k;unfold Zc5 at e;split at e
 ·split at e
  ·rename_i hcc;C e;E⟨_,_,r1.int,r2.int,hc _ _ hcc,k.fz s (hr _ _ _)⟩
  ·C e
 ·C e
НZ2c:D->D->Б SV:=Hq λi j=>.int (i- j)
МZfp(i j:Int):Bool:=(decide (-(2^64)<i)&&decide (i<2^64))|| (decide (-(2^64)<j)&&decide (j<2^64))
НZsh:D->D->Б SV:=Zc5 Zfp λi j=>.int (i*j)
НZsi(i j:Int):Bool:=decide (0<j)&&decide (j<1073741824)
НLc:D->D->Б SV:=Zc5 Zsi λi j=>.int (i / j)
НZsj(i j:Int):Bool:=decide (0<j)
НB1:D->D->Б SV:=Zc5 Zsj λi j=>.int (i % j)
НZxe(i j:Int):Bool:=decide (0<=j)&&decide (j<=1000000)&&decide (i.natAbs<2^64)
НZ2d:D->D->Б SV:=Zc5 Zxe λi j=>.int (i^j.toNat)
ЛZsk:Y8 Z (rI Zet λi j=>V.int (i*j)) Zsh:=Zos (λi j h=>by
 unfold Zfp at h;simp only[Bool.or_eq_true,Bool.and_eq_true,decide_eq_true_eq]at h;E h) λ_ _ _=>.int _
ЛZot:Y8 Z (rI Zrg λi j=>V.int (i / j)) Lc:=Zos (λi j h=>by
 unfold Zsi at h;simp only[Bool.and_eq_true,decide_eq_true_eq]at h;E h) λ_ _ _=>.int _
ЛZsl:Y8 Z (rI (λ_ j=>0<j) λi j=>V.int (i % j)) B1:=Zos (λi j h=>by
 unfold Zsj at h;simp only[decide_eq_true_eq]at h;E h) λ_ _ _=>.int _
НU2:D->D->Б SV:=Hq λi j=>.bl (decide (i<j))
НleD:D->D->Б SV:=Hq λi j=>.bl (decide (i<=j))
НgtD:D->D->Б SV:=Hq λi j=>.bl (decide (j<i))
НgeD:D->D->Б SV:=Hq λi j=>.bl (decide (j<=i))
ЛZxf:Y8 Z (rI0 λi j=>V.bl (decide (i<j))) U2:=Zmi λ_ _ _=>.bl _
ЛZxg:Y8 Z (rI0 λi j=>V.bl (decide (j<i))) gtD:=Zmi λ_ _ _=>.bl _
МZxh:R2:=λx y H Q=>∃i j,x= .str i/\y= .str j/\i.length+j.length<=bg/\Q (.str (i++j)) H
МZmj(K:af):R2:=λx y H Q=>∃l b xs zs,x= .ref l/\y= .ref b/\W8 K H l xs/\W8 K H b zs/\xs.length+zs.length<=bg/\∀p,H p=aB->Q (.ref p) (Ya H p (.lst (xs++zs)))
ЛZj2{X:Cx}:Cw X (binaryOp .Add) (Zmj X.K):=by
 intro pins s σ H x y v u Q I rx ry h;O⟨l,b,xs,zs,rfl,rfl,hH,hB,hz,q⟩:=h;C rx;C ry;O⟨its,r,pl,z⟩:=I.list hH;O⟨its2,r2,pl2,z2⟩:=I.list hB;V hl:=r.length;V hl2:=r2.length;O⟨⟨cls,dd,data,sl⟩,ho,hc,n,hd⟩:=pl.isList;O⟨⟨cls2,dd2,data2,sl2⟩,ho2,hc2,n2,hd2⟩:=pl2.isList;simp only at hc hd hc2 hd2;subst hc hd hc2 hd2;V ea:its.toArray++its2.toArray=(its++its2).toArray:=by simp
 R concat_meets ⟨_,ho,rfl⟩ ⟨_,ho2,rfl⟩ noFill_list_add seq_list_add PySem.F.slot_list_add PySem.F.entry_list_add (PySem.F.args_list_add_2 _ _) (list_addW l b its.toArray its2.toArray n n2 dd dd2 sl sl2 (by rw[bv,bv];W)) ⟨ho,ho2,?_⟩;rw[ea];E⟨.ref _,_,I.lnew (t':=s.toks) (r.append r2) (by rw[az];W),rfl,q _ I.fresh⟩
МZmk(K:af):R2:=λx y H Q=>rI0 (λi j=>V.int (i+j)) x y H Q\/(Zxh x y H Q\/Zmj K x y H Q)
ЛZj3{X:Cx}:Cw X (binaryOp .Add) (Zmk X.K):=Zn6.or (Ha.or Zj2)
НOb:D->D->Б SV
 | .int i,.int j=>aA (.fz (.int (i+j)))
 | .str x,.str y=>if x.length+y.length<=bg then aA (.fz (.str (x++y)))else aB
 | .lst xs,.lst ys=>if xs.length+ys.length<=bg then aA (.ol (xs++ys))else aB
 |_,_=>aB
ЛZsm:Y8 Z (Zmk K) Ob:=by
 intro F H σ δ own x y d1 d2 sv Q s r1 r2 e k;unfold Ob at e;split at e
 ·C e;E .inl ⟨_,_,r1.int,r2.int,k.fz s (.int _)⟩
 ·split at e
  ·rename_i hz;C e;E .inr (.inl ⟨_,_,r1.str,r2.str,hz,k.fz s (.str _)⟩)
  ·C e
 ·split at e
  ·rename_i hz;C e;O⟨a,vs,ex,ha,ra⟩:=r1.lst s.le;O⟨b,us,ey,hb,rb⟩:=r2.lst s.le;E .inr (.inr ⟨a,b,vs,us,ex,ey,ha,hb,by rw[<-ra.length,<-rb.length];E hz,λp hp=>k.lst s (ra.append rb) hp⟩)
  ·C e
 ·C e
НeqS:D->D->Б Bool
 | .non,.non=>aA aC
 | .non,.int _=>aA aD
 | .int _,.non=>aA aD
 | .non,.bl _=>aA aD
 | .bl _,.non=>aA aD
 | .non,.str _=>aA aD
 | .str _,.non=>aA aD
 | .int i,.int j=>aA (decide (i=j))
 | .bl i,.bl j=>aA (decide (i=j))
 | .str i,.str j=>aA (decide (i=j))
 | .int _,.str _=>aA aD
 | .str _,.int _=>aA aD
 | .bl _,.str _=>aA aD
 | .str _,.bl _=>aA aD
 |_,_=>aB
ЛZfq{F H:Hp}{d1 d2:D}{x y:V}{b:Bool}(e:eqS d1 d2=aA b)(r1:Yd K F H d1 x)(r2:Yd K F H d2 y):scal x y=aC/\b=decide (x=y):=by
 unfold eqS at e;split at e<;> C e
 ·rw[r1.non,r2.non];E⟨rfl,by simp⟩
 ·rw[r1.non,r2.int];E⟨rfl,by simp⟩
 ·rw[r1.int,r2.non];E⟨rfl,by simp⟩
 ·rw[r1.non,r2.bl];E⟨rfl,by simp⟩
 ·rw[r1.bl,r2.non];E⟨rfl,by simp⟩
 ·rw[r1.non,r2.str];E⟨rfl,by simp⟩
 ·rw[r1.str,r2.non];E⟨rfl,by simp⟩
 ·rw[r1.int,r2.int];E⟨rfl,by simp⟩
 ·rw[r1.bl,r2.bl];E⟨rfl,by simp⟩
 ·rw[r1.str,r2.str];E⟨rfl,by simp⟩
 ·rw[r1.int,r2.str];E⟨rfl,by simp⟩
 ·rw[r1.str,r2.int];E⟨rfl,by simp⟩
 ·rw[r1.bl,r2.str];E⟨rfl,by simp⟩
 ·rw[r1.str,r2.bl];E⟨rfl,by simp⟩
НeqD(d1 d2:D):Б SV:=(eqS d1 d2).bind λb=>aA (.fz (.bl b))
НneD(d1 d2:D):Б SV:=(eqS d1 d2).bind λb=>aA (.fz (.bl (!b)))
ЛZxk:Y8 Z rEq eqD:=by intro F H σ δ own x y d1 d2 sv Q s r1 r2 e k;O⟨b,e1,e2⟩:=aa.mp e;C e2;O⟨h1,h2⟩:=Zfq e1 r1 r2;subst h2;E⟨h1,k.fz s (.bl _)⟩
ЛZxl:Y8 Z rNe neD:=by intro F H σ δ own x y d1 d2 sv Q s r1 r2 e k;O⟨b,e1,e2⟩:=aa.mp e;C e2;O⟨h1,h2⟩:=Zfq e1 r1 r2;subst h2;E⟨h1,k.fz s (.bl _)⟩
НD.isNon:D->Bool
 | .non=>aC
 |_=>aD
НZ2e(d1 d2:D):Б SV:=if d2.isNon=aC then aA (.fz (.bl d1.isNon))else aB
НZz2(d1 d2:D):Б SV:=if d2.isNon=aC then aA (.fz (.bl (!d1.isNon)))else aB
ЛReps.atI{F:Hp}{xs:А D}{vs:А V}{i:Int}{d:D}(r:Reps K F xs vs)(e:L2.atI xs i=aA d):∃v,L2.atI vs i=aA v/\Rep K F d v:=by unfold L2.atI at e⊢;O⟨j,e1,e2⟩:=aa.mp e;O⟨v,h1,h2⟩:=r.get e2;E⟨v,aa.mpr ⟨j,by rw[<-r.length];E e1,h1⟩,h2⟩
НixD:D->D->Б SV
 | .lst xs,.int i=>(L2.atI xs i).bind λd=>aA (.fz d)
 | .tup xs,.int i=>(L2.atI xs i).bind λd=>aA (.fz d)
 | .str z,.int i=>if z.length<=bg then(L2.atI z.cps.toList i).bind λc=>aA (.fz (.str ⟨#[c]⟩))else aB
 |_,_=>aB
ЛZso:Y8 Z (rIx K) ixD:=by
 intro F H σ δ own x y d1 d2 sv Q s r1 r2 e k;unfold ixD at e;split at e
 ·O⟨d,e1,e2⟩:=aa.mp e;C e2;O⟨a,vs,ex,ha,ra⟩:=r1.lst s.le;O⟨v,h1,h2⟩:=ra.atI e1;E .inl ⟨a,vs,_,v,ex,r2.int,ha,h1,k.fz s h2⟩
 ·O⟨d,e1,e2⟩:=aa.mp e;C e2;O⟨a,vs,ex,ha,ra⟩:=r1.tup s.le;O⟨v,h1,h2⟩:=ra.atI e1;E .inr (.inl ⟨a,vs,_,v,ex,r2.int,ha,h1,k.fz s h2⟩)
 ·split at e
  ·rename_i hz;O⟨c,e1,e2⟩:=aa.mp e;C e2;E .inr (.inr ⟨_,_,c,r1.str,r2.int,hz,e1,k.fz s (.str _)⟩)
  ·C e
 ·C e
аFO:=Yq->Б (Б Int×Yq)
МLd(Z:Ent K)(f:FO):TO:=λσ H Q=>∃F δ own o δ',SR Z F H σ δ own/\f δ=aA (o,δ')/\∀H' F' own',Zi H H'->Zi F F'->SR Z F' H' σ δ' own'->Q o H'
НZxm:FO:=λδ=>aA (aB,δ)
НZar(fe:FE):FO:=λδ=>(fe δ).bind λp=>match p.1 with
 | .tmp (.fz (.int i))=>aA (aA i,p.2)
 |_=>aB
section
variable{H:Hp}{σ:L2.St}{Q:VK}{R:Б Int->Hp->В}
ЛZou{fe:FE}(h:Ld Z (Zar fe) σ H R):Zl7 (Ze Z fe) σ H R:=by
 O⟨F,δ,own,b,δ',s,e,k⟩:=h;O⟨⟨rv,δ1⟩,e1,e2⟩:=aa.mp e;R⟨F,δ,own,rv,δ1,s,e1,λv H1 F1 own1 sH sF s1 r1=>?_⟩;dsimp only at e2;split at e2
 ·C e2;O⟨ns,t⟩:=r1;cases J3 t.sh;E⟨_,rfl,k H1 F1 own1 sH sF s1⟩
 ·C e2
НslF(g:D->Б Int->Б Int->Б SV)(fe:FE)(fl fh:FO):FE:=λδ=>(fe δ).bind λp=>(fl p.2).bind λl=>(fh l.2).bind λh=>(Pe p.1 h.2).bind λd=>(g d l.1 h.1).bind λsv=>aA (.tmp sv,h.2)
МZmm(Z:Ent K)(r:V->Б Int->Б Int->Hp->VK->В)(g:D->Б Int->Б Int->Б SV):Prop:=
 ∀(F H:Hp) (σ:L2.St) (δ:Yq) (own:Г->Zs) (x:V) (d:D) (lo hi:Б Int) (sv:SV) (Q:VK),SR Z F H σ δ own->Yd K F H d x->g d lo hi=aA sv->Fin Z F H σ δ own sv Q->r x lo hi H Q
ЛZxo{r:V->Б Int->Б Int->Hp->VK->В}{g:D->Б Int->Б Int->Б SV}{fe:FE}{fl fh:FO}(hg:Zmm Z r g)(h:Ze Z (slF g fe fl fh) σ H Q):tSl r (Ze Z fe) (Ld Z fl) (Ld Z fh) σ H Q:=by
 O⟨F,δ,own,rv,δ',s,e,k⟩:=h;O⟨⟨rv1,δ1⟩,e1,e⟩:=aa.mp e;O⟨⟨lo,δ2⟩,e2,e⟩:=aa.mp e;O⟨⟨hi,δ3⟩,e3,e⟩:=aa.mp e;O⟨d,e4,e⟩:=aa.mp e;O⟨sv,e5,e⟩:=aa.mp e;C e;R⟨F,δ,own,rv1,δ1,s,e1,λv H1 F1 own1 sH1 sF1 s1 r1=>?_⟩;O⟨F1',sF1',s1',r1'⟩:=s1.settleR r1;R⟨F1',δ1,own1,lo,δ2,s1',e2,λH2 F2 own2 sH2 sF2 s2=>⟨F2,δ2,own2,hi,δ3,s2,e3,λH3 F3 own3 sH3 sF3 s3=>?_⟩⟩;E hg F3 H3 σ δ3 own3 v d lo hi sv Q s3 (s3.rd (r1'.mono (sF2.trans sF3)) e4) e5 λq H4 F4 ns sH4 sF4 s4 t4=>
  k q H4 F4 own3 (sH1.trans (sH2.trans (sH3.trans sH4))) (sF1.trans (sF1'.trans (sF2.trans (sF3.trans sF4)))) s4 ⟨ns,t4⟩
end
МPj(xs:А D)(lo hi:Б Int):А D:=(xs.drop (HT.sIx xs.length 0 lo)).take (HT.sIx xs.length xs.length hi- HT.sIx xs.length 0 lo)
ЛReps.cut{F:Hp}{xs:А D}{vs:А V}(r:Reps K F xs vs)(lo hi:Б Int):Reps K F (Pj xs lo hi) (Hh vs lo hi):=by unfold Pj Hh;rw[r.length];E(r.drop _).take _
МZsp:V->Б Int->Б Int->Hp->VK->Prop:=λx lo hi H Q=>∃z,x= .str z/\z.length<=bg/\Q (.str (Txt.slice z lo hi)) H
ЛZov{X:Cx}:SlR X Zsp:=by
 intro pins s σ H x v vl vu lo hi sl Q I rx hs pl pu h;O⟨z,rfl,hz,q⟩:=h;O⟨t,rfl⟩:=rx;R⟨"str",_,F.slot_str_getitem.lookup,typeIs_str _ _ _,?_⟩;V fin:∀(t':Tok) (k:Г),EP X pins σ Q (.str (Txt.slice z lo hi) t') {s with toks:=k}:=λt' k=>⟨.str (Txt.slice z lo hi),H,I.tok _,⟨_,rfl⟩,q⟩
 cases pl with
 |none=>cases pu with
  |none=>E wpAny_getItem_str_slice (l:=aB) (u:=aB) (st:=aB) hs rfl (post_val_or_str ⟨du (Txt.slice_le z _ _) hz,fin⟩)
  |int j tj=>E wpAny_getItem_str_slice (l:=aB) (u:=aA (j,tj)) (st:=aB) hs rfl (post_val_or_str ⟨du (Txt.slice_le z _ _) hz,fin⟩)
 |int i ti=>cases pu with
  |none=>E wpAny_getItem_str_slice (l:=aA (i,ti)) (u:=aB) (st:=aB) hs rfl (post_val_or_str ⟨du (Txt.slice_le z _ _) hz,fin⟩)
  |int j tj=>E wpAny_getItem_str_slice (l:=aA (i,ti)) (u:=aA (j,tj)) (st:=aB) hs rfl (post_val_or_str ⟨du (Txt.slice_le z _ _) hz,fin⟩)
НslD:D->Б Int->Б Int->Б SV
 | .lst xs,lo,hi=>aA (.ol (Pj xs lo hi))
 | .str z,lo,hi=>if z.length<=bg then aA (.fz (.str (Txt.slice z lo hi)))else aB
 |_,_,_=>aB
ЛZxp:Zmm Z (λx lo hi H Q=>Zrr K x lo hi H Q\/Zsp x lo hi H Q) slD:=by
 intro F H σ δ own x d lo hi sv Q s r1 e k;unfold slD at e;split at e
 ·C e;O⟨a,vs,ex,ha,ra⟩:=r1.lst s.le;E .inl ⟨a,vs,ex,ha,λp hp=>k.lst s (ra.cut _ _) hp⟩
 ·split at e
  ·rename_i hz;C e;E .inr ⟨_,r1.str,hz,k.fz s (.str _)⟩
  ·C e
 ·C e
end DL
namespace L2
open PySem PySem.Spec PyProof.Rows
section
variable{X:Cx}{tg:c5}
МIte(K:af)(a:aq):It:=
 ⟨λi H=>∃xs x,W8 K H a xs/\xs[i]? =aA x,λi H x H'=>∃p v,x= .ref p/\H p=aB/\H'=Ya H p (.tup [.int (i:Г),v])/\∀xs,W8 K H a xs->xs[i]? =aA v,λi H=>∃xs,W8 K H a xs/\xs.length<=i⟩
ЛInv.turnedT{pins:А (aq×Obj)}{σ:L2.St}{H:Hp}{s:ao}{h':eh}{t':Г}{e it T:aq}{xs:А V}{its:А am}(I:Inv X pins σ H s)(k:∀b o,b≠e->b≠it->s.heap.get? b=aA o->h'.get? b=aA o)
  (f1:Uj X pins H e) (f2:Uj X pins H it) (hT:T=s.heap.objs.size) (ht:IsTup h' T its.toArray) (rv:Z3 xs its) (hz:xs.length<=sizeLine) (he:∃o,h'.get? e=aA o) (hi:∃o,h'.get? it=aA o):
  Inv X pins σ (Ya H T (.tup xs)) {s with heap:=h',toks:=t'}:=by
 V hTn:H T=aB:=by rw[hT];E I.hok.fresh (a6 _)
 V neT:∀b o,s.heap.get? b=aA o->b≠T:=λb o q=>by rw[hT];E cj (bh q)
 V ntr:∀b u,H b=aA u->b≠e/\b≠it:=λb u q=>⟨(λz=>by rw[z,f1.1]at q;C q),(λz=>by rw[z,f2.1]at q;C q)⟩
 R I.step (g':=s.gens) (d':=s.drawn) (ch:=[e,it]) (λb hb=>?_) (λb o _ _ hc q _=>k b o (λz=>hc (by simp[z])) (λz=>hc (by simp[z])) q)
  (λb o _ _ hc q _=>⟨o.slots,k b o (λz=>hc (by simp[z])) (λz=>hc (by simp[z])) q⟩) (λb o _ q n=>by rw[Zw (neT b o q)];E n)
  (λb o hc q=>⟨o,k b o (λz=>hc (by simp[z])) (λz=>hc (by simp[z])) q⟩) (λb ys q=>by rw[Zw (Wc q hTn)];E q) (λb o u q=>by rw[Zw (Wc q hTn)];E q)
  (λb ps q=>⟨#[],by rw[Zw (Wc q hTn),q];simp⟩) (λm hm=>?_) (λb u q=>?_) I.bare
 ·V hb':b=e\/b=it:=by simpa using hb
  rcases hb' with z|z
  ·subst z;O⟨_,a1,_,a3,a4,a5⟩:=f1;E⟨a3,a1,a4,a5⟩
  ·subst z;O⟨_,a1,_,a3,a4,a5⟩:=f2;E⟨a3,a1,a4,a5⟩
 ·O⟨o,es,ep,ho,r⟩:=hm;E⟨o,es,ep,k _ o (Ne.symm f1.2.1) (Ne.symm f2.2.1) ho,r⟩
 ·by_cases hb:b=T
  ·subst hb;rw[Yt]at q;C q;E⟨hz,its,rv,ht⟩
  ·rw[Zw hb]at q;R(I.hok b u q).stay (λc v hc z=>?_) (λc z=>by rw[Zw (Wc z hTn)];E z) λc ys z=>by rw[Zw (Wc z hTn)];E z
   rcases hc with y|y
   ·rw[y]at z⊢;E k _ _ (ntr b u q).1 (ntr b u q).2 z
   ·E k _ _ (ntr c _ y).1 (ntr c _ y).2 z
ЛZc6{P:b5}{w:da}{K:af}{elts:А c5}{kk:Г}{tpos:Pos}(a e it:aq)(hei:e≠it):Turn P w K (.Tuple elts kk tpos) (Ite K a) [e,it] e (λi h=>(∃old,IsEnum h e it ((i:Г):Int) old)/\h.IsListIter it a i)where
 mem:=by simp
 obj:=λi h st b hb=>by
  V hb':b=e\/b=it:=by simpa using hb
  rcases hb' with z|z
  ·subst z;O⟨old,q⟩:=st.1;E⟨_,q,λv y=>by
    V y':Data.fields _=Data.cell v:=y;C y'⟩
  ·subst z;O⟨o,q,c,d⟩:=st.2;E⟨o,q,λv y=>by rw[d]at y;C y⟩
 keep:=λi h h' st k=>⟨let⟨old,q⟩:=st.1;⟨old,k e К _ q⟩,st.2.at λo q=>k it К o q⟩
 item:=by
  intro X hP hw hK hc i pins s σ H E I hf st hg;subst hP hw hK;O⟨xs,x,hq,hx⟩:=hg;O⟨its,rv,p,hz⟩:=I.list hq;O⟨u,hu,ru⟩:=rv.get hx;O⟨⟨old,he⟩,hit⟩:=st;V hl:s.heap.IsList a its.toArray:=p.isList;V ai:a≠it:=λz=>by O⟨o1,q1,c1,_⟩:=hit;O⟨o2,q2,c2,_⟩:=hl;rw[z,q1]at q2;C q2;rw[c1]at c2;E absurd c2 Й
  V ae:e∉[it,a]:=λz=>by
   V z':e=it\/e=a:=by simpa using z
   rcases z' with z|z
   ·E hei z
   ·O⟨o2,q2,c2,_⟩:=hl;rw[<-z,he]at q2;C q2;E absurd (show Value.type "enumerate"=Value.type "list"from c2) Й
  V D:=Draws.list (prog:=X.prog) (w:=X.w) (A:=X.A.in1) (by first|E I.ok.hd hc| (rw[show X.A.in1.handled=X.A.handled from rfl];E I.ok.hd hc)) it a ai its.toArray;V hlt:i<its.toArray.size:=by V :=(ay.mp hu).1;rw[bv];E this
  R wpAny_pyNext_enum_itemD D he ⟨hit,hl⟩ hlt hei ae λy h' tk hy hout st' hT hsz hk=>⟨.ref s.heap.objs.size,rfl,?_⟩
  R wpAny_letOwnedTupleGo_enum hout λh2 he2 hs2=>?_;V hy':its.toArray[i]? =aA y:=hy;V ey:y=u:=by
   V :its[i]? =aA y:=by simpa using hy'
   rw[hu]at this;C this;rfl
  subst ey;V kk:∀b o,b≠e->b≠it->s.heap.get? b=aA o->h2.get? b=aA o:=λb o h1 h3 q=>(hs2.2 b h1).trans (hk b o h1 h3 q);V neT:s.heap.objs.size≠e:=Nat.ne_of_gt (bh he);V I2:=I.turnedT (h':=h2) (t':=tk+1) (e:=e) (it:=it) (T:=s.heap.objs.size) (xs:=[.int (i:Г),x]) (its:=[.int i tk,y]) kk (hf e К) (hf it К) rfl ⟨_,(hs2.2 _ neT).trans hT,rfl,_,rfl⟩ (.cons ⟨tk,rfl⟩ (.cons ru .nil)) (by T 2<=sizeLine;decide)
   ⟨_,he2⟩ (let⟨o,q,_⟩:=st'.1;⟨o,(hs2.2 it (Ne.symm hei)).trans q⟩)
  R⟨.ref s.heap.objs.size,_,I2,rfl,⟨s.heap.objs.size,x,rfl,I.hok.fresh (a6 _),rfl,λys hy2=>by rw[I.list_inj hy2 hq];E hx⟩,⟨⟨_,he2⟩,st'.1.at λo q=>(hs2.2 it (Ne.symm hei)).trans q⟩,λb hb=>?_⟩;rw[Zw λz=>?_]
  ·E(hf b hb).1
  ·V hb':b=e\/b=it:=by simpa using hb
   rcases hb' with y|y
   ·rw[<-z,y]at neT;E neT rfl
   ·O⟨o,q,_⟩:=hit;rw[y]at z;E absurd (bh q) (by rw[z];E Nat.lt_irrefl _)
 done:=by intro X hP hw hK hc i pins s σ H E I hf st hg;subst hP hw hK;O⟨xs,hq,hx⟩:=hg;O⟨its,rv,p,hz⟩:=I.list hq;O⟨⟨old,he⟩,hit⟩:=st;O⟨f0,f1,f2,f3,f4,f5⟩:=hf it К;V hl:=rv.length;E wpAny_pyNext_enum_end (I.ok.hd hc) he hit p.isList (by simp;W) λh' eb=>⟨rfl,I.turned (t':=s.toks) (λb o hb q=>eb b o hb q) f0 f1 f3 f4 f5⟩
 self:=λ_ _ _ _ _ st h=>let⟨⟨old,he⟩,_⟩:=st;wpAny_pyIter_enum he h
МZmn(K:af)(ta:TA):TI:=λσ H R=>ta σ H λvs H1=>∃a xs,vs=[.ref a]/\W8 K H1 a xs/\R (Ite K a) H1
ЛZj4{l:c5}{elts:А c5}{kk:Г}{tpos p pos:Pos}{ta:TA}(hg:Gl X "enumerate")(hm:X.mg "enumerate"=aB)(ha:PA X [l] ta)(hs:bd [l] X.env=[(aD,gy l X.env)]:=by rfl):
  PI X (.Tuple elts kk tpos) (.Call (.Name "enumerate" p) [l] [] pos) (Zmn X.K ta):=by
 intro pins s σ H R I h;R Call_ (Bt I hg hm boot_enumerate (PyProof.Rows.callWith_type1 (Wv (ha pos pins s σ H _ I h) λus s1 ⟨vs,H1,I1,r1,q1⟩=>?_) hs rfl));O⟨a,xs,e,hq,q⟩:=q1;subst e;O⟨u,rfl,ru⟩:=Ul r1;C ru;O⟨its,rv,p,hz⟩:=I1.list hq;R call_enumerate_list p.isList λh' he hit hsz hk=>wpAny_pyIter_enum he ?_;V I2:Inv X pins σ H1 {s1 with heap:=h'}:=I1.kept (t':=s1.toks) hk;R⟨s1.heap.objs.size+1,[s1.heap.objs.size+1,s1.heap.objs.size],_,_,H1,rfl,I2,Zc6 a _ _ (Nat.succ_ne_self _),⟨⟨.none,by simpa using he⟩,hit⟩,λb hb=>?_,q⟩;V hb':b=s1.heap.objs.size+1\/b=s1.heap.objs.size:=by simpa using hb
 rcases hb' with z|z
 ·subst z;E I1.fpOk (Nat.le_succ _) (I1.hok.fresh (Nat.le_succ _))
 ·subst z;E I1.fpOk (a6 _) (I1.hok.fresh (a6 _))
МZz3(K:af):V->А V->Hp->VK->Prop:=λx xs H Q=>∃sep p ys,x= .str sep/\xs=[.ref p]/\W8 K H p (ys.map V.str)/\JoinOk sep ys=aC/\Q (.str (Txt.join sep ys)) H
inductive TyX(K:af)(H:Hp):V->String->В where
 |non:TyX K H .non "NoneType"
 |bl (x:Bool):TyX K H (.bl x) "bool"
 |int (i:Int):TyX K H (.int i) "int"
 |str (x:Str):TyX K H (.str x) "str"
 |lst {a:aq} {xs:А V} (e:W8 K H a xs):TyX K H (.ref a) "list"
 |tup {a:aq} {xs:А V} (e:Ov K H a xs):TyX K H (.ref a) "tuple"
 |dK {a:aq} {kvs:А (Key×V)} {ep:Г} (e:H a=aA (.dK kvs ep)):TyX K H (.ref a) "dict"
 |dT {a:aq} {kvs:А (А Key×V)} {ep:Г} {bs:А aq} (e:H a=aA (.dT kvs ep bs)):TyX K H (.ref a) "dict"
ЛZfr{pins:А (aq×Obj)}{σ:L2.St}{H:Hp}{s:ao}{A:dg}{E:am->ao->В}{Q:am->ao->В}{c:am}{b:Bool}{x:V}{u:am}{T:String}(I:Inv X pins σ H s)(rx:Zu x u)(ty:TyX X.K H x T)(e:PySem.W.kitOne X.K (.type T) c=aA b)(h:∀tk,Q (.bool b) {s with toks:=tk}):
  bc (b4 X.prog X.w) A (call (.builtin "isinstance") [u,c]) Q E s:=by
 cases ty with
 |non=>cases(show u=cm from rx);E PySem.W.kia_one PySem.W.kitx_none I.kIn True.intro e (λz=>nomatch z) h
 |bl y=>cases(show u=Value.bool y from rx);E PySem.W.kia_one PySem.W.kitx_bool I.kIn True.intro e (λz=>nomatch z) h
 |int i=>O⟨t,q⟩:=(show∃t,u=Value.int i t from rx);C q;E PySem.W.kia_one PySem.W.kitx_int I.kIn True.intro e (λz=>nomatch z) h
 |str y=>O⟨t,q⟩:=(show∃t,u=Value.str y t from rx);C q;E PySem.W.kia_one PySem.W.kitx_str I.kIn True.intro e (λz=>nomatch z) h
 | @lst a xs ea=>cases(show u=bz a from rx);O⟨its,_,pl,_⟩:=I.list ea;O⟨o,h1,h2,_⟩:=pl.isList;E PySem.W.kia_one PySem.W.kitx_list I.kIn ⟨o,h1,h2⟩ e (λz=>nomatch z) h
 | @tup a xs ea=>cases(show u=bz a from rx);O⟨its,_,pl,_⟩:=I.tuple ea;O⟨o,h1,h2,_⟩:=pl;E PySem.W.kia_one PySem.W.kitx_tuple I.kIn ⟨o,h1,h2⟩ e (λz=>nomatch z) h
 | @dK a kvs ep ea=>
  cases(show u=bz a from rx);O⟨_,_,vs,_,p⟩:=(show Yc X.prog X.w H s.heap a (.dK kvs ep)from I.hok a _ ea)
  O⟨o,es,h1,h2,_⟩:=p;E PySem.W.kia_one PySem.W.kitx_dict I.kIn ⟨o,h1,h2.1⟩ e (λz=>nomatch z) h
 | @dT a kvs ep bs ea=>
  cases(show u=bz a from rx);O⟨_,_,xs,_,o,es,h1,h2,_⟩:=(show Yc X.prog X.w H s.heap a (.dT kvs ep bs)from I.hok a _ ea)
  E PySem.W.kia_one PySem.W.kitx_dict I.kIn ⟨o,h1,h2.1⟩ e (λz=>nomatch z) h
МZsq(K:af)(c:String):А V->Hp->VK->Prop:=λxs H Q=>∃x t b,xs=[x,.ty c]/\TyX K H x t/\PySem.W.kitOne K (.type t) (.type c)=aA b/\Q (.bl b) H
ЛZfs{c:String}:Q6 X (.builtin "isinstance") (Zsq X.K c):=by intro pins s σ H xs us Q I r h;O⟨x,t,b,rfl,ty,e,q⟩:=h;O⟨u,w',rfl,r1,r2⟩:=Zl5 r;C r2;E Zfr I r1 ty e λtk=>⟨.bl b,H,I.tok _,rfl,q⟩
end
end L2
namespace DL
open PySem PySem.Spec PyProof.Rows L2
variable{K:af}
МQ7(xs:А D):А D:=xs.zipIdx.map λp=>.tup [.int (p.2:Г),p.1]
ЛLe{xs:А D}{i:Г}{d:D}(h:(Q7 xs)[i]? =aA d):∃x,xs[i]? =aA x/\d= .tup [.int (i:Г),x]:=by
 unfold Q7 at h;rw[a9,List.getElem?_zipIdx]at h;cases e:xs[i]? with
 |none=>rw[e]at h;C h
 |some x=>rw[e]at h;C h;E⟨x,rfl,by simp⟩
ЛLf(xs:А D):(Q7 xs).length=xs.length:=by unfold Q7;rw[aj,List.length_zipIdx]
ЛVj{F:Hp}{a:aq}{xs:А D}{vs:А V}(h:W8 K F a vs)(r:Reps K F xs vs):U7 K (Ite K a) F (Q7 xs):=λF' H sF sH i=>by
 V q:W8 K H a vs:=Wd (sF.trans sH) h;R⟨λd hd=>?_,λhl=>⟨vs,q,by rw[<-r.length,<-Lf];E hl⟩⟩;O⟨x,hx,rfl⟩:=Le hd;O⟨v,h1,h2⟩:=r.get hx;R⟨⟨vs,v,q,h1⟩,λy H' zq9=>?_⟩;O⟨p,w,e1,e2,e3,e4⟩:=zq9;subst e1 e3;V e5:=e4 vs q;rw[h1]at e5;C e5;V hp:F' p=aB:=sH.free e2;V sm:Zi F' (Ut F' [(p,.tup [.int (i:Г),v])]):=Qw λz hz=>by obtain rfl:=au.mp hz;E hp
 R⟨J2 e2,[(p,.tup [.int (i:Г),v])],K9,λz hz=>?_,.tup Yt (.cons (.int _) (.cons (h2.mono (sF.trans sm)) .nil))⟩;obtain rfl:=au.mp hz;E⟨e2,Yt⟩
section
variable{Z:Ent K}{H:Hp}{σ:L2.St}{Q:VK}
НZmo(fd:FD):FD:=λδ=>(fd δ).bind λp=>match p.1 with
 | [.lst xs]=>aA (Q7 xs,p.2)
 |_=>aB
ЛZj5{fd:FD}{R:It->Hp->В}(h:Qf Z (Zmo fd) σ H R):Zmn K (W0 Z fd) σ H R:=by
 O⟨F,δ,own,ds,δ',s,e,k⟩:=h;O⟨⟨ds1,δ1⟩,e1,e2⟩:=aa.mp e;R⟨F,δ,own,ds1,δ1,s,e1,λvs H1 F1 own1 sH sF s1 r1=>?_⟩;dsimp only at e2;split at e2
 ·rename_i xs;C e2;cases r1 with
  |cons h t=>
   C t;cases h with
   |lst h _ r=>E⟨_,_,rfl,Wd s1.le h,k _ H1 F1 own1 sH sF s1 (Vj h r)⟩
 ·C e2
НD.ty:D->String
 | .str _=>"str"
 | .int _=>"int"
 | .lst _=>"list"
 | .dK _ _=>"dict"
 | .dT _ _=>"dict"
 |_=>"?"
НZft(T:String)(d:D):Bool:=T==d.ty&&(T=="str" ||T=="list" ||T=="dict")
ЛZsr{F H:Hp}{d:D}{x:V}{T:String}(le:Zi F H)(r:Yd K F H d x)(h:Zft T d=aC):tyV K T x H:=by
 unfold Zft at h;simp only[Bool.and_eq_true,beq_iff_eq]at h;O⟨h1,h2⟩:=h;subst h1;cases d with
 |str y=>rw[r.str];rfl
 |lst xs=>O⟨a,vs,e,ha,_⟩:=r.lst le;subst e;E .inl ⟨rfl,vs,ha⟩
 |dK ks vs=>O⟨a,kvs,e,⟨ep,ha⟩,_⟩:=r.dK le;subst e;E .inr (.inr (.inl ⟨rfl,.inl ⟨kvs,ep,ha⟩⟩))
 |dT ks vs=>O⟨a,kvs,e,⟨ep,bs,ha⟩,_⟩:=r.dT le;subst e;E .inr (.inr (.inl ⟨rfl,.inr ⟨kvs,ep,bs,ha⟩⟩))
 |non=>E absurd (show("?"=="str" || "?"=="list" || "?"=="dict")=aC from h2) Й
 |bl b=>E absurd (show("?"=="str" || "?"=="list" || "?"=="dict")=aC from h2) Й
 |int i=>E absurd (show("int"=="str" || "int"=="list" || "int"=="dict")=aC from h2) Й
 |tup xs=>E absurd (show("?"=="str" || "?"=="list" || "?"=="dict")=aC from h2) Й
 |exc C ks vs=>E absurd (show("?"=="str" || "?"=="list" || "?"=="dict")=aC from h2) Й
 |dX ks vs=>E absurd (show("?"=="str" || "?"=="list" || "?"=="dict")=aC from h2) Й
НbmF(T:String)(g:А D->Б SV)(fo:FE)(fa:FA):FE:=λδ=>(fo δ).bind λp=>(Pe p.1 p.2).bind λd0=>if Zft T d0=aC then(fa p.2).bind λq=>(Oy (p.1::q.1) q.2).bind λds=>(g ds).bind λsv=>aA (.tmp sv,q.2)else aB
МZz4(Z:Ent K)(r:V->А V->Hp->VK->В)(g:А D->Б SV):Prop:=U6 Z (λvs H Q=>∃x xs,vs=x::xs/\r x xs H Q) g
end
Нstrs?:А D->Б (А Str)
 | []=>aA []
 | .str x::r=>(strs? r).bind λt=>aA (x::t)
 |_=>aB
НZz5:А D->Б SV
 | [.str sep,.lst xs]=>(strs? xs).bind λys=>if JoinOk sep ys=aC then aA (.fz (.str (Txt.join sep ys)))else aB
 |_=>aB
variable{Z:Ent K}
НD.pyTy:D->String
 | .non=>"NoneType"
 | .bl _=>"bool"
 | .int _=>"int"
 | .str _=>"str"
 | .tup _=>"tuple"
 | .lst _=>"list"
 | .dK _ _=>"dict"
 | .dT _ _=>"dict"
 | .dX _ _=>"?"
 | .exc _ _ _=>"?"
НD.isExc:D->Bool
 | .exc _ _ _=>aC
 | .dX _ _=>aC
 |_=>aD
ЛZj6{F H:Hp}{d:D}{x:V}(le:Zi F H)(r:Yd K F H d x)(hx:d.isExc=aD):TyX K H x d.pyTy:=by
 cases d with
 |exc C ks vs=>C hx
 |dX ks vs=>C hx
 |non=>rw[r.non];E .non
 |bl b=>rw[r.bl];E .bl b
 |int i=>rw[r.int];E .int i
 |str y=>rw[r.str];E .str y
 |tup xs=>O⟨a,vs,e,ha,_⟩:=r.tup le;subst e;E .tup ha
 |lst xs=>O⟨a,vs,e,ha,_⟩:=r.lst le;subst e;E .lst ha
 |dK ks vs=>O⟨a,kvs,e,⟨ep,ha⟩,_⟩:=r.dK le;subst e;E .dK ha
 |dT ks vs=>O⟨a,kvs,e,⟨ep,bs,ha⟩,_⟩:=r.dT le;subst e;E .dT ha
НZj7(c:String)(d:D):Б SV:=if d.isExc=aC then aB else aA (.fz (.bl (d.pyTy==c|| (c=="int" &&d.pyTy=="bool"))))
ЛZss{c:String}(hk:∀d:D,d.isExc=aD->PySem.W.kitOne K (.type d.pyTy) (.type c)=aA (d.pyTy==c|| (c=="int" &&d.pyTy=="bool"))):Zmg Z (λx H Q=>Zsq K c [x,.ty c] H Q) (Zj7 c):=by
 intro F H σ δ own x d sv Q s r e k;unfold Zj7 at e;split at e
 ·C e
 ·rename_i hx;C e;V hx':d.isExc=aD:=by cases z:d.isExc with
   |true=>E absurd z hx
   |false=>rfl
  E⟨x,_,_,rfl,Zj6 s.le r hx',hk d hx',k.fz s (.bl _)⟩
НFz:А D->Б SV
 | [.lst xs]=>aA (.fz (.int (xs.length:Г)))
 | [.tup xs]=>aA (.fz (.int (xs.length:Г)))
 | [.str x]=>if x.length<=bg then aA (.fz (.int (x.length:Г)))else aB
 |_=>aB
ЛZst:U6 Z (λxs H Q=>(∃p ys,xs=[V.ref p]/\(W8 K H p ys\/Ov K H p ys)/\Q (.int ys.length) H)\/(∃z,xs=[V.str z]/\z.length<=bg/\Q (.int z.length) H)) Fz:=by
 intro F H σ δ own vs ds sv Q s r e k;unfold Fz at e;split at e
 ·C e;cases r with
  |cons h t=>C t;O⟨a,us,ex,ha,ra⟩:=h.lst s.le;subst ex;E .inl ⟨a,us,rfl,.inl ha,by rw[<-ra.length];E k.fz s (.int _)⟩
 ·C e;cases r with
  |cons h t=>C t;O⟨a,us,ex,ha,ra⟩:=h.tup s.le;subst ex;E .inl ⟨a,us,rfl,.inr ha,by rw[<-ra.length];E k.fz s (.int _)⟩
 ·split at e
  ·rename_i hz;C e;cases r with
   |cons h t=>C t;E .inr ⟨_,by rw[h.str],hz,k.fz s (.int _)⟩
  ·C e
 ·C e
НZz6:А D->Б SV
 | [.lst xs]=>aA (.ol xs)
 | [.tup xs]=>aA (.ol xs)
 |_=>aB
НEv:А D->Б SV
 | [.lst xs]=>aA (.fz (.tup xs))
 |_=>aB
ЛZj8:U6 Z (λxs H Q=>∃p ys,xs=[V.ref p]/\((W8 K H p ys/\∀l,H l=aB->Q (.ref l) (Ya H l (.tup ys)))\/(Ov K H p ys/\Q (.ref p) H))) Ev:=by
 intro F H σ δ own vs ds sv Q s r e k;unfold Ev at e;split at e
 ·C e;cases r with
  |cons h t=>C t;O⟨a,us,ex,ha,ra⟩:=h.lst s.le;subst ex;E⟨a,us,rfl,.inl ⟨ha,λl hl=>k.tup s ra hl⟩⟩
 ·C e
НZfu:А D->Б SV
 | [.int i]=>aA (.fz (.int i))
 | [.bl b]=>aA (.fz (.int (if b then 1 else 0)))
 |_=>aB
ЛZsu:U6 Z (λxs H Q=>(∃i,xs=[V.int i]/\Q (.int i) H)\/∃k,xs=[V.bl k]/\Q (.int (if k then 1 else 0)) H) Zfu:=by
 intro F H σ δ own vs ds sv Q s r e k;unfold Zfu at e;split at e
 ·C e;cases r with
  |cons h t=>C t;E .inl ⟨_,by rw[h.int],k.fz s (.int _)⟩
 ·C e;cases r with
  |cons h t=>C t;E .inr ⟨_,by rw[h.bl],k.fz s (.int _)⟩
 ·C e
section
variable{X:Cx}{Z:Ent X.K}{a b c:c5}{fa fb fc:FE}{pos:Pos}
ЛZb(i:Г){x:Str}{pos:Pos}(hN:X.N[i]? =aA x:=by rfl)(hv:Vis X.env.scope x:=by first|E Or.inl rfl|E Or.inr (Or.inl rfl)|E Or.inr (Or.inr rfl))(hd:(x==("__debug__":Str))=aD:=by decide)
  (hcd:(x==("__classdict__":Str))=aD:=by decide):PE X (.Name x pos) (Ze Z (Za i)):=(Ba hN hv hd hcd).imp λ_ _ _ h=>Zr1 h
ЛZy{i:Int}{j:Г}:PE X (.Constant (.int i) j pos) (Ze Z (Zh (.int i))):=Znt.imp λ_ _ _ h=>Pf (λ_=>.int _) h
ЛKa{i:Bool}{j:Г}:PE X (.Constant (.bool i) j pos) (Ze Z (Zh (.bl i))):=Zqz.imp λ_ _ _ h=>Pf (λ_=>.bl _) h
ЛCu{i:Str}{j:Г}:PE X (.Constant (.str i) j pos) (Ze Z (Zh (.str i))):=Zek.imp λ_ _ _ h=>Pf (λ_=>.str _) h
ЛZas{op:Operator}{r:R2}{g:D->D->Б SV}(ho:Cw X (binaryOp op) r)(hp:Y8 Z r g)(ha:PE X a (Ze Z fa))(hb:PE X b (Ze Z fb)):PE X (.BinOp a op b pos) (Ze Z (Zo g fa fb)):=(Zre ho ha hb).imp λ_ _ _ h=>La hp h
ЛQx(ha:PE X a (Ze Z fa))(hb:PE X b (Ze Z fb)):PE X (.BinOp a .Add b pos) (Ze Z (Zo Ob fa fb)):=Zas Zj3 Zsm ha hb
ЛPk(ha:PE X a (Ze Z fa))(hb:PE X b (Ze Z fb)):PE X (.BinOp a .FloorDiv b pos) (Ze Z (Zo Lc fa fb)):=Zas Zjc Zot ha hb
ЛUa(ha:PE X a (Ze Z fa))(hb:PE X b (Ze Z fb)):PE X (.BinOp a .Mod b pos) (Ze Z (Zo B1 fa fb)):=Zas Zn8 Zsl ha hb
ЛZmp{op:CmpOp}{r:R2}{g:D->D->Б SV}(ho:Cw X (gz op) r)(hp:Y8 Z r g)(ha:PE X a (Ze Z fa))(hb:PE X b (Ze Z fb))(hm:behindInMarks op b=aD):PE X (.Compare a [op] [b] pos) (Ze Z (Zo g fa fb)):=(Zjd ho ha hb hm).imp λ_ _ _ h=>La hp h
ЛEw{op:CmpOp}{r:R2}{g:D->D->Б SV}(ho:Cw X (gz op) r)(hp:Y8 Z r g)(ha:PE X a (Ze Z fa))(hb:PE X b (Ze Z fb))(hm:behindInMarks op b=aD):PT X (.Compare a [op] [b] pos) (Yn Z (Yw (Zo g fa fb))):=
 (Zje ho ha hb hm).imp λσ H Q h=>by O⟨F,δ,own,rv,δ',s,e,k⟩:=Hm h;E La hp ⟨F,δ,own,rv,δ',s,e,k⟩
ЛZxr(ha:PE X a (Ze Z fa))(hb:PE X b (Ze Z fb)):PT X (.Compare a [.Lt] [b] pos) (Yn Z (Yw (Zo U2 fa fb))):=Ew Zri Zxf ha hb (Ej _)
ЛZsv(ha:PE X a (Ze Z fa))(hb:PE X b (Ze Z fb)):PT X (.Compare a [.Gt] [b] pos) (Yn Z (Yw (Zo gtD fa fb))):=Ew Zrj Zxg ha hb (Ej _)
ЛZow{f:FT}(ha:PT X a (Yn Z f)):PW X (.BoolOp .And [a] pos) (Yn Z f):=Zi5 ha
ЛZfv{f:FT}(ha:PT X a (Yn Z f)):PW X (.BoolOp .Or [a] pos) (Yn Z f):=Znv ha
ЛZsw{f g:FT}{rest:А c5}(ha:PT X a (Yn Z f))(hb:PW X (.BoolOp .And (b::rest) pos) (Yn Z g)):PW X (.BoolOp .And (a::b::rest) pos) (Yn Z (Zon f g)):=(Znw ha hb).imp λ_ _ _ h=>Zr4 h
ЛZj9{f g:FT}{rest:А c5}(ha:PT X a (Yn Z f))(hb:PW X (.BoolOp .Or (b::rest) pos) (Yn Z g)):PW X (.BoolOp .Or (a::b::rest) pos) (Yn Z (orF f g)):=(Zq3 ha hb).imp λ_ _ _ h=>Zxa h
ЛZmq{f:FT}(ha:PT X a (Yn Z f)):PT X (.UnaryOp .Not a pos) (Yn Z (Zjx f)):=(Znx ha).imp λ_ _ _ h=>Zr5 h
ЛZat(h:PE X a (Ze Z fa))(he:∀whole,isTrue a X.env whole=(do let v<-whole;standAt a.pos;holding [v] (truthy v)):=by intro _;rfl):PT X a (Yn Z (Yw fa)):=(Znu h he).imp λ_ _ _ h=>Zjw h
ЛZsx{op:BoolOp}(h:PE X a (Ze Z fa)):PE X (.BoolOp op [a] pos) (Ze Z fa):=Zny h
ЛZxs{rest:А c5}(ha:PE X a (Ze Z fa))(hb:PE X (.BoolOp .Or (b::rest) pos) (Ze Z fb)):PE X (.BoolOp .Or (a::b::rest) pos) (Ze Z (orV fa fb)):=(Zq5 ha hb).imp λ_ _ _ h=>Zr7 h
ЛYo:PA X [] (Cr Z Zj):=Bv.imp λ_ _ _ h=>Zfj h
ЛZm{es:А c5}{fr:FA}(ha:PE X a (Ze Z fa))(hr:PA X es (Cr Z fr))(hs:bd (a::es) X.env=(aD,gy a X.env)::bd es X.env:=by rfl):PA X (a::es) (Cr Z (Zc fa fr)):=(Uq ha hr hs).imp λ_ _ _ h=>Zc4 h
ЛZ7:PA X [] (W0 Z Zn):=Bv.imp λ_ _ _ h=>Lb h
ЛZt{es:А c5}{fr:FD}(ha:PE X a (Ze Z fa))(hr:PA X es (W0 Z fr))(hs:bd (a::es) X.env=(aD,gy a X.env)::bd es X.env:=by rfl):PA X (a::es) (W0 Z (Zg fa fr)):=(Uq ha hr hs).imp λ_ _ _ h=>Et h
ЛOc{es:А c5}{fd:FD}{k:Г}(h:PA X es (W0 Z fd)):PE X (.Tuple es k pos) (Ze Z (tupF fd)):=(Zoa h).imp λ_ _ _ h=>Zr2 h
ЛWu{es:А c5}{fd:FD}(h:PA X es (W0 Z fd)):PE X (.List es pos) (Ze Z (Jj fd)):=(He h).imp λ_ _ _ h=>Zr3 h
ЛZfw(ha:PE X a (Ze Z fa)):PO X (aA a) (Ld Z (Zar fa)):=λpins s σ H Q I h=>Zjg ha pins s σ H Q I (Zou h)
ЛZxt{lo hi:Б c5}{fl fh:FO}{p2:Pos}(ha:PE X a (Ze Z fa))(hl:PO X lo (Ld Z fl))(hh:PO X hi (Ld Z fh)):PE X (.Subscript a (.Slice lo hi aB p2) pos) (Ze Z (slF slD fa fl fh)):=
 (Zex (Zjl.or Zov) ha hl hh).imp λ_ _ _ h=>Zxo Zxp h
ЛYp{k n:Г}{f:aq}{fd:cr}{ps:А Str}{g:А D->Б SV}{x:Str}{p:Pos}{es:А c5}{fr:FA}(F:FnOk X.prog X.w X.K X.mg X.base Us k f fd ps (Y6 X.K n g))(hr:Room k X.A)(hm:X.mg x=aA (.ref f))(hk:bn X.K (.ref f)=aC)(hb:Wq X.K fd ps [])
  (ha:PA X (a::es) (Cr Z fr)) (hg:Gl X x:=by rfl) (hdb:(x==("__debug__":Str))=aD:=by decide) (he:bd (a::es) X.env=(aD,gy a X.env)::bd es X.env:=by rfl) (hpl:(gx pos (bd es X.env)).any (·.1)=aD:=by rfl):
  PE X (.Call (.Name x p) (a::es) [] pos) (Ze Z (Yx n g fr)):=(Zjf F hr hg hm hk hb .nil Zry ha hdb he hpl).imp λ_ _ _ h=>Zom h
ЛAn{id:String}{r:А V->Hp->VK->В}{g:А D->Б SV}{x:Str}{p:Pos}{es:А c5}{fr:FA}(hc:Q6 X (.builtin id) r)(hp:U6 Z r g)(hm:X.mg x=aB)(hv:bootBuiltins x=aA (.builtin id))(ha:PA X (a::es) (Cr Z fr))(hg:Gl X x:=by rfl)(hn:x≠"__name__":=by decide)(hdb:(x==("__debug__":Str))=aD:=by decide)
  (he:bd (a::es) X.env=(aD,gy a X.env)::bd es X.env:=by rfl) (hpl:(gx pos (bd es X.env)).any (·.1)=aD:=by rfl):PE X (.Call (.Name x p) (a::es) [] pos) (Ze Z (Yf g fr)):=(S6 hc hg hm hv ha hn hdb he hpl).imp λ_ _ _ h=>Pg hp h
ЛMd{T:String}{r:А V->Hp->VK->В}{g:А D->Б SV}{x:Str}{p:Pos}{es:А c5}{fr:FA}(hc:Q6 X (.type T) r)(hp:U6 Z r g)(hm:X.mg x=aB)(hv:bootBuiltins x=aA (.type T))(ha:PA X (a::es) (Cr Z fr))(hg:Gl X x:=by rfl)(hn:x≠"__name__":=by decide)(hdb:(x==("__debug__":Str))=aD:=by decide)
  (he:bd (a::es) X.env=(aD,gy a X.env)::bd es X.env:=by rfl) (hpl:(gx pos (bd es X.env)).any (·.1)=aD:=by rfl):PE X (.Call (.Name x p) (a::es) [] pos) (Ze Z (Yf g fr)):=(Zcx hc hg hm hv ha hn hdb he hpl).imp λ_ _ _ h=>Pg hp h
ЛEx{p:Pos}(hm:X.mg "len"=aB)(ha:PE X a (Ze Z fa))(hg:Gl X "len":=by rfl)(he:bd [a] X.env=(aD,gy a X.env)::bd [] X.env:=by rfl)(hpl:(gx pos (bd [] X.env)).any (·.1)=aD:=by rfl):PE X (.Call (.Name "len" p) [a] [] pos) (Ze Z (Yf Fz (Zc fa Zj))):=
 An (N8.or N9) Zst hm PySem.boot_len (Zm ha Yo he) hg Й Й he hpl
ЛZau{p:Pos}(hm:X.mg "tuple"=aB)(ha:PE X a (Ze Z fa))(hg:Gl X "tuple":=by rfl)(he:bd [a] X.env=(aD,gy a X.env)::bd [] X.env:=by rfl)(hpl:(gx pos (bd [] X.env)).any (·.1)=aD:=by rfl):PE X (.Call (.Name "tuple" p) [a] [] pos) (Ze Z (Yf Ev (Zc fa Zj))):=
 Md Fw Zj8 hm boot_tuple (Zm ha Yo he) hg Й Й he hpl
ЛZfx{p:Pos}(hm:X.mg "int"=aB)(ha:PE X a (Ze Z fa))(hg:Gl X "int":=by rfl)(he:bd [a] X.env=(aD,gy a X.env)::bd [] X.env:=by rfl)(hpl:(gx pos (bd [] X.env)).any (·.1)=aD:=by rfl):PE X (.Call (.Name "int" p) [a] [] pos) (Ze Z (Yf Zfu (Zc fa Zj))):=
 Md Zcu Zsu hm boot_int (Zm ha Yo he) hg Й Й he hpl
ЛZsy{x:Str}{c:String}{p p2:Pos}(hm:X.mg "isinstance"=aB)(hmc:X.mg x=aB)(hv:bootBuiltins x=aA (.type c))(hk:∀d:D,d.isExc=aD->PySem.W.kitOne X.K (.type d.pyTy) (.type c)=aA (d.pyTy==c|| (c=="int" &&d.pyTy=="bool")))(ha:PE X a (Ze Z fa))(hg:Gl X "isinstance":=by rfl)(hgc:Gl X x:=by rfl)
  (hn:x≠"__name__":=by decide) (hdb:(x==("__debug__":Str))=aD:=by decide)
  (he:bd [a,.Name x p2] X.env=(aD,gy a X.env)::bd [.Name x p2] X.env:=by rfl) (he2:bd [.Name x p2] X.env=(aD,gy (.Name x p2) X.env)::bd [] X.env:=by rfl) (hpl:(gx pos (bd [.Name x p2] X.env)).any (·.1)=aD:=by rfl):
  PE X (.Call (.Name "isinstance" p) [a,.Name x p2] [] pos) (Ze Z (unF (Zj7 c) fa)):=
 (S6 Zfs hg hm boot_isinstance (Uq ha (Uq (Zi4 (v:=.ty c) hgc hmc hv rfl hn hdb) Bv he2) he) Й Й he hpl).imp λσ H Q h=>by V h2:=Zw9 (Zss hk) h;E h2
ЛZv(i:Г){x:Str}(hN:X.N.Nodup)(hi:X.N[i]? =aA x:=by rfl)(hx:Loc X.env.scope x:=by first|E Or.inl rfl|E Or.inr rfl)(hf:X.fn x=aC\/X.env.scope.names.lookup x=aA .local:=by first|E .inl rfl|E .inr rfl):PG X (.Name x pos) (Cs Z (Zd i)):=(Zi8 hN hi hx hf).imp λ_ _ _ _ h=>Zjy h
ЛB2:PGs X [] (C2 Z Wh):=Zi9.imp λ_ _ _ _ h=>Zop h
ЛY2{es:А c5}{g:FG}{r:FGs}(h1:PG X a (Cs Z g))(h2:PGs X es (C2 Z r))(hs:(assignEach (a::es) X.env).map (·.2)=assign a X.env::(assignEach es X.env).map (·.2):=by rfl):PGs X (a::es) (C2 Z (Zr g r)):=(Zeo h1 h2 hs).imp λ_ _ _ _ h=>Zjz h
ЛMe{es:А c5}{k n:Г}{g:FGs}(hc:X.calm=aC)(h:PGs X es (C2 Z g))(hn:(assignEach es X.env).length=n:=by rfl)(hst:(assignEach es X.env).findIdx? (·.1)=aB:=by rfl):PG X (.Tuple es k pos) (Cs Z (Wf n g)):=(Zn2 hc h hn hst).imp λ_ _ _ _ h=>Zoq h
ЛT6{tg:c5}{p:Pos}(hm:X.mg "range"=aB)(ha:PE X a (Ze Z fa))(hg:Gl X "range":=by rfl)(hs:bd [a] X.env=[(aD,gy a X.env)]:=by rfl):PI X tg (.Call (.Name "range" p) [a] [] pos) (Qf Z (Fy (Zc fa Zj))):=(Zcr hg hm (Zm ha Yo hs) hs).imp λ_ _ _ h=>Zor h
ЛWo{N':А Str}{scope:Scope}{src:А BSrc}(kind:scope.kind= .function)(nocell:(scope.names.all λy=>!(y.2== .cell))=aC)(names:(scope.names.all λy=>!(y.2== .local)|| (scope.names.lookup y.1==aA .local))=aC)
  (free:(scope.names.all λy=>!(y.2== .free)|| (X.env.kindOf y.1==aA .cell)|| (X.env.kindOf y.1==aA .free))=aC) (len:src.length=N'.length)
  (cap:((c8 src.length).all λk=>match src[k]?,N'[k]? with
   |some (.cap j),aA x=>(X.N[j]? ==aA x)&&((X.env.kindOf x==aA .cell)|| (X.env.kindOf x==aA .free))&&(scope.names.lookup x==aA .free)
   |some .acc,aA x=>scope.names.lookup x==aB
   |_,_=>aC)=aC):CompScope X N' scope src:=by
 V capk:∀(k:Г) (q:BSrc) (x:Str),src[k]? =aA q->N'[k]? =aA x->(match aA q,aA x with
   |some (.cap j),aA x=>(X.N[j]? ==aA x)&&((X.env.kindOf x==aA .cell)|| (X.env.kindOf x==aA .free))&&(scope.names.lookup x==aA .free)
   |some .acc,aA x=>scope.names.lookup x==aB
   |_,_=>aC)=aC:=λk q x h1 h2=>by
  V hk:k<src.length:=(ay.mp h1).1;V :=List.all_eq_true.mp cap k (cz.mpr hk);rw[h1,h2]at this;E this
 R⟨kind,λy hy e=>?_,λy hy e=>?_,λy hy e=>?_,len,λk j x h1 h2=>?_,λk x h1 h2=>?_⟩
 ·V :=List.all_eq_true.mp nocell y hy;rw[e]at this;C this
 ·V :=List.all_eq_true.mp names y hy;rw[e]at this;simpa using this
 ·V :=List.all_eq_true.mp free y hy;rw[e]at this;simpa using this
 ·V :=capk k (.cap j) x h1 h2;simp only[Bool.and_eq_true,Bool.or_eq_true,beq_iff_eq]at this;E⟨this.1.1,this.1.2,this.2⟩
 ·V :=capk k .acc x h1 h2;simpa using this
ЛC3{src:А BSrc}(k:Г)(acc:src[k]? =aA .acc)(uni:((c8 src.length).all λi=>match src[i]? with
   |some .acc=>i==k
   |_=>aC)=aC):SrcOk src k:=⟨acc,λi h=>by
  V hi:i<src.length:=(ay.mp h).1;V :=List.all_eq_true.mp uni i (cz.mpr hi);rw[h]at this;simpa using this⟩
ЛZfy(K:af):∀d:D,d.isExc=aD->PySem.W.kitOne K (.type d.pyTy) (.type "list")=aA (d.pyTy=="list" || ("list"=="int" &&d.pyTy=="bool")):=by intro d h;cases d<;> first| (C h;done)|with_unfolding_all rfl
Лxg{tg:c5}{g:FG}(h:∀Z:Ent X.K,PG X tg (Cs Z g)):PG X tg (xG X.K g):=λpins s σ H v u Q I r ⟨Z,q⟩=>h Z pins s σ H v u Q I r q
Лxe{e:c5}{f:FE}(h:∀Z:Ent X.K,PE X e (Ze Z f)):PE X e (xE X.K f):=λpins s σ H Q I ⟨Z,q⟩=>h Z pins s σ H Q I q
Лxt{e:c5}{f:FT}(h:∀Z:Ent X.K,PT X e (Yn Z f)):PTs X [e] (xT X.K f):=λpins s σ H Q I ⟨Z,q⟩=>Zjt (h Z) pins s σ H Q I q
Лxt0:PTs X [] (xT X.K W1):=λpins s σ H Q I ⟨Z,q⟩=>by O⟨F,δ,own,b,δ',sr,e,k⟩:=q;C e;E Zjs pins s σ H Q I (k H F own (Zi.refl H) (Zi.refl F) sr)
ЛB3{N':А Str}{scope:Scope}{src:А BSrc}{k:Г}{tg elt iter:c5}{ifs:А c5}{fi:FD}{g:FG}{tt:FT}{te:FE}(hc:X.calm=aC)(S:CompScope X N' scope src)(So:SrcOk src k)(hk:k∉g.tch)(hi:PI X tg iter (Qf Z fi))
  (hg:∀(C:aq) (s₀:ao) (H₀:Hp) (ex:А aq),PG (X.block N' scope C s₀ H₀ ex) tg (xG X.K g)) (ht:∀(C:aq) (s₀:ao) (H₀:Hp) (ex:А aq),PTs (X.block N' scope C s₀ H₀ ex) ifs (xT X.K tt)) (he:∀(C:aq) (s₀:ao) (H₀:Hp) (ex:А aq),PE (X.block N' scope C s₀ H₀ ex) elt (xE X.K te))
  (hs:∀x,foldedSetIterable iter X.env x=pure x:=by intro _;rfl):PE X (.ListComp elt [⟨tg,iter,ifs,0⟩] scope pos) (Ze Z (Uo src k fi g tt te)):=(Zju hc S hi hg ht he hs).imp λ_ _ _ h=>Zfo So hk h
ЛQ8:T0 X [] (Z8 Z Um):=Zi6.imp λ_ _ _ h=>Zoo h
ЛZf{st:Stmt}{rest:А Stmt}{f g:FS}(h1:PS X st (Z8 Z f))(h2:T0 X rest (Z8 Z g)):T0 X (st::rest) (Z8 Z (Z1 f g)):=(Zel h1 h2).imp λ_ _ _ h=>Zr8 h
ЛZq{st:Stmt}{f:FS}(h:PS X st (Z8 Z f)):T0 X [st] (Z8 Z f):=Zi7 h
МZxu:FS:=λ_=>aB
ЛWr(h:PE X a (Ze Z fa)):PS X (.Return (aA a) pos) (Z8 Z (Jf fa)):=(Zem h).imp λ_ _ _ h=>Zsb h
ЛMf{t:FT}{f g:FS}{bt be:А Stmt}(hc:PT X c (Yn Z t))(ha:T0 X bt (Z8 Z f))(hb:T0 X be (Z8 Z g)):PS X (.If c bt be pos) (Z8 Z (X3 t f g)):=(Zq7 hc ha hb).imp λ_ _ _ h=>Zr9 h
ЛZ9(i:Г){x:Str}{pos':Pos}(hN:X.N.Nodup)(he:PE X a (Ze Z fa))(hi:X.N[i]? =aA x:=by rfl)(hx:Loc X.env.scope x:=by first|E Or.inl rfl|E Or.inr rfl)(hs:swapsWith a (aA (.Name x pos')) pos.line X.env=pure aD:=by rfl)(hf:X.fn x=aC\/X.env.scope.names.lookup x=aA .local:=by first|E .inl rfl|E .inr rfl):
  PS X (.Assign [.Name x pos'] a pos) (Z8 Z (Yv i fa)):=(Zep hN hi hx he hs hf).imp λ_ _ _ h=>Zmh h
ЛLg(i:Г){N':А Str}{scope:Scope}{src:А BSrc}{k:Г}{tg elt iter:c5}{ifs:А c5}{fi:FD}{g:FG}{tt:FT}{te:FE}{y:Str}{py spos:Pos}(hc:X.calm=aC)(S:CompScope X N' scope src)(So:SrcOk src k)(hk:k∉g.tch)(hi:PI X tg iter (Qf Z fi))
  (hg:∀(C:aq) (s₀:ao) (H₀:Hp) (ex:А aq),PG (X.block N' scope C s₀ H₀ ex) tg (xG X.K g)) (ht:∀(C:aq) (s₀:ao) (H₀:Hp) (ex:А aq),PTs (X.block N' scope C s₀ H₀ ex) ifs (xT X.K tt)) (he:∀(C:aq) (s₀:ao) (H₀:Hp) (ex:А aq),PE (X.block N' scope C s₀ H₀ ex) elt (xE X.K te))
  (hN:X.N.Nodup) (hiy:X.N[i]? =aA y:=by rfl) (hx:X.env.scope.names.lookup y=aA .local:=by rfl) (hsw:swapsWith (.ListComp elt [⟨tg,iter,ifs,0⟩] scope pos) (aA (.Name y py)) spos.line X.env=pure aC:=by rfl)
  (hs:∀x,foldedSetIterable iter X.env x=pure x:=by intro _;rfl):PS X (.Assign [.Name y py] (.ListComp elt [⟨tg,iter,ifs,0⟩] scope pos) spos) (Z8 Z (Yv i (Uo src k fi g tt te))):=
 (Hl hc S hi hg ht he hN hiy hx hsw hs).imp λD σ H h=>by O⟨F,δ,own,rv,δ',s,e,q⟩:=Zmh h;E Zfo So hk ⟨F,δ,own,rv,δ',s,e,q⟩
ЛEy{tg:c5}{g:FG}(he:PE X a (Ze Z fa))(hg:PG X tg (Cs Z g))(hs:swapsWithSole [tg] a pos.line X.env=pure aD:=by rfl)(hw:swappedStores [tg] a X.env=pure aB:=by rfl)(h1:(assignEach [tg] X.env).map (·.2)=[assign tg X.env]:=by rfl):
  PS X (.Assign [tg] a pos) (Z8 Z (Mc g fa)):=(Zn3 he hg hs hw h1).imp λ_ _ _ h=>Zfl h
ЛWi{tg iter:c5}{body:А Stmt}{fi:FD}{g:FG}{f:FS}(hp:PassesOwn (b4 X.prog X.w) X.A X.env X.xe)(hc:X.calm=aC)(hi:PI X tg iter (Qf Z fi))(hg:PG X tg (Cs Z g))(hb:T0 X body (Z8 Z f))(hs:∀x,foldedSetIterable iter X.env x=pure x:=by intro _;rfl):
  PS X (.For tg iter body [] pos) (Z8 Z (Qt fi g f)):=(Zn4 hp hc hi hg hb hs).imp λ_ _ _ h=>Zse h
ЛZkb(n:Г){t:FT}{body:А Stmt}{f:FS}(hp:PassesOwn (b4 X.prog X.w) X.A X.env X.xe)(hc:PT X c (Yn Z t))(hb:T0 X body (Z8 Z f)):PS X (.While c body [] pos) (Z8 Z (U8 t f n)):=(Zer hp hc hb).imp λ_ _ _ h=>Zj0 h
ЛC4(i:Г){x:Str}{px apos cpos:Pos}(hb:PE X b (Ze Z fb))(hN:X.N[i]? =aA x:=by rfl)(hv:Vis X.env.scope x:=by first|E Or.inl rfl|E Or.inr (Or.inl rfl)|E Or.inr (Or.inr rfl))(hd:(x==("__debug__":Str))=aD:=by decide)
  (hcd:(x==("__classdict__":Str))=aD:=by decide) (hbase:attributeBase (.Name x px) "append" X.env (gy (.Name x px) X.env)=gy (.Name x px) X.env:=by rfl)
  (hfew:((gx cpos (bd [b] X.env)).all (λx=>!x.1)&&(backToKw cpos (keywordEach [] X.env)).all (λx=>x.1.isSome)&&decide ([b].length+([]:А Keyword).length+(if([]:А Keyword).isEmpty then 0 else 1)<30))=aC:=by rfl)
  (hline:(apos.endLine==cpos.line)=aC:=by rfl) (hs:bd [b] X.env=(aD,gy b X.env)::bd [] X.env:=by rfl) (hpl:(gx cpos (bd [] X.env)).any (·.1)=aD:=by rfl) (hsw:swapsWith (.Call (.Attribute (.Name x px) "append" apos) [b] [] cpos) aB pos.line X.env=pure aD:=by rfl):
  PS X (.Expr (.Call (.Attribute (.Name x px) "append" apos) [b] [] cpos) pos) (Z8 Z (Rn i fb)):=
 (Al (Va PySem.F.plainAttrs_list PySem.F.slot_list_append PySem.F.type_list_append M9 (Ba (i:=i) hN hv hd hcd) (Uq hb Bv hs) hbase hfew hline hs hpl) hsw).imp λ_ _ _ h=>Zsf h
end
НW2(f:FS)(n:Г)(ds:А D):Б SV:=match f (Eu n ds)with
 |some (.rt sv)=>aA sv
 |some (.nx _)=>aA (.fz .non)
 |_=>aB
ЛZfz{N:А Str}{n:Г}{f:FS}{vs:А V}{H:Hp}{Q:VK}{E:XK}(h:Y6 K n (W2 f N.length) vs H Q E):∃F,Z8 (ent H F:Ent K) f {nx:=λ_ H'=>Q .non H',rt:=Q} (L2.Cq N vs) H:=by
 O⟨F,ds,sv,le,r,hn,e,k⟩:=h;unfold W2 at e;split at e
 ·rename_i sw hf;C e;E⟨F,F,_,_,.rt sv,Vi (N:=N) le r,hf,λv H' F' ns a b c d e' nd ok=>k v H' F' ns d a b c e' nd ok⟩
 ·rename_i δ hf;C e;E⟨F,F,_,_,.nx δ,Vi (N:=N) le r,hf,λσ' H' F' own' a s'=>k .non H' F' [] s'.old a s'.le s'.fro (.fz .non) cx λ_ h=>(nomatch h)⟩
 ·C e
МZz7(K:af):Sp:=λvs H Q _=>∃(a:aq) (ns:А Int),vs=[.ref a]/\W8 K H a (ns.map V.int)/\ns.length<=63/\∀H',Q (.bl aC) H'
ЛVk{F:Hp}:∀ns:А Int,Reps K F (ns.map D.int) (ns.map V.int)
 | []=>.nil
 |n::r=>.cons (.int n) (Vk r)
end DL
namespace DL
open PySem PySem.Spec PyProof.Rows L2
variable{K:af}
НBm(f:D->D->Б Bool):А D->А D->Б Bool
 |x::xs,y::ys=>(f x y).bind λb=>(Bm f xs ys).bind λc=>aA (b&&c)
 |_,_=>aA aC
НRo(f:D->D->Б Bool):D->D->Б Bool
 | .lst xs,.lst ys=>if xs.length=ys.length then Bm f xs ys else aA aD
 | .tup xs,.tup ys=>(Bm f xs ys).bind λb=>aA (b&&decide (xs.length=ys.length))
 | .lst _,.tup _=>aA aD
 | .tup _,.lst _=>aA aD
 |d1,d2=>eqS d1 d2
НWp:Г->D->D->Б Bool
 |0=>λ_ _=>aB
 |n+1=>Ro (Wp n)
ЛEz{F H:Hp}{d1 d2:D}{x y:V}{b:Bool}(e:eqS d1 d2=aA b)(r1:Yd K F H d1 x)(r2:Yd K F H d2 y):Y7 x=aC/\Y7 y=aC/\b=S8 x y:=by unfold eqS at e;split at e<;> cases e<;> (first|obtain rfl:=r1.non|obtain rfl:=r1.int|obtain rfl:=r1.bl|obtain rfl:=r1.str)<;> (first|obtain rfl:=r2.non|obtain rfl:=r2.int|obtain rfl:=r2.bl|obtain rfl:=r2.str)<;> R⟨rfl,rfl,?_⟩<;> first|rfl|simp[S8]
section
variable{X:Cx}{pins:А (aq×Obj)}{σ:L2.St}{F H:Hp}{s:ao}
ЛZf0{x y:V}{v:am}(rx:Zu x v)(ry:Zu y v)(fx:Y7 x=aC)(fy:Y7 y=aC):S8 x y=aC:=by
 cases x with
 |non=>C rx;cases y with
  |non=>rfl
  |bl b=>C ry
  |int b=>O⟨t,e⟩:=ry;C e
  |str b=>O⟨t,e⟩:=ry;C e
  |_=>C fy
 |bl a=>C rx;cases y with
  |non=>C ry
  |bl b=>C ry;simp[S8]
  |int b=>O⟨t,e⟩:=ry;C e
  |str b=>O⟨t,e⟩:=ry;C e
  |_=>C fy
 |int a=>O⟨t,rfl⟩:=rx;cases y with
  |non=>C ry
  |bl b=>C ry
  |int b=>O⟨t,e⟩:=ry;C e;simp[S8]
  |str b=>O⟨t,e⟩:=ry;C e
  |_=>C fy
 |str a=>O⟨t,rfl⟩:=rx;cases y with
  |non=>C ry
  |bl b=>C ry
  |int b=>O⟨t,e⟩:=ry;C e
  |str b=>O⟨t,e⟩:=ry;C e;simp[S8]
  |_=>C fy
 |_=>C fx
ЛHr{h:eh}{a:aq}{i1 i2:Array am}(h1:h.IsList a i1)(h2:h.IsList a i2):i1=i2:=by O⟨o,e1,c1,n1,d1⟩:=h1;O⟨o2,e2,c2,n2,d2⟩:=h2;rw[e1]at e2;C e2;rw[d1]at d2;C d2;rfl
ЛVl{h:eh}{a:aq}{i1 i2:Array am}(h1:h.IsTuple a i1)(h2:h.IsTuple a i2):i1=i2:=by O⟨o,e1,c1,n1,d1⟩:=h1;O⟨o2,e2,c2,n2,d2⟩:=h2;rw[e1]at e2;C e2;rw[d1]at d2;C d2;rfl
ЛZav{f:D->D->Б Bool}(hf:∀d1 d2 b x y v,Rep X.K F d1 x->Zu x v->Rep X.K F d2 y->Zu y v->f d1 d2=aA b->b=aC){xs:А D}:∀{ys:А D} {vs ws:А V} {us:А am} {b:Bool},Reps X.K F xs vs->Z3 vs us->Reps X.K F ys ws->Z3 ws us->Bm f xs ys=aA b->b=aC:=by
 induction xs with
 |nil=>intro ys vs ws us b _ _ _ _ e;C e;rfl
 |cons x xs ih=>
  intro ys vs ws us b r1 v1 r2 v2 e;cases r1 with
  |cons h1 t1=>
   cases v1 with
   |cons a1 w1=>
    cases v2 with
    |cons a2 w2=>
     cases r2 with
     |cons h2 t2=>O⟨b,e1,e2⟩:=aa.mp e;O⟨c,e3,e4⟩:=aa.mp e2;C e4;rw[hf _ _ _ _ _ _ h1 a1 h2 a2 e1,ih t1 w1 t2 w2 e3];rfl
ЛZc7(I:Inv X pins σ H s)(le:Zi F H){f:D->D->Б Bool}(ih:∀(d1 d2:D) (b:Bool) (x y:V) (v:am),Rep X.K F d1 x->Zu x v->Rep X.K F d2 y->Zu y v->f d1 d2=aA b->b=aC)(d1 d2:D)(b:Bool)(x y:V)(v:am)(r1:Rep X.K F d1 x)(v1:Zu x v)(r2:Rep X.K F d2 y)(v2:Zu y v)(e:Ro f d1 d2=aA b):b=aC:=by
  unfold Ro at e;split at e
  ·rename_i xs ys;cases r1 with
   |lst q1 _ p1=>
   cases r2 with
   |lst q2 _ p2=>
   C v1;C v2;O⟨i1,w1,l1,_⟩:=I.list (Wd le q1);O⟨i2,w2,l2,_⟩:=I.list (Wd le q2);V z:=Hr l1.isList l2.isList;V z:i1=i2:=by simpa using z
   subst z;split at e
   ·E Zav (ih) p1 w1 p2 w2 e
   ·rename_i hl;V h1:=w1.length;V h2:=w2.length;V h3:=p1.length;V h4:=p2.length;E absurd И hl
  ·rename_i xs ys;cases r1 with
   |tup q1 p1=>
   cases r2 with
   |tup q2 p2=>
   C v1;C v2;O⟨i1,w1,l1,_⟩:=I.tuple (Ql le (Rf q1));O⟨i2,w2,l2,_⟩:=I.tuple (Ql le (Rf q2));V z:=Vl l1 l2;V z:i1=i2:=by simpa using z
   subst z;O⟨c,e1,e2⟩:=aa.mp e;C e2;V h1:=w1.length;V h2:=w2.length;V h3:=p1.length;V h4:=p2.length;rw[Zav (ih) p1 w1 p2 w2 e1,decide_eq_true И];rfl
  ·cases r1 with
   |lst q1 _ p1=>
   cases r2 with
   |tup q2 p2=>
   C v1;C v2;O⟨i1,w1,l1,_⟩:=I.list (Wd le q1);O⟨i2,w2,l2,_⟩:=I.tuple (Ql le (Rf q2));E absurd rfl (SeqAt.ne_of_list_tuple (s:=s) l1.isList l2)
  ·cases r1 with
   |tup q1 p1=>
   cases r2 with
   |lst q2 _ p2=>
   C v1;C v2;O⟨i1,w1,l1,_⟩:=I.tuple (Ql le (Rf q1));O⟨i2,w2,l2,_⟩:=I.list (Wd le q2);E absurd rfl (SeqAt.ne_of_list_tuple (s:=s) l2.isList l1)
  ·O⟨f1,f2,rfl⟩:=Ez (H:=H) e (Yd.of r1) (Yd.of r2);E Zf0 v1 v2 f1 f2
ЛVm(I:Inv X pins σ H s)(le:Zi F H):∀(n:Г) (d1 d2:D) (b:Bool) (x y:V) (v:am),Rep X.K F d1 x->Zu x v->Rep X.K F d2 y->Zu y v->Wp n d1 d2=aA b->b=aC
 |0,_,_,_,_,_,_,_,_,_,_,e=>by C e
 |n+1,d1,d2,b,x,y,v,r1,v1,r2,v2,e=>Zc7 I le (Vm I le n) d1 d2 b x y v r1 v1 r2 v2 e
ЛVn{A:dg}{f:D->D->Б Bool}(hf:∀d1 d2 b x y v u,Rep X.K F d1 x->Zu x v->Rep X.K F d2 y->Zu y u->f d1 d2=aA b->SeqAt.EqAt A s v u b){xs:А D}:∀{ys:А D} {vs ws:А V} {us zs:А am} {b:Bool},Reps X.K F xs vs->Z3 vs us->Reps X.K F ys ws->Z3 ws zs->Bm f xs ys=aA b->
  ∃e:Г->Bool,(∀j (h1:j<us.length) (h2:j<zs.length),SeqAt.EqAt A s us[j] zs[j] (e j))/\(c8 (min us.length zs.length)).all e=b:=by
 induction xs with
 |nil=>intro ys vs ws us zs b r1 v1 _ _ e;C r1;C v1;C e;E⟨λ_=>aC,λj h1=>absurd h1 (d6 _),by rw[List.length_nil,Nat.zero_min];rfl⟩
 |cons x xs ih=>
  intro ys vs ws us zs b r1 v1 r2 v2 e;cases r1 with
  |cons h1 t1=>
   cases v1 with
   |cons a1 w1=>
    cases v2 with
    |nil=>C r2;C e;E⟨λ_=>aC,λj _ h2=>absurd h2 (d6 _),by rw[List.length_nil,Nat.min_zero];rfl⟩
    |cons a2 w2=>
     cases r2 with
     |cons h2 t2=>
      O⟨b,e1,e2⟩:=aa.mp e;O⟨c,e3,e4⟩:=aa.mp e2;C e4;O⟨g,g1,g2⟩:=ih t1 w1 t2 w2 e3;R⟨λj=>Nat.casesOn j b g,λj h1 h2=>?_,?_⟩
      ·cases j with
       |zero=>E hf _ _ _ _ _ _ _ ‹_› a1 ‹_› a2 e1
       |succ j=>E g1 j (Nat.lt_of_succ_lt_succ h1) (Nat.lt_of_succ_lt_succ h2)
      ·rw[bf,bf,Nat.succ_min_succ,List.range_succ_eq_map,List.all_cons,List.all_map,<-g2];rfl
ЛrcN(I:Inv X pins σ H s)(le:Zi F H){A:dg}{f:D->D->Б Bool}{d1 d2:D}{b:Bool}{x y:V}{v u:am}
  (ih:∀d1 d2 b x y v u,Rep X.K F d1 x->Zu x v->Rep X.K F d2 y->Zu y u->f d1 d2=aA b->SeqAt.EqAt A.in1 s v u b) (r1:Yd X.K F H d1 x) (v1:Zu x v) (r2:Yd X.K F H d2 y) (v2:Zu y u)
  (e:Ro f d1 d2=aA b) (hu:A.units<f7) (hr:Y7 x=aD\/Y7 y=aD):(∃a c,v= .ref a/\u= .ref c)/\SeqAt.RcAt A s v u b/\SeqAt.RcNeAt A s v u (!b):=by
 unfold Ro at e;split at e
 ·O⟨a1,vs1,rfl,q1,p1⟩:=r1.lst le;O⟨a2,vs2,rfl,q2,p2⟩:=r2.lst le;C v1;C v2;O⟨i1,w1,l1,_⟩:=I.list q1;O⟨i2,w2,l2,_⟩:=I.list q2;V h1:=w1.length;V h2:=w2.length;V h3:=p1.length;V h4:=p2.length;R⟨⟨_,_,rfl,rfl⟩,?_⟩;split at e
  ·rename_i hl;O⟨g,g1,g2⟩:=Vn ih p1 w1 p2 w2 e;V hm:min i1.length i2.length=i1.toArray.size:=by simp;W
   rw[hm]at g2;subst g2;V hz:i1.toArray.size=i2.toArray.size:=by simp;W
   E⟨SeqAt.RcAt.lists l1.isList l2.isList hz hu (λj j1 j2=>by simpa using g1 j (by simpa using j1) (by simpa using j2)),SeqAt.RcNeAt.lists l1.isList l2.isList hz hu (λj j1 j2=>by simpa using g1 j (by simpa using j1) (by simpa using j2))⟩
  ·rename_i hl;C e;V hz:(i1.toArray.size !=i2.toArray.size)=aC:=by simp;W
   E⟨SeqAt.RcAt.lists_lengths l1.isList l2.isList hz hu,SeqAt.RcNeAt.lists_lengths l1.isList l2.isList hz hu⟩
 ·rename_i xs ys;O⟨a1,vs1,rfl,q1,p1⟩:=r1.tup le;O⟨a2,vs2,rfl,q2,p2⟩:=r2.tup le;C v1;C v2;O⟨i1,w1,l1,_⟩:=I.tuple q1;O⟨i2,w2,l2,_⟩:=I.tuple q2;V h1:=w1.length;V h2:=w2.length;V h3:=p1.length;V h4:=p2.length;O⟨c,e1,e2⟩:=aa.mp e;C e2;R⟨⟨_,_,rfl,rfl⟩,?_⟩;O⟨g,g1,g2⟩:=Vn ih p1 w1 p2 w2 e1;subst g2;V e3:((c8 (min i1.length i2.length)).all g&&decide (xs.length=ys.length))=((c8 (min i1.toArray.size i2.toArray.size)).all g&&i1.toArray.size==i2.toArray.size):=by
   V :(i1.toArray.size==i2.toArray.size)=decide (xs.length=ys.length):=by rw[bv,bv,<-h1,<-h2,<-h3,<-h4];rfl
   rw[this];simp
  rw[e3];E⟨SeqAt.RcAt.tuples l1 l2 hu (λj j1 j2=>by simpa using g1 j (by simpa using j1) (by simpa using j2)),SeqAt.RcNeAt.tuples l1 l2 hu (λj j1 j2=>by simpa using g1 j (by simpa using j1) (by simpa using j2))⟩
 ·O⟨a1,vs1,rfl,q1,p1⟩:=r1.lst le;O⟨a2,vs2,rfl,q2,p2⟩:=r2.tup le;C v1;C v2;C e;O⟨i1,w1,l1,_⟩:=I.list q1;O⟨i2,w2,l2,_⟩:=I.tuple q2;E⟨⟨_,_,rfl,rfl⟩,SeqAt.RcAt.list_tuple l1.isList l2 hu,SeqAt.RcNeAt.list_tuple l1.isList l2 hu⟩
 ·O⟨a1,vs1,rfl,q1,p1⟩:=r1.tup le;O⟨a2,vs2,rfl,q2,p2⟩:=r2.lst le;C v1;C v2;C e;O⟨i1,w1,l1,_⟩:=I.tuple q1;O⟨i2,w2,l2,_⟩:=I.list q2;E⟨⟨_,_,rfl,rfl⟩,SeqAt.RcAt.tuple_list l1 l2.isList hu,SeqAt.RcNeAt.tuple_list l1 l2.isList hu⟩
 ·O⟨f1,f2,_⟩:=Ez e r1 r2;rcases hr with hr|hr
  ·rw[f1]at hr;C hr
  ·rw[f2]at hr;C hr
ЛTf(I:Inv X pins σ H s)(le:Zi F H):∀(n:Г) (A:dg) (d1 d2:D) (b:Bool) (x y:V) (v u:am),A.units+n<f7->Rep X.K F d1 x->Zu x v->Rep X.K F d2 y->Zu y u->Wp n d1 d2=aA b->SeqAt.EqAt A s v u b
 |0,_,_,_,_,_,_,_,_,_,_,_,_,_,e=>by C e
 |n+1,A,d1,d2,b,x,y,v,u,hu,r1,v1,r2,v2,e=>by
  by_cases hf:Y7 x=aC/\Y7 y=aC
  ·V e':eqS d1 d2=aA b:=by
    unfold Wp Ro at e;split at e
    ·C r1;cases hf.1
    ·C r1;cases hf.1
    ·C r1;cases hf.1
    ·C r1;cases hf.1
    ·E e
   O⟨f1,f2,rfl⟩:=Ez (H:=H) e' (Yd.of r1) (Yd.of r2);E Zez v1 v2 f1 f2
  ·V hf':Y7 x=aD\/Y7 y=aD:=by
    cases h1:Y7 x with
    |false=>E .inl rfl
    |true=>cases h2:Y7 y with
     |false=>E .inr rfl
     |true=>E absurd ⟨h1,h2⟩ hf
   O⟨⟨a,c,rfl,rfl⟩,h1,_⟩:=rcN I le (A:=A) (f:=Wp n) (λd1 d2 b x y v u q1 w1 q2 w2 e=>Tf I le n A.in1 d1 d2 b x y v u (by V :A.in1.units=A.units+1:=rfl;W) q1 w1 q2 w2 e) (Yd.of r1) v1 (Yd.of r2) v2 e И hf';by_cases hac:a=c
   ·subst hac;rw[Vm I le (n+1) d1 d2 b x y _ r1 v1 r2 v2 e];E SeqAt.EqAt.same _
   ·E SeqAt.EqAt.of_refs hac h1
МZkc(K:af)(neg:Bool):R2:=λx y H Q=>∃F d1 d2 b,Zi F H/\Yd K F H d1 x/\Yd K F H d2 y/\Wp 48 d1 d2=aA b/\(Y7 x=aD\/Y7 y=aD)/\Q (.bl (if neg then !b else b)) H
ЛZf1(hu:X.A.units+64<f7):Cw X (gz .Eq) (Zkc X.K aD):=by intro pins s σ H x y v u Q I rx ry h;O⟨F,d1,d2,b,le,r1,r2,e,hf,q⟩:=h;O⟨_,h1,_⟩:=rcN I le (A:=X.A) (f:=Wp 47) (λd1 d2 b x y v u q1 w1 q2 w2 e=>Tf I le 47 X.A.in1 d1 d2 b x y v u (by V :X.A.in1.units=X.A.units+1:=rfl;W) q1 w1 q2 w2 e) r1 rx r2 ry e И hf;E h1 X.prog X.w X.xe _ ⟨.bl b,H,I,rfl,q⟩
ЛZox(hu:X.A.units+64<f7):Cw X (gz .NotEq) (Zkc X.K aC):=by intro pins s σ H x y v u Q I rx ry h;O⟨F,d1,d2,b,le,r1,r2,e,hf,q⟩:=h;O⟨_,_,h1⟩:=rcN I le (A:=X.A) (f:=Wp 47) (λd1 d2 b x y v u q1 w1 q2 w2 e=>Tf I le 47 X.A.in1 d1 d2 b x y v u (by V :X.A.in1.units=X.A.units+1:=rfl;W) q1 w1 q2 w2 e) r1 rx r2 ry e И hf;E h1 X.prog X.w X.xe _ ⟨.bl !b,H,I,rfl,q⟩
end
НD.isFlat:D->Bool
 | .non=>aC| .bl _=>aC| .int _=>aC| .str _=>aC|_=>aD
НeqX(d1 d2:D):Б SV:=if d1.isFlat=aC/\d2.isFlat=aC then eqD d1 d2 else(Wp 48 d1 d2).bind λb=>aA (.fz (.bl b))
НneX(d1 d2:D):Б SV:=if d1.isFlat=aC/\d2.isFlat=aC then neD d1 d2 else(Wp 48 d1 d2).bind λb=>aA (.fz (.bl !b))
ЛB4{F H:Hp}{d:D}{x:V}(r:Yd K F H d x)(h:d.isFlat=aD):Y7 x=aD:=by
 O⟨sv,ns,e,n,sh,hp⟩:=r;cases sh with
 |fz r=>C e;cases r<;> first|rfl|C h
 |ol r=>rfl
 |oK e' r=>rfl
 |oT kb e' r=>rfl
 |oN e' r=>rfl
 |oX kb' e' r=>rfl
 |oL _ r=>rfl
 |oQ e' r=>rfl
section
variable{Z:Ent K}
ЛZmr:Y8 Z (λx y H Q=>rEq x y H Q\/Zkc K aD x y H Q) eqX:=by
 intro F H σ δ own x y d1 d2 sv Q s r1 r2 e k;unfold eqX at e;split at e
 ·E .inl (Zxk F H σ δ own x y d1 d2 sv Q s r1 r2 e k)
 ·rename_i hf;O⟨b,e1,e2⟩:=aa.mp e;C e2;R .inr ⟨F,d1,d2,b,s.le,r1,r2,e1,?_,k.fz s (.bl _)⟩;cases h1:d1.isFlat with
  |false=>E .inl (B4 r1 h1)
  |true=>cases h2:d2.isFlat with
   |false=>E .inr (B4 r2 h2)
   |true=>E absurd ⟨h1,h2⟩ hf
ЛZsz:Y8 Z (λx y H Q=>rNe x y H Q\/Zkc K aC x y H Q) neX:=by
 intro F H σ δ own x y d1 d2 sv Q s r1 r2 e k;unfold neX at e;split at e
 ·E .inl (Zxl F H σ δ own x y d1 d2 sv Q s r1 r2 e k)
 ·rename_i hf;O⟨b,e1,e2⟩:=aa.mp e;C e2;R .inr ⟨F,d1,d2,b,s.le,r1,r2,e1,?_,k.fz s (.bl _)⟩;cases h1:d1.isFlat with
  |false=>E .inl (B4 r1 h1)
  |true=>cases h2:d2.isFlat with
   |false=>E .inr (B4 r2 h2)
   |true=>E absurd ⟨h1,h2⟩ hf
НZ2f:D->Б SV
 | .int i=>aA (.fz (.int (-i)))
 |_=>aB
end
section
variable{X:Cx}{Z:Ent X.K}{a b c:c5}{fa fb fc:FE}{pos:Pos}
ЛVo(hv:X.A.units+64<f7)(ha:PE X a (Ze Z fa))(hb:PE X b (Ze Z fb)):PE X (.Compare a [.Eq] [b] pos) (Ze Z (Zo eqX fa fb)):=Zmp (Zl3.or (Zf1 hv)) Zmr ha hb (Ej _)
ЛZs0(hv:X.A.units+64<f7)(ha:PE X a (Ze Z fa))(hb:PE X b (Ze Z fb)):PT X (.Compare a [.Eq] [b] pos) (Yn Z (Yw (Zo eqX fa fb))):=Ew (Zl3.or (Zf1 hv)) Zmr ha hb (Ej _)
ЛT7(hv:X.A.units+64<f7)(ha:PE X a (Ze Z fa))(hb:PE X b (Ze Z fb)):PT X (.Compare a [.NotEq] [b] pos) (Yn Z (Yw (Zo neX fa fb))):=Ew (Zrh.or (Zox hv)) Zsz ha hb (Ej _)
end
end DL
namespace L2
open PySem PySem.Spec PyProof.Rows
section
variable{X:Cx}{tg:c5}
МIts(z:Str):It:=⟨λi _=>i<z.length,λi H x H'=>H'=H/\∃c,z.cps[i]? =aA c/\x= .str ⟨#[c]⟩,λi _=>z.length<=i⟩
ЛZc8{P:b5}{w:da}{K:af}{tg:c5}(z:Str)(t:Tok)(it:aq):Turn P w K tg (Its z) [it] it (λi h=>h.IsStrIter it (strIterType z) z t i)where
 mem:=by simp
 obj:=λi h st b hb=>by
  V e:b=it:=by simpa using hb
  subst e;O⟨o,e,c,d⟩:=st;E⟨o,e,λv q=>by rw[d]at q;C q⟩
 keep:=λi h h' st k=>by O⟨o,e,c,d⟩:=st;E⟨o,k it К o e,c,d⟩
 item:=by
  intro X hP hw hK hc i pins s σ H E I hf st hg;subst hP hw hK;O⟨f0,f1,f2,f3,f4,f5⟩:=hf it К;V hlt:i<z.cps.size:=hg;V hx:z.cps[i]? =aA z.cps[i]:=by simp[hlt]
  V fin:∀h',h'.IsStrIter it (strIterType z) z t (i+1)->ic it s.heap h'->∃u,aA (Value.str ⟨#[z.cps[i]]⟩ s.toks)=aA u/\bc (b4 X.prog X.w) X.A (letOwnedTupleGo tg (.ref it) u) (λ_ s2=>∃x H',Inv X pins σ H' s2/\Zu x u/\(Its z).yld i H x H'/\s2.heap.IsStrIter it (strIterType z) z t (i+1)/\∀b∈[it],H' b=aB) E {s with heap:=h',toks:=s.toks+1}:=λh' st' sb=>by
   V I1:Inv X pins σ H {s with heap:=h',toks:=s.toks+1}:=I.turned (t':=s.toks+1) (λb o hb q=>(sb.2 b hb).trans q) f0 f1 f3 f4 f5;O⟨o,e,c,d⟩:=id st';V hn:["enumerate","zip","dict_itemiterator","dict_reverseitemiterator","odict_iterator","itertools.zip_longest","itertools.pairwise"].contains (strIterType z)=aD:=by unfold strIterType;split<;> decide
   E⟨_,rfl,T3 (s:={s with heap:=h',toks:=s.toks+1}) e c d hn ⟨.str ⟨#[z.cps[i]]⟩,H,I1,⟨_,rfl⟩,⟨rfl,_,hx,rfl⟩,st',λb hb=>(hf b hb).1⟩⟩
  cases ha:z.cps.all (· <128)with
  |false=>
   V et:strIterType z="str_iterator":=by unfold strIterType;rw[ha];rfl
   rw[et]at st fin;rw[et];E wpAny_pyNext_wide_item st hx fin
  |true=>
   V et:strIterType z="str_ascii_iterator":=by unfold strIterType;rw[ha];rfl
   rw[et]at st fin;rw[et];E wpAny_pyNext_ascii_item st hx fin
 done:=by
  intro X hP hw hK hc i pins s σ H E I hf st hg;subst hP hw hK;O⟨f0,f1,f2,f3,f4,f5⟩:=hf it К;V hge:z.cps.size<=i:=hg;V hx:z.cps[i]? =aB:=by simp[hge]
  cases ha:z.cps.all (· <128)with
  |false=>
   V et:strIterType z="str_iterator":=by unfold strIterType;rw[ha];rfl
   rw[et]at st;E wpAny_pyNext_wide_end (I.ok.hd hc) st hx λh' eb=>⟨rfl,I.turned (t':=s.toks) (λb o hb q=>eb b o hb q) f0 f1 f3 f4 f5⟩
  |true=>
   V et:strIterType z="str_ascii_iterator":=by unfold strIterType;rw[ha];rfl
   rw[et]at st;E wpAny_pyNext_ascii_end (I.ok.hd hc) st hx λh' eb=>⟨rfl,I.turned (t':=s.toks) (λb o hb q=>eb b o hb q) f0 f1 f3 f4 f5⟩
 self:=λ_ _ _ _ _ st h=>by
  cases ha:z.cps.all (· <128)with
  |false=>
   V et:strIterType z="str_iterator":=by unfold strIterType;rw[ha];rfl
   rw[et]at st;E wpAny_pyIter_striter_wide st h
  |true=>
   V et:strIterType z="str_ascii_iterator":=by unfold strIterType;rw[ha];rfl
   rw[et]at st;E wpAny_pyIter_striter_ascii st h
МZs1(K:af)(tl:TE):TI:=λσ H R=>tl σ H λx H1=>(∃a,x= .ref a/\(∃xs,W8 K H1 a xs)/\R (Itl K a) H1)\/(∃a,x= .ref a/\(∃xs,Ov K H1 a xs)/\R (Itt K a) H1)\/(∃z,x= .str z/\R (Its z) H1)
ЛZoy{l:c5}{tl:TE}(hl:PE X l tl):PI X tg l (Zs1 X.K tl):=by
 intro pins s σ H R I h;R Wv (hl pins s σ H _ I h) λv s1 zq9=>?_;O⟨x,H1,I1,r1,q1⟩:=zq9;rcases q1 with⟨a,e,⟨xs,hq⟩,q⟩|⟨a,e,⟨xs,hq⟩,q⟩|⟨z,e,q⟩
 ·subst e;C r1;O⟨its,rv,p,hz⟩:=I1.list hq;R wpAny_pyIter_list p.isList ?_;R⟨s1.heap.objs.size,[s1.heap.objs.size],_,_,H1,rfl,I1.kept (t':=s1.toks) λb o e=>av _ e,Zcq a _,⟨_,ba _ rfl,rfl,rfl⟩,λb hb=>?_,q⟩;V e:b=s1.heap.objs.size:=by simpa using hb
  subst e;E I1.fpOk (a6 _) (I1.hok.fresh (a6 _))
 ·subst e;C r1;O⟨its,rv,p,hz⟩:=I1.tuple hq;R wpAny_pyIter_tuple (show s1.heap.IsTuple a its.toArray from p) ?_;R⟨s1.heap.objs.size,[s1.heap.objs.size],_,_,H1,rfl,I1.kept (t':=s1.toks) λb o e=>av _ e,X8 a _,⟨_,ba _ rfl,rfl,rfl⟩,λb hb=>?_,q⟩;V e:b=s1.heap.objs.size:=by simpa using hb
  subst e;E I1.fpOk (a6 _) (I1.hok.fresh (a6 _))
 ·subst e;O⟨t,rfl⟩:=r1;R wpAny_pyIter_strU ?_;R⟨s1.heap.objs.size,[s1.heap.objs.size],_,_,H1,rfl,I1.kept (t':=s1.toks) λb o e=>av _ e,Zc8 z t _,⟨_,ba _ rfl,rfl,rfl⟩,λb hb=>?_,q⟩;V e:b=s1.heap.objs.size:=by simpa using hb
  subst e;E I1.fpOk (a6 _) (I1.hok.fresh (a6 _))
МZxw:V->А V->Hp->VK->Prop:=λx xs H Q=>∃a b,x= .str a/\xs=[.str b]/\(b.length==0)=aD/\a.length<=sizeLine/\(Txt.split a b).length<=sizeLine/\∀p,H p=aB->Q (.ref p) (Ya H p (.lst ((Txt.split a b).map V.str)))
МZz8:V->А V->Hp->VK->Prop:=λx xs H Q=>∃a b,x= .str a/\xs=[.str b]/\(b.length==0)=aD/\a.length<=sizeLine/\∀p,H p=aB->Q (.ref p) (Ya H p (.tup [.str (Txt.partition a b).1,.str (Txt.partition a b).2.1,.str (Txt.partition a b).2.2]))
МZs2(K:af):А V->Hp->VK->Prop:=λxs H Q=>∃(p:aq) (bs:А Bool),xs=[.ref p]/\W8 K H p (bs.map V.bl)/\Q (.bl (bs.all id)) H
ЛVp:∀{bs:А Bool} {us:А am},Z3 (bs.map V.bl) us->us=bs.map Value.bool
 | [],_,r=>by rw[List.map_nil]at r;C r;rfl
 |b::bs,_,r=>by
  rw[a7]at r;cases r with
  |cons h t=>cases(show _=Value.bool b from h);rw[Vp t];rfl
ЛLh:∀bs:А Bool,(c8 bs.length).all (λi=>(bs[i]?).getD aC)=bs.all id
 | []=>rfl
 |b::bs=>by rw[bf,List.range_succ_eq_map,List.all_cons,List.all_map,List.all_cons,<-Lh bs];rfl
ЛZf2(hc:X.calm=aC):Q6 X (.builtin "all") (Zs2 X.K):=by
 intro pins s σ H xs us Q I rs h;O⟨p,bs,rfl,hq,q⟩:=h;O⟨u,rfl,ru⟩:=Ul rs;C ru;O⟨its,rv,pl,hz⟩:=I.list hq;V e:=Vp rv;subst e;R call_all_walk (wpAny_pyIter_list pl.isList ?_);V hne:p≠s.heap.objs.size:=λz=>by O⟨o,ho,_⟩:=pl.isList;V :=bh ho;rw[z]at this;E Nat.lt_irrefl _ this
 R⟨s.heap.objs.size,_,_,_,_,_,λi=>(bs[i]?).getD aC,rfl,Walks.list (by first|E I.ok.hd hc| (rw[show X.A.in1.handled=X.A.handled from rfl];E I.ok.hd hc)) _ p hne (bs.map Value.bool).toArray,⟨⟨_,ba _ rfl,rfl,rfl⟩,pl.isList.at λo e=>av _ e⟩,?_,λh' tk hk=>?_⟩
 ·intro i v s' Q' E' hP hQ;V hP':(bs.map Value.bool)[i]? =aA v:=by simpa using hP
  rw[a9]at hP';cases hb:bs[i]? with
  |none=>rw[hb]at hP';C hP'
  |some b=>rw[hb]at hP';C hP';dsimp only at hQ;rw[hb]at hQ;E wpAny_truthy_bool hQ
 ·V e:(c8 (bs.map Value.bool).toArray.size).all (λi=>(bs[i]?).getD aC)=bs.all id:=by rw[bv,aj];E Lh bs
  rw[e];R⟨.bl _,H,I.kept (t':=tk) λb o hb=>hk b o (λz=>?_) (av _ hb),rfl,q⟩;V z':b=s.heap.objs.size:=by simpa using z
  V :=bh hb;rw[z']at this;E Nat.lt_irrefl _ this
end
end L2
namespace DL
open PySem PySem.Spec PyProof.Rows L2
variable{K:af}
МVq(z:Str):А D:=z.cps.toList.map λc=>.str ⟨#[c]⟩
ЛVr{z:Str}{F:Hp}:U7 K (Its z) F (Vq z):=λF' H sF sH i=>by
 V hl:(Vq z).length=z.length:=by unfold Vq;rw[aj];rfl
 R⟨λd hd=>?_,λh=>by rw[hl]at h;E h⟩;V hi:i<z.length:=by V :=(ay.mp hd).1;rw[hl]at this;E this
 R⟨hi,λx H' zq9=>?_⟩;O⟨e1,c,e2,e3⟩:=zq9;subst e1 e3;unfold Vq at hd;rw[a9]at hd;V e4:z.cps.toList[i]? =aA c:=by simpa using e2
 rw[e4]at hd;C hd;E⟨Zi.refl _,[],cx,λ_ h=>(nomatch h),.str _⟩
section
variable{Z:Ent K}{H:Hp}{σ:L2.St}{Q:VK}{E:Ends}
НUb(fe:FE):FD:=λδ=>(fe δ).bind λp=>(frz p.1 p.2).bind λq=>match q.1 with
 | .lst xs=>aA (xs,q.2)
 | .tup xs=>aA (xs,q.2)
 | .str z=>aA (Vq z,q.2)
 |_=>aB
ЛZoz{fe:FE}{R:It->Hp->В}(h:Qf Z (Ub fe) σ H R):Zs1 K (Ze Z fe) σ H R:=by
 O⟨F,δ,own,ds,δ',s,e,k⟩:=h;O⟨⟨rv,δ1⟩,e1,e2⟩:=aa.mp e;O⟨⟨d,δ2⟩,e3,e4⟩:=aa.mp e2;R⟨F,δ,own,rv,δ1,s,e1,λv H1 F1 own1 sH sF s1 r1=>?_⟩;O⟨F2,sF2,s2,r2⟩:=s1.settleR r1;O⟨F3,own3,sF3,s3,r3⟩:=s2.frzR r2 e3;dsimp only at e4;split at e4
 ·C e4;cases r3 with
  |lst h _ r=>E .inl ⟨_,rfl,⟨_,Wd s3.le h⟩,k _ H1 F3 own3 sH (sF.trans (sF2.trans sF3)) s3 (Vh h r)⟩
 ·C e4;cases r3 with
  |tup h r=>E .inr (.inl ⟨_,rfl,⟨_,Ql s3.le (Rf h)⟩,k _ H1 F3 own3 sH (sF.trans (sF2.trans sF3)) s3 (Hn (Rf h) r)⟩)
 ·C e4;cases r3 with
  |str x=>E .inr (.inr ⟨_,rfl,k _ H1 F3 own3 sH (sF.trans (sF2.trans sF3)) s3 Vr⟩)
 ·C e4
НinS(i j:Str):Bool:=!(dr j i 0 j.length 1).isEmpty
НinD:D->D->Б SV
 | .str i,.str j=>aA (.fz (.bl (inS i j)))
 |_,_=>aB
НPl:D->D->Б SV
 | .str i,.str j=>aA (.fz (.bl (!inS i j)))
 |_,_=>aB
ЛZxx:Y8 Z (λx y H Q=>∃i j,x= .str i/\y= .str j/\Q (.bl (!(dr j i 0 j.length 1).isEmpty)) H) inD:=by
 intro F H σ δ own x y d1 d2 sv Q s r1 r2 e k;unfold inD at e;split at e
 ·C e;E⟨_,_,r1.str,r2.str,k.fz s (.bl _)⟩
 ·C e
ЛZkd:Y8 Z (λx y H Q=>∃i j,x= .str i/\y= .str j/\Q (.bl (!(!(dr j i 0 j.length 1).isEmpty))) H) Pl:=by
 intro F H σ δ own x y d1 d2 sv Q s r1 r2 e k;unfold Pl at e;split at e
 ·C e;E⟨_,_,r1.str,r2.str,k.fz s (.bl _)⟩
 ·C e
НZxy:А D->Б SV
 | [.str a,.str b]=>if(b.length==0)=aD/\a.length<=bg/\(Txt.split a b).length<=bg then aA (.ol ((Txt.split a b).map D.str))else aB
 |_=>aB
НZo1:А D->Б SV
 | [.str a,.str b]=>if(b.length==0)=aD/\a.length<=bg then aA (.fz (.tup [.str (Txt.partition a b).1,.str (Txt.partition a b).2.1,.str (Txt.partition a b).2.2]))else aB
 |_=>aB
Нbools?:А D->Б (А Bool)
 | []=>aA []
 | .bl x::r=>(bools? r).bind λt=>aA (x::t)
 |_=>aB
ЛVs{F:Hp}:∀{ds:А D} {xs:А Bool} {vs:А V},bools? ds=aA xs->Reps K F ds vs->vs=xs.map V.bl
 | [],_,_,e,r=>by C e;C r;rfl
 |d::ds,_,_,e,r=>by
  cases r with
  |cons h t=>
   unfold bools? at e;split at e
   ·rename_i e0;C e0
   ·rename_i x r0 e0;C e0;O⟨ys,e1,e2⟩:=aa.mp e;C e2;C h;rw[Vs e1 t];rfl
   ·C e
НZke:А D->Б SV
 | [.lst xs]=>(bools? xs).bind λbs=>aA (.fz (.bl (bs.all id)))
 |_=>aB
ЛZs3:U6 Z (Zs2 K) Zke:=by
 intro F H σ δ own vs ds sv Q s r e k;unfold Zke at e;split at e
 ·O⟨bs,e1,e2⟩:=aa.mp e;C e2;cases r with
  |cons h1 t=>C t;O⟨a,vs,rfl,ha,ra⟩:=h1.lst s.le;rw[Vs e1 ra]at ha;E⟨a,bs,rfl,ha,k.fz s (.bl _)⟩
 ·C e
НZxz(i:Г):FS:=λδ=>match δ[i]? with
 |some (aA (.ol _))=>aA (.nx (δ.set i (aA (.ol []))))
 |_=>aB
end
section
variable{X:Cx}{Z:Ent X.K}{a b c:c5}{fa fb fc:FE}{pos:Pos}{tg:c5}
ЛQg(ha:PE X a (Ze Z fa)):PI X tg a (Qf Z (Ub fa)):=λpins s σ H R I h=>Zoy ha pins s σ H R I (Zoz h)
ЛZs4{p:Pos}(hm:X.mg "all"=aB)(ha:PE X a (Ze Z fa))(hc:X.calm=aC:=by rfl)(hg:Gl X "all":=by rfl)(he:bd [a] X.env=(aD,gy a X.env)::bd [] X.env:=by rfl)(hpl:(gx pos (bd [] X.env)).any (·.1)=aD:=by rfl):PE X (.Call (.Name "all" p) [a] [] pos) (Ze Z (Yf Zke (Zc fa Zj))):=
 An (Zf2 hc) Zs3 hm boot_all (Zm ha Yo he) hg Й Й he hpl
end
end DL
namespace L2
open PySem PySem.Spec PyProof.Rows
open AutoSeq1 (wpAny_loadPart')
section
variable{prog:b5}{w:da}{A:dg}{E:am->ao->В}{s:ao}
ЛAg{it t:aq}{i:Г}{items:Array am}{x:am}{Q:am->ao->В}(hit:s.heap.IsTupleIter it t i)(ht:s.heap.IsTuple t items)(hx:items[i]? =aA x)
  (hQ:∀h',h'.IsTupleIter it t (i+1)->ic it s.heap h'->Q x {s with heap:=h'}):bc (b4 prog w) A (Builtin.SmallTypes.nextOf (.ref it)) Q E s:=by
 O⟨o,ho,hc,hd⟩:=id hit;O⟨ol,hol,_,nl,hdl⟩:=ht;unfold Builtin.SmallTypes.nextOf;R ad (d3 (name:=gr "__next__") hit.typeIs F.slot_tuple_iterator_next (dj F.slot_tuple_iterator_next hit.typeIs F.entry_tuple_iterator_next ?_ (F.args_tuple_iterator_next_1 _)));T bc _ _ (field (.ref it) 0 >>=_) _ _ s;R ad (wpAny_field ho hd (x:=.ref t) rfl ?_);show bc _ _ (if(bz t==cm)=aC then _ else _) _ _ s;rw[Д (show¬((bz t==cm)=aC)from bp)];show bc _ _ (field (.ref it) 1 >>=_) _ _ s;R ad (wpAny_field ho hd (x:=.int i 0) rfl ?_);show bc _ _ (seqItems? (.ref t) >>=_) _ _ s;R ad (wpAny_seqItems hol hdl ?_);simp only[gp,hx];R ad (wpAny_setField ho hd К (ah ⟨x,rfl,ah (hQ _ ⟨_,g9 _ ho (Obj.isFreed_of_fields (Obj.data_mapFields hd _)),(Obj.cls_mapFields ..).trans hc,by rw[Obj.data_mapFields hd];simp[rawInt]⟩ (g7 ..))⟩))
ЛC5{it t:aq}{i:Г}{items:Array am}{Q:am->ao->В}(hh:A.handled=aB)(hit:s.heap.IsTupleIter it t i)(ht:s.heap.IsTuple t items)(hx:items[i]? =aB)
  (hE:∀h' e,Heap.ExtBut it s.heap h'->(∃o,h'.get? e=aA o/\o.cls= .type "StopIteration")->E (.ref e) {s with heap:=h'}):bc (b4 prog w) A (Builtin.SmallTypes.nextOf (.ref it)) Q E s:=by
 O⟨o,ho,hc,hd⟩:=id hit;O⟨ol,hol,_,nl,hdl⟩:=ht;unfold Builtin.SmallTypes.nextOf;R ad (d3 (name:=gr "__next__") hit.typeIs F.slot_tuple_iterator_next (dj F.slot_tuple_iterator_next hit.typeIs F.entry_tuple_iterator_next ?_ (F.args_tuple_iterator_next_1 _)));T bc _ _ (field (.ref it) 0 >>=_) _ _ s;R ad (wpAny_field ho hd (x:=.ref t) rfl ?_);show bc _ _ (if(bz t==cm)=aC then _ else _) _ _ s;rw[Д (show¬((bz t==cm)=aC)from bp)];show bc _ _ (field (.ref it) 1 >>=_) _ _ s;R ad (wpAny_field ho hd (x:=.int i 0) rfl ?_);show bc _ _ (seqItems? (.ref t) >>=_) _ _ s;R ad (wpAny_seqItems hol hdl ?_);simp only[gp,hx];R ad (wpAny_rule (ad (wpAny_setField ho hd К ?_)));show bc _ _ (newExc (.type "StopIteration") [] >>=_) _ _ _;R ad ?_;simp only[newExc,newTuple];R ad (dw ?_ (by size_fits));R ad (m:=firstArgMember _ _) (wpAny_of_eq (a:=cm) (by first|rfl| (simp only[firstArgMember];rfl)) ?_);R dw ?_ (by size_fits);simp only[raiseNew];R ad (wpAny_handled ?_);first|rw[show A.in1.handled=aB from hh]|rw[hh]
 R ad (ah (wpAny_throw ?_));E hE _ _ (((g7 ..).extBut.push _).push _) ⟨_,ba _ rfl,rfl⟩
ЛVt{h h':eh}{t it:aq}{items:Array am}(x:h.IsTuple t items)(hs:Heap.ExtBut it h h')(hne:t≠it):h'.IsTuple t items:=let⟨o,ho,r⟩:=x;⟨o,hs t o hne ho,r⟩
ЛZc9{prog:b5}{w:da}{A:dg}(hh:A.handled=aB)(it l:aq)(hne:l≠it)(items:Array am):
  Draws prog w A it [it,l] items.size (λi v=>items[i]? =aA v) (λi h=>h.IsTupleIter it l i/\h.IsTuple l items)where
 live:=λ_ _ st=>let⟨o,ho,_⟩:=st.1;⟨o,ho⟩
 frame:=λ_ _ _ st hk=>⟨st.1.at λo e=>hk it К o e,let⟨o,ho,r⟩:=st.2;⟨o,hk l К o ho,r⟩⟩
 item:=λi s Q E hi st hQ=>by R Ag st.1 st.2 (x:=items[i]) (by simp[hi]) λh' hit' hs'=>?_;E hQ _ h' s.toks (by simp[hi]) ⟨hit',Vt st.2 hs'.extBut hne⟩ hs'
 done:=λs Q E st hE=>C5 hh st.1 st.2 К hE
ЛPn(l:aq)(items:Array am)(n:Г)(dct:Б aq)(sl:Array (Б am)):
  Meets (Builtin.«enumerate.__new__» ⟨[.type "enumerate",.ref l],[]⟩) (λ_ R s=>s.heap.get? l=aA {cls:=.type "tuple",dict:=dct,data:=.seq items n,slots:=sl}/\
   R (.ok (.ret (.ref (s.heap.push {cls:=.type "tuple_iterator",data:=.fields #[.ref l,.int 0 0]}).objs.size))) {s with heap:=(s.heap.push {cls:=.type "tuple_iterator",data:=.fields #[.ref l,.int 0 0]}).push {cls:=.type "enumerate",data:=.fields #[.none,.bool aD,.ref s.heap.objs.size,rawInt 0,.none,.none]}}):=
 .of_wp λprog w A R s h=>by
  O⟨hp,g,d,tk,os⟩:=s;O⟨hl,h⟩:=h;V hsub:=sub_enumerate;V hL:Heap.IsTuple (Shared.heap ⟨hp,g,d,tk,os⟩) l items:=⟨_,hl,rfl,n,rfl⟩
  wp_walk using dy hl;R wpAny_stack_any λst=>ah ?_;split
  ·rename_i c _ _ _ _ _;cases(c==Value.type "enumerate")
   ·wp_walk using dy hl,wpAny_pyIter_tuple hL;E⟨_,rfl,h⟩
   ·wp_walk using dy hl,wpAny_pyIter_tuple hL;E⟨_,rfl,h⟩
  ·wp_walk using dy hl,wpAny_pyIter_tuple hL;E⟨_,rfl,h⟩
ЛKb{l:aq}{items:Array am}{Q:am->ao->В}(hL:s.heap.IsTuple l items)
  (h:∀h',IsEnum h' (s.heap.objs.size+1) s.heap.objs.size 0 .none->h'.IsTupleIter s.heap.objs.size l 0->h'.objs.size=s.heap.objs.size+2->(∀b o,s.heap.get? b=aA o->h'.get? b=aA o)->Q (.ref (s.heap.objs.size+1)) {s with heap:=h'}):
  bc (b4 prog w) A (call (.type "enumerate") [.ref l]) Q E s:=by
 O⟨⟨c,dct,dt,sl⟩,hl,hc,n,hd⟩:=hL;replace hc:c= .type "tuple":=hc;replace hd:dt= .seq items n:=hd;subst hc hd;R callType_new F.called_enumerate Й (F.typeCall_enumerate_1 _) (F.newCall_enumerate_1 _) (λobj=>F.args_object_init_2 obj _) F.entry_enumerate_new (Pn l items n dct sl) ⟨hl,?_⟩;V hz:(s.heap.push {cls:=.type "tuple_iterator",data:=.fields #[.ref l,.int 0 0]}).objs.size=s.heap.objs.size+1:=Heap.size_push ..;T _/\_;rw[hz];V he:IsEnum ((s.heap.push {cls:=.type "tuple_iterator",data:=.fields #[.ref l,.int 0 0]}).push {cls:=.type "enumerate",data:=.fields #[.none,.bool aD,.ref s.heap.objs.size,rawInt 0,.none,.none]}) (s.heap.objs.size+1) s.heap.objs.size 0 .none:=by V :=ba (s.heap.push {cls:=.type "tuple_iterator",data:=.fields #[.ref l,.int 0 0]}) (o:={cls:=.type "enumerate",data:=.fields #[.none,.bool aD,.ref s.heap.objs.size,rawInt 0,.none,.none]}) rfl;rw[hz]at this;E this
 E⟨⟨_,he,rfl⟩,h _ he ⟨_,av _ (ba _ rfl),rfl,rfl⟩ (by rw[Heap.size_push,hz]) λb o x=>av _ (av _ x)⟩
ЛPo{e it l:aq}{i:Г}{items:Array am}{old:am}{Q:Б am->ao->В}(hh:A.handled=aB)(he:IsEnum s.heap e it i old)(hit:s.heap.IsTupleIter it l i)(hl:s.heap.IsTuple l items)(hx:items[i]? =aB)
  (hQ:∀h',Heap.ExtBut it s.heap h'->Q aB {s with heap:=h'}):bc (b4 prog w) A (pyNext (.ref e)) Q E s:=by
 V hT:s.TypeIs (.ref e) "enumerate":=⟨_,he,rfl⟩;unfold pyNext;R ad (wpAny_attempt (d3 (name:=gr "__next__") hT F.slot_enumerate_next (dj F.slot_enumerate_next hT F.entry_enumerate_next ?_ (F.args_enumerate_next_1 _))));T bc _ _ (field (.ref e) 2 >>=_) _ _ _;R ad (wpAny_field he rfl (x:=.ref it) rfl ?_);R ad (C5 (by first|E hh| (rw[show A.in1.handled=A.handled from rfl];E hh)) hit hl hx λh' x he' hx'=>?_);O⟨o,ho,hc⟩:=hx';R ad (wpAny_isInstance (T:="StopIteration") (b:=aC) ⟨o,ho,hc⟩ isSubtype_stop ?_);E ah (hQ _ he')
end
section
variable{X:Cx}{tg:c5}
МZo2(K:af)(a:aq):It:=
 ⟨λi H=>∃xs x,Ov K H a xs/\xs[i]? =aA x,λi H x H'=>∃p v,x= .ref p/\H p=aB/\H'=Ya H p (.tup [.int (i:Г),v])/\∀xs,Ov K H a xs->xs[i]? =aA v,λi H=>∃xs,Ov K H a xs/\xs.length<=i⟩
ЛHs{P:b5}{w:da}{K:af}{elts:А c5}{kk:Г}{tpos:Pos}(a e it:aq)(hei:e≠it):Turn P w K (.Tuple elts kk tpos) (Zo2 K a) [e,it] e (λi h=>(∃old,IsEnum h e it ((i:Г):Int) old)/\h.IsTupleIter it a i)where
 mem:=by simp
 obj:=λi h st b hb=>by
  V hb':b=e\/b=it:=by simpa using hb
  rcases hb' with z|z
  ·subst z;O⟨old,q⟩:=st.1;E⟨_,q,λv y=>by
    V y':Data.fields _=Data.cell v:=y;C y'⟩
  ·subst z;O⟨o,q,c,d⟩:=st.2;E⟨o,q,λv y=>by rw[d]at y;C y⟩
 keep:=λi h h' st k=>⟨let⟨old,q⟩:=st.1;⟨old,k e К _ q⟩,st.2.at λo q=>k it К o q⟩
 item:=by
  intro X hP hw hK hc i pins s σ H E I hf st hg;subst hP hw hK;O⟨xs,x,hq,hx⟩:=hg;O⟨its,rv,p,hz⟩:=I.tuple hq;O⟨u,hu,ru⟩:=rv.get hx;O⟨⟨old,he⟩,hit⟩:=st;V hl:s.heap.IsTuple a its.toArray:=p;V ai:a≠it:=λz=>by O⟨o1,q1,c1,_⟩:=hit;O⟨o2,q2,c2,_⟩:=hl;rw[z,q1]at q2;C q2;rw[c1]at c2;E absurd c2 Й
  V ae:e∉[it,a]:=λz=>by
   V z':e=it\/e=a:=by simpa using z
   rcases z' with z|z
   ·E hei z
   ·O⟨o2,q2,c2,_⟩:=hl;rw[<-z,he]at q2;C q2;E absurd (show Value.type "enumerate"=Value.type "tuple"from c2) Й
  V D:=Zc9 (prog:=X.prog) (w:=X.w) (A:=X.A.in1) (by first|E I.ok.hd hc| (rw[show X.A.in1.handled=X.A.handled from rfl];E I.ok.hd hc)) it a ai its.toArray;V hlt:i<its.toArray.size:=by V :=(ay.mp hu).1;rw[bv];E this
  R wpAny_pyNext_enum_itemD D he ⟨hit,hl⟩ hlt hei ae λy h' tk hy hout st' hT hsz hk=>⟨.ref s.heap.objs.size,rfl,?_⟩
  R wpAny_letOwnedTupleGo_enum hout λh2 he2 hs2=>?_;V hy':its.toArray[i]? =aA y:=hy;V ey:y=u:=by
   V :its[i]? =aA y:=by simpa using hy'
   rw[hu]at this;C this;rfl
  subst ey;V kk:∀b o,b≠e->b≠it->s.heap.get? b=aA o->h2.get? b=aA o:=λb o h1 h3 q=>(hs2.2 b h1).trans (hk b o h1 h3 q);V neT:s.heap.objs.size≠e:=Nat.ne_of_gt (bh he);V I2:=I.turnedT (h':=h2) (t':=tk+1) (e:=e) (it:=it) (T:=s.heap.objs.size) (xs:=[.int (i:Г),x]) (its:=[.int i tk,y]) kk (hf e К) (hf it К) rfl ⟨_,(hs2.2 _ neT).trans hT,rfl,_,rfl⟩ (.cons ⟨tk,rfl⟩ (.cons ru .nil)) (by T 2<=sizeLine;decide)
   ⟨_,he2⟩ (let⟨o,q,_⟩:=st'.1;⟨o,(hs2.2 it (Ne.symm hei)).trans q⟩)
  R⟨.ref s.heap.objs.size,_,I2,rfl,⟨s.heap.objs.size,x,rfl,I.hok.fresh (a6 _),rfl,λys hy2=>by rw[I.tuple_inj hy2 hq];E hx⟩,⟨⟨_,he2⟩,st'.1.at λo q=>(hs2.2 it (Ne.symm hei)).trans q⟩,λb hb=>?_⟩;rw[Zw λz=>?_]
  ·E(hf b hb).1
  ·V hb':b=e\/b=it:=by simpa using hb
   rcases hb' with y|y
   ·rw[<-z,y]at neT;E neT rfl
   ·O⟨o,q,_⟩:=hit;rw[y]at z;E absurd (bh q) (by rw[z];E Nat.lt_irrefl _)
 done:=by intro X hP hw hK hc i pins s σ H E I hf st hg;subst hP hw hK;O⟨xs,hq,hx⟩:=hg;O⟨its,rv,p,hz⟩:=I.tuple hq;O⟨⟨old,he⟩,hit⟩:=st;O⟨f0,f1,f2,f3,f4,f5⟩:=hf it К;V hl:=rv.length;E Po (I.ok.hd hc) he hit (show s.heap.IsTuple a its.toArray from p) (by simp;W) λh' eb=>⟨rfl,I.turned (t':=s.toks) (λb o hb q=>eb b o hb q) f0 f1 f3 f4 f5⟩
 self:=λ_ _ _ _ _ st h=>let⟨⟨old,he⟩,_⟩:=st;wpAny_pyIter_enum he h
МZf3(K:af)(ta:TA):TI:=λσ H R=>ta σ H λvs H1=>∃a xs,vs=[.ref a]/\Ov K H1 a xs/\R (Zo2 K a) H1
ЛZf4{l:c5}{elts:А c5}{kk:Г}{tpos p pos:Pos}{ta:TA}(hg:Gl X "enumerate")(hm:X.mg "enumerate"=aB)(ha:PA X [l] ta)(hs:bd [l] X.env=[(aD,gy l X.env)]:=by rfl):
  PI X (.Tuple elts kk tpos) (.Call (.Name "enumerate" p) [l] [] pos) (Zf3 X.K ta):=by
 intro pins s σ H R I h;R Call_ (Bt I hg hm boot_enumerate (PyProof.Rows.callWith_type1 (Wv (ha pos pins s σ H _ I h) λus s1 ⟨vs,H1,I1,r1,q1⟩=>?_) hs rfl));O⟨a,xs,e,hq,q⟩:=q1;subst e;O⟨u,rfl,ru⟩:=Ul r1;C ru;O⟨its,rv,p,hz⟩:=I1.tuple hq;R Kb (show s1.heap.IsTuple a its.toArray from p) λh' he hit hsz hk=>wpAny_pyIter_enum he ?_;V I2:Inv X pins σ H1 {s1 with heap:=h'}:=I1.kept (t':=s1.toks) hk;R⟨s1.heap.objs.size+1,[s1.heap.objs.size+1,s1.heap.objs.size],_,_,H1,rfl,I2,Hs a _ _ (Nat.succ_ne_self _),⟨⟨.none,by simpa using he⟩,hit⟩,λb hb=>?_,q⟩;V hb':b=s1.heap.objs.size+1\/b=s1.heap.objs.size:=by simpa using hb
 rcases hb' with z|z
 ·subst z;E I1.fpOk (Nat.le_succ _) (I1.hok.fresh (Nat.le_succ _))
 ·subst z;E I1.fpOk (a6 _) (I1.hok.fresh (a6 _))
end
end L2
namespace DL
open PySem PySem.Spec PyProof.Rows L2
variable{K:af}
ЛPp{F:Hp}{a:aq}{xs:А D}{vs:А V}(h:Ov K F a vs)(r:Reps K F xs vs):U7 K (Zo2 K a) F (Q7 xs):=λF' H sF sH i=>by
 V q:Ov K H a vs:=Ql (sF.trans sH) h;R⟨λd hd=>?_,λhl=>⟨vs,q,by rw[<-r.length,<-Lf];E hl⟩⟩;O⟨x,hx,rfl⟩:=Le hd;O⟨v,h1,h2⟩:=r.get hx;R⟨⟨vs,v,q,h1⟩,λy H' zq9=>?_⟩;O⟨p,w,e1,e2,e3,e4⟩:=zq9;subst e1 e3;V e5:=e4 vs q;rw[h1]at e5;C e5;V hp:F' p=aB:=sH.free e2;V sm:Zi F' (Ut F' [(p,.tup [.int (i:Г),v])]):=Qw λz hz=>by obtain rfl:=au.mp hz;E hp
 R⟨J2 e2,[(p,.tup [.int (i:Г),v])],K9,λz hz=>?_,.tup Yt (.cons (.int _) (.cons (h2.mono (sF.trans sm)) .nil))⟩;obtain rfl:=au.mp hz;E⟨e2,Yt⟩
section
variable{Z:Ent K}{H:Hp}{σ:L2.St}{Q:VK}
НZf5(fd:FD):FD:=λδ=>(fd δ).bind λp=>match p.1 with
 | [.tup xs]=>aA (Q7 xs,p.2)
 |_=>aB
ЛZf6{fd:FD}{R:It->Hp->В}(h:Qf Z (Zf5 fd) σ H R):Zf3 K (W0 Z fd) σ H R:=by
 O⟨F,δ,own,ds,δ',s,e,k⟩:=h;O⟨⟨ds1,δ1⟩,e1,e2⟩:=aa.mp e;R⟨F,δ,own,ds1,δ1,s,e1,λvs H1 F1 own1 sH sF s1 r1=>?_⟩;dsimp only at e2;split at e2
 ·rename_i xs;C e2;cases r1 with
  |cons h t=>
   C t;cases h with
   |tup h r=>E⟨_,_,rfl,Ql s1.le (Rf h),k _ H1 F1 own1 sH sF s1 (Pp (Rf h) r)⟩
 ·C e2
end
section
variable{X:Cx}{Z:Ent X.K}{a:c5}{fa:FE}{pos:Pos}
НRp(fd:FD):FD:=λδ=>(fd δ).bind λp=>match p.1 with
 | [.lst xs]=>aA (Q7 xs,p.2)
 | [.tup xs]=>aA (Q7 xs,p.2)
 |_=>aB
ЛZf7{H:Hp}{σ:L2.St}{fd:FD}{R:It->Hp->В}(h:Qf Z (Rp fd) σ H R):Qf Z (Zmo fd) σ H R\/Qf Z (Zf5 fd) σ H R:=by
 O⟨F,δ,own,ds,δ',s,e,k⟩:=h;O⟨⟨ds1,δ1⟩,e1,e2⟩:=aa.mp e;dsimp only at e2;split at e2
 ·rename_i xs;E .inl ⟨F,δ,own,ds,δ',s,aa.mpr ⟨_,e1,e2⟩,k⟩
 ·rename_i xs;E .inr ⟨F,δ,own,ds,δ',s,aa.mpr ⟨_,e1,e2⟩,k⟩
 ·C e2
ЛMg{elts:А c5}{kk:Г}{tpos p:Pos}{fd:FD}(hm:X.mg "enumerate"=aB)(ha:PA X [a] (W0 Z fd))(hg:Gl X "enumerate":=by rfl)(hs:bd [a] X.env=[(aD,gy a X.env)]:=by rfl):
  PI X (.Tuple elts kk tpos) (.Call (.Name "enumerate" p) [a] [] pos) (Qf Z (Rp fd)):=λpins s σ H R I h=>by
 rcases Zf7 h with h|h
 ·E Zj4 hg hm ha hs pins s σ H R I (Zj5 h)
 ·E Zf4 hg hm ha hs pins s σ H R I (Zf6 h)
end
end DL
namespace L2
open PySem PySem.Spec PyProof.Rows
variable{X:Cx}
МZx0(K:af):V->А V->Hp->VK->Prop:=λx xs H Q=>∃sep p ys,x= .str sep/\xs=[.ref p]/\(W8 K H p (ys.map V.str)\/Ov K H p (ys.map V.str))/\JoinOk sep ys=aC/\Q (.str (Txt.join sep ys)) H
end L2
namespace DL
open PySem PySem.Spec PyProof.Rows L2
variable{K:af}
НZx1:А D->Б SV
 | [.str sep,.lst xs]=>(strs? xs).bind λys=>if JoinOk sep ys=aC then aA (.fz (.str (Txt.join sep ys)))else aB
 | [.str sep,.tup xs]=>(strs? xs).bind λys=>if JoinOk sep ys=aC then aA (.fz (.str (Txt.join sep ys)))else aB
 |_=>aB
end DL
namespace L2
open PySem PySem.Spec PyProof.Rows
variable{X:Cx}
МZs5:R2:=λx y H Q=>∃a v,x= .ref a/\Uk H a y (aA v)/\Q v H
МZf8:R2:=λy x H Q=>∃a o,x= .ref a/\Uk H a y o/\Q (.bl o.isSome) H
МMh:R2:=λy x H Q=>∃a o,x= .ref a/\Uk H a y o/\Q (.bl (!o.isSome)) H
ЛHt(hu:X.A.units+1<f7):Cw X (gz .In) Zf8:=by intro pins s σ H y x v u Q I ry rx h;O⟨a,o,rfl,g,q⟩:=h;C rx;E Zws hu I g ry λs' I'=>⟨.bl o.isSome,H,I',rfl,q⟩
ЛKc(hu:X.A.units+1<f7):Cw X (gz .NotIn) Mh:=by intro pins s σ H y x v u Q I ry rx h;O⟨a,o,rfl,g,q⟩:=h;C rx;E Zjm hu I g ry λs' I'=>⟨.bl (!o.isSome),H,I',rfl,q⟩
end L2
namespace DL
open PySem PySem.Spec PyProof.Rows L2
variable{K:af}
НD.key?:D->Б Key
 | .int i=>aA (.inl i)
 | .str x=>aA (.inr x)
 |_=>aB
Нkeys?:А D->Б (А Key)
 | []=>aA []
 |d::r=>d.key?.bind λk=>(keys? r).bind λt=>aA (k::t)
section
variable{κ:Type}[DecidableEq κ]
Нlook(ks:А κ)(vs:А D)(k:κ):Б D:=match ks,vs with
 |a::ks,v::vs=>if a=k then aA v else look ks vs k
 |_,_=>aB
ЛAo{F:Hp}(k:κ):∀(kvs:А (κ×V)) (ds:А D),Reps K F ds (kvs.map (·.2))->match look (kvs.map (·.1)) ds k with
  |some d=>∃v,Qk kvs k=aA v/\Rep K F d v
  |none=>Qk kvs k=aB
 | [],_,r=>by C r;E Ze4
 |p::kvs,_,r=>by
  cases r with
  | @cons d v ds vs h t=>
   T match(if p.1=k then aA d else look (kvs.map (·.1)) ds k)with
    |some d=>∃v,Qk (p::kvs) k=aA v/\Rep K F d v
    |none=>Qk (p::kvs) k=aB
   by_cases e:p.1=k
   ·rw[Е e];E⟨p.2,Bi e,h⟩
   ·rw[Д e,U5 e];E Ao k kvs ds t
НY4(ks:А κ)(vs:А D)(k:κ)(v:D):А κ×А D:=
 if k∈ks then(ks,(ks.zip vs).map λp=>if p.1=k then v else p.2)else(ks++[k],vs++[v])
ЛReps.length_map{F:Hp}{α:Type}{ds:А D}{kvs:А (α×V)}(r:Reps K F ds (kvs.map (·.2))):ds.length=kvs.length:=by rw[r.length,aj]
ЛZaw{F:Hp}{k:κ}{d:D}{v:V}(hd:Rep K F d v):∀(kvs:А (κ×V)) (ds:А D),Reps K F ds (kvs.map (·.2))->
  Reps K F (((kvs.map (·.1)).zip ds).map λp=>if p.1=k then d else p.2) ((kvs.map λkv=>if kv.1=k then(kv.1,v)else kv).map (·.2))
 | [],_,r=>by C r;E .nil
 |p::kvs,_,r=>by
  cases r with
  | @cons d' v' ds vs h t=>
   V ih:=Zaw (k:=k) hd kvs ds t;T Reps K F ((if p.1=k then d else d')::(((kvs.map (·.1)).zip ds).map λp=>if p.1=k then d else p.2)) ((if p.1=k then(p.1,v)else p).2::((kvs.map λkv=>if kv.1=k then(kv.1,v)else kv).map (·.2)));R .cons ?_ ih;by_cases e:p.1=k
   ·rw[Е e,Е e];E hd
   ·rw[Д e,Д e];E h
ЛZf9{k:κ}{v:V}(kvs:А (κ×V)):(kvs.map λkv=>if kv.1=k then(kv.1,v)else kv).map (·.1)=kvs.map (·.1):=by rw[bo];R f8 λp _=>?_;show(if p.1=k then(p.1,v)else p).1=p.1;split<;> rfl
ЛMi(k:κ)(kvs:А (κ×V)):(kvs.any λkv=>decide (kv.1=k))=aC↔k∈kvs.map (·.1):=by
 rw[List.any_eq_true,aw];constructor
 ·rintro⟨p,h1,h2⟩;E⟨p,h1,of_decide_eq_true h2⟩
 ·rintro⟨p,h1,h2⟩;E⟨p,h1,decide_eq_true h2⟩
ЛHu{F:Hp}{k:κ}{d:D}{v:V}(hd:Rep K F d v)(kvs:А (κ×V))(ds:А D)(r:Reps K F ds (kvs.map (·.2))):
  (Q4 kvs k v).map (·.1)=(Y4 (kvs.map (·.1)) ds k d).1/\Reps K F (Y4 (kvs.map (·.1)) ds k d).2 ((Q4 kvs k v).map (·.2)):=by
 unfold Q4 Y4;by_cases h:k∈kvs.map (·.1)
 ·rw[Е h,Е ((Mi k kvs).mpr h)];E⟨Zf9 kvs,Zaw hd kvs ds r⟩
 ·rw[Д h,Д λz=>h ((Mi k kvs).mp z),b7,b7];E⟨rfl,r.snoc hd⟩
end
ЛPq{F H:Hp}{d:D}{k:Key}{y:V}(e:d.key? =aA k)(r:Yd K F H d y):y=kV k:=by
 cases d with
 |int i=>C e;E r.int
 |str x=>C e;E r.str
 |_=>C e
ЛZax{F:Hp}{d:D}{k:Key}{y:V}(e:d.key? =aA k)(r:Rep K F d y):y=kV k:=Pq (H:=F) e (Yd.of r)
ЛPr{F:Hp}:∀{ds:А D} {ks:А Key} {vs:А V},keys? ds=aA ks->Reps K F ds vs->vs=ks.map kV
 | [],_,_,e,r=>by C e;C r;rfl
 |d::ds,_,_,e,r=>by
  cases r with
  |cons h t=>O⟨k,e1,e2⟩:=aa.mp e;O⟨t',e3,e4⟩:=aa.mp e2;C e4;rw[Zax e1 h,Pr e3 t];rfl
ЛYd.tupH{F H:Hp}{xs:А D}{v:V}(le:Zi F H)(h:Yd K F H (.tup xs) v):∃a vs,v= .ref a/\H a=aA (.tup vs)/\Reps K F xs vs:=by
 O⟨sv,ns,e,n,sh,hp⟩:=h;cases sh with
 |fz r=>C e;cases r with|tup h r=>E⟨_,_,rfl,le _ _ h,r⟩
 |ol r=>C e
 |oK e' r=>C e
 |oT kb e' r=>C e
 |oN e' r=>C n
 |oX kb' e' r=>C n
 |oL _ r=>C n
 |oQ e' r=>C e
НHv:D->D->Б (Б D)
 | .dK ks vs,d=>d.key?.bind λk=>aA (look ks vs k)
 | .dT ks vs,.tup xs=>(keys? xs).bind λk=>aA (look ks vs k)
 |_,_=>aB
ЛE1{F H:Hp}{d1 d2:D}{x y:V}{o:Б D}(le:Zi F H)(e:Hv d1 d2=aA o)(r1:Yd K F H d1 x)(r2:Yd K F H d2 y):
  ∃a,x= .ref a/\IsD H a/\match o with
   |some d=>∃v,Uk H a y (aA v)/\Rep K F d v
   |none=>Uk H a y aB:=by
 unfold Hv at e;split at e
 ·O⟨k,e1,e2⟩:=aa.mp e;O⟨a,kvs,rfl,ha,rfl,rr⟩:=r1.dK le;R⟨a,rfl,.inl ⟨kvs,ha.rd⟩,?_⟩;rw[Pq e1 r2];V z:=Ao k kvs _ rr;V g:=Uk.k (k:=k) ha;rw[dk.inj e2]at z;cases o with
  |none=>rw[show Qk kvs k=aB from z]at g;E g
  |some d=>O⟨v,z1,z2⟩:=z;rw[z1]at g;E⟨v,g,z2⟩
 ·O⟨k,e1,e2⟩:=aa.mp e;O⟨a,kvs,rfl,ha,rfl,rr⟩:=r1.dT le;O⟨b,vs,rfl,hb,rb⟩:=r2.tupH le;R⟨a,rfl,.inr ⟨kvs,ha.rd⟩,?_⟩;rw[Pr e1 rb]at hb;V z:=Ao k kvs _ rr;V g:=Uk.t ha hb;rw[dk.inj e2]at z;cases o with
  |none=>rw[show Qk kvs k=aB from z]at g;E g
  |some d=>O⟨v,z1,z2⟩:=z;rw[z1]at g;E⟨v,g,z2⟩
 ·C e
section
variable{Z:Ent K}
НZga(d1 d2:D):Б SV:=(Hv d1 d2).bind λo=>o.bind λd=>aA (.fz d)
ЛZo3:Y8 Z Zs5 Zga:=by intro F H σ δ own x y d1 d2 sv Q s r1 r2 e k;O⟨o,e1,e2⟩:=aa.mp e;O⟨d,e3,e4⟩:=aa.mp e2;C e4;subst e3;O⟨a,rfl,_,v,g,rv⟩:=E1 s.le e1 r1 r2;E⟨a,v,rfl,g,k.fz s rv⟩
НZs6(d1 d2:D):Б SV:=(Hv d2 d1).bind λo=>aA (.fz (.bl o.isSome))
НZay(d1 d2:D):Б SV:=(Hv d2 d1).bind λo=>aA (.fz (.bl (!o.isSome)))
ЛZo4:Y8 Z Zf8 Zs6:=by
 intro F H σ δ own x y d1 d2 sv Q s r1 r2 e k;O⟨o,e1,e2⟩:=aa.mp e;C e2;O⟨a,rfl,_,g⟩:=E1 s.le e1 r2 r1;cases o with
 |none=>E⟨a,aB,rfl,g,k.fz s (.bl _)⟩
 |some d=>O⟨v,g,_⟩:=g;E⟨a,aA v,rfl,g,k.fz s (.bl _)⟩
ЛZda:Y8 Z Mh Zay:=by
 intro F H σ δ own x y d1 d2 sv Q s r1 r2 e k;O⟨o,e1,e2⟩:=aa.mp e;C e2;O⟨a,rfl,_,g⟩:=E1 s.le e1 r2 r1;cases o with
 |none=>E⟨a,aB,rfl,g,k.fz s (.bl _)⟩
 |some d=>O⟨v,g,_⟩:=g;E⟨a,aA v,rfl,g,k.fz s (.bl _)⟩
НD.isD:D->Bool
 | .dK _ _=>aC| .dT _ _=>aC|_=>aD
НOz(d1 d2:D):Б SV:=if d1.isD=aC then Zga d1 d2 else ixD d1 d2
НinX(d1 d2:D):Б SV:=if d2.isD=aC then Zs6 d1 d2 else inD d1 d2
НHw(d1 d2:D):Б SV:=if d2.isD=aC then Zay d1 d2 else Pl d1 d2
ЛZdb{H:Hp}{σ:L2.St}{Q:VK}{fa fb:FE}{g g1 g2':D->D->Б SV}(hg:∀d1 d2 sv,g d1 d2=aA sv->g1 d1 d2=aA sv\/g2' d1 d2=aA sv)(h:Ze Z (Zo g fa fb) σ H Q):Ze Z (Zo g1 fa fb) σ H Q\/Ze Z (Zo g2' fa fb) σ H Q:=by
 O⟨F,δ,own,rv,δ',s,e,k⟩:=h;O⟨⟨rvs,δ1⟩,e1,e2⟩:=aa.mp e;O⟨ds,e3,e4⟩:=aa.mp e2;O⟨sv,e5,e6⟩:=aa.mp e4;V :(g2 g1) ds=aA sv\/(g2 g2') ds=aA sv:=by
  unfold g2 at e5⊢;split at e5
  ·E hg _ _ _ e5
  ·C e5
 rcases this with z|z
 ·E .inl ⟨F,δ,own,rv,δ',s,aa.mpr ⟨_,e1,aa.mpr ⟨_,e3,aa.mpr ⟨_,z,e6⟩⟩⟩,k⟩
 ·E .inr ⟨F,δ,own,rv,δ',s,aa.mpr ⟨_,e1,aa.mpr ⟨_,e3,aa.mpr ⟨_,z,e6⟩⟩⟩,k⟩
ЛZs7:Y8 Z (λx y H Q=>(∃i j,x= .str i/\y= .str j/\Q (.bl (!(dr j i 0 j.length 1).isEmpty)) H)\/Zf8 x y H Q) inX:=by
 intro F H σ δ own x y d1 d2 sv Q s r1 r2 e k;unfold inX at e;split at e
 ·E .inr (Zo4 F H σ δ own x y d1 d2 sv Q s r1 r2 e k)
 ·E .inl (Zxx F H σ δ own x y d1 d2 sv Q s r1 r2 e k)
ЛZgb:Y8 Z (λx y H Q=>(∃i j,x= .str i/\y= .str j/\Q (.bl (!(!(dr j i 0 j.length 1).isEmpty))) H)\/Mh x y H Q) Hw:=by
 intro F H σ δ own x y d1 d2 sv Q s r1 r2 e k;unfold Hw at e;split at e
 ·E .inr (Zda F H σ δ own x y d1 d2 sv Q s r1 r2 e k)
 ·E .inl (Zkd F H σ δ own x y d1 d2 sv Q s r1 r2 e k)
end
section
variable{X:Cx}{Z:Ent X.K}{a b c:c5}{fa fb fc:FE}{pos:Pos}
ЛYj(hu:X.A.units+1<f7)(ha:PE X a (Ze Z fa))(hb:PE X b (Ze Z fb))(hs:N4 b:=by intro _ _;rfl):PE X (.Subscript a b pos) (Ze Z (Zo Oz fa fb)):=λpins s σ H Q I h=>by
 rcases Zdb (g1:=Zga) (g2':=ixD) (λd1 d2 sv e=>by
  unfold Oz at e;split at e
  ·E .inl e
  ·E .inr e) h with h|h
 ·E Zjn hu ha hb hs pins s σ H Q I (La Zo3 h)
 ·E Zl8 Zey ha hb hs pins s σ H Q I (La Zso h)
end
end DL
namespace L2
open PySem PySem.Spec PyProof.Rows
variable{X:Cx}
МZgc:V->А V->Hp->VK->Prop:=λx xs H Q=>∃a,x= .ref a/\((∃y o,xs=[y]/\Uk H a y o/\Q (o.getD .non) H)\/(∃y z o,xs=[y,z]/\Uk H a y o/\Q (o.getD z) H))
ЛZkf(hu:X.A.units+1<f7):MtR X "dict.get" Zgc:=by
 intro pins s σ H x xs v us Q I rx rs h;O⟨a,rfl,h⟩:=h;C rx;rcases h with⟨y,o,rfl,g,q⟩|⟨y,z,o,rfl,g,q⟩
 ·O⟨u,rfl,ru⟩:=Ul rs;E Zok hu I g ru λw' s' I' r'=>⟨_,H,I',r',q⟩
 ·O⟨u,w',rfl,r1,r2⟩:=Zl5 rs;E Zol hu I g r1 r2 λw' s' I' r'=>⟨_,H,I',r',q⟩
end L2
namespace DL
open PySem PySem.Spec PyProof.Rows L2
variable{K:af}
section
variable{Z:Ent K}{H:Hp}{σ:L2.St}{Q:VK}{E:Ends}
НLi:FE:=λδ=>aA (.tmp (.oK [] []),δ)
НZaz:FE:=λδ=>aA (.tmp (.oT [] []),δ)
ЛZkg(h:Ze Z Li σ H Q):Ze7 σ H Q:=by O⟨F,δ,own,rv,δ',s,e,k⟩:=h;C e;intro p hp;V f:Fin Z F H σ δ own (.oK [] []) Q:=λv H' F' ns a b c t=>k v H' F' own a b c ⟨ns,t⟩;E f.one s (.oK (kvs:=[]) rfl .nil) hp
ЛZkh(h:Ze Z Zaz σ H Q):Ze8 σ H Q:=by O⟨F,δ,own,rv,δ',s,e,k⟩:=h;C e;intro p hp;V f:Fin Z F H σ δ own (.oT [] []) Q:=λv H' F' ns a b c t=>k v H' F' own a b c ⟨ns,t⟩;E f.one s (.oT (kvs:=[]) .nil rfl .nil) hp
НSV.isOD:Б (Б SV)->Bool
 |some (aA (.oK _ _))=>aC
 |some (aA (.oT _ _))=>aC
 |some (aA (.oQ _ _ _))=>aC
 |_=>aD
НZs8(kd d:D):Б (Б SV)->Б SV
 |some (aA (.oK ks vs))=>kd.key?.bind λk=>if vs.length<bg then aA (.oK (Y4 ks vs k d).1 (Y4 ks vs k d).2)else aB
 |some (aA (.oT ks vs))=>match kd with
  | .tup xs=>(keys? xs).bind λk=>if vs.length<bg then aA (.oT (Y4 ks vs k d).1 (Y4 ks vs k d).2)else aB
  |_=>aB
 |some (aA (.oQ q ks vs))=>kd.key?.bind λk=>if vs.length<bg then aA (.oQ q (Y4 ks vs k d).1 (Y4 ks vs k d).2)else aB
 |_=>aB
НRk(i:Г)(fk fv:FE):FS:=λδ=>(fv δ).bind λp=>(frz p.1 p.2).bind λq=>if SV.isOD (q.2[i]?)=aC then(fk q.2).bind λr=>(Pe r.1 r.2).bind λkd=>(Zs8 kd q.1 (r.2[i]?)).bind λsv=>aA (.nx (r.2.set i (aA sv)))else aB
ЛZgd{F:Hp}{ks:А Key}{ds:А D}{v:V}{ns:Zs}(h:Shape K F (.oK ks ds) v ns):∃a kvs ep,v= .ref a/\ns=[(a,.dK kvs ep)]/\kvs.map (·.1)=ks/\Reps K F ds (kvs.map (·.2)):=by
 cases h with
 |oK e r=>E⟨_,_,_,rfl,rfl,e,r⟩
ЛZge{F:Hp}{q:aq}{ks:А Key}{ds:А D}{v:V}{ns:Zs}(h:Shape K F (.oQ q ks ds) v ns):∃kvs ep,v= .ref q/\ns=[(q,.dK kvs ep)]/\kvs.map (·.1)=ks/\Reps K F ds (kvs.map (·.2)):=by
 cases h with
 |oQ e r=>E⟨_,_,rfl,rfl,e,r⟩
ЛZgf{F:Hp}{ks:А (А Key)}{ds:А D}{v:V}{ns:Zs}(h:Shape K F (.oT ks ds) v ns):∃a kvs ep bs,v= .ref a/\ns=[(a,.dT kvs ep bs)]/\KB F kvs bs/\kvs.map (·.1)=ks/\Reps K F ds (kvs.map (·.2)):=by
 cases h with
 |oT kb e r=>E⟨_,_,_,_,rfl,rfl,kb,e,r⟩
ЛKB.put{F:Hp}{kvs:А (А Key×V)}{bs:А aq}{k:А Key}{b:aq}{v:V}(h:KB F kvs bs)(hb:F b=aA (.tup (k.map kV))):KB F (Q4 kvs k v) (S2 kvs bs k b):=by
 unfold Q4 S2;split
 ·unfold KB at*;clear hb;rename_i hq;clear hq;induction h with
  |nil=>E .nil
  | @cons p c ps cs h1 t ih=>
   rw[a7];R .cons ?_ ih;by_cases e:p.1=k
   ·rw[Е e];E h1
   ·rw[Д e];E h1
 ·E Paired.snoc h hb
ЛYd.tupF{F H:Hp}{xs:А D}{v:V}(h:Yd K F H (.tup xs) v):∃a vs,v= .ref a/\F a=aA (.tup vs)/\Reps K F xs vs:=by
 O⟨sv,ns,e,n,sh,hp⟩:=h;cases sh with
 |fz r=>C e;cases r with|tup h r=>E⟨_,_,rfl,h,r⟩
 |ol r=>C e
 |oK e' r=>C e
 |oT kb e' r=>C e
 |oN e' r=>C n
 |oX kb' e' r=>C n
 |oL _ r=>C n
 |oQ e' r=>C e
ЛZki{o:Б (Б SV)}(h:SV.isOD o=aC):∃sv,o=aA (aA sv):=by
 unfold SV.isOD at h;split at h
 ·E⟨_,rfl⟩
 ·E⟨_,rfl⟩
 ·E⟨_,rfl⟩
 ·C h
ЛZs9{i:Г}{fk fv:FE}(h:Z8 Z (Rk i fk fv) E σ H):Zmb (Cy i) (Ze Z fk) (Ze Z fv) E σ H:=by
 O⟨F,δ,own,fl,s,e,k⟩:=h;O⟨⟨rv,δ1⟩,e1,e⟩:=aa.mp e;O⟨⟨d,δ2⟩,e2,e⟩:=aa.mp e;dsimp only at e;split at e
 ·rename_i hod;O⟨⟨rk,δ3⟩,e3,e⟩:=aa.mp e;O⟨kd,e4,e⟩:=aa.mp e;O⟨sv,e5,e⟩:=aa.mp e;C e;R⟨F,δ,own,rv,δ1,s,e1,λv H1 F1 own1 sH1 sF1 s1 r1=>?_⟩;O⟨F2,sF2,s2,r2⟩:=s1.settleR r1;O⟨F3,own3,sF3,s3,r3⟩:=s2.frzR r2 e2;O⟨sv0,hsv0⟩:=Zki hod;O⟨x,hx,_⟩:=s3.at' i sv0 hsv0;R⟨x,hx,F3,δ2,own3,rk,δ3,s3,e3,λy H4 F4 own4 sH4 sF4 s4 r4=>?_⟩;O⟨F5,sF5,s5,r5⟩:=s4.settleR r4;V rk':=s5.rd r5 e4;V rd:Rep K F5 d v:=r3.mono (sF4.trans sF5);V sF:Zi F F5:=sF1.trans (sF2.trans (sF3.trans (sF4.trans sF5)));dsimp only at e5;generalize ho:δ3[i]? =o at e5;unfold Zs8 at e5;split at e5
  ·rename_i ks vs;O⟨kk,f1,f2⟩:=aa.mp e5;split at f2
   ·rename_i hz;C f2;O⟨x',hx',sh⟩:=s5.at' i _ ho;rw[hx]at hx';C hx';O⟨a,kvs,ep0,ea,en,rfl,rr⟩:=Zgd sh;subst ea;V mb:(a,HO.dK kvs ep0)∈own4 i:=by rw[en];E ag
    V hH:=(s5.ok i _ mb).2.2;V z:=Hu (k:=kk) rd kvs vs rr;R⟨a,rfl,?_⟩;rw[Pq f1 rk'];R Fx.k ⟨_,hH⟩ (by rw[<-rr.length_map];E hz) λep=>?_;E k σ _ F5 _ sF (s5.change (sv':=.oK (Y4 (kvs.map (·.1)) vs kk d).1 (Y4 (kvs.map (·.1)) vs kk d).2) (o':=.dK (Q4 kvs kk v) ep) (ns':=[(a,.dK (Q4 kvs kk v) ep)]) ho hx mb (.oK z.1 z.2) (λp hp=>.inl (au.mp hp)) K9)
   ·C f2
  ·rename_i ks vs;split at e5
   ·rename_i xs;O⟨kk,f1,f2⟩:=aa.mp e5;split at f2
    ·rename_i hz;C f2;O⟨x',hx',sh⟩:=s5.at' i _ ho;rw[hx]at hx';C hx';O⟨a,kvs,ep0,bs0,ea,en,kb,rfl,rr⟩:=Zgf sh;subst ea;V mb:(a,HO.dT kvs ep0 bs0)∈own4 i:=by rw[en];E ag
     V hH:=(s5.ok i _ mb).2.2;V z:=Hu (k:=kk) rd kvs vs rr;O⟨b,us,rfl,hbF,rb⟩:=rk'.tupF;rw[Pr f1 rb]at hbF;R⟨a,rfl,Fx.t ⟨_,_,hH⟩ (s5.le _ _ hbF) (by rw[<-rr.length_map];E hz) λep ep1 bs1 hq=>?_⟩;rw[hH]at hq;C hq;E k σ _ F5 _ sF (s5.change (sv':=.oT (Y4 (kvs.map (·.1)) vs kk d).1 (Y4 (kvs.map (·.1)) vs kk d).2) (o':=.dT (Q4 kvs kk v) ep (S2 kvs bs0 kk b)) (ns':=[(a,.dT (Q4 kvs kk v) ep (S2 kvs bs0 kk b))]) ho hx mb (.oT (kb.put hbF) z.1 z.2) (λp hp=>.inl (au.mp hp)) K9)
    ·C f2
   ·C e5
  ·rename_i q ks vs;O⟨kk,f1,f2⟩:=aa.mp e5;split at f2
   ·rename_i hz;C f2;O⟨x',hx',sh⟩:=s5.at' i _ ho;rw[hx]at hx';C hx';O⟨kvs,ep0,ea,en,rfl,rr⟩:=Zge sh;subst ea;V mb:(q,HO.dK kvs ep0)∈own4 i:=by rw[en];E ag
    V hH:=(s5.ok i _ mb).2.2;V z:=Hu (k:=kk) rd kvs vs rr;R⟨q,rfl,?_⟩;rw[Pq f1 rk'];R Fx.k ⟨_,hH⟩ (by rw[<-rr.length_map];E hz) λep=>?_;E k σ _ F5 _ sF (s5.change (sv':=.oQ q (Y4 (kvs.map (·.1)) vs kk d).1 (Y4 (kvs.map (·.1)) vs kk d).2) (o':=.dK (Q4 kvs kk v) ep) (ns':=[(q,.dK (Q4 kvs kk v) ep)]) ho hx mb (.oQ z.1 z.2) (λp hp=>.inl (au.mp hp)) K9)
   ·C f2
  ·C e5
 ·C e
НZgg(T:String)(g:D->А D->Б SV)(fo:FE)(fd:FD):FE:=λδ=>(fo δ).bind λp=>(Pe p.1 p.2).bind λd0=>if Zft T d0=aC then(fd p.2).bind λq=>(Pe p.1 q.2).bind λd1=>(g d1 q.1).bind λsv=>aA (.tmp sv,q.2)else aB
МZms(Z:Ent K)(r:V->А V->Hp->VK->В)(g:D->А D->Б SV):Prop:=
 ∀(F H:Hp) (σ:L2.St) (δ:Yq) (own:Г->Zs) (x:V) (d:D) (vs:А V) (ds:А D) (sv:SV) (Q:VK),SR Z F H σ δ own->Yd K F H d x->Reps K F ds vs->g d ds=aA sv->Fin Z F H σ δ own sv Q->r x vs H Q
ЛZta{T:String}{r:V->А V->Hp->VK->В}{g:D->А D->Б SV}{fo:FE}{fd:FD}(hg:Zms Z r g)(h:Ze Z (Zgg T g fo fd) σ H Q):tBM K T r (Ze Z fo) (W0 Z fd) σ H Q:=by
 O⟨F,δ,own,rv,δ',s,e,k⟩:=h;O⟨⟨rv1,δ1⟩,e1,e⟩:=aa.mp e;O⟨d0,e2,e⟩:=aa.mp e;dsimp only at e;split at e
 ·rename_i ht;O⟨⟨ds,δ2⟩,e3,e⟩:=aa.mp e;O⟨d1,e4,e⟩:=aa.mp e;O⟨sv,e5,e⟩:=aa.mp e;C e;R⟨F,δ,own,rv1,δ1,s,e1,λv H1 F1 own1 sH1 sF1 s1 r1=>?_⟩;O⟨F1',sF1',s1',r1'⟩:=s1.settleR r1;R⟨Zsr s1'.le (s1'.rd r1' e2) ht,F1',δ1,own1,ds,δ2,s1',e3,λvs H2 F2 own2 sH2 sF2 s2 r2=>?_⟩;E hg F2 H2 σ δ2 own2 v d1 vs ds sv Q s2 (s2.rd (r1'.mono sF2) e4) r2 e5 λq H4 F4 ns sH4 sF4 s4 t4=>
   k q H4 F4 own2 (sH1.trans (sH2.trans sH4)) (sF1.trans (sF1'.trans (sF2.trans sF4))) s4 ⟨ns,t4⟩
 ·C e
НTg:D->А D->Б SV
 |d,[y]=>(Hv d y).bind λo=>aA (.fz (o.getD .non))
 |d,[y,z]=>(Hv d y).bind λo=>aA (.fz (o.getD z))
 |_,_=>aB
ЛZkj:Zms Z Zgc Tg:=by
 intro F H σ δ own x d vs ds sv Q s r1 r2 e k;unfold Tg at e;split at e
 ·O⟨o,e1,e2⟩:=aa.mp e;C e2;cases r2 with
  |cons h t=>
   C t;O⟨a,rfl,_,g⟩:=E1 s.le e1 r1 (Yd.of h);cases o with
   |none=>E⟨a,rfl,.inl ⟨_,aB,rfl,g,k.fz s .non⟩⟩
   |some d=>O⟨v,g,rv⟩:=g;E⟨a,rfl,.inl ⟨_,aA v,rfl,g,k.fz s rv⟩⟩
 ·O⟨o,e1,e2⟩:=aa.mp e;C e2;cases r2 with
  |cons h t=>
   cases t with
   |cons h2 t=>
    C t;O⟨a,rfl,_,g⟩:=E1 s.le e1 r1 (Yd.of h);cases o with
    |none=>E⟨a,rfl,.inr ⟨_,_,aB,rfl,g,k.fz s h2⟩⟩
    |some d=>O⟨v,g,rv⟩:=g;E⟨a,rfl,.inr ⟨_,_,aA v,rfl,g,k.fz s rv⟩⟩
 ·C e
end
section
variable{X:Cx}{Z:Ent X.K}{a b c:c5}{fa fb fc:FE}{pos:Pos}
ЛAp:PE X (.Dict [] [] pos) (Ze Z Li):=Ze9.imp λ_ _ _ h=>Zkg h
ЛZa0:PE X (.Dict [] [] pos) (Ze Z Zaz):=Zfa.imp λ_ _ _ h=>Zkh h
ЛHx{apos cpos:Pos}{es:А c5}{fd:FD}(hu:X.A.units+1<f7)(ha:PE X a (Ze Z fa))(hb:PA X (b::es) (W0 Z fd))(hbase:attributeBase a "get" X.env (gy a X.env)=gy a X.env:=by rfl)
  (hfew:((gx cpos (bd (b::es) X.env)).all (λx=>!x.1)&&(backToKw cpos (keywordEach [] X.env)).all (λx=>x.1.isSome)&&decide ((b::es).length+([]:А Keyword).length+(if([]:А Keyword).isEmpty then 0 else 1)<30))=aC:=by rfl)
  (hline:(apos.endLine==cpos.line)=aC:=by rfl) (hs:bd (b::es) X.env=(aD,gy b X.env)::bd es X.env:=by rfl) (hpl:(gx cpos (bd es X.env)).any (·.1)=aD:=by rfl):
  PE X (.Call (.Attribute a "get" apos) (b::es) [] cpos) (Ze Z (Zgg "dict" Tg fa fd)):=
 (Va PySem.F.plainAttrs_dict PySem.F.slot_dict_get PySem.F.type_dict_get (Zkf hu) ha hb hbase hfew hline hs hpl).imp λ_ _ _ h=>Zta Zkj h
ЛMj(i:Г){x:Str}{px p1:Pos}(hu:X.A.units+1<f7)(hb:PE X b (Ze Z fb))(hv':PE X a (Ze Z fa))(hN:X.N[i]? =aA x:=by rfl)(hv:Vis X.env.scope x:=by first|E Or.inl rfl|E Or.inr (Or.inl rfl)|E Or.inr (Or.inr rfl))(hd:(x==("__debug__":Str))=aD:=by decide)
  (hcd:(x==("__classdict__":Str))=aD:=by decide) (hs:swapsWith a (aA (.Subscript (.Name x px) b p1)) pos.line X.env=pure aD:=by rfl):
  PS X (.Assign [.Subscript (.Name x px) b p1] a pos) (Z8 Z (Rk i fb fa)):=(Zjo hu (Ba (i:=i) hN hv hd hcd) hb hv' hs).imp λ_ _ _ h=>Zs9 h
end
end DL
namespace L2
open PySem PySem.Spec PyProof.Rows
variable{X:Cx}
МZa1:А V->Hp->VK->Prop:=λxs H Q=>∃a kvs,xs=[.ref a]/\RdK H a kvs/\∀p ep,H p=aB->Q (.ref p) (Ya H p (.dK kvs ep))
ЛVu:Q6 X (.type "dict") Za1:=by intro pins s σ H xs us Q I rs h;O⟨a,kvs,rfl,e,q⟩:=h;O⟨u,rfl,ru⟩:=Ul rs;C ru;E Zfc I e λp ep s' hp I'=>⟨.ref p,_,I',rfl,q p ep hp⟩
end L2
namespace DL
open PySem PySem.Spec PyProof.Rows L2
variable{K:af}
section
variable{Z:Ent K}{H:Hp}{σ:L2.St}{Q:VK}{E:Ends}
НZa2:А D->Б SV
 | [.dK ks vs]=>aA (.oK ks vs)
 |_=>aB
ЛZgh:U6 Z Za1 Za2:=by
 intro F H σ δ own vs ds sv Q s r e k;unfold Za2 at e;split at e
 ·C e;cases r with
  |cons h t=>C t;O⟨a,kvs,rfl,ha,ek,rr⟩:=h.dK s.le;E⟨a,kvs,rfl,ha.rd,λp ep hp=>k.one s (.oK ek rr) hp⟩
 ·C e
НZx3(k:Str)(i:Г):FE:=λδ=>match δ[i]? with
 |some (aA sv)=>aA (.tmp (.oK [.inr k] [sv.toD]),δ.set i (aA (.fz sv.toD)))
 |_=>aB
НZmt(ks:А Key)(vs:А D)(k:Key):А Key×А D:=(((ks.zip vs).filter λp=>decide (p.1≠k)).map (·.1),((ks.zip vs).filter λp=>decide (p.1≠k)).map (·.2))
НZ2g(i:Г)(fk:FE):FS:=λδ=>match δ[i]? with
 |some (aA (.oK _ _))=>(fk δ).bind λr=>(Pe r.1 r.2).bind λkd=>kd.key?.bind λk=>match r.2[i]? with
  |some (aA (.oK ks vs))=>if(look ks vs k).isSome=aC then aA (.nx (r.2.set i (aA (.oK (Zmt ks vs k).1 (Zmt ks vs k).2))))else aB
  |_=>aB
 |_=>aB
end
section
variable{X:Cx}{Z:Ent X.K}{a b c:c5}{fa fb fc:FE}{pos:Pos}
ЛZgi{p:Pos}(hm:X.mg "dict"=aB)(ha:PE X a (Ze Z fa))(hg:Gl X "dict":=by rfl)(he:bd [a] X.env=(aD,gy a X.env)::bd [] X.env:=by rfl)(hpl:(gx pos (bd [] X.env)).any (·.1)=aD:=by rfl):PE X (.Call (.Name "dict" p) [a] [] pos) (Ze Z (Yf Za2 (Zc fa Zj))):=
 Md Vu Zgh hm boot_dict (Zm ha Yo he) hg Й Й he hpl
end
end DL
namespace L2
open PySem PySem.Spec PyProof.Rows
section
variable{prog:b5}{w:da}{A:dg}{E:am->ao->В}{s:ao}
ЛHy{Q:Int->ao->В}(h:Q 0xFCA86420 {s with toks:=s.toks+1}):bc (b4 prog w) A (pyHash .none) Q E s:=by V hT:s.TypeIs .none "NoneType":=rfl;R PySem.W.pyHash_slot (v:=.none) (Q:=Q) hT F.slot_NoneType_hash F.entry_NoneType_hash (F.args_NoneType_hash_1 _) rfl (.inl rfl) ?_;T bc (b4 prog w) A.in1 (mkInt 0xFCA86420 >>=λv=>ret v) _ E s;R ad (wpAny_mkInt ?_);E ah ⟨_,_,rfl,h⟩
end
МZgj:Б Key->am->Bool
 |none,.none=>aC
 |none,_=>aD
 |some k,v=>G9 k v
ЛY9{k:Б Key}{v:am}(h:Zgj k v=aC):(k=aB/\v= .none)\/∃j,k=aA j/\G9 j v=aC:=by
 cases k with
 |none=>cases v<;> first|E .inl ⟨rfl,rfl⟩|C h
 |some j=>E .inr ⟨j,rfl,h⟩
ЛE2{j:Key}(h:G9 j .none=aC):False:=by rcases Z5 h with⟨i,t,_,e⟩|⟨x,t,_,e⟩<;> C e
МPs(prog:b5)(w:da):PySem.KeyKind prog w (Б Key)where
 is:=Zgj
 hash:=λ|none=>0xFCA86420|some k=>(Zp prog w).hash k
 inj:=λv a b ha hb=>by
  rcases Y9 ha with⟨rfl,rfl⟩|⟨i,rfl,hi⟩
  ·rcases Y9 hb with⟨rfl,_⟩|⟨j,rfl,hj⟩
   ·rfl
   ·E(E2 hj).elim
  ·rcases Y9 hb with⟨rfl,rfl⟩|⟨j,rfl,hj⟩
   ·E(E2 hi).elim
   ·rw[(Zp prog w).inj v i j hi hj]
 byValue:=λk v h=>by
  rcases Y9 h with⟨rfl,rfl⟩|⟨i,rfl,hi⟩
  ·rfl
  ·E(Zp prog w).byValue i v hi
 pyHash:=fun{A E s k v Q} hv h=>by
  rcases Y9 hv with⟨rfl,rfl⟩|⟨i,rfl,hi⟩
  ·E Hy h
  ·E(Zp prog w).pyHash hi h
 eqBool:=fun{A E s a b u v Q} hu hv h=>by
  rcases Y9 hu with⟨rfl,rfl⟩|⟨i,rfl,hi⟩
  ·rcases Y9 hv with⟨rfl,rfl⟩|⟨j,rfl,hj⟩
   ·E SeqAt.EqAt.same _ _ _ _ _ (by simpa using h)
   ·rw[Ж (λz=>nomatch z)]at h;rcases Z5 hj with⟨i,t,rfl,rfl⟩|⟨x,t,rfl,rfl⟩
    ·E SeqAt.EqAt.none_int i t _ _ _ _ h
    ·E SeqAt.EqAt.none_str x t _ _ _ _ h
  ·rcases Y9 hv with⟨rfl,rfl⟩|⟨j,rfl,hj⟩
   ·rw[Ж (λz=>nomatch z)]at h;rcases Z5 hi with⟨i,t,rfl,rfl⟩|⟨x,t,rfl,rfl⟩
    ·E SeqAt.EqAt.int_none i t _ _ _ _ h
    ·E SeqAt.EqAt.str_none x t _ _ _ _ h
   ·R(Zp prog w).eqBool hi hj ?_;V e:decide (aA i=aA j)=decide (i=j):=by simp
    rw[<-e];E h
 «strs»:=λk x t v h=>by
  rcases Y9 h with⟨rfl,e⟩|⟨i,rfl,hi⟩
  ·C e
  ·E(Zp prog w).strs i x t v hi
variable{X:Cx}
ЛZa3{P:b5}{w:da}{h:eh}{a:aq}{vs:А (Key×am)}(d:h.DictOf (Zp P w) a vs):h.MapOf (Ps P w) a (λ|none=>aB|some k=>valueAt vs k):=by
 O⟨o,es,ep,ho,hc,hd,hk,hf⟩:=d.mapOf;R⟨o,es,ep,ho,hc,hd,λe he=>?_,λk=>?_⟩
 ·O⟨k,h1,h2⟩:=hk e he;E⟨aA k,h1,h2⟩
 ·cases k with
  |some k=>E hf k
  |none=>
   show(es.find? λe=>Zgj aB e.key).map (·.val)=aB;rw[Array.find?_eq_none.mpr λe he z=>?_]
   ·rfl
   ·O⟨k,h1,_⟩:=hk e he;rcases Y9 z with⟨_,e2⟩|⟨j,e2,_⟩
    ·rw[e2]at h1;E E2 h1
    ·C e2
МTh(neg:Bool):R2:=λy x H Q=>∃a kvs,y= .non/\x= .ref a/\RdK H a kvs/\Q (.bl neg) H
ЛZdc:Cw X (gz .In) (Th aD):=by intro pins s σ H y x v u Q I ry rx h;O⟨a,kvs,rfl,rfl,e,q⟩:=h;C ry;C rx;O⟨z,hd,vs,rel,dd⟩:=Rb I.hok e;E wpAny_in_of (knd:=Ps X.prog X.w) (k:=aB) rfl hd (Za3 dd) ⟨.bl aD,H,I.tok _,rfl,q⟩
ЛPt:Cw X (gz .NotIn) (Th aC):=by intro pins s σ H y x v u Q I ry rx h;O⟨a,kvs,rfl,rfl,e,q⟩:=h;C ry;C rx;O⟨z,hd,vs,rel,dd⟩:=Rb I.hok e;E wpAny_notIn_of (knd:=Ps X.prog X.w) (k:=aB) rfl hd (Za3 dd) ⟨.bl aC,H,I.tok _,rfl,q⟩
end L2
namespace L2
open PySem PySem.Spec PyProof.Rows
МZo5(es:Array DictEntry)(kvs:А (Str×am)):Prop:=es.size=kvs.length/\∀(i:Г) (p:Str×am),kvs[i]? =aA p->∃e t,es[i]? =aA e/\e.key= .str p.1 t/\e.val=p.2
МZz9(h:eh)(a:aq)(kvs:А (Str×am)):Prop:=∃o es ep,h.get? a=aA o/\o.ExactDict/\o.data= .dict es ep/\Zo5 es kvs
Мplace(kvs:А (Str×am))(x:Str):Б Nat:=kvs.findIdx? λp=>decide (p.1=x)
inductive SHits(A:dg)(s:ao)(kb:А (Str×am)):А (Str×am)->Bool->В where
 |nil:SHits A s kb [] aC
 |miss {k:Str} {v:am} {r:А (Str×am)}:place kb k=aB->SHits A s kb ((k,v)::r) aD
 |hit {k:Str} {v:am} {r:А (Str×am)} {j:Г} {p:Str×am} {e b:Bool}:place kb k=aA j->kb[j]? =aA p->SeqAt.EqAt A s v p.2 e->SHits A s kb r b->SHits A s kb ((k,v)::r) (e&&b)
end L2
namespace DL
open PySem PySem.Spec PyProof.Rows L2
variable{K:af}
НstrK?:А Key->Б (А Str)
 | []=>aA []
 | .inr x::r=>(strK? r).bind λt=>aA (x::t)
 |_=>aB
НZtb(f:D->D->Б Bool)(ys:А Str)(us:А D):А Str->А D->Б Bool
 |x::xs,v::vs=>match look ys us x with
  |none=>aA aD
  |some u=>(f v u).bind λb=>(Ztb f ys us xs vs).bind λc=>aA (b&&c)
 |_,_=>aA aC
НZkk(f:D->D->Б Bool):D->D->Б Bool
 | .dK ks vs,.dK ks' vs'=>(strK? ks).bind λxs=>(strK? ks').bind λys=>if xs.length=ys.length then Ztb f ys vs' xs vs else aA aD
 |d1,d2=>Ro f d1 d2
НeqM:Г->D->D->Б Bool
 |0=>λ_ _=>aB
 |n+1=>Zkk (eqM n)
end DL
namespace DL
open PySem PySem.Spec PyProof.Rows L2
variable{K:af}
section
variable{X:Cx}{pins:А (aq×Obj)}{σ:L2.St}{F H:Hp}{s:ao}
МZ2h(K:af)(neg:Bool):R2:=λx y H Q=>∃F d1 d2 b,Zi F H/\Yd K F H d1 x/\Yd K F H d2 y/\eqM 48 d1 d2=aA b/\(Y7 x=aD\/Y7 y=aD)/\Q (.bl (if neg then !b else b)) H
end
end DL
namespace DL
open PySem PySem.Spec PyProof.Rows L2
variable{K:af}
НeqY(d1 d2:D):Б SV:=if d1.isFlat=aC/\d2.isFlat=aC then eqD d1 d2 else(eqM 48 d1 d2).bind λb=>aA (.fz (.bl b))
НneY(d1 d2:D):Б SV:=if d1.isFlat=aC/\d2.isFlat=aC then neD d1 d2 else(eqM 48 d1 d2).bind λb=>aA (.fz (.bl !b))
НinY(d1 d2:D):Б SV:=match d1,d2 with
 | .non,.dK _ _=>aA (.fz (.bl aD))
 |_,_=>inX d1 d2
НHz(d1 d2:D):Б SV:=match d1,d2 with
 | .non,.dK _ _=>aA (.fz (.bl aC))
 |_,_=>Hw d1 d2
section
variable{Z:Ent K}
ЛZtc:Y8 Z (λx y H Q=>((∃i j,x= .str i/\y= .str j/\Q (.bl (!(dr j i 0 j.length 1).isEmpty)) H)\/Zf8 x y H Q)\/Th aD x y H Q) inY:=by
 intro F H σ δ own x y d1 d2 sv Q s r1 r2 e k;unfold inY at e;split at e
 ·C e;O⟨a,kvs,rfl,ha,_,_⟩:=r2.dK s.le;E .inr ⟨a,kvs,r1.non,rfl,ha.rd,k.fz s (.bl _)⟩
 ·E .inl (Zs7 F H σ δ own x y d1 d2 sv Q s r1 r2 e k)
ЛZgk:Y8 Z (λx y H Q=>((∃i j,x= .str i/\y= .str j/\Q (.bl (!(!(dr j i 0 j.length 1).isEmpty))) H)\/Mh x y H Q)\/Th aC x y H Q) Hz:=by
 intro F H σ δ own x y d1 d2 sv Q s r1 r2 e k;unfold Hz at e;split at e
 ·C e;O⟨a,kvs,rfl,ha,_,_⟩:=r2.dK s.le;E .inr ⟨a,kvs,r1.non,rfl,ha.rd,k.fz s (.bl _)⟩
 ·E .inl (Zgb F H σ δ own x y d1 d2 sv Q s r1 r2 e k)
end
end DL
namespace DL
open PySem PySem.Spec PyProof.Rows L2
variable{K:af}
ЛSR.changeT{Z:Ent K}{F H:Hp}{σ:L2.St}{δ:Yq}{own:Г->Zs}{i:Г}{sv sv' svT:SV}{a:aq}{o o':HO}{v vT:V}{ns' nsT:Zs}(s:SR Z F H σ δ own)(t:TmpOk Z F H own svT vT nsT)(e:δ[i]? =aA (aA sv))(hv:σ[i]? =aA (aA v))
  (ha:(a,o)∈own i) (hs:Shape K F sv' v ns') (hns:∀p∈ns',p=(a,o')\/(p∈own i/\p.1≠a)\/p∈nsT) (nd:(Rm ns').Nodup):SR Z F (Ya H a o') σ (δ.set i (aA sv')) (put own i ns'):=by
 O⟨fa,ha0,hHa⟩:=s.ok i (a,o) ha;V hi:i<δ.length:=(ay.mp e).1;R⟨λb u eb=>?_,s.fro,λb u eb=>?_,by rw[List.length_set];E s.len,λj sw ej=>?_,λj=>?_,λj p hp=>?_,λj k p q hjk hp hq=>?_⟩
 ·rw[Zw λz=>by rw[z]at eb;rw[fa]at eb;cases eb];E s.le b u eb
 ·rw[Zw λz=>by rw[z]at eb;rw[ha0]at eb;cases eb];E s.old b u eb
 ·by_cases hj:j=i
  ·subst hj;rw[ff hi]at ej;C ej;rw[Ym];E⟨v,hv,hs⟩
  ·rw[gd (Ne.symm hj)]at ej;rw[Y0 hj];E s.at' j sw ej
 ·by_cases hj:j=i
  ·subst hj;rw[Ym];E nd
  ·rw[Y0 hj];E s.nod j
 ·by_cases hj:j=i
  ·subst hj;rw[Ym]at hp;rcases hns p hp with z|⟨z,ne⟩|z
   ·subst z;E⟨fa,ha0,Yt⟩
   ·O⟨x,y,w⟩:=s.ok j p z;E⟨x,y,by rw[Zw ne];E w⟩
   ·O⟨x,y,w⟩:=t.ok p z;E⟨x,y,by rw[Zw (t.sep j p (a,o) z ha)];E w⟩
  ·rw[Y0 hj]at hp;O⟨x,y,w⟩:=s.ok j p hp;E⟨x,y,by rw[Zw (s.sep j i p (a,o) hj hp ha)];E w⟩
 ·V far:∀(l:Г) (r q:aq×HO),l≠i->r∈ns'->q∈own l->r.1≠q.1:=λl r q hl hr hq=>by
   rcases hns r hr with z|⟨z,_⟩|z
   ·subst z;E s.sep i l (a,o) q (Ne.symm hl) ha hq
   ·E s.sep i l r q (Ne.symm hl) z hq
   ·E t.sep l r q z hq
  by_cases hj:j=i
  ·subst hj;rw[Ym]at hp;rw[Y0 (Ne.symm hjk)]at hq;E far k p q (Ne.symm hjk) hp hq
  ·by_cases hk:k=i
   ·subst hk;rw[Ym]at hq;rw[Y0 hj]at hp;E λz=>far j q p hj hq hp z.symm
   ·rw[Y0 hj]at hp;rw[Y0 hk]at hq;E s.sep j k p q hjk hp hq
ЛKids.snoc{F:Hp}:∀{xss:А (А D)} {ws:А V} {ns:Zs} {xs:А D} {b:aq} {vs:А V},Kids K F xss ws ns->Reps K F xs vs->Kids K F (xss++[xs]) (ws++[.ref b]) (ns++[(b,.lst vs)])
 |_,_,_,_,_,_,.nil,r=>.cons r .nil
 |_,_,_,_,_,_,.cons h t,r=>.cons h (t.snoc r)
section
variable{Z:Ent K}{H:Hp}{σ:L2.St}{Q:VK}{E:Ends}
НZ0a:FE:=λδ=>aA (.tmp (.oN [] []),δ)
НZ0b(i j:Г):FS:=λδ=>match δ[i]?,δ[j]? with
 |some (aA (.oN ks xss)),aA (aA (.fz kd))=>kd.key?.bind λk=>if(ks.any λx=>decide (x=k))=aD/\xss.length<bg then aA (.nx (δ.set i (aA (.oN (ks++[k]) (xss++[[]])))))else aB
 |_,_=>aB
ЛKids.length{F:Hp}:∀{xss:А (А D)} {ws:А V} {ns:Zs},Kids K F xss ws ns->xss.length=ws.length
 |_,_,_,.nil=>rfl
 |_,_,_,.cons _ t=>by rw[bf,bf,t.length]
end
ЛKids.ref{F:Hp}:∀{xss:А (А D)} {ws:А V} {ns:Zs} {p:Г} {v:V},Kids K F xss ws ns->ws[p]? =aA v->∃b,v= .ref b
 |_,_,_,_,_,.nil,e=>by simp at e
 |_,_,_,0,_,.cons _ _,e=>by simp at e;E⟨_,e.symm⟩
 |_,_,_,p+1,_,.cons _ t,e=>t.ref (p:=p) (by simpa using e)
НZgl:А Key->Key->Б Г
 | [],_=>aB
 |a::r,k=>if a=k then aA 0 else(Zgl r k).map (· +1)
section
variable{Z:Ent K}{H:Hp}{σ:L2.St}{Q:VK}{E:Ends}
НZ0c(i j:Г)(fe:FE):FS:=λδ=>match δ[i]?,δ[j]? with
 |some (aA (.oN ks _)),aA (aA (.fz kd))=>kd.key?.bind λk=>(Zgl ks k).bind λp=>(fe δ).bind λq=>(frz q.1 q.2).bind λr=>match r.2[i]? with
  |some (aA (.oN ks' xss))=>if ks'=ks then(xss[p]?).bind λxs=>if xs.length<bg then aA (.nx (r.2.set i (aA (.oN ks (xss.set p (xs++[r.1]))))))else aB else aB
  |_=>aB
 |_,_=>aB
end
end DL
namespace DL
open PySem PySem.Spec PyProof.Rows L2
variable{K:af}
section
variable{Z:Ent K}{H:Hp}{σ:L2.St}{E:Ends}
НZo6(fe:FE):FS:=λδ=>(fe δ).bind λp=>(frz p.1 p.2).bind λq=>aA (.rt (.fz q.1))
ЛZo7{fe:FE}(h:Z8 Z (Zo6 fe) E σ H):Zn0 (Ze Z fe) E σ H:=by O⟨F,δ,own,fl,s,e,k⟩:=h;O⟨⟨rv,δ1⟩,e1,e2⟩:=aa.mp e;O⟨⟨d,δ2⟩,e3,e4⟩:=aa.mp e2;C e4;R⟨F,δ,own,rv,δ1,s,e1,λv H1 F1 own1 sH sF s1 r1=>?_⟩;O⟨F2,sF2,s2,r2⟩:=s1.settleR r1;O⟨F3,own3,sF3,s3,r3⟩:=s2.frzR r2 e3;E k v H1 F3 [] (sF.trans (sF2.trans sF3)) s3.le s3.fro s3.old (.fz r3) cx λ_ h=>(nomatch h)
end
section
variable{X:Cx}{Z:Ent X.K}{a b c:c5}{fa fb fc:FE}{pos:Pos}
ЛZo8(h:PE X a (Ze Z fa)):PS X (.Return (aA a) pos) (Z8 Z (Zo6 fa)):=(Zem h).imp λ_ _ _ h=>Zo7 h
end
end DL
namespace L2
open PySem PySem.Spec PyProof.Rows
variable{X:Cx}
МZvp(K:af):V->А V->Hp->VK->Prop:=λx xs H Q=>∃p ys y j,x= .ref p/\xs=[y]/\W8 K H p ys/\Y7 y=aC/\ys.all Y7=aC/\(ys.findIdx? λz=>S8 z y)=aA j/\Q (.int (j:Г)) H
МZvq:V->А V->Hp->VK->Prop:=λx xs H Q=>∃a b i rest,x= .str a/\xs=[.str b]/\dr a b 0 a.length 1=i::rest/\Q (.int (i:Г)) H
МZvr:V->А V->Hp->VK->Prop:=λx xs H Q=>∃a b,x= .str a/\xs=[.str b]/\a.length<=sizeLine/\Q (.str (Txt.rstripChars a b)) H
МZmu:R2:=λx y H Q=>∃a k,x= .str a/\y= .int k/\MulOk a k/\Q (.str (Txt.mul a k)) H
ЛZkl:Cw X (binaryOp .Mult) Zmu:=by intro pins s σ H x y v u Q I rx ry h;O⟨a,k,rfl,rfl,hm,q⟩:=h;O⟨t,rfl⟩:=rx;O⟨t',rfl⟩:=ry;E SB.mul hm λt' k=>⟨.str _,H,I.tok _,⟨_,rfl⟩,q⟩
end L2
namespace DL
open PySem PySem.Spec PyProof.Rows L2
variable{K:af}
НD.fv:D->V
 | .bl b=>.bl b
 | .int i=>.int i
 | .str x=>.str x
 |_=>.non
ЛZgm{F H:Hp}{d:D}{x:V}(r:Yd K F H d x)(h:d.isFlat=aC):x=d.fv/\Y7 x=aC:=by
 cases d with
 |non=>rw[r.non];E⟨rfl,rfl⟩
 |bl b=>rw[r.bl];E⟨rfl,rfl⟩
 |int i=>rw[r.int];E⟨rfl,rfl⟩
 |str y=>rw[r.str];E⟨rfl,rfl⟩
 |_=>C h
ЛDa{F:Hp}:∀{ds:А D} {vs:А V},Reps K F ds vs->ds.all D.isFlat=aC->vs=ds.map D.fv/\vs.all Y7=aC
 |_,_,.nil,_=>⟨rfl,rfl⟩
 |_,_,.cons h t,e=>by rw[List.all_cons,Bool.and_eq_true]at e;O⟨a1,a2⟩:=Zgm (H:=F) (Yd.of h) e.1;O⟨b1,b2⟩:=Da t e.2;R⟨by rw[a7,<-a1,<-b1],by rw[List.all_cons,a2,b2];rfl⟩
МDb(y x:D):Bool:=S8 y.fv x.fv
@[simp] theorem Ztd(a b:Str):Db (.str a) (.str b)=decide (a=b):=by
 show(a==b)=decide (a=b);by_cases h:a=b
 ·subst h;simp
 ·rw[Ж h];E beq_eq_false_iff_ne.mpr h
@[simp] theorem Zkm(a b:Bool):Db (.bl a) (.bl b)=decide (a=b):=by cases a<;> cases b<;> rfl
@[simp] theorem Zte:Db .non .non=true:=rfl
@[simp] theorem Zvs(a:Str):Db (.str a) .non=false:=rfl
МPu(x:D)(xs:А D):Bool:=xs.any λy=>Db y x
ЛZa4{d:D}{ds:А D}:inV d.fv (ds.map D.fv)=Pu d ds:=by unfold inV Pu;rw[List.any_map];rfl
МD.seq?:D->Б (А D)
 | .lst xs=>aA xs
 | .tup xs=>aA xs
 |_=>aB
@[simp] theorem Zvt(xs:А D):D.seq? (.lst xs)=some xs:=rfl
@[simp] theorem Zvu(xs:А D):D.seq? (.tup xs)=some xs:=rfl
@[simp] theorem Zvv(x:Str):D.seq? (.str x)=none:=rfl
@[simp] theorem Zx5(ks:А Key)(vs:А D):D.seq? (.dK ks vs)=none:=rfl
@[simp] theorem Zx6(ks:А (А Key))(vs:А D):D.seq? (.dT ks vs)=none:=rfl
НinZ(d1 d2:D):Б SV:=match d2.seq? with
 |some xs=>if d1.isFlat=aC/\xs.all D.isFlat=aC then aA (.fz (.bl (Pu d1 xs)))else aB
 |none=>inY d1 d2
НB5(d1 d2:D):Б SV:=match d2.seq? with
 |some xs=>if d1.isFlat=aC/\xs.all D.isFlat=aC then aA (.fz (.bl (!Pu d1 xs)))else aB
 |none=>Hz d1 d2
section
variable{Z:Ent K}{H:Hp}{σ:L2.St}{Q:VK}{E:Ends}
ЛZgn{F:Hp}{d:D}{x:V}{xs:А D}(le:Zi F H)(r:Yd K F H d x)(h:d.seq? =aA xs):∃a vs,x= .ref a/\(W8 K H a vs\/Ov K H a vs)/\Reps K F xs vs:=by
 cases d with
 |lst ys=>C h;O⟨a,vs,e,q,rr⟩:=r.lst le;E⟨a,vs,e,.inl q,rr⟩
 |tup ys=>C h;O⟨a,vs,e,q,rr⟩:=r.tup le;E⟨a,vs,e,.inr q,rr⟩
 |_=>C h
ЛZtg:Y8 Z (λx y H Q=>(((∃i j,x= .str i/\y= .str j/\Q (.bl (!(dr j i 0 j.length 1).isEmpty)) H)\/Zf8 x y H Q)\/Th aD x y H Q)\/rIn K aD x y H Q) inZ:=by
 intro F H σ δ own x y d1 d2 sv Q s r1 r2 e k;unfold inZ at e;split at e
 ·rename_i xs hx;split at e
  ·rename_i hf;C e;O⟨a,vs,rfl,hq,rr⟩:=Zgn s.le r2 hx;O⟨e1,f1⟩:=Zgm r1 hf.1;O⟨e2,f2⟩:=Da rr hf.2;R .inr ⟨a,vs,rfl,hq,f1,f2,?_⟩;rw[e1,e2,Za4];E k.fz s (.bl _)
  ·C e
 ·E .inl (Ztc F H σ δ own x y d1 d2 sv Q s r1 r2 e k)
ЛZgo:Y8 Z (λx y H Q=>(((∃i j,x= .str i/\y= .str j/\Q (.bl (!(!(dr j i 0 j.length 1).isEmpty))) H)\/Mh x y H Q)\/Th aC x y H Q)\/rIn K aC x y H Q) B5:=by
 intro F H σ δ own x y d1 d2 sv Q s r1 r2 e k;unfold B5 at e;split at e
 ·rename_i xs hx;split at e
  ·rename_i hf;C e;O⟨a,vs,rfl,hq,rr⟩:=Zgn s.le r2 hx;O⟨e1,f1⟩:=Zgm r1 hf.1;O⟨e2,f2⟩:=Da rr hf.2;R .inr ⟨a,vs,rfl,hq,f1,f2,?_⟩;rw[e1,e2,Za4];E k.fz s (.bl _)
  ·C e
 ·E .inl (Zgk F H σ δ own x y d1 d2 sv Q s r1 r2 e k)
НZx7:А D->Б SV
 | [.lst xs,x]=>if x.isFlat=aC/\xs.all D.isFlat=aC then(xs.findIdx? λy=>Db y x).bind λj=>aA (.fz (.int (j:Г)))else aB
 |_=>aB
НZvw:А D->Б SV
 | [.str a,.str b]=>match dr a b 0 a.length 1 with
  |i::_=>aA (.fz (.int (i:Г)))
  | []=>aB
 |_=>aB
НZvx:А D->Б SV
 | [.str a,.str b]=>if a.length<=bg then aA (.fz (.str (Txt.rstripChars a b)))else aB
 |_=>aB
open Classical in
МZkn(a:Str)(k:Int):Б SV:=if MulOk a k then aA (.fz (.str (Txt.mul a k)))else aB
ЛZko{a:Str}{k:Int}{sv:SV}(h:Zkn a k=aA sv):MulOk a k/\sv= .fz (.str (Txt.mul a k)):=by
 unfold Zkn at h;split at h
 ·rename_i hm;C h;E⟨hm,rfl⟩
 ·C h
МZa5(i j:Int):Prop:=Zfp i j=aC
open Classical in
МVv(i j:Int):Б SV:=if Za5 i j then aA (.fz (.int (i*j)))else aB
ЛZkp{i j:Int}{sv:SV}(h:Vv i j=aA sv):Zsh (.int i) (.int j)=aA sv:=by
 unfold Vv at h;split at h
 ·rename_i hc;C h;unfold Za5 at hc;simp[hc]
 ·C h
ЛDc{i j:Int}(h:-(2^64)<j/\j<2^64):Vv i j=aA (.fz (.int (i*j))):=by unfold Vv;rw[Е];unfold Za5 Zfp;rw[decide_eq_true h.1,decide_eq_true h.2];simp
ЛDd{i j:Int}(h:-(2^64)<i/\i<2^64):Vv i j=aA (.fz (.int (i*j))):=by unfold Vv;rw[Е];unfold Za5 Zfp;rw[decide_eq_true h.1,decide_eq_true h.2];simp
МE3:D->D->Б SV
 | .str a,.int k=>Zkn a k
 | .int i,.int j=>Vv i j
 |_,_=>aB
@[simp] theorem Zvy(a:Str)(k:Int):E3 (.str a) (.int k)=Zkn a k:=rfl
@[simp] theorem Zvz(i j:Int):E3 (.int i) (.int j)=Vv i j:=rfl
ЛZo9:Y8 Z (λx y H Q=>rI Zet (λi j=>V.int (i*j)) x y H Q\/Zmu x y H Q) E3:=by
 intro F H σ δ own x y d1 d2 sv Q s r1 r2 e k;unfold E3 at e;split at e
 ·O⟨hm,rfl⟩:=Zko e;E .inr ⟨_,_,r1.str,r2.int,hm,k.fz s (.str _)⟩
 ·E .inl (Zsk F H σ δ own x y _ _ sv Q s r1 r2 (Zkp e) k)
 ·C e
НZdd:А D->Б SV
 | [.int i]=>if i.natAbs.log2<1920 then aA (.fz (.str (toString i)))else aB
 |_=>aB
ЛZpa:U6 Z (λxs H Q=>∃i:Int,xs=[.int i]/\i.natAbs.log2<1920/\Q (.str (toString i)) H) Zdd:=by
 intro F H σ δ own vs ds sv Q s r e k;unfold Zdd at e;split at e
 ·split at e
  ·rename_i hm;C e;cases r with
   |cons h1 t=>C t;E⟨_,by rw[h1.int],hm,k.fz s (.str _)⟩
  ·C e
 ·C e
НZth(kd d:D):Б (Б SV)->Б SV
 |some (aA (.ol xs))=>match kd with
  | .int i=>(ixN xs.length i).bind λj=>aA (.ol (xs.set j d))
  |_=>aB
 |_=>aB
НSV.isOL:Б (Б SV)->Bool
 |some (aA (.ol _))=>aC
 |_=>aD
НZ0d(i:Г)(fk fv:FE):FS:=λδ=>(fv δ).bind λp=>(frz p.1 p.2).bind λq=>if SV.isOL (q.2[i]?)=aC then(fk q.2).bind λr=>(Pe r.1 r.2).bind λkd=>(Zth kd q.1 (r.2[i]?)).bind λsv=>aA (.nx (r.2.set i (aA sv)))else aB
НSV.ol?:RV->Б (А D)
 | .tmp (.ol ys)=>aA ys
 |_=>aB
НZx8(i:Г)(fe:FE):FS:=λδ=>match δ[i]? with
 |some (aA (.ol _))=>(fe δ).bind λp=>(SV.ol? p.1).bind λys=>match p.2[i]? with
  |some (aA (.ol xs))=>if xs.length+ys.length<=bg then aA (.nx (p.2.set i (aA (.ol (xs++ys)))))else aB
  |_=>aB
 |_=>aB
end
section
variable{X:Cx}{Z:Ent X.K}{a b c:c5}{fa fb fc:FE}{pos:Pos}
ЛZmv(hu:X.A.units+1<f7)(ha:PE X a (Ze Z fa))(hb:PE X b (Ze Z fb))(hm:behindInMarks .In b=aD:=by rfl):PE X (.Compare a [.In] [b] pos) (Ze Z (Zo inZ fa fb)):=Zmp (((Zct.or (Ht hu)).or Zdc).or Zcy) Ztg ha hb hm
ЛE4(hu:X.A.units+1<f7)(ha:PE X a (Ze Z fa))(hb:PE X b (Ze Z fb))(hm:behindInMarks .NotIn b=aD:=by rfl):PT X (.Compare a [.NotIn] [b] pos) (Yn Z (Yw (Zo B5 fa fb))):=Ew (((N7.or (Kc hu)).or Pt).or N6) Zgo ha hb hm
ЛTi(ha:PE X a (Ze Z fa))(hb:PE X b (Ze Z fb)):PE X (.BinOp a .Mult b pos) (Ze Z (Zo E3 fa fb)):=Zas (Zn7.or Zkl) Zo9 ha hb
ЛZpb{p:Pos}(hm:X.mg "str"=aB)(ha:PE X a (Ze Z fa))(hg:Gl X "str":=by rfl)(he:bd [a] X.env=(aD,gy a X.env)::bd [] X.env:=by rfl)(hpl:(gx pos (bd [] X.env)).any (·.1)=aD:=by rfl):PE X (.Call (.Name "str" p) [a] [] pos) (Ze Z (Yf Zdd (Zc fa Zj))):=
 Md N0 Zpa hm boot_str (Zm ha Yo he) hg Й Й he hpl
end
end DL
namespace DL
open PySem PySem.Spec PyProof.Rows L2
end DL
namespace DL
open PySem PySem.Spec PyProof.Rows L2
variable{K:af}
section
variable{Z:Ent K}{H:Hp}{σ:L2.St}{Q:Bool->Hp->В}
НLj(f:FT):FT:=λδ=>(f δ).bind λp=>aA (p.1,δ)
ЛZkq{f:FT}(h:Yn Z (Lj f) σ H Q):Yn Z f σ H Q:=by O⟨F,δ,own,b,δ',s,e,k⟩:=h;O⟨⟨b1,δ1⟩,e1,e2⟩:=aa.mp e;C e2;E⟨F,δ,own,b1,δ1,s,e1,λH' F' own' sH sF s'=>k H' F own sH (Zi.refl F) (s.grow sH)⟩
end
section
variable{X:Cx}{Z:Ent X.K}{a:c5}{ft:FT}
ЛPv(ha:PT X a (Yn Z ft)):PT X a (Yn Z (Lj ft)):=ha.imp λ_ _ _ h=>Zkq h
end
end DL
namespace DL
open PySem PySem.Spec PyProof.Rows L2
variable{K:af}
МZti(n:Г)(k:Int):Prop:=-(2^63)<=k/\k<2^63/\n*k.toNat<=bg
section
variable{Z:Ent K}{H:Hp}{σ:L2.St}{Q:VK}
open Classical in
МZpc(xs:А D):D->Б SV
 | .int k=>if Zti xs.length k then aA (.ol (List.replicate k.toNat xs).flatten)else aB
 |_=>aB
@[simp] theorem Ztj{xs:А D}{k:Int}(h:Zti xs.length k):Zpc xs (.int k)=some (.ol (List.replicate k.toNat xs).flatten):=by unfold Zpc;dsimp only;rw[Е h]
НZ2i(fa fb:FE):FE:=λδ=>(fa δ).bind λp=>(SV.ol? p.1).bind λxs=>(fb p.2).bind λq=>(Pe q.1 q.2).bind λd=>(Zpc xs d).bind λsv=>aA (.tmp sv,q.2)
end
end DL
namespace DL
open PySem PySem.Spec PyProof.Rows L2
variable{K:af}
section
variable{Z:Ent K}
НslT:D->Б Int->Б Int->Б SV
 | .tup xs,lo,hi=>if¬(HT.sIx xs.length 0 lo=0/\HT.sIx xs.length xs.length hi=xs.length)then aA (.fz (.tup (Pj xs lo hi)))else aB
 |_,_,_=>aB
end
end DL
namespace DL
open PySem L2
variable{K:af}
inductive RX where
 |v (rv:RV) (δ:Yq)|x (e:Exn) (δ:Yq)
inductive RL(α:Type)where
 |v (xs:А α) (δ:Yq)|x (e:Exn) (δ:Yq)
аFX:=Yq->Б RX
аFAX:=Yq->Б (RL RV)
аFDX:=Yq->Б (RL D)
МXOk(Z:Ent K)(F:Hp)(σ:St)(e:Exn)(δ:Yq):Prop:=∀H' F' own' cls od,Zi F F'->SR Z F' H' σ δ own'->Pd K F' e cls od->Z.x cls od σ H'
МZtl(Z:Ent K)(f:FX):TE:=λσ H Q=>∃F δ own r,SR Z F H σ δ own/\f δ=aA r/\match r with
 | .v rv δ'=>∀v H' F' own',Zi H H'->Zi F F'->SR Z F' H' σ δ' own'->Vg Z F' H' σ own' rv v->Q v H'
 | .x e δ'=>XOk Z F σ e δ'
МZya(Z:Ent K)(f:FAX):TA:=λσ H Q=>∃F δ own r,SR Z F H σ δ own/\f δ=aA r/\match r with
 | .v rvs δ'=>∀vs H' F' own',Zi H H'->Zi F F'->SR Z F' H' σ δ' own'->RVSs K F' σ rvs vs->Q vs H'
 | .x e δ'=>XOk Z F σ e δ'
МZyb(Z:Ent K)(f:FDX):TA:=λσ H Q=>∃F δ own r,SR Z F H σ δ own/\f δ=aA r/\match r with
 | .v ds δ'=>∀vs H' F' own',Zi H H'->Zi F F'->SR Z F' H' σ δ' own'->Reps K F' ds vs->Q vs H'
 | .x e δ'=>XOk Z F σ e δ'
НFX.val(f:FX):FE:=λδ=>match f δ with
 |some (.v rv δ')=>aA (rv,δ')
 |_=>aB
section
variable{Z:Ent K}{H:Hp}{σ:St}{Q:VK}{E:Ends}
НZ0e(fe:FE):FX:=λδ=>(fe δ).bind λp=>aA (.v p.1 p.2)
НZv0:FAX:=λδ=>aA (.v [] δ)
НZtm(fx:FX)(fa:FAX):FAX:=λδ=>(fx δ).bind fun
 | .v rv δ1=>(fa δ1).bind fun
  | .v rvs δ2=>aA (.v (rv::rvs) δ2)
  | .x e δ2=>aA (.x e δ2)
 | .x e δ1=>aA (.x e δ1)
НZtn:FDX:=λδ=>aA (.v [] δ)
НZqq(fx:FX)(fd:FDX):FDX:=λδ=>(fx δ).bind fun
 | .v rv δ1=>(frz rv δ1).bind λq=>(fd q.2).bind fun
  | .v ds δ2=>aA (.v (q.1::ds) δ2)
  | .x e δ2=>aA (.x e δ2)
 | .x e δ1=>aA (.x e δ1)
НZ2j(fd:FDX):FX:=λδ=>(fd δ).bind fun
 | .v ds δ1=>if ds.length<=bg then aA (.v (.tmp (.fz (.tup ds))) δ1)else aB
 | .x e δ1=>aA (.x e δ1)
НZ0f(g:А D->Б SV)(fa:FAX):FX:=λδ=>(fa δ).bind fun
 | .v rvs δ1=>(Oy rvs δ1).bind λds=>(g ds).bind λsv=>aA (.v (.tmp sv) δ1)
 | .x e δ1=>aA (.x e δ1)
НZ2k(g:D->D->Б SV)(fa fb:FX):FX:=λδ=>(fa δ).bind fun
 | .x e δ1=>aA (.x e δ1)
 | .v r1 δ1=>(fb δ1).bind fun
  | .x e δ2=>aA (.x e δ2)
  | .v r2 δ2=>(Pe r1 δ2).bind λd1=>(Pe r2 δ2).bind λd2=>(g d1 d2).bind λsv=>aA (.v (.tmp sv) δ2)
end
inductive XO where
 |v (sv:SV)|x (e:Exn)
МspX(K:af)(n:Г)(g:А D->Б XO):Sp:=λvs H Q E=>∃F ds o,Zi F H/\Reps K F ds vs/\ds.length=n/\g ds=aA o/\match o with
 | .v sv=>∀v H' F' ns,Zi H H'->Zi F F'->Zi F' H'->(∀(b:aq) (o:HO),F' b=aA o->F b=aA o\/H b=aB)->Shape K F' sv v ns->(Rm ns).Nodup->(∀p∈ns,F' p.1=aB/\H p.1=aB/\H' p.1=aA p.2)->Q v H'
 | .x e=>∀cls od H' F',Zi H H'->Zi F F'->Zi F' H'->(∀(b:aq) (o:HO),F' b=aA o->F b=aA o\/H b=aB)->Pd K F' e cls od->E cls od H'
НZ2l(f:FS)(n:Г)(ds:А D):Б XO:=match f (Eu n ds)with
 |some (.rt sv)=>aA (.v sv)
 |some (.nx _)=>aA (.v (.fz .non))
 |some (.ex e _)=>aA (.x e)
 |_=>aB
НZ2m(h:А D->Б XO)(ds:А D):Б SV:=match h ds with
 |some (.v sv)=>aA sv
 |_=>aB
аZ2n(H F:Hp)(E:XK):Ent K:=⟨H,F,λcls od _ H'=>E cls od H'⟩
section
variable{Z:Ent K}{H:Hp}{σ:St}{Q:VK}{E:Ends}
НZ0g(n:Г)(g:А D->Б XO)(fa:FAX):FX:=λδ=>(fa δ).bind fun
 | .x e δ1=>aA (.x e δ1)
 | .v rvs δ1=>(DL.frzAll rvs δ1).bind λq=>if q.1.length=n then(g q.1).bind (fun
  | .v sv=>aA (.v (.tmp sv) (if sv.scal then δ1 else q.2))
  | .x e=>aA (.x e q.2))else aB
НZyc(g:А D->Б SV)(ds:А D):Б XO:=(g ds).bind λsv=>aA (.v sv)
НZ2o(i:Г)(fx:FX):FS:=λδ=>(fx δ).bind fun
 | .v rv δ1=>(stow i rv δ1).bind λδ'=>aA (.nx δ')
 | .x e δ1=>aA (.ex e δ1)
НZ2p(fx:FX):FS:=λδ=>(fx δ).bind fun
 | .v rv δ1=>(Zsa rv δ1).bind λsv=>aA (.rt sv)
 | .x e δ1=>aA (.ex e δ1)
НZ0h(fx:FX):FS:=λδ=>(fx δ).bind fun
 | .v _ δ1=>aA (.nx δ1)
 | .x e δ1=>aA (.ex e δ1)
НZ2q(i:Г)(fx:FX):FS:=λδ=>match fx δ with
 |some (.x e δ1)=>(match δ[i]? with
  |some (aA (.ol _))=>aA (.ex e δ1)
  |_=>aB)
 |_=>Rn i fx.val δ
НZ2r(i:Г)(fx:FX):FS:=λδ=>match fx δ with
 |some (.x e δ1)=>(match δ[i]? with
  |some (aA (.ol _))=>aA (.ex e δ1)
  |_=>aB)
 |_=>Zx8 i fx.val δ
НZyd(c:Str):FS:=λδ=>aA (.ex ⟨c,[],[]⟩ δ)
set_option genInjectivity false in
structure HX where
 x:Str
 np:Pos
 nm:Б (Str×Г)
 b0:Stmt
 suite:А Stmt
 pos:Pos
 B:aq
 yes:А Str
 no:А Str
 f:FS
set_option genInjectivity false in
structure HX.Sub(K:af)(h:HX):В where
 yes:∀c∈h.yes,∀C,Er K c C->PySem.W.mroIn K C (.ref h.B)=aA aC
 no:∀c∈h.no,∀C,Er K c C->PySem.W.mroIn K C (.ref h.B)=aA aD
МHX.hd(Z:Ent K)(h:HX):Hd:=⟨h.x,h.np,h.nm,h.b0,h.suite,h.pos,h.B,Z8 Z h.f⟩
set_option genInjectivity false in
structure HF where
 i:Б Г
 yes:А Str
 no:А Str
 f:FS
НHX.hf(h:HX):HF:=⟨h.nm.map (·.2),h.yes,h.no,h.f⟩
НZmw(c:Str):А HF->Б HF
 | []=>aB
 |h::r=>if c∈h.yes then aA h else if c∈h.no then Zmw c r else aB
НFl.but(i:Г):Fl->Fl
 | .nx δ=>.nx (δ.set i aB)
 | .bk δ=>.bk (δ.set i aB)
 | .ct δ=>.ct (δ.set i aB)
 | .ex e δ=>.ex e (δ.set i aB)
 | .rt sv=>.rt sv
НFl.isEx:Fl->Bool
 | .ex _ _=>aC
 |_=>aD
НHF.run(h:HF)(x:Exn)(δ:Yq):Б Fl:=match h.i with
 |none=>h.f δ
 |some i=>if i<δ.length then(h.f (δ.set i (aA (.fz (.exc x.c x.ks x.vs))))).bind λfl=>if fl.isEx=aC then aB else aA (fl.but i)else aB
НZ2s(fb:FS)(hs:А HF):FS:=λδ=>(fb δ).bind fun
 | .ex x δ1=>(Zmw x.c hs).bind λh=>h.run x δ1
 |fl=>aA fl
аEnt.wish(Z:Ent K)(EX:EXT):Ent K:=⟨Z.h,Z.f,EX⟩
end
end DL
namespace DL
open PySem PySem.Spec PyProof.Rows L2
section
variable{X:Cx}{Z:Ent X.K}{a b c:c5}{fa fb:FE}{fx fy:FX}{pos:Pos}
НZ2t(yes no:А Str):D->Б SV
 | .exc c _ _=>if c∈yes then aA (.fz (.bl aC))else if c∈no then aA (.fz (.bl aD))else aB
 |_=>aB
МKn(K:af)(r:aq->Bool->В)(yes no:А Str):Prop:=(∀c∈yes,∀C,Er K c C->ExcKit K C/\r C aC)/\∀c∈no,∀C,Er K c C->ExcKit K C/\r C aD
МZye(Bs:А aq):TA:=λ_ H R=>R (Bs.map V.ref) H
end
end DL
namespace DL
open PySem PySem.Spec PyProof.Rows L2
section
variable{X:Cx}{pins:А (aq×Obj)}{σ:L2.St}{H:Hp}{s:ao}
ЛInv.trackO{a:aq}{o:HO}(I:Inv X pins σ H s)(e0:X.s₀.heap.get? a=aB)(eH:H a=aB)(le:a≠X.env.locals)(ce:∀x c,X.env.cells.lookup x=aA c->c≠a)(pe:∀p∈X.pn++pins,p.1≠a)(new:Yc X.prog X.w (Ya H a o) s.heap a o):Inv X pins σ (Ya H a o) s:=by
 R⟨I.ok,I.os,I.bare,⟨I.base.keep,I.base.slot,λb o q n hx=>?_,I.base.there,λb xs q=>?_,λb o u q=>?_,λb ps q=>?_⟩,I.loc,I.cell,?_,λx c ec=>?_,λp hp=>?_,λb u q=>?_,I.len⟩
 ·rw[Zw (λz=>by rw[z,e0]at q;C q)];E I.base.free b o q n hx
 ·V :=I.base.tups b xs q;rw[Zw (λz=>by rw[z,eH]at this;C this)];E this
 ·V :=I.base.frzs b o u q;rw[Zw (λz=>by rw[z,eH]at this;C this)];E this
 ·O⟨m,this⟩:=I.base.tbls b ps q;E⟨m,by rw[Zw (λz=>by rw[z,eH]at this;C this)];E this⟩
 ·rw[Zw (Ne.symm le)];E I.free
 ·rw[Zw (ce x c ec)];E I.freeC x c ec
 ·O⟨q,n,r⟩:=I.pin p hp;E⟨q,by rw[Zw (pe p hp)];E n,r⟩
 ·by_cases hb:b=a
  ·subst hb;rw[Yt]at q;C q;E new
  ·rw[Zw hb]at q;E(I.hok b u q).stay (λc v _ z=>z) (λc z=>by rw[Zw (λy=>by rw[y,eH]at z;C z)];E z) (λc xs z=>by rw[Zw (λy=>by rw[y,eH]at z;C z)];E z) λc o z=>by rw[Zw (λy=>by rw[y,eH]at z;C z)];E z
МZgp(trs:А (TE×TE)):TE:=λσ H Q=>Pa trs σ H λps H2=>∃kvs:А (Key×V),ps=kvs.map (λkv=>(kV kv.1,kv.2))/\kvs.length<=15/\∀p ep,H2 p=aB->Q (.ref p) (Ya H2 p (.dK (Bb [] kvs) ep))
ЛZgq{pos:Pos}{keys:А (Б c5)}{values:А c5}{trs:А (TE×TE)}(h:PPs X pos keys values trs)(hall:keys.all (·.isSome)=aC)(hl:keys.length=values.length)(h0:keys≠[])
  (h15:keys.length<=15):PE X (.Dict keys values pos) (Zgp trs):=by
 intro pins s σ H Q I q;V hn:=I.hok.fresh (a6 s.heap.objs.size);V I0:=I.kept (h':=s.heap.push {cls:=.type "dict",data:=.dict #[]}) (t':=s.toks) (λ_ _ q=>av _ q);V hob:(s.heap.push {cls:=.type "dict",data:=.dict #[]}).get? s.heap.objs.size=aA {cls:=.type "dict",data:=.dict #[]}:=ba _ rfl;V old:∀b o,s.heap.get? b=aA o->b≠s.heap.objs.size:=λb o z=>cj (bh z);V apart:∀p∈X.pn++pins,p.1≠s.heap.objs.size:=λp hp=>old _ _ (I.pin p hp).1;V hloc:s.heap.objs.size≠X.env.locals:=λz=>Nat.lt_irrefl _ (di (z▸I.lt) (a6 _));V hcel:∀x c,X.env.cells.lookup x=aA c->c≠s.heap.objs.size:=λx c ec=>by O⟨v,o,ho,_⟩:=I.cell x c ec;E old _ _ ho
 V hs0:X.s₀.heap.get? s.heap.objs.size=aB:=Heap.get?_none_of_le I.sz;V I1:=I0.pins_of (pins':=(s.heap.objs.size,{cls:=.type "dict",data:=.dict #[]})::pins) λp hp=>by
  rcases bu.mp hp with z|z
  ·subst z;E⟨hob,hn,hloc,I.nofs (a6 _),λv z=>nomatch z⟩
  ·E I0.pin p (bx _ z)
 R wpAny_Dict_walk (knd:=Zp X.prog X.w) hall hl h0 h15 (Wv (h _ _ σ _ _ I1 q) λws s2 zq9=>?_);O⟨ps,H2,I2,rel,kvs,ep,lk,q2⟩:=zq9;subst ep;O⟨rs,c,rk⟩:=En (P:=X.prog) (w:=X.w) rel;O⟨p1,p2,p3,p4,p5⟩:=I2.pin (s.heap.objs.size,{cls:=.type "dict",data:=.dict #[]}) (bx _ ag);V new0:Yc X.prog X.w (Ya H2 s.heap.objs.size (.dK [] 0)) s2.heap s.heap.objs.size (.dK [] 0):=(show Yc X.prog X.w (λ_=>aB) _ _ (.dK [] 0)from Vc s.heap I.big).stay (λb u hb z=>by
  rcases hb with rfl|hb
  ·rw[hob]at z;C z;E p1
  ·C hb) (λ_ z=>nomatch z) (λ_ _ z=>nomatch z) λ_ _ z=>nomatch z
 V I3:Inv X pins σ (Ya H2 s.heap.objs.size (.dK [] 0)) s2:=Inv.trackO (I2.pins_of (pins':=pins) λp hp=>I2.pin p (bx _ (ar _ hp))) hs0 p2 hloc hcel apart new0;O⟨z,hd,vs0,r0,dd⟩:=Zl9 I3.hok ⟨_,(show Ya H2 s.heap.objs.size (.dK [] 0) s.heap.objs.size=aA (.dK [] 0)from Yt)⟩;C r0;R⟨rs,c,dd,λh' dd' hs=>?_⟩;V hz:(Bb [] kvs).length<=sizeLine:=by V h1:=Rc kvs [];rw[List.length_nil]at h1;rw[f6];W
 V he:∃q,h'.get? s.heap.objs.size=aA q:=let⟨q,_,_,hq,_⟩:=dd';⟨q,hq⟩
 O⟨ep,ok⟩:=Hk hz hd (rk.merge .nil) dd';V I4:L2.Inv X pins σ (Ya (Ya H2 s.heap.objs.size (.dK [] 0)) s.heap.objs.size (.dK (Bb [] kvs) ep)) {s2 with heap:=h',toks:=s2.toks+ws.length}:=Am I3 (by rw[Yt];E True.intro) hs he (ok _);rw[Zi0]at I4;E⟨.ref s.heap.objs.size,_,I4,rfl,q2 _ ep p2⟩
end
section
variable{K:af}{Z:Ent K}{σ:L2.St}{H:Hp}{Q:VK}
ЛDe{f:FE}{Q':VK}(m:∀v H,Q v H->Q' v H)(h:Ze Z f σ H Q):Ze Z f σ H Q':=by O⟨F,δ,own,rv,δ',s,e,k⟩:=h;E⟨F,δ,own,rv,δ',s,e,λv H' F' own' a b c d=>m _ _ (k v H' F' own' a b c d)⟩
МtPD(Z:Ent K)(l:А (Str×FE)):А (TE×TE):=l.map λp=>(tC (.str p.1),Ze Z p.2)
НZgr:А (Str×FE)->FD
 | []=>Zn
 |p::r=>Zg p.2 (Zgr r)
НZyf(l:А (Str×FE)):FE:=λδ=>(Zgr l δ).bind λp=>if p.1.length=l.length then aA (.tmp (.oK (l.map λq=>.inr q.1) p.1),p.2)else aB
ЛLl:∀(more acc:А (Key×V)),((acc++more).map (·.1)).Nodup->Bb acc more=acc++more
 | [],acc,_=>by T acc=acc++[];rw[List.append_nil]
 |p::r,acc,h=>by
  V e:Q4 acc p.1 p.2=acc++[p]:=by unfold Q4;rw[Д];intro z;O⟨q,hq,z⟩:=List.any_eq_true.mp z;rw[b7,c9]at h;E h.2.2 p.1 (aw.mpr ⟨q,hq,of_decide_eq_true z⟩) p.1 К rfl
  T Bb (Q4 acc p.1 p.2) r=_;rw[e,Ll r (acc++[p]) (by simpa using h)];simp
НZ2u:А D->Б SV
 | [.int i,.int j]=>aA (.fz (.int (if j<i then j else i)))
 |_=>aB
end
end DL
namespace DL
open PySem PySem.Spec PyProof.Rows L2
НDf(ss:А Str)(fd:FD):FD:=λδ=>(fd δ).bind λp=>aA (ss.map D.str++p.1,p.2)
ЛZkr{K:af}{Z:Ent K}{σ:L2.St}{H:Hp}{fd:FD}:∀(ss:А Str) {R:А V->Hp->В},W0 Z (Df ss fd) σ H R->W0 Z fd σ H λvs H'=>R (ss.map V.str++vs) H'
 |ss,R,h=>by O⟨F,δ,own,ds,δ',s,e,k⟩:=h;O⟨⟨ds1,δ1⟩,e1,e2⟩:=aa.mp e;C e2;R⟨F,δ,own,ds1,δ1,s,e1,λvs H' F' own' a b c r=>k _ H' F' own' a b c ?_⟩;E Reps.append (strs_rep ss) r
where strs_rep {F:Hp}:∀ss:А Str,Reps K F (ss.map D.str) (ss.map V.str)
 | []=>.nil
 |x::r=>.cons (.str x) (strs_rep r)
section
variable{X:Cx}{Z:Ent X.K}{pos:Pos}
аcst(x:Str×Г×Pos):Expr:=.Constant (.str x.1) x.2.1 x.2.2
ЛVw{es:А c5}{t:TA}(h:PA X es t):∀l:А (Str×Г×Pos),PA X (l.map cst++es) λσ H R=>t σ H λvs H'=>R ((l.map λx=>V.str x.1)++vs) H'
 | []=>h
 |x::r=>(Uq (e:=cst x) (es:=r.map cst++es) Zek (Vw h r) rfl).imp λσ H R q=>q
ЛZks{es:А c5}{fd:FD}(l:А (Str×Г×Pos))(h:PA X es (W0 Z fd)):PA X (l.map cst++es) (W0 Z (Df (l.map (·.1)) fd)):=
 (Vw h l).imp λσ H R q=>by V :=Zkr (l.map (·.1)) q;rw[bo]at this;E this
end
end DL
namespace DL
open PySem PySem.Spec PyProof.Rows L2
section
variable{K:af}
inductive RC where
 |v (δ:Yq)|x (e:Exn)
МxX(K:af)(f:FX)(EX:EXT):TE:=λσ H Q=>∃Z:Ent K,Z.x=EX/\Ztl Z f σ H Q
НDg(src:А BSrc)(k:Г)(g:FG)(tt:FT)(te:FX):А D->Yq->Б RC
 | [],δ=>aA (.v δ)
 |d::ds,δ=>(g.run d δ).bind λδ1=>(tt δ1).bind λp=>if p.1=aC then(te p.2).bind (fun
  | .x e _=>aA (.x e)
  | .v rv δ2=>(frz rv δ2).bind λr=>match r.2[k]? with
   |some (aA (.ol zs))=>if zs.length<bg then Dg src k g tt te ds (Bl src (r.2.set k (aA (.ol (zs++[r.1])))))else aB
   |_=>aB)
  else Dg src k g tt te ds (Bl src p.2)
НZ0i(src:А BSrc)(k:Г)(fi:FD)(g:FG)(tt:FT)(te:FX):FX:=λδ=>(fi δ).bind λp=>(frzAll (caps src) p.2).bind λc=>(Dg src k g tt te p.1 (bD src c.2)).bind fun
 | .x e=>aA (.x e c.2)
 | .v δb=>match δb[k]? with
  |some (aA (.ol ys))=>aA (.v (.tmp (.ol ys)) c.2)
  |_=>aB
end
end DL
namespace L2
open PySem PySem.Spec PyProof.Rows
МZmx{α:Type}(xs:А α)(lo hi st:Б Int):А α:=
 (sliceRange (sliceBounds lo hi st xs.length).1 (sliceBounds lo hi st xs.length).2.1 (sliceBounds lo hi st xs.length).2.2).filterMap (xs[·]?)
section
variable{X:Cx}{e st:c5}{te:TE}{lo hi:Б c5}{tl th ts:TO}{pos p2:Pos}
МZ2v(X:Cx)(r:V->Б Int->Б Int->Б Int->Hp->VK->В):Prop:=
 ∀(pins:А (aq×Obj)) (s:ao) (σ:St) (H:Hp) (x:V) (v vl vu vs:am) (lo hi st:Б Int) (sl:aq) (Q:VK),Inv X pins σ H s->Zu x v->s.heap.IsSliceOf sl vl vu vs->IsPart vl lo->IsPart vu hi->IsPart vs st->r x lo hi st H Q->
  ∃T id,typeLookup (.type T) "__getitem__"=pure (aA (.builtin id))/\s.TypeIs v T/\bc (b4 X.prog X.w) X.A (getItem v (.ref sl)) (EP X pins σ Q) X.xe s
МZ2w(r:V->Б Int->Б Int->Б Int->Hp->VK->В)(te:TE)(tl th ts:TO):TE:=λσ H Q=>te σ H λx H1=>tl σ H1 λl H2=>th σ H2 λu H3=>ts σ H3 λw H4=>r x l u w H4 Q
МZ2x(K:af):V->Б Int->Б Int->Б Int->Hp->VK->Prop:=λx lo hi st H Q=>∃a xs,x= .ref a/\W8 K H a xs/\st≠aA 0/\∀p,H p=aB->Q (.ref p) (Ya H p (.lst (Zmx xs lo hi st)))
end
end L2
namespace DL
open PySem PySem.Spec PyProof.Rows L2
НZ2y(g:D->Б Int->Б Int->Б Int->Б SV)(fe:FE)(fl fh fs:FO):FE:=λδ=>(fe δ).bind λp=>(fl p.2).bind λl=>(fh l.2).bind λh=>(fs h.2).bind λw=>(Pe p.1 w.2).bind λd=>(g d l.1 h.1 w.1).bind λsv=>aA (.tmp sv,w.2)
section
variable{K:af}{Z:Ent K}{H:Hp}{σ:L2.St}{Q:VK}
МZyg(Z:Ent K)(r:V->Б Int->Б Int->Б Int->Hp->VK->В)(g:D->Б Int->Б Int->Б Int->Б SV):Prop:=
 ∀(F H:Hp) (σ:L2.St) (δ:Yq) (own:Г->Zs) (x:V) (d:D) (lo hi st:Б Int) (sv:SV) (Q:VK),SR Z F H σ δ own->Yd K F H d x->g d lo hi st=aA sv->Fin Z F H σ δ own sv Q->r x lo hi st H Q
НZ2z:D->Б Int->Б Int->Б Int->Б SV
 | .lst xs,lo,hi,st=>if st≠aA 0 then aA (.ol (Zmx xs lo hi st))else aB
 |_,_,_,_=>aB
end
end DL
namespace DL
section
variable{α:Type}{P:А α->В}
@[elab_as_elim] theorem of0(h:P [])(us:А α)(hl:us.length=0):P us:=by V :us=[]:=List.eq_nil_of_length_eq_zero hl;rw[this];E h
@[elab_as_elim] theorem of1(h:∀a,P [a])(us:А α)(hl:us.length=1):P us:=by O⟨a,e⟩:=List.length_eq_one_iff.mp hl;rw[e];E h a
ЛofC{n:Г}(h:∀a (us:А α),us.length=n->P (a::us))(us:А α)(hl:us.length=n+1):P us:=by
 cases us with
 |nil=>E absurd hl К
 |cons a r=>E h a r (by simpa using hl)
@[elab_as_elim] theorem of2(h:∀a b,P [a,b])(us:А α)(hl:us.length=2):P us:=ofC (λa=>of1 (P:=λus=>P (a::us)) (h a)) us hl
@[elab_as_elim] theorem of3(h:∀a b c,P [a,b,c])(us:А α)(hl:us.length=3):P us:=ofC (λa=>of2 (P:=λus=>P (a::us)) (h a)) us hl
@[elab_as_elim] theorem of4(h:∀a b c d,P [a,b,c,d])(us:А α)(hl:us.length=4):P us:=ofC (λa=>of3 (P:=λus=>P (a::us)) (h a)) us hl
@[elab_as_elim] theorem of5(h:∀a b c d e,P [a,b,c,d,e])(us:А α)(hl:us.length=5):P us:=ofC (λa=>of4 (P:=λus=>P (a::us)) (h a)) us hl
@[elab_as_elim] theorem of6(h:∀a b c d e f,P [a,b,c,d,e,f])(us:А α)(hl:us.length=6):P us:=ofC (λa=>of5 (P:=λus=>P (a::us)) (h a)) us hl
end
end DL
namespace L2
open PySem PySem.Spec PyProof.Rows
section
variable{prog:b5}{w:da}{A:dg}{E:am->ao->В}{s:ao}{q d:aq}{i n ep:Г}{od:Obj}{es:Array DictEntry}
ЛMl{Q:am->ao->В}(hs:(d==sysModules)=aD)(g:s.heap.get? d=aA od)(x:od.ExactDict)(c:od.data= .dict es ep)
  (k:Q (.ref s.heap.objs.size) {s with heap:=s.heap.push {cls:=.type "dict_keyiterator",data:=.fields #[.ref d,.int 0 0,.int es.size 0,.int ep 0]}}):bc (b4 prog w) A (pyIter (.ref d)) Q E s:=by
 V T:s.TypeIs (.ref d) "dict":=⟨od,g,x.1⟩
 R wpAny_pyIter_slot T PySem.F.slot_dict_iter (dj PySem.F.slot_dict_iter T PySem.F.entry_dict_iter (show bc _ _ (Builtin.«dict.__iter__» _) _ _ _ from ?_) (PySem.F.args_dict_iter_1 _));unfold Builtin.«dict.__iter__» Builtin.Dict.dictSlotNone;R ad (ad (wpAny_notOrdered_dict T (show bc _ _ (pure (bz d)) _ _ s from ah ?_)));T bc _ _ (Builtin.Dict.showsAll d >>=_) _ _ s;unfold Builtin.Dict.showsAll;rw[Д (by rw[hs];decide)];R ad (ah (ad (wpAny_dictEntries g c (ad (wpAny_dictEpoch g c (ad (dw (ah ⟨_,rfl,"dict_keyiterator",_,⟨_,ba _ rfl,rfl⟩,gu.lookup,?_⟩))))))));simpa[rawInt]using k
ЛMm{e:DictEntry}{Q:Б am->ao->В}(t:s.heap.IsKeyIter q d i n ep)(g:s.heap.get? d=aA od)(c:od.data= .dict es ep)(hn:es.size=n)(he:es[i]? =aA e)
  (k:∀h',h'.IsKeyIter q d (i+1) n ep->ic q s.heap h'->Q (aA e.key) {s with heap:=h'}):bc (b4 prog w) A (pyNext (.ref q)) Q E s:=by
 O⟨o,ho,hc,hd⟩:=id t;V T:=t.typeIs;unfold pyNext;R ad (wpAny_attempt (d3 (name:="__next__") T gu (dj gu T PySem.F.entry_dict_keyiterator_next (ad (ah (ad (ad ?_)))) (PySem.F.args_dict_keyiterator_next_1 _))))
 first| (R ad (wpAny_typeNameOfWhole_keyiter T (ah (ad (wpAny_fieldsOf ho hd ?_)))))| (R ad (wpAny_typeNameOf_keyiter T (ah (ad (wpAny_fieldsOf ho hd ?_)))))
 V z0:Builtin.Dict_items.ownsTuple "dict_keyiterator"=aD:=rfl;rw[z0];simp only[bq,if_false];T bc _ _ (ite ((bz d==cm)=aC) _ _) _ _ s;rw[Д (show¬(bz d==cm)=aC from λz=>bp z)];R ad (ah (ad (wpAny_dictEntries g c ?_)));rw[Д (by rw[hn];simp)];R ad (ah (ad (wpAny_dictEpoch g c ?_)));rw[Д К];V hi:i<es.size:=(gn.mp he).1;R ah ?_;simp only[show¬((i:Int)<0) by W,if_false,gp,he];R ad ?_
 first| (R ad (wpAny_typeNameOfWhole_keyiter T (ah (ad (wpAny_isOneOf_keyiter T ?_)))))| (R ad (wpAny_typeNameOf_keyiter T (ah (ad (wpAny_isOneOf_keyiter T ?_)))))
 T bc _ _ (setField (.ref q) 1 (rawInt ((i:Int)+1)) >>=_) _ _ s;R ad (wpAny_setField ho hd К ?_);V t':(s.heap.update q (Obj.mapFields (·.setIfInBounds 1 (rawInt ((i:Int)+1))))).IsKeyIter q d (i+1) n ep:=⟨_,g9 _ ho (Obj.isFreed_of_fields (Obj.data_mapFields hd _)),(Obj.cls_mapFields ..).trans hc,(Obj.data_mapFields hd _).trans (by simp[rawInt])⟩
 R ad (wpAny_holding (ad (wpAny_isOneOf_keyiter (s:={s with heap:=s.heap.update q (Obj.mapFields (·.setIfInBounds 1 (rawInt ((i:Int)+1))))}) t'.typeIs (show bc _ _ (pure e.key) _ _ _ from ah (ah ⟨_,rfl,ah (k _ t' (g7 ..))⟩)))))
ЛMn{Q:Б am->ao->В}(hh:A.handled=aB)(t:s.heap.IsKeyIter q d i n ep)(g:s.heap.get? d=aA od)(c:od.data= .dict es ep)(hn:es.size=n)(hi:n<=i)
  (k:∀h',Heap.ExtBut q s.heap h'->Q aB {s with heap:=h'}):bc (b4 prog w) A (pyNext (.ref q)) Q E s:=by
 O⟨o,ho,hc,hd⟩:=id t;V T:=t.typeIs;unfold pyNext;R ad (wpAny_attempt (d3 (name:="__next__") T gu (dj gu T PySem.F.entry_dict_keyiterator_next (ad (ah (ad (ad ?_)))) (PySem.F.args_dict_keyiterator_next_1 _))))
 first| (R ad (wpAny_typeNameOfWhole_keyiter T (ah (ad (wpAny_fieldsOf ho hd ?_)))))| (R ad (wpAny_typeNameOf_keyiter T (ah (ad (wpAny_fieldsOf ho hd ?_)))))
 V z0:Builtin.Dict_items.ownsTuple "dict_keyiterator"=aD:=rfl;rw[z0];simp only[bq,if_false];T bc _ _ (ite ((bz d==cm)=aC) _ _) _ _ s;rw[Д (show¬(bz d==cm)=aC from λz=>bp z)];R ad (ah (ad (wpAny_dictEntries g c ?_)));rw[Д (by rw[hn];simp)];R ad (ah (ad (wpAny_dictEpoch g c ?_)));rw[Д К];V he:es[i]? =aB:=Array.getElem?_eq_none И;R ah ?_;simp only[show¬((i:Int)<0) by W,if_false,gp,he];R ad ?_
 first| (R ad (wpAny_typeNameOfWhole_keyiter T (ah ?_)))| (R ad (wpAny_typeNameOf_keyiter T (ah ?_)))
 T bc _ _ (setField (.ref q) 0 cm >>=_) _ _ s;R ad (wpAny_setField ho hd К (show bc _ _ (newExc (.type "StopIteration") [] >>=_) _ _ _ from ad ?_));simp only[newExc,newTuple];R ad (dw (ad (m:=firstArgMember _ _) (wpAny_of_eq (a:=cm) (by first|rfl| (simp only[firstArgMember];rfl)) (dw ?_ (by size_fits)))) (by size_fits));simp only[raiseNew];R ad (wpAny_handled ?_);rw[show A.in1.handled=Option.none from hh];R ad (ah (wpAny_throw ?_));R ad (wpAny_isInstance (T:="StopIteration") (b:=aC) (by E⟨_,ba _ rfl,rfl⟩) isSubtype_stop ?_);E ah (k _ (((g7 ..).extBut.push _).push _))
ЛZa6{P:b5}{w:da}{k:Key}{u:am}(h:(Zp P w).is k u=aC):Zu (kV k) u:=by
 rcases Z5 h with⟨i,t,rfl,rfl⟩|⟨x,t,rfl,rfl⟩
 ·E⟨t,rfl⟩
 ·E⟨t,rfl⟩
end
МItk(a:aq)(n ep:Г):It:=
 ⟨λi H=>∃kvs,H a=aA (.dK kvs ep)/\kvs.length=n/\i<n,λi H x H'=>H'=H/\∃kvs kv,H a=aA (.dK kvs ep)/\kvs[i]? =aA kv/\x=kV kv.1,λi H=>∃kvs,H a=aA (.dK kvs ep)/\kvs.length=n/\n<=i⟩
МItd(a:aq)(n ep:Г):It:=
 ⟨λi H=>∃kvs bs,H a=aA (.dT kvs ep bs)/\kvs.length=n/\i<n,λi H x H'=>H'=H/\∃kvs bs b,H a=aA (.dT kvs ep bs)/\bs[i]? =aA b/\x= .ref b,λi H=>∃kvs bs,H a=aA (.dT kvs ep bs)/\kvs.length=n/\n<=i⟩
ЛMo{q d:aq}{i n ep:Г}{h h':eh}(t:h.IsKeyIter q d i n ep)(k:∀o,h.get? q=aA o->h'.get? q=aA o):h'.IsKeyIter q d i n ep:=let⟨o,e,r⟩:=t;⟨o,k o e,r⟩
ЛZgs{P:b5}{w:da}{es:А DictEntry}{vs:А (Key×am)}(h:Pairs (Zp P w) es vs){i:Г}{kv:Key×am}(hi:vs[i]? =aA kv):∃e,es[i]? =aA e/\(Zp P w).is kv.1 e.key=aC:=by
 induction h generalizing i with
 |nil=>simp at hi
 | @cons e0 kv0 es0 kvs0 h1 h2 _ ih=>
  cases i with
  |zero=>simp at hi;subst hi;E⟨e0,by simp,h1⟩
  |succ j=>O⟨e,a1,a2⟩:=ih (i:=j) (by simpa using hi);E⟨e,by simpa using a1,a2⟩
ЛTj{P:b5}{w:da}{es:А DictEntry}{vs:А (Key×am)}(h:Pairs (Zp P w) es vs):es.length=vs.length:=by
 induction h with
 |nil=>rfl
 |cons _ _ _ ih=>rw[bf,bf,ih]
ЛU3{α β:Type}{R:α->β->В}{l:А α}{m:А β}(h:Paired R l m):∀{i:Г} {x:α},l[i]? =aA x->∃y,m[i]? =aA y/\R x y:=by
 induction h with
 |nil=>intro i x hi;simp at hi
 | @cons a b as bs h1 t ih=>
  intro i x hi;cases i with
  |zero=>simp at hi;subst hi;E⟨b,by simp,h1⟩
  |succ j=>O⟨y,a1,a2⟩:=ih (i:=j) (by simpa using hi);E⟨y,by simpa using a1,a2⟩
ЛB6{P:b5}{w:da}{K:af}{tg:c5}(a it:aq)(n ep:Г):Turn P w K tg (Itk a n ep) [it] it (λi h=>h.IsKeyIter it a i n ep)where
 mem:=ag
 obj:=λi h st b hb=>by obtain rfl:=au.mp hb;O⟨o,e,c,d⟩:=st;E⟨o,e,λv z=>by rw[d]at z;C z⟩
 keep:=λi h h' st k=>Mo st λo e=>k it ag o e
 item:=by
  intro X hP hw hK hc i pins s σ H E I hf st hg;subst hP hw hK;O⟨kvs,hq,hn,hi⟩:=hg;O⟨z,hd,vs,rel,od,es,g,x,c,ko,pr,nd⟩:=(show Yc X.prog X.w H s.heap a (.dK kvs ep)from I.hok a _ hq)
  O⟨f0,f1,f2,f3,f4,f5⟩:=hf it ag;V hkv:kvs[i]? =aA (kvs[i]'И):=ax И;O⟨vv,hv,hr⟩:=U3 rel hkv;O⟨e,he,hke⟩:=Zgs pr hv;V hz:es.size=n:=by rw[<-a8,Tj pr,<-g6 rel,hn]
  R Mm st g c hz (e:=e) (by rw[<-c6];E he) λh' st' sb=>?_;V I1:Inv X pins σ H {s with heap:=h'}:=I.turned (t':=s.toks) (λb o hb e=>(sb.2 b hb).trans e) f0 f1 f3 f4 f5;O⟨o,e1,c1,d1⟩:=id st';E⟨e.key,rfl,T3 (s:={s with heap:=h'}) e1 c1 d1 Й ⟨kV (kvs[i]'И).1,H,I1,Za6 (by rw[hr.1];E hke),⟨rfl,kvs,_,hq,hkv,rfl⟩,st',λb hb=>(hf b hb).1⟩⟩
 done:=by
  intro X hP hw hK hc i pins s σ H E I hf st hg;subst hP hw hK;O⟨kvs,hq,hn,hi⟩:=hg;O⟨z,hd,vs,rel,od,es,g,x,c,ko,pr,nd⟩:=(show Yc X.prog X.w H s.heap a (.dK kvs ep)from I.hok a _ hq)
  O⟨f0,f1,f2,f3,f4,f5⟩:=hf it ag;V hz:es.size=n:=by rw[<-a8,Tj pr,<-g6 rel,hn]
  E Mn (I.ok.hd hc) st g c hz hi λh' eb=>⟨rfl,I.turned (t':=s.toks) (λb o hb e=>eb b o hb e) f0 f1 f3 f4 f5⟩
 self:=λ_ _ s _ _ st h=>by E wpAny_pyIter_slot st.typeIs PySem.F.slot_dict_keyiterator_iter (dj PySem.F.slot_dict_keyiterator_iter st.typeIs PySem.F.entry_dict_keyiterator_iter (by E ah ⟨_,rfl,"dict_keyiterator",_,st.typeIs,gu.lookup,h⟩) (PySem.F.args_dict_keyiterator_iter_1 _))
ЛZku{P:b5}{w:da}{K:af}{tg:c5}(a it:aq)(n ep:Г):Turn P w K tg (Itd a n ep) [it] it (λi h=>h.IsKeyIter it a i n ep)where
 mem:=ag
 obj:=(B6 (P:=P) (w:=w) (K:=K) (tg:=tg) a it n ep).obj
 keep:=(B6 (P:=P) (w:=w) (K:=K) (tg:=tg) a it n ep).keep
 item:=by
  intro X hP hw hK hc i pins s σ H E I hf st hg;subst hP hw hK;O⟨kvs,bs,hq,hn,hi⟩:=hg;O⟨z,hd,xs,rel,od,es,g,x,c,en,nd,hbs⟩:=(show Yc X.prog X.w H s.heap a (.dT kvs ep bs)from I.hok a _ hq)
  O⟨f0,f1,f2,f3,f4,f5⟩:=hf it ag;V hkv:kvs[i]? =aA (kvs[i]'И):=ax И;O⟨vv,hv,hr⟩:=U3 rel hkv;V hz:es.size=n:=by rw[<-a8,en,aj,<-g6 rel,hn]
  V he:es[i]? =aA (entryOfKey (tupleKind (Zp X.prog X.w)) vv):=by rw[<-c6,en,a9,hv];rfl
  R Mm st g c hz he λh' st' sb=>?_;V I1:Inv X pins σ H {s with heap:=h'}:=I.turned (t':=s.toks) (λb o hb e=>(sb.2 b hb).trans e) f0 f1 f3 f4 f5;O⟨o,e1,c1,d1⟩:=id st';E⟨.ref vv.2.1,rfl,T3 (s:={s with heap:=h'}) e1 c1 d1 Й ⟨.ref vv.2.1,H,I1,rfl,⟨rfl,kvs,bs,vv.2.1,hq,by rw[<-hbs,a9,hv];rfl,rfl⟩,st',λb hb=>(hf b hb).1⟩⟩
 done:=by
  intro X hP hw hK hc i pins s σ H E I hf st hg;subst hP hw hK;O⟨kvs,bs,hq,hn,hi⟩:=hg;O⟨z,hd,xs,rel,od,es,g,x,c,en,nd,hbs⟩:=(show Yc X.prog X.w H s.heap a (.dT kvs ep bs)from I.hok a _ hq)
  O⟨f0,f1,f2,f3,f4,f5⟩:=hf it ag;V hz:es.size=n:=by rw[<-a8,en,aj,<-g6 rel,hn]
  E Mn (I.ok.hd hc) st g c hz hi λh' eb=>⟨rfl,I.turned (t':=s.toks) (λb o hb e=>eb b o hb e) f0 f1 f3 f4 f5⟩
 self:=(B6 (P:=P) (w:=w) (K:=K) (tg:=tg) a it n ep).self
section
variable{X:Cx}{tg:c5}
МZtp(tl:TE):TI:=λσ H R=>tl σ H λx H1=>(∃a kvs ep,x= .ref a/\H1 a=aA (.dK kvs ep)/\R (Itk a kvs.length ep) H1)\/(∃a kvs ep bs,x= .ref a/\H1 a=aA (.dT kvs ep bs)/\R (Itd a kvs.length ep) H1)
ЛZpe{l:c5}{tl:TE}(hl:PE X l tl):PI X tg l (Ztp tl):=by
 intro pins s σ H R I h;R Wv (hl pins s σ H _ I h) λv s1 zq9=>?_;O⟨x,H1,I1,r1,q1⟩:=zq9;rcases q1 with⟨a,kvs,ep,rfl,hq,q⟩|⟨a,kvs,ep,bs,rfl,hq,q⟩
 ·C r1;O⟨z,hd,vs,rel,od,es,g,x,c,ko,pr,nd⟩:=(show Yc X.prog X.w H1 s1.heap a (.dK kvs ep)from I1.hok a _ hq)
  V hz:es.size=kvs.length:=by rw[<-a8,Tj pr,<-g6 rel]
  R Ml hd g x c ⟨s1.heap.objs.size,[s1.heap.objs.size],_,_,H1,rfl,I1.kept (t':=s1.toks) λb o e=>av _ e,B6 a _ kvs.length ep,⟨_,ba _ rfl,rfl,by rw[hz];rfl⟩,λb hb=>?_,q⟩;obtain rfl:=au.mp hb;E I1.fpOk (a6 _) (I1.hok.fresh (a6 _))
 ·C r1;O⟨z,hd,xs,rel,od,es,g,x,c,en,nd,hbs⟩:=(show Yc X.prog X.w H1 s1.heap a (.dT kvs ep bs)from I1.hok a _ hq)
  V hz:es.size=kvs.length:=by rw[<-a8,en,aj,<-g6 rel]
  R Ml hd g x c ⟨s1.heap.objs.size,[s1.heap.objs.size],_,_,H1,rfl,I1.kept (t':=s1.toks) λb o e=>av _ e,Zku a _ kvs.length ep,⟨_,ba _ rfl,rfl,by rw[hz];rfl⟩,λb hb=>?_,q⟩;obtain rfl:=au.mp hb;E I1.fpOk (a6 _) (I1.hok.fresh (a6 _))
end
end L2
namespace DL
open PySem PySem.Spec PyProof.Rows L2
variable{K:af}
НRq:Key->D
 | .inl i=>.int i
 | .inr x=>.str x
ЛVx{F:Hp}(k:Key):Rep K F (Rq k) (kV k):=by
 cases k with
 |inl i=>E .int i
 |inr x=>E .str x
ЛGy{F:Hp}:∀k:А Key,Reps K F (k.map Rq) (k.map kV)
 | []=>.nil
 |k::r=>.cons (Vx k) (Gy r)
ЛZde{F:Hp}{a:aq}{kvs:А (Key×V)}{ep:Г}(h:F a=aA (.dK kvs ep)):U7 K (Itk a kvs.length ep) F ((kvs.map (·.1)).map Rq):=λF' H sF sH i=>by V q:H a=aA (.dK kvs ep):=sH _ _ (sF _ _ h);R⟨λd hd=>?_,λhl=>⟨kvs,q,rfl,by simpa using hl⟩⟩;rw[bo,a9]at hd;O⟨kv,h1,h2⟩:=c7.mp hd;R⟨⟨kvs,q,rfl,(ay.mp h1).1⟩,λx H' ⟨e1,kvs',kv',e2,e3,e4⟩=>?_⟩;subst e1;rw[q]at e2;C e2;rw[h1]at e3;C e3;subst e4;rw[<-h2];E⟨Zi.refl _,[],cx,λ_ h=>(nomatch h),Vx _⟩
ЛZdf{F:Hp}{a:aq}{kvs:А (А Key×V)}{ep:Г}{bs:А aq}(h:F a=aA (.dT kvs ep bs))(kb:KB F kvs bs):U7 K (Itd a kvs.length ep) F ((kvs.map (·.1)).map λk=>D.tup (k.map Rq)):=λF' H sF sH i=>by V q:H a=aA (.dT kvs ep bs):=sH _ _ (sF _ _ h);R⟨λd hd=>?_,λhl=>⟨kvs,bs,q,rfl,by simpa using hl⟩⟩;rw[bo,a9]at hd;O⟨kv,h1,h2⟩:=c7.mp hd;R⟨⟨kvs,bs,q,rfl,(ay.mp h1).1⟩,λx H' ⟨e1,kvs',bs',b,e2,e3,e4⟩=>?_⟩;subst e1;rw[q]at e2;C e2;subst e4;O⟨b',g1,g2⟩:=U3 (kb.mono sF) h1;rw[e3]at g1;C g1;rw[<-h2];E⟨Zi.refl _,[],cx,λ_ h=>(nomatch h),.tup g2 (Gy _)⟩
section
variable{Z:Ent K}{H:Hp}{σ:L2.St}
НDh(fe:FE):FD:=λδ=>(fe δ).bind λp=>(frz p.1 p.2).bind λq=>match q.1 with
 | .dK ks _=>aA (ks.map Rq,q.2)
 | .dT ks _=>aA (ks.map λk=>D.tup (k.map Rq),q.2)
 |_=>aB
ЛZpf{fe:FE}{R:It->Hp->В}(h:Qf Z (Dh fe) σ H R):Ztp (Ze Z fe) σ H R:=by
 O⟨F,δ,own,ds,δ',s,e,k⟩:=h;O⟨⟨rv,δ1⟩,e1,e2⟩:=aa.mp e;O⟨⟨d,δ2⟩,e3,e4⟩:=aa.mp e2;R⟨F,δ,own,rv,δ1,s,e1,λv H1 F1 own1 sH sF s1 r1=>?_⟩;O⟨F2,sF2,s2,r2⟩:=s1.settleR r1;O⟨F3,own3,sF3,s3,r3⟩:=s2.frzR r2 e3;dsimp only at e4;split at e4
 ·C e4;cases r3 with
  |dK h e r=>subst e;E .inl ⟨_,_,_,rfl,s3.le _ _ h,k _ H1 F3 own3 sH (sF.trans (sF2.trans sF3)) s3 (Zde h)⟩
 ·C e4;cases r3 with
  |dT h kb e r=>subst e;E .inr ⟨_,_,_,_,rfl,s3.le _ _ h,k _ H1 F3 own3 sH (sF.trans (sF2.trans sF3)) s3 (Zdf h kb)⟩
 ·C e4
end
ЛZgt{X:Cx}{tg:c5}{Z:Ent X.K}{a:c5}{fa:FE}(ha:PE X a (Ze Z fa)):PI X tg a (Qf Z (Dh fa)):=λpins s σ H R I h=>Zpe ha pins s σ H R I (Zpf h)
end DL
namespace DL
open PySem PySem.Spec PyProof.Rows L2
variable{K:af}
НinW(d1 d2:D):Б SV:=match d2.seq? with
 |some xs=>if d1.isFlat=aC/\xs.all D.isFlat=aC then aA (.fz (.bl (Pu d1 xs)))else aB
 |none=>inD d1 d2
НZyj(d1 d2:D):Б SV:=match d2.seq? with
 |some xs=>if d1.isFlat=aC/\xs.all D.isFlat=aC then aA (.fz (.bl (!Pu d1 xs)))else aB
 |none=>Pl d1 d2
end DL
namespace L2
open PySem PySem.Spec PyProof.Rows
section
variable{X:Cx}
МZ21:R2:=λx y H Q=>∃a b kvs,x= .ref a/\y= .ref b/\HTt H a kvs/\HTt H b kvs/\(∀p∈kvs,Y7 p.2=aC)/\Q (.bl aC) H
end
end L2
namespace DL
open PySem PySem.Spec PyProof.Rows L2
variable{K:af}
МZtq(ks ks':А (А Key))(vs vs':А D):Bool:=@decide (ks=ks'/\vs=vs'/\vs.all D.isFlat=aC) (Classical.propDecidable _)
НZ22(d1 d2:D):Б SV:=match d1,d2 with
 | .dT ks vs,.dT ks' vs'=>if Ztq ks ks' vs vs'=aC then aA (.fz (.bl aC))else aB
 |_,_=>aB
end DL
namespace DL
open PySem PySem.Spec PyProof.Rows L2
end DL
namespace DL
open PySem PySem.Spec PyProof.Rows L2
variable{K:af}
НDi(src:А BSrc)(k:Г)(g:FG)(tt:FT)(te:FE):А D->Yq->Б Yq
 | [],δ=>aA δ
 |d::ds,δ=>(g.run d δ).bind λδ1=>(tt δ1).bind λp=>if p.1=aC then(te p.2).bind λq=>match q.1,q.2[k]? with
   | .tmp (.ol xs),aA (aA (.oL aB zs))=>if zs.length<bg then Di src k g tt te ds (Bl src (q.2.set k (aA (.oL aB (zs++[xs])))))else aB
   |_,_=>aB
  else Di src k g tt te ds (Bl src p.2)
НZyk(src:А BSrc)(k:Г)(fi:FD)(g:FG)(tt:FT)(te:FE):FE:=λδ=>(fi δ).bind λp=>(frzAll (caps src) p.2).bind λc=>(Di src k g tt te p.1 ((bD src c.2).set k (aA (.oL aB [])))).bind λδb=>match δb[k]? with
 |some (aA (.oL aB ys))=>aA (.tmp (.oL aB ys),c.2)
 |_=>aB
section
variable{Z:Ent K}{H:Hp}{σ:L2.St}{Q:VK}{E:Ends}
МZmy(i p q:Г):FE:=λδ=>match δ[i]?,δ[p]?,δ[q]? with
 |some (aA (.oL aB xss)),aA (aA (.fz (.int n))),aA (aA (.fz (.lst xs)))=>if 0<=n/\n.toNat<=xss.length/\xss.length+1<=bg then aA (.tmp (.oL aB (xss.take n.toNat++[xs]++xss.drop n.toNat)),δ.set i aB)else aB
 |_,_,_=>aB
@[simp] theorem Ztr{i p q:Г}{δ:Yq}{xss:А (А D)}{n:Г}{xs:А D}(hi:δ[i]? =some (some (.oL none xss)))(hp:δ[p]? =some (some (.fz (.int (n:Г)))))(hq:δ[q]? =some (some (.fz (.lst xs))))(hn:n<=xss.length)(hz:xss.length+1<=bg):
  Zmy i p q δ=aA (.tmp (.oL aB (xss.take n++[xs]++xss.drop n)),δ.set i aB):=by
 unfold Zmy;rw[hi,hp,hq];dsimp only;rw[Е ⟨by W,by W,hz⟩,gp]
аZ23(K:af):А V->Hp->VK->Prop:=λxs H Q=>∃p ys,xs=[V.ref p]/\(W8 K H p ys\/Ov K H p ys)/\∀l,H l=aB->Q (.ref l) (Ya H l (.lst ys))
НapT(c:Str)(n:Г)(xss:А (А D)):А (А D):=(xss.take n).map (· ++[.str c])++xss.drop n
МZa7(i j:Г)(c:Str):FS:=λδ=>match δ[i]? with
 |some (aA (.oL aB xss))=>if i≠j/\j<δ.length/\(∀xs∈xss,xs.length<bg)then aA (.nx ((δ.set j aB).set i (aA (.oL aB (xss.map (· ++[.str c]))))))else aB
 |_=>aB
@[simp] theorem Zpg{i j:Г}{c:Str}{δ:Yq}{xss:А (А D)}(hi:δ[i]? =some (some (.oL none xss)))(hij:i≠j)(hj:j<δ.length)(hz:∀xs∈xss,xs.length<bg):Za7 i j c δ=some (.nx ((δ.set j none).set i (some (.oL none (xss.map (· ++[.str c])))))):=by unfold Za7;rw[hi];dsimp only;rw[Е ⟨hij,hj,hz⟩]
МZa8(i:Г):FS:=λδ=>match δ[i]? with
 |some (aA (.oL aB _))=>aA (.nx (δ.set i (aA (.ol []))))
 |_=>aB
@[simp] theorem Zph{i:Г}{δ:Yq}{xss:А (А D)}(hi:δ[i]? =some (some (.oL none xss))):Za8 i δ=some (.nx (δ.set i (some (.ol [])))):=by unfold Za8;rw[hi]
end
end DL
namespace DL
open PySem PySem.Spec PyProof.Rows L2
section
variable{X:Cx}{Z:Ent X.K}{a b c:c5}{fa fb fc:FE}{pos:Pos}
ЛZmz(i:Г){x:Str}{pos:Pos}(hN:X.N[i]? =aA x:=by rfl)(hv:Vis X.env.scope x:=by first|E Or.inl rfl|E Or.inr (Or.inl rfl)|E Or.inr (Or.inr rfl))(hd:(x==("__debug__":Str))=aD:=by decide)
  (hcd:(x==("__classdict__":Str))=aD:=by decide):PE X (.Name x pos) (Cy i):=Ba hN hv hd hcd
end
end DL
namespace DL
open PySem PySem.Spec PyProof.Rows L2
variable{K:af}
МZv2(K:af)(C:aq)(f:Str):Sp:=λvs H Q _=>∃e p ys,vs=[.ref e,.ref p]/\H e=aA (.ext (C1 e C aB))/\(W8 K H p ys\/Ov K H p ys)/\
 ∀l,H l=aB->∀dx,Ya H l (.lst ys) dx=aB->Q .non (Ya (Ya (Ya H l (.lst ys)) dx (.xd [(f,.ref l)])) e (.ext (C1 e C (aA dx))))
МZv3(C:aq)(f:Str):Sp:=λvs H Q _=>∃e v,vs=[.ref e,v]/\H e=aA (.ext (C1 e C aB))/\
 ∀dx,H dx=aB->Q .non (Ya (Ya H dx (.xd [(f,v)])) e (.ext (C1 e C (aA dx))))
section
variable{Z:Ent K}{H:Hp}{σ:L2.St}{E:Ends}{Q:VK}
НZyl(c f:Str)(fe:FE):FS:=λδ=>(fe δ).bind λp=>(frz p.1 p.2).bind λq=>match q.1 with
 | .lst ds=>aA (.ex ⟨c,[f],[.lst ds]⟩ q.2)
 |_=>aB
НZym(c f:Str)(fe:FE):FS:=λδ=>(fe δ).bind λp=>(frz p.1 p.2).bind λq=>aA (.ex ⟨c,[f],[q.1]⟩ q.2)
НZ0k(cs:А Str)(f:Str):D->Б SV
 | .exc c ks vs=>if c∈cs then((ks.zip vs).lookup f).bind λd=>aA (.fz d)else aB
 |_=>aB
end
end DL
namespace DL
open PySem PySem.Spec PyProof.Rows L2
variable{K:af}
ЛVy:∀{xs ys:А Str},xs.map V.str=ys.map V.str->xs=ys
 | [],[],_=>rfl
 | [],_::_,h=>by simp at h
 |_::_,[],h=>by simp at h
 |x::xs,y::ys,h=>by simp only[a7,List.cons.injEq]at h;O⟨h1,h2⟩:=h;C h1;rw[Vy h2]
аZgu(H:Hp)(bs:А aq)(xss:А (А Str)):Prop:=Paired (λ(b:aq) (xs:А Str)=>H b=aA (.tup (xs.map V.str))) bs xss
open Classical in
МeqT(H:Hp)(ss:А Str):am->Bool:=λw=>decide (∃b,w= .ref b/\H b=aA (.tup (ss.map V.str)))
section
variable{X:Cx}{pins:А (aq×Obj)}{σ:L2.St}{H:Hp}{s:ao}
МZ24(K:af)(neg:Bool):R2:=λx y H Q=>∃b ss a bs xss,x= .ref b/\H b=aA (.tup (ss.map V.str))/\y= .ref a/\W8 K H a (bs.map V.ref)/\Zgu H bs xss/\Q (.bl (if neg then !(xss.any λxs=>decide (xs=ss))else xss.any λxs=>decide (xs=ss))) H
МZv4(K:af):V->А V->Hp->VK->Prop:=λx xs H Q=>∃b ss a bs xss j,xs=[.ref b]/\H b=aA (.tup (ss.map V.str))/\x= .ref a/\W8 K H a (bs.map V.ref)/\Zgu H bs xss/\(xss.findIdx? λxs=>decide (xs=ss))=aA j/\Q (.int (j:Г)) H
end
Нtl?:А D->Б (А (А Str))
 | []=>aA []
 | .tup ds::r=>(strs? ds).bind λx=>(tl? r).bind λt=>aA (x::t)
 |_=>aB
НinP:D->D->Б SV
 | .tup a,.lst xs=>(strs? a).bind λss=>(tl? xs).bind λxss=>aA (.fz (.bl (xss.any λx=>decide (x=ss))))
 |_,_=>aB
НZyn:D->D->Б SV
 | .tup a,.lst xs=>(strs? a).bind λss=>(tl? xs).bind λxss=>aA (.fz (.bl (!(xss.any λx=>decide (x=ss)))))
 |_,_=>aB
НZyo:А D->Б SV
 | [.lst xs,.tup a]=>(strs? a).bind λss=>(tl? xs).bind λxss=>(xss.findIdx? λx=>decide (x=ss)).bind λj=>aA (.fz (.int (j:Г)))
 |_=>aB
end DL
namespace DL
open PySem PySem.Spec PyProof.Rows L2
variable{K:af}
section
variable{Z:Ent K}{H:Hp}{σ:L2.St}{Q:VK}
НZ0l(k0:Str)(f0:FE)(j:Г)(f1:FE):FE:=λδ=>match δ[j]? with
 |some (aA (.fz (.str x)))=>(Zg f0 (Zg f1 Zn) δ).bind λp=>match p.1 with
  | [v0,v1]=>if k0=x then aB else aA (.tmp (.oK [.inr k0,.inr x] [v0,v1]),p.2)
  |_=>aB
 |_=>aB
end
end DL
namespace L2
open PySem PySem.Spec PyProof.Rows
section
variable{X:Cx}
МZv5(K:af):V->А V->Hp->VK->Prop:=λx xs H Q=>∃p ys y,x= .ref p/\xs=[y]/\W8 K H p ys/\Y7 y=aC/\ys.all Y7=aC/\Q (.int ((ys.countP λz=>S8 z y):Г)) H
МZyp:V->А V->Hp->VK->Prop:=λx xs H Q=>∃a b i,x= .str a/\xs=[.str b,.int i]/\Q (.int (Txt.find3 a b i)) H
end
end L2
namespace DL
open PySem PySem.Spec PyProof.Rows L2
variable{K:af}
section
variable{Z:Ent K}{H:Hp}{σ:L2.St}{Q:VK}{E:Ends}
НZyq:А D->Б SV
 | [.lst xs,x]=>if x.isFlat=aC/\xs.all D.isFlat=aC then aA (.fz (.int ((xs.countP λy=>Db y x):Г)))else aB
 |_=>aB
НZyr:А D->Б SV
 | [.str a,.str b,.int i]=>aA (.fz (.int (Txt.find3 a b i)))
 |_=>aB
НZ25(i:Г)(j:Int):FS:=λδ=>match δ[i]? with
 |some (aA (.fz (.int x)))=>aA (.nx (δ.set i (aA (.fz (.int (x+j))))))
 |_=>aB
НZ0m:FE:=λδ=>aA (.tmp (.oL aB [[]]),δ)
МZm0(i:Г):FS:=λδ=>match δ[i]? with
 |some (aA (.oL p xss))=>if xss.length<bg then aA (.nx (δ.set i (aA (.oL p (xss++[[]])))))else aB
 |_=>aB
@[simp] theorem Zts{i:Г}{δ:Yq}{p:Б aq}{xss:А (А D)}(hi:δ[i]? =some (some (.oL p xss)))(hz:xss.length<bg):Zm0 i δ=some (.nx (δ.set i (some (.oL p (xss++[[]]))))):=by unfold Zm0;rw[hi];EЕ hz
аZ26(K:af)(i:Г):TE:=tOp (Zoe K) (Cy i) (tC (.int (-1)))
МZtt(i:Г)(fe:FE):FS:=λδ=>match δ[i]? with
 |some (aA (.oL _ xss0))=>if xss0.length=0 then aB else(fe δ).bind λq=>(frz q.1 q.2).bind λr=>match r.2[i]? with
  |some (aA (.oL p xss))=>(xss[xss.length- 1]?).bind λxs=>if xs.length<bg then aA (.nx (r.2.set i (aA (.oL p (xss.set (xss.length- 1) (xs++[r.1]))))))else aB
  |_=>aB
 |_=>aB
end
end DL
namespace DL
open PySem PySem.Spec PyProof.Rows L2
variable{K:af}
section
variable{Z:Ent K}{H:Hp}{σ:L2.St}{Q:VK}{E:Ends}
МZm1(i:Г):FE:=λδ=>match δ[i]? with
 |some (aA (.oL _ xss))=>aA (.tmp (.fz (.int (xss.length:Г))),δ)
 |_=>aB
@[simp] theorem Ztu{i:Г}{δ:Yq}{p:Б aq}{xss:А (А D)}(hi:δ[i]? =some (some (.oL p xss))):Zm1 i δ=some (.tmp (.fz (.int (xss.length:Г))),δ):=by unfold Zm1;rw[hi]
аZ0n(K:af):А V->Hp->VK->Prop:=λxs H Q=>∃p ys,xs=[V.ref p]/\(W8 K H p ys\/Ov K H p ys)/\Q (.int ys.length) H
МZv6(i:Г):FE:=λδ=>match δ[i]? with
 |some (aA (.oL _ xss))=>(xss[xss.length- 1]?).bind λxs=>aA (.tmp (.fz (.int (xs.length:Г))),δ)
 |_=>aB
МZv7(i:Г):FE:=λδ=>match δ[i]? with
 |some (aA (.oL _ xss))=>(xss[xss.length- 1]?).bind λxs=>(xs[xs.length- 1]?).bind λd=>aA (.tmp (.fz d),δ)
 |_=>aB
МVz(i:Г):FE:=λδ=>match δ[i]? with
 |some (aA (.oL _ (xs::_)))=>aA (.tmp (.fz (.tup xs)),δ)
 |_=>aB
@[simp] theorem Zm2{i:Г}{δ:Yq}{p:Б aq}{xss:А (А D)}{xs:А D}(hi:δ[i]? =some (some (.oL p (xs::xss)))):Vz i δ=some (.tmp (.fz (.tup xs)),δ):=by unfold Vz;rw[hi]
аZ0o(K:af):А V->Hp->VK->Prop:=λxs H Q=>∃p ys,xs=[V.ref p]/\((W8 K H p ys/\∀l,H l=aB->Q (.ref l) (Ya H l (.tup ys)))\/(Ov K H p ys/\Q (.ref p) H))
МZ0p(j i:Г):FS:=λδ=>match δ[i]? with
 |some (aA (.oL p xss))=>(xss[xss.length- 1]?).bind λxs=>if i≠j/\j<δ.length then aA (.nx ((δ.set i (aA (.oL p xss.dropLast))).set j (aA (.ol xs))))else aB
 |_=>aB
МKd(H:Hp)(ns:Zs):Hp:=λb=>if b∈Rm ns then aB else H b
МspM(K:af)(g:aq->А (А D)->Б (А (А D))):Sp:=λvs H Q _=>∃F a xss ws ns yss,vs=[V.ref a]/\Zi F H/\Kids K F xss ws ns/\(Rm ((a,HO.lst ws)::ns)).Nodup/\(∀p∈(a,HO.lst ws)::ns,F p.1=aB/\H p.1=aA p.2)/\g a xss=aA yss/\
 ∀H' F' ws' ns',Zi (Kd H ((a,.lst ws)::ns)) H'->Zi F F'->Zi F' H'->(∀(b:aq) (o:HO),F' b=aA o->F b=aA o\/Kd H ((a,.lst ws)::ns) b=aB)->Kids K F' yss ws' ns'->(Rm ((a,HO.lst ws')::ns')).Nodup->
  (∀p∈(a,HO.lst ws')::ns',F' p.1=aB/\Kd H ((a,.lst ws)::ns) p.1=aB/\H' p.1=aA p.2)->Q .non H'
НZgv(n:Г)(a:aq)(xss:А (А D)):Yq:=aA (.oL (aA a) xss)::List.replicate (n- 1) aB
НZm3(a:aq)(o:Б (Б SV)):Б (А (А D)):=match o with
 |some (aA (.oL (aA b) yss))=>if b=a then aA yss else aB
 |_=>aB
НZ27(f:FS)(n:Г)(a:aq)(xss:А (А D)):Б (А (А D)):=match f (Zgv n a xss)with
 |some (.nx δ)=>Zm3 a δ[0]?
 |_=>aB
open Classical in
МZ28(i:Г)(g:aq->А (А D)->Б (А (А D))):FS:=λδ=>match δ[i]? with
 |some (aA (.oL p xss))=>if h:∃o,∀a,g a xss=aA o then aA (.nx (δ.set i (aA (.oL p h.choose))))else aB
 |_=>aB
end
end DL
namespace DL
open PySem PySem.Spec PyProof.Rows L2
end DL
namespace L2
open PySem PySem.Spec PyProof.Rows
section
variable{X:Cx}
аZ0q:А V->Hp->VK->Prop:=λxs H Q=>∃(x:Str) (n:Int),xs=[V.str x]/\PySem.intText? x=aA n/\x.length<=640/\Q (.int n) H
end
end L2
namespace DL
open PySem PySem.Spec PyProof.Rows L2
variable{K:af}
МZ0r:А D->Б SV
 | [.str x]=>if x.length<=640 then(PySem.intText? x).bind λn=>aA (.fz (.int n))else aB
 |_=>aB
end DL
namespace L2
open PySem PySem.Spec PyProof.Rows
section
variable{X:Cx}
МZ0s(K:af):V->А V->Hp->VK->Prop:=λx vs H Q=>∃l b xs zs,x= .ref l/\vs=[.ref b]/\H l=aA (.lst xs)/\Ov K H b zs/\xs.length+zs.length<=sizeLine/\Q .non (Ya H l (.lst (xs++zs)))
ЛV2:∀{xs:А V} {its:А am},xs.length=its.length->(∀(j:Г) (x:V) (v:am),xs[j]? =aA x->its[j]? =aA v->Zu x v)->Z3 xs its
 | [],[],_,_=>.nil
 |x::xs,v::its,h,g=>.cons (g 0 x v rfl rfl) (V2 (by simpa using h) λj x v a b=>g (j+1) x v (by simpa using a) (by simpa using b))
 | [],_::_,h,_=>nomatch h
 |_::_,[],h,_=>nomatch h
МZgw:А V->Hp->VK->Prop:=λxs H Q=>∃p kvs,xs=[.ref p]/\RdK H p kvs/\∀l,H l=aB->Q (.ref l) (Ya H l (.lst (kvs.map λkv=>kV kv.1)))
ЛE5(hc:X.calm=aC):Q6 X (.type "list") Zgw:=by
 intro pins s σ H xs us Q I r h;O⟨p,kvs,rfl,⟨ep,e⟩,q⟩:=h;O⟨u,rfl,rx⟩:=Ul r;C rx;O⟨z,hd,vs,rel,dd⟩:=(show Yc X.prog X.w H s.heap p (.dK kvs ep)from Ze5 I.hok e)
 V hl:vs.length=kvs.length:=(g6 rel).symm;R PySem.W.kdl_call (PySem.W.kdl_dict (knd:=Zp X.prog X.w) (kvs:=vs) (ep:=ep) hd) (I.ok.hd hc) dd (by rw[hl];E z) λh' tk acc' c' hk hD hacc=>?_;V hv:Z3 (kvs.map λkv=>kV kv.1) acc'.toList:=by R V2 ((aj _).trans (hl.symm.trans (hacc.1.symm.trans (a8).symm))) λj x v hx hv=>?_;O⟨k,y,e1,e2⟩:=hacc.2 j v (by rw[<-c6];E hv);rw[a9]at hx;O⟨kv,e3,e4⟩:=c7.mp hx;O⟨q',e5,e6,_⟩:=U3 rel e3;rw[e5]at e1;C e1;rw[<-e4,e6];E Za6 e2
 E⟨.ref s.heap.objs.size,_,I.laid (t':=tk) hk (a6 _) (show Yc X.prog X.w _ h' _ (.lst (kvs.map λkv=>kV kv.1))from⟨by rw[aj];E z,acc'.toList,c',hv,by simpa using hD⟩),rfl,q _ (I.hok.fresh (a6 _))⟩
end
end L2
namespace DL
open PySem PySem.Spec PyProof.Rows L2
variable{K:af}
МV3:А D->Б SV
 | [.dK ks _]=>aA (.ol (ks.map Rq))
 |_=>aB
@[simp] theorem Ztv(ks:А Key)(vs:А D):V3 [.dK ks vs]=some (.ol (ks.map Rq)):=rfl
section
variable{Z:Ent K}{H:Hp}{σ:L2.St}{Q:VK}{E:Ends}
ЛZpi:U6 Z Zgw V3:=by
 intro F H σ δ own vs ds sv Q s r e k;unfold V3 at e;split at e
 ·C e;cases r with
  |cons h t=>
   C t;O⟨a,kvs,rfl,ha,ek,rr⟩:=h.dK s.le;R⟨a,kvs,rfl,ha.rd,λl hl=>?_⟩;rw[<-ek]at k;V hr:=Gy (K:=K) (F:=F) (kvs.map (·.1));V hr:Reps K F ((kvs.map (·.1)).map Rq) (kvs.map λkv=>kV kv.1):=by rw[bo (g:=kV)]at hr;E hr
   E k.one s (.ol hr) hl
 ·C e
НSV.tup?:RV->Б (А D)
 | .tmp (.fz (.tup ys))=>aA ys
 |_=>aB
НZ0t(i:Г)(fe:FE):FS:=λδ=>match δ[i]? with
 |some (aA (.ol _))=>(fe δ).bind λp=>(SV.tup? p.1).bind λys=>match p.2[i]? with
  |some (aA (.ol xs))=>if xs.length+ys.length<=bg then aA (.nx (p.2.set i (aA (.ol (xs++ys)))))else aB
  |_=>aB
 |_=>aB
end
section
variable{X:Cx}{Z:Ent X.K}{a b c:c5}{fa fb fc:FE}{pos:Pos}
ЛZpj{p:Pos}(hc:X.calm=aC)(hm:X.mg "list"=aB)(ha:PE X a (Ze Z fa))(hg:Gl X "list":=by rfl)(he:bd [a] X.env=(aD,gy a X.env)::bd [] X.env:=by rfl)(hpl:(gx pos (bd [] X.env)).any (·.1)=aD:=by rfl):PE X (.Call (.Name "list" p) [a] [] pos) (Ze Z (Yf V3 (Zc fa Zj))):=
 Md (E5 hc) Zpi hm boot_list (Zm ha Yo he) hg Й Й he hpl
end
end DL
namespace DL
open PySem PySem.Spec PyProof.Rows L2
section
variable{K:af}{Z:Ent K}{H:Hp}{σ:L2.St}{Q:VK}
НbmX(T:String)(g:А D->Б SV)(fo:FE)(fa:FAX):FX:=λδ=>(fo δ).bind λp=>(Pe p.1 p.2).bind λd0=>if Zft T d0=aC then(fa p.2).bind fun
 | .x e δ2=>aA (.x e δ2)
 | .v rvs δ2=>(Oy (p.1::rvs) δ2).bind λds=>(g ds).bind λsv=>aA (.v (.tmp sv) δ2)else aB
end
end DL
namespace DL
open PySem PySem.Spec PyProof.Rows L2
section
variable{K:af}{Z:Ent K}{H:Hp}{σ:L2.St}{Q:VK}{E:Ends}
inductive MR where
 |v (yss:А (А D))|x (e:Exn)
МZ29(K:af)(g:aq->А (А D)->Б MR):Sp:=λvs H Q E=>∃F a xss ws ns r,vs=[V.ref a]/\Zi F H/\Kids K F xss ws ns/\(Rm ((a,HO.lst ws)::ns)).Nodup/\(∀p∈(a,HO.lst ws)::ns,F p.1=aB/\H p.1=aA p.2)/\g a xss=aA r/\match r with
 | .v yss=>∀H' F' ws' ns',Zi (Kd H ((a,.lst ws)::ns)) H'->Zi F F'->Zi F' H'->(∀(b:aq) (o:HO),F' b=aA o->F b=aA o\/Kd H ((a,.lst ws)::ns) b=aB)->Kids K F' yss ws' ns'->(Rm ((a,HO.lst ws')::ns')).Nodup->
   (∀p∈(a,HO.lst ws')::ns',F' p.1=aB/\Kd H ((a,.lst ws)::ns) p.1=aB/\H' p.1=aA p.2)->Q .non H'
 | .x e=>∀cls od H' F',Zi (Kd H ((a,.lst ws)::ns)) H'->Zi F F'->Zi F' H'->(∀(b:aq) (o:HO),F' b=aA o->F b=aA o\/Kd H ((a,.lst ws)::ns) b=aB)->Pd K F' e cls od->E cls od H'
НZ0u(f:FS)(n:Г)(a:aq)(xss:А (А D)):Б MR:=match f (Zgv n a xss)with
 |some (.nx δ)=>(Zm3 a δ[0]?).map .v
 |some (.ex e _)=>aA (.x e)
 |_=>aB
open Classical in
МZ0v(i:Г)(g:aq->А (А D)->Б MR):FS:=λδ=>match δ[i]? with
 |some (aA (.oL p xss))=>if h:∃o,∀a,g a xss=aA o then(match h.choose with
  | .v yss=>aA (.nx (δ.set i (aA (.oL p yss))))
  | .x e=>aA (.ex e (δ.set i aB)))else aB
 |_=>aB
МZtw(i:Г)(fx:FX):FS:=λδ=>match δ[i]? with
 |some (aA (.oL _ xss0))=>if xss0.length=0 then aB else(fx δ).bind fun
  | .x e δ1=>aA (.ex e δ1)
  | .v rv δ1=>(frz rv δ1).bind λr=>match r.2[i]? with
   |some (aA (.oL p xss))=>(xss[xss.length- 1]?).bind λxs=>if xs.length<bg then aA (.nx (r.2.set i (aA (.oL p (xss.set (xss.length- 1) (xs++[r.1]))))))else aB
   |_=>aB
 |_=>aB
end
end DL
namespace L2
open PySem PySem.Spec PyProof.Rows
end L2
namespace L2
open PySem PySem.Spec PyProof.Rows
section
variable{X:Cx}
МZ0w(K:af):R2:=λx y H Q=>∃a k xs,x= .ref a/\y= .int k/\Ov K H a xs/\xs≠[]/\2<=k/\k<=1000/\xs.length<=1000/\∀p,H p=aB->Q (.ref p) (Ya H p (.tup (List.replicate k.toNat xs).flatten))
end
end L2
namespace DL
open PySem PySem.Spec PyProof.Rows L2
variable{K:af}
section
variable{Z:Ent K}
МZ0x:D->D->Б SV
 | .tup xs,.int k=>if xs.isEmpty=aD/\2<=k/\k<=1000/\xs.length<=1000 then aA (.fz (.tup (List.replicate k.toNat xs).flatten))else aB
 |_,_=>aB
end
end DL
namespace L2
open PySem PySem.Spec PyProof.Rows
section
variable{X:Cx}
МZv8:V->А V->Hp->VK->Prop:=λx xs H Q=>∃a b k,x= .str a/\xs=[.str b,.int k]/\(b.length==0)=aD/\0<=k/\k<=1000/\a.length<=sizeLine/\(Txt.splitMax a b k).length<=sizeLine/\∀p,H p=aB->Q (.ref p) (Ya H p (.lst ((Txt.splitMax a b k).map V.str)))
end
end L2
namespace DL
open PySem PySem.Spec PyProof.Rows L2
variable{K:af}
section
variable{Z:Ent K}
НZv9:А D->Б SV
 | [.str a,.str b,.int k]=>if(b.length==0)=aD/\0<=k/\k<=1000/\a.length<=bg/\(Txt.splitMax a b k).length<=bg then aA (.ol ((Txt.splitMax a b k).map D.str))else aB
 |_=>aB
end
end DL
namespace L2
open PySem PySem.Spec PyProof.Rows
section
variable{X:Cx}
МZys(K:af)(a:aq):It:=
 ⟨λi H=>∃xs x,W8 K H a xs/\xs[i]? =aA x,λi H x H'=>∃p v,x= .ref p/\H p=aB/\H'=Ya H p (.tup [.int ((i+1:Г):Int),v])/\∀xs,W8 K H a xs->xs[i]? =aA v,λi H=>∃xs,W8 K H a xs/\xs.length<=i⟩
МZyt(K:af)(ta:TA):TI:=λσ H R=>ta σ H λvs H1=>∃a xs,vs=[.ref a]/\W8 K H1 a xs/\R (Zys K a) H1
end
end L2
namespace DL
open PySem PySem.Spec PyProof.Rows L2
variable{K:af}
МZpk(xs:А D):А D:=(xs.zipIdx 1).map λp=>.tup [.int (p.2:Г),p.1]
section
variable{Z:Ent K}{H:Hp}{σ:L2.St}{Q:VK}
НZyu(fd:FD):FD:=λδ=>(fd δ).bind λp=>match p.1 with
 | [.lst xs]=>aA (Zpk xs,p.2)
 |_=>aB
end
end DL
namespace DL
open PySem PySem.Spec PyProof.Rows L2
variable{K:af}
section
variable{Z:Ent K}
НZ0y:А D->Б SV
 | [.lst xs]=>aA (.fz (.int (xs.length:Г)))
 | [.tup xs]=>aA (.fz (.int (xs.length:Г)))
 | [.str x]=>if x.length<=bg then aA (.fz (.int (x.length:Г)))else aB
 | [.dK ks _]=>aA (.fz (.int (ks.length:Г)))
 |_=>aB
end
end DL
namespace DL
open PySem PySem.Spec PyProof.Rows L2
variable{K:af}
section
variable{Z:Ent K}{H:Hp}{σ:L2.St}{Q:VK}{E:Ends}
аUR:=D×А Key×А D
аUG:=aq->А D->А Key->А D->Б UR
МspU(K:af)(n:Г)(g:UG):Sp:=λvs H Q _=>∃F a us ds kvs ep es r,vs=us++[V.ref a]/\Zi F H/\Reps K F ds us/\ds.length=n/\Reps K F es (kvs.map (·.2))/\F a=aB/\H a=aA (.dK kvs ep)/\g a ds (kvs.map (·.1)) es=aA r/\
 ∀v H' F' kvs' ep',Zi (Kd H [(a,.dK kvs ep)]) H'->Zi F F'->Zi F' H'->(∀(b:aq) (o:HO),F' b=aA o->F b=aA o\/Kd H [(a,.dK kvs ep)] b=aB)->Rep K F' r.1 v->kvs'.map (·.1)=r.2.1->Reps K F' r.2.2 (kvs'.map (·.2))->F' a=aB->H' a=aA (.dK kvs' ep')->Q v H'
НZtx:А FS->Yq->Б Yq
 | [],δ=>aA δ
 |f::r,δ=>match f δ with
  |some (.nx δ1)=>Ztx r δ1
  |_=>aB
МZty(Z:Ent K):А FS->TS->TS
 | [],t=>t
 |f::r,t=>Znz (Z8 Z f) (Zty Z r t)
НZpl(n:Г)(a:aq)(ds:А D)(ks:А Key)(es:А D):Yq:=ds.map (λd=>aA (.fz d))++aA (.oQ a ks es)::List.replicate (n- ds.length- 1) aB
НZtz(a:aq)(d:D):Б (Б SV)->Б UR
 |some (aA (.oQ b ks es))=>if b=a then aA (d,ks,es)else aB
 |_=>aB
НZ3a(fs:А FS)(fe:FE)(n:Г):UG:=λa ds ks es=>(Ztx fs (Zpl n a ds ks es)).bind λδ=>(fe δ).bind λp=>(frz p.1 p.2).bind λq=>Ztz a q.1 (q.2[ds.length]?)
МZ0z(Z:Ent K)(f:FE):TE:=λσ H Q=>∃F δ own rv δ',SR Z F H σ δ own/\f δ=aA (rv,δ')/\
 ∀v H' F' own',Zi F F'->SR Z F' H' σ δ' own'->RVS K F' σ rv v->Q v H'
МZyv(Z:Ent K)(i:Г)(fd:FD):TA:=λσ H R=>W0 Z fd σ H λvs H1=>∃x,σ[i]? =aA (aA x)/\R (vs++[x]) H1
open Classical in
МZyw(i n:Г)(g:UG)(fd:FD):FE:=λδ=>(fd δ).bind λp=>if p.1.length=n then match p.2[i]? with
 |some (aA (.oK ks es))=>if h:∃r,∀a,g a p.1 ks es=aA r then aA (.tmp (.fz h.choose.1),p.2.set i (aA (.oK h.choose.2.1 h.choose.2.2)))else aB
 |_=>aB else aB
НZ00(g:D->D->Б SV)(fa fb:FE):FE:=λδ=>(fa δ).bind λp=>(frz p.1 p.2).bind λq=>(fb q.2).bind λr=>(Pe r.1 r.2).bind λd2=>(g q.1 d2).bind λsv=>if sv.scal then aA (.tmp sv,r.2)else aB
НZ01(i:Г)(fe:FE):FS:=λδ=>match δ[i]? with
 |some (aA (.ol _))=>(fe δ).bind λp=>(frz p.1 p.2).bind λq=>match q.2[i]? with
  |some (aA (.ol xs))=>if xs.length<bg then aA (.nx (q.2.set i (aA (.ol (xs++[q.1])))))else aB
  |_=>aB
 |_=>aB
end
end DL
namespace DL
open PySem PySem.Spec PyProof.Rows L2
variable{K:af}
МSkD(ks:А Key)(m:Г)(d:D):Prop:=∃vs,d= .dK ks vs/\ks.length=vs.length/\∀v∈vs,∃(x:Str) (ks2:А Key) (ys:А Str),v= .tup [.str x,.dK ks2 (ys.map D.str)]/\ys.length<=m
МZ3b(W:aq->В)(H:Hp)(ks:А Key)(m:Г)(v:V):Prop:=∃a kvs ep,v= .ref a/\W a/\H a=aA (.dK kvs ep)/\kvs.map (·.1)=ks/\∀p∈kvs,∃t x b kvs2 ep2,p.2= .ref t/\W t/\H t=aA (.tup [.str x,.ref b])/\W b/\H b=aA (.dK kvs2 ep2)/\kvs2.length<=m/\∀q∈kvs2,∃y,q.2= .str y
МZ03(Z:Ent K)(F:Hp)(own:Г->Zs)(W:aq->В):Prop:=∀b,W b->F b=aB/\Z.h b=aB/\∀i p,p∈own i->p.1≠b
section
variable{Z:Ent K}{F H:Hp}{σ:L2.St}{δ:Yq}{own:Г->Zs}{W:aq->В}
open Classical in
МwH(W:aq->В)(H F:Hp):Hp:=λb=>if W b then H b else F b
МZ3c(Z:Ent K)(W:aq->В)(H F:Hp):Ent K:=⟨wH W H Z.h,F,Z.x⟩
end
section
variable{Z:Ent K}{H:Hp}{σ:L2.St}{Q:VK}{E:Ends}
МZt0(i j n:Г)(ds:А D)(δ1:Yq)(sv:SV)(T1 T2:FT)(is:А D)(δ3:Yq):Prop:=
 ds.length=n/\(∀d∈ds,SV.scal (.fz d)=aC)/\i≠j/\i<δ1.length/\j<δ1.length/\∃(ks:А Key) (m:Г) (ks':А Key),SkD ks m sv.toD/\(∃δ2,T1 (δ1.set i (aA (.fz sv.toD)))=aA (aD,δ2))/\is=ks'.map Rq/\(∀k∈ks',k∈ks)/\m+ks'.length<bg/\
  ∀k∈ks',∀m' d,SkD ks m' d->∃δ4,T2 ((δ3.set i (aA (.fz d))).set j (aA (.fz (Rq k))))=aA (aD,δ4)
open Classical in
МZ04(i j n:Г)(g:А D->Б SV)(fd:FD)(T1:FT)(fi:FE)(T2:FT):FS:=λδ=>(fd δ).bind λp=>(g p.1).bind λsv=>(Dh fi (p.2.set i aB)).bind λq=>
 if Zt0 i j n p.1 p.2 sv T1 T2 q.1 q.2 then aA (.nx ((q.2.set i aB).set j aB))else aB
аZ3d(i j:Г)(K:af):TE:=tOp (rIx K) (Zma (Cy i) (Cy j)) (tC (.int 1))
МZ3e(K:af)(fi:FE):TI:=λσ H R=>∃Z':Ent K,Qf Z' (Dh fi) σ H R
end
end DL
namespace SX
open PySem
МRr(l:А Г):Prop:=l.Pairwise (· < ·)
МAt(xs:Array Г)(j p:Г):Prop:=p<=xs.size/\(∀i y,i<p->xs[i]? =aA y->y<j)/\∀i y,p<=i->xs[i]? =aA y->j<=y
ЛB7{xs:Array Г}(h:Rr xs.toList){i k y z:Г}(hi:xs[i]? =aA y)(hk:xs[k]? =aA z)(hik:i<k):y<z:=by rw[<-c6]at hi hk;O⟨a,ha⟩:=ay.mp hi;O⟨b,hb⟩:=ay.mp hk;V :=List.pairwise_iff_getElem.mp h i k a b hik;rw[ha,hb]at this;E this
ЛZgx{xs:Array Г}{j:Г}(h:Rr xs.toList):∀(fuel lo hi:Г),hi<=lo+fuel->lo<=hi->hi<=xs.size->(∀i y,i<lo->xs[i]? =aA y->y<j)->(∀i y,hi<=i->xs[i]? =aA y->j<=y)->At xs j (SetTable.below.go xs j fuel lo hi)
 |0,lo,hi,h1,h2,h3,a,b=>by
  V :lo=hi:=by W
  subst this;unfold SetTable.below.go;E⟨h3,a,b⟩
 |fuel+1,lo,hi,h1,h2,h3,a,b=>by
  unfold SetTable.below.go;by_cases hl:lo<hi
  ·rw[Е hl];dsimp only;V hm:(lo+hi) / 2<xs.size:=by W
   V hg:xs.getD ((lo+hi) / 2) j=xs[(lo+hi) / 2]:=by simp[Array.getD,hm]
   V he:xs[(lo+hi) / 2]? =aA xs[(lo+hi) / 2]:=by simp[hm]
   by_cases hc:xs.getD ((lo+hi) / 2) j<j
   ·rw[Е hc];R Zgx h fuel _ hi И И h3 (λi y hi' e=>?_) b;by_cases hq:i=(lo+hi) / 2
    ·subst hq;rw[he]at e;C e;rw[<-hg];E hc
    ·V :=B7 h e he И;rw[hg]at hc;W
   ·rw[Д hc];R Zgx h fuel lo _ И И И a (λi y hi' e=>?_);by_cases hq:i=(lo+hi) / 2
    ·subst hq;rw[he]at e;C e;rw[<-hg];W
    ·V :=B7 h he e И;rw[hg]at hc;W
  ·rw[Д hl];V :lo=hi:=by W
   subst this;E⟨h3,a,b⟩
ЛE6{xs:Array Г}(h:Rr xs.toList)(j:Г):At xs j (SetTable.below xs j):=
 Zgx h xs.size 0 xs.size И (gb _) (a6 _) (λi _ z=>absurd z И) λi y z e=>by V :=(gn.mp e).1;W
ЛZa9{xs:Array Г}{j p q:Г}(a:At xs j p)(b:At xs j q):p=q:=by
 rcases Nat.lt_trichotomy p q with h|h|h
 ·V hp:p<xs.size:=by V :=b.1;W
  V e:xs[p]? =aA xs[p]:=by simp[hp]
  V :=a.2.2 p _ (a6 _) e;V :=b.2.1 p _ h e;W
 ·E h
 ·V hq:q<xs.size:=by V :=a.1;W
  V e:xs[q]? =aA xs[q]:=by simp[hq]
  V :=b.2.2 q _ (a6 _) e;V :=a.2.1 q _ h e;W
ЛZgy{xs:Array Г}{j:Г}(h:Rr xs.toList)(hn:xs[SetTable.below xs j]?≠aA j):Rr (SetTable.insertAt xs (SetTable.below xs j) j).toList:=by
 V a:=E6 h j;G SetTable.below xs j=p;rw[SetTable.toList_insertAt];O⟨a1,a2,a3⟩:=a;V lo:∀y∈xs.toList.take p,y<j:=λy hy=>by
  O⟨i,hi,e⟩:=f9 hy;rw[List.getElem_take]at e;V hi':i<p:=by simp at hi;W
  R a2 i y hi' ?_;rw[<-c6,ay];E⟨_,e⟩
 V hi:∀y∈xs.toList.drop p,j<y:=λy hy=>by
  O⟨i,hi,e⟩:=f9 hy;rw[List.getElem_drop]at e;V ep:xs[p+i]? =aA y:=by rw[<-c6,ay];E⟨_,e⟩
  V h1:=a3 (p+i) y И ep;rcases Nat.lt_or_eq_of_le h1 with z|z
  ·E z
  ·subst z;cases i with
   |zero=>E absurd ep hn
   |succ i=>
    V hp:p<xs.size:=by V :=(gn.mp ep).1;W
    V e0:xs[p]? =aA xs[p]:=by simp[hp]
    V q1:=a3 p _ (a6 _) e0;V q2:=B7 h e0 ep И;W
 R List.pairwise_append.mpr ⟨h.sublist (List.take_sublist _ _),List.pairwise_cons.mpr ⟨hi,h.sublist (List.drop_sublist _ _)⟩,λa ha b hb=>?_⟩;rcases bu.mp hb with z|z
 ·rw[z];E lo a ha
 ·E Nat.lt_trans (lo a ha) (hi b z)
structure Tab(B:Bool)(t:ib):В where
 led:t.led= !B
 dum:t.dummies= #[]
 rise:t.plain=aC->Rr t.place.toList
ЛZba(j:Г):SetTable.has #[] j=aD:=by unfold SetTable.has;simp
end SX
namespace SX
open PySem PyProof.Rows
variable{prog:b5}{w:da}{A:dg}{E:am->ao->В}{s:ao}
аZyx(l:А (Int×am)):А Int:=l.map λe=>numOf e.2
МOwn(prog:b5)(w:da)(B:Bool)(o:Obj)(ks:А Int):Prop:=∃es ep t,o.ExactSet/\o.data= .set es ep t/\ElemsOf (intKind prog w) es.toList/\(Zyx es.toList).Perm ks/\t.fits es.size=aC/\Tab B t/\es.size<scanBound
end SX
namespace SX
open PySem PySem.Spec PyProof.Rows
Мdd(val:Г->Int):Г->А Int
 |0=>[]
 |i+1=>if val i∈dd val i then dd val i else dd val i++[val i]
аBy(w:da):Bool:=w.params.followText "set-order"
аTm(w:da):Obj:={cls:=.type "set",dict:=aB,data:=.set #[] 0 (.fresh 0 0 (!By w))}
section
variable{prog:b5}{w:da}{A:dg}{E:am->ao->В}{s:ao}
ЛZkv(a:am){Q:am->ao->В}(h:Q (.ref s.heap.objs.size) {s with heap:=s.heap.push (Tm w)}):
  codeAny (b4 prog w) A (.call (.builtin "set.__new__") ⟨[.type "set",a],[]⟩) (wants Q E) s:=by
 R codeAny_of_tree ?_;T bc _ A.in1 (checkBuiltinCall "set.__new__" ⟨[.type "set",a],[]⟩>>=λ_=>again (.builtin "set.__new__" ⟨[.type "set",a],[]⟩)) _ _ s;R ad (wpAny_of_eq (PySem.F.newCall_set_1 a) (ah ⟨plainId_quiet PySem.F.plain_set_new _,gw PySem.F.entry_set_new ?_⟩));rw[gg PySem.F.plain_set_new _];V hs:=sub_set_self;O⟨hp,g,d,tk,os⟩:=s;unfold Builtin.«set.__new__» Builtin.Frozenset.newClass;dsimp only;wp_walk;R wpAny_askSetting (ah ?_);dsimp only;simp only[newObj];E ad (wpAny_alloc (ah (ah h)))
end
end SX
namespace SX
open PySem PySem.Spec PyProof.Rows
ЛYu:Slot "set_iterator" "__next__" "set_iterator.__next__":=
 .of (owner:="set_iterator") (n:="__next__") (by rw[typeLookup_type,builtinLookup_eq_fast];kernel_rfl) (by decide+kernel) (by decide+kernel) (by decide+kernel) (by first|E .inl (by decide+kernel)|E .inr (by decide+kernel)) (by rw[isSubtype_type];kernel_rfl)
ЛQu:entryFor table "set_iterator.__next__"=aA Builtin.«set_iterator.__next__»:=entryFor_of_tree (by kernel_rfl)
ЛJk(a:am):argsOk "set_iterator.__next__" ⟨[a],[]⟩:=by unfold argsOk;kernel_rfl
ЛRs:entryFor table "set.__iter__"=aA Builtin.«frozenset.__iter__»:=entryFor_alias (id':="frozenset.__iter__") (by kernel_rfl) rfl (by decide+kernel) (by kernel_rfl)
section
variable{prog:b5}{w:da}{A:dg}{E:am->ao->В}{s:ao}
ЛZgz{src:Source}{n:Г}{Q:Г->ao->В}(hn:n≠0)(h:∀i d,i<n->Q i {s with drawn:=d}):bc (b4 prog w) A (choose src n) Q E s:=
 λ_ _ _=>⟨hn,h _ _ (Nat.mod_lt _ (Nat.pos_of_ne_zero hn))⟩
ЛTn{α:Type}:∀(l:А α) (i:Г) (h:i<l.length),(l[i]::l.eraseIdx i).Perm l
 |x::l,0,_=>List.Perm.refl _
 |x::l,i+1,h=>(List.Perm.swap x _ _).trans ((Tn l i (by simpa using h)).cons x)
ЛZg0{α:Type}:∀(n:Г) (xs:А α) (s:ao) {Q:А α->ao->В},n=xs.length->(∀ys d,ys.Perm xs->Q ys {s with drawn:=d})->bc (b4 prog w) A (drawOrder n xs) Q E s
 |0,[],s,Q,_,h=>by unfold drawOrder;E ah (h [] s.drawn (List.Perm.refl _))
 |n+1,x::xs,s,Q,hn,h=>by
  unfold drawOrder;R ad (Zgz К λi d hi=>?_);V e:(x::xs)[i]? =aA (x::xs)[i]:=ax hi;rw[e];dsimp only;V hl:n=((x::xs).eraseIdx i).length:=by rw[List.length_eraseIdx_of_lt hi];simpa using hn
  R ad (Zg0 n ((x::xs).eraseIdx i) _ hl λys d' hp=>ah (h _ d' ?_));E(hp.cons _).trans (Tn _ i hi)
 |0,_::_,_,_,hn,_=>by simp at hn
 |_+1,[],_,_,hn,_=>by simp at hn
end
аX4(first:am)(i:Г)(r:aq)(n ep:Г):Obj:={cls:=.type "set_iterator",dict:=aB,data:=.fields #[first,.int (i:Int) 0,.ref r,.int (n:Int) 0,.int (ep:Int) 0],slots:= #[]}
аTo(ps:А Г):Obj:={cls:=.type "tuple",data:=.seq (ps.map λi:Г=>rawInt i).toArray}
section
variable{prog:b5}{w:da}{A:dg}{E:am->ao->В}{s:ao}{r:aq}{o:Obj}{es:Array (Int×am)}{ep:Г}{t:ib}
ЛZkw{Q:am->ao->В}(ho:s.heap.get? r=aA o)(hx:o.ExactSet)(hd:o.data= .set es ep t)(hf:t.fits es.size=aC)(hb:es.size<scanBound)
  (hN:(!By w&&(!t.plain&&decide (es.size > 1)))=aD->Q (.ref s.heap.objs.size) {s with heap:=s.heap.push (X4 (.int 0 0) 0 r es.size ep)})
  (hD:(!By w&&(!t.plain&&decide (es.size > 1)))=aC->∀ps d,ps.Perm (c8 es.size)->Q (.ref (s.heap.objs.size+1)) {s with heap:=(s.heap.push (To ps)).push (X4 (.ref s.heap.objs.size) 0 r es.size ep),drawn:=d}):
  bc (b4 prog w) A (pyIter (.ref r)) Q E s:=by
 V hT:s.TypeIs (.ref r) "set":=⟨o,ho,hx.1⟩
 R wpAny_pyIter_slot hT PySem.F.slot_set_iter (dj PySem.F.slot_set_iter hT Rs ?_ (PySem.F.args_set_iter_1 _));unfold Builtin.«frozenset.__iter__»;R ad (m:=Builtin.Frozenset.slot0 "__iter__" ⟨[.ref r],[]⟩) (Q:=_) (ah ?_);R ad (m:=Builtin.Frozenset.sizeOf r) ?_;unfold Builtin.Frozenset.sizeOf;R ad (wpAny_setEntries_of ho hd hf (ah ?_));R ad ?_;unfold setDrawn;R ad (wpAny_setState_of ho hd hf ?_);unfold setsByText;R ad (ad (wpAny_askSetting (ah ?_)));R ah ?_;T bc _ _ (if(!By w&&(!t.plain&&decide (es.size > 1)))=aC then _ else _) _ _ _;cases hc:(!By w&&(!t.plain&&decide (es.size > 1)))with
 |false=>rw[Д К];R ad (ah ?_);R ad (wpAny_setEpoch_of ho hd hf ?_);R ad (m:=newFields _ _) (dw (ah ⟨_,rfl,"set_iterator",_,⟨_,ba _ rfl,rfl⟩,Yu.lookup,hN hc⟩))
 |true=>rw[Е rfl];V hl:(c8 es.size).length=es.size:=List.length_range;R ad ?_;R Zg0 _ (c8 es.size) _ hl.symm λps d hp=>?_;V pl:ps.length=es.size:=hp.length_eq.trans hl;R ad (wpAny_newTuple ?_ (by rw[aj,pl];E fits_of_scanBound hb));V ho2:(s.heap.push (To ps)).get? r=aA o:=av _ ho;R ad (wpAny_setEpoch_of (s:={s with heap:=s.heap.push (To ps),drawn:=d}) ho2 hd hf ?_);V sz:(s.heap.push (To ps)).objs.size=s.heap.objs.size+1:=Heap.size_push _ _;R ad (m:=newFields _ _) (dw (ah ⟨_,rfl,"set_iterator",_,⟨_,ba _ rfl,rfl⟩,Yu.lookup,?_⟩));V z:=hD hc ps d hp;rw[<-sz]at z;E z
end
end SX
namespace SX
open PySem PySem.Spec PyProof.Rows
section
variable{prog:b5}{w:da}{A:dg}{E:am->ao->В}{s:ao}{I r:aq}{o:Obj}{es:Array (Int×am)}{ep:Г}{t:ib}{slot i nx:Г}{x:am}{Q:Б am->ao->В}
аPw(prog:b5)(w:da)(A:dg)(s:ao)(r:aq)(slot i ep:Г)(y:Б (am×Г)):Prop:=∀(R:Б (am×Г)->ao->В) (E':am->ao->В),R y s->bc (b4 prog w) A (setNext r slot i ep) R E' s
ЛZm4(hI:s.heap.get? I=aA (X4 (.int (slot:Int) 0) i r es.size ep))(ho:s.heap.get? r=aA o)(hd:o.data= .set es ep t)(hf:t.fits es.size=aC)(hn:Pw prog w A.in1 s r slot i ep (aA (x,nx)))
  (hQ:∀h',h'.get? I=aA (X4 (.int (nx:Int) 0) (i+1) r es.size ep)->ic I s.heap h'->Q (aA x) {s with heap:=h'}):bc (b4 prog w) A (pyNext (.ref I)) Q E s:=by
 V hT:s.TypeIs (.ref I) "set_iterator":=⟨_,hI,rfl⟩
 unfold pyNext;R ad (wpAny_attempt (d3 (name:=gr "__next__") hT Yu (dj Yu hT Qu ?_ (Jk _))));unfold Builtin.«set_iterator.__next__»;R ad (m:=slotArgs "__next__" 0 ⟨[.ref I],[]⟩) (ah ?_);R ad (wpAny_fieldsOf hI rfl ?_);dsimp only;R ad (wpAny_setEntries_of ho hd hf ?_);rw[Д К];simp only[gp];R ad (hn _ _ ?_);dsimp only;R ad (wpAny_setField_rec hI К λh1 g1 b1=>?_);R ad (wpAny_setField_rec (s:={s with heap:=h1}) g1 К λh2 g2 b2=>?_);R ah ⟨_,rfl,ah (hQ h2 ?_ (b1.trans b2))⟩;rw[g2];rfl
ЛZm5(hh:A.handled=aB)(hI:s.heap.get? I=aA (X4 (.int (slot:Int) 0) i r es.size ep))(ho:s.heap.get? r=aA o)(hd:o.data= .set es ep t)(hf:t.fits es.size=aC)(hn:Pw prog w A.in1 s r slot i ep aB)
  (hQ:∀h',Heap.ExtBut I s.heap h'->Q aB {s with heap:=h'}):bc (b4 prog w) A (pyNext (.ref I)) Q E s:=by
 V hT:s.TypeIs (.ref I) "set_iterator":=⟨_,hI,rfl⟩
 unfold pyNext;R ad (wpAny_attempt (d3 (name:=gr "__next__") hT Yu (dj Yu hT Qu ?_ (Jk _))));unfold Builtin.«set_iterator.__next__»;R ad (m:=slotArgs "__next__" 0 ⟨[.ref I],[]⟩) (ah ?_);R ad (wpAny_fieldsOf hI rfl ?_);dsimp only;R ad (wpAny_setEntries_of ho hd hf ?_);rw[Д К];simp only[gp];R ad (hn _ _ ?_);dsimp only;R ad (wpAny_setField_rec hI К λh1 g1 b1=>?_);R ad (m:=newExc (.type "StopIteration") []) ?_;simp only[newExc,newTuple];R ad (dw ?_ (by size_fits));R ad (m:=firstArgMember _ _) (wpAny_of_eq (a:=cm) (by first|rfl| (simp only[firstArgMember];rfl)) ?_);R dw ?_ (by size_fits);simp only[raiseNew];R ad (wpAny_handled ?_);rw[show A.in1.handled=aB from hh];R ad (ah (wpAny_throw ?_));R ad (wpAny_isInstance (T:="StopIteration") (b:=aC) ⟨_,ba _ rfl,rfl⟩ isSubtype_stop ?_);E ah (hQ _ ((b1.extBut.push _).push _))
ЛLm(hB:By w=aD)(ho:s.heap.get? r=aA o)(hd:o.data= .set es ep t)(hf:t.fits es.size=aC)(hl:t.led=aC)(hr:(!t.plain&&decide (es.size > 1))=aD):
  Pw prog w A s r slot i ep (match es[SetTable.below t.place slot]?,t.place[SetTable.below t.place slot]? with
   |some (_,x),aA j=>aA (x,j+1)
   |_,_=>aB):=by
 intro R E' h;unfold setNext;R ad (wpAny_setState_of ho hd hf ?_);dsimp only;unfold setsByText;R ad (ad (wpAny_askSetting (ah ?_)));V e1:(b4 prog w).w.params.followText "set-order"=aD:=hB;dsimp only;rw[Д (by rw[e1];simp)];T bc _ _ (if(!t.plain&&decide (es.size > 1))=aC then _ else _) _ _ _;rw[Д (by rw[hr];simp)];R ad ?_;show bc _ _ (if(!t.led&& !es.isEmpty)=aC then _ else _) _ _ _;rw[Д (by rw[hl];simp)];E ah (ah h)
ЛV4(hB:By w=aC)(ho:s.heap.get? r=aA o)(hd:o.data= .set es ep t)(hf:t.fits es.size=aC):
  Pw prog w A s r slot i ep (((pickOrder (w.params.setOrder r ep) es)[i]?).map λe=>(e.2,slot)):=by
 intro R E' h;unfold setNext;R ad (wpAny_setState_of ho hd hf ?_);dsimp only;unfold setsByText;R ad (ad (wpAny_askSetting (ah ?_)));V e1:(b4 prog w).w.params.followText "set-order"=aC:=hB;dsimp only;rw[Е (by rw[e1])];rw[Д К];R ad ?_;unfold setWalk;R ad (wpAny_setState_of ho hd hf ?_);dsimp only;unfold setsByText;R ad (ad (wpAny_askSetting (ah ?_)));dsimp only;rw[Е (by rw[e1])];R ad (wpAny_askSetting (ah ?_));E ah h
variable{T:aq}{ps:А Г}
ЛZt2{p:Г}{hx:Int}(hI:s.heap.get? I=aA (X4 (.ref T) i r es.size ep))(hT0:s.heap.get? T=aA (To ps))(hp:ps[i]? =aA p)(he:es[p]? =aA (hx,x))(ho:s.heap.get? r=aA o)(hd:o.data= .set es ep t)(hf:t.fits es.size=aC)
  (hQ:∀h',h'.get? I=aA (X4 (.ref T) (i+1) r es.size ep)->ic I s.heap h'->Q (aA x) {s with heap:=h'}):bc (b4 prog w) A (pyNext (.ref I)) Q E s:=by
 V hT:s.TypeIs (.ref I) "set_iterator":=⟨_,hI,rfl⟩
 unfold pyNext;R ad (wpAny_attempt (d3 (name:=gr "__next__") hT Yu (dj Yu hT Qu ?_ (Jk _))));unfold Builtin.«set_iterator.__next__»;R ad (m:=slotArgs "__next__" 0 ⟨[.ref I],[]⟩) (ah ?_);R ad (wpAny_fieldsOf hI rfl ?_);dsimp only;R ad (wpAny_setEntries_of ho hd hf ?_);rw[Д К];R ad (m:=seqItems? (.ref T)) ?_;unfold seqItems?;R ad (wpAny_load hT0 (ah ?_));dsimp only;V e1:(ps.map λi:Г=>rawInt i).toArray[((i:Г):Int).toNat]? =aA (.int (p:Int) 0):=by simp[hp,rawInt]
 rw[e1];dsimp only;R ad ?_;unfold setNextDrawn;R ad (wpAny_setState_of ho hd hf ?_);dsimp only;rw[Д К];V e2:es[((p:Г):Int).toNat]? =aA (hx,x):=by simpa using he
 rw[e2];R ah ?_;R ad (wpAny_setField_rec hI К λh1 g1 b1=>?_);R ah ⟨_,rfl,ah (hQ h1 ?_ b1)⟩;rw[g1];rfl
ЛZt3(hh:A.handled=aB)(hI:s.heap.get? I=aA (X4 (.ref T) i r es.size ep))(hT0:s.heap.get? T=aA (To ps))(hp:ps[i]? =aB)(ho:s.heap.get? r=aA o)(hd:o.data= .set es ep t)(hf:t.fits es.size=aC)
  (hQ:∀h',Heap.ExtBut I s.heap h'->Q aB {s with heap:=h'}):bc (b4 prog w) A (pyNext (.ref I)) Q E s:=by
 V hT:s.TypeIs (.ref I) "set_iterator":=⟨_,hI,rfl⟩
 unfold pyNext;R ad (wpAny_attempt (d3 (name:=gr "__next__") hT Yu (dj Yu hT Qu ?_ (Jk _))));unfold Builtin.«set_iterator.__next__»;R ad (m:=slotArgs "__next__" 0 ⟨[.ref I],[]⟩) (ah ?_);R ad (wpAny_fieldsOf hI rfl ?_);dsimp only;R ad (wpAny_setEntries_of ho hd hf ?_);rw[Д К];R ad (m:=seqItems? (.ref T)) ?_;unfold seqItems?;R ad (wpAny_load hT0 (ah ?_));dsimp only;V e1:(ps.map λi:Г=>rawInt i).toArray[((i:Г):Int).toNat]? =aB:=by simp only[gp,List.getElem?_toArray,a9,hp,Option.map_none]
 rw[e1];dsimp only;R ad (wpAny_setField_rec hI К λh1 g1 b1=>?_);R ad (wpAny_setField_rec (s:={s with heap:=h1}) g1 К λh2 g2 b2=>?_);R ad (m:=newExc (.type "StopIteration") []) ?_;simp only[newExc,newTuple];R ad (dw ?_ (by size_fits));R ad (m:=firstArgMember _ _) (wpAny_of_eq (a:=cm) (by first|rfl| (simp only[firstArgMember];rfl)) ?_);R dw ?_ (by size_fits);simp only[raiseNew];R ad (wpAny_handled ?_);rw[show A.in1.handled=aB from hh];R ad (ah (wpAny_throw ?_));R ad (wpAny_isInstance (T:="StopIteration") (b:=aC) ⟨_,ba _ rfl,rfl⟩ isSubtype_stop ?_);E ah (hQ _ (((b1.trans b2).extBut.push _).push _))
end
end SX
namespace SX
open PySem PySem.Spec PyProof.Rows
аKe(acc:Array am)(c:Г):Obj:={cls:=.type "list",dict:=aB,data:=.seq acc c,slots:= #[]}
structure Tells(prog:b5)(w:da)(A:dg)(I:aq)(fp:А aq)(ord:А am)(St:Г->eh->В):В where
 mem:I∈fp
 keep:∀i h h',St i h->(∀b∈fp,∀o,h.get? b=aA o->h'.get? b=aA o)->St i h'
 step:∀i (s:ao) x (Q:Б am->ao->В) (E:am->ao->В),St i s.heap->ord[i]? =aA x->(∀h',St (i+1) h'->ic I s.heap h'->Q (aA x) {s with heap:=h'})->bc (b4 prog w) A (pyNext (.ref I)) Q E s
 stop:∀(s:ao) (Q:Б am->ao->В) (E:am->ao->В),St ord.length s.heap->(∀h',Heap.ExtBut I s.heap h'->Q aB {s with heap:=h'})->bc (b4 prog w) A (pyNext (.ref I)) Q E s
section
variable{prog:b5}{w:da}{A:dg}{E:am->ao->В}{R:Result->ao->В}{I S:aq}{fp:А aq}{ord:А am}{St:Г->eh->В}
ЛZbb(T:Tells prog w A.in1 I fp ord St)(hS:S∉fp)(hz:ord.length<=10000)(res:am):∀(m i:Г) (s:ao) (c:Г),i+m=ord.length->St i s.heap->s.heap.get? S=aA (Ke (ord.take i).toArray c)->
  (∀h' c',(∀b x,b≠S->b≠I->s.heap.get? b=aA x->h'.get? b=aA x)->h'.get? S=aA (Ke ord.toArray c')->R (.ok (.ret res)) {s with heap:=h'})->codeAny (b4 prog w) A (.builtin "list.extend.loop" ⟨[.ref S,.ref I,res],[]⟩) R s:=by
 V hSI:S≠I:=λz=>hS (z▸T.mem);intro m;induction m with
 |zero=>intro i s c hi st hl hR;obtain rfl:i=ord.length:=hi;rw[List.take_length]at hl;R gw PySem.F.entry_extend_loop ?_;rw[gg PySem.F.plain_extend_loop _];T bc _ A.in1 (pyNext (.ref I) >>=_) _ _ s;R ad (T.stop s _ _ st λh' ex=>?_);E ah (hR h' c (λb x _ hb e=>ex b x hb e) (ex S _ hSI hl))
 |succ m ih=>
  intro i s c hi st hl hR;V hlt:i<ord.length:=by W
  R gw PySem.F.entry_extend_loop ?_;rw[gg PySem.F.plain_extend_loop _];T bc _ A.in1 (pyNext (.ref I) >>=_) _ _ s;R ad (T.step i s ord[i] _ _ st (by simp[hlt]) λh1 st1 b1=>?_);V l1:h1.get? S=aA (Ke (ord.take i).toArray c):=(b1.2 S hSI).trans hl;V tk:(ord.take i).toArray.push ord[i]=(ord.take (i+1)).toArray:=by rw[List.take_add_one,ax hlt];simp
  T bc _ A.in1 (updateSeq S (·.push ord[i]) >>=_) _ _ _;R ad (wpAny_updateSeq l1 rfl (ah ⟨plainId_quiet PySem.F.plain_extend_loop _,?_⟩) (by rw[bv,List.length_take,f6];W) (by show((ord.take i).toArray.push ord[i]).size<=_;rw[tk,bv,List.length_take,f6];W));V g2:=g9 (dv (·.push ord[i])) l1 rfl;V hm:∃c',dv (·.push ord[i]) (Ke (ord.take i).toArray c)=Ke (ord.take (i+1)).toArray c':=by rw[<-tk];E⟨_,rfl⟩
  O⟨c',hc'⟩:=hm;rw[hc']at g2;R ih (i+1) _ c' И (T.keep _ _ _ st1 λb hb x e=>(Heap.get?_update_other _ _ (λz:S=b=>hS (by rw[z];E hb))).trans e) g2 λh3 c3 k3 g3=>?_;E hR h3 c3 (λb x hb hbI e=>k3 b x hb hbI ((Heap.get?_update_other _ _ (Ne.symm hb)).trans ((b1.2 b hbI).trans e))) g3
ЛZkx{s:ao}{r:aq}{Q:Bool->ao->В}(hT:s.TypeIs (.ref r) "set")(h:Q aD s):bc (b4 prog w) A (Builtin.List.listLengthHint (.ref r)) Q E s:=by
 unfold Builtin.List.listLengthHint;R ad (wpAny_specialOf hT PySem.F.slot_set_len.lookup ?_);generalize hid:("set.__len__":String)=id0
 wp_delta
 rw[show splitId id0=aA ("set","__len__")from by subst hid;decide+kernel];subst hid;R ad (wpAny_isInstance (T:="set") (b:=aC) hT sub_set_self ?_);R wpAny_ite_split (λz=>absurd z Й) λ_=>?_;R wpAny_ite_split (λ_=>?_) λz=>absurd (by decide+kernel) z;E ad (wpAny_typeOf hT (ah h))
ЛZbc{α:Type}(f:Г->Г):∀(n k:Г) (l:А α) (out:Array α),n=l.length->(pickOrder.go f n k l out).toList.Perm (out.toList++l)
 |0,k,l,out,h=>by V :l=[]:=List.eq_nil_of_length_eq_zero h.symm;subst this;unfold pickOrder.go;simp
 |n+1,k,l,out,h=>by
  unfold pickOrder.go;V hp:0<l.length:=by W
  V hm:f k % l.length<l.length:=Nat.mod_lt _ hp;rw[ax hm];dsimp only;R(Zbc f n (k+1) _ _ (by rw[List.length_eraseIdx_of_lt hm];W)).trans ?_;rw[Array.toList_push,de];E(Tn l _ hm).append_left _
ЛZg1{α:Type}(f:Г->Г)(xs:Array α):(pickOrder f xs).toList.Perm xs.toList:=by V :=Zbc f xs.size 0 xs.toList #[] (a8).symm;simpa[pickOrder]using this
end
end SX
namespace SX
open PySem PySem.Spec PyProof.Rows
section
variable{prog:b5}{w:da}{A:dg}{E:am->ao->В}{s:ao}{I r T:aq}{o:Obj}{es:Array (Int×am)}{ep:Г}{t:ib}
Мsl(t:ib):Г->Г
 |0=>0
 |i+1=>t.place.getD i 0+1
ЛZm6{t:ib}(h:Rr t.place.toList){i:Г}(hi:i<=t.place.size):SetTable.below t.place (sl t i)=i:=by
 R Za9 (E6 h _) ⟨hi,λk y hk e=>?_,λk y hk e=>?_⟩
 ·cases i with
  |zero=>W
  |succ i=>
   V hp:i<t.place.size:=by W
   V e2:t.place[i]? =aA t.place[i]:=by simp[hp]
   V eg:sl t (i+1)=t.place[i]+1:=by unfold sl;simp[Array.getD,hp]
   rw[eg];by_cases z:k=i
   ·subst z;rw[e2]at e;C e;W
   ·V :=B7 h e e2 И;W
 ·cases i with
  |zero=>E gb _
  |succ i=>
   V hp:i<t.place.size:=by W
   V e2:t.place[i]? =aA t.place[i]:=by simp[hp]
   V eg:sl t (i+1)=t.place[i]+1:=by unfold sl;simp[Array.getD,hp]
   rw[eg];V :=B7 h e2 e И;W
ЛEg{r I:aq}(h:r≠I){h1 h2:eh}(b:ic I h1 h2){x:Obj}(e:h1.get? r=aA x):h2.get? r=aA x:=(b.2 r h).trans e
ЛDj(hh:A.handled=aB)(hr:r≠I)(hd:o.data= .set es ep t)(hf:t.fits es.size=aC)(hB:By w=aD)(hl:t.led=aC)(hp:(!t.plain&&decide (es.size > 1))=aD)(rise:Rr t.place.toList)(sz:t.place.size=es.size):
  Tells prog w A I [I,r] (es.toList.map (·.2)) (λi h=>h.get? I=aA (X4 (.int (sl t i:Int) 0) i r es.size ep)/\h.get? r=aA o):=by
 R⟨by simp,λi h h' st k=>⟨k I К _ st.1,k r К _ st.2⟩,λi s x Q E st hx hQ=>?_,λs Q E st hQ=>?_⟩
 ·rw[a9]at hx;O⟨e,he,rfl⟩:=c7.mp hx;rw[c6]at he;V hi:i<es.size:=(gn.mp he).1;V hi':i<t.place.size:=by W
  V e2:t.place[i]? =aA t.place[i]:=by simp[hi']
  V nx:=Lm (prog:=prog) (w:=w) (A:=A.in1) (s:=s) (slot:=sl t i) (i:=i) hB st.2 hd hf hl hp;rw[Zm6 rise И,he,e2]at nx;R Zm4 st.1 st.2 hd hf nx λh' g b=>hQ h' ⟨?_,Eg hr b st.2⟩ b;V eg:sl t (i+1)=t.place[i]+1:=by unfold sl;simp[Array.getD,hi']
  rw[eg];E g
 ·V hn:(es.toList.map (·.2)).length=es.size:=by rw[aj,a8]
  rw[hn]at st;V nx:=Lm (prog:=prog) (w:=w) (A:=A.in1) (s:=s) (slot:=sl t es.size) (i:=es.size) hB st.2 hd hf hl hp;rw[Zm6 rise И,show es[es.size]? =aB by simp]at nx;E Zm5 hh st.1 st.2 hd hf nx hQ
ЛZdg(hh:A.handled=aB)(hr:r≠I)(hd:o.data= .set es ep t)(hf:t.fits es.size=aC)(hB:By w=aC):
  Tells prog w A I [I,r] ((pickOrder (w.params.setOrder r ep) es).toList.map (·.2)) (λi h=>h.get? I=aA (X4 (.int ((0:Г):Int) 0) i r es.size ep)/\h.get? r=aA o):=by
 R⟨by simp,λi h h' st k=>⟨k I К _ st.1,k r К _ st.2⟩,λi s x Q E st hx hQ=>?_,λs Q E st hQ=>?_⟩
 ·rw[a9]at hx;O⟨e,he,rfl⟩:=c7.mp hx;rw[c6]at he;V nx:=V4 (prog:=prog) (w:=w) (A:=A.in1) (s:=s) (slot:=0) (i:=i) hB st.2 hd hf;rw[he]at nx;E Zm4 st.1 st.2 hd hf nx λh' g b=>hQ h' ⟨g,Eg hr b st.2⟩ b
 ·V nx:=V4 (prog:=prog) (w:=w) (A:=A.in1) (s:=s) (slot:=0) (i:=((pickOrder (w.params.setOrder r ep) es).toList.map (·.2)).length) hB st.2 hd hf;rw[aj,a8,show(pickOrder (w.params.setOrder r ep) es)[(pickOrder (w.params.setOrder r ep) es).size]? =aB by simp]at nx;rw[aj,a8]at st;E Zm5 hh st.1 st.2 hd hf nx hQ
ЛDk(hh:A.handled=aB)(hr:r≠I)(hT:T≠I)(hd:o.data= .set es ep t)(hf:t.fits es.size=aC){ps:А Г}(hp:∀p∈ps,p<es.size):
  Tells prog w A I [I,r,T] (ps.map λp=>(es.getD p (0,.none)).2) (λi h=>h.get? I=aA (X4 (.ref T) i r es.size ep)/\h.get? r=aA o/\h.get? T=aA (To ps)):=by
 R⟨by simp,λi h h' st k=>⟨k I К _ st.1,k r К _ st.2.1,k T К _ st.2.2⟩,λi s x Q E st hx hQ=>?_,λs Q E st hQ=>?_⟩
 ·rw[a9]at hx;O⟨p,he,rfl⟩:=c7.mp hx;V lt:=hp p (b9 he);V e2:es[p]? =aA ((es.getD p (0,.none)).1,(es.getD p (0,.none)).2):=by simp[Array.getD,lt]
  E Zt2 st.1 st.2.2 he e2 st.2.1 hd hf λh' g b=>hQ h' ⟨g,Eg hr b st.2.1,Eg hT b st.2.2⟩ b
 ·rw[aj]at st;E Zt3 hh st.1 st.2.2 К st.2.1 hd hf hQ
end
end SX
namespace SX
open PySem PySem.Spec PyProof.Rows
section
variable{prog:b5}{w:da}{A:dg}{E:am->ao->В}{s:ao}{I r S:aq}{o:Obj}{ks:А Int}
ЛPx{R:Result->ao->В}{fp:А aq}{ord:А am}{St:Г->eh->В}{res:am}{c:Г}(T:Tells prog w A.in1 I fp ord St)(hS:S∉fp)(hz:ord.length<=10000)(hT:s.TypeIs (.ref r) "set")(st:St 0 s.heap)(hl:s.heap.get? S=aA (Ke #[] c)){f:Bool->Bool}
  (hR:∀h' c',(∀b x,b≠S->b≠I->s.heap.get? b=aA x->h'.get? b=aA x)->h'.get? S=aA (Ke ord.toArray c')->R (.ok (.ret res)) {s with heap:=h'}):
  bc (b4 prog w) A.in1 (do
   let room<-holding [.ref I] (Builtin.List.listLengthHint (.ref r))
   if f room=aC then do
    rule "list.extend.makes-room"
    Builtin.List.listTouch (.ref S)
    again (.builtin "list.extend.loop" ⟨[.ref S,.ref I,res],[]⟩)
   else again (.builtin "list.extend.loop" ⟨[.ref S,.ref I,res],[]⟩))
   (λfin s'=>match fin with| .done f=>R (.ok f) s'| .again c'=>c'.quiet=aC/\codeAny (b4 prog w) A c' R s') (λe s'=>R (.error e) s') s:=by
 R ad (wpAny_holding (Zkx hT ?_));R wpAny_ite_split (λ_=>?_) (λ_=>ah ⟨plainId_quiet PySem.F.plain_extend_loop _,Zbb T hS hz res ord.length 0 s c И st (by simpa using hl) hR⟩);R ad (wpAny_rule (ad ?_));T bc _ _ (updateSeq S (·.push .none) >>=λ_=>updateSeq S (·.pop)) _ _ _;R ad (wpAny_updateSeq hl rfl ?_);V l2:=g9 (dv (·.push cm)) hl rfl;R wpAny_updateSeq (hz:=by seq_fits) l2 rfl ?_;V l3:=g9 (dv (·.pop)) l2 rfl;V oth:∀b x,b≠S->s.heap.get? b=aA x->((s.heap.update S (dv (·.push cm))).update S (dv (·.pop))).get? b=aA x:=
  λb x hb e=>(Heap.get?_update_other _ _ (Ne.symm hb)).trans ((Heap.get?_update_other _ _ (Ne.symm hb)).trans e)
 R ah ⟨plainId_quiet PySem.F.plain_extend_loop _,Zbb T hS hz res ord.length 0 _ _ И (T.keep _ _ _ st λb hb x e=>oth b x (λz=>hS (z▸hb)) e) l3 λh' c' k g=>?_⟩;E hR h' c' (λb x hb hI e=>k b x hb hI (oth b x hb e)) g
end
end SX
namespace SX
open PySem PySem.Spec PyProof.Rows
end SX
namespace SX
open PySem PySem.Spec PyProof.Rows
Мsrt(ns:А Int):А Int:=(dd (λi=>ns.getD i 0) ns.length).mergeSort λa b=>decide (a<=b)
end SX
namespace L2
open PySem PySem.Spec PyProof.Rows SX
section
variable{X:Cx}
ЛInv.drawnAt{pins:А (aq×Obj)}{σ:St}{H:Hp}{s:ao}(I:Inv X pins σ H s)(d:_):Inv X pins σ H {s with drawn:=d}:=
 ⟨I.ok,I.os,I.bare,I.base,I.loc,I.cell,I.free,I.freeC,I.pin,I.hok,I.len⟩
МrSS(K:af):А V->Hp->VK->Prop:=λxs H Q=>∃l ns,xs=[.ref l]/\W8 K H l (ns.map V.int)/\ns.length<64/\∀q,H q=aB->Q (.ref q) (Ya H q (.lst ((srt ns).map V.int)))
ЛC6:bootBuiltins "sorted"=aA (.builtin "sorted"):=by kernel_rfl
ЛZg2:bootBuiltins "set"=aA (.type "set"):=by kernel_rfl
end
end L2
namespace DL
open PySem PySem.Spec PyProof.Rows L2 SX
variable{K:af}
Нints?:А D->Б (А Int)
 | []=>aA []
 | .int i::r=>(ints? r).bind λl=>aA (i::l)
 |_=>aB
МZ3f:А D->Б SV
 | [.lst xs]=>(ints? xs).bind λns=>if ns.length<64 then aA (.ol ((srt ns).map D.int))else aB
 |_=>aB
end DL
namespace TX
open PySem PySem.W PyProof.Rows
МQa{α:Type}(lt:Г->Г->Bool)(n:Г)(R:α->В):KasT α->В
 | .ret a=>R a
 | .ask i j k=>i<n/\j<n/\Qa lt n R (k (lt i j))
ЛQa.bind{α β:Type}{lt:Г->Г->Bool}{n:Г}{R:α->В}{S:β->В}{f:α->KasT β}(h:∀a,R a->Qa lt n S (f a)):∀{t:KasT α},Qa lt n R t->Qa lt n S (t.bind f)
 | .ret a,g=>h a g
 | .ask i j k,g=>⟨g.1,g.2.1,Qa.bind h (t:=k (lt i j)) g.2.2⟩
ЛQa.mono{α:Type}{lt:Г->Г->Bool}{n:Г}{R S:α->В}(h:∀a,R a->S a):∀{t:KasT α},Qa lt n R t->Qa lt n S t
 | .ret a,g=>h a g
 | .ask i j k,g=>⟨g.1,g.2.1,Qa.mono h (t:=k (lt i j)) g.2.2⟩
ЛQa.wp{α:Type}{lt:Г->Г->Bool}{n:Г}{R:α->В}{cmp:Г->Г->(Bool->ao->В)->ao->В}{I:ao->В}{Q:α->ao->В}
  (hc:∀i j C s,i<n->j<n->I s->(∀s',I s'->C (lt i j) s')->cmp i j C s) (hq:∀a s,R a->I s->Q a s):∀{t:KasT α} {s:ao},Qa lt n R t->I s->t.kasWp cmp Q s
 | .ret a,s,g,i=>hq a s g i
 | .ask i j k,s,g,x=>hc i j _ s g.1 g.2.1 x λs' x'=>Qa.wp hc hq (t:=k (lt i j)) g.2.2 x'
section
variable{O:KeyOrd}{key:Г->O.α}{n:Г}
аKf(O:KeyOrd)(key:Г->O.α)(i j:Г):Bool:=O.blt (key i) (key j)
МKp(key:Г->O.α)(p:Array Г)(i:Г):O.α:=key (p.getD i 0)
МPy(key:Г->O.α)(p:Array Г)(k:Г):Prop:=∀i j,i<=j->j<k->O.kle (Kp key p i) (Kp key p j)
МDec(key:Г->O.α)(p:Array Г)(k:Г):Prop:=∀i j,i<=j->j<k->O.kle (Kp key p j) (Kp key p i)
МPm(n:Г)(p:Array Г):Prop:=p.Perm (List.toArray (c8 n))
ЛPm.size{p:Array Г}(h:Pm n p):p.size=n:=by V :=(Array.perm_iff_toList_perm.mp h).length_eq;simpa using this
ЛPm.lt{p:Array Г}(h:Pm n p){i:Г}(hi:i<n):p.getD i 0<n:=by
 V hs:i<p.size:=by rw[h.size];E hi
 V hm:p[i]∈(c8 n):=(Array.perm_iff_toList_perm.mp h).mem_iff.mp К;rw[Array.getD_eq_getD_getElem?,getElem?_pos p i hs];E cz.mp hm
ЛC7{p q:Array Г}{i j:Г}(h:p[i]? =q[j]?):Kp key p i=Kp key q j:=by unfold Kp;rw[Array.getD_eq_getD_getElem?,Array.getD_eq_getD_getElem?,h]
ЛE7{p:Array Г}{i j:Г}(hj:j<=p.size)(k:Г):Kp key (kas_rev p i j) k=if i<=k/\k<j then Kp key p (i+j- 1- k)else Kp key p k:=by
 V e:=getElem?_mirror_all (xs:=p) (i:=i) hj k;unfold kas_rev;by_cases h:i<=k/\k<j
 ·rw[Е h]at e⊢;E C7 e
 ·rw[Д h]at e⊢;E C7 e
ЛZg3{p:Array Г}{src d:Г}(hs:src<p.size)(hd:d<=src)(k:Г):Kp key (bubble p src d) k=if k=src- d then Kp key p src else if src- d<k/\k<=src then Kp key p (k- 1)else Kp key p k:=by
 V e:=getElem?_bubble hs d hd k;by_cases h1:k=src- d
 ·rw[Е h1]at e⊢;E C7 e
 ·rw[Д h1]at e⊢;by_cases h2:src- d<k/\k<=src
  ·rw[Е h2]at e⊢;E C7 e
  ·rw[Д h2]at e⊢;E C7 e
ЛPm.rev{p:Array Г}(h:Pm n p)(i j:Г):Pm n (kas_rev p i j):=(mirror_perm p i j _).trans h
ЛPm.bub{p:Array Г}(h:Pm n p)(i j:Г):Pm n (bubble p i j):=(bubble_perm p i j).trans h
ЛE8{p:Array Г}(hp:Pm n p):∀(f m:Г),1<=m->m+f<=n->Py key p m->
  Qa (Kf O key) n (λr=>m<=r/\r<=m+f/\Py key p r/\(r=m+f\/O.klt (Kp key p r) (Kp key p (r- 1)))) (kas_asc p f m)
 |0,m,_,_,hs=>⟨a6 _,a6 _,hs,.inl rfl⟩
 |f+1,m,h1,hm,hs=>by
  R⟨hp.lt И,hp.lt И,?_⟩;T Qa _ _ _ (if O.blt (Kp key p m) (Kp key p (m- 1))=aC then _ else _);by_cases c:O.blt (Kp key p m) (Kp key p (m- 1))=aC
  ·rw[Е c];E⟨a6 _,by W,hs,.inr c⟩
  ·rw[Д c];R(E8 hp f (m+1) И И λi j hij hj=>?_).mono λr ⟨a,b,d,e⟩=>⟨by W,by W,d,by rcases e with e|e;E .inl И;E .inr e⟩
   by_cases hjm:j<m
   ·E hs i j hij hjm
   ·V :j=m:=by W
    subst this;by_cases hi:i=j
    ·subst hi;E KeyOrd.kle_refl _
    ·E KeyOrd.kle_trans (hs i (j- 1) И И) (KeyOrd.kle_of_not_klt c)
ЛGz:∀(f:Г) (p:Array Г) (m q:Г),Pm n p->1<=m->m+f<=n->Dec key p m->q+1<=m->(∀i,m- (q+1)<=i->i<m->Kp key p i=Kp key p (m- 1))->
  Qa (Kf O key) n (λr=>Pm n r.1/\m<=r.2.1/\r.2.1<=m+f/\Dec key r.1 r.2.1/\r.2.2+1<=r.2.1/\∀i,r.2.1- (r.2.2+1)<=i->i<r.2.1->Kp key r.1 i=Kp key r.1 (r.2.1- 1)) (kas_desc f p m q)
 |0,p,m,q,hp,_,_,hs,hq,he=>⟨hp,a6 _,a6 _,hs,hq,he⟩
 |f+1,p,m,q,hp,h1,hm,hs,hq,he=>by
  V hsz:m<=p.size:=by rw[hp.size];W
  R⟨hp.lt И,hp.lt И,?_⟩;T Qa _ _ _ (if O.blt (Kp key p m) (Kp key p (m- 1))=aC then _ else _);V up:∀{r:Array Г×Г×Г},(Pm n r.1/\m+1<=r.2.1/\r.2.1<=m+1+f/\Dec key r.1 r.2.1/\r.2.2+1<=r.2.1/\∀i,r.2.1- (r.2.2+1)<=i->i<r.2.1->Kp key r.1 i=Kp key r.1 (r.2.1- 1))->
    (Pm n r.1/\m<=r.2.1/\r.2.1<=m+(f+1)/\Dec key r.1 r.2.1/\r.2.2+1<=r.2.1/\∀i,r.2.1- (r.2.2+1)<=i->i<r.2.1->Kp key r.1 i=Kp key r.1 (r.2.1- 1)):=
   λ⟨a,b,c,d⟩=>⟨a,by W,by W,d⟩
  V step1:∀x:Array Г,O.blt (Kp key p m) (Kp key p (m- 1))=aC->(∀k,Kp key x k=Kp key p k)->Dec key x (m+1):=by
   intro x c hk i j hij hj;rw[hk,hk];by_cases hjx:j<m
   ·E hs i j hij hjx
   ·V hj':j=m:=by W
    subst hj';by_cases hi':i=j
    ·subst hi';E KeyOrd.kle_refl _
    ·E KeyOrd.kle_trans (KeyOrd.kle_of_klt c) (hs i (j- 1) И И)
  V one:∀x:Array Г,∀i,m+1- (0+1)<=i->i<m+1->Kp key x i=Kp key x (m+1- 1):=λx i a b=>by congr 1;W
  by_cases c:O.blt (Kp key p m) (Kp key p (m- 1))=aC
  ·rw[Е c];by_cases hq0:q > 0
   ·rw[Е hq0];R(Gz f (kas_rev p (m- (q+1)) m) (m+1) 0 (hp.rev _ _) И И (step1 _ c λk=>?_) И (one _)).mono λr=>up;rw[E7 hsz];by_cases hk:m- (q+1)<=k/\k<m
    ·rw[Е hk,he _ И И,he k hk.1 hk.2]
    ·rw[Д hk]
   ·rw[Д hq0];E(Gz f p (m+1) 0 hp И И (step1 _ c λ_=>rfl) И (one _)).mono λr=>up
  ·rw[Д c];R⟨hp.lt И,hp.lt И,?_⟩;T Qa _ _ _ (if O.blt (Kp key p (m- 1)) (Kp key p m)=aC then _ else _);by_cases d:O.blt (Kp key p (m- 1)) (Kp key p m)=aC
   ·rw[Е d];E⟨hp,a6 _,Nat.le_add_right _ _,hs,hq,he⟩
   ·rw[Д d];V ex:Kp key p m=Kp key p (m- 1):=KeyOrd.kle_antisymm (by simpa[KeyOrd.kle]using d) (by simpa[KeyOrd.kle]using c);R(Gz f p (m+1) (q+1) hp И И (λi j hij hj=>?_) И λi a b=>?_).mono λr=>up
    ·by_cases hjx:j<m
     ·E hs i j hij hjx
     ·V hj':j=m:=by W
      subst hj';by_cases hi':i=j
      ·subst hi';E KeyOrd.kle_refl _
      ·rw[ex];E hs i (j- 1) И И
    ·rw[show m+1- 1=m by W];by_cases hix:i=m
     ·subst hix;rfl
     ·rw[ex];E he i И И
аCt(key:Г->O.α)(n:Г)(r:Г×Array Г):Prop:=Pm n r.2/\1<=r.1/\r.1<=n/\Py key r.2 r.1
ЛE9{p:Array Г}(hp:Pm n p){m:Г}(h1:1<=m)(hm:m<=n)(hs:Dec key p m):Qa (Kf O key) n (Ct key n) (kas_tail3 m n p):=by
 V hsz:m<=p.size:=by rw[hp.size];E hm
 R Qa.bind (R:=λr=>m<=r/\r<=m+(n- m)/\Py key (kas_rev p 0 m) r/\_) (λr ⟨a,b,c,_⟩=>⟨hp.rev _ _,by T 1<=r;W,by show r<=n;W,c⟩) (E8 (hp.rev 0 m) (n- m) m h1 И λi j hij hj=>?_);rw[E7 hsz,E7 hsz,Е И,Е И];E hs _ _ И И
ЛRg{p:Array Г}(hp:Pm n p){m:Г}(hm:m+1<=n)(hs:Dec key p (m+1)):Qa (Kf O key) n (Ct key n) (kas_descPart m n p):=by
 R Qa.bind (λr h=>?_) (Gz (n- (m+1)) p (m+1) 0 hp И И hs И λi a b=>by congr 1;W);O⟨a,b,c,d,e,g⟩:=h;V hsz:r.2.1<=r.1.size:=by rw[a.size];W
 by_cases hq:r.2.2 > 0
 ·rw[Е hq];R E9 (a.rev _ _) И И λi j hij hj=>?_;V k:∀x,Kp key (kas_rev r.1 (r.2.1- (r.2.2+1)) r.2.1) x=Kp key r.1 x:=λx=>by
   rw[E7 hsz];by_cases hk:r.2.1- (r.2.2+1)<=x/\x<r.2.1
   ·rw[Е hk,g _ И И,g x hk.1 hk.2]
   ·rw[Д hk]
  rw[k,k];E d i j hij hj
 ·rw[Д hq];E E9 a И И d
ЛDl{p:Array Г}(hp:Pm n p)(h1:1<=n):Qa (Kf O key) n (Ct key n) (kas_count n p):=by
 R Qa.bind (λm h=>?_) (E8 (key:=key) hp (n- 1) 1 (a6 _) И λi j hij hj=>by(have:i=j:=by W);subst this;E KeyOrd.kle_refl _);O⟨a,b,c,d⟩:=h;by_cases hm:(m==n)=aC
 ·rw[Е hm];E⟨hp,a,by T m<=n;W,c⟩
 ·rw[Д hm];V hne:m≠n:=λz=>hm (by rw[z];E beq_self_eq_true n);V br:O.klt (Kp key p m) (Kp key p (m- 1)):=by
   rcases d with d|d
   ·W
   ·E d
  by_cases h2:m > 1
  ·rw[Е h2];R⟨hp.lt И,hp.lt И,?_⟩;T Qa _ _ _ (if O.blt (Kp key p 0) (Kp key p (m- 1))=aC then _ else _);by_cases c0:O.blt (Kp key p 0) (Kp key p (m- 1))=aC
   ·rw[Е c0];E⟨hp,a,by T m<=n;W,c⟩
   ·rw[Д c0];V hsz:m<=p.size:=by rw[hp.size];W
    V eq:∀i,i<m->Kp key p i=Kp key p (m- 1):=λi hi=>
     KeyOrd.kle_antisymm (c i (m- 1) И И) (KeyOrd.kle_trans (by simpa[KeyOrd.kle]using c0) (c 0 i И hi))
    V k:∀x,Kp key (kas_rev p 0 m) x=Kp key p x:=λx=>by
     rw[E7 hsz];by_cases hk:0<=x/\x<m
     ·rw[Е hk,eq _ И,eq x hk.2]
     ·rw[Д hk]
    R Rg (hp.rev 0 m) И λi j hij hj=>?_;rw[k,k];by_cases hjm:j=m
    ·subst hjm;by_cases hi:i=j
     ·subst hi;E KeyOrd.kle_refl _
     ·rw[eq i И];E KeyOrd.kle_of_klt br
    ·rw[eq i И,eq j И];E KeyOrd.kle_refl _
  ·rw[Д h2];V :m=1:=by W
   subst this;R Rg hp И λi j hij hj=>?_;by_cases hi:i=j
   ·subst hi;E KeyOrd.kle_refl _
   ·V :i=0:=by W
    subst this;V :j=1:=by W
    subst this;E KeyOrd.kle_of_klt br
ЛRt{p:Array Г}(hp:Pm n p){k:Г}(hk:k<n)(hs:Py key p k):∀(f l r:Г),l<=r->r<=k->r- l<=f->(∀i,i<l->O.kle (Kp key p i) (Kp key p k))->(∀i,r<=i->i<k->O.kle (Kp key p k) (Kp key p i))->
  Qa (Kf O key) n (λm=>m<=k/\(∀i,i<m->O.kle (Kp key p i) (Kp key p k))/\∀i,m<=i->i<k->O.kle (Kp key p k) (Kp key p i)) (kas_place p k f l r)
 |0,l,r,hlr,hr,hf,h1,h2=>⟨by W,h1,λi a b=>h2 i И b⟩
 |f+1,l,r,hlr,hr,hf,h1,h2=>by
  T Qa _ _ _ (if l>=r then _ else _);by_cases c:l>=r
  ·rw[Е c];E⟨by W,h1,λi a b=>h2 i И b⟩
  ·rw[Д c];R⟨hp.lt hk,hp.lt И,?_⟩;T Qa _ _ _ (if O.blt (Kp key p k) (Kp key p ((l+r) / 2))=aC then _ else _);by_cases d:O.blt (Kp key p k) (Kp key p ((l+r) / 2))=aC
   ·rw[Е d];E Rt hp hk hs f l ((l+r) / 2) И И И h1 λi a b=>KeyOrd.kle_trans (KeyOrd.kle_of_klt d) (hs _ i a b)
   ·rw[Д d];E Rt hp hk hs f ((l+r) / 2+1) r И hr И (λi a=>KeyOrd.kle_trans (hs i ((l+r) / 2) И И) (KeyOrd.kle_of_not_klt d)) h2
ЛV5:∀(f:Г) (p:Array Г) (k:Г),Pm n p->k+f=n->Py key p k->Qa (Kf O key) n (λq=>Pm n q/\Py key q n) (kas_bin f p k)
 |0,p,k,hp,hk,hs=>⟨hp,by(have:k=n:=hk);rw[<-this];E hs⟩
 |f+1,p,k,hp,hk,hs=>by
  R Qa.bind (λl h=>?_) (Rt hp И hs k 0 k (gb _) (a6 _) И (λi hi=>absurd hi (d6 _)) λi a b=>absurd b И);O⟨hl,a,b⟩:=h;V hsz:k<p.size:=by rw[hp.size];W
  R V5 f (bubble p k (k- l)) (k+1) (hp.bub _ _) И λi j hij hj=>?_;rw[Zg3 hsz И,Zg3 hsz И];V e:k- (k- l)=l:=by W
  rw[e];by_cases i1:i=l
  ·rw[Е i1];by_cases j1:j=l
   ·rw[Е j1];E KeyOrd.kle_refl _
   ·rw[Д j1,Е И];E b (j- 1) И И
  ·rw[Д i1];by_cases i2:l<i/\i<=k
   ·rw[Е i2,Д И,Е И];E hs _ _ И И
   ·rw[Д i2];by_cases j1:j=l
    ·rw[Е j1];E a i И
    ·rw[Д j1];by_cases j2:l<j/\j<=k
     ·rw[Е j2];E hs _ _ И И
     ·rw[Д j2];E hs _ _ hij И
ЛLn(h1:1<=n):Qa (Kf O key) n (λq=>Pm n q/\Py key q n) (kas_sort n):=by
 R Qa.bind (λr h=>?_) (Dl (key:=key) (Array.Perm.refl _) h1);O⟨a,b,c,d⟩:=h;by_cases hr:r.1<n
 ·rw[Е hr];V e:max r.1 1=r.1:=by W
  rw[e];E V5 _ _ _ a И d
 ·rw[Д hr];V :r.1=n:=by W
  E⟨a,by rw[this]at d;E d⟩
end
end TX
namespace TX
open PySem PySem.SeqAt
open AutoSeq1 (wpAny_loadPart')
open MeetsSeq MeetsSeq2 MeetsSeq3 SeqRoads2
МBc(A:dg)(s:ao)(y x:am)(b:Bool):Prop:=
 ∀(prog:b5) (w:da) (E:am->ao->В) (Q:am->ao->В),Q (.bool b) s->bc (b4 prog w) A (richCompare .Lt y x) Q E s
МUu(fin:Bool)(e l:Г->Bool):Г->Г->Bool
 |0,_=>fin
 |k+1,i=>if e i=aC then Uu fin e l k (i+1)else l i
ЛZdh(l b:aq)(items items2:Array am)(n n2:Г)(dd dd2:Б aq)(sl sl2:Array (Б am))(e lt:Г->Bool)(k:Г):
  ∀i:Г,(∀j,j<i->e j=aC)->min items.size items2.size- i=k->Meets (Builtin.«list.__eq__.loop» ⟨[.ref l,.ref b,rawInt i,rawInt 0],[]⟩)
   (λA R s=>s.heap.get? l=aA {cls:=.type "list",dict:=dd,data:=.seq items n,slots:=sl}/\s.heap.get? b=aA {cls:=.type "list",dict:=dd2,data:=.seq items2 n2,slots:=sl2}/\
    (∀j (h1:j<items.size) (h2:j<items2.size),(∀i,i<j->e i=aC)->EqAt A.in1 s items[j] items2[j] (e j))/\(∀j (h1:j<items.size) (h2:j<items2.size),(∀i,i<j->e i=aC)->e j=aD->Bc A.in1 s items[j] items2[j] (lt j))/\
    R (.ok (.ret (.bool (Uu (decide (items.size<items2.size)) e lt k i)))) s):=by
 induction k with
 |zero=>
  intro i hpre hk prog w A R s h;O⟨hp,g,d,tk,os⟩:=s;O⟨hl,hb,he,ht,h⟩:=h;wp_walk using dy hl,dy hb;V hi:items[((i:Г):Int).toNat]? =aB\/items2[((i:Г):Int).toNat]? =aB:=by
   rcases d4 i items.size with z|z
   ·right;simp;W
   ·left;simp;W
  rcases h1:items[((i:Г):Int).toNat]? with _|x
  ·wp_walk using dy hl,dy hb;E h
  ·rcases hi with hi|hi
   ·rw[h1]at hi;C hi
   ·rw[hi];wp_walk using dy hl,dy hb;E h
 |succ k ih=>
  intro i hpre hk prog w A R s h;O⟨hp,g,d,tk,os⟩:=s;O⟨hl,hb,he,ht,h⟩:=h;wp_walk using dy hl,dy hb;V hlt:i<items.size:=by W
  V hlt2:i<items2.size:=by W
  V hi1:items[((i:Г):Int).toNat]? =aA items[i]:=by simp[hlt]
  V hi2:items2[((i:Г):Int).toNat]? =aA items2[i]:=by simp[hlt2]
  V hc:((i:Int)+1)=((i+1:Г):Int):=by push_cast;rfl
  rw[hi1,hi2];R ad (he i hlt hlt2 hpre prog w _ _ ?_);cases hb':e i with
  |true=>
   V h':R (.ok (.ret (.bool (Uu (decide (items.size<items2.size)) e lt k (i+1))))) ⟨hp,g,d,tk,os⟩:=by V z:=h;unfold Uu at z;rw[Е hb']at z;E z
   wp_walk;rw[hc];E⟨plainId_quiet plain_eq_loop _,gw entry_eq_loop (by
    rw[gg plain_eq_loop _];E ih (i+1) (λj hj=>by
     rcases d4 j i with z|z
     ·E hpre j z
     ·V :j=i:=by W
      rw[this];E hb') И prog w A R _ ⟨hl,hb,he,ht,h'⟩)⟩
  |false=>
   V h':R (.ok (.ret (.bool (lt i)))) ⟨hp,g,d,tk,os⟩:=by V z:=h;unfold Uu at z;rw[Д (by rw[hb'];simp)]at z;E z
   wp_walk using dy hl,dy hb;rw[hi1,hi2];R ad (ht i hlt hlt2 hpre hb' prog w _ _ ?_);wp_walk;E h'
ЛLo(l b:aq)(items items2:Array am)(n n2:Г)(dd dd2:Б aq)(sl sl2:Array (Б am))(e lt:Г->Bool):
  Meets (Builtin.«list.__lt__» ⟨[.ref l,.ref b],[]⟩)
   (λA R s=>s.heap.get? l=aA {cls:=.type "list",dict:=dd,data:=.seq items n,slots:=sl}/\s.heap.get? b=aA {cls:=.type "list",dict:=dd2,data:=.seq items2 n2,slots:=sl2}/\
    (∀j (h1:j<items.size) (h2:j<items2.size),(∀i,i<j->e i=aC)->EqAt A.in1 s items[j] items2[j] (e j))/\(∀j (h1:j<items.size) (h2:j<items2.size),(∀i,i<j->e i=aC)->e j=aD->Bc A.in1 s items[j] items2[j] (lt j))/\
    R (.ok (.ret (.bool (Uu (decide (items.size<items2.size)) e lt (min items.size items2.size) 0)))) s):=by
 intro prog w A R s h;O⟨hp,g,d,tk,os⟩:=s;O⟨hl,hb,he,ht,h⟩:=h;V f3:=AutoSeq1.sub_list_list;wp_walk using dy hl,dy hb;E⟨plainId_quiet plain_eq_loop _,gw entry_eq_loop (by
  rw[gg plain_eq_loop _];E Zdh l b items items2 n n2 dd dd2 sl sl2 e lt _ 0 (λj hj=>absurd hj (d6 _)) rfl prog w A R _ ⟨hl,hb,he,ht,h⟩)⟩
ЛDm(l b:aq)(items items2:Array am)(n n2:Г)(dd dd2:Б aq)(sl sl2:Array (Б am))(e lt:Г->Bool):
  Meets (Builtin.«tuple.__lt__» ⟨[.ref l,.ref b],[]⟩)
   (λA R s=>s.heap.get? l=aA {cls:=.type "tuple",dict:=dd,data:=.seq items n,slots:=sl}/\s.heap.get? b=aA {cls:=.type "tuple",dict:=dd2,data:=.seq items2 n2,slots:=sl2}/\
    (∀j (h1:j<items.size) (h2:j<items2.size),(∀i,i<j->e i=aC)->EqAt A.in1 s items[j] items2[j] (e j))/\(∀j (h1:j<items.size) (h2:j<items2.size),(∀i,i<j->e i=aC)->e j=aD->Bc A.in1 s items[j] items2[j] (lt j))/\
    R (.ok (.ret (.bool (Uu (decide (items.size<items2.size)) e lt (min items.size items2.size) 0)))) s):=
 .of_wp λprog w A R s h=>by
  O⟨hp,g,d,tk,os⟩:=s;O⟨hl,hb,he,ht,h⟩:=h;V f2:=AutoSeq1.sub_tuple_tuple;V hZ:(items.toList.zip items2.toList).length=min items.size items2.size:=by simp
  wp_walk using dy hl,dy hb,wpAny_forIn_list _ (λrest b s'=>b.1=aB/\s'=⟨hp,g,d,tk,os⟩/\∃i,rest=(items.toList.zip items2.toList).drop i/\(∀j,j<i->e j=aC)/\
   R (.ok (.ret (.bool (Uu (decide (items.size<items2.size)) e lt (min items.size items2.size- i) i)))) ⟨hp,g,d,tk,os⟩) _
  case turn=>
   rintro⟨y,x⟩ rest b s' ⟨hb',rfl,i,hz,hpre,hR⟩;V hlt:i<(items.toList.zip items2.toList).length:=by
    rcases d4 i (items.toList.zip items2.toList).length with h'|h'
    ·E h'
    ·rw[List.drop_of_length_le h']at hz;C hz
   V hm:i<min items.size items2.size:=hZ▸hlt;V h1:i<items.size:=di hm (Nat.min_le_left _ _);V h2:i<items2.size:=di hm (Nat.min_le_right _ _);rw[List.drop_eq_getElem_cons hlt]at hz;injection hz with hyx hrest;V hy:y=items[i]:=by V :=congrArg Prod.fst hyx;simpa using this
   V hx:x=items2[i]:=by V :=congrArg Prod.snd hyx;simpa using this
   subst hy hx;V hk:min items.size items2.size- i=(min items.size items2.size- (i+1))+1:=by W
   rw[hk]at hR;unfold Uu at hR;R ad (he i h1 h2 hpre prog w _ _ ?_);cases hy:e i with
   |true=>
    rw[Е hy]at hR;wp_walk;E⟨rfl,rfl,i+1,hrest,λj hj=>by
     rcases d4 j i with z|z
     ·E hpre j z
     ·V :j=i:=by W
      rw[this];E hy,hR⟩
   |false=>rw[Д (by rw[hy];simp)]at hR;simp only[Bool.not_false,if_true];R ad (wpAny_rule (ad (ht i h1 h2 hpre hy prog w _ _ ?_)));wp_walk;E⟨_,rfl,hR⟩
  case fin=>
   rintro⟨b1,b2⟩ s' ⟨hb',rfl,i,hz,hpre,hR⟩;simp only at hb';subst hb';V hge:min items.size items2.size<=i:=by
    rcases d4 i (items.toList.zip items2.toList).length with h'|h'
    ·rw[List.drop_eq_getElem_cons h']at hz;C hz
    ·E hZ▸h'
   V hk:min items.size items2.size- i=0:=by W
   rw[hk]at hR;wp_walk;E⟨_,rfl,hR⟩
  case h=>
   E⟨rfl,rfl,0,rfl,λj hj=>absurd hj (d6 _),by simpa using h⟩
section
variable{A:dg}{s:ao}
ЛBc.lists{l b:aq}{items items2:Array am}{e lt:Г->Bool}(hl:s.heap.IsList l items)(hb:s.heap.IsList b items2)(hu:A.units<f7)
  (he:∀j (h1:j<items.size) (h2:j<items2.size),(∀i,i<j->e i=aC)->EqAt A.in1 s items[j] items2[j] (e j)) (ht:∀j (h1:j<items.size) (h2:j<items2.size),(∀i,i<j->e i=aC)->e j=aD->Bc A.in1 s items[j] items2[j] (lt j)):
  Bc A s (.ref l) (.ref b) (Uu (decide (items.size<items2.size)) e lt (min items.size items2.size) 0):=λprog w E Q h=>by
 O⟨⟨cls,dd,data,sl⟩,ho,hc,n,hd⟩:=id hl;O⟨⟨cls2,dd2,data2,sl2⟩,ho2,hc2,n2,hd2⟩:=id hb;simp only at hc hd hc2 hd2;subst hc hd hc2 hd2;E richCompare_meets_room (op:=.Lt) ⟨_,ho,rfl⟩ ⟨_,ho2,rfl⟩ F.slot_list_lt F.entry_list_lt (F.args_list_lt_2 _ _) (Lo l b items items2 n n2 dd dd2 sl sl2 e lt)
  ⟨ho,ho2,he,ht,show Value.bool (Uu (decide (items.size<items2.size)) e lt (min items.size items2.size) 0)≠Value.notImplemented/\Q (.bool (Uu (decide (items.size<items2.size)) e lt (min items.size items2.size) 0)) s from⟨(λx=>nomatch x),h⟩⟩ hu
ЛBc.tuples{l b:aq}{items items2:Array am}{e lt:Г->Bool}(hl:s.heap.IsTuple l items)(hb:s.heap.IsTuple b items2)(hu:A.units<f7)
  (he:∀j (h1:j<items.size) (h2:j<items2.size),(∀i,i<j->e i=aC)->EqAt A.in1 s items[j] items2[j] (e j)) (ht:∀j (h1:j<items.size) (h2:j<items2.size),(∀i,i<j->e i=aC)->e j=aD->Bc A.in1 s items[j] items2[j] (lt j)):
  Bc A s (.ref l) (.ref b) (Uu (decide (items.size<items2.size)) e lt (min items.size items2.size) 0):=λprog w E Q h=>by
 O⟨⟨cls,dd,data,sl⟩,ho,hc,n,hd⟩:=id hl;O⟨⟨cls2,dd2,data2,sl2⟩,ho2,hc2,n2,hd2⟩:=id hb;simp only at hc hd hc2 hd2;subst hc hd hc2 hd2;E richCompare_meets_room (op:=.Lt) ⟨_,ho,rfl⟩ ⟨_,ho2,rfl⟩ F.slot_tuple_lt F.entry_tuple_lt (F.args_tuple_lt_2 _ _) (Dm l b items items2 n n2 dd dd2 sl sl2 e lt)
  ⟨ho,ho2,he,ht,show Value.bool (Uu (decide (items.size<items2.size)) e lt (min items.size items2.size) 0)≠Value.notImplemented/\Q (.bool (Uu (decide (items.size<items2.size)) e lt (min items.size items2.size) 0)) s from⟨(λx=>nomatch x),h⟩⟩ hu
МRh(A:dg)(s:ao)(y x:am)(b:Bool):Prop:=
 ∀(prog:b5) (w:da) (E:am->ao->В) (Q:Bool->ao->В),Q b s->bc (b4 prog w) A (PyProof.Rows.oneLt' aC y x) Q E s
ЛRh.lists{l b:aq}{items items2:Array am}{e lt:Г->Bool}(hl:s.heap.IsList l items)(hb:s.heap.IsList b items2)(hu:A.units<f7)
  (he:∀j (h1:j<items.size) (h2:j<items2.size),(∀i,i<j->e i=aC)->EqAt A.in1 s items[j] items2[j] (e j)) (ht:∀j (h1:j<items.size) (h2:j<items2.size),(∀i,i<j->e i=aC)->e j=aD->Bc A.in1 s items[j] items2[j] (lt j)):
  Rh A s (.ref l) (.ref b) (Uu (decide (items.size<items2.size)) e lt (min items.size items2.size) 0):=λprog w E Q h=>by
 O⟨⟨cls,dd,data,sl⟩,ho,hc,n,hd⟩:=id hl;O⟨⟨cls2,dd2,data2,sl2⟩,ho2,hc2,n2,hd2⟩:=id hb;simp only at hc hd hc2 hd2;subst hc hd hc2 hd2;rw[PyProof.Rows.oneLt'_eq];simp only[if_true];R ad (wpAny_cRoomFor hu ?_);R ad (wpAny_callSpecialIfBound?_slot ⟨_,ho,rfl⟩ F.slot_list_lt (call_meets F.slot_list_lt ⟨_,ho,rfl⟩ F.entry_list_lt (F.args_list_lt_2 _ _) (Lo l b items items2 n n2 dd dd2 sl sl2 e lt) ⟨ho,ho2,he,ht,?_⟩));E wpAny_truthy_bool h
ЛRh.int(a:Int)(t:Tok)(b:Int)(u:Tok):Rh A s (.int a t) (.int b u) (decide (a<b)):=λprog w E Q h=>PyProof.Rows.oneLt_int h
ЛRh.str(a:Str)(t:Tok)(b:Str)(u:Tok):Rh A s (.str a t) (.str b u) (decide (a.cps.toList<b.cps.toList)):=λprog w E Q h=>PyProof.Rows.oneLt_str h
ЛBc.int(a:Int)(t:Tok)(b:Int)(u:Tok):Bc A s (.int a t) (.int b u) (decide (a<b)):=λprog w E Q h=>wpAny_lt_int h
ЛBc.str(a:Str)(t:Tok)(b:Str)(u:Tok):Bc A s (.str a t) (.str b u) (decide (a.cps.toList<b.cps.toList)):=λprog w E Q h=>PySem.P.lt_str h
end
end TX
namespace TX
open PySem PySem.Spec PyProof.Rows L2
open PySem.W (kla_fn kla_obj kla_callFunE kla_codeExpr envX)
structure LamS(x:Str)(fs:А Str)(sc:Scope):В where
 kind:sc.kind= .function
 co:sc.isCoroutine=aD
 gen:sc.isGenerator=aD
 par:sc.names.lookup x=aA .local
 nocell:∀y∈sc.names,y.2≠.cell
 nd:x∉fs
аZpn(qual:Str)(sc:Scope)(L f:aq)(c:aq)(cl:А (Str×aq)):Env:=envX qual sc L f (.ref c) cl
МcxL(X:Cx)(N:А Str)(qual:Str)(sc:Scope)(f c:aq)(cl:А (Str×aq))(A:dg)(s:ao)(H:Hp):Cx where
 prog:=X.prog
 w:=X.w
 K:=X.K
 mg:=X.mg
 base:=X.base
 A:=A.deeper (Zpn qual sc s.heap.objs.size f c cl)
 N:=N
 s₀:=s
 H₀:=H
 env:=Zpn qual sc s.heap.objs.size f c cl
 outer:=X.stack
 stack:=Zpn qual sc s.heap.objs.size f c cl::X.stack
 ex:=[]
 calm:=aC
 fn:=λ_=>aD
 pn:=[]
 xe:=λ_ _=>False
end TX
namespace TX
open PySem PySem.Spec PyProof.Rows L2
open PySem.W (kla_fn kla_obj kla_eval kla_makeFunction kla_makeFunctionHit CodeHd tabObj)
МZ05(mg:Str->Б am)(h:eh):Prop:=∃bm ob,mg "__builtins__"=aA (.ref bm)/\bm≠builtinsNs/\h.get? bm=aA ob/\ob.cls= .type "module"/\ob.dict=aA builtinsNs/\ob.data= .plain
МZ3g(o:Obj)(q:Str):Prop:=∃vs t,o.data= .fields vs/\vs[1]? =aA (.str q t)
end TX
namespace TX
open PySem PySem.Spec PyProof.Rows L2 DL
open PySem.SeqAt (EqAt)
variable{K:af}
НMp(eq lt:D->D->Б Bool):А D->А D->Б Bool
 | [],ys=>aA (!ys.isEmpty)
 |_::_,[]=>aA aD
 |x::xs,y::ys=>(eq x y).bind λb=>if b=aC then Mp eq lt xs ys else lt x y
НDn(eq lt:D->D->Б Bool):D->D->Б Bool
 | .int i,.int j=>aA (decide (i<j))
 | .str a,.str b=>aA (decide (a.cps.toList<b.cps.toList))
 | .lst xs,.lst ys=>Mp eq lt xs ys
 | .tup xs,.tup ys=>Mp eq lt xs ys
 |_,_=>aB
НU2:Г->D->D->Б Bool
 |0=>λ_ _=>aB
 |n+1=>Dn (Wp n) (U2 n)
МisT:Б Bool->Bool
 |some aC=>aC
 |_=>aD
аeJ(f:D->D->Б Bool)(xs ys:А D)(j:Г):Bool:=isT (f (xs.getD j .non) (ys.getD j .non))
ЛIa{fin:Bool}{e l:Г->Bool}:∀(k i:Г),Uu fin e l k (i+1)=Uu fin (λj=>e (j+1)) (λj=>l (j+1)) k i
 |0,_=>rfl
 |k+1,i=>by
  show(if e (i+1)=aC then Uu fin e l k (i+1+1)else l (i+1))=(if e (i+1)=aC then _ else _)
  rw[Ia k (i+1)]
ЛLp{eq lt:D->D->Б Bool}:∀{xs ys:А D} {b:Bool},Mp eq lt xs ys=aA b->
  Uu (decide (xs.length<ys.length)) (eJ eq xs ys) (eJ lt xs ys) (min xs.length ys.length) 0=b/\
  ∀j,j<xs.length->j<ys.length->(∀i,i<j->eJ eq xs ys i=aC)->eq (xs.getD j .non) (ys.getD j .non)=aA (eJ eq xs ys j)/\(eJ eq xs ys j=aD->lt (xs.getD j .non) (ys.getD j .non)=aA (eJ lt xs ys j))
 | [],ys,b,h=>by
  R⟨?_,λj hj=>absurd hj (d6 _)⟩;obtain rfl:(!ys.isEmpty)=b:=by simpa using h
  cases ys<;> simp[Uu]
 |x::xs,[],b,h=>by
  R⟨?_,λj _ hj=>absurd hj (d6 _)⟩;obtain rfl:aD=b:=by simpa using h
  simp[Uu]
 |x::xs,y::ys,b,h=>by
  V h:(eq x y).bind (λb=>if b=aC then Mp eq lt xs ys else lt x y)=aA b:=h;O⟨c,hc,h2⟩:=aa.mp h;V e0:eJ eq (x::xs) (y::ys) 0=c:=by T isT (eq x y)=c;rw[hc];cases c<;> rfl
  V hm:min (x::xs).length (y::ys).length=min xs.length ys.length+1:=by simp only[bf];W
  V hfin:decide ((x::xs).length<(y::ys).length)=decide (xs.length<ys.length):=by simp
  rw[hm,hfin];cases c with
  |false=>
   V h2:lt x y=aA b:=by simpa using h2
   R⟨?_,λj hj1 hj2 hp=>?_⟩
   ·show(if eJ eq (x::xs) (y::ys) 0=aC then _ else eJ lt (x::xs) (y::ys) 0)=b;rw[e0,Д К];T isT (lt x y)=b;rw[h2];cases b<;> rfl
   ·cases j with
    |zero=>R⟨by rw[e0];E hc,λ_=>?_⟩;T lt x y=aA (isT (lt x y));rw[h2];cases b<;> rfl
    |succ j=>have:=hp 0 (Nat.succ_pos _);rw[e0]at this;C this
  |true=>
   V h2:Mp eq lt xs ys=aA b:=by simpa using h2
   O⟨i1,i2⟩:=Lp h2;R⟨?_,λj hj1 hj2 hp=>?_⟩
   ·show(if eJ eq (x::xs) (y::ys) 0=aC then Uu _ _ _ _ (0+1)else eJ lt (x::xs) (y::ys) 0)=b;rw[e0,Е rfl,Ia];E i1
   ·cases j with
    |zero=>R⟨by rw[e0];E hc,λz=>?_⟩;rw[e0]at z;C z
    |succ j=>E i2 j (by simpa using hj1) (by simpa using hj2) λi hi=>hp (i+1) И
ЛReps.getD{F:Hp}:∀{ds:А D} {vs:А V} {its:А am},Reps K F ds vs->Z3 vs its->∀(j:Г) (hj:j<its.length),∃v,Rep K F (ds.getD j .non) v/\Zu v its[j]/\j<ds.length
 |_,_,_,.nil,.nil,j,hj=>absurd hj (d6 _)
 |_,_,_,.cons h t,.cons q qs,0,_=>⟨_,h,q,Nat.succ_pos _⟩
 |_,_,_,.cons h t,.cons q qs,j+1,hj=>by O⟨v,a,b,c⟩:=Reps.getD t qs j (Nat.lt_of_succ_lt_succ hj);E⟨v,a,b,Nat.succ_lt_succ c⟩
ЛReps.lenV{F:Hp}:∀{ds:А D} {vs:А V} {its:А am},Reps K F ds vs->Z3 vs its->ds.length=its.length
 |_,_,_,.nil,.nil=>rfl
 |_,_,_,.cons h t,.cons q qs=>congrArg (· +1) (Reps.lenV t qs)
section
variable{X:Cx}{pins:А (aq×Obj)}{σ:L2.St}{F H:Hp}{s:ao}
ЛOd(I:Inv X pins σ H s)(le:Zi F H){a:aq}{vs:А V}(h:W8 X.K F a vs):∃its:А am,Z3 vs its/\s.heap.IsList a its.toArray:=by O⟨its,rv,⟨o,n,ho,hcl,_,hd⟩,_⟩:=I.list (Wd le h);E⟨its,rv,o,ho,hcl,n,hd⟩
ЛJl(I:Inv X pins σ H s)(le:Zi F H){a:aq}{vs:А V}(h:F a=aA (.tup vs)):∃its:А am,Z3 vs its/\s.heap.IsTuple a its.toArray:=by O⟨_,its,rv,p⟩:=I.hok a _ (le _ _ h);O⟨o,ho,hc,n,hd⟩:=p;E⟨its,rv,o,ho,hc,n,hd⟩
ЛIb(I:Inv X pins σ H s)(le:Zi F H){n:Г}{A:dg}(hu:A.units+n<f7)(ih:∀(d1 d2:D) (b:Bool) (x y:V) (v u:am),Rep X.K F d1 x->Zu x v->Rep X.K F d2 y->Zu y u->U2 n d1 d2=aA b->Bc A s v u b)
  {ds es:А D} {vs ws:А V} {its jts:А am} (r1:Reps X.K F ds vs) (rv1:Z3 vs its) (r2:Reps X.K F es ws) (rv2:Z3 ws jts) {b:Bool} (h:Mp (Wp n) (U2 n) ds es=aA b):
  Uu (decide (its.toArray.size<jts.toArray.size)) (eJ (Wp n) ds es) (eJ (U2 n) ds es) (min its.toArray.size jts.toArray.size) 0=b/\
  (∀j (h1:j<its.toArray.size) (h2:j<jts.toArray.size),(∀i,i<j->eJ (Wp n) ds es i=aC)->EqAt A s its.toArray[j] jts.toArray[j] (eJ (Wp n) ds es j))/\
  (∀j (h1:j<its.toArray.size) (h2:j<jts.toArray.size),(∀i,i<j->eJ (Wp n) ds es i=aC)->eJ (Wp n) ds es j=aD->Bc A s its.toArray[j] jts.toArray[j] (eJ (U2 n) ds es j)):=by
 O⟨a,c⟩:=Lp h;rw[Reps.lenV r1 rv1,Reps.lenV r2 rv2]at a;R⟨by simpa using a,λj h1 h2 hp=>?_,λj h1 h2 hp hf=>?_⟩
 ·V h1':j<its.length:=by simpa using h1
  V h2':j<jts.length:=by simpa using h2
  O⟨v,p1,p2,p3⟩:=Reps.getD r1 rv1 j h1';O⟨w,q1,q2,q3⟩:=Reps.getD r2 rv2 j h2';E Tf I le n A _ _ _ _ _ _ _ hu p1 (by simpa using p2) q1 (by simpa using q2) (c j p3 q3 hp).1
 ·V h1':j<its.length:=by simpa using h1
  V h2':j<jts.length:=by simpa using h2
  O⟨v,p1,p2,p3⟩:=Reps.getD r1 rv1 j h1';O⟨w,q1,q2,q3⟩:=Reps.getD r2 rv2 j h2';E ih _ _ _ _ _ _ _ p1 (by simpa using p2) q1 (by simpa using q2) ((c j p3 q3 hp).2 hf)
ЛDp(I:Inv X pins σ H s)(le:Zi F H):∀(n:Г) (A:dg) (d1 d2:D) (b:Bool) (x y:V) (v u:am),A.units+n<f7->Rep X.K F d1 x->Zu x v->Rep X.K F d2 y->Zu y u->U2 n d1 d2=aA b->Bc A s v u b
 |0,_,_,_,_,_,_,_,_,_,_,_,_,_,e=>by C e
 |n+1,A,d1,d2,b,x,y,v,u,hu,r1,v1,r2,v2,e=>by
  V e:Dn (Wp n) (U2 n) d1 d2=aA b:=e;V hi:A.in1.units+n<cLine:=by V :A.in1.units=A.units+1:=rfl;W
  V ih:=λ(d1 d2:D) (b:Bool) (x y:V) (v u:am)=>Dp I le n A.in1 d1 d2 b x y v u hi;cases r1 with
  |int i=>cases r2 with
   |int j=>
    O⟨t1,rfl⟩:=v1;O⟨t2,rfl⟩:=v2;obtain rfl:decide (i<j)=b:=by simpa using e
    E Bc.int i t1 j t2
   |_=>C e
  |str i=>cases r2 with
   |str j=>
    O⟨t1,rfl⟩:=v1;O⟨t2,rfl⟩:=v2;obtain rfl:decide (i.cps.toList<j.cps.toList)=b:=by simpa using e
    E Bc.str i t1 j t2
   |_=>C e
  |lst h _ r=>cases r2 with
   |lst h' _ r'=>C v1;C v2;O⟨its,rv,hl⟩:=Od I le h;O⟨jts,rv',hl'⟩:=Od I le h';O⟨a,c,d⟩:=Ib I le hi ih r rv r' rv' e;rw[<-a];E Bc.lists hl hl' И c d
   |_=>C e
  |tup h r=>cases r2 with
   |tup h' r'=>C v1;C v2;O⟨its,rv,hl⟩:=Jl I le h;O⟨jts,rv',hl'⟩:=Jl I le h';O⟨a,c,d⟩:=Ib I le hi ih r rv r' rv' e;rw[<-a];E Bc.tuples hl hl' И c d
   |_=>C e
  |_=>C e
ЛZpo(I:Inv X pins σ H s)(le:Zi F H){n:Г}{A:dg}{d1 d2:D}{b:Bool}{x y:V}{v u:am}(hu:A.units+(n+1)<f7)(r1:Rep X.K F d1 x)(v1:Zu x v)(r2:Rep X.K F d2 y)(v2:Zu y u)
  (e:U2 (n+1) d1 d2=aA b) (hn:∀xs,d1≠.tup xs):Rh A s v u b:=by
 V e:Dn (Wp n) (U2 n) d1 d2=aA b:=e;V hi:A.in1.units+n<cLine:=by V :A.in1.units=A.units+1:=rfl;W
 V ih:=λ(d1 d2:D) (b:Bool) (x y:V) (v u:am)=>Dp I le n A.in1 d1 d2 b x y v u hi;cases r1 with
 |int i=>cases r2 with
  |int j=>
   O⟨t1,rfl⟩:=v1;O⟨t2,rfl⟩:=v2;obtain rfl:decide (i<j)=b:=by simpa using e
   E Rh.int i t1 j t2
  |_=>C e
 |str i=>cases r2 with
  |str j=>
   O⟨t1,rfl⟩:=v1;O⟨t2,rfl⟩:=v2;obtain rfl:decide (i.cps.toList<j.cps.toList)=b:=by simpa using e
   E Rh.str i t1 j t2
  |_=>C e
 |lst h _ r=>cases r2 with
  |lst h' _ r'=>C v1;C v2;O⟨its,rv,hl⟩:=Od I le h;O⟨jts,rv',hl'⟩:=Od I le h';O⟨a,c,d⟩:=Ib I le hi ih r rv r' rv' e;rw[<-a];E Rh.lists hl hl' И c d
  |_=>C e
 |tup h r=>E absurd rfl (hn _)
 |_=>C e
end
end TX
namespace TX
open PySem PySem.Spec PyProof.Rows L2 DL
open PySem.W (kas_sort kas_ask kas_item kat_run kat_snds)
section
variable{X:Cx}{pins:А (aq×Obj)}{σ:L2.St}{H:Hp}{s:ao}{E:am->ao->В}
ЛZbd{D:aq}{o:Obj}{xs ys:Array am}{n t':Г}{g:Array am->Array am}(I:Inv X pins σ H s)(fD:Uj X pins H D):Inv X pins σ H {s with heap:=s.heap.update D (dv g),toks:=t'}:=
 I.turned (λb o hb e=>by rw[Heap.get?_update_ne _ _ _ _ hb];E e) fD.1 fD.2.1 fD.2.2.2.1 fD.2.2.2.2.1 fD.2.2.2.2.2
МKS(X:Cx)(pins:А (aq×Obj))(σ:L2.St)(H0:Hp)(f:aq)(fo:Obj)(D kS:aq)(e1:Г)(KeyOk:Г->V->Hp->В)(i:Г)(s:ao):Prop:=
 ∃H ks kvs e,Zi H0 H/\Inv X pins σ H s/\Uj X pins H D/\Uj X pins H kS/\Uj X pins H f/\s.heap.get? D=aA (d8 "list" #[] e1)/\s.heap.get? kS=aA (d8 "list" (List.toArray ks) e)/\s.heap.get? f=aA fo/\
  Z3 kvs ks/\ks.length=i/\∀j kv,kvs[j]? =aA kv->KeyOk j kv H
end
end TX
namespace TX
open PySem PySem.Spec PyProof.Rows L2 DL
open PySem.W (kas_sort kas_ask kas_item kat_run kat_snds)
section
variable{X:Cx}{pins:А (aq×Obj)}{σ:L2.St}{H:Hp}{s:ao}{E:am->ao->В}{its:А am}{f D kS:aq}{fo:Obj}{e1:Г}{KeyOk:Г->V->Hp->В}{A:dg}{P:PySem.Fin->ao->В}
МOut(X:Cx)(pins:А (aq×Obj))(σ:L2.St)(H0:Hp)(D:aq)(out:А am)(s:ao):Prop:=
 ∃H c,Zi H0 H/\Inv X pins σ H s/\Uj X pins H D/\s.heap.get? D=aA (d8 "list" (List.toArray out) c)
variable{O:KeyOrd}{key:Г->O.α}
МCmp(X:Cx)(pins:А (aq×Obj))(σ:L2.St)(H0:Hp)(A:dg)(KeyOk:Г->V->Hp->В)(O:KeyOrd)(key:Г->O.α)(n:Г):Prop:=
 ∀H2 s2 ks kvs,Zi H0 H2->Inv X pins σ H2 s2->Z3 kvs ks->ks.length=n->(∀j kv,kvs[j]? =aA kv->KeyOk j kv H2)->2<=n->
  ∃κ,(∀Q:SortKind->ao->В,Q κ s2->bc (b4 X.prog X.w) A (keyKind' (List.toArray ks)) Q (λ_ _=>False) s2)/\
   ∀i j (Q:Bool->ao->В),i<n->j<n->Q (O.blt (key i) (key j)) s2->bc (b4 X.prog X.w) A (keyLt' κ (ks.getD i .none) (ks.getD j .none)) Q (λ_ _=>False) s2
end
end TX
namespace TX
open PySem PySem.Spec PySem.Calls PyProof.Rows L2 DL
end TX
namespace TX
open PySem PySem.Spec PySem.Calls PyProof.Rows L2 DL
open PySem.W (KatLex kat_lt kat_kind KatTups kat_one kat_nil kat_cons kat_yes kat_no)
section
variable{X:Cx}{pins:А (aq×Obj)}{σ:L2.St}{F H:Hp}{s:ao}
ЛZg4(I:Inv X pins σ H s)(le:Zi F H){n:Г}{A:dg}(hu:A.units+(n+1)<f7){Q:Bool->ao->В}{fin:Bool}:∀{ds es:А D} {vs ws:А V} {its jts:А am} {b:Bool} (i:Г),
  Reps X.K F ds vs->Z3 vs its->Reps X.K F es ws->Z3 ws jts->(i=0->∀d,ds.head? =aA d->∀xs,d≠.tup xs)->Mp (Wp (n+1)) (U2 (n+1)) ds es=aA b->(its.length=jts.length->fin=aD)->(its.length<jts.length->fin=aC)->(jts.length<its.length->fin=aD)->Q b s->
  KatLex X.prog X.w A aC fin Q (its.zip jts) i s
 |_,_,_,_,_,_,b,i,.nil,.nil,.nil,.nil,_,e,f1,_,_,q=>by
  obtain rfl:aD=b:=by simpa using e
  T Q fin s;rw[f1 rfl];E q
 |_,_,_,_,_,_,b,i,.nil,.nil,.cons _ _,.cons _ _,_,e,_,f2,_,q=>by
  obtain rfl:aC=b:=by simpa using e
  T Q fin s;rw[f2 К];E q
 |_,_,_,_,_,_,b,i,.cons _ _,.cons _ _,.nil,.nil,_,e,_,_,f3,q=>by
  obtain rfl:aD=b:=by simpa using e
  T Q fin s;rw[f3 К];E q
 |d::ds,d'::es,_,_,_,_,b,i,.cons h t,.cons r rs,.cons h' t',.cons r' rs',hd,e,f1,f2,f3,q=>by
  V e:(Wp (n+1) d d').bind (λb=>if b=aC then Mp (Wp (n+1)) (U2 (n+1)) ds es else U2 (n+1) d d')=aA b:=e;O⟨c,hc,e2⟩:=aa.mp e;R kat_cons (Tf I le (n+1) A _ _ _ _ _ _ _ И h r h' r' hc X.prog X.w _ _ ?_);cases c with
  |true=>
   V e2:Mp (Wp (n+1)) (U2 (n+1)) ds es=aA b:=by simpa using e2
   E kat_yes (Zg4 I le hu (i+1) t rs t' rs' (λz=>absurd z (Nat.succ_ne_zero i)) e2 (λz=>f1 (by simp[z])) (λz=>f2 (by simpa using z)) (λz=>f3 (by simpa using z)) q)
  |false=>
   V e2:U2 (n+1) d d'=aA b:=by simpa using e2
   R kat_no ?_;cases i with
   |zero=>E Zpo I le hu h r h' r' e2 (hd rfl d rfl) X.prog X.w _ _ q
   |succ i=>
    V :(aC&&(i+1==0))=aD:=by simp
    rw[this];R kat_one _ _ (Dp I le (n+1) A _ _ _ _ _ _ _ И h r h' r' e2 X.prog X.w _ _ ?_);E q
inductive KK where
 |lst|str|int
inductive IsKey:KK->D->В where
 |lst (xs:А D) (r:А D):IsKey .lst (.tup (.lst xs::r))
 |str (x:Str) (r:А D):IsKey .str (.tup (.str x::r))
 |int (i:Int) (r:А D):IsKey .int (.tup (.int i::r))
ЛIsKey.shape{b:KK}{d:D}(h:IsKey b d):∃e r,d= .tup (e::r)/\∀xs,e≠.tup xs:=by
 cases h with
 |lst xs r=>E⟨_,r,rfl,λ_ z=>by C z⟩
 |str x r=>E⟨_,r,rfl,λ_ z=>by C z⟩
 |int x r=>E⟨_,r,rfl,λ_ z=>by C z⟩
МkT:KK->String
 | .lst=>"list"
 | .str=>"str"
 | .int=>"int"
ЛZpp(I:Inv X pins σ H s)(le:Zi F H){n:Г}{A:dg}(hu:A.units+(n+2)<f7){d1 d2:D}{x y:V}{v u:am}{b:Bool}{k:KK}{E:am->ao->В}{Q:Bool->ao->В}(k1:IsKey k d1)(k2:IsKey k d2)
  (r1:Rep X.K F d1 x) (v1:Zu x v) (r2:Rep X.K F d2 y) (v2:Zu y u) (e:U2 (n+2) d1 d2=aA b) (q:Q b s):bc (b4 X.prog X.w) A (keyLt' (tuples' aC) v u) Q E s:=by
 O⟨e1,rs1,rfl,hn1⟩:=k1.shape;O⟨e2,rs2,rfl,_⟩:=k2.shape;cases r1 with
 |tup h1 p1=>cases r2 with
  |tup h2 p2=>
   C v1;C v2;O⟨its,rv,o,ho,hc,m,hd⟩:=Jl I le h1;O⟨jts,rw',o',ho',hc',m',hd'⟩:=Jl I le h2;V e:Mp (Wp (n+1)) (U2 (n+1)) (e1::rs1) (e2::rs2)=aA b:=e;R kat_lt ho hd ho' hd' ?_;R Zg4 I le И 0 p1 rv p2 rw' (λ_ d z xs=>?_) e (λz=>?_) (λz=>?_) (λz=>?_) q
   ·obtain rfl:e1=d:=by simpa using z
    E hn1 xs
   ·simp[z]
   ·simpa using z
   ·V z:jts.length<its.length:=by simpa using z
    simp;W
ЛLq(I:Inv X pins σ H s)(le:Zi F H){k:KK}:∀{ds:А D} {vs:А V} {its:А am},(∀d∈ds,IsKey k d)->Reps X.K F ds vs->Z3 vs its->∃fs,KatTups s.heap its fs/\fs.length=its.length/\∀v∈fs,PySem.W.Looks (b4 X.prog X.w) s.heap (typeOf v) (.type (kT k))
 |_,_,_,_,.nil,.nil=>⟨[],trivial,rfl,λ_ z=>nomatch z⟩
 |d::ds,_,_,hk,.cons h t,.cons r rs=>by
  O⟨fs,a,b,c⟩:=Lq I le (λd z=>hk d (ar _ z)) t rs;cases hk d ag with
  |lst xs rr=>cases h with
   |tup h1 p1=>
    C r;O⟨its,rv,o,ho,hc,m,hd⟩:=Jl I le h1;cases p1 with
    |cons q1 q2=>cases rv with
     |cons w1 w2=>cases q1 with
      |lst g1 _ g2=>
       C w1;O⟨jts,_,o2,ho2,hc2,_⟩:=Od I le g1;R⟨_::fs,KatTups.cons ho hc hd rfl a,by simp[b],λv z=>?_⟩;rcases bu.mp z with z|z
       ·subst z;E λA Q E s' k q=>wpAny_typeOf (T:="list") ⟨o2,k _ _ ho2,hc2⟩ q
       ·E c v z
  |str x rr=>cases h with
   |tup h1 p1=>
    C r;O⟨its,rv,o,ho,hc,m,hd⟩:=Jl I le h1;cases p1 with
    |cons q1 q2=>cases rv with
     |cons w1 w2=>cases q1 with
      |str y=>
       O⟨tk,rfl⟩:=w1;R⟨_::fs,KatTups.cons ho hc hd rfl a,by simp[b],λv z=>?_⟩;rcases bu.mp z with z|z
       ·subst z;E λA Q E s' k q=>wpAny_typeOf (T:="str") (typeIs_str s' x tk) q
       ·E c v z
  |int x rr=>cases h with
   |tup h1 p1=>
    C r;O⟨its,rv,o,ho,hc,m,hd⟩:=Jl I le h1;cases p1 with
    |cons q1 q2=>cases rv with
     |cons w1 w2=>cases q1 with
      |int y=>
       O⟨tk,rfl⟩:=w1;R⟨_::fs,KatTups.cons ho hc hd rfl a,by simp[b],λv z=>?_⟩;rcases bu.mp z with z|z
       ·subst z;E λA Q E s' k q=>wpAny_typeOf (T:="int") (typeIs_int s' x tk) q
       ·E c v z
ЛZg5(I:Inv X pins σ H s)(le:Zi F H){A:dg}{E:am->ao->В}{k:KK}{ds:А D}{vs:А V}{its:А am}(hk:∀d∈ds,IsKey k d)(r:Reps X.K F ds vs)(rv:Z3 vs its)(h2:0<its.length){Q:SortKind->ao->В}(q:Q (tuples' aC) s):
  bc (b4 X.prog X.w) A (keyKind' (List.toArray its)) Q E s:=by
 O⟨fs,a,b,c⟩:=Lq I le hk r rv;R kat_kind (T:=.type (kT k)) a И c (by cases k<;> decide) ?_;cases k<;> E q
end
end TX
namespace TX
open PySem PySem.Spec PySem.Calls PyProof.Rows L2 DL
structure KeysOk(ks:А D):В where
 key:∃k,∀d∈ks,IsKey k d
 ord:∃enc:D->А Г,(∀a∈ks,∀b∈ks,U2 16 a b=aA (decide (enc a<enc b)))/\∀i j:Г,i<ks.length->j<ks.length->enc (ks.getD i .non)=enc (ks.getD j .non)->i=j
МMq(ks:А D)(p:А Г):Prop:=p.Perm (c8 ks.length)/\p.Pairwise λi j=>U2 16 (ks.getD j .non) (ks.getD i .non)=aA aD
ЛIc{ks:А D}(h:KeysOk ks){p q:А Г}(hp:Mq ks p)(hq:Mq ks q):p=q:=by
 O⟨enc,he,hd⟩:=h.ord;V get:∀i,i<ks.length->ks.getD i .non∈ks:=λi hi=>by rw[bi,ax hi];E List.getElem_mem hi
 V mp:∀i∈p,i<ks.length:=λi hi=>cz.mp (hp.1.mem_iff.mp hi);V mq:∀i∈q,i<ks.length:=λi hi=>cz.mp (hq.1.mem_iff.mp hi);R List.Perm.eq_of_pairwise (le:=λi j=>U2 16 (ks.getD j .non) (ks.getD i .non)=aA aD) (λa b ha hb h1 h2=>?_) hp.2 hq.2 (hp.1.trans hq.1.symm);rw[he _ (get _ (mq b hb)) _ (get _ (mp a ha))]at h1;rw[he _ (get _ (mp a ha)) _ (get _ (mq b hb))]at h2;V h1:¬enc (ks.getD b .non)<enc (ks.getD a .non):=by simpa using h1
 V h2:¬enc (ks.getD a .non)<enc (ks.getD b .non):=by simpa using h2
 E hd a b (mp a ha) (mq b hb) (List.le_antisymm (dm.mp h1) (dm.mp h2))
ЛB8{ks:А D}(h:KeysOk ks):∃p,Mq ks p:=by
 O⟨enc,he,hd⟩:=h.ord;V get:∀i,i<ks.length->ks.getD i .non∈ks:=λi hi=>by rw[bi,ax hi];E List.getElem_mem hi
 R⟨(c8 ks.length).mergeSort λi j=>decide (¬enc (ks.getD j .non)<enc (ks.getD i .non)),List.mergeSort_perm _ _,?_⟩;V pw:=List.pairwise_mergeSort (le:=λi j:Г=>decide (¬enc (ks.getD j .non)<enc (ks.getD i .non)))
  (λa b c h1 h2=>by
   simp only[decide_eq_true_eq]at*;E dm.mpr (List.le_trans (dm.mp h1) (dm.mp h2)))
  (λa b=>by
   simp only[Bool.or_eq_true,decide_eq_true_eq];rcases List.le_total (enc (ks.getD a .non)) (enc (ks.getD b .non))with z|z
   ·E .inl (dm.mpr z)
   ·E .inr (dm.mpr z)) (c8 ks.length)
 R(List.Pairwise.imp_of_mem ?_ pw);intro i j hi hj z;V hi:i<ks.length:=cz.mp ((List.mergeSort_perm _ _).mem_iff.mp hi);V hj:j<ks.length:=cz.mp ((List.mergeSort_perm _ _).mem_iff.mp hj);rw[he _ (get j hj) _ (get i hi)];simpa using z
open Classical in
МC8(ks xs:А D):Б SV:=
 if h:ks.length=xs.length/\xs.length<64/\KeysOk ks then aA (.ol ((Classical.choose (B8 h.2.2)).map λi=>xs.getD i .non))else aB
ЛZbe{ks xs:А D}{sv:SV}(e:C8 ks xs=aA sv):ks.length=xs.length/\xs.length<64/\KeysOk ks/\∃p,Mq ks p/\sv= .ol (p.map λi=>xs.getD i .non):=by
 unfold C8 at e;split at e
 ·rename_i h;C e;E⟨h.1,h.2.1,h.2.2,_,Classical.choose_spec (B8 h.2.2),rfl⟩
 ·C e
ЛZky{ks xs:А D}(h1:ks.length=xs.length)(h2:xs.length<64)(h3:KeysOk ks):∃p,Mq ks p/\C8 ks xs=aA (.ol (p.map λi=>xs.getD i .non)):=by R⟨_,Classical.choose_spec (B8 h3),?_⟩;unfold C8;rw[dif_pos ⟨h1,h2,h3⟩]
НZyz(fb:FE)(cs:А D)(d:D):Б D:=(fb (aA (.fz d)::cs.map λc=>aA (.fz c))).bind λp=>(frz p.1 p.2).bind λq=>aA q.1
НZg6(fb:FE)(cs:А D):А D->Б (А D)
 | []=>aA []
 |d::ds=>(Zyz fb cs d).bind λk=>(Zg6 fb cs ds).bind λks=>aA (k::ks)
НZt4(fb:FE)(js:А Г)(d:D)(δ:Yq):Б (RV×Yq):=match d with
 | .lst xs=>(frzAll (js.map RV.bw) δ).bind λr=>(Zg6 fb r.1 xs).bind λks=>(C8 ks xs).bind λsv=>aA (.tmp sv,r.2)
 |_=>aB
НZy0(fa:FE)(js:А Г)(fb:FE):FE:=λδ=>(fa δ).bind λp=>(frz p.1 p.2).bind λq=>Zt4 fb js q.1 q.2
section
variable{K:af}{Z:Ent K}{H:Hp}{σ:L2.St}
ЛReps.len2{F:Hp}:∀{ds:А D} {vs:А V},Reps K F ds vs->ds.length=vs.length
 |_,_,.nil=>rfl
 |_,_,.cons _ t=>congrArg (· +1) (Reps.len2 t)
end
end TX
namespace TX
open PySem PySem.Spec PySem.Calls PyProof.Rows L2 DL
open PySem.W (CodeHd kla_fn kla_obj)
section
variable{X:Cx}{pins:А (aq×Obj)}{σ:L2.St}{H:Hp}{s:ao}
ЛZbf{K:af}{F:Hp}:∀{ks:А D} {kvs:А V},kvs.length=ks.length->(∀(j:Г) kv,kvs[j]? =aA kv->Rep K F (ks.getD j .non) kv)->Reps K F ks kvs
 | [],[],_,_=>.nil
 |k::ks,v::kvs,hl,h=>.cons (h 0 v rfl) (Zbf (by simpa using hl) λj kv e=>h (j+1) kv (by simpa using e))
ЛLr:∀{ws:А V} {its:А am},Z3 ws its->∀{p:А Г},(∀i∈p,i<its.length)->Z3 (p.map λi=>ws.getD i .non) (p.map λi=>its.getD i cm):=by
 intro ws its h p hp;V at':∀{ws:А V} {its:А am},Z3 ws its->∀i,i<its.length->Zu (ws.getD i .non) (its.getD i cm):=by
  intro ws its h;induction h with
  |nil=>intro i hi;simp at hi
  |cons r t ih=>intro i hi;cases i with
   |zero=>E r
   |succ i=>E ih i (by simpa using hi)
 induction p with
 |nil=>E .nil
 |cons i r ih=>E .cons (at' h i (hp i ag)) (ih λj hj=>hp j (ar _ hj))
ЛAq{K:af}{F:Hp}:∀{xs:А D} {ws:А V},Reps K F xs ws->∀(i:Г),i<xs.length->Rep K F (xs.getD i .non) (ws.getD i .non)
 |_,_,.nil,i,hi=>absurd hi (d6 _)
 |_,_,.cons h t,0,_=>h
 |_,_,.cons h t,i+1,hi=>Aq t i (Nat.lt_of_succ_lt_succ hi)
ЛTp{K:af}{F:Hp}{xs:А D}{ws:А V}(h:Reps K F xs ws):∀{p:А Г},(∀i∈p,i<xs.length)->Reps K F (p.map λi=>xs.getD i .non) (p.map λi=>ws.getD i .non)
 | [],_=>.nil
 |i::r,hp=>.cons (Aq h i (hp i ag)) (Tp h λj hj=>hp j (ar _ hj))
аV6(enc:D->А Г)(ks:А D)(i:Г):strKind.toKeyOrd.α:=enc (ks.getD i .non)
ЛDq{ks:А D}{enc:D->А Г}{A:dg}{kb:KK}(hu:A.units+16<f7)(hk:∀d∈ks,IsKey kb d)(he:∀a∈ks,∀b∈ks,U2 16 a b=aA (decide (enc a<enc b))){n:Г}(hn:ks.length=n):
  Cmp X pins σ H A (λj kv H=>Rep X.K H (ks.getD j .non) kv) strKind.toKeyOrd (V6 enc ks) n:=by
 intro H2 s2 ksV kvs sm I2 rv hl hkv h2;V hlk:kvs.length=ks.length:=by V :=rv.length;W
 V rr:=Zbf hlk hkv;V get:∀i,i<ks.length->ks.getD i .non∈ks:=λi hi=>by rw[bi,ax hi];E List.getElem_mem hi
 R⟨tuples' aC,λQ q=>Zg5 I2 (Zi.refl H2) hk rr rv И q,λi j Q hi hj q=>?_⟩;O⟨v,a1,a2,a3⟩:=Reps.getD rr rv i И;O⟨w,b1,b2,b3⟩:=Reps.getD rr rv j И;V e1:ksV.getD i cm=ksV[i]:=by simp[bi,ax (show i<ksV.length by W)]
 V e2:ksV.getD j cm=ksV[j]:=by simp[bi,ax (show j<ksV.length by W)]
 rw[e1,e2];E Zpp I2 (Zi.refl H2) (n:=14) hu (hk _ (get i a3)) (hk _ (get j b3)) a1 a2 b1 b2 (he _ (get i a3) _ (get j b3)) q
ЛDr{ks:А D}{enc:D->А Г}(he:∀a∈ks,∀b∈ks,U2 16 a b=aA (decide (enc a<enc b))){p:Array Г}{n:Г}(hn:ks.length=n)(hp:Pm n p)(hs:Py (O:=strKind.toKeyOrd) (V6 enc ks) p n):Mq ks p.toList:=by
 subst hn;V pt:p.toList.Perm (c8 ks.length):=Array.perm_iff_toList_perm.mp hp;V get:∀i,i<ks.length->ks.getD i .non∈ks:=λi hi=>by rw[bi,ax hi];E List.getElem_mem hi
 R⟨pt,List.pairwise_iff_getElem.mpr λi j hi hj hij=>?_⟩;V hj':j<ks.length:=by V :=pt.length_eq;rw[List.length_range]at this;W
 V mi:p.toList[i]<ks.length:=cz.mp (pt.mem_iff.mp (List.getElem_mem hi));V mj:p.toList[j]<ks.length:=cz.mp (pt.mem_iff.mp (List.getElem_mem hj));rw[he _ (get _ mj) _ (get _ mi)];V z:=hs i j (Nat.le_of_lt hij) hj';unfold Kp at z;V ei:p.getD i 0=p.toList[i]:=by rw[Array.getD_eq_getD_getElem?];simp at hi⊢;simp[hi]
 V ej:p.getD j 0=p.toList[j]:=by rw[Array.getD_eq_getD_getElem?];simp at hj⊢;simp[hj]
 rw[ei,ej]at z;V z:decide (enc (ks.getD p.toList[j] .non)<enc (ks.getD p.toList[i] .non))=aD:=z;rw[z]
end
end TX
namespace TX
open PySem PySem.Spec PySem.Calls PyProof.Rows L2 DL
open PySem.W (CodeHd tabObj)
аspT(P:aq)(q:Str)(sp:Sp):Sp:=λvs H Q E=>H P=aA (.tab q)/\sp vs H Q E
structure FunC(K:af)(x qual:Str)(st:Stmt)(f:aq)(fd:cr)(c:aq):В where
 ex:∃(oc:am) (od:Б aq) (kV doc pm:am) (an:Б aq) (ct:am) (osl:Array (Б am)),
  fd=PySem.W.fnOf x qual (Bz st) (Ur st) (Zx st) .none kV doc pm an (.ref c) ct/\K.lookup f=aA ⟨oc,od,.func fd,osl⟩/\PySem.W.codeIn K (.ref c) qual=aC
 kp:bn K (.ref f)=aC
end TX
namespace TX
open PySem PySem.Spec PySem.Calls PyProof.Rows L2 DL
МleS(a b:Str):Bool:=decide (¬b.cps.toList<a.cps.toList)
МZkz(ss:А Str):А Str:=ss.mergeSort leS
end TX
namespace L2
open PySem PySem.Spec PySem.Calls PyProof.Rows TX
section
variable{X:Cx}
МZ06(K:af):А V->Hp->VK->Prop:=λxs H Q=>∃l ss,xs=[.ref l]/\W8 K H l (ss.map V.str)/\ss.length<64/\∀q,H q=aB->Q (.ref q) (Ya H q (.lst ((Zkz ss).map V.str)))
end
end L2
namespace DL
open PySem PySem.Spec PySem.Calls PyProof.Rows L2 TX
variable{K:af}
Нtxs?:А D->Б (А Str)
 | []=>aA []
 | .str i::r=>(txs? r).bind λl=>aA (i::l)
 |_=>aB
МZ07:А D->Б SV
 | [.lst xs]=>(txs? xs).bind λns=>if ns.length<64 then aA (.ol ((Zkz ns).map D.str))else aB
 |_=>aB
НltS:D->D->Б SV
 | .str a,.str b=>aA (.fz (.bl (decide (a.cps.toList<b.cps.toList))))
 |_,_=>aB
end DL
namespace TX
open PySem PySem.Spec PySem.Calls PyProof.Rows L2 DL
open PySem.W (CodeHd tabObj)
МZ3i(names:А (Str×NameKind))(cl:А (Str×aq)):Bool:=names.all λp=>p.2 != .free|| (cl.lookup p.1).isSome
МjsB(N:А Str)(sc lc:А (Str×NameKind)):А Г->А Str->Bool
 |j::js,y::fs=>N[j]? ==aA y&&sc.lookup y==aA .cell&&lc.lookup y==aA .free&&jsB N sc lc js fs
 | [],[]=>aC
 |_,_=>aD
end TX
namespace DL
open PySem PySem.Spec PySem.Calls PyProof.Rows L2 TX
end DL
namespace DL
open PySem PySem.Spec PySem.Calls PyProof.Rows L2
section
variable{K:af}{Z:Ent K}{H:Hp}{σ:L2.St}
open Classical in
НZ08(fa:FA):FD:=λδ=>(fa δ).bind λp=>match Oy p.1 p.2 with
 |some [.int i,.int j]=>if Tc i/\Tc j then aA (T5 i (j- i).toNat,p.2)else aB
 |_=>aB
end
end DL
namespace TX
open PySem PySem.Spec PySem.Calls PyProof.Rows L2 DL
open PySem.W (kas_sort kas_ask kas_item kat_run kat_snds)
section
variable{X:Cx}{pins:А (aq×Obj)}{σ:L2.St}{H:Hp}{s:ao}{E:am->ao->В}{its:А am}{l:aq}{KeyOk:Г->V->Hp->В}{Q:am->ao->В}{O:KeyOrd}{key:Г->O.α}{kvs:А V}
ЛDs(I:Inv X pins σ H s)(hl:s.heap.IsList l its.toArray)(h64:its.length<64)(rv:Z3 kvs its)(hk:∀j kv,kvs[j]? =aA kv->KeyOk j kv H)(hc:Cmp X pins σ H X.A.in1.in1 KeyOk O key its.length)
  (hQ:∀p D s' c,Pm its.length p->Py key p its.length->X.s₀.heap.get? D=aB->Inv X pins σ H s'->Uj X pins H D->s'.heap.get? D=aA (d8 "list" (List.toArray (p.toList.map λi=>its.getD i cm)) c)->Q (.ref D) s'):
  bc (b4 X.prog X.w) X.A (call (.builtin "sorted") [.ref l]) Q E s:=by
 R Calls.call_function_entry kind_sorted plain_sorted entry_sorted (args_sorted1 _) ?_;unfold Builtin.«sorted»;R ad (m:=checkCount "sorted" 1 1 _) (ah ?_);R ad (collect_list hl ?_ (by rw[f6];W));R ad (wpAny_newList ?_ (by rw[f6];W));V hsz:((s.heap.push (d8 "list" #[] 0)).update s.heap.objs.size (dv (· ++its.toArray))).objs.size=s.heap.objs.size+1:=by rw[Heap.size_update,size_push']
 V hoL:(((s.heap.push (d8 "list" #[] 0)).update s.heap.objs.size (dv (· ++its.toArray))).push (d8 "list" its.toArray 0)).get? (s.heap.objs.size+1)=aA (d8 "list" its.toArray 0):=by rw[<-hsz];E ba _ rfl
 V keep:∀b o,s.heap.get? b=aA o->(((s.heap.push (d8 "list" #[] 0)).update s.heap.objs.size (dv (· ++its.toArray))).push (d8 "list" its.toArray 0)).get? b=aA o:=λb o q=>by V hlt:b<s.heap.objs.size:=bh q;rw[Heap.get?_push_ne _ _ _ (by rw[hsz];E cj (Nat.lt_succ_of_lt hlt)),Heap.get?_update_ne _ _ _ _ (cj hlt),Heap.get?_push_ne _ _ _ (cj hlt)];E q
 T bc _ _ _ _ _ {s with heap:=((s.heap.push (d8 "list" #[] 0)).update s.heap.objs.size (dv (· ++its.toArray))).push (d8 "list" its.toArray 0)};rw[hsz];R ad (wpAny_holding (dj slot_list_sort ⟨_,hoL,rfl⟩ entry_list_sort ?body (args_list_sort _)))
 case body=>
  rw[list_sort_plain];V hs2:(((s.heap.push (d8 "list" #[] 0)).update s.heap.objs.size (dv (· ++its.toArray))).push (d8 "list" its.toArray 0)).objs.size=s.heap.objs.size+2:=by rw[size_push',hsz]
  generalize hh:(((s.heap.push (d8 "list" #[] 0)).update s.heap.objs.size (dv (· ++its.toArray))).push (d8 "list" its.toArray 0))=h1 at hoL keep hs2⊢;generalize hD:s.heap.objs.size+1=D at hoL⊢;V hDn: @Eq Г D (s.heap.objs.size+1):=hD.symm;obtain⟨e1,ho1⟩:∃e1,(h1.update D (dv λ_=>(#[]:Array am))).get? D=aA (d8 "list" #[] e1):=⟨_,get?_update_seq hoL λ_=> #[]⟩
  R ad (listItems_at hoL rfl ?_);R ad (listUpdate_at hoL rfl ?_ (by rw[bv,f6];W) (gb _));R ad (seqEpoch_at ho1 rfl ?_);R ad (wpAny_newTuple ?_ (by T its.length<=_;rw[f6];W));R ad (wpAny_newList ?_ (gb _));R wpAny_holding ?_;V kp:∀b o,s.heap.get? b=aA o->(((h1.update D (dv λ_=>(#[]:Array am))).push (d8 "tuple" its.toArray 0)).push (d8 "list" #[] 0)).get? b=aA o:=λb o q=>by V hlt: @LT.lt Г _ b s.heap.objs.size:=bh q;V :=keep b o q;R av _ (av _ ?_);rw[Heap.get?_update_ne _ _ _ _ (cj (show @LT.lt Г _ b D by W))];E this
  V nD:H D=aB:=I.hok.fresh И;V fD:Uj X pins H D:=I.fpOk И nD;V ho6:(((h1.update D (dv λ_=>(#[]:Array am))).push (d8 "tuple" its.toArray 0)).push (d8 "list" #[] 0)).get? D=aA (d8 "list" #[] e1):=av _ (av _ ho1);V I6:Inv X pins σ H {s with heap:=((h1.update D (dv λ_=>(#[]:Array am))).push (d8 "tuple" its.toArray 0)).push (d8 "list" #[] 0)}:=I.kept kp;T bc (b4 X.prog X.w) X.A.in1.in1 _ _ _ {s with heap:=((h1.update D (dv λ_=>(#[]:Array am))).push (d8 "tuple" its.toArray 0)).push (d8 "list" #[] 0)};V hD0:X.s₀.heap.get? D=aB:=Heap.get?_none_of_le (du I.sz И);generalize hs6:({s with heap:=((h1.update D (dv λ_=>(#[]:Array am))).push (d8 "tuple" its.toArray 0)).push (d8 "list" #[] 0)}:ao)=s6 at I6⊢;V ho6:s6.heap.get? D=aA (d8 "list" #[] e1):=by rw[<-hs6];E ho6
  V fin:∀(p:Array Г) (out:Array am),out=List.toArray (p.toList.map λi=>its.getD i cm)->out.size<64->Pm its.length p->Py key p its.length->
    Q (.ref D) {s6 with heap:=s6.heap.update D (dv λ_=>out)}:=λp out ho hz z1 z2=>by
   subst ho;E hQ p D _ _ z1 z2 hD0 (Zbd (o:=d8 "list" #[] 0) (xs:= #[]) (ys:= #[]) (n:=0) I6 fD) fD (get?_update_seq ho6 λ_=>_)
  try dsimp only
  by_cases h2:its.toArray.size<2
  ·rw[Е h2,Е h2];V h2':its.length<2:=by simpa using h2
   R ad (ah ?_);rw[StateT.run_pure];R ad (ah ?_)
   try dsimp only
   V eo:(arrOf (SortSt.mk' general' (its.toArray.zip its.toArray) #[] 7 aB)).map (·.2)=List.toArray ((List.toArray (c8 its.length)).toList.map λi=>its.getD i cm):=by
    show(its.toArray.zip its.toArray).map (·.2)=_;apply Array.toList_inj.mp;rw[Array.toList_map,ksk_zip];simp only[List.toList_toArray];rw[List.map_snd_zip И];apply List.ext_getElem
    ·simp
    ·intro i a b;simp[a]
   rw[eo];R ad (seqEpoch_at ho6 rfl ?_);R ad (listUpdate_at ho6 rfl ?_ (gb _) (by rw[bv,f6];simp;W));T bc _ _ (if((e1 !=e1)=aC)then _ else _) _ _ _;simp only[bne_self_eq_false,bq,if_false];R ah ⟨_,rfl,ah ⟨_,rfl,fin (List.toArray (c8 its.length)) _ rfl (by simp;W) (Array.Perm.refl _) (λi j hij hj=>?_)⟩⟩;V :i=j:=by W
   subst this;E KeyOrd.kle_refl _
  ·rw[Д h2,Д h2];V h2':2<=its.length:=Nat.le_of_not_lt (by simpa using h2);O⟨κ,hκ,hlt⟩:=hc H s6 its kvs (Zi.refl H) I6 rv rfl hk h2';R ad (wpAny_mono (hκ (λκ' s'=>κ'=κ/\s'=s6) ⟨rfl,rfl⟩) (λκ' s' z=>?_) λ_ _ z=>z.elim);O⟨rfl,rfl⟩:=z;V g:=Qa.wp (lt:=Kf O key) (n:=its.length) (R:=λq=>Pm its.length q/\Py key q its.length) (cmp:=kas_ask X.prog X.w X.A.in1.in1 κ' its) (I:=λs''=>s''=s') (Q:=λq s''=>s''=s'/\Pm its.length q/\Py key q its.length)
    (λi j C s'' hi hj z hC=>by subst z;E hlt i j C hi hj (hC _ rfl)) (λq s'' z1 z2=>⟨z2,z1⟩) (Ln (key:=key) И) rfl
   R ad (wpAny_mono (kat_run (Q:=λst s''=>∃p:Array Г,s''=s'/\Pm its.length p/\Py key p its.length/\arrOf st=p.map (kas_item (its.toArray.zip its.toArray))/\failedOf st=aB) rfl h2' h64
    (λp st s'' _ a1 a2 z=>⟨p,z.1,z.2.1,z.2.2,a1,a2⟩) g) (λr s'' z=>?_) λ_ _ z=>z)
   O⟨⟨⟩,st⟩:=r;O⟨p,rfl,z1,z2,z3,z4⟩:=z
   try dsimp only
   rw[kat_snds rfl z3];R ad (seqEpoch_at ho6 rfl ?_);R ad (listUpdate_at ho6 rfl ?_ (gb _) (by rw[bv,aj,a8,z1.size,f6];W));rw[z4];simp only[bne_self_eq_false,bq,if_false];E ah ⟨_,rfl,ah ⟨_,rfl,fin p _ rfl (by rw[bv,aj,a8,z1.size];E h64) z1 z2⟩⟩
end
end TX
namespace L2
open PySem PySem.Spec PySem.Calls PyProof.Rows DL TX
section
variable{X:Cx}
МZm7(K:af):А V->Hp->VK->Prop:=λvs H Q=>∃l F ds ws p,vs=[.ref l]/\Zi F H/\W8 K H l ws/\Reps K F ds ws/\KeysOk ds/\Mq ds p/\ws.length<64/\∀q,H q=aB->Q (.ref q) (Ya H q (.lst (p.map λi=>ws.getD i .non)))
ЛZdi(hu:X.A.units+64<f7):Q6 X (.builtin "sorted") (Zm7 X.K):=by
 intro pins s σ H xs us Q I r h;O⟨l,F,ds,ws,p0,rfl,le,hl,rr,ko,hp0,hz,q⟩:=h;O⟨u,rfl,ru⟩:=Ul r;C ru;O⟨its,rvi,⟨o,n,ho,hcl,_,hd⟩,_⟩:=I.list hl;V hlen:ds.length=its.length:=TX.Reps.lenV rr rvi;V wlen:ws.length=its.length:=rvi.length;O⟨enc,he,hdis⟩:=id ko.ord;O⟨kb,hkb⟩:=id ko.key;V hu2:X.A.in1.in1.units+16<cLine:=by T X.A.units+1+1+16<f7;W
 R Ds (KeyOk:=λj kv H=>Rep X.K H (ds.getD j .non) kv) (O:=strKind.toKeyOrd) (key:=V6 enc ds) I ⟨o,ho,hcl,n,hd⟩ И rvi (λj kv e=>?_) (Dq hu2 hkb he hlen) ?hQ
 ·V hj:j<ws.length:=(ay.mp e).1;V h1:=Aq rr j И;V :ws.getD j .non=kv:=by rw[bi,e];rfl
  rw[this]at h1;E h1.mono le
 case hQ=>
  intro p D s3 cc hp hs hD0 I3 fD gD;V ep:p.toList=p0:=Ic ko (Dr he hlen hp hs) hp0;rw[ep]at gD;V bnd:∀i∈p0,i<its.length:=λi hi=>by V :=cz.mp (hp0.1.mem_iff.mp hi);W
  V new:Yc X.prog X.w (Ya H D (.lst (p0.map λi=>ws.getD i .non))) s3.heap D (.lst (p0.map λi=>ws.getD i .non)):=by R⟨?_,p0.map λi=>its.getD i cm,cc,Lr rvi bnd,gD⟩;V :=hp0.1.length_eq;rw[List.length_range]at this;rw[aj,this,f6];W
  E⟨.ref D,_,Inv.trackO I3 hD0 fD.1 fD.2.1 fD.2.2.2.2.1 fD.2.2.2.2.2 new,rfl,q D fD.1⟩
end
end L2
namespace DL
open PySem PySem.Spec PySem.Calls PyProof.Rows L2 TX
variable{K:af}
МOe:А D->Б SV
 | [.lst xs]=>C8 xs xs
 |_=>aB
section
variable{Z:Ent K}{H:Hp}{σ:L2.St}{Q:VK}{E:Ends}
ЛZpq:U6 Z (Zm7 K) Oe:=by
 intro F H σ δ own vs ds sv Q s r e k;unfold Oe at e;split at e
 ·rename_i xs;O⟨_,hz,ko,p,hp,rfl⟩:=Zbe e;cases r with
  |cons h t=>C t;O⟨a,us,rfl,ha,ru⟩:=h.lst s.le;V bnd:∀i∈p,i<xs.length:=λi hi=>cz.mp (hp.1.mem_iff.mp hi);E⟨a,F,xs,us,p,rfl,s.le,ha,ru,ko,hp,by rw[<-Reps.len2 ru];E hz,λq hq=>k.lst s (Tp ru bnd) hq⟩
 ·C e
end
section
variable{X:Cx}{Z:Ent X.K}{a b c:c5}{fa fb fc:FE}{pos:Pos}
ЛTq{p:Pos}(hv:X.A.units+64<f7)(hm:X.mg "sorted"=aB)(ha:PE X a (Ze Z fa))(hg:Gl X "sorted":=by rfl)(he:bd [a] X.env=(aD,gy a X.env)::bd [] X.env:=by rfl)(hpl:(gx pos (bd [] X.env)).any (·.1)=aD:=by rfl):
  PE X (.Call (.Name "sorted" p) [a] [] pos) (Ze Z (Yf Oe (Zc fa Zj))):=An (Zdi hv) Zpq hm L2.C6 (Zm ha Yo he) hg Й Й he hpl
end
end DL
namespace TX
open PySem PySem.Spec PySem.Calls PyProof.Rows L2 DL
НZpr(lt:D->D->Б Bool):Г->D->А D->Г->Б Г
 |b,_,[],_=>aA b
 |b,kb,k::ks,j=>(lt k kb).bind λc=>if c=aC then Zpr lt j k ks (j+1)else Zpr lt b kb ks (j+1)
section
variable{X:Cx}{pins:А (aq×Obj)}{σ:L2.St}{H:Hp}{s:ao}{ws:А V}{f l I S:aq}{fo:Obj}{ks:А D}
МMSt(X:Cx)(pins:А (aq×Obj))(σ:L2.St)(H0:Hp)(f:aq)(fo:Obj)(I S l:aq)(j:Г)(best:Array am)(H:Hp)(s:ao):Prop:=
 Zi H0 H/\Inv X pins σ H s/\Uj X pins H I/\Uj X pins H S/\Uj X pins H f/\s.heap.IsListIter I l j/\(∃c,s.heap.get? S=aA (d8 "list" best c))/\s.heap.get? f=aA fo
МZy1(X:Cx)(pins:А (aq×Obj))(σ:L2.St)(H:Hp)(A:dg)(f:aq)(fo:Obj)(ws:А V)(ks:А D):Prop:=
 ∀(j:Г) (u:am) (H1:Hp) (s1:ao),j<ws.length->Zu (ws.getD j .non) u->Zi H H1->Inv X pins σ H1 s1->s1.heap.get? f=aA fo->Uj X pins H1 f->
  bc (b4 X.prog X.w) A (call (.ref f) [u]) (λk s2=>∃kv H2,Zi H1 H2/\Inv X pins σ H2 s2/\Un (frs X.stack) [] H1 H2 s1.heap s2.heap/\Zu kv k/\Rep X.K H2 (ks.getD j .non) kv) (λ_ _=>False) s1
end
end TX
namespace TX
open PySem PySem.Spec PySem.Calls PyProof.Rows L2 DL
open PySem.W (CodeHd kla_fn kla_obj)
НZy2(lt:D->D->Б Bool):А D->Б (Б Г)
 | []=>aA aB
 |k::ks=>(Zpr lt 0 k ks 1).bind λm=>aA (aA m)
end TX
namespace TX
open PySem PySem.Spec PySem.Calls PyProof.Rows L2 DL
open PySem.W (CodeHd kla_fn kla_obj)
НZy3(fb:FE)(js:А Г)(d:D)(δ:Yq):Б (RV×Yq):=match d with
 | .lst xs=>(frzAll (js.map RV.bw) δ).bind λr=>(Zg6 fb r.1 xs).bind λks=>(Zy2 (U2 16) ks).bind λm=>aA (.tmp (.fz ((m.map λi=>xs.getD i .non).getD .non)),r.2)
 |_=>aB
НZ09(fa:FE)(js:А Г)(fb:FE):FE:=λδ=>(fa δ).bind λp=>(frz p.1 p.2).bind λq=>Zy3 fb js q.1 q.2
end TX
namespace DL
open PySem PySem.Spec PySem.Calls PyProof.Rows L2 TX
end DL
namespace TX
open PySem PySem.Spec PySem.Calls PyProof.Rows L2 DL
section
variable{prog:b5}{w:da}{A:dg}{E:am->ao->В}{s:ao}{d:aq}{od:Obj}{es:Array DictEntry}{ep:Г}
ЛZdj(hh:A.handled=aB)(I:aq)(hne:d≠I)(c:od.data= .dict es ep):Walks prog w A I [I,d] [I] es.size (λi v=>∃e,es[i]? =aA e/\v=e.key) (λi h=>h.IsKeyIter I d i es.size ep/\h.get? d=aA od)where
 sub:=λb hb=>by simp at hb;simp[hb]
 frame:=λ_ _ _ st hk=>⟨Mo st.1 λo e=>hk I К o e,hk d К _ st.2⟩
 item:=λi s Q E hi st hQ=>by
  V he:es[i]? =aA es[i]:=by simp[hi]
  R Mm st.1 st.2 c rfl he λh' t' hs'=>?_;E hQ _ h' s.toks ⟨_,he,rfl⟩ ⟨t',(hs'.2 d hne).trans st.2⟩ λb o hb e=>(hs'.2 b (λh=>hb (by simp[h]))).trans e
 done:=λs Q E st hQ=>Mn hh st.1 st.2 c rfl (a6 _) λh' he'=>hQ h' s.toks λb o hb e=>he' b o (λh=>hb (by simp[h])) e
 self:=λ_ _ _ _ st hQ=>wpAny_pyIter_keyiter st.1 hQ
ЛZk0(lo:(d==sysModules)=aD)(x:od.ExactDict)(c:od.data= .dict es ep):PySem.W.KdlSrc prog w "dict" d d es.size (λi v=>∃e,es[i]? =aA e/\v=e.key) (λh=>h.get? d=aA od)where
 type:=λ_ g=>⟨od,g,x.1⟩
 there:=λ_ g=>⟨bh g,bh g⟩
 keep:=λ_ _ g hk=>hk d (.inl rfl) _ g
 notList:=by decide
 notTuple:=by decide
 hint:=λ_ _ _ _ g hq=>PySem.W.kdl_hint_dict ⟨od,g,x.1⟩ hq
 iter:=λ_ _ hh g=>⟨_,_,(λ_ _ hq=>Ml lo g x c hq),Zdj hh _ (cj (bh g)) c,⟨⟨_,ba _ rfl,rfl,rfl⟩,av _ g⟩⟩
ЛV7{Q:А am->ao->В}(hh:A.handled=aB)(lo:(d==sysModules)=aD)(x:od.ExactDict)(c:od.data= .dict es ep)(g:s.heap.get? d=aA od)(hn:es.size<=1000)
  (h:∀h' tk,(∀b o,s.heap.get? b=aA o->h'.get? b=aA o)->s.heap.objs.size<=h'.objs.size->Q (es.toList.map (·.key)) {s with heap:=h',toks:=tk}):bc (b4 prog w) A (collect (.ref d)) Q E s:=by
 V hlr:d<s.heap.objs.size:=bh g;V nS:s.heap.objs.size≠d:=Nat.ne_of_gt hlr;unfold collect;R ad (wpAny_runValue (gw PySem.F.entry_proto_collect ?_));rw[gg PySem.F.plain_proto_collect _];T bc _ A.in1 (newList [] >>=λl=>again (.builtin "list.__iadd__" ⟨[l,.ref d],[]⟩)) _ _ s;R ad (dw ?_);R ah ⟨plainId_quiet PySem.F.plain_list_iadd _,gw PySem.F.entry_list_iadd ?_⟩;rw[gg PySem.F.plain_list_iadd _];T bc _ A.in1 (Builtin.List.listExtendWith (.ref s.heap.objs.size) (.ref d) (.ref s.heap.objs.size)) _ _ _;R PySem.W.kdl_extend (R:=λrr s'=>match rr with
  | .ok (.ret v)=>bc (b4 prog w) A (match v with
   | .ref a=>(load a >>=λx=>match x.data with
    | .seq xs _=>pure xs.toList
    |_=>unsupported "internal:collect")
   |_=>unsupported "internal:collect") Q E s'
  | .ok _=>False
  | .error e=>E e s') (s:={s with heap:=s.heap.push {cls:=.type "list",data:=.seq #[] 0}}) (Zk0 (prog:=prog) (w:=w) lo x c) hh (av _ g) s.heap.objs.size nS nS _ 0 (ba _ rfl) (λh' tk acc' c' hk gS hacc=>?_) (by rw[f6];W)
 T bc _ A (load s.heap.objs.size >>=_) _ _ _;R ad (wpAny_load gS ?_);R ah ?_;V e:acc'.toList=es.toList.map (·.key):=by
  apply List.ext_getElem?;intro i;rw[c6,a9,c6];cases hi:acc'[i]? with
  |none=>
   V :acc'.size<=i:=by simpa using hi
   rw[hacc.1]at this;rw[show es[i]? =aB by simpa using this];rfl
  |some v=>O⟨e,he,rfl⟩:=hacc.2 i v hi;rw[he];rfl
 T Q acc'.toList _;rw[e];E h h' tk (λb o q=>hk b o (cj (bh q)) (av _ q)) (Nat.le_of_lt (bh gS))
end
end TX
namespace TX
open PySem PySem.Spec PySem.Calls PyProof.Rows L2 DL
open PySem.W (kas_sort kas_ask kas_item kat_run kat_snds)
section
variable{X:Cx}{pins:А (aq×Obj)}{σ:L2.St}{H:Hp}{s:ao}{E:am->ao->В}{its:А am}{KeyOk:Г->V->Hp->В}{Q:am->ao->В}{O:KeyOrd}{key:Г->O.α}{kvs:А V}
ЛLs(I:Inv X pins σ H s)(h64:its.length<64)(rv:Z3 kvs its)(hk:∀j kv,kvs[j]? =aA kv->KeyOk j kv H)(hc:Cmp X pins σ H X.A.in1.in1 KeyOk O key its.length)
  (hQ:∀p D s' c,Pm its.length p->Py key p its.length->X.s₀.heap.get? D=aB->Inv X pins σ H s'->Uj X pins H D->s'.heap.get? D=aA (d8 "list" (List.toArray (p.toList.map λi=>its.getD i cm)) c)->Q (.ref D) s'):
  bc (b4 X.prog X.w) X.A.in1 (do
   let l<-newList its;let _<-holding [l] (call (.builtin "list.sort") [l] [])
   ret l) (λfin s'=>∃v,fin= .done (.ret v)/\Q v s') E s:=by
 R ad (wpAny_newList ?_ (by rw[f6];W));V hoL:(s.heap.push (d8 "list" its.toArray 0)).get? s.heap.objs.size=aA (d8 "list" its.toArray 0):=ba _ rfl;V keep:∀b o,s.heap.get? b=aA o->(s.heap.push (d8 "list" its.toArray 0)).get? b=aA o:=λb o q=>av _ q;R ad (wpAny_holding (dj (s:={s with heap:=s.heap.push (d8 "list" its.toArray 0)}) slot_list_sort ⟨_,hoL,rfl⟩ entry_list_sort ?body (args_list_sort _)))
 case body=>
  rw[list_sort_plain];V hs2:(s.heap.push (d8 "list" its.toArray 0)).objs.size=s.heap.objs.size+1:=size_push' ..;generalize hh:(s.heap.push (d8 "list" its.toArray 0))=h1 at hoL keep hs2⊢;generalize hD:s.heap.objs.size=D at hoL⊢;V hDn: @Eq Г D s.heap.objs.size:=hD.symm;obtain⟨e1,ho1⟩:∃e1,(h1.update D (dv λ_=>(#[]:Array am))).get? D=aA (d8 "list" #[] e1):=⟨_,get?_update_seq hoL λ_=> #[]⟩
  R ad (listItems_at hoL rfl ?_);R ad (listUpdate_at hoL rfl ?_ (by rw[bv,f6];W) (gb _));R ad (seqEpoch_at ho1 rfl ?_);R ad (wpAny_newTuple ?_ (by T its.length<=_;rw[f6];W));R ad (wpAny_newList ?_ (gb _));R wpAny_holding ?_;V kp:∀b o,s.heap.get? b=aA o->(((h1.update D (dv λ_=>(#[]:Array am))).push (d8 "tuple" its.toArray 0)).push (d8 "list" #[] 0)).get? b=aA o:=λb o q=>by V hlt: @LT.lt Г _ b s.heap.objs.size:=bh q;V :=keep b o q;R av _ (av _ ?_);rw[Heap.get?_update_ne _ _ _ _ (cj (show @LT.lt Г _ b D by W))];E this
  V nD:H D=aB:=I.hok.fresh И;V fD:Uj X pins H D:=I.fpOk И nD;V ho6:(((h1.update D (dv λ_=>(#[]:Array am))).push (d8 "tuple" its.toArray 0)).push (d8 "list" #[] 0)).get? D=aA (d8 "list" #[] e1):=av _ (av _ ho1);V I6:Inv X pins σ H {s with heap:=((h1.update D (dv λ_=>(#[]:Array am))).push (d8 "tuple" its.toArray 0)).push (d8 "list" #[] 0)}:=I.kept kp;T bc (b4 X.prog X.w) X.A.in1.in1 _ _ _ {s with heap:=((h1.update D (dv λ_=>(#[]:Array am))).push (d8 "tuple" its.toArray 0)).push (d8 "list" #[] 0)};V hD0:X.s₀.heap.get? D=aB:=Heap.get?_none_of_le (du I.sz И);generalize hs6:({s with heap:=((h1.update D (dv λ_=>(#[]:Array am))).push (d8 "tuple" its.toArray 0)).push (d8 "list" #[] 0)}:ao)=s6 at I6⊢;V ho6:s6.heap.get? D=aA (d8 "list" #[] e1):=by rw[<-hs6];E ho6
  V fin:∀(p:Array Г) (out:Array am),out=List.toArray (p.toList.map λi=>its.getD i cm)->out.size<64->Pm its.length p->Py key p its.length->
    Q (.ref D) {s6 with heap:=s6.heap.update D (dv λ_=>out)}:=λp out ho hz z1 z2=>by
   subst ho;E hQ p D _ _ z1 z2 hD0 (Zbd (o:=d8 "list" #[] 0) (xs:= #[]) (ys:= #[]) (n:=0) I6 fD) fD (get?_update_seq ho6 λ_=>_)
  try dsimp only
  by_cases h2:its.toArray.size<2
  ·rw[Е h2,Е h2];V h2':its.length<2:=by simpa using h2
   R ad (ah ?_);rw[StateT.run_pure];R ad (ah ?_)
   try dsimp only
   V eo:(arrOf (SortSt.mk' general' (its.toArray.zip its.toArray) #[] 7 aB)).map (·.2)=List.toArray ((List.toArray (c8 its.length)).toList.map λi=>its.getD i cm):=by
    show(its.toArray.zip its.toArray).map (·.2)=_;apply Array.toList_inj.mp;rw[Array.toList_map,ksk_zip];simp only[List.toList_toArray];rw[List.map_snd_zip И];apply List.ext_getElem
    ·simp
    ·intro i a b;simp[a]
   rw[eo];R ad (seqEpoch_at ho6 rfl ?_);R ad (listUpdate_at ho6 rfl ?_ (gb _) (by rw[bv,f6];simp;W));T bc _ _ (if((e1 !=e1)=aC)then _ else _) _ _ _;simp only[bne_self_eq_false,bq,if_false];R ah ⟨_,rfl,ah ⟨_,rfl,fin (List.toArray (c8 its.length)) _ rfl (by simp;W) (Array.Perm.refl _) (λi j hij hj=>?_)⟩⟩;V :i=j:=by W
   subst this;E KeyOrd.kle_refl _
  ·rw[Д h2,Д h2];V h2':2<=its.length:=Nat.le_of_not_lt (by simpa using h2);O⟨κ,hκ,hlt⟩:=hc H s6 its kvs (Zi.refl H) I6 rv rfl hk h2';R ad (wpAny_mono (hκ (λκ' s'=>κ'=κ/\s'=s6) ⟨rfl,rfl⟩) (λκ' s' z=>?_) λ_ _ z=>z.elim);O⟨rfl,rfl⟩:=z;V g:=Qa.wp (lt:=Kf O key) (n:=its.length) (R:=λq=>Pm its.length q/\Py key q its.length) (cmp:=kas_ask X.prog X.w X.A.in1.in1 κ' its) (I:=λs''=>s''=s') (Q:=λq s''=>s''=s'/\Pm its.length q/\Py key q its.length)
    (λi j C s'' hi hj z hC=>by subst z;E hlt i j C hi hj (hC _ rfl)) (λq s'' z1 z2=>⟨z2,z1⟩) (Ln (key:=key) И) rfl
   R ad (wpAny_mono (kat_run (Q:=λst s''=>∃p:Array Г,s''=s'/\Pm its.length p/\Py key p its.length/\arrOf st=p.map (kas_item (its.toArray.zip its.toArray))/\failedOf st=aB) rfl h2' h64
    (λp st s'' _ a1 a2 z=>⟨p,z.1,z.2.1,z.2.2,a1,a2⟩) g) (λr s'' z=>?_) λ_ _ z=>z)
   O⟨⟨⟩,st⟩:=r;O⟨p,rfl,z1,z2,z3,z4⟩:=z
   try dsimp only
   rw[kat_snds rfl z3];R ad (seqEpoch_at ho6 rfl ?_);R ad (listUpdate_at ho6 rfl ?_ (gb _) (by rw[bv,aj,a8,z1.size,f6];W));rw[z4];simp only[bne_self_eq_false,bq,if_false];E ah ⟨_,rfl,ah ⟨_,rfl,fin p _ rfl (by rw[bv,aj,a8,z1.size];E h64) z1 z2⟩⟩
end
end TX
namespace L2
open PySem PySem.Spec PySem.Calls PyProof.Rows DL TX
section
variable{X:Cx}
МZm8(K:af):А V->Hp->VK->Prop:=λvs H Q=>∃a kvs ep bs F ds p,vs=[.ref a]/\Zi F H/\H a=aA (.dT kvs ep bs)/\Reps K F ds (bs.map V.ref)/\KeysOk ds/\Mq ds p/\bs.length<64/\∀q,H q=aB->Q (.ref q) (Ya H q (.lst (p.map λi=>(bs.map V.ref).getD i .non)))
ЛTr:∀bs:А aq,Z3 (bs.map V.ref) (bs.map bz)
 | []=>.nil
 |b::bs=>.cons rfl (Tr bs)
ЛDt(hc:X.calm=aC)(hu:X.A.units+64<f7):Q6 X (.builtin "sorted") (Zm8 X.K):=by
 intro pins s σ H xs us Q I r h;O⟨a,kvs,ep,bs,F,ds,p0,rfl,le,ha,rr,ko,hp0,hz,q⟩:=h;O⟨u,rfl,ru⟩:=Ul r;C ru;O⟨_,hd,ys,rel,od,es,g,x,c,en,nd,hbs⟩:=(show Yc X.prog X.w H s.heap a (.dT kvs ep bs)from I.hok a _ ha)
 V ek:es.toList.map (·.key)=bs.map Value.ref:=by rw[en,<-hbs,bo,bo];rfl
 V hes:es.size=bs.length:=by rw[<-a8,<-aj (f:=λe:DictEntry=>e.key),ek,aj]
 V hlen:ds.length=bs.length:=by V :=TX.Reps.len2 rr;rw[aj]at this;E this
 O⟨enc,he,hdis⟩:=id ko.ord;O⟨kb,hkb⟩:=id ko.key;V hu2:X.A.in1.in1.units+16<cLine:=by T X.A.units+1+1+16<f7;W
 R Calls.call_function_entry kind_sorted plain_sorted entry_sorted (args_sorted1 _) ?_;unfold Builtin.«sorted»;R ad (m:=checkCount "sorted" 1 1 _) (ah ?_);R ad (V7 (A:=X.A.in1) (I.ok.hd hc) hd x c g И λh' tk hk ge=>?_);rw[ek];V I1:Inv X pins σ H {s with heap:=h',toks:=tk}:=I.kept hk;V bl:(bs.map bz).length=bs.length:=aj ..;R Ls (its:=bs.map bz) (kvs:=bs.map V.ref) (KeyOk:=λj kv H=>Rep X.K H (ds.getD j .non) kv) (O:=strKind.toKeyOrd) (key:=V6 enc ds) I1 (by rw[bl];E hz) (Tr bs) (λj kv e=>?_) (Dq hu2 hkb he (by rw[bl];E hlen)) ?hQ
 ·V hj:j<(bs.map V.ref).length:=(ay.mp e).1;rw[aj]at hj;V h1:=Aq rr j И;V :(bs.map V.ref).getD j .non=kv:=by rw[bi,e];rfl
  rw[this]at h1;E h1.mono le
 case hQ=>
  intro p D s3 cc hp hs hD0 I3 fD gD;rw[bl]at hp hs;V ep:p.toList=p0:=Ic ko (Dr he hlen hp hs) hp0;rw[ep]at gD;V bnd:∀i∈p0,i<bs.length:=λi hi=>by V :=cz.mp (hp0.1.mem_iff.mp hi);W
  V new:Yc X.prog X.w (Ya H D (.lst (p0.map λi=>(bs.map V.ref).getD i .non))) s3.heap D (.lst (p0.map λi=>(bs.map V.ref).getD i .non)):=by R⟨?_,p0.map λi=>(bs.map bz).getD i cm,cc,Lr (Tr bs) (λi hi=>by rw[bl];E bnd i hi),gD⟩;V :=hp0.1.length_eq;rw[List.length_range]at this;rw[aj,this,f6];W
  E⟨.ref D,_,Inv.trackO I3 hD0 fD.1 fD.2.1 fD.2.2.2.2.1 fD.2.2.2.2.2 new,rfl,q D fD.1⟩
end
end L2
namespace DL
open PySem PySem.Spec PySem.Calls PyProof.Rows L2 TX
section
variable{K:af}{F H:Hp}{v:V}
ЛYd.dT2{ks:А (А Key)}{ds:А D}(le:Zi F H)(h:Yd K F H (.dT ks ds) v):∃a kvs ep bs,v= .ref a/\H a=aA (.dT kvs ep bs)/\KB F kvs bs/\kvs.map (·.1)=ks:=by
 O⟨sv,ns,e,n,sh,hp⟩:=h;cases sh with
 |fz r=>C e;cases r with|dT h kb e r=>E⟨_,_,_,_,rfl,le _ _ h,kb,e⟩
 |ol r=>C e
 |oK e' r=>C e
 |oT kb e' r=>C e;E⟨_,_,_,_,rfl,hp _ ag,kb,e'⟩
 |oN e' r=>C e
 |oX kb' e' r=>C e
 |oL hp' r=>C e
 |oQ e' r=>C e
аC9(k:А Key):D:=.tup (k.map Rq)
ЛZbg:∀{kvs:А (А Key×V)} {bs:А aq},KB F kvs bs->Reps K F ((kvs.map (·.1)).map C9) (bs.map V.ref)
 |_,_,.nil=>.nil
 |_,_,.cons h t=>.cons (.tup h (Gy _)) (Zbg t)
ЛZps{kvs:А (А Key×V)}{bs:А aq}(h:KB F kvs bs):kvs.length=bs.length:=g6 h
МIe:А D->Б SV
 | [.dT ks _]=>C8 (ks.map C9) (ks.map C9)
 |_=>aB
variable{Z:Ent K}{σ:L2.St}{Q:VK}{E:Ends}
ЛZpt:U6 Z (Zm8 K) Ie:=by
 intro F H σ δ own vs ds sv Q s r e k;unfold Ie at e;split at e
 ·rename_i ks us;O⟨_,hz,ko,p,hp,rfl⟩:=Zbe e;cases r with
  |cons h t=>C t;O⟨a,kvs,ep,bs,rfl,ha,kb,rfl⟩:=Yd.dT2 s.le h;V rr:Reps K F ((kvs.map (·.1)).map C9) (bs.map V.ref):=Zbg kb;V bnd:∀i∈p,i<((kvs.map (·.1)).map C9).length:=λi hi=>cz.mp (hp.1.mem_iff.mp hi);E⟨a,kvs,ep,bs,F,_,p,rfl,s.le,ha,rr,ko,hp,by rw[<-Zps kb];simpa using hz,λq hq=>k.lst s (Tp rr bnd) hq⟩
 ·C e
end
section
variable{X:Cx}{Z:Ent X.K}{a b c:c5}{fa fb fc:FE}{pos:Pos}
ЛZg7{p:Pos}(hc:X.calm=aC)(hv:X.A.units+64<f7)(hm:X.mg "sorted"=aB)(ha:PE X a (Ze Z fa))(hg:Gl X "sorted":=by rfl)(he:bd [a] X.env=(aD,gy a X.env)::bd [] X.env:=by rfl)(hpl:(gx pos (bd [] X.env)).any (·.1)=aD:=by rfl):
  PE X (.Call (.Name "sorted" p) [a] [] pos) (Ze Z (Yf Ie (Zc fa Zj))):=An (Dt hc hv) Zpt hm L2.C6 (Zm ha Yo he) hg Й Й he hpl
end
end DL
namespace L2
open PySem PySem.Spec PyProof.Rows
variable{X:Cx}{pos:Pos}
МZ3k(K:af)(n:Г)(t:TGs):TG:=λv σ H Q=>∃a xs,v= .ref a/\W8 K H a xs/\xs.length=n/\t xs σ H Q
end L2
namespace DL
open PySem PySem.Spec PyProof.Rows L2
variable{K:af}{Z:Ent K}{H:Hp}{σ:L2.St}
МZt5(n:Г)(g:FGs):FG:=⟨λd δ=>match d with
 | .lst xs=>if xs.length=n then g.run xs δ else aB
 |_=>aB,g.tch⟩
@[simp] theorem Zt6(n:Г)(g:FGs)(xs:А D)(δ:Yq):(Zt5 n g).run (.lst xs) δ=if xs.length=n then g.run xs δ else none:=rfl
variable{X:Cx}{Z:Ent X.K}{pos:Pos}
end DL
namespace TT
open PySem PySem.SetTable SX
МDu(m:Г)(p:Probe):Probe:=
 if p.more > 0 then{p with j:=p.j+1,more:=p.more- 1}else
 {p with j:=(leap m p.i p.perturb).1,more:=runEnd m (leap m p.i p.perturb).1- (leap m p.i p.perturb).1,i:=(leap m p.i p.perturb).1,perturb:=(leap m p.i p.perturb).2}
ЛZpu(t:ib)(p:Probe):t.advance p=Du t.mask p:=rfl
МWs(m:Г):Г->Probe->Probe
 |0,p=>p
 |n+1,p=>Ws m n (Du m p)
ЛQ9(m:Г):∀(a b:Г) (p:Probe),Ws m (a+b) p=Ws m b (Ws m a p)
 |0,b,p=>by rw[Nat.zero_add];rfl
 |a+1,b,p=>by rw[Nat.add_right_comm];E Q9 m a b (Du m p)
МMr(m i q:Г):Probe:={j:=i,more:=runEnd m i- i,i:=i,perturb:=q,dummy:=aB}
ЛZbh(m:Г)(p:Probe):(Du m p).dummy=p.dummy:=by unfold Du;split<;> rfl
ЛV8(m:Г):∀(n:Г) (p:Probe),(Ws m n p).dummy=p.dummy
 |0,_=>rfl
 |n+1,p=>(V8 m n (Du m p)).trans (Zbh m p)
ЛZpv(m i:Г):runEnd m i- i<=9:=by unfold runEnd;split<;> W
ЛZg8{m i:Г}(h:i<=m):runEnd m i<=m:=by unfold runEnd;split<;> W
ЛPz(m i:Г):i<=runEnd m i:=by unfold runEnd;split<;> W
ЛU4{m i q:Г}:∀{k:Г},k<=runEnd m i- i->Ws m k (Mr m i q)={j:=i+k,more:=runEnd m i- i- k,i:=i,perturb:=q,dummy:=aB}
 |0,_=>rfl
 |k+1,h=>by rw[Q9 m k 1,U4 И];T Du m _=_;unfold Du;rw[Е (by show runEnd m i- i- k > 0;W)];rfl
ЛB9(m i q:Г):Ws m (runEnd m i- i+1) (Mr m i q)=Mr m (leap m i q).1 (leap m i q).2:=by rw[Q9 m _ 1,U4 (a6 _)];T Du m _=_;unfold Du;rw[Д (by show¬runEnd m i- i- (runEnd m i- i) > 0;W)];rfl
МUp(m:Г):Г->Г×Г->Г×Г
 |0,x=>x
 |n+1,x=>Up m n (leap m x.1 x.2)
ЛLu(m:Г):∀(a b:Г) (x:Г×Г),Up m (a+b) x=Up m b (Up m a x)
 |0,b,x=>by rw[Nat.zero_add];rfl
 |a+1,b,x=>by rw[Nat.add_right_comm];E Lu m a b _
ЛV9{m:Г}:∀(n:Г) (x:Г×Г),x.1<=m->(Up m n x).1<=m
 |0,_,h=>h
 |n+1,x,_=>V9 n _ (Nat.le_of_lt_succ (Nat.mod_lt (x.1*5+1+x.2 / 32) (Nat.succ_pos m)))
ЛLv(m:Г):∀(n:Г) (x:Г×Г),(Up m n x).2=x.2 / 32^n
 |0,x=>by simp[Up]
 |n+1,x=>by show(Up m n (leap m x.1 x.2)).2=_;rw[Lv m n];T x.2 / 32 / 32^n=_;rw[Nat.div_div_eq_div_mul,Nat.pow_succ,Nat.mul_comm]
Мorb(m:Г):Г->Г->Г
 |0,_=>0
 |n+1,i=>(1<<<i)|||orb m n ((i*5+1) % (m+1))
ЛZbi{m:Г}:∀(n i j:Г),(orb m n i).testBit j=aC->∃c,c<n/\(Up m c (i,0)).1=j
 |0,i,j,h=>by simp[orb]at h
 |n+1,i,j,h=>by
  unfold orb at h;rw[Nat.testBit_or,Bool.or_eq_true]at h;rcases h with h|h
  ·R⟨0,by W,?_⟩;rw[Nat.one_shiftLeft,Nat.testBit_two_pow]at h;T i=j;E of_decide_eq_true h
  ·O⟨c,hc,e⟩:=Zbi n _ j h;R⟨c+1,by W,?_⟩;show(Up m c (leap m i 0)).1=j;V :leap m i 0=((i*5+1) % (m+1),0):=by simp[leap]
   rw[this];E e
МMsk(m:Г):Prop:=m=7\/m=31\/m=127
ЛZk1{m:Г}(h:Msk m):(c8 (m+1)).all (λi=>orb m (m+1) i==2^(m+1)- 1)=aC:=by rcases h with rfl|rfl|rfl<;> decide+kernel
ЛZna{m i q j:Г}(h:Msk m)(hi:i<=m)(hq:q<2^64)(hj:j<=m):∃c,c<m+15/\(Up m c (i,q)).1=j:=by
 V h13:(Up m 13 (i,q)).2=0:=by rw[Lv];E Nat.div_eq_of_lt (di hq Й)
 V hle:=V9 (m:=m) 13 (i,q) hi;generalize hx:Up m 13 (i,q)=x at h13 hle;O⟨a,b⟩:=x;simp only at h13 hle;subst h13;V ho:=List.all_eq_true.mp (Zk1 h) a (cz.mpr И);V ho:orb m (m+1) a=2^(m+1)- 1:=by simpa using ho
 O⟨c,hc,e⟩:=Zbi (m+1) a j (by rw[ho,Nat.testBit_two_pow_sub_one];simpa using by W);E⟨13+c,by W,by rw[Lu,hx];E e⟩
ЛZg9(m:Г):∀(c i q:Г),∃n,n<=10*c/\Ws m n (Mr m i q)=Mr m (Up m c (i,q)).1 (Up m c (i,q)).2
 |0,i,q=>⟨0,by W,rfl⟩
 |c+1,i,q=>by O⟨n,hn,e⟩:=Zg9 m c (leap m i q).1 (leap m i q).2;R⟨runEnd m i- i+1+n,by V :=Zpv m i;W,?_⟩;rw[Q9,B9,e];rfl
аJm(m:Г)(h:Int):Probe:=Mr m (bits h % (m+1)) (bits h)
ЛZt7(t:ib)(h:Int):t.probeStart h=Jm t.mask h:=rfl
ЛZbj(h:Int):bits h<2^64:=by unfold bits;V h1:=fj h (show(0:Int)<2^64 by decide);V h2:=gk h (show(2^64:Int)≠0 by decide);W
ЛZt8{m:Г}(hm:Msk m)(h:Int){j:Г}(hj:j<=m):∃n,n<10*turns m/\(Ws m n (Jm m h)).j=j:=by O⟨c,hc,e⟩:=Zna (q:=bits h) hm (Nat.le_of_lt_succ (Nat.mod_lt (bits h) (Nat.succ_pos m))) (Zbj h) hj;O⟨n,hn,e2⟩:=Zg9 m c (bits h % (m+1)) (bits h);E⟨n,by unfold turns;W,by rw[e2];E e⟩
аsq(m:Г)(h:Int)(n:Г):Nat:=(Ws m n (Jm m h)).j
ЛZbk{m:Г}:∀(n:Г) (p:Probe),p.i<=m->p.j+p.more<=m->(Ws m n p).j<=m
 |0,p,_,h=>by T p.j<=m;W
 |n+1,p,hi,h=>by
  R Zbk n (Du m p) ?_ ?_
  ·unfold Du;split
   ·E hi
   ·E Nat.le_of_lt_succ (Nat.mod_lt (p.i*5+1+p.perturb / 32) (Nat.succ_pos m))
  ·unfold Du;split
   ·T p.j+1+(p.more- 1)<=m;W
   ·V hl:(leap m p.i p.perturb).1<=m:=Nat.le_of_lt_succ (Nat.mod_lt (p.i*5+1+p.perturb / 32) (Nat.succ_pos m));V :=Zg8 hl;V :=Pz m (leap m p.i p.perturb).1;show(leap m p.i p.perturb).1+(runEnd m (leap m p.i p.perturb).1- (leap m p.i p.perturb).1)<=m;W
ЛZha(m:Г)(h:Int)(n:Г):sq m h n<=m:=by V h1:bits h % (m+1)<=m:=Nat.le_of_lt_succ (Nat.mod_lt _ (Nat.succ_pos m));R Zbk n _ h1 ?_;V :=Zg8 h1;V :=Pz m (bits h % (m+1));T bits h % (m+1)+(runEnd m (bits h % (m+1))- bits h % (m+1))<=m;W
ЛTs{t:ib}(hr:Rr t.place.toList){i j:Г}(h:t.place[i]? =aA j):t.slot j= .live i:=by
 V hi:i<t.place.size:=(gn.mp h).1;V a:At t.place j i:=by
  R⟨by W,λk y hk e=>B7 hr e h hk,λk y hk e=>?_⟩;rcases Nat.lt_or_eq_of_le hk with z|z
  ·E Nat.le_of_lt (B7 hr h e z)
  ·subst z;rw[h]at e;C e;E a6 _
 V e:=Za9 (E6 hr j) a;unfold SetTable.slot;dsimp only;rw[e,h,Е К]
ЛP0{t:ib}{i j:Г}(h:t.slot j= .live i):t.place[i]? =aA j:=by
 unfold SetTable.slot at h;dsimp only at h;split at h
 ·rename_i e;C h;simpa using e
 ·split at h<;> C h
ЛZbl{t:ib}(hr:Rr t.place.toList){j:Г}(h:t.slot j= .empty):j∉t.place.toList:=λz=>by
 O⟨i,hi,e⟩:=f9 z;V :t.place[i]? =aA j:=by rw[<-c6,ay];E⟨hi,e⟩
 rw[Ts hr this]at h;C h
ЛIg{t:ib}(hd:t.dummies= #[])(j:Г):t.slot j= .empty\/∃i,t.slot j= .live i:=by
 unfold SetTable.slot;dsimp only;split
 ·E .inr ⟨_,rfl⟩
 ·rw[hd,Zba];E .inl К
ЛIh{t:ib}(hd:t.dummies= #[]){j:Г}(h:j∉t.place.toList):t.slot j= .empty:=by
 rcases Ig hd j with z|⟨i,z⟩
 ·E z
 ·V :=P0 z;rw[<-c6]at this;E absurd (b9 this) h
ЛZbm{t:ib}(hd:t.dummies= #[])(f:Г->Int)(h:Int):∀(fuel:Г) (p:Probe),p.dummy=aB->(∃n,n<fuel/\t.slot (Ws t.mask n p).j= .empty)->
  (∃n,n<fuel/\SetTable.probe.go t f h fuel p=aA (.empty (Ws t.mask n p).j aB)/\t.slot (Ws t.mask n p).j= .empty/\∀k,k<n->∃i,t.slot (Ws t.mask k p).j= .live i/\f i≠h)\/
  (∃n i,n<fuel/\SetTable.probe.go t f h fuel p=aA (.candidate (Ws t.mask n p).j i (Ws t.mask (n+1) p))/\t.slot (Ws t.mask n p).j= .live i/\f i=h/\∀k,k<n->∃i,t.slot (Ws t.mask k p).j= .live i/\f i≠h)
 |0,p,_,⟨n,hn,_⟩=>absurd hn (d6 _)
 |fuel+1,p,hp,⟨n,hn,he⟩=>by
  unfold SetTable.probe.go;rcases Ig hd p.j with hs|⟨i,hs⟩
  ·R .inl ⟨0,by W,?_,hs,λk hk=>absurd hk (d6 _)⟩;rw[hs];T aA (Met.empty p.j p.dummy)=_;rw[hp];rfl
  ·rw[hs];dsimp only;by_cases hf:f i=h
   ·R .inr ⟨0,i,by W,?_,hs,hf,λk hk=>absurd hk (d6 _)⟩;rw[Е (by simpa using hf)];rfl
   ·rw[Д (by simpa using hf),Zpu];cases n with
    |zero=>have he:t.slot p.j= .empty:=he;rw[hs]at he;C he
    |succ n=>
     V first:∀n,(∀k,k<n->∃i,t.slot (Ws t.mask k (Du t.mask p)).j= .live i/\f i≠h)->∀k,k<n+1->∃i,t.slot (Ws t.mask k p).j= .live i/\f i≠h:=λn a k hk=>by
      cases k with
      |zero=>E⟨i,hs,hf⟩
      |succ k=>E a k И
     rcases Zbm hd f h fuel (Du t.mask p) ((Zbh _ _).trans hp) ⟨n,by W,he⟩with⟨n',h1,h2,h3,h4⟩|⟨n',i',h1,h2,h3,h4,h5⟩
     ·E .inl ⟨n'+1,by W,h2,h3,first n' h4⟩
     ·E .inr ⟨n'+1,i',by W,h2,h3,h4,first n' h5⟩
МLk(m:Г)(pl:А Г)(h:Int)(j:Г):Prop:=∃n,sq m h n=j/\∀k,k<n->sq m h k∈pl
ЛLk.mono{m:Г}{pl pl':А Г}(hs:∀x∈pl,x∈pl'){h:Int}{j:Г}(l:Lk m pl h j):Lk m pl' h j:=let⟨n,a,b⟩:=l;⟨n,a,λk hk=>hs _ (b k hk)⟩
structure Tb(t:ib)(hs:А Int):В where
 dum:t.dummies= #[]
 msk:Msk t.mask
 rise:Rr t.place.toList
 le:∀j∈t.place.toList,j<=t.mask
 len:t.place.toList.length=hs.length
 room:hs.length<=t.mask
 look:∀e∈hs.zip t.place.toList,Lk t.mask t.place.toList e.1 e.2
ЛTb.fits{t:ib}{hs:А Int}(b:Tb t hs){n:Г}(hn:n=hs.length):t.fits n=aC:=by
 V h1:=b.len;V h2:=b.room;V h3:t.place.size=hs.length:=by rw[<-h1,a8]
 unfold SetTable.fits SetTable.fill;rw[b.dum,h3,hn];simp;W
ЛTb.gave{t:ib}{hs:А Int}(b:Tb t hs):t.gaveWay=aD:=by unfold SetTable.gaveWay;rcases b.msk with e|e|e<;> rw[e]<;> rfl
ЛRu{l:А Г}(h:Rr l):l.Nodup:=h.imp λz=>cj z
ЛZbn{m:Г}{pl:А Г}(nd:pl.Nodup)(hl:pl.length<=m):∃j,j<=m/\j∉pl:=by apply Classical.byContradiction;intro hn;V all:∀j,j<=m->j∈pl:=λj hj=>Classical.byContradiction λz=>hn ⟨j,hj,z⟩;V :(c8 (m+1)).length<=pl.length:=b6 List.nodup_range λj hj=>all j (by V :=cz.mp hj;W);rw[List.length_range]at this;W
ЛTb.empty{t:ib}{hs:А Int}(b:Tb t hs)(h:Int):∃n,n<10*turns t.mask/\t.slot (sq t.mask h n)= .empty:=by O⟨j,hj,hn⟩:=Zbn (Ru b.rise) (by rw[b.len];E b.room);O⟨n,h1,h2⟩:=Zt8 b.msk h hj;E⟨n,h1,by T t.slot (Ws t.mask n (Jm t.mask h)).j= .empty;rw[h2];E Ih b.dum hn⟩
ЛTb.fresh(f m:Г)(l:Bool):Tb (SetTable.fresh f m l) []:=⟨rfl,.inl rfl,List.Pairwise.nil,(λ_ z=>nomatch z),rfl,gb _,(λ_ z=>nomatch z)⟩
ЛZk2{α β:Type}(p:Г){as:А α}{bs:А β}(h:as.length=bs.length)(a:α)(b:β):(as.take p++a::as.drop p).zip (bs.take p++b::bs.drop p)=(as.zip bs).take p++(a,b)::(as.zip bs).drop p:=by rw[List.zip_append (by simp[h]),List.zip_cons_cons];simp only[List.zip_eq_zipWith,List.take_zipWith,List.drop_zipWith]
ЛTb.put{t:ib}{hs:А Int}(b:Tb t hs)(h:Int){n:Г}(he:t.slot (sq t.mask h n)= .empty)(hb:∀k,k<n->t.slot (sq t.mask h k)≠.empty)(hr:hs.length+1<=t.mask):
  Tb (t.put (sq t.mask h n)).1 (hs.take (below t.place (sq t.mask h n))++h::hs.drop (below t.place (sq t.mask h n))):=by
 V hn:t.place[SetTable.below t.place (sq t.mask h n)]?≠aA (sq t.mask h n):=λz=>by rw[Ts b.rise z]at he;C he
 V hni:=Zbl b.rise he;V hbm:∀k,k<n->sq t.mask h k∈t.place.toList:=λk hk=>Classical.byContradiction λz=>hb k hk (Ih b.dum z);V hjle:=Zha t.mask h n;V hlk:Lk t.mask t.place.toList h (sq t.mask h n):=⟨n,rfl,hbm⟩
 G sq t.mask h n=j;V hpl:(t.put j).1.place.toList=t.place.toList.take (below t.place j)++j::t.place.toList.drop (below t.place j):=SetTable.toList_insertAt _ _ _;V hsub:∀x∈t.place.toList,x∈(t.put j).1.place.toList:=λx hx=>by
  rw[hpl];rw[<-List.take_append_drop (below t.place j) t.place.toList]at hx;rcases bj.mp hx with z|z
  ·E cf _ z
  ·E bx _ (ar _ z)
 V hm:(t.put j).1.mask=t.mask:=rfl;R⟨?_,by rw[hm];E b.msk,Zgy b.rise hn,λx hx=>?_,?_,?_,λe he'=>?_⟩
 ·show(if has t.dummies j then _ else t.dummies)= #[];rw[b.dum,Zba];rfl
 ·rw[hm];rw[hpl]at hx;rcases bj.mp hx with z|z
  ·E b.le x (List.mem_of_mem_take z)
  ·rcases bu.mp z with z|z
   ·rw[z];E hjle
   ·E b.le x (List.mem_of_mem_drop z)
 ·rw[hpl];V :=b.len;simp only[az,List.length_take,bf,List.length_drop];W
 ·rw[hm];simp only[az,List.length_take,bf,List.length_drop];W
 ·rw[hpl,Zk2 _ b.len.symm]at he';rw[hm];rcases bj.mp he' with z|z
  ·E(b.look e (List.mem_of_mem_take z)).mono hsub
  ·rcases bu.mp z with z|z
   ·rw[z];E hlk.mono hsub
   ·E(b.look e (List.mem_of_mem_drop z)).mono hsub
ЛTb.plainOff{t:ib}{hs:А Int}(b:Tb t hs):Tb {t with plain:=aD} hs:=⟨b.dum,b.msk,b.rise,b.le,b.len,b.room,b.look⟩
end TT
namespace TT
open PySem PySem.SetTable SX
МOw(owner:Array (Б Г))(j:Г):Prop:=(owner.getD j (aA 0)).isNone=aD
ЛLw{m:Г}{owner:Array (Б Г)}:∀(fuel i q:Г),(∃c,c<fuel/\¬Ow owner (Up m c (i,q)).1)->
  ∃n,layClean.free m owner fuel i q=aA (Ws m n (Mr m i q)).j/\¬Ow owner (Ws m n (Mr m i q)).j/\∀k,k<n->Ow owner (Ws m k (Mr m i q)).j
 |0,i,q,⟨c,hc,_⟩=>absurd hc (d6 _)
 |fuel+1,i,q,⟨c,hc,hn⟩=>by
  unfold layClean.free;cases hf:(c8 (runEnd m i+1- i)).find? λk=>(owner.getD (i+k) (aA 0)).isNone with
  |some k=>
   V hk:=List.find?_range_eq_some.mp hf;V hr:=Pz m i;V hkl:k<=runEnd m i- i:=by V :=cz.mp hk.2.1;W
   R⟨k,?_,?_,λk' hk'=>?_⟩
   ·rw[U4 hkl]
   ·rw[U4 hkl];intro z;unfold Ow at z;dsimp only at z;rw[hk.1]at z;C z
   ·rw[U4 И];V :=hk.2.2 k' hk';unfold Ow;dsimp only;simpa using this
  |none=>
   V hall:=List.find?_eq_none.mp hf;V hr:=Pz m i;V own:∀k,k<=runEnd m i- i->Ow owner (i+k):=λk hk=>by
    V :=hall k (cz.mpr И);unfold Ow;cases z:(owner.getD (i+k) (aA 0)).isNone with
    |false=>rfl
    |true=>E absurd z this
   cases c with
   |zero=>E absurd (own 0 (gb _)) hn
   |succ c=>
    O⟨n,h1,h2,h3⟩:=Lw fuel (leap m i q).1 (leap m i q).2 ⟨c,by W,hn⟩;R⟨runEnd m i- i+1+n,?_,?_,λk hk=>?_⟩
    ·rw[Q9,B9];E h1
    ·rw[Q9,B9];E h2
    ·by_cases hk2:k<=runEnd m i- i
     ·rw[U4 hk2];E own k hk2
     ·V e:k=runEnd m i- i+1+(k- (runEnd m i- i+1)):=by W
      rw[e,Q9,B9];E h3 _ И
structure Ly(m:Г)(hs:А Int)(owner:Array (Б Г))(js:А Г):В where
 size:owner.size=m+1
 len:js.length=hs.length
 nd:js.Nodup
 le:∀j∈js,j<=m
 own:∀j k,j<=m->(owner.getD j aB=aA k↔js[k]? =aA j)
 look:∀e∈hs.zip js,Lk m js e.1 e.2
ЛLy.ow{m:Г}{hs:А Int}{owner:Array (Б Г)}{js:А Г}(l:Ly m hs owner js){j:Г}(hj:j<=m):Ow owner j↔j∈js:=by
 V hs:j<owner.size:=by rw[l.size];W
 V e1:owner.getD j (aA 0)=owner[j]:=by simp[Array.getD,hs]
 V e2:owner.getD j aB=owner[j]:=by simp[Array.getD,hs]
 unfold Ow;rw[e1];constructor
 ·intro h;cases z:owner[j]with
  |none=>rw[z]at h;C h
  |some k=>E b9 ((l.own j k hj).mp (by rw[e2];E z))
 ·intro h;O⟨k,hk,e⟩:=f9 h;V :=(l.own j k hj).mpr (ay.mpr ⟨hk,e⟩);rw[e2]at this;rw[this];rfl
ЛLy.nil(m:Г):Ly m [] (Array.replicate (m+1) aB) []:=by
 R⟨by simp,rfl,cx,(λ_ z=>nomatch z),λj k hj=>?_,(λ_ z=>nomatch z)⟩;V :(Array.replicate (m+1) (aB:Б Г)).getD j aB=aB:=by simp[Array.getD]
 rw[this];simp
ЛLy.step{m:Г}{hs:А Int}{owner:Array (Б Г)}{js:А Г}(hm:Msk m)(l:Ly m hs owner js)(hl:hs.length<=m)(h:Int):
  ∃j,layClean.free m owner (turns m) (bits h % (m+1)) (bits h)=aA j/\Ly m (hs++[h]) (owner.setIfInBounds j (aA hs.length)) (js++[j]):=by
 O⟨j0,hj0,hn0⟩:=Zbn l.nd (by rw[l.len];E hl);O⟨c,hc,e⟩:=Zna (q:=bits h) hm (Nat.le_of_lt_succ (Nat.mod_lt (bits h) (Nat.succ_pos m))) (Zbj h) hj0;O⟨n,h1,h2,h3⟩:=Lw (m:=m) (owner:=owner) (turns m) (bits h % (m+1)) (bits h) ⟨c,hc,by rw[e,l.ow hj0];E hn0⟩;V hle:=Zha m h n;V hlk:Lk m js h (sq m h n):=⟨n,rfl,λk hk=>(l.ow (Zha m h k)).mp (h3 k hk)⟩
 V hnj:sq m h n∉js:=λz=>h2 ((l.ow hle).mpr z);R⟨sq m h n,h1,?_⟩;G sq m h n=j;V hsz:j<owner.size:=by rw[l.size];W
 R⟨by simp[l.size],by simp[l.len],c9.mpr ⟨l.nd,by simp,λa ha b hb=>?_⟩,λx hx=>?_,λx k hx=>?_,λe he=>?_⟩
 ·rw[au.mp hb];E λz=>hnj (z▸ha)
 ·rcases bj.mp hx with z|z
  ·E l.le x z
  ·rw[au.mp z];E hle
 ·by_cases hxj:x=j
  ·subst hxj;V :(owner.setIfInBounds x (aA hs.length)).getD x aB=aA hs.length:=by simp[Array.getD,hsz]
   rw[this];constructor
   ·intro z;C z;rw[<-l.len];simp
   ·intro z;by_cases hk:k<js.length
    ·rw[dn hk]at z;E absurd (b9 z) hnj
    ·V hk2:=(ay.mp z).1;rw[az,fq]at hk2;rw[<-l.len,show k=js.length by W]
  ·V hxs:x<owner.size:=by rw[l.size];W
   V :(owner.setIfInBounds j (aA hs.length)).getD x aB=owner.getD x aB:=by simp[Array.getD,hxs,Array.getElem_setIfInBounds,Ne.symm hxj]
   rw[this,l.own x k hx];by_cases hk:k<js.length
   ·rw[dn hk]
   ·rw[d5 И];constructor
    ·intro z;C z
    ·intro z;V hk2:=(ay.mp z).1;rw[az,fq]at hk2;V :k=js.length:=by W
     subst this;rw[gm (a6 _)]at z;simp at z;E absurd z.symm hxj
 ·rw[List.zip_append l.len.symm]at he;rcases bj.mp he with z|z
  ·E(l.look e z).mono λx hx=>cf _ hx
  ·simp at z;rw[z];E hlk.mono λx hx=>cf _ hx
ЛZbo{m:Г}(hm:Msk m):∀(rest hs:А Int) (owner:Array (Б Г)) (js:А Г),Ly m hs owner js->hs.length+rest.length<=m+1->
  ∃owner' js',rest.foldl (λ(acc:Б (Array (Б Г)×Г)) h=>do
   let(owner,k)<-acc;let j<-layClean.free m owner (turns m) (bits h % (m+1)) (bits h)
   pure (owner.setIfInBounds j (aA k),k+1)) (aA (owner,hs.length))=aA (owner',(hs++rest).length)/\Ly m (hs++rest) owner' js'
 | [],hs,owner,js,l,_=>⟨owner,js,by simp,by simpa using l⟩
 |h::rest,hs,owner,js,l,hl=>by
  O⟨j,e,l2⟩:=l.step hm (by simp only[bf]at hl;W) h;O⟨owner',js',e2,l3⟩:=Zbo hm rest (hs++[h]) _ _ l2 (by simp only[az,bf,List.length_nil]at hl⊢;W);R⟨owner',js',?_,by simpa using l3⟩;rw[List.foldl_cons];V z:(do
   let(owner,k)<-(aA (owner,hs.length):Б (Array (Б Г)×Г));let j<-layClean.free m owner (turns m) (bits h % (m+1)) (bits h)
   pure (owner.setIfInBounds j (aA k),k+1))=aA (owner.setIfInBounds j (aA hs.length),(hs++[h]).length):=by
   show(layClean.free m owner (turns m) (bits h % (m+1)) (bits h) >>=λj=>pure (owner.setIfInBounds j (aA hs.length),hs.length+1))=_;rw[e];simp
  rw[z,e2];simp
ЛZdk{t:ib}{es:Array (Int×am)}{wanted:Г}(hm:Msk (sizeAbove wanted- 1))(hl:es.size<=sizeAbove wanted- 1):
  ∃t' order,t.relaid (es.map λ(e:Int×am)=>e.1) wanted=aA (t',order)/\t'.led=t.led/\(order.filterMap λi=>es[i]?).toList.Perm es.toList/\Tb t' ((order.filterMap λi=>es[i]?).toList.map λ(e:Int×am)=>e.1):=by
 unfold SetTable.relaid SetTable.laid SetTable.layClean;G sizeAbove wanted- 1=m;V hsl:(es.map (·.1)).toList.length=es.size:=by simp
 O⟨owner,js,e,l⟩:=Zbo hm (es.map λe=>e.1).toList [] _ [] (Ly.nil m) (by rw[hsl];simp;W);rw[<-Array.foldl_toList];V e:((es.map (·.1)).toList.foldl (λ(acc:Б (Array (Б Г)×Г)) h=>do
   let(owner,k)<-acc;let j<-layClean.free m owner (turns m) (bits h % (m+1)) (bits h)
   pure (owner.setIfInBounds j (aA k),k+1)) (aA (Array.replicate (m+1) aB,0)))=aA (owner,(([]:А Int)++(es.map λ(e:Int×am)=>e.1).toList).length):=e
 rw[e];rw[dq]at l;V jl:js.length=es.size:=by rw[l.len,hsl]
 generalize hlive:((c8 (m+1)).filterMap λj=>(owner.getD j aB).map (j,·))=live;V mem:∀j k,(j,k)∈live↔j<=m/\js[k]? =aA j:=λj k=>by
  rw[<-hlive,List.mem_filterMap];constructor
  ·rintro⟨j',hj',z⟩;O⟨k',z1,z2⟩:=c7.mp z;C z2;V hj:j<=m:=by V :=cz.mp hj';W
   E⟨hj,(l.own j k hj).mp z1⟩
  ·rintro⟨hj,z⟩;E⟨j,cz.mpr И,by rw[(l.own j k hj).mpr z];rfl⟩
 V rise:Rr (live.map (·.1)):=by rw[<-hlive];unfold Rr;rw[cu];R List.Pairwise.filterMap _ (λa b hab c hc d hd=>?_) List.pairwise_lt_range;O⟨_,_,rfl⟩:=c7.mp hc;O⟨_,_,rfl⟩:=c7.mp hd;E hab
 V pmem:∀x,x∈live.map (·.1)↔x∈js:=λx=>by
  rw[aw];constructor
  ·rintro⟨⟨j,k⟩,hp,rfl⟩;E b9 ((mem j k).mp hp).2
  ·intro hx;O⟨k,hk,e⟩:=f9 hx;E⟨(x,k),(mem x k).mpr ⟨l.le x hx,ay.mpr ⟨hk,e⟩⟩,rfl⟩
 V plen:live.length=es.size:=by V p:(live.map (·.1)).Perm js:=(List.perm_ext_iff_of_nodup (Ru rise) l.nd).mpr pmem;V :=p.length_eq;rw[aj]at this;W
 V ond:(live.map (·.2)).Nodup:=by V K9:live.Pairwise λa b=>a.1≠b.1:=cu.mp (Ru rise);R cu.mpr (List.Pairwise.imp_of_mem (fun{a b} ha hb hab z=>?_) K9);O⟨j1,k1⟩:=a;O⟨j2,k2⟩:=b;simp only at z hab;subst z;V z1:=((mem j1 k1).mp ha).2;V z2:=((mem j2 k1).mp hb).2;rw[z1]at z2;E hab (dk.inj z2)
 V operm:(live.map (·.2)).Perm (c8 es.size):=by
  R(List.perm_ext_iff_of_nodup ond List.nodup_range).mpr λk=>?_;rw[aw,cz];constructor
  ·rintro⟨⟨j,k⟩,hp,rfl⟩;V :=(ay.mp ((mem j k).mp hp).2).1;W
  ·intro hk;V hk':k<js.length:=by W
   E⟨(js[k],k),(mem _ _).mpr ⟨l.le _ (List.getElem_mem hk'),ax hk'⟩,rfl⟩
 R⟨{mask:=m,place:=(live.map (·.1)).toArray,dummies:= #[],finger:=t.finger,led:=t.led,moves:=t.movedTo m,plain:=t.plain},(live.map (·.2)).toArray,by rw[<-hlive];rfl,rfl,?_,?_⟩
 ·rw[Array.toList_filterMap];E(operm.filterMap _).trans (by rw[filterMap_getElem?_range])
 ·V ge:∀p∈live,∃v,es[p.2]? =aA v:=λp hp=>by V :=cz.mp (operm.mem_iff.mp (aw.mpr ⟨p,hp,rfl⟩));E⟨es[p.2],by simp[this]⟩
  V fm:∀l:А (Г×Г),(∀p∈l,∃v,es[p.2]? =aA v)->(l.map (·.2)).filterMap (λi=>es[i]?)=l.map λp=>es.getD p.2 (0,cm):=by
   intro l;induction l with
   |nil=>intro _;rfl
   |cons p l ih=>intro h;O⟨v,hv⟩:=h p ag;V hv2:=gn.mp hv;rw[a7,List.filterMap_cons_some hv,ih λq hq=>h q (ar _ hq),a7];congr 1;simp only[Array.getD,hv2.1,↓reduceDIte];E hv2.2.symm
  V el:(((live.map (·.2)).toArray.filterMap λi=>es[i]?).toList.map λ(e:Int×am)=>e.1)=live.map λp=>(es.getD p.2 (0,cm)).1:=by rw[Array.toList_filterMap,List.toList_toArray,fm live ge,bo];rfl
  rw[el];R⟨rfl,hm,by simpa using rise,λj hj=>?_,?_,?_,λe he=>?_⟩
  ·E l.le j ((pmem j).mp (by simpa using hj))
  ·simp
  ·rw[aj,plen];E hl
  ·V :e∈(live.map λp=>(es.getD p.2 (0,cm)).1).zip (live.map (·.1)):=by simpa using he
   rw[List.zip_map']at this;O⟨⟨j,k⟩,hp,rfl⟩:=aw.mp this;O⟨hj,hk⟩:=(mem j k).mp hp;V hkl:=(ay.mp hk).1;V hke:k<es.size:=by W
   V hz:((es.getD k (0,cm)).1,j)∈(es.map (·.1)).toList.zip js:=by rw[List.mem_iff_getElem?];R⟨k,?_⟩;rw[List.getElem?_zip_eq_some];R⟨?_,hk⟩;simp[hke,Array.getD]
   V lk:=l.look _ hz;T Lk m _ _ _;R lk.mono λx hx=>?_;V :=(pmem x).mpr hx;simpa using this
end TT
namespace TT
open PySem PySem.SetTable PySem.Spec PyProof.Rows SX L2
section
variable{prog:b5}{w:da}{A:dg}{E:am->ao->В}{s:ao}
ЛZbp(n:Г){v:am}(h:carriedByValue v=aC):ofAClassStatement n v=pure aD:=by
 cases v with
 |ref a=>simp[carriedByValue]at h
 |_=>first|rfl| (unfold ofAClassStatement;rfl)
ЛXa{m:Г}{ks:А Key}{a:aq}{Q:Bool->ao->В}(hk:IsTupleKey (Zp prog w) s.heap ks a)(h:Q aD s):bc (b4 prog w) A (ofAClassStatement (m+1) (.ref a)) Q E s:=by
 V hT:=hk.typeIs;O⟨o,items,n,ho,_,hd,hi⟩:=hk;unfold ofAClassStatement;R ad (wpAny_typeOf hT ?_);dsimp only;rw[Е Й];R ad (ah ?_);simp only[gh,bq,if_false];R ad (wpAny_seqItems ho hd ?_);dsimp only;R ad ?_;rw[<-Array.forIn_toList];R wpAny_forIn_list _ (λrest r s'=>r.1=aB/\s'=s/\∀v∈rest,carriedByValue v=aC) _ ?_ ?_ _ _ ⟨rfl,rfl,hi.byValue⟩
 ·rintro v rest r s' ⟨hr,rfl,hall⟩;rw[Zbp _ (hall v ag)];R ad (ah ?_);simp only[bq,if_false];E ah ⟨rfl,rfl,λu hu'=>hall u (ar _ hu')⟩
 ·rintro⟨r1,r2⟩ s' ⟨hr,rfl,_⟩;simp only at hr;subst hr;E ah h
ЛZnb{k:Zl}{a:aq}{Q:Bool->ao->В}(hk:O9 prog w s.heap k a)(h:Q aD s):bc (b4 prog w) A (ofAClassStatement 8 (.ref a)) Q E s:=by
 cases k with
 |inl l=>E Xa hk h
 |inr p=>have hT:=hk.typeIs;O⟨n,l⟩:=p;O⟨o,items,m,t,b,ho,_,hd,hi,hb⟩:=hk;unfold ofAClassStatement;R ad (wpAny_typeOf hT ?_);dsimp only;rw[Е Й];R ad (ah ?_);simp only[gh,bq,if_false];R ad (wpAny_seqItems ho hd ?_);dsimp only;R ad ?_;rw[<-Array.forIn_toList,hi];simp only[List.forIn_cons,List.forIn_nil];rw[Zbp _ (v:=Value.int n t) rfl];R ad (ad (ah ?_));simp only[bq,if_false];R ah ?_;dsimp only;R ad (ad (Xa hb ?_));simp only[bq,if_false];E ah (ah (ah h))
ЛZk3(n:Г){v:am}(h:carriedByValue v=aC):∃b,hashByValue n v=pure b:=by
 cases v with
 |ref a=>simp[carriedByValue]at h
 |_=>unfold hashByValue;E⟨_,rfl⟩
ЛXb{m:Г}{ks:А Key}{a:aq}{Q:Bool->ao->В}(hk:IsTupleKey (Zp prog w) s.heap ks a)(h:∀b,Q b s):bc (b4 prog w) A (hashByValue (m+1) (.ref a)) Q E s:=by
 V hT:=hk.typeIs;O⟨o,items,n,ho,_,hd,hi⟩:=hk;unfold hashByValue;R ad (wpAny_specialOf hT F.slot_tuple_hash.lookup ?_);R ad (wpAny_seqItems ho hd ?_);R ad ?_;T bc _ _ (forIn items _ _) _ _ s;rw[<-Array.forIn_toList];R wpAny_forIn_list _ (λrest r s'=>r.1=aB/\s'=s/\∀v∈rest,carriedByValue v=aC) _ ?_ ?_ _ _ ⟨rfl,rfl,hi.byValue⟩
 ·rintro v rest r s' ⟨hr,rfl,hall⟩;O⟨b,hb⟩:=Zk3 m (hall v ag);rw[hb];R ad (ah ?_);cases b with
  |true=>simp only[gh,bq,if_false];E ah ⟨rfl,rfl,λu hu'=>hall u (ar _ hu')⟩
  |false=>simp only[Bool.not_false,if_true];E ah (ah (h _))
 ·rintro⟨r1,r2⟩ s' ⟨hr,rfl,_⟩;simp only at hr;subst hr;E ah (h _)
ЛZt9{k:Zl}{a:aq}{Q:Bool->ao->В}(hk:O9 prog w s.heap k a)(h:∀b,Q b s):bc (b4 prog w) A (hashByValue 8 (.ref a)) Q E s:=by
 cases k with
 |inl l=>E Xb hk h
 |inr p=>
  V hT:=hk.typeIs;O⟨n,l⟩:=p;O⟨o,items,m,t,b,ho,_,hd,hi,hb⟩:=hk;unfold hashByValue;R ad (wpAny_specialOf hT F.slot_tuple_hash.lookup ?_);R ad (wpAny_seqItems ho hd ?_);R ad ?_;T bc _ _ (forIn items _ _) _ _ s;rw[<-Array.forIn_toList,hi];simp only[List.forIn_cons,List.forIn_nil];V e:hashByValue 7 (Value.int n t)=pure aC:=by unfold hashByValue;rfl
  rw[e];R ad (ad (ah ?_));simp only[gh,bq,if_false];R ah ?_;dsimp only;R ad (ad (Xb hb λbb=>?_));cases bb with
  |true=>simp only[gh,bq,if_false];E ah (ah (ah (h _)))
  |false=>simp only[Bool.not_false,if_true];E ah (ah (ah (h _)))
ЛZpw{k:Zl}{a:aq}{Q:Bool->ao->В}(hk:O9 prog w s.heap k a){ys:А am}(hy:∀v∈ys,∃k' b,v= .ref b/\O9 prog w s.heap k' b)(h:Q aD s):bc (b4 prog w) A (searchCouldBeSeen (.ref a) ys) Q E s:=by
 unfold searchCouldBeSeen;R ad ?_;R wpAny_forIn_list _ (λrest r s'=>r.1=aB/\s'=s/\∀v∈rest,∃k' b,v= .ref b/\O9 prog w s.heap k' b) _ ?_ ?_ _ _ ⟨rfl,rfl,hy⟩
 ·rintro v rest r s' ⟨hr,rfl,hall⟩;O⟨k',b,rfl,hb⟩:=hall v ag;V go:∀u∈rest,∃k' b,u= .ref b/\O9 prog w s'.heap k' b:=λu hu=>hall u (ar _ hu);dsimp only;by_cases hab:(a==b|| (carriedByValue (.ref a)&&carriedByValue (.ref b)))=aC
  ·rw[Е hab];E ah ⟨rfl,rfl,go⟩
  ·rw[Д hab];R ad (Ny hk ?_);simp only[gh,bq,if_false];R ad (Ny hb ?_);simp only[gh,bq,if_false];R ad (Znb hk ?_);simp only[bq,if_false];R ad (Znb hb ?_);simp only[bq,if_false];E ah ⟨rfl,rfl,go⟩
 ·rintro⟨r1,r2⟩ s' ⟨hr,rfl,_⟩;simp only at hr;subst hr;E ah h
ЛZdl{α:Type}{c:В}[Decidable c]{m:Sem Bool}{X K:Sem α}{Q:α->ao->В}(hm:∀Q':Bool->ao->В,Q' aD s->bc (b4 prog w) A m Q' E s)(hK:bc (b4 prog w) A K Q E s):
  bc (b4 prog w) A (if c then m >>=λr=>if r=aC then X else K else K) Q E s:=by
 split
 ·R ad (hm _ ?_);simp only[bq,if_false];E hK
 ·E hK
аent(prog:b5)(w:da)(z:Zl×aq):Int×Value:=(Yh prog w z.1,bz z.2)
variable{a b:aq}{o:Obj}{es:Array (Int×am)}{ep:Г}{t:ib}{zs:А (Zl×aq)}{k:Zl}
ЛZhb(he:es.toList=zs.map (ent prog w))(i:Г):es[i]? =(zs[i]?).map (ent prog w):=by rw[<-c6,he,a9]
ЛZpx(he:es.toList=zs.map (ent prog w))(tb:Tb t (es.toList.map (·.1))){i:Г}{z:Zl×aq}(hz:zs[i]? =aA z):∃n,t.slot (sq t.mask (Yh prog w z.1) n)= .live i/\∀k,k<n->t.slot (sq t.mask (Yh prog w z.1) k)≠.empty:=by
 V hl:zs.length=t.place.toList.length:=by rw[tb.len,he,aj,aj]
 V hi:i<zs.length:=(ay.mp hz).1;V hp:t.place.toList[i]? =aA (t.place.toList[i]'И):=ax _;V hh:(es.toList.map (·.1))[i]? =aA (Yh prog w z.1):=by rw[he,a9,a9,hz];rfl
 O⟨n,e1,e2⟩:=tb.look (Yh prog w z.1,t.place.toList[i]'И) (List.mem_iff_getElem?.mpr ⟨i,List.getElem?_zip_eq_some.mpr ⟨hh,hp⟩⟩);R⟨n,?_,λk hk=>?_⟩
 ·R Ts tb.rise ?_;rw[<-c6,hp];E congrArg aA e1.symm
 ·V :=e2 k hk;intro z;E Zbl tb.rise z this
ЛZbq(hu:A.units+1<f7)(hk:O9 prog w s.heap k b)(ho:s.heap.get? a=aA o)(hd:o.data= .set es ep t)(he:es.toList=zs.map (ent prog w))(his:∀z∈zs,O9 prog w s.heap z.1 z.2)(tb:Tb t (es.toList.map (·.1))){N:Г}(hN:N<10*turns t.mask)(hE:t.slot (sq t.mask (Yh prog w k) N)= .empty){Q:SetFound->ao->В}
  (hfound:k∈zs.map (·.1)->∀r,Q (.there r) s) (hfree:∀n,k∉zs.map (·.1)->t.slot (sq t.mask (Yh prog w k) n)= .empty->(∀j,j<n->t.slot (sq t.mask (Yh prog w k) j)≠.empty)->Q (.free (sq t.mask (Yh prog w k) n) aD) s):
  ∀(fuel n:Г) (st:Б Probe),st.getD (t.probeStart (Yh prog w k))=Ws t.mask n (Jm t.mask (Yh prog w k))->n<=N->N<n+fuel->(∀j,j<n->∃i z,t.slot (sq t.mask (Yh prog w k) j)= .live i/\zs[i]? =aA z/\z.1≠k)->
   bc (b4 prog w) A (setSearchFrom a (.ref b) (Yh prog w k) aC fuel st) Q E s
 |0,n,st,_,h1,h2,_=>by W
 |fuel+1,n,st,hst,h1,h2,hb=>by
  V hfit:t.fits es.size=aC:=tb.fits К;unfold setSearchFrom;R ad (wpAny_setState_of ho hd hfit ?_);dsimp only;rw[tb.gave];simp only[bq,if_false];rw[hst];V hj:∀j,(Ws t.mask j (Ws t.mask n (Jm t.mask (Yh prog w k)))).j=sq t.mask (Yh prog w k) (n+j):=λj=>by rw[<-Q9]
  unfold SetTable.probe;rcases Zbm tb.dum (λi=>(es[i]?.map (·.1)).getD 0) (Yh prog w k) (10*turns t.mask) (Ws t.mask n (Jm t.mask (Yh prog w k))) ((V8 _ _ _).trans rfl) ⟨N- n,by W,by rw[hj,show n+(N- n)=N by W];E hE⟩with⟨m,g1,g2,g3,g4⟩|⟨m,i,g1,g2,g3,g4,g5⟩
  ·V key:∀f:Г->Int,f=(λi=>(es[i]?.map (·.1)).getD 0)->SetTable.probe.go t f (Yh prog w k) (10*turns t.mask) (Ws t.mask n (Jm t.mask (Yh prog w k)))=aA (.empty (Ws t.mask m (Ws t.mask n (Jm t.mask (Yh prog w k)))).j aB):=λf hf=>by rw[hf];E g2
   rw[key]
   case a=>rfl
   dsimp only;rw[hj]at g3⊢;R ah (hfree (n+m) ?_ g3 λj hjm=>?_)
   ·intro hin;O⟨z,hz,ez⟩:=aw.mp hin;O⟨i0,hi0,e0⟩:=f9 hz;V hz0:zs[i0]? =aA z:=ay.mpr ⟨hi0,e0⟩;O⟨n0,q1,q2⟩:=Zpx he tb hz0;rw[ez]at q1 q2;rcases Nat.lt_trichotomy n0 (n+m)with c|c|c
    ·rcases d4 n0 n with c'|c'
     ·O⟨i,z',w1,w2,w3⟩:=hb n0 c';rw[q1]at w1;C w1;rw[hz0]at w2;C w2;E w3 ez
     ·O⟨i,w1,w2⟩:=g4 (n0- n) И;rw[hj,show n+(n0- n)=n0 by W,q1]at w1;C w1;apply w2;show(es[i0]?.map (·.1)).getD 0=_;rw[Zhb he,hz0,<-ez];rfl
    ·rw[<-c,q1]at g3;C g3
    ·E q2 _ c g3
   ·rcases d4 j n with c|c
    ·O⟨i,z',w1,_⟩:=hb j c;rw[w1];E λz=>nomatch z
    ·O⟨i,w1,_⟩:=g4 (j- n) И;rw[hj,show n+(j- n)=j by W]at w1;rw[w1];E λz=>nomatch z
  ·V key:∀f:Г->Int,f=(λi=>(es[i]?.map (·.1)).getD 0)->SetTable.probe.go t f (Yh prog w k) (10*turns t.mask) (Ws t.mask n (Jm t.mask (Yh prog w k)))=aA (.candidate (Ws t.mask m (Ws t.mask n (Jm t.mask (Yh prog w k)))).j i (Ws t.mask (m+1) (Ws t.mask n (Jm t.mask (Yh prog w k))))):=λf hf=>by rw[hf];E g2
   rw[key]
   case a=>rfl
   dsimp only;V hp:=P0 g3;V hil:i<zs.length:=by V :=(gn.mp hp).1;V l:=tb.len;rw[he,aj,aj,a8]at l;W
   V hz0:zs[i]? =aA zs[i]:=ax hil;V hzi:=his zs[i] (List.getElem_mem hil);generalize zs[i]=z at hz0 hzi;V hes:es[i]? =aA (Yh prog w z.1,bz z.2):=by rw[Zhb he,hz0];rfl
   R Zdl (λQ' q=>Zpw hk (λv hv=>?_) q) ?_
   ·O⟨e,hem,rfl⟩:=aw.mp hv;V :e∈es.toList:=by V :=Array.mem_toList_iff.mp hem;E Array.mem_toList_iff.mpr (Array.mem_filter.mp this).1
    rw[he]at this;O⟨z',hz',rfl⟩:=aw.mp this;E⟨z'.1,z'.2,rfl,his z' hz'⟩
   rw[hes];dsimp only;R ad (wpAny_holding (Zqw hu hzi hk ?_));R ad (wpAny_setState_of ho hd hfit ?_);dsimp only;by_cases hzk:z.1=k
   ·rw[decide_eq_true hzk];simp only[Bool.and_self,if_true];E ah (hfound (aw.mpr ⟨z,b9 hz0,hzk⟩) _)
   ·rw[Ж hzk];simp only[Bool.and_false,bq,if_false];V hsm:t.sameMemory t.moves t.mask=aA aC:=by unfold SetTable.sameMemory;simp
    rw[hsm];simp only[if_true];rw[g3];dsimp only;rw[hes];dsimp only;R ad (wpAny_isSame_ref_self ?_);simp only[if_true];R ad (ah ?_);dsimp only;V hNle:n+m+1<=N:=by
     V :¬N<=n+m:=λc=>by
      rcases Nat.lt_or_eq_of_le c with c|c
      ·rcases d4 N n with c'|c'
       ·W
       ·O⟨i',w1,_⟩:=g5 (N- n) И;rw[hj,show n+(N- n)=N by W,hE]at w1;C w1
      ·rw[hj,<-c,hE]at g3;C g3
     W
    R Zbq hu hk ho hd he his tb hN hE hfound hfree fuel (n+m+1) _ ?_ hNle И λj hjm=>?_
    ·T Ws t.mask (m+1) (Ws t.mask n (Jm t.mask (Yh prog w k)))=_;rw[<-Q9,<-Nat.add_assoc]
    ·rcases d4 j n with c|c
     ·E hb j c
     ·rcases d4 j (n+m)with c'|c'
      ·O⟨i',w1,w2⟩:=g5 (j- n) И;rw[hj,show n+(j- n)=j by W]at w1;V hp':=P0 w1;V hil':i'<zs.length:=by V :=(gn.mp hp').1;V l:=tb.len;rw[he,aj,aj,a8]at l;W
       R⟨i',zs[i'],w1,ax hil',λzz=>w2 ?_⟩;show(es[i']?.map (·.1)).getD 0=_;rw[Zhb he,ax hil',<-zz];rfl
      ·V :j=n+m:=by W
       subst this;rw[hj]at g3;E⟨i,z,g3,hz0,hzk⟩
end
end TT
namespace TT
open PySem PySem.SetTable PySem.Spec PyProof.Rows SX L2
МAh(prog:b5)(w:da)(B:Bool)(h:eh)(o:Obj)(xs:А (Zl×aq)):Prop:=
 ∃(es:Array (Int×am)) (ep:Г) (t:ib) (zs:А (Zl×aq)),o.ExactSet/\o.data= .set es ep t/\es.toList=zs.map (ent prog w)/\zs.Perm xs/\(xs.map (·.1)).Nodup/\(∀z∈xs,O9 prog w h z.1 z.2)/\Tb t (es.toList.map (·.1))/\t.led= !B/\es.size*5<t.mask*3
МRv(xs:А (Zl×aq))(k:Zl)(b:aq):А (Zl×aq):=if(xs.any λz=>decide (z.1=k))=aC then xs else xs++[(k,b)]
ЛMi{xs:А (Zl×aq)}{k:Zl}:(xs.any λz=>decide (z.1=k))=aC↔k∈xs.map (·.1):=by
 rw[List.any_eq_true,aw];constructor
 ·rintro⟨z,hz,e⟩;E⟨z,hz,of_decide_eq_true e⟩
 ·rintro⟨z,hz,e⟩;E⟨z,hz,decide_eq_true e⟩
section
variable{prog:b5}{w:da}{A:dg}{E:am->ao->В}{s:ao}
ЛO9.but{h h':eh}{k:Zl}{a d:aq}{o:Obj}{es:Array (Int×am)}{ep:Г}{t:ib}(x:O9 prog w h k a)(ho:h.get? d=aA o)(hd:o.data= .set es ep t)(hs:∀b u,b≠d->h.get? b=aA u->h'.get? b=aA u):O9 prog w h' k a:=by
 V ne:∀{c:aq} {u:Obj} {its n},h.get? c=aA u->u.data= .seq its n->c≠d:=fun{c u its n} e1 e2 z=>by subst z;rw[ho]at e1;C e1;rw[hd]at e2;C e2
 cases k with
 |inl l=>O⟨u,its,n,e,c,d',r⟩:=x;E⟨u,its,n,hs _ _ (ne e d') e,c,d',r⟩
 |inr p=>O⟨u,its,n,tt,b,e,c,d',ei,⟨u2,i2,n2,e2,c2,d2,r2⟩⟩:=x;E⟨u,its,n,tt,b,hs _ _ (ne e d') e,c,d',ei,u2,i2,n2,hs _ _ (ne e2 d2) e2,c2,d2,r2⟩
ЛMs{α β:Type}{f:α->β}{l:А β}{m:А β}(p:l.Perm m):∀zs:А α,m=zs.map f->∃l':А α,l'.Perm zs/\l=l'.map f:=by
 induction p with
 |nil=>intro zs e;cases zs with
  |nil=>E⟨[],List.Perm.nil,rfl⟩
  |cons z zs=>C e
 | @cons x l1 l2 _ ih=>intro zs e;cases zs with
  |nil=>C e
  |cons z zs=>injection e with e1 e2;O⟨l',p',e'⟩:=ih zs e2;E⟨z::l',p'.cons z,by rw[a7,e1,e']⟩
 |swap x y l=>intro zs e;cases zs with
  |nil=>C e
  |cons z zs=>cases zs with
   |nil=>C e
   |cons z2 zs=>injection e with e1 e2;injection e2 with e2 e3;E⟨z2::z::zs,List.Perm.swap z z2 zs,by rw[a7,a7,e1,e2,e3]⟩
 |trans _ _ ih1 ih2=>intro zs e;O⟨l2,p2,e2⟩:=ih2 zs e;O⟨l3,p3,e3⟩:=ih1 l2 e2;E⟨l3,p3.trans p2,e3⟩
ЛZy4{B:Bool}{a b:aq}{o:Obj}{xs:А (Zl×aq)}{k:Zl}{Q:Bool->ao->В}(hu:A.units+1<f7)(ho:s.heap.get? a=aA o)(hO:Ah prog w B s.heap o xs)(hk:O9 prog w s.heap k b)(hr:xs.length+1<=76)
  (h:∀h' o' r,ic a s.heap h'->h'.get? a=aA o'->Ah prog w B h' o' (Rv xs k b)->Q r {s with heap:=h'}):
  bc (b4 prog w) A (setAddHashed a (.ref b) (Yh prog w k)) Q E s:=by
 O⟨es,ep,t,zs,hx,hd,he,pm,nd,his,tb,hled,hroom⟩:=hO;V hisz:∀z∈zs,O9 prog w s.heap z.1 z.2:=λz hz=>his z (pm.mem_iff.mp hz);V hfit:t.fits es.size=aC:=tb.fits К;V zl:zs.length=es.size:=by rw[<-a8,he,aj]
 V xl:xs.length=es.size:=by rw[<-pm.length_eq,zl]
 V kz:k∈zs.map (·.1)↔k∈xs.map (·.1):=(pm.map _).mem_iff;unfold setAddHashed;R wpAny_holding ?_;unfold setAddHashedIn;R ad (wpAny_setState_of ho hd hfit ?_);dsimp only;rw[show byScan (bz b) es=aD from rfl];simp only[bq,if_false];O⟨N,hN,hE⟩:=tb.empty (Yh prog w k);unfold setSearch;V hmask:t.mask<=127:=by rcases tb.msk with e|e|e<;> W
 R ad (Zbq hu hk ho hd he hisz tb hN hE (λhin r=>?_) (λn hni hEn hbn=>?_) 100000 0 aB rfl (gb _) (by unfold turns at hN;W) (λj hj=>absurd hj (d6 _)))
 ·dsimp only;R ah ?_;R h s.heap o aD (Heap.SameBut.refl a s.heap) ho ?_;unfold Rv;rw[Е (Mi.mpr (kz.mp hin))];E⟨es,ep,t,zs,hx,hd,he,pm,nd,his,tb,hled,hroom⟩
 ·dsimp only;V hni':k∉xs.map (·.1):=λz=>hni (kz.mpr z);R ad (wpAny_setState_of ho hd hfit ?_);dsimp only;V hcase:es.size+1<=t.mask:=by rcases tb.msk with e|e|e<;> W
  V tb1:=tb.put (Yh prog w k) hEn hbn (by rw[aj,a8];E hcase);V hput:(t.put (sq t.mask (Yh prog w k) n)).2=below t.place (sq t.mask (Yh prog w k) n):=rfl;V hmk:(t.put (sq t.mask (Yh prog w k) n)).1.mask=t.mask:=rfl;V hld:(t.put (sq t.mask (Yh prog w k) n)).1.led=t.led:=rfl;rw[hput];generalize below t.place (sq t.mask (Yh prog w k) n)=p at tb1⊢;generalize (t.put (sq t.mask (Yh prog w k) n)).1=t1 at tb1 hmk hld⊢;V he1:(insertAt es p (Yh prog w k,bz b)).toList=(zs.take p++(k,b)::zs.drop p).map (ent prog w):=by rw[SetTable.toList_insertAt,he,b7,a7,List.map_take,List.map_drop]
  V hh1:(insertAt es p (Yh prog w k,bz b)).toList.map (·.1)=(es.toList.map (·.1)).take p++Yh prog w k::(es.toList.map (·.1)).drop p:=by rw[SetTable.toList_insertAt,b7,a7,List.map_take,List.map_drop]
  V sz1:(insertAt es p (Yh prog w k,bz b)).size=es.size+1:=by rw[<-a8,SetTable.toList_insertAt,az,bf,List.length_take,List.length_drop,a8];W
  rw[<-hh1]at tb1;V pm1:(zs.take p++(k,b)::zs.drop p).Perm (xs++[(k,b)]):=by R List.perm_middle.trans ?_;rw[List.take_append_drop];E(pm.cons _).trans (List.perm_append_singleton _ _).symm
  V K9:((xs++[(k,b)]).map (·.1)).Nodup:=by rw[b7,c9];R⟨nd,by simp,λx hx y hy=>?_⟩;simp only[a7,List.map_nil,au]at hy;subst hy;E λz=>hni' (z▸hx)
  generalize insertAt es p (Yh prog w k,bz b)=es1 at he1 tb1 sz1⊢;generalize zs.take p++(k,b)::zs.drop p=zs1 at he1 pm1;V hfin:∀h' o' r,ic a s.heap h'->h'.get? a=aA o'->Ah prog w B h' o' (xs++[(k,b)])->Q r {s with heap:=h'}:=λh' o' r x y z=>h h' o' r x y (by unfold Rv;rw[Д λy=>hni' (Mi.mp y)];E z);V his1:∀h',ic a s.heap h'->∀z∈xs++[(k,b)],O9 prog w h' z.1 z.2:=λh' sb z hz=>by
   V hold:O9 prog w s.heap z.1 z.2:=by
    rcases bj.mp hz with q|q
    ·E his z q
    ·rw[au.mp q];E hk
   E O9.but hold ho hd λc u hc e=>(sb.2 c hc).trans e
  V tail:∀(t2:ib),Tb t2 (es1.toList.map (·.1))->t2.mask=t.mask->t2.led=t.led->bc (b4 prog w) A (do
    storeSet a es1 t2
    if(!aD&&t2.tooFull)=aC then do
     setRelay a (grown (es.size+1))
     pure aC
    else pure aC) Q E s:=λt2 tb2 m2 l2=>by
   R ad (wpAny_storeSet_of ho hd ?_ (by rw[sz1,f6];W));V o1:(s.heap.update a (Obj.putSet es1 t2)).get? a=aA {o with data:=.set es1 (ep+1) t2}:=by V z:=g9 (Obj.putSet es1 t2) ho (by rw[putSet_of es1 t2 hd];rfl);rw[putSet_of es1 t2 hd]at z;E z
   V b1:=g7 s.heap a (Obj.putSet es1 t2);V fl:t2.fill=es.size+1:=by unfold SetTable.fill;V :=tb2.len;rw[aj,a8,a8]at this;rw[tb2.dum,this,sz1];rfl
   by_cases hf:t2.tooFull=aC
   ·rw[Е (by rw[hf];rfl)];V hge:(es.size+1)*5>=t.mask*3:=by unfold SetTable.tooFull at hf;rw[fl,m2]at hf;E of_decide_eq_true hf
    V hS:Msk (sizeAbove (grown (es.size+1))- 1)/\es1.size<=sizeAbove (grown (es.size+1))- 1/\es1.size*5<(sizeAbove (grown (es.size+1))- 1)*3/\sizeAbove (grown (es.size+1))<=128:=by
     rw[sz1];rcases tb.msk with e|e|e
     ·V :es.size=4:=by W
      rw[this];E⟨.inr (.inl Й),by decide,by decide,by decide⟩
     ·V :es.size=18:=by W
      rw[this];E⟨.inr (.inr Й),by decide,by decide,by decide⟩
     ·W
    R ad ?_;unfold setRelay;R ad (wpAny_setState_of (s:={s with heap:=s.heap.update a (Obj.putSet es1 t2)}) o1 rfl (tb2.fits К) ?_);dsimp only;rw[Д (by rw[f6];V :=hS.2.2.2;W)];O⟨t3,order,q1,q2,q3,q4⟩:=Zdk (t:=t2) (es:=es1) hS.1 hS.2.1;V q1':t2.relaid (es1.map (·.1)) (grown (es.size+1))=aA (t3,order):=q1;rw[q1'];V hmk3:t3.mask=sizeAbove (grown (es.size+1))- 1:=by unfold SetTable.relaid SetTable.laid at q1;O⟨ow,_,z⟩:=aa.mp q1;C z;rfl
    V sz3:(order.filterMap λi=>es1[i]?).size=es1.size:=by rw[<-a8,q3.length_eq,a8]
    R ad ?_;T bc _ _ (if((order.filterMap λi=>es1[i]?).size !=es1.size)=aC then _ else _) _ _ _;rw[Д (by rw[sz3];simp)];R ah ?_;dsimp only;R wpAny_storeSet_of (s:={s with heap:=s.heap.update a (Obj.putSet es1 t2)}) o1 rfl ?_ (by rw[sz3,sz1,f6];W);V o2:=g9 (Obj.putSet (order.filterMap λi=>es1[i]?) t3) o1 (by rw[putSet_of _ t3 rfl];rfl);rw[putSet_of _ t3 rfl]at o2;V b2:=b1.trans (g7 _ a (Obj.putSet (order.filterMap λi=>es1[i]?) t3));generalize (order.filterMap λi=>es1[i]?)=es3 at q3 q4 sz3 o2 b2⊢;V he3:∃zs3:А (Zl×aq),es3.toList=zs3.map (ent prog w)/\zs3.Perm zs1:=by rw[he1]at q3;O⟨l3,r1,r2⟩:=Ms q3 zs1 rfl;E⟨l3,r2,r1⟩
    O⟨zs3,r1,r2⟩:=he3;R ah (hfin _ _ aC b2 o2 ⟨es3,_,t3,zs3,hx,rfl,r1,r2.trans pm1,K9,his1 _ b2,q4,by rw[q2,l2];E hled,?_⟩);rw[sz3,hmk3];E hS.2.2.1
   ·rw[Д (by simpa using hf)];R ah (hfin _ _ aC b1 o1 ⟨es1,_,t2,zs1,hx,rfl,he1,pm1,K9,his1 _ b1,tb2,by rw[l2];E hled,?_⟩);unfold SetTable.tooFull at hf;rw[fl,m2]at hf;rw[sz1,m2];V :¬(es.size+1)*5>=t.mask*3:=λz=>hf (decide_eq_true z);W
  by_cases hpl:t1.plain=aC
  ·rw[Е hpl];R ad (Zt9 hk λbb=>?_);cases bb with
   |true=>E tail t1 tb1 hmk hld
   |false=>E tail {t1 with plain:=aD} tb1.plainOff hmk hld
  ·rw[Д hpl];R ad (ah ?_);E tail t1 tb1 hmk hld
end
end TT
namespace TT
open PySem PySem.SetTable PySem.Spec PyProof.Rows SX L2
МLx(ys:А (Zl×aq)):А (Zl×aq):=ys.foldl (λacc y=>Rv acc y.1 y.2) []
ЛZhc(xs:А (Zl×aq))(k:Zl)(b:aq):(Rv xs k b).length<=xs.length+1:=by
 unfold Rv;split
 ·W
 ·simp
ЛZhd{xs:А (Zl×aq)}{k:Zl}{b:aq}{z:Zl×aq}(h:z∈Rv xs k b):z∈xs\/z=(k,b):=by
 unfold Rv at h;split at h
 ·E .inl h
 ·rcases bj.mp h with q|q
  ·E .inl q
  ·E .inr (au.mp q)
ЛZhe{ys:А (Zl×aq)}{i:Г}{y:Zl×aq}(h:ys[i]? =aA y):Lx (ys.take (i+1))=Rv (Lx (ys.take i)) y.1 y.2:=by unfold Lx;rw[List.take_add_one,h];simp
ЛT8:∀(ys acc:А (Zl×aq)),(ys.foldl (λacc y=>Rv acc y.1 y.2) acc).length<=acc.length+ys.length
 | [],acc=>by simp
 |y::ys,acc=>by rw[List.foldl_cons];V h1:=T8 ys (Rv acc y.1 y.2);V h2:=Zhc acc y.1 y.2;rw[bf];W
ЛZk4(ys:А (Zl×aq)):(Lx ys).length<=ys.length:=by V :=T8 ys [];simpa[Lx]using this
ЛT9:∀(ys acc:А (Zl×aq)) (z:Zl×aq),z∈ys.foldl (λacc y=>Rv acc y.1 y.2) acc->z∈acc\/z∈ys
 | [],acc,z,h=>.inl h
 |y::ys,acc,z,h=>by
  rw[List.foldl_cons]at h;rcases T9 ys _ z h with q|q
  ·rcases Zhd q with r|r
   ·E .inl r
   ·E .inr (by rw[r];E ag)
  ·E .inr (ar _ q)
ЛP3{ys:А (Zl×aq)}{z:Zl×aq}(h:z∈Lx ys):z∈ys:=by
 rcases T9 ys [] z h with q|q
 ·E nomatch q
 ·E q
ЛAh.re{prog:b5}{w:da}{B:Bool}{h h':eh}{o:Obj}{xs:А (Zl×aq)}(x:Ah prog w B h o xs)(hk:∀z∈xs,O9 prog w h' z.1 z.2):Ah prog w B h' o xs:=by O⟨es,ep,t,zs,a,b,c,d,e,_,f⟩:=x;E⟨es,ep,t,zs,a,b,c,d,e,hk,f⟩
МKpt(h0 h:eh):Prop:=∀b o,h0.get? b=aA o->h.get? b=aA o
section
variable{prog:b5}{w:da}{A:dg}{R:Result->ao->В}{I:aq}{fp wr:А aq}{G:Array GenState->Array GenState->В}{n:Г}{P:Г->am->В}{St:Г->ao->В}
ЛZua{B:Bool}(W:WalksS prog w A.in1 I fp wr G n P St)(S:aq)(hS:S∉fp)(hu:A.in1.units+1<f7){h0:eh}(hS0:h0.get? S=aB)(hw0:∀b∈wr,h0.get? b=aB)(ys:А (Zl×aq))(hl:ys.length=n)(hv:∀i v,P i v->∃y,ys[i]? =aA y/\v= .ref y.2)(hys:∀y∈ys,O9 prog w h0 y.1 y.2)(hb:n<=75):
  ∀(m i:Г) (s:ao) (o:Obj),i+m=n->St i s->Kpt h0 s.heap->s.heap.get? S=aA o->Ah prog w B s.heap o (Lx (ys.take i))->
  (∀s' o',Moved (S::wr) G s s'->Kpt h0 s'.heap->s'.heap.get? S=aA o'->Ah prog w B s'.heap o' (Lx ys)->R (.ok (.ret .none)) s')->codeAny (b4 prog w) A (.builtin "set.update.loop" ⟨[.ref S,.ref I],[]⟩) R s:=by
 V nw:S∉wr:=λz=>hS (W.sub _ z);V up:∀b∈wr,b∈S::wr:=λ_ z=>ar _ z;V kz:∀{l:А (Zl×aq)} {h:eh},Kpt h0 h->(∀z∈l,z∈ys)->∀z∈Lx l,O9 prog w h z.1 z.2:=fun{l h} kp hl z hz=>(hys z (hl z (P3 hz))).mono kp;V tk:∀i,∀z∈ys.take i,z∈ys:=λi z hz=>List.mem_of_mem_take hz;intro m;induction m with
 |zero=>intro i s o hi st kp ho hO hR;obtain rfl:i=n:=hi;R gw PyProof.Rows.F.entry_set_update_loop ?_;rw[gg PyProof.Rows.F.plain_set_update_loop _];T bc _ A.in1 (pyNext (.ref I) >>=_) _ _ s;R ad (W.done s _ _ st λs' mv=>?_);V kp':Kpt h0 s'.heap:=λb x e=>mv.heap b x (λz=>by rw[hw0 b z]at e;C e) (kp b x e);rw[<-hl,List.take_length]at hO;E ah (hR s' o (mv.mono up) kp' (mv.heap S _ nw ho) (hO.re (kz kp' λ_ z=>z)))
 |succ m ih=>
  intro i s o hi st kp ho hO hR;V hlt:i<n:=by W
  R gw PyProof.Rows.F.entry_set_update_loop ?_;rw[gg PyProof.Rows.F.plain_set_update_loop _];T bc _ A.in1 (pyNext (.ref I) >>=_) _ _ s;R ad (W.item i s _ _ hlt st λv s1 pv st1 mv=>?_);O⟨y,hy,rfl⟩:=hv i v pv;V ho1:=mv.heap S _ nw ho;V kp1:Kpt h0 s1.heap:=λb x e=>mv.heap b x (λz=>by rw[hw0 b z]at e;C e) (kp b x e);V hny:O9 prog w s1.heap y.1 y.2:=(hys y (b9 hy)).mono kp1;show bc _ A.in1 (holding [bz y.2] (setAdd S (.ref y.2)) >>=_) _ _ s1;R ad (wpAny_holding ?_);unfold setAdd;R wpAny_holding (ad (Zei hu hny ?_));R Zy4 (s:={s1 with toks:=s1.toks+Ee y.1}) (B:=B) (xs:=Lx (ys.take i)) hu ho1 (hO.re (kz kp1 (tk i))) hny (by V :=Zk4 (ys.take i);rw[List.length_take]at this;W) λh2 o2 b sb g2 O2=>?_;V kp2:Kpt h0 h2:=λc x e=>by
   V hc:c≠S:=λz=>by rw[z,hS0]at e;C e
   rw[sb.2 c hc];E kp1 c x e
  R ah ⟨plainId_quiet PyProof.Rows.F.plain_set_update_loop _,ih (i+1) _ o2 И (W.frame _ s1 _ _ st1 (Nat.le_add_right _ _) λc hc x e=>?_) kp2 g2 ?_ λs3 o3 m3 k3 g3 O3=>?_⟩
  ·rw[sb.2 c λz=>hS (z▸hc)];E e
  ·rw[Zhe hy];E O2
  ·R hR s3 o3 (Moved.trans W.gtrans ((mv.mono up).then_heap (Nat.le_add_right _ _) λc x hc e=>?_) m3) k3 g3 O3;rw[sb.2 c λz=>hc (z▸ag)];E e
end
section
variable{prog:b5}{w:da}{A:dg}{E:am->ao->В}{s:ao}
ЛZub{h:eh}:Ah prog w (By w) h (Tm w) []:=⟨#[],0,_,[],⟨rfl,rfl,rfl⟩,rfl,rfl,List.Perm.nil,cx,(λz hz=>nomatch hz),Tb.fresh _ _ _,rfl,by T 0*5<7*3;decide⟩
ЛZhf{l:aq}{its:Array am}{ys:А (Zl×aq)}{Q:am->ao->В}(hh:A.handled=aB)(hu:A.units+5<f7)(hl:s.heap.IsList l its)(hi:its.toList=ys.map λy=>bz y.2)(hys:∀y∈ys,O9 prog w s.heap y.1 y.2)(hb:ys.length<=75)
  (h:∀(h':eh) (tk:Г) (o:Obj),h'.get? s.heap.objs.size=aA o->Ah prog w (By w) h' o (Lx ys)->(∀b x,b<s.heap.objs.size->s.heap.get? b=aA x->h'.get? b=aA x)->Q (.ref s.heap.objs.size) {s with heap:=h',toks:=tk}):
  bc (b4 prog w) A (call (.type "set") [.ref l]) Q E s:=by
 V hsz:its.size=ys.length:=by rw[<-a8,hi,aj]
 O⟨c,tl,hmro⟩:=PySem.F.called_set.mro;V hmade:=PySem.F.called_set.made;V hsub:=PySem.F.called_set.sub;V h1:=PySem.F.called_set.notType;V h2:=PySem.F.called_set.canCreate;V hct:=PySem.F.typeCall_set_1 (.ref l);R wpAny_call (codeAny_of_tree ?_);T bc _ _ (callAny (.type "set") _) _ _ _;R ah ⟨Code.quiet_builtin _ (by decide+kernel),gw PySem.F.entry_type_call ?_⟩;rw[Around.under_plain (weight_type_call_type "set" [.ref l] []) rfl]
 repeat (any_goals (first|assumption|wp_step))
 R codeAny_mono (Zkv (.ref l) (E:=E) (Q:=λv s1=>v= .ref s.heap.objs.size/\s1={s with heap:=s.heap.push (Tm w)}) ⟨rfl,rfl⟩) λr s1 hr=>?_;cases r with
 |error e=>E hr
 |ok fl=>
  cases fl with
  |ret obj=>
   O⟨rfl,rfl⟩:=hr;V hS:(s.heap.push (Tm w)).get? s.heap.objs.size=aA (Tm w):=ba _ rfl;V hT:Shared.TypeIs {s with heap:=s.heap.push (Tm w)} (.ref s.heap.objs.size) "set":=⟨_,hS,rfl⟩
   V hli:=PySem.F.called_set.init.lookup;V hbi:=PySem.F.called_set.init.bind (.ref s.heap.objs.size)
   repeat (any_goals (first|assumption|wp_step))
   R codeAny_mono (codeAny_call_builtin (R:=wants (λr s2=>r= .none/\∃h' tk o,s2={s with heap:=h',toks:=tk}/\h'.get? s.heap.objs.size=aA o/\Ah prog w (By w) h' o (Lx ys)/\(∀b x,b<s.heap.objs.size->s.heap.get? b=aA x->h'.get? b=aA x)) E)
    PySem.F.called_set.init.plain PySem.F.entry_set_init (check_set_init_1 hT ?_)) λr2 s2 hr2=>?_
   ·O⟨ol,hol,hcl,nl,hdl⟩:=hl;O⟨ocls,od,odata,osl⟩:=ol;simp only at hcl hdl;subst hcl hdl;V hol':(s.heap.push (Tm w)).get? l=aA {cls:=.type "list",dict:=od,data:=.seq its nl,slots:=osl}:=av _ hol;V hsa:=PySem.F.sub_list_set;V hsb:=PySem.F.sub_list_frozenset;V hsc:(Value.type "list"==Value.type "dict")=aD:=by decide
    V hl1:(s.heap.push (Tm w)).IsList l its:=⟨_,hol',rfl,nl,rfl⟩
    unfold Builtin.«set.__init__» noKeywords Builtin.Frozenset.updateFrom;generalize hPI:pyIter=PI;wp_walk;subst hPI;R wpAny_pyIter_list hl1 (ad (wpAny_runValue ?_));V ll:l<s.heap.objs.size:=bh hol;V hh3:A.in1.in1.in1.handled=aB:=by simp[hh]
    V sz:(s.heap.push (Tm w)).objs.size=s.heap.objs.size+1:=Heap.size_push _ _;V ne:l≠(s.heap.push (Tm w)).objs.size:=by rw[sz];E cj (Nat.lt_succ_of_lt ll)
    V nf:s.heap.objs.size∉[(s.heap.push (Tm w)).objs.size,l]:=by rw[sz];simp only[bu,List.not_mem_nil,or_false,not_or];E⟨cj (Nat.lt_succ_self _),Nat.ne_of_gt ll⟩
    R Zua (h0:=s.heap) ((Walks.list hh3 _ l ne its).toS) s.heap.objs.size nf (by T A.units+1+1+1+1<f7;W) (Heap.get?_none_of_le (a6 _)) (λb hb'=>?_) ys hsz.symm (λi v hv=>?_) hys И its.size 0 _ (Tm w) И
     ⟨⟨_,ba _ rfl,rfl,rfl⟩,(hl1.push _)⟩ (λb o e=>av _ (av _ e)) (av _ hS) Zub λs' o' mv kp go Oo=>?_
    ·V :b=(s.heap.push (Tm w)).objs.size:=by simpa using hb'
     rw[this,sz];E Heap.get?_none_of_le (Nat.le_succ _)
    ·V hv':its[i]? =aA v:=hv;rw[<-c6,hi,a9]at hv';O⟨y,hy,rfl⟩:=c7.mp hv';E⟨y,hy,rfl⟩
    V eg:s'.gens=s.gens:=mv.gens;V ed:s'.drawn=s.drawn:=mv.drawn;V eo:s'.os=s.os:=mv.os;V es:s'={s with heap:=s'.heap,toks:=s'.toks}:=by C s';simp only at eg ed eo;subst eg ed eo;rfl
    T bc _ _ _ _ _ _;R ah ?_;show bc _ _ (ret cm) _ _ _;E ah ⟨rfl,s'.heap,s'.toks,o',es,go,Oo,λb x hb e=>kp b x e⟩
   ·cases r2 with
    |error e=>E hr2
    |ok f2=>
     cases f2 with
     |ret r=>
      O⟨rfl,h',tk,o',rfl,g',O',k'⟩:=hr2
      repeat (any_goals (first|assumption|wp_step))
      E h _ _ _ g' O' k'
     |_=>E hr2.elim
  |_=>E hr.elim
end
section
variable{prog:b5}{w:da}{A:dg}{E:am->ao->В}{s:ao}{I r S:aq}{o:Obj}{es:Array (Int×am)}{ep:Г}{t:ib}
ЛZy5{R:Result->ao->В}{res:am}{c:Г}(hh:A.handled=aB)(ho:s.heap.get? r=aA o)(hx:o.ExactSet)(hd:o.data= .set es ep t)(hf:t.fits es.size=aC)(hled:t.led= !By w)(rise:Rr t.place.toList)(hr:es.size<=1000)(hS:S≠r)(hl:s.heap.get? S=aA (Ke #[] c))
  (hR:∀(h':eh) d c' (ord:А am),ord.Perm (es.toList.map (·.2))->(∀b x,b≠S->s.heap.get? b=aA x->h'.get? b=aA x)->h'.get? S=aA (Ke ord.toArray c')->R (.ok (.ret res)) {s with heap:=h',drawn:=d}):
  bc (b4 prog w) A.in1 (Builtin.List.listExtendWith (.ref S) (.ref r) res) (λfin s'=>match fin with| .done f=>R (.ok f) s'| .again c'=>c'.quiet=aC/\codeAny (b4 prog w) A c' R s') (λe s'=>R (.error e) s') s:=by
 V hb:es.size<scanBound:=by unfold scanBound;W
 V psz:t.place.size=es.size:=by unfold SetTable.fits at hf;simp only[Bool.and_eq_true,beq_iff_eq]at hf;E hf.1
 V hT:s.TypeIs (.ref r) "set":=⟨o,ho,hx.1⟩
 V hlS:S<s.heap.objs.size:=bh hl;V hlr:r<s.heap.objs.size:=bh ho;unfold Builtin.List.listExtendWith;R ad (wpAny_typeOf (T:="set") hT ?_);V z1:Builtin.List.listSameRef (.ref S) (.ref r)=aD:=by simp[Builtin.List.listSameRef,hS]
 V z2:(Value.type "set"==Value.type "list")=aD:=by decide
 V z3:(Value.type "set"==Value.type "tuple")=aD:=by decide
 simp only[z1,z2,z3,Bool.or_false,bq,if_false];V hh':A.in1.handled=aB:=hh;R ad (Zkw ho hx hd hf hb (λhc=>?_) λhc ps d hp=>?_)
 ·V rI:r≠s.heap.objs.size:=cj hlr;V SI:S≠s.heap.objs.size:=cj hlS;V nf:S∉[s.heap.objs.size,r]:=by simp only[bu,List.not_mem_nil,or_false,not_or];E⟨SI,hS⟩
  V old:∀b x,s.heap.get? b=aA x->b≠s.heap.objs.size:=λb x e=>cj (bh e);cases hB:By w with
  |false=>
   V hl':t.led=aC:=by rw[hled,hB];rfl
   V hp:(!t.plain&&decide (es.size > 1))=aD:=by rw[hB]at hc;simpa using hc
   R Px (Dj hh' rI hd hf hB hl' hp rise psz) nf (by rw[aj,a8];W) ⟨o,av _ ho,hx.1⟩ ⟨ba _ rfl,av _ ho⟩ (av _ hl) (f:=λb=>b||_) λh' c' k g=>?_;E hR h' s.drawn c' _ (List.Perm.refl _) (λb x hb e=>k b x hb (old b x e) (av _ e)) g
  |true=>have pp:=Zg1 (w.params.setOrder r ep) es;R Px (Zdg hh' rI hd hf hB) nf (by rw[aj,pp.length_eq,a8];W) ⟨o,av _ ho,hx.1⟩ ⟨ba _ rfl,av _ ho⟩ (av _ hl) (f:=λb=>b||_) λh' c' k g=>?_;E hR h' s.drawn c' _ (pp.map _) (λb x hb e=>k b x hb (old b x e) (av _ e)) g
 ·V pm0:∀p∈ps,p<es.size:=λp hq=>cz.mp (hp.mem_iff.mp hq);V rI:r≠s.heap.objs.size+1:=cj (Nat.lt_succ_of_lt hlr);V TI:s.heap.objs.size≠s.heap.objs.size+1:=cj (Nat.lt_succ_self _);V nf:S∉[s.heap.objs.size+1,r,s.heap.objs.size]:=by simp only[bu,List.not_mem_nil,or_false,not_or];E⟨cj (Nat.lt_succ_of_lt hlS),hS,cj hlS⟩
  V up:∀b x,s.heap.get? b=aA x->((s.heap.push (To ps)).push (X4 (.ref s.heap.objs.size) 0 r es.size ep)).get? b=aA x:=λb x e=>av _ (av _ e);V sz2:(s.heap.push (To ps)).objs.size=s.heap.objs.size+1:=Heap.size_push _ _;V gI:((s.heap.push (To ps)).push (X4 (.ref s.heap.objs.size) 0 r es.size ep)).get? (s.heap.objs.size+1)=aA (X4 (.ref s.heap.objs.size) 0 r es.size ep):=by rw[<-sz2];E ba _ rfl
  V gT:((s.heap.push (To ps)).push (X4 (.ref s.heap.objs.size) 0 r es.size ep)).get? s.heap.objs.size=aA (To ps):=av _ (ba _ rfl);V pl:(ps.map λp=>es.getD p (0,cm)).Perm es.toList:=by
   R(hp.map _).trans ?_;V :(c8 es.size).map (λp=>es.getD p (0,cm))=es.toList:=by
    apply List.ext_getElem?;intro i;rw[a9];by_cases hi:i<es.size
    ·rw[List.getElem?_range hi,c6];simp[Array.getD,hi]
    ·rw[d5 (by simpa using hi),d5 (by simpa using hi)];rfl
   rw[this]
  V eo:(ps.map λp=>(es.getD p (0,cm)).2)=(ps.map λp=>es.getD p (0,cm)).map (·.2):=by rw[bo];rfl
  R Px (s:={s with heap:=(s.heap.push (To ps)).push (X4 (.ref s.heap.objs.size) 0 r es.size ep),drawn:=d}) (Dk hh' rI TI hd hf pm0) nf (by rw[aj,hp.length_eq,List.length_range];W) ⟨o,up _ _ ho,hx.1⟩ ⟨gI,up _ _ ho,gT⟩ (up _ _ hl) (f:=λb=>b||_) λh' c' k g=>?_;rw[eo]at g;E hR h' d c' _ (pl.map _) (λb x hb e=>k b x hb (cj (Nat.lt_succ_of_lt (bh e))) (up b x e)) g
ЛZhg{xs:А (Zl×aq)}{Q:А am->ao->В}(hh:A.handled=aB)(ho:s.heap.get? r=aA o)(hO:Ah prog w (By w) s.heap o xs)(hr:xs.length<=1000)
  (h:∀(zs:А (Zl×aq)) (h':eh) d,zs.Perm xs->(∀b x,s.heap.get? b=aA x->h'.get? b=aA x)->s.heap.objs.size<=h'.objs.size->Q (zs.map λz=>bz z.2) {s with heap:=h',drawn:=d}):bc (b4 prog w) A (collect (.ref r)) Q E s:=by
 O⟨es,ep,t,zs,hx,hd,he,pm,nd,his,tb,hled,hroom⟩:=hO;V zl:zs.length=es.size:=by rw[<-a8,he,aj]
 V xl:xs.length=es.size:=by rw[<-pm.length_eq,zl]
 V hlr:r<s.heap.objs.size:=bh ho;V nS:s.heap.objs.size≠r:=Nat.ne_of_gt hlr;unfold collect;R ad (wpAny_runValue (gw PySem.F.entry_proto_collect ?_));rw[gg PySem.F.plain_proto_collect _];T bc _ A.in1 (newList [] >>=λl=>again (.builtin "list.__iadd__" ⟨[l,.ref r],[]⟩)) _ _ s;R ad (dw ?_);R ah ⟨plainId_quiet PySem.F.plain_list_iadd _,gw PySem.F.entry_list_iadd ?_⟩;rw[gg PySem.F.plain_list_iadd _];T bc _ A.in1 (Builtin.List.listExtendWith (.ref s.heap.objs.size) (.ref r) (.ref s.heap.objs.size)) _ _ _;R Zy5 (R:=λrr s'=>match rr with
  | .ok (.ret v)=>bc (b4 prog w) A (match v with
   | .ref a=>(load a >>=λx=>match x.data with
    | .seq xs _=>pure xs.toList
    |_=>unsupported "internal:collect")
   |_=>unsupported "internal:collect") Q E s'
  | .ok _=>False
  | .error e=>E e s') (s:={s with heap:=s.heap.push (Ke #[] 0)}) (c:=0) hh (av _ ho) hx hd (tb.fits К) hled tb.rise И nS (ba _ rfl) λh' d c' ord hp hk g=>?_
 T bc _ A (load s.heap.objs.size >>=_) _ _ _;R ad (wpAny_load g ?_);R ah ?_;V e:ord.toArray.toList=ord:=by simp
 T Q ord.toArray.toList _;rw[e];rw[he,bo]at hp;O⟨zs',p',e'⟩:=Ms hp zs rfl;rw[e'];E h zs' h' d (p'.trans pm) (λb x e=>hk b x (cj (bh e)) (av _ e)) (Nat.le_of_lt (bh g))
end
end TT
namespace TT
open PySem PySem.Spec PyProof.Rows L2 DL TX SX
МZk:Zl->D
 | .inl l=>.tup (l.map D.str)
 | .inr (n,l)=>.tup [.int n,.tup (l.map D.str)]
МAi(ks:А Zl)(k:Zl):А Zl:=if(ks.any λz=>decide (z=k))=aC then ks else ks++[k]
МLz(ks:А Zl):А Zl:=ks.foldl Ai []
ЛZhh(xs:А (Zl×aq))(k:Zl)(b:aq):(Rv xs k b).map (·.1)=Ai (xs.map (·.1)) k:=by
 unfold Rv Ai;V e:((xs.map (·.1)).any λz=>decide (z=k))=xs.any λz=>decide (z.1=k):=by rw[List.any_map];rfl
 rw[e];split
 ·rfl
 ·rw[b7];rfl
ЛZbr(ys:А (Zl×aq)):(Lx ys).map (·.1)=Lz (ys.map (·.1)):=by
 V go:∀(ys acc:А (Zl×aq)),(ys.foldl (λacc y=>Rv acc y.1 y.2) acc).map (·.1)=(ys.map (·.1)).foldl Ai (acc.map (·.1)):=by
  intro ys;induction ys with
  |nil=>intro acc;rfl
  |cons y ys ih=>intro acc;rw[List.foldl_cons,ih,a7,List.foldl_cons,Zhh]
 E go ys []
МMu(ds out:А D):Prop:=out.Perm ds/\out.Pairwise λa b=>U2 16 b a=aA aD
ЛZdm{ks:А D}{enc:D->А Г}(hd:∀i j:Г,i<ks.length->j<ks.length->enc (ks.getD i .non)=enc (ks.getD j .non)->i=j){a b:D}(ha:a∈ks)(hb:b∈ks)(e:enc a=enc b):a=b:=by
 O⟨i,hi,rfl⟩:=f9 ha;O⟨j,hj,rfl⟩:=f9 hb;V gi:ks.getD i .non=ks[i]:=by rw[bi,ax hi];rfl
 V gj:ks.getD j .non=ks[j]:=by rw[bi,ax hj];rfl
 V :=hd i j hi hj (by rw[gi,gj];E e);subst this;rfl
ЛRw{ds a b:А D}(h:KeysOk ds)(ha:Mu ds a)(hb:Mu ds b):a=b:=by
 O⟨enc,he,hd⟩:=h.ord;R List.Perm.eq_of_pairwise (le:=λa b=>U2 16 b a=aA aD) (λx y hx hy h1 h2=>?_) ha.2 hb.2 (ha.1.trans hb.1.symm);V mx:=ha.1.mem_iff.mp hx;V my:=hb.1.mem_iff.mp hy;rw[he _ my _ mx]at h1;rw[he _ mx _ my]at h2;V h1:¬enc y<enc x:=by simpa using h1
 V h2:¬enc x<enc y:=by simpa using h2
 E Zdm hd mx my (List.le_antisymm (dm.mp h1) (dm.mp h2))
ЛIi{ds:А D}{p:А Г}(h:Mq ds p):Mu ds (p.map λi=>ds.getD i .non):=by
 R⟨?_,cu.mpr h.2⟩;R(h.1.map _).trans ?_;V :(c8 ds.length).map (λi=>ds.getD i .non)=ds:=by
  apply List.ext_getElem
  ·simp
  ·intro i h1 h2;simp[bi,ax h2]
 rw[this]
ЛRx{ds:А D}(h:KeysOk ds):∃out,Mu ds out:=let⟨_,hp⟩:=B8 h;⟨_,Ii hp⟩
ЛG0{ks:А D}{enc:D->А Г}:(∀i j:Г,i<ks.length->j<ks.length->enc (ks.getD i .non)=enc (ks.getD j .non)->i=j)↔(ks.map enc).Nodup:=by
 V gi:∀i (hi:i<ks.length),ks.getD i .non=ks[i]:=λi hi=>by rw[bi,ax hi];rfl
 constructor
 ·intro h;R List.pairwise_iff_getElem.mpr λi j hi hj hij e=>?_;rw[aj]at hi hj;rw[List.getElem_map,List.getElem_map]at e;V :=h i j hi hj (by rw[gi i hi,gi j hj];E e);W
 ·intro h i j hi hj e;rw[gi i hi,gi j hj]at e;V :=(List.getElem?_inj (i:=i) (j:=j) (by rw[aj];E hi) h).mp (by simp[hi,hj,e]);E this
ЛXc{ds es:А D}(h:KeysOk ds)(p:es.Perm ds):KeysOk es:=by O⟨k,hk⟩:=h.key;O⟨enc,he,hd⟩:=h.ord;R⟨⟨k,λd hd=>hk d (p.mem_iff.mp hd)⟩,enc,λa ha b hb=>he a (p.mem_iff.mp ha) b (p.mem_iff.mp hb),?_⟩;E G0.mpr ((p.map enc).nodup_iff.mpr (G0.mp hd))
end TT
namespace L2
open PySem PySem.Spec PySem.Calls PyProof.Rows DL TX SX TT
ЛP4{P:b5}{w:da}{H:Hp}{h:eh}(ok:Ra P w H h){k:Zl}{b:aq}(e:Ji H k b):O9 P w h k b:=by
 cases k with
 |inl l=>E Bx ok e
 |inr p=>
  O⟨n,l⟩:=p;O⟨c,h1,h2⟩:=e;O⟨_,its,r,o,q1,q2,m,q3⟩:=(show Yc P w H h b (.tup [.int n,.ref c])from ok b _ h1)
  cases r with
  |cons r1 t=>cases t with
   |cons r2 t=>C t;O⟨tk,rfl⟩:=r1;C r2;E⟨o,_,m,tk,c,q1,q2,q3,rfl,Bx ok h2⟩
ЛGa{K:af}{F:Hp}{k:Zl}{b:aq}(e:Ji F k b):Rep K F (Zk k) (.ref b):=by
 V tx:∀l:А Str,Reps K F (l.map D.str) ((Wy l).map kV):=λl=>by
  induction l with
  |nil=>E .nil
  |cons x l ih=>E .cons (.str x) ih
 cases k with
 |inl l=>E .tup e (tx l)
 |inr p=>O⟨n,l⟩:=p;O⟨c,h1,h2⟩:=e;E .tup h1 (.cons (.int n) (.cons (.tup h2 (tx l)) .nil))
ЛMv{K:af}{F:Hp}{k:Zl}{v:V}(r:Rep K F (Zk k) v):∃b,v= .ref b/\Ji F k b:=by
 V tx:∀{l:А Str} {vs:А V},Reps K F (l.map D.str) vs->vs=(Wy l).map kV:=fun{l}=>by
  induction l with
  |nil=>intro vs h;C h;rfl
  |cons x l ih=>intro vs h;cases h with
   |cons h t=>C h;rw[ih t];rfl
 cases k with
 |inl l=>cases r with
  |tup h r=>rw[tx r]at h;E⟨_,rfl,h⟩
 |inr p=>
  O⟨n,l⟩:=p;cases r with
  |tup h r=>cases r with
   |cons r1 t=>C r1;cases t with
    |cons r2 t=>C t;cases r2 with
     |tup h2 r2=>rw[tx r2]at h2;E⟨_,rfl,_,h,h2⟩
section
variable{X:Cx}
МrSN(K:af):А V->Hp->VK->Prop:=λvs H Q=>∃(l:aq) (ys:А (Zl×aq)),vs=[.ref l]/\W8 K H l (ys.map λy=>V.ref y.2)/\(∀y∈ys,Ji H y.1 y.2)/\ys.length<=75/\(Lx ys).length<64/\KeysOk ((Lx ys).map λy=>Zk y.1)/\
 ∀(zs:А (Zl×aq)) (q:aq),zs.Perm (Lx ys)->Mu ((Lx ys).map λy=>Zk y.1) (zs.map λy=>Zk y.1)->H q=aB->Q (.ref q) (Ya H q (.lst (zs.map λz=>V.ref z.2)))
ЛZuc:∀{ys:А (Zl×aq)} {its:А am},Z3 (ys.map λy=>V.ref y.2) its->its=ys.map λy=>bz y.2
 | [],_,h=>by C h;rfl
 |y::ys,_,h=>by
  cases h with
  |cons r t=>C r;rw[Zuc t];rfl
ЛZhi:∀ys:А (Zl×aq),Z3 (ys.map λy=>V.ref y.2) (ys.map λy=>bz y.2)
 | []=>.nil
 |y::ys=>.cons rfl (Zhi ys)
ЛZk5{a:c5}{t:TA}{p1 p2 q1 q2:Pos}(hc:X.calm=aC)(hu:X.A.units+64<f7)(h1:X.mg "sorted"=aB)(h2:X.mg "set"=aB)(ha:PA X [a] t)(g1:Gl X "sorted")(g2:Gl X "set")
  (he1:bd [.Call (.Name "set" q1) [a] [] q2] X.env=(aD,gy (.Call (.Name "set" q1) [a] [] q2) X.env)::bd [] X.env) (hp1:(gx p2 (bd [] X.env)).any (·.1)=aD)
  (he2:bd [a] X.env=(aD,gy a X.env)::bd [] X.env) (hp2:(gx q2 (bd [] X.env)).any (·.1)=aD):
  PE X (.Call (.Name "sorted" p1) [.Call (.Name "set" q1) [a] [] q2] [] p2) (tCB (rSN X.K) t):=by
 intro pins s σ H Q I h;R wpAny_Call_Name_kw (Bt I g1 h1 C6 ?_);R PyProof.Rows.callWith_builtin1 ?_ he1 hp1;rw[he1];T bc _ _ (spliced ((aD,gy (.Call (.Name "set" q1) [a] [] q2) X.env)::gx p2 (bd [] X.env))) _ _ s;R Calls.spliced_cons (wpAny_Call_Name_kw (Bt I g2 h2 Zg2 ?_));R PyProof.Rows.callWith_type1 (Wv (ha q2 pins s σ H _ I h) λus s1 ⟨vs,H1,I1,r1,z1⟩=>?_) he2 hp2;O⟨l,ys,rfl,hl,hn,hz,hz2,ko,q⟩:=z1;O⟨u,rfl,ru⟩:=Ul r1;C ru;O⟨its,rv,⟨o,n,ho,hcl,_,hd⟩,_⟩:=I1.list hl;V hits:=Zuc rv;V hh:=I1.ok.hd hc;R Zhf (its:=its.toArray) (ys:=ys) hh И ⟨o,ho,hcl,n,hd⟩ (by simpa using hits) (λy hy=>P4 I1.hok (hn y hy)) hz λh' tk o' ho' hO hk=>?_;T bc _ _ (spliced []) _ _ _;R Calls.spliced_nil ?_;V kept:∀b x,s1.heap.get? b=aA x->h'.get? b=aA x:=λb x e=>hk b x (bh e) e;V I2:Inv X pins σ H1 {s1 with heap:=h',toks:=tk}:=I1.kept kept;R Calls.call_function_entry kind_sorted plain_sorted entry_sorted (args_sorted1 _) ?_;unfold Builtin.«sorted»;R ad (m:=checkCount "sorted" 1 1 _) (ah ?_);R ad (Zhg (A:=X.A.in1) (s:={s1 with heap:=h',toks:=tk}) hh ho' hO И λzs h3 d hp hk3 ge=>?_);V I3:Inv X pins σ H1 {s1 with heap:=h3,toks:=tk,drawn:=d}:=(I2.kept (t':=tk) hk3).drawnAt d;V kz:KeysOk (zs.map λy=>Zk y.1):=Xc ko (hp.map _);O⟨enc,he,hdis⟩:=id kz.ord;O⟨kb,hkb⟩:=id kz.key;V hu2:X.A.in1.in1.units+16<cLine:=by T X.A.units+1+1+16<f7;W
 V zl:zs.length=(Lx ys).length:=hp.length_eq;V dl:(zs.map λy=>Zk y.1).length=(zs.map λz=>bz z.2).length:=by simp
 V hnz:∀z∈zs,Ji H1 z.1 z.2:=λz hz'=>hn z (P3 (hp.mem_iff.mp hz'));R Ls (its:=zs.map λz=>bz z.2) (kvs:=zs.map λz=>V.ref z.2) (KeyOk:=λj kv H=>Rep X.K H ((zs.map λy=>Zk y.1).getD j .non) kv) (O:=strKind.toKeyOrd) (key:=V6 enc (zs.map λy=>Zk y.1)) I3 (by rw[aj];W) (Zhi zs) (λj kv e=>?_) (Dq hu2 hkb he dl) ?hQ
 ·rw[a9]at e;O⟨z,ez,rfl⟩:=c7.mp e;V :(zs.map λy=>Zk y.1).getD j .non=Zk z.1:=by rw[bi,a9,ez];rfl
  rw[this];E Ga (hnz z (b9 ez))
 case hQ=>
  intro p D s3 cc hp2' hs hD0 I4 fD gD;V sb:=Dr he dl hp2' hs;V pt:p.toList.Perm (c8 zs.length):=by V :=sb.1;rw[aj]at this;E this
  V bnd:∀i∈p.toList,i<zs.length:=λi hi=>cz.mp (pt.mem_iff.mp hi);V g1':∀i∈p.toList,(zs.map λz=>bz z.2).getD i cm=bz (zs.getD i (.inl [],0)).2:=λi hi=>by V hb:=bnd i hi;simp[bi,a9,ax hb]
  V g2':∀i∈p.toList,(zs.map λy=>Zk y.1).getD i .non=Zk (zs.getD i (.inl [],0)).1:=λi hi=>by V hb:=bnd i hi;simp[bi,a9,ax hb]
  generalize hzs2:p.toList.map (λi=>zs.getD i (.inl [],0))=zs2;V e1:(p.toList.map λi=>(zs.map λz=>bz z.2).getD i cm)=zs2.map λz=>bz z.2:=by rw[<-hzs2,bo];E f8 g1'
  V e2:(p.toList.map λi=>(zs.map λy=>Zk y.1).getD i .non)=zs2.map λy=>Zk y.1:=by rw[<-hzs2,bo];E f8 g2'
  V pz:zs2.Perm zs:=by
   rw[<-hzs2];R(pt.map _).trans ?_;V :(c8 zs.length).map (λi=>zs.getD i (.inl [],0))=zs:=by
    apply List.ext_getElem
    ·simp
    ·intro i h1 h2;simp[bi,ax h2]
   rw[this]
  V so:=Ii sb;rw[e2]at so;V so2:Mu ((Lx ys).map λy=>Zk y.1) (zs2.map λy=>Zk y.1):=⟨so.1.trans (hp.map _),so.2⟩
  rw[e1]at gD;V new:Yc X.prog X.w (Ya H1 D (.lst (zs2.map λz=>V.ref z.2))) s3.heap D (.lst (zs2.map λz=>V.ref z.2)):=by R⟨?_,zs2.map λz=>bz z.2,cc,Zhi zs2,gD⟩;rw[aj,pz.length_eq,f6];W
  E⟨.ref D,_,Inv.trackO I4 hD0 fD.1 fD.2.1 fD.2.2.2.2.1 fD.2.2.2.2.2 new,rfl,q zs2 D (pz.trans hp) so2 fD.1⟩
end
end L2
namespace DL
open PySem PySem.Spec PyProof.Rows L2 SX TT TX
variable{K:af}
Мnk?:D->Б Zl
 | .tup xs=>match strs? xs with
  |some l=>aA (.inl l)
  |none=>match xs with
   | [.int n,.tup ys]=>(strs? ys).bind λl=>aA (.inr (n,l))
   |_=>aB
 |_=>aB
ЛIj:∀l:А Str,strs? (l.map D.str)=aA l
 | []=>rfl
 |x::l=>by rw[a7,strs?,Ij l];rfl
ЛP5:∀{xs:А D} {l:А Str},strs? xs=aA l->xs=l.map D.str
 | [],_,h=>by C h;rfl
 |x::xs,l,h=>by
  unfold strs? at h;split at h
  ·rename_i e;C e
  ·rename_i y r e;C e;O⟨t,h1,h2⟩:=aa.mp h;C h2;rw[P5 h1];rfl
  ·C h
@[simp] theorem Ca(k:Zl):nk? (Zk k)=some k:=by
 cases k with
 |inl l=>show(match strs? (l.map D.str)with|some l=>_|none=>_)=_;rw[Ij]
 |inr p=>O⟨n,l⟩:=p;show(strs? (l.map D.str)).bind _=_;rw[Ij];rfl
ЛZhj{d:D}{k:Zl}(h:nk? d=aA k):d=Zk k:=by
 unfold nk? at h;split at h
 ·rename_i xs;split at h
  ·rename_i l hl;C h;rw[P5 hl];rfl
  ·split at h
   ·O⟨l,h1,h2⟩:=aa.mp h;C h2;rw[P5 h1];rfl
   ·C h
 ·C h
Мnks?:А D->Б (А Zl)
 | []=>aA []
 |d::r=>(nk? d).bind λk=>(nks? r).bind λks=>aA (k::ks)
@[simp] theorem Ar:∀ks:А Zl,nks? (ks.map Zk)=some ks
 | []=>rfl
 |k::ks=>by rw[a7,nks?,Ca,Ar ks];rfl
ЛP6:∀{ds:А D} {ks:А Zl},nks? ds=aA ks->ds=ks.map Zk
 | [],_,h=>by C h;rfl
 |d::ds,_,h=>by O⟨k,h1,h2⟩:=aa.mp (show(nk? d).bind _=_ from h);O⟨ks,h3,h4⟩:=aa.mp h2;C h4;rw[Zhj h1,P6 h3];rfl
ЛXd{F:Hp}:∀{ks:А Zl} {vs:А V},Reps K F (ks.map Zk) vs->∃ys:А (Zl×aq),ys.map (·.1)=ks/\vs=ys.map (λy=>V.ref y.2)/\∀y∈ys,Ji F y.1 y.2
 | [],_,h=>by C h;E⟨[],rfl,rfl,λ_ z=>nomatch z⟩
 |k::ks,_,h=>by
  cases h with
  |cons h t=>
   O⟨b,rfl,hb⟩:=Mv h;O⟨ys,rfl,rfl,hy⟩:=Xd t;R⟨(k,b)::ys,rfl,rfl,λy hy'=>?_⟩;rcases bu.mp hy' with z|z
   ·rw[z];E hb
   ·E hy y z
ЛL0{F:Hp}:∀{ys:А (Zl×aq)},(∀y∈ys,Ji F y.1 y.2)->Reps K F (ys.map λy=>Zk y.1) (ys.map λy=>V.ref y.2)
 | [],_=>.nil
 |y::ys,h=>.cons (Ga (h y ag)) (L0 λz hz=>h z (ar _ hz))
open Classical in
МIk(ks:А Zl):Б SV:=
 if h:ks.length<=75/\(Lz ks).length<64/\KeysOk ((Lz ks).map Zk)then aA (.ol (Classical.choose (Rx h.2.2)))else aB
ЛZhk{ks:А Zl}{sv:SV}(e:Ik ks=aA sv):ks.length<=75/\(Lz ks).length<64/\KeysOk ((Lz ks).map Zk)/\∃out,Mu ((Lz ks).map Zk) out/\sv= .ol out:=by
 unfold Ik at e;split at e
 ·rename_i h;C e;E⟨h.1,h.2.1,h.2.2,_,Classical.choose_spec (Rx h.2.2),rfl⟩
 ·C e
ЛZhl{ks:А Zl}{out:А D}(h1:ks.length<=75)(h2:(Lz ks).length<64)(h3:KeysOk ((Lz ks).map Zk))(h4:Mu ((Lz ks).map Zk) out):Ik ks=aA (.ol out):=by unfold Ik;rw[dif_pos ⟨h1,h2,h3⟩,Rw h3 (Classical.choose_spec (Rx h3)) h4]
МBo:А D->Б SV
 | [.lst xs]=>(nks? xs).bind Ik
 |_=>aB
@[simp] theorem L1(ks:А Zl):Bo [.lst (ks.map Zk)]=Ik ks:=by show(nks? (ks.map Zk)).bind _=_;rw[Ar];rfl
section
variable{Z:Ent K}{H:Hp}{σ:L2.St}{Q:VK}{E:Ends}
ЛZpy:U6 Z (rSN K) Bo:=by
 intro F H σ δ own vs ds sv Q s r e k;unfold Bo at e;split at e
 ·O⟨ks,e1,e2⟩:=aa.mp e;O⟨z1,z2,ko,out,ho,rfl⟩:=Zhk e2;V :=P6 e1;subst this;cases r with
  |cons h t=>
   C t;O⟨a,us,rfl,ha,ru⟩:=h.lst s.le;O⟨ys,rfl,rfl,hy⟩:=Xd ru;V ek:(Lx ys).map (λy=>Zk y.1)=(Lz (ys.map (·.1))).map Zk:=by rw[<-Zbr,bo];rfl
   R⟨a,ys,rfl,ha,λy hy'=>(hy y hy').mono λ_ _ q=>s.le _ _ q,by simpa using z1,?_,by rw[ek];E ko,λzs q hp so hq=>?_⟩
   ·V :=congrArg List.length (Zbr ys);rw[aj]at this;W
   ·V eo:out=zs.map λy=>Zk y.1:=by rw[ek]at so;E Rw ko ho so
    rw[eo]at k;E k.lst s (L0 λz hz=>hy z (P3 (hp.mem_iff.mp hz))) hq
 ·C e
end
section
variable{X:Cx}{Z:Ent X.K}{a b c:c5}{fa fb fc:FE}{pos:Pos}
ЛP7{p1 q1 q2:Pos}(hc:X.calm=aC)(hv:X.A.units+64<f7)(h1:X.mg "sorted"=aB)(h2:X.mg "set"=aB)(ha:PE X a (Ze Z fa))(g1:Gl X "sorted":=by rfl)(g2:Gl X "set":=by rfl)
  (he1:bd [.Call (.Name "set" q1) [a] [] q2] X.env=(aD,gy (.Call (.Name "set" q1) [a] [] q2) X.env)::bd [] X.env:=by rfl) (hp1:(gx pos (bd [] X.env)).any (·.1)=aD:=by rfl)
  (he2:bd [a] X.env=(aD,gy a X.env)::bd [] X.env:=by rfl) (hp2:(gx q2 (bd [] X.env)).any (·.1)=aD:=by rfl):
  PE X (.Call (.Name "sorted" p1) [.Call (.Name "set" q1) [a] [] q2] [] pos) (Ze Z (Yf Bo (Zc fa Zj))):=
 (Zk5 hc hv h1 h2 (Zm ha Yo he2) g1 g2 he1 hp1 he2 hp2).imp λ_ _ _ h=>Pg Zpy h
end
end DL
namespace L2
open PySem PySem.Spec PySem.Calls PyProof.Rows
section
variable{prog:b5}{w:da}{K:Type}[DecidableEq K]{knd:HeapKind prog w K}{A:dg}{E:am->ao->В}{s:ao}
ЛXe{d a:aq}{xs:А (K×aq×am)}{k:K}{v:am}{Q:am->ao->В}(hu:knd.room A)(hkey:knd.is s.heap k a)(hm:s.heap.DictOfH knd d xs)
  (hold:∀p,atKey xs k=aA p->Q p.2 {s with toks:=s.toks+knd.draws k})
  (hnew:atKey xs k=aB->∀h',h'.DictOfH knd d (xs++[(k,a,v)])->ic d s.heap h'->Q v {s with heap:=h',toks:=s.toks+knd.draws k}) (hsz:xs.length<=sizeLine):
  bc (b4 prog w) A (dictSetDefault d (.ref a) v) Q E s:=by
 O⟨o,es,ep,ho,hc,hd,he,his,hn⟩:=hm;unfold dictSetDefault
 try with_reducible R wpAny_holding ?_
 R ad (knd.pyHash hu hkey (ad (wpAny_dictFind_heap (s:={s with toks:=s.toks+knd.draws k}) hu hkey ho hd he his hn ?_ ?_)))
 ·intro hno;V hnot:k∉xs.map (·.1):=not_mem_keys_of_get hno;dsimp only;R ad (wpAny_rule (ad (wpAny_updateDictKeys (hz:=by V e:=size_of_entries he;W) (s:={s with toks:=s.toks+knd.draws k}) ho hd (ah (hnew (atKey_none_of_get hno) _ ⟨_,_,ep+1,g9 _ ho (Obj.isFreed_of_dict (Obj.data_mapDictKeys hd _)),
   hc.mapDictKeys _,Obj.data_mapDictKeys hd _,?_,?_,?_⟩ (g7 ..))))))
  ·simp[he,entryOfKey]
  ·intro x hx;rcases bj.mp hx with hx|hx
   ·E knd.keeps (his x hx) ho hd (g7 ..)
   ·simp only[au]at hx;subst hx;E knd.keeps hkey ho hd (g7 ..)
  ·rw[b7,c9];R⟨hn,by simp,?_⟩;intro x hx y hy;simp only[a7,List.map_nil,au]at hy;subst hy;E λe=>hnot (e▸hx)
 ·intro j p hj;dsimp only;R ad (wpAny_dictEntries (s:={s with toks:=s.toks+knd.draws k}) ho hd ?_);rw[entry_at he j,hj];E ad (wpAny_rule (ah (hold p (atKey_of_get hn hj))))
end
МKNt(H:Hp):А (Zl×V)->А (Zl×aq×am)->Prop:=Paired λ(p:Zl×V) (q:Zl×aq×am)=>p.1=q.1/\Ji H p.1 q.2.1/\Zu p.2 q.2.2
section
variable{P:b5}{w:da}{H:Hp}{h:eh}{a:aq}
ЛZhm{kvs:А (Zl×V)}{ep:Г}{bs:А aq}(ok:Ra P w H h)(e:H a=aA (.dN kvs ep bs)):kvs.length<=sizeLine/\(a==sysModules)=aD/\
  ∃xs,KNt H kvs xs/\h.DictOfH (Kt P w) a xs/\(xs.map λx=>x.2.1)=bs:=by
 O⟨z,y,xs,r,o,es,h1,h2,h3,h4,h5,h6⟩:=(show Yc P w H h a (.dN kvs ep bs)from ok a _ e)
 R⟨z,y,xs,r,⟨o,es,ep,h1,h2,h3,h4,λx hx=>?_,h5⟩,h6⟩;V all:∀{l:А (Zl×V)} {m:А (Zl×aq×am)},KNt H l m->∀x∈m,(Kt P w).is h x.1 x.2.1:=by
  intro l m q;induction q with
  |nil=>intro x hx;E nomatch hx
  | @cons p q ps qs hq t ih=>
   intro x hx;rcases bu.mp hx with e|hx
   ·subst e;E P4 ok (by rw[<-hq.1];E hq.2.1)
   ·E ih x hx
 E all r x hx
ЛKNt.val{kvs:А (Zl×V)}{xs:А (Zl×aq×am)}(r:KNt H kvs xs)(k:Zl):R9 (Qk kvs k) ((atKey xs k).map (·.2)):=by
 induction r with
 |nil=>E True.intro
 | @cons p q ps qs hq t ih=>
  by_cases e:p.1=k
  ·rw[Bi e];V :atKey (q::qs) k=aA q.2:=by unfold atKey;rw[List.find?_cons_of_pos (by rw[<-hq.1];E decide_eq_true e)];rfl
   rw[this];E hq.2.2
  ·rw[U5 e];V :atKey (q::qs) k=atKey qs k:=by unfold atKey;rw[List.find?_cons_of_neg (by rw[<-hq.1];simpa using e)]
   rw[this];E ih
end
МIsN(H:Hp)(a:aq):Prop:=∃kvs ep bs,H a=aA (.dN kvs ep bs)
МZue(td ty:TE):TE:=λσ H Q=>td σ H λx H1=>ty σ H1 λy H2=>∃a b kvs ep bs k v,x= .ref a/\y= .ref b/\H2 a=aA (.dN kvs ep bs)/\Ji H2 k b/\Qk kvs k=aA v/\Q v H2
МZnc(td ty tx:TE):TE:=λσ H Q=>td σ H λx H1=>∃a,x= .ref a/\IsN H1 a/\ty σ H1 λy H2=>tx σ H2 λz H3=>∃kvs ep bs k b,y= .ref b/\H3 a=aA (.dN kvs ep bs)/\Ji H3 k b/\kvs.length<sizeLine/\
 ((∃v,Qk kvs k=aA v/\Q v H3)\/(Qk kvs k=aB/\∀ep',Q z (Ya H3 a (.dN (kvs++[(k,z)]) ep' (bs++[b])))))
section
variable{X:Cx}{o i e f:c5}{td ty tx:TE}{pos apos cpos:Pos}
ЛZnd{A:dg}{P:b5}{w:da}(hu:A.units+2<f7):(Kt P w).room A.in1:=hu
ЛZk6(hu:X.A.units+2<f7)(ho:PE X o td)(hi:PE X i ty)(hs:Zoj i):PE X (.Subscript o i pos) (Zue td ty):=by intro pins s σ H Q I h;R Zap PySem.F.slot_dict_getitem.lookup hs (Wv (ho pins s σ H _ I h) λu s1 ⟨x,H1,I1,rx,q1⟩=>Wv (hi pins s1 σ H1 _ I1 q1) λiv s2 zq9=>?_);O⟨y,H2,I2,ry,a,b,kvs,ep,bs,k,v,ex,ey,ea,eb,ev,q2⟩:=zq9;subst ex ey;obtain rfl:u=bz a:=rx;obtain rfl:iv=bz b:=ry;O⟨z,hd,xs,rel,dd,_⟩:=Zhm I2.hok ea;O⟨w',hw,rw'⟩:=R9.some_of (v:=v) (o:=(atKey xs k).map (·.2)) (by rw[<-ev];E rel.val k);O⟨p,hp,hp2⟩:=c7.mp hw;R⟨dd.typeIs,wpAny_getItem_heap (Znd hu) (P4 I2.hok eb) dd hp ?_⟩;rw[hp2];E⟨v,H2,I2.tok _,rw',q2⟩
ЛZbs(hu:X.A.units+2<f7)(ho:PE X o td)(he:PE X e ty)(hf:PE X f tx)(m:M2 X o "setdefault" apos e f cpos):PE X (.Call (.Attribute o "setdefault" apos) [e,f] [] cpos) (Znc td ty tx):=by
 intro pins s σ H Q I h;R wpAny_Call_method m.base m.few m.line PySem.F.plainAttrs_dict PySem.F.slot_dict_setdefault PySem.F.type_dict_setdefault (Wv (ho pins s σ H _ I h) λu s1 zq9=>?_);O⟨x,H1,I1,rx,a,ex,d,q1⟩:=zq9;subst ex;obtain rfl:u=bz a:=rx;O⟨kvs1,ep1,bs1,ea1⟩:=d;O⟨_,_,xs1,_,dd1,_⟩:=Zhm I1.hok ea1;R⟨dd1.typeIs,λb q=>?_,?_⟩
 ·C q;O⟨ob,_,_,h1,h2,_⟩:=dd1;E⟨ob,h1,h2.2.1⟩
 rw[m.trees];R Calls.callWith_builtin rfl (Calls.evalArgs_plain (Calls.spliced_cons (Wv (he pins s1 σ H1 _ I1 q1) λiv s2 ⟨y,H2,I2,ry,q2⟩=>
  Calls.spliced_cons (Wv (hf pins s2 σ H2 _ I2 q2) λfv s3 ⟨z,H3,I3,rz,kvs,ep,bs,k,b,ey,ea,eb,hl,q3⟩=>Calls.spliced_nil ?_))))
 subst ey;obtain rfl:iv=bz b:=ry;O⟨hz,hd,xs,rel,dd,hbs⟩:=Zhm I3.hok ea;V hxl:xs.length=kvs.length:=(g6 rel).symm;R dj PySem.F.slot_dict_setdefault dd.typeIs PySem.F.entry_dict_setdefault ?_ (PySem.F.args_dict_setdefault_3 _ _ _);unfold Builtin.«dict.setdefault»;R ad (m:=Builtin.Dict.keyAndDefault "setdefault" ⟨[.ref a,.ref b,fv],[]⟩) ?_;T bc _ _ (Builtin.Dict.notOrdered "setdefault" ⟨[.ref a,.ref b,fv],[]⟩>>=_) _ _ s3;R ad (wpAny_notOrdered_dict dd.typeIs ?_);R ah (a:=(a,bz b,aA fv)) ?_;dsimp only;rw[Д (by rw[hd];simp)];R ad (Xe (knd:=Kt X.prog X.w) (Znd hu) (P4 I3.hok eb) dd (λp hp=>?_) (λhno h' dd' hs=>?_) И)
 ·rcases q3 with⟨v,ev,q⟩|⟨ev,_⟩
  ·V r:=rel.val k;rw[hp,ev]at r;E ah ⟨_,rfl,v,H3,I3.tok _,r,q⟩
  ·V r:=rel.val k;rw[hp,ev]at r;E r.elim
 ·rcases q3 with⟨v,ev,q⟩|⟨ev,q⟩
  ·V r:=rel.val k;rw[hno,ev]at r;E r.elim
  ·O⟨ob,es,ep',hq,h2,h3,h4,_,h5⟩:=dd';R ah ⟨_,rfl,z,_,Am I3 (ob:=.dN (kvs++[(k,z)]) ep' (bs++[b])) (by rw[ea];E True.intro) hs ⟨ob,hq⟩ ⟨by rw[az,fq];W,hd,xs++[(k,b,fv)],?_,ob,es,hq,h2,h3,h4,h5,by rw[b7,hbs];rfl⟩,rz,q ep'⟩;V app:∀{l:А (Zl×V)} {m:А (Zl×aq×am)},KNt H3 l m->Paired (λ(p:Zl×V) (q:Zl×aq×am)=>p.1=q.1/\Ji (Ya H3 a (.dN (kvs++[(k,z)]) ep' (bs++[b]))) p.1 q.2.1/\Zu p.2 q.2.2) (l++[(k,z)]) (m++[(k,b,fv)]):=by
    V up:∀c ys,H3 c=aA (.tup ys)->Ya H3 a (.dN (kvs++[(k,z)]) ep' (bs++[b])) c=aA (.tup ys):=λc ys ec=>by rw[Zw (Eg ec ea (λz=>nomatch z))];E ec
    intro l m r;induction r with
    |nil=>E .cons ⟨rfl,eb.mono up,rz⟩ .nil
    |cons hq t ih=>E .cons ⟨hq.1,hq.2.1.mono up,hq.2.2⟩ ih
   E app rel
ЛZhn{P:b5}{w:da}{H:Hp}(h:eh)(hb:sysModules<h.objs.size):Yc P w H (h.push {cls:=.type "dict",data:=.dict #[]}) h.objs.size (.dN [] 0 []):=
 ⟨gb _,beq_eq_false_iff_ne.mpr (Ne.symm (cj hb)),[],.nil,_, #[],ba _ rfl,⟨rfl,rfl,rfl⟩,rfl,rfl,cx,rfl⟩
МZho:TE:=λ_ H Q=>∀p,H p=aB->Q (.ref p) (Ya H p (.dN [] 0 []))
ЛZhp:PE X (.Dict [] [] pos) Zho:=λpins s σ H Q I h=>
 wpAny_Dict_empty ⟨.ref s.heap.objs.size,_,I.laid (a:=s.heap.objs.size) (o:=.dN [] 0 []) (t':=s.toks) (λ_ _ q=>av _ q) (a6 _) (Zhn s.heap I.big),rfl,h _ (I.hok.fresh (a6 _))⟩
МZbt(K:af):V->А V->Hp->VK->Prop:=λx vs H Q=>∃l b xs zs,x= .ref l/\vs=[.ref b]/\H l=aA (.lst xs)/\W8 K H b zs/\xs.length+zs.length<=sizeLine/\Q .non (Ya H l (.lst (xs++zs)))
end
end L2
namespace L2
open PySem PySem.Spec PySem.Calls PyProof.Rows
ЛZk7(l:aq)(items:Array am)(n:Г)(b:aq)(items2:Array am)(n2:Г)(dc:Б aq)(sl:Array (Б am))(hs0:¬(!items.isEmpty&&Builtin.List.listTooLong (items.size+items2.size))=aC)(hs1:items.size<=sizeLine)(hs2:items.size+items2.size<=sizeLine+1):
  Meets (Builtin.«list.extend» ⟨[.ref l,.ref b],[]⟩) (λ_ R s=>s.heap.get? l=aA {cls:=.type "list",dict:=aB,data:=.seq items n,slots:= #[]}/\s.heap.get? b=aA {cls:=.type "list",dict:=dc,data:=.seq items2 n2,slots:=sl}/\R (.ok (.ret cm)) {s with heap:=s.heap.update l (dv λx=>x++items2),toks:=s.toks}):=
 .of_wp λprog w A R s h=>by
  O⟨hp,g,d,tk,os⟩:=s;O⟨hl,hb,h⟩:=h;V f1:=AutoSeq1.idx_int;V f2:=AutoSeq1.sub_tuple_tuple;V f3:=AutoSeq1.sub_list_list;V f4:=AutoSeq1.sub_tuple_list;V f5:=AutoSeq1.sub_list_tuple;V hz':(items++items2).size<=sizeLine+1:=by rw[Array.size_append];E hs2
  wp_walk using(wpAny_updateSeq hl rfl (hz:=hs1) (_hz':=hz')),AutoSeq1.wpAny_loadPart' hl,AutoSeq1.wpAny_loadPart' hb;E⟨_,rfl,h⟩
ЛZbu{X:Cx}:MtM X "list.extend" (Zbt X.K):=by
 intro pins s σ H x vs v us Q I rx rv h;O⟨l,b,xs,zs,rfl,rfl,hH,hB,hz,q⟩:=h;C rx;O⟨u,rfl,ru⟩:=rv.one;C ru;O⟨z,its,n,r,hl,e⟩:=I.lstM hH;O⟨its2,r2,⟨o,n2,ho,hc,hdn,hd⟩,z2⟩:=I.list hB;V hl2:=r2.length;O⟨cls,dc,data,sl⟩:=o;C hc;C hd;V hsz:its.toArray.size+its2.toArray.size<=sizeLine:=by rw[bv,bv];W
 V hlong:¬(!its.toArray.isEmpty&&Builtin.List.listTooLong (its.toArray.size+its2.toArray.size))=aC:=by rw[Ze2 hsz,Bool.and_false];E bp
 R call_meets F.slot_list_extend ⟨_,e,rfl⟩ F.entry_list_extend (F.args_list_extend_2 _ _)
  (Zk7 l its.toArray n b its2.toArray n2 dc sl hlong (by rw[bv];W) И) ⟨e,ho,?_⟩
 R⟨.non,_,I.lset (its':=its++its2) hH e К (r.append r2) ?_,rfl,q⟩;rw[az];W
end L2
namespace DL
open PySem PySem.Spec PyProof.Rows L2 TT
variable{K:af}
ЛKids.appL{F:Hp}:∀{xss:А (А D)} {ws:А V} {ns:Zs} {p:Г} {b:aq},Kids K F xss ws ns->ws[p]? =aA (.ref b)->(Rm ns).Nodup->
  ∃xs vs,xss[p]? =aA xs/\(b,HO.lst vs)∈ns/\Reps K F xs vs/\∀{ys:А D} {us:А V},Reps K F ys us->∃ns',Kids K F (xss.set p (xs++ys)) ws ns'/\Rm ns'=Rm ns/\∀q∈ns',q=(b,HO.lst (vs++us))\/(q∈ns/\q.1≠b)
 |_,_,_,_,_,.nil,e,_=>by simp at e
 |_,_,_,0,b,@Kids.cons _ _ xs xss b' vs ws ns r t,e,nd=>by
  V e':b'=b:=by simpa using e
  subst e';O⟨n1,n2⟩:=d7.mp nd;R⟨xs,vs,rfl,ag,r,fun{ys us} hd=>⟨(b',.lst (vs++us))::ns,.cons (r.append hd) t,rfl,λq hq=>?_⟩⟩;rcases bu.mp hq with z|z
  ·E .inl z
  ·E .inr ⟨ar _ z,λw=>n1 (aw.mpr ⟨q,z,w⟩)⟩
 |_,_,_,p+1,b,@Kids.cons _ _ xs0 xss b' vs0 ws ns r t,e,nd=>by
  O⟨n1,n2⟩:=d7.mp nd;O⟨xs,vs,h1,h2,h3,h4⟩:=Kids.appL (p:=p) (b:=b) t (by simpa using e) n2;R⟨xs,vs,by simpa using h1,ar _ h2,h3,fun{ys us} hd=>?_⟩;O⟨ns',k1,k2,k3⟩:=h4 hd;R⟨(b',.lst vs0)::ns',by rw[List.set_cons_succ];E .cons r k1,by T b'::Rm ns'=b'::Rm ns;rw[k2],λq hq=>?_⟩;rcases bu.mp hq with z|z
  ·R .inr ⟨by rw[z];E ag,λw=>n1 ?_⟩;rw[z]at w;E aw.mpr ⟨_,h2,w.symm⟩
  ·rcases k3 q z with w|⟨w,w2⟩
   ·E .inl w
   ·E .inr ⟨ar _ w,w2⟩
НWg:А Zl->Zl->Б Г
 | [],_=>aB
 |a::r,k=>if a=k then aA 0 else(Wg r k).map (· +1)
ЛL3{k:Zl}:∀{kvs:А (Zl×V)} {p:Г},Wg (kvs.map (·.1)) k=aA p->∃v,(kvs.map (·.2))[p]? =aA v/\Qk kvs k=aA v
 | [],_,e=>by C e
 |q::r,p,e=>by
  V e:(if q.1=k then aA 0 else(Wg (r.map (·.1)) k).map (· +1))=aA p:=e;by_cases h:q.1=k
  ·rw[Е h]at e;C e;E⟨q.2,rfl,Bi h⟩
  ·rw[Д h]at e;O⟨p',e1,e2⟩:=c7.mp e;subst e2;O⟨v,h1,h2⟩:=L3 e1;E⟨v,by simpa using h1,by rw[U5 h];E h2⟩
ЛL4{k:Zl}:∀{kvs:А (Zl×V)},Wg (kvs.map (·.1)) k=aB->Qk kvs k=aB
 | [],_=>rfl
 |q::r,e=>by
  V e:(if q.1=k then aA 0 else(Wg (r.map (·.1)) k).map (· +1))=aB:=e;by_cases h:q.1=k
  ·rw[Е h]at e;C e
  ·rw[Д h]at e;rw[U5 h];E L4 (Option.map_eq_none_iff.mp e)
ЛKN.snoc{F:Hp}{kvs:А (Zl×V)}{bs:А aq}{k:Zl}{v:V}{b:aq}(h:KN F kvs bs)(hb:Ji F k b):KN F (kvs++[(k,v)]) (bs++[b]):=by
 induction h with
 |nil=>E .cons hb .nil
 |cons r t ih=>E .cons r ih
ЛZhq{F:Hp}{ks:А Zl}{xss:А (А D)}{v:V}{ns:Zs}(h:Shape K F (.oX ks xss) v ns):∃a kvs ns' ep bs,v= .ref a/\ns=(a,.dN kvs ep bs)::ns'/\KN F kvs bs/\kvs.map (·.1)=ks/\Kids K F xss (kvs.map (·.2)) ns':=by
 cases h with
 |oX kb e r=>E⟨_,_,_,_,_,rfl,rfl,kb,e,r⟩
section
variable{Z:Ent K}{H:Hp}{σ:L2.St}{Q:VK}{E:Ends}
НL5:FE:=λδ=>aA (.tmp (.oX [] []),δ)
ЛZk8(h:Ze Z L5 σ H Q):Zho σ H Q:=by O⟨F,δ,own,rv,δ',s,e,k⟩:=h;C e;intro p hp;V f:Fin Z F H σ δ own (.oX [] []) Q:=λv H' F' ns a b c t=>k v H' F' own a b c ⟨ns,t⟩;E f.one s (.oX (kvs:=[]) .nil rfl .nil) hp
ЛMw{F:Hp}{δ:Yq}{own:Г->Zs}{i:Г}{ks:А Zl}{xss:А (А D)}(s:SR Z F H σ δ own)(e:δ[i]? =aA (aA (.oX ks xss))):∃a kvs ep bs ns',σ[i]? =aA (aA (.ref a))/\own i=(a,.dN kvs ep bs)::ns'/\H a=aA (.dN kvs ep bs)/\KN F kvs bs/\kvs.map (·.1)=ks/\Kids K F xss (kvs.map (·.2)) ns':=by O⟨x,hx,sh⟩:=s.at' i _ e;O⟨a,kvs,ns',ep,bs,rfl,en,kb,ek,kd⟩:=Zhq sh;E⟨a,kvs,ep,bs,ns',hx,en,(s.ok i (a,.dN kvs ep bs) (by rw[en];E ag)).2.2,kb,ek,kd⟩
ЛZuf{F:Hp}{δ:Yq}{own:Г->Zs}{i:Г}{ks:А Zl}{xss:А (А D)}{k:Zl}{p:Г}(s:SR Z F H σ δ own)(e:δ[i]? =aA (aA (.oX ks xss)))(hp:Wg ks k=aA p):
  ∃a kvs ep bs c vs xs,σ[i]? =aA (aA (.ref a))/\H a=aA (.dN kvs ep bs)/\kvs.length=xss.length/\Qk kvs k=aA (.ref c)/\H c=aA (.lst vs)/\xss[p]? =aA xs/\xs.length=vs.length/\F c=aB/\
   ∀(ys:А D) (us:А V),Reps K F ys us->∃own',SR Z F (Ya H c (.lst (vs++us))) σ (δ.set i (aA (.oX ks (xss.set p (xs++ys))))) own':=by
 O⟨a,kvs,ep,bs,ns',hx,en,hH,kb,ek,kd⟩:=Mw s e;rw[<-ek]at hp;O⟨v,g1,g2⟩:=L3 hp;O⟨c,rfl⟩:=kd.ref g1;V nd:=s.nod i;rw[en]at nd;O⟨n1,n2⟩:=d7.mp nd;O⟨xs,vs,q1,q2,q3,q4⟩:=kd.appL g1 n2;V mb:(c,HO.lst vs)∈own i:=by rw[en];E ar _ q2
 O⟨fc,_,hHc⟩:=s.ok i _ mb;R⟨a,kvs,ep,bs,c,vs,xs,hx,hH,by V :=kd.length;rw[aj]at this;E this.symm,g2,hHc,q1,q3.length,fc,λys us r=>?_⟩;O⟨ns2,k1,k2,k3⟩:=q4 r;V hac:a≠c:=λz=>n1 (aw.mpr ⟨_,q2,z.symm⟩);R⟨_,s.change (sv':=.oX ks (xss.set p (xs++ys))) (o':=.lst (vs++us)) (ns':=(a,.dN kvs ep bs)::ns2) e hx mb (.oX kb ek k1) (λq hq=>?_) ?_⟩
 ·rcases bu.mp hq with z|z
  ·E .inr ⟨by rw[en,z];E ag,by rw[z];E hac⟩
  ·rcases k3 q z with w|⟨w,w2⟩
   ·E .inl w
   ·E .inr ⟨by rw[en];E ar _ w,w2⟩
 ·show(a::Rm ns2).Nodup;rw[k2];E nd
ЛZug{F:Hp}{δ:Yq}{own:Г->Zs}{i:Г}{ks:А Zl}{xss:А (А D)}{k:Zl}(s:SR Z F H σ δ own)(e:δ[i]? =aA (aA (.oX ks xss)))(hp:Wg ks k=aB):
  ∃a kvs ep bs,σ[i]? =aA (aA (.ref a))/\H a=aA (.dN kvs ep bs)/\kvs.length=xss.length/\Qk kvs k=aB/\
   ∀(l b:aq) (ys:А D) (us:А V) (ep':Г),H l=aB->Ji F k b->Reps K F ys us->∃own',SR Z F (Ya (Ya (Ya H l (.lst [])) a (.dN (kvs++[(k,.ref l)]) ep' (bs++[b]))) l (.lst us)) σ (δ.set i (aA (.oX (ks++[k]) (xss++[ys])))) own':=by
 O⟨a,kvs,ep,bs,ns',hx,en,hH,kb,ek,kd⟩:=Mw s e;rw[<-ek]at hp;V nd:=s.nod i;rw[en]at nd;O⟨n1,n2⟩:=d7.mp nd;V mb:(a,HO.dN kvs ep bs)∈own i:=by rw[en];E ag
 R⟨a,kvs,ep,bs,hx,hH,by V :=kd.length;rw[aj]at this;E this.symm,L4 hp,λl b ys us ep' hl hb r=>?_⟩;V hla:l≠a:=λz=>by rw[z,hH]at hl;C hl
 V eH:Ya (Ya (Ya H l (.lst [])) a (.dN (kvs++[(k,.ref l)]) ep' (bs++[b]))) l (.lst us)=Ya (Ya H l (.lst us)) a (.dN (kvs++[(k,.ref l)]) ep' (bs++[b])):=by
  funext c;unfold Ya;by_cases h1:c=l
  ·rw[Е h1];by_cases h2:c=a
   ·E absurd (h1.symm.trans h2) hla
   ·rw[Д h2,Е h1]
  ·rw[Д h1];by_cases h2:c=a
   ·rw[Е h2,Е h2]
   ·rw[Д h2,Д h2,Д h1,Д h1]
 rw[eH];V sm:=J2 (o:=HO.lst us) hl;V s1:=s.grow sm;V t:TmpOk Z F (Ya H l (.lst us)) own (.ol ys) (.ref l) [(l,.lst us)]:=by
  R⟨.ol r,K9,λq hq=>?_,λj q r hq hr z=>?_⟩
  ·obtain rfl:=au.mp hq;E⟨s.le.free hl,s.old.free hl,Yt⟩
  ·obtain rfl:=au.mp hq;V z':l=r.1:=z;V :=(s.ok j r hr).2.2;rw[<-z',hl]at this;C this
 V hb':∀p∈own i,p.1≠l:=λp hp z=>t.sep i (l,.lst us) p ag hp z.symm;R⟨_,s1.changeT (o':=.dN (kvs++[(k,.ref l)]) ep' (bs++[b])) (ns':=(a,.dN (kvs++[(k,.ref l)]) ep' (bs++[b]))::(ns'++[(l,.lst us)])) t e hx mb (.oX (kb.snoc hb) (by rw[b7,ek];rfl) (by rw[b7];E kd.snoc r)) (λp hp=>?_) ?_⟩
 ·rcases bu.mp hp with z|z
  ·E .inl z
  ·rcases bj.mp z with z|z
   ·E .inr (.inl ⟨by rw[en];E ar _ z,λw=>n1 (aw.mpr ⟨p,z,w⟩)⟩)
   ·E .inr (.inr z)
 ·show(a::(ns'++[(l,HO.lst us)]).map (·.1)).Nodup;rw[b7];R d7.mpr ⟨λz=>?_,?_⟩
  ·rcases bj.mp z with z|z
   ·E n1 z
   ·E hb' _ mb (au.mp z)
  ·R c9.mpr ⟨n2,K9,λx hx y hy z=>?_⟩;O⟨p,hp,ep⟩:=aw.mp hx;V hy':y=l:=au.mp hy;E hb' p (by rw[en];E ar _ hp) (by rw[ep,z,hy'])
НAj(ks:А Zl)(xss:А (А D))(k:Zl)(ys:А D):А Zl×А (А D):=match Wg ks k with
 |some p=>(ks,xss.set p (xss.getD p []++ys))
 |none=>(ks++[k],xss++[ys])
МokX(xss:А (А D))(n:Г):Prop:=xss.length<bg/\n<bg/\∀xs∈xss,xs.length+n<bg
open Classical in
МAa(i:Г)(fk:FE)(j:Г)(ext:Bool):FS:=λδ=>match δ[i]? with
 |some (aA (.oX _ _))=>(fk δ).bind λp=>(frz p.1 p.2).bind λq=>(nk? q.1).bind λk=>match q.2[i]?,q.2[j]? with
  |some (aA (.oX ks xss)),aA (aA (.fz d))=>(if ext=aC then(match d with| .lst ys=>aA ys|_=>aB)else aA [d]).bind λys=>if okX xss ys.length then aA (.nx (q.2.set i (aA (.oX (Aj ks xss k ys).1 (Aj ks xss k ys).2))))else aB
  |_,_=>aB
 |_=>aB
ЛZbv{i j:Г}{fk:FE}{ext:Bool}(h:Z8 Z (Aa i fk j ext) E σ H):Zal (tBM K "list" (if ext=aC then Zbt K else Bw) (Znc (Cy i) (Ze Z fk) (Zn9 Hc)) (Kv (Cy j) Hc)) E σ H:=by
 O⟨F,δ,own,fl,s,e,k⟩:=h;unfold Aa at e;split at e
 ·rename_i ks0 xss0 hi0;O⟨⟨rv,δ1⟩,e1,e⟩:=aa.mp e;O⟨⟨kd,δ2⟩,e2,e⟩:=aa.mp e;O⟨kk,e3,e⟩:=aa.mp e;dsimp only at e2 e3 e;split at e
  ·rename_i ks xss d hi hj;O⟨ys,e4,e⟩:=aa.mp e;split at e
   ·rename_i hok;C e;O⟨a,kvs0,ep0,bs0,ns0,hx0,en0,hH0,_⟩:=Mw s hi0;R⟨.ref a,hx0,a,rfl,⟨_,_,_,hH0⟩,F,δ,own,rv,δ1,s,e1,λv H1 F1 own1 sH sF s1 r1=>?_⟩;O⟨F2,sF2,s2,r2⟩:=s1.settleR r1;O⟨F3,own3,sF3,s3,r3⟩:=s2.frzR r2 e2;rw[Zhj e3]at r3;O⟨b,rfl,hb⟩:=Mv r3;O⟨y,hy,shy⟩:=s3.at' j _ hj;V ry:=J3 shy;V hus:∃us,Reps K F3 ys us/\(∀{c:aq} {vs:А V} {H4:Hp} {Q:VK},Zi F3 H4->H4 c=aA (.lst vs)->F3 c=aB->vs.length+ys.length<bg->Q .non (Ya H4 c (.lst (vs++us)))->(if ext=aC then Zbt K else Bw) (.ref c) [y] H4 Q):=by
     cases ext with
     |false=>
      obtain rfl:[d]=ys:=by simpa using e4
      R⟨[y],.cons ry .nil,fun{c vs H4 Q} le hc hf hz q=>?_⟩;E⟨c,vs,y,rfl,rfl,hc,by simpa using(by simp at hz;W:vs.length<bg),q⟩
     |true=>
      simp only[if_true]at e4;split at e4
      ·rename_i zs;C e4;cases ry with
       | @lst l _ us hl _ ru=>R⟨us,ru,fun{c vs H4 Q} le hc hf hz q=>?_⟩;E⟨c,l,vs,us,rfl,rfl,hc,Wd le hl,by rw[<-ru.length];W,q⟩
      ·C e4
    O⟨us,ru,step⟩:=hus;V lu:=ru.length;V sFt:=sF.trans (sF2.trans sF3);R⟨gb _,λl hl=>?_⟩;V sml:=J2 (o:=HO.lst []) hl;cases hp:Wg ks kk with
    |some p=>
     O⟨a',kvs,ep,bs,c,vs,xs,hx,hH,hlen,hv,hHc,q1,q2,fc,q3⟩:=Zuf (s3.grow sml) hi hp;rw[hx0]at hx;C hx;V hxs:=b9 q1;V hz:=hok.2.2 xs hxs;R⟨kvs,ep,bs,kk,b,rfl,hH,hb.mono λ_ _ q=>(s3.grow sml).le _ _ q,by rw[hlen];E hok.1,.inl ⟨.ref c,hv,.inl ⟨rfl,vs,.inl (.inl hHc)⟩,y,hy,?_⟩⟩;R step (s3.grow sml).le hHc fc И ?_;O⟨own',sr⟩:=q3 ys us ru;R k σ _ F3 own' sFt ?_;V :Aj ks xss kk ys=(ks,xss.set p (xs++ys)):=by
      unfold Aj;rw[hp];V :xss.getD p []=xs:=by rw[bi,q1];rfl
      show(ks,xss.set p (xss.getD p []++ys))=_;rw[this]
     rw[this];E sr
    |none=>
     O⟨a',kvs,ep,bs,hx,hH,hlen,hv,q3⟩:=Zug s3 hi hp;rw[hx0]at hx;C hx;V hH':(Ya H1 l (.lst [])) a=aA (.dN kvs ep bs):=sml _ _ hH;R⟨kvs,ep,bs,kk,b,rfl,hH',hb.mono λ_ _ q=>(s3.grow sml).le _ _ q,by rw[hlen];E hok.1,.inr ⟨hv,λep'=>?_⟩⟩;V hla:l≠a:=λz=>by rw[z,hH]at hl;C hl
     V hHl:(Ya (Ya H1 l (.lst [])) a (.dN (kvs++[(kk,.ref l)]) ep' (bs++[b]))) l=aA (.lst []):=by rw[Zw hla,Yt]
     V leN:Zi F3 (Ya (Ya H1 l (.lst [])) a (.dN (kvs++[(kk,.ref l)]) ep' (bs++[b]))):=λc u ec=>by
      V hca:c≠a:=λz=>by O⟨a2,kvs2,ep2,bs2,ns2,hx2,en2,_⟩:=Mw s3 hi;rw[hx0]at hx2;C hx2;V :=(s3.ok i (a,.dN kvs2 ep2 bs2) (by rw[en2];E ag)).1;rw[z,this]at ec;C ec
      rw[Zw hca];E(s3.grow sml).le _ _ ec
     R⟨.inl ⟨rfl,[],.inl (.inl hHl)⟩,y,hy,?_⟩;R step (vs:=[]) leN hHl (s3.le.free hl) (by V h1:=hok.2.1;simpa using h1) ?_;O⟨own',sr⟩:=q3 l b ys us ep' hl hb ru;R k σ _ F3 own' sFt ?_;V :Aj ks xss kk ys=(ks++[kk],xss++[ys]):=by unfold Aj;rw[hp]
     rw[this];E sr
   ·C e
  ·C e
 ·C e
end
section
variable{X:Cx}{Z:Ent X.K}{a b c:c5}{fa fb fc:FE}{pos:Pos}
ЛZbw:PE X (.Dict [] [] pos) (Ze Z L5):=Zhp.imp λ_ _ _ h=>Zk8 h
ЛZk9(i j:Г){x y:Str}{k:c5}{fk:FE}{px py p2 ap1 cp1 apos cpos:Pos}(hu:X.A.units+64<f7)(hk:PE X k (Ze Z fk))(hN:X.N[i]? =aA x:=by rfl)(hv:Vis X.env.scope x:=by first|E Or.inl rfl|E Or.inr (Or.inl rfl)|E Or.inr (Or.inr rfl))(hd:(x==("__debug__":Str))=aD:=by decide)(hcd:(x==("__classdict__":Str))=aD:=by decide)
  (hN':X.N[j]? =aA y:=by rfl) (hv':Vis X.env.scope y:=by first|E Or.inl rfl|E Or.inr (Or.inl rfl)|E Or.inr (Or.inr rfl)) (hd':(y==("__debug__":Str))=aD:=by decide) (hcd':(y==("__classdict__":Str))=aD:=by decide)
  (m:M2 X (.Name x px) "setdefault" ap1 k (.List [] p2) cp1:=by E⟨rfl,rfl,rfl,rfl⟩)
  (hbase:attributeBase (.Call (.Attribute (.Name x px) "setdefault" ap1) [k,.List [] p2] [] cp1) "append" X.env (gy (.Call (.Attribute (.Name x px) "setdefault" ap1) [k,.List [] p2] [] cp1) X.env)=gy (.Call (.Attribute (.Name x px) "setdefault" ap1) [k,.List [] p2] [] cp1) X.env:=by rfl)
  (hfew:((gx cpos (bd [.Name y py] X.env)).all (λx=>!x.1)&&(backToKw cpos (keywordEach [] X.env)).all (λx=>x.1.isSome)&&decide ([Expr.Name y py].length+([]:А Keyword).length+(if([]:А Keyword).isEmpty then 0 else 1)<30))=aC:=by rfl)
  (hline:(apos.endLine==cpos.line)=aC:=by rfl) (hs:bd [.Name y py] X.env=(aD,gy (.Name y py) X.env)::bd [] X.env:=by rfl) (hpl:(gx cpos (bd [] X.env)).any (·.1)=aD:=by rfl) (hsw:swapsWith (.Call (.Attribute (.Call (.Attribute (.Name x px) "setdefault" ap1) [k,.List [] p2] [] cp1) "append" apos) [.Name y py] [] cpos) aB pos.line X.env=pure aD:=by rfl):
  PS X (.Expr (.Call (.Attribute (.Call (.Attribute (.Name x px) "setdefault" ap1) [k,.List [] p2] [] cp1) "append" apos) [.Name y py] [] cpos) pos) (Z8 Z (Aa i fk j aD)):=
 (Al (Va PySem.F.plainAttrs_list PySem.F.slot_list_append PySem.F.type_list_append M9 (Zbs И (Ba (i:=i) hN hv hd hcd) hk (He Bv) m) (Uq (Ba (i:=j) hN' hv' hd' hcd') Bv hs) hbase hfew hline hs hpl) hsw).imp λ_ _ _ h=>Zbv (ext:=aD) h
ЛZla(i j:Г){x y:Str}{k:c5}{fk:FE}{px py p2 ap1 cp1 apos cpos:Pos}(hu:X.A.units+64<f7)(hk:PE X k (Ze Z fk))(hN:X.N[i]? =aA x:=by rfl)(hv:Vis X.env.scope x:=by first|E Or.inl rfl|E Or.inr (Or.inl rfl)|E Or.inr (Or.inr rfl))(hd:(x==("__debug__":Str))=aD:=by decide)(hcd:(x==("__classdict__":Str))=aD:=by decide)
  (hN':X.N[j]? =aA y:=by rfl) (hv':Vis X.env.scope y:=by first|E Or.inl rfl|E Or.inr (Or.inl rfl)|E Or.inr (Or.inr rfl)) (hd':(y==("__debug__":Str))=aD:=by decide) (hcd':(y==("__classdict__":Str))=aD:=by decide)
  (m:M2 X (.Name x px) "setdefault" ap1 k (.List [] p2) cp1:=by E⟨rfl,rfl,rfl,rfl⟩)
  (hbase:attributeBase (.Call (.Attribute (.Name x px) "setdefault" ap1) [k,.List [] p2] [] cp1) "extend" X.env (gy (.Call (.Attribute (.Name x px) "setdefault" ap1) [k,.List [] p2] [] cp1) X.env)=gy (.Call (.Attribute (.Name x px) "setdefault" ap1) [k,.List [] p2] [] cp1) X.env:=by rfl)
  (hfew:((gx cpos (bd [.Name y py] X.env)).all (λx=>!x.1)&&(backToKw cpos (keywordEach [] X.env)).all (λx=>x.1.isSome)&&decide ([Expr.Name y py].length+([]:А Keyword).length+(if([]:А Keyword).isEmpty then 0 else 1)<30))=aC:=by rfl)
  (hline:(apos.endLine==cpos.line)=aC:=by rfl) (hs:bd [.Name y py] X.env=(aD,gy (.Name y py) X.env)::bd [] X.env:=by rfl) (hpl:(gx cpos (bd [] X.env)).any (·.1)=aD:=by rfl) (hsw:swapsWith (.Call (.Attribute (.Call (.Attribute (.Name x px) "setdefault" ap1) [k,.List [] p2] [] cp1) "extend" apos) [.Name y py] [] cpos) aB pos.line X.env=pure aD:=by rfl):
  PS X (.Expr (.Call (.Attribute (.Call (.Attribute (.Name x px) "setdefault" ap1) [k,.List [] p2] [] cp1) "extend" apos) [.Name y py] [] cpos) pos) (Z8 Z (Aa i fk j aC)):=
 (Al (Va PySem.F.plainAttrs_list PySem.F.slot_list_extend PySem.F.type_list_extend Zbu (Zbs И (Ba (i:=i) hN hv hd hcd) hk (He Bv) m) (Uq (Ba (i:=j) hN' hv' hd' hcd') Bv hs) hbase hfew hline hs hpl) hsw).imp λ_ _ _ h=>Zbv (ext:=aC) h
end
end DL
namespace L2
open PySem PySem.Spec PySem.Calls PyProof.Rows
МZui:V->V->Hp->VK->Prop:=λx y H Q=>∃a b kvs ep bs k v,x= .ref a/\y= .ref b/\H a=aA (.dN kvs ep bs)/\Ji H k b/\Qk kvs k=aA v/\Q v H
МItn(a:aq)(n ep:Г):It:=
 ⟨λi H=>∃kvs bs,H a=aA (.dN kvs ep bs)/\kvs.length=n/\i<n,λi H x H'=>H'=H/\∃kvs bs b,H a=aA (.dN kvs ep bs)/\bs[i]? =aA b/\x= .ref b,λi H=>∃kvs bs,H a=aA (.dN kvs ep bs)/\kvs.length=n/\n<=i⟩
ЛZlb{P:b5}{w:da}{K:af}{tg:c5}(a it:aq)(n ep:Г):Turn P w K tg (Itn a n ep) [it] it (λi h=>h.IsKeyIter it a i n ep)where
 mem:=ag
 obj:=(B6 (P:=P) (w:=w) (K:=K) (tg:=tg) a it n ep).obj
 keep:=(B6 (P:=P) (w:=w) (K:=K) (tg:=tg) a it n ep).keep
 item:=by
  intro X hP hw hK hc i pins s σ H E I hf st hg;subst hP hw hK;O⟨kvs,bs,hq,hn,hi⟩:=hg;O⟨z,hd,xs,rel,od,es,g,x,c,en,nd,hbs⟩:=(show Yc X.prog X.w H s.heap a (.dN kvs ep bs)from I.hok a _ hq)
  O⟨f0,f1,f2,f3,f4,f5⟩:=hf it ag;V hkv:kvs[i]? =aA (kvs[i]'И):=ax И;O⟨vv,hv,hr⟩:=U3 rel hkv;V hz:es.size=n:=by rw[<-a8,en,aj,<-g6 rel,hn]
  V he:es[i]? =aA (entryOfKey (Kt X.prog X.w) vv):=by rw[<-c6,en,a9,hv];rfl
  R Mm st g c hz he λh' st' sb=>?_;V I1:Inv X pins σ H {s with heap:=h'}:=I.turned (t':=s.toks) (λb o hb e=>(sb.2 b hb).trans e) f0 f1 f3 f4 f5;O⟨o,e1,c1,d1⟩:=id st';E⟨.ref vv.2.1,rfl,T3 (s:={s with heap:=h'}) e1 c1 d1 Й ⟨.ref vv.2.1,H,I1,rfl,⟨rfl,kvs,bs,vv.2.1,hq,by rw[<-hbs,a9,hv];rfl,rfl⟩,st',λb hb=>(hf b hb).1⟩⟩
 done:=by
  intro X hP hw hK hc i pins s σ H E I hf st hg;subst hP hw hK;O⟨kvs,bs,hq,hn,hi⟩:=hg;O⟨z,hd,xs,rel,od,es,g,x,c,en,nd,hbs⟩:=(show Yc X.prog X.w H s.heap a (.dN kvs ep bs)from I.hok a _ hq)
  O⟨f0,f1,f2,f3,f4,f5⟩:=hf it ag;V hz:es.size=n:=by rw[<-a8,en,aj,<-g6 rel,hn]
  E Mn (I.ok.hd hc) st g c hz hi λh' eb=>⟨rfl,I.turned (t':=s.toks) (λb o hb e=>eb b o hb e) f0 f1 f3 f4 f5⟩
 self:=(B6 (P:=P) (w:=w) (K:=K) (tg:=tg) a it n ep).self
section
variable{X:Cx}{tg:c5}
МZne(tl:TE):TI:=λσ H R=>tl σ H λx H1=>∃a kvs ep bs,x= .ref a/\H1 a=aA (.dN kvs ep bs)/\R (Itn a kvs.length ep) H1
ЛZlc{l:c5}{tl:TE}(hl:PE X l tl):PI X tg l (Zne tl):=by
 intro pins s σ H R I h;R Wv (hl pins s σ H _ I h) λv s1 zq9=>?_;O⟨x,H1,I1,r1,q1⟩:=zq9;O⟨a,kvs,ep,bs,rfl,hq,q⟩:=q1;C r1;O⟨z,hd,xs,rel,od,es,g,x,c,en,nd,hbs⟩:=(show Yc X.prog X.w H1 s1.heap a (.dN kvs ep bs)from I1.hok a _ hq)
 V hz:es.size=kvs.length:=by rw[<-a8,en,aj,<-g6 rel]
 R Ml hd g x c ⟨s1.heap.objs.size,[s1.heap.objs.size],_,_,H1,rfl,I1.kept (t':=s1.toks) λb o e=>av _ e,Zlb a _ kvs.length ep,⟨_,ba _ rfl,rfl,by rw[hz];rfl⟩,λb hb=>?_,q⟩;obtain rfl:=au.mp hb;E I1.fpOk (a6 _) (I1.hok.fresh (a6 _))
end
end L2
namespace DL
open PySem PySem.Spec PyProof.Rows L2 TT
variable{K:af}
ЛZdn{F:Hp}{a:aq}{kvs:А (Zl×V)}{ep:Г}{bs:А aq}(h:F a=aA (.dN kvs ep bs))(kb:KN F kvs bs):U7 K (Itn a kvs.length ep) F ((kvs.map (·.1)).map Zk):=λF' H sF sH i=>by V q:H a=aA (.dN kvs ep bs):=sH _ _ (sF _ _ h);R⟨λd hd=>?_,λhl=>⟨kvs,bs,q,rfl,by simpa using hl⟩⟩;rw[bo,a9]at hd;O⟨kv,h1,h2⟩:=c7.mp hd;R⟨⟨kvs,bs,q,rfl,(ay.mp h1).1⟩,λx H' ⟨e1,kvs',bs',b,e2,e3,e4⟩=>?_⟩;subst e1;rw[q]at e2;C e2;subst e4;O⟨b',g1,g2⟩:=U3 (kb.mono sF) h1;rw[e3]at g1;C g1;rw[<-h2];E⟨Zi.refl _,[],cx,λ_ h=>(nomatch h),Ga g2⟩
ЛYd.dX{F H:Hp}{ks:А Zl}{ds:А D}{v:V}(le:Zi F H)(h:Yd K F H (.dX ks ds) v):∃a kvs ep bs,v= .ref a/\H a=aA (.dN kvs ep bs)/\kvs.map (·.1)=ks/\Reps K F ds (kvs.map (·.2)):=by
 O⟨sv,ns,e,n,sh,hp⟩:=h;cases sh with
 |fz r=>C e;cases r with|dX h kb e r=>E⟨_,_,_,_,rfl,le _ _ h,e,r⟩
 |ol r=>C e
 |oK e' r=>C e
 |oT kb e' r=>C e
 |oN e' r=>C n
 |oX kb' e' r=>C n
 |oL _ r=>C n
 |oQ e' r=>C e
ЛYd.nk{F H:Hp}{d:D}{k:Zl}{v:V}(le:Zi F H)(e0:nk? d=aA k)(h:Yd K F H d v):∃b,v= .ref b/\Ji H k b:=by
 rw[Zhj e0]at h;O⟨sv,ns,e,n,sh,hp⟩:=h;V nt:∀{xs:А D},Zk k≠.lst xs:=fun{xs} z=>by cases k<;> C z
 V nd:∀{ks:А Key} {xs:А D},Zk k≠.dK ks xs:=fun{ks xs} z=>by cases k<;> C z
 V ndt:∀{ks:А (А Key)} {xs:А D},Zk k≠.dT ks xs:=fun{ks xs} z=>by cases k<;> C z
 cases sh with
 |fz r=>have e:_=Zk k:=e;simp only[SV.toD]at e;subst e;O⟨b,rfl,hb⟩:=Mv r;E⟨b,rfl,hb.mono λ_ _ q=>le _ _ q⟩
 |ol r=>E absurd e.symm nt
 |oK e' r=>E absurd e.symm nd
 |oT kb e' r=>E absurd e.symm ndt
 |oN e' r=>C n
 |oX kb' e' r=>C n
 |oL _ r=>C n
 |oQ e' r=>E absurd e.symm nd
section
variable{Z:Ent K}{H:Hp}{σ:L2.St}{Q:VK}{E:Ends}
НZhr(fe:FE):FD:=λδ=>(fe δ).bind λp=>(frz p.1 p.2).bind λq=>match q.1 with
 | .dX ks _=>aA (ks.map Zk,q.2)
 |_=>aB
ЛZld{fe:FE}{R:It->Hp->В}(h:Qf Z (Zhr fe) σ H R):Zne (Ze Z fe) σ H R:=by
 O⟨F,δ,own,ds,δ',s,e,k⟩:=h;O⟨⟨rv,δ1⟩,e1,e2⟩:=aa.mp e;O⟨⟨d,δ2⟩,e3,e4⟩:=aa.mp e2;R⟨F,δ,own,rv,δ1,s,e1,λv H1 F1 own1 sH sF s1 r1=>?_⟩;O⟨F2,sF2,s2,r2⟩:=s1.settleR r1;O⟨F3,own3,sF3,s3,r3⟩:=s2.frzR r2 e3;dsimp only at e4;split at e4
 ·C e4;cases r3 with
  |dX h kb e r=>subst e;E⟨_,_,_,_,rfl,s3.le _ _ h,k _ H1 F3 own3 sH (sF.trans (sF2.trans sF3)) s3 (Zdn h kb)⟩
 ·C e4
НZhs(d1 d2:D):Б SV:=match d1 with
 | .dX ks vs=>(nk? d2).bind λk=>(look ks vs k).bind λd=>aA (.fz d)
 |_=>aB
ЛZuj:Y8 Z Zui Zhs:=by
 intro F H σ δ own x y d1 d2 sv Q s r1 r2 e k;unfold Zhs at e;split at e
 ·rename_i ks vs;O⟨kk,e1,e2⟩:=aa.mp e;O⟨d,e3,e4⟩:=aa.mp e2;C e4;O⟨a,kvs,ep,bs,rfl,ha,rfl,rr⟩:=r1.dX s.le;O⟨b,rfl,hb⟩:=r2.nk s.le e1;V z:=Ao kk kvs _ rr;rw[e3]at z;O⟨v,z1,z2⟩:=z;E⟨a,b,kvs,ep,bs,kk,v,rfl,rfl,ha,hb,z1,k.fz s z2⟩
 ·C e
НL6(i:Г)(fe:FE):FS:=λδ=>match δ[i]? with
 |some (aA (.ol _))=>(fe δ).bind λp=>(frz p.1 p.2).bind λq=>match q.1,q.2[i]? with
  | .lst ys,aA (aA (.ol xs))=>if xs.length+ys.length<=bg then aA (.nx (q.2.set i (aA (.ol (xs++ys)))))else aB
  |_,_=>aB
 |_=>aB
ЛZpz{i:Г}{fe:FE}(h:Z8 Z (L6 i fe) E σ H):Zal (tBM K "list" (Zbt K) (Cy i) (Kv (Ze Z fe) Hc)) E σ H:=by
 O⟨F,δ,own,fl,s,e,k⟩:=h;unfold L6 at e;split at e
 ·rename_i xs0 hx0;O⟨⟨rv,δ1⟩,e1,e2⟩:=aa.mp e;O⟨⟨d,δ2⟩,e3,e4⟩:=aa.mp e2;O⟨v,hv,sh⟩:=s.at' i _ hx0;O⟨a,vs0,ev,en,r0⟩:=Oa sh;R⟨v,hv,?_,F,δ,own,rv,δ1,s,e1,λy H1 F1 own1 sH sF s1 r1=>?_⟩
  ·subst ev;E .inl ⟨rfl,vs0,.inl (.inl (s.ok i (a,.lst vs0) (by rw[en];E ag)).2.2)⟩
  O⟨F2,sF2,s2,r2⟩:=s1.settleR r1;O⟨F3,own3,sF3,s3,r3⟩:=s2.frzR r2 e3;dsimp only at e4;split at e4
  ·rename_i ys xs hx;by_cases hz:xs.length+ys.length<=bg
   ·rw[Е hz]at e4;C e4;O⟨v',hv',sh'⟩:=s3.at' i _ hx;rw[hv]at hv';C hv';O⟨b,vs,eb,en',r'⟩:=Oa sh';V mb:(b,HO.lst vs)∈own3 i:=by rw[en'];E ag
    subst eb;cases r3 with
    | @lst l _ us hl _ ru=>R⟨b,l,vs,us,rfl,rfl,(s3.ok i _ mb).2.2,Wd s3.le hl,by rw[<-r'.length,<-ru.length];E hz,?_⟩;E k σ _ F3 _ (sF.trans (sF2.trans sF3)) (s3.change (sv':=.ol (xs++ys)) (o':=.lst (vs++us)) (ns':=[(b,.lst (vs++us))]) hx hv mb (.ol (r'.append ru)) (λp hp=>.inl (au.mp hp)) K9)
   ·rw[Д hz]at e4;C e4
  ·C e4
 ·C e
НP8(j ia il:Г):FS:=λδ=>match δ[ia]?,δ[il]? with
 |some (aA (.fz (.lst hs))),aA (aA (.ol xs))=>(xs[xs.length- 1]?).bind λd=>(ixD (.lst hs) d).bind λsv=>(stow j (.tmp sv) (δ.set il (aA (.ol xs.dropLast)))).bind λδ'=>aA (.nx δ')
 |_,_=>aB
ЛReps.dropLast{F:Hp}{ds:А D}{vs:А V}(r:Reps K F ds vs):Reps K F ds.dropLast vs.dropLast:=by rw[List.dropLast_eq_take,List.dropLast_eq_take,<-r.length];E r.take _
ЛZle{j ia il:Г}(h:Z8 Z (P8 j ia il) E σ H):Zcp (tOp (rIx K) (Cy ia) (Zrs K "list" Zru (Cy il))) (Eh j) E σ H:=by
 O⟨F,δ,own,fl,s,e,k⟩:=h;unfold P8 at e;split at e
 ·rename_i hs xs hia hil;O⟨d,e1,e⟩:=aa.mp e;O⟨sv,e2,e⟩:=aa.mp e;O⟨δ2,e3,e⟩:=aa.mp e;C e;O⟨x,hx,shx⟩:=s.at' ia _ hia;V rx:=J3 shx;O⟨y,hy,shy⟩:=s.at' il _ hil;O⟨a,vs,ea,en,ra⟩:=Oa shy;subst ea;V mb:(a,HO.lst vs)∈own il:=by rw[en];E ag
  V hHa:=(s.ok il _ mb).2.2;O⟨v,hv,rv⟩:=ra.get e1;V hl:=ra.length;R⟨x,hx,.ref a,hy,.inl ⟨rfl,vs,.inl (.inl hHa)⟩,a,vs,v,rfl,rfl,hHa,by rw[<-hl];E hv,?_⟩;V s2:=s.change (sv':=.ol xs.dropLast) (o':=.lst vs.dropLast) (ns':=[(a,.lst vs.dropLast)]) hil hy mb (.ol ra.dropLast) (λp hp=>.inl (au.mp hp)) K9;R Zso F _ σ _ _ x v (.lst hs) d sv _ s2 (Yd.of rx) (Yd.of rv) e2 λw H3 F3 ns sH sF s3 t3=>?_;O⟨F4,own4,sF4,s4⟩:=s3.stow (rv:=.tmp sv) (v:=w) ⟨ns,t3⟩ e3;E k _ H3 F4 own4 (sF.trans sF4) s4
 ·C e
НZbx(j:Г)(f1:FE):FE:=λδ=>match δ[j]? with
 |some (aA (.fz kd))=>kd.key?.bind λk=>(Zg f1 Zn δ).bind λp=>match p.1 with
  | [v1]=>aA (.tmp (.oK [k] [v1]),p.2)
  |_=>aB
 |_=>aB
ЛZlf{f1:FE}{j:Г}(h:Ze Z (Zbx j f1) σ H Q):Zgp [(Cy j,Ze Z f1)] σ H Q:=by
 O⟨F,δ,own,rv,δ',s,e,k⟩:=h;unfold Zbx at e;split at e
 ·rename_i kd hx;O⟨kk,e0,e⟩:=aa.mp e;O⟨⟨ds,δ1⟩,e1,e2⟩:=aa.mp e;dsimp only at e2;split at e2
  ·rename_i v1;C e2;O⟨v,hv,sh⟩:=s.at' j _ hx;V r:=J3 sh;V ev:v=kV kk:=Zax e0 r;V hd:W0 Z (Zg f1 Zn) σ H (λvs H'=>∃kvs:А (Key×V),([kV kk].zip vs)=kvs.map (λkv=>(kV kv.1,kv.2))/\kvs.length<=15/\∀p ep,H' p=aB->Q (.ref p) (Ya H' p (.dK (Bb [] kvs) ep))):=by
    R⟨F,δ,own,[v1],_,s,e1,λvs H1 F1 own1 sH sF s1 r1=>?_⟩;obtain⟨w1,rfl⟩:∃w1,vs=[w1]:=by
     cases r1 with
     |cons h t=>C t;E⟨_,rfl⟩
    R⟨[(kk,w1)],rfl,by T 1<=15;decide,λp ep hp=>?_⟩;V nd:((([]:А (Key×V))++[(kk,w1)]).map (·.1)).Nodup:=by simp
    rw[Ll _ [] nd,dq];E Fin.one (λw H' F' ns a b c t=>k w H' F' own1 (sH.trans a) (sF.trans b) c ⟨ns,t⟩) s1 (.oK rfl r1) hp
   V h2:=Et (fe:=f1) (fd:=Zn) hd;R⟨v,hv,?_⟩;rw[ev];R De (λu H1 q=>?_) h2;V z:=Lb q;E z
  ·C e2
 ·C e
end
section
variable{X:Cx}{Z:Ent X.K}{a b c:c5}{fa fb fc:FE}{pos:Pos}
ЛZp0{tg:c5}(ha:PE X a (Ze Z fa)):PI X tg a (Qf Z (Zhr fa)):=λpins s σ H R I h=>Zlc ha pins s σ H R I (Zld h)
ЛZnf(hu:X.A.units+64<f7)(ha:PE X a (Ze Z fa))(hb:PE X b (Ze Z fb))(hs:N4 b:=by intro _ _;rfl):PE X (.Subscript a b pos) (Ze Z (Zo Zhs fa fb)):=λpins s σ H Q I h=>Zk6 И ha hb hs pins s σ H Q I (La Zuj h)
ЛDv(i:Г){x:Str}{px apos cpos:Pos}(hb:PE X b (Ze Z fb))(hN:X.N[i]? =aA x:=by rfl)(hv:Vis X.env.scope x:=by first|E Or.inl rfl|E Or.inr (Or.inl rfl)|E Or.inr (Or.inr rfl))(hd:(x==("__debug__":Str))=aD:=by decide)
  (hcd:(x==("__classdict__":Str))=aD:=by decide) (hbase:attributeBase (.Name x px) "extend" X.env (gy (.Name x px) X.env)=gy (.Name x px) X.env:=by rfl)
  (hfew:((gx cpos (bd [b] X.env)).all (λx=>!x.1)&&(backToKw cpos (keywordEach [] X.env)).all (λx=>x.1.isSome)&&decide ([b].length+([]:А Keyword).length+(if([]:А Keyword).isEmpty then 0 else 1)<30))=aC:=by rfl)
  (hline:(apos.endLine==cpos.line)=aC:=by rfl) (hs:bd [b] X.env=(aD,gy b X.env)::bd [] X.env:=by rfl) (hpl:(gx cpos (bd [] X.env)).any (·.1)=aD:=by rfl) (hsw:swapsWith (.Call (.Attribute (.Name x px) "extend" apos) [b] [] cpos) aB pos.line X.env=pure aD:=by rfl):
  PS X (.Expr (.Call (.Attribute (.Name x px) "extend" apos) [b] [] cpos) pos) (Z8 Z (L6 i fb)):=
 (Al (Va PySem.F.plainAttrs_list PySem.F.slot_list_extend PySem.F.type_list_extend Zbu (Ba (i:=i) hN hv hd hcd) (Uq hb Bv hs) hbase hfew hline hs hpl) hsw).imp λ_ _ _ h=>Zpz h
ЛZlg(j ia il:Г){x y z:Str}{py pz apos cpos p1 p2:Pos}(hn:X.N.Nodup)(hy:PE X (.Name y py) (Cy ia))(hz:PE X (.Name z pz) (Cy il))(hj:X.N[j]? =aA x:=by rfl)(hl:Loc X.env.scope x:=by first|E Or.inl rfl|E Or.inr rfl)
  (hbase:attributeBase (.Name z pz) "pop" X.env (gy (.Name z pz) X.env)=gy (.Name z pz) X.env:=by rfl) (hline:(apos.endLine==cpos.line)=aC:=by rfl)
  (hs:swapsWith (.Subscript (.Name y py) (.Call (.Attribute (.Name z pz) "pop" apos) [] [] cpos) p2) (aA (.Name x p1)) pos.line X.env=pure aD:=by rfl) (hf:X.fn x=aC\/X.env.scope.names.lookup x=aA .local:=by first|E .inl rfl|E .inr rfl):
  PS X (.Assign [.Name x p1] (.Subscript (.Name y py) (.Call (.Attribute (.Name z pz) "pop" apos) [] [] cpos) p2) pos) (Z8 Z (P8 j ia il)):=
 (Zep hn hj hl (Zl8 Zey hy (Zoh PySem.F.plainAttrs_list PySem.F.slot_list_pop PySem.F.type_list_pop Zoi hz hbase hline) (by intro _ _;rfl)) hs hf).imp λ_ _ _ h=>Zle h
ЛZlh(j:Г){x:Str}{p2:Pos}(hb:PE X b (Ze Z fb))(hN:X.N[j]? =aA x:=by rfl)(hv:Vis X.env.scope x:=by first|E Or.inl rfl|E Or.inr (Or.inl rfl)|E Or.inr (Or.inr rfl))(hd:(x==("__debug__":Str))=aD:=by decide)
  (hcd:(x==("__classdict__":Str))=aD:=by decide):PE X (.Dict [aA (.Name x p2)] [b] pos) (Ze Z (Zbx j fb)):=
 (Zgq (Zfb (Ba (i:=j) hN hv hd hcd) hb Zjp) З З К (by T 1<=15;decide)).imp λ_ _ _ h=>Zlf h
end
end DL
namespace L2
open PySem PySem.Spec PySem.Calls PyProof.Rows DL TX
section
variable{X:Cx}
МZy7(_:af):А V->Hp->VK->Prop:=λvs H Q=>∃a kvs ep ss,vs=[.ref a]/\H a=aA (.dK kvs ep)/\kvs.map (·.1)=ss.map df/\ss.length<64/\∀q,H q=aB->Q (.ref q) (Ya H q (.lst ((Zkz ss).map V.str)))
end
end L2
namespace DL
open PySem PySem.Spec PySem.Calls PyProof.Rows L2 TX
variable{K:af}
Мtxk?:А Key->Б (А Str)
 | []=>aA []
 | .inr x::r=>(txk? r).bind λl=>aA (x::l)
 | .inl _::_=>aB
@[simp] theorem Zli:∀ss:А Str,txk? (ss.map df)=some ss
 | []=>rfl
 |s::ss=>by rw[a7,txk?,Zli ss];rfl
МZy8:А D->Б SV
 | [.dK ks _]=>(txk? ks).bind λss=>if ss.length<64 then aA (.ol ((Zkz ss).map D.str))else aB
 |_=>aB
end DL
namespace DL
open PySem PySem.Spec PyProof.Rows L2 TT
variable{K:af}
open Classical in
Мres(S:aq->В)(F:Hp):Hp:=λb=>if S b then F b else aB
inductive AR:D->В where
 |non:AR .non
 |bl (b:Bool):AR (.bl b)
 |int (i:Int):AR (.int i)
 |str (x:Str):AR (.str x)
 |tup {xs:А D} (h:∀d∈xs,AR d):AR (.tup xs)
 |dK {ks:А Key} {vs:А D} (h:∀d∈vs,AR d):AR (.dK ks vs)
 |txs {ss:А Str} (h:ss≠[]):AR (.lst (ss.map D.str))
 |lsts {xss:А (А Str)} (h:∀ss∈xss,ss≠[]):AR (.lst (xss.map λss=>.lst (ss.map D.str)))
МZp1(F:Hp)(b:aq):Prop:=∀t rest,F b=aA (.lst (.ref t::rest))->∃us,F t=aA (.lst us)
МCut(K:af)(F:Hp)(d:D):Prop:=∀v,Rep K F d v->∃S:aq->В,Rep K (res S F) d v/\∀b,S b->Zp1 F b
МFlV(G:Hp)(u:V):Prop:=∃t l,u= .ref t/\G t=aA (.tup ((Wy l).map kV))
МMt(G:Hp)(b:aq):Prop:=∃t rest x ws,G b=aA (.lst (.ref t::rest))/\G t=aA (.tup (.str x::ws))
МChg(B:Г)(G G':Hp):Prop:=∀b o,G b=aA o->G' b=aA o\/(Mt G b/\∃us,G' b=aA (.lst us)/\us.length<=B/\∀u∈us,FlV G' u)
inductive PlD:D->В where
 |non:PlD .non
 |bl (b:Bool):PlD (.bl b)
 |int (i:Int):PlD (.int i)
 |str (x:Str):PlD (.str x)
 |tup {xs:А D} (h:∀d∈xs,PlD d):PlD (.tup xs)
 |lst {xs:А D} (h:∀d∈xs,PlD d):PlD (.lst xs)
МZ3n(K:af)(G G':Hp)(d:D):Prop:=∀v,Rep K G d v->∃d',Rep K G' d' v/\((∃xs,d= .lst xs)->∃xs',d'= .lst xs')
МFlL(m:Г)(xs:А D):Prop:=xs≠[]/\xs.length<=m/\∀e∈xs,∃(x:Str) (l:А Str),e= .tup ((x::l).map D.str)
МHpD(m:Г)(d:D):Prop:=∃xs ys zs,d= .tup [.lst xs,.lst ys,.lst zs]/\FlL m xs/\zs≠[]/\(∀e∈zs,∃(x:Str) (r:А D),e= .tup (.str x::r))/\PlD (.lst xs)/\PlD (.lst ys)/\PlD (.lst zs)
section
variable{Z:Ent K}{H:Hp}{σ:L2.St}{Q:VK}{E:Ends}
МZuk(i j n:Г)(ds:А D)(δ1:Yq)(sv:SV)(T1 T2:FT):Prop:=
 ds.length=n/\(∀d∈ds,AR d)/\i≠j/\i<δ1.length/\j<δ1.length/\∃(m:Г) (hs:А D),sv.toD= .lst hs/\(∀h∈hs,HpD m h)/\m+hs.length<bg/\(∃δ2,T1 (δ1.set i (aA (.fz sv.toD)))=aA (aD,δ2))/\
  ∀xs ys zs,∃δ4,T2 ((δ1.set i aB).set j (aA (.fz (.tup [.lst xs,.lst ys,.lst zs]))))=aA (aD,δ4)
open Classical in
МZy9(i j n:Г)(g:А D->Б SV)(fd:FD)(T1 T2:FT):FS:=λδ=>(fd δ).bind λp=>(g p.1).bind λsv=>
 if Zuk i j n p.1 p.2 sv T1 T2 then aA (.nx ((p.2.set i aB).set j aB))else aB
аtAt(j:Г)(k:Int)(K:af):TE:=tOp (rIx K) (Cy j) (tC (.int k))
end
end DL
namespace DL
open PySem PySem.Spec PyProof.Rows L2 TT
end DL
namespace DL
open PySem PySem.Spec PyProof.Rows L2 TX TT
variable{K:af}
аNTs(H:Hp)(bs:А aq)(ks:А Zl):Prop:=Paired (λ(b:aq) (k:Zl)=>Ji H k b) bs ks
open Classical in
МKg(H:Hp)(k:Zl):am->Bool:=λw=>decide (∃b,w= .ref b/\Ji H k b)
ЛZby{a b:А Str}(h:(Wy a).map kV=(Wy b).map kV):a=b:=by
 V e:∀l:А Str,(Wy l).map kV=l.map V.str:=λl=>by unfold Wy;rw[bo];rfl
 rw[e,e]at h;E Vy h
ЛZht{H:Hp}{k k':Zl}{b:aq}(h:Ji H k b)(h':Ji H k' b):k=k':=by
 cases k with
 |inl l=>
  cases k' with
  |inl l'=>have e:=HO.tup.inj (dk.inj ((show H b=_ from h).symm.trans h'));rw[Zby e]
  |inr p=>
   O⟨c,h1,h2⟩:=h';V e:=HO.tup.inj (dk.inj ((show H b=_ from h).symm.trans h1));cases l with
   |nil=>simp[Wy]at e
   |cons x l=>simp[Wy,kV]at e
 |inr p=>
  O⟨c,h1,h2⟩:=h;cases k' with
  |inl l'=>
   V e:=HO.tup.inj (dk.inj (h1.symm.trans (show H b=_ from h')));cases l' with
   |nil=>simp[Wy]at e
   |cons x l=>simp[Wy,kV]at e
  |inr p'=>O⟨c',h1',h2'⟩:=h';V e:=HO.tup.inj (dk.inj (h1.symm.trans h1'));simp at e;O⟨e1,e2⟩:=e;subst e2;V e3:=HO.tup.inj (dk.inj (h2.symm.trans h2'));O⟨n,l⟩:=p;O⟨n',l'⟩:=p';rw[show n=n' from e1,show l=l' from Zby e3]
ЛXf{H:Hp}{k k':Zl}{b:aq}(h:Ji H k' b):Kg H k (.ref b)=decide (k'=k):=by
 unfold Kg;by_cases e:k'=k
 ·subst e;rw[decide_eq_true rfl];E@decide_eq_true _ (Classical.propDecidable _) ⟨b,rfl,h⟩
 ·rw[Ж e];E@decide_eq_false _ (Classical.propDecidable _) λ⟨b',z,q⟩=>by C z;E e (Zht h q)
ЛIl{H:Hp}{k:Zl}:∀{bs:А aq} {ks:А Zl},NTs H bs ks->(bs.map bz).any (Kg H k)=ks.any λx=>decide (x=k)
 |_,_,.nil=>rfl
 |c::bs,x::ks,.cons h t=>by rw[a7,List.any_cons,List.any_cons,Xf h,Il t]
МZlj(K:af)(neg:Bool):R2:=λx y H Q=>∃b k a bs ks,x= .ref b/\Ji H k b/\y= .ref a/\W8 K H a (bs.map V.ref)/\NTs H bs ks/\(∀k'∈ks,Wp 48 (Zk k') (Zk k)=aA (decide (k'=k)))/\Q (.bl (if neg then !(ks.any λx=>decide (x=k))else ks.any λx=>decide (x=k))) H
section
variable{X:Cx}{pins:А (aq×Obj)}{σ:L2.St}{H:Hp}{s:ao}
ЛIm(I:Inv X pins σ H s){A:dg}(hu:A.units+48<f7){b:aq}{k:Zl}(hb:Ji H k b):∀{bs:А aq} {ks:А Zl},NTs H bs ks->(∀k'∈ks,Wp 48 (Zk k') (Zk k)=aA (decide (k'=k)))->∀u∈bs.map bz,SeqAt.EqAt A s u (.ref b) (Kg H k u)
 |_,_,.nil,_,u,hm=>nomatch hm
 |c::bs,x::ks,.cons h t,hq,u,hm=>by
  rw[a7]at hm;rcases bu.mp hm with z|z
  ·subst z;rw[Xf h];E Tf I (Zi.refl H) 48 A (Zk x) (Zk k) _ (.ref c) (.ref b) _ _ hu (Ga h) rfl (Ga hb) rfl (hq x ag)
  ·E Im I hu hb t (λk' hk=>hq k' (ar _ hk)) u z
ЛZp2(hu:X.A.units+64<f7):Cw X (gz .In) (Zlj X.K aD):=by intro pins s σ H x y v u Q I rx ry h;O⟨b,k,a,bs,ks,rfl,hb,rfl,hq,ht,he,q⟩:=h;C rx;C ry;O⟨its,r,pl,hz⟩:=I.list hq;V ei:=Pc r;subst ei;R SeqAt.in_listAt (Kg H k) pl.isList (λw hw=>Im I (by V :X.A.in1.units=X.A.units+1:=rfl;W) hb ht he w (by simpa using hw)) ⟨.bl _,H,I,rfl,?_⟩;rw[show(bs.map bz).toArray.any (Kg H k)=(bs.map bz).any (Kg H k) by simp,Il ht];E q
ЛZdo(hu:X.A.units+64<f7):Cw X (gz .NotIn) (Zlj X.K aC):=by intro pins s σ H x y v u Q I rx ry h;O⟨b,k,a,bs,ks,rfl,hb,rfl,hq,ht,he,q⟩:=h;C rx;C ry;O⟨its,r,pl,hz⟩:=I.list hq;V ei:=Pc r;subst ei;R SeqAt.notIn_listAt (Kg H k) pl.isList (λw hw=>Im I (by V :X.A.in1.units=X.A.units+1:=rfl;W) hb ht he w (by simpa using hw)) ⟨.bl _,H,I,rfl,?_⟩;rw[show(bs.map bz).toArray.any (Kg H k)=(bs.map bz).any (Kg H k) by simp,Il ht];E q
end
open Classical in
МinN(d1 d2:D):Б SV:=match d2 with
 | .lst xs=>(nk? d1).bind λk=>(nks? xs).bind λks=>if(∀k'∈ks,Wp 48 (Zk k') (Zk k)=aA (decide (k'=k)))then aA (.fz (.bl (ks.any λx=>decide (x=k))))else aB
 |_=>aB
open Classical in
МRy(d1 d2:D):Б SV:=match d2 with
 | .lst xs=>(nk? d1).bind λk=>(nks? xs).bind λks=>if(∀k'∈ks,Wp 48 (Zk k') (Zk k)=aA (decide (k'=k)))then aA (.fz (.bl (!(ks.any λx=>decide (x=k)))))else aB
 |_=>aB
ЛZp3{k:Zl}{ks:А Zl}(h:∀k'∈ks,Wp 48 (Zk k') (Zk k)=aA (decide (k'=k))):inN (Zk k) (.lst (ks.map Zk))=aA (.fz (.bl (ks.any λx=>decide (x=k)))):=by unfold inN;dsimp only;rw[Ca];dsimp only[ck];rw[Ar];dsimp only[ck];rw[Е h]
ЛZdp{k:Zl}{ks:А Zl}(h:∀k'∈ks,Wp 48 (Zk k') (Zk k)=aA (decide (k'=k))):Ry (Zk k) (.lst (ks.map Zk))=aA (.fz (.bl (!(ks.any λx=>decide (x=k))))):=by unfold Ry;dsimp only;rw[Ca];dsimp only[ck];rw[Ar];dsimp only[ck];rw[Е h]
ЛDw{F:Hp}:∀{ks:А Zl} {vs:А V},Reps K F (ks.map Zk) vs->∃bs,vs=bs.map V.ref/\NTs F bs ks
 | [],_,h=>by C h;E⟨[],rfl,.nil⟩
 |k::ks,_,h=>by
  cases h with
  |cons h t=>O⟨b,rfl,hb⟩:=Mv h;O⟨bs,rfl,hbs⟩:=Dw t;E⟨b::bs,rfl,.cons hb hbs⟩
section
variable{Z:Ent K}
ЛZul:Y8 Z (Zlj K aD) inN:=by
 intro F H σ δ own x y d1 d2 sv Q s r1 r2 e k;unfold inN at e;split at e
 ·O⟨kk,e1,e⟩:=aa.mp e;O⟨ks,e2,e⟩:=aa.mp e;split at e
  ·rename_i hq;C e;O⟨b,rfl,hb⟩:=r1.nk s.le e1;O⟨a,us,rfl,hs,ru⟩:=r2.lst s.le;rw[P6 e2]at ru;O⟨bs,rfl,tb⟩:=Dw ru;E⟨b,kk,a,bs,ks,rfl,hb,rfl,hs,Paired.mapP tb λ_ _ z=>z.mono λ_ _ w=>s.le _ _ w,hq,k.fz s (.bl _)⟩
  ·C e
 ·C e
ЛZhu:Y8 Z (Zlj K aC) Ry:=by
 intro F H σ δ own x y d1 d2 sv Q s r1 r2 e k;unfold Ry at e;split at e
 ·O⟨kk,e1,e⟩:=aa.mp e;O⟨ks,e2,e⟩:=aa.mp e;split at e
  ·rename_i hq;C e;O⟨b,rfl,hb⟩:=r1.nk s.le e1;O⟨a,us,rfl,hs,ru⟩:=r2.lst s.le;rw[P6 e2]at ru;O⟨bs,rfl,tb⟩:=Dw ru;E⟨b,kk,a,bs,ks,rfl,hb,rfl,hs,Paired.mapP tb λ_ _ z=>z.mono λ_ _ w=>s.le _ _ w,hq,k.fz s (.bl _)⟩
  ·C e
 ·C e
end
end DL
namespace RV
open PySem PyProof.Rows
ЛZbz:mroOf (.type "reversed")=pure [.type "reversed",.type "object"]:=by rw[mroOf_type];kernel_rfl
ЛIo:typeLookup (.type "reversed") "__new__"=pure (aA (.builtin "reversed.__new__")):=by rw[typeLookup_type,builtinLookup_eq_fast];kernel_rfl
ЛP9(a:am):checkTypeCall "reversed" ⟨[a],[]⟩=pure ():=by kernel_rfl
ЛXg(a:am):checkBuiltinCall "reversed.__new__" ⟨[.type "reversed",a],[]⟩=pure ():=by kernel_rfl
ЛZdq:entryFor table "reversed.__new__"=aA Builtin.«reversed.__new__»:=entryFor_of_tree (by kernel_rfl)
ЛZlk:isSubtype (.type "reversed") (.type "reversed")=pure aC:=by rw[isSubtype_type];kernel_rfl
ЛZhv(self:am):bindSpecial (.builtin "list.__reversed__") self=pure (.builtin "list.__reversed__",[self]):=by unfold bindSpecial;rw[F.type_list_reversed];rfl
ЛZhw{prog:b5}{w:da}{A:dg}{E:am->ao->В}{s:ao}{l:aq}{items:Array am}{n:Г}{dct:Б aq}{sl:Array (Б am)}{Q:am->ao->В}(hl:s.heap.get? l=aA {cls:=.type "list",dict:=dct,data:=.seq items n,slots:=sl})
  (h:Q (.ref s.heap.objs.size) {s with heap:=s.heap.push {cls:=.type "list_reverseiterator",data:=.fields #[.ref l,rawInt (items.size- 1:Int)]}}):bc (b4 prog w) A (call (.builtin "list.__reversed__") [.ref l]) Q E s:=by
 R dj F.slot_list_reversed ⟨_,hl,rfl⟩ F.entry_list_reversed ?_ (F.args_list_reversed_1 _);unfold Builtin.«list.__reversed__»;O⟨hp,g,d,tk,os⟩:=s;wp_walk using AutoSeq1.wpAny_loadPart' hl;E⟨_,rfl,h⟩
ЛKh(l:aq)(items:Array am)(n:Г)(dct:Б aq)(sl:Array (Б am)):
  Meets (Builtin.«reversed.__new__» ⟨[.type "reversed",.ref l],[]⟩) (λ_ R s=>s.heap.get? l=aA {cls:=.type "list",dict:=dct,data:=.seq items n,slots:=sl}/\
   R (.ok (.ret (.ref s.heap.objs.size))) {s with heap:=s.heap.push {cls:=.type "list_reverseiterator",data:=.fields #[.ref l,rawInt (items.size- 1:Int)]}}):=
 .of_wp λprog w A R s h=>by
  O⟨hp,g,d,tk,os⟩:=s;O⟨hl,h⟩:=h;V hsub:=Zlk;V hL:Heap.IsList (Shared.heap ⟨hp,g,d,tk,os⟩) l items:=⟨_,hl,rfl,n,rfl⟩
  wp_walk using AutoSeq1.wpAny_loadPart' hl;T bc _ _ (typeLookup (.type "list") (gr "__reversed__")) _ _ _;rw[F.slot_list_reversed.lookup];R ah ?_;dsimp only;rw[Zhv];R ad (ah ?_);dsimp only;R wpAny_ite_false rfl ?_;R ad (wpAny_rule ?_);R ad (Zhw (A:=A.in1) hl ?_);E ah ⟨_,rfl,h⟩
ЛKi:Slot "reversed" "__init__" "object.__init__":=
 .of (owner:="object") (n:="__init__") (by rw[typeLookup_type,builtinLookup_eq_fast];kernel_rfl) (by decide+kernel) (by decide+kernel) (by decide+kernel)
  (by first|E .inl (by decide+kernel)|E .inr (by decide+kernel)) (by rw[isSubtype_type];kernel_rfl)
ЛDx:TypeCalled "reversed" "reversed.__new__" "object.__init__":=
 ⟨by decide+kernel,by decide+kernel,⟨_,_,Zbz⟩,madeBy_type Zbz Io (by decide+kernel),by decide+kernel,by rw[isSubtype_type];kernel_rfl,Ki⟩
end RV
namespace RV
open PySem PyProof.Rows
ЛYu:Slot "list_reverseiterator" "__next__" "list_reverseiterator.__next__":=
 .of (owner:="list_reverseiterator") (n:="__next__") (by rw[typeLookup_type,builtinLookup_eq_fast];kernel_rfl) (by decide+kernel) (by decide+kernel) (by decide+kernel)
  (by first|E .inl (by decide+kernel)|E .inr (by decide+kernel)) (by rw[isSubtype_type];kernel_rfl)
ЛL7:Slot "list_reverseiterator" "__iter__" "list_reverseiterator.__iter__":=
 .of (owner:="list_reverseiterator") (n:="__iter__") (by rw[typeLookup_type,builtinLookup_eq_fast];kernel_rfl) (by decide+kernel) (by decide+kernel) (by decide+kernel)
  (by first|E .inl (by decide+kernel)|E .inr (by decide+kernel)) (by rw[isSubtype_type];kernel_rfl)
ЛQu:entryFor table "list_reverseiterator.__next__"=aA Builtin.«list_reverseiterator.__next__»:=entryFor_of_fast (by kernel_rfl)
ЛRs:entryFor table "list_reverseiterator.__iter__"=aA Builtin.«dict_keyiterator.__iter__»:=
 entryFor_alias (id':="dict_keyiterator.__iter__") (by kernel_rfl) rfl (by decide+kernel) (by kernel_rfl)
ЛJk(a:am):argsOk "list_reverseiterator.__next__" ⟨[a],[]⟩:=by unfold argsOk;kernel_rfl
ЛZdr(a:am):argsOk "list_reverseiterator.__iter__" ⟨[a],[]⟩:=by unfold argsOk;kernel_rfl
ЛZum:isSubtype (.type "list_reverseiterator") (.type "reversed")=pure aD:=by rw[isSubtype_type];kernel_rfl
МAb(h:eh)(it a:aq)(j:Int):Prop:=∃o,h.get? it=aA o/\o.cls= .type "list_reverseiterator"/\o.data= .fields #[.ref a,.int j 0]
section
variable{prog:b5}{w:da}{A:dg}{E:am->ao->В}{s:ao}
ЛAb.typeIs{it a:aq}{j:Int}(x:Ab s.heap it a j):s.TypeIs (.ref it) "list_reverseiterator":=let⟨o,ho,hc,_⟩:=x;⟨o,ho,hc⟩
ЛXh{it l:aq}{j:Int}{Q:am->ao->В}(hit:Ab s.heap it l j)(h:Q (.ref it) s):
  bc (b4 prog w) A (pyIter (.ref it)) Q E s:=by
 R wpAny_pyIter_slot hit.typeIs L7 (dj L7 hit.typeIs Rs ?_ (Zdr _));T bc _ _ (ret (.ref it)) _ _ s;E ah ⟨_,rfl,"list_reverseiterator",_,hit.typeIs,Yu.lookup,h⟩
ЛZds{it l:aq}{i:Г}{items} {x:am} {Q:Б am->ao->В} (hit:Ab s.heap it l i)
  (hl:s.heap.IsList l items) (hx:items[i]? =aA x)
  (hQ:∀h',Ab h' it l ((i:Int)- 1)->ic it s.heap h'->Q (aA x) {s with heap:=h'}):
  bc (b4 prog w) A (pyNext (.ref it)) Q E s:=by
 O⟨o,ho,hc,hd⟩:=id hit;O⟨ol,hol,_,nl,hdl⟩:=hl;unfold pyNext;R ad (wpAny_attempt (d3 (name:=gr "__next__") hit.typeIs Yu
  (dj Yu hit.typeIs Qu ?_ (Jk _))))
 T bc _ _ (field (.ref it) 1 >>=_) _ _ s;R ad (wpAny_field ho hd (x:=.int i 0) rfl ?_);show bc _ _ (if(i:Int)<0 then _ else _) _ _ s;rw[Д И];show bc _ _ (field (.ref it) 0 >>=_) _ _ s;R ad (wpAny_field ho hd (x:=.ref l) rfl ?_);show bc _ _ (seqItems? (.ref l) >>=_) _ _ s;R ad (wpAny_seqItems hol hdl ?_);simp only[gp,hx];R ad (wpAny_setField ho hd К (ah ⟨x,rfl,ah (hQ _ ?_ (g7 ..))⟩));E⟨_,g9 _ ho (Obj.isFreed_of_fields (Obj.data_mapFields hd _)),(Obj.cls_mapFields ..).trans hc,by
  rw[Obj.data_mapFields hd];simp[rawInt]⟩
ЛZhx{it l:aq}{j:Int}{Q:Б am->ao->В}(hh:A.handled=aB)
  (hit:Ab s.heap it l j) (hj:j<0)
  (hQ:∀h',Heap.ExtBut it s.heap h'->Q aB {s with heap:=h'}):bc (b4 prog w) A (pyNext (.ref it)) Q E s:=by
 O⟨o,ho,hc,hd⟩:=id hit;unfold pyNext;R ad (wpAny_attempt (d3 (name:=gr "__next__") hit.typeIs Yu
  (dj Yu hit.typeIs Qu ?_ (Jk _))))
 T bc _ _ (field (.ref it) 1 >>=_) _ _ s;R ad (wpAny_field ho hd (x:=.int j 0) rfl ?_);show bc _ _ (if j<0 then _ else _) _ _ s;rw[Е hj];R ad (wpAny_rule ?_);R ad ?_;show bc _ _ (newExc (.type "StopIteration") [] >>=_) _ _ _;R ad ?_;simp only[newExc,newTuple];R ad (dw ?_ (by size_fits));R ad (m:=firstArgMember _ _) (wpAny_of_eq (a:=cm) (by first|rfl| (simp only[firstArgMember];rfl)) ?_);R dw ?_ (by size_fits);simp only[raiseNew];R ad (wpAny_handled ?_);rw[show A.in1.handled=aB from hh];R ad (ah (wpAny_throw ?_));R ad (wpAny_isInstance (T:="StopIteration") (b:=aC) ⟨_,ba _ rfl,rfl⟩ isSubtype_stop ?_);E ah (hQ _ (((show Heap.ExtBut it s.heap s.heap from λ_ _ _ q=>q).push _).push _))
ЛDy{T U newId:String}{Bn:Builtin}{args:А am}{S:PySem.Spec}{Q:am->ao->В}(ft:TypeCalled T newId "object.__init__")
  (hct:checkTypeCall T ⟨args,[]⟩=pure ()) (hcn:checkBuiltinCall newId ⟨.type T::args,[]⟩=pure ())
  (hns:isSubtype (.type U) (.type T)=pure aD) (entryN:entryFor table newId=aA Bn) (g:Meets (Bn ⟨.type T::args,[]⟩) S)
  (h:S A.in1 (wants (λobj s₁=>s₁.TypeIs obj U/\Q obj s₁) E) s):bc (b4 prog w) A (call (.type T) args) Q E s:=by
 O⟨c,tl,hmro⟩:=ft.mro;V hmade:=ft.made;R wpAny_call (codeAny_of_tree ?_);T bc _ _ (callAny (.type T) _) _ _ _;R ah ⟨Code.quiet_builtin _ (by decide+kernel),gw F.entry_type_call ?_⟩;rw[Around.under_plain (weight_type_call_type T args []) (units_type_call_type T args [])];V h1:=ft.notType;V h2:=ft.canCreate
 repeat (any_goals (first|assumption|wp_step))
 R codeAny_mono (codeAny_call_builtin ft.plain entryN (wpAny_of_eq hcn (g prog w A.in1 _ s h))) λr s₁ hr=>?_;cases r with
 |error e=>E hr
 |ok fl=>
  cases fl with
  |ret obj=>
   O⟨hT,hq⟩:=hr
   repeat (any_goals (first|assumption|wp_step))
  |_=>E hr.elim
ЛKj{l:aq}{items:Array am}{Q:am->ao->В}(hL:s.heap.IsList l items)
  (h:Q (.ref s.heap.objs.size) {s with heap:=s.heap.push {cls:=.type "list_reverseiterator",data:=.fields #[.ref l,rawInt (items.size- 1:Int)]}}):
  bc (b4 prog w) A (call (.type "reversed") [.ref l]) Q E s:=by
 O⟨⟨c,dct,dt,sl⟩,hl,hc,n,hd⟩:=hL;replace hc:c= .type "list":=hc;replace hd:dt= .seq items n:=hd;subst hc hd;E Dy Dx (P9 _) (Xg _) Zum Zdq (Kh l items n dct sl) ⟨hl,⟨⟨_,ba _ rfl,rfl⟩,h⟩⟩
end
end RV
namespace L2
open PySem PySem.Spec PyProof.Rows RV
МItv(K:af)(a:aq)(n:Г):It:=
 ⟨λi H=>∃xs x,W8 K H a xs/\xs.length=n/\xs.reverse[i]? =aA x,λi H x H'=>H'=H/\∀xs,W8 K H a xs->xs.reverse[i]? =aA x,λi H=>n<=i⟩
ЛZhy{P:b5}{w:da}{K:af}{tg:c5}(a it:aq)(n:Г):Turn P w K tg (Itv K a n) [it] it (λi h=>Ab h it a ((n:Int)- 1- i))where
 mem:=by simp
 obj:=λi h st b hb=>by
  V e:b=it:=by simpa using hb
  subst e;O⟨o,e,c,d⟩:=st;E⟨o,e,λv z=>by rw[d]at z;C z⟩
 keep:=λi h h' ⟨o,e,c,d⟩ k=>⟨o,k it К o e,c,d⟩
 item:=by
  intro X hP hw hK hc i pins s σ H E I hf st hg;subst hP hw hK;O⟨xs,x,hq,hn,hx⟩:=hg;O⟨its,rv,p,hz⟩:=I.list hq;V hi:i<xs.length:=by V :=(ay.mp hx).1;simpa using this
  V hx':xs[xs.length- 1- i]? =aA x:=by rw[<-List.getElem?_reverse hi];E hx
  O⟨u,hu,ru⟩:=rv.get hx';O⟨f0,f1,f2,f3,f4,f5⟩:=hf it К;V ej:((n:Int)- 1- i)=((xs.length- 1- i:Г):Int):=by W
  rw[ej]at st;R Zds st p.isList (x:=u) (by simpa using hu) λh' st' sb=>?_;V I1:Inv X pins σ H {s with heap:=h'}:=I.turned (t':=s.toks) (λb o hb e=>(sb.2 b hb).trans e) f0 f1 f3 f4 f5;O⟨o,e,c,d⟩:=id st';R⟨u,rfl,T3 (s:={s with heap:=h'}) e c d Й ⟨x,H,I1,ru,⟨rfl,λys hy=>by rw[I.list_inj hy hq];E hx⟩,?_,λb hb=>(hf b hb).1⟩⟩;V e2:((n:Int)- 1- ((i+1:Г):Int))=((xs.length- 1- i:Г):Int)- 1:=by W
  rw[e2];E st'
 done:=by intro X hP hw hK hc i pins s σ H E I hf st hg;subst hP hw hK;O⟨f0,f1,f2,f3,f4,f5⟩:=hf it К;V hg':n<=i:=hg;E Zhx (I.ok.hd hc) st И λh' eb=>⟨rfl,I.turned (t':=s.toks) (λb o hb e=>eb b o hb e) f0 f1 f3 f4 f5⟩
 self:=λ_ _ _ _ _ st h=>Xh st h
МZun(K:af)(ta:TA):TI:=λσ H R=>ta σ H λvs H1=>∃a xs,vs=[.ref a]/\W8 K H1 a xs/\R (Itv K a xs.length) H1
section
variable{X:Cx}{tg:c5}
ЛZp4{l:c5}{p pos:Pos}{ta:TA}(hg:Gl X "reversed")(hm:X.mg "reversed"=aB)(ha:PA X [l] ta)(hs:bd [l] X.env=[(aD,gy l X.env)]:=by rfl):
  PI X tg (.Call (.Name "reversed" p) [l] [] pos) (Zun X.K ta):=by
 intro pins s σ H R I h;R Call_ (Bt I hg hm boot_reversed (PyProof.Rows.callWith_type1 (Wv (ha pos pins s σ H _ I h) λus s1 ⟨vs,H1,I1,r1,q1⟩=>?_) hs rfl));O⟨a,xs,e,hq,q⟩:=q1;subst e;O⟨u,rfl,ru⟩:=Ul r1;C ru;O⟨its,rv,p,hz⟩:=I1.list hq;V hi:Ab (s1.heap.push {cls:=.type "list_reverseiterator",data:=.fields #[.ref a,rawInt (its.toArray.size- 1:Int)]}) s1.heap.objs.size a ((xs.length:Int)- 1- ((0:Г):Int)):=
  ⟨_,ba _ rfl,rfl,by V :=rv.length;simp[rawInt,this]⟩
 R Kj p.isList (Xh (s:={s1 with heap:=_}) hi ?_);R⟨s1.heap.objs.size,[s1.heap.objs.size],_,_,H1,rfl,I1.kept (t':=s1.toks) λb o e=>av _ e,Zhy a _ xs.length,hi,λb hb=>?_,q⟩;V e:b=s1.heap.objs.size:=by simpa using hb
 subst e;E I1.fpOk (a6 _) (I1.hok.fresh (a6 _))
end
end L2
namespace DL
open PySem PySem.Spec PyProof.Rows L2
variable{K:af}{Z:Ent K}{σ:L2.St}{H:Hp}
ЛDz{F:Hp}{a:aq}{xs:А D}{vs:А V}(h:W8 K F a vs)(r:Reps K F xs vs):U7 K (Itv K a vs.length) F xs.reverse:=λF' H sF sH i=>by
 V q:W8 K H a vs:=Wd (sF.trans sH) h;V hl:=r.length;R⟨λd hd=>?_,λhl'=>?_⟩
 ·V hi:i<xs.length:=by V :=(ay.mp hd).1;simpa using this
  rw[List.getElem?_reverse hi]at hd;O⟨v,h1,h2⟩:=r.get hd;rw[hl]at h1;V h1':vs.reverse[i]? =aA v:=by rw[List.getElem?_reverse И];E h1
  R⟨⟨vs,v,q,rfl,h1'⟩,λx H' zq9=>?_⟩;O⟨e1,e2⟩:=zq9;subst e1;V e3:=e2 vs q;rw[h1']at e3;C e3;E⟨Zi.refl _,[],cx,λ_ h=>(nomatch h),h2.mono sF⟩
 ·T vs.length<=i;rw[<-hl];simpa using hl'
НZp5(fd:FD):FD:=λδ=>(fd δ).bind λp=>match p.1 with
 | [.lst xs]=>aA (xs.reverse,p.2)
 |_=>aB
ЛZp6{fd:FD}{R:It->Hp->В}(h:Qf Z (Zp5 fd) σ H R):Zun K (W0 Z fd) σ H R:=by
 O⟨F,δ,own,ds,δ',s,e,k⟩:=h;O⟨⟨ds1,δ1⟩,e1,e2⟩:=aa.mp e;R⟨F,δ,own,ds1,δ1,s,e1,λvs H1 F1 own1 sH sF s1 r1=>?_⟩;dsimp only at e2;split at e2
 ·rename_i xs;C e2;cases r1 with
  |cons h t=>
   C t;cases h with
   |lst h _ r=>E⟨_,_,rfl,Wd s1.le h,k _ H1 F1 own1 sH sF s1 (Dz h r)⟩
 ·C e2
ЛZuo{X:Cx}{Z:Ent X.K}{a:c5}{tg:c5}{p pos:Pos}{fd:FD}(hm:X.mg "reversed"=aB)(ha:PA X [a] (W0 Z fd))(hg:Gl X "reversed":=by rfl)(hs:bd [a] X.env=[(aD,gy a X.env)]:=by rfl):
  PI X tg (.Call (.Name "reversed" p) [a] [] pos) (Qf Z (Zp5 fd)):=(Zp4 hg hm ha hs).imp λ_ _ _ h=>Zp6 h
section
variable{X:Cx}{Z:Ent X.K}{a b c:c5}{fa fb fc:FE}{pos:Pos}
ЛZng(hv:X.A.units+64<f7)(ha:PE X a (Ze Z fa))(hb:PE X b (Ze Z fb))(hm:behindInMarks .In b=aD:=by rfl):PT X (.Compare a [.In] [b] pos) (Yn Z (Yw (Zo inN fa fb))):=Ew (Zp2 hv) Zul ha hb hm
ЛZhz(hv:X.A.units+64<f7)(ha:PE X a (Ze Z fa))(hb:PE X b (Ze Z fb))(hm:behindInMarks .NotIn b=aD:=by rfl):PT X (.Compare a [.NotIn] [b] pos) (Yn Z (Yw (Zo Ry fa fb))):=Ew (Zdo hv) Zhu ha hb hm
end
end DL
namespace My
open DL PySem
ЛQq{n:Г}(h:n<=16777216):n<=PySem.sizeLine:=h
ЛZ4{n:Г}(h:n<16777216):n<PySem.sizeLine:=h
аLET:Str:="ABCDEFGHIJKLMNOPQRSTUVWXYZabcdefghijklmnopqrstuvwxyz"
ЛZwc(c:Г):(⟨#[c]⟩:Str).length=1:=rfl
ЛZll(ns:А Int)(lo hi:Б Int):∃ms:А Int,Pj (ns.map D.int) lo hi=ms.map D.int/\ms.length<=ns.length:=by unfold Pj;R⟨(ns.drop _).take _,by rw[List.map_take,List.map_drop],?_⟩;rw[List.length_take,List.length_drop];W
Мcat:А Str->Str
 | []=>""
 |x::r=>x++cat r
ЛOf{te:FE}{f:D->D}{c:Б SV}{j:Г}:∀(xs ys:А D),(∀x∈xs,∀zs,te [aA (.fz x),c,aA (.ol zs)]=aA (.tmp (.fz (f x)),[aA (.fz x),c,aA (.ol zs)]))->ys.length+xs.length<=16777216->
  Yb [.own,.cap j,.acc] 2 (Zd 0) W1 te xs [aB,c,aA (.ol ys)]=aA [aB,c,aA (.ol (ys++xs.map f))]
 | [],ys,_,_=>by simp
 |x::xs,ys,h,hl=>by rw[bf]at hl;V ih:=Of (te:=te) (f:=f) (c:=c) (j:=j) xs (ys++[f x]) (λy hy=>h y (ar _ hy)) (by rw[az];simp;W);V e1:=h x ag ys;V h4:ys.length<PySem.sizeLine:=Z4 И;simp[e1,h4];simpa using ih
ЛRz{f:D->D->Б Bool}:∀xs:А D,(∀x∈xs,f x x=aA aC)->Bm f xs xs=aA aC
 | [],_=>rfl
 |x::r,h=>by simp[h x ag,Rz r λy hy=>h y (ar _ hy)]
end My
namespace My
open DL PySem StrLaws Builtin.Str
Мgap(n:Г):Г->А Г->В
 |_,[]=>True
 |a,p::r=>a<=p/\gap n (p+n) r
Мjl(y:А Г):А (А Г)->А Г
 | []=>[]
 | [p]=>p
 |p::q::r=>p++y++jl y (q::r)
Мpos(n:Г):Г->А (А Г)->А Г
 |_,[]=>[]
 |_,[_]=>[]
 |a,p::q::r=>(a+p.length)::pos n (a+p.length+n) (q::r)
structure Sep(y:Str)(c o:Г):В where
 at':y.cps.toList[o]? =aA c
 one:∀j,y.cps.toList[j]? =aA c->j=o
end My
namespace My
open DL PySem
ЛY3{tg:FG}{body:FS}{d:D}{ds:А D}{δ δ1 δ2:Yq}(h1:tg.run d δ=aA δ1)(h2:body δ1=aA (.nx δ2)):Z0 tg body (d::ds) δ=Z0 tg body ds δ2:=by show(tg.run d δ).bind _=_;rw[h1,ck,h2,ck]
ЛZb0{tg:FG}{body:FS}{d:D}{ds:А D}{δ δ1:Yq}{sv:SV}(h1:tg.run d δ=aA δ1)(h2:body δ1=aA (.rt sv)):Z0 tg body (d::ds) δ=aA (.rt sv):=by show(tg.run d δ).bind _=_;rw[h1,ck,h2,ck]
аS(l:А Г):Str:=⟨l.toArray⟩
ЛZnh(l:А Г):(S l).length=l.length:=by T l.toArray.size=_;simp
ЛZup(a b:А Г):S a++S b=S (a++b):=by
 show(⟨a.toArray++b.toArray⟩:Str)=⟨(a++b).toArray⟩
 simp
ЛZuq{a b:А Г}(h:S a=S b):a=b:=by V :a.toArray=b.toArray:=congrArg Str.cps h;simpa using this
ЛZur(x:Str):x=S x.cps.toList:=by C x;simp
ЛZp7(l:А Г):(S l).cps.toList=l:=by simp
ЛIp{α:Type}(p:А α)(i:Г)(c:α)(h:p[i]? =aA c):L2.atI p (i:Int)=aA c:=by V hl:=(ay.mp h).1;unfold L2.atI L2.ixN;rw[Е И,Е И];simpa using h
section
variable{κ:Type}[DecidableEq κ]
ЛXi(k k':κ)(v:D):∀(ks:А κ) (vs:А D),k∈ks->ks.length=vs.length->look ks ((ks.zip vs).map λp=>if p.1=k then v else p.2) k'=if k=k' then aA v else look ks vs k'
 |a::ks,u::vs,hk,hl=>by
  rw[List.zip_cons_cons,a7];show(if a=k' then aA (if a=k then v else u)else look ks ((ks.zip vs).map λp=>if p.1=k then v else p.2) k')=if k=k' then aA v else(if a=k' then aA u else look ks vs k')
  by_cases ha:a=k'
  ·subst ha;rw[Е rfl,Е rfl];by_cases hk2:a=k
   ·subst hk2;rw[Е rfl,Е rfl]
   ·rw[Д hk2,Д λe=>hk2 e.symm]
  ·rw[Д ha,Д ha];by_cases hm:k∈ks
   ·E Xi k k' v ks vs hm (by simpa using hl)
   ·V hak:k=a:=by
     rcases bu.mp hk with e|e
     ·E e
     ·E absurd e hm
    rw[Д λe=>ha (hak.symm.trans e)];V :((ks.zip vs).map λp=>if p.1=k then v else p.2)=vs:=by
     V hl':ks.length=vs.length:=by simpa using hl
     clear hk hl ha;induction ks generalizing vs with
     |nil=>cases vs with
      |nil=>rfl
      |cons _ _=>simp at hl'
     |cons b ks ih=>cases vs with
      |nil=>simp at hl'
      |cons w vs=>rw[List.zip_cons_cons,a7,Д λe=>hm (by rw[<-e];E ag),ih vs (λh=>hm (ar _ h)) (by simpa using hl')]
    rw[this]
 | [],_,hk,_=>nomatch hk
ЛL8(k k':κ)(v:D):∀(ks:А κ) (vs:А D),k∉ks->ks.length=vs.length->look (ks++[k]) (vs++[v]) k'=if k=k' then aA v else look ks vs k'
 | [],[],_,_=>by show(if k=k' then aA v else aB)=_;rfl
 |a::ks,u::vs,hk,hl=>by
  show(if a=k' then aA u else look (ks++[k]) (vs++[v]) k')=if k=k' then aA v else(if a=k' then aA u else look ks vs k')
  by_cases ha:a=k'
  ·rw[Е ha,Е ha,Д λe=>hk (by rw[e,<-ha];E ag)]
  ·rw[Д ha,Д ha];E L8 k k' v ks vs (λh=>hk (ar _ h)) (by simpa using hl)
ЛZh0(k k':κ)(v:D)(ks:А κ)(vs:А D)(hl:ks.length=vs.length):look (Y4 ks vs k v).1 (Y4 ks vs k v).2 k'=if k=k' then aA v else look ks vs k':=by
 unfold Y4;split
 ·rename_i h;E Xi k k' v ks vs h hl
 ·rename_i h;E L8 k k' v ks vs h hl
ЛZlm(k:κ)(v:D)(ks:А κ)(vs:А D)(hl:ks.length=vs.length):(Y4 ks vs k v).1.length=(Y4 ks vs k v).2.length/\(Y4 ks vs k v).2.length<=vs.length+1:=by
 unfold Y4;split
 ·simp[hl]
 ·simp[hl]
end
end My
namespace My
open DL PySem
аG8(s n:Г):А D:=(List.range' s n).map λi:Г=>D.int (i:Int)
ЛQy(n:Г):T5 0 n=G8 0 n:=by unfold T5;rw[List.range_eq_range'];R f8 λi _=>?_;simp
ЛG1{tg:FG}{body:FS}{P:Г->Yq->В}:∀(n s:Г) (δ:Yq),P s δ->(∀i,s<=i->i<s+n->∀δ,P i δ->∃δ1 δ2,tg.run (.int (i:Int)) δ=aA δ1/\body δ1=aA (.nx δ2)/\P (i+1) δ2)->
  ∃δ',Z0 tg body (G8 s n) δ=aA (.nx δ')/\P (s+n) δ'
 |0,s,δ,h,_=>⟨δ,rfl,h⟩
 |n+1,s,δ,h,k=>by O⟨δ1,δ2,h1,h2,h3⟩:=k s (a6 _) И δ h;O⟨δ',e,h'⟩:=G1 (tg:=tg) (body:=body) (P:=P) n (s+1) δ2 h3 λi hi hj=>k i И И;R⟨δ',?_,by rw[show s+(n+1)=s+1+n by W];E h'⟩;T Z0 tg body (.int (s:Int)::G8 (s+1) n) δ=_;rw[Y3 h1 h2];E e
МZus(i:Г):А D->А D
 | []=>[]
 |x::r=>.tup [.int (i:Int),x]::Zus (i+1) r
end My
namespace My
open DL PySem StrLaws Builtin.Str
end My
namespace My
open DL PySem
аZz(xs:А Str):А L2.Key:=xs.map df
ЛUc(k:Str):∀(xs:А Str) (vs:А D),look (Zz xs) vs (df k)=look xs vs k
 | [],[]=>rfl
 | [],_::_=>rfl
 |_::_,[]=>rfl
 |x::xs,v::vs=>by
  show(if(df x:L2.Key)=df k then aA v else look (Zz xs) vs (df k))=if x=k then aA v else look xs vs k;rw[Uc k xs vs];by_cases h:x=k
  ·rw[Е h,Е (by rw[h])]
  ·rw[Д h,Д λe=>h (df.inj e)]
ЛMx(k:Str)(v:D)(xs:А Str)(vs:А D):Y4 (Zz xs) vs (df k) v=(Zz (Y4 xs vs k v).1,(Y4 xs vs k v).2):=by
 V hm:((df k:L2.Key)∈Zz xs)↔k∈xs:=by
  constructor
  ·intro h;O⟨y,hy,e⟩:=aw.mp h;rw[<-df.inj e];E hy
  ·E λh=>aw.mpr ⟨k,h,rfl⟩
 unfold Y4;by_cases h:k∈xs
 ·rw[Е h,Е (hm.mpr h)];congr 1;V :∀(xs:А Str) (vs:А D),((Zz xs).zip vs).map (λp=>if p.1=(df k:L2.Key)then v else p.2)=(xs.zip vs).map λp=>if p.1=k then v else p.2:=by
   intro xs;induction xs with
   |nil=>intro vs;rfl
   |cons x xs ih=>
    intro vs;cases vs with
    |nil=>rfl
    |cons u vs=>
     show(if(df x:L2.Key)=df k then v else u)::((Zz xs).zip vs).map (λp=>if p.1=(df k:L2.Key)then v else p.2)=(if x=k then v else u)::(xs.zip vs).map λp=>if p.1=k then v else p.2;rw[ih vs];by_cases hx:x=k
     ·rw[Е hx,Е (by rw[hx])]
     ·rw[Д hx,Д λe=>hx (df.inj e)]
  E this xs vs
 ·rw[Д h,Д λe=>h (hm.mp e)];simp[Zz]
ЛMz{k:Str}{v:D}{xs:А Str}{vs:А D}(h:k∉xs):Y4 xs vs k v=(xs++[k],vs++[v]):=by unfold Y4;rw[Д h]
structure Dic(xs:А Str)(vs:А D):В where
 nd:xs.Nodup
 len:xs.length=vs.length
ЛZh1{xs:А Str}:∀{vs:А D},xs.Nodup->xs.length=vs.length->∀(i:Г) (x:Str) (v:D),xs[i]? =aA x->vs[i]? =aA v->look xs vs x=aA v:=by
 induction xs with
 |nil=>intro vs _ _ i x v h;simp at h
 |cons y xs ih=>
  intro vs nd hl i x v hx hv;cases vs with
  |nil=>simp at hv
  |cons u vs=>
   O⟨n1,n2⟩:=d7.mp nd;show(if y=x then aA u else look xs vs x)=aA v;cases i with
   |zero=>simp at hx hv;rw[Е hx,hv]
   |succ i=>simp at hx hv;V hm:=b9 hx;rw[Д λe=>n1 (by rw[e];E hm)];E ih n2 (by simpa using hl) i x v hx hv
end My
namespace My
open DL PySem TT
ЛM0(n:Г)(xs:А D)(h:∀x∈xs,Wp n x x=aA aC):Wp (n+1) (.lst xs) (.lst xs)=aA aC:=by simp[Rz xs h]
ЛZb1(n:Г)(xs:А D)(h:∀x∈xs,Wp n x x=aA aC):Wp (n+1) (.tup xs) (.tup xs)=aA aC:=by simp[Rz xs h]
ЛZb2(n:Г)(x:Str):Wp (n+1) (.str x) (.str x)=aA aC:=by simp
аNK:=L2.Zl
МtE(s:А Г):А Nat:=s.map (· +1)++[0]
ЛAc:∀(s t u v:А Г),(tE s++u<tE t++v)↔(s<t\/(s=t/\u<v))
 | [],[],u,v=>by show(0::u<0::v)↔_;rw[fu];simp
 | [],b::t,u,v=>by show(0::u<(b+1)::(tE t++v))↔_;rw[fu];simp
 |a::s,[],u,v=>by show((a+1)::(tE s++u)<0::v)↔_;rw[fu];simp
 |a::s,b::t,u,v=>by
  show((a+1)::(tE s++u)<(b+1)::(tE t++v))↔_;rw[fu,Ac s t u v,fu];constructor
  ·rintro(h|⟨h1,h2|⟨h2,h3⟩⟩)
   ·E .inl (.inl И)
   ·E .inl (.inr ⟨by W,h2⟩)
   ·E .inr ⟨by rw[h2,show a=b by W],h3⟩
  ·rintro((h|⟨h1,h2⟩)|⟨h1,h2⟩)
   ·E .inl И
   ·E .inr ⟨by W,.inl h2⟩
   ·C h1;E .inr ⟨rfl,.inr ⟨rfl,h2⟩⟩
ЛZp8:∀(s t u v:А Г),tE s++u=tE t++v->s=t/\u=v:=by
 intro s;induction s with
 |nil=>intro t u v z;cases t with
  |nil=>E⟨rfl,by simpa[tE]using z⟩
  |cons b t=>simp[tE]at z
 |cons a s ih=>intro t u v z;cases t with
  |nil=>simp[tE]at z
  |cons b t=>have z:(a+1)::(tE s++u)=(b+1)::(tE t++v):=z;O⟨z1,z2⟩:=List.cons.inj z;O⟨i1,i2⟩:=ih t u v z2;E⟨by rw[i1,show a=b by W],i2⟩
ЛIq{a b:Str}(h:a.cps.toList=b.cps.toList):a=b:=by rw[Zur a,Zur b,h]
МBd:А Str->А Г
 | []=>[0]
 |x::l=>1::(tE x.cps.toList++Bd l)
ЛIr:∀{a b:А Str},Bd a=Bd b->a=b
 | [],[],_=>rfl
 | [],_::_,h=>by simp[Bd]at h
 |_::_,[],h=>by simp[Bd]at h
 |x::a,y::b,h=>by O⟨_,h2⟩:=List.cons.inj h;O⟨e1,e2⟩:=Zp8 _ _ _ _ h2;rw[Iq e1,Ir e2]
ЛSa(n:Г)(x y:Str):Wp (n+1) (.str x) (.str y)=aA (decide (x=y)):=by simp
ЛD2(n:Г)(x y:Str):TX.U2 (n+1) (.str x) (.str y)=aA (decide (x.cps.toList<y.cps.toList)):=rfl
ЛIu(n:Г):∀a b:А Str,TX.Mp (Wp (n+1)) (TX.U2 (n+1)) (a.map D.str) (b.map D.str)=aA (decide (Bd a<Bd b))
 | [],[]=>by T aA aD=_;E congrArg aA Й
 | [],y::b=>by T aA aC=_;R congrArg aA (decide_eq_true ?_).symm;show[0]<1::_;rw[fu];E .inl Й
 |x::a,[]=>by T aA aD=_;R congrArg aA (Ж ?_).symm;show¬(1::_< [0]);rw[fu];rintro(h|⟨h,_⟩)<;> W
 |x::a,y::b=>by
  show(Wp (n+1) (.str x) (.str y)).bind (λc=>if c=aC then TX.Mp (Wp (n+1)) (TX.U2 (n+1)) (a.map D.str) (b.map D.str)else TX.U2 (n+1) (.str x) (.str y))=_;rw[Sa,Iu n a b,D2];V e:(Bd (x::a)<Bd (y::b))↔(x.cps.toList<y.cps.toList\/(x.cps.toList=y.cps.toList/\Bd a<Bd b)):=by
   show(1::(tE x.cps.toList++Bd a)<1::(tE y.cps.toList++Bd b))↔_;rw[fu,Ac];constructor
   ·rintro(h|⟨_,h⟩)
    ·W
    ·E h
   ·E λh=>.inr ⟨rfl,h⟩
  by_cases h:x=y
  ·subst h;V i:=gc x.cps.toList;rw[decide_eq_true rfl];T aA (decide (Bd a<Bd b))=_;R congrArg aA (decide_eq_decide.mpr ?_);rw[e];E⟨λz=>.inr ⟨rfl,z⟩,λz=>z.elim (λz=>absurd z i) λz=>z.2⟩
  ·rw[Ж h];T aA (decide (x.cps.toList<y.cps.toList))=_;R congrArg aA (decide_eq_decide.mpr ?_);rw[e];E⟨.inl,λz=>z.elim id λz=>absurd (Iq z.1) h⟩
ЛIv(n:Г):∀a b:А Str,∃c,Bm (Wp (n+1)) (a.map D.str) (b.map D.str)=aA c/\(c&&decide ((a.map D.str).length=(b.map D.str).length))=decide (a=b)
 | [],[]=>⟨aC,rfl,by simp⟩
 | [],y::b=>⟨aC,rfl,by simp⟩
 |x::a,[]=>⟨aC,rfl,by simp⟩
 |x::a,y::b=>by
  O⟨c,e1,e2⟩:=Iv n a b;R⟨decide (x=y)&&c,?_,?_⟩
  ·show(Wp (n+1) (.str x) (.str y)).bind (λb'=>(Bm (Wp (n+1)) (a.map D.str) (b.map D.str)).bind λc'=>aA (b'&&c'))=_;rw[Sa,e1];rfl
  ·rw[Bool.and_assoc];V :decide (((x::a).map D.str).length=((y::b).map D.str).length)=decide ((a.map D.str).length=(b.map D.str).length):=by simp
   rw[this,e2];by_cases h:x=y
   ·by_cases h2:a=b<;> simp[h,h2]
   ·simp[h]
ЛD3(n:Г)(a b:А Str):Wp (n+2) (.tup (a.map D.str)) (.tup (b.map D.str))=aA (decide (a=b)):=by O⟨c,e1,e2⟩:=Iv n a b;show(Bm (Wp (n+1)) (a.map D.str) (b.map D.str)).bind (λb'=>aA (b'&&decide ((a.map D.str).length=(b.map D.str).length)))=_;rw[e1];T aA (c&&_)=_;rw[e2]
inductive OneK:NK->NK->В where
 |nm (a b:А Str):OneK (.inl a) (.inl b)
 |mk (n m:Г) (a b:А Str):OneK (.inr ((n:Int),a)) (.inr ((m:Int),b))
МBe:NK->А Г
 | .inl l=>Bd l
 | .inr (n,l)=>n.toNat::Bd l
ЛIw{a b:NK}(h:OneK a b)(e:Be a=Be b):a=b:=by
 cases h with
 |nm a b=>rw[Ir e]
 |mk n m a b=>O⟨e1,e2⟩:=List.cons.inj e;rw[Ir e2,show n=m by simpa using e1]
ЛXj(n:Г){a b:NK}(h:OneK a b):Wp (n+3) (Zk a) (Zk b)=aA (decide (a=b)):=by
 cases h with
 |nm a b=>show Wp (n+3) (.tup (a.map D.str)) (.tup (b.map D.str))=_;rw[show n+3=n+1+2 from rfl,D3];E congrArg aA (decide_eq_decide.mpr ⟨λz=>by rw[z],λz=>gq.inj z⟩)
 |mk n1 m1 a b=>
  V e:=D3 n a b;show(Bm (Wp (n+2)) [.int (n1:Int),.tup (a.map D.str)] [.int (m1:Int),.tup (b.map D.str)]).bind (λb'=>aA (b'&&decide (2=2)))=_;show((Wp (n+2) (.int (n1:Int)) (.int (m1:Int))).bind λb'=>((Wp (n+2) (.tup (a.map D.str)) (.tup (b.map D.str))).bind λc1=>(aA aC).bind λc2=>aA (c1&&c2)).bind λc'=>aA (b'&&c')).bind (λb'=>aA (b'&&decide (2=2)))=_;rw[e,show Wp (n+2) (.int (n1:Int)) (.int (m1:Int))=aA (decide ((n1:Int)=m1)) by simp];T aA _=_;R congrArg aA ?_;by_cases h1:n1=m1
  ·by_cases h2:a=b
   ·subst h1 h2;simp
   ·subst h1;V hf:decide ((df ((n1:Int),a):NK)=df ((n1:Int),b))=aD:=Ж λz=>h2 (Prod.mk.inj (df.inj z)).2;rw[hf,Ж h2];simp
  ·V hf:decide ((df ((n1:Int),a):NK)=df ((m1:Int),b))=aD:=Ж λz=>h1 (by V :=(Prod.mk.inj (df.inj z)).1;W);rw[hf,Ж (show¬(n1:Int)=m1 by W)];simp
ЛZb3(n:Г){a b:NK}(h:OneK a b):TX.U2 (n+4) (Zk a) (Zk b)=aA (decide (Be a<Be b)):=by
 cases h with
 |nm a b=>E Iu (n+2) a b
 |mk n1 m1 a b=>
  V e:=D3 (n+1) a b;V e2:=Iu (n+1) a b;show(Wp (n+3) (.int (n1:Int)) (.int (m1:Int))).bind (λc=>if c=aC then(Wp (n+3) (.tup (a.map D.str)) (.tup (b.map D.str))).bind (λc=>if c=aC then aA aD else TX.U2 (n+3) (.tup (a.map D.str)) (.tup (b.map D.str)))else TX.U2 (n+3) (.int (n1:Int)) (.int (m1:Int)))=_;rw[e,show Wp (n+3) (.int (n1:Int)) (.int (m1:Int))=aA (decide ((n1:Int)=m1)) by simp];show(if decide ((n1:Int)=m1)=aC then(if decide (a=b)=aC then aA aD else TX.Mp (Wp (n+2)) (TX.U2 (n+2)) (a.map D.str) (b.map D.str))else aA (decide ((n1:Int)<m1)))=_;rw[e2];V el:(Be (.inr ((n1:Int),a))<Be (.inr ((m1:Int),b)))↔(n1<m1\/(n1=m1/\Bd a<Bd b)):=by show((n1:Int).toNat::Bd a<(m1:Int).toNat::Bd b)↔_;rw[fu];simp
  by_cases h1:n1=m1
  ·rw[Е (by simp[h1])];by_cases h2:a=b
   ·rw[Е (by simp[h2])];R congrArg aA (Ж ?_).symm;rw[el];subst h1 h2;rintro(z|⟨_,z⟩)
    ·W
    ·E gc _ z
   ·rw[Д (by simp[h2])];R congrArg aA (decide_eq_decide.mpr ?_);rw[el];E⟨λz=>.inr ⟨h1,z⟩,λz=>z.elim (λz=>by W) λz=>z.2⟩
  ·rw[Д (by simp;W)];R congrArg aA (decide_eq_decide.mpr ?_);rw[el];E⟨λz=>.inl И,λz=>z.elim (λz=>by W) λz=>absurd z.1 h1⟩
МCv(ks:А NK):Prop:=(∀k∈ks,∃(x:Str) (l:А Str),k= .inl (x::l))\/∀k∈ks,∃(n:Г) (l:А Str),k= .inr ((n:Int),l)
ЛCv.one{ks:А NK}(h:Cv ks){a b:NK}(ha:a∈ks)(hb:b∈ks):OneK a b:=by
 rcases h with h|h
 ·O⟨x,l,rfl⟩:=h a ha;O⟨y,m,rfl⟩:=h b hb;E .nm _ _
 ·O⟨x,l,rfl⟩:=h a ha;O⟨y,m,rfl⟩:=h b hb;E .mk _ _ _ _
ЛCv.sub{ks js:А NK}(h:Cv ks)(hs:∀k∈js,k∈ks):Cv js:=h.imp (λh k hk=>h k (hs k hk)) λh k hk=>h k (hs k hk)
МZh2(d:D):А Nat:=Be ((nk? d).getD (.inl []))
ЛAs(k:NK):Zh2 (Zk k)=Be k:=by unfold Zh2;rw[Ca];rfl
ЛL9{ks:А NK}(h:Cv ks)(nd:ks.Nodup):TX.KeysOk (ks.map Zk):=by
 R⟨?_,Zh2,λa ha b hb=>?_,?_⟩
 ·rcases h with h|h
  ·R⟨.str,λd hd=>?_⟩;O⟨k,hk,rfl⟩:=aw.mp hd;O⟨x,l,rfl⟩:=h k hk;E .str _ _
  ·R⟨.int,λd hd=>?_⟩;O⟨k,hk,rfl⟩:=aw.mp hd;O⟨x,l,rfl⟩:=h k hk;E .int _ _
 ·O⟨k,hk,rfl⟩:=aw.mp ha;O⟨l,hl,rfl⟩:=aw.mp hb;rw[As,As];E Zb3 12 (h.one hk hl)
 ·R G0.mpr ?_;rw[bo];R List.Pairwise.map _ (R:=λa b=>a≠b/\a∈ks/\b∈ks) (λa b ⟨h1,h2,h3⟩ e=>h1 ?_) ?_
  ·V e:Zh2 (Zk a)=Zh2 (Zk b):=e;rw[As,As]at e;E Iw (h.one h2 h3) e
  ·E(g8.mp nd).imp fun{a b} z=>⟨z.2.2,z.1,z.2.1⟩
ЛZh3{ks:А NK}{k x:NK}:x∈Ai ks k↔x∈ks\/x=k:=by
 unfold Ai;V e:(ks.any λz=>decide (z=k))=aC↔k∈ks:=by rw[List.any_eq_true];E⟨λ⟨z,hz,e⟩=>by V :z=k:=of_decide_eq_true e;rw[<-this];E hz,λh=>⟨k,h,decide_eq_true rfl⟩⟩
 split
 ·rename_i h;E⟨.inl,λz=>z.elim id λz=>by rw[z];E e.mp h⟩
 ·rw[bj,au]
ЛZln{ks:А NK}{k:NK}(h:ks.Nodup):(Ai ks k).Nodup:=by
 unfold Ai;split
 ·E h
 ·rename_i hn;R c9.mpr ⟨h,by simp,λa ha b hb z=>hn ?_⟩;rw[au.mp hb]at z;rw[List.any_eq_true];E⟨a,ha,decide_eq_true z⟩
ЛIx:∀(ks acc:А NK),acc.Nodup->(ks.foldl Ai acc).Nodup/\∀x,x∈ks.foldl Ai acc↔x∈acc\/x∈ks
 | [],acc,h=>⟨h,λx=>by simp⟩
 |k::ks,acc,h=>by O⟨a,b⟩:=Ix ks (Ai acc k) (Zln h);R⟨a,λx=>?_⟩;rw[List.foldl_cons,b x,Zh3,bu];E⟨λz=>by rcases z with(z|z)|z;(· E .inl z);(· E .inr (.inl z));E .inr (.inr z),λz=>by rcases z with z|z|z;(· E .inl (.inl z));(· E .inl (.inr z));E .inr z⟩
ЛSb(ks:А NK):(Lz ks).Nodup:=(Ix ks [] cx).1
ЛAu(ks:А NK)(x:NK):x∈Lz ks↔x∈ks:=by rw[show Lz ks=ks.foldl Ai []from rfl,(Ix ks [] cx).2 x];simp
ЛZlo(ks:А NK):(Lz ks).length<=ks.length:=b6 (Sb ks) λx hx=>(Au ks x).mp hx
ЛZh4{ks out:А NK}(h:Cv ks)(hl:ks.length<64)(hm:∀x,x∈out↔x∈ks)(hs:out.Pairwise λa b=>Be a<Be b):Ik ks=aA (.ol (out.map Zk)):=by
 V nd:out.Nodup:=hs.imp fun{a b} z e=>by rw[e]at z;E gc _ z
 V pm:out.Perm (Lz ks):=(List.perm_ext_iff_of_nodup nd (Sb ks)).mpr λx=>by rw[hm,Au]
 V hk:=h.sub λk hk=>(Au ks k).mp hk;R Zhl И (by V :=Zlo ks;W) (L9 hk (Sb ks)) ⟨pm.map _,cu.mpr ?_⟩;R(g8.mp hs).imp fun{a b} ⟨ha,hb,z⟩=>?_;rw[Zb3 12 (h.one ((hm b).mp hb) ((hm a).mp ha))];E congrArg aA (Ж λy=>gc _ (List.lt_trans y z))
end My
namespace My
open DL PySem TT
ЛZb4{ds out:А D}(hk:TX.KeysOk ds)(hl:ds.length<64)(so:Mu ds out):TX.C8 ds ds=aA (.ol out):=by O⟨p,hp,e⟩:=TX.Zky (ks:=ds) (xs:=ds) rfl hl hk;rw[e,Rw hk (Ii hp) so]
open Classical in
ЛZb5{α:Type}{f:α->D}{enc:α->А Г}{xs out:А α}{kk:TX.KK}(hk:∀a∈xs,TX.IsKey kk (f a))(hlt:∀a∈xs,∀b∈xs,TX.U2 16 (f a) (f b)=aA (decide (enc a<enc b)))(nd:(xs.map enc).Nodup)(hl:xs.length<64)
  (hp:out.Perm xs) (hs:out.Pairwise λa b=>¬enc b<enc a):TX.C8 (xs.map f) (xs.map f)=aA (.ol (out.map f)):=by
 V same:∀a∈xs,∀b∈xs,f a=f b->enc a=enc b:=λa ha b hb e=>by
  V h1:=hlt a ha b hb;V h2:=hlt b hb a ha;rw[<-e,hlt a ha a ha]at h1;rw[<-e,hlt a ha a ha]at h2;V i:¬enc a<enc a:=gc _;V h1:decide (enc a<enc b)=aD:=by rw[<-dk.inj h1];EЖ i
  V h2:decide (enc b<enc a)=aD:=by rw[<-dk.inj h2];EЖ i
  E List.le_antisymm (dm.mp (of_decide_eq_false h2)) (dm.mp (of_decide_eq_false h1))
 let e:D->А Nat:=λd=>if h:∃a,a∈xs/\f a=d then enc (Classical.choose h)else[]
 V ee:∀a∈xs,e (f a)=enc a:=λa ha=>by
  V h:∃a',a'∈xs/\f a'=f a:=⟨a,ha,rfl⟩
  show(if h:∃a',a'∈xs/\f a'=f a then enc (Classical.choose h)else[])=enc a;rw[dif_pos h];E same _ (Classical.choose_spec h).1 a ha (Classical.choose_spec h).2
 V ko:TX.KeysOk (xs.map f):=by
  R⟨⟨kk,λd hd=>?_⟩,e,λa ha b hb=>?_,?_⟩
  ·O⟨a,ha,rfl⟩:=aw.mp hd;E hk a ha
  ·O⟨x,hx,rfl⟩:=aw.mp ha;O⟨y,hy,rfl⟩:=aw.mp hb;rw[ee x hx,ee y hy];E hlt x hx y hy
  ·R G0.mpr ?_;rw[bo];V :xs.map (e∘f)=xs.map enc:=f8 λa ha=>ee a ha;rw[this];E nd
 R Zb4 ko (by rw[aj];E hl) ⟨hp.map f,cu.mpr ?_⟩;R(g8.mp hs).imp fun{a b} ⟨ha,hb,z⟩=>?_;rw[hlt b (hp.mem_iff.mp hb) a (hp.mem_iff.mp ha)];E congrArg aA (Ж z)
аAd:=Str×Str×А NK
аY5(t:Ad):D:=.tup [.str t.1,.str t.2.1,.lst (t.2.2.map Zk)]
structure HP where
 ns:А NK
 ms:А NK
 fs:А Ad
аYe(h:HP):D:=.tup [.lst (h.ns.map Zk),.lst (h.ms.map Zk),.lst (h.fs.map Y5)]
МisN(k:NK):Prop:=∃(x:Str) (l:А Str),k= .inl (x::l)
МSc(k:NK):Prop:=∃(n:Г) (l:А Str),k= .inr ((n:Int),l)
structure HPok(h:HP):В where
 ne:h.ns≠[]
 nm:∀k∈h.ns,isN k
 mr:∀k∈h.ms,Sc k
 fl:∀t∈h.fs,∀k∈t.2.2,isN k
ЛXk(n:Г):∀as bs:А NK,Cv (as++bs)->as.length=bs.length->Bm (Wp (n+3)) (as.map Zk) (bs.map Zk)=aA (decide (as=bs))
 | [],[],_,_=>rfl
 | [],_::_,_,h=>by simp at h
 |_::_,[],_,h=>by simp at h
 |a::as,b::bs,ho,hl=>by
  V h1:OneK a b:=ho.one К К;V ih:=Xk n as bs (ho.sub λk hk=>by
   rcases bj.mp hk with z|z
   ·simp[z]
   ·simp[z]) (by simpa using hl)
  show(Wp (n+3) (Zk a) (Zk b)).bind (λb'=>(Bm (Wp (n+3)) (as.map Zk) (bs.map Zk)).bind λc'=>aA (b'&&c'))=_;rw[Xj n h1,ih];T aA _=_;R congrArg aA ?_;by_cases h:a=b
  ·by_cases h2:as=bs
   ·simp[h,h2]
   ·rw[Ж h2,Ж λz=>h2 (List.cons.inj z).2];simp
  ·rw[Ж h,Ж λz=>h (List.cons.inj z).1];simp
ЛZp9(n:Г){as bs:А NK}(ho:Cv (as++bs)):Wp (n+4) (.lst (as.map Zk)) (.lst (bs.map Zk))=aA (decide (as=bs)):=by
 show(if(as.map Zk).length=(bs.map Zk).length then Bm (Wp (n+3)) (as.map Zk) (bs.map Zk)else aA aD)=_;rw[aj,aj];by_cases h:as.length=bs.length
 ·rw[Е h,Xk n as bs ho h]
 ·rw[Д h];E congrArg aA (Ж λz=>h (by rw[z])).symm
ЛZqa(n:Г)(k:NK)(h:isN k\/Sc k):Wp (n+3) (Zk k) (Zk k)=aA aC:=by
 V :OneK k k:=by
  rcases h with⟨x,l,rfl⟩|⟨x,l,rfl⟩
  ·E .nm _ _
  ·E .mk _ _ _ _
 rw[Xj n this];simp
ЛO0(n:Г)(ks:А NK)(h:∀k∈ks,isN k\/Sc k):Wp (n+4) (.lst (ks.map Zk)) (.lst (ks.map Zk))=aA aC:=M0 (n+3) _ λx hx=>by O⟨k,hk,rfl⟩:=aw.mp hx;E Zqa n k (h k hk)
ЛSd(n:Г)(t:Ad)(h:∀k∈t.2.2,isN k):Wp (n+5) (Y5 t) (Y5 t)=aA aC:=Zb1 (n+4) _ λx hx=>by
 simp only[bu,List.not_mem_nil,or_false]at hx;rcases hx with rfl|rfl|rfl
 ·E Zb2 (n+3) _
 ·E Zb2 (n+3) _
 ·E O0 n _ λk hk=>.inl (h k hk)
ЛZqb(n:Г)(h:HP)(ok:HPok h):Wp (n+7) (Ye h) (Ye h)=aA aC:=Zb1 (n+6) _ λx hx=>by
 simp only[bu,List.not_mem_nil,or_false]at hx;rcases hx with rfl|rfl|rfl
 ·E O0 (n+2) _ λk hk=>.inl (ok.nm k hk)
 ·E O0 (n+2) _ λk hk=>.inr (ok.mr k hk)
 ·E M0 (n+5) _ λx hx=>by O⟨t,ht,rfl⟩:=aw.mp hx;E Sd n t (ok.fl t ht)
ЛZh5(n:Г)(hs:А HP)(ok:∀h∈hs,HPok h):Wp (n+8) (.lst (hs.map Ye)) (.lst (hs.map Ye))=aA aC:=M0 (n+7) _ λx hx=>by O⟨h,hh,rfl⟩:=aw.mp hx;E Zqb n h (ok h hh)
МQv(t:Ad):А Nat:=tE t.1.cps.toList++(tE t.2.1.cps.toList++[])
ЛZh6{s t:Ad}(h:Qv s=Qv t):s.1=t.1/\s.2.1=t.2.1:=by O⟨h1,h2⟩:=Zp8 _ _ _ _ h;E⟨Iq h1,Iq (Zp8 _ _ _ _ h2).1⟩
ЛZqc(s t:Ad)(hs:∀k∈s.2.2,isN k)(h:Qv s=Qv t->s=t):TX.U2 16 (Y5 s) (Y5 t)=aA (decide (Qv s<Qv t)):=by
 V el:(Qv s<Qv t)↔(s.1.cps.toList<t.1.cps.toList\/(s.1.cps.toList=t.1.cps.toList/\s.2.1.cps.toList<t.2.1.cps.toList)):=by
  unfold Qv;rw[Ac,Ac];constructor
  ·rintro(z|⟨z,w|⟨_,w⟩⟩)
   ·E .inl z
   ·E .inr ⟨z,w⟩
   ·E absurd w (gc _)
  ·rintro(z|⟨z,w⟩)
   ·E .inl z
   ·E .inr ⟨z,.inl w⟩
 show(Wp 15 (.str s.1) (.str t.1)).bind (λc=>if c=aC then(Wp 15 (.str s.2.1) (.str t.2.1)).bind (λc=>if c=aC then(Wp 15 (.lst (s.2.2.map Zk)) (.lst (t.2.2.map Zk))).bind (λc=>if c=aC then aA aD else TX.U2 15 (.lst (s.2.2.map Zk)) (.lst (t.2.2.map Zk)))else TX.U2 15 (.str s.2.1) (.str t.2.1))else TX.U2 15 (.str s.1) (.str t.1))=_;rw[Sa,Sa,D2,D2];by_cases h1:s.1=t.1
 ·rw[decide_eq_true h1];by_cases h2:s.2.1=t.2.1
  ·rw[decide_eq_true h2];V e:s=t:=h (by unfold Qv;rw[h1,h2]);subst e;rw[O0 11 _ λk hk=>.inl (hs k hk)];T aA aD=_;E congrArg aA (Ж (gc _)).symm
  ·rw[Ж h2];T aA (decide (s.2.1.cps.toList<t.2.1.cps.toList))=_;R congrArg aA (decide_eq_decide.mpr ?_);rw[el,h1];E⟨λz=>.inr ⟨rfl,z⟩,λz=>z.elim (λz=>absurd z (gc _)) λz=>z.2⟩
 ·rw[Ж h1];T aA (decide (s.1.cps.toList<t.1.cps.toList))=_;R congrArg aA (decide_eq_decide.mpr ?_);rw[el];E⟨.inl,λz=>z.elim id λz=>absurd (Iq z.1) h1⟩
ЛD4{α β:Type}{f:α->β}{xs:А α}(h:(xs.map f).Nodup){a b:α}(ha:a∈xs)(hb:b∈xs)(e:f a=f b):a=b:=by O⟨i,hi,rfl⟩:=f9 ha;O⟨j,hj,rfl⟩:=f9 hb;V :i=j:=(List.getElem?_inj (by rw[aj];E hi) h).mp (by simp[hi,hj,e]);subst this;rfl
ЛZlp{ts out:А Ad}(hf:∀t∈ts,∀k∈t.2.2,isN k)(nd:(ts.map Qv).Nodup)(hl:ts.length<64)(hp:out.Perm ts)(hs:out.Pairwise λa b=>¬Qv b<Qv a):TX.C8 (ts.map Y5) (ts.map Y5)=aA (.ol (out.map Y5)):=
 Zb5 (enc:=Qv) (kk:=.str) (λa _=>.str _ _) (λa ha b hb=>Zqc a b (hf a ha) λe=>D4 nd ha hb e) nd hl hp hs
МQ5(h:HP):А Nat:=Be (h.ns.headD (.inl []))
ЛZut(a b:HP)(oa:HPok a)(ob:HPok b)(h:Q5 a=Q5 b->a=b):TX.U2 16 (Ye a) (Ye b)=aA (decide (Q5 a<Q5 b)):=by
 show(Wp 15 (.lst (a.ns.map Zk)) (.lst (b.ns.map Zk))).bind (λc=>if c=aC then(Wp 15 (.lst (a.ms.map Zk)) (.lst (b.ms.map Zk))).bind (λc=>if c=aC then(Wp 15 (.lst (a.fs.map Y5)) (.lst (b.fs.map Y5))).bind (λc=>if c=aC then aA aD else TX.U2 15 (.lst (a.fs.map Y5)) (.lst (b.fs.map Y5)))else TX.U2 15 (.lst (a.ms.map Zk)) (.lst (b.ms.map Zk)))else TX.U2 15 (.lst (a.ns.map Zk)) (.lst (b.ns.map Zk)))=_;V on:Cv (a.ns++b.ns):=.inl λk hk=>by
  rcases bj.mp hk with z|z
  ·E oa.nm k z
  ·E ob.nm k z
 rw[Zp9 11 on];by_cases hn:Q5 a=Q5 b
 ·V e:=h hn;subst e;rw[decide_eq_true rfl,O0 11 _ λk hk=>.inr (oa.mr k hk)];V e3:Wp 15 (.lst (a.fs.map Y5)) (.lst (a.fs.map Y5))=aA aC:=M0 14 _ λx hx=>by O⟨t,ht,rfl⟩:=aw.mp hx;E Sd 9 t (oa.fl t ht)
  rw[e3];T aA aD=_;E congrArg aA (Ж (gc _)).symm
 ·O⟨x,as,ea⟩:=List.exists_cons_of_ne_nil oa.ne;O⟨y,bs,eb⟩:=List.exists_cons_of_ne_nil ob.ne;V hxy:x≠y:=λz=>hn (by unfold Q5;rw[ea,eb,z];rfl);rw[Ж λz=>hxy (by rw[ea,eb]at z;E(List.cons.inj z).1)];T TX.U2 15 (.lst (a.ns.map Zk)) (.lst (b.ns.map Zk))=_;unfold Q5;rw[ea,eb];V ok:OneK x y:=on.one (by rw[ea];simp) (by rw[eb];simp);show(Wp 14 (Zk x) (Zk y)).bind (λc=>if c=aC then _ else TX.U2 14 (Zk x) (Zk y))=_;rw[Xj 11 ok,Ж hxy];show TX.U2 14 (Zk x) (Zk y)=_;E Zb3 10 ok
ЛZh7{hs out:А HP}(ok:∀h∈hs,HPok h)(nd:(hs.map Q5).Nodup)(hl:hs.length<64)(hp:out.Perm hs)(hsr:out.Pairwise λa b=>¬Q5 b<Q5 a):TX.C8 (hs.map Ye) (hs.map Ye)=aA (.ol (out.map Ye)):=
 Zb5 (enc:=Q5) (kk:=.lst) (λa _=>.lst _ _) (λa ha b hb=>Zut a b (ok a ha) (ok b hb) λe=>D4 nd ha hb e) nd hl hp hsr
end My
namespace My
open DL PySem TT
аOt(h:HP):А NK:=h.ns++h.ms
аkLt(a b:NK):Prop:=Be a<Be b
аtLt(a b:Ad):Prop:=Qv a<Qv b
ЛZb7{a b:А Г}(h:a<b):¬b<a:=λz=>gc _ (List.lt_trans h z)
ЛQz{α:Type}{f:α->А Г}{l:А α}(h:l.Pairwise λa b=>f a<f b):l.Nodup:=h.imp fun{a b} h e=>by subst e;E gc _ h
ЛUd{α:Type}{f:α->А Г}{l m:А α}(h1:l.Pairwise λa b=>f a<f b)(h2:m.Pairwise λa b=>f a<f b)(hm:∀x,x∈l↔x∈m):l=m:=
 List.Perm.eq_of_pairwise (λx y _ _ z1 z2=>absurd z2 (Zb7 z1)) h1 h2 ((List.perm_ext_iff_of_nodup (Qz h1) (Qz h2)).mpr hm)
structure IsMerge(G:HP->В)(h:HP):В where
 ns_s:h.ns.Pairwise kLt
 ns_m:∀k,k∈h.ns↔∃a,G a/\k∈a.ns
 ms_s:h.ms.Pairwise kLt
 ms_m:∀k,k∈h.ms↔∃a,G a/\k∈a.ms
 fs_s:h.fs.Pairwise tLt
 fs_m:∀f v,(∃l,(f,v,l)∈h.fs)↔∃a,G a/\∃l,(f,v,l)∈a.fs
 fs_l:∀t∈h.fs,t.2.2.Pairwise kLt/\∀k,k∈t.2.2↔∃a,G a/\∃l,(t.1,t.2.1,l)∈a.fs/\k∈l
ЛIsMerge.uniq{G G':HP->В}{h h':HP}(m:IsMerge G h)(m':IsMerge G' h')(e:∀a,G a↔G' a):h=h':=by
 V e1:h.ns=h'.ns:=Ud m.ns_s m'.ns_s λk=>by rw[m.ns_m,m'.ns_m];simp only[e]
 V e2:h.ms=h'.ms:=Ud m.ms_s m'.ms_s λk=>by rw[m.ms_m,m'.ms_m];simp only[e]
 V one:∀{G G':HP->В} {h h':HP},IsMerge G h->IsMerge G' h'->(∀a,G a↔G' a)->∀t∈h.fs,t∈h'.fs:=fun{G G' h h'} m m' e t ht=>by
  V h1:=(m.fs_m t.1 t.2.1).mp ⟨t.2.2,ht⟩;simp only[e]at h1;O⟨l,hl⟩:=(m'.fs_m t.1 t.2.1).mpr h1;V :t.2.2=l:=Ud (m.fs_l t ht).1 (m'.fs_l _ hl).1 λk=>by rw[(m.fs_l t ht).2,(m'.fs_l _ hl).2];simp only[e]
  rw[<-this]at hl;E hl
 V e3:h.fs=h'.fs:=Ud m.fs_s m'.fs_s λt=>⟨one m m' e t,one m' m (λa=>(e a).symm) t⟩
 C h;C h';simp only at e1 e2 e3;rw[e1,e2,e3]
Мshr(a b:HP):Prop:=∃t,t∈Ot a/\t∈Ot b
ЛZh8{a b:HP}(h:shr a b):shr b a:=let⟨t,h1,h2⟩:=h;⟨t,h2,h1⟩
inductive Conn(S:HP->В):HP->HP->В where
 |here {a:HP}:S a->Conn S a a
 |step {a b c:HP}:Conn S a b->S c->shr b c->Conn S a c
ЛConn.right{S:HP->В}{a b:HP}(h:Conn S a b):S b:=by
 cases h with
 |here h=>E h
 |step _ h _=>E h
ЛConn.trans{S:HP->В}{a b c:HP}(h:Conn S a b)(k:Conn S b c):Conn S a c:=by
 induction k with
 |here _=>E h
 |step _ hc sh ih=>E .step ih hc sh
ЛConn.symm{S:HP->В}{a b:HP}(h:Conn S a b):Conn S b a:=by
 induction h with
 |here h=>E .here h
 | @step b c k hc sh ih=>E(Conn.step (.here hc) k.right (Zh8 sh)).trans ih
ЛConn.mono{S T:HP->В}(hs:∀a,S a->T a){a b:HP}(h:Conn S a b):Conn T a b:=by
 induction h with
 |here h=>E .here (hs _ h)
 |step _ hc sh ih=>E .step ih (hs _ hc) sh
ЛConn.congr{S T:HP->В}(hs:∀a,S a↔T a)(a b:HP):Conn S a b↔Conn T a b:=⟨Conn.mono λa h=>(hs a).mp h,Conn.mono λa h=>(hs a).mpr h⟩
structure IsPool(S:HP->В)(out:А HP):В where
 sorted:out.Pairwise λa b=>Q5 a<Q5 b
 each:∀h∈out,∃a,S a/\IsMerge (Conn S a) h
 all:∀a,S a->∃h∈out,IsMerge (Conn S a) h
ЛIsPool.uniq{S T:HP->В}{out out':А HP}(p:IsPool S out)(q:IsPool T out')(e:∀a,S a↔T a):out=out':=by
 V one:∀{S T:HP->В} {out out':А HP},IsPool S out->IsPool T out'->(∀a,S a↔T a)->∀h∈out,h∈out':=fun{S T out out'} p q e h hh=>by O⟨a,sa,m⟩:=p.each h hh;O⟨h',hh',m'⟩:=q.all a ((e a).mp sa);rw[m.uniq m' (Conn.congr e a)];E hh'
 E Ud p.sorted q.sorted λh=>⟨one p q e h,one q p (λa=>(e a).symm) h⟩
ЛIsMerge.tie{G:HP->В}{h:HP}(m:IsMerge G h)(t:NK):t∈Ot h↔∃a,G a/\t∈Ot a:=by
 constructor
 ·intro z;rcases bj.mp z with z|z
  ·O⟨a,g,z⟩:=(m.ns_m t).mp z;E⟨a,g,cf _ z⟩
  ·O⟨a,g,z⟩:=(m.ms_m t).mp z;E⟨a,g,bx _ z⟩
 ·rintro⟨a,g,z⟩;rcases bj.mp z with z|z
  ·E cf _ ((m.ns_m t).mpr ⟨a,g,z⟩)
  ·E bx _ ((m.ms_m t).mpr ⟨a,g,z⟩)
end My
noncomputable section
namespace Gen
open PySem PySem.Spec PyProof.Rows L2 DL
МNa(i:Г):Stmt:=PySem.Challenge.pw_citeward_k38_whole_a_books_pool.main.body.getD i (.Pass ⟨0,0,0,0⟩)
аZqd:Nat:=1000
аCb:Stmt:=Na 12
аOg:Stmt:=Na 13
аCc:Stmt:=Na 15
аCd:Stmt:=Na 14
аBf:Stmt:=Na 6
аSe:Stmt:=Na 7
аBg:Stmt:=Na 8
аTt:Stmt:=Na 5
аCe:Stmt:=Na 3
аGb:Stmt:=Na 4
аCf:Stmt:=Na 2
аR0:Stmt:=Na 1
аCg:Stmt:=Na 11
аOh:Stmt:=Na 10
аCh:Stmt:=Na 16
аGc:Stmt:=Na 19
аGd:Stmt:=Na 20
аGe:Stmt:=Na 17
аCi:Stmt:=Na 18
аCj:Stmt:=Na 21
МWm:FS:=
 Z1 (Yv 9 (Zo E3 (Za 6) (Yf Zfu (Zc (Zo eqX (Za 8) (Za 4)) Zj)))) (Yv 7 (Zo Ob (Za 7) (Zo Oz (Za 2) (Zo B1 (Zo Ob (Zo Lc (Za 0) (Zo Ob (Za 8) (Zh (.int 2)))) (Za 9)) (Zh (.int 22))))))
МJs:FS:=
 Z1 (Yv 7 (Zh (.str ""))) (Z1 (Qt (Fy (Zc (Za 3) Zj)) (Zd 8) Wm) (Rn 5 (Za 7)))
МGf:FS:=
 Z1 (Yv 2 (Zh (.str "abcdefghjlmpqrstuvwxyz"))) (Z1 (Yv 3 (Zo Ob (Zh (.int 1)) (Zo B1 (Za 0) (Zh (.int 8))))) (Z1 (Yv 4 (Zo B1 (Zo Lc (Za 0) (Zh (.int 8))) (Za 3))) (Z1 (Yv 5 (Jj (Zn))) (Z1 (Qt (Fy (Zc (Za 1) Zj)) (Zd 6) Js) (Jf (Za 5))))))
МWa:А D->Б SV:=W2 Gf 10
МQr:FS:=
 Z1 (Rn 2 (Zo B1 (Za 3) (Zh (.int 5040)))) (Yv 3 (Zo Lc (Za 3) (Zh (.int 5040))))
МQs:FS:=
 Z1 (Yv 3 (Zo B1 (Zo E3 (Zo Ob (Zo Ob (Za 3) (Za 4)) (Zh (.int 1))) (Zh (.int 48271))) (Zh (.int 2147483647)))) (Rn 2 (Zo B1 (Zo E3 (Za 3) (Zh (.int 69621))) (Zh (.int 2147483629))))
МJt:FS:=
 Z1 (Yv 2 (Jj (Zn))) (Z1 (Yv 3 (Zo Lc (Za 0) (Zh (.int 2)))) (Z1 (X3 (Yw (Zo eqX (Zo B1 (Za 0) (Zh (.int 2))) (Zh (.int 1)))) (Z1 (Qt (Fy (Zc (Za 1) Zj)) (Zd 4) Qr) (Jf (Za 2))) (Um)) (Z1 (Yv 3 (Zo B1 (Za 3) (Zh (.int 2147483647)))) (Z1 (Qt (Fy (Zc (Za 1) Zj)) (Zd 4) Qs) (Jf (Za 2))))))
МYs:А D->Б SV:=W2 Jt 5
МJu:FS:=
 Rn 5 (Zo Oz (Zo Ob (Za 0) (Jj (Zg (Zh (.str "kind")) (Zn)))) (Zo B1 (Zo Oz (Za 2) (Zo Ob (Zo Ob (Zh (.int 2)) (Zo E3 (Zh (.int 4)) (Za 4))) (Za 6))) (Zh (.int 5))))
МJv:FS:=
 Z1 (Yv 5 (Jj (Zn))) (Z1 (Qt (Fy (Zc (Zo Ob (Zh (.int 1)) (Zo B1 (Zo Oz (Za 2) (Zo Ob (Zh (.int 1)) (Zo E3 (Zh (.int 4)) (Za 4)))) (Zh (.int 3)))) Zj)) (Zd 6) Ju) (Rn 3 (Za 5)))
МGg:FS:=
 Z1 (Yv 2 (Yx 2 Ys (Zc (Za 1) (Zc (Zh (.int 13)) (Zj))))) (Z1 (Yv 3 (Jj (Zn))) (Z1 (Qt (Fy (Zc (Zo B1 (Zo Oz (Za 2) (Zh (.int 0))) (Zh (.int 4))) Zj)) (Zd 4) Jv) (Jf (Za 3))))
МUe:А D->Б SV:=W2 Gg 7
МWw:FS:=
 X3 (Yw (Zo gtD (Zo B1 (Zo Oz (Za 7) (Za 9)) (Zh (.int 4))) (Zh (.int 0)))) (Rk 8 (Za 10) (Zo Ob (Zh (.str "It's ")) (Yf Zdd (Zc (Zo B1 (Zo Oz (Za 7) (Zo Ob (Zh (.int 5)) (Za 9))) (Za 3)) Zj)))) (Um)
МQm:FS:=
 Z1 (Yv 7 (Yx 2 Ys (Zc (Zo Oz (Za 2) (Za 5)) (Zc (Zh (.int 11)) (Zj))))) (Z1 (Yv 8 (Li)) (Z1 (Qt (Rp (Zg (Zo Ob (Za 1) (Jj (Zg (Zh (.str "note")) (Zn)))) Zn)) (Wf 2 (Zr (Zd 9) (Zr (Zd 10) (Wh)))) Ww) (Rk 4 (Za 6) (tupF (Zg (Zo Oz (Jj (Df ["book","part"] (Zn))) (Zo B1 (Zo Oz (Za 7) (Zh (.int 10))) (Zh (.int 2)))) (Zg (Za 8) (Zn)))))))
МGh:FS:=
 Z1 (Yv 4 (Li)) (Z1 (Qt (Rp (Zg (Za 0) Zn)) (Wf 2 (Zr (Zd 5) (Zr (Zd 6) (Wh)))) Qm) (Jf (Za 4)))
МUf:А D->Б SV:=W2 Gh 11
МOi:FS:=
 Aa 1 (Za 4) 2 aD
МW3:FS:=
 Qt (Ub (Zo Ob (Zo Oz (Za 3) (Zh (.int 0))) (Zo Oz (Za 3) (Zh (.int 1))))) (Zd 4) Oi
МCk:FS:=
 Z1 (Yv 1 (L5)) (Z1 (Qt (Rp (Zg (Za 0) Zn)) (Wf 2 (Zr (Zd 2) (Zr (Zd 3) (Wh)))) W3) (Zo6 (Za 1)))
МJa:А D->Б SV:=W2 Ck 5
МOj:FS:=
 X3 (Yw (Zo B5 (Za 7) (Za 3))) (Z1 (Rk 3 (Za 7) (Zh (.bl aC))) (Rn 4 (Za 7))) (Um)
МM3:FS:=
 Qt (Ub (Zo Zhs (Za 1) (Za 6))) (Zd 7) Oj
МOl:FT:=
 Yw (Zo gtD (Yf Fz (Zc (Za 4) Zj)) (Zh (.int 0)))
МGi:FS:=
 Z1 (P8 5 0 4) (Qt (Ub (Zo Ob (Zo Oz (Za 5) (Zh (.int 0))) (Zo Oz (Za 5) (Zh (.int 1))))) (Zd 6) M3)
МD5:FS:=
 Z1 (Yv 3 (Zbx 2 (Zh (.bl aC)))) (Z1 (Yv 4 (Jj (Zg (Za 2) (Zn)))) (Z1 (U8 Ol Gi Zqd) (Jf (Yf V3 (Zc (Za 3) Zj)))))
МIy:А D->Б SV:=W2 D5 8
МOm:FS:=
 Aa 3 (tupF (Zg (Za 5) (Zg (Za 6) (Zn)))) 7 aC
МW4:FS:=
 Z1 (L6 1 (Zo Oz (Za 4) (Zh (.int 0)))) (Z1 (L6 2 (Zo Oz (Za 4) (Zh (.int 1)))) (Qt (Ub (Zo Oz (Za 4) (Zh (.int 2)))) (Wf 3 (Zr (Zd 5) (Zr (Zd 6) (Zr (Zd 7) (Wh))))) Om))
МJb:FE:=
 tupF (Zg (Zo Oz (Za 0) (Zh (.int 0))) (Zg (Zo Oz (Za 0) (Zh (.int 1))) (Zg (Yf Bo (Zc (Zo Zhs (Za 1) (Za 0)) Zj)) (Zn))))
МCl:FS:=
 Z1 (Yv 1 (Jj (Zn))) (Z1 (Yv 2 (Jj (Zn))) (Z1 (Yv 3 (L5)) (Z1 (Qt (Ub (Za 0)) (Zd 4) W4) (Z1 (Yv 8 (Uo [.own,.cap 3,.acc] 2 (Zhr (Za 3)) (Zd 0) (W1) Jb)) (Jf (tupF (Zg (Yf Bo (Zc (Za 1) Zj)) (Zg (Yf Bo (Zc (Za 2) Zj)) (Zg (Yf Oe (Zc (Za 8) Zj)) (Zn))))))))))
МJc:А D->Б SV:=W2 Cl 9
МOn:FS:=
 Rk 3 (Za 6) (Zh (.bl aC))
МCm:FE:=
 Zo Oz (Za 1) (Za 0)
МJn:FS:=
 X3 (Yw (Zo B5 (Za 4) (Za 3))) (Z1 (Yv 5 (Yx 3 Iy (Zc (Za 0) (Zc (Za 1) (Zc (Za 4) (Zj)))))) (Z1 (Qt (Ub (Za 5)) (Zd 6) On) (Rn 2 (Yx 1 Jc (Zc (Uo [.own,.cap 0,.acc] 2 (Ub (Za 5)) (Zd 0) (W1) Cm) (Zj)))))) (Um)
МIz:FS:=
 Z1 (Yv 1 (Yx 1 Ja (Zc (Za 0) (Zj)))) (Z1 (Yv 2 (Jj (Zn))) (Z1 (Yv 3 (Li)) (Z1 (Qt (Fy (Zc (Yf Fz (Zc (Za 0) Zj)) Zj)) (Zd 4) Jn) (Jf (Yf Oe (Zc (Za 2) Zj))))))
МGj:А D->Б SV:=W2 Iz 7
МGk:FS:=
 Z1 (Yv 1 (Yf Za2 (Zc (Zo Oz (Za 0) (Zh (.int 1))) Zj))) (Z1 (Rk 1 (Zh (.str "kind")) (Zo Oz (Za 0) (Zh (.int 0)))) (Jf (Za 1)))
МQ0:А D->Б SV:=W2 Gk 2
МUv:FE:=
 Zo inZ (Za 0) (Za 1)
МUw:FE:=
 Zo Oz (Za 1) (Za 0)
МJd:FS:=
 X3 (Yw (Yf Zke (Zc (Uo [.own,.cap 0,.acc] 2 (Ub (Za 4)) (Zd 0) (W1) Uv) Zj))) (Rn 2 (tupF (Zg (Za 3) (Zg (Yf Ev (Zc (Uo [.own,.cap 0,.acc] 2 (Ub (Za 4)) (Zd 0) (W1) Uw) Zj)) (Zn))))) (Um)
МR1:FS:=
 Z1 (Yv 2 (Jj (Zn))) (Z1 (Qt (Rp (Zg (Za 1) Zn)) (Wf 2 (Zr (Zd 3) (Zr (Zd 4) (Wh)))) Jd) (Jf (Za 2)))
МOp:А D->Б SV:=W2 R1 5
МQn:FT:=
 Yw (Zo neX (Za 0) (Zh (.str "note")))
МJw:FE:=
 tupF (Zg (Za 0) (Zg (Zo Oz (Za 1) (Za 0)) (Zg (Jj (Zg (Za 2) (Zn))) (Zn))))
МGm:FS:=
 Z1 (Yv 3 (Yx 1 Q0 (Zc (Za 1) (Zj)))) (Z1 (Yv 4 (Uo [.own,.cap 3,.cap 0,.acc] 3 (Dh (Za 3)) (Zd 0) (Qn) Jw)) (Jf (tupF (Zg (Jj (Zg (Za 0) (Zn))) (Zg (Yx 2 Op (Zc (Za 3) (Zc (Za 2) (Zj)))) (Zg (Za 4) (Zn)))))))
МQ1:А D->Б SV:=W2 Gm 5
МO5:FE:=
 Yx 3 Q1 (Zc (tupF (Zg (Za 2) (Zg (Za 0) (Zn)))) (Zc (Zo Oz (Za 3) (Za 0)) (Zc (Za 1) (Zj))))
МTu:FS:=
 Jf (Yx 1 Gj (Zc (Uo [.own,.cap 2,.cap 0,.cap 1,.acc] 4 (Dh (Za 1)) (Zd 0) (W1) O5) (Zj)))
МQ2:А D->Б SV:=W2 Tu 3
МGn:FS:=
 Jf (Zo B1 (Zo E3 (Zo B1 (Za 0) (Zh (.int 2147483647))) (Za 1)) (Zh (.int 2147483647)))
МW5:А D->Б SV:=W2 Gn 2
МJx:FS:=
 Z1 (X3 (Yw (Zo U2 (Za 1) (Yf Fz (Zc (Za 0) Zj)))) (Jf (Zo Oz (Za 0) (Za 1))) (Um)) (Jf (Zh (.int 0)))
МZ2:А D->Б SV:=W2 Jx 2
МJy:FE:=
 orV (Zo eqX (Za 0) (Zh (.str "kind"))) (Zo inZ (Za 0) (Za 1))
МJz:FS:=
 Rn 7 (Zo Oz (Jj (Zg (Zgg "dict" Tg (Za 3) (Zg (Za 8) (Zn))) (Zg (Za 2) (Zn)))) (Yf Zfu (Zc (Zo eqX (Za 8) (Zh (.str "kind"))) Zj)))
МQo:FS:=
 X3 (Lj (Yw (Zo B5 (Zh (.bl aD)) (Uo [.own,.cap 3,.acc] 2 (Ub (Za 6)) (Zd 0) (W1) Jy)))) (Z1 (Yv 7 (Jj (Zn))) (Z1 (Qt (Ub (Za 6)) (Zd 8) Jz) (Rn 4 (tupF (Zg (Za 5) (Zg (Yf Ev (Zc (Za 7) Zj)) (Zn))))))) (Um)
МGo:FS:=
 Z1 (Mc (Wf 2 (Zr (Zd 2) (Zr (Zd 3) (Wh)))) (Za 0)) (Z1 (Yv 4 (Jj (Zn))) (Z1 (Qt (Rp (Zg (Za 1) Zn)) (Wf 2 (Zr (Zd 5) (Zr (Zd 6) (Wh)))) Qo) (Jf (Za 4))))
МUg:А D->Б SV:=W2 Go 9
МUx:FS:=
 L6 1 (Za 2)
МR3:FS:=
 Z1 (Yv 1 (Jj (Zn))) (Z1 (Qt (Ub (Za 0)) (Zd 2) Ux) (Jf (Za 1)))
МWe:А D->Б SV:=W2 R3 3
МQb:FS:=
 X3 (Yw (Zo neX (Za 7) (Zh (.str "note")))) (Rk 3 (tupF (Zg (Za 7) (Zg (Zo Oz (Za 6) (Za 7)) (Zn)))) (Zo Ob (Zgg "dict" Tg (Za 3) (Zg (tupF (Zg (Za 7) (Zg (Zo Oz (Za 6) (Za 7)) (Zn)))) (Zg (Jj (Zn)) (Zn)))) (Jj (Zg (Za 4) (Zn))))) (Um)
МUy:FS:=
 Z1 (Mc (Wf 2 (Zr (Zd 5) (Zr (Zd 6) (Wh)))) (Zo Oz (Za 1) (Zo Oz (Za 4) (Zh (.int 1))))) (Z1 (Qt (Dh (Za 6)) (Zd 7) Qb) (Rk 3 (tupF (Zg (Zh (.str "kind")) (Zg (Za 5) (Zn)))) (Zo Ob (Zgg "dict" Tg (Za 3) (Zg (tupF (Zg (Zh (.str "kind")) (Zg (Za 5) (Zn)))) (Zg (Jj (Zn)) (Zn)))) (Jj (Zg (Za 4) (Zn))))))
МUz:FE:=
 tupF (Zg (Zo Oz (Za 0) (Zh (.int 0))) (Zg (Zo Oz (Za 0) (Zh (.int 1))) (Zg (Yf Oe (Zc (Zo Oz (Za 1) (Za 0)) Zj)) (Zn))))
МR4:FS:=
 Z1 (Yv 3 (Zaz)) (Z1 (Qt (Ub (Za 2)) (Zd 4) Uy) (Jf (Uo [.own,.cap 3,.acc] 2 (Ub (Yf Ie (Zc (Za 3) Zj))) (Zd 0) (W1) Uz)))
МOq:А D->Б SV:=W2 R4 8
МQc:FS:=
 X3 (Yw (Zo inN (Za 4) (Zo Oz (Za 2) (Za 3)))) (Jf (Zh (.bl aC))) (Um)
МQd:FS:=
 Qt (Ub (Zo Oz (Za 2) (Za 0))) (Zd 4) Qc
МCn:FS:=
 Z1 (Qt (Ub (Za 1)) (Zd 3) Qd) (Jf (Zh (.bl aD)))
МJo:А D->Б SV:=W2 Cn 5
МWx:FS:=
 X3 (Zon (Yw (Zo Ry (Za 4) (Za 2))) (Lj (Yw (Yx 3 Jo (Zc (Za 4) (Zc (Za 2) (Zc (Za 1) (Zj)))))))) (Rn 2 (Za 4)) (Um)
МJ1:FS:=
 Qt (Ub (Za 0)) (Zd 4) Wx
МGp:FS:=
 Z1 (Yv 2 (Jj (Zg (Zo Oz (Za 0) (Zh (.int 0))) (Zn)))) (Z1 (Qt (Fy (Zc (Yf Fz (Zc (Za 0) Zj)) Zj)) (Zd 3) J1) (Jf (Zo eqX (Yf Fz (Zc (Za 2) Zj)) (Yf Fz (Zc (Za 0) Zj)))))
МUh:А D->Б SV:=W2 Gp 5
МAv:FS:=
 Rk 7 (tupF (Zg (Za 4) (Zg (Za 8) (Zn)))) (Yx 2 Ug (Zc (Zo Oz (Za 6) (Za 8)) (Zc (Za 5) (Zj))))
МAw:FE:=
 Zo Oz (Za 0) (Zh (.int 0))
МG2:FE:=
 Zo Oz (Za 1) (Za 0)
МAx:FT:=
 Yw (Zo inN (Za 0) (Za 1))
МZb8:FE:=
 Za 0
МAy:FS:=
 Z1 (Mc (Wf 3 (Zr (Zd 12) (Zr (Zd 13) (Zr (Zd 14) (Wh))))) (Za 11)) (Z1 (Yv 15 (Yf Bo (Zc (Yx 1 We (Zc (Uo [.own,.cap 7,.acc] 2 (Ub (Za 12)) (Zd 0) (W1) G2) (Zj))) Zj))) (Z1 (X3 (orF (Yw (Zo neX (Za 12) (Yf Oe (Zc (Za 12) Zj)))) (orF (Yw (Zo neX (Za 13) (Za 15))) (Yw (Zo neX (Za 14) (Yx 3 Oq (Zc (Za 4) (Zc (Za 6) (Zc (Za 12) (Zj))))))))) (Jf (Zh (.bl aD))) (Um)) (Z1 (X3 (orF (Zjx (Yw (Yx 2 Uh (Zc (Za 12) (Zc (Za 7) (Zj)))))) (Lj (Yw (Zo neX (Uo [.own,.cap 10,.acc] 2 (Ub (Za 13)) (Zd 0) (Ax) Zb8) (Jj (Zn)))))) (Jf (Zh (.bl aD))) (Um)) (Yv 10 (Zo Ob (Za 10) (Za 13))))))
МAz:FS:=
 Rk 16 (Za 8) (Zo Oz (Za 6) (Za 8))
МEa:FS:=
 Z1 (X3 (orF (Zjx (Yw (unF (Zj7 "list") (Za 9)))) (Yw (Zo neX (Za 9) (Yf Oe (Zc (Za 9) Zj))))) (Jf (Zh (.bl aD))) (Um)) (Z1 (X3 (Lj (Yw (Zo neX (Yf Oe (Zc (Yx 1 We (Zc (Uo [.own,.acc] 1 (Ub (Za 9)) (Zd 0) (W1) Aw) (Zj))) Zj)) (Yf Ie (Zc (Za 7) Zj))))) (Jf (Zh (.bl aD))) (Um)) (Z1 (Yv 10 (Jj (Zn))) (Z1 (Qt (Ub (Za 9)) (Zd 11) Ay) (Z1 (Yv 16 (Li)) (Z1 (Qt (Zp5 (Zg (Za 2) Zn)) (Zd 8) Az) (Jf (Zo eqX (Yx 3 Q2 (Zc (Za 4) (Zc (Za 16) (Zc (Za 5) (Zj))))) (Za 9))))))))
МZh9:FS:=
 Z1 (Yv 1 (slF slD (Za 0) (Zar (Zh (.int 5))) (Zar (Zh (.int 17))))) (Z1 (Yv 2 (Yx 2 Wa (Zc (Yx 2 W5 (Zc (Yx 2 Z2 (Zc (Za 0) (Zc (Zh (.int 0)) (Zj)))) (Zc (Zh (.int 16807)) (Zj)))) (Zc (Yf Fz (Zc (Za 1) Zj)) (Zj))))) (Z1 (Yv 3 (Yx 2 Wa (Zc (Yx 2 W5 (Zc (Yx 2 Z2 (Zc (Za 0) (Zc (Zh (.int 1)) (Zj)))) (Zc (Zh (.int 16807)) (Zj)))) (Zc (Zh (.int 4)) (Zj))))) (Z1 (Yv 4 (Zo Oz (Yx 2 Wa (Zc (Yx 2 W5 (Zc (Yx 2 Z2 (Zc (Za 0) (Zc (Zh (.int 2)) (Zj)))) (Zc (Zh (.int 39373)) (Zj)))) (Zc (Zh (.int 1)) (Zj)))) (Zh (.int 0)))) (Z1 (Yv 5 (Yx 2 Ue (Zc (Za 3) (Zc (Yx 2 Z2 (Zc (Za 0) (Zc (Zh (.int 3)) (Zj)))) (Zj))))) (Z1 (Yv 6 (Yx 4 Uf (Zc (Za 2) (Zc (Za 3) (Zc (Za 1) (Zc (Zo Ob (Zh (.int 2)) (Zo B1 (Yx 2 Z2 (Zc (Za 0) (Zc (Zh (.int 4)) (Zj)))) (Zh (.int 9)))) (Zj))))))) (Z1 (Yv 7 (Zaz)) (Z1 (Qt (Ub (Za 2)) (Zd 8) Av) (Z1 (Yv 9 (Yx 3 Q2 (Zc (Za 4) (Zc (Za 6) (Zc (Za 5) (Zj)))))) Ea))))))))
МM4:А D->Б SV:=W2 Zh9 17
end Gen
namespace Gen
open PySem PySem.Spec PyProof.Rows L2 DL
structure Txt(K:af)(mg:Str->Б am)(fx0 fx1 fx2 fx3 fx4 fx5 fx6 fx7 fx8 fx9 fx10 fx11 fx12 fx13 fx14 fx15 fx16 fx17 fx18 fx19:aq):В where
 z_all:mg "all"=aB
 z_dict:mg "dict"=aB
 z_enumerate:mg "enumerate"=aB
 z_int:mg "int"=aB
 z_isinstance:mg "isinstance"=aB
 z_len:mg "len"=aB
 z_list:mg "list"=aB
 z_range:mg "range"=aB
 z_reversed:mg "reversed"=aB
 z_set:mg "set"=aB
 z_sorted:mg "sorted"=aB
 z_str:mg "str"=aB
 z_tuple:mg "tuple"=aB
 m_0:mg "_law_names"=aA (.ref fx0)
 k_0:bn K (.ref fx0)=aC
 m_1:mg "_law_numbers"=aA (.ref fx1)
 k_1:bn K (.ref fx1)=aC
 m_2:mg "_law_rules"=aA (.ref fx2)
 k_2:bn K (.ref fx2)=aC
 m_3:mg "_law_shelf"=aA (.ref fx3)
 k_3:bn K (.ref fx3)=aC
 m_4:mg "holders_of"=aA (.ref fx4)
 k_4:bn K (.ref fx4)=aC
 m_5:mg "tied"=aA (.ref fx5)
 k_5:bn K (.ref fx5)=aC
 m_6:mg "join_heaps"=aA (.ref fx6)
 k_6:bn K (.ref fx6)=aC
 m_7:mg "joined"=aA (.ref fx7)
 k_7:bn K (.ref fx7)=aC
 m_8:mg "own_texts"=aA (.ref fx8)
 k_8:bn K (.ref fx8)=aC
 m_9:mg "marks_of"=aA (.ref fx9)
 k_9:bn K (.ref fx9)=aC
 m_10:mg "lone_heap"=aA (.ref fx10)
 k_10:bn K (.ref fx10)=aC
 m_11:mg "pool_of"=aA (.ref fx11)
 k_11:bn K (.ref fx11)=aC
 m_12:mg "_law_mixed"=aA (.ref fx12)
 k_12:bn K (.ref fx12)=aC
 m_13:mg "_law_cell_at"=aA (.ref fx13)
 k_13:bn K (.ref fx13)=aC
 m_14:mg "_law_marks"=aA (.ref fx14)
 k_14:bn K (.ref fx14)=aC
 m_15:mg "_law_flat"=aA (.ref fx15)
 k_15:bn K (.ref fx15)=aC
 m_16:mg "_law_told"=aA (.ref fx16)
 k_16:bn K (.ref fx16)=aC
 m_17:mg "_law_near"=aA (.ref fx17)
 k_17:bn K (.ref fx17)=aC
 m_18:mg "_law_hangs"=aA (.ref fx18)
 k_18:bn K (.ref fx18)=aC
 m_19:mg "law"=aA (.ref fx19)
 k_19:bn K (.ref fx19)=aC
section
variable{P:b5}{w:da}{K:af}{mg:Str->Б am}{base:eh}{fx0 fx1 fx2 fx3 fx4 fx5 fx6 fx7 fx8 fx9 fx10 fx11 fx12 fx13 fx14 fx15 fx16 fx17 fx18 fx19:aq}
ЛYy:FnScope ["_law_number","_law_many","_law_letters","_law_size","_law_at","_law_names_here","_law_turn","_law_name","_law_k","_law_step"] ["_law_number","_law_many"] (Zx Cb):=⟨rfl,rfl,rfl,by decide+kernel,rfl,by decide+kernel,by decide+kernel⟩
ЛY1:FnScope ["_law_cell","_law_many","_law_found","_law_number","_law_k"] ["_law_cell","_law_many"] (Zx Og):=⟨rfl,rfl,rfl,by decide+kernel,rfl,by decide+kernel,by decide+kernel⟩
ЛQe:FnScope ["_law_fields","_law_cell","_law_some","_law_rules_here","_law_k","_law_rule","_law_j"] ["_law_fields","_law_cell"] (Zx Cc):=⟨rfl,rfl,rfl,by decide+kernel,rfl,by decide+kernel,by decide+kernel⟩
ЛWj:FnScope ["_law_keys","_law_fields","_law_cells","_law_wide","_law_shelf_here","_law_k","_law_key","_law_some","_law_own","_law_j","_law_field"] ["_law_keys","_law_fields","_law_cells","_law_wide"] (Zx Cd):=⟨rfl,rfl,rfl,by decide+kernel,rfl,by decide+kernel,by decide+kernel⟩
ЛQp:FnScope ["heaps","holders","place","heap","tie"] ["heaps"] (Zx Bf):=⟨rfl,rfl,rfl,by decide+kernel,rfl,by decide+kernel,by decide+kernel⟩
ЛG3:FnScope ["heaps","holders","place","found","left","heap","tie","other"] ["heaps","holders","place"] (Zx Se):=⟨rfl,rfl,rfl,by decide+kernel,rfl,by decide+kernel,by decide+kernel⟩
ЛYz:FnScope ["heaps","names","marks","tellers","heap","field","value","told_by","fields"] ["heaps"] (Zx Bg):=⟨rfl,rfl,rfl,by decide+kernel,rfl,by decide+kernel,by decide+kernel⟩
ЛJp:FnScope ["heaps","holders","pool","seen","place","group","other"] ["heaps"] (Zx Tt):=⟨rfl,rfl,rfl,by decide+kernel,rfl,by decide+kernel,by decide+kernel⟩
ЛM5:FnScope ["work","texts"] ["work"] (Zx Ce):=⟨rfl,rfl,rfl,by decide+kernel,rfl,by decide+kernel,by decide+kernel⟩
ЛO6:FnScope ["texts","rules","marks","number","rule"] ["texts","rules"] (Zx Gb):=⟨rfl,rfl,rfl,by decide+kernel,rfl,by decide+kernel,by decide+kernel⟩
ЛCo:FnScope ["name","work","rules","texts","fields"] ["name","work","rules"] (Zx Cf):=⟨rfl,rfl,rfl,by decide+kernel,rfl,by decide+kernel,by decide+kernel⟩
ЛD6:FnScope ["book","shelf","rules"] ["book","shelf","rules"] (Zx R0):=⟨rfl,rfl,rfl,by decide+kernel,rfl,by decide+kernel,by decide+kernel⟩
ЛSf:FnScope ["_law_cell","_law_by"] ["_law_cell","_law_by"] (Zx Cg):=⟨rfl,rfl,rfl,by decide+kernel,rfl,by decide+kernel,by decide+kernel⟩
ЛI8:FnScope ["_law_script","_law_k"] ["_law_script","_law_k"] (Zx Oh):=⟨rfl,rfl,rfl,by decide+kernel,rfl,by decide+kernel,by decide+kernel⟩
ЛWl:FnScope ["_law_work","_law_rules_here","_law_kind","_law_own","_law_marks_here","_law_n","_law_rule","_law_values","_law_field"] ["_law_work","_law_rules_here"] (Zx Ch):=⟨rfl,rfl,rfl,by decide+kernel,rfl,by decide+kernel,by decide+kernel⟩
ЛGq:FnScope ["_law_lists","_law_found","_law_some"] ["_law_lists"] (Zx Gc):=⟨rfl,rfl,rfl,by decide+kernel,rfl,by decide+kernel,by decide+kernel⟩
ЛQ3:FnScope ["_law_book","_law_shelf_here","_law_names_here","_law_told_here","_law_name","_law_kind","_law_own","_law_field"] ["_law_book","_law_shelf_here","_law_names_here"] (Zx Gd):=⟨rfl,rfl,rfl,by decide+kernel,rfl,by decide+kernel,by decide+kernel⟩
ЛGr:FnScope ["_law_name","_law_met","_law_marks_here","_law_other","_law_mark"] ["_law_name","_law_met","_law_marks_here"] (Zx Ge):=⟨rfl,rfl,rfl,by decide+kernel,rfl,by decide+kernel,by decide+kernel⟩
ЛU0:FnScope ["_law_names_here","_law_marks_here","_law_met","_law_turn","_law_name"] ["_law_names_here","_law_marks_here"] (Zx Ci):=⟨rfl,rfl,rfl,by decide+kernel,rfl,by decide+kernel,by decide+kernel⟩
ЛWt:FnScope ["_law_script","_law_cells","_law_keys","_law_fields","_law_book","_law_rules_here","_law_shelf_here","_law_marks_here","_law_key","_law_found","_law_seen","_law_heap","_law_names_here","_law_held","_law_told_here","_law_due","_law_other"] ["_law_script"] (Zx Cj):=⟨rfl,rfl,rfl,by decide+kernel,rfl,by decide+kernel,by decide+kernel⟩
ЛNb{x qual:Str}{st:Stmt}{f:aq}{fd:cr}{N ps:А Str}{k n:Г}(F:Fun K x qual st f fd)(S:FnScope N ps (Zx st))(hn:n=ps.length)(f0:FS)(hb:∀(cdv:am) (A:dg) (outer:А Env) (s:ao) (H F0:Hp) (E:XK),Room k (A.deeper (envOfC qual (Zx st) s.heap.objs.size f cdv))->(A.deeper (envOfC qual (Zx st) s.heap.objs.size f cdv)).units+1<f7->(A.deeper (envOfC qual (Zx st) s.heap.objs.size f cdv)).units+64<f7->T0 (Hg Us P w K mg base N qual (Zx st) f cdv A outer s H E).nox (Ur st) (Z8 (ent H F0:Ent K) f0)):FnOk P w K mg base Us (k+1) f fd ps (Y6 K n (W2 f0 N.length)):=
 F.ok S (λ_ _ _ _ h=>(Zfm h).trans hn) λcdv A outer s H vs Q E hr h=>by O⟨F0,h⟩:=Zfz (N:=N) (f:=f0) h;E⟨_,hb cdv A outer s H F0 E hr (Zrz hr) hr.units,h⟩
variable(T:Txt K mg fx0 fx1 fx2 fx3 fx4 fx5 fx6 fx7 fx8 fx9 fx10 fx11 fx12 fx13 fx14 fx15 fx16 fx17 fx18 fx19)
include T
ЛSg{fd:cr}(F:Fun K "_law_names" "_law_names" Cb fx0 fd):
  FnOk P w K mg base Us 1 fx0 fd ["_law_number","_law_many"] (Y6 K 2 Wa):=by
 R Nb F Yy rfl Gf λ_ _ _ _ _ _ _ hr hu hv=>?_;E(Zf (Z9 2 Yy.nd Cu) (Zf (Z9 3 Yy.nd (Qx Zy (Ua (Zb 0) Zy))) (Zf (Z9 4 Yy.nd (Ua (Pk (Zb 0) Zy) (Zb 3))) (Zf (Z9 5 Yy.nd (Wu Z7)) (Zf (Wi ci rfl (T6 T.z_range (Zb 1)) (Zv 6 Yy.nd) (Zf (Z9 7 Yy.nd Cu) (Zf (Wi ci rfl (T6 T.z_range (Zb 3)) (Zv 8 Yy.nd) (Zf (Z9 9 Yy.nd (Ti (Zb 6) (Zfx T.z_int (Vo hv (Zb 8) (Zb 4))))) (Zq (Z9 7 Yy.nd (Qx (Zb 7) (Yj hu (Zb 2) (Ua (Qx (Pk (Zb 0) (Qx (Zb 8) Zy)) (Zb 9)) Zy))))))) (Zq (C4 5 (Zb 7)))))) (Zq (Wr (Zb 5))))))))
ЛI9{fd:cr}(F:Fun K "_law_numbers" "_law_numbers" Og fx1 fd):
  FnOk P w K mg base Us 1 fx1 fd ["_law_cell","_law_many"] (Y6 K 2 Ys):=by
 R Nb F Y1 rfl Jt λ_ _ _ _ _ _ _ hr hu hv=>?_;E(Zf (Z9 2 Y1.nd (Wu Z7)) (Zf (Z9 3 Y1.nd (Pk (Zb 0) Zy)) (Zf (Mf (Zs0 hv (Ua (Zb 0) Zy) Zy) (Zf (Wi ci rfl (T6 T.z_range (Zb 1)) (Zv 4 Y1.nd) (Zf (C4 2 (Ua (Zb 3) Zy)) (Zq (Z9 3 Y1.nd (Pk (Zb 3) Zy))))) (Zq (Wr (Zb 2)))) Q8) (Zf (Z9 3 Y1.nd (Ua (Zb 3) Zy)) (Zf (Wi ci rfl (T6 T.z_range (Zb 1)) (Zv 4 Y1.nd) (Zf (Z9 3 Y1.nd (Ua (Ti (Qx (Qx (Zb 3) (Zb 4)) Zy) Zy) Zy)) (Zq (C4 2 (Ua (Ti (Zb 3) Zy) Zy))))) (Zq (Wr (Zb 2))))))))
ЛSh{fd:cr}(F:Fun K "_law_rules" "_law_rules" Cc fx2 fd){dx1:cr}(Vx1:FnOk P w K mg base Us 1 fx1 dx1 ["_law_cell","_law_many"] (Y6 K 2 Ys))(Wx1:Wq K dx1 ["_law_cell","_law_many"] []):
  FnOk P w K mg base Us 2 fx2 fd ["_law_fields","_law_cell"] (Y6 K 2 Ue):=by
 R Nb F Qe rfl Gg λ_ _ _ _ _ _ _ hr hu hv=>?_;E(Zf (Z9 2 Qe.nd (Yp Vx1 (hr.mono Й) T.m_1 T.k_1 Wx1 (Zm (Zb 1) (Zm Zy Yo)))) (Zf (Z9 3 Qe.nd (Wu Z7)) (Zf (Wi ci rfl (T6 T.z_range (Ua (Yj hu (Zb 2) Zy) Zy)) (Zv 4 Qe.nd) (Zf (Z9 5 Qe.nd (Wu Z7)) (Zf (Wi ci rfl (T6 T.z_range (Qx Zy (Ua (Yj hu (Zb 2) (Qx Zy (Ti Zy (Zb 4)))) Zy))) (Zv 6 Qe.nd) (Zq (C4 5 (Yj hu (Qx (Zb 0) (Wu (Zt Cu Z7))) (Ua (Yj hu (Zb 2) (Qx (Qx Zy (Ti Zy (Zb 4))) (Zb 6))) Zy))))) (Zq (C4 3 (Zb 5)))))) (Zq (Wr (Zb 3))))))
ЛSi{fd:cr}(F:Fun K "_law_shelf" "_law_shelf" Cd fx3 fd){dx1:cr}(Vx1:FnOk P w K mg base Us 1 fx1 dx1 ["_law_cell","_law_many"] (Y6 K 2 Ys))(Wx1:Wq K dx1 ["_law_cell","_law_many"] []):
  FnOk P w K mg base Us 2 fx3 fd ["_law_keys","_law_fields","_law_cells","_law_wide"] (Y6 K 4 Uf):=by
 R Nb F Wj rfl Gh λ_ _ _ _ _ _ _ hr hu hv=>?_;E(Zf (Z9 4 Wj.nd Ap) (Zf (Wi ci rfl (Mg T.z_enumerate (Zt (Zb 0) Z7)) (Me rfl (Y2 (Zv 5 Wj.nd) (Y2 (Zv 6 Wj.nd) B2))) (Zf (Z9 7 Wj.nd (Yp Vx1 (hr.mono Й) T.m_1 T.k_1 Wx1 (Zm (Yj hu (Zb 2) (Zb 5)) (Zm Zy Yo)))) (Zf (Z9 8 Wj.nd Ap) (Zf (Wi ci rfl (Mg T.z_enumerate (Zt (Qx (Zb 1) (Wu (Zt Cu Z7))) Z7)) (Me rfl (Y2 (Zv 9 Wj.nd) (Y2 (Zv 10 Wj.nd) B2))) (Zq (Mf (Zsv (Ua (Yj hu (Zb 7) (Zb 9)) Zy) Zy) (Zq (Mj 8 hu (Zb 10) (Qx Cu (Zpb T.z_str (Ua (Yj hu (Zb 7) (Qx Zy (Zb 9))) (Zb 3)))))) Q8))) (Zq (Mj 4 hu (Zb 6) (Oc (Zt (Yj hu (Wu (Zks [("book",_,_),("part",_,_)] Z7)) (Ua (Yj hu (Zb 7) Zy) Zy)) (Zt (Zb 8) Z7))))))))) (Zq (Wr (Zb 4)))))
ЛKk{fd:cr}(F:Fun K "holders_of" "holders_of" Bf fx4 fd):
  FnOk P w K mg base Us 1 fx4 fd ["heaps"] (Y6 K 1 Ja):=by
 R Nb F Qp rfl Ck λ_ _ _ _ _ _ _ hr hu hv=>?_;E(Zf (Z9 1 Qp.nd Zbw) (Zf (Wi ci rfl (Mg T.z_enumerate (Zt (Zb 0) Z7)) (Me rfl (Y2 (Zv 2 Qp.nd) (Y2 (Zv 3 Qp.nd) B2))) (Zq (Wi ci rfl (Qg (Qx (Yj hu (Zb 3) Zy) (Yj hu (Zb 3) Zy))) (Zv 4 Qp.nd) (Zq (Zk9 1 2 hv (Zb 4)))))) (Zq (Zo8 (Zb 1)))))
ЛZlq{fd:cr}(F:Fun K "tied" "tied" Se fx5 fd):
  FnOk P w K mg base Us 1 fx5 fd ["heaps","holders","place"] (Y6 K 3 Iy):=by
 R Nb F G3 rfl D5 λ_ _ _ _ _ _ _ hr hu hv=>?_;E(Zf (Z9 3 G3.nd (Zlh 2 Ka)) (Zf (Z9 4 G3.nd (Wu (Zt (Zb 2) Z7))) (Zf (Zkb Zqd ci (Zsv (Ex T.z_len (Zb 4)) Zy) (Zf (Zlg 5 0 4 G3.nd (Zmz 0) (Zmz 4)) (Zq (Wi ci rfl (Qg (Qx (Yj hu (Zb 5) Zy) (Yj hu (Zb 5) Zy))) (Zv 6 G3.nd) (Zq (Wi ci rfl (Qg (Znf hv (Zb 1) (Zb 6))) (Zv 7 G3.nd) (Zq (Mf (E4 hu (Zb 7) (Zb 3)) (Zf (Mj 3 hu (Zb 7) Ka) (Zq (C4 4 (Zb 7)))) Q8)))))))) (Zq (Wr (Zpj rfl T.z_list (Zb 3)))))))
ЛKl{fd:cr}(F:Fun K "join_heaps" "join_heaps" Bg fx6 fd):
  FnOk P w K mg base Us 1 fx6 fd ["heaps"] (Y6 K 1 Jc):=by
 R Nb F Yz rfl Cl λ_ _ _ _ _ _ _ hr hu hv=>?_;E(Zf (Z9 1 Yz.nd (Wu Z7)) (Zf (Z9 2 Yz.nd (Wu Z7)) (Zf (Z9 3 Yz.nd Zbw) (Zf (Wi ci rfl (Qg (Zb 0)) (Zv 4 Yz.nd) (Zf (Dv 1 (Yj hu (Zb 4) Zy)) (Zf (Dv 2 (Yj hu (Zb 4) Zy)) (Zq (Wi ci rfl (Qg (Yj hu (Zb 4) Zy)) (Me rfl (Y2 (Zv 5 Yz.nd) (Y2 (Zv 6 Yz.nd) (Y2 (Zv 7 Yz.nd) B2)))) (Zq (Zla 3 7 hv (Oc (Zt (Zb 5) (Zt (Zb 6) Z7)))))))))) (Zf (Lg 8 rfl (Wo (N':=["pair","tellers",".acc"]) (src:=[.own,.cap 3,.acc]) З З З З З З) (C3 2 З З) Й (Zp0 (Zb 3)) (λ_ _ _ _=>xg λ_=>(Zv 0 (show(["pair","tellers",".acc"]:А Str).Nodup by decide+kernel))) (λ_ _ _ _=>xt0) (λ_ _ _ _=>xe λ_=>(Oc (Zt (Yj hu (Zb 0) Zy) (Zt (Yj hu (Zb 0) Zy) (Zt (P7 rfl hv T.z_sorted T.z_set (Znf hv (Zb 1) (Zb 0))) Z7))))) Yz.nd) (Zq (Wr (Oc (Zt (P7 rfl hv T.z_sorted T.z_set (Zb 1)) (Zt (P7 rfl hv T.z_sorted T.z_set (Zb 2)) (Zt (Tq hv T.z_sorted (Zb 8)) Z7)))))))))))
ЛZdu{fd:cr}(F:Fun K "joined" "joined" Tt fx7 fd){dx4:cr}(Vx4:FnOk P w K mg base Us 1 fx4 dx4 ["heaps"] (Y6 K 1 Ja))(Wx4:Wq K dx4 ["heaps"] []){dx5:cr}(Vx5:FnOk P w K mg base Us 1 fx5 dx5 ["heaps","holders","place"] (Y6 K 3 Iy))(Wx5:Wq K dx5 ["heaps","holders","place"] []){dx6:cr}(Vx6:FnOk P w K mg base Us 1 fx6 dx6 ["heaps"] (Y6 K 1 Jc))(Wx6:Wq K dx6 ["heaps"] []):
  FnOk P w K mg base Us 2 fx7 fd ["heaps"] (Y6 K 1 Gj):=by
 R Nb F Jp rfl Iz λ_ _ _ _ _ _ _ hr hu hv=>?_;E(Zf (Z9 1 Jp.nd (Yp Vx4 (hr.mono Й) T.m_4 T.k_4 Wx4 (Zm (Zb 0) Yo))) (Zf (Z9 2 Jp.nd (Wu Z7)) (Zf (Z9 3 Jp.nd Ap) (Zf (Wi ci rfl (T6 T.z_range (Ex T.z_len (Zb 0))) (Zv 4 Jp.nd) (Zq (Mf (E4 hu (Zb 4) (Zb 3)) (Zf (Z9 5 Jp.nd (Yp Vx5 (hr.mono Й) T.m_5 T.k_5 Wx5 (Zm (Zb 0) (Zm (Zb 1) (Zm (Zb 4) Yo))))) (Zf (Wi ci rfl (Qg (Zb 5)) (Zv 6 Jp.nd) (Zq (Mj 3 hu (Zb 6) Ka))) (Zq (C4 2 (Yp Vx6 (hr.mono Й) T.m_6 T.k_6 Wx6 (Zm (B3 rfl (Wo (N':=["other","heaps",".acc"]) (src:=[.own,.cap 0,.acc]) З З З З З З) (C3 2 З З) Й (Qg (Zb 5)) (λ_ _ _ _=>xg λ_=>(Zv 0 (show(["other","heaps",".acc"]:А Str).Nodup by decide+kernel))) (λ_ _ _ _=>xt0) (λ_ _ _ _=>xe λ_=>(Yj hu (Zb 1) (Zb 0)))) Yo)))))) Q8))) (Zq (Wr (Tq hv T.z_sorted (Zb 2))))))))
ЛSj{fd:cr}(F:Fun K "own_texts" "own_texts" Ce fx8 fd):
  FnOk P w K mg base Us 1 fx8 fd ["work"] (Y6 K 1 Q0):=by
 R Nb F M5 rfl Gk λ_ _ _ _ _ _ _ hr hu hv=>?_;E(Zf (Z9 1 M5.nd (Zgi T.z_dict (Yj hu (Zb 0) Zy))) (Zf (Mj 1 hu Cu (Yj hu (Zb 0) Zy)) (Zq (Wr (Zb 1)))))
ЛXl{fd:cr}(F:Fun K "marks_of" "marks_of" Gb fx9 fd):
  FnOk P w K mg base Us 1 fx9 fd ["texts","rules"] (Y6 K 2 Op):=by
 R Nb F O6 rfl R1 λ_ _ _ _ _ _ _ hr hu hv=>?_;E(Zf (Z9 2 O6.nd (Wu Z7)) (Zf (Wi ci rfl (Mg T.z_enumerate (Zt (Zb 1) Z7)) (Me rfl (Y2 (Zv 3 O6.nd) (Y2 (Zv 4 O6.nd) B2))) (Zq (Mf (Zat (Zs4 T.z_all (B3 rfl (Wo (N':=["field","texts",".acc"]) (src:=[.own,.cap 0,.acc]) З З З З З З) (C3 2 З З) Й (Qg (Zb 4)) (λ_ _ _ _=>xg λ_=>(Zv 0 (show(["field","texts",".acc"]:А Str).Nodup by decide+kernel))) (λ_ _ _ _=>xt0) (λ_ _ _ _=>xe λ_=>(Zmv hu (Zb 0) (Zb 1)))))) (Zq (C4 2 (Oc (Zt (Zb 3) (Zt (Zau T.z_tuple (B3 rfl (Wo (N':=["field","texts",".acc"]) (src:=[.own,.cap 0,.acc]) З З З З З З) (C3 2 З З) Й (Qg (Zb 4)) (λ_ _ _ _=>xg λ_=>(Zv 0 (show(["field","texts",".acc"]:А Str).Nodup by decide+kernel))) (λ_ _ _ _=>xt0) (λ_ _ _ _=>xe λ_=>(Yj hu (Zb 1) (Zb 0))))) Z7))))) Q8))) (Zq (Wr (Zb 2)))))
ЛSk{fd:cr}(F:Fun K "lone_heap" "lone_heap" Cf fx10 fd){dx8:cr}(Vx8:FnOk P w K mg base Us 1 fx8 dx8 ["work"] (Y6 K 1 Q0))(Wx8:Wq K dx8 ["work"] []){dx9:cr}(Vx9:FnOk P w K mg base Us 1 fx9 dx9 ["texts","rules"] (Y6 K 2 Op))(Wx9:Wq K dx9 ["texts","rules"] []):
  FnOk P w K mg base Us 2 fx10 fd ["name","work","rules"] (Y6 K 3 Q1):=by
 R Nb F Co rfl Gm λ_ _ _ _ _ _ _ hr hu hv=>?_;E(Zf (Z9 3 Co.nd (Yp Vx8 (hr.mono Й) T.m_8 T.k_8 Wx8 (Zm (Zb 1) Yo))) (Zf (Lg 4 rfl (Wo (N':=["field","texts","name",".acc"]) (src:=[.own,.cap 3,.cap 0,.acc]) З З З З З З) (C3 3 З З) Й (Zgt (Zb 3)) (λ_ _ _ _=>xg λ_=>(Zv 0 (show(["field","texts","name",".acc"]:А Str).Nodup by decide+kernel))) (λ_ _ _ _=>xt λ_=>(T7 hv (Zb 0) Cu)) (λ_ _ _ _=>xe λ_=>(Oc (Zt (Zb 0) (Zt (Yj hu (Zb 1) (Zb 0)) (Zt (Wu (Zt (Zb 2) Z7)) Z7))))) Co.nd) (Zq (Wr (Oc (Zt (Wu (Zt (Zb 0) Z7)) (Zt (Yp Vx9 (hr.mono Й) T.m_9 T.k_9 Wx9 (Zm (Zb 3) (Zm (Zb 2) Yo))) (Zt (Zb 4) Z7))))))))
ЛD7{fd:cr}(F:Fun K "pool_of" "pool_of" R0 fx11 fd){dx7:cr}(Vx7:FnOk P w K mg base Us 2 fx7 dx7 ["heaps"] (Y6 K 1 Gj))(Wx7:Wq K dx7 ["heaps"] []){dx10:cr}(Vx10:FnOk P w K mg base Us 2 fx10 dx10 ["name","work","rules"] (Y6 K 3 Q1))(Wx10:Wq K dx10 ["name","work","rules"] []):
  FnOk P w K mg base Us 3 fx11 fd ["book","shelf","rules"] (Y6 K 3 Q2):=by
 R Nb F D6 rfl Tu λ_ _ _ _ _ _ _ hr hu hv=>?_;E(Zq (Wr (Yp Vx7 (hr.mono Й) T.m_7 T.k_7 Wx7 (Zm (B3 rfl (Wo (N':=["key","rules","book","shelf",".acc"]) (src:=[.own,.cap 2,.cap 0,.cap 1,.acc]) З З З З З З) (C3 4 З З) Й (Zgt (Zb 1)) (λ_ _ _ _=>xg λ_=>(Zv 0 (show(["key","rules","book","shelf",".acc"]:А Str).Nodup by decide+kernel))) (λ_ _ _ _=>xt0) (λ_ _ _ _=>xe λ_=>(Yp Vx10 (hr.mono Й) T.m_10 T.k_10 Wx10 (Zm (Oc (Zt (Zb 2) (Zt (Zb 0) Z7))) (Zm (Yj hu (Zb 3) (Zb 0)) (Zm (Zb 1) Yo)))))) Yo))))
ЛSl{fd:cr}(F:Fun K "_law_mixed" "_law_mixed" Cg fx12 fd):
  FnOk P w K mg base Us 1 fx12 fd ["_law_cell","_law_by"] (Y6 K 2 W5):=by
 R Nb F Sf rfl Gn λ_ _ _ _ _ _ _ hr hu hv=>?_;E(Zq (Wr (Ua (Ti (Ua (Zb 0) Zy) (Zb 1)) Zy)))
ЛFa{fd:cr}(F:Fun K "_law_cell_at" "_law_cell_at" Oh fx13 fd):
  FnOk P w K mg base Us 1 fx13 fd ["_law_script","_law_k"] (Y6 K 2 Z2):=by
 R Nb F I8 rfl Jx λ_ _ _ _ _ _ _ hr hu hv=>?_;E(Zf (Mf (Zxr (Zb 1) (Ex T.z_len (Zb 0))) (Zq (Wr (Yj hu (Zb 0) (Zb 1)))) Q8) (Zq (Wr Zy)))
ЛSm{fd:cr}(F:Fun K "_law_marks" "_law_marks" Ch fx14 fd):
  FnOk P w K mg base Us 1 fx14 fd ["_law_work","_law_rules_here"] (Y6 K 2 Ug):=by
 R Nb F Wl rfl Go λ_ _ _ _ _ _ _ hr hu hv=>?_;E(Zf (Ey (Zb 0) (Me rfl (Y2 (Zv 2 Wl.nd) (Y2 (Zv 3 Wl.nd) B2)))) (Zf (Z9 4 Wl.nd (Wu Z7)) (Zf (Wi ci rfl (Mg T.z_enumerate (Zt (Zb 1) Z7)) (Me rfl (Y2 (Zv 5 Wl.nd) (Y2 (Zv 6 Wl.nd) B2))) (Zq (Mf (Pv (E4 hu Ka (B3 rfl (Wo (N':=["_law_field","_law_own",".acc"]) (src:=[.own,.cap 3,.acc]) З З З З З З) (C3 2 З З) Й (Qg (Zb 6)) (λ_ _ _ _=>xg λ_=>(Zv 0 (show(["_law_field","_law_own",".acc"]:А Str).Nodup by decide+kernel))) (λ_ _ _ _=>xt0) (λ_ _ _ _=>xe λ_=>(Zxs (Vo hv (Zb 0) Cu) (Zsx (Zmv hu (Zb 0) (Zb 1)))))))) (Zf (Z9 7 Wl.nd (Wu Z7)) (Zf (Wi ci rfl (Qg (Zb 6)) (Zv 8 Wl.nd) (Zq (C4 7 (Yj hu (Wu (Zt (Hx hu (Zb 3) (Zt (Zb 8) Z7)) (Zt (Zb 2) Z7))) (Zfx T.z_int (Vo hv (Zb 8) Cu)))))) (Zq (C4 4 (Oc (Zt (Zb 5) (Zt (Zau T.z_tuple (Zb 7)) Z7))))))) Q8))) (Zq (Wr (Zb 4))))))
ЛXm{fd:cr}(F:Fun K "_law_flat" "_law_flat" Gc fx15 fd):
  FnOk P w K mg base Us 1 fx15 fd ["_law_lists"] (Y6 K 1 We):=by
 R Nb F Gq rfl R3 λ_ _ _ _ _ _ _ hr hu hv=>?_;E(Zf (Z9 1 Gq.nd (Wu Z7)) (Zf (Wi ci rfl (Qg (Zb 0)) (Zv 2 Gq.nd) (Zq (Dv 1 (Zb 2)))) (Zq (Wr (Zb 1)))))
ЛXn{fd:cr}(F:Fun K "_law_told" "_law_told" Gd fx16 fd):
  FnOk P w K mg base Us 1 fx16 fd ["_law_book","_law_shelf_here","_law_names_here"] (Y6 K 3 Oq):=by
 R Nb F Q3 rfl R4 λ_ _ _ _ _ _ _ hr hu hv=>?_;E(Zf (Z9 3 Q3.nd Za0) (Zf (Wi ci rfl (Qg (Zb 2)) (Zv 4 Q3.nd) (Zf (Ey (Yj hu (Zb 1) (Yj hu (Zb 4) Zy)) (Me rfl (Y2 (Zv 5 Q3.nd) (Y2 (Zv 6 Q3.nd) B2)))) (Zf (Wi ci rfl (Zgt (Zb 6)) (Zv 7 Q3.nd) (Zq (Mf (T7 hv (Zb 7) Cu) (Zq (Mj 3 hu (Oc (Zt (Zb 7) (Zt (Yj hu (Zb 6) (Zb 7)) Z7))) (Qx (Hx hu (Zb 3) (Zt (Oc (Zt (Zb 7) (Zt (Yj hu (Zb 6) (Zb 7)) Z7))) (Zt (Wu Z7) Z7))) (Wu (Zt (Zb 4) Z7))))) Q8))) (Zq (Mj 3 hu (Oc (Zt Cu (Zt (Zb 5) Z7))) (Qx (Hx hu (Zb 3) (Zt (Oc (Zt Cu (Zt (Zb 5) Z7))) (Zt (Wu Z7) Z7))) (Wu (Zt (Zb 4) Z7)))))))) (Zq (Wr (B3 rfl (Wo (N':=["_law_pair","_law_told_here",".acc"]) (src:=[.own,.cap 3,.acc]) З З З З З З) (C3 2 З З) Й (Qg (Zg7 rfl hv T.z_sorted (Zb 3))) (λ_ _ _ _=>xg λ_=>(Zv 0 (show(["_law_pair","_law_told_here",".acc"]:А Str).Nodup by decide+kernel))) (λ_ _ _ _=>xt0) (λ_ _ _ _=>xe λ_=>(Oc (Zt (Yj hu (Zb 0) Zy) (Zt (Yj hu (Zb 0) Zy) (Zt (Tq hv T.z_sorted (Yj hu (Zb 1) (Zb 0))) Z7))))))))))
ЛXo{fd:cr}(F:Fun K "_law_near" "_law_near" Ge fx17 fd):
  FnOk P w K mg base Us 1 fx17 fd ["_law_name","_law_met","_law_marks_here"] (Y6 K 3 Jo):=by
 R Nb F Gr rfl Cn λ_ _ _ _ _ _ _ hr hu hv=>?_;E(Zf (Wi ci rfl (Qg (Zb 1)) (Zv 3 Gr.nd) (Zq (Wi ci rfl (Qg (Yj hu (Zb 2) (Zb 0))) (Zv 4 Gr.nd) (Zq (Mf (Zng hv (Zb 4) (Yj hu (Zb 2) (Zb 3))) (Zq (Wr Ka)) Q8))))) (Zq (Wr Ka)))
ЛSn{fd:cr}(F:Fun K "_law_hangs" "_law_hangs" Ci fx18 fd){dx17:cr}(Vx17:FnOk P w K mg base Us 1 fx17 dx17 ["_law_name","_law_met","_law_marks_here"] (Y6 K 3 Jo))(Wx17:Wq K dx17 ["_law_name","_law_met","_law_marks_here"] []):
  FnOk P w K mg base Us 2 fx18 fd ["_law_names_here","_law_marks_here"] (Y6 K 2 Uh):=by
 R Nb F U0 rfl Gp λ_ _ _ _ _ _ _ hr hu hv=>?_;E(Zf (Z9 2 U0.nd (Wu (Zt (Yj hu (Zb 0) Zy) Z7))) (Zf (Wi ci rfl (T6 T.z_range (Ex T.z_len (Zb 0))) (Zv 3 U0.nd) (Zq (Wi ci rfl (Qg (Zb 0)) (Zv 4 U0.nd) (Zq (Mf (PW.pt (Zsw (Zhz hv (Zb 4) (Zb 2)) (Zow (Pv (Zat (Yp Vx17 (hr.mono Й) T.m_17 T.k_17 Wx17 (Zm (Zb 4) (Zm (Zb 2) (Zm (Zb 1) Yo))))))))) (Zq (C4 2 (Zb 4))) Q8))))) (Zq (Wr (Vo hv (Ex T.z_len (Zb 2)) (Ex T.z_len (Zb 0)))))))
ЛZqe{fd:cr}(F:Fun K "law" "law" Cj fx19 fd){dx0:cr}(Vx0:FnOk P w K mg base Us 1 fx0 dx0 ["_law_number","_law_many"] (Y6 K 2 Wa))(Wx0:Wq K dx0 ["_law_number","_law_many"] []){dx2:cr}(Vx2:FnOk P w K mg base Us 2 fx2 dx2 ["_law_fields","_law_cell"] (Y6 K 2 Ue))(Wx2:Wq K dx2 ["_law_fields","_law_cell"] []){dx3:cr}(Vx3:FnOk P w K mg base Us 2 fx3 dx3 ["_law_keys","_law_fields","_law_cells","_law_wide"] (Y6 K 4 Uf))(Wx3:Wq K dx3 ["_law_keys","_law_fields","_law_cells","_law_wide"] []){dx11:cr}(Vx11:FnOk P w K mg base Us 3 fx11 dx11 ["book","shelf","rules"] (Y6 K 3 Q2))(Wx11:Wq K dx11 ["book","shelf","rules"] []){dx12:cr}(Vx12:FnOk P w K mg base Us 1 fx12 dx12 ["_law_cell","_law_by"] (Y6 K 2 W5))(Wx12:Wq K dx12 ["_law_cell","_law_by"] []){dx13:cr}(Vx13:FnOk P w K mg base Us 1 fx13 dx13 ["_law_script","_law_k"] (Y6 K 2 Z2))(Wx13:Wq K dx13 ["_law_script","_law_k"] []){dx14:cr}(Vx14:FnOk P w K mg base Us 1 fx14 dx14 ["_law_work","_law_rules_here"] (Y6 K 2 Ug))(Wx14:Wq K dx14 ["_law_work","_law_rules_here"] []){dx15:cr}(Vx15:FnOk P w K mg base Us 1 fx15 dx15 ["_law_lists"] (Y6 K 1 We))(Wx15:Wq K dx15 ["_law_lists"] []){dx16:cr}(Vx16:FnOk P w K mg base Us 1 fx16 dx16 ["_law_book","_law_shelf_here","_law_names_here"] (Y6 K 3 Oq))(Wx16:Wq K dx16 ["_law_book","_law_shelf_here","_law_names_here"] []){dx18:cr}(Vx18:FnOk P w K mg base Us 2 fx18 dx18 ["_law_names_here","_law_marks_here"] (Y6 K 2 Uh))(Wx18:Wq K dx18 ["_law_names_here","_law_marks_here"] []):
  FnOk P w K mg base Us 4 fx19 fd ["_law_script"] (Y6 K 1 M4):=by
 R Nb F Wt rfl Zh9 λ_ _ _ _ _ _ _ hr hu hv=>?_;E(Zf (Z9 1 Wt.nd (Zxt (Zb 0) (Zfw Zy) (Zfw Zy))) (Zf (Z9 2 Wt.nd (Yp Vx0 (hr.mono Й) T.m_0 T.k_0 Wx0 (Zm (Yp Vx12 (hr.mono Й) T.m_12 T.k_12 Wx12 (Zm (Yp Vx13 (hr.mono Й) T.m_13 T.k_13 Wx13 (Zm (Zb 0) (Zm Zy Yo))) (Zm Zy Yo))) (Zm (Ex T.z_len (Zb 1)) Yo)))) (Zf (Z9 3 Wt.nd (Yp Vx0 (hr.mono Й) T.m_0 T.k_0 Wx0 (Zm (Yp Vx12 (hr.mono Й) T.m_12 T.k_12 Wx12 (Zm (Yp Vx13 (hr.mono Й) T.m_13 T.k_13 Wx13 (Zm (Zb 0) (Zm Zy Yo))) (Zm Zy Yo))) (Zm Zy Yo)))) (Zf (Z9 4 Wt.nd (Yj hu (Yp Vx0 (hr.mono Й) T.m_0 T.k_0 Wx0 (Zm (Yp Vx12 (hr.mono Й) T.m_12 T.k_12 Wx12 (Zm (Yp Vx13 (hr.mono Й) T.m_13 T.k_13 Wx13 (Zm (Zb 0) (Zm Zy Yo))) (Zm Zy Yo))) (Zm Zy Yo))) Zy)) (Zf (Z9 5 Wt.nd (Yp Vx2 (hr.mono Й) T.m_2 T.k_2 Wx2 (Zm (Zb 3) (Zm (Yp Vx13 (hr.mono Й) T.m_13 T.k_13 Wx13 (Zm (Zb 0) (Zm Zy Yo))) Yo)))) (Zf (Z9 6 Wt.nd (Yp Vx3 (hr.mono Й) T.m_3 T.k_3 Wx3 (Zm (Zb 2) (Zm (Zb 3) (Zm (Zb 1) (Zm (Qx Zy (Ua (Yp Vx13 (hr.mono Й) T.m_13 T.k_13 Wx13 (Zm (Zb 0) (Zm Zy Yo))) Zy)) Yo)))))) (Zf (Z9 7 Wt.nd Za0) (Zf (Wi ci rfl (Qg (Zb 2)) (Zv 8 Wt.nd) (Zq (Mj 7 hu (Oc (Zt (Zb 4) (Zt (Zb 8) Z7))) (Yp Vx14 (hr.mono Й) T.m_14 T.k_14 Wx14 (Zm (Yj hu (Zb 6) (Zb 8)) (Zm (Zb 5) Yo)))))) (Zf (Z9 9 Wt.nd (Yp Vx11 (hr.mono Й) T.m_11 T.k_11 Wx11 (Zm (Zb 4) (Zm (Zb 6) (Zm (Zb 5) Yo))))) (Zf (Mf (PW.pt (Zj9 (Zmq (Zat (Zsy T.z_isinstance T.z_list boot_list (Zfy _) (Zb 9)))) (Zfv (T7 hv (Zb 9) (Tq hv T.z_sorted (Zb 9)))))) (Zq (Wr Ka)) Q8) (Zf (Mf (Pv (T7 hv (Tq hv T.z_sorted (Yp Vx15 (hr.mono Й) T.m_15 T.k_15 Wx15 (Zm (B3 rfl (Wo (N':=["_law_heap",".acc"]) (src:=[.own,.acc]) З З З З З З) (C3 1 З З) Й (Qg (Zb 9)) (λ_ _ _ _=>xg λ_=>(Zv 0 (show(["_law_heap",".acc"]:А Str).Nodup by decide+kernel))) (λ_ _ _ _=>xt0) (λ_ _ _ _=>xe λ_=>(Yj hu (Zb 0) Zy))) Yo))) (Zg7 rfl hv T.z_sorted (Zb 7)))) (Zq (Wr Ka)) Q8) (Zf (Z9 10 Wt.nd (Wu Z7)) (Zf (Wi ci rfl (Qg (Zb 9)) (Zv 11 Wt.nd) (Zf (Ey (Zb 11) (Me rfl (Y2 (Zv 12 Wt.nd) (Y2 (Zv 13 Wt.nd) (Y2 (Zv 14 Wt.nd) B2))))) (Zf (Z9 15 Wt.nd (P7 rfl hv T.z_sorted T.z_set (Yp Vx15 (hr.mono Й) T.m_15 T.k_15 Wx15 (Zm (B3 rfl (Wo (N':=["_law_name","_law_marks_here",".acc"]) (src:=[.own,.cap 7,.acc]) З З З З З З) (C3 2 З З) Й (Qg (Zb 12)) (λ_ _ _ _=>xg λ_=>(Zv 0 (show(["_law_name","_law_marks_here",".acc"]:А Str).Nodup by decide+kernel))) (λ_ _ _ _=>xt0) (λ_ _ _ _=>xe λ_=>(Yj hu (Zb 1) (Zb 0)))) Yo)))) (Zf (Mf (PW.pt (Zj9 (T7 hv (Zb 12) (Tq hv T.z_sorted (Zb 12))) (Zj9 (T7 hv (Zb 13) (Zb 15)) (Zfv (T7 hv (Zb 14) (Yp Vx16 (hr.mono Й) T.m_16 T.k_16 Wx16 (Zm (Zb 4) (Zm (Zb 6) (Zm (Zb 12) Yo))))))))) (Zq (Wr Ka)) Q8) (Zf (Mf (PW.pt (Zj9 (Zmq (Zat (Yp Vx18 (hr.mono Й) T.m_18 T.k_18 Wx18 (Zm (Zb 12) (Zm (Zb 7) Yo))))) (Zfv (Pv (T7 hv (B3 rfl (Wo (N':=["_law_mark","_law_seen",".acc"]) (src:=[.own,.cap 10,.acc]) З З З З З З) (C3 2 З З) Й (Qg (Zb 13)) (λ_ _ _ _=>xg λ_=>(Zv 0 (show(["_law_mark","_law_seen",".acc"]:А Str).Nodup by decide+kernel))) (λ_ _ _ _=>xt λ_=>(Zng hv (Zb 0) (Zb 1))) (λ_ _ _ _=>xe λ_=>(Zb 0))) (Wu Z7)))))) (Zq (Wr Ka)) Q8) (Zq (Z9 10 Wt.nd (Qx (Zb 10) (Zb 13))))))))) (Zf (Z9 16 Wt.nd Ap) (Zf (Wi ci rfl (Zuo T.z_reversed (Zt (Zb 2) Z7)) (Zv 8 Wt.nd) (Zq (Mj 16 hu (Zb 8) (Yj hu (Zb 6) (Zb 8))))) (Zq (Wr (Vo hv (Yp Vx11 (hr.mono Й) T.m_11 T.k_11 Wx11 (Zm (Zb 4) (Zm (Zb 16) (Zm (Zb 5) Yo)))) (Zb 9)))))))))))))))))))
end
ЛZqf{l:PySem.W.OpenLaw}{w:da}{K:af}{h:eh}{mg:Str->Б am}{fa fx0 fx1 fx2 fx3 fx4 fx5 fx6 fx7 fx8 fx9 fx10 fx11 fx12 fx13 fx14 fx15 fx16 fx17 fx18 fx19:aq}(X:K.In h)(G:h.Ns b8 mg)(hfa:mg "law"=aA (.ref fa))
  {odx19 anx19:Б aq} {slx19:Array (Б am)} {ocx19 kVx19 dcx19 pmx19 cdx19 ctx19:am}
  (ax0:cq K b8 "_law_names"=aA (aA (.ref fx0))) (Fx0:∃fd,Fun K "_law_names" "_law_names" Cb fx0 fd) (kx0:bn K (.ref fx0)=aC)
  (ax1:cq K b8 "_law_numbers"=aA (aA (.ref fx1))) (Fx1:∃fd,Fun K "_law_numbers" "_law_numbers" Og fx1 fd) (kx1:bn K (.ref fx1)=aC)
  (ax2:cq K b8 "_law_rules"=aA (aA (.ref fx2))) (Fx2:∃fd,Fun K "_law_rules" "_law_rules" Cc fx2 fd) (kx2:bn K (.ref fx2)=aC)
  (ax3:cq K b8 "_law_shelf"=aA (aA (.ref fx3))) (Fx3:∃fd,Fun K "_law_shelf" "_law_shelf" Cd fx3 fd) (kx3:bn K (.ref fx3)=aC)
  (ax4:cq K b8 "holders_of"=aA (aA (.ref fx4))) (Fx4:∃fd,Fun K "holders_of" "holders_of" Bf fx4 fd) (kx4:bn K (.ref fx4)=aC)
  (ax5:cq K b8 "tied"=aA (aA (.ref fx5))) (Fx5:∃fd,Fun K "tied" "tied" Se fx5 fd) (kx5:bn K (.ref fx5)=aC)
  (ax6:cq K b8 "join_heaps"=aA (aA (.ref fx6))) (Fx6:∃fd,Fun K "join_heaps" "join_heaps" Bg fx6 fd) (kx6:bn K (.ref fx6)=aC)
  (ax7:cq K b8 "joined"=aA (aA (.ref fx7))) (Fx7:∃fd,Fun K "joined" "joined" Tt fx7 fd) (kx7:bn K (.ref fx7)=aC)
  (ax8:cq K b8 "own_texts"=aA (aA (.ref fx8))) (Fx8:∃fd,Fun K "own_texts" "own_texts" Ce fx8 fd) (kx8:bn K (.ref fx8)=aC)
  (ax9:cq K b8 "marks_of"=aA (aA (.ref fx9))) (Fx9:∃fd,Fun K "marks_of" "marks_of" Gb fx9 fd) (kx9:bn K (.ref fx9)=aC)
  (ax10:cq K b8 "lone_heap"=aA (aA (.ref fx10))) (Fx10:∃fd,Fun K "lone_heap" "lone_heap" Cf fx10 fd) (kx10:bn K (.ref fx10)=aC)
  (ax11:cq K b8 "pool_of"=aA (aA (.ref fx11))) (Fx11:∃fd,Fun K "pool_of" "pool_of" R0 fx11 fd) (kx11:bn K (.ref fx11)=aC)
  (ax12:cq K b8 "_law_mixed"=aA (aA (.ref fx12))) (Fx12:∃fd,Fun K "_law_mixed" "_law_mixed" Cg fx12 fd) (kx12:bn K (.ref fx12)=aC)
  (ax13:cq K b8 "_law_cell_at"=aA (aA (.ref fx13))) (Fx13:∃fd,Fun K "_law_cell_at" "_law_cell_at" Oh fx13 fd) (kx13:bn K (.ref fx13)=aC)
  (ax14:cq K b8 "_law_marks"=aA (aA (.ref fx14))) (Fx14:∃fd,Fun K "_law_marks" "_law_marks" Ch fx14 fd) (kx14:bn K (.ref fx14)=aC)
  (ax15:cq K b8 "_law_flat"=aA (aA (.ref fx15))) (Fx15:∃fd,Fun K "_law_flat" "_law_flat" Gc fx15 fd) (kx15:bn K (.ref fx15)=aC)
  (ax16:cq K b8 "_law_told"=aA (aA (.ref fx16))) (Fx16:∃fd,Fun K "_law_told" "_law_told" Gd fx16 fd) (kx16:bn K (.ref fx16)=aC)
  (ax17:cq K b8 "_law_near"=aA (aA (.ref fx17))) (Fx17:∃fd,Fun K "_law_near" "_law_near" Ge fx17 fd) (kx17:bn K (.ref fx17)=aC)
  (ax18:cq K b8 "_law_hangs"=aA (aA (.ref fx18))) (Fx18:∃fd,Fun K "_law_hangs" "_law_hangs" Ci fx18 fd) (kx18:bn K (.ref fx18)=aC)
  (ax19:cq K b8 "law"=aA (aA (.ref fx19))) (lx19:K.lookup fx19=aA ⟨ocx19,odx19,.func (PySem.W.fnOf "law" "law" (Bz Cj) (Ur Cj) (Zx Cj) .none kVx19 dcx19 pmx19 anx19 cdx19 ctx19),slx19⟩) (cx19:PySem.W.codeIn K cdx19 "law"=aC) (kx19:bn K (.ref fx19)=aC)
  (zall:cq K b8 "all"=aA aB)
  (zdict:cq K b8 "dict"=aA aB)
  (zenumerate:cq K b8 "enumerate"=aA aB)
  (zint:cq K b8 "int"=aA aB)
  (zisinstance:cq K b8 "isinstance"=aA aB)
  (zlen:cq K b8 "len"=aA aB)
  (zlist:cq K b8 "list"=aA aB)
  (zrange:cq K b8 "range"=aA aB)
  (zreversed:cq K b8 "reversed"=aA aB)
  (zset:cq K b8 "set"=aA aB)
  (zsorted:cq K b8 "sorted"=aA aB)
  (zstr:cq K b8 "str"=aA aB)
  (ztuple:cq K b8 "tuple"=aA aB)
  :∃fd:cr,(∀(s:ao) (v:am),BindsTo s fd ⟨[v],[]⟩ [("_law_script",v)])/\∀base:eh,K.In base->base.Ns b8 mg->FnOk l.prog w K mg base Us 4 fa fd ["_law_script"] (Y6 K 1 M4):=by
 V e:=hfa.symm.trans (dz X G ax19);C e;V T:Txt K mg fx0 fx1 fx2 fx3 fx4 fx5 fx6 fx7 fx8 fx9 fx10 fx11 fx12 fx13 fx14 fx15 fx16 fx17 fx18 _:=⟨fg X G zall,fg X G zdict,fg X G zenumerate,fg X G zint,fg X G zisinstance,fg X G zlen,fg X G zlist,fg X G zrange,fg X G zreversed,fg X G zset,fg X G zsorted,fg X G zstr,fg X G ztuple,dz X G ax0,kx0,dz X G ax1,kx1,dz X G ax2,kx2,dz X G ax3,kx3,dz X G ax4,kx4,dz X G ax5,kx5,dz X G ax6,kx6,dz X G ax7,kx7,dz X G ax8,kx8,dz X G ax9,kx9,dz X G ax10,kx10,dz X G ax11,kx11,dz X G ax12,kx12,dz X G ax13,kx13,dz X G ax14,kx14,dz X G ax15,kx15,dz X G ax16,kx16,dz X G ax17,kx17,dz X G ax18,kx18,dz X G ax19,kx19⟩
 O⟨_,Fx0⟩:=Fx0;O⟨_,Fx1⟩:=Fx1;O⟨_,Fx2⟩:=Fx2;O⟨_,Fx3⟩:=Fx3;O⟨_,Fx4⟩:=Fx4;O⟨_,Fx5⟩:=Fx5;O⟨_,Fx6⟩:=Fx6;O⟨_,Fx7⟩:=Fx7;O⟨_,Fx8⟩:=Fx8;O⟨_,Fx9⟩:=Fx9;O⟨_,Fx10⟩:=Fx10;O⟨_,Fx11⟩:=Fx11;O⟨_,Fx12⟩:=Fx12;O⟨_,Fx13⟩:=Fx13;O⟨_,Fx14⟩:=Fx14;O⟨_,Fx15⟩:=Fx15;O⟨_,Fx16⟩:=Fx16;O⟨_,Fx17⟩:=Fx17;O⟨_,Fx18⟩:=Fx18;V Fx19:=Wn (st:=Cj) lx19 cx19 kx19;V bx0:=Fx0.binds (ps:=["_law_number","_law_many"]) λ_ _ _ _ _ _ us hl=>of2 (λ_ _=>rfl) us hl;V bx1:=Fx1.binds (ps:=["_law_cell","_law_many"]) λ_ _ _ _ _ _ us hl=>of2 (λ_ _=>rfl) us hl;V bx2:=Fx2.binds (ps:=["_law_fields","_law_cell"]) λ_ _ _ _ _ _ us hl=>of2 (λ_ _=>rfl) us hl;V bx3:=Fx3.binds (ps:=["_law_keys","_law_fields","_law_cells","_law_wide"]) λ_ _ _ _ _ _ us hl=>of4 (λ_ _ _ _=>rfl) us hl;V bx4:=Fx4.binds (ps:=["heaps"]) λ_ _ _ _ _ _ us hl=>of1 (λ_=>rfl) us hl;V bx5:=Fx5.binds (ps:=["heaps","holders","place"]) λ_ _ _ _ _ _ us hl=>of3 (λ_ _ _=>rfl) us hl;V bx6:=Fx6.binds (ps:=["heaps"]) λ_ _ _ _ _ _ us hl=>of1 (λ_=>rfl) us hl;V bx7:=Fx7.binds (ps:=["heaps"]) λ_ _ _ _ _ _ us hl=>of1 (λ_=>rfl) us hl;V bx8:=Fx8.binds (ps:=["work"]) λ_ _ _ _ _ _ us hl=>of1 (λ_=>rfl) us hl;V bx9:=Fx9.binds (ps:=["texts","rules"]) λ_ _ _ _ _ _ us hl=>of2 (λ_ _=>rfl) us hl;V bx10:=Fx10.binds (ps:=["name","work","rules"]) λ_ _ _ _ _ _ us hl=>of3 (λ_ _ _=>rfl) us hl;V bx11:=Fx11.binds (ps:=["book","shelf","rules"]) λ_ _ _ _ _ _ us hl=>of3 (λ_ _ _=>rfl) us hl;V bx12:=Fx12.binds (ps:=["_law_cell","_law_by"]) λ_ _ _ _ _ _ us hl=>of2 (λ_ _=>rfl) us hl;V bx13:=Fx13.binds (ps:=["_law_script","_law_k"]) λ_ _ _ _ _ _ us hl=>of2 (λ_ _=>rfl) us hl;V bx14:=Fx14.binds (ps:=["_law_work","_law_rules_here"]) λ_ _ _ _ _ _ us hl=>of2 (λ_ _=>rfl) us hl;V bx15:=Fx15.binds (ps:=["_law_lists"]) λ_ _ _ _ _ _ us hl=>of1 (λ_=>rfl) us hl;V bx16:=Fx16.binds (ps:=["_law_book","_law_shelf_here","_law_names_here"]) λ_ _ _ _ _ _ us hl=>of3 (λ_ _ _=>rfl) us hl;V bx17:=Fx17.binds (ps:=["_law_name","_law_met","_law_marks_here"]) λ_ _ _ _ _ _ us hl=>of3 (λ_ _ _=>rfl) us hl;V bx18:=Fx18.binds (ps:=["_law_names_here","_law_marks_here"]) λ_ _ _ _ _ _ us hl=>of2 (λ_ _=>rfl) us hl;R⟨PySem.W.fnOf "law" "law" (Bz Cj) (Ur Cj) (Zx Cj) .none kVx19 dcx19 pmx19 anx19 cdx19 ctx19,λs v=>.of_eq rfl,λbase kb nb=>?_⟩;V Gx0:=Sg (P:=l.prog) (w:=w) (base:=base) T Fx0;V Gx1:=I9 (P:=l.prog) (w:=w) (base:=base) T Fx1;V Gx2:=Sh (P:=l.prog) (w:=w) (base:=base) T Fx2 Gx1 bx1;V Gx3:=Si (P:=l.prog) (w:=w) (base:=base) T Fx3 Gx1 bx1;V Gx4:=Kk (P:=l.prog) (w:=w) (base:=base) T Fx4;V Gx5:=Zlq (P:=l.prog) (w:=w) (base:=base) T Fx5;V Gx6:=Kl (P:=l.prog) (w:=w) (base:=base) T Fx6;V Gx7:=Zdu (P:=l.prog) (w:=w) (base:=base) T Fx7 Gx4 bx4 Gx5 bx5 Gx6 bx6;V Gx8:=Sj (P:=l.prog) (w:=w) (base:=base) T Fx8;V Gx9:=Xl (P:=l.prog) (w:=w) (base:=base) T Fx9;V Gx10:=Sk (P:=l.prog) (w:=w) (base:=base) T Fx10 Gx8 bx8 Gx9 bx9;V Gx11:=D7 (P:=l.prog) (w:=w) (base:=base) T Fx11 Gx7 bx7 Gx10 bx10;V Gx12:=Sl (P:=l.prog) (w:=w) (base:=base) T Fx12;V Gx13:=Fa (P:=l.prog) (w:=w) (base:=base) T Fx13;V Gx14:=Sm (P:=l.prog) (w:=w) (base:=base) T Fx14;V Gx15:=Xm (P:=l.prog) (w:=w) (base:=base) T Fx15;V Gx16:=Xn (P:=l.prog) (w:=w) (base:=base) T Fx16;V Gx17:=Xo (P:=l.prog) (w:=w) (base:=base) T Fx17;V Gx18:=Sn (P:=l.prog) (w:=w) (base:=base) T Fx18 Gx17 bx17;E Zqe T Fx19 Gx0 bx0 Gx2 bx2 Gx3 bx3 Gx11 bx11 Gx12 bx12 Gx13 bx13 Gx14 bx14 Gx15 bx15 Gx16 bx16 Gx18 bx18
ЛZqg{K:af}{H:Hp}{a:aq}{ns:А Int}(hn:M4 [.lst (ns.map D.int)]=aA (.fz (.bl aC)))(hO:Zfd H)(hS:W8 K H a (ns.map V.int)):Y6 K 1 M4 [.ref a] H (λv _=>v= .bl aC) λ_ _ _=>False:=by R⟨H,[.lst (ns.map D.int)],.fz (.bl aC),Zi.refl H,.cons (.lst hS (.inr λd hd=>let⟨i,_,e⟩:=aw.mp hd;⟨i,e.symm⟩) (Vk ns)) .nil,rfl,hn,λv H' F' ms _ _ _ _ sh _ _=>?_⟩;cases J3 sh;rfl
ЛZzc{l:PySem.W.OpenLaw}{q:b5}{loose:А Str}{XP:(Str->Б am)->eh->В}{YP:da->eh->В}{d:DefRec}{K:Params->af}(hn:l.most=aA 63)(hdf:d.params.defaults=[])
  (hY:∀(w:da) (h:eh),YP w h->(K w.params).In h)
  (F:∀(w:da) (mg:Str->Б am) (fa:aq) (h:eh),(K w.params).In h->h.Ns b8 mg->mg d.name=aA (.ref fa)->
   ∃fd:cr,(∀(s:ao) (u:am),BindsTo s fd ⟨[u],[]⟩ [("_law_script",u)])/\∀base:eh,(K w.params).In base->base.Ns b8 mg->FnOk l.prog w (K w.params) mg base Us 4 fa fd ["_law_script"] (Y6 (K w.params) 1 M4))
  (hlaw:∀ns:А Int,ns.length<=63->M4 [.lst (ns.map D.int)]=aA (.fz (.bl aC))):
  PySem.W.WalkO q loose XP YP l.row.toRowW d [] (λf vs=>PySem.call f vs):=
 L2.Zff (n:=63) (k:=4) (x:="_law_script") (CX:=Us) (sp:=λK=>Y6 K 1 M4) hn Й hdf ⟨rfl,by decide,by decide⟩ hY F (λ_ _ _ ns hl hO hS=>Zqg (hlaw ns hl) hO hS) λ_ _ _ _ z=>z
end Gen
namespace My
open DL PySem
аBp:Str:="abcdefghjlmpqrstuvwxyz"
ЛZia:Bp.cps.toList.length=22:=by decide+kernel
ЛNc:Bp.length<=PySem.sizeLine:=by decide+kernel
МLC(j:Г):Nat:=Bp.cps.toList.getD j 0
ЛZqh:∀i<22,∀j<22,LC i=LC j->i=j:=by decide+kernel
ЛZqi:∀i<22,LC i≠105/\LC i≠110/\LC i≠111:=by decide+kernel
ЛZuu(i:Int):L2.atI Bp.cps.toList (i % 22)=aA (LC (i % 22).toNat):=by
 V h0:0<=i % 22:=gk _ Й;V h1:i % 22<22:=fj _ Й;O⟨j,hj⟩:=Int.eq_ofNat_of_zero_le h0;rw[hj];V hjl:j<Bp.cps.toList.length:=by rw[Zia];W
 R Ip _ _ _ ?_;unfold LC;rw[bi,show((j:Int)).toNat=j by W,ax hjl];rfl
Мsgn(x:Int)(at':Int)(t:Г)(k:Г):Nat:=LC ((x / ((k:Int)+2)+(t:Int)*(if(k:Int)=at' then 1 else 0)) % 22).toNat
МSy(x at':Int)(size t:Г):А Nat:=(c8 size).map (sgn x at' t)
ЛZdv(a1 a3 a5:Б SV)(x at':Int)(t k:Г)(hk:k<=100)(w:А Г)(hw:w.length<=1000)(x9:Б SV):
  ∃y9,Gen.Wm [aA (.fz (.int x)),a1,aA (.fz (.str Bp)),a3,aA (.fz (.int at')),a5,aA (.fz (.int (t:Int))),aA (.fz (.str (S w))),aA (.fz (.int (k:Int))),x9]=aA (.nx [aA (.fz (.int x)),a1,aA (.fz (.str Bp)),a3,aA (.fz (.int at')),a5,aA (.fz (.int (t:Int))),aA (.fz (.str (S (w++[sgn x at' t k])))),aA (.fz (.int (k:Int))),y9]):=by
 V go:∀ki ti:Int,0<=ki->ki<=100->∀b:Int,(b=0\/b=1)->(if ki=at' then(1:Int)else 0)=b->∀ch,L2.atI Bp.cps.toList ((x / (ki+2)+ti*b) % 22)=aA ch->
   Gen.Wm [aA (.fz (.int x)),a1,aA (.fz (.str Bp)),a3,aA (.fz (.int at')),a5,aA (.fz (.int ti)),aA (.fz (.str (S w))),aA (.fz (.int ki)),x9]=aA (.nx [aA (.fz (.int x)),a1,aA (.fz (.str Bp)),a3,aA (.fz (.int at')),a5,aA (.fz (.int ti)),aA (.fz (.str (S (w++[ch])))),aA (.fz (.int ki)),aA (.fz (.int (ti*b)))]):=by
  intro ki ti h0 h1 b hb hif ch hch;V hm:=Dc (i:=ti) (j:=b) И;V d1:0<ki+2:=by W
  V d2:ki+2<1073741824:=by W
  V z:(S w).length+(⟨#[ch]⟩:Str).length<=PySem.sizeLine:=Qq (by rw[Znh w];T w.length+1<=_;W);V ea:S w++(⟨#[ch]⟩:Str)=S (w++[ch]):=Zup w [ch];by_cases hk:ki=at'
  ·rw[Е hk]at hif;subst hif;unfold Gen.Wm;simp[hk]at hm hch d1 d2⊢;simp[hm,hch,d1,d2,Nc,z,ea]
  ·rw[Д hk]at hif;subst hif;unfold Gen.Wm;simp[hk]at hm hch⊢;simp[hm,hch,d1,d2,Nc,z,ea]
 R⟨_,go (k:Int) (t:Int) И И (if(k:Int)=at' then 1 else 0) (by split<;> simp) rfl (sgn x at' t k) (Zuu _)⟩
ЛZdw(a1 a3 a5:Б SV)(x at':Int)(t size:Г)(hs:size<=100)(x8 x9:Б SV):
  ∃y8 y9,Z0 (Zd 8) Gen.Wm (G8 0 size) [aA (.fz (.int x)),a1,aA (.fz (.str Bp)),a3,aA (.fz (.int at')),a5,aA (.fz (.int (t:Int))),aA (.fz (.str (S []))),x8,x9]=aA (.nx [aA (.fz (.int x)),a1,aA (.fz (.str Bp)),a3,aA (.fz (.int at')),a5,aA (.fz (.int (t:Int))),aA (.fz (.str (S (Sy x at' size t)))),y8,y9]):=by
 O⟨δ',e,y8,y9,hy⟩:=G1 (tg:=Zd 8) (body:=Gen.Wm) (P:=λi δ=>∃y8 y9,δ=[aA (.fz (.int x)),a1,aA (.fz (.str Bp)),a3,aA (.fz (.int at')),a5,aA (.fz (.int (t:Int))),aA (.fz (.str (S (Sy x at' i t)))),y8,y9]) size 0 [aA (.fz (.int x)),a1,aA (.fz (.str Bp)),a3,aA (.fz (.int at')),a5,aA (.fz (.int (t:Int))),aA (.fz (.str (S []))),x8,x9] ⟨x8,x9,rfl⟩ (λi _ hi δ ⟨y8,y9,hy⟩=>by
  subst hy;O⟨z9,e⟩:=Zdv a1 a3 a5 x at' t i И (Sy x at' i t) (by unfold Sy;simp;W) y9;R⟨[aA (.fz (.int x)),a1,aA (.fz (.str Bp)),a3,aA (.fz (.int at')),a5,aA (.fz (.int (t:Int))),aA (.fz (.str (S (Sy x at' i t)))),aA (.fz (.int (i:Int))),y9],_,by simp,e,aA (.fz (.int (i:Int))),z9,?_⟩;V :Sy x at' (i+1) t=Sy x at' i t++[sgn x at' t i]:=by unfold Sy;rw[List.range_succ,b7];rfl
  rw[this])
 subst hy;rw[Nat.zero_add]at e;E⟨y8,y9,e⟩
МQh(x at':Int)(size m:Г):А Str:=(c8 m).map λt=>S (Sy x at' size t)
ЛD8(a1:Б SV)(x at':Int)(size:Г)(hs:size<=8)(m:Г)(hm:m<=100):
  ∃δ,Z0 (Zd 6) Gen.Js (G8 0 m) [aA (.fz (.int x)),a1,aA (.fz (.str Bp)),aA (.fz (.int (size:Int))),aA (.fz (.int at')),aA (.ol []),aB,aB,aB,aB]=aA (.nx δ)/\δ[5]? =aA (aA (.ol ((Qh x at' size m).map D.str))):=by
 O⟨δ',e,y6,y7,y8,y9,hy⟩:=G1 (tg:=Zd 6) (body:=Gen.Js) (P:=λi δ=>∃y6 y7 y8 y9,δ=[aA (.fz (.int x)),a1,aA (.fz (.str Bp)),aA (.fz (.int (size:Int))),aA (.fz (.int at')),aA (.ol ((Qh x at' size i).map D.str)),y6,y7,y8,y9]) m 0 [aA (.fz (.int x)),a1,aA (.fz (.str Bp)),aA (.fz (.int (size:Int))),aA (.fz (.int at')),aA (.ol []),aB,aB,aB,aB] ⟨aB,aB,aB,aB,rfl⟩ (λi _ hi δ ⟨y6,y7,y8,y9,hy⟩=>by
  subst hy;O⟨z8,z9,e⟩:=Zdw a1 (aA (.fz (.int (size:Int)))) (aA (.ol ((Qh x at' size i).map D.str))) x at' i size И y8 y9;V g1:Tc (size:Int):=U9 И;V et:((size:Int)).toNat=size:=by W
  V z:(Qh x at' size i).length<PySem.sizeLine:=Z4 (by unfold Qh;simp;W);V he:gr ""=S []:=rfl;V hr:Qh x at' size (i+1)=Qh x at' size i++[S (Sy x at' size i)]:=by unfold Qh;rw[List.range_succ,b7];rfl
  R⟨[aA (.fz (.int x)),a1,aA (.fz (.str Bp)),aA (.fz (.int (size:Int))),aA (.fz (.int at')),aA (.ol ((Qh x at' size i).map D.str)),aA (.fz (.int (i:Int))),y7,y8,y9],[aA (.fz (.int x)),a1,aA (.fz (.str Bp)),aA (.fz (.int (size:Int))),aA (.fz (.int at')),aA (.ol ((Qh x at' size (i+1)).map D.str)),aA (.fz (.int (i:Int))),aA (.fz (.str (S (Sy x at' size i)))),z8,z9],by simp,?_,_,_,_,_,rfl⟩;rw[hr];G Qh x at' size i=NL;unfold Gen.Js;simp[-Z0,he,g1,et,Qy,e,z])
 subst hy;rw[Nat.zero_add]at e;E⟨_,e,rfl⟩
structure Nam(w:Str):В where
 one:1<=w.length
 most:w.length<=8
 no:∀c∈w.cps.toList,c≠105/\c≠110/\c≠111
ЛFb(x:Int)(h0:0<=x)(m:Г)(hm:m<=20):∃ws:А Str,Gen.Wa [.int x,.int (m:Int)]=aA (.ol (ws.map D.str))/\ws.length=m/\ws.Nodup/\∀w∈ws,Nam w:=by
 V s0:0<=x % 8:=gk _ Й;V s1:x % 8<8:=fj _ Й;obtain⟨size,hs⟩:∃n:Г,(n:Int)=1+x % 8:=⟨(1+x % 8).toNat,by W⟩
 V hs1:1<=size:=by W
 V hs8:size<=8:=by W
 V p0:(0:Int)<(size:Int):=by W
 V a0:0<=x / 8 % (size:Int):=gk _ И;V a1:x / 8 % (size:Int)<(size:Int):=fj _ p0;generalize hat:x / 8 % (size:Int)=at' at a0 a1;O⟨δ,e,hδ⟩:=D8 (aA (.fz (.int (m:Int)))) x at' size hs8 m И;V g1:Tc (m:Int):=U9 И;V et:((m:Int)).toNat=m:=by W
 R⟨Qh x at' size m,?_,by unfold Qh;simp,?_,λw hw=>?_⟩
 ·generalize Qh x at' size m=NL at hδ;unfold Gen.Wa Gen.Gf;V hs0:0<size:=by W
  simp[-Z0,<-hs,p0,hs0,hat,g1,et,Qy,e,hδ]
 ·unfold Qh;R List.Pairwise.map _ (R:=λa b=>a≠b/\a<m/\b<m) (λa b h=>?_) ?_
  ·intro z;O⟨hne,ha,hb⟩:=h;V hl:=Zuq z;O⟨k,hk⟩:=Int.eq_ofNat_of_zero_le a0;V hks:k<size:=by W
   V e1:(Sy x at' size a)[k]? =aA (sgn x at' a k):=by unfold Sy;rw[a9,List.getElem?_range hks];rfl
   V e2:(Sy x at' size b)[k]? =aA (sgn x at' b k):=by unfold Sy;rw[a9,List.getElem?_range hks];rfl
   rw[hl,e2]at e1;V e3:=dk.inj e1;unfold sgn at e3;rw[Е hk.symm]at e3;V q:=λy:Int=>(gk y (show(22:Int)≠0 by decide))
   V q':=λy:Int=>(fj y (show(0:Int)<22 by decide))
   V r1:=q (x / ((k:Int)+2)+(a:Int)*1);V r2:=q' (x / ((k:Int)+2)+(a:Int)*1);V r3:=q (x / ((k:Int)+2)+(b:Int)*1);V r4:=q' (x / ((k:Int)+2)+(b:Int)*1);V e4:=Zqh _ И _ И e3;generalize x / ((k:Int)+2)=y at*;W
  ·V nd:(c8 m).Pairwise (λa b=>a<b):=List.pairwise_lt_range;R(g8.mp nd).imp fun{a b} h=>?_;E⟨cj h.2.2,cz.mp h.1,cz.mp h.2.1⟩
 ·unfold Qh at hw;O⟨t,_,rfl⟩:=aw.mp hw;V hl:(S (Sy x at' size t)).length=size:=by rw[Znh];unfold Sy;simp
  R⟨by rw[hl];E hs1,by rw[hl];E hs8,λc hc=>?_⟩;rw[Zp7]at hc;unfold Sy at hc;O⟨k,_,rfl⟩:=aw.mp hc;V r1:=gk (x / ((k:Int)+2)+(t:Int)*(if(k:Int)=at' then 1 else 0)) (show(22:Int)≠0 by decide);V r2:=fj (x / ((k:Int)+2)+(t:Int)*(if(k:Int)=at' then 1 else 0)) (show(0:Int)<22 by decide);E Zqi _ И
ЛZib(c b:Int):Gen.W5 [.int c,.int b]=aA (.fz (.int (c % 2147483647*b % 2147483647))):=by V h1:0<=c % 2147483647:=gk _ Й;V h2:c % 2147483647<2147483647:=fj _ Й;V hm:=Dd (i:=c % 2147483647) (j:=b) И;unfold Gen.W5 Gen.Gn;simp[hm]
ЛM6(ns:А Int)(k:Г):∃c:Int,Gen.Z2 [.lst (ns.map D.int),.int (k:Int)]=aA (.fz (.int c)):=by
 by_cases h:k<ns.length
 ·V a:L2.atI (ns.map D.int) (k:Int)=aA (.int ns[k]):=Ip _ _ _ (by rw[a9,ax h];rfl);R⟨ns[k],?_⟩;V h':(k:Int)<(ns.length:Int):=by W
  unfold Gen.Z2 Gen.Jx;simp[h',h,a]
 ·R⟨0,?_⟩;V h':¬(k:Int)<(ns.length:Int):=by W
  unfold Gen.Z2 Gen.Jx;simp[h',h]
ЛSq(c b:Int):0<=c % 2147483647*b % 2147483647:=gk _ Й
end My
namespace My
open DL PySem TT
Лjz1:1<=PySem.sizeLine:=by decide
Лjz2:2<=PySem.sizeLine:=by decide
Лjz3:3<=PySem.sizeLine:=by decide
аX5:=А (А Г)
аW9(l:А Г):А D:=l.map λp:Г=>.int (p:Int)
МKm(ks:А NK)(pl:X5)(t:NK)(p:Г):А NK×X5:=match Wg ks t with
 |some q=>(ks,pl.set q (pl.getD q []++[p]))
 |none=>(ks++[t],pl++[[p]])
ЛO7:∀{ks:А NK} {k:NK} {q:Г},Wg ks k=aA q->ks[q]? =aA k
 |a::ks,k,q,h=>by
  V h:(if a=k then aA 0 else(Wg ks k).map (· +1))=aA q:=h;by_cases e:a=k
  ·rw[Е e]at h;C h;rw[e];rfl
  ·rw[Д e]at h;O⟨r,hr,e2⟩:=c7.mp h;subst e2;T ks[r]? =aA k;E O7 hr
ЛO8:∀{ks:А NK} {k:NK},Wg ks k=aB->k∉ks
 | [],k,_=>λz=>nomatch z
 |a::ks,k,h=>by
  V h:(if a=k then aA 0 else(Wg ks k).map (· +1))=aB:=h;by_cases e:a=k
  ·rw[Е e]at h;C h
  ·rw[Д e]at h;V :=O8 (Option.map_eq_none_iff.mp h);intro z;rcases bu.mp z with z|z
   ·E e z.symm
   ·E this z
structure Hold(R:NK->Г->В)(B:Г)(ks:А NK)(pl:X5):В where
 nd:ks.Nodup
 len:ks.length=pl.length
 has:∀(t:NK) (p:Г),(∃(q:Г) (l:А Г),ks[q]? =aA t/\pl[q]? =aA l/\p∈l)↔R t p
 few:ks.length<=B
 each:∀l∈pl,l.length<=B
ЛHold.add{R:NK->Г->В}{B:Г}{ks:А NK}{pl:X5}(h:Hold R B ks pl)(t:NK)(p:Г):Hold (λu q=>R u q\/(u=t/\q=p)) (B+1) (Km ks pl t p).1 (Km ks pl t p).2:=by
 unfold Km;cases e:Wg ks t with
 |some q=>
  V hq:=O7 e;V hql:q<ks.length:=by rcases d4 q ks.length with z|z;E z;rw[d5 z]at hq;C hq
  V hqp:q<pl.length:=by rw[<-h.len];E hql
  V eg:pl.getD q []=pl[q]:=by rw[bi,ax hqp];rfl
  R⟨h.nd,by rw[List.length_set];E h.len,λu r=>?_,Nat.le_succ_of_le h.few,λl hl=>?_⟩
  ·rw[<-h.has u r];constructor
   ·rintro⟨i,l,h1,h2,h3⟩;by_cases hi:i=q
    ·subst hi;V eu:u=t:=by rw[hq]at h1;E(dk.inj h1).symm
     rw[ff hqp]at h2;V el:=dk.inj h2;rw[<-el]at h3;rcases bj.mp h3 with z|z
     ·rw[eg]at z;E .inl ⟨i,pl[i],h1,ax hqp,z⟩
     ·E .inr ⟨eu,au.mp z⟩
    ·rw[gd (λz=>hi z.symm)]at h2;E .inl ⟨i,l,h1,h2,h3⟩
   ·rintro(⟨i,l,h1,h2,h3⟩|⟨rfl,rfl⟩)
    ·by_cases hi:i=q
     ·subst hi;R⟨i,pl.getD i []++[p],h1,ff hqp,cf _ ?_⟩;rw[eg];rw[ax hqp]at h2;rw[dk.inj h2];E h3
     ·E⟨i,l,h1,by rw[gd (λz=>hi z.symm)];E h2,h3⟩
    ·E⟨q,_,hq,ff hqp,bx _ ag⟩
  ·rcases List.mem_or_eq_of_mem_set hl with z|z
   ·E Nat.le_succ_of_le (h.each l z)
   ·rw[z,az,eg];V :=h.each _ (List.getElem_mem hqp);simpa using this
 |none=>
  V hn:=O8 e;R⟨c9.mpr ⟨h.nd,by simp,λa ha b hb e=>hn (by rw[<-au.mp hb,<-e];E ha)⟩,by simp[h.len],λu r=>?_,by V :=h.few;simp;W,λl hl=>?_⟩
  ·rw[<-h.has u r];constructor
   ·rintro⟨i,l,h1,h2,h3⟩;rcases d4 i ks.length with z|z
    ·rw[dn z]at h1;rw[dn (by rw[<-h.len];E z)]at h2;E .inl ⟨i,l,h1,h2,h3⟩
    ·rw[gm z]at h1;rw[gm (by rw[<-h.len];E z),<-h.len]at h2;cases ei:i- ks.length with
     |zero=>rw[ei]at h1 h2;C h1;C h2;E .inr ⟨rfl,au.mp h3⟩
     |succ j=>rw[ei]at h1;C h1
   ·rintro(⟨i,l,h1,h2,h3⟩|⟨rfl,rfl⟩)
    ·V z:i<ks.length:=by rcases d4 i ks.length with z|z;E z;rw[d5 z]at h1;C h1
     E⟨i,l,by rw[dn z];E h1,by rw[dn (by rw[<-h.len];E z)];E h2,h3⟩
    ·E⟨ks.length,[r],by simp,by rw[h.len];simp,ag⟩
  ·rcases bj.mp hl with z|z
   ·E Nat.le_succ_of_le (h.each l z)
   ·rw[au.mp z];simp
ЛZdx(ks:А NK)(pl:X5)(t:NK)(p:Г):Aj ks (pl.map W9) t [.int (p:Int)]=((Km ks pl t p).1,(Km ks pl t p).2.map W9):=by
 unfold Aj Km;cases Wg ks t with
 |some q=>
  dsimp only;rw[List.map_set];V :(pl.map W9).getD q []=W9 (pl.getD q []):=by rw[bi,bi,a9];cases pl[q]? <;> rfl
  rw[this];simp[W9]
 |none=>simp[W9]
ЛZb9{δ:Yq}{i j:Г}{fk:FE}{ext:Bool}{ks:А NK}{xss:А (А D)}{k:NK}{p:RV×Yq}{q:D×Yq}{d:D}{ys:А D}(h1:δ[i]? =aA (aA (.oX ks xss)))(h2:fk δ=aA p)(h3:frz p.1 p.2=aA q)(h4:nk? q.1=aA k)(h5:q.2[i]? =aA (aA (.oX ks xss)))(h6:q.2[j]? =aA (aA (.fz d)))
  (h7:(ext=aD/\ys=[d])\/(ext=aC/\d= .lst ys)) (h8:okX xss ys.length):Aa i fk j ext δ=aA (.nx (q.2.set i (aA (.oX (Aj ks xss k ys).1 (Aj ks xss k ys).2)))):=by
 unfold Aa;rw[h1];dsimp only;rw[h2];dsimp only[ck];rw[h3];dsimp only[ck];rw[h4];dsimp only[ck];rw[h5,h6];dsimp only;rcases h7 with⟨rfl,rfl⟩|⟨rfl,rfl⟩
 ·rw[Д Й];dsimp only[ck];rw[Е h8]
 ·rw[Е rfl];dsimp only[ck];rw[Е h8]
ЛZic{xss:А (А D)}{n:Г}(h1:xss.length<=100000)(h2:n<=100000)(h3:∀xs∈xss,xs.length<=100000):okX xss n:=
 ⟨Z4 И,Z4 И,λxs hx=>Z4 (by V :=h3 xs hx;W)⟩
ЛHold.ok{R:NK->Г->В}{B:Г}{ks:А NK}{pl:X5}(h:Hold R B ks pl)(hB:B<=10000)(n:Г)(hn:n<=10000):okX (pl.map W9) n:=
 Zic (by rw[aj,<-h.len];V :=h.few;W) И λxs hx=>by O⟨l,hl,rfl⟩:=aw.mp hx;V :=h.each l hl;simp[W9];W
ЛHold.imp{R R':NK->Г->В}{B B':Г}{ks:А NK}{pl:X5}(h:Hold R B ks pl)(e:∀t p,R t p↔R' t p)(hB:B<=B'):Hold R' B' ks pl:=
 ⟨h.nd,h.len,λt p=>(h.has t p).trans (e t p),du h.few hB,λl hl=>du (h.each l hl) hB⟩
ЛXp(A hd:Б SV)(n:Г):∀(ts:А NK) (R:NK->Г->В) (B:Г) (ks:А NK) (pl:X5) (x4:Б SV),Hold R B ks pl->B+ts.length<=10000->∃ks' pl' y4,Hold (λu q=>R u q\/(u∈ts/\q=n)) (B+ts.length) ks' pl'/\
  Z0 (Zd 4) Gen.Oi (ts.map Zk) [A,aA (.oX ks (pl.map W9)),aA (.fz (.int (n:Int))),hd,x4]=aA (.nx [A,aA (.oX ks' (pl'.map W9)),aA (.fz (.int (n:Int))),hd,y4])
 | [],R,B,ks,pl,x4,h,_=>⟨ks,pl,x4,h.imp (λt p=>by simp) (a6 _),by simp⟩
 |t::ts,R,B,ks,pl,x4,h,hz=>by
  rw[bf]at hz;O⟨ks',pl',y4,h',ih⟩:=Xp A hd n ts _ (B+1) (Km ks pl t n).1 (Km ks pl t n).2 (aA (.fz (Zk t))) (h.add t n) И;R⟨ks',pl',y4,h'.imp (λu q=>?_) (by rw[bf];W),?_⟩
  ·rw[bu];constructor
   ·rintro((z|⟨z1,z2⟩)|⟨z1,z2⟩)
    ·E .inl z
    ·E .inr ⟨.inl z1,z2⟩
    ·E .inr ⟨.inr z1,z2⟩
   ·rintro(z|⟨z1|z1,z2⟩)
    ·E .inl (.inl z)
    ·E .inl (.inr ⟨z1,z2⟩)
    ·E .inr ⟨z1,z2⟩
  ·V a:Gen.Oi [A,aA (.oX ks (pl.map W9)),aA (.fz (.int (n:Int))),hd,aA (.fz (Zk t))]=aA (.nx [A,aA (.oX (Km ks pl t n).1 ((Km ks pl t n).2.map W9)),aA (.fz (.int (n:Int))),hd,aA (.fz (Zk t))]):=by V :=Zb9 (δ:=[A,aA (.oX ks (pl.map W9)),aA (.fz (.int (n:Int))),hd,aA (.fz (Zk t))]) (i:=1) (j:=2) (fk:=Za 4) (p:=(.tmp (.fz (Zk t)),[A,aA (.oX ks (pl.map W9)),aA (.fz (.int (n:Int))),hd,aA (.fz (Zk t))])) (q:=(Zk t,[A,aA (.oX ks (pl.map W9)),aA (.fz (.int (n:Int))),hd,aA (.fz (Zk t))])) (d:=.int (n:Int)) (ext:=aD) (ys:=[.int (n:Int)]) rfl rfl rfl (Ca t) rfl rfl (.inl ⟨rfl,rfl⟩) (h.ok И _ К);rw[Zdx]at this;E this
   rw[a7];unfold Z0;rw[show(Zd 4).run (Zk t) [A,aA (.oX ks (pl.map W9)),aA (.fz (.int (n:Int))),hd,x4]=aA [A,aA (.oX ks (pl.map W9)),aA (.fz (.int (n:Int))),hd,aA (.fz (Zk t))]from by simp];dsimp only[ck];rw[a];E ih
end My
namespace My
open DL PySem TT
МKo(hs:А HP):Nat:=(hs.map λh=>(Ot h).length).sum
ЛTv(h:HP)(hs:А HP):Ko (h::hs)=(Ot h).length+Ko hs:=by unfold Ko;simp
ЛZdy(A:Б SV)(n:Г)(h:HP)(R:NK->Г->В)(B:Г)(ks:А NK)(pl:X5)(x4:Б SV)(ho:Hold R B ks pl)(hz:B+(Ot h).length<=10000):∃ks' pl' y4,Hold (λu q=>R u q\/(u∈Ot h/\q=n)) (B+(Ot h).length) ks' pl'/\
  Gen.W3 [A,aA (.oX ks (pl.map W9)),aA (.fz (.int (n:Int))),aA (.fz (Ye h)),x4]=aA (.nx [A,aA (.oX ks' (pl'.map W9)),aA (.fz (.int (n:Int))),aA (.fz (Ye h)),y4]):=by
 O⟨ks',pl',y4,h',e⟩:=Xp A (aA (.fz (Ye h))) n (Ot h) R B ks pl x4 ho hz;R⟨ks',pl',y4,h',?_⟩;V zl:(h.ns.map Zk).length+(h.ms.map Zk).length<=PySem.sizeLine:=Qq (by rw[aj,aj];rw[az]at hz;W);V at1:∀a b c:D,L2.atI [a,b,c] 1=aA b:=λ_ _ _=>rfl;V at0:∀a b c:D,L2.atI [a,b,c] 0=aA a:=λ_ _ _=>rfl;rw[show(Ot h).map Zk=h.ns.map Zk++h.ms.map Zk from b7]at e;unfold Gen.W3;unfold Ye at e⊢;G h.ns.map Zk=NS;G h.ms.map Zk=MS;G h.fs.map Y5=TS;G pl.map W9=PL;G pl'.map W9=PL';simp[at0,at1,zl,e,-Z0]
аR5(hs:А HP)(t:NK)(p:Г):Prop:=∃h,hs[p]? =aA h/\t∈Ot h
ЛNd(A:Б SV):∀(hs pre:А HP) (B:Г) (ks:А NK) (pl:X5) (x2 x3 x4:Б SV),Hold (R5 pre) B ks pl->B+Ko hs<=10000->∃ks' pl' y2 y3 y4,Hold (R5 (pre++hs)) (B+Ko hs) ks' pl'/\
  Z0 (Wf 2 (Zr (Zd 2) (Zr (Zd 3) Wh))) Gen.W3 (((hs.map Ye).zipIdx pre.length).map λp=>D.tup [.int (p.2:Г),p.1]) [A,aA (.oX ks (pl.map W9)),x2,x3,x4]=aA (.nx [A,aA (.oX ks' (pl'.map W9)),y2,y3,y4])
 | [],pre,B,ks,pl,x2,x3,x4,ho,_=>⟨ks,pl,x2,x3,x4,by rw[List.append_nil];E ho,by simp⟩
 |h::hs,pre,B,ks,pl,x2,x3,x4,ho,hz=>by
  rw[Tv]at hz;O⟨ks1,pl1,z4,h1,t⟩:=Zdy A pre.length h _ B ks pl x4 ho И;V h2:Hold (R5 (pre++[h])) (B+(Ot h).length) ks1 pl1:=h1.imp (λu p=>by
   constructor
   ·rintro(⟨g,e,z⟩|⟨z,rfl⟩)
    ·V hp:p<pre.length:=by rcases d4 p pre.length with q|q;E q;rw[d5 q]at e;C e
     E⟨g,by rw[dn hp];E e,z⟩
    ·E⟨h,by simp,z⟩
   ·rintro⟨g,e,z⟩;rcases d4 p pre.length with q|q
    ·rw[dn q]at e;E .inl ⟨g,e,z⟩
    ·rw[gm q]at e;cases ei:p- pre.length with
     |zero=>rw[ei]at e;C e;E .inr ⟨z,by W⟩
     |succ j=>rw[ei]at e;C e) (a6 _)
  O⟨ks',pl',y2,y3,y4,h',ih⟩:=Nd A hs (pre++[h]) _ ks1 pl1 (aA (.fz (.int (pre.length:Int)))) (aA (.fz (Ye h))) z4 h2 И;R⟨ks',pl',y2,y3,y4,?_,?_⟩
  ·rw[de]at h';rw[Tv];E h'.imp (λ_ _=>Iff.rfl) И
  ·rw[a7,List.zipIdx_cons,a7];rw[az]at ih;unfold Z0;rw[show(Wf 2 (Zr (Zd 2) (Zr (Zd 3) Wh))).run (.tup [.int (pre.length:Г),Ye h]) [A,aA (.oX ks (pl.map W9)),x2,x3,x4]=aA [A,aA (.oX ks (pl.map W9)),aA (.fz (.int (pre.length:Int))),aA (.fz (Ye h)),x4]from by simp];dsimp only[ck];rw[t];E ih
аWb(ks:А NK)(pl:X5):D:=.dX ks ((pl.map W9).map D.lst)
Лholders_of(hs:А HP)(hz:Ko hs<=10000):∃ks pl,Hold (R5 hs) (Ko hs) ks pl/\Gen.Ja [.lst (hs.map Ye)]=aA (.fz (Wb ks pl)):=by
 V h0:Hold (R5 []) 0 [] []:=⟨cx,rfl,λt p=>⟨λ⟨q,l,h,_⟩=>by simp at h,λ⟨h,e,_⟩=>by simp at e⟩,a6 _,λl hl=>nomatch hl⟩
 O⟨ks,pl,y2,y3,y4,ho,e⟩:=Nd (aA (.fz (.lst (hs.map Ye)))) hs [] 0 [] [] aB aB aB h0 И;R⟨ks,pl,by simpa using ho,?_⟩;rw[show(((hs.map Ye).zipIdx ([]:А HP).length).map λp=>D.tup [.int (p.2:Г),p.1])=Q7 (hs.map Ye)from rfl]at e;V e:Z0 (Wf 2 (Zr (Zd 2) (Zr (Zd 3) Wh))) Gen.W3 (Q7 (hs.map Ye)) [aA (.fz (.lst (hs.map Ye))),aA (.oX [] []),aB,aB,aB]=_:=e;unfold Gen.Ja Gen.Ck Wb;G hs.map Ye=HS;G pl.map W9=HX;simp[e,L5,-Z0]
ЛSr:∀{ks:А NK} {vs:А D} {q:Г} {t:NK} {v:D},ks.Nodup->ks[q]? =aA t->vs[q]? =aA v->look ks vs t=aA v
 | [],vs,q,t,v,_,h,_=>by simp at h
 |k::ks,[],q,t,v,_,_,h=>by simp at h
 |k::ks,u::vs,q,t,v,nd,h1,h2=>by
  O⟨n1,n2⟩:=d7.mp nd;show(if k=t then aA u else look ks vs t)=aA v;cases q with
  |zero=>C h1;C h2;rw[Е rfl]
  |succ q=>have h1:ks[q]? =aA t:=h1;rw[Д λe=>n1 (by rw[e];E b9 h1)];E Sr n2 h1 h2
ЛHold.look{R:NK->Г->В}{B:Г}{ks:А NK}{pl:X5}(h:Hold R B ks pl){t:NK}{p:Г}(hr:R t p):∃l:А Г,DL.look ks ((pl.map W9).map D.lst) t=aA (.lst (W9 l))/\(∀p,p∈l↔R t p)/\l.length<=B:=by
 O⟨q,l,h1,h2,h3⟩:=(h.has t p).mpr hr;R⟨l,Sr h.nd h1 (by rw[a9,a9,h2];rfl),λp'=>?_,h.each l (b9 h2)⟩;rw[<-h.has t p'];constructor
 ·E λz=>⟨q,l,h1,h2,z⟩
 ·rintro⟨q',l',g1,g2,g3⟩;V hq:q<ks.length:=by rcases d4 q ks.length with z|z;E z;rw[d5 z]at h1;C h1
  V :q=q':=(List.getElem?_inj hq h.nd).mp (h1.trans g1.symm);subst this;rw[h2]at g2;rw[dk.inj g2];E g3
end My
namespace My
open DL PySem TT
аJg(f:А Г):А L2.Key:=f.map λp:Г=>.inl (p:Int)
аJh(f:А Г):А D:=f.map λ_=>.bl aC
ЛBq{f:А Г}{p:Г}:(gq (p:Int):L2.Key)∈Jg f↔p∈f:=by
 constructor
 ·intro z;O⟨q,hq,e⟩:=aw.mp z;V e:=gq.inj e;V :q=p:=by W
  rw[<-this];E hq
 ·E λz=>dh (f:=λp:Г=>(gq (p:Int):L2.Key)) z
ЛFc:∀{ks:А L2.Key} {vs:А D} {k:L2.Key},k∉ks->look ks vs k=aB
 | [],vs,k,_=>by cases vs<;> rfl
 |a::ks,[],k,_=>rfl
 |a::ks,v::vs,k,h=>by show(if a=k then aA v else look ks vs k)=aB;rw[Д λz=>h (by rw[z];E ag),Fc λz=>h (ar _ z)]
ЛTw:∀{ks:А L2.Key} {vs:А D} {k:L2.Key},ks.length=vs.length->k∈ks->∃v,look ks vs k=aA v
 |a::ks,[],k,h,_=>by simp at h
 |a::ks,v::vs,k,h,hk=>by
  by_cases e:a=k
  ·E⟨v,by show(if a=k then aA v else _)=_;rw[Е e]⟩
  ·O⟨w,hw⟩:=Tw (ks:=ks) (vs:=vs) (k:=k) (by simpa using h) (by
    rcases bu.mp hk with z|z
    ·E absurd z.symm e
    ·E z)
   E⟨w,by show(if a=k then aA v else look ks vs k)=_;rw[Д e,hw]⟩
structure TI(n:Г)(f l:А Г):В where
 nd:f.Nodup
 lt:∀x∈f,x<n
 ld:l.Nodup
 sub:∀x∈l,x∈f
ЛSs{n:Г}{f:А Г}(nd:f.Nodup)(lt:∀x∈f,x<n):f.length<=n:=by V :=b6 nd (l₂:=c8 n) λx hx=>cz.mpr (lt x hx);simpa using this
ЛTI.len{n:Г}{f l:А Г}(h:TI n f l):f.length<=n/\l.length<=n:=⟨Ss h.nd h.lt,Ss h.ld λx hx=>h.lt x (h.sub x hx)⟩
аR8(HS:А D)(HD:D)(i:Г)(f l:А Г)(x5 x6 x7:Б SV):Yq:=[aA (.fz (.lst HS)),aA (.fz HD),aA (.fz (.int (i:Int))),aA (.oK (Jg f) (Jh f)),aA (.ol (W9 l)),x5,x6,x7]
ЛD9(HS:А D)(HD:D)(i n:Г)(hn:n<=1000)(f l:А Г)(h:TI n f l)(o:Г)(x5 x6:Б SV):
  Gen.Oj (R8 HS HD i f l x5 x6 (aA (.fz (.int (o:Int)))))=aA (.nx (if o∈f then R8 HS HD i f l x5 x6 (aA (.fz (.int (o:Int))))else R8 HS HD i (f++[o]) (l++[o]) x5 x6 (aA (.fz (.int (o:Int)))))):=by
 V z1:(Jh f).length<PySem.sizeLine:=Z4 (by V :=h.len;simp;W);V z2:(W9 l).length<PySem.sizeLine:=Z4 (by V :=h.len;simp[W9];W);by_cases ho:o∈f
 ·rw[Е ho];O⟨v,lk⟩:=Tw (ks:=Jg f) (vs:=Jh f) (k:=.inl (o:Int)) К (Bq.mpr ho);unfold Gen.Oj R8;G Jg f=KF;G Jh f=VF;G W9 l=PL;simp[lk,-look]
 ·rw[Д ho];V lk:look (Jg f) (Jh f) (.inl (o:Int))=aB:=Fc λz=>ho (Bq.mp z);V p:Y4 (Jg f) (Jh f) (gq (o:Int)) (.bl aC)=(Jg (f++[o]),Jh (f++[o])):=by unfold Y4;rw[Д λz=>ho (Bq.mp z)];simp[Jg,Jh]
  V e:W9 (l++[o])=W9 l++[.int (o:Int)]:=by simp[W9]
  unfold Gen.Oj R8;rw[e];G Jg (f++[o])=KF';G Jh (f++[o])=VF';G Jg f=KF;G Jh f=VF;G W9 l=PL;simp[lk,p,z1,z2,-look,-Y4]
ЛTI.snoc{n:Г}{f l:А Г}(h:TI n f l){o:Г}(ho:o∉f)(hn:o<n):TI n (f++[o]) (l++[o]):=by
 R⟨c9.mpr ⟨h.nd,by simp,λa ha b hb e=>ho (by rw[<-au.mp hb,<-e];E ha)⟩,λx hx=>?_,c9.mpr ⟨h.ld,by simp,λa ha b hb e=>ho (by rw[<-au.mp hb,<-e];E h.sub a ha)⟩,λx hx=>?_⟩
 ·rcases bj.mp hx with z|z
  ·E h.lt x z
  ·rw[au.mp z];E hn
 ·rcases bj.mp hx with z|z
  ·E cf _ (h.sub x z)
  ·E bx _ z
structure Grew(X:Г->В)(f l f' l':А Г):В where
 gf:∀x,x∈f'↔x∈f\/X x
 gl:∀x,x∈l'↔x∈l\/(X x/\x∉f)
 len:f'.length+l.length=f.length+l'.length
ЛGrew.imp{X Y:Г->В}{f l f' l':А Г}(g:Grew X f l f' l')(e:∀x,X x↔Y x):Grew Y f l f' l':=⟨λx=>by rw[g.gf,e],λx=>by rw[g.gl,e],g.len⟩
ЛGrew.trans{X Y:Г->В}{f l f1 l1 f2 l2:А Г}(g:Grew X f l f1 l1)(h:Grew Y f1 l1 f2 l2):Grew (λx=>X x\/Y x) f l f2 l2:=by
 R⟨λx=>?_,λx=>?_,by V :=g.len;V :=h.len;W⟩
 ·rw[h.gf,g.gf,or_assoc]
 ·rw[h.gl,g.gl,g.gf];constructor
  ·rintro((z|⟨z1,z2⟩)|⟨z1,z2⟩)
   ·E .inl z
   ·E .inr ⟨.inl z1,z2⟩
   ·E .inr ⟨.inr z1,λw=>z2 (.inl w)⟩
  ·rintro(z|⟨z1|z1,z2⟩)
   ·E .inl (.inl z)
   ·E .inl (.inr ⟨z1,z2⟩)
   ·by_cases hx:X x
    ·E .inl (.inr ⟨hx,z2⟩)
    ·E .inr ⟨z1,λw=>w.elim z2 hx⟩
ЛGs(HS:А D)(HD:D)(i n:Г)(hn:n<=1000)(x5 x6:Б SV):∀(os f l:А Г) (x7:Б SV),TI n f l->(∀o∈os,o<n)->∃f' l' y7,TI n f' l'/\Grew (· ∈os) f l f' l'/\
  Z0 (Zd 7) Gen.Oj (W9 os) (R8 HS HD i f l x5 x6 x7)=aA (.nx (R8 HS HD i f' l' x5 x6 y7))
 | [],f,l,x7,h,_=>⟨f,l,x7,h,⟨λx=>by simp,λx=>by simp,rfl⟩,by simp[W9]⟩
 |o::os,f,l,x7,h,ho=>by
  V t:=D9 HS HD i n hn f l h o x5 x6;V r:(Zd 7).run (.int (o:Int)) (R8 HS HD i f l x5 x6 x7)=aA (R8 HS HD i f l x5 x6 (aA (.fz (.int (o:Int))))):=by simp[R8]
  by_cases hf:o∈f
  ·rw[Е hf]at t;O⟨f',l',y7,h',g,ih⟩:=Gs HS HD i n hn x5 x6 os f l (aA (.fz (.int (o:Int)))) h λx hx=>ho x (ar _ hx);R⟨f',l',y7,h',⟨λx=>?_,λx=>?_,g.len⟩,?_⟩
   ·rw[g.gf,bu];E⟨λz=>z.elim .inl λz=>.inr (.inr z),λz=>z.elim .inl λz=>z.elim (λz=>.inl (by rw[z];E hf)) .inr⟩
   ·rw[g.gl,bu];E⟨λz=>z.elim .inl λz=>.inr ⟨.inr z.1,z.2⟩,λz=>z.elim .inl λz=>z.1.elim (λw=>absurd (by rw[w];E hf) z.2) λw=>.inr ⟨w,z.2⟩⟩
   ·T Z0 (Zd 7) Gen.Oj (.int (o:Int)::W9 os) _=_;unfold Z0;rw[r];dsimp only[ck];rw[t];E ih
  ·rw[Д hf]at t;O⟨f',l',y7,h',g,ih⟩:=Gs HS HD i n hn x5 x6 os (f++[o]) (l++[o]) (aA (.fz (.int (o:Int)))) (h.snoc hf (ho o ag)) λx hx=>ho x (ar _ hx);V g0:Grew (· =o) f l (f++[o]) (l++[o]):=⟨λx=>by simp,λx=>by
    rw[bj,au];E⟨λz=>z.elim .inl λz=>.inr ⟨z,by rw[z];E hf⟩,λz=>z.elim .inl λz=>.inr z.1⟩,by simp;W⟩
   R⟨f',l',y7,h',(g0.trans g).imp λx=>by rw[bu],?_⟩;T Z0 (Zd 7) Gen.Oj (.int (o:Int)::W9 os) _=_;unfold Z0;rw[r];dsimp only[ck];rw[t];E ih
ЛZid(hs:А HP)(ks:А NK)(pl:X5)(B:Г)(ho:Hold (R5 hs) B ks pl)(i n:Г)(hn:n<=1000)(hl:hs.length=n)(f l:А Г)(h:TI n f l)(t:NK)(j:Г)(ht:R5 hs t j)(x5 x7:Б SV):∃f' l' y7,TI n f' l'/\Grew (R5 hs t) f l f' l'/\
  Gen.M3 (R8 (hs.map Ye) (Wb ks pl) i f l x5 (aA (.fz (Zk t))) x7)=aA (.nx (R8 (hs.map Ye) (Wb ks pl) i f' l' x5 (aA (.fz (Zk t))) y7)):=by
 O⟨os,lk,hm,_⟩:=ho.look ht;O⟨f',l',y7,h',g,e⟩:=Gs (hs.map Ye) (Wb ks pl) i n hn x5 (aA (.fz (Zk t))) os f l x7 h λo hoo=>by
  O⟨g,eg,_⟩:=(hm o).mp hoo;rw[<-hl];rcases d4 o hs.length with z|z
  ·E z
  ·rw[d5 z]at eg;C eg
 R⟨f',l',y7,h',g.imp hm,?_⟩;V nk:=Ca t;unfold Gen.M3;unfold R8 Wb at e⊢;G hs.map Ye=HS;G (pl.map W9).map D.lst=HX;G Zk t=T;G W9 os=OS;G Jg f'=A1;G Jh f'=A2;G W9 l'=A3;G Jg f=A4;G Jh f=A5;G W9 l=A6;simp[nk,lk,e,-look,-Z0]
ЛNf(hs:А HP)(ks:А NK)(pl:X5)(B:Г)(ho:Hold (R5 hs) B ks pl)(i n:Г)(hn:n<=1000)(hl:hs.length=n)(j:Г)(x5:Б SV):∀(ts:А NK) (f l:А Г) (x6 x7:Б SV),TI n f l->(∀t∈ts,R5 hs t j)->∃f' l' y6 y7,TI n f' l'/\Grew (λx=>∃t∈ts,R5 hs t x) f l f' l'/\
  Z0 (Zd 6) Gen.M3 (ts.map Zk) (R8 (hs.map Ye) (Wb ks pl) i f l x5 x6 x7)=aA (.nx (R8 (hs.map Ye) (Wb ks pl) i f' l' x5 y6 y7))
 | [],f,l,x6,x7,h,_=>⟨f,l,x6,x7,h,⟨λx=>by simp,λx=>by simp,rfl⟩,by simp⟩
 |t::ts,f,l,x6,x7,h,ht=>by
  O⟨f1,l1,z7,h1,g1,e1⟩:=Zid hs ks pl B ho i n hn hl f l h t j (ht t ag) x5 x7;O⟨f',l',y6,y7,h',g',ih⟩:=Nf hs ks pl B ho i n hn hl j x5 ts f1 l1 (aA (.fz (Zk t))) z7 h1 λu hu=>ht u (ar _ hu);R⟨f',l',y6,y7,h',(g1.trans g').imp λx=>?_,?_⟩
  ·simp only[bu,exists_eq_or_imp]
  ·rw[a7];unfold Z0;rw[show(Zd 6).run (Zk t) (R8 (hs.map Ye) (Wb ks pl) i f l x5 x6 x7)=aA (R8 (hs.map Ye) (Wb ks pl) i f l x5 (aA (.fz (Zk t))) x7)from by simp[R8]];dsimp only[ck];rw[e1];E ih
end My
namespace My
open DL PySem TT
МshI(hs:А HP)(a b:Г):Prop:=∃t,R5 hs t a/\R5 hs t b
inductive RI(hs:А HP)(i:Г):Г->В where
 |here:RI hs i i
 |step {a b:Г}:RI hs i a->shI hs a b->RI hs i b
ЛZnj{hs:А HP}{i:Г}{h:HP}(e:hs[i]? =aA h):L2.atI (hs.map Ye) (i:Int)=aA (Ye h):=by
 V hl:i<hs.length:=by rcases d4 i hs.length with z|z;E z;rw[d5 z]at e;C e
 V :L2.ixN hs.length (i:Int)=aA i:=by unfold L2.ixN;simp;W
 unfold L2.atI;rw[aj,this];show(hs.map Ye)[i]? =_;rw[a9,e];rfl
section
variable(hs:А HP)(ks:А NK)(pl:X5)(B:Г)(ho:Hold (R5 hs) B ks pl)(i n:Г)(hn:n<=1000)(hl:hs.length=n)(hB:∀h∈hs,(Ot h).length<=10000)
include ho hn hl hB
ЛZdz(f l:А Г)(j:Г)(h:HP)(hj:hs[j]? =aA h)(ti:TI n f (l++[j]))(x5 x6 x7:Б SV):∃f' l' y5 y6 y7,TI n f' l'/\Grew (shI hs j) f l f' l'/\
  Gen.Gi (R8 (hs.map Ye) (Wb ks pl) i f (l++[j]) x5 x6 x7)=aA (.nx (R8 (hs.map Ye) (Wb ks pl) i f' l' y5 y6 y7)):=by
 V ti0:TI n f l:=⟨ti.nd,ti.lt,(c9.mp ti.ld).1,λx hx=>ti.sub x (cf _ hx)⟩
 O⟨f',l',y6,y7,h',g,e⟩:=Nf hs ks pl B ho i n hn hl j (aA (.fz (Ye h))) (Ot h) f l x6 x7 ti0 λt ht=>⟨h,hj,ht⟩
 R⟨f',l',aA (.fz (Ye h)),y6,y7,h',g.imp λx=>?_,?_⟩
 ·constructor
  ·rintro⟨t,ht,hx⟩;E⟨t,⟨h,hj,ht⟩,hx⟩
  ·rintro⟨t,⟨h2,e2,ht⟩,hx⟩;rw[hj]at e2;C e2;E⟨t,ht,hx⟩
 ·V hz2:(Ot h).length<=10000:=hB h (b9 hj);V zl:(h.ns.map Zk).length+(h.ms.map Zk).length<=PySem.sizeLine:=Qq (by rw[aj,aj];rw[az]at hz2;W);V at1:∀a b c:D,L2.atI [a,b,c] 1=aA b:=λ_ _ _=>rfl;V at0:∀a b c:D,L2.atI [a,b,c] 0=aA a:=λ_ _ _=>rfl;V ai:=Znj hj;rw[show(Ot h).map Zk=h.ns.map Zk++h.ms.map Zk from b7]at e;V el:W9 (l++[j])=W9 l++[.int (j:Int)]:=by simp[W9]
  V e1:(W9 l++[D.int (j:Int)])[(W9 l++[D.int (j:Int)]).length- 1]? =aA (.int (j:Int)):=by simp
  V e2:(W9 l++[D.int (j:Int)]).dropLast=W9 l:=List.dropLast_concat;unfold Gen.Gi;unfold R8 at e⊢;rw[el];rw[show Ye h= .tup [.lst (h.ns.map Zk),.lst (h.ms.map Zk),.lst (h.fs.map Y5)]from rfl]at e ai⊢;G hs.map Ye=HS;G Wb ks pl=HD;G h.ns.map Zk=NS;G h.ms.map Zk=MS;G h.fs.map Y5=TS;G Jg f'=A1;G Jh f'=A2;G W9 l'=A3;G Jg f=A4;G Jh f=A5;G W9 l=A6;generalize hQ:A6++[D.int (j:Int)]=A7 at*;simp[e1,e2,ai,at0,at1,zl,e,-Z0]
ЛFd:∀(m:Г) (f l:А Г) (x5 x6 x7:Б SV),TI n f l->2*(n- f.length)+l.length<m->i∈f->(∀a∈f,RI hs i a)->(∀a∈f,a∉l->∀b,shI hs a b->b∈f)->(∀a∈f,a<n)->∃f' y5 y6 y7,TI n f' []/\i∈f'/\(∀a∈f',RI hs i a)/\(∀a∈f',∀b,shI hs a b->b∈f')/\
  U8 Gen.Ol Gen.Gi m (R8 (hs.map Ye) (Wb ks pl) i f l x5 x6 x7)=aA (.nx (R8 (hs.map Ye) (Wb ks pl) i f' [] y5 y6 y7))
 |0,f,l,x5,x6,x7,_,hm,_,_,_,_=>absurd hm (d6 _)
 |m+1,f,l,x5,x6,x7,ti,hm,hi,hr,hc,hlt=>by
  rcases List.eq_nil_or_concat l with rfl|⟨l0,j,rfl⟩
  ·R⟨f,x5,x6,x7,ti,hi,hr,λa ha=>hc a ha К,?_⟩;V t2:Gen.Ol (R8 (hs.map Ye) (Wb ks pl) i f [] x5 x6 x7)=aA (aD,R8 (hs.map Ye) (Wb ks pl) i f [] x5 x6 x7):=by unfold Gen.Ol R8;simp[W9]
   unfold U8;rw[t2];rfl
  ·rw[List.concat_eq_append]at*;V hjf:j∈f:=ti.sub j К;V hjl:j<hs.length:=by rw[hl];E hlt j hjf
   V hj:hs[j]? =aA hs[j]:=ax hjl;O⟨f',l',y5,y6,y7,ti',g,e⟩:=Zdz hs ks pl B ho i n hn hl hB f l0 j hs[j] hj ti x5 x6 x7;V t1:Gen.Ol (R8 (hs.map Ye) (Wb ks pl) i f (l0++[j]) x5 x6 x7)=aA (aC,R8 (hs.map Ye) (Wb ks pl) i f (l0++[j]) x5 x6 x7):=by unfold Gen.Ol R8;simp[W9]
   V hlen:=g.len;V hf':=ti'.len.1;V hff:f.length<=f'.length:=b6 ti.nd λx hx=>(g.gf x).mpr (.inl hx);V hfn:=ti.len.1;rw[az]at hm;O⟨f2,z5,z6,z7,ti2,a1,a2,a3,a4⟩:=Fd m f' l' y5 y6 y7 ti' (by simp at hm;W) ((g.gf i).mpr (.inl hi)) (λa ha=>by
     rcases(g.gf a).mp ha with z|z
     ·E hr a z
     ·E .step (hr j hjf) z) (λa ha hal b hab=>by
     by_cases haf:a∈f
     ·by_cases haj:a=j
      ·rw[haj]at hab;E(g.gf b).mpr (.inr hab)
      ·V :a∉l0++[j]:=λz=>by
        rcases bj.mp z with z|z
        ·E hal ((g.gl a).mpr (.inl z))
        ·E haj (au.mp z)
       E(g.gf b).mpr (.inl (hc a haf this b hab))
     ·rcases(g.gf a).mp ha with z|z
      ·E absurd z haf
      ·E absurd ((g.gl a).mpr (.inr ⟨z,haf⟩)) hal) (λa ha=>ti'.lt a ha)
   R⟨f2,z5,z6,z7,ti2,a1,a2,a3,?_⟩;unfold U8;rw[t1];dsimp only[ck];rw[Е rfl,e];E a4
Лtied(hi:i<n)(hn2:n<=300):∃f,TI n f []/\i∈f/\(∀a∈f,RI hs i a)/\(∀a∈f,∀b,shI hs a b->b∈f)/\Gen.Iy [.lst (hs.map Ye),Wb ks pl,.int (i:Int)]=aA (.ol (W9 f)):=by
 V ti:TI n [i] [i]:=⟨by simp,λx hx=>by rw[au.mp hx];E hi,by simp,λx hx=>hx⟩
 O⟨f,y5,y6,y7,ti',a1,a2,a3,w⟩:=Fd hs ks pl B ho i n hn hl hB 1000 [i] [i] aB aB aB ti (by simp;W) К (λa ha=>by rw[au.mp ha];E .here) (λa ha hal=>absurd ha hal) (λa ha=>ti.lt a ha);R⟨f,ti',a1,a2,a3,?_⟩;V ek:(Jg f).map Rq=W9 f:=by rw[bo];rfl
 unfold Gen.Iy Gen.D5;V w:U8 Gen.Ol Gen.Gi Gen.Zqd [aA (.fz (.lst (hs.map Ye))),aA (.fz (Wb ks pl)),aA (.fz (.int (i:Int))),aA (.oK [.inl (i:Int)] [.bl aC]),aA (.ol [.int (i:Int)]),aB,aB,aB]=_:=w;unfold R8 at w;G hs.map Ye=HS;G Wb ks pl=HD;G Jg f=A1;G Jh f=A2;G W9 f=A3;simp[w,ek,jz1]
end
end My
namespace My
open DL PySem TT TX
аYg(t:Ad):NK:=.inl [t.1,t.2.1]
МOkK(l:А NK):Prop:=(∀k∈l,isN k)\/(∀k∈l,Sc k)
ЛOkK.one{l:А NK}(h:OkK l):Cv l:=h.imp (λh k hk=>h k hk) λh k hk=>h k hk
ЛSu{l:А NK}(h:OkK l):∃out:А NK,out.Pairwise kLt/\∀x,x∈out↔x∈l:=by
 let le:NK->NK->Bool:=λa b=>!decide (Be b<Be a);V pm:((Lz l).mergeSort le).Perm (Lz l):=List.mergeSort_perm _ _;V pw:((Lz l).mergeSort le).Pairwise λa b=>le a b=aC:=List.pairwise_mergeSort (le:=le) (λa b c h1 h2=>by
   simp only[le,Bool.not_eq_true',decide_eq_false_iff_not]at*;E dm.mpr (List.le_trans (dm.mp h1) (dm.mp h2))) (λa b=>by
   simp only[le,Bool.or_eq_true,Bool.not_eq_true',decide_eq_false_iff_not];rcases List.le_total (Be a) (Be b)with z|z
   ·E .inl (dm.mpr z)
   ·E .inr (dm.mpr z)) _
 V nd:((Lz l).mergeSort le).Nodup:=pm.nodup_iff.mpr (Sb l);V mem:∀x,x∈(Lz l).mergeSort le↔x∈l:=λx=>by rw[pm.mem_iff,Au]
 R⟨_,?_,mem⟩;R(g8.mp (pw.and nd)).imp fun{a b} ⟨ha,hb,h1,h2⟩=>?_;simp only[le,Bool.not_eq_true',decide_eq_false_iff_not]at h1;by_cases z:Be a<Be b
 ·E z
 ·E absurd (Iw (h.one.one ((mem a).mp ha) ((mem b).mp hb)) (List.le_antisymm (dm.mp h1) (dm.mp z))) h2
open Classical in
Мrise(l:А NK):А NK:=if h:∃out:А NK,out.Pairwise kLt/\∀x,x∈out↔x∈l then Classical.choose h else[]
ЛU1{l:А NK}(h:OkK l):(rise l).Pairwise kLt/\∀x,x∈rise l↔x∈l:=by unfold rise;rw[dif_pos (Su h)];E Classical.choose_spec (Su h)
ЛFe{l:А NK}(h:OkK l)(hl:l.length<64):Bo [.lst (l.map Zk)]=aA (.ol ((rise l).map Zk)):=(L1 l).trans (Zh4 h.one hl (λx=>(U1 h).2 x) (U1 h).1)
МGu(ts:А Ad):А Ad:=ts.mergeSort λa b=>!decide (Qv b<Qv a)
ЛUi(ts:А Ad):(Gu ts).Perm ts:=List.mergeSort_perm _ _
ЛNg(ts:А Ad):(Gu ts).Pairwise λa b=>¬Qv b<Qv a:=by
 V :=List.pairwise_mergeSort (le:=λa b:Ad=>!decide (Qv b<Qv a)) (λa b c h1 h2=>by
   simp only[Bool.not_eq_true',decide_eq_false_iff_not]at*;E dm.mpr (List.le_trans (dm.mp h1) (dm.mp h2))) (λa b=>by
   simp only[Bool.or_eq_true,Bool.not_eq_true',decide_eq_false_iff_not];rcases List.le_total (Qv a) (Qv b)with z|z
   ·E .inl (dm.mpr z)
   ·E .inr (dm.mpr z)) ts
 E this.imp fun{a b} h=>by simpa using h
аX6:=А (А NK)
аOu(l:А NK):А D:=l.map Zk
МKq(ks:А NK)(pl:X6)(t:NK)(ys:А NK):А NK×X6:=match Wg ks t with
 |some q=>(ks,pl.set q (pl.getD q []++ys))
 |none=>(ks++[t],pl++[ys])
structure Tell(S:NK->В)(R:NK->NK->В)(L:NK->Г)(B:Г)(ks:А NK)(pl:X6):В where
 nd:ks.Nodup
 len:ks.length=pl.length
 key:∀t,t∈ks↔S t
 has:∀(q:Г) (t:NK) (l:А NK),ks[q]? =aA t->pl[q]? =aA l->(∀k,k∈l↔R t k)/\l.length<=L t
 few:ks.length<=B
ЛTell.imp{S S':NK->В}{R R':NK->NK->В}{L L':NK->Г}{B B':Г}{ks:А NK}{pl:X6}(h:Tell S R L B ks pl)(e1:∀t,S t↔S' t)(e2:∀t k,R t k↔R' t k)(e3:∀t,L t<=L' t)(hB:B<=B'):Tell S' R' L' B' ks pl:=
 ⟨h.nd,h.len,λt=>(h.key t).trans (e1 t),λq t l h1 h2=>⟨λk=>((h.has q t l h1 h2).1 k).trans (e2 t k),du (h.has q t l h1 h2).2 (e3 t)⟩,du h.few hB⟩
ЛTell.add{S:NK->В}{R:NK->NK->В}{L:NK->Г}{B:Г}{ks:А NK}{pl:X6}(h:Tell S R L B ks pl)(hs:∀t k,R t k->S t)(t:NK)(ys:А NK):Tell (λu=>S u\/u=t) (λu k=>R u k\/(u=t/\k∈ys)) (λu=>L u+if u=t then ys.length else 0) (B+1) (Kq ks pl t ys).1 (Kq ks pl t ys).2:=by
 unfold Kq;cases e:Wg ks t with
 |some q=>
  V hq:=O7 e;V hql:q<ks.length:=by rcases d4 q ks.length with z|z;E z;rw[d5 z]at hq;C hq
  V hqp:q<pl.length:=by rw[<-h.len];E hql
  V eg:pl.getD q []=pl[q]:=by rw[bi,ax hqp];rfl
  V ht:S t:=(h.key t).mp (b9 hq);R⟨h.nd,by rw[List.length_set];E h.len,λu=>?_,λi u l h1 h2=>?_,by V :=h.few;T ks.length<=_;W⟩
  ·rw[h.key];E⟨.inl,λz=>z.elim id λz=>by rw[z];E ht⟩
  ·by_cases hi:i=q
   ·subst hi;V eu:u=t:=by rw[hq]at h1;E(dk.inj h1).symm
    rw[ff hqp]at h2;V el:=dk.inj h2;O⟨g1,g2⟩:=h.has i u pl[i] h1 (ax hqp);R⟨λk=>?_,?_⟩
    ·rw[<-el,bj,eg,g1 k];E⟨λz=>z.elim .inl λz=>.inr ⟨eu,z⟩,λz=>z.elim .inl λz=>.inr z.2⟩
    ·rw[<-el,az,eg,Е eu];W
   ·rw[gd (λz=>hi z.symm)]at h2;O⟨g1,g2⟩:=h.has i u l h1 h2;R⟨λk=>?_,by W⟩;rw[g1 k];R⟨.inl,λz=>z.elim id λz=>?_⟩;rw[z.1]at h1;E absurd ((List.getElem?_inj hql h.nd).mp (hq.trans h1.symm)) λw=>hi w.symm
 |none=>
  V hn:=O8 e;R⟨c9.mpr ⟨h.nd,by simp,λa ha b hb e=>hn (by rw[<-au.mp hb,<-e];E ha)⟩,by simp[h.len],λu=>?_,λi u l h1 h2=>?_,by V :=h.few;simp;W⟩
  ·rw[bj,h.key,au]
  ·rcases d4 i ks.length with z|z
   ·rw[dn z]at h1;rw[dn (by rw[<-h.len];E z)]at h2;O⟨g1,g2⟩:=h.has i u l h1 h2;R⟨λk=>?_,by W⟩;rw[g1 k];E⟨.inl,λw=>w.elim id λw=>absurd (by rw[<-w.1];E b9 h1) hn⟩
   ·rw[gm z]at h1;rw[gm (by rw[<-h.len];E z),<-h.len]at h2;cases ei:i- ks.length with
    |zero=>rw[ei]at h1 h2;C h1;C h2;R⟨λk=>⟨λw=>.inr ⟨rfl,w⟩,λw=>w.elim (λw=>absurd ((h.key t).mpr (hs t k w)) hn) λw=>w.2⟩,by rw[Е rfl];W⟩
    |succ j=>rw[ei]at h1;C h1
ЛZd0(ks:А NK)(pl:X6)(t:NK)(ys:А NK):Aj ks (pl.map Ou) t (Ou ys)=((Kq ks pl t ys).1,(Kq ks pl t ys).2.map Ou):=by
 unfold Aj Kq;cases Wg ks t with
 |some q=>
  dsimp only;rw[List.map_set];V :(pl.map Ou).getD q []=Ou (pl.getD q []):=by rw[bi,bi,a9];cases pl[q]? <;> rfl
  rw[this];simp[Ou]
 |none=>simp[Ou]
ЛTell.ok{S:NK->В}{R:NK->NK->В}{L:NK->Г}{B:Г}{ks:А NK}{pl:X6}(h:Tell S R L B ks pl)(hB:B<=10000)(hL:∀t,L t<=10000)(n:Г)(hn:n<=10000):okX (pl.map Ou) n:=
 Zic (by rw[aj,<-h.len];V :=h.few;W) И λxs hx=>by
  O⟨l,hl,rfl⟩:=aw.mp hx;O⟨q,hq,rfl⟩:=f9 hl;V hq2:q<ks.length:=by rw[h.len];E hq
  V :=(h.has q ks[q] pl[q] (ax hq2) (ax hq)).2;V :=hL ks[q];simp[Ou];W
end My
namespace My
open DL PySem TT TX
МX7(t:NK)(fs:А Ad):Nat:=(fs.map λx=>if Yg x=t then x.2.2.length else 0).sum
МtlG(t:NK)(gs:А HP):Nat:=(gs.map λh=>X7 t h.fs).sum
ЛM7(t:NK)(x:Ad)(fs:А Ad):X7 t (x::fs)=(if Yg x=t then x.2.2.length else 0)+X7 t fs:=by unfold X7;simp
ЛFf(t:NK)(h:HP)(gs:А HP):tlG t (h::gs)=X7 t h.fs+tlG t gs:=by unfold tlG;simp
аXq(A:Б SV)(ns ms:А NK)(ks:А NK)(pl:X6)(h x5 x6 x7 x8:Б SV):Yq:=[A,aA (.ol (Ou ns)),aA (.ol (Ou ms)),aA (.oX ks (pl.map Ou)),h,x5,x6,x7,x8]
ЛNh(A h x8:Б SV)(ns ms:А NK):∀(fs:А Ad) (S:NK->В) (R:NK->NK->В) (L:NK->Г) (B:Г) (ks:А NK) (pl:X6) (x5 x6 x7:Б SV),Tell S R L B ks pl->(∀t k,R t k->S t)->B+fs.length<=10000->(∀t,L t+X7 t fs<=10000)->(∀x∈fs,x.2.2.length<=10000)->∃ks' pl' y5 y6 y7,Tell (λt=>S t\/∃x∈fs,t=Yg x) (λt k=>R t k\/∃x∈fs,t=Yg x/\k∈x.2.2) (λt=>L t+X7 t fs) (B+fs.length) ks' pl'/\
  Z0 (Wf 3 (Zr (Zd 5) (Zr (Zd 6) (Zr (Zd 7) Wh)))) Gen.Om (fs.map Y5) (Xq A ns ms ks pl h x5 x6 x7 x8)=aA (.nx (Xq A ns ms ks' pl' h y5 y6 y7 x8))
 | [],S,R,L,B,ks,pl,x5,x6,x7,te,_,_,_,_=>⟨ks,pl,x5,x6,x7,te.imp (λt=>by simp) (λt k=>by simp) (λt=>by simp[X7]) (a6 _),by simp⟩
 |x::fs,S,R,L,B,ks,pl,x5,x6,x7,te,hRS,hz,hL,hx=>by
  rw[bf]at hz;V te1:=te.add hRS (Yg x) x.2.2;O⟨ks',pl',y5,y6,y7,te',ih⟩:=Nh A h x8 ns ms fs _ _ _ (B+1) (Kq ks pl (Yg x) x.2.2).1 (Kq ks pl (Yg x) x.2.2).2 (aA (.fz (.str x.1))) (aA (.fz (.str x.2.1))) (aA (.fz (.lst (Ou x.2.2)))) te1 (λt k z=>z.elim (λz=>.inl (hRS t k z)) λz=>.inr z.1) И (λt=>by
   V :=hL t;rw[M7]at this;by_cases e:t=Yg x
   ·rw[Е e];rw[Е e.symm]at this;W
   ·rw[Д e];W) λy hy=>hx y (ar _ hy)
  R⟨ks',pl',y5,y6,y7,te'.imp (λt=>?_) (λt k=>?_) (λt=>?_) (by rw[bf];W),?_⟩
  ·simp only[bu,exists_eq_or_imp,or_assoc]
  ·simp only[bu,exists_eq_or_imp,or_assoc]
  ·rw[M7];by_cases e:t=Yg x
   ·rw[Е e,Е e.symm];W
   ·rw[Д e,Д λz=>e z.symm];W
  ·V a:Gen.Om (Xq A ns ms ks pl h (aA (.fz (.str x.1))) (aA (.fz (.str x.2.1))) (aA (.fz (.lst (Ou x.2.2)))) x8)=aA (.nx (Xq A ns ms (Kq ks pl (Yg x) x.2.2).1 (Kq ks pl (Yg x) x.2.2).2 h (aA (.fz (.str x.1))) (aA (.fz (.str x.2.1))) (aA (.fz (.lst (Ou x.2.2)))) x8)):=by V :=Zb9 (δ:=Xq A ns ms ks pl h (aA (.fz (.str x.1))) (aA (.fz (.str x.2.1))) (aA (.fz (.lst (Ou x.2.2)))) x8) (i:=3) (j:=7) (fk:=tupF (Zg (Za 5) (Zg (Za 6) Zn))) (p:=(.tmp (.fz (.tup [.str x.1,.str x.2.1])),Xq A ns ms ks pl h (aA (.fz (.str x.1))) (aA (.fz (.str x.2.1))) (aA (.fz (.lst (Ou x.2.2)))) x8)) (q:=(.tup [.str x.1,.str x.2.1],Xq A ns ms ks pl h (aA (.fz (.str x.1))) (aA (.fz (.str x.2.1))) (aA (.fz (.lst (Ou x.2.2)))) x8)) (d:=.lst (Ou x.2.2)) (ys:=Ou x.2.2) (ext:=aC) (k:=Yg x) rfl (by simp[jz2]) rfl (Ca (Yg x)) rfl rfl (.inr ⟨rfl,rfl⟩) (te.ok И (λt=>by V :=hL t;W) _ (by simp[Ou];E hx x ag));rw[Zd0]at this;E this
   rw[a7];unfold Z0;rw[show(Wf 3 (Zr (Zd 5) (Zr (Zd 6) (Zr (Zd 7) Wh)))).run (Y5 x) (Xq A ns ms ks pl h x5 x6 x7 x8)=aA (Xq A ns ms ks pl h (aA (.fz (.str x.1))) (aA (.fz (.str x.2.1))) (aA (.fz (.lst (Ou x.2.2)))) x8)from by simp];dsimp only[ck];rw[a];E ih
аSG(gs:А HP)(t:NK):Prop:=∃h∈gs,∃x∈h.fs,t=Yg x
аRG(gs:А HP)(t k:NK):Prop:=∃h∈gs,∃x∈h.fs,t=Yg x/\k∈x.2.2
МKr(gs:А HP):Nat:=(gs.map λh=>h.fs.length).sum
ЛNi(h:HP)(gs:А HP):Kr (h::gs)=h.fs.length+Kr gs:=by unfold Kr;simp
structure Few(h:HP):В where
 ns:h.ns.length<=1000
 ms:h.ms.length<=1000
 tl:∀x∈h.fs,x.2.2.length<=10000
ЛZd1(A x8:Б SV)(hp:HP)(fw:Few hp)(ns ms:А NK)(hz:ns.length+1000<=100000)(hz2:ms.length+1000<=100000)(S:NK->В)(R:NK->NK->В)(L:NK->Г)(B:Г)(ks:А NK)(pl:X6)(te:Tell S R L B ks pl)(hRS:∀t k,R t k->S t)(hB:B+hp.fs.length<=10000)(hL:∀t,L t+X7 t hp.fs<=10000)(x5 x6 x7:Б SV):∃ks' pl' y5 y6 y7,Tell (λt=>S t\/∃x∈hp.fs,t=Yg x) (λt k=>R t k\/∃x∈hp.fs,t=Yg x/\k∈x.2.2) (λt=>L t+X7 t hp.fs) (B+hp.fs.length) ks' pl'/\
  Gen.W4 (Xq A ns ms ks pl (aA (.fz (Ye hp))) x5 x6 x7 x8)=aA (.nx (Xq A (ns++hp.ns) (ms++hp.ms) ks' pl' (aA (.fz (Ye hp))) y5 y6 y7 x8)):=by
 O⟨ks',pl',y5,y6,y7,te',l⟩:=Nh A (aA (.fz (Ye hp))) x8 (ns++hp.ns) (ms++hp.ms) hp.fs S R L B ks pl x5 x6 x7 te hRS hB hL fw.tl;R⟨ks',pl',y5,y6,y7,te',?_⟩;V z1:(Ou ns).length+(hp.ns.map Zk).length<=PySem.sizeLine:=Qq (by V :=fw.ns;simp[Ou];W);V z2:(Ou ms).length+(hp.ms.map Zk).length<=PySem.sizeLine:=Qq (by V :=fw.ms;simp[Ou];W);V at2:∀a b c:D,L2.atI [a,b,c] 2=aA c:=λ_ _ _=>rfl;V at1:∀a b c:D,L2.atI [a,b,c] 1=aA b:=λ_ _ _=>rfl;V at0:∀a b c:D,L2.atI [a,b,c] 0=aA a:=λ_ _ _=>rfl;V e1:Ou (ns++hp.ns)=Ou ns++hp.ns.map Zk:=b7;V e2:Ou (ms++hp.ms)=Ou ms++hp.ms.map Zk:=b7;unfold Gen.W4;unfold Xq at l⊢;rw[e1,e2]at l⊢;clear e1 e2;rw[show Ye hp= .tup [.lst (hp.ns.map Zk),.lst (hp.ms.map Zk),.lst (hp.fs.map Y5)]from rfl]at l⊢;G pl.map Ou=P1;G pl'.map Ou=P2;G Ou ns=N1;G Ou ms=N2;G hp.ns.map Zk=NS;G hp.ms.map Zk=MS;G hp.fs.map Y5=TS;simp[at0,at1,at2,z1,z2,l,-Z0]
ЛNj(A x8:Б SV):∀(gs:А HP) (ns ms:А NK) (S:NK->В) (R:NK->NK->В) (L:NK->Г) (B:Г) (ks:А NK) (pl:X6) (x4 x5 x6 x7:Б SV),Tell S R L B ks pl->(∀t k,R t k->S t)->(∀h∈gs,Few h)->ns.length+1000*gs.length<=90000->ms.length+1000*gs.length<=90000->B+Kr gs<=10000->(∀t,L t+tlG t gs<=10000)->∃ks' pl' y4 y5 y6 y7,Tell (λt=>S t\/SG gs t) (λt k=>R t k\/RG gs t k) (λt=>L t+tlG t gs) (B+Kr gs) ks' pl'/\
  Z0 (Zd 4) Gen.W4 (gs.map Ye) (Xq A ns ms ks pl x4 x5 x6 x7 x8)=aA (.nx (Xq A (ns++gs.flatMap HP.ns) (ms++gs.flatMap HP.ms) ks' pl' y4 y5 y6 y7 x8))
 | [],ns,ms,S,R,L,B,ks,pl,x4,x5,x6,x7,te,_,_,_,_,_,_=>⟨ks,pl,x4,x5,x6,x7,te.imp (λt=>by simp) (λt k=>by simp) (λt=>by simp[tlG]) (by simp[Kr]),by simp⟩
 |h::gs,ns,ms,S,R,L,B,ks,pl,x4,x5,x6,x7,te,hRS,fw,hz,hz2,hB,hL=>by
  rw[bf]at hz hz2;rw[Ni]at hB;V fh:=fw h ag;O⟨ks1,pl1,z5,z6,z7,te1,t1⟩:=Zd1 A x8 h fh ns ms И И S R L B ks pl te hRS И (λt=>by V :=hL t;rw[Ff]at this;W) x5 x6 x7;O⟨ks',pl',y4,y5,y6,y7,te',ih⟩:=Nj A x8 gs (ns++h.ns) (ms++h.ms) _ _ _ _ ks1 pl1 (aA (.fz (Ye h))) z5 z6 z7 te1 (λt k z=>z.elim (λz=>.inl (hRS t k z)) λ⟨x,hx,e,_⟩=>.inr ⟨x,hx,e⟩) (λg hg=>fw g (ar _ hg)) (by V :=fh.ns;rw[az];W) (by V :=fh.ms;rw[az];W) И (λt=>by V :=hL t;rw[Ff]at this;W);R⟨ks',pl',y4,y5,y6,y7,te'.imp (λt=>?_) (λt k=>?_) (λt=>by rw[Ff];W) (by rw[Ni];W),?_⟩
  ·simp only[SG,bu,exists_eq_or_imp,or_assoc]
  ·simp only[RG,bu,exists_eq_or_imp,or_assoc]
  ·rw[a7,List.flatMap_cons,List.flatMap_cons,<-de,<-de];unfold Z0;rw[show(Zd 4).run (Ye h) (Xq A ns ms ks pl x4 x5 x6 x7 x8)=aA (Xq A ns ms ks pl (aA (.fz (Ye h))) x5 x6 x7 x8)from by simp];dsimp only[ck];rw[t1];E ih
end My
namespace My
open DL PySem TT TX
МQi(ks:А NK)(pl:X6)(k:NK):А NK:=match Wg ks k with
 |some q=>pl.getD q []
 |none=>[]
ЛZd2{ks:А NK}{k:NK}(h:k∈ks):∃q,Wg ks k=aA q:=by
 cases e:Wg ks k with
 |some q=>E⟨q,rfl⟩
 |none=>E absurd h (O8 e)
ЛEb{S:NK->В}{R:NK->NK->В}{L:NK->Г}{B:Г}{ks:А NK}{pl:X6}(te:Tell S R L B ks pl){k:NK}(hk:k∈ks):(∀x,x∈Qi ks pl k↔R k x)/\(Qi ks pl k).length<=L k/\look ks ((pl.map Ou).map D.lst) k=aA (.lst (Ou (Qi ks pl k))):=by
 O⟨q,e⟩:=Zd2 hk;V hq:=O7 e;V hql:q<ks.length:=by rcases d4 q ks.length with z|z;E z;rw[d5 z]at hq;C hq
 V hqp:q<pl.length:=by rw[<-te.len];E hql
 V et:Qi ks pl k=pl[q]:=by unfold Qi;rw[e];T pl.getD q []=_;rw[bi,ax hqp];rfl
 V hp:=ax hqp;O⟨g1,g2⟩:=te.has q k pl[q] hq hp;rw[et];E⟨g1,g2,Sr te.nd hq (by rw[a9,a9,hp];rfl)⟩
МGv(ks:А NK)(pl:X6):NK->Ad
 | .inl [a,b]=>(a,b,rise (Qi ks pl (.inl [a,b])))
 |_=>("","",[])
МNk(ks:А NK)(pl:X6)(d:D):D:=match nk? d with
 |some k=>Y5 (Gv ks pl k)
 |none=>.non
ЛZd3{S:NK->В}{R:NK->NK->В}{L:NK->Г}{B:Г}{ks:А NK}{pl:X6}(te:Tell S R L B ks pl)(hB:B<=10000)(hp:∀t,S t->∃a b,t= .inl [a,b])(hL:∀t,L t<64)(hR:∀t k,R t k->isN k):
  Yb [.own,.cap 3,.acc] 2 (Zd 0) W1 Gen.Jb (ks.map Zk) [aB,aA (.fz (.dX ks ((pl.map Ou).map D.lst))),aA (.ol [])]=
  aA [aB,aA (.fz (.dX ks ((pl.map Ou).map D.lst))),aA (.ol ((ks.map (Gv ks pl)).map Y5))]:=by
 V c:=Of (te:=Gen.Jb) (f:=Nk ks pl) (c:=aA (.fz (.dX ks ((pl.map Ou).map D.lst)))) (j:=3) (ks.map Zk) [] (λx hx zs=>by
  O⟨k,hk,rfl⟩:=aw.mp hx;O⟨a,b,rfl⟩:=hp k ((te.key k).mp hk);O⟨g1,g2,lk⟩:=Eb te hk;V ok:OkK (Qi ks pl (.inl [a,b])):=.inl λx hx=>hR _ _ ((g1 x).mp hx);V sd:Bo [.lst ((Qi ks pl (.inl [a,b])).map Zk)]=aA (.ol (Ou (rise (Qi ks pl (.inl [a,b]))))):=Fe ok (gv g2 (hL _));V at1:∀a b:D,L2.atI [a,b] 1=aA b:=λ_ _=>rfl;V at0:∀a b:D,L2.atI [a,b] 0=aA a:=λ_ _=>rfl;V ek:Zk (.inl [a,b])= .tup [.str a,.str b]:=rfl;V nk:=Ca (.inl [a,b]);V ef:Nk ks pl (Zk (.inl [a,b]))= .tup [.str a,.str b,.lst (Ou (rise (Qi ks pl (.inl [a,b]))))]:=by unfold Nk;rw[nk];rfl
  rw[ef];rw[ek]at nk⊢;unfold Gen.Jb;G (pl.map Ou).map D.lst=XS;G Ou (rise (Qi ks pl (.inl [a,b])))=RS;V lk2:look ks XS (gq [a,b])=aA (.lst ((Qi ks pl (.inl [a,b])).map Zk)):=lk;G (Qi ks pl (.inl [a,b])).map Zk=TD;generalize (gq [a,b]:NK)=P at*;simp[at0,at1,nk,lk2,sd,jz3,-look]) (by V :=te.few;simp;W)
 V e:(ks.map Zk).map (Nk ks pl)=(ks.map (Gv ks pl)).map Y5:=by rw[bo,bo];R f8 λk _=>?_;T Nk ks pl (Zk k)=Y5 (Gv ks pl k);unfold Nk;rw[Ca]
 rw[c,dq,e]
structure Grp(gs:А HP):В where
 few:∀h∈gs,Few h
 nn:∀h∈gs,∀k∈h.ns,isN k
 mm:∀h∈gs,∀k∈h.ms,Sc k
 tt:∀h∈gs,∀x∈h.fs,∀k∈x.2.2,isN k
 n64:(gs.flatMap HP.ns).length<64
 m64:(gs.flatMap HP.ms).length<64
 t64:∀t,tlG t gs<64
 len:gs.length<64
 cnt:Kr gs<=10000
 p64:∃ps:А NK,ps.length<64/\∀t,SG gs t->t∈ps
Лjoin_heaps(gs:А HP)(g:Grp gs):∃h,IsMerge (· ∈gs) h/\Gen.Jc [.lst (gs.map Ye)]=aA (.fz (Ye h)):=by
 V te0:Tell (λ_=>False) (λ_ _=>False) (λ_=>0) 0 [] []:=⟨cx,rfl,λt=>by simp,λq t l h _=>by simp at h,a6 _⟩
 O⟨ks,pl,y4,y5,y6,y7,te1,l⟩:=Nj (aA (.fz (.lst (gs.map Ye)))) aB gs [] [] _ _ _ 0 [] [] aB aB aB aB te0 (λ_ _ z=>z) g.few (by V :=g.len;simp;W) (by V :=g.len;simp;W) (by V :=g.cnt;W) (λt=>by V :=g.t64 t;W);V te:Tell (SG gs) (RG gs) (λt=>tlG t gs) (Kr gs) ks pl:=te1.imp (λt=>by simp) (λt k=>by simp) (λt=>by simp) И;V hpair:∀t,SG gs t->∃a b,t= .inl [a,b]:=λt ⟨h,_,x,_,e⟩=>⟨x.1,x.2.1,e⟩
 V hRN:∀t k,RG gs t k->isN k:=λt k ⟨h,hh,x,hx,_,hk⟩=>g.tt h hh x hx k hk;V c:=Zd3 te g.cnt hpair g.t64 hRN;V okN:OkK (gs.flatMap HP.ns):=.inl λk hk=>by O⟨h,hh,hk⟩:=List.mem_flatMap.mp hk;E g.nn h hh k hk
 V okM:OkK (gs.flatMap HP.ms):=.inr λk hk=>by O⟨h,hh,hk⟩:=List.mem_flatMap.mp hk;E g.mm h hh k hk
 V r1:=Fe okN g.n64;V r2:=Fe okM g.m64;V k64:ks.length<64:=by O⟨ps,h1,h2⟩:=g.p64;E gv (b6 te.nd λt ht=>h2 t ((te.key t).mp ht)) h1
 V tri:∀k∈ks,∃a b,k= .inl [a,b]/\Gv ks pl k=(a,b,rise (Qi ks pl k)):=λk hk=>by O⟨a,b,rfl⟩:=hpair k ((te.key k).mp hk);E⟨a,b,rfl,rfl⟩
 V okT:∀k∈ks,OkK (Qi ks pl k):=λk hk=>.inl λx hx=>hRN k x (((Eb te hk).1 x).mp hx);V nde:((ks.map (Gv ks pl)).map Qv).Nodup:=by rw[bo];R cu.mpr ((g8.mp te.nd).imp fun{x y} ⟨hx,hy,h⟩ e=>h ?_);O⟨a,b,e1,e2⟩:=tri x hx;O⟨a',b',e1',e2'⟩:=tri y hy;V e:Qv (Gv ks pl x)=Qv (Gv ks pl y):=e;rw[e2,e2']at e;O⟨z1,z2⟩:=Zh6 e;V z1:a=a':=z1;V z2:b=b':=z2;rw[e1,e1',z1,z2]
 V r3:Oe [.lst ((ks.map (Gv ks pl)).map Y5)]=aA (.ol ((Gu (ks.map (Gv ks pl))).map Y5)):=Zlp (λt ht k hk=>by
   O⟨x,hx,rfl⟩:=aw.mp ht;O⟨a,b,e1,e2⟩:=tri x hx;rw[e2]at hk;E hRN x k (((Eb te hx).1 k).mp (((U1 (okT x hx)).2 k).mp hk))) nde (by rw[aj];E k64) (Ui _) (Ng _)
 R⟨⟨rise (gs.flatMap HP.ns),rise (gs.flatMap HP.ms),Gu (ks.map (Gv ks pl))⟩,⟨(U1 okN).1,λk=>?_,(U1 okM).1,λk=>?_,?_,λf v=>?_,λt ht=>?_⟩,?_⟩
 ·rw[(U1 okN).2,List.mem_flatMap]
 ·rw[(U1 okM).2,List.mem_flatMap]
 ·V nd2:((Gu (ks.map (Gv ks pl))).map Qv).Nodup:=(((Ui _).map Qv).nodup_iff).mpr nde;R((Ng _).and (cu.mp nd2)).imp fun{a b} ⟨h1,h2⟩=>?_;by_cases z:Qv a<Qv b
  ·E z
  ·E absurd (List.le_antisymm (dm.mp h1) (dm.mp z)) h2
 ·constructor
  ·rintro⟨l,hl⟩;O⟨k,hk,e⟩:=aw.mp ((Ui _).mem_iff.mp hl);O⟨a,b,e1,e2⟩:=tri k hk;rw[e2]at e;O⟨h,hh,x,hx,ex⟩:=(te.key k).mp hk;rw[e1]at ex;V ex:=List.cons.inj (gq.inj ex);V ex2:=(List.cons.inj ex.2).1;V ea:=(Prod.mk.inj e).1;V eb:=(Prod.mk.inj (Prod.mk.inj e).2).1;R⟨h,hh,x.2.2,?_⟩;rw[<-ea,<-eb,ex.1,ex2];E hx
  ·rintro⟨h,hh,l,hl⟩;V hk:Yg (f,v,l)∈ks:=(te.key _).mpr ⟨h,hh,_,hl,rfl⟩;E⟨_,(Ui _).mem_iff.mpr (dh (f:=Gv ks pl) hk)⟩
 ·O⟨k,hk,rfl⟩:=aw.mp ((Ui _).mem_iff.mp ht);O⟨a,b,e1,e2⟩:=tri k hk;rw[e2];R⟨(U1 (okT k hk)).1,λx=>?_⟩;T x∈rise (Qi ks pl k)↔_;rw[(U1 (okT k hk)).2,(Eb te hk).1 x,e1];constructor
  ·rintro⟨h,hh,y,hy,ey,hx⟩;V ey:=List.cons.inj (gq.inj ey);V ey2:=(List.cons.inj ey.2).1;E⟨h,hh,y.2.2,by show(a,b,y.2.2)∈h.fs;rw[ey.1,ey2];E hy,hx⟩
  ·rintro⟨h,hh,l,hl,hx⟩;E⟨h,hh,_,hl,rfl,hx⟩
 ·rw[dq,dq]at l;V l:Z0 (Zd 4) Gen.W4 (gs.map Ye) [aA (.fz (.lst (gs.map Ye))),aA (.ol []),aA (.ol []),aA (.oX [] []),aB,aB,aB,aB,aB]=_:=l;unfold Gen.Jc Gen.Cl;unfold Xq at l;unfold Ou at l;unfold Ou at c;rw[show Ye ⟨rise (gs.flatMap HP.ns),rise (gs.flatMap HP.ms),Gu (ks.map (Gv ks pl))⟩=D.tup [.lst ((rise (gs.flatMap HP.ns)).map Zk),.lst ((rise (gs.flatMap HP.ms)).map Zk),.lst ((Gu (ks.map (Gv ks pl))).map Y5)]from rfl];G (Gu (ks.map (Gv ks pl))).map Y5=O3;G (ks.map (Gv ks pl)).map Y5=O4;G (rise (gs.flatMap HP.ns)).map Zk=O1;G (rise (gs.flatMap HP.ms)).map Zk=O2;G (gs.flatMap HP.ns).map Zk=I1;G (gs.flatMap HP.ms).map Zk=I2;G gs.map Ye=GS;G (pl.map λl=>l.map Zk)=PL;simp[l,c,r1,r2,r3,jz3,L5,-Z0,-Yb]
end My
namespace My
open DL PySem TT TX
ЛIsMerge.congr{G G':HP->В}{h:HP}(m:IsMerge G h)(e:∀a,G a↔G' a):IsMerge G' h:=by V :G=G':=funext λa=>propext (e a);rw[<-this];E m
аSz(hs:А HP)(b:Г):HP:=(hs[b]?).getD ⟨[],[],[]⟩
ЛR6{hs:А HP}{b:Г}(hb:b<hs.length):hs[b]? =aA (Sz hs b):=by unfold Sz;rw[ax hb];rfl
аFg(hs:А HP)(p:Г)(g:HP):Prop:=∃b,RI hs p b/\hs[b]? =aA g
ЛZie{hs:А HP}{a b:Г}(h:shI hs a b):shI hs b a:=let⟨t,h1,h2⟩:=h;⟨t,h2,h1⟩
ЛRI.trans{hs:А HP}{a b c:Г}(h:RI hs a b)(k:RI hs b c):RI hs a c:=by
 induction k with
 |here=>E h
 |step _ s ih=>E .step ih s
ЛRI.symm{hs:А HP}{a b:Г}(h:RI hs a b):RI hs b a:=by
 induction h with
 |here=>E .here
 |step _ s ih=>E(RI.step .here (Zie s)).trans ih
ЛXr{hs:А HP}{p:Г}{a:HP}(hp:hs[p]? =aA a)(g:HP):Fg hs p g↔Conn (· ∈hs) a g:=by
 constructor
 ·rintro⟨b,r,e⟩;V :∀{x y},RI hs x y->x=p->∀g,hs[y]? =aA g->Conn (· ∈hs) a g:=fun{x y} r=>by
   induction r with
   |here=>intro hx g e;rw[hx,hp]at e;C e;E .here (b9 hp)
   |step r s ih=>intro hx g e;O⟨t,⟨u,eu,tu⟩,⟨v,ev,tv⟩⟩:=s;rw[e]at ev;C ev;E .step (ih hx u eu) (b9 e) ⟨t,tu,tv⟩
  E this r rfl g e
 ·intro c;V :∀{x y},Conn (· ∈hs) x y->hs[p]? =aA x->Fg hs p y:=fun{x y} c=>by
   induction c with
   |here _=>E λz=>⟨p,.here,z⟩
   |step c' hc sh ih=>intro z;O⟨b,r,e⟩:=ih z;O⟨q,hq⟩:=List.getElem?_of_mem hc;O⟨t,t1,t2⟩:=sh;E⟨q,.step r ⟨t,⟨_,e,t1⟩,⟨_,hq,t2⟩⟩,hq⟩
  E this c hp
ЛZaa(w:Г->Г):∀(n:Г) (f:А Г),f.Nodup->(∀x∈f,x<n)->(f.map w).sum<=((c8 n).map w).sum
 |0,f,_,h=>by
  cases f with
  |nil=>simp
  |cons x f=>E absurd (h x ag) (d6 _)
 |n+1,f,nd,h=>by
  rw[List.range_succ,b7,List.sum_append];by_cases hn:n∈f
  ·V pm:=List.perm_cons_erase hn;V nd2:=pm.nodup_iff.mp nd;O⟨n1,n2⟩:=d7.mp nd2;V ih:=Zaa w n (f.erase n) n2 λx hx=>by V h1:=h x (List.mem_of_mem_erase hx);V h2:x≠n:=λz=>n1 (z▸hx);W
   rw[(pm.map w).sum_nat,a7,List.sum_cons];simp only[a7,List.map_nil,List.sum_cons,List.sum_nil];W
  ·V ih:=Zaa w n f nd λx hx=>by V h1:=h x hx;V h2:x≠n:=λz=>hn (by rw[<-z];E hx);W
   W
ЛZif(w:HP->Г)(hs:А HP):(c8 hs.length).map (λb=>w (Sz hs b))=hs.map w:=by R List.ext_getElem К λi h1 h2=>?_;simp at h1;V :=R6 h1;rw[ax h1]at this;rw[List.getElem_map,List.getElem_map,List.getElem_range,<-dk.inj this]
structure Tot(hs:А HP):В where
 all:Grp hs
 ne:∀h∈hs,h.ns≠[]
ЛTot.grp{hs:А HP}(T:Tot hs){f:А Г}(nd:f.Nodup)(lt:∀x∈f,x<hs.length):Grp (f.map (Sz hs)):=by
 V mem:∀h∈f.map (Sz hs),h∈hs:=λh hh=>by O⟨b,hb,rfl⟩:=aw.mp hh;E b9 (R6 (lt b hb))
 V le:∀w:HP->Г,((f.map (Sz hs)).map w).sum<=(hs.map w).sum:=λw=>by rw[bo,<-Zif w hs];E Zaa (w∘Sz hs) hs.length f nd lt
 V A:=T.all;R⟨λh hh=>A.few h (mem h hh),λh hh=>A.nn h (mem h hh),λh hh=>A.mm h (mem h hh),λh hh=>A.tt h (mem h hh),?_,?_,λt=>gv (le _) (A.t64 t),?_,du (le _) A.cnt,?_⟩
 ·V :=A.n64;rw[List.length_flatMap]at this⊢;E gv (le _) this
 ·V :=A.m64;rw[List.length_flatMap]at this⊢;E gv (le _) this
 ·rw[aj];V :=Ss nd lt;V :=A.len;W
 ·O⟨ps,h1,h2⟩:=A.p64;E⟨ps,h1,λt ⟨h,hh,z⟩=>h2 t ⟨h,mem h hh,z⟩⟩
end My
namespace My
open DL PySem TT TX
аgSt(HS:А D)(HD:D)(P:А D)(sk:А Г)(x4 x5 x6:Б SV):Yq:=[aA (.fz (.lst HS)),aA (.fz HD),aA (.ol P),aA (.oK (Jg sk) (Jh sk)),x4,x5,x6]
ЛNl(HS:А D)(HD:D)(P:А D)(x4 x5:Б SV):∀(f sk:А Г) (x6:Б SV),(sk++f).Nodup->sk.length+f.length<=10000->∃y6,
  Z0 (Zd 6) Gen.On (W9 f) (gSt HS HD P sk x4 x5 x6)=aA (.nx (gSt HS HD P (sk++f) x4 x5 y6))
 | [],sk,x6,_,_=>⟨x6,by simp[W9]⟩
 |o::f,sk,x6,nd,hz=>by
  rw[bf]at hz;V e0:(sk++[o])++f=sk++o::f:=by simp
  O⟨y6,ih⟩:=Nl HS HD P x4 x5 f (sk++[o]) (aA (.fz (.int (o:Int)))) (by rw[e0];E nd) (by rw[az];simp;W);R⟨y6,?_⟩;V ho:o∉sk:=λz=>(c9.mp nd).2.2 o z o ag rfl;V p:Y4 (Jg sk) (Jh sk) (gq (o:Int)) (.bl aC)=(Jg (sk++[o]),Jh (sk++[o])):=by unfold Y4;rw[Д λz=>ho (Bq.mp z)];simp[Jg,Jh]
  V z1:(Jh sk).length<PySem.sizeLine:=Z4 (by simp;W);V t:Gen.On (gSt HS HD P sk x4 x5 (aA (.fz (.int (o:Int)))))=aA (.nx (gSt HS HD P (sk++[o]) x4 x5 (aA (.fz (.int (o:Int)))))):=by unfold Gen.On gSt;G Jg (sk++[o])=K1;G Jh (sk++[o])=K2;G Jg sk=K3;G Jh sk=K4;simp[p,z1,-Y4]
  T Z0 (Zd 6) Gen.On (.int (o:Int)::W9 f) _=_;unfold Z0;rw[show(Zd 6).run (.int (o:Int)) (gSt HS HD P sk x4 x5 x6)=aA (gSt HS HD P sk x4 x5 (aA (.fz (.int (o:Int)))))from by simp];dsimp only[ck];rw[t];dsimp only[ck];rw[ih,e0]
ЛZig(hs:А HP)(f:А Г)(lt:∀x∈f,x<hs.length)(hf:f.length<=10000):
  Yb [.own,.cap 0,.acc] 2 (Zd 0) W1 Gen.Cm (W9 f) [aB,aA (.fz (.lst (hs.map Ye))),aA (.ol [])]=aA [aB,aA (.fz (.lst (hs.map Ye))),aA (.ol ((f.map (Sz hs)).map Ye))]:=by
 let F:D->D:=λd=>match d with| .int i=>Ye (Sz hs i.toNat)|_=>.non
 V c:=Of (te:=Gen.Cm) (f:=F) (c:=aA (.fz (.lst (hs.map Ye)))) (j:=0) (W9 f) [] (λx hx zs=>by
  O⟨b,hb,rfl⟩:=aw.mp hx;V ai:=Znj (R6 (lt b hb));V ef:F (.int (b:Int))=Ye (Sz hs b):=by T Ye (Sz hs ((b:Int)).toNat)=_;rw[gp]
  rw[ef];unfold Gen.Cm;G Ye (Sz hs b)=Q;G hs.map Ye=HS;simp[ai]) (by simp[W9];W)
 V e:(W9 f).map F=(f.map (Sz hs)).map Ye:=by rw[bo,bo];R f8 λb _=>?_;T Ye (Sz hs ((b:Int)).toNat)=Ye (Sz hs b);rw[gp]
 rw[c,dq,e]
structure JI(hs:А HP)(i:Г)(sk:А Г)(ps:А HP):В where
 nd:sk.Nodup
 lt:∀x∈sk,x<hs.length
 cl:∀a∈sk,∀b,shI hs a b->b∈sk
 upto:∀p,p<i->p∈sk
 each:∀h∈ps,∃a∈sk,IsMerge (Fg hs a) h
 all:∀a∈sk,∃h∈ps,IsMerge (Fg hs a) h
 apart:ps.Pairwise λh h'=>∀k,k∈h.ns->k∉h'.ns
 len:ps.length<=i
ЛJI.ri{hs:А HP}{i:Г}{sk:А Г}{ps:А HP}(j:JI hs i sk ps){a b:Г}(ha:a∈sk)(r:RI hs a b):b∈sk:=by
 induction r with
 |here=>E ha
 |step _ s ih=>E j.cl _ ih _ s
ЛXs(hs:А HP)(T:Tot hs)(ks:А NK)(pl:X5)(B:Г)(ho:Hold (R5 hs) B ks pl)(i:Г)(hi:i<hs.length)(sk:А Г)(ps:А HP)(j:JI hs i sk ps)(x5 x6:Б SV):∃sk' ps' y5 y6,JI hs (i+1) sk' ps'/\
  Gen.Jn (gSt (hs.map Ye) (Wb ks pl) (ps.map Ye) sk (aA (.fz (.int (i:Int)))) x5 x6)=aA (.nx (gSt (hs.map Ye) (Wb ks pl) (ps'.map Ye) sk' (aA (.fz (.int (i:Int)))) y5 y6)):=by
 V h64:=T.all.len;V hB:∀h∈hs,(Ot h).length<=10000:=λh hh=>by V f:=T.all.few h hh;V :=f.ns;V :=f.ms;rw[az];W
 by_cases hs0:i∈sk
 ·R⟨sk,ps,x5,x6,⟨j.nd,j.lt,j.cl,λp hp=>?_,j.each,j.all,j.apart,by V :=j.len;W⟩,?_⟩
  ·by_cases e:p=i
   ·rw[e];E hs0
   ·E j.upto p И
  ·O⟨v,lk⟩:=Tw (ks:=Jg sk) (vs:=Jh sk) (k:=.inl (i:Int)) К (Bq.mpr hs0);unfold Gen.Jn gSt;G Jg sk=K1;G Jh sk=K2;simp[lk,-look]
 ·O⟨f,ti,fi,fr,fc,tg⟩:=tied hs ks pl B ho i hs.length И rfl hB hi И;V out:∀x∈f,x∉sk:=λx hx z=>hs0 (j.ri z (fr x hx).symm);V nd2:(sk++f).Nodup:=c9.mpr ⟨j.nd,ti.nd,λa ha b hb e=>out b hb (by rw[<-e];E ha)⟩;V fl:=ti.len.1;V skl:=Ss j.nd j.lt;O⟨h,m,jh⟩:=join_heaps (f.map (Sz hs)) (T.grp ti.nd ti.lt);V mem:∀g,g∈f.map (Sz hs)↔Fg hs i g:=λg=>by
   constructor
   ·intro z;O⟨b,hb,rfl⟩:=aw.mp z;E⟨b,fr b hb,R6 (ti.lt b hb)⟩
   ·rintro⟨b,r,e⟩;V hb:b∈f:=by
     V :∀{x y},RI hs x y->x∈f->y∈f:=fun{x y} r=>by
      induction r with
      |here=>E id
      |step _ s ih=>E λz=>fc _ (ih z) _ s
     E this r fi
    V :=R6 (ti.lt b hb);rw[e]at this;rw[dk.inj this];E dh hb
  V m:IsMerge (Fg hs i) h:=m.congr mem;O⟨y6,sl⟩:=Nl (hs.map Ye) (Wb ks pl) (ps.map Ye) (aA (.fz (.int (i:Int)))) (aA (.fz (.lst (W9 f)))) f sk x6 nd2 И;R⟨sk++f,ps++[h],aA (.fz (.lst (W9 f))),y6,⟨nd2,λx hx=>?_,λa ha b hab=>?_,λp hp=>?_,λh' hh=>?_,λa ha=>?_,?_,by V :=j.len;simp;W⟩,?_⟩
  ·rcases bj.mp hx with z|z
   ·E j.lt x z
   ·E ti.lt x z
  ·rcases bj.mp ha with z|z
   ·E cf _ (j.cl a z b hab)
   ·E bx _ (fc a z b hab)
  ·by_cases e:p=i
   ·rw[e];E bx _ fi
   ·E cf _ (j.upto p И)
  ·rcases bj.mp hh with z|z
   ·O⟨a,ha,m'⟩:=j.each h' z;E⟨a,cf _ ha,m'⟩
   ·rw[au.mp z];E⟨i,bx _ fi,m⟩
  ·rcases bj.mp ha with z|z
   ·O⟨h',hh,m'⟩:=j.all a z;E⟨h',cf _ hh,m'⟩
   ·R⟨h,by simp,m.congr λg=>?_⟩;constructor
    ·rintro⟨b,r,e⟩;E⟨b,(fr a z).symm.trans r,e⟩
    ·rintro⟨b,r,e⟩;E⟨b,(fr a z).trans r,e⟩
  ·R List.pairwise_append.mpr ⟨j.apart,by simp,λh1 hh1 h2 hh2 k k1 k2=>?_⟩;rw[au.mp hh2]at k2;O⟨a,ha,m1⟩:=j.each h1 hh1;O⟨u,⟨c,rc,ec⟩,kc⟩:=(m1.ns_m k).mp k1;O⟨v,⟨d,rd,ed⟩,kd⟩:=(m.ns_m k).mp k2;V cs:=j.ri ha rc;V ds:=j.cl c cs d ⟨k,⟨u,ec,cf _ kc⟩,⟨v,ed,cf _ kd⟩⟩;E hs0 (j.ri ds rd.symm)
  ·V lk:look (Jg sk) (Jh sk) (.inl (i:Int))=aB:=Fc λz=>hs0 (Bq.mp z);V c:=Zig hs f ti.lt И;V zp:(ps.map Ye).length<PySem.sizeLine:=Z4 (by V :=j.len;rw[aj];W);V ep:(ps++[h]).map Ye=ps.map Ye++[Ye h]:=by simp
   rw[ep];rw[show Ye h= .tup [.lst (h.ns.map Zk),.lst (h.ms.map Zk),.lst (h.fs.map Y5)]from rfl]at jh⊢;unfold Gen.Jn;unfold gSt at sl⊢;G [D.lst (h.ns.map Zk),.lst (h.ms.map Zk),.lst (h.fs.map Y5)]=HH;G (f.map (Sz hs)).map Ye=GS;G hs.map Ye=HS;G Wb ks pl=HD;G ps.map Ye=PP;G Jg (sk++f)=K1;G Jh (sk++f)=K2;G Jg sk=K3;G Jh sk=K4;G W9 f=PF;simp[lk,tg,sl,c,jh,zp,-look,-Z0,-Yb]
end My
namespace My
open DL PySem TT TX
ЛZih{hs:А HP}(T:Tot hs){a:Г}(ha:a<hs.length){h:HP}(m:IsMerge (Fg hs a) h):HPok h:=by
 V A:=T.all;R⟨λz=>?_,λk hk=>?_,λk hk=>?_,λt ht k hk=>?_⟩
 ·V e:=R6 ha;V hm:=b9 e;O⟨k,l,ek⟩:=List.exists_cons_of_ne_nil (T.ne _ hm);V :=(m.ns_m k).mpr ⟨_,⟨a,.here,e⟩,by rw[ek];E ag⟩;rw[z]at this;C this
 ·O⟨g,⟨b,_,e⟩,hk⟩:=(m.ns_m k).mp hk;E A.nn g (b9 e) k hk
 ·O⟨g,⟨b,_,e⟩,hk⟩:=(m.ms_m k).mp hk;E A.mm g (b9 e) k hk
 ·O⟨g,⟨b,_,e⟩,l,hl,hk⟩:=((m.fs_l t ht).2 k).mp hk;E A.tt g (b9 e) _ hl k hk
ЛZac{h h':HP}(o:HPok h)(o':HPok h')(ap:∀k,k∈h.ns->k∉h'.ns):Q5 h≠Q5 h':=λe=>by
 O⟨x,l,ex⟩:=List.exists_cons_of_ne_nil o.ne;O⟨y,l',ey⟩:=List.exists_cons_of_ne_nil o'.ne;unfold Q5 at e;rw[ex,ey]at e;V e:Be x=Be y:=e;V hx:x∈h.ns:=by rw[ex];E ag
 V hy:y∈h'.ns:=by rw[ey];E ag
 O⟨u,v,e1⟩:=o.nm x hx;O⟨u',v',e2⟩:=o'.nm y hy;V one:OneK x y:=by rw[e1,e2];E .nm _ _
 V :=Iw one e;rw[<-this]at hy;E ap x hx hy
МNm(ts:А HP):А HP:=ts.mergeSort λa b=>!decide (Q5 b<Q5 a)
ЛJq(ts:А HP):(Nm ts).Perm ts:=List.mergeSort_perm _ _
ЛXt(ts:А HP):(Nm ts).Pairwise λa b=>¬Q5 b<Q5 a:=by
 V :=List.pairwise_mergeSort (le:=λa b:HP=>!decide (Q5 b<Q5 a)) (λa b c h1 h2=>by
   simp only[Bool.not_eq_true',decide_eq_false_iff_not]at*;E dm.mpr (List.le_trans (dm.mp h1) (dm.mp h2))) (λa b=>by
   simp only[Bool.or_eq_true,Bool.not_eq_true',decide_eq_false_iff_not];rcases List.le_total (Q5 a) (Q5 b)with z|z
   ·E .inl (dm.mpr z)
   ·E .inr (dm.mpr z)) ts
 E this.imp fun{a b} h=>by simpa using h
Лjoined(hs:А HP)(T:Tot hs):∃out,IsPool (· ∈hs) out/\(∀h∈out,HPok h)/\out.length<=hs.length/\Gen.Gj [.lst (hs.map Ye)]=aA (.ol (out.map Ye)):=by
 V h64:=T.all.len;V few:∀h∈hs,(Ot h).length<=126:=λh hh=>by V n:=T.all.n64;V m:=T.all.m64;O⟨a,b,rfl⟩:=List.append_of_mem hh;simp only[List.flatMap_append,List.flatMap_cons,az]at n m;rw[az];W
 V hz:Ko hs<=10000:=by
  V :∀l:А HP,(∀h∈l,(Ot h).length<=126)->Ko l<=126*l.length:=λl=>by
   induction l with
   |nil=>intro _;simp[Ko]
   |cons h l ih=>intro hl;V :=ih λg hg=>hl g (ar _ hg);V :=hl h ag;rw[Tv,bf];W
  V :=this hs few;W
 O⟨ks,pl,ho,hd⟩:=holders_of hs hz;O⟨δ',e,sk,ps,y4,y5,y6,j,hy⟩:=G1 (tg:=Zd 4) (body:=Gen.Jn) (P:=λi δ=>∃sk ps y4 y5 y6,JI hs i sk ps/\δ=gSt (hs.map Ye) (Wb ks pl) (ps.map Ye) sk y4 y5 y6) hs.length 0 (gSt (hs.map Ye) (Wb ks pl) [] [] aB aB aB) ⟨[],[],aB,aB,aB,⟨cx,(λ_ z=>nomatch z),(λ_ z=>nomatch z),(λp z=>absurd z (d6 _)),(λ_ z=>nomatch z),(λ_ z=>nomatch z),.nil,a6 _⟩,rfl⟩ (λi _ hi δ ⟨sk,ps,y4,y5,y6,j,hy⟩=>by
  subst hy;rw[Nat.zero_add]at hi;O⟨sk',ps',z5,z6,j',t⟩:=Xs hs T ks pl _ ho i hi sk ps j y5 y6;E⟨gSt (hs.map Ye) (Wb ks pl) (ps.map Ye) sk (aA (.fz (.int (i:Int)))) y5 y6,_,by simp,t,sk',ps',_,z5,z6,j',rfl⟩)
 subst hy;rw[Nat.zero_add]at j;V ok:∀h∈ps,HPok h:=λh hh=>by O⟨a,ha,m⟩:=j.each h hh;E Zih T (j.lt a ha) m
 V nde:(ps.map Q5).Nodup:=cu.mpr ((g8.mp j.apart).imp fun{a b} ⟨ha,hb,ap⟩=>Zac (ok a ha) (ok b hb) ap);V s:=Zh7 ok nde (by V :=j.len;W) (Jq ps) (Xt ps);V s:Oe [.lst (ps.map Ye)]=aA (.ol ((Nm ps).map Ye)):=s;R⟨Nm ps,⟨?_,λh hh=>?_,λa ha=>?_⟩,λh hh=>ok h ((Jq ps).mem_iff.mp hh),by rw[(Jq ps).length_eq];E j.len,?_⟩
 ·V nd2:((Nm ps).map Q5).Nodup:=(((Jq ps).map Q5).nodup_iff).mpr nde;R((Xt ps).and (cu.mp nd2)).imp fun{a b} ⟨h1,h2⟩=>?_;by_cases z:Q5 a<Q5 b
  ·E z
  ·E absurd (List.le_antisymm (dm.mp h1) (dm.mp z)) h2
 ·O⟨p,hp,m⟩:=j.each h ((Jq ps).mem_iff.mp hh);V e:=R6 (j.lt p hp);E⟨_,b9 e,m.congr (Xr e)⟩
 ·O⟨p,e⟩:=List.getElem?_of_mem ha;V hp:p<hs.length:=by rcases d4 p hs.length with z|z;E z;rw[d5 z]at e;C e
  O⟨h,hh,m⟩:=j.all p (j.upto p hp);E⟨h,(Jq ps).mem_iff.mpr hh,m.congr (Xr e)⟩
 ·V g1:Tc (hs.length:Int):=U9 И;V et:((hs.length:Int)).toNat=hs.length:=by W
  V el:(hs.map Ye).length=hs.length:=aj _;V e:Z0 (Zd 4) Gen.Jn (G8 0 hs.length) [aA (.fz (.lst (hs.map Ye))),aA (.fz (Wb ks pl)),aA (.ol []),aA (.oK [] []),aB,aB,aB]=_:=e;unfold Gen.Gj Gen.Iz;unfold gSt Wb at e;unfold Wb at hd;G (Nm ps).map Ye=OS;G ps.map Ye=PS;G Jg sk=K1;G Jh sk=K2;G (pl.map W9).map D.lst=HX;G hs.map Ye=HS;G hs.length=N;simp[hd,e,s,g1,el,et,Qy,-Z0]
end My
namespace My
open DL PySem TT TX
Лs1:1<=PySem.sizeLine:=by decide
Лs2:2<=PySem.sizeLine:=by decide
Лs3:3<=PySem.sizeLine:=by decide
аYi:Str:=gr "kind"
аOs:Str:=gr "note"
МYr(fs ts:А Str)(f:Str):Б Str:=(fs.zip ts).lookup f
ЛJr:∀(fs ts:А Str) (f:Str),look fs (ts.map D.str) f=(Yr fs ts f).map D.str
 | [],ts,f=>by cases ts<;> rfl
 |_::_,[],f=>rfl
 |x::fs,t::ts,f=>by
  show(if x=f then aA (D.str t)else look fs (ts.map D.str) f)=_;rw[Jr fs ts f];unfold Yr;rw[List.zip_cons_cons,List.lookup_cons];by_cases h:x=f
  ·subst h;simp
  ·V :(f==x)=aD:=beq_eq_false_iff_ne.mpr λz=>h z.symm;rw[Д h,this]
аNn(kind:Str)(fs ts:А Str):D:=.tup [.str kind,.dK (Zz fs) (ts.map D.str)]
Лown_texts(kind:Str)(fs ts:А Str)(hl:fs.length=ts.length)(hz:ts.length<=1000)(hk:Yi∉fs):Gen.Q0 [Nn kind fs ts]=aA (.oK (Zz (fs++[Yi])) ((ts++[kind]).map D.str)):=by
 V hp:Y4 (Zz fs) (ts.map D.str) (df Yi) (.str kind)=(Zz (fs++[Yi]),(ts++[kind]).map D.str):=by rw[Mx,Mz hk];simp
 V z:(ts.map D.str).length<PySem.sizeLine:=Z4 (by simp;W);V at1:∀a b:D,L2.atI [a,b] 1=aA b:=λ_ _=>rfl;V at0:∀a b:D,L2.atI [a,b] 0=aA a:=λ_ _=>rfl;unfold Nn Gen.Q0 Gen.Gk;G ts.map D.str=TS;G Zz fs=FS;simp[at1,at0,hp,z,-Y4]
МQj(fs ts:А Str):Г->А (А Str)->А NK
 |_,[]=>[]
 |i,r::rs=>(match r.mapM (Yr fs ts)with|some l=>[(.inr ((i:Int),l):NK)]|none=>[])++Qj fs ts (i+1) rs
аZ6(r:А Str):D:=.lst (r.map D.str)
МZuv(fs ts:А Str):D->D
 | .str f=>.bl (Yr fs ts f).isSome
 |_=>.non
МZnk(fs ts:А Str):D->D
 | .str f=>.str ((Yr fs ts f).getD "")
 |_=>.non
ЛZii(fs ts:А Str)(j:Г)(r:А Str)(hr:r.length<=100):
  Yb [.own,.cap j,.acc] 2 (Zd 0) W1 Gen.Uv (r.map D.str) [aB,aA (.fz (.dK (Zz fs) (ts.map D.str))),aA (.ol [])]=aA [aB,aA (.fz (.dK (Zz fs) (ts.map D.str))),aA (.ol (r.map λf=>.bl (Yr fs ts f).isSome))]:=by
 V c:=Of (te:=Gen.Uv) (f:=Zuv fs ts) (c:=aA (.fz (.dK (Zz fs) (ts.map D.str)))) (j:=j) (r.map D.str) [] (λx hx zs=>by
  O⟨f,hf,rfl⟩:=aw.mp hx;V l:=(Uc f fs (ts.map D.str)).trans (Jr fs ts f);unfold Gen.Uv Zuv;G ts.map D.str=TS;G Zz fs=FS;simp[l,-look]) (by rw[aj];simp;W)
 rw[c,dq,bo];rfl
ЛZij(fs ts:А Str)(j:Г)(r:А Str)(hr:r.length<=100)(hh:∀f∈r,(Yr fs ts f).isSome):
  Yb [.own,.cap j,.acc] 2 (Zd 0) W1 Gen.Uw (r.map D.str) [aB,aA (.fz (.dK (Zz fs) (ts.map D.str))),aA (.ol [])]=aA [aB,aA (.fz (.dK (Zz fs) (ts.map D.str))),aA (.ol (r.map λf=>.str ((Yr fs ts f).getD "")))]:=by
 V c:=Of (te:=Gen.Uw) (f:=Znk fs ts) (c:=aA (.fz (.dK (Zz fs) (ts.map D.str)))) (j:=j) (r.map D.str) [] (λx hx zs=>by
  O⟨f,hf,rfl⟩:=aw.mp hx;V l:=(Uc f fs (ts.map D.str)).trans (Jr fs ts f);O⟨v,hv⟩:=Option.isSome_iff_exists.mp (hh f hf);rw[hv]at l;V g:Znk fs ts (.str f)= .str v:=by T D.str ((Yr fs ts f).getD "")=_;rw[hv];rfl
  rw[g];unfold Gen.Uw;G ts.map D.str=TS;G Zz fs=FS;simp[l,-look]) (by rw[aj];simp;W)
 rw[c,dq,bo];rfl
ЛFh(fs ts:А Str):∀r:А Str,r.mapM (Yr fs ts)=if(∀f∈r,(Yr fs ts f).isSome)then aA (r.map λf=>(Yr fs ts f).getD "")else aB
 | []=>by simp
 |f::r=>by
  rw[List.mapM_cons,Fh fs ts r];cases h:Yr fs ts f with
  |none=>simp[h]
  |some v=>
   by_cases h2:∀f∈r,(Yr fs ts f).isSome
   ·rw[Е h2,Е λg hg=>(bu.mp hg).elim (λz=>by rw[z,h];rfl) λz=>h2 g z];simp[h]
   ·rw[Д h2,Д λz=>h2 λg hg=>z g (ar _ hg)];rfl
ЛNp:∀(r:А Str) (p:Str->Bool),bools? (r.map λf=>D.bl (p f))=aA (r.map p)
 | [],p=>rfl
 |f::r,p=>by V :=Np r p;rw[a7,a7];simp[this]
ЛZad(fs ts:А Str)(R:Б SV)(M:А NK)(n:Г)(r:А Str)(hr:r.length<=100)(hM:M.length<=100):
  Gen.Jd [aA (.fz (.dK (Zz fs) (ts.map D.str))),R,aA (.ol (M.map Zk)),aA (.fz (.int (n:Int))),aA (.fz (Z6 r))]=
  aA (.nx [aA (.fz (.dK (Zz fs) (ts.map D.str))),R,aA (.ol ((M++(match r.mapM (Yr fs ts)with|some l=>[(.inr ((n:Int),l):NK)]|none=>[])).map Zk)),aA (.fz (.int (n:Int))),aA (.fz (Z6 r))]):=by
 V h1:=Zii fs ts 0 r hr;V b:=Np r λf=>(Yr fs ts f).isSome;V z1:M.length<PySem.sizeLine:=Z4 И;unfold Gen.Jd;rw[Fh];by_cases h:∀f∈r,(Yr fs ts f).isSome
 ·V h2:=Zij fs ts 0 r hr h;rw[Е h];V al:(r.map λf=>(Yr fs ts f).isSome).all id=aC:=by rw[List.all_map];E List.all_eq_true.mpr λf hf=>h f hf
  G ts.map D.str=TS;G Zz fs=FS;simp[h1,h2,b,al,z1,s2,-Yb];unfold Zk;simp
 ·rw[Д h];V al:(r.map λf=>(Yr fs ts f).isSome).all id=aD:=by rw[List.all_map,Bool.eq_false_iff];E λz=>h λf hf=>List.all_eq_true.mp z f hf
  G ts.map D.str=TS;G Zz fs=FS;simp[h1,b,al,z1,-Yb]
ЛFi(fs ts:А Str)(R:Б SV):∀(rs:А (А Str)) (n:Г) (M:А NK) (x3 x4:Б SV),(∀r∈rs,r.length<=100)->M.length+rs.length<=100->∃y3 y4,
  Z0 (Wf 2 (Zr (Zd 3) (Zr (Zd 4) Wh))) Gen.Jd (((rs.map Z6).zipIdx n).map λp=>D.tup [.int (p.2:Г),p.1]) [aA (.fz (.dK (Zz fs) (ts.map D.str))),R,aA (.ol (M.map Zk)),x3,x4]=
  aA (.nx [aA (.fz (.dK (Zz fs) (ts.map D.str))),R,aA (.ol ((M++Qj fs ts n rs).map Zk)),y3,y4])
 | [],n,M,x3,x4,_,_=>⟨x3,x4,by simp[Qj]⟩
 |r::rs,n,M,x3,x4,hr,hM=>by
  rw[bf]at hM;V t:=Zad fs ts R M n r (hr r ag) И;O⟨y3,y4,ih⟩:=Fi fs ts R rs (n+1) (M++(match r.mapM (Yr fs ts)with|some l=>[(.inr ((n:Int),l):NK)]|none=>[])) (aA (.fz (.int (n:Int)))) (aA (.fz (Z6 r))) (λq hq=>hr q (ar _ hq)) (by
   rw[az];cases r.mapM (Yr fs ts)<;> simp<;> W)
  R⟨y3,y4,?_⟩;rw[a7,List.zipIdx_cons,a7,Qj];rw[de]at ih;V e:∀δ,(Wf 2 (Zr (Zd 3) (Zr (Zd 4) Wh))).run (.tup [.int (n:Г),Z6 r]) [aA (.fz (.dK (Zz fs) (ts.map D.str))),R,aA (.ol (M.map Zk)),x3,x4]=aA δ->δ=[aA (.fz (.dK (Zz fs) (ts.map D.str))),R,aA (.ol (M.map Zk)),aA (.fz (.int (n:Int))),aA (.fz (Z6 r))]:=λδ h=>by simpa using h.symm
  unfold Z0;G ts.map D.str=TS;G Zz fs=FS;rw[show(Wf 2 (Zr (Zd 3) (Zr (Zd 4) Wh))).run (.tup [.int (n:Г),Z6 r]) [aA (.fz (.dK FS TS)),R,aA (.ol (M.map Zk)),x3,x4]=aA [aA (.fz (.dK FS TS)),R,aA (.ol (M.map Zk)),aA (.fz (.int (n:Int))),aA (.fz (Z6 r))]from by simp];dsimp only[ck];rw[t];E ih
Лmarks_of(fs ts:А Str)(rs:А (А Str))(hr:∀r∈rs,r.length<=100)(hn:rs.length<=100):Gen.Op [.dK (Zz fs) (ts.map D.str),.lst (rs.map Z6)]=aA (.ol ((Qj fs ts 0 rs).map Zk)):=by O⟨y3,y4,e⟩:=Fi fs ts (aA (.fz (.lst (rs.map Z6)))) rs 0 [] aB aB hr (by simpa using hn);rw[dq]at e;V e2:Q7 (rs.map Z6)=(((rs.map Z6).zipIdx 0).map λp=>D.tup [.int (p.2:Г),p.1]):=rfl;unfold Gen.Op Gen.R1;rw[<-e2]at e;G ts.map D.str=TS;G Zz fs=FS;G rs.map Z6=RS;G (Qj fs ts 0 rs).map Zk=MS;V e:Z0 (Wf 2 (Zr (Zd 3) (Zr (Zd 4) Wh))) Gen.Jd (Q7 RS) [aA (.fz (.dK FS TS)),aA (.fz (.lst RS)),aA (.ol []),aB,aB]=_:=e;simp[e,-Z0]
structure Wk where
 key:Str
 kind:Str
 fs:А Str
 ts:А Str
structure WkOk(w:Wk):В where
 len:w.fs.length=w.ts.length
 nd:w.fs.Nodup
 few:w.fs.length<=10
 nk:Yi∉w.fs
аWk.at'(w:Wk):А Str:=w.fs++[Yi]
аWk.vt(w:Wk):А Str:=w.ts++[w.kind]
аWk.val(w:Wk)(f:Str):Str:=(Yr w.at' w.vt f).getD ""
аWk.d(w:Wk):D:=Nn w.kind w.fs w.ts
аJe(b k:Str):NK:=.inl [b,k]
МWk.tri(b:Str)(w:Wk):А Ad:=(w.at'.filter λf=>decide (f≠Os)).map λf=>(f,w.val f,[Je b w.key])
аWk.marks(rs:А (А Str))(w:Wk):А NK:=Qj w.at' w.vt 0 rs
МWz(b:Str)(rs:А (А Str))(w:Wk):HP:=⟨[Je b w.key],w.marks rs,w.tri b⟩
ЛM8:∀(fs ts:А Str) (f:Str),fs.length=ts.length->(f∈fs↔(Yr fs ts f).isSome=aC)
 | [],[],f,_=>by simp[Yr]
 | [],_::_,f,h=>by simp at h
 |_::_,[],f,h=>by simp at h
 |x::fs,t::ts,f,h=>by
  V ih:=M8 fs ts f (by simpa using h);unfold Yr at*;rw[List.zip_cons_cons,List.lookup_cons,bu,ih];by_cases e:f=x
  ·subst e;simp
  ·V :(f==x)=aD:=beq_eq_false_iff_ne.mpr e;rw[this];simp[e]
ЛTx(fs ts:А Str)(nm:D)(hl:fs.length=ts.length):∀(xs:А Str) (zs:А D),(∀x∈xs,x∈fs)->zs.length+xs.length<=1000->
  Yb [.own,.cap 3,.cap 0,.acc] 3 (Zd 0) Gen.Qn Gen.Jw (xs.map D.str) [aB,aA (.fz (.dK (Zz fs) (ts.map D.str))),aA (.fz nm),aA (.ol zs)]=
  aA [aB,aA (.fz (.dK (Zz fs) (ts.map D.str))),aA (.fz nm),aA (.ol (zs++(xs.filter λf=>decide (f≠Os)).map λf=>D.tup [.str f,.str ((Yr fs ts f).getD ""),.lst [nm]]))]
 | [],zs,_,_=>by simp
 |x::xs,zs,h,hz=>by
  rw[bf]at hz;O⟨v,hv⟩:=Option.isSome_iff_exists.mp ((M8 fs ts x hl).mp (h x ag));V l:=(Uc x fs (ts.map D.str)).trans (Jr fs ts x);rw[hv]at l;V z1:zs.length<PySem.sizeLine:=Z4 И;rw[a7,List.filter_cons];unfold Yb;by_cases hx:x=Os
  ·V ih:=Tx fs ts nm hl xs zs (λy hy=>h y (ar _ hy)) И;rw[Д (by simp[hx])];G ts.map D.str=TS;G Zz fs=FS;rw[show Gen.Qn=Yw (Zo neX (Za 0) (Zh (.str "note")))from rfl]at*;simp[hx,-Yb,-look];simpa[-Yb,-look]using ih
  ·V ih:=Tx fs ts nm hl xs (zs++[D.tup [.str x,.str ((Yr fs ts x).getD ""),.lst [nm]]]) (λy hy=>h y (ar _ hy)) (by rw[az];simp;W);rw[Е (by simp[hx]),a7];rw[de]at ih;G ts.map D.str=TS;G Zz fs=FS;V e0:∀q,Gen.Qn [aA (SV.fz (D.str x)),aA (.fz (.dK FS TS)),aA (.fz nm),aA (.ol q)]=aA (aC,[aA (SV.fz (D.str x)),aA (.fz (.dK FS TS)),aA (.fz nm),aA (.ol q)]):=λq=>by unfold Gen.Qn;simp[hx]
   V e1:∀q,Gen.Jw [aA (SV.fz (D.str x)),aA (.fz (.dK FS TS)),aA (.fz nm),aA (.ol q)]=aA (.tmp (.fz (D.tup [.str x,.str v,.lst [nm]])),[aA (SV.fz (D.str x)),aA (.fz (.dK FS TS)),aA (.fz nm),aA (.ol q)]):=λq=>by unfold Gen.Jw;simp[l,s1,s3,-look]
   rw[hv]at ih⊢;simp[e0,e1,z1,-Yb,-look];simpa[-Yb,-look]using ih
ЛTy(xs:А Str):(Zz xs).map Rq=xs.map D.str:=by rw[bo];rfl
Лlone_heap(b:Str)(rs:А (А Str))(w:Wk)(ok:WkOk w)(hr:∀r∈rs,r.length<=100)(hn:rs.length<=100):
  Gen.Q1 [Zk (Je b w.key),w.d,.lst (rs.map Z6)]=aA (.fz (Ye (Wz b rs w))):=by
 V o:Gen.Q0 [w.d]=aA (.oK (Zz w.at') (w.vt.map D.str)):=own_texts w.kind w.fs w.ts ok.len (by V :=ok.len;V :=ok.few;W) ok.nk;V hl:w.at'.length=w.vt.length:=by simp[ok.len]
 V m:=marks_of w.at' w.vt rs hr hn;V c:=Tx w.at' w.vt (Zk (Je b w.key)) hl w.at' [] (λx hx=>hx) (by V :=ok.few;simp;W);V ek:=Ty w.at';V el:(Wz b rs w).fs.map Y5=(w.at'.filter λf=>decide (f≠Os)).map λf=>D.tup [.str f,.str (w.val f),.lst [Zk (Je b w.key)]]:=by show(w.tri b).map Y5=_;unfold Wk.tri;rw[bo];rfl
 V en:(Wz b rs w).ns.map Zk=[Zk (Je b w.key)]:=rfl;V em:(Wz b rs w).ms=w.marks rs:=rfl;unfold Gen.Q1 Gen.Gm Ye;rw[el,en,em];rw[dq]at c;V ev:∀f,w.val f=(Yr w.at' w.vt f).getD "":=λ_=>rfl;G Zk (Je b w.key)=NM;generalize hM:(w.marks rs).map Zk=MS at*;G w.d=W;G w.at'=AT;G w.vt=VT;G VT.map D.str=TS;G Zz AT=FS;simp[o,m,c,ek,s1,s3,hM,ev,-Yb,-look]
аYl(ws:А Wk):D:=.dK (Zz (ws.map Wk.key)) (ws.map Wk.d)
ЛCp{ws:А Wk}(nd:(ws.map Wk.key).Nodup){w:Wk}(h:w∈ws):look (Zz (ws.map Wk.key)) (ws.map Wk.d) (df w.key)=aA w.d:=by rw[Uc];O⟨i,hi,rfl⟩:=f9 h;E Zh1 nd К i _ _ (by simp[hi]) (by simp[hi])
ЛNq(b:Str)(rs:А (А Str))(ws:А Wk)(nd:(ws.map Wk.key).Nodup)(ok:∀w∈ws,WkOk w)(hr:∀r∈rs,r.length<=100)(hn:rs.length<=100):∀(xs:А Wk) (zs:А D),(∀x∈xs,x∈ws)->zs.length+xs.length<=1000->
  Yb [.own,.cap 2,.cap 0,.cap 1,.acc] 4 (Zd 0) W1 Gen.O5 ((xs.map Wk.key).map D.str) [aB,aA (.fz (.lst (rs.map Z6))),aA (.fz (.str b)),aA (.fz (Yl ws)),aA (.ol zs)]=
  aA [aB,aA (.fz (.lst (rs.map Z6))),aA (.fz (.str b)),aA (.fz (Yl ws)),aA (.ol (zs++(xs.map (Wz b rs)).map Ye))]
 | [],zs,_,_=>by simp
 |x::xs,zs,h,hz=>by
  rw[bf]at hz;V ih:=Nq b rs ws nd ok hr hn xs (zs++[Ye (Wz b rs x)]) (λy hy=>h y (ar _ hy)) (by rw[az];simp;W);V hx:=h x ag;V l:=Cp nd hx;V lo:Gen.Q1 [.tup [.str b,.str x.key],x.d,.lst (rs.map Z6)]=aA (.fz (Ye (Wz b rs x))):=lone_heap b rs x (ok x hx) hr hn;V z1:zs.length<PySem.sizeLine:=Z4 И;rw[de]at ih;rw[a7,a7,a7,a7];V e1:∀q,Gen.O5 [aA (.fz (.str x.key)),aA (.fz (.lst (rs.map Z6))),aA (.fz (.str b)),aA (.fz (Yl ws)),aA (.ol q)]=aA (.tmp (.fz (Ye (Wz b rs x))),[aA (.fz (.str x.key)),aA (.fz (.lst (rs.map Z6))),aA (.fz (.str b)),aA (.fz (Yl ws)),aA (.ol q)]):=λq=>by unfold Gen.O5;unfold Yl;unfold Ye at lo⊢;G [D.lst ((Wz b rs x).ns.map Zk),.lst ((Wz b rs x).ms.map Zk),.lst ((Wz b rs x).fs.map Y5)]=HH;G x.d=XD;G ws.map Wk.d=WD;G Zz (ws.map Wk.key)=WK;G rs.map Z6=RD;simp[l,lo,s2,-look]
  unfold Yl at e1 ih⊢;G Ye (Wz b rs x)=HH;G ws.map Wk.d=WD;G Zz (ws.map Wk.key)=WK;G rs.map Z6=RD;unfold Yb;simp[e1,z1,-Yb];simpa[-Yb]using ih
ЛZuw{w:Wk}(ok:WkOk w):w.at'.Nodup:=c9.mpr ⟨ok.nd,by simp,λa ha c hc e=>ok.nk (by rw[<-au.mp hc,<-e];E ha)⟩
ЛGw:∀(fs ts:А Str) (rs:А (А Str)) (n:Г),∀m∈Qj fs ts n rs,∃(j:Г) (l:А Str),m= .inr ((j:Int),l)/\n<=j/\∃r,rs[j- n]? =aA r/\r.mapM (Yr fs ts)=aA l
 |fs,ts,[],n,m,h=>nomatch h
 |fs,ts,r::rs,n,m,h=>by
  rw[Qj]at h;rcases bj.mp h with z|z
  ·cases e:r.mapM (Yr fs ts)with
   |none=>rw[e]at z;C z
   |some l=>rw[e]at z;E⟨n,l,au.mp z,a6 _,r,by simp,e⟩
  ·O⟨j,l,e,hj,r',h1,h2⟩:=Gw fs ts rs (n+1) m z;R⟨j,l,e,by W,r',?_,h2⟩;rw[show j- n=(j- (n+1))+1 by W];E h1
ЛG4:∀(fs ts:А Str) (rs:А (А Str)) (n:Г),(Qj fs ts n rs).length<=rs.length
 |fs,ts,[],n=>a6 _
 |fs,ts,r::rs,n=>by rw[Qj,az,bf];V :=G4 fs ts rs (n+1);cases r.mapM (Yr fs ts)<;> simp<;> W
structure Shw(rs:А (А Str))(ws:А Wk):В where
 nd:(ws.map Wk.key).Nodup
 ok:∀w∈ws,WkOk w
 few:ws.length<=40
 m64:ws.length*rs.length<64
 rl:∀r∈rs,r.length<=100
 rn:rs.length<=60
ЛNr(b:Str)(w:Wk)(ok:WkOk w):((w.tri b).map Yg).Nodup:=by unfold Wk.tri;rw[bo];R cu.mpr (((Zuw ok).filter _).imp fun{x y} h e=>h ?_);V e:=gq.inj e;E(List.cons.inj e).1
ЛZca(t:NK):∀fs:А Ad,(fs.map Yg).Nodup->(∀x∈fs,x.2.2.length=1)->X7 t fs<=1
 | [],_,_=>by simp[X7]
 |x::fs,nd,h=>by
  O⟨n1,n2⟩:=d7.mp nd;V ih:=Zca t fs n2 λy hy=>h y (ar _ hy);rw[M7];by_cases e:Yg x=t
  ·V z:X7 t fs=0:=by
    V :∀l:А Ad,t∉l.map Yg->X7 t l=0:=λl=>by
     induction l with
     |nil=>intro _;simp[X7]
     |cons y l ih=>intro hn;rw[M7,Д λz=>hn (by rw[<-z];simp),ih λz=>hn (ar _ z)]
    E this fs (by rw[<-e];E n1)
   rw[Е e,z,h x ag];decide
  ·rw[Д e];W
ЛW6{α:Type}(w:α->Г)(B:Г):∀l:А α,(∀x∈l,w x<=B)->(l.map w).sum<=l.length*B
 | [],_=>by simp
 |x::l,h=>by V :=W6 w B l λy hy=>h y (ar _ hy);V :=h x ag;rw[a7,List.sum_cons,bf,Nat.add_mul];W
ЛZik(b:Str)(rs:А (А Str))(ws:А Wk)(s:Shw rs ws)(hp:∃ps:А NK,ps.length<64/\∀w∈ws,∀x∈w.tri b,Yg x∈ps):Tot (ws.map (Wz b rs)):=by
 V few:=s.few;V tl1:∀w:Wk,∀x∈w.tri b,x.2.2=[Je b w.key]:=λw x hx=>by O⟨f,_,rfl⟩:=aw.mp hx;rfl
 V ml:∀w:Wk,(w.marks rs).length<=rs.length:=λw=>G4 w.at' w.vt rs 0;V fl:∀w∈ws,(w.tri b).length<=11:=λw hw=>by
  unfold Wk.tri;rw[aj];V :=List.length_filter_le (λf=>decide (f≠Os)) w.at';V h2:w.at'.length=w.fs.length+1:=by simp
  V :=(s.ok w hw).few;W
 R⟨⟨λh hh=>?_,λh hh k hk=>?_,λh hh k hk=>?_,λh hh x hx k hk=>?_,?_,?_,λt=>?_,by rw[aj];W,?_,?_⟩,λh hh=>?_⟩
 ·O⟨w,hw,rfl⟩:=aw.mp hh;V :=ml w;V :=s.rn;E⟨by show[Je b w.key].length<=_;simp,by show(w.marks rs).length<=_;W,λx hx=>by rw[tl1 w x hx];simp⟩
 ·O⟨w,hw,rfl⟩:=aw.mp hh;E⟨b,[w.key],au.mp hk⟩
 ·O⟨w,hw,rfl⟩:=aw.mp hh;O⟨j,l,e,_⟩:=Gw _ _ _ _ k (show k∈w.marks rs from hk);E⟨j,l,e⟩
 ·O⟨w,hw,rfl⟩:=aw.mp hh;rw[tl1 w x hx]at hk;E⟨b,[w.key],au.mp hk⟩
 ·rw[List.length_flatMap,bo];V :=W6 ((λh:HP=>h.ns.length)∘Wz b rs) 1 ws λw _=>a6 _;E gv this И
 ·rw[List.length_flatMap,bo];E gv (W6 ((λh:HP=>h.ms.length)∘Wz b rs) rs.length ws λw _=>ml w) s.m64
 ·unfold tlG;rw[bo];V :=W6 ((λh:HP=>X7 t h.fs)∘Wz b rs) 1 ws λw hw=>Zca t (w.tri b) (Nr b w (s.ok w hw)) λx hx=>by rw[tl1 w x hx];rfl
  E gv this И
 ·unfold Kr;rw[bo];V :=W6 ((λh:HP=>h.fs.length)∘Wz b rs) 11 ws λw hw=>fl w hw;E du this И
 ·O⟨ps,h1,h2⟩:=hp;R⟨ps,h1,λt zq9=>?_⟩;O⟨h,hh,x,hx,e⟩:=zq9;O⟨w,hw,rfl⟩:=aw.mp hh;rw[e];E h2 w hw x hx
 ·O⟨w,hw,rfl⟩:=aw.mp hh;E λz=>nomatch z
Лpool_of(b:Str)(rs:А (А Str))(ws:А Wk)(s:Shw rs ws)(hp:∃ps:А NK,ps.length<64/\∀w∈ws,∀x∈w.tri b,Yg x∈ps):∃out,IsPool (· ∈ws.map (Wz b rs)) out/\(∀h∈out,HPok h)/\out.length<=ws.length/\Gen.Q2 [.str b,Yl ws,.lst (rs.map Z6)]=aA (.ol (out.map Ye)):=by V c:=Nq b rs ws s.nd s.ok s.rl (by V :=s.rn;W) ws [] (λ_ h=>h) (by V :=s.few;simp;W);rw[dq]at c;O⟨out,p,ok,len,j⟩:=joined (ws.map (Wz b rs)) (Zik b rs ws s hp);R⟨out,p,ok,by rw[aj]at len;E len,?_⟩;V ek:=Ty (ws.map Wk.key);unfold Gen.Q2 Gen.Tu;unfold Yl at c⊢;G out.map Ye=OUT;G (ws.map (Wz b rs)).map Ye=LH;G ws.map Wk.d=WD;G Zz (ws.map Wk.key)=WK;G rs.map Z6=RD;G (ws.map Wk.key).map D.str=KS;simp[c,j,ek,-Yb]
end My
namespace My
open DL PySem TT TX
structure Uni(U V W:А NK)(S:HP->В):В where
 ne:∀a,S a->a.ns≠[]
 ns:∀a,S a->∀k∈a.ns,k∈U/\isN k
 ms:∀a,S a->∀k∈a.ms,k∈V/\Sc k
 fs:∀a,S a->∀x∈a.fs,Yg x∈W/\∀k∈x.2.2,k∈a.ns
ЛFj{S:HP->В}{P:А HP}(p:IsPool S P):P.Pairwise λh h'=>∀t,t∈Ot h->t∉Ot h':=by
 R(g8.mp p.sorted).imp fun{h h'} ⟨hh,hh',lt⟩ t t1 t2=>?_;O⟨a,sa,m⟩:=p.each h hh;O⟨a',sa',m'⟩:=p.each h' hh';O⟨b,c,tb⟩:=(m.tie t).mp t1;O⟨b',c',tb'⟩:=(m'.tie t).mp t2;V cc:Conn S a a':=(Conn.step c c'.right ⟨t,tb,tb'⟩).trans c'.symm;V :h=h':=m.uniq m' λx=>⟨λz=>cc.symm.trans z,λz=>cc.trans z⟩
 rw[this]at lt;E gc _ lt
structure Small(u v w:Г)(P:А HP):В where
 ns:(P.flatMap HP.ns).length<=u
 ms:(P.flatMap HP.ms).length<=v
 tl:∀t,tlG t P<=u
 cn:Kr P<=P.length*w
 ln:P.length<=u
 fw:∀h∈P,h.ns.length<=u/\h.ms.length<=v/\∀x∈h.fs,x.2.2.length<=u
end My
namespace My
open DL PySem TT TX
МNum(x:Int):Prop:=0<=x/\x<2147483647
ЛZil{m:Int}(h:0<m/\m<=2147483647)(x:Int):Num (x % m):=⟨gk _ И,Int.lt_of_lt_of_le (fj _ h.1) h.2⟩
ЛRi(a b:Б SV):∀(n s:Г) (ms:А Int) (x:Int) (y:Б SV),(∀m∈ms,Num m)->ms.length+n<=1000->
  ∃(ms':А Int) (x':Int) (y':Б SV),Z0 (Zd 4) Gen.Qr (G8 s n) [a,b,aA (.ol (ms.map D.int)),aA (.fz (.int x)),y]=aA (.nx [a,b,aA (.ol (ms'.map D.int)),aA (.fz (.int x')),y'])/\(∀m∈ms',Num m)/\ms'.length=ms.length+n
 |0,s,ms,x,y,h,_=>⟨ms,x,y,rfl,h,rfl⟩
 |n+1,s,ms,x,y,h,hl=>by
  V z:ms.length<PySem.sizeLine:=Z4 И;V hb:Gen.Qr [a,b,aA (.ol (ms.map D.int)),aA (.fz (.int x)),aA (.fz (.int (s:Int)))]=aA (.nx [a,b,aA (.ol ((ms++[x % 5040]).map D.int)),aA (.fz (.int (x / 5040))),aA (.fz (.int (s:Int)))]):=by unfold Gen.Qr;simp[z]
  O⟨ms',x',y',e,h1,h2⟩:=Ri a b n (s+1) (ms++[x % 5040]) (x / 5040) (aA (.fz (.int (s:Int)))) (λm hm=>by
   rcases bj.mp hm with hm|hm
   ·E h m hm
   ·rw[au.mp hm];E Zil Й _) (by rw[az,fq];W)
  R⟨ms',x',y',(Y3 (ds:=G8 (s+1) n) К hb).trans e,h1,by rw[h2,az,fq];W⟩
ЛRj(a b:Б SV):∀(n s:Г) (ms:А Int) (x:Int) (y:Б SV),(∀m∈ms,Num m)->ms.length+n<=1000->
  ∃(ms':А Int) (x':Int) (y':Б SV),Z0 (Zd 4) Gen.Qs (G8 s n) [a,b,aA (.ol (ms.map D.int)),aA (.fz (.int x)),y]=aA (.nx [a,b,aA (.ol (ms'.map D.int)),aA (.fz (.int x')),y'])/\(∀m∈ms',Num m)/\ms'.length=ms.length+n
 |0,s,ms,x,y,h,_=>⟨ms,x,y,rfl,h,rfl⟩
 |n+1,s,ms,x,y,h,hl=>by
  V z:ms.length<PySem.sizeLine:=Z4 И;V hb:Gen.Qs [a,b,aA (.ol (ms.map D.int)),aA (.fz (.int x)),aA (.fz (.int (s:Int)))]=aA (.nx [a,b,aA (.ol ((ms++[(x+(s:Int)+1)*48271 % 2147483647*69621 % 2147483629]).map D.int)),aA (.fz (.int ((x+(s:Int)+1)*48271 % 2147483647))),aA (.fz (.int (s:Int)))]):=by V hm:=Dc (i:=x+(s:Int)+1) (j:=48271) И;V hm2:=Dc (i:=(x+(s:Int)+1)*48271 % 2147483647) (j:=69621) И;unfold Gen.Qs;simp[hm,hm2,z]
  O⟨ms',x',y',e,h1,h2⟩:=Rj a b n (s+1) (ms++[(x+(s:Int)+1)*48271 % 2147483647*69621 % 2147483629]) ((x+(s:Int)+1)*48271 % 2147483647) (aA (.fz (.int (s:Int)))) (λm hm=>by
   rcases bj.mp hm with hm|hm
   ·E h m hm
   ·rw[au.mp hm];E Zil Й _) (by rw[az,fq];W)
  R⟨ms',x',y',(Y3 (ds:=G8 (s+1) n) К hb).trans e,h1,by rw[h2,az,fq];W⟩
ЛFk(c:Int)(n:Г)(h:n<=1000):∃ms:А Int,Gen.Ys [.int c,.int (n:Int)]=aA (.ol (ms.map D.int))/\(∀m∈ms,Num m)/\ms.length=n:=by
 V g1:Tc (n:Int):=U9 И;V et:((n:Int)).toNat=n:=by W
 by_cases hc:c % 2=1
 ·O⟨ms,x',y',e,h1,h2⟩:=Ri (aA (.fz (.int c))) (aA (.fz (.int (n:Int)))) n 0 [] (c / 2) aB (λ_ h=>nomatch h) (by simpa using h);R⟨ms,?_,h1,by simpa using h2⟩;simp only[List.map_nil]at e;unfold Gen.Ys Gen.Jt;simp[-Z0,g1,et,Qy,e,hc]
 ·O⟨ms,x',y',e,h1,h2⟩:=Rj (aA (.fz (.int c))) (aA (.fz (.int (n:Int)))) n 0 [] (c / 2 % 2147483647) aB (λ_ h=>nomatch h) (by simpa using h);R⟨ms,?_,h1,by simpa using h2⟩;simp only[List.map_nil]at e;unfold Gen.Ys Gen.Jt;simp[-Z0,g1,et,Qy,e,hc]
ЛZim{w:Str}(h:Nam w):w≠Yi:=λe=>(h.no 105 (by rw[e];decide+kernel)).1 rfl
ЛZin{w:Str}(h:Nam w):w≠Os:=λe=>(h.no 110 (by rw[e];decide+kernel)).2.1 rfl
ЛZcb:Os≠Yi:=by decide+kernel
аPS:=А (Str×Str)
аFm(ps:PS):А L2.Key:=Zz (ps.map (·.1))
аAk(ps:PS):А D:=(ps.map (·.2)).map D.str
аnS(n:Г):Str:=gr (toString ((n:Г):Int))
аITS:Str:=gr "It's "
МitT(n:Г):Str:=ITS++nS n
ЛZqk:∀n<10,(nS n).length<=2:=by decide+kernel
ЛZls:ITS.length=5:=by decide+kernel
ЛR7{ms:А Int}{j:Г}(h:j<ms.length):L2.atI (ms.map D.int) (j:Int)=aA (.int ms[j]):=Ip _ _ _ (by rw[a9,ax h];rfl)
аoSt(A0 A1 A2 A4 A5 A6:Б SV)(wd:Г)(ms:А Int)(ps:PS)(x9 x10:Б SV):Yq:=[A0,A1,A2,aA (.fz (.int (wd:Int))),A4,A5,A6,aA (.ol (ms.map D.int)),aA (.oK (Fm ps) (Ak ps)),x9,x10]
ЛZio(A0 A1 A2 A4 A5 A6:Б SV)(wd:Г)(h2:2<=wd)(h10:wd<=10)(ms:А Int)(hl:ms.length=11)(ps:PS)(hp:ps.length<=10)(j:Г)(hj:j<5)(f:Str)(hf:f∉ps.map (·.1)):∃ps',(ps'=ps\/∃n<10,ps'=ps++[(f,itT n)])/\
  Gen.Ww (oSt A0 A1 A2 A4 A5 A6 wd ms ps (aA (.fz (.int (j:Int)))) (aA (.fz (.str f))))=aA (.nx (oSt A0 A1 A2 A4 A5 A6 wd ms ps' (aA (.fz (.int (j:Int)))) (aA (.fz (.str f))))):=by
 V a1:=R7 (ms:=ms) (j:=j) И;V a2:=R7 (ms:=ms) (j:=5+j) И;rw[show(((5+j:Г)):Int)=5+(j:Int) by W]at a2;generalize ms[j]'И=x at a1;generalize ms[5+j]'И=y at a2;by_cases h:0<x % 4
 ·V y0:0<=y % (wd:Int):=gk _ И;V y1:y % (wd:Int)<(wd:Int):=fj _ И;obtain⟨n,hn⟩:∃n:Г,(n:Int)=y % (wd:Int):=⟨(y % (wd:Int)).toNat,by W⟩
  V n10:n<10:=by W
  R⟨ps++[(f,itT n)],.inr ⟨n,n10,rfl⟩,?_⟩;V nl:=Zqk n n10;V l1:ITS.length+(nS n).length<=PySem.sizeLine:=Qq (by rw[Zls];W);V pp:Y4 (Fm ps) (Ak ps) (df f) (.str (ITS++nS n))=(Fm (ps++[(f,itT n)]),Ak (ps++[(f,itT n)])):=by unfold Fm Ak itT;rw[Mx,Mz hf];simp
  V z:(Ak ps).length<PySem.sizeLine:=Z4 (by simp;W);V w0:(0:Int)<(wd:Int):=by W
  V w1:0<wd:=by W
  V w2:(wd:Int)<1073741824:=by W
  V g1:((n:Г):Int).natAbs.log2<1920:=by R gv (Nat.log2_le_self _) ?_;W
  V sd:Zdd [.int (n:Int)]=aA (.fz (.str (nS n))):=by show(if((n:Г):Int).natAbs.log2<1920 then _ else _)=_;rw[Е g1]
  unfold Gen.Ww oSt;G Fm (ps++[(f,itT n)])=KK;G Ak (ps++[(f,itT n)])=VV;G Fm ps=KP;G Ak ps=VP;G ms.map D.int=MS;G nS n=NS;simp[h,a1,a2,w0,w1,w2,<-hn,l1,sd,pp,z,-Y4,-Zdd]
 ·R⟨ps,.inl rfl,?_⟩;unfold Gen.Ww oSt;G Fm ps=KP;G Ak ps=VP;G ms.map D.int=MS;simp[h,a1]
structure Own(F:А Str)(ps:PS):В where
 nd:(ps.map (·.1)).Nodup
 all:∀p∈ps,p.1∈F++[Os]/\∃n<10,p.2=itT n
ЛXu(F:А Str)(hF:F.length=4)(A0 A1 A2 A4 A5 A6:Б SV)(wd:Г)(h2:2<=wd)(h10:wd<=10)(ms:А Int)(hl:ms.length=11):∀(xs:А Str) (j:Г) (ps:PS) (x9 x10:Б SV),(ps.map (·.1)++xs).Nodup->Own F ps->j+xs.length<=5->ps.length<=j->(∀x∈xs,x∈F++[Os])->∃ps' y9 y10,Own F ps'/\ps'.length<=5/\
  Z0 (Wf 2 (Zr (Zd 9) (Zr (Zd 10) Wh))) Gen.Ww (((xs.map D.str).zipIdx j).map λp=>D.tup [.int (p.2:Г),p.1]) (oSt A0 A1 A2 A4 A5 A6 wd ms ps x9 x10)=aA (.nx (oSt A0 A1 A2 A4 A5 A6 wd ms ps' y9 y10))
 | [],j,ps,x9,x10,_,ow,hj,hp,_=>⟨ps,x9,x10,ow,by simp at hj;W,by simp⟩
 |f::xs,j,ps,x9,x10,nd,ow,hj,hp,hx=>by
  rw[bf]at hj;V hf:f∉ps.map (·.1):=λz=>(c9.mp nd).2.2 _ z f ag rfl;O⟨ps1,o1,t⟩:=Zio A0 A1 A2 A4 A5 A6 wd h2 h10 ms hl ps И j И f hf;V o2:(ps1.map (·.1)++xs).Nodup/\Own F ps1/\ps1.length<=j+1:=by
   rcases o1 with z|⟨n,hn,z⟩
   ·subst z;E⟨nd.sublist (List.Sublist.append (List.Sublist.refl _) (List.sublist_cons_self _ _)),ow,by W⟩
   ·subst z;V e:(ps++[(f,itT n)]).map (·.1)=ps.map (·.1)++[f]:=by simp
    V nd':(ps.map (·.1)++[f]++xs).Nodup:=by rw[de];E nd
    R⟨by rw[e];E nd',⟨by rw[e];E(c9.mp nd').1,λp hp'=>?_⟩,by simp;W⟩;rcases bj.mp hp' with z|z
    ·E ow.all p z
    ·rw[au.mp z];E⟨hx f ag,n,hn,rfl⟩
  O⟨ps',y9,y10,ow',l',ih⟩:=Xu F hF A0 A1 A2 A4 A5 A6 wd h2 h10 ms hl xs (j+1) ps1 (aA (.fz (.int (j:Int)))) (aA (.fz (.str f))) o2.1 o2.2.1 И o2.2.2 λx h=>hx x (ar _ h);R⟨ps',y9,y10,ow',l',?_⟩;rw[a7,List.zipIdx_cons,a7];unfold Z0;rw[show(Wf 2 (Zr (Zd 9) (Zr (Zd 10) Wh))).run (.tup [.int (j:Г),.str f]) (oSt A0 A1 A2 A4 A5 A6 wd ms ps x9 x10)=aA (oSt A0 A1 A2 A4 A5 A6 wd ms ps (aA (.fz (.int (j:Int)))) (aA (.fz (.str f))))from by simp];dsimp only[ck];rw[t];E ih
аwkP(key kd:Str)(ps:PS):Wk:=⟨key,kd,ps.map (·.1),ps.map (·.2)⟩
аZlu:Str:=gr "book"
аZlv:Str:=gr "part"
structure WP(F:А Str)(w:Wk):В where
 ok:WkOk w
 kd:w.kind=Zlu\/w.kind=Zlv
 all:∃ps,Own F ps/\w.fs=ps.map (·.1)/\w.ts=ps.map (·.2)
ЛZlw(i:Int):∃kd,(kd=Zlu\/kd=Zlv)/\L2.atI [D.str Zlu,D.str Zlv] (i % 2)=aA (.str kd):=by
 V :i % 2=0\/i % 2=1:=by W
 rcases this with h|h<;> rw[h]
 ·E⟨_,.inl rfl,rfl⟩
 ·E⟨_,.inr rfl,rfl⟩
аsSt(A0:Б SV)(F:А Str)(cs:А Int)(wd:Г)(ws:А Wk)(x5 x6 x7 x8 x9 x10:Б SV):Yq:=[A0,aA (.fz (.lst (F.map D.str))),aA (.fz (.lst (cs.map D.int))),aA (.fz (.int (wd:Int))),aA (.oK (Zz (ws.map Wk.key)) (ws.map Wk.d)),x5,x6,x7,x8,x9,x10]
ЛZae(F:А Str)(hF:F.length=4)(nF:F.Nodup)(hN:∀f∈F,Nam f)(A0:Б SV)(cs:А Int)(wd:Г)(h2:2<=wd)(h10:wd<=10)(ws:А Wk)(k:Г)(hk:k<cs.length)(key:Str)(hkey:key∉ws.map Wk.key)(hw:ws.length<=100)(x7 x8 x9 x10:Б SV):∃w y7 y8 y9 y10,w.key=key/\WP F w/\
  Gen.Qm (sSt A0 F cs wd ws (aA (.fz (.int (k:Int)))) (aA (.fz (.str key))) x7 x8 x9 x10)=aA (.nx (sSt A0 F cs wd (ws++[w]) (aA (.fz (.int (k:Int)))) (aA (.fz (.str key))) y7 y8 y9 y10)):=by
 V ac:=R7 hk;generalize cs[k]=c at ac;O⟨ms,en,hm,ml⟩:=Fk c 11 И;V ndN:(F++[Os]).Nodup:=c9.mpr ⟨nF,by simp,λa ha b hb e=>Zin (hN a ha) (by rw[e];E au.mp hb)⟩;O⟨ps,y9,y10,ow,pl,lo⟩:=Xu F hF A0 (aA (.fz (.lst (F.map D.str)))) (aA (.fz (.lst (cs.map D.int)))) (aA (.oK (Zz (ws.map Wk.key)) (ws.map Wk.d))) (aA (.fz (.int (k:Int)))) (aA (.fz (.str key))) wd h2 h10 ms ml (F++[Os]) 0 [] x9 x10 (by simpa using ndN) ⟨by simp,λ_ z=>nomatch z⟩ (by simp;W) К (λ_ h=>h);rw[show((((F++[Os]).map D.str).zipIdx 0).map λp=>D.tup [.int (p.2:Г),p.1])=Q7 ((F++[Os]).map D.str)from rfl,b7]at lo;V lo:Z0 (Wf 2 (Zr (Zd 9) (Zr (Zd 10) Wh))) Gen.Ww (Q7 (F.map D.str++[D.str Os])) _=_:=lo;V zF:(F.map D.str).length+1<=PySem.sizeLine:=Qq (by rw[aj];W);V a10:=R7 (ms:=ms) (j:=10) И;generalize ms[10]'И=x at a10;O⟨kd,hkd,ak⟩:=Zlw x;V zw:(ws.map Wk.d).length<PySem.sizeLine:=Z4 (by rw[aj];W);V f:Y4 (Zz (ws.map Wk.key)) (ws.map Wk.d) (df key) (.tup [.str kd,.dK (Fm ps) (Ak ps)])=(Zz ((ws++[wkP key kd ps]).map Wk.key),(ws++[wkP key kd ps]).map Wk.d):=by rw[Mx,Mz hkey];simp[Wk.d,Nn]
 R⟨wkP key kd ps,aA (.ol (ms.map D.int)),aA (.fz (.dK (Fm ps) (Ak ps))),y9,y10,rfl,⟨⟨by simp,ow.nd,by simp;W,λz=>?_⟩,hkd,ps,ow,rfl,rfl⟩,?_⟩
 ·O⟨p,hp,e⟩:=aw.mp z;V :=(ow.all p hp).1;rw[e]at this;rcases bj.mp this with z|z
  ·E Zim (hN _ z) rfl
  ·E Zcb (au.mp z).symm
 ·unfold Gen.Qm sSt;unfold oSt at lo;rw[show Fm ([]:PS)=[]from rfl,show Ak ([]:PS)=[]from rfl]at lo;G ((ws++[wkP key kd ps]).map Wk.d)=WD';G Zz ((ws++[wkP key kd ps]).map Wk.key)=WK';G Fm ps=K1;G Ak ps=V1;G ws.map Wk.d=WD;G Zz (ws.map Wk.key)=WK;G F.map D.str=FD;G cs.map D.int=CD;G ms.map D.int=MS;V en:Gen.Ys [.int c,.int 11]=_:=en;V a10:L2.atI MS 10=_:=a10;simp[ac,en,lo,zF,s1,s2,a10,ak,f,zw,-Z0,-Y4]
ЛFn(F:А Str)(hF:F.length=4)(nF:F.Nodup)(hN:∀f∈F,Nam f)(A0:Б SV)(cs:А Int)(wd:Г)(h2:2<=wd)(h10:wd<=10):∀(ks:А Str) (k:Г) (ws:А Wk) (x5 x6 x7 x8 x9 x10:Б SV),ws.length=k->k+ks.length<=12->k+ks.length<=cs.length->(ws.map Wk.key++ks).Nodup->(∀w∈ws,WP F w)->∃(ws':А Wk) (y5 y6 y7 y8 y9 y10:Б SV),ws'.map Wk.key=ws.map Wk.key++ks/\(∀w∈ws',WP F w)/\
  Z0 (Wf 2 (Zr (Zd 5) (Zr (Zd 6) Wh))) Gen.Qm (((ks.map D.str).zipIdx k).map λp=>D.tup [.int (p.2:Г),p.1]) (sSt A0 F cs wd ws x5 x6 x7 x8 x9 x10)=aA (.nx (sSt A0 F cs wd ws' y5 y6 y7 y8 y9 y10))
 | [],k,ws,x5,x6,x7,x8,x9,x10,_,_,_,_,hw=>⟨ws,x5,x6,x7,x8,x9,x10,by simp,hw,by simp⟩
 |key::ks,k,ws,x5,x6,x7,x8,x9,x10,hl,h1,h3,nd,hw=>by
  rw[bf]at h1 h3;O⟨w,z7,z8,z9,z10,ek,wp,t⟩:=Zae F hF nF hN A0 cs wd h2 h10 ws k И key (λz=>(c9.mp nd).2.2 _ z key ag rfl) И x7 x8 x9 x10;V em:(ws++[w]).map Wk.key=ws.map Wk.key++[key]:=by rw[b7,<-ek];rfl
  O⟨ws',y5,y6,y7,y8,y9,y10,e,hw',ih⟩:=Fn F hF nF hN A0 cs wd h2 h10 ks (k+1) (ws++[w]) (aA (.fz (.int (k:Int)))) (aA (.fz (.str key))) z7 z8 z9 z10 (by rw[az,hl];rfl) И И (by rw[em,de];E nd) (λv hv=>by
   rcases bj.mp hv with z|z
   ·E hw v z
   ·rw[au.mp z];E wp)
  R⟨ws',y5,y6,y7,y8,y9,y10,by rw[e,em,de];rfl,hw',?_⟩;rw[a7,List.zipIdx_cons,a7];unfold Z0;rw[show(Wf 2 (Zr (Zd 5) (Zr (Zd 6) Wh))).run (.tup [.int (k:Г),.str key]) (sSt A0 F cs wd ws x5 x6 x7 x8 x9 x10)=aA (sSt A0 F cs wd ws (aA (.fz (.int (k:Int)))) (aA (.fz (.str key))) x7 x8 x9 x10)from by simp];dsimp only[ck];rw[t];E ih
ЛZd4(F:А Str)(hF:F.length=4)(nF:F.Nodup)(hN:∀f∈F,Nam f)(cs:А Int)(wd:Г)(h2:2<=wd)(h10:wd<=10)(ks:А Str)(hk:ks.length<=12)(hc:ks.length<=cs.length)(nd:ks.Nodup):∃ws:А Wk,ws.map Wk.key=ks/\(∀w∈ws,WP F w)/\
  Gen.Uf [.lst (ks.map D.str),.lst (F.map D.str),.lst (cs.map D.int),.int (wd:Int)]=aA (.oK (Zz (ws.map Wk.key)) (ws.map Wk.d)):=by
 O⟨ws,y5,y6,y7,y8,y9,y10,e,hw,l⟩:=Fn F hF nF hN (aA (.fz (.lst (ks.map D.str)))) cs wd h2 h10 ks 0 [] aB aB aB aB aB aB rfl И И (by simpa using nd) (λw h=>nomatch h);R⟨ws,by simpa using e,hw,?_⟩;rw[show(((ks.map D.str).zipIdx 0).map λp=>D.tup [.int (p.2:Г),p.1])=Q7 (ks.map D.str)from rfl]at l;unfold sSt at l;V l:Z0 (Wf 2 (Zr (Zd 5) (Zr (Zd 6) Wh))) Gen.Qm (Q7 (ks.map D.str)) [aA (.fz (.lst (ks.map D.str))),aA (.fz (.lst (F.map D.str))),aA (.fz (.lst (cs.map D.int))),aA (.fz (.int (wd:Int))),aA (.oK [] []),aB,aB,aB,aB,aB,aB]=_:=l;unfold Gen.Uf Gen.Gh;G Zz (ws.map Wk.key)=WK;G ws.map Wk.d=WD;G ks.map D.str=KD;G F.map D.str=FD;G cs.map D.int=CD;simp[l,-Z0]
ЛNt(F:А Str)(hF:F.length=4)(A1 A3:Б SV)(ms:А Int)(hl:ms.length=13)(k:Г)(hk:k<=2):∀(n s:Г) (r:А Str) (x6:Б SV),s+n<=3->r.length=s->∃(r':А Str) (y6:Б SV),r'.length=s+n/\
  Z0 (Zd 6) Gen.Ju (G8 s n) [aA (.fz (.lst (F.map D.str))),A1,aA (.ol (ms.map D.int)),A3,aA (.fz (.int (k:Int))),aA (.ol (r.map D.str)),x6]=aA (.nx [aA (.fz (.lst (F.map D.str))),A1,aA (.ol (ms.map D.int)),A3,aA (.fz (.int (k:Int))),aA (.ol (r'.map D.str)),y6])
 |0,s,r,x6,_,hr=>⟨r,x6,by W,rfl⟩
 |n+1,s,r,x6,hs,hr=>by
  V a:=R7 (ms:=ms) (j:=2+4*k+s) И;rw[show((2+4*k+s:Г):Int)=2+4*(k:Int)+(s:Int) by W]at a;generalize ms[2+4*k+s]'И=y at a;V m:=Dd (i:=4) (j:=(k:Int)) И;V y0:0<=y % 5:=gk _ Й;V y1:y % 5<5:=fj _ Й;obtain⟨i,hi⟩:∃i:Г,(i:Int)=y % 5:=⟨(y % 5).toNat,by W⟩
  V fl:(F++[Yi]).length=5:=by simp[hF]
  V at5:L2.atI (F.map D.str++[D.str Yi]) (y % 5)=aA (.str ((F++[Yi])[i]'И)):=by
   rw[<-hi];V e:F.map D.str++[D.str Yi]=(F++[Yi]).map D.str:=by simp
   rw[e];E Ip _ _ _ (by rw[a9,ax И];rfl)
  generalize (F++[Yi])[i]'И=f at at5;V zF:(F.map D.str).length+1<=PySem.sizeLine:=Qq (by rw[aj];W);V zr:r.length<PySem.sizeLine:=Z4 И;O⟨r',y6,l',ih⟩:=Nt F hF A1 A3 ms hl k hk n (s+1) (r++[f]) (aA (.fz (.int (s:Int)))) И (by simp[hr]);R⟨r',y6,by W,?_⟩;V hb:Gen.Ju [aA (.fz (.lst (F.map D.str))),A1,aA (.ol (ms.map D.int)),A3,aA (.fz (.int (k:Int))),aA (.ol (r.map D.str)),aA (.fz (.int (s:Int)))]=aA (.nx [aA (.fz (.lst (F.map D.str))),A1,aA (.ol (ms.map D.int)),A3,aA (.fz (.int (k:Int))),aA (.ol ((r++[f]).map D.str)),aA (.fz (.int (s:Int)))]):=by unfold Gen.Ju;G F.map D.str=FD;G ms.map D.int=MS;simp[a,m,at5,zF,zr,s1]
  E(Y3 (ds:=G8 (s+1) n) К hb).trans ih
ЛFo(F:А Str)(hF:F.length=4)(A1:Б SV)(ms:А Int)(hl:ms.length=13):∀(n s:Г) (rs:А (А Str)) (x4 x5 x6:Б SV),s+n<=3->rs.length=s->(∀r∈rs,r.length<=3)->∃(rs':А (А Str)) (y4 y5 y6:Б SV),rs'.length=s+n/\(∀r∈rs',r.length<=3)/\
  Z0 (Zd 4) Gen.Jv (G8 s n) [aA (.fz (.lst (F.map D.str))),A1,aA (.ol (ms.map D.int)),aA (.ol (rs.map Z6)),x4,x5,x6]=aA (.nx [aA (.fz (.lst (F.map D.str))),A1,aA (.ol (ms.map D.int)),aA (.ol (rs'.map Z6)),y4,y5,y6])
 |0,s,rs,x4,x5,x6,_,hr,h3=>⟨rs,x4,x5,x6,by W,h3,rfl⟩
 |n+1,s,rs,x4,x5,x6,hs,hr,h3=>by
  V a:=R7 (ms:=ms) (j:=1+4*s) И;rw[show((1+4*s:Г):Int)=1+4*(s:Int) by W]at a;generalize ms[1+4*s]'И=y at a;V m:=Dd (i:=4) (j:=(s:Int)) И;V y0:0<=y % 3:=gk _ Й;V y1:y % 3<3:=fj _ Й;obtain⟨q,hq⟩:∃q:Г,(q:Int)=1+y % 3:=⟨(1+y % 3).toNat,by W⟩
  O⟨r,z6,rl,e⟩:=Nt F hF A1 (aA (.ol (rs.map Z6))) ms hl s И q 0 [] x6 И rfl;V g1:Tc (q:Int):=U9 И;V et:((q:Int)).toNat=q:=by W
  V zr:rs.length<PySem.sizeLine:=Z4 И;O⟨rs',y4,y5,y6,l',h3',ih⟩:=Fo F hF A1 ms hl n (s+1) (rs++[r]) (aA (.fz (.int (s:Int)))) (aA (.fz (.lst (r.map D.str)))) z6 И (by simp[hr]) (λv hv=>by
   rcases bj.mp hv with z|z
   ·E h3 v z
   ·rw[au.mp z,rl];W)
  R⟨rs',y4,y5,y6,by W,h3',?_⟩;V hb:Gen.Jv [aA (.fz (.lst (F.map D.str))),A1,aA (.ol (ms.map D.int)),aA (.ol (rs.map Z6)),aA (.fz (.int (s:Int))),x5,x6]=aA (.nx [aA (.fz (.lst (F.map D.str))),A1,aA (.ol (ms.map D.int)),aA (.ol ((rs++[r]).map Z6)),aA (.fz (.int (s:Int))),aA (.fz (.lst (r.map D.str))),z6]):=by rw[List.map_nil]at e;unfold Gen.Jv;G F.map D.str=FD;G ms.map D.int=MS;simp[a,m,<-hq,g1,et,Qy,e,zr,-Z0]
  E(Y3 (ds:=G8 (s+1) n) К hb).trans ih
ЛZd5(F:А Str)(hF:F.length=4)(c:Int):∃rs:А (А Str),rs.length<=3/\(∀r∈rs,r.length<=3)/\Gen.Ue [.lst (F.map D.str),.int c]=aA (.ol (rs.map Z6)):=by
 O⟨ms,en,hm,ml⟩:=Fk c 13 И;V a:=R7 (ms:=ms) (j:=0) И;generalize ms[0]'И=y at a;V y0:0<=y % 4:=gk _ Й;V y1:y % 4<4:=fj _ Й;obtain⟨q,hq⟩:∃q:Г,(q:Int)=y % 4:=⟨(y % 4).toNat,by W⟩
 O⟨rs,y4,y5,y6,rl,h3,e⟩:=Fo F hF (aA (.fz (.int c))) ms ml q 0 [] aB aB aB И rfl (λ_ h=>nomatch h);V g1:Tc (q:Int):=U9 И;V et:((q:Int)).toNat=q:=by W
 R⟨rs,by W,h3,?_⟩;rw[List.map_nil]at e;V en:Gen.Ys [.int c,.int 13]=_:=en;V a:L2.atI (ms.map D.int) 0=_:=a;unfold Gen.Ue Gen.Gg;G F.map D.str=FD;G ms.map D.int=MS;simp[en,a,<-hq,g1,et,Qy,e,-Z0]
end My
namespace My
open DL PySem TT TX
ЛZlx(r:А Str)(p:Str->Bool):(r.map λf=>D.bl (p f)).all D.isFlat=aC:=by rw[List.all_map];E List.all_eq_true.mpr λf hf=>rfl
ЛZuy(r:А Str)(p:Str->Bool):Pu (.bl aD) (r.map λf=>D.bl (p f))= !(r.all p):=by
 unfold Pu;induction r with
 |nil=>rfl
 |cons x r ih=>rw[a7,List.any_cons,ih,List.all_cons,Zkm];cases p x<;> simp
ЛZuz(r:А Str)(p:Str->Bool):B5 (.bl aD) (.lst (r.map λf=>D.bl (p f)))=aA (.fz (.bl (r.all p))):=by show(if D.isFlat (.bl aD)=aC/\(r.map λf=>D.bl (p f)).all D.isFlat=aC then aA (SV.fz (.bl (!Pu (.bl aD) (r.map λf=>D.bl (p f)))))else aB)=_;rw[Е ⟨rfl,Zlx r p⟩,Zuy,Bool.not_not]
ЛFp{fs ts:А Str}(hl:fs.length=ts.length)(hk:Yi∉fs)(kind f:Str):Yr (fs++[Yi]) (ts++[kind]) f=if f=Yi then aA kind else Yr fs ts f:=by
 unfold Yr;rw[List.zip_append hl,List.lookup_append];show((fs.zip ts).lookup f).or (List.lookup f [(Yi,kind)])=_;rw[List.lookup_cons];by_cases h:f=Yi
 ·subst h;V :(fs.zip ts).lookup Yi=aB:=by
   rcases h:(fs.zip ts).lookup Yi with _|v
   ·rfl
   ·O⟨l1,l2,e,_⟩:=List.lookup_eq_some_iff.mp h;E absurd (List.of_mem_zip (show(Yi,v)∈fs.zip ts by rw[e];simp)).1 hk
  rw[this];simp
 ·rw[Д h,beq_eq_false_iff_ne.mpr h];simp
section
variable(fs ts:А Str)(kind:Str)
МZu0:D->D
 | .str f=>.bl (decide (f=Yi)|| (Yr fs ts f).isSome)
 |_=>.non
ЛZd6(r:А Str)(hr:r.length<=100):
  Yb [.own,.cap 3,.acc] 2 (Zd 0) W1 Gen.Jy (r.map D.str) [aB,aA (.fz (.dK (Zz fs) (ts.map D.str))),aA (.ol [])]=aA [aB,aA (.fz (.dK (Zz fs) (ts.map D.str))),aA (.ol (r.map λf=>.bl (decide (f=Yi)|| (Yr fs ts f).isSome)))]:=by
 V c:=Of (te:=Gen.Jy) (f:=Zu0 fs ts) (c:=aA (.fz (.dK (Zz fs) (ts.map D.str)))) (j:=3) (r.map D.str) [] (λx hx zs=>by
  O⟨f,hf,rfl⟩:=aw.mp hx;V l:=(Uc f fs (ts.map D.str)).trans (Jr fs ts f);unfold Gen.Jy Zu0;G ts.map D.str=TS;G Zz fs=FS;by_cases h:f=Yi
  ·simp[h]
  ·simp[h,l,-look]) (by rw[aj];simp;W)
 rw[c,dq,bo];rfl
аmSt(A0 A1:Б SV)(o3:Б SV)(M:А D)(x5 x6 x7 x8:Б SV):Yq:=[A0,A1,aA (.fz (.str kind)),o3,aA (.ol M),x5,x6,x7,x8]
ЛNu(A0 A1 x5 x6:Б SV)(M:А D):∀(r vs:А Str) (x8:Б SV),(∀f∈r,f=Yi\/(Yr fs ts f).isSome)->vs.length+r.length<=100->∃y8,
  Z0 (Zd 8) Gen.Jz (r.map D.str) (mSt kind A0 A1 (aA (.fz (.dK (Zz fs) (ts.map D.str)))) M x5 x6 (aA (.ol (vs.map D.str))) x8)=
  aA (.nx (mSt kind A0 A1 (aA (.fz (.dK (Zz fs) (ts.map D.str)))) M x5 x6 (aA (.ol ((vs++r.map λf=>if f=Yi then kind else(Yr fs ts f).getD "").map D.str))) y8))
 | [],vs,x8,_,_=>⟨x8,by simp⟩
 |f::r,vs,x8,h,hl=>by
  rw[bf]at hl;O⟨y8,ih⟩:=Nu A0 A1 x5 x6 M r (vs++[if f=Yi then kind else(Yr fs ts f).getD ""]) (aA (.fz (.str f))) (λg hg=>h g (ar _ hg)) (by simp;W);R⟨y8,?_⟩;V l:=(Uc f fs (ts.map D.str)).trans (Jr fs ts f);V z:vs.length<PySem.sizeLine:=Z4 И;V hb:Gen.Jz (mSt kind A0 A1 (aA (.fz (.dK (Zz fs) (ts.map D.str)))) M x5 x6 (aA (.ol (vs.map D.str))) (aA (.fz (.str f))))=aA (.nx (mSt kind A0 A1 (aA (.fz (.dK (Zz fs) (ts.map D.str)))) M x5 x6 (aA (.ol ((vs++[if f=Yi then kind else(Yr fs ts f).getD ""]).map D.str))) (aA (.fz (.str f))))):=by
   V t1:∀a b:D,L2.atI [a,b] 1=aA b:=λ_ _=>rfl;V t0:∀a b:D,L2.atI [a,b] 0=aA a:=λ_ _=>rfl;unfold Gen.Jz mSt;G ts.map D.str=TS;G Zz fs=FS;by_cases e:f=Yi
   ·simp[e,t1,s2,z,-look]
   ·O⟨v,hv⟩:=Option.isSome_iff_exists.mp ((h f ag).resolve_left e);rw[hv]at l;simp[e,l,hv,t0,s2,z,-look]
  rw[de]at ih;E(Y3 К hb).trans ih
ЛZd7(hl:fs.length=ts.length)(hk:Yi∉fs)(A0 A1:Б SV)(M:А NK)(n:Г)(r:А Str)(hr:r.length<=100)(hM:M.length<=100)(x7 x8:Б SV):∃y7 y8,
  Gen.Qo (mSt kind A0 A1 (aA (.fz (.dK (Zz fs) (ts.map D.str)))) (M.map Zk) (aA (.fz (.int (n:Int)))) (aA (.fz (Z6 r))) x7 x8)=
  aA (.nx (mSt kind A0 A1 (aA (.fz (.dK (Zz fs) (ts.map D.str)))) ((M++(match r.mapM (Yr (fs++[Yi]) (ts++[kind]))with|some l=>[(.inr ((n:Int),l):NK)]|none=>[])).map Zk) (aA (.fz (.int (n:Int)))) (aA (.fz (Z6 r))) y7 y8)):=by
 V h1:=Zd6 fs ts r hr;V nz:=Zuz r λf=>decide (f=Yi)|| (Yr fs ts f).isSome;V z1:M.length<PySem.sizeLine:=Z4 И;V vk:=Fp hl hk kind;rw[Fh];by_cases h:∀f∈r,(Yr (fs++[Yi]) (ts++[kind]) f).isSome
 ·V h':∀f∈r,f=Yi\/(Yr fs ts f).isSome:=λf hf=>by
   V :=h f hf;rw[vk]at this;by_cases e:f=Yi
   ·E .inl e
   ·rw[Д e]at this;E .inr this
  O⟨y8,lo⟩:=Nu fs ts kind A0 A1 (aA (.fz (.int (n:Int)))) (aA (.fz (Z6 r))) (M.map Zk) r [] x8 h' (by simpa using hr);rw[Е h];V al:(r.all λf=>decide (f=Yi)|| (Yr fs ts f).isSome)=aC:=List.all_eq_true.mpr λf hf=>by
   rcases h' f hf with z|z
   ·simp[z]
   ·simp[z]
  rw[al]at nz;V em:(r.map λf=>if f=Yi then kind else(Yr fs ts f).getD "")=r.map λf=>(Yr (fs++[Yi]) (ts++[kind]) f).getD "":=f8 λf _=>by rw[vk];split<;> rfl
  rw[dq,em]at lo;R⟨aA (.ol ((r.map λf=>(Yr (fs++[Yi]) (ts++[kind]) f).getD "").map D.str)),y8,?_⟩;unfold Gen.Qo mSt;unfold mSt at lo;rw[b7];rw[show List.map D.str ([]:А Str)=[]from rfl]at lo;generalize r.map (λf=>(Yr (fs++[Yi]) (ts++[kind]) f).getD "")=R at*;G (r.map λf=>D.bl (decide (f=Yi)|| (Yr fs ts f).isSome))=BL;G ts.map D.str=TS;G Zz fs=FS;simp[h1,nz,lo,z1,s2,-Yb,-B5,-Z0];unfold Zk;simp
 ·rw[Д h];V al:(r.all λf=>decide (f=Yi)|| (Yr fs ts f).isSome)=aD:=by
   rw[Bool.eq_false_iff];R λz=>h λf hf=>?_;V :=List.all_eq_true.mp z f hf;rw[vk];by_cases e:f=Yi
   ·rw[Е e];rfl
   ·rw[Д e];simpa[e]using this
  rw[al]at nz;R⟨x7,x8,?_⟩;unfold Gen.Qo mSt;G (r.map λf=>D.bl (decide (f=Yi)|| (Yr fs ts f).isSome))=BL;G ts.map D.str=TS;G Zz fs=FS;simp[h1,nz,-Yb,-B5]
ЛAe(hl:fs.length=ts.length)(hk:Yi∉fs)(A0 A1:Б SV):∀(rs:А (А Str)) (n:Г) (M:А NK) (x5 x6 x7 x8:Б SV),(∀r∈rs,r.length<=100)->M.length+rs.length<=100->∃y5 y6 y7 y8,
  Z0 (Wf 2 (Zr (Zd 5) (Zr (Zd 6) Wh))) Gen.Qo (((rs.map Z6).zipIdx n).map λp=>D.tup [.int (p.2:Г),p.1]) (mSt kind A0 A1 (aA (.fz (.dK (Zz fs) (ts.map D.str)))) (M.map Zk) x5 x6 x7 x8)=
  aA (.nx (mSt kind A0 A1 (aA (.fz (.dK (Zz fs) (ts.map D.str)))) ((M++Qj (fs++[Yi]) (ts++[kind]) n rs).map Zk) y5 y6 y7 y8))
 | [],n,M,x5,x6,x7,x8,_,_=>⟨x5,x6,x7,x8,by simp[Qj]⟩
 |r::rs,n,M,x5,x6,x7,x8,hr,hM=>by
  rw[bf]at hM;O⟨z7,z8,t⟩:=Zd7 fs ts kind hl hk A0 A1 M n r (hr r ag) И x7 x8;O⟨y5,y6,y7,y8,ih⟩:=Ae hl hk A0 A1 rs (n+1) (M++(match r.mapM (Yr (fs++[Yi]) (ts++[kind]))with|some l=>[(.inr ((n:Int),l):NK)]|none=>[])) (aA (.fz (.int (n:Int)))) (aA (.fz (Z6 r))) z7 z8 (λq hq=>hr q (ar _ hq)) (by
   rw[az];cases r.mapM (Yr (fs++[Yi]) (ts++[kind]))<;> simp<;> W)
  R⟨y5,y6,y7,y8,?_⟩;rw[a7,List.zipIdx_cons,a7,Qj];rw[de]at ih;unfold Z0;rw[show(Wf 2 (Zr (Zd 5) (Zr (Zd 6) Wh))).run (.tup [.int (n:Г),Z6 r]) (mSt kind A0 A1 (aA (.fz (.dK (Zz fs) (ts.map D.str)))) (M.map Zk) x5 x6 x7 x8)=aA (mSt kind A0 A1 (aA (.fz (.dK (Zz fs) (ts.map D.str)))) (M.map Zk) (aA (.fz (.int (n:Int)))) (aA (.fz (Z6 r))) x7 x8)from by simp];dsimp only[ck];rw[t];E ih
end
ЛZd8(rs:А (А Str))(w:Wk)(ok:WkOk w)(hr:∀r∈rs,r.length<=100)(hn:rs.length<=100):Gen.Ug [w.d,.lst (rs.map Z6)]=aA (.ol ((w.marks rs).map Zk)):=by O⟨y5,y6,y7,y8,e⟩:=Ae w.fs w.ts w.kind ok.len ok.nk (aA (.fz w.d)) (aA (.fz (.lst (rs.map Z6)))) rs 0 [] aB aB aB aB hr (by simpa using hn);rw[dq]at e;V e2:Q7 (rs.map Z6)=(((rs.map Z6).zipIdx 0).map λp=>D.tup [.int (p.2:Г),p.1]):=rfl;unfold Gen.Ug Gen.Go;rw[<-e2]at e;unfold mSt at e;rw[show List.map Zk ([]:А NK)=[]from rfl]at e;T _=aA (SV.ol ((Qj (w.fs++[Yi]) (w.ts++[w.kind]) 0 rs).map Zk));unfold Wk.d Nn at*;G w.ts.map D.str=TS;G Zz w.fs=FS;G rs.map Z6=RS;G (Qj (w.fs++[Yi]) (w.ts++[w.kind]) 0 rs).map Zk=MS;simp[e,-Z0]
ЛNv(A0:Б SV):∀(xss:А (А D)) (acc:А D) (x2:Б SV),acc.length+xss.flatten.length<=1000->∃y2,
  Z0 (Zd 2) Gen.Ux (xss.map D.lst) [A0,aA (.ol acc),x2]=aA (.nx [A0,aA (.ol (acc++xss.flatten)),y2])
 | [],acc,x2,_=>⟨x2,by simp⟩
 |xs::xss,acc,x2,h=>by
  rw[List.flatten_cons,az]at h;O⟨y2,ih⟩:=Nv A0 xss (acc++xs) (aA (.fz (.lst xs))) (by rw[az];W);V z:acc.length+xs.length<=PySem.sizeLine:=Qq И;R⟨y2,?_⟩;V hb:Gen.Ux [A0,aA (.ol acc),aA (.fz (.lst xs))]=aA (.nx [A0,aA (.ol (acc++xs)),aA (.fz (.lst xs))]):=by unfold Gen.Ux;simp[z]
  rw[de]at ih;E(Y3 К hb).trans ih
ЛZip(xss:А (А D))(h:xss.flatten.length<=1000):Gen.We [.lst (xss.map D.lst)]=aA (.ol xss.flatten):=by O⟨y2,e⟩:=Nv (aA (.fz (.lst (xss.map D.lst)))) xss [] aB (by simpa using h);rw[dq]at e;unfold Gen.We Gen.R3;G xss.map D.lst=X;simp[e,-Z0]
ЛZcc(kss:А (А NK))(h:kss.flatten.length<=1000):Gen.We [.lst (kss.map λks=>.lst (ks.map Zk))]=aA (.ol (kss.flatten.map Zk)):=by
 V e:(kss.map λks=>D.lst (ks.map Zk))=(kss.map λks=>ks.map Zk).map D.lst:=by rw[bo];rfl
 rw[e,Zip _ (by rw[<-List.map_flatten,aj];E h),List.map_flatten]
ЛFq{ks out:А NK}(h:Cv ks)(nd:ks.Nodup)(hl:ks.length<64)(hm:∀x,x∈out↔x∈ks)(hs:out.Pairwise kLt):TX.C8 (ks.map Zk) (ks.map Zk)=aA (.ol (out.map Zk)):=by
 V nd':out.Nodup:=hs.imp fun{a b} z e=>by rw[e]at z;E gc _ z
 V pm:out.Perm ks:=(List.perm_ext_iff_of_nodup nd' nd).mpr hm;R Zb4 (L9 h nd) (by rw[aj];E hl) ⟨pm.map _,cu.mpr ?_⟩;R(g8.mp hs).imp fun{a b} ⟨ha,hb,z⟩=>?_;rw[Zb3 12 (h.one ((hm b).mp hb) ((hm a).mp ha))];E congrArg aA (Ж λy=>gc _ (List.lt_trans y z))
end My
namespace My
open DL PySem TT TX
аEV:=А Str×NK
МG5(evs:А EV)(p:А Str):А NK:=(evs.filter λe=>decide (e.1=p)).map (·.2)
structure Tl(evs:А EV)(Ks:А (А Str))(vs:А D):В where
 nd:Ks.Nodup
 len:Ks.length=vs.length
 mem:∀p,p∈Ks↔∃e∈evs,e.1=p
 get:∀p∈Ks,look (Ks.map L2.Wy) vs (L2.Wy p)=aA (.lst ((G5 evs p).map Zk))
 no:∀p,p∉Ks->look (Ks.map L2.Wy) vs (L2.Wy p)=aB
ЛTl.few{evs:А EV}{Ks:А (А Str)}{vs:А D}(h:Tl evs Ks vs):Ks.length<=evs.length:=by
 V :=b6 h.nd (l₂:=evs.map (·.1)) λp hp=>by O⟨e,he,rfl⟩:=(h.mem p).mp hp;E dh he
 simpa using this
ЛZiq{evs:А EV}{Ks:А (А Str)}{vs:А D}(h:Tl evs Ks vs){p:А Str}(hp:p∉Ks):G5 evs p=[]:=by unfold G5;rw[List.filter_eq_nil_iff.mpr λe he=>?_];rfl;V :=λz=>hp ((h.mem p).mpr ⟨e,he,z⟩);simpa using this
ЛTl.getD{evs:А EV}{Ks:А (А Str)}{vs:А D}(h:Tl evs Ks vs)(p:А Str):(look (Ks.map L2.Wy) vs (L2.Wy p)).getD (.lst [])= .lst ((G5 evs p).map Zk):=by
 by_cases hp:p∈Ks
 ·rw[h.get p hp];rfl
 ·rw[h.no p hp,Ziq h hp];rfl
ЛTl.put{evs:А EV}{Ks:А (А Str)}{vs:А D}(h:Tl evs Ks vs)(p:А Str)(nm:NK):∃Ks' vs',Y4 (Ks.map L2.Wy) vs (L2.Wy p) (.lst ((G5 evs p).map Zk++[Zk nm]))=(Ks'.map L2.Wy,vs')/\Tl (evs++[(p,nm)]) Ks' vs':=by
 V hm:L2.Wy p∈Ks.map L2.Wy↔p∈Ks:=⟨λz=>by O⟨a,ha,e⟩:=aw.mp z;rw[<-L2.Gx e];E ha,λz=>dh z⟩
 V hl:(Ks.map L2.Wy).length=vs.length:=by rw[aj];E h.len
 V e0:(Y4 (Ks.map L2.Wy) vs (L2.Wy p) (.lst ((G5 evs p).map Zk++[Zk nm]))).1=(if p∈Ks then Ks else Ks++[p]).map L2.Wy:=by
  unfold Y4;by_cases hp:p∈Ks
  ·rw[Е hp,Е (hm.mpr hp)]
  ·rw[Д hp,Д λz=>hp (hm.mp z),b7];rfl
 V lp:=λq=>Zh0 (L2.Wy p) (L2.Wy q) (.lst ((G5 evs p).map Zk++[Zk nm])) (Ks.map L2.Wy) vs hl;V pl:=Zlm (L2.Wy p) (.lst ((G5 evs p).map Zk++[Zk nm])) (Ks.map L2.Wy) vs hl;rw[e0,aj]at pl;rw[e0]at lp;V mem:∀q,q∈(if p∈Ks then Ks else Ks++[p])↔(q=p\/q∈Ks):=λq=>by
  by_cases hp:p∈Ks
  ·rw[Е hp];E⟨.inr,λz=>by rcases z with z|z;(· rw[z];E hp);E z⟩
  ·rw[Д hp];simp[or_comm]
 V tp:∀q,G5 (evs++[(p,nm)]) q=G5 evs q++if p=q then[nm]else[]:=λq=>by
  unfold G5;rw[List.filter_append,b7];by_cases e:p=q
  ·simp[e]
  ·simp[e]
 R⟨if p∈Ks then Ks else Ks++[p],_,Prod.ext e0 rfl,⟨?_,pl.1,λq=>?_,λq hq=>?_,λq hq=>?_⟩⟩
 ·by_cases hp:p∈Ks
  ·rw[Е hp];E h.nd
  ·rw[Д hp];E c9.mpr ⟨h.nd,by simp,λa ha b hb=>by simp at hb;subst hb;E λz=>hp (z▸ha)⟩
 ·rw[mem,h.mem];constructor
  ·rintro(rfl|⟨e,he,rfl⟩)
   ·E⟨_,bx _ ag,rfl⟩
   ·E⟨e,cf _ he,rfl⟩
  ·rintro⟨e,he,rfl⟩;rcases bj.mp he with z|z
   ·E .inr ⟨e,z,rfl⟩
   ·rw[au.mp z];E .inl rfl
 ·rw[lp q,tp];by_cases e:p=q
  ·subst e;rw[Е rfl,Е rfl,b7];rfl
  ·rw[Д λz=>e (L2.Gx z),Д e,List.append_nil];E h.get q (((mem q).mp hq).resolve_left λz=>e z.symm)
 ·V hq2:=λz=>hq ((mem q).mpr z);rw[lp q,Д λz=>hq2 (.inl (L2.Gx z).symm)];E h.no q λz=>hq2 (.inr z)
аSv(b:Str)(w:Wk):А EV:=(w.tri b).map λx=>([x.1,x.2.1],Je b w.key)
аqSt(A0 A1 A2:Б SV)(Ks:А (А Str))(vs:А D)(nm:NK)(x5 x6 x7:Б SV):Yq:=[A0,A1,A2,aA (.oT (Ks.map L2.Wy) vs),aA (.fz (Zk nm)),x5,x6,x7]
ЛZir{evs:А EV}{Ks:А (А Str)}{vs:А D}(T:Tl evs Ks vs)(hn:evs.length<=999)(A0 A1 A2:Б SV)(nm:NK)(fs ts:А Str)(x5:Б SV)(f v:Str)(hv:Yr fs ts f=aA v)(hf:f≠Os):∃Ks' vs',Tl (evs++[([f,v],nm)]) Ks' vs'/\
  Gen.Qb (qSt A0 A1 A2 Ks vs nm x5 (aA (.fz (.dK (Zz fs) (ts.map D.str)))) (aA (.fz (.str f))))=aA (.nx (qSt A0 A1 A2 Ks' vs' nm x5 (aA (.fz (.dK (Zz fs) (ts.map D.str)))) (aA (.fz (.str f))))):=by
 O⟨Ks',vs',e,T'⟩:=T.put [f,v] nm;R⟨Ks',vs',T',?_⟩;V l:=(Uc f fs (ts.map D.str)).trans (Jr fs ts f);rw[hv]at l;V g:=T.getD [f,v];V zl:vs.length<PySem.sizeLine:=Z4 (by V :=T.len;V :=T.few;W);V zz:((G5 evs [f,v]).map Zk).length+1<=PySem.sizeLine:=Qq (by
  rw[aj];unfold G5;rw[aj];V :=List.length_filter_le (λe:EV=>decide (e.1=[f,v])) evs;W)
 V z0:0<PySem.sizeLine:=Z4 И;unfold qSt Gen.Qb;rw[show L2.Wy [f,v]=[df f,df v]from rfl]at e g;G (G5 evs [f,v]).map Zk=L;G Ks.map L2.Wy=KS;G Ks'.map L2.Wy=KS';G ts.map D.str=TS;G Zz fs=FS;G Zk nm=NM;simp[hf,l,g,e,zl,zz,s1,s2,z0,-Y4,-look]
ЛFr(A0 A1 A2:Б SV)(nm:NK)(fs ts:А Str)(hl:fs.length=ts.length)(x5:Б SV):∀(xs:А Str) (evs:А EV) (Ks:А (А Str)) (vs:А D) (x7:Б SV),(∀x∈xs,x∈fs)->Tl evs Ks vs->evs.length+xs.length<=999->∃Ks' vs' y7,Tl (evs++(xs.filter λf=>decide (f≠Os)).map λf=>([f,(Yr fs ts f).getD ""],nm)) Ks' vs'/\
  Z0 (Zd 7) Gen.Qb (xs.map D.str) (qSt A0 A1 A2 Ks vs nm x5 (aA (.fz (.dK (Zz fs) (ts.map D.str)))) x7)=aA (.nx (qSt A0 A1 A2 Ks' vs' nm x5 (aA (.fz (.dK (Zz fs) (ts.map D.str)))) y7))
 | [],evs,Ks,vs,x7,_,T,_=>⟨Ks,vs,x7,by simpa using T,by simp⟩
 |x::xs,evs,Ks,vs,x7,h,T,hn=>by
  rw[bf]at hn;rw[List.filter_cons];by_cases hx:x=Os
  ·O⟨Ks',vs',y7,T',ih⟩:=Fr A0 A1 A2 nm fs ts hl x5 xs evs Ks vs (aA (.fz (.str x))) (λy hy=>h y (ar _ hy)) T И;R⟨Ks',vs',y7,by rw[Д (by simp[hx])];E T',?_⟩;V hb:Gen.Qb (qSt A0 A1 A2 Ks vs nm x5 (aA (.fz (.dK (Zz fs) (ts.map D.str)))) (aA (.fz (.str x))))=aA (.nx (qSt A0 A1 A2 Ks vs nm x5 (aA (.fz (.dK (Zz fs) (ts.map D.str)))) (aA (.fz (.str x))))):=by unfold Gen.Qb qSt;simp[hx]
   E(Y3 К hb).trans ih
  ·O⟨v,hv⟩:=Option.isSome_iff_exists.mp ((M8 fs ts x hl).mp (h x ag));O⟨Ks1,vs1,T1,hb⟩:=Zir T И A0 A1 A2 nm fs ts x5 x v hv hx;O⟨Ks',vs',y7,T',ih⟩:=Fr A0 A1 A2 nm fs ts hl x5 xs (evs++[([x,v],nm)]) Ks1 vs1 (aA (.fz (.str x))) (λy hy=>h y (ar _ hy)) T1 (by rw[az,fq];W);R⟨Ks',vs',y7,?_,(Y3 К hb).trans ih⟩;rw[Е (by simp[hx]),a7,hv];rw[de]at T';E T'
ЛZql(b:Str)(w:Wk)(ok:WkOk w):Sv b w=((w.fs.filter λf=>decide (f≠Os)).map λf=>([f,(Yr w.fs w.ts f).getD ""],Je b w.key))++[([Yi,w.kind],Je b w.key)]:=by
 unfold Sv Wk.tri Wk.at';rw[List.filter_append,b7,b7];V vk:=λf=>Fp ok.len ok.nk w.kind f;congr 1
 ·rw[bo];R f8 λf hf=>?_;V hf':=(List.mem_filter.mp hf).1;show(([f,w.val f],Je b w.key):EV)=_;unfold Wk.val Wk.at' Wk.vt;rw[vk,Д λz=>ok.nk (by rw[<-z];E hf')]
 ·rw[List.filter_cons,Е (by simpa using λz=>Zcb z.symm)];show[(([Yi,w.val Yi],Je b w.key):EV)]=_;unfold Wk.val Wk.at' Wk.vt;rw[vk,Е rfl];rfl
ЛZd9(b:Str)(ws:А Wk)(nd:(ws.map Wk.key).Nodup)(w:Wk)(hw:w∈ws)(ok:WkOk w){evs:А EV}{Ks:А (А Str)}{vs:А D}(T:Tl evs Ks vs)(hn:evs.length+12<=999)(A0 A2 x5 x6 x7:Б SV):∃Ks' vs' y5 y6 y7,Tl (evs++Sv b w) Ks' vs'/\
  Gen.Uy (qSt A0 (aA (.fz (Yl ws))) A2 Ks vs (Je b w.key) x5 x6 x7)=aA (.nx (qSt A0 (aA (.fz (Yl ws))) A2 Ks' vs' (Je b w.key) y5 y6 y7)):=by
 O⟨Ks1,vs1,y7,T1,lo⟩:=Fr A0 (aA (.fz (Yl ws))) A2 (Je b w.key) w.fs w.ts ok.len (aA (.fz (.str w.kind))) w.fs evs Ks vs x7 (λ_ h=>h) T (by V :=ok.few;W);O⟨Ks',vs',e,T'⟩:=T1.put [Yi,w.kind] (Je b w.key);R⟨Ks',vs',aA (.fz (.str w.kind)),aA (.fz (.dK (Zz w.fs) (w.ts.map D.str))),y7,by rw[Zql b w ok,<-de];E T',?_⟩;V l:=Cp nd hw;V ek:=Ty w.fs;V g:=T1.getD [Yi,w.kind];V few:=T1.few;V el:(evs++(w.fs.filter λf=>decide (f≠Os)).map λf=>(([f,(Yr w.fs w.ts f).getD ""],Je b w.key):EV)).length<=998:=by rw[az,aj];V :=List.length_filter_le (λf=>decide (f≠Os)) w.fs;V :=ok.few;W
 generalize (evs++(w.fs.filter λf=>decide (f≠Os)).map λf=>(([f,(Yr w.fs w.ts f).getD ""],Je b w.key):EV))=evs1 at*;V zl:vs1.length<PySem.sizeLine:=Z4 (by V :=T1.len;W);V zz:((G5 evs1 [Yi,w.kind]).map Zk).length+1<=PySem.sizeLine:=Qq (by
  rw[aj];unfold G5;rw[aj];V :=List.length_filter_le (λe:EV=>decide (e.1=[Yi,w.kind])) evs1;W)
 V z0:0<PySem.sizeLine:=Z4 И;V a1:L2.atI [D.str b,D.str w.key] 1=aA (.str w.key):=rfl;unfold qSt Gen.Uy;unfold qSt Yl at lo;unfold Yl;rw[show L2.Wy [Yi,w.kind]=[df Yi,df w.kind]from rfl]at e g;rw[show Zk (Je b w.key)= .tup [.str b,.str w.key]from rfl]at*;unfold Wk.d Nn at l;G ws.map Wk.d=WD;G Zz (ws.map Wk.key)=WK;G (G5 evs1 [Yi,w.kind]).map Zk=L;G Ks.map L2.Wy=KS;G Ks1.map L2.Wy=KS1;G Ks'.map L2.Wy=KS';G w.fs.map D.str=FD;G w.ts.map D.str=TS;G Zz w.fs=FS;simp[a1,l,ek,lo,g,e,zl,zz,s1,s2,z0,-Y4,-look,-Z0]
ЛXv(b:Str)(ws:А Wk)(nd:(ws.map Wk.key).Nodup)(ok:∀w∈ws,WkOk w)(A0 A2:Б SV):∀(us:А Wk) (evs:А EV) (Ks:А (А Str)) (vs:А D) (x4 x5 x6 x7:Б SV),(∀u∈us,u∈ws)->Tl evs Ks vs->evs.length+12*us.length<=900->∃Ks' vs' y4 y5 y6 y7,Tl (evs++us.flatMap (Sv b)) Ks' vs'/\
  Z0 (Zd 4) Gen.Uy ((us.map λu=>Je b u.key).map Zk) [A0,aA (.fz (Yl ws)),A2,aA (.oT (Ks.map L2.Wy) vs),x4,x5,x6,x7]=aA (.nx [A0,aA (.fz (Yl ws)),A2,aA (.oT (Ks'.map L2.Wy) vs'),y4,y5,y6,y7])
 | [],evs,Ks,vs,x4,x5,x6,x7,_,T,_=>⟨Ks,vs,x4,x5,x6,x7,by simpa using T,by simp⟩
 |u::us,evs,Ks,vs,x4,x5,x6,x7,h,T,hn=>by
  rw[bf]at hn;V hu:=h u ag;O⟨Ks1,vs1,z5,z6,z7,T1,hb⟩:=Zd9 b ws nd u hu (ok u hu) T И A0 A2 x5 x6 x7;V le:(Sv b u).length<=12:=by
   unfold Sv Wk.tri;rw[aj,aj];V :=List.length_filter_le (λf=>decide (f≠Os)) u.at';V h2:u.at'.length=u.fs.length+1:=by simp
   V :=(ok u hu).few;W
  O⟨Ks',vs',y4,y5,y6,y7,T',ih⟩:=Xv b ws nd ok A0 A2 us (evs++Sv b u) Ks1 vs1 (aA (.fz (Zk (Je b u.key)))) z5 z6 z7 (λv hv=>h v (ar _ hv)) T1 (by rw[az];W);rw[de]at T';E⟨Ks',vs',y4,y5,y6,y7,by rw[List.flatMap_cons];E T',(Y3 К hb).trans ih⟩
ЛNw{evs:А EV}{Ks:А (А Str)}{vs:А D}(T:Tl evs Ks vs):∀(xs:А Ad) (zs:А D),(∀t∈xs,[t.1,t.2.1]∈Ks/\TX.C8 ((G5 evs [t.1,t.2.1]).map Zk) ((G5 evs [t.1,t.2.1]).map Zk)=aA (.ol (t.2.2.map Zk)))->zs.length+xs.length<=1000->
  Yb [.own,.cap 3,.acc] 2 (Zd 0) W1 Gen.Uz (xs.map λt=>Zk (Yg t)) [aB,aA (.fz (.dT (Ks.map L2.Wy) vs)),aA (.ol zs)]=aA [aB,aA (.fz (.dT (Ks.map L2.Wy) vs)),aA (.ol (zs++xs.map Y5))]
 | [],zs,_,_=>by simp
 |t::xs,zs,h,hz=>by
  rw[bf]at hz;O⟨h1,h2⟩:=h t ag;V ih:=Nw T xs (zs++[Y5 t]) (λy hy=>h y (ar _ hy)) (by rw[az,fq];W);V l:=T.get _ h1;rw[de]at ih;V z1:zs.length<PySem.sizeLine:=Z4 И;V a0:L2.atI [D.str t.1,D.str t.2.1] 0=aA (.str t.1):=rfl;V a1:L2.atI [D.str t.1,D.str t.2.1] 1=aA (.str t.2.1):=rfl;V h3:Oe [.lst ((G5 evs [t.1,t.2.1]).map Zk)]=aA (.ol (t.2.2.map Zk)):=h2;V e1:∀q,Gen.Uz [aA (.fz (Zk (Yg t))),aA (.fz (.dT (Ks.map L2.Wy) vs)),aA (.ol q)]=aA (.tmp (.fz (Y5 t)),[aA (.fz (Zk (Yg t))),aA (.fz (.dT (Ks.map L2.Wy) vs)),aA (.ol q)]):=λq=>by unfold Gen.Uz Y5;rw[show Zk (Yg t)= .tup [.str t.1,.str t.2.1]from rfl];rw[show L2.Wy [t.1,t.2.1]=[df t.1,df t.2.1]from rfl]at l;G (G5 evs [t.1,t.2.1]).map Zk=L;G Ks.map L2.Wy=KS;G t.2.2.map Zk=TL;simp[l,h3,a0,a1,s3,-look]
  rw[a7,a7];G Ks.map L2.Wy=KS;G Y5 t=TD;unfold Yb;simp[e1,z1,-Yb];simpa[-Yb]using ih
ЛZcd{α:Type}{f:α->NK}(k:NK):∀l:А α,(l.map f).Nodup->(l.filter λx=>decide (f x=k)).length<=1
 | [],_=>by simp
 |x::l,nd=>by
  O⟨n1,n2⟩:=d7.mp nd;V ih:=Zcd k l n2;rw[List.filter_cons];by_cases e:f x=k
  ·rw[Е (by simpa using e),List.filter_eq_nil_iff.mpr λy hy=>?_]
   ·simp
   ·V :=λz:f y=k=>n1 (by rw[e,<-z];E dh hy);simpa using this
  ·rw[Д (by simpa using e)];E ih
ЛFs(b:Str)(p:А Str):∀us:А Wk,G5 (us.flatMap (Sv b)) p=us.flatMap λu=>G5 (Sv b u) p
 | []=>rfl
 |u::us=>by V ih:=Fs b p us;unfold G5 at*;rw[List.flatMap_cons,List.flatMap_cons,List.filter_append,b7,ih]
ЛSw(b:Str)(p:А Str)(u:Wk)(k:NK):k∈G5 (Sv b u) p↔k=Je b u.key/\∃x∈u.tri b,[x.1,x.2.1]=p:=by
 unfold G5 Sv;simp only[aw,List.mem_filter,decide_eq_true_eq];constructor
 ·rintro⟨e,⟨⟨x,hx,rfl⟩,h⟩,rfl⟩;E⟨rfl,x,hx,h⟩
 ·rintro⟨rfl,x,hx,h⟩;E⟨_,⟨⟨x,hx,rfl⟩,h⟩,rfl⟩
ЛZce{s t:Ad}(h:tLt s t):kLt (Yg s) (Yg t):=by
 O⟨a,b,l⟩:=s;O⟨c,d,m⟩:=t;V e:=(Ac a.cps.toList c.cps.toList (tE b.cps.toList++[]) (tE d.cps.toList++[])).mp h;show(1::(tE a.cps.toList++(1::(tE b.cps.toList++[0]))))<(1::(tE c.cps.toList++(1::(tE d.cps.toList++[0]))));rw[fu,Ac,fu,Ac];rw[Ac]at e;rcases e with e|⟨e1,e2⟩
 ·E .inr ⟨rfl,.inl e⟩
 ·rcases e2 with e2|⟨_,e2⟩
  ·E .inr ⟨rfl,.inr ⟨e1,.inr ⟨rfl,.inl e2⟩⟩⟩
  ·E absurd e2 (gc _)
ЛZis(b:Str)(ws:А Wk)(nd:(ws.map Wk.key).Nodup)(ok:∀w∈ws,WkOk w)(hp:∃ps:А NK,ps.length<64/\∀w∈ws,∀x∈w.tri b,Yg x∈ps)(us:А Wk)(hu:∀u∈us,u∈ws)(un:(us.map Wk.key).Nodup)(ul:us.length<=40)(T:А Ad)(ts:T.Pairwise tLt)
  (tm:∀f v,(∃l,(f,v,l)∈T)↔∃u∈us,∃l,(f,v,l)∈u.tri b) (tl:∀t∈T,t.2.2.Pairwise kLt/\∀k,k∈t.2.2↔∃u∈us,k=Je b u.key/\∃l,(t.1,t.2.1,l)∈u.tri b) (A:D):
  Gen.Oq [A,Yl ws,.lst ((us.map λu=>Je b u.key).map Zk)]=aA (.ol (T.map Y5)):=by
 O⟨Ks,vs,y4,y5,y6,y7,Tk,e⟩:=Xv b ws nd ok (aA (.fz A)) (aA (.fz (.lst ((us.map λu=>Je b u.key).map Zk)))) us [] [] [] aB aB aB aB hu ⟨cx,rfl,(λp=>by simp),(λp hp=>nomatch hp),λp _=>rfl⟩ (by simp;W);rw[dq]at Tk;V km:∀p,p∈Ks↔∃u∈us,∃x∈u.tri b,[x.1,x.2.1]=p:=λp=>by
  rw[Tk.mem];constructor
  ·rintro⟨e,he,rfl⟩;O⟨u,hu,he⟩:=List.mem_flatMap.mp he;O⟨x,hx,rfl⟩:=aw.mp he;E⟨u,hu,x,hx,rfl⟩
  ·rintro⟨u,hu,x,hx,rfl⟩;E⟨_,List.mem_flatMap.mpr ⟨u,hu,dh hx⟩,rfl⟩
 V kT:∀t∈T,[t.1,t.2.1]∈Ks:=λt ht=>by O⟨u,hu,l,hl⟩:=(tm t.1 t.2.1).mp ⟨t.2.2,ht⟩;E(km _).mpr ⟨u,hu,_,hl,rfl⟩
 V kl:Ks.length<64:=by
  O⟨ps,h1,h2⟩:=hp;R gv ?_ h1;V :=b6 (l₁:=Ks.map (gq:А Str->NK)) (cu.mpr (Tk.nd.imp fun{x y} h z=>h (gq.inj z))) (l₂:=ps) λk hk=>by O⟨p,hp,rfl⟩:=aw.mp hk;O⟨u,hu',x,hx,rfl⟩:=(km p).mp hp;E h2 u (hu u hu') x hx
  rwa [aj]at this
 V sk:TX.C8 ((Ks.map (gq:А Str->NK)).map Zk) ((Ks.map (gq:А Str->NK)).map Zk)=aA (.ol ((T.map Yg).map Zk)):=by
  R Fq (.inl λk hk=>?_) (cu.mpr (Tk.nd.imp fun{x y} h z=>h (gq.inj z))) (by rw[aj];E kl) (λk=>?_) (cu.mpr (ts.imp λh=>Zce h))
  ·O⟨p,hp,rfl⟩:=aw.mp hk;O⟨u,hu',x,hx,rfl⟩:=(km p).mp hp;E⟨_,_,rfl⟩
  ·constructor
   ·intro h;O⟨t,ht,rfl⟩:=aw.mp h;E dh (kT t ht)
   ·intro h;O⟨p,hp,rfl⟩:=aw.mp h;O⟨u,hu',x,hx,rfl⟩:=(km p).mp hp;O⟨l,hl⟩:=(tm x.1 x.2.1).mpr ⟨u,hu',x.2.2,hx⟩;E aw.mpr ⟨_,hl,rfl⟩
 V ek:(Ks.map L2.Wy).map C9=(Ks.map (gq:А Str->NK)).map Zk:=by rw[bo,bo];R f8 λl _=>?_;T D.tup ((l.map df).map Rq)=D.tup (l.map D.str);rw[bo];rfl
 V hs:Ie [.dT (Ks.map L2.Wy) vs]=aA (.ol ((T.map Yg).map Zk)):=by T TX.C8 ((Ks.map L2.Wy).map C9) ((Ks.map L2.Wy).map C9)=_;rw[ek];E sk
 V sl:∀t∈T,TX.C8 ((G5 (us.flatMap (Sv b)) [t.1,t.2.1]).map Zk) ((G5 (us.flatMap (Sv b)) [t.1,t.2.1]).map Zk)=aA (.ol (t.2.2.map Zk)):=λt ht=>by
  V mm:∀k,k∈G5 (us.flatMap (Sv b)) [t.1,t.2.1]↔∃u∈us,k=Je b u.key/\∃x∈u.tri b,[x.1,x.2.1]=[t.1,t.2.1]:=λk=>by rw[Fs,List.mem_flatMap];simp only[Sw]
  V nd2:(G5 (us.flatMap (Sv b)) [t.1,t.2.1]).Nodup:=by
   rw[Fs];R List.pairwise_flatMap.mpr ⟨λu hu'=>?_,(cu.mp un).imp fun{u u'} h x hx y hy z=>?_⟩
   ·V :=Zcd (f:=Yg) (.inl [t.1,t.2.1]) (u.tri b) (Nr b u (ok u (hu u hu')));V e2:(G5 (Sv b u) [t.1,t.2.1]).length=((u.tri b).filter λx=>decide (Yg x= .inl [t.1,t.2.1])).length:=by unfold G5 Sv;rw[aj,List.filter_map,aj];congr 1;R List.filter_congr λx _=>decide_eq_decide.mpr ?_;E⟨λz=>congrArg gq z,λz=>gq.inj z⟩
    rw[<-e2]at this
    match h:G5 (Sv b u) [t.1,t.2.1],this with
    | [],_=>E cx
    | [a],_=>simp
   ·rw[((Sw b _ u x).mp hx).1,((Sw b _ u' y).mp hy).1]at z;E h (by simpa[Je]using z)
  V ll:(G5 (us.flatMap (Sv b)) [t.1,t.2.1]).length<=us.length:=by
   V :=b6 nd2 (l₂:=us.map λu=>Je b u.key) λk hk=>by O⟨u,hu',e,_⟩:=(mm k).mp hk;rw[e];E aw.mpr ⟨u,hu',rfl⟩
   rwa [aj]at this
  R Fq (.inl λk hk=>?_) nd2 И (λk=>?_) (tl t ht).1
  ·O⟨u,hu',e,_⟩:=(mm k).mp hk;E⟨_,_,e⟩
  ·rw[(tl t ht).2,mm];constructor
   ·rintro⟨u,h1,h2,l,hl⟩;E⟨u,h1,h2,_,hl,rfl⟩
   ·rintro⟨u,h1,h2,x,hx,hxe⟩;V e1:=(List.cons.inj hxe).1;V e2:=(List.cons.inj (List.cons.inj hxe).2).1;E⟨u,h1,h2,x.2.2,by rw[<-e1,<-e2];E hx⟩
 V tlen:T.length<=64:=by
  V :=b6 (l₁:=T.map Yg) (Qz (cu.mpr (ts.imp λh=>Zce h):(T.map Yg).Pairwise kLt)) (l₂:=Ks.map (gq:А Str->NK)) λk hk=>by O⟨t,ht,rfl⟩:=aw.mp hk;E dh (kT t ht)
  rw[aj,aj]at this;W
 V c:=Nw Tk T [] (λt ht=>⟨kT t ht,sl t ht⟩) (by simp;W);rw[dq]at c;rw[show(T.map λt=>Zk (Yg t))=(T.map Yg).map Zk by rw[bo];rfl]at c;rw[List.map_nil]at e;unfold Gen.Oq Gen.R4;unfold Yl at*;G T.map Y5=TD;G (T.map Yg).map Zk=TP;G Ks.map L2.Wy=KS;G ws.map Wk.d=WD;G Zz (ws.map Wk.key)=WK;G (us.map λu=>Je b u.key).map Zk=UN;simp[e,hs,c,-Z0,-Yb]
end My
namespace My
open DL PySem TT TX
аW7(b x:Str):D:=.tup [.str b,.str x]
structure MkD(b:Str)(KS:А (А L2.Key))(VS:А D)(U:А Str)(M:Str->А NK):В where
 get:∀x∈U,look KS VS [df b,df x]=aA (.lst ((M x).map Zk))
 mr:∀x∈U,∀m∈M x,Sc m
ЛZqm{a c:NK}(ha:Sc a)(hc:Sc c):Wp 48 (Zk a) (Zk c)=aA (decide (a=c)):=by O⟨n,l,rfl⟩:=ha;O⟨m,l',rfl⟩:=hc;E Xj 45 (.mk n m l l')
ЛZnm{m:NK}{ks:А NK}(hm:Sc m)(hk:∀k∈ks,Sc k)(c:Bool)(hc:c=aC↔m∈ks):inN (Zk m) (.lst (ks.map Zk))=aA (.fz (.bl c)):=by rw[Zp3 λk h=>Zqm (hk k h) hm];congr 3;rw[Bool.eq_iff_iff,hc];simp
ЛZit(b x:Str)(vs:А Str):Ry (W7 b x) (.lst (vs.map (W7 b)))=aA (.fz (.bl (decide (x∉vs)))):=by
 V e:vs.map (W7 b)=(vs.map (Je b)).map Zk:=by rw[bo];rfl
 rw[e,show W7 b x=Zk (Je b x)from rfl,Zdp λk h=>by
  O⟨y,_,rfl⟩:=aw.mp h;E Xj 45 (.nm _ _)]
 congr 3;rw[Bool.eq_iff_iff];simp[Je];E⟨λh z=>h x z rfl,λh y hy e=>h (e▸hy)⟩
section
variable{b:Str}{KS:А (А L2.Key)}{VS:А D}{U:А Str}{M:Str->А NK}(H:MkD b KS VS U M)
include H
ЛZcf(A0 A1:Б SV)(o:Str)(ho:o∈U):∀(ms:А NK) (x4:Б SV),(∀m∈ms,Sc m)->
  ((∃m∈ms,m∈M o)/\Z0 (Zd 4) Gen.Qc (ms.map Zk) [A0,A1,aA (.fz (.dT KS VS)),aA (.fz (W7 b o)),x4]=aA (.rt (.fz (.bl aC))))\/
  ((¬∃m∈ms,m∈M o)/\∃y4,Z0 (Zd 4) Gen.Qc (ms.map Zk) [A0,A1,aA (.fz (.dT KS VS)),aA (.fz (W7 b o)),x4]=aA (.nx [A0,A1,aA (.fz (.dT KS VS)),aA (.fz (W7 b o)),y4]))
 | [],x4,_=>.inr ⟨λ⟨_,h,_⟩=>(nomatch h),x4,rfl⟩
 |m::ms,x4,h=>by
  V l:=H.get o ho;V ii:=Znm (h m ag) (H.mr o ho);V r0:(Zd 4).run (Zk m) [A0,A1,aA (.fz (.dT KS VS)),aA (.fz (W7 b o)),x4]=aA [A0,A1,aA (.fz (.dT KS VS)),aA (.fz (W7 b o)),aA (.fz (Zk m))]:=by simp
  by_cases hm:m∈M o
  ·R .inl ⟨⟨m,ag,hm⟩,Zb0 r0 ?_⟩;V i:=ii aC ⟨λ_=>hm,λ_=>rfl⟩;unfold Gen.Qc;G (M o).map Zk=MO;G Zk m=MM;simp[l,i,-look]
  ·V hb:Gen.Qc [A0,A1,aA (.fz (.dT KS VS)),aA (.fz (W7 b o)),aA (.fz (Zk m))]=aA (.nx [A0,A1,aA (.fz (.dT KS VS)),aA (.fz (W7 b o)),aA (.fz (Zk m))]):=by V i:=ii aD ⟨λz=>(nomatch z),λz=>absurd z hm⟩;unfold Gen.Qc;G (M o).map Zk=MO;G Zk m=MM;simp[l,i,-look]
   rcases Zcf A0 A1 o ho ms (aA (.fz (Zk m))) λk hk=>h k (ar _ hk)with⟨⟨k,hk,hk'⟩,e⟩|⟨n,y4,e⟩
   ·E .inl ⟨⟨k,ar _ hk,hk'⟩,(Y3 r0 hb).trans e⟩
   ·R .inr ⟨λ⟨k,hk,hk'⟩=>?_,y4,(Y3 r0 hb).trans e⟩;rcases bu.mp hk with z|z
    ·E hm (by rw[<-z];E hk')
    ·E n ⟨k,z,hk'⟩
ЛXw(A1:Б SV)(x:Str)(hx:x∈U):∀(os:А Str) (x3 x4:Б SV),(∀o∈os,o∈U)->
  ((∃o∈os,∃m∈M x,m∈M o)/\Z0 (Zd 3) Gen.Qd (os.map (W7 b)) [aA (.fz (W7 b x)),A1,aA (.fz (.dT KS VS)),x3,x4]=aA (.rt (.fz (.bl aC))))\/
  ((¬∃o∈os,∃m∈M x,m∈M o)/\∃y3 y4,Z0 (Zd 3) Gen.Qd (os.map (W7 b)) [aA (.fz (W7 b x)),A1,aA (.fz (.dT KS VS)),x3,x4]=aA (.nx [aA (.fz (W7 b x)),A1,aA (.fz (.dT KS VS)),y3,y4]))
 | [],x3,x4,_=>.inr ⟨λ⟨_,h,_⟩=>(nomatch h),x3,x4,rfl⟩
 |o::os,x3,x4,h=>by
  V l:=H.get x hx;V r0:(Zd 3).run (W7 b o) [aA (.fz (W7 b x)),A1,aA (.fz (.dT KS VS)),x3,x4]=aA [aA (.fz (W7 b x)),A1,aA (.fz (.dT KS VS)),aA (.fz (W7 b o)),x4]:=by simp
  rcases Zcf H (aA (.fz (W7 b x))) A1 o (h o ag) (M x) x4 (H.mr x hx)with⟨hm,e⟩|⟨hm,z4,e⟩
  ·R .inl ⟨⟨o,ag,hm⟩,Zb0 r0 ?_⟩;unfold Gen.Qd;G (M x).map Zk=MX;simp[l,e,-look,-Z0]
  ·V hb:Gen.Qd [aA (.fz (W7 b x)),A1,aA (.fz (.dT KS VS)),aA (.fz (W7 b o)),x4]=aA (.nx [aA (.fz (W7 b x)),A1,aA (.fz (.dT KS VS)),aA (.fz (W7 b o)),z4]):=by unfold Gen.Qd;G (M x).map Zk=MX;simp[l,e,-look,-Z0]
   rcases Xw A1 x hx os (aA (.fz (W7 b o))) z4 λk hk=>h k (ar _ hk)with⟨⟨k,hk,hk'⟩,e⟩|⟨n,y3,y4,e⟩
   ·E .inl ⟨⟨k,ar _ hk,hk'⟩,(Y3 r0 hb).trans e⟩
   ·R .inr ⟨λ⟨k,hk,hk'⟩=>?_,y3,y4,(Y3 r0 hb).trans e⟩;rcases bu.mp hk with z|z
    ·E hm (by rw[<-z];E hk')
    ·E n ⟨k,z,hk'⟩
ЛZiu(x:Str)(hx:x∈U)(os:А Str)(ho:∀o∈os,o∈U):∃v:Bool,(v=aC↔∃o∈os,∃m∈M x,m∈M o)/\Gen.Jo [W7 b x,.lst (os.map (W7 b)),.dT KS VS]=aA (.fz (.bl v)):=by
 rcases Xw H (aA (.fz (.lst (os.map (W7 b))))) x hx os aB aB ho with⟨h,e⟩|⟨h,y3,y4,e⟩
 ·R⟨aC,⟨λ_=>h,λ_=>rfl⟩,?_⟩;unfold Gen.Jo Gen.Cn;G os.map (W7 b)=OS;simp[e,-Z0]
 ·R⟨aD,⟨λz=>(nomatch z),λz=>absurd z h⟩,?_⟩;unfold Gen.Jo Gen.Cn;G os.map (W7 b)=OS;simp[e,-Z0]
ЛZea(A0 x3:Б SV)(x:Str)(hx:x∈U)(vs:А Str)(hv:∀v∈vs,v∈U)(hl:vs.length<=100):∃vs',((vs'=vs/\(x∈vs\/¬∃o∈vs,∃m∈M x,m∈M o))\/(vs'=vs++[x]/\x∉vs))/\
  Gen.Wx [A0,aA (.fz (.dT KS VS)),aA (.ol (vs.map (W7 b))),x3,aA (.fz (W7 b x))]=aA (.nx [A0,aA (.fz (.dT KS VS)),aA (.ol (vs'.map (W7 b))),x3,aA (.fz (W7 b x))]):=by
 V n:=Zit b x vs;O⟨v,hv',e⟩:=Ziu H x hx vs hv;V z:vs.length<PySem.sizeLine:=Z4 И;V z2:(vs.map (W7 b)).length<PySem.sizeLine:=by rw[aj];E z
 by_cases h:x∈vs
 ·R⟨vs,.inl ⟨rfl,.inl h⟩,?_⟩;rw[Ж (λz=>z h)]at n;unfold Gen.Wx;G vs.map (W7 b)=VN;simp[n]
 ·rw[decide_eq_true h]at n;cases v with
  |true=>R⟨vs++[x],.inr ⟨rfl,h⟩,?_⟩;rw[b7];unfold Gen.Wx;G vs.map (W7 b)=VN;simp[n,e,z2]
  |false=>R⟨vs,.inl ⟨rfl,.inr λz=>nomatch hv'.mpr z⟩,?_⟩;unfold Gen.Wx;G vs.map (W7 b)=VN;simp[n,e]
ЛTz(A0 x3:Б SV):∀(xs vs:А Str) (x4:Б SV),(∀x∈xs,x∈U)->(∀v∈vs,v∈U)->vs.Nodup->vs.length+xs.length<=100->∃t y4,(vs++t).Nodup/\(∀v∈vs++t,v∈U)/\t.length<=xs.length/\(∀x∈xs,(∃o∈vs,∃m∈M x,m∈M o)->x∈vs++t)/\
  Z0 (Zd 4) Gen.Wx (xs.map (W7 b)) [A0,aA (.fz (.dT KS VS)),aA (.ol (vs.map (W7 b))),x3,x4]=aA (.nx [A0,aA (.fz (.dT KS VS)),aA (.ol ((vs++t).map (W7 b))),x3,y4])
 | [],vs,x4,_,hv,nd,_=>⟨[],x4,by simpa using nd,by simpa using hv,a6 _,(λ_ h=>nomatch h),by simp⟩
 |x::xs,vs,x4,hx,hv,nd,hl=>by
  rw[bf]at hl;V hx0:=hx x ag;O⟨vs1,h1,hb⟩:=Zea H A0 x3 x hx0 vs hv И;V r0:(Zd 4).run (W7 b x) [A0,aA (.fz (.dT KS VS)),aA (.ol (vs.map (W7 b))),x3,x4]=aA [A0,aA (.fz (.dT KS VS)),aA (.ol (vs.map (W7 b))),x3,aA (.fz (W7 b x))]:=by simp
  rcases h1 with⟨rfl,h1⟩|⟨rfl,h1⟩
  ·O⟨t,y4,a1,a2,a3,a4,ih⟩:=Tz A0 x3 xs vs1 (aA (.fz (W7 b x))) (λy hy=>hx y (ar _ hy)) hv nd И;R⟨t,y4,a1,a2,by rw[bf];W,λy hy hn=>?_,(Y3 r0 hb).trans ih⟩;rcases bu.mp hy with z|z
   ·rw[z]at hn⊢;rcases h1 with q|q
    ·E cf _ q
    ·E absurd hn q
   ·E a4 y z hn
  ·O⟨t,y4,a1,a2,a3,a4,ih⟩:=Tz A0 x3 xs (vs++[x]) (aA (.fz (W7 b x))) (λy hy=>hx y (ar _ hy)) (λv h=>by
    rcases bj.mp h with z|z
    ·E hv v z
    ·rw[au.mp z];E hx0) (c9.mpr ⟨nd,by simp,λa ha c hc e=>h1 (by rw[<-au.mp hc,<-e];E ha)⟩) (by simp;W)
   rw[de]at a1 a2 a4 ih;R⟨[x]++t,y4,a1,a2,by simp;W,λy hy hn=>?_,(Y3 r0 hb).trans ih⟩;rcases bu.mp hy with z|z
   ·rw[z];simp
   ·O⟨o,ho,hm⟩:=hn;E a4 y z ⟨o,cf _ ho,hm⟩
ЛXx(nU:U.Nodup)(hU:U.length<=40)(con:∀vs:А Str,vs≠[]->(∀v∈vs,v∈U)->(∃x∈U,x∉vs)->∃x∈U,x∉vs/\∃o∈vs,∃m∈M x,m∈M o):∀(n s:Г) (vs:А Str) (x3 x4:Б SV),vs≠[]->(∀v∈vs,v∈U)->vs.Nodup->∃(vs':А Str) (y3 y4:Б SV),vs'.Nodup/\(∀v∈vs',v∈U)/\min U.length (vs.length+n)<=vs'.length/\
  Z0 (Zd 3) Gen.J1 (G8 s n) [aA (.fz (.lst (U.map (W7 b)))),aA (.fz (.dT KS VS)),aA (.ol (vs.map (W7 b))),x3,x4]=aA (.nx [aA (.fz (.lst (U.map (W7 b)))),aA (.fz (.dT KS VS)),aA (.ol (vs'.map (W7 b))),y3,y4])
 |0,s,vs,x3,x4,ne,hv,nd=>⟨vs,x3,x4,nd,hv,Nat.min_le_right _ _,rfl⟩
 |n+1,s,vs,x3,x4,ne,hv,nd=>by
  V vl:vs.length<=U.length:=b6 nd λv h=>hv v h;O⟨t,z4,a1,a2,a3,a4,e⟩:=Tz H (aA (.fz (.lst (U.map (W7 b))))) (aA (.fz (.int (s:Int)))) U vs x4 (λ_ h=>h) hv nd И;V grow:min U.length (vs.length+1)<=(vs++t).length:=by
   by_cases h:∃x∈U,x∉vs
   ·O⟨x,h1,h2,h3⟩:=con vs ne hv h;V :=a4 x h1 h3;rcases bj.mp this with z|z
    ·E absurd z h2
    ·V :=List.length_pos_of_mem z;rw[az];W
   ·V :U.length<=vs.length:=b6 nU λx hx=>Classical.byContradiction λz=>h ⟨x,hx,z⟩;rw[az];W
  V hb:Gen.J1 [aA (.fz (.lst (U.map (W7 b)))),aA (.fz (.dT KS VS)),aA (.ol (vs.map (W7 b))),aA (.fz (.int (s:Int))),x4]=aA (.nx [aA (.fz (.lst (U.map (W7 b)))),aA (.fz (.dT KS VS)),aA (.ol ((vs++t).map (W7 b))),aA (.fz (.int (s:Int))),z4]):=by unfold Gen.J1;G U.map (W7 b)=UD;G vs.map (W7 b)=VN;G (vs++t).map (W7 b)=VN';simp[e,-Z0]
  O⟨vs',y3,y4,b1,b2,b3,ih⟩:=Xx nU hU con n (s+1) (vs++t) (aA (.fz (.int (s:Int)))) z4 (by simp[ne]) a2 a1;E⟨vs',y3,y4,b1,b2,by W,(Y3 (ds:=G8 (s+1) n) К hb).trans ih⟩
ЛZeb(ne:U≠[])(nU:U.Nodup)(hU:U.length<=40)(con:∀vs:А Str,vs≠[]->(∀v∈vs,v∈U)->(∃x∈U,x∉vs)->∃x∈U,x∉vs/\∃o∈vs,∃m∈M x,m∈M o):Gen.Uh [.lst (U.map (W7 b)),.dT KS VS]=aA (.fz (.bl aC)):=by
 O⟨x,U',rfl⟩:=List.exists_cons_of_ne_nil ne;O⟨vs,y3,y4,h1,h2,h3,e⟩:=Xx H nU hU con (x::U').length 0 [x] aB aB К (λv hv=>by rw[au.mp hv];E ag) К;V vl:vs.length<=(x::U').length:=b6 h1 λv h=>h2 v h;V el:vs.length=(x::U').length:=by rw[fq]at h3;W
 V el2:(vs.map (W7 b)).length=((x::U').map (W7 b)).length:=by rw[aj,aj,el]
 V en:((x::U').map (W7 b)).length=(x::U').length:=aj _;V g1:Tc ((x::U').length:Int):=U9 И;V et:(((x::U').length:Int)).toNat=(x::U').length:=by W
 V a0:L2.atI ((x::U').map (W7 b)) 0=aA (W7 b x):=Ip _ 0 _ rfl;rw[show[x].map (W7 b)=[W7 b x]from rfl]at e;unfold Gen.Uh Gen.Gp;generalize (x::U').map (W7 b)=UD at*;G vs.map (W7 b)=VN;generalize (x::U').length=N at*;simp[a0,en,g1,et,Qy,e,el2,s1,-Z0]
end
end My
namespace My
open DL PySem TT TX
ЛZec(F:А Str)(hF:F.length=4)(b:Str)(ws:А Wk)(hw:∀w∈ws,WP F w):∃ps:А NK,ps.length<64/\∀w∈ws,∀x∈w.tri b,Yg x∈ps:=by
 R⟨(F.flatMap λf=>(c8 10).map λn=>(.inl [f,itT n]:NK))++[.inl [Yi,Zlu],.inl [Yi,Zlv]],?_,λw hw' x hx=>?_⟩
 ·rw[az,List.length_flatMap];V :=W6 (λf=>((c8 10).map λn=>(.inl [f,itT n]:NK)).length) 10 F λf _=>by simp
  simp only[bf,List.length_nil];W
 ·V p:=hw w hw';O⟨f,hf,rfl⟩:=aw.mp hx;O⟨hf,hn⟩:=List.mem_filter.mp hf;V hn:f≠Os:=by simpa using hn
  V vk:=Fp p.ok.len p.ok.nk w.kind f;show(.inl [f,w.val f]:NK)∈_;unfold Wk.val Wk.at' Wk.vt;rw[vk];by_cases e:f=Yi
  ·rw[Е e,e];R bx _ ?_;show(.inl [Yi,w.kind]:NK)∈_;rcases p.kd with z|z<;> rw[z]<;> simp
  ·rw[Д e];V hf:f∈w.fs:=(bj.mp hf).resolve_right λz=>e (au.mp z);O⟨v,hv⟩:=Option.isSome_iff_exists.mp ((M8 w.fs w.ts f p.ok.len).mp hf);rw[hv];O⟨ps,ow,e1,e2⟩:=p.all;unfold Yr at hv;rw[e1,e2,List.zip_map',show(ps.map λp=>(p.1,p.2))=ps by simp]at hv;O⟨l1,l2,el,_⟩:=List.lookup_eq_some_iff.mp hv;O⟨h1,n,h10,h2⟩:=ow.all (f,v) (by rw[el];simp);V h1:f∈F:=(bj.mp h1).resolve_right λz=>hn (au.mp z);V h2:v=itT n:=h2;R cf _ (List.mem_flatMap.mpr ⟨f,h1,aw.mpr ⟨n,cz.mpr h10,?_⟩⟩);rw[h2];rfl
аBh(b:Str)(w:Wk):А L2.Key:=[df b,df w.key]
аBr(rs:А (А Str))(w:Wk):D:=.lst ((w.marks rs).map Zk)
ЛZu1(b:Str){ws:А Wk}{w:Wk}(h:w.key∉ws.map Wk.key):Bh b w∉ws.map (Bh b):=λz=>by O⟨v,hv,e⟩:=aw.mp z;simp at e;E h (by rw[<-e];E dh hv)
ЛEc(b:Str)(rs:А (А Str)):∀ws:А Wk,(ws.map Wk.key).Nodup->∀w∈ws,look (ws.map (Bh b)) (ws.map (Br rs)) (Bh b w)=aA (Br rs w)
 | [],_,w,h=>nomatch h
 |v::ws,nd,w,h=>by
  O⟨n1,n2⟩:=d7.mp nd;show(if Bh b v=Bh b w then aA (Br rs v)else look (ws.map (Bh b)) (ws.map (Br rs)) (Bh b w))=_;rcases bu.mp h with z|z
  ·rw[z,Е rfl]
  ·rw[Д λe=>n1 (by simp at e;rw[e];E dh z)];E Ec b rs ws n2 w z
МZnn(L:А D)(o:Б SV):Prop:=o=aA (.ol L)\/o=aA (.fz (.lst L))
ЛZcg(b:Str)(rs:А (А Str))(hr:∀r∈rs,r.length<=100)(hn:rs.length<=100)(ws:А Wk)(nd:(ws.map Wk.key).Nodup)(ok:∀w∈ws,WkOk w)(hw:ws.length<=40)(A0 A1 A2 A3:Б SV)(R:Yq):∀(xs ds:А Wk) (o5 x8:Б SV),ds++xs=ws->Znn (rs.map Z6) o5->∃p5 y8,Znn (rs.map Z6) p5/\
  Z0 (Zd 8) Gen.Av ((xs.map Wk.key).map D.str) ([A0,A1,A2,A3,aA (.fz (.str b)),o5,aA (.oK (Zz (ws.map Wk.key)) (ws.map Wk.d)),aA (.oT (ds.map (Bh b)) (ds.map (Br rs))),x8]++R)=aA (.nx ([A0,A1,A2,A3,aA (.fz (.str b)),p5,aA (.oK (Zz (ws.map Wk.key)) (ws.map Wk.d)),aA (.oT (ws.map (Bh b)) (ws.map (Br rs))),y8]++R))
 | [],ds,o5,x8,e,h5=>⟨o5,x8,h5,by rw[List.append_nil]at e;rw[e];rfl⟩
 |w::xs,ds,o5,x8,e,h5=>by
  V hw':w∈ws:=by rw[<-e];simp
  V l:=Cp nd hw';V m:=Zd8 rs w (ok w hw') hr hn;V ke:w.key∉ds.map Wk.key:=λz=>by rw[<-e,b7]at nd;E(c9.mp nd).2.2 _ z w.key К rfl
  V pp:Y4 (ds.map (Bh b)) (ds.map (Br rs)) (Bh b w) (Br rs w)=((ds++[w]).map (Bh b),(ds++[w]).map (Br rs)):=by unfold Y4;rw[Д (Zu1 b ke)];simp
  V z:(ds.map (Br rs)).length<PySem.sizeLine:=Z4 (by
   rw[aj];V :=congrArg List.length e;rw[az]at this;W)
  O⟨p5,y8,hp,ih⟩:=Zcg b rs hr hn ws nd ok hw A0 A1 A2 A3 R xs (ds++[w]) (aA (.fz (.lst (rs.map Z6)))) (aA (.fz (.str w.key))) (by rw[<-e];simp) (.inr rfl);R⟨p5,y8,hp,?_⟩;V hb:Gen.Av ([A0,A1,A2,A3,aA (.fz (.str b)),o5,aA (.oK (Zz (ws.map Wk.key)) (ws.map Wk.d)),aA (.oT (ds.map (Bh b)) (ds.map (Br rs))),aA (.fz (.str w.key))]++R)=aA (.nx ([A0,A1,A2,A3,aA (.fz (.str b)),aA (.fz (.lst (rs.map Z6))),aA (.oK (Zz (ws.map Wk.key)) (ws.map Wk.d)),aA (.oT ((ds++[w]).map (Bh b)) ((ds++[w]).map (Br rs))),aA (.fz (.str w.key))]++R)):=by
   unfold Gen.Av;G (ds++[w]).map (Bh b)=K';G (ds++[w]).map (Br rs)=V';unfold Bh Br at pp z⊢;generalize ds.map (λw=>([df b,df w.key]:А L2.Key))=K0 at*;G ds.map (λw=>D.lst ((w.marks rs).map Zk))=V0;G (w.marks rs).map Zk=MS;G w.d=XD;G ws.map Wk.d=WD;G Zz (ws.map Wk.key)=WK;G rs.map Z6=RD;rcases h5 with rfl|rfl
   ·simp[l,m,pp,z,s2,-look,-Y4]
   ·simp[l,m,pp,z,s2,-look,-Y4]
  E(Y3 К hb).trans ih
ЛXy(b:Str)(ws:А Wk)(P:Wk->В):∀l:А NK,(∀k∈l,∃w∈ws,P w/\k=Je b w.key)->∃us:А Wk,l=us.map (λu=>Je b u.key)/\∀u∈us,u∈ws/\P u
 | [],_=>⟨[],rfl,λ_ h=>nomatch h⟩
 |k::l,h=>by
  O⟨w,hw,hp,rfl⟩:=h k ag;O⟨us,e,hu⟩:=Xy b ws P l λj hj=>h j (ar _ hj);R⟨w::us,by rw[e];rfl,λu h=>?_⟩;rcases bu.mp h with rfl|h
  ·E⟨hw,hp⟩
  ·E hu u h
ЛZch{ws:А Wk}(nd:(ws.map Wk.key).Nodup){v w:Wk}(hv:v∈ws)(hw:w∈ws)(e:v.key=w.key):v=w:=D4 nd hv hw e
structure HpG(b:Str)(rs:А (А Str))(ws:А Wk)(h:HP)(us:А Wk):В where
 ns:h.ns=us.map λu=>Je b u.key
 sub:∀u∈us,u∈ws
 nd:(us.map Wk.key).Nodup
 ne:us≠[]
 len:us.length<=ws.length
 srt:h.ns.Pairwise kLt
 ms:∀k,k∈h.ms↔∃u∈us,k∈u.marks rs
 mss:h.ms.Pairwise kLt
 tm:∀f v,(∃l,(f,v,l)∈h.fs)↔∃u∈us,∃l,(f,v,l)∈u.tri b
 tl:∀t∈h.fs,t.2.2.Pairwise kLt/\∀k,k∈t.2.2↔∃u∈us,k=Je b u.key/\∃l,(t.1,t.2.1,l)∈u.tri b
 ts:h.fs.Pairwise tLt
 con:∀vs:А Str,vs≠[]->(∀v∈vs,v∈us.map Wk.key)->(∃x∈us.map Wk.key,x∉vs)->∃u∈us,u.key∉vs/\∃o∈us,o.key∈vs/\∃m∈u.marks rs,m∈o.marks rs
ЛZag(b:Str)(rs:А (А Str))(ws:А Wk)(nd:(ws.map Wk.key).Nodup){a h:HP}(sa:a∈ws.map (Wz b rs))(m:IsMerge (Conn (· ∈ws.map (Wz b rs)) a) h):∃us,HpG b rs ws h us:=by
 V inS:∀g,Conn (· ∈ws.map (Wz b rs)) a g->∃w∈ws,g=Wz b rs w:=λg c=>by O⟨w,hw,e⟩:=aw.mp c.right;E⟨w,hw,e.symm⟩
 O⟨us,en,hu⟩:=Xy b ws (λw=>Conn (· ∈ws.map (Wz b rs)) a (Wz b rs w)) h.ns λk hk=>by O⟨g,c,hk⟩:=(m.ns_m k).mp hk;O⟨w,hw,rfl⟩:=inS g c;E⟨w,hw,c,au.mp hk⟩
 V back:∀w∈ws,Conn (· ∈ws.map (Wz b rs)) a (Wz b rs w)->w∈us:=λw hw c=>by
  V :Je b w.key∈h.ns:=(m.ns_m _).mpr ⟨_,c,au.mpr rfl⟩;rw[en]at this;O⟨u,hu',e⟩:=aw.mp this;V e:u.key=w.key:=by simpa[Je]using e
  rw[<-Zch nd (hu u hu').1 hw e];E hu'
 V und:(us.map Wk.key).Nodup:=by V :=Qz m.ns_s;rw[en]at this;E cu.mpr ((cu.mp this).imp fun{x y} h e=>h (by rw[e]))
 V tri1:∀(u:Wk) (x:Ad),x∈u.tri b->x.2.2=[Je b u.key]:=λu x hx=>by O⟨f,_,rfl⟩:=aw.mp hx;rfl
 R⟨us,en,λu h=>(hu u h).1,und,λz=>?_,?_,m.ns_s,λk=>?_,m.ms_s,λf v=>?_,λt ht=>⟨(m.fs_l t ht).1,λk=>?_⟩,m.fs_s,λvs ne hv ⟨y,hy,hyn⟩=>?_⟩
 ·O⟨w,hw,rfl⟩:=aw.mp sa;V :=back w hw (.here sa);rw[z]at this;C this
 ·V :=b6 und (l₂:=ws.map Wk.key) λx hx=>by O⟨u,hu',rfl⟩:=aw.mp hx;E dh (hu u hu').1
  simpa using this
 ·rw[m.ms_m];constructor
  ·rintro⟨g,c,hk⟩;O⟨w,hw,rfl⟩:=inS g c;E⟨w,back w hw c,hk⟩
  ·rintro⟨u,hu',hk⟩;E⟨_,(hu u hu').2,hk⟩
 ·rw[m.fs_m];constructor
  ·rintro⟨g,c,hk⟩;O⟨w,hw,rfl⟩:=inS g c;E⟨w,back w hw c,hk⟩
  ·rintro⟨u,hu',hk⟩;E⟨_,(hu u hu').2,hk⟩
 ·rw[(m.fs_l t ht).2];constructor
  ·rintro⟨g,c,l,hl,hk⟩;O⟨w,hw,rfl⟩:=inS g c;V e:=tri1 w _ hl;V e:l=[Je b w.key]:=e;rw[e]at hk;E⟨w,back w hw c,au.mp hk,l,hl⟩
  ·rintro⟨u,hu',rfl,l,hl⟩;V e:l=[Je b u.key]:=tri1 u _ hl;E⟨_,(hu u hu').2,l,hl,by rw[e];E au.mpr rfl⟩
 ·R Classical.byContradiction λno=>?_;O⟨v0,vs0,rfl⟩:=List.exists_cons_of_ne_nil ne;O⟨u0,hu0,e0⟩:=aw.mp (hv v0 ag);O⟨uy,huy,rfl⟩:=aw.mp hy;V cy:Conn (· ∈ws.map (Wz b rs)) (Wz b rs u0) (Wz b rs uy):=(hu u0 hu0).2.symm.trans (hu uy huy).2;V cl:∀{g:HP},Conn (· ∈ws.map (Wz b rs)) (Wz b rs u0) g->∃u∈us,u.key∈v0::vs0/\g=Wz b rs u:=fun{g} c=>by
   induction c with
   |here _=>E⟨u0,hu0,by rw[e0];E ag,rfl⟩
   | @step g c' cg hc sh ih=>
    O⟨u,hu',hk,rfl⟩:=ih;O⟨w,hw,rfl⟩:=aw.mp hc;V cw:Conn (· ∈ws.map (Wz b rs)) a (Wz b rs w):=.step (hu u hu').2 hc sh;V hwu:=back w hw cw;R⟨w,hwu,Classical.byContradiction λz=>?_,rfl⟩;O⟨t,t1,t2⟩:=sh;V t1:t∈[Je b u.key]++u.marks rs:=t1;V t2:t∈[Je b w.key]++w.marks rs:=t2;rcases bj.mp t1 with q1|q1
    ·V q1:=au.mp q1;rcases bj.mp t2 with q2|q2
     ·V q2:=au.mp q2;rw[q1]at q2;V :u.key=w.key:=by simpa[Je]using q2
      E z (by rw[<-this];E hk)
     ·O⟨j,l,e,_⟩:=Gw _ _ _ _ t q2;rw[q1]at e;C e
    ·rcases bj.mp t2 with q2|q2
     ·V q2:=au.mp q2;O⟨j,l,e,_⟩:=Gw _ _ _ _ t q1;rw[q2]at e;C e
     ·E no ⟨w,hwu,z,u,hu',hk,t,q2,q1⟩
  O⟨u,hu',hk,e⟩:=cl cy;V :Je b uy.key=Je b u.key:=by V :=congrArg HP.ns e;E(List.cons.inj this).1
  V :uy.key=u.key:=by simpa[Je]using this
  E hyn (by rw[this];E hk)
end My
namespace My
open DL PySem TT TX
МmOf(rs:А (А Str))(ws:А Wk)(x:Str):А NK:=((ws.find? λw=>decide (w.key=x)).map λw=>w.marks rs).getD []
ЛEd(rs:А (А Str)){ws:А Wk}(nd:(ws.map Wk.key).Nodup){w:Wk}(h:w∈ws):mOf rs ws w.key=w.marks rs:=by
 unfold mOf;cases e:ws.find? λv=>decide (v.key=w.key)with
 |none=>E absurd (List.find?_eq_none.mp e w h) К
 |some v=>have h1:=List.find?_some e;V h2:=List.mem_of_find?_eq_some e;rw[Zch nd h2 h (by simpa using h1)];rfl
ЛSx(rs:А (А Str))(w:Wk):∀m∈w.marks rs,Sc m:=λm hm=>by O⟨j,l,e,_⟩:=Gw _ _ _ _ m hm;E⟨j,l,e⟩
МZu2(KS:А (А L2.Key))(VS:А D):D->D
 | .tup [.str a,.str c]=>(look KS VS [df a,df c]).getD .non
 |_=>.non
ЛZah(b:Str)(rs:А (А Str))(ws:А Wk)(nd:(ws.map Wk.key).Nodup)(us:А Wk)(hu:∀u∈us,u∈ws)(hl:us.length<=100):
  Yb [.own,.cap 7,.acc] 2 (Zd 0) W1 Gen.G2 ((us.map λu=>Je b u.key).map Zk) [aB,aA (.fz (.dT (ws.map (Bh b)) (ws.map (Br rs)))),aA (.ol [])]=aA [aB,aA (.fz (.dT (ws.map (Bh b)) (ws.map (Br rs)))),aA (.ol (us.map (Br rs)))]:=by
 V g:∀u∈us,Zu2 (ws.map (Bh b)) (ws.map (Br rs)) (Zk (Je b u.key))=Br rs u:=λu h=>by show(look (ws.map (Bh b)) (ws.map (Br rs)) (Bh b u)).getD .non=_;rw[Ec b rs ws nd u (hu u h)];rfl
 V c:=Of (te:=Gen.G2) (f:=Zu2 (ws.map (Bh b)) (ws.map (Br rs))) (c:=aA (.fz (.dT (ws.map (Bh b)) (ws.map (Br rs))))) (j:=7) ((us.map λu=>Je b u.key).map Zk) [] (λd hd zs=>by
  O⟨k,hk,rfl⟩:=aw.mp hd;O⟨u,hu',rfl⟩:=aw.mp hk;V l:look (ws.map (Bh b)) (ws.map (Br rs)) [df b,df u.key]=_:=Ec b rs ws nd u (hu u hu');rw[g u hu'];unfold Gen.G2;rw[show Zk (Je b u.key)= .tup [.str b,.str u.key]from rfl];G ws.map (Bh b)=KS;G ws.map (Br rs)=VS;simp[l,-look]) (by simp;W)
 rw[c,dq,bo,bo];congr 6;E f8 λu h=>g u h
ЛNx(SN:А NK)(hS:∀k∈SN,Sc k):∀ms:А NK,(∀m∈ms,Sc m/\m∉SN)->
  Yb [.own,.cap 10,.acc] 2 (Zd 0) Gen.Ax Gen.Zb8 (ms.map Zk) [aB,aA (.fz (.lst (SN.map Zk))),aA (.ol [])]=aA [aB,aA (.fz (.lst (SN.map Zk))),aA (.ol [])]
 | [],_=>by simp
 |m::ms,h=>by
  V ih:=Nx SN hS ms λk hk=>h k (ar _ hk);O⟨h1,h2⟩:=h m ag;V i:=Znm h1 hS aD ⟨λz=>(nomatch z),λz=>absurd z h2⟩;V e0:Gen.Ax [aA (.fz (Zk m)),aA (.fz (.lst (SN.map Zk))),aA (.ol [])]=aA (aD,[aA (.fz (Zk m)),aA (.fz (.lst (SN.map Zk))),aA (.ol [])]):=by unfold Gen.Ax;G SN.map Zk=SD;G Zk m=MM;simp[i]
  rw[a7];G SN.map Zk=SD;G Zk m=MM;unfold Yb;simp[e0,-Yb];simpa[-Yb]using ih
ЛZed(b:Str)(rs:А (А Str))(hrs:rs.length<=3)(ws:А Wk)(nd:(ws.map Wk.key).Nodup)(ok:∀w∈ws,WkOk w)(hw:ws.length<=12)(hp:∃ps:А NK,ps.length<64/\∀w∈ws,∀x∈w.tri b,Yg x∈ps)
  (h:HP) (us:А Wk) (G:HpG b rs ws h us) (SN:А NK) (hS:∀k∈SN,Sc k) (hd:∀m∈h.ms,m∉SN) (hl:SN.length<=900) (A0 A1 A2 A3 A5 A8 A9 A16 x12 x13 x14 x15 o7:Б SV) (h7:o7=aA (.oT (ws.map (Bh b)) (ws.map (Br rs)))\/o7=aA (.fz (.dT (ws.map (Bh b)) (ws.map (Br rs))))):∃y12 y13 y14 y15,
  Gen.Ay [A0,A1,A2,A3,aA (.fz (.str b)),A5,aA (.fz (Yl ws)),o7,A8,A9,aA (.ol (SN.map Zk)),aA (.fz (Ye h)),x12,x13,x14,x15,A16]=
  aA (.nx [A0,A1,A2,A3,aA (.fz (.str b)),A5,aA (.fz (Yl ws)),aA (.fz (.dT (ws.map (Bh b)) (ws.map (Br rs)))),A8,A9,aA (.ol ((SN++h.ms).map Zk)),aA (.fz (Ye h)),y12,y13,y14,y15,A16]):=by
 V ul:=G.len;V nm:∀k∈h.ns,∃(x:Str) (l:А Str),k= .inl (x::l):=λk hk=>by rw[G.ns]at hk;O⟨u,_,rfl⟩:=aw.mp hk;E⟨b,[u.key],rfl⟩
 V mm:∀k∈h.ms,Sc k:=λk hk=>by O⟨u,_,hk⟩:=(G.ms k).mp hk;E Sx rs u k hk
 V nl:h.ns.length<=12:=by rw[G.ns,aj];W
 V c1:=Zah b rs ws nd us G.sub И;rw[<-G.ns]at c1;V fl:(us.map λu=>u.marks rs).flatten.length<=36:=by rw[List.length_flatten,bo];V :=W6 (List.length∘λu:Wk=>u.marks rs) 3 us λu _=>du (G4 _ _ rs 0) hrs;W
 V fk:=Zcc (us.map λu=>u.marks rs) И;rw[bo]at fk;V fk:Gen.We [.lst (us.map (Br rs))]=_:=fk;V mf:∀k,k∈(us.map λu=>u.marks rs).flatten↔∃u∈us,k∈u.marks rs:=λk=>by rw[List.mem_flatten];E⟨λ⟨l,hl,hk⟩=>let⟨u,hu,e⟩:=aw.mp hl;⟨u,hu,by rw[e];E hk⟩,λ⟨u,hu,hk⟩=>⟨_,dh hu,hk⟩⟩
 V sd:Bo [.lst ((us.map λu=>u.marks rs).flatten.map Zk)]=aA (.ol (h.ms.map Zk)):=(L1 _).trans (Zh4 (.inr λk hk=>by
  O⟨u,_,hk⟩:=(mf k).mp hk;E Sx rs u k hk) И (λk=>by rw[G.ms,mf]) G.mss)
 V ml:h.ms.length<=36:=du (b6 (Qz G.mss) λk hk=>(mf k).mpr ((G.ms k).mp hk)) fl;V sn:Oe [.lst (h.ns.map Zk)]=aA (.ol (h.ns.map Zk)):=Fq (.inl nm) (Qz G.srt) И (λk=>Iff.rfl) G.srt;V e1:Wp 48 (.lst (h.ns.map Zk)) (.lst (h.ns.map Zk))=aA aC:=O0 44 _ λk hk=>.inl (nm k hk);V e2:Wp 48 (.lst (h.ms.map Zk)) (.lst (h.ms.map Zk))=aA aC:=O0 44 _ λk hk=>.inr (mm k hk);V e3:Wp 48 (.lst (h.fs.map Y5)) (.lst (h.fs.map Y5))=aA aC:=M0 47 _ λx hx=>by O⟨t,ht,rfl⟩:=aw.mp hx;E Sd 42 t λk hk=>by O⟨u,_,e,_⟩:=((G.tl t ht).2 k).mp hk;E⟨b,[u.key],e⟩
 V lt:=Zis b ws nd ok hp us G.sub G.nd И h.fs G.ts G.tm G.tl (.str b);rw[<-G.ns]at lt;V H:MkD b (ws.map (Bh b)) (ws.map (Br rs)) (us.map Wk.key) (mOf rs ws):=⟨λx hx=>by
  O⟨u,hu,rfl⟩:=aw.mp hx;rw[Ed rs nd (G.sub u hu)];E Ec b rs ws nd u (G.sub u hu),λx hx=>by
  O⟨u,hu,rfl⟩:=aw.mp hx;rw[Ed rs nd (G.sub u hu)];E Sx rs u⟩
 V hg:=Zeb H (by simpa using G.ne) G.nd (by simp;W) λvs ne hv hx=>by O⟨u,hu,hk,o,ho,hok,m,h1,h2⟩:=G.con vs ne hv hx;E⟨u.key,dh hu,hk,o.key,hok,m,by rw[Ed rs nd (G.sub u hu)];E h1,by rw[Ed rs nd (G.sub o ho)];E h2⟩
 rw[show(us.map Wk.key).map (W7 b)=(us.map λu=>Je b u.key).map Zk by rw[bo,bo];rfl,<-G.ns]at hg;V c2:=Nx SN hS h.ms λm hm=>⟨mm m hm,hd m hm⟩
 V z:(SN.map Zk).length+(h.ms.map Zk).length<=PySem.sizeLine:=Qq (by rw[aj,aj];W);V e4:Wp 48 (.lst []) (.lst [])=aA aC:=rfl;R⟨aA (.fz (.lst (h.ns.map Zk))),aA (.fz (.lst (h.ms.map Zk))),aA (.fz (.lst (h.fs.map Y5))),aA (.ol (h.ms.map Zk)),?_⟩;rw[b7];V h15:Yv 15 (Yf Bo (Zc (Yx 1 Gen.We (Zc (Uo [.own,.cap 7,.acc] 2 (Ub (Za 12)) (Zd 0) W1 Gen.G2) Zj)) Zj)) [A0,A1,A2,A3,aA (.fz (.str b)),A5,aA (.fz (Yl ws)),o7,A8,A9,aA (.ol (SN.map Zk)),aA (.fz (Ye h)),aA (.fz (.lst (h.ns.map Zk))),aA (.fz (.lst (h.ms.map Zk))),aA (.fz (.lst (h.fs.map Y5))),x15,A16]=
   aA (.nx [A0,A1,A2,A3,aA (.fz (.str b)),A5,aA (.fz (Yl ws)),aA (.fz (.dT (ws.map (Bh b)) (ws.map (Br rs)))),A8,A9,aA (.ol (SN.map Zk)),aA (.fz (Ye h)),aA (.fz (.lst (h.ns.map Zk))),aA (.fz (.lst (h.ms.map Zk))),aA (.fz (.lst (h.fs.map Y5))),aA (.ol (h.ms.map Zk)),A16]):=by
  clear H mf nm mm G hd hS hp ok;unfold Ye Yl at*;G (us.map λu=>u.marks rs).flatten.map Zk=FM;G us.map (Br rs)=UV;G h.ns.map Zk=HN;G h.ms.map Zk=HM;G h.fs.map Y5=HF;G SN.map Zk=SD;G ws.map (Bh b)=KS;G ws.map (Br rs)=VS;rcases h7 with rfl|rfl
  ·simp[c1,fk,sd,-Yb]
  ·simp[c1,fk,sd,-Yb]
 unfold Gen.Ay;G Yv 15 (Yf Bo (Zc (Yx 1 Gen.We (Zc (Uo [.own,.cap 7,.acc] 2 (Ub (Za 12)) (Zd 0) W1 Gen.G2) Zj)) Zj))=S15;unfold Ye Yl at*;clear H mf nm mm G hd hS hp ok h7 c1 fk sd;G h.ns.map Zk=HN;G h.ms.map Zk=HM;G h.fs.map Y5=HF;G SN.map Zk=SD;G ws.map (Bh b)=KS;G ws.map (Br rs)=VS;G ws.map Wk.d=WD;G Zz (ws.map Wk.key)=WK;simp[h15,sn,e1,e2,e3,e4,lt,hg,c2,z,-Yb,-Wp]
end My
namespace My
open DL PySem TT TX
ЛFt(b:Str)(rs:А (А Str))(hrs:rs.length<=3)(ws:А Wk)(nd:(ws.map Wk.key).Nodup)(ok:∀w∈ws,WkOk w)(hw:ws.length<=12)(hp:∃ps:А NK,ps.length<64/\∀w∈ws,∀x∈w.tri b,Yg x∈ps)(A0 A1 A2 A3 A5 A8 A9 A16:Б SV):∀(hs:А HP) (SN:А NK) (o7 x11 x12 x13 x14 x15:Б SV),(∀h∈hs,∃us,HpG b rs ws h us)->hs.Pairwise (λh h'=>∀m∈h.ms,m∉h'.ms)->(∀k∈SN,Sc k/\∀h∈hs,k∉h.ms)->SN.length+36*hs.length<=900->(o7=aA (.oT (ws.map (Bh b)) (ws.map (Br rs)))\/o7=aA (.fz (.dT (ws.map (Bh b)) (ws.map (Br rs)))))->∃p7 y10 y11 y12 y13 y14 y15,
  Z0 (Zd 11) Gen.Ay (hs.map Ye) [A0,A1,A2,A3,aA (.fz (.str b)),A5,aA (.fz (Yl ws)),o7,A8,A9,aA (.ol (SN.map Zk)),x11,x12,x13,x14,x15,A16]=aA (.nx [A0,A1,A2,A3,aA (.fz (.str b)),A5,aA (.fz (Yl ws)),p7,A8,A9,y10,y11,y12,y13,y14,y15,A16])
 | [],SN,o7,x11,x12,x13,x14,x15,_,_,_,_,_=>⟨o7,_,x11,x12,x13,x14,x15,rfl⟩
 |h::hs,SN,o7,x11,x12,x13,x14,x15,hh,pw,hS,hl,h7=>by
  rw[bf]at hl;O⟨us,G⟩:=hh h ag;O⟨p1,p2⟩:=List.pairwise_cons.mp pw;O⟨z12,z13,z14,z15,hb⟩:=Zed b rs hrs ws nd ok hw hp h us G SN (λk hk=>(hS k hk).1) (λm hm hk=>(hS m hk).2 h ag hm) И A0 A1 A2 A3 A5 A8 A9 A16 x12 x13 x14 x15 o7 h7;V mm:∀k∈h.ms,Sc k:=λk hk=>by O⟨u,_,hk⟩:=(G.ms k).mp hk;E Sx rs u k hk
  V ml:h.ms.length<=36:=by
   V f:(us.map λu=>u.marks rs).flatten.length<=36:=by rw[List.length_flatten,bo];V :=W6 (List.length∘λu:Wk=>u.marks rs) 3 us λu _=>du (G4 _ _ rs 0) hrs;V :=G.len;W
   R du (b6 (Qz G.mss) λk hk=>?_) f;O⟨u,hu,hk⟩:=(G.ms k).mp hk;E List.mem_flatten.mpr ⟨_,dh hu,hk⟩
  O⟨p7,y10,y11,y12,y13,y14,y15,ih⟩:=Ft b rs hrs ws nd ok hw hp A0 A1 A2 A3 A5 A8 A9 A16 hs (SN++h.ms) (aA (.fz (.dT (ws.map (Bh b)) (ws.map (Br rs))))) (aA (.fz (Ye h))) z12 z13 z14 z15 (λg hg=>hh g (ar _ hg)) p2 (λk hk=>by
   rcases bj.mp hk with z|z
   ·E⟨(hS k z).1,λg hg=>(hS k z).2 g (ar _ hg)⟩
   ·E⟨mm k z,λg hg=>p1 g hg k z⟩) (by rw[az];W) (.inr rfl)
  E⟨p7,y10,y11,y12,y13,y14,y15,(Y3 К hb).trans ih⟩
ЛFu(ws:А Wk)(nd:(ws.map Wk.key).Nodup)(A0 A1 A2 A3 A4 A5:Б SV)(A7 A9 A10 A11 A12 A13 A14 A15:Б SV):∀(xs ds:А Wk) (x8:Б SV),(∀x∈xs,x∈ws)->((ds++xs).map Wk.key).Nodup->ds.length+xs.length<=100->∃y8,
  Z0 (Zd 8) Gen.Az ((xs.map Wk.key).map D.str) [A0,A1,A2,A3,A4,A5,aA (.fz (Yl ws)),A7,x8,A9,A10,A11,A12,A13,A14,A15,aA (.oK (Zz (ds.map Wk.key)) (ds.map Wk.d))]=aA (.nx [A0,A1,A2,A3,A4,A5,aA (.fz (Yl ws)),A7,y8,A9,A10,A11,A12,A13,A14,A15,aA (.oK (Zz ((ds++xs).map Wk.key)) ((ds++xs).map Wk.d))])
 | [],ds,x8,_,_,_=>⟨x8,by simp⟩
 |w::xs,ds,x8,h,nx,hl=>by
  rw[bf]at hl;V l:=Cp nd (h w ag);V ke:w.key∉ds.map Wk.key:=λz=>by rw[b7]at nx;E(c9.mp nx).2.2 _ z w.key К rfl
  V pp:Y4 (Zz (ds.map Wk.key)) (ds.map Wk.d) (df w.key) w.d=(Zz ((ds++[w]).map Wk.key),(ds++[w]).map Wk.d):=by rw[Mx,Mz ke];simp
  V z:(ds.map Wk.d).length<PySem.sizeLine:=Z4 (by rw[aj];W);O⟨y8,ih⟩:=Fu ws nd A0 A1 A2 A3 A4 A5 A7 A9 A10 A11 A12 A13 A14 A15 xs (ds++[w]) (aA (.fz (.str w.key))) (λx hx=>h x (ar _ hx)) (by rw[de];E nx) (by simp;W);R⟨y8,?_⟩;V hb:Gen.Az [A0,A1,A2,A3,A4,A5,aA (.fz (Yl ws)),A7,aA (.fz (.str w.key)),A9,A10,A11,A12,A13,A14,A15,aA (.oK (Zz (ds.map Wk.key)) (ds.map Wk.d))]=aA (.nx [A0,A1,A2,A3,A4,A5,aA (.fz (Yl ws)),A7,aA (.fz (.str w.key)),A9,A10,A11,A12,A13,A14,A15,aA (.oK (Zz ((ds++[w]).map Wk.key)) ((ds++[w]).map Wk.d))]):=by unfold Gen.Az Yl;G (ds++[w]).map Wk.d=D1;G Zz ((ds++[w]).map Wk.key)=K1;G ds.map Wk.d=D0;G Zz (ds.map Wk.key)=K0;G w.d=XD;G ws.map Wk.d=WD;G Zz (ws.map Wk.key)=WK;simp[l,pp,z,-look,-Y4]
  rw[de]at ih;E(Y3 К hb).trans ih
ЛZee(ns:А Int):∃ms:А Int,Pj (ns.map D.int) (aA 5) (aA 17)=ms.map D.int/\ms.length<=12:=by
 O⟨ms,e,_⟩:=Zll ns (aA 5) (aA 17);R⟨ms,e,?_⟩;V h:(Pj (ns.map D.int) (aA 5) (aA 17)).length<=12:=by unfold Pj;rw[List.length_take];V e1:HT.sIx (ns.map D.int).length (ns.map D.int).length (aA 17)=min 17 (ns.map D.int).length:=HT.sIx_nat _ _ 17;V e2:HT.sIx (ns.map D.int).length 0 (aA 5)=min 5 (ns.map D.int).length:=HT.sIx_nat _ _ 5;W
 rw[e,aj]at h;E h
ЛZci:∀(hs:А HP) (zs:А D),zs.length+hs.length<=1000->
  Yb [.own,.acc] 1 (Zd 0) W1 Gen.Aw (hs.map Ye) [aB,aA (.ol zs)]=aA [aB,aA (.ol (zs++hs.map λh=>.lst (h.ns.map Zk)))]
 | [],zs,_=>by simp
 |h::hs,zs,hl=>by
  rw[bf]at hl;V ih:=Zci hs (zs++[.lst (h.ns.map Zk)]) (by simp;W);rw[de]at ih;V z:zs.length<PySem.sizeLine:=Z4 И;V a0:∀a b c:D,L2.atI [a,b,c] 0=aA a:=λ_ _ _=>rfl;V e1:∀q,Gen.Aw [aA (.fz (Ye h)),aA (.ol q)]=aA (.tmp (.fz (.lst (h.ns.map Zk))),[aA (.fz (Ye h)),aA (.ol q)]):=λq=>by unfold Gen.Aw Ye;G h.ns.map Zk=HN;G h.ms.map Zk=HM;G h.fs.map Y5=HF;simp[a0]
  rw[a7,a7];G Ye h=HD;G D.lst (h.ns.map Zk)=HN;unfold Yb;simp[e1,z,-Yb];simpa[-Yb]using ih
ЛShw.rev{rs:А (А Str)}{ws:А Wk}(s:Shw rs ws):Shw rs ws.reverse:=
 ⟨by rw[List.map_reverse];E(List.reverse_perm _).nodup_iff.mpr s.nd,λw h=>s.ok w (List.mem_reverse.mp h),by rw[List.length_reverse];E s.few,by rw[List.length_reverse];E s.m64,s.rl,s.rn⟩
Лlaw_true(ns:А Int)(hn:ns.length<=63):Gen.M4 [.lst (ns.map D.int)]=aA (.fz (.bl aC)):=by
 O⟨ms,em,hms⟩:=Zee ns;O⟨c0,hc0⟩:=M6 ns 0;O⟨c1,hc1⟩:=M6 ns 1;O⟨c2,hc2⟩:=M6 ns 2;O⟨c3,hc3⟩:=M6 ns 3;O⟨c4,hc4⟩:=M6 ns 4;V m0:=Zib c0 16807;V m1:=Zib c1 16807;V m2:=Zib c2 39373;V p0:=Sq c0 16807;V p1:=Sq c1 16807;V p2:=Sq c2 39373;G c0 % 2147483647*16807 % 2147483647=X0;G c1 % 2147483647*16807 % 2147483647=X1;G c2 % 2147483647*39373 % 2147483647=X2;O⟨ks,k0,kl,knd,kn⟩:=Fb X0 p0 ms.length И;O⟨F,f0,fl,fnd,fn⟩:=Fb X1 p1 4 И;O⟨bs,b0,bl,_,_⟩:=Fb X2 p2 1 И;obtain⟨b,rfl⟩:∃b,bs=[b]:=by
  match bs,bl with
  | [b],_=>E⟨b,rfl⟩
 O⟨rs,rl,ro,r0⟩:=Zd5 F fl c3;V w0':0<=c4 % 9:=gk _ Й;V w1':c4 % 9<9:=fj _ Й;obtain⟨wd,hwd⟩:∃wd:Г,(wd:Int)=2+c4 % 9:=⟨(2+c4 % 9).toNat,by W⟩
 O⟨ws,wk,wp,w0⟩:=Zd4 F fl fnd fn ms wd И И ks И И knd;rw[hwd]at w0;V wl:ws.length<=12:=by V :=congrArg List.length wk;rw[aj]at this;W
 V nd:(ws.map Wk.key).Nodup:=by rw[wk];E knd
 V ok:∀w∈ws,WkOk w:=λw h=>(wp w h).ok;V shw:Shw rs ws:=⟨nd,ok,by W,by V :=Nat.mul_le_mul wl rl;W,λr hr=>by V :=ro r hr;W,by W⟩
 V pf:=Zec F fl b ws wp;O⟨out,P,oo,ol,q0⟩:=pool_of b rs ws shw pf;O⟨out2,P2,_,_,q2⟩:=pool_of b rs ws.reverse shw.rev (by
  O⟨ps,h1,h2⟩:=pf;E⟨ps,h1,λw h=>h2 w (List.mem_reverse.mp h)⟩)
 V e2:out2=out:=P2.uniq P λa=>by rw[List.map_reverse,List.mem_reverse]
 subst e2;V hg:∀h∈out2,∃us,HpG b rs ws h us:=λh hh=>by O⟨a,sa,m⟩:=P.each h hh;E Zag b rs ws nd sa m
 V ap:out2.Pairwise λh h'=>∀m∈h.ms,m∉h'.ms:=(Fj P).imp fun{h h'} z m h1 h2=>z m (bx _ h1) (bx _ h2);V ap':out2.Pairwise λh h'=>∀x∈h.ns,∀y∈h'.ns,x≠y:=(Fj P).imp fun{h h'} z x hx y hy e=>z x (cf _ hx) (by rw[e];E cf _ hy);V so:Oe [.lst (out2.map Ye)]=aA (.ol (out2.map Ye)):=Zh7 oo (cu.mpr (P.sorted.imp λh e=>by rw[e]at h;E gc _ h)) И (.refl _) (P.sorted.imp λh=>Zb7 h);V ep:Wp 48 (.lst (out2.map Ye)) (.lst (out2.map Ye))=aA aC:=Zh5 40 _ oo;V nn:∀k,k∈(out2.map HP.ns).flatten↔k∈ws.map λw=>Je b w.key:=λk=>by
  rw[List.mem_flatten];constructor
  ·rintro⟨l,hl,hk⟩;O⟨h,hh,rfl⟩:=aw.mp hl;O⟨us,G⟩:=hg h hh;rw[G.ns]at hk;O⟨u,hu,rfl⟩:=aw.mp hk;E aw.mpr ⟨u,G.sub u hu,rfl⟩
  ·intro hk;O⟨w,hw,rfl⟩:=aw.mp hk;O⟨h,hh,m⟩:=P.all (Wz b rs w) (dh hw);E⟨h.ns,dh hh,(m.ns_m _).mpr ⟨_,.here (dh hw),au.mpr rfl⟩⟩
 V nf:(out2.map HP.ns).flatten.Nodup:=List.pairwise_flatten.mpr ⟨λl hl=>by
  O⟨h,hh,rfl⟩:=aw.mp hl;O⟨us,G⟩:=hg h hh;E Qz G.srt,cu.mpr ap'⟩
 V nw:(ws.map λw=>Je b w.key).Nodup:=cu.mpr ((cu.mp nd).imp fun{x y} h e=>h (by simpa[Je]using e));V fl2:(out2.map HP.ns).flatten.length<=12:=by V :=b6 nf λk hk=>(nn k).mp hk;rw[aj]at this;W
 V isw:∀k∈ws.map λw=>Je b w.key,isN k:=λk hk=>by O⟨w,_,rfl⟩:=aw.mp hk;E⟨b,[w.key],rfl⟩
 O⟨R,r1,r2⟩:=Su (.inl isw);V sf:Oe [.lst ((out2.map HP.ns).flatten.map Zk)]=aA (.ol (R.map Zk)):=Fq (.inl λk hk=>isw k ((nn k).mp hk)) nf И (λk=>by rw[r2,nn]) r1;V ek:(ws.map (Bh b)).map C9=(ws.map λw=>Je b w.key).map Zk:=by rw[bo,bo];rfl
 V sw:Ie [.dT (ws.map (Bh b)) (ws.map (Br rs))]=aA (.ol (R.map Zk)):=by T TX.C8 ((ws.map (Bh b)).map C9) ((ws.map (Bh b)).map C9)=_;rw[ek];E Fq (.inl isw) nw (by rw[aj];W) r2 r1
 V er:Wp 48 (.lst (R.map Zk)) (.lst (R.map Zk))=aA aC:=O0 44 _ λk hk=>.inl (isw k ((r2 k).mp hk));V nc:=Zci out2 [] (by simp;W);rw[dq]at nc;V fk:=Zcc (out2.map HP.ns) И;rw[bo]at fk;V fk:Gen.We [.lst (out2.map λh=>.lst (h.ns.map Zk))]=_:=fk;V hb:L2.atI [D.str b] 0=aA (.str b):=rfl;V k0:Gen.Wa [.int X0,.int ((ms.map D.int).length:Int)]=aA (.ol (ks.map D.str)):=by rw[aj];E k0
 V b0:Gen.Wa [.int X2,.int 1]=aA (.ol [.str b]):=b0;V f0:Gen.Wa [.int X1,.int 4]=aA (.ol (F.map D.str)):=f0;V hc0:Gen.Z2 [.lst (ns.map D.int),.int 0]=aA (.fz (.int c0)):=hc0;V hc1:Gen.Z2 [.lst (ns.map D.int),.int 1]=aA (.fz (.int c1)):=hc1;V hc2:Gen.Z2 [.lst (ns.map D.int),.int 2]=aA (.fz (.int c2)):=hc2;V hc3:Gen.Z2 [.lst (ns.map D.int),.int 3]=aA (.fz (.int c3)):=hc3;V hc4:Gen.Z2 [.lst (ns.map D.int),.int 4]=aA (.fz (.int c4)):=hc4;O⟨p5,y8,h5,l1⟩:=Zcg b rs shw.rl (by V :=shw.rn;W) ws nd ok И (aA (.fz (.lst (ns.map D.int)))) (aA (.fz (.lst (ms.map D.int)))) (aA (.fz (.lst (ks.map D.str)))) (aA (.fz (.lst (F.map D.str)))) [aB,aB,aB,aB,aB,aB,aB,aB] ws [] (aA (.ol (rs.map Z6))) aB rfl (.inl rfl);rw[wk]at l1;O⟨p7,y10,y11,y12,y13,y14,y15,l2⟩:=Ft b rs rl ws nd ok wl pf (aA (.fz (.lst (ns.map D.int)))) (aA (.fz (.lst (ms.map D.int)))) (aA (.fz (.lst (ks.map D.str)))) (aA (.fz (.lst (F.map D.str)))) (aA (.fz (.lst (rs.map Z6)))) y8 (aA (.fz (.lst (out2.map Ye)))) aB out2 [] (aA (.oT (ws.map (Bh b)) (ws.map (Br rs)))) aB aB aB aB aB hg ap (λ_ h=>nomatch h) (by simp;W) (.inl rfl);V key2:(ws.reverse.map Wk.key).map D.str=(ks.map D.str).reverse:=by rw[List.map_reverse,wk,List.map_reverse]
 O⟨y8',l3⟩:=Fu ws nd (aA (.fz (.lst (ns.map D.int)))) (aA (.fz (.lst (ms.map D.int)))) (aA (.fz (.lst (ks.map D.str)))) (aA (.fz (.lst (F.map D.str)))) (aA (.fz (.str b))) (aA (.fz (.lst (rs.map Z6)))) p7 (aA (.fz (.lst (out2.map Ye)))) y10 y11 y12 y13 y14 y15 ws.reverse [] y8 (λx h=>List.mem_reverse.mp h) (by simpa using(List.reverse_perm _).nodup_iff.mpr nd) (by simp;W);rw[key2,dq]at l3;V ep2:=ep;rw[show Zz (([]:А Wk).map Wk.key)=[]from rfl,show([]:А Wk).map Wk.d=[]from rfl]at l3;rw[show([]:А NK).map Zk=[]from rfl]at l2;rw[show([]:А Wk).map (Bh b)=[]from rfl,show([]:А Wk).map (Br rs)=[]from rfl]at l1;unfold Yl at q0 q2 l2 l3;V hwd':2+c4 % 9=(wd:Int):=hwd.symm;rw[<-hwd]at w0;clear shw hn hms kl kn fl fnd fn bl ro wp p0 p1 p2 hg ap ap' nn nf nw fl2 isw r1 r2 P P2 oo pf knd nd ok key2 ek;simp only[List.cons_append,dq]at l1;rw[wk]at*;G out2.map Ye=OUT;G (out2.map HP.ns).flatten.map Zk=FN;G (out2.map λh=>D.lst (h.ns.map Zk))=ON;G R.map Zk=RN;G rs.map Z6=RD;G ws.map (Bh b)=KS;G ws.map (Br rs)=VS;G ws.reverse.map Wk.d=WD2;G Zz (ws.reverse.map Wk.key)=WK2;G ws.map Wk.d=WD;G Zz ks=WK;G ks.map D.str=KD;G F.map D.str=FD;G ms.map D.int=MD;G ns.map D.int=ND;V h9:Yv 9 (Yx 3 Gen.Q2 (Zc (Za 4) (Zc (Za 6) (Zc (Za 5) Zj)))) [aA (.fz (.lst ND)),aA (.fz (.lst MD)),aA (.fz (.lst KD)),aA (.fz (.lst FD)),aA (.fz (.str b)),p5,aA (.oK WK WD),aA (.oT KS VS),y8,aB,aB,aB,aB,aB,aB,aB,aB]=aA (.nx [aA (.fz (.lst ND)),aA (.fz (.lst MD)),aA (.fz (.lst KD)),aA (.fz (.lst FD)),aA (.fz (.str b)),aA (.fz (.lst RD)),aA (.fz (.dK WK WD)),aA (.oT KS VS),y8,aA (.ol OUT),aB,aB,aB,aB,aB,aB,aB]):=by
  rcases h5 with rfl|rfl
  ·simp[q0]
  ·simp[q0]
 V hT:Gen.Ea [aA (.fz (.lst ND)),aA (.fz (.lst MD)),aA (.fz (.lst KD)),aA (.fz (.lst FD)),aA (.fz (.str b)),aA (.fz (.lst RD)),aA (.fz (.dK WK WD)),aA (.oT KS VS),y8,aA (.ol OUT),aB,aB,aB,aB,aB,aB,aB]=aA (.rt (.fz (.bl aC))):=by unfold Gen.Ea;simp[so,ep,nc,fk,sf,sw,er,l2,l3,q2,-Z0,-Yb,-Wp]
 unfold Gen.M4 Gen.Zh9;G Yv 9 (Yx 3 Gen.Q2 (Zc (Za 4) (Zc (Za 6) (Zc (Za 5) Zj))))=S9;G Gen.Ea=TL;simp[em,hc0,hc1,hc2,hc3,hc4,m0,m1,m2,k0,f0,b0,hb,r0,hwd',w0,l1,h9,hT,-Z0]
end My
def PySem.W.Fast.tw5713935694845789414:=()
def PySem.W.Fast.tw8970409203146837515:=()
def PySem.W.Fast.tw9466363077607173206:=()
def PySem.W.Fast.tw17589913321525156733:=()
def PySem.W.Fast.tw12259029408597393950:=()
def PySem.W.Fast.tw6223215100350126214:=()
def PySem.W.Fast.tw10463812359900168734:=()
def PySem.W.Fast.tw15688872291456778185:=()
def PySem.W.Fast.tw2843235979907493656:=()
def PySem.W.Fast.tw9448353023056410006:=()
def PySem.W.Fast.tw14996113452759456843:=()
def PySem.W.Fast.tw1500459649613081786:=()
def PySem.W.Fast.tw12468392935453073393:=()
def PySem.W.Fast.tw12730196162655760997:=()
def PySem.W.Fast.tw4853900993400666059:=()
def PySem.W.Fast.tw5529604917895718131:=()
def PySem.W.Fast.tw302877458599441399:=()
def PySem.W.Fast.tw17786492813826723782:=()
def PySem.W.Fast.tw5018175385806214292:=()
def PySem.W.Fast.tw7172256992374601949:=()
def PySem.W.Fast.tw5394566622719793502:=()
def PySem.W.Fast.tw13446499232874169423:=()
def PySem.W.Fast.tw8342355751021932375:=()
def PySem.W.Fast.tw9027506452272466191:=()
def PySem.W.Fast.tw15844817517556436278:=()
def PySem.W.Fast.tw5700999879441009307:=()
def PySem.W.Fast.tw12999397304494943843:=()
def PySem.W.Fast.tw17689918770517345368:=()
def PySem.W.Fast.tw18097082852505350260:=()
def PySem.W.Fast.tw18326456090474379572:=()
def PySem.W.Fast.tw2477752550642224605:=()
def PySem.W.Fast.tw12425360904945370680:=()
def PySem.W.Fast.tw6212307826191068878:=()
def PySem.W.Fast.tw188217784476452680:=()
def PySem.W.Fast.tw11530525684082073768:=()
def PySem.W.Fast.tw15850401771998139151:=()
def PySem.W.Fast.tw18400618238350795135:=()
def PySem.W.Fast.tw12748998000623965416:=()
def PySem.W.Fast.tw13562341943073647855:=()
def PySem.W.Fast.tw14217261711219641151:=()
def PySem.W.Fast.tw16468152813818087053:=()
def PySem.W.Fast.tw15912391958040524094:=()
def PySem.W.Fast.tw13646536622319466723:=()
def PySem.W.Fast.tw8006347336840702237:=()
def PySem.W.Fast.tw12545172908051961028:=()
def PySem.W.Fast.tw9746215116993139862:=()
def PySem.W.Fast.tw5148235987220226136:=()
def PySem.W.Fast.tw14190471094664844815:=()
def PySem.W.Fast.tw14490763953383253337:=()
def PySem.W.Fast.tw17078410393764266636:=()
def PySem.W.Fast.tw7484211040509651967:=()
def PySem.W.Fast.tw15774192169779348600:=()
def PySem.W.Fast.tw7141078313819780883:=()
def PySem.W.Fast.tw14798727636410334885:=()
def PySem.W.Fast.tw7319011422946698536:=()
def PySem.W.Fast.tw3156634347532131882:=()
def PySem.W.Fast.tw6288844889053334376:=()
def PySem.W.Fast.tw4674967837419025652:=()
def PySem.W.Fast.tw10540516497528791927:=()
def PySem.W.Fast.tw17385825833508224167:=()
def PySem.W.Fast.tw6368714737689278516:=()
def PySem.W.Fast.tw14414459244743427973:=()
def PySem.W.Fast.tw84935456396792722:=()
def PySem.W.Fast.tw1825120282626789090:=()
def PySem.W.Fast.tw3348020231408147982:=()
def PySem.W.Fast.tw8790592086713392506:=()
def PySem.W.Fast.tw17220405000825946734:=()
def PySem.W.Fast.tw2884831043783515270:=()
def PySem.W.Fast.tw2625124795906766541:=()
def PySem.W.Fast.tw16017511746161252219:=()
def PySem.W.Fast.tw15073683573258632762:=()
def PySem.W.Fast.tw7391763781337975620:=()
def PySem.W.Fast.tw14125388779102966976:=()
def PySem.W.Fast.tw7661999776866460489:=()
def PySem.W.Fast.tw10862026068514461948:=()
def PySem.W.Fast.tw8729239654913591828:=()
def PySem.W.Fast.tw10041312881960941271:=()
def PySem.W.Fast.tw11483873121724674642:=()
def PySem.W.Fast.tw12977089942109514908:=()
def PySem.W.Fast.tw12389108541492427419:=()
open PySem PySem.W PyProof.Rows
set_option maxRecDepth 100000 in
set_option maxHeartbeats 0 in
theorem PySem.Challenge.cw_citeward_k38_whole_a_books_pool_holds : PySem.Challenge.rw_citeward_k38_whole_a_books_pool.Holds := by
  w_on; o_law; k_head; (case hw => w_witness2)
  k_fill
  refine Gen.Zzc (l := PySem.Challenge.rw_citeward_k38_whole_a_books_pool) rfl rfl (fun w h Y => PySem.W.kIn_of Y) ?F My.law_true
  case F =>
    intro w mg fa h KX G hmg
    refine' Gen.Zqf KX G hmg ?ax0 ?Fx0 ?kx0 ?ax1 ?Fx1 ?kx1 ?ax2 ?Fx2 ?kx2 ?ax3 ?Fx3 ?kx3 ?ax4 ?Fx4 ?kx4 ?ax5 ?Fx5 ?kx5 ?ax6 ?Fx6 ?kx6 ?ax7 ?Fx7 ?kx7 ?ax8 ?Fx8 ?kx8 ?ax9 ?Fx9 ?kx9 ?ax10 ?Fx10 ?kx10 ?ax11 ?Fx11 ?kx11 ?ax12 ?Fx12 ?kx12 ?ax13 ?Fx13 ?kx13 ?ax14 ?Fx14 ?kx14 ?ax15 ?Fx15 ?kx15 ?ax16 ?Fx16 ?kx16 ?ax17 ?Fx17 ?kx17 ?ax18 ?Fx18 ?kx18 ?ax19 ?lx19 ?cx19 ?kx19 ?zall ?zdict ?zenumerate ?zint ?zisinstance ?zlen ?zlist ?zrange ?zreversed ?zset ?zsorted ?zstr ?ztuple
    (case ax0 => k_is)
    (case Fx0 => exact ⟨_, L2.Wn (by k_is) (by k_is) (by k_is)⟩)
    (case kx0 => k_is)
    (case ax1 => k_is)
    (case Fx1 => exact ⟨_, L2.Wn (by k_is) (by k_is) (by k_is)⟩)
    (case kx1 => k_is)
    (case ax2 => k_is)
    (case Fx2 => exact ⟨_, L2.Wn (by k_is) (by k_is) (by k_is)⟩)
    (case kx2 => k_is)
    (case ax3 => k_is)
    (case Fx3 => exact ⟨_, L2.Wn (by k_is) (by k_is) (by k_is)⟩)
    (case kx3 => k_is)
    (case ax4 => k_is)
    (case Fx4 => exact ⟨_, L2.Wn (by k_is) (by k_is) (by k_is)⟩)
    (case kx4 => k_is)
    (case ax5 => k_is)
    (case Fx5 => exact ⟨_, L2.Wn (by k_is) (by k_is) (by k_is)⟩)
    (case kx5 => k_is)
    (case ax6 => k_is)
    (case Fx6 => exact ⟨_, L2.Wn (by k_is) (by k_is) (by k_is)⟩)
    (case kx6 => k_is)
    (case ax7 => k_is)
    (case Fx7 => exact ⟨_, L2.Wn (by k_is) (by k_is) (by k_is)⟩)
    (case kx7 => k_is)
    (case ax8 => k_is)
    (case Fx8 => exact ⟨_, L2.Wn (by k_is) (by k_is) (by k_is)⟩)
    (case kx8 => k_is)
    (case ax9 => k_is)
    (case Fx9 => exact ⟨_, L2.Wn (by k_is) (by k_is) (by k_is)⟩)
    (case kx9 => k_is)
    (case ax10 => k_is)
    (case Fx10 => exact ⟨_, L2.Wn (by k_is) (by k_is) (by k_is)⟩)
    (case kx10 => k_is)
    (case ax11 => k_is)
    (case Fx11 => exact ⟨_, L2.Wn (by k_is) (by k_is) (by k_is)⟩)
    (case kx11 => k_is)
    (case ax12 => k_is)
    (case Fx12 => exact ⟨_, L2.Wn (by k_is) (by k_is) (by k_is)⟩)
    (case kx12 => k_is)
    (case ax13 => k_is)
    (case Fx13 => exact ⟨_, L2.Wn (by k_is) (by k_is) (by k_is)⟩)
    (case kx13 => k_is)
    (case ax14 => k_is)
    (case Fx14 => exact ⟨_, L2.Wn (by k_is) (by k_is) (by k_is)⟩)
    (case kx14 => k_is)
    (case ax15 => k_is)
    (case Fx15 => exact ⟨_, L2.Wn (by k_is) (by k_is) (by k_is)⟩)
    (case kx15 => k_is)
    (case ax16 => k_is)
    (case Fx16 => exact ⟨_, L2.Wn (by k_is) (by k_is) (by k_is)⟩)
    (case kx16 => k_is)
    (case ax17 => k_is)
    (case Fx17 => exact ⟨_, L2.Wn (by k_is) (by k_is) (by k_is)⟩)
    (case kx17 => k_is)
    (case ax18 => k_is)
    (case Fx18 => exact ⟨_, L2.Wn (by k_is) (by k_is) (by k_is)⟩)
    (case kx18 => k_is)
    (case ax19 => k_is)
    (case lx19 => k_is)
    (case cx19 => k_is)
    (case kx19 => k_is)
    (case zall => k_is)
    (case zdict => k_is)
    (case zenumerate => k_is)
    (case zint => k_is)
    (case zisinstance => k_is)
    (case zlen => k_is)
    (case zlist => k_is)
    (case zrange => k_is)
    (case zreversed => k_is)
    (case zset => k_is)
    (case zsorted => k_is)
    (case zstr => k_is)
    (case ztuple => k_is)
