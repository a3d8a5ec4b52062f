import PyProof.Rows.All
import Wide.All
import OpenK.AllK
import Wide.FinOn
import Lean
import PyProof.EqAt
import PyProof.EqKinds
import PyProof.TupleCall
import PyProof.NeKinds
import PyProof.EnumMake
import PyProof.ConsumeWalk
import PyProof.StrWalks
import PyProof.WalksMore
import PyProof.StrLawsNeg
import KE.KDictList
import KE.KLam
import KE.KMinKey
import KE.KSortTup
import KE.KUnpack
import PySem.Challenge.RW_citeward_k36_heaps_of_single_works
set_option Elab.async false
set_option linter.all false
set_option genSizeOf false
set_option genSizeOfSpec false
set_option maxRecDepth 100000
set_option maxHeartbeats 4000000
open Option renaming bind_eq_some_iff->aa,bind_some->b7,map_eq_some_iff->cm,some->dm
open PySem renaming wpAny_bind->ad,wpAny_pure->ag,Value->ah,Shared->ak,Addr->am,starEach->ay,sizeLine->a8,wpAny->ba,model->bp,Program->bu,mainGlobals->b6,Expr->ci,World->cj,Around->ck,FuncData->cx,wpAny_call_entry->c5,wpAny_loadPart'->dg,sizeLine_eq->dq,Heap->dr,wpAny_newObj_type->dv,cLine->d8,sysModules->ff,wpAny_callSpecial?_slot->f6,backTo->f7,eval->f9,wpAny_holding->gc,wpAny_isInstance->gk,SetTable->gp,strIterType->gq,codeAny_builtin->gr,compareOp->gx
open PySem.W renaming Frag->af,keepIn->bq,nsIn->cy,mg_none_of->fg,mg_of->gd
open List renaming mem_cons_self->aj,length_map->ao,mem_cons_of_mem->ar,mem_singleton->au,map_cons->av,getElem?_eq_some_iff->ax,getElem?_eq_getElem->az,mem_map->a6,getElem?_map->bf,size_toArray->bi,length_append->bj,length_cons->bn,mem_cons->bo,map_map->bx,getD_eq_getElem?_getD->bz,mem_append->cn,map_append->cq,range->cr,mem_range->cw,mem_of_getElem?->cz,mem_append_right->c6,nodup_nil->c7,pairwise_map->df,nodup_append->di,cons_lt_cons_iff->dj,getElem_of_mem->dy,nil_append->dz,not_lt->d4,getElem?_set_self->d5,getElem?_set_ne->d6,map_congr_left->fj,nodup_cons->fu,append_assoc->gf,not_mem_nil->gm,length_take->gn,toArray->gz,lookup_cons->g6,all_eq_true->g7
open PySem.Heap renaming get?_push_of_some->aq,get?_push_size->a9,lt_size->bc,SameBut->g8
open Array renaming length_toList->aw,getElem?_toList->b5,getElem?_eq_some_iff->f8
open Nat renaming le_refl->a7,ne_of_lt->b4,lt_of_lt_of_le->cu,zero_le->dn,le_trans->d3,not_lt_zero->fq,lt_irrefl->gv,lt_or_ge->gy
open Bool renaming false_eq_true->bg,false_ne_true->bh,not_true->du
open PySem.Value renaming ref->bv,none->cf
open Sum renaming inr->b8
open PySem.Str renaming ofString->b9
open PySem.Builtin.Str renaming occurrences->c8
open PySem.Obj renaming mapSeq->c9
open PyProof.Rows renaming seqObj->de
open PySem.PassesOwn renaming never->dh
open Int renaming emod_lt_of_pos->dw,emod_nonneg->fw
open PySem.Around renaming under_plainId->d7
open Or renaming inr->gg
open PySem.F renaming slot_dict_keyiterator_next->gh
open PySem.Paired renaming length->gu
open PySem.NameKind renaming free->gw
local notation"А"=>List
local notation"Б"=>Option
local notation"В"=>Prop
local notation"Г"=>Nat
local notation"Д"=>if_neg
local notation"Е"=>if_pos
local notation"Ж"=>decide_eq_false
local macro"З":term=>`(by rfl)
local macro"И":term=>`(by omega)
local macro"Й":term=>`(by decide)
local macro"К":term=>`(by trivial)
local macro"Л":term=>`(by simp)
local macro"М":term=>`(by intro _ _;rfl)
local macro"Н":term=>`(by intro _;rfl)
local macro"E"t:term:tactic=>`(tactic|exact $t)
local macro"R"t:term:tactic=>`(tactic|refine $t)
local macro"O"p:Lean.Parser.Tactic.rcasesPatMed":="t:term:tactic=>`(tactic|obtain $p := $t)
local macro"W":tactic=>`(tactic|omega)
local macro"C"x:ident:tactic=>`(tactic|cases $x:ident)
local macro"О"d:Lean.Parser.Command.declId s:Lean.Parser.Command.declSig v:Lean.Parser.Command.declVal:command=>`(theorem $d:declId $s:declSig $v:declVal)
local macro"П"d:Lean.Parser.Command.declId s:Lean.Parser.Command.optDeclSig v:Lean.Parser.Command.declVal:command=>`(noncomputable def $d:declId $s:optDeclSig $v:declVal)
local macro"Р"d:Lean.Parser.Command.declId s:Lean.Parser.Command.optDeclSig v:Lean.Parser.Command.declVal:command=>`(@[simp] noncomputable def $d:declId $s:optDeclSig $v:declVal)
namespace L2
open PySem PySem.Spec PyProof.Rows
noncomputable abbrev Key:=Sum Int Str
ПBi:Key->ah->Bool
 | .inl k,v=>Value.isInt k v
 | .inr x,v=>Value.isStrOf x v
ПZto(w:cj):Key->Int
 | .inl k=>hashInt k
 | .inr x=>hashStr w x
ОZ0:∀{k:Key} {v:ah},Bi k v=true->(∃i t,k=Sum.inl i/\v=Value.int i t)\/(∃x t,k=b8 x/\v=Value.str x t)
 | .inl i,v,h=>by
  O⟨t,e⟩:=Value.isInt_shape (k:=i) (v:=v) h
  E .inl ⟨i,t,rfl,e⟩
 | .inr x,v,h=>by
  O⟨t,e⟩:=Value.isStrOf_shape (x:=x) (v:=v) h
  E .inr ⟨x,t,rfl,e⟩
ОZah(i:Int)(t:Tok):Bi (.inl i) (.int i t)=true:=by simp[Bi,Value.isInt]
ОZai(x:Str)(t:Tok):Bi (.inr x) (.str x t)=true:=by simp[Bi,Value.isStrOf]
ОZlk(a b:Int):decide ((Sum.inl a:Key)=Sum.inl b)=(a==b):=by
 by_cases e:a=b
 ·subst e;simp
 ·have h:¬(Sum.inl a:Key)=Sum.inl b:=fun q=>e (Sum.inl.inj q)
  rw[Ж h]
  E(beq_eq_false_iff_ne.mpr e).symm
ОZll(a b:Str):decide ((b8 a:Key)=b8 b)=decide (a=b):=by
 by_cases e:a=b
 ·subst e;simp
 ·have h:¬(b8 a:Key)=b8 b:=fun q=>e (b8.inj q)
  rw[Ж h,Ж e]
ОZlm(a:Int)(b:Str):decide ((Sum.inl a:Key)=b8 b)=false:=Ж (fun q=>nomatch q)
ОZln(a:Str)(b:Int):decide ((b8 a:Key)=Sum.inl b)=false:=Ж (fun q=>nomatch q)
ПZj(prog:bu)(w:cj):PySem.KeyKind prog w Key where
 is:=Bi
 hash:=Zto w
 inj:=fun v a b ha hb=>by
  rcases Z0 ha with⟨i,t,rfl,rfl⟩|⟨x,t,rfl,rfl⟩
  ·rcases Z0 hb with⟨j,u,rfl,e⟩|⟨y,u,rfl,e⟩
   ·injection e with e1 _;rw[e1]
   ·E nomatch e
  ·rcases Z0 hb with⟨j,u,rfl,e⟩|⟨y,u,rfl,e⟩
   ·E nomatch e
   ·injection e with e1 _;rw[e1]
 byValue:=fun k v h=>by
  rcases Z0 h with⟨i,t,rfl,rfl⟩|⟨x,t,rfl,rfl⟩<;> rfl
 pyHash:=fun hv h=>by
  rcases Z0 hv with⟨i,t,rfl,rfl⟩|⟨x,t,rfl,rfl⟩
  ·E wpAny_pyHash_int h
  ·E wpAny_pyHash_str h
 eqBool:=fun hu hv h=>by
  rcases Z0 hu with⟨i,t,rfl,rfl⟩|⟨x,t,rfl,rfl⟩
  ·rcases Z0 hv with⟨j,u,rfl,rfl⟩|⟨y,u,rfl,rfl⟩
   ·rw[Zlk]at h;E wpAny_eqBool_int h
   ·rw[Zlm]at h;E SeqAt.EqAt.int_str i t y u _ _ _ _ h
  ·rcases Z0 hv with⟨j,u,rfl,rfl⟩|⟨y,u,rfl,rfl⟩
   ·rw[Zln]at h;E SeqAt.EqAt.str_int x t j u _ _ _ _ h
   ·rw[Zll]at h;E wpAny_eqBool_str h
 «strs»:=fun k x t v h=>by
  rcases Z0 h with⟨i,u,rfl,e⟩|⟨y,u,rfl,e⟩
  ·E nomatch e
  ·injection e with e1 _
   subst e1
   cases v<;> rfl
ОZlo(prog:bu)(w:cj)(k:Key)(v:ah):(Zj prog w).is k v=Bi k v:=rfl
ОNi(prog:bu)(w:cj)(i:Int)(t:Tok):(Zj prog w).is (.inl i) (.int i t)=true:=Zah i t
ОNj(prog:bu)(w:cj)(x:Str)(t:Tok):(Zj prog w).is (.inr x) (.str x t)=true:=Zai x t
noncomputable abbrev Zk:=Sum (А Str) (Int×А Str)
ПMv(l:А Str):А Key:=l.map b8
ОKb{a b:А Str}(h:Mv a=Mv b):a=b:=by
 induction a generalizing b with
 |nil=>cases b with
  |nil=>rfl
  |cons y b=>simp[Mv]at h
 |cons x a ih=>cases b with
  |nil=>simp[Mv]at h
  |cons y b=>
   simp only[Mv,av,List.cons.injEq]at h
   rw[b8.inj h.1,ih h.2]
ОXx(a b:А Str):decide (Mv a=Mv b)=decide (a=b):=by
 by_cases e:a=b
 ·rw[e];simp
 ·rw[Ж e,Ж fun z=>e (Kb z)]
ПUr(prog:bu)(w:cj)(h:dr):Zk->am->В
 | .inl l,a=>IsTupleKey (Zj prog w) h (Mv l) a
 | .inr (n,l),a=>∃o items m t b,h.get? a=some o/\o.cls= .type "tuple"/\o.data= .seq items m/\items.toList=[.int n t,.ref b]/\IsTupleKey (Zj prog w) h (Mv l) b
ПYa(prog:bu)(w:cj):Zk->Int
 | .inl l=>tupleKeyHash (Zj prog w) (Mv l)
 | .inr (n,l)=>reduceHash (Builtin.Tuple.tupleHashOf [hashInt n,tupleKeyHash (Zj prog w) (Mv l)])
ПTd:Zk->Г
 | .inl l=>(Mv l).length+1
 | .inr (_,l)=>1+((Mv l).length+1)+1
section
variable{prog:bu}{w:cj}{A:ck}{E:ah->ak->В}{s:ak}
ОUr.typeIs{k:Zk}{a:am}(x:Ur prog w s.heap k a):s.TypeIs (.ref a) "tuple":=by
 cases k with
 |inl l=>E IsTupleKey.typeIs (show IsTupleKey (Zj prog w) s.heap (Mv l) a from x)
 |inr p=>O⟨o,_,_,_,_,ho,hc,_⟩:=x;E⟨o,ho,hc⟩
ОTe{l:А Str}{n:Int}{t:Tok}{vs:А ah}(h:ItemsAre (Zj prog w) (Mv l) (.int n t::vs)):False:=by
 cases l with
 |nil=>C h
 |cons x l=>
  cases h with
  |cons h1 _=>
   rcases Z0 (k:=.inr x) (v:=.int n t) h1 with⟨_,_,e,_⟩|⟨_,_,_,e⟩
   ·C e
   ·C e
ОUr.inj{h:dr}{a:am}{x y:Zk}(hx:Ur prog w h x a)(hy:Ur prog w h y a):x=y:=by
 have mix:∀{l:А Str} {n:Int} {l2:А Str},Ur prog w h (.inl l) a->Ur prog w h (.inr (n,l2)) a->False:=fun{l n l2} h1 h2=>by
  O⟨o,items,m,ho,_,hd,hi⟩:=h1
  O⟨o',items',m',t,b,ho',_,hd',e,_⟩:=h2
  obtain rfl:o=o':=dm.inj (ho.symm.trans ho')
  rw[hd]at hd'
  injection hd' with z _
  subst z
  rw[e]at hi
  E Te hi
 cases x with
 |inl l=>cases y with
  |inl l2=>rw[Kb (IsTupleKey.inj (show IsTupleKey (Zj prog w) h (Mv l) a from hx) hy)]
  |inr p=>E(mix hx hy).elim
 |inr p=>cases y with
  |inl l2=>E(mix hy hx).elim
  |inr q=>
   O⟨n,l⟩:=p
   O⟨n2,l2⟩:=q
   O⟨o,items,m,t,b,ho,_,hd,e,hb⟩:=hx
   O⟨o',items',m',t',b',ho',_,hd',e',hb'⟩:=hy
   obtain rfl:o=o':=dm.inj (ho.symm.trans ho')
   rw[hd]at hd'
   injection hd' with z _
   subst z
   rw[e]at e'
   injection e' with e1 e2
   injection e1 with e1 _
   injection e2 with e2 _
   injection e2 with e2
   subst e1 e2
   rw[Kb (hb.inj hb')]
ОUr.keeps{h h':dr}{k:Zk}{a d:am}{o:Obj}{es ep} (x:Ur prog w h k a) (ho:h.get? d=some o) (hd:o.data= .dict es ep) (hs:g8 d h h'):Ur prog w h' k a:=by
 cases k with
 |inl l=>E IsTupleKey.keeps (show IsTupleKey (Zj prog w) h (Mv l) a from x) ho hd hs
 |inr p=>
  O⟨o',items,m,t,b,ho',hc,hd',e,hb⟩:=x
  have hne:a≠d:=by
   rintro rfl
   obtain rfl:o'=o:=dm.inj (ho'.symm.trans ho)
   rw[hd]at hd';E nomatch hd'
  E⟨o',items,m,t,b,(hs.2 a hne).trans ho',hc,hd',e,hb.keeps ho hd hs⟩
ОUr.mono{h h':dr}{k:Zk}{a:am}(x:Ur prog w h k a)(hk:∀b o,h.get? b=some o->h'.get? b=some o):Ur prog w h' k a:=by
 cases k with
 |inl l=>O⟨o,items,m,ho,r⟩:=x;E⟨o,items,m,hk _ _ ho,r⟩
 |inr p=>
  O⟨o,items,m,t,b,ho,hc,hd,e,⟨o2,i2,m2,ho2,r2⟩⟩:=x
  E⟨o,items,m,t,b,hk _ _ ho,hc,hd,e,o2,i2,m2,hk _ _ ho2,r2⟩
ОZb6{k:Zk}{a:am}{Q:Int->ak->В}(hu:A.units+1<d8)(hk:Ur prog w s.heap k a)(h:Q (Ya prog w k) {s with toks:=s.toks+Td k}):ba (bp prog w) A (pyHash (.ref a)) Q E s:=by
 cases k with
 |inl l=>E wpAny_pyHash_tuple (knd:=Zj prog w) И hk h
 |inr p=>
  have hT:=hk.typeIs
  O⟨n,l⟩:=p
  O⟨o,items,m,t,b,ho,_,hd,hi,hb⟩:=hk
  unfold pyHash
  first|unfold pyHashByItsType|skip
  first|R ad (wpAny_cRoomFor_or (.inr И) ?_)|skip
  R ad (wpAny_specialOf hT F.slot_tuple_hash.lookup ?_)
  show ba _ _ (if(some (Value.builtin "tuple.__hash__")==some cf)=true then _ else _) Q E s
  rw[Д (by rw[beq_builtin_none];E bh)]
  R ad (wpAny_specialOf hT F.slot_tuple_hash.lookup ?_)
  show ba _ _ (callSpecialIfBoundUnlessNone? (.ref a) "__hash__" _ >>=_) Q E s
  R ad (wpAny_callSpecialIfBoundUnlessNone?_slot hT F.slot_tuple_hash (c5 F.slot_tuple_hash hT F.entry_tuple_hash ?_ (F.args_tuple_hash_1 _)))
  show ba _ _ (Builtin.Tuple.tupleItemsOf (.ref a) >>=_) _ _ s
  R ad (wpAny_tupleItemsOf ho hd ?_)
  R ad ?_
  rw[<-Array.forIn_toList,hi]
  simp only[List.forIn_cons,List.forIn_nil]
  have hu1:A.in1.units<cLine:=hu
  R ad (ad (wpAny_pyHash_int ?_))
  R ag ?_
  dsimp only
  R ad (ad (wpAny_pyHash_tuple (knd:=Zj prog w) (s:={s with toks:=s.toks+1}) hu1 hb ?_))
  R ag ?_
  R ag ?_
  generalize hg:tupleKeyHash (Zj prog w) (Mv l)=g at h⊢
  show ba _ _ (retInt (Builtin.Tuple.tupleHashOf [hashInt n,g])) _ _ _
  R wpAny_ret_mkInt ?_
  unfold Ya at h
  dsimp only at h
  rw[hg]at h
  generalize Builtin.Tuple.tupleHashOf [hashInt n,g]=z at h⊢
  show ba _ _ (if(decide (-(2:Int)^63<=z)&&decide (z<2^63))=true then _ else _) Q E _
  unfold reduceHash at h
  by_cases hr:(decide (-(2:Int)^63<=z)&&decide (z<2^63))=true
  ·rw[Е hr]
   rw[Е hr]at h
   E ag (by simpa[Td,Nat.add_assoc]using h)
  ·rw[Д hr]
   rw[Д hr]at h
   E ad (wpAny_rule (ag (by simpa[Td,Nat.add_assoc]using h)))
ОZaj{x y:Zk}{a b:am}{P:Fin->ak->В}(hu:A.units<d8)(hx:Ur prog w s.heap x a)(hy:Ur prog w s.heap y b)(h:P (.done (.ret (.bool (decide (x=y))))) s):
  ba (bp prog w) A (Builtin.«tuple.__eq__» ⟨[.ref a,.ref b],[]⟩) P E s:=by
 have mixS:∀(x:Str) (tx:Tok) (n:Int) (tn:Tok) {Q:Bool->ak->В},Q false s->ba (bp prog w) A (eqBool (.str x tx) (.int n tn)) Q E s:=fun x tx n tn Q q=>SeqAt.EqAt.str_int x tx n tn _ _ _ _ q
 have mixI:∀(x:Str) (tx:Tok) (n:Int) (tn:Tok) {Q:Bool->ak->В},Q false s->ba (bp prog w) A (eqBool (.int n tn) (.str x tx)) Q E s:=fun x tx n tn Q q=>SeqAt.EqAt.int_str n tn x tx _ _ _ _ q
 have hTb:=hy.typeIs
 cases x with
 |inl l=>cases y with
  |inl l2=>
   R tuple_eq_tree (knd:=Zj prog w) (x:=Mv l) (y:=Mv l2) hx hy ?_
   rw[Xx]
   have:decide ((Sum.inl l:Zk)=Sum.inl l2)=decide (l=l2):=by
    by_cases e:l=l2
    ·rw[e];simp
    ·rw[Ж e,Ж fun z=>e (Sum.inl.inj z)]
   rw[this]at h
   E h
  |inr p=>
   O⟨n,l2⟩:=p
   O⟨oa,xs,na,hoa,_,hda,hia⟩:=hx
   O⟨ob,ys,nb,t,c,hob,_,hdb,e,hc⟩:=hy
   have hf:decide ((Sum.inl l:Zk)=b8 (n,l2))=false:=Ж fun z=>nomatch z
   rw[hf]at h
   show ba _ _ (isInstance (.ref b) (.type "tuple") >>=_) _ _ s
   R ad (gk hTb isSubtype_tuple_tuple ?_)
   simp only[du,bg,if_false]
   R ad (wpAny_tupleItemsOf hoa hda ?_)
   R ad (wpAny_tupleItemsOf hob hdb ?_)
   rw[e]
   have sy:ys.size=2:=by rw[<-aw,e];rfl
   cases l with
   |nil=>
    generalize hxs:xs.toList=vs at hia
    C hia
    have sx:xs.size=0:=by rw[<-aw,hxs];rfl
    simp only[List.zip_nil_left,List.forIn_nil]
    R ad (ag ?_)
    R ag ?_
    show P (.done (.ret (.bool (xs.size==ys.size)))) s
    rw[sx,sy];E h
   |cons x l=>
    generalize hxs:xs.toList=vs at hia
    cases hia with
    | @cons _ v _ vs h1 _=>
     rcases Z0 (k:=.inr x) (v:=v) h1 with⟨_,_,z,_⟩|⟨_,tx,z,rfl⟩
     ·C z
     ·simp only[List.zip_cons_cons,List.forIn_cons]
      R ad (ad (ad (mixS _ _ _ _ ?_)))
      simp only[Bool.not_false,if_true]
      E ad (ag (ag (ag (ag h))))
 |inr p=>cases y with
  |inl l=>
   O⟨n,l2⟩:=p
   O⟨ob,ys,nb,t,c,hob,_,hdb,e,hc⟩:=hx
   O⟨oa,xs,na,hoa,_,hda,hia⟩:=hy
   have hf:decide ((b8 (n,l2):Zk)=Sum.inl l)=false:=Ж fun z=>nomatch z
   rw[hf]at h
   show ba _ _ (isInstance (.ref b) (.type "tuple") >>=_) _ _ s
   R ad (gk hTb isSubtype_tuple_tuple ?_)
   simp only[du,bg,if_false]
   R ad (wpAny_tupleItemsOf hob hdb ?_)
   R ad (wpAny_tupleItemsOf hoa hda ?_)
   rw[e]
   have sy:ys.size=2:=by rw[<-aw,e];rfl
   cases l with
   |nil=>
    generalize hxs:xs.toList=vs at hia
    C hia
    have sx:xs.size=0:=by rw[<-aw,hxs];rfl
    simp only[List.zip_nil_right,List.forIn_nil]
    R ad (ag ?_)
    R ag ?_
    show P (.done (.ret (.bool (ys.size==xs.size)))) s
    rw[sx,sy];E h
   |cons x l=>
    generalize hxs:xs.toList=vs at hia
    cases hia with
    | @cons _ v _ vs h1 _=>
     rcases Z0 (k:=.inr x) (v:=v) h1 with⟨_,_,z,_⟩|⟨_,tx,z,rfl⟩
     ·C z
     ·simp only[List.zip_cons_cons,List.forIn_cons]
      R ad (ad (ad (mixI _ _ _ _ ?_)))
      simp only[Bool.not_false,if_true]
      E ad (ag (ag (ag (ag h))))
  |inr q=>
   O⟨n,l⟩:=p
   O⟨n2,l2⟩:=q
   O⟨oa,xs,na,ta,ca,hoa,_,hda,ea,hca⟩:=hx
   O⟨ob,ys,nb,tb,cb,hob,_,hdb,eb,hcb⟩:=hy
   show ba _ _ (isInstance (.ref b) (.type "tuple") >>=_) _ _ s
   R ad (gk hTb isSubtype_tuple_tuple ?_)
   simp only[du,bg,if_false]
   R ad (wpAny_tupleItemsOf hoa hda ?_)
   R ad (wpAny_tupleItemsOf hob hdb ?_)
   rw[ea,eb]
   have sx:xs.size=2:=by rw[<-aw,ea];rfl
   have sy:ys.size=2:=by rw[<-aw,eb];rfl
   simp only[List.zip_cons_cons,List.zip_nil_left,List.forIn_cons,List.forIn_nil]
   R ad (ad (ad (wpAny_eqBool_int ?_)))
   by_cases hn:n=n2
   ·subst hn
    simp only[beq_self_eq_true,du,bg,if_false]
    R ag ?_
    dsimp only
    R ad (ad (wpAny_eqBool_tuple (knd:=Zj prog w) hu hca hcb ?_))
    rw[Xx]
    by_cases hl:l=l2
    ·subst hl
     simp only[decide_true,du,bg,if_false]
     R ag (ag (ag ?_))
     show P (.done (.ret (.bool (xs.size==ys.size)))) s
     rw[sx,sy]
     simpa using h
    ·simp only[decide_eq_false hl,Bool.not_false,if_true]
     have hf:decide ((b8 (n,l):Zk)=b8 (n,l2))=false:=Ж fun z=>hl (by injection z with z;injection z)
     rw[hf]at h
     E ad (ag (ag (ag (ag h))))
   ·have hb:(n==n2)=false:=beq_eq_false_iff_ne.mpr hn
    simp only[hb,Bool.not_false,if_true]
    have hf:decide ((b8 (n,l):Zk)=b8 (n2,l2))=false:=Ж fun z=>hn (by injection z with z;injection z)
    rw[hf]at h
    E ad (ag (ag (ag (ag h))))
ОZoq{x y:Zk}{a b:am}{Q:Bool->ak->В}(hu:A.units+1<d8)(hx:Ur prog w s.heap x a)(hy:Ur prog w s.heap y b)(h:Q (decide (x=y)) s):ba (bp prog w) A (eqBool (.ref a) (.ref b)) Q E s:=by
 unfold eqBool
 try with_reducible R gc ?_
 show ba _ _ (if(bv a==bv b)=true then _ else _) Q E s
 by_cases hab:(bv a==bv b)=true
 ·rw[Е hab]
  have e:a=b:=by have:=eq_of_beq hab;injection this
  subst e
  obtain rfl:=hx.inj hy
  E ad (wpAny_rule (ag (by simpa using h)))
 ·rw[Д hab]
  E ad (wpAny_richCompare_same_room (op:=.Eq) hx.typeIs hy.typeIs F.slot_tuple_eq
   (c5 F.slot_tuple_eq hx.typeIs F.entry_tuple_eq (Zaj (A:=A.in1) hu hx hy ⟨_,rfl,(fun e=>nomatch e),wpAny_truthy_bool h⟩) (F.args_tuple_eq_2 _ _)) И)
ОXy{m:Г}{ks:А Key}{a:am}{Q:Bool->ak->В}(hk:IsTupleKey (Zj prog w) s.heap ks a)(h:Q true s):ba (bp prog w) A (eqIsQuiet (m+1) (.ref a)) Q E s:=by
 have hT:=hk.typeIs
 O⟨o,items,n,ho,_,hd,hi⟩:=hk
 unfold eqIsQuiet
 R ad (wpAny_specialOf hT F.slot_tuple_eq.lookup ?_)
 show ba _ _ (isInstance (.ref a) (.type "tuple") >>=_) _ _ s
 R ad (gk hT isSubtype_tuple_tuple ?_)
 simp only[du,bg,if_false]
 R ad (wpAny_seqItems ho hd ?_)
 R ad ?_
 show ba _ _ (forIn items _ _) _ _ s
 rw[<-Array.forIn_toList]
 R wpAny_forIn_list _ (fun rest r s'=>r.1=none/\s'=s/\∀v∈rest,carriedByValue v=true) _ ?_ ?_ _ _ ⟨rfl,rfl,hi.byValue⟩
 ·rintro v rest r s' ⟨hr,rfl,hall⟩
  rw[eqIsQuiet_byValue _ (hall v aj)]
  R ad (ag ?_)
  simp only[du,bg,if_false]
  E ag ⟨rfl,rfl,fun u hu'=>hall u (ar _ hu')⟩
 ·rintro⟨r1,r2⟩ s' ⟨hr,rfl,_⟩
  simp only at hr
  subst hr
  E ag h
ОKc{k:Zk}{a:am}{Q:Bool->ak->В}(hk:Ur prog w s.heap k a)(h:Q true s):ba (bp prog w) A (eqIsQuiet 8 (.ref a)) Q E s:=by
 cases k with
 |inl l=>E Xy hk h
 |inr p=>
  have hT:=hk.typeIs
  O⟨n,l⟩:=p
  O⟨o,items,m,t,b,ho,_,hd,hi,hb⟩:=hk
  unfold eqIsQuiet
  R ad (wpAny_specialOf hT F.slot_tuple_eq.lookup ?_)
  show ba _ _ (isInstance (.ref a) (.type "tuple") >>=_) _ _ s
  R ad (gk hT isSubtype_tuple_tuple ?_)
  simp only[du,bg,if_false]
  R ad (wpAny_seqItems ho hd ?_)
  R ad ?_
  show ba _ _ (forIn items _ _) _ _ s
  rw[<-Array.forIn_toList,hi]
  simp only[List.forIn_cons,List.forIn_nil]
  rw[eqIsQuiet_byValue _ (v:=Value.int n t) rfl]
  R ad (ad (ag ?_))
  simp only[du,bg,if_false]
  R ag ?_
  dsimp only
  R ad (ad (Xy hb ?_))
  simp only[du,bg,if_false]
  E ag (ag (ag h))
end
ПE4(prog:bu)(w:cj):HeapKind prog w Zk where
 is:=Ur prog w
 hash:=Ya prog w
 draws:=Td
 room:=fun A=>A.units+1<d8
 inj:=fun hx hy=>hx.inj hy
 keeps:=fun x ho hd hs=>x.keeps ho hd hs
 pyHash:=fun hu hk h=>Zb6 hu hk h
 eqBool:=fun hu hx hy h=>Zoq hu hx hy h
 quiet:=fun hk h=>Kc hk h
inductive V where
 |non|bl (b:Bool)|int (i:Int)|str (x:Str)|byt (b:Array UInt8)|flt (b:UInt64)|ref (a:am)|ty (n:String)
 deriving DecidableEq
ПZp:V->ah->В
 | .non,u=>u=cf
 | .bl b,u=>u=Value.bool b
 | .int i,u=>∃t,u=Value.int i t
 | .str x,u=>∃t,u=Value.str x t
 | .byt b,u=>∃t,u=Value.bytes b t
 | .flt b,u=>∃t,u=Value.float b t
 | .ref a,u=>u=bv a
 | .ty n,u=>u=Value.type n
noncomputable abbrev Zw:А V->А ah->Prop:=Paired Zp
ОZw.length{xs:А V}{us:А ah}(r:Zw xs us):xs.length=us.length:=gu r
ОZw.get:∀{xs:А V} {us:А ah} {i:Г} {x:V},Zw xs us->xs[i]? =some x->∃u,us[i]? =some u/\Zp x u
 |_,_,_,_,.nil,e=>by simp at e
 |_,_,0,_,.cons r _,e=>by simp at e;subst e;E⟨_,rfl,r⟩
 |_,_,i+1,x,.cons _ t,e=>by
  O⟨u,h1,h2⟩:=Zw.get (i:=i) (x:=x) t (by simpa using e)
  E⟨u,by simpa using h1,h2⟩
ОZw.append:∀{xs ys:А V} {us ws:А ah},Zw xs us->Zw ys ws->Zw (xs++ys) (us++ws)
 |_,_,_,_,.nil,s=>s
 |_,_,_,_,.cons r t,s=>.cons r (Zw.append t s)
ОZw.take:∀{xs:А V} {us:А ah} (n:Г),Zw xs us->Zw (xs.take n) (us.take n)
 |_,_,0,_=>.nil
 |_,_,_+1,.nil=>.nil
 |_,_,n+1,.cons r t=>.cons r (Zw.take n t)
ОZw.drop:∀{xs:А V} {us:А ah} (n:Г),Zw xs us->Zw (xs.drop n) (us.drop n)
 |_,_,0,r=>r
 |_,_,_+1,.nil=>.nil
 |_,_,n+1,.cons _ t=>Zw.drop n t
ПCz:Б V->Б ah->В
 |some v,some u=>Zp v u
 |none,none=>True
 |_,_=>False
ПKV{κ:Type}:А (κ×V)->А (κ×ah)->Prop:=Paired fun(p:κ×V) (q:κ×ah)=>p.1=q.1/\Zp p.2 q.2
ПkV:Key->V
 | .inl i=>.int i
 | .inr x=>.str x
inductive HO where
 |lst (xs:А V)
 |tup (xs:А V)
 |dK (kvs:А (Key×V)) (ep:Г)|dT (kvs:А (А Key×V)) (ep:Г) (bs:А am)|dN (kvs:А (Zk×V)) (ep:Г) (bs:А am)
 |set (S:Int->Bool) (n:Г)
 |ins (C dx:am) (fs:А (Str×V))
 |own (x:am)
 |xd (fs:А (Str×V))
 |met (f x:am)
 |rng (lo hi:Int)
 |frz (o:Obj) (u:HO)
 |tbl (ps:Array ah)
 |tab (q:Str)
 |ext (φ:dr->В)
noncomputable abbrev Hp:=am->Б HO
ПZ5(H:Hp)(a:am)(o:HO):Hp:=fun b=>if b=a then some o else H b
ОZ3{H:Hp}{a:am}{o:HO}:Z5 H a o a=some o:=by unfold Z5;rw[Е rfl]
ОZm{H:Hp}{a b:am}{o:HO}(h:b≠a):Z5 H a o b=H b:=by unfold Z5;rw[Д h]
ОZg1{H:Hp}{a:am}{o u:HO}:Z5 (Z5 H a o) a u=Z5 H a u:=by
 funext b;unfold Z5;split<;> rfl
ОTf{H:Hp}{a b:am}{o u:HO}(h:H a=some o)(h':H b=some u)(d:o≠u):a≠b:=by
 intro e;subst e;rw[h]at h';E d (dm.inj h')
ОY0{H:Hp}{a b:am}{o:HO}(h:H a=some o)(h':H b=none):a≠b:=by
 intro e;subst e;rw[h]at h';C h'
ПU1(H:Hp):Zk->am->В
 | .inl l,b=>H b=some (.tup ((Mv l).map kV))
 | .inr (n,l),b=>∃c,H b=some (.tup [.int n,.ref c])/\H c=some (.tup ((Mv l).map kV))
ОU1.mono{H H':Hp}{k:Zk}{b:am}(h:U1 H k b)(ht:∀b xs,H b=some (.tup xs)->H' b=some (.tup xs)):U1 H' k b:=by
 cases k with
 |inl l=>E ht _ _ h
 |inr p=>O⟨c,h1,h2⟩:=h;E⟨c,ht _ _ h1,ht _ _ h2⟩
section
variable(P:bu)(w:cj)
ПZ9(H:Hp)(h:dr)(a:am):HO->В
 | .lst xs=>xs.length<=sizeLine/\∃(its:А ah) (n:Г),Zw xs its/\h.get? a=some {cls:=.type "list",data:=.seq its.toArray n}
 | .tup xs=>xs.length<=sizeLine/\∃its:А ah,Zw xs its/\IsTup h a its.toArray
 | .dK kvs ep=>kvs.length<=sizeLine/\(a==ff)=false/\∃vs,KV kvs vs/\h.DictAt (Zj P w) a vs ep
 | .dT kvs ep bs=>kvs.length<=sizeLine/\(a==ff)=false/\∃xs:А (А Key×am×ah),
   Paired (fun(p:А Key×V) (q:А Key×am×ah)=>p.1=q.1/\H q.2.1=some (.tup (p.1.map kV))/\Zp p.2 q.2.2) kvs xs/\
   ∃o es,h.get? a=some o/\o.ExactDict/\o.data= .dict es ep/\es.toList=xs.map (entryOfKey (tupleKind (Zj P w)))/\(xs.map (·.1)).Nodup/\(xs.map fun x=>x.2.1)=bs
 | .dN kvs ep bs=>kvs.length<=sizeLine/\(a==ff)=false/\∃xs:А (Zk×am×ah),
   Paired (fun(p:Zk×V) (q:Zk×am×ah)=>p.1=q.1/\U1 H p.1 q.2.1/\Zp p.2 q.2.2) kvs xs/\
   ∃o es,h.get? a=some o/\o.ExactDict/\o.data= .dict es ep/\es.toList=xs.map (entryOfKey (E4 P w))/\(xs.map (·.1)).Nodup/\(xs.map fun x=>x.2.1)=bs
 | .set S n=>h.SetOf (intKind P w) a S n
 | .ins C dx fs=>H dx=some (.own a)/\fs.length<=1000/\dx≠a/\h.get? a=some (PySem.W.instObj C dx)/\
   ∃mA,h.Ns1 dx mA/\(∀f,Cz (fs.lookup f) (mA f))/\PySem.Within mA (fs.map (·.1))
 | .own _=>∃o,h.get? a=some o
 | .xd fs=>∃mA,h.Ns1 a mA/\∀f,Cz (fs.lookup f) (mA f)
 | .rng lo hi=>∃t u v,h.get? a=some {cls:=.type "range",data:=.fields #[.int lo t,.int hi u,.int 1 v]}
 | .frz o u=>h.get? a=some o/\Z9 H h a u
 | .tbl ps=>h.get? a=some {cls:=.none,data:=.fields ps}
 | .met f x=>h.get? a=some (PySem.W.methodObj (.ref f) (.ref x))
 | .tab q=>∃ps:Array ah,h.get? a=some {cls:=.none,data:=.fields ps}/\TriplesOk ps.toList/\∀pos cv,codeAmong pos ps.toList=some cv->∃c o vs t,cv= .ref c/\H c=some (.frz o (.own a))/\o.data= .fields vs/\vs[1]? =some (.str q t)
 | .ext φ=>φ h/\(∃o,h.get? a=some o)/\∀h1 h2:dr,φ h1->(∀o,h1.get? a=some o->h2.get? a=some o)->φ h2
ПCm(H:Hp)(h:dr):Prop:=∀a o,H a=some o->Z9 P w H h a o
end
section
variable{P:bu}{w:cj}{H H':Hp}{h h':dr}{a:am}{o:HO}
ОZ9.lt(x:Z9 P w H h a o):a<h.objs.size:=by
 cases o with
 |lst xs=>O⟨_,_,_,_,e⟩:=x;E bc e
 |tup xs=>O⟨_,_,_,p⟩:=x;E p.lt
 |dK kvs ep=>O⟨_,_,_,_,o,_,e,_⟩:=x;E bc e
 |dT kvs ep bs=>O⟨_,_,_,_,o,_,e,_⟩:=x;E bc e
 |dN kvs ep bs=>O⟨_,_,_,_,o,_,e,_⟩:=x;E bc e
 |set S n=>O⟨o,_,_,_,e,_⟩:=x;E bc e
 |ins C dx fs=>O⟨_,_,_,e,_⟩:=x;E bc e
 |own y=>O⟨_,e⟩:=x;E bc e
 |xd fs=>O⟨_,⟨_,_,_,e,_⟩,_⟩:=x;E bc e
 |rng lo hi=>O⟨_,_,_,e⟩:=x;E bc e
 |frz ob u=>O⟨e,_⟩:=x;E bc e
 |tbl ps=>E bc (show h.get? a=some _ from x)
 |met f y=>E bc (show h.get? a=some _ from x)
 |tab q=>O⟨_,e,_⟩:=x;E bc e
 |ext φ=>O⟨_,⟨_,e⟩,_⟩:=x;E bc e
ОPaired.mapP{α β:Type}{F G:α->β->В}{l₁:А α}{l₂:А β}(h:Paired F l₁ l₂)(f:∀a b,F a b->G a b):Paired G l₁ l₂:=by
 induction h with
 |nil=>E .nil
 |cons r _ ih=>E .cons (f _ _ r) ih
ОZ9.stay(x:Z9 P w H h a o)(k:∀b u,(b=a\/H b=some (.own a))->h.get? b=some u->h'.get? b=some u)
  (ho:∀b,H b=some (.own a)->H' b=some (.own a)) (ht:∀b xs,H b=some (.tup xs)->H' b=some (.tup xs))
  (hz:∀b o,H b=some (.frz o (.own a))->H' b=some (.frz o (.own a)):=by first|E fun _ _ q=>q| (intro b o q;rw[Zm (Y0 q (by assumption))];E q)):Z9 P w H' h' a o:=by
 induction o with
 |lst xs=>O⟨z,its,n,r,e⟩:=x;E⟨z,its,n,r,k _ _ (.inl rfl) e⟩
 |tup xs=>O⟨z,its,r,ob,e,c⟩:=x;E⟨z,its,r,ob,k _ _ (.inl rfl) e,c⟩
 |dK kvs ep=>O⟨z,y,vs,r,ob,es,e,c⟩:=x;E⟨z,y,vs,r,ob,es,k _ _ (.inl rfl) e,c⟩
 |dT kvs ep bs=>
  O⟨z,y,xs,r,ob,es,e,c⟩:=x
  E⟨z,y,xs,Paired.mapP r fun p q z=>⟨z.1,ht _ _ z.2.1,z.2.2⟩,ob,es,k _ _ (.inl rfl) e,c⟩
 |dN kvs ep bs=>
  O⟨z,y,xs,r,ob,es,e,c⟩:=x
  E⟨z,y,xs,Paired.mapP r fun p q z=>⟨z.1,z.2.1.mono ht,z.2.2⟩,ob,es,k _ _ (.inl rfl) e,c⟩
 |set S n=>O⟨ob,es,ep,t,e,c⟩:=x;E⟨ob,es,ep,t,k _ _ (.inl rfl) e,c⟩
 |ins C dx fs=>
  O⟨d,z,ne,e,mA,⟨od,es,ep,e2,c⟩,r⟩:=x
  E⟨ho _ d,z,ne,k _ _ (.inl rfl) e,mA,⟨od,es,ep,k _ _ (.inr d) e2,c⟩,r⟩
 |own y=>O⟨ob,e⟩:=x;E⟨ob,k _ _ (.inl rfl) e⟩
 |xd fs=>O⟨mA,⟨od,es,ep,e,c⟩,r⟩:=x;E⟨mA,⟨od,es,ep,k _ _ (.inl rfl) e,c⟩,r⟩
 |rng lo hi=>O⟨t,u,v,e⟩:=x;E⟨t,u,v,k _ _ (.inl rfl) e⟩
 |frz ob u ih=>O⟨e,q⟩:=x;E⟨k _ _ (.inl rfl) e,ih q⟩
 |tbl ps=>
  have e:h.get? a=some {cls:=.none,data:=.fields ps}:=x
  show h'.get? a=some {cls:=.none,data:=.fields ps}
  E k a _ (.inl rfl) e
 |met f y=>
  have e:h.get? a=some (PySem.W.methodObj (.ref f) (.ref y)):=x
  show h'.get? a=some (PySem.W.methodObj (.ref f) (.ref y))
  E k a _ (.inl rfl) e
 |tab q=>
  O⟨ps,e,t,c⟩:=x
  R⟨ps,k _ _ (.inl rfl) e,t,fun pos cv z=>?_⟩
  O⟨c1,o1,vs,tt,e1,e2,r⟩:=c pos cv z
  E⟨c1,o1,vs,tt,e1,hz _ _ e2,r⟩
 |ext φ=>O⟨p,⟨o,e⟩,st⟩:=x;E⟨st _ _ p fun o q=>k _ _ (.inl rfl) q,⟨o,k _ _ (.inl rfl) e⟩,st⟩
ОCm.lt(x:Cm P w H h)(e:H a=some o):a<h.objs.size:=(x a o e).lt
ОCm.fresh(x:Cm P w H h)(e:h.objs.size<=a):H a=none:=by
 cases q:H a with
 |none=>rfl
 |some u=>E absurd (cu (x.lt q) e) (gv _)
ОCm.kept(x:Cm P w H h)(k:∀b u,h.get? b=some u->h'.get? b=some u):Cm P w H h':=fun a o e=>
 (x a o e).stay (fun b u _ q=>k b u q) (fun _ q=>q) fun _ _ q=>q
ОCm.laid(x:Cm P w H h)(k:∀b u,h.get? b=some u->h'.get? b=some u)(hp:h.objs.size<=a)(new:Z9 P w (Z5 H a o) h' a o):Cm P w (Z5 H a o) h':=fun b u e=>by
 have hn:=x.fresh hp
 by_cases hb:b=a
 ·subst hb;rw[Z3]at e;C e;E new
 ·rw[Zm hb]at e
  E(x b u e).stay (fun c v _ q=>k c v q) (fun c q=>by rw[Zm (Y0 q hn)];E q) fun c xs q=>by rw[Zm (Y0 q hn)];E q
end
ПRd(H:Hp)(a:am)(u:HO):Prop:=H a=some u\/∃o,H a=some (.frz o u)
ОRd.ok{P:bu}{w:cj}{H:Hp}{h:dr}{a:am}{u:HO}(r:Rd H a u)(x:Cm P w H h):Z9 P w H h a u:=by
 rcases r with r|⟨o,r⟩
 ·E x a u r
 ·O⟨_,q⟩:=x a _ r
  E q
ПHK(H:Hp)(a:am)(kvs:А (Key×V)):Prop:=∃ep,H a=some (.dK kvs ep)
ПHTt(H:Hp)(a:am)(kvs:А (А Key×V)):Prop:=∃ep bs,H a=some (.dT kvs ep bs)
ПRdK(H:Hp)(a:am)(kvs:А (Key×V)):Prop:=∃ep,Rd H a (.dK kvs ep)
ПRdT(H:Hp)(a:am)(kvs:А (А Key×V)):Prop:=∃ep bs,Rd H a (.dT kvs ep bs)
ОHK.rd{H:Hp}{a:am}{kvs:А (Key×V)}(h:HK H a kvs):RdK H a kvs:=let⟨ep,h⟩:=h;⟨ep,.inl h⟩
ПNk(kvs:А (А Key×V))(bs:А am)(k:А Key)(b:am):А Addr:=if(kvs.any fun kv=>decide (kv.1=k))=true then bs else bs++[b]
ОHTt.rd{H:Hp}{a:am}{kvs:А (А Key×V)}(h:HTt H a kvs):RdT H a kvs:=let⟨ep,bs,h⟩:=h;⟨ep,bs,.inl h⟩
ПMut:Б HO->В
 |some (.lst _)=>True
 |some (.dK _ _)=>True
 |some (.dT _ _ _)=>True
 |some (.dN _ _ _)=>True
 |some (.set _ _)=>True
 |some (.ins _ _ _)=>True
 |some (.ext _)=>True
 |_=>False
section
variable{P:bu}{w:cj}{H:Hp}{h h':dr}{x e:am}{o':HO}
ОCm.write(ok:Cm P w H h)(mu:Mut (H x))(he:e=x\/H e=some (.own x))(k:∀b u,b≠e->h.get? b=some u->h'.get? b=some u)(heo:∃u,h'.get? e=some u)
  (new:Z9 P w (Z5 H x o') h' x o'):Cm P w (Z5 H x o') h':=fun b u q=>by
 have nown:∀c y,H c=some (.own y)->c≠x:=fun c y r z=>by subst z;rw[r]at mu;E mu
 have ntup:∀c xs,H c=some (.tup xs)->c≠x:=fun c xs r z=>by subst z;rw[r]at mu;E mu
 by_cases hb:b=x
 ·subst hb;rw[Z3]at q;C q;E new
 ·rw[Zm hb]at q
  by_cases hbe:b=e
  ·have q':H b=some (.own x):=by
    rcases he with z|z
    ·E absurd (hbe.trans z) hb
    ·rw[hbe];E z
   rw[q]at q';C q'
   O⟨v,hv⟩:=heo
   E⟨v,by rw[hbe];E hv⟩
  ·R(ok b u q).stay (fun c v hc r=>k c v ?_ r) (fun c r=>by rw[Zm (nown c b r)];E r) (fun c xs r=>by rw[Zm (ntup c xs r)];E r) fun c o r=>by rw[Zm (fun z=>by subst z;rw[r]at mu;E mu)];E r
   rcases hc with rfl|hc
   ·E hbe
   ·rintro rfl
    rcases he with z|z
    ·E nown c b hc z
    ·rw[hc]at z;C z;E hb rfl
end
structure Un(fs ex:А am)(H H':Hp)(h h':dr):В where
 keep:∀b o,h.get? b=some o->H b=none->b∉fs->b∉ex->h'.get? b=some o
 slot:∀b o,h.get? b=some o->H b=none->b∈fs->b∉ex->∃sl,h'.get? b=some {o with slots:=sl}
 free:∀b o,h.get? b=some o->H b=none->b∉ex->H' b=none
 there:∀b o,h.get? b=some o->b∉ex->∃o',h'.get? b=some o'
 tups:∀b xs,H b=some (.tup xs)->H' b=some (.tup xs)
 frzs:∀b o u,H b=some (.frz o u)->H' b=some (.frz o u)
 tbls:∀b ps,H b=some (.tbl ps)->∃more,H' b=some (.tbl (ps++more))
section
variable{fs fs' ex ex':А am}{H H1 H2:Hp}{h h1 h2 h':dr}{a x e:am}{o:HO}
ОUn.any(u:Un fs ex H H1 h h1){b:am}{ob:Obj}(q:h.get? b=some ob)(n:H b=none)(hx:b∉ex):∃sl,h1.get? b=some {ob with slots:=sl}:=by
 by_cases hb:b∈fs
 ·E u.slot b ob q n hb hx
 ·E⟨ob.slots,u.keep b ob q n hb hx⟩
ОUn.kept(k:∀b u,h.get? b=some u->h'.get? b=some u):Un fs ex H H h h':=
 ⟨fun b ob q _ _ _=>k b ob q,fun b ob q _ _ _=>⟨ob.slots,k b ob q⟩,fun _ _ _ n _=>n,fun b ob q _=>⟨ob,k b ob q⟩,fun _ _ q=>q,fun _ _ _ q=>q,fun _ ps q=>⟨#[],by rw[q];simp⟩⟩
ОUn.refl:Un fs ex H H h h:=Un.kept fun _ _ q=>q
ОUn.laid(k:∀b u,h.get? b=some u->h'.get? b=some u)(hp:h.objs.size<=a)(hn:H a=none):Un fs ex H (Z5 H a o) h h' where
 keep:=fun b u q _ _ _=>k b u q
 slot:=fun b u q _ _ _=>⟨u.slots,k b u q⟩
 free:=fun b u q n _=>by rw[Zm (b4 (cu (bc q) hp))];E n
 there:=fun b u q _=>⟨u,k b u q⟩
 tups:=fun b xs q=>by rw[Zm (Y0 q hn)];E q
 frzs:=fun b u xs q=>by rw[Zm (Y0 q hn)];E q
 tbls:=fun b ps q=>⟨#[],by rw[Zm (Y0 q hn),q];simp⟩
ОUn.write(mu:Mut (H x))(he:e=x\/H e=some (.own x))(k:∀b u,b≠e->h.get? b=some u->h'.get? b=some u)(heo:∃u,h'.get? e=some u):Un fs ex H (Z5 H x o) h h':=by
 have hx:∀b,H b=none->b≠x:=fun b n z=>by subst z;rw[n]at mu;E mu
 have hb:∀b,H b=none->b≠e:=fun b n z=>by
  subst z
  rcases he with r|r
  ·E hx b n r
  ·rw[n]at r;C r
 have hm:∀b u,H b=some u->¬Mut (some u)->b≠x:=fun b u q nm z=>by subst z;rw[q]at mu;E nm mu
 R⟨fun b u q n _ _=>k b u (hb b n) q,fun b u q n _ _=>⟨u.slots,k b u (hb b n) q⟩,fun b u q n _=>by rw[Zm (hx b n)];E n,fun b u q _=>?_,
  fun b xs q=>by rw[Zm (hm b _ q fun z=>z)];E q,fun b u xs q=>by rw[Zm (hm b _ q fun z=>z)];E q,fun b ps q=>⟨#[],by rw[Zm (hm b _ q fun z=>z),q];simp⟩⟩
 by_cases hbe:b=e
 ·subst hbe;E heo
 ·E⟨u,k b u hbe q⟩
end
Пtrk(h:dr)(H:Hp):А Addr:=(cr h.objs.size).filter fun a=>(H a).isSome
ПKd(h:dr)(H:Hp):Heap:=PySem.W.hideAll h (trk h H)
ОZak(h:dr)(H:Hp):(Kd h H).objs.size=h.objs.size:=PySem.W.hideAll_size _ _
ОZb7{h:dr}{H:Hp}{b:am}{o:Obj}(e:h.get? b=some o)(n:H b=none):(Kd h H).get? b=some o:=
 PySem.W.hideAll_get _ e fun hm=>by
  have q:(H b).isSome=true:=(List.mem_filter.mp hm).2
  rw[n]at q;simp at q
ОZg2{h:dr}{H:Hp}{b:am}{o:Obj}(e:(Kd h H).get? b=some o):h.get? b=some o/\H b=none:=by
 have e':h.get? b=some o:=PySem.W.of_hideAll (trk h H) e
 R⟨e',?_⟩
 cases q:H b with
 |none=>rfl
 |some x=>
  have hm:b∈trk h H:=List.mem_filter.mpr ⟨cw.mpr (bc e'),by simp[q]⟩
  have z:(Kd h H).get? b=none:=PySem.W.hideAll_none (trk h H) hm
  rw[z]at e;C e
ПZg3(g h:dr)(L:am):А (am×Obj):=(cr h.objs.size).filterMap fun a=>if a=L\/(g.get? a).isSome=true then none else(h.get? a).map fun o=>(a,o)
Пrest(g h:dr)(L d:am):А (am×Obj):=(Zg3 g h L).filter fun p=>decide (p.1≠d)
structure Mod(K:af)(mg:Str->Б ah)(base:dr):В where
 kin:K.In base
 glob:base.Ns b6 mg
 blt:∃mb,base.Ns builtinsNs mb/\∀x:Str,x≠"__name__"->mb x=bootBuiltins x
 nolimit:base.NoLimit
set_option genInjectivity false in
structure Cx where
 prog:bu
 w:cj
 K:af
 mg:Str->Б ah
 base:dr
 A:ck
 N:А Str
 s₀:ak
 H₀:Hp
 env:Env
 outer:А Env
 stack:А Env
 ex:А am
 fn:Str->Bool
 calm:Bool
 pn:А (am×Obj)
 xe:ah->ak->В
Пfrs(l:А Env):А Addr:=l.filterMap (·.frame)
noncomputable abbrev Cx.fs(X:Cx):А Addr:=frs X.outer
ПSv(sc:Scope)(x:Str):Prop:=sc.names.lookup x=some .local\/sc.names.lookup x=some .cell\/sc.names.lookup x=some .free
ПLoc(sc:Scope)(x:Str):Prop:=sc.names.lookup x=some .local\/sc.names.lookup x=some .cell
ПZos(env:Env)(h:dr)(m:Str->Б ah)(x:Str)(u:ah):Prop:=
 (env.kindOf x=some .local/\m x=some u)\/((env.kindOf x=some .cell\/env.kindOf x=some .free)/\∃c,env.cells.lookup x=some c/\h.IsCell c (some u))
set_option genInjectivity false in
structure Cx.Ok(X:Cx):В where
 mod:Mod X.K X.mg X.base
 kind:X.env.scope.kind= .function
 glob:X.env.globals=b6
 blt:X.env.builtins=builtinsNs
 above:X.s₀.heap.objs.size<=X.env.locals
 inj:∀x y c,X.env.cells.lookup x=some c->X.env.cells.lookup y=some c->x=y
 has:∀x,(X.env.kindOf x=some .cell\/X.env.kindOf x=some .free)->∃c,X.env.cells.lookup x=some c
 cab:∀x c,X.fn x=true->X.env.cells.lookup x=some c->X.s₀.heap.objs.size<=c
 hd:X.calm=true->X.A.handled=none
 frames:X.A.frames=some X.stack
 stk:X.stack=X.outer\/(X.stack=X.env::X.outer/\X.env.frame=some X.env.locals)
 exf:∀b∈X.ex,b≠X.env.locals/\∀x c,X.env.cells.lookup x=some c->c≠b
 bs:∀b o,X.base.get? b=some o->X.s₀.heap.get? b=some o/\X.H₀ b=none
 bsz:X.base.objs.size<=X.s₀.heap.objs.size
 noex:∀b o,X.base.get? b=some o->b∉X.ex
 exfs:∀b∈X.ex,b∉X.fs
 funs:X.s₀.heap.FunFrames X.base X.outer
 frf:∀b∈X.fs,X.H₀ b=none
structure Inv(X:Cx)(pins:А (am×Obj))(σ:А (Б V))(H:Hp)(s:ak):В where
 ok:X.Ok
 os:s.os=X.s₀.os
 bare:AllBare s.gens
 base:Un X.fs X.ex X.H₀ H X.s₀.heap s.heap
 loc:∃m,s.heap.Ns X.env.locals m/\∀(i:Г) (x:Str) (v:V),X.N[i]? =some x->σ[i]? =some (some v)->Sv X.env.scope x->∃u,Zp v u/\Zos X.env s.heap m x u
 cell:∀x c,X.env.cells.lookup x=some c->∃v,s.heap.IsCell c v
 free:H X.env.locals=none
 freeC:∀x c,X.env.cells.lookup x=some c->H c=none
 pin:∀p∈X.pn++pins,s.heap.get? p.1=some p.2/\H p.1=none/\p.1≠X.env.locals/\p.1∉X.fs/\∀v,p.2.data≠.cell v
 hok:Cm X.prog X.w H s.heap
 len:σ.length=X.N.length
section
variable{X:Cx}{pins:А (am×Obj)}{σ:А (Б V)}{H H':Hp}{s:ak}{h':dr}
ОCx.Ok.nofr(ok:X.Ok){b:am}{o:Obj}(e:X.base.get? b=some o):b∉X.fs:=fun hb=>by
 have:=(ok.funs.mem hb).1
 rw[e]at this;C this
ОInv.bs(I:Inv X pins σ H s):∀b o,X.base.get? b=some o->s.heap.get? b=some o/\H b=none:=fun b o e=>
 ⟨I.base.keep b o (I.ok.bs b o e).1 (I.ok.bs b o e).2 (I.ok.nofr e) (I.ok.noex b o e),I.base.free b o (I.ok.bs b o e).1 (I.ok.bs b o e).2 (I.ok.noex b o e)⟩
ОInv.bk(I:Inv X pins σ H s):∀b o,X.base.get? b=some o->s.heap.get? b=some o:=fun b o e=>(I.bs b o e).1
ОInv.mod(I:Inv X pins σ H s):Mod X.K X.mg X.base:=I.ok.mod
ОInv.kIn(I:Inv X pins σ H s):X.K.In s.heap:=I.ok.mod.kin.keeps I.bk
ОInv.lt(I:Inv X pins σ H s):X.env.locals<s.heap.objs.size:=let⟨_,hn,_⟩:=I.loc;hn.lt
ОInv.sz(I:Inv X pins σ H s):X.s₀.heap.objs.size<=s.heap.objs.size:=d3 I.ok.above (Nat.le_of_lt I.lt)
ОInv.nofs(I:Inv X pins σ H s){a:am}(h:s.heap.objs.size<=a):a∉X.fs:=fun hb=>by
 O⟨_,o,ho,_⟩:=I.ok.funs.mem hb
 E absurd (cu (bc ho) (d3 I.sz h)) (gv _)
ОInv.cne(I:Inv X pins σ H s):∀x c,X.env.cells.lookup x=some c->c≠X.env.locals:=fun x c e z=>by
 O⟨v,o,ho,hd⟩:=I.cell x c e
 O⟨m,⟨o',es,ep,ho',hd',_⟩,_⟩:=I.loc
 rw[z,ho']at ho;C ho;rw[hd']at hd;C hd
ОInv.funs(I:Inv X pins σ H s):s.heap.FunFrames X.base X.outer:=by
 have all:∀(l:А Env),(∀b∈frs l,b∈X.fs)->X.s₀.heap.FunFrames X.base l->s.heap.FunFrames X.base l:=by
  intro l
  induction l with
  |nil=>intro _ _;trivial
  |cons env r ih=>
   intro hs hl
   O⟨hk,⟨L,o,hf,hn,ho,hd⟩,hr⟩:=hl
   have hL:L∈X.fs:=hs L (by unfold frs;rw[List.filterMap_cons,hf];E aj)
   O⟨sl,e⟩:=I.base.slot L o ho (I.ok.frf L hL) hL fun z=>I.ok.exfs L z hL
   E⟨hk,⟨L,_,hf,hn,e,hd⟩,ih (fun b hb=>hs b (by unfold frs;rw[List.filterMap_cons,hf];E ar _ hb)) hr⟩
 E all X.outer (fun _ hb=>hb) I.ok.funs
ОInv.stack(I:Inv X pins σ H s):s.heap.FunFrames X.base X.stack:=by
 rcases I.ok.stk with e|⟨e,hf⟩
 ·rw[e];E I.funs
 ·rw[e]
  O⟨m,hn,_⟩:=I.loc
  R .cons (by rw[I.ok.kind];decide) hf hn ?_ I.funs
  E Heap.get?_none_of_le (d3 I.ok.bsz I.ok.above)
ОInv.stkSub(I:Inv X pins σ H s):∀b∈frs X.stack,b∈X.env.locals::X.fs:=fun b hb=>by
 rcases I.ok.stk with e|⟨e,hf⟩
 ·rw[e]at hb;E ar _ hb
 ·rw[e]at hb
  unfold frs at hb
  rw[List.filterMap_cons,hf]at hb
  E hb
ОInv.stkFree(I:Inv X pins σ H s):∀b∈frs X.stack,H b=none:=fun b hb=>by
 rcases bo.mp (I.stkSub b hb)with e|hb
 ·rw[e];E I.free
 ·O⟨_,o,ho,_⟩:=I.ok.funs.mem hb
  E I.base.free b o ho (I.ok.frf b hb) fun z=>I.ok.exfs b z hb
ОInv.step{g':Array GenState}{t':Г}{d':Drawn}{ch:А am}(I:Inv X pins σ H s)
  (hch:∀b∈ch,(b∈X.ex\/X.s₀.heap.objs.size<=b)/\b≠X.env.locals/\(∀x c,X.env.cells.lookup x=some c->c≠b)/\∀p∈X.pn++pins,p.1≠b)
  (keep:∀b o,b≠X.env.locals->b∉X.fs->b∉ch->s.heap.get? b=some o->H b=none->h'.get? b=some o)
  (slot:∀b o,b≠X.env.locals->b∈X.fs->b∉ch->s.heap.get? b=some o->H b=none->∃sl,h'.get? b=some {o with slots:=sl}) (free:∀b o,b∉ch->s.heap.get? b=some o->H b=none->H' b=none)
  (there:∀b o,b∉ch->s.heap.get? b=some o->∃o',h'.get? b=some o')
  (tups:∀b xs,H b=some (.tup xs)->H' b=some (.tup xs)) (frzs:∀b o u,H b=some (.frz o u)->H' b=some (.frz o u)) (tbls:∀b ps,H b=some (.tbl ps)->∃more,H' b=some (.tbl (ps++more)))
  (ns:∀m,s.heap.Ns X.env.locals m->h'.Ns X.env.locals m) (hok:Cm X.prog X.w H' h') (hg:AllBare g'):
  Inv X pins σ H' {s with heap:=h',gens:=g',drawn:=d',toks:=t'}:=by
 have neL:∀b o,X.s₀.heap.get? b=some o->b≠X.env.locals:=fun b o e=>b4 (cu (bc e) I.ok.above)
 have neC:∀b o,X.s₀.heap.get? b=some o->b∉X.ex->b∉ch:=fun b o e hx hb=>by
  rcases(hch b hb).1 with z|z
  ·E hx z
  ·E absurd (cu (bc e) z) (gv _)
 have cellK:∀x c,X.env.cells.lookup x=some c->∀v,s.heap.IsCell c v->h'.IsCell c v:=fun x c e v ⟨o,ho,hd⟩=>by
  have nch:c∉ch:=fun z=>(hch c z).2.2.1 x c e rfl
  by_cases hc:c∈X.fs
  ·O⟨sl,q⟩:=slot c o (I.cne x c e) hc nch ho (I.freeC x c e)
   E⟨_,q,hd⟩
  ·E⟨o,keep c o (I.cne x c e) hc nch ho (I.freeC x c e),hd⟩
 R⟨I.ok,I.os,hg,⟨fun b o e n hb hx=>?_,fun b o e n hb hx=>?_,fun b o e n hx=>?_,fun b o e hx=>?_,fun b xs e=>tups b xs (I.base.tups b xs e),fun b o xs e=>frzs b o xs (I.base.frzs b o xs e),fun b ps e=>?_⟩,?_,fun x c e=>?_,?_,fun x c e=>?_,fun p hp=>?_,hok,I.len⟩
 ·E keep b o (neL b o e) hb (neC b o e hx) (I.base.keep b o e n hb hx) (I.base.free b o e n hx)
 ·O⟨sl,e1⟩:=I.base.slot b o e n hb hx
  O⟨sl',e2⟩:=slot b _ (neL b o e) hb (neC b o e hx) e1 (I.base.free b o e n hx)
  E⟨sl',e2⟩
 ·O⟨o',e1⟩:=I.base.there b o e hx
  E free b o' (neC b o e hx) e1 (I.base.free b o e n hx)
 ·O⟨o',e1⟩:=I.base.there b o e hx
  E there b o' (neC b o e hx) e1
 ·O⟨m1,e1⟩:=I.base.tbls b ps e
  O⟨m2,e2⟩:=tbls b _ e1
  E⟨m1++m2,by rw[e2,Array.append_assoc]⟩
 ·O⟨m,hn,hl⟩:=I.loc
  R⟨m,ns m hn,fun i x v e1 e2 e3=>?_⟩
  O⟨u,r,l⟩:=hl i x v e1 e2 e3
  R⟨u,r,?_⟩
  rcases l with l|⟨k,c,e,z⟩
  ·E .inl l
  ·E .inr ⟨k,c,e,cellK x c e _ z⟩
 ·O⟨v,z⟩:=I.cell x c e
  E⟨v,cellK x c e v z⟩
 ·O⟨m,⟨o,_,_,ho,_⟩,_⟩:=I.loc
  E free _ o (fun z=>(hch _ z).2.1 rfl) ho I.free
 ·O⟨v,o,ho,hd⟩:=I.cell x c e
  E free c o (fun z=>(hch c z).2.2.1 x c e rfl) ho (I.freeC x c e)
 ·O⟨e,n,ne,nf,d⟩:=I.pin p hp
  have nch:p.1∉ch:=fun z=>(hch p.1 z).2.2.2 p hp rfl
  E⟨keep p.1 p.2 ne nf nch e n,free p.1 p.2 nch e n,ne,nf,d⟩
ОInv.un{t':Г}(I:Inv X pins σ H s)(u:Un X.fs [] H H' s.heap h')(hok:Cm X.prog X.w H' h'):Inv X pins σ H' {s with heap:=h',toks:=t'}:=by
 O⟨m,⟨o,es,ep,ho,r⟩,_⟩:=id I.loc
 O⟨sl,hL⟩:=u.any ho I.free Л
 E I.step (g':=s.gens) (d':=s.drawn) (ch:=[]) (fun _ z=>nomatch z) (fun b o _ hb _ e n=>u.keep b o e n hb Л) (fun b o _ hb _ e n=>u.slot b o e n hb Л) (fun b o _ e n=>u.free b o e n Л) (fun b o _ e=>u.there b o e Л) u.tups u.frzs u.tbls (fun m' hm=>by
  O⟨o',es',ep',ho',r'⟩:=hm
  rw[ho]at ho';C ho'
  E⟨_,es',ep',hL,r'⟩) hok I.bare
ОInv.call{g':Array GenState}{t':Г}{d':Drawn}{ch:А am}(I:Inv X pins σ H s)(u:Un (frs X.stack) ch H H' s.heap h')(hok:Cm X.prog X.w H' h')(hg:AllBare g')
  (hch:∀b∈ch,(b∈X.ex\/X.s₀.heap.objs.size<=b)/\b≠X.env.locals/\(∀x c,X.env.cells.lookup x=some c->c≠b)/\∀p∈X.pn++pins,p.1≠b):
  Inv X pins σ H' {s with heap:=h',gens:=g',drawn:=d',toks:=t'}:=by
 O⟨m,⟨o,es,ep,ho,r⟩,_⟩:=id I.loc
 O⟨sl,hL⟩:=u.any ho I.free fun z=>(hch _ z).2.1 rfl
 E I.step (ch:=ch) hch (fun b o hL hb hc e n=>u.keep b o e n (fun z=>(bo.mp (I.stkSub b z)).elim hL hb) hc) (fun b o _ _ hc e n=>u.any e n hc) (fun b o hc e n=>u.free b o e n hc) (fun b o hc e=>u.there b o e hc) u.tups u.frzs u.tbls (fun m' hm=>by
  O⟨o',es',ep',ho',r'⟩:=hm
  rw[ho]at ho';C ho'
  E⟨_,es',ep',hL,r'⟩) hok hg
ОInv.turned{t':Г}{it:am}(I:Inv X pins σ H s)(k:∀b o,b≠it->s.heap.get? b=some o->h'.get? b=some o)(hn:H it=none)(hL:it≠X.env.locals)
  (h1:it∈X.ex\/X.s₀.heap.objs.size<=it) (h2:∀x c,X.env.cells.lookup x=some c->c≠it) (h3:∀p∈X.pn++pins,p.1≠it):Inv X pins σ H {s with heap:=h',toks:=t'}:=by
 have nit:∀b u,H b=some u->b≠it:=fun b u e z=>by rw[z,hn]at e;C e
 R I.step (g':=s.gens) (d':=s.drawn) (ch:=[it]) (fun b hb=>?_) (fun b o _ _ hc e _=>k b o (fun z=>hc (by simp[z])) e) (fun b o _ _ hc e _=>⟨o.slots,k b o (fun z=>hc (by simp[z])) e⟩) (fun _ _ _ _ n=>n)
  (fun b o hc e=>⟨o,k b o (fun z=>hc (by simp[z])) e⟩) (fun _ _ e=>e) (fun _ _ _ e=>e) (fun b ps e=>⟨#[],by rw[e];simp⟩) (fun m hm=>?_) (fun b u e=>?_) I.bare
 ·have e:b=it:=by simpa using hb
  subst e
  E⟨h1,hL,h2,h3⟩
 ·O⟨o,es,ep,ho,r⟩:=hm
  E⟨o,es,ep,k _ o (Ne.symm hL) ho,r⟩
 ·R(I.hok b u e).stay (fun c v hc q=>k c v ?_ q) (fun _ q=>q) fun _ _ q=>q
  rcases hc with z|z
  ·rw[z];E nit b u e
  ·E nit c _ z
ОInv.tok(I:Inv X pins σ H s)(t:Г):Inv X pins σ H {s with toks:=t}:=I.un (h':=s.heap) (t':=t) Un.refl I.hok
ОInv.kept{t':Г}(I:Inv X pins σ H s)(k:∀b u,s.heap.get? b=some u->h'.get? b=some u):Inv X pins σ H {s with heap:=h',toks:=t'}:=I.un (Un.kept k) (I.hok.kept k)
ОInv.laid{a:am}{o:HO}{t':Г}(I:Inv X pins σ H s)(k:∀b u,s.heap.get? b=some u->h'.get? b=some u)(hp:s.heap.objs.size<=a)(new:Z9 X.prog X.w (Z5 H a o) h' a o):
  Inv X pins σ (Z5 H a o) {s with heap:=h',toks:=t'}:=I.un (Un.laid k hp (I.hok.fresh hp)) (I.hok.laid k hp new)
ОInv.write{x e:am}{o:HO}{t':Г}(I:Inv X pins σ H s)(mu:Mut (H x))(he:e=x\/H e=some (.own x))(k:∀b u,b≠e->s.heap.get? b=some u->h'.get? b=some u)(heo:∃u,h'.get? e=some u)
  (new:Z9 X.prog X.w (Z5 H x o) h' x o):Inv X pins σ (Z5 H x o) {s with heap:=h',toks:=t'}:=I.un (Un.write mu he k heo) (I.hok.write mu he k heo new)
ОInv.pins_of{pins':А (am×Obj)}(I:Inv X pins σ H s)(h:∀p∈pins',s.heap.get? p.1=some p.2/\H p.1=none/\p.1≠X.env.locals/\p.1∉X.fs/\∀v,p.2.data≠.cell v):Inv X pins' σ H s:=
 ⟨I.ok,I.os,I.bare,I.base,I.loc,I.cell,I.free,I.freeC,fun p hp=>(cn.mp hp).elim (fun z=>I.pin p (List.mem_append_left _ z)) (h p),I.hok,I.len⟩
ОNl{N:А Str}(hN:N.Nodup){i j:Г}{x:Str}(a:N[i]? =some x)(b:N[j]? =some x):i=j:=by
 O⟨h1,e1⟩:=ax.mp a
 O⟨h2,e2⟩:=ax.mp b
 E(List.getElem_inj hN).mp (e1.trans e2.symm)
ОE5{M:Model}{A:ck}{E:ah->ak->В}{i:Г}{x:Str}{v:V}{u:ah}{Q:Unit->ak->В}(I:Inv X pins σ H s)(hN:X.N.Nodup)(hi:X.N[i]? =some x)(hx:Loc X.env.scope x)(r:Zp v u)
  (h:∀s',Inv X pins (σ.set i (some v)) H s'->(∃a,g8 a s.heap s'.heap/\(a=X.env.locals\/X.env.cells.lookup x=some a))->Q () s') (hf:X.fn x=true\/X.env.scope.names.lookup x=some .local:=by first|E .inl rfl|E .inr rfl|assumption):ba M A (storeName X.env x u) Q E s:=by
 O⟨m,hn,hl⟩:=id I.loc
 have hcls:(X.env.scope.kind== .class|| (X.env.scope.kind== .module&&X.env.locals !=X.env.globals))=false:=by rw[I.ok.kind];rfl
 have hiσ:i<σ.length:=by rw[I.len];E(ax.mp hi).1
 have cne:=I.cne
 have tracked:∀{a:am} {h':dr},(∃o,s.heap.get? a=some o/\H a=none)->g8 a s.heap h'->Cm X.prog X.w H h':=fun{a h'} ha hs b ob e=>by
  O⟨_,_,hfree⟩:=ha
  R(I.hok b ob e).stay (fun c w' hc q=>(hs.2 c ?_).trans q) (fun _ q=>q) fun _ _ q=>q
  rintro rfl
  rcases hc with rfl|hc
  ·rw[hfree]at e;C e
  ·rw[hfree]at hc;C hc
 rcases hx with hk|hk
 ·R wpAny_storeName_local hk hn (fun h' hn' hs=>?_) hcls
  O⟨oL,_,_,hoL,_⟩:=id hn
  R h _ ⟨I.ok,I.os,I.bare,⟨fun b o e n hb hx=>?_,fun b o e n hb hx=>?_,I.base.free,fun b o e hx=>?_,I.base.tups,I.base.frzs,I.base.tbls⟩,⟨_,hn',fun j y v' e1 e2 e3=>?_⟩,fun y c e=>?_,I.free,I.freeC,fun p hp=>?_,tracked ⟨oL,hoL,I.free⟩ hs,by simpa using I.len⟩ ⟨_,hs,.inl rfl⟩
  ·E(hs.2 b (b4 (cu (bc e) I.ok.above))).trans (I.base.keep b o e n hb hx)
  ·O⟨sl,e1⟩:=I.base.slot b o e n hb hx
   E⟨sl,(hs.2 b (b4 (cu (bc e) I.ok.above))).trans e1⟩
  ·O⟨o',e1⟩:=I.base.there b o e hx
   E⟨o',(hs.2 b (b4 (cu (bc e) I.ok.above))).trans e1⟩
  ·by_cases hj:j=i
   ·subst hj
    rw[hi]at e1;C e1
    rw[d5 hiσ]at e2
    C e2
    E⟨u,r,.inl ⟨hk,by simp⟩⟩
   ·rw[d6 (Ne.symm hj)]at e2
    O⟨u',r',q⟩:=hl j y v' e1 e2 e3
    R⟨u',r',?_⟩
    rcases q with⟨k,e⟩|⟨k,c,e,z⟩
    ·R .inl ⟨k,?_⟩
     have:y≠x:=fun e=>hj (Nl hN e1 (e▸hi))
     simp[this,e]
    ·E .inr ⟨k,c,e,z.sameBut hs (cne y c e)⟩
  ·O⟨w',z⟩:=I.cell y c e
   E⟨w',z.sameBut hs (cne y c e)⟩
  ·O⟨e,n,ne,nf,d⟩:=I.pin p hp
   E⟨(hs.2 p.1 ne).trans e,n,ne,nf,d⟩
 ·have hfn:X.fn x=true:=by
   rcases hf with z|z
   ·E z
   ·rw[z]at hk;C hk
  O⟨c,hc⟩:=I.ok.has x (.inl hk)
  O⟨w',z⟩:=I.cell x c hc
  R wpAny_storeName_cell I.ok.kind hk hc z (fun h' hc' hs=>?_)
  O⟨oc,hoc,hocd⟩:=id z
  R h {s with heap:=h'} ⟨I.ok,I.os,I.bare,⟨fun b o e n hb hx=>?_,fun b o e n hb hx=>?_,I.base.free,fun b o e hx=>?_,I.base.tups,I.base.frzs,I.base.tbls⟩,⟨m,hn.sameBut hs (Ne.symm (cne x c hc)),fun j y v' e1 e2 e3=>?_⟩,fun y c' e=>?_,I.free,I.freeC,fun p hp=>?_,tracked ⟨oc,hoc,I.freeC x c hc⟩ hs,by simpa using I.len⟩ ⟨c,hs,.inr hc⟩
  ·E(hs.2 b (b4 (cu (bc e) (I.ok.cab x c hfn hc)))).trans (I.base.keep b o e n hb hx)
  ·O⟨sl,e1⟩:=I.base.slot b o e n hb hx
   E⟨sl,(hs.2 b (b4 (cu (bc e) (I.ok.cab x c hfn hc)))).trans e1⟩
  ·O⟨o',e1⟩:=I.base.there b o e hx
   E⟨o',(hs.2 b (b4 (cu (bc e) (I.ok.cab x c hfn hc)))).trans e1⟩
  ·by_cases hj:j=i
   ·subst hj
    rw[hi]at e1;C e1
    rw[d5 hiσ]at e2
    C e2
    E⟨u,r,.inr ⟨.inl hk,c,hc,hc'⟩⟩
   ·rw[d6 (Ne.symm hj)]at e2
    O⟨u',r',q⟩:=hl j y v' e1 e2 e3
    R⟨u',r',?_⟩
    rcases q with q|⟨k,c',e,z'⟩
    ·E .inl q
    ·R .inr ⟨k,c',e,z'.sameBut hs ?_⟩
     rintro rfl
     E hj (Nl hN e1 (I.ok.inj _ _ _ e hc▸hi))
  ·by_cases hcc:c'=c
   ·subst hcc;E⟨_,hc'⟩
   ·O⟨w2,z2⟩:=I.cell y c' e
    E⟨w2,z2.sameBut hs hcc⟩
  ·O⟨e,n,ne,nf,d⟩:=I.pin p hp
   R⟨(hs.2 p.1 ?_).trans e,n,ne,nf,d⟩
   intro q
   rw[q,hoc]at e
   have q':oc=p.2:=dm.inj e
   E d w' (by rw[<-q'];E hocd)
ОNm{M:Model}{A:ck}{E:ah->ak->В}{i:Г}{x:Str}{v:V}{u:ah}{Q:Unit->ak->В}(I:Inv X pins σ H s)(hN:X.N.Nodup)(hi:X.N[i]? =some x)(hx:Loc X.env.scope x)(r:Zp v u)
  (h:∀s',Inv X pins (σ.set i (some v)) H s'->Q () s') (hf:X.fn x=true\/X.env.scope.names.lookup x=some .local:=by first|E .inl rfl|E .inr rfl|assumption):ba M A (storeName X.env x u) Q E s:=
 E5 I hN hi hx r (fun s' I' _=>h s' I') hf
ОInv.call'{s':ak}{ch:А am}(I:Inv X pins σ H s)(ho:s'.os=s.os)(u:Un (frs X.stack) ch H H' s.heap s'.heap)(hok:Cm X.prog X.w H' s'.heap)(hg:AllBare s'.gens)
  (hch:∀b∈ch,(b∈X.ex\/X.s₀.heap.objs.size<=b)/\b≠X.env.locals/\(∀x c,X.env.cells.lookup x=some c->c≠b)/\∀p∈X.pn++pins,p.1≠b):Inv X pins σ H' s':=by
 O⟨h',g',d',t',o'⟩:=s'
 have e:o'=s.os:=ho
 subst e
 E I.call (g':=g') (t':=t') (d':=d') u hok hg hch
end
noncomputable abbrev XK:=ah->Б am->Hp->В
noncomputable abbrev St:=А (Б V)
noncomputable abbrev VK:=V->Hp->В
noncomputable abbrev TE:=St->Hp->VK->В
noncomputable abbrev TT:=St->Hp->(Bool->Hp->В)->В
noncomputable abbrev TA:=St->Hp->(А V->Hp->В)->В
set_option genInjectivity false in
structure Yz where
 nx:St->Hp->В
 rt:VK
 bk:St->Hp->Prop:=fun _ _=>False
 ct:St->Hp->Prop:=fun _ _=>False
noncomputable abbrev TS:=Yz->St->Hp->В
ПEP(X:Cx)(pins:А (am×Obj))(σ:St)(Q:VK)(u:ah)(s':ak):Prop:=∃v H',Inv X pins σ H' s'/\Zp v u/\Q v H'
ПTP(X:Cx)(pins:А (am×Obj))(σ:St)(Q:Bool->Hp->В)(b:Bool)(s':ak):Prop:=∃H',Inv X pins σ H' s'/\Q b H'
ПAP(X:Cx)(pins:А (am×Obj))(σ:St)(Q:А V->Hp->В)(us:А ah)(s':ak):Prop:=∃vs H',Inv X pins σ H' s'/\Zw vs us/\Q vs H'
ПSP(X:Cx)(pins:А (am×Obj))(D:Yz)(f:Flow)(s':ak):Prop:=
 match f with
 | .next=>∃σ' H',Inv X pins σ' H' s'/\D.nx σ' H'
 | .brk=>∃σ' H',Inv X pins σ' H' s'/\D.bk σ' H'
 | .cont=>∃σ' H',Inv X pins σ' H' s'/\D.ct σ' H'
 | .ret u=>∃v σ' H',Inv X pins σ' H' s'/\Zp v u/\D.rt v H'
ПPE(X:Cx)(e:ci)(t:TE):Prop:=
 ∀(pins:А (am×Obj)) (s:ak) (σ:St) (H:Hp) (Q:VK),Inv X pins σ H s->t σ H Q->ba (bp X.prog X.w) X.A (f9 e X.env) (EP X pins σ Q) X.xe s
ПPT(X:Cx)(e:ci)(t:TT):Prop:=
 ∀(pins:А (am×Obj)) (s:ak) (σ:St) (H:Hp) (Q:Bool->Hp->В),Inv X pins σ H s->t σ H Q->ba (bp X.prog X.w) X.A (isTrue e X.env (f9 e X.env)) (TP X pins σ Q) X.xe s
ПPW(X:Cx)(e:ci)(t:TT):Prop:=
 ∀(whole:Sem ah) (pins:А (am×Obj)) (s:ak) (σ:St) (H:Hp) (Q:Bool->Hp->В),Inv X pins σ H s->t σ H Q->ba (bp X.prog X.w) X.A (isTrue e X.env whole) (TP X pins σ Q) X.xe s
ОPW.pt{X:Cx}{e:ci}{t:TT}(h:PW X e t):PT X e t:=h _
ПPA(X:Cx)(es:А ci)(t:TA):Prop:=
 ∀(pos:Pos) (pins:А (am×Obj)) (s:ak) (σ:St) (H:Hp) (Q:А V->Hp->В),Inv X pins σ H s->t σ H Q->ba (bp X.prog X.w) X.A (spliced (f7 pos (ay es X.env))) (AP X pins σ Q) X.xe s
ПPS(X:Cx)(st:Stmt)(t:TS):Prop:=
 ∀(pins:А (am×Obj)) (s:ak) (σ:St) (H:Hp) (D:Yz),Inv X pins σ H s->t D σ H->ba (bp X.prog X.w) X.A (exec st X.env) (SP X pins D) X.xe s
ПGp(X:Cx)(st:А Stmt)(t:TS):Prop:=
 ∀(pins:А (am×Obj)) (s:ak) (σ:St) (H:Hp) (D:Yz),Inv X pins σ H s->t D σ H->ba (bp X.prog X.w) X.A (execs st X.env) (SP X pins D) X.xe s
ОWo{α:Type}{t:Sem α}{Q Q':α->ak->В}{M:Model}{A:ck}{E:ah->ak->В}{s:ak}(h:ba M A t Q E s)(hQ:∀a s,Q a s->Q' a s):ba M A t Q' E s:=wpAny_mono h hQ fun _ _ x=>x
section
variable{X:Cx}
ПQ8(i:Г):TE:=fun σ H Q=>∃v,σ[i]? =some (some v)/\Q v H
ПtC(v:V):TE:=fun _ H Q=>Q v H
ОJo{i:Г}{x:Str}{pos:Pos}(hN:X.N[i]? =some x)(hv:Sv X.env.scope x)(hd:(x==("__debug__":Str))=false:=by decide)(hcd:(x==("__classdict__":Str))=false:=by decide):PE X (.Name x pos) (Q8 i):=by
 intro pins s σ H Q I h
 O⟨v,e,h⟩:=h
 O⟨m,hn,hl⟩:=I.loc
 O⟨u,r,l⟩:=hl i x v hN e hv
 have fin:EP X pins σ Q u s:=⟨v,H,I,r,h⟩
 rcases l with⟨hk,hm⟩|⟨hk,c,hc,hcell⟩
 ·E wpAny_Name (wpAny_loadName_local I.ok.kind hk hn hm fin) hd
 ·rcases hk with hk|hk
  ·E wpAny_Name (wpAny_loadName_cell I.ok.kind hk hc hcell fin) hd
  ·E wpAny_Name (wpAny_loadName_free I.ok.kind hk hc hcell fin hcd) hd
ОSw{i j pos}:PE X (.Constant (.int i) j pos) (tC (.int i)):=fun _ _ _ H _ I h=>wpAny_Constant_int ⟨.int i,H,I.tok _,⟨_,rfl⟩,h⟩
ОZot{b j pos}:PE X (.Constant (.bool b) j pos) (tC (.bl b)):=fun _ _ _ H _ I h=>Constant_bool ⟨.bl b,H,I,rfl,h⟩
ОKe{x j pos}:PE X (.Constant (.str x) j pos) (tC (.str x)):=fun _ _ _ H _ I h=>Calls.Constant_str ⟨.str x,H,I.tok _,⟨_,rfl⟩,h⟩
ПGl(X:Cx)(x:Str):Prop:=X.env.kindOf x=some .globalImplicit
ОZg4{E:ah->ak->В}{pins:А (am×Obj)}{s:ak}{σ:St}{H:Hp}{x:Str}{u:ah}{pos:Pos}{Q:ah->ak->В}(I:Inv X pins σ H s)(hg:Gl X x)(hm:X.mg x=some u)(h:Q u s)
  (hd:(x==("__debug__":Str))=false:=by decide):ba (bp X.prog X.w) X.A (f9 (.Name x pos) X.env) Q E s:=
 Calls.Name_function_global I.ok.kind hg (Calls.loadGlobal_global (by rw[I.ok.glob];E I.mod.glob.keeps I.bk) hm h) hd
ОBj{E:ah->ak->В}{pins:А (am×Obj)}{s:ak}{σ:St}{H:Hp}{x:Str}{u:ah}{pos:Pos}{Q:ah->ak->В}(I:Inv X pins σ H s)(hg:Gl X x)(hm:X.mg x=none)(hv:bootBuiltins x=some u)(h:Q u s)
  (hn:x≠"__name__":=by decide) (hd:(x==("__debug__":Str))=false:=by decide):ba (bp X.prog X.w) X.A (f9 (.Name x pos) X.env) Q E s:=by
 O⟨mb,h1,h2⟩:=I.mod.blt
 E Calls.Name_function_global I.ok.kind hg (Calls.loadGlobal_builtin (by rw[I.ok.glob];E I.mod.glob.keeps I.bk) hm (by rw[I.ok.blt];E h1.keeps I.bk) ((h2 x hn).trans hv) h) hd
ОZg5{x:Str}{v:V}{u:ah}{pos:Pos}(hg:Gl X x)(hm:X.mg x=none)(hv:bootBuiltins x=some u)(r:Zp v u)(hn:x≠"__name__":=by decide)(hd:(x==("__debug__":Str))=false:=by decide):PE X (.Name x pos) (tC v):=
 fun _ _ _ H _ I h=>Bj I hg hm hv ⟨v,H,I,r,h⟩ hn hd
Пt2I(ta tb:TE)(k:Int->Int->Hp->В):St->Hp->Prop:=fun σ H=>ta σ H fun x H1=>tb σ H1 fun y H2=>∃i j,x= .int i/\y= .int j/\k i j H2
ПZyg(ta tb:TE):TE:=fun σ H Q=>t2I ta tb (fun i j H2=>Q (.int (i+j)) H2) σ H
ПZyh(ta tb:TE):TE:=fun σ H Q=>t2I ta tb (fun i j H2=>Q (.int (i- j)) H2) σ H
ПZyi(ta tb:TE):TE:=fun σ H Q=>t2I ta tb (fun i j H2=>(-(2^64)<i/\i<2^64)/\Q (.int (i*j)) H2) σ H
variable{a b:ci}{ta tb:TE}{pos:Pos}
ПPC(X:Cx)(op:CmpOp)(a b:ci)(t:TE):Prop:=
 ∀(pins:А (am×Obj)) (s:ak) (σ:St) (H:Hp) (Q:VK),Inv X pins σ H s->t σ H Q->
  ba (bp X.prog X.w) X.A (f9 a X.env) (fun v s₁=>ba (bp X.prog X.w) X.A (f9 b X.env) (fun u s₂=>ba (bp X.prog X.w) X.A (gx op v u) (EP X pins σ Q) X.xe s₂) X.xe s₁) X.xe s
ПZam(p:Int->Int->Bool)(ta tb:TE):TE:=fun σ H Q=>t2I ta tb (fun i j H2=>Q (.bl (p i j)) H2) σ H
noncomputable abbrev tLt:TE->TE->TE:=Zam fun i j=>decide (i<j)
noncomputable abbrev tLe:TE->TE->TE:=Zam fun i j=>decide (i<=j)
noncomputable abbrev tGt:TE->TE->TE:=Zam fun i j=>decide (j<i)
noncomputable abbrev tGe:TE->TE->TE:=Zam fun i j=>decide (j<=i)
noncomputable abbrev Zyj:TE->TE->TE:=Zam fun i j=>decide (i=j)
noncomputable abbrev Zyk:TE->TE->TE:=Zam fun i j=>!decide (i=j)
ПZyl(ta:TE):TE:=fun σ H Q=>ta σ H fun x H1=>Q (.bl (decide (x= .non))) H1
ПZwf(ta:TE):TE:=fun σ H Q=>ta σ H fun x H1=>Q (.bl (!decide (x= .non))) H1
ПtB(t:TE):TT:=fun σ H Q=>t σ H fun x H1=>∃c,x= .bl c/\Q c H1
ОZlp{e:ci}{t:TE}(h:PE X e t)(he:∀whole,isTrue e X.env whole=(do let v<-whole;standAt e.pos;holding [v] (truthy v)):=by intro _;rfl):PT X e (tB t):=by
 intro pins s σ H Q I hw
 R isTrue_plain (Wo (h pins s σ H _ I hw) fun v s1 ⟨x,H1,I1,r1,q1⟩=>?_) (he _)
 O⟨d,rfl,q⟩:=q1
 C r1
 E wpAny_truthy_bool ⟨H1,I1,q⟩
variable{tA tB':TT}{rest:А ci}
ПZym(t u:TT):TT:=fun σ H Q=>t σ H fun c H1=>if c=true then u σ H1 Q else Q false H1
ПtOr(t u:TT):TT:=fun σ H Q=>t σ H fun c H1=>if c=true then Q true H1 else u σ H1 Q
ПZou(t:TT):TT:=fun σ H Q=>t σ H fun c H1=>Q (!c) H1
ОZlq(ha:PT X a tA):PW X (.BoolOp .Or [a] pos) tA:=by
 intro wh pins s σ H Q I h
 R isTrue_or (Wo (ha pins s σ H Q I h) fun c s1 e=>?_)
 cases c with
 |false=>E isTrue_or_nil e
 |true=>E e
ОZov(ha:PT X a tA)(hb:PW X (.BoolOp .Or (b::rest) pos) tB'):PW X (.BoolOp .Or (a::b::rest) pos) (tOr tA tB'):=by
 intro wh pins s σ H Q I h
 R isTrue_or (Wo (ha pins s σ H _ I h) fun c s1 zq9=>?_)
 O⟨H1,I1,q1⟩:=zq9
 cases c with
 |true=>E⟨H1,I1,q1⟩
 |false=>E hb wh pins s1 σ H1 Q I1 q1
ОZlr(ha:PT X a tA):PT X (.UnaryOp .Not a pos) (Zou tA):=by
 intro pins s σ H Q I h
 E isTrue_not (ha pins s σ H (fun c H1=>Q (!c) H1) I h)
ПZwh(ta tb:TE):TE:=fun σ H Q=>ta σ H fun x H1=>∃c,x= .bl c/\if c=true then tb σ H1 Q else Q (.bl false) H1
ПZyn(ta tb:TE):TE:=fun σ H Q=>ta σ H fun x H1=>∃c,x= .bl c/\if c=true then Q (.bl true) H1 else tb σ H1 Q
ПZwi(ta:TE):TE:=fun σ H Q=>ta σ H fun x H1=>∃c,x= .bl c/\Q (.bl (!c)) H1
ПtIf(t:TT)(ta tb:TE):TE:=fun σ H Q=>t σ H fun c H1=>if c=true then ta σ H1 Q else tb σ H1 Q
end
ПWs(K:af)(H:Hp)(a:am)(xs:А V):Prop:=
 Rd H a (.lst xs)\/
  ∃(o:Obj) (its:Array ah) (n:Г),K.lookup a=some o/\o.cls= .type "list"/\o.dict=none/\o.data= .seq its n/\its.size<=sizeLine/\Zw xs its.toList
ПUh(K:af)(H:Hp)(a:am)(xs:А V):Prop:=
 Rd H a (.tup xs)\/
  ∃(o:Obj) (its:Array ah) (n:Г),K.lookup a=some o/\o.cls= .type "tuple"/\o.data= .seq its n/\its.size<=sizeLine/\Zw xs its.toList
ПZtp:ah->Б V
 | .none=>some .non
 | .bool b=>some (.bl b)
 | .int i _=>some (.int i)
 | .str x _=>some (.str x)
 | .bytes b _=>some (.byt b)
 | .float b _=>some (.flt b)
 | .ref a=>some (.ref a)
 | .type n=>some (.ty n)
 |_=>none
ОZp.abs{x:V}{u:ah}(r:Zp x u):Ztp u=some x:=by
 cases x with
 |non=>C r;rfl
 |bl _=>C r;rfl
 |int _=>O⟨t,rfl⟩:=r;rfl
 |str _=>O⟨t,rfl⟩:=r;rfl
 |byt _=>O⟨t,rfl⟩:=r;rfl
 |flt _=>O⟨t,rfl⟩:=r;rfl
 |ref _=>C r;rfl
 |ty _=>C r;rfl
ОZp.inj{x y:V}{u:ah}(r:Zp x u)(q:Zp y u):x=y:=dm.inj (r.abs.symm.trans q.abs)
ОZw.inj{xs:А V}:∀{ys:А V} {us:А ah},Zw xs us->Zw ys us->xs=ys:=by
 induction xs with
 |nil=>intro ys us h g;C h;C g;rfl
 |cons x xs ih=>
  intro ys us h g
  cases h with
  |cons r t=>
   cases g with
   |cons r' t'=>rw[r.inj r',ih t t']
section
variable{X:Cx}{pins:А (am×Obj)}{σ:St}{H:Hp}{s:ak}{a:am}{xs ys:А V}
ОInv.list(I:Inv X pins σ H s)(h:Ws X.K H a xs):∃its:А ah,Zw xs its/\PlainL s.heap a its.toArray/\xs.length<=sizeLine:=by
 rcases h with h|⟨o,its,n,hk,hc,hd,hs,hz,r⟩
 ·O⟨z,its,n,r,e⟩:=h.ok I.hok
  E⟨its,r,⟨_,n,e,rfl,rfl,rfl⟩,z⟩
 ·R⟨its.toList,r,⟨o,n,I.kIn a o hk,hc,hd,by simpa using hs⟩,?_⟩
  have e:=r.length
  simp only[aw]at e
  W
ОInv.tuple(I:Inv X pins σ H s)(h:Uh X.K H a xs):∃its:А ah,Zw xs its/\IsTup s.heap a its.toArray/\xs.length<=sizeLine:=by
 rcases h with h|⟨o,its,n,hk,hc,hs,hz,r⟩
 ·O⟨z,its,r,p⟩:=h.ok I.hok
  E⟨its,r,p,z⟩
 ·R⟨its.toList,r,⟨o,I.kIn a o hk,hc,n,by simpa using hs⟩,?_⟩
  have e:=r.length
  simp only[aw]at e
  W
ОInv.list_inj(I:Inv X pins σ H s)(h:Ws X.K H a xs)(h':Ws X.K H a ys):xs=ys:=by
 O⟨its,r,⟨o,n,e,_,_,d⟩,_⟩:=I.list h
 O⟨its',r',⟨o',n',e',_,_,d'⟩,_⟩:=I.list h'
 rw[e]at e';C e'
 rw[d]at d'
 injection d' with d1 _
 have:its=its':=by simpa using congrArg Array.toList d1
 subst this
 E r.inj r'
ОInv.tuple_inj(I:Inv X pins σ H s)(h:Uh X.K H a xs)(h':Uh X.K H a ys):xs=ys:=by
 O⟨its,r,⟨o,e,_,n,d⟩,_⟩:=I.tuple h
 O⟨its',r',⟨o',e',_,n',d'⟩,_⟩:=I.tuple h'
 rw[e]at e';C e'
 rw[d]at d'
 injection d' with d1 _
 have:its=its':=by simpa using congrArg Array.toList d1
 subst this
 E r.inj r'
end
noncomputable abbrev Cx.wish(X:Cx)(E:ah->ak->В):Cx:={X with xe:=E}
noncomputable abbrev Cx.nox(X:Cx):Cx:=X.wish fun _ _=>False
ОCx.Ok.wish{X:Cx}(ok:X.Ok)(E:ah->ak->В):(X.wish E).Ok:=
 ⟨ok.mod,ok.kind,ok.glob,ok.blt,ok.above,ok.inj,ok.has,ok.cab,ok.hd,ok.frames,ok.stk,ok.exf,ok.bs,ok.bsz,ok.noex,ok.exfs,ok.funs,ok.frf⟩
ОCx.Ok.unwish{X:Cx}{E:ah->ak->В}(ok:(X.wish E).Ok):X.Ok:=
 ⟨ok.mod,ok.kind,ok.glob,ok.blt,ok.above,ok.inj,ok.has,ok.cab,ok.hd,ok.frames,ok.stk,ok.exf,ok.bs,ok.bsz,ok.noex,ok.exfs,ok.funs,ok.frf⟩
section
variable{X:Cx}{pins:А (am×Obj)}{σ:St}{H:Hp}{s:ak}{E:ah->ak->В}
ОInv.wish(I:Inv X pins σ H s)(E:ah->ak->В):Inv (X.wish E) pins σ H s:=⟨I.ok.wish E,I.os,I.bare,I.base,I.loc,I.cell,I.free,I.freeC,I.pin,I.hok,I.len⟩
ОInv.unwish(I:Inv (X.wish E) pins σ H s):Inv X pins σ H s:=⟨I.ok.unwish,I.os,I.bare,I.base,I.loc,I.cell,I.free,I.freeC,I.pin,I.hok,I.len⟩
ОSP.unwish{D:Yz}{f:Flow}{s':ak}(h:SP (X.wish E) pins D f s'):SP X pins D f s':=by
 cases f with
 |next=>O⟨σ',H',I,q⟩:=h;E⟨σ',H',I.unwish,q⟩
 |brk=>O⟨σ',H',I,q⟩:=h;E⟨σ',H',I.unwish,q⟩
 |cont=>O⟨σ',H',I,q⟩:=h;E⟨σ',H',I.unwish,q⟩
 |ret u=>O⟨v,σ',H',I,r,q⟩:=h;E⟨v,σ',H',I.unwish,r,q⟩
ОGp.nox{st:А Stmt}{t:TS}(h:Gp X.nox st t):Gp X st t:=fun pins s σ H D I hw=>
 wpAny_mono (h pins s σ H D (I.wish _) hw) (fun _ _ q=>q.unwish) fun _ _ z=>False.elim z
end
section
variable{X:Cx}{st:Stmt}{rest:А Stmt}{t u:TS}{e:ci}{te:TE}{pos:Pos}
ПTg:TS:=fun D σ H=>D.nx σ H
ПTh(t u:TS):TS:=fun D σ H=>t {D with nx:=u D} σ H
ОXz:Gp X [] Tg:=fun _ _ σ H _ I h=>wpAny_execs_nil ⟨σ,H,I,h⟩
ОU2(h1:PS X st t)(h2:Gp X rest u):Gp X (st::rest) (Th t u):=by
 intro pins s σ H D I h
 R wpAny_execs_cons (Wo (h1 pins s σ H {D with nx:=u D} I h) fun f s1 q=>?_)
 cases f with
 |next=>
  O⟨σ',H',I',q⟩:=q
  E h2 pins s1 σ' H' D I' q
 |ret v=>E q
 |brk=>E q
 |cont=>E q
ОX4(h1:PS X st t):Gp X [st] t:=by
 intro pins s σ H D I h
 R wpAny_execs_cons (Wo (h1 pins s σ H D I h) fun f s1 q=>?_)
 cases f with
 |next=>E wpAny_execs_nil q
 |ret v=>E q
 |brk=>E q
 |cont=>E q
ПZtq:TS:=fun D σ H=>D.bk σ H
ПZwj:TS:=fun D σ H=>D.ct σ H
ОInv.quiet{pins:А (am×Obj)}{σ:St}{H:Hp}{s:ak}(I:Inv X pins σ H s):interactive X.env=false:=by simp[interactive,I.ok.kind]
ПBk(te:TE):TS:=fun D σ H=>te σ H fun _ H1=>D.nx σ H1
ОOd(he:PE X e te)(hs:swapsWith e none pos.line X.env=pure false:=by rfl):PS X (.Expr e pos) (Bk te):=by
 intro pins s σ H D I h
 E wpAny_Expr_any (Wo (he pins s σ H _ I h) fun v s1 ⟨x,H1,I1,r1,q1⟩=>⟨σ,H1,I1,q1⟩) I.quiet hs
ПZls(te:TE):TS:=fun D σ H=>te σ H D.rt
ОZb8(he:PE X e te):PS X (.Return (some e) pos) (Zls te):=by
 intro pins s σ H D I h
 E wpAny_Return_some (Wo (he pins s σ H _ I h) fun v s1 ⟨x,H1,I1,r1,q1⟩=>⟨x,σ,H1,I1,r1,q1⟩)
ПZwk:TS:=fun D _ H=>D.rt .non H
ПSx(c:TT)(t u:TS):TS:=fun D σ H=>c σ H fun b H1=>if b=true then t D σ H1 else u D σ H1
ОZjt{c:ci}{a b:А Stmt}{tc:TT}(hc:PT X c tc)(ha:Gp X a t)(hb:Gp X b u):PS X (.If c a b pos) (Sx tc t u):=by
 intro pins s σ H D I h
 R wpAny_If (Wo (hc pins s σ H _ I h) fun d s1 zq9=>?_)
 O⟨H1,I1,q1⟩:=zq9
 cases d with
 |true=>E ha pins s1 σ H1 D I1 q1
 |false=>E hb pins s1 σ H1 D I1 q1
ПZtr:TS:=fun _ _ _=>False
end
noncomputable abbrev TG:=V->St->Hp->(St->Hp->В)->В
noncomputable abbrev TGs:=А V->St->Hp->(St->Hp->В)->В
ПPG(X:Cx)(target:ci)(t:TG):Prop:=
 ∀(pins:А (am×Obj)) (s:ak) (σ:St) (H:Hp) (v:V) (u:ah) (Q:St->Hp->В),Inv X pins σ H s->Zp v u->t v σ H Q->
  ba (bp X.prog X.w) X.A (assign target X.env u) (fun _ s'=>∃σ' H',Inv X pins σ' H' s'/\Q σ' H') X.xe s
ПPGs(X:Cx)(ts:А ci)(t:TGs):Prop:=
 ∀(pins:А (am×Obj)) (s:ak) (σ:St) (H:Hp) (vs:А V) (us:А ah) (Q:St->Hp->В),Inv X pins σ H s->Zw vs us->t vs σ H Q->
  ba (bp X.prog X.w) X.A (assignInOrder ((assignEach ts X.env).map (·.2)) us) (fun _ s'=>∃σ' H',Inv X pins σ' H' s'/\Q σ' H') X.xe s
noncomputable abbrev Zlt:=V->V->V->Hp->(Hp->В)->В
ПZyo(X:Cx)(t:Zlt):Prop:=
 ∀(pins:А (am×Obj)) (s:ak) (σ:St) (H:Hp) (o i v:V) (ov iv u:ah) (Q:Hp->В),Inv X pins σ H s->Zp o ov->Zp i iv->Zp v u->t o i v H Q->
  ba (bp X.prog X.w) X.A (setItem ov iv u) (fun _ s'=>∃H',Inv X pins σ H' s'/\Q H') X.xe s
noncomputable abbrev TIp:=V->V->Hp->VK->В
ПPIp(X:Cx)(op:Operator)(t:TIp):Prop:=
 ∀(pins:А (am×Obj)) (s:ak) (σ:St) (H:Hp) (x y:V) (v u:ah) (Q:VK),Inv X pins σ H s->Zp x v->Zp y u->t x y H Q->
  ba (bp X.prog X.w) X.A (inplaceOp op v u) (EP X pins σ Q) X.xe s
section
variable{X:Cx}{pos:Pos}
ПUi(i:Г):TG:=fun v σ H Q=>Q (σ.set i (some v)) H
ОX5{i:Г}{x:Str}(hN:X.N.Nodup)(hi:X.N[i]? =some x)(hx:Loc X.env.scope x)(hf:X.fn x=true\/X.env.scope.names.lookup x=some .local:=by first|E .inl rfl|E .inr rfl|assumption):PG X (.Name x pos) (Ui i):=by
 intro pins s σ H v u Q I r h
 E wpAny_assign_Name (Nm I hN hi hx r (fun s' I'=>⟨_,H,I',h⟩) hf)
ПZow:TGs:=fun vs σ H Q=>vs=[]/\Q σ H
ПZju(t:TG)(u:TGs):TGs:=fun vs σ H Q=>∃v r,vs=v::r/\t v σ H fun σ' H'=>u r σ' H' Q
ОZg6:PGs X [] Zow:=by
 intro pins s σ H vs us Q I r h
 O⟨e,h⟩:=h
 subst e
 C r
 E assignInOrder_nil ⟨σ,H,I,h⟩
ОZca{e:ci}{es:А ci}{t:TG}{u:TGs}(h1:PG X e t)(h2:PGs X es u)
  (hs:(assignEach (e::es) X.env).map (·.2)=assign e X.env::(assignEach es X.env).map (·.2):=by rfl):PGs X (e::es) (Zju t u):=by
 intro pins s σ H vs us Q I r h
 O⟨v,vr,e1,h⟩:=h
 subst e1
 cases r with
 |cons r rr=>
  rw[hs]
  R assignInOrder_cons (Wo (h1 pins s σ H _ _ _ I r h) fun _ s1 zq9=>?_)
  O⟨σ1,H1,I1,q1⟩:=zq9
  E h2 pins s1 σ1 H1 _ _ Q I1 rr q1
ПZox(K:af)(n:Г)(t:TGs):TG:=fun v σ H Q=>∃a xs,v= .ref a/\Uh K H a xs/\xs.length=n/\t xs σ H Q
ОZlu{es:А ci}{k:Г}{t:TGs}{n:Г}(hc:X.calm=true)(h:PGs X es t)
  (hn:(assignEach es X.env).length=n:=by rfl) (hst:(assignEach es X.env).findIdx? (·.1)=none:=by rfl):PG X (.Tuple es k pos) (Zox X.K n t):=by
 intro pins s σ H v u Q I r hw
 O⟨a,xs,e1,hq,hl,hw⟩:=hw
 subst e1
 C r
 O⟨its,rv,ht,hz⟩:=I.tuple hq
 R assign_Tuple_tuple (I.ok.hd hc) ht (by simp[hn,<-hl,rv.length]) hst fun h' hx=>?_
 have I1:Inv X pins σ H {s with heap:=h'}:=I.kept (t':=s.toks) fun b o e=>hx b o (b4 (bc e)) e
 E h pins _ σ H xs _ Q I1 (by simpa using rv) hw
ПZyp(to ti:TE)(t:Zlt):TG:=fun v σ H Q=>to σ H fun o H1=>ti σ H1 fun i H2=>t o i v H2 fun H3=>Q σ H3
ПKf(te:TE)(g:TG):TS:=fun D σ H=>te σ H fun x H1=>g x σ H1 D.nx
ОZlv{tg e:ci}{te:TE}{g:TG}(he:PE X e te)(hg:PG X tg g)(hs:swapsWithSole [tg] e pos.line X.env=pure false:=by rfl)(hw:swappedStores [tg] e X.env=pure none:=by rfl)
  (h1:(assignEach [tg] X.env).map (·.2)=[assign tg X.env]:=by rfl):PS X (.Assign [tg] e pos) (Kf te g):=by
 intro pins s σ H D I h
 R wpAny_Assign_stores (Wo (he pins s σ H _ I h) fun v s1 ⟨x,H1,I1,r1,q1⟩=>?_) hs hw
 rw[h1]
 E Wo (hg pins s1 σ H1 x v _ I1 r1 q1) fun _ s2 q=>q
ОSy{i:Г}{x:Str}{e:ci}{te:TE}{pos':Pos}(hN:X.N.Nodup)(hi:X.N[i]? =some x)(hx:Loc X.env.scope x)(he:PE X e te)(hs:swapsWith e (some (.Name x pos')) pos.line X.env=pure false:=by rfl)(hf:X.fn x=true\/X.env.scope.names.lookup x=some .local:=by first|E .inl rfl|E .inr rfl|assumption):
  PS X (.Assign [.Name x pos'] e pos) (Kf te (Ui i)):=by
 intro pins s σ H D I h
 R wpAny_Assign_Name (Wo (he pins s σ H _ I h) fun v s1 ⟨y,H1,I1,r1,q1⟩=>?_) hs
 E Nm I1 hN hi hx r1 (fun s2 I2=>⟨_,H1,I2,q1⟩) hf
ПZyq(i j:Г)(ta:TA):TS:=fun D σ H=>ta σ H fun vs H1=>∃v w,vs=[v,w]/\D.nx ((σ.set i (some v)).set j (some w)) H1
ПZyr(i:Г)(te:TE)(ti:TIp):TS:=fun D σ H=>∃x,σ[i]? =some (some x)/\te σ H fun y H1=>ti x y H1 fun z H2=>D.nx (σ.set i (some z)) H2
ПZwl(to ti te:TE)(tget:V->V->Hp->VK->В)(tip:TIp)(tset:Zlt):TS:=fun D σ H=>to σ H fun o H1=>ti σ H1 fun i H2=>tget o i H2 fun x H3=>te σ H3 fun y H4=>tip x y H4 fun z H5=>tset o i z H5 fun H6=>D.nx σ H6
ПZys(X:Cx)(t:V->V->Hp->VK->В):Prop:=
 ∀(pins:А (am×Obj)) (s:ak) (σ:St) (H:Hp) (o i:V) (ov iv:ah) (Q:VK),Inv X pins σ H s->Zp o ov->Zp i iv->t o i H Q->
  ba (bp X.prog X.w) X.A (getItem ov iv) (EP X pins σ Q) X.xe s
ПipI(f:Int->Int->Int):TIp:=fun x y H Q=>∃i j,x= .int i/\y= .int j/\Q (.int (f i j)) H
ПZcb(c:TT)(tb:TS):TS:=fun D σ H=>∃W:Г->St->Hp->В,(∃m,W m σ H)/\∀m σ H,W m σ H->
 c σ H fun b H1=>if b=true then∃N:St->Hp->В,(∀σ' H',N σ' H'->∃m',m'<m/\W m' σ' H')/\tb {D with nx:=N,ct:=N,bk:=D.nx} σ H1 else D.nx σ H1
ОZcc{c:ci}{body:А Stmt}{tc:TT}{tb:TS}(hp:PassesOwn (bp X.prog X.w) X.A X.env X.xe)(hc:PT X c tc)(hb:Gp X body tb):PS X (.While c body [] pos) (Zcb tc tb):=by
 intro pins s σ H D I h
 O⟨W,⟨m0,w0⟩,turn⟩:=h
 R wpAny_While (codeAny_whileLoop (fun n s'=>∃σ' H',Inv X pins σ' H' s'/\W n σ' H') ?_ m0 ⟨σ,H,I,w0⟩)
 rintro n s1 ⟨σ1,H1,I1,w1⟩
 R wpAny_passesOwn hp (Wo (hc pins s1 σ1 H1 _ I1 (turn n σ1 H1 w1)) fun b s2 zq9=>?_)
 O⟨H2,I2,q2⟩:=zq9
 cases b with
 |true=>
  O⟨N,hN,q2⟩:=q2
  rw[Е rfl]
  R wpAny_passesOwn hp (Wo (hb pins s2 σ1 H2 _ I2 q2) fun f s3 q3=>?_)
  cases f with
  |next=>
   O⟨σ3,H3,I3,n3⟩:=q3
   O⟨m',hm,w3⟩:=hN σ3 H3 n3
   E⟨m',hm,σ3,H3,I3,w3⟩
  |cont=>
   O⟨σ3,H3,I3,n3⟩:=q3
   O⟨m',hm,w3⟩:=hN σ3 H3 n3
   E⟨m',hm,σ3,H3,I3,w3⟩
  |brk=>E q3
  |ret v=>E q3
 |false=>
  rw[Д bh]
  E wpAny_execs_nil ⟨σ1,H2,I2,q2⟩
end
set_option genInjectivity false in
structure It where
 go:Г->Hp->В
 yld:Г->Hp->V->Hp->В
 stop:Г->Hp->В
ПQ9(X:Cx)(pins:А (am×Obj))(H:Hp)(b:am):Prop:=
 H b=none/\b≠X.env.locals/\b∉X.fs/\(b∈X.ex\/X.s₀.heap.objs.size<=b)/\(∀x c,X.env.cells.lookup x=some c->c≠b)/\∀p∈X.pn++pins,p.1≠b
ОInv.fpOk{X:Cx}{pins:А (am×Obj)}{σ:St}{H H':Hp}{s:ak}{b:am}(I:Inv X pins σ H s)(hb:s.heap.objs.size<=b)(hn:H' b=none):Q9 X pins H' b:=by
 R⟨hn,Nat.ne_of_gt (cu I.lt hb),I.nofs hb,.inr (d3 I.sz hb),fun x c e z=>?_,fun p hp z=>?_⟩
 ·O⟨v,q⟩:=I.cell x c e
  E absurd (cu q.lt (by rw[z];E hb)) (gv _)
 ·E absurd (cu (bc (I.pin p hp).1) (by rw[z];E hb)) (gv _)
structure Turn(P:bu)(w:cj)(K:af)(tg:ci)(J:It)(fp:А am)(it:am)(tn:Г->dr->В):В where
 mem:it∈fp
 obj:∀i h,tn i h->∀b∈fp,∃o,h.get? b=some o/\∀v,o.data≠.cell v
 keep:∀i h h',tn i h->(∀b∈fp,∀o,h.get? b=some o->h'.get? b=some o)->tn i h'
 item:∀(X:Cx),X.prog=P->X.w=w->X.K=K->X.calm=true->∀(i:Г) (pins:А (am×Obj)) (s:ak) (σ:St) (H:Hp) (E:ah->ak->В),Inv X pins σ H s->(∀b∈fp,Q9 X pins H b)->tn i s.heap->J.go i H->
  ba (bp P w) X.A (pyNext (.ref it)) (fun r s1=>∃u,r=some u/\
   ba (bp P w) X.A (letOwnedTupleGo tg (.ref it) u) (fun _ s2=>∃x H',Inv X pins σ H' s2/\Zp x u/\J.yld i H x H'/\tn (i+1) s2.heap/\∀b∈fp,H' b=none) E s1) E s
 done:∀(X:Cx),X.prog=P->X.w=w->X.K=K->X.calm=true->∀(i:Г) (pins:А (am×Obj)) (s:ak) (σ:St) (H:Hp) (E:ah->ak->В),Inv X pins σ H s->(∀b∈fp,Q9 X pins H b)->tn i s.heap->J.stop i H->
  ba (bp P w) X.A (pyNext (.ref it)) (fun r s1=>r=none/\Inv X pins σ H s1) E s
 self:∀(A:ck) (i:Г) (s:ak) (Q:ah->ak->В) (E:ah->ak->В),tn i s.heap->Q (.ref it) s->ba (bp P w) A (pyIter (.ref it)) Q E s
noncomputable abbrev TI:=St->Hp->(It->Hp->В)->В
ПPIE(X:Cx)(pins:А (am×Obj))(σ:St)(tg:ci)(R:It->Hp->В)(itv:ah)(s2:ak):Prop:=
 ∃(it:am) (fp:А am) (tn:Г->dr->В) (J:It) (H':Hp),itv= .ref it/\Inv X pins σ H' s2/\Turn X.prog X.w X.K tg J fp it tn/\tn 0 s2.heap/\(∀b∈fp,Q9 X pins H' b)/\R J H'
ПPI(X:Cx)(tg iter:ci)(wi:TI):Prop:=
 ∀(pins:А (am×Obj)) (s:ak) (σ:St) (H:Hp) (R:It->Hp->В),Inv X pins σ H s->wi σ H R->
  ba (bp X.prog X.w) X.A (f9 iter X.env) (fun v s1=>ba (bp X.prog X.w) X.A (pyIter v) (PIE X pins σ tg R) X.xe s1) X.xe s
ОTi{M:Model}{A:ck}{E:ah->ak->В}{s:ak}{tg:ci}{it:am}{u:ah}{o:Obj}{n:String}{vs:Array ah}{Q:Unit->ak->В}(ho:s.heap.get? it=some o)(hc:o.cls= .type n)(hd:o.data= .fields vs)
    (hn:["enumerate","zip","dict_itemiterator","dict_reverseitemiterator","odict_iterator","itertools.zip_longest","itertools.pairwise"].contains n=false) (hQ:Q () s):ba M A (letOwnedTupleGo tg (.ref it) u) Q E s:=by
  unfold letOwnedTupleGo
  cases tg<;> first
    |E ag hQ
    | (cases u<;> first
        |E ag hQ
        | (R ad (wpAny_load ho ?_)
           rw[hc,hd]
           show ba M A (if(["enumerate","zip","dict_itemiterator","dict_reverseitemiterator","odict_iterator","itertools.zip_longest","itertools.pairwise"].contains n&&vs[0]? ==some (rawInt _))=true then _ else _) Q E s
           rw[Д (by intro h;rw[hn,Bool.false_and]at h;C h)]
           E ag hQ))
ПItl(K:af)(a:am):It:=
 ⟨fun i H=>∃xs x,Ws K H a xs/\xs[i]? =some x,fun i H x H'=>H'=H/\∀xs,Ws K H a xs->xs[i]? =some x,fun i H=>∃xs,Ws K H a xs/\xs.length<=i⟩
ПItt(K:af)(a:am):It:=
 ⟨fun i H=>∃xs x,Uh K H a xs/\xs[i]? =some x,fun i H x H'=>H'=H/\∀xs,Uh K H a xs->xs[i]? =some x,fun i H=>∃xs,Uh K H a xs/\xs.length<=i⟩
ПItr(lo:Int)(n:Г):It:=⟨fun i _=>i<n,fun i H x H'=>H'=H/\x= .int (lo+i),fun i _=>n<=i⟩
ОE6{P:bu}{w:cj}{K:af}{tg:ci}(a it:am):Turn P w K tg (Itl K a) [it] it (fun i h=>h.IsListIter it a i)where
 mem:=by simp
 obj:=fun i h st b hb=>by
  have e:b=it:=by simpa using hb
  subst e
  O⟨o,e,c,d⟩:=st
  E⟨o,e,fun v z=>by rw[d]at z;C z⟩
 keep:=fun i h h' st k=>st.at fun o e=>k it Л o e
 item:=by
  intro X hP hw hK hc i pins s σ H E I hf st hg
  subst hP hw hK
  O⟨xs,x,hq,hx⟩:=hg
  O⟨its,rv,p,hz⟩:=I.list hq
  O⟨u,hu,ru⟩:=rv.get hx
  O⟨f0,f1,f2,f3,f4,f5⟩:=hf it Л
  R wpAny_pyNext_list_item st p.isList (x:=u) (by simpa using hu) fun h' st' sb=>?_
  have I1:Inv X pins σ H {s with heap:=h'}:=I.turned (t':=s.toks) (fun b o hb e=>(sb.2 b hb).trans e) f0 f1 f3 f4 f5
  O⟨o,e,c,d⟩:=id st'
  E⟨u,rfl,Ti (s:={s with heap:=h'}) e c d Й ⟨x,H,I1,ru,⟨rfl,fun ys hy=>by rw[I.list_inj hy hq];E hx⟩,st',fun b hb=>(hf b hb).1⟩⟩
 done:=by
  intro X hP hw hK hc i pins s σ H E I hf st hg
  subst hP hw hK
  O⟨xs,hq,hx⟩:=hg
  O⟨its,rv,p,hz⟩:=I.list hq
  O⟨f0,f1,f2,f3,f4,f5⟩:=hf it Л
  have hl:=rv.length
  E wpAny_pyNext_list_end (I.ok.hd hc) st p.isList (by simp;W) fun h' eb=>⟨rfl,I.turned (t':=s.toks) (fun b o hb e=>eb b o hb e) f0 f1 f3 f4 f5⟩
 self:=fun _ _ _ _ _ st h=>wpAny_pyIter_listiter st h
ОTj{P:bu}{w:cj}{K:af}{tg:ci}(a it:am):Turn P w K tg (Itt K a) [it] it (fun i h=>h.IsTupleIter it a i)where
 mem:=by simp
 obj:=fun i h st b hb=>by
  have e:b=it:=by simpa using hb
  subst e
  O⟨o,e,c,d⟩:=st
  E⟨o,e,fun v z=>by rw[d]at z;C z⟩
 keep:=fun i h h' st k=>st.at fun o e=>k it Л o e
 item:=by
  intro X hP hw hK hc i pins s σ H E I hf st hg
  subst hP hw hK
  O⟨xs,x,hq,hx⟩:=hg
  O⟨its,rv,p,hz⟩:=I.tuple hq
  O⟨u,hu,ru⟩:=rv.get hx
  O⟨f0,f1,f2,f3,f4,f5⟩:=hf it Л
  R wpAny_pyNext_tuple_item st (show s.heap.IsTuple a its.toArray from p) (x:=u) (by simpa using hu) fun h' st' sb=>?_
  have I1:Inv X pins σ H {s with heap:=h'}:=I.turned (t':=s.toks) (fun b o hb e=>(sb.2 b hb).trans e) f0 f1 f3 f4 f5
  O⟨o,e,c,d⟩:=id st'
  E⟨u,rfl,Ti (s:={s with heap:=h'}) e c d Й ⟨x,H,I1,ru,⟨rfl,fun ys hy=>by rw[I.tuple_inj hy hq];E hx⟩,st',fun b hb=>(hf b hb).1⟩⟩
 done:=by
  intro X hP hw hK hc i pins s σ H E I hf st hg
  subst hP hw hK
  O⟨xs,hq,hx⟩:=hg
  O⟨its,rv,p,hz⟩:=I.tuple hq
  O⟨f0,f1,f2,f3,f4,f5⟩:=hf it Л
  have hl:=rv.length
  E wpAny_pyNext_tuple_end (I.ok.hd hc) st (show s.heap.IsTuple a its.toArray from p) (by simp;W) fun h' eb=>⟨rfl,I.turned (t':=s.toks) (fun b o hb e=>eb b o hb e) f0 f1 f3 f4 f5⟩
 self:=fun _ _ _ _ _ st h=>wpAny_pyIter_tupleiter st h
ОSz{P:bu}{w:cj}{K:af}{tg:ci}(it:am)(lo:Int)(n:Г):Turn P w K tg (Itr lo n) [it] it (fun i h=>IsRangeIter h it (lo+(i:Г)*1) ((n:Int)- (i:Г)) 1)where
 mem:=by simp
 obj:=fun i h st b hb=>by
  have e:b=it:=by simpa using hb
  subst e
  E⟨_,st,fun v z=>by
   have z':Data.fields _=Data.cell v:=z
   C z'⟩
 keep:=fun i h h' st k=>k it Л _ st
 item:=by
  intro X hP hw hK hc i pins s σ H E I hf st hg
  subst hP hw hK
  O⟨f0,f1,f2,f3,f4,f5⟩:=hf it Л
  have W:=Walks.range (prog:=X.prog) (w:=X.w) (I.ok.hd hc) it lo 1 n
  R W.item i s _ _ hg st fun v h' tk hv st' kk=>?_
  O⟨t,rfl⟩:=hv
  have I1:Inv X pins σ H {s with heap:=h',toks:=tk}:=I.turned (fun b o hb e=>kk b o (by simpa using hb) e) f0 f1 f3 f4 f5
  R⟨_,rfl,Ti (s:={s with heap:=h',toks:=tk}) (n:="range_iterator") st' rfl rfl Й ⟨.int (lo+i),H,I1,⟨t,?_⟩,⟨rfl,rfl⟩,st',fun b hb=>(hf b hb).1⟩⟩
  rw[Int.mul_one]
 done:=by
  intro X hP hw hK hc i pins s σ H E I hf st hg
  subst hP hw hK
  O⟨f0,f1,f2,f3,f4,f5⟩:=hf it Л
  E wpAny_pyNext_range_end (I.ok.hd hc) st (by have:n<=i:=hg;W) fun h' eb=>⟨rfl,I.turned (t':=s.toks) (fun b o hb e=>eb b o hb e) f0 f1 f3 f4 f5⟩
 self:=fun _ _ _ _ _ st h=>wpAny_pyIter_rangeiter st h
section
variable{X:Cx}{tg:ci}
ПZwn(K:af)(tl:TE):TI:=fun σ H R=>tl σ H fun x H1=>∃a,x= .ref a/\(∃xs,Ws K H1 a xs)/\R (Itl K a) H1
ПZyt(K:af)(tl:TE):TI:=fun σ H R=>tl σ H fun x H1=>∃a,x= .ref a/\(∃xs,Uh K H1 a xs)/\R (Itt K a) H1
ОZcd{pins:А (am×Obj)}{σ:St}{H:Hp}{s:ak}{R:It->Hp->В}{E:ah->ak->В}{lo hi:Int}{t u v:Tok}{tk:Г}(I:Inv X pins σ H s)(h1:-(2^62)<=lo)(h2:lo<2^62)(h3:-(2^62)<=hi)(h4:hi<2^62)
  (q:R (Itr lo (hi- lo).toNat) H):ba (bp X.prog X.w) X.A (pyIter (.ref s.heap.objs.size)) (PIE X pins σ tg R) E {s with heap:=s.heap.push {cls:=.type "range",data:=.fields #[.int lo t,.int hi u,.int 1 v]},toks:=tk}:=by
 R wpAny_pyIter_range (IsRange.new ..) (small_one h1 h2 h3 h4) ?_
 have I1:Inv X pins σ H {s with heap:=s.heap.push {cls:=.type "range",data:=.fields #[.int lo t,.int hi u,.int 1 v]},toks:=tk}:=I.kept fun b o e=>aq _ e
 R⟨(s.heap.push {cls:=.type "range",data:=.fields #[.int lo t,.int hi u,.int 1 v]}).objs.size,[(s.heap.push {cls:=.type "range",data:=.fields #[.int lo t,.int hi u,.int 1 v]}).objs.size],_,_,H,rfl,
  I1.kept (t':=tk) fun b o e=>aq _ e,Sz _ lo (hi- lo).toNat,?_,fun b hb=>?_,q⟩
 ·have e1:lo+((0:Г):Int)*1=lo:=by simp
  have e2:(((hi- lo).toNat:Г):Int)- ((0:Г):Int)=Builtin.Range.rangeSize lo hi 1:=by rw[rangeSize_one];split<;> W
  show IsRangeIter _ _ (lo+((0:Г):Int)*1) ((((hi- lo).toNat:Г):Int)- ((0:Г):Int)) 1
  rw[e1,e2]
  E a9 _ rfl
 ·have e:b=(s.heap.push {cls:=.type "range",data:=.fields #[.int lo t,.int hi u,.int 1 v]}).objs.size:=by simpa using hb
  subst e
  E I1.fpOk (a7 _) (I1.hok.fresh (a7 _))
ПZjv(ta:TA):TI:=fun σ H R=>ta σ H fun vs H1=>∃j:Int,vs=[.int j]/\-(2^62)<=j/\j<2^62/\R (Itr 0 j.toNat) H1
ПZwo(ta:TA):TI:=fun σ H R=>ta σ H fun vs H1=>∃i j:Int,vs=[.int i,.int j]/\(-(2^62)<=i/\i<2^62/\-(2^62)<=j/\j<2^62)/\R (Itr i (j- i).toNat) H1
ОZan{a:ci}{ta:TA}{p pos:Pos}(hg:Gl X "range")(hm:X.mg "range"=none)(ha:PA X [a] ta)(hs:ay [a] X.env=[(false,f9 a X.env)]:=by rfl):PI X tg (.Call (.Name "range" p) [a] [] pos) (Zjv ta):=by
 intro pins s σ H R I h
 R Call_ (Bj I hg hm boot_range (PyProof.Rows.callWith_type1 (Wo (ha pos pins s σ H _ I h) fun us s1 ⟨vs,H1,I1,r1,q1⟩=>?_) hs rfl))
 O⟨j,e,q1,q2,q⟩:=q1
 subst e
 cases r1 with
 |cons r rr=>
  C rr
  O⟨t,rfl⟩:=r
  E call_range_1 (Zcd I1 И И q1 q2 (by simpa using q))
ПZao(wi:TI)(g:TG)(tb:TS):TS:=fun D σ H=>wi σ H fun J H1=>∃W:Г->Г->St->Hp->В,(∃m,W 0 m σ H1)/\∀i m σ H,W i m σ H->
 (J.stop i H/\D.nx σ H)\/(J.go i H/\∃N:St->Hp->В,(∀σ' H',N σ' H'->∃m',m'<m/\W (i+1) m' σ' H')/\∀x H',J.yld i H x H'->g x σ H' fun σ2 H2=>tb {D with nx:=N,ct:=N,bk:=D.nx} σ2 H2)
ПTk(fp:А am)(h:dr):А (am×Obj):=fp.filterMap fun b=>(h.get? b).map fun o=>(b,o)
ОOe{fp:А am}{h:dr}{b:am}{o:Obj}(hb:b∈fp)(e:h.get? b=some o):(b,o)∈Tk fp h:=List.mem_filterMap.mpr ⟨b,hb,by rw[e];rfl⟩
ОZap{fp:А am}{h:dr}{p:am×Obj}(hp:p∈Tk fp h):p.1∈fp/\h.get? p.1=some p.2:=by
 O⟨b,hb,e⟩:=List.mem_filterMap.mp hp
 cases q:h.get? b with
 |none=>rw[q]at e;C e
 |some o=>
  rw[q]at e
  have e':(b,o)=p:=dm.inj e
  subst e'
  E⟨hb,q⟩
ОInv.pinned{pins:А (am×Obj)}{σ:St}{H:Hp}{s:ak}{fp:А am}(I:Inv X pins σ H s)(hf:∀b∈fp,Q9 X pins H b)(ho:∀b∈fp,∃o,s.heap.get? b=some o/\∀v,o.data≠.cell v):Inv X (pins++Tk fp s.heap) σ H s:=
 I.pins_of fun p hp=>(cn.mp hp).elim (fun z=>I.pin p (c6 _ z)) fun z=>by
  O⟨hb,e⟩:=Zap z
  O⟨f0,f1,f2,_⟩:=hf p.1 hb
  O⟨o,e',d⟩:=ho p.1 hb
  rw[e]at e';C e'
  E⟨e,f0,f1,f2,d⟩
ОInv.unpinned{pins pl:А (am×Obj)}{σ:St}{H:Hp}{s:ak}(I:Inv X (pins++pl) σ H s):Inv X pins σ H s:=I.pins_of fun p hp=>I.pin p (c6 _ (List.mem_append_left _ hp))
ОZce {iter : ci} {body : А Stmt} {wi : TI} {g : TG} {tb : TS} {pos : Pos} (hp : PassesOwn (bp X.prog X.w) X.A X.env X.xe) (hc : X.calm = true) (hi : PI X tg iter wi) (hg : PG X tg g) (hb : Gp X body tb)
    (hs : ∀ x, foldedSetIterable iter X.env x = pure x := by intro _; rfl) : PS X (.For tg iter body [] pos) (Zao wi g tb) := by
  intro pins s σ H D I h
  R wpAny_For (Wo (hi pins s σ H _ I h) fun v s1 h1 => Wo h1 fun itv s2 h2 => ?_) hs
  obtain ⟨it, fp, tn, J, H2, e, I2, T, st2, f2, W, ⟨m0, w0⟩, turn⟩ := h2
  subst e
  -- what stays true of the iterator's objects through the loop
  have stat : ∀ {H' : Hp}, (∀ b ∈ fp, H' b = none) -> ∀ b ∈ fp, Q9 X pins H' b := fun hn b hb => ⟨hn b hb, (f2 b hb).2⟩
  R codeAny_forLoop_any (fun n s' => ∃ i σ' H', Inv X pins σ' H' s' /\ tn i s'.heap /\ (∀ b ∈ fp, H' b = none) /\ W i n σ' H') ?_ m0 ⟨0, σ, H2, I2, st2, fun b hb => (f2 b hb).1, w0⟩
  rintro n s3 ⟨i, σ3, H3, I3, st3, fr3, w3⟩
  rcases turn i n σ3 H3 w3 with ⟨stop, qn⟩ | ⟨go, N, hN, step⟩
  · R wpAny_passesOwn hp (Wo (T.done X rfl rfl rfl hc i pins s3 σ3 H3 X.xe I3 (stat fr3) st3 stop) fun r s4 ⟨hr, I4⟩ => ?_)
    subst hr
    E wpAny_execs_nil ⟨σ3, H3, I4, qn⟩
  · R wpAny_passesOwn hp (Wo (T.item X rfl rfl rfl hc i pins s3 σ3 H3 X.xe I3 (stat fr3) st3 go) fun r s4 ⟨u, hr, h4⟩ => ?_)
    subst hr
    R wpAny_passesOwn hp (Wo h4 fun _ s5 zq9 => ?_)
    obtain ⟨x, H5, I5, r5, y5, st5, fr5⟩ := zq9
    have I5' := I5.pinned (stat fr5) (T.obj _ _ st5)
    R wpAny_passesOwn hp (Wo (hg _ s5 σ3 H5 x u _ I5' r5 (step x H5 y5)) fun _ s6 zq9 => ?_)
    obtain ⟨σ6, H6, I6, q6⟩ := zq9
    R wpAny_passesOwn hp (Wo (hb _ s6 σ6 H6 _ I6 q6) fun f s7 q7 => ?_)
    have again : ∀ {σ7 : St} {H7 : Hp}, Inv X (pins ++ Tk fp s5.heap) σ7 H7 s7 -> N σ7 H7 -> ∃ m, m < n /\ ∃ i σ' H', Inv X pins σ' H' s7 /\ tn i s7.heap /\ (∀ b ∈ fp, H' b = none) /\ W i m σ' H' := fun {σ7 H7} I7 n7 => by
      obtain ⟨m', hm, w7⟩ := hN σ7 H7 n7
      R⟨m', hm, i + 1, σ7, H7, I7.unpinned, T.keep _ _ _ st5 fun b hb o e => (I7.pin (b, o) (c6 _ (c6 _ (Oe hb e)))).1, fun b hb => ?_, w7⟩
      obtain ⟨o, e, d⟩ := T.obj _ _ st5 b hb
      E(I7.pin (b, o) (c6 _ (c6 _ (Oe hb e)))).2.1
    cases f with
    | next => obtain ⟨σ7, H7, I7, n7⟩ := q7; E again I7 n7
    | cont => obtain ⟨σ7, H7, I7, n7⟩ := q7; E again I7 n7
    | brk => obtain ⟨σ7, H7, I7, q7⟩ := q7; E⟨σ7, H7, I7.unpinned, q7⟩
    | ret v => obtain ⟨x7, σ7, H7, I7, r7, q7⟩ := q7; E⟨x7, σ7, H7, I7.unpinned, r7, q7⟩
end
noncomputable abbrev R2:=V->V->Hp->VK->В
ПBl(X:Cx)(f:ah->ah->Sem ah)(r:R2):Prop:=
 ∀(pins:А (am×Obj)) (s:ak) (σ:St) (H:Hp) (x y:V) (v u:ah) (Q:VK),Inv X pins σ H s->Zp x v->Zp y u->r x y H Q->
  ba (bp X.prog X.w) X.A (f v u) (EP X pins σ Q) X.xe s
ПUnR(X:Cx)(f:ah->Sem ah)(r:V->Hp->VK->В):Prop:=
 ∀(pins:А (am×Obj)) (s:ak) (σ:St) (H:Hp) (x:V) (v:ah) (Q:VK),Inv X pins σ H s->Zp x v->r x H Q->
  ba (bp X.prog X.w) X.A (f v) (EP X pins σ Q) X.xe s
ПQd(X:Cx)(f:ah)(r:А V->Hp->VK->В):Prop:=
 ∀(pins:А (am×Obj)) (s:ak) (σ:St) (H:Hp) (xs:А V) (us:А ah) (Q:VK),Inv X pins σ H s->Zw xs us->r xs H Q->
  ba (bp X.prog X.w) X.A (call f us) (EP X pins σ Q) X.xe s
ПZyu(X:Cx)(r:V->Hp->(Bool->Hp->В)->В):Prop:=
 ∀(pins:А (am×Obj)) (s:ak) (σ:St) (H:Hp) (x:V) (v:ah) (Q:Bool->Hp->В),Inv X pins σ H s->Zp x v->r x H Q->
  ba (bp X.prog X.w) X.A (truthy v) (TP X pins σ Q) X.xe s
ПtOp(r:R2)(ta tb:TE):TE:=fun σ H Q=>ta σ H fun x H1=>tb σ H1 fun y H2=>r x y H2 Q
ПtUn(r:V->Hp->VK->В)(ta:TE):TE:=fun σ H Q=>ta σ H fun x H1=>r x H1 Q
ПrI(C:Int->Int->В)(g:Int->Int->V):R2:=fun x y H Q=>∃i j,x= .int i/\y= .int j/\C i j/\Q (g i j) H
ПrI0(g:Int->Int->V):R2:=fun x y H Q=>∃i j,x= .int i/\y= .int j/\Q (g i j) H
ПrU(g:Int->V):V->Hp->VK->Prop:=fun x H Q=>∃i,x= .int i/\Q (g i) H
section
variable{X:Cx}{a b c:ci}{ta tb tc:TE}{pos:Pos}
ОZlw(ha:PE X a ta)(hb:PE X b tb){pins:А (am×Obj)}{s:ak}{σ:St}{H:Hp}{R:V->V->Hp->В}(I:Inv X pins σ H s)
  (h:ta σ H fun x H1=>tb σ H1 fun y H2=>R x y H2) {Q:ah->ak->В} {f:ah->ah->Sem ah}
  (hf:∀v u s2 x y H2,Inv X pins σ H2 s2->Zp x v->Zp y u->R x y H2->ba (bp X.prog X.w) X.A (f v u) Q X.xe s2):
  ba (bp X.prog X.w) X.A (f9 a X.env) (fun v s₁=>ba (bp X.prog X.w) X.A (f9 b X.env) (fun u s₂=>ba (bp X.prog X.w) X.A (f v u) Q X.xe s₂) X.xe s₁) X.xe s:=by
 R Wo (ha pins s σ H _ I h) fun v s1 zq9=>?_
 O⟨x,H1,I1,r1,q1⟩:=zq9
 R Wo (hb pins s1 σ H1 _ I1 q1) fun u s2 zq9=>?_
 O⟨y,H2,I2,r2,q2⟩:=zq9
 E hf v u s2 x y H2 I2 r1 r2 q2
ОZo1{op:Operator}{r:R2}(ho:Bl X (binaryOp op) r)(ha:PE X a ta)(hb:PE X b tb):PE X (.BinOp a op b pos) (tOp r ta tb):=by
 intro pins s σ H Q I h
 E wpAny_BinOp (Zlw ha hb I h fun v u s2 x y H2 I2 rx ry q=>ho pins s2 σ H2 x y v u Q I2 rx ry q)
ОopI{f:ah->ah->Sem ah}{C:Int->Int->В}{g:Int->Int->Int}
  (rule:∀(i j:Int) (t u:Tok) (s:ak) (Q:ah->ak->В) (E:ah->ak->В),C i j->Q (.int (g i j) s.toks) {s with toks:=s.toks+1}->ba (bp X.prog X.w) X.A (f (.int i t) (.int j u)) Q E s):
  Bl X f (rI C fun i j=>.int (g i j)):=by
 intro pins s σ H x y v u Q I rx ry h
 O⟨i,j,rfl,rfl,hc,q⟩:=h
 O⟨t,rfl⟩:=rx
 O⟨t',rfl⟩:=ry
 E rule i j t t' s _ _ hc ⟨.int (g i j),H,I.tok _,⟨_,rfl⟩,q⟩
ОZtt{f:ah->ah->Sem ah}{g:Int->Int->Int}
  (rule:∀(i j:Int) (t u:Tok) (s:ak) (Q:ah->ak->В) (E:ah->ak->В),Q (.int (g i j) s.toks) {s with toks:=s.toks+1}->ba (bp X.prog X.w) X.A (f (.int i t) (.int j u)) Q E s):
  Bl X f (rI0 fun i j=>.int (g i j)):=by
 intro pins s σ H x y v u Q I rx ry h
 O⟨i,j,rfl,rfl,q⟩:=h
 O⟨t,rfl⟩:=rx
 O⟨t',rfl⟩:=ry
 E rule i j t t' s _ _ ⟨.int (g i j),H,I.tok _,⟨_,rfl⟩,q⟩
ОZo2{f:ah->ah->Sem ah}{g:Int->Int->Bool}
  (rule:∀(i j:Int) (t u:Tok) (s:ak) (Q:ah->ak->В) (E:ah->ak->В),Q (.bool (g i j)) s->ba (bp X.prog X.w) X.A (f (.int i t) (.int j u)) Q E s):
  Bl X f (rI0 fun i j=>.bl (g i j)):=by
 intro pins s σ H x y v u Q I rx ry h
 O⟨i,j,rfl,rfl,q⟩:=h
 O⟨t,rfl⟩:=rx
 O⟨t',rfl⟩:=ry
 E rule i j t t' s _ _ ⟨.bl (g i j),H,I,rfl,q⟩
ПZo3(i j:Int):Prop:=0<j/\j<1073741824
ПZwp(i j:Int):Prop:=j≠0/\j.natAbs<1073741824
ПZyw(i j:Int):Prop:=0<=j/\j<=1000000/\i.natAbs<2^64
ПZcf(i j:Int):Prop:=(-(2^64)<i/\i<2^64)\/(-(2^64)<j/\j<2^64)
ОZcf.ok{i j:Int}(h:Zcf i j):IntMulOk i j:=by
 rcases h with⟨h1,h2⟩|⟨h1,h2⟩
 ·E .of_left (intBits_le_64 h1 h2)
 ·E .of_right (intBits_le_64 h1 h2)
ОZlx:Bl X (binaryOp .Add) (rI0 fun i j=>.int (i+j)):=Ztt fun _ _ _ _ _ _ _ q=>add_int q
ОZly:Bl X (binaryOp .Mult) (rI Zcf fun i j=>.int (i*j)):=opI fun _ _ _ _ _ _ _ hc q=>mul_int q hc.ok
ОZg9:Bl X (binaryOp .FloorDiv) (rI Zo3 fun i j=>.int (i / j)):=opI fun i j _ _ _ _ _ hc q=>by
 have h1:(0:Int)<j:=hc.1
 have h2:j<1073741824:=hc.2
 E floordiv_int И (by rw[Int.fdiv_eq_ediv_of_nonneg i И];E q) (.inl (PyProof.noPylong_small И))
ОZlz:Bl X (binaryOp .Mod) (rI (fun _ j=>0<j) fun i j=>.int (i % j)):=opI fun i j _ _ _ _ _ hc q=>by
 have h1:(0:Int)<j:=hc
 E mod_int' И (by rw[Int.fmod_eq_emod_of_nonneg i И];E q)
end
Пscal:V->V->Bool
 | .non,.non=>true| .non,.int _=>true| .int _,.non=>true| .non,.bl _=>true| .bl _,.non=>true| .non,.str _=>true| .str _,.non=>true
 | .int _,.int _=>true| .bl _,.bl _=>true| .str _,.str _=>true| .byt _,.byt _=>true
 | .int _,.str _=>true| .str _,.int _=>true| .bl _,.str _=>true| .str _,.bl _=>true
 |_,_=>false
ПrEq:R2:=fun x y H Q=>scal x y=true/\Q (.bl (decide (x=y))) H
ПrNe:R2:=fun x y H Q=>scal x y=true/\Q (.bl (!decide (x=y))) H
ОX6{i j:Int}:decide (V.int i=V.int j)=(i==j):=by
 rw[Bool.eq_iff_iff]
 simp
ОZcg{i j:Bool}:decide (V.bl i=V.bl j)=(i==j):=by
 rw[Bool.eq_iff_iff]
 simp
ОX7{i j:Str}:decide (V.str i=V.str j)=(i==j):=by
 rw[Bool.eq_iff_iff]
 simp
ОX8{i j:Array UInt8}:decide (V.byt i=V.byt j)=(i.toList==j.toList):=by
 rw[Bool.eq_iff_iff]
 C i
 C j
 simp
section
variable{X:Cx}{a b c:ci}{ta tb tc:TE}{pos:Pos}
ОYe{pins:А (am×Obj)}{σ:St}{H:Hp}{s:ak}{Q:VK}{k k':Bool}(I:Inv X pins σ H s)(q:Q (.bl k) H)(e:k=k'):EP X pins σ Q (.bool k') s:=by
 subst e
 E⟨.bl k,H,I,rfl,q⟩
ОZjw:Bl X (gx .Eq) rEq:=by
 intro pins s σ H x y v u Q I rx ry h
 O⟨hs,q⟩:=h
 cases x with
 |non=>
  C rx
  cases y with
  |non=>C ry;E PySem.EqNone.eq_none_none (Ye I q Л)
  |bl j=>C ry;E PySem.EqNone.eq_none_bool (Ye I q Л)
  |int j=>O⟨t',rfl⟩:=ry;E PySem.EqNone.eq_none_int (Ye I q Л)
  |str j=>O⟨t',rfl⟩:=ry;E PySem.EqNone.eq_none_str (Ye I q Л)
  |_=>E absurd (show false=true from hs) bh
 |bl i=>
  C rx
  cases y with
  |non=>C ry;E PySem.EqNone.eq_bool_none (Ye I q Л)
  |bl j=>C ry;E eq_bool (Ye I q Zcg)
  |str j=>O⟨t',rfl⟩:=ry;E PySem.EqMixed.eq_bool_str (Ye I q Л)
  |_=>E absurd (show false=true from hs) bh
 |int i=>
  O⟨t,rfl⟩:=rx
  cases y with
  |non=>C ry;E PySem.EqNone.eq_int_none (Ye I q Л)
  |int j=>O⟨t',rfl⟩:=ry;E eq_int (Ye I q X6)
  |str j=>O⟨t',rfl⟩:=ry;E PySem.EqMixed.eq_int_str (Ye I q Л)
  |_=>E absurd (show false=true from hs) bh
 |str i=>
  O⟨t,rfl⟩:=rx
  cases y with
  |non=>C ry;E PySem.EqNone.eq_str_none (Ye I q Л)
  |bl j=>C ry;E PySem.EqMixed.eq_str_bool (Ye I q Л)
  |int j=>O⟨t',rfl⟩:=ry;E PySem.EqMixed.eq_str_int (Ye I q Л)
  |str j=>O⟨t',rfl⟩:=ry;E eq_str (Ye I q X7)
  |_=>E absurd (show false=true from hs) bh
 |byt i=>
  O⟨t,rfl⟩:=rx
  cases y with
  |byt j=>O⟨t',rfl⟩:=ry;E PySem.W.eq_bytes (Ye I q X8)
  |_=>E absurd (show false=true from hs) bh
 |_=>cases y<;> E absurd (show false=true from hs) bh
ОZo4:Bl X (gx .NotEq) rNe:=by
 intro pins s σ H x y v u Q I rx ry h
 O⟨hs,q⟩:=h
 cases x with
 |non=>
  C rx
  cases y with
  |non=>C ry;E PySem.EqNone.ne_none_none (Ye I q Л)
  |bl j=>C ry;E PySem.EqNone.ne_none_bool (Ye I q Л)
  |int j=>O⟨t',rfl⟩:=ry;E PySem.EqNone.ne_none_int (Ye I q Л)
  |str j=>O⟨t',rfl⟩:=ry;E PySem.EqNone.ne_none_str (Ye I q Л)
  |_=>E absurd (show false=true from hs) bh
 |bl i=>
  C rx
  cases y with
  |non=>C ry;E PySem.EqNone.ne_bool_none (Ye I q Л)
  |bl j=>C ry;E ne_bool (Ye I q (congrArg not Zcg))
  |str j=>O⟨t',rfl⟩:=ry;E PySem.EqMixed.ne_bool_str (Ye I q Л)
  |_=>E absurd (show false=true from hs) bh
 |int i=>
  O⟨t,rfl⟩:=rx
  cases y with
  |non=>C ry;E PySem.EqNone.ne_int_none (Ye I q Л)
  |int j=>O⟨t',rfl⟩:=ry;E ne_int (Ye I q (congrArg not X6))
  |str j=>O⟨t',rfl⟩:=ry;E PySem.EqMixed.ne_int_str (Ye I q Л)
  |_=>E absurd (show false=true from hs) bh
 |str i=>
  O⟨t,rfl⟩:=rx
  cases y with
  |non=>C ry;E PySem.EqNone.ne_str_none (Ye I q Л)
  |bl j=>C ry;E PySem.EqMixed.ne_str_bool (Ye I q Л)
  |int j=>O⟨t',rfl⟩:=ry;E PySem.EqMixed.ne_str_int (Ye I q Л)
  |str j=>O⟨t',rfl⟩:=ry;E ne_str (Ye I q (congrArg not X7))
  |_=>E absurd (show false=true from hs) bh
 |byt i=>
  O⟨t,rfl⟩:=rx
  cases y with
  |byt j=>O⟨t',rfl⟩:=ry;E PySem.W.ne_bytes (Ye I q (congrArg not X8))
  |_=>E absurd (show false=true from hs) bh
 |_=>cases y<;> E absurd (show false=true from hs) bh
ОZo5:Bl X (gx .Lt) (rI0 fun i j=>.bl (decide (i<j))):=Zo2 fun _ _ _ _ _ _ _ q=>lt_int q
ОZo6:Bl X (gx .Gt) (rI0 fun i j=>.bl (decide (j<i))):=Zo2 fun _ _ _ _ _ _ _ q=>gt_int q
ОE7:Bl X (gx .In) (fun x y H Q=>∃i j,x= .str i/\y= .str j/\Q (.bl (!(c8 j i 0 j.length 1).isEmpty)) H):=by
 intro pins s σ H x y v u Q I rx ry h
 O⟨i,j,rfl,rfl,q⟩:=h
 O⟨t,rfl⟩:=rx
 O⟨t',rfl⟩:=ry
 E in_str (Ye I q rfl)
ПZwq:HO->Bool
 | .lst _=>true
 | .ins _ _ _=>true
 |_=>false
ОBl.or{f:ah->ah->Sem ah}{r r':R2}(h:Bl X f r)(h':Bl X f r'):Bl X f (fun x y H Q=>r x y H Q\/r' x y H Q):=by
 intro pins s σ H x y v u Q I rx ry q
 rcases q with q|q
 ·E h pins s σ H x y v u Q I rx ry q
 ·E h' pins s σ H x y v u Q I rx ry q
ОTl(b:ci){op:CmpOp}(h:op≠.In:=by decide)(h2:op≠.NotIn:=by decide):behindInMarks op b=false:=by
 have e1:(op==CmpOp.In)=false:=by cases op<;> first|rfl|E absurd rfl h
 have e2:(op==CmpOp.NotIn)=false:=by cases op<;> first|rfl|E absurd rfl h2
 cases b<;> simp[behindInMarks,e1,e2]
ОZha{op:CmpOp}{r:R2}(ho:Bl X (gx op) r)(ha:PE X a ta)(hb:PE X b tb)(hm:behindInMarks op b=false):PE X (.Compare a [op] [b] pos) (tOp r ta tb):=by
 intro pins s σ H Q I h
 E wpAny_Compare1 (Zlw ha hb I h fun v u s2 x y H2 I2 rx ry q=>ho pins s2 σ H2 x y v u Q I2 rx ry q) hm
ПZjx(t:TE):TT:=fun σ H Q=>t σ H fun x H'=>∃k,x= .bl k/\Q k H'
ОZhb{op:CmpOp}{r:R2}(ho:Bl X (gx op) r)(ha:PE X a ta)(hb:PE X b tb)(hm:behindInMarks op b=false):PT X (.Compare a [op] [b] pos) (Zjx (tOp r ta tb)):=by
 intro pins s σ H Q I h
 R wpAny_isTrue_Compare1 (Wo (ha pins s σ H _ I h) fun v s1 ⟨x,H1,I1,r1,q1⟩=>Wo (hb pins s1 σ H1 _ I1 q1) fun u s2 ⟨y,H2,I2,r2,q2⟩=>
  Wo (ho pins s2 σ H2 x y v u _ I2 r1 r2 q2) fun c s3 ⟨z,H3,I3,r3,k,e,q3⟩=>?_) hm
 subst e
 C r3
 E wpAny_truthy_bool ⟨H3,I3,q3⟩
ПZtw(r r':R2)(ta tb tc:TE):TE:=fun σ H Q=>ta σ H fun x H1=>tb σ H1 fun y H2=>r x y H2 fun z H3=>∃k,z= .bl k/\
 (if k=true then tc σ H3 fun w' H4=>r' y w' H4 Q else Q (.bl false) H3)
ПZyx(K:af)(x:V)(H:Hp)(k:Bool):Prop:=
 match x with
 | .non=>k=false
 | .bl b=>k=b
 | .int i=>k=(i !=0)
 | .str y=>y.length<=sizeLine/\k=((y.length:Int) !=0)
 | .byt y=>y.size<=sizeLine/\k=((y.size:Int) !=0)
 | .ref p=>(∃xs,Ws K H p xs/\k= !xs.isEmpty)\/(∃xs,Uh K H p xs/\k= !xs.isEmpty)\/∃kvs,HK H p kvs/\k= !kvs.isEmpty
 |_=>False
ОTm:(sizeLine:Г)<2^63:=by rw[dq];decide
ОS0:Bl X (binaryOp .Add) (fun x y H Q=>∃i j,x= .str i/\y= .str j/\i.length+j.length<=sizeLine/\Q (.str (i++j)) H):=by
 intro pins s σ H x y v u Q I rx ry h
 O⟨i,j,rfl,rfl,hz,q⟩:=h
 O⟨t,rfl⟩:=rx
 O⟨t',rfl⟩:=ry
 E add_str (fun t' tk=>⟨.str (i++j),H,I.tok _,⟨_,rfl⟩,q⟩) hz
ПZo7(b:ci):Prop:=∀o i,subscripted b false o i=operate [o,i] (getItem o i)
ОJp{x:V}{us:А ah}(r:Zw [x] us):∃u,us=[u]/\Zp x u:=by
 cases r with
 |cons r1 r2=>C r2;E⟨_,rfl,r1⟩
ОZjy{x y:V}{us:А ah}(r:Zw [x,y] us):∃u w',us=[u,w']/\Zp x u/\Zp y w':=by
 cases r with
 |cons r1 r2=>
  cases r2 with
  |cons r3 r4=>C r4;E⟨_,_,rfl,r1,r3⟩
ОZaq:Qd X (.type "int") (fun xs H Q=>(∃i,xs=[.int i]/\Q (.int i) H)\/∃k,xs=[.bl k]/\Q (.int (if k then 1 else 0)) H):=by
 intro pins s σ H xs us Q I r h
 rcases h with⟨i,rfl,q⟩|⟨k,rfl,q⟩
 ·O⟨u,rfl,t,rfl⟩:=Jp r
  E call_int_int ⟨.int i,H,I,⟨_,rfl⟩,q⟩
 ·O⟨u,rfl,r1⟩:=Jp r
  C r1
  E call_int_bool ⟨.int (if k then 1 else 0),H,I.tok _,⟨_,rfl⟩,q⟩
ОKg:Qd X (.type "str") (fun xs H Q=>∃i,xs=[.int i]/\i.natAbs.log2<1920/\Q (.str (toString i)) H):=by
 intro pins s σ H xs us Q I r h
 O⟨i,rfl,hz,q⟩:=h
 O⟨u,rfl,t,rfl⟩:=Jp r
 E PySem.P.str_of_int hz ⟨.str _,H,I.tok _,⟨_,rfl⟩,q⟩
ПZyy(K:af)(x:V)(H:Hp)(n:Г):Prop:=
 match x with
 | .str y=>y.length<=sizeLine/\n=y.length
 | .byt y=>y.size<=sizeLine/\n=y.size
 | .ref p=>(∃xs,Ws K H p xs/\n=xs.length)\/∃xs,Uh K H p xs/\n=xs.length
 |_=>False
end
structure ObjM(h:dr)(x dx C:am)(mA:Str->Б ah):В where
 obj:h.get? x=some (PySem.W.instObj C dx)
 ns:h.Ns1 dx mA
 ne:dx≠x
ПRv(f:Str)(v:V):А (Str×V)->А (Str×V)
  | []=>[(f,v)]
  | (g,x)::r=>if g=f then(g,v)::r else(g,x)::Rv f v r
ОCz.some_of{v:V}{o:Б ah}(r:Cz (some v) o):∃u,o=some u/\Zp v u:=by
 cases o with
 |none=>E(show False from r).elim
 |some u=>E⟨u,rfl,r⟩
structure Cls(K:af)(C:am):В where
 pg:PySem.W.plainGet K C Str.empty=true
 hd:PySem.W.hasDictIn K C=true
 po:PySem.W.plainOver K C=true
 sa:PySem.W.findIn K (.ref C) "__setattr__"=some (some (.builtin "object.__setattr__"))
ПS3(K:af)(C:am)(f:Str):Prop:=PySem.W.findIn K (.ref C) f=some none
structure Con(K:af)(C:am)(f:Str)(v:V)(u:ah):В where
 at_:PySem.W.findIn K (.ref C) f=some (some u)
 rel:Zp v u
 get:PySem.W.specialIn K u "__get__"=some none
 cp:PySem.W.copiedNames.contains f=false
structure Meth(K:af)(C:am)(m:Str)(f:am):В where
 at_:PySem.W.findIn K (.ref C) m=some (some (.ref f))
 fn:PySem.W.isFn K (.ref f)=true
 kp:bq K (.ref f)=true
ПZyz(K:af)(ta:TE)(f:Str):TE:=fun σ H Q=>ta σ H fun x H1=>∃a C dx fs v,x= .ref a/\H1 a=some (.ins C dx fs)/\Cls K C/\S3 K C f/\fs.lookup f=some v/\Q v H1
ПZy0(K:af)(ta:TE)(f:Str):TE:=fun σ H Q=>ta σ H fun x H1=>∃a C dx fs v u,x= .ref a/\H1 a=some (.ins C dx fs)/\Cls K C/\Con K C f v u/\fs.lookup f=none/\Q v H1
ПZy1(K:af)(ta tv:TE)(f:Str):TS:=fun D σ H=>tv σ H fun y H1=>ta σ H1 fun x H2=>∃a C dx fs,x= .ref a/\H2 a=some (.ins C dx fs)/\Cls K C/\S3 K C f/\fs.length<1000/\
 D.nx σ (Z5 H2 a (.ins C dx (Rv f y fs)))
ПZy2(X:Cx)(op:Operator)(rd:V->V->Hp->VK->В):Prop:=
 ∀(pins:А (am×Obj)) (s:ak) (σ:St) (H:Hp) (x y:V) (u v:ah) (Q:VK),Inv X pins σ H s->Zp x u->Zp y v->rd x y H Q->ba (bp X.prog X.w) X.A (inplaceOp op u v) (EP X pins σ Q) X.xe s
ПZsh(K:af)(ta tv:TE)(rd:V->V->Hp->VK->В)(f:Str):TS:=fun D σ H=>ta σ H fun x H1=>∃a C dx fs v,x= .ref a/\H1 a=some (.ins C dx fs)/\Cls K C/\S3 K C f/\fs.lookup f=some v/\
 tv σ H1 fun y H2=>rd v y H2 fun z H3=>∃dx' fs',H3 a=some (.ins C dx' fs')/\fs'.length<1000/\D.nx σ (Z5 H3 a (.ins C dx' (Rv f z fs')))
section
variable{X:Cx}{o e value:ci}{f:Str}{pos pos' tpos:Pos}{ta tv:TE}
ПZy3:V->V->Hp->VK->Prop:=fun x y H Q=>∃i j,x= .int i/\y= .int j/\Q (.int (i+j)) H
ПZy4:V->V->Hp->VK->Prop:=fun x y H Q=>∃i j,x= .int i/\y= .int j/\Q (.int (i- j)) H
end
section
variable{X:Cx}{pins:А (am×Obj)}{σ:St}{H:Hp}{s:ak}{A:ck}{E:ah->ak->В}{Q:ah->ak->В}{c:ah}{b:Bool}
inductive TyOf(K:af)(H:Hp):V->ah->В where
 |non:TyOf K H .non (.type "NoneType")
 |bl (x:Bool):TyOf K H (.bl x) (.type "bool")
 |int (i:Int):TyOf K H (.int i) (.type "int")
 |str (x:Str):TyOf K H (.str x) (.type "str")
 |flt (x:UInt64):TyOf K H (.flt x) (.type "float")
 |lst {a:am} {xs:А V} (e:H a=some (.lst xs)):TyOf K H (.ref a) (.type "list")
 |frz {a:am} {o:Obj} {xs:А V} (e:H a=some (.frz o (.lst xs))):TyOf K H (.ref a) (.type "list")
 |tup {a:am} {xs:А V} (e:H a=some (.tup xs)):TyOf K H (.ref a) (.type "tuple")
 |dK {a:am} {kvs:А (Key×V)} {ep:Г} (e:H a=some (.dK kvs ep)):TyOf K H (.ref a) (.type "dict")
 |dT {a:am} {kvs:А (А Key×V)} {ep:Г} {bs:А am} (e:H a=some (.dT kvs ep bs)):TyOf K H (.ref a) (.type "dict")
 |ins {a C dx:am} {fs:А (Str×V)} (e:H a=some (.ins C dx fs)) (cl:Cls K C) (ha:PySem.W.findIn K (.ref C) "__class__"=some (some (.builtin "object.__class__")))
   (hn:PySem.W.specialIn K (.builtin "object.__class__") "__get__"=some (some (.builtin "getset_descriptor.__get__"))) (htk:PySem.W.takesIn K (.builtin "object.__class__")=some true)
   (hm:PySem.W.mroIn K C (.type "object")=some true):TyOf K H (.ref a) (.ref C)
end
structure Room(k:Г)(A:ck):В where
 hd:A.handled=none
 dp:A.depth+3*k+5<recursionLimit
 un:A.units+16*k+200<d8
ОRoom.mono{j k:Г}{A:ck}(r:Room k A)(h:j<=k):Room j A:=⟨r.hd,by have:=r.dp;W,by have:=r.un;W⟩
ОRoom.deeper{k:Г}{A:ck}(r:Room (k+1) A)(env:Env):Room k (A.deeper env):=
 ⟨r.hd,by have:=r.dp;show A.depth+1+3*k+5<_;W,by have:=r.un;show A.units+3+16*k+200<_;W⟩
ОRoom.depth{k:Г}{A:ck}(r:Room k A):A.depth<recursionLimit:=by have:=r.dp;W
ОRoom.units{k:Г}{A:ck}(r:Room k A):A.units+64<cLine:=by have:=r.un;W
ПRw:TA:=fun _ H Q=>Q [] H
ПJq(ta:TE)(tr:TA):TA:=fun σ H Q=>ta σ H fun x H1=>tr σ H1 fun xs H2=>Q (x::xs) H2
section
variable{X:Cx}{e:ci}{es:А ci}{te:TE}{t:TA}{pos:Pos}
ОJr:PA X [] Rw:=fun _ _ _ _ H Q I h=>Calls.spliced_nil ⟨[],H,I,.nil,h⟩
ОW3(ha:PE X e te)(hr:PA X es t)(hs:ay (e::es) X.env=(false,f9 e X.env)::ay es X.env:=by rfl):PA X (e::es) (Jq te t):=by
 intro pos pins s σ H Q I h
 rw[hs]
 show ba _ _ (spliced ((false,f9 e X.env)::f7 pos (ay es X.env))) _ _ s
 R Calls.spliced_cons (Wo (ha pins s σ H _ I h) fun u s1 zq9=>?_)
 O⟨x,H1,I1,r1,q1⟩:=zq9
 E Wo (hr pos pins s1 σ H1 _ I1 q1) fun us s2 ⟨xs,H2,I2,r2,q2⟩=>⟨x::xs,H2,I2,.cons r1 r2,q2⟩
ПZch(t:TA):TE:=fun σ H Q=>t σ H fun xs H1=>xs.length<=sizeLine/\∀p,H1 p=none->Q (.ref p) (Z5 H1 p (.tup xs))
ПZl0(t:TA):TE:=fun σ H Q=>t σ H fun xs H1=>xs.length<=sizeLine/\∀p,H1 p=none->Q (.ref p) (Z5 H1 p (.lst xs))
ОZci{x1} (h:PA X es t):PE X (.Tuple es x1 pos) (Zch t):=by
 intro pins s σ H Q I hq
 R wpAny_Tuple_spliced (Wo (h pos pins s σ H _ I hq) fun us s1 ⟨xs,H1,I1,r,z,q⟩=>⟨by rw[<-r.length];E z,?_⟩)
 have hf:H1 s1.heap.objs.size=none:=I1.hok.fresh (a7 _)
 R⟨.ref s1.heap.objs.size,Z5 H1 s1.heap.objs.size (.tup xs),I1.laid (t':=s1.toks) (fun b u e=>aq _ e) (a7 _) ?_,rfl,q _ hf⟩
 E⟨z,us,r,⟨_,a9 _ rfl,rfl,_,rfl⟩⟩
ОS4(h:PA X es t):PE X (.List es pos) (Zl0 t):=by
 intro pins s σ H Q I hq
 R wpAny_List_spliced (Wo (h pos pins s σ H _ I hq) fun us s1 ⟨xs,H1,I1,r,z,q⟩=>⟨by rw[<-r.length];E z,?_⟩)
 have hf:H1 s1.heap.objs.size=none:=I1.hok.fresh (a7 _)
 R⟨.ref s1.heap.objs.size,Z5 H1 s1.heap.objs.size (.lst xs),I1.laid (t':=s1.toks) (fun b u e=>aq _ e) (a7 _) ?_,rfl,q _ hf⟩
 E⟨z,us,0,r,a9 _ rfl⟩
end
noncomputable abbrev Sp:=А V->Hp->VK->XK->В
noncomputable abbrev CXT:=А Env->Hp->ak->XK->ah->ak->В
structure Env0(P:bu)(w:cj)(K:af)(mg:Str->Б ah)(base:dr)(A:ck)(outer:А Env)(s:ak)(H:Hp):В where
 frames:A.frames=some outer
 mod:Mod K mg base
 bs:∀b o,base.get? b=some o->s.heap.get? b=some o/\H b=none
 bsz:base.objs.size<=s.heap.objs.size
 funs:s.heap.FunFrames base outer
 frf:∀b∈frs outer,H b=none
 hok:Cm P w H s.heap
 bare:AllBare s.gens
ПCE(outer:А Env)(P:bu)(w:cj)(H:Hp)(s:ak)(Q:VK)(u:ah)(s':ak):Prop:=
 ∃v H',s'.os=s.os/\AllBare s'.gens/\Un (frs outer) [] H H' s.heap s'.heap/\Cm P w H' s'.heap/\Zp v u/\Q v H'
ПCR(CX:CXT)(outer:А Env)(P:bu)(w:cj)(H:Hp)(s:ak)(Q:VK)(E:XK)(r:Result)(s':ak):Prop:=
 match r with
 | .ok (.ret u)=>CE outer P w H s Q u s'
 | .ok _=>False
 | .error e=>CX outer H s E e s'
structure FnOk(P:bu)(w:cj)(K:af)(mg:Str->Б ah)(base:dr)(CX:CXT)(k:Г)(f:am)(fd:cx)(ps:А Str)(sp:Sp):В where
 len:∀vs H Q E,sp vs H Q E->vs.length=ps.length
 run:∀(A:ck) (outer:А Env) (s:ak) (H:Hp) (args:Args) (us:А ah) (vs:А V) (Q:VK) (E:XK),Room k A->Env0 P w K mg base A outer s H->BindsTo s fd args (ps.zip us)->Zw vs us->sp vs H Q E->
  codeAny (bp P w) A (.call (.ref f) args) (CR CX outer P w H s Q E) s
section
variable{X:Cx}{pins:А (am×Obj)}{σ:St}{H:Hp}{s s':ak}
ОInv.env0(I:Inv X pins σ H s):Env0 X.prog X.w X.K X.mg X.base X.A X.stack s H:=
 ⟨I.ok.frames,I.ok.mod,I.bs,d3 I.ok.bsz I.sz,I.stack,I.stkFree,I.hok,I.bare⟩
ОInv.after{Q:VK}{u:ah}(I:Inv X pins σ H s)(h:CE X.stack X.prog X.w H s Q u s'):EP X pins σ Q u s':=by
 O⟨v,H',os,bare,un,hok,r,q⟩:=h
 O⟨hh,g,d,t,os'⟩:=s'
 obtain rfl:os'=s.os:=os
 E⟨v,H',I.call (h':=hh) (g':=g) (d':=d) (t':=t) (ch:=[]) un hok bare (fun b z=>absurd z Л),r,q⟩
end
ПNn(sp:Sp)(dvs:А V)(E:XK)(t:TA):TE:=fun σ H Q=>t σ H fun vs H1=>sp (vs++dvs) H1 Q E
ПZwr(C:am)(m:Str)(sp:Sp)(dvs:А V)(E:XK)(ta:TE)(t:TA):TE:=fun σ H Q=>ta σ H fun x H1=>∃a dx fs,x= .ref a/\H1 a=some (.ins C dx fs)/\fs.lookup m=none/\
 t σ H1 fun vs H2=>sp (x::(vs++dvs)) H2 Q E
ПZws(C:am)(sp:Sp)(dvs:А V)(E:XK)(t:TA):TE:=fun σ H Q=>t σ H fun vs H1=>∀x dx,H1 x=none->H1 dx=none->dx≠x->
 sp (.ref x::(vs++dvs)) (Z5 (Z5 H1 dx (.own x)) x (.ins C dx [])) (fun v H2=>v= .non/\Q (.ref x) H2) E
ПWw(K:af)(fd:cx)(ps:А Str)(ds:А ah):Prop:=
 ∀(s:ak) (us:А ah),K.In s.heap->(us++ds).length=ps.length->BindsTo s fd ⟨us,[]⟩ (ps.zip (us++ds))
ОWw.all{K:af}{fd:cx}{ps:А Str}(h:∀us:А ah,us.length=ps.length->bindArgs fd ⟨us,[]⟩=pure (ps.zip us)):Ww K fd ps []:=fun s us _ hl=>by
 rw[List.append_nil]at hl⊢
 E .of_eq (h us hl)
ПS5(CX:CXT)(X:Cx)(E:XK):Prop:=∀(pins:А (am×Obj)) (σ:St) (H:Hp) (s:ak) (e:ah) (s':ak),Inv X pins σ H s->CX X.stack H s E e s'->X.xe e s'
section
variable{X:Cx}{CX:CXT}{k:Г}{f C:am}{fd:cx}{ps:А Str}{sp:Sp}{dvs:А V}{ds:А ah}{E:XK}{x m:Str}{p pos apos:Pos}{e o:ci}{es:А ci}{ta:TE}{t:TA}
ОZl1{pins:А (am×Obj)}{σ:St}{H:Hp}{s:ak}{Q:VK}{us:А ah}{vs:А V}(F:FnOk X.prog X.w X.K X.mg X.base CX k f fd ps sp)(hr:Room k X.A)(hb:Ww X.K fd ps ds)(hd:Zw dvs ds)(hx:S5 CX X E)
  (I:Inv X pins σ H s) (r:Zw vs us) (h:sp (vs++dvs) H Q E):ba (bp X.prog X.w) X.A (call (.ref f) us) (EP X pins σ Q) X.xe s:=by
 have r2:Zw (vs++dvs) (us++ds):=r.append hd
 have hl:(us++ds).length=ps.length:=by rw[<-r2.length];E F.len _ _ _ _ h
 R wpAny_call (codeAny_mono (F.run X.A X.stack s H ⟨us,[]⟩ (us++ds) (vs++dvs) Q E hr I.env0 (hb s us I.kIn hl) r2 h) fun r s' hq=>?_)
 cases r with
 |error e=>E hx pins σ H s e s' I hq
 |ok fl=>
  cases fl with
  |ret u=>E I.after hq
  |next=>E False.elim hq
  |brk=>E False.elim hq
  |cont=>E False.elim hq
ОX9(F:FnOk X.prog X.w X.K X.mg X.base CX k f fd ps sp)(hr:Room k X.A)(hg:Gl X x)(hm:X.mg x=some (.ref f))(hk:bq X.K (.ref f)=true)(hb:Ww X.K fd ps ds)(hd:Zw dvs ds)(hx:S5 CX X E)
  (ha:PA X (e::es) t) (hdb:(x==("__debug__":Str))=false:=by decide) (he:ay (e::es) X.env=(false,f9 e X.env)::ay es X.env:=by rfl) (hpl:(f7 pos (ay es X.env)).any (·.1)=false:=by rfl):
  PE X (.Call (.Name x p) (e::es) [] pos) (Nn sp dvs E t):=by
 intro pins s σ H Q I h
 R wpAny_Call_Name_kw (Zg4 I hg hm ?_ hdb)
 R PySem.W.callWith_K (h₀:=X.base) I.ok.mod.kin hk (Wo (ha pos pins s σ H _ I h) fun us s1 ⟨vs,H1,I1,r,q⟩=>⟨I1.kIn,?_⟩) he hpl
 E Zl1 F hr hb hd hx I1 r q
structure Mk(K:af)(C f:am):В where
 makes:PySem.W.makesIn K C=true
 init:PySem.W.findIn K (.ref C) "__init__"=some (some (.ref f))
 fn:PySem.W.isFn K (.ref f)=true
 kp:bq K (.ref C)=true
end
ПPK(X:Cx)(kws:А Keyword)(t:TA):Prop:=
 ∀(pos:Pos) (pins:А (am×Obj)) (s:ak) (σ:St) (H:Hp) (Q:А V->Hp->В),Inv X pins σ H s->t σ H Q->ba (bp X.prog X.w) X.A (evalAll ((backToKw pos (keywordEach kws X.env)).map (·.2))) (AP X pins σ Q) X.xe s
section
variable{X:Cx}{CX:CXT}{k:Г}{f C:am}{fd:cx}{ps ks:А Str}{sp:Sp}{E:XK}{x m:Str}{p pos apos kpos:Pos}{e o:ci}{es:А ci}{kws:А Keyword}{te ta:TE}{t tk:TA}{nm:Б Str}
structure KBinds(K:af)(fd:cx)(ps ks:А Str)(g:А ah->А ah->А ah)(gV:А V->А V->А V):В where
 to:∀(s:ak) (us ws:А ah),K.In s.heap->(g us ws).length=ps.length->BindsTo s fd ⟨us,ks.zip ws⟩ (ps.zip (g us ws))
 rel:∀{vs:А V} {us:А ah} {zs:А V} {ws:А ah},Zw vs us->Zw zs ws->Zw (gV vs zs) (g us ws)
ПZtx(sp:Sp)(gV:А V->А V->А V)(E:XK)(t tk:TA):TE:=fun σ H Q=>t σ H fun vs H1=>tk σ H1 fun zs H2=>sp (gV vs zs) H2 Q E
variable{g:А ah->А ah->А ah}{gV:А V->А V->А V}
end
structure FnScope(N P:А Str)(sc:Scope):В where
 kind:sc.kind= .function
 co:sc.isCoroutine=false
 gen:sc.isGenerator=false
 nd:N.Nodup
 pre:N.take P.length=P
 par:∀x∈P,sc.names.lookup x=some .local\/sc.names.lookup x=some .cell
 nofree:∀y∈sc.names,y.2≠.free
ОE8{kindOf:Str->Б NameKind}{x:Str}:∀{binds:А (Str×ah)} {m:Str->Б ah},(∀v,(x,v)∉binds)->bindL kindOf binds m x=m x
  | [],_,_=>rfl
  | (n,v)::r,m,h=>by
    unfold bindL
    rw[E8 fun w hw=>h w (ar _ hw)]
    split
    · have:x≠n:=by rintro rfl;E h v aj
      simp[this]
    · rfl
ОE9{kindOf:Str->Б NameKind}{x:Str}:∀{binds:А (Str×ah)} {m:Str->Б ah},(∀v,(x,v)∉binds)->bindC kindOf binds m x=m x
  | [],_,_=>rfl
  | (n,v)::r,m,h=>by
    unfold bindC
    rw[E9 fun w hw=>h w (ar _ hw)]
    split
    · rfl
    · have:x≠n:=by rintro rfl;E h v aj
      simp[this]
ОIa{kindOf:Str->Б NameKind}{x:Str}{v:ah}:∀{P:А Str} {vs:А ah} {i:Г} {m:Str->Б ah},P.Nodup->P[i]? =some x->vs[i]? =some v->kindOf x=some .local->
  bindL kindOf (P.zip vs) m x=some v
 | [],_,_,_,_,h,_,_=>by simp at h
 |_::_,[],_,_,_,_,h,_=>by simp at h
 |p::P,w::vs,0,m,nd,h1,h2,hk=>by
  simp at h1 h2;subst h1;subst h2
  show bindL kindOf ((p,w)::P.zip vs) m p=_
  unfold bindL
  rw[E8 fun v hv=>(fu.mp nd).1 (List.of_mem_zip hv).1,Е hk]
  simp
 |p::P,w::vs,i+1,m,nd,h1,h2,hk=>by
  show bindL kindOf ((p,w)::P.zip vs) m x=_
  unfold bindL
  E Ia (i:=i) (fu.mp nd).2 (by simpa using h1) (by simpa using h2) hk
ОIb{kindOf:Str->Б NameKind}{x:Str}{v:ah}:∀{P:А Str} {vs:А ah} {i:Г} {m:Str->Б ah},P.Nodup->P[i]? =some x->vs[i]? =some v->kindOf x≠some .local->
  bindC kindOf (P.zip vs) m x=some v
 | [],_,_,_,_,h,_,_=>by simp at h
 |_::_,[],_,_,_,_,h,_=>by simp at h
 |p::P,w::vs,0,m,nd,h1,h2,hk=>by
  simp at h1 h2;subst h1;subst h2
  show bindC kindOf ((p,w)::P.zip vs) m p=_
  unfold bindC
  rw[E9 fun v hv=>(fu.mp nd).1 (List.of_mem_zip hv).1,Д hk]
  simp
 |p::P,w::vs,i+1,m,nd,h1,h2,hk=>by
  show bindC kindOf ((p,w)::P.zip vs) m x=_
  unfold bindC
  E Ib (i:=i) (fu.mp nd).2 (by simpa using h1) (by simpa using h2) hk
ПO7(N:А Str)(vs:А V):St:=vs.map some++List.replicate (N.length- vs.length) none
ПS6(CX:CXT)(P:bu)(w:cj)(K:af)(mg:Str->Б ah)(base:dr)(N:А Str)(qual:Str)(scope:Scope)(f:am)(cd:ah)(A:ck)(outer:А Env)(s:ak)(H:Hp)(E:XK):Cx where
 prog:=P
 w:=w
 K:=K
 mg:=mg
 base:=base
 A:=A.deeper (envOfC qual scope s.heap.objs.size f cd)
 N:=N
 s₀:=s
 H₀:=H
 env:=envOfC qual scope s.heap.objs.size f cd
 outer:=outer
 stack:=envOfC qual scope s.heap.objs.size f cd::outer
 ex:=[]
 calm:=true
 fn:=fun _=>true
 pn:=[]
 xe:=fun e s'=>ba (bp P w) (A.deeper (envOfC qual scope s.heap.objs.size f cd)) (leaving (envOfC qual scope s.heap.objs.size f cd) e) (fun _ s''=>CX outer H s E e s'') (fun e' s''=>CX outer H s E e' s'') s'
ОNp{sc:Scope}{n:Г}{x:Str}(h:sc.names.lookup x=some .cell):∃c,(cellsFrom n sc.names []).lookup x=some c:=by
 have q:=PySem.W.cellsFrom_some sc.names n [] (.inl h)
 E Option.isSome_iff_exists.mp q
ОZas{CX:CXT}{P:bu}{w:cj}{K:af}{mg:Str->Б ah}{base:dr}{N ps:А Str}{qual:Str}{scope:Scope}{f:am}{cd:ah}{A:ck}{outer:А Env}{s s1:ak}{H:Hp}{E:XK}{us:А ah}{vs:А V}
  (S:FnScope N ps scope) (hd:A.handled=none) (e0:Env0 P w K mg base A outer s H) (hl:vs.length=ps.length) (r:Zw vs us)
  (x:InCallC s s.heap.objs.size (bindL (envOfC qual scope s.heap.objs.size f cd).kindOf (ps.zip us) fun _=>none) (cellsFrom (s.heap.objs.size+1) scope.names []) (bindC (envOfC qual scope s.heap.objs.size f cd).kindOf (ps.zip us) fun _=>none) s1):
  Inv (S6 CX P w K mg base N qual scope f cd A outer s H E) [] (O7 N vs) H s1:=by
 have hpl:ps.length<=N.length:=by have:=congrArg List.length S.pre;rw[gn]at this;W
 O⟨h1,tk,rfl,hk⟩:=x.done
 have noA:∀b:am,b∉(S6 CX P w K mg base N qual scope f cd A outer s H E).ex:=fun b z=>absurd (show b∈([]:А am)from z) Л
 R⟨⟨e0.mod,S.kind,rfl,rfl,a7 _,fun y z c h1 h2=>?_,fun y hy=>?_,fun y c _ h=>?_,fun _=>hd,Around.frames_deeper e0.frames,.inr ⟨rfl,rfl⟩,fun b z=>absurd z (noA b),e0.bs,e0.bsz,fun b _ _=>noA b,fun b z=>absurd z (noA b),e0.funs,e0.frf⟩,
  rfl,e0.bare,Un.kept hk,⟨_,x.toInCall.ns,fun i y v h1 h2 h3=>?_⟩,fun y c h=>⟨_,x.cell y c h⟩,e0.hok.fresh (a7 _),fun y c h=>?_,fun p hp=>absurd (show p∈([]:А (am×Obj))from hp) Л,e0.hok.kept hk,?_⟩
 ·E name_of_addr x.apart (PySem.mem_of_lookup h1) (PySem.mem_of_lookup h2)
 ·have hy:scope.names.lookup y=some .cell\/scope.names.lookup y=some .free:=hy
  rcases hy with hy|hy
  ·E Np hy
  ·E absurd rfl (S.nofree _ (PySem.mem_of_lookup hy))
 ·E Nat.le_of_lt (x.above y c (PySem.mem_of_lookup h))
 ·have hi:i<vs.length:=by
   unfold O7 at h2
   by_cases hi:i<vs.length
   ·E hi
   ·rw[List.getElem?_append_right (by simpa using hi)]at h2
    rw[List.getElem?_replicate]at h2
    split at h2<;> C h2
  have ha:vs[i]? =some v:=by
   unfold O7 at h2
   rw[List.getElem?_append_left (by simpa using hi),bf]at h2
   cases e:vs[i]? with
   |none=>rw[e]at h2;C h2
   |some a=>rw[e]at h2;C h2;rfl
  O⟨u,hu,rv⟩:=r.get ha
  have hp:ps[i]? =some y:=by
   rw[<-S.pre,List.getElem?_take_of_lt И];E h1
  have ndP:ps.Nodup:=by rw[<-S.pre];E S.nd.sublist (List.take_sublist _ _)
  R⟨u,rv,?_⟩
  rcases S.par y (cz hp)with k|k
  ·E .inl ⟨k,Ia ndP hp hu k⟩
  ·O⟨c,e⟩:=Np (n:=s.heap.objs.size+1) k
   R .inr ⟨.inl k,c,e,?_⟩
   have q:=x.cell y c e
   rw[Ib ndP hp hu (by show scope.names.lookup y≠_;rw[k];decide)]at q
   E q
 ·E e0.hok.fresh (Nat.le_of_lt (x.above y c (PySem.mem_of_lookup h)))
 ·unfold O7
  show _=N.length
  rw[bj,ao,List.length_replicate]
  W
ОZo8{CX:CXT}{P:bu}{w:cj}{K:af}{mg:Str->Б ah}{base:dr}{k:Г}{f:am}{name qual:Str}{params:Arguments}{body:А Stmt}{scope:Scope}{dV kV doc pm cdv ct oc:ah}{an od:Б am}
  {osl:Array (Б ah)} {N ps:А Str} {sp:Sp} (lk:K.lookup f=some ⟨oc,od,.func (PySem.W.fnOf name qual params body scope dV kV doc pm an cdv ct),osl⟩) (hcd:PySem.W.codeIn K cdv qual=true) (S:FnScope N ps scope)
  (len:∀vs H Q E,sp vs H Q E->vs.length=ps.length)
  (hbody:∀(A:ck) (outer:А Env) (s:ak) (H:Hp) (vs:А V) (Q:VK) (E:XK),Room k (A.deeper (envOfC qual scope s.heap.objs.size f cdv))->sp vs H Q E->
   ∃t,Gp (S6 CX P w K mg base N qual scope f cdv A outer s H E) body t/\t {nx:=fun _ H'=>Q .non H',rt:=Q} (O7 N vs) H):
  FnOk P w K mg base CX (k+1) f (PySem.W.fnOf name qual params body scope dV kV doc pm an cdv ct) ps sp:=by
 R⟨len,fun A outer s H args us vs Q E hr e0 hb r hsp=>?_⟩
 have hl:=len _ _ _ _ hsp
 have KX:K.In s.heap:=e0.mod.kin.keeps fun b o e=>(e0.bs b o e).1
 have lim:s.heap.NoLimit:=e0.mod.nolimit.keeps fun b o e=>(e0.bs b o e).1
 have hkind:∀y∈ps.zip us,scope.names.lookup y.1=some .local\/(scope.names.lookup y.1=some .cell/\((cellsFrom (s.heap.objs.size+1) scope.names []).lookup y.1).isSome=true):=fun⟨n,v⟩ hy=>by
  rcases S.par n (List.of_mem_zip hy).1 with q|q
  ·E .inl q
  ·E .inr ⟨q,PySem.W.cellsFrom_some _ _ _ (.inl q)⟩
 R codeAny_call_function hr.depth (KX _ _ lk) rfl S.co S.gen rfl (PySem.W.codeRec_of KX hcd) (hb _ _ _ _ ?_)
 R wpAny_newFunctionEnv_cells S.kind hkind fun env he s1 x=>?_
 subst he
 R⟨lim.keeps x.toInCall.keep,codeAny_func ?_⟩
 O⟨t,ht,hq⟩:=hbody A outer s H vs Q E (hr.deeper _) hsp
 have I:Inv (S6 CX P w K mg base N qual scope f cdv A outer s H E) [] (O7 N vs) H s1:=Zas S hr.hd e0 hl r x
 R wpAny_mono (ht [] s1 (O7 N vs) H _ I hq) (fun fl s' hs=>?_) fun e s' hs=>hs
 have fin:∀{σ':St} {H':Hp} {v:V} {u:ah},Inv (S6 CX P w K mg base N qual scope f cdv A outer s H E) [] σ' H' s'->Zp v u->Q v H'->CE outer P w H s Q u s':=
  fun{σ' H' v u} J rv q=>⟨v,H',J.os,J.bare,J.base,J.hok,rv,q⟩
 cases fl with
 |ret u=>
  O⟨v,σ',H',J,rv,q⟩:=hs
  E fin J rv q
 |next=>
  O⟨σ',H',J,q⟩:=hs
  E fin (v:=V.non) (u:=cf) J rfl q
 |brk=>
  O⟨_,_,_,q⟩:=hs
  E False.elim q
 |cont=>
  O⟨_,_,_,q⟩:=hs
  E False.elim q
section
variable{X:Cx}{x:Str}{p pos:Pos}{e:ci}{es:А ci}{t:TA}{id T:String}{r:А V->Hp->VK->В}
ПtCB(r:А V->Hp->VK->В)(t:TA):TE:=fun σ H Q=>t σ H fun vs H1=>r vs H1 Q
ОNq(hc:Qd X (.builtin id) r)(hg:Gl X x)(hm:X.mg x=none)(hv:bootBuiltins x=some (.builtin id))(ha:PA X (e::es) t)(hn:x≠"__name__":=by decide)(hdb:(x==("__debug__":Str))=false:=by decide)
  (he:ay (e::es) X.env=(false,f9 e X.env)::ay es X.env:=by rfl) (hpl:(f7 pos (ay es X.env)).any (·.1)=false:=by rfl):PE X (.Call (.Name x p) (e::es) [] pos) (tCB r t):=by
 intro pins s σ H Q I h
 R wpAny_Call_Name_kw (Bj I hg hm hv ?_ hn hdb)
 E PyProof.Rows.callWith_builtin1 (Wo (ha pos pins s σ H _ I h) fun us s1 ⟨vs,H1,I1,r1,q1⟩=>hc pins s1 σ H1 vs us Q I1 r1 q1) he hpl
ОZat(hc:Qd X (.type T) r)(hg:Gl X x)(hm:X.mg x=none)(hv:bootBuiltins x=some (.type T))(ha:PA X (e::es) t)(hn:x≠"__name__":=by decide)(hdb:(x==("__debug__":Str))=false:=by decide)
  (he:ay (e::es) X.env=(false,f9 e X.env)::ay es X.env:=by rfl) (hpl:(f7 pos (ay es X.env)).any (·.1)=false:=by rfl):PE X (.Call (.Name x p) (e::es) [] pos) (tCB r t):=by
 intro pins s σ H Q I h
 R wpAny_Call_Name_kw (Bj I hg hm hv ?_ hn hdb)
 E PyProof.Rows.callWith_type1 (Wo (ha pos pins s σ H _ I h) fun us s1 ⟨vs,H1,I1,r1,q1⟩=>hc pins s1 σ H1 vs us Q I1 r1 q1) he hpl
end
end L2
namespace HT
open PySem PyProof.Rows
ПlexLt:А Int->А Int->Bool
 | [],[]=>false
 | [],_::_=>true
 |_::_,[]=>false
 |x::xs,y::ys=>if x=y then lexLt xs ys else decide (x<y)
ОZl2(x y:Int)(xs ys:А Int):lexLt (x::xs) (y::ys)=if x=y then lexLt xs ys else decide (x<y):=rfl
ОZgy:lexLt [] []=false:=rfl
ОZcj(y:Int)(ys:А Int):lexLt [] (y::ys)=true:=rfl
ОZck(x:Int)(xs:А Int):lexLt (x::xs) []=false:=rfl
section
variable{prog:bu}{w:cj}{A:ck}{E:ah->ak->В}{s:ak}
ПsIx(n d:Г):Б Int->Г
 |none=>d
 |some v=>if v<0 then(v+(n:Int)).toNat else min v.toNat n
ОZo9(n d:Г):sIx n d none=d:=rfl
ОsIx_nat(n d k:Г):sIx n d (some (k:Int))=min k n:=by
 show(if(k:Int)<0 then((k:Int)+(n:Int)).toNat else min (k:Int).toNat n)=min k n
 rw[Д И,Int.toNat_natCast]
end
end HT
namespace L2
open PySem PySem.Spec PyProof.Rows
noncomputable abbrev TO:=St->Hp->(Б Int->Hp->В)->В
ПPO(X:Cx)(e:Б ci)(t:TO):Prop:=
 ∀(pins:А (am×Obj)) (s:ak) (σ:St) (H:Hp) (Q:Б Int->Hp->В),Inv X pins σ H s->t σ H Q->
  ba (bp X.prog X.w) X.A (evalPart e X.env) (fun u s'=>∃o H',Inv X pins σ H' s'/\IsPart u o/\Q o H') X.xe s
ПHa:TO:=fun _ H Q=>Q none H
ПZjz(t:TE):TO:=fun σ H Q=>t σ H fun x H1=>∃i,x= .int i/\Q (some i) H1
section
variable{X:Cx}{e:ci}{te:TE}{lo hi:Б ci}{tl th:TO}{pos p2:Pos}
ОZhc:PO X none Ha:=by
 intro pins s σ H Q I h
 rw[evalPart_none]
 E ag ⟨none,H,I,.none,h⟩
ОZhd(h:PE X e te):PO X (some e) (Zjz te):=by
 intro pins s σ H Q I hw
 rw[evalPart_some]
 R Wo (h pins s σ H _ I hw) fun u s1 zq9=>?_
 O⟨x,H1,I1,r1,q1⟩:=zq9
 O⟨i,rfl,q⟩:=q1
 O⟨t,rfl⟩:=r1
 E⟨some i,H1,I1,.int i t,q⟩
ПSlR(X:Cx)(r:V->Б Int->Б Int->Hp->VK->В):Prop:=
 ∀(pins:А (am×Obj)) (s:ak) (σ:St) (H:Hp) (x:V) (v vl vu:ah) (lo hi:Б Int) (sl:am) (Q:VK),Inv X pins σ H s->Zp x v->s.heap.IsSliceOf sl vl vu .none->IsPart vl lo->IsPart vu hi->r x lo hi H Q->
  ∃T id,typeLookup (.type T) "__getitem__"=pure (some (.builtin id))/\s.TypeIs v T/\ba (bp X.prog X.w) X.A (getItem v (.ref sl)) (EP X pins σ Q) X.xe s
ОSlR.or{r r':V->Б Int->Б Int->Hp->VK->В}(h:SlR X r)(h':SlR X r'):SlR X (fun x lo hi H Q=>r x lo hi H Q\/r' x lo hi H Q):=by
 intro pins s σ H x v vl vu lo hi sl Q I rx hs pl pu q
 rcases q with q|q
 ·E h pins s σ H x v vl vu lo hi sl Q I rx hs pl pu q
 ·E h' pins s σ H x v vl vu lo hi sl Q I rx hs pl pu q
ПtSl(r:V->Б Int->Б Int->Hp->VK->В)(te:TE)(tl th:TO):TE:=fun σ H Q=>te σ H fun x H1=>tl σ H1 fun l H2=>th σ H2 fun u H3=>r x l u H3 Q
ОZcl{r:V->Б Int->Б Int->Hp->VK->В}(hr:SlR X r)(he:PE X e te)(hl:PO X lo tl)(hu:PO X hi th):PE X (.Subscript e (.Slice lo hi none p2) pos) (tSl r te tl th):=by
 intro pins s σ H Q I h
 R Subscript_ (Wo (he pins s σ H _ I h) fun v s1 zq9=>?_)
 O⟨x,H1,I1,r1,q1⟩:=zq9
 R wpAny_Slice (Wo (hl pins s1 σ H1 _ I1 q1) fun vl s2 ⟨l,H2,I2,pl,q2⟩=>Wo (hu pins s2 σ H2 _ I2 q2) fun vu s3 zq9=>?_)
 O⟨u,H3,I3,pu,q3⟩:=zq9
 rw[evalPart_none]
 R ag ?_
 have I4:Inv X pins σ H3 {s3 with heap:=s3.heap.push {cls:=.type "slice",data:=.fields #[vl,vu,.none]}}:=I3.kept (t':=s3.toks) fun b ob q=>aq _ q
 O⟨T,id,hT,ht,hg⟩:=hr pins {s3 with heap:=s3.heap.push {cls:=.type "slice",data:=.fields #[vl,vu,.none]}} σ H3 x v vl vu l u s3.heap.objs.size Q I4 r1 (Heap.IsSliceOf.new ..) pl pu q3
 show ba (bp X.prog X.w) X.A (subscriptTail e (.Slice lo hi none p2) v (.ref s3.heap.objs.size)) (EP X pins σ Q) X.xe {s3 with heap:=s3.heap.push {cls:=.type "slice",data:=.fields #[vl,vu,.none]}}
 E tail_any (ops:=[.ref s3.heap.objs.size,v]) ht hT hg (by with_unfolding_all rfl)
ПS7(xs:А V)(lo hi:Б Int):А V:=(xs.drop (HT.sIx xs.length 0 lo)).take (HT.sIx xs.length xs.length hi- HT.sIx xs.length 0 lo)
ОNr(xs:А V)(lo hi:Б Int):(S7 xs lo hi).length<=xs.length:=by
 unfold S7
 rw[gn,List.length_drop]
 W
ПZy5(K:af):V->Б Int->Б Int->Hp->VK->Prop:=fun x lo hi H Q=>∃a xs,x= .ref a/\Uh K H a xs/\
 ¬(HT.sIx xs.length 0 lo=0/\HT.sIx xs.length xs.length hi=xs.length)/\∀p,H p=none->Q (.ref p) (Z5 H p (.tup (S7 xs lo hi)))
ПZy6(K:af):R2:=fun x y H Q=>∃a b ns ms,x= .ref a/\y= .ref b/\Uh K H a (ns.map V.int)/\Uh K H b (ms.map V.int)/\Q (.bl (HT.lexLt ns ms)) H
ПZwu(K:af):R2:=fun x y H Q=>∃a b xs ys,x= .ref a/\y= .ref b/\Uh K H a xs/\Uh K H b ys/\xs≠[]/\xs.length+ys.length<=sizeLine/\
 (ys=[]->Q (.ref a) H)/\(ys≠[]->∀p,H p=none->Q (.ref p) (Z5 H p (.tup (xs++ys))))
end
ПixN(n:Г)(i:Int):Б Nat:=if 0<=i then(if i<n then some i.toNat else none)else if-(n:Int)<=i then some (i+n).toNat else none
ПatI{α:Type}(xs:А α)(i:Int):Б α:=(ixN xs.length i).bind fun j=>xs[j]?
ОZhe{n:Г}{i:Int}{j:Г}(h:ixN n i=some j):seqIndex? i n=some j/\j<n/\-(n:Int)<=i/\i<n:=by
 unfold ixN at h
 by_cases h0:0<=i
 ·rw[Е h0]at h
  by_cases h1:i<n
  ·rw[Е h1]at h
   have e:i.toNat=j:=dm.inj h
   E⟨by rw[seqIndex_of h0 h1,e],by W,by W,h1⟩
  ·rw[Д h1]at h;C h
 ·rw[Д h0]at h
  by_cases h1:-(n:Int)<=i
  ·rw[Е h1]at h
   have e:(i+n).toNat=j:=dm.inj h
   E⟨by rw[seqIndex_neg И h1,e],by W,h1,by W⟩
  ·rw[Д h1]at h;C h
ОKh{α:Type}{xs:А α}{i:Int}{v:α}(h:atI xs i=some v):∃j,seqIndex? i xs.length=some j/\xs[j]? =some v/\j<xs.length/\-(xs.length:Int)<=i/\i<xs.length:=by
 unfold atI at h
 cases e:ixN xs.length i with
 |none=>rw[e]at h;C h
 |some j=>
  rw[e]at h
  O⟨h1,h2,h3,h4⟩:=Zhe e
  E⟨j,h1,h,h2,h3,h4⟩
ПKi(b:ci):Prop:=∀o i,subscripted b false o i=operate [o,i] (getItem o i)
ПIxR(X:Cx)(r:R2):Prop:=
 ∀(value slice:ci) (pins:А (am×Obj)) (s:ak) (σ:St) (H:Hp) (x y:V) (v u:ah) (Q:VK),Inv X pins σ H s->Zp x v->Zp y u->r x y H Q->
  subscripted slice false v u=operate [v,u] (getItem v u)->ba (bp X.prog X.w) X.A (subscriptTail value slice v u) (EP X pins σ Q) X.xe s
ПMtR(X:Cx)(id:String)(r:V->А V->Hp->VK->В):Prop:=
 ∀(pins:А (am×Obj)) (s:ak) (σ:St) (H:Hp) (x:V) (xs:А V) (v:ah) (us:А ah) (Q:VK),Inv X pins σ H s->Zp x v->Zw xs us->r x xs H Q->
  ba (bp X.prog X.w) X.A (call (.builtin id) (v::us)) (EP X pins σ Q) X.xe s
section
variable{X:Cx}{a b:ci}{ta tb:TE}{pos:Pos}
ОIxR.or{r r':R2}(h:IxR X r)(h':IxR X r'):IxR X (fun x y H Q=>r x y H Q\/r' x y H Q):=by
 intro value slice pins s σ H x y v u Q I rx ry q hs
 rcases q with q|q
 ·E h value slice pins s σ H x y v u Q I rx ry q hs
 ·E h' value slice pins s σ H x y v u Q I rx ry q hs
ОHb{r:R2}(hr:IxR X r)(ha:PE X a ta)(hb:PE X b tb)(hs:Ki b):PE X (.Subscript a b pos) (tOp r ta tb):=by
 intro pins s σ H Q I h
 E Subscript_ (Zlw ha hb I h fun v u s2 x y H2 I2 rx ry q=>hr a b pins s2 σ H2 x y v u Q I2 rx ry q (hs _ _))
ПZl4(K:af):R2:=fun x y H Q=>∃p xs i v,x= .ref p/\y= .int i/\Ws K H p xs/\atI xs i=some v/\Q v H
ПZpa(K:af):R2:=fun x y H Q=>∃p xs i v,x= .ref p/\y= .int i/\Uh K H p xs/\atI xs i=some v/\Q v H
ПZpb:R2:=fun x y H Q=>∃z i c,x= .str z/\y= .int i/\z.length<=sizeLine/\atI z.cps.toList i=some c/\Q (.str ⟨#[c]⟩) H
ОZhg:IxR X (Zl4 X.K):=by
 intro value slice pins s σ H x y v u Q I rx ry h hs
 O⟨p,xs,i,z,rfl,rfl,hq,he,q⟩:=h
 C rx
 O⟨t,rfl⟩:=ry
 O⟨its,r,pl,hz⟩:=I.list hq
 O⟨j,h1,h2,h3,h4,h5⟩:=Kh he
 O⟨w,ew,rw'⟩:=r.get h2
 have hl:=r.length
 have hn:=Tm
 have fin:EP X pins σ Q w s:=⟨z,H,I,rw',q⟩
 by_cases h0:0<=i
 ·have hj:i.toNat=j:=by
   rw[seqIndex_of h0 h5]at h1
   E dm.inj h1
  E item_listR pl.isList h0 И (by rw[hj];simpa using ew) fin hs
 ·have hj:(i+(its.toArray.size:Int)).toNat=j:=by
   rw[seqIndex_neg И h4]at h1
   rw[bi,<-hl]
   E dm.inj h1
  E subscriptTail_builtinR (x:=w) pl.isList.typeIs slot_list_getitem.lookup
   (wpAny_getItem_list_neg (Q:=fun r s'=>r=w/\EP X pins σ Q r s') pl.isList И (by rw[bi]<;> W) И (by rw[hj];simpa using ew) ⟨rfl,fin⟩) hs
ОZl5:IxR X (Zpa X.K):=by
 intro value slice pins s σ H x y v u Q I rx ry h hs
 O⟨p,xs,i,z,rfl,rfl,hq,he,q⟩:=h
 C rx
 O⟨t,rfl⟩:=ry
 O⟨its,r,pl,hz⟩:=I.tuple hq
 O⟨j,h1,h2,h3,h4,h5⟩:=Kh he
 O⟨w,ew,rw'⟩:=r.get h2
 have hl:=r.length
 have hn:=Tm
 have fin:EP X pins σ Q w s:=⟨z,H,I,rw',q⟩
 E subscriptTail_builtinR (x:=w) pl.typeIs slot_tuple_getitem.lookup
  (getItem_tuple (j:=j) (Q:=fun r s'=>r=w/\EP X pins σ Q r s') pl И И (by rw[bi,<-hl];E h1) (by simpa using ew) ⟨rfl,fin⟩) hs
ОZl6:IxR X Zpb:=by
 intro value slice pins s σ H x y v u Q I rx ry h hs
 O⟨z,i,c,rfl,rfl,hz,he,q⟩:=h
 O⟨t,rfl⟩:=rx
 O⟨t',rfl⟩:=ry
 O⟨j,h1,h2,h3,h4,h5⟩:=Kh he
 have hl:z.cps.toList.length=z.length:=by simp[Str.length]
 rw[hl]at h1 h4 h5
 have hn:=Tm
 E tail_any (typeIs_str s z t) slot_str_getitem.lookup (getItem_str (c:=c) (by
  have e1:decide (i< -(2^63:Int))=false:=Ж И
  have e2:decide (i>=2^63)=false:=Ж И
  rw[e1,e2,Bool.or_false]) (by rw[h1];simpa using h2) ⟨.str ⟨#[c]⟩,H,I.tok _,⟨_,rfl⟩,q⟩) hs
ПrIx(K:af):R2:=fun x y H Q=>Zl4 K x y H Q\/Zpa K x y H Q\/Zpb x y H Q
ОKj:IxR X (rIx X.K):=Zhg.or (Zl5.or Zl6)
ПZwv:V->V->V->Hp->(Hp->В)->Prop:=fun o i v H Q=>∃p xs k j,o= .ref p/\i= .int k/\H p=some (.lst xs)/\ixN xs.length k=some j/\Q (Z5 H p (.lst (xs.set j v)))
ОKk(lo hi:Б Int)(n:Г):(sliceBounds lo hi none n).1=((HT.sIx n 0 lo:Г):Int)/\(sliceBounds lo hi none n).2.1=((HT.sIx n n hi:Г):Int)/\(sliceBounds lo hi none n).2.2=1:=by
 R⟨?_,?_,rfl⟩
 ·cases lo with
  |none=>simp[sliceBounds,HT.sIx]
  |some i=>
   simp only[sliceBounds,HT.sIx,Option.getD_none,show(1:Int) > 0 by decide,if_true]
   by_cases h:i<0
   ·simp only[h,if_true]<;> W
   ·simp only[h,if_false]<;> W
 ·cases hi with
  |none=>simp[sliceBounds,HT.sIx]
  |some i=>
   simp only[sliceBounds,HT.sIx,Option.getD_none,show(1:Int) > 0 by decide,if_true]
   by_cases h:i<0
   ·simp only[h,if_true]<;> W
   ·simp only[h,if_false]<;> W
ОEr(its:А ah)(lo hi:Б Int):slicePick its.toArray lo hi none=((its.drop (HT.sIx its.length 0 lo)).take (HT.sIx its.length its.length hi- HT.sIx its.length 0 lo)).toArray:=by
 O⟨h1,h2,h3⟩:=Kk lo hi its.toArray.size
 unfold slicePick
 rw[h1,h2,h3]
 simp only[sliceRange_one,pick_run,bi]<;> rfl
ПZpd(K:af):V->Б Int->Б Int->Hp->VK->Prop:=fun x lo hi H Q=>∃a xs,x= .ref a/\Ws K H a xs/\∀p,H p=none->Q (.ref p) (Z5 H p (.lst (S7 xs lo hi)))
ОZhh:SlR X (Zpd X.K):=by
 intro pins s σ H x v vl vu lo hi sl Q I rx hs pl pu h
 O⟨a,xs,rfl,hx,q⟩:=h
 C rx
 O⟨its,r,ht,hz⟩:=I.list hx
 have hlen:=r.length
 R⟨"list",_,slot_list_getitem.lookup,ht.isList.typeIs,?_⟩
 R wpAny_getItem_list_slice ht.isList hs pl pu .none Л ?_ (by rw[bi]<;> W)
 rw[Er,<-hlen]
 R⟨.ref s.heap.objs.size,_,I.laid (t':=s.toks) (o:=.lst (S7 xs lo hi)) (fun b ob q=>aq _ q) (a7 _) ?_,rfl,q _ (I.hok.fresh (a7 _))⟩
 E⟨d3 (Nr xs lo hi) hz,_,0,(r.drop (HT.sIx xs.length 0 lo)).take (HT.sIx xs.length xs.length hi- HT.sIx xs.length 0 lo),a9 _ rfl⟩
ПYi:V->Bool
 | .non=>true
 | .bl _=>true
 | .int _=>true
 | .str _=>true
 |_=>false
ПNt:V->V->Bool
 | .non,.non=>true
 | .bl a,.bl b=>a==b
 | .bl a,.int b=>(if a then 1 else 0)==b
 | .int a,.bl b=>a==(if b then 1 else 0)
 | .int a,.int b=>a==b
 | .str a,.str b=>a==b
 |_,_=>false
ОZcn{A:ck}{s:ak}{y x:V}{u v:ah}(ry:Zp y u)(rx:Zp x v)(fy:Yi y=true)(fx:Yi x=true):SeqAt.EqAt A s u v (Nt y x):=by
 cases y with
 |non=>
  C ry
  cases x with
  |non=>C rx;E SeqAt.EqAt.same _
  |bl b=>C rx;E SeqAt.EqAt.none_bool b
  |int b=>O⟨t,rfl⟩:=rx;E SeqAt.EqAt.none_int b t
  |str b=>O⟨t,rfl⟩:=rx;E SeqAt.EqAt.none_str b t
  |_=>E absurd (show false=true from fx) bh
 |bl a=>
  C ry
  cases x with
  |non=>C rx;E SeqAt.EqAt.bool_none a
  |bl b=>C rx;E SeqAt.EqAt.bool_bool a b
  |int b=>O⟨t,rfl⟩:=rx;E SeqAt.EqAt.bool_int a b t
  |str b=>O⟨t,rfl⟩:=rx;E SeqAt.EqAt.bool_str a b t
  |_=>E absurd (show false=true from fx) bh
 |int a=>
  O⟨t',rfl⟩:=ry
  cases x with
  |non=>C rx;E SeqAt.EqAt.int_none a t'
  |bl b=>C rx;E SeqAt.EqAt.int_bool a t' b
  |int b=>O⟨t,rfl⟩:=rx;E SeqAt.EqAt.int_int a t' b t
  |str b=>O⟨t,rfl⟩:=rx;E SeqAt.EqAt.int_str a t' b t
  |_=>E absurd (show false=true from fx) bh
 |str a=>
  O⟨t',rfl⟩:=ry
  cases x with
  |non=>C rx;E SeqAt.EqAt.str_none a t'
  |bl b=>C rx;E SeqAt.EqAt.str_bool a t' b
  |int b=>O⟨t,rfl⟩:=rx;E SeqAt.EqAt.str_int a t' b t
  |str b=>O⟨t,rfl⟩:=rx;E SeqAt.EqAt.str_str a t' b t
  |_=>E absurd (show false=true from fx) bh
 |_=>E absurd (show false=true from fy) bh
ПS8(x:V)(u:ah):Bool:=match u with
 | .none=>Nt .non x
 | .bool b=>Nt (.bl b) x
 | .int i _=>Nt (.int i) x
 | .str z _=>Nt (.str z) x
 |_=>false
ОZco{x y:V}{u:ah}(r:Zp y u)(f:Yi y=true):S8 x u=Nt y x:=by
 cases y with
 |non=>C r;rfl
 |bl b=>C r;rfl
 |int i=>O⟨t,rfl⟩:=r;rfl
 |str z=>O⟨t,rfl⟩:=r;rfl
 |_=>E absurd (show false=true from f) bh
ОGq{x:V}:∀{xs:А V} {us:А ah},Zw xs us->xs.all Yi=true->us.any (S8 x)=xs.any fun y=>Nt y x
 |_,_,.nil,_=>rfl
 |y::xs,u::us,.cons r t,f=>by
  rw[List.all_cons,Bool.and_eq_true]at f
  rw[List.any_cons,List.any_cons,Zco r f.1,Gq t f.2]
ОBm{A:ck}{s:ak}{x:V}{v:ah}(rx:Zp x v)(fx:Yi x=true):∀{xs:А V} {us:А ah},Zw xs us->xs.all Yi=true->∀u∈us,SeqAt.EqAt A s u v (S8 x u)
 |_,_,.nil,_=>fun u hu=>by C hu
 |y::xs,u::us,.cons r t,f=>fun u' hu=>by
  rw[List.all_cons,Bool.and_eq_true]at f
  rcases bo.mp hu with rfl|hu
  ·rw[Zco r f.1];E Zcn r rx f.1 fx
  ·E Bm rx fx t f.2 u' hu
ПinV(x:V)(xs:А V):Bool:=xs.any fun y=>Nt y x
ПrIn(K:af)(neg:Bool):R2:=fun x y H Q=>∃p xs,y= .ref p/\(Ws K H p xs\/Uh K H p xs)/\Yi x=true/\xs.all Yi=true/\Q (.bl (if neg then !inV x xs else inV x xs)) H
ОIc:Bl X (gx .In) (rIn X.K false):=by
 intro pins s σ H x y v u Q I rx ry h
 O⟨p,xs,rfl,hq,fx,fs,q⟩:=h
 C ry
 rcases hq with hq|hq
 ·O⟨its,r,pl,hz⟩:=I.list hq
  R SeqAt.in_listAt (S8 x) pl.isList (fun w hw=>Bm rx fx r fs w (by simpa using hw)) ⟨.bl _,H,I,rfl,?_⟩
  rw[show its.toArray.any (S8 x)=its.any (S8 x) by simp,Gq r fs]
  E q
 ·O⟨its,r,pl,hz⟩:=I.tuple hq
  R SeqAt.in_tupleAt (S8 x) pl (fun w hw=>Bm rx fx r fs w (by simpa using hw)) ⟨.bl _,H,I,rfl,?_⟩
  rw[show its.toArray.any (S8 x)=its.any (S8 x) by simp,Gq r fs]
  E q
ОKl:Bl X (gx .NotIn) (rIn X.K true):=by
 intro pins s σ H x y v u Q I rx ry h
 O⟨p,xs,rfl,hq,fx,fs,q⟩:=h
 C ry
 rcases hq with hq|hq
 ·O⟨its,r,pl,hz⟩:=I.list hq
  R SeqAt.notIn_listAt (S8 x) pl.isList (fun w hw=>Bm rx fx r fs w (by simpa using hw)) ⟨.bl _,H,I,rfl,?_⟩
  rw[show its.toArray.any (S8 x)=its.any (S8 x) by simp,Gq r fs]
  E q
 ·O⟨its,r,pl,hz⟩:=I.tuple hq
  R SeqAt.notIn_tupleAt (S8 x) pl (fun w hw=>Bm rx fx r fs w (by simpa using hw)) ⟨.bl _,H,I,rfl,?_⟩
  rw[show its.toArray.any (S8 x)=its.any (S8 x) by simp,Gq r fs]
  E q
ОKm:Bl X (gx .NotIn) (fun x y H Q=>∃i j,x= .str i/\y= .str j/\Q (.bl (!(!(c8 j i 0 j.length 1).isEmpty))) H):=by
 intro pins s σ H x y v u Q I rx ry h
 O⟨i,j,rfl,rfl,q⟩:=h
 O⟨t,rfl⟩:=rx
 O⟨t',rfl⟩:=ry
 E notIn_str ⟨.bl _,H,I,rfl,q⟩
ОKo:Qd X (.builtin "len") (fun xs H Q=>∃p ys,xs=[.ref p]/\(Ws X.K H p ys\/Uh X.K H p ys)/\Q (.int ys.length) H):=by
 intro pins s σ H xs us Q I r h
 O⟨p,ys,rfl,hq,q⟩:=h
 O⟨u,rfl,rx⟩:=Jp r
 C rx
 have hn:=Tm
 rcases hq with hq|hq
 ·O⟨its,r',pl,hz⟩:=I.list hq
  have hlen:=r'.length
  E Calls.call_len_list pl.isList (by simp only[bi]<;> W) ⟨.int ys.length,H,I.tok _,⟨s.toks+1,by rw[bi,hlen]⟩,q⟩
 ·O⟨its,r',pl,hz⟩:=I.tuple hq
  have hlen:=r'.length
  E len_tuple pl (by simp only[bi]<;> W) ⟨.int ys.length,H,I.tok _,⟨s.toks+1,by rw[bi,hlen]⟩,q⟩
ОKq:Qd X (.builtin "len") (fun xs H Q=>∃z,xs=[.str z]/\z.length<=sizeLine/\Q (.int z.length) H):=by
 intro pins s σ H xs us Q I r h
 O⟨z,rfl,hz,q⟩:=h
 O⟨u,rfl,t,rfl⟩:=Jp r
 have hn:=Tm
 E len_str И ⟨.int z.length,H,I.tok _,⟨_,rfl⟩,q⟩
ОQd.or{f:ah}{r r':А V->Hp->VK->В}(h:Qd X f r)(h':Qd X f r'):Qd X f (fun xs H Q=>r xs H Q\/r' xs H Q):=by
 intro pins s σ H xs us Q I rs q
 rcases q with q|q
 ·E h pins s σ H xs us Q I rs q
 ·E h' pins s σ H xs us Q I rs q
ОEs:Qd X (.type "tuple") (fun xs H Q=>∃p ys,xs=[.ref p]/\((Ws X.K H p ys/\∀l,H l=none->Q (.ref l) (Z5 H l (.tup ys)))\/(Uh X.K H p ys/\Q (.ref p) H))):=by
 intro pins s σ H xs us Q I r h
 O⟨p,ys,rfl,h⟩:=h
 O⟨u,rfl,rx⟩:=Jp r
 C rx
 rcases h with⟨hq,q⟩|⟨hq,q⟩
 ·O⟨its,r',pl,hz⟩:=I.list hq
  have hlen:=r'.length
  R call_tuple_list pl.isList (fun h' kp=>?_) (by simp only[bi]<;> W)
  have I1:Inv X pins σ H {s with heap:=h'}:=I.kept (t':=s.toks) kp
  have I2:Inv X pins σ (Z5 H h'.objs.size (.tup ys)) {s with heap:=h'.push {cls:=.type "tuple",data:=.seq its.toArray}}:=
   I1.laid (t':=s.toks) (fun b o e=>aq _ e) (a7 _) (show Z9 X.prog X.w _ _ _ (.tup ys)from⟨hz,its,r',IsTup.new _ _⟩)
  E⟨.ref h'.objs.size,_,I2,rfl,q _ (I1.hok.fresh (a7 _))⟩
 ·O⟨its,r',pl,hz⟩:=I.tuple hq
  E call_tuple_same pl ⟨.ref p,H,I,rfl,q⟩
ПtyV(K:af)(T:String)(x:V)(H:Hp):Prop:=match x with
 | .str _=>T="str"
 | .int _=>T="int"
 | .ref p=>(T="list"/\∃xs,Ws K H p xs)\/(T="tuple"/\∃o,K.lookup p=some o/\o.cls= .type "tuple"/\o.dict=none)\/
   (T="dict"/\((∃kvs,HK H p kvs)\/∃kvs,HTt H p kvs))\/(T="set"/\∃S n,H p=some (.set S n))
 |_=>False
ОZcp{pins:А (am×Obj)}{σ:St}{H:Hp}{s:ak}{T:String}{x:V}{v:ah}(I:Inv X pins σ H s)(r:Zp x v)(ty:tyV X.K T x H):
  s.TypeIs v T/\∀a,v= .ref a->∃ob,s.heap.get? a=some ob/\ob.dict=none:=by
 cases x with
 |str z=>
  O⟨t,rfl⟩:=r
  cases(show T="str"from ty)
  E⟨typeIs_str s z t,fun _ e=>nomatch e⟩
 |int i=>
  O⟨t,rfl⟩:=r
  cases(show T="int"from ty)
  E⟨typeIs_int s i t,fun _ e=>nomatch e⟩
 |ref p=>
  C r
  rcases ty with⟨rfl,xs,hq⟩|⟨rfl,o,hk,hc,hd⟩|⟨rfl,hk⟩|⟨rfl,S,n,hk⟩
  ·O⟨its,_,pl,_⟩:=I.list hq
   R⟨pl.isList.typeIs,fun a e=>?_⟩
   C e
   O⟨o,n,e,c,hd,_⟩:=pl
   E⟨o,e,hd⟩
  ·R⟨⟨o,I.kIn p o hk,hc⟩,fun a e=>?_⟩
   C e
   E⟨o,I.kIn _ o hk,hd⟩
  ·have z:∃o,s.heap.get? p=some o/\o.ExactDict:=by
    rcases hk with⟨kvs,ep,hk⟩|⟨kvs,ep,bs,hk⟩
    ·O⟨_,_,_,_,o,_,e,ex,_⟩:=I.hok p _ hk
     E⟨o,e,ex⟩
    ·O⟨_,_,_,_,o,_,e,ex,_⟩:=I.hok p _ hk
     E⟨o,e,ex⟩
   O⟨o,e,ex⟩:=z
   R⟨⟨o,e,ex.1⟩,fun a e2=>?_⟩
   C e2
   E⟨o,e,ex.2.1⟩
  ·O⟨o,_,_,_,e,ex,_⟩:=I.hok p _ hk
   R⟨⟨o,e,ex.1⟩,fun a e2=>?_⟩
   C e2
   E⟨o,e,ex.2.1⟩
 |_=>E False.elim ty
ПZcq(K:af)(T:String)(r:V->А V->Hp->VK->В)(to:TE):TE:=fun σ H Q=>to σ H fun x H1=>tyV K T x H1/\r x [] H1 Q
ПtBM(K:af)(T:String)(r:V->А V->Hp->VK->В)(to:TE)(t:TA):TE:=fun σ H Q=>to σ H fun x H1=>tyV K T x H1/\t σ H1 fun xs H2=>r x xs H2 Q
variable{o e:ci}{es:А ci}{to:TE}{t:TA}{name:Str}{apos cpos:Pos}{T id:String}{r:V->А V->Hp->VK->В}
ОZcr(pa:PlainAttrs T)(slot:Slot T name id)(hty:typeOf (.builtin id)=pure (.type "method_descriptor"))(hm:MtR X id r)(ho:PE X o to)
  (hbase:attributeBase o name X.env (f9 o X.env)=f9 o X.env:=by rfl) (hline:(apos.endLine==cpos.line)=true:=by rfl):PE X (.Call (.Attribute o name apos) [] [] cpos) (Zcq X.K T r to):=by
 intro pins s σ H Q I h
 R wpAny_Call_method0_late hbase hline (Wo (ho pins s σ H _ I h) fun v s1 zq9=>?_)
 O⟨x,H1,I1,r1,ty,q1⟩:=zq9
 O⟨h1,h2⟩:=Zcp I1 r1 ty
 E⟨T,id,pa,slot,hty,h1,h2,Calls.callWith_builtin rfl (PySem.evalArgs_none (hm pins s1 σ H1 x [] v [] Q I1 r1 .nil q1))⟩
ОIe(pa:PlainAttrs T)(slot:Slot T name id)(hty:typeOf (.builtin id)=pure (.type "method_descriptor"))(hm:MtR X id r)(ho:PE X o to)(ha:PA X (e::es) t)
  (hbase:attributeBase o name X.env (f9 o X.env)=f9 o X.env:=by rfl)
  (hfew:((f7 cpos (ay (e::es) X.env)).all (fun x=>!x.1)&&(backToKw cpos (keywordEach [] X.env)).all (fun x=>x.1.isSome)
   &&decide ((e::es).length+([]:А Keyword).length+(if([]:А Keyword).isEmpty then 0 else 1)<30))=true:=by rfl)
  (hline:(apos.endLine==cpos.line)=true:=by rfl) (hs:ay (e::es) X.env=(false,f9 e X.env)::ay es X.env:=by rfl) (hplain:(f7 cpos (ay es X.env)).any (·.1)=false:=by rfl):
  PE X (.Call (.Attribute o name apos) (e::es) [] cpos) (tBM X.K T r to t):=by
 intro pins s σ H Q I h
 R wpAny_Call_method_late hbase hfew hline rfl (Wo (ho pins s σ H _ I h) fun v s1 zq9=>?_)
 O⟨x,H1,I1,r1,ty,q1⟩:=zq9
 O⟨h1,h2⟩:=Zcp I1 r1 ty
 R⟨T,id,pa,slot,hty,h1,h2,?_⟩
 have hA:=ha cpos pins s1 σ H1 _ I1 q1
 rw[hs]at hA⊢
 R Calls.callWith_builtin (by show(false|| (f7 cpos (ay es X.env)).any (·.1))=false;rw[hplain]<;> rfl) (Calls.evalArgs_plain ?_)
 E Wo hA fun us s2 ⟨vs,H2,I2,r2,q2⟩=>hm pins s2 σ H2 x vs v us Q I2 r1 r2 q2
end
ПMtM(X:Cx)(id:String)(r:V->А V->Hp->VK->В):Prop:=
 ∀(pins:А (am×Obj)) (s:ak) (σ:St) (H:Hp) (x:V) (xs:А V) (v:ah) (us:А ah) (Q:VK),Inv X pins σ H s->Zp x v->Zw xs us->r x xs H Q->
  ba (bp X.prog X.w) X.A (call (.builtin id) (v::us)) (EP X pins σ Q) X.xe s
ОZw.one{x:V}{us:А ah}(h:Zw [x] us):∃u,us=[u]/\Zp x u:=by
 cases h with
 |cons r t=>C t;E⟨_,rfl,r⟩
ОZw.zero:∀{us:А ah},Zw [] us->us=[]
 |_,.nil=>rfl
ОZw.dropLast{xs:А V}{us:А ah}(h:Zw xs us):Zw xs.dropLast us.dropLast:=by
 induction h with
 |nil=>E .nil
 |cons r t ih=>
  cases t with
  |nil=>E .nil
  |cons q t'=>E .cons r ih
ОS9{α:Type}(l:А α):l.eraseIdx (l.length- 1)=l.dropLast:=by
 induction l with
 |nil=>rfl
 |cons a r ih=>
  cases r with
  |nil=>rfl
  |cons b r=>
   have e:(a::b::r).length- 1=((b::r).length- 1)+1:=by
    have h1:(a::b::r).length=r.length+2:=rfl
    have h2:(b::r).length=r.length+1:=rfl
    W
   rw[e,List.eraseIdx_cons_succ,ih]
   all_goals rfl
section
variable{X:Cx}{pins:А (am×Obj)}{σ:St}{H:Hp}{s:ak}{l b:am}{xs ys zs:А V}
ОInv.lset{its its':А ah}{n:Г}{f:Array ah->Array ah}{t':Г}(I:Inv X pins σ H s)(hH:H l=some (.lst xs))
  (e:s.heap.get? l=some {cls:=.type "list",data:=.seq its.toArray n}) (hf:f its.toArray=its'.toArray) (hv:Zw ys its') (hz:ys.length<=sizeLine):
  Inv X pins σ (Z5 H l (.lst ys)) {s with heap:=s.heap.update l (c9 f),toks:=t'}:=by
 have q:=PySem.IsL.update e f
 rw[hf]at q
 R I.write (x:=l) (e:=l) (by rw[hH];E trivial) (.inl rfl) (fun b' u hb hu=>(Heap.get?_update_other s.heap (c9 f) (Ne.symm hb)).trans hu) ⟨_,q⟩ ?_
 E⟨hz,its',_,hv,q⟩
ОInv.lnew{its:А ah}{t':Г}(I:Inv X pins σ H s)(hv:Zw ys its)(hz:ys.length<=sizeLine):
  Inv X pins σ (Z5 H s.heap.objs.size (.lst ys)) {s with heap:=s.heap.push {cls:=.type "list",data:=.seq its.toArray},toks:=t'}:=
 I.laid (fun _ _ q=>aq _ q) (a7 _) ⟨hz,its,0,hv,a9 _ rfl⟩
ОInv.fresh(I:Inv X pins σ H s):H s.heap.objs.size=none:=I.hok.fresh (a7 _)
ОInv.lstM(I:Inv X pins σ H s)(hH:H l=some (.lst xs)):xs.length<=sizeLine/\∃(its:А ah) (n:Г),Zw xs its/\xs.length=its.length/\s.heap.get? l=some {cls:=.type "list",data:=.seq its.toArray n}:=by
 O⟨z,its,n,r,e⟩:=I.hok l _ hH
 E⟨z,its,n,r,r.length,e⟩
ОZcs{n:Г}(h:n<=sizeLine):Builtin.List.listTooLong n=false:=by
 unfold Builtin.List.listTooLong
 EЖ И
end
section
variable{X:Cx}
ПQw:V->А V->Hp->VK->Prop:=fun x vs H Q=>∃l xs y,x= .ref l/\vs=[y]/\H l=some (.lst xs)/\xs.length<sizeLine/\Q .non (Z5 H l (.lst (xs++[y])))
ОB9:MtM X "list.append" Qw:=by
 intro pins s σ H x vs v us Q I rx rv h
 O⟨l,xs,y,rfl,rfl,hH,hz,q⟩:=h
 C rx
 O⟨u,rfl,ru⟩:=rv.one
 O⟨z,its,n,r,hl,e⟩:=I.lstM hH
 R call_meets F.slot_list_append ⟨_,e,rfl⟩ F.entry_list_append (F.args_list_append_2 _ _) (PySem.list_append l its.toArray n u (by rw[bi];W)) ⟨e,?_⟩
 R⟨.non,_,I.lset (its':=its++[u]) hH e Л (r.append (.cons ru .nil)) ?_,rfl,q⟩
 rw[bj,List.length_singleton]
 W
ПZsn:V->А V->Hp->VK->Prop:=fun x vs H Q=>∃l b xs zs,x= .ref l/\vs=[.ref b]/\H l=some (.lst xs)/\H b=some (.lst zs)/\xs.length+zs.length<=sizeLine/\Q .non (Z5 H l (.lst (xs++zs)))
ПZpe:V->А V->Hp->VK->Prop:=fun x vs H Q=>∃l xs y,x= .ref l/\vs=[]/\H l=some (.lst xs)/\xs[xs.length- 1]? =some y/\Q y (Z5 H l (.lst xs.dropLast))
ОZl7:MtM X "list.pop" Zpe:=by
 intro pins s σ H x vs v us Q I rx rv h
 O⟨l,xs,y,rfl,rfl,hH,hy,q⟩:=h
 C rx
 have hus:=rv.zero
 subst hus
 O⟨z,its,n,r,hl,e⟩:=I.lstM hH
 O⟨u,hu,ru⟩:=r.get hy
 have hy':its.toArray[its.toArray.size- 1]? =some u:=by
  show its.toArray[its.length- 1]? =some u
  rw[<-b5,<-hl]
  E hu
 R call_meets F.slot_list_pop ⟨_,e,rfl⟩ F.entry_list_pop (F.args_list_pop_1 _) (MeetsSeq.list_pop_last l its.toArray n u hy' (by rw[bi];W)) ⟨e,?_⟩
 R⟨y,_,I.lset (its':=its.dropLast) hH e ?_ r.dropLast ?_,ru,q⟩
 ·show its.toArray.eraseIdxIfInBounds (its.toArray.size- 1)=its.dropLast.toArray
  rw[bi,List.eraseIdxIfInBounds_toArray,S9]
 ·rw[List.length_dropLast]
  W
ПZtz:V->А V->Hp->VK->Prop:=fun x vs H Q=>∃l xs i k y,x= .ref l/\vs=[.int i]/\H l=some (.lst xs)/\-(2^63)<=i/\i<2^63/\seqIndex? i xs.length=some k/\xs[k]? =some y/\Q y (Z5 H l (.lst (xs.eraseIdx k)))
ПZpf:V->А V->Hp->VK->Prop:=fun x vs H Q=>∃l xs,x= .ref l/\vs=[]/\H l=some (.lst xs)/\Q .non (Z5 H l (.lst xs.reverse))
ПKr:V->А V->Hp->VK->Prop:=fun x vs H Q=>∃l xs,x= .ref l/\vs=[]/\H l=some (.lst xs)/\Q .non (Z5 H l (.lst []))
ОZct:MtM X "list.clear" Kr:=by
 intro pins s σ H x vs v us Q I rx rv h
 O⟨l,xs,rfl,rfl,hH,q⟩:=h
 C rx
 have hus:=rv.zero
 subst hus
 O⟨z,its,n,r,hl,e⟩:=I.lstM hH
 R call_meets F.slot_list_clear ⟨_,e,rfl⟩ F.entry_list_clear (F.args_list_clear_1 _) (AutoSeq1.list_clear_list_0 l its.toArray n (by rw[bi];W)) ⟨e,?_⟩
 E⟨.non,_,I.lset (its':=[]) (ys:=[]) hH e rfl .nil (dn _),rfl,q⟩
ПZy7:R2:=fun x y H Q=>∃l b xs zs,x= .ref l/\y= .ref b/\H l=some (.lst xs)/\H b=some (.lst zs)/\xs.length+zs.length<=sizeLine/\∀p,H p=none->Q (.ref p) (Z5 H p (.lst (xs++zs)))
ПZy8:R2:=fun x y H Q=>∃l k xs,x= .ref l/\y= .int k/\H l=some (.lst xs)/\-(2^63)<=k/\k<2^63/\xs.length*k.toNat<=sizeLine/\
 ∀p,H p=none->Q (.ref p) (Z5 H p (.lst (List.replicate k.toNat xs).flatten))
end
section
variable{κ:Type}[DecidableEq κ]
ПWy(kvs:А (κ×V))(k:κ):Б V:=(kvs.find? fun kv=>decide (kv.1=k)).map (·.2)
ПQa(kvs:А (κ×V))(k:κ)(v:V):А (κ×V):=
 if(kvs.any fun kv=>decide (kv.1=k))=true then kvs.map (fun kv=>if kv.1=k then(kv.1,v)else kv)else kvs++[(k,v)]
ПJs(kvs:А (κ×V))(k:κ):А (κ×V):=kvs.filter fun kv=>decide (kv.1≠k)
ОZcu{k:κ}:Wy ([]:А (κ×V)) k=none:=rfl
ОU3{p:κ×V}{r:А (κ×V)}{k:κ}(e:p.1=k):Wy (p::r) k=some p.2:=by simp[Wy,List.find?_cons,e]
ОJt{p:κ×V}{r:А (κ×V)}{k:κ}(e:¬p.1=k):Wy (p::r) k=Wy r k:=by simp[Wy,List.find?_cons,e]
ОTn(k:κ):∀kvs:А (κ×V),(kvs.any fun kv=>decide (kv.1=k))=(Wy kvs k).isSome
 | []=>rfl
 |p::r=>by
  rw[List.any_cons]
  by_cases e:p.1=k
  ·simp only[U3 e,decide_eq_true e,Bool.true_or,Option.isSome_some]
  ·rw[Jt e,Ж e,Bool.false_or];E Tn k r
ОBo(kvs:А (κ×V))(k:κ)(v:V):(Qa kvs k v).length<=kvs.length+1:=by
 unfold Qa
 split
 ·rw[ao];W
 ·rw[bj,bn,List.length_nil];W
ОCz.isSome_eq{o:Б V}{u:Б ah}(r:Cz o u):o.isSome=u.isSome:=by
 cases o with
 |none=>cases u with
  |none=>rfl
  |some _=>E(show False from r).elim
 |some _=>cases u with
  |none=>E(show False from r).elim
  |some _=>rfl
ОCz.getD{o:Б V}{u:Б ah}{d:V}{d':ah}(r:Cz o u)(rd:Zp d d'):Zp (o.getD d) (u.getD d'):=by
 cases o with
 |none=>cases u with
  |none=>E rd
  |some _=>E(show False from r).elim
 |some _=>cases u with
  |none=>E(show False from r).elim
  |some _=>E r
ОKV.val{kvs:А (κ×V)}{vs:А (κ×ah)}(r:KV kvs vs)(k:κ):Cz (Wy kvs k) (valueAt vs k):=by
 unfold KV at r
 induction r with
 |nil=>E True.intro
 | @cons p q ps qs h t ih=>
  O⟨h1,h2⟩:=h
  by_cases e:p.1=k
  ·have e':q.1=k:=h1.symm.trans e
   have b:valueAt (q::qs) k=some q.2:=by simp[valueAt,List.find?_cons,e']
   rw[U3 e,b];E h2
  ·have e':¬q.1=k:=fun z=>e (h1.trans z)
   have b:valueAt (q::qs) k=valueAt qs k:=by simp[valueAt,List.find?_cons,e']
   rw[Jt e,b];E ih
ОKV.any{kvs:А (κ×V)}{vs:А (κ×ah)}(r:KV kvs vs)(k:κ):(kvs.any fun kv=>decide (kv.1=k))=vs.any fun kv=>decide (kv.1=k):=by
 unfold KV at r
 induction r with
 |nil=>rfl
 |cons h t ih=>rw[List.any_cons,List.any_cons,ih,h.1]
ОKV.repl{kvs:А (κ×V)}{vs:А (κ×ah)}(r:KV kvs vs)(k:κ){y:V}{u:ah}(ry:Zp y u):
  KV (kvs.map fun kv=>if kv.1=k then(kv.1,y)else kv) (vs.map fun kv=>if kv.1=k then(kv.1,u)else kv):=by
 unfold KV at r⊢
 induction r with
 |nil=>E .nil
 | @cons p q ps qs h t ih=>
  rw[av,av]
  R .cons ?_ ih
  O⟨h1,h2⟩:=h
  by_cases e:p.1=k
  ·rw[Е e,Е (h1.symm.trans e)];E⟨h1,ry⟩
  ·rw[Д e,Д (fun z=>e (h1.trans z))];E⟨h1,h2⟩
ОKV.put{kvs:А (κ×V)}{vs:А (κ×ah)}(r:KV kvs vs)(k:κ){y:V}{u:ah}(ry:Zp y u):KV (Qa kvs k y) (stored vs k u):=by
 unfold Qa stored
 rw[r.any k]
 by_cases e:(vs.any fun kv=>decide (kv.1=k))=true
 ·rw[Е e,Е e];E r.repl k ry
 ·rw[Д e,Д e];E Paired.snoc r ⟨rfl,ry⟩
ОKV.drop{kvs:А (κ×V)}{vs:А (κ×ah)}(r:KV kvs vs)(k:κ):KV (Js kvs k) (without vs k):=by
 unfold KV at r⊢
 unfold Js without
 induction r with
 |nil=>E .nil
 | @cons p q ps qs h t ih=>
  O⟨h1,h2⟩:=h
  rw[List.filter_cons,List.filter_cons]
  by_cases e:p.1=k
  ·have a:¬decide (p.1≠k)=true:=by simp[e]
   have b:¬decide (q.1≠k)=true:=by simp[h1.symm.trans e]
   rw[Д a,Д b];E ih
  ·have e':¬q.1=k:=fun z=>e (h1.trans z)
   have a:decide (p.1≠k)=true:=by simp[e]
   have b:decide (q.1≠k)=true:=by simp[e']
   rw[Е a,Е b];E .cons ⟨h1,h2⟩ ih
ОKV.length{kvs:А (κ×V)}{vs:А (κ×ah)}(r:KV kvs vs):kvs.length=vs.length:=gu r
ОZcv(kvs:А (κ×V))(k:κ):(Js kvs k).length<=kvs.length:=List.length_filter_le _ _
end
ОGr{P:bu}{w:cj}{k:Key}{u:ah}(r:Zp (kV k) u):(Zj P w).is k u=true:=by
 cases k with
 |inl i=>O⟨t,e⟩:=(show∃t,u=Value.int i t from r);subst e;E Ni P w i t
 |inr x=>O⟨t,e⟩:=(show∃t,u=Value.str x t from r);subst e;E Nj P w x t
ОIg{P:bu}{w:cj}:∀{ks:А Key} {us:А ah},Zw (ks.map kV) us->ItemsAre (Zj P w) ks us
 | [],_,r=>by rw[List.map_nil]at r;C r;E .nil
 |k::ks,_,r=>by
  rw[av]at r
  cases r with
  |cons h t=>E .cons (Gr h) (Ig t)
noncomputable abbrev KT(H:Hp):А (А Key×V)->А (А Key×am×ah)->Prop:=Paired fun p q=>p.1=q.1/\H q.2.1=some (.tup (p.1.map kV))/\Zp p.2 q.2.2
ОKT.val{H:Hp}{kvs:А (А Key×V)}{xs:А (А Key×am×ah)}(r:KT H kvs xs)(k:А Key):Cz (Wy kvs k) ((atKey xs k).map (·.2)):=by
 induction r with
 |nil=>E True.intro
 | @cons p q ps qs h t ih=>
  O⟨h1,_,h2⟩:=h
  by_cases e:p.1=k
  ·have e':q.1=k:=h1.symm.trans e
   have b:atKey (q::qs) k=some q.2:=by simp[atKey,List.find?_cons,e']
   rw[U3 e,b];E h2
  ·have e':¬q.1=k:=fun z=>e (h1.trans z)
   have b:atKey (q::qs) k=atKey qs k:=by simp[atKey,List.find?_cons,e']
   rw[Jt e,b];E ih
ОKT.repl{H:Hp}{kvs:А (А Key×V)}{xs:А (А Key×am×ah)}(r:KT H kvs xs)(k:А Key){y:V}{u:ah}(ry:Zp y u):
  KT H (kvs.map fun kv=>if kv.1=k then(kv.1,y)else kv) (xs.map (putAt k u)):=by
 induction r with
 |nil=>E .nil
 | @cons p q ps qs h t ih=>
  rw[av,av]
  R .cons ?_ ih
  O⟨h1,h2,h3⟩:=h
  unfold putAt
  by_cases e:p.1=k
  ·rw[Е e,Е (h1.symm.trans e)];E⟨h1,h2,ry⟩
  ·rw[Д e,Д (fun z=>e (h1.trans z))];E⟨h1,h2,h3⟩
ОKT.put{H:Hp}{kvs:А (А Key×V)}{xs:А (А Key×am×ah)}(r:KT H kvs xs)(k:А Key){b:am}{y:V}{u:ah}(hb:H b=some (.tup (k.map kV)))(ry:Zp y u):
  KT H (Qa kvs k y) (storedH xs k b u):=by
 have e:(kvs.any fun kv=>decide (kv.1=k))=(atKey xs k).isSome:=by
  rw[Tn,(r.val k).isSome_eq,Option.isSome_map]
 unfold Qa storedH
 rw[e]
 by_cases q:(atKey xs k).isSome=true
 ·rw[Е q,Е q];E r.repl k ry
 ·rw[Д q,Д q];E Paired.snoc r ⟨rfl,hb,ry⟩
ОKT.keeps{H H':Hp}{kvs:А (А Key×V)}{xs:А (А Key×am×ah)}(r:KT H kvs xs)(ht:∀b ys,H b=some (.tup ys)->H' b=some (.tup ys)):KT H' kvs xs:=
 Paired.mapP r fun _ _ z=>⟨z.1,ht _ _ z.2.1,z.2.2⟩
section
variable{P:bu}{w:cj}{H:Hp}{h:dr}{a:am}
ОZcw{u:HO}(ok:Cm P w H h)(e:Rd H a u):Z9 P w H h a u:=e.ok ok
ОBp{kvs:А (Key×V)}(ok:Cm P w H h)(e:RdK H a kvs):kvs.length<=sizeLine/\(a==ff)=false/\∃vs,KV kvs vs/\h.DictOf (Zj P w) a vs:=
 let⟨ep,e⟩:=e;let⟨z,y,vs,r,d⟩:=(show Z9 P w H h a (.dK kvs ep)from Zcw ok e);⟨z,y,vs,r,d.dictOf⟩
ОHc{kvs:А (Key×V)}(ok:Cm P w H h)(e:HK H a kvs):kvs.length<=sizeLine/\(a==ff)=false/\∃vs,KV kvs vs/\h.DictOf (Zj P w) a vs:=Bp ok e.rd
ОOg{ks:А Key}(ok:Cm P w H h)(e:H a=some (.tup (ks.map kV))):(tupleKind (Zj P w)).is h ks a:=by
 O⟨_,its,r,o,h1,h2,n,h3⟩:=(show Z9 P w H h a (.tup (ks.map kV))from ok a _ e)
 E⟨o,its.toArray,n,h1,h2,h3,by simpa using Ig r⟩
ОMj{kvs:А (А Key×V)}(ok:Cm P w H h)(e:RdT H a kvs):kvs.length<=sizeLine/\(a==ff)=false/\
  ∃xs,KT H kvs xs/\h.DictOfH (tupleKind (Zj P w)) a xs:=by
 O⟨ep,bs,e⟩:=e
 O⟨z,y,xs,r,o,es,h1,h2,h3,h4,h5,_⟩:=(show Z9 P w H h a (.dT kvs ep bs)from Zcw ok e)
 R⟨z,y,xs,r,o,es,ep,h1,h2,h3,h4,fun x hx=>?_,h5⟩
 have all:∀{l:А (А Key×V)} {m:А (А Key×am×ah)},KT H l m->∀x∈m,(tupleKind (Zj P w)).is h x.1 x.2.1:=by
  intro l m q
  induction q with
  |nil=>intro x hx;E nomatch hx
  | @cons p q ps qs hq t ih=>
   intro x hx
   rcases bo.mp hx with e|hx
   ·subst e
    E Og ok (by rw[<-hq.1];E hq.2.1)
   ·E ih x hx
 E all r x hx
ОZpg{kvs:А (А Key×V)}(ok:Cm P w H h)(e:HTt H a kvs):kvs.length<=sizeLine/\(a==ff)=false/\
  ∃xs,KT H kvs xs/\h.DictOfH (tupleKind (Zj P w)) a xs:=Mj ok e.rd
end
ПJa(H:Hp)(a:am)(y:V)(r:Б V):Prop:=
 (∃kvs k,RdK H a kvs/\y=kV k/\r=Wy kvs k)\/∃kvs k b,RdT H a kvs/\y= .ref b/\H b=some (.tup (k.map kV))/\r=Wy kvs k
ПEt(H:Hp)(a:am)(y v:V)(R:Hp->В):Prop:=
 (∃kvs k,HK H a kvs/\y=kV k/\kvs.length<sizeLine/\∀ep,R (Z5 H a (.dK (Qa kvs k v) ep)))\/
 ∃kvs k b,HTt H a kvs/\y= .ref b/\H b=some (.tup (k.map kV))/\kvs.length<sizeLine/\∀ep ep0 bs,H a=some (.dT kvs ep0 bs)->R (Z5 H a (.dT (Qa kvs k v) ep (Nk kvs bs k b)))
ОJa.k{H:Hp}{a:am}{kvs:А (Key×V)}{k:Key}(e:HK H a kvs):Ja H a (kV k) (Wy kvs k):=.inl ⟨kvs,k,e.rd,rfl,rfl⟩
ОJa.t{H:Hp}{a b:am}{kvs:А (А Key×V)}{k:А Key}(e:HTt H a kvs)(eb:H b=some (.tup (k.map kV))):Ja H a (.ref b) (Wy kvs k):=.inr ⟨kvs,k,b,e.rd,rfl,eb,rfl⟩
ОEt.k{H:Hp}{a:am}{kvs:А (Key×V)}{k:Key}{v:V}{R:Hp->В}(e:HK H a kvs)(hl:kvs.length<sizeLine)(h:∀ep,R (Z5 H a (.dK (Qa kvs k v) ep))):Et H a (kV k) v R:=.inl ⟨kvs,k,e,rfl,hl,h⟩
ОEt.t{H:Hp}{a b:am}{kvs:А (А Key×V)}{k:А Key}{v:V}{R:Hp->В}(e:HTt H a kvs)(eb:H b=some (.tup (k.map kV)))(hl:kvs.length<sizeLine)(h:∀ep ep0 bs,H a=some (.dT kvs ep0 bs)->R (Z5 H a (.dT (Qa kvs k v) ep (Nk kvs bs k b)))):
  Et H a (.ref b) v R:=.inr ⟨kvs,k,b,e,rfl,eb,hl,h⟩
section
variable{X:Cx}{pins:А (am×Obj)}{σ:St}{H:Hp}{s:ak}{a:am}{y v:V}{u r:ah}{o:Б V}{A:ck}{E:ah->ak->В}
ОInv.big(I:Inv X pins σ H s):ff<s.heap.objs.size:=by
 have h:b6<s.heap.objs.size:=(I.mod.glob.keeps I.bk).lt
 E Nat.lt_trans Й h
ОZau{Q:ah->ak->В}(hu:A.units+1<d8)(I:Inv X pins σ H s)(g:Ja H a y (some v))(ry:Zp y u)(h:∀w' s',Inv X pins σ H s'->Zp v w'->Q w' s'):
  ba (bp X.prog X.w) A (getItem (.ref a) u) Q E s:=by
 rcases g with⟨kvs,k,e,ey,l⟩|⟨kvs,k,b,e,ey,eb,l⟩
 ·subst ey
  O⟨z,hd,vs,rel,dd⟩:=Bp I.hok e
  O⟨w',hw,rw'⟩:=Cz.some_of (v:=v) (o:=valueAt vs k) (by rw[l];E rel.val k)
  E wpAny_getItem_of (Gr ry) dd.mapOf hw (h w' _ (I.tok _) rw')
 ·subst ey
  cases(show u=bv b from ry)
  O⟨z,hd,xs,rel,dd⟩:=Mj I.hok e
  O⟨w',hw,rw'⟩:=Cz.some_of (v:=v) (o:=(atKey xs k).map (·.2)) (by rw[l];E rel.val k)
  O⟨p,hp,hp2⟩:=cm.mp hw
  R wpAny_getItem_heap (tupleKind_room_in1 hu) (Og I.hok eb) dd hp ?_
  rw[hp2]
  E h w' _ (I.tok _) rw'
ОZt0{Q:ah->ak->В}(hu:A.units+1<d8)(I:Inv X pins σ H s)(g:Ja H a y o)(ry:Zp y u)(h:∀s',Inv X pins σ H s'->Q (.bool o.isSome) s'):
  ba (bp X.prog X.w) A (gx .In u (.ref a)) Q E s:=by
 rcases g with⟨kvs,k,e,ey,l⟩|⟨kvs,k,b,e,ey,eb,l⟩
 ·subst ey
  O⟨z,hd,vs,rel,dd⟩:=Bp I.hok e
  R wpAny_in_of (Gr ry) hd dd.mapOf ?_
  rw[<-(rel.val k).isSome_eq,<-l]
  E h _ (I.tok _)
 ·subst ey
  cases(show u=bv b from ry)
  O⟨z,hd,xs,rel,dd⟩:=Mj I.hok e
  R wpAny_in_heap (tupleKind_room_in1 hu) (Og I.hok eb) hd dd ?_
  have q:=(rel.val k).isSome_eq
  rw[Option.isSome_map]at q
  rw[<-q,<-l]
  E h _ (I.tok _)
ОZhi{Q:ah->ak->В}(hu:A.units+1<d8)(I:Inv X pins σ H s)(g:Ja H a y o)(ry:Zp y u)(h:∀s',Inv X pins σ H s'->Q (.bool (!o.isSome)) s'):
  ba (bp X.prog X.w) A (gx .NotIn u (.ref a)) Q E s:=by
 rcases g with⟨kvs,k,e,ey,l⟩|⟨kvs,k,b,e,ey,eb,l⟩
 ·subst ey
  O⟨z,hd,vs,rel,dd⟩:=Bp I.hok e
  R wpAny_notIn_of (Gr ry) hd dd.mapOf ?_
  rw[<-(rel.val k).isSome_eq,<-l]
  E h _ (I.tok _)
 ·subst ey
  cases(show u=bv b from ry)
  O⟨z,hd,xs,rel,dd⟩:=Mj I.hok e
  R wpAny_notIn_heap (tupleKind_room_in1 hu) (Og I.hok eb) hd dd ?_
  have q:=(rel.val k).isSome_eq
  rw[Option.isSome_map]at q
  rw[<-q,<-l]
  E h _ (I.tok _)
ОGs{h':dr}{t':Г}{ob:HO}(I:Inv X pins σ H s)(mu:Mut (H a))(hs:g8 a s.heap h')(he:∃q,h'.get? a=some q)(new:Z9 X.prog X.w (Z5 H a ob) h' a ob):
  Inv X pins σ (Z5 H a ob) {s with heap:=h',toks:=t'}:=
 I.write (x:=a) (e:=a) mu (.inl rfl) (fun b q hb z=>(hs.2 b hb).trans z) he new
ОKs{P:bu}{w:cj}{h':dr}{kvs:А (Key×V)}{vs:А (Key×ah)}(z:kvs.length<=sizeLine)(hd:(a==ff)=false)(rel:KV kvs vs)(dd:h'.DictOf (Zj P w) a vs):
  ∃ep,∀H':Hp,Z9 P w H' h' a (.dK kvs ep):=let⟨ep,dd⟩:=dd.dictAt;⟨ep,fun _=>⟨z,hd,vs,rel,dd⟩⟩
ОZav{R:Hp->В}{Q:Unit->ak->В}(hu:A.units+1<d8)(I:Inv X pins σ H s)(g:Et H a y v R)(ry:Zp y u)(rv:Zp v r)(h:∀H' s',R H'->Inv X pins σ H' s'->Q () s'):
  ba (bp X.prog X.w) A (setItem (.ref a) u r) Q E s:=by
 rcases g with⟨kvs,k,e,ey,l,eH⟩|⟨kvs,k,b,e,ey,eb,l,eH⟩
 ·subst ey
  O⟨z,hd,vs,rel,dd⟩:=Hc I.hok e
  have hz:vs.length<=sizeLine:=by rw[<-rel.length];E z
  have hl:(Qa kvs k v).length<=sizeLine:=by have:=Bo kvs k v;W
  R wpAny_setItem_pairs (hsz:=hz) (Gr ry) dd fun h' dd' hs=>?_
  have he:∃q,h'.get? a=some q:=let⟨q,_,_,hq,_⟩:=dd';⟨q,hq⟩
  O⟨ep,ok⟩:=Ks hl hd (rel.put k rv) dd'
  E h _ _ (eH ep) (Gs I (by O⟨e0,e⟩:=e;rw[e];E True.intro) hs he (ok _))
 ·subst ey
  cases(show u=bv b from ry)
  O⟨z,hd,xs,rel,dd⟩:=Zpg I.hok e
  have hz:xs.length<=sizeLine:=by rw[<-gu rel];E z
  have hl:(Qa kvs k v).length<=sizeLine:=by have:=Bo kvs k v;W
  R wpAny_setItem_heap (hsz:=hz) (tupleKind_room_in1 hu) (Og I.hok eb) dd fun h' dd' hs=>?_
  O⟨q,es,ep,hq,h2,h3,h4,_,h5⟩:=dd'
  O⟨e0,bs,e⟩:=e
  have hb:(xs.map fun x=>x.2.1)=bs:=by
   O⟨_,_,xs',r',_,_,w1,_,w3,w4,_,w6⟩:=(show Z9 X.prog X.w H s.heap a (.dT kvs e0 bs)from I.hok a _ e)
   O⟨_,_,_,y1,_,y3,y4,_⟩:=dd
   rw[w1]at y1;C y1
   rw[w3]at y3;C y3
   have:xs'.map (fun x=>x.2.1)=xs.map fun x=>x.2.1:=by
    have z:=congrArg (List.map DictEntry.key) (w4.symm.trans y4)
    rw[bx,bx]at z
    have inj:∀{l m:А (А Key×am×ah)},l.map (DictEntry.key∘entryOfKey (tupleKind (Zj X.prog X.w)))=m.map (DictEntry.key∘entryOfKey (tupleKind (Zj X.prog X.w)))->(l.map fun x=>x.2.1)=m.map fun x=>x.2.1:=by
     intro l
     induction l with
     |nil=>intro m z;cases m with
      |nil=>rfl
      |cons _ _=>C z
     |cons x l ih=>intro m z;cases m with
      |nil=>C z
      |cons y m=>
       rw[av,av]at z⊢
       injection z with z1 z2
       have z1':bv x.2.1=bv y.2.1:=z1
       injection z1' with z1'
       rw[z1',ih z2]
    E inj z
   rw[<-this];E w6
  have hb2:((storedH xs k b r).map fun x=>x.2.1)=Nk kvs bs k b:=by
   have ee:(kvs.any fun kv=>decide (kv.1=k))=(atKey xs k).isSome:=by
    rw[Tn,(rel.val k).isSome_eq,Option.isSome_map]
   unfold Nk storedH
   rw[ee]
   by_cases qq:(atKey xs k).isSome=true
   ·rw[Е qq,Е qq,bx,<-hb]
    R fj fun x _=>?_
    show(putAt k r x).2.1=x.2.1
    unfold putAt
    split<;> rfl
   ·rw[Д qq,Д qq,cq,hb];rfl
  R h _ _ (eH ep e0 bs e) (Gs I (by rw[e];E True.intro) hs ⟨q,hq⟩ ⟨hl,hd,_,(rel.put k eb rv).keeps fun c ys ec=>?_,q,es,hq,h2,h3,h4,h5,hb2⟩)
  rw[Zm (Tf ec e (fun z=>nomatch z))]
  E ec
end
section
variable{X:Cx}{pins:А (am×Obj)}{σ:St}{H:Hp}{s:ak}{a:am}{kvs:А (Key×V)}{k:Key}{u:ah}{A:ck}{E:ah->ak->В}
ОZph{v:V}{more:А ah}{Q:ah->ak->В}(I:Inv X pins σ H s)(e:HK H a kvs)(ry:Zp (kV k) u)(l:Wy kvs k=some v)(hm:more=[]\/∃x,more=[x])
  (h:∀ep w' s',Inv X pins σ (Z5 H a (.dK (Js kvs k) ep)) s'->Zp v w'->Q w' s'):ba (bp X.prog X.w) A (call (.builtin "dict.pop") (.ref a::u::more)) Q E s:=by
 O⟨z,hd,vs,rel,dd⟩:=Hc I.hok e
 O⟨w',hw,rw'⟩:=Cz.some_of (v:=v) (o:=valueAt vs k) (by rw[<-l];E rel.val k)
 have hp:(keyPart u).isSome=true:=by
  cases k with
  |inl i=>O⟨t,q⟩:=(show∃t,u=Value.int i t from ry);subst q;rfl
  |inr x=>O⟨t,q⟩:=(show∃t,u=Value.str x t from ry);subst q;rfl
 have ha:argsOk "dict.pop" ⟨.ref a::u::more,[]⟩:=by
  rcases hm with q|⟨x,q⟩
  ·subst q;E PySem.F.args_dict_pop_2 _ _
  ·subst q;E PySem.F.args_dict_pop_3 _ _ _
 R call_meetsIn PySem.F.slot_dict_pop dd.typeIs PySem.F.entry_dict_pop ha (meets_dict_pop_there (Zj X.prog X.w) a (Gr ry) more hm hp)
  ⟨vs,w',dd,by rw[<-rel.length];E z,hw,fun h' dd' hs=>?_⟩
 have he:∃q,h'.get? a=some q:=let⟨q,_,_,hq,_⟩:=dd';⟨q,hq⟩
 O⟨ep,ok⟩:=Ks (d3 (Zcv kvs k) z) hd (rel.drop k) dd'
 E h ep w' _ (Gs I (by O⟨e0,e⟩:=e;rw[e];E True.intro) hs he (ok _)) rw'
end
ПZl8(i:ci):Prop:=∀ov iv,subscripted i false ov iv=operate [ov,iv] (getItem ov iv)
ОHe{prog:bu}{w:cj}{A:ck}{E:ah->ak->В}{s:ak}{env:Env}{value slice:ci}{pos:Pos}{T id:String}{Q:ah->ak->В}
  (hl:typeLookup (.type T) "__getitem__"=pure (some (.builtin id))) (hs:Zl8 slice)
  (h:ba (bp prog w) A (f9 value env) (fun o s₁=>ba (bp prog w) A (f9 slice env) (fun i s₂=>s₂.TypeIs o T/\ba (bp prog w) A (getItem o i) Q E s₂) E s₁) E s):
  ba (bp prog w) A (f9 (.Subscript value slice pos) env) Q E s:=by
 R Subscript_ (wpAny_mono h (fun o s₁ h₁=>wpAny_mono h₁ (fun i s₂ h₂=>?_) fun _ _ x=>x) fun _ _ x=>x)
 O⟨hT,h₂⟩:=h₂
 unfold subscriptTail
 R ad ?_
 rw[getitemInPython_of_ne hT.not_modules]
 R ad (wpAny_specialOf hT hl ?_)
 have fin:ba (bp prog w) A (subscripted slice false o i) (fun r s₃=>ba (bp prog w) A (letTemporaryGo value o r >>=fun _=>pure r) Q E s₃) E s₂:=by
  rw[hs o i]
  E wpAny_operating (wpAny_mono h₂ (fun r s₃ h₃=>ad (wpAny_letTemporaryGo (ag h₃))) fun _ _ x=>x)
 first
  |E ag (ad fin)
  |E ad (ag (ad fin))
  |E ad fin
ОNu{X:Cx}{pins:А (am×Obj)}{σ:St}{H:Hp}{s:ak}{a:am}{y:V}{o:Б V}(I:Inv X pins σ H s)(g:Ja H a y o):s.TypeIs (.ref a) "dict":=by
 rcases g with⟨kvs,k,e,_,_⟩|⟨kvs,k,b,e,_,_,_⟩
 ·O⟨_,_,vs,_,dd⟩:=Bp I.hok e
  E dd.typeIs
 ·O⟨_,_,xs,_,dd⟩:=Mj I.hok e
  E dd.typeIs
ПZj1(td ty:TE):TE:=fun σ H Q=>td σ H fun x H1=>ty σ H1 fun y H2=>∃a v,x= .ref a/\Ja H2 a y (some v)/\Q v H2
ПZy9(ty td:TE):TE:=fun σ H Q=>ty σ H fun y H1=>td σ H1 fun x H2=>∃a o,x= .ref a/\Ja H2 a y o/\Q (.bl o.isSome) H2
ПZso(ty td:TE):TE:=fun σ H Q=>ty σ H fun y H1=>td σ H1 fun x H2=>∃a o,x= .ref a/\Ja H2 a y o/\Q (.bl (!o.isSome)) H2
ПZj2(td ty tv:TE):TS:=fun D σ H=>tv σ H fun v H1=>td σ H1 fun x H2=>ty σ H2 fun y H3=>∃a,x= .ref a/\Et H3 a y v (D.nx σ)
ПZww(td ty tv:TE)(rd:V->V->Hp->VK->В):TS:=fun D σ H=>td σ H fun x H1=>ty σ H1 fun y H2=>∃a v,x= .ref a/\Ja H2 a y (some v)/\
 tv σ H2 fun y2 H3=>rd v y2 H3 fun z H4=>Et H4 a y z (D.nx σ)
ПZwx(td ty:TE):TS:=fun D σ H=>td σ H fun x H1=>ty σ H1 fun y H2=>∃a kvs k,x= .ref a/\HK H2 a kvs/\y=kV k/\(Wy kvs k).isSome=true/\∀ep,D.nx σ (Z5 H2 a (.dK (Js kvs k) ep))
section
variable{X:Cx}{o i e value:ci}{pos pos' tpos:Pos}{td ty tv:TE}
ОZhj(hu:X.A.units+1<d8)(ho:PE X o td)(hi:PE X i ty)(hs:Zl8 i):PE X (.Subscript o i pos) (Zj1 td ty):=by
 intro pins s σ H Q I h
 R He PySem.F.slot_dict_getitem.lookup hs (Wo (ho pins s σ H _ I h) fun u s1 ⟨x,H1,I1,rx,q1⟩=>Wo (hi pins s1 σ H1 _ I1 q1) fun iv s2 zq9=>?_)
 O⟨y,H2,I2,ry,a,v,ex,g,q2⟩:=zq9
 subst ex
 obtain rfl:u=bv a:=rx
 E⟨Nu I2 g,Zau hu I2 g ry fun w' s3 I3 rw'=>⟨v,H2,I3,rw',q2⟩⟩
ОZhk(hu:X.A.units+1<d8)(ho:PE X o td)(hi:PE X i ty)(hv:PE X value tv)(hs:swapsWith value (some (.Subscript o i pos')) pos.line X.env=pure false):
  PS X (.Assign [.Subscript o i pos'] value pos) (Zj2 td ty tv):=by
 intro pins s σ H D I h
 R wpAny_Assign_Subscript (Wo (hv pins s σ H _ I h) fun r s1 ⟨v,H1,I1,rv,q1⟩=>Wo (ho pins s1 σ H1 _ I1 q1) fun u s2 ⟨x,H2,I2,rx,q2⟩=>Wo (hi pins s2 σ H2 _ I2 q2) fun iv s3 ⟨y,H3,I3,ry,a,ex,g⟩=>?_) hs
 subst ex
 obtain rfl:u=bv a:=rx
 E Zav hu I3 g ry rv fun H4 s4 q3 I4=>⟨σ,H4,I4,q3⟩
end
ОNv{P:bu}{w:cj}{H:Hp}(h:dr)(hb:ff<h.objs.size):Z9 P w H (h.push {cls:=.type "dict",data:=.dict #[]}) h.objs.size (.dK [] 0):=
 ⟨dn _,beq_eq_false_iff_ne.mpr (Ne.symm (b4 hb)),[],.nil,_, #[],a9 _ rfl,⟨rfl,rfl,rfl⟩,rfl,fun _ he=>by simp at he,Pairs.nil,c7⟩
ПZcx:TE:=fun _ H Q=>∀p,H p=none->Q (.ref p) (Z5 H p (.dK [] 0))
ПZt1:TE:=fun _ H Q=>∀p,H p=none->Q (.ref p) (Z5 H p (.dT [] 0 []))
section
variable{X:Cx}{pos:Pos}
ОZcy:PE X (.Dict [] [] pos) Zcx:=fun pins s σ H Q I h=>
 wpAny_Dict_empty ⟨.ref s.heap.objs.size,_,I.laid (a:=s.heap.objs.size) (o:=.dK [] 0) (t':=s.toks) (fun _ _ q=>aq _ q) (a7 _) (Nv s.heap I.big),rfl,h _ (I.hok.fresh (a7 _))⟩
end
ПKt:А (TE×TE)->St->Hp->(А (V×V)->Hp->В)->В
  | [],_,H,Q=>Q [] H
  | (tk,tv)::r,σ,H,Q=>tk σ H fun x H1=>tv σ H1 fun y H2=>Kt r σ H2 fun ps H3=>Q ((x,y)::ps) H3
noncomputable abbrev VV:А (V×V)->А (ah×ah)->Prop:=Paired fun p q=>Zp p.1 q.1/\Zp p.2 q.2
ПPPs(X:Cx)(pos:Pos)(keys:А (Б ci))(values:А ci)(trs:А (TE×TE)):Prop:=
 ∀(pins:А (am×Obj)) (s:ak) (σ:St) (H:Hp) (Q:А (V×V)->Hp->В),Inv X pins σ H s->Kt trs σ H Q->
  ba (bp X.prog X.w) X.A (evalPairs (pairTrees keys values X.env pos)) (fun vs s'=>∃ps H',Inv X pins σ H' s'/\VV ps vs/\Q ps H') X.xe s
ОZhl{X:Cx}{pos:Pos}:PPs X pos [] [] []:=fun pins s σ H Q I h=>pairTrees_nil_walk ⟨[],H,I,.nil,h⟩
ОZcz{X:Cx}{pos:Pos}{k v:ci}{ks:А (Б ci)}{vs:А ci}{tk tv:TE}{trs:А (TE×TE)}(hk:PE X k tk)(hv:PE X v tv)(hr:PPs X pos ks vs trs):
  PPs X pos (some k::ks) (v::vs) ((tk,tv)::trs):=fun pins s σ H Q I h=>
 pairTrees_cons_walk (Wo (hk pins s σ H _ I h) fun u s1 ⟨x,H1,I1,rx,q1⟩=>Wo (hv pins s1 σ H1 _ I1 q1) fun w2 s2 ⟨y,H2,I2,ry,q2⟩=>
  Wo (hr pins s2 σ H2 _ I2 q2) fun ws s3 ⟨ps,H3,I3,rel,q3⟩=>⟨(x,y)::ps,H3,I3,.cons ⟨rx,ry⟩ rel,q3⟩)
ПUt(kvs more:А (Key×V)):А (Key×V):=more.foldl (fun acc kv=>Qa acc kv.1 kv.2) kvs
ОKV.merge:∀{more:А (Key×V)} {rs:А (Key×ah)} {kvs:А (Key×V)} {vs:А (Key×ah)},KV more rs->KV kvs vs->KV (Ut kvs more) (merged vs rs):=by
 intro more rs kvs vs r
 unfold KV at r
 induction r generalizing kvs vs with
 |nil=>intro q;E q
 | @cons p q ps qs h t ih=>
  intro r0
  have e:KV (Qa kvs p.1 p.2) (stored vs q.1 q.2):=by
   have:=r0.put p.1 h.2
   rw[<-h.1];E this
  E ih e
ОCn:∀(more kvs:А (Key×V)),(Ut kvs more).length<=kvs.length+more.length
 | [],kvs=>by show kvs.length<=kvs.length+0;W
 |p::r,kvs=>by
  have h1:=Cn r (Qa kvs p.1 p.2)
  have h2:=Bo kvs p.1 p.2
  show(Ut (Qa kvs p.1 p.2) r).length<=_
  rw[bn];W
ОTo{P:bu}{w:cj}:∀{kvs:А (Key×V)} {ws:А (ah×ah)},VV (kvs.map fun kv=>(kV kv.1,kv.2)) ws->∃rs,Carries (Zj P w) ws rs/\KV kvs rs
 | [],_,r=>by rw[List.map_nil]at r;C r;E⟨[],True.intro,.nil⟩
 |p::kvs,_,r=>by
  rw[av]at r
  cases r with
  | @cons a b as bs h t=>
   O⟨rs,c,q⟩:=To (P:=P) (w:=w) t
   O⟨b1,b2⟩:=b
   E⟨(p.1,b2)::rs,⟨Gr h.1,rfl,c⟩,.cons ⟨rfl,h.2⟩ q⟩
ПZwy(trs:А (TE×TE)):TE:=fun σ H Q=>∀p,H p=none->Kt trs σ (Z5 H p (.dK [] 0)) fun ps H2=>H2 p=some (.dK [] 0)/\∃kvs:А (Key×V),ps=kvs.map (fun kv=>(kV kv.1,kv.2))/\kvs.length<=15/\∀ep,Q (.ref p) (Z5 H2 p (.dK (Ut [] kvs) ep))
structure M1(X:Cx)(o:ci)(m:Str)(apos:Pos)(e:ci)(cpos:Pos):В where
 base:attributeBase o m X.env (f9 o X.env)=f9 o X.env
 few:((f7 cpos (ay [e] X.env)).all (fun x=>!x.1)&&(backToKw cpos (keywordEach [] X.env)).all (fun x=>x.1.isSome)
  &&decide (([e]:А ci).length+([]:А Keyword).length+(if([]:А Keyword).isEmpty then 0 else 1)<30))=true
 line:(apos.endLine==cpos.line)=true
 trees:f7 cpos (ay [e] X.env)=[(false,f9 e X.env)]
structure M2(X:Cx)(o:ci)(m:Str)(apos:Pos)(e f:ci)(cpos:Pos):В where
 base:attributeBase o m X.env (f9 o X.env)=f9 o X.env
 few:((f7 cpos (ay [e,f] X.env)).all (fun x=>!x.1)&&(backToKw cpos (keywordEach [] X.env)).all (fun x=>x.1.isSome)
  &&decide (([e,f]:А ci).length+([]:А Keyword).length+(if([]:А Keyword).isEmpty then 0 else 1)<30))=true
 line:(apos.endLine==cpos.line)=true
 trees:f7 cpos (ay [e,f] X.env)=[(false,f9 e X.env),(false,f9 f X.env)]
ПIsD(H:Hp)(a:am):Prop:=(∃kvs,RdK H a kvs)\/∃kvs,RdT H a kvs
ОZl9{X:Cx}{pins:А (am×Obj)}{σ:St}{H:Hp}{s:ak}{a:am}(I:Inv X pins σ H s)(d:IsD H a):
  s.TypeIs (.ref a) "dict"/\(∀b,bv a= .ref b->∃ob,s.heap.get? b=some ob/\ob.dict=none)/\(a==ff)=false:=by
 rcases d with⟨kvs,e⟩|⟨kvs,e⟩
 ·O⟨_,hd,vs,_,dd⟩:=Bp I.hok e
  R⟨dd.typeIs,fun b q=>?_,hd⟩
  C q
  O⟨ob,_,_,h1,h2,_⟩:=dd
  E⟨ob,h1,h2.2.1⟩
 ·O⟨_,hd,xs,_,dd⟩:=Mj I.hok e
  R⟨dd.typeIs,fun b q=>?_,hd⟩
  C q
  O⟨ob,_,_,h1,h2,_⟩:=dd
  E⟨ob,h1,h2.2.1⟩
section
variable{X:Cx}{pins:А (am×Obj)}{σ:St}{H:Hp}{s:ak}{a:am}{y d:V}{u r:ah}{o:Б V}{A:ck}{E:ah->ak->В}
ОZma{Q:ah->ak->В}(hu:A.units+1<d8)(I:Inv X pins σ H s)(g:Ja H a y o)(ry:Zp y u)(h:∀w' s',Inv X pins σ H s'->Zp (o.getD .non) w'->Q w' s'):
  ba (bp X.prog X.w) A (call (.builtin "dict.get") [.ref a,u]) Q E s:=by
 rcases g with⟨kvs,k,e,ey,l⟩|⟨kvs,k,b,e,ey,eb,l⟩
 ·subst ey
  O⟨z,hd,vs,rel,dd⟩:=Bp I.hok e
  R call_meetsIn PySem.F.slot_dict_get dd.typeIs PySem.F.entry_dict_get (PySem.F.args_dict_get_2 _ _) (meets_dict_get (Zj X.prog X.w) a (Gr ry) hd) ⟨_,dd.mapOf,h _ _ (I.tok _) ?_⟩
  rw[l]
  E(rel.val k).getD rfl
 ·subst ey
  cases(show u=bv b from ry)
  O⟨z,hd,xs,rel,dd⟩:=Mj I.hok e
  R call_meetsIn PySem.F.slot_dict_get dd.typeIs PySem.F.entry_dict_get (PySem.F.args_dict_get_2 _ _) (meetsH_dict_get (tupleKind (Zj X.prog X.w)) a b hd) ⟨tupleKind_room_in1 hu,k,xs,Og I.hok eb,dd,h _ _ (I.tok _) ?_⟩
  rw[l]
  E(rel.val k).getD rfl
ОZmb{Q:ah->ak->В}(hu:A.units+1<d8)(I:Inv X pins σ H s)(g:Ja H a y o)(ry:Zp y u)(rd:Zp d r)(h:∀w' s',Inv X pins σ H s'->Zp (o.getD d) w'->Q w' s'):
  ba (bp X.prog X.w) A (call (.builtin "dict.get") [.ref a,u,r]) Q E s:=by
 rcases g with⟨kvs,k,e,ey,l⟩|⟨kvs,k,b,e,ey,eb,l⟩
 ·subst ey
  O⟨z,hd,vs,rel,dd⟩:=Bp I.hok e
  R call_meetsIn PySem.F.slot_dict_get dd.typeIs PySem.F.entry_dict_get (PySem.F.args_dict_get_3 _ _ _) (meets_dict_get_default (Zj X.prog X.w) a (Gr ry) hd r) ⟨_,dd.mapOf,h _ _ (I.tok _) ?_⟩
  rw[l]
  E(rel.val k).getD rd
 ·subst ey
  cases(show u=bv b from ry)
  O⟨z,hd,xs,rel,dd⟩:=Mj I.hok e
  R call_meetsIn PySem.F.slot_dict_get dd.typeIs PySem.F.entry_dict_get (PySem.F.args_dict_get_3 _ _ _) (meetsH_dict_get_default (tupleKind (Zj X.prog X.w)) a b hd r) ⟨tupleKind_room_in1 hu,k,xs,Og I.hok eb,dd,h _ _ (I.tok _) ?_⟩
  rw[l]
  E(rel.val k).getD rd
end
ПZt2(td ty:TE):TE:=fun σ H Q=>td σ H fun x H1=>∃a,x= .ref a/\IsD H1 a/\ty σ H1 fun y H2=>∃o,Ja H2 a y o/\Q (o.getD .non) H2
ПZt3(td ty tx:TE):TE:=fun σ H Q=>td σ H fun x H1=>∃a,x= .ref a/\IsD H1 a/\ty σ H1 fun y H2=>tx σ H2 fun z H3=>∃o,Ja H3 a y o/\Q (o.getD z) H3
ПZc0(td ty:TE):TE:=fun σ H Q=>td σ H fun x H1=>∃a,x= .ref a/\IsD H1 a/\ty σ H1 fun y H2=>∃kvs k v,HK H2 a kvs/\y=kV k/\Wy kvs k=some v/\∀ep,Q v (Z5 H2 a (.dK (Js kvs k) ep))
ПZt4(td ty tx:TE):TE:=fun σ H Q=>td σ H fun x H1=>∃a,x= .ref a/\IsD H1 a/\ty σ H1 fun y H2=>tx σ H2 fun z H3=>∃kvs k,HK H3 a kvs/\y=kV k/\
 (∀v ep,Wy kvs k=some v->Q v (Z5 H3 a (.dK (Js kvs k) ep)))/\(Wy kvs k=none->Q z H3)
section
variable{X:Cx}{o e f:ci}{apos cpos:Pos}{td ty tx:TE}
ОZc1(ho:PE X o td)(he:PE X e ty)(m:M1 X o "pop" apos e cpos):PE X (.Call (.Attribute o "pop" apos) [e] [] cpos) (Zc0 td ty):=by
 intro pins s σ H Q I h
 R wpAny_Call_method m.base m.few m.line PySem.F.plainAttrs_dict PySem.F.slot_dict_pop PySem.F.type_dict_pop (Wo (ho pins s σ H _ I h) fun u s1 zq9=>?_)
 O⟨x,H1,I1,rx,a,ex,d,q1⟩:=zq9
 subst ex
 obtain rfl:u=bv a:=rx
 O⟨t1,t2,_⟩:=Zl9 I1 d
 R⟨t1,t2,?_⟩
 rw[m.trees]
 R Calls.callWith_builtin rfl (Calls.evalArgs_plain (Calls.spliced_cons (Wo (he pins s1 σ H1 _ I1 q1) fun iv s2 ⟨y,H2,I2,ry,kvs,k,v,ea,ey,l,q2⟩=>Calls.spliced_nil ?_)))
 subst ey
 E Zph I2 ea ry l (.inl rfl) fun ep w' s3 I3 rw'=>⟨v,_,I3,rw',q2 ep⟩
end
section
variable{X:Cx}{pins:А (am×Obj)}{σ:St}{H:Hp}{s:ak}{a:am}{kvs:А (Key×V)}{A:ck}{E:ah->ak->В}
ОZc2{Q:ah->ak->В}(I:Inv X pins σ H s)(e:RdK H a kvs)(h:∀p ep s',H p=none->Inv X pins σ (Z5 H p (.dK kvs ep)) s'->Q (.ref p) s'):ba (bp X.prog X.w) A (call (.type "dict") [.ref a]) Q E s:=by
 O⟨z,hd,vs,rel,dd⟩:=Bp I.hok e
 R kt_call_dict hd dd (by rw[<-rel.length];E z) fun h' dd' hs=>?_
 O⟨ep,ok⟩:=Ks z (beq_eq_false_iff_ne.mpr (Ne.symm (b4 I.big))) rel dd'
 R h _ ep _ (I.hok.fresh (a7 _)) (I.laid (a:=s.heap.objs.size) (o:=.dK kvs ep) (t':=s.toks) (fun b q hq=>?_) (a7 _) (ok _))
 E(hs.2 b (b4 (bc hq))).trans (aq _ hq)
end
end L2
namespace Att
open PySem PySem.W PySem.Calls PyProof.Rows
ОMw{P:Params}{h:dr}:∀(ns:А Int) (vs:А ah),WellAll P h vs (ns.map WData.int)->IntsAre vs ns:=by
 intro ns
 induction ns with
 |nil=>
  intro vs w
  rw[List.map_nil]at w
  C w
  E .nil
 |cons n ns ih=>
  intro vs w
  rw[av]at w
  cases w with
  |cons a b=>
   C a
   E .cons _ _ (ih _ b)
ОZaw{l:OpenLaw}{n:Г}(hn:l.most=some n){P:Params}{h:dr}{args:А WData}{vals:А ah}
  (hpre:l.row.toRowW.claim.pre args=true) (hwl:WellAll P h vals args):
  ∃a vs ns,vals=[bv a]/\args=[WData.list (ns.map WData.int)]/\h.get? a=some {cls:=.type "list",data:=.seq vs.toArray}/\IntsAre vs ns/\ns.length<=n:=by
 have hsh:WShape.hasAll [] args [.list .int]=true:=(pre_splitW hpre).1
 have hc:l.pre.holds [] {args:=args}=true:=(pre_splitW hpre).2
 O⟨d,r,rfl,h1,h2⟩:=hasAllW_cons hsh
 obtain rfl:=hasAllW_nil h2
 O⟨xs,rfl,h3⟩:=hasW_list h1
 O⟨ns,rfl⟩:=items_int h3
 have hlen:ns.length<=n:=by
  unfold OpenLaw.pre at hc
  have h4:(WTm.not (.lt (.lit (.int (n:Int))) (.len (.arg 0)))).holds [] {args:=[.list (ns.map .int)]}=true:=by
   have h4:=(holds_andW hc).1
   rw[hn]at h4
   E h4
  have h5:=condW_of h4 (w_not (w_lt w_lit (w_len_list (w_arg rfl))))
  rw[ao]at h5
  R Nat.le_of_not_lt fun q=>?_
  have q':(n:Int)<((ns.length:Г):Int):=by W
  first
   | (rw[decide_eq_true q']at h5;E absurd h5 Й)
   | (simp at h5;W)
 cases hwl with
 |cons w1 w2=>
  C w2
  cases w1 with
  |list ho hall=>E⟨_,_,ns,rfl,rfl,ho,Mw ns _ hall,hlen⟩
ОZax(l:OpenLaw)(args:А WData):l.row.toRowW.claim.post args (.bool true) args=true:=
 postW_of (r:=l.row.toRowW) (X:=(true==true))
  (show WShape.has [] (.bool true) .bool=true by first|rfl|decide|simp[WShape.has,WShape.arms,WShape.armsAll])
  (show(WTm.eq .res (.lit (.bool true))).value [] {args:=args,res:=some (.bool true),after:=args}=some (.bool (true==true))from w_eq_bool (w_res rfl) w_lit) rfl
Оattach_call{l:OpenLaw}{n:Г}{q:bu}{loose:А Str}{XP:(Str->Б ah)->dr->В}{YP:cj->dr->В}{d:DefRec}
  (hn:l.most=some n) (hdf:d.params.defaults=[])
  (call:∀(w:cj) (s₀ s₁:ak) (mg mb:Str->Б ah) (fa:am) (o:Obj) (pm cd doc:ah) (a:am) (vs:А ah) (ns:А Int),
   Ground q loose [] XP w s₀ mg mb s₁.heap->YP w s₁.heap->
   s₁.heap.get? fa=some o->o.data= .func (docDef d.name d.params d.body d.scope pm cd doc)->s₁.heap.CodeRec cd d.name->mg d.name=some (.ref fa)->
   s₁.heap.get? a=some {cls:=.type "list",data:=.seq vs.toArray}->IntsAre vs ns->ns.length<=n->s₁.gens= #[]->
   codeAny (bp l.prog w) callerA (.call (.ref fa) ⟨[.ref a],[]⟩) (fun r s'=>r= .ok (.ret (.bool true))/\OldK s₁.heap s'.heap/\s'.os=s₁.os/\AllBare s'.gens) s₁):
  WalkO q loose XP YP l.row.toRowW d [] (fun f vs=>PySem.call f vs):=by
 intro w s₀ s₁ mg mb G Y fa o pm cd doc dV kV ho hd hcd hD hmg hg args vals as hpre hlay hrd hwl hlo
 obtain rfl:dV= .none:=Dflts.none hD hdf
 obtain rfl:kV= .none:=Dflts.noKw hD
 O⟨a,vs,ns,rfl,rfl,hobj,hints,hlen⟩:=Zaw hn hpre hwl
 R enter_call (codeAny_mono (call w s₀ s₁ mg mb fa o pm cd doc a vs ns G Y ho (fd_plain hd) hcd hmg hobj hints hlen hg) fun r s' hq=>?_)
 O⟨rfl,h2,h3,h4⟩:=hq
 E⟨.inl ⟨.bool true,.bool true,[],rfl,fun _=>rfl,.bool true,Zax l _,fun _=>⟨List.Pairwise.nil,fun _ hm=>(nomatch hm)⟩⟩,h2,h3,h4⟩
section
variable{prog:bu}{w:cj}{A:ck}{E:ah->ak->В}{s:ak}{K:Frag}
ПZt5(h:dr):Heap:={h with objs:= #[]}
ПZt6(h:dr)(L d:am):А (am×Obj):=(cr h.objs.size).filterMap fun a=>if a=L\/a=d then none else(h.get? a).map fun o=>(a,o)
end
end Att
namespace L2
open PySem PySem.Spec PyProof.Rows
ОIh:∀{vs:А ah} {ns:А Int},IntsAre vs ns->Zw (ns.map V.int) vs
 |_,_,.nil=>.nil
 |_,_,.cons n t h=>.cons ⟨t,rfl⟩ (Ih h)
ПZc3(H:Hp):Prop:=∀b,H b=none\/∃o xs,H b=some (.frz o (.lst xs))
ОZc4 {P : bu} {w : cj} {K : af} {mg mb : Str -> Б ah} {CX : CXT} {k : Г} {fa a : am} {fd : cx} {x : Str} {sp : Sp} {s₁ : ak} {vs : А ah} {ns : А Int}
    (KX : K.In s₁.heap) (hns : s₁.heap.Ns b6 mg) (hb : s₁.heap.Ns builtinsNs mb) (hbb : ∀ x : Str, x ≠ "__name__" -> mb x = bootBuiltins x) (hlim : s₁.heap.NoLimit) (hg : s₁.gens = #[])
    (ha : s₁.heap.get? a = some { cls := .type "list", data := .seq vs.toArray }) (hi : IntsAre vs ns) (hl : ns.length <= sizeLine) (hr : Room k callerA)
    (F : ∀ base : dr, K.In base -> base.Ns b6 mg -> FnOk P w K mg base CX k fa fd [x] sp) (hbind : ∀ (s : ak) (u : ah), BindsTo s fd ⟨[u], []⟩ [(x, u)])
    (hsp : ∀ H : Hp, Zc3 H -> Ws K H a (ns.map V.int) -> sp [.ref a] H (fun v _ => v = .bl true) fun _ _ _ => False)
    (hCX : ∀ H e s', CX [] H s₁ (fun _ _ _ => False) e s' -> False) :
    codeAny (bp P w) callerA (.call (.ref fa) ⟨[.ref a], []⟩) (fun r s' => r = .ok (.ret (.bool true)) /\ OldK s₁.heap s'.heap /\ s'.os = s₁.os /\ AllBare s'.gens) s₁ := by
  have rv := Ih hi
  have lenV := hi.length
  -- from an abstract heap in which nothing but the script may be tracked
  have core : ∀ H : Hp, Zc3 H -> Ws K H a (ns.map V.int) -> Cm P w H s₁.heap -> (∀ b, H b ≠ none -> b = a) -> (H a ≠ none -> K.lookup a = none) ->
      codeAny (bp P w) callerA (.call (.ref fa) ⟨[.ref a], []⟩) (fun r s' => r = .ok (.ret (.bool true)) /\ OldK s₁.heap s'.heap /\ s'.os = s₁.os /\ AllBare s'.gens) s₁ := by
    intro H hO hS hok hA hK
    have base_of : ∀ {b : am} {o : Obj}, s₁.heap.get? b = some o -> H b = none -> (Kd s₁.heap H).get? b = some o := fun e n => Zb7 e n
    have noA : ∀ {b : am} {o : Obj} {es : Array DictEntry} {ep : Г}, s₁.heap.get? b = some o -> o.data = .dict es ep -> H b = none := fun {b o es ep} e d => by
      cases q : H b with
      | none => rfl
      | some u =>
        have e' : b = a := hA b (by rw [q]; simp)
        subst e'
        rw [ha] at e; C e
        have d' : Data.seq vs.toArray _ = Data.dict es ep := d
        C d'
    have nsK : ∀ {b : am} {m : Str -> Б ah}, s₁.heap.Ns b m -> (Kd s₁.heap H).Ns b m := fun {b m} ⟨o, es, ep, e, d, r⟩ => ⟨o, es, ep, base_of e (noA e d), d, r⟩
    have hKb : K.In (Kd s₁.heap H) := fun b o e => base_of (KX b o e) (by
      cases q : H b with
      | none => rfl
      | some u =>
        have e' : b = a := hA b (by rw [q]; simp)
        subst e'
        rw [hK (by rw [q]; simp)] at e; C e)
    have hM : Mod K mg (Kd s₁.heap H) := ⟨hKb, nsK hns, ⟨mb, nsK hb, hbb⟩, let ⟨mc, h1, h2⟩ := hlim; ⟨mc, nsK h1, h2⟩⟩
    have e0 : Env0 P w K mg (Kd s₁.heap H) callerA [] s₁ H := ⟨rfl, hM, fun b o e => Zg2 e, Nat.le_of_eq (Zak _ _), trivial, fun b hb => absurd (show b ∈ ([] : А am) from hb) Л, hok, .of_eq hg⟩
    R codeAny_mono ((F _ hKb (nsK hns)).run callerA [] s₁ H ⟨[.ref a], []⟩ [.ref a] [.ref a] _ _ hr e0 (hbind s₁ (.ref a)) (.cons rfl .nil) (hsp H hO hS)) fun r s' h => ?_
    cases r with
    | error e => E(hCX H e s' h).elim
    | ok fl =>
      cases fl with
      | next => E False.elim h
      | brk => E False.elim h
      | cont => E False.elim h
      | ret u =>
        obtain ⟨v, H', os, bare, un, hok', r', q⟩ := h
        have q' : v = .bl true := q
        subst q'
        obtain rfl : u = Value.bool true := r'
        R⟨rfl, OldK.of_keep fun b o e => ?_, os, bare⟩
        cases q : H b with
        | none => E un.keep b o e q (by intro z; E absurd (show b ∈ ([] : А am) from z) Л) Л
        | some u =>
          rcases hO b with z | ⟨ob, xs, z⟩
          · rw [q] at z; C z
          · have z2 := un.frzs b ob _ z
            obtain ⟨e1, _⟩ := hok b _ z
            obtain ⟨e2, _⟩ := hok' b _ z2
            rw [e] at e1; C e1
            E e2
  cases hk : K.lookup a with
  | some o =>
    -- the script is one of the module's own objects
    have e := KX a o hk
    rw [ha] at e
    C e
    R core (fun _ => none) (fun _ => .inl rfl) (.inr ⟨_, vs.toArray, _, hk, rfl, rfl, rfl, by rw [bi, lenV]; E hl, by simpa using rv⟩) (fun b u z => by have z' : (none : Б HO) = some u := z; C z') (fun b z => absurd rfl z) fun z => absurd rfl z
  | none =>
    R core (fun b => if b = a then some (.frz { cls := .type "list", data := .seq vs.toArray } (.lst (ns.map V.int))) else none) (fun b => ?_) (.inl (.inr ⟨{ cls := .type "list", data := .seq vs.toArray }, Е rfl⟩)) (fun b u z => ?_) (fun b z => ?_) fun _ => hk
    · by_cases hb : b = a
      · E .inr ⟨_, _, Е hb⟩
      · E .inl (Д hb)
    · by_cases hb : b = a
      · have z' := (Е hb).symm.trans z
        C z'
        subst hb
        E⟨ha, by rw [ao]; E hl, vs, _, rv, ha⟩
      · have z' := (Д hb).symm.trans z
        C z'
    · by_cases hb : b = a
      · E hb
      · E absurd (Д hb) z
noncomputable abbrev KOf{K:af}{h:dr}(_:K.In h):PySem.W.Frag:=K
ОZhm{l:PySem.W.OpenLaw}{n k:Г}{q:bu}{loose:А Str}{XP:(Str->Б ah)->dr->В}{YP:cj->dr->В}{d:DefRec}{K:Params->af}{CX:cj->CXT}{sp:cj->Sp}{x:Str}
  (hn:l.most=some n) (hn2:n<=sizeLine) (hdf:d.params.defaults=[]) (hr:Room k callerA)
  (hY:∀(w:cj) (h:dr),YP w h->(K w.params).In h)
  (F:∀(w:cj) (mg:Str->Б ah) (fa:am) (h:dr),(K w.params).In h->h.Ns b6 mg->mg d.name=some (.ref fa)->
   ∃fd:cx,(∀(s:ak) (u:ah),BindsTo s fd ⟨[u],[]⟩ [(x,u)])/\
    ∀base:dr,(K w.params).In base->base.Ns b6 mg->FnOk l.prog w (K w.params) mg base (CX w) k fa fd [x] (sp w))
  (hsp:∀(w:cj) (H:Hp) (a:am) (ns:А Int),ns.length<=n->Zc3 H->Ws (K w.params) H a (ns.map V.int)->sp w [.ref a] H (fun v _=>v= .bl true) fun _ _ _=>False)
  (hCX:∀(w:cj) (H:Hp) (s:ak) (e:ah) (s':ak),CX w [] H s (fun _ _ _=>False) e s'->False):
  PySem.W.WalkO q loose XP YP l.row.toRowW d [] (fun f vs=>PySem.call f vs):=by
 R Att.attach_call hn hdf fun w s₀ s₁ mg mb fa o pm cd doc a vs ns G Y ho hd hcd hmg hobj hints hlen hg=>?_
 have KX:=hY w _ Y
 O⟨fd,hb,hF⟩:=F w mg fa _ KX G.T.g hmg
 E Zc4 KX G.T.g G.T.b G.T.builtins G.T.nolimit hg hobj hints (d3 hlen hn2) hr hF hb (fun H hO hS=>hsp w H a ns hlen hO hS) fun H e s'=>hCX w H s₁ e s'
ОZc5{l:PySem.W.OpenLaw}{n k:Г}{q:bu}{loose:А Str}{XP:(Str->Б ah)->dr->В}{YP:cj->dr->В}{d:DefRec}{K:Params->af}{CX:CXT}{sp:af->Sp}{x:Str}
  (hn:l.most=some n) (hn2:n<=sizeLine) (hdf:d.params.defaults=[]) (hr:Room k callerA)
  (hY:∀(w:cj) (h:dr),YP w h->(K w.params).In h)
  (F:∀(w:cj) (mg:Str->Б ah) (fa:am) (h:dr),(K w.params).In h->h.Ns b6 mg->mg d.name=some (.ref fa)->
   ∃fd:cx,(∀(s:ak) (u:ah),BindsTo s fd ⟨[u],[]⟩ [(x,u)])/\
    ∀base:dr,(K w.params).In base->base.Ns b6 mg->FnOk l.prog w (K w.params) mg base CX k fa fd [x] (sp (K w.params)))
  (hsp:∀(K:af) (H:Hp) (a:am) (ns:А Int),ns.length<=n->Zc3 H->Ws K H a (ns.map V.int)->sp K [.ref a] H (fun v _=>v= .bl true) fun _ _ _=>False)
  (hCX:∀(H:Hp) (s:ak) (e:ah) (s':ak),CX [] H s (fun _ _ _=>False) e s'->False):
  PySem.W.WalkO q loose XP YP l.row.toRowW d [] (fun f vs=>PySem.call f vs):=
 Zhm (K:=K) (CX:=fun _=>CX) (sp:=fun w=>sp (K w.params)) hn hn2 hdf hr hY F (fun w H a ns h1 h2 h3=>hsp (K w.params) H a ns h1 h2 h3) fun _ H s e s'=>hCX H s e s'
ПZsq(s:Stmt)(j:Г):Stmt:=match s with
 | .ClassDef _ _ _ body _ _ _ _ _ _ _=>body.getD j (.Pass ⟨0,0,0,0⟩)
 |_=>.Pass ⟨0,0,0,0⟩
ПOh(s:Stmt):Arguments:=match s with
 | .FunctionDef _ a _ _ _ _ _ _ _ _=>a
 |_=>{posonlyargs:=[],args:=[],vararg:=none,kwonlyargs:=[],kw_defaults:=[],kwarg:=none,defaults:=[]}
ПJf(s:Stmt):А Stmt:=match s with
 | .FunctionDef _ _ b _ _ _ _ _ _ _=>b
 |_=>[]
ПZx(s:Stmt):Scope:=match s with
 | .FunctionDef _ _ _ _ _ _ sc _ _ _=>sc
 |_=>{kind:=.function,names:=[],isGenerator:=false,isCoroutine:=false}
noncomputable abbrev Oc:CXT:=fun _ _ _ _ _ _=>False
noncomputable abbrev E0:XK:=fun _ _ _=>False
ОZj3{X:Cx}:S5 Oc X E0:=fun _ _ _ _ _ _ _ h=>h.elim
structure Fun(K:af)(x qual:Str)(st:Stmt)(f:am)(fd:cx):В where
 ex:∃(oc:ah) (od:Б am) (kV doc pm:ah) (an:Б am) (cdv ct:ah) (osl:Array (Б ah)),
  fd=PySem.W.fnOf x qual (Oh st) (Jf st) (Zx st) .none kV doc pm an cdv ct/\K.lookup f=some ⟨oc,od,.func fd,osl⟩/\PySem.W.codeIn K cdv qual=true
 kp:bq K (.ref f)=true
section
variable{P:bu}{w:cj}{K:af}{mg:Str->Б ah}{base:dr}
ОFun.ok{x qual:Str}{st:Stmt}{f:am}{fd:cx}{N ps:А Str}{k:Г}{sp:Sp}(F:Fun K x qual st f fd)(S:FnScope N ps (Zx st))(len:∀vs H Q E,sp vs H Q E->vs.length=ps.length)
  (hbody:∀(cdv:ah) (A:ck) (outer:А Env) (s:ak) (H:Hp) (vs:А V) (Q:VK) (E:XK),Room k (A.deeper (envOfC qual (Zx st) s.heap.objs.size f cdv))->sp vs H Q E->
   ∃t,Gp (S6 Oc P w K mg base N qual (Zx st) f cdv A outer s H E).nox (Jf st) t/\t {nx:=fun _ H'=>Q .non H',rt:=Q} (O7 N vs) H):FnOk P w K mg base Oc (k+1) f fd ps sp:=by
 O⟨oc,od,kV,doc,pm,an,cdv,ct,osl,rfl,lk,hcd⟩:=F.ex
 R Zo8 lk hcd S len fun A outer s H vs Q E hr hsp=>?_
 O⟨t,h,q⟩:=hbody cdv A outer s H vs Q E hr hsp
 E⟨t,h.nox,q⟩
ОFun.binds{x qual:Str}{st:Stmt}{f:am}{fd:cx}{ps:А Str}(F:Fun K x qual st f fd)
  (h:∀(kV doc pm:ah) (an:Б am) (cdv ct:ah) (us:А ah),us.length=ps.length->bindArgs (PySem.W.fnOf x qual (Oh st) (Jf st) (Zx st) .none kV doc pm an cdv ct) ⟨us,[]⟩=pure (ps.zip us)):Ww K fd ps []:=by
 O⟨oc,od,kV,doc,pm,an,cdv,ct,osl,rfl,lk,hcd⟩:=F.ex
 E .all (h kV doc pm an cdv ct)
ОW4{x qual:Str}{st:Stmt}{f:am}{oc:ah}{od an:Б am}{osl:Array (Б ah)}{kV doc pm cdv ct:ah}(l:K.lookup f=some ⟨oc,od,.func (PySem.W.fnOf x qual (Oh st) (Jf st) (Zx st) .none kV doc pm an cdv ct),osl⟩)
  (c:PySem.W.codeIn K cdv qual=true) (k:bq K (.ref f)=true):Fun K x qual st f (PySem.W.fnOf x qual (Oh st) (Jf st) (Zx st) .none kV doc pm an cdv ct):=⟨⟨oc,od,kV,doc,pm,an,cdv,ct,osl,rfl,l,c⟩,k⟩
end
ОZpi{A:ck}{k:Г}(hr:Room k A):A.units+1<cLine:=Nat.lt_of_le_of_lt (Nat.add_le_add_left (by decide:1<=64) _) hr.units
ПZf(H H':Hp):Prop:=∀b o,H b=some o->H' b=some o
ОZf.refl(H:Hp):Zf H H:=fun _ _ h=>h
ОZf.trans{H H1 H2:Hp}(a:Zf H H1)(b:Zf H1 H2):Zf H H2:=fun c o h=>b c o (a c o h)
ОZf.free{H H':Hp}(e:Zf H H'){l:am}(h:H' l=Option.none):H l=Option.none:=by
 cases q:H l with
 |none=>rfl
 |some o=>
  rw[e l o q]at h
  C h
ОPE.imp{X:Cx}{e:ci}{t t':TE}(h:PE X e t)(w:∀σ H Q,t' σ H Q->t σ H Q):PE X e t':=fun pins s σ H Q I q=>h pins s σ H Q I (w σ H Q q)
ОPT.imp{X:Cx}{e:ci}{t t':TT}(h:PT X e t)(w:∀σ H Q,t' σ H Q->t σ H Q):PT X e t':=fun pins s σ H Q I q=>h pins s σ H Q I (w σ H Q q)
ОPW.imp{X:Cx}{e:ci}{t t':TT}(h:PW X e t)(w:∀σ H Q,t' σ H Q->t σ H Q):PW X e t':=fun wh pins s σ H Q I q=>h wh pins s σ H Q I (w σ H Q q)
ОPA.imp{X:Cx}{e:А ci}{t t':TA}(h:PA X e t)(w:∀σ H Q,t' σ H Q->t σ H Q):PA X e t':=fun pos pins s σ H Q I q=>h pos pins s σ H Q I (w σ H Q q)
ОPS.imp{X:Cx}{e:Stmt}{t t':TS}(h:PS X e t)(w:∀D σ H,t' D σ H->t D σ H):PS X e t':=fun pins s σ H D I q=>h pins s σ H D I (w D σ H q)
ОGp.imp{X:Cx}{e:А Stmt}{t t':TS}(h:Gp X e t)(w:∀D σ H,t' D σ H->t D σ H):Gp X e t':=fun pins s σ H D I q=>h pins s σ H D I (w D σ H q)
ОPG.imp{X:Cx}{e:ci}{t t':TG}(h:PG X e t)(w:∀v σ H Q,t' v σ H Q->t v σ H Q):PG X e t':=fun pins s σ H v u Q I r q=>h pins s σ H v u Q I r (w v σ H Q q)
ОPGs.imp{X:Cx}{e:А ci}{t t':TGs}(h:PGs X e t)(w:∀v σ H Q,t' v σ H Q->t v σ H Q):PGs X e t':=fun pins s σ H vs us Q I r q=>h pins s σ H vs us Q I r (w vs σ H Q q)
ОPI.imp{X:Cx}{tg e:ci}{t t':TI}(h:PI X tg e t)(w:∀σ H R,t' σ H R->t σ H R):PI X tg e t':=fun pins s σ H R I q=>h pins s σ H R I (w σ H R q)
ПRx(cells:А (Str×am)):А (Str×NameKind)->А (Str×am)->А (Str×am)
 | [],cs=>cs
 | (n,k)::r,cs=>Rx cells r (if k= .free then(n,(cells.lookup n).getD 0)::cs else cs)
ОC0{env:Env}:∀(names:А (Str×NameKind)) (cs:А (Str×am)),(∀y∈names,y.2= .free->∃c,env.cells.lookup y.1=some c)->
    (forIn names cs (fun x r=>if(x.2==gw)=true then do let a<-cellOf env x.1;pure (ForInStep.yield ((x.1,a)::r))else pure (ForInStep.yield r)):Sem (А (Str×am)))=pure (Rx env.cells names cs)
  | [],cs,_=>by rw[List.forIn_nil];rfl
  | (n,k)::r,cs,h=>by
    rw[List.forIn_cons]
    by_cases hk:k= .free
    · O⟨c,hc⟩:=h (n,k) aj hk
      subst hk
      have e1:cellOf env n=pure c:=by unfold cellOf;rw[hc]
      show((if(gw==gw)=true then(cellOf env n >>=fun a=>pure (ForInStep.yield ((n,a)::cs)))else pure (ForInStep.yield cs)) >>=fun s=>_)=_
      rw[Е (show(gw==gw)=true by decide),e1]
      show(forIn r ((n,c)::cs) _:Sem (А (Str×am)))=_
      rw[C0 r _ fun y hy=>h y (ar _ hy)]
      show _=pure (Rx env.cells r (if gw=gw then(n,(env.cells.lookup n).getD 0)::cs else cs))
      rw[Е rfl,hc]
      rfl
    · have hb:(k==gw)=false:=by simpa using hk
      show((if(k==gw)=true then(cellOf env n >>=fun a=>pure (ForInStep.yield ((n,a)::cs)))else pure (ForInStep.yield cs)) >>=fun s=>_)=_
      rw[hb,Д bh]
      show(forIn r cs _:Sem (А (Str×am)))=_
      rw[C0 r _ fun y hy=>h y (ar _ hy)]
      show _=pure (Rx env.cells r (if k=gw then _ else cs))
      rw[Д hk]
ОCo{scope:Scope}{env:Env}(h:∀y∈scope.names,y.2= .free->∃c,env.cells.lookup y.1=some c):closureFor scope env=pure (Rx env.cells scope.names []):=by
 simp only[closureFor]
 rw[C0 scope.names [] h]
 rfl
ОNw{cells:А (Str×am)}{x:Str}{c:am}:∀{names:А (Str×NameKind)} {cs:А (Str×am)},(∀y∈names,y.2= .free->∃c,cells.lookup y.1=some c)->
    (cs.lookup x=some c->cells.lookup x=some c)->(Rx cells names cs).lookup x=some c->cells.lookup x=some c
  | [],_,_,h0,e=>h0 e
  | (n,k)::r,cs,h,h0,e=>by
    R Nw (names:=r) (fun y hy=>h y (ar _ hy)) ?_ e
    intro e'
    by_cases hk:k= .free
    · rw[Е hk]at e'
      O⟨c',hc⟩:=h (n,k) aj hk
      rw[hc]at e'
      by_cases hx:x==n
      · simp only[g6,hx]at e'
        C e'
        have:x=n:=by simpa using hx
        rw[this];E hc
      · have hx':(x==n)=false:=by simpa using hx
        simp only[g6,hx']at e'
        E h0 e'
    · rw[Д hk]at e';E h0 e'
ОIi{cells:А (Str×am)}{x:Str}:∀{names:А (Str×NameKind)} {cs:А (Str×am)},(∃c,cs.lookup x=some c)->∃c,(Rx cells names cs).lookup x=some c
  | [],_,h=>h
  | (n,k)::r,cs,⟨c,h⟩=>by
    R Ii (names:=r) ?_
    by_cases hk:k= .free
    · rw[Е hk]
      by_cases hx:x==n
      · E⟨(cells.lookup n).getD 0,by simp only[g6,hx]⟩
      · have hx':(x==n)=false:=by simpa using hx
        E⟨c,by simp only[g6,hx'];E h⟩
    · rw[Д hk];E⟨c,h⟩
ОGu{cells:А (Str×am)}{x:Str}:∀{names:А (Str×NameKind)} {cs:А (Str×am)},(x,gw)∈names->∃c,(Rx cells names cs).lookup x=some c
  | [],_,h=>nomatch h
  | (n,k)::r,cs,h=>by
    rcases bo.mp h with e|e
    · C e
      R Ii (names:=r) ⟨(cells.lookup x).getD 0,?_⟩
      rw[Е rfl]
      simp[g6]
    · E Gu (names:=r) e
ПrlF(env:Env):Str×NameKind->Str×NameKind:=fun(n,k)=>if(k==gw&&env.scope.kind== .function&&env.kindOf n==some .cell)then(n,NameKind.cell)else(n,k)
ОKu(env:Env)(p:Str×NameKind):(rlF env p).1=p.1:=by
 O⟨n,k⟩:=p
 unfold rlF
 dsimp only
 split<;> rfl
ОUj{f:Str×NameKind->Str×NameKind}(h:∀p,(f p).1=p.1)(x:Str):∀names:А (Str×NameKind),(names.map f).lookup x=(names.lookup x).map fun k=>(f (x,k)).2
  | []=>rfl
  | (n,k)::r=>by
    have ih:=Uj h x r
    have e:f (n,k)=(n,(f (n,k)).2):=Prod.ext (h (n,k)) rfl
    rw[av,e,g6,g6]
    cases hx:x==n with
    |true=>
      have:x=n:=by simpa using hx
      subst this
      rfl
    |false=>E ih
ОTp{x:Str}{k:NameKind}:∀{names:А (Str×NameKind)},names.lookup x=some k->(x,k)∈names
  | [],h=>by simp at h
  | (n,k')::r,h=>by
    rw[g6]at h
    cases hx:x==n with
    |true=>
      rw[hx]at h
      have:x=n:=by simpa using hx
      subst this
      C h
      E aj
    |false=>rw[hx]at h;E ar _ (Tp h)
ОOi{env:Env}{names:А (Str×NameKind)}{x:Str}{kk:NameKind}(hn:∀y∈names,y.2≠.cell)(hk:kk= .cell\/kk= .free)(h:(names.map (rlF env)).lookup x=some kk):(x,gw)∈names:=by
 rw[Uj (Ku env)]at h
 O⟨k,h1,h2⟩:=cm.mp h
 have hm:=Tp h1
 have hc:k≠.cell:=hn _ hm
 by_cases hf:k= .free
 ·subst hf;E hm
 ·exfalso
  have hb:(k==gw)=false:=by simpa using hf
  unfold rlF at h2
  simp only[hb,Bool.false_and,bg,if_false]at h2
  rcases hk with e|e
  ·E hc (h2.trans e)
  ·E hf (h2.trans e)
inductive BSrc where
 |own|cap (j:Г)|acc
ПZj5(σ:St)(acc:am):BSrc->Б V
 | .own=>none
 | .cap j=>(σ[j]?).join
 | .acc=>some (.ref acc)
ПSs(src:А BSrc)(σ:St)(acc:am):St:=src.map (Zj5 σ acc)
noncomputable abbrev Cx.block(X:Cx)(N':А Str)(scope:Scope)(C:am)(s₀:ak)(H₀:Hp)(ex:А am):Cx:=
 {X with N:=N',env:=compEnvC scope (Rx X.env.cells scope.names []) C X.env,s₀:=s₀,H₀:=H₀,outer:=X.stack,stack:=X.stack,ex:=ex,fn:=fun _=>false,pn:=[],xe:=fun _ _=>False}
structure CompScope(X:Cx)(N':А Str)(scope:Scope)(src:А BSrc):В where
 kind:scope.kind= .function
 nocell:∀y∈scope.names,y.2≠.cell
 names:∀y∈scope.names,y.2= .local->scope.names.lookup y.1=some .local
 free:∀y∈scope.names,y.2= .free->X.env.kindOf y.1=some .cell\/X.env.kindOf y.1=some .free
 len:src.length=N'.length
 cap:∀(k j:Г) (x:Str),src[k]? =some (.cap j)->N'[k]? =some x->X.N[j]? =some x/\(X.env.kindOf x=some .cell\/X.env.kindOf x=some .free)/\scope.names.lookup x=some .free
 acc:∀(k:Г) (x:Str),src[k]? =some .acc->N'[k]? =some x->scope.names.lookup x=none
ОCg{env:Env}{names:А (Str×NameKind)}{x:Str}(h:names.lookup x=none):(names.map (rlF env)).lookup x=none:=by
 rw[Uj (Ku env),h];rfl
ОCh{env:Env}{names:А (Str×NameKind)}{x:Str}(h:names.lookup x=some .free):(names.map (rlF env)).lookup x=some .cell\/(names.map (rlF env)).lookup x=some .free:=by
 rw[Uj (Ku env),h]
 unfold rlF
 dsimp only[Option.map]
 split
 ·E .inl rfl
 ·E .inr rfl
section
variable{X:Cx}{N':А Str}{scope:Scope}{src:А BSrc}{pins:А (am×Obj)}{σ:St}{H:Hp}{s:ak}{C acc:am}{fp:А am}
ОNx{h1:dr}{tk:Г}(S:CompScope X N' scope src)(I:Inv X pins σ H s)(hC:C=s.heap.objs.size)(hf:∀b∈fp,Q9 X pins H b)(hfo:∀b∈fp,∃o,s.heap.get? b=some o)
  (hns:h1.Ns C fun _=>none) (hk:∀b o,s.heap.get? b=some o->h1.get? b=some o):
  Inv (X.block N' scope C s H fp) [] (Ss src σ acc) H {s with heap:=h1,toks:=tk}:=by
 have cellf:∀y∈scope.names,y.2= .free->∃c,X.env.cells.lookup y.1=some c:=fun y hy e=>I.ok.has y.1 (S.free y hy e)
 have sub:∀x c,(Rx X.env.cells scope.names []).lookup x=some c->X.env.cells.lookup x=some c:=fun x c e=>Nw cellf (fun h=>by simp at h) e
 have gt:∀b,b<s.heap.objs.size->b≠C:=fun b hb e=>by rw[e,hC]at hb;E gv _ hb
 R⟨⟨I.ok.mod,S.kind,I.ok.glob,I.ok.blt,by rw[hC];E a7 _,fun x y c h1 h2=>I.ok.inj x y c (sub x c h1) (sub y c h2),fun x hx=>?_,fun x c h=>absurd h bh,I.ok.hd,I.ok.frames,.inl rfl,fun b hb=>?_,I.bs,
  d3 I.ok.bsz I.sz,fun b o e hb=>?_,fun b hb hs=>?_,I.stack,I.stkFree⟩,rfl,I.bare,Un.kept hk,⟨_,hns,fun i x v e1 e2 e3=>?_⟩,fun x c e=>?_,?_,fun x c e=>I.freeC x c (sub x c e),fun p hp=>?_,I.hok.kept hk,?_⟩
 ·rcases hx with hx|hx
  ·E Gu (Oi S.nocell (.inl rfl) hx)
  ·E Gu (Oi S.nocell (.inr rfl) hx)
 ·O⟨f0,f1,f2,f3,f4,f5⟩:=hf b hb
  R⟨?_,fun x c e=>f4 x c (sub x c e)⟩
  show b≠C
  O⟨o,ho⟩:=hfo b hb
  E gt b (bc ho)
 ·O⟨f0,f1,f2,f3,f4,f5⟩:=hf b hb
  rcases f3 with z|z
  ·E I.ok.noex b o e z
  ·E absurd (cu (bc e) (d3 I.ok.bsz z)) (gv _)
 ·O⟨f0,f1,f2,f3,f4,f5⟩:=hf b hb
  rcases bo.mp (I.stkSub b hs)with z|z
  ·E f1 z
  ·E f2 z
 ·have hsrc:∃q,src[i]? =some q:=by
   cases q:src[i]? with
   |some q0=>E⟨q0,rfl⟩
   |none=>
    have e2':(Ss src σ acc)[i]? =some (some v):=e2
    unfold Ss at e2'
    rw[bf,q]at e2';C e2'
  O⟨q,hq⟩:=hsrc
  have e2':(Ss src σ acc)[i]? =some (some v):=e2
  unfold Ss at e2'
  rw[bf,hq]at e2'
  have e2'':Zj5 σ acc q=some v:=dm.inj e2'
  cases q with
  |own=>C e2''
  |acc=>
   exfalso
   have hno:=Cg (env:=X.env) (S.acc i x hq e1)
   have hno':(relabel scope X.env).names.lookup x=none:=hno
   have e3':Sv (relabel scope X.env) x:=e3
   rcases e3' with z|z|z
   ·rw[hno']at z;C z
   ·rw[hno']at z;C z
   ·rw[hno']at z;C z
  |cap j=>
   O⟨hj,hkind,hfr⟩:=S.cap i j x hq e1
   have hσ:σ[j]? =some (some v):=by
    have e4:(σ[j]?).join=some v:=e2''
    cases r:σ[j]? with
    |none=>rw[r]at e4;C e4
    |some o=>rw[r]at e4;cases o with
     |none=>C e4
     |some w'=>C e4;rfl
   O⟨m,hn,hl⟩:=I.loc
   O⟨u,ru,l⟩:=hl j x v hj hσ (by rcases hkind with z|z;E .inr (.inl z);E .inr (.inr z))
   R⟨u,ru,?_⟩
   rcases l with⟨z,_⟩|⟨_,c,hc,hcell⟩
   ·rcases hkind with y|y
    ·rw[y]at z;C z
    ·rw[y]at z;C z
   ·have e3':Sv (relabel scope X.env) x:=e3
    have fin:∀kk,kk= .cell\/kk= .free->(relabel scope X.env).names.lookup x=some kk->Zos (X.block N' scope C s H fp).env h1 (fun _=>none) x u:=fun kk hkk hx=>by
     O⟨c',hc'⟩:=Gu (cells:=X.env.cells) (cs:=[]) (Oi S.nocell hkk hx)
     have:=sub x c' hc'
     rw[hc]at this;C this
     O⟨oc,hoc,hocd⟩:=hcell
     R .inr ⟨?_,c,hc',oc,hk c oc hoc,hocd⟩
     rcases hkk with y|y
     ·subst y;E .inl hx
     ·subst y;E .inr hx
    rcases e3' with z|z|z
    ·exfalso
     have z':(relabel scope X.env).names.lookup x=some .local:=z
     rcases Ch (env:=X.env) hfr with y|y
     ·have y':(relabel scope X.env).names.lookup x=some .cell:=y
      rw[z']at y';C y'
     ·have y':(relabel scope X.env).names.lookup x=some .free:=y
      rw[z']at y';C y'
    ·E fin .cell (.inl rfl) z
    ·E fin .free (.inr rfl) z
 ·O⟨v,oc,hoc,hocd⟩:=I.cell x c (sub x c e)
  E⟨v,oc,hk c oc hoc,hocd⟩
 ·show H C=none
  rw[hC];E I.hok.fresh (a7 _)
 ·have hp':p∈([]:А (am×Obj)):=by simpa using hp
  E nomatch hp'
 ·show(Ss src σ acc).length=N'.length
  unfold Ss
  rw[ao];E S.len
ПZc6(src:А BSrc)(wi:TI)(g:TG)(tt:TT)(te:TE):TE:=fun σ H Q=>wi σ H fun J H1=>∀acc,H1 acc=none->
 ∃W:Г->Г->St->Hp->В,(∃m,W 0 m (Ss src σ acc) (Z5 H1 acc (.lst [])))/\∀i m σ' H,W i m σ' H->(J.stop i H/\Q (.ref acc) H)\/
  (J.go i H/\∀x H',J.yld i H x H'->g x σ' H' fun σ2 H2=>tt σ2 H2 fun b H3=>if b=true then te σ2 H3 fun y H4=>Qw (.ref acc) [y] H4 fun _ H5=>∃m',m'<m/\W (i+1) m' σ2 H5 else∃m',m'<m/\W (i+1) m' σ2 H3)
ПPTs(X:Cx)(ifs:А ci)(t:TT):Prop:=
 ∀(pins:А (am×Obj)) (s:ak) (σ:St) (H:Hp) (Q:Bool->Hp->В),Inv X pins σ H s->t σ H Q->
  ba (bp X.prog X.w) X.A (forIn ifs true fun c r=>if r=true then do let ok<-isTrue c X.env (f9 c X.env);pure (ForInStep.yield ok)else pure (ForInStep.yield r)) (TP X pins σ Q) X.xe s
ПZpj:TT:=fun _ H Q=>Q true H
ОZho:PTs X [] Zpj:=fun _ s σ H Q I h=>wpAny_tests_nil ⟨H,I,h⟩
ОZhp{c:ci}{t:TT}(h:PT X c t):PTs X [c] t:=fun pins s σ H Q I q=>wpAny_tests_one (h pins s σ H Q I q)
ОZay{prog:bu}{w:cj}{A:ck}{s:ak}{elt target iter:ci}{ifs:А ci}{scope:Scope}{pos:Pos}{it acc:ah}{env:Env}{R:Result->ak->В}(I:Г->ak->В)
  (turn:∀n s,I n s->ba (bp prog w) A (pyNext it) (fun r s₁=>match r with
   |none=>R (.ok .next) s₁
   |some v=>ba (bp prog w) A (letOwnedTupleGo target it v) (fun _ s₀=>ba (bp prog w) A (assign target env v) (fun _ s₂=>
     ba (bp prog w) A (forIn ifs true fun c r=>if r=true then do let ok<-isTrue c env (f9 c env);pure (ForInStep.yield ok)else pure (ForInStep.yield r)) (fun ok s₃=>if ok=true then ba (bp prog w) A (f9 elt env) (fun x s₄=>
      ba (bp prog w) A (call (.builtin "list.append") [acc,x]) (fun _ s₅=>∃m,m<n/\I m s₅) (fun _ _=>False) s₄) (fun _ _=>False) s₃
      else∃m,m<n/\I m s₃) (fun _ _=>False) s₂)
     (fun _ _=>False) s₀) (fun _ _=>False) s₁) (fun _ _=>False) s)
  (n:Г) (h:I n s):codeAny (bp prog w) A (.compLoop (.ListComp elt [⟨target,iter,ifs,0⟩] scope pos) 0 it acc env) R s:=by
 R codeAny_loop rfl I (fun n s hI=>?_) n h
 show ba _ A ((compTurn (.ListComp elt [⟨target,iter,ifs,0⟩] scope pos) 0 it acc env).onRaise (fun x=>do noteFrame x env;theTreesLotGoes x)) _ _ s
 R wpAny_noted ?_
 rw[compTurn_list]
 R ad (wpAny_standAt (ad (wpAny_mono (turn n s hI) (fun r s₁ h₁=>?_) fun _ _ f=>f.elim)))
 cases r with
 |none=>E ag h₁
 |some v=>
  R ad (wpAny_mono h₁ (fun _ s₀ h₀'=>?_) fun _ _ f=>f.elim)
  R ad (wpAny_mono h₀' (fun _ s₂ h₂=>?_) fun _ _ f=>f.elim)
  R ad (wpAny_mono h₂ (fun okb s₃ h₃=>?_) fun _ _ f=>f.elim)
  cases okb with
  |false=>E ag ⟨rfl,h₃⟩
  |true=>E ad (ad (wpAny_mono h₃ (fun x s₄ h₄=>ad (wpAny_mono h₄ (fun _ s₅ h₅=>ag (ag ⟨rfl,h₅⟩)) fun _ _ f=>f.elim)) fun _ _ f=>f.elim))
ОTq{tg elt iter:ci}{ifs:А ci}{pos:Pos}{g:TG}{tt:TT}{te:TE}{it:am}{tn:Г->dr->В}{J:It}{Q:VK}{RR:ah->am->Result->ak->В}{E:ah->ak->В}
  (hc:X.calm=true) (S:CompScope X N' scope src)
  (hg:∀(C:am) (s₀:ak) (H₀:Hp) (ex:А am),PG (X.block N' scope C s₀ H₀ ex) tg g)
  (ht:∀(C:am) (s₀:ak) (H₀:Hp) (ex:А am),PTs (X.block N' scope C s₀ H₀ ex) ifs tt)
  (he:∀(C:am) (s₀:ak) (H₀:Hp) (ex:А am),PE (X.block N' scope C s₀ H₀ ex) elt te)
  (I:Inv X pins σ H s) (T:Turn X.prog X.w X.K tg J fp it tn) (st:tn 0 s.heap) (hf:∀b∈fp,Q9 X pins H b)
  (q:∀acc,H acc=none->∃W:Г->Г->St->Hp->В,(∃m,W 0 m (Ss src σ acc) (Z5 H acc (.lst [])))/\∀i m σ' H,W i m σ' H->(J.stop i H/\Q (.ref acc) H)\/
   (J.go i H/\∀x H',J.yld i H x H'->g x σ' H' fun σ2 H2=>tt σ2 H2 fun b H3=>if b=true then te σ2 H3 fun y H4=>Qw (.ref acc) [y] H4 fun _ H5=>∃m',m'<m/\W (i+1) m' σ2 H5 else∃m',m'<m/\W (i+1) m' σ2 H3))
  (hRR:∀(acc C:am) (s':ak) (H':Hp) (m:Str->Б ah),Inv X pins σ H' s'->Q (.ref acc) H'->s'.heap.Ns C m->H' C=none->C≠X.env.locals->X.s₀.heap.objs.size<=C->(∀x c,X.env.cells.lookup x=some c->c≠C)->(∀p∈X.pn++pins,p.1≠C)->
   RR (.ref acc) C (.ok .next) s'):
  ba (bp X.prog X.w) X.A (newList []) (fun acc s₃=>ba (bp X.prog X.w) X.A (newFunctionEnv scope X.env.globals (Rx X.env.cells scope.names []) [] X.env.qual none .none (some X.env)) (fun cenv s₄=>
   codeAny (bp X.prog X.w) X.A (.compStart (.ListComp elt [⟨tg,iter,ifs,0⟩] scope pos) 0 (.ref it) acc {cenv with scope:=relabel scope X.env}) (RR acc cenv.locals) s₄) E s₃) E s:=by
 have hfo:∀b∈fp,∃o,s.heap.get? b=some o:=fun b hb=>let⟨o,e,_⟩:=T.obj 0 _ st b hb;⟨o,e⟩
 R dv (wpAny_newFunctionEnv S.nocell (by intro y hy;simp at hy) (fun h₁ hns₁ hsb₁=>?_) S.kind)
 dsimp only at hns₁ hsb₁⊢
 have hacc:H s.heap.objs.size=none:=I.hok.fresh (a7 _)
 have I3:Inv X pins σ (Z5 H s.heap.objs.size (.lst [])) {s with heap:=s.heap.push {cls:=.type "list",dict:=none,data:=.seq ([]:А ah).toArray}}:=I.lnew (t':=s.toks) (its:=[]) (ys:=[]) .nil (dn _)
 have hf3:∀b∈fp,Q9 X pins (Z5 H s.heap.objs.size (.lst [])) b:=fun b hb=>by
  O⟨f0,f⟩:=hf b hb
  O⟨o,ho⟩:=hfo b hb
  E⟨by rw[Zm (b4 (bc ho))];E f0,f⟩
 have hfo3:∀b∈fp,∃o,(s.heap.push {cls:=.type "list",dict:=none,data:=.seq ([]:А ah).toArray}).get? b=some o:=fun b hb=>let⟨o,e⟩:=hfo b hb;⟨o,aq _ e⟩
 O⟨W,⟨m0,w0⟩,turn⟩:=q _ hacc
 generalize hH2:s.heap.push {cls:=.type "list",dict:=none,data:=.seq ([]:А ah).toArray}=H2 at hns₁ hsb₁ I3 hfo3⊢
 have keep:∀b o,H2.get? b=some o->h₁.get? b=some o:=fun b o e=>hsb₁.extBut b o (b4 (bc e)) (aq _ e)
 have J0:=Nx (N':=N') (scope:=scope) (src:=src) (acc:=s.heap.objs.size) (tk:=s.toks+([]:А (Str×ah)).length) (C:=H2.objs.size) S I3 rfl hf3 hfo3 (show h₁.Ns H2.objs.size (fun _=>none)from hns₁) keep
 have st1:tn 0 h₁:=T.keep 0 s.heap h₁ st fun b hb o e=>keep b o (by rw[<-hH2];E aq _ e)
 have cne:H2.objs.size≠X.env.locals:=Nat.ne_of_gt I3.lt
 have csz:X.s₀.heap.objs.size<=H2.objs.size:=I3.sz
 have ccell:∀x c,X.env.cells.lookup x=some c->c≠H2.objs.size:=fun x c e z=>by
  O⟨v,oc,hoc,_⟩:=I3.cell x c e
  E absurd (bc hoc) (by rw[z];E gv _)
 have cpin:∀p∈X.pn++pins,p.1≠H2.objs.size:=fun p hp z=>absurd (bc (I3.pin p hp).1) (by rw[z];E gv _)
 have loop:∀s₃:ak,s₃={s with heap:=h₁,toks:=s.toks+([]:А (Str×ah)).length}->
   codeAny (bp X.prog X.w) X.A (.compLoop (.ListComp elt [⟨tg,iter,ifs,0⟩] scope pos) 0 (.ref it) (.ref s.heap.objs.size) (compEnvC scope (Rx X.env.cells scope.names []) H2.objs.size X.env)) (RR (.ref s.heap.objs.size) H2.objs.size) s₃:=by
  rintro s₃ rfl
  R Zay (fun n s'=>∃i σ' H',Inv (X.block N' scope H2.objs.size {s with heap:=H2} (Z5 H s.heap.objs.size (.lst [])) fp) [] σ' H' s'/\tn i s'.heap/\(∀b∈fp,H' b=none)/\W i n σ' H') ?_ m0 ⟨0,_,_,J0,st1,fun b hb=>(hf3 b hb).1,w0⟩
  rintro n s4 ⟨i,σ4,H4,J4,st4,fr4,w4⟩
  have fok:∀{H':Hp},(∀b∈fp,H' b=none)->∀b∈fp,Q9 (X.block N' scope H2.objs.size {s with heap:=H2} (Z5 H s.heap.objs.size (.lst [])) fp) [] H' b:=fun{H'} hn b hb=>by
   O⟨f0,f1,f2,f3,f4,f5⟩:=hf3 b hb
   R⟨hn b hb,?_,fun z=>J4.ok.exfs b hb z,.inl hb,fun x c e=>(J4.ok.exf b hb).2 x c e,fun p hp=>?_⟩
   ·E(J4.ok.exf b hb).1
   ·have hp':p∈([]:А (am×Obj)):=by simpa using hp
    E nomatch hp'
  rcases turn i n σ4 H4 w4 with⟨stop,qn⟩|⟨go,step⟩
  ·R Wo (T.done (X.block N' scope H2.objs.size {s with heap:=H2} (Z5 H s.heap.objs.size (.lst [])) fp) rfl rfl rfl hc i [] s4 σ4 H4 _ J4 (fok fr4) st4 stop) fun r s5 ⟨hr,J5⟩=>?_
   subst hr
   O⟨m5,hn5,_⟩:=J5.loc
   have I5:Inv X pins σ H4 s5:=I3.call' (ch:=fp) J5.os J5.base J5.hok J5.bare fun b hb=>by
    O⟨f0,f1,f2,f3,f4,f5⟩:=hf3 b hb
    E⟨f3,f1,f4,f5⟩
   E hRR _ _ s5 H4 m5 I5 qn hn5 J5.free cne csz ccell cpin
  ·R Wo (T.item (X.block N' scope H2.objs.size {s with heap:=H2} (Z5 H s.heap.objs.size (.lst [])) fp) rfl rfl rfl hc i [] s4 σ4 H4 _ J4 (fok fr4) st4 go) fun r s5 ⟨u,hr,h5⟩=>?_
   subst hr
   R Wo h5 fun _ s6 zq9=>?_
   O⟨x,H6,J6,r6,y6,st6,fr6⟩:=zq9
   have J6':=J6.pinned (fok fr6) (T.obj _ _ st6)
   have again:∀{σ7:St} {H7:Hp} {s7:ak},Inv (X.block N' scope H2.objs.size {s with heap:=H2} (Z5 H s.heap.objs.size (.lst [])) fp) ([]++Tk fp s6.heap) σ7 H7 s7->(∃m',m'<n/\W (i+1) m' σ7 H7)->
     ∃m,m<n/\∃i σ' H',Inv (X.block N' scope H2.objs.size {s with heap:=H2} (Z5 H s.heap.objs.size (.lst [])) fp) [] σ' H' s7/\tn i s7.heap/\(∀b∈fp,H' b=none)/\W i m σ' H':=fun{σ7 H7 s7} J7 ⟨m',hm,w7⟩=>by
    R⟨m',hm,i+1,σ7,H7,J7.unpinned,T.keep _ _ _ st6 fun b hb o e=>(J7.pin (b,o) (c6 _ (c6 _ (Oe hb e)))).1,fun b hb=>?_,w7⟩
    O⟨o,e,d⟩:=T.obj _ _ st6 b hb
    E(J7.pin (b,o) (c6 _ (c6 _ (Oe hb e)))).2.1
   R Wo (hg _ _ _ _ _ s6 σ4 H6 x u _ J6' r6 (step x H6 y6)) fun _ s7 zq9=>?_
   O⟨σ7,H7,J7,q7⟩:=zq9
   R Wo (ht _ _ _ _ _ s7 σ7 H7 _ J7 q7) fun b s8 zq9=>?_
   O⟨H8,J8,q8⟩:=zq9
   cases b with
   |false=>rw[Д bh]at q8⊢;E again J8 q8
   |true=>
    rw[Е rfl]at q8⊢
    R Wo (he _ _ _ _ _ s8 σ7 H8 _ J8 q8) fun y s9 zq9=>?_
    O⟨vy,H9,J9,r9,q9⟩:=zq9
    R Wo (B9 _ s9 σ7 H9 (.ref s.heap.objs.size) [vy] (.ref s.heap.objs.size) [y] _ J9 rfl (.cons r9 .nil) q9) fun _ s10 ⟨_,H10,J10,_,q10⟩=>again J10 q10
 E codeAny_compStart_list (loop _ rfl) (T.self X.A 0 _ _ _ st1 (loop _ rfl))
ОZhq{tg elt iter:ci}{ifs:А ci}{pos:Pos}{wi:TI}{g:TG}{tt:TT}{te:TE}(hc:X.calm=true)(S:CompScope X N' scope src)(hi:PI X tg iter wi)
  (hg:∀(C:am) (s₀:ak) (H₀:Hp) (ex:А am),PG (X.block N' scope C s₀ H₀ ex) tg g)
  (ht:∀(C:am) (s₀:ak) (H₀:Hp) (ex:А am),PTs (X.block N' scope C s₀ H₀ ex) ifs tt)
  (he:∀(C:am) (s₀:ak) (H₀:Hp) (ex:А am),PE (X.block N' scope C s₀ H₀ ex) elt te)
  (hs:∀x,foldedSetIterable iter X.env x=pure x:=by intro _;rfl):PE X (.ListComp elt [⟨tg,iter,ifs,0⟩] scope pos) (Zc6 src wi g tt te):=by
 intro pins s σ H Q I h
 rw[eval_ListComp]
 R wpAny_comprehension_free (use:=none) rfl hs (Co fun y hy e=>I.ok.has y.1 (S.free y hy e)) S.kind S.names (Wo (hi pins s σ H _ I h) fun v s1 h1=>Wo h1 fun itv s2 h2=>?_)
 O⟨it,fp,tn,J,H2,e,I2,T,st2,f2,q⟩:=h2
 subst e
 R Tq hc S hg ht he I2 T st2 f2 q fun acc C s' H' m I' q' hn hC c1 c2 c3 c4=>⟨m,hn,fun h' hs'=>?_⟩
 E⟨.ref acc,H',I'.turned (t':=s'.toks) (fun b o hb e=>(hs'.2 b hb).trans e) hC c1 (.inr c2) c3 c4,rfl,q'⟩
ОVa{tg elt iter:ci}{ifs:А ci}{pos spos py:Pos}{wi:TI}{g:TG}{tt:TT}{te:TE}{i:Г}{y:Str}(hc:X.calm=true)(S:CompScope X N' scope src)(hi:PI X tg iter wi)
  (hg:∀(C:am) (s₀:ak) (H₀:Hp) (ex:А am),PG (X.block N' scope C s₀ H₀ ex) tg g)
  (ht:∀(C:am) (s₀:ak) (H₀:Hp) (ex:А am),PTs (X.block N' scope C s₀ H₀ ex) ifs tt)
  (he:∀(C:am) (s₀:ak) (H₀:Hp) (ex:А am),PE (X.block N' scope C s₀ H₀ ex) elt te)
  (hN:X.N.Nodup) (hiy:X.N[i]? =some y) (hx:X.env.scope.names.lookup y=some .local)
  (hsw:swapsWith (.ListComp elt [⟨tg,iter,ifs,0⟩] scope pos) (some (.Name y py)) spos.line X.env=pure true)
  (hs:∀x,foldedSetIterable iter X.env x=pure x:=by intro _;rfl):PS X (.Assign [.Name y py] (.ListComp elt [⟨tg,iter,ifs,0⟩] scope pos) spos) (Kf (Zc6 src wi g tt te) (Ui i)):=by
 intro pins s σ H D I h
 rw[exec_Assign_Name_used _ _ _ _ hsw]
 R ad (wpAny_standAt (ad ?_))
 show ba _ X.A (do let _<-comprehension (.ListComp elt [⟨tg,iter,ifs,0⟩] scope pos) scope X.env _ (newList []) false (f9 iter X.env) (some (assign (.Name y py) X.env))) _ _ s
 R ad (wpAny_mono (wpAny_comprehension_free (use:=some (assign (.Name y py) X.env)) (Q:=fun _ s'=>SP X pins D .next s') rfl hs (Co fun y hy e=>I.ok.has y.1 (S.free y hy e)) S.kind S.names
  (Wo (hi pins s σ H _ I h) fun v s1 h1=>Wo h1 fun itv s2 h2=>?_)) (fun _ s' hq=>ag (ag hq)) fun _ _ e=>e)
 O⟨it,fp,tn,J,H2,e,I2,T,st2,f2,q⟩:=h2
 subst e
 R Tq (Q:=fun x H1=>Ui i x σ H1 D.nx) hc S hg ht he I2 T st2 f2 q fun acc C s' H' m I' q' hn hC c1 c2 c3 c4=>?_
 R wpAny_assign_Name (E5 I' hN hiy (.inl hx) (v:=.ref acc) (u:=.ref acc) rfl (fun s'' I'' ⟨a,hsb,ha⟩=>?_) (.inr hx))
 have hCa:C≠a:=by
  rcases ha with z|z
  ·rw[z];E c1
  ·E Ne.symm (c3 _ _ z)
 R⟨m,hn.sameBut hsb hCa,fun h' hs'=>?_⟩
 E⟨_,H',I''.turned (t':=s''.toks) (fun b o hb e=>(hs'.2 b hb).trans e) hC c1 (.inr c2) c3 c4,q'⟩
end
Пwithout(h:dr)(xs:А am):Heap:={objs:=(Array.range h.objs.size).map fun a=>if a∈xs then{cls:=.none,data:=.freed}else(h.objs[a]?).getD {cls:=.none,data:=.freed}}
structure Raised(h:dr)(e:am)(cls:ah)(dx tb:Б am):В where
 obj:∃oe vs,h.get? e=some oe/\oe.cls=cls/\oe.dict=dx/\oe.data= .fields vs/\vs[1]? =some (match tb with|none=>.none|some T=>.ref T)
 tr:∀T,tb=some T->T≠e/\∃oT ts fl,h.get? T=some oT/\oT.data= .fields ts/\ts[3]? =some fl
ПZt7:Б am->А am
 |none=>[]
 |some T=>[T]
structure Noted(l:А am)(h h':dr)(e:am)(cls:ah)(dx tb:Б am)(T:am):В where
 keep:∀b o,b≠e->b∉Zt7 tb->b∉l->h.get? b=some o->h'.get? b=some o
 slot:∀b o,b∈l->h.get? b=some o->∃sl,h'.get? b=some {o with slots:=sl}
 new:h.get? T=none\/some T=tb
 r:Raised h' e cls dx (some T)
ПCX1(P:bu)(w:cj):CXT:=fun outer H s E e s'=>∃(a:am) (cls:ah) (dx:Б am) (T:am) (H':Hp),e= .ref a/\s'.os=s.os/\AllBare s'.gens/\Un (frs outer) [] H H' s.heap s'.heap/\Cm P w H' s'.heap/\
 Raised s'.heap a cls dx (some T)/\s.heap.get? a=none/\s.heap.get? T=none/\H' a=none/\H' T=none/\E cls dx H'
ПZt8(X:Cx)(EX:XK):Prop:=∀(pins:А (am×Obj)) (σ:St) (H:Hp) (s:ak) (e:am) (cls:ah) (dx tb:Б am),Inv X pins σ H s->Raised s.heap e cls dx tb->X.s₀.heap.get? e=none->H e=none->
 (∀T,tb=some T->X.s₀.heap.get? T=none/\H T=none)->EX cls dx H->X.xe (.ref e) s
abbrev VEB:А Value:=[.type "ValueError",.type "Exception",.type "BaseException",.type "object"]
ПZua(EX:XK)(C:am)(t:TA):TS:=fun _ σ H=>t σ H fun vs H1=>vs.length<=sizeLine/\EX (.ref C) none H1
noncomputable abbrev EXT:=ah->Б am->St->Hp->В
ПZsr(X:Cx)(EX:EXT):Prop:=∀(pins:А (am×Obj)) (σ:St) (H:Hp) (s:ak) (e:am) (cls:ah) (dx:Б am) (T:am),Inv X pins σ H s->Raised s.heap e cls dx (some T)->X.s₀.heap.get? e=none->H e=none->
 X.s₀.heap.get? T=none->H T=none->(∀p∈X.pn++pins,p.1≠e/\p.1≠T)->(e≠X.env.locals/\T≠X.env.locals)->(∀x c,X.env.cells.lookup x=some c->c≠e/\c≠T)->EX cls dx σ H->X.xe (.ref e) s
ПZwz(X:Cx)(EX:EXT):Prop:=∀(pins:А (am×Obj)) (σ:St) (H:Hp) (s:ak) (e:ah) (s':ak),Inv X pins σ H s->CX1 X.prog X.w X.stack H s (fun cls od H'=>EX cls od σ H') e s'->X.xe e s'
ПZub(sp:Sp)(EX:EXT)(t:TA):TE:=fun σ H Q=>t σ H fun vs H1=>sp vs H1 Q fun cls od H'=>EX cls od σ H'
structure Air(X:Cx)(pins:А (am×Obj))(H:Hp)(s:ak)(e:am)(cls:ah)(dx:Б am)(T:am):В where
 r:Raised s.heap e cls dx (some T)
 e0:X.s₀.heap.get? e=none
 eH:H e=none
 t0:X.s₀.heap.get? T=none
 tH:H T=none
 pe:∀p∈X.pn++pins,p.1≠e/\p.1≠T
 le:e≠X.env.locals/\T≠X.env.locals
 ce:∀x c,X.env.cells.lookup x=some c->c≠e/\c≠T
noncomputable abbrev Cx.inTry(X:Cx)(pn:А (am×Obj))(xe:ah->ak->В):Cx:={X with pn:=pn,xe:=xe}
noncomputable abbrev Cx.inSuite(X:Cx)(a:am):Cx:={X with A:=X.A.mark (some (.ref a)),calm:=false,xe:=fun _ _=>False}
section
variable{X:Cx}{pins:А (am×Obj)}{σ:St}{H:Hp}{s:ak}{e T:am}{cls:ah}{dx:Б am}{xe:ah->ak->В}
ПIj(a C:am)(dx:Б am):dr->Prop:=fun h=>∃o,h.get? a=some o/\o.cls= .ref C/\o.dict=dx/\PySem.W.notCls o=true
end
set_option genInjectivity false in
structure Hd where
 x:Str
 np:Pos
 nm:Б (Str×Г)
 b0:Stmt
 suite:А Stmt
 pos:Pos
 B:am
 t:TS
ПHd.ast(h:Hd):ExceptHandler:=.ExceptHandler (some (.Name h.x h.np)) (h.nm.map (·.1)) (h.b0::h.suite) h.pos
ПYz.but(D:Yz)(i:Г):Yz:={nx:=fun σ H=>D.nx (σ.set i none) H,bk:=fun σ H=>D.bk (σ.set i none) H,ct:=fun σ H=>D.ct (σ.set i none) H,rt:=D.rt}
ПHd.run(h:Hd)(C:am)(dx:Б am)(D:Yz)(σ:St)(H:Hp):Prop:=match h.nm with
 |none=>h.t D σ H
 |some (_,i)=>∀a,H a=none->h.t (D.but i) (σ.set i (some (.ref a))) (Z5 H a (.ext (Ij a C dx)))
ПZj6(K:af)(C:am):А Hd->Б Hd
 | []=>none
 |h::r=>match PySem.W.mroIn K C (.ref h.B)with
  |some true=>some h
  |some false=>Zj6 K C r
  |none=>none
set_option genInjectivity false in
structure Hd.Ok(X:Cx)(h:Hd):В where
 gl:Gl X h.x
 mg:X.mg h.x=some (.ref h.B)
 ty:PySem.W.typeIn X.K (.ref h.B)=some (.type "type")
 cl:PySem.W.isClsIn X.K h.B=true
 bs:PySem.W.mroIn X.K h.B (.type "BaseException")=some true
 db:(h.x==("__debug__":Str))=false
 nm:∀n i,h.nm=some (n,i)->X.N.Nodup/\X.N[i]? =some n/\Loc X.env.scope n/\X.env.kindOf n=some .local/\X.env.scope.names.lookup n=some .local
 su:∀a,Gp (X.inSuite a) (h.b0::h.suite) h.t
section
variable{X:Cx}{pins:А (am×Obj)}{σ:St}{H:Hp}{s:ak}{e T C:am}{dx:Б am}{D:Yz}
ПZzb(K:af)(tb:EXT->TS)(hs:А Hd):TS:=fun D σ H=>tb (fun cls dx σ' H'=>∃C h,cls= .ref C/\Zj6 K C hs=some h/\h.run C dx D σ' H') D σ H
end
end L2
namespace L2
open PySem PySem.Spec PySem.Calls PyProof.Rows Builtin.ObjectAttr Builtin.Getset_descriptor
structure ExcKit(K:af)(C:am):В where
 cl:PySem.W.isClsIn K C=true
 ga:PySem.W.findIn K (.ref C) "__getattribute__"=some (some (.builtin "BaseException.__getattribute__"))
 gt:PySem.W.findIn K (.ref C) "__getattr__"=some none
 ca:PySem.W.findIn K (.ref C) "__class__"=some (some (.builtin "object.__class__"))
 gs:PySem.W.specialIn K (.builtin "object.__class__") "__get__"=some (some (.builtin "getset_descriptor.__get__"))
 tk:PySem.W.takesIn K (.builtin "object.__class__")=some true
 ob:PySem.W.mroIn K C (.type "object")=some true
 be:PySem.W.mroIn K C (.type "BaseException")=some true
section
variable{X:Cx}
ПZzc(K:af)(c:V)(cv:ah):А V->Hp->VK->Prop:=fun xs H Q=>∃a C dx b,xs=[.ref a,c]/\H a=some (.ext (Ij a C dx))/\ExcKit K C/\PySem.W.kitOne K (.ref C) cv=some b/\Q (.bl b) H
ПZw0(K:af)(Bs:А am):А V->Hp->VK->Prop:=fun xs H Q=>∃a C dx p b,xs=[.ref a,.ref p]/\H a=some (.ext (Ij a C dx))/\ExcKit K C/\H p=some (.tup (Bs.map V.ref))/\PySem.W.kitAny K (.ref C) (Bs.map bv)=some b/\Q (.bl b) H
end
end L2
namespace L2
open PySem PySem.Spec PyProof.Rows
noncomputable abbrev Cx.blockX(X:Cx)(N':А Str)(scope:Scope)(C:am)(s₀:ak)(H₀:Hp)(ex:А am)(xe:ah->ak->В):Cx:=
 {X with N:=N',env:=compEnvC scope (Rx X.env.cells scope.names []) C X.env,s₀:=s₀,H₀:=H₀,outer:=X.stack,stack:=X.stack,ex:=ex,fn:=fun _=>false,pn:=[],xe:=xe}
section
variable{X:Cx}{N':А Str}{scope:Scope}{src:А BSrc}{pins:А (am×Obj)}{σ:St}{H:Hp}{s:ak}{C acc:am}{fp:А am}
ПZuc(src:А BSrc)(wi:TI)(g:TG)(tt:TT)(te:EXT->TE)(EX:EXT):TE:=fun σ H Q=>wi σ H fun J H1=>∀acc,H1 acc=none->
 ∃W:Г->Г->St->Hp->В,(∃m,W 0 m (Ss src σ acc) (Z5 H1 acc (.lst [])))/\∀i m σ' H,W i m σ' H->(J.stop i H/\Q (.ref acc) H)\/
  (J.go i H/\∀x H',J.yld i H x H'->g x σ' H' fun σ2 H2=>tt σ2 H2 fun b H3=>if b=true then te (fun cls od _ H'=>EX cls od σ H') σ2 H3 fun y H4=>Qw (.ref acc) [y] H4 fun _ H5=>∃m',m'<m/\W (i+1) m' σ2 H5 else∃m',m'<m/\W (i+1) m' σ2 H3)
end
end L2
namespace PySem
open Sem (wp)
end PySem
namespace L2
open PySem PySem.Spec PySem.Calls PyProof.Rows Builtin.ObjectAttr
ПZc7:А ah->Bool
 | .ref _::r=>Zc7 r
 |l=>l==VEB
structure ExcSet(K:af)(C:am)(name:Str):В where
 sa:PySem.W.findIn K (.ref C) "__setattr__"=some (some (.builtin "object.__setattr__"))
 ob:PySem.W.mroIn K C (.type "object")=some true
 na:PySem.W.findIn K (.ref C) name=some none
 mr:((PySem.W.clsIn K C).any fun cd=>Zc7 cd.mro&&cd.hasDict)=true
ПBq(a C:am)(dx:Б am):dr->Prop:=fun h=>∃o t,h.get? a=some o/\o.cls= .ref C/\o.dict=dx/\o.data= .fields #[.ref t,.none,.none,.none,.bool false,.none]
end L2
namespace L2
open PySem PySem.Spec PyProof.Rows
ПZud(K:af)(C f:am):Bool:=match K.lookup C with
 |some ⟨.type "type",_,.cls cd,sl⟩=>(match cd.mro,sl.toList with
  | .ref B::r,[_,_,_,_,some (.builtin i),_]=>B==C&&i=="ValueError.__new__" && !cd.hasDel&&PySem.W.tailIn K VEB r&&PySem.W.nsOkIn K cd.ns&&cy K cd.ns "__init__"==some (some (.ref f))
  |_,_=>false)
 |_=>false
ПZss(C f:am)(h:dr):Prop:=∃(bm:А ah) (N:am) (nm q:Str) (bs:А ah) (hdct:Bool) (sn:А Str) (sub:А ah) (ab:Bool) (col:Б Bool) (dd:Б am) (k0 k1 k2 k3 k5:Б ah) (mN:Str->Б ah),
 h.get? C=some (excClassObj nm q C N bs bm hdct sn sub ab col dd k0 k1 k2 k3 k5 "ValueError.__new__")/\h.Ns N mN/\mN "__init__"=some (.ref f)/\OwnTail h VEB bm
Пdrop(H:Hp)(e:am):Hp:=fun b=>if b=e then none else H b
structure ExcGet(K:af)(C:am)(f:Str):В where
 kit:ExcKit K C
 na:PySem.W.findIn K (.ref C) f=some none
 mr:((PySem.W.clsIn K C).any fun cd=>cd.hasDict)=true
ПZue(K:af)(ta:TE)(f:Str):TE:=fun σ H Q=>ta σ H fun x H1=>∃a C dx fs v,x= .ref a/\H1 a=some (.ext (Ij a C (some dx)))/\H1 dx=some (.xd fs)/\ExcGet K C f/\fs.lookup f=some v/\Q v H1
section
variable{X:Cx}{e o value:ci}{f:Str}{pos pos':Pos}{ta tv:TE}
ПZuf(K:af)(ta tv:TE)(f:Str):TS:=fun D σ H=>tv σ H fun y H1=>ta σ H1 fun x H2=>∃a C,x= .ref a/\H2 a=some (.ext (Bq a C none))/\ExcSet K C f/\
 ∀dx,H2 dx=none->D.nx σ (Z5 (Z5 H2 dx (.xd [(f,y)])) a (.ext (Bq a C (some dx))))
end
ПZst(EX:XK)(C:am)(sp:Sp)(t:TA):TS:=fun _ σ H=>t σ H fun vs H1=>vs.length<=sizeLine/\∀e,H1 e=none->sp (.ref e::vs) (Z5 H1 e (.ext (Bq e C none))) (fun v H2=>v= .non/\∃dx,H2 e=some (.ext (Bq e C dx))/\EX (.ref C) dx (drop H2 e)) E0
end L2
namespace DL
open PySem L2
variable{K:af}
inductive D where
 |non|bl (b:Bool)|int (i:Int)|str (x:Str)
 |tup (xs:А D)|lst (xs:А D)
 |dK (ks:А Key) (vs:А D)|dT (ks:А (А Key)) (vs:А D)|dX (ks:А Zk) (vs:А D)
 |exc (c:Str) (ks:А Str) (vs:А D)
ПTr(K:af)(c:Str)(C:am):Prop:=cy K b6 c=some (some (.ref C))
ПKB(F:Hp)(kvs:А (А Key×V))(bs:А am):Prop:=Paired (fun(p:А Key×V) (b:am)=>F b=some (.tup (p.1.map kV))) kvs bs
ПKN(F:Hp)(kvs:А (Zk×V))(bs:А am):Prop:=Paired (fun(p:Zk×V) (b:am)=>U1 F p.1 b) kvs bs
mutual
inductive Rep(K:af)(F:Hp):D->V->В where
 |non:Rep K F .non .non
 |bl (b:Bool):Rep K F (.bl b) (.bl b)
 |int (i:Int):Rep K F (.int i) (.int i)
 |str (x:Str):Rep K F (.str x) (.str x)
 |tup {a:am} {xs:А D} {vs:А V} (h:F a=some (.tup vs)) (r:Reps K F xs vs):Rep K F (.tup xs) (.ref a)
 |lst {a:am} {xs:А D} {vs:А V} (h:Ws K F a vs) (o:F a=some (.lst vs)\/∀d∈xs,∃i,d= .int i) (r:Reps K F xs vs):Rep K F (.lst xs) (.ref a)
 |dK {a:am} {ks:А Key} {ds:А D} {kvs:А (Key×V)} {ep:Г} (h:F a=some (.dK kvs ep)) (e:kvs.map (·.1)=ks) (r:Reps K F ds (kvs.map (·.2))):Rep K F (.dK ks ds) (.ref a)
 |dT {a:am} {ks:А (А Key)} {ds:А D} {kvs:А (А Key×V)} {ep:Г} {bs:А am} (h:F a=some (.dT kvs ep bs)) (kb:KB F kvs bs) (e:kvs.map (·.1)=ks) (r:Reps K F ds (kvs.map (·.2))):Rep K F (.dT ks ds) (.ref a)
 |dX {a:am} {ks:А Zk} {ds:А D} {kvs:А (Zk×V)} {ep:Г} {bs:А am} (h:F a=some (.dN kvs ep bs)) (kb:KN F kvs bs) (e:kvs.map (·.1)=ks) (r:Reps K F ds (kvs.map (·.2))):Rep K F (.dX ks ds) (.ref a)
 |exc {a C:am} {c:Str} (cl:Tr K c C) (h:F a=some (.ext (Ij a C none))):Rep K F (.exc c [] []) (.ref a)
 |exd {a C dx:am} {c:Str} {ks:А Str} {ds:А D} {fs:А (Str×V)} (cl:Tr K c C) (h:F a=some (.ext (Ij a C (some dx)))) (hx:F dx=some (.xd fs)) (e:fs.map (·.1)=ks) (r:Reps K F ds (fs.map (·.2))):Rep K F (.exc c ks ds) (.ref a)
inductive Reps(K:af)(F:Hp):А D->А V->В where
 |nil:Reps K F [] []
 |cons {d:D} {v:V} {ds:А D} {vs:А V} (h:Rep K F d v) (t:Reps K F ds vs):Reps K F (d::ds) (v::vs)
end
ОKB.mono{F F':Hp}(s:Zf F F'){kvs:А (А Key×V)}{bs:А am}(h:KB F kvs bs):KB F' kvs bs:=Paired.mapP h fun _ _ z=>s _ _ z
ОKN.mono{F F':Hp}(s:Zf F F'){kvs:А (Zk×V)}{bs:А am}(h:KN F kvs bs):KN F' kvs bs:=Paired.mapP h fun _ _ z=>z.mono fun _ _ q=>s _ _ q
ОZc8{F F':Hp}(s:Zf F F'){a:am}{u:HO}(h:Rd F a u):Rd F' a u:=by
 rcases h with h|⟨o,h⟩
 ·E .inl (s _ _ h)
 ·E .inr ⟨o,s _ _ h⟩
ОY1{F F':Hp}(s:Zf F F'){a:am}{xs:А V}(h:Ws K F a xs):Ws K F' a xs:=by
 rcases h with h|h
 ·E .inl (Zc8 s h)
 ·E .inr h
ОW0{F F':Hp}(s:Zf F F'){a:am}{xs:А V}(h:Uh K F a xs):Uh K F' a xs:=by
 rcases h with h|h
 ·E .inl (Zc8 s h)
 ·E .inr h
ОO8{F:Hp}{a:am}{vs:А V}(h:F a=some (.tup vs)):Uh K F a vs:=.inl (.inl h)
mutual
ОRep.mono{F F':Hp}(s:Zf F F'):∀{d:D} {v:V},Rep K F d v->Rep K F' d v
 |_,_,.non=>.non
 |_,_,.bl b=>.bl b
 |_,_,.int i=>.int i
 |_,_,.str x=>.str x
 |_,_,.tup h r=>.tup (s _ _ h) (Reps.mono s r)
 |_,_,.lst h o r=>.lst (Y1 s h) (o.imp (fun z=>s _ _ z) id) (Reps.mono s r)
 |_,_,.dK h e r=>.dK (s _ _ h) e (Reps.mono s r)
 |_,_,.dT h kb e r=>.dT (s _ _ h) (kb.mono s) e (Reps.mono s r)
 |_,_,.dX h kb e r=>.dX (s _ _ h) (kb.mono s) e (Reps.mono s r)
 |_,_,.exc cl h=>.exc cl (s _ _ h)
 |_,_,.exd cl h hx e r=>.exd cl (s _ _ h) (s _ _ hx) e (Reps.mono s r)
ОReps.mono{F F':Hp}(s:Zf F F'):∀{ds:А D} {vs:А V},Reps K F ds vs->Reps K F' ds vs
 |_,_,.nil=>.nil
 |_,_,.cons h t=>.cons (Rep.mono s h) (Reps.mono s t)
end
ОReps.length{F:Hp}{ds:А D}:∀{vs:А V},Reps K F ds vs->ds.length=vs.length:=by
 induction ds with
 |nil=>intro vs h;C h;rfl
 |cons d ds ih=>
  intro vs h
  cases h with
  |cons _ t=>rw[bn,bn,ih t]
ОReps.append{F:Hp}{ds es:А D}{vs us:А V}(h:Reps K F ds vs)(q:Reps K F es us):Reps K F (ds++es) (vs++us):=by
 induction ds generalizing vs with
 |nil=>C h;E q
 |cons d ds ih=>
  cases h with
  |cons h t=>E .cons h (ih t)
ОReps.snoc{F:Hp}{ds:А D}{vs:А V}{d:D}{v:V}(r:Reps K F ds vs)(h:Rep K F d v):Reps K F (ds++[d]) (vs++[v]):=r.append (.cons h .nil)
ОReps.get{F:Hp}:∀{ds:А D} {vs:А V} {i:Г} {d:D},Reps K F ds vs->ds[i]? =some d->∃v,vs[i]? =some v/\Rep K F d v
 |_,_,_,_,.nil,e=>by simp at e
 |_,_,0,_,.cons h t,e=>by simp at e;subst e;E⟨_,rfl,h⟩
 |_,_,i+1,d,.cons h t,e=>by
  O⟨v,h1,h2⟩:=Reps.get (i:=i) (d:=d) t (by simpa using e)
  E⟨v,by simpa using h1,h2⟩
ОReps.getV{F:Hp}:∀{ds:А D} {vs:А V} {i:Г} {v:V},Reps K F ds vs->vs[i]? =some v->∃d,ds[i]? =some d/\Rep K F d v
 |_,_,_,_,.nil,e=>by simp at e
 |_,_,0,_,.cons h t,e=>by simp at e;subst e;E⟨_,rfl,h⟩
 |_,_,i+1,d,.cons h t,e=>by
  O⟨v,h1,h2⟩:=Reps.getV (i:=i) (v:=d) t (by simpa using e)
  E⟨v,by simpa using h1,h2⟩
ОReps.take{F:Hp}:∀{ds:А D} {vs:А V} (n:Г),Reps K F ds vs->Reps K F (ds.take n) (vs.take n)
 |_,_,0,_=>.nil
 |_,_,_+1,.nil=>.nil
 |_,_,n+1,.cons h t=>.cons h (t.take n)
ОReps.drop{F:Hp}:∀{ds:А D} {vs:А V} (n:Г),Reps K F ds vs->Reps K F (ds.drop n) (vs.drop n)
 |_,_,0,r=>r
 |_,_,_+1,.nil=>.nil
 |_,_,n+1,.cons h t=>t.drop n
inductive SV where
 |fz (d:D)|ol (xs:А D)|oK (ks:А Key) (vs:А D)|oT (ks:А (А Key)) (vs:А D)|oN (ks:А Key) (xss:А (А D))|oL (pin:Б am) (xss:А (А D))|oQ (pin:am) (ks:А Key) (vs:А D)|oX (ks:А Zk) (xss:А (А D))
РSV.toD:SV->D
 | .fz d=>d
 | .ol xs=>.lst xs
 | .oK ks vs=>.dK ks vs
 | .oT ks vs=>.dT ks vs
 | .oN ks xss=>.dK ks (xss.map D.lst)
 | .oL _ xss=>.lst (xss.map D.lst)
 | .oQ _ ks vs=>.dK ks vs
 | .oX ks xss=>.dX ks (xss.map D.lst)
noncomputable abbrev Zq:=А (am×HO)
inductive Kids(K:af)(F:Hp):А (А D)->А V->Zq->В where
 |nil:Kids K F [] [] []
 |cons {xs:А D} {xss:А (А D)} {b:am} {vs:А V} {ws:А V} {ns:Zq} (r:Reps K F xs vs) (t:Kids K F xss ws ns):Kids K F (xs::xss) (.ref b::ws) ((b,.lst vs)::ns)
inductive Shape(K:af)(F:Hp):SV->V->Zq->В where
 |fz {d:D} {v:V} (h:Rep K F d v):Shape K F (.fz d) v []
 |ol {a:am} {xs:А D} {vs:А V} (r:Reps K F xs vs):Shape K F (.ol xs) (.ref a) [(a,.lst vs)]
 |oK {a:am} {ks:А Key} {ds:А D} {kvs:А (Key×V)} {ep:Г} (e:kvs.map (·.1)=ks) (r:Reps K F ds (kvs.map (·.2))):Shape K F (.oK ks ds) (.ref a) [(a,.dK kvs ep)]
 |oT {a:am} {ks:А (А Key)} {ds:А D} {kvs:А (А Key×V)} {ep:Г} {bs:А am} (kb:KB F kvs bs) (e:kvs.map (·.1)=ks) (r:Reps K F ds (kvs.map (·.2))):Shape K F (.oT ks ds) (.ref a) [(a,.dT kvs ep bs)]
 |oN {a:am} {ks:А Key} {xss:А (А D)} {kvs:А (Key×V)} {ns:Zq} {ep:Г} (e:kvs.map (·.1)=ks) (r:Kids K F xss (kvs.map (·.2)) ns):Shape K F (.oN ks xss) (.ref a) ((a,.dK kvs ep)::ns)
 |oL {pin:Б am} {a:am} {xss:А (А D)} {ws:А V} {ns:Zq} (hp:∀b,pin=some b->b=a) (r:Kids K F xss ws ns):Shape K F (.oL pin xss) (.ref a) ((a,.lst ws)::ns)
 |oQ {a:am} {ks:А Key} {ds:А D} {kvs:А (Key×V)} {ep:Г} (e:kvs.map (·.1)=ks) (r:Reps K F ds (kvs.map (·.2))):Shape K F (.oQ a ks ds) (.ref a) [(a,.dK kvs ep)]
 |oX {a:am} {ks:А Zk} {xss:А (А D)} {kvs:А (Zk×V)} {ns:Zq} {ep:Г} {bs:А am} (kb:KN F kvs bs) (e:kvs.map (·.1)=ks) (r:Kids K F xss (kvs.map (·.2)) ns):Shape K F (.oX ks xss) (.ref a) ((a,.dN kvs ep bs)::ns)
ОKids.mono{F F':Hp}(s:Zf F F'){xss:А (А D)}{ws:А V}{ns:Zq}(h:Kids K F xss ws ns):Kids K F' xss ws ns:=by
 induction h with
 |nil=>E .nil
 |cons r _ ih=>E .cons (r.mono s) ih
ОShape.mono{F F':Hp}(s:Zf F F'){sv:SV}{v:V}{ns:Zq}(h:Shape K F sv v ns):Shape K F' sv v ns:=by
 cases h with
 |fz h=>E .fz (h.mono s)
 |ol r=>E .ol (r.mono s)
 |oK e r=>E .oK e (r.mono s)
 |oT kb e r=>E .oT (kb.mono s) e (r.mono s)
 |oN e r=>E .oN e (r.mono s)
 |oL hp r=>E .oL hp (r.mono s)
 |oQ e r=>E .oQ e (r.mono s)
 |oX kb e r=>E .oX (kb.mono s) e (r.mono s)
ПQb(F:Hp):Zq->Hp
 | []=>F
 |p::r=>Z5 (Qb F r) p.1 p.2
noncomputable abbrev Cp(ns:Zq):А Addr:=ns.map (·.1)
ОQ1{F:Hp}{b:am}:∀{ns:Zq},b∉Cp ns->Qb F ns b=F b
 | [],_=>rfl
 |p::r,h=>by
  have h1:b≠p.1:=fun e=>h (by rw[e];E aj)
  have h2:b∉Cp r:=fun e=>h (ar _ e)
  show Z5 (Qb F r) p.1 p.2 b=F b
  rw[Zm h1,Q1 h2]
ОTs{F:Hp}{p:am×HO}:∀{ns:Zq},(Cp ns).Nodup->p∈ns->Qb F ns p.1=some p.2
 | [],_,h=>nomatch h
 |q::r,nd,h=>by
  O⟨n1,n2⟩:=fu.mp nd
  show Z5 (Qb F r) q.1 q.2 p.1=some p.2
  rcases bo.mp h with e|e
  ·subst e;E Z3
  ·rw[Zm fun z=>n1 (a6.mpr ⟨p,e,z⟩)]
   E Ts n2 e
ОWt{F:Hp}{ns:Zq}(h:∀p∈ns,F p.1=none):Zf F (Qb F ns):=fun b o e=>by
 by_cases hb:b∈Cp ns
 ·O⟨p,hp,ep⟩:=a6.mp hb
  subst ep
  rw[h p hp]at e;C e
 ·rw[Q1 hb];E e
ОKv{F H:Hp}{ns:Zq}(nd:(Cp ns).Nodup)(le:Zf F H)(h:∀p∈ns,H p.1=some p.2):Zf (Qb F ns) H:=fun b o e=>by
 by_cases hb:b∈Cp ns
 ·O⟨p,hp,ep⟩:=a6.mp hb
  subst ep
  rw[Ts nd hp]at e
  C e
  E h p hp
 ·rw[Q1 hb]at e;E le b o e
ОNy{Z:Hp×Hp}{F:Hp}{ns:Zq}(nd:(Cp ns).Nodup)(fro:∀(b:am) (o:HO),F b=some o->Z.2 b=some o\/Z.1 b=none)(hz:∀p∈ns,Z.1 p.1=none):∀(b:am) (o:HO),Qb F ns b=some o->Z.2 b=some o\/Z.1 b=none:=fun b o e=>by
 by_cases hb:b∈Cp ns
 ·O⟨p,hp,ep⟩:=a6.mp hb
  subst ep
  E .inr (hz p hp)
 ·rw[Q1 hb]at e;E fro b o e
ОKids.rep{F F':Hp}(s:Zf F F'):∀{xss:А (А D)} {ws:А V} {ns:Zq},Kids K F xss ws ns->(∀p∈ns,F' p.1=some p.2)->Reps K F' (xss.map D.lst) ws
 |_,_,_,.nil,_=>.nil
 |_,_,_,.cons r t,h=>.cons (.lst (.inl (.inl (h _ aj))) (.inl (h _ aj)) (r.mono s)) (t.rep s fun p hp=>h p (ar _ hp))
ОShape.rep{F:Hp}{sv:SV}{v:V}{ns:Zq}(h:Shape K F sv v ns)(nd:(Cp ns).Nodup)(hn:∀p∈ns,F p.1=none):Rep K (Qb F ns) sv.toD v:=by
 have s:=Wt hn
 have a:∀p∈ns,Qb F ns p.1=some p.2:=fun p hp=>Ts nd hp
 cases h with
 |fz h=>E h
 |ol r=>E .lst (.inl (.inl (a (_,_) aj))) (.inl (a (_,_) aj)) (r.mono s)
 |oK e r=>E .dK (a (_,_) aj) e (r.mono s)
 |oT kb e r=>E .dT (a (_,_) aj) (kb.mono s) e (r.mono s)
 |oN e r=>E .dK (a (_,_) aj) e (r.rep s fun p hp=>a p (ar _ hp))
 |oL _ r=>E .lst (.inl (.inl (a (_,_) aj))) (.inl (a (_,_) aj)) (r.rep s fun p hp=>a p (ar _ hp))
 |oQ e r=>E .dK (a (_,_) aj) e (r.mono s)
 |oX kb e r=>E .dX (a (_,_) aj) (kb.mono s) e (r.rep s fun p hp=>a p (ar _ hp))
noncomputable abbrev Yf:=А (Б SV)
set_option genInjectivity false in
structure Ent(K:af)where
 h:Hp
 f:Hp
 x:EXT
noncomputable abbrev ent(H F:Hp):Ent K:=⟨H,F,fun _ _ _ _=>False⟩
set_option genInjectivity false in
structure Exn where
 c:Str
 ks:А Str:=[]
 vs:А D:=[]
ПKw(K:af)(F:Hp)(e:Exn)(cls:ah)(od:Б am):Prop:=∃C,Tr K e.c C/\cls= .ref C/\match od with
 |none=>e.ks=[]/\e.vs=[]
 |some dx=>∃fs:А (Str×V),F dx=some (.xd fs)/\fs.map (·.1)=e.ks/\Reps K F e.vs (fs.map (·.2))
structure SR(Z:Ent K)(F H:Hp)(σ:St)(δ:Yf)(own:Г->Zq):В where
 le:Zf F H
 fro:∀(b:am) (o:HO),F b=some o->Z.f b=some o\/Z.h b=none
 old:Zf Z.h H
 len:σ.length=δ.length
 at':∀(i:Г) (sv:SV),δ[i]? =some (some sv)->∃v,σ[i]? =some (some v)/\Shape K F sv v (own i)
 nod:∀i:Г,(Cp (own i)).Nodup
 ok:∀(i:Г) (p:am×HO),p∈own i->F p.1=none/\Z.h p.1=none/\H p.1=some p.2
 sep:∀(i j:Г) (p q:am×HO),i≠j->p∈own i->q∈own j->p.1≠q.1
inductive RV where
 |tmp (sv:SV)|bw (i:Г)
structure TmpOk(Z:Ent K)(F H:Hp)(own:Г->Zq)(sv:SV)(v:V)(ns:Zq):В where
 sh:Shape K F sv v ns
 nd:(Cp ns).Nodup
 ok:∀p∈ns,F p.1=none/\Z.h p.1=none/\H p.1=some p.2
 sep:∀(i:Г) (p q:am×HO),p∈ns->q∈own i->p.1≠q.1
ПHf(Z:Ent K)(F H:Hp)(σ:St)(own:Г->Zq):RV->V->В
 | .tmp sv,v=>∃ns,TmpOk Z F H own sv v ns
 | .bw i,v=>σ[i]? =some (some v)
ОTmpOk.fz{Z:Ent K}{F H:Hp}{own:Г->Zq}{d:D}{v:V}(h:Rep K F d v):TmpOk Z F H own (.fz d) v []:=
 ⟨.fz h,c7,fun _ h=>(nomatch h),fun _ _ _ h=>(nomatch h)⟩
ОQe{H:Hp}{p:am}{o:HO}(h:H p=none):Zf H (Z5 H p o):=fun b u e=>by
 rw[Zm fun z=>by rw[z,h]at e;cases e];E e
ОSR.grow{Z:Ent K}{F H H':Hp}{σ:St}{δ:Yf}{own:Г->Zq}(s:SR Z F H σ δ own)(h:Zf H H'):SR Z F H' σ δ own:=
 ⟨s.le.trans h,s.fro,s.old.trans h,s.len,s.at',s.nod,fun i p hp=>let⟨a,b,c⟩:=s.ok i p hp;⟨a,b,h _ _ c⟩,s.sep⟩
ОSR.addF{Z:Ent K}{F H:Hp}{σ:St}{δ:Yf}{own:Г->Zq}{ns:Zq}(s:SR Z F H σ δ own)(nd:(Cp ns).Nodup)(hn:∀p∈ns,F p.1=none)(hH:∀p∈ns,H p.1=some p.2)(hz:∀p∈ns,Z.h p.1=none)
  (hs:∀(i:Г) (p q:am×HO),p∈ns->q∈own i->p.1≠q.1):SR Z (Qb F ns) H σ δ own:=by
 have sm:=Wt hn
 R⟨Kv nd s.le hH,Ny (Z:=(Z.h,Z.f)) nd s.fro hz,s.old,s.len,fun i sv e=>?_,s.nod,fun i p hp=>?_,s.sep⟩
 ·O⟨v,h1,h2⟩:=s.at' i sv e
  E⟨v,h1,h2.mono sm⟩
 ·O⟨a,b,c⟩:=s.ok i p hp
  R⟨?_,b,c⟩
  rw[Q1 fun hb=>?_]
  ·E a
  ·O⟨q,hq,e⟩:=a6.mp hb
   E hs i q p hq hp e
ОSR.settle{Z:Ent K}{F H:Hp}{σ:St}{δ:Yf}{own:Г->Zq}{sv:SV}{v:V}{ns:Zq}(s:SR Z F H σ δ own)(t:TmpOk Z F H own sv v ns):
  ∃F1,Zf F F1/\SR Z F1 H σ δ own/\Rep K F1 sv.toD v:=
 ⟨Qb F ns,Wt fun p hp=>(t.ok p hp).1,s.addF t.nd (fun p hp=>(t.ok p hp).1) (fun p hp=>(t.ok p hp).2.2) (fun p hp=>(t.ok p hp).2.1) t.sep,t.sh.rep t.nd fun p hp=>(t.ok p hp).1⟩
Пput(own:Г->Zq)(i:Г)(ns:Zq):Г->Zq:=fun j=>if j=i then ns else own j
ОZ4{own:Г->Zq}{i:Г}{ns:Zq}:put own i ns i=ns:=Е rfl
ОYb{own:Г->Zq}{i j:Г}{ns:Zq}(h:j≠i):put own i ns j=own j:=Д h
ОSR.freeze{Z:Ent K}{F H:Hp}{σ:St}{δ:Yf}{own:Г->Zq}{i:Г}{sv:SV}(s:SR Z F H σ δ own)(e:δ[i]? =some (some sv)):
  ∃F1 v,Zf F F1/\σ[i]? =some (some v)/\Rep K F1 sv.toD v/\SR Z F1 H σ (δ.set i (some (.fz sv.toD))) (put own i []):=by
 O⟨v,h1,h2⟩:=s.at' i sv e
 have hn:∀p∈own i,F p.1=none:=fun p hp=>(s.ok i p hp).1
 have sm:=Wt hn
 have hi:i<δ.length:=(ax.mp e).1
 R⟨Qb F (own i),v,sm,h1,h2.rep (s.nod i) hn,⟨Kv (s.nod i) s.le fun p hp=>(s.ok i p hp).2.2,Ny (Z:=(Z.h,Z.f)) (s.nod i) s.fro fun p hp=>(s.ok i p hp).2.1,s.old,by rw[List.length_set];E s.len,fun j sw ej=>?_,fun j=>?_,fun j p hp=>?_,fun j k p q hjk hp hq=>?_⟩⟩
 ·by_cases hj:j=i
  ·subst hj
   rw[d5 hi]at ej
   C ej
   rw[Z4]
   E⟨v,h1,.fz (h2.rep (s.nod j) hn)⟩
  ·rw[d6 (Ne.symm hj)]at ej
   O⟨w,g1,g2⟩:=s.at' j sw ej
   rw[Yb hj]
   E⟨w,g1,g2.mono sm⟩
 ·by_cases hj:j=i
  ·subst hj;rw[Z4];E c7
  ·rw[Yb hj];E s.nod j
 ·by_cases hj:j=i
  ·subst hj;rw[Z4]at hp;E nomatch hp
  ·rw[Yb hj]at hp
   O⟨a,b,c⟩:=s.ok j p hp
   R⟨?_,b,c⟩
   rw[Q1 fun hb=>?_]
   ·E a
   ·O⟨q,hq,z⟩:=a6.mp hb
    E s.sep i j q p (Ne.symm hj) hq hp z
 ·by_cases hj:j=i
  ·subst hj;rw[Z4]at hp;E nomatch hp
  ·by_cases hk:k=i
   ·subst hk;rw[Z4]at hq;E nomatch hq
   ·rw[Yb hj]at hp
    rw[Yb hk]at hq
    E s.sep j k p q hjk hp hq
ОSR.store{Z:Ent K}{F H:Hp}{σ:St}{δ:Yf}{own:Г->Zq}{i:Г}{sv:SV}{v:V}{ns:Zq}(s:SR Z F H σ δ own)(t:TmpOk Z F H own sv v ns)(hi:i<σ.length):
  SR Z F H (σ.set i (some v)) (δ.set i (some sv)) (put own i ns):=by
 R⟨s.le,s.fro,s.old,by rw[List.length_set,List.length_set];E s.len,fun j sw ej=>?_,fun j=>?_,fun j p hp=>?_,fun j k p q hjk hp hq=>?_⟩
 ·by_cases hj:j=i
  ·subst hj
   have hd:j<δ.length:=by
    have:=(ax.mp ej).1
    simpa using this
   rw[d5 hd]at ej
   C ej
   rw[Z4,d5 hi]
   E⟨v,rfl,t.sh⟩
  ·rw[d6 (Ne.symm hj)]at ej
   rw[Yb hj,d6 (Ne.symm hj)]
   E s.at' j sw ej
 ·by_cases hj:j=i
  ·subst hj;rw[Z4];E t.nd
  ·rw[Yb hj];E s.nod j
 ·by_cases hj:j=i
  ·subst hj;rw[Z4]at hp;E t.ok p hp
  ·rw[Yb hj]at hp;E s.ok j p hp
 ·by_cases hj:j=i
  ·subst hj
   rw[Z4]at hp
   rw[Yb (Ne.symm hjk)]at hq
   E t.sep k p q hp hq
  ·by_cases hk:k=i
   ·subst hk
    rw[Z4]at hq
    rw[Yb hj]at hp
    E Ne.symm (t.sep j q p hq hp)
   ·rw[Yb hj]at hp
    rw[Yb hk]at hq
    E s.sep j k p q hjk hp hq
ОSR.change{Z:Ent K}{F H:Hp}{σ:St}{δ:Yf}{own:Г->Zq}{i:Г}{sv sv':SV}{a:am}{o o':HO}{v:V}{ns':Zq}(s:SR Z F H σ δ own)(e:δ[i]? =some (some sv))(hv:σ[i]? =some (some v))
  (ha:(a,o)∈own i) (hs:Shape K F sv' v ns') (hns:∀p∈ns',p=(a,o')\/(p∈own i/\p.1≠a)) (nd:(Cp ns').Nodup):SR Z F (Z5 H a o') σ (δ.set i (some sv')) (put own i ns'):=by
 O⟨fa,ha0,hHa⟩:=s.ok i (a,o) ha
 have hi:i<δ.length:=(ax.mp e).1
 R⟨fun b u eb=>?_,s.fro,fun b u eb=>?_,by rw[List.length_set];E s.len,fun j sw ej=>?_,fun j=>?_,fun j p hp=>?_,fun j k p q hjk hp hq=>?_⟩
 ·rw[Zm fun z=>by rw[z]at eb;rw[fa]at eb;cases eb];E s.le b u eb
 ·rw[Zm fun z=>by rw[z]at eb;rw[ha0]at eb;cases eb];E s.old b u eb
 ·by_cases hj:j=i
  ·subst hj
   rw[d5 hi]at ej
   C ej
   rw[Z4]
   E⟨v,hv,hs⟩
  ·rw[d6 (Ne.symm hj)]at ej
   rw[Yb hj]
   E s.at' j sw ej
 ·by_cases hj:j=i
  ·subst hj;rw[Z4];E nd
  ·rw[Yb hj];E s.nod j
 ·by_cases hj:j=i
  ·subst hj
   rw[Z4]at hp
   rcases hns p hp with z|⟨z,ne⟩
   ·subst z;E⟨fa,ha0,Z3⟩
   ·O⟨x,y,w⟩:=s.ok j p z
    E⟨x,y,by rw[Zm ne];E w⟩
  ·rw[Yb hj]at hp
   O⟨x,y,w⟩:=s.ok j p hp
   E⟨x,y,by rw[Zm (s.sep j i p (a,o) hj hp ha)];E w⟩
 ·have own':∀r∈ns',∃r'∈own i,r.1=r'.1:=fun r hr=>by
   rcases hns r hr with z|⟨z,_⟩
   ·subst z;E⟨(a,o),ha,rfl⟩
   ·E⟨r,z,rfl⟩
  by_cases hj:j=i
  ·subst hj
   rw[Z4]at hp
   rw[Yb (Ne.symm hjk)]at hq
   O⟨r',hr',er⟩:=own' p hp
   rw[er]
   E s.sep j k r' q hjk hr' hq
  ·by_cases hk:k=i
   ·subst hk
    rw[Z4]at hq
    rw[Yb hj]at hp
    O⟨r',hr',er⟩:=own' q hq
    rw[er]
    E s.sep j k p r' hjk hp hr'
   ·rw[Yb hj]at hp
    rw[Yb hk]at hq
    E s.sep j k p q hjk hp hq
end DL
namespace DL
open PySem L2
variable{K:af}
noncomputable abbrev FE:=Yf->Б (RV×Yf)
noncomputable abbrev FT:=Yf->Б (Bool×Yf)
noncomputable abbrev FA:=Yf->Б (А RV×Yf)
noncomputable abbrev FD:=Yf->Б (А D×Yf)
РSV.nested:SV->Bool
 | .oN _ _=>true
 | .oL _ _=>true
 | .oX _ _=>true
 |_=>false
РKx:RV->Yf->Б D
 | .tmp sv,_=>some sv.toD
 | .bw i,δ=>(δ[i]?.join).bind fun sv=>if sv.nested then none else some sv.toD
Рfrz:RV->Yf->Б (D×Yf)
 | .tmp sv,δ=>some (sv.toD,δ)
 | .bw i,δ=>(δ[i]?.join).bind fun sv=>some (sv.toD,δ.set i (some (.fz sv.toD)))
ОU4{δ:Yf}{i:Г}{sv:SV}(h:δ[i]?.join=some sv):δ[i]? =some (some sv):=by
 cases e:δ[i]? with
 |none=>rw[e]at h;C h
 |some o=>rw[e]at h;cases o with
  |none=>C h
  |some s=>C h;rfl
ПZc(Z:Ent K)(f:FE):TE:=fun σ H Q=>∃F δ own rv δ',SR Z F H σ δ own/\f δ=some (rv,δ')/\
 ∀v H' F' own',Zf H H'->Zf F F'->SR Z F' H' σ δ' own'->Hf Z F' H' σ own' rv v->Q v H'
ПYg(Z:Ent K)(f:FT):TT:=fun σ H Q=>∃F δ own b δ',SR Z F H σ δ own/\f δ=some (b,δ')/\
 ∀H' F' own',Zf H H'->Zf F F'->SR Z F' H' σ δ' own'->Q b H'
ПRVS(K:af)(F:Hp)(σ:St):RV->V->В
 | .tmp sv,v=>Rep K F sv.toD v
 | .bw i,v=>σ[i]? =some (some v)
inductive RVSs(K:af)(F:Hp)(σ:St):А RV->А V->В where
 |nil:RVSs K F σ [] []
 |cons {rv:RV} {v:V} {rvs:А RV} {vs:А V} (h:RVS K F σ rv v) (t:RVSs K F σ rvs vs):RVSs K F σ (rv::rvs) (v::vs)
ПO9(Z:Ent K)(f:FA):TA:=fun σ H Q=>∃F δ own rvs δ',SR Z F H σ δ own/\f δ=some (rvs,δ')/\
 ∀vs H' F' own',Zf H H'->Zf F F'->SR Z F' H' σ δ' own'->RVSs K F' σ rvs vs->Q vs H'
ПWi(Z:Ent K)(f:FD):TA:=fun σ H Q=>∃F δ own ds δ',SR Z F H σ δ own/\f δ=some (ds,δ')/\
 ∀vs H' F' own',Zf H H'->Zf F F'->SR Z F' H' σ δ' own'->Reps K F' ds vs->Q vs H'
section
variable{Z:Ent K}{F H F' H':Hp}{σ:St}{δ δ':Yf}{own:Г->Zq}{rv:RV}{v:V}{d:D}{Q:VK}
ОRVS.mono(s:Zf F F')(h:RVS K F σ rv v):RVS K F' σ rv v:=by
 cases rv with
 |tmp sv=>E Rep.mono s h
 |bw i=>E h
ОSR.settleR(s:SR Z F H σ δ own)(h:Hf Z F H σ own rv v):∃F1,Zf F F1/\SR Z F1 H σ δ own/\RVS K F1 σ rv v:=by
 cases rv with
 |tmp sv=>O⟨ns,t⟩:=h;E s.settle t
 |bw i=>E⟨F,Zf.refl F,s,h⟩
ОSR.frzR(s:SR Z F H σ δ own)(h:RVS K F σ rv v)(e:frz rv δ=some (d,δ')):∃F1 own1,Zf F F1/\SR Z F1 H σ δ' own1/\Rep K F1 d v:=by
 cases rv with
 |tmp sv=>C e;E⟨F,own,Zf.refl F,s,h⟩
 |bw i=>
  O⟨sv,e1,e2⟩:=aa.mp e
  C e2
  O⟨F1,w,h1,h2,h3,h4⟩:=s.freeze (U4 e1)
  have h':σ[i]? =some (some v):=h
  rw[h']at h2;C h2
  E⟨F1,_,h1,h4,h3⟩
ПZ7(K:af)(F H:Hp)(d:D)(v:V):Prop:=∃sv ns,sv.toD=d/\sv.nested=false/\Shape K F sv v ns/\∀p∈ns,H p.1=some p.2
ОZ7.of(h:Rep K F d v):Z7 K F H d v:=⟨.fz d,[],rfl,rfl,.fz h,fun _ h=>nomatch h⟩
ОSR.rd(s:SR Z F H σ δ own)(h:RVS K F σ rv v)(e:Kx rv δ=some d):Z7 K F H d v:=by
 cases rv with
 |tmp sv=>C e;E Z7.of h
 |bw i=>
  O⟨sv,e1,e2⟩:=aa.mp e
  cases hn:sv.nested with
  |true=>rw[hn]at e2;C e2
  |false=>
   rw[hn]at e2
   C e2
   O⟨w,h1,h2⟩:=s.at' i sv (U4 e1)
   have h':σ[i]? =some (some v):=h
   rw[h']at h1;C h1
   E⟨sv,own i,rfl,hn,h2,fun p hp=>(s.ok i p hp).2.2⟩
inductive RepNs(K:af)(F H:Hp):А D->А V->В where
 |nil:RepNs K F H [] []
 |cons {d:D} {v:V} {ds:А D} {vs:А V} (h:Z7 K F H d v) (t:RepNs K F H ds vs):RepNs K F H (d::ds) (v::vs)
ОZ7.non(h:Z7 K F H .non v):v= .non:=by
 O⟨sv,ns,e,n,sh,hp⟩:=h
 cases sh with
 |fz r=>C e;C r;rfl
 |ol r=>C e
 |oK e' r=>C e
 |oT kb e' r=>C e
 |oN e' r=>C n
 |oX kb' e' r=>C n
 |oL _ r=>C n
 |oQ e' r=>C e
ОZ7.bl{b:Bool}(h:Z7 K F H (.bl b) v):v= .bl b:=by
 O⟨sv,ns,e,n,sh,hp⟩:=h
 cases sh with
 |fz r=>C e;C r;rfl
 |ol r=>C e
 |oK e' r=>C e
 |oT kb e' r=>C e
 |oN e' r=>C n
 |oX kb' e' r=>C n
 |oL _ r=>C n
 |oQ e' r=>C e
ОZ7.int{i:Int}(h:Z7 K F H (.int i) v):v= .int i:=by
 O⟨sv,ns,e,n,sh,hp⟩:=h
 cases sh with
 |fz r=>C e;C r;rfl
 |ol r=>C e
 |oK e' r=>C e
 |oT kb e' r=>C e
 |oN e' r=>C n
 |oX kb' e' r=>C n
 |oL _ r=>C n
 |oQ e' r=>C e
ОZ7.str{x:Str}(h:Z7 K F H (.str x) v):v= .str x:=by
 O⟨sv,ns,e,n,sh,hp⟩:=h
 cases sh with
 |fz r=>C e;C r;rfl
 |ol r=>C e
 |oK e' r=>C e
 |oT kb e' r=>C e
 |oN e' r=>C n
 |oX kb' e' r=>C n
 |oL _ r=>C n
 |oQ e' r=>C e
ОZ7.tup{xs:А D}(le:Zf F H)(h:Z7 K F H (.tup xs) v):∃a vs,v= .ref a/\Uh K H a vs/\Reps K F xs vs:=by
 O⟨sv,ns,e,n,sh,hp⟩:=h
 cases sh with
 |fz r=>C e;cases r with|tup h r=>E⟨_,_,rfl,W0 le (O8 h),r⟩
 |ol r=>C e
 |oK e' r=>C e
 |oT kb e' r=>C e
 |oN e' r=>C n
 |oX kb' e' r=>C n
 |oL _ r=>C n
 |oQ e' r=>C e
ОZ7.lst{xs:А D}(le:Zf F H)(h:Z7 K F H (.lst xs) v):∃a vs,v= .ref a/\Ws K H a vs/\Reps K F xs vs:=by
 O⟨sv,ns,e,n,sh,hp⟩:=h
 cases sh with
 |fz r=>C e;cases r with|lst h _ r=>E⟨_,_,rfl,Y1 le h,r⟩
 |ol r=>C e;E⟨_,_,rfl,.inl (.inl (hp _ aj)),r⟩
 |oK e' r=>C e
 |oT kb e' r=>C e
 |oN e' r=>C n
 |oX kb' e' r=>C n
 |oL _ r=>C n
 |oQ e' r=>C e
ОZ7.dK{ks:А Key}{ds:А D}(le:Zf F H)(h:Z7 K F H (.dK ks ds) v):∃a kvs,v= .ref a/\HK H a kvs/\kvs.map (·.1)=ks/\Reps K F ds (kvs.map (·.2)):=by
 O⟨sv,ns,e,n,sh,hp⟩:=h
 cases sh with
 |fz r=>C e;cases r with|dK h e r=>E⟨_,_,rfl,⟨_,le _ _ h⟩,e,r⟩
 |ol r=>C e
 |oK e' r=>C e;E⟨_,_,rfl,⟨_,hp _ aj⟩,e',r⟩
 |oT kb e' r=>C e
 |oN e' r=>C n
 |oX kb' e' r=>C n
 |oL _ r=>C n
 |oQ e' r=>C e;E⟨_,_,rfl,⟨_,hp _ aj⟩,e',r⟩
ОZ7.dT{ks:А (А Key)}{ds:А D}(le:Zf F H)(h:Z7 K F H (.dT ks ds) v):∃a kvs,v= .ref a/\HTt H a kvs/\kvs.map (·.1)=ks/\Reps K F ds (kvs.map (·.2)):=by
 O⟨sv,ns,e,n,sh,hp⟩:=h
 cases sh with
 |fz r=>C e;cases r with|dT h kb e r=>E⟨_,_,rfl,⟨_,_,le _ _ h⟩,e,r⟩
 |ol r=>C e
 |oK e' r=>C e
 |oT kb e' r=>C e;E⟨_,_,rfl,⟨_,_,hp _ aj⟩,e',r⟩
 |oN e' r=>C n
 |oX kb' e' r=>C n
 |oL _ r=>C n
 |oQ e' r=>C e
end
ОEp{a:am}:([a]:А am).Nodup:=fu.mpr ⟨fun h=>(nomatch h),c7⟩
ПFin(Z:Ent K)(F H:Hp)(σ:St)(δ:Yf)(own:Г->Zq)(sv:SV)(Q:VK):Prop:=
 ∀v H' F' ns,Zf H H'->Zf F F'->SR Z F' H' σ δ own->TmpOk Z F' H' own sv v ns->Q v H'
section
variable{Z:Ent K}{F H:Hp}{σ:St}{δ:Yf}{own:Г->Zq}{Q:VK}
ОFin.fz{d:D}{v:V}(f:Fin Z F H σ δ own (.fz d) Q)(s:SR Z F H σ δ own)(h:Rep K F d v):Q v H:=f v H F [] (Zf.refl H) (Zf.refl F) s (.fz h)
ОFin.one{sv:SV}{o:HO}{p:am}(f:Fin Z F H σ δ own sv Q)(s:SR Z F H σ δ own)(sh:Shape K F sv (.ref p) [(p,o)])(hp:H p=none):Q (.ref p) (Z5 H p o):=by
 have sm:=Qe (o:=o) hp
 R f (.ref p) (Z5 H p o) F [(p,o)] sm (Zf.refl F) (s.grow sm) ⟨sh,Ep,fun q hq=>?_,fun i q r hq hr=>?_⟩
 ·obtain rfl:=au.mp hq
  E⟨s.le.free hp,s.old.free hp,Z3⟩
 ·obtain rfl:=au.mp hq
  intro e
  have e':p=r.1:=e
  have z:=(s.ok i r hr).2.2
  rw[<-e',hp]at z;C z
ОFin.lst{xs:А D}{vs:А V}{p:am}(f:Fin Z F H σ δ own (.ol xs) Q)(s:SR Z F H σ δ own)(r:Reps K F xs vs)(hp:H p=none):Q (.ref p) (Z5 H p (.lst vs)):=f.one s (.ol r) hp
ОFin.tup{xs:А D}{vs:А V}{p:am}(f:Fin Z F H σ δ own (.fz (.tup xs)) Q)(s:SR Z F H σ δ own)(r:Reps K F xs vs)(hp:H p=none):Q (.ref p) (Z5 H p (.tup vs)):=by
 have sm:=Qe (o:=.tup vs) hp
 have sF:Zf F (Qb F [(p,.tup vs)]):=Wt fun q hq=>by obtain rfl:=au.mp hq;E s.le.free hp
 R f (.ref p) (Z5 H p (.tup vs)) (Qb F [(p,.tup vs)]) [] sm sF ?_ (.fz (.tup Z3 (r.mono sF)))
 R(s.grow sm).addF (Ep) (fun q hq=>?_) (fun q hq=>?_) (fun q hq=>?_) fun i q u hq hu=>?_
 ·obtain rfl:=au.mp hq;E s.le.free hp
 ·obtain rfl:=au.mp hq;E Z3
 ·obtain rfl:=au.mp hq;E s.old.free hp
 ·obtain rfl:=au.mp hq
  intro e
  have e':p=u.1:=e
  have z:=(s.ok i u hu).2.2
  rw[<-e',hp]at z;C z
end
ОQ2{F:Hp}{d:D}{v:V}{ns:Zq}(h:Shape K F (.fz d) v ns):Rep K F d v:=by
 cases h with
 |fz r=>E r
section
variable{Z:Ent K}{H:Hp}{σ:St}{Q:VK}
РZa(i:Г):FE:=fun δ=>match δ[i]? with
 |some (some (.fz d))=>some (.tmp (.fz d),δ)
 |some (some _)=>some (.bw i,δ)
 |_=>none
ОZpk{i:Г}(h:Zc Z (Za i) σ H Q):Q8 i σ H Q:=by
 O⟨F,δ,own,rv,δ',s,e,k⟩:=h
 unfold Za at e
 split at e
 ·rename_i d hd
  C e
  O⟨v,h1,h2⟩:=s.at' i _ hd
  E⟨v,h1,k v H F own (Zf.refl H) (Zf.refl F) s ⟨[],.fz (Q2 h2)⟩⟩
 ·rename_i sv hsv hd
  C e
  O⟨v,h1,h2⟩:=s.at' i _ hd
  E⟨v,h1,k v H F own (Zf.refl H) (Zf.refl F) s h1⟩
 ·C e
РZh(d:D):FE:=fun δ=>some (.tmp (.fz d),δ)
ОKy{d:D}{v:V}(hr:∀F,Rep K F d v)(h:Zc Z (Zh d) σ H Q):tC v σ H Q:=by
 O⟨F,δ,own,rv,δ',s,e,k⟩:=h
 C e
 E k v H F own (Zf.refl H) (Zf.refl F) s ⟨[],.fz (hr F)⟩
РZn:FA:=fun δ=>some ([],δ)
РZd(fe:FE)(fa:FA):FA:=fun δ=>(fe δ).bind fun p=>(fa p.2).bind fun q=>some (p.1::q.1,q.2)
ОZc9{R:А V->Hp->В}(h:O9 Z Zn σ H R):Rw σ H R:=by
 O⟨F,δ,own,rvs,δ',s,e,k⟩:=h
 C e
 E k [] H F own (Zf.refl H) (Zf.refl F) s .nil
ОZaz{fe:FE}{fa:FA}{R:А V->Hp->В}(h:O9 Z (Zd fe fa) σ H R):Jq (Zc Z fe) (O9 Z fa) σ H R:=by
 O⟨F,δ,own,rvs,δ',s,e,k⟩:=h
 O⟨⟨rv,δ1⟩,e1,e2⟩:=aa.mp e
 O⟨⟨rr,δ2⟩,e3,e4⟩:=aa.mp e2
 C e4
 R⟨F,δ,own,rv,δ1,s,e1,fun v H1 F1 own1 sH sF s1 r1=>?_⟩
 O⟨F2,sF2,s2,r2⟩:=s1.settleR r1
 E⟨F2,δ1,own1,rr,δ2,s2,e3,fun vs H3 F3 own3 sH3 sF3 s3 r3=>k _ H3 F3 own3 (sH.trans sH3) (sF.trans (sF2.trans sF3)) s3 (.cons (r2.mono sF3) r3)⟩
РUk:А RV->Yf->Б (А D)
 | [],_=>some []
 |rv::r,δ=>(Kx rv δ).bind fun d=>(Uk r δ).bind fun ds=>some (d::ds)
ОSR.rdAll{F:Hp}{δ:Yf}{own:Г->Zq}(s:SR Z F H σ δ own):∀{rvs:А RV} {vs:А V} {ds:А D},RVSs K F σ rvs vs->Uk rvs δ=some ds->RepNs K F H ds vs
 |_,_,_,.nil,e=>by C e;E .nil
 |_,_,_,.cons h t,e=>by
  O⟨d,e1,e2⟩:=aa.mp e
  O⟨ds,e3,e4⟩:=aa.mp e2
  C e4
  E .cons (s.rd h e1) (s.rdAll t e3)
РYl(g:А D->Б SV)(fa:FA):FE:=fun δ=>(fa δ).bind fun p=>(Uk p.1 p.2).bind fun ds=>(g ds).bind fun sv=>some (.tmp sv,p.2)
ПJu(Z:Ent K)(r:А V->Hp->VK->В)(g:А D->Б SV):Prop:=
 ∀(F H:Hp) (σ:St) (δ:Yf) (own:Г->Zq) (vs:А V) (ds:А D) (sv:SV) (Q:VK),SR Z F H σ δ own->RepNs K F H ds vs->g ds=some sv->Fin Z F H σ δ own sv Q->r vs H Q
ОKz{r:А V->Hp->VK->В}{g:А D->Б SV}{fa:FA}(hg:Ju Z r g)(h:Zc Z (Yl g fa) σ H Q):tCB r (O9 Z fa) σ H Q:=by
 O⟨F,δ,own,rv,δ',s,e,k⟩:=h
 O⟨⟨rvs,δ1⟩,e1,e2⟩:=aa.mp e
 O⟨ds,e3,e4⟩:=aa.mp e2
 O⟨sv,e5,e6⟩:=aa.mp e4
 C e6
 R⟨F,δ,own,rvs,δ1,s,e1,fun vs H1 F1 own1 sH sF s1 r1=>?_⟩
 E hg F1 H1 σ δ1 own1 vs ds sv Q s1 (s1.rdAll r1 e3) e5 fun v H2 F2 ns sH2 sF2 s2 t=>k v H2 F2 own1 (sH.trans sH2) (sF.trans sF2) s2 ⟨ns,t⟩
Рg2(g:D->D->Б SV):А D->Б SV
 | [x,y]=>g x y
 |_=>none
РZt(g:D->D->Б SV)(fa fb:FE):FE:=Yl (g2 g) (Zd fa (Zd fb Zn))
ПY4(Z:Ent K)(r:R2)(g:D->D->Б SV):Prop:=
 ∀(F H:Hp) (σ:St) (δ:Yf) (own:Г->Zq) (x y:V) (d1 d2:D) (sv:SV) (Q:VK),SR Z F H σ δ own->Z7 K F H d1 x->Z7 K F H d2 y->g d1 d2=some sv->Fin Z F H σ δ own sv Q->r x y H Q
ОIk{r:R2}{g:D->D->Б SV}{fa fb:FE}(hg:Y4 Z r g)(h:Zc Z (Zt g fa fb) σ H Q):tOp r (Zc Z fa) (Zc Z fb) σ H Q:=by
 have hN:Ju Z (fun vs H Q=>∃x y,vs=[x,y]/\r x y H Q) (g2 g):=by
  intro F H σ δ own vs ds sv Q s rs e f
  cases rs with
  |nil=>C e
  |cons h1 t1=>
   cases t1 with
   |nil=>C e
   |cons h2 t2=>
    cases t2 with
    |nil=>E⟨_,_,rfl,hg F H σ δ own _ _ _ _ sv Q s h1 h2 e f⟩
    |cons h3 t3=>C e
 O⟨F,δ,own,rv,δ',s,e,k⟩:=Kz hN h
 O⟨⟨rv1,δ1⟩,e1,e2⟩:=aa.mp e
 O⟨⟨rr,δ2⟩,e3,e4⟩:=aa.mp e2
 C e4
 O⟨⟨rv2,δ3⟩,e5,e6⟩:=aa.mp e3
 O⟨⟨rr',δ4⟩,e7,e8⟩:=aa.mp e6
 C e8
 C e7
 R⟨F,δ,own,rv1,δ1,s,e1,fun v H1 F1 own1 sH sF s1 r1=>?_⟩
 O⟨F2,sF2,s2,r2⟩:=s1.settleR r1
 R⟨F2,δ1,own1,rv2,δ3,s2,e5,fun u H3 F3 own3 sH3 sF3 s3 r3=>?_⟩
 O⟨F4,sF4,s4,r4⟩:=s3.settleR r3
 O⟨x,y,exy,q⟩:=k [v,u] H3 F4 own3 (sH.trans sH3) (sF.trans (sF2.trans (sF3.trans sF4))) s4 (.cons (r2.mono (sF3.trans sF4)) (.cons r4 .nil))
 injection exy with ex ey
 injection ey with ey _
 subst ex ey
 E q
РunF(g:D->Б SV)(fa:FE):FE:=Yl (fun| [x]=>g x|_=>none) (Zd fa Zn)
ПZj8(Z:Ent K)(r:V->Hp->VK->В)(g:D->Б SV):Prop:=
 ∀(F H:Hp) (σ:St) (δ:Yf) (own:Г->Zq) (x:V) (d:D) (sv:SV) (Q:VK),SR Z F H σ δ own->Z7 K F H d x->g d=some sv->Fin Z F H σ δ own sv Q->r x H Q
ОZug{r:V->Hp->VK->В}{g:D->Б SV}{fa:FE}(hg:Zj8 Z r g)(h:Zc Z (unF g fa) σ H Q):tUn r (Zc Z fa) σ H Q:=by
 O⟨F,δ,own,rv,δ',s,e,k⟩:=h
 O⟨⟨rvs,δ1⟩,e1,e2⟩:=aa.mp e
 O⟨ds,e3,e4⟩:=aa.mp e2
 O⟨sv,e5,e6⟩:=aa.mp e4
 C e6
 O⟨⟨rv1,δ2⟩,e7,e8⟩:=aa.mp e1
 O⟨⟨rr',δ4⟩,e9,e10⟩:=aa.mp e8
 C e10
 C e9
 O⟨d,e11,e12⟩:=aa.mp e3
 C e12
 R⟨F,δ,own,rv1,δ2,s,e7,fun v H1 F1 own1 sH sF s1 r1=>?_⟩
 O⟨F2,sF2,s2,r2⟩:=s1.settleR r1
 E hg F2 H1 σ δ2 own1 v d sv Q s2 (s2.rd r2 e11) e5 fun v H2 F2' ns sH2 sF2' s2 t=>k v H2 F2' own1 (sH.trans sH2) (sF.trans (sF2.trans sF2')) s2 ⟨ns,t⟩
РZl:FD:=fun δ=>some ([],δ)
РZe(fe:FE)(fd:FD):FD:=fun δ=>(fe δ).bind fun p=>(frz p.1 p.2).bind fun q=>(fd q.2).bind fun r=>some (q.1::r.1,r.2)
ОIl{R:А V->Hp->В}(h:Wi Z Zl σ H R):Rw σ H R:=by
 O⟨F,δ,own,rvs,δ',s,e,k⟩:=h
 C e
 E k [] H F own (Zf.refl H) (Zf.refl F) s .nil
ОTt{fe:FE}{fd:FD}{R:А V->Hp->В}(h:Wi Z (Ze fe fd) σ H R):Jq (Zc Z fe) (Wi Z fd) σ H R:=by
 O⟨F,δ,own,rvs,δ',s,e,k⟩:=h
 O⟨⟨rv,δ1⟩,e1,e2⟩:=aa.mp e
 O⟨⟨d,δ2⟩,e3,e4⟩:=aa.mp e2
 O⟨⟨ds,δ3⟩,e5,e6⟩:=aa.mp e4
 C e6
 R⟨F,δ,own,rv,δ1,s,e1,fun v H1 F1 own1 sH sF s1 r1=>?_⟩
 O⟨F2,sF2,s2,r2⟩:=s1.settleR r1
 O⟨F3,own3,sF3,s3,r3⟩:=s2.frzR r2 e3
 E⟨F3,δ2,own3,ds,δ3,s3,e5,fun vs H4 F4 own4 sH4 sF4 s4 r4=>k _ H4 F4 own4 (sH.trans sH4) (sF.trans (sF2.trans (sF3.trans sF4))) s4 (.cons (r3.mono sF4) r4)⟩
РtupF(fd:FD):FE:=fun δ=>(fd δ).bind fun p=>if p.1.length<=a8 then some (.tmp (.fz (.tup p.1)),p.2)else none
РJg(fd:FD):FE:=fun δ=>(fd δ).bind fun p=>if p.1.length<=a8 then some (.tmp (.ol p.1),p.2)else none
ОZpm{fd:FD}(h:Zc Z (tupF fd) σ H Q):Zch (Wi Z fd) σ H Q:=by
 O⟨F,δ,own,rv,δ',s,e,k⟩:=h
 O⟨⟨ds,δ1⟩,e1,e2⟩:=aa.mp e
 by_cases hz:ds.length<=a8
 ·rw[Е hz]at e2
  C e2
  R⟨F,δ,own,ds,δ1,s,e1,fun vs H1 F1 own1 sH sF s1 r1=>⟨by rw[<-r1.length];E hz,fun p hp=>?_⟩⟩
  E Fin.tup (fun v H2 F2 ns a b c t=>k v H2 F2 own1 (sH.trans a) (sF.trans b) c ⟨ns,t⟩) s1 r1 hp
 ·rw[Д hz]at e2;C e2
ОZpn{fd:FD}(h:Zc Z (Jg fd) σ H Q):Zl0 (Wi Z fd) σ H Q:=by
 O⟨F,δ,own,rv,δ',s,e,k⟩:=h
 O⟨⟨ds,δ1⟩,e1,e2⟩:=aa.mp e
 by_cases hz:ds.length<=a8
 ·rw[Е hz]at e2
  C e2
  R⟨F,δ,own,ds,δ1,s,e1,fun vs H1 F1 own1 sH sF s1 r1=>⟨by rw[<-r1.length];E hz,fun p hp=>?_⟩⟩
  E Fin.lst (fun v H2 F2 ns a b c t=>k v H2 F2 own1 (sH.trans a) (sF.trans b) c ⟨ns,t⟩) s1 r1 hp
 ·rw[Д hz]at e2;C e2
end
РSV.scal:SV->Bool
 | .fz .non=>true
 | .fz (.bl _)=>true
 | .fz (.int _)=>true
 | .fz (.str _)=>true
 |_=>false
ПY5(K:af)(n:Г)(g:А D->Б SV):Sp:=fun vs H Q _=>∃F ds sv,Zf F H/\Reps K F ds vs/\ds.length=n/\g ds=some sv/\
 ∀v H' F' ns,Zf H H'->Zf F F'->Zf F' H'->(∀(b:am) (o:HO),F' b=some o->F b=some o\/H b=none)->Shape K F' sv v ns->(Cp ns).Nodup->(∀p∈ns,F' p.1=none/\H p.1=none/\H' p.1=some p.2)->Q v H'
РfrzAll:А RV->Yf->Б (А D×Yf)
 | [],δ=>some ([],δ)
 |rv::r,δ=>(frz rv δ).bind fun p=>(frzAll r p.2).bind fun q=>some (p.1::q.1,q.2)
ОRVSs.mono{F F':Hp}{σ:St}(s:Zf F F'){rvs:А RV}{vs:А V}(h:RVSs K F σ rvs vs):RVSs K F' σ rvs vs:=by
 induction h with
 |nil=>E .nil
 |cons h _ ih=>E .cons (h.mono s) ih
section
variable{Z:Ent K}{H:Hp}{σ:St}{Q:VK}
ОSR.frzAll{F:Hp}{δ:Yf}{own:Г->Zq}:∀{rvs:А RV} {vs:А V} {ds:А D} {δ':Yf} {F:Hp} {δ:Yf} {own:Г->Zq},SR Z F H σ δ own->RVSs K F σ rvs vs->DL.frzAll rvs δ=some (ds,δ')->
  ∃F1 own1,Zf F F1/\SR Z F1 H σ δ' own1/\Reps K F1 ds vs
 |_,_,_,_,F,_,own,s,.nil,e=>by C e;E⟨F,own,Zf.refl F,s,.nil⟩
 |_,_,_,_,F,_,own,s,.cons h t,e=>by
  O⟨⟨d,δ1⟩,e1,e2⟩:=aa.mp e
  O⟨⟨ds,δ2⟩,e3,e4⟩:=aa.mp e2
  C e4
  O⟨F1,own1,sF1,s1,r1⟩:=s.frzR h e1
  O⟨F2,own2,sF2,s2,r2⟩:=SR.frzAll (own:=own) (F:=F) (δ:=δ1) s1 (t.mono sF1) e3
  E⟨F2,own2,sF1.trans sF2,s2,.cons (r1.mono sF2) r2⟩
РWe(n:Г)(g:А D->Б SV)(fa:FA):FE:=fun δ=>(fa δ).bind fun p=>(DL.frzAll p.1 p.2).bind fun q=>if q.1.length=n then(g q.1).bind fun sv=>some (.tmp sv,if sv.scal then p.2 else q.2)else none
ОZda{F F':Hp}{sv:SV}{v:V}{ns:Zq}(h:sv.scal=true)(sh:Shape K F sv v ns):ns=[]/\Shape K F' sv v []:=by
 cases sh with
 |fz r=>
  R⟨rfl,.fz ?_⟩
  cases r with
  |non=>E .non
  |bl b=>E .bl b
  |int i=>E .int i
  |str x=>E .str x
  |tup _ _=>C h
  |lst _ _ _=>C h
  |dK _ _ _=>C h
  |dT _ _ _ _=>C h
  |exc _ _=>C h
  |dX _ _ _ _=>C h
  |exd _ _ _ _ _=>C h
 |ol _=>C h
 |oK _ _=>C h
 |oT _ _ _=>C h
 |oN _ _=>C h
 |oX _ _ _=>C h
 |oL _ _=>C h
 |oQ _ _=>C h
ОZmc{n:Г}{g:А D->Б SV}{fa:FA}{E:XK}(h:Zc Z (We n g fa) σ H Q):Nn (Y5 K n g) [] E (O9 Z fa) σ H Q:=by
 O⟨F,δ,own,rv,δ',s,e,k⟩:=h
 O⟨⟨rvs,δ1⟩,e1,e2⟩:=aa.mp e
 O⟨⟨ds,δ2⟩,e3,e4⟩:=aa.mp e2
 by_cases hn:ds.length=n
 ·rw[Е hn]at e4
  O⟨sv,e5,e6⟩:=aa.mp e4
  R⟨F,δ,own,rvs,δ1,s,e1,fun vs H1 F1 own1 sH sF s1 r1=>?_⟩
  O⟨F2,own2,sF2,s2,r2⟩:=s1.frzAll (own:=own) (F:=F) (δ:=δ) r1 e3
  rw[List.append_nil]
  R⟨F2,ds,sv,s2.le,r2,hn,e5,fun v H3 F3 ns sH3 sF3 le3 fro3 sh nd ok=>?_⟩
  by_cases hs:sv.scal=true
  ·rw[Е hs]at e6
   C e6
   O⟨_,sh'⟩:=Zda (F':=F1) hs sh
   E k v H3 F1 own1 (sH.trans sH3) sF (s1.grow sH3) ⟨[],sh',c7,fun _ h=>(nomatch h),fun _ _ _ h=>(nomatch h)⟩
  ·rw[Д hs]at e6
   C e6
   have s3:SR Z F3 H3 σ δ2 own2:=by
    R⟨le3,fun b o e=>?_,s2.old.trans sH3,s2.len,fun i sw ei=>?_,s2.nod,fun i p hp=>?_,s2.sep⟩
    ·rcases fro3 b o e with z|z
     ·E s2.fro b o z
     ·E .inr (s2.old.free z)
    ·O⟨w,h1,h2⟩:=s2.at' i sw ei
     E⟨w,h1,h2.mono sF3⟩
    ·O⟨a,b,c⟩:=s2.ok i p hp
     R⟨?_,b,sH3 _ _ c⟩
     cases z:F3 p.1 with
     |none=>rfl
     |some u=>
      rcases fro3 _ u z with y|y
      ·rw[a]at y;C y
      ·rw[c]at y;C y
   E k v H3 F3 own2 (sH.trans sH3) (sF.trans (sF2.trans sF3)) s3 ⟨ns,sh,nd,fun p hp=>⟨(ok p hp).1,(s2.old).free (ok p hp).2.1,(ok p hp).2.2⟩,fun i p q hp hq e=>by
    have z:=(s2.ok i q hq).2.2
    rw[<-e,(ok p hp).2.1]at z;C z⟩
 ·rw[Д hn]at e4;C e4
end
end DL
namespace DL
open PySem L2
variable{K:af}
section
variable{Z:Ent K}{H:Hp}{σ:St}{R:Bool->Hp->В}{Q:VK}
РY6(fe:FE):FT:=fun δ=>(fe δ).bind fun p=>match p.1 with
 | .tmp (.fz (.bl b))=>some (b,p.2)
 |_=>none
ОZdb{fe:FE}(h:Yg Z (Y6 fe) σ H R):Zjx (Zc Z fe) σ H R:=by
 O⟨F,δ,own,b,δ',s,e,k⟩:=h
 O⟨⟨rv,δ1⟩,e1,e2⟩:=aa.mp e
 R⟨F,δ,own,rv,δ1,s,e1,fun v H1 F1 own1 sH sF s1 r1=>?_⟩
 dsimp only at e2
 split at e2
 ·C e2
  O⟨ns,t⟩:=r1
  cases Q2 t.sh
  E⟨_,rfl,k H1 F1 own1 sH sF s1⟩
 ·C e2
ОZhs{fe:FE}(h:Yg Z (Y6 fe) σ H R):tB (Zc Z fe) σ H R:=Zdb h
РZzd(f g:FT):FT:=fun δ=>(f δ).bind fun p=>if p.1=true then g p.2 else some (false,p.2)
РorF(f g:FT):FT:=fun δ=>(f δ).bind fun p=>if p.1=true then some (true,p.2)else g p.2
РZht(f:FT):FT:=fun δ=>(f δ).bind fun p=>some (!p.1,p.2)
ОZuh{f g:FT}(h:Yg Z (orF f g) σ H R):tOr (Yg Z f) (Yg Z g) σ H R:=by
 O⟨F,δ,own,b,δ',s,e,k⟩:=h
 O⟨⟨c,δ1⟩,e1,e2⟩:=aa.mp e
 R⟨F,δ,own,c,δ1,s,e1,fun H1 F1 own1 sH sF s1=>?_⟩
 cases c with
 |true=>
  rw[Е rfl]at e2⊢
  C e2
  E k H1 F1 own1 sH sF s1
 |false=>
  rw[Д bh]at e2⊢
  E⟨F1,δ1,own1,b,δ',s1,e2,fun H2 F2 own2 a c d=>k H2 F2 own2 (sH.trans a) (sF.trans c) d⟩
ОZpo{f:FT}(h:Yg Z (Zht f) σ H R):Zou (Yg Z f) σ H R:=by
 O⟨F,δ,own,b,δ',s,e,k⟩:=h
 O⟨⟨c,δ1⟩,e1,e2⟩:=aa.mp e
 C e2
 E⟨F,δ,own,c,δ1,s,e1,k⟩
РZze(f g:FE):FE:=fun δ=>(Y6 f δ).bind fun p=>if p.1=true then g p.2 else some (.tmp (.fz (.bl false)),p.2)
РorV(f g:FE):FE:=fun δ=>(Y6 f δ).bind fun p=>if p.1=true then some (.tmp (.fz (.bl true)),p.2)else g p.2
РZzf(f:FE):FE:=fun δ=>(Y6 f δ).bind fun p=>some (.tmp (.fz (.bl (!p.1))),p.2)
РifF(t:FT)(f g:FE):FE:=fun δ=>(t δ).bind fun p=>if p.1=true then f p.2 else g p.2
РZui(g g':D->D->Б SV)(fa fb fc:FE):FE:=fun δ=>(fa δ).bind fun p=>(fb p.2).bind fun q=>(Kx p.1 q.2).bind fun x=>(Kx q.1 q.2).bind fun y=>(g x y).bind fun
 | .fz (.bl true)=>(fc q.2).bind fun r=>(Kx q.1 r.2).bind fun y'=>(Kx r.1 r.2).bind fun z=>(g' y' z).bind fun sv=>some (.tmp sv,r.2)
 | .fz (.bl false)=>some (.tmp (.fz (.bl false)),q.2)
 |_=>none
end
inductive Fl where
 |nx (δ:Yf)|bk (δ:Yf)|ct (δ:Yf)|rt (sv:SV)|ex (e:Exn) (δ:Yf)
noncomputable abbrev FS:=Yf->Б Fl
ПK0(Z:Ent K)(F:Hp)(D:Yz):Fl->В
 | .nx δ=>∀σ' H' F' own',Zf F F'->SR Z F' H' σ' δ own'->D.nx σ' H'
 | .bk δ=>∀σ' H' F' own',Zf F F'->SR Z F' H' σ' δ own'->D.bk σ' H'
 | .ct δ=>∀σ' H' F' own',Zf F F'->SR Z F' H' σ' δ own'->D.ct σ' H'
 | .rt sv=>∀v H' F' ns,Zf F F'->Zf F' H'->(∀(b:am) (o:HO),F' b=some o->Z.f b=some o\/Z.h b=none)->Zf Z.h H'->Shape K F' sv v ns->(Cp ns).Nodup->
   (∀p∈ns,F' p.1=none/\Z.h p.1=none/\H' p.1=some p.2)->D.rt v H'
 | .ex x δ=>∀σ' H' F' own' cls od,Zf F F'->SR Z F' H' σ' δ own'->Kw K F' x cls od->Z.x cls od σ' H'
ОK0.mono{Z:Ent K}{F F':Hp}{D:Yz}(s:Zf F F'):∀{fl:Fl},K0 Z F D fl->K0 Z F' D fl
 | .nx _,h=>fun σ' H' F2 own' a b=>h σ' H' F2 own' (s.trans a) b
 | .bk _,h=>fun σ' H' F2 own' a b=>h σ' H' F2 own' (s.trans a) b
 | .ct _,h=>fun σ' H' F2 own' a b=>h σ' H' F2 own' (s.trans a) b
 | .rt _,h=>fun v H' F2 ns a=>h v H' F2 ns (s.trans a)
 | .ex _ _,h=>fun σ' H' F2 own' cls od a=>h σ' H' F2 own' cls od (s.trans a)
ПZ1(Z:Ent K)(f:FS):TS:=fun D σ H=>∃F δ own fl,SR Z F H σ δ own/\f δ=some fl/\K0 Z F D fl
section
variable{Z:Ent K}{H:Hp}{σ:St}{E:Yz}
РBr:FS:=fun δ=>some (.nx δ)
РZuj:FS:=fun δ=>some (.bk δ)
РZw1:FS:=fun δ=>some (.ct δ)
ОZmd(h:Z1 Z Br E σ H):Tg E σ H:=by
 O⟨F,δ,own,fl,s,e,k⟩:=h
 C e
 E k σ H F own (Zf.refl F) s
РYc(f g:FS):FS:=fun δ=>(f δ).bind fun
 | .nx δ'=>g δ'
 |fl=>some fl
ОZj9{f g:FS}(h:Z1 Z (Yc f g) E σ H):Th (Z1 Z f) (Z1 Z g) E σ H:=by
 O⟨F,δ,own,fl,s,e,k⟩:=h
 O⟨f1,e1,e2⟩:=aa.mp e
 R⟨F,δ,own,f1,s,e1,?_⟩
 cases f1 with
 |nx δ1=>E fun σ' H' F' own' sF s'=>⟨F',δ1,own',fl,s',e2,k.mono sF⟩
 |bk δ1=>C e2;E k
 |ct δ1=>C e2;E k
 |rt sv=>C e2;E k
 |ex x δ1=>C e2;E k
РifS(t:FT)(f g:FS):FS:=fun δ=>(t δ).bind fun p=>if p.1=true then f p.2 else g p.2
ОZpp{t:FT}{f g:FS}(h:Z1 Z (ifS t f g) E σ H):Sx (Yg Z t) (Z1 Z f) (Z1 Z g) E σ H:=by
 O⟨F,δ,own,fl,s,e,k⟩:=h
 O⟨⟨c,δ1⟩,e1,e2⟩:=aa.mp e
 R⟨F,δ,own,c,δ1,s,e1,fun H1 F1 own1 sH sF s1=>?_⟩
 cases c with
 |true=>rw[Е rfl]at e2⊢;E⟨F1,δ1,own1,fl,s1,e2,k.mono sF⟩
 |false=>rw[Д bh]at e2⊢;E⟨F1,δ1,own1,fl,s1,e2,k.mono sF⟩
РZw2(fe:FE):FS:=fun δ=>(fe δ).bind fun p=>some (.nx p.2)
РZpq:RV->Yf->Б SV
 | .tmp sv,_=>some sv
 | .bw i,δ=>δ[i]?.join
РBe(fe:FE):FS:=fun δ=>(fe δ).bind fun p=>(Zpq p.1 p.2).bind fun sv=>some (.rt sv)
ОZpr{fe:FE}(h:Z1 Z (Be fe) E σ H):Zls (Zc Z fe) E σ H:=by
 O⟨F,δ,own,fl,s,e,k⟩:=h
 O⟨⟨rv,δ1⟩,e1,e2⟩:=aa.mp e
 O⟨sv,e3,e4⟩:=aa.mp e2
 C e4
 R⟨F,δ,own,rv,δ1,s,e1,fun v H1 F1 own1 sH sF s1 r1=>?_⟩
 cases rv with
 |tmp sw=>
  C e3
  O⟨ns,t⟩:=r1
  E k v H1 F1 ns sF s1.le s1.fro s1.old t.sh t.nd t.ok
 |bw i=>
  O⟨w,h1,h2⟩:=s1.at' i sv (U4 e3)
  have r1':σ[i]? =some (some v):=r1
  rw[r1']at h1;C h1
  E k v H1 F1 (own1 i) sF s1.le s1.fro s1.old h2 (s1.nod i) (s1.ok i)
РZzg:FS:=fun δ=>some (.rt (.fz .non))
Рstow(i:Г):RV->Yf->Б Yf
 | .tmp sv,δ=>if i<δ.length then some (δ.set i (some sv))else none
 | .bw j,δ=>(frz (.bw j) δ).bind fun p=>if i<p.2.length then some (p.2.set i (some (.fz p.1)))else none
ОSR.stow{F:Hp}{δ δ':Yf}{own:Г->Zq}{i:Г}{rv:RV}{v:V}(s:SR Z F H σ δ own)(r:Hf Z F H σ own rv v)(e:DL.stow i rv δ=some δ'):∃F' own',Zf F F'/\SR Z F' H (σ.set i (some v)) δ' own':=by
 cases rv with
 |tmp sv=>
  O⟨ns,t⟩:=r
  have e:(if i<δ.length then some (δ.set i (some sv))else none)=some δ':=e
  by_cases hi:i<δ.length
  ·rw[Е hi]at e;C e
   E⟨F,_,Zf.refl F,s.store t (by rw[s.len];E hi)⟩
  ·rw[Д hi]at e;C e
 |bw j=>
  O⟨⟨d,δ1⟩,e1,e2⟩:=aa.mp e
  O⟨F1,own1,sF,s1,r1⟩:=s.frzR (rv:=.bw j) (v:=v) r e1
  by_cases hi:i<δ1.length
  ·rw[Е hi]at e2;C e2
   E⟨F1,_,sF,s1.store (.fz r1) (by rw[s1.len];E hi)⟩
  ·rw[Д hi]at e2;C e2
РWd(i:Г)(fe:FE):FS:=fun δ=>(fe δ).bind fun p=>(stow i p.1 p.2).bind fun δ'=>some (.nx δ')
ОZka{i:Г}{fe:FE}(h:Z1 Z (Wd i fe) E σ H):Kf (Zc Z fe) (Ui i) E σ H:=by
 O⟨F,δ,own,fl,s,e,k⟩:=h
 O⟨⟨rv,δ1⟩,e1,e2⟩:=aa.mp e
 O⟨δ2,e3,e4⟩:=aa.mp e2
 C e4
 R⟨F,δ,own,rv,δ1,s,e1,fun v H1 F1 own1 sH sF s1 r1=>?_⟩
 O⟨F2,own2,sF2,s2⟩:=s1.stow r1 e3
 E k _ H1 F2 own2 (sF.trans sF2) s2
set_option genInjectivity false in
structure FG where
 run:D->Yf->Б Yf
 tch:А Г
set_option genInjectivity false in
structure FGs where
 run:А D->Yf->Б Yf
 tch:А Г
ПBa(Z:Ent K)(g:FG):TG:=fun v σ H Q=>∃F δ own d δ',SR Z F H σ δ own/\Rep K F d v/\g.run d δ=some δ'/\∀σ' own',SR Z F H σ' δ' own'->(∀j:Г,j∉g.tch->σ'[j]? =σ[j]?)->Q σ' H
ПBt(Z:Ent K)(g:FGs):TGs:=fun vs σ H Q=>∃F δ own ds δ',SR Z F H σ δ own/\Reps K F ds vs/\g.run ds δ=some δ'/\∀σ' own',SR Z F H σ' δ' own'->(∀j:Г,j∉g.tch->σ'[j]? =σ[j]?)->Q σ' H
ПZg(i:Г):FG:=⟨fun d δ=>if i<δ.length then some (δ.set i (some (.fz d)))else none,[i]⟩
ОZhu{i:Г}{v:V}{Q:St->Hp->В}(h:Ba Z (Zg i) v σ H Q):Ui i v σ H Q:=by
 O⟨F,δ,own,d,δ',s,r,e,k⟩:=h
 have e:(if i<δ.length then some (δ.set i (some (.fz d)))else none)=some δ':=e
 by_cases hi:i<δ.length
 ·rw[Е hi]at e;C e
  E k _ _ (s.store (.fz r) (by rw[s.len];E hi)) fun j hj=>d6 fun z=>hj (by rw[z];E aj)
 ·rw[Д hi]at e;C e
ПWb:FGs:=⟨fun ds δ=>match ds with
 | []=>some δ
 |_=>none,[]⟩
ПZs(g:FG)(r:FGs):FGs:=⟨fun ds δ=>match ds with
 |d::t=>(g.run d δ).bind fun δ1=>r.run t δ1
 | []=>none,g.tch++r.tch⟩
@[simp] theorem Zoi(i:Г)(d:D)(δ:Yf):(Zg i).run d δ=if i<δ.length then some (δ.set i (some (.fz d)))else none:=rfl
@[simp] theorem Zps(δ:Yf):Wb.run [] δ=some δ:=rfl
@[simp] theorem Zoj(g:FG)(r:FGs)(d:D)(t:А D)(δ:Yf):(Zs g r).run (d::t) δ=(g.run d δ).bind fun δ1=>r.run t δ1:=rfl
ОZme{vs:А V}{Q:St->Hp->В}(h:Bt Z Wb vs σ H Q):Zow vs σ H Q:=by
 O⟨F,δ,own,ds,δ',s,r,e,k⟩:=h
 cases r with
 |nil=>C e;E⟨rfl,k σ own s fun _ _=>rfl⟩
 |cons h t=>C e
ОZhv{g:FG}{r:FGs}{vs:А V}{Q:St->Hp->В}(h:Bt Z (Zs g r) vs σ H Q):Zju (Ba Z g) (Bt Z r) vs σ H Q:=by
 O⟨F,δ,own,ds,δ',s,rr,e,k⟩:=h
 cases rr with
 |nil=>C e
 |cons h t=>
  O⟨δ1,e1,e2⟩:=aa.mp e
  E⟨_,_,rfl,F,δ,own,_,δ1,s,h,e1,fun σ1 own1 s1 t1=>⟨F,δ1,own1,_,δ',s1,t,e2,fun σ2 own2 s2 t2=>k σ2 own2 s2 fun j hj=>(t2 j fun z=>hj (c6 _ z)).trans (t1 j fun z=>hj (List.mem_append_left _ z))⟩⟩
ПWa(n:Г)(g:FGs):FG:=⟨fun d δ=>match d with
 | .tup xs=>if xs.length=n then g.run xs δ else none
 |_=>none,g.tch⟩
@[simp] theorem Zpt(n:Г)(g:FGs)(xs:А D)(δ:Yf):(Wa n g).run (.tup xs) δ=if xs.length=n then g.run xs δ else none:=rfl
ОZmf{n:Г}{g:FGs}{v:V}{Q:St->Hp->В}(h:Ba Z (Wa n g) v σ H Q):Zox K n (Bt Z g) v σ H Q:=by
 O⟨F,δ,own,d,δ',s,r,e,k⟩:=h
 dsimp only[Wa]at e
 split at e
 ·rename_i xs
  by_cases hn:xs.length=n
  ·rw[Е hn]at e
   cases r with
   |tup h r=>E⟨_,_,rfl,W0 s.le (O8 h),by rw[<-r.length];E hn,F,δ,own,_,δ',s,r,e,k⟩
  ·rw[Д hn]at e;C e
 ·C e
РK4(g:FG)(fe:FE):FS:=fun δ=>(fe δ).bind fun p=>(frz p.1 p.2).bind fun q=>(g.run q.1 q.2).bind fun δ'=>some (.nx δ')
ОZdd{g:FG}{fe:FE}(h:Z1 Z (K4 g fe) E σ H):Kf (Zc Z fe) (Ba Z g) E σ H:=by
 O⟨F,δ,own,fl,s,e,k⟩:=h
 O⟨⟨rv,δ1⟩,e1,e2⟩:=aa.mp e
 O⟨⟨d,δ2⟩,e3,e4⟩:=aa.mp e2
 O⟨δ3,e5,e6⟩:=aa.mp e4
 C e6
 R⟨F,δ,own,rv,δ1,s,e1,fun v H1 F1 own1 sH sF s1 r1=>?_⟩
 O⟨F2,sF2,s2,r2⟩:=s1.settleR r1
 O⟨F3,own3,sF3,s3,r3⟩:=s2.frzR r2 e3
 E⟨F3,δ2,own3,d,δ3,s3,r3,e5,fun σ' own' s' _=>k σ' H1 F3 own' (sF.trans (sF2.trans sF3)) s'⟩
РYh(tg:FG)(body:FS):А D->Yf->Б Fl
 | [],δ=>some (.nx δ)
 |d::ds,δ=>(tg.run d δ).bind fun δ1=>(body δ1).bind fun
  | .nx δ2=>Yh tg body ds δ2
  | .ct δ2=>Yh tg body ds δ2
  | .bk δ2=>some (.nx δ2)
  | .rt sv=>some (.rt sv)
  | .ex x δ2=>some (.ex x δ2)
ПUu(K:af)(J:It)(F:Hp)(ds:А D):Prop:=∀F' H,Zf F F'->Zf F' H->∀i:Г,
 (∀d,ds[i]? =some d->J.go i H/\∀x H',J.yld i H x H'->Zf H H'/\∃ns,(Cp ns).Nodup/\(∀p∈ns,H p.1=none/\H' p.1=some p.2)/\Rep K (Qb F' ns) d x)/\(ds.length<=i->J.stop i H)
ПW5(Z:Ent K)(f:FD):TI:=fun σ H R=>∃F δ own ds δ',SR Z F H σ δ own/\f δ=some (ds,δ')/\
 ∀J H' F' own',Zf H H'->Zf F F'->SR Z F' H' σ δ' own'->Uu K J F' ds->R J H'
РBf(fi:FD)(tg:FG)(body:FS):FS:=fun δ=>(fi δ).bind fun p=>Yh tg body p.1 p.2
ОSR.fresh{F H':Hp}{δ:Yf}{own:Г->Zq}{ns:Zq}(s:SR Z F H σ δ own)(sm:Zf H H')(nd:(Cp ns).Nodup)(h:∀p∈ns,H p.1=none/\H' p.1=some p.2):Zf F (Qb F ns)/\SR Z (Qb F ns) H' σ δ own:=by
 R⟨Wt fun p hp=>s.le.free (h p hp).1,(s.grow sm).addF nd (fun p hp=>s.le.free (h p hp).1) (fun p hp=>(h p hp).2) (fun p hp=>s.old.free (h p hp).1) fun i p q hp hq e=>?_⟩
 have z:=(s.ok i q hq).2.2
 rw[<-e,(h p hp).1]at z;C z
ОZpu{fi:FD}{tg:FG}{body:FS}(h:Z1 Z (Bf fi tg body) E σ H):Zao (W5 Z fi) (Ba Z tg) (Z1 Z body) E σ H:=by
 O⟨F,δ,own,fl,s,e,k⟩:=h
 O⟨⟨ds,δ1⟩,e1,e2⟩:=aa.mp e
 R⟨F,δ,own,ds,δ1,s,e1,fun J H1 F1 own1 sH sF s1 yl=>?_⟩
 R⟨fun i m σ H=>m=ds.length- i/\i<=ds.length/\∃F δ own,Zf F1 F/\SR Z F H σ δ own/\Yh tg body (ds.drop i) δ=some fl,⟨ds.length,by simp,dn _,F1,δ1,own1,Zf.refl F1,s1,e2⟩,?_⟩
 rintro i m σ' H' ⟨rfl,hi,F2,δ2,own2,sF2,s2,ef⟩
 by_cases hlt:i<ds.length
 ·have hd:ds[i]? =some ds[i]:=by simp[hlt]
  O⟨go,yy⟩:=(yl F2 H' sF2 s2.le i).1 _ hd
  rw[List.drop_eq_getElem_cons hlt]at ef
  O⟨δ3,e3,e4⟩:=aa.mp ef
  O⟨f1,e5,e6⟩:=aa.mp e4
  R .inr ⟨go,fun σ4 H4=>∃F δ own,Zf F1 F/\SR Z F H4 σ4 δ own/\Yh tg body (ds.drop (i+1)) δ=some fl,fun σ4 H4 ⟨F4,δ4,own4,a,b,c⟩=>⟨ds.length- (i+1),by W,rfl,hlt,F4,δ4,own4,a,b,c⟩,fun x H3 hy=>?_⟩
  O⟨sm,ns,nd,hn,rp⟩:=yy x H3 hy
  O⟨sFn,sn⟩:=s2.fresh sm nd hn
  R⟨Qb F2 ns,δ2,own2,_,δ3,sn,rp,e3,fun σ5 own5 s5 _=>⟨Qb F2 ns,δ3,own5,f1,s5,e5,?_⟩⟩
  cases f1 with
  |nx δ6=>E fun σ6 H6 F6 own6 a b=>⟨F6,δ6,own6,sF2.trans (sFn.trans a),b,e6⟩
  |ct δ6=>E fun σ6 H6 F6 own6 a b=>⟨F6,δ6,own6,sF2.trans (sFn.trans a),b,e6⟩
  |bk δ6=>
   C e6
   E fun σ6 H6 F6 own6 a b=>k σ6 H6 F6 own6 (sF.trans (sF2.trans (sFn.trans a))) b
  |rt sv=>
   C e6
   E fun v H6 F6 ns6 a=>k v H6 F6 ns6 (sF.trans (sF2.trans (sFn.trans a)))
  |ex x δ6=>
   C e6
   E fun σ6 H6 F6 own6 cls od a=>k σ6 H6 F6 own6 cls od (sF.trans (sF2.trans (sFn.trans a)))
 ·have hz:i=ds.length:=by W
  subst hz
  rw[List.drop_length]at ef
  C ef
  E .inl ⟨(yl F2 H' sF2 s2.le _).2 (a7 _),k σ' H' F2 own2 (sF.trans sF2) s2⟩
ПJv(t:FT)(body:FS):Г->Yf->Б Fl
 |0,_=>none
 |n+1,δ=>(t δ).bind fun p=>if p.1=true then(body p.2).bind (fun
  | .nx δ2=>Jv t body n δ2
  | .ct δ2=>Jv t body n δ2
  | .bk δ2=>some (.nx δ2)
  | .rt sv=>some (.rt sv)
  | .ex x δ2=>some (.ex x δ2))else some (.nx p.2)
ОZhw{n:Г}{t:FT}{body:FS}(h:Z1 Z (Jv t body n) E σ H):Zcb (Yg Z t) (Z1 Z body) E σ H:=by
 O⟨F,δ,own,fl,s,e,k⟩:=h
 R⟨fun m σ H=>∃F2 δ own,Zf F F2/\SR Z F2 H σ δ own/\Jv t body m δ=some fl,⟨n,F,δ,own,Zf.refl F,s,e⟩,?_⟩
 rintro m σ1 H1 ⟨F1,δ1,own1,sF1,s1,e1⟩
 cases m with
 |zero=>C e1
 |succ m=>
  O⟨⟨c,δ2⟩,e2,e3⟩:=aa.mp e1
  R⟨F1,δ1,own1,c,δ2,s1,e2,fun H2 F2 own2 sH sF2 s2=>?_⟩
  cases c with
  |false=>
   rw[Д bh]at e3⊢
   C e3
   E k σ1 H2 F2 own2 (sF1.trans sF2) s2
  |true=>
   rw[Е rfl]at e3⊢
   O⟨f1,e4,e5⟩:=aa.mp e3
   R⟨fun σ' H'=>∃F2 δ own,Zf F F2/\SR Z F2 H' σ' δ own/\Jv t body m δ=some fl,fun σ' H' w=>⟨m,Nat.lt_succ_self m,w⟩,F2,δ2,own2,f1,s2,e4,?_⟩
   cases f1 with
   |nx δ6=>E fun σ6 H6 F6 own6 a b=>⟨F6,δ6,own6,sF1.trans (sF2.trans a),b,e5⟩
   |ct δ6=>E fun σ6 H6 F6 own6 a b=>⟨F6,δ6,own6,sF1.trans (sF2.trans a),b,e5⟩
   |bk δ6=>
    C e5
    E fun σ6 H6 F6 own6 a b=>k σ6 H6 F6 own6 (sF1.trans (sF2.trans a)) b
   |rt sv=>
    C e5
    E fun v H6 F6 ns6 a=>k v H6 F6 ns6 (sF1.trans (sF2.trans a))
   |ex x δ6=>
    C e5
    E fun σ6 H6 F6 own6 cls od a=>k σ6 H6 F6 own6 cls od (sF1.trans (sF2.trans a))
РZzh(fe:FE):FD:=fun δ=>(fe δ).bind fun p=>(frz p.1 p.2).bind fun q=>match q.1 with
 | .lst xs=>some (xs,q.2)
 | .tup xs=>some (xs,q.2)
 |_=>none
ПZde(K:af)(tl:TE):TI:=fun σ H R=>tl σ H fun x H1=>(∃a,x= .ref a/\(∃xs,Ws K H1 a xs)/\R (Itl K a) H1)\/(∃a,x= .ref a/\(∃xs,Uh K H1 a xs)/\R (Itt K a) H1)
ОNz{F:Hp}{a:am}{xs:А D}{vs:А V}(h:Ws K F a vs)(r:Reps K F xs vs):Uu K (Itl K a) F xs:=fun F' H sF sH i=>by
 have q:Ws K H a vs:=Y1 (sF.trans sH) h
 R⟨fun d hd=>?_,fun hl=>⟨vs,q,by rw[<-r.length];E hl⟩⟩
 O⟨v,h1,h2⟩:=r.get hd
 R⟨⟨vs,v,q,h1⟩,fun x H' zq9=>?_⟩
 O⟨e1,e2⟩:=zq9
 subst e1
 have e3:=e2 vs q
 rw[h1]at e3;C e3
 E⟨Zf.refl _,[],c7,fun _ h=>(nomatch h),h2.mono sF⟩
ОVb{F:Hp}{a:am}{xs:А D}{vs:А V}(h:Uh K F a vs)(r:Reps K F xs vs):Uu K (Itt K a) F xs:=fun F' H sF sH i=>by
 have q:Uh K H a vs:=W0 (sF.trans sH) h
 R⟨fun d hd=>?_,fun hl=>⟨vs,q,by rw[<-r.length];E hl⟩⟩
 O⟨v,h1,h2⟩:=r.get hd
 R⟨⟨vs,v,q,h1⟩,fun x H' zq9=>?_⟩
 O⟨e1,e2⟩:=zq9
 subst e1
 have e3:=e2 vs q
 rw[h1]at e3;C e3
 E⟨Zf.refl _,[],c7,fun _ h=>(nomatch h),h2.mono sF⟩
ПMl(lo:Int)(n:Г):А D:=(cr n).map fun i=>.int (lo+(i:Г))
ОK5{lo:Int}{n:Г}{F:Hp}:Uu K (Itr lo n) F (Ml lo n):=fun F' H sF sH i=>by
 have hl:(Ml lo n).length=n:=by unfold Ml;rw[ao,List.length_range]
 R⟨fun d hd=>?_,fun h=>by rw[hl]at h;E h⟩
 have hi:i<n:=by
  have:=(ax.mp hd).1
  rw[hl]at this;E this
 R⟨hi,fun x H' zq9=>?_⟩
 O⟨e1,e2⟩:=zq9
 subst e1 e2
 unfold Ml at hd
 rw[bf,List.getElem?_range hi]at hd
 C hd
 E⟨Zf.refl _,[],c7,fun _ h=>(nomatch h),.int _⟩
ПK6(j:Int):Prop:=-(2^62)<=j/\j<2^62
ОZhx{j:Int}(h0:0<=j)(h:j<=16777216):K6 j:=⟨by W,by W⟩
ОTu{n:Г}(h:n<=16777216):K6 (n:Int):=Zhx И И
open Classical in
РZdf(fa:FA):FD:=fun δ=>(fa δ).bind fun p=>match Uk p.1 p.2 with
 |some [.int j]=>if K6 j then some (Ml 0 j.toNat,p.2)else none
 |_=>none
ОZmg{fa:FA}{R:It->Hp->В}(h:W5 Z (Zdf fa) σ H R):Zjv (O9 Z fa) σ H R:=by
 O⟨F,δ,own,ds,δ',s,e,k⟩:=h
 O⟨⟨rvs,δ1⟩,e1,e2⟩:=aa.mp e
 R⟨F,δ,own,rvs,δ1,s,e1,fun vs H1 F1 own1 sH sF s1 r1=>?_⟩
 dsimp only at e2
 split at e2
 ·rename_i j hj
  have rn:=s1.rdAll r1 hj
  cases rn with
  |cons h t=>
   C t
   by_cases hb:K6 j
   ·rw[Е hb]at e2
    C e2
    E⟨j,by rw[h.int],hb.1,hb.2,k _ H1 F1 own1 sH sF s1 K5⟩
   ·rw[Д hb]at e2;C e2
 ·C e2
РTv(i:Г)(fe:FE):FS:=fun δ=>match δ[i]? with
 |some (some (.ol _))=>(fe δ).bind fun p=>(frz p.1 p.2).bind fun q=>match q.2[i]? with
  |some (some (.ol xs))=>if xs.length<a8 then some (.nx (q.2.set i (some (.ol (xs++[q.1])))))else none
  |_=>none
 |_=>none
ОJw{F:Hp}{xs:А D}{v:V}{ns:Zq}(h:Shape K F (.ol xs) v ns):∃a vs,v= .ref a/\ns=[(a,.lst vs)]/\Reps K F xs vs:=by
 cases h with
 |ol r=>E⟨_,_,rfl,rfl,r⟩
ОZpv{i:Г}{fe:FE}(h:Z1 Z (Tv i fe) E σ H):Bk (tBM K "list" Qw (Q8 i) (Jq (Zc Z fe) Rw)) E σ H:=by
 O⟨F,δ,own,fl,s,e,k⟩:=h
 unfold Tv at e
 split at e
 ·rename_i xs0 hx0
  O⟨⟨rv,δ1⟩,e1,e2⟩:=aa.mp e
  O⟨⟨d,δ2⟩,e3,e4⟩:=aa.mp e2
  O⟨v,hv,sh⟩:=s.at' i _ hx0
  O⟨a,vs0,ev,en,r0⟩:=Jw sh
  R⟨v,hv,?_,F,δ,own,rv,δ1,s,e1,fun y H1 F1 own1 sH sF s1 r1=>?_⟩
  ·subst ev
   E .inl ⟨rfl,vs0,.inl (.inl (s.ok i (a,.lst vs0) (by rw[en];E aj)).2.2)⟩
  O⟨F2,sF2,s2,r2⟩:=s1.settleR r1
  O⟨F3,own3,sF3,s3,r3⟩:=s2.frzR r2 e3
  dsimp only at e4
  split at e4
  ·rename_i xs hx
   by_cases hz:xs.length<a8
   ·rw[Е hz]at e4
    C e4
    O⟨v',hv',sh'⟩:=s3.at' i _ hx
    rw[hv]at hv';C hv'
    O⟨b,vs,eb,en',r'⟩:=Jw sh'
    have mb:(b,HO.lst vs)∈own3 i:=by rw[en'];E aj
    subst eb
    R⟨b,vs,y,rfl,rfl,(s3.ok i _ mb).2.2,by rw[<-r'.length];E hz,?_⟩
    E k σ _ F3 _ (sF.trans (sF2.trans sF3)) (s3.change (sv':=.ol (xs++[d])) (o':=.lst (vs++[y])) (ns':=[(b,.lst (vs++[y]))]) hx hv mb (.ol (r'.snoc r3)) (fun p hp=>.inl (au.mp hp)) Ep)
   ·rw[Д hz]at e4;C e4
  ·C e4
 ·C e
end
РTw(n:Г)(ds:А D):Yf:=ds.map (fun d=>some (.fz d))++List.replicate (n- ds.length) none
ОN0{N:А Str}{F H:Hp}{ds:А D}{vs:А V}(le:Zf F H)(r:Reps K F ds vs):SR (ent H F:Ent K) F H (L2.O7 N vs) (Tw N.length ds) fun _=>[]:=by
 have hl:=r.length
 R⟨le,fun b o e=>.inl e,Zf.refl H,?_,fun i sv e=>?_,fun _=>c7,fun _ _ h=>(nomatch h),fun _ _ _ _ _ h=>(nomatch h)⟩
 ·unfold L2.O7 Tw
  rw[bj,bj,ao,ao,List.length_replicate,List.length_replicate,hl]
 ·unfold Tw at e
  by_cases hi:i<ds.length
  ·rw[List.getElem?_append_left (by simpa using hi),bf]at e
   cases hd:ds[i]? with
   |none=>rw[hd]at e;C e
   |some d=>
    rw[hd]at e;C e
    O⟨v,h1,h2⟩:=r.get hd
    R⟨v,?_,.fz h2⟩
    unfold L2.O7
    rw[List.getElem?_append_left (by rw[ao];W),bf,h1]
    rfl
  ·rw[List.getElem?_append_right (by simpa using hi),List.getElem?_replicate]at e
   split at e<;> C e
ОZdg{n:Г}{g:А D->Б SV}{vs:А V}{H:Hp}{Q:VK}{E:XK}(h:Y5 K n g vs H Q E):vs.length=n:=by
 O⟨F,ds,sv,le,r,hn,e,k⟩:=h
 rw[<-r.length];E hn
end DL
namespace DL
open PySem L2
variable{K:af}
ПxG(K:af)(g:FG):TG:=fun v σ H Q=>∃Z:Ent K,Ba Z g v σ H Q
ПxT(K:af)(f:FT):TT:=fun σ H Q=>∃Z:Ent K,Yg Z f σ H Q
ПxE(K:af)(f:FE):TE:=fun σ H Q=>∃Z:Ent K,Zc Z f σ H Q
ПQ3:FT:=fun δ=>some (true,δ)
@[simp] theorem Zpw(δ:Yf):Q3 δ=some (true,δ):=rfl
Рcaps(src:А BSrc):А RV:=src.filterMap fun
 | .cap j=>some (.bw j)
 |_=>none
РVc(δ:Yf):BSrc->Б SV
 | .own=>none
 | .cap j=>match δ[j]?.join with
  |some (.fz d)=>some (.fz d)
  |_=>none
 | .acc=>some (.ol [])
РbD(src:А BSrc)(δ:Yf):Yf:=src.map (Vc δ)
РresetSlot:BSrc->Б SV->Б SV
 | .own,_=>none
 |_,o=>o
РU5:А BSrc->Yf->Yf
 |b::r,o::t=>resetSlot b o::U5 r t
 |_,t=>t
РY7(src:А BSrc)(k:Г)(g:FG)(tt:FT)(te:FE):А D->Yf->Б Yf
 | [],δ=>some δ
 |d::ds,δ=>(g.run d δ).bind fun δ1=>(tt δ1).bind fun p=>if p.1=true then(te p.2).bind fun q=>(frz q.1 q.2).bind fun r=>match r.2[k]? with
   |some (some (.ol zs))=>if zs.length<a8 then Y7 src k g tt te ds (U5 src (r.2.set k (some (.ol (zs++[r.1])))))else none
   |_=>none
  else Y7 src k g tt te ds (U5 src p.2)
РBb(src:А BSrc)(k:Г)(fi:FD)(g:FG)(tt:FT)(te:FE):FE:=fun δ=>(fi δ).bind fun p=>(frzAll (caps src) p.2).bind fun c=>(Y7 src k g tt te p.1 (bD src c.2)).bind fun δb=>match δb[k]? with
 |some (some (.ol ys))=>some (.tmp (.ol ys),c.2)
 |_=>none
ОRy:∀(src:А BSrc) (δ:Yf),(U5 src δ).length=δ.length
 | [],t=>by unfold U5;rfl
 |_::_,[]=>by unfold U5;rfl
 |b::r,o::t=>by show(resetSlot b o::U5 r t).length=_;rw[bn,bn,Ry r t]
ОRz:∀{src:А BSrc} {δ:Yf} {i:Г} {sv:SV},(U5 src δ)[i]? =some (some sv)->δ[i]? =some (some sv)
 | [],_,_,_,h=>h
 |_::_,[],_,_,h=>h
 |b::r,o::t,0,sv,h=>by
  have h:some (resetSlot b o)=some (some sv):=h
  cases b with
  |own=>C h
  |cap j=>E h
  |acc=>E h
 |b::r,o::t,i+1,sv,h=>by
  have h:(U5 r t)[i]? =some (some sv):=h
  show t[i]? =_
  E Rz h
section
variable{Z:Ent K}{F H:Hp}{σ:St}{δ δ':Yf}{own:Г->Zq}
ОSR.forget(s:SR Z F H σ δ own)(hl:δ'.length=δ.length)(h:∀(i:Г) (sv:SV),δ'[i]? =some (some sv)->δ[i]? =some (some sv)):SR Z F H σ δ' own:=
 ⟨s.le,s.fro,s.old,s.len.trans hl.symm,fun i sv e=>s.at' i sv (h i sv e),s.nod,s.ok,s.sep⟩
ОSR.caps:∀{rvs:А RV} {ds:А D} {δ δ':Yf} {F:Hp} {own:Г->Zq},(∀rv∈rvs,∃j,rv= .bw j)->SR Z F H σ δ own->DL.frzAll rvs δ=some (ds,δ')->∃F1 own1,Zf F F1/\SR Z F1 H σ δ' own1
 | [],_,_,_,F,own,_,s,e=>by C e;E⟨F,own,Zf.refl F,s⟩
 |rv::r,_,_,_,F,own,hb,s,e=>by
  O⟨⟨d,δ1⟩,e1,e2⟩:=aa.mp e
  O⟨⟨ds,δ2⟩,e3,e4⟩:=aa.mp e2
  C e4
  O⟨j,rfl⟩:=hb rv aj
  O⟨sv,e5,e6⟩:=aa.mp e1
  C e6
  O⟨F1,v,sF,_,_,s1⟩:=s.freeze (U4 e5)
  O⟨F2,own2,sF2,s2⟩:=SR.caps (fun rv h=>hb rv (ar _ h)) s1 e3
  E⟨F2,own2,sF.trans sF2,s2⟩
ОSR.after{F3 H3:Hp}(s2:SR Z F H σ δ own)(sH3:Zf H H3)(sF3:Zf F F3)(le3:Zf F3 H3)(fro3:∀(b:am) (o:HO),F3 b=some o->F b=some o\/H b=none):SR Z F3 H3 σ δ own:=by
 R⟨le3,fun b o e=>?_,s2.old.trans sH3,s2.len,fun i sw ei=>?_,s2.nod,fun i p hp=>?_,s2.sep⟩
 ·rcases fro3 b o e with z|z
  ·E s2.fro b o z
  ·E .inr (s2.old.free z)
 ·O⟨w,h1,h2⟩:=s2.at' i sw ei
  E⟨w,h1,h2.mono sF3⟩
 ·O⟨a,b,c⟩:=s2.ok i p hp
  R⟨?_,b,sH3 _ _ c⟩
  cases z:F3 p.1 with
  |none=>rfl
  |some u=>
   rcases fro3 _ u z with y|y
   ·rw[a]at y;C y
   ·rw[c]at y;C y
end
structure SrcOk(src:А BSrc)(k:Г):В where
 acc:src[k]? =some .acc
 uni:∀i:Г,src[i]? =some .acc->i=k
ОZdh{Z:Ent K}{F H:Hp}{σ:St}{δ:Yf}{own:Г->Zq}{src:А BSrc}{k:Г}{acc:am}(S:SrcOk src k)(s:SR Z F H σ δ own)(ha:H acc=none):
  SR (ent H F:Ent K) F (Z5 H acc (.lst [])) (Ss src σ acc) (bD src δ) (fun i=>if i=k then[(acc,.lst [])]else[]):=by
 have mem:∀{i:Г} {p:am×HO},p∈(if i=k then[(acc,HO.lst [])]else[])->i=k/\p=(acc,.lst []):=fun{i p} h=>by
  by_cases hi:i=k
  ·rw[Е hi]at h;E⟨hi,au.mp h⟩
  ·rw[Д hi]at h;E nomatch h
 R⟨s.le.trans (Qe ha),fun b o e=>.inl e,Qe ha,by unfold Ss bD;rw[ao,ao],fun i sv e=>?_,fun i=>?_,fun i p hp=>?_,fun i j p q hij hp hq=>?_⟩
 ·unfold bD at e
  rw[bf]at e
  cases hq:src[i]? with
  |none=>rw[hq]at e;C e
  |some q=>
   rw[hq]at e
   have e:Vc δ q=some sv:=dm.inj e
   cases q with
   |own=>C e
   |acc=>
    C e
    have hi:=S.uni i hq
    R⟨.ref acc,by unfold Ss;rw[bf,hq];rfl,?_⟩
    show Shape K F (.ol []) (.ref acc) (if i=k then[(acc,.lst [])]else[])
    rw[Е hi]
    E .ol .nil
   |cap j=>
    have hi:i≠k:=fun z=>by rw[z,S.acc]at hq;C hq
    unfold Vc at e
    dsimp only at e
    split at e
    ·rename_i d hd
     C e
     O⟨v,h1,h2⟩:=s.at' j _ (U4 hd)
     R⟨v,by unfold Ss;rw[bf,hq];show some (σ[j]?).join=_;rw[h1];rfl,?_⟩
     show Shape K F (.fz d) v (if i=k then[(acc,.lst [])]else[])
     rw[Д hi]
     E .fz (Q2 h2)
    ·C e
 ·show(Cp (if i=k then[(acc,HO.lst [])]else[])).Nodup
  by_cases hi:i=k
  ·rw[Е hi];E Ep
  ·rw[Д hi];E c7
 ·O⟨_,rfl⟩:=mem hp
  E⟨s.le.free ha,ha,Z3⟩
 ·O⟨z,_⟩:=mem hp
  O⟨y,_⟩:=mem hq
  E absurd (z.trans y.symm) hij
ОZdi{Z:Ent K}{H:Hp}{σ:St}{Q:VK}{src:А BSrc}{k:Г}{fi:FD}{g:FG}{tt:FT}{te:FE}(S:SrcOk src k)(hk:k∉g.tch)(h:Zc Z (Bb src k fi g tt te) σ H Q):
  Zc6 src (W5 Z fi) (xG K g) (xT K tt) (xE K te) σ H Q:=by
 O⟨F,δ,own,rv,δ',s,e,k0⟩:=h
 O⟨⟨ds,δ1⟩,e1,e2⟩:=aa.mp e
 O⟨⟨cs,δ2⟩,e3,e4⟩:=aa.mp e2
 O⟨δf,e5,e6⟩:=aa.mp e4
 R⟨F,δ,own,ds,δ1,s,e1,fun J H1 F1 own1 sH sF s1 yl acc ha=>?_⟩
 O⟨F2,own2,sF2,s2⟩:=s1.caps (fun rv hr=>by
  unfold DL.caps at hr
  O⟨b,_,hb⟩:=List.mem_filterMap.mp hr
  cases b with
  |own=>C hb
  |acc=>C hb
  |cap j=>C hb;E⟨j,rfl⟩) e3
 have s3:=Zdh S s2 ha
 have hacc0:(Ss src σ acc)[k]? =some (some (.ref acc)):=by unfold Ss;rw[bf,S.acc];rfl
 R⟨fun i m σ' H=>m=ds.length- i/\i<=ds.length/\σ'[k]? =some (some (.ref acc))/\∃F δ own,Zf F2 F/\SR (ent H1 F2:Ent K) F H σ' δ own/\Y7 src k g tt te (ds.drop i) δ=some δf,
  ⟨ds.length,by simp,dn _,hacc0,F2,_,_,Zf.refl F2,s3,e5⟩,?_⟩
 rintro i m σ4 H4 ⟨rfl,hi,hacc,F4,δ4,own4,sF4,s4,ef⟩
 by_cases hlt:i<ds.length
 ·have hd:ds[i]? =some ds[i]:=by simp[hlt]
  O⟨go,yy⟩:=(yl F4 H4 (sF2.trans sF4) s4.le i).1 _ hd
  rw[List.drop_eq_getElem_cons hlt]at ef
  O⟨δ5,e7,e8⟩:=aa.mp ef
  O⟨⟨b,δ6⟩,e9,e10⟩:=aa.mp e8
  R .inr ⟨go,fun x H5 hy=>?_⟩
  O⟨sm,ns,nd,hn,rp⟩:=yy x H5 hy
  O⟨sFn,sn⟩:=s4.fresh sm nd hn
  R⟨(ent H1 F2:Ent K),Qb F4 ns,δ4,own4,_,δ5,sn,rp,e7,fun σ6 own6 s6 t6=>⟨(ent H1 F2:Ent K),Qb F4 ns,δ5,own6,b,δ6,s6,e9,fun H7 F7 own7 sH7 sF7 s7=>?_⟩⟩
  have hacc6:σ6[k]? =some (some (.ref acc)):=(t6 k hk).trans hacc
  cases b with
  |false=>
   dsimp only
   rw[Д bh]at e10⊢
   E⟨ds.length- (i+1),by W,rfl,hlt,hacc6,F7,_,own7,sF4.trans (sFn.trans sF7),s7.forget (Ry src δ6) (fun j sv hj=>Rz hj),e10⟩
  |true=>
   dsimp only
   rw[Е rfl]at e10⊢
   O⟨⟨rv8,δ8⟩,e11,e12⟩:=aa.mp e10
   O⟨⟨d9,δ9⟩,e13,e14⟩:=aa.mp e12
   R⟨(ent H1 F2:Ent K),F7,δ6,own7,rv8,δ8,s7,e11,fun y H8 F8 own8 sH8 sF8 s8 r8=>?_⟩
   O⟨F9,sF9,s9,r9⟩:=s8.settleR r8
   O⟨F10,own10,sF10,s10,r10⟩:=s9.frzR r9 e13
   dsimp only at e14
   split at e14
   ·rename_i zs hz
    by_cases hzl:zs.length<a8
    ·rw[Е hzl]at e14
     O⟨v',hv',sh'⟩:=s10.at' k _ hz
     rw[hacc6]at hv';C hv'
     O⟨b,vs,eb,en',r'⟩:=Jw sh'
     C eb
     have mb:(acc,HO.lst vs)∈own10 k:=by rw[en'];E aj
     R⟨acc,vs,y,rfl,rfl,(s10.ok k _ mb).2.2,by rw[<-r'.length];E hzl,?_⟩
     have s11:=s10.change (sv':=.ol (zs++[d9])) (o':=.lst (vs++[y])) (ns':=[(acc,.lst (vs++[y]))]) hz hacc6 mb (.ol (r'.snoc r10)) (fun p hp=>.inl (au.mp hp)) Ep
     E⟨ds.length- (i+1),by W,rfl,hlt,hacc6,F10,_,_,sF4.trans (sFn.trans (sF7.trans (sF8.trans (sF9.trans sF10)))),s11.forget (Ry src _) (fun j sv hj=>Rz hj),e14⟩
    ·rw[Д hzl]at e14;C e14
   ·C e14
 ·have hz:i=ds.length:=by W
  subst hz
  rw[List.drop_length]at ef
  C ef
  R .inl ⟨(yl F4 H4 (sF2.trans sF4) s4.le _).2 (a7 _),?_⟩
  dsimp only at e6
  split at e6
  ·rename_i ys hys
   C e6
   O⟨v',hv',sh'⟩:=s4.at' k _ hys
   rw[hacc]at hv';C hv'
   O⟨b,vs,eb,en',r'⟩:=Jw sh'
   C eb
   have mb:(acc,HO.lst vs)∈own4 k:=by rw[en'];E aj
   O⟨o1,o2,o3⟩:=s4.ok k _ mb
   R k0 (.ref acc) H4 F4 own2 (sH.trans s4.old) (sF.trans (sF2.trans sF4)) (s2.after s4.old sF4 s4.le fun b o e=>s4.fro b o e) ⟨[(acc,.lst vs)],.ol r',Ep,fun p hp=>?_,fun j p q hp hq e=>?_⟩
   ·obtain rfl:=au.mp hp
    E⟨o1,s2.old.free ha,o3⟩
   ·obtain rfl:=au.mp hp
    have z:=(s2.ok j q hq).2.2
    have e':acc=q.1:=e
    rw[<-e',ha]at z;C z
  ·C e6
end DL
namespace DL
open PySem PySem.Spec PyProof.Rows L2
variable{K:af}
variable{Z:Ent K}
РVd(f:Int->Int->D):D->D->Б SV
 | .int i,.int j=>some (.fz (f i j))
 |_,_=>none
РZa0(C:Int->Int->Bool)(f:Int->Int->D):D->D->Б SV
 | .int i,.int j=>if C i j=true then some (.fz (f i j))else none
 |_,_=>none
ОZkb{g:Int->Int->V}{f:Int->Int->D}(hr:∀F i j,Rep K F (f i j) (g i j)):Y4 Z (rI0 g) (Vd f):=by
 intro F H σ δ own x y d1 d2 sv Q s r1 r2 e k
 unfold Vd at e
 split at e
 ·C e
  E⟨_,_,r1.int,r2.int,k.fz s (hr _ _ _)⟩
 ·C e
ОZmh{C:Int->Int->В}{c:Int->Int->Bool}{g:Int->Int->V}{f:Int->Int->D}(hc:∀i j,c i j=true->C i j)(hr:∀F i j,Rep K F (f i j) (g i j)):Y4 Z (rI C g) (Za0 c f):=by
 intro F H σ δ own x y d1 d2 sv Q s r1 r2 e k
 unfold Za0 at e
 split at e
 ·split at e
  ·rename_i hcc
   C e
   E⟨_,_,r1.int,r2.int,hc _ _ hcc,k.fz s (hr _ _ _)⟩
  ·C e
 ·C e
РZzi:D->D->Б SV:=Vd fun i j=>.int (i- j)
ПZdj(i j:Int):Bool:=(decide (-(2^64)<i)&&decide (i<2^64))|| (decide (-(2^64)<j)&&decide (j<2^64))
РZpx:D->D->Б SV:=Za0 Zdj fun i j=>.int (i*j)
РZpy(i j:Int):Bool:=decide (0<j)&&decide (j<1073741824)
РCq:D->D->Б SV:=Za0 Zpy fun i j=>.int (i / j)
РZpz(i j:Int):Bool:=decide (0<j)
РCi:D->D->Б SV:=Za0 Zpz fun i j=>.int (i % j)
РZuk(i j:Int):Bool:=decide (0<=j)&&decide (j<=1000000)&&decide (i.natAbs<2^64)
РZzj:D->D->Б SV:=Za0 Zuk fun i j=>.int (i^j.toNat)
ОZp0:Y4 Z (rI Zcf fun i j=>V.int (i*j)) Zpx:=Zmh (fun i j h=>by
 unfold Zdj at h
 simp only[Bool.or_eq_true,Bool.and_eq_true,decide_eq_true_eq]at h
 E h) fun _ _ _=>.int _
ОZmi:Y4 Z (rI Zo3 fun i j=>V.int (i / j)) Cq:=Zmh (fun i j h=>by
 unfold Zpy at h
 simp only[Bool.and_eq_true,decide_eq_true_eq]at h
 E h) fun _ _ _=>.int _
ОZp1:Y4 Z (rI (fun _ j=>0<j) fun i j=>V.int (i % j)) Ci:=Zmh (fun i j h=>by
 unfold Zpz at h
 simp only[decide_eq_true_eq]at h
 E h) fun _ _ _=>.int _
РJk:D->D->Б SV:=Vd fun i j=>.bl (decide (i<j))
РleD:D->D->Б SV:=Vd fun i j=>.bl (decide (i<=j))
РgtD:D->D->Б SV:=Vd fun i j=>.bl (decide (j<i))
РgeD:D->D->Б SV:=Vd fun i j=>.bl (decide (j<=i))
ОZul:Y4 Z (rI0 fun i j=>V.bl (decide (i<j))) Jk:=Zkb fun _ _ _=>.bl _
ОZum:Y4 Z (rI0 fun i j=>V.bl (decide (j<i))) gtD:=Zkb fun _ _ _=>.bl _
ПZun:R2:=fun x y H Q=>∃i j,x= .str i/\y= .str j/\i.length+j.length<=a8/\Q (.str (i++j)) H
ПZkc(K:af):R2:=fun x y H Q=>∃l b xs zs,x= .ref l/\y= .ref b/\Ws K H l xs/\Ws K H b zs/\xs.length+zs.length<=a8/\∀p,H p=none->Q (.ref p) (Z5 H p (.lst (xs++zs)))
ОZhy{X:Cx}:Bl X (binaryOp .Add) (Zkc X.K):=by
 intro pins s σ H x y v u Q I rx ry h
 O⟨l,b,xs,zs,rfl,rfl,hH,hB,hz,q⟩:=h
 C rx
 C ry
 O⟨its,r,pl,z⟩:=I.list hH
 O⟨its2,r2,pl2,z2⟩:=I.list hB
 have hl:=r.length
 have hl2:=r2.length
 O⟨⟨cls,dd,data,sl⟩,ho,hc,n,hd⟩:=pl.isList
 O⟨⟨cls2,dd2,data2,sl2⟩,ho2,hc2,n2,hd2⟩:=pl2.isList
 simp only at hc hd hc2 hd2
 subst hc hd hc2 hd2
 have ea:its.toArray++its2.toArray=(its++its2).toArray:=by simp
 R concat_meets ⟨_,ho,rfl⟩ ⟨_,ho2,rfl⟩ noFill_list_add seq_list_add PySem.F.slot_list_add PySem.F.entry_list_add (PySem.F.args_list_add_2 _ _) (list_addW l b its.toArray its2.toArray n n2 dd dd2 sl sl2 (by rw[bi,bi];W)) ⟨ho,ho2,?_⟩
 rw[ea]
 E⟨.ref _,_,I.lnew (t':=s.toks) (r.append r2) (by rw[bj];W),rfl,q _ I.fresh⟩
ПZkd(K:af):R2:=fun x y H Q=>rI0 (fun i j=>V.int (i+j)) x y H Q\/(Zun x y H Q\/Zkc K x y H Q)
ОZhz{X:Cx}:Bl X (binaryOp .Add) (Zkd X.K):=Zlx.or (S0.or Zhy)
РCj:D->D->Б SV
 | .int i,.int j=>some (.fz (.int (i+j)))
 | .str x,.str y=>if x.length+y.length<=a8 then some (.fz (.str (x++y)))else none
 | .lst xs,.lst ys=>if xs.length+ys.length<=a8 then some (.ol (xs++ys))else none
 |_,_=>none
ОZp2:Y4 Z (Zkd K) Cj:=by
 intro F H σ δ own x y d1 d2 sv Q s r1 r2 e k
 unfold Cj at e
 split at e
 ·C e
  E .inl ⟨_,_,r1.int,r2.int,k.fz s (.int _)⟩
 ·split at e
  ·rename_i hz
   C e
   E .inr (.inl ⟨_,_,r1.str,r2.str,hz,k.fz s (.str _)⟩)
  ·C e
 ·split at e
  ·rename_i hz
   C e
   O⟨a,vs,ex,ha,ra⟩:=r1.lst s.le
   O⟨b,us,ey,hb,rb⟩:=r2.lst s.le
   E .inr (.inr ⟨a,b,vs,us,ex,ey,ha,hb,by rw[<-ra.length,<-rb.length];E hz,fun p hp=>k.lst s (ra.append rb) hp⟩)
  ·C e
 ·C e
РeqS:D->D->Б Bool
 | .non,.non=>some true
 | .non,.int _=>some false
 | .int _,.non=>some false
 | .non,.bl _=>some false
 | .bl _,.non=>some false
 | .non,.str _=>some false
 | .str _,.non=>some false
 | .int i,.int j=>some (decide (i=j))
 | .bl i,.bl j=>some (decide (i=j))
 | .str i,.str j=>some (decide (i=j))
 | .int _,.str _=>some false
 | .str _,.int _=>some false
 | .bl _,.str _=>some false
 | .str _,.bl _=>some false
 |_,_=>none
ОZdk{F H:Hp}{d1 d2:D}{x y:V}{b:Bool}(e:eqS d1 d2=some b)(r1:Z7 K F H d1 x)(r2:Z7 K F H d2 y):scal x y=true/\b=decide (x=y):=by
 unfold eqS at e
 split at e<;> C e
 ·rw[r1.non,r2.non];E⟨rfl,by simp⟩
 ·rw[r1.non,r2.int];E⟨rfl,by simp⟩
 ·rw[r1.int,r2.non];E⟨rfl,by simp⟩
 ·rw[r1.non,r2.bl];E⟨rfl,by simp⟩
 ·rw[r1.bl,r2.non];E⟨rfl,by simp⟩
 ·rw[r1.non,r2.str];E⟨rfl,by simp⟩
 ·rw[r1.str,r2.non];E⟨rfl,by simp⟩
 ·rw[r1.int,r2.int];E⟨rfl,by simp⟩
 ·rw[r1.bl,r2.bl];E⟨rfl,by simp⟩
 ·rw[r1.str,r2.str];E⟨rfl,by simp⟩
 ·rw[r1.int,r2.str];E⟨rfl,by simp⟩
 ·rw[r1.str,r2.int];E⟨rfl,by simp⟩
 ·rw[r1.bl,r2.str];E⟨rfl,by simp⟩
 ·rw[r1.str,r2.bl];E⟨rfl,by simp⟩
РeqD(d1 d2:D):Б SV:=(eqS d1 d2).bind fun b=>some (.fz (.bl b))
РneD(d1 d2:D):Б SV:=(eqS d1 d2).bind fun b=>some (.fz (.bl (!b)))
ОZuq:Y4 Z rEq eqD:=by
 intro F H σ δ own x y d1 d2 sv Q s r1 r2 e k
 O⟨b,e1,e2⟩:=aa.mp e
 C e2
 O⟨h1,h2⟩:=Zdk e1 r1 r2
 subst h2
 E⟨h1,k.fz s (.bl _)⟩
ОZur:Y4 Z rNe neD:=by
 intro F H σ δ own x y d1 d2 sv Q s r1 r2 e k
 O⟨b,e1,e2⟩:=aa.mp e
 C e2
 O⟨h1,h2⟩:=Zdk e1 r1 r2
 subst h2
 E⟨h1,k.fz s (.bl _)⟩
РD.isNon:D->Bool
 | .non=>true
 |_=>false
РZzk(d1 d2:D):Б SV:=if d2.isNon=true then some (.fz (.bl d1.isNon))else none
РZw3(d1 d2:D):Б SV:=if d2.isNon=true then some (.fz (.bl (!d1.isNon)))else none
ОReps.atI{F:Hp}{xs:А D}{vs:А V}{i:Int}{d:D}(r:Reps K F xs vs)(e:L2.atI xs i=some d):∃v,L2.atI vs i=some v/\Rep K F d v:=by
 unfold L2.atI at e⊢
 O⟨j,e1,e2⟩:=aa.mp e
 O⟨v,h1,h2⟩:=r.get e2
 E⟨v,aa.mpr ⟨j,by rw[<-r.length];E e1,h1⟩,h2⟩
РixD:D->D->Б SV
 | .lst xs,.int i=>(L2.atI xs i).bind fun d=>some (.fz d)
 | .tup xs,.int i=>(L2.atI xs i).bind fun d=>some (.fz d)
 | .str z,.int i=>if z.length<=a8 then(L2.atI z.cps.toList i).bind fun c=>some (.fz (.str ⟨#[c]⟩))else none
 |_,_=>none
ОZp4:Y4 Z (rIx K) ixD:=by
 intro F H σ δ own x y d1 d2 sv Q s r1 r2 e k
 unfold ixD at e
 split at e
 ·O⟨d,e1,e2⟩:=aa.mp e
  C e2
  O⟨a,vs,ex,ha,ra⟩:=r1.lst s.le
  O⟨v,h1,h2⟩:=ra.atI e1
  E .inl ⟨a,vs,_,v,ex,r2.int,ha,h1,k.fz s h2⟩
 ·O⟨d,e1,e2⟩:=aa.mp e
  C e2
  O⟨a,vs,ex,ha,ra⟩:=r1.tup s.le
  O⟨v,h1,h2⟩:=ra.atI e1
  E .inr (.inl ⟨a,vs,_,v,ex,r2.int,ha,h1,k.fz s h2⟩)
 ·split at e
  ·rename_i hz
   O⟨c,e1,e2⟩:=aa.mp e
   C e2
   E .inr (.inr ⟨_,_,c,r1.str,r2.int,hz,e1,k.fz s (.str _)⟩)
  ·C e
 ·C e
noncomputable abbrev FO:=Yf->Б (Б Int×Yf)
ПMm(Z:Ent K)(f:FO):TO:=fun σ H Q=>∃F δ own o δ',SR Z F H σ δ own/\f δ=some (o,δ')/\∀H' F' own',Zf H H'->Zf F F'->SR Z F' H' σ δ' own'->Q o H'
РVe:FO:=fun δ=>some (none,δ)
РN1(fe:FE):FO:=fun δ=>(fe δ).bind fun p=>match p.1 with
 | .tmp (.fz (.int i))=>some (some i,p.2)
 |_=>none
section
variable{H:Hp}{σ:L2.St}{Q:VK}{R:Б Int->Hp->В}
ОZdl(h:Mm Z Ve σ H R):Ha σ H R:=by
 O⟨F,δ,own,o,δ',s,e,k⟩:=h
 C e
 E k H F own (Zf.refl H) (Zf.refl F) s
ОZmj{fe:FE}(h:Mm Z (N1 fe) σ H R):Zjz (Zc Z fe) σ H R:=by
 O⟨F,δ,own,b,δ',s,e,k⟩:=h
 O⟨⟨rv,δ1⟩,e1,e2⟩:=aa.mp e
 R⟨F,δ,own,rv,δ1,s,e1,fun v H1 F1 own1 sH sF s1 r1=>?_⟩
 dsimp only at e2
 split at e2
 ·C e2
  O⟨ns,t⟩:=r1
  cases Q2 t.sh
  E⟨_,rfl,k H1 F1 own1 sH sF s1⟩
 ·C e2
РslF(g:D->Б Int->Б Int->Б SV)(fe:FE)(fl fh:FO):FE:=fun δ=>(fe δ).bind fun p=>(fl p.2).bind fun l=>(fh l.2).bind fun h=>(Kx p.1 h.2).bind fun d=>(g d l.1 h.1).bind fun sv=>some (.tmp sv,h.2)
ПZkf(Z:Ent K)(r:V->Б Int->Б Int->Hp->VK->В)(g:D->Б Int->Б Int->Б SV):Prop:=
 ∀(F H:Hp) (σ:L2.St) (δ:Yf) (own:Г->Zq) (x:V) (d:D) (lo hi:Б Int) (sv:SV) (Q:VK),SR Z F H σ δ own->Z7 K F H d x->g d lo hi=some sv->Fin Z F H σ δ own sv Q->r x lo hi H Q
ОZus{r:V->Б Int->Б Int->Hp->VK->В}{g:D->Б Int->Б Int->Б SV}{fe:FE}{fl fh:FO}(hg:Zkf Z r g)(h:Zc Z (slF g fe fl fh) σ H Q):tSl r (Zc Z fe) (Mm Z fl) (Mm Z fh) σ H Q:=by
 O⟨F,δ,own,rv,δ',s,e,k⟩:=h
 O⟨⟨rv1,δ1⟩,e1,e⟩:=aa.mp e
 O⟨⟨lo,δ2⟩,e2,e⟩:=aa.mp e
 O⟨⟨hi,δ3⟩,e3,e⟩:=aa.mp e
 O⟨d,e4,e⟩:=aa.mp e
 O⟨sv,e5,e⟩:=aa.mp e
 C e
 R⟨F,δ,own,rv1,δ1,s,e1,fun v H1 F1 own1 sH1 sF1 s1 r1=>?_⟩
 O⟨F1',sF1',s1',r1'⟩:=s1.settleR r1
 R⟨F1',δ1,own1,lo,δ2,s1',e2,fun H2 F2 own2 sH2 sF2 s2=>⟨F2,δ2,own2,hi,δ3,s2,e3,fun H3 F3 own3 sH3 sF3 s3=>?_⟩⟩
 E hg F3 H3 σ δ3 own3 v d lo hi sv Q s3 (s3.rd (r1'.mono (sF2.trans sF3)) e4) e5 fun q H4 F4 ns sH4 sF4 s4 t4=>
  k q H4 F4 own3 (sH1.trans (sH2.trans (sH3.trans sH4))) (sF1.trans (sF1'.trans (sF2.trans (sF3.trans sF4)))) s4 ⟨ns,t4⟩
end
ПEu(xs:А D)(lo hi:Б Int):А D:=(xs.drop (HT.sIx xs.length 0 lo)).take (HT.sIx xs.length xs.length hi- HT.sIx xs.length 0 lo)
ОReps.cut{F:Hp}{xs:А D}{vs:А V}(r:Reps K F xs vs)(lo hi:Б Int):Reps K F (Eu xs lo hi) (S7 vs lo hi):=by
 unfold Eu S7
 rw[r.length]
 E(r.drop _).take _
ПZp5:V->Б Int->Б Int->Hp->VK->Prop:=fun x lo hi H Q=>∃z,x= .str z/\z.length<=a8/\Q (.str (Txt.slice z lo hi)) H
ОZmk{X:Cx}:SlR X Zp5:=by
 intro pins s σ H x v vl vu lo hi sl Q I rx hs pl pu h
 O⟨z,rfl,hz,q⟩:=h
 O⟨t,rfl⟩:=rx
 R⟨"str",_,F.slot_str_getitem.lookup,typeIs_str _ _ _,?_⟩
 have fin:∀(t':Tok) (k:Г),EP X pins σ Q (.str (Txt.slice z lo hi) t') {s with toks:=k}:=fun t' k=>⟨.str (Txt.slice z lo hi),H,I.tok _,⟨_,rfl⟩,q⟩
 cases pl with
 |none=>cases pu with
  |none=>E wpAny_getItem_str_slice (l:=none) (u:=none) (st:=none) hs rfl (post_val_or_str ⟨d3 (Txt.slice_le z _ _) hz,fin⟩)
  |int j tj=>E wpAny_getItem_str_slice (l:=none) (u:=some (j,tj)) (st:=none) hs rfl (post_val_or_str ⟨d3 (Txt.slice_le z _ _) hz,fin⟩)
 |int i ti=>cases pu with
  |none=>E wpAny_getItem_str_slice (l:=some (i,ti)) (u:=none) (st:=none) hs rfl (post_val_or_str ⟨d3 (Txt.slice_le z _ _) hz,fin⟩)
  |int j tj=>E wpAny_getItem_str_slice (l:=some (i,ti)) (u:=some (j,tj)) (st:=none) hs rfl (post_val_or_str ⟨d3 (Txt.slice_le z _ _) hz,fin⟩)
РslD:D->Б Int->Б Int->Б SV
 | .lst xs,lo,hi=>some (.ol (Eu xs lo hi))
 | .str z,lo,hi=>if z.length<=a8 then some (.fz (.str (Txt.slice z lo hi)))else none
 |_,_,_=>none
ОZut:Zkf Z (fun x lo hi H Q=>Zpd K x lo hi H Q\/Zp5 x lo hi H Q) slD:=by
 intro F H σ δ own x d lo hi sv Q s r1 e k
 unfold slD at e
 split at e
 ·C e
  O⟨a,vs,ex,ha,ra⟩:=r1.lst s.le
  E .inl ⟨a,vs,ex,ha,fun p hp=>k.lst s (ra.cut _ _) hp⟩
 ·split at e
  ·rename_i hz
   C e
   E .inr ⟨_,r1.str,hz,k.fz s (.str _)⟩
  ·C e
 ·C e
end DL
namespace L2
open PySem PySem.Spec PyProof.Rows
section
variable{X:Cx}{tg:ci}
ОZml{l:ci}{tl:TE}(hl:PE X l tl):PI X tg l (DL.Zde X.K tl):=by
 intro pins s σ H R I h
 R Wo (hl pins s σ H _ I h) fun v s1 zq9=>?_
 O⟨x,H1,I1,r1,q1⟩:=zq9
 rcases q1 with⟨a,e,⟨xs,hq⟩,q⟩|⟨a,e,⟨xs,hq⟩,q⟩
 ·subst e
  C r1
  O⟨its,rv,p,hz⟩:=I1.list hq
  R wpAny_pyIter_list p.isList ?_
  R⟨s1.heap.objs.size,[s1.heap.objs.size],_,_,H1,rfl,I1.kept (t':=s1.toks) fun b o e=>aq _ e,E6 a _,⟨_,a9 _ rfl,rfl,rfl⟩,fun b hb=>?_,q⟩
  have e:b=s1.heap.objs.size:=by simpa using hb
  subst e
  E I1.fpOk (a7 _) (I1.hok.fresh (a7 _))
 ·subst e
  C r1
  O⟨its,rv,p,hz⟩:=I1.tuple hq
  R wpAny_pyIter_tuple (show s1.heap.IsTuple a its.toArray from p) ?_
  R⟨s1.heap.objs.size,[s1.heap.objs.size],_,_,H1,rfl,I1.kept (t':=s1.toks) fun b o e=>aq _ e,Tj a _,⟨_,a9 _ rfl,rfl,rfl⟩,fun b hb=>?_,q⟩
  have e:b=s1.heap.objs.size:=by simpa using hb
  subst e
  E I1.fpOk (a7 _) (I1.hok.fresh (a7 _))
ПIte(K:af)(a:am):It:=
 ⟨fun i H=>∃xs x,Ws K H a xs/\xs[i]? =some x,fun i H x H'=>∃p v,x= .ref p/\H p=none/\H'=Z5 H p (.tup [.int (i:Г),v])/\∀xs,Ws K H a xs->xs[i]? =some v,fun i H=>∃xs,Ws K H a xs/\xs.length<=i⟩
ОInv.turnedT{pins:А (am×Obj)}{σ:L2.St}{H:Hp}{s:ak}{h':dr}{t':Г}{e it T:am}{xs:А V}{its:А ah}(I:Inv X pins σ H s)(k:∀b o,b≠e->b≠it->s.heap.get? b=some o->h'.get? b=some o)
  (f1:Q9 X pins H e) (f2:Q9 X pins H it) (hT:T=s.heap.objs.size) (ht:IsTup h' T its.toArray) (rv:Zw xs its) (hz:xs.length<=sizeLine) (he:∃o,h'.get? e=some o) (hi:∃o,h'.get? it=some o):
  Inv X pins σ (Z5 H T (.tup xs)) {s with heap:=h',toks:=t'}:=by
 have hTn:H T=none:=by rw[hT];E I.hok.fresh (a7 _)
 have neT:∀b o,s.heap.get? b=some o->b≠T:=fun b o q=>by rw[hT];E b4 (bc q)
 have ntr:∀b u,H b=some u->b≠e/\b≠it:=fun b u q=>⟨(fun z=>by rw[z,f1.1]at q;C q),(fun z=>by rw[z,f2.1]at q;C q)⟩
 R I.step (g':=s.gens) (d':=s.drawn) (ch:=[e,it]) (fun b hb=>?_) (fun b o _ _ hc q _=>k b o (fun z=>hc (by simp[z])) (fun z=>hc (by simp[z])) q)
  (fun b o _ _ hc q _=>⟨o.slots,k b o (fun z=>hc (by simp[z])) (fun z=>hc (by simp[z])) q⟩) (fun b o _ q n=>by rw[Zm (neT b o q)];E n)
  (fun b o hc q=>⟨o,k b o (fun z=>hc (by simp[z])) (fun z=>hc (by simp[z])) q⟩) (fun b ys q=>by rw[Zm (Y0 q hTn)];E q) (fun b o u q=>by rw[Zm (Y0 q hTn)];E q)
  (fun b ps q=>⟨#[],by rw[Zm (Y0 q hTn),q];simp⟩) (fun m hm=>?_) (fun b u q=>?_) I.bare
 ·have hb':b=e\/b=it:=by simpa using hb
  rcases hb' with z|z
  ·subst z;O⟨_,a1,_,a3,a4,a5⟩:=f1;E⟨a3,a1,a4,a5⟩
  ·subst z;O⟨_,a1,_,a3,a4,a5⟩:=f2;E⟨a3,a1,a4,a5⟩
 ·O⟨o,es,ep,ho,r⟩:=hm
  E⟨o,es,ep,k _ o (Ne.symm f1.2.1) (Ne.symm f2.2.1) ho,r⟩
 ·by_cases hb:b=T
  ·subst hb
   rw[Z3]at q;C q
   E⟨hz,its,rv,ht⟩
  ·rw[Zm hb]at q
   R(I.hok b u q).stay (fun c v hc z=>?_) (fun c z=>by rw[Zm (Y0 z hTn)];E z) fun c ys z=>by rw[Zm (Y0 z hTn)];E z
   rcases hc with y|y
   ·rw[y]at z⊢;E k _ _ (ntr b u q).1 (ntr b u q).2 z
   ·E k _ _ (ntr c _ y).1 (ntr c _ y).2 z
ОZa1{P:bu}{w:cj}{K:af}{elts:А ci}{kk:Г}{tpos:Pos}(a e it:am)(hei:e≠it):Turn P w K (.Tuple elts kk tpos) (Ite K a) [e,it] e (fun i h=>(∃old,IsEnum h e it ((i:Г):Int) old)/\h.IsListIter it a i)where
 mem:=by simp
 obj:=fun i h st b hb=>by
  have hb':b=e\/b=it:=by simpa using hb
  rcases hb' with z|z
  ·subst z
   O⟨old,q⟩:=st.1
   E⟨_,q,fun v y=>by
    have y':Data.fields _=Data.cell v:=y
    C y'⟩
  ·subst z
   O⟨o,q,c,d⟩:=st.2
   E⟨o,q,fun v y=>by rw[d]at y;C y⟩
 keep:=fun i h h' st k=>⟨let⟨old,q⟩:=st.1;⟨old,k e Л _ q⟩,st.2.at fun o q=>k it Л o q⟩
 item:=by
  intro X hP hw hK hc i pins s σ H E I hf st hg
  subst hP hw hK
  O⟨xs,x,hq,hx⟩:=hg
  O⟨its,rv,p,hz⟩:=I.list hq
  O⟨u,hu,ru⟩:=rv.get hx
  O⟨⟨old,he⟩,hit⟩:=st
  have hl:s.heap.IsList a its.toArray:=p.isList
  have ai:a≠it:=fun z=>by
   O⟨o1,q1,c1,_⟩:=hit
   O⟨o2,q2,c2,_⟩:=hl
   rw[z,q1]at q2;C q2
   rw[c1]at c2;E absurd c2 Й
  have ae:e∉[it,a]:=fun z=>by
   have z':e=it\/e=a:=by simpa using z
   rcases z' with z|z
   ·E hei z
   ·O⟨o2,q2,c2,_⟩:=hl
    rw[<-z,he]at q2;C q2;E absurd (show Value.type "enumerate"=Value.type "list"from c2) Й
  have D:=Draws.list (prog:=X.prog) (w:=X.w) (A:=X.A.in1) (by first|E I.ok.hd hc| (rw[show X.A.in1.handled=X.A.handled from rfl];E I.ok.hd hc)) it a ai its.toArray
  have hlt:i<its.toArray.size:=by
   have:=(ax.mp hu).1
   rw[bi];E this
  R wpAny_pyNext_enum_itemD D he ⟨hit,hl⟩ hlt hei ae fun y h' tk hy hout st' hT hsz hk=>⟨.ref s.heap.objs.size,rfl,?_⟩
  R wpAny_letOwnedTupleGo_enum hout fun h2 he2 hs2=>?_
  have hy':its.toArray[i]? =some y:=hy
  have ey:y=u:=by
   have:its[i]? =some y:=by simpa using hy'
   rw[hu]at this;C this;rfl
  subst ey
  have kk:∀b o,b≠e->b≠it->s.heap.get? b=some o->h2.get? b=some o:=fun b o h1 h3 q=>(hs2.2 b h1).trans (hk b o h1 h3 q)
  have neT:s.heap.objs.size≠e:=Nat.ne_of_gt (bc he)
  have I2:=I.turnedT (h':=h2) (t':=tk+1) (e:=e) (it:=it) (T:=s.heap.objs.size) (xs:=[.int (i:Г),x]) (its:=[.int i tk,y]) kk (hf e Л) (hf it Л) rfl ⟨_,(hs2.2 _ neT).trans hT,rfl,_,rfl⟩ (.cons ⟨tk,rfl⟩ (.cons ru .nil)) (by show 2<=sizeLine;decide)
   ⟨_,he2⟩ (let⟨o,q,_⟩:=st'.1;⟨o,(hs2.2 it (Ne.symm hei)).trans q⟩)
  R⟨.ref s.heap.objs.size,_,I2,rfl,⟨s.heap.objs.size,x,rfl,I.hok.fresh (a7 _),rfl,fun ys hy2=>by rw[I.list_inj hy2 hq];E hx⟩,⟨⟨_,he2⟩,st'.1.at fun o q=>(hs2.2 it (Ne.symm hei)).trans q⟩,fun b hb=>?_⟩
  rw[Zm fun z=>?_]
  ·E(hf b hb).1
  ·have hb':b=e\/b=it:=by simpa using hb
   rcases hb' with y|y
   ·rw[<-z,y]at neT;E neT rfl
   ·O⟨o,q,_⟩:=hit
    rw[y]at z
    E absurd (bc q) (by rw[z];E gv _)
 done:=by
  intro X hP hw hK hc i pins s σ H E I hf st hg
  subst hP hw hK
  O⟨xs,hq,hx⟩:=hg
  O⟨its,rv,p,hz⟩:=I.list hq
  O⟨⟨old,he⟩,hit⟩:=st
  O⟨f0,f1,f2,f3,f4,f5⟩:=hf it Л
  have hl:=rv.length
  E wpAny_pyNext_enum_end (I.ok.hd hc) he hit p.isList (by simp;W) fun h' eb=>⟨rfl,I.turned (t':=s.toks) (fun b o hb q=>eb b o hb q) f0 f1 f3 f4 f5⟩
 self:=fun _ _ _ _ _ st h=>let⟨⟨old,he⟩,_⟩:=st;wpAny_pyIter_enum he h
ПZkg(K:af)(ta:TA):TI:=fun σ H R=>ta σ H fun vs H1=>∃a xs,vs=[.ref a]/\Ws K H1 a xs/\R (Ite K a) H1
ОZh0{l:ci}{elts:А ci}{kk:Г}{tpos p pos:Pos}{ta:TA}(hg:Gl X "enumerate")(hm:X.mg "enumerate"=none)(ha:PA X [l] ta)(hs:ay [l] X.env=[(false,f9 l X.env)]:=by rfl):
  PI X (.Tuple elts kk tpos) (.Call (.Name "enumerate" p) [l] [] pos) (Zkg X.K ta):=by
 intro pins s σ H R I h
 R Call_ (Bj I hg hm boot_enumerate (PyProof.Rows.callWith_type1 (Wo (ha pos pins s σ H _ I h) fun us s1 ⟨vs,H1,I1,r1,q1⟩=>?_) hs rfl))
 O⟨a,xs,e,hq,q⟩:=q1
 subst e
 O⟨u,rfl,ru⟩:=Jp r1
 C ru
 O⟨its,rv,p,hz⟩:=I1.list hq
 R call_enumerate_list p.isList fun h' he hit hsz hk=>wpAny_pyIter_enum he ?_
 have I2:Inv X pins σ H1 {s1 with heap:=h'}:=I1.kept (t':=s1.toks) hk
 R⟨s1.heap.objs.size+1,[s1.heap.objs.size+1,s1.heap.objs.size],_,_,H1,rfl,I2,Za1 a _ _ (Nat.succ_ne_self _),⟨⟨.none,by simpa using he⟩,hit⟩,fun b hb=>?_,q⟩
 have hb':b=s1.heap.objs.size+1\/b=s1.heap.objs.size:=by simpa using hb
 rcases hb' with z|z
 ·subst z;E I1.fpOk (Nat.le_succ _) (I1.hok.fresh (Nat.le_succ _))
 ·subst z;E I1.fpOk (a7 _) (I1.hok.fresh (a7 _))
ПZw4(K:af):V->А V->Hp->VK->Prop:=fun x xs H Q=>∃sep p ys,x= .str sep/\xs=[.ref p]/\Ws K H p (ys.map V.str)/\JoinOk sep ys=true/\Q (.str (Txt.join sep ys)) H
inductive TyX(K:af)(H:Hp):V->String->В where
 |non:TyX K H .non "NoneType"
 |bl (x:Bool):TyX K H (.bl x) "bool"
 |int (i:Int):TyX K H (.int i) "int"
 |str (x:Str):TyX K H (.str x) "str"
 |lst {a:am} {xs:А V} (e:Ws K H a xs):TyX K H (.ref a) "list"
 |tup {a:am} {xs:А V} (e:Uh K H a xs):TyX K H (.ref a) "tuple"
 |dK {a:am} {kvs:А (Key×V)} {ep:Г} (e:H a=some (.dK kvs ep)):TyX K H (.ref a) "dict"
 |dT {a:am} {kvs:А (А Key×V)} {ep:Г} {bs:А am} (e:H a=some (.dT kvs ep bs)):TyX K H (.ref a) "dict"
ОZdm{pins:А (am×Obj)}{σ:L2.St}{H:Hp}{s:ak}{A:ck}{E:ah->ak->В}{Q:ah->ak->В}{c:ah}{b:Bool}{x:V}{u:ah}{T:String}(I:Inv X pins σ H s)(rx:Zp x u)(ty:TyX X.K H x T)(e:PySem.W.kitOne X.K (.type T) c=some b)(h:∀tk,Q (.bool b) {s with toks:=tk}):
  ba (bp X.prog X.w) A (call (.builtin "isinstance") [u,c]) Q E s:=by
 cases ty with
 |non=>cases(show u=cf from rx);E PySem.W.kia_one PySem.W.kitx_none I.kIn True.intro e (fun z=>nomatch z) h
 |bl y=>cases(show u=Value.bool y from rx);E PySem.W.kia_one PySem.W.kitx_bool I.kIn True.intro e (fun z=>nomatch z) h
 |int i=>O⟨t,q⟩:=(show∃t,u=Value.int i t from rx);C q;E PySem.W.kia_one PySem.W.kitx_int I.kIn True.intro e (fun z=>nomatch z) h
 |str y=>O⟨t,q⟩:=(show∃t,u=Value.str y t from rx);C q;E PySem.W.kia_one PySem.W.kitx_str I.kIn True.intro e (fun z=>nomatch z) h
 | @lst a xs ea=>
  cases(show u=bv a from rx)
  O⟨its,_,pl,_⟩:=I.list ea
  O⟨o,h1,h2,_⟩:=pl.isList
  E PySem.W.kia_one PySem.W.kitx_list I.kIn ⟨o,h1,h2⟩ e (fun z=>nomatch z) h
 | @tup a xs ea=>
  cases(show u=bv a from rx)
  O⟨its,_,pl,_⟩:=I.tuple ea
  O⟨o,h1,h2,_⟩:=pl
  E PySem.W.kia_one PySem.W.kitx_tuple I.kIn ⟨o,h1,h2⟩ e (fun z=>nomatch z) h
 | @dK a kvs ep ea=>
  cases(show u=bv a from rx)
  O⟨_,_,vs,_,p⟩:=(show Z9 X.prog X.w H s.heap a (.dK kvs ep)from I.hok a _ ea)
  O⟨o,es,h1,h2,_⟩:=p
  E PySem.W.kia_one PySem.W.kitx_dict I.kIn ⟨o,h1,h2.1⟩ e (fun z=>nomatch z) h
 | @dT a kvs ep bs ea=>
  cases(show u=bv a from rx)
  O⟨_,_,xs,_,o,es,h1,h2,_⟩:=(show Z9 X.prog X.w H s.heap a (.dT kvs ep bs)from I.hok a _ ea)
  E PySem.W.kia_one PySem.W.kitx_dict I.kIn ⟨o,h1,h2.1⟩ e (fun z=>nomatch z) h
ПZp7(K:af)(c:String):А V->Hp->VK->Prop:=fun xs H Q=>∃x t b,xs=[x,.ty c]/\TyX K H x t/\PySem.W.kitOne K (.type t) (.type c)=some b/\Q (.bl b) H
ОZdn{c:String}:Qd X (.builtin "isinstance") (Zp7 X.K c):=by
 intro pins s σ H xs us Q I r h
 O⟨x,t,b,rfl,ty,e,q⟩:=h
 O⟨u,w',rfl,r1,r2⟩:=Zjy r
 C r2
 E Zdm I r1 ty e fun tk=>⟨.bl b,H,I.tok _,rfl,q⟩
end
end L2
namespace DL
open PySem PySem.Spec PyProof.Rows L2
variable{K:af}
ПQf(xs:А D):А D:=xs.zipIdx.map fun p=>.tup [.int (p.2:Г),p.1]
ОIm{xs:А D}{i:Г}{d:D}(h:(Qf xs)[i]? =some d):∃x,xs[i]? =some x/\d= .tup [.int (i:Г),x]:=by
 unfold Qf at h
 rw[bf,List.getElem?_zipIdx]at h
 cases e:xs[i]? with
 |none=>rw[e]at h;C h
 |some x=>rw[e]at h;C h;E⟨x,rfl,by simp⟩
ОIo(xs:А D):(Qf xs).length=xs.length:=by unfold Qf;rw[ao,List.length_zipIdx]
ОN2{F:Hp}{a:am}{xs:А D}{vs:А V}(h:Ws K F a vs)(r:Reps K F xs vs):Uu K (Ite K a) F (Qf xs):=fun F' H sF sH i=>by
 have q:Ws K H a vs:=Y1 (sF.trans sH) h
 R⟨fun d hd=>?_,fun hl=>⟨vs,q,by rw[<-r.length,<-Io];E hl⟩⟩
 O⟨x,hx,rfl⟩:=Im hd
 O⟨v,h1,h2⟩:=r.get hx
 R⟨⟨vs,v,q,h1⟩,fun y H' zq9=>?_⟩
 O⟨p,w,e1,e2,e3,e4⟩:=zq9
 subst e1 e3
 have e5:=e4 vs q
 rw[h1]at e5;C e5
 have hp:F' p=none:=sH.free e2
 have sm:Zf F' (Qb F' [(p,.tup [.int (i:Г),v])]):=Wt fun z hz=>by obtain rfl:=au.mp hz;E hp
 R⟨Qe e2,[(p,.tup [.int (i:Г),v])],Ep,fun z hz=>?_,.tup Z3 (.cons (.int _) (.cons (h2.mono (sF.trans sm)) .nil))⟩
 obtain rfl:=au.mp hz
 E⟨e2,Z3⟩
section
variable{Z:Ent K}{H:Hp}{σ:L2.St}{Q:VK}
РZkh(fd:FD):FD:=fun δ=>(fd δ).bind fun p=>match p.1 with
 | [.lst xs]=>some (Qf xs,p.2)
 |_=>none
ОZh1{fd:FD}{R:It->Hp->В}(h:W5 Z (Zkh fd) σ H R):Zkg K (Wi Z fd) σ H R:=by
 O⟨F,δ,own,ds,δ',s,e,k⟩:=h
 O⟨⟨ds1,δ1⟩,e1,e2⟩:=aa.mp e
 R⟨F,δ,own,ds1,δ1,s,e1,fun vs H1 F1 own1 sH sF s1 r1=>?_⟩
 dsimp only at e2
 split at e2
 ·rename_i xs
  C e2
  cases r1 with
  |cons h t=>
   C t
   cases h with
   |lst h _ r=>E⟨_,_,rfl,Y1 s1.le h,k _ H1 F1 own1 sH sF s1 (N2 h r)⟩
 ·C e2
РD.ty:D->String
 | .str _=>"str"
 | .int _=>"int"
 | .lst _=>"list"
 | .dK _ _=>"dict"
 | .dT _ _=>"dict"
 |_=>"?"
РZdo(T:String)(d:D):Bool:=T==d.ty&&(T=="str" ||T=="list" ||T=="dict")
ОZp8{F H:Hp}{d:D}{x:V}{T:String}(le:Zf F H)(r:Z7 K F H d x)(h:Zdo T d=true):tyV K T x H:=by
 unfold Zdo at h
 simp only[Bool.and_eq_true,beq_iff_eq]at h
 O⟨h1,h2⟩:=h
 subst h1
 cases d with
 |str y=>rw[r.str];rfl
 |lst xs=>
  O⟨a,vs,e,ha,_⟩:=r.lst le
  subst e
  E .inl ⟨rfl,vs,ha⟩
 |dK ks vs=>
  O⟨a,kvs,e,⟨ep,ha⟩,_⟩:=r.dK le
  subst e
  E .inr (.inr (.inl ⟨rfl,.inl ⟨kvs,ep,ha⟩⟩))
 |dT ks vs=>
  O⟨a,kvs,e,⟨ep,bs,ha⟩,_⟩:=r.dT le
  subst e
  E .inr (.inr (.inl ⟨rfl,.inr ⟨kvs,ep,bs,ha⟩⟩))
 |non=>E absurd (show("?"=="str" || "?"=="list" || "?"=="dict")=true from h2) Й
 |bl b=>E absurd (show("?"=="str" || "?"=="list" || "?"=="dict")=true from h2) Й
 |int i=>E absurd (show("int"=="str" || "int"=="list" || "int"=="dict")=true from h2) Й
 |tup xs=>E absurd (show("?"=="str" || "?"=="list" || "?"=="dict")=true from h2) Й
 |exc C ks vs=>E absurd (show("?"=="str" || "?"=="list" || "?"=="dict")=true from h2) Й
 |dX ks vs=>E absurd (show("?"=="str" || "?"=="list" || "?"=="dict")=true from h2) Й
РbmF(T:String)(g:А D->Б SV)(fo:FE)(fa:FA):FE:=fun δ=>(fo δ).bind fun p=>(Kx p.1 p.2).bind fun d0=>if Zdo T d0=true then(fa p.2).bind fun q=>(Uk (p.1::q.1) q.2).bind fun ds=>(g ds).bind fun sv=>some (.tmp sv,q.2)else none
ПZw5(Z:Ent K)(r:V->А V->Hp->VK->В)(g:А D->Б SV):Prop:=Ju Z (fun vs H Q=>∃x xs,vs=x::xs/\r x xs H Q) g
end
Рstrs?:А D->Б (А Str)
 | []=>some []
 | .str x::r=>(strs? r).bind fun t=>some (x::t)
 |_=>none
РZw6:А D->Б SV
 | [.str sep,.lst xs]=>(strs? xs).bind fun ys=>if JoinOk sep ys=true then some (.fz (.str (Txt.join sep ys)))else none
 |_=>none
variable{Z:Ent K}
РD.pyTy:D->String
 | .non=>"NoneType"
 | .bl _=>"bool"
 | .int _=>"int"
 | .str _=>"str"
 | .tup _=>"tuple"
 | .lst _=>"list"
 | .dK _ _=>"dict"
 | .dT _ _=>"dict"
 | .dX _ _=>"?"
 | .exc _ _ _=>"?"
РD.isExc:D->Bool
 | .exc _ _ _=>true
 | .dX _ _=>true
 |_=>false
ОZh2{F H:Hp}{d:D}{x:V}(le:Zf F H)(r:Z7 K F H d x)(hx:d.isExc=false):TyX K H x d.pyTy:=by
 cases d with
 |exc C ks vs=>C hx
 |dX ks vs=>C hx
 |non=>rw[r.non];E .non
 |bl b=>rw[r.bl];E .bl b
 |int i=>rw[r.int];E .int i
 |str y=>rw[r.str];E .str y
 |tup xs=>O⟨a,vs,e,ha,_⟩:=r.tup le;subst e;E .tup ha
 |lst xs=>
  O⟨a,vs,e,ha,_⟩:=r.lst le
  subst e
  E .lst ha
 |dK ks vs=>O⟨a,kvs,e,⟨ep,ha⟩,_⟩:=r.dK le;subst e;E .dK ha
 |dT ks vs=>O⟨a,kvs,e,⟨ep,bs,ha⟩,_⟩:=r.dT le;subst e;E .dT ha
РZa2(c:String)(d:D):Б SV:=if d.isExc=true then none else some (.fz (.bl (d.pyTy==c|| (c=="int" &&d.pyTy=="bool"))))
ОZp9{c:String}(hk:∀d:D,d.isExc=false->PySem.W.kitOne K (.type d.pyTy) (.type c)=some (d.pyTy==c|| (c=="int" &&d.pyTy=="bool"))):Zj8 Z (fun x H Q=>Zp7 K c [x,.ty c] H Q) (Za2 c):=by
 intro F H σ δ own x d sv Q s r e k
 unfold Za2 at e
 split at e
 ·C e
 ·rename_i hx
  C e
  have hx':d.isExc=false:=by cases z:d.isExc with
   |true=>E absurd z hx
   |false=>rfl
  E⟨x,_,_,rfl,Zh2 s.le r hx',hk d hx',k.fz s (.bl _)⟩
РVf:А D->Б SV
 | [.lst xs]=>some (.fz (.int (xs.length:Г)))
 | [.tup xs]=>some (.fz (.int (xs.length:Г)))
 | [.str x]=>if x.length<=a8 then some (.fz (.int (x.length:Г)))else none
 |_=>none
ОZqa:Ju Z (fun xs H Q=>(∃p ys,xs=[V.ref p]/\(Ws K H p ys\/Uh K H p ys)/\Q (.int ys.length) H)\/(∃z,xs=[V.str z]/\z.length<=a8/\Q (.int z.length) H)) Vf:=by
 intro F H σ δ own vs ds sv Q s r e k
 unfold Vf at e
 split at e
 ·C e
  cases r with
  |cons h t=>
   C t
   O⟨a,us,ex,ha,ra⟩:=h.lst s.le
   subst ex
   E .inl ⟨a,us,rfl,.inl ha,by rw[<-ra.length];E k.fz s (.int _)⟩
 ·C e
  cases r with
  |cons h t=>
   C t
   O⟨a,us,ex,ha,ra⟩:=h.tup s.le
   subst ex
   E .inl ⟨a,us,rfl,.inr ha,by rw[<-ra.length];E k.fz s (.int _)⟩
 ·split at e
  ·rename_i hz
   C e
   cases r with
   |cons h t=>
    C t
    E .inr ⟨_,by rw[h.str],hz,k.fz s (.int _)⟩
  ·C e
 ·C e
РZw7:А D->Б SV
 | [.lst xs]=>some (.ol xs)
 | [.tup xs]=>some (.ol xs)
 |_=>none
РTx:А D->Б SV
 | [.lst xs]=>some (.fz (.tup xs))
 |_=>none
ОZh3:Ju Z (fun xs H Q=>∃p ys,xs=[V.ref p]/\((Ws K H p ys/\∀l,H l=none->Q (.ref l) (Z5 H l (.tup ys)))\/(Uh K H p ys/\Q (.ref p) H))) Tx:=by
 intro F H σ δ own vs ds sv Q s r e k
 unfold Tx at e
 split at e
 ·C e
  cases r with
  |cons h t=>
   C t
   O⟨a,us,ex,ha,ra⟩:=h.lst s.le
   subst ex
   E⟨a,us,rfl,.inl ⟨ha,fun l hl=>k.tup s ra hl⟩⟩
 ·C e
РZh4:А D->Б SV
 | [.int i]=>some (.fz (.int i))
 | [.bl b]=>some (.fz (.int (if b then 1 else 0)))
 |_=>none
ОZqb:Ju Z (fun xs H Q=>(∃i,xs=[V.int i]/\Q (.int i) H)\/∃k,xs=[V.bl k]/\Q (.int (if k then 1 else 0)) H) Zh4:=by
 intro F H σ δ own vs ds sv Q s r e k
 unfold Zh4 at e
 split at e
 ·C e
  cases r with
  |cons h t=>C t;E .inl ⟨_,by rw[h.int],k.fz s (.int _)⟩
 ·C e
  cases r with
  |cons h t=>C t;E .inr ⟨_,by rw[h.bl],k.fz s (.int _)⟩
 ·C e
section
variable{X:Cx}{Z:Ent X.K}{a b c:ci}{fa fb fc:FE}{pos:Pos}
ОZb(i:Г){x:Str}{pos:Pos}(hN:X.N[i]? =some x:=by rfl)(hv:Sv X.env.scope x:=by first|E Or.inl rfl|E gg (Or.inl rfl)|E gg (gg rfl))(hd:(x==("__debug__":Str))=false:=by decide)
  (hcd:(x==("__classdict__":Str))=false:=by decide):PE X (.Name x pos) (Zc Z (Za i)):=(Jo hN hv hd hcd).imp fun _ _ _ h=>Zpk h
ОZ2{i:Int}{j:Г}:PE X (.Constant (.int i) j pos) (Zc Z (Zh (.int i))):=Sw.imp fun _ _ _ h=>Ky (fun _=>.int _) h
ОN3{i:Bool}{j:Г}:PE X (.Constant (.bool i) j pos) (Zc Z (Zh (.bl i))):=Zot.imp fun _ _ _ h=>Ky (fun _=>.bl _) h
ОBc{i:Str}{j:Г}:PE X (.Constant (.str i) j pos) (Zc Z (Zh (.str i))):=Ke.imp fun _ _ _ h=>Ky (fun _=>.str _) h
ОHg{op:Operator}{r:R2}{g:D->D->Б SV}(ho:Bl X (binaryOp op) r)(hp:Y4 Z r g)(ha:PE X a (Zc Z fa))(hb:PE X b (Zc Z fb)):PE X (.BinOp a op b pos) (Zc Z (Zt g fa fb)):=(Zo1 ho ha hb).imp fun _ _ _ h=>Ik hp h
ОU6(ha:PE X a (Zc Z fa))(hb:PE X b (Zc Z fb)):PE X (.BinOp a .Add b pos) (Zc Z (Zt Cj fa fb)):=Hg Zhz Zp2 ha hb
ОBu(ha:PE X a (Zc Z fa))(hb:PE X b (Zc Z fb)):PE X (.BinOp a .FloorDiv b pos) (Zc Z (Zt Cq fa fb)):=Hg Zg9 Zmi ha hb
ОUl(ha:PE X a (Zc Z fa))(hb:PE X b (Zc Z fb)):PE X (.BinOp a .Mod b pos) (Zc Z (Zt Ci fa fb)):=Hg Zlz Zp1 ha hb
ОZki{op:CmpOp}{r:R2}{g:D->D->Б SV}(ho:Bl X (gx op) r)(hp:Y4 Z r g)(ha:PE X a (Zc Z fa))(hb:PE X b (Zc Z fb))(hm:behindInMarks op b=false):PE X (.Compare a [op] [b] pos) (Zc Z (Zt g fa fb)):=(Zha ho ha hb hm).imp fun _ _ _ h=>Ik hp h
ОIp{op:CmpOp}{r:R2}{g:D->D->Б SV}(ho:Bl X (gx op) r)(hp:Y4 Z r g)(ha:PE X a (Zc Z fa))(hb:PE X b (Zc Z fb))(hm:behindInMarks op b=false):PT X (.Compare a [op] [b] pos) (Yg Z (Y6 (Zt g fa fb))):=
 (Zhb ho ha hb hm).imp fun σ H Q h=>by
  O⟨F,δ,own,rv,δ',s,e,k⟩:=Zdb h
  E Ik hp ⟨F,δ,own,rv,δ',s,e,k⟩
ОZuv(ha:PE X a (Zc Z fa))(hb:PE X b (Zc Z fb)):PT X (.Compare a [.Lt] [b] pos) (Yg Z (Y6 (Zt Jk fa fb))):=Ip Zo5 Zul ha hb (Tl _)
ОZqc(ha:PE X a (Zc Z fa))(hb:PE X b (Zc Z fb)):PT X (.Compare a [.Gt] [b] pos) (Yg Z (Y6 (Zt gtD fa fb))):=Ip Zo6 Zum ha hb (Tl _)
ОZkj{f:FT}(ha:PT X a (Yg Z f)):PW X (.BoolOp .Or [a] pos) (Yg Z f):=Zlq ha
ОZqd{f g:FT}{rest:А ci}(ha:PT X a (Yg Z f))(hb:PW X (.BoolOp .Or (b::rest) pos) (Yg Z g)):PW X (.BoolOp .Or (a::b::rest) pos) (Yg Z (orF f g)):=(Zov ha hb).imp fun _ _ _ h=>Zuh h
ОZkk{f:FT}(ha:PT X a (Yg Z f)):PT X (.UnaryOp .Not a pos) (Yg Z (Zht f)):=(Zlr ha).imp fun _ _ _ h=>Zpo h
ОZdp(h:PE X a (Zc Z fa))(he:∀whole,isTrue a X.env whole=(do let v<-whole;standAt a.pos;holding [v] (truthy v)):=by intro _;rfl):PT X a (Yg Z (Y6 fa)):=(Zlp h he).imp fun _ _ _ h=>Zhs h
ОYm:PA X [] (O9 Z Zn):=Jr.imp fun _ _ _ h=>Zc9 h
ОZo{es:А ci}{fr:FA}(ha:PE X a (Zc Z fa))(hr:PA X es (O9 Z fr))(hs:ay (a::es) X.env=(false,f9 a X.env)::ay es X.env:=by rfl):PA X (a::es) (O9 Z (Zd fa fr)):=(W3 ha hr hs).imp fun _ _ _ h=>Zaz h
ОYd:PA X [] (Wi Z Zl):=Jr.imp fun _ _ _ h=>Il h
ОZr{es:А ci}{fr:FD}(ha:PE X a (Zc Z fa))(hr:PA X es (Wi Z fr))(hs:ay (a::es) X.env=(false,f9 a X.env)::ay es X.env:=by rfl):PA X (a::es) (Wi Z (Ze fa fr)):=(W3 ha hr hs).imp fun _ _ _ h=>Tt h
ОU7{es:А ci}{fd:FD}{k:Г}(h:PA X es (Wi Z fd)):PE X (.Tuple es k pos) (Zc Z (tupF fd)):=(Zci h).imp fun _ _ _ h=>Zpm h
ОWx{es:А ci}{fd:FD}(h:PA X es (Wi Z fd)):PE X (.List es pos) (Zc Z (Jg fd)):=(S4 h).imp fun _ _ _ h=>Zpn h
ОZmm:PO X none (Mm Z Ve):=fun pins s σ H Q I h=>Zhc pins s σ H Q I (Zdl h)
ОVg(ha:PE X a (Zc Z fa)):PO X (some a) (Mm Z (N1 fa)):=fun pins s σ H Q I h=>Zhd ha pins s σ H Q I (Zmj h)
ОZqe{lo hi:Б ci}{fl fh:FO}{p2:Pos}(ha:PE X a (Zc Z fa))(hl:PO X lo (Mm Z fl))(hh:PO X hi (Mm Z fh)):PE X (.Subscript a (.Slice lo hi none p2) pos) (Zc Z (slF slD fa fl fh)):=
 (Zcl (Zhh.or Zmk) ha hl hh).imp fun _ _ _ h=>Zus Zut h
ОYr{k n:Г}{f:am}{fd:cx}{ps:А Str}{g:А D->Б SV}{x:Str}{p:Pos}{es:А ci}{fr:FA}(F:FnOk X.prog X.w X.K X.mg X.base Oc k f fd ps (Y5 X.K n g))(hr:Room k X.A)(hm:X.mg x=some (.ref f))(hk:bq X.K (.ref f)=true)(hb:Ww X.K fd ps [])
  (ha:PA X (a::es) (O9 Z fr)) (hg:Gl X x:=by rfl) (hdb:(x==("__debug__":Str))=false:=by decide) (he:ay (a::es) X.env=(false,f9 a X.env)::ay es X.env:=by rfl) (hpl:(f7 pos (ay es X.env)).any (·.1)=false:=by rfl):
  PE X (.Call (.Name x p) (a::es) [] pos) (Zc Z (We n g fr)):=(X9 F hr hg hm hk hb .nil Zj3 ha hdb he hpl).imp fun _ _ _ h=>Zmc h
ОM3{id:String}{r:А V->Hp->VK->В}{g:А D->Б SV}{x:Str}{p:Pos}{es:А ci}{fr:FA}(hc:Qd X (.builtin id) r)(hp:Ju Z r g)(hm:X.mg x=none)(hv:bootBuiltins x=some (.builtin id))(ha:PA X (a::es) (O9 Z fr))(hg:Gl X x:=by rfl)(hn:x≠"__name__":=by decide)(hdb:(x==("__debug__":Str))=false:=by decide)
  (he:ay (a::es) X.env=(false,f9 a X.env)::ay es X.env:=by rfl) (hpl:(f7 pos (ay es X.env)).any (·.1)=false:=by rfl):PE X (.Call (.Name x p) (a::es) [] pos) (Zc Z (Yl g fr)):=(Nq hc hg hm hv ha hn hdb he hpl).imp fun _ _ _ h=>Kz hp h
ОGv{T:String}{r:А V->Hp->VK->В}{g:А D->Б SV}{x:Str}{p:Pos}{es:А ci}{fr:FA}(hc:Qd X (.type T) r)(hp:Ju Z r g)(hm:X.mg x=none)(hv:bootBuiltins x=some (.type T))(ha:PA X (a::es) (O9 Z fr))(hg:Gl X x:=by rfl)(hn:x≠"__name__":=by decide)(hdb:(x==("__debug__":Str))=false:=by decide)
  (he:ay (a::es) X.env=(false,f9 a X.env)::ay es X.env:=by rfl) (hpl:(f7 pos (ay es X.env)).any (·.1)=false:=by rfl):PE X (.Call (.Name x p) (a::es) [] pos) (Zc Z (Yl g fr)):=(Zat hc hg hm hv ha hn hdb he hpl).imp fun _ _ _ h=>Kz hp h
ОHh{p:Pos}(hm:X.mg "len"=none)(ha:PE X a (Zc Z fa))(hg:Gl X "len":=by rfl)(he:ay [a] X.env=(false,f9 a X.env)::ay [] X.env:=by rfl)(hpl:(f7 pos (ay [] X.env)).any (·.1)=false:=by rfl):PE X (.Call (.Name "len" p) [a] [] pos) (Zc Z (Yl Vf (Zd fa Zn))):=
 M3 (Ko.or Kq) Zqa hm PySem.boot_len (Zo ha Ym he) hg Й Й he hpl
ОHi{p:Pos}(hm:X.mg "tuple"=none)(ha:PE X a (Zc Z fa))(hg:Gl X "tuple":=by rfl)(he:ay [a] X.env=(false,f9 a X.env)::ay [] X.env:=by rfl)(hpl:(f7 pos (ay [] X.env)).any (·.1)=false:=by rfl):PE X (.Call (.Name "tuple" p) [a] [] pos) (Zc Z (Yl Tx (Zd fa Zn))):=
 Gv Es Zh3 hm boot_tuple (Zo ha Ym he) hg Й Й he hpl
ОZmn{p:Pos}(hm:X.mg "int"=none)(ha:PE X a (Zc Z fa))(hg:Gl X "int":=by rfl)(he:ay [a] X.env=(false,f9 a X.env)::ay [] X.env:=by rfl)(hpl:(f7 pos (ay [] X.env)).any (·.1)=false:=by rfl):PE X (.Call (.Name "int" p) [a] [] pos) (Zc Z (Yl Zh4 (Zd fa Zn))):=
 Gv Zaq Zqb hm boot_int (Zo ha Ym he) hg Й Й he hpl
ОZdq{x:Str}{c:String}{p p2:Pos}(hm:X.mg "isinstance"=none)(hmc:X.mg x=none)(hv:bootBuiltins x=some (.type c))(hk:∀d:D,d.isExc=false->PySem.W.kitOne X.K (.type d.pyTy) (.type c)=some (d.pyTy==c|| (c=="int" &&d.pyTy=="bool")))(ha:PE X a (Zc Z fa))(hg:Gl X "isinstance":=by rfl)(hgc:Gl X x:=by rfl)
  (hn:x≠"__name__":=by decide) (hdb:(x==("__debug__":Str))=false:=by decide)
  (he:ay [a,.Name x p2] X.env=(false,f9 a X.env)::ay [.Name x p2] X.env:=by rfl) (he2:ay [.Name x p2] X.env=(false,f9 (.Name x p2) X.env)::ay [] X.env:=by rfl) (hpl:(f7 pos (ay [.Name x p2] X.env)).any (·.1)=false:=by rfl):
  PE X (.Call (.Name "isinstance" p) [a,.Name x p2] [] pos) (Zc Z (unF (Za2 c) fa)):=
 (Nq Zdn hg hm boot_isinstance (W3 ha (W3 (Zg5 (v:=.ty c) hgc hmc hv rfl hn hdb) Jr he2) he) Й Й he hpl).imp fun σ H Q h=>by
  have h2:=Zug (Zp9 hk) h
  E h2
ОZ8(i:Г){x:Str}(hN:X.N.Nodup)(hi:X.N[i]? =some x:=by rfl)(hx:Loc X.env.scope x:=by first|E Or.inl rfl|E gg rfl)(hf:X.fn x=true\/X.env.scope.names.lookup x=some .local:=by first|E .inl rfl|E .inr rfl):PG X (.Name x pos) (Ba Z (Zg i)):=(X5 hN hi hx hf).imp fun _ _ _ _ h=>Zhu h
ОC1:PGs X [] (Bt Z Wb):=Zg6.imp fun _ _ _ _ h=>Zme h
ОWg{es:А ci}{g:FG}{r:FGs}(h1:PG X a (Ba Z g))(h2:PGs X es (Bt Z r))(hs:(assignEach (a::es) X.env).map (·.2)=assign a X.env::(assignEach es X.env).map (·.2):=by rfl):PGs X (a::es) (Bt Z (Zs g r)):=(Zca h1 h2 hs).imp fun _ _ _ _ h=>Zhv h
ОTy{es:А ci}{k n:Г}{g:FGs}(hc:X.calm=true)(h:PGs X es (Bt Z g))(hn:(assignEach es X.env).length=n:=by rfl)(hst:(assignEach es X.env).findIdx? (·.1)=none:=by rfl):PG X (.Tuple es k pos) (Ba Z (Wa n g)):=(Zlu hc h hn hst).imp fun _ _ _ _ h=>Zmf h
ОZdr{tg:ci}{p:Pos}(hm:X.mg "range"=none)(ha:PE X a (Zc Z fa))(hg:Gl X "range":=by rfl)(hs:ay [a] X.env=[(false,f9 a X.env)]:=by rfl):PI X tg (.Call (.Name "range" p) [a] [] pos) (W5 Z (Zdf (Zd fa Zn))):=(Zan hg hm (Zo ha Ym hs) hs).imp fun _ _ _ h=>Zmg h
ОWu{N':А Str}{scope:Scope}{src:А BSrc}(kind:scope.kind= .function)(nocell:(scope.names.all fun y=>!(y.2== .cell))=true)(names:(scope.names.all fun y=>!(y.2== .local)|| (scope.names.lookup y.1==some .local))=true)
  (free:(scope.names.all fun y=>!(y.2== .free)|| (X.env.kindOf y.1==some .cell)|| (X.env.kindOf y.1==some .free))=true) (len:src.length=N'.length)
  (cap:((cr src.length).all fun k=>match src[k]?,N'[k]? with
   |some (.cap j),some x=>(X.N[j]? ==some x)&&((X.env.kindOf x==some .cell)|| (X.env.kindOf x==some .free))&&(scope.names.lookup x==some .free)
   |some .acc,some x=>scope.names.lookup x==none
   |_,_=>true)=true):CompScope X N' scope src:=by
 have capk:∀(k:Г) (q:BSrc) (x:Str),src[k]? =some q->N'[k]? =some x->(match some q,some x with
   |some (.cap j),some x=>(X.N[j]? ==some x)&&((X.env.kindOf x==some .cell)|| (X.env.kindOf x==some .free))&&(scope.names.lookup x==some .free)
   |some .acc,some x=>scope.names.lookup x==none
   |_,_=>true)=true:=fun k q x h1 h2=>by
  have hk:k<src.length:=(ax.mp h1).1
  have:=g7.mp cap k (cw.mpr hk)
  rw[h1,h2]at this
  E this
 R⟨kind,fun y hy e=>?_,fun y hy e=>?_,fun y hy e=>?_,len,fun k j x h1 h2=>?_,fun k x h1 h2=>?_⟩
 ·have:=g7.mp nocell y hy
  rw[e]at this;C this
 ·have:=g7.mp names y hy
  rw[e]at this
  simpa using this
 ·have:=g7.mp free y hy
  rw[e]at this
  simpa using this
 ·have:=capk k (.cap j) x h1 h2
  simp only[Bool.and_eq_true,Bool.or_eq_true,beq_iff_eq]at this
  E⟨this.1.1,this.1.2,this.2⟩
 ·have:=capk k .acc x h1 h2
  simpa using this
ОGw{src:А BSrc}(k:Г)(acc:src[k]? =some .acc)(uni:((cr src.length).all fun i=>match src[i]? with
   |some .acc=>i==k
   |_=>true)=true):SrcOk src k:=⟨acc,fun i h=>by
  have hi:i<src.length:=(ax.mp h).1
  have:=g7.mp uni i (cw.mpr hi)
  rw[h]at this
  simpa using this⟩
ОN4(K:af):∀d:D,d.isExc=false->PySem.W.kitOne K (.type d.pyTy) (.type "list")=some (d.pyTy=="list" || ("list"=="int" &&d.pyTy=="bool")):=by intro d h;cases d<;> first| (C h;done)|with_unfolding_all rfl
ОZa3(K:af):∀d:D,d.isExc=false->PySem.W.kitOne K (.type d.pyTy) (.type "tuple")=some (d.pyTy=="tuple" || ("tuple"=="int" &&d.pyTy=="bool")):=by intro d h;cases d<;> first| (C h;done)|with_unfolding_all rfl
Оxg{tg:ci}{g:FG}(h:∀Z:Ent X.K,PG X tg (Ba Z g)):PG X tg (xG X.K g):=fun pins s σ H v u Q I r ⟨Z,q⟩=>h Z pins s σ H v u Q I r q
Оxe{e:ci}{f:FE}(h:∀Z:Ent X.K,PE X e (Zc Z f)):PE X e (xE X.K f):=fun pins s σ H Q I ⟨Z,q⟩=>h Z pins s σ H Q I q
Оxt{e:ci}{f:FT}(h:∀Z:Ent X.K,PT X e (Yg Z f)):PTs X [e] (xT X.K f):=fun pins s σ H Q I ⟨Z,q⟩=>Zhp (h Z) pins s σ H Q I q
Оxt0:PTs X [] (xT X.K Q3):=fun pins s σ H Q I ⟨Z,q⟩=>by
 O⟨F,δ,own,b,δ',sr,e,k⟩:=q
 C e
 E Zho pins s σ H Q I (k H F own (Zf.refl H) (Zf.refl F) sr)
ОC2{N':А Str}{scope:Scope}{src:А BSrc}{k:Г}{tg elt iter:ci}{ifs:А ci}{fi:FD}{g:FG}{tt:FT}{te:FE}(hc:X.calm=true)(S:CompScope X N' scope src)(So:SrcOk src k)(hk:k∉g.tch)(hi:PI X tg iter (W5 Z fi))
  (hg:∀(C:am) (s₀:ak) (H₀:Hp) (ex:А am),PG (X.block N' scope C s₀ H₀ ex) tg (xG X.K g)) (ht:∀(C:am) (s₀:ak) (H₀:Hp) (ex:А am),PTs (X.block N' scope C s₀ H₀ ex) ifs (xT X.K tt)) (he:∀(C:am) (s₀:ak) (H₀:Hp) (ex:А am),PE (X.block N' scope C s₀ H₀ ex) elt (xE X.K te))
  (hs:∀x,foldedSetIterable iter X.env x=pure x:=by intro _;rfl):PE X (.ListComp elt [⟨tg,iter,ifs,0⟩] scope pos) (Zc Z (Bb src k fi g tt te)):=(Zhq hc S hi hg ht he hs).imp fun _ _ _ h=>Zdi So hk h
ОOj:Gp X [] (Z1 Z Br):=Xz.imp fun _ _ _ h=>Zmd h
ОZi{st:Stmt}{rest:А Stmt}{f g:FS}(h1:PS X st (Z1 Z f))(h2:Gp X rest (Z1 Z g)):Gp X (st::rest) (Z1 Z (Yc f g)):=(U2 h1 h2).imp fun _ _ _ h=>Zj9 h
ОZz{st:Stmt}{f:FS}(h:PS X st (Z1 Z f)):Gp X [st] (Z1 Z f):=X4 h
ПZuw:FS:=fun _=>none
ОQo(h:PE X a (Zc Z fa)):PS X (.Return (some a) pos) (Z1 Z (Be fa)):=(Zb8 h).imp fun _ _ _ h=>Zpr h
ОK7{t:FT}{f g:FS}{bt be:А Stmt}(hc:PT X c (Yg Z t))(ha:Gp X bt (Z1 Z f))(hb:Gp X be (Z1 Z g)):PS X (.If c bt be pos) (Z1 Z (ifS t f g)):=(Zjt hc ha hb).imp fun _ _ _ h=>Zpp h
ОYn(i:Г){x:Str}{pos':Pos}(hN:X.N.Nodup)(he:PE X a (Zc Z fa))(hi:X.N[i]? =some x:=by rfl)(hx:Loc X.env.scope x:=by first|E Or.inl rfl|E gg rfl)(hs:swapsWith a (some (.Name x pos')) pos.line X.env=pure false:=by rfl)(hf:X.fn x=true\/X.env.scope.names.lookup x=some .local:=by first|E .inl rfl|E .inr rfl):
  PS X (.Assign [.Name x pos'] a pos) (Z1 Z (Wd i fa)):=(Sy hN hi hx he hs hf).imp fun _ _ _ h=>Zka h
ОIq(i:Г){N':А Str}{scope:Scope}{src:А BSrc}{k:Г}{tg elt iter:ci}{ifs:А ci}{fi:FD}{g:FG}{tt:FT}{te:FE}{y:Str}{py spos:Pos}(hc:X.calm=true)(S:CompScope X N' scope src)(So:SrcOk src k)(hk:k∉g.tch)(hi:PI X tg iter (W5 Z fi))
  (hg:∀(C:am) (s₀:ak) (H₀:Hp) (ex:А am),PG (X.block N' scope C s₀ H₀ ex) tg (xG X.K g)) (ht:∀(C:am) (s₀:ak) (H₀:Hp) (ex:А am),PTs (X.block N' scope C s₀ H₀ ex) ifs (xT X.K tt)) (he:∀(C:am) (s₀:ak) (H₀:Hp) (ex:А am),PE (X.block N' scope C s₀ H₀ ex) elt (xE X.K te))
  (hN:X.N.Nodup) (hiy:X.N[i]? =some y:=by rfl) (hx:X.env.scope.names.lookup y=some .local:=by rfl) (hsw:swapsWith (.ListComp elt [⟨tg,iter,ifs,0⟩] scope pos) (some (.Name y py)) spos.line X.env=pure true:=by rfl)
  (hs:∀x,foldedSetIterable iter X.env x=pure x:=by intro _;rfl):PS X (.Assign [.Name y py] (.ListComp elt [⟨tg,iter,ifs,0⟩] scope pos) spos) (Z1 Z (Wd i (Bb src k fi g tt te))):=
 (Va hc S hi hg ht he hN hiy hx hsw hs).imp fun D σ H h=>by
  O⟨F,δ,own,rv,δ',s,e,q⟩:=Zka h
  E Zdi So hk ⟨F,δ,own,rv,δ',s,e,q⟩
ОZds{tg:ci}{g:FG}(he:PE X a (Zc Z fa))(hg:PG X tg (Ba Z g))(hs:swapsWithSole [tg] a pos.line X.env=pure false:=by rfl)(hw:swappedStores [tg] a X.env=pure none:=by rfl)(h1:(assignEach [tg] X.env).map (·.2)=[assign tg X.env]:=by rfl):
  PS X (.Assign [tg] a pos) (Z1 Z (K4 g fa)):=(Zlv he hg hs hw h1).imp fun _ _ _ h=>Zdd h
ОJc{tg iter:ci}{body:А Stmt}{fi:FD}{g:FG}{f:FS}(hp:PassesOwn (bp X.prog X.w) X.A X.env X.xe)(hc:X.calm=true)(hi:PI X tg iter (W5 Z fi))(hg:PG X tg (Ba Z g))(hb:Gp X body (Z1 Z f))(hs:∀x,foldedSetIterable iter X.env x=pure x:=by intro _;rfl):
  PS X (.For tg iter body [] pos) (Z1 Z (Bf fi g f)):=(Zce hp hc hi hg hb hs).imp fun _ _ _ h=>Zpu h
ОZh5(n:Г){t:FT}{body:А Stmt}{f:FS}(hp:PassesOwn (bp X.prog X.w) X.A X.env X.xe)(hc:PT X c (Yg Z t))(hb:Gp X body (Z1 Z f)):PS X (.While c body [] pos) (Z1 Z (Jv t f n)):=(Zcc hp hc hb).imp fun _ _ _ h=>Zhw h
ОTz(i:Г){x:Str}{px apos cpos:Pos}(hb:PE X b (Zc Z fb))(hN:X.N[i]? =some x:=by rfl)(hv:Sv X.env.scope x:=by first|E Or.inl rfl|E gg (Or.inl rfl)|E gg (gg rfl))(hd:(x==("__debug__":Str))=false:=by decide)
  (hcd:(x==("__classdict__":Str))=false:=by decide) (hbase:attributeBase (.Name x px) "append" X.env (f9 (.Name x px) X.env)=f9 (.Name x px) X.env:=by rfl)
  (hfew:((f7 cpos (ay [b] X.env)).all (fun x=>!x.1)&&(backToKw cpos (keywordEach [] X.env)).all (fun x=>x.1.isSome)&&decide ([b].length+([]:А Keyword).length+(if([]:А Keyword).isEmpty then 0 else 1)<30))=true:=by rfl)
  (hline:(apos.endLine==cpos.line)=true:=by rfl) (hs:ay [b] X.env=(false,f9 b X.env)::ay [] X.env:=by rfl) (hpl:(f7 cpos (ay [] X.env)).any (·.1)=false:=by rfl) (hsw:swapsWith (.Call (.Attribute (.Name x px) "append" apos) [b] [] cpos) none pos.line X.env=pure false:=by rfl):
  PS X (.Expr (.Call (.Attribute (.Name x px) "append" apos) [b] [] cpos) pos) (Z1 Z (Tv i fb)):=
 (Od (Ie PySem.F.plainAttrs_list PySem.F.slot_list_append PySem.F.type_list_append B9 (Jo (i:=i) hN hv hd hcd) (W3 hb Jr hs) hbase hfew hline hs hpl) hsw).imp fun _ _ _ h=>Zpv h
end
РQp(f:FS)(n:Г)(ds:А D):Б SV:=match f (Tw n ds)with
 |some (.rt sv)=>some sv
 |some (.nx _)=>some (.fz .non)
 |_=>none
ОZdt{N:А Str}{n:Г}{f:FS}{vs:А V}{H:Hp}{Q:VK}{E:XK}(h:Y5 K n (Qp f N.length) vs H Q E):∃F,Z1 (ent H F:Ent K) f {nx:=fun _ H'=>Q .non H',rt:=Q} (L2.O7 N vs) H:=by
 O⟨F,ds,sv,le,r,hn,e,k⟩:=h
 unfold Qp at e
 split at e
 ·rename_i sw hf
  C e
  E⟨F,F,_,_,.rt sv,N0 (N:=N) le r,hf,fun v H' F' ns a b c d e' nd ok=>k v H' F' ns d a b c e' nd ok⟩
 ·rename_i δ hf
  C e
  E⟨F,F,_,_,.nx δ,N0 (N:=N) le r,hf,fun σ' H' F' own' a s'=>k .non H' F' [] s'.old a s'.le s'.fro (.fz .non) c7 fun _ h=>(nomatch h)⟩
 ·C e
ПZw8(K:af):Sp:=fun vs H Q _=>∃(a:am) (ns:А Int),vs=[.ref a]/\Ws K H a (ns.map V.int)/\ns.length<=63/\∀H',Q (.bl true) H'
ОN5{F:Hp}:∀ns:А Int,Reps K F (ns.map D.int) (ns.map V.int)
 | []=>.nil
 |n::r=>.cons (.int n) (N5 r)
end DL
namespace DL
open PySem PySem.Spec PyProof.Rows L2
variable{K:af}
РU8(f:D->D->Б Bool):А D->А D->Б Bool
 |x::xs,y::ys=>(f x y).bind fun b=>(U8 f xs ys).bind fun c=>some (b&&c)
 |_,_=>some true
РC3(f:D->D->Б Bool):D->D->Б Bool
 | .lst xs,.lst ys=>if xs.length=ys.length then U8 f xs ys else some false
 | .tup xs,.tup ys=>(U8 f xs ys).bind fun b=>some (b&&decide (xs.length=ys.length))
 | .lst _,.tup _=>some false
 | .tup _,.lst _=>some false
 |d1,d2=>eqS d1 d2
РeqN:Г->D->D->Б Bool
 |0=>fun _ _=>none
 |n+1=>C3 (eqN n)
ОT0{F H:Hp}{d1 d2:D}{x y:V}{b:Bool}(e:eqS d1 d2=some b)(r1:Z7 K F H d1 x)(r2:Z7 K F H d2 y):Yi x=true/\Yi y=true/\b=Nt x y:=by
 unfold eqS at e
 split at e<;> cases e<;> (first|obtain rfl:=r1.non|obtain rfl:=r1.int|obtain rfl:=r1.bl|obtain rfl:=r1.str)<;> (first|obtain rfl:=r2.non|obtain rfl:=r2.int|obtain rfl:=r2.bl|obtain rfl:=r2.str)<;> R⟨rfl,rfl,?_⟩<;> first|rfl|simp[Nt]
section
variable{X:Cx}{pins:А (am×Obj)}{σ:L2.St}{F H:Hp}{s:ak}
ОZdu{x y:V}{v:ah}(rx:Zp x v)(ry:Zp y v)(fx:Yi x=true)(fy:Yi y=true):Nt x y=true:=by
 cases x with
 |non=>C rx;cases y with
  |non=>rfl
  |bl b=>C ry
  |int b=>O⟨t,e⟩:=ry;C e
  |str b=>O⟨t,e⟩:=ry;C e
  |_=>C fy
 |bl a=>C rx;cases y with
  |non=>C ry
  |bl b=>C ry;simp[Nt]
  |int b=>O⟨t,e⟩:=ry;C e
  |str b=>O⟨t,e⟩:=ry;C e
  |_=>C fy
 |int a=>O⟨t,rfl⟩:=rx;cases y with
  |non=>C ry
  |bl b=>C ry
  |int b=>O⟨t,e⟩:=ry;C e;simp[Nt]
  |str b=>O⟨t,e⟩:=ry;C e
  |_=>C fy
 |str a=>O⟨t,rfl⟩:=rx;cases y with
  |non=>C ry
  |bl b=>C ry
  |int b=>O⟨t,e⟩:=ry;C e
  |str b=>O⟨t,e⟩:=ry;C e;simp[Nt]
  |_=>C fy
 |_=>C fx
ОVh{h:dr}{a:am}{i1 i2:Array ah}(h1:h.IsList a i1)(h2:h.IsList a i2):i1=i2:=by
 O⟨o,e1,c1,n1,d1⟩:=h1
 O⟨o2,e2,c2,n2,d2⟩:=h2
 rw[e1]at e2;C e2
 rw[d1]at d2;C d2;rfl
ОN6{h:dr}{a:am}{i1 i2:Array ah}(h1:h.IsTuple a i1)(h2:h.IsTuple a i2):i1=i2:=by
 O⟨o,e1,c1,n1,d1⟩:=h1
 O⟨o2,e2,c2,n2,d2⟩:=h2
 rw[e1]at e2;C e2
 rw[d1]at d2;C d2;rfl
ОHj{f:D->D->Б Bool}(hf:∀d1 d2 b x y v,Rep X.K F d1 x->Zp x v->Rep X.K F d2 y->Zp y v->f d1 d2=some b->b=true){xs:А D}:∀{ys:А D} {vs ws:А V} {us:А ah} {b:Bool},Reps X.K F xs vs->Zw vs us->Reps X.K F ys ws->Zw ws us->U8 f xs ys=some b->b=true:=by
 induction xs with
 |nil=>intro ys vs ws us b _ _ _ _ e;C e;rfl
 |cons x xs ih=>
  intro ys vs ws us b r1 v1 r2 v2 e
  cases r1 with
  |cons h1 t1=>
   cases v1 with
   |cons a1 w1=>
    cases v2 with
    |cons a2 w2=>
     cases r2 with
     |cons h2 t2=>
      O⟨b,e1,e2⟩:=aa.mp e
      O⟨c,e3,e4⟩:=aa.mp e2
      C e4
      rw[hf _ _ _ _ _ _ h1 a1 h2 a2 e1,ih t1 w1 t2 w2 e3];rfl
ОZa4(I:Inv X pins σ H s)(le:Zf F H){f:D->D->Б Bool}(ih:∀(d1 d2:D) (b:Bool) (x y:V) (v:ah),Rep X.K F d1 x->Zp x v->Rep X.K F d2 y->Zp y v->f d1 d2=some b->b=true)(d1 d2:D)(b:Bool)(x y:V)(v:ah)(r1:Rep X.K F d1 x)(v1:Zp x v)(r2:Rep X.K F d2 y)(v2:Zp y v)(e:C3 f d1 d2=some b):b=true:=by
  unfold C3 at e
  split at e
  ·rename_i xs ys
   cases r1 with
   |lst q1 _ p1=>
   cases r2 with
   |lst q2 _ p2=>
   C v1;C v2
   O⟨i1,w1,l1,_⟩:=I.list (Y1 le q1)
   O⟨i2,w2,l2,_⟩:=I.list (Y1 le q2)
   have z:=Vh l1.isList l2.isList
   have z:i1=i2:=by simpa using z
   subst z
   split at e
   ·E Hj (ih) p1 w1 p2 w2 e
   ·rename_i hl
    have h1:=w1.length
    have h2:=w2.length
    have h3:=p1.length
    have h4:=p2.length
    E absurd И hl
  ·rename_i xs ys
   cases r1 with
   |tup q1 p1=>
   cases r2 with
   |tup q2 p2=>
   C v1;C v2
   O⟨i1,w1,l1,_⟩:=I.tuple (W0 le (O8 q1))
   O⟨i2,w2,l2,_⟩:=I.tuple (W0 le (O8 q2))
   have z:=N6 l1 l2
   have z:i1=i2:=by simpa using z
   subst z
   O⟨c,e1,e2⟩:=aa.mp e
   C e2
   have h1:=w1.length
   have h2:=w2.length
   have h3:=p1.length
   have h4:=p2.length
   rw[Hj (ih) p1 w1 p2 w2 e1,decide_eq_true И];rfl
  ·cases r1 with
   |lst q1 _ p1=>
   cases r2 with
   |tup q2 p2=>
   C v1;C v2
   O⟨i1,w1,l1,_⟩:=I.list (Y1 le q1)
   O⟨i2,w2,l2,_⟩:=I.tuple (W0 le (O8 q2))
   E absurd rfl (SeqAt.ne_of_list_tuple (s:=s) l1.isList l2)
  ·cases r1 with
   |tup q1 p1=>
   cases r2 with
   |lst q2 _ p2=>
   C v1;C v2
   O⟨i1,w1,l1,_⟩:=I.tuple (W0 le (O8 q1))
   O⟨i2,w2,l2,_⟩:=I.list (Y1 le q2)
   E absurd rfl (SeqAt.ne_of_list_tuple (s:=s) l2.isList l1)
  ·O⟨f1,f2,rfl⟩:=T0 (H:=H) e (Z7.of r1) (Z7.of r2)
   E Zdu v1 v2 f1 f2
ОN7{A:ck}{f:D->D->Б Bool}(hf:∀d1 d2 b x y v u,Rep X.K F d1 x->Zp x v->Rep X.K F d2 y->Zp y u->f d1 d2=some b->SeqAt.EqAt A s v u b){xs:А D}:∀{ys:А D} {vs ws:А V} {us zs:А ah} {b:Bool},Reps X.K F xs vs->Zw vs us->Reps X.K F ys ws->Zw ws zs->U8 f xs ys=some b->
  ∃e:Г->Bool,(∀j (h1:j<us.length) (h2:j<zs.length),SeqAt.EqAt A s us[j] zs[j] (e j))/\(cr (min us.length zs.length)).all e=b:=by
 induction xs with
 |nil=>
  intro ys vs ws us zs b r1 v1 _ _ e
  C r1
  C v1
  C e
  E⟨fun _=>true,fun j h1=>absurd h1 (fq _),by rw[List.length_nil,Nat.zero_min];rfl⟩
 |cons x xs ih=>
  intro ys vs ws us zs b r1 v1 r2 v2 e
  cases r1 with
  |cons h1 t1=>
   cases v1 with
   |cons a1 w1=>
    cases v2 with
    |nil=>
     C r2
     C e
     E⟨fun _=>true,fun j _ h2=>absurd h2 (fq _),by rw[List.length_nil,Nat.min_zero];rfl⟩
    |cons a2 w2=>
     cases r2 with
     |cons h2 t2=>
      O⟨b,e1,e2⟩:=aa.mp e
      O⟨c,e3,e4⟩:=aa.mp e2
      C e4
      O⟨g,g1,g2⟩:=ih t1 w1 t2 w2 e3
      R⟨fun j=>Nat.casesOn j b g,fun j h1 h2=>?_,?_⟩
      ·cases j with
       |zero=>E hf _ _ _ _ _ _ _ ‹_› a1 ‹_› a2 e1
       |succ j=>E g1 j (Nat.lt_of_succ_lt_succ h1) (Nat.lt_of_succ_lt_succ h2)
      ·rw[bn,bn,Nat.succ_min_succ,List.range_succ_eq_map,List.all_cons,List.all_map,<-g2]
       rfl
ОrcN(I:Inv X pins σ H s)(le:Zf F H){A:ck}{f:D->D->Б Bool}{d1 d2:D}{b:Bool}{x y:V}{v u:ah}
  (ih:∀d1 d2 b x y v u,Rep X.K F d1 x->Zp x v->Rep X.K F d2 y->Zp y u->f d1 d2=some b->SeqAt.EqAt A.in1 s v u b) (r1:Z7 X.K F H d1 x) (v1:Zp x v) (r2:Z7 X.K F H d2 y) (v2:Zp y u)
  (e:C3 f d1 d2=some b) (hu:A.units<d8) (hr:Yi x=false\/Yi y=false):(∃a c,v= .ref a/\u= .ref c)/\SeqAt.RcAt A s v u b/\SeqAt.RcNeAt A s v u (!b):=by
 unfold C3 at e
 split at e
 ·O⟨a1,vs1,rfl,q1,p1⟩:=r1.lst le
  O⟨a2,vs2,rfl,q2,p2⟩:=r2.lst le
  C v1;C v2
  O⟨i1,w1,l1,_⟩:=I.list q1
  O⟨i2,w2,l2,_⟩:=I.list q2
  have h1:=w1.length
  have h2:=w2.length
  have h3:=p1.length
  have h4:=p2.length
  R⟨⟨_,_,rfl,rfl⟩,?_⟩
  split at e
  ·rename_i hl
   O⟨g,g1,g2⟩:=N7 ih p1 w1 p2 w2 e
   have hm:min i1.length i2.length=i1.toArray.size:=by simp;W
   rw[hm]at g2
   subst g2
   have hz:i1.toArray.size=i2.toArray.size:=by simp;W
   E⟨SeqAt.RcAt.lists l1.isList l2.isList hz hu (fun j j1 j2=>by simpa using g1 j (by simpa using j1) (by simpa using j2)),SeqAt.RcNeAt.lists l1.isList l2.isList hz hu (fun j j1 j2=>by simpa using g1 j (by simpa using j1) (by simpa using j2))⟩
  ·rename_i hl
   C e
   have hz:(i1.toArray.size !=i2.toArray.size)=true:=by simp;W
   E⟨SeqAt.RcAt.lists_lengths l1.isList l2.isList hz hu,SeqAt.RcNeAt.lists_lengths l1.isList l2.isList hz hu⟩
 ·rename_i xs ys
  O⟨a1,vs1,rfl,q1,p1⟩:=r1.tup le
  O⟨a2,vs2,rfl,q2,p2⟩:=r2.tup le
  C v1;C v2
  O⟨i1,w1,l1,_⟩:=I.tuple q1
  O⟨i2,w2,l2,_⟩:=I.tuple q2
  have h1:=w1.length
  have h2:=w2.length
  have h3:=p1.length
  have h4:=p2.length
  O⟨c,e1,e2⟩:=aa.mp e
  C e2
  R⟨⟨_,_,rfl,rfl⟩,?_⟩
  O⟨g,g1,g2⟩:=N7 ih p1 w1 p2 w2 e1
  subst g2
  have e3:((cr (min i1.length i2.length)).all g&&decide (xs.length=ys.length))=((cr (min i1.toArray.size i2.toArray.size)).all g&&i1.toArray.size==i2.toArray.size):=by
   have:(i1.toArray.size==i2.toArray.size)=decide (xs.length=ys.length):=by
    rw[bi,bi,<-h1,<-h2,<-h3,<-h4];rfl
   rw[this];simp
  rw[e3]
  E⟨SeqAt.RcAt.tuples l1 l2 hu (fun j j1 j2=>by simpa using g1 j (by simpa using j1) (by simpa using j2)),SeqAt.RcNeAt.tuples l1 l2 hu (fun j j1 j2=>by simpa using g1 j (by simpa using j1) (by simpa using j2))⟩
 ·O⟨a1,vs1,rfl,q1,p1⟩:=r1.lst le
  O⟨a2,vs2,rfl,q2,p2⟩:=r2.tup le
  C v1;C v2
  C e
  O⟨i1,w1,l1,_⟩:=I.list q1
  O⟨i2,w2,l2,_⟩:=I.tuple q2
  E⟨⟨_,_,rfl,rfl⟩,SeqAt.RcAt.list_tuple l1.isList l2 hu,SeqAt.RcNeAt.list_tuple l1.isList l2 hu⟩
 ·O⟨a1,vs1,rfl,q1,p1⟩:=r1.tup le
  O⟨a2,vs2,rfl,q2,p2⟩:=r2.lst le
  C v1;C v2
  C e
  O⟨i1,w1,l1,_⟩:=I.tuple q1
  O⟨i2,w2,l2,_⟩:=I.list q2
  E⟨⟨_,_,rfl,rfl⟩,SeqAt.RcAt.tuple_list l1 l2.isList hu,SeqAt.RcNeAt.tuple_list l1 l2.isList hu⟩
 ·O⟨f1,f2,_⟩:=T0 e r1 r2
  rcases hr with hr|hr
  ·rw[f1]at hr;C hr
  ·rw[f2]at hr;C hr
ПZzm(K:af)(neg:Bool):R2:=fun x y H Q=>∃F d1 d2 b,Zf F H/\Z7 K F H d1 x/\Z7 K F H d2 y/\eqN 48 d1 d2=some b/\(Yi x=false\/Yi y=false)/\Q (.bl (if neg then !b else b)) H
end
РD.isFlat:D->Bool
 | .non=>true| .bl _=>true| .int _=>true| .str _=>true|_=>false
РeqX(d1 d2:D):Б SV:=if d1.isFlat=true/\d2.isFlat=true then eqD d1 d2 else(eqN 48 d1 d2).bind fun b=>some (.fz (.bl b))
РneX(d1 d2:D):Б SV:=if d1.isFlat=true/\d2.isFlat=true then neD d1 d2 else(eqN 48 d1 d2).bind fun b=>some (.fz (.bl !b))
ОT3{F H:Hp}{d:D}{x:V}(r:Z7 K F H d x)(h:d.isFlat=false):Yi x=false:=by
 O⟨sv,ns,e,n,sh,hp⟩:=r
 cases sh with
 |fz r=>C e;cases r<;> first|rfl|C h
 |ol r=>rfl
 |oK e' r=>rfl
 |oT kb e' r=>rfl
 |oN e' r=>rfl
 |oX kb' e' r=>rfl
 |oL _ r=>rfl
 |oQ e' r=>rfl
section
variable{Z:Ent K}
РZzn:D->Б SV
 | .int i=>some (.fz (.int (-i)))
 |_=>none
end
end DL
namespace L2
open PySem PySem.Spec PyProof.Rows
section
variable{X:Cx}{tg:ci}
ПIts(z:Str):It:=⟨fun i _=>i<z.length,fun i H x H'=>H'=H/\∃c,z.cps[i]? =some c/\x= .str ⟨#[c]⟩,fun i _=>z.length<=i⟩
ОZa5{P:bu}{w:cj}{K:af}{tg:ci}(z:Str)(t:Tok)(it:am):Turn P w K tg (Its z) [it] it (fun i h=>h.IsStrIter it (gq z) z t i)where
 mem:=by simp
 obj:=fun i h st b hb=>by
  have e:b=it:=by simpa using hb
  subst e
  O⟨o,e,c,d⟩:=st
  E⟨o,e,fun v q=>by rw[d]at q;C q⟩
 keep:=fun i h h' st k=>by
  O⟨o,e,c,d⟩:=st
  E⟨o,k it Л o e,c,d⟩
 item:=by
  intro X hP hw hK hc i pins s σ H E I hf st hg
  subst hP hw hK
  O⟨f0,f1,f2,f3,f4,f5⟩:=hf it Л
  have hlt:i<z.cps.size:=hg
  have hx:z.cps[i]? =some z.cps[i]:=by simp[hlt]
  have fin:∀h',h'.IsStrIter it (gq z) z t (i+1)->g8 it s.heap h'->∃u,some (Value.str ⟨#[z.cps[i]]⟩ s.toks)=some u/\ba (bp X.prog X.w) X.A (letOwnedTupleGo tg (.ref it) u) (fun _ s2=>∃x H',Inv X pins σ H' s2/\Zp x u/\(Its z).yld i H x H'/\s2.heap.IsStrIter it (gq z) z t (i+1)/\∀b∈[it],H' b=none) E {s with heap:=h',toks:=s.toks+1}:=fun h' st' sb=>by
   have I1:Inv X pins σ H {s with heap:=h',toks:=s.toks+1}:=I.turned (t':=s.toks+1) (fun b o hb q=>(sb.2 b hb).trans q) f0 f1 f3 f4 f5
   O⟨o,e,c,d⟩:=id st'
   have hn:["enumerate","zip","dict_itemiterator","dict_reverseitemiterator","odict_iterator","itertools.zip_longest","itertools.pairwise"].contains (gq z)=false:=by
    unfold gq
    split<;> decide
   E⟨_,rfl,Ti (s:={s with heap:=h',toks:=s.toks+1}) e c d hn ⟨.str ⟨#[z.cps[i]]⟩,H,I1,⟨_,rfl⟩,⟨rfl,_,hx,rfl⟩,st',fun b hb=>(hf b hb).1⟩⟩
  cases ha:z.cps.all (· <128)with
  |false=>
   have et:gq z="str_iterator":=by unfold gq;rw[ha];rfl
   rw[et]at st fin
   rw[et]
   E wpAny_pyNext_wide_item st hx fin
  |true=>
   have et:gq z="str_ascii_iterator":=by unfold gq;rw[ha];rfl
   rw[et]at st fin
   rw[et]
   E wpAny_pyNext_ascii_item st hx fin
 done:=by
  intro X hP hw hK hc i pins s σ H E I hf st hg
  subst hP hw hK
  O⟨f0,f1,f2,f3,f4,f5⟩:=hf it Л
  have hge:z.cps.size<=i:=hg
  have hx:z.cps[i]? =none:=by simp[hge]
  cases ha:z.cps.all (· <128)with
  |false=>
   have et:gq z="str_iterator":=by unfold gq;rw[ha];rfl
   rw[et]at st
   E wpAny_pyNext_wide_end (I.ok.hd hc) st hx fun h' eb=>⟨rfl,I.turned (t':=s.toks) (fun b o hb q=>eb b o hb q) f0 f1 f3 f4 f5⟩
  |true=>
   have et:gq z="str_ascii_iterator":=by unfold gq;rw[ha];rfl
   rw[et]at st
   E wpAny_pyNext_ascii_end (I.ok.hd hc) st hx fun h' eb=>⟨rfl,I.turned (t':=s.toks) (fun b o hb q=>eb b o hb q) f0 f1 f3 f4 f5⟩
 self:=fun _ _ _ _ _ st h=>by
  cases ha:z.cps.all (· <128)with
  |false=>
   have et:gq z="str_iterator":=by unfold gq;rw[ha];rfl
   rw[et]at st
   E wpAny_pyIter_striter_wide st h
  |true=>
   have et:gq z="str_ascii_iterator":=by unfold gq;rw[ha];rfl
   rw[et]at st
   E wpAny_pyIter_striter_ascii st h
ПZqf(K:af)(tl:TE):TI:=fun σ H R=>tl σ H fun x H1=>(∃a,x= .ref a/\(∃xs,Ws K H1 a xs)/\R (Itl K a) H1)\/(∃a,x= .ref a/\(∃xs,Uh K H1 a xs)/\R (Itt K a) H1)\/(∃z,x= .str z/\R (Its z) H1)
ОZmo{l:ci}{tl:TE}(hl:PE X l tl):PI X tg l (Zqf X.K tl):=by
 intro pins s σ H R I h
 R Wo (hl pins s σ H _ I h) fun v s1 zq9=>?_
 O⟨x,H1,I1,r1,q1⟩:=zq9
 rcases q1 with⟨a,e,⟨xs,hq⟩,q⟩|⟨a,e,⟨xs,hq⟩,q⟩|⟨z,e,q⟩
 ·subst e
  C r1
  O⟨its,rv,p,hz⟩:=I1.list hq
  R wpAny_pyIter_list p.isList ?_
  R⟨s1.heap.objs.size,[s1.heap.objs.size],_,_,H1,rfl,I1.kept (t':=s1.toks) fun b o e=>aq _ e,E6 a _,⟨_,a9 _ rfl,rfl,rfl⟩,fun b hb=>?_,q⟩
  have e:b=s1.heap.objs.size:=by simpa using hb
  subst e
  E I1.fpOk (a7 _) (I1.hok.fresh (a7 _))
 ·subst e
  C r1
  O⟨its,rv,p,hz⟩:=I1.tuple hq
  R wpAny_pyIter_tuple (show s1.heap.IsTuple a its.toArray from p) ?_
  R⟨s1.heap.objs.size,[s1.heap.objs.size],_,_,H1,rfl,I1.kept (t':=s1.toks) fun b o e=>aq _ e,Tj a _,⟨_,a9 _ rfl,rfl,rfl⟩,fun b hb=>?_,q⟩
  have e:b=s1.heap.objs.size:=by simpa using hb
  subst e
  E I1.fpOk (a7 _) (I1.hok.fresh (a7 _))
 ·subst e
  O⟨t,rfl⟩:=r1
  R wpAny_pyIter_strU ?_
  R⟨s1.heap.objs.size,[s1.heap.objs.size],_,_,H1,rfl,I1.kept (t':=s1.toks) fun b o e=>aq _ e,Za5 z t _,⟨_,a9 _ rfl,rfl,rfl⟩,fun b hb=>?_,q⟩
  have e:b=s1.heap.objs.size:=by simpa using hb
  subst e
  E I1.fpOk (a7 _) (I1.hok.fresh (a7 _))
ПZux:V->А V->Hp->VK->Prop:=fun x xs H Q=>∃a b,x= .str a/\xs=[.str b]/\(b.length==0)=false/\a.length<=sizeLine/\(Txt.split a b).length<=sizeLine/\∀p,H p=none->Q (.ref p) (Z5 H p (.lst ((Txt.split a b).map V.str)))
ПZw9:V->А V->Hp->VK->Prop:=fun x xs H Q=>∃a b,x= .str a/\xs=[.str b]/\(b.length==0)=false/\a.length<=sizeLine/\∀p,H p=none->Q (.ref p) (Z5 H p (.tup [.str (Txt.partition a b).1,.str (Txt.partition a b).2.1,.str (Txt.partition a b).2.2]))
ПZqg(K:af):А V->Hp->VK->Prop:=fun xs H Q=>∃(p:am) (bs:А Bool),xs=[.ref p]/\Ws K H p (bs.map V.bl)/\Q (.bl (bs.all id)) H
ОN8:∀{bs:А Bool} {us:А ah},Zw (bs.map V.bl) us->us=bs.map Value.bool
 | [],_,r=>by rw[List.map_nil]at r;C r;rfl
 |b::bs,_,r=>by
  rw[av]at r
  cases r with
  |cons h t=>
   cases(show _=Value.bool b from h)
   rw[N8 t];rfl
ОIr:∀bs:А Bool,(cr bs.length).all (fun i=>(bs[i]?).getD true)=bs.all id
 | []=>rfl
 |b::bs=>by
  rw[bn,List.range_succ_eq_map,List.all_cons,List.all_map,List.all_cons,<-Ir bs]
  rfl
ОZdv(hc:X.calm=true):Qd X (.builtin "all") (Zqg X.K):=by
 intro pins s σ H xs us Q I rs h
 O⟨p,bs,rfl,hq,q⟩:=h
 O⟨u,rfl,ru⟩:=Jp rs
 C ru
 O⟨its,rv,pl,hz⟩:=I.list hq
 have e:=N8 rv
 subst e
 R call_all_walk (wpAny_pyIter_list pl.isList ?_)
 have hne:p≠s.heap.objs.size:=fun z=>by
  O⟨o,ho,_⟩:=pl.isList
  have:=bc ho
  rw[z]at this;E gv _ this
 R⟨s.heap.objs.size,_,_,_,_,_,fun i=>(bs[i]?).getD true,rfl,Walks.list (by first|E I.ok.hd hc| (rw[show X.A.in1.handled=X.A.handled from rfl];E I.ok.hd hc)) _ p hne (bs.map Value.bool).toArray,⟨⟨_,a9 _ rfl,rfl,rfl⟩,pl.isList.at fun o e=>aq _ e⟩,?_,fun h' tk hk=>?_⟩
 ·intro i v s' Q' E' hP hQ
  have hP':(bs.map Value.bool)[i]? =some v:=by simpa using hP
  rw[bf]at hP'
  cases hb:bs[i]? with
  |none=>rw[hb]at hP';C hP'
  |some b=>
   rw[hb]at hP'
   C hP'
   dsimp only at hQ
   rw[hb]at hQ
   E wpAny_truthy_bool hQ
 ·have e:(cr (bs.map Value.bool).toArray.size).all (fun i=>(bs[i]?).getD true)=bs.all id:=by
   rw[bi,ao];E Ir bs
  rw[e]
  R⟨.bl _,H,I.kept (t':=tk) fun b o hb=>hk b o (fun z=>?_) (aq _ hb),rfl,q⟩
  have z':b=s.heap.objs.size:=by simpa using z
  have:=bc hb
  rw[z']at this;E gv _ this
end
end L2
namespace DL
open PySem PySem.Spec PyProof.Rows L2
variable{K:af}
ПN9(z:Str):А D:=z.cps.toList.map fun c=>.str ⟨#[c]⟩
ОPa{z:Str}{F:Hp}:Uu K (Its z) F (N9 z):=fun F' H sF sH i=>by
 have hl:(N9 z).length=z.length:=by unfold N9;rw[ao];rfl
 R⟨fun d hd=>?_,fun h=>by rw[hl]at h;E h⟩
 have hi:i<z.length:=by
  have:=(ax.mp hd).1
  rw[hl]at this;E this
 R⟨hi,fun x H' zq9=>?_⟩
 O⟨e1,c,e2,e3⟩:=zq9
 subst e1 e3
 unfold N9 at hd
 rw[bf]at hd
 have e4:z.cps.toList[i]? =some c:=by simpa using e2
 rw[e4]at hd
 C hd
 E⟨Zf.refl _,[],c7,fun _ h=>(nomatch h),.str _⟩
section
variable{Z:Ent K}{H:Hp}{σ:L2.St}{Q:VK}{E:Yz}
РCk(fe:FE):FD:=fun δ=>(fe δ).bind fun p=>(frz p.1 p.2).bind fun q=>match q.1 with
 | .lst xs=>some (xs,q.2)
 | .tup xs=>some (xs,q.2)
 | .str z=>some (N9 z,q.2)
 |_=>none
ОZmp{fe:FE}{R:It->Hp->В}(h:W5 Z (Ck fe) σ H R):Zqf K (Zc Z fe) σ H R:=by
 O⟨F,δ,own,ds,δ',s,e,k⟩:=h
 O⟨⟨rv,δ1⟩,e1,e2⟩:=aa.mp e
 O⟨⟨d,δ2⟩,e3,e4⟩:=aa.mp e2
 R⟨F,δ,own,rv,δ1,s,e1,fun v H1 F1 own1 sH sF s1 r1=>?_⟩
 O⟨F2,sF2,s2,r2⟩:=s1.settleR r1
 O⟨F3,own3,sF3,s3,r3⟩:=s2.frzR r2 e3
 dsimp only at e4
 split at e4
 ·C e4
  cases r3 with
  |lst h _ r=>E .inl ⟨_,rfl,⟨_,Y1 s3.le h⟩,k _ H1 F3 own3 sH (sF.trans (sF2.trans sF3)) s3 (Nz h r)⟩
 ·C e4
  cases r3 with
  |tup h r=>E .inr (.inl ⟨_,rfl,⟨_,W0 s3.le (O8 h)⟩,k _ H1 F3 own3 sH (sF.trans (sF2.trans sF3)) s3 (Vb (O8 h) r)⟩)
 ·C e4
  cases r3 with
  |str x=>E .inr (.inr ⟨_,rfl,k _ H1 F3 own3 sH (sF.trans (sF2.trans sF3)) s3 Pa⟩)
 ·C e4
РinS(i j:Str):Bool:=!(c8 j i 0 j.length 1).isEmpty
РinD:D->D->Б SV
 | .str i,.str j=>some (.fz (.bl (inS i j)))
 |_,_=>none
РK8:D->D->Б SV
 | .str i,.str j=>some (.fz (.bl (!inS i j)))
 |_,_=>none
ОZuy:Y4 Z (fun x y H Q=>∃i j,x= .str i/\y= .str j/\Q (.bl (!(c8 j i 0 j.length 1).isEmpty)) H) inD:=by
 intro F H σ δ own x y d1 d2 sv Q s r1 r2 e k
 unfold inD at e
 split at e
 ·C e;E⟨_,_,r1.str,r2.str,k.fz s (.bl _)⟩
 ·C e
ОZh6:Y4 Z (fun x y H Q=>∃i j,x= .str i/\y= .str j/\Q (.bl (!(!(c8 j i 0 j.length 1).isEmpty))) H) K8:=by
 intro F H σ δ own x y d1 d2 sv Q s r1 r2 e k
 unfold K8 at e
 split at e
 ·C e;E⟨_,_,r1.str,r2.str,k.fz s (.bl _)⟩
 ·C e
РZuz:А D->Б SV
 | [.str a,.str b]=>if(b.length==0)=false/\a.length<=a8/\(Txt.split a b).length<=a8 then some (.ol ((Txt.split a b).map D.str))else none
 |_=>none
РZmq:А D->Б SV
 | [.str a,.str b]=>if(b.length==0)=false/\a.length<=a8 then some (.fz (.tup [.str (Txt.partition a b).1,.str (Txt.partition a b).2.1,.str (Txt.partition a b).2.2]))else none
 |_=>none
Рbools?:А D->Б (А Bool)
 | []=>some []
 | .bl x::r=>(bools? r).bind fun t=>some (x::t)
 |_=>none
ОPb{F:Hp}:∀{ds:А D} {xs:А Bool} {vs:А V},bools? ds=some xs->Reps K F ds vs->vs=xs.map V.bl
 | [],_,_,e,r=>by C e;C r;rfl
 |d::ds,_,_,e,r=>by
  cases r with
  |cons h t=>
   unfold bools? at e
   split at e
   ·rename_i e0;C e0
   ·rename_i x r0 e0
    C e0
    O⟨ys,e1,e2⟩:=aa.mp e
    C e2
    C h
    rw[Pb e1 t];rfl
   ·C e
РZh7:А D->Б SV
 | [.lst xs]=>(bools? xs).bind fun bs=>some (.fz (.bl (bs.all id)))
 |_=>none
ОZqh:Ju Z (Zqg K) Zh7:=by
 intro F H σ δ own vs ds sv Q s r e k
 unfold Zh7 at e
 split at e
 ·O⟨bs,e1,e2⟩:=aa.mp e
  C e2
  cases r with
  |cons h1 t=>
   C t
   O⟨a,vs,rfl,ha,ra⟩:=h1.lst s.le
   rw[Pb e1 ra]at ha
   E⟨a,bs,rfl,ha,k.fz s (.bl _)⟩
 ·C e
РZu0(i:Г):FS:=fun δ=>match δ[i]? with
 |some (some (.ol _))=>some (.nx (δ.set i (some (.ol []))))
 |_=>none
end
section
variable{X:Cx}{Z:Ent X.K}{a b c:ci}{fa fb fc:FE}{pos:Pos}{tg:ci}
ОUm(ha:PE X a (Zc Z fa)):PI X tg a (W5 Z (Ck fa)):=fun pins s σ H R I h=>Zmo ha pins s σ H R I (Zmp h)
ОZqi{p:Pos}(hm:X.mg "all"=none)(ha:PE X a (Zc Z fa))(hc:X.calm=true:=by rfl)(hg:Gl X "all":=by rfl)(he:ay [a] X.env=(false,f9 a X.env)::ay [] X.env:=by rfl)(hpl:(f7 pos (ay [] X.env)).any (·.1)=false:=by rfl):PE X (.Call (.Name "all" p) [a] [] pos) (Zc Z (Yl Zh7 (Zd fa Zn))):=
 M3 (Zdv hc) Zqh hm boot_all (Zo ha Ym he) hg Й Й he hpl
end
end DL
namespace L2
open PySem PySem.Spec PyProof.Rows
open AutoSeq1 (wpAny_loadPart')
section
variable{prog:bu}{w:cj}{A:ck}{E:ah->ak->В}{s:ak}
ОMx{it t:am}{i:Г}{items:Array ah}{x:ah}{Q:ah->ak->В}(hit:s.heap.IsTupleIter it t i)(ht:s.heap.IsTuple t items)(hx:items[i]? =some x)
  (hQ:∀h',h'.IsTupleIter it t (i+1)->g8 it s.heap h'->Q x {s with heap:=h'}):ba (bp prog w) A (Builtin.SmallTypes.nextOf (.ref it)) Q E s:=by
 O⟨o,ho,hc,hd⟩:=id hit;O⟨ol,hol,_,nl,hdl⟩:=ht;unfold Builtin.SmallTypes.nextOf
 R ad (f6 (name:=b9 "__next__") hit.typeIs F.slot_tuple_iterator_next (c5 F.slot_tuple_iterator_next hit.typeIs F.entry_tuple_iterator_next ?_ (F.args_tuple_iterator_next_1 _)))
 show ba _ _ (field (.ref it) 0 >>=_) _ _ s;R ad (wpAny_field ho hd (x:=.ref t) rfl ?_)
 show ba _ _ (if(bv t==cf)=true then _ else _) _ _ s;rw[Д (show¬((bv t==cf)=true)from bh)]
 show ba _ _ (field (.ref it) 1 >>=_) _ _ s;R ad (wpAny_field ho hd (x:=.int i 0) rfl ?_)
 show ba _ _ (seqItems? (.ref t) >>=_) _ _ s;R ad (wpAny_seqItems hol hdl ?_);simp only[Int.toNat_natCast,hx]
 R ad (wpAny_setField ho hd Л (ag ⟨x,rfl,ag (hQ _ ⟨_,Heap.get?_update_self _ ho (Obj.isFreed_of_fields (Obj.data_mapFields hd _)),(Obj.cls_mapFields ..).trans hc,by rw[Obj.data_mapFields hd];simp[rawInt]⟩ (Heap.SameBut.update ..))⟩))
ОBv{it t:am}{i:Г}{items:Array ah}{Q:ah->ak->В}(hh:A.handled=none)(hit:s.heap.IsTupleIter it t i)(ht:s.heap.IsTuple t items)(hx:items[i]? =none)
  (hE:∀h' e,Heap.ExtBut it s.heap h'->(∃o,h'.get? e=some o/\o.cls= .type "StopIteration")->E (.ref e) {s with heap:=h'}):ba (bp prog w) A (Builtin.SmallTypes.nextOf (.ref it)) Q E s:=by
 O⟨o,ho,hc,hd⟩:=id hit;O⟨ol,hol,_,nl,hdl⟩:=ht;unfold Builtin.SmallTypes.nextOf
 R ad (f6 (name:=b9 "__next__") hit.typeIs F.slot_tuple_iterator_next (c5 F.slot_tuple_iterator_next hit.typeIs F.entry_tuple_iterator_next ?_ (F.args_tuple_iterator_next_1 _)))
 show ba _ _ (field (.ref it) 0 >>=_) _ _ s;R ad (wpAny_field ho hd (x:=.ref t) rfl ?_)
 show ba _ _ (if(bv t==cf)=true then _ else _) _ _ s;rw[Д (show¬((bv t==cf)=true)from bh)]
 show ba _ _ (field (.ref it) 1 >>=_) _ _ s;R ad (wpAny_field ho hd (x:=.int i 0) rfl ?_)
 show ba _ _ (seqItems? (.ref t) >>=_) _ _ s;R ad (wpAny_seqItems hol hdl ?_);simp only[Int.toNat_natCast,hx]
 R ad (wpAny_rule (ad (wpAny_setField ho hd Л ?_)));show ba _ _ (newExc (.type "StopIteration") [] >>=_) _ _ _
 R ad ?_;simp only[newExc,newTuple];R ad (dv ?_ (by size_fits))
 R ad (m:=firstArgMember _ _) (wpAny_of_eq (a:=cf) (by first|rfl| (simp only[firstArgMember];rfl)) ?_);R dv ?_ (by size_fits)
 simp only[raiseNew];R ad (wpAny_handled ?_);first|rw[show A.in1.handled=none from hh]|rw[hh]
 R ad (ag (wpAny_throw ?_));E hE _ _ (((Heap.SameBut.update ..).extBut.push _).push _) ⟨_,a9 _ rfl,rfl⟩
ОPc{h h':dr}{t it:am}{items:Array ah}(x:h.IsTuple t items)(hs:Heap.ExtBut it h h')(hne:t≠it):h'.IsTuple t items:=let⟨o,ho,r⟩:=x;⟨o,hs t o hne ho,r⟩
ОZa6{prog:bu}{w:cj}{A:ck}(hh:A.handled=none)(it l:am)(hne:l≠it)(items:Array ah):
  Draws prog w A it [it,l] items.size (fun i v=>items[i]? =some v) (fun i h=>h.IsTupleIter it l i/\h.IsTuple l items)where
 live:=fun _ _ st=>let⟨o,ho,_⟩:=st.1;⟨o,ho⟩
 frame:=fun _ _ _ st hk=>⟨st.1.at fun o e=>hk it Л o e,let⟨o,ho,r⟩:=st.2;⟨o,hk l Л o ho,r⟩⟩
 item:=fun i s Q E hi st hQ=>by
  R Mx st.1 st.2 (x:=items[i]) (by simp[hi]) fun h' hit' hs'=>?_
  E hQ _ h' s.toks (by simp[hi]) ⟨hit',Pc st.2 hs'.extBut hne⟩ hs'
 done:=fun s Q E st hE=>Bv hh st.1 st.2 Л hE
ОK9(l:am)(items:Array ah)(n:Г)(dct:Б am)(sl:Array (Б ah)):
  Meets (Builtin.«enumerate.__new__» ⟨[.type "enumerate",.ref l],[]⟩) (fun _ R s=>s.heap.get? l=some {cls:=.type "tuple",dict:=dct,data:=.seq items n,slots:=sl}/\
   R (.ok (.ret (.ref (s.heap.push {cls:=.type "tuple_iterator",data:=.fields #[.ref l,.int 0 0]}).objs.size))) {s with heap:=(s.heap.push {cls:=.type "tuple_iterator",data:=.fields #[.ref l,.int 0 0]}).push {cls:=.type "enumerate",data:=.fields #[.none,.bool false,.ref s.heap.objs.size,rawInt 0,.none,.none]}}):=
 .of_wp fun prog w A R s h=>by
  O⟨hp,g,d,tk,os⟩:=s;O⟨hl,h⟩:=h;have hsub:=sub_enumerate
  have hL:Heap.IsTuple (Shared.heap ⟨hp,g,d,tk,os⟩) l items:=⟨_,hl,rfl,n,rfl⟩
  wp_walk using dg hl
  R wpAny_stack_any fun st=>ag ?_;split
  ·rename_i c _ _ _ _ _
   cases(c==Value.type "enumerate")
   ·wp_walk using dg hl,wpAny_pyIter_tuple hL
    E⟨_,rfl,h⟩
   ·wp_walk using dg hl,wpAny_pyIter_tuple hL
    E⟨_,rfl,h⟩
  ·wp_walk using dg hl,wpAny_pyIter_tuple hL
   E⟨_,rfl,h⟩
ОEv{l:am}{items:Array ah}{Q:ah->ak->В}(hL:s.heap.IsTuple l items)
  (h:∀h',IsEnum h' (s.heap.objs.size+1) s.heap.objs.size 0 .none->h'.IsTupleIter s.heap.objs.size l 0->h'.objs.size=s.heap.objs.size+2->(∀b o,s.heap.get? b=some o->h'.get? b=some o)->Q (.ref (s.heap.objs.size+1)) {s with heap:=h'}):
  ba (bp prog w) A (call (.type "enumerate") [.ref l]) Q E s:=by
 O⟨⟨c,dct,dt,sl⟩,hl,hc,n,hd⟩:=hL;replace hc:c= .type "tuple":=hc;replace hd:dt= .seq items n:=hd;subst hc hd
 R callType_new F.called_enumerate Й (F.typeCall_enumerate_1 _) (F.newCall_enumerate_1 _) (fun obj=>F.args_object_init_2 obj _) F.entry_enumerate_new (K9 l items n dct sl) ⟨hl,?_⟩
 have hz:(s.heap.push {cls:=.type "tuple_iterator",data:=.fields #[.ref l,.int 0 0]}).objs.size=s.heap.objs.size+1:=Heap.size_push ..
 show _/\_;rw[hz]
 have he:IsEnum ((s.heap.push {cls:=.type "tuple_iterator",data:=.fields #[.ref l,.int 0 0]}).push {cls:=.type "enumerate",data:=.fields #[.none,.bool false,.ref s.heap.objs.size,rawInt 0,.none,.none]}) (s.heap.objs.size+1) s.heap.objs.size 0 .none:=by
  have:=a9 (s.heap.push {cls:=.type "tuple_iterator",data:=.fields #[.ref l,.int 0 0]}) (o:={cls:=.type "enumerate",data:=.fields #[.none,.bool false,.ref s.heap.objs.size,rawInt 0,.none,.none]}) rfl
  rw[hz]at this;E this
 E⟨⟨_,he,rfl⟩,h _ he ⟨_,aq _ (a9 _ rfl),rfl,rfl⟩ (by rw[Heap.size_push,hz]) fun b o x=>aq _ (aq _ x)⟩
ОLa{e it l:am}{i:Г}{items:Array ah}{old:ah}{Q:Б ah->ak->В}(hh:A.handled=none)(he:IsEnum s.heap e it i old)(hit:s.heap.IsTupleIter it l i)(hl:s.heap.IsTuple l items)(hx:items[i]? =none)
  (hQ:∀h',Heap.ExtBut it s.heap h'->Q none {s with heap:=h'}):ba (bp prog w) A (pyNext (.ref e)) Q E s:=by
 have hT:s.TypeIs (.ref e) "enumerate":=⟨_,he,rfl⟩;unfold pyNext
 R ad (wpAny_attempt (f6 (name:=b9 "__next__") hT F.slot_enumerate_next (c5 F.slot_enumerate_next hT F.entry_enumerate_next ?_ (F.args_enumerate_next_1 _))))
 show ba _ _ (field (.ref e) 2 >>=_) _ _ _;R ad (wpAny_field he rfl (x:=.ref it) rfl ?_)
 R ad (Bv (by first|E hh| (rw[show A.in1.handled=A.handled from rfl];E hh)) hit hl hx fun h' x he' hx'=>?_);O⟨o,ho,hc⟩:=hx'
 R ad (gk (T:="StopIteration") (b:=true) ⟨o,ho,hc⟩ isSubtype_stop ?_);E ag (hQ _ he')
end
section
variable{X:Cx}{tg:ci}
ПZmr(K:af)(a:am):It:=
 ⟨fun i H=>∃xs x,Uh K H a xs/\xs[i]? =some x,fun i H x H'=>∃p v,x= .ref p/\H p=none/\H'=Z5 H p (.tup [.int (i:Г),v])/\∀xs,Uh K H a xs->xs[i]? =some v,fun i H=>∃xs,Uh K H a xs/\xs.length<=i⟩
ОVi{P:bu}{w:cj}{K:af}{elts:А ci}{kk:Г}{tpos:Pos}(a e it:am)(hei:e≠it):Turn P w K (.Tuple elts kk tpos) (Zmr K a) [e,it] e (fun i h=>(∃old,IsEnum h e it ((i:Г):Int) old)/\h.IsTupleIter it a i)where
 mem:=by simp
 obj:=fun i h st b hb=>by
  have hb':b=e\/b=it:=by simpa using hb
  rcases hb' with z|z
  ·subst z
   O⟨old,q⟩:=st.1
   E⟨_,q,fun v y=>by
    have y':Data.fields _=Data.cell v:=y
    C y'⟩
  ·subst z
   O⟨o,q,c,d⟩:=st.2
   E⟨o,q,fun v y=>by rw[d]at y;C y⟩
 keep:=fun i h h' st k=>⟨let⟨old,q⟩:=st.1;⟨old,k e Л _ q⟩,st.2.at fun o q=>k it Л o q⟩
 item:=by
  intro X hP hw hK hc i pins s σ H E I hf st hg
  subst hP hw hK
  O⟨xs,x,hq,hx⟩:=hg
  O⟨its,rv,p,hz⟩:=I.tuple hq
  O⟨u,hu,ru⟩:=rv.get hx
  O⟨⟨old,he⟩,hit⟩:=st
  have hl:s.heap.IsTuple a its.toArray:=p
  have ai:a≠it:=fun z=>by
   O⟨o1,q1,c1,_⟩:=hit
   O⟨o2,q2,c2,_⟩:=hl
   rw[z,q1]at q2;C q2
   rw[c1]at c2;E absurd c2 Й
  have ae:e∉[it,a]:=fun z=>by
   have z':e=it\/e=a:=by simpa using z
   rcases z' with z|z
   ·E hei z
   ·O⟨o2,q2,c2,_⟩:=hl
    rw[<-z,he]at q2;C q2;E absurd (show Value.type "enumerate"=Value.type "tuple"from c2) Й
  have D:=Za6 (prog:=X.prog) (w:=X.w) (A:=X.A.in1) (by first|E I.ok.hd hc| (rw[show X.A.in1.handled=X.A.handled from rfl];E I.ok.hd hc)) it a ai its.toArray
  have hlt:i<its.toArray.size:=by
   have:=(ax.mp hu).1
   rw[bi];E this
  R wpAny_pyNext_enum_itemD D he ⟨hit,hl⟩ hlt hei ae fun y h' tk hy hout st' hT hsz hk=>⟨.ref s.heap.objs.size,rfl,?_⟩
  R wpAny_letOwnedTupleGo_enum hout fun h2 he2 hs2=>?_
  have hy':its.toArray[i]? =some y:=hy
  have ey:y=u:=by
   have:its[i]? =some y:=by simpa using hy'
   rw[hu]at this;C this;rfl
  subst ey
  have kk:∀b o,b≠e->b≠it->s.heap.get? b=some o->h2.get? b=some o:=fun b o h1 h3 q=>(hs2.2 b h1).trans (hk b o h1 h3 q)
  have neT:s.heap.objs.size≠e:=Nat.ne_of_gt (bc he)
  have I2:=I.turnedT (h':=h2) (t':=tk+1) (e:=e) (it:=it) (T:=s.heap.objs.size) (xs:=[.int (i:Г),x]) (its:=[.int i tk,y]) kk (hf e Л) (hf it Л) rfl ⟨_,(hs2.2 _ neT).trans hT,rfl,_,rfl⟩ (.cons ⟨tk,rfl⟩ (.cons ru .nil)) (by show 2<=sizeLine;decide)
   ⟨_,he2⟩ (let⟨o,q,_⟩:=st'.1;⟨o,(hs2.2 it (Ne.symm hei)).trans q⟩)
  R⟨.ref s.heap.objs.size,_,I2,rfl,⟨s.heap.objs.size,x,rfl,I.hok.fresh (a7 _),rfl,fun ys hy2=>by rw[I.tuple_inj hy2 hq];E hx⟩,⟨⟨_,he2⟩,st'.1.at fun o q=>(hs2.2 it (Ne.symm hei)).trans q⟩,fun b hb=>?_⟩
  rw[Zm fun z=>?_]
  ·E(hf b hb).1
  ·have hb':b=e\/b=it:=by simpa using hb
   rcases hb' with y|y
   ·rw[<-z,y]at neT;E neT rfl
   ·O⟨o,q,_⟩:=hit
    rw[y]at z
    E absurd (bc q) (by rw[z];E gv _)
 done:=by
  intro X hP hw hK hc i pins s σ H E I hf st hg
  subst hP hw hK
  O⟨xs,hq,hx⟩:=hg
  O⟨its,rv,p,hz⟩:=I.tuple hq
  O⟨⟨old,he⟩,hit⟩:=st
  O⟨f0,f1,f2,f3,f4,f5⟩:=hf it Л
  have hl:=rv.length
  E La (I.ok.hd hc) he hit (show s.heap.IsTuple a its.toArray from p) (by simp;W) fun h' eb=>⟨rfl,I.turned (t':=s.toks) (fun b o hb q=>eb b o hb q) f0 f1 f3 f4 f5⟩
 self:=fun _ _ _ _ _ st h=>let⟨⟨old,he⟩,_⟩:=st;wpAny_pyIter_enum he h
ПZdw(K:af)(ta:TA):TI:=fun σ H R=>ta σ H fun vs H1=>∃a xs,vs=[.ref a]/\Uh K H1 a xs/\R (Zmr K a) H1
ОZdx{l:ci}{elts:А ci}{kk:Г}{tpos p pos:Pos}{ta:TA}(hg:Gl X "enumerate")(hm:X.mg "enumerate"=none)(ha:PA X [l] ta)(hs:ay [l] X.env=[(false,f9 l X.env)]:=by rfl):
  PI X (.Tuple elts kk tpos) (.Call (.Name "enumerate" p) [l] [] pos) (Zdw X.K ta):=by
 intro pins s σ H R I h
 R Call_ (Bj I hg hm boot_enumerate (PyProof.Rows.callWith_type1 (Wo (ha pos pins s σ H _ I h) fun us s1 ⟨vs,H1,I1,r1,q1⟩=>?_) hs rfl))
 O⟨a,xs,e,hq,q⟩:=q1
 subst e
 O⟨u,rfl,ru⟩:=Jp r1
 C ru
 O⟨its,rv,p,hz⟩:=I1.tuple hq
 R Ev (show s1.heap.IsTuple a its.toArray from p) fun h' he hit hsz hk=>wpAny_pyIter_enum he ?_
 have I2:Inv X pins σ H1 {s1 with heap:=h'}:=I1.kept (t':=s1.toks) hk
 R⟨s1.heap.objs.size+1,[s1.heap.objs.size+1,s1.heap.objs.size],_,_,H1,rfl,I2,Vi a _ _ (Nat.succ_ne_self _),⟨⟨.none,by simpa using he⟩,hit⟩,fun b hb=>?_,q⟩
 have hb':b=s1.heap.objs.size+1\/b=s1.heap.objs.size:=by simpa using hb
 rcases hb' with z|z
 ·subst z;E I1.fpOk (Nat.le_succ _) (I1.hok.fresh (Nat.le_succ _))
 ·subst z;E I1.fpOk (a7 _) (I1.hok.fresh (a7 _))
end
end L2
namespace DL
open PySem PySem.Spec PyProof.Rows L2
variable{K:af}
ОLb{F:Hp}{a:am}{xs:А D}{vs:А V}(h:Uh K F a vs)(r:Reps K F xs vs):Uu K (Zmr K a) F (Qf xs):=fun F' H sF sH i=>by
 have q:Uh K H a vs:=W0 (sF.trans sH) h
 R⟨fun d hd=>?_,fun hl=>⟨vs,q,by rw[<-r.length,<-Io];E hl⟩⟩
 O⟨x,hx,rfl⟩:=Im hd
 O⟨v,h1,h2⟩:=r.get hx
 R⟨⟨vs,v,q,h1⟩,fun y H' zq9=>?_⟩
 O⟨p,w,e1,e2,e3,e4⟩:=zq9
 subst e1 e3
 have e5:=e4 vs q
 rw[h1]at e5;C e5
 have hp:F' p=none:=sH.free e2
 have sm:Zf F' (Qb F' [(p,.tup [.int (i:Г),v])]):=Wt fun z hz=>by obtain rfl:=au.mp hz;E hp
 R⟨Qe e2,[(p,.tup [.int (i:Г),v])],Ep,fun z hz=>?_,.tup Z3 (.cons (.int _) (.cons (h2.mono (sF.trans sm)) .nil))⟩
 obtain rfl:=au.mp hz
 E⟨e2,Z3⟩
section
variable{Z:Ent K}{H:Hp}{σ:L2.St}{Q:VK}
РZdy(fd:FD):FD:=fun δ=>(fd δ).bind fun p=>match p.1 with
 | [.tup xs]=>some (Qf xs,p.2)
 |_=>none
ОZdz{fd:FD}{R:It->Hp->В}(h:W5 Z (Zdy fd) σ H R):Zdw K (Wi Z fd) σ H R:=by
 O⟨F,δ,own,ds,δ',s,e,k⟩:=h
 O⟨⟨ds1,δ1⟩,e1,e2⟩:=aa.mp e
 R⟨F,δ,own,ds1,δ1,s,e1,fun vs H1 F1 own1 sH sF s1 r1=>?_⟩
 dsimp only at e2
 split at e2
 ·rename_i xs
  C e2
  cases r1 with
  |cons h t=>
   C t
   cases h with
   |tup h r=>E⟨_,_,rfl,W0 s1.le (O8 h),k _ H1 F1 own1 sH sF s1 (Lb (O8 h) r)⟩
 ·C e2
end
section
variable{X:Cx}{Z:Ent X.K}{a:ci}{fa:FE}{pos:Pos}
РC4(fd:FD):FD:=fun δ=>(fd δ).bind fun p=>match p.1 with
 | [.lst xs]=>some (Qf xs,p.2)
 | [.tup xs]=>some (Qf xs,p.2)
 |_=>none
ОZd0{H:Hp}{σ:L2.St}{fd:FD}{R:It->Hp->В}(h:W5 Z (C4 fd) σ H R):W5 Z (Zkh fd) σ H R\/W5 Z (Zdy fd) σ H R:=by
 O⟨F,δ,own,ds,δ',s,e,k⟩:=h
 O⟨⟨ds1,δ1⟩,e1,e2⟩:=aa.mp e
 dsimp only at e2
 split at e2
 ·rename_i xs
  E .inl ⟨F,δ,own,ds,δ',s,aa.mpr ⟨_,e1,e2⟩,k⟩
 ·rename_i xs
  E .inr ⟨F,δ,own,ds,δ',s,aa.mpr ⟨_,e1,e2⟩,k⟩
 ·C e2
ОGx{elts:А ci}{kk:Г}{tpos p:Pos}{fd:FD}(hm:X.mg "enumerate"=none)(ha:PA X [a] (Wi Z fd))(hg:Gl X "enumerate":=by rfl)(hs:ay [a] X.env=[(false,f9 a X.env)]:=by rfl):
  PI X (.Tuple elts kk tpos) (.Call (.Name "enumerate" p) [a] [] pos) (W5 Z (C4 fd)):=fun pins s σ H R I h=>by
 rcases Zd0 h with h|h
 ·E Zh0 hg hm ha hs pins s σ H R I (Zh1 h)
 ·E Zdx hg hm ha hs pins s σ H R I (Zdz h)
end
end DL
namespace L2
open PySem PySem.Spec PyProof.Rows
variable{X:Cx}
ПZu1(K:af):V->А V->Hp->VK->Prop:=fun x xs H Q=>∃sep p ys,x= .str sep/\xs=[.ref p]/\(Ws K H p (ys.map V.str)\/Uh K H p (ys.map V.str))/\JoinOk sep ys=true/\Q (.str (Txt.join sep ys)) H
end L2
namespace DL
open PySem PySem.Spec PyProof.Rows L2
variable{K:af}
РZu2:А D->Б SV
 | [.str sep,.lst xs]=>(strs? xs).bind fun ys=>if JoinOk sep ys=true then some (.fz (.str (Txt.join sep ys)))else none
 | [.str sep,.tup xs]=>(strs? xs).bind fun ys=>if JoinOk sep ys=true then some (.fz (.str (Txt.join sep ys)))else none
 |_=>none
end DL
namespace L2
open PySem PySem.Spec PyProof.Rows
variable{X:Cx}
ПZqj:R2:=fun x y H Q=>∃a v,x= .ref a/\Ja H a y (some v)/\Q v H
ПZd1:R2:=fun y x H Q=>∃a o,x= .ref a/\Ja H a y o/\Q (.bl o.isSome) H
ПGy:R2:=fun y x H Q=>∃a o,x= .ref a/\Ja H a y o/\Q (.bl (!o.isSome)) H
ОT4(hu:X.A.units+1<d8):Bl X (gx .In) Zd1:=by
 intro pins s σ H y x v u Q I ry rx h
 O⟨a,o,rfl,g,q⟩:=h
 C rx
 E Zt0 hu I g ry fun s' I'=>⟨.bl o.isSome,H,I',rfl,q⟩
ОEw(hu:X.A.units+1<d8):Bl X (gx .NotIn) Gy:=by
 intro pins s σ H y x v u Q I ry rx h
 O⟨a,o,rfl,g,q⟩:=h
 C rx
 E Zhi hu I g ry fun s' I'=>⟨.bl (!o.isSome),H,I',rfl,q⟩
end L2
namespace DL
open PySem PySem.Spec PyProof.Rows L2
variable{K:af}
РD.key?:D->Б Key
 | .int i=>some (.inl i)
 | .str x=>some (.inr x)
 |_=>none
Рkeys?:А D->Б (А Key)
 | []=>some []
 |d::r=>d.key?.bind fun k=>(keys? r).bind fun t=>some (k::t)
section
variable{κ:Type}[DecidableEq κ]
Рlook(ks:А κ)(vs:А D)(k:κ):Б D:=match ks,vs with
 |a::ks,v::vs=>if a=k then some v else look ks vs k
 |_,_=>none
ОGz{F:Hp}(k:κ):∀(kvs:А (κ×V)) (ds:А D),Reps K F ds (kvs.map (·.2))->match look (kvs.map (·.1)) ds k with
  |some d=>∃v,Wy kvs k=some v/\Rep K F d v
  |none=>Wy kvs k=none
 | [],_,r=>by C r;E Zcu
 |p::kvs,_,r=>by
  cases r with
  | @cons d v ds vs h t=>
   show match(if p.1=k then some d else look (kvs.map (·.1)) ds k)with
    |some d=>∃v,Wy (p::kvs) k=some v/\Rep K F d v
    |none=>Wy (p::kvs) k=none
   by_cases e:p.1=k
   ·rw[Е e]
    E⟨p.2,U3 e,h⟩
   ·rw[Д e,Jt e]
    E Gz k kvs ds t
РWj(ks:А κ)(vs:А D)(k:κ)(v:D):А κ×А D:=
 if k∈ks then(ks,(ks.zip vs).map fun p=>if p.1=k then v else p.2)else(ks++[k],vs++[v])
ОReps.length_map{F:Hp}{α:Type}{ds:А D}{kvs:А (α×V)}(r:Reps K F ds (kvs.map (·.2))):ds.length=kvs.length:=by rw[r.length,ao]
ОHk{F:Hp}{k:κ}{d:D}{v:V}(hd:Rep K F d v):∀(kvs:А (κ×V)) (ds:А D),Reps K F ds (kvs.map (·.2))->
  Reps K F (((kvs.map (·.1)).zip ds).map fun p=>if p.1=k then d else p.2) ((kvs.map fun kv=>if kv.1=k then(kv.1,v)else kv).map (·.2))
 | [],_,r=>by C r;E .nil
 |p::kvs,_,r=>by
  cases r with
  | @cons d' v' ds vs h t=>
   have ih:=Hk (k:=k) hd kvs ds t
   show Reps K F ((if p.1=k then d else d')::(((kvs.map (·.1)).zip ds).map fun p=>if p.1=k then d else p.2)) ((if p.1=k then(p.1,v)else p).2::((kvs.map fun kv=>if kv.1=k then(kv.1,v)else kv).map (·.2)))
   R .cons ?_ ih
   by_cases e:p.1=k
   ·rw[Е e,Е e];E hd
   ·rw[Д e,Д e];E h
ОZd2{k:κ}{v:V}(kvs:А (κ×V)):(kvs.map fun kv=>if kv.1=k then(kv.1,v)else kv).map (·.1)=kvs.map (·.1):=by
 rw[bx]
 R fj fun p _=>?_
 show(if p.1=k then(p.1,v)else p).1=p.1
 split<;> rfl
ОG0(k:κ)(kvs:А (κ×V)):(kvs.any fun kv=>decide (kv.1=k))=true↔k∈kvs.map (·.1):=by
 rw[List.any_eq_true,a6]
 constructor
 ·rintro⟨p,h1,h2⟩;E⟨p,h1,of_decide_eq_true h2⟩
 ·rintro⟨p,h1,h2⟩;E⟨p,h1,decide_eq_true h2⟩
ОVj{F:Hp}{k:κ}{d:D}{v:V}(hd:Rep K F d v)(kvs:А (κ×V))(ds:А D)(r:Reps K F ds (kvs.map (·.2))):
  (Qa kvs k v).map (·.1)=(Wj (kvs.map (·.1)) ds k d).1/\Reps K F (Wj (kvs.map (·.1)) ds k d).2 ((Qa kvs k v).map (·.2)):=by
 unfold Qa Wj
 by_cases h:k∈kvs.map (·.1)
 ·rw[Е h,Е ((G0 k kvs).mpr h)]
  E⟨Zd2 kvs,Hk hd kvs ds r⟩
 ·rw[Д h,Д fun z=>h ((G0 k kvs).mp z),cq,cq]
  E⟨rfl,r.snoc hd⟩
end
ОT5{F H:Hp}{d:D}{k:Key}{y:V}(e:d.key? =some k)(r:Z7 K F H d y):y=kV k:=by
 cases d with
 |int i=>C e;E r.int
 |str x=>C e;E r.str
 |_=>C e
ОHl{F:Hp}{d:D}{k:Key}{y:V}(e:d.key? =some k)(r:Rep K F d y):y=kV k:=T5 (H:=F) e (Z7.of r)
ОLc{F:Hp}:∀{ds:А D} {ks:А Key} {vs:А V},keys? ds=some ks->Reps K F ds vs->vs=ks.map kV
 | [],_,_,e,r=>by C e;C r;rfl
 |d::ds,_,_,e,r=>by
  cases r with
  |cons h t=>
   O⟨k,e1,e2⟩:=aa.mp e
   O⟨t',e3,e4⟩:=aa.mp e2
   C e4
   rw[Hl e1 h,Lc e3 t];rfl
ОZ7.tupH{F H:Hp}{xs:А D}{v:V}(le:Zf F H)(h:Z7 K F H (.tup xs) v):∃a vs,v= .ref a/\H a=some (.tup vs)/\Reps K F xs vs:=by
 O⟨sv,ns,e,n,sh,hp⟩:=h
 cases sh with
 |fz r=>C e;cases r with|tup h r=>E⟨_,_,rfl,le _ _ h,r⟩
 |ol r=>C e
 |oK e' r=>C e
 |oT kb e' r=>C e
 |oN e' r=>C n
 |oX kb' e' r=>C n
 |oL _ r=>C n
 |oQ e' r=>C e
РVk:D->D->Б (Б D)
 | .dK ks vs,d=>d.key?.bind fun k=>some (look ks vs k)
 | .dT ks vs,.tup xs=>(keys? xs).bind fun k=>some (look ks vs k)
 |_,_=>none
ОT6{F H:Hp}{d1 d2:D}{x y:V}{o:Б D}(le:Zf F H)(e:Vk d1 d2=some o)(r1:Z7 K F H d1 x)(r2:Z7 K F H d2 y):
  ∃a,x= .ref a/\IsD H a/\match o with
   |some d=>∃v,Ja H a y (some v)/\Rep K F d v
   |none=>Ja H a y none:=by
 unfold Vk at e
 split at e
 ·O⟨k,e1,e2⟩:=aa.mp e
  O⟨a,kvs,rfl,ha,rfl,rr⟩:=r1.dK le
  R⟨a,rfl,.inl ⟨kvs,ha.rd⟩,?_⟩
  rw[T5 e1 r2]
  have z:=Gz k kvs _ rr
  have g:=Ja.k (k:=k) ha
  rw[dm.inj e2]at z
  cases o with
  |none=>rw[show Wy kvs k=none from z]at g;E g
  |some d=>O⟨v,z1,z2⟩:=z;rw[z1]at g;E⟨v,g,z2⟩
 ·O⟨k,e1,e2⟩:=aa.mp e
  O⟨a,kvs,rfl,ha,rfl,rr⟩:=r1.dT le
  O⟨b,vs,rfl,hb,rb⟩:=r2.tupH le
  R⟨a,rfl,.inr ⟨kvs,ha.rd⟩,?_⟩
  rw[Lc e1 rb]at hb
  have z:=Gz k kvs _ rr
  have g:=Ja.t ha hb
  rw[dm.inj e2]at z
  cases o with
  |none=>rw[show Wy kvs k=none from z]at g;E g
  |some d=>O⟨v,z1,z2⟩:=z;rw[z1]at g;E⟨v,g,z2⟩
 ·C e
section
variable{Z:Ent K}
РZd3(d1 d2:D):Б SV:=(Vk d1 d2).bind fun o=>o.bind fun d=>some (.fz d)
ОZms:Y4 Z Zqj Zd3:=by
 intro F H σ δ own x y d1 d2 sv Q s r1 r2 e k
 O⟨o,e1,e2⟩:=aa.mp e
 O⟨d,e3,e4⟩:=aa.mp e2
 C e4
 subst e3
 O⟨a,rfl,_,v,g,rv⟩:=T6 s.le e1 r1 r2
 E⟨a,v,rfl,g,k.fz s rv⟩
РZqk(d1 d2:D):Б SV:=(Vk d2 d1).bind fun o=>some (.fz (.bl o.isSome))
РHm(d1 d2:D):Б SV:=(Vk d2 d1).bind fun o=>some (.fz (.bl (!o.isSome)))
ОZmt:Y4 Z Zd1 Zqk:=by
 intro F H σ δ own x y d1 d2 sv Q s r1 r2 e k
 O⟨o,e1,e2⟩:=aa.mp e
 C e2
 O⟨a,rfl,_,g⟩:=T6 s.le e1 r2 r1
 cases o with
 |none=>E⟨a,none,rfl,g,k.fz s (.bl _)⟩
 |some d=>O⟨v,g,_⟩:=g;E⟨a,some v,rfl,g,k.fz s (.bl _)⟩
ОZa7:Y4 Z Gy Hm:=by
 intro F H σ δ own x y d1 d2 sv Q s r1 r2 e k
 O⟨o,e1,e2⟩:=aa.mp e
 C e2
 O⟨a,rfl,_,g⟩:=T6 s.le e1 r2 r1
 cases o with
 |none=>E⟨a,none,rfl,g,k.fz s (.bl _)⟩
 |some d=>O⟨v,g,_⟩:=g;E⟨a,some v,rfl,g,k.fz s (.bl _)⟩
РD.isD:D->Bool
 | .dK _ _=>true| .dT _ _=>true|_=>false
РCl(d1 d2:D):Б SV:=if d1.isD=true then Zd3 d1 d2 else ixD d1 d2
РinX(d1 d2:D):Б SV:=if d2.isD=true then Zqk d1 d2 else inD d1 d2
РVl(d1 d2:D):Б SV:=if d2.isD=true then Hm d1 d2 else K8 d1 d2
ОZa8{H:Hp}{σ:L2.St}{Q:VK}{fa fb:FE}{g g1 g2':D->D->Б SV}(hg:∀d1 d2 sv,g d1 d2=some sv->g1 d1 d2=some sv\/g2' d1 d2=some sv)(h:Zc Z (Zt g fa fb) σ H Q):Zc Z (Zt g1 fa fb) σ H Q\/Zc Z (Zt g2' fa fb) σ H Q:=by
 O⟨F,δ,own,rv,δ',s,e,k⟩:=h
 O⟨⟨rvs,δ1⟩,e1,e2⟩:=aa.mp e
 O⟨ds,e3,e4⟩:=aa.mp e2
 O⟨sv,e5,e6⟩:=aa.mp e4
 have:(g2 g1) ds=some sv\/(g2 g2') ds=some sv:=by
  unfold g2 at e5⊢
  split at e5
  ·E hg _ _ _ e5
  ·C e5
 rcases this with z|z
 ·E .inl ⟨F,δ,own,rv,δ',s,aa.mpr ⟨_,e1,aa.mpr ⟨_,e3,aa.mpr ⟨_,z,e6⟩⟩⟩,k⟩
 ·E .inr ⟨F,δ,own,rv,δ',s,aa.mpr ⟨_,e1,aa.mpr ⟨_,e3,aa.mpr ⟨_,z,e6⟩⟩⟩,k⟩
ОZql:Y4 Z (fun x y H Q=>(∃i j,x= .str i/\y= .str j/\Q (.bl (!(c8 j i 0 j.length 1).isEmpty)) H)\/Zd1 x y H Q) inX:=by
 intro F H σ δ own x y d1 d2 sv Q s r1 r2 e k
 unfold inX at e
 split at e
 ·E .inr (Zmt F H σ δ own x y d1 d2 sv Q s r1 r2 e k)
 ·E .inl (Zuy F H σ δ own x y d1 d2 sv Q s r1 r2 e k)
ОZd4:Y4 Z (fun x y H Q=>(∃i j,x= .str i/\y= .str j/\Q (.bl (!(!(c8 j i 0 j.length 1).isEmpty))) H)\/Gy x y H Q) Vl:=by
 intro F H σ δ own x y d1 d2 sv Q s r1 r2 e k
 unfold Vl at e
 split at e
 ·E .inr (Za7 F H σ δ own x y d1 d2 sv Q s r1 r2 e k)
 ·E .inl (Zh6 F H σ δ own x y d1 d2 sv Q s r1 r2 e k)
end
section
variable{X:Cx}{Z:Ent X.K}{a b c:ci}{fa fb fc:FE}{pos:Pos}
ОY2(hu:X.A.units+1<d8)(ha:PE X a (Zc Z fa))(hb:PE X b (Zc Z fb))(hs:Ki b:=by intro _ _;rfl):PE X (.Subscript a b pos) (Zc Z (Zt Cl fa fb)):=fun pins s σ H Q I h=>by
 rcases Za8 (g1:=Zd3) (g2':=ixD) (fun d1 d2 sv e=>by
  unfold Cl at e
  split at e
  ·E .inl e
  ·E .inr e) h with h|h
 ·E Zhj hu ha hb hs pins s σ H Q I (Ik Zms h)
 ·E Hb Kj ha hb hs pins s σ H Q I (Ik Zp4 h)
end
end DL
namespace L2
open PySem PySem.Spec PyProof.Rows
variable{X:Cx}
ПZd5:V->А V->Hp->VK->Prop:=fun x xs H Q=>∃a,x= .ref a/\((∃y o,xs=[y]/\Ja H a y o/\Q (o.getD .non) H)\/(∃y z o,xs=[y,z]/\Ja H a y o/\Q (o.getD z) H))
ОZh8(hu:X.A.units+1<d8):MtR X "dict.get" Zd5:=by
 intro pins s σ H x xs v us Q I rx rs h
 O⟨a,rfl,h⟩:=h
 C rx
 rcases h with⟨y,o,rfl,g,q⟩|⟨y,z,o,rfl,g,q⟩
 ·O⟨u,rfl,ru⟩:=Jp rs
  E Zma hu I g ru fun w' s' I' r'=>⟨_,H,I',r',q⟩
 ·O⟨u,w',rfl,r1,r2⟩:=Zjy rs
  E Zmb hu I g r1 r2 fun w' s' I' r'=>⟨_,H,I',r',q⟩
end L2
namespace DL
open PySem PySem.Spec PyProof.Rows L2
variable{K:af}
section
variable{Z:Ent K}{H:Hp}{σ:L2.St}{Q:VK}{E:Yz}
РPd:FE:=fun δ=>some (.tmp (.oK [] []),δ)
РZxb:FE:=fun δ=>some (.tmp (.oT [] []),δ)
ОZh9(h:Zc Z Pd σ H Q):Zcx σ H Q:=by
 O⟨F,δ,own,rv,δ',s,e,k⟩:=h
 C e
 intro p hp
 have f:Fin Z F H σ δ own (.oK [] []) Q:=fun v H' F' ns a b c t=>k v H' F' own a b c ⟨ns,t⟩
 E f.one s (.oK (kvs:=[]) rfl .nil) hp
РSV.isOD:Б (Б SV)->Bool
 |some (some (.oK _ _))=>true
 |some (some (.oT _ _))=>true
 |some (some (.oQ _ _ _))=>true
 |_=>false
РZqm(kd d:D):Б (Б SV)->Б SV
 |some (some (.oK ks vs))=>kd.key?.bind fun k=>if vs.length<a8 then some (.oK (Wj ks vs k d).1 (Wj ks vs k d).2)else none
 |some (some (.oT ks vs))=>match kd with
  | .tup xs=>(keys? xs).bind fun k=>if vs.length<a8 then some (.oT (Wj ks vs k d).1 (Wj ks vs k d).2)else none
  |_=>none
 |some (some (.oQ q ks vs))=>kd.key?.bind fun k=>if vs.length<a8 then some (.oQ q (Wj ks vs k d).1 (Wj ks vs k d).2)else none
 |_=>none
РRv(i:Г)(fk fv:FE):FS:=fun δ=>(fv δ).bind fun p=>(frz p.1 p.2).bind fun q=>if SV.isOD (q.2[i]?)=true then(fk q.2).bind fun r=>(Kx r.1 r.2).bind fun kd=>(Zqm kd q.1 (r.2[i]?)).bind fun sv=>some (.nx (r.2.set i (some sv)))else none
ОT7{F:Hp}{ks:А Key}{ds:А D}{v:V}{ns:Zq}(h:Shape K F (.oK ks ds) v ns):∃a kvs ep,v= .ref a/\ns=[(a,.dK kvs ep)]/\kvs.map (·.1)=ks/\Reps K F ds (kvs.map (·.2)):=by
 cases h with
 |oK e r=>E⟨_,_,_,rfl,rfl,e,r⟩
ОZd6{F:Hp}{q:am}{ks:А Key}{ds:А D}{v:V}{ns:Zq}(h:Shape K F (.oQ q ks ds) v ns):∃kvs ep,v= .ref q/\ns=[(q,.dK kvs ep)]/\kvs.map (·.1)=ks/\Reps K F ds (kvs.map (·.2)):=by
 cases h with
 |oQ e r=>E⟨_,_,rfl,rfl,e,r⟩
ОZd7{F:Hp}{ks:А (А Key)}{ds:А D}{v:V}{ns:Zq}(h:Shape K F (.oT ks ds) v ns):∃a kvs ep bs,v= .ref a/\ns=[(a,.dT kvs ep bs)]/\KB F kvs bs/\kvs.map (·.1)=ks/\Reps K F ds (kvs.map (·.2)):=by
 cases h with
 |oT kb e r=>E⟨_,_,_,_,rfl,rfl,kb,e,r⟩
ОKB.put{F:Hp}{kvs:А (А Key×V)}{bs:А am}{k:А Key}{b:am}{v:V}(h:KB F kvs bs)(hb:F b=some (.tup (k.map kV))):KB F (Qa kvs k v) (Nk kvs bs k b):=by
 unfold Qa Nk
 split
 ·unfold KB at*
  clear hb
  rename_i hq
  clear hq
  induction h with
  |nil=>E .nil
  | @cons p c ps cs h1 t ih=>
   rw[av]
   R .cons ?_ ih
   by_cases e:p.1=k
   ·rw[Е e];E h1
   ·rw[Д e];E h1
 ·E Paired.snoc h hb
ОZ7.tupF{F H:Hp}{xs:А D}{v:V}(h:Z7 K F H (.tup xs) v):∃a vs,v= .ref a/\F a=some (.tup vs)/\Reps K F xs vs:=by
 O⟨sv,ns,e,n,sh,hp⟩:=h
 cases sh with
 |fz r=>C e;cases r with|tup h r=>E⟨_,_,rfl,h,r⟩
 |ol r=>C e
 |oK e' r=>C e
 |oT kb e' r=>C e
 |oN e' r=>C n
 |oX kb' e' r=>C n
 |oL _ r=>C n
 |oQ e' r=>C e
ОZia{o:Б (Б SV)}(h:SV.isOD o=true):∃sv,o=some (some sv):=by
 unfold SV.isOD at h
 split at h
 ·E⟨_,rfl⟩
 ·E⟨_,rfl⟩
 ·E⟨_,rfl⟩
 ·C h
ОZqn{i:Г}{fk fv:FE}(h:Z1 Z (Rv i fk fv) E σ H):Zj2 (Q8 i) (Zc Z fk) (Zc Z fv) E σ H:=by
 O⟨F,δ,own,fl,s,e,k⟩:=h
 O⟨⟨rv,δ1⟩,e1,e⟩:=aa.mp e
 O⟨⟨d,δ2⟩,e2,e⟩:=aa.mp e
 dsimp only at e
 split at e
 ·rename_i hod
  O⟨⟨rk,δ3⟩,e3,e⟩:=aa.mp e
  O⟨kd,e4,e⟩:=aa.mp e
  O⟨sv,e5,e⟩:=aa.mp e
  C e
  R⟨F,δ,own,rv,δ1,s,e1,fun v H1 F1 own1 sH1 sF1 s1 r1=>?_⟩
  O⟨F2,sF2,s2,r2⟩:=s1.settleR r1
  O⟨F3,own3,sF3,s3,r3⟩:=s2.frzR r2 e2
  O⟨sv0,hsv0⟩:=Zia hod
  O⟨x,hx,_⟩:=s3.at' i sv0 hsv0
  R⟨x,hx,F3,δ2,own3,rk,δ3,s3,e3,fun y H4 F4 own4 sH4 sF4 s4 r4=>?_⟩
  O⟨F5,sF5,s5,r5⟩:=s4.settleR r4
  have rk':=s5.rd r5 e4
  have rd:Rep K F5 d v:=r3.mono (sF4.trans sF5)
  have sF:Zf F F5:=sF1.trans (sF2.trans (sF3.trans (sF4.trans sF5)))
  dsimp only at e5
  generalize ho:δ3[i]? =o at e5
  unfold Zqm at e5
  split at e5
  ·rename_i ks vs
   O⟨kk,f1,f2⟩:=aa.mp e5
   split at f2
   ·rename_i hz
    C f2
    O⟨x',hx',sh⟩:=s5.at' i _ ho
    rw[hx]at hx';C hx'
    O⟨a,kvs,ep0,ea,en,rfl,rr⟩:=T7 sh
    subst ea
    have mb:(a,HO.dK kvs ep0)∈own4 i:=by rw[en];E aj
    have hH:=(s5.ok i _ mb).2.2
    have z:=Vj (k:=kk) rd kvs vs rr
    R⟨a,rfl,?_⟩
    rw[T5 f1 rk']
    R Et.k ⟨_,hH⟩ (by rw[<-rr.length_map];E hz) fun ep=>?_
    E k σ _ F5 _ sF (s5.change (sv':=.oK (Wj (kvs.map (·.1)) vs kk d).1 (Wj (kvs.map (·.1)) vs kk d).2) (o':=.dK (Qa kvs kk v) ep) (ns':=[(a,.dK (Qa kvs kk v) ep)]) ho hx mb (.oK z.1 z.2) (fun p hp=>.inl (au.mp hp)) Ep)
   ·C f2
  ·rename_i ks vs
   split at e5
   ·rename_i xs
    O⟨kk,f1,f2⟩:=aa.mp e5
    split at f2
    ·rename_i hz
     C f2
     O⟨x',hx',sh⟩:=s5.at' i _ ho
     rw[hx]at hx';C hx'
     O⟨a,kvs,ep0,bs0,ea,en,kb,rfl,rr⟩:=Zd7 sh
     subst ea
     have mb:(a,HO.dT kvs ep0 bs0)∈own4 i:=by rw[en];E aj
     have hH:=(s5.ok i _ mb).2.2
     have z:=Vj (k:=kk) rd kvs vs rr
     O⟨b,us,rfl,hbF,rb⟩:=rk'.tupF
     rw[Lc f1 rb]at hbF
     R⟨a,rfl,Et.t ⟨_,_,hH⟩ (s5.le _ _ hbF) (by rw[<-rr.length_map];E hz) fun ep ep1 bs1 hq=>?_⟩
     rw[hH]at hq
     C hq
     E k σ _ F5 _ sF (s5.change (sv':=.oT (Wj (kvs.map (·.1)) vs kk d).1 (Wj (kvs.map (·.1)) vs kk d).2) (o':=.dT (Qa kvs kk v) ep (Nk kvs bs0 kk b)) (ns':=[(a,.dT (Qa kvs kk v) ep (Nk kvs bs0 kk b))]) ho hx mb (.oT (kb.put hbF) z.1 z.2) (fun p hp=>.inl (au.mp hp)) Ep)
    ·C f2
   ·C e5
  ·rename_i q ks vs
   O⟨kk,f1,f2⟩:=aa.mp e5
   split at f2
   ·rename_i hz
    C f2
    O⟨x',hx',sh⟩:=s5.at' i _ ho
    rw[hx]at hx';C hx'
    O⟨kvs,ep0,ea,en,rfl,rr⟩:=Zd6 sh
    subst ea
    have mb:(q,HO.dK kvs ep0)∈own4 i:=by rw[en];E aj
    have hH:=(s5.ok i _ mb).2.2
    have z:=Vj (k:=kk) rd kvs vs rr
    R⟨q,rfl,?_⟩
    rw[T5 f1 rk']
    R Et.k ⟨_,hH⟩ (by rw[<-rr.length_map];E hz) fun ep=>?_
    E k σ _ F5 _ sF (s5.change (sv':=.oQ q (Wj (kvs.map (·.1)) vs kk d).1 (Wj (kvs.map (·.1)) vs kk d).2) (o':=.dK (Qa kvs kk v) ep) (ns':=[(q,.dK (Qa kvs kk v) ep)]) ho hx mb (.oQ z.1 z.2) (fun p hp=>.inl (au.mp hp)) Ep)
   ·C f2
  ·C e5
 ·C e
РZmu(T:String)(g:D->А D->Б SV)(fo:FE)(fd:FD):FE:=fun δ=>(fo δ).bind fun p=>(Kx p.1 p.2).bind fun d0=>if Zdo T d0=true then(fd p.2).bind fun q=>(Kx p.1 q.2).bind fun d1=>(g d1 q.1).bind fun sv=>some (.tmp sv,q.2)else none
ПZkm(Z:Ent K)(r:V->А V->Hp->VK->В)(g:D->А D->Б SV):Prop:=
 ∀(F H:Hp) (σ:L2.St) (δ:Yf) (own:Г->Zq) (x:V) (d:D) (vs:А V) (ds:А D) (sv:SV) (Q:VK),SR Z F H σ δ own->Z7 K F H d x->Reps K F ds vs->g d ds=some sv->Fin Z F H σ δ own sv Q->r x vs H Q
ОZqo{T:String}{r:V->А V->Hp->VK->В}{g:D->А D->Б SV}{fo:FE}{fd:FD}(hg:Zkm Z r g)(h:Zc Z (Zmu T g fo fd) σ H Q):tBM K T r (Zc Z fo) (Wi Z fd) σ H Q:=by
 O⟨F,δ,own,rv,δ',s,e,k⟩:=h
 O⟨⟨rv1,δ1⟩,e1,e⟩:=aa.mp e
 O⟨d0,e2,e⟩:=aa.mp e
 dsimp only at e
 split at e
 ·rename_i ht
  O⟨⟨ds,δ2⟩,e3,e⟩:=aa.mp e
  O⟨d1,e4,e⟩:=aa.mp e
  O⟨sv,e5,e⟩:=aa.mp e
  C e
  R⟨F,δ,own,rv1,δ1,s,e1,fun v H1 F1 own1 sH1 sF1 s1 r1=>?_⟩
  O⟨F1',sF1',s1',r1'⟩:=s1.settleR r1
  R⟨Zp8 s1'.le (s1'.rd r1' e2) ht,F1',δ1,own1,ds,δ2,s1',e3,fun vs H2 F2 own2 sH2 sF2 s2 r2=>?_⟩
  E hg F2 H2 σ δ2 own2 v d1 vs ds sv Q s2 (s2.rd (r1'.mono sF2) e4) r2 e5 fun q H4 F4 ns sH4 sF4 s4 t4=>
   k q H4 F4 own2 (sH1.trans (sH2.trans sH4)) (sF1.trans (sF1'.trans (sF2.trans sF4))) s4 ⟨ns,t4⟩
 ·C e
РLd:D->А D->Б SV
 |d,[y]=>(Vk d y).bind fun o=>some (.fz (o.getD .non))
 |d,[y,z]=>(Vk d y).bind fun o=>some (.fz (o.getD z))
 |_,_=>none
ОZib:Zkm Z Zd5 Ld:=by
 intro F H σ δ own x d vs ds sv Q s r1 r2 e k
 unfold Ld at e
 split at e
 ·O⟨o,e1,e2⟩:=aa.mp e
  C e2
  cases r2 with
  |cons h t=>
   C t
   O⟨a,rfl,_,g⟩:=T6 s.le e1 r1 (Z7.of h)
   cases o with
   |none=>E⟨a,rfl,.inl ⟨_,none,rfl,g,k.fz s .non⟩⟩
   |some d=>O⟨v,g,rv⟩:=g;E⟨a,rfl,.inl ⟨_,some v,rfl,g,k.fz s rv⟩⟩
 ·O⟨o,e1,e2⟩:=aa.mp e
  C e2
  cases r2 with
  |cons h t=>
   cases t with
   |cons h2 t=>
    C t
    O⟨a,rfl,_,g⟩:=T6 s.le e1 r1 (Z7.of h)
    cases o with
    |none=>E⟨a,rfl,.inr ⟨_,_,none,rfl,g,k.fz s h2⟩⟩
    |some d=>O⟨v,g,rv⟩:=g;E⟨a,rfl,.inr ⟨_,_,some v,rfl,g,k.fz s rv⟩⟩
 ·C e
end
section
variable{X:Cx}{Z:Ent X.K}{a b c:ci}{fa fb fc:FE}{pos:Pos}
ОLe:PE X (.Dict [] [] pos) (Zc Z Pd):=Zcy.imp fun _ _ _ h=>Zh9 h
ОZmv{apos cpos:Pos}{es:А ci}{fd:FD}(hu:X.A.units+1<d8)(ha:PE X a (Zc Z fa))(hb:PA X (b::es) (Wi Z fd))(hbase:attributeBase a "get" X.env (f9 a X.env)=f9 a X.env:=by rfl)
  (hfew:((f7 cpos (ay (b::es) X.env)).all (fun x=>!x.1)&&(backToKw cpos (keywordEach [] X.env)).all (fun x=>x.1.isSome)&&decide ((b::es).length+([]:А Keyword).length+(if([]:А Keyword).isEmpty then 0 else 1)<30))=true:=by rfl)
  (hline:(apos.endLine==cpos.line)=true:=by rfl) (hs:ay (b::es) X.env=(false,f9 b X.env)::ay es X.env:=by rfl) (hpl:(f7 cpos (ay es X.env)).any (·.1)=false:=by rfl):
  PE X (.Call (.Attribute a "get" apos) (b::es) [] cpos) (Zc Z (Zmu "dict" Ld fa fd)):=
 (Ie PySem.F.plainAttrs_dict PySem.F.slot_dict_get PySem.F.type_dict_get (Zh8 hu) ha hb hbase hfew hline hs hpl).imp fun _ _ _ h=>Zqo Zib h
ОT8(i:Г){x:Str}{px p1:Pos}(hu:X.A.units+1<d8)(hb:PE X b (Zc Z fb))(hv':PE X a (Zc Z fa))(hN:X.N[i]? =some x:=by rfl)(hv:Sv X.env.scope x:=by first|E Or.inl rfl|E gg (Or.inl rfl)|E gg (gg rfl))(hd:(x==("__debug__":Str))=false:=by decide)
  (hcd:(x==("__classdict__":Str))=false:=by decide) (hs:swapsWith a (some (.Subscript (.Name x px) b p1)) pos.line X.env=pure false:=by rfl):
  PS X (.Assign [.Subscript (.Name x px) b p1] a pos) (Z1 Z (Rv i fb fa)):=(Zhk hu (Jo (i:=i) hN hv hd hcd) hb hv' hs).imp fun _ _ _ h=>Zqn h
end
end DL
namespace L2
open PySem PySem.Spec PyProof.Rows
variable{X:Cx}
ПHn:А V->Hp->VK->Prop:=fun xs H Q=>∃a kvs,xs=[.ref a]/\RdK H a kvs/\∀p ep,H p=none->Q (.ref p) (Z5 H p (.dK kvs ep))
ОPe:Qd X (.type "dict") Hn:=by
 intro pins s σ H xs us Q I rs h
 O⟨a,kvs,rfl,e,q⟩:=h
 O⟨u,rfl,ru⟩:=Jp rs
 C ru
 E Zc2 I e fun p ep s' hp I'=>⟨.ref p,_,I',rfl,q p ep hp⟩
end L2
namespace DL
open PySem PySem.Spec PyProof.Rows L2
variable{K:af}
section
variable{Z:Ent K}{H:Hp}{σ:L2.St}{Q:VK}{E:Yz}
РPf:А D->Б SV
 | [.dK ks vs]=>some (.oK ks vs)
 |_=>none
ОZd8:Ju Z Hn Pf:=by
 intro F H σ δ own vs ds sv Q s r e k
 unfold Pf at e
 split at e
 ·C e
  cases r with
  |cons h t=>
   C t
   O⟨a,kvs,rfl,ha,ek,rr⟩:=h.dK s.le
   E⟨a,kvs,rfl,ha.rd,fun p ep hp=>k.one s (.oK ek rr) hp⟩
 ·C e
РZu4(k:Str)(i:Г):FE:=fun δ=>match δ[i]? with
 |some (some sv)=>some (.tmp (.oK [.inr k] [sv.toD]),δ.set i (some (.fz sv.toD)))
 |_=>none
РJx(ks:А Key)(vs:А D)(k:Key):А Key×А D:=(((ks.zip vs).filter fun p=>decide (p.1≠k)).map (·.1),((ks.zip vs).filter fun p=>decide (p.1≠k)).map (·.2))
ОHo{F:Hp}(k:Key):∀(kvs:А (Key×V)) (ds:А D),Reps K F ds (kvs.map (·.2))->
  (Js kvs k).map (·.1)=(Jx (kvs.map (·.1)) ds k).1/\Reps K F (Jx (kvs.map (·.1)) ds k).2 ((Js kvs k).map (·.2))
 | [],_,r=>by C r;E⟨rfl,.nil⟩
 |p::kvs,_,r=>by
  cases r with
  | @cons d v ds vs h t=>
   O⟨i1,i2⟩:=Ho k kvs ds t
   have e1:Js (p::kvs) k=if p.1≠k then p::Js kvs k else Js kvs k:=by unfold Js;rw[List.filter_cons];by_cases e:p.1=k<;> simp[e]
   have e2:Jx ((p::kvs).map (·.1)) (d::ds) k=if p.1≠k then(p.1::(Jx (kvs.map (·.1)) ds k).1,d::(Jx (kvs.map (·.1)) ds k).2)else Jx (kvs.map (·.1)) ds k:=by
    unfold Jx
    rw[av,List.zip_cons_cons,List.filter_cons]
    by_cases e:p.1=k<;> simp[e]
   rw[e1,e2]
   by_cases e:p.1=k
   ·rw[Д (fun z=>z e),Д (fun z=>z e)];E⟨i1,i2⟩
   ·rw[Е e,Е e]
    E⟨by rw[av,i1],.cons h i2⟩
РZic(i:Г)(fk:FE):FS:=fun δ=>match δ[i]? with
 |some (some (.oK _ _))=>(fk δ).bind fun r=>(Kx r.1 r.2).bind fun kd=>kd.key?.bind fun k=>match r.2[i]? with
  |some (some (.oK ks vs))=>if(look ks vs k).isSome=true then some (.nx (r.2.set i (some (.oK (Jx ks vs k).1 (Jx ks vs k).2))))else none
  |_=>none
 |_=>none
ОZqp{i:Г}{fk:FE}(h:Z1 Z (Zic i fk) E σ H):Bk (Zc0 (Q8 i) (Zc Z fk)) E σ H:=by
 O⟨F,δ,own,fl,s,e,k⟩:=h
 unfold Zic at e
 split at e
 ·rename_i ks0 vs0 hx0
  O⟨⟨rk,δ1⟩,e1,e⟩:=aa.mp e
  O⟨kd,e2,e⟩:=aa.mp e
  O⟨kk,e3,e⟩:=aa.mp e
  O⟨x,hx,sh0⟩:=s.at' i _ hx0
  O⟨a,kvs0,ep0,ea,en0,ek0,rr0⟩:=T7 sh0
  subst ea
  have mb0:(a,HO.dK kvs0 ep0)∈own i:=by rw[en0];E aj
  R⟨_,hx,a,rfl,.inl ⟨kvs0,ep0,.inl (s.ok i _ mb0).2.2⟩,F,δ,own,rk,δ1,s,e1,fun y H1 F1 own1 sH1 sF1 s1 r1=>?_⟩
  O⟨F2,sF2,s2,r2⟩:=s1.settleR r1
  have rk':=s2.rd r2 e2
  dsimp only at e
  split at e
  ·rename_i ks vs ho
   split at e
   ·rename_i hl
    C e
    O⟨x',hx',sh⟩:=s2.at' i _ ho
    rw[hx]at hx';C hx'
    O⟨b,kvs,ep1,eb,en,rfl,rr⟩:=T7 sh
    C eb
    have mb:(a,HO.dK kvs ep1)∈own1 i:=by rw[en];E aj
    have z:=Gz kk kvs vs rr
    O⟨d,hd⟩:=Option.isSome_iff_exists.mp hl
    rw[hd]at z
    O⟨v,z1,_⟩:=z
    have dk:=Ho kk kvs vs rr
    R⟨kvs,kk,v,⟨_,(s2.ok i _ mb).2.2⟩,T5 e3 rk',z1,fun ep=>?_⟩
    E k σ _ F2 _ (sF1.trans sF2) (s2.change (sv':=.oK (Jx (kvs.map (·.1)) vs kk).1 (Jx (kvs.map (·.1)) vs kk).2) (o':=.dK (Js kvs kk) ep) (ns':=[(a,.dK (Js kvs kk) ep)]) ho hx mb (.oK dk.1 dk.2) (fun p hp=>.inl (au.mp hp)) Ep)
   ·C e
  ·C e
 ·C e
end
section
variable{X:Cx}{Z:Ent X.K}{a b c:ci}{fa fb fc:FE}{pos:Pos}
ОPg{p:Pos}(hm:X.mg "dict"=none)(ha:PE X a (Zc Z fa))(hg:Gl X "dict":=by rfl)(he:ay [a] X.env=(false,f9 a X.env)::ay [] X.env:=by rfl)(hpl:(f7 pos (ay [] X.env)).any (·.1)=false:=by rfl):PE X (.Call (.Name "dict" p) [a] [] pos) (Zc Z (Yl Pf (Zd fa Zn))):=
 Gv Pe Zd8 hm boot_dict (Zo ha Ym he) hg Й Й he hpl
ОZqq(i:Г){x:Str}{px apos cpos:Pos}(hb:PE X b (Zc Z fb))(hN:X.N[i]? =some x:=by rfl)(hv:Sv X.env.scope x:=by first|E Or.inl rfl|E gg (Or.inl rfl)|E gg (gg rfl))(hd:(x==("__debug__":Str))=false:=by decide)
  (hcd:(x==("__classdict__":Str))=false:=by decide) (m:M1 X (.Name x px) "pop" apos b cpos:=by E⟨rfl,rfl,rfl,rfl⟩) (hsw:swapsWith (.Call (.Attribute (.Name x px) "pop" apos) [b] [] cpos) none pos.line X.env=pure false:=by rfl):
  PS X (.Expr (.Call (.Attribute (.Name x px) "pop" apos) [b] [] cpos) pos) (Z1 Z (Zic i fb)):=
 (Od (Zc1 (Jo (i:=i) hN hv hd hcd) hb m) hsw).imp fun _ _ _ h=>Zqp h
end
end DL
namespace L2
open PySem PySem.Spec PyProof.Rows
section
variable{prog:bu}{w:cj}{A:ck}{E:ah->ak->В}{s:ak}
ОVm{Q:Int->ak->В}(h:Q 0xFCA86420 {s with toks:=s.toks+1}):ba (bp prog w) A (pyHash .none) Q E s:=by
 have hT:s.TypeIs .none "NoneType":=rfl
 R PySem.W.pyHash_slot (v:=.none) (Q:=Q) hT F.slot_NoneType_hash F.entry_NoneType_hash (F.args_NoneType_hash_1 _) rfl (.inl rfl) ?_
 show ba (bp prog w) A.in1 (mkInt 0xFCA86420 >>=fun v=>ret v) _ E s
 R ad (wpAny_mkInt ?_)
 E ag ⟨_,_,rfl,h⟩
end
ПZd9:Б Key->ah->Bool
 |none,.none=>true
 |none,_=>false
 |some k,v=>Bi k v
ОYv{k:Б Key}{v:ah}(h:Zd9 k v=true):(k=none/\v= .none)\/∃j,k=some j/\Bi j v=true:=by
 cases k with
 |none=>cases v<;> first|E .inl ⟨rfl,rfl⟩|C h
 |some j=>E .inr ⟨j,rfl,h⟩
ОT9{j:Key}(h:Bi j .none=true):False:=by
 rcases Z0 h with⟨i,t,_,e⟩|⟨x,t,_,e⟩<;> C e
ПLf(prog:bu)(w:cj):PySem.KeyKind prog w (Б Key)where
 is:=Zd9
 hash:=fun|none=>0xFCA86420|some k=>(Zj prog w).hash k
 inj:=fun v a b ha hb=>by
  rcases Yv ha with⟨rfl,rfl⟩|⟨i,rfl,hi⟩
  ·rcases Yv hb with⟨rfl,_⟩|⟨j,rfl,hj⟩
   ·rfl
   ·E(T9 hj).elim
  ·rcases Yv hb with⟨rfl,rfl⟩|⟨j,rfl,hj⟩
   ·E(T9 hi).elim
   ·rw[(Zj prog w).inj v i j hi hj]
 byValue:=fun k v h=>by
  rcases Yv h with⟨rfl,rfl⟩|⟨i,rfl,hi⟩
  ·rfl
  ·E(Zj prog w).byValue i v hi
 pyHash:=fun{A E s k v Q} hv h=>by
  rcases Yv hv with⟨rfl,rfl⟩|⟨i,rfl,hi⟩
  ·E Vm h
  ·E(Zj prog w).pyHash hi h
 eqBool:=fun{A E s a b u v Q} hu hv h=>by
  rcases Yv hu with⟨rfl,rfl⟩|⟨i,rfl,hi⟩
  ·rcases Yv hv with⟨rfl,rfl⟩|⟨j,rfl,hj⟩
   ·E SeqAt.EqAt.same _ _ _ _ _ (by simpa using h)
   ·rw[Ж (fun z=>nomatch z)]at h
    rcases Z0 hj with⟨i,t,rfl,rfl⟩|⟨x,t,rfl,rfl⟩
    ·E SeqAt.EqAt.none_int i t _ _ _ _ h
    ·E SeqAt.EqAt.none_str x t _ _ _ _ h
  ·rcases Yv hv with⟨rfl,rfl⟩|⟨j,rfl,hj⟩
   ·rw[Ж (fun z=>nomatch z)]at h
    rcases Z0 hi with⟨i,t,rfl,rfl⟩|⟨x,t,rfl,rfl⟩
    ·E SeqAt.EqAt.int_none i t _ _ _ _ h
    ·E SeqAt.EqAt.str_none x t _ _ _ _ h
   ·R(Zj prog w).eqBool hi hj ?_
    have e:decide (some i=some j)=decide (i=j):=by simp
    rw[<-e];E h
 «strs»:=fun k x t v h=>by
  rcases Yv h with⟨rfl,e⟩|⟨i,rfl,hi⟩
  ·C e
  ·E(Zj prog w).strs i x t v hi
variable{X:Cx}
ОHq{P:bu}{w:cj}{h:dr}{a:am}{vs:А (Key×ah)}(d:h.DictOf (Zj P w) a vs):h.MapOf (Lf P w) a (fun|none=>none|some k=>valueAt vs k):=by
 O⟨o,es,ep,ho,hc,hd,hk,hf⟩:=d.mapOf
 R⟨o,es,ep,ho,hc,hd,fun e he=>?_,fun k=>?_⟩
 ·O⟨k,h1,h2⟩:=hk e he
  E⟨some k,h1,h2⟩
 ·cases k with
  |some k=>E hf k
  |none=>
   show(es.find? fun e=>Zd9 none e.key).map (·.val)=none
   rw[Array.find?_eq_none.mpr fun e he z=>?_]
   ·rfl
   ·O⟨k,h1,_⟩:=hk e he
    rcases Yv z with⟨_,e2⟩|⟨j,e2,_⟩
    ·rw[e2]at h1;E T9 h1
    ·C e2
ПR0(neg:Bool):R2:=fun y x H Q=>∃a kvs,y= .non/\x= .ref a/\RdK H a kvs/\Q (.bl neg) H
ОIu:Bl X (gx .In) (R0 false):=by
 intro pins s σ H y x v u Q I ry rx h
 O⟨a,kvs,rfl,rfl,e,q⟩:=h
 C ry
 C rx
 O⟨z,hd,vs,rel,dd⟩:=Bp I.hok e
 E wpAny_in_of (knd:=Lf X.prog X.w) (k:=none) rfl hd (Hq dd) ⟨.bl false,H,I.tok _,rfl,q⟩
ОLg:Bl X (gx .NotIn) (R0 true):=by
 intro pins s σ H y x v u Q I ry rx h
 O⟨a,kvs,rfl,rfl,e,q⟩:=h
 C ry
 C rx
 O⟨z,hd,vs,rel,dd⟩:=Bp I.hok e
 E wpAny_notIn_of (knd:=Lf X.prog X.w) (k:=none) rfl hd (Hq dd) ⟨.bl true,H,I.tok _,rfl,q⟩
end L2
namespace L2
open PySem PySem.Spec PyProof.Rows
ПLh(es:Array DictEntry)(kvs:А (Str×ah)):Prop:=es.size=kvs.length/\∀(i:Г) (p:Str×ah),kvs[i]? =some p->∃e t,es[i]? =some e/\e.key= .str p.1 t/\e.val=p.2
ПG3(h:dr)(a:am)(kvs:А (Str×ah)):Prop:=∃o es ep,h.get? a=some o/\o.ExactDict/\o.data= .dict es ep/\Lh es kvs
Пplace(kvs:А (Str×ah))(x:Str):Б Nat:=kvs.findIdx? fun p=>decide (p.1=x)
ОLh.find{es:Array DictEntry}{kvs:А (Str×ah)}(h:Lh es kvs)(x:Str):(es.findIdx? fun e=>e.key.isStr x)=place kvs x:=by
 unfold place
 have hA:(es.findIdx? fun e=>e.key.isStr x)=es.toList.findIdx? fun e=>e.key.isStr x:=by O⟨l⟩:=es;simp
 rw[hA]
 have:∀(es:А DictEntry) (kvs:А (Str×ah)),es.length=kvs.length->(∀(i:Г) (p:Str×ah),kvs[i]? =some p->∃e t,es[i]? =some e/\e.key= .str p.1 t/\e.val=p.2)->
   es.findIdx? (fun e=>e.key.isStr x)=kvs.findIdx? fun p=>decide (p.1=x):=by
  intro es
  induction es with
  |nil=>intro kvs hl _;cases kvs with
   |nil=>rfl
   |cons p r=>C hl
  |cons e es ih=>
   intro kvs hl hp
   cases kvs with
   |nil=>C hl
   |cons p r=>
    O⟨e',t,h1,h2,h3⟩:=hp 0 p rfl
    obtain rfl:e=e':=by simpa using h1
    have hk:e.key.isStr x=decide (p.1=x):=by
     rw[h2]
     show(p.1==x)=_
     by_cases z:p.1=x
     ·rw[z];simp
     ·rw[Ж z];E beq_eq_false_iff_ne.mpr z
    rw[List.findIdx?_cons,List.findIdx?_cons,hk,ih r (by simpa using hl) (fun i q hq=>hp (i+1) q (by simpa using hq))]
 E this es.toList kvs (by rw[aw];E h.1) (fun i p hp=>by
  O⟨e,t,h1,h2⟩:=h.2 i p hp
  E⟨e,t,by rw[b5];E h1,h2⟩)
section
variable{prog:bu}{w:cj}{A:ck}{E:ah->ak->В}{s:ak}
ОZa9{d:am}{o:Obj}{es:Array DictEntry}{ep:Г}{kvs:А (Str×ah)}{x:Str}{t:Tok}{n:Int}{Q:Б Г->ak->В}(ho:s.heap.get? d=some o)(hd:o.data= .dict es ep)(hp:Lh es kvs)(q:Q (place kvs x) s):
  ba (bp prog w) A (dictFind d (.str x t) n) Q E s:=by
 have hall:(es.all fun e=>isExactStrKey e.key)=true:=by
  rw[Array.all_eq_true]
  intro i hi
  have hi':i<kvs.length:=by rw[<-hp.1];E hi
  O⟨e,t',h1,h2,_⟩:=hp.2 i kvs[i] (by simp[hi'])
  rw[Array.getElem?_eq_getElem hi]at h1
  C h1
  rw[h2];rfl
 unfold dictFind
 try with_reducible R gc ?_
 R ad (wpAny_dictEntries ho hd ?_)
 dsimp only
 rw[Е hall]
 unfold foundByValue
 rw[hp.find x]
 cases hj:place kvs x with
 |none=>rw[hj]at q;E ag q
 |some j=>
  rw[hj]at q
  O⟨hlt,hx,_⟩:=List.findIdx?_eq_some_iff_getElem.mp hj
  O⟨e,t',h1,h2,h3⟩:=hp.2 j kvs[j] (by simp[hlt])
  have hx':kvs[j].1=x:=of_decide_eq_true hx
  rw[hx']at h2
  dsimp only
  rw[h1]
  dsimp only
  R ad (wpAny_dictEpoch ho hd ?_)
  rw[h2]
  R ad (SeqAt.EqAt.str_str x t' x t prog w _ _ ?_)
  R ad (wpAny_dictEpoch ho hd ?_)
  rw[Д Л]
  simp only[beq_self_eq_true,if_true]
  E ad (wpAny_rule (ag q))
end
inductive SHits(A:ck)(s:ak)(kb:А (Str×ah)):А (Str×ah)->Bool->В where
 |nil:SHits A s kb [] true
 |miss {k:Str} {v:ah} {r:А (Str×ah)}:place kb k=none->SHits A s kb ((k,v)::r) false
 |hit {k:Str} {v:ah} {r:А (Str×ah)} {j:Г} {p:Str×ah} {e b:Bool}:place kb k=some j->kb[j]? =some p->SeqAt.EqAt A s v p.2 e->SHits A s kb r b->SHits A s kb ((k,v)::r) (e&&b)
section
variable{prog:bu}{w:cj}{A:ck}{E:ah->ak->В}{s:ak}
ОAa{nm:String}{a b:am}{ka kb:А (Str×ah)}{r:Bool}{Q:Bool->ak->В}(ha:(a==ff)=false)(hb:(b==ff)=false)(da:G3 s.heap a ka)(db:G3 s.heap b kb)
  (hits:ka.length=kb.length->SHits A s kb ka r) (q:Q (ka.length==kb.length&&r) s):ba (bp prog w) A (Builtin.Dict.samePairs nm a b) Q E s:=by
 O⟨oa,es,ep,ga,_,dta,pa⟩:=da
 O⟨ob,es',ep',gb,_,dtb,pb⟩:=db
 have la:=pa.1
 have lb:=pb.1
 unfold Builtin.Dict.samePairs Builtin.Dict.showsAll
 rw[Д (by rw[ha];E bh),Д (by rw[hb];E bh)]
 R ad (ag (ad (ag (ad (wpAny_dictEntries ga dta ?_)))))
 R ad (wpAny_dictEntries gb dtb ?_)
 by_cases hz:es.size=es'.size
 ·have hl:ka.length=kb.length:=by W
  have q':Q r s:=by simpa[hl]using q
  have hh:=hits hl
  rw[Д (by rw[hz];simp)]
  R ad (wpAny_dictEpoch ga dta (ad ?_))
  rw[Std.Legacy.Range.forIn_eq_forIn_range']
  simp only[Std.Legacy.Range.size,Nat.sub_zero,Nat.add_sub_cancel,Nat.div_one]
  R wpAny_forIn_list _ (fun rest x s'=>s'=s/\x=(none,())/\∃i,rest=List.range' i (es.size- i)/\i<=es.size/\SHits A s kb (ka.drop i) r) _ ?_ ?_ _ _ ⟨rfl,rfl,0,by simp,dn _,hh⟩
  ·rintro x rest y s' ⟨rfl,rfl,i,hr,hi,hS⟩
   have hlt:i<es.size:=by
    rcases gy i es.size with z|z
    ·E z
    ·rw[Nat.sub_eq_zero_of_le z]at hr;C hr
   rw[show es.size- i=(es.size- (i+1))+1 by W,List.range'_succ]at hr
   injection hr with hx hrest
   subst hx
   have hlk:x<ka.length:=by W
   O⟨e,t,h1,h2,h3⟩:=pa.2 x ka[x] (by simp[hlk])
   rw[List.drop_eq_getElem_cons hlk]at hS
   R ad (wpAny_dictEntries ga dta ?_)
   rw[h1]
   show ba _ _ (holding [e.key,e.val] _ >>=_) _ _ _
   rw[h2]
   R ad (gc (ad (Za9 gb dtb pb ?_)))
   generalize hk:ka[x]=p at hS h2 h3⊢
   O⟨k,v⟩:=p
   cases hS with
   |miss hn=>
    rw[hn]
    R ag ?_
    show ba _ _ (if(!false)=true then _ else _) _ _ _
    rw[Е Й]
    E ag (ag q')
   | @hit _ _ _ j p' eb bb hn hp he hr'=>
    rw[hn]
    O⟨f,t',g1,g2,g3⟩:=pb.2 j p' hp
    R ad (wpAny_dictEntries gb dtb ?_)
    rw[g1]
    rw[show e.val=v from h3]
    dsimp only
    rw[g3]
    R gc (he prog w _ _ ?_)
    cases eb with
    |false=>
     rw[Bool.false_and]at q'
     show ba _ _ (if(!false)=true then _ else _) _ _ _
     rw[Е Й]
     E ag (ag q')
    |true=>
     show ba _ _ (if(!true)=true then _ else _) _ _ _
     rw[Д Й]
     R ad (wpAny_dictEpoch ga dta ?_)
     rw[Д Л]
     E ag ⟨rfl,rfl,x+1,hrest,hlt,by rw[Bool.true_and];E hr'⟩
  ·rintro x s' ⟨rfl,rfl,i,hr,hi,hS⟩
   have e:i=es.size:=by
    rcases gy i es.size with z|z
    ·rw[show es.size- i=(es.size- (i+1))+1 by W,List.range'_succ]at hr;C hr
    ·W
   rw[e,la,List.drop_length]at hS
   C hS
   E ag q'
 ·rw[Е (by simpa using hz)]
  have hf:(ka.length==kb.length)=false:=by rw[<-la,<-lb];simpa using hz
  rw[hf,Bool.false_and]at q
  E ad (wpAny_rule (ag q))
end
section
variable{A:ck}{s:ak}{a b:am}{ka kb:А (Str×ah)}{r:Bool}
ОG3.typeIs(d:G3 s.heap a ka):s.TypeIs (.ref a) "dict":=let⟨o,_,_,ho,hc,_⟩:=d;⟨o,ho,hc.1⟩
ОPh(ha:(a==ff)=false)(hb:(b==ff)=false)(da:G3 s.heap a ka)(db:G3 s.heap b kb)(hu:A.units<d8)(hits:ka.length=kb.length->SHits A.in1 s kb ka r):SeqAt.RcAt A s (.ref a) (.ref b) (ka.length==kb.length&&r):=fun prog w E Q q=>by
 R wpAny_richCompare_same_room (op:=.Eq) da.typeIs db.typeIs PySem.F.slot_dict_eq (c5 PySem.F.slot_dict_eq da.typeIs PySem.F.entry_dict_eq ?_ (PySem.F.args_dict_eq_2 _ _)) hu;show ba _ _ (Builtin.Dict.dictSlotArgs "__eq__" ⟨[.ref a,.ref b],[]⟩>>=_) _ _ s
 R ad ?_;unfold Builtin.Dict.dictSlotArgs;R ad (wpAny_notOrdered_dict da.typeIs ?_);show ba _ _ (pure (bv a,bv b)) _ _ s
 R ag (ad (gk (T:="dict") db.typeIs PySem.F.sub_dict_dict ?_));simp only[du,bg,if_false]
 R ad (ag (ad (ag (ad (Aa ha hb da db hits ?_)))))
 E ag ⟨_,rfl,(fun x=>nomatch x),by simpa using q⟩
ОAb(ha:(a==ff)=false)(hb:(b==ff)=false)(da:G3 s.heap a ka)(db:G3 s.heap b kb)(hu:A.units<d8)(hits:ka.length=kb.length->SHits A.in1 s kb ka r):SeqAt.RcNeAt A s (.ref a) (.ref b) (!(ka.length==kb.length&&r)):=fun prog w E Q q=>by
 R wpAny_richCompare_same_room (op:=.NotEq) da.typeIs db.typeIs PySem.F.slot_dict_ne (c5 PySem.F.slot_dict_ne da.typeIs PySem.F.entry_dict_ne ?_ (PySem.F.args_dict_ne_2 _ _)) hu;show ba _ _ (Builtin.Dict.dictSlotArgs "__ne__" ⟨[.ref a,.ref b],[]⟩>>=_) _ _ s
 R ad ?_;unfold Builtin.Dict.dictSlotArgs;R ad (wpAny_notOrdered_dict da.typeIs ?_);show ba _ _ (pure (bv a,bv b)) _ _ s
 R ag (ad (gk (T:="dict") db.typeIs PySem.F.sub_dict_dict ?_));simp only[du,bg,if_false]
 R ad (ag (ad (ag (ad (Aa ha hb da db hits ?_)))))
 E ag ⟨_,rfl,(fun x=>nomatch x),by simpa using q⟩
end
end L2
namespace DL
open PySem PySem.Spec PyProof.Rows L2
variable{K:af}
РstrK?:А Key->Б (А Str)
 | []=>some []
 | .inr x::r=>(strK? r).bind fun t=>some (x::t)
 |_=>none
РLi(f:D->D->Б Bool)(ys:А Str)(us:А D):А Str->А D->Б Bool
 |x::xs,v::vs=>match look ys us x with
  |none=>some false
  |some u=>(f v u).bind fun b=>(Li f ys us xs vs).bind fun c=>some (b&&c)
 |_,_=>some true
РG4(f:D->D->Б Bool):D->D->Б Bool
 | .dK ks vs,.dK ks' vs'=>(strK? ks).bind fun xs=>(strK? ks').bind fun ys=>if xs.length=ys.length then Li f ys vs' xs vs else some false
 |d1,d2=>C3 f d1 d2
РWp:Г->D->D->Б Bool
 |0=>fun _ _=>none
 |n+1=>G4 (Wp n)
ОHr{P:bu}{w:cj}:∀{es:А DictEntry} {kvs:А (Key×ah)} {xs:А Str},Pairs (Zj P w) es kvs->strK? (kvs.map (·.1))=some xs->
  ∃skv:А (Str×ah),skv.map (·.1)=xs/\skv.map (·.2)=kvs.map (·.2)/\es.length=skv.length/\∀(i:Г) (p:Str×ah),skv[i]? =some p->∃e t,es[i]? =some e/\e.key= .str p.1 t/\e.val=p.2
 |_,_,_,.nil,e=>by C e;E⟨[],rfl,rfl,rfl,fun i p h=>by simp at h⟩
 |_,_,_,@Pairs.cons _ _ _ _ _ en kv es kvs hi hv t,e=>by
  O⟨k,v⟩:=kv
  cases k with
  |inl i=>C e
  |inr x=>
   have e:(strK? (kvs.map (·.1))).bind (fun t=>some (x::t))=some _:=e
   O⟨xs,e1,e2⟩:=aa.mp e
   C e2
   O⟨skv,h1,h2,h3,h4⟩:=Hr t e1
   R⟨(x,v)::skv,by rw[av,h1],by rw[av,av,h2],by rw[bn,bn,h3],fun i p hp=>?_⟩
   cases i with
   |zero=>
    obtain rfl:(x,v)=p:=by simpa using hp
    rcases Z0 (show Bi (.inr x) en.key=true from hi)with⟨j,t',e3,_⟩|⟨y,t',e3,e4⟩
    ·C e3
    ·C e3;E⟨en,t',rfl,e4,hv⟩
   |succ i=>E h4 i p (by simpa using hp)
ОLj:∀{kvs:А (Key×V)} {vs:А (Key×ah)},KV kvs vs->vs.map (·.1)=kvs.map (·.1)/\Zw (kvs.map (·.2)) (vs.map (·.2))
 |_,_,.nil=>⟨rfl,.nil⟩
 |_,_,.cons h t=>⟨by rw[av,av,h.1,(Lj t).1],.cons h.2 (Lj t).2⟩
section
variable{X:Cx}{pins:А (am×Obj)}{σ:L2.St}{F H:Hp}{s:ak}
ОAc(I:Inv X pins σ H s){a:am}{kvs:А (Key×V)}{xs:А Str}(ha:HK H a kvs)(e:strK? (kvs.map (·.1))=some xs):
  (a==ff)=false/\∃skv:А (Str×ah),G3 s.heap a skv/\skv.map (·.1)=xs/\Zw (kvs.map (·.2)) (skv.map (·.2))/\(kvs.map (·.1)).Nodup:=by
 O⟨z,hd,vs,rel,dd⟩:=Hc I.hok ha
 O⟨k1,k2⟩:=Lj rel
 O⟨o,es,ep,ho,hc,hdt,_,hp,nd⟩:=dd
 rw[<-k1]at e
 O⟨skv,h1,h2,h3,h4⟩:=Hr hp e
 R⟨hd,skv,⟨o,es,ep,ho,hc,hdt,by rw[<-h3];simp,fun i p hpp=>?_⟩,h1,by rw[h2];E k2,by rw[<-k1];E nd⟩
 O⟨en,t,g1,g2⟩:=h4 i p hpp
 E⟨en,t,by rw[<-b5];E g1,g2⟩
ОC5(x:Str):∀(skv:А (Str×ah)) (us:А D) (Us:А V),Reps X.K F us Us->Zw Us (skv.map (·.2))->match look (skv.map (·.1)) us x with
  |none=>place skv x=none
  |some u=>∃j p U,place skv x=some j/\skv[j]? =some p/\Rep X.K F u U/\Zp U p.2
 | [],_,_,r,v=>by C v;C r;rfl
 |p::skv,_,_,r,v=>by
  cases v with
  | @cons U u' Us us' hU tU=>
  cases r with
  | @cons d v' ds vs' h t=>
   have ih:=C5 x skv ds Us t tU
   show match(if p.1=x then some d else look (skv.map (·.1)) ds x)with
    |none=>place (p::skv) x=none
    |some u=>∃j q U,place (p::skv) x=some j/\(p::skv)[j]? =some q/\Rep X.K F u U/\Zp U q.2
   have hpl:place (p::skv) x=if p.1=x then some 0 else(place skv x).map (· +1):=by
    unfold place
    rw[List.findIdx?_cons]
    by_cases e:p.1=x<;> simp[e]
   by_cases e:p.1=x
   ·rw[Е e,hpl,Е e]
    E⟨0,p,U,rfl,rfl,h,hU⟩
   ·rw[Д e,hpl,Д e]
    cases hl:look (skv.map (·.1)) ds x with
    |none=>rw[hl]at ih;dsimp only at ih⊢;rw[ih];rfl
    |some u=>
     rw[hl]at ih
     O⟨j,q,U',h1,h2,h3,h4⟩:=ih
     E⟨j+1,q,U',by rw[h1];rfl,by simpa using h2,h3,h4⟩
ОHs{A:ck}{f:D->D->Б Bool}(ih:∀d1 d2 b x y v u,Rep X.K F d1 x->Zp x v->Rep X.K F d2 y->Zp y u->f d1 d2=some b->SeqAt.EqAt A s v u b){skv2:А (Str×ah)}{us:А D}{Us:А V}(ru:Reps X.K F us Us)(vu:Zw Us (skv2.map (·.2))):
  ∀(skv:А (Str×ah)) (vs:А D) (Vs:А V) (r:Bool),Reps X.K F vs Vs->Zw Vs (skv.map (·.2))->Li f (skv2.map (·.1)) us (skv.map (·.1)) vs=some r->SHits A s skv2 skv r
 | [],_,_,_,r,v,e=>by C v;C r;C e;E .nil
 |p::skv,_,_,_,r,v,e=>by
  O⟨k,w⟩:=p
  cases v with
  | @cons V0 u' Vs us' hV tV=>
  cases r with
  | @cons d v' ds vs' h t=>
   have lp:=C5 (X:=X) (F:=F) k skv2 us Us ru vu
   have e:(match look (skv2.map (·.1)) us k with
    |none=>some false
    |some u=>(f d u).bind fun b=>(Li f (skv2.map (·.1)) us (skv.map (·.1)) ds).bind fun c=>some (b&&c))=some _:=e
   cases hl:look (skv2.map (·.1)) us k with
   |none=>
    rw[hl]at lp e
    C e
    E .miss lp
   |some u=>
    rw[hl]at lp e
    O⟨j,q,U,h1,h2,h3,h4⟩:=lp
    O⟨b,e1,e2⟩:=aa.mp e
    O⟨c,e3,e4⟩:=aa.mp e2
    C e4
    E .hit h1 h2 (ih _ _ _ _ _ _ _ h hV h3 h4 e1) (Hs ih ru vu skv ds Vs c t tV e3)
end
end DL
namespace DL
open PySem PySem.Spec PyProof.Rows L2
variable{K:af}
ОIv:∀(skv:А (Str×ah)),(skv.map (·.1)).Nodup->∀q∈skv,∃j,place skv q.1=some j/\skv[j]? =some q
 | [],_,_,h=>nomatch h
 |p::r,nd,q,h=>by
  O⟨n1,n2⟩:=fu.mp nd
  have hpl:place (p::r) q.1=if p.1=q.1 then some 0 else(place r q.1).map (· +1):=by
   unfold place
   rw[List.findIdx?_cons]
   by_cases e:p.1=q.1<;> simp[e]
  rcases bo.mp h with e|e
  ·subst e;E⟨0,by rw[hpl,Е rfl],rfl⟩
  ·O⟨j,h1,h2⟩:=Iv r n2 q e
   have hne:¬p.1=q.1:=fun z=>n1 (a6.mpr ⟨q,e,z.symm⟩)
   E⟨j+1,by rw[hpl,Д hne,h1];rfl,by simpa using h2⟩
ОPi:∀{ks:А Key} {xs:А Str},strK? ks=some xs->ks=xs.map b8
 | [],_,e=>by C e;rfl
 | .inr x::ks,_,e=>by
  O⟨t,e1,e2⟩:=aa.mp e
  C e2
  rw[Pi e1];rfl
 | .inl i::ks,_,e=>by C e
ОVn{ks:А Key}{xs:А Str}(e:strK? ks=some xs)(nd:ks.Nodup):xs.Nodup:=by
 rw[Pi e]at nd
 have z:(xs.map b8:А Key).Pairwise (· ≠ ·):=nd
 rw[df]at z
 E z.imp fun h e=>h (by rw[e])
section
variable{X:Cx}{pins:А (am×Obj)}{σ:L2.St}{F H:Hp}{s:ak}
ОIw{f:D->D->Б Bool}(ih:∀(d1 d2:D) (b:Bool) (x y:V) (v:ah),Rep X.K F d1 x->Zp x v->Rep X.K F d2 y->Zp y v->f d1 d2=some b->b=true){skv:А (Str×ah)}{us:А D}{Us:А V}(ru:Reps X.K F us Us)(vu:Zw Us (skv.map (·.2))):
  ∀(skv1:А (Str×ah)) (vs:А D) (Vs:А V) (r:Bool),(∀q∈skv1,∃j,place skv q.1=some j/\skv[j]? =some q)->Reps X.K F vs Vs->Zw Vs (skv1.map (·.2))->Li f (skv.map (·.1)) us (skv1.map (·.1)) vs=some r->r=true
 | [],_,_,_,_,r,v,e=>by C v;C r;C e;rfl
 |p::skv1,_,_,_,hs,r,v,e=>by
  O⟨k,w⟩:=p
  cases v with
  | @cons V0 u' Vs us' hV tV=>
  cases r with
  | @cons d v' ds vs' h t=>
   have lp:=C5 (X:=X) (F:=F) k skv us Us ru vu
   O⟨j,hj1,hj2⟩:=hs (k,w) aj
   have e:(match look (skv.map (·.1)) us k with
    |none=>some false
    |some u=>(f d u).bind fun b=>(Li f (skv.map (·.1)) us (skv1.map (·.1)) ds).bind fun c=>some (b&&c))=some _:=e
   cases hl:look (skv.map (·.1)) us k with
   |none=>
    rw[hl]at lp
    rw[show place skv k=some j from hj1]at lp
    C lp
   |some u=>
    rw[hl]at lp e
    O⟨j',q,U,h1,h2,h3,h4⟩:=lp
    rw[show place skv k=some j from hj1]at h1
    C h1
    rw[hj2]at h2
    C h2
    O⟨b,e1,e2⟩:=aa.mp e
    O⟨c,e3,e4⟩:=aa.mp e2
    C e4
    rw[ih _ _ _ _ _ _ h hV h3 h4 e1,Iw ih ru vu skv1 ds Vs c (fun q hq=>hs q (ar _ hq)) t tV e3];rfl
ОAd(I:Inv X pins σ H s)(le:Zf F H):∀(n:Г) (d1 d2:D) (b:Bool) (x y:V) (v:ah),Rep X.K F d1 x->Zp x v->Rep X.K F d2 y->Zp y v->Wp n d1 d2=some b->b=true
 |0,_,_,_,_,_,_,_,_,_,_,e=>by C e
 |n+1,d1,d2,b,x,y,v,r1,v1,r2,v2,e=>by
  unfold Wp G4 at e
  split at e
  ·cases r1 with
   | @dK a ks ds kvs ep1 h1 e1 rr1=>
   cases r2 with
   | @dK a' ks' ds' kvs' ep2 h2 e2 rr2=>
   C v1
   cases(show bv a=bv a' from v2)
   rw[h1]at h2
   C h2
   subst e1 e2
   O⟨xs,f1,e⟩:=aa.mp e
   O⟨ys,f2,e⟩:=aa.mp e
   rw[f1]at f2
   C f2
   rw[Е rfl]at e
   O⟨_,skv,_,hk,hv,nd⟩:=Ac I ⟨_,le _ _ h1⟩ f1
   have ndx:=Vn f1 nd
   rw[<-hk]at e ndx
   E Iw (Ad I le n) rr2 hv skv _ _ b (Iv skv ndx) rr1 hv e
  ·E Za4 I le (Ad I le n) d1 d2 b x y v r1 v1 r2 v2 e
ОrcM(I:Inv X pins σ H s)(le:Zf F H){A:ck}{f:D->D->Б Bool}{d1 d2:D}{b:Bool}{x y:V}{v u:ah}
  (ih:∀d1 d2 b x y v u,Rep X.K F d1 x->Zp x v->Rep X.K F d2 y->Zp y u->f d1 d2=some b->SeqAt.EqAt A.in1 s v u b) (r1:Z7 X.K F H d1 x) (v1:Zp x v) (r2:Z7 X.K F H d2 y) (v2:Zp y u)
  (e:G4 f d1 d2=some b) (hu:A.units<d8) (hr:Yi x=false\/Yi y=false):(∃a c,v= .ref a/\u= .ref c)/\SeqAt.RcAt A s v u b/\SeqAt.RcNeAt A s v u (!b):=by
 unfold G4 at e
 split at e
 ·O⟨a1,kvs1,rfl,ha1,rfl,rr1⟩:=r1.dK le
  O⟨a2,kvs2,rfl,ha2,rfl,rr2⟩:=r2.dK le
  C v1;C v2
  O⟨xs,f1,e⟩:=aa.mp e
  O⟨ys,f2,e⟩:=aa.mp e
  O⟨m1,skv1,sd1,hk1,hv1,_⟩:=Ac I ha1 f1
  O⟨m2,skv2,sd2,hk2,hv2,_⟩:=Ac I ha2 f2
  have l1:skv1.length=xs.length:=by rw[<-hk1,ao]
  have l2:skv2.length=ys.length:=by rw[<-hk2,ao]
  R⟨⟨_,_,rfl,rfl⟩,?_⟩
  split at e
  ·rename_i hl
   rw[<-hk1,<-hk2]at e
   have hits:skv1.length=skv2.length->SHits A.in1 s skv2 skv1 b:=fun _=>Hs ih rr2 hv2 skv1 _ _ b rr1 hv1 e
   have hb:b=(skv1.length==skv2.length&&b):=by rw[l1,l2,hl];simp
   rw[hb]
   E⟨Ph m1 m2 sd1 sd2 hu hits,Ab m1 m2 sd1 sd2 hu hits⟩
  ·rename_i hl
   C e
   have hits:skv1.length=skv2.length->SHits A.in1 s skv2 skv1 false:=fun z=>absurd И hl
   have hb:false=(skv1.length==skv2.length&&false):=by simp
   rw[hb]
   E⟨Ph m1 m2 sd1 sd2 hu hits,Ab m1 m2 sd1 sd2 hu hits⟩
 ·E rcN I le ih r1 v1 r2 v2 e hu hr
ОAe(I:Inv X pins σ H s)(le:Zf F H):∀(n:Г) (A:ck) (d1 d2:D) (b:Bool) (x y:V) (v u:ah),A.units+n<d8->Rep X.K F d1 x->Zp x v->Rep X.K F d2 y->Zp y u->Wp n d1 d2=some b->SeqAt.EqAt A s v u b
 |0,_,_,_,_,_,_,_,_,_,_,_,_,_,e=>by C e
 |n+1,A,d1,d2,b,x,y,v,u,hu,r1,v1,r2,v2,e=>by
  by_cases hf:Yi x=true/\Yi y=true
  ·have e':eqS d1 d2=some b:=by
    unfold Wp G4 at e
    split at e
    ·C r1;cases hf.1
    ·unfold C3 at e
     split at e
     ·C r1;cases hf.1
     ·C r1;cases hf.1
     ·C r1;cases hf.1
     ·C r1;cases hf.1
     ·E e
   O⟨f1,f2,rfl⟩:=T0 (H:=H) e' (Z7.of r1) (Z7.of r2)
   E Zcn v1 v2 f1 f2
  ·have hf':Yi x=false\/Yi y=false:=by
    cases h1:Yi x with
    |false=>E .inl rfl
    |true=>cases h2:Yi y with
     |false=>E .inr rfl
     |true=>E absurd ⟨h1,h2⟩ hf
   O⟨⟨a,c,rfl,rfl⟩,h1,_⟩:=rcM I le (A:=A) (f:=Wp n) (fun d1 d2 b x y v u q1 w1 q2 w2 e=>Ae I le n A.in1 d1 d2 b x y v u (by have:A.in1.units=A.units+1:=rfl;W) q1 w1 q2 w2 e) (Z7.of r1) v1 (Z7.of r2) v2 e И hf'
   by_cases hac:a=c
   ·subst hac
    rw[Ad I le (n+1) d1 d2 b x y _ r1 v1 r2 v2 e]
    E SeqAt.EqAt.same _
   ·E SeqAt.EqAt.of_refs hac h1
ПZid(K:af)(neg:Bool):R2:=fun x y H Q=>∃F d1 d2 b,Zf F H/\Z7 K F H d1 x/\Z7 K F H d2 y/\Wp 48 d1 d2=some b/\(Yi x=false\/Yi y=false)/\Q (.bl (if neg then !b else b)) H
ОZea(hu:X.A.units+64<d8):Bl X (gx .Eq) (Zid X.K false):=by
 intro pins s σ H x y v u Q I rx ry h
 O⟨F,d1,d2,b,le,r1,r2,e,hf,q⟩:=h
 O⟨_,h1,_⟩:=rcM I le (A:=X.A) (f:=Wp 47) (fun d1 d2 b x y v u q1 w1 q2 w2 e=>Ae I le 47 X.A.in1 d1 d2 b x y v u (by have:X.A.in1.units=X.A.units+1:=rfl;W) q1 w1 q2 w2 e) r1 rx r2 ry e И hf
 E h1 X.prog X.w X.xe _ ⟨.bl b,H,I,rfl,q⟩
ОZmw(hu:X.A.units+64<d8):Bl X (gx .NotEq) (Zid X.K true):=by
 intro pins s σ H x y v u Q I rx ry h
 O⟨F,d1,d2,b,le,r1,r2,e,hf,q⟩:=h
 O⟨_,_,h1⟩:=rcM I le (A:=X.A) (f:=Wp 47) (fun d1 d2 b x y v u q1 w1 q2 w2 e=>Ae I le 47 X.A.in1 d1 d2 b x y v u (by have:X.A.in1.units=X.A.units+1:=rfl;W) q1 w1 q2 w2 e) r1 rx r2 ry e И hf
 E h1 X.prog X.w X.xe _ ⟨.bl !b,H,I,rfl,q⟩
end
end DL
namespace DL
open PySem PySem.Spec PyProof.Rows L2
variable{K:af}
РeqY(d1 d2:D):Б SV:=if d1.isFlat=true/\d2.isFlat=true then eqD d1 d2 else(Wp 48 d1 d2).bind fun b=>some (.fz (.bl b))
РneY(d1 d2:D):Б SV:=if d1.isFlat=true/\d2.isFlat=true then neD d1 d2 else(Wp 48 d1 d2).bind fun b=>some (.fz (.bl !b))
РinY(d1 d2:D):Б SV:=match d1,d2 with
 | .non,.dK _ _=>some (.fz (.bl false))
 |_,_=>inX d1 d2
РVo(d1 d2:D):Б SV:=match d1,d2 with
 | .non,.dK _ _=>some (.fz (.bl true))
 |_,_=>Vl d1 d2
section
variable{Z:Ent K}
ОHt{F H:Hp}{d1 d2:D}{x y:V}(r1:Z7 K F H d1 x)(r2:Z7 K F H d2 y)(hf:¬(d1.isFlat=true/\d2.isFlat=true)):Yi x=false\/Yi y=false:=by
 cases h1:d1.isFlat with
 |false=>E .inl (T3 r1 h1)
 |true=>cases h2:d2.isFlat with
  |false=>E .inr (T3 r2 h2)
  |true=>E absurd ⟨h1,h2⟩ hf
ОZko:Y4 Z (fun x y H Q=>rEq x y H Q\/Zid K false x y H Q) eqY:=by
 intro F H σ δ own x y d1 d2 sv Q s r1 r2 e k
 unfold eqY at e
 split at e
 ·E .inl (Zuq F H σ δ own x y d1 d2 sv Q s r1 r2 e k)
 ·rename_i hf
  O⟨b,e1,e2⟩:=aa.mp e
  C e2
  E .inr ⟨F,d1,d2,b,s.le,r1,r2,e1,Ht r1 r2 hf,k.fz s (.bl _)⟩
ОZqr:Y4 Z (fun x y H Q=>rNe x y H Q\/Zid K true x y H Q) neY:=by
 intro F H σ δ own x y d1 d2 sv Q s r1 r2 e k
 unfold neY at e
 split at e
 ·E .inl (Zur F H σ δ own x y d1 d2 sv Q s r1 r2 e k)
 ·rename_i hf
  O⟨b,e1,e2⟩:=aa.mp e
  C e2
  E .inr ⟨F,d1,d2,b,s.le,r1,r2,e1,Ht r1 r2 hf,k.fz s (.bl _)⟩
ОZqs:Y4 Z (fun x y H Q=>((∃i j,x= .str i/\y= .str j/\Q (.bl (!(c8 j i 0 j.length 1).isEmpty)) H)\/Zd1 x y H Q)\/R0 false x y H Q) inY:=by
 intro F H σ δ own x y d1 d2 sv Q s r1 r2 e k
 unfold inY at e
 split at e
 ·C e
  O⟨a,kvs,rfl,ha,_,_⟩:=r2.dK s.le
  E .inr ⟨a,kvs,r1.non,rfl,ha.rd,k.fz s (.bl _)⟩
 ·E .inl (Zql F H σ δ own x y d1 d2 sv Q s r1 r2 e k)
ОZeb:Y4 Z (fun x y H Q=>((∃i j,x= .str i/\y= .str j/\Q (.bl (!(!(c8 j i 0 j.length 1).isEmpty))) H)\/Gy x y H Q)\/R0 true x y H Q) Vo:=by
 intro F H σ δ own x y d1 d2 sv Q s r1 r2 e k
 unfold Vo at e
 split at e
 ·C e
  O⟨a,kvs,rfl,ha,_,_⟩:=r2.dK s.le
  E .inr ⟨a,kvs,r1.non,rfl,ha.rd,k.fz s (.bl _)⟩
 ·E .inl (Zd4 F H σ δ own x y d1 d2 sv Q s r1 r2 e k)
end
section
variable{X:Cx}{Z:Ent X.K}{a b c:ci}{fa fb fc:FE}{pos:Pos}
ОZkp(hv:X.A.units+64<d8)(ha:PE X a (Zc Z fa))(hb:PE X b (Zc Z fb)):PE X (.Compare a [.Eq] [b] pos) (Zc Z (Zt eqY fa fb)):=Zki (Zjw.or (Zea hv)) Zko ha hb (Tl _)
ОZqt(hv:X.A.units+64<d8)(ha:PE X a (Zc Z fa))(hb:PE X b (Zc Z fb)):PT X (.Compare a [.Eq] [b] pos) (Yg Z (Y6 (Zt eqY fa fb))):=Ip (Zjw.or (Zea hv)) Zko ha hb (Tl _)
ОHu(hv:X.A.units+64<d8)(ha:PE X a (Zc Z fa))(hb:PE X b (Zc Z fb)):PT X (.Compare a [.NotEq] [b] pos) (Yg Z (Y6 (Zt neY fa fb))):=Ip (Zo4.or (Zmw hv)) Zqr ha hb (Tl _)
end
end DL
namespace DL
open PySem PySem.Spec PyProof.Rows L2
variable{K:af}
ОSR.changeT{Z:Ent K}{F H:Hp}{σ:L2.St}{δ:Yf}{own:Г->Zq}{i:Г}{sv sv' svT:SV}{a:am}{o o':HO}{v vT:V}{ns' nsT:Zq}(s:SR Z F H σ δ own)(t:TmpOk Z F H own svT vT nsT)(e:δ[i]? =some (some sv))(hv:σ[i]? =some (some v))
  (ha:(a,o)∈own i) (hs:Shape K F sv' v ns') (hns:∀p∈ns',p=(a,o')\/(p∈own i/\p.1≠a)\/p∈nsT) (nd:(Cp ns').Nodup):SR Z F (Z5 H a o') σ (δ.set i (some sv')) (put own i ns'):=by
 O⟨fa,ha0,hHa⟩:=s.ok i (a,o) ha
 have hi:i<δ.length:=(ax.mp e).1
 R⟨fun b u eb=>?_,s.fro,fun b u eb=>?_,by rw[List.length_set];E s.len,fun j sw ej=>?_,fun j=>?_,fun j p hp=>?_,fun j k p q hjk hp hq=>?_⟩
 ·rw[Zm fun z=>by rw[z]at eb;rw[fa]at eb;cases eb];E s.le b u eb
 ·rw[Zm fun z=>by rw[z]at eb;rw[ha0]at eb;cases eb];E s.old b u eb
 ·by_cases hj:j=i
  ·subst hj
   rw[d5 hi]at ej
   C ej
   rw[Z4]
   E⟨v,hv,hs⟩
  ·rw[d6 (Ne.symm hj)]at ej
   rw[Yb hj]
   E s.at' j sw ej
 ·by_cases hj:j=i
  ·subst hj;rw[Z4];E nd
  ·rw[Yb hj];E s.nod j
 ·by_cases hj:j=i
  ·subst hj
   rw[Z4]at hp
   rcases hns p hp with z|⟨z,ne⟩|z
   ·subst z;E⟨fa,ha0,Z3⟩
   ·O⟨x,y,w⟩:=s.ok j p z
    E⟨x,y,by rw[Zm ne];E w⟩
   ·O⟨x,y,w⟩:=t.ok p z
    E⟨x,y,by rw[Zm (t.sep j p (a,o) z ha)];E w⟩
  ·rw[Yb hj]at hp
   O⟨x,y,w⟩:=s.ok j p hp
   E⟨x,y,by rw[Zm (s.sep j i p (a,o) hj hp ha)];E w⟩
 ·have far:∀(l:Г) (r q:am×HO),l≠i->r∈ns'->q∈own l->r.1≠q.1:=fun l r q hl hr hq=>by
   rcases hns r hr with z|⟨z,_⟩|z
   ·subst z;E s.sep i l (a,o) q (Ne.symm hl) ha hq
   ·E s.sep i l r q (Ne.symm hl) z hq
   ·E t.sep l r q z hq
  by_cases hj:j=i
  ·subst hj
   rw[Z4]at hp
   rw[Yb (Ne.symm hjk)]at hq
   E far k p q (Ne.symm hjk) hp hq
  ·by_cases hk:k=i
   ·subst hk
    rw[Z4]at hq
    rw[Yb hj]at hp
    E fun z=>far j q p hj hq hp z.symm
   ·rw[Yb hj]at hp
    rw[Yb hk]at hq
    E s.sep j k p q hjk hp hq
ОKids.snoc{F:Hp}:∀{xss:А (А D)} {ws:А V} {ns:Zq} {xs:А D} {b:am} {vs:А V},Kids K F xss ws ns->Reps K F xs vs->Kids K F (xss++[xs]) (ws++[.ref b]) (ns++[(b,.lst vs)])
 |_,_,_,_,_,_,.nil,r=>.cons r .nil
 |_,_,_,_,_,_,.cons h t,r=>.cons h (t.snoc r)
section
variable{Z:Ent K}{H:Hp}{σ:L2.St}{Q:VK}{E:Yz}
РZxc:FE:=fun δ=>some (.tmp (.oN [] []),δ)
РZxd(i j:Г):FS:=fun δ=>match δ[i]?,δ[j]? with
 |some (some (.oN ks xss)),some (some (.fz kd))=>kd.key?.bind fun k=>if(ks.any fun x=>decide (x=k))=false/\xss.length<a8 then some (.nx (δ.set i (some (.oN (ks++[k]) (xss++[[]])))))else none
 |_,_=>none
ОKids.length{F:Hp}:∀{xss:А (А D)} {ws:А V} {ns:Zq},Kids K F xss ws ns->xss.length=ws.length
 |_,_,_,.nil=>rfl
 |_,_,_,.cons _ t=>by rw[bn,bn,t.length]
end
ОKids.ref{F:Hp}:∀{xss:А (А D)} {ws:А V} {ns:Zq} {p:Г} {v:V},Kids K F xss ws ns->ws[p]? =some v->∃b,v= .ref b
 |_,_,_,_,_,.nil,e=>by simp at e
 |_,_,_,0,_,.cons _ _,e=>by simp at e;E⟨_,e.symm⟩
 |_,_,_,p+1,_,.cons _ t,e=>t.ref (p:=p) (by simpa using e)
РZec:А Key->Key->Б Г
 | [],_=>none
 |a::r,k=>if a=k then some 0 else(Zec r k).map (· +1)
section
variable{Z:Ent K}{H:Hp}{σ:L2.St}{Q:VK}{E:Yz}
РZxe(i j:Г)(fe:FE):FS:=fun δ=>match δ[i]?,δ[j]? with
 |some (some (.oN ks _)),some (some (.fz kd))=>kd.key?.bind fun k=>(Zec ks k).bind fun p=>(fe δ).bind fun q=>(frz q.1 q.2).bind fun r=>match r.2[i]? with
  |some (some (.oN ks' xss))=>if ks'=ks then(xss[p]?).bind fun xs=>if xs.length<a8 then some (.nx (r.2.set i (some (.oN ks (xss.set p (xs++[r.1]))))))else none else none
  |_=>none
 |_,_=>none
end
end DL
namespace DL
open PySem PySem.Spec PyProof.Rows L2
variable{K:af}
section
variable{Z:Ent K}{H:Hp}{σ:L2.St}{E:Yz}
РZmy(fe:FE):FS:=fun δ=>(fe δ).bind fun p=>(frz p.1 p.2).bind fun q=>some (.rt (.fz q.1))
ОZmz{fe:FE}(h:Z1 Z (Zmy fe) E σ H):Zls (Zc Z fe) E σ H:=by
 O⟨F,δ,own,fl,s,e,k⟩:=h
 O⟨⟨rv,δ1⟩,e1,e2⟩:=aa.mp e
 O⟨⟨d,δ2⟩,e3,e4⟩:=aa.mp e2
 C e4
 R⟨F,δ,own,rv,δ1,s,e1,fun v H1 F1 own1 sH sF s1 r1=>?_⟩
 O⟨F2,sF2,s2,r2⟩:=s1.settleR r1
 O⟨F3,own3,sF3,s3,r3⟩:=s2.frzR r2 e3
 E k v H1 F3 [] (sF.trans (sF2.trans sF3)) s3.le s3.fro s3.old (.fz r3) c7 fun _ h=>(nomatch h)
end
section
variable{X:Cx}{Z:Ent X.K}{a b c:ci}{fa fb fc:FE}{pos:Pos}
ОZm0(h:PE X a (Zc Z fa)):PS X (.Return (some a) pos) (Z1 Z (Zmy fa)):=(Zb8 h).imp fun _ _ _ h=>Zmz h
end
end DL
namespace L2
open PySem PySem.Spec PyProof.Rows
variable{X:Cx}
ПZs0(K:af):V->А V->Hp->VK->Prop:=fun x xs H Q=>∃p ys y j,x= .ref p/\xs=[y]/\Ws K H p ys/\Yi y=true/\ys.all Yi=true/\(ys.findIdx? fun z=>Nt z y)=some j/\Q (.int (j:Г)) H
ПZs1:V->А V->Hp->VK->Prop:=fun x xs H Q=>∃a b i rest,x= .str a/\xs=[.str b]/\c8 a b 0 a.length 1=i::rest/\Q (.int (i:Г)) H
ПZs2:V->А V->Hp->VK->Prop:=fun x xs H Q=>∃a b,x= .str a/\xs=[.str b]/\a.length<=sizeLine/\Q (.str (Txt.rstripChars a b)) H
ПZkq:R2:=fun x y H Q=>∃a k,x= .str a/\y= .int k/\MulOk a k/\Q (.str (Txt.mul a k)) H
ОZie:Bl X (binaryOp .Mult) Zkq:=by
 intro pins s σ H x y v u Q I rx ry h
 O⟨a,k,rfl,rfl,hm,q⟩:=h
 O⟨t,rfl⟩:=rx
 O⟨t',rfl⟩:=ry
 E SB.mul hm fun t' k=>⟨.str _,H,I.tok _,⟨_,rfl⟩,q⟩
end L2
namespace DL
open PySem PySem.Spec PyProof.Rows L2
variable{K:af}
РD.fv:D->V
 | .bl b=>.bl b
 | .int i=>.int i
 | .str x=>.str x
 |_=>.non
ОZed{F H:Hp}{d:D}{x:V}(r:Z7 K F H d x)(h:d.isFlat=true):x=d.fv/\Yi x=true:=by
 cases d with
 |non=>rw[r.non];E⟨rfl,rfl⟩
 |bl b=>rw[r.bl];E⟨rfl,rfl⟩
 |int i=>rw[r.int];E⟨rfl,rfl⟩
 |str y=>rw[r.str];E⟨rfl,rfl⟩
 |_=>C h
ОVp{F:Hp}:∀{ds:А D} {vs:А V},Reps K F ds vs->ds.all D.isFlat=true->vs=ds.map D.fv/\vs.all Yi=true
 |_,_,.nil,_=>⟨rfl,rfl⟩
 |_,_,.cons h t,e=>by
  rw[List.all_cons,Bool.and_eq_true]at e
  O⟨a1,a2⟩:=Zed (H:=F) (Z7.of h) e.1
  O⟨b1,b2⟩:=Vp t e.2
  R⟨by rw[av,<-a1,<-b1],by rw[List.all_cons,a2,b2];rfl⟩
ПVq(y x:D):Bool:=Nt y.fv x.fv
@[simp] theorem Zqu(a b:Str):Vq (.str a) (.str b)=decide (a=b):=by
 show(a==b)=decide (a=b)
 by_cases h:a=b
 ·subst h;simp
 ·rw[Ж h];E beq_eq_false_iff_ne.mpr h
@[simp] theorem Zif(a b:Bool):Vq (.bl a) (.bl b)=decide (a=b):=by cases a<;> cases b<;> rfl
@[simp] theorem Zqv:Vq .non .non=true:=rfl
@[simp] theorem Zs3(a:Str):Vq (.str a) .non=false:=rfl
ПLl(x:D)(xs:А D):Bool:=xs.any fun y=>Vq y x
ОHv{d:D}{ds:А D}:inV d.fv (ds.map D.fv)=Ll d ds:=by
 unfold inV Ll
 rw[List.any_map];rfl
ПD.seq?:D->Б (А D)
 | .lst xs=>some xs
 | .tup xs=>some xs
 |_=>none
@[simp] theorem Zs4(xs:А D):D.seq? (.lst xs)=some xs:=rfl
@[simp] theorem Zs5(xs:А D):D.seq? (.tup xs)=some xs:=rfl
@[simp] theorem Zs6(x:Str):D.seq? (.str x)=none:=rfl
@[simp] theorem Zu7(ks:А Key)(vs:А D):D.seq? (.dK ks vs)=none:=rfl
@[simp] theorem Zu8(ks:А (А Key))(vs:А D):D.seq? (.dT ks vs)=none:=rfl
РinZ(d1 d2:D):Б SV:=match d2.seq? with
 |some xs=>if d1.isFlat=true/\xs.all D.isFlat=true then some (.fz (.bl (Ll d1 xs)))else none
 |none=>inY d1 d2
РJy(d1 d2:D):Б SV:=match d2.seq? with
 |some xs=>if d1.isFlat=true/\xs.all D.isFlat=true then some (.fz (.bl (!Ll d1 xs)))else none
 |none=>Vo d1 d2
section
variable{Z:Ent K}{H:Hp}{σ:L2.St}{Q:VK}{E:Yz}
ОZee{F:Hp}{d:D}{x:V}{xs:А D}(le:Zf F H)(r:Z7 K F H d x)(h:d.seq? =some xs):∃a vs,x= .ref a/\(Ws K H a vs\/Uh K H a vs)/\Reps K F xs vs:=by
 cases d with
 |lst ys=>C h;O⟨a,vs,e,q,rr⟩:=r.lst le;E⟨a,vs,e,.inl q,rr⟩
 |tup ys=>C h;O⟨a,vs,e,q,rr⟩:=r.tup le;E⟨a,vs,e,.inr q,rr⟩
 |_=>C h
ОZkr:Y4 Z (fun x y H Q=>(((∃i j,x= .str i/\y= .str j/\Q (.bl (!(c8 j i 0 j.length 1).isEmpty)) H)\/Zd1 x y H Q)\/R0 false x y H Q)\/rIn K false x y H Q) inZ:=by
 intro F H σ δ own x y d1 d2 sv Q s r1 r2 e k
 unfold inZ at e
 split at e
 ·rename_i xs hx
  split at e
  ·rename_i hf
   C e
   O⟨a,vs,rfl,hq,rr⟩:=Zee s.le r2 hx
   O⟨e1,f1⟩:=Zed r1 hf.1
   O⟨e2,f2⟩:=Vp rr hf.2
   R .inr ⟨a,vs,rfl,hq,f1,f2,?_⟩
   rw[e1,e2,Hv]
   E k.fz s (.bl _)
  ·C e
 ·E .inl (Zqs F H σ δ own x y d1 d2 sv Q s r1 r2 e k)
ОZef:Y4 Z (fun x y H Q=>(((∃i j,x= .str i/\y= .str j/\Q (.bl (!(!(c8 j i 0 j.length 1).isEmpty))) H)\/Gy x y H Q)\/R0 true x y H Q)\/rIn K true x y H Q) Jy:=by
 intro F H σ δ own x y d1 d2 sv Q s r1 r2 e k
 unfold Jy at e
 split at e
 ·rename_i xs hx
  split at e
  ·rename_i hf
   C e
   O⟨a,vs,rfl,hq,rr⟩:=Zee s.le r2 hx
   O⟨e1,f1⟩:=Zed r1 hf.1
   O⟨e2,f2⟩:=Vp rr hf.2
   R .inr ⟨a,vs,rfl,hq,f1,f2,?_⟩
   rw[e1,e2,Hv]
   E k.fz s (.bl _)
  ·C e
 ·E .inl (Zeb F H σ δ own x y d1 d2 sv Q s r1 r2 e k)
РZu9:А D->Б SV
 | [.lst xs,x]=>if x.isFlat=true/\xs.all D.isFlat=true then(xs.findIdx? fun y=>Vq y x).bind fun j=>some (.fz (.int (j:Г)))else none
 |_=>none
РZs7:А D->Б SV
 | [.str a,.str b]=>match c8 a b 0 a.length 1 with
  |i::_=>some (.fz (.int (i:Г)))
  | []=>none
 |_=>none
РZs8:А D->Б SV
 | [.str a,.str b]=>if a.length<=a8 then some (.fz (.str (Txt.rstripChars a b)))else none
 |_=>none
open Classical in
ПZih(a:Str)(k:Int):Б SV:=if MulOk a k then some (.fz (.str (Txt.mul a k)))else none
ОZii{a:Str}{k:Int}{sv:SV}(h:Zih a k=some sv):MulOk a k/\sv= .fz (.str (Txt.mul a k)):=by
 unfold Zih at h
 split at h
 ·rename_i hm;C h;E⟨hm,rfl⟩
 ·C h
ПHw(i j:Int):Prop:=Zdj i j=true
open Classical in
ПPj(i j:Int):Б SV:=if Hw i j then some (.fz (.int (i*j)))else none
ОZij{i j:Int}{sv:SV}(h:Pj i j=some sv):Zpx (.int i) (.int j)=some sv:=by
 unfold Pj at h
 split at h
 ·rename_i hc
  C h
  unfold Hw at hc
  simp[hc]
 ·C h
ОZm1{i j:Int}(h:-(2^64)<j/\j<2^64):Pj i j=some (.fz (.int (i*j))):=by
 unfold Pj
 rw[Е]
 unfold Hw Zdj
 rw[decide_eq_true h.1,decide_eq_true h.2];simp
ОZm2{i j:Int}(h:-(2^64)<i/\i<2^64):Pj i j=some (.fz (.int (i*j))):=by
 unfold Pj
 rw[Е]
 unfold Hw Zdj
 rw[decide_eq_true h.1,decide_eq_true h.2];simp
ПVr:D->D->Б SV
 | .str a,.int k=>Zih a k
 | .int i,.int j=>Pj i j
 |_,_=>none
@[simp] theorem Zs9(a:Str)(k:Int):Vr (.str a) (.int k)=Zih a k:=rfl
@[simp] theorem Zta(i j:Int):Vr (.int i) (.int j)=Pj i j:=rfl
ОZm3:Y4 Z (fun x y H Q=>rI Zcf (fun i j=>V.int (i*j)) x y H Q\/Zkq x y H Q) Vr:=by
 intro F H σ δ own x y d1 d2 sv Q s r1 r2 e k
 unfold Vr at e
 split at e
 ·O⟨hm,rfl⟩:=Zii e
  E .inr ⟨_,_,r1.str,r2.int,hm,k.fz s (.str _)⟩
 ·E .inl (Zp0 F H σ δ own x y _ _ sv Q s r1 r2 (Zij e) k)
 ·C e
РPk:А D->Б SV
 | [.int i]=>if i.natAbs.log2<1920 then some (.fz (.str (toString i)))else none
 |_=>none
ОZm4:Ju Z (fun xs H Q=>∃i:Int,xs=[.int i]/\i.natAbs.log2<1920/\Q (.str (toString i)) H) Pk:=by
 intro F H σ δ own vs ds sv Q s r e k
 unfold Pk at e
 split at e
 ·split at e
  ·rename_i hm
   C e
   cases r with
   |cons h1 t=>C t;E⟨_,by rw[h1.int],hm,k.fz s (.str _)⟩
  ·C e
 ·C e
РZqw(kd d:D):Б (Б SV)->Б SV
 |some (some (.ol xs))=>match kd with
  | .int i=>(ixN xs.length i).bind fun j=>some (.ol (xs.set j d))
  |_=>none
 |_=>none
РSV.isOL:Б (Б SV)->Bool
 |some (some (.ol _))=>true
 |_=>false
РZxf(i:Г)(fk fv:FE):FS:=fun δ=>(fv δ).bind fun p=>(frz p.1 p.2).bind fun q=>if SV.isOL (q.2[i]?)=true then(fk q.2).bind fun r=>(Kx r.1 r.2).bind fun kd=>(Zqw kd q.1 (r.2[i]?)).bind fun sv=>some (.nx (r.2.set i (some sv)))else none
РSV.ol?:RV->Б (А D)
 | .tmp (.ol ys)=>some ys
 |_=>none
РZva(i:Г)(fe:FE):FS:=fun δ=>match δ[i]? with
 |some (some (.ol _))=>(fe δ).bind fun p=>(SV.ol? p.1).bind fun ys=>match p.2[i]? with
  |some (some (.ol xs))=>if xs.length+ys.length<=a8 then some (.nx (p.2.set i (some (.ol (xs++ys)))))else none
  |_=>none
 |_=>none
end
section
variable{X:Cx}{Z:Ent X.K}{a b c:ci}{fa fb fc:FE}{pos:Pos}
ОZks(hu:X.A.units+1<d8)(ha:PE X a (Zc Z fa))(hb:PE X b (Zc Z fb))(hm:behindInMarks .In b=false:=by rfl):PE X (.Compare a [.In] [b] pos) (Zc Z (Zt inZ fa fb)):=Zki (((E7.or (T4 hu)).or Iu).or Ic) Zkr ha hb hm
ОZqx(hu:X.A.units+1<d8)(ha:PE X a (Zc Z fa))(hb:PE X b (Zc Z fb))(hm:behindInMarks .In b=false:=by rfl):PT X (.Compare a [.In] [b] pos) (Yg Z (Y6 (Zt inZ fa fb))):=Ip (((E7.or (T4 hu)).or Iu).or Ic) Zkr ha hb hm
ОAf(hu:X.A.units+1<d8)(ha:PE X a (Zc Z fa))(hb:PE X b (Zc Z fb))(hm:behindInMarks .NotIn b=false:=by rfl):PT X (.Compare a [.NotIn] [b] pos) (Yg Z (Y6 (Zt Jy fa fb))):=Ip (((Km.or (Ew hu)).or Lg).or Kl) Zef ha hb hm
ОZeg(ha:PE X a (Zc Z fa))(hb:PE X b (Zc Z fb)):PE X (.BinOp a .Mult b pos) (Zc Z (Zt Vr fa fb)):=Hg (Zly.or Zie) Zm3 ha hb
ОZeh{p:Pos}(hm:X.mg "str"=none)(ha:PE X a (Zc Z fa))(hg:Gl X "str":=by rfl)(he:ay [a] X.env=(false,f9 a X.env)::ay [] X.env:=by rfl)(hpl:(f7 pos (ay [] X.env)).any (·.1)=false:=by rfl):PE X (.Call (.Name "str" p) [a] [] pos) (Zc Z (Yl Pk (Zd fa Zn))):=
 Gv Kg Zm4 hm boot_str (Zo ha Ym he) hg Й Й he hpl
end
end DL
namespace DL
open PySem PySem.Spec PyProof.Rows L2
end DL
namespace DL
open PySem PySem.Spec PyProof.Rows L2
variable{K:af}
section
variable{Z:Ent K}{H:Hp}{σ:L2.St}{Q:Bool->Hp->В}
РHx(f:FT):FT:=fun δ=>(f δ).bind fun p=>some (p.1,δ)
ОZik{f:FT}(h:Yg Z (Hx f) σ H Q):Yg Z f σ H Q:=by
 O⟨F,δ,own,b,δ',s,e,k⟩:=h
 O⟨⟨b1,δ1⟩,e1,e2⟩:=aa.mp e
 C e2
 E⟨F,δ,own,b1,δ1,s,e1,fun H' F' own' sH sF s'=>k H' F own sH (Zf.refl F) (s.grow sH)⟩
end
section
variable{X:Cx}{Z:Ent X.K}{a:ci}{ft:FT}
ОZei(ha:PT X a (Yg Z ft)):PT X a (Yg Z (Hx ft)):=ha.imp fun _ _ _ h=>Zik h
end
end DL
namespace DL
open PySem PySem.Spec PyProof.Rows L2
variable{K:af}
ПZqy(n:Г)(k:Int):Prop:=-(2^63)<=k/\k<2^63/\n*k.toNat<=a8
section
variable{Z:Ent K}{H:Hp}{σ:L2.St}{Q:VK}
open Classical in
ПZm5(xs:А D):D->Б SV
 | .int k=>if Zqy xs.length k then some (.ol (List.replicate k.toNat xs).flatten)else none
 |_=>none
@[simp] theorem Zqz{xs:А D}{k:Int}(h:Zqy xs.length k):Zm5 xs (.int k)=some (.ol (List.replicate k.toNat xs).flatten):=by
 unfold Zm5;dsimp only;rw[Е h]
РZzo(fa fb:FE):FE:=fun δ=>(fa δ).bind fun p=>(SV.ol? p.1).bind fun xs=>(fb p.2).bind fun q=>(Kx q.1 q.2).bind fun d=>(Zm5 xs d).bind fun sv=>some (.tmp sv,q.2)
end
end DL
namespace DL
open PySem PySem.Spec PyProof.Rows L2
variable{K:af}
section
variable{Z:Ent K}
РslT:D->Б Int->Б Int->Б SV
 | .tup xs,lo,hi=>if¬(HT.sIx xs.length 0 lo=0/\HT.sIx xs.length xs.length hi=xs.length)then some (.fz (.tup (Eu xs lo hi)))else none
 |_,_,_=>none
end
end DL
namespace DL
open PySem L2
variable{K:af}
inductive RX where
 |v (rv:RV) (δ:Yf)|x (e:Exn) (δ:Yf)
inductive RL(α:Type)where
 |v (xs:А α) (δ:Yf)|x (e:Exn) (δ:Yf)
noncomputable abbrev FX:=Yf->Б RX
noncomputable abbrev FAX:=Yf->Б (RL RV)
noncomputable abbrev FDX:=Yf->Б (RL D)
ПXOk(Z:Ent K)(F:Hp)(σ:St)(e:Exn)(δ:Yf):Prop:=∀H' F' own' cls od,Zf F F'->SR Z F' H' σ δ own'->Kw K F' e cls od->Z.x cls od σ H'
ПZq1(Z:Ent K)(f:FX):TE:=fun σ H Q=>∃F δ own r,SR Z F H σ δ own/\f δ=some r/\match r with
 | .v rv δ'=>∀v H' F' own',Zf H H'->Zf F F'->SR Z F' H' σ δ' own'->Hf Z F' H' σ own' rv v->Q v H'
 | .x e δ'=>XOk Z F σ e δ'
ПZvc(Z:Ent K)(f:FAX):TA:=fun σ H Q=>∃F δ own r,SR Z F H σ δ own/\f δ=some r/\match r with
 | .v rvs δ'=>∀vs H' F' own',Zf H H'->Zf F F'->SR Z F' H' σ δ' own'->RVSs K F' σ rvs vs->Q vs H'
 | .x e δ'=>XOk Z F σ e δ'
ПZvd(Z:Ent K)(f:FDX):TA:=fun σ H Q=>∃F δ own r,SR Z F H σ δ own/\f δ=some r/\match r with
 | .v ds δ'=>∀vs H' F' own',Zf H H'->Zf F F'->SR Z F' H' σ δ' own'->Reps K F' ds vs->Q vs H'
 | .x e δ'=>XOk Z F σ e δ'
РFX.val(f:FX):FE:=fun δ=>match f δ with
 |some (.v rv δ')=>some (rv,δ')
 |_=>none
section
variable{Z:Ent K}{H:Hp}{σ:St}{Q:VK}{E:Yz}
РZxg(fe:FE):FX:=fun δ=>(fe δ).bind fun p=>some (.v p.1 p.2)
РZtb:FAX:=fun δ=>some (.v [] δ)
РZq2(fx:FX)(fa:FAX):FAX:=fun δ=>(fx δ).bind fun
 | .v rv δ1=>(fa δ1).bind fun
  | .v rvs δ2=>some (.v (rv::rvs) δ2)
  | .x e δ2=>some (.x e δ2)
 | .x e δ1=>some (.x e δ1)
РZq3:FDX:=fun δ=>some (.v [] δ)
РZok(fx:FX)(fd:FDX):FDX:=fun δ=>(fx δ).bind fun
 | .v rv δ1=>(frz rv δ1).bind fun q=>(fd q.2).bind fun
  | .v ds δ2=>some (.v (q.1::ds) δ2)
  | .x e δ2=>some (.x e δ2)
 | .x e δ1=>some (.x e δ1)
РZzp(fd:FDX):FX:=fun δ=>(fd δ).bind fun
 | .v ds δ1=>if ds.length<=a8 then some (.v (.tmp (.fz (.tup ds))) δ1)else none
 | .x e δ1=>some (.x e δ1)
РZxh(g:А D->Б SV)(fa:FAX):FX:=fun δ=>(fa δ).bind fun
 | .v rvs δ1=>(Uk rvs δ1).bind fun ds=>(g ds).bind fun sv=>some (.v (.tmp sv) δ1)
 | .x e δ1=>some (.x e δ1)
РZzq(g:D->D->Б SV)(fa fb:FX):FX:=fun δ=>(fa δ).bind fun
 | .x e δ1=>some (.x e δ1)
 | .v r1 δ1=>(fb δ1).bind fun
  | .x e δ2=>some (.x e δ2)
  | .v r2 δ2=>(Kx r1 δ2).bind fun d1=>(Kx r2 δ2).bind fun d2=>(g d1 d2).bind fun sv=>some (.v (.tmp sv) δ2)
end
inductive XO where
 |v (sv:SV)|x (e:Exn)
ПspX(K:af)(n:Г)(g:А D->Б XO):Sp:=fun vs H Q E=>∃F ds o,Zf F H/\Reps K F ds vs/\ds.length=n/\g ds=some o/\match o with
 | .v sv=>∀v H' F' ns,Zf H H'->Zf F F'->Zf F' H'->(∀(b:am) (o:HO),F' b=some o->F b=some o\/H b=none)->Shape K F' sv v ns->(Cp ns).Nodup->(∀p∈ns,F' p.1=none/\H p.1=none/\H' p.1=some p.2)->Q v H'
 | .x e=>∀cls od H' F',Zf H H'->Zf F F'->Zf F' H'->(∀(b:am) (o:HO),F' b=some o->F b=some o\/H b=none)->Kw K F' e cls od->E cls od H'
РZzr(f:FS)(n:Г)(ds:А D):Б XO:=match f (Tw n ds)with
 |some (.rt sv)=>some (.v sv)
 |some (.nx _)=>some (.v (.fz .non))
 |some (.ex e _)=>some (.x e)
 |_=>none
РZzs(h:А D->Б XO)(ds:А D):Б SV:=match h ds with
 |some (.v sv)=>some sv
 |_=>none
noncomputable abbrev Zzt(H F:Hp)(E:XK):Ent K:=⟨H,F,fun cls od _ H'=>E cls od H'⟩
section
variable{Z:Ent K}{H:Hp}{σ:St}{Q:VK}{E:Yz}
РZxi(n:Г)(g:А D->Б XO)(fa:FAX):FX:=fun δ=>(fa δ).bind fun
 | .x e δ1=>some (.x e δ1)
 | .v rvs δ1=>(DL.frzAll rvs δ1).bind fun q=>if q.1.length=n then(g q.1).bind (fun
  | .v sv=>some (.v (.tmp sv) (if sv.scal then δ1 else q.2))
  | .x e=>some (.x e q.2))else none
РZve(g:А D->Б SV)(ds:А D):Б XO:=(g ds).bind fun sv=>some (.v sv)
РZzu(i:Г)(fx:FX):FS:=fun δ=>(fx δ).bind fun
 | .v rv δ1=>(stow i rv δ1).bind fun δ'=>some (.nx δ')
 | .x e δ1=>some (.ex e δ1)
РZzv(fx:FX):FS:=fun δ=>(fx δ).bind fun
 | .v rv δ1=>(Zpq rv δ1).bind fun sv=>some (.rt sv)
 | .x e δ1=>some (.ex e δ1)
РZxj(fx:FX):FS:=fun δ=>(fx δ).bind fun
 | .v _ δ1=>some (.nx δ1)
 | .x e δ1=>some (.ex e δ1)
РZzw(i:Г)(fx:FX):FS:=fun δ=>match fx δ with
 |some (.x e δ1)=>(match δ[i]? with
  |some (some (.ol _))=>some (.ex e δ1)
  |_=>none)
 |_=>Tv i fx.val δ
РZzx(i:Г)(fx:FX):FS:=fun δ=>match fx δ with
 |some (.x e δ1)=>(match δ[i]? with
  |some (some (.ol _))=>some (.ex e δ1)
  |_=>none)
 |_=>Zva i fx.val δ
РZvf(c:Str):FS:=fun δ=>some (.ex ⟨c,[],[]⟩ δ)
set_option genInjectivity false in
structure HX where
 x:Str
 np:Pos
 nm:Б (Str×Г)
 b0:Stmt
 suite:А Stmt
 pos:Pos
 B:am
 yes:А Str
 no:А Str
 f:FS
set_option genInjectivity false in
structure HX.Sub(K:af)(h:HX):В where
 yes:∀c∈h.yes,∀C,Tr K c C->PySem.W.mroIn K C (.ref h.B)=some true
 no:∀c∈h.no,∀C,Tr K c C->PySem.W.mroIn K C (.ref h.B)=some false
ПHX.hd(Z:Ent K)(h:HX):Hd:=⟨h.x,h.np,h.nm,h.b0,h.suite,h.pos,h.B,Z1 Z h.f⟩
set_option genInjectivity false in
structure HF where
 i:Б Г
 yes:А Str
 no:А Str
 f:FS
РHX.hf(h:HX):HF:=⟨h.nm.map (·.2),h.yes,h.no,h.f⟩
РZkt(c:Str):А HF->Б HF
 | []=>none
 |h::r=>if c∈h.yes then some h else if c∈h.no then Zkt c r else none
РFl.but(i:Г):Fl->Fl
 | .nx δ=>.nx (δ.set i none)
 | .bk δ=>.bk (δ.set i none)
 | .ct δ=>.ct (δ.set i none)
 | .ex e δ=>.ex e (δ.set i none)
 | .rt sv=>.rt sv
РFl.isEx:Fl->Bool
 | .ex _ _=>true
 |_=>false
РHF.run(h:HF)(x:Exn)(δ:Yf):Б Fl:=match h.i with
 |none=>h.f δ
 |some i=>if i<δ.length then(h.f (δ.set i (some (.fz (.exc x.c x.ks x.vs))))).bind fun fl=>if fl.isEx=true then none else some (fl.but i)else none
РZzy(fb:FS)(hs:А HF):FS:=fun δ=>(fb δ).bind fun
 | .ex x δ1=>(Zkt x.c hs).bind fun h=>h.run x δ1
 |fl=>some fl
noncomputable abbrev Ent.wish(Z:Ent K)(EX:EXT):Ent K:=⟨Z.h,Z.f,EX⟩
end
end DL
namespace DL
open PySem PySem.Spec PyProof.Rows L2
section
variable{X:Cx}{Z:Ent X.K}{a b c:ci}{fa fb:FE}{fx fy:FX}{pos:Pos}
РZzz(yes no:А Str):D->Б SV
 | .exc c _ _=>if c∈yes then some (.fz (.bl true))else if c∈no then some (.fz (.bl false))else none
 |_=>none
ПKn(K:af)(r:am->Bool->В)(yes no:А Str):Prop:=(∀c∈yes,∀C,Tr K c C->ExcKit K C/\r C true)/\∀c∈no,∀C,Tr K c C->ExcKit K C/\r C false
ПZvg(Bs:А am):TA:=fun _ H R=>R (Bs.map V.ref) H
end
end DL
namespace DL
open PySem PySem.Spec PyProof.Rows L2
section
variable{X:Cx}{pins:А (am×Obj)}{σ:L2.St}{H:Hp}{s:ak}
ОInv.trackO{a:am}{o:HO}(I:Inv X pins σ H s)(e0:X.s₀.heap.get? a=none)(eH:H a=none)(le:a≠X.env.locals)(ce:∀x c,X.env.cells.lookup x=some c->c≠a)(pe:∀p∈X.pn++pins,p.1≠a)(new:Z9 X.prog X.w (Z5 H a o) s.heap a o):Inv X pins σ (Z5 H a o) s:=by
 R⟨I.ok,I.os,I.bare,⟨I.base.keep,I.base.slot,fun b o q n hx=>?_,I.base.there,fun b xs q=>?_,fun b o u q=>?_,fun b ps q=>?_⟩,I.loc,I.cell,?_,fun x c ec=>?_,fun p hp=>?_,fun b u q=>?_,I.len⟩
 ·rw[Zm (fun z=>by rw[z,e0]at q;C q)];E I.base.free b o q n hx
 ·have:=I.base.tups b xs q
  rw[Zm (fun z=>by rw[z,eH]at this;C this)];E this
 ·have:=I.base.frzs b o u q
  rw[Zm (fun z=>by rw[z,eH]at this;C this)];E this
 ·O⟨m,this⟩:=I.base.tbls b ps q
  E⟨m,by rw[Zm (fun z=>by rw[z,eH]at this;C this)];E this⟩
 ·rw[Zm (Ne.symm le)];E I.free
 ·rw[Zm (ce x c ec)];E I.freeC x c ec
 ·O⟨q,n,r⟩:=I.pin p hp
  E⟨q,by rw[Zm (pe p hp)];E n,r⟩
 ·by_cases hb:b=a
  ·subst hb
   rw[Z3]at q;C q
   E new
  ·rw[Zm hb]at q
   E(I.hok b u q).stay (fun c v _ z=>z) (fun c z=>by rw[Zm (fun y=>by rw[y,eH]at z;C z)];E z) (fun c xs z=>by rw[Zm (fun y=>by rw[y,eH]at z;C z)];E z) fun c o z=>by rw[Zm (fun y=>by rw[y,eH]at z;C z)];E z
ПZej(trs:А (TE×TE)):TE:=fun σ H Q=>Kt trs σ H fun ps H2=>∃kvs:А (Key×V),ps=kvs.map (fun kv=>(kV kv.1,kv.2))/\kvs.length<=15/\∀p ep,H2 p=none->Q (.ref p) (Z5 H2 p (.dK (Ut [] kvs) ep))
ОZek{pos:Pos}{keys:А (Б ci)}{values:А ci}{trs:А (TE×TE)}(h:PPs X pos keys values trs)(hall:keys.all (·.isSome)=true)(hl:keys.length=values.length)(h0:keys≠[])
  (h15:keys.length<=15):PE X (.Dict keys values pos) (Zej trs):=by
 intro pins s σ H Q I q
 have hn:=I.hok.fresh (a7 s.heap.objs.size)
 have I0:=I.kept (h':=s.heap.push {cls:=.type "dict",data:=.dict #[]}) (t':=s.toks) (fun _ _ q=>aq _ q)
 have hob:(s.heap.push {cls:=.type "dict",data:=.dict #[]}).get? s.heap.objs.size=some {cls:=.type "dict",data:=.dict #[]}:=a9 _ rfl
 have old:∀b o,s.heap.get? b=some o->b≠s.heap.objs.size:=fun b o z=>b4 (bc z)
 have apart:∀p∈X.pn++pins,p.1≠s.heap.objs.size:=fun p hp=>old _ _ (I.pin p hp).1
 have hloc:s.heap.objs.size≠X.env.locals:=fun z=>gv _ (cu (z▸I.lt) (a7 _))
 have hcel:∀x c,X.env.cells.lookup x=some c->c≠s.heap.objs.size:=fun x c ec=>by
  O⟨v,o,ho,_⟩:=I.cell x c ec
  E old _ _ ho
 have hs0:X.s₀.heap.get? s.heap.objs.size=none:=Heap.get?_none_of_le I.sz
 have I1:=I0.pins_of (pins':=(s.heap.objs.size,{cls:=.type "dict",data:=.dict #[]})::pins) fun p hp=>by
  rcases bo.mp hp with z|z
  ·subst z
   E⟨hob,hn,hloc,I.nofs (a7 _),fun v z=>nomatch z⟩
  ·E I0.pin p (c6 _ z)
 R wpAny_Dict_walk (knd:=Zj X.prog X.w) hall hl h0 h15 (Wo (h _ _ σ _ _ I1 q) fun ws s2 zq9=>?_)
 O⟨ps,H2,I2,rel,kvs,ep,lk,q2⟩:=zq9
 subst ep
 O⟨rs,c,rk⟩:=To (P:=X.prog) (w:=X.w) rel
 O⟨p1,p2,p3,p4,p5⟩:=I2.pin (s.heap.objs.size,{cls:=.type "dict",data:=.dict #[]}) (c6 _ aj)
 have new0:Z9 X.prog X.w (Z5 H2 s.heap.objs.size (.dK [] 0)) s2.heap s.heap.objs.size (.dK [] 0):=(show Z9 X.prog X.w (fun _=>none) _ _ (.dK [] 0)from Nv s.heap I.big).stay (fun b u hb z=>by
  rcases hb with rfl|hb
  ·rw[hob]at z;C z;E p1
  ·C hb) (fun _ z=>nomatch z) (fun _ _ z=>nomatch z) fun _ _ z=>nomatch z
 have I3:Inv X pins σ (Z5 H2 s.heap.objs.size (.dK [] 0)) s2:=Inv.trackO (I2.pins_of (pins':=pins) fun p hp=>I2.pin p (c6 _ (ar _ hp))) hs0 p2 hloc hcel apart new0
 O⟨z,hd,vs0,r0,dd⟩:=Hc I3.hok ⟨_,(show Z5 H2 s.heap.objs.size (.dK [] 0) s.heap.objs.size=some (.dK [] 0)from Z3)⟩
 C r0
 R⟨rs,c,dd,fun h' dd' hs=>?_⟩
 have hz:(Ut [] kvs).length<=sizeLine:=by
  have h1:=Cn kvs []
  rw[List.length_nil]at h1
  rw[dq];W
 have he:∃q,h'.get? s.heap.objs.size=some q:=let⟨q,_,_,hq,_⟩:=dd';⟨q,hq⟩
 O⟨ep,ok⟩:=Ks hz hd (rk.merge .nil) dd'
 have I4:L2.Inv X pins σ (Z5 (Z5 H2 s.heap.objs.size (.dK [] 0)) s.heap.objs.size (.dK (Ut [] kvs) ep)) {s2 with heap:=h',toks:=s2.toks+ws.length}:=Gs I3 (by rw[Z3];E True.intro) hs he (ok _)
 rw[Zg1]at I4
 E⟨.ref s.heap.objs.size,_,I4,rfl,q2 _ ep p2⟩
end
section
variable{K:af}{Z:Ent K}{σ:L2.St}{H:Hp}{Q:VK}
ОVt{f:FE}{Q':VK}(m:∀v H,Q v H->Q' v H)(h:Zc Z f σ H Q):Zc Z f σ H Q':=by
 O⟨F,δ,own,rv,δ',s,e,k⟩:=h
 E⟨F,δ,own,rv,δ',s,e,fun v H' F' own' a b c d=>m _ _ (k v H' F' own' a b c d)⟩
ПtPD(Z:Ent K)(l:А (Str×FE)):А (TE×TE):=l.map fun p=>(tC (.str p.1),Zc Z p.2)
РZel:А (Str×FE)->FD
 | []=>Zl
 |p::r=>Ze p.2 (Zel r)
РZvh(l:А (Str×FE)):FE:=fun δ=>(Zel l δ).bind fun p=>if p.1.length=l.length then some (.tmp (.oK (l.map fun q=>.inr q.1) p.1),p.2)else none
ОIx:∀(more acc:А (Key×V)),((acc++more).map (·.1)).Nodup->Ut acc more=acc++more
 | [],acc,_=>by show acc=acc++[];rw[List.append_nil]
 |p::r,acc,h=>by
  have e:Qa acc p.1 p.2=acc++[p]:=by
   unfold Qa
   rw[Д]
   intro z
   O⟨q,hq,z⟩:=List.any_eq_true.mp z
   rw[cq,di]at h
   E h.2.2 p.1 (a6.mpr ⟨q,hq,of_decide_eq_true z⟩) p.1 Л rfl
  show Ut (Qa acc p.1 p.2) r=_
  rw[e,Ix r (acc++[p]) (by simpa using h)]
  simp
РZz0:А D->Б SV
 | [.int i,.int j]=>some (.fz (.int (if j<i then j else i)))
 |_=>none
end
end DL
namespace DL
open PySem PySem.Spec PyProof.Rows L2
РR3(ss:А Str)(fd:FD):FD:=fun δ=>(fd δ).bind fun p=>some (ss.map D.str++p.1,p.2)
ОZil{K:af}{Z:Ent K}{σ:L2.St}{H:Hp}{fd:FD}:∀(ss:А Str) {R:А V->Hp->В},Wi Z (R3 ss fd) σ H R->Wi Z fd σ H fun vs H'=>R (ss.map V.str++vs) H'
 |ss,R,h=>by
  O⟨F,δ,own,ds,δ',s,e,k⟩:=h
  O⟨⟨ds1,δ1⟩,e1,e2⟩:=aa.mp e
  C e2
  R⟨F,δ,own,ds1,δ1,s,e1,fun vs H' F' own' a b c r=>k _ H' F' own' a b c ?_⟩
  E Reps.append (strs_rep ss) r
where strs_rep {F:Hp}:∀ss:А Str,Reps K F (ss.map D.str) (ss.map V.str)
 | []=>.nil
 |x::r=>.cons (.str x) (strs_rep r)
section
variable{X:Cx}{Z:Ent X.K}{pos:Pos}
noncomputable abbrev cst(x:Str×Г×Pos):Expr:=.Constant (.str x.1) x.2.1 x.2.2
ОPl{es:А ci}{t:TA}(h:PA X es t):∀l:А (Str×Г×Pos),PA X (l.map cst++es) fun σ H R=>t σ H fun vs H'=>R ((l.map fun x=>V.str x.1)++vs) H'
 | []=>h
 |x::r=>(W3 (e:=cst x) (es:=r.map cst++es) Ke (Pl h r) rfl).imp fun σ H R q=>q
ОM4{es:А ci}{fd:FD}(l:А (Str×Г×Pos))(h:PA X es (Wi Z fd)):PA X (l.map cst++es) (Wi Z (R3 (l.map (·.1)) fd)):=
 (Pl h l).imp fun σ H R q=>by
  have:=Zil (l.map (·.1)) q
  rw[bx]at this
  E this
end
end DL
namespace DL
open PySem PySem.Spec PyProof.Rows L2
section
variable{K:af}
inductive RC where
 |v (δ:Yf)|x (e:Exn)
ПxX(K:af)(f:FX)(EX:EXT):TE:=fun σ H Q=>∃Z:Ent K,Z.x=EX/\Zq1 Z f σ H Q
РVu(src:А BSrc)(k:Г)(g:FG)(tt:FT)(te:FX):А D->Yf->Б RC
 | [],δ=>some (.v δ)
 |d::ds,δ=>(g.run d δ).bind fun δ1=>(tt δ1).bind fun p=>if p.1=true then(te p.2).bind (fun
  | .x e _=>some (.x e)
  | .v rv δ2=>(frz rv δ2).bind fun r=>match r.2[k]? with
   |some (some (.ol zs))=>if zs.length<a8 then Vu src k g tt te ds (U5 src (r.2.set k (some (.ol (zs++[r.1])))))else none
   |_=>none)
  else Vu src k g tt te ds (U5 src p.2)
РZxk(src:А BSrc)(k:Г)(fi:FD)(g:FG)(tt:FT)(te:FX):FX:=fun δ=>(fi δ).bind fun p=>(frzAll (caps src) p.2).bind fun c=>(Vu src k g tt te p.1 (bD src c.2)).bind fun
 | .x e=>some (.x e c.2)
 | .v δb=>match δb[k]? with
  |some (some (.ol ys))=>some (.v (.tmp (.ol ys)) c.2)
  |_=>none
end
end DL
namespace L2
open PySem PySem.Spec PyProof.Rows
ПZku{α:Type}(xs:А α)(lo hi st:Б Int):А α:=
 (sliceRange (sliceBounds lo hi st xs.length).1 (sliceBounds lo hi st xs.length).2.1 (sliceBounds lo hi st xs.length).2.2).filterMap (xs[·]?)
section
variable{X:Cx}{e st:ci}{te:TE}{lo hi:Б ci}{tl th ts:TO}{pos p2:Pos}
ПZz1(X:Cx)(r:V->Б Int->Б Int->Б Int->Hp->VK->В):Prop:=
 ∀(pins:А (am×Obj)) (s:ak) (σ:St) (H:Hp) (x:V) (v vl vu vs:ah) (lo hi st:Б Int) (sl:am) (Q:VK),Inv X pins σ H s->Zp x v->s.heap.IsSliceOf sl vl vu vs->IsPart vl lo->IsPart vu hi->IsPart vs st->r x lo hi st H Q->
  ∃T id,typeLookup (.type T) "__getitem__"=pure (some (.builtin id))/\s.TypeIs v T/\ba (bp X.prog X.w) X.A (getItem v (.ref sl)) (EP X pins σ Q) X.xe s
ПZz2(r:V->Б Int->Б Int->Б Int->Hp->VK->В)(te:TE)(tl th ts:TO):TE:=fun σ H Q=>te σ H fun x H1=>tl σ H1 fun l H2=>th σ H2 fun u H3=>ts σ H3 fun w H4=>r x l u w H4 Q
ПZz3(K:af):V->Б Int->Б Int->Б Int->Hp->VK->Prop:=fun x lo hi st H Q=>∃a xs,x= .ref a/\Ws K H a xs/\st≠some 0/\∀p,H p=none->Q (.ref p) (Z5 H p (.lst (Zku xs lo hi st)))
end
end L2
namespace DL
open PySem PySem.Spec PyProof.Rows L2
РZz4(g:D->Б Int->Б Int->Б Int->Б SV)(fe:FE)(fl fh fs:FO):FE:=fun δ=>(fe δ).bind fun p=>(fl p.2).bind fun l=>(fh l.2).bind fun h=>(fs h.2).bind fun w=>(Kx p.1 w.2).bind fun d=>(g d l.1 h.1 w.1).bind fun sv=>some (.tmp sv,w.2)
section
variable{K:af}{Z:Ent K}{H:Hp}{σ:L2.St}{Q:VK}
ПZvi(Z:Ent K)(r:V->Б Int->Б Int->Б Int->Hp->VK->В)(g:D->Б Int->Б Int->Б Int->Б SV):Prop:=
 ∀(F H:Hp) (σ:L2.St) (δ:Yf) (own:Г->Zq) (x:V) (d:D) (lo hi st:Б Int) (sv:SV) (Q:VK),SR Z F H σ δ own->Z7 K F H d x->g d lo hi st=some sv->Fin Z F H σ δ own sv Q->r x lo hi st H Q
РZz5:D->Б Int->Б Int->Б Int->Б SV
 | .lst xs,lo,hi,st=>if st≠some 0 then some (.ol (Zku xs lo hi st))else none
 |_,_,_,_=>none
end
end DL
namespace DL
section
variable{α:Type}{P:А α->В}
@[elab_as_elim] theorem of0(h:P [])(us:А α)(hl:us.length=0):P us:=by
 have:us=[]:=List.eq_nil_of_length_eq_zero hl
 rw[this];E h
@[elab_as_elim] theorem of1(h:∀a,P [a])(us:А α)(hl:us.length=1):P us:=by
 O⟨a,e⟩:=List.length_eq_one_iff.mp hl
 rw[e];E h a
ОofC{n:Г}(h:∀a (us:А α),us.length=n->P (a::us))(us:А α)(hl:us.length=n+1):P us:=by
 cases us with
 |nil=>E absurd hl Л
 |cons a r=>E h a r (by simpa using hl)
@[elab_as_elim] theorem of2(h:∀a b,P [a,b])(us:А α)(hl:us.length=2):P us:=ofC (fun a=>of1 (P:=fun us=>P (a::us)) (h a)) us hl
@[elab_as_elim] theorem of3(h:∀a b c,P [a,b,c])(us:А α)(hl:us.length=3):P us:=ofC (fun a=>of2 (P:=fun us=>P (a::us)) (h a)) us hl
@[elab_as_elim] theorem of4(h:∀a b c d,P [a,b,c,d])(us:А α)(hl:us.length=4):P us:=ofC (fun a=>of3 (P:=fun us=>P (a::us)) (h a)) us hl
@[elab_as_elim] theorem of5(h:∀a b c d e,P [a,b,c,d,e])(us:А α)(hl:us.length=5):P us:=ofC (fun a=>of4 (P:=fun us=>P (a::us)) (h a)) us hl
@[elab_as_elim] theorem of6(h:∀a b c d e f,P [a,b,c,d,e,f])(us:А α)(hl:us.length=6):P us:=ofC (fun a=>of5 (P:=fun us=>P (a::us)) (h a)) us hl
end
end DL
namespace L2
open PySem PySem.Spec PyProof.Rows
section
variable{prog:bu}{w:cj}{A:ck}{E:ah->ak->В}{s:ak}{q d:am}{i n ep:Г}{od:Obj}{es:Array DictEntry}
ОG5{Q:ah->ak->В}(hs:(d==ff)=false)(g:s.heap.get? d=some od)(x:od.ExactDict)(c:od.data= .dict es ep)
  (k:Q (.ref s.heap.objs.size) {s with heap:=s.heap.push {cls:=.type "dict_keyiterator",data:=.fields #[.ref d,.int 0 0,.int es.size 0,.int ep 0]}}):ba (bp prog w) A (pyIter (.ref d)) Q E s:=by
 have T:s.TypeIs (.ref d) "dict":=⟨od,g,x.1⟩
 R wpAny_pyIter_slot T PySem.F.slot_dict_iter (c5 PySem.F.slot_dict_iter T PySem.F.entry_dict_iter (show ba _ _ (Builtin.«dict.__iter__» _) _ _ _ from ?_) (PySem.F.args_dict_iter_1 _))
 unfold Builtin.«dict.__iter__» Builtin.Dict.dictSlotNone
 R ad (ad (wpAny_notOrdered_dict T (show ba _ _ (pure (bv d)) _ _ s from ag ?_)))
 show ba _ _ (Builtin.Dict.showsAll d >>=_) _ _ s
 unfold Builtin.Dict.showsAll
 rw[Д (by rw[hs];decide)]
 R ad (ag (ad (wpAny_dictEntries g c (ad (wpAny_dictEpoch g c (ad (dv (ag ⟨_,rfl,"dict_keyiterator",_,⟨_,a9 _ rfl,rfl⟩,gh.lookup,?_⟩))))))))
 simpa[rawInt]using k
ОG6{e:DictEntry}{Q:Б ah->ak->В}(t:s.heap.IsKeyIter q d i n ep)(g:s.heap.get? d=some od)(c:od.data= .dict es ep)(hn:es.size=n)(he:es[i]? =some e)
  (k:∀h',h'.IsKeyIter q d (i+1) n ep->g8 q s.heap h'->Q (some e.key) {s with heap:=h'}):ba (bp prog w) A (pyNext (.ref q)) Q E s:=by
 O⟨o,ho,hc,hd⟩:=id t
 have T:=t.typeIs
 unfold pyNext
 R ad (wpAny_attempt (f6 (name:="__next__") T gh (c5 gh T PySem.F.entry_dict_keyiterator_next (ad (ag (ad (ad ?_)))) (PySem.F.args_dict_keyiterator_next_1 _))))
 first| (R ad (wpAny_typeNameOfWhole_keyiter T (ag (ad (wpAny_fieldsOf ho hd ?_)))))| (R ad (wpAny_typeNameOf_keyiter T (ag (ad (wpAny_fieldsOf ho hd ?_)))))
 have z0:Builtin.Dict_items.ownsTuple "dict_keyiterator"=false:=rfl
 rw[z0]
 simp only[bg,if_false]
 show ba _ _ (ite ((bv d==cf)=true) _ _) _ _ s
 rw[Д (show¬(bv d==cf)=true from fun z=>bh z)]
 R ad (ag (ad (wpAny_dictEntries g c ?_)))
 rw[Д (by rw[hn];simp)]
 R ad (ag (ad (wpAny_dictEpoch g c ?_)))
 rw[Д Л]
 have hi:i<es.size:=(f8.mp he).1
 R ag ?_
 simp only[show¬((i:Int)<0) by W,if_false,Int.toNat_natCast,he]
 R ad ?_
 first| (R ad (wpAny_typeNameOfWhole_keyiter T (ag (ad (wpAny_isOneOf_keyiter T ?_)))))| (R ad (wpAny_typeNameOf_keyiter T (ag (ad (wpAny_isOneOf_keyiter T ?_)))))
 show ba _ _ (setField (.ref q) 1 (rawInt ((i:Int)+1)) >>=_) _ _ s
 R ad (wpAny_setField ho hd Л ?_)
 have t':(s.heap.update q (Obj.mapFields (·.setIfInBounds 1 (rawInt ((i:Int)+1))))).IsKeyIter q d (i+1) n ep:=⟨_,Heap.get?_update_self _ ho (Obj.isFreed_of_fields (Obj.data_mapFields hd _)),(Obj.cls_mapFields ..).trans hc,(Obj.data_mapFields hd _).trans (by simp[rawInt])⟩
 R ad (gc (ad (wpAny_isOneOf_keyiter (s:={s with heap:=s.heap.update q (Obj.mapFields (·.setIfInBounds 1 (rawInt ((i:Int)+1))))}) t'.typeIs (show ba _ _ (pure e.key) _ _ _ from ag (ag ⟨_,rfl,ag (k _ t' (Heap.SameBut.update ..))⟩)))))
ОG7{Q:Б ah->ak->В}(hh:A.handled=none)(t:s.heap.IsKeyIter q d i n ep)(g:s.heap.get? d=some od)(c:od.data= .dict es ep)(hn:es.size=n)(hi:n<=i)
  (k:∀h',Heap.ExtBut q s.heap h'->Q none {s with heap:=h'}):ba (bp prog w) A (pyNext (.ref q)) Q E s:=by
 O⟨o,ho,hc,hd⟩:=id t
 have T:=t.typeIs
 unfold pyNext
 R ad (wpAny_attempt (f6 (name:="__next__") T gh (c5 gh T PySem.F.entry_dict_keyiterator_next (ad (ag (ad (ad ?_)))) (PySem.F.args_dict_keyiterator_next_1 _))))
 first| (R ad (wpAny_typeNameOfWhole_keyiter T (ag (ad (wpAny_fieldsOf ho hd ?_)))))| (R ad (wpAny_typeNameOf_keyiter T (ag (ad (wpAny_fieldsOf ho hd ?_)))))
 have z0:Builtin.Dict_items.ownsTuple "dict_keyiterator"=false:=rfl
 rw[z0]
 simp only[bg,if_false]
 show ba _ _ (ite ((bv d==cf)=true) _ _) _ _ s
 rw[Д (show¬(bv d==cf)=true from fun z=>bh z)]
 R ad (ag (ad (wpAny_dictEntries g c ?_)))
 rw[Д (by rw[hn];simp)]
 R ad (ag (ad (wpAny_dictEpoch g c ?_)))
 rw[Д Л]
 have he:es[i]? =none:=Array.getElem?_eq_none И
 R ag ?_
 simp only[show¬((i:Int)<0) by W,if_false,Int.toNat_natCast,he]
 R ad ?_
 first| (R ad (wpAny_typeNameOfWhole_keyiter T (ag ?_)))| (R ad (wpAny_typeNameOf_keyiter T (ag ?_)))
 show ba _ _ (setField (.ref q) 0 cf >>=_) _ _ s
 R ad (wpAny_setField ho hd Л (show ba _ _ (newExc (.type "StopIteration") [] >>=_) _ _ _ from ad ?_))
 simp only[newExc,newTuple]
 R ad (dv (ad (m:=firstArgMember _ _) (wpAny_of_eq (a:=cf) (by first|rfl| (simp only[firstArgMember];rfl)) (dv ?_ (by size_fits)))) (by size_fits))
 simp only[raiseNew]
 R ad (wpAny_handled ?_)
 rw[show A.in1.handled=Option.none from hh]
 R ad (ag (wpAny_throw ?_))
 R ad (gk (T:="StopIteration") (b:=true) (by E⟨_,a9 _ rfl,rfl⟩) isSubtype_stop ?_)
 E ag (k _ (((Heap.SameBut.update ..).extBut.push _).push _))
ОHy{P:bu}{w:cj}{k:Key}{u:ah}(h:(Zj P w).is k u=true):Zp (kV k) u:=by
 rcases Z0 h with⟨i,t,rfl,rfl⟩|⟨x,t,rfl,rfl⟩
 ·E⟨t,rfl⟩
 ·E⟨t,rfl⟩
end
ПItk(a:am)(n ep:Г):It:=
 ⟨fun i H=>∃kvs,H a=some (.dK kvs ep)/\kvs.length=n/\i<n,fun i H x H'=>H'=H/\∃kvs kv,H a=some (.dK kvs ep)/\kvs[i]? =some kv/\x=kV kv.1,fun i H=>∃kvs,H a=some (.dK kvs ep)/\kvs.length=n/\n<=i⟩
ПItd(a:am)(n ep:Г):It:=
 ⟨fun i H=>∃kvs bs,H a=some (.dT kvs ep bs)/\kvs.length=n/\i<n,fun i H x H'=>H'=H/\∃kvs bs b,H a=some (.dT kvs ep bs)/\bs[i]? =some b/\x= .ref b,fun i H=>∃kvs bs,H a=some (.dT kvs ep bs)/\kvs.length=n/\n<=i⟩
ОG8{q d:am}{i n ep:Г}{h h':dr}(t:h.IsKeyIter q d i n ep)(k:∀o,h.get? q=some o->h'.get? q=some o):h'.IsKeyIter q d i n ep:=let⟨o,e,r⟩:=t;⟨o,k o e,r⟩
ОZem{P:bu}{w:cj}{es:А DictEntry}{vs:А (Key×ah)}(h:Pairs (Zj P w) es vs){i:Г}{kv:Key×ah}(hi:vs[i]? =some kv):∃e,es[i]? =some e/\(Zj P w).is kv.1 e.key=true:=by
 induction h generalizing i with
 |nil=>simp at hi
 | @cons e0 kv0 es0 kvs0 h1 h2 _ ih=>
  cases i with
  |zero=>simp at hi;subst hi;E⟨e0,by simp,h1⟩
  |succ j=>
   O⟨e,a1,a2⟩:=ih (i:=j) (by simpa using hi)
   E⟨e,by simpa using a1,a2⟩
ОCa{P:bu}{w:cj}{es:А DictEntry}{vs:А (Key×ah)}(h:Pairs (Zj P w) es vs):es.length=vs.length:=by
 induction h with
 |nil=>rfl
 |cons _ _ _ ih=>rw[bn,bn,ih]
ОJl{α β:Type}{R:α->β->В}{l:А α}{m:А β}(h:Paired R l m):∀{i:Г} {x:α},l[i]? =some x->∃y,m[i]? =some y/\R x y:=by
 induction h with
 |nil=>intro i x hi;simp at hi
 | @cons a b as bs h1 t ih=>
  intro i x hi
  cases i with
  |zero=>simp at hi;subst hi;E⟨b,by simp,h1⟩
  |succ j=>O⟨y,a1,a2⟩:=ih (i:=j) (by simpa using hi);E⟨y,by simpa using a1,a2⟩
ОOl{P:bu}{w:cj}{K:af}{tg:ci}(a it:am)(n ep:Г):Turn P w K tg (Itk a n ep) [it] it (fun i h=>h.IsKeyIter it a i n ep)where
 mem:=aj
 obj:=fun i h st b hb=>by
  obtain rfl:=au.mp hb
  O⟨o,e,c,d⟩:=st
  E⟨o,e,fun v z=>by rw[d]at z;C z⟩
 keep:=fun i h h' st k=>G8 st fun o e=>k it aj o e
 item:=by
  intro X hP hw hK hc i pins s σ H E I hf st hg
  subst hP hw hK
  O⟨kvs,hq,hn,hi⟩:=hg
  O⟨z,hd,vs,rel,od,es,g,x,c,ko,pr,nd⟩:=(show Z9 X.prog X.w H s.heap a (.dK kvs ep)from I.hok a _ hq)
  O⟨f0,f1,f2,f3,f4,f5⟩:=hf it aj
  have hkv:kvs[i]? =some (kvs[i]'И):=az И
  O⟨vv,hv,hr⟩:=Jl rel hkv
  O⟨e,he,hke⟩:=Zem pr hv
  have hz:es.size=n:=by rw[<-aw,Ca pr,<-gu rel,hn]
  R G6 st g c hz (e:=e) (by rw[<-b5];E he) fun h' st' sb=>?_
  have I1:Inv X pins σ H {s with heap:=h'}:=I.turned (t':=s.toks) (fun b o hb e=>(sb.2 b hb).trans e) f0 f1 f3 f4 f5
  O⟨o,e1,c1,d1⟩:=id st'
  E⟨e.key,rfl,Ti (s:={s with heap:=h'}) e1 c1 d1 Й ⟨kV (kvs[i]'И).1,H,I1,Hy (by rw[hr.1];E hke),⟨rfl,kvs,_,hq,hkv,rfl⟩,st',fun b hb=>(hf b hb).1⟩⟩
 done:=by
  intro X hP hw hK hc i pins s σ H E I hf st hg
  subst hP hw hK
  O⟨kvs,hq,hn,hi⟩:=hg
  O⟨z,hd,vs,rel,od,es,g,x,c,ko,pr,nd⟩:=(show Z9 X.prog X.w H s.heap a (.dK kvs ep)from I.hok a _ hq)
  O⟨f0,f1,f2,f3,f4,f5⟩:=hf it aj
  have hz:es.size=n:=by rw[<-aw,Ca pr,<-gu rel,hn]
  E G7 (I.ok.hd hc) st g c hz hi fun h' eb=>⟨rfl,I.turned (t':=s.toks) (fun b o hb e=>eb b o hb e) f0 f1 f3 f4 f5⟩
 self:=fun _ _ s _ _ st h=>by
  E wpAny_pyIter_slot st.typeIs PySem.F.slot_dict_keyiterator_iter (c5 PySem.F.slot_dict_keyiterator_iter st.typeIs PySem.F.entry_dict_keyiterator_iter (by E ag ⟨_,rfl,"dict_keyiterator",_,st.typeIs,gh.lookup,h⟩) (PySem.F.args_dict_keyiterator_iter_1 _))
ОZim{P:bu}{w:cj}{K:af}{tg:ci}(a it:am)(n ep:Г):Turn P w K tg (Itd a n ep) [it] it (fun i h=>h.IsKeyIter it a i n ep)where
 mem:=aj
 obj:=(Ol (P:=P) (w:=w) (K:=K) (tg:=tg) a it n ep).obj
 keep:=(Ol (P:=P) (w:=w) (K:=K) (tg:=tg) a it n ep).keep
 item:=by
  intro X hP hw hK hc i pins s σ H E I hf st hg
  subst hP hw hK
  O⟨kvs,bs,hq,hn,hi⟩:=hg
  O⟨z,hd,xs,rel,od,es,g,x,c,en,nd,hbs⟩:=(show Z9 X.prog X.w H s.heap a (.dT kvs ep bs)from I.hok a _ hq)
  O⟨f0,f1,f2,f3,f4,f5⟩:=hf it aj
  have hkv:kvs[i]? =some (kvs[i]'И):=az И
  O⟨vv,hv,hr⟩:=Jl rel hkv
  have hz:es.size=n:=by rw[<-aw,en,ao,<-gu rel,hn]
  have he:es[i]? =some (entryOfKey (tupleKind (Zj X.prog X.w)) vv):=by rw[<-b5,en,bf,hv];rfl
  R G6 st g c hz he fun h' st' sb=>?_
  have I1:Inv X pins σ H {s with heap:=h'}:=I.turned (t':=s.toks) (fun b o hb e=>(sb.2 b hb).trans e) f0 f1 f3 f4 f5
  O⟨o,e1,c1,d1⟩:=id st'
  E⟨.ref vv.2.1,rfl,Ti (s:={s with heap:=h'}) e1 c1 d1 Й ⟨.ref vv.2.1,H,I1,rfl,⟨rfl,kvs,bs,vv.2.1,hq,by rw[<-hbs,bf,hv];rfl,rfl⟩,st',fun b hb=>(hf b hb).1⟩⟩
 done:=by
  intro X hP hw hK hc i pins s σ H E I hf st hg
  subst hP hw hK
  O⟨kvs,bs,hq,hn,hi⟩:=hg
  O⟨z,hd,xs,rel,od,es,g,x,c,en,nd,hbs⟩:=(show Z9 X.prog X.w H s.heap a (.dT kvs ep bs)from I.hok a _ hq)
  O⟨f0,f1,f2,f3,f4,f5⟩:=hf it aj
  have hz:es.size=n:=by rw[<-aw,en,ao,<-gu rel,hn]
  E G7 (I.ok.hd hc) st g c hz hi fun h' eb=>⟨rfl,I.turned (t':=s.toks) (fun b o hb e=>eb b o hb e) f0 f1 f3 f4 f5⟩
 self:=(Ol (P:=P) (w:=w) (K:=K) (tg:=tg) a it n ep).self
section
variable{X:Cx}{tg:ci}
ПZq6(tl:TE):TI:=fun σ H R=>tl σ H fun x H1=>(∃a kvs ep,x= .ref a/\H1 a=some (.dK kvs ep)/\R (Itk a kvs.length ep) H1)\/(∃a kvs ep bs,x= .ref a/\H1 a=some (.dT kvs ep bs)/\R (Itd a kvs.length ep) H1)
ОZm7{l:ci}{tl:TE}(hl:PE X l tl):PI X tg l (Zq6 tl):=by
 intro pins s σ H R I h
 R Wo (hl pins s σ H _ I h) fun v s1 zq9=>?_
 O⟨x,H1,I1,r1,q1⟩:=zq9
 rcases q1 with⟨a,kvs,ep,rfl,hq,q⟩|⟨a,kvs,ep,bs,rfl,hq,q⟩
 ·C r1
  O⟨z,hd,vs,rel,od,es,g,x,c,ko,pr,nd⟩:=(show Z9 X.prog X.w H1 s1.heap a (.dK kvs ep)from I1.hok a _ hq)
  have hz:es.size=kvs.length:=by rw[<-aw,Ca pr,<-gu rel]
  R G5 hd g x c ⟨s1.heap.objs.size,[s1.heap.objs.size],_,_,H1,rfl,I1.kept (t':=s1.toks) fun b o e=>aq _ e,Ol a _ kvs.length ep,⟨_,a9 _ rfl,rfl,by rw[hz];rfl⟩,fun b hb=>?_,q⟩
  obtain rfl:=au.mp hb
  E I1.fpOk (a7 _) (I1.hok.fresh (a7 _))
 ·C r1
  O⟨z,hd,xs,rel,od,es,g,x,c,en,nd,hbs⟩:=(show Z9 X.prog X.w H1 s1.heap a (.dT kvs ep bs)from I1.hok a _ hq)
  have hz:es.size=kvs.length:=by rw[<-aw,en,ao,<-gu rel]
  R G5 hd g x c ⟨s1.heap.objs.size,[s1.heap.objs.size],_,_,H1,rfl,I1.kept (t':=s1.toks) fun b o e=>aq _ e,Zim a _ kvs.length ep,⟨_,a9 _ rfl,rfl,by rw[hz];rfl⟩,fun b hb=>?_,q⟩
  obtain rfl:=au.mp hb
  E I1.fpOk (a7 _) (I1.hok.fresh (a7 _))
end
end L2
namespace DL
open PySem PySem.Spec PyProof.Rows L2
variable{K:af}
РR4:Key->D
 | .inl i=>.int i
 | .inr x=>.str x
ОPn{F:Hp}(k:Key):Rep K F (R4 k) (kV k):=by
 cases k with
 |inl i=>E .int i
 |inr x=>E .str x
ОR5{F:Hp}:∀k:А Key,Reps K F (k.map R4) (k.map kV)
 | []=>.nil
 |k::r=>.cons (Pn k) (R5 r)
ОZba{F:Hp}{a:am}{kvs:А (Key×V)}{ep:Г}(h:F a=some (.dK kvs ep)):Uu K (Itk a kvs.length ep) F ((kvs.map (·.1)).map R4):=fun F' H sF sH i=>by
 have q:H a=some (.dK kvs ep):=sH _ _ (sF _ _ h)
 R⟨fun d hd=>?_,fun hl=>⟨kvs,q,rfl,by simpa using hl⟩⟩
 rw[bx,bf]at hd
 O⟨kv,h1,h2⟩:=cm.mp hd
 R⟨⟨kvs,q,rfl,(ax.mp h1).1⟩,fun x H' ⟨e1,kvs',kv',e2,e3,e4⟩=>?_⟩
 subst e1
 rw[q]at e2;C e2
 rw[h1]at e3;C e3
 subst e4
 rw[<-h2]
 E⟨Zf.refl _,[],c7,fun _ h=>(nomatch h),Pn _⟩
ОZbb{F:Hp}{a:am}{kvs:А (А Key×V)}{ep:Г}{bs:А am}(h:F a=some (.dT kvs ep bs))(kb:KB F kvs bs):Uu K (Itd a kvs.length ep) F ((kvs.map (·.1)).map fun k=>D.tup (k.map R4)):=fun F' H sF sH i=>by
 have q:H a=some (.dT kvs ep bs):=sH _ _ (sF _ _ h)
 R⟨fun d hd=>?_,fun hl=>⟨kvs,bs,q,rfl,by simpa using hl⟩⟩
 rw[bx,bf]at hd
 O⟨kv,h1,h2⟩:=cm.mp hd
 R⟨⟨kvs,bs,q,rfl,(ax.mp h1).1⟩,fun x H' ⟨e1,kvs',bs',b,e2,e3,e4⟩=>?_⟩
 subst e1
 rw[q]at e2;C e2
 subst e4
 O⟨b',g1,g2⟩:=Jl (kb.mono sF) h1
 rw[e3]at g1;C g1
 rw[<-h2]
 E⟨Zf.refl _,[],c7,fun _ h=>(nomatch h),.tup g2 (R5 _)⟩
section
variable{Z:Ent K}{H:Hp}{σ:L2.St}
РZbc(fe:FE):FD:=fun δ=>(fe δ).bind fun p=>(frz p.1 p.2).bind fun q=>match q.1 with
 | .dK ks _=>some (ks.map R4,q.2)
 | .dT ks _=>some (ks.map fun k=>D.tup (k.map R4),q.2)
 |_=>none
ОZm8{fe:FE}{R:It->Hp->В}(h:W5 Z (Zbc fe) σ H R):Zq6 (Zc Z fe) σ H R:=by
 O⟨F,δ,own,ds,δ',s,e,k⟩:=h
 O⟨⟨rv,δ1⟩,e1,e2⟩:=aa.mp e
 O⟨⟨d,δ2⟩,e3,e4⟩:=aa.mp e2
 R⟨F,δ,own,rv,δ1,s,e1,fun v H1 F1 own1 sH sF s1 r1=>?_⟩
 O⟨F2,sF2,s2,r2⟩:=s1.settleR r1
 O⟨F3,own3,sF3,s3,r3⟩:=s2.frzR r2 e3
 dsimp only at e4
 split at e4
 ·C e4
  cases r3 with
  |dK h e r=>subst e;E .inl ⟨_,_,_,rfl,s3.le _ _ h,k _ H1 F3 own3 sH (sF.trans (sF2.trans sF3)) s3 (Zba h)⟩
 ·C e4
  cases r3 with
  |dT h kb e r=>subst e;E .inr ⟨_,_,_,_,rfl,s3.le _ _ h,k _ H1 F3 own3 sH (sF.trans (sF2.trans sF3)) s3 (Zbb h kb)⟩
 ·C e4
end
ОZkv{X:Cx}{tg:ci}{Z:Ent X.K}{a:ci}{fa:FE}(ha:PE X a (Zc Z fa)):PI X tg a (W5 Z (Zbc fa)):=fun pins s σ H R I h=>Zm7 ha pins s σ H R I (Zm8 h)
end DL
namespace DL
open PySem PySem.Spec PyProof.Rows L2
variable{K:af}
РinW(d1 d2:D):Б SV:=match d2.seq? with
 |some xs=>if d1.isFlat=true/\xs.all D.isFlat=true then some (.fz (.bl (Ll d1 xs)))else none
 |none=>inD d1 d2
РZvm(d1 d2:D):Б SV:=match d2.seq? with
 |some xs=>if d1.isFlat=true/\xs.all D.isFlat=true then some (.fz (.bl (!Ll d1 xs)))else none
 |none=>K8 d1 d2
end DL
namespace L2
open PySem PySem.Spec PyProof.Rows
section
variable{X:Cx}
ПZz8:R2:=fun x y H Q=>∃a b kvs,x= .ref a/\y= .ref b/\HTt H a kvs/\HTt H b kvs/\(∀p∈kvs,Yi p.2=true)/\Q (.bl true) H
end
end L2
namespace DL
open PySem PySem.Spec PyProof.Rows L2
variable{K:af}
ПZq7(ks ks':А (А Key))(vs vs':А D):Bool:=@decide (ks=ks'/\vs=vs'/\vs.all D.isFlat=true) (Classical.propDecidable _)
РZz9(d1 d2:D):Б SV:=match d1,d2 with
 | .dT ks vs,.dT ks' vs'=>if Zq7 ks ks' vs vs'=true then some (.fz (.bl true))else none
 |_,_=>none
end DL
namespace DL
open PySem PySem.Spec PyProof.Rows L2
end DL
namespace DL
open PySem PySem.Spec PyProof.Rows L2
variable{K:af}
РVv(src:А BSrc)(k:Г)(g:FG)(tt:FT)(te:FE):А D->Yf->Б Yf
 | [],δ=>some δ
 |d::ds,δ=>(g.run d δ).bind fun δ1=>(tt δ1).bind fun p=>if p.1=true then(te p.2).bind fun q=>match q.1,q.2[k]? with
   | .tmp (.ol xs),some (some (.oL none zs))=>if zs.length<a8 then Vv src k g tt te ds (U5 src (q.2.set k (some (.oL none (zs++[xs])))))else none
   |_,_=>none
  else Vv src k g tt te ds (U5 src p.2)
РZvn(src:А BSrc)(k:Г)(fi:FD)(g:FG)(tt:FT)(te:FE):FE:=fun δ=>(fi δ).bind fun p=>(frzAll (caps src) p.2).bind fun c=>(Vv src k g tt te p.1 ((bD src c.2).set k (some (.oL none [])))).bind fun δb=>match δb[k]? with
 |some (some (.oL none ys))=>some (.tmp (.oL none ys),c.2)
 |_=>none
ОSR.drop{Z:Ent K}{F H:Hp}{σ:L2.St}{δ:Yf}{own:Г->Zq}(i:Г)(s:SR Z F H σ δ own):SR Z F H σ (δ.set i none) (put own i []):=by
 R⟨s.le,s.fro,s.old,by rw[List.length_set];E s.len,fun j sv e=>?_,fun j=>?_,fun j p hp=>?_,fun j k p q hjk hp hq=>?_⟩
 ·by_cases hj:j=i
  ·subst hj
   rw[List.getElem?_set]at e
   rw[Е rfl]at e
   split at e
   ·C e
   ·C e
  ·rw[d6 (Ne.symm hj)]at e
   rw[Yb hj]
   E s.at' j sv e
 ·by_cases hj:j=i
  ·subst hj;rw[Z4];E c7
  ·rw[Yb hj];E s.nod j
 ·by_cases hj:j=i
  ·subst hj;rw[Z4]at hp;E nomatch hp
  ·rw[Yb hj]at hp;E s.ok j p hp
 ·by_cases hj:j=i
  ·subst hj;rw[Z4]at hp;E nomatch hp
  ·by_cases hk:k=i
   ·subst hk;rw[Z4]at hq;E nomatch hq
   ·rw[Yb hj]at hp
    rw[Yb hk]at hq
    E s.sep j k p q hjk hp hq
section
variable{Z:Ent K}{H:Hp}{σ:L2.St}{Q:VK}{E:Yz}
ПZkw(i p q:Г):FE:=fun δ=>match δ[i]?,δ[p]?,δ[q]? with
 |some (some (.oL none xss)),some (some (.fz (.int n))),some (some (.fz (.lst xs)))=>if 0<=n/\n.toNat<=xss.length/\xss.length+1<=a8 then some (.tmp (.oL none (xss.take n.toNat++[xs]++xss.drop n.toNat)),δ.set i none)else none
 |_,_,_=>none
@[simp] theorem Zq8{i p q:Г}{δ:Yf}{xss:А (А D)}{n:Г}{xs:А D}(hi:δ[i]? =some (some (.oL none xss)))(hp:δ[p]? =some (some (.fz (.int (n:Г)))))(hq:δ[q]? =some (some (.fz (.lst xs))))(hn:n<=xss.length)(hz:xss.length+1<=a8):
  Zkw i p q δ=some (.tmp (.oL none (xss.take n++[xs]++xss.drop n)),δ.set i none):=by
 unfold Zkw
 rw[hi,hp,hq]
 dsimp only
 rw[Е ⟨by W,by W,hz⟩,Int.toNat_natCast]
noncomputable abbrev Z0a(K:af):А V->Hp->VK->Prop:=fun xs H Q=>∃p ys,xs=[V.ref p]/\(Ws K H p ys\/Uh K H p ys)/\∀l,H l=none->Q (.ref l) (Z5 H l (.lst ys))
РapT(c:Str)(n:Г)(xss:А (А D)):А (А D):=(xss.take n).map (· ++[.str c])++xss.drop n
ПHz(i j:Г)(c:Str):FS:=fun δ=>match δ[i]? with
 |some (some (.oL none xss))=>if i≠j/\j<δ.length/\(∀xs∈xss,xs.length<a8)then some (.nx ((δ.set j none).set i (some (.oL none (xss.map (· ++[.str c]))))))else none
 |_=>none
@[simp] theorem Zm9{i j:Г}{c:Str}{δ:Yf}{xss:А (А D)}(hi:δ[i]? =some (some (.oL none xss)))(hij:i≠j)(hj:j<δ.length)(hz:∀xs∈xss,xs.length<a8):Hz i j c δ=some (.nx ((δ.set j none).set i (some (.oL none (xss.map (· ++[.str c])))))):=by
 unfold Hz
 rw[hi]
 dsimp only
 rw[Е ⟨hij,hj,hz⟩]
ПDa(i:Г):FS:=fun δ=>match δ[i]? with
 |some (some (.oL none _))=>some (.nx (δ.set i (some (.ol []))))
 |_=>none
@[simp] theorem Zna{i:Г}{δ:Yf}{xss:А (А D)}(hi:δ[i]? =some (some (.oL none xss))):Da i δ=some (.nx (δ.set i (some (.ol [])))):=by unfold Da;rw[hi]
end
end DL
namespace DL
open PySem PySem.Spec PyProof.Rows L2
section
variable{X:Cx}{Z:Ent X.K}{a b c:ci}{fa fb fc:FE}{pos:Pos}
ОPo(i:Г){x:Str}{pos:Pos}(hN:X.N[i]? =some x:=by rfl)(hv:Sv X.env.scope x:=by first|E Or.inl rfl|E gg (Or.inl rfl)|E gg (gg rfl))(hd:(x==("__debug__":Str))=false:=by decide)
  (hcd:(x==("__classdict__":Str))=false:=by decide):PE X (.Name x pos) (Q8 i):=Jo hN hv hd hcd
end
end DL
namespace DL
open PySem PySem.Spec PyProof.Rows L2
variable{K:af}
ПZtd(K:af)(C:am)(f:Str):Sp:=fun vs H Q _=>∃e p ys,vs=[.ref e,.ref p]/\H e=some (.ext (Bq e C none))/\(Ws K H p ys\/Uh K H p ys)/\
 ∀l,H l=none->∀dx,Z5 H l (.lst ys) dx=none->Q .non (Z5 (Z5 (Z5 H l (.lst ys)) dx (.xd [(f,.ref l)])) e (.ext (Bq e C (some dx))))
ПZte(C:am)(f:Str):Sp:=fun vs H Q _=>∃e v,vs=[.ref e,v]/\H e=some (.ext (Bq e C none))/\
 ∀dx,H dx=none->Q .non (Z5 (Z5 H dx (.xd [(f,v)])) e (.ext (Bq e C (some dx))))
section
variable{Z:Ent K}{H:Hp}{σ:L2.St}{E:Yz}{Q:VK}
РZvo(c f:Str)(fe:FE):FS:=fun δ=>(fe δ).bind fun p=>(frz p.1 p.2).bind fun q=>match q.1 with
 | .lst ds=>some (.ex ⟨c,[f],[.lst ds]⟩ q.2)
 |_=>none
РZvp(c f:Str)(fe:FE):FS:=fun δ=>(fe δ).bind fun p=>(frz p.1 p.2).bind fun q=>some (.ex ⟨c,[f],[q.1]⟩ q.2)
РZxl(cs:А Str)(f:Str):D->Б SV
 | .exc c ks vs=>if c∈cs then((ks.zip vs).lookup f).bind fun d=>some (.fz d)else none
 |_=>none
end
end DL
namespace DL
open PySem PySem.Spec PyProof.Rows L2
variable{K:af}
noncomputable abbrev Zen(H:Hp)(bs:А am)(xss:А (А Str)):Prop:=Paired (fun(b:am) (xs:А Str)=>H b=some (.tup (xs.map V.str))) bs xss
open Classical in
ПeqT(H:Hp)(ss:А Str):ah->Bool:=fun w=>decide (∃b,w= .ref b/\H b=some (.tup (ss.map V.str)))
section
variable{X:Cx}{pins:А (am×Obj)}{σ:L2.St}{H:Hp}{s:ak}
ПZ0b(K:af)(neg:Bool):R2:=fun x y H Q=>∃b ss a bs xss,x= .ref b/\H b=some (.tup (ss.map V.str))/\y= .ref a/\Ws K H a (bs.map V.ref)/\Zen H bs xss/\Q (.bl (if neg then !(xss.any fun xs=>decide (xs=ss))else xss.any fun xs=>decide (xs=ss))) H
ПZtf(K:af):V->А V->Hp->VK->Prop:=fun x xs H Q=>∃b ss a bs xss j,xs=[.ref b]/\H b=some (.tup (ss.map V.str))/\x= .ref a/\Ws K H a (bs.map V.ref)/\Zen H bs xss/\(xss.findIdx? fun xs=>decide (xs=ss))=some j/\Q (.int (j:Г)) H
end
Рtl?:А D->Б (А (А Str))
 | []=>some []
 | .tup ds::r=>(strs? ds).bind fun x=>(tl? r).bind fun t=>some (x::t)
 |_=>none
РinP:D->D->Б SV
 | .tup a,.lst xs=>(strs? a).bind fun ss=>(tl? xs).bind fun xss=>some (.fz (.bl (xss.any fun x=>decide (x=ss))))
 |_,_=>none
РZvq:D->D->Б SV
 | .tup a,.lst xs=>(strs? a).bind fun ss=>(tl? xs).bind fun xss=>some (.fz (.bl (!(xss.any fun x=>decide (x=ss)))))
 |_,_=>none
РZvr:А D->Б SV
 | [.lst xs,.tup a]=>(strs? a).bind fun ss=>(tl? xs).bind fun xss=>(xss.findIdx? fun x=>decide (x=ss)).bind fun j=>some (.fz (.int (j:Г)))
 |_=>none
end DL
namespace DL
open PySem PySem.Spec PyProof.Rows L2
variable{K:af}
section
variable{Z:Ent K}{H:Hp}{σ:L2.St}{Q:VK}
РZxm(k0:Str)(f0:FE)(j:Г)(f1:FE):FE:=fun δ=>match δ[j]? with
 |some (some (.fz (.str x)))=>(Ze f0 (Ze f1 Zl) δ).bind fun p=>match p.1 with
  | [v0,v1]=>if k0=x then none else some (.tmp (.oK [.inr k0,.inr x] [v0,v1]),p.2)
  |_=>none
 |_=>none
end
end DL
namespace L2
open PySem PySem.Spec PyProof.Rows
section
variable{X:Cx}
ПZtg(K:af):V->А V->Hp->VK->Prop:=fun x xs H Q=>∃p ys y,x= .ref p/\xs=[y]/\Ws K H p ys/\Yi y=true/\ys.all Yi=true/\Q (.int ((ys.countP fun z=>Nt z y):Г)) H
ПZvs:V->А V->Hp->VK->Prop:=fun x xs H Q=>∃a b i,x= .str a/\xs=[.str b,.int i]/\Q (.int (Txt.find3 a b i)) H
end
end L2
namespace DL
open PySem PySem.Spec PyProof.Rows L2
variable{K:af}
section
variable{Z:Ent K}{H:Hp}{σ:L2.St}{Q:VK}{E:Yz}
РZvt:А D->Б SV
 | [.lst xs,x]=>if x.isFlat=true/\xs.all D.isFlat=true then some (.fz (.int ((xs.countP fun y=>Vq y x):Г)))else none
 |_=>none
РZvu:А D->Б SV
 | [.str a,.str b,.int i]=>some (.fz (.int (Txt.find3 a b i)))
 |_=>none
РZ0c(i:Г)(j:Int):FS:=fun δ=>match δ[i]? with
 |some (some (.fz (.int x)))=>some (.nx (δ.set i (some (.fz (.int (x+j))))))
 |_=>none
РZxn:FE:=fun δ=>some (.tmp (.oL none [[]]),δ)
ПZkx(i:Г):FS:=fun δ=>match δ[i]? with
 |some (some (.oL p xss))=>if xss.length<a8 then some (.nx (δ.set i (some (.oL p (xss++[[]])))))else none
 |_=>none
@[simp] theorem Zq9{i:Г}{δ:Yf}{p:Б am}{xss:А (А D)}(hi:δ[i]? =some (some (.oL p xss)))(hz:xss.length<a8):Zkx i δ=some (.nx (δ.set i (some (.oL p (xss++[[]]))))):=by
 unfold Zkx;rw[hi];EЕ hz
noncomputable abbrev Z0d(K:af)(i:Г):TE:=tOp (Zl4 K) (Q8 i) (tC (.int (-1)))
ПZra(i:Г)(fe:FE):FS:=fun δ=>match δ[i]? with
 |some (some (.oL _ xss0))=>if xss0.length=0 then none else(fe δ).bind fun q=>(frz q.1 q.2).bind fun r=>match r.2[i]? with
  |some (some (.oL p xss))=>(xss[xss.length- 1]?).bind fun xs=>if xs.length<a8 then some (.nx (r.2.set i (some (.oL p (xss.set (xss.length- 1) (xs++[r.1]))))))else none
  |_=>none
 |_=>none
end
end DL
namespace DL
open PySem PySem.Spec PyProof.Rows L2
variable{K:af}
section
variable{Z:Ent K}{H:Hp}{σ:L2.St}{Q:VK}{E:Yz}
ПZky(i:Г):FE:=fun δ=>match δ[i]? with
 |some (some (.oL _ xss))=>some (.tmp (.fz (.int (xss.length:Г))),δ)
 |_=>none
@[simp] theorem Zrb{i:Г}{δ:Yf}{p:Б am}{xss:А (А D)}(hi:δ[i]? =some (some (.oL p xss))):Zky i δ=some (.tmp (.fz (.int (xss.length:Г))),δ):=by unfold Zky;rw[hi]
noncomputable abbrev Zxo(K:af):А V->Hp->VK->Prop:=fun xs H Q=>∃p ys,xs=[V.ref p]/\(Ws K H p ys\/Uh K H p ys)/\Q (.int ys.length) H
ПZth(i:Г):FE:=fun δ=>match δ[i]? with
 |some (some (.oL _ xss))=>(xss[xss.length- 1]?).bind fun xs=>some (.tmp (.fz (.int (xs.length:Г))),δ)
 |_=>none
ПZti(i:Г):FE:=fun δ=>match δ[i]? with
 |some (some (.oL _ xss))=>(xss[xss.length- 1]?).bind fun xs=>(xs[xs.length- 1]?).bind fun d=>some (.tmp (.fz d),δ)
 |_=>none
ПPp(i:Г):FE:=fun δ=>match δ[i]? with
 |some (some (.oL _ (xs::_)))=>some (.tmp (.fz (.tup xs)),δ)
 |_=>none
@[simp] theorem Zkz{i:Г}{δ:Yf}{p:Б am}{xss:А (А D)}{xs:А D}(hi:δ[i]? =some (some (.oL p (xs::xss)))):Pp i δ=some (.tmp (.fz (.tup xs)),δ):=by unfold Pp;rw[hi]
noncomputable abbrev Zxp(K:af):А V->Hp->VK->Prop:=fun xs H Q=>∃p ys,xs=[V.ref p]/\((Ws K H p ys/\∀l,H l=none->Q (.ref l) (Z5 H l (.tup ys)))\/(Uh K H p ys/\Q (.ref p) H))
ПZxq(j i:Г):FS:=fun δ=>match δ[i]? with
 |some (some (.oL p xss))=>(xss[xss.length- 1]?).bind fun xs=>if i≠j/\j<δ.length then some (.nx ((δ.set i (some (.oL p xss.dropLast))).set j (some (.ol xs))))else none
 |_=>none
ПEx(H:Hp)(ns:Zq):Hp:=fun b=>if b∈Cp ns then none else H b
ПspM(K:af)(g:am->А (А D)->Б (А (А D))):Sp:=fun vs H Q _=>∃F a xss ws ns yss,vs=[V.ref a]/\Zf F H/\Kids K F xss ws ns/\(Cp ((a,HO.lst ws)::ns)).Nodup/\(∀p∈(a,HO.lst ws)::ns,F p.1=none/\H p.1=some p.2)/\g a xss=some yss/\
 ∀H' F' ws' ns',Zf (Ex H ((a,.lst ws)::ns)) H'->Zf F F'->Zf F' H'->(∀(b:am) (o:HO),F' b=some o->F b=some o\/Ex H ((a,.lst ws)::ns) b=none)->Kids K F' yss ws' ns'->(Cp ((a,HO.lst ws')::ns')).Nodup->
  (∀p∈(a,HO.lst ws')::ns',F' p.1=none/\Ex H ((a,.lst ws)::ns) p.1=none/\H' p.1=some p.2)->Q .non H'
РZeo(n:Г)(a:am)(xss:А (А D)):Yf:=some (.oL (some a) xss)::List.replicate (n- 1) none
РZk0(a:am)(o:Б (Б SV)):Б (А (А D)):=match o with
 |some (some (.oL (some b) yss))=>if b=a then some yss else none
 |_=>none
РZ0e(f:FS)(n:Г)(a:am)(xss:А (А D)):Б (А (А D)):=match f (Zeo n a xss)with
 |some (.nx δ)=>Zk0 a δ[0]?
 |_=>none
open Classical in
ПZ0f(i:Г)(g:am->А (А D)->Б (А (А D))):FS:=fun δ=>match δ[i]? with
 |some (some (.oL p xss))=>if h:∃o,∀a,g a xss=some o then some (.nx (δ.set i (some (.oL p h.choose))))else none
 |_=>none
end
end DL
namespace DL
open PySem PySem.Spec PyProof.Rows L2
end DL
namespace L2
open PySem PySem.Spec PyProof.Rows
section
variable{X:Cx}
noncomputable abbrev Zxr:А V->Hp->VK->Prop:=fun xs H Q=>∃(x:Str) (n:Int),xs=[V.str x]/\PySem.intText? x=some n/\x.length<=640/\Q (.int n) H
end
end L2
namespace DL
open PySem PySem.Spec PyProof.Rows L2
variable{K:af}
ПZxs:А D->Б SV
 | [.str x]=>if x.length<=640 then(PySem.intText? x).bind fun n=>some (.fz (.int n))else none
 |_=>none
end DL
namespace L2
open PySem PySem.Spec PyProof.Rows
section
variable{X:Cx}
ПZxt(K:af):V->А V->Hp->VK->Prop:=fun x vs H Q=>∃l b xs zs,x= .ref l/\vs=[.ref b]/\H l=some (.lst xs)/\Uh K H b zs/\xs.length+zs.length<=sizeLine/\Q .non (Z5 H l (.lst (xs++zs)))
ОPq:∀{xs:А V} {its:А ah},xs.length=its.length->(∀(j:Г) (x:V) (v:ah),xs[j]? =some x->its[j]? =some v->Zp x v)->Zw xs its
 | [],[],_,_=>.nil
 |x::xs,v::its,h,g=>.cons (g 0 x v rfl rfl) (Pq (by simpa using h) fun j x v a b=>g (j+1) x v (by simpa using a) (by simpa using b))
 | [],_::_,h,_=>nomatch h
 |_::_,[],h,_=>nomatch h
ПZep:А V->Hp->VK->Prop:=fun xs H Q=>∃p kvs,xs=[.ref p]/\RdK H p kvs/\∀l,H l=none->Q (.ref l) (Z5 H l (.lst (kvs.map fun kv=>kV kv.1)))
ОAg(hc:X.calm=true):Qd X (.type "list") Zep:=by
 intro pins s σ H xs us Q I r h
 O⟨p,kvs,rfl,⟨ep,e⟩,q⟩:=h
 O⟨u,rfl,rx⟩:=Jp r
 C rx
 O⟨z,hd,vs,rel,dd⟩:=(show Z9 X.prog X.w H s.heap p (.dK kvs ep)from Zcw I.hok e)
 have hl:vs.length=kvs.length:=(gu rel).symm
 R PySem.W.kdl_call (PySem.W.kdl_dict (knd:=Zj X.prog X.w) (kvs:=vs) (ep:=ep) hd) (I.ok.hd hc) dd (by rw[hl];E z) fun h' tk acc' c' hk hD hacc=>?_
 have hv:Zw (kvs.map fun kv=>kV kv.1) acc'.toList:=by
  R Pq ((ao _).trans (hl.symm.trans (hacc.1.symm.trans (aw).symm))) fun j x v hx hv=>?_
  O⟨k,y,e1,e2⟩:=hacc.2 j v (by rw[<-b5];E hv)
  rw[bf]at hx
  O⟨kv,e3,e4⟩:=cm.mp hx
  O⟨q',e5,e6,_⟩:=Jl rel e3
  rw[e5]at e1
  C e1
  rw[<-e4,e6]
  E Hy e2
 E⟨.ref s.heap.objs.size,_,I.laid (t':=tk) hk (a7 _) (show Z9 X.prog X.w _ h' _ (.lst (kvs.map fun kv=>kV kv.1))from⟨by rw[ao];E z,acc'.toList,c',hv,by simpa using hD⟩),rfl,q _ (I.hok.fresh (a7 _))⟩
end
end L2
namespace DL
open PySem PySem.Spec PyProof.Rows L2
variable{K:af}
ПPr:А D->Б SV
 | [.dK ks _]=>some (.ol (ks.map R4))
 |_=>none
@[simp] theorem Zrc(ks:А Key)(vs:А D):Pr [.dK ks vs]=some (.ol (ks.map R4)):=rfl
section
variable{Z:Ent K}{H:Hp}{σ:L2.St}{Q:VK}{E:Yz}
ОZnb:Ju Z Zep Pr:=by
 intro F H σ δ own vs ds sv Q s r e k
 unfold Pr at e
 split at e
 ·C e
  cases r with
  |cons h t=>
   C t
   O⟨a,kvs,rfl,ha,ek,rr⟩:=h.dK s.le
   R⟨a,kvs,rfl,ha.rd,fun l hl=>?_⟩
   rw[<-ek]at k
   have hr:=R5 (K:=K) (F:=F) (kvs.map (·.1))
   have hr:Reps K F ((kvs.map (·.1)).map R4) (kvs.map fun kv=>kV kv.1):=by rw[bx (g:=kV)]at hr;E hr
   E k.one s (.ol hr) hl
 ·C e
РSV.tup?:RV->Б (А D)
 | .tmp (.fz (.tup ys))=>some ys
 |_=>none
РZxu(i:Г)(fe:FE):FS:=fun δ=>match δ[i]? with
 |some (some (.ol _))=>(fe δ).bind fun p=>(SV.tup? p.1).bind fun ys=>match p.2[i]? with
  |some (some (.ol xs))=>if xs.length+ys.length<=a8 then some (.nx (p.2.set i (some (.ol (xs++ys)))))else none
  |_=>none
 |_=>none
end
section
variable{X:Cx}{Z:Ent X.K}{a b c:ci}{fa fb fc:FE}{pos:Pos}
ОZnc{p:Pos}(hc:X.calm=true)(hm:X.mg "list"=none)(ha:PE X a (Zc Z fa))(hg:Gl X "list":=by rfl)(he:ay [a] X.env=(false,f9 a X.env)::ay [] X.env:=by rfl)(hpl:(f7 pos (ay [] X.env)).any (·.1)=false:=by rfl):PE X (.Call (.Name "list" p) [a] [] pos) (Zc Z (Yl Pr (Zd fa Zn))):=
 Gv (Ag hc) Znb hm boot_list (Zo ha Ym he) hg Й Й he hpl
end
end DL
namespace DL
open PySem PySem.Spec PyProof.Rows L2
section
variable{K:af}{Z:Ent K}{H:Hp}{σ:L2.St}{Q:VK}
РbmX(T:String)(g:А D->Б SV)(fo:FE)(fa:FAX):FX:=fun δ=>(fo δ).bind fun p=>(Kx p.1 p.2).bind fun d0=>if Zdo T d0=true then(fa p.2).bind fun
 | .x e δ2=>some (.x e δ2)
 | .v rvs δ2=>(Uk (p.1::rvs) δ2).bind fun ds=>(g ds).bind fun sv=>some (.v (.tmp sv) δ2)else none
end
end DL
namespace DL
open PySem PySem.Spec PyProof.Rows L2
section
variable{K:af}{Z:Ent K}{H:Hp}{σ:L2.St}{Q:VK}{E:Yz}
inductive MR where
 |v (yss:А (А D))|x (e:Exn)
ПZ0g(K:af)(g:am->А (А D)->Б MR):Sp:=fun vs H Q E=>∃F a xss ws ns r,vs=[V.ref a]/\Zf F H/\Kids K F xss ws ns/\(Cp ((a,HO.lst ws)::ns)).Nodup/\(∀p∈(a,HO.lst ws)::ns,F p.1=none/\H p.1=some p.2)/\g a xss=some r/\match r with
 | .v yss=>∀H' F' ws' ns',Zf (Ex H ((a,.lst ws)::ns)) H'->Zf F F'->Zf F' H'->(∀(b:am) (o:HO),F' b=some o->F b=some o\/Ex H ((a,.lst ws)::ns) b=none)->Kids K F' yss ws' ns'->(Cp ((a,HO.lst ws')::ns')).Nodup->
   (∀p∈(a,HO.lst ws')::ns',F' p.1=none/\Ex H ((a,.lst ws)::ns) p.1=none/\H' p.1=some p.2)->Q .non H'
 | .x e=>∀cls od H' F',Zf (Ex H ((a,.lst ws)::ns)) H'->Zf F F'->Zf F' H'->(∀(b:am) (o:HO),F' b=some o->F b=some o\/Ex H ((a,.lst ws)::ns) b=none)->Kw K F' e cls od->E cls od H'
РZxv(f:FS)(n:Г)(a:am)(xss:А (А D)):Б MR:=match f (Zeo n a xss)with
 |some (.nx δ)=>(Zk0 a δ[0]?).map .v
 |some (.ex e _)=>some (.x e)
 |_=>none
open Classical in
ПZxw(i:Г)(g:am->А (А D)->Б MR):FS:=fun δ=>match δ[i]? with
 |some (some (.oL p xss))=>if h:∃o,∀a,g a xss=some o then(match h.choose with
  | .v yss=>some (.nx (δ.set i (some (.oL p yss))))
  | .x e=>some (.ex e (δ.set i none)))else none
 |_=>none
ПZrd(i:Г)(fx:FX):FS:=fun δ=>match δ[i]? with
 |some (some (.oL _ xss0))=>if xss0.length=0 then none else(fx δ).bind fun
  | .x e δ1=>some (.ex e δ1)
  | .v rv δ1=>(frz rv δ1).bind fun r=>match r.2[i]? with
   |some (some (.oL p xss))=>(xss[xss.length- 1]?).bind fun xs=>if xs.length<a8 then some (.nx (r.2.set i (some (.oL p (xss.set (xss.length- 1) (xs++[r.1]))))))else none
   |_=>none
 |_=>none
end
end DL
namespace L2
open PySem PySem.Spec PyProof.Rows
end L2
namespace L2
open PySem PySem.Spec PyProof.Rows
section
variable{X:Cx}
ПZxx(K:af):R2:=fun x y H Q=>∃a k xs,x= .ref a/\y= .int k/\Uh K H a xs/\xs≠[]/\2<=k/\k<=1000/\xs.length<=1000/\∀p,H p=none->Q (.ref p) (Z5 H p (.tup (List.replicate k.toNat xs).flatten))
end
end L2
namespace DL
open PySem PySem.Spec PyProof.Rows L2
variable{K:af}
section
variable{Z:Ent K}
ПZxy:D->D->Б SV
 | .tup xs,.int k=>if xs.isEmpty=false/\2<=k/\k<=1000/\xs.length<=1000 then some (.fz (.tup (List.replicate k.toNat xs).flatten))else none
 |_,_=>none
end
end DL
namespace L2
open PySem PySem.Spec PyProof.Rows
section
variable{X:Cx}
ПZtj:V->А V->Hp->VK->Prop:=fun x xs H Q=>∃a b k,x= .str a/\xs=[.str b,.int k]/\(b.length==0)=false/\0<=k/\k<=1000/\a.length<=sizeLine/\(Txt.splitMax a b k).length<=sizeLine/\∀p,H p=none->Q (.ref p) (Z5 H p (.lst ((Txt.splitMax a b k).map V.str)))
end
end L2
namespace DL
open PySem PySem.Spec PyProof.Rows L2
variable{K:af}
section
variable{Z:Ent K}
РZtk:А D->Б SV
 | [.str a,.str b,.int k]=>if(b.length==0)=false/\0<=k/\k<=1000/\a.length<=a8/\(Txt.splitMax a b k).length<=a8 then some (.ol ((Txt.splitMax a b k).map D.str))else none
 |_=>none
end
end DL
namespace L2
open PySem PySem.Spec PyProof.Rows
section
variable{X:Cx}
ПZvv(K:af)(a:am):It:=
 ⟨fun i H=>∃xs x,Ws K H a xs/\xs[i]? =some x,fun i H x H'=>∃p v,x= .ref p/\H p=none/\H'=Z5 H p (.tup [.int ((i+1:Г):Int),v])/\∀xs,Ws K H a xs->xs[i]? =some v,fun i H=>∃xs,Ws K H a xs/\xs.length<=i⟩
ПZvw(K:af)(ta:TA):TI:=fun σ H R=>ta σ H fun vs H1=>∃a xs,vs=[.ref a]/\Ws K H1 a xs/\R (Zvv K a) H1
end
end L2
namespace DL
open PySem PySem.Spec PyProof.Rows L2
variable{K:af}
ПZnd(xs:А D):А D:=(xs.zipIdx 1).map fun p=>.tup [.int (p.2:Г),p.1]
section
variable{Z:Ent K}{H:Hp}{σ:L2.St}{Q:VK}
РZvx(fd:FD):FD:=fun δ=>(fd δ).bind fun p=>match p.1 with
 | [.lst xs]=>some (Znd xs,p.2)
 |_=>none
end
end DL
namespace DL
open PySem PySem.Spec PyProof.Rows L2
variable{K:af}
section
variable{Z:Ent K}
РZxz:А D->Б SV
 | [.lst xs]=>some (.fz (.int (xs.length:Г)))
 | [.tup xs]=>some (.fz (.int (xs.length:Г)))
 | [.str x]=>if x.length<=a8 then some (.fz (.int (x.length:Г)))else none
 | [.dK ks _]=>some (.fz (.int (ks.length:Г)))
 |_=>none
end
end DL
namespace DL
open PySem PySem.Spec PyProof.Rows L2
variable{K:af}
section
variable{Z:Ent K}{H:Hp}{σ:L2.St}{Q:VK}{E:Yz}
noncomputable abbrev UR:=D×А Key×А D
noncomputable abbrev UG:=am->А D->А Key->А D->Б UR
ПspU(K:af)(n:Г)(g:UG):Sp:=fun vs H Q _=>∃F a us ds kvs ep es r,vs=us++[V.ref a]/\Zf F H/\Reps K F ds us/\ds.length=n/\Reps K F es (kvs.map (·.2))/\F a=none/\H a=some (.dK kvs ep)/\g a ds (kvs.map (·.1)) es=some r/\
 ∀v H' F' kvs' ep',Zf (Ex H [(a,.dK kvs ep)]) H'->Zf F F'->Zf F' H'->(∀(b:am) (o:HO),F' b=some o->F b=some o\/Ex H [(a,.dK kvs ep)] b=none)->Rep K F' r.1 v->kvs'.map (·.1)=r.2.1->Reps K F' r.2.2 (kvs'.map (·.2))->F' a=none->H' a=some (.dK kvs' ep')->Q v H'
РZre:А FS->Yf->Б Yf
 | [],δ=>some δ
 |f::r,δ=>match f δ with
  |some (.nx δ1)=>Zre r δ1
  |_=>none
ПZrf(Z:Ent K):А FS->TS->TS
 | [],t=>t
 |f::r,t=>Th (Z1 Z f) (Zrf Z r t)
РZne(n:Г)(a:am)(ds:А D)(ks:А Key)(es:А D):Yf:=ds.map (fun d=>some (.fz d))++some (.oQ a ks es)::List.replicate (n- ds.length- 1) none
РZrg(a:am)(d:D):Б (Б SV)->Б UR
 |some (some (.oQ b ks es))=>if b=a then some (d,ks,es)else none
 |_=>none
РZ0h(fs:А FS)(fe:FE)(n:Г):UG:=fun a ds ks es=>(Zre fs (Zne n a ds ks es)).bind fun δ=>(fe δ).bind fun p=>(frz p.1 p.2).bind fun q=>Zrg a q.1 (q.2[ds.length]?)
ПZx0(Z:Ent K)(f:FE):TE:=fun σ H Q=>∃F δ own rv δ',SR Z F H σ δ own/\f δ=some (rv,δ')/\
 ∀v H' F' own',Zf F F'->SR Z F' H' σ δ' own'->RVS K F' σ rv v->Q v H'
ПZvy(Z:Ent K)(i:Г)(fd:FD):TA:=fun σ H R=>Wi Z fd σ H fun vs H1=>∃x,σ[i]? =some (some x)/\R (vs++[x]) H1
open Classical in
ПZvz(i n:Г)(g:UG)(fd:FD):FE:=fun δ=>(fd δ).bind fun p=>if p.1.length=n then match p.2[i]? with
 |some (some (.oK ks es))=>if h:∃r,∀a,g a p.1 ks es=some r then some (.tmp (.fz h.choose.1),p.2.set i (some (.oK h.choose.2.1 h.choose.2.2)))else none
 |_=>none else none
РZx1(g:D->D->Б SV)(fa fb:FE):FE:=fun δ=>(fa δ).bind fun p=>(frz p.1 p.2).bind fun q=>(fb q.2).bind fun r=>(Kx r.1 r.2).bind fun d2=>(g q.1 d2).bind fun sv=>if sv.scal then some (.tmp sv,r.2)else none
РZx2(i:Г)(fe:FE):FS:=fun δ=>match δ[i]? with
 |some (some (.ol _))=>(fe δ).bind fun p=>(frz p.1 p.2).bind fun q=>match q.2[i]? with
  |some (some (.ol xs))=>if xs.length<a8 then some (.nx (q.2.set i (some (.ol (xs++[q.1])))))else none
  |_=>none
 |_=>none
end
end DL
namespace DL
open PySem PySem.Spec PyProof.Rows L2
variable{K:af}
ПSkD(ks:А Key)(m:Г)(d:D):Prop:=∃vs,d= .dK ks vs/\ks.length=vs.length/\∀v∈vs,∃(x:Str) (ks2:А Key) (ys:А Str),v= .tup [.str x,.dK ks2 (ys.map D.str)]/\ys.length<=m
ПZ0i(W:am->В)(H:Hp)(ks:А Key)(m:Г)(v:V):Prop:=∃a kvs ep,v= .ref a/\W a/\H a=some (.dK kvs ep)/\kvs.map (·.1)=ks/\∀p∈kvs,∃t x b kvs2 ep2,p.2= .ref t/\W t/\H t=some (.tup [.str x,.ref b])/\W b/\H b=some (.dK kvs2 ep2)/\kvs2.length<=m/\∀q∈kvs2,∃y,q.2= .str y
ПJd(Z:Ent K)(F:Hp)(own:Г->Zq)(W:am->В):Prop:=∀b,W b->F b=none/\Z.h b=none/\∀i p,p∈own i->p.1≠b
section
variable{Z:Ent K}{F H:Hp}{σ:L2.St}{δ:Yf}{own:Г->Zq}{W:am->В}
ОSR.updW{b:am}{o:HO}(s:SR Z F H σ δ own)(ap:Jd Z F own W)(hb:W b):SR Z F (Z5 H b o) σ δ own:=by
 O⟨f0,z0,o0⟩:=ap b hb
 R⟨fun c u e=>?_,s.fro,fun c u e=>?_,s.len,s.at',s.nod,fun i p hp=>?_,s.sep⟩
 ·rw[Zm fun z=>by rw[z,f0]at e;cases e];E s.le c u e
 ·rw[Zm fun z=>by rw[z,z0]at e;cases e];E s.old c u e
 ·O⟨x,y,w⟩:=s.ok i p hp
  E⟨x,y,by rw[Zm (o0 i p hp)];E w⟩
open Classical in
ПwH(W:am->В)(H F:Hp):Hp:=fun b=>if W b then H b else F b
ОZin(le:Zf F H):Zf F (wH W H F):=fun b o e=>by
 unfold wH
 split
 ·E le b o e
 ·E e
ОDb(le:Zf F H):Zf (wH W H F) H:=fun b o e=>by
 unfold wH at e
 split at e
 ·E e
 ·E le b o e
ОG9{b:am}(h:W b):wH W H F b=H b:=Е h
ОC6{b:am}(h:¬W b):wH W H F b=F b:=Д h
ОSR.seeW(s:SR Z F H σ δ own)(ap:Jd Z F own W):SR Z (wH W H F) H σ δ own:=by
 R⟨Db s.le,fun b o e=>?_,s.old,s.len,fun i sv e=>?_,s.nod,fun i p hp=>?_,s.sep⟩
 ·by_cases hb:W b
  ·E .inr (ap b hb).2.1
  ·rw[C6 hb]at e;E s.fro b o e
 ·O⟨v,h1,h2⟩:=s.at' i sv e
  E⟨v,h1,h2.mono (Zin s.le)⟩
 ·O⟨x,y,w⟩:=s.ok i p hp
  R⟨?_,y,w⟩
  rw[C6 fun z=>(ap _ z).2.2 i p hp rfl]
  E x
ОSR.blank(i:Г)(o:Б V)(s:SR Z F H σ δ own):SR Z F H (σ.set i o) (δ.set i none) (put own i []):=by
 have d:=s.drop i
 R⟨d.le,d.fro,d.old,by rw[List.length_set];E d.len,fun j sv e=>?_,d.nod,d.ok,d.sep⟩
 by_cases hj:j=i
 ·subst hj
  rw[List.getElem?_set,Е rfl]at e
  split at e<;> C e
 ·rw[d6 (Ne.symm hj)]
  E d.at' j sv e
ОJd.drop{i:Г}(ap:Jd Z F own W):Jd Z F (put own i []) W:=fun b hb=>by
 O⟨x,y,z⟩:=ap b hb
 R⟨x,y,fun j p hp=>?_⟩
 by_cases hj:j=i
 ·subst hj;rw[Z4]at hp;E nomatch hp
 ·rw[Yb hj]at hp;E z j p hp
ПZ0j(Z:Ent K)(W:am->В)(H F:Hp):Ent K:=⟨wH W H Z.h,F,Z.x⟩
ОSR.look{i:Г}{d:D}{v:V}(s:SR Z F H σ δ own)(ap:Jd Z F own W)(hv:σ[i]? =some (some v))(r:Rep K (wH W H F) d v):SR Z (wH W H F) H σ (δ.set i (some (.fz d))) (put own i []):=by
 have t:=(s.drop i).seeW (W:=W) ap.drop
 have hi:i<σ.length:=(ax.mp hv).1
 have q:=t.store (i:=i) (TmpOk.fz r) hi
 have e1:σ.set i (some v)=σ:=by
  apply List.ext_getElem?
  intro j
  by_cases hj:i=j
  ·subst hj;rw[d5 hi,hv]
  ·rw[d6 hj]
 rw[e1,List.set_set]at q
 have e2:put (put own i []) i []=put own i []:=by
  funext j
  unfold put
  split<;> rfl
 rw[e2]at q
 E q
end
section
variable{Z:Ent K}{H:Hp}{σ:L2.St}{Q:VK}{E:Yz}
ПZrh(i j n:Г)(ds:А D)(δ1:Yf)(sv:SV)(T1 T2:FT)(is:А D)(δ3:Yf):Prop:=
 ds.length=n/\(∀d∈ds,SV.scal (.fz d)=true)/\i≠j/\i<δ1.length/\j<δ1.length/\∃(ks:А Key) (m:Г) (ks':А Key),SkD ks m sv.toD/\(∃δ2,T1 (δ1.set i (some (.fz sv.toD)))=some (false,δ2))/\is=ks'.map R4/\(∀k∈ks',k∈ks)/\m+ks'.length<a8/\
  ∀k∈ks',∀m' d,SkD ks m' d->∃δ4,T2 ((δ3.set i (some (.fz d))).set j (some (.fz (R4 k))))=some (false,δ4)
open Classical in
ПZx4(i j n:Г)(g:А D->Б SV)(fd:FD)(T1:FT)(fi:FE)(T2:FT):FS:=fun δ=>(fd δ).bind fun p=>(g p.1).bind fun sv=>(Zbc fi (p.2.set i none)).bind fun q=>
 if Zrh i j n p.1 p.2 sv T1 T2 q.1 q.2 then some (.nx ((q.2.set i none).set j none))else none
noncomputable abbrev Z0k(i j:Г)(K:af):TE:=tOp (rIx K) (Zj1 (Q8 i) (Q8 j)) (tC (.int 1))
ПZ0l(K:af)(fi:FE):TI:=fun σ H R=>∃Z':Ent K,W5 Z' (Zbc fi) σ H R
end
section
variable{X:Cx}{Z:Ent X.K}{a b c:ci}{fa fb fc:FE}{pos:Pos}
ОZnf(i:Г){k n:Г}{f:am}{fd:cx}{ps:А Str}{g:А D->Б SV}{x y:Str}{p p1 p2:Pos}{es:А ci}{fr:FD}(F:FnOk X.prog X.w X.K X.mg X.base Oc k f fd ps (Y5 X.K n g))(hr:Room k X.A)(hm:X.mg x=some (.ref f))(hk:bq X.K (.ref f)=true)(hb:Ww X.K fd ps [])
  (hN:X.N.Nodup) (ha:PA X (a::es) (Wi Z fr)) (hg:Gl X x:=by rfl) (hdb:(x==("__debug__":Str))=false:=by decide) (he:ay (a::es) X.env=(false,f9 a X.env)::ay es X.env:=by rfl) (hpl:(f7 p2 (ay es X.env)).any (·.1)=false:=by rfl)
  (hi:X.N[i]? =some y:=by rfl) (hx:Loc X.env.scope y:=by first|E Or.inl rfl|E gg rfl) (hs:swapsWith (.Call (.Name x p) (a::es) [] p2) (some (.Name y p1)) pos.line X.env=pure false:=by rfl) (hf:X.fn y=true\/X.env.scope.names.lookup y=some .local:=by first|E .inl rfl|E .inr rfl):
  PS X (.Assign [.Name y p1] (.Call (.Name x p) (a::es) [] p2) pos) (Kf (Nn (Y5 X.K n g) [] (fun _ _ _=>False) (Wi Z fr)) (Ui i)):=
 Sy hN hi hx (X9 F hr hg hm hk hb .nil Zj3 ha hdb he hpl) hs hf
ОZri{T:FT}{bd:А Stmt}{f:FS}(hc:PT X c (Yg Z T))(hb:Gp X bd (Z1 Z f)):PS X (.If c bd [] pos) (Sx (Yg Z T) (Z1 Z f) Tg):=Zjt hc hb Xz
end
end DL
namespace SX
open PySem
ПC7(l:А Г):Prop:=l.Pairwise (· < ·)
ПAt(xs:Array Г)(j p:Г):Prop:=p<=xs.size/\(∀i y,i<p->xs[i]? =some y->y<j)/\∀i y,p<=i->xs[i]? =some y->j<=y
ОOm{xs:Array Г}(h:C7 xs.toList){i k y z:Г}(hi:xs[i]? =some y)(hk:xs[k]? =some z)(hik:i<k):y<z:=by
 rw[<-b5]at hi hk
 O⟨a,ha⟩:=ax.mp hi
 O⟨b,hb⟩:=ax.mp hk
 have:=List.pairwise_iff_getElem.mp h i k a b hik
 rw[ha,hb]at this
 E this
ОZeq{xs:Array Г}{j:Г}(h:C7 xs.toList):∀(fuel lo hi:Г),hi<=lo+fuel->lo<=hi->hi<=xs.size->(∀i y,i<lo->xs[i]? =some y->y<j)->(∀i y,hi<=i->xs[i]? =some y->j<=y)->At xs j (SetTable.below.go xs j fuel lo hi)
 |0,lo,hi,h1,h2,h3,a,b=>by
  have:lo=hi:=by W
  subst this
  unfold SetTable.below.go
  E⟨h3,a,b⟩
 |fuel+1,lo,hi,h1,h2,h3,a,b=>by
  unfold SetTable.below.go
  by_cases hl:lo<hi
  ·rw[Е hl]
   dsimp only
   have hm:(lo+hi) / 2<xs.size:=by W
   have hg:xs.getD ((lo+hi) / 2) j=xs[(lo+hi) / 2]:=by simp[Array.getD,hm]
   have he:xs[(lo+hi) / 2]? =some xs[(lo+hi) / 2]:=by simp[hm]
   by_cases hc:xs.getD ((lo+hi) / 2) j<j
   ·rw[Е hc]
    R Zeq h fuel _ hi И И h3 (fun i y hi' e=>?_) b
    by_cases hq:i=(lo+hi) / 2
    ·subst hq;rw[he]at e;C e;rw[<-hg];E hc
    ·have:=Om h e he И
     rw[hg]at hc;W
   ·rw[Д hc]
    R Zeq h fuel lo _ И И И a (fun i y hi' e=>?_)
    by_cases hq:i=(lo+hi) / 2
    ·subst hq;rw[he]at e;C e;rw[<-hg];W
    ·have:=Om h he e И
     rw[hg]at hc;W
  ·rw[Д hl]
   have:lo=hi:=by W
   subst this
   E⟨h3,a,b⟩
ОAh{xs:Array Г}(h:C7 xs.toList)(j:Г):At xs j (SetTable.below xs j):=
 Zeq h xs.size 0 xs.size И (dn _) (a7 _) (fun i _ z=>absurd z И) fun i y z e=>by
  have:=(f8.mp e).1;W
ОDc{xs:Array Г}{j p q:Г}(a:At xs j p)(b:At xs j q):p=q:=by
 rcases Nat.lt_trichotomy p q with h|h|h
 ·have hp:p<xs.size:=by have:=b.1;W
  have e:xs[p]? =some xs[p]:=by simp[hp]
  have:=a.2.2 p _ (a7 _) e
  have:=b.2.1 p _ h e
  W
 ·E h
 ·have hq:q<xs.size:=by have:=a.1;W
  have e:xs[q]? =some xs[q]:=by simp[hq]
  have:=b.2.2 q _ (a7 _) e
  have:=a.2.1 q _ h e
  W
ОZer{xs:Array Г}{j:Г}(h:C7 xs.toList)(hn:xs[SetTable.below xs j]?≠some j):C7 (SetTable.insertAt xs (SetTable.below xs j) j).toList:=by
 have a:=Ah h j
 generalize SetTable.below xs j=p at*
 rw[SetTable.toList_insertAt]
 O⟨a1,a2,a3⟩:=a
 have lo:∀y∈xs.toList.take p,y<j:=fun y hy=>by
  O⟨i,hi,e⟩:=dy hy
  rw[List.getElem_take]at e
  have hi':i<p:=by simp at hi;W
  R a2 i y hi' ?_
  rw[<-b5,ax]
  E⟨_,e⟩
 have hi:∀y∈xs.toList.drop p,j<y:=fun y hy=>by
  O⟨i,hi,e⟩:=dy hy
  rw[List.getElem_drop]at e
  have ep:xs[p+i]? =some y:=by
   rw[<-b5,ax]
   E⟨_,e⟩
  have h1:=a3 (p+i) y И ep
  rcases Nat.lt_or_eq_of_le h1 with z|z
  ·E z
  ·subst z
   cases i with
   |zero=>E absurd ep hn
   |succ i=>
    have hp:p<xs.size:=by have:=(f8.mp ep).1;W
    have e0:xs[p]? =some xs[p]:=by simp[hp]
    have q1:=a3 p _ (a7 _) e0
    have q2:=Om h e0 ep И
    W
 R List.pairwise_append.mpr ⟨h.sublist (List.take_sublist _ _),List.pairwise_cons.mpr ⟨hi,h.sublist (List.drop_sublist _ _)⟩,fun a ha b hb=>?_⟩
 rcases bo.mp hb with z|z
 ·rw[z];E lo a ha
 ·E Nat.lt_trans (lo a ha) (hi b z)
structure Tab(B:Bool)(t:gp):В where
 led:t.led= !B
 dum:t.dummies= #[]
 rise:t.plain=true->C7 t.place.toList
ОDd(j:Г):SetTable.has #[] j=false:=by
 unfold SetTable.has
 simp
end SX
namespace SX
open PySem PyProof.Rows
variable{prog:bu}{w:cj}{A:ck}{E:ah->ak->В}{s:ak}
noncomputable abbrev Zv0(l:А (Int×ah)):А Int:=l.map fun e=>numOf e.2
ПLm(prog:bu)(w:cj)(B:Bool)(o:Obj)(ks:А Int):Prop:=∃es ep t,o.ExactSet/\o.data= .set es ep t/\ElemsOf (intKind prog w) es.toList/\(Zv0 es.toList).Perm ks/\t.fits es.size=true/\Tab B t/\es.size<scanBound
end SX
namespace SX
open PySem PySem.Spec PyProof.Rows
Пdd(val:Г->Int):Г->А Int
 |0=>[]
 |i+1=>if val i∈dd val i then dd val i else dd val i++[val i]
noncomputable abbrev By(w:cj):Bool:=w.params.followText "set-order"
noncomputable abbrev R6(w:cj):Obj:={cls:=.type "set",dict:=none,data:=.set #[] 0 (.fresh 0 0 (!By w))}
section
variable{prog:bu}{w:cj}{A:ck}{E:ah->ak->В}{s:ak}
ОZio(a:ah){Q:ah->ak->В}(h:Q (.ref s.heap.objs.size) {s with heap:=s.heap.push (R6 w)}):
  codeAny (bp prog w) A (.call (.builtin "set.__new__") ⟨[.type "set",a],[]⟩) (wants Q E) s:=by
 R codeAny_of_tree ?_
 show ba _ A.in1 (checkBuiltinCall "set.__new__" ⟨[.type "set",a],[]⟩>>=fun _=>again (.builtin "set.__new__" ⟨[.type "set",a],[]⟩)) _ _ s
 R ad (wpAny_of_eq (PySem.F.newCall_set_1 a) (ag ⟨plainId_quiet PySem.F.plain_set_new _,gr PySem.F.entry_set_new ?_⟩))
 rw[d7 PySem.F.plain_set_new _]
 have hs:=sub_set_self
 O⟨hp,g,d,tk,os⟩:=s
 unfold Builtin.«set.__new__» Builtin.Frozenset.newClass
 dsimp only
 wp_walk
 R wpAny_askSetting (ag ?_)
 dsimp only
 simp only[newObj]
 E ad (wpAny_alloc (ag (ag h)))
end
end SX
namespace SX
open PySem PySem.Spec PyProof.Rows
ОWl:Slot "set_iterator" "__next__" "set_iterator.__next__":=
 .of (owner:="set_iterator") (n:="__next__") (by rw[typeLookup_type,builtinLookup_eq_fast];kernel_rfl) (by decide+kernel) (by decide+kernel) (by decide+kernel) (by first|E .inl (by decide+kernel)|E .inr (by decide+kernel)) (by rw[isSubtype_type];kernel_rfl)
ОOn:entryFor table "set_iterator.__next__"=some Builtin.«set_iterator.__next__»:=entryFor_of_tree (by kernel_rfl)
ОCb(a:ah):argsOk "set_iterator.__next__" ⟨[a],[]⟩:=by unfold argsOk;kernel_rfl
ОVw:entryFor table "set.__iter__"=some Builtin.«frozenset.__iter__»:=entryFor_alias (id':="frozenset.__iter__") (by kernel_rfl) rfl (by decide+kernel) (by kernel_rfl)
section
variable{prog:bu}{w:cj}{A:ck}{E:ah->ak->В}{s:ak}
ОZes{src:Source}{n:Г}{Q:Г->ak->В}(hn:n≠0)(h:∀i d,i<n->Q i {s with drawn:=d}):ba (bp prog w) A (choose src n) Q E s:=
 fun _ _ _=>⟨hn,h _ _ (Nat.mod_lt _ (Nat.pos_of_ne_zero hn))⟩
ОR7{α:Type}:∀(l:А α) (i:Г) (h:i<l.length),(l[i]::l.eraseIdx i).Perm l
 |x::l,0,_=>List.Perm.refl _
 |x::l,i+1,h=>(List.Perm.swap x _ _).trans ((R7 l i (by simpa using h)).cons x)
ОZet{α:Type}:∀(n:Г) (xs:А α) (s:ak) {Q:А α->ak->В},n=xs.length->(∀ys d,ys.Perm xs->Q ys {s with drawn:=d})->ba (bp prog w) A (drawOrder n xs) Q E s
 |0,[],s,Q,_,h=>by
  unfold drawOrder
  E ag (h [] s.drawn (List.Perm.refl _))
 |n+1,x::xs,s,Q,hn,h=>by
  unfold drawOrder
  R ad (Zes Л fun i d hi=>?_)
  have e:(x::xs)[i]? =some (x::xs)[i]:=az hi
  rw[e]
  dsimp only
  have hl:n=((x::xs).eraseIdx i).length:=by rw[List.length_eraseIdx_of_lt hi];simpa using hn
  R ad (Zet n ((x::xs).eraseIdx i) _ hl fun ys d' hp=>ag (h _ d' ?_))
  E(hp.cons _).trans (R7 _ i hi)
 |0,_::_,_,_,hn,_=>by simp at hn
 |_+1,[],_,_,hn,_=>by simp at hn
end
noncomputable abbrev Su(first:ah)(i:Г)(r:am)(n ep:Г):Obj:={cls:=.type "set_iterator",dict:=none,data:=.fields #[first,.int (i:Int) 0,.ref r,.int (n:Int) 0,.int (ep:Int) 0],slots:= #[]}
noncomputable abbrev R8(ps:А Г):Obj:={cls:=.type "tuple",data:=.seq (ps.map fun i:Г=>rawInt i).toArray}
section
variable{prog:bu}{w:cj}{A:ck}{E:ah->ak->В}{s:ak}{r:am}{o:Obj}{es:Array (Int×ah)}{ep:Г}{t:gp}
ОZip{Q:ah->ak->В}(ho:s.heap.get? r=some o)(hx:o.ExactSet)(hd:o.data= .set es ep t)(hf:t.fits es.size=true)(hb:es.size<scanBound)
  (hN:(!By w&&(!t.plain&&decide (es.size > 1)))=false->Q (.ref s.heap.objs.size) {s with heap:=s.heap.push (Su (.int 0 0) 0 r es.size ep)})
  (hD:(!By w&&(!t.plain&&decide (es.size > 1)))=true->∀ps d,ps.Perm (cr es.size)->Q (.ref (s.heap.objs.size+1)) {s with heap:=(s.heap.push (R8 ps)).push (Su (.ref s.heap.objs.size) 0 r es.size ep),drawn:=d}):
  ba (bp prog w) A (pyIter (.ref r)) Q E s:=by
 have hT:s.TypeIs (.ref r) "set":=⟨o,ho,hx.1⟩
 R wpAny_pyIter_slot hT PySem.F.slot_set_iter (c5 PySem.F.slot_set_iter hT Vw ?_ (PySem.F.args_set_iter_1 _))
 unfold Builtin.«frozenset.__iter__»
 R ad (m:=Builtin.Frozenset.slot0 "__iter__" ⟨[.ref r],[]⟩) (Q:=_) (ag ?_)
 R ad (m:=Builtin.Frozenset.sizeOf r) ?_
 unfold Builtin.Frozenset.sizeOf
 R ad (wpAny_setEntries_of ho hd hf (ag ?_))
 R ad ?_
 unfold setDrawn
 R ad (wpAny_setState_of ho hd hf ?_)
 unfold setsByText
 R ad (ad (wpAny_askSetting (ag ?_)))
 R ag ?_
 show ba _ _ (if(!By w&&(!t.plain&&decide (es.size > 1)))=true then _ else _) _ _ _
 cases hc:(!By w&&(!t.plain&&decide (es.size > 1)))with
 |false=>
  rw[Д Л]
  R ad (ag ?_)
  R ad (wpAny_setEpoch_of ho hd hf ?_)
  R ad (m:=newFields _ _) (dv (ag ⟨_,rfl,"set_iterator",_,⟨_,a9 _ rfl,rfl⟩,Wl.lookup,hN hc⟩))
 |true=>
  rw[Е rfl]
  have hl:(cr es.size).length=es.size:=List.length_range
  R ad ?_
  R Zet _ (cr es.size) _ hl.symm fun ps d hp=>?_
  have pl:ps.length=es.size:=hp.length_eq.trans hl
  R ad (wpAny_newTuple ?_ (by rw[ao,pl];E fits_of_scanBound hb))
  have ho2:(s.heap.push (R8 ps)).get? r=some o:=aq _ ho
  R ad (wpAny_setEpoch_of (s:={s with heap:=s.heap.push (R8 ps),drawn:=d}) ho2 hd hf ?_)
  have sz:(s.heap.push (R8 ps)).objs.size=s.heap.objs.size+1:=Heap.size_push _ _
  R ad (m:=newFields _ _) (dv (ag ⟨_,rfl,"set_iterator",_,⟨_,a9 _ rfl,rfl⟩,Wl.lookup,?_⟩))
  have z:=hD hc ps d hp
  rw[<-sz]at z
  E z
end
end SX
namespace SX
open PySem PySem.Spec PyProof.Rows
section
variable{prog:bu}{w:cj}{A:ck}{E:ah->ak->В}{s:ak}{I r:am}{o:Obj}{es:Array (Int×ah)}{ep:Г}{t:gp}{slot i nx:Г}{x:ah}{Q:Б ah->ak->В}
noncomputable abbrev Ln(prog:bu)(w:cj)(A:ck)(s:ak)(r:am)(slot i ep:Г)(y:Б (ah×Г)):Prop:=∀(R:Б (ah×Г)->ak->В) (E':ah->ak->В),R y s->ba (bp prog w) A (setNext r slot i ep) R E' s
ОZk1(hI:s.heap.get? I=some (Su (.int (slot:Int) 0) i r es.size ep))(ho:s.heap.get? r=some o)(hd:o.data= .set es ep t)(hf:t.fits es.size=true)(hn:Ln prog w A.in1 s r slot i ep (some (x,nx)))
  (hQ:∀h',h'.get? I=some (Su (.int (nx:Int) 0) (i+1) r es.size ep)->g8 I s.heap h'->Q (some x) {s with heap:=h'}):ba (bp prog w) A (pyNext (.ref I)) Q E s:=by
 have hT:s.TypeIs (.ref I) "set_iterator":=⟨_,hI,rfl⟩
 unfold pyNext
 R ad (wpAny_attempt (f6 (name:=b9 "__next__") hT Wl (c5 Wl hT On ?_ (Cb _))))
 unfold Builtin.«set_iterator.__next__»
 R ad (m:=slotArgs "__next__" 0 ⟨[.ref I],[]⟩) (ag ?_)
 R ad (wpAny_fieldsOf hI rfl ?_)
 dsimp only
 R ad (wpAny_setEntries_of ho hd hf ?_)
 rw[Д Л]
 simp only[Int.toNat_natCast]
 R ad (hn _ _ ?_)
 dsimp only
 R ad (wpAny_setField_rec hI Л fun h1 g1 b1=>?_)
 R ad (wpAny_setField_rec (s:={s with heap:=h1}) g1 Л fun h2 g2 b2=>?_)
 R ag ⟨_,rfl,ag (hQ h2 ?_ (b1.trans b2))⟩
 rw[g2]
 rfl
ОZk2(hh:A.handled=none)(hI:s.heap.get? I=some (Su (.int (slot:Int) 0) i r es.size ep))(ho:s.heap.get? r=some o)(hd:o.data= .set es ep t)(hf:t.fits es.size=true)(hn:Ln prog w A.in1 s r slot i ep none)
  (hQ:∀h',Heap.ExtBut I s.heap h'->Q none {s with heap:=h'}):ba (bp prog w) A (pyNext (.ref I)) Q E s:=by
 have hT:s.TypeIs (.ref I) "set_iterator":=⟨_,hI,rfl⟩
 unfold pyNext
 R ad (wpAny_attempt (f6 (name:=b9 "__next__") hT Wl (c5 Wl hT On ?_ (Cb _))))
 unfold Builtin.«set_iterator.__next__»
 R ad (m:=slotArgs "__next__" 0 ⟨[.ref I],[]⟩) (ag ?_)
 R ad (wpAny_fieldsOf hI rfl ?_)
 dsimp only
 R ad (wpAny_setEntries_of ho hd hf ?_)
 rw[Д Л]
 simp only[Int.toNat_natCast]
 R ad (hn _ _ ?_)
 dsimp only
 R ad (wpAny_setField_rec hI Л fun h1 g1 b1=>?_)
 R ad (m:=newExc (.type "StopIteration") []) ?_
 simp only[newExc,newTuple]
 R ad (dv ?_ (by size_fits))
 R ad (m:=firstArgMember _ _) (wpAny_of_eq (a:=cf) (by first|rfl| (simp only[firstArgMember];rfl)) ?_)
 R dv ?_ (by size_fits)
 simp only[raiseNew]
 R ad (wpAny_handled ?_)
 rw[show A.in1.handled=none from hh]
 R ad (ag (wpAny_throw ?_))
 R ad (gk (T:="StopIteration") (b:=true) ⟨_,a9 _ rfl,rfl⟩ isSubtype_stop ?_)
 E ag (hQ _ ((b1.extBut.push _).push _))
ОIy(hB:By w=false)(ho:s.heap.get? r=some o)(hd:o.data= .set es ep t)(hf:t.fits es.size=true)(hl:t.led=true)(hr:(!t.plain&&decide (es.size > 1))=false):
  Ln prog w A s r slot i ep (match es[SetTable.below t.place slot]?,t.place[SetTable.below t.place slot]? with
   |some (_,x),some j=>some (x,j+1)
   |_,_=>none):=by
 intro R E' h
 unfold setNext
 R ad (wpAny_setState_of ho hd hf ?_)
 dsimp only
 unfold setsByText
 R ad (ad (wpAny_askSetting (ag ?_)))
 have e1:(bp prog w).w.params.followText "set-order"=false:=hB
 dsimp only
 rw[Д (by rw[e1];simp)]
 show ba _ _ (if(!t.plain&&decide (es.size > 1))=true then _ else _) _ _ _
 rw[Д (by rw[hr];simp)]
 R ad ?_
 show ba _ _ (if(!t.led&& !es.isEmpty)=true then _ else _) _ _ _
 rw[Д (by rw[hl];simp)]
 E ag (ag h)
ОPs(hB:By w=true)(ho:s.heap.get? r=some o)(hd:o.data= .set es ep t)(hf:t.fits es.size=true):
  Ln prog w A s r slot i ep (((pickOrder (w.params.setOrder r ep) es)[i]?).map fun e=>(e.2,slot)):=by
 intro R E' h
 unfold setNext
 R ad (wpAny_setState_of ho hd hf ?_)
 dsimp only
 unfold setsByText
 R ad (ad (wpAny_askSetting (ag ?_)))
 have e1:(bp prog w).w.params.followText "set-order"=true:=hB
 dsimp only
 rw[Е (by rw[e1])]
 rw[Д Л]
 R ad ?_
 unfold setWalk
 R ad (wpAny_setState_of ho hd hf ?_)
 dsimp only
 unfold setsByText
 R ad (ad (wpAny_askSetting (ag ?_)))
 dsimp only
 rw[Е (by rw[e1])]
 R ad (wpAny_askSetting (ag ?_))
 E ag h
variable{T:am}{ps:А Г}
ОZrj{p:Г}{hx:Int}(hI:s.heap.get? I=some (Su (.ref T) i r es.size ep))(hT0:s.heap.get? T=some (R8 ps))(hp:ps[i]? =some p)(he:es[p]? =some (hx,x))(ho:s.heap.get? r=some o)(hd:o.data= .set es ep t)(hf:t.fits es.size=true)
  (hQ:∀h',h'.get? I=some (Su (.ref T) (i+1) r es.size ep)->g8 I s.heap h'->Q (some x) {s with heap:=h'}):ba (bp prog w) A (pyNext (.ref I)) Q E s:=by
 have hT:s.TypeIs (.ref I) "set_iterator":=⟨_,hI,rfl⟩
 unfold pyNext
 R ad (wpAny_attempt (f6 (name:=b9 "__next__") hT Wl (c5 Wl hT On ?_ (Cb _))))
 unfold Builtin.«set_iterator.__next__»
 R ad (m:=slotArgs "__next__" 0 ⟨[.ref I],[]⟩) (ag ?_)
 R ad (wpAny_fieldsOf hI rfl ?_)
 dsimp only
 R ad (wpAny_setEntries_of ho hd hf ?_)
 rw[Д Л]
 R ad (m:=seqItems? (.ref T)) ?_
 unfold seqItems?
 R ad (wpAny_load hT0 (ag ?_))
 dsimp only
 have e1:(ps.map fun i:Г=>rawInt i).toArray[((i:Г):Int).toNat]? =some (.int (p:Int) 0):=by
  simp[hp,rawInt]
 rw[e1]
 dsimp only
 R ad ?_
 unfold setNextDrawn
 R ad (wpAny_setState_of ho hd hf ?_)
 dsimp only
 rw[Д Л]
 have e2:es[((p:Г):Int).toNat]? =some (hx,x):=by simpa using he
 rw[e2]
 R ag ?_
 R ad (wpAny_setField_rec hI Л fun h1 g1 b1=>?_)
 R ag ⟨_,rfl,ag (hQ h1 ?_ b1)⟩
 rw[g1]
 rfl
ОZrk(hh:A.handled=none)(hI:s.heap.get? I=some (Su (.ref T) i r es.size ep))(hT0:s.heap.get? T=some (R8 ps))(hp:ps[i]? =none)(ho:s.heap.get? r=some o)(hd:o.data= .set es ep t)(hf:t.fits es.size=true)
  (hQ:∀h',Heap.ExtBut I s.heap h'->Q none {s with heap:=h'}):ba (bp prog w) A (pyNext (.ref I)) Q E s:=by
 have hT:s.TypeIs (.ref I) "set_iterator":=⟨_,hI,rfl⟩
 unfold pyNext
 R ad (wpAny_attempt (f6 (name:=b9 "__next__") hT Wl (c5 Wl hT On ?_ (Cb _))))
 unfold Builtin.«set_iterator.__next__»
 R ad (m:=slotArgs "__next__" 0 ⟨[.ref I],[]⟩) (ag ?_)
 R ad (wpAny_fieldsOf hI rfl ?_)
 dsimp only
 R ad (wpAny_setEntries_of ho hd hf ?_)
 rw[Д Л]
 R ad (m:=seqItems? (.ref T)) ?_
 unfold seqItems?
 R ad (wpAny_load hT0 (ag ?_))
 dsimp only
 have e1:(ps.map fun i:Г=>rawInt i).toArray[((i:Г):Int).toNat]? =none:=by
  simp only[Int.toNat_natCast,List.getElem?_toArray,bf,hp,Option.map_none]
 rw[e1]
 dsimp only
 R ad (wpAny_setField_rec hI Л fun h1 g1 b1=>?_)
 R ad (wpAny_setField_rec (s:={s with heap:=h1}) g1 Л fun h2 g2 b2=>?_)
 R ad (m:=newExc (.type "StopIteration") []) ?_
 simp only[newExc,newTuple]
 R ad (dv ?_ (by size_fits))
 R ad (m:=firstArgMember _ _) (wpAny_of_eq (a:=cf) (by first|rfl| (simp only[firstArgMember];rfl)) ?_)
 R dv ?_ (by size_fits)
 simp only[raiseNew]
 R ad (wpAny_handled ?_)
 rw[show A.in1.handled=none from hh]
 R ad (ag (wpAny_throw ?_))
 R ad (gk (T:="StopIteration") (b:=true) ⟨_,a9 _ rfl,rfl⟩ isSubtype_stop ?_)
 E ag (hQ _ (((b1.trans b2).extBut.push _).push _))
end
end SX
namespace SX
open PySem PySem.Spec PyProof.Rows
noncomputable abbrev Ey(acc:Array ah)(c:Г):Obj:={cls:=.type "list",dict:=none,data:=.seq acc c,slots:= #[]}
structure Tells(prog:bu)(w:cj)(A:ck)(I:am)(fp:А am)(ord:А ah)(St:Г->dr->В):В where
 mem:I∈fp
 keep:∀i h h',St i h->(∀b∈fp,∀o,h.get? b=some o->h'.get? b=some o)->St i h'
 step:∀i (s:ak) x (Q:Б ah->ak->В) (E:ah->ak->В),St i s.heap->ord[i]? =some x->(∀h',St (i+1) h'->g8 I s.heap h'->Q (some x) {s with heap:=h'})->ba (bp prog w) A (pyNext (.ref I)) Q E s
 stop:∀(s:ak) (Q:Б ah->ak->В) (E:ah->ak->В),St ord.length s.heap->(∀h',Heap.ExtBut I s.heap h'->Q none {s with heap:=h'})->ba (bp prog w) A (pyNext (.ref I)) Q E s
section
variable{prog:bu}{w:cj}{A:ck}{E:ah->ak->В}{R:Result->ak->В}{I S:am}{fp:А am}{ord:А ah}{St:Г->dr->В}
ОDe(T:Tells prog w A.in1 I fp ord St)(hS:S∉fp)(hz:ord.length<=10000)(res:ah):∀(m i:Г) (s:ak) (c:Г),i+m=ord.length->St i s.heap->s.heap.get? S=some (Ey (ord.take i).toArray c)->
  (∀h' c',(∀b x,b≠S->b≠I->s.heap.get? b=some x->h'.get? b=some x)->h'.get? S=some (Ey ord.toArray c')->R (.ok (.ret res)) {s with heap:=h'})->codeAny (bp prog w) A (.builtin "list.extend.loop" ⟨[.ref S,.ref I,res],[]⟩) R s:=by
 have hSI:S≠I:=fun z=>hS (z▸T.mem)
 intro m
 induction m with
 |zero=>
  intro i s c hi st hl hR
  obtain rfl:i=ord.length:=hi
  rw[List.take_length]at hl
  R gr PySem.F.entry_extend_loop ?_
  rw[d7 PySem.F.plain_extend_loop _]
  show ba _ A.in1 (pyNext (.ref I) >>=_) _ _ s
  R ad (T.stop s _ _ st fun h' ex=>?_)
  E ag (hR h' c (fun b x _ hb e=>ex b x hb e) (ex S _ hSI hl))
 |succ m ih=>
  intro i s c hi st hl hR
  have hlt:i<ord.length:=by W
  R gr PySem.F.entry_extend_loop ?_
  rw[d7 PySem.F.plain_extend_loop _]
  show ba _ A.in1 (pyNext (.ref I) >>=_) _ _ s
  R ad (T.step i s ord[i] _ _ st (by simp[hlt]) fun h1 st1 b1=>?_)
  have l1:h1.get? S=some (Ey (ord.take i).toArray c):=(b1.2 S hSI).trans hl
  have tk:(ord.take i).toArray.push ord[i]=(ord.take (i+1)).toArray:=by
   rw[List.take_add_one,az hlt]
   simp
  show ba _ A.in1 (updateSeq S (·.push ord[i]) >>=_) _ _ _
  R ad (wpAny_updateSeq l1 rfl (ag ⟨plainId_quiet PySem.F.plain_extend_loop _,?_⟩) (by rw[bi,gn,dq];W) (by show((ord.take i).toArray.push ord[i]).size<=_;rw[tk,bi,gn,dq];W))
  have g2:=Heap.get?_update_self (c9 (·.push ord[i])) l1 rfl
  have hm:∃c',c9 (·.push ord[i]) (Ey (ord.take i).toArray c)=Ey (ord.take (i+1)).toArray c':=by
   rw[<-tk];E⟨_,rfl⟩
  O⟨c',hc'⟩:=hm
  rw[hc']at g2
  R ih (i+1) _ c' И (T.keep _ _ _ st1 fun b hb x e=>(Heap.get?_update_other _ _ (fun z:S=b=>hS (by rw[z];E hb))).trans e) g2 fun h3 c3 k3 g3=>?_
  E hR h3 c3 (fun b x hb hbI e=>k3 b x hb hbI ((Heap.get?_update_other _ _ (Ne.symm hb)).trans ((b1.2 b hbI).trans e))) g3
ОZiq{s:ak}{r:am}{Q:Bool->ak->В}(hT:s.TypeIs (.ref r) "set")(h:Q false s):ba (bp prog w) A (Builtin.List.listLengthHint (.ref r)) Q E s:=by
 unfold Builtin.List.listLengthHint
 R ad (wpAny_specialOf hT PySem.F.slot_set_len.lookup ?_)
 generalize hid:("set.__len__":String)=id0
 wp_delta
 rw[show splitId id0=some ("set","__len__")from by subst hid;decide+kernel]
 subst hid
 R ad (gk (T:="set") (b:=true) hT sub_set_self ?_)
 R wpAny_ite_split (fun z=>absurd z Й) fun _=>?_
 R wpAny_ite_split (fun _=>?_) fun z=>absurd (by decide+kernel) z
 E ad (wpAny_typeOf hT (ag h))
ОDf{α:Type}(f:Г->Г):∀(n k:Г) (l:А α) (out:Array α),n=l.length->(pickOrder.go f n k l out).toList.Perm (out.toList++l)
 |0,k,l,out,h=>by
  have:l=[]:=List.eq_nil_of_length_eq_zero h.symm
  subst this
  unfold pickOrder.go
  simp
 |n+1,k,l,out,h=>by
  unfold pickOrder.go
  have hp:0<l.length:=by W
  have hm:f k % l.length<l.length:=Nat.mod_lt _ hp
  rw[az hm]
  dsimp only
  R(Df f n (k+1) _ _ (by rw[List.length_eraseIdx_of_lt hm];W)).trans ?_
  rw[Array.toList_push,gf]
  E(R7 l _ hm).append_left _
ОZeu{α:Type}(f:Г->Г)(xs:Array α):(pickOrder f xs).toList.Perm xs.toList:=by
 have:=Df f xs.size 0 xs.toList #[] (aw).symm
 simpa[pickOrder]using this
end
end SX
namespace SX
open PySem PySem.Spec PyProof.Rows
section
variable{prog:bu}{w:cj}{A:ck}{E:ah->ak->В}{s:ak}{I r T:am}{o:Obj}{es:Array (Int×ah)}{ep:Г}{t:gp}
Пsl(t:gp):Г->Г
 |0=>0
 |i+1=>t.place.getD i 0+1
ОZk3{t:gp}(h:C7 t.place.toList){i:Г}(hi:i<=t.place.size):SetTable.below t.place (sl t i)=i:=by
 R Dc (Ah h _) ⟨hi,fun k y hk e=>?_,fun k y hk e=>?_⟩
 ·cases i with
  |zero=>W
  |succ i=>
   have hp:i<t.place.size:=by W
   have e2:t.place[i]? =some t.place[i]:=by simp[hp]
   have eg:sl t (i+1)=t.place[i]+1:=by unfold sl;simp[Array.getD,hp]
   rw[eg]
   by_cases z:k=i
   ·subst z;rw[e2]at e;C e;W
   ·have:=Om h e e2 И;W
 ·cases i with
  |zero=>E dn _
  |succ i=>
   have hp:i<t.place.size:=by W
   have e2:t.place[i]? =some t.place[i]:=by simp[hp]
   have eg:sl t (i+1)=t.place[i]+1:=by unfold sl;simp[Array.getD,hp]
   rw[eg]
   have:=Om h e2 e И
   W
ОTf{r I:am}(h:r≠I){h1 h2:dr}(b:g8 I h1 h2){x:Obj}(e:h1.get? r=some x):h2.get? r=some x:=(b.2 r h).trans e
ОVx(hh:A.handled=none)(hr:r≠I)(hd:o.data= .set es ep t)(hf:t.fits es.size=true)(hB:By w=false)(hl:t.led=true)(hp:(!t.plain&&decide (es.size > 1))=false)(rise:C7 t.place.toList)(sz:t.place.size=es.size):
  Tells prog w A I [I,r] (es.toList.map (·.2)) (fun i h=>h.get? I=some (Su (.int (sl t i:Int) 0) i r es.size ep)/\h.get? r=some o):=by
 R⟨by simp,fun i h h' st k=>⟨k I Л _ st.1,k r Л _ st.2⟩,fun i s x Q E st hx hQ=>?_,fun s Q E st hQ=>?_⟩
 ·rw[bf]at hx
  O⟨e,he,rfl⟩:=cm.mp hx
  rw[b5]at he
  have hi:i<es.size:=(f8.mp he).1
  have hi':i<t.place.size:=by W
  have e2:t.place[i]? =some t.place[i]:=by simp[hi']
  have nx:=Iy (prog:=prog) (w:=w) (A:=A.in1) (s:=s) (slot:=sl t i) (i:=i) hB st.2 hd hf hl hp
  rw[Zk3 rise И,he,e2]at nx
  R Zk1 st.1 st.2 hd hf nx fun h' g b=>hQ h' ⟨?_,Tf hr b st.2⟩ b
  have eg:sl t (i+1)=t.place[i]+1:=by unfold sl;simp[Array.getD,hi']
  rw[eg]
  E g
 ·have hn:(es.toList.map (·.2)).length=es.size:=by rw[ao,aw]
  rw[hn]at st
  have nx:=Iy (prog:=prog) (w:=w) (A:=A.in1) (s:=s) (slot:=sl t es.size) (i:=es.size) hB st.2 hd hf hl hp
  rw[Zk3 rise И,show es[es.size]? =none by simp]at nx
  E Zk2 hh st.1 st.2 hd hf nx hQ
ОZbd(hh:A.handled=none)(hr:r≠I)(hd:o.data= .set es ep t)(hf:t.fits es.size=true)(hB:By w=true):
  Tells prog w A I [I,r] ((pickOrder (w.params.setOrder r ep) es).toList.map (·.2)) (fun i h=>h.get? I=some (Su (.int ((0:Г):Int) 0) i r es.size ep)/\h.get? r=some o):=by
 R⟨by simp,fun i h h' st k=>⟨k I Л _ st.1,k r Л _ st.2⟩,fun i s x Q E st hx hQ=>?_,fun s Q E st hQ=>?_⟩
 ·rw[bf]at hx
  O⟨e,he,rfl⟩:=cm.mp hx
  rw[b5]at he
  have nx:=Ps (prog:=prog) (w:=w) (A:=A.in1) (s:=s) (slot:=0) (i:=i) hB st.2 hd hf
  rw[he]at nx
  E Zk1 st.1 st.2 hd hf nx fun h' g b=>hQ h' ⟨g,Tf hr b st.2⟩ b
 ·have nx:=Ps (prog:=prog) (w:=w) (A:=A.in1) (s:=s) (slot:=0) (i:=((pickOrder (w.params.setOrder r ep) es).toList.map (·.2)).length) hB st.2 hd hf
  rw[ao,aw,show(pickOrder (w.params.setOrder r ep) es)[(pickOrder (w.params.setOrder r ep) es).size]? =none by simp]at nx
  rw[ao,aw]at st
  E Zk2 hh st.1 st.2 hd hf nx hQ
ОVy(hh:A.handled=none)(hr:r≠I)(hT:T≠I)(hd:o.data= .set es ep t)(hf:t.fits es.size=true){ps:А Г}(hp:∀p∈ps,p<es.size):
  Tells prog w A I [I,r,T] (ps.map fun p=>(es.getD p (0,.none)).2) (fun i h=>h.get? I=some (Su (.ref T) i r es.size ep)/\h.get? r=some o/\h.get? T=some (R8 ps)):=by
 R⟨by simp,fun i h h' st k=>⟨k I Л _ st.1,k r Л _ st.2.1,k T Л _ st.2.2⟩,fun i s x Q E st hx hQ=>?_,fun s Q E st hQ=>?_⟩
 ·rw[bf]at hx
  O⟨p,he,rfl⟩:=cm.mp hx
  have lt:=hp p (cz he)
  have e2:es[p]? =some ((es.getD p (0,.none)).1,(es.getD p (0,.none)).2):=by simp[Array.getD,lt]
  E Zrj st.1 st.2.2 he e2 st.2.1 hd hf fun h' g b=>hQ h' ⟨g,Tf hr b st.2.1,Tf hT b st.2.2⟩ b
 ·rw[ao]at st
  E Zrk hh st.1 st.2.2 Л st.2.1 hd hf hQ
end
end SX
namespace SX
open PySem PySem.Spec PyProof.Rows
section
variable{prog:bu}{w:cj}{A:ck}{E:ah->ak->В}{s:ak}{I r S:am}{o:Obj}{ks:А Int}
ОLo{R:Result->ak->В}{fp:А am}{ord:А ah}{St:Г->dr->В}{res:ah}{c:Г}(T:Tells prog w A.in1 I fp ord St)(hS:S∉fp)(hz:ord.length<=10000)(hT:s.TypeIs (.ref r) "set")(st:St 0 s.heap)(hl:s.heap.get? S=some (Ey #[] c)){f:Bool->Bool}
  (hR:∀h' c',(∀b x,b≠S->b≠I->s.heap.get? b=some x->h'.get? b=some x)->h'.get? S=some (Ey ord.toArray c')->R (.ok (.ret res)) {s with heap:=h'}):
  ba (bp prog w) A.in1 (do
   let room<-holding [.ref I] (Builtin.List.listLengthHint (.ref r))
   if f room=true then do
    rule "list.extend.makes-room"
    Builtin.List.listTouch (.ref S)
    again (.builtin "list.extend.loop" ⟨[.ref S,.ref I,res],[]⟩)
   else again (.builtin "list.extend.loop" ⟨[.ref S,.ref I,res],[]⟩))
   (fun fin s'=>match fin with| .done f=>R (.ok f) s'| .again c'=>c'.quiet=true/\codeAny (bp prog w) A c' R s') (fun e s'=>R (.error e) s') s:=by
 R ad (gc (Ziq hT ?_))
 R wpAny_ite_split (fun _=>?_) (fun _=>ag ⟨plainId_quiet PySem.F.plain_extend_loop _,De T hS hz res ord.length 0 s c И st (by simpa using hl) hR⟩)
 R ad (wpAny_rule (ad ?_))
 show ba _ _ (updateSeq S (·.push .none) >>=fun _=>updateSeq S (·.pop)) _ _ _
 R ad (wpAny_updateSeq hl rfl ?_)
 have l2:=Heap.get?_update_self (c9 (·.push cf)) hl rfl
 R wpAny_updateSeq (hz:=by seq_fits) l2 rfl ?_
 have l3:=Heap.get?_update_self (c9 (·.pop)) l2 rfl
 have oth:∀b x,b≠S->s.heap.get? b=some x->((s.heap.update S (c9 (·.push cf))).update S (c9 (·.pop))).get? b=some x:=
  fun b x hb e=>(Heap.get?_update_other _ _ (Ne.symm hb)).trans ((Heap.get?_update_other _ _ (Ne.symm hb)).trans e)
 R ag ⟨plainId_quiet PySem.F.plain_extend_loop _,De T hS hz res ord.length 0 _ _ И (T.keep _ _ _ st fun b hb x e=>oth b x (fun z=>hS (z▸hb)) e) l3 fun h' c' k g=>?_⟩
 E hR h' c' (fun b x hb hI e=>k b x hb hI (oth b x hb e)) g
end
end SX
namespace SX
open PySem PySem.Spec PyProof.Rows
end SX
namespace SX
open PySem PySem.Spec PyProof.Rows
Пsrt(ns:А Int):А Int:=(dd (fun i=>ns.getD i 0) ns.length).mergeSort fun a b=>decide (a<=b)
end SX
namespace L2
open PySem PySem.Spec PyProof.Rows SX
section
variable{X:Cx}
ОInv.drawnAt{pins:А (am×Obj)}{σ:St}{H:Hp}{s:ak}(I:Inv X pins σ H s)(d:_):Inv X pins σ H {s with drawn:=d}:=
 ⟨I.ok,I.os,I.bare,I.base,I.loc,I.cell,I.free,I.freeC,I.pin,I.hok,I.len⟩
ПrSS(K:af):А V->Hp->VK->Prop:=fun xs H Q=>∃l ns,xs=[.ref l]/\Ws K H l (ns.map V.int)/\ns.length<64/\∀q,H q=none->Q (.ref q) (Z5 H q (.lst ((srt ns).map V.int)))
ОBw:bootBuiltins "sorted"=some (.builtin "sorted"):=by kernel_rfl
ОZev:bootBuiltins "set"=some (.type "set"):=by kernel_rfl
end
end L2
namespace DL
open PySem PySem.Spec PyProof.Rows L2 SX
variable{K:af}
Рints?:А D->Б (А Int)
 | []=>some []
 | .int i::r=>(ints? r).bind fun l=>some (i::l)
 |_=>none
ПZ0m:А D->Б SV
 | [.lst xs]=>(ints? xs).bind fun ns=>if ns.length<64 then some (.ol ((srt ns).map D.int))else none
 |_=>none
end DL
namespace TX
open PySem PySem.W PyProof.Rows
ПWv{α:Type}(lt:Г->Г->Bool)(n:Г)(R:α->В):KasT α->В
 | .ret a=>R a
 | .ask i j k=>i<n/\j<n/\Wv lt n R (k (lt i j))
ОWv.bind{α β:Type}{lt:Г->Г->Bool}{n:Г}{R:α->В}{S:β->В}{f:α->KasT β}(h:∀a,R a->Wv lt n S (f a)):∀{t:KasT α},Wv lt n R t->Wv lt n S (t.bind f)
 | .ret a,g=>h a g
 | .ask i j k,g=>⟨g.1,g.2.1,Wv.bind h (t:=k (lt i j)) g.2.2⟩
ОWv.mono{α:Type}{lt:Г->Г->Bool}{n:Г}{R S:α->В}(h:∀a,R a->S a):∀{t:KasT α},Wv lt n R t->Wv lt n S t
 | .ret a,g=>h a g
 | .ask i j k,g=>⟨g.1,g.2.1,Wv.mono h (t:=k (lt i j)) g.2.2⟩
ОWv.wp{α:Type}{lt:Г->Г->Bool}{n:Г}{R:α->В}{cmp:Г->Г->(Bool->ak->В)->ak->В}{I:ak->В}{Q:α->ak->В}
  (hc:∀i j C s,i<n->j<n->I s->(∀s',I s'->C (lt i j) s')->cmp i j C s) (hq:∀a s,R a->I s->Q a s):∀{t:KasT α} {s:ak},Wv lt n R t->I s->t.kasWp cmp Q s
 | .ret a,s,g,i=>hq a s g i
 | .ask i j k,s,g,x=>hc i j _ s g.1 g.2.1 x fun s' x'=>Wv.wp hc hq (t:=k (lt i j)) g.2.2 x'
section
variable{O:KeyOrd}{key:Г->O.α}{n:Г}
noncomputable abbrev Ez(O:KeyOrd)(key:Г->O.α)(i j:Г):Bool:=O.blt (key i) (key j)
ПKp(key:Г->O.α)(p:Array Г)(i:Г):O.α:=key (p.getD i 0)
ПLp(key:Г->O.α)(p:Array Г)(k:Г):Prop:=∀i j,i<=j->j<k->O.kle (Kp key p i) (Kp key p j)
ПDec(key:Г->O.α)(p:Array Г)(k:Г):Prop:=∀i j,i<=j->j<k->O.kle (Kp key p j) (Kp key p i)
ПPm(n:Г)(p:Array Г):Prop:=p.Perm (gz (cr n))
ОPm.size{p:Array Г}(h:Pm n p):p.size=n:=by
 have:=(Array.perm_iff_toList_perm.mp h).length_eq
 simpa using this
ОPm.lt{p:Array Г}(h:Pm n p){i:Г}(hi:i<n):p.getD i 0<n:=by
 have hs:i<p.size:=by rw[h.size];E hi
 have hm:p[i]∈(cr n):=(Array.perm_iff_toList_perm.mp h).mem_iff.mp Л
 rw[Array.getD_eq_getD_getElem?,getElem?_pos p i hs]
 E cw.mp hm
ОBx{p q:Array Г}{i j:Г}(h:p[i]? =q[j]?):Kp key p i=Kp key q j:=by
 unfold Kp
 rw[Array.getD_eq_getD_getElem?,Array.getD_eq_getD_getElem?,h]
ОAi{p:Array Г}{i j:Г}(hj:j<=p.size)(k:Г):Kp key (kas_rev p i j) k=if i<=k/\k<j then Kp key p (i+j- 1- k)else Kp key p k:=by
 have e:=getElem?_mirror_all (xs:=p) (i:=i) hj k
 unfold kas_rev
 by_cases h:i<=k/\k<j
 ·rw[Е h]at e⊢;E Bx e
 ·rw[Д h]at e⊢;E Bx e
ОZew{p:Array Г}{src d:Г}(hs:src<p.size)(hd:d<=src)(k:Г):Kp key (bubble p src d) k=if k=src- d then Kp key p src else if src- d<k/\k<=src then Kp key p (k- 1)else Kp key p k:=by
 have e:=getElem?_bubble hs d hd k
 by_cases h1:k=src- d
 ·rw[Е h1]at e⊢;E Bx e
 ·rw[Д h1]at e⊢
  by_cases h2:src- d<k/\k<=src
  ·rw[Е h2]at e⊢;E Bx e
  ·rw[Д h2]at e⊢;E Bx e
ОPm.rev{p:Array Г}(h:Pm n p)(i j:Г):Pm n (kas_rev p i j):=(mirror_perm p i j _).trans h
ОPm.bub{p:Array Г}(h:Pm n p)(i j:Г):Pm n (bubble p i j):=(bubble_perm p i j).trans h
ОAj{p:Array Г}(hp:Pm n p):∀(f m:Г),1<=m->m+f<=n->Lp key p m->
  Wv (Ez O key) n (fun r=>m<=r/\r<=m+f/\Lp key p r/\(r=m+f\/O.klt (Kp key p r) (Kp key p (r- 1)))) (kas_asc p f m)
 |0,m,_,_,hs=>⟨a7 _,a7 _,hs,.inl rfl⟩
 |f+1,m,h1,hm,hs=>by
  R⟨hp.lt И,hp.lt И,?_⟩
  show Wv _ _ _ (if O.blt (Kp key p m) (Kp key p (m- 1))=true then _ else _)
  by_cases c:O.blt (Kp key p m) (Kp key p (m- 1))=true
  ·rw[Е c]
   E⟨a7 _,by W,hs,.inr c⟩
  ·rw[Д c]
   R(Aj hp f (m+1) И И fun i j hij hj=>?_).mono fun r ⟨a,b,d,e⟩=>⟨by W,by W,d,by rcases e with e|e;E .inl И;E .inr e⟩
   by_cases hjm:j<m
   ·E hs i j hij hjm
   ·have:j=m:=by W
    subst this
    by_cases hi:i=j
    ·subst hi;E KeyOrd.kle_refl _
    ·E KeyOrd.kle_trans (hs i (j- 1) И И) (KeyOrd.kle_of_not_klt c)
ОCc:∀(f:Г) (p:Array Г) (m q:Г),Pm n p->1<=m->m+f<=n->Dec key p m->q+1<=m->(∀i,m- (q+1)<=i->i<m->Kp key p i=Kp key p (m- 1))->
  Wv (Ez O key) n (fun r=>Pm n r.1/\m<=r.2.1/\r.2.1<=m+f/\Dec key r.1 r.2.1/\r.2.2+1<=r.2.1/\∀i,r.2.1- (r.2.2+1)<=i->i<r.2.1->Kp key r.1 i=Kp key r.1 (r.2.1- 1)) (kas_desc f p m q)
 |0,p,m,q,hp,_,_,hs,hq,he=>⟨hp,a7 _,a7 _,hs,hq,he⟩
 |f+1,p,m,q,hp,h1,hm,hs,hq,he=>by
  have hsz:m<=p.size:=by rw[hp.size];W
  R⟨hp.lt И,hp.lt И,?_⟩
  show Wv _ _ _ (if O.blt (Kp key p m) (Kp key p (m- 1))=true then _ else _)
  have up:∀{r:Array Г×Г×Г},(Pm n r.1/\m+1<=r.2.1/\r.2.1<=m+1+f/\Dec key r.1 r.2.1/\r.2.2+1<=r.2.1/\∀i,r.2.1- (r.2.2+1)<=i->i<r.2.1->Kp key r.1 i=Kp key r.1 (r.2.1- 1))->
    (Pm n r.1/\m<=r.2.1/\r.2.1<=m+(f+1)/\Dec key r.1 r.2.1/\r.2.2+1<=r.2.1/\∀i,r.2.1- (r.2.2+1)<=i->i<r.2.1->Kp key r.1 i=Kp key r.1 (r.2.1- 1)):=
   fun⟨a,b,c,d⟩=>⟨a,by W,by W,d⟩
  have step1:∀x:Array Г,O.blt (Kp key p m) (Kp key p (m- 1))=true->(∀k,Kp key x k=Kp key p k)->Dec key x (m+1):=by
   intro x c hk i j hij hj
   rw[hk,hk]
   by_cases hjx:j<m
   ·E hs i j hij hjx
   ·have hj':j=m:=by W
    subst hj'
    by_cases hi':i=j
    ·subst hi';E KeyOrd.kle_refl _
    ·E KeyOrd.kle_trans (KeyOrd.kle_of_klt c) (hs i (j- 1) И И)
  have one:∀x:Array Г,∀i,m+1- (0+1)<=i->i<m+1->Kp key x i=Kp key x (m+1- 1):=fun x i a b=>by congr 1;W
  by_cases c:O.blt (Kp key p m) (Kp key p (m- 1))=true
  ·rw[Е c]
   by_cases hq0:q > 0
   ·rw[Е hq0]
    R(Cc f (kas_rev p (m- (q+1)) m) (m+1) 0 (hp.rev _ _) И И (step1 _ c fun k=>?_) И (one _)).mono fun r=>up
    rw[Ai hsz]
    by_cases hk:m- (q+1)<=k/\k<m
    ·rw[Е hk,he _ И И,he k hk.1 hk.2]
    ·rw[Д hk]
   ·rw[Д hq0]
    E(Cc f p (m+1) 0 hp И И (step1 _ c fun _=>rfl) И (one _)).mono fun r=>up
  ·rw[Д c]
   R⟨hp.lt И,hp.lt И,?_⟩
   show Wv _ _ _ (if O.blt (Kp key p (m- 1)) (Kp key p m)=true then _ else _)
   by_cases d:O.blt (Kp key p (m- 1)) (Kp key p m)=true
   ·rw[Е d]
    E⟨hp,a7 _,Nat.le_add_right _ _,hs,hq,he⟩
   ·rw[Д d]
    have ex:Kp key p m=Kp key p (m- 1):=KeyOrd.kle_antisymm (by simpa[KeyOrd.kle]using d) (by simpa[KeyOrd.kle]using c)
    R(Cc f p (m+1) (q+1) hp И И (fun i j hij hj=>?_) И fun i a b=>?_).mono fun r=>up
    ·by_cases hjx:j<m
     ·E hs i j hij hjx
     ·have hj':j=m:=by W
      subst hj'
      by_cases hi':i=j
      ·subst hi';E KeyOrd.kle_refl _
      ·rw[ex];E hs i (j- 1) И И
    ·rw[show m+1- 1=m by W]
     by_cases hix:i=m
     ·subst hix;rfl
     ·rw[ex];E he i И И
noncomputable abbrev Ct(key:Г->O.α)(n:Г)(r:Г×Array Г):Prop:=Pm n r.2/\1<=r.1/\r.1<=n/\Lp key r.2 r.1
ОAk{p:Array Г}(hp:Pm n p){m:Г}(h1:1<=m)(hm:m<=n)(hs:Dec key p m):Wv (Ez O key) n (Ct key n) (kas_tail3 m n p):=by
 have hsz:m<=p.size:=by rw[hp.size];E hm
 R Wv.bind (R:=fun r=>m<=r/\r<=m+(n- m)/\Lp key (kas_rev p 0 m) r/\_) (fun r ⟨a,b,c,_⟩=>⟨hp.rev _ _,by show 1<=r;W,by show r<=n;W,c⟩) (Aj (hp.rev 0 m) (n- m) m h1 И fun i j hij hj=>?_)
 rw[Ai hsz,Ai hsz,Е И,Е И]
 E hs _ _ И И
ОCr{p:Array Г}(hp:Pm n p){m:Г}(hm:m+1<=n)(hs:Dec key p (m+1)):Wv (Ez O key) n (Ct key n) (kas_descPart m n p):=by
 R Wv.bind (fun r h=>?_) (Cc (n- (m+1)) p (m+1) 0 hp И И hs И fun i a b=>by congr 1;W)
 O⟨a,b,c,d,e,g⟩:=h
 have hsz:r.2.1<=r.1.size:=by rw[a.size];W
 by_cases hq:r.2.2 > 0
 ·rw[Е hq]
  R Ak (a.rev _ _) И И fun i j hij hj=>?_
  have k:∀x,Kp key (kas_rev r.1 (r.2.1- (r.2.2+1)) r.2.1) x=Kp key r.1 x:=fun x=>by
   rw[Ai hsz]
   by_cases hk:r.2.1- (r.2.2+1)<=x/\x<r.2.1
   ·rw[Е hk,g _ И И,g x hk.1 hk.2]
   ·rw[Д hk]
  rw[k,k]
  E d i j hij hj
 ·rw[Д hq]
  E Ak a И И d
ОVz{p:Array Г}(hp:Pm n p)(h1:1<=n):Wv (Ez O key) n (Ct key n) (kas_count n p):=by
 R Wv.bind (fun m h=>?_) (Aj (key:=key) hp (n- 1) 1 (a7 _) И fun i j hij hj=>by(have:i=j:=by W);subst this;E KeyOrd.kle_refl _)
 O⟨a,b,c,d⟩:=h
 by_cases hm:(m==n)=true
 ·rw[Е hm]
  E⟨hp,a,by show m<=n;W,c⟩
 ·rw[Д hm]
  have hne:m≠n:=fun z=>hm (by rw[z];E beq_self_eq_true n)
  have br:O.klt (Kp key p m) (Kp key p (m- 1)):=by
   rcases d with d|d
   ·W
   ·E d
  by_cases h2:m > 1
  ·rw[Е h2]
   R⟨hp.lt И,hp.lt И,?_⟩
   show Wv _ _ _ (if O.blt (Kp key p 0) (Kp key p (m- 1))=true then _ else _)
   by_cases c0:O.blt (Kp key p 0) (Kp key p (m- 1))=true
   ·rw[Е c0]
    E⟨hp,a,by show m<=n;W,c⟩
   ·rw[Д c0]
    have hsz:m<=p.size:=by rw[hp.size];W
    have eq:∀i,i<m->Kp key p i=Kp key p (m- 1):=fun i hi=>
     KeyOrd.kle_antisymm (c i (m- 1) И И) (KeyOrd.kle_trans (by simpa[KeyOrd.kle]using c0) (c 0 i И hi))
    have k:∀x,Kp key (kas_rev p 0 m) x=Kp key p x:=fun x=>by
     rw[Ai hsz]
     by_cases hk:0<=x/\x<m
     ·rw[Е hk,eq _ И,eq x hk.2]
     ·rw[Д hk]
    R Cr (hp.rev 0 m) И fun i j hij hj=>?_
    rw[k,k]
    by_cases hjm:j=m
    ·subst hjm
     by_cases hi:i=j
     ·subst hi;E KeyOrd.kle_refl _
     ·rw[eq i И];E KeyOrd.kle_of_klt br
    ·rw[eq i И,eq j И];E KeyOrd.kle_refl _
  ·rw[Д h2]
   have:m=1:=by W
   subst this
   R Cr hp И fun i j hij hj=>?_
   by_cases hi:i=j
   ·subst hi;E KeyOrd.kle_refl _
   ·have:i=0:=by W
    subst this
    have:j=1:=by W
    subst this
    E KeyOrd.kle_of_klt br
ОC8{p:Array Г}(hp:Pm n p){k:Г}(hk:k<n)(hs:Lp key p k):∀(f l r:Г),l<=r->r<=k->r- l<=f->(∀i,i<l->O.kle (Kp key p i) (Kp key p k))->(∀i,r<=i->i<k->O.kle (Kp key p k) (Kp key p i))->
  Wv (Ez O key) n (fun m=>m<=k/\(∀i,i<m->O.kle (Kp key p i) (Kp key p k))/\∀i,m<=i->i<k->O.kle (Kp key p k) (Kp key p i)) (kas_place p k f l r)
 |0,l,r,hlr,hr,hf,h1,h2=>⟨by W,h1,fun i a b=>h2 i И b⟩
 |f+1,l,r,hlr,hr,hf,h1,h2=>by
  show Wv _ _ _ (if l>=r then _ else _)
  by_cases c:l>=r
  ·rw[Е c]
   E⟨by W,h1,fun i a b=>h2 i И b⟩
  ·rw[Д c]
   R⟨hp.lt hk,hp.lt И,?_⟩
   show Wv _ _ _ (if O.blt (Kp key p k) (Kp key p ((l+r) / 2))=true then _ else _)
   by_cases d:O.blt (Kp key p k) (Kp key p ((l+r) / 2))=true
   ·rw[Е d]
    E C8 hp hk hs f l ((l+r) / 2) И И И h1 fun i a b=>KeyOrd.kle_trans (KeyOrd.kle_of_klt d) (hs _ i a b)
   ·rw[Д d]
    E C8 hp hk hs f ((l+r) / 2+1) r И hr И (fun i a=>KeyOrd.kle_trans (hs i ((l+r) / 2) И И) (KeyOrd.kle_of_not_klt d)) h2
ОPt:∀(f:Г) (p:Array Г) (k:Г),Pm n p->k+f=n->Lp key p k->Wv (Ez O key) n (fun q=>Pm n q/\Lp key q n) (kas_bin f p k)
 |0,p,k,hp,hk,hs=>⟨hp,by(have:k=n:=hk);rw[<-this];E hs⟩
 |f+1,p,k,hp,hk,hs=>by
  R Wv.bind (fun l h=>?_) (C8 hp И hs k 0 k (dn _) (a7 _) И (fun i hi=>absurd hi (fq _)) fun i a b=>absurd b И)
  O⟨hl,a,b⟩:=h
  have hsz:k<p.size:=by rw[hp.size];W
  R Pt f (bubble p k (k- l)) (k+1) (hp.bub _ _) И fun i j hij hj=>?_
  rw[Zew hsz И,Zew hsz И]
  have e:k- (k- l)=l:=by W
  rw[e]
  by_cases i1:i=l
  ·rw[Е i1]
   by_cases j1:j=l
   ·rw[Е j1];E KeyOrd.kle_refl _
   ·rw[Д j1,Е И]
    E b (j- 1) И И
  ·rw[Д i1]
   by_cases i2:l<i/\i<=k
   ·rw[Е i2,Д И,Е И]
    E hs _ _ И И
   ·rw[Д i2]
    by_cases j1:j=l
    ·rw[Е j1];E a i И
    ·rw[Д j1]
     by_cases j2:l<j/\j<=k
     ·rw[Е j2];E hs _ _ И И
     ·rw[Д j2];E hs _ _ hij И
ОIz(h1:1<=n):Wv (Ez O key) n (fun q=>Pm n q/\Lp key q n) (kas_sort n):=by
 R Wv.bind (fun r h=>?_) (Vz (key:=key) (Array.Perm.refl _) h1)
 O⟨a,b,c,d⟩:=h
 by_cases hr:r.1<n
 ·rw[Е hr]
  have e:max r.1 1=r.1:=by W
  rw[e]
  E Pt _ _ _ a И d
 ·rw[Д hr]
  have:r.1=n:=by W
  E⟨a,by rw[this]at d;E d⟩
end
end TX
namespace TX
open PySem PySem.SeqAt
open AutoSeq1 (wpAny_loadPart')
open MeetsSeq MeetsSeq2 MeetsSeq3 SeqRoads2
ПUv(A:ck)(s:ak)(y x:ah)(b:Bool):Prop:=
 ∀(prog:bu) (w:cj) (E:ah->ak->В) (Q:ah->ak->В),Q (.bool b) s->ba (bp prog w) A (richCompare .Lt y x) Q E s
ПJh(fin:Bool)(e l:Г->Bool):Г->Г->Bool
 |0,_=>fin
 |k+1,i=>if e i=true then Jh fin e l k (i+1)else l i
ОZbe(l b:am)(items items2:Array ah)(n n2:Г)(dd dd2:Б am)(sl sl2:Array (Б ah))(e lt:Г->Bool)(k:Г):
  ∀i:Г,(∀j,j<i->e j=true)->min items.size items2.size- i=k->Meets (Builtin.«list.__eq__.loop» ⟨[.ref l,.ref b,rawInt i,rawInt 0],[]⟩)
   (fun A R s=>s.heap.get? l=some {cls:=.type "list",dict:=dd,data:=.seq items n,slots:=sl}/\s.heap.get? b=some {cls:=.type "list",dict:=dd2,data:=.seq items2 n2,slots:=sl2}/\
    (∀j (h1:j<items.size) (h2:j<items2.size),(∀i,i<j->e i=true)->EqAt A.in1 s items[j] items2[j] (e j))/\(∀j (h1:j<items.size) (h2:j<items2.size),(∀i,i<j->e i=true)->e j=false->Uv A.in1 s items[j] items2[j] (lt j))/\
    R (.ok (.ret (.bool (Jh (decide (items.size<items2.size)) e lt k i)))) s):=by
 induction k with
 |zero=>
  intro i hpre hk prog w A R s h
  O⟨hp,g,d,tk,os⟩:=s;O⟨hl,hb,he,ht,h⟩:=h
  wp_walk using dg hl,dg hb
  have hi:items[((i:Г):Int).toNat]? =none\/items2[((i:Г):Int).toNat]? =none:=by
   rcases gy i items.size with z|z
   ·right;simp;W
   ·left;simp;W
  rcases h1:items[((i:Г):Int).toNat]? with _|x
  ·wp_walk using dg hl,dg hb
   E h
  ·rcases hi with hi|hi
   ·rw[h1]at hi;C hi
   ·rw[hi]
    wp_walk using dg hl,dg hb
    E h
 |succ k ih=>
  intro i hpre hk prog w A R s h
  O⟨hp,g,d,tk,os⟩:=s;O⟨hl,hb,he,ht,h⟩:=h
  wp_walk using dg hl,dg hb
  have hlt:i<items.size:=by W
  have hlt2:i<items2.size:=by W
  have hi1:items[((i:Г):Int).toNat]? =some items[i]:=by simp[hlt]
  have hi2:items2[((i:Г):Int).toNat]? =some items2[i]:=by simp[hlt2]
  have hc:((i:Int)+1)=((i+1:Г):Int):=by push_cast;rfl
  rw[hi1,hi2]
  R ad (he i hlt hlt2 hpre prog w _ _ ?_)
  cases hb':e i with
  |true=>
   have h':R (.ok (.ret (.bool (Jh (decide (items.size<items2.size)) e lt k (i+1))))) ⟨hp,g,d,tk,os⟩:=by
    have z:=h
    unfold Jh at z
    rw[Е hb']at z
    E z
   wp_walk
   rw[hc]
   E⟨plainId_quiet plain_eq_loop _,gr entry_eq_loop (by
    rw[d7 plain_eq_loop _]
    E ih (i+1) (fun j hj=>by
     rcases gy j i with z|z
     ·E hpre j z
     ·have:j=i:=by W
      rw[this];E hb') И prog w A R _ ⟨hl,hb,he,ht,h'⟩)⟩
  |false=>
   have h':R (.ok (.ret (.bool (lt i)))) ⟨hp,g,d,tk,os⟩:=by
    have z:=h
    unfold Jh at z
    rw[Д (by rw[hb'];simp)]at z
    E z
   wp_walk using dg hl,dg hb
   rw[hi1,hi2]
   R ad (ht i hlt hlt2 hpre hb' prog w _ _ ?_)
   wp_walk
   E h'
ОI8(l b:am)(items items2:Array ah)(n n2:Г)(dd dd2:Б am)(sl sl2:Array (Б ah))(e lt:Г->Bool):
  Meets (Builtin.«list.__lt__» ⟨[.ref l,.ref b],[]⟩)
   (fun A R s=>s.heap.get? l=some {cls:=.type "list",dict:=dd,data:=.seq items n,slots:=sl}/\s.heap.get? b=some {cls:=.type "list",dict:=dd2,data:=.seq items2 n2,slots:=sl2}/\
    (∀j (h1:j<items.size) (h2:j<items2.size),(∀i,i<j->e i=true)->EqAt A.in1 s items[j] items2[j] (e j))/\(∀j (h1:j<items.size) (h2:j<items2.size),(∀i,i<j->e i=true)->e j=false->Uv A.in1 s items[j] items2[j] (lt j))/\
    R (.ok (.ret (.bool (Jh (decide (items.size<items2.size)) e lt (min items.size items2.size) 0)))) s):=by
 intro prog w A R s h
 O⟨hp,g,d,tk,os⟩:=s;O⟨hl,hb,he,ht,h⟩:=h
 have f3:=AutoSeq1.sub_list_list
 wp_walk using dg hl,dg hb
 E⟨plainId_quiet plain_eq_loop _,gr entry_eq_loop (by
  rw[d7 plain_eq_loop _]
  E Zbe l b items items2 n n2 dd dd2 sl sl2 e lt _ 0 (fun j hj=>absurd hj (fq _)) rfl prog w A R _ ⟨hl,hb,he,ht,h⟩)⟩
ОV4(l b:am)(items items2:Array ah)(n n2:Г)(dd dd2:Б am)(sl sl2:Array (Б ah))(e lt:Г->Bool):
  Meets (Builtin.«tuple.__lt__» ⟨[.ref l,.ref b],[]⟩)
   (fun A R s=>s.heap.get? l=some {cls:=.type "tuple",dict:=dd,data:=.seq items n,slots:=sl}/\s.heap.get? b=some {cls:=.type "tuple",dict:=dd2,data:=.seq items2 n2,slots:=sl2}/\
    (∀j (h1:j<items.size) (h2:j<items2.size),(∀i,i<j->e i=true)->EqAt A.in1 s items[j] items2[j] (e j))/\(∀j (h1:j<items.size) (h2:j<items2.size),(∀i,i<j->e i=true)->e j=false->Uv A.in1 s items[j] items2[j] (lt j))/\
    R (.ok (.ret (.bool (Jh (decide (items.size<items2.size)) e lt (min items.size items2.size) 0)))) s):=
 .of_wp fun prog w A R s h=>by
  O⟨hp,g,d,tk,os⟩:=s;O⟨hl,hb,he,ht,h⟩:=h
  have f2:=AutoSeq1.sub_tuple_tuple
  have hZ:(items.toList.zip items2.toList).length=min items.size items2.size:=by simp
  wp_walk using dg hl,dg hb,wpAny_forIn_list _ (fun rest b s'=>b.1=none/\s'=⟨hp,g,d,tk,os⟩/\∃i,rest=(items.toList.zip items2.toList).drop i/\(∀j,j<i->e j=true)/\
   R (.ok (.ret (.bool (Jh (decide (items.size<items2.size)) e lt (min items.size items2.size- i) i)))) ⟨hp,g,d,tk,os⟩) _
  case turn=>
   rintro⟨y,x⟩ rest b s' ⟨hb',rfl,i,hz,hpre,hR⟩
   have hlt:i<(items.toList.zip items2.toList).length:=by
    rcases gy i (items.toList.zip items2.toList).length with h'|h'
    ·E h'
    ·rw[List.drop_of_length_le h']at hz;C hz
   have hm:i<min items.size items2.size:=hZ▸hlt
   have h1:i<items.size:=cu hm (Nat.min_le_left _ _)
   have h2:i<items2.size:=cu hm (Nat.min_le_right _ _)
   rw[List.drop_eq_getElem_cons hlt]at hz
   injection hz with hyx hrest
   have hy:y=items[i]:=by have:=congrArg Prod.fst hyx;simpa using this
   have hx:x=items2[i]:=by have:=congrArg Prod.snd hyx;simpa using this
   subst hy hx
   have hk:min items.size items2.size- i=(min items.size items2.size- (i+1))+1:=by W
   rw[hk]at hR
   unfold Jh at hR
   R ad (he i h1 h2 hpre prog w _ _ ?_)
   cases hy:e i with
   |true=>
    rw[Е hy]at hR
    wp_walk
    E⟨rfl,rfl,i+1,hrest,fun j hj=>by
     rcases gy j i with z|z
     ·E hpre j z
     ·have:j=i:=by W
      rw[this];E hy,hR⟩
   |false=>
    rw[Д (by rw[hy];simp)]at hR
    simp only[Bool.not_false,if_true]
    R ad (wpAny_rule (ad (ht i h1 h2 hpre hy prog w _ _ ?_)))
    wp_walk
    E⟨_,rfl,hR⟩
  case fin=>
   rintro⟨b1,b2⟩ s' ⟨hb',rfl,i,hz,hpre,hR⟩
   simp only at hb'
   subst hb'
   have hge:min items.size items2.size<=i:=by
    rcases gy i (items.toList.zip items2.toList).length with h'|h'
    ·rw[List.drop_eq_getElem_cons h']at hz;C hz
    ·E hZ▸h'
   have hk:min items.size items2.size- i=0:=by W
   rw[hk]at hR
   wp_walk
   E⟨_,rfl,hR⟩
  case h=>
   E⟨rfl,rfl,0,rfl,fun j hj=>absurd hj (fq _),by simpa using h⟩
section
variable{A:ck}{s:ak}
ОUv.lists{l b:am}{items items2:Array ah}{e lt:Г->Bool}(hl:s.heap.IsList l items)(hb:s.heap.IsList b items2)(hu:A.units<d8)
  (he:∀j (h1:j<items.size) (h2:j<items2.size),(∀i,i<j->e i=true)->EqAt A.in1 s items[j] items2[j] (e j)) (ht:∀j (h1:j<items.size) (h2:j<items2.size),(∀i,i<j->e i=true)->e j=false->Uv A.in1 s items[j] items2[j] (lt j)):
  Uv A s (.ref l) (.ref b) (Jh (decide (items.size<items2.size)) e lt (min items.size items2.size) 0):=fun prog w E Q h=>by
 O⟨⟨cls,dd,data,sl⟩,ho,hc,n,hd⟩:=id hl
 O⟨⟨cls2,dd2,data2,sl2⟩,ho2,hc2,n2,hd2⟩:=id hb
 simp only at hc hd hc2 hd2
 subst hc hd hc2 hd2
 E richCompare_meets_room (op:=.Lt) ⟨_,ho,rfl⟩ ⟨_,ho2,rfl⟩ F.slot_list_lt F.entry_list_lt (F.args_list_lt_2 _ _) (I8 l b items items2 n n2 dd dd2 sl sl2 e lt)
  ⟨ho,ho2,he,ht,show Value.bool (Jh (decide (items.size<items2.size)) e lt (min items.size items2.size) 0)≠Value.notImplemented/\Q (.bool (Jh (decide (items.size<items2.size)) e lt (min items.size items2.size) 0)) s from⟨(fun x=>nomatch x),h⟩⟩ hu
ОUv.tuples{l b:am}{items items2:Array ah}{e lt:Г->Bool}(hl:s.heap.IsTuple l items)(hb:s.heap.IsTuple b items2)(hu:A.units<d8)
  (he:∀j (h1:j<items.size) (h2:j<items2.size),(∀i,i<j->e i=true)->EqAt A.in1 s items[j] items2[j] (e j)) (ht:∀j (h1:j<items.size) (h2:j<items2.size),(∀i,i<j->e i=true)->e j=false->Uv A.in1 s items[j] items2[j] (lt j)):
  Uv A s (.ref l) (.ref b) (Jh (decide (items.size<items2.size)) e lt (min items.size items2.size) 0):=fun prog w E Q h=>by
 O⟨⟨cls,dd,data,sl⟩,ho,hc,n,hd⟩:=id hl
 O⟨⟨cls2,dd2,data2,sl2⟩,ho2,hc2,n2,hd2⟩:=id hb
 simp only at hc hd hc2 hd2
 subst hc hd hc2 hd2
 E richCompare_meets_room (op:=.Lt) ⟨_,ho,rfl⟩ ⟨_,ho2,rfl⟩ F.slot_tuple_lt F.entry_tuple_lt (F.args_tuple_lt_2 _ _) (V4 l b items items2 n n2 dd dd2 sl sl2 e lt)
  ⟨ho,ho2,he,ht,show Value.bool (Jh (decide (items.size<items2.size)) e lt (min items.size items2.size) 0)≠Value.notImplemented/\Q (.bool (Jh (decide (items.size<items2.size)) e lt (min items.size items2.size) 0)) s from⟨(fun x=>nomatch x),h⟩⟩ hu
ПCs(A:ck)(s:ak)(y x:ah)(b:Bool):Prop:=
 ∀(prog:bu) (w:cj) (E:ah->ak->В) (Q:Bool->ak->В),Q b s->ba (bp prog w) A (PyProof.Rows.oneLt' true y x) Q E s
ОCs.lists{l b:am}{items items2:Array ah}{e lt:Г->Bool}(hl:s.heap.IsList l items)(hb:s.heap.IsList b items2)(hu:A.units<d8)
  (he:∀j (h1:j<items.size) (h2:j<items2.size),(∀i,i<j->e i=true)->EqAt A.in1 s items[j] items2[j] (e j)) (ht:∀j (h1:j<items.size) (h2:j<items2.size),(∀i,i<j->e i=true)->e j=false->Uv A.in1 s items[j] items2[j] (lt j)):
  Cs A s (.ref l) (.ref b) (Jh (decide (items.size<items2.size)) e lt (min items.size items2.size) 0):=fun prog w E Q h=>by
 O⟨⟨cls,dd,data,sl⟩,ho,hc,n,hd⟩:=id hl
 O⟨⟨cls2,dd2,data2,sl2⟩,ho2,hc2,n2,hd2⟩:=id hb
 simp only at hc hd hc2 hd2
 subst hc hd hc2 hd2
 rw[PyProof.Rows.oneLt'_eq]
 simp only[if_true]
 R ad (wpAny_cRoomFor hu ?_)
 R ad (wpAny_callSpecialIfBound?_slot ⟨_,ho,rfl⟩ F.slot_list_lt (call_meets F.slot_list_lt ⟨_,ho,rfl⟩ F.entry_list_lt (F.args_list_lt_2 _ _) (I8 l b items items2 n n2 dd dd2 sl sl2 e lt) ⟨ho,ho2,he,ht,?_⟩))
 E wpAny_truthy_bool h
ОCs.int(a:Int)(t:Tok)(b:Int)(u:Tok):Cs A s (.int a t) (.int b u) (decide (a<b)):=fun prog w E Q h=>PyProof.Rows.oneLt_int h
ОCs.str(a:Str)(t:Tok)(b:Str)(u:Tok):Cs A s (.str a t) (.str b u) (decide (a.cps.toList<b.cps.toList)):=fun prog w E Q h=>PyProof.Rows.oneLt_str h
ОUv.int(a:Int)(t:Tok)(b:Int)(u:Tok):Uv A s (.int a t) (.int b u) (decide (a<b)):=fun prog w E Q h=>wpAny_lt_int h
ОUv.str(a:Str)(t:Tok)(b:Str)(u:Tok):Uv A s (.str a t) (.str b u) (decide (a.cps.toList<b.cps.toList)):=fun prog w E Q h=>PySem.P.lt_str h
end
end TX
namespace TX
open PySem PySem.Spec PyProof.Rows L2
open PySem.W (kla_fn kla_obj kla_callFunE kla_codeExpr envX)
structure LamS(x:Str)(fs:А Str)(sc:Scope):В where
 kind:sc.kind= .function
 co:sc.isCoroutine=false
 gen:sc.isGenerator=false
 par:sc.names.lookup x=some .local
 nocell:∀y∈sc.names,y.2≠.cell
 nd:x∉fs
noncomputable abbrev Znh(qual:Str)(sc:Scope)(L f:am)(c:am)(cl:А (Str×am)):Env:=envX qual sc L f (.ref c) cl
ПcxL(X:Cx)(N:А Str)(qual:Str)(sc:Scope)(f c:am)(cl:А (Str×am))(A:ck)(s:ak)(H:Hp):Cx where
 prog:=X.prog
 w:=X.w
 K:=X.K
 mg:=X.mg
 base:=X.base
 A:=A.deeper (Znh qual sc s.heap.objs.size f c cl)
 N:=N
 s₀:=s
 H₀:=H
 env:=Znh qual sc s.heap.objs.size f c cl
 outer:=X.stack
 stack:=Znh qual sc s.heap.objs.size f c cl::X.stack
 ex:=[]
 calm:=true
 fn:=fun _=>false
 pn:=[]
 xe:=fun _ _=>False
end TX
namespace TX
open PySem PySem.Spec PyProof.Rows L2
open PySem.W (kla_fn kla_obj kla_eval kla_makeFunction kla_makeFunctionHit CodeHd tabObj)
ПZx5(mg:Str->Б ah)(h:dr):Prop:=∃bm ob,mg "__builtins__"=some (.ref bm)/\bm≠builtinsNs/\h.get? bm=some ob/\ob.cls= .type "module"/\ob.dict=some builtinsNs/\ob.data= .plain
ПZ0n(o:Obj)(q:Str):Prop:=∃vs t,o.data= .fields vs/\vs[1]? =some (.str q t)
end TX
namespace TX
open PySem PySem.Spec PyProof.Rows L2 DL
open PySem.SeqAt (EqAt)
variable{K:af}
РRa(eq lt:D->D->Б Bool):А D->А D->Б Bool
 | [],ys=>some (!ys.isEmpty)
 |_::_,[]=>some false
 |x::xs,y::ys=>(eq x y).bind fun b=>if b=true then Ra eq lt xs ys else lt x y
РV5(eq lt:D->D->Б Bool):D->D->Б Bool
 | .int i,.int j=>some (decide (i<j))
 | .str a,.str b=>some (decide (a.cps.toList<b.cps.toList))
 | .lst xs,.lst ys=>Ra eq lt xs ys
 | .tup xs,.tup ys=>Ra eq lt xs ys
 |_,_=>none
РJk:Г->D->D->Б Bool
 |0=>fun _ _=>none
 |n+1=>V5 (Wp n) (Jk n)
ПisT:Б Bool->Bool
 |some true=>true
 |_=>false
noncomputable abbrev eJ(f:D->D->Б Bool)(xs ys:А D)(j:Г):Bool:=isT (f (xs.getD j .non) (ys.getD j .non))
ОAl{fin:Bool}{e l:Г->Bool}:∀(k i:Г),Jh fin e l k (i+1)=Jh fin (fun j=>e (j+1)) (fun j=>l (j+1)) k i
 |0,_=>rfl
 |k+1,i=>by
  show(if e (i+1)=true then Jh fin e l k (i+1+1)else l (i+1))=(if e (i+1)=true then _ else _)
  rw[Al k (i+1)]
ОI9{eq lt:D->D->Б Bool}:∀{xs ys:А D} {b:Bool},Ra eq lt xs ys=some b->
  Jh (decide (xs.length<ys.length)) (eJ eq xs ys) (eJ lt xs ys) (min xs.length ys.length) 0=b/\
  ∀j,j<xs.length->j<ys.length->(∀i,i<j->eJ eq xs ys i=true)->eq (xs.getD j .non) (ys.getD j .non)=some (eJ eq xs ys j)/\(eJ eq xs ys j=false->lt (xs.getD j .non) (ys.getD j .non)=some (eJ lt xs ys j))
 | [],ys,b,h=>by
  R⟨?_,fun j hj=>absurd hj (fq _)⟩
  obtain rfl:(!ys.isEmpty)=b:=by simpa using h
  cases ys<;> simp[Jh]
 |x::xs,[],b,h=>by
  R⟨?_,fun j _ hj=>absurd hj (fq _)⟩
  obtain rfl:false=b:=by simpa using h
  simp[Jh]
 |x::xs,y::ys,b,h=>by
  have h:(eq x y).bind (fun b=>if b=true then Ra eq lt xs ys else lt x y)=some b:=h
  O⟨c,hc,h2⟩:=aa.mp h
  have e0:eJ eq (x::xs) (y::ys) 0=c:=by show isT (eq x y)=c;rw[hc];cases c<;> rfl
  have hm:min (x::xs).length (y::ys).length=min xs.length ys.length+1:=by simp only[bn];W
  have hfin:decide ((x::xs).length<(y::ys).length)=decide (xs.length<ys.length):=by simp
  rw[hm,hfin]
  cases c with
  |false=>
   have h2:lt x y=some b:=by simpa using h2
   R⟨?_,fun j hj1 hj2 hp=>?_⟩
   ·show(if eJ eq (x::xs) (y::ys) 0=true then _ else eJ lt (x::xs) (y::ys) 0)=b
    rw[e0,Д Л]
    show isT (lt x y)=b
    rw[h2];cases b<;> rfl
   ·cases j with
    |zero=>
     R⟨by rw[e0];E hc,fun _=>?_⟩
     show lt x y=some (isT (lt x y))
     rw[h2];cases b<;> rfl
    |succ j=>
     have:=hp 0 (Nat.succ_pos _)
     rw[e0]at this;C this
  |true=>
   have h2:Ra eq lt xs ys=some b:=by simpa using h2
   O⟨i1,i2⟩:=I9 h2
   R⟨?_,fun j hj1 hj2 hp=>?_⟩
   ·show(if eJ eq (x::xs) (y::ys) 0=true then Jh _ _ _ _ (0+1)else eJ lt (x::xs) (y::ys) 0)=b
    rw[e0,Е rfl,Al]
    E i1
   ·cases j with
    |zero=>
     R⟨by rw[e0];E hc,fun z=>?_⟩
     rw[e0]at z;C z
    |succ j=>
     E i2 j (by simpa using hj1) (by simpa using hj2) fun i hi=>hp (i+1) И
ОReps.getD{F:Hp}:∀{ds:А D} {vs:А V} {its:А ah},Reps K F ds vs->Zw vs its->∀(j:Г) (hj:j<its.length),∃v,Rep K F (ds.getD j .non) v/\Zp v its[j]/\j<ds.length
 |_,_,_,.nil,.nil,j,hj=>absurd hj (fq _)
 |_,_,_,.cons h t,.cons q qs,0,_=>⟨_,h,q,Nat.succ_pos _⟩
 |_,_,_,.cons h t,.cons q qs,j+1,hj=>by
  O⟨v,a,b,c⟩:=Reps.getD t qs j (Nat.lt_of_succ_lt_succ hj)
  E⟨v,a,b,Nat.succ_lt_succ c⟩
ОReps.lenV{F:Hp}:∀{ds:А D} {vs:А V} {its:А ah},Reps K F ds vs->Zw vs its->ds.length=its.length
 |_,_,_,.nil,.nil=>rfl
 |_,_,_,.cons h t,.cons q qs=>congrArg (· +1) (Reps.lenV t qs)
section
variable{X:Cx}{pins:А (am×Obj)}{σ:L2.St}{F H:Hp}{s:ak}
ОJz(I:Inv X pins σ H s)(le:Zf F H){a:am}{vs:А V}(h:Ws X.K F a vs):∃its:А ah,Zw vs its/\s.heap.IsList a its.toArray:=by
 O⟨its,rv,⟨o,n,ho,hcl,_,hd⟩,_⟩:=I.list (Y1 le h)
 E⟨its,rv,o,ho,hcl,n,hd⟩
ОQq(I:Inv X pins σ H s)(le:Zf F H){a:am}{vs:А V}(h:F a=some (.tup vs)):∃its:А ah,Zw vs its/\s.heap.IsTuple a its.toArray:=by
 O⟨_,its,rv,p⟩:=I.hok a _ (le _ _ h)
 O⟨o,ho,hc,n,hd⟩:=p
 E⟨its,rv,o,ho,hc,n,hd⟩
ОAm(I:Inv X pins σ H s)(le:Zf F H){n:Г}{A:ck}(hu:A.units+n<d8)(ih:∀(d1 d2:D) (b:Bool) (x y:V) (v u:ah),Rep X.K F d1 x->Zp x v->Rep X.K F d2 y->Zp y u->Jk n d1 d2=some b->Uv A s v u b)
  {ds es:А D} {vs ws:А V} {its jts:А ah} (r1:Reps X.K F ds vs) (rv1:Zw vs its) (r2:Reps X.K F es ws) (rv2:Zw ws jts) {b:Bool} (h:Ra (Wp n) (Jk n) ds es=some b):
  Jh (decide (its.toArray.size<jts.toArray.size)) (eJ (Wp n) ds es) (eJ (Jk n) ds es) (min its.toArray.size jts.toArray.size) 0=b/\
  (∀j (h1:j<its.toArray.size) (h2:j<jts.toArray.size),(∀i,i<j->eJ (Wp n) ds es i=true)->EqAt A s its.toArray[j] jts.toArray[j] (eJ (Wp n) ds es j))/\
  (∀j (h1:j<its.toArray.size) (h2:j<jts.toArray.size),(∀i,i<j->eJ (Wp n) ds es i=true)->eJ (Wp n) ds es j=false->Uv A s its.toArray[j] jts.toArray[j] (eJ (Jk n) ds es j)):=by
 O⟨a,c⟩:=I9 h
 rw[Reps.lenV r1 rv1,Reps.lenV r2 rv2]at a
 R⟨by simpa using a,fun j h1 h2 hp=>?_,fun j h1 h2 hp hf=>?_⟩
 ·have h1':j<its.length:=by simpa using h1
  have h2':j<jts.length:=by simpa using h2
  O⟨v,p1,p2,p3⟩:=Reps.getD r1 rv1 j h1'
  O⟨w,q1,q2,q3⟩:=Reps.getD r2 rv2 j h2'
  E Ae I le n A _ _ _ _ _ _ _ hu p1 (by simpa using p2) q1 (by simpa using q2) (c j p3 q3 hp).1
 ·have h1':j<its.length:=by simpa using h1
  have h2':j<jts.length:=by simpa using h2
  O⟨v,p1,p2,p3⟩:=Reps.getD r1 rv1 j h1'
  O⟨w,q1,q2,q3⟩:=Reps.getD r2 rv2 j h2'
  E ih _ _ _ _ _ _ _ p1 (by simpa using p2) q1 (by simpa using q2) ((c j p3 q3 hp).2 hf)
ОV6(I:Inv X pins σ H s)(le:Zf F H):∀(n:Г) (A:ck) (d1 d2:D) (b:Bool) (x y:V) (v u:ah),A.units+n<d8->Rep X.K F d1 x->Zp x v->Rep X.K F d2 y->Zp y u->Jk n d1 d2=some b->Uv A s v u b
 |0,_,_,_,_,_,_,_,_,_,_,_,_,_,e=>by C e
 |n+1,A,d1,d2,b,x,y,v,u,hu,r1,v1,r2,v2,e=>by
  have e:V5 (Wp n) (Jk n) d1 d2=some b:=e
  have hi:A.in1.units+n<cLine:=by have:A.in1.units=A.units+1:=rfl;W
  have ih:=fun(d1 d2:D) (b:Bool) (x y:V) (v u:ah)=>V6 I le n A.in1 d1 d2 b x y v u hi
  cases r1 with
  |int i=>cases r2 with
   |int j=>
    O⟨t1,rfl⟩:=v1;O⟨t2,rfl⟩:=v2
    obtain rfl:decide (i<j)=b:=by simpa using e
    E Uv.int i t1 j t2
   |_=>C e
  |str i=>cases r2 with
   |str j=>
    O⟨t1,rfl⟩:=v1;O⟨t2,rfl⟩:=v2
    obtain rfl:decide (i.cps.toList<j.cps.toList)=b:=by simpa using e
    E Uv.str i t1 j t2
   |_=>C e
  |lst h _ r=>cases r2 with
   |lst h' _ r'=>
    C v1;C v2
    O⟨its,rv,hl⟩:=Jz I le h
    O⟨jts,rv',hl'⟩:=Jz I le h'
    O⟨a,c,d⟩:=Am I le hi ih r rv r' rv' e
    rw[<-a]
    E Uv.lists hl hl' И c d
   |_=>C e
  |tup h r=>cases r2 with
   |tup h' r'=>
    C v1;C v2
    O⟨its,rv,hl⟩:=Qq I le h
    O⟨jts,rv',hl'⟩:=Qq I le h'
    O⟨a,c,d⟩:=Am I le hi ih r rv r' rv' e
    rw[<-a]
    E Uv.tuples hl hl' И c d
   |_=>C e
  |_=>C e
ОZni(I:Inv X pins σ H s)(le:Zf F H){n:Г}{A:ck}{d1 d2:D}{b:Bool}{x y:V}{v u:ah}(hu:A.units+(n+1)<d8)(r1:Rep X.K F d1 x)(v1:Zp x v)(r2:Rep X.K F d2 y)(v2:Zp y u)
  (e:Jk (n+1) d1 d2=some b) (hn:∀xs,d1≠.tup xs):Cs A s v u b:=by
 have e:V5 (Wp n) (Jk n) d1 d2=some b:=e
 have hi:A.in1.units+n<cLine:=by have:A.in1.units=A.units+1:=rfl;W
 have ih:=fun(d1 d2:D) (b:Bool) (x y:V) (v u:ah)=>V6 I le n A.in1 d1 d2 b x y v u hi
 cases r1 with
 |int i=>cases r2 with
  |int j=>
   O⟨t1,rfl⟩:=v1;O⟨t2,rfl⟩:=v2
   obtain rfl:decide (i<j)=b:=by simpa using e
   E Cs.int i t1 j t2
  |_=>C e
 |str i=>cases r2 with
  |str j=>
   O⟨t1,rfl⟩:=v1;O⟨t2,rfl⟩:=v2
   obtain rfl:decide (i.cps.toList<j.cps.toList)=b:=by simpa using e
   E Cs.str i t1 j t2
  |_=>C e
 |lst h _ r=>cases r2 with
  |lst h' _ r'=>
   C v1;C v2
   O⟨its,rv,hl⟩:=Jz I le h
   O⟨jts,rv',hl'⟩:=Jz I le h'
   O⟨a,c,d⟩:=Am I le hi ih r rv r' rv' e
   rw[<-a]
   E Cs.lists hl hl' И c d
  |_=>C e
 |tup h r=>E absurd rfl (hn _)
 |_=>C e
end
end TX
namespace TX
open PySem PySem.Spec PyProof.Rows L2 DL
open PySem.W (kas_sort kas_ask kas_item kat_run kat_snds)
section
variable{X:Cx}{pins:А (am×Obj)}{σ:L2.St}{H:Hp}{s:ak}{E:ah->ak->В}
ОDg{D:am}{o:Obj}{xs ys:Array ah}{n t':Г}{g:Array ah->Array ah}(I:Inv X pins σ H s)(fD:Q9 X pins H D):Inv X pins σ H {s with heap:=s.heap.update D (c9 g),toks:=t'}:=
 I.turned (fun b o hb e=>by rw[Heap.get?_update_ne _ _ _ _ hb];E e) fD.1 fD.2.1 fD.2.2.2.1 fD.2.2.2.2.1 fD.2.2.2.2.2
ПKS(X:Cx)(pins:А (am×Obj))(σ:L2.St)(H0:Hp)(f:am)(fo:Obj)(D kS:am)(e1:Г)(KeyOk:Г->V->Hp->В)(i:Г)(s:ak):Prop:=
 ∃H ks kvs e,Zf H0 H/\Inv X pins σ H s/\Q9 X pins H D/\Q9 X pins H kS/\Q9 X pins H f/\s.heap.get? D=some (de "list" #[] e1)/\s.heap.get? kS=some (de "list" (gz ks) e)/\s.heap.get? f=some fo/\
  Zw kvs ks/\ks.length=i/\∀j kv,kvs[j]? =some kv->KeyOk j kv H
end
end TX
namespace TX
open PySem PySem.Spec PyProof.Rows L2 DL
open PySem.W (kas_sort kas_ask kas_item kat_run kat_snds)
section
variable{X:Cx}{pins:А (am×Obj)}{σ:L2.St}{H:Hp}{s:ak}{E:ah->ak->В}{its:А ah}{f D kS:am}{fo:Obj}{e1:Г}{KeyOk:Г->V->Hp->В}{A:ck}{P:PySem.Fin->ak->В}
ПOut(X:Cx)(pins:А (am×Obj))(σ:L2.St)(H0:Hp)(D:am)(out:А ah)(s:ak):Prop:=
 ∃H c,Zf H0 H/\Inv X pins σ H s/\Q9 X pins H D/\s.heap.get? D=some (de "list" (gz out) c)
variable{O:KeyOrd}{key:Г->O.α}
ПCmp(X:Cx)(pins:А (am×Obj))(σ:L2.St)(H0:Hp)(A:ck)(KeyOk:Г->V->Hp->В)(O:KeyOrd)(key:Г->O.α)(n:Г):Prop:=
 ∀H2 s2 ks kvs,Zf H0 H2->Inv X pins σ H2 s2->Zw kvs ks->ks.length=n->(∀j kv,kvs[j]? =some kv->KeyOk j kv H2)->2<=n->
  ∃κ,(∀Q:SortKind->ak->В,Q κ s2->ba (bp X.prog X.w) A (keyKind' (gz ks)) Q (fun _ _=>False) s2)/\
   ∀i j (Q:Bool->ak->В),i<n->j<n->Q (O.blt (key i) (key j)) s2->ba (bp X.prog X.w) A (keyLt' κ (ks.getD i .none) (ks.getD j .none)) Q (fun _ _=>False) s2
end
end TX
namespace TX
open PySem PySem.Spec PySem.Calls PyProof.Rows L2 DL
end TX
namespace TX
open PySem PySem.Spec PySem.Calls PyProof.Rows L2 DL
open PySem.W (KatLex kat_lt kat_kind KatTups kat_one kat_nil kat_cons kat_yes kat_no)
section
variable{X:Cx}{pins:А (am×Obj)}{σ:L2.St}{F H:Hp}{s:ak}
ОZex(I:Inv X pins σ H s)(le:Zf F H){n:Г}{A:ck}(hu:A.units+(n+1)<d8){Q:Bool->ak->В}{fin:Bool}:∀{ds es:А D} {vs ws:А V} {its jts:А ah} {b:Bool} (i:Г),
  Reps X.K F ds vs->Zw vs its->Reps X.K F es ws->Zw ws jts->(i=0->∀d,ds.head? =some d->∀xs,d≠.tup xs)->Ra (Wp (n+1)) (Jk (n+1)) ds es=some b->(its.length=jts.length->fin=false)->(its.length<jts.length->fin=true)->(jts.length<its.length->fin=false)->Q b s->
  KatLex X.prog X.w A true fin Q (its.zip jts) i s
 |_,_,_,_,_,_,b,i,.nil,.nil,.nil,.nil,_,e,f1,_,_,q=>by
  obtain rfl:false=b:=by simpa using e
  show Q fin s
  rw[f1 rfl];E q
 |_,_,_,_,_,_,b,i,.nil,.nil,.cons _ _,.cons _ _,_,e,_,f2,_,q=>by
  obtain rfl:true=b:=by simpa using e
  show Q fin s
  rw[f2 Л];E q
 |_,_,_,_,_,_,b,i,.cons _ _,.cons _ _,.nil,.nil,_,e,_,_,f3,q=>by
  obtain rfl:false=b:=by simpa using e
  show Q fin s
  rw[f3 Л];E q
 |d::ds,d'::es,_,_,_,_,b,i,.cons h t,.cons r rs,.cons h' t',.cons r' rs',hd,e,f1,f2,f3,q=>by
  have e:(Wp (n+1) d d').bind (fun b=>if b=true then Ra (Wp (n+1)) (Jk (n+1)) ds es else Jk (n+1) d d')=some b:=e
  O⟨c,hc,e2⟩:=aa.mp e
  R kat_cons (Ae I le (n+1) A _ _ _ _ _ _ _ И h r h' r' hc X.prog X.w _ _ ?_)
  cases c with
  |true=>
   have e2:Ra (Wp (n+1)) (Jk (n+1)) ds es=some b:=by simpa using e2
   E kat_yes (Zex I le hu (i+1) t rs t' rs' (fun z=>absurd z (Nat.succ_ne_zero i)) e2 (fun z=>f1 (by simp[z])) (fun z=>f2 (by simpa using z)) (fun z=>f3 (by simpa using z)) q)
  |false=>
   have e2:Jk (n+1) d d'=some b:=by simpa using e2
   R kat_no ?_
   cases i with
   |zero=>E Zni I le hu h r h' r' e2 (hd rfl d rfl) X.prog X.w _ _ q
   |succ i=>
    have:(true&&(i+1==0))=false:=by simp
    rw[this]
    R kat_one _ _ (V6 I le (n+1) A _ _ _ _ _ _ _ И h r h' r' e2 X.prog X.w _ _ ?_)
    E q
inductive KK where
 |lst|str|int
inductive IsKey:KK->D->В where
 |lst (xs:А D) (r:А D):IsKey .lst (.tup (.lst xs::r))
 |str (x:Str) (r:А D):IsKey .str (.tup (.str x::r))
 |int (i:Int) (r:А D):IsKey .int (.tup (.int i::r))
ОIsKey.shape{b:KK}{d:D}(h:IsKey b d):∃e r,d= .tup (e::r)/\∀xs,e≠.tup xs:=by
 cases h with
 |lst xs r=>E⟨_,r,rfl,fun _ z=>by C z⟩
 |str x r=>E⟨_,r,rfl,fun _ z=>by C z⟩
 |int x r=>E⟨_,r,rfl,fun _ z=>by C z⟩
ПkT:KK->String
 | .lst=>"list"
 | .str=>"str"
 | .int=>"int"
ОZnj(I:Inv X pins σ H s)(le:Zf F H){n:Г}{A:ck}(hu:A.units+(n+2)<d8){d1 d2:D}{x y:V}{v u:ah}{b:Bool}{k:KK}{E:ah->ak->В}{Q:Bool->ak->В}(k1:IsKey k d1)(k2:IsKey k d2)
  (r1:Rep X.K F d1 x) (v1:Zp x v) (r2:Rep X.K F d2 y) (v2:Zp y u) (e:Jk (n+2) d1 d2=some b) (q:Q b s):ba (bp X.prog X.w) A (keyLt' (tuples' true) v u) Q E s:=by
 O⟨e1,rs1,rfl,hn1⟩:=k1.shape
 O⟨e2,rs2,rfl,_⟩:=k2.shape
 cases r1 with
 |tup h1 p1=>cases r2 with
  |tup h2 p2=>
   C v1;C v2
   O⟨its,rv,o,ho,hc,m,hd⟩:=Qq I le h1
   O⟨jts,rw',o',ho',hc',m',hd'⟩:=Qq I le h2
   have e:Ra (Wp (n+1)) (Jk (n+1)) (e1::rs1) (e2::rs2)=some b:=e
   R kat_lt ho hd ho' hd' ?_
   R Zex I le И 0 p1 rv p2 rw' (fun _ d z xs=>?_) e (fun z=>?_) (fun z=>?_) (fun z=>?_) q
   ·obtain rfl:e1=d:=by simpa using z
    E hn1 xs
   ·simp[z]
   ·simpa using z
   ·have z:jts.length<its.length:=by simpa using z
    simp;W
ОFa(I:Inv X pins σ H s)(le:Zf F H){k:KK}:∀{ds:А D} {vs:А V} {its:А ah},(∀d∈ds,IsKey k d)->Reps X.K F ds vs->Zw vs its->∃fs,KatTups s.heap its fs/\fs.length=its.length/\∀v∈fs,PySem.W.Looks (bp X.prog X.w) s.heap (typeOf v) (.type (kT k))
 |_,_,_,_,.nil,.nil=>⟨[],trivial,rfl,fun _ z=>nomatch z⟩
 |d::ds,_,_,hk,.cons h t,.cons r rs=>by
  O⟨fs,a,b,c⟩:=Fa I le (fun d z=>hk d (ar _ z)) t rs
  cases hk d aj with
  |lst xs rr=>cases h with
   |tup h1 p1=>
    C r
    O⟨its,rv,o,ho,hc,m,hd⟩:=Qq I le h1
    cases p1 with
    |cons q1 q2=>cases rv with
     |cons w1 w2=>cases q1 with
      |lst g1 _ g2=>
       C w1
       O⟨jts,_,o2,ho2,hc2,_⟩:=Jz I le g1
       R⟨_::fs,KatTups.cons ho hc hd rfl a,by simp[b],fun v z=>?_⟩
       rcases bo.mp z with z|z
       ·subst z;E fun A Q E s' k q=>wpAny_typeOf (T:="list") ⟨o2,k _ _ ho2,hc2⟩ q
       ·E c v z
  |str x rr=>cases h with
   |tup h1 p1=>
    C r
    O⟨its,rv,o,ho,hc,m,hd⟩:=Qq I le h1
    cases p1 with
    |cons q1 q2=>cases rv with
     |cons w1 w2=>cases q1 with
      |str y=>
       O⟨tk,rfl⟩:=w1
       R⟨_::fs,KatTups.cons ho hc hd rfl a,by simp[b],fun v z=>?_⟩
       rcases bo.mp z with z|z
       ·subst z;E fun A Q E s' k q=>wpAny_typeOf (T:="str") (typeIs_str s' x tk) q
       ·E c v z
  |int x rr=>cases h with
   |tup h1 p1=>
    C r
    O⟨its,rv,o,ho,hc,m,hd⟩:=Qq I le h1
    cases p1 with
    |cons q1 q2=>cases rv with
     |cons w1 w2=>cases q1 with
      |int y=>
       O⟨tk,rfl⟩:=w1
       R⟨_::fs,KatTups.cons ho hc hd rfl a,by simp[b],fun v z=>?_⟩
       rcases bo.mp z with z|z
       ·subst z;E fun A Q E s' k q=>wpAny_typeOf (T:="int") (typeIs_int s' x tk) q
       ·E c v z
ОZey(I:Inv X pins σ H s)(le:Zf F H){A:ck}{E:ah->ak->В}{k:KK}{ds:А D}{vs:А V}{its:А ah}(hk:∀d∈ds,IsKey k d)(r:Reps X.K F ds vs)(rv:Zw vs its)(h2:0<its.length){Q:SortKind->ak->В}(q:Q (tuples' true) s):
  ba (bp X.prog X.w) A (keyKind' (gz its)) Q E s:=by
 O⟨fs,a,b,c⟩:=Fa I le hk r rv
 R kat_kind (T:=.type (kT k)) a И c (by cases k<;> decide) ?_
 cases k<;> E q
end
end TX
namespace TX
open PySem PySem.Spec PySem.Calls PyProof.Rows L2 DL
structure KeysOk(ks:А D):В where
 key:∃k,∀d∈ks,IsKey k d
 ord:∃enc:D->А Г,(∀a∈ks,∀b∈ks,Jk 16 a b=some (decide (enc a<enc b)))/\∀i j:Г,i<ks.length->j<ks.length->enc (ks.getD i .non)=enc (ks.getD j .non)->i=j
ПRb(ks:А D)(p:А Г):Prop:=p.Perm (cr ks.length)/\p.Pairwise fun i j=>Jk 16 (ks.getD j .non) (ks.getD i .non)=some false
ОV7{ks:А D}(h:KeysOk ks){p q:А Г}(hp:Rb ks p)(hq:Rb ks q):p=q:=by
 O⟨enc,he,hd⟩:=h.ord
 have get:∀i,i<ks.length->ks.getD i .non∈ks:=fun i hi=>by
  rw[bz,az hi];E List.getElem_mem hi
 have mp:∀i∈p,i<ks.length:=fun i hi=>cw.mp (hp.1.mem_iff.mp hi)
 have mq:∀i∈q,i<ks.length:=fun i hi=>cw.mp (hq.1.mem_iff.mp hi)
 R List.Perm.eq_of_pairwise (le:=fun i j=>Jk 16 (ks.getD j .non) (ks.getD i .non)=some false) (fun a b ha hb h1 h2=>?_) hp.2 hq.2 (hp.1.trans hq.1.symm)
 rw[he _ (get _ (mq b hb)) _ (get _ (mp a ha))]at h1
 rw[he _ (get _ (mp a ha)) _ (get _ (mq b hb))]at h2
 have h1:¬enc (ks.getD b .non)<enc (ks.getD a .non):=by simpa using h1
 have h2:¬enc (ks.getD a .non)<enc (ks.getD b .non):=by simpa using h2
 E hd a b (mp a ha) (mq b hb) (List.le_antisymm (d4.mp h1) (d4.mp h2))
ОOp{ks:А D}(h:KeysOk ks):∃p,Rb ks p:=by
 O⟨enc,he,hd⟩:=h.ord
 have get:∀i,i<ks.length->ks.getD i .non∈ks:=fun i hi=>by
  rw[bz,az hi];E List.getElem_mem hi
 R⟨(cr ks.length).mergeSort fun i j=>decide (¬enc (ks.getD j .non)<enc (ks.getD i .non)),List.mergeSort_perm _ _,?_⟩
 have pw:=List.pairwise_mergeSort (le:=fun i j:Г=>decide (¬enc (ks.getD j .non)<enc (ks.getD i .non)))
  (fun a b c h1 h2=>by
   simp only[decide_eq_true_eq]at*
   E d4.mpr (List.le_trans (d4.mp h1) (d4.mp h2)))
  (fun a b=>by
   simp only[Bool.or_eq_true,decide_eq_true_eq]
   rcases List.le_total (enc (ks.getD a .non)) (enc (ks.getD b .non))with z|z
   ·E .inl (d4.mpr z)
   ·E .inr (d4.mpr z)) (cr ks.length)
 R(List.Pairwise.imp_of_mem ?_ pw)
 intro i j hi hj z
 have hi:i<ks.length:=cw.mp ((List.mergeSort_perm _ _).mem_iff.mp hi)
 have hj:j<ks.length:=cw.mp ((List.mergeSort_perm _ _).mem_iff.mp hj)
 rw[he _ (get j hj) _ (get i hi)]
 simpa using z
open Classical in
ПAn(ks xs:А D):Б SV:=
 if h:ks.length=xs.length/\xs.length<64/\KeysOk ks then some (.ol ((Classical.choose (Op h.2.2)).map fun i=>xs.getD i .non))else none
ОZir{ks xs:А D}{sv:SV}(e:An ks xs=some sv):ks.length=xs.length/\xs.length<64/\KeysOk ks/\∃p,Rb ks p/\sv= .ol (p.map fun i=>xs.getD i .non):=by
 unfold An at e
 split at e
 ·rename_i h
  C e
  E⟨h.1,h.2.1,h.2.2,_,Classical.choose_spec (Op h.2.2),rfl⟩
 ·C e
ОZis{ks xs:А D}(h1:ks.length=xs.length)(h2:xs.length<64)(h3:KeysOk ks):∃p,Rb ks p/\An ks xs=some (.ol (p.map fun i=>xs.getD i .non)):=by
 R⟨_,Classical.choose_spec (Op h3),?_⟩
 unfold An
 rw[dif_pos ⟨h1,h2,h3⟩]
РZv2(fb:FE)(cs:А D)(d:D):Б D:=(fb (some (.fz d)::cs.map fun c=>some (.fz c))).bind fun p=>(frz p.1 p.2).bind fun q=>some q.1
РZez(fb:FE)(cs:А D):А D->Б (А D)
 | []=>some []
 |d::ds=>(Zv2 fb cs d).bind fun k=>(Zez fb cs ds).bind fun ks=>some (k::ks)
РZrl(fb:FE)(js:А Г)(d:D)(δ:Yf):Б (RV×Yf):=match d with
 | .lst xs=>(frzAll (js.map RV.bw) δ).bind fun r=>(Zez fb r.1 xs).bind fun ks=>(An ks xs).bind fun sv=>some (.tmp sv,r.2)
 |_=>none
РZv3(fa:FE)(js:А Г)(fb:FE):FE:=fun δ=>(fa δ).bind fun p=>(frz p.1 p.2).bind fun q=>Zrl fb js q.1 q.2
section
variable{K:af}{Z:Ent K}{H:Hp}{σ:L2.St}
ОReps.len2{F:Hp}:∀{ds:А D} {vs:А V},Reps K F ds vs->ds.length=vs.length
 |_,_,.nil=>rfl
 |_,_,.cons _ t=>congrArg (· +1) (Reps.len2 t)
end
end TX
namespace TX
open PySem PySem.Spec PySem.Calls PyProof.Rows L2 DL
open PySem.W (CodeHd kla_fn kla_obj)
section
variable{X:Cx}{pins:А (am×Obj)}{σ:L2.St}{H:Hp}{s:ak}
ОDh{K:af}{F:Hp}:∀{ks:А D} {kvs:А V},kvs.length=ks.length->(∀(j:Г) kv,kvs[j]? =some kv->Rep K F (ks.getD j .non) kv)->Reps K F ks kvs
 | [],[],_,_=>.nil
 |k::ks,v::kvs,hl,h=>.cons (h 0 v rfl) (Dh (by simpa using hl) fun j kv e=>h (j+1) kv (by simpa using e))
ОZbf:∀{ws:А V} {its:А ah},Zw ws its->∀{p:А Г},(∀i∈p,i<its.length)->Zw (p.map fun i=>ws.getD i .non) (p.map fun i=>its.getD i cf):=by
 intro ws its h p hp
 have at':∀{ws:А V} {its:А ah},Zw ws its->∀i,i<its.length->Zp (ws.getD i .non) (its.getD i cf):=by
  intro ws its h
  induction h with
  |nil=>intro i hi;simp at hi
  |cons r t ih=>intro i hi;cases i with
   |zero=>E r
   |succ i=>E ih i (by simpa using hi)
 induction p with
 |nil=>E .nil
 |cons i r ih=>E .cons (at' h i (hp i aj)) (ih fun j hj=>hp j (ar _ hj))
ОLq{K:af}{F:Hp}:∀{xs:А D} {ws:А V},Reps K F xs ws->∀(i:Г),i<xs.length->Rep K F (xs.getD i .non) (ws.getD i .non)
 |_,_,.nil,i,hi=>absurd hi (fq _)
 |_,_,.cons h t,0,_=>h
 |_,_,.cons h t,i+1,hi=>Lq t i (Nat.lt_of_succ_lt_succ hi)
ОFb{K:af}{F:Hp}{xs:А D}{ws:А V}(h:Reps K F xs ws):∀{p:А Г},(∀i∈p,i<xs.length)->Reps K F (p.map fun i=>xs.getD i .non) (p.map fun i=>ws.getD i .non)
 | [],_=>.nil
 |i::r,hp=>.cons (Lq h i (hp i aj)) (Fb h fun j hj=>hp j (ar _ hj))
noncomputable abbrev Di(enc:D->А Г)(ks:А D)(i:Г):strKind.toKeyOrd.α:=enc (ks.getD i .non)
ОZe0{ks:А D}{enc:D->А Г}{A:ck}{kb:KK}(hu:A.units+16<d8)(hk:∀d∈ks,IsKey kb d)(he:∀a∈ks,∀b∈ks,Jk 16 a b=some (decide (enc a<enc b))){n:Г}(hn:ks.length=n):
  Cmp X pins σ H A (fun j kv H=>Rep X.K H (ks.getD j .non) kv) strKind.toKeyOrd (Di enc ks) n:=by
 intro H2 s2 ksV kvs sm I2 rv hl hkv h2
 have hlk:kvs.length=ks.length:=by have:=rv.length;W
 have rr:=Dh hlk hkv
 have get:∀i,i<ks.length->ks.getD i .non∈ks:=fun i hi=>by
  rw[bz,az hi];E List.getElem_mem hi
 R⟨tuples' true,fun Q q=>Zey I2 (Zf.refl H2) hk rr rv И q,fun i j Q hi hj q=>?_⟩
 O⟨v,a1,a2,a3⟩:=Reps.getD rr rv i И
 O⟨w,b1,b2,b3⟩:=Reps.getD rr rv j И
 have e1:ksV.getD i cf=ksV[i]:=by simp[bz,az (show i<ksV.length by W)]
 have e2:ksV.getD j cf=ksV[j]:=by simp[bz,az (show j<ksV.length by W)]
 rw[e1,e2]
 E Znj I2 (Zf.refl H2) (n:=14) hu (hk _ (get i a3)) (hk _ (get j b3)) a1 a2 b1 b2 (he _ (get i a3) _ (get j b3)) q
ОZe1{ks:А D}{enc:D->А Г}(he:∀a∈ks,∀b∈ks,Jk 16 a b=some (decide (enc a<enc b))){p:Array Г}{n:Г}(hn:ks.length=n)(hp:Pm n p)(hs:Lp (O:=strKind.toKeyOrd) (Di enc ks) p n):Rb ks p.toList:=by
 subst hn
 have pt:p.toList.Perm (cr ks.length):=Array.perm_iff_toList_perm.mp hp
 have get:∀i,i<ks.length->ks.getD i .non∈ks:=fun i hi=>by
  rw[bz,az hi];E List.getElem_mem hi
 R⟨pt,List.pairwise_iff_getElem.mpr fun i j hi hj hij=>?_⟩
 have hj':j<ks.length:=by have:=pt.length_eq;rw[List.length_range]at this;W
 have mi:p.toList[i]<ks.length:=cw.mp (pt.mem_iff.mp (List.getElem_mem hi))
 have mj:p.toList[j]<ks.length:=cw.mp (pt.mem_iff.mp (List.getElem_mem hj))
 rw[he _ (get _ mj) _ (get _ mi)]
 have z:=hs i j (Nat.le_of_lt hij) hj'
 unfold Kp at z
 have ei:p.getD i 0=p.toList[i]:=by rw[Array.getD_eq_getD_getElem?];simp at hi⊢;simp[hi]
 have ej:p.getD j 0=p.toList[j]:=by rw[Array.getD_eq_getD_getElem?];simp at hj⊢;simp[hj]
 rw[ei,ej]at z
 have z:decide (enc (ks.getD p.toList[j] .non)<enc (ks.getD p.toList[i] .non))=false:=z
 rw[z]
end
end TX
namespace TX
open PySem PySem.Spec PySem.Calls PyProof.Rows L2 DL
open PySem.W (CodeHd tabObj)
noncomputable abbrev spT(P:am)(q:Str)(sp:Sp):Sp:=fun vs H Q E=>H P=some (.tab q)/\sp vs H Q E
structure FunC(K:af)(x qual:Str)(st:Stmt)(f:am)(fd:cx)(c:am):В where
 ex:∃(oc:ah) (od:Б am) (kV doc pm:ah) (an:Б am) (ct:ah) (osl:Array (Б ah)),
  fd=PySem.W.fnOf x qual (Oh st) (Jf st) (Zx st) .none kV doc pm an (.ref c) ct/\K.lookup f=some ⟨oc,od,.func fd,osl⟩/\PySem.W.codeIn K (.ref c) qual=true
 kp:bq K (.ref f)=true
end TX
namespace TX
open PySem PySem.Spec PySem.Calls PyProof.Rows L2 DL
ПV8(a b:Str):Bool:=decide (¬b.cps.toList<a.cps.toList)
ПJ1(ss:А Str):А Str:=ss.mergeSort V8
ОYy(ss:А Str):(J1 ss).Perm ss:=List.mergeSort_perm _ _
ОLr(ss:А Str):(J1 ss).Pairwise fun a b=>V8 a b=true:=
 List.pairwise_mergeSort (le:=V8) (fun a b c h1 h2=>by
   simp only[V8,decide_eq_true_eq]at*
   E d4.mpr (List.le_trans (d4.mp h1) (d4.mp h2)))
  (fun a b=>by
   simp only[V8,Bool.or_eq_true,decide_eq_true_eq]
   rcases List.le_total a.cps.toList b.cps.toList with z|z
   ·E .inl (d4.mpr z)
   ·E .inr (d4.mpr z)) ss
ОZe2{a b:Str}(h1:V8 a b=true)(h2:V8 b a=true):a=b:=by
 simp only[V8,decide_eq_true_eq]at*
 have e:a.cps.toList=b.cps.toList:=List.le_antisymm (d4.mp h1) (d4.mp h2)
 have e2:a.cps=b.cps:=Array.toList_inj.mp e
 C a;C b
 simp only at e2
 subst e2
 rfl
ОZbg{a b:А Str}(hp:a.Perm b)(ha:a.Pairwise fun a b=>V8 a b=true)(hb:b.Pairwise fun a b=>V8 a b=true):a=b:=
 List.Perm.eq_of_pairwise (fun x y _ _ h1 h2=>Ze2 h1 h2) ha hb hp
ОFc:∀(l:А Str) (p:Str),risingS p l=true->(p::l).Pairwise fun a b=>V8 a b=true
 | [],p,_=>by simp
 |x::l,p,h=>by
  unfold risingS at h
  rw[Bool.and_eq_true]at h
  have ih:=Fc l x h.2
  have hpx:V8 p x=true:=by
   have:=h.1
   rw[ltCps_eq]at this
   simp only[V8,decide_eq_true_eq]
   simpa using this
  R List.pairwise_cons.mpr ⟨fun y hy=>?_,ih⟩
  rcases bo.mp hy with z|z
  ·rw[z];E hpx
  ·have hxy:=(List.pairwise_cons.mp ih).1 y z
   simp only[V8,decide_eq_true_eq]at*
   E d4.mpr (List.le_trans (d4.mp hpx) (d4.mp hxy))
ОZbh:∀{l:А Str},sortedS l=true->l.Pairwise fun a b=>V8 a b=true
 | [],_=>.nil
 |p::l,h=>Fc l p h
end TX
namespace L2
open PySem PySem.Spec PySem.Calls PyProof.Rows TX
section
variable{X:Cx}
ОAo:∀{ss:А Str} {vs:А ah},StrsAre vs ss->Zw (ss.map V.str) vs
 |_,_,.nil=>.nil
 |_,_,.cons n t h=>.cons ⟨t,rfl⟩ (Ao h)
ПZx6(K:af):А V->Hp->VK->Prop:=fun xs H Q=>∃l ss,xs=[.ref l]/\Ws K H l (ss.map V.str)/\ss.length<64/\∀q,H q=none->Q (.ref q) (Z5 H q (.lst ((J1 ss).map V.str)))
end
end L2
namespace DL
open PySem PySem.Spec PySem.Calls PyProof.Rows L2 TX
variable{K:af}
Рtxs?:А D->Б (А Str)
 | []=>some []
 | .str i::r=>(txs? r).bind fun l=>some (i::l)
 |_=>none
ОPu{F:Hp}:∀(ns:А Str),Reps K F (ns.map D.str) (ns.map V.str)
 | []=>.nil
 |n::ns=>.cons (.str n) (Pu ns)
ПZx7:А D->Б SV
 | [.lst xs]=>(txs? xs).bind fun ns=>if ns.length<64 then some (.ol ((J1 ns).map D.str))else none
 |_=>none
РltS:D->D->Б SV
 | .str a,.str b=>some (.fz (.bl (decide (a.cps.toList<b.cps.toList))))
 |_,_=>none
end DL
namespace TX
open PySem PySem.Spec PySem.Calls PyProof.Rows L2 DL
open PySem.W (CodeHd tabObj)
ПZ0o(names:А (Str×NameKind))(cl:А (Str×am)):Bool:=names.all fun p=>p.2 != .free|| (cl.lookup p.1).isSome
ПjsB(N:А Str)(sc lc:А (Str×NameKind)):А Г->А Str->Bool
 |j::js,y::fs=>N[j]? ==some y&&sc.lookup y==some .cell&&lc.lookup y==some .free&&jsB N sc lc js fs
 | [],[]=>true
 |_,_=>false
end TX
namespace DL
open PySem PySem.Spec PySem.Calls PyProof.Rows L2 TX
end DL
namespace DL
open PySem PySem.Spec PySem.Calls PyProof.Rows L2
section
variable{K:af}{Z:Ent K}{H:Hp}{σ:L2.St}
open Classical in
РZx8(fa:FA):FD:=fun δ=>(fa δ).bind fun p=>match Uk p.1 p.2 with
 |some [.int i,.int j]=>if K6 i/\K6 j then some (Ml i (j- i).toNat,p.2)else none
 |_=>none
end
end DL
namespace TX
open PySem PySem.Spec PySem.Calls PyProof.Rows L2 DL
open PySem.W (kas_sort kas_ask kas_item kat_run kat_snds)
section
variable{X:Cx}{pins:А (am×Obj)}{σ:L2.St}{H:Hp}{s:ak}{E:ah->ak->В}{its:А ah}{l:am}{KeyOk:Г->V->Hp->В}{Q:ah->ak->В}{O:KeyOrd}{key:Г->O.α}{kvs:А V}
ОV9(I:Inv X pins σ H s)(hl:s.heap.IsList l its.toArray)(h64:its.length<64)(rv:Zw kvs its)(hk:∀j kv,kvs[j]? =some kv->KeyOk j kv H)(hc:Cmp X pins σ H X.A.in1.in1 KeyOk O key its.length)
  (hQ:∀p D s' c,Pm its.length p->Lp key p its.length->X.s₀.heap.get? D=none->Inv X pins σ H s'->Q9 X pins H D->s'.heap.get? D=some (de "list" (gz (p.toList.map fun i=>its.getD i cf)) c)->Q (.ref D) s'):
  ba (bp X.prog X.w) X.A (call (.builtin "sorted") [.ref l]) Q E s:=by
 R Calls.call_function_entry kind_sorted plain_sorted entry_sorted (args_sorted1 _) ?_
 unfold Builtin.«sorted»
 R ad (m:=checkCount "sorted" 1 1 _) (ag ?_)
 R ad (collect_list hl ?_ (by rw[dq];W))
 R ad (wpAny_newList ?_ (by rw[dq];W))
 have hsz:((s.heap.push (de "list" #[] 0)).update s.heap.objs.size (c9 (· ++its.toArray))).objs.size=s.heap.objs.size+1:=by
  rw[Heap.size_update,size_push']
 have hoL:(((s.heap.push (de "list" #[] 0)).update s.heap.objs.size (c9 (· ++its.toArray))).push (de "list" its.toArray 0)).get? (s.heap.objs.size+1)=some (de "list" its.toArray 0):=by
  rw[<-hsz];E a9 _ rfl
 have keep:∀b o,s.heap.get? b=some o->(((s.heap.push (de "list" #[] 0)).update s.heap.objs.size (c9 (· ++its.toArray))).push (de "list" its.toArray 0)).get? b=some o:=fun b o q=>by
  have hlt:b<s.heap.objs.size:=bc q
  rw[Heap.get?_push_ne _ _ _ (by rw[hsz];E b4 (Nat.lt_succ_of_lt hlt)),Heap.get?_update_ne _ _ _ _ (b4 hlt),Heap.get?_push_ne _ _ _ (b4 hlt)]
  E q
 show ba _ _ _ _ _ {s with heap:=((s.heap.push (de "list" #[] 0)).update s.heap.objs.size (c9 (· ++its.toArray))).push (de "list" its.toArray 0)}
 rw[hsz]
 R ad (gc (c5 slot_list_sort ⟨_,hoL,rfl⟩ entry_list_sort ?body (args_list_sort _)))
 case body=>
  rw[list_sort_plain]
  have hs2:(((s.heap.push (de "list" #[] 0)).update s.heap.objs.size (c9 (· ++its.toArray))).push (de "list" its.toArray 0)).objs.size=s.heap.objs.size+2:=by rw[size_push',hsz]
  generalize hh:(((s.heap.push (de "list" #[] 0)).update s.heap.objs.size (c9 (· ++its.toArray))).push (de "list" its.toArray 0))=h1 at hoL keep hs2⊢
  generalize hD:s.heap.objs.size+1=D at hoL⊢
  have hDn: @Eq Г D (s.heap.objs.size+1):=hD.symm
  obtain⟨e1,ho1⟩:∃e1,(h1.update D (c9 fun _=>(#[]:Array ah))).get? D=some (de "list" #[] e1):=⟨_,get?_update_seq hoL fun _=> #[]⟩
  R ad (listItems_at hoL rfl ?_)
  R ad (listUpdate_at hoL rfl ?_ (by rw[bi,dq];W) (dn _))
  R ad (seqEpoch_at ho1 rfl ?_)
  R ad (wpAny_newTuple ?_ (by show its.length<=_;rw[dq];W))
  R ad (wpAny_newList ?_ (dn _))
  R gc ?_
  have kp:∀b o,s.heap.get? b=some o->(((h1.update D (c9 fun _=>(#[]:Array ah))).push (de "tuple" its.toArray 0)).push (de "list" #[] 0)).get? b=some o:=fun b o q=>by
   have hlt: @LT.lt Г _ b s.heap.objs.size:=bc q
   have:=keep b o q
   R aq _ (aq _ ?_)
   rw[Heap.get?_update_ne _ _ _ _ (b4 (show @LT.lt Г _ b D by W))]
   E this
  have nD:H D=none:=I.hok.fresh И
  have fD:Q9 X pins H D:=I.fpOk И nD
  have ho6:(((h1.update D (c9 fun _=>(#[]:Array ah))).push (de "tuple" its.toArray 0)).push (de "list" #[] 0)).get? D=some (de "list" #[] e1):=aq _ (aq _ ho1)
  have I6:Inv X pins σ H {s with heap:=((h1.update D (c9 fun _=>(#[]:Array ah))).push (de "tuple" its.toArray 0)).push (de "list" #[] 0)}:=I.kept kp
  show ba (bp X.prog X.w) X.A.in1.in1 _ _ _ {s with heap:=((h1.update D (c9 fun _=>(#[]:Array ah))).push (de "tuple" its.toArray 0)).push (de "list" #[] 0)}
  have hD0:X.s₀.heap.get? D=none:=Heap.get?_none_of_le (d3 I.sz И)
  generalize hs6:({s with heap:=((h1.update D (c9 fun _=>(#[]:Array ah))).push (de "tuple" its.toArray 0)).push (de "list" #[] 0)}:ak)=s6 at I6⊢
  have ho6:s6.heap.get? D=some (de "list" #[] e1):=by rw[<-hs6];E ho6
  have fin:∀(p:Array Г) (out:Array ah),out=gz (p.toList.map fun i=>its.getD i cf)->out.size<64->Pm its.length p->Lp key p its.length->
    Q (.ref D) {s6 with heap:=s6.heap.update D (c9 fun _=>out)}:=fun p out ho hz z1 z2=>by
   subst ho
   E hQ p D _ _ z1 z2 hD0 (Dg (o:=de "list" #[] 0) (xs:= #[]) (ys:= #[]) (n:=0) I6 fD) fD (get?_update_seq ho6 fun _=>_)
  try dsimp only
  by_cases h2:its.toArray.size<2
  ·rw[Е h2,Е h2]
   have h2':its.length<2:=by simpa using h2
   R ad (ag ?_)
   rw[StateT.run_pure]
   R ad (ag ?_)
   try dsimp only
   have eo:(arrOf (SortSt.mk' general' (its.toArray.zip its.toArray) #[] 7 none)).map (·.2)=gz ((gz (cr its.length)).toList.map fun i=>its.getD i cf):=by
    show(its.toArray.zip its.toArray).map (·.2)=_
    apply Array.toList_inj.mp
    rw[Array.toList_map,ksk_zip]
    simp only[List.toList_toArray]
    rw[List.map_snd_zip И]
    apply List.ext_getElem
    ·simp
    ·intro i a b;simp[a]
   rw[eo]
   R ad (seqEpoch_at ho6 rfl ?_)
   R ad (listUpdate_at ho6 rfl ?_ (dn _) (by rw[bi,dq];simp;W))
   show ba _ _ (if((e1 !=e1)=true)then _ else _) _ _ _
   simp only[bne_self_eq_false,bg,if_false]
   R ag ⟨_,rfl,ag ⟨_,rfl,fin (gz (cr its.length)) _ rfl (by simp;W) (Array.Perm.refl _) (fun i j hij hj=>?_)⟩⟩
   have:i=j:=by W
   subst this
   E KeyOrd.kle_refl _
  ·rw[Д h2,Д h2]
   have h2':2<=its.length:=Nat.le_of_not_lt (by simpa using h2)
   O⟨κ,hκ,hlt⟩:=hc H s6 its kvs (Zf.refl H) I6 rv rfl hk h2'
   R ad (wpAny_mono (hκ (fun κ' s'=>κ'=κ/\s'=s6) ⟨rfl,rfl⟩) (fun κ' s' z=>?_) fun _ _ z=>z.elim)
   O⟨rfl,rfl⟩:=z
   have g:=Wv.wp (lt:=Ez O key) (n:=its.length) (R:=fun q=>Pm its.length q/\Lp key q its.length) (cmp:=kas_ask X.prog X.w X.A.in1.in1 κ' its) (I:=fun s''=>s''=s') (Q:=fun q s''=>s''=s'/\Pm its.length q/\Lp key q its.length)
    (fun i j C s'' hi hj z hC=>by subst z;E hlt i j C hi hj (hC _ rfl)) (fun q s'' z1 z2=>⟨z2,z1⟩) (Iz (key:=key) И) rfl
   R ad (wpAny_mono (kat_run (Q:=fun st s''=>∃p:Array Г,s''=s'/\Pm its.length p/\Lp key p its.length/\arrOf st=p.map (kas_item (its.toArray.zip its.toArray))/\failedOf st=none) rfl h2' h64
    (fun p st s'' _ a1 a2 z=>⟨p,z.1,z.2.1,z.2.2,a1,a2⟩) g) (fun r s'' z=>?_) fun _ _ z=>z)
   O⟨⟨⟩,st⟩:=r
   O⟨p,rfl,z1,z2,z3,z4⟩:=z
   try dsimp only
   rw[kat_snds rfl z3]
   R ad (seqEpoch_at ho6 rfl ?_)
   R ad (listUpdate_at ho6 rfl ?_ (dn _) (by rw[bi,ao,aw,z1.size,dq];W))
   rw[z4]
   simp only[bne_self_eq_false,bg,if_false]
   E ag ⟨_,rfl,ag ⟨_,rfl,fin p _ rfl (by rw[bi,ao,aw,z1.size];E h64) z1 z2⟩⟩
end
end TX
namespace L2
open PySem PySem.Spec PySem.Calls PyProof.Rows DL TX
section
variable{X:Cx}
ПZk4(K:af):А V->Hp->VK->Prop:=fun vs H Q=>∃l F ds ws p,vs=[.ref l]/\Zf F H/\Ws K H l ws/\Reps K F ds ws/\KeysOk ds/\Rb ds p/\ws.length<64/\∀q,H q=none->Q (.ref q) (Z5 H q (.lst (p.map fun i=>ws.getD i .non)))
ОZbi(hu:X.A.units+64<d8):Qd X (.builtin "sorted") (Zk4 X.K):=by
 intro pins s σ H xs us Q I r h
 O⟨l,F,ds,ws,p0,rfl,le,hl,rr,ko,hp0,hz,q⟩:=h
 O⟨u,rfl,ru⟩:=Jp r
 C ru
 O⟨its,rvi,⟨o,n,ho,hcl,_,hd⟩,_⟩:=I.list hl
 have hlen:ds.length=its.length:=TX.Reps.lenV rr rvi
 have wlen:ws.length=its.length:=rvi.length
 O⟨enc,he,hdis⟩:=id ko.ord
 O⟨kb,hkb⟩:=id ko.key
 have hu2:X.A.in1.in1.units+16<cLine:=by show X.A.units+1+1+16<d8;W
 R V9 (KeyOk:=fun j kv H=>Rep X.K H (ds.getD j .non) kv) (O:=strKind.toKeyOrd) (key:=Di enc ds) I ⟨o,ho,hcl,n,hd⟩ И rvi (fun j kv e=>?_) (Ze0 hu2 hkb he hlen) ?hQ
 ·have hj:j<ws.length:=(ax.mp e).1
  have h1:=Lq rr j И
  have:ws.getD j .non=kv:=by rw[bz,e];rfl
  rw[this]at h1
  E h1.mono le
 case hQ=>
  intro p D s3 cc hp hs hD0 I3 fD gD
  have ep:p.toList=p0:=V7 ko (Ze1 he hlen hp hs) hp0
  rw[ep]at gD
  have bnd:∀i∈p0,i<its.length:=fun i hi=>by have:=cw.mp (hp0.1.mem_iff.mp hi);W
  have new:Z9 X.prog X.w (Z5 H D (.lst (p0.map fun i=>ws.getD i .non))) s3.heap D (.lst (p0.map fun i=>ws.getD i .non)):=by
   R⟨?_,p0.map fun i=>its.getD i cf,cc,Zbf rvi bnd,gD⟩
   have:=hp0.1.length_eq
   rw[List.length_range]at this
   rw[ao,this,dq]
   W
  E⟨.ref D,_,Inv.trackO I3 hD0 fD.1 fD.2.1 fD.2.2.2.2.1 fD.2.2.2.2.2 new,rfl,q D fD.1⟩
end
end L2
namespace DL
open PySem PySem.Spec PySem.Calls PyProof.Rows L2 TX
variable{K:af}
ПAp:А D->Б SV
 | [.lst xs]=>An xs xs
 |_=>none
section
variable{Z:Ent K}{H:Hp}{σ:L2.St}{Q:VK}{E:Yz}
ОZnk:Ju Z (Zk4 K) Ap:=by
 intro F H σ δ own vs ds sv Q s r e k
 unfold Ap at e
 split at e
 ·rename_i xs
  O⟨_,hz,ko,p,hp,rfl⟩:=Zir e
  cases r with
  |cons h t=>
   C t
   O⟨a,us,rfl,ha,ru⟩:=h.lst s.le
   have bnd:∀i∈p,i<xs.length:=fun i hi=>cw.mp (hp.1.mem_iff.mp hi)
   E⟨a,F,xs,us,p,rfl,s.le,ha,ru,ko,hp,by rw[<-Reps.len2 ru];E hz,fun q hq=>k.lst s (Fb ru bnd) hq⟩
 ·C e
end
section
variable{X:Cx}{Z:Ent X.K}{a b c:ci}{fa fb fc:FE}{pos:Pos}
ОZe3{p:Pos}(hv:X.A.units+64<d8)(hm:X.mg "sorted"=none)(ha:PE X a (Zc Z fa))(hg:Gl X "sorted":=by rfl)(he:ay [a] X.env=(false,f9 a X.env)::ay [] X.env:=by rfl)(hpl:(f7 pos (ay [] X.env)).any (·.1)=false:=by rfl):
  PE X (.Call (.Name "sorted" p) [a] [] pos) (Zc Z (Yl Ap (Zd fa Zn))):=M3 (Zbi hv) Znk hm L2.Bw (Zo ha Ym he) hg Й Й he hpl
end
end DL
namespace TX
open PySem PySem.Spec PySem.Calls PyProof.Rows L2 DL
РZnl(lt:D->D->Б Bool):Г->D->А D->Г->Б Г
 |b,_,[],_=>some b
 |b,kb,k::ks,j=>(lt k kb).bind fun c=>if c=true then Znl lt j k ks (j+1)else Znl lt b kb ks (j+1)
section
variable{X:Cx}{pins:А (am×Obj)}{σ:L2.St}{H:Hp}{s:ak}{ws:А V}{f l I S:am}{fo:Obj}{ks:А D}
ПMSt(X:Cx)(pins:А (am×Obj))(σ:L2.St)(H0:Hp)(f:am)(fo:Obj)(I S l:am)(j:Г)(best:Array ah)(H:Hp)(s:ak):Prop:=
 Zf H0 H/\Inv X pins σ H s/\Q9 X pins H I/\Q9 X pins H S/\Q9 X pins H f/\s.heap.IsListIter I l j/\(∃c,s.heap.get? S=some (de "list" best c))/\s.heap.get? f=some fo
ПZv4(X:Cx)(pins:А (am×Obj))(σ:L2.St)(H:Hp)(A:ck)(f:am)(fo:Obj)(ws:А V)(ks:А D):Prop:=
 ∀(j:Г) (u:ah) (H1:Hp) (s1:ak),j<ws.length->Zp (ws.getD j .non) u->Zf H H1->Inv X pins σ H1 s1->s1.heap.get? f=some fo->Q9 X pins H1 f->
  ba (bp X.prog X.w) A (call (.ref f) [u]) (fun k s2=>∃kv H2,Zf H1 H2/\Inv X pins σ H2 s2/\Un (frs X.stack) [] H1 H2 s1.heap s2.heap/\Zp kv k/\Rep X.K H2 (ks.getD j .non) kv) (fun _ _=>False) s1
end
end TX
namespace TX
open PySem PySem.Spec PySem.Calls PyProof.Rows L2 DL
open PySem.W (CodeHd kla_fn kla_obj)
РZv5(lt:D->D->Б Bool):А D->Б (Б Г)
 | []=>some none
 |k::ks=>(Znl lt 0 k ks 1).bind fun m=>some (some m)
end TX
namespace TX
open PySem PySem.Spec PySem.Calls PyProof.Rows L2 DL
open PySem.W (CodeHd kla_fn kla_obj)
РZv6(fb:FE)(js:А Г)(d:D)(δ:Yf):Б (RV×Yf):=match d with
 | .lst xs=>(frzAll (js.map RV.bw) δ).bind fun r=>(Zez fb r.1 xs).bind fun ks=>(Zv5 (Jk 16) ks).bind fun m=>some (.tmp (.fz ((m.map fun i=>xs.getD i .non).getD .non)),r.2)
 |_=>none
РZx9(fa:FE)(js:А Г)(fb:FE):FE:=fun δ=>(fa δ).bind fun p=>(frz p.1 p.2).bind fun q=>Zv6 fb js q.1 q.2
end TX
namespace DL
open PySem PySem.Spec PySem.Calls PyProof.Rows L2 TX
end DL
namespace TX
open PySem PySem.Spec PySem.Calls PyProof.Rows L2 DL
section
variable{prog:bu}{w:cj}{A:ck}{E:ah->ak->В}{s:ak}{d:am}{od:Obj}{es:Array DictEntry}{ep:Г}
ОZbj(hh:A.handled=none)(I:am)(hne:d≠I)(c:od.data= .dict es ep):Walks prog w A I [I,d] [I] es.size (fun i v=>∃e,es[i]? =some e/\v=e.key) (fun i h=>h.IsKeyIter I d i es.size ep/\h.get? d=some od)where
 sub:=fun b hb=>by simp at hb;simp[hb]
 frame:=fun _ _ _ st hk=>⟨G8 st.1 fun o e=>hk I Л o e,hk d Л _ st.2⟩
 item:=fun i s Q E hi st hQ=>by
  have he:es[i]? =some es[i]:=by simp[hi]
  R G6 st.1 st.2 c rfl he fun h' t' hs'=>?_
  E hQ _ h' s.toks ⟨_,he,rfl⟩ ⟨t',(hs'.2 d hne).trans st.2⟩ fun b o hb e=>(hs'.2 b (fun h=>hb (by simp[h]))).trans e
 done:=fun s Q E st hQ=>G7 hh st.1 st.2 c rfl (a7 _) fun h' he'=>hQ h' s.toks fun b o hb e=>he' b o (fun h=>hb (by simp[h])) e
 self:=fun _ _ _ _ st hQ=>wpAny_pyIter_keyiter st.1 hQ
ОZit(lo:(d==ff)=false)(x:od.ExactDict)(c:od.data= .dict es ep):PySem.W.KdlSrc prog w "dict" d d es.size (fun i v=>∃e,es[i]? =some e/\v=e.key) (fun h=>h.get? d=some od)where
 type:=fun _ g=>⟨od,g,x.1⟩
 there:=fun _ g=>⟨bc g,bc g⟩
 keep:=fun _ _ g hk=>hk d (.inl rfl) _ g
 notList:=by decide
 notTuple:=by decide
 hint:=fun _ _ _ _ g hq=>PySem.W.kdl_hint_dict ⟨od,g,x.1⟩ hq
 iter:=fun _ _ hh g=>⟨_,_,(fun _ _ hq=>G5 lo g x c hq),Zbj hh _ (b4 (bc g)) c,⟨⟨_,a9 _ rfl,rfl,rfl⟩,aq _ g⟩⟩
ОPv{Q:А ah->ak->В}(hh:A.handled=none)(lo:(d==ff)=false)(x:od.ExactDict)(c:od.data= .dict es ep)(g:s.heap.get? d=some od)(hn:es.size<=1000)
  (h:∀h' tk,(∀b o,s.heap.get? b=some o->h'.get? b=some o)->s.heap.objs.size<=h'.objs.size->Q (es.toList.map (·.key)) {s with heap:=h',toks:=tk}):ba (bp prog w) A (collect (.ref d)) Q E s:=by
 have hlr:d<s.heap.objs.size:=bc g
 have nS:s.heap.objs.size≠d:=Nat.ne_of_gt hlr
 unfold collect
 R ad (wpAny_runValue (gr PySem.F.entry_proto_collect ?_))
 rw[d7 PySem.F.plain_proto_collect _]
 show ba _ A.in1 (newList [] >>=fun l=>again (.builtin "list.__iadd__" ⟨[l,.ref d],[]⟩)) _ _ s
 R ad (dv ?_)
 R ag ⟨plainId_quiet PySem.F.plain_list_iadd _,gr PySem.F.entry_list_iadd ?_⟩
 rw[d7 PySem.F.plain_list_iadd _]
 show ba _ A.in1 (Builtin.List.listExtendWith (.ref s.heap.objs.size) (.ref d) (.ref s.heap.objs.size)) _ _ _
 R PySem.W.kdl_extend (R:=fun rr s'=>match rr with
  | .ok (.ret v)=>ba (bp prog w) A (match v with
   | .ref a=>(load a >>=fun x=>match x.data with
    | .seq xs _=>pure xs.toList
    |_=>unsupported "internal:collect")
   |_=>unsupported "internal:collect") Q E s'
  | .ok _=>False
  | .error e=>E e s') (s:={s with heap:=s.heap.push {cls:=.type "list",data:=.seq #[] 0}}) (Zit (prog:=prog) (w:=w) lo x c) hh (aq _ g) s.heap.objs.size nS nS _ 0 (a9 _ rfl) (fun h' tk acc' c' hk gS hacc=>?_) (by rw[dq];W)
 show ba _ A (load s.heap.objs.size >>=_) _ _ _
 R ad (wpAny_load gS ?_)
 R ag ?_
 have e:acc'.toList=es.toList.map (·.key):=by
  apply List.ext_getElem?
  intro i
  rw[b5,bf,b5]
  cases hi:acc'[i]? with
  |none=>
   have:acc'.size<=i:=by simpa using hi
   rw[hacc.1]at this
   rw[show es[i]? =none by simpa using this];rfl
  |some v=>
   O⟨e,he,rfl⟩:=hacc.2 i v hi
   rw[he];rfl
 show Q acc'.toList _
 rw[e]
 E h h' tk (fun b o q=>hk b o (b4 (bc q)) (aq _ q)) (Nat.le_of_lt (bc gS))
end
end TX
namespace TX
open PySem PySem.Spec PySem.Calls PyProof.Rows L2 DL
open PySem.W (kas_sort kas_ask kas_item kat_run kat_snds)
section
variable{X:Cx}{pins:А (am×Obj)}{σ:L2.St}{H:Hp}{s:ak}{E:ah->ak->В}{its:А ah}{KeyOk:Г->V->Hp->В}{Q:ah->ak->В}{O:KeyOrd}{key:Г->O.α}{kvs:А V}
ОZbk(I:Inv X pins σ H s)(h64:its.length<64)(rv:Zw kvs its)(hk:∀j kv,kvs[j]? =some kv->KeyOk j kv H)(hc:Cmp X pins σ H X.A.in1.in1 KeyOk O key its.length)
  (hQ:∀p D s' c,Pm its.length p->Lp key p its.length->X.s₀.heap.get? D=none->Inv X pins σ H s'->Q9 X pins H D->s'.heap.get? D=some (de "list" (gz (p.toList.map fun i=>its.getD i cf)) c)->Q (.ref D) s'):
  ba (bp X.prog X.w) X.A.in1 (do
   let l<-newList its
   let _<-holding [l] (call (.builtin "list.sort") [l] [])
   ret l) (fun fin s'=>∃v,fin= .done (.ret v)/\Q v s') E s:=by
 R ad (wpAny_newList ?_ (by rw[dq];W))
 have hoL:(s.heap.push (de "list" its.toArray 0)).get? s.heap.objs.size=some (de "list" its.toArray 0):=a9 _ rfl
 have keep:∀b o,s.heap.get? b=some o->(s.heap.push (de "list" its.toArray 0)).get? b=some o:=fun b o q=>aq _ q
 R ad (gc (c5 (s:={s with heap:=s.heap.push (de "list" its.toArray 0)}) slot_list_sort ⟨_,hoL,rfl⟩ entry_list_sort ?body (args_list_sort _)))
 case body=>
  rw[list_sort_plain]
  have hs2:(s.heap.push (de "list" its.toArray 0)).objs.size=s.heap.objs.size+1:=size_push' ..
  generalize hh:(s.heap.push (de "list" its.toArray 0))=h1 at hoL keep hs2⊢
  generalize hD:s.heap.objs.size=D at hoL⊢
  have hDn: @Eq Г D s.heap.objs.size:=hD.symm
  obtain⟨e1,ho1⟩:∃e1,(h1.update D (c9 fun _=>(#[]:Array ah))).get? D=some (de "list" #[] e1):=⟨_,get?_update_seq hoL fun _=> #[]⟩
  R ad (listItems_at hoL rfl ?_)
  R ad (listUpdate_at hoL rfl ?_ (by rw[bi,dq];W) (dn _))
  R ad (seqEpoch_at ho1 rfl ?_)
  R ad (wpAny_newTuple ?_ (by show its.length<=_;rw[dq];W))
  R ad (wpAny_newList ?_ (dn _))
  R gc ?_
  have kp:∀b o,s.heap.get? b=some o->(((h1.update D (c9 fun _=>(#[]:Array ah))).push (de "tuple" its.toArray 0)).push (de "list" #[] 0)).get? b=some o:=fun b o q=>by
   have hlt: @LT.lt Г _ b s.heap.objs.size:=bc q
   have:=keep b o q
   R aq _ (aq _ ?_)
   rw[Heap.get?_update_ne _ _ _ _ (b4 (show @LT.lt Г _ b D by W))]
   E this
  have nD:H D=none:=I.hok.fresh И
  have fD:Q9 X pins H D:=I.fpOk И nD
  have ho6:(((h1.update D (c9 fun _=>(#[]:Array ah))).push (de "tuple" its.toArray 0)).push (de "list" #[] 0)).get? D=some (de "list" #[] e1):=aq _ (aq _ ho1)
  have I6:Inv X pins σ H {s with heap:=((h1.update D (c9 fun _=>(#[]:Array ah))).push (de "tuple" its.toArray 0)).push (de "list" #[] 0)}:=I.kept kp
  show ba (bp X.prog X.w) X.A.in1.in1 _ _ _ {s with heap:=((h1.update D (c9 fun _=>(#[]:Array ah))).push (de "tuple" its.toArray 0)).push (de "list" #[] 0)}
  have hD0:X.s₀.heap.get? D=none:=Heap.get?_none_of_le (d3 I.sz И)
  generalize hs6:({s with heap:=((h1.update D (c9 fun _=>(#[]:Array ah))).push (de "tuple" its.toArray 0)).push (de "list" #[] 0)}:ak)=s6 at I6⊢
  have ho6:s6.heap.get? D=some (de "list" #[] e1):=by rw[<-hs6];E ho6
  have fin:∀(p:Array Г) (out:Array ah),out=gz (p.toList.map fun i=>its.getD i cf)->out.size<64->Pm its.length p->Lp key p its.length->
    Q (.ref D) {s6 with heap:=s6.heap.update D (c9 fun _=>out)}:=fun p out ho hz z1 z2=>by
   subst ho
   E hQ p D _ _ z1 z2 hD0 (Dg (o:=de "list" #[] 0) (xs:= #[]) (ys:= #[]) (n:=0) I6 fD) fD (get?_update_seq ho6 fun _=>_)
  try dsimp only
  by_cases h2:its.toArray.size<2
  ·rw[Е h2,Е h2]
   have h2':its.length<2:=by simpa using h2
   R ad (ag ?_)
   rw[StateT.run_pure]
   R ad (ag ?_)
   try dsimp only
   have eo:(arrOf (SortSt.mk' general' (its.toArray.zip its.toArray) #[] 7 none)).map (·.2)=gz ((gz (cr its.length)).toList.map fun i=>its.getD i cf):=by
    show(its.toArray.zip its.toArray).map (·.2)=_
    apply Array.toList_inj.mp
    rw[Array.toList_map,ksk_zip]
    simp only[List.toList_toArray]
    rw[List.map_snd_zip И]
    apply List.ext_getElem
    ·simp
    ·intro i a b;simp[a]
   rw[eo]
   R ad (seqEpoch_at ho6 rfl ?_)
   R ad (listUpdate_at ho6 rfl ?_ (dn _) (by rw[bi,dq];simp;W))
   show ba _ _ (if((e1 !=e1)=true)then _ else _) _ _ _
   simp only[bne_self_eq_false,bg,if_false]
   R ag ⟨_,rfl,ag ⟨_,rfl,fin (gz (cr its.length)) _ rfl (by simp;W) (Array.Perm.refl _) (fun i j hij hj=>?_)⟩⟩
   have:i=j:=by W
   subst this
   E KeyOrd.kle_refl _
  ·rw[Д h2,Д h2]
   have h2':2<=its.length:=Nat.le_of_not_lt (by simpa using h2)
   O⟨κ,hκ,hlt⟩:=hc H s6 its kvs (Zf.refl H) I6 rv rfl hk h2'
   R ad (wpAny_mono (hκ (fun κ' s'=>κ'=κ/\s'=s6) ⟨rfl,rfl⟩) (fun κ' s' z=>?_) fun _ _ z=>z.elim)
   O⟨rfl,rfl⟩:=z
   have g:=Wv.wp (lt:=Ez O key) (n:=its.length) (R:=fun q=>Pm its.length q/\Lp key q its.length) (cmp:=kas_ask X.prog X.w X.A.in1.in1 κ' its) (I:=fun s''=>s''=s') (Q:=fun q s''=>s''=s'/\Pm its.length q/\Lp key q its.length)
    (fun i j C s'' hi hj z hC=>by subst z;E hlt i j C hi hj (hC _ rfl)) (fun q s'' z1 z2=>⟨z2,z1⟩) (Iz (key:=key) И) rfl
   R ad (wpAny_mono (kat_run (Q:=fun st s''=>∃p:Array Г,s''=s'/\Pm its.length p/\Lp key p its.length/\arrOf st=p.map (kas_item (its.toArray.zip its.toArray))/\failedOf st=none) rfl h2' h64
    (fun p st s'' _ a1 a2 z=>⟨p,z.1,z.2.1,z.2.2,a1,a2⟩) g) (fun r s'' z=>?_) fun _ _ z=>z)
   O⟨⟨⟩,st⟩:=r
   O⟨p,rfl,z1,z2,z3,z4⟩:=z
   try dsimp only
   rw[kat_snds rfl z3]
   R ad (seqEpoch_at ho6 rfl ?_)
   R ad (listUpdate_at ho6 rfl ?_ (dn _) (by rw[bi,ao,aw,z1.size,dq];W))
   rw[z4]
   simp only[bne_self_eq_false,bg,if_false]
   E ag ⟨_,rfl,ag ⟨_,rfl,fin p _ rfl (by rw[bi,ao,aw,z1.size];E h64) z1 z2⟩⟩
end
end TX
namespace L2
open PySem PySem.Spec PySem.Calls PyProof.Rows DL TX
section
variable{X:Cx}
ПZya(K:af):А V->Hp->VK->Prop:=fun vs H Q=>∃a kvs ep bs F ds p,vs=[.ref a]/\Zf F H/\H a=some (.dT kvs ep bs)/\Reps K F ds (bs.map V.ref)/\KeysOk ds/\Rb ds p/\bs.length<64/\∀q,H q=none->Q (.ref q) (Z5 H q (.lst (p.map fun i=>(bs.map V.ref).getD i .non)))
end
end L2
namespace DL
open PySem PySem.Spec PySem.Calls PyProof.Rows L2 TX
section
variable{K:af}{F H:Hp}{v:V}
noncomputable abbrev Zk5(k:А Key):D:=.tup (k.map R4)
ПZyb:А D->Б SV
 | [.dT ks _]=>An (ks.map Zk5) (ks.map Zk5)
 |_=>none
variable{Z:Ent K}{σ:L2.St}{Q:VK}{E:Yz}
end
end DL
namespace L2
open PySem PySem.Spec PyProof.Rows
variable{X:Cx}{pos:Pos}
ПZ0q(K:af)(n:Г)(t:TGs):TG:=fun v σ H Q=>∃a xs,v= .ref a/\Ws K H a xs/\xs.length=n/\t xs σ H Q
end L2
namespace DL
open PySem PySem.Spec PyProof.Rows L2
variable{K:af}{Z:Ent K}{H:Hp}{σ:L2.St}
ПZrm(n:Г)(g:FGs):FG:=⟨fun d δ=>match d with
 | .lst xs=>if xs.length=n then g.run xs δ else none
 |_=>none,g.tch⟩
@[simp] theorem Zrn(n:Г)(g:FGs)(xs:А D)(δ:Yf):(Zrm n g).run (.lst xs) δ=if xs.length=n then g.run xs δ else none:=rfl
variable{X:Cx}{Z:Ent X.K}{pos:Pos}
end DL
namespace TT
open PySem PySem.SetTable SX
ПXa(m:Г)(p:Probe):Probe:=
 if p.more > 0 then{p with j:=p.j+1,more:=p.more- 1}else
 {p with j:=(leap m p.i p.perturb).1,more:=runEnd m (leap m p.i p.perturb).1- (leap m p.i p.perturb).1,i:=(leap m p.i p.perturb).1,perturb:=(leap m p.i p.perturb).2}
ОZnm(t:gp)(p:Probe):t.advance p=Xa t.mask p:=rfl
ПWh(m:Г):Г->Probe->Probe
 |0,p=>p
 |n+1,p=>Wh m n (Xa m p)
ОQg(m:Г):∀(a b:Г) (p:Probe),Wh m (a+b) p=Wh m b (Wh m a p)
 |0,b,p=>by rw[Nat.zero_add];rfl
 |a+1,b,p=>by rw[Nat.add_right_comm];E Qg m a b (Xa m p)
ПRc(m i q:Г):Probe:={j:=i,more:=runEnd m i- i,i:=i,perturb:=q,dummy:=none}
ОDj(m:Г)(p:Probe):(Xa m p).dummy=p.dummy:=by unfold Xa;split<;> rfl
ОPw(m:Г):∀(n:Г) (p:Probe),(Wh m n p).dummy=p.dummy
 |0,_=>rfl
 |n+1,p=>(Pw m n (Xa m p)).trans (Dj m p)
ОZnn(m i:Г):runEnd m i- i<=9:=by unfold runEnd;split<;> W
ОZe4{m i:Г}(h:i<=m):runEnd m i<=m:=by unfold runEnd;split<;> W
ОLs(m i:Г):i<=runEnd m i:=by unfold runEnd;split<;> W
ОJm{m i q:Г}:∀{k:Г},k<=runEnd m i- i->Wh m k (Rc m i q)={j:=i+k,more:=runEnd m i- i- k,i:=i,perturb:=q,dummy:=none}
 |0,_=>rfl
 |k+1,h=>by
  rw[Qg m k 1,Jm И]
  show Xa m _=_
  unfold Xa
  rw[Е (by show runEnd m i- i- k > 0;W)]
  rfl
ОOq(m i q:Г):Wh m (runEnd m i- i+1) (Rc m i q)=Rc m (leap m i q).1 (leap m i q).2:=by
 rw[Qg m _ 1,Jm (a7 _)]
 show Xa m _=_
 unfold Xa
 rw[Д (by show¬runEnd m i- i- (runEnd m i- i) > 0;W)]
 rfl
ПJe(m:Г):Г->Г×Г->Г×Г
 |0,x=>x
 |n+1,x=>Je m n (leap m x.1 x.2)
ОFd(m:Г):∀(a b:Г) (x:Г×Г),Je m (a+b) x=Je m b (Je m a x)
 |0,b,x=>by rw[Nat.zero_add];rfl
 |a+1,b,x=>by rw[Nat.add_right_comm];E Fd m a b _
ОPx{m:Г}:∀(n:Г) (x:Г×Г),x.1<=m->(Je m n x).1<=m
 |0,_,h=>h
 |n+1,x,_=>Px n _ (Nat.le_of_lt_succ (Nat.mod_lt (x.1*5+1+x.2 / 32) (Nat.succ_pos m)))
ОFe(m:Г):∀(n:Г) (x:Г×Г),(Je m n x).2=x.2 / 32^n
 |0,x=>by simp[Je]
 |n+1,x=>by
  show(Je m n (leap m x.1 x.2)).2=_
  rw[Fe m n]
  show x.2 / 32 / 32^n=_
  rw[Nat.div_div_eq_div_mul,Nat.pow_succ,Nat.mul_comm]
Пorb(m:Г):Г->Г->Г
 |0,_=>0
 |n+1,i=>(1<<<i)|||orb m n ((i*5+1) % (m+1))
ОDk{m:Г}:∀(n i j:Г),(orb m n i).testBit j=true->∃c,c<n/\(Je m c (i,0)).1=j
 |0,i,j,h=>by simp[orb]at h
 |n+1,i,j,h=>by
  unfold orb at h
  rw[Nat.testBit_or,Bool.or_eq_true]at h
  rcases h with h|h
  ·R⟨0,by W,?_⟩
   rw[Nat.one_shiftLeft,Nat.testBit_two_pow]at h
   show i=j
   E of_decide_eq_true h
  ·O⟨c,hc,e⟩:=Dk n _ j h
   R⟨c+1,by W,?_⟩
   show(Je m c (leap m i 0)).1=j
   have:leap m i 0=((i*5+1) % (m+1),0):=by simp[leap]
   rw[this];E e
ПMsk(m:Г):Prop:=m=7\/m=31\/m=127
ОZiu{m:Г}(h:Msk m):(cr (m+1)).all (fun i=>orb m (m+1) i==2^(m+1)- 1)=true:=by
 rcases h with rfl|rfl|rfl<;> decide+kernel
ОZk7{m i q j:Г}(h:Msk m)(hi:i<=m)(hq:q<2^64)(hj:j<=m):∃c,c<m+15/\(Je m c (i,q)).1=j:=by
 have h13:(Je m 13 (i,q)).2=0:=by
  rw[Fe]
  E Nat.div_eq_of_lt (cu hq Й)
 have hle:=Px (m:=m) 13 (i,q) hi
 generalize hx:Je m 13 (i,q)=x at h13 hle
 O⟨a,b⟩:=x
 simp only at h13 hle
 subst h13
 have ho:=g7.mp (Ziu h) a (cw.mpr И)
 have ho:orb m (m+1) a=2^(m+1)- 1:=by simpa using ho
 O⟨c,hc,e⟩:=Dk (m+1) a j (by rw[ho,Nat.testBit_two_pow_sub_one];simpa using by W)
 E⟨13+c,by W,by rw[Fd,hx];E e⟩
ОZe5(m:Г):∀(c i q:Г),∃n,n<=10*c/\Wh m n (Rc m i q)=Rc m (Je m c (i,q)).1 (Je m c (i,q)).2
 |0,i,q=>⟨0,by W,rfl⟩
 |c+1,i,q=>by
  O⟨n,hn,e⟩:=Ze5 m c (leap m i q).1 (leap m i q).2
  R⟨runEnd m i- i+1+n,by have:=Znn m i;W,?_⟩
  rw[Qg,Oq,e]
  rfl
noncomputable abbrev Qr(m:Г)(h:Int):Probe:=Rc m (bits h % (m+1)) (bits h)
ОZro(t:gp)(h:Int):t.probeStart h=Qr t.mask h:=rfl
ОDl(h:Int):bits h<2^64:=by
 unfold bits
 have h1:=dw h (show(0:Int)<2^64 by decide)
 have h2:=fw h (show(2^64:Int)≠0 by decide)
 W
ОZrp{m:Г}(hm:Msk m)(h:Int){j:Г}(hj:j<=m):∃n,n<10*turns m/\(Wh m n (Qr m h)).j=j:=by
 O⟨c,hc,e⟩:=Zk7 (q:=bits h) hm (Nat.le_of_lt_succ (Nat.mod_lt (bits h) (Nat.succ_pos m))) (Dl h) hj
 O⟨n,hn,e2⟩:=Ze5 m c (bits h % (m+1)) (bits h)
 E⟨n,by unfold turns;W,by rw[e2];E e⟩
noncomputable abbrev sq(m:Г)(h:Int)(n:Г):Nat:=(Wh m n (Qr m h)).j
ОDm{m:Г}:∀(n:Г) (p:Probe),p.i<=m->p.j+p.more<=m->(Wh m n p).j<=m
 |0,p,_,h=>by show p.j<=m;W
 |n+1,p,hi,h=>by
  R Dm n (Xa m p) ?_ ?_
  ·unfold Xa
   split
   ·E hi
   ·E Nat.le_of_lt_succ (Nat.mod_lt (p.i*5+1+p.perturb / 32) (Nat.succ_pos m))
  ·unfold Xa
   split
   ·show p.j+1+(p.more- 1)<=m;W
   ·have hl:(leap m p.i p.perturb).1<=m:=Nat.le_of_lt_succ (Nat.mod_lt (p.i*5+1+p.perturb / 32) (Nat.succ_pos m))
    have:=Ze4 hl
    have:=Ls m (leap m p.i p.perturb).1
    show(leap m p.i p.perturb).1+(runEnd m (leap m p.i p.perturb).1- (leap m p.i p.perturb).1)<=m
    W
ОZe6(m:Г)(h:Int)(n:Г):sq m h n<=m:=by
 have h1:bits h % (m+1)<=m:=Nat.le_of_lt_succ (Nat.mod_lt _ (Nat.succ_pos m))
 R Dm n _ h1 ?_
 have:=Ze4 h1
 have:=Ls m (bits h % (m+1))
 show bits h % (m+1)+(runEnd m (bits h % (m+1))- bits h % (m+1))<=m
 W
ОR9{t:gp}(hr:C7 t.place.toList){i j:Г}(h:t.place[i]? =some j):t.slot j= .live i:=by
 have hi:i<t.place.size:=(f8.mp h).1
 have a:At t.place j i:=by
  R⟨by W,fun k y hk e=>Om hr e h hk,fun k y hk e=>?_⟩
  rcases Nat.lt_or_eq_of_le hk with z|z
  ·E Nat.le_of_lt (Om hr h e z)
  ·subst z;rw[h]at e;C e;E a7 _
 have e:=Dc (Ah hr j) a
 unfold SetTable.slot
 dsimp only
 rw[e,h,Е Л]
ОLu{t:gp}{i j:Г}(h:t.slot j= .live i):t.place[i]? =some j:=by
 unfold SetTable.slot at h
 dsimp only at h
 split at h
 ·rename_i e
  C h
  simpa using e
 ·split at h<;> C h
ОDn{t:gp}(hr:C7 t.place.toList){j:Г}(h:t.slot j= .empty):j∉t.place.toList:=fun z=>by
 O⟨i,hi,e⟩:=dy z
 have:t.place[i]? =some j:=by rw[<-b5,ax];E⟨hi,e⟩
 rw[R9 hr this]at h
 C h
ОAq{t:gp}(hd:t.dummies= #[])(j:Г):t.slot j= .empty\/∃i,t.slot j= .live i:=by
 unfold SetTable.slot
 dsimp only
 split
 ·E .inr ⟨_,rfl⟩
 ·rw[hd,Dd];E .inl Л
ОAr{t:gp}(hd:t.dummies= #[]){j:Г}(h:j∉t.place.toList):t.slot j= .empty:=by
 rcases Aq hd j with z|⟨i,z⟩
 ·E z
 ·have:=Lu z
  rw[<-b5]at this
  E absurd (cz this) h
ОDp{t:gp}(hd:t.dummies= #[])(f:Г->Int)(h:Int):∀(fuel:Г) (p:Probe),p.dummy=none->(∃n,n<fuel/\t.slot (Wh t.mask n p).j= .empty)->
  (∃n,n<fuel/\SetTable.probe.go t f h fuel p=some (.empty (Wh t.mask n p).j none)/\t.slot (Wh t.mask n p).j= .empty/\∀k,k<n->∃i,t.slot (Wh t.mask k p).j= .live i/\f i≠h)\/
  (∃n i,n<fuel/\SetTable.probe.go t f h fuel p=some (.candidate (Wh t.mask n p).j i (Wh t.mask (n+1) p))/\t.slot (Wh t.mask n p).j= .live i/\f i=h/\∀k,k<n->∃i,t.slot (Wh t.mask k p).j= .live i/\f i≠h)
 |0,p,_,⟨n,hn,_⟩=>absurd hn (fq _)
 |fuel+1,p,hp,⟨n,hn,he⟩=>by
  unfold SetTable.probe.go
  rcases Aq hd p.j with hs|⟨i,hs⟩
  ·R .inl ⟨0,by W,?_,hs,fun k hk=>absurd hk (fq _)⟩
   rw[hs]
   show some (Met.empty p.j p.dummy)=_
   rw[hp];rfl
  ·rw[hs]
   dsimp only
   by_cases hf:f i=h
   ·R .inr ⟨0,i,by W,?_,hs,hf,fun k hk=>absurd hk (fq _)⟩
    rw[Е (by simpa using hf)]
    rfl
   ·rw[Д (by simpa using hf),Znm]
    cases n with
    |zero=>
     have he:t.slot p.j= .empty:=he
     rw[hs]at he;C he
    |succ n=>
     have first:∀n,(∀k,k<n->∃i,t.slot (Wh t.mask k (Xa t.mask p)).j= .live i/\f i≠h)->∀k,k<n+1->∃i,t.slot (Wh t.mask k p).j= .live i/\f i≠h:=fun n a k hk=>by
      cases k with
      |zero=>E⟨i,hs,hf⟩
      |succ k=>E a k И
     rcases Dp hd f h fuel (Xa t.mask p) ((Dj _ _).trans hp) ⟨n,by W,he⟩with⟨n',h1,h2,h3,h4⟩|⟨n',i',h1,h2,h3,h4,h5⟩
     ·E .inl ⟨n'+1,by W,h2,h3,first n' h4⟩
     ·E .inr ⟨n'+1,i',by W,h2,h3,h4,first n' h5⟩
ПLk(m:Г)(pl:А Г)(h:Int)(j:Г):Prop:=∃n,sq m h n=j/\∀k,k<n->sq m h k∈pl
ОLk.mono{m:Г}{pl pl':А Г}(hs:∀x∈pl,x∈pl'){h:Int}{j:Г}(l:Lk m pl h j):Lk m pl' h j:=let⟨n,a,b⟩:=l;⟨n,a,fun k hk=>hs _ (b k hk)⟩
structure Tb(t:gp)(hs:А Int):В where
 dum:t.dummies= #[]
 msk:Msk t.mask
 rise:C7 t.place.toList
 le:∀j∈t.place.toList,j<=t.mask
 len:t.place.toList.length=hs.length
 room:hs.length<=t.mask
 look:∀e∈hs.zip t.place.toList,Lk t.mask t.place.toList e.1 e.2
ОTb.fits{t:gp}{hs:А Int}(b:Tb t hs){n:Г}(hn:n=hs.length):t.fits n=true:=by
 have h1:=b.len
 have h2:=b.room
 have h3:t.place.size=hs.length:=by rw[<-h1,aw]
 unfold SetTable.fits SetTable.fill
 rw[b.dum,h3,hn]
 simp
 W
ОTb.gave{t:gp}{hs:А Int}(b:Tb t hs):t.gaveWay=false:=by
 unfold SetTable.gaveWay
 rcases b.msk with e|e|e<;> rw[e]<;> rfl
ОC9{l:А Г}(h:C7 l):l.Nodup:=h.imp fun z=>b4 z
ОDq{m:Г}{pl:А Г}(nd:pl.Nodup)(hl:pl.length<=m):∃j,j<=m/\j∉pl:=by
 apply Classical.byContradiction
 intro hn
 have all:∀j,j<=m->j∈pl:=fun j hj=>Classical.byContradiction fun z=>hn ⟨j,hj,z⟩
 have:(cr (m+1)).length<=pl.length:=List.Nodup.length_le_of_subset List.nodup_range fun j hj=>all j (by have:=cw.mp hj;W)
 rw[List.length_range]at this
 W
ОTb.empty{t:gp}{hs:А Int}(b:Tb t hs)(h:Int):∃n,n<10*turns t.mask/\t.slot (sq t.mask h n)= .empty:=by
 O⟨j,hj,hn⟩:=Dq (C9 b.rise) (by rw[b.len];E b.room)
 O⟨n,h1,h2⟩:=Zrp b.msk h hj
 E⟨n,h1,by show t.slot (Wh t.mask n (Qr t.mask h)).j= .empty;rw[h2];E Ar b.dum hn⟩
ОTb.fresh(f m:Г)(l:Bool):Tb (SetTable.fresh f m l) []:=⟨rfl,.inl rfl,List.Pairwise.nil,(fun _ z=>nomatch z),rfl,dn _,(fun _ z=>nomatch z)⟩
ОZiv{α β:Type}(p:Г){as:А α}{bs:А β}(h:as.length=bs.length)(a:α)(b:β):(as.take p++a::as.drop p).zip (bs.take p++b::bs.drop p)=(as.zip bs).take p++(a,b)::(as.zip bs).drop p:=by
 rw[List.zip_append (by simp[h]),List.zip_cons_cons]
 simp only[List.zip_eq_zipWith,List.take_zipWith,List.drop_zipWith]
ОTb.put{t:gp}{hs:А Int}(b:Tb t hs)(h:Int){n:Г}(he:t.slot (sq t.mask h n)= .empty)(hb:∀k,k<n->t.slot (sq t.mask h k)≠.empty)(hr:hs.length+1<=t.mask):
  Tb (t.put (sq t.mask h n)).1 (hs.take (below t.place (sq t.mask h n))++h::hs.drop (below t.place (sq t.mask h n))):=by
 have hn:t.place[SetTable.below t.place (sq t.mask h n)]?≠some (sq t.mask h n):=fun z=>by
  rw[R9 b.rise z]at he;C he
 have hni:=Dn b.rise he
 have hbm:∀k,k<n->sq t.mask h k∈t.place.toList:=fun k hk=>Classical.byContradiction fun z=>hb k hk (Ar b.dum z)
 have hjle:=Ze6 t.mask h n
 have hlk:Lk t.mask t.place.toList h (sq t.mask h n):=⟨n,rfl,hbm⟩
 generalize sq t.mask h n=j at*
 have hpl:(t.put j).1.place.toList=t.place.toList.take (below t.place j)++j::t.place.toList.drop (below t.place j):=SetTable.toList_insertAt _ _ _
 have hsub:∀x∈t.place.toList,x∈(t.put j).1.place.toList:=fun x hx=>by
  rw[hpl]
  rw[<-List.take_append_drop (below t.place j) t.place.toList]at hx
  rcases cn.mp hx with z|z
  ·E List.mem_append_left _ z
  ·E c6 _ (ar _ z)
 have hm:(t.put j).1.mask=t.mask:=rfl
 R⟨?_,by rw[hm];E b.msk,Zer b.rise hn,fun x hx=>?_,?_,?_,fun e he'=>?_⟩
 ·show(if has t.dummies j then _ else t.dummies)= #[]
  rw[b.dum,Dd];rfl
 ·rw[hm]
  rw[hpl]at hx
  rcases cn.mp hx with z|z
  ·E b.le x (List.mem_of_mem_take z)
  ·rcases bo.mp z with z|z
   ·rw[z];E hjle
   ·E b.le x (List.mem_of_mem_drop z)
 ·rw[hpl]
  have:=b.len
  simp only[bj,gn,bn,List.length_drop]
  W
 ·rw[hm]
  simp only[bj,gn,bn,List.length_drop]
  W
 ·rw[hpl,Ziv _ b.len.symm]at he'
  rw[hm]
  rcases cn.mp he' with z|z
  ·E(b.look e (List.mem_of_mem_take z)).mono hsub
  ·rcases bo.mp z with z|z
   ·rw[z];E hlk.mono hsub
   ·E(b.look e (List.mem_of_mem_drop z)).mono hsub
ОTb.plainOff{t:gp}{hs:А Int}(b:Tb t hs):Tb {t with plain:=false} hs:=⟨b.dum,b.msk,b.rise,b.le,b.len,b.room,b.look⟩
end TT
namespace TT
open PySem PySem.SetTable SX
ПOw(owner:Array (Б Г))(j:Г):Prop:=(owner.getD j (some 0)).isNone=false
ОFf{m:Г}{owner:Array (Б Г)}:∀(fuel i q:Г),(∃c,c<fuel/\¬Ow owner (Je m c (i,q)).1)->
  ∃n,layClean.free m owner fuel i q=some (Wh m n (Rc m i q)).j/\¬Ow owner (Wh m n (Rc m i q)).j/\∀k,k<n->Ow owner (Wh m k (Rc m i q)).j
 |0,i,q,⟨c,hc,_⟩=>absurd hc (fq _)
 |fuel+1,i,q,⟨c,hc,hn⟩=>by
  unfold layClean.free
  cases hf:(cr (runEnd m i+1- i)).find? fun k=>(owner.getD (i+k) (some 0)).isNone with
  |some k=>
   have hk:=List.find?_range_eq_some.mp hf
   have hr:=Ls m i
   have hkl:k<=runEnd m i- i:=by have:=cw.mp hk.2.1;W
   R⟨k,?_,?_,fun k' hk'=>?_⟩
   ·rw[Jm hkl]
   ·rw[Jm hkl]
    intro z
    unfold Ow at z
    dsimp only at z
    rw[hk.1]at z;C z
   ·rw[Jm И]
    have:=hk.2.2 k' hk'
    unfold Ow
    dsimp only
    simpa using this
  |none=>
   have hall:=List.find?_eq_none.mp hf
   have hr:=Ls m i
   have own:∀k,k<=runEnd m i- i->Ow owner (i+k):=fun k hk=>by
    have:=hall k (cw.mpr И)
    unfold Ow
    cases z:(owner.getD (i+k) (some 0)).isNone with
    |false=>rfl
    |true=>E absurd z this
   cases c with
   |zero=>E absurd (own 0 (dn _)) hn
   |succ c=>
    O⟨n,h1,h2,h3⟩:=Ff fuel (leap m i q).1 (leap m i q).2 ⟨c,by W,hn⟩
    R⟨runEnd m i- i+1+n,?_,?_,fun k hk=>?_⟩
    ·rw[Qg,Oq];E h1
    ·rw[Qg,Oq];E h2
    ·by_cases hk2:k<=runEnd m i- i
     ·rw[Jm hk2];E own k hk2
     ·have e:k=runEnd m i- i+1+(k- (runEnd m i- i+1)):=by W
      rw[e,Qg,Oq]
      E h3 _ И
structure Ly(m:Г)(hs:А Int)(owner:Array (Б Г))(js:А Г):В where
 size:owner.size=m+1
 len:js.length=hs.length
 nd:js.Nodup
 le:∀j∈js,j<=m
 own:∀j k,j<=m->(owner.getD j none=some k↔js[k]? =some j)
 look:∀e∈hs.zip js,Lk m js e.1 e.2
ОLy.ow{m:Г}{hs:А Int}{owner:Array (Б Г)}{js:А Г}(l:Ly m hs owner js){j:Г}(hj:j<=m):Ow owner j↔j∈js:=by
 have hs:j<owner.size:=by rw[l.size];W
 have e1:owner.getD j (some 0)=owner[j]:=by simp[Array.getD,hs]
 have e2:owner.getD j none=owner[j]:=by simp[Array.getD,hs]
 unfold Ow
 rw[e1]
 constructor
 ·intro h
  cases z:owner[j]with
  |none=>rw[z]at h;C h
  |some k=>E cz ((l.own j k hj).mp (by rw[e2];E z))
 ·intro h
  O⟨k,hk,e⟩:=dy h
  have:=(l.own j k hj).mpr (ax.mpr ⟨hk,e⟩)
  rw[e2]at this
  rw[this];rfl
ОLy.nil(m:Г):Ly m [] (Array.replicate (m+1) none) []:=by
 R⟨by simp,rfl,c7,(fun _ z=>nomatch z),fun j k hj=>?_,(fun _ z=>nomatch z)⟩
 have:(Array.replicate (m+1) (none:Б Г)).getD j none=none:=by simp[Array.getD]
 rw[this]
 simp
ОLy.step{m:Г}{hs:А Int}{owner:Array (Б Г)}{js:А Г}(hm:Msk m)(l:Ly m hs owner js)(hl:hs.length<=m)(h:Int):
  ∃j,layClean.free m owner (turns m) (bits h % (m+1)) (bits h)=some j/\Ly m (hs++[h]) (owner.setIfInBounds j (some hs.length)) (js++[j]):=by
 O⟨j0,hj0,hn0⟩:=Dq l.nd (by rw[l.len];E hl)
 O⟨c,hc,e⟩:=Zk7 (q:=bits h) hm (Nat.le_of_lt_succ (Nat.mod_lt (bits h) (Nat.succ_pos m))) (Dl h) hj0
 O⟨n,h1,h2,h3⟩:=Ff (m:=m) (owner:=owner) (turns m) (bits h % (m+1)) (bits h) ⟨c,hc,by rw[e,l.ow hj0];E hn0⟩
 have hle:=Ze6 m h n
 have hlk:Lk m js h (sq m h n):=⟨n,rfl,fun k hk=>(l.ow (Ze6 m h k)).mp (h3 k hk)⟩
 have hnj:sq m h n∉js:=fun z=>h2 ((l.ow hle).mpr z)
 R⟨sq m h n,h1,?_⟩
 generalize sq m h n=j at*
 have hsz:j<owner.size:=by rw[l.size];W
 R⟨by simp[l.size],by simp[l.len],di.mpr ⟨l.nd,by simp,fun a ha b hb=>?_⟩,fun x hx=>?_,fun x k hx=>?_,fun e he=>?_⟩
 ·rw[au.mp hb];E fun z=>hnj (z▸ha)
 ·rcases cn.mp hx with z|z
  ·E l.le x z
  ·rw[au.mp z];E hle
 ·by_cases hxj:x=j
  ·subst hxj
   have:(owner.setIfInBounds x (some hs.length)).getD x none=some hs.length:=by simp[Array.getD,hsz]
   rw[this]
   constructor
   ·intro z;C z
    rw[<-l.len];simp
   ·intro z
    by_cases hk:k<js.length
    ·rw[List.getElem?_append_left hk]at z
     E absurd (cz z) hnj
    ·have hk2:=(ax.mp z).1
     rw[bj,List.length_singleton]at hk2
     rw[<-l.len,show k=js.length by W]
  ·have hxs:x<owner.size:=by rw[l.size];W
   have:(owner.setIfInBounds j (some hs.length)).getD x none=owner.getD x none:=by
    simp[Array.getD,hxs,Array.getElem_setIfInBounds,Ne.symm hxj]
   rw[this,l.own x k hx]
   by_cases hk:k<js.length
   ·rw[List.getElem?_append_left hk]
   ·rw[List.getElem?_eq_none И]
    constructor
    ·intro z;C z
    ·intro z
     have hk2:=(ax.mp z).1
     rw[bj,List.length_singleton]at hk2
     have:k=js.length:=by W
     subst this
     rw[List.getElem?_append_right (a7 _)]at z
     simp at z
     E absurd z.symm hxj
 ·rw[List.zip_append l.len.symm]at he
  rcases cn.mp he with z|z
  ·E(l.look e z).mono fun x hx=>List.mem_append_left _ hx
  ·simp at z
   rw[z]
   E hlk.mono fun x hx=>List.mem_append_left _ hx
ОDr{m:Г}(hm:Msk m):∀(rest hs:А Int) (owner:Array (Б Г)) (js:А Г),Ly m hs owner js->hs.length+rest.length<=m+1->
  ∃owner' js',rest.foldl (fun(acc:Б (Array (Б Г)×Г)) h=>do
   let(owner,k)<-acc
   let j<-layClean.free m owner (turns m) (bits h % (m+1)) (bits h)
   pure (owner.setIfInBounds j (some k),k+1)) (some (owner,hs.length))=some (owner',(hs++rest).length)/\Ly m (hs++rest) owner' js'
 | [],hs,owner,js,l,_=>⟨owner,js,by simp,by simpa using l⟩
 |h::rest,hs,owner,js,l,hl=>by
  O⟨j,e,l2⟩:=l.step hm (by simp only[bn]at hl;W) h
  O⟨owner',js',e2,l3⟩:=Dr hm rest (hs++[h]) _ _ l2 (by simp only[bj,bn,List.length_nil]at hl⊢;W)
  R⟨owner',js',?_,by simpa using l3⟩
  rw[List.foldl_cons]
  have z:(do
   let(owner,k)<-(some (owner,hs.length):Б (Array (Б Г)×Г))
   let j<-layClean.free m owner (turns m) (bits h % (m+1)) (bits h)
   pure (owner.setIfInBounds j (some k),k+1))=some (owner.setIfInBounds j (some hs.length),(hs++[h]).length):=by
   show(layClean.free m owner (turns m) (bits h % (m+1)) (bits h) >>=fun j=>pure (owner.setIfInBounds j (some hs.length),hs.length+1))=_
   rw[e]
   simp
  rw[z,e2]
  simp
ОZbl{t:gp}{es:Array (Int×ah)}{wanted:Г}(hm:Msk (sizeAbove wanted- 1))(hl:es.size<=sizeAbove wanted- 1):
  ∃t' order,t.relaid (es.map fun(e:Int×ah)=>e.1) wanted=some (t',order)/\t'.led=t.led/\(order.filterMap fun i=>es[i]?).toList.Perm es.toList/\Tb t' ((order.filterMap fun i=>es[i]?).toList.map fun(e:Int×ah)=>e.1):=by
 unfold SetTable.relaid SetTable.laid SetTable.layClean
 generalize sizeAbove wanted- 1=m at*
 have hsl:(es.map (·.1)).toList.length=es.size:=by simp
 O⟨owner,js,e,l⟩:=Dr hm (es.map fun e=>e.1).toList [] _ [] (Ly.nil m) (by rw[hsl];simp;W)
 rw[<-Array.foldl_toList]
 have e:((es.map (·.1)).toList.foldl (fun(acc:Б (Array (Б Г)×Г)) h=>do
   let(owner,k)<-acc
   let j<-layClean.free m owner (turns m) (bits h % (m+1)) (bits h)
   pure (owner.setIfInBounds j (some k),k+1)) (some (Array.replicate (m+1) none,0)))=some (owner,(([]:А Int)++(es.map fun(e:Int×ah)=>e.1).toList).length):=e
 rw[e]
 rw[dz]at l
 have jl:js.length=es.size:=by rw[l.len,hsl]
 generalize hlive:((cr (m+1)).filterMap fun j=>(owner.getD j none).map (j,·))=live
 have mem:∀j k,(j,k)∈live↔j<=m/\js[k]? =some j:=fun j k=>by
  rw[<-hlive,List.mem_filterMap]
  constructor
  ·rintro⟨j',hj',z⟩
   O⟨k',z1,z2⟩:=cm.mp z
   C z2
   have hj:j<=m:=by have:=cw.mp hj';W
   E⟨hj,(l.own j k hj).mp z1⟩
  ·rintro⟨hj,z⟩
   E⟨j,cw.mpr И,by rw[(l.own j k hj).mpr z];rfl⟩
 have rise:C7 (live.map (·.1)):=by
  rw[<-hlive]
  unfold C7
  rw[df]
  R List.Pairwise.filterMap _ (fun a b hab c hc d hd=>?_) List.pairwise_lt_range
  O⟨_,_,rfl⟩:=cm.mp hc
  O⟨_,_,rfl⟩:=cm.mp hd
  E hab
 have pmem:∀x,x∈live.map (·.1)↔x∈js:=fun x=>by
  rw[a6]
  constructor
  ·rintro⟨⟨j,k⟩,hp,rfl⟩
   E cz ((mem j k).mp hp).2
  ·intro hx
   O⟨k,hk,e⟩:=dy hx
   E⟨(x,k),(mem x k).mpr ⟨l.le x hx,ax.mpr ⟨hk,e⟩⟩,rfl⟩
 have plen:live.length=es.size:=by
  have p:(live.map (·.1)).Perm js:=(List.perm_ext_iff_of_nodup (C9 rise) l.nd).mpr pmem
  have:=p.length_eq
  rw[ao]at this
  W
 have ond:(live.map (·.2)).Nodup:=by
  have Ep:live.Pairwise fun a b=>a.1≠b.1:=df.mp (C9 rise)
  R df.mpr (List.Pairwise.imp_of_mem (fun{a b} ha hb hab z=>?_) Ep)
  O⟨j1,k1⟩:=a
  O⟨j2,k2⟩:=b
  simp only at z hab
  subst z
  have z1:=((mem j1 k1).mp ha).2
  have z2:=((mem j2 k1).mp hb).2
  rw[z1]at z2
  E hab (dm.inj z2)
 have operm:(live.map (·.2)).Perm (cr es.size):=by
  R(List.perm_ext_iff_of_nodup ond List.nodup_range).mpr fun k=>?_
  rw[a6,cw]
  constructor
  ·rintro⟨⟨j,k⟩,hp,rfl⟩
   have:=(ax.mp ((mem j k).mp hp).2).1
   W
  ·intro hk
   have hk':k<js.length:=by W
   E⟨(js[k],k),(mem _ _).mpr ⟨l.le _ (List.getElem_mem hk'),az hk'⟩,rfl⟩
 R⟨{mask:=m,place:=(live.map (·.1)).toArray,dummies:= #[],finger:=t.finger,led:=t.led,moves:=t.movedTo m,plain:=t.plain},(live.map (·.2)).toArray,by rw[<-hlive];rfl,rfl,?_,?_⟩
 ·rw[Array.toList_filterMap]
  E(operm.filterMap _).trans (by rw[filterMap_getElem?_range])
 ·have ge:∀p∈live,∃v,es[p.2]? =some v:=fun p hp=>by
   have:=cw.mp (operm.mem_iff.mp (a6.mpr ⟨p,hp,rfl⟩))
   E⟨es[p.2],by simp[this]⟩
  have fm:∀l:А (Г×Г),(∀p∈l,∃v,es[p.2]? =some v)->(l.map (·.2)).filterMap (fun i=>es[i]?)=l.map fun p=>es.getD p.2 (0,cf):=by
   intro l
   induction l with
   |nil=>intro _;rfl
   |cons p l ih=>
    intro h
    O⟨v,hv⟩:=h p aj
    have hv2:=f8.mp hv
    rw[av,List.filterMap_cons_some hv,ih fun q hq=>h q (ar _ hq),av]
    congr 1
    simp only[Array.getD,hv2.1,↓reduceDIte]
    E hv2.2.symm
  have el:(((live.map (·.2)).toArray.filterMap fun i=>es[i]?).toList.map fun(e:Int×ah)=>e.1)=live.map fun p=>(es.getD p.2 (0,cf)).1:=by
   rw[Array.toList_filterMap,List.toList_toArray,fm live ge,bx]
   rfl
  rw[el]
  R⟨rfl,hm,by simpa using rise,fun j hj=>?_,?_,?_,fun e he=>?_⟩
  ·E l.le j ((pmem j).mp (by simpa using hj))
  ·simp
  ·rw[ao,plen];E hl
  ·have:e∈(live.map fun p=>(es.getD p.2 (0,cf)).1).zip (live.map (·.1)):=by simpa using he
   rw[List.zip_map']at this
   O⟨⟨j,k⟩,hp,rfl⟩:=a6.mp this
   O⟨hj,hk⟩:=(mem j k).mp hp
   have hkl:=(ax.mp hk).1
   have hke:k<es.size:=by W
   have hz:((es.getD k (0,cf)).1,j)∈(es.map (·.1)).toList.zip js:=by
    rw[List.mem_iff_getElem?]
    R⟨k,?_⟩
    rw[List.getElem?_zip_eq_some]
    R⟨?_,hk⟩
    simp[hke,Array.getD]
   have lk:=l.look _ hz
   show Lk m _ _ _
   R lk.mono fun x hx=>?_
   have:=(pmem x).mpr hx
   simpa using this
end TT
namespace TT
open PySem PySem.SetTable PySem.Spec PyProof.Rows SX L2
section
variable{prog:bu}{w:cj}{A:ck}{E:ah->ak->В}{s:ak}
ОDs(n:Г){v:ah}(h:carriedByValue v=true):ofAClassStatement n v=pure false:=by
 cases v with
 |ref a=>simp[carriedByValue]at h
 |_=>first|rfl| (unfold ofAClassStatement;rfl)
ОPy{m:Г}{ks:А Key}{a:am}{Q:Bool->ak->В}(hk:IsTupleKey (Zj prog w) s.heap ks a)(h:Q false s):ba (bp prog w) A (ofAClassStatement (m+1) (.ref a)) Q E s:=by
 have hT:=hk.typeIs
 O⟨o,items,n,ho,_,hd,hi⟩:=hk
 unfold ofAClassStatement
 R ad (wpAny_typeOf hT ?_)
 dsimp only
 rw[Е Й]
 R ad (ag ?_)
 simp only[du,bg,if_false]
 R ad (wpAny_seqItems ho hd ?_)
 dsimp only
 R ad ?_
 rw[<-Array.forIn_toList]
 R wpAny_forIn_list _ (fun rest r s'=>r.1=none/\s'=s/\∀v∈rest,carriedByValue v=true) _ ?_ ?_ _ _ ⟨rfl,rfl,hi.byValue⟩
 ·rintro v rest r s' ⟨hr,rfl,hall⟩
  rw[Ds _ (hall v aj)]
  R ad (ag ?_)
  simp only[bg,if_false]
  E ag ⟨rfl,rfl,fun u hu'=>hall u (ar _ hu')⟩
 ·rintro⟨r1,r2⟩ s' ⟨hr,rfl,_⟩
  simp only at hr
  subst hr
  E ag h
ОZk8{k:Zk}{a:am}{Q:Bool->ak->В}(hk:Ur prog w s.heap k a)(h:Q false s):ba (bp prog w) A (ofAClassStatement 8 (.ref a)) Q E s:=by
 cases k with
 |inl l=>E Py hk h
 |inr p=>
  have hT:=hk.typeIs
  O⟨n,l⟩:=p
  O⟨o,items,m,t,b,ho,_,hd,hi,hb⟩:=hk
  unfold ofAClassStatement
  R ad (wpAny_typeOf hT ?_)
  dsimp only
  rw[Е Й]
  R ad (ag ?_)
  simp only[du,bg,if_false]
  R ad (wpAny_seqItems ho hd ?_)
  dsimp only
  R ad ?_
  rw[<-Array.forIn_toList,hi]
  simp only[List.forIn_cons,List.forIn_nil]
  rw[Ds _ (v:=Value.int n t) rfl]
  R ad (ad (ag ?_))
  simp only[bg,if_false]
  R ag ?_
  dsimp only
  R ad (ad (Py hb ?_))
  simp only[bg,if_false]
  E ag (ag (ag h))
ОZiw(n:Г){v:ah}(h:carriedByValue v=true):∃b,hashByValue n v=pure b:=by
 cases v with
 |ref a=>simp[carriedByValue]at h
 |_=>unfold hashByValue;E⟨_,rfl⟩
ОPz{m:Г}{ks:А Key}{a:am}{Q:Bool->ak->В}(hk:IsTupleKey (Zj prog w) s.heap ks a)(h:∀b,Q b s):ba (bp prog w) A (hashByValue (m+1) (.ref a)) Q E s:=by
 have hT:=hk.typeIs
 O⟨o,items,n,ho,_,hd,hi⟩:=hk
 unfold hashByValue
 R ad (wpAny_specialOf hT F.slot_tuple_hash.lookup ?_)
 R ad (wpAny_seqItems ho hd ?_)
 R ad ?_
 show ba _ _ (forIn items _ _) _ _ s
 rw[<-Array.forIn_toList]
 R wpAny_forIn_list _ (fun rest r s'=>r.1=none/\s'=s/\∀v∈rest,carriedByValue v=true) _ ?_ ?_ _ _ ⟨rfl,rfl,hi.byValue⟩
 ·rintro v rest r s' ⟨hr,rfl,hall⟩
  O⟨b,hb⟩:=Ziw m (hall v aj)
  rw[hb]
  R ad (ag ?_)
  cases b with
  |true=>
   simp only[du,bg,if_false]
   E ag ⟨rfl,rfl,fun u hu'=>hall u (ar _ hu')⟩
  |false=>
   simp only[Bool.not_false,if_true]
   E ag (ag (h _))
 ·rintro⟨r1,r2⟩ s' ⟨hr,rfl,_⟩
  simp only at hr
  subst hr
  E ag (h _)
ОZrq{k:Zk}{a:am}{Q:Bool->ak->В}(hk:Ur prog w s.heap k a)(h:∀b,Q b s):ba (bp prog w) A (hashByValue 8 (.ref a)) Q E s:=by
 cases k with
 |inl l=>E Pz hk h
 |inr p=>
  have hT:=hk.typeIs
  O⟨n,l⟩:=p
  O⟨o,items,m,t,b,ho,_,hd,hi,hb⟩:=hk
  unfold hashByValue
  R ad (wpAny_specialOf hT F.slot_tuple_hash.lookup ?_)
  R ad (wpAny_seqItems ho hd ?_)
  R ad ?_
  show ba _ _ (forIn items _ _) _ _ s
  rw[<-Array.forIn_toList,hi]
  simp only[List.forIn_cons,List.forIn_nil]
  have e:hashByValue 7 (Value.int n t)=pure true:=by unfold hashByValue;rfl
  rw[e]
  R ad (ad (ag ?_))
  simp only[du,bg,if_false]
  R ag ?_
  dsimp only
  R ad (ad (Pz hb fun bb=>?_))
  cases bb with
  |true=>
   simp only[du,bg,if_false]
   E ag (ag (ag (h _)))
  |false=>
   simp only[Bool.not_false,if_true]
   E ag (ag (ag (h _)))
ОZno{k:Zk}{a:am}{Q:Bool->ak->В}(hk:Ur prog w s.heap k a){ys:А ah}(hy:∀v∈ys,∃k' b,v= .ref b/\Ur prog w s.heap k' b)(h:Q false s):ba (bp prog w) A (searchCouldBeSeen (.ref a) ys) Q E s:=by
 unfold searchCouldBeSeen
 R ad ?_
 R wpAny_forIn_list _ (fun rest r s'=>r.1=none/\s'=s/\∀v∈rest,∃k' b,v= .ref b/\Ur prog w s.heap k' b) _ ?_ ?_ _ _ ⟨rfl,rfl,hy⟩
 ·rintro v rest r s' ⟨hr,rfl,hall⟩
  O⟨k',b,rfl,hb⟩:=hall v aj
  have go:∀u∈rest,∃k' b,u= .ref b/\Ur prog w s'.heap k' b:=fun u hu=>hall u (ar _ hu)
  dsimp only
  by_cases hab:(a==b|| (carriedByValue (.ref a)&&carriedByValue (.ref b)))=true
  ·rw[Е hab]
   E ag ⟨rfl,rfl,go⟩
  ·rw[Д hab]
   R ad (Kc hk ?_)
   simp only[du,bg,if_false]
   R ad (Kc hb ?_)
   simp only[du,bg,if_false]
   R ad (Zk8 hk ?_)
   simp only[bg,if_false]
   R ad (Zk8 hb ?_)
   simp only[bg,if_false]
   E ag ⟨rfl,rfl,go⟩
 ·rintro⟨r1,r2⟩ s' ⟨hr,rfl,_⟩
  simp only at hr
  subst hr
  E ag h
ОZbm{α:Type}{c:В}[Decidable c]{m:Sem Bool}{X K:Sem α}{Q:α->ak->В}(hm:∀Q':Bool->ak->В,Q' false s->ba (bp prog w) A m Q' E s)(hK:ba (bp prog w) A K Q E s):
  ba (bp prog w) A (if c then m >>=fun r=>if r=true then X else K else K) Q E s:=by
 split
 ·R ad (hm _ ?_)
  simp only[bg,if_false]
  E hK
 ·E hK
noncomputable abbrev ent(prog:bu)(w:cj)(z:Zk×am):Int×Value:=(Ya prog w z.1,bv z.2)
variable{a b:am}{o:Obj}{es:Array (Int×ah)}{ep:Г}{t:gp}{zs:А (Zk×am)}{k:Zk}
ОZe7(he:es.toList=zs.map (ent prog w))(i:Г):es[i]? =(zs[i]?).map (ent prog w):=by rw[<-b5,he,bf]
ОZnp(he:es.toList=zs.map (ent prog w))(tb:Tb t (es.toList.map (·.1))){i:Г}{z:Zk×am}(hz:zs[i]? =some z):∃n,t.slot (sq t.mask (Ya prog w z.1) n)= .live i/\∀k,k<n->t.slot (sq t.mask (Ya prog w z.1) k)≠.empty:=by
 have hl:zs.length=t.place.toList.length:=by rw[tb.len,he,ao,ao]
 have hi:i<zs.length:=(ax.mp hz).1
 have hp:t.place.toList[i]? =some (t.place.toList[i]'И):=az _
 have hh:(es.toList.map (·.1))[i]? =some (Ya prog w z.1):=by rw[he,bf,bf,hz];rfl
 O⟨n,e1,e2⟩:=tb.look (Ya prog w z.1,t.place.toList[i]'И) (List.mem_iff_getElem?.mpr ⟨i,List.getElem?_zip_eq_some.mpr ⟨hh,hp⟩⟩)
 R⟨n,?_,fun k hk=>?_⟩
 ·R R9 tb.rise ?_
  rw[<-b5,hp]
  E congrArg some e1.symm
 ·have:=e2 k hk
  intro z
  E Dn tb.rise z this
ОDt(hu:A.units+1<d8)(hk:Ur prog w s.heap k b)(ho:s.heap.get? a=some o)(hd:o.data= .set es ep t)(he:es.toList=zs.map (ent prog w))(his:∀z∈zs,Ur prog w s.heap z.1 z.2)(tb:Tb t (es.toList.map (·.1))){N:Г}(hN:N<10*turns t.mask)(hE:t.slot (sq t.mask (Ya prog w k) N)= .empty){Q:SetFound->ak->В}
  (hfound:k∈zs.map (·.1)->∀r,Q (.there r) s) (hfree:∀n,k∉zs.map (·.1)->t.slot (sq t.mask (Ya prog w k) n)= .empty->(∀j,j<n->t.slot (sq t.mask (Ya prog w k) j)≠.empty)->Q (.free (sq t.mask (Ya prog w k) n) false) s):
  ∀(fuel n:Г) (st:Б Probe),st.getD (t.probeStart (Ya prog w k))=Wh t.mask n (Qr t.mask (Ya prog w k))->n<=N->N<n+fuel->(∀j,j<n->∃i z,t.slot (sq t.mask (Ya prog w k) j)= .live i/\zs[i]? =some z/\z.1≠k)->
   ba (bp prog w) A (setSearchFrom a (.ref b) (Ya prog w k) true fuel st) Q E s
 |0,n,st,_,h1,h2,_=>by W
 |fuel+1,n,st,hst,h1,h2,hb=>by
  have hfit:t.fits es.size=true:=tb.fits Л
  unfold setSearchFrom
  R ad (wpAny_setState_of ho hd hfit ?_)
  dsimp only
  rw[tb.gave]
  simp only[bg,if_false]
  rw[hst]
  have hj:∀j,(Wh t.mask j (Wh t.mask n (Qr t.mask (Ya prog w k)))).j=sq t.mask (Ya prog w k) (n+j):=fun j=>by rw[<-Qg]
  unfold SetTable.probe
  rcases Dp tb.dum (fun i=>(es[i]?.map (·.1)).getD 0) (Ya prog w k) (10*turns t.mask) (Wh t.mask n (Qr t.mask (Ya prog w k))) ((Pw _ _ _).trans rfl) ⟨N- n,by W,by rw[hj,show n+(N- n)=N by W];E hE⟩with⟨m,g1,g2,g3,g4⟩|⟨m,i,g1,g2,g3,g4,g5⟩
  ·have key:∀f:Г->Int,f=(fun i=>(es[i]?.map (·.1)).getD 0)->SetTable.probe.go t f (Ya prog w k) (10*turns t.mask) (Wh t.mask n (Qr t.mask (Ya prog w k)))=some (.empty (Wh t.mask m (Wh t.mask n (Qr t.mask (Ya prog w k)))).j none):=fun f hf=>by rw[hf];E g2
   rw[key]
   case a=>rfl
   dsimp only
   rw[hj]at g3⊢
   R ag (hfree (n+m) ?_ g3 fun j hjm=>?_)
   ·intro hin
    O⟨z,hz,ez⟩:=a6.mp hin
    O⟨i0,hi0,e0⟩:=dy hz
    have hz0:zs[i0]? =some z:=ax.mpr ⟨hi0,e0⟩
    O⟨n0,q1,q2⟩:=Znp he tb hz0
    rw[ez]at q1 q2
    rcases Nat.lt_trichotomy n0 (n+m)with c|c|c
    ·rcases gy n0 n with c'|c'
     ·O⟨i,z',w1,w2,w3⟩:=hb n0 c'
      rw[q1]at w1;C w1
      rw[hz0]at w2;C w2
      E w3 ez
     ·O⟨i,w1,w2⟩:=g4 (n0- n) И
      rw[hj,show n+(n0- n)=n0 by W,q1]at w1
      C w1
      apply w2
      show(es[i0]?.map (·.1)).getD 0=_
      rw[Ze7 he,hz0,<-ez];rfl
    ·rw[<-c,q1]at g3;C g3
    ·E q2 _ c g3
   ·rcases gy j n with c|c
    ·O⟨i,z',w1,_⟩:=hb j c
     rw[w1];E fun z=>nomatch z
    ·O⟨i,w1,_⟩:=g4 (j- n) И
     rw[hj,show n+(j- n)=j by W]at w1
     rw[w1];E fun z=>nomatch z
  ·have key:∀f:Г->Int,f=(fun i=>(es[i]?.map (·.1)).getD 0)->SetTable.probe.go t f (Ya prog w k) (10*turns t.mask) (Wh t.mask n (Qr t.mask (Ya prog w k)))=some (.candidate (Wh t.mask m (Wh t.mask n (Qr t.mask (Ya prog w k)))).j i (Wh t.mask (m+1) (Wh t.mask n (Qr t.mask (Ya prog w k))))):=fun f hf=>by rw[hf];E g2
   rw[key]
   case a=>rfl
   dsimp only
   have hp:=Lu g3
   have hil:i<zs.length:=by
    have:=(f8.mp hp).1
    have l:=tb.len
    rw[he,ao,ao,aw]at l
    W
   have hz0:zs[i]? =some zs[i]:=az hil
   have hzi:=his zs[i] (List.getElem_mem hil)
   generalize zs[i]=z at hz0 hzi
   have hes:es[i]? =some (Ya prog w z.1,bv z.2):=by rw[Ze7 he,hz0];rfl
   R Zbm (fun Q' q=>Zno hk (fun v hv=>?_) q) ?_
   ·O⟨e,hem,rfl⟩:=a6.mp hv
    have:e∈es.toList:=by
     have:=Array.mem_toList_iff.mp hem
     E Array.mem_toList_iff.mpr (Array.mem_filter.mp this).1
    rw[he]at this
    O⟨z',hz',rfl⟩:=a6.mp this
    E⟨z'.1,z'.2,rfl,his z' hz'⟩
   rw[hes]
   dsimp only
   R ad (gc (Zoq hu hzi hk ?_))
   R ad (wpAny_setState_of ho hd hfit ?_)
   dsimp only
   by_cases hzk:z.1=k
   ·rw[decide_eq_true hzk]
    simp only[Bool.and_self,if_true]
    E ag (hfound (a6.mpr ⟨z,cz hz0,hzk⟩) _)
   ·rw[Ж hzk]
    simp only[Bool.and_false,bg,if_false]
    have hsm:t.sameMemory t.moves t.mask=some true:=by unfold SetTable.sameMemory;simp
    rw[hsm]
    simp only[if_true]
    rw[g3]
    dsimp only
    rw[hes]
    dsimp only
    R ad (wpAny_isSame_ref_self ?_)
    simp only[if_true]
    R ad (ag ?_)
    dsimp only
    have hNle:n+m+1<=N:=by
     have:¬N<=n+m:=fun c=>by
      rcases Nat.lt_or_eq_of_le c with c|c
      ·rcases gy N n with c'|c'
       ·W
       ·O⟨i',w1,_⟩:=g5 (N- n) И
        rw[hj,show n+(N- n)=N by W,hE]at w1
        C w1
      ·rw[hj,<-c,hE]at g3;C g3
     W
    R Dt hu hk ho hd he his tb hN hE hfound hfree fuel (n+m+1) _ ?_ hNle И fun j hjm=>?_
    ·show Wh t.mask (m+1) (Wh t.mask n (Qr t.mask (Ya prog w k)))=_
     rw[<-Qg,<-Nat.add_assoc]
    ·rcases gy j n with c|c
     ·E hb j c
     ·rcases gy j (n+m)with c'|c'
      ·O⟨i',w1,w2⟩:=g5 (j- n) И
       rw[hj,show n+(j- n)=j by W]at w1
       have hp':=Lu w1
       have hil':i'<zs.length:=by
        have:=(f8.mp hp').1
        have l:=tb.len
        rw[he,ao,ao,aw]at l
        W
       R⟨i',zs[i'],w1,az hil',fun zz=>w2 ?_⟩
       show(es[i']?.map (·.1)).getD 0=_
       rw[Ze7 he,az hil',<-zz];rfl
      ·have:j=n+m:=by W
       subst this
       rw[hj]at g3
       E⟨i,z,g3,hz0,hzk⟩
end
end TT
namespace TT
open PySem PySem.SetTable PySem.Spec PyProof.Rows SX L2
ПMz(prog:bu)(w:cj)(B:Bool)(h:dr)(o:Obj)(xs:А (Zk×am)):Prop:=
 ∃(es:Array (Int×ah)) (ep:Г) (t:gp) (zs:А (Zk×am)),o.ExactSet/\o.data= .set es ep t/\es.toList=zs.map (ent prog w)/\zs.Perm xs/\(xs.map (·.1)).Nodup/\(∀z∈xs,Ur prog w h z.1 z.2)/\Tb t (es.toList.map (·.1))/\t.led= !B/\es.size*5<t.mask*3
ПGa(xs:А (Zk×am))(k:Zk)(b:am):А (Zk×am):=if(xs.any fun z=>decide (z.1=k))=true then xs else xs++[(k,b)]
ОG0{xs:А (Zk×am)}{k:Zk}:(xs.any fun z=>decide (z.1=k))=true↔k∈xs.map (·.1):=by
 rw[List.any_eq_true,a6]
 constructor
 ·rintro⟨z,hz,e⟩;E⟨z,hz,of_decide_eq_true e⟩
 ·rintro⟨z,hz,e⟩;E⟨z,hz,decide_eq_true e⟩
section
variable{prog:bu}{w:cj}{A:ck}{E:ah->ak->В}{s:ak}
ОUr.but{h h':dr}{k:Zk}{a d:am}{o:Obj}{es:Array (Int×ah)}{ep:Г}{t:gp}(x:Ur prog w h k a)(ho:h.get? d=some o)(hd:o.data= .set es ep t)(hs:∀b u,b≠d->h.get? b=some u->h'.get? b=some u):Ur prog w h' k a:=by
 have ne:∀{c:am} {u:Obj} {its n},h.get? c=some u->u.data= .seq its n->c≠d:=fun{c u its n} e1 e2 z=>by
  subst z
  rw[ho]at e1;C e1
  rw[hd]at e2;C e2
 cases k with
 |inl l=>O⟨u,its,n,e,c,d',r⟩:=x;E⟨u,its,n,hs _ _ (ne e d') e,c,d',r⟩
 |inr p=>
  O⟨u,its,n,tt,b,e,c,d',ei,⟨u2,i2,n2,e2,c2,d2,r2⟩⟩:=x
  E⟨u,its,n,tt,b,hs _ _ (ne e d') e,c,d',ei,u2,i2,n2,hs _ _ (ne e2 d2) e2,c2,d2,r2⟩
ОRe{α β:Type}{f:α->β}{l:А β}{m:А β}(p:l.Perm m):∀zs:А α,m=zs.map f->∃l':А α,l'.Perm zs/\l=l'.map f:=by
 induction p with
 |nil=>intro zs e;cases zs with
  |nil=>E⟨[],List.Perm.nil,rfl⟩
  |cons z zs=>C e
 | @cons x l1 l2 _ ih=>intro zs e;cases zs with
  |nil=>C e
  |cons z zs=>
   injection e with e1 e2
   O⟨l',p',e'⟩:=ih zs e2
   E⟨z::l',p'.cons z,by rw[av,e1,e']⟩
 |swap x y l=>intro zs e;cases zs with
  |nil=>C e
  |cons z zs=>cases zs with
   |nil=>C e
   |cons z2 zs=>
    injection e with e1 e2
    injection e2 with e2 e3
    E⟨z2::z::zs,List.Perm.swap z z2 zs,by rw[av,av,e1,e2,e3]⟩
 |trans _ _ ih1 ih2=>intro zs e;O⟨l2,p2,e2⟩:=ih2 zs e;O⟨l3,p3,e3⟩:=ih1 l2 e2;E⟨l3,p3.trans p2,e3⟩
ОZv7{B:Bool}{a b:am}{o:Obj}{xs:А (Zk×am)}{k:Zk}{Q:Bool->ak->В}(hu:A.units+1<d8)(ho:s.heap.get? a=some o)(hO:Mz prog w B s.heap o xs)(hk:Ur prog w s.heap k b)(hr:xs.length+1<=76)
  (h:∀h' o' r,g8 a s.heap h'->h'.get? a=some o'->Mz prog w B h' o' (Ga xs k b)->Q r {s with heap:=h'}):
  ba (bp prog w) A (setAddHashed a (.ref b) (Ya prog w k)) Q E s:=by
 O⟨es,ep,t,zs,hx,hd,he,pm,nd,his,tb,hled,hroom⟩:=hO
 have hisz:∀z∈zs,Ur prog w s.heap z.1 z.2:=fun z hz=>his z (pm.mem_iff.mp hz)
 have hfit:t.fits es.size=true:=tb.fits Л
 have zl:zs.length=es.size:=by rw[<-aw,he,ao]
 have xl:xs.length=es.size:=by rw[<-pm.length_eq,zl]
 have kz:k∈zs.map (·.1)↔k∈xs.map (·.1):=(pm.map _).mem_iff
 unfold setAddHashed
 R gc ?_
 unfold setAddHashedIn
 R ad (wpAny_setState_of ho hd hfit ?_)
 dsimp only
 rw[show byScan (bv b) es=false from rfl]
 simp only[bg,if_false]
 O⟨N,hN,hE⟩:=tb.empty (Ya prog w k)
 unfold setSearch
 have hmask:t.mask<=127:=by rcases tb.msk with e|e|e<;> W
 R ad (Dt hu hk ho hd he hisz tb hN hE (fun hin r=>?_) (fun n hni hEn hbn=>?_) 100000 0 none rfl (dn _) (by unfold turns at hN;W) (fun j hj=>absurd hj (fq _)))
 ·dsimp only
  R ag ?_
  R h s.heap o false (Heap.SameBut.refl a s.heap) ho ?_
  unfold Ga
  rw[Е (G0.mpr (kz.mp hin))]
  E⟨es,ep,t,zs,hx,hd,he,pm,nd,his,tb,hled,hroom⟩
 ·dsimp only
  have hni':k∉xs.map (·.1):=fun z=>hni (kz.mpr z)
  R ad (wpAny_setState_of ho hd hfit ?_)
  dsimp only
  have hcase:es.size+1<=t.mask:=by rcases tb.msk with e|e|e<;> W
  have tb1:=tb.put (Ya prog w k) hEn hbn (by rw[ao,aw];E hcase)
  have hput:(t.put (sq t.mask (Ya prog w k) n)).2=below t.place (sq t.mask (Ya prog w k) n):=rfl
  have hmk:(t.put (sq t.mask (Ya prog w k) n)).1.mask=t.mask:=rfl
  have hld:(t.put (sq t.mask (Ya prog w k) n)).1.led=t.led:=rfl
  rw[hput]
  generalize below t.place (sq t.mask (Ya prog w k) n)=p at tb1⊢
  generalize (t.put (sq t.mask (Ya prog w k) n)).1=t1 at tb1 hmk hld⊢
  have he1:(insertAt es p (Ya prog w k,bv b)).toList=(zs.take p++(k,b)::zs.drop p).map (ent prog w):=by
   rw[SetTable.toList_insertAt,he,cq,av,List.map_take,List.map_drop]
  have hh1:(insertAt es p (Ya prog w k,bv b)).toList.map (·.1)=(es.toList.map (·.1)).take p++Ya prog w k::(es.toList.map (·.1)).drop p:=by
   rw[SetTable.toList_insertAt,cq,av,List.map_take,List.map_drop]
  have sz1:(insertAt es p (Ya prog w k,bv b)).size=es.size+1:=by
   rw[<-aw,SetTable.toList_insertAt,bj,bn,gn,List.length_drop,aw];W
  rw[<-hh1]at tb1
  have pm1:(zs.take p++(k,b)::zs.drop p).Perm (xs++[(k,b)]):=by
   R List.perm_middle.trans ?_
   rw[List.take_append_drop]
   E(pm.cons _).trans (List.perm_append_singleton _ _).symm
  have Ep:((xs++[(k,b)]).map (·.1)).Nodup:=by
   rw[cq,di]
   R⟨nd,by simp,fun x hx y hy=>?_⟩
   simp only[av,List.map_nil,au]at hy
   subst hy
   E fun z=>hni' (z▸hx)
  generalize insertAt es p (Ya prog w k,bv b)=es1 at he1 tb1 sz1⊢
  generalize zs.take p++(k,b)::zs.drop p=zs1 at he1 pm1
  have hfin:∀h' o' r,g8 a s.heap h'->h'.get? a=some o'->Mz prog w B h' o' (xs++[(k,b)])->Q r {s with heap:=h'}:=fun h' o' r x y z=>h h' o' r x y (by unfold Ga;rw[Д fun y=>hni' (G0.mp y)];E z)
  have his1:∀h',g8 a s.heap h'->∀z∈xs++[(k,b)],Ur prog w h' z.1 z.2:=fun h' sb z hz=>by
   have hold:Ur prog w s.heap z.1 z.2:=by
    rcases cn.mp hz with q|q
    ·E his z q
    ·rw[au.mp q];E hk
   E Ur.but hold ho hd fun c u hc e=>(sb.2 c hc).trans e
  have tail:∀(t2:gp),Tb t2 (es1.toList.map (·.1))->t2.mask=t.mask->t2.led=t.led->ba (bp prog w) A (do
    storeSet a es1 t2
    if(!false&&t2.tooFull)=true then do
     setRelay a (grown (es.size+1))
     pure true
    else pure true) Q E s:=fun t2 tb2 m2 l2=>by
   R ad (wpAny_storeSet_of ho hd ?_ (by rw[sz1,dq];W))
   have o1:(s.heap.update a (Obj.putSet es1 t2)).get? a=some {o with data:=.set es1 (ep+1) t2}:=by
    have z:=Heap.get?_update_self (Obj.putSet es1 t2) ho (by rw[putSet_of es1 t2 hd];rfl)
    rw[putSet_of es1 t2 hd]at z
    E z
   have b1:=Heap.SameBut.update s.heap a (Obj.putSet es1 t2)
   have fl:t2.fill=es.size+1:=by
    unfold SetTable.fill
    have:=tb2.len
    rw[ao,aw,aw]at this
    rw[tb2.dum,this,sz1];rfl
   by_cases hf:t2.tooFull=true
   ·rw[Е (by rw[hf];rfl)]
    have hge:(es.size+1)*5>=t.mask*3:=by
     unfold SetTable.tooFull at hf
     rw[fl,m2]at hf
     E of_decide_eq_true hf
    have hS:Msk (sizeAbove (grown (es.size+1))- 1)/\es1.size<=sizeAbove (grown (es.size+1))- 1/\es1.size*5<(sizeAbove (grown (es.size+1))- 1)*3/\sizeAbove (grown (es.size+1))<=128:=by
     rw[sz1]
     rcases tb.msk with e|e|e
     ·have:es.size=4:=by W
      rw[this]
      E⟨.inr (.inl Й),by decide,by decide,by decide⟩
     ·have:es.size=18:=by W
      rw[this]
      E⟨.inr (.inr Й),by decide,by decide,by decide⟩
     ·W
    R ad ?_
    unfold setRelay
    R ad (wpAny_setState_of (s:={s with heap:=s.heap.update a (Obj.putSet es1 t2)}) o1 rfl (tb2.fits Л) ?_)
    dsimp only
    rw[Д (by rw[dq];have:=hS.2.2.2;W)]
    O⟨t3,order,q1,q2,q3,q4⟩:=Zbl (t:=t2) (es:=es1) hS.1 hS.2.1
    have q1':t2.relaid (es1.map (·.1)) (grown (es.size+1))=some (t3,order):=q1
    rw[q1']
    have hmk3:t3.mask=sizeAbove (grown (es.size+1))- 1:=by
     unfold SetTable.relaid SetTable.laid at q1
     O⟨ow,_,z⟩:=aa.mp q1
     C z;rfl
    have sz3:(order.filterMap fun i=>es1[i]?).size=es1.size:=by rw[<-aw,q3.length_eq,aw]
    R ad ?_
    show ba _ _ (if((order.filterMap fun i=>es1[i]?).size !=es1.size)=true then _ else _) _ _ _
    rw[Д (by rw[sz3];simp)]
    R ag ?_
    dsimp only
    R wpAny_storeSet_of (s:={s with heap:=s.heap.update a (Obj.putSet es1 t2)}) o1 rfl ?_ (by rw[sz3,sz1,dq];W)
    have o2:=Heap.get?_update_self (Obj.putSet (order.filterMap fun i=>es1[i]?) t3) o1 (by rw[putSet_of _ t3 rfl];rfl)
    rw[putSet_of _ t3 rfl]at o2
    have b2:=b1.trans (Heap.SameBut.update _ a (Obj.putSet (order.filterMap fun i=>es1[i]?) t3))
    generalize (order.filterMap fun i=>es1[i]?)=es3 at q3 q4 sz3 o2 b2⊢
    have he3:∃zs3:А (Zk×am),es3.toList=zs3.map (ent prog w)/\zs3.Perm zs1:=by
     rw[he1]at q3
     O⟨l3,r1,r2⟩:=Re q3 zs1 rfl
     E⟨l3,r2,r1⟩
    O⟨zs3,r1,r2⟩:=he3
    R ag (hfin _ _ true b2 o2 ⟨es3,_,t3,zs3,hx,rfl,r1,r2.trans pm1,Ep,his1 _ b2,q4,by rw[q2,l2];E hled,?_⟩)
    rw[sz3,hmk3]
    E hS.2.2.1
   ·rw[Д (by simpa using hf)]
    R ag (hfin _ _ true b1 o1 ⟨es1,_,t2,zs1,hx,rfl,he1,pm1,Ep,his1 _ b1,tb2,by rw[l2];E hled,?_⟩)
    unfold SetTable.tooFull at hf
    rw[fl,m2]at hf
    rw[sz1,m2]
    have:¬(es.size+1)*5>=t.mask*3:=fun z=>hf (decide_eq_true z)
    W
  by_cases hpl:t1.plain=true
  ·rw[Е hpl]
   R ad (Zrq hk fun bb=>?_)
   cases bb with
   |true=>E tail t1 tb1 hmk hld
   |false=>E tail {t1 with plain:=false} tb1.plainOff hmk hld
  ·rw[Д hpl]
   R ad (ag ?_)
   E tail t1 tb1 hmk hld
end
end TT
namespace TT
open PySem PySem.SetTable PySem.Spec PyProof.Rows SX L2
ПFg(ys:А (Zk×am)):А (Zk×am):=ys.foldl (fun acc y=>Ga acc y.1 y.2) []
ОZe8(xs:А (Zk×am))(k:Zk)(b:am):(Ga xs k b).length<=xs.length+1:=by
 unfold Ga
 split
 ·W
 ·simp
ОZe9{xs:А (Zk×am)}{k:Zk}{b:am}{z:Zk×am}(h:z∈Ga xs k b):z∈xs\/z=(k,b):=by
 unfold Ga at h
 split at h
 ·E .inl h
 ·rcases cn.mp h with q|q
  ·E .inl q
  ·E .inr (au.mp q)
ОZfa{ys:А (Zk×am)}{i:Г}{y:Zk×am}(h:ys[i]? =some y):Fg (ys.take (i+1))=Ga (Fg (ys.take i)) y.1 y.2:=by
 unfold Fg
 rw[List.take_add_one,h]
 simp
ОMn:∀(ys acc:А (Zk×am)),(ys.foldl (fun acc y=>Ga acc y.1 y.2) acc).length<=acc.length+ys.length
 | [],acc=>by simp
 |y::ys,acc=>by
  rw[List.foldl_cons]
  have h1:=Mn ys (Ga acc y.1 y.2)
  have h2:=Ze8 acc y.1 y.2
  rw[bn]
  W
ОZix(ys:А (Zk×am)):(Fg ys).length<=ys.length:=by have:=Mn ys [];simpa[Fg]using this
ОMo:∀(ys acc:А (Zk×am)) (z:Zk×am),z∈ys.foldl (fun acc y=>Ga acc y.1 y.2) acc->z∈acc\/z∈ys
 | [],acc,z,h=>.inl h
 |y::ys,acc,z,h=>by
  rw[List.foldl_cons]at h
  rcases Mo ys _ z h with q|q
  ·rcases Ze9 q with r|r
   ·E .inl r
   ·E .inr (by rw[r];E aj)
  ·E .inr (ar _ q)
ОLv{ys:А (Zk×am)}{z:Zk×am}(h:z∈Fg ys):z∈ys:=by
 rcases Mo ys [] z h with q|q
 ·E nomatch q
 ·E q
ОMz.re{prog:bu}{w:cj}{B:Bool}{h h':dr}{o:Obj}{xs:А (Zk×am)}(x:Mz prog w B h o xs)(hk:∀z∈xs,Ur prog w h' z.1 z.2):Mz prog w B h' o xs:=by
 O⟨es,ep,t,zs,a,b,c,d,e,_,f⟩:=x
 E⟨es,ep,t,zs,a,b,c,d,e,hk,f⟩
ПKpt(h0 h:dr):Prop:=∀b o,h0.get? b=some o->h.get? b=some o
section
variable{prog:bu}{w:cj}{A:ck}{R:Result->ak->В}{I:am}{fp wr:А am}{G:Array GenState->Array GenState->В}{n:Г}{P:Г->ah->В}{St:Г->ak->В}
ОZrr{B:Bool}(W:WalksS prog w A.in1 I fp wr G n P St)(S:am)(hS:S∉fp)(hu:A.in1.units+1<d8){h0:dr}(hS0:h0.get? S=none)(hw0:∀b∈wr,h0.get? b=none)(ys:А (Zk×am))(hl:ys.length=n)(hv:∀i v,P i v->∃y,ys[i]? =some y/\v= .ref y.2)(hys:∀y∈ys,Ur prog w h0 y.1 y.2)(hb:n<=75):
  ∀(m i:Г) (s:ak) (o:Obj),i+m=n->St i s->Kpt h0 s.heap->s.heap.get? S=some o->Mz prog w B s.heap o (Fg (ys.take i))->
  (∀s' o',Moved (S::wr) G s s'->Kpt h0 s'.heap->s'.heap.get? S=some o'->Mz prog w B s'.heap o' (Fg ys)->R (.ok (.ret .none)) s')->codeAny (bp prog w) A (.builtin "set.update.loop" ⟨[.ref S,.ref I],[]⟩) R s:=by
 have nw:S∉wr:=fun z=>hS (W.sub _ z)
 have up:∀b∈wr,b∈S::wr:=fun _ z=>ar _ z
 have kz:∀{l:А (Zk×am)} {h:dr},Kpt h0 h->(∀z∈l,z∈ys)->∀z∈Fg l,Ur prog w h z.1 z.2:=fun{l h} kp hl z hz=>(hys z (hl z (Lv hz))).mono kp
 have tk:∀i,∀z∈ys.take i,z∈ys:=fun i z hz=>List.mem_of_mem_take hz
 intro m
 induction m with
 |zero=>
  intro i s o hi st kp ho hO hR
  obtain rfl:i=n:=hi
  R gr PyProof.Rows.F.entry_set_update_loop ?_
  rw[d7 PyProof.Rows.F.plain_set_update_loop _]
  show ba _ A.in1 (pyNext (.ref I) >>=_) _ _ s
  R ad (W.done s _ _ st fun s' mv=>?_)
  have kp':Kpt h0 s'.heap:=fun b x e=>mv.heap b x (fun z=>by rw[hw0 b z]at e;C e) (kp b x e)
  rw[<-hl,List.take_length]at hO
  E ag (hR s' o (mv.mono up) kp' (mv.heap S _ nw ho) (hO.re (kz kp' fun _ z=>z)))
 |succ m ih=>
  intro i s o hi st kp ho hO hR
  have hlt:i<n:=by W
  R gr PyProof.Rows.F.entry_set_update_loop ?_
  rw[d7 PyProof.Rows.F.plain_set_update_loop _]
  show ba _ A.in1 (pyNext (.ref I) >>=_) _ _ s
  R ad (W.item i s _ _ hlt st fun v s1 pv st1 mv=>?_)
  O⟨y,hy,rfl⟩:=hv i v pv
  have ho1:=mv.heap S _ nw ho
  have kp1:Kpt h0 s1.heap:=fun b x e=>mv.heap b x (fun z=>by rw[hw0 b z]at e;C e) (kp b x e)
  have hny:Ur prog w s1.heap y.1 y.2:=(hys y (cz hy)).mono kp1
  show ba _ A.in1 (holding [bv y.2] (setAdd S (.ref y.2)) >>=_) _ _ s1
  R ad (gc ?_)
  unfold setAdd
  R gc (ad (Zb6 hu hny ?_))
  R Zv7 (s:={s1 with toks:=s1.toks+Td y.1}) (B:=B) (xs:=Fg (ys.take i)) hu ho1 (hO.re (kz kp1 (tk i))) hny (by have:=Zix (ys.take i);rw[gn]at this;W) fun h2 o2 b sb g2 O2=>?_
  have kp2:Kpt h0 h2:=fun c x e=>by
   have hc:c≠S:=fun z=>by rw[z,hS0]at e;C e
   rw[sb.2 c hc];E kp1 c x e
  R ag ⟨plainId_quiet PyProof.Rows.F.plain_set_update_loop _,ih (i+1) _ o2 И (W.frame _ s1 _ _ st1 (Nat.le_add_right _ _) fun c hc x e=>?_) kp2 g2 ?_ fun s3 o3 m3 k3 g3 O3=>?_⟩
  ·rw[sb.2 c fun z=>hS (z▸hc)];E e
  ·rw[Zfa hy];E O2
  ·R hR s3 o3 (Moved.trans W.gtrans ((mv.mono up).then_heap (Nat.le_add_right _ _) fun c x hc e=>?_) m3) k3 g3 O3
   rw[sb.2 c fun z=>hc (z▸aj)];E e
end
section
variable{prog:bu}{w:cj}{A:ck}{E:ah->ak->В}{s:ak}
ОZrs{h:dr}:Mz prog w (By w) h (R6 w) []:=⟨#[],0,_,[],⟨rfl,rfl,rfl⟩,rfl,rfl,List.Perm.nil,c7,(fun z hz=>nomatch hz),Tb.fresh _ _ _,rfl,by show 0*5<7*3;decide⟩
ОZfb{l:am}{its:Array ah}{ys:А (Zk×am)}{Q:ah->ak->В}(hh:A.handled=none)(hu:A.units+5<d8)(hl:s.heap.IsList l its)(hi:its.toList=ys.map fun y=>bv y.2)(hys:∀y∈ys,Ur prog w s.heap y.1 y.2)(hb:ys.length<=75)
  (h:∀(h':dr) (tk:Г) (o:Obj),h'.get? s.heap.objs.size=some o->Mz prog w (By w) h' o (Fg ys)->(∀b x,b<s.heap.objs.size->s.heap.get? b=some x->h'.get? b=some x)->Q (.ref s.heap.objs.size) {s with heap:=h',toks:=tk}):
  ba (bp prog w) A (call (.type "set") [.ref l]) Q E s:=by
 have hsz:its.size=ys.length:=by rw[<-aw,hi,ao]
 O⟨c,tl,hmro⟩:=PySem.F.called_set.mro
 have hmade:=PySem.F.called_set.made
 have hsub:=PySem.F.called_set.sub
 have h1:=PySem.F.called_set.notType
 have h2:=PySem.F.called_set.canCreate
 have hct:=PySem.F.typeCall_set_1 (.ref l)
 R wpAny_call (codeAny_of_tree ?_)
 show ba _ _ (callAny (.type "set") _) _ _ _
 R ag ⟨Code.quiet_builtin _ (by decide+kernel),gr PySem.F.entry_type_call ?_⟩
 rw[Around.under_plain (weight_type_call_type "set" [.ref l] []) rfl]
 repeat (any_goals (first|assumption|wp_step))
 R codeAny_mono (Zio (.ref l) (E:=E) (Q:=fun v s1=>v= .ref s.heap.objs.size/\s1={s with heap:=s.heap.push (R6 w)}) ⟨rfl,rfl⟩) fun r s1 hr=>?_
 cases r with
 |error e=>E hr
 |ok fl=>
  cases fl with
  |ret obj=>
   O⟨rfl,rfl⟩:=hr
   have hS:(s.heap.push (R6 w)).get? s.heap.objs.size=some (R6 w):=a9 _ rfl
   have hT:Shared.TypeIs {s with heap:=s.heap.push (R6 w)} (.ref s.heap.objs.size) "set":=⟨_,hS,rfl⟩
   have hli:=PySem.F.called_set.init.lookup
   have hbi:=PySem.F.called_set.init.bind (.ref s.heap.objs.size)
   repeat (any_goals (first|assumption|wp_step))
   R codeAny_mono (codeAny_call_builtin (R:=wants (fun r s2=>r= .none/\∃h' tk o,s2={s with heap:=h',toks:=tk}/\h'.get? s.heap.objs.size=some o/\Mz prog w (By w) h' o (Fg ys)/\(∀b x,b<s.heap.objs.size->s.heap.get? b=some x->h'.get? b=some x)) E)
    PySem.F.called_set.init.plain PySem.F.entry_set_init (check_set_init_1 hT ?_)) fun r2 s2 hr2=>?_
   ·O⟨ol,hol,hcl,nl,hdl⟩:=hl
    O⟨ocls,od,odata,osl⟩:=ol
    simp only at hcl hdl
    subst hcl hdl
    have hol':(s.heap.push (R6 w)).get? l=some {cls:=.type "list",dict:=od,data:=.seq its nl,slots:=osl}:=aq _ hol
    have hsa:=PySem.F.sub_list_set
    have hsb:=PySem.F.sub_list_frozenset
    have hsc:(Value.type "list"==Value.type "dict")=false:=by decide
    have hl1:(s.heap.push (R6 w)).IsList l its:=⟨_,hol',rfl,nl,rfl⟩
    unfold Builtin.«set.__init__» noKeywords Builtin.Frozenset.updateFrom
    generalize hPI:pyIter=PI
    wp_walk
    subst hPI
    R wpAny_pyIter_list hl1 (ad (wpAny_runValue ?_))
    have ll:l<s.heap.objs.size:=bc hol
    have hh3:A.in1.in1.in1.handled=none:=by simp[hh]
    have sz:(s.heap.push (R6 w)).objs.size=s.heap.objs.size+1:=Heap.size_push _ _
    have ne:l≠(s.heap.push (R6 w)).objs.size:=by rw[sz];E b4 (Nat.lt_succ_of_lt ll)
    have nf:s.heap.objs.size∉[(s.heap.push (R6 w)).objs.size,l]:=by
     rw[sz]
     simp only[bo,gm,or_false,not_or]
     E⟨b4 (Nat.lt_succ_self _),Nat.ne_of_gt ll⟩
    R Zrr (h0:=s.heap) ((Walks.list hh3 _ l ne its).toS) s.heap.objs.size nf (by show A.units+1+1+1+1<d8;W) (Heap.get?_none_of_le (a7 _)) (fun b hb'=>?_) ys hsz.symm (fun i v hv=>?_) hys И its.size 0 _ (R6 w) И
     ⟨⟨_,a9 _ rfl,rfl,rfl⟩,(hl1.push _)⟩ (fun b o e=>aq _ (aq _ e)) (aq _ hS) Zrs fun s' o' mv kp go Oo=>?_
    ·have:b=(s.heap.push (R6 w)).objs.size:=by simpa using hb'
     rw[this,sz]
     E Heap.get?_none_of_le (Nat.le_succ _)
    ·have hv':its[i]? =some v:=hv
     rw[<-b5,hi,bf]at hv'
     O⟨y,hy,rfl⟩:=cm.mp hv'
     E⟨y,hy,rfl⟩
    have eg:s'.gens=s.gens:=mv.gens
    have ed:s'.drawn=s.drawn:=mv.drawn
    have eo:s'.os=s.os:=mv.os
    have es:s'={s with heap:=s'.heap,toks:=s'.toks}:=by C s';simp only at eg ed eo;subst eg ed eo;rfl
    show ba _ _ _ _ _ _
    R ag ?_
    show ba _ _ (ret cf) _ _ _
    E ag ⟨rfl,s'.heap,s'.toks,o',es,go,Oo,fun b x hb e=>kp b x e⟩
   ·cases r2 with
    |error e=>E hr2
    |ok f2=>
     cases f2 with
     |ret r=>
      O⟨rfl,h',tk,o',rfl,g',O',k'⟩:=hr2
      repeat (any_goals (first|assumption|wp_step))
      E h _ _ _ g' O' k'
     |_=>E hr2.elim
  |_=>E hr.elim
end
section
variable{prog:bu}{w:cj}{A:ck}{E:ah->ak->В}{s:ak}{I r S:am}{o:Obj}{es:Array (Int×ah)}{ep:Г}{t:gp}
ОZv8{R:Result->ak->В}{res:ah}{c:Г}(hh:A.handled=none)(ho:s.heap.get? r=some o)(hx:o.ExactSet)(hd:o.data= .set es ep t)(hf:t.fits es.size=true)(hled:t.led= !By w)(rise:C7 t.place.toList)(hr:es.size<=1000)(hS:S≠r)(hl:s.heap.get? S=some (Ey #[] c))
  (hR:∀(h':dr) d c' (ord:А ah),ord.Perm (es.toList.map (·.2))->(∀b x,b≠S->s.heap.get? b=some x->h'.get? b=some x)->h'.get? S=some (Ey ord.toArray c')->R (.ok (.ret res)) {s with heap:=h',drawn:=d}):
  ba (bp prog w) A.in1 (Builtin.List.listExtendWith (.ref S) (.ref r) res) (fun fin s'=>match fin with| .done f=>R (.ok f) s'| .again c'=>c'.quiet=true/\codeAny (bp prog w) A c' R s') (fun e s'=>R (.error e) s') s:=by
 have hb:es.size<scanBound:=by unfold scanBound;W
 have psz:t.place.size=es.size:=by
  unfold SetTable.fits at hf
  simp only[Bool.and_eq_true,beq_iff_eq]at hf
  E hf.1
 have hT:s.TypeIs (.ref r) "set":=⟨o,ho,hx.1⟩
 have hlS:S<s.heap.objs.size:=bc hl
 have hlr:r<s.heap.objs.size:=bc ho
 unfold Builtin.List.listExtendWith
 R ad (wpAny_typeOf (T:="set") hT ?_)
 have z1:Builtin.List.listSameRef (.ref S) (.ref r)=false:=by simp[Builtin.List.listSameRef,hS]
 have z2:(Value.type "set"==Value.type "list")=false:=by decide
 have z3:(Value.type "set"==Value.type "tuple")=false:=by decide
 simp only[z1,z2,z3,Bool.or_false,bg,if_false]
 have hh':A.in1.handled=none:=hh
 R ad (Zip ho hx hd hf hb (fun hc=>?_) fun hc ps d hp=>?_)
 ·have rI:r≠s.heap.objs.size:=b4 hlr
  have SI:S≠s.heap.objs.size:=b4 hlS
  have nf:S∉[s.heap.objs.size,r]:=by
   simp only[bo,gm,or_false,not_or]
   E⟨SI,hS⟩
  have old:∀b x,s.heap.get? b=some x->b≠s.heap.objs.size:=fun b x e=>b4 (bc e)
  cases hB:By w with
  |false=>
   have hl':t.led=true:=by rw[hled,hB];rfl
   have hp:(!t.plain&&decide (es.size > 1))=false:=by rw[hB]at hc;simpa using hc
   R Lo (Vx hh' rI hd hf hB hl' hp rise psz) nf (by rw[ao,aw];W) ⟨o,aq _ ho,hx.1⟩ ⟨a9 _ rfl,aq _ ho⟩ (aq _ hl) (f:=fun b=>b||_) fun h' c' k g=>?_
   E hR h' s.drawn c' _ (List.Perm.refl _) (fun b x hb e=>k b x hb (old b x e) (aq _ e)) g
  |true=>
   have pp:=Zeu (w.params.setOrder r ep) es
   R Lo (Zbd hh' rI hd hf hB) nf (by rw[ao,pp.length_eq,aw];W) ⟨o,aq _ ho,hx.1⟩ ⟨a9 _ rfl,aq _ ho⟩ (aq _ hl) (f:=fun b=>b||_) fun h' c' k g=>?_
   E hR h' s.drawn c' _ (pp.map _) (fun b x hb e=>k b x hb (old b x e) (aq _ e)) g
 ·have pm0:∀p∈ps,p<es.size:=fun p hq=>cw.mp (hp.mem_iff.mp hq)
  have rI:r≠s.heap.objs.size+1:=b4 (Nat.lt_succ_of_lt hlr)
  have TI:s.heap.objs.size≠s.heap.objs.size+1:=b4 (Nat.lt_succ_self _)
  have nf:S∉[s.heap.objs.size+1,r,s.heap.objs.size]:=by
   simp only[bo,gm,or_false,not_or]
   E⟨b4 (Nat.lt_succ_of_lt hlS),hS,b4 hlS⟩
  have up:∀b x,s.heap.get? b=some x->((s.heap.push (R8 ps)).push (Su (.ref s.heap.objs.size) 0 r es.size ep)).get? b=some x:=fun b x e=>aq _ (aq _ e)
  have sz2:(s.heap.push (R8 ps)).objs.size=s.heap.objs.size+1:=Heap.size_push _ _
  have gI:((s.heap.push (R8 ps)).push (Su (.ref s.heap.objs.size) 0 r es.size ep)).get? (s.heap.objs.size+1)=some (Su (.ref s.heap.objs.size) 0 r es.size ep):=by
   rw[<-sz2];E a9 _ rfl
  have gT:((s.heap.push (R8 ps)).push (Su (.ref s.heap.objs.size) 0 r es.size ep)).get? s.heap.objs.size=some (R8 ps):=aq _ (a9 _ rfl)
  have pl:(ps.map fun p=>es.getD p (0,cf)).Perm es.toList:=by
   R(hp.map _).trans ?_
   have:(cr es.size).map (fun p=>es.getD p (0,cf))=es.toList:=by
    apply List.ext_getElem?
    intro i
    rw[bf]
    by_cases hi:i<es.size
    ·rw[List.getElem?_range hi,b5]
     simp[Array.getD,hi]
    ·rw[List.getElem?_eq_none (by simpa using hi),List.getElem?_eq_none (by simpa using hi)];rfl
   rw[this]
  have eo:(ps.map fun p=>(es.getD p (0,cf)).2)=(ps.map fun p=>es.getD p (0,cf)).map (·.2):=by rw[bx];rfl
  R Lo (s:={s with heap:=(s.heap.push (R8 ps)).push (Su (.ref s.heap.objs.size) 0 r es.size ep),drawn:=d}) (Vy hh' rI TI hd hf pm0) nf (by rw[ao,hp.length_eq,List.length_range];W) ⟨o,up _ _ ho,hx.1⟩ ⟨gI,up _ _ ho,gT⟩ (up _ _ hl) (f:=fun b=>b||_) fun h' c' k g=>?_
  rw[eo]at g
  E hR h' d c' _ (pl.map _) (fun b x hb e=>k b x hb (b4 (Nat.lt_succ_of_lt (bc e))) (up b x e)) g
ОZfc{xs:А (Zk×am)}{Q:А ah->ak->В}(hh:A.handled=none)(ho:s.heap.get? r=some o)(hO:Mz prog w (By w) s.heap o xs)(hr:xs.length<=1000)
  (h:∀(zs:А (Zk×am)) (h':dr) d,zs.Perm xs->(∀b x,s.heap.get? b=some x->h'.get? b=some x)->s.heap.objs.size<=h'.objs.size->Q (zs.map fun z=>bv z.2) {s with heap:=h',drawn:=d}):ba (bp prog w) A (collect (.ref r)) Q E s:=by
 O⟨es,ep,t,zs,hx,hd,he,pm,nd,his,tb,hled,hroom⟩:=hO
 have zl:zs.length=es.size:=by rw[<-aw,he,ao]
 have xl:xs.length=es.size:=by rw[<-pm.length_eq,zl]
 have hlr:r<s.heap.objs.size:=bc ho
 have nS:s.heap.objs.size≠r:=Nat.ne_of_gt hlr
 unfold collect
 R ad (wpAny_runValue (gr PySem.F.entry_proto_collect ?_))
 rw[d7 PySem.F.plain_proto_collect _]
 show ba _ A.in1 (newList [] >>=fun l=>again (.builtin "list.__iadd__" ⟨[l,.ref r],[]⟩)) _ _ s
 R ad (dv ?_)
 R ag ⟨plainId_quiet PySem.F.plain_list_iadd _,gr PySem.F.entry_list_iadd ?_⟩
 rw[d7 PySem.F.plain_list_iadd _]
 show ba _ A.in1 (Builtin.List.listExtendWith (.ref s.heap.objs.size) (.ref r) (.ref s.heap.objs.size)) _ _ _
 R Zv8 (R:=fun rr s'=>match rr with
  | .ok (.ret v)=>ba (bp prog w) A (match v with
   | .ref a=>(load a >>=fun x=>match x.data with
    | .seq xs _=>pure xs.toList
    |_=>unsupported "internal:collect")
   |_=>unsupported "internal:collect") Q E s'
  | .ok _=>False
  | .error e=>E e s') (s:={s with heap:=s.heap.push (Ey #[] 0)}) (c:=0) hh (aq _ ho) hx hd (tb.fits Л) hled tb.rise И nS (a9 _ rfl) fun h' d c' ord hp hk g=>?_
 show ba _ A (load s.heap.objs.size >>=_) _ _ _
 R ad (wpAny_load g ?_)
 R ag ?_
 have e:ord.toArray.toList=ord:=by simp
 show Q ord.toArray.toList _
 rw[e]
 rw[he,bx]at hp
 O⟨zs',p',e'⟩:=Re hp zs rfl
 rw[e']
 E h zs' h' d (p'.trans pm) (fun b x e=>hk b x (b4 (bc e)) (aq _ e)) (Nat.le_of_lt (bc g))
end
end TT
namespace TT
open PySem PySem.Spec PyProof.Rows L2 DL TX SX
ПZu:Zk->D
 | .inl l=>.tup (l.map D.str)
 | .inr (n,l)=>.tup [.int n,.tup (l.map D.str)]
ПM0(ks:А Zk)(k:Zk):А Zk:=if(ks.any fun z=>decide (z=k))=true then ks else ks++[k]
ПXb(ks:А Zk):А Zk:=ks.foldl M0 []
ОZfd(xs:А (Zk×am))(k:Zk)(b:am):(Ga xs k b).map (·.1)=M0 (xs.map (·.1)) k:=by
 unfold Ga M0
 have e:((xs.map (·.1)).any fun z=>decide (z=k))=xs.any fun z=>decide (z.1=k):=by rw[List.any_map];rfl
 rw[e]
 split
 ·rfl
 ·rw[cq];rfl
ОDu(ys:А (Zk×am)):(Fg ys).map (·.1)=Xb (ys.map (·.1)):=by
 have go:∀(ys acc:А (Zk×am)),(ys.foldl (fun acc y=>Ga acc y.1 y.2) acc).map (·.1)=(ys.map (·.1)).foldl M0 (acc.map (·.1)):=by
  intro ys
  induction ys with
  |nil=>intro acc;rfl
  |cons y ys ih=>intro acc;rw[List.foldl_cons,ih,av,List.foldl_cons,Zfd]
 E go ys []
ПRf(ds out:А D):Prop:=out.Perm ds/\out.Pairwise fun a b=>Jk 16 b a=some false
ОZbn{ks:А D}{enc:D->А Г}(hd:∀i j:Г,i<ks.length->j<ks.length->enc (ks.getD i .non)=enc (ks.getD j .non)->i=j){a b:D}(ha:a∈ks)(hb:b∈ks)(e:enc a=enc b):a=b:=by
 O⟨i,hi,rfl⟩:=dy ha
 O⟨j,hj,rfl⟩:=dy hb
 have gi:ks.getD i .non=ks[i]:=by rw[bz,az hi];rfl
 have gj:ks.getD j .non=ks[j]:=by rw[bz,az hj];rfl
 have:=hd i j hi hj (by rw[gi,gj];E e)
 subst this
 rfl
ОGb{ds a b:А D}(h:KeysOk ds)(ha:Rf ds a)(hb:Rf ds b):a=b:=by
 O⟨enc,he,hd⟩:=h.ord
 R List.Perm.eq_of_pairwise (le:=fun a b=>Jk 16 b a=some false) (fun x y hx hy h1 h2=>?_) ha.2 hb.2 (ha.1.trans hb.1.symm)
 have mx:=ha.1.mem_iff.mp hx
 have my:=hb.1.mem_iff.mp hy
 rw[he _ my _ mx]at h1
 rw[he _ mx _ my]at h2
 have h1:¬enc y<enc x:=by simpa using h1
 have h2:¬enc x<enc y:=by simpa using h2
 E Zbn hd mx my (List.le_antisymm (d4.mp h1) (d4.mp h2))
ОAs{ds:А D}{p:А Г}(h:Rb ds p):Rf ds (p.map fun i=>ds.getD i .non):=by
 R⟨?_,df.mpr h.2⟩
 R(h.1.map _).trans ?_
 have:(cr ds.length).map (fun i=>ds.getD i .non)=ds:=by
  apply List.ext_getElem
  ·simp
  ·intro i h1 h2;simp[bz,az h2]
 rw[this]
ОGc{ds:А D}(h:KeysOk ds):∃out,Rf ds out:=let⟨_,hp⟩:=Op h;⟨_,As hp⟩
ОCd{ks:А D}{enc:D->А Г}:(∀i j:Г,i<ks.length->j<ks.length->enc (ks.getD i .non)=enc (ks.getD j .non)->i=j)↔(ks.map enc).Nodup:=by
 have gi:∀i (hi:i<ks.length),ks.getD i .non=ks[i]:=fun i hi=>by rw[bz,az hi];rfl
 constructor
 ·intro h
  R List.pairwise_iff_getElem.mpr fun i j hi hj hij e=>?_
  rw[ao]at hi hj
  rw[List.getElem_map,List.getElem_map]at e
  have:=h i j hi hj (by rw[gi i hi,gi j hj];E e)
  W
 ·intro h i j hi hj e
  rw[gi i hi,gi j hj]at e
  have:=(List.getElem?_inj (i:=i) (j:=j) (by rw[ao];E hi) h).mp (by simp[hi,hj,e])
  E this
ОP0{ds es:А D}(h:KeysOk ds)(p:es.Perm ds):KeysOk es:=by
 O⟨k,hk⟩:=h.key
 O⟨enc,he,hd⟩:=h.ord
 R⟨⟨k,fun d hd=>hk d (p.mem_iff.mp hd)⟩,enc,fun a ha b hb=>he a (p.mem_iff.mp ha) b (p.mem_iff.mp hb),?_⟩
 E Cd.mpr ((p.map enc).nodup_iff.mpr (Cd.mp hd))
end TT
namespace L2
open PySem PySem.Spec PySem.Calls PyProof.Rows DL TX SX TT
ОLw{P:bu}{w:cj}{H:Hp}{h:dr}(ok:Cm P w H h){k:Zk}{b:am}(e:U1 H k b):Ur P w h k b:=by
 cases k with
 |inl l=>E Og ok e
 |inr p=>
  O⟨n,l⟩:=p
  O⟨c,h1,h2⟩:=e
  O⟨_,its,r,o,q1,q2,m,q3⟩:=(show Z9 P w H h b (.tup [.int n,.ref c])from ok b _ h1)
  cases r with
  |cons r1 t=>cases t with
   |cons r2 t=>
    C t
    O⟨tk,rfl⟩:=r1
    C r2
    E⟨o,_,m,tk,c,q1,q2,q3,rfl,Og ok h2⟩
ОRg{K:af}{F:Hp}{k:Zk}{b:am}(e:U1 F k b):Rep K F (Zu k) (.ref b):=by
 have tx:∀l:А Str,Reps K F (l.map D.str) ((Mv l).map kV):=fun l=>by
  induction l with
  |nil=>E .nil
  |cons x l ih=>E .cons (.str x) ih
 cases k with
 |inl l=>E .tup e (tx l)
 |inr p=>
  O⟨n,l⟩:=p
  O⟨c,h1,h2⟩:=e
  E .tup h1 (.cons (.int n) (.cons (.tup h2 (tx l)) .nil))
ОRh{K:af}{F:Hp}{k:Zk}{v:V}(r:Rep K F (Zu k) v):∃b,v= .ref b/\U1 F k b:=by
 have tx:∀{l:А Str} {vs:А V},Reps K F (l.map D.str) vs->vs=(Mv l).map kV:=fun{l}=>by
  induction l with
  |nil=>intro vs h;C h;rfl
  |cons x l ih=>intro vs h;cases h with
   |cons h t=>C h;rw[ih t];rfl
 cases k with
 |inl l=>cases r with
  |tup h r=>rw[tx r]at h;E⟨_,rfl,h⟩
 |inr p=>
  O⟨n,l⟩:=p
  cases r with
  |tup h r=>cases r with
   |cons r1 t=>C r1;cases t with
    |cons r2 t=>C t;cases r2 with
     |tup h2 r2=>rw[tx r2]at h2;E⟨_,rfl,_,h,h2⟩
section
variable{X:Cx}
ПrSN(K:af):А V->Hp->VK->Prop:=fun vs H Q=>∃(l:am) (ys:А (Zk×am)),vs=[.ref l]/\Ws K H l (ys.map fun y=>V.ref y.2)/\(∀y∈ys,U1 H y.1 y.2)/\ys.length<=75/\(Fg ys).length<64/\KeysOk ((Fg ys).map fun y=>Zu y.1)/\
 ∀(zs:А (Zk×am)) (q:am),zs.Perm (Fg ys)->Rf ((Fg ys).map fun y=>Zu y.1) (zs.map fun y=>Zu y.1)->H q=none->Q (.ref q) (Z5 H q (.lst (zs.map fun z=>V.ref z.2)))
ОZrt:∀{ys:А (Zk×am)} {its:А ah},Zw (ys.map fun y=>V.ref y.2) its->its=ys.map fun y=>bv y.2
 | [],_,h=>by C h;rfl
 |y::ys,_,h=>by
  cases h with
  |cons r t=>C r;rw[Zrt t];rfl
ОZfe:∀ys:А (Zk×am),Zw (ys.map fun y=>V.ref y.2) (ys.map fun y=>bv y.2)
 | []=>.nil
 |y::ys=>.cons rfl (Zfe ys)
ОZiy{a:ci}{t:TA}{p1 p2 q1 q2:Pos}(hc:X.calm=true)(hu:X.A.units+64<d8)(h1:X.mg "sorted"=none)(h2:X.mg "set"=none)(ha:PA X [a] t)(g1:Gl X "sorted")(g2:Gl X "set")
  (he1:ay [.Call (.Name "set" q1) [a] [] q2] X.env=(false,f9 (.Call (.Name "set" q1) [a] [] q2) X.env)::ay [] X.env) (hp1:(f7 p2 (ay [] X.env)).any (·.1)=false)
  (he2:ay [a] X.env=(false,f9 a X.env)::ay [] X.env) (hp2:(f7 q2 (ay [] X.env)).any (·.1)=false):
  PE X (.Call (.Name "sorted" p1) [.Call (.Name "set" q1) [a] [] q2] [] p2) (tCB (rSN X.K) t):=by
 intro pins s σ H Q I h
 R wpAny_Call_Name_kw (Bj I g1 h1 Bw ?_)
 R PyProof.Rows.callWith_builtin1 ?_ he1 hp1
 rw[he1]
 show ba _ _ (spliced ((false,f9 (.Call (.Name "set" q1) [a] [] q2) X.env)::f7 p2 (ay [] X.env))) _ _ s
 R Calls.spliced_cons (wpAny_Call_Name_kw (Bj I g2 h2 Zev ?_))
 R PyProof.Rows.callWith_type1 (Wo (ha q2 pins s σ H _ I h) fun us s1 ⟨vs,H1,I1,r1,z1⟩=>?_) he2 hp2
 O⟨l,ys,rfl,hl,hn,hz,hz2,ko,q⟩:=z1
 O⟨u,rfl,ru⟩:=Jp r1
 C ru
 O⟨its,rv,⟨o,n,ho,hcl,_,hd⟩,_⟩:=I1.list hl
 have hits:=Zrt rv
 have hh:=I1.ok.hd hc
 R Zfb (its:=its.toArray) (ys:=ys) hh И ⟨o,ho,hcl,n,hd⟩ (by simpa using hits) (fun y hy=>Lw I1.hok (hn y hy)) hz fun h' tk o' ho' hO hk=>?_
 show ba _ _ (spliced []) _ _ _
 R Calls.spliced_nil ?_
 have kept:∀b x,s1.heap.get? b=some x->h'.get? b=some x:=fun b x e=>hk b x (bc e) e
 have I2:Inv X pins σ H1 {s1 with heap:=h',toks:=tk}:=I1.kept kept
 R Calls.call_function_entry kind_sorted plain_sorted entry_sorted (args_sorted1 _) ?_
 unfold Builtin.«sorted»
 R ad (m:=checkCount "sorted" 1 1 _) (ag ?_)
 R ad (Zfc (A:=X.A.in1) (s:={s1 with heap:=h',toks:=tk}) hh ho' hO И fun zs h3 d hp hk3 ge=>?_)
 have I3:Inv X pins σ H1 {s1 with heap:=h3,toks:=tk,drawn:=d}:=(I2.kept (t':=tk) hk3).drawnAt d
 have kz:KeysOk (zs.map fun y=>Zu y.1):=P0 ko (hp.map _)
 O⟨enc,he,hdis⟩:=id kz.ord
 O⟨kb,hkb⟩:=id kz.key
 have hu2:X.A.in1.in1.units+16<cLine:=by show X.A.units+1+1+16<d8;W
 have zl:zs.length=(Fg ys).length:=hp.length_eq
 have dl:(zs.map fun y=>Zu y.1).length=(zs.map fun z=>bv z.2).length:=by simp
 have hnz:∀z∈zs,U1 H1 z.1 z.2:=fun z hz'=>hn z (Lv (hp.mem_iff.mp hz'))
 R Zbk (its:=zs.map fun z=>bv z.2) (kvs:=zs.map fun z=>V.ref z.2) (KeyOk:=fun j kv H=>Rep X.K H ((zs.map fun y=>Zu y.1).getD j .non) kv) (O:=strKind.toKeyOrd) (key:=Di enc (zs.map fun y=>Zu y.1)) I3 (by rw[ao];W) (Zfe zs) (fun j kv e=>?_) (Ze0 hu2 hkb he dl) ?hQ
 ·rw[bf]at e
  O⟨z,ez,rfl⟩:=cm.mp e
  have:(zs.map fun y=>Zu y.1).getD j .non=Zu z.1:=by rw[bz,bf,ez];rfl
  rw[this]
  E Rg (hnz z (cz ez))
 case hQ=>
  intro p D s3 cc hp2' hs hD0 I4 fD gD
  have sb:=Ze1 he dl hp2' hs
  have pt:p.toList.Perm (cr zs.length):=by have:=sb.1;rw[ao]at this;E this
  have bnd:∀i∈p.toList,i<zs.length:=fun i hi=>cw.mp (pt.mem_iff.mp hi)
  have g1':∀i∈p.toList,(zs.map fun z=>bv z.2).getD i cf=bv (zs.getD i (.inl [],0)).2:=fun i hi=>by
   have hb:=bnd i hi
   simp[bz,bf,az hb]
  have g2':∀i∈p.toList,(zs.map fun y=>Zu y.1).getD i .non=Zu (zs.getD i (.inl [],0)).1:=fun i hi=>by
   have hb:=bnd i hi
   simp[bz,bf,az hb]
  generalize hzs2:p.toList.map (fun i=>zs.getD i (.inl [],0))=zs2
  have e1:(p.toList.map fun i=>(zs.map fun z=>bv z.2).getD i cf)=zs2.map fun z=>bv z.2:=by
   rw[<-hzs2,bx]
   E fj g1'
  have e2:(p.toList.map fun i=>(zs.map fun y=>Zu y.1).getD i .non)=zs2.map fun y=>Zu y.1:=by
   rw[<-hzs2,bx]
   E fj g2'
  have pz:zs2.Perm zs:=by
   rw[<-hzs2]
   R(pt.map _).trans ?_
   have:(cr zs.length).map (fun i=>zs.getD i (.inl [],0))=zs:=by
    apply List.ext_getElem
    ·simp
    ·intro i h1 h2;simp[bz,az h2]
   rw[this]
  have so:=As sb
  rw[e2]at so
  have so2:Rf ((Fg ys).map fun y=>Zu y.1) (zs2.map fun y=>Zu y.1):=⟨so.1.trans (hp.map _),so.2⟩
  rw[e1]at gD
  have new:Z9 X.prog X.w (Z5 H1 D (.lst (zs2.map fun z=>V.ref z.2))) s3.heap D (.lst (zs2.map fun z=>V.ref z.2)):=by
   R⟨?_,zs2.map fun z=>bv z.2,cc,Zfe zs2,gD⟩
   rw[ao,pz.length_eq,dq]
   W
  E⟨.ref D,_,Inv.trackO I4 hD0 fD.1 fD.2.1 fD.2.2.2.2.1 fD.2.2.2.2.2 new,rfl,q zs2 D (pz.trans hp) so2 fD.1⟩
end
end L2
namespace DL
open PySem PySem.Spec PyProof.Rows L2 SX TT TX
variable{K:af}
Пnk?:D->Б Zk
 | .tup xs=>match strs? xs with
  |some l=>some (.inl l)
  |none=>match xs with
   | [.int n,.tup ys]=>(strs? ys).bind fun l=>some (.inr (n,l))
   |_=>none
 |_=>none
ОAu:∀l:А Str,strs? (l.map D.str)=some l
 | []=>rfl
 |x::l=>by rw[av,strs?,Au l];rfl
ОLx:∀{xs:А D} {l:А Str},strs? xs=some l->xs=l.map D.str
 | [],_,h=>by C h;rfl
 |x::xs,l,h=>by
  unfold strs? at h
  split at h
  ·rename_i e;C e
  ·rename_i y r e
   C e
   O⟨t,h1,h2⟩:=aa.mp h
   C h2
   rw[Lx h1];rfl
  ·C h
@[simp] theorem Ma(k:Zk):nk? (Zu k)=some k:=by
 cases k with
 |inl l=>show(match strs? (l.map D.str)with|some l=>_|none=>_)=_;rw[Au]
 |inr p=>
  O⟨n,l⟩:=p
  show(strs? (l.map D.str)).bind _=_
  rw[Au];rfl
ОZff{d:D}{k:Zk}(h:nk? d=some k):d=Zu k:=by
 unfold nk? at h
 split at h
 ·rename_i xs
  split at h
  ·rename_i l hl
   C h
   rw[Lx hl];rfl
  ·split at h
   ·O⟨l,h1,h2⟩:=aa.mp h
    C h2
    rw[Lx h1];rfl
   ·C h
 ·C h
Пnks?:А D->Б (А Zk)
 | []=>some []
 |d::r=>(nk? d).bind fun k=>(nks? r).bind fun ks=>some (k::ks)
@[simp] theorem Dv:∀ks:А Zk,nks? (ks.map Zu)=some ks
 | []=>rfl
 |k::ks=>by rw[av,nks?,Ma,Dv ks];rfl
ОZfg:∀{ds:А D} {ks:А Zk},nks? ds=some ks->ds=ks.map Zu
 | [],_,h=>by C h;rfl
 |d::ds,_,h=>by
  O⟨k,h1,h2⟩:=aa.mp (show(nk? d).bind _=_ from h)
  O⟨ks,h3,h4⟩:=aa.mp h2
  C h4
  rw[Zff h1,Zfg h3];rfl
ОP1{F:Hp}:∀{ks:А Zk} {vs:А V},Reps K F (ks.map Zu) vs->∃ys:А (Zk×am),ys.map (·.1)=ks/\vs=ys.map (fun y=>V.ref y.2)/\∀y∈ys,U1 F y.1 y.2
 | [],_,h=>by C h;E⟨[],rfl,rfl,fun _ z=>nomatch z⟩
 |k::ks,_,h=>by
  cases h with
  |cons h t=>
   O⟨b,rfl,hb⟩:=Rh h
   O⟨ys,rfl,rfl,hy⟩:=P1 t
   R⟨(k,b)::ys,rfl,rfl,fun y hy'=>?_⟩
   rcases bo.mp hy' with z|z
   ·rw[z];E hb
   ·E hy y z
ОFh{F:Hp}:∀{ys:А (Zk×am)},(∀y∈ys,U1 F y.1 y.2)->Reps K F (ys.map fun y=>Zu y.1) (ys.map fun y=>V.ref y.2)
 | [],_=>.nil
 |y::ys,h=>.cons (Rg (h y aj)) (Fh fun z hz=>h z (ar _ hz))
open Classical in
ПMp(ks:А Zk):Б SV:=
 if h:ks.length<=75/\(Xb ks).length<64/\KeysOk ((Xb ks).map Zu)then some (.ol (Classical.choose (Gc h.2.2)))else none
ОZfh{ks:А Zk}{sv:SV}(e:Mp ks=some sv):ks.length<=75/\(Xb ks).length<64/\KeysOk ((Xb ks).map Zu)/\∃out,Rf ((Xb ks).map Zu) out/\sv= .ol out:=by
 unfold Mp at e
 split at e
 ·rename_i h
  C e
  E⟨h.1,h.2.1,h.2.2,_,Classical.choose_spec (Gc h.2.2),rfl⟩
 ·C e
ОZfi{ks:А Zk}{out:А D}(h1:ks.length<=75)(h2:(Xb ks).length<64)(h3:KeysOk ((Xb ks).map Zu))(h4:Rf ((Xb ks).map Zu) out):Mp ks=some (.ol out):=by
 unfold Mp
 rw[dif_pos ⟨h1,h2,h3⟩,Gb h3 (Classical.choose_spec (Gc h3)) h4]
ПCu:А D->Б SV
 | [.lst xs]=>(nks? xs).bind Mp
 |_=>none
@[simp] theorem Mb(ks:А Zk):Cu [.lst (ks.map Zu)]=Mp ks:=by show(nks? (ks.map Zu)).bind _=_;rw[Dv];rfl
section
variable{Z:Ent K}{H:Hp}{σ:L2.St}{Q:VK}{E:Yz}
ОZnq:Ju Z (rSN K) Cu:=by
 intro F H σ δ own vs ds sv Q s r e k
 unfold Cu at e
 split at e
 ·O⟨ks,e1,e2⟩:=aa.mp e
  O⟨z1,z2,ko,out,ho,rfl⟩:=Zfh e2
  have:=Zfg e1
  subst this
  cases r with
  |cons h t=>
   C t
   O⟨a,us,rfl,ha,ru⟩:=h.lst s.le
   O⟨ys,rfl,rfl,hy⟩:=P1 ru
   have ek:(Fg ys).map (fun y=>Zu y.1)=(Xb (ys.map (·.1))).map Zu:=by rw[<-Du,bx];rfl
   R⟨a,ys,rfl,ha,fun y hy'=>(hy y hy').mono fun _ _ q=>s.le _ _ q,by simpa using z1,?_,by rw[ek];E ko,fun zs q hp so hq=>?_⟩
   ·have:=congrArg List.length (Du ys)
    rw[ao]at this
    W
   ·have eo:out=zs.map fun y=>Zu y.1:=by
     rw[ek]at so
     E Gb ko ho so
    rw[eo]at k
    E k.lst s (Fh fun z hz=>hy z (Lv (hp.mem_iff.mp hz))) hq
 ·C e
end
section
variable{X:Cx}{Z:Ent X.K}{a b c:ci}{fa fb fc:FE}{pos:Pos}
ОXc{p1 q1 q2:Pos}(hc:X.calm=true)(hv:X.A.units+64<d8)(h1:X.mg "sorted"=none)(h2:X.mg "set"=none)(ha:PE X a (Zc Z fa))(g1:Gl X "sorted":=by rfl)(g2:Gl X "set":=by rfl)
  (he1:ay [.Call (.Name "set" q1) [a] [] q2] X.env=(false,f9 (.Call (.Name "set" q1) [a] [] q2) X.env)::ay [] X.env:=by rfl) (hp1:(f7 pos (ay [] X.env)).any (·.1)=false:=by rfl)
  (he2:ay [a] X.env=(false,f9 a X.env)::ay [] X.env:=by rfl) (hp2:(f7 q2 (ay [] X.env)).any (·.1)=false:=by rfl):
  PE X (.Call (.Name "sorted" p1) [.Call (.Name "set" q1) [a] [] q2] [] pos) (Zc Z (Yl Cu (Zd fa Zn))):=
 (Ziy hc hv h1 h2 (Zo ha Ym he2) g1 g2 he1 hp1 he2 hp2).imp fun _ _ _ h=>Kz Znq h
end
end DL
namespace L2
open PySem PySem.Spec PySem.Calls PyProof.Rows
section
variable{prog:bu}{w:cj}{K:Type}[DecidableEq K]{knd:HeapKind prog w K}{A:ck}{E:ah->ak->В}{s:ak}
ОP2{d a:am}{xs:А (K×am×ah)}{k:K}{v:ah}{Q:ah->ak->В}(hu:knd.room A)(hkey:knd.is s.heap k a)(hm:s.heap.DictOfH knd d xs)
  (hold:∀p,atKey xs k=some p->Q p.2 {s with toks:=s.toks+knd.draws k})
  (hnew:atKey xs k=none->∀h',h'.DictOfH knd d (xs++[(k,a,v)])->g8 d s.heap h'->Q v {s with heap:=h',toks:=s.toks+knd.draws k}) (hsz:xs.length<=sizeLine):
  ba (bp prog w) A (dictSetDefault d (.ref a) v) Q E s:=by
 O⟨o,es,ep,ho,hc,hd,he,his,hn⟩:=hm
 unfold dictSetDefault
 try with_reducible R gc ?_
 R ad (knd.pyHash hu hkey (ad (wpAny_dictFind_heap (s:={s with toks:=s.toks+knd.draws k}) hu hkey ho hd he his hn ?_ ?_)))
 ·intro hno
  have hnot:k∉xs.map (·.1):=not_mem_keys_of_get hno
  dsimp only
  R ad (wpAny_rule (ad (wpAny_updateDictKeys (hz:=by have e:=size_of_entries he;W) (s:={s with toks:=s.toks+knd.draws k}) ho hd (ag (hnew (atKey_none_of_get hno) _ ⟨_,_,ep+1,Heap.get?_update_self _ ho (Obj.isFreed_of_dict (Obj.data_mapDictKeys hd _)),
   hc.mapDictKeys _,Obj.data_mapDictKeys hd _,?_,?_,?_⟩ (Heap.SameBut.update ..))))))
  ·simp[he,entryOfKey]
  ·intro x hx
   rcases cn.mp hx with hx|hx
   ·E knd.keeps (his x hx) ho hd (Heap.SameBut.update ..)
   ·simp only[au]at hx
    subst hx
    E knd.keeps hkey ho hd (Heap.SameBut.update ..)
  ·rw[cq,di]
   R⟨hn,by simp,?_⟩
   intro x hx y hy
   simp only[av,List.map_nil,au]at hy
   subst hy
   E fun e=>hnot (e▸hx)
 ·intro j p hj
  dsimp only
  R ad (wpAny_dictEntries (s:={s with toks:=s.toks+knd.draws k}) ho hd ?_)
  rw[entry_at he j,hj]
  E ad (wpAny_rule (ag (hold p (atKey_of_get hn hj))))
end
ПKNt(H:Hp):А (Zk×V)->А (Zk×am×ah)->Prop:=Paired fun(p:Zk×V) (q:Zk×am×ah)=>p.1=q.1/\U1 H p.1 q.2.1/\Zp p.2 q.2.2
section
variable{P:bu}{w:cj}{H:Hp}{h:dr}{a:am}
ОZfj{kvs:А (Zk×V)}{ep:Г}{bs:А am}(ok:Cm P w H h)(e:H a=some (.dN kvs ep bs)):kvs.length<=sizeLine/\(a==ff)=false/\
  ∃xs,KNt H kvs xs/\h.DictOfH (E4 P w) a xs/\(xs.map fun x=>x.2.1)=bs:=by
 O⟨z,y,xs,r,o,es,h1,h2,h3,h4,h5,h6⟩:=(show Z9 P w H h a (.dN kvs ep bs)from ok a _ e)
 R⟨z,y,xs,r,⟨o,es,ep,h1,h2,h3,h4,fun x hx=>?_,h5⟩,h6⟩
 have all:∀{l:А (Zk×V)} {m:А (Zk×am×ah)},KNt H l m->∀x∈m,(E4 P w).is h x.1 x.2.1:=by
  intro l m q
  induction q with
  |nil=>intro x hx;E nomatch hx
  | @cons p q ps qs hq t ih=>
   intro x hx
   rcases bo.mp hx with e|hx
   ·subst e
    E Lw ok (by rw[<-hq.1];E hq.2.1)
   ·E ih x hx
 E all r x hx
ОKNt.val{kvs:А (Zk×V)}{xs:А (Zk×am×ah)}(r:KNt H kvs xs)(k:Zk):Cz (Wy kvs k) ((atKey xs k).map (·.2)):=by
 induction r with
 |nil=>E True.intro
 | @cons p q ps qs hq t ih=>
  by_cases e:p.1=k
  ·rw[U3 e]
   have:atKey (q::qs) k=some q.2:=by
    unfold atKey
    rw[List.find?_cons_of_pos (by rw[<-hq.1];E decide_eq_true e)];rfl
   rw[this]
   E hq.2.2
  ·rw[Jt e]
   have:atKey (q::qs) k=atKey qs k:=by
    unfold atKey
    rw[List.find?_cons_of_neg (by rw[<-hq.1];simpa using e)]
   rw[this]
   E ih
end
ПIsN(H:Hp)(a:am):Prop:=∃kvs ep bs,H a=some (.dN kvs ep bs)
ПZrv(td ty:TE):TE:=fun σ H Q=>td σ H fun x H1=>ty σ H1 fun y H2=>∃a b kvs ep bs k v,x= .ref a/\y= .ref b/\H2 a=some (.dN kvs ep bs)/\U1 H2 k b/\Wy kvs k=some v/\Q v H2
ПZk9(td ty tx:TE):TE:=fun σ H Q=>td σ H fun x H1=>∃a,x= .ref a/\IsN H1 a/\ty σ H1 fun y H2=>tx σ H2 fun z H3=>∃kvs ep bs k b,y= .ref b/\H3 a=some (.dN kvs ep bs)/\U1 H3 k b/\kvs.length<sizeLine/\
 ((∃v,Wy kvs k=some v/\Q v H3)\/(Wy kvs k=none/\∀ep',Q z (Z5 H3 a (.dN (kvs++[(k,z)]) ep' (bs++[b])))))
section
variable{X:Cx}{o i e f:ci}{td ty tx:TE}{pos apos cpos:Pos}
ОZla{A:ck}{P:bu}{w:cj}(hu:A.units+2<d8):(E4 P w).room A.in1:=hu
ОZiz(hu:X.A.units+2<d8)(ho:PE X o td)(hi:PE X i ty)(hs:Zl8 i):PE X (.Subscript o i pos) (Zrv td ty):=by
 intro pins s σ H Q I h
 R He PySem.F.slot_dict_getitem.lookup hs (Wo (ho pins s σ H _ I h) fun u s1 ⟨x,H1,I1,rx,q1⟩=>Wo (hi pins s1 σ H1 _ I1 q1) fun iv s2 zq9=>?_)
 O⟨y,H2,I2,ry,a,b,kvs,ep,bs,k,v,ex,ey,ea,eb,ev,q2⟩:=zq9
 subst ex ey
 obtain rfl:u=bv a:=rx
 obtain rfl:iv=bv b:=ry
 O⟨z,hd,xs,rel,dd,_⟩:=Zfj I2.hok ea
 O⟨w',hw,rw'⟩:=Cz.some_of (v:=v) (o:=(atKey xs k).map (·.2)) (by rw[<-ev];E rel.val k)
 O⟨p,hp,hp2⟩:=cm.mp hw
 R⟨dd.typeIs,wpAny_getItem_heap (Zla hu) (Lw I2.hok eb) dd hp ?_⟩
 rw[hp2]
 E⟨v,H2,I2.tok _,rw',q2⟩
ОDw(hu:X.A.units+2<d8)(ho:PE X o td)(he:PE X e ty)(hf:PE X f tx)(m:M2 X o "setdefault" apos e f cpos):PE X (.Call (.Attribute o "setdefault" apos) [e,f] [] cpos) (Zk9 td ty tx):=by
 intro pins s σ H Q I h
 R wpAny_Call_method m.base m.few m.line PySem.F.plainAttrs_dict PySem.F.slot_dict_setdefault PySem.F.type_dict_setdefault (Wo (ho pins s σ H _ I h) fun u s1 zq9=>?_)
 O⟨x,H1,I1,rx,a,ex,d,q1⟩:=zq9
 subst ex
 obtain rfl:u=bv a:=rx
 O⟨kvs1,ep1,bs1,ea1⟩:=d
 O⟨_,_,xs1,_,dd1,_⟩:=Zfj I1.hok ea1
 R⟨dd1.typeIs,fun b q=>?_,?_⟩
 ·C q
  O⟨ob,_,_,h1,h2,_⟩:=dd1
  E⟨ob,h1,h2.2.1⟩
 rw[m.trees]
 R Calls.callWith_builtin rfl (Calls.evalArgs_plain (Calls.spliced_cons (Wo (he pins s1 σ H1 _ I1 q1) fun iv s2 ⟨y,H2,I2,ry,q2⟩=>
  Calls.spliced_cons (Wo (hf pins s2 σ H2 _ I2 q2) fun fv s3 ⟨z,H3,I3,rz,kvs,ep,bs,k,b,ey,ea,eb,hl,q3⟩=>Calls.spliced_nil ?_))))
 subst ey
 obtain rfl:iv=bv b:=ry
 O⟨hz,hd,xs,rel,dd,hbs⟩:=Zfj I3.hok ea
 have hxl:xs.length=kvs.length:=(gu rel).symm
 R c5 PySem.F.slot_dict_setdefault dd.typeIs PySem.F.entry_dict_setdefault ?_ (PySem.F.args_dict_setdefault_3 _ _ _)
 unfold Builtin.«dict.setdefault»
 R ad (m:=Builtin.Dict.keyAndDefault "setdefault" ⟨[.ref a,.ref b,fv],[]⟩) ?_
 show ba _ _ (Builtin.Dict.notOrdered "setdefault" ⟨[.ref a,.ref b,fv],[]⟩>>=_) _ _ s3
 R ad (wpAny_notOrdered_dict dd.typeIs ?_)
 R ag (a:=(a,bv b,some fv)) ?_
 dsimp only
 rw[Д (by rw[hd];simp)]
 R ad (P2 (knd:=E4 X.prog X.w) (Zla hu) (Lw I3.hok eb) dd (fun p hp=>?_) (fun hno h' dd' hs=>?_) И)
 ·rcases q3 with⟨v,ev,q⟩|⟨ev,_⟩
  ·have r:=rel.val k
   rw[hp,ev]at r
   E ag ⟨_,rfl,v,H3,I3.tok _,r,q⟩
  ·have r:=rel.val k
   rw[hp,ev]at r
   E r.elim
 ·rcases q3 with⟨v,ev,q⟩|⟨ev,q⟩
  ·have r:=rel.val k
   rw[hno,ev]at r
   E r.elim
  ·O⟨ob,es,ep',hq,h2,h3,h4,_,h5⟩:=dd'
   R ag ⟨_,rfl,z,_,Gs I3 (ob:=.dN (kvs++[(k,z)]) ep' (bs++[b])) (by rw[ea];E True.intro) hs ⟨ob,hq⟩ ⟨by rw[bj,List.length_singleton];W,hd,xs++[(k,b,fv)],?_,ob,es,hq,h2,h3,h4,h5,by rw[cq,hbs];rfl⟩,rz,q ep'⟩
   have app:∀{l:А (Zk×V)} {m:А (Zk×am×ah)},KNt H3 l m->Paired (fun(p:Zk×V) (q:Zk×am×ah)=>p.1=q.1/\U1 (Z5 H3 a (.dN (kvs++[(k,z)]) ep' (bs++[b]))) p.1 q.2.1/\Zp p.2 q.2.2) (l++[(k,z)]) (m++[(k,b,fv)]):=by
    have up:∀c ys,H3 c=some (.tup ys)->Z5 H3 a (.dN (kvs++[(k,z)]) ep' (bs++[b])) c=some (.tup ys):=fun c ys ec=>by
     rw[Zm (Tf ec ea (fun z=>nomatch z))];E ec
    intro l m r
    induction r with
    |nil=>E .cons ⟨rfl,eb.mono up,rz⟩ .nil
    |cons hq t ih=>E .cons ⟨hq.1,hq.2.1.mono up,hq.2.2⟩ ih
   E app rel
ОZfk{P:bu}{w:cj}{H:Hp}(h:dr)(hb:ff<h.objs.size):Z9 P w H (h.push {cls:=.type "dict",data:=.dict #[]}) h.objs.size (.dN [] 0 []):=
 ⟨dn _,beq_eq_false_iff_ne.mpr (Ne.symm (b4 hb)),[],.nil,_, #[],a9 _ rfl,⟨rfl,rfl,rfl⟩,rfl,rfl,c7,rfl⟩
ПZfl:TE:=fun _ H Q=>∀p,H p=none->Q (.ref p) (Z5 H p (.dN [] 0 []))
ОZfm:PE X (.Dict [] [] pos) Zfl:=fun pins s σ H Q I h=>
 wpAny_Dict_empty ⟨.ref s.heap.objs.size,_,I.laid (a:=s.heap.objs.size) (o:=.dN [] 0 []) (t':=s.toks) (fun _ _ q=>aq _ q) (a7 _) (Zfk s.heap I.big),rfl,h _ (I.hok.fresh (a7 _))⟩
ПDx(K:af):V->А V->Hp->VK->Prop:=fun x vs H Q=>∃l b xs zs,x= .ref l/\vs=[.ref b]/\H l=some (.lst xs)/\Ws K H b zs/\xs.length+zs.length<=sizeLine/\Q .non (Z5 H l (.lst (xs++zs)))
end
end L2
namespace L2
open PySem PySem.Spec PySem.Calls PyProof.Rows
ОZi0(l:am)(items:Array ah)(n:Г)(b:am)(items2:Array ah)(n2:Г)(dc:Б am)(sl:Array (Б ah))(hs0:¬(!items.isEmpty&&Builtin.List.listTooLong (items.size+items2.size))=true)(hs1:items.size<=sizeLine)(hs2:items.size+items2.size<=sizeLine+1):
  Meets (Builtin.«list.extend» ⟨[.ref l,.ref b],[]⟩) (fun _ R s=>s.heap.get? l=some {cls:=.type "list",dict:=none,data:=.seq items n,slots:= #[]}/\s.heap.get? b=some {cls:=.type "list",dict:=dc,data:=.seq items2 n2,slots:=sl}/\R (.ok (.ret cf)) {s with heap:=s.heap.update l (c9 fun x=>x++items2),toks:=s.toks}):=
 .of_wp fun prog w A R s h=>by
  O⟨hp,g,d,tk,os⟩:=s;O⟨hl,hb,h⟩:=h;have f1:=AutoSeq1.idx_int;have f2:=AutoSeq1.sub_tuple_tuple;have f3:=AutoSeq1.sub_list_list;have f4:=AutoSeq1.sub_tuple_list;have f5:=AutoSeq1.sub_list_tuple
  have hz':(items++items2).size<=sizeLine+1:=by rw[Array.size_append];E hs2
  wp_walk using(wpAny_updateSeq hl rfl (hz:=hs1) (_hz':=hz')),AutoSeq1.wpAny_loadPart' hl,AutoSeq1.wpAny_loadPart' hb;E⟨_,rfl,h⟩
ОDy{X:Cx}:MtM X "list.extend" (Dx X.K):=by
 intro pins s σ H x vs v us Q I rx rv h
 O⟨l,b,xs,zs,rfl,rfl,hH,hB,hz,q⟩:=h
 C rx
 O⟨u,rfl,ru⟩:=rv.one
 C ru
 O⟨z,its,n,r,hl,e⟩:=I.lstM hH
 O⟨its2,r2,⟨o,n2,ho,hc,hdn,hd⟩,z2⟩:=I.list hB
 have hl2:=r2.length
 O⟨cls,dc,data,sl⟩:=o
 C hc
 C hd
 have hsz:its.toArray.size+its2.toArray.size<=sizeLine:=by rw[bi,bi];W
 have hlong:¬(!its.toArray.isEmpty&&Builtin.List.listTooLong (its.toArray.size+its2.toArray.size))=true:=by
  rw[Zcs hsz,Bool.and_false]
  E bh
 R call_meets F.slot_list_extend ⟨_,e,rfl⟩ F.entry_list_extend (F.args_list_extend_2 _ _)
  (Zi0 l its.toArray n b its2.toArray n2 dc sl hlong (by rw[bi];W) И) ⟨e,ho,?_⟩
 R⟨.non,_,I.lset (its':=its++its2) hH e Л (r.append r2) ?_,rfl,q⟩
 rw[bj]
 W
end L2
namespace DL
open PySem PySem.Spec PyProof.Rows L2 TT
variable{K:af}
ОKids.appL{F:Hp}:∀{xss:А (А D)} {ws:А V} {ns:Zq} {p:Г} {b:am},Kids K F xss ws ns->ws[p]? =some (.ref b)->(Cp ns).Nodup->
  ∃xs vs,xss[p]? =some xs/\(b,HO.lst vs)∈ns/\Reps K F xs vs/\∀{ys:А D} {us:А V},Reps K F ys us->∃ns',Kids K F (xss.set p (xs++ys)) ws ns'/\Cp ns'=Cp ns/\∀q∈ns',q=(b,HO.lst (vs++us))\/(q∈ns/\q.1≠b)
 |_,_,_,_,_,.nil,e,_=>by simp at e
 |_,_,_,0,b,@Kids.cons _ _ xs xss b' vs ws ns r t,e,nd=>by
  have e':b'=b:=by simpa using e
  subst e'
  O⟨n1,n2⟩:=fu.mp nd
  R⟨xs,vs,rfl,aj,r,fun{ys us} hd=>⟨(b',.lst (vs++us))::ns,.cons (r.append hd) t,rfl,fun q hq=>?_⟩⟩
  rcases bo.mp hq with z|z
  ·E .inl z
  ·E .inr ⟨ar _ z,fun w=>n1 (a6.mpr ⟨q,z,w⟩)⟩
 |_,_,_,p+1,b,@Kids.cons _ _ xs0 xss b' vs0 ws ns r t,e,nd=>by
  O⟨n1,n2⟩:=fu.mp nd
  O⟨xs,vs,h1,h2,h3,h4⟩:=Kids.appL (p:=p) (b:=b) t (by simpa using e) n2
  R⟨xs,vs,by simpa using h1,ar _ h2,h3,fun{ys us} hd=>?_⟩
  O⟨ns',k1,k2,k3⟩:=h4 hd
  R⟨(b',.lst vs0)::ns',by rw[List.set_cons_succ];E .cons r k1,by show b'::Cp ns'=b'::Cp ns;rw[k2],fun q hq=>?_⟩
  rcases bo.mp hq with z|z
  ·R .inr ⟨by rw[z];E aj,fun w=>n1 ?_⟩
   rw[z]at w
   E a6.mpr ⟨_,h2,w.symm⟩
  ·rcases k3 q z with w|⟨w,w2⟩
   ·E .inl w
   ·E .inr ⟨ar _ w,w2⟩
РJ2:А Zk->Zk->Б Г
 | [],_=>none
 |a::r,k=>if a=k then some 0 else(J2 r k).map (· +1)
ОFi{k:Zk}:∀{kvs:А (Zk×V)} {p:Г},J2 (kvs.map (·.1)) k=some p->∃v,(kvs.map (·.2))[p]? =some v/\Wy kvs k=some v
 | [],_,e=>by C e
 |q::r,p,e=>by
  have e:(if q.1=k then some 0 else(J2 (r.map (·.1)) k).map (· +1))=some p:=e
  by_cases h:q.1=k
  ·rw[Е h]at e
   C e
   E⟨q.2,rfl,U3 h⟩
  ·rw[Д h]at e
   O⟨p',e1,e2⟩:=cm.mp e
   subst e2
   O⟨v,h1,h2⟩:=Fi e1
   E⟨v,by simpa using h1,by rw[Jt h];E h2⟩
ОFj{k:Zk}:∀{kvs:А (Zk×V)},J2 (kvs.map (·.1)) k=none->Wy kvs k=none
 | [],_=>rfl
 |q::r,e=>by
  have e:(if q.1=k then some 0 else(J2 (r.map (·.1)) k).map (· +1))=none:=e
  by_cases h:q.1=k
  ·rw[Е h]at e;C e
  ·rw[Д h]at e
   rw[Jt h]
   E Fj (Option.map_eq_none_iff.mp e)
ОKN.snoc{F:Hp}{kvs:А (Zk×V)}{bs:А am}{k:Zk}{v:V}{b:am}(h:KN F kvs bs)(hb:U1 F k b):KN F (kvs++[(k,v)]) (bs++[b]):=by
 induction h with
 |nil=>E .cons hb .nil
 |cons r t ih=>E .cons r ih
ОZfn{F:Hp}{ks:А Zk}{xss:А (А D)}{v:V}{ns:Zq}(h:Shape K F (.oX ks xss) v ns):∃a kvs ns' ep bs,v= .ref a/\ns=(a,.dN kvs ep bs)::ns'/\KN F kvs bs/\kvs.map (·.1)=ks/\Kids K F xss (kvs.map (·.2)) ns':=by
 cases h with
 |oX kb e r=>E⟨_,_,_,_,_,rfl,rfl,kb,e,r⟩
section
variable{Z:Ent K}{H:Hp}{σ:L2.St}{Q:VK}{E:Yz}
РFk:FE:=fun δ=>some (.tmp (.oX [] []),δ)
ОZi1(h:Zc Z Fk σ H Q):Zfl σ H Q:=by
 O⟨F,δ,own,rv,δ',s,e,k⟩:=h
 C e
 intro p hp
 have f:Fin Z F H σ δ own (.oX [] []) Q:=fun v H' F' ns a b c t=>k v H' F' own a b c ⟨ns,t⟩
 E f.one s (.oX (kvs:=[]) .nil rfl .nil) hp
ОRi{F:Hp}{δ:Yf}{own:Г->Zq}{i:Г}{ks:А Zk}{xss:А (А D)}(s:SR Z F H σ δ own)(e:δ[i]? =some (some (.oX ks xss))):∃a kvs ep bs ns',σ[i]? =some (some (.ref a))/\own i=(a,.dN kvs ep bs)::ns'/\H a=some (.dN kvs ep bs)/\KN F kvs bs/\kvs.map (·.1)=ks/\Kids K F xss (kvs.map (·.2)) ns':=by
 O⟨x,hx,sh⟩:=s.at' i _ e
 O⟨a,kvs,ns',ep,bs,rfl,en,kb,ek,kd⟩:=Zfn sh
 E⟨a,kvs,ep,bs,ns',hx,en,(s.ok i (a,.dN kvs ep bs) (by rw[en];E aj)).2.2,kb,ek,kd⟩
ОZrw{F:Hp}{δ:Yf}{own:Г->Zq}{i:Г}{ks:А Zk}{xss:А (А D)}{k:Zk}{p:Г}(s:SR Z F H σ δ own)(e:δ[i]? =some (some (.oX ks xss)))(hp:J2 ks k=some p):
  ∃a kvs ep bs c vs xs,σ[i]? =some (some (.ref a))/\H a=some (.dN kvs ep bs)/\kvs.length=xss.length/\Wy kvs k=some (.ref c)/\H c=some (.lst vs)/\xss[p]? =some xs/\xs.length=vs.length/\F c=none/\
   ∀(ys:А D) (us:А V),Reps K F ys us->∃own',SR Z F (Z5 H c (.lst (vs++us))) σ (δ.set i (some (.oX ks (xss.set p (xs++ys))))) own':=by
 O⟨a,kvs,ep,bs,ns',hx,en,hH,kb,ek,kd⟩:=Ri s e
 rw[<-ek]at hp
 O⟨v,g1,g2⟩:=Fi hp
 O⟨c,rfl⟩:=kd.ref g1
 have nd:=s.nod i
 rw[en]at nd
 O⟨n1,n2⟩:=fu.mp nd
 O⟨xs,vs,q1,q2,q3,q4⟩:=kd.appL g1 n2
 have mb:(c,HO.lst vs)∈own i:=by rw[en];E ar _ q2
 O⟨fc,_,hHc⟩:=s.ok i _ mb
 R⟨a,kvs,ep,bs,c,vs,xs,hx,hH,by have:=kd.length;rw[ao]at this;E this.symm,g2,hHc,q1,q3.length,fc,fun ys us r=>?_⟩
 O⟨ns2,k1,k2,k3⟩:=q4 r
 have hac:a≠c:=fun z=>n1 (a6.mpr ⟨_,q2,z.symm⟩)
 R⟨_,s.change (sv':=.oX ks (xss.set p (xs++ys))) (o':=.lst (vs++us)) (ns':=(a,.dN kvs ep bs)::ns2) e hx mb (.oX kb ek k1) (fun q hq=>?_) ?_⟩
 ·rcases bo.mp hq with z|z
  ·E .inr ⟨by rw[en,z];E aj,by rw[z];E hac⟩
  ·rcases k3 q z with w|⟨w,w2⟩
   ·E .inl w
   ·E .inr ⟨by rw[en];E ar _ w,w2⟩
 ·show(a::Cp ns2).Nodup
  rw[k2];E nd
ОZrx{F:Hp}{δ:Yf}{own:Г->Zq}{i:Г}{ks:А Zk}{xss:А (А D)}{k:Zk}(s:SR Z F H σ δ own)(e:δ[i]? =some (some (.oX ks xss)))(hp:J2 ks k=none):
  ∃a kvs ep bs,σ[i]? =some (some (.ref a))/\H a=some (.dN kvs ep bs)/\kvs.length=xss.length/\Wy kvs k=none/\
   ∀(l b:am) (ys:А D) (us:А V) (ep':Г),H l=none->U1 F k b->Reps K F ys us->∃own',SR Z F (Z5 (Z5 (Z5 H l (.lst [])) a (.dN (kvs++[(k,.ref l)]) ep' (bs++[b]))) l (.lst us)) σ (δ.set i (some (.oX (ks++[k]) (xss++[ys])))) own':=by
 O⟨a,kvs,ep,bs,ns',hx,en,hH,kb,ek,kd⟩:=Ri s e
 rw[<-ek]at hp
 have nd:=s.nod i
 rw[en]at nd
 O⟨n1,n2⟩:=fu.mp nd
 have mb:(a,HO.dN kvs ep bs)∈own i:=by rw[en];E aj
 R⟨a,kvs,ep,bs,hx,hH,by have:=kd.length;rw[ao]at this;E this.symm,Fj hp,fun l b ys us ep' hl hb r=>?_⟩
 have hla:l≠a:=fun z=>by rw[z,hH]at hl;C hl
 have eH:Z5 (Z5 (Z5 H l (.lst [])) a (.dN (kvs++[(k,.ref l)]) ep' (bs++[b]))) l (.lst us)=Z5 (Z5 H l (.lst us)) a (.dN (kvs++[(k,.ref l)]) ep' (bs++[b])):=by
  funext c
  unfold Z5
  by_cases h1:c=l
  ·rw[Е h1]
   by_cases h2:c=a
   ·E absurd (h1.symm.trans h2) hla
   ·rw[Д h2,Е h1]
  ·rw[Д h1]
   by_cases h2:c=a
   ·rw[Е h2,Е h2]
   ·rw[Д h2,Д h2,Д h1,Д h1]
 rw[eH]
 have sm:=Qe (o:=HO.lst us) hl
 have s1:=s.grow sm
 have t:TmpOk Z F (Z5 H l (.lst us)) own (.ol ys) (.ref l) [(l,.lst us)]:=by
  R⟨.ol r,Ep,fun q hq=>?_,fun j q r hq hr z=>?_⟩
  ·obtain rfl:=au.mp hq
   E⟨s.le.free hl,s.old.free hl,Z3⟩
  ·obtain rfl:=au.mp hq
   have z':l=r.1:=z
   have:=(s.ok j r hr).2.2
   rw[<-z',hl]at this;C this
 have hb':∀p∈own i,p.1≠l:=fun p hp z=>t.sep i (l,.lst us) p aj hp z.symm
 R⟨_,s1.changeT (o':=.dN (kvs++[(k,.ref l)]) ep' (bs++[b])) (ns':=(a,.dN (kvs++[(k,.ref l)]) ep' (bs++[b]))::(ns'++[(l,.lst us)])) t e hx mb (.oX (kb.snoc hb) (by rw[cq,ek];rfl) (by rw[cq];E kd.snoc r)) (fun p hp=>?_) ?_⟩
 ·rcases bo.mp hp with z|z
  ·E .inl z
  ·rcases cn.mp z with z|z
   ·E .inr (.inl ⟨by rw[en];E ar _ z,fun w=>n1 (a6.mpr ⟨p,z,w⟩)⟩)
   ·E .inr (.inr z)
 ·show(a::(ns'++[(l,HO.lst us)]).map (·.1)).Nodup
  rw[cq]
  R fu.mpr ⟨fun z=>?_,?_⟩
  ·rcases cn.mp z with z|z
   ·E n1 z
   ·E hb' _ mb (au.mp z)
  ·R di.mpr ⟨n2,Ep,fun x hx y hy z=>?_⟩
   O⟨p,hp,ep⟩:=a6.mp hx
   have hy':y=l:=au.mp hy
   E hb' p (by rw[en];E ar _ hp) (by rw[ep,z,hy'])
РP3(ks:А Zk)(xss:А (А D))(k:Zk)(ys:А D):А Zk×А (А D):=match J2 ks k with
 |some p=>(ks,xss.set p (xss.getD p []++ys))
 |none=>(ks++[k],xss++[ys])
ПokX(xss:А (А D))(n:Г):Prop:=xss.length<a8/\n<a8/\∀xs∈xss,xs.length+n<a8
open Classical in
ПMq(i:Г)(fk:FE)(j:Г)(ext:Bool):FS:=fun δ=>match δ[i]? with
 |some (some (.oX _ _))=>(fk δ).bind fun p=>(frz p.1 p.2).bind fun q=>(nk? q.1).bind fun k=>match q.2[i]?,q.2[j]? with
  |some (some (.oX ks xss)),some (some (.fz d))=>(if ext=true then(match d with| .lst ys=>some ys|_=>none)else some [d]).bind fun ys=>if okX xss ys.length then some (.nx (q.2.set i (some (.oX (P3 ks xss k ys).1 (P3 ks xss k ys).2))))else none
  |_,_=>none
 |_=>none
ОDz{i j:Г}{fk:FE}{ext:Bool}(h:Z1 Z (Mq i fk j ext) E σ H):Bk (tBM K "list" (if ext=true then Dx K else Qw) (Zk9 (Q8 i) (Zc Z fk) (Zl0 Rw)) (Jq (Q8 j) Rw)) E σ H:=by
 O⟨F,δ,own,fl,s,e,k⟩:=h
 unfold Mq at e
 split at e
 ·rename_i ks0 xss0 hi0
  O⟨⟨rv,δ1⟩,e1,e⟩:=aa.mp e
  O⟨⟨kd,δ2⟩,e2,e⟩:=aa.mp e
  O⟨kk,e3,e⟩:=aa.mp e
  dsimp only at e2 e3 e
  split at e
  ·rename_i ks xss d hi hj
   O⟨ys,e4,e⟩:=aa.mp e
   split at e
   ·rename_i hok
    C e
    O⟨a,kvs0,ep0,bs0,ns0,hx0,en0,hH0,_⟩:=Ri s hi0
    R⟨.ref a,hx0,a,rfl,⟨_,_,_,hH0⟩,F,δ,own,rv,δ1,s,e1,fun v H1 F1 own1 sH sF s1 r1=>?_⟩
    O⟨F2,sF2,s2,r2⟩:=s1.settleR r1
    O⟨F3,own3,sF3,s3,r3⟩:=s2.frzR r2 e2
    rw[Zff e3]at r3
    O⟨b,rfl,hb⟩:=Rh r3
    O⟨y,hy,shy⟩:=s3.at' j _ hj
    have ry:=Q2 shy
    have hus:∃us,Reps K F3 ys us/\(∀{c:am} {vs:А V} {H4:Hp} {Q:VK},Zf F3 H4->H4 c=some (.lst vs)->F3 c=none->vs.length+ys.length<a8->Q .non (Z5 H4 c (.lst (vs++us)))->(if ext=true then Dx K else Qw) (.ref c) [y] H4 Q):=by
     cases ext with
     |false=>
      obtain rfl:[d]=ys:=by simpa using e4
      R⟨[y],.cons ry .nil,fun{c vs H4 Q} le hc hf hz q=>?_⟩
      E⟨c,vs,y,rfl,rfl,hc,by simpa using(by simp at hz;W:vs.length<a8),q⟩
     |true=>
      simp only[if_true]at e4
      split at e4
      ·rename_i zs
       C e4
       cases ry with
       | @lst l _ us hl _ ru=>
        R⟨us,ru,fun{c vs H4 Q} le hc hf hz q=>?_⟩
        E⟨c,l,vs,us,rfl,rfl,hc,Y1 le hl,by rw[<-ru.length];W,q⟩
      ·C e4
    O⟨us,ru,step⟩:=hus
    have lu:=ru.length
    have sFt:=sF.trans (sF2.trans sF3)
    R⟨dn _,fun l hl=>?_⟩
    have sml:=Qe (o:=HO.lst []) hl
    cases hp:J2 ks kk with
    |some p=>
     O⟨a',kvs,ep,bs,c,vs,xs,hx,hH,hlen,hv,hHc,q1,q2,fc,q3⟩:=Zrw (s3.grow sml) hi hp
     rw[hx0]at hx
     C hx
     have hxs:=cz q1
     have hz:=hok.2.2 xs hxs
     R⟨kvs,ep,bs,kk,b,rfl,hH,hb.mono fun _ _ q=>(s3.grow sml).le _ _ q,by rw[hlen];E hok.1,.inl ⟨.ref c,hv,.inl ⟨rfl,vs,.inl (.inl hHc)⟩,y,hy,?_⟩⟩
     R step (s3.grow sml).le hHc fc И ?_
     O⟨own',sr⟩:=q3 ys us ru
     R k σ _ F3 own' sFt ?_
     have:P3 ks xss kk ys=(ks,xss.set p (xs++ys)):=by
      unfold P3
      rw[hp]
      have:xss.getD p []=xs:=by rw[bz,q1];rfl
      show(ks,xss.set p (xss.getD p []++ys))=_
      rw[this]
     rw[this]
     E sr
    |none=>
     O⟨a',kvs,ep,bs,hx,hH,hlen,hv,q3⟩:=Zrx s3 hi hp
     rw[hx0]at hx
     C hx
     have hH':(Z5 H1 l (.lst [])) a=some (.dN kvs ep bs):=sml _ _ hH
     R⟨kvs,ep,bs,kk,b,rfl,hH',hb.mono fun _ _ q=>(s3.grow sml).le _ _ q,by rw[hlen];E hok.1,.inr ⟨hv,fun ep'=>?_⟩⟩
     have hla:l≠a:=fun z=>by rw[z,hH]at hl;C hl
     have hHl:(Z5 (Z5 H1 l (.lst [])) a (.dN (kvs++[(kk,.ref l)]) ep' (bs++[b]))) l=some (.lst []):=by rw[Zm hla,Z3]
     have leN:Zf F3 (Z5 (Z5 H1 l (.lst [])) a (.dN (kvs++[(kk,.ref l)]) ep' (bs++[b]))):=fun c u ec=>by
      have hca:c≠a:=fun z=>by
       O⟨a2,kvs2,ep2,bs2,ns2,hx2,en2,_⟩:=Ri s3 hi
       rw[hx0]at hx2
       C hx2
       have:=(s3.ok i (a,.dN kvs2 ep2 bs2) (by rw[en2];E aj)).1
       rw[z,this]at ec;C ec
      rw[Zm hca]
      E(s3.grow sml).le _ _ ec
     R⟨.inl ⟨rfl,[],.inl (.inl hHl)⟩,y,hy,?_⟩
     R step (vs:=[]) leN hHl (s3.le.free hl) (by have h1:=hok.2.1;simpa using h1) ?_
     O⟨own',sr⟩:=q3 l b ys us ep' hl hb ru
     R k σ _ F3 own' sFt ?_
     have:P3 ks xss kk ys=(ks++[kk],xss++[ys]):=by unfold P3;rw[hp]
     rw[this]
     E sr
   ·C e
  ·C e
 ·C e
end
section
variable{X:Cx}{Z:Ent X.K}{a b c:ci}{fa fb fc:FE}{pos:Pos}
ОD0:PE X (.Dict [] [] pos) (Zc Z Fk):=Zfm.imp fun _ _ _ h=>Zi1 h
ОZi2(i j:Г){x y:Str}{k:ci}{fk:FE}{px py p2 ap1 cp1 apos cpos:Pos}(hu:X.A.units+64<d8)(hk:PE X k (Zc Z fk))(hN:X.N[i]? =some x:=by rfl)(hv:Sv X.env.scope x:=by first|E Or.inl rfl|E gg (Or.inl rfl)|E gg (gg rfl))(hd:(x==("__debug__":Str))=false:=by decide)(hcd:(x==("__classdict__":Str))=false:=by decide)
  (hN':X.N[j]? =some y:=by rfl) (hv':Sv X.env.scope y:=by first|E Or.inl rfl|E gg (Or.inl rfl)|E gg (gg rfl)) (hd':(y==("__debug__":Str))=false:=by decide) (hcd':(y==("__classdict__":Str))=false:=by decide)
  (m:M2 X (.Name x px) "setdefault" ap1 k (.List [] p2) cp1:=by E⟨rfl,rfl,rfl,rfl⟩)
  (hbase:attributeBase (.Call (.Attribute (.Name x px) "setdefault" ap1) [k,.List [] p2] [] cp1) "append" X.env (f9 (.Call (.Attribute (.Name x px) "setdefault" ap1) [k,.List [] p2] [] cp1) X.env)=f9 (.Call (.Attribute (.Name x px) "setdefault" ap1) [k,.List [] p2] [] cp1) X.env:=by rfl)
  (hfew:((f7 cpos (ay [.Name y py] X.env)).all (fun x=>!x.1)&&(backToKw cpos (keywordEach [] X.env)).all (fun x=>x.1.isSome)&&decide ([Expr.Name y py].length+([]:А Keyword).length+(if([]:А Keyword).isEmpty then 0 else 1)<30))=true:=by rfl)
  (hline:(apos.endLine==cpos.line)=true:=by rfl) (hs:ay [.Name y py] X.env=(false,f9 (.Name y py) X.env)::ay [] X.env:=by rfl) (hpl:(f7 cpos (ay [] X.env)).any (·.1)=false:=by rfl) (hsw:swapsWith (.Call (.Attribute (.Call (.Attribute (.Name x px) "setdefault" ap1) [k,.List [] p2] [] cp1) "append" apos) [.Name y py] [] cpos) none pos.line X.env=pure false:=by rfl):
  PS X (.Expr (.Call (.Attribute (.Call (.Attribute (.Name x px) "setdefault" ap1) [k,.List [] p2] [] cp1) "append" apos) [.Name y py] [] cpos) pos) (Z1 Z (Mq i fk j false)):=
 (Od (Ie PySem.F.plainAttrs_list PySem.F.slot_list_append PySem.F.type_list_append B9 (Dw И (Jo (i:=i) hN hv hd hcd) hk (S4 Jr) m) (W3 (Jo (i:=j) hN' hv' hd' hcd') Jr hs) hbase hfew hline hs hpl) hsw).imp fun _ _ _ h=>Dz (ext:=false) h
ОZi3(i j:Г){x y:Str}{k:ci}{fk:FE}{px py p2 ap1 cp1 apos cpos:Pos}(hu:X.A.units+64<d8)(hk:PE X k (Zc Z fk))(hN:X.N[i]? =some x:=by rfl)(hv:Sv X.env.scope x:=by first|E Or.inl rfl|E gg (Or.inl rfl)|E gg (gg rfl))(hd:(x==("__debug__":Str))=false:=by decide)(hcd:(x==("__classdict__":Str))=false:=by decide)
  (hN':X.N[j]? =some y:=by rfl) (hv':Sv X.env.scope y:=by first|E Or.inl rfl|E gg (Or.inl rfl)|E gg (gg rfl)) (hd':(y==("__debug__":Str))=false:=by decide) (hcd':(y==("__classdict__":Str))=false:=by decide)
  (m:M2 X (.Name x px) "setdefault" ap1 k (.List [] p2) cp1:=by E⟨rfl,rfl,rfl,rfl⟩)
  (hbase:attributeBase (.Call (.Attribute (.Name x px) "setdefault" ap1) [k,.List [] p2] [] cp1) "extend" X.env (f9 (.Call (.Attribute (.Name x px) "setdefault" ap1) [k,.List [] p2] [] cp1) X.env)=f9 (.Call (.Attribute (.Name x px) "setdefault" ap1) [k,.List [] p2] [] cp1) X.env:=by rfl)
  (hfew:((f7 cpos (ay [.Name y py] X.env)).all (fun x=>!x.1)&&(backToKw cpos (keywordEach [] X.env)).all (fun x=>x.1.isSome)&&decide ([Expr.Name y py].length+([]:А Keyword).length+(if([]:А Keyword).isEmpty then 0 else 1)<30))=true:=by rfl)
  (hline:(apos.endLine==cpos.line)=true:=by rfl) (hs:ay [.Name y py] X.env=(false,f9 (.Name y py) X.env)::ay [] X.env:=by rfl) (hpl:(f7 cpos (ay [] X.env)).any (·.1)=false:=by rfl) (hsw:swapsWith (.Call (.Attribute (.Call (.Attribute (.Name x px) "setdefault" ap1) [k,.List [] p2] [] cp1) "extend" apos) [.Name y py] [] cpos) none pos.line X.env=pure false:=by rfl):
  PS X (.Expr (.Call (.Attribute (.Call (.Attribute (.Name x px) "setdefault" ap1) [k,.List [] p2] [] cp1) "extend" apos) [.Name y py] [] cpos) pos) (Z1 Z (Mq i fk j true)):=
 (Od (Ie PySem.F.plainAttrs_list PySem.F.slot_list_extend PySem.F.type_list_extend Dy (Dw И (Jo (i:=i) hN hv hd hcd) hk (S4 Jr) m) (W3 (Jo (i:=j) hN' hv' hd' hcd') Jr hs) hbase hfew hline hs hpl) hsw).imp fun _ _ _ h=>Dz (ext:=true) h
end
end DL
namespace L2
open PySem PySem.Spec PySem.Calls PyProof.Rows
ПZry:V->V->Hp->VK->Prop:=fun x y H Q=>∃a b kvs ep bs k v,x= .ref a/\y= .ref b/\H a=some (.dN kvs ep bs)/\U1 H k b/\Wy kvs k=some v/\Q v H
ПItn(a:am)(n ep:Г):It:=
 ⟨fun i H=>∃kvs bs,H a=some (.dN kvs ep bs)/\kvs.length=n/\i<n,fun i H x H'=>H'=H/\∃kvs bs b,H a=some (.dN kvs ep bs)/\bs[i]? =some b/\x= .ref b,fun i H=>∃kvs bs,H a=some (.dN kvs ep bs)/\kvs.length=n/\n<=i⟩
ОZi4{P:bu}{w:cj}{K:af}{tg:ci}(a it:am)(n ep:Г):Turn P w K tg (Itn a n ep) [it] it (fun i h=>h.IsKeyIter it a i n ep)where
 mem:=aj
 obj:=(Ol (P:=P) (w:=w) (K:=K) (tg:=tg) a it n ep).obj
 keep:=(Ol (P:=P) (w:=w) (K:=K) (tg:=tg) a it n ep).keep
 item:=by
  intro X hP hw hK hc i pins s σ H E I hf st hg
  subst hP hw hK
  O⟨kvs,bs,hq,hn,hi⟩:=hg
  O⟨z,hd,xs,rel,od,es,g,x,c,en,nd,hbs⟩:=(show Z9 X.prog X.w H s.heap a (.dN kvs ep bs)from I.hok a _ hq)
  O⟨f0,f1,f2,f3,f4,f5⟩:=hf it aj
  have hkv:kvs[i]? =some (kvs[i]'И):=az И
  O⟨vv,hv,hr⟩:=Jl rel hkv
  have hz:es.size=n:=by rw[<-aw,en,ao,<-gu rel,hn]
  have he:es[i]? =some (entryOfKey (E4 X.prog X.w) vv):=by rw[<-b5,en,bf,hv];rfl
  R G6 st g c hz he fun h' st' sb=>?_
  have I1:Inv X pins σ H {s with heap:=h'}:=I.turned (t':=s.toks) (fun b o hb e=>(sb.2 b hb).trans e) f0 f1 f3 f4 f5
  O⟨o,e1,c1,d1⟩:=id st'
  E⟨.ref vv.2.1,rfl,Ti (s:={s with heap:=h'}) e1 c1 d1 Й ⟨.ref vv.2.1,H,I1,rfl,⟨rfl,kvs,bs,vv.2.1,hq,by rw[<-hbs,bf,hv];rfl,rfl⟩,st',fun b hb=>(hf b hb).1⟩⟩
 done:=by
  intro X hP hw hK hc i pins s σ H E I hf st hg
  subst hP hw hK
  O⟨kvs,bs,hq,hn,hi⟩:=hg
  O⟨z,hd,xs,rel,od,es,g,x,c,en,nd,hbs⟩:=(show Z9 X.prog X.w H s.heap a (.dN kvs ep bs)from I.hok a _ hq)
  O⟨f0,f1,f2,f3,f4,f5⟩:=hf it aj
  have hz:es.size=n:=by rw[<-aw,en,ao,<-gu rel,hn]
  E G7 (I.ok.hd hc) st g c hz hi fun h' eb=>⟨rfl,I.turned (t':=s.toks) (fun b o hb e=>eb b o hb e) f0 f1 f3 f4 f5⟩
 self:=(Ol (P:=P) (w:=w) (K:=K) (tg:=tg) a it n ep).self
section
variable{X:Cx}{tg:ci}
ПZlb(tl:TE):TI:=fun σ H R=>tl σ H fun x H1=>∃a kvs ep bs,x= .ref a/\H1 a=some (.dN kvs ep bs)/\R (Itn a kvs.length ep) H1
ОZi5{l:ci}{tl:TE}(hl:PE X l tl):PI X tg l (Zlb tl):=by
 intro pins s σ H R I h
 R Wo (hl pins s σ H _ I h) fun v s1 zq9=>?_
 O⟨x,H1,I1,r1,q1⟩:=zq9
 O⟨a,kvs,ep,bs,rfl,hq,q⟩:=q1
 C r1
 O⟨z,hd,xs,rel,od,es,g,x,c,en,nd,hbs⟩:=(show Z9 X.prog X.w H1 s1.heap a (.dN kvs ep bs)from I1.hok a _ hq)
 have hz:es.size=kvs.length:=by rw[<-aw,en,ao,<-gu rel]
 R G5 hd g x c ⟨s1.heap.objs.size,[s1.heap.objs.size],_,_,H1,rfl,I1.kept (t':=s1.toks) fun b o e=>aq _ e,Zi4 a _ kvs.length ep,⟨_,a9 _ rfl,rfl,by rw[hz];rfl⟩,fun b hb=>?_,q⟩
 obtain rfl:=au.mp hb
 E I1.fpOk (a7 _) (I1.hok.fresh (a7 _))
end
end L2
namespace DL
open PySem PySem.Spec PyProof.Rows L2 TT
variable{K:af}
ОZbo{F:Hp}{a:am}{kvs:А (Zk×V)}{ep:Г}{bs:А am}(h:F a=some (.dN kvs ep bs))(kb:KN F kvs bs):Uu K (Itn a kvs.length ep) F ((kvs.map (·.1)).map Zu):=fun F' H sF sH i=>by
 have q:H a=some (.dN kvs ep bs):=sH _ _ (sF _ _ h)
 R⟨fun d hd=>?_,fun hl=>⟨kvs,bs,q,rfl,by simpa using hl⟩⟩
 rw[bx,bf]at hd
 O⟨kv,h1,h2⟩:=cm.mp hd
 R⟨⟨kvs,bs,q,rfl,(ax.mp h1).1⟩,fun x H' ⟨e1,kvs',bs',b,e2,e3,e4⟩=>?_⟩
 subst e1
 rw[q]at e2;C e2
 subst e4
 O⟨b',g1,g2⟩:=Jl (kb.mono sF) h1
 rw[e3]at g1;C g1
 rw[<-h2]
 E⟨Zf.refl _,[],c7,fun _ h=>(nomatch h),Rg g2⟩
ОZ7.dX{F H:Hp}{ks:А Zk}{ds:А D}{v:V}(le:Zf F H)(h:Z7 K F H (.dX ks ds) v):∃a kvs ep bs,v= .ref a/\H a=some (.dN kvs ep bs)/\kvs.map (·.1)=ks/\Reps K F ds (kvs.map (·.2)):=by
 O⟨sv,ns,e,n,sh,hp⟩:=h
 cases sh with
 |fz r=>C e;cases r with|dX h kb e r=>E⟨_,_,_,_,rfl,le _ _ h,e,r⟩
 |ol r=>C e
 |oK e' r=>C e
 |oT kb e' r=>C e
 |oN e' r=>C n
 |oX kb' e' r=>C n
 |oL _ r=>C n
 |oQ e' r=>C e
ОZ7.nk{F H:Hp}{d:D}{k:Zk}{v:V}(le:Zf F H)(e0:nk? d=some k)(h:Z7 K F H d v):∃b,v= .ref b/\U1 H k b:=by
 rw[Zff e0]at h
 O⟨sv,ns,e,n,sh,hp⟩:=h
 have nt:∀{xs:А D},Zu k≠.lst xs:=fun{xs} z=>by cases k<;> C z
 have nd:∀{ks:А Key} {xs:А D},Zu k≠.dK ks xs:=fun{ks xs} z=>by cases k<;> C z
 have ndt:∀{ks:А (А Key)} {xs:А D},Zu k≠.dT ks xs:=fun{ks xs} z=>by cases k<;> C z
 cases sh with
 |fz r=>
  have e:_=Zu k:=e
  simp only[SV.toD]at e
  subst e
  O⟨b,rfl,hb⟩:=Rh r
  E⟨b,rfl,hb.mono fun _ _ q=>le _ _ q⟩
 |ol r=>E absurd e.symm nt
 |oK e' r=>E absurd e.symm nd
 |oT kb e' r=>E absurd e.symm ndt
 |oN e' r=>C n
 |oX kb' e' r=>C n
 |oL _ r=>C n
 |oQ e' r=>E absurd e.symm nd
section
variable{Z:Ent K}{H:Hp}{σ:L2.St}{Q:VK}{E:Yz}
РZfo(fe:FE):FD:=fun δ=>(fe δ).bind fun p=>(frz p.1 p.2).bind fun q=>match q.1 with
 | .dX ks _=>some (ks.map Zu,q.2)
 |_=>none
ОZi6{fe:FE}{R:It->Hp->В}(h:W5 Z (Zfo fe) σ H R):Zlb (Zc Z fe) σ H R:=by
 O⟨F,δ,own,ds,δ',s,e,k⟩:=h
 O⟨⟨rv,δ1⟩,e1,e2⟩:=aa.mp e
 O⟨⟨d,δ2⟩,e3,e4⟩:=aa.mp e2
 R⟨F,δ,own,rv,δ1,s,e1,fun v H1 F1 own1 sH sF s1 r1=>?_⟩
 O⟨F2,sF2,s2,r2⟩:=s1.settleR r1
 O⟨F3,own3,sF3,s3,r3⟩:=s2.frzR r2 e3
 dsimp only at e4
 split at e4
 ·C e4
  cases r3 with
  |dX h kb e r=>subst e;E⟨_,_,_,_,rfl,s3.le _ _ h,k _ H1 F3 own3 sH (sF.trans (sF2.trans sF3)) s3 (Zbo h kb)⟩
 ·C e4
РZfp(d1 d2:D):Б SV:=match d1 with
 | .dX ks vs=>(nk? d2).bind fun k=>(look ks vs k).bind fun d=>some (.fz d)
 |_=>none
ОZrz:Y4 Z Zry Zfp:=by
 intro F H σ δ own x y d1 d2 sv Q s r1 r2 e k
 unfold Zfp at e
 split at e
 ·rename_i ks vs
  O⟨kk,e1,e2⟩:=aa.mp e
  O⟨d,e3,e4⟩:=aa.mp e2
  C e4
  O⟨a,kvs,ep,bs,rfl,ha,rfl,rr⟩:=r1.dX s.le
  O⟨b,rfl,hb⟩:=r2.nk s.le e1
  have z:=Gz kk kvs _ rr
  rw[e3]at z
  O⟨v,z1,z2⟩:=z
  E⟨a,b,kvs,ep,bs,kk,v,rfl,rfl,ha,hb,z1,k.fz s z2⟩
 ·C e
РP4(i:Г)(fe:FE):FS:=fun δ=>match δ[i]? with
 |some (some (.ol _))=>(fe δ).bind fun p=>(frz p.1 p.2).bind fun q=>match q.1,q.2[i]? with
  | .lst ys,some (some (.ol xs))=>if xs.length+ys.length<=a8 then some (.nx (q.2.set i (some (.ol (xs++ys)))))else none
  |_,_=>none
 |_=>none
ОZnr{i:Г}{fe:FE}(h:Z1 Z (P4 i fe) E σ H):Bk (tBM K "list" (Dx K) (Q8 i) (Jq (Zc Z fe) Rw)) E σ H:=by
 O⟨F,δ,own,fl,s,e,k⟩:=h
 unfold P4 at e
 split at e
 ·rename_i xs0 hx0
  O⟨⟨rv,δ1⟩,e1,e2⟩:=aa.mp e
  O⟨⟨d,δ2⟩,e3,e4⟩:=aa.mp e2
  O⟨v,hv,sh⟩:=s.at' i _ hx0
  O⟨a,vs0,ev,en,r0⟩:=Jw sh
  R⟨v,hv,?_,F,δ,own,rv,δ1,s,e1,fun y H1 F1 own1 sH sF s1 r1=>?_⟩
  ·subst ev
   E .inl ⟨rfl,vs0,.inl (.inl (s.ok i (a,.lst vs0) (by rw[en];E aj)).2.2)⟩
  O⟨F2,sF2,s2,r2⟩:=s1.settleR r1
  O⟨F3,own3,sF3,s3,r3⟩:=s2.frzR r2 e3
  dsimp only at e4
  split at e4
  ·rename_i ys xs hx
   by_cases hz:xs.length+ys.length<=a8
   ·rw[Е hz]at e4
    C e4
    O⟨v',hv',sh'⟩:=s3.at' i _ hx
    rw[hv]at hv';C hv'
    O⟨b,vs,eb,en',r'⟩:=Jw sh'
    have mb:(b,HO.lst vs)∈own3 i:=by rw[en'];E aj
    subst eb
    cases r3 with
    | @lst l _ us hl _ ru=>
     R⟨b,l,vs,us,rfl,rfl,(s3.ok i _ mb).2.2,Y1 s3.le hl,by rw[<-r'.length,<-ru.length];E hz,?_⟩
     E k σ _ F3 _ (sF.trans (sF2.trans sF3)) (s3.change (sv':=.ol (xs++ys)) (o':=.lst (vs++us)) (ns':=[(b,.lst (vs++us))]) hx hv mb (.ol (r'.append ru)) (fun p hp=>.inl (au.mp hp)) Ep)
   ·rw[Д hz]at e4;C e4
  ·C e4
 ·C e
РLz(j ia il:Г):FS:=fun δ=>match δ[ia]?,δ[il]? with
 |some (some (.fz (.lst hs))),some (some (.ol xs))=>(xs[xs.length- 1]?).bind fun d=>(ixD (.lst hs) d).bind fun sv=>(stow j (.tmp sv) (δ.set il (some (.ol xs.dropLast)))).bind fun δ'=>some (.nx δ')
 |_,_=>none
ОReps.dropLast{F:Hp}{ds:А D}{vs:А V}(r:Reps K F ds vs):Reps K F ds.dropLast vs.dropLast:=by
 rw[List.dropLast_eq_take,List.dropLast_eq_take,<-r.length]
 E r.take _
ОZi7{j ia il:Г}(h:Z1 Z (Lz j ia il) E σ H):Kf (tOp (rIx K) (Q8 ia) (Zcq K "list" Zpe (Q8 il))) (Ui j) E σ H:=by
 O⟨F,δ,own,fl,s,e,k⟩:=h
 unfold Lz at e
 split at e
 ·rename_i hs xs hia hil
  O⟨d,e1,e⟩:=aa.mp e
  O⟨sv,e2,e⟩:=aa.mp e
  O⟨δ2,e3,e⟩:=aa.mp e
  C e
  O⟨x,hx,shx⟩:=s.at' ia _ hia
  have rx:=Q2 shx
  O⟨y,hy,shy⟩:=s.at' il _ hil
  O⟨a,vs,ea,en,ra⟩:=Jw shy
  subst ea
  have mb:(a,HO.lst vs)∈own il:=by rw[en];E aj
  have hHa:=(s.ok il _ mb).2.2
  O⟨v,hv,rv⟩:=ra.get e1
  have hl:=ra.length
  R⟨x,hx,.ref a,hy,.inl ⟨rfl,vs,.inl (.inl hHa)⟩,a,vs,v,rfl,rfl,hHa,by rw[<-hl];E hv,?_⟩
  have s2:=s.change (sv':=.ol xs.dropLast) (o':=.lst vs.dropLast) (ns':=[(a,.lst vs.dropLast)]) hil hy mb (.ol ra.dropLast) (fun p hp=>.inl (au.mp hp)) Ep
  R Zp4 F _ σ _ _ x v (.lst hs) d sv _ s2 (Z7.of rx) (Z7.of rv) e2 fun w H3 F3 ns sH sF s3 t3=>?_
  O⟨F4,own4,sF4,s4⟩:=s3.stow (rv:=.tmp sv) (v:=w) ⟨ns,t3⟩ e3
  E k _ H3 F4 own4 (sF.trans sF4) s4
 ·C e
РD1(j:Г)(f1:FE):FE:=fun δ=>match δ[j]? with
 |some (some (.fz kd))=>kd.key?.bind fun k=>(Ze f1 Zl δ).bind fun p=>match p.1 with
  | [v1]=>some (.tmp (.oK [k] [v1]),p.2)
  |_=>none
 |_=>none
ОZi8{f1:FE}{j:Г}(h:Zc Z (D1 j f1) σ H Q):Zej [(Q8 j,Zc Z f1)] σ H Q:=by
 O⟨F,δ,own,rv,δ',s,e,k⟩:=h
 unfold D1 at e
 split at e
 ·rename_i kd hx
  O⟨kk,e0,e⟩:=aa.mp e
  O⟨⟨ds,δ1⟩,e1,e2⟩:=aa.mp e
  dsimp only at e2
  split at e2
  ·rename_i v1
   C e2
   O⟨v,hv,sh⟩:=s.at' j _ hx
   have r:=Q2 sh
   have ev:v=kV kk:=Hl e0 r
   have hd:Wi Z (Ze f1 Zl) σ H (fun vs H'=>∃kvs:А (Key×V),([kV kk].zip vs)=kvs.map (fun kv=>(kV kv.1,kv.2))/\kvs.length<=15/\∀p ep,H' p=none->Q (.ref p) (Z5 H' p (.dK (Ut [] kvs) ep))):=by
    R⟨F,δ,own,[v1],_,s,e1,fun vs H1 F1 own1 sH sF s1 r1=>?_⟩
    obtain⟨w1,rfl⟩:∃w1,vs=[w1]:=by
     cases r1 with
     |cons h t=>C t;E⟨_,rfl⟩
    R⟨[(kk,w1)],rfl,by show 1<=15;decide,fun p ep hp=>?_⟩
    have nd:((([]:А (Key×V))++[(kk,w1)]).map (·.1)).Nodup:=by simp
    rw[Ix _ [] nd,dz]
    E Fin.one (fun w H' F' ns a b c t=>k w H' F' own1 (sH.trans a) (sF.trans b) c ⟨ns,t⟩) s1 (.oK rfl r1) hp
   have h2:=Tt (fe:=f1) (fd:=Zl) hd
   R⟨v,hv,?_⟩
   rw[ev]
   R Vt (fun u H1 q=>?_) h2
   have z:=Il q
   E z
  ·C e2
 ·C e
end
section
variable{X:Cx}{Z:Ent X.K}{a b c:ci}{fa fb fc:FE}{pos:Pos}
ОZns{tg:ci}(ha:PE X a (Zc Z fa)):PI X tg a (W5 Z (Zfo fa)):=fun pins s σ H R I h=>Zi5 ha pins s σ H R I (Zi6 h)
ОZlc(hu:X.A.units+64<d8)(ha:PE X a (Zc Z fa))(hb:PE X b (Zc Z fb))(hs:Ki b:=by intro _ _;rfl):PE X (.Subscript a b pos) (Zc Z (Zt Zfp fa fb)):=fun pins s σ H Q I h=>Ziz И ha hb hs pins s σ H Q I (Ik Zrz h)
ОZfq(i:Г){x:Str}{px apos cpos:Pos}(hb:PE X b (Zc Z fb))(hN:X.N[i]? =some x:=by rfl)(hv:Sv X.env.scope x:=by first|E Or.inl rfl|E gg (Or.inl rfl)|E gg (gg rfl))(hd:(x==("__debug__":Str))=false:=by decide)
  (hcd:(x==("__classdict__":Str))=false:=by decide) (hbase:attributeBase (.Name x px) "extend" X.env (f9 (.Name x px) X.env)=f9 (.Name x px) X.env:=by rfl)
  (hfew:((f7 cpos (ay [b] X.env)).all (fun x=>!x.1)&&(backToKw cpos (keywordEach [] X.env)).all (fun x=>x.1.isSome)&&decide ([b].length+([]:А Keyword).length+(if([]:А Keyword).isEmpty then 0 else 1)<30))=true:=by rfl)
  (hline:(apos.endLine==cpos.line)=true:=by rfl) (hs:ay [b] X.env=(false,f9 b X.env)::ay [] X.env:=by rfl) (hpl:(f7 cpos (ay [] X.env)).any (·.1)=false:=by rfl) (hsw:swapsWith (.Call (.Attribute (.Name x px) "extend" apos) [b] [] cpos) none pos.line X.env=pure false:=by rfl):
  PS X (.Expr (.Call (.Attribute (.Name x px) "extend" apos) [b] [] cpos) pos) (Z1 Z (P4 i fb)):=
 (Od (Ie PySem.F.plainAttrs_list PySem.F.slot_list_extend PySem.F.type_list_extend Dy (Jo (i:=i) hN hv hd hcd) (W3 hb Jr hs) hbase hfew hline hs hpl) hsw).imp fun _ _ _ h=>Znr h
ОZi9(j ia il:Г){x y z:Str}{py pz apos cpos p1 p2:Pos}(hn:X.N.Nodup)(hy:PE X (.Name y py) (Q8 ia))(hz:PE X (.Name z pz) (Q8 il))(hj:X.N[j]? =some x:=by rfl)(hl:Loc X.env.scope x:=by first|E Or.inl rfl|E gg rfl)
  (hbase:attributeBase (.Name z pz) "pop" X.env (f9 (.Name z pz) X.env)=f9 (.Name z pz) X.env:=by rfl) (hline:(apos.endLine==cpos.line)=true:=by rfl)
  (hs:swapsWith (.Subscript (.Name y py) (.Call (.Attribute (.Name z pz) "pop" apos) [] [] cpos) p2) (some (.Name x p1)) pos.line X.env=pure false:=by rfl) (hf:X.fn x=true\/X.env.scope.names.lookup x=some .local:=by first|E .inl rfl|E .inr rfl):
  PS X (.Assign [.Name x p1] (.Subscript (.Name y py) (.Call (.Attribute (.Name z pz) "pop" apos) [] [] cpos) p2) pos) (Z1 Z (Lz j ia il)):=
 (Sy hn hj hl (Hb Kj hy (Zcr PySem.F.plainAttrs_list PySem.F.slot_list_pop PySem.F.type_list_pop Zl7 hz hbase hline) М) hs hf).imp fun _ _ _ h=>Zi7 h
ОZja(j:Г){x:Str}{p2:Pos}(hb:PE X b (Zc Z fb))(hN:X.N[j]? =some x:=by rfl)(hv:Sv X.env.scope x:=by first|E Or.inl rfl|E gg (Or.inl rfl)|E gg (gg rfl))(hd:(x==("__debug__":Str))=false:=by decide)
  (hcd:(x==("__classdict__":Str))=false:=by decide):PE X (.Dict [some (.Name x p2)] [b] pos) (Zc Z (D1 j fb)):=
 (Zek (Zcz (Jo (i:=j) hN hv hd hcd) hb Zhl) З З Л (by show 1<=15;decide)).imp fun _ _ _ h=>Zi8 h
end
end DL
namespace L2
open PySem PySem.Spec PySem.Calls PyProof.Rows DL TX
section
variable{X:Cx}
ПZfr(_:af):А V->Hp->VK->Prop:=fun vs H Q=>∃a kvs ep ss,vs=[.ref a]/\H a=some (.dK kvs ep)/\kvs.map (·.1)=ss.map b8/\ss.length<64/\∀q,H q=none->Q (.ref q) (Z5 H q (.lst ((J1 ss).map V.str)))
ОFm{P:bu}{w:cj}:∀{es:А DictEntry} {vs:А (Key×ah)} {ss:А Str},Pairs (Zj P w) es vs->vs.map (·.1)=ss.map b8->StrsAre (es.map (·.key)) ss
 |_,_,[],.nil,_=>.nil
 |_,_,_::_,.nil,h=>nomatch h
 |_,_,[],.cons _ _ _,h=>nomatch h
 |_,_,x::ss,.cons h1 _ t,h=>by
  rw[av,av]at h
  injection h with h2 h3
  rw[h2]at h1
  rw[av]
  rcases Z0 (k:=.inr x) h1 with⟨_,_,z,_⟩|⟨y,tk,z,e⟩
  ·C z
  ·C z
   rw[e]
   E .cons _ _ (Fm t h3)
ОXd(hc:X.calm=true):Qd X (.builtin "sorted") (Zfr X.K):=by
 intro pins s σ H xs us Q I r h
 O⟨a,kvs,ep,ss,rfl,ha,hk0,hz,q⟩:=h
 O⟨u,rfl,ru⟩:=Jp r
 C ru
 O⟨z,hd,vs,rel,od,es,g,x,c,ko,pr,nd⟩:=(show Z9 X.prog X.w H s.heap a (.dK kvs ep)from I.hok a _ ha)
 have hvk:vs.map (·.1)=ss.map Sum.inr:=by
  rw[<-hk0]
  clear ha pr hk0 z nd
  induction rel with
  |nil=>rfl
  |cons h _ ih=>rw[av,av,ih,h.1]
 have hS:=Fm pr hvk
 have hes:es.size=ss.length:=by
  have:=Ca pr
  rw[aw]at this
  have h2:=congrArg List.length hvk
  rw[ao,ao]at h2
  W
 R Calls.call_function_entry kind_sorted plain_sorted entry_sorted (args_sorted1 _) ?_
 unfold Builtin.«sorted»
 R ad (m:=checkCount "sorted" 1 1 _) (ag ?_)
 R ad (Pv (A:=X.A.in1) (I.ok.hd hc) hd x c g И fun h1 tk hk ge=>?_)
 generalize es.toList.map (·.key)=its at hS
 have il:its.length=ss.length:=hS.length
 R ad (wpAny_newList ?_ (by rw[dq];W))
 have gL:(h1.push (de "list" its.toArray 0)).get? h1.objs.size=some (de "list" its.toArray 0):=a9 _ rfl
 have ltL:h1.objs.size<(h1.push (de "list" its.toArray 0)).objs.size:=bc gL
 R ad (gc (c5 slot_list_sort ⟨_,gL,rfl⟩ entry_list_sort (list_sort_treeK (s:={s with heap:=h1.push (de "list" its.toArray 0),toks:=tk}) strKind_oneLt gL hS.keysOf (fun v₁ v₂ rest e=>keyKind_strs (by rw[<-e];E hS)) И fun st' hp hs=>⟨_,rfl,?_⟩) (args_list_sort _)))
 O⟨ss',a1,a2,a3⟩:=sorted_out_str hS hp hs
 have e:ss'=J1 ss:=Zbg (a2.trans (Yy ss).symm) (Zbh a3) (Lr ss)
 subst e
 O⟨cc,hcc⟩:=sortedHeap_at (out:=(arrOf st').map (·.2)) gL
 have keep:∀b o,s.heap.get? b=some o->(sortedHeap (h1.push (de "list" its.toArray 0)) h1.objs.size its ((arrOf st').map (·.2))).get? b=some o:=fun b o e=>by
  have e1:=hk b o e
  have lt1:b<h1.objs.size:=bc e1
  rw[sortedHeap_old (b4 lt1) (Nat.lt_trans lt1 ltL)]
  E aq _ e1
 have ok:Z9 X.prog X.w (Z5 H h1.objs.size (.lst ((J1 ss).map V.str))) (sortedHeap (h1.push (de "list" its.toArray 0)) h1.objs.size its ((arrOf st').map (·.2))) h1.objs.size (.lst ((J1 ss).map V.str)):=by
  R⟨?_,((arrOf st').map (·.2)).toList,cc,Ao a1,by rw[Array.toArray_toList];E hcc⟩
  rw[ao,(Yy ss).length_eq,dq]
  W
 E ag ⟨_,rfl,.ref h1.objs.size,_,I.laid (t':=tk) keep ge ok,rfl,q _ (I.hok.fresh ge)⟩
end
end L2
namespace DL
open PySem PySem.Spec PySem.Calls PyProof.Rows L2 TX
variable{K:af}
Пtxk?:А Key->Б (А Str)
 | []=>some []
 | .inr x::r=>(txk? r).bind fun l=>some (x::l)
 | .inl _::_=>none
@[simp] theorem D2:∀ss:А Str,txk? (ss.map b8)=some ss
 | []=>rfl
 |s::ss=>by rw[av,txk?,D2 ss];rfl
ОZfs:∀{ks:А Key} {ss:А Str},txk? ks=some ss->ks=ss.map b8
 | [],_,h=>by C h;rfl
 | .inr x::r,_,h=>by
  O⟨l,h1,h2⟩:=aa.mp (show(txk? r).bind _=_ from h)
  C h2
  rw[Zfs h1];rfl
 | .inl _::_,_,h=>nomatch h
ПBz:А D->Б SV
 | [.dK ks _]=>(txk? ks).bind fun ss=>if ss.length<64 then some (.ol ((J1 ss).map D.str))else none
 |_=>none
ОFn{ss:А Str}{vs:А D}(h:ss.length<64):Bz [.dK (ss.map b8) vs]=some (.ol ((J1 ss).map D.str)):=by
 show(txk? (ss.map b8)).bind _=_
 rw[D2]
 show(if ss.length<64 then _ else _)=_
 rw[Е h]
section
variable{Z:Ent K}{H:Hp}{σ:L2.St}{Q:VK}{E:Yz}
ОZjb:Ju Z (Zfr K) Bz:=by
 intro F H σ δ own vs ds sv Q s r e k
 unfold Bz at e
 split at e
 ·O⟨ss,e1,e2⟩:=aa.mp e
  split at e2
  ·rename_i hz
   C e2
   cases r with
   |cons h t=>
    C t
    O⟨a,kvs,rfl,⟨ep,ha⟩,ek,_⟩:=h.dK s.le
    E⟨a,kvs,ep,ss,rfl,ha,by rw[ek];E Zfs e1,hz,fun q hq=>k.lst s (Pu _) hq⟩
  ·C e2
 ·C e
end
section
variable{X:Cx}{Z:Ent X.K}{a b c:ci}{fa fb fc:FE}{pos:Pos}
ОD3{p:Pos}(hc:X.calm=true)(hm:X.mg "sorted"=none)(ha:PE X a (Zc Z fa))(hg:Gl X "sorted":=by rfl)(he:ay [a] X.env=(false,f9 a X.env)::ay [] X.env:=by rfl)(hpl:(f7 pos (ay [] X.env)).any (·.1)=false:=by rfl):
  PE X (.Call (.Name "sorted" p) [a] [] pos) (Zc Z (Yl Bz (Zd fa Zn))):=M3 (Xd hc) Zjb hm L2.Bw (Zo ha Ym he) hg Й Й he hpl
end
end DL
namespace DL
open PySem PySem.Spec PyProof.Rows L2 TT
variable{K:af}
open Classical in
Пres(S:am->В)(F:Hp):Hp:=fun b=>if S b then F b else none
ОZft{S:am->В}{F:Hp}:Zf (res S F) F:=fun b o e=>by
 unfold res at e
 split at e
 ·E e
 ·C e
ОUw{S:am->В}{F:Hp}{b:am}{o:HO}(hb:S b)(h:F b=some o):res S F b=some o:=by unfold res;rw[Е hb];E h
ОAv{S S':am->В}{F:Hp}(h:∀b,S b->S' b):Zf (res S F) (res S' F):=fun b o e=>by
 unfold res at e
 split at e
 ·rename_i hb;E Uw (h b hb) e
 ·C e
ОZnt{S:am->В}{F:Hp}{b:am}{o:HO}(e:res S F b=some o):S b/\F b=some o:=by
 unfold res at e
 split at e
 ·rename_i hb;E⟨hb,e⟩
 ·C e
inductive AR:D->В where
 |non:AR .non
 |bl (b:Bool):AR (.bl b)
 |int (i:Int):AR (.int i)
 |str (x:Str):AR (.str x)
 |tup {xs:А D} (h:∀d∈xs,AR d):AR (.tup xs)
 |dK {ks:А Key} {vs:А D} (h:∀d∈vs,AR d):AR (.dK ks vs)
 |txs {ss:А Str} (h:ss≠[]):AR (.lst (ss.map D.str))
 |lsts {xss:А (А Str)} (h:∀ss∈xss,ss≠[]):AR (.lst (xss.map fun ss=>.lst (ss.map D.str)))
ПZfu(F:Hp)(b:am):Prop:=∀t rest,F b=some (.lst (.ref t::rest))->∃us,F t=some (.lst us)
ПCut(K:af)(F:Hp)(d:D):Prop:=∀v,Rep K F d v->∃S:am->В,Rep K (res S F) d v/\∀b,S b->Zfu F b
ОZfv{F:Hp}:∀{ds:А D} {vs:А V},(∀d∈ds,Cut K F d)->Reps K F ds vs->∃S:am->В,Reps K (res S F) ds vs/\∀b,S b->Zfu F b
 |_,_,_,.nil=>⟨fun _=>False,.nil,fun _ z=>z.elim⟩
 |d::ds,_,h,.cons r t=>by
  O⟨S1,r1,n1⟩:=h d aj _ r
  O⟨S2,r2,n2⟩:=Zfv (fun e he=>h e (ar _ he)) t
  E⟨fun b=>S1 b\/S2 b,.cons (r1.mono (Av fun _ z=>.inl z)) (r2.mono (Av fun _ z=>.inr z)),fun b z=>z.elim (n1 b) (n2 b)⟩
ОCv{F G:Hp}:∀{ss:А Str} {vs:А V},Reps K F (ss.map D.str) vs->Reps K G (ss.map D.str) vs
 | [],_,h=>by C h;E .nil
 |s::ss,_,h=>by
  cases h with
  |cons h t=>C h;E .cons (.str _) (Cv t)
ОRj{F:Hp}{xs:А D}{v:V}(r:Rep K F (.lst xs) v){d:D}(hd:d∈xs)(hi:∀i,d≠.int i):∃a vs,v= .ref a/\F a=some (.lst vs)/\Reps K F xs vs:=by
 cases r with
 |lst h o r=>
  rcases o with o|o
  ·E⟨_,_,rfl,o,r⟩
  ·O⟨i,e⟩:=o d hd;E absurd e (hi i)
ОP5{F:Hp}{ss:А Str}(h:ss≠[]):Cut K F (.lst (ss.map D.str)):=fun v r=>by
 O⟨x,l,rfl⟩:=List.exists_cons_of_ne_nil h
 O⟨a,vs,rfl,ha,ru⟩:=Rj r (d:=.str x) Л (fun i=>by simp)
 R⟨fun b=>b=a,.lst (.inl (.inl (Uw rfl ha))) (.inl (Uw rfl ha)) (Cv ru),fun b z t rest e=>?_⟩
 subst z
 rw[ha]at e
 C e
 cases ru with
 |cons h t=>C h
ОZnu{F:Hp}{d:D}(h:AR d):Cut K F d:=by
 induction h with
 |non=>intro v r;C r;E⟨fun _=>False,.non,fun _ z=>z.elim⟩
 |bl b=>intro v r;C r;E⟨fun _=>False,.bl _,fun _ z=>z.elim⟩
 |int b=>intro v r;C r;E⟨fun _=>False,.int _,fun _ z=>z.elim⟩
 |str b=>intro v r;C r;E⟨fun _=>False,.str _,fun _ z=>z.elim⟩
 | @tup xs h ih=>
  intro v r
  cases r with
  | @tup a _ vs ha r=>
   O⟨S,r1,n1⟩:=Zfv ih r
   R⟨fun b=>b=a\/S b,.tup (Uw (.inl rfl) ha) (r1.mono (Av fun _ z=>.inr z)),fun b z t rest e=>?_⟩
   rcases z with z|z
   ·subst z;rw[ha]at e;C e
   ·E n1 b z t rest e
 | @dK ks vs h ih=>
  intro v r
  cases r with
  | @dK a _ _ kvs ep ha e r=>
   O⟨S,r1,n1⟩:=Zfv ih r
   R⟨fun b=>b=a\/S b,.dK (Uw (.inl rfl) ha) e (r1.mono (Av fun _ z=>.inr z)),fun b z t rest e=>?_⟩
   rcases z with z|z
   ·subst z;rw[ha]at e;C e
   ·E n1 b z t rest e
 |txs h=>E P5 h
 | @lsts xss h=>
  intro v r
  cases xss with
  |nil=>
   cases r with
   | @lst a _ vs hq o r=>
    C r
    rcases hq with(hq|⟨o',hq⟩)|hq
    ·R⟨fun b=>b=a,.lst (.inl (.inl (Uw rfl hq))) (.inl (Uw rfl hq)) .nil,fun b z t rest e=>?_⟩
     subst z;rw[hq]at e;C e
    ·R⟨fun b=>b=a,.lst (.inl (.inr ⟨o',Uw rfl hq⟩)) (.inr fun _ z=>nomatch z) .nil,fun b z t rest e=>?_⟩
     subst z;rw[hq]at e;C e
    ·E⟨fun _=>False,.lst (.inr hq) (.inr fun _ z=>nomatch z) .nil,fun _ z=>z.elim⟩
  |cons ss xss=>
   O⟨a,vs,rfl,ha,ru⟩:=Rj r (d:=.lst (ss.map D.str)) Л (fun i=>by simp)
   O⟨S,r1,n1⟩:=Zfv (K:=K) (F:=F) (fun d hd=>by
    O⟨ss',hs,rfl⟩:=a6.mp hd
    E P5 (h ss' hs)) ru
   R⟨fun b=>b=a\/S b,.lst (.inl (.inl (Uw (.inl rfl) ha))) (.inl (Uw (.inl rfl) ha)) (r1.mono (Av fun _ z=>.inr z)),fun b z t rest e=>?_⟩
   rcases z with z|z
   ·subst z
    rw[ha]at e
    C e
    cases ru with
    |cons r0 _=>
     O⟨x,l,ex⟩:=List.exists_cons_of_ne_nil (h ss aj)
     O⟨a',us,e1,e2,_⟩:=Rj r0 (d:=.str x) (by rw[ex];simp) (fun i=>by simp)
     C e1
     E⟨us,e2⟩
   ·E n1 b z t rest e
ПFlV(G:Hp)(u:V):Prop:=∃t l,u= .ref t/\G t=some (.tup ((Mv l).map kV))
ПMt(G:Hp)(b:am):Prop:=∃t rest x ws,G b=some (.lst (.ref t::rest))/\G t=some (.tup (.str x::ws))
ПXe(B:Г)(G G':Hp):Prop:=∀b o,G b=some o->G' b=some o\/(Mt G b/\∃us,G' b=some (.lst us)/\us.length<=B/\∀u∈us,FlV G' u)
ОFlV.mono{G G':Hp}(s:Zf G G'){u:V}(h:FlV G u):FlV G' u:=let⟨t,l,e,q⟩:=h;⟨t,l,e,s _ _ q⟩
ОXe.mono{B:Г}{G G1 G2:Hp}(c:Xe B G G1)(s:Zf G1 G2):Xe B G G2:=fun b o e=>by
 rcases c b o e with z|⟨m,us,z,hl,hf⟩
 ·E .inl (s _ _ z)
 ·E .inr ⟨m,us,s _ _ z,hl,fun u hu=>(hf u hu).mono s⟩
inductive PlD:D->В where
 |non:PlD .non
 |bl (b:Bool):PlD (.bl b)
 |int (i:Int):PlD (.int i)
 |str (x:Str):PlD (.str x)
 |tup {xs:А D} (h:∀d∈xs,PlD d):PlD (.tup xs)
 |lst {xs:А D} (h:∀d∈xs,PlD d):PlD (.lst xs)
ОD4{G:Hp}:∀{us:А V},(∀u∈us,FlV G u)->∃ds,Reps K G ds us
 | [],_=>⟨[],.nil⟩
 |u::us,h=>by
  O⟨t,l,rfl,e⟩:=h u aj
  O⟨ds,r⟩:=D4 (us:=us) fun w hw=>h w (ar _ hw)
  E⟨Zu (.inl l)::ds,.cons (Rg (k:=.inl l) e) r⟩
ПZr0(K:af)(G G':Hp)(d:D):Prop:=∀v,Rep K G d v->∃d',Rep K G' d' v/\((∃xs,d= .lst xs)->∃xs',d'= .lst xs')
ОZfx{G G':Hp}:∀{ds:А D} {vs:А V},(∀d∈ds,Zr0 K G G' d)->Reps K G ds vs->∃ds',Reps K G' ds' vs
 |_,_,_,.nil=>⟨[],.nil⟩
 |d::ds,_,h,.cons r t=>by
  O⟨d',r1,_⟩:=h d aj _ r
  O⟨ds',r2⟩:=Zfx (fun e he=>h e (ar _ he)) t
  E⟨d'::ds',.cons r1 r2⟩
ОXf{G:Hp}{b:am}{vs:А V}(h:G b=some (.tup vs)):¬Mt G b:=fun⟨_,_,_,_,e,_⟩=>by rw[h]at e;C e
ОXe.tup{B:Г}{G G':Hp}(c:Xe B G G'){b:am}{vs:А V}(h:G b=some (.tup vs)):G' b=some (.tup vs):=by
 rcases c b _ h with z|⟨m,_⟩
 ·E z
 ·E absurd m (Xf h)
ОP6{F G:Hp}:∀{xs:А D} {vs:А V},(∀d∈xs,∃i,d=D.int i)->Reps K F xs vs->Reps K G xs vs/\∀v∈vs,∃i,v=V.int i
 |_,_,_,.nil=>⟨.nil,fun _ z=>nomatch z⟩
 |d::xs,_,h,.cons r t=>by
  O⟨i,rfl⟩:=h _ aj
  O⟨a,b⟩:=P6 (G:=G) (fun e he=>h e (ar _ he)) t
  C r
  R⟨.cons (.int i) a,fun v hv=>?_⟩
  rcases bo.mp hv with z|z
  ·E⟨i,z⟩
  ·E b v z
ОD5{B:Г}{G G':Hp}(c:Xe B G G'){a:am}{vs:А V}(h:Ws K G a vs)(hm:¬Mt G a):Ws K G' a vs:=by
 rcases h with(h|⟨o,h⟩)|h
 ·rcases c a _ h with z|⟨m,_⟩
  ·E .inl (.inl z)
  ·E absurd m hm
 ·rcases c a _ h with z|⟨m,_⟩
  ·E .inl (.inr ⟨o,z⟩)
  ·E absurd m hm
 ·E .inr h
ОZnv{B:Г}{G G':Hp}(c:Xe B G G'){d:D}(h:PlD d):Zr0 K G G' d:=by
 induction h with
 |non=>intro v r;C r;E⟨_,.non,fun⟨_,z⟩=>nomatch z⟩
 |bl b=>intro v r;C r;E⟨_,.bl _,fun⟨_,z⟩=>nomatch z⟩
 |int b=>intro v r;C r;E⟨_,.int _,fun⟨_,z⟩=>nomatch z⟩
 |str b=>intro v r;C r;E⟨_,.str _,fun⟨_,z⟩=>nomatch z⟩
 | @tup xs h ih=>
  intro v r
  cases r with
  |tup ha r=>
   O⟨ds,r2⟩:=Zfx ih r
   E⟨.tup ds,.tup (c.tup ha) r2,fun⟨_,z⟩=>nomatch z⟩
 | @lst xs h ih=>
  intro v r
  cases r with
  | @lst a _ vs hq o r=>
   rcases o with o|o
   ·rcases c a _ o with z|⟨m,us,z,_,hf⟩
    ·O⟨ds,r2⟩:=Zfx ih r
     E⟨.lst ds,.lst (.inl (.inl z)) (.inl z) r2,fun _=>⟨_,rfl⟩⟩
    ·O⟨ds,r2⟩:=D4 (K:=K) hf
     E⟨.lst ds,.lst (.inl (.inl z)) (.inl z) r2,fun _=>⟨_,rfl⟩⟩
   ·O⟨r2,hi⟩:=P6 (G:=G') o r
    have hs:Ws K G' a vs:=by
     rcases hq with hq|hq
     ·R D5 c (.inl hq) fun⟨t,rest,x,ws,e,_⟩=>?_
      rcases hq with hq|⟨o',hq⟩
      ·rw[hq]at e
       C e
       O⟨i,z⟩:=hi _ aj
       C z
      ·rw[hq]at e;C e
     ·E .inr hq
    E⟨.lst xs,.lst hs (.inr o) r2,fun _=>⟨_,rfl⟩⟩
ПFlL(m:Г)(xs:А D):Prop:=xs≠[]/\xs.length<=m/\∀e∈xs,∃(x:Str) (l:А Str),e= .tup ((x::l).map D.str)
ПHpD(m:Г)(d:D):Prop:=∃xs ys zs,d= .tup [.lst xs,.lst ys,.lst zs]/\FlL m xs/\zs≠[]/\(∀e∈zs,∃(x:Str) (r:А D),e= .tup (.str x::r))/\PlD (.lst xs)/\PlD (.lst ys)/\PlD (.lst zs)
ОP7{G:Hp}{xs:А D}{v:V}(hn:xs≠[])(h:∀e∈xs,∃(x:Str) (r:А D),e= .tup (.str x::r))(r:Rep K G (.lst xs) v):∃a us,v= .ref a/\G a=some (.lst us)/\Reps K G xs us/\Mt G a:=by
 O⟨d,l,rfl⟩:=List.exists_cons_of_ne_nil hn
 O⟨x,r0,rfl⟩:=h d aj
 O⟨a,us,rfl,ha,ru⟩:=Rj r (d:=.tup (.str x::r0)) aj (fun i=>by simp)
 R⟨a,us,rfl,ha,ru,?_⟩
 cases ru with
 |cons rt _=>cases rt with
  |tup ht rr=>cases rr with
   |cons r1 _=>C r1;E⟨_,_,_,_,ha,ht⟩
ОP8{G:Hp}:∀{xs:А D} {us:А V},(∀e∈xs,∃(x:Str) (l:А Str),e= .tup ((x::l).map D.str))->Reps K G xs us->∀u∈us,FlV G u
 |_,_,_,.nil,_,h=>nomatch h
 |d::xs,_,h,.cons r t,u,hu=>by
  rcases bo.mp hu with z|z
  ·O⟨x,l,rfl⟩:=h d aj
   rw[z]
   O⟨b,e,hb⟩:=Rh (k:=.inl (x::l)) r
   E⟨b,x::l,e,hb⟩
  ·E P8 (fun e he=>h e (ar _ he)) t u z
section
variable{Z:Ent K}{H:Hp}{σ:L2.St}{Q:VK}{E:Yz}
ОJd.grow{F F':Hp}{own:Г->Zq}{W:am->В}(ap:Jd Z F own W)(h:∀b,W b->F' b=none):Jd Z F' own W:=fun b hb=>⟨h b hb,(ap b hb).2⟩
ОM5{W:am->В}{H H' F F':Hp}(sH:Zf H H')(sF:Zf F F'):Zf (wH W H F) (wH W H' F'):=fun b o e=>by
 by_cases hb:W b
 ·rw[G9 hb]at e⊢;E sH _ _ e
 ·rw[C6 hb]at e⊢;E sF _ _ e
ОXe.step{W:am->В}{B B':Г}{G H F:Hp}{l:am}{us us':А V}(c:Xe B G (wH W H F))(hl:W l)(mt:Mt G l)(hH:H l=some (.lst us))(hB:B<=B')(hz:us'.length<=B')(hf:∀u∈us',FlV (wH W H F) u):Xe B' G (wH W (Z5 H l (.lst us')) F):=by
 have up:∀b,b≠l->wH W (Z5 H l (.lst us')) F b=wH W H F b:=fun b hb=>by
  by_cases hw:W b
  ·rw[G9 hw,G9 hw,Zm hb]
  ·rw[C6 hw,C6 hw]
 have fl:∀u,FlV (wH W H F) u->FlV (wH W (Z5 H l (.lst us')) F) u:=fun u ⟨t,x,e,q⟩=>by
  R⟨t,x,e,?_⟩
  rw[up t fun z=>by rw[z,G9 hl,hH]at q;cases q]
  E q
 intro b o e
 by_cases hb:b=l
 ·subst hb
  E .inr ⟨mt,us',by rw[G9 hl,Z3],hz,fun u hu=>fl u (hf u hu)⟩
 ·rcases c b o e with z|⟨m,vs,z,h1,h2⟩
  ·E .inl (by rw[up b hb];E z)
  ·E .inr ⟨m,vs,by rw[up b hb];E z,by W,fun u hu=>fl u (h2 u hu)⟩
ПZld(i j n:Г)(ds:А D)(δ1:Yf)(sv:SV)(T1 T2:FT):Prop:=
 ds.length=n/\(∀d∈ds,AR d)/\i≠j/\i<δ1.length/\j<δ1.length/\∃(m:Г) (hs:А D),sv.toD= .lst hs/\(∀h∈hs,HpD m h)/\m+hs.length<a8/\(∃δ2,T1 (δ1.set i (some (.fz sv.toD)))=some (false,δ2))/\
  ∀xs ys zs,∃δ4,T2 ((δ1.set i none).set j (some (.fz (.tup [.lst xs,.lst ys,.lst zs]))))=some (false,δ4)
open Classical in
ПGd(i j n:Г)(g:А D->Б SV)(fd:FD)(T1 T2:FT):FS:=fun δ=>(fd δ).bind fun p=>(g p.1).bind fun sv=>
 if Zld i j n p.1 p.2 sv T1 T2 then some (.nx ((p.2.set i none).set j none))else none
ОZbp{i j n:Г}{g:А D->Б SV}{fd:FD}{T1 T2:FT}{δ δ1:Yf}{ds:А D}{sv:SV}(h1:fd δ=some (ds,δ1))(h2:g ds=some sv)(h:Zld i j n ds δ1 sv T1 T2):Gd i j n g fd T1 T2 δ=some (.nx ((δ1.set i none).set j none)):=by
 unfold Gd
 rw[h1]
 dsimp only[b7]
 rw[h2]
 dsimp only[b7]
 rw[Е h]
noncomputable abbrev tAt(j:Г)(k:Int)(K:af):TE:=tOp (rIx K) (Q8 j) (tC (.int k))
ОZjc {i j n : Г} {g : А D -> Б SV} {fd : FD} {T1 T2 : FT} {tb1 tb2 : TS} {c c' : Str} {E' : XK} (h : Z1 Z (Gd i j n g fd T1 T2) E σ H) :
    Th (Kf (Nn (Y5 K n g) [] E' (Wi Z fd)) (Ui i)) (Th (Sx (Yg Z T1) tb1 Tg) (Zao (Zde K (Q8 i)) (Ui j) (Th (Sx (Yg Z T2) tb2 Tg)
      (Th (Bk (tBM K "list" Qw (tAt j 0 K) (Jq (Zch (Jq (tC (.str c)) (Jq (tC (.str c')) Rw))) Rw))) (Bk (Zcq K "list" Kr (tAt j 2 K))))))) E σ H := by
  obtain ⟨F, δ, own, fl, s, e, k⟩ := h
  unfold Gd at e
  obtain ⟨⟨ds, δ1⟩, e1, e⟩ := aa.mp e
  obtain ⟨sv, e2, e⟩ := aa.mp e
  dsimp only at e
  split at e
  · rename_i hC
    C e
    obtain ⟨hn, har, hij, hi1, hj1, m, hs, hsv, hhp, hz, ⟨δ2, h1⟩, h2⟩ := hC
    R⟨F, δ, own, ds, δ1, s, e1, fun vs H1 F1 own1 sH sF s1 r1 => ?_⟩
    show Y5 K n g (vs ++ []) H1 _ E'
    rw [List.append_nil]
    obtain ⟨S, rS, nS⟩ := Zfv (fun d hd => Znu (har d hd)) r1
    R⟨res S F1, ds, sv, Zft.trans s1.le, rS, hn, e2, fun v H2 F2 ns sH2 _ le2 fro2 sh nd ok => ?_⟩
    have hnF : ∀ p ∈ ns, F2 p.1 = none := fun p hp => (ok p hp).1
    have rp := sh.rep nd hnF
    have leG : Zf (Qb F2 ns) H2 := Kv nd le2 fun p hp => (ok p hp).2.2
    have new : ∀ b o, Qb F2 ns b = some o -> (S b /\ F1 b = some o) \/ H1 b = none := fun b o e => by
      by_cases hb : b ∈ Cp ns
      · obtain ⟨p, hp, ep⟩ := a6.mp hb
        subst ep
        E .inr (ok p hp).2.1
      · rw [Q1 hb] at e
        rcases fro2 b o e with z | z
        · E .inl (Znt z)
        · E .inr z
    generalize hG : Qb F2 ns = G at rp leG new
    have s2 : SR Z F1 H2 σ δ1 own1 := s1.grow sH2
    generalize hW : (fun b => H1 b = none /\ ∃ o, G b = some o) = W
    have inW : ∀ {b}, W b -> H1 b = none /\ ∃ o, G b = some o := fun {b} hb => by rw [<- hW] at hb; E hb
    have toW : ∀ {b o}, H1 b = none -> G b = some o -> W b := fun {b o} h1 h2 => by rw [<- hW]; E⟨h1, o, h2⟩
    have live2 : ∀ b, W b -> ∃ o, H2 b = some o := fun b hb => let ⟨_, o, ho⟩ := inW hb; ⟨o, leG _ _ ho⟩
    have ap : Jd Z F1 own1 W := fun b hb => by
      have hb0 := (inW hb).1
      R⟨s1.le.free hb0, s1.old.free hb0, fun q p hp z => ?_⟩
      have := (s1.ok q p hp).2.2
      rw [z, hb0] at this; C this
    have chg0 : Xe m G (wH W H2 F1) := fun b o e => .inl (by
      by_cases hb : W b
      · rw [G9 hb]; E leG _ _ e
      · rw [C6 hb]
        rcases new b o e with z | z
        · E z.2
        · E absurd (toW z e) hb)
    have mtW : ∀ {b}, Mt G b -> W b := fun {b} ⟨t, rest, x, ws, eb, et⟩ => by
      rcases new b _ eb with z | z
      · obtain ⟨us, eu⟩ := nS b z.1 t rest z.2
        have h3 := s2.le _ _ eu
        rw [leG _ _ et] at h3; C h3
      · E toW z eb
    rw [hsv] at rp h1
    have rpW : Rep K (wH W H2 F1) (.lst hs) v := rp.mono fun b o e => by
      rcases chg0 b o e with z | ⟨mm, us, z, _⟩
      · E z
      · rw [G9 (mtW mm)]; E leG _ _ e
    have s3 := s2.blank i (some v)
    have ap3 : Jd Z F1 (put own1 i []) W := ap.drop
    have hil : i < σ.length := by rw [s1.len]; E hi1
    have hvi : (σ.set i (some v))[i]? = some (some v) := d5 hil
    have s3' := s3.look ap3 hvi rpW
    rw [List.set_set] at s3'
    R⟨_, _, _, false, δ2, s3', h1, fun H3 F3 own3 sH3 sF3 _ => ?_⟩
    show Zao (Zde K (Q8 i)) (Ui j) _ E (σ.set i (some v)) H3
    have s4 := s3.grow sH3
    -- the outer list
    obtain ⟨a, vs', rfl, stat, rvs⟩ : ∃ a vs', v = .ref a /\ (∀ (B : Г) (G' : Hp), Xe B G G' -> Ws K G' a vs') /\ Reps K G hs vs' := by
      cases rp with
      | @lst a _ vs' hq o rr =>
        R⟨a, vs', rfl, fun B G' cg => ?_, rr⟩
        rcases hq with hq | hq
        · R D5 cg (.inl hq) fun ⟨t, rest, x, ws, eb, et⟩ => ?_
          have ev : vs' = .ref t :: rest := by
            rcases hq with hq | ⟨o', hq⟩
            · rw [hq] at eb; C eb; rfl
            · rw [hq] at eb; C eb
          subst ev
          cases rr with
          | cons r0 _ =>
            obtain ⟨xs, ys, zs, rfl, _⟩ := hhp _ aj
            cases r0 with
            | tup ht rr0 =>
              rw [ht] at et
              C et
              cases rr0 with
              | cons q1 _ => C q1
        · E .inr hq
    have hlen := rvs.length
    R⟨.ref a, hvi, .inl ⟨a, rfl, ⟨vs', Y1 (Db s4.le) (stat m _ (chg0.mono (M5 sH3 (Zf.refl F1))))⟩, ?_⟩⟩
    have s5 := s4.drop j
    have ap5 : Jd Z F1 (put (put own1 i []) j []) W := ap3.drop
    R⟨fun n' mm σ' H' => mm = hs.length - n' /\ n' <= hs.length /\ ∃ F' own', Zf F1 F' /\ Jd Z F' own' W /\ SR Z F' H' σ' ((δ1.set i none).set j none) own' /\ Xe (m + n') G (wH W H' F') /\ ∀ b, W b -> ∃ o, H' b = some o,
      ⟨hs.length, by simp, dn _, F1, _, Zf.refl F1, ap5, s5, chg0.mono (M5 sH3 (Zf.refl F1)), fun b hb => let ⟨o, ho⟩ := live2 b hb; ⟨o, sH3 _ _ ho⟩⟩, ?_⟩
    rintro n' mm σ8 H8 ⟨rfl, hn', F8, own8, sF8, ap8, s8, cg8, live8⟩
    have sq8 : Ws K H8 a vs' := Y1 (Db s8.le) (stat _ _ cg8)
    by_cases hlt : n' < hs.length
    · have hlv : n' < vs'.length := by W
      have hx8 : vs'[n']? = some vs'[n'] := az hlv
      R .inr ⟨⟨vs', _, sq8, hx8⟩, fun σ9 H9 => ∃ F' own', Zf F1 F' /\ Jd Z F' own' W /\ SR Z F' H9 σ9 ((δ1.set i none).set j none) own' /\ Xe (m + (n' + 1)) G (wH W H9 F') /\ ∀ b, W b -> ∃ o, H9 b = some o, fun σ9 H9 a1 => ⟨hs.length - (n' + 1), by W, rfl, hlt, a1⟩, fun x H9 hy => ?_⟩
      obtain ⟨e9, hy⟩ := hy
      have e9 := e9.symm; subst e9
      have ex : vs'[n'] = x := by have := hy vs' sq8; rw [hx8] at this; E dm.inj this
      obtain ⟨hd, hhd, rx⟩ := rvs.getV hx8
      rw [ex] at rx
      obtain ⟨xs, ys, zs, rfl, hfl, hzn, hzs, px, py, pz⟩ := hhp hd (cz hhd)
      have cgT := cg8
      cases rx with
      | @tup t _ us3 ht r3 =>
        obtain ⟨u0, u1, u2, rfl, q0, q1, q2⟩ : ∃ u0 u1 u2, us3 = [u0, u1, u2] /\ Rep K G (.lst xs) u0 /\ Rep K G (.lst ys) u1 /\ Rep K G (.lst zs) u2 := by
          cases r3 with
          | cons a0 r3 => cases r3 with
            | cons a1 r3 => cases r3 with
              | cons a2 r3 => C r3; E⟨_, _, _, rfl, a0, a1, a2⟩
        have hfx : ∀ e ∈ xs, ∃ (x : Str) (r : А D), e = .tup (.str x :: r) := fun e he => let ⟨x, l, z⟩ := hfl.2.2 e he; ⟨x, l.map D.str, z⟩
        obtain ⟨l0, us0, rfl, hl0, rl0, mt0⟩ := P7 hfl.1 hfx q0
        obtain ⟨l2, us2, rfl, hl2, rl2, mt2⟩ := P7 hzn hzs q2
        have w0 := mtW mt0
        have w2 := mtW mt2
        -- T2
        obtain ⟨d0, v0, k0⟩ := Znv (K := K) cg8 px _ q0
        obtain ⟨d1, v1, k1⟩ := Znv (K := K) cg8 py _ q1
        obtain ⟨d2, v2, k2⟩ := Znv (K := K) cg8 pz _ q2
        obtain ⟨x', rfl⟩ := k0 ⟨_, rfl⟩
        obtain ⟨y', rfl⟩ := k1 ⟨_, rfl⟩
        obtain ⟨z', rfl⟩ := k2 ⟨_, rfl⟩
        have rT : Rep K (wH W H8 F8) (.tup [.lst x', .lst y', .lst z']) (.ref t) := .tup (cg8.tup ht) (.cons v0 (.cons v1 (.cons v2 .nil)))
        have sB := s8.blank j (some (.ref t))
        rw [List.set_set] at sB
        have apB : Jd Z F8 (put own8 j []) W := ap8.drop
        have hjl8 : j < σ8.length := by
          have h5 := s8.len
          rw [List.length_set, List.length_set] at h5
          W
        have hvj : (σ8.set j (some (.ref t)))[j]? = some (some (.ref t)) := d5 hjl8
        have sC := sB.look apB hvj rT
        rw [List.set_set] at sC
        obtain ⟨δ4, h4⟩ := h2 x' y' z'
        R⟨_, _, _, false, δ4, sC, h4, fun HA FA ownA sHA sFA _ => ?_⟩
        -- the lists as they are now
        have htA : HA t = some (.tup [.ref l0, u1, .ref l2]) := sHA _ _ (Db s8.le _ _ (cg8.tup ht))
        have now : ∀ {l : am} {us : А V}, G l = some (.lst us) -> W l -> ∃ us', H8 l = some (.lst us') /\ (us' = us \/ (us'.length <= m + n' /\ ∀ u ∈ us', FlV (wH W H8 F8) u)) := fun {l us} hl hw => by
          rcases cg8 l _ hl with z | ⟨_, us', z, z1, z2⟩
          · rw [G9 hw] at z; E⟨us, z, .inl rfl⟩
          · rw [G9 hw] at z; E⟨us', z, .inr ⟨z1, z2⟩⟩
        obtain ⟨uu, hu8, hu⟩ := now hl0 w0
        have hul : uu.length <= m + n' /\ ∀ u ∈ uu, FlV (wH W H8 F8) u := by
          rcases hu with rfl | z
          · R⟨by have := rl0.length; have := hfl.2.1; W, fun u hu => ?_⟩
            obtain ⟨tt, ll, e1, e2⟩ := P8 hfl.2.2 rl0 u hu
            E⟨tt, ll, e1, cg8.tup e2⟩
          · E z
        have huA := sHA _ _ hu8
        R⟨.ref t, hvj, .inr (.inl ⟨t, _, 0, .ref l0, rfl, rfl, O8 htA, rfl, .inl ⟨rfl, uu, .inl (.inl huA)⟩, ⟨by show 2 <= a8; decide, fun p hp => ?_⟩⟩)⟩
        have smp := Qe (o := HO.tup [.str c, .str c']) hp
        have hl0p : l0 ≠ p := fun z => by rw [z, hp] at huA; C huA
        R⟨l0, uu, .ref p, rfl, rfl, smp _ _ huA, by W, ?_⟩
        have s9 := sB.grow sHA
        have nfp : F8 p = none := s9.le.free hp
        have s10 := (s9.grow smp).addF (ns := [(p, .tup [.str c, .str c'])]) Ep (fun q hq => by obtain rfl := au.mp hq; E nfp) (fun q hq => by obtain rfl := au.mp hq; E Z3) (fun q hq => by obtain rfl := au.mp hq; E s9.old.free hp) (fun q1 q2 r hq hr z => by
          obtain rfl := au.mp hq
          have z' : p = r.1 := z
          have := (s9.ok q1 r hr).2.2
          rw [<- z', hp] at this; C this)
        have sF10 : Zf F8 (Qb F8 [(p, .tup [.str c, .str c'])]) := Wt fun q hq => by obtain rfl := au.mp hq; E nfp
        have hpW : ¬ W p := fun z => by
          obtain ⟨o, ho⟩ := live8 p z
          rw [sHA _ _ ho] at hp; C hp
        have ap10 : Jd Z (Qb F8 [(p, .tup [.str c, .str c'])]) (put own8 j []) W := apB.grow fun b hb => by
          rw [Q1 fun z => hpW (by have : b = p := au.mp z; rw [<- this]; E hb)]
          E(ap8 b hb).1
        have s11 := s10.updW (o := .lst (uu ++ [.ref p])) ap10 w0
        have cg10 : Xe (m + n') G (wH W (Z5 HA p (.tup [.str c, .str c'])) (Qb F8 [(p, .tup [.str c, .str c'])])) := cg8.mono (M5 (sHA.trans smp) sF10)
        have cg11 := cg10.step (us' := uu ++ [.ref p]) (B' := m + (n' + 1)) w0 mt0 (smp _ _ huA) И (by rw [bj, List.length_singleton]; W) (fun u hu => by
          rcases cn.mp hu with z | z
          · E(hul.2 u z).mono (M5 (sHA.trans smp) sF10)
          · rw [au.mp z]
            E⟨p, [c, c'], rfl, by rw [C6 hpW]; E Z3⟩)
        have htp : t ≠ p := fun z => by rw [z, hp] at htA; C htA
        have htl : t ≠ l0 := fun z => by rw [z, huA] at htA; C htA
        generalize hHB : Z5 (Z5 HA p (.tup [.str c, .str c'])) l0 (.lst (uu ++ [.ref p])) = HB at s11 cg11 ⊢
        have htB : HB t = some (.tup [.ref l0, u1, .ref l2]) := by rw [<- hHB, Zm htl, Zm htp]; E htA
        have hB2 : ∃ us', HB l2 = some (.lst us') := by
          rw [<- hHB]
          by_cases z : l2 = l0
          · rw [z, Z3]; E⟨_, rfl⟩
          · obtain ⟨us', hu', _⟩ := now hl2 w2
            rw [Zm z]
            E⟨us', smp _ _ (sHA _ _ hu')⟩
        obtain ⟨ub, hub⟩ := hB2
        R⟨.ref t, hvj, .inr (.inl ⟨t, _, 2, .ref l2, rfl, rfl, O8 htB, rfl, .inl ⟨rfl, ub, .inl (.inl hub)⟩, l2, ub, rfl, rfl, hub, ?_⟩)⟩
        have s12 := s11.updW (o := .lst []) ap10 w2
        have cg12 := cg11.step (us' := []) (B' := m + (n' + 1)) w2 mt2 hub (a7 _) (dn _) (fun _ z => nomatch z)
        R⟨_, _, sF8.trans sF10, ap10, s12, cg12, fun b hb => ?_⟩
        by_cases z2 : b = l2
        · rw [z2]; E⟨_, Z3⟩
        · rw [Zm z2, <- hHB]
          by_cases z0 : b = l0
          · rw [z0]; E⟨_, Z3⟩
          · rw [Zm z0]
            obtain ⟨o, ho⟩ := live8 b hb
            E⟨o, smp _ _ (sHA _ _ ho)⟩
    · have hz' : n' = hs.length := by W
      E .inl ⟨⟨vs', sq8, by W⟩, k σ8 H8 F8 own8 (sF.trans sF8) s8⟩
  · C e
end
end DL
namespace DL
open PySem PySem.Spec PyProof.Rows L2 TT
section
variable{X:Cx}{Z:Ent X.K}{a b c:ci}{fa fb fc:FE}{pos:Pos}
ОZnw(j:Г){y:Str}{i:Г}{p1:Pos}{s1 s2 s3:Stmt}{t1 t2 t3:TS}(hp:PassesOwn (bp X.prog X.w) X.A X.env X.xe)(hc:X.calm=true)(hN:X.N.Nodup)(hi:PE X a (Q8 i))(h1:PS X s1 t1)(h2:PS X s2 t2)(h3:PS X s3 t3)
  (hj:X.N[j]? =some y:=by rfl) (hx:Loc X.env.scope y:=by first|E Or.inl rfl|E gg rfl) (hf:X.fn y=true\/X.env.scope.names.lookup y=some .local:=by first|E .inl rfl|E .inr rfl) (hs:∀x,foldedSetIterable a X.env x=pure x:=by intro _;rfl):
  PS X (.For (.Name y p1) a [s1,s2,s3] [] pos) (Zao (Zde X.K (Q8 i)) (Ui j) (Th t1 (Th t2 t3))):=
 Zce hp hc (Zml hi) (X5 hN hj hx hf) (U2 h1 (U2 h2 (X4 h3))) hs
ОZnx(j:Г){y cc cd:Str}{j1 j2 j3 jt:Г}{q1 q2 q3 q4 q5 q6 apos cpos:Pos}(hb:PE X (.Name y q1) (Q8 j))
  (hbase:attributeBase (.Subscript (.Name y q1) (.Constant (.int 0) j1 q2) q3) "append" X.env (f9 (.Subscript (.Name y q1) (.Constant (.int 0) j1 q2) q3) X.env)=f9 (.Subscript (.Name y q1) (.Constant (.int 0) j1 q2) q3) X.env:=by rfl)
  (hfew:((f7 cpos (ay [.Tuple [.Constant (.str cc) j2 q4,.Constant (.str cd) j3 q5] jt q6] X.env)).all (fun x=>!x.1)&&(backToKw cpos (keywordEach [] X.env)).all (fun x=>x.1.isSome)&&decide ([Expr.Tuple [.Constant (.str cc) j2 q4,.Constant (.str cd) j3 q5] jt q6].length+([]:А Keyword).length+(if([]:А Keyword).isEmpty then 0 else 1)<30))=true:=by rfl)
  (hline:(apos.endLine==cpos.line)=true:=by rfl) (hs:ay [.Tuple [.Constant (.str cc) j2 q4,.Constant (.str cd) j3 q5] jt q6] X.env=(false,f9 (.Tuple [.Constant (.str cc) j2 q4,.Constant (.str cd) j3 q5] jt q6) X.env)::ay [] X.env:=by rfl)
  (hs1:ay [.Constant (.str cc) j2 q4,.Constant (.str cd) j3 q5] X.env=(false,f9 (.Constant (.str cc) j2 q4) X.env)::ay [.Constant (.str cd) j3 q5] X.env:=by rfl) (hs2:ay [.Constant (.str cd) j3 q5] X.env=(false,f9 (.Constant (.str cd) j3 q5) X.env)::ay [] X.env:=by rfl)
  (hpl:(f7 cpos (ay [] X.env)).any (·.1)=false:=by rfl) (hsw:swapsWith (.Call (.Attribute (.Subscript (.Name y q1) (.Constant (.int 0) j1 q2) q3) "append" apos) [.Tuple [.Constant (.str cc) j2 q4,.Constant (.str cd) j3 q5] jt q6] [] cpos) none pos.line X.env=pure false:=by rfl):
  PS X (.Expr (.Call (.Attribute (.Subscript (.Name y q1) (.Constant (.int 0) j1 q2) q3) "append" apos) [.Tuple [.Constant (.str cc) j2 q4,.Constant (.str cd) j3 q5] jt q6] [] cpos) pos) (Bk (tBM X.K "list" Qw (tAt j 0 X.K) (Jq (Zch (Jq (tC (.str cc)) (Jq (tC (.str cd)) Rw))) Rw))):=
 Od (Ie PySem.F.plainAttrs_list PySem.F.slot_list_append PySem.F.type_list_append B9 (Hb Kj hb Sw М) (W3 (Zci (W3 Ke (W3 Ke Jr hs2) hs1)) Jr hs) hbase hfew hline hs hpl) hsw
ОZny(j:Г){y:Str}{j1:Г}{q1 q2 q3 apos cpos:Pos}(hb:PE X (.Name y q1) (Q8 j))
  (hbase:attributeBase (.Subscript (.Name y q1) (.Constant (.int 2) j1 q2) q3) "clear" X.env (f9 (.Subscript (.Name y q1) (.Constant (.int 2) j1 q2) q3) X.env)=f9 (.Subscript (.Name y q1) (.Constant (.int 2) j1 q2) q3) X.env:=by rfl)
  (hline:(apos.endLine==cpos.line)=true:=by rfl) (hsw:swapsWith (.Call (.Attribute (.Subscript (.Name y q1) (.Constant (.int 2) j1 q2) q3) "clear" apos) [] [] cpos) none pos.line X.env=pure false:=by rfl):
  PS X (.Expr (.Call (.Attribute (.Subscript (.Name y q1) (.Constant (.int 2) j1 q2) q3) "clear" apos) [] [] cpos) pos) (Bk (Zcq X.K "list" Kr (tAt j 2 X.K))):=
 Od (Zcr PySem.F.plainAttrs_list PySem.F.slot_list_clear PySem.F.type_list_clear Zct (Hb Kj hb Sw М) hbase hline) hsw
ОZfy{i j n:Г}{g:А D->Б SV}{fd:FD}{T1 T2:FT}{tb1 tb2:TS}{cc cd:Str}{s1 s2 s3:Stmt}{rest:А Stmt}{f0:FS}(h1:PS X s1 (Kf (Nn (Y5 X.K n g) [] (fun _ _ _=>False) (Wi Z fd)) (Ui i)))(h2:PS X s2 (Sx (Yg Z T1) tb1 Tg))
  (h3:PS X s3 (Zao (Zde X.K (Q8 i)) (Ui j) (Th (Sx (Yg Z T2) tb2 Tg) (Th (Bk (tBM X.K "list" Qw (tAt j 0 X.K) (Jq (Zch (Jq (tC (.str cc)) (Jq (tC (.str cd)) Rw))) Rw))) (Bk (Zcq X.K "list" Kr (tAt j 2 X.K)))))))
  (hr:Gp X rest (Z1 Z f0)):Gp X (s1::s2::s3::rest) (Z1 Z (Yc (Gd i j n g fd T1 T2) f0)):=
 (U2 h1 (U2 h2 (U2 h3 hr))).imp fun D σ H h=>Zjc (E:={D with nx:=Z1 Z f0 D}) (Zj9 h)
end
end DL
namespace My
open DL PySem
ОQx{n:Г}(h:n<=16777216):n<=PySem.sizeLine:=h
ОYs{n:Г}(h:n<16777216):n<PySem.sizeLine:=h
noncomputable abbrev LET:Str:="ABCDEFGHIJKLMNOPQRSTUVWXYZabcdefghijklmnopqrstuvwxyz"
ОOs(a b:Str):(a++b).length=a.length+b.length:=by
 show(a.cps++b.cps).size=a.cps.size+b.cps.size
 simp
ОZtm(c:Г):(⟨#[c]⟩:Str).length=1:=rfl
ОZjd(ns:А Int)(lo hi:Б Int):∃ms:А Int,Eu (ns.map D.int) lo hi=ms.map D.int/\ms.length<=ns.length:=by
 unfold Eu
 R⟨(ns.drop _).take _,by rw[List.map_take,List.map_drop],?_⟩
 rw[gn,List.length_drop];W
Пcat:А Str->Str
 | []=>""
 |x::r=>x++cat r
ОRk{te:FE}{f:D->D}{c:Б SV}{j:Г}:∀(xs ys:А D),(∀x∈xs,∀zs,te [some (.fz x),c,some (.ol zs)]=some (.tmp (.fz (f x)),[some (.fz x),c,some (.ol zs)]))->ys.length+xs.length<=16777216->
  Y7 [.own,.cap j,.acc] 2 (Zg 0) Q3 te xs [none,c,some (.ol ys)]=some [none,c,some (.ol (ys++xs.map f))]
 | [],ys,_,_=>by simp
 |x::xs,ys,h,hl=>by
  rw[bn]at hl
  have ih:=Rk (te:=te) (f:=f) (c:=c) (j:=j) xs (ys++[f x]) (fun y hy=>h y (ar _ hy)) (by rw[bj];simp;W)
  have e1:=h x aj ys
  have h4:ys.length<PySem.sizeLine:=Ys И
  simp[e1,h4]
  simpa using ih
ОGe{f:D->D->Б Bool}:∀xs:А D,(∀x∈xs,f x x=some true)->U8 f xs xs=some true
 | [],_=>rfl
 |x::r,h=>by simp[h x aj,Ge r fun y hy=>h y (ar _ hy)]
end My
namespace My
open DL PySem StrLaws Builtin.Str
Пgap(n:Г):Г->А Г->В
 |_,[]=>True
 |a,p::r=>a<=p/\gap n (p+n) r
Пjl(y:А Г):А (А Г)->А Г
 | []=>[]
 | [p]=>p
 |p::q::r=>p++y++jl y (q::r)
Пpos(n:Г):Г->А (А Г)->А Г
 |_,[]=>[]
 |_,[_]=>[]
 |a,p::q::r=>(a+p.length)::pos n (a+p.length+n) (q::r)
structure Sep(y:Str)(c o:Г):В where
 at':y.cps.toList[o]? =some c
 one:∀j,y.cps.toList[j]? =some c->j=o
end My
namespace My
open DL PySem
ОZje{tg:FG}{body:FS}{d:D}{ds:А D}{δ δ1 δ2:Yf}(h1:tg.run d δ=some δ1)(h2:body δ1=some (.nx δ2)):Yh tg body (d::ds) δ=Yh tg body ds δ2:=by
 show(tg.run d δ).bind _=_
 rw[h1,b7,h2,b7]
noncomputable abbrev S(l:А Г):Str:=⟨l.toArray⟩
ОZle(l:А Г):(S l).length=l.length:=by show l.toArray.size=_;simp
ОZr1(a b:А Г):S a++S b=S (a++b):=by
 show(⟨a.toArray++b.toArray⟩:Str)=⟨(a++b).toArray⟩
 simp
ОZr2{a b:А Г}(h:S a=S b):a=b:=by
 have:a.toArray=b.toArray:=congrArg Str.cps h
 simpa using this
ОZr3(x:Str):x=S x.cps.toList:=by C x;simp
ОZnz(l:А Г):(S l).cps.toList=l:=by simp
ОZfz{α:Type}(p:А α)(i:Г)(c:α)(h:p[i]? =some c):L2.atI p (i:Int)=some c:=by
 have hl:=(ax.mp h).1
 unfold L2.atI L2.ixN
 rw[Е И,Е И]
 simpa using h
section
variable{κ:Type}[DecidableEq κ]
ОP9(k k':κ)(v:D):∀(ks:А κ) (vs:А D),k∈ks->ks.length=vs.length->look ks ((ks.zip vs).map fun p=>if p.1=k then v else p.2) k'=if k=k' then some v else look ks vs k'
 |a::ks,u::vs,hk,hl=>by
  rw[List.zip_cons_cons,av]
  show(if a=k' then some (if a=k then v else u)else look ks ((ks.zip vs).map fun p=>if p.1=k then v else p.2) k')=if k=k' then some v else(if a=k' then some u else look ks vs k')
  by_cases ha:a=k'
  ·subst ha
   rw[Е rfl,Е rfl]
   by_cases hk2:a=k
   ·subst hk2;rw[Е rfl,Е rfl]
   ·rw[Д hk2,Д fun e=>hk2 e.symm]
  ·rw[Д ha,Д ha]
   by_cases hm:k∈ks
   ·E P9 k k' v ks vs hm (by simpa using hl)
   ·have hak:k=a:=by
     rcases bo.mp hk with e|e
     ·E e
     ·E absurd e hm
    rw[Д fun e=>ha (hak.symm.trans e)]
    have:((ks.zip vs).map fun p=>if p.1=k then v else p.2)=vs:=by
     have hl':ks.length=vs.length:=by simpa using hl
     clear hk hl ha
     induction ks generalizing vs with
     |nil=>cases vs with
      |nil=>rfl
      |cons _ _=>simp at hl'
     |cons b ks ih=>cases vs with
      |nil=>simp at hl'
      |cons w vs=>
       rw[List.zip_cons_cons,av,Д fun e=>hm (by rw[<-e];E aj),ih vs (fun h=>hm (ar _ h)) (by simpa using hl')]
    rw[this]
 | [],_,hk,_=>nomatch hk
ОFo(k k':κ)(v:D):∀(ks:А κ) (vs:А D),k∉ks->ks.length=vs.length->look (ks++[k]) (vs++[v]) k'=if k=k' then some v else look ks vs k'
 | [],[],_,_=>by show(if k=k' then some v else none)=_;rfl
 |a::ks,u::vs,hk,hl=>by
  show(if a=k' then some u else look (ks++[k]) (vs++[v]) k')=if k=k' then some v else(if a=k' then some u else look ks vs k')
  by_cases ha:a=k'
  ·rw[Е ha,Е ha,Д fun e=>hk (by rw[e,<-ha];E aj)]
  ·rw[Д ha,Д ha]
   E Fo k k' v ks vs (fun h=>hk (ar _ h)) (by simpa using hl)
ОZf0(k k':κ)(v:D)(ks:А κ)(vs:А D)(hl:ks.length=vs.length):look (Wj ks vs k v).1 (Wj ks vs k v).2 k'=if k=k' then some v else look ks vs k':=by
 unfold Wj
 split
 ·rename_i h;E P9 k k' v ks vs h hl
 ·rename_i h;E Fo k k' v ks vs h hl
end
end My
namespace My
open DL PySem
noncomputable abbrev Xg(s n:Г):А D:=(List.range' s n).map fun i:Г=>D.int (i:Int)
ОMc(n:Г):Ml 0 n=Xg 0 n:=by
 unfold Ml
 rw[List.range_eq_range']
 R fj fun i _=>?_
 simp
ОCe{tg:FG}{body:FS}{P:Г->Yf->В}:∀(n s:Г) (δ:Yf),P s δ->(∀i,s<=i->i<s+n->∀δ,P i δ->∃δ1 δ2,tg.run (.int (i:Int)) δ=some δ1/\body δ1=some (.nx δ2)/\P (i+1) δ2)->
  ∃δ',Yh tg body (Xg s n) δ=some (.nx δ')/\P (s+n) δ'
 |0,s,δ,h,_=>⟨δ,rfl,h⟩
 |n+1,s,δ,h,k=>by
  O⟨δ1,δ2,h1,h2,h3⟩:=k s (a7 _) И δ h
  O⟨δ',e,h'⟩:=Ce (tg:=tg) (body:=body) (P:=P) n (s+1) δ2 h3 fun i hi hj=>k i И И
  R⟨δ',?_,by rw[show s+(n+1)=s+1+n by W];E h'⟩
  show Yh tg body (.int (s:Int)::Xg (s+1) n) δ=_
  rw[Zje h1 h2];E e
ПZr4(i:Г):А D->А D
 | []=>[]
 |x::r=>.tup [.int (i:Int),x]::Zr4 (i+1) r
ОM6(n:Г)(xs:А D)(h:∀x∈xs,Wp n x x=some true):Wp (n+1) (.lst xs) (.lst xs)=some true:=by
 simp[Ge xs h]
ОL0(n:Г)(xs:А D)(h:∀x∈xs,Wp n x x=some true):Wp (n+1) (.tup xs) (.tup xs)=some true:=by
 simp[Ge xs h]
ОM7(n:Г)(x:Str):Wp (n+1) (.str x) (.str x)=some true:=by simp
end My
namespace My
open DL PySem StrLaws Builtin.Str
end My
namespace My
open DL PySem
noncomputable abbrev Zv(xs:А Str):А L2.Key:=xs.map b8
ОJ3(k:Str):∀(xs:А Str) (vs:А D),look (Zv xs) vs (b8 k)=look xs vs k
 | [],[]=>rfl
 | [],_::_=>rfl
 |_::_,[]=>rfl
 |x::xs,v::vs=>by
  show(if(b8 x:L2.Key)=b8 k then some v else look (Zv xs) vs (b8 k))=if x=k then some v else look xs vs k
  rw[J3 k xs vs]
  by_cases h:x=k
  ·rw[Е h,Е (by rw[h])]
  ·rw[Д h,Д fun e=>h (b8.inj e)]
ОAw(k:Str)(v:D)(xs:А Str)(vs:А D):Wj (Zv xs) vs (b8 k) v=(Zv (Wj xs vs k v).1,(Wj xs vs k v).2):=by
 have hm:((b8 k:L2.Key)∈Zv xs)↔k∈xs:=by
  constructor
  ·intro h
   O⟨y,hy,e⟩:=a6.mp h
   rw[<-b8.inj e];E hy
  ·E fun h=>a6.mpr ⟨k,h,rfl⟩
 unfold Wj
 by_cases h:k∈xs
 ·rw[Е h,Е (hm.mpr h)]
  congr 1
  have:∀(xs:А Str) (vs:А D),((Zv xs).zip vs).map (fun p=>if p.1=(b8 k:L2.Key)then v else p.2)=(xs.zip vs).map fun p=>if p.1=k then v else p.2:=by
   intro xs
   induction xs with
   |nil=>intro vs;rfl
   |cons x xs ih=>
    intro vs
    cases vs with
    |nil=>rfl
    |cons u vs=>
     show(if(b8 x:L2.Key)=b8 k then v else u)::((Zv xs).zip vs).map (fun p=>if p.1=(b8 k:L2.Key)then v else p.2)=(if x=k then v else u)::(xs.zip vs).map fun p=>if p.1=k then v else p.2
     rw[ih vs]
     by_cases hx:x=k
     ·rw[Е hx,Е (by rw[hx])]
     ·rw[Д hx,Д fun e=>hx (b8.inj e)]
  E this xs vs
 ·rw[Д h,Д fun e=>h (hm.mp e)]
  simp[Zv]
ОAx{k:Str}{v:D}{xs:А Str}{vs:А D}(h:k∉xs):Wj xs vs k v=(xs++[k],vs++[v]):=by
 unfold Wj;rw[Д h]
structure Dic(xs:А Str)(vs:А D):В where
 nd:xs.Nodup
 len:xs.length=vs.length
ОSa{xs:А Str}:∀{vs:А D},xs.Nodup->xs.length=vs.length->∀(i:Г) (x:Str) (v:D),xs[i]? =some x->vs[i]? =some v->look xs vs x=some v:=by
 induction xs with
 |nil=>intro vs _ _ i x v h;simp at h
 |cons y xs ih=>
  intro vs nd hl i x v hx hv
  cases vs with
  |nil=>simp at hv
  |cons u vs=>
   O⟨n1,n2⟩:=fu.mp nd
   show(if y=x then some u else look xs vs x)=some v
   cases i with
   |zero=>
    simp at hx hv
    rw[Е hx,hv]
   |succ i=>
    simp at hx hv
    have hm:=cz hx
    rw[Д fun e=>n1 (by rw[e];E hm)]
    E ih n2 (by simpa using hl) i x v hx hv
ОSb:∀xs:А Str,strK? (Zv xs)=some xs
 | []=>rfl
 |x::xs=>by
  show(strK? (Zv xs)).bind (fun t=>some (x::t))=some (x::xs)
  rw[Sb xs];rfl
ОFp{f:D->D->Б Bool}{ys:А Str}{us:А D}:∀(xs:А Str) (vs:А D),(∀(i:Г) (x:Str) (v:D),xs[i]? =some x->vs[i]? =some v->look ys us x=some v/\f v v=some true)->Li f ys us xs vs=some true
 | [],_,_=>rfl
 |_::_,[],_=>rfl
 |x::xs,v::vs,h=>by
  O⟨h1,h2⟩:=h 0 x v rfl rfl
  have ih:=Fp xs vs fun i x v hx hv=>h (i+1) x v (by simpa using hx) (by simpa using hv)
  show(match look ys us x with
   |none=>some false
   |some u=>(f v u).bind fun b=>(Li f ys us xs vs).bind fun c=>some (b&&c))=some true
  rw[h1]
  dsimp only
  rw[h2,ih];rfl
ОZf1(n:Г){xs:А Str}{vs:А D}(h:Dic xs vs)(hv:∀v∈vs,Wp n v v=some true):Wp (n+1) (.dK (Zv xs) vs) (.dK (Zv xs) vs)=some true:=by
 show(strK? (Zv xs)).bind (fun xs'=>(strK? (Zv xs)).bind fun ys=>if xs'.length=ys.length then Li (Wp n) ys vs xs' vs else some false)=some true
 rw[Sb]
 dsimp only[Option.bind]
 rw[Е rfl]
 E Fp xs vs fun i x v hx hv'=>⟨Sa h.nd h.len i x v hx hv',hv v (cz hv')⟩
end My
namespace My
open DL PySem TT
noncomputable abbrev NK:=L2.Zk
ПtE(s:А Г):А Nat:=s.map (· +1)++[0]
ОAy:∀(s t u v:А Г),(tE s++u<tE t++v)↔(s<t\/(s=t/\u<v))
 | [],[],u,v=>by
  show(0::u<0::v)↔_
  rw[dj]
  simp
 | [],b::t,u,v=>by
  show(0::u<(b+1)::(tE t++v))↔_
  rw[dj]
  simp
 |a::s,[],u,v=>by
  show((a+1)::(tE s++u)<0::v)↔_
  rw[dj]
  simp
 |a::s,b::t,u,v=>by
  show((a+1)::(tE s++u)<(b+1)::(tE t++v))↔_
  rw[dj,Ay s t u v,dj]
  constructor
  ·rintro(h|⟨h1,h2|⟨h2,h3⟩⟩)
   ·E .inl (.inl И)
   ·E .inl (.inr ⟨by W,h2⟩)
   ·E .inr ⟨by rw[h2,show a=b by W],h3⟩
  ·rintro((h|⟨h1,h2⟩)|⟨h1,h2⟩)
   ·E .inl И
   ·E .inr ⟨by W,.inl h2⟩
   ·C h1;E .inr ⟨rfl,.inr ⟨rfl,h2⟩⟩
ОZf2:∀(s t u v:А Г),tE s++u=tE t++v->s=t/\u=v:=by
 intro s
 induction s with
 |nil=>intro t u v z;cases t with
  |nil=>E⟨rfl,by simpa[tE]using z⟩
  |cons b t=>simp[tE]at z
 |cons a s ih=>intro t u v z;cases t with
  |nil=>simp[tE]at z
  |cons b t=>
   have z:(a+1)::(tE s++u)=(b+1)::(tE t++v):=z
   O⟨z1,z2⟩:=List.cons.inj z
   O⟨i1,i2⟩:=ih t u v z2
   E⟨by rw[i1,show a=b by W],i2⟩
ОGf{a b:Str}(h:a.cps.toList=b.cps.toList):a=b:=by
 rw[Zr3 a,Zr3 b,h]
ПUa:А Str->А Г
 | []=>[0]
 |x::l=>1::(tE x.cps.toList++Ua l)
ОAz:∀{a b:А Str},Ua a=Ua b->a=b
 | [],[],_=>rfl
 | [],_::_,h=>by simp[Ua]at h
 |_::_,[],h=>by simp[Ua]at h
 |x::a,y::b,h=>by
  O⟨_,h2⟩:=List.cons.inj h
  O⟨e1,e2⟩:=Zf2 _ _ _ _ h2
  rw[Gf e1,Az e2]
ОL1(n:Г)(x y:Str):Wp (n+1) (.str x) (.str y)=some (decide (x=y)):=by simp
ОXh(n:Г)(x y:Str):TX.Jk (n+1) (.str x) (.str y)=some (decide (x.cps.toList<y.cps.toList)):=rfl
ОA7(n:Г):∀a b:А Str,TX.Ra (Wp (n+1)) (TX.Jk (n+1)) (a.map D.str) (b.map D.str)=some (decide (Ua a<Ua b))
 | [],[]=>by show some false=_;E congrArg some Й
 | [],y::b=>by
  show some true=_
  R congrArg some (decide_eq_true ?_).symm
  show[0]<1::_
  rw[dj];E .inl Й
 |x::a,[]=>by
  show some false=_
  R congrArg some (Ж ?_).symm
  show¬(1::_< [0])
  rw[dj]
  rintro(h|⟨h,_⟩)<;> W
 |x::a,y::b=>by
  show(Wp (n+1) (.str x) (.str y)).bind (fun c=>if c=true then TX.Ra (Wp (n+1)) (TX.Jk (n+1)) (a.map D.str) (b.map D.str)else TX.Jk (n+1) (.str x) (.str y))=_
  rw[L1,A7 n a b,Xh]
  have e:(Ua (x::a)<Ua (y::b))↔(x.cps.toList<y.cps.toList\/(x.cps.toList=y.cps.toList/\Ua a<Ua b)):=by
   show(1::(tE x.cps.toList++Ua a)<1::(tE y.cps.toList++Ua b))↔_
   rw[dj,Ay]
   constructor
   ·rintro(h|⟨_,h⟩)
    ·W
    ·E h
   ·E fun h=>.inr ⟨rfl,h⟩
  by_cases h:x=y
  ·subst h
   have i:=List.lt_irrefl x.cps.toList
   rw[decide_eq_true rfl]
   show some (decide (Ua a<Ua b))=_
   R congrArg some (decide_eq_decide.mpr ?_)
   rw[e]
   E⟨fun z=>.inr ⟨rfl,z⟩,fun z=>z.elim (fun z=>absurd z i) fun z=>z.2⟩
  ·rw[Ж h]
   show some (decide (x.cps.toList<y.cps.toList))=_
   R congrArg some (decide_eq_decide.mpr ?_)
   rw[e]
   E⟨.inl,fun z=>z.elim id fun z=>absurd (Gf z.1) h⟩
ОA8(n:Г):∀a b:А Str,∃c,U8 (Wp (n+1)) (a.map D.str) (b.map D.str)=some c/\(c&&decide ((a.map D.str).length=(b.map D.str).length))=decide (a=b)
 | [],[]=>⟨true,rfl,by simp⟩
 | [],y::b=>⟨true,rfl,by simp⟩
 |x::a,[]=>⟨true,rfl,by simp⟩
 |x::a,y::b=>by
  O⟨c,e1,e2⟩:=A8 n a b
  R⟨decide (x=y)&&c,?_,?_⟩
  ·show(Wp (n+1) (.str x) (.str y)).bind (fun b'=>(U8 (Wp (n+1)) (a.map D.str) (b.map D.str)).bind fun c'=>some (b'&&c'))=_
   rw[L1,e1];rfl
  ·rw[Bool.and_assoc]
   have:decide (((x::a).map D.str).length=((y::b).map D.str).length)=decide ((a.map D.str).length=(b.map D.str).length):=by simp
   rw[this,e2]
   by_cases h:x=y
   ·by_cases h2:a=b<;> simp[h,h2]
   ·simp[h]
ОXi(n:Г)(a b:А Str):Wp (n+2) (.tup (a.map D.str)) (.tup (b.map D.str))=some (decide (a=b)):=by
 O⟨c,e1,e2⟩:=A8 n a b
 show(U8 (Wp (n+1)) (a.map D.str) (b.map D.str)).bind (fun b'=>some (b'&&decide ((a.map D.str).length=(b.map D.str).length)))=_
 rw[e1]
 show some (c&&_)=_
 rw[e2]
inductive OneK:NK->NK->В where
 |nm (a b:А Str):OneK (.inl a) (.inl b)
 |mk (n m:Г) (a b:А Str):OneK (.inr ((n:Int),a)) (.inr ((m:Int),b))
ПGg:NK->А Г
 | .inl l=>Ua l
 | .inr (n,l)=>n.toNat::Ua l
ОZf3{a b:NK}(h:OneK a b)(e:Gg a=Gg b):a=b:=by
 cases h with
 |nm a b=>rw[Az e]
 |mk n m a b=>
  O⟨e1,e2⟩:=List.cons.inj e
  rw[Az e2,show n=m by simpa using e1]
ОZf4(n:Г){a b:NK}(h:OneK a b):Wp (n+3) (Zu a) (Zu b)=some (decide (a=b)):=by
 cases h with
 |nm a b=>
  show Wp (n+3) (.tup (a.map D.str)) (.tup (b.map D.str))=_
  rw[show n+3=n+1+2 from rfl,Xi]
  E congrArg some (decide_eq_decide.mpr ⟨fun z=>by rw[z],fun z=>Sum.inl.inj z⟩)
 |mk n1 m1 a b=>
  have e:=Xi n a b
  show(U8 (Wp (n+2)) [.int (n1:Int),.tup (a.map D.str)] [.int (m1:Int),.tup (b.map D.str)]).bind (fun b'=>some (b'&&decide (2=2)))=_
  show((Wp (n+2) (.int (n1:Int)) (.int (m1:Int))).bind fun b'=>((Wp (n+2) (.tup (a.map D.str)) (.tup (b.map D.str))).bind fun c1=>(some true).bind fun c2=>some (c1&&c2)).bind fun c'=>some (b'&&c')).bind (fun b'=>some (b'&&decide (2=2)))=_
  rw[e,show Wp (n+2) (.int (n1:Int)) (.int (m1:Int))=some (decide ((n1:Int)=m1)) by simp]
  show some _=_
  R congrArg some ?_
  by_cases h1:n1=m1
  ·by_cases h2:a=b
   ·subst h1 h2;simp
   ·subst h1
    have hf:decide ((b8 ((n1:Int),a):NK)=b8 ((n1:Int),b))=false:=Ж fun z=>h2 (Prod.mk.inj (b8.inj z)).2
    rw[hf,Ж h2]
    simp
  ·have hf:decide ((b8 ((n1:Int),a):NK)=b8 ((m1:Int),b))=false:=Ж fun z=>h1 (by have:=(Prod.mk.inj (b8.inj z)).1;W)
   rw[hf,Ж (show¬(n1:Int)=m1 by W)]
   simp
ОZf5(n:Г){a b:NK}(h:OneK a b):TX.Jk (n+4) (Zu a) (Zu b)=some (decide (Gg a<Gg b)):=by
 cases h with
 |nm a b=>E A7 (n+2) a b
 |mk n1 m1 a b=>
  have e:=Xi (n+1) a b
  have e2:=A7 (n+1) a b
  show(Wp (n+3) (.int (n1:Int)) (.int (m1:Int))).bind (fun c=>if c=true then(Wp (n+3) (.tup (a.map D.str)) (.tup (b.map D.str))).bind (fun c=>if c=true then some false else TX.Jk (n+3) (.tup (a.map D.str)) (.tup (b.map D.str)))else TX.Jk (n+3) (.int (n1:Int)) (.int (m1:Int)))=_
  rw[e,show Wp (n+3) (.int (n1:Int)) (.int (m1:Int))=some (decide ((n1:Int)=m1)) by simp]
  show(if decide ((n1:Int)=m1)=true then(if decide (a=b)=true then some false else TX.Ra (Wp (n+2)) (TX.Jk (n+2)) (a.map D.str) (b.map D.str))else some (decide ((n1:Int)<m1)))=_
  rw[e2]
  have el:(Gg (.inr ((n1:Int),a))<Gg (.inr ((m1:Int),b)))↔(n1<m1\/(n1=m1/\Ua a<Ua b)):=by
   show((n1:Int).toNat::Ua a<(m1:Int).toNat::Ua b)↔_
   rw[dj]
   simp
  by_cases h1:n1=m1
  ·rw[Е (by simp[h1])]
   by_cases h2:a=b
   ·rw[Е (by simp[h2])]
    R congrArg some (Ж ?_).symm
    rw[el]
    subst h1 h2
    rintro(z|⟨_,z⟩)
    ·W
    ·E List.lt_irrefl _ z
   ·rw[Д (by simp[h2])]
    R congrArg some (decide_eq_decide.mpr ?_)
    rw[el]
    E⟨fun z=>.inr ⟨h1,z⟩,fun z=>z.elim (fun z=>by W) fun z=>z.2⟩
  ·rw[Д (by simp;W)]
   R congrArg some (decide_eq_decide.mpr ?_)
   rw[el]
   E⟨fun z=>.inl И,fun z=>z.elim (fun z=>by W) fun z=>absurd z.1 h1⟩
ПCw(ks:А NK):Prop:=(∀k∈ks,∃(x:Str) (l:А Str),k= .inl (x::l))\/∀k∈ks,∃(n:Г) (l:А Str),k= .inr ((n:Int),l)
ОCw.one{ks:А NK}(h:Cw ks){a b:NK}(ha:a∈ks)(hb:b∈ks):OneK a b:=by
 rcases h with h|h
 ·O⟨x,l,rfl⟩:=h a ha
  O⟨y,m,rfl⟩:=h b hb
  E .nm _ _
 ·O⟨x,l,rfl⟩:=h a ha
  O⟨y,m,rfl⟩:=h b hb
  E .mk _ _ _ _
ОCw.sub{ks js:А NK}(h:Cw ks)(hs:∀k∈js,k∈ks):Cw js:=h.imp (fun h k hk=>h k (hs k hk)) fun h k hk=>h k (hs k hk)
ПZf6(d:D):А Nat:=Gg ((nk? d).getD (.inl []))
ОM8(k:NK):Zf6 (Zu k)=Gg k:=by unfold Zf6;rw[Ma];rfl
ОZbq{ks:А NK}(h:Cw ks)(nd:ks.Nodup):TX.KeysOk (ks.map Zu):=by
 R⟨?_,Zf6,fun a ha b hb=>?_,?_⟩
 ·rcases h with h|h
  ·R⟨.str,fun d hd=>?_⟩
   O⟨k,hk,rfl⟩:=a6.mp hd
   O⟨x,l,rfl⟩:=h k hk
   E .str _ _
  ·R⟨.int,fun d hd=>?_⟩
   O⟨k,hk,rfl⟩:=a6.mp hd
   O⟨x,l,rfl⟩:=h k hk
   E .int _ _
 ·O⟨k,hk,rfl⟩:=a6.mp ha
  O⟨l,hl,rfl⟩:=a6.mp hb
  rw[M8,M8]
  E Zf5 12 (h.one hk hl)
 ·R Cd.mpr ?_
  rw[bx]
  R List.Pairwise.map _ (R:=fun a b=>a≠b/\a∈ks/\b∈ks) (fun a b ⟨h1,h2,h3⟩ e=>h1 ?_) ?_
  ·have e:Zf6 (Zu a)=Zf6 (Zu b):=e
   rw[M8,M8]at e
   E Zf3 (h.one h2 h3) e
  ·E(List.Pairwise.and_mem.mp nd).imp fun{a b} z=>⟨z.2.2,z.1,z.2.1⟩
ОZf7{ks:А NK}{k x:NK}:x∈M0 ks k↔x∈ks\/x=k:=by
 unfold M0
 have e:(ks.any fun z=>decide (z=k))=true↔k∈ks:=by
  rw[List.any_eq_true]
  E⟨fun⟨z,hz,e⟩=>by have:z=k:=of_decide_eq_true e;rw[<-this];E hz,fun h=>⟨k,h,decide_eq_true rfl⟩⟩
 split
 ·rename_i h
  E⟨.inl,fun z=>z.elim id fun z=>by rw[z];E e.mp h⟩
 ·rw[cn,au]
ОZjf{ks:А NK}{k:NK}(h:ks.Nodup):(M0 ks k).Nodup:=by
 unfold M0
 split
 ·E h
 ·rename_i hn
  R di.mpr ⟨h,by simp,fun a ha b hb z=>hn ?_⟩
  rw[au.mp hb]at z
  rw[List.any_eq_true]
  E⟨a,ha,decide_eq_true z⟩
ОA9:∀(ks acc:А NK),acc.Nodup->(ks.foldl M0 acc).Nodup/\∀x,x∈ks.foldl M0 acc↔x∈acc\/x∈ks
 | [],acc,h=>⟨h,fun x=>by simp⟩
 |k::ks,acc,h=>by
  O⟨a,b⟩:=A9 ks (M0 acc k) (Zjf h)
  R⟨a,fun x=>?_⟩
  rw[List.foldl_cons,b x,Zf7,bo]
  E⟨fun z=>by rcases z with(z|z)|z;(· E .inl z);(· E .inr (.inl z));E .inr (.inr z),fun z=>by rcases z with z|z|z;(· E .inl (.inl z));(· E .inl (.inr z));E .inr z⟩
ОXj(ks:А NK):(Xb ks).Nodup:=(A9 ks [] c7).1
ОL3(ks:А NK)(x:NK):x∈Xb ks↔x∈ks:=by rw[show Xb ks=ks.foldl M0 []from rfl,(A9 ks [] c7).2 x];simp
ОZjg(ks:А NK):(Xb ks).length<=ks.length:=List.Nodup.length_le_of_subset (Xj ks) fun x hx=>(L3 ks x).mp hx
ОZf8{ks out:А NK}(h:Cw ks)(hl:ks.length<64)(hm:∀x,x∈out↔x∈ks)(hs:out.Pairwise fun a b=>Gg a<Gg b):Mp ks=some (.ol (out.map Zu)):=by
 have nd:out.Nodup:=hs.imp fun{a b} z e=>by rw[e]at z;E List.lt_irrefl _ z
 have pm:out.Perm (Xb ks):=(List.perm_ext_iff_of_nodup nd (Xj ks)).mpr fun x=>by rw[hm,L3]
 have hk:=h.sub fun k hk=>(L3 ks k).mp hk
 R Zfi И (by have:=Zjg ks;W) (Zbq hk (Xj ks)) ⟨pm.map _,df.mpr ?_⟩
 R(List.Pairwise.and_mem.mp hs).imp fun{a b} ⟨ha,hb,z⟩=>?_
 rw[Zf5 12 (h.one ((hm b).mp hb) ((hm a).mp ha))]
 E congrArg some (Ж fun y=>List.lt_irrefl _ (List.lt_trans y z))
end My
namespace My
open DL PySem TT
ОZjh{ds out:А D}(hk:TX.KeysOk ds)(hl:ds.length<64)(so:Rf ds out):TX.An ds ds=some (.ol out):=by
 O⟨p,hp,e⟩:=TX.Zis (ks:=ds) (xs:=ds) rfl hl hk
 rw[e,Gb hk (As hp) so]
open Classical in
ОD6{α:Type}{f:α->D}{enc:α->А Г}{xs out:А α}{kk:TX.KK}(hk:∀a∈xs,TX.IsKey kk (f a))(hlt:∀a∈xs,∀b∈xs,TX.Jk 16 (f a) (f b)=some (decide (enc a<enc b)))(nd:(xs.map enc).Nodup)(hl:xs.length<64)
  (hp:out.Perm xs) (hs:out.Pairwise fun a b=>¬enc b<enc a):TX.An (xs.map f) (xs.map f)=some (.ol (out.map f)):=by
 have same:∀a∈xs,∀b∈xs,f a=f b->enc a=enc b:=fun a ha b hb e=>by
  have h1:=hlt a ha b hb
  have h2:=hlt b hb a ha
  rw[<-e,hlt a ha a ha]at h1
  rw[<-e,hlt a ha a ha]at h2
  have i:¬enc a<enc a:=List.lt_irrefl _
  have h1:decide (enc a<enc b)=false:=by rw[<-dm.inj h1];EЖ i
  have h2:decide (enc b<enc a)=false:=by rw[<-dm.inj h2];EЖ i
  E List.le_antisymm (d4.mp (of_decide_eq_false h2)) (d4.mp (of_decide_eq_false h1))
 let e:D->А Nat:=fun d=>if h:∃a,a∈xs/\f a=d then enc (Classical.choose h)else[]
 have ee:∀a∈xs,e (f a)=enc a:=fun a ha=>by
  have h:∃a',a'∈xs/\f a'=f a:=⟨a,ha,rfl⟩
  show(if h:∃a',a'∈xs/\f a'=f a then enc (Classical.choose h)else[])=enc a
  rw[dif_pos h]
  E same _ (Classical.choose_spec h).1 a ha (Classical.choose_spec h).2
 have ko:TX.KeysOk (xs.map f):=by
  R⟨⟨kk,fun d hd=>?_⟩,e,fun a ha b hb=>?_,?_⟩
  ·O⟨a,ha,rfl⟩:=a6.mp hd
   E hk a ha
  ·O⟨x,hx,rfl⟩:=a6.mp ha
   O⟨y,hy,rfl⟩:=a6.mp hb
   rw[ee x hx,ee y hy]
   E hlt x hx y hy
  ·R Cd.mpr ?_
   rw[bx]
   have:xs.map (e∘f)=xs.map enc:=fj fun a ha=>ee a ha
   rw[this];E nd
 R Zjh ko (by rw[ao];E hl) ⟨hp.map f,df.mpr ?_⟩
 R(List.Pairwise.and_mem.mp hs).imp fun{a b} ⟨ha,hb,z⟩=>?_
 rw[hlt b (hp.mem_iff.mp hb) a (hp.mem_iff.mp ha)]
 E congrArg some (Ж z)
noncomputable abbrev Tri:=Str×Str×А NK
noncomputable abbrev Wq(t:Tri):D:=.tup [.str t.1,.str t.2.1,.lst (t.2.2.map Zu)]
structure HP where
 ns:А NK
 ms:А NK
 fs:А Tri
noncomputable abbrev Yq(h:HP):D:=.tup [.lst (h.ns.map Zu),.lst (h.ms.map Zu),.lst (h.fs.map Wq)]
ПisN(k:NK):Prop:=∃(x:Str) (l:А Str),k= .inl (x::l)
ПisM(k:NK):Prop:=∃(n:Г) (l:А Str),k= .inr ((n:Int),l)
structure HPok(h:HP):В where
 ne:h.ns≠[]
 nm:∀k∈h.ns,isN k
 mr:∀k∈h.ms,isM k
 fl:∀t∈h.fs,∀k∈t.2.2,isN k
ОSc(n:Г):∀as bs:А NK,Cw (as++bs)->as.length=bs.length->U8 (Wp (n+3)) (as.map Zu) (bs.map Zu)=some (decide (as=bs))
 | [],[],_,_=>rfl
 | [],_::_,_,h=>by simp at h
 |_::_,[],_,h=>by simp at h
 |a::as,b::bs,ho,hl=>by
  have h1:OneK a b:=ho.one Л Л
  have ih:=Sc n as bs (ho.sub fun k hk=>by
   rcases cn.mp hk with z|z
   ·simp[z]
   ·simp[z]) (by simpa using hl)
  show(Wp (n+3) (Zu a) (Zu b)).bind (fun b'=>(U8 (Wp (n+3)) (as.map Zu) (bs.map Zu)).bind fun c'=>some (b'&&c'))=_
  rw[Zf4 n h1,ih]
  show some _=_
  R congrArg some ?_
  by_cases h:a=b
  ·by_cases h2:as=bs
   ·simp[h,h2]
   ·rw[Ж h2,Ж fun z=>h2 (List.cons.inj z).2];simp
  ·rw[Ж h,Ж fun z=>h (List.cons.inj z).1];simp
ОZn1(n:Г){as bs:А NK}(ho:Cw (as++bs)):Wp (n+4) (.lst (as.map Zu)) (.lst (bs.map Zu))=some (decide (as=bs)):=by
 show(if(as.map Zu).length=(bs.map Zu).length then U8 (Wp (n+3)) (as.map Zu) (bs.map Zu)else some false)=_
 rw[ao,ao]
 by_cases h:as.length=bs.length
 ·rw[Е h,Sc n as bs ho h]
 ·rw[Д h]
  E congrArg some (Ж fun z=>h (by rw[z])).symm
ОZn2(n:Г)(k:NK)(h:isN k\/isM k):Wp (n+3) (Zu k) (Zu k)=some true:=by
 have:OneK k k:=by
  rcases h with⟨x,l,rfl⟩|⟨x,l,rfl⟩
  ·E .nm _ _
  ·E .mk _ _ _ _
 rw[Zf4 n this];simp
ОRl(n:Г)(ks:А NK)(h:∀k∈ks,isN k\/isM k):Wp (n+4) (.lst (ks.map Zu)) (.lst (ks.map Zu))=some true:=M6 (n+3) _ fun x hx=>by
 O⟨k,hk,rfl⟩:=a6.mp hx
 E Zn2 n k (h k hk)
ОD7(n:Г)(t:Tri)(h:∀k∈t.2.2,isN k):Wp (n+5) (Wq t) (Wq t)=some true:=L0 (n+4) _ fun x hx=>by
 simp only[bo,gm,or_false]at hx
 rcases hx with rfl|rfl|rfl
 ·E M7 (n+3) _
 ·E M7 (n+3) _
 ·E Rl n _ fun k hk=>.inl (h k hk)
ОZn3(n:Г)(h:HP)(ok:HPok h):Wp (n+7) (Yq h) (Yq h)=some true:=L0 (n+6) _ fun x hx=>by
 simp only[bo,gm,or_false]at hx
 rcases hx with rfl|rfl|rfl
 ·E Rl (n+2) _ fun k hk=>.inl (ok.nm k hk)
 ·E Rl (n+2) _ fun k hk=>.inr (ok.mr k hk)
 ·E M6 (n+5) _ fun x hx=>by
   O⟨t,ht,rfl⟩:=a6.mp hx
   E D7 n t (ok.fl t ht)
ОZf9(n:Г)(hs:А HP)(ok:∀h∈hs,HPok h):Wp (n+8) (.lst (hs.map Yq)) (.lst (hs.map Yq))=some true:=M6 (n+7) _ fun x hx=>by
 O⟨h,hh,rfl⟩:=a6.mp hx
 E Zn3 n h (ok h hh)
ПBg(t:Tri):А Nat:=tE t.1.cps.toList++(tE t.2.1.cps.toList++[])
ОZga{s t:Tri}(h:Bg s=Bg t):s.1=t.1/\s.2.1=t.2.1:=by
 O⟨h1,h2⟩:=Zf2 _ _ _ _ h
 E⟨Gf h1,Gf (Zf2 _ _ _ _ h2).1⟩
ОZn4(s t:Tri)(hs:∀k∈s.2.2,isN k)(h:Bg s=Bg t->s=t):TX.Jk 16 (Wq s) (Wq t)=some (decide (Bg s<Bg t)):=by
 have el:(Bg s<Bg t)↔(s.1.cps.toList<t.1.cps.toList\/(s.1.cps.toList=t.1.cps.toList/\s.2.1.cps.toList<t.2.1.cps.toList)):=by
  unfold Bg
  rw[Ay,Ay]
  constructor
  ·rintro(z|⟨z,w|⟨_,w⟩⟩)
   ·E .inl z
   ·E .inr ⟨z,w⟩
   ·E absurd w (List.lt_irrefl _)
  ·rintro(z|⟨z,w⟩)
   ·E .inl z
   ·E .inr ⟨z,.inl w⟩
 show(Wp 15 (.str s.1) (.str t.1)).bind (fun c=>if c=true then(Wp 15 (.str s.2.1) (.str t.2.1)).bind (fun c=>if c=true then(Wp 15 (.lst (s.2.2.map Zu)) (.lst (t.2.2.map Zu))).bind (fun c=>if c=true then some false else TX.Jk 15 (.lst (s.2.2.map Zu)) (.lst (t.2.2.map Zu)))else TX.Jk 15 (.str s.2.1) (.str t.2.1))else TX.Jk 15 (.str s.1) (.str t.1))=_
 rw[L1,L1,Xh,Xh]
 by_cases h1:s.1=t.1
 ·rw[decide_eq_true h1]
  by_cases h2:s.2.1=t.2.1
  ·rw[decide_eq_true h2]
   have e:s=t:=h (by unfold Bg;rw[h1,h2])
   subst e
   rw[Rl 11 _ fun k hk=>.inl (hs k hk)]
   show some false=_
   E congrArg some (Ж (List.lt_irrefl _)).symm
  ·rw[Ж h2]
   show some (decide (s.2.1.cps.toList<t.2.1.cps.toList))=_
   R congrArg some (decide_eq_decide.mpr ?_)
   rw[el,h1]
   E⟨fun z=>.inr ⟨rfl,z⟩,fun z=>z.elim (fun z=>absurd z (List.lt_irrefl _)) fun z=>z.2⟩
 ·rw[Ж h1]
  show some (decide (s.1.cps.toList<t.1.cps.toList))=_
  R congrArg some (decide_eq_decide.mpr ?_)
  rw[el]
  E⟨.inl,fun z=>z.elim id fun z=>absurd (Gf z.1) h1⟩
ОZgb{α β:Type}{f:α->β}{xs:А α}(h:(xs.map f).Nodup){a b:α}(ha:a∈xs)(hb:b∈xs)(e:f a=f b):a=b:=by
 O⟨i,hi,rfl⟩:=dy ha
 O⟨j,hj,rfl⟩:=dy hb
 have:i=j:=(List.getElem?_inj (by rw[ao];E hi) h).mp (by simp[hi,hj,e])
 subst this;rfl
ОZji{ts out:А Tri}(hf:∀t∈ts,∀k∈t.2.2,isN k)(nd:(ts.map Bg).Nodup)(hl:ts.length<64)(hp:out.Perm ts)(hs:out.Pairwise fun a b=>¬Bg b<Bg a):TX.An (ts.map Wq) (ts.map Wq)=some (.ol (out.map Wq)):=
 D6 (enc:=Bg) (kk:=.str) (fun a _=>.str _ _) (fun a ha b hb=>Zn4 a b (hf a ha) fun e=>Zgb nd ha hb e) nd hl hp hs
ПU9(h:HP):А Nat:=Gg (h.ns.headD (.inl []))
ОZr5(a b:HP)(oa:HPok a)(ob:HPok b)(h:U9 a=U9 b->a=b):TX.Jk 16 (Yq a) (Yq b)=some (decide (U9 a<U9 b)):=by
 show(Wp 15 (.lst (a.ns.map Zu)) (.lst (b.ns.map Zu))).bind (fun c=>if c=true then(Wp 15 (.lst (a.ms.map Zu)) (.lst (b.ms.map Zu))).bind (fun c=>if c=true then(Wp 15 (.lst (a.fs.map Wq)) (.lst (b.fs.map Wq))).bind (fun c=>if c=true then some false else TX.Jk 15 (.lst (a.fs.map Wq)) (.lst (b.fs.map Wq)))else TX.Jk 15 (.lst (a.ms.map Zu)) (.lst (b.ms.map Zu)))else TX.Jk 15 (.lst (a.ns.map Zu)) (.lst (b.ns.map Zu)))=_
 have on:Cw (a.ns++b.ns):=.inl fun k hk=>by
  rcases cn.mp hk with z|z
  ·E oa.nm k z
  ·E ob.nm k z
 rw[Zn1 11 on]
 by_cases hn:U9 a=U9 b
 ·have e:=h hn
  subst e
  rw[decide_eq_true rfl,Rl 11 _ fun k hk=>.inr (oa.mr k hk)]
  have e3:Wp 15 (.lst (a.fs.map Wq)) (.lst (a.fs.map Wq))=some true:=M6 14 _ fun x hx=>by
   O⟨t,ht,rfl⟩:=a6.mp hx
   E D7 9 t (oa.fl t ht)
  rw[e3]
  show some false=_
  E congrArg some (Ж (List.lt_irrefl _)).symm
 ·O⟨x,as,ea⟩:=List.exists_cons_of_ne_nil oa.ne
  O⟨y,bs,eb⟩:=List.exists_cons_of_ne_nil ob.ne
  have hxy:x≠y:=fun z=>hn (by unfold U9;rw[ea,eb,z];rfl)
  rw[Ж fun z=>hxy (by rw[ea,eb]at z;E(List.cons.inj z).1)]
  show TX.Jk 15 (.lst (a.ns.map Zu)) (.lst (b.ns.map Zu))=_
  unfold U9
  rw[ea,eb]
  have ok:OneK x y:=on.one (by rw[ea];simp) (by rw[eb];simp)
  show(Wp 14 (Zu x) (Zu y)).bind (fun c=>if c=true then _ else TX.Jk 14 (Zu x) (Zu y))=_
  rw[Zf4 11 ok,Ж hxy]
  show TX.Jk 14 (Zu x) (Zu y)=_
  E Zf5 10 ok
ОZn5{hs out:А HP}(ok:∀h∈hs,HPok h)(nd:(hs.map U9).Nodup)(hl:hs.length<64)(hp:out.Perm hs)(hsr:out.Pairwise fun a b=>¬U9 b<U9 a):TX.An (hs.map Yq) (hs.map Yq)=some (.ol (out.map Yq)):=
 D6 (enc:=U9) (kk:=.lst) (fun a _=>.lst _ _) (fun a ha b hb=>Zr5 a b (ok a ha) (ok b hb) fun e=>Zgb nd ha hb e) nd hl hp hsr
end My
noncomputable section
local macro_rules| `(tactic|trivial)=> `(tactic|first|E Or.inl rfl|E gg (Or.inl rfl)|E gg (gg rfl)|E gg rfl)
namespace Gen
open PySem PySem.Spec PyProof.Rows L2 DL
ПXk(i:Г):Stmt:=PySem.Challenge.pw_citeward_k36_heaps_of_single_works.main.body.getD i (.Pass ⟨0,0,0,0⟩)
noncomputable abbrev Zn6:Nat:=1000
noncomputable abbrev Ot:Stmt:=Xk 12
noncomputable abbrev Ou:Stmt:=Xk 14
noncomputable abbrev Ov:Stmt:=Xk 11
noncomputable abbrev Ox:Stmt:=Xk 13
noncomputable abbrev Gh:Stmt:=Xk 15
noncomputable abbrev Ux:Stmt:=Xk 6
noncomputable abbrev L4:Stmt:=Xk 7
noncomputable abbrev Uy:Stmt:=Xk 8
noncomputable abbrev Md:Stmt:=Xk 5
noncomputable abbrev Oy:Stmt:=Xk 3
noncomputable abbrev B0:Stmt:=Xk 4
noncomputable abbrev Oz:Stmt:=Xk 2
noncomputable abbrev Gi:Stmt:=Xk 1
noncomputable abbrev Ub:Stmt:=Xk 10
noncomputable abbrev O0:Stmt:=Xk 16
ПY9:FS:=
 Yc (Wd 9 (Zt Vr (Za 6) (Yl Zh4 (Zd (Zt eqY (Za 8) (Za 4)) Zn)))) (Wd 7 (Zt Cj (Za 7) (Zt Cl (Za 2) (Zt Ci (Zt Cj (Zt Cq (Za 0) (Zt Cj (Za 8) (Zh (.int 2)))) (Za 9)) (Zh (.int 22))))))
ПQy:FS:=
 Yc (Wd 7 (Zh (.str ""))) (Yc (Bf (Zdf (Zd (Za 3) Zn)) (Zg 8) Y9) (Tv 5 (Za 7)))
ПB1:FS:=
 Yc (Wd 2 (Zh (.str "abcdefghjlmpqrstuvwxyz"))) (Yc (Wd 3 (Zt Cj (Zh (.int 1)) (Zt Ci (Za 0) (Zh (.int 8))))) (Yc (Wd 4 (Zt Ci (Zt Cq (Za 0) (Zh (.int 8))) (Za 3))) (Yc (Wd 5 (Jg (Zl))) (Yc (Bf (Zdf (Zd (Za 1) Zn)) (Zg 6) Qy) (Be (Za 5))))))
ПYw:А D->Б SV:=Qp B1 10
ПB2:FS:=
 Yc (Wd 2 (Jg (Ze (Jg (Ze (Zt Cl (Za 0) (Zt Ci (Zt Cq (Za 1) (Zh (.int 8))) (Zh (.int 3)))) (Zl))) (Ze (Jg (Ze (Zh (.str "kind")) (Ze (Zt Cl (Za 0) (Zt Ci (Zt Cq (Za 1) (Zh (.int 32))) (Zh (.int 3)))) (Zl)))) (Ze (Jg (Ze (Zt Cl (Za 0) (Zh (.int 0))) (Ze (Zt Cl (Za 0) (Zh (.int 2))) (Ze (Zt Cl (Za 0) (Zh (.int 0))) (Zl))))) (Ze (Jg (Ze (Zh (.str "note")) (Zl))) (Zl))))))) (Be (slF slD (Jg (Ze (Zt Cl (Za 2) (Zt Ci (Zt Cq (Za 1) (Zh (.int 128))) (Zh (.int 4)))) (Ze (Zt Cl (Za 2) (Zt Ci (Zt Cq (Za 1) (Zh (.int 512))) (Zh (.int 4)))) (Zl)))) (Ve) (N1 (Zt Ci (Za 1) (Zh (.int 3))))))
ПQ4:А D->Б SV:=Qp B2 3
ПB3:FS:=
 Be (Zt Ci (Zt Vr (Zt Ci (Za 0) (Zh (.int 2147483647))) (Za 1)) (Zh (.int 2147483647)))
ПYx:А D->Б SV:=Qp B3 2
ПWm:FS:=
 ifS (Y6 (Zt gtD (Zt Ci (Zt Cq (Za 6) (Zt Cj (Zh (.int 64)) (Za 8))) (Zh (.int 3))) (Zh (.int 0)))) (Rv 7 (Za 9) (Zt Cj (Zt Cj (Zt Cj (Zt Cl (Jg (R3 ["Of ","A. ","/ ","(*) ","n: "] (Zl))) (Za 8)) (Yl Pk (Zd (Zt Ci (Za 6) (Zh (.int 100))) Zn))) (Zh (.str "."))) (Yl Pk (Zd (Za 4) Zn)))) (Br)
ПWn:FS:=
 Yc (Wd 6 (We 2 Yx (Zd (Zt Cj (Zt Cl (Za 2) (Za 4)) (Za 4)) (Zd (Zh (.int 48271)) (Zn))))) (Yc (Wd 7 (Pd)) (Yc (Bf (C4 (Ze (Zt Cj (Za 1) (Jg (R3 ["in","note"] (Zl)))) Zl)) (Wa 2 (Zs (Zg 8) (Zs (Zg 9) (Wb)))) Wm) (Yc (Rv 7 (Zh (.str "in")) (Zt Cj (Zmu "dict" Ld (Za 7) (R3 ["in","It"] (Zl))) (Zh (.str "'s")))) (Yc (ifS (Y6 (Zt eqY (Zt Ci (Za 6) (Zh (.int 4))) (Zh (.int 0)))) (Zic 7 (Zh (.str "in"))) (Br)) (Rv 3 (Za 5) (tupF (Ze (Zt Cl (Jg (R3 ["book","part","a"] (Zl))) (Zt Ci (Zt Cq (Za 6) (Zh (.int 5))) (Zh (.int 3)))) (Ze (Za 7) (Zl)))))))))
ПB4:FS:=
 Yc (Wd 3 (Pd)) (Yc (Bf (C4 (Ze (Za 0) Zl)) (Wa 2 (Zs (Zg 4) (Zs (Zg 5) (Wb)))) Wn) (Be (Za 3)))
ПW6:А D->Б SV:=Qp B4 10
ПMr:FE:=
 Zt inZ (Za 0) (Za 1)
ПMs:FE:=
 Zt Cl (Za 1) (Za 0)
ПQ5:FS:=
 ifS (Hx (Y6 (Zt Jy (Zh (.bl false)) (Bb [.own,.cap 7,.acc] 2 (Ck (Za 10)) (Zg 0) (Q3) Mr)))) (Tv 8 (tupF (Ze (Za 9) (Ze (Yl Tx (Zd (Bb [.own,.cap 7,.acc] 2 (Ck (Za 10)) (Zg 0) (Q3) Ms) Zn)) (Zl))))) (Br)
ПW7:FS:=
 ifS (Y6 (Zt neY (Za 12) (Zh (.str "note")))) (Tv 11 (tupF (Ze (Za 12) (Ze (Zt Cl (Za 7) (Za 12)) (Ze (Jg (Ze (tupF (Ze (Za 0) (Ze (Za 4) (Zl)))) (Zl))) (Zl)))))) (Br)
ПUo:FS:=
 Yc (K4 (Wa 2 (Zs (Zg 5) (Zs (Zg 6) (Wb)))) (Zt Cl (Za 1) (Za 4))) (Yc (Wd 7 (Yl Pf (Zd (Za 6) Zn))) (Yc (Rv 7 (Zh (.str "kind")) (Za 5)) (Yc (Wd 8 (Jg (Zl))) (Yc (Bf (C4 (Ze (Za 2) Zl)) (Wa 2 (Zs (Zg 9) (Zs (Zg 10) (Wb)))) Q5) (Yc (Wd 11 (Jg (Zl))) (Yc (Bf (Ck (Yl Bz (Zd (Za 7) Zn))) (Zg 12) W7) (Tv 3 (tupF (Ze (Jg (Ze (tupF (Ze (Za 0) (Ze (Za 4) (Zl)))) (Zl))) (Ze (Za 8) (Ze (Za 11) (Zl))))))))))))
ПMe:FS:=
 Yc (Wd 3 (Jg (Zl))) (Yc (Bf (Ck (Yl Bz (Zd (Za 1) Zn))) (Zg 4) Uo) (Be (Za 3)))
ПOa:А D->Б SV:=Qp Me 13
ПUc:FS:=
 Mq 1 (Za 4) 2 false
ПQh:FS:=
 Bf (Ck (Zt Cj (Zt Cl (Za 3) (Zh (.int 0))) (Zt Cl (Za 3) (Zh (.int 1))))) (Zg 4) Uc
ПO1:FS:=
 Yc (Wd 1 (Fk)) (Yc (Bf (C4 (Ze (Za 0) Zl)) (Wa 2 (Zs (Zg 2) (Zs (Zg 3) (Wb)))) Qh) (Zmy (Za 1)))
ПQi:А D->Б SV:=Qp O1 5
ПSd:FS:=
 ifS (Y6 (Zt Jy (Za 7) (Za 3))) (Yc (Rv 3 (Za 7) (Zh (.bl true))) (Tv 4 (Za 7))) (Br)
ПRm:FS:=
 Bf (Ck (Zt Zfp (Za 1) (Za 6))) (Zg 7) Sd
ПUd:FT:=
 Y6 (Zt gtD (Yl Vf (Zd (Za 4) Zn)) (Zh (.int 0)))
ПB5:FS:=
 Yc (Lz 5 0 4) (Bf (Ck (Zt Cj (Zt Cl (Za 5) (Zh (.int 0))) (Zt Cl (Za 5) (Zh (.int 1))))) (Zg 6) Rm)
ПXl:FS:=
 Yc (Wd 3 (D1 2 (Zh (.bl true)))) (Yc (Wd 4 (Jg (Ze (Za 2) (Zl)))) (Yc (Jv Ud B5 Zn6) (Be (Yl Pr (Zd (Za 3) Zn)))))
ПEa:А D->Б SV:=Qp Xl 8
ПUe:FS:=
 Mq 3 (tupF (Ze (Za 5) (Ze (Za 6) (Zl)))) 7 true
ПQj:FS:=
 Yc (P4 1 (Zt Cl (Za 4) (Zh (.int 0)))) (Yc (P4 2 (Zt Cl (Za 4) (Zh (.int 1)))) (Bf (Ck (Zt Cl (Za 4) (Zh (.int 2)))) (Wa 3 (Zs (Zg 5) (Zs (Zg 6) (Zs (Zg 7) (Wb))))) Ue))
ПQk:FE:=
 tupF (Ze (Zt Cl (Za 0) (Zh (.int 0))) (Ze (Zt Cl (Za 0) (Zh (.int 1))) (Ze (Yl Cu (Zd (Zt Zfp (Za 1) (Za 0)) Zn)) (Zl))))
ПO4:FS:=
 Yc (Wd 1 (Jg (Zl))) (Yc (Wd 2 (Jg (Zl))) (Yc (Wd 3 (Fk)) (Yc (Bf (Ck (Za 0)) (Zg 4) Qj) (Yc (Wd 8 (Bb [.own,.cap 3,.acc] 2 (Zfo (Za 3)) (Zg 0) (Q3) Qk)) (Be (tupF (Ze (Yl Cu (Zd (Za 1) Zn)) (Ze (Yl Cu (Zd (Za 2) Zn)) (Ze (Yl Ap (Zd (Za 8) Zn)) (Zl))))))))))
ПYt:А D->Б SV:=Qp O4 9
ПEb:FS:=
 Rv 3 (Za 6) (Zh (.bl true))
ПEc:FE:=
 Zt Cl (Za 1) (Za 0)
ПQs:FS:=
 ifS (Y6 (Zt Jy (Za 4) (Za 3))) (Yc (Wd 5 (We 3 Ea (Zd (Za 0) (Zd (Za 1) (Zd (Za 4) (Zn)))))) (Yc (Bf (Ck (Za 5)) (Zg 6) Eb) (Tv 2 (We 1 Yt (Zd (Bb [.own,.cap 0,.acc] 2 (Ck (Za 5)) (Zg 0) (Q3) Ec) (Zn)))))) (Br)
ПEd:FS:=
 Yc (Wd 1 (We 1 Qi (Zd (Za 0) (Zn)))) (Yc (Wd 2 (Jg (Zl))) (Yc (Wd 3 (Pd)) (Yc (Bf (Zdf (Zd (Yl Vf (Zd (Za 0) Zn)) Zn)) (Zg 4) Qs) (Be (Yl Ap (Zd (Za 2) Zn))))))
ПB6:А D->Б SV:=Qp Ed 7
ПB7:FS:=
 Yc (Wd 1 (Yl Pf (Zd (Zt Cl (Za 0) (Zh (.int 1))) Zn))) (Yc (Rv 1 (Zh (.str "kind")) (Zt Cl (Za 0) (Zh (.int 0)))) (Be (Za 1)))
ПW8:А D->Б SV:=Qp B7 2
ПJi:FE:=
 Zt inZ (Za 0) (Za 1)
ПJj:FE:=
 Zt Cl (Za 1) (Za 0)
ПQl:FS:=
 ifS (Y6 (Yl Zh7 (Zd (Bb [.own,.cap 0,.acc] 2 (Ck (Za 4)) (Zg 0) (Q3) Ji) Zn))) (Tv 2 (tupF (Ze (Za 3) (Ze (Yl Tx (Zd (Bb [.own,.cap 0,.acc] 2 (Ck (Za 4)) (Zg 0) (Q3) Jj) Zn)) (Zl))))) (Br)
ПGj:FS:=
 Yc (Wd 2 (Jg (Zl))) (Yc (Bf (C4 (Ze (Za 1) Zl)) (Wa 2 (Zs (Zg 3) (Zs (Zg 4) (Wb)))) Ql) (Be (Za 2)))
ПUf:А D->Б SV:=Qp Gj 5
ПW1:FT:=
 Y6 (Zt neY (Za 0) (Zh (.str "note")))
ПQz:FE:=
 tupF (Ze (Za 0) (Ze (Zt Cl (Za 1) (Za 0)) (Ze (Jg (Ze (Za 2) (Zl))) (Zl))))
ПB8:FS:=
 Yc (Wd 3 (We 1 W8 (Zd (Za 1) (Zn)))) (Yc (Wd 4 (Bb [.own,.cap 3,.cap 0,.acc] 3 (Zbc (Za 3)) (Zg 0) (W1) Qz)) (Be (tupF (Ze (Jg (Ze (Za 0) (Zl))) (Ze (We 2 Uf (Zd (Za 3) (Zd (Za 2) (Zn)))) (Ze (Za 4) (Zl)))))))
ПW9:А D->Б SV:=Qp B8 5
ПUp:FE:=
 We 3 W9 (Zd (tupF (Ze (Za 2) (Ze (Za 0) (Zl)))) (Zd (Zt Cl (Za 3) (Za 0)) (Zd (Za 1) (Zn))))
ПMf:FS:=
 Be (We 1 B6 (Zd (Bb [.own,.cap 2,.cap 0,.cap 1,.acc] 4 (Zbc (Za 1)) (Zg 0) (Q3) Up) (Zn)))
ПQt:А D->Б SV:=Qp Mf 3
ПQ0:FS:=
 Yc (ifS (Y6 (Zt Jk (Za 1) (Yl Vf (Zd (Za 0) Zn)))) (Be (Zt Cl (Za 0) (Za 1))) (Br)) (Be (Zh (.int 0)))
ПZ6:А D->Б SV:=Qp Q0 2
ПD8:FE:=
 unF (Za2 "list") (Za 0)
ПL5:FT:=
 orF (Zht (Y6 (unF (Za2 "list") (Za 8)))) (Y6 (Zt neY (Za 8) (Za 7)))
ПM9:FT:=
 orF (Zht (Y6 (unF (Za2 "tuple") (Za 9)))) (Hx (Y6 (Zt inZ (Zh (.bl false)) (Bb [.own,.acc] 1 (Ck (Za 9)) (Zg 0) (Q3) D8))))
ПZgc:FS:=
 Yc (Wd 1 (slF slD (Za 0) (N1 (Zh (.int 5))) (N1 (Zh (.int 15))))) (Yc (Wd 2 (We 2 Yw (Zd (We 2 Yx (Zd (We 2 Z6 (Zd (Za 0) (Zd (Zh (.int 0)) (Zn)))) (Zd (Zh (.int 16807)) (Zn)))) (Zd (Yl Vf (Zd (Za 1) Zn)) (Zn))))) (Yc (Wd 3 (We 2 Yw (Zd (We 2 Yx (Zd (We 2 Z6 (Zd (Za 0) (Zd (Zh (.int 1)) (Zn)))) (Zd (Zh (.int 16807)) (Zn)))) (Zd (Zh (.int 3)) (Zn))))) (Yc (Wd 4 (Zt Cl (We 2 Yw (Zd (We 2 Yx (Zd (We 2 Z6 (Zd (Za 0) (Zd (Zh (.int 2)) (Zn)))) (Zd (Zh (.int 39373)) (Zn)))) (Zd (Zh (.int 1)) (Zn)))) (Zh (.int 0)))) (Yc (Wd 5 (We 2 Q4 (Zd (Za 3) (Zd (We 2 Yx (Zd (We 2 Z6 (Zd (Za 0) (Zd (Zh (.int 3)) (Zn)))) (Zd (Zh (.int 69621)) (Zn)))) (Zn))))) (Yc (Wd 6 (We 3 W6 (Zd (Za 2) (Zd (Za 3) (Zd (Za 1) (Zn)))))) (Yc (Wd 7 (We 3 Oa (Zd (Za 4) (Zd (Za 6) (Zd (Za 5) (Zn)))))) (Yc (Gd 8 9 3 Qt (Ze (Za 4) (Ze (Za 6) (Ze (Za 5) (Zl)))) L5 M9) (Yc (ifS (Y6 (Zt neY (We 3 Qt (Zd (Za 4) (Zd (Za 6) (Zd (Za 5) (Zn))))) (Za 7))) (Be (Zh (.bl false))) (Br)) (Be (Zt eqY (Za 6) (We 3 W6 (Zd (Za 2) (Zd (Za 3) (Zd (Za 1) (Zn)))))))))))))))
ПRn:А D->Б SV:=Qp Zgc 10
end Gen
namespace Gen
open PySem PySem.Spec PyProof.Rows L2 DL
structure Txt(K:af)(mg:Str->Б ah)(fx0 fx1 fx2 fx3 fx4 fx5 fx6 fx7 fx8 fx9 fx10 fx11 fx12 fx13 fx14:am):В where
 z_all:mg "all"=none
 z_dict:mg "dict"=none
 z_enumerate:mg "enumerate"=none
 z_int:mg "int"=none
 z_isinstance:mg "isinstance"=none
 z_len:mg "len"=none
 z_list:mg "list"=none
 z_range:mg "range"=none
 z_set:mg "set"=none
 z_sorted:mg "sorted"=none
 z_str:mg "str"=none
 z_tuple:mg "tuple"=none
 m_0:mg "_law_names"=some (.ref fx0)
 k_0:bq K (.ref fx0)=true
 m_1:mg "_law_rules"=some (.ref fx1)
 k_1:bq K (.ref fx1)=true
 m_2:mg "_law_mixed"=some (.ref fx2)
 k_2:bq K (.ref fx2)=true
 m_3:mg "_law_shelf"=some (.ref fx3)
 k_3:bq K (.ref fx3)=true
 m_4:mg "_law_due"=some (.ref fx4)
 k_4:bq K (.ref fx4)=true
 m_5:mg "holders_of"=some (.ref fx5)
 k_5:bq K (.ref fx5)=true
 m_6:mg "tied"=some (.ref fx6)
 k_6:bq K (.ref fx6)=true
 m_7:mg "join_heaps"=some (.ref fx7)
 k_7:bq K (.ref fx7)=true
 m_8:mg "joined"=some (.ref fx8)
 k_8:bq K (.ref fx8)=true
 m_9:mg "own_texts"=some (.ref fx9)
 k_9:bq K (.ref fx9)=true
 m_10:mg "marks_of"=some (.ref fx10)
 k_10:bq K (.ref fx10)=true
 m_11:mg "lone_heap"=some (.ref fx11)
 k_11:bq K (.ref fx11)=true
 m_12:mg "pool_of"=some (.ref fx12)
 k_12:bq K (.ref fx12)=true
 m_13:mg "_law_cell_at"=some (.ref fx13)
 k_13:bq K (.ref fx13)=true
 m_14:mg "law"=some (.ref fx14)
 k_14:bq K (.ref fx14)=true
section
variable{P:bu}{w:cj}{K:af}{mg:Str->Б ah}{base:dr}{fx0 fx1 fx2 fx3 fx4 fx5 fx6 fx7 fx8 fx9 fx10 fx11 fx12 fx13 fx14:am}
ОYj:FnScope ["_law_number","_law_many","_law_letters","_law_size","_law_at","_law_names_here","_law_turn","_law_name","_law_k","_law_step"] ["_law_number","_law_many"] (Zx Ot):=⟨rfl,rfl,rfl,by decide+kernel,rfl,by decide+kernel,by decide+kernel⟩
ОRo:FnScope ["_law_fields","_law_number","_law_some"] ["_law_fields","_law_number"] (Zx Ou):=⟨rfl,rfl,rfl,by decide+kernel,rfl,by decide+kernel,by decide+kernel⟩
ОL6:FnScope ["_law_cell","_law_by"] ["_law_cell","_law_by"] (Zx Ov):=⟨rfl,rfl,rfl,by decide+kernel,rfl,by decide+kernel,by decide+kernel⟩
ОY8:FnScope ["_law_keys","_law_fields","_law_cells","_law_shelf_here","_law_k","_law_key","_law_number","_law_own","_law_j","_law_field"] ["_law_keys","_law_fields","_law_cells"] (Zx Ox):=⟨rfl,rfl,rfl,by decide+kernel,rfl,by decide+kernel,by decide+kernel⟩
ОY3:FnScope ["_law_book","_law_shelf_here","_law_rules_here","_law_due_here","_law_key","_law_kind","_law_own","_law_all_own","_law_marks","_law_n","_law_rule","_law_told","_law_field"] ["_law_book","_law_shelf_here","_law_rules_here"] (Zx Gh):=⟨rfl,rfl,rfl,by decide+kernel,rfl,by decide+kernel,by decide+kernel⟩
ОW2:FnScope ["heaps","holders","place","heap","tie"] ["heaps"] (Zx Ux):=⟨rfl,rfl,rfl,by decide+kernel,rfl,by decide+kernel,by decide+kernel⟩
ОCf:FnScope ["heaps","holders","place","found","left","heap","tie","other"] ["heaps","holders","place"] (Zx L4):=⟨rfl,rfl,rfl,by decide+kernel,rfl,by decide+kernel,by decide+kernel⟩
ОYk:FnScope ["heaps","names","marks","tellers","heap","field","value","told_by","fields"] ["heaps"] (Zx Uy):=⟨rfl,rfl,rfl,by decide+kernel,rfl,by decide+kernel,by decide+kernel⟩
ОQu:FnScope ["heaps","holders","pool","seen","place","group","other"] ["heaps"] (Zx Md):=⟨rfl,rfl,rfl,by decide+kernel,rfl,by decide+kernel,by decide+kernel⟩
ОRp:FnScope ["work","texts"] ["work"] (Zx Oy):=⟨rfl,rfl,rfl,by decide+kernel,rfl,by decide+kernel,by decide+kernel⟩
ОUq:FnScope ["texts","rules","marks","number","rule"] ["texts","rules"] (Zx B0):=⟨rfl,rfl,rfl,by decide+kernel,rfl,by decide+kernel,by decide+kernel⟩
ОO5:FnScope ["name","work","rules","texts","fields"] ["name","work","rules"] (Zx Oz):=⟨rfl,rfl,rfl,by decide+kernel,rfl,by decide+kernel,by decide+kernel⟩
ОXm:FnScope ["book","shelf","rules"] ["book","shelf","rules"] (Zx Gi):=⟨rfl,rfl,rfl,by decide+kernel,rfl,by decide+kernel,by decide+kernel⟩
ОEe:FnScope ["_law_script","_law_k"] ["_law_script","_law_k"] (Zx Ub):=⟨rfl,rfl,rfl,by decide+kernel,rfl,by decide+kernel,by decide+kernel⟩
ОUz:FnScope ["_law_script","_law_cells","_law_keys","_law_fields","_law_book","_law_rules_here","_law_shelf_here","_law_due_here","_law_found","_law_heap"] ["_law_script"] (Zx O0):=⟨rfl,rfl,rfl,by decide+kernel,rfl,by decide+kernel,by decide+kernel⟩
ОXn{x qual:Str}{st:Stmt}{f:am}{fd:cx}{N ps:А Str}{k n:Г}(F:Fun K x qual st f fd)(S:FnScope N ps (Zx st))(hn:n=ps.length)(f0:FS)(hb:∀(cdv:ah) (A:ck) (outer:А Env) (s:ak) (H F0:Hp) (E:XK),Room k (A.deeper (envOfC qual (Zx st) s.heap.objs.size f cdv))->(A.deeper (envOfC qual (Zx st) s.heap.objs.size f cdv)).units+1<d8->(A.deeper (envOfC qual (Zx st) s.heap.objs.size f cdv)).units+64<d8->Gp (S6 Oc P w K mg base N qual (Zx st) f cdv A outer s H E).nox (Jf st) (Z1 (ent H F0:Ent K) f0)):FnOk P w K mg base Oc (k+1) f fd ps (Y5 K n (Qp f0 N.length)):=
 F.ok S (fun _ _ _ _ h=>(Zdg h).trans hn) fun cdv A outer s H vs Q E hr h=>by
  O⟨F0,h⟩:=Zdt (N:=N) (f:=f0) h
  E⟨_,hb cdv A outer s H F0 E hr (Zpi hr) hr.units,h⟩
variable(T:Txt K mg fx0 fx1 fx2 fx3 fx4 fx5 fx6 fx7 fx8 fx9 fx10 fx11 fx12 fx13 fx14)
include T
ОL7{fd:cx}(F:Fun K "_law_names" "_law_names" Ot fx0 fd):
  FnOk P w K mg base Oc 1 fx0 fd ["_law_number","_law_many"] (Y5 K 2 Yw):=by
 R Xn F Yj rfl B1 fun _ _ _ _ _ _ _ hr hu hv=>?_
 E(@Zi _ _ _ _ _ _ (@Yn _ _ _ _ _ 2 _ _ Yj.nd Bc З К З К) (@Zi _ _ _ _ _ _ (@Yn _ _ _ _ _ 3 _ _ Yj.nd (@U6 _ _ _ _ _ _ _ Z2 (@Ul _ _ _ _ _ _ _ (Zb 0) Z2)) З К З К) (@Zi _ _ _ _ _ _ (@Yn _ _ _ _ _ 4 _ _ Yj.nd (@Ul _ _ _ _ _ _ _ (@Bu _ _ _ _ _ _ _ (Zb 0) Z2) (Zb 3)) З К З К) (@Zi _ _ _ _ _ _ (@Yn _ _ _ _ _ 5 _ _ Yj.nd (@Wx _ _ _ _ _ Yd) З К З К) (@Zi _ _ _ _ _ _ (@Jc _ _ _ _ _ _ _ _ _ dh rfl (@Zdr _ _ _ _ _ _ _ T.z_range (Zb 1) З З) (@Z8 _ _ _ 6 _ Yj.nd З К К) (@Zi _ _ _ _ _ _ (@Yn _ _ _ _ _ 7 _ _ Yj.nd Bc З К З К) (@Zi _ _ _ _ _ _ (@Jc _ _ _ _ _ _ _ _ _ dh rfl (@Zdr _ _ _ _ _ _ _ T.z_range (Zb 3) З З) (@Z8 _ _ _ 8 _ Yj.nd З К К) (@Zi _ _ _ _ _ _ (@Yn _ _ _ _ _ 9 _ _ Yj.nd (@Zeg _ _ _ _ _ _ _ (Zb 6) (@Zmn _ _ _ _ _ _ T.z_int (@Zkp _ _ _ _ _ _ _ hv (Zb 8) (Zb 4)) З З З)) З К З К) (@Zz _ _ _ _ (@Yn _ _ _ _ _ 7 _ _ Yj.nd (@U6 _ _ _ _ _ _ _ (Zb 7) (@Y2 _ _ _ _ _ _ _ hu (Zb 2) (@Ul _ _ _ _ _ _ _ (@U6 _ _ _ _ _ _ _ (@Bu _ _ _ _ _ _ _ (Zb 0) (@U6 _ _ _ _ _ _ _ (Zb 8) Z2)) (Zb 9)) Z2) М)) З К З К))) Н) (@Zz _ _ _ _ (@Tz _ _ _ _ _ 5 _ _ _ _ (Zb 7) З К Й Й З З З З З З)))) Н) (@Zz _ _ _ _ (@Qo _ _ _ _ _ (Zb 5))))))))
ОL8{fd:cx}(F:Fun K "_law_rules" "_law_rules" Ou fx1 fd):
  FnOk P w K mg base Oc 1 fx1 fd ["_law_fields","_law_number"] (Y5 K 2 Q4):=by
 R Xn F Ro rfl B2 fun _ _ _ _ _ _ _ hr hu hv=>?_
 E(@Zi _ _ _ _ _ _ (@Yn _ _ _ _ _ 2 _ _ Ro.nd (@Wx _ _ _ _ _ (@Zr _ _ _ _ _ _ (@Wx _ _ _ _ _ (@Zr _ _ _ _ _ _ (@Y2 _ _ _ _ _ _ _ hu (Zb 0) (@Ul _ _ _ _ _ _ _ (@Bu _ _ _ _ _ _ _ (Zb 1) Z2) Z2) М) Yd З)) (@Zr _ _ _ _ _ _ (@Wx _ _ _ _ _ (@Zr _ _ _ _ _ _ Bc (@Zr _ _ _ _ _ _ (@Y2 _ _ _ _ _ _ _ hu (Zb 0) (@Ul _ _ _ _ _ _ _ (@Bu _ _ _ _ _ _ _ (Zb 1) Z2) Z2) М) Yd З) З)) (@Zr _ _ _ _ _ _ (@Wx _ _ _ _ _ (@Zr _ _ _ _ _ _ (@Y2 _ _ _ _ _ _ _ hu (Zb 0) Z2 М) (@Zr _ _ _ _ _ _ (@Y2 _ _ _ _ _ _ _ hu (Zb 0) Z2 М) (@Zr _ _ _ _ _ _ (@Y2 _ _ _ _ _ _ _ hu (Zb 0) Z2 М) Yd З) З) З)) (@Zr _ _ _ _ _ _ (@Wx _ _ _ _ _ (@Zr _ _ _ _ _ _ Bc Yd З)) Yd З) З) З) З)) З К З К) (@Zz _ _ _ _ (@Qo _ _ _ _ _ (@Zqe _ _ _ _ _ _ _ _ _ _ (@Wx _ _ _ _ _ (@Zr _ _ _ _ _ _ (@Y2 _ _ _ _ _ _ _ hu (Zb 2) (@Ul _ _ _ _ _ _ _ (@Bu _ _ _ _ _ _ _ (Zb 1) Z2) Z2) М) (@Zr _ _ _ _ _ _ (@Y2 _ _ _ _ _ _ _ hu (Zb 2) (@Ul _ _ _ _ _ _ _ (@Bu _ _ _ _ _ _ _ (Zb 1) Z2) Z2) М) Yd З) З)) Zmm (@Vg _ _ _ _ (@Ul _ _ _ _ _ _ _ (Zb 1) Z2))))))
ОL9{fd:cx}(F:Fun K "_law_mixed" "_law_mixed" Ov fx2 fd):
  FnOk P w K mg base Oc 1 fx2 fd ["_law_cell","_law_by"] (Y5 K 2 Yx):=by
 R Xn F L6 rfl B3 fun _ _ _ _ _ _ _ hr hu hv=>?_
 E(@Zz _ _ _ _ (@Qo _ _ _ _ _ (@Ul _ _ _ _ _ _ _ (@Zeg _ _ _ _ _ _ _ (@Ul _ _ _ _ _ _ _ (Zb 0) Z2) (Zb 1)) Z2)))
ОNa{fd:cx}(F:Fun K "_law_shelf" "_law_shelf" Ox fx3 fd){dx2:cx}(Vx2:FnOk P w K mg base Oc 1 fx2 dx2 ["_law_cell","_law_by"] (Y5 K 2 Yx))(Wx2:Ww K dx2 ["_law_cell","_law_by"] []):
  FnOk P w K mg base Oc 2 fx3 fd ["_law_keys","_law_fields","_law_cells"] (Y5 K 3 W6):=by
 R Xn F Y8 rfl B4 fun _ _ _ _ _ _ _ hr hu hv=>?_
 E(@Zi _ _ _ _ _ _ (@Yn _ _ _ _ _ 3 _ _ Y8.nd Le З К З К) (@Zi _ _ _ _ _ _ (@Jc _ _ _ _ _ _ _ _ _ dh rfl (@Gx _ _ _ _ _ _ _ _ _ T.z_enumerate (@Zr _ _ _ _ _ _ (Zb 0) Yd З) З З) (@Ty _ _ _ _ _ _ _ rfl (@Wg _ _ _ _ _ _ (@Z8 _ _ _ 4 _ Y8.nd З К К) (@Wg _ _ _ _ _ _ (@Z8 _ _ _ 5 _ Y8.nd З К К) C1 З) З) З З) (@Zi _ _ _ _ _ _ (@Yn _ _ _ _ _ 6 _ _ Y8.nd (@Yr _ _ _ _ _ _ _ _ _ _ _ _ _ _ Vx2 (hr.mono Й) T.m_2 T.k_2 Wx2 (@Zo _ _ _ _ _ _ (@U6 _ _ _ _ _ _ _ (@Y2 _ _ _ _ _ _ _ hu (Zb 2) (Zb 4) М) (Zb 4)) (@Zo _ _ _ _ _ _ Z2 Ym З) З) З Й З З) З К З К) (@Zi _ _ _ _ _ _ (@Yn _ _ _ _ _ 7 _ _ Y8.nd Le З К З К) (@Zi _ _ _ _ _ _ (@Jc _ _ _ _ _ _ _ _ _ dh rfl (@Gx _ _ _ _ _ _ _ _ _ T.z_enumerate (@Zr _ _ _ _ _ _ (@U6 _ _ _ _ _ _ _ (Zb 1) (@Wx _ _ _ _ _ (@M4 _ _ _ _ [("in",_,_),("note",_,_)] Yd))) Yd З) З З) (@Ty _ _ _ _ _ _ _ rfl (@Wg _ _ _ _ _ _ (@Z8 _ _ _ 8 _ Y8.nd З К К) (@Wg _ _ _ _ _ _ (@Z8 _ _ _ 9 _ Y8.nd З К К) C1 З) З) З З) (@Zz _ _ _ _ (@K7 _ _ _ _ _ _ _ _ _ (@Zqc _ _ _ _ _ _ _ (@Ul _ _ _ _ _ _ _ (@Bu _ _ _ _ _ _ _ (Zb 6) (@U6 _ _ _ _ _ _ _ Z2 (Zb 8))) Z2) Z2) (@Zz _ _ _ _ (@T8 _ _ _ _ _ _ _ 7 _ _ _ hu (Zb 9) (@U6 _ _ _ _ _ _ _ (@U6 _ _ _ _ _ _ _ (@U6 _ _ _ _ _ _ _ (@Y2 _ _ _ _ _ _ _ hu (@Wx _ _ _ _ _ (@M4 _ _ _ _ [("Of ",_,_),("A. ",_,_),("/ ",_,_),("(*) ",_,_),("n: ",_,_)] Yd)) (Zb 8) М) (@Zeh _ _ _ _ _ _ T.z_str (@Ul _ _ _ _ _ _ _ (Zb 6) Z2) З З З)) Bc) (@Zeh _ _ _ _ _ _ T.z_str (Zb 4) З З З)) З К Й Й З)) Oj)) Н) (@Zi _ _ _ _ _ _ (@T8 _ _ _ _ _ _ _ 7 _ _ _ hu Bc (@U6 _ _ _ _ _ _ _ (@Zmv _ _ _ _ _ _ _ _ _ hu (Zb 7) (@M4 _ _ _ _ [("in",_,_),("It",_,_)] Yd) З З З З З) Bc) З К Й Й З) (@Zi _ _ _ _ _ _ (@K7 _ _ _ _ _ _ _ _ _ (@Zqt _ _ _ _ _ _ _ hv (@Ul _ _ _ _ _ _ _ (Zb 6) Z2) Z2) (@Zz _ _ _ _ (@Zqq _ _ _ _ _ 7 _ _ _ _ Bc З К Й Й (by E⟨rfl,rfl,rfl,rfl⟩) З)) Oj) (@Zz _ _ _ _ (@T8 _ _ _ _ _ _ _ 3 _ _ _ hu (Zb 5) (@U7 _ _ _ _ _ _ (@Zr _ _ _ _ _ _ (@Y2 _ _ _ _ _ _ _ hu (@Wx _ _ _ _ _ (@M4 _ _ _ _ [("book",_,_),("part",_,_),("a",_,_)] Yd)) (@Ul _ _ _ _ _ _ _ (@Bu _ _ _ _ _ _ _ (Zb 6) Z2) Z2) М) (@Zr _ _ _ _ _ _ (Zb 7) Yd З) З)) З К Й Й З))))))) Н) (@Zz _ _ _ _ (@Qo _ _ _ _ _ (Zb 3)))))
ОXo{fd:cx}(F:Fun K "_law_due" "_law_due" Gh fx4 fd):
  FnOk P w K mg base Oc 1 fx4 fd ["_law_book","_law_shelf_here","_law_rules_here"] (Y5 K 3 Oa):=by
 R Xn F Y3 rfl Me fun _ _ _ _ _ _ _ hr hu hv=>?_
 E(@Zi _ _ _ _ _ _ (@Yn _ _ _ _ _ 3 _ _ Y3.nd (@Wx _ _ _ _ _ Yd) З К З К) (@Zi _ _ _ _ _ _ (@Jc _ _ _ _ _ _ _ _ _ dh rfl (@Um _ _ _ _ _ (@D3 _ _ _ _ _ _ rfl T.z_sorted (Zb 1) З З З)) (@Z8 _ _ _ 4 _ Y3.nd З К К) (@Zi _ _ _ _ _ _ (@Zds _ _ _ _ _ _ _ (@Y2 _ _ _ _ _ _ _ hu (Zb 1) (Zb 4) М) (@Ty _ _ _ _ _ _ _ rfl (@Wg _ _ _ _ _ _ (@Z8 _ _ _ 5 _ Y3.nd З К К) (@Wg _ _ _ _ _ _ (@Z8 _ _ _ 6 _ Y3.nd З К К) C1 З) З) З З) З З З) (@Zi _ _ _ _ _ _ (@Yn _ _ _ _ _ 7 _ _ Y3.nd (@Pg _ _ _ _ _ _ T.z_dict (Zb 6) З З З) З К З К) (@Zi _ _ _ _ _ _ (@T8 _ _ _ _ _ _ _ 7 _ _ _ hu Bc (Zb 5) З К Й Й З) (@Zi _ _ _ _ _ _ (@Yn _ _ _ _ _ 8 _ _ Y3.nd (@Wx _ _ _ _ _ Yd) З К З К) (@Zi _ _ _ _ _ _ (@Jc _ _ _ _ _ _ _ _ _ dh rfl (@Gx _ _ _ _ _ _ _ _ _ T.z_enumerate (@Zr _ _ _ _ _ _ (Zb 2) Yd З) З З) (@Ty _ _ _ _ _ _ _ rfl (@Wg _ _ _ _ _ _ (@Z8 _ _ _ 9 _ Y3.nd З К К) (@Wg _ _ _ _ _ _ (@Z8 _ _ _ 10 _ Y3.nd З К К) C1 З) З) З З) (@Zz _ _ _ _ (@K7 _ _ _ _ _ _ _ _ _ (@Zei _ _ _ _ (@Af _ _ _ _ _ _ _ hu N3 (@C2 _ _ _ _ _ _ _ _ _ _ _ _ _ _ _ rfl (Wu (N':=["_law_field","_law_all_own",".acc"]) (src:=[.own,.cap 7,.acc]) З З З З З З) (Gw 2 З З) Й (@Um _ _ _ _ _ (Zb 10)) (fun _ _ _ _=>@xg _ _ _ (fun _=>(@Z8 _ _ _ 0 _ (show(["_law_field","_law_all_own",".acc"]:А Str).Nodup by decide+kernel) З К К))) (fun _ _ _ _=>xt0) (fun _ _ _ _=>@xe _ _ _ (fun _=>(@Zks _ _ _ _ _ _ _ hu (Zb 0) (Zb 1) З))) Н) З)) (@Zz _ _ _ _ (@Tz _ _ _ _ _ 8 _ _ _ _ (@U7 _ _ _ _ _ _ (@Zr _ _ _ _ _ _ (Zb 9) (@Zr _ _ _ _ _ _ (@Hi _ _ _ _ _ _ T.z_tuple (@C2 _ _ _ _ _ _ _ _ _ _ _ _ _ _ _ rfl (Wu (N':=["_law_field","_law_all_own",".acc"]) (src:=[.own,.cap 7,.acc]) З З З З З З) (Gw 2 З З) Й (@Um _ _ _ _ _ (Zb 10)) (fun _ _ _ _=>@xg _ _ _ (fun _=>(@Z8 _ _ _ 0 _ (show(["_law_field","_law_all_own",".acc"]:А Str).Nodup by decide+kernel) З К К))) (fun _ _ _ _=>xt0) (fun _ _ _ _=>@xe _ _ _ (fun _=>(@Y2 _ _ _ _ _ _ _ hu (Zb 1) (Zb 0) М))) Н) З З З) Yd З) З)) З К Й Й З З З З З З)) Oj)) Н) (@Zi _ _ _ _ _ _ (@Yn _ _ _ _ _ 11 _ _ Y3.nd (@Wx _ _ _ _ _ Yd) З К З К) (@Zi _ _ _ _ _ _ (@Jc _ _ _ _ _ _ _ _ _ dh rfl (@Um _ _ _ _ _ (@D3 _ _ _ _ _ _ rfl T.z_sorted (Zb 7) З З З)) (@Z8 _ _ _ 12 _ Y3.nd З К К) (@Zz _ _ _ _ (@K7 _ _ _ _ _ _ _ _ _ (@Hu _ _ _ _ _ _ _ hv (Zb 12) Bc) (@Zz _ _ _ _ (@Tz _ _ _ _ _ 11 _ _ _ _ (@U7 _ _ _ _ _ _ (@Zr _ _ _ _ _ _ (Zb 12) (@Zr _ _ _ _ _ _ (@Y2 _ _ _ _ _ _ _ hu (Zb 7) (Zb 12) М) (@Zr _ _ _ _ _ _ (@Wx _ _ _ _ _ (@Zr _ _ _ _ _ _ (@U7 _ _ _ _ _ _ (@Zr _ _ _ _ _ _ (Zb 0) (@Zr _ _ _ _ _ _ (Zb 4) Yd З) З)) Yd З)) Yd З) З) З)) З К Й Й З З З З З З)) Oj)) Н) (@Zz _ _ _ _ (@Tz _ _ _ _ _ 3 _ _ _ _ (@U7 _ _ _ _ _ _ (@Zr _ _ _ _ _ _ (@Wx _ _ _ _ _ (@Zr _ _ _ _ _ _ (@U7 _ _ _ _ _ _ (@Zr _ _ _ _ _ _ (Zb 0) (@Zr _ _ _ _ _ _ (Zb 4) Yd З) З)) Yd З)) (@Zr _ _ _ _ _ _ (Zb 8) (@Zr _ _ _ _ _ _ (Zb 11) Yd З) З) З)) З К Й Й З З З З З З))))))))) Н) (@Zz _ _ _ _ (@Qo _ _ _ _ _ (Zb 3)))))
ОE1{fd:cx}(F:Fun K "holders_of" "holders_of" Ux fx5 fd):
  FnOk P w K mg base Oc 1 fx5 fd ["heaps"] (Y5 K 1 Qi):=by
 R Xn F W2 rfl O1 fun _ _ _ _ _ _ _ hr hu hv=>?_
 E(@Zi _ _ _ _ _ _ (@Yn _ _ _ _ _ 1 _ _ W2.nd D0 З К З К) (@Zi _ _ _ _ _ _ (@Jc _ _ _ _ _ _ _ _ _ dh rfl (@Gx _ _ _ _ _ _ _ _ _ T.z_enumerate (@Zr _ _ _ _ _ _ (Zb 0) Yd З) З З) (@Ty _ _ _ _ _ _ _ rfl (@Wg _ _ _ _ _ _ (@Z8 _ _ _ 2 _ W2.nd З К К) (@Wg _ _ _ _ _ _ (@Z8 _ _ _ 3 _ W2.nd З К К) C1 З) З) З З) (@Zz _ _ _ _ (@Jc _ _ _ _ _ _ _ _ _ dh rfl (@Um _ _ _ _ _ (@U6 _ _ _ _ _ _ _ (@Y2 _ _ _ _ _ _ _ hu (Zb 3) Z2 М) (@Y2 _ _ _ _ _ _ _ hu (Zb 3) Z2 М))) (@Z8 _ _ _ 4 _ W2.nd З К К) (@Zz _ _ _ _ (@Zi2 _ _ _ 1 2 _ _ _ _ _ _ _ _ _ _ _ hv (Zb 4) З К Й Й З К Й Й (by E⟨rfl,rfl,rfl,rfl⟩) З З З З З З)) Н)) Н) (@Zz _ _ _ _ (@Zm0 _ _ _ _ _ (Zb 1)))))
ОZjj{fd:cx}(F:Fun K "tied" "tied" L4 fx6 fd):
  FnOk P w K mg base Oc 1 fx6 fd ["heaps","holders","place"] (Y5 K 3 Ea):=by
 R Xn F Cf rfl Xl fun _ _ _ _ _ _ _ hr hu hv=>?_
 E(@Zi _ _ _ _ _ _ (@Yn _ _ _ _ _ 3 _ _ Cf.nd (@Zja _ _ _ _ _ 2 _ _ N3 З К Й Й) З К З К) (@Zi _ _ _ _ _ _ (@Yn _ _ _ _ _ 4 _ _ Cf.nd (@Wx _ _ _ _ _ (@Zr _ _ _ _ _ _ (Zb 2) Yd З)) З К З К) (@Zi _ _ _ _ _ _ (@Zh5 _ _ _ _ Zn6 _ _ _ dh (@Zqc _ _ _ _ _ _ _ (@Hh _ _ _ _ _ _ T.z_len (Zb 4) З З З) Z2) (@Zi _ _ _ _ _ _ (@Zi9 _ _ _ 5 0 4 _ _ _ _ _ _ _ _ _ Cf.nd (@Po _ 0 _ _ З К Й Й) (@Po _ 4 _ _ З К Й Й) З К З З З К) (@Zz _ _ _ _ (@Jc _ _ _ _ _ _ _ _ _ dh rfl (@Um _ _ _ _ _ (@U6 _ _ _ _ _ _ _ (@Y2 _ _ _ _ _ _ _ hu (Zb 5) Z2 М) (@Y2 _ _ _ _ _ _ _ hu (Zb 5) Z2 М))) (@Z8 _ _ _ 6 _ Cf.nd З К К) (@Zz _ _ _ _ (@Jc _ _ _ _ _ _ _ _ _ dh rfl (@Um _ _ _ _ _ (@Zlc _ _ _ _ _ _ _ hv (Zb 1) (Zb 6) М)) (@Z8 _ _ _ 7 _ Cf.nd З К К) (@Zz _ _ _ _ (@K7 _ _ _ _ _ _ _ _ _ (@Af _ _ _ _ _ _ _ hu (Zb 7) (Zb 3) З) (@Zi _ _ _ _ _ _ (@T8 _ _ _ _ _ _ _ 3 _ _ _ hu (Zb 7) N3 З К Й Й З) (@Zz _ _ _ _ (@Tz _ _ _ _ _ 4 _ _ _ _ (Zb 7) З К Й Й З З З З З З))) Oj)) Н)) Н)))) (@Zz _ _ _ _ (@Qo _ _ _ _ _ (@Znc _ _ _ _ _ _ rfl T.z_list (Zb 3) З З З))))))
ОE2{fd:cx}(F:Fun K "join_heaps" "join_heaps" Uy fx7 fd):
  FnOk P w K mg base Oc 1 fx7 fd ["heaps"] (Y5 K 1 Yt):=by
 R Xn F Yk rfl O4 fun _ _ _ _ _ _ _ hr hu hv=>?_
 E(@Zi _ _ _ _ _ _ (@Yn _ _ _ _ _ 1 _ _ Yk.nd (@Wx _ _ _ _ _ Yd) З К З К) (@Zi _ _ _ _ _ _ (@Yn _ _ _ _ _ 2 _ _ Yk.nd (@Wx _ _ _ _ _ Yd) З К З К) (@Zi _ _ _ _ _ _ (@Yn _ _ _ _ _ 3 _ _ Yk.nd D0 З К З К) (@Zi _ _ _ _ _ _ (@Jc _ _ _ _ _ _ _ _ _ dh rfl (@Um _ _ _ _ _ (Zb 0)) (@Z8 _ _ _ 4 _ Yk.nd З К К) (@Zi _ _ _ _ _ _ (@Zfq _ _ _ _ _ 1 _ _ _ _ (@Y2 _ _ _ _ _ _ _ hu (Zb 4) Z2 М) З К Й Й З З З З З З) (@Zi _ _ _ _ _ _ (@Zfq _ _ _ _ _ 2 _ _ _ _ (@Y2 _ _ _ _ _ _ _ hu (Zb 4) Z2 М) З К Й Й З З З З З З) (@Zz _ _ _ _ (@Jc _ _ _ _ _ _ _ _ _ dh rfl (@Um _ _ _ _ _ (@Y2 _ _ _ _ _ _ _ hu (Zb 4) Z2 М)) (@Ty _ _ _ _ _ _ _ rfl (@Wg _ _ _ _ _ _ (@Z8 _ _ _ 5 _ Yk.nd З К К) (@Wg _ _ _ _ _ _ (@Z8 _ _ _ 6 _ Yk.nd З К К) (@Wg _ _ _ _ _ _ (@Z8 _ _ _ 7 _ Yk.nd З К К) C1 З) З) З) З З) (@Zz _ _ _ _ (@Zi3 _ _ _ 3 7 _ _ _ _ _ _ _ _ _ _ _ hv (@U7 _ _ _ _ _ _ (@Zr _ _ _ _ _ _ (Zb 5) (@Zr _ _ _ _ _ _ (Zb 6) Yd З) З)) З К Й Й З К Й Й (by E⟨rfl,rfl,rfl,rfl⟩) З З З З З З)) Н)))) Н) (@Zi _ _ _ _ _ _ (@Iq _ _ _ 8 _ _ _ _ _ _ _ _ _ _ _ _ _ _ _ rfl (Wu (N':=["pair","tellers",".acc"]) (src:=[.own,.cap 3,.acc]) З З З З З З) (Gw 2 З З) Й (@Zns _ _ _ _ _ (Zb 3)) (fun _ _ _ _=>@xg _ _ _ (fun _=>(@Z8 _ _ _ 0 _ (show(["pair","tellers",".acc"]:А Str).Nodup by decide+kernel) З К К))) (fun _ _ _ _=>xt0) (fun _ _ _ _=>@xe _ _ _ (fun _=>(@U7 _ _ _ _ _ _ (@Zr _ _ _ _ _ _ (@Y2 _ _ _ _ _ _ _ hu (Zb 0) Z2 М) (@Zr _ _ _ _ _ _ (@Y2 _ _ _ _ _ _ _ hu (Zb 0) Z2 М) (@Zr _ _ _ _ _ _ (@Xc _ _ _ _ _ _ _ _ rfl hv T.z_sorted T.z_set (@Zlc _ _ _ _ _ _ _ hv (Zb 1) (Zb 0) М) З З З З З З) Yd З) З) З)))) Yk.nd З З З Н) (@Zz _ _ _ _ (@Qo _ _ _ _ _ (@U7 _ _ _ _ _ _ (@Zr _ _ _ _ _ _ (@Xc _ _ _ _ _ _ _ _ rfl hv T.z_sorted T.z_set (Zb 1) З З З З З З) (@Zr _ _ _ _ _ _ (@Xc _ _ _ _ _ _ _ _ rfl hv T.z_sorted T.z_set (Zb 2) З З З З З З) (@Zr _ _ _ _ _ _ (@Ze3 _ _ _ _ _ _ hv T.z_sorted (Zb 8) З З З) Yd З) З) З)))))))))
ОZbr{fd:cx}(F:Fun K "joined" "joined" Md fx8 fd){dx5:cx}(Vx5:FnOk P w K mg base Oc 1 fx5 dx5 ["heaps"] (Y5 K 1 Qi))(Wx5:Ww K dx5 ["heaps"] []){dx6:cx}(Vx6:FnOk P w K mg base Oc 1 fx6 dx6 ["heaps","holders","place"] (Y5 K 3 Ea))(Wx6:Ww K dx6 ["heaps","holders","place"] []){dx7:cx}(Vx7:FnOk P w K mg base Oc 1 fx7 dx7 ["heaps"] (Y5 K 1 Yt))(Wx7:Ww K dx7 ["heaps"] []):
  FnOk P w K mg base Oc 2 fx8 fd ["heaps"] (Y5 K 1 B6):=by
 R Xn F Qu rfl Ed fun _ _ _ _ _ _ _ hr hu hv=>?_
 E(@Zi _ _ _ _ _ _ (@Yn _ _ _ _ _ 1 _ _ Qu.nd (@Yr _ _ _ _ _ _ _ _ _ _ _ _ _ _ Vx5 (hr.mono Й) T.m_5 T.k_5 Wx5 (@Zo _ _ _ _ _ _ (Zb 0) Ym З) З Й З З) З К З К) (@Zi _ _ _ _ _ _ (@Yn _ _ _ _ _ 2 _ _ Qu.nd (@Wx _ _ _ _ _ Yd) З К З К) (@Zi _ _ _ _ _ _ (@Yn _ _ _ _ _ 3 _ _ Qu.nd Le З К З К) (@Zi _ _ _ _ _ _ (@Jc _ _ _ _ _ _ _ _ _ dh rfl (@Zdr _ _ _ _ _ _ _ T.z_range (@Hh _ _ _ _ _ _ T.z_len (Zb 0) З З З) З З) (@Z8 _ _ _ 4 _ Qu.nd З К К) (@Zz _ _ _ _ (@K7 _ _ _ _ _ _ _ _ _ (@Af _ _ _ _ _ _ _ hu (Zb 4) (Zb 3) З) (@Zi _ _ _ _ _ _ (@Yn _ _ _ _ _ 5 _ _ Qu.nd (@Yr _ _ _ _ _ _ _ _ _ _ _ _ _ _ Vx6 (hr.mono Й) T.m_6 T.k_6 Wx6 (@Zo _ _ _ _ _ _ (Zb 0) (@Zo _ _ _ _ _ _ (Zb 1) (@Zo _ _ _ _ _ _ (Zb 4) Ym З) З) З) З Й З З) З К З К) (@Zi _ _ _ _ _ _ (@Jc _ _ _ _ _ _ _ _ _ dh rfl (@Um _ _ _ _ _ (Zb 5)) (@Z8 _ _ _ 6 _ Qu.nd З К К) (@Zz _ _ _ _ (@T8 _ _ _ _ _ _ _ 3 _ _ _ hu (Zb 6) N3 З К Й Й З)) Н) (@Zz _ _ _ _ (@Tz _ _ _ _ _ 2 _ _ _ _ (@Yr _ _ _ _ _ _ _ _ _ _ _ _ _ _ Vx7 (hr.mono Й) T.m_7 T.k_7 Wx7 (@Zo _ _ _ _ _ _ (@C2 _ _ _ _ _ _ _ _ _ _ _ _ _ _ _ rfl (Wu (N':=["other","heaps",".acc"]) (src:=[.own,.cap 0,.acc]) З З З З З З) (Gw 2 З З) Й (@Um _ _ _ _ _ (Zb 5)) (fun _ _ _ _=>@xg _ _ _ (fun _=>(@Z8 _ _ _ 0 _ (show(["other","heaps",".acc"]:А Str).Nodup by decide+kernel) З К К))) (fun _ _ _ _=>xt0) (fun _ _ _ _=>@xe _ _ _ (fun _=>(@Y2 _ _ _ _ _ _ _ hu (Zb 1) (Zb 0) М))) Н) Ym З) З Й З З) З К Й Й З З З З З З)))) Oj)) Н) (@Zz _ _ _ _ (@Qo _ _ _ _ _ (@Ze3 _ _ _ _ _ _ hv T.z_sorted (Zb 2) З З З)))))))
ОNb{fd:cx}(F:Fun K "own_texts" "own_texts" Oy fx9 fd):
  FnOk P w K mg base Oc 1 fx9 fd ["work"] (Y5 K 1 W8):=by
 R Xn F Rp rfl B7 fun _ _ _ _ _ _ _ hr hu hv=>?_
 E(@Zi _ _ _ _ _ _ (@Yn _ _ _ _ _ 1 _ _ Rp.nd (@Pg _ _ _ _ _ _ T.z_dict (@Y2 _ _ _ _ _ _ _ hu (Zb 0) Z2 М) З З З) З К З К) (@Zi _ _ _ _ _ _ (@T8 _ _ _ _ _ _ _ 1 _ _ _ hu Bc (@Y2 _ _ _ _ _ _ _ hu (Zb 0) Z2 М) З К Й Й З) (@Zz _ _ _ _ (@Qo _ _ _ _ _ (Zb 1)))))
ОSe{fd:cx}(F:Fun K "marks_of" "marks_of" B0 fx10 fd):
  FnOk P w K mg base Oc 1 fx10 fd ["texts","rules"] (Y5 K 2 Uf):=by
 R Xn F Uq rfl Gj fun _ _ _ _ _ _ _ hr hu hv=>?_
 E(@Zi _ _ _ _ _ _ (@Yn _ _ _ _ _ 2 _ _ Uq.nd (@Wx _ _ _ _ _ Yd) З К З К) (@Zi _ _ _ _ _ _ (@Jc _ _ _ _ _ _ _ _ _ dh rfl (@Gx _ _ _ _ _ _ _ _ _ T.z_enumerate (@Zr _ _ _ _ _ _ (Zb 1) Yd З) З З) (@Ty _ _ _ _ _ _ _ rfl (@Wg _ _ _ _ _ _ (@Z8 _ _ _ 3 _ Uq.nd З К К) (@Wg _ _ _ _ _ _ (@Z8 _ _ _ 4 _ Uq.nd З К К) C1 З) З) З З) (@Zz _ _ _ _ (@K7 _ _ _ _ _ _ _ _ _ (@Zdp _ _ _ _ (@Zqi _ _ _ _ _ _ T.z_all (@C2 _ _ _ _ _ _ _ _ _ _ _ _ _ _ _ rfl (Wu (N':=["field","texts",".acc"]) (src:=[.own,.cap 0,.acc]) З З З З З З) (Gw 2 З З) Й (@Um _ _ _ _ _ (Zb 4)) (fun _ _ _ _=>@xg _ _ _ (fun _=>(@Z8 _ _ _ 0 _ (show(["field","texts",".acc"]:А Str).Nodup by decide+kernel) З К К))) (fun _ _ _ _=>xt0) (fun _ _ _ _=>@xe _ _ _ (fun _=>(@Zks _ _ _ _ _ _ _ hu (Zb 0) (Zb 1) З))) Н) З З З З) Н) (@Zz _ _ _ _ (@Tz _ _ _ _ _ 2 _ _ _ _ (@U7 _ _ _ _ _ _ (@Zr _ _ _ _ _ _ (Zb 3) (@Zr _ _ _ _ _ _ (@Hi _ _ _ _ _ _ T.z_tuple (@C2 _ _ _ _ _ _ _ _ _ _ _ _ _ _ _ rfl (Wu (N':=["field","texts",".acc"]) (src:=[.own,.cap 0,.acc]) З З З З З З) (Gw 2 З З) Й (@Um _ _ _ _ _ (Zb 4)) (fun _ _ _ _=>@xg _ _ _ (fun _=>(@Z8 _ _ _ 0 _ (show(["field","texts",".acc"]:А Str).Nodup by decide+kernel) З К К))) (fun _ _ _ _=>xt0) (fun _ _ _ _=>@xe _ _ _ (fun _=>(@Y2 _ _ _ _ _ _ _ hu (Zb 1) (Zb 0) М))) Н) З З З) Yd З) З)) З К Й Й З З З З З З)) Oj)) Н) (@Zz _ _ _ _ (@Qo _ _ _ _ _ (Zb 2)))))
ОNc{fd:cx}(F:Fun K "lone_heap" "lone_heap" Oz fx11 fd){dx9:cx}(Vx9:FnOk P w K mg base Oc 1 fx9 dx9 ["work"] (Y5 K 1 W8))(Wx9:Ww K dx9 ["work"] []){dx10:cx}(Vx10:FnOk P w K mg base Oc 1 fx10 dx10 ["texts","rules"] (Y5 K 2 Uf))(Wx10:Ww K dx10 ["texts","rules"] []):
  FnOk P w K mg base Oc 2 fx11 fd ["name","work","rules"] (Y5 K 3 W9):=by
 R Xn F O5 rfl B8 fun _ _ _ _ _ _ _ hr hu hv=>?_
 E(@Zi _ _ _ _ _ _ (@Yn _ _ _ _ _ 3 _ _ O5.nd (@Yr _ _ _ _ _ _ _ _ _ _ _ _ _ _ Vx9 (hr.mono Й) T.m_9 T.k_9 Wx9 (@Zo _ _ _ _ _ _ (Zb 1) Ym З) З Й З З) З К З К) (@Zi _ _ _ _ _ _ (@Iq _ _ _ 4 _ _ _ _ _ _ _ _ _ _ _ _ _ _ _ rfl (Wu (N':=["field","texts","name",".acc"]) (src:=[.own,.cap 3,.cap 0,.acc]) З З З З З З) (Gw 3 З З) Й (@Zkv _ _ _ _ _ (Zb 3)) (fun _ _ _ _=>@xg _ _ _ (fun _=>(@Z8 _ _ _ 0 _ (show(["field","texts","name",".acc"]:А Str).Nodup by decide+kernel) З К К))) (fun _ _ _ _=>@xt _ _ _ (fun _=>(@Hu _ _ _ _ _ _ _ hv (Zb 0) Bc))) (fun _ _ _ _=>@xe _ _ _ (fun _=>(@U7 _ _ _ _ _ _ (@Zr _ _ _ _ _ _ (Zb 0) (@Zr _ _ _ _ _ _ (@Y2 _ _ _ _ _ _ _ hu (Zb 1) (Zb 0) М) (@Zr _ _ _ _ _ _ (@Wx _ _ _ _ _ (@Zr _ _ _ _ _ _ (Zb 2) Yd З)) Yd З) З) З)))) O5.nd З З З Н) (@Zz _ _ _ _ (@Qo _ _ _ _ _ (@U7 _ _ _ _ _ _ (@Zr _ _ _ _ _ _ (@Wx _ _ _ _ _ (@Zr _ _ _ _ _ _ (Zb 0) Yd З)) (@Zr _ _ _ _ _ _ (@Yr _ _ _ _ _ _ _ _ _ _ _ _ _ _ Vx10 (hr.mono Й) T.m_10 T.k_10 Wx10 (@Zo _ _ _ _ _ _ (Zb 3) (@Zo _ _ _ _ _ _ (Zb 2) Ym З) З) З Й З З) (@Zr _ _ _ _ _ _ (Zb 4) Yd З) З) З))))))
ОXp{fd:cx}(F:Fun K "pool_of" "pool_of" Gi fx12 fd){dx8:cx}(Vx8:FnOk P w K mg base Oc 2 fx8 dx8 ["heaps"] (Y5 K 1 B6))(Wx8:Ww K dx8 ["heaps"] []){dx11:cx}(Vx11:FnOk P w K mg base Oc 2 fx11 dx11 ["name","work","rules"] (Y5 K 3 W9))(Wx11:Ww K dx11 ["name","work","rules"] []):
  FnOk P w K mg base Oc 3 fx12 fd ["book","shelf","rules"] (Y5 K 3 Qt):=by
 R Xn F Xm rfl Mf fun _ _ _ _ _ _ _ hr hu hv=>?_
 E(@Zz _ _ _ _ (@Qo _ _ _ _ _ (@Yr _ _ _ _ _ _ _ _ _ _ _ _ _ _ Vx8 (hr.mono Й) T.m_8 T.k_8 Wx8 (@Zo _ _ _ _ _ _ (@C2 _ _ _ _ _ _ _ _ _ _ _ _ _ _ _ rfl (Wu (N':=["key","rules","book","shelf",".acc"]) (src:=[.own,.cap 2,.cap 0,.cap 1,.acc]) З З З З З З) (Gw 4 З З) Й (@Zkv _ _ _ _ _ (Zb 1)) (fun _ _ _ _=>@xg _ _ _ (fun _=>(@Z8 _ _ _ 0 _ (show(["key","rules","book","shelf",".acc"]:А Str).Nodup by decide+kernel) З К К))) (fun _ _ _ _=>xt0) (fun _ _ _ _=>@xe _ _ _ (fun _=>(@Yr _ _ _ _ _ _ _ _ _ _ _ _ _ _ Vx11 (hr.mono Й) T.m_11 T.k_11 Wx11 (@Zo _ _ _ _ _ _ (@U7 _ _ _ _ _ _ (@Zr _ _ _ _ _ _ (Zb 2) (@Zr _ _ _ _ _ _ (Zb 0) Yd З) З)) (@Zo _ _ _ _ _ _ (@Y2 _ _ _ _ _ _ _ hu (Zb 3) (Zb 0) М) (@Zo _ _ _ _ _ _ (Zb 1) Ym З) З) З) З Й З З))) Н) Ym З) З Й З З)))
ОEf{fd:cx}(F:Fun K "_law_cell_at" "_law_cell_at" Ub fx13 fd):
  FnOk P w K mg base Oc 1 fx13 fd ["_law_script","_law_k"] (Y5 K 2 Z6):=by
 R Xn F Ee rfl Q0 fun _ _ _ _ _ _ _ hr hu hv=>?_
 E(@Zi _ _ _ _ _ _ (@K7 _ _ _ _ _ _ _ _ _ (@Zuv _ _ _ _ _ _ _ (Zb 1) (@Hh _ _ _ _ _ _ T.z_len (Zb 0) З З З)) (@Zz _ _ _ _ (@Qo _ _ _ _ _ (@Y2 _ _ _ _ _ _ _ hu (Zb 0) (Zb 1) М))) Oj) (@Zz _ _ _ _ (@Qo _ _ _ _ _ Z2)))
ОZn7{fd:cx}(F:Fun K "law" "law" O0 fx14 fd){dx0:cx}(Vx0:FnOk P w K mg base Oc 1 fx0 dx0 ["_law_number","_law_many"] (Y5 K 2 Yw))(Wx0:Ww K dx0 ["_law_number","_law_many"] []){dx1:cx}(Vx1:FnOk P w K mg base Oc 1 fx1 dx1 ["_law_fields","_law_number"] (Y5 K 2 Q4))(Wx1:Ww K dx1 ["_law_fields","_law_number"] []){dx2:cx}(Vx2:FnOk P w K mg base Oc 1 fx2 dx2 ["_law_cell","_law_by"] (Y5 K 2 Yx))(Wx2:Ww K dx2 ["_law_cell","_law_by"] []){dx3:cx}(Vx3:FnOk P w K mg base Oc 2 fx3 dx3 ["_law_keys","_law_fields","_law_cells"] (Y5 K 3 W6))(Wx3:Ww K dx3 ["_law_keys","_law_fields","_law_cells"] []){dx4:cx}(Vx4:FnOk P w K mg base Oc 1 fx4 dx4 ["_law_book","_law_shelf_here","_law_rules_here"] (Y5 K 3 Oa))(Wx4:Ww K dx4 ["_law_book","_law_shelf_here","_law_rules_here"] []){dx12:cx}(Vx12:FnOk P w K mg base Oc 3 fx12 dx12 ["book","shelf","rules"] (Y5 K 3 Qt))(Wx12:Ww K dx12 ["book","shelf","rules"] []){dx13:cx}(Vx13:FnOk P w K mg base Oc 1 fx13 dx13 ["_law_script","_law_k"] (Y5 K 2 Z6))(Wx13:Ww K dx13 ["_law_script","_law_k"] []):
  FnOk P w K mg base Oc 4 fx14 fd ["_law_script"] (Y5 K 1 Rn):=by
 R Xn F Uz rfl Zgc fun _ _ _ _ _ _ _ hr hu hv=>?_
 E(@Zi _ _ _ _ _ _ (@Yn _ _ _ _ _ 1 _ _ Uz.nd (@Zqe _ _ _ _ _ _ _ _ _ _ (Zb 0) (@Vg _ _ _ _ Z2) (@Vg _ _ _ _ Z2)) З К З К) (@Zi _ _ _ _ _ _ (@Yn _ _ _ _ _ 2 _ _ Uz.nd (@Yr _ _ _ _ _ _ _ _ _ _ _ _ _ _ Vx0 (hr.mono Й) T.m_0 T.k_0 Wx0 (@Zo _ _ _ _ _ _ (@Yr _ _ _ _ _ _ _ _ _ _ _ _ _ _ Vx2 (hr.mono Й) T.m_2 T.k_2 Wx2 (@Zo _ _ _ _ _ _ (@Yr _ _ _ _ _ _ _ _ _ _ _ _ _ _ Vx13 (hr.mono Й) T.m_13 T.k_13 Wx13 (@Zo _ _ _ _ _ _ (Zb 0) (@Zo _ _ _ _ _ _ Z2 Ym З) З) З Й З З) (@Zo _ _ _ _ _ _ Z2 Ym З) З) З Й З З) (@Zo _ _ _ _ _ _ (@Hh _ _ _ _ _ _ T.z_len (Zb 1) З З З) Ym З) З) З Й З З) З К З К) (@Zi _ _ _ _ _ _ (@Yn _ _ _ _ _ 3 _ _ Uz.nd (@Yr _ _ _ _ _ _ _ _ _ _ _ _ _ _ Vx0 (hr.mono Й) T.m_0 T.k_0 Wx0 (@Zo _ _ _ _ _ _ (@Yr _ _ _ _ _ _ _ _ _ _ _ _ _ _ Vx2 (hr.mono Й) T.m_2 T.k_2 Wx2 (@Zo _ _ _ _ _ _ (@Yr _ _ _ _ _ _ _ _ _ _ _ _ _ _ Vx13 (hr.mono Й) T.m_13 T.k_13 Wx13 (@Zo _ _ _ _ _ _ (Zb 0) (@Zo _ _ _ _ _ _ Z2 Ym З) З) З Й З З) (@Zo _ _ _ _ _ _ Z2 Ym З) З) З Й З З) (@Zo _ _ _ _ _ _ Z2 Ym З) З) З Й З З) З К З К) (@Zi _ _ _ _ _ _ (@Yn _ _ _ _ _ 4 _ _ Uz.nd (@Y2 _ _ _ _ _ _ _ hu (@Yr _ _ _ _ _ _ _ _ _ _ _ _ _ _ Vx0 (hr.mono Й) T.m_0 T.k_0 Wx0 (@Zo _ _ _ _ _ _ (@Yr _ _ _ _ _ _ _ _ _ _ _ _ _ _ Vx2 (hr.mono Й) T.m_2 T.k_2 Wx2 (@Zo _ _ _ _ _ _ (@Yr _ _ _ _ _ _ _ _ _ _ _ _ _ _ Vx13 (hr.mono Й) T.m_13 T.k_13 Wx13 (@Zo _ _ _ _ _ _ (Zb 0) (@Zo _ _ _ _ _ _ Z2 Ym З) З) З Й З З) (@Zo _ _ _ _ _ _ Z2 Ym З) З) З Й З З) (@Zo _ _ _ _ _ _ Z2 Ym З) З) З Й З З) Z2 М) З К З К) (@Zi _ _ _ _ _ _ (@Yn _ _ _ _ _ 5 _ _ Uz.nd (@Yr _ _ _ _ _ _ _ _ _ _ _ _ _ _ Vx1 (hr.mono Й) T.m_1 T.k_1 Wx1 (@Zo _ _ _ _ _ _ (Zb 3) (@Zo _ _ _ _ _ _ (@Yr _ _ _ _ _ _ _ _ _ _ _ _ _ _ Vx2 (hr.mono Й) T.m_2 T.k_2 Wx2 (@Zo _ _ _ _ _ _ (@Yr _ _ _ _ _ _ _ _ _ _ _ _ _ _ Vx13 (hr.mono Й) T.m_13 T.k_13 Wx13 (@Zo _ _ _ _ _ _ (Zb 0) (@Zo _ _ _ _ _ _ Z2 Ym З) З) З Й З З) (@Zo _ _ _ _ _ _ Z2 Ym З) З) З Й З З) Ym З) З) З Й З З) З К З К) (@Zi _ _ _ _ _ _ (@Yn _ _ _ _ _ 6 _ _ Uz.nd (@Yr _ _ _ _ _ _ _ _ _ _ _ _ _ _ Vx3 (hr.mono Й) T.m_3 T.k_3 Wx3 (@Zo _ _ _ _ _ _ (Zb 2) (@Zo _ _ _ _ _ _ (Zb 3) (@Zo _ _ _ _ _ _ (Zb 1) Ym З) З) З) З Й З З) З К З К) (@Zi _ _ _ _ _ _ (@Yn _ _ _ _ _ 7 _ _ Uz.nd (@Yr _ _ _ _ _ _ _ _ _ _ _ _ _ _ Vx4 (hr.mono Й) T.m_4 T.k_4 Wx4 (@Zo _ _ _ _ _ _ (Zb 4) (@Zo _ _ _ _ _ _ (Zb 6) (@Zo _ _ _ _ _ _ (Zb 5) Ym З) З) З) З Й З З) З К З К) (@Zfy _ _ _ _ _ _ _ _ _ _ _ _ _ _ _ _ _ _ (@Znf _ _ _ _ 8 _ _ _ _ _ _ _ _ _ _ _ _ _ Vx12 (hr.mono Й) T.m_12 T.k_12 Wx12 Uz.nd (@Zr _ _ _ _ _ _ (Zb 4) (@Zr _ _ _ _ _ _ (Zb 6) (@Zr _ _ _ _ _ _ (Zb 5) Yd З) З) З) З Й З З З К З К) (@Zri _ _ _ _ _ _ _ (@PW.pt _ _ _ (@Zqd _ _ _ _ _ _ _ _ (@Zkk _ _ _ _ _ (@Zdp _ _ _ _ (@Zdq _ _ _ _ _ _ _ _ _ T.z_isinstance T.z_list boot_list (N4 _) (Zb 8) З З Й Й З З З) Н)) (@Zkj _ _ _ _ _ (@Hu _ _ _ _ _ _ _ hv (Zb 8) (Zb 7))))) (@Zz _ _ _ _ (@Qo _ _ _ _ _ N3))) (@Znw _ _ _ 9 _ _ _ _ _ _ _ _ _ dh rfl Uz.nd (@Po _ 8 _ _ З К Й Й) (@Zri _ _ _ _ _ _ _ (@PW.pt _ _ _ (@Zqd _ _ _ _ _ _ _ _ (@Zkk _ _ _ _ _ (@Zdp _ _ _ _ (@Zdq _ _ _ _ _ _ _ _ _ T.z_isinstance T.z_tuple boot_tuple (Za3 _) (Zb 9) З З Й Й З З З) Н)) (@Zkj _ _ _ _ _ (@Zei _ _ _ _ (@Zqx _ _ _ _ _ _ _ hu N3 (@C2 _ _ _ _ _ _ _ _ _ _ _ _ _ _ _ rfl (Wu (N':=["_law_part",".acc"]) (src:=[.own,.acc]) З З З З З З) (Gw 1 З З) Й (@Um _ _ _ _ _ (Zb 9)) (fun _ _ _ _=>@xg _ _ _ (fun _=>(@Z8 _ _ _ 0 _ (show(["_law_part",".acc"]:А Str).Nodup by decide+kernel) З К К))) (fun _ _ _ _=>xt0) (fun _ _ _ _=>@xe _ _ _ (fun _=>(@Zdq _ _ _ _ _ _ _ _ _ T.z_isinstance T.z_list boot_list (N4 _) (Zb 0) З З Й Й З З З))) Н) З))))) (@Zz _ _ _ _ (@Qo _ _ _ _ _ N3))) (@Znx _ _ 9 _ _ _ _ _ _ _ _ _ _ _ _ _ _ _ (@Po _ 9 _ _ З К Й Й) З З З З З З З З) (@Zny _ _ 9 _ _ _ _ _ _ _ (@Po _ 9 _ _ З К Й Й) З З З) З К К Н) (@Zi _ _ _ _ _ _ (@K7 _ _ _ _ _ _ _ _ _ (@Hu _ _ _ _ _ _ _ hv (@Yr _ _ _ _ _ _ _ _ _ _ _ _ _ _ Vx12 (hr.mono Й) T.m_12 T.k_12 Wx12 (@Zo _ _ _ _ _ _ (Zb 4) (@Zo _ _ _ _ _ _ (Zb 6) (@Zo _ _ _ _ _ _ (Zb 5) Ym З) З) З) З Й З З) (Zb 7)) (@Zz _ _ _ _ (@Qo _ _ _ _ _ N3)) Oj) (@Zz _ _ _ _ (@Qo _ _ _ _ _ (@Zkp _ _ _ _ _ _ _ hv (Zb 6) (@Yr _ _ _ _ _ _ _ _ _ _ _ _ _ _ Vx3 (hr.mono Й) T.m_3 T.k_3 Wx3 (@Zo _ _ _ _ _ _ (Zb 2) (@Zo _ _ _ _ _ _ (Zb 3) (@Zo _ _ _ _ _ _ (Zb 1) Ym З) З) З) З Й З З)))))))))))))
end
ОZn8{l:PySem.W.OpenLaw}{w:cj}{K:af}{h:dr}{mg:Str->Б ah}{fa fx0 fx1 fx2 fx3 fx4 fx5 fx6 fx7 fx8 fx9 fx10 fx11 fx12 fx13 fx14:am}(X:K.In h)(G:h.Ns b6 mg)(hfa:mg "law"=some (.ref fa))
  {odx14 anx14:Б am} {slx14:Array (Б ah)} {ocx14 kVx14 dcx14 pmx14 cdx14 ctx14:ah}
  (ax0:cy K b6 "_law_names"=some (some (.ref fx0))) (Fx0:∃fd,Fun K "_law_names" "_law_names" Ot fx0 fd) (kx0:bq K (.ref fx0)=true)
  (ax1:cy K b6 "_law_rules"=some (some (.ref fx1))) (Fx1:∃fd,Fun K "_law_rules" "_law_rules" Ou fx1 fd) (kx1:bq K (.ref fx1)=true)
  (ax2:cy K b6 "_law_mixed"=some (some (.ref fx2))) (Fx2:∃fd,Fun K "_law_mixed" "_law_mixed" Ov fx2 fd) (kx2:bq K (.ref fx2)=true)
  (ax3:cy K b6 "_law_shelf"=some (some (.ref fx3))) (Fx3:∃fd,Fun K "_law_shelf" "_law_shelf" Ox fx3 fd) (kx3:bq K (.ref fx3)=true)
  (ax4:cy K b6 "_law_due"=some (some (.ref fx4))) (Fx4:∃fd,Fun K "_law_due" "_law_due" Gh fx4 fd) (kx4:bq K (.ref fx4)=true)
  (ax5:cy K b6 "holders_of"=some (some (.ref fx5))) (Fx5:∃fd,Fun K "holders_of" "holders_of" Ux fx5 fd) (kx5:bq K (.ref fx5)=true)
  (ax6:cy K b6 "tied"=some (some (.ref fx6))) (Fx6:∃fd,Fun K "tied" "tied" L4 fx6 fd) (kx6:bq K (.ref fx6)=true)
  (ax7:cy K b6 "join_heaps"=some (some (.ref fx7))) (Fx7:∃fd,Fun K "join_heaps" "join_heaps" Uy fx7 fd) (kx7:bq K (.ref fx7)=true)
  (ax8:cy K b6 "joined"=some (some (.ref fx8))) (Fx8:∃fd,Fun K "joined" "joined" Md fx8 fd) (kx8:bq K (.ref fx8)=true)
  (ax9:cy K b6 "own_texts"=some (some (.ref fx9))) (Fx9:∃fd,Fun K "own_texts" "own_texts" Oy fx9 fd) (kx9:bq K (.ref fx9)=true)
  (ax10:cy K b6 "marks_of"=some (some (.ref fx10))) (Fx10:∃fd,Fun K "marks_of" "marks_of" B0 fx10 fd) (kx10:bq K (.ref fx10)=true)
  (ax11:cy K b6 "lone_heap"=some (some (.ref fx11))) (Fx11:∃fd,Fun K "lone_heap" "lone_heap" Oz fx11 fd) (kx11:bq K (.ref fx11)=true)
  (ax12:cy K b6 "pool_of"=some (some (.ref fx12))) (Fx12:∃fd,Fun K "pool_of" "pool_of" Gi fx12 fd) (kx12:bq K (.ref fx12)=true)
  (ax13:cy K b6 "_law_cell_at"=some (some (.ref fx13))) (Fx13:∃fd,Fun K "_law_cell_at" "_law_cell_at" Ub fx13 fd) (kx13:bq K (.ref fx13)=true)
  (ax14:cy K b6 "law"=some (some (.ref fx14))) (lx14:K.lookup fx14=some ⟨ocx14,odx14,.func (PySem.W.fnOf "law" "law" (Oh O0) (Jf O0) (Zx O0) .none kVx14 dcx14 pmx14 anx14 cdx14 ctx14),slx14⟩) (cx14:PySem.W.codeIn K cdx14 "law"=true) (kx14:bq K (.ref fx14)=true)
  (zall:cy K b6 "all"=some none)
  (zdict:cy K b6 "dict"=some none)
  (zenumerate:cy K b6 "enumerate"=some none)
  (zint:cy K b6 "int"=some none)
  (zisinstance:cy K b6 "isinstance"=some none)
  (zlen:cy K b6 "len"=some none)
  (zlist:cy K b6 "list"=some none)
  (zrange:cy K b6 "range"=some none)
  (zset:cy K b6 "set"=some none)
  (zsorted:cy K b6 "sorted"=some none)
  (zstr:cy K b6 "str"=some none)
  (ztuple:cy K b6 "tuple"=some none)
  :∃fd:cx,(∀(s:ak) (v:ah),BindsTo s fd ⟨[v],[]⟩ [("_law_script",v)])/\∀base:dr,K.In base->base.Ns b6 mg->FnOk l.prog w K mg base Oc 4 fa fd ["_law_script"] (Y5 K 1 Rn):=by
 have e:=hfa.symm.trans (gd X G ax14)
 C e
 have T:Txt K mg fx0 fx1 fx2 fx3 fx4 fx5 fx6 fx7 fx8 fx9 fx10 fx11 fx12 fx13 _:=⟨fg X G zall,fg X G zdict,fg X G zenumerate,fg X G zint,fg X G zisinstance,fg X G zlen,fg X G zlist,fg X G zrange,fg X G zset,fg X G zsorted,fg X G zstr,fg X G ztuple,gd X G ax0,kx0,gd X G ax1,kx1,gd X G ax2,kx2,gd X G ax3,kx3,gd X G ax4,kx4,gd X G ax5,kx5,gd X G ax6,kx6,gd X G ax7,kx7,gd X G ax8,kx8,gd X G ax9,kx9,gd X G ax10,kx10,gd X G ax11,kx11,gd X G ax12,kx12,gd X G ax13,kx13,gd X G ax14,kx14⟩
 O⟨_,Fx0⟩:=Fx0
 O⟨_,Fx1⟩:=Fx1
 O⟨_,Fx2⟩:=Fx2
 O⟨_,Fx3⟩:=Fx3
 O⟨_,Fx4⟩:=Fx4
 O⟨_,Fx5⟩:=Fx5
 O⟨_,Fx6⟩:=Fx6
 O⟨_,Fx7⟩:=Fx7
 O⟨_,Fx8⟩:=Fx8
 O⟨_,Fx9⟩:=Fx9
 O⟨_,Fx10⟩:=Fx10
 O⟨_,Fx11⟩:=Fx11
 O⟨_,Fx12⟩:=Fx12
 O⟨_,Fx13⟩:=Fx13
 have Fx14:=W4 (st:=O0) lx14 cx14 kx14
 have bx0:=Fx0.binds (ps:=["_law_number","_law_many"]) fun _ _ _ _ _ _ us hl=>of2 (fun _ _=>rfl) us hl
 have bx1:=Fx1.binds (ps:=["_law_fields","_law_number"]) fun _ _ _ _ _ _ us hl=>of2 (fun _ _=>rfl) us hl
 have bx2:=Fx2.binds (ps:=["_law_cell","_law_by"]) fun _ _ _ _ _ _ us hl=>of2 (fun _ _=>rfl) us hl
 have bx3:=Fx3.binds (ps:=["_law_keys","_law_fields","_law_cells"]) fun _ _ _ _ _ _ us hl=>of3 (fun _ _ _=>rfl) us hl
 have bx4:=Fx4.binds (ps:=["_law_book","_law_shelf_here","_law_rules_here"]) fun _ _ _ _ _ _ us hl=>of3 (fun _ _ _=>rfl) us hl
 have bx5:=Fx5.binds (ps:=["heaps"]) fun _ _ _ _ _ _ us hl=>of1 (fun _=>rfl) us hl
 have bx6:=Fx6.binds (ps:=["heaps","holders","place"]) fun _ _ _ _ _ _ us hl=>of3 (fun _ _ _=>rfl) us hl
 have bx7:=Fx7.binds (ps:=["heaps"]) fun _ _ _ _ _ _ us hl=>of1 (fun _=>rfl) us hl
 have bx8:=Fx8.binds (ps:=["heaps"]) fun _ _ _ _ _ _ us hl=>of1 (fun _=>rfl) us hl
 have bx9:=Fx9.binds (ps:=["work"]) fun _ _ _ _ _ _ us hl=>of1 (fun _=>rfl) us hl
 have bx10:=Fx10.binds (ps:=["texts","rules"]) fun _ _ _ _ _ _ us hl=>of2 (fun _ _=>rfl) us hl
 have bx11:=Fx11.binds (ps:=["name","work","rules"]) fun _ _ _ _ _ _ us hl=>of3 (fun _ _ _=>rfl) us hl
 have bx12:=Fx12.binds (ps:=["book","shelf","rules"]) fun _ _ _ _ _ _ us hl=>of3 (fun _ _ _=>rfl) us hl
 have bx13:=Fx13.binds (ps:=["_law_script","_law_k"]) fun _ _ _ _ _ _ us hl=>of2 (fun _ _=>rfl) us hl
 R⟨PySem.W.fnOf "law" "law" (Oh O0) (Jf O0) (Zx O0) .none kVx14 dcx14 pmx14 anx14 cdx14 ctx14,fun s v=>.of_eq rfl,fun base kb nb=>?_⟩
 have Gx0:=L7 (P:=l.prog) (w:=w) (base:=base) T Fx0
 have Gx1:=L8 (P:=l.prog) (w:=w) (base:=base) T Fx1
 have Gx2:=L9 (P:=l.prog) (w:=w) (base:=base) T Fx2
 have Gx3:=Na (P:=l.prog) (w:=w) (base:=base) T Fx3 Gx2 bx2
 have Gx4:=Xo (P:=l.prog) (w:=w) (base:=base) T Fx4
 have Gx5:=E1 (P:=l.prog) (w:=w) (base:=base) T Fx5
 have Gx6:=Zjj (P:=l.prog) (w:=w) (base:=base) T Fx6
 have Gx7:=E2 (P:=l.prog) (w:=w) (base:=base) T Fx7
 have Gx8:=Zbr (P:=l.prog) (w:=w) (base:=base) T Fx8 Gx5 bx5 Gx6 bx6 Gx7 bx7
 have Gx9:=Nb (P:=l.prog) (w:=w) (base:=base) T Fx9
 have Gx10:=Se (P:=l.prog) (w:=w) (base:=base) T Fx10
 have Gx11:=Nc (P:=l.prog) (w:=w) (base:=base) T Fx11 Gx9 bx9 Gx10 bx10
 have Gx12:=Xp (P:=l.prog) (w:=w) (base:=base) T Fx12 Gx8 bx8 Gx11 bx11
 have Gx13:=Ef (P:=l.prog) (w:=w) (base:=base) T Fx13
 E Zn7 T Fx14 Gx0 bx0 Gx1 bx1 Gx2 bx2 Gx3 bx3 Gx4 bx4 Gx12 bx12 Gx13 bx13
ОZn9{K:af}{H:Hp}{a:am}{ns:А Int}(hn:Rn [.lst (ns.map D.int)]=some (.fz (.bl true)))(hO:Zc3 H)(hS:Ws K H a (ns.map V.int)):Y5 K 1 Rn [.ref a] H (fun v _=>v= .bl true) fun _ _ _=>False:=by
 R⟨H,[.lst (ns.map D.int)],.fz (.bl true),Zf.refl H,.cons (.lst hS (.inr fun d hd=>let⟨i,_,e⟩:=a6.mp hd;⟨i,e.symm⟩) (N5 ns)) .nil,rfl,hn,fun v H' F' ms _ _ _ _ sh _ _=>?_⟩
 cases Q2 sh
 rfl
ОZwd{l:PySem.W.OpenLaw}{q:bu}{loose:А Str}{XP:(Str->Б ah)->dr->В}{YP:cj->dr->В}{d:DefRec}{K:Params->af}(hn:l.most=some 63)(hdf:d.params.defaults=[])
  (hY:∀(w:cj) (h:dr),YP w h->(K w.params).In h)
  (F:∀(w:cj) (mg:Str->Б ah) (fa:am) (h:dr),(K w.params).In h->h.Ns b6 mg->mg d.name=some (.ref fa)->
   ∃fd:cx,(∀(s:ak) (u:ah),BindsTo s fd ⟨[u],[]⟩ [("_law_script",u)])/\∀base:dr,(K w.params).In base->base.Ns b6 mg->FnOk l.prog w (K w.params) mg base Oc 4 fa fd ["_law_script"] (Y5 (K w.params) 1 Rn))
  (hlaw:∀ns:А Int,ns.length<=63->Rn [.lst (ns.map D.int)]=some (.fz (.bl true))):
  PySem.W.WalkO q loose XP YP l.row.toRowW d [] (fun f vs=>PySem.call f vs):=
 L2.Zc5 (n:=63) (k:=4) (x:="_law_script") (CX:=Oc) (sp:=fun K=>Y5 K 1 Rn) hn Й hdf ⟨rfl,by decide,by decide⟩ hY F (fun _ _ _ ns hl hO hS=>Zn9 (hlaw ns hl) hO hS) fun _ _ _ _ z=>z
end Gen
namespace My
open DL PySem
noncomputable abbrev Ob:Str:="abcdefghjlmpqrstuvwxyz"
ОZgd:Ob.cps.toList.length=22:=by decide+kernel
ОFq:Ob.length<=PySem.sizeLine:=by decide+kernel
ПLC(j:Г):Nat:=Ob.cps.toList.getD j 0
ОZoa:∀i<22,∀j<22,LC i=LC j->i=j:=by decide+kernel
ОZob:∀i<22,LC i≠105/\LC i≠110/\LC i≠111:=by decide+kernel
ОZr6(i:Int):L2.atI Ob.cps.toList (i % 22)=some (LC (i % 22).toNat):=by
 have h0:0<=i % 22:=fw _ Й
 have h1:i % 22<22:=dw _ Й
 O⟨j,hj⟩:=Int.eq_ofNat_of_zero_le h0
 rw[hj]
 have hjl:j<Ob.cps.toList.length:=by rw[Zgd];W
 R Zfz _ _ _ ?_
 unfold LC
 rw[bz,show((j:Int)).toNat=j by W,az hjl]
 rfl
Пsgn(x:Int)(at':Int)(t:Г)(k:Г):Nat:=LC ((x / ((k:Int)+2)+(t:Int)*(if(k:Int)=at' then 1 else 0)) % 22).toNat
ПNg(x at':Int)(size t:Г):А Nat:=(cr size).map (sgn x at' t)
ОZbs(a1 a3 a5:Б SV)(x at':Int)(t k:Г)(hk:k<=100)(w:А Г)(hw:w.length<=1000)(x9:Б SV):
  ∃y9,Gen.Y9 [some (.fz (.int x)),a1,some (.fz (.str Ob)),a3,some (.fz (.int at')),a5,some (.fz (.int (t:Int))),some (.fz (.str (S w))),some (.fz (.int (k:Int))),x9]=some (.nx [some (.fz (.int x)),a1,some (.fz (.str Ob)),a3,some (.fz (.int at')),a5,some (.fz (.int (t:Int))),some (.fz (.str (S (w++[sgn x at' t k])))),some (.fz (.int (k:Int))),y9]):=by
 have go:∀ki ti:Int,0<=ki->ki<=100->∀b:Int,(b=0\/b=1)->(if ki=at' then(1:Int)else 0)=b->∀ch,L2.atI Ob.cps.toList ((x / (ki+2)+ti*b) % 22)=some ch->
   Gen.Y9 [some (.fz (.int x)),a1,some (.fz (.str Ob)),a3,some (.fz (.int at')),a5,some (.fz (.int ti)),some (.fz (.str (S w))),some (.fz (.int ki)),x9]=some (.nx [some (.fz (.int x)),a1,some (.fz (.str Ob)),a3,some (.fz (.int at')),a5,some (.fz (.int ti)),some (.fz (.str (S (w++[ch])))),some (.fz (.int ki)),some (.fz (.int (ti*b)))]):=by
  intro ki ti h0 h1 b hb hif ch hch
  have hm:=Zm1 (i:=ti) (j:=b) И
  have d1:0<ki+2:=by W
  have d2:ki+2<1073741824:=by W
  have z:(S w).length+(⟨#[ch]⟩:Str).length<=PySem.sizeLine:=Qx (by rw[Zle w];show w.length+1<=_;W)
  have ea:S w++(⟨#[ch]⟩:Str)=S (w++[ch]):=Zr1 w [ch]
  by_cases hk:ki=at'
  ·rw[Е hk]at hif
   subst hif
   unfold Gen.Y9
   simp[hk]at hm hch d1 d2⊢
   simp[hm,hch,d1,d2,Fq,z,ea]
  ·rw[Д hk]at hif
   subst hif
   unfold Gen.Y9
   simp[hk]at hm hch⊢
   simp[hm,hch,d1,d2,Fq,z,ea]
 R⟨_,go (k:Int) (t:Int) И И (if(k:Int)=at' then 1 else 0) (by split<;> simp) rfl (sgn x at' t k) (Zr6 _)⟩
ОZbt(a1 a3 a5:Б SV)(x at':Int)(t size:Г)(hs:size<=100)(x8 x9:Б SV):
  ∃y8 y9,Yh (Zg 8) Gen.Y9 (Xg 0 size) [some (.fz (.int x)),a1,some (.fz (.str Ob)),a3,some (.fz (.int at')),a5,some (.fz (.int (t:Int))),some (.fz (.str (S []))),x8,x9]=some (.nx [some (.fz (.int x)),a1,some (.fz (.str Ob)),a3,some (.fz (.int at')),a5,some (.fz (.int (t:Int))),some (.fz (.str (S (Ng x at' size t)))),y8,y9]):=by
 O⟨δ',e,y8,y9,hy⟩:=Ce (tg:=Zg 8) (body:=Gen.Y9) (P:=fun i δ=>∃y8 y9,δ=[some (.fz (.int x)),a1,some (.fz (.str Ob)),a3,some (.fz (.int at')),a5,some (.fz (.int (t:Int))),some (.fz (.str (S (Ng x at' i t)))),y8,y9]) size 0 [some (.fz (.int x)),a1,some (.fz (.str Ob)),a3,some (.fz (.int at')),a5,some (.fz (.int (t:Int))),some (.fz (.str (S []))),x8,x9] ⟨x8,x9,rfl⟩ (fun i _ hi δ ⟨y8,y9,hy⟩=>by
  subst hy
  O⟨z9,e⟩:=Zbs a1 a3 a5 x at' t i И (Ng x at' i t) (by unfold Ng;simp;W) y9
  R⟨[some (.fz (.int x)),a1,some (.fz (.str Ob)),a3,some (.fz (.int at')),a5,some (.fz (.int (t:Int))),some (.fz (.str (S (Ng x at' i t)))),some (.fz (.int (i:Int))),y9],_,by simp,e,some (.fz (.int (i:Int))),z9,?_⟩
  have:Ng x at' (i+1) t=Ng x at' i t++[sgn x at' t i]:=by unfold Ng;rw[List.range_succ,cq];rfl
  rw[this])
 subst hy
 rw[Nat.zero_add]at e
 E⟨y8,y9,e⟩
ПWz(x at':Int)(size m:Г):А Str:=(cr m).map fun t=>S (Ng x at' size t)
ОXq(a1:Б SV)(x at':Int)(size:Г)(hs:size<=8)(m:Г)(hm:m<=100):
  ∃δ,Yh (Zg 6) Gen.Qy (Xg 0 m) [some (.fz (.int x)),a1,some (.fz (.str Ob)),some (.fz (.int (size:Int))),some (.fz (.int at')),some (.ol []),none,none,none,none]=some (.nx δ)/\δ[5]? =some (some (.ol ((Wz x at' size m).map D.str))):=by
 O⟨δ',e,y6,y7,y8,y9,hy⟩:=Ce (tg:=Zg 6) (body:=Gen.Qy) (P:=fun i δ=>∃y6 y7 y8 y9,δ=[some (.fz (.int x)),a1,some (.fz (.str Ob)),some (.fz (.int (size:Int))),some (.fz (.int at')),some (.ol ((Wz x at' size i).map D.str)),y6,y7,y8,y9]) m 0 [some (.fz (.int x)),a1,some (.fz (.str Ob)),some (.fz (.int (size:Int))),some (.fz (.int at')),some (.ol []),none,none,none,none] ⟨none,none,none,none,rfl⟩ (fun i _ hi δ ⟨y6,y7,y8,y9,hy⟩=>by
  subst hy
  O⟨z8,z9,e⟩:=Zbt a1 (some (.fz (.int (size:Int)))) (some (.ol ((Wz x at' size i).map D.str))) x at' i size И y8 y9
  have g1:K6 (size:Int):=Tu И
  have et:((size:Int)).toNat=size:=by W
  have z:(Wz x at' size i).length<PySem.sizeLine:=Ys (by unfold Wz;simp;W)
  have he:b9 ""=S []:=rfl
  have hr:Wz x at' size (i+1)=Wz x at' size i++[S (Ng x at' size i)]:=by unfold Wz;rw[List.range_succ,cq];rfl
  R⟨[some (.fz (.int x)),a1,some (.fz (.str Ob)),some (.fz (.int (size:Int))),some (.fz (.int at')),some (.ol ((Wz x at' size i).map D.str)),some (.fz (.int (i:Int))),y7,y8,y9],[some (.fz (.int x)),a1,some (.fz (.str Ob)),some (.fz (.int (size:Int))),some (.fz (.int at')),some (.ol ((Wz x at' size (i+1)).map D.str)),some (.fz (.int (i:Int))),some (.fz (.str (S (Ng x at' size i)))),z8,z9],by simp,?_,_,_,_,_,rfl⟩
  rw[hr]
  generalize Wz x at' size i=NL at*
  unfold Gen.Qy
  simp[-Yh,he,g1,et,Mc,e,z])
 subst hy
 rw[Nat.zero_add]at e
 E⟨_,e,rfl⟩
structure Nam(w:Str):В where
 one:1<=w.length
 most:w.length<=8
 no:∀c∈w.cps.toList,c≠105/\c≠110/\c≠111
ОEg(x:Int)(h0:0<=x)(m:Г)(hm:m<=20):∃ws:А Str,Gen.Yw [.int x,.int (m:Int)]=some (.ol (ws.map D.str))/\ws.length=m/\ws.Nodup/\∀w∈ws,Nam w:=by
 have s0:0<=x % 8:=fw _ Й
 have s1:x % 8<8:=dw _ Й
 obtain⟨size,hs⟩:∃n:Г,(n:Int)=1+x % 8:=⟨(1+x % 8).toNat,by W⟩
 have hs1:1<=size:=by W
 have hs8:size<=8:=by W
 have p0:(0:Int)<(size:Int):=by W
 have a0:0<=x / 8 % (size:Int):=fw _ И
 have a1:x / 8 % (size:Int)<(size:Int):=dw _ p0
 generalize hat:x / 8 % (size:Int)=at' at a0 a1
 O⟨δ,e,hδ⟩:=Xq (some (.fz (.int (m:Int)))) x at' size hs8 m И
 have g1:K6 (m:Int):=Tu И
 have et:((m:Int)).toNat=m:=by W
 R⟨Wz x at' size m,?_,by unfold Wz;simp,?_,fun w hw=>?_⟩
 ·generalize Wz x at' size m=NL at hδ
  unfold Gen.Yw Gen.B1
  have hs0:0<size:=by W
  simp[-Yh,<-hs,p0,hs0,hat,g1,et,Mc,e,hδ]
 ·unfold Wz
  R List.Pairwise.map _ (R:=fun a b=>a≠b/\a<m/\b<m) (fun a b h=>?_) ?_
  ·intro z
   O⟨hne,ha,hb⟩:=h
   have hl:=Zr2 z
   O⟨k,hk⟩:=Int.eq_ofNat_of_zero_le a0
   have hks:k<size:=by W
   have e1:(Ng x at' size a)[k]? =some (sgn x at' a k):=by unfold Ng;rw[bf,List.getElem?_range hks];rfl
   have e2:(Ng x at' size b)[k]? =some (sgn x at' b k):=by unfold Ng;rw[bf,List.getElem?_range hks];rfl
   rw[hl,e2]at e1
   have e3:=dm.inj e1
   unfold sgn at e3
   rw[Е hk.symm]at e3
   have q:=fun y:Int=>(fw y (show(22:Int)≠0 by decide))
   have q':=fun y:Int=>(dw y (show(0:Int)<22 by decide))
   have r1:=q (x / ((k:Int)+2)+(a:Int)*1)
   have r2:=q' (x / ((k:Int)+2)+(a:Int)*1)
   have r3:=q (x / ((k:Int)+2)+(b:Int)*1)
   have r4:=q' (x / ((k:Int)+2)+(b:Int)*1)
   have e4:=Zoa _ И _ И e3
   generalize x / ((k:Int)+2)=y at*
   W
  ·have nd:(cr m).Pairwise (fun a b=>a<b):=List.pairwise_lt_range
   R(List.Pairwise.and_mem.mp nd).imp fun{a b} h=>?_
   E⟨b4 h.2.2,cw.mp h.1,cw.mp h.2.1⟩
 ·unfold Wz at hw
  O⟨t,_,rfl⟩:=a6.mp hw
  have hl:(S (Ng x at' size t)).length=size:=by rw[Zle];unfold Ng;simp
  R⟨by rw[hl];E hs1,by rw[hl];E hs8,fun c hc=>?_⟩
  rw[Znz]at hc
  unfold Ng at hc
  O⟨k,_,rfl⟩:=a6.mp hc
  have r1:=fw (x / ((k:Int)+2)+(t:Int)*(if(k:Int)=at' then 1 else 0)) (show(22:Int)≠0 by decide)
  have r2:=dw (x / ((k:Int)+2)+(t:Int)*(if(k:Int)=at' then 1 else 0)) (show(0:Int)<22 by decide)
  E Zob _ И
ОSf(c b:Int):Gen.Yx [.int c,.int b]=some (.fz (.int (c % 2147483647*b % 2147483647))):=by
 have h1:0<=c % 2147483647:=fw _ Й
 have h2:c % 2147483647<2147483647:=dw _ Й
 have hm:=Zm2 (i:=c % 2147483647) (j:=b) И
 unfold Gen.Yx Gen.B3
 simp[hm]
ОTa(ns:А Int)(k:Г):∃c:Int,Gen.Z6 [.lst (ns.map D.int),.int (k:Int)]=some (.fz (.int c)):=by
 by_cases h:k<ns.length
 ·have a:L2.atI (ns.map D.int) (k:Int)=some (.int ns[k]):=Zfz _ _ _ (by rw[bf,az h];rfl)
  R⟨ns[k],?_⟩
  have h':(k:Int)<(ns.length:Int):=by W
  unfold Gen.Z6 Gen.Q0
  simp[h',h,a]
 ·R⟨0,?_⟩
  have h':¬(k:Int)<(ns.length:Int):=by W
  unfold Gen.Z6 Gen.Q0
  simp[h',h]
ОNd(c b:Int):0<=c % 2147483647*b % 2147483647:=fw _ Й
end My
namespace My
open DL PySem TT
Оs1:1<=PySem.sizeLine:=by decide
Оs2:2<=PySem.sizeLine:=by decide
Оs3:3<=PySem.sizeLine:=by decide
Оs4:4<=PySem.sizeLine:=by decide
noncomputable abbrev Qv:Str:=b9 "kind"
noncomputable abbrev Qc:Str:=b9 "note"
ПYo(fs ts:А Str)(f:Str):Б Str:=(fs.zip ts).lookup f
ОJn:∀(fs ts:А Str) (f:Str),look fs (ts.map D.str) f=(Yo fs ts f).map D.str
 | [],ts,f=>by cases ts<;> rfl
 |_::_,[],f=>rfl
 |x::fs,t::ts,f=>by
  show(if x=f then some (D.str t)else look fs (ts.map D.str) f)=_
  rw[Jn fs ts f]
  unfold Yo
  rw[List.zip_cons_cons,g6]
  by_cases h:x=f
  ·subst h;simp
  ·have:(f==x)=false:=beq_eq_false_iff_ne.mpr fun z=>h z.symm
   rw[Д h,this]
noncomputable abbrev D9(kind:Str)(fs ts:А Str):D:=.tup [.str kind,.dK (Zv fs) (ts.map D.str)]
Оown_texts(kind:Str)(fs ts:А Str)(hl:fs.length=ts.length)(hz:ts.length<=1000)(hk:Qv∉fs):Gen.W8 [D9 kind fs ts]=some (.oK (Zv (fs++[Qv])) ((ts++[kind]).map D.str)):=by
 have hp:Wj (Zv fs) (ts.map D.str) (b8 Qv) (.str kind)=(Zv (fs++[Qv]),(ts++[kind]).map D.str):=by
  rw[Aw,Ax hk]
  simp
 have z:(ts.map D.str).length<PySem.sizeLine:=Ys (by simp;W)
 have at1:∀a b:D,L2.atI [a,b] 1=some b:=fun _ _=>rfl
 have at0:∀a b:D,L2.atI [a,b] 0=some a:=fun _ _=>rfl
 unfold D9 Gen.W8 Gen.B7
 generalize ts.map D.str=TS at*
 generalize Zv fs=FS at*
 simp[at1,at0,hp,z,-Wj]
ПWc(fs ts:А Str):Г->А (А Str)->А NK
 |_,[]=>[]
 |i,r::rs=>(match r.mapM (Yo fs ts)with|some l=>[(.inr ((i:Int),l):NK)]|none=>[])++Wc fs ts (i+1) rs
noncomputable abbrev Zy(r:А Str):D:=.lst (r.map D.str)
ПZr7(fs ts:А Str):D->D
 | .str f=>.bl (Yo fs ts f).isSome
 |_=>.non
ПZlf(fs ts:А Str):D->D
 | .str f=>.str ((Yo fs ts f).getD "")
 |_=>.non
ОSg(fs ts:А Str)(j:Г)(r:А Str)(hr:r.length<=100):
  Y7 [.own,.cap j,.acc] 2 (Zg 0) Q3 Gen.Ji (r.map D.str) [none,some (.fz (.dK (Zv fs) (ts.map D.str))),some (.ol [])]=some [none,some (.fz (.dK (Zv fs) (ts.map D.str))),some (.ol (r.map fun f=>.bl (Yo fs ts f).isSome))]:=by
 have c:=Rk (te:=Gen.Ji) (f:=Zr7 fs ts) (c:=some (.fz (.dK (Zv fs) (ts.map D.str)))) (j:=j) (r.map D.str) [] (fun x hx zs=>by
  O⟨f,hf,rfl⟩:=a6.mp hx
  have l:=(J3 f fs (ts.map D.str)).trans (Jn fs ts f)
  unfold Gen.Ji Zr7
  generalize ts.map D.str=TS at*
  generalize Zv fs=FS at*
  simp[l,-look]) (by rw[ao];simp;W)
 rw[c,dz,bx]
 rfl
ОSh(fs ts:А Str)(j:Г)(r:А Str)(hr:r.length<=100)(hh:∀f∈r,(Yo fs ts f).isSome):
  Y7 [.own,.cap j,.acc] 2 (Zg 0) Q3 Gen.Jj (r.map D.str) [none,some (.fz (.dK (Zv fs) (ts.map D.str))),some (.ol [])]=some [none,some (.fz (.dK (Zv fs) (ts.map D.str))),some (.ol (r.map fun f=>.str ((Yo fs ts f).getD "")))]:=by
 have c:=Rk (te:=Gen.Jj) (f:=Zlf fs ts) (c:=some (.fz (.dK (Zv fs) (ts.map D.str)))) (j:=j) (r.map D.str) [] (fun x hx zs=>by
  O⟨f,hf,rfl⟩:=a6.mp hx
  have l:=(J3 f fs (ts.map D.str)).trans (Jn fs ts f)
  O⟨v,hv⟩:=Option.isSome_iff_exists.mp (hh f hf)
  rw[hv]at l
  have g:Zlf fs ts (.str f)= .str v:=by show D.str ((Yo fs ts f).getD "")=_;rw[hv];rfl
  rw[g]
  unfold Gen.Jj
  generalize ts.map D.str=TS at*
  generalize Zv fs=FS at*
  simp[l,-look]) (by rw[ao];simp;W)
 rw[c,dz,bx]
 rfl
ОRq(fs ts:А Str):∀r:А Str,r.mapM (Yo fs ts)=if(∀f∈r,(Yo fs ts f).isSome)then some (r.map fun f=>(Yo fs ts f).getD "")else none
 | []=>by simp
 |f::r=>by
  rw[List.mapM_cons,Rq fs ts r]
  cases h:Yo fs ts f with
  |none=>simp[h]
  |some v=>
   by_cases h2:∀f∈r,(Yo fs ts f).isSome
   ·rw[Е h2,Е fun g hg=>(bo.mp hg).elim (fun z=>by rw[z,h];rfl) fun z=>h2 g z]
    simp[h]
   ·rw[Д h2,Д fun z=>h2 fun g hg=>z g (ar _ hg)]
    rfl
ОFr:∀(r:А Str) (p:Str->Bool),bools? (r.map fun f=>D.bl (p f))=some (r.map p)
 | [],p=>rfl
 |f::r,p=>by
  have:=Fr r p
  rw[av,av]
  simp[this]
ОXr(fs ts:А Str)(R:Б SV)(M:А NK)(n:Г)(r:А Str)(hr:r.length<=100)(hM:M.length<=100):
  Gen.Ql [some (.fz (.dK (Zv fs) (ts.map D.str))),R,some (.ol (M.map Zu)),some (.fz (.int (n:Int))),some (.fz (Zy r))]=
  some (.nx [some (.fz (.dK (Zv fs) (ts.map D.str))),R,some (.ol ((M++(match r.mapM (Yo fs ts)with|some l=>[(.inr ((n:Int),l):NK)]|none=>[])).map Zu)),some (.fz (.int (n:Int))),some (.fz (Zy r))]):=by
 have h1:=Sg fs ts 0 r hr
 have b:=Fr r fun f=>(Yo fs ts f).isSome
 have z1:M.length<PySem.sizeLine:=Ys И
 unfold Gen.Ql
 rw[Rq]
 by_cases h:∀f∈r,(Yo fs ts f).isSome
 ·have h2:=Sh fs ts 0 r hr h
  rw[Е h]
  have al:(r.map fun f=>(Yo fs ts f).isSome).all id=true:=by
   rw[List.all_map];E g7.mpr fun f hf=>h f hf
  generalize ts.map D.str=TS at*
  generalize Zv fs=FS at*
  simp[h1,h2,b,al,z1,s2,-Y7]
  unfold Zu
  simp
 ·rw[Д h]
  have al:(r.map fun f=>(Yo fs ts f).isSome).all id=false:=by
   rw[List.all_map,Bool.eq_false_iff];E fun z=>h fun f hf=>g7.mp z f hf
  generalize ts.map D.str=TS at*
  generalize Zv fs=FS at*
  simp[h1,b,al,z1,-Y7]
ОEh(fs ts:А Str)(R:Б SV):∀(rs:А (А Str)) (n:Г) (M:А NK) (x3 x4:Б SV),(∀r∈rs,r.length<=100)->M.length+rs.length<=100->∃y3 y4,
  Yh (Wa 2 (Zs (Zg 3) (Zs (Zg 4) Wb))) Gen.Ql (((rs.map Zy).zipIdx n).map fun p=>D.tup [.int (p.2:Г),p.1]) [some (.fz (.dK (Zv fs) (ts.map D.str))),R,some (.ol (M.map Zu)),x3,x4]=
  some (.nx [some (.fz (.dK (Zv fs) (ts.map D.str))),R,some (.ol ((M++Wc fs ts n rs).map Zu)),y3,y4])
 | [],n,M,x3,x4,_,_=>⟨x3,x4,by simp[Wc]⟩
 |r::rs,n,M,x3,x4,hr,hM=>by
  rw[bn]at hM
  have t:=Xr fs ts R M n r (hr r aj) И
  O⟨y3,y4,ih⟩:=Eh fs ts R rs (n+1) (M++(match r.mapM (Yo fs ts)with|some l=>[(.inr ((n:Int),l):NK)]|none=>[])) (some (.fz (.int (n:Int)))) (some (.fz (Zy r))) (fun q hq=>hr q (ar _ hq)) (by
   rw[bj]
   cases r.mapM (Yo fs ts)<;> simp<;> W)
  R⟨y3,y4,?_⟩
  rw[av,List.zipIdx_cons,av,Wc]
  rw[gf]at ih
  have e:∀δ,(Wa 2 (Zs (Zg 3) (Zs (Zg 4) Wb))).run (.tup [.int (n:Г),Zy r]) [some (.fz (.dK (Zv fs) (ts.map D.str))),R,some (.ol (M.map Zu)),x3,x4]=some δ->δ=[some (.fz (.dK (Zv fs) (ts.map D.str))),R,some (.ol (M.map Zu)),some (.fz (.int (n:Int))),some (.fz (Zy r))]:=fun δ h=>by simpa using h.symm
  unfold Yh
  generalize ts.map D.str=TS at*
  generalize Zv fs=FS at*
  rw[show(Wa 2 (Zs (Zg 3) (Zs (Zg 4) Wb))).run (.tup [.int (n:Г),Zy r]) [some (.fz (.dK FS TS)),R,some (.ol (M.map Zu)),x3,x4]=some [some (.fz (.dK FS TS)),R,some (.ol (M.map Zu)),some (.fz (.int (n:Int))),some (.fz (Zy r))]from by simp]
  dsimp only[b7]
  rw[t]
  E ih
Оmarks_of(fs ts:А Str)(rs:А (А Str))(hr:∀r∈rs,r.length<=100)(hn:rs.length<=100):Gen.Uf [.dK (Zv fs) (ts.map D.str),.lst (rs.map Zy)]=some (.ol ((Wc fs ts 0 rs).map Zu)):=by
 O⟨y3,y4,e⟩:=Eh fs ts (some (.fz (.lst (rs.map Zy)))) rs 0 [] none none hr (by simpa using hn)
 rw[dz]at e
 have e2:Qf (rs.map Zy)=(((rs.map Zy).zipIdx 0).map fun p=>D.tup [.int (p.2:Г),p.1]):=rfl
 unfold Gen.Uf Gen.Gj
 rw[<-e2]at e
 generalize ts.map D.str=TS at*
 generalize Zv fs=FS at*
 generalize rs.map Zy=RS at*
 generalize (Wc fs ts 0 rs).map Zu=MS at*
 have e:Yh (Wa 2 (Zs (Zg 3) (Zs (Zg 4) Wb))) Gen.Ql (Qf RS) [some (.fz (.dK FS TS)),some (.fz (.lst RS)),some (.ol []),none,none]=_:=e
 simp[e,-Yh]
end My
namespace My
open DL PySem TT
structure Wk where
 key:Str
 kind:Str
 fs:А Str
 ts:А Str
structure WkOk(w:Wk):В where
 len:w.fs.length=w.ts.length
 nd:w.fs.Nodup
 few:w.fs.length<=10
 nk:Qv∉w.fs
noncomputable abbrev Wk.at'(w:Wk):А Str:=w.fs++[Qv]
noncomputable abbrev Wk.vt(w:Wk):А Str:=w.ts++[w.kind]
noncomputable abbrev Wk.val(w:Wk)(f:Str):Str:=(Yo w.at' w.vt f).getD ""
noncomputable abbrev Wk.d(w:Wk):D:=D9 w.kind w.fs w.ts
noncomputable abbrev Bh(b k:Str):NK:=.inl [b,k]
ПWk.tri(b:Str)(w:Wk):А Tri:=(w.at'.filter fun f=>decide (f≠Qc)).map fun f=>(f,w.val f,[Bh b w.key])
noncomputable abbrev Wk.marks(rs:А (А Str))(w:Wk):А NK:=Wc w.at' w.vt 0 rs
ПU0(b:Str)(rs:А (А Str))(w:Wk):HP:=⟨[Bh b w.key],w.marks rs,w.tri b⟩
ОEi:∀(fs ts:А Str) (f:Str),fs.length=ts.length->(f∈fs↔(Yo fs ts f).isSome=true)
 | [],[],f,_=>by simp[Yo]
 | [],_::_,f,h=>by simp at h
 |_::_,[],f,h=>by simp at h
 |x::fs,t::ts,f,h=>by
  have ih:=Ei fs ts f (by simpa using h)
  unfold Yo at*
  rw[List.zip_cons_cons,g6,bo,ih]
  by_cases e:f=x
  ·subst e;simp
  ·have:(f==x)=false:=beq_eq_false_iff_ne.mpr e
   rw[this];simp[e]
ОMg(fs ts:А Str)(nm:D)(hl:fs.length=ts.length):∀(xs:А Str) (zs:А D),(∀x∈xs,x∈fs)->zs.length+xs.length<=1000->
  Y7 [.own,.cap 3,.cap 0,.acc] 3 (Zg 0) Gen.W1 Gen.Qz (xs.map D.str) [none,some (.fz (.dK (Zv fs) (ts.map D.str))),some (.fz nm),some (.ol zs)]=
  some [none,some (.fz (.dK (Zv fs) (ts.map D.str))),some (.fz nm),some (.ol (zs++(xs.filter fun f=>decide (f≠Qc)).map fun f=>D.tup [.str f,.str ((Yo fs ts f).getD ""),.lst [nm]]))]
 | [],zs,_,_=>by simp
 |x::xs,zs,h,hz=>by
  rw[bn]at hz
  O⟨v,hv⟩:=Option.isSome_iff_exists.mp ((Ei fs ts x hl).mp (h x aj))
  have l:=(J3 x fs (ts.map D.str)).trans (Jn fs ts x)
  rw[hv]at l
  have z1:zs.length<PySem.sizeLine:=Ys И
  rw[av,List.filter_cons]
  unfold Y7
  by_cases hx:x=Qc
  ·have ih:=Mg fs ts nm hl xs zs (fun y hy=>h y (ar _ hy)) И
   rw[Д (by simp[hx])]
   generalize ts.map D.str=TS at*
   generalize Zv fs=FS at*
   rw[show Gen.W1=Y6 (Zt neY (Za 0) (Zh (.str "note")))from rfl]at*
   simp[hx,-Y7,-look]
   simpa[-Y7,-look]using ih
  ·have ih:=Mg fs ts nm hl xs (zs++[D.tup [.str x,.str ((Yo fs ts x).getD ""),.lst [nm]]]) (fun y hy=>h y (ar _ hy)) (by rw[bj];simp;W)
   rw[Е (by simp[hx]),av]
   rw[gf]at ih
   generalize ts.map D.str=TS at*
   generalize Zv fs=FS at*
   have e0:∀q,Gen.W1 [some (SV.fz (D.str x)),some (.fz (.dK FS TS)),some (.fz nm),some (.ol q)]=some (true,[some (SV.fz (D.str x)),some (.fz (.dK FS TS)),some (.fz nm),some (.ol q)]):=fun q=>by
    unfold Gen.W1
    simp[hx]
   have e1:∀q,Gen.Qz [some (SV.fz (D.str x)),some (.fz (.dK FS TS)),some (.fz nm),some (.ol q)]=some (.tmp (.fz (D.tup [.str x,.str v,.lst [nm]])),[some (SV.fz (D.str x)),some (.fz (.dK FS TS)),some (.fz nm),some (.ol q)]):=fun q=>by
    unfold Gen.Qz
    simp[l,s1,s3,-look]
   rw[hv]at ih⊢
   simp[e0,e1,z1,-Y7,-look]
   simpa[-Y7,-look]using ih
ОFs(xs:А Str):(Zv xs).map R4=xs.map D.str:=by
 rw[bx];rfl
Оlone_heap(b:Str)(rs:А (А Str))(w:Wk)(ok:WkOk w)(hr:∀r∈rs,r.length<=100)(hn:rs.length<=100):
  Gen.W9 [Zu (Bh b w.key),w.d,.lst (rs.map Zy)]=some (.fz (Yq (U0 b rs w))):=by
 have o:Gen.W8 [w.d]=some (.oK (Zv w.at') (w.vt.map D.str)):=own_texts w.kind w.fs w.ts ok.len (by have:=ok.len;have:=ok.few;W) ok.nk
 have hl:w.at'.length=w.vt.length:=by simp[ok.len]
 have m:=marks_of w.at' w.vt rs hr hn
 have c:=Mg w.at' w.vt (Zu (Bh b w.key)) hl w.at' [] (fun x hx=>hx) (by have:=ok.few;simp;W)
 have ek:=Fs w.at'
 have el:(U0 b rs w).fs.map Wq=(w.at'.filter fun f=>decide (f≠Qc)).map fun f=>D.tup [.str f,.str (w.val f),.lst [Zu (Bh b w.key)]]:=by
  show(w.tri b).map Wq=_
  unfold Wk.tri
  rw[bx];rfl
 have en:(U0 b rs w).ns.map Zu=[Zu (Bh b w.key)]:=rfl
 have em:(U0 b rs w).ms=w.marks rs:=rfl
 unfold Gen.W9 Gen.B8 Yq
 rw[el,en,em]
 rw[dz]at c
 have ev:∀f,w.val f=(Yo w.at' w.vt f).getD "":=fun _=>rfl
 generalize Zu (Bh b w.key)=NM at*
 generalize hM:(w.marks rs).map Zu=MS at*
 generalize w.d=W at*
 generalize w.at'=AT at*
 generalize w.vt=VT at*
 generalize VT.map D.str=TS at*
 generalize Zv AT=FS at*
 simp[o,m,c,ek,s1,s3,hM,ev,-Y7,-look]
end My
namespace My
open DL PySem TT
noncomputable abbrev Jb(h:HP):А NK:=h.ns++h.ms
ОGk:∀{ks:А NK} {k:NK},k∉ks->J2 ks k=none
 | [],_,_=>rfl
 |a::ks,k,h=>by
  show(if a=k then some 0 else(J2 ks k).map (· +1))=none
  rw[Д fun z=>h (by rw[z];E aj),Gk fun z=>h (ar _ z)]
  rfl
ОZaa{δ:Yf}{i j:Г}{fk:FE}{ext:Bool}{ks:А NK}{xss:А (А D)}{k:NK}{p:RV×Yf}{q:D×Yf}{d:D}{ys:А D}(h1:δ[i]? =some (some (.oX ks xss)))(h2:fk δ=some p)(h3:frz p.1 p.2=some q)(h4:nk? q.1=some k)(h5:q.2[i]? =some (some (.oX ks xss)))(h6:q.2[j]? =some (some (.fz d)))
  (h7:(ext=false/\ys=[d])\/(ext=true/\d= .lst ys)) (h8:okX xss ys.length) (h9:k∉ks):Mq i fk j ext δ=some (.nx (q.2.set i (some (.oX (ks++[k]) (xss++[ys]))))):=by
 unfold Mq
 rw[h1]
 dsimp only
 rw[h2]
 dsimp only[b7]
 rw[h3]
 dsimp only[b7]
 rw[h4]
 dsimp only[b7]
 rw[h5,h6]
 dsimp only
 rcases h7 with⟨rfl,rfl⟩|⟨rfl,rfl⟩
 ·rw[Д Й]
  dsimp only[b7]
  rw[Е h8]
  unfold P3
  rw[Gk h9]
 ·rw[Е rfl]
  dsimp only[b7]
  rw[Е h8]
  unfold P3
  rw[Gk h9]
ОZge{xss:А (А D)}{n B:Г}(h1:xss.length<=10000)(h2:n<=10000)(h3:∀xs∈xss,xs.length<=10000):okX xss n:=
 ⟨Ys И,Ys И,fun xs hx=>Ys (by have:=h3 xs hx;W)⟩
ОSi(A:Б SV)(hd:Б SV)(n:Г):∀(ts:А NK) (ks:А NK) (xss:А (А D)) (x4:Б SV),(ks++ts).Nodup->xss.length+ts.length<=10000->(∀xs∈xss,xs.length=1)->∃y4,
  Yh (Zg 4) Gen.Uc (ts.map Zu) [A,some (.oX ks xss),some (.fz (.int (n:Int))),hd,x4]=some (.nx [A,some (.oX (ks++ts) (xss++ts.map fun _=>[D.int (n:Int)])),some (.fz (.int (n:Int))),hd,y4])
 | [],ks,xss,x4,_,_,_=>⟨x4,by simp⟩
 |t::ts,ks,xss,x4,nd,hz,h1=>by
  rw[bn]at hz
  have e0:(ks++[t])++ts=ks++(t::ts):=by simp
  O⟨y4,ih⟩:=Si A hd n ts (ks++[t]) (xss++[[.int (n:Int)]]) (some (.fz (Zu t))) (by rw[e0];E nd) (by rw[bj];simp;W) (fun xs hx=>by
   rcases cn.mp hx with z|z
   ·E h1 xs z
   ·rw[au.mp z];rfl)
  R⟨y4,?_⟩
  have hn:t∉ks:=fun z=>(di.mp nd).2.2 t z t aj rfl
  have a:Gen.Uc [A,some (.oX ks xss),some (.fz (.int (n:Int))),hd,some (.fz (Zu t))]=some (.nx [A,some (.oX (ks++[t]) (xss++[[.int (n:Int)]])),some (.fz (.int (n:Int))),hd,some (.fz (Zu t))]):=
   Zaa (p:=(.tmp (.fz (Zu t)),[A,some (.oX ks xss),some (.fz (.int (n:Int))),hd,some (.fz (Zu t))])) (q:=(Zu t,[A,some (.oX ks xss),some (.fz (.int (n:Int))),hd,some (.fz (Zu t))])) (d:=.int (n:Int)) (ext:=false) rfl rfl rfl (Ma t) rfl rfl (.inl ⟨rfl,rfl⟩) (Zge (B:=0) И Л fun xs hx=>by rw[h1 xs hx];decide) hn
  rw[av]
  unfold Yh
  rw[show(Zg 4).run (Zu t) [A,some (.oX ks xss),some (.fz (.int (n:Int))),hd,x4]=some [A,some (.oX ks xss),some (.fz (.int (n:Int))),hd,some (.fz (Zu t))]from by simp]
  dsimp only[b7]
  rw[a]
  dsimp only[b7]
  rw[ih,e0]
  simp
ПCy:Г->А HP->А (А D)
 |_,[]=>[]
 |n,h::hs=>((Jb h).map fun _=>[D.int (n:Int)])++Cy (n+1) hs
noncomputable abbrev Wr(hs:А HP):А NK:=hs.flatMap Jb
ОZbu(A:Б SV)(n:Г)(h:HP)(ks:А NK)(xss:А (А D))(x4:Б SV)(nd:(ks++Jb h).Nodup)(hz:xss.length+(Jb h).length<=10000)(h1:∀xs∈xss,xs.length=1):∃y4,
  Gen.Qh [A,some (.oX ks xss),some (.fz (.int (n:Int))),some (.fz (Yq h)),x4]=some (.nx [A,some (.oX (ks++Jb h) (xss++(Jb h).map fun _=>[D.int (n:Int)])),some (.fz (.int (n:Int))),some (.fz (Yq h)),y4]):=by
 O⟨y4,e⟩:=Si A (some (.fz (Yq h))) n (Jb h) ks xss x4 nd hz h1
 R⟨y4,?_⟩
 have zl:(h.ns.map Zu).length+(h.ms.map Zu).length<=PySem.sizeLine:=Qx (by rw[ao,ao];rw[bj]at hz;W)
 have at1:∀a b c:D,L2.atI [a,b,c] 1=some b:=fun _ _ _=>rfl
 have at0:∀a b c:D,L2.atI [a,b,c] 0=some a:=fun _ _ _=>rfl
 rw[show(Jb h).map Zu=h.ns.map Zu++h.ms.map Zu from cq]at e
 unfold Gen.Qh
 unfold Yq at e⊢
 generalize h.ns.map Zu=NS at*
 generalize h.ms.map Zu=MS at*
 generalize h.fs.map Wq=TS at*
 simp[at0,at1,zl,e,-Yh]
ОFt(A:Б SV):∀(hs:А HP) (n:Г) (ks:А NK) (xss:А (А D)) (x2 x3 x4:Б SV),(ks++Wr hs).Nodup->xss.length+(Wr hs).length<=10000->(∀xs∈xss,xs.length=1)->∃y2 y3 y4,
  Yh (Wa 2 (Zs (Zg 2) (Zs (Zg 3) Wb))) Gen.Qh (((hs.map Yq).zipIdx n).map fun p=>D.tup [.int (p.2:Г),p.1]) [A,some (.oX ks xss),x2,x3,x4]=some (.nx [A,some (.oX (ks++Wr hs) (xss++Cy n hs)),y2,y3,y4])
 | [],n,ks,xss,x2,x3,x4,_,_,_=>⟨x2,x3,x4,by simp[Cy]⟩
 |h::hs,n,ks,xss,x2,x3,x4,nd,hz,h1=>by
  have nd:(ks++(Jb h++Wr hs)).Nodup:=nd
  have hz:xss.length+(Jb h++Wr hs).length<=10000:=hz
  rw[bj]at hz
  rw[<-gf]at nd
  O⟨z4,t⟩:=Zbu A n h ks xss x4 (di.mp nd).1 И h1
  O⟨y2,y3,y4,ih⟩:=Ft A hs (n+1) (ks++Jb h) (xss++(Jb h).map fun _=>[D.int (n:Int)]) (some (.fz (.int (n:Int)))) (some (.fz (Yq h))) z4 nd (by rw[bj,ao];W) (fun xs hx=>by
   rcases cn.mp hx with z|z
   ·E h1 xs z
   ·O⟨_,_,rfl⟩:=a6.mp z;rfl)
  R⟨y2,y3,y4,?_⟩
  rw[av,List.zipIdx_cons,av,Cy]
  rw[show ks++Wr (h::hs)=ks++Jb h++Wr hs from(gf ..).symm,<-gf xss]
  unfold Yh
  rw[show(Wa 2 (Zs (Zg 2) (Zs (Zg 3) Wb))).run (.tup [.int (n:Г),Yq h]) [A,some (.oX ks xss),x2,x3,x4]=some [A,some (.oX ks xss),some (.fz (.int (n:Int))),some (.fz (Yq h)),x4]from by simp]
  dsimp only[b7]
  rw[t]
  E ih
noncomputable abbrev Bd(hs:А HP):D:=.dX (Wr hs) ((Cy 0 hs).map D.lst)
Оholders_of(hs:А HP)(nd:(Wr hs).Nodup)(hz:(Wr hs).length<=10000):Gen.Qi [.lst (hs.map Yq)]=some (.fz (Bd hs)):=by
 O⟨y2,y3,y4,e⟩:=Ft (some (.fz (.lst (hs.map Yq)))) hs 0 [] [] none none none (by simpa using nd) (by simpa using hz) (fun _ z=>nomatch z)
 rw[show(((hs.map Yq).zipIdx 0).map fun p=>D.tup [.int (p.2:Г),p.1])=Qf (hs.map Yq)from rfl,dz,dz]at e
 unfold Gen.Qi Gen.O1 Bd
 generalize hs.map Yq=HS at*
 generalize Wr hs=AT at*
 generalize Cy 0 hs=HX at*
 simp[e,Fk,-Yh]
ОZjk{ks ls:А NK}{us vs:А D}(t:NK):ks.length=us.length->t∈ks->look (ks++ls) (us++vs) t=look ks us t:=by
 induction ks generalizing us with
 |nil=>intro _ h;C h
 |cons k ks ih=>intro h ht;cases us with
  |nil=>simp at h
  |cons u us=>
   show(if k=t then some u else look (ks++ls) (us++vs) t)=(if k=t then some u else look ks us t)
   by_cases e:k=t
   ·rw[Е e,Е e]
   ·rw[Д e,Д e]
    rcases bo.mp ht with z|z
    ·E absurd z.symm e
    ·E ih (by simpa using h) z
ОZgf{ks ls:А NK}{us vs:А D}(t:NK):ks.length=us.length->t∉ks->look (ks++ls) (us++vs) t=look ls vs t:=by
 induction ks generalizing us with
 |nil=>intro h _;cases us with
  |nil=>rfl
  |cons=>simp at h
 |cons k ks ih=>intro h ht;cases us with
  |nil=>simp at h
  |cons u us=>
   show(if k=t then some u else look (ks++ls) (us++vs) t)=_
   rw[Д fun z=>ht (by rw[z];E aj)]
   E ih (by simpa using h) fun z=>ht (ar _ z)
ОGm(x:D):∀(ks:А NK) (t:NK),t∈ks->look ks (ks.map fun _=>x) t=some x
 |k::ks,t,h=>by
  show(if k=t then some x else look ks (ks.map fun _=>x) t)=_
  by_cases e:k=t
  ·rw[Е e]
  ·rw[Д e]
   rcases bo.mp h with z|z
   ·E absurd z.symm e
   ·E Gm x ks t z
ОFu:∀(hs:А HP) (n i:Г) (h:HP) (t:NK),(Wr hs).Nodup->hs[i]? =some h->t∈Jb h->look (Wr hs) ((Cy n hs).map D.lst) t=some (.lst [.int ((n+i:Г):Int)])
 | [],n,i,h,t,_,e,_=>by simp at e
 |g::hs,n,i,h,t,nd,e,ht=>by
  have hl:(Jb g).length=(((Jb g).map fun _=>[D.int (n:Int)]).map D.lst).length:=by simp
  rw[Cy,cq,show Wr (g::hs)=Jb g++Wr hs from rfl]
  have nd:(Jb g++Wr hs).Nodup:=nd
  cases i with
  |zero=>
   cases(show some g=some h from e)
   rw[Zjk t hl ht,bx]
   E Gm _ _ _ ht
  |succ i=>
   have e:hs[i]? =some h:=e
   have hm:t∈Wr hs:=List.mem_flatMap.mpr ⟨h,cz e,ht⟩
   rw[Zgf t hl fun z=>(di.mp nd).2.2 t z t hm rfl,Fu hs (n+1) i h t (di.mp nd).2.1 e ht]
   rw[show n+1+i=n+(i+1) by W]
end My
namespace My
open DL PySem TT
noncomputable abbrev Fv(hs:А HP)(i:Г)(l:А D)(x5 x6 x7:Б SV):Yf:=[some (.fz (.lst (hs.map Yq))),some (.fz (Bd hs)),some (.fz (.int (i:Int))),some (.oK [.inl (i:Int)] [.bl true]),some (.ol l),x5,x6,x7]
ОZbv(hs:А HP)(i:Г)(h:HP)(t:NK)(x5 x7:Б SV)(nd:(Wr hs).Nodup)(e:hs[i]? =some h)(ht:t∈Jb h):
  Gen.Rm (Fv hs i [] x5 (some (.fz (Zu t))) x7)=some (.nx (Fv hs i [] x5 (some (.fz (Zu t))) (some (.fz (.int (i:Int)))))):=by
 have l:=Fu hs 0 i h t nd e ht
 rw[Nat.zero_add]at l
 have nk:=Ma t
 unfold Gen.Rm Gen.Sd Fv Bd
 generalize hs.map Yq=HS at*
 generalize (Cy 0 hs).map D.lst=HX at*
 generalize Wr hs=AT at*
 generalize Zu t=T at*
 have l2:look [(Sum.inl (i:Int):L2.Key)] [D.bl true] (Sum.inl (i:Int))=some (.bl true):=by simp
 simp[nk,l,l2,-look]
ОFw(hs:А HP)(i:Г)(h:HP)(x5:Б SV)(nd:(Wr hs).Nodup)(e:hs[i]? =some h):∀(ts:А NK) (x6 x7:Б SV),(∀t∈ts,t∈Jb h)->∃y6 y7,
  Yh (Zg 6) Gen.Rm (ts.map Zu) (Fv hs i [] x5 x6 x7)=some (.nx (Fv hs i [] x5 y6 y7))
 | [],x6,x7,_=>⟨x6,x7,by simp⟩
 |t::ts,x6,x7,ht=>by
  O⟨y6,y7,ih⟩:=Fw hs i h x5 nd e ts (some (.fz (Zu t))) (some (.fz (.int (i:Int)))) fun u hu=>ht u (ar _ hu)
  R⟨y6,y7,?_⟩
  have a:=Zbv hs i h t x5 x7 nd e (ht t aj)
  rw[av]
  unfold Yh
  rw[show(Zg 6).run (Zu t) (Fv hs i [] x5 x6 x7)=some (Fv hs i [] x5 (some (.fz (Zu t))) x7)from by simp[Fv]]
  dsimp only[b7]
  rw[a]
  E ih
ОZlg{hs:А HP}{i:Г}{h:HP}(e:hs[i]? =some h):L2.atI (hs.map Yq) (i:Int)=some (Yq h):=by
 have hl:i<hs.length:=by rcases gy i hs.length with z|z;E z;rw[List.getElem?_eq_none z]at e;C e
 have:L2.ixN hs.length (i:Int)=some i:=by
  unfold L2.ixN
  simp;W
 unfold L2.atI
 rw[ao,this]
 show(hs.map Yq)[i]? =_
 rw[bf,e];rfl
ОZbw(hs:А HP)(i:Г)(h:HP)(x5 x6 x7:Б SV)(nd:(Wr hs).Nodup)(hz:(Wr hs).length<=10000)(e:hs[i]? =some h):∃y5 y6 y7,Gen.B5 (Fv hs i [.int (i:Int)] x5 x6 x7)=some (.nx (Fv hs i [] y5 y6 y7)):=by
 O⟨y6,y7,l⟩:=Fw hs i h (some (.fz (Yq h))) nd e (Jb h) x6 x7 fun _ z=>z
 R⟨some (.fz (Yq h)),y6,y7,?_⟩
 have hm:=cz e
 have hz2:(Jb h).length<=10000:=d3 (by
  O⟨a,b,rfl⟩:=List.append_of_mem hm
  simp[Wr];W) hz
 have zl:(h.ns.map Zu).length+(h.ms.map Zu).length<=PySem.sizeLine:=Qx (by rw[ao,ao];rw[bj]at hz2;W)
 have at1:∀a b c:D,L2.atI [a,b,c] 1=some b:=fun _ _ _=>rfl
 have at0:∀a b c:D,L2.atI [a,b,c] 0=some a:=fun _ _ _=>rfl
 have ai:=Zlg e
 rw[show(Jb h).map Zu=h.ns.map Zu++h.ms.map Zu from cq]at l
 unfold Gen.B5
 unfold Fv at l⊢
 unfold Yq at l ai⊢
 have ai2:L2.atI (hs.map fun h=>D.tup [.lst (h.ns.map Zu),.lst (h.ms.map Zu),.lst (h.fs.map Wq)]) (i:Int)=some (D.tup [.lst (h.ns.map Zu),.lst (h.ms.map Zu),.lst (h.fs.map Wq)]):=ai
 clear ai
 generalize (hs.map fun h=>D.tup [.lst (h.ns.map Zu),.lst (h.ms.map Zu),.lst (h.fs.map Wq)])=HS at*
 generalize h.ns.map Zu=NS at*
 generalize h.ms.map Zu=MS at*
 generalize h.fs.map Wq=TS at*
 generalize Bd hs=HD at*
 simp[at0,at1,ai2,zl,l,-Yh]
Оtied(hs:А HP)(i:Г)(h:HP)(nd:(Wr hs).Nodup)(hz:(Wr hs).length<=10000)(e:hs[i]? =some h):Gen.Ea [.lst (hs.map Yq),Bd hs,.int (i:Int)]=some (.ol [.int (i:Int)]):=by
 O⟨y5,y6,y7,b⟩:=Zbw hs i h none none none nd hz e
 have t1:Gen.Ud (Fv hs i [.int (i:Int)] none none none)=some (true,Fv hs i [.int (i:Int)] none none none):=by
  unfold Gen.Ud Fv
  simp
 have t2:Gen.Ud (Fv hs i [] y5 y6 y7)=some (false,Fv hs i [] y5 y6 y7):=by
  unfold Gen.Ud Fv
  simp
 have w:Jv Gen.Ud Gen.B5 Gen.Zn6 (Fv hs i [.int (i:Int)] none none none)=some (.nx (Fv hs i [] y5 y6 y7)):=by
  show Jv Gen.Ud Gen.B5 (998+1+1) _=_
  unfold Jv
  rw[t1]
  dsimp only[b7]
  rw[Е rfl,b]
  dsimp only[b7]
  unfold Jv
  rw[t2]
  rfl
 unfold Gen.Ea Gen.Xl
 unfold Fv at w
 generalize hs.map Yq=HS at*
 generalize Bd hs=HD at*
 simp[w,s1]
end My
namespace My
open DL PySem TT TX
noncomputable abbrev Yp(t:Tri):NK:=.inl [t.1,t.2.1]
noncomputable abbrev jSt(A:Б SV)(ns ms:А D)(ks:А NK)(xss:А (А D))(h x5 x6 x7 x8:Б SV):Yf:=[A,some (.ol ns),some (.ol ms),some (.oX ks xss),h,x5,x6,x7,x8]
ОFx(A h x8:Б SV)(ns ms:А D)(nm:NK):∀(fs:А Tri) (ks:А NK) (xss:А (А D)) (x5 x6 x7:Б SV),(ks++fs.map Yp).Nodup->xss.length+fs.length<=10000->(∀xs∈xss,xs.length=1)->(∀t∈fs,t.2.2=[nm])->∃y5 y6 y7,
  Yh (Wa 3 (Zs (Zg 5) (Zs (Zg 6) (Zs (Zg 7) Wb)))) Gen.Ue (fs.map Wq) (jSt A ns ms ks xss h x5 x6 x7 x8)=some (.nx (jSt A ns ms (ks++fs.map Yp) (xss++fs.map fun _=>[Zu nm]) h y5 y6 y7 x8))
 | [],ks,xss,x5,x6,x7,_,_,_,_=>⟨x5,x6,x7,by simp⟩
 |t::fs,ks,xss,x5,x6,x7,nd,hz,h1,ht=>by
  rw[bn]at hz
  have e0:(ks++[Yp t])++fs.map Yp=ks++(t::fs).map Yp:=by simp
  have et:=ht t aj
  O⟨y5,y6,y7,ih⟩:=Fx A h x8 ns ms nm fs (ks++[Yp t]) (xss++[[Zu nm]]) (some (.fz (.str t.1))) (some (.fz (.str t.2.1))) (some (.fz (.lst [Zu nm]))) (by rw[e0];E nd) (by rw[bj];simp;W) (fun xs hx=>by
   rcases cn.mp hx with z|z
   ·E h1 xs z
   ·rw[au.mp z];rfl) fun u hu=>ht u (ar _ hu)
  R⟨y5,y6,y7,?_⟩
  have hn:Yp t∉ks:=fun z=>(di.mp nd).2.2 _ z (Yp t) Л rfl
  have a:Gen.Ue (jSt A ns ms ks xss h (some (.fz (.str t.1))) (some (.fz (.str t.2.1))) (some (.fz (.lst [Zu nm]))) x8)=some (.nx (jSt A ns ms (ks++[Yp t]) (xss++[[Zu nm]]) h (some (.fz (.str t.1))) (some (.fz (.str t.2.1))) (some (.fz (.lst [Zu nm]))) x8)):=
   Zaa (p:=(.tmp (.fz (.tup [.str t.1,.str t.2.1])),jSt A ns ms ks xss h (some (.fz (.str t.1))) (some (.fz (.str t.2.1))) (some (.fz (.lst [Zu nm]))) x8)) (q:=(.tup [.str t.1,.str t.2.1],jSt A ns ms ks xss h (some (.fz (.str t.1))) (some (.fz (.str t.2.1))) (some (.fz (.lst [Zu nm]))) x8)) (d:=.lst [Zu nm]) (ys:=[Zu nm]) (ext:=true) (k:=Yp t) rfl (by simp[s2]) rfl (Ma (Yp t)) rfl rfl (.inr ⟨rfl,rfl⟩) (Zge (B:=0) И Л fun xs hx=>by rw[h1 xs hx];decide) hn
  rw[av]
  unfold Yh
  rw[show(Wa 3 (Zs (Zg 5) (Zs (Zg 6) (Zs (Zg 7) Wb)))).run (Wq t) (jSt A ns ms ks xss h x5 x6 x7 x8)=some (jSt A ns ms ks xss h (some (.fz (.str t.1))) (some (.fz (.str t.2.1))) (some (.fz (.lst [Zu nm]))) x8)from by simp[et]]
  dsimp only[b7]
  rw[a]
  dsimp only[b7]
  rw[ih,e0]
  simp
ОZbx(A x8:Б SV)(nm:NK)(hp:HP)(nd:(hp.fs.map Yp).Nodup)(hz:hp.fs.length<=10000)(hz1:hp.ns.length<=10000)(hz2:hp.ms.length<=10000)(ht:∀t∈hp.fs,t.2.2=[nm])(x5 x6 x7:Б SV):∃y5 y6 y7,
  Gen.Qj (jSt A [] [] [] [] (some (.fz (Yq hp))) x5 x6 x7 x8)=some (.nx (jSt A (hp.ns.map Zu) (hp.ms.map Zu) (hp.fs.map Yp) (hp.fs.map fun _=>[Zu nm]) (some (.fz (Yq hp))) y5 y6 y7 x8)):=by
 O⟨y5,y6,y7,l⟩:=Fx A (some (.fz (Yq hp))) x8 (hp.ns.map Zu) (hp.ms.map Zu) nm hp.fs [] [] x5 x6 x7 (by simpa using nd) (by simpa using hz) (fun _ z=>nomatch z) ht
 R⟨y5,y6,y7,?_⟩
 rw[dz,dz]at l
 have z1:(hp.ns.map Zu).length<=PySem.sizeLine:=Qx (by rw[ao];W)
 have z2:(hp.ms.map Zu).length<=PySem.sizeLine:=Qx (by rw[ao];W)
 have at2:∀a b c:D,L2.atI [a,b,c] 2=some c:=fun _ _ _=>rfl
 have at1:∀a b c:D,L2.atI [a,b,c] 1=some b:=fun _ _ _=>rfl
 have at0:∀a b c:D,L2.atI [a,b,c] 0=some a:=fun _ _ _=>rfl
 unfold Gen.Qj
 unfold jSt at l⊢
 unfold Yq at l⊢
 generalize (hp.fs.map fun _=>[Zu nm])=XS at*
 generalize hp.fs.map Yp=KS at*
 generalize hp.ns.map Zu=NS at*
 generalize hp.ms.map Zu=MS at*
 generalize hp.fs.map Wq=TS at*
 simp[at0,at1,at2,z1,z2,l,-Yh]
ПZgg(nm:D):D->D
 | .tup [.str a,.str b]=>.tup [.str a,.str b,.lst [nm]]
 |_=>.non
ОZac(x:Str)(l:А Str):Mp [.inl (x::l)]=some (.ol [Zu (.inl (x::l))]):=
 Zf8 (ks:=[.inl (x::l)]) (out:=[.inl (x::l)]) (.inl fun k hk=>⟨x,l,au.mp hk⟩) Л (fun _=>Iff.rfl) (List.pairwise_singleton _ _)
ОZby(b k:Str)(fs:А Tri)(hz:fs.length<=10000)(nd:(fs.map Yp).Nodup)(ht:∀t∈fs,t.2.2=[Bh b k]):
  Y7 [.own,.cap 3,.acc] 2 (Zg 0) Q3 Gen.Qk ((fs.map Yp).map Zu) [none,some (.fz (.dX (fs.map Yp) ((fs.map fun _=>[Zu (Bh b k)]).map D.lst))),some (.ol [])]=
  some [none,some (.fz (.dX (fs.map Yp) ((fs.map fun _=>[Zu (Bh b k)]).map D.lst))),some (.ol (fs.map Wq))]:=by
 have c:=Rk (te:=Gen.Qk) (f:=Zgg (Zu (Bh b k))) (c:=some (.fz (.dX (fs.map Yp) ((fs.map fun _=>[Zu (Bh b k)]).map D.lst)))) (j:=3) ((fs.map Yp).map Zu) [] (fun x hx zs=>by
  rw[bx]at hx
  O⟨t,h,rfl⟩:=a6.mp hx
  have l:=Gm (.lst [Zu (Bh b k)]) (fs.map Yp) (Yp t) (List.mem_map_of_mem h)
  rw[bx]at l
  rw[show((fs.map fun _=>[Zu (Bh b k)]).map D.lst)=fs.map ((fun _=>D.lst [Zu (Bh b k)])∘Yp)from by rw[bx];rfl]
  have nk:=Ma (Yp t)
  have s:=Zac b [k]
  have sd:Cu [.lst [Zu (Bh b k)]]=some (.ol [Zu (Bh b k)]):=(Mb [Bh b k]).trans s
  have at1:∀a b:D,L2.atI [a,b] 1=some b:=fun _ _=>rfl
  have at0:∀a b:D,L2.atI [a,b] 0=some a:=fun _ _=>rfl
  have ek:(Zu∘Yp) t= .tup [.str t.1,.str t.2.1]:=rfl
  have ef:Zgg (Zu (Bh b k)) (.tup [.str t.1,.str t.2.1])= .tup [.str t.1,.str t.2.1,.lst [Zu (Bh b k)]]:=rfl
  rw[ek,ef]
  have nk:nk? (.tup [.str t.1,.str t.2.1])=some (Yp t):=nk
  unfold Gen.Qk
  generalize fs.map ((fun _=>D.lst [Zu (Bh b k)])∘Yp)=XS at*
  generalize fs.map Yp=KS at*
  generalize Zu (Bh b k)=NM at*
  generalize Yp t=P at*
  simp[at0,at1,nk,l,sd,s3,-look]) (by simp;W)
 have e:((fs.map Yp).map Zu).map (Zgg (Zu (Bh b k)))=fs.map Wq:=by
  rw[bx,bx]
  R fj fun t h=>?_
  show D.tup [.str t.1,.str t.2.1,.lst [Zu (Bh b k)]]=Wq t
  unfold Wq
  rw[ht t h];rfl
 rw[c,dz,e]
ОZgh(b k:Str)(hp:HP)(out:А Tri)(nd:(hp.fs.map Yp).Nodup)(hz:hp.fs.length<64)(hz2:hp.ms.length<64)(ht:∀t∈hp.fs,t.2.2=[Bh b k])(hn:hp.ns=[Bh b k])
  (hm:∀m∈hp.ms,isM m) (hs:hp.ms.Pairwise fun a b=>Gg a<Gg b) (ho:out.Perm hp.fs) (hos:out.Pairwise fun a b=>¬Bg b<Bg a):
  Gen.Yt [.lst [Yq hp]]=some (.fz (Yq ⟨hp.ns,hp.ms,out⟩)):=by
 O⟨y5,y6,y7,t⟩:=Zbx (some (.fz (.lst [Yq hp]))) none (Bh b k) hp nd И (by rw[hn];simp) И ht none none none
 have c:=Zby b k hp.fs И nd ht
 have m1:Cu [.lst (hp.ns.map Zu)]=some (.ol (hp.ns.map Zu)):=by rw[hn];E(Mb [Bh b k]).trans (Zac b [k])
 have m2:Cu [.lst (hp.ms.map Zu)]=some (.ol (hp.ms.map Zu)):=(Mb hp.ms).trans (Zf8 (.inr hm) hz2 (fun _=>Iff.rfl) hs)
 have nde:(hp.fs.map Bg).Nodup:=by
  R df.mpr ((df.mp nd).imp fun{x y} h e=>h ?_)
  O⟨e1,e2⟩:=Zga e
  show(Sum.inl [x.1,x.2.1]:NK)=Sum.inl [y.1,y.2.1]
  rw[e1,e2]
 have m3:Ap [.lst (hp.fs.map Wq)]=some (.ol (out.map Wq)):=Zji (fun t h k' hk=>by rw[ht t h]at hk;E⟨b,[k],au.mp hk⟩) nde hz ho hos
 have f:Yh (Zg 4) Gen.Qj [Yq hp] [some (.fz (.lst [Yq hp])),some (.ol []),some (.ol []),some (.oX [] []),none,none,none,none,none]=some (.nx (jSt (some (.fz (.lst [Yq hp]))) (hp.ns.map Zu) (hp.ms.map Zu) (hp.fs.map Yp) (hp.fs.map fun _=>[Zu (Bh b k)]) (some (.fz (Yq hp))) y5 y6 y7 none)):=by
  unfold Yh
  rw[show(Zg 4).run (Yq hp) [some (.fz (.lst [Yq hp])),some (.ol []),some (.ol []),some (.oX [] []),none,none,none,none,none]=some (jSt (some (.fz (.lst [Yq hp]))) [] [] [] [] (some (.fz (Yq hp))) none none none none)from by simp]
  dsimp only[b7]
  rw[t]
  rfl
 unfold Gen.Yt Gen.O4
 rw[show Yq ⟨hp.ns,hp.ms,out⟩=D.tup [.lst (hp.ns.map Zu),.lst (hp.ms.map Zu),.lst (out.map Wq)]from rfl]
 unfold jSt at f
 generalize Yq hp=HPD at*
 generalize (hp.fs.map fun _=>[Zu (Bh b k)])=XS at*
 generalize hp.fs.map Yp=KS at*
 generalize hp.ns.map Zu=NS at*
 generalize hp.ms.map Zu=MS at*
 generalize hp.fs.map Wq=TS at*
 generalize out.map Wq=OS at*
 simp[f,c,m1,m2,m3,s3,Fk,-Yh,-Y7]
end My
namespace My
open DL PySem TT TX
Оs0:0<PySem.sizeLine:=by decide
noncomputable abbrev Rr(i:Г):А L2.Key:=(cr i).map fun k:Г=>.inl (k:Int)
noncomputable abbrev Rs(i:Г):А D:=(cr i).map fun _=>.bl true
ОEj:∀{ks:А L2.Key} {vs:А D} {k:L2.Key},k∉ks->look ks vs k=none
 | [],vs,k,_=>by cases vs<;> rfl
 |a::ks,[],k,_=>rfl
 |a::ks,v::vs,k,h=>by
  show(if a=k then some v else look ks vs k)=none
  rw[Д fun z=>h (by rw[z];E aj),Ej fun z=>h (ar _ z)]
ОSj(i:Г):(Sum.inl (i:Int):L2.Key)∉Rr i:=fun z=>by
 O⟨k,hk,e⟩:=a6.mp z
 have:=cw.mp hk
 have e:=Sum.inl.inj e
 W
noncomputable abbrev gSt(hs:А HP)(P:А D)(i:Г)(x4 x5 x6:Б SV):Yf:=[some (.fz (.lst (hs.map Yq))),some (.fz (Bd hs)),some (.ol P),some (.oK (Rr i) (Rs i)),x4,x5,x6]
ОSk(hs:А HP)(P:А D)(i:Г)(h j:HP)(x5 x6:Б SV)(nd:(Wr hs).Nodup)(hz:(Wr hs).length<=10000)(e:hs[i]? =some h)(hj:Gen.Yt [.lst [Yq h]]=some (.fz (Yq j)))(hP:P.length<=1000)(hi:i<=1000):∃y5 y6,
  Gen.Qs (gSt hs P i (some (.fz (.int (i:Int)))) x5 x6)=some (.nx (gSt hs (P++[Yq j]) (i+1) (some (.fz (.int (i:Int)))) y5 y6)):=by
 R⟨some (.fz (.lst [.int (i:Int)])),some (.fz (.int (i:Int))),?_⟩
 have t:=tied hs i h nd hz e
 have ai:=Zlg e
 have l:look (Rr i) (Rs i) (Sum.inl (i:Int))=none:=Ej (Sj i)
 have p:Wj (Rr i) (Rs i) (Sum.inl (i:Int)) (.bl true)=(Rr (i+1),Rs (i+1)):=by
  unfold Wj
  rw[Д (Sj i)]
  unfold Rr Rs
  rw[List.range_succ,cq,cq];rfl
 have z1:(Rs i).length<PySem.sizeLine:=Ys (by simp;W)
 have z2:P.length<PySem.sizeLine:=Ys И
 unfold Gen.Qs Gen.Eb Gen.Ec gSt
 generalize hs.map Yq=HS at*
 generalize Bd hs=HD at*
 generalize Yq h=HH at*
 rw[show Yq j= .tup [.lst (j.ns.map Zu),.lst (j.ms.map Zu),.lst (j.fs.map Wq)]from rfl]at*
 generalize [D.lst (j.ns.map Zu),.lst (j.ms.map Zu),.lst (j.fs.map Wq)]=HJ at*
 generalize Rr (i+1)=SK' at*
 generalize Rs (i+1)=SV' at*
 generalize Rr i=SK at*
 generalize Rs i=SV0 at*
 simp[t,ai,l,p,hj,z1,z2,s0,s1,-look,-Wj]
section
variable{α:Type}
ОSl(ws:А α)(f jn:α->HP)(nd:(Wr (ws.map f)).Nodup)(hz:(Wr (ws.map f)).length<=10000)(hl:ws.length<=1000)(hj:∀w∈ws,Gen.Yt [.lst [Yq (f w)]]=some (.fz (Yq (jn w)))):
  ∃y4 y5 y6,Yh (Zg 4) Gen.Qs (Xg 0 ws.length) (gSt (ws.map f) [] 0 none none none)=some (.nx (gSt (ws.map f) (ws.map fun w=>Yq (jn w)) ws.length y4 y5 y6)):=by
 O⟨δ',e,y4,y5,y6,hy⟩:=Ce (tg:=Zg 4) (body:=Gen.Qs) (P:=fun i δ=>∃y4 y5 y6,δ=gSt (ws.map f) ((ws.take i).map fun h=>Yq (jn h)) i y4 y5 y6) ws.length 0 (gSt (ws.map f) [] 0 none none none) ⟨none,none,none,rfl⟩ (fun i _ hi δ ⟨y4,y5,y6,hy⟩=>by
  subst hy
  rw[Nat.zero_add]at hi
  have e0:ws[i]? =some ws[i]:=az hi
  have e:(ws.map f)[i]? =some (f ws[i]):=by rw[bf,e0];rfl
  O⟨z5,z6,t⟩:=Sk (ws.map f) ((ws.take i).map fun h=>Yq (jn h)) i (f ws[i]) (jn ws[i]) y5 y6 nd hz e (hj _ (List.getElem_mem hi)) (by rw[ao,gn];W) И
  R⟨gSt (ws.map f) ((ws.take i).map fun h=>Yq (jn h)) i (some (.fz (.int (i:Int)))) y5 y6,_,by simp[gSt],t,some (.fz (.int (i:Int))),z5,z6,?_⟩
  rw[List.take_succ,e0,cq];rfl)
 subst hy
 rw[Nat.zero_add,List.take_length]at e
 E⟨y4,y5,y6,e⟩
Оjoined(ws:А α)(f jn:α->HP)(out:А HP)(nd:(Wr (ws.map f)).Nodup)(hz:(Wr (ws.map f)).length<=10000)(hl:ws.length<64)(hj:∀w∈ws,Gen.Yt [.lst [Yq (f w)]]=some (.fz (Yq (jn w))))
  (ok:∀h∈ws,HPok (jn h)) (nde:((ws.map jn).map U9).Nodup) (ho:out.Perm (ws.map jn)) (hos:out.Pairwise fun a b=>¬U9 b<U9 a):Gen.B6 [.lst ((ws.map f).map Yq)]=some (.ol (out.map Yq)):=by
 O⟨y4,y5,y6,l⟩:=Sl ws f jn nd hz И hj
 have hd:=holders_of (ws.map f) nd hz
 have g1:K6 (ws.length:Int):=Tu И
 have et:((ws.length:Int)).toNat=ws.length:=by W
 have s:=Zn5 (hs:=ws.map jn) (out:=out) (fun h hh=>by O⟨a,ha,rfl⟩:=a6.mp hh;E ok a ha) nde (by rw[ao];E hl) ho hos
 rw[bx]at s
 have s:Ap [.lst (ws.map fun h=>Yq (jn h))]=some (.ol (out.map Yq)):=s
 have l:Yh (Zg 4) Gen.Qs (Xg 0 ws.length) [some (.fz (.lst ((ws.map f).map Yq))),some (.fz (Bd (ws.map f))),some (.ol []),some (.oK [] []),none,none,none]=_:=l
 have el:((ws.map f).map Yq).length=ws.length:=by rw[ao,ao]
 unfold Gen.B6 Gen.Ed
 unfold gSt Bd at l
 unfold Bd at hd
 generalize (ws.map fun h=>Yq (jn h))=PS at*
 generalize Rr ws.length=SK at*
 generalize Rs ws.length=SV0 at*
 generalize (ws.map f).map Yq=HS at*
 generalize Wr (ws.map f)=AT at*
 generalize (Cy 0 (ws.map f)).map D.lst=HX at*
 generalize out.map Yq=OS at*
 generalize ws.length=N at*
 simp[hd,l,s,g1,el,et,Mc,-Yh]
end
end My
namespace My
open DL PySem TT TX
noncomputable abbrev Yu(ws:А Wk):D:=.dK (Zv (ws.map Wk.key)) (ws.map Wk.d)
ОEk{ws:А Wk}(nd:(ws.map Wk.key).Nodup){w:Wk}(h:w∈ws):look (Zv (ws.map Wk.key)) (ws.map Wk.d) (b8 w.key)=some w.d:=by
 rw[J3]
 O⟨i,hi,rfl⟩:=dy h
 E Sa nd Л i _ _ (by simp[hi]) (by simp[hi])
ОFy(b:Str)(rs:А (А Str))(ws:А Wk)(nd:(ws.map Wk.key).Nodup)(ok:∀w∈ws,WkOk w)(hr:∀r∈rs,r.length<=100)(hn:rs.length<=100):∀(xs:А Wk) (zs:А D),(∀x∈xs,x∈ws)->zs.length+xs.length<=1000->
  Y7 [.own,.cap 2,.cap 0,.cap 1,.acc] 4 (Zg 0) Q3 Gen.Up ((xs.map Wk.key).map D.str) [none,some (.fz (.lst (rs.map Zy))),some (.fz (.str b)),some (.fz (Yu ws)),some (.ol zs)]=
  some [none,some (.fz (.lst (rs.map Zy))),some (.fz (.str b)),some (.fz (Yu ws)),some (.ol (zs++(xs.map (U0 b rs)).map Yq))]
 | [],zs,_,_=>by simp
 |x::xs,zs,h,hz=>by
  rw[bn]at hz
  have ih:=Fy b rs ws nd ok hr hn xs (zs++[Yq (U0 b rs x)]) (fun y hy=>h y (ar _ hy)) (by rw[bj];simp;W)
  have hx:=h x aj
  have l:=Ek nd hx
  have lo:Gen.W9 [.tup [.str b,.str x.key],x.d,.lst (rs.map Zy)]=some (.fz (Yq (U0 b rs x))):=lone_heap b rs x (ok x hx) hr hn
  have z1:zs.length<PySem.sizeLine:=Ys И
  rw[gf]at ih
  rw[av,av,av,av]
  have e1:∀q,Gen.Up [some (.fz (.str x.key)),some (.fz (.lst (rs.map Zy))),some (.fz (.str b)),some (.fz (Yu ws)),some (.ol q)]=some (.tmp (.fz (Yq (U0 b rs x))),[some (.fz (.str x.key)),some (.fz (.lst (rs.map Zy))),some (.fz (.str b)),some (.fz (Yu ws)),some (.ol q)]):=fun q=>by
   unfold Gen.Up
   unfold Yu
   unfold Yq at lo⊢
   generalize [D.lst ((U0 b rs x).ns.map Zu),.lst ((U0 b rs x).ms.map Zu),.lst ((U0 b rs x).fs.map Wq)]=HH at*
   generalize x.d=XD at*
   generalize ws.map Wk.d=WD at*
   generalize Zv (ws.map Wk.key)=WK at*
   generalize rs.map Zy=RD at*
   simp[l,lo,s2,-look]
  unfold Yu at e1 ih⊢
  generalize Yq (U0 b rs x)=HH at*
  generalize ws.map Wk.d=WD at*
  generalize Zv (ws.map Wk.key)=WK at*
  generalize rs.map Zy=RD at*
  unfold Y7
  simp[e1,z1,-Y7]
  simpa[-Y7]using ih
noncomputable abbrev Wk.srt(w:Wk):А Str:=(J1 w.at').filter fun f=>decide (f≠Qc)
ПWf(b:Str)(rs:А (А Str))(w:Wk):HP:=⟨[Bh b w.key],w.marks rs,w.srt.map fun f=>(f,w.val f,[Bh b w.key])⟩
ОZlh{w:Wk}(ok:WkOk w):w.at'.Nodup:=di.mpr ⟨ok.nd,by simp,fun a ha c hc e=>ok.nk (by rw[<-au.mp hc,<-e];E ha)⟩
ОQm:∀(fs ts:А Str) (rs:А (А Str)) (n:Г),∀m∈Wc fs ts n rs,∃(j:Г) (l:А Str),m= .inr ((j:Int),l)/\n<=j/\∃r,rs[j- n]? =some r/\r.mapM (Yo fs ts)=some l
 |fs,ts,[],n,m,h=>nomatch h
 |fs,ts,r::rs,n,m,h=>by
  rw[Wc]at h
  rcases cn.mp h with z|z
  ·cases e:r.mapM (Yo fs ts)with
   |none=>rw[e]at z;C z
   |some l=>rw[e]at z;E⟨n,l,au.mp z,a7 _,r,by simp,e⟩
  ·O⟨j,l,e,hj,r',h1,h2⟩:=Qm fs ts rs (n+1) m z
   R⟨j,l,e,by W,r',?_,h2⟩
   rw[show j- n=(j- (n+1))+1 by W]
   E h1
ОGn:∀(fs ts:А Str) (rs:А (А Str)) (n:Г),(Wc fs ts n rs).Pairwise fun a b=>Gg a<Gg b
 |fs,ts,[],n=>.nil
 |fs,ts,r::rs,n=>by
  rw[Wc]
  R List.pairwise_append.mpr ⟨?_,Gn fs ts rs (n+1),fun a ha c hc=>?_⟩
  ·cases r.mapM (Yo fs ts)with
   |none=>E .nil
   |some l=>E List.pairwise_singleton _ _
  ·O⟨j,l,rfl,hj,_⟩:=Qm fs ts rs (n+1) c hc
   cases e:r.mapM (Yo fs ts)with
   |none=>rw[e]at ha;C ha
   |some l'=>
    rw[e]at ha
    rw[au.mp ha]
    show(((n:Int)).toNat::Ua l')<(((j:Int)).toNat::Ua l)
    rw[dj]
    E .inl И
ОMh:∀(fs ts:А Str) (rs:А (А Str)) (n:Г),(Wc fs ts n rs).length<=rs.length
 |fs,ts,[],n=>a7 _
 |fs,ts,r::rs,n=>by
  rw[Wc,bj,bn]
  have:=Mh fs ts rs (n+1)
  cases r.mapM (Yo fs ts)<;> simp<;> W
ОZbz(b:Str)(rs:А (А Str))(w:Wk)(ok:WkOk w)(hn:rs.length<64):Gen.Yt [.lst [Yq (U0 b rs w)]]=some (.fz (Yq (Wf b rs w))):=by
 have nf:(w.at'.filter fun f=>decide (f≠Qc)).Nodup:=(Zlh ok).filter _
 have ns:w.srt.Nodup:=((Yy w.at').nodup_iff.mpr (Zlh ok)).filter _
 R Zgh b w.key (U0 b rs w) (Wf b rs w).fs ?_ ?_ ?_ ?_ rfl ?_ ?_ ?_ ?_
 ·show((w.tri b).map Yp).Nodup
  unfold Wk.tri
  rw[bx]
  R df.mpr (nf.imp fun{x y} h e=>h ?_)
  have e:=Sum.inl.inj e
  E(List.cons.inj e).1
 ·show(w.tri b).length<64
  unfold Wk.tri
  rw[ao]
  have:=List.length_filter_le (fun f=>decide (f≠Qc)) w.at'
  have h2:w.at'.length=w.fs.length+1:=by simp
  have:=ok.few
  W
 ·E Nat.lt_of_le_of_lt (Mh _ _ _ _) hn
 ·intro t ht
  O⟨f,_,rfl⟩:=a6.mp (show t∈w.tri b from ht)
  rfl
 ·intro m hm
  O⟨j,l,e,_⟩:=Qm _ _ _ _ m (show m∈w.marks rs from hm)
  E⟨j,l,e⟩
 ·E Gn _ _ _ _
 ·E(((Yy w.at').filter _).map _)
 ·R df.mpr ?_
  have p:=(List.Pairwise.filter (fun f=>decide (f≠Qc)) (Lr w.at')).and ns
  R p.imp fun{x y} ⟨h1,h2⟩ e=>?_
  have h1:=of_decide_eq_true h1
  unfold Bg at e
  rw[Ay]at e
  rcases e with z|⟨z,_⟩
  ·E h1 z
  ·E h2 (Gf z).symm
ОSm(b:Str)(rs:А (А Str))(w:Wk):HPok (Wf b rs w):=by
 R⟨(fun z=>nomatch z),fun k hk=>⟨b,[w.key],au.mp hk⟩,fun m hm=>?_,fun t ht k hk=>?_⟩
 ·O⟨j,l,e,_⟩:=Qm _ _ _ _ m (show m∈w.marks rs from hm)
  E⟨j,l,e⟩
 ·O⟨f,_,rfl⟩:=a6.mp ht
  E⟨b,[w.key],au.mp hk⟩
end My
namespace My
open DL PySem TT TX
ПMi(ws:А Wk)(k:Str):Wk:=(ws.find? fun w=>decide (w.key=k)).getD ⟨"","",[],[]⟩
ОEl:∀{ws:А Wk} {w:Wk},(ws.map Wk.key).Nodup->w∈ws->Mi ws w.key=w
 |v::ws,w,nd,h=>by
  unfold Mi
  rw[List.find?_cons]
  O⟨n1,n2⟩:=fu.mp nd
  rcases bo.mp h with z|z
  ·subst z;simp
  ·have hn:¬v.key=w.key:=fun e=>n1 (by rw[e];E List.mem_map_of_mem z)
   rw[Ж hn]
   E El n2 z
structure Shf(rs:А (А Str))(ws:А Wk):В where
 nd:(ws.map Wk.key).Nodup
 ok:∀w∈ws,WkOk w
 few:ws.length<=20
 apart:ws.Pairwise fun a b=>∀m∈a.marks rs,m∉b.marks rs
structure Rls(rs:А (А Str)):В where
 few:rs.length<=60
 len:∀r∈rs,r.length<=100
ПRt(b:Str)(rs:А (А Str))(ws:А Wk):А HP:=(J1 (ws.map Wk.key)).map fun k=>Wf b rs (Mi ws k)
ОZad(b:Str)(rs:А (А Str))(hr:rs.length<=60):∀ws:А Wk,(Wr (ws.map (U0 b rs))).length<=61*ws.length
 | []=>by simp
 |w::ws=>by
  have ih:=Zad b rs hr ws
  have m:(w.marks rs).length<=_:=Mh w.at' w.vt rs 0
  show(Jb (U0 b rs w)++Wr (ws.map (U0 b rs))).length<=_
  have e:(Jb (U0 b rs w)).length=1+(w.marks rs).length:=by show([_]++w.marks rs).length=_;simp;W
  rw[bj,bn,e]
  W
ОZgi(rs:А (А Str))(w:Wk):(w.marks rs).Nodup:=(Gn w.at' w.vt rs 0).imp fun{a b} h e=>by subst e;E List.lt_irrefl _ h
ОZod(b:Str)(rs:А (А Str))(ws:А Wk)(h:Shf rs ws):(Wr (ws.map (U0 b rs))).Nodup:=by
 R List.pairwise_flatMap.mpr ⟨fun x hx=>?_,df.mpr ?_⟩
 ·O⟨w,hw,rfl⟩:=a6.mp hx
  show([Bh b w.key]++w.marks rs).Nodup
  R di.mpr ⟨by simp,Zgi rs w,fun a ha c hc e=>?_⟩
  O⟨j,l,z,_⟩:=Qm _ _ _ _ c hc
  rw[au.mp ha,z]at e
  C e
 ·have p:=h.apart.and (df.mp h.nd)
  R p.imp fun{v w} ⟨h1,h2⟩ x hx y hy e=>?_
  have hx:x∈[Bh b v.key]++v.marks rs:=hx
  have hy:y∈[Bh b w.key]++w.marks rs:=hy
  subst e
  rcases cn.mp hx with z|z
  ·rw[au.mp z]at hy
   rcases cn.mp hy with z2|z2
   ·have:=au.mp z2
    have:=Sum.inl.inj this
    E h2 (List.cons.inj (List.cons.inj this).2).1
   ·O⟨j,l,z,_⟩:=Qm _ _ _ _ _ z2
    C z
  ·rcases cn.mp hy with z2|z2
   ·O⟨j,l,z3,_⟩:=Qm _ _ _ _ _ z
    rw[au.mp z2]at z3
    C z3
   ·E h1 x z z2
ОZgj(b:Str)(rs:А (А Str))(ws:А Wk)(nd:(ws.map Wk.key).Nodup):(Rt b rs ws).Perm (ws.map (Wf b rs)):=by
 have p:=(Yy (ws.map Wk.key)).map fun k=>Wf b rs (Mi ws k)
 rw[bx]at p
 have e:ws.map ((fun k=>Wf b rs (Mi ws k))∘Wk.key)=ws.map (Wf b rs):=fj fun w hw=>by
  show Wf b rs (Mi ws w.key)=_
  rw[El nd hw]
 rw[e]at p
 E p
ОO6(b:Str)(rs:А (А Str))(w:Wk):U9 (Wf b rs w)=1::(tE b.cps.toList++(1::(tE w.key.cps.toList++[0]))):=rfl
ОZjl(b:Str)(rs:А (А Str))(v w:Wk):U9 (Wf b rs v)<U9 (Wf b rs w)↔v.key.cps.toList<w.key.cps.toList:=by
 rw[O6,O6,dj,Ay,dj,Ay]
 have i:¬b.cps.toList<b.cps.toList:=List.lt_irrefl _
 have j:¬([0]:А Г)< [0]:=List.lt_irrefl _
 constructor
 ·rintro(z|⟨_,z|⟨_,z|⟨_,z|⟨_,z⟩⟩⟩⟩)
  ·W
  ·E absurd z i
  ·W
  ·E z
  ·E absurd z j
 ·E fun z=>.inr ⟨rfl,.inr ⟨rfl,.inr ⟨rfl,.inl z⟩⟩⟩
ОGo{ws:А Wk}(nd:(ws.map Wk.key).Nodup){k:Str}(h:k∈ws.map Wk.key):Mi ws k∈ws/\(Mi ws k).key=k:=by
 O⟨w,hw,rfl⟩:=a6.mp h
 rw[El nd hw]
 E⟨hw,rfl⟩
ОZoe(b:Str)(rs:А (А Str))(ws:А Wk):∀h∈Rt b rs ws,HPok h:=fun h hh=>by
 O⟨k,_,rfl⟩:=a6.mp hh
 E Sm b rs _
Оpool_of(b:Str)(rs:А (А Str))(ws:А Wk)(hs:Shf rs ws)(hr:Rls rs):Gen.Qt [.str b,Yu ws,.lst (rs.map Zy)]=some (.ol ((Rt b rs ws).map Yq)):=by
 have c:=Fy b rs ws hs.nd hs.ok hr.len (by have:=hr.few;W) ws [] (fun _ h=>h) (by have:=hs.few;simp;W)
 rw[dz]at c
 have few:=hs.few
 have j:=joined ws (U0 b rs) (Wf b rs) (Rt b rs ws) (Zod b rs ws hs) (by have:=Zad b rs hr.few ws;W) И (fun w hw=>Zbz b rs w (hs.ok w hw) (by have:=hr.few;W)) (fun w _=>Sm b rs w) (by
   rw[bx]
   R df.mpr ((df.mp hs.nd).imp fun{v w} h e=>h ?_)
   have e:U9 (Wf b rs v)=U9 (Wf b rs w):=e
   rw[O6,O6]at e
   E Gf (Zf2 _ _ _ _ (List.cons.inj (Zf2 _ _ _ _ (List.cons.inj e).2).2).2).1) (Zgj b rs ws hs.nd) (by
   R df.mpr ?_
   R(List.Pairwise.and_mem.mp (Lr (ws.map Wk.key))).imp fun{x y} ⟨hx,hy,h⟩ e=>?_
   rw[Zjl,(Go hs.nd ((Yy _).mem_iff.mp hx)).2,(Go hs.nd ((Yy _).mem_iff.mp hy)).2]at e
   E of_decide_eq_true h e)
 have ek:=Fs (ws.map Wk.key)
 unfold Gen.Qt Gen.Mf
 unfold Yu at c⊢
 generalize (Rt b rs ws).map Yq=OUT at*
 generalize (ws.map (U0 b rs)).map Yq=LH at*
 generalize ws.map Wk.d=WD at*
 generalize Zv (ws.map Wk.key)=WK at*
 generalize rs.map Zy=RD at*
 generalize (ws.map Wk.key).map D.str=KS at*
 simp[c,j,ek,-Y7]
end My
namespace My
open DL PySem TT TX
ОZjm(r:А Str)(p:Str->Bool):(r.map fun f=>D.bl (p f)).all D.isFlat=true:=by
 rw[List.all_map];E g7.mpr fun f hf=>rfl
ОZr8(r:А Str)(p:Str->Bool):Ll (.bl false) (r.map fun f=>D.bl (p f))= !(r.all p):=by
 unfold Ll
 induction r with
 |nil=>rfl
 |cons x r ih=>rw[av,List.any_cons,ih,List.all_cons,Zif];cases p x<;> simp
ОZr9(r:А Str)(p:Str->Bool):Jy (.bl false) (.lst (r.map fun f=>D.bl (p f)))=some (.fz (.bl (r.all p))):=by
 show(if D.isFlat (.bl false)=true/\(r.map fun f=>D.bl (p f)).all D.isFlat=true then some (SV.fz (.bl (!Ll (.bl false) (r.map fun f=>D.bl (p f)))))else none)=_
 rw[Е ⟨rfl,Zjm r p⟩,Zr8,Bool.not_not]
ПZgk(FS:А L2.Key)(TS:А D)(o:Б SV):Prop:=o=some (.oK FS TS)\/o=some (.fz (.dK FS TS))
noncomputable abbrev Nh(A0 A1 A2 A3 A4 A5 A6 o7:Б SV)(M:А D)(x9 x10:Б SV)(o11 x12:Б SV):Yf:=[A0,A1,A2,A3,A4,A5,A6,o7,some (.ol M),x9,x10,o11,x12]
section
variable(A0 A1 A2 A3 A4 A5 A6:Б SV)
ОZgl(fs ts:А Str)(o7 o11 x12:Б SV)(ho:Zgk (Zv fs) (ts.map D.str) o7)(M:А NK)(n:Г)(r:А Str)(hr:r.length<=100)(hM:M.length<=100):∃p7,Zgk (Zv fs) (ts.map D.str) p7/\
  Gen.Q5 (Nh A0 A1 A2 A3 A4 A5 A6 o7 (M.map Zu) (some (.fz (.int (n:Int)))) (some (.fz (Zy r))) o11 x12)=
  some (.nx (Nh A0 A1 A2 A3 A4 A5 A6 p7 ((M++(match r.mapM (Yo fs ts)with|some l=>[(.inr ((n:Int),l):NK)]|none=>[])).map Zu) (some (.fz (.int (n:Int)))) (some (.fz (Zy r))) o11 x12)):=by
 have h1:Y7 [.own,.cap 7,.acc] 2 (Zg 0) Q3 Gen.Mr (r.map D.str) _=_:=Sg fs ts 7 r hr
 have nz:=Zr9 r fun f=>(Yo fs ts f).isSome
 have z1:M.length<PySem.sizeLine:=Ys И
 unfold Gen.Q5 Nh
 rw[Rq]
 by_cases h:∀f∈r,(Yo fs ts f).isSome
 ·have h2:Y7 [.own,.cap 7,.acc] 2 (Zg 0) Q3 Gen.Ms (r.map D.str) _=_:=Sh fs ts 7 r hr h
  rw[Е h]
  have al:(r.all fun f=>(Yo fs ts f).isSome)=true:=g7.mpr fun f hf=>h f hf
  rw[al]at nz
  R⟨_,.inr rfl,?_⟩
  generalize (r.map fun f=>D.bl (Yo fs ts f).isSome)=BL at*
  generalize ts.map D.str=TS at*
  generalize Zv fs=FS at*
  rcases ho with rfl|rfl
  ·simp[h1,h2,nz,z1,s2,-Y7,-Jy]
   unfold Zu
   simp
  ·simp[h1,h2,nz,z1,s2,-Y7,-Jy]
   unfold Zu
   simp
 ·rw[Д h]
  have al:(r.all fun f=>(Yo fs ts f).isSome)=false:=by
   rw[Bool.eq_false_iff];E fun z=>h fun f hf=>g7.mp z f hf
  rw[al]at nz
  R⟨o7,ho,?_⟩
  generalize (r.map fun f=>D.bl (Yo fs ts f).isSome)=BL at*
  generalize ts.map D.str=TS at*
  generalize Zv fs=FS at*
  rcases ho with rfl|rfl
  ·simp[h1,nz,z1,-Y7,-Jy]
  ·simp[h1,nz,z1,-Y7,-Jy]
ОFz(fs ts:А Str)(o11 x12:Б SV):∀(rs:А (А Str)) (n:Г) (M:А NK) (o7 x9 x10:Б SV),Zgk (Zv fs) (ts.map D.str) o7->(∀r∈rs,r.length<=100)->M.length+rs.length<=100->∃p7 y9 y10,Zgk (Zv fs) (ts.map D.str) p7/\
  Yh (Wa 2 (Zs (Zg 9) (Zs (Zg 10) Wb))) Gen.Q5 (((rs.map Zy).zipIdx n).map fun p=>D.tup [.int (p.2:Г),p.1]) (Nh A0 A1 A2 A3 A4 A5 A6 o7 (M.map Zu) x9 x10 o11 x12)=
  some (.nx (Nh A0 A1 A2 A3 A4 A5 A6 p7 ((M++Wc fs ts n rs).map Zu) y9 y10 o11 x12))
 | [],n,M,o7,x9,x10,ho,_,_=>⟨o7,x9,x10,ho,by simp[Wc]⟩
 |r::rs,n,M,o7,x9,x10,ho,hr,hM=>by
  rw[bn]at hM
  O⟨q7,hq,t⟩:=Zgl A0 A1 A2 A3 A4 A5 A6 fs ts o7 o11 x12 ho M n r (hr r aj) И
  O⟨p7,y9,y10,hp,ih⟩:=Fz fs ts o11 x12 rs (n+1) (M++(match r.mapM (Yo fs ts)with|some l=>[(.inr ((n:Int),l):NK)]|none=>[])) q7 (some (.fz (.int (n:Int)))) (some (.fz (Zy r))) hq (fun q hq=>hr q (ar _ hq)) (by
   rw[bj]
   cases r.mapM (Yo fs ts)<;> simp<;> W)
  R⟨p7,y9,y10,hp,?_⟩
  rw[av,List.zipIdx_cons,av,Wc]
  rw[gf]at ih
  unfold Yh
  rw[show(Wa 2 (Zs (Zg 9) (Zs (Zg 10) Wb))).run (.tup [.int (n:Г),Zy r]) (Nh A0 A1 A2 A3 A4 A5 A6 o7 (M.map Zu) x9 x10 o11 x12)=some (Nh A0 A1 A2 A3 A4 A5 A6 o7 (M.map Zu) (some (.fz (.int (n:Int)))) (some (.fz (Zy r))) o11 x12)from by simp]
  dsimp only[b7]
  rw[t]
  E ih
end
section
variable(A1 A2 A3 A5 A6:Б SV)
ОEm(b k:Str)(fs ts:А Str)(hl:fs.length=ts.length)(o7:Б SV)(ho:Zgk (Zv fs) (ts.map D.str) o7)(M:А D)(x9 x10:Б SV):∀(xs:А Str) (T:А D) (x12:Б SV),(∀x∈xs,x∈fs)->T.length+xs.length<=1000->∃y12,
  Yh (Zg 12) Gen.W7 (xs.map D.str) (Nh (some (.fz (.str b))) A1 A2 A3 (some (.fz (.str k))) A5 A6 o7 M x9 x10 (some (.ol T)) x12)=
  some (.nx (Nh (some (.fz (.str b))) A1 A2 A3 (some (.fz (.str k))) A5 A6 o7 M x9 x10 (some (.ol (T++(xs.filter fun f=>decide (f≠Qc)).map fun f=>D.tup [.str f,.str ((Yo fs ts f).getD ""),.lst [.tup [.str b,.str k]]]))) y12))
 | [],T,x12,_,_=>⟨x12,by simp⟩
 |x::xs,T,x12,h,hz=>by
  rw[bn]at hz
  O⟨v,hv⟩:=Option.isSome_iff_exists.mp ((Ei fs ts x hl).mp (h x aj))
  have l:=(J3 x fs (ts.map D.str)).trans (Jn fs ts x)
  rw[hv]at l
  have z1:T.length<PySem.sizeLine:=Ys И
  have r0:(Zg 12).run (.str x) (Nh (some (.fz (.str b))) A1 A2 A3 (some (.fz (.str k))) A5 A6 o7 M x9 x10 (some (.ol T)) x12)=some (Nh (some (.fz (.str b))) A1 A2 A3 (some (.fz (.str k))) A5 A6 o7 M x9 x10 (some (.ol T)) (some (.fz (.str x)))):=by simp
  by_cases hx:x=Qc
  ·O⟨y12,ih⟩:=Em b k fs ts hl o7 ho M x9 x10 xs T (some (.fz (.str x))) (fun y hy=>h y (ar _ hy)) И
   R⟨y12,?_⟩
   rw[av,List.filter_cons,Д (by simp[hx])]
   have e1:Gen.W7 (Nh (some (.fz (.str b))) A1 A2 A3 (some (.fz (.str k))) A5 A6 o7 M x9 x10 (some (.ol T)) (some (.fz (.str x))))=some (.nx (Nh (some (.fz (.str b))) A1 A2 A3 (some (.fz (.str k))) A5 A6 o7 M x9 x10 (some (.ol T)) (some (.fz (.str x))))):=by
    unfold Gen.W7 Nh
    simp[hx]
   unfold Yh
   rw[r0]
   dsimp only[b7]
   rw[e1]
   E ih
  ·O⟨y12,ih⟩:=Em b k fs ts hl o7 ho M x9 x10 xs (T++[D.tup [.str x,.str ((Yo fs ts x).getD ""),.lst [.tup [.str b,.str k]]]]) (some (.fz (.str x))) (fun y hy=>h y (ar _ hy)) (by rw[bj];simp;W)
   R⟨y12,?_⟩
   rw[av,List.filter_cons,Е (by simp[hx]),av]
   rw[gf]at ih
   rw[hv]at ih⊢
   have e1:Gen.W7 (Nh (some (.fz (.str b))) A1 A2 A3 (some (.fz (.str k))) A5 A6 o7 M x9 x10 (some (.ol T)) (some (.fz (.str x))))=some (.nx (Nh (some (.fz (.str b))) A1 A2 A3 (some (.fz (.str k))) A5 A6 o7 M x9 x10 (some (.ol (T++[D.tup [.str x,.str v,.lst [.tup [.str b,.str k]]]]))) (some (.fz (.str x))))):=by
    unfold Gen.W7 Nh
    generalize ts.map D.str=TS at*
    generalize Zv fs=FS at*
    rcases ho with rfl|rfl
    ·simp[hx,l,s1,s2,s3,z1,-look]
    ·simp[hx,l,s1,s2,s3,z1,-look]
   unfold Yh
   rw[r0]
   dsimp only[b7]
   rw[e1]
   E ih
end
ОZgm(b:Str)(rs:А (А Str))(ws:А Wk)(hs:Shf rs ws)(hr:Rls rs)(w:Wk)(hw:w∈ws)(P:А D)(hP:P.length<=1000)(x5 x6 x7 x8 x9 x10 x11 x12:Б SV):∃y5 y6 y7 y8 y9 y10 y11 y12,
  Gen.Uo [some (.fz (.str b)),some (.fz (Yu ws)),some (.fz (.lst (rs.map Zy))),some (.ol P),some (.fz (.str w.key)),x5,x6,x7,x8,x9,x10,x11,x12]=
  some (.nx [some (.fz (.str b)),some (.fz (Yu ws)),some (.fz (.lst (rs.map Zy))),some (.ol (P++[Yq (Wf b rs w)])),some (.fz (.str w.key)),y5,y6,y7,y8,y9,y10,y11,y12]):=by
 have ok:=hs.ok w hw
 have l:=Ek hs.nd hw
 have hl:w.at'.length=w.vt.length:=by simp[ok.len]
 have hp:Wj (Zv w.fs) (w.ts.map D.str) (b8 Qv) (.str w.kind)=(Zv w.at',w.vt.map D.str):=by
  rw[Aw,Ax ok.nk]
  simp
 have z:(w.ts.map D.str).length<PySem.sizeLine:=Ys (by have:=ok.few;have:=ok.len;simp;W)
 O⟨p7,y9,y10,hk,m⟩:=Fz (some (.fz (.str b))) (some (.fz (Yu ws))) (some (.fz (.lst (rs.map Zy)))) (some (.ol P)) (some (.fz (.str w.key))) (some (.fz (.str w.kind))) (some (.fz (.dK (Zv w.fs) (w.ts.map D.str)))) w.at' w.vt x11 x12 rs 0 [] (some (.oK (Zv w.at') (w.vt.map D.str))) x9 x10 (.inl rfl) hr.len (by have:=hr.few;simp;W)
 rw[show(((rs.map Zy).zipIdx 0).map fun p=>D.tup [.int (p.2:Г),p.1])=Qf (rs.map Zy)from rfl,dz]at m
 have at_len:w.at'.length=w.fs.length+1:=by simp
 O⟨y12,t⟩:=Em (some (.fz (Yu ws))) (some (.fz (.lst (rs.map Zy)))) (some (.ol P)) (some (.fz (.str w.kind))) (some (.fz (.dK (Zv w.fs) (w.ts.map D.str)))) b w.key w.at' w.vt hl p7 hk ((Wc w.at' w.vt 0 rs).map Zu) y9 y10 (J1 w.at') [] x12 (fun x hx=>(Yy _).mem_iff.mp hx) (by rw[(Yy _).length_eq];have:=ok.few;simp;W)
 rw[dz]at t
 have sd:Bz [.dK (Zv w.at') (w.vt.map D.str)]=some (.ol ((J1 w.at').map D.str)):=Fn (by have:=ok.few;W)
 have eh:Yq (Wf b rs w)= .tup [.lst [.tup [.str b,.str w.key]],.lst ((Wc w.at' w.vt 0 rs).map Zu),.lst (((J1 w.at').filter fun f=>decide (f≠Qc)).map fun f=>D.tup [.str f,.str ((Yo w.at' w.vt f).getD ""),.lst [.tup [.str b,.str w.key]]])]:=by
  unfold Yq Wf
  dsimp only
  rw[bx]
  rfl
 have zP:P.length<PySem.sizeLine:=Ys И
 R⟨some (.fz (.str w.kind)),some (.fz (.dK (Zv w.fs) (w.ts.map D.str))),p7,some (.fz (.lst ((Wc w.at' w.vt 0 rs).map Zu))),y9,y10,some (.fz (.lst (((J1 w.at').filter fun f=>decide (f≠Qc)).map fun f=>D.tup [.str f,.str ((Yo w.at' w.vt f).getD ""),.lst [.tup [.str b,.str w.key]]]))),y12,?_⟩
 rw[eh]
 unfold Gen.Uo
 unfold Nh at m t
 unfold Yu at m t⊢
 have wd:w.d= .tup [.str w.kind,.dK (Zv w.fs) (w.ts.map D.str)]:=rfl
 rw[wd]at l
 generalize (((J1 w.at').filter fun f=>decide (f≠Qc)).map fun f=>D.tup [.str f,.str ((Yo w.at' w.vt f).getD ""),.lst [.tup [.str b,.str w.key]]])=FL at*
 generalize (Wc w.at' w.vt 0 rs).map Zu=MS at*
 generalize ws.map Wk.d=WD at*
 generalize Zv (ws.map Wk.key)=WK at*
 generalize rs.map Zy=RD at*
 generalize (J1 w.at').map D.str=SR at*
 generalize w.vt.map D.str=VT at*
 generalize Zv w.at'=AT at*
 generalize w.ts.map D.str=TS at*
 generalize Zv w.fs=FS at*
 have m:Yh (Wa 2 (Zs (Zg 9) (Zs (Zg 10) Wb))) Gen.Q5 (Qf RD) [some (.fz (.str b)),some (.fz (.dK WK WD)),some (.fz (.lst RD)),some (.ol P),some (.fz (.str w.key)),some (.fz (.str w.kind)),some (.fz (.dK FS TS)),some (.oK AT VT),some (.ol []),x9,x10,x11,x12]=_:=m
 rcases hk with rfl|rfl
 ·simp[l,hp,z,m,sd,t,zP,s1,s2,s3,-Yh,-look,-Wj]
 ·simp[l,hp,z,m,sd,t,zP,s1,s2,s3,-Yh,-look,-Wj]
ОSn(b:Str)(rs:А (А Str))(ws:А Wk)(hs:Shf rs ws)(hr:Rls rs):∀(ks:А Str) (P:А D) (x4 x5 x6 x7 x8 x9 x10 x11 x12:Б SV),(∀k∈ks,k∈ws.map Wk.key)->P.length+ks.length<=1000->∃y4 y5 y6 y7 y8 y9 y10 y11 y12,
  Yh (Zg 4) Gen.Uo (ks.map D.str) [some (.fz (.str b)),some (.fz (Yu ws)),some (.fz (.lst (rs.map Zy))),some (.ol P),x4,x5,x6,x7,x8,x9,x10,x11,x12]=
  some (.nx [some (.fz (.str b)),some (.fz (Yu ws)),some (.fz (.lst (rs.map Zy))),some (.ol (P++(ks.map fun k=>Yq (Wf b rs (Mi ws k))))),y4,y5,y6,y7,y8,y9,y10,y11,y12])
 | [],P,x4,x5,x6,x7,x8,x9,x10,x11,x12,_,_=>⟨x4,x5,x6,x7,x8,x9,x10,x11,x12,by simp⟩
 |k::ks,P,x4,x5,x6,x7,x8,x9,x10,x11,x12,h,hz=>by
  rw[bn]at hz
  O⟨hw,ek⟩:=Go hs.nd (h k aj)
  O⟨z5,z6,z7,z8,z9,z10,z11,z12,t⟩:=Zgm b rs ws hs hr (Mi ws k) hw P И x5 x6 x7 x8 x9 x10 x11 x12
  rw[ek]at t
  O⟨y4,y5,y6,y7,y8,y9,y10,y11,y12,ih⟩:=Sn b rs ws hs hr ks (P++[Yq (Wf b rs (Mi ws k))]) (some (.fz (.str k))) z5 z6 z7 z8 z9 z10 z11 z12 (fun j hj=>h j (ar _ hj)) (by rw[bj];simp;W)
  R⟨y4,y5,y6,y7,y8,y9,y10,y11,y12,?_⟩
  rw[gf]at ih
  rw[av,av]
  unfold Yh
  rw[show(Zg 4).run (.str k) [some (.fz (.str b)),some (.fz (Yu ws)),some (.fz (.lst (rs.map Zy))),some (.ol P),x4,x5,x6,x7,x8,x9,x10,x11,x12]=some [some (.fz (.str b)),some (.fz (Yu ws)),some (.fz (.lst (rs.map Zy))),some (.ol P),some (.fz (.str k)),x5,x6,x7,x8,x9,x10,x11,x12]from by simp]
  dsimp only[b7]
  rw[t]
  E ih
ОZjn(b:Str)(rs:А (А Str))(ws:А Wk)(hs:Shf rs ws)(hr:Rls rs):Gen.Oa [.str b,Yu ws,.lst (rs.map Zy)]=some (.ol ((Rt b rs ws).map Yq)):=by
 have few:=hs.few
 O⟨y4,y5,y6,y7,y8,y9,y10,y11,y12,l⟩:=Sn b rs ws hs hr (J1 (ws.map Wk.key)) [] none none none none none none none none none (fun k hk=>(Yy _).mem_iff.mp hk) (by rw[(Yy _).length_eq];simp;W)
 have sd:Bz [Yu ws]=some (.ol ((J1 (ws.map Wk.key)).map D.str)):=Fn (by simp;W)
 rw[dz]at l
 have eo:(Rt b rs ws).map Yq=(J1 (ws.map Wk.key)).map fun k=>Yq (Wf b rs (Mi ws k)):=by unfold Rt;rw[bx];rfl
 rw[eo]
 unfold Gen.Oa Gen.Me
 unfold Yu at l sd⊢
 generalize ((J1 (ws.map Wk.key)).map fun k=>Yq (Wf b rs (Mi ws k)))=OUT at*
 generalize (J1 (ws.map Wk.key)).map D.str=SR at*
 generalize ws.map Wk.d=WD at*
 generalize Zv (ws.map Wk.key)=WK at*
 generalize rs.map Zy=RD at*
 simp[l,sd,-Yh]
end My
namespace My
open DL PySem TT TX
noncomputable abbrev PS:=А (Str×Str)
noncomputable abbrev Q6(ps:PS):А L2.Key:=Zv (ps.map (·.1))
noncomputable abbrev Q7(ps:PS):А D:=(ps.map (·.2)).map D.str
noncomputable abbrev IN:Str:=b9 "in"
ПQn(ps:PS)(k v:Str):PS:=if k∈ps.map (·.1)then ps.map fun p=>if p.1=k then(p.1,v)else p else ps++[(k,v)]
ПUg(ps:PS)(k:Str):PS:=ps.filter fun p=>decide (p.1≠k)
ОXs(ps:PS):(ps.map (·.1)).zip (ps.map (·.2))=ps:=by rw[List.zip_map'];simp
ОZgn(ps:PS):(Q6 ps).zip (Q7 ps)=ps.map fun p=>((b8 p.1:L2.Key),D.str p.2):=by
 unfold Q6 Q7 Zv
 rw[List.zip_map,Xs];rfl
ОZae(ps:PS)(k:Str):(b8 k:L2.Key)∈Q6 ps↔k∈ps.map (·.1):=by
 constructor
 ·intro h;O⟨x,hx,e⟩:=a6.mp h;C e;E hx
 ·E fun h=>List.mem_map_of_mem h
ОKa(ps:PS)(k v:Str):Wj (Q6 ps) (Q7 ps) (b8 k) (.str v)=(Q6 (Qn ps k v),Q7 (Qn ps k v)):=by
 unfold Wj Qn
 by_cases h:k∈ps.map (·.1)
 ·rw[Е ((Zae ps k).mpr h),Е h,Zgn]
  R Prod.ext ?_ ?_
  ·show Q6 ps=Zv ((ps.map fun p=>if p.1=k then(p.1,v)else p).map (·.1))
   rw[bx]
   R congrArg Zv (fj fun p _=>?_)
   show p.1=(if p.1=k then(p.1,v)else p).1
   split<;> rfl
  ·show(ps.map fun p=>((b8 p.1:L2.Key),D.str p.2)).map (fun p=>if p.1=b8 k then D.str v else p.2)=((ps.map fun p=>if p.1=k then(p.1,v)else p).map (·.2)).map D.str
   rw[bx,bx,bx]
   R fj fun p _=>?_
   show(if(b8 p.1:L2.Key)=b8 k then D.str v else D.str p.2)=D.str (if p.1=k then(p.1,v)else p).2
   by_cases e:p.1=k
   ·rw[Е (by rw[e]),Е e]
   ·rw[Д (fun z=>e (b8.inj z)),Д e]
 ·rw[Д fun z=>h ((Zae ps k).mp z),Д h]
  simp[Q6,Q7,Zv]
ОXt(ps:PS)(k:Str):Jx (Q6 ps) (Q7 ps) (b8 k)=(Q6 (Ug ps k),Q7 (Ug ps k)):=by
 unfold Jx
 rw[Zgn,List.filter_map]
 have e:((fun p:L2.Key×D=>decide (p.1≠b8 k))∘fun p:Str×Str=>((b8 p.1:L2.Key),D.str p.2))=fun p=>decide (p.1≠k):=by
  funext p
  show decide ((b8 p.1:L2.Key)≠b8 k)=decide (p.1≠k)
  E decide_eq_decide.mpr ⟨fun h z=>h (by rw[z]),fun h z=>h (b8.inj z)⟩
 rw[e]
 R Prod.ext ?_ ?_
 ·show _=Zv ((Ug ps k).map (·.1))
  unfold Zv Ug
  simp only[bx];rfl
 ·show _=((Ug ps k).map (·.2)).map D.str
  unfold Ug
  simp only[bx];rfl
ОZb0(ps:PS)(k:Str):Yo (ps.map (·.1)) (ps.map (·.2)) k=ps.lookup k:=by unfold Yo;rw[Xs]
ОXu(ps:PS)(k:Str):look (Q6 ps) (Q7 ps) (b8 k)=(ps.lookup k).map D.str:=by
 rw[J3,Jn,Zb0]
ОEn{ps:PS}{k v:Str}(h:ps.lookup k=some v):(k,v)∈ps:=by
 O⟨l1,l2,e,_⟩:=List.lookup_eq_some_iff.mp h
 rw[e];simp
ПYz(k:Г)(t:Str):Prop:=t.cps.toList.getLast? =some (48+k)
structure Lm(F:А Str)(k B:Г)(ps:PS):В where
 nd:(ps.map (·.1)).Nodup
 sub:∀p∈ps,p.1∈F++[IN,Qc]
 ends:∀p∈ps,p.1≠IN->Yz k p.2
 len:∀p∈ps,p.2.length<=B
ОLm.put{F:А Str}{k B:Г}{ps:PS}(h:Lm F k B ps){f v:Str}(hf:f∈F++[IN,Qc])(he:f≠IN->Yz k v)(hl:v.length<=B):Lm F k B (Qn ps f v):=by
 unfold Qn
 by_cases hm:f∈ps.map (·.1)
 ·rw[Е hm]
  have q:∀p∈ps.map (fun p=>if p.1=f then(p.1,v)else p),p∈ps\/p=(f,v):=fun p hp=>by
   O⟨r,hr,rfl⟩:=a6.mp hp
   by_cases e:r.1=f
   ·rw[Е e,e];E .inr rfl
   ·rw[Д e];E .inl hr
  R⟨?_,fun p hp=>?_,fun p hp=>?_,fun p hp=>?_⟩
  ·rw[bx]
   have:ps.map ((·.1)∘fun p=>if p.1=f then(p.1,v)else p)=ps.map (·.1):=fj fun p _=>by
    show(if p.1=f then(p.1,v)else p).1=p.1
    split<;> rfl
   rw[this];E h.nd
  ·rcases q p hp with z|z
   ·E h.sub p z
   ·rw[z];E hf
  ·rcases q p hp with z|z
   ·E h.ends p z
   ·rw[z];E he
  ·rcases q p hp with z|z
   ·E h.len p z
   ·rw[z];E hl
 ·rw[Д hm]
  have q:∀p∈ps++[(f,v)],p∈ps\/p=(f,v):=fun p hp=>by simpa using hp
  R⟨?_,fun p hp=>?_,fun p hp=>?_,fun p hp=>?_⟩
  ·rw[cq]
   E di.mpr ⟨h.nd,by simp,fun a ha c hc e=>hm (by rw[<-(show c=f by simpa using hc),<-e];E ha)⟩
  ·rcases q p hp with z|z
   ·E h.sub p z
   ·rw[z];E hf
  ·rcases q p hp with z|z
   ·E h.ends p z
   ·rw[z];E he
  ·rcases q p hp with z|z
   ·E h.len p z
   ·rw[z];E hl
ОLm.drop{F:А Str}{k B:Г}{ps:PS}(h:Lm F k B ps)(f:Str):Lm F k B (Ug ps f):=by
 have q:∀p∈Ug ps f,p∈ps:=fun p hp=>(List.mem_filter.mp hp).1
 E⟨h.nd.sublist ((List.filter_sublist).map _),fun p hp=>h.sub p (q p hp),fun p hp=>h.ends p (q p hp),fun p hp=>h.len p (q p hp)⟩
ОLm.mono{F:А Str}{k B C:Г}{ps:PS}(h:Lm F k B ps)(hb:B<=C):Lm F k C ps:=⟨h.nd,h.sub,h.ends,fun p hp=>d3 (h.len p hp) hb⟩
ОLm.few{F:А Str}{k B:Г}{ps:PS}(h:Lm F k B ps):ps.length<=F.length+2:=by
 have:=List.Nodup.length_le_of_subset h.nd (l₂:=F++[IN,Qc]) fun x hx=>by
  O⟨p,hp,rfl⟩:=a6.mp hx
  E h.sub p hp
 simpa using this
ОZjo:∀m<100,(b9 (toString ((m:Г):Int))).length<=2:=by decide+kernel
ОZaf:∀k<10,(b9 (toString ((k:Г):Int))).cps.toList=[48+k]:=by decide+kernel
Пpre:Г->Str
 |0=>"Of " |1=>"A. " |2=>"/ " |3=>"(*) " |_=>"n: "
ОZof:∀j<5,L2.atI ([("Of ":Str),"A. ","/ ","(*) ","n: "].map D.str) ((j:Г):Int)=some (.str (pre j))
 |0,_=>rfl
 |1,_=>rfl
 |2,_=>rfl
 |3,_=>rfl
 |4,_=>rfl
ОTc(j:Г):(pre j).length<=4:=by
 unfold pre
 split<;> decide
noncomputable abbrev E3(n:Int):Str:=b9 (toString (n % 100))
ПMu(n:Int)(k j:Г):Str:=((pre j++E3 n)++b9 ".")++b9 (toString ((k:Г):Int))
ОRu(n:Int):(E3 n).length<=2:=by
 have h0:0<=n % 100:=fw _ Й
 have h1:n % 100<100:=dw _ Й
 obtain⟨m,hm⟩:∃m:Г,(m:Int)=n % 100:=⟨(n % 100).toNat,by W⟩
 unfold E3
 rw[<-hm]
 E Zjo m И
ОZgo{k:Г}(h:k<10):(b9 (toString ((k:Г):Int))).length=1:=by
 have:=Zaf k h
 rw[show(b9 (toString ((k:Г):Int))).length=(b9 (toString ((k:Г):Int))).cps.toList.length from aw.symm,this];rfl
ОZb1(n:Int){k:Г}(j:Г)(h:k<10):Yz k (Mu n k j):=by
 unfold Yz Mu
 rw[Str.cps_append]
 simp only[Array.toList_append]
 rw[Zaf k h]
 simp
ОNf:(b9 ".").length=1:=by decide+kernel
ОZgp(n:Int){k:Г}(j:Г)(h:k<10):(Mu n k j).length<=8:=by
 unfold Mu
 rw[Os,Os,Os,Zgo h,Nf]
 have:=Ru n
 have:=Tc j
 W
noncomputable abbrev oSt(A0 A1 A2 A3 A5:Б SV)(k:Г)(n:Int)(ps:PS)(x8 x9:Б SV):Yf:=[A0,A1,A2,A3,some (.fz (.int (k:Int))),A5,some (.fz (.int n)),some (.oK (Q6 ps) (Q7 ps)),x8,x9]
ОZgq(A0 A1 A2 A3 A5:Б SV)(F:А Str)(k:Г)(hk:k<10)(n:Int)(ps:PS)(ow:Lm F k 100 ps)(hF:F.length<=3)(j:Г)(hj:j<5)(f:Str)(hf:f∈F++[IN,Qc]):∃ps',Lm F k 100 ps'/\
  Gen.Wm (oSt A0 A1 A2 A3 A5 k n ps (some (.fz (.int (j:Int)))) (some (.fz (.str f))))=some (.nx (oSt A0 A1 A2 A3 A5 k n ps' (some (.fz (.int (j:Int)))) (some (.fz (.str f))))):=by
 by_cases h:0<n / (64+(j:Int)) % 3
 ·R⟨Qn ps f (Mu n k j),ow.put hf (fun _=>Zb1 n j hk) (d3 (Zgp n j hk) Й),?_⟩
  have pa:=Zof j hj
  have pp:=Ka ps f (Mu n k j)
  have z:(Q7 ps).length<PySem.sizeLine:=Ys (by have:=ow.few;simp;W)
  have l1:(pre j).length+(E3 n).length<=PySem.sizeLine:=Qx (by have:=Tc j;have:=Ru n;W)
  have l2:(pre j++E3 n).length+(b9 ".").length<=PySem.sizeLine:=Qx (by rw[Os,Nf];have:=Tc j;have:=Ru n;W)
  have l3:(pre j++E3 n++b9 ".").length+(b9 (toString ((k:Г):Int))).length<=PySem.sizeLine:=Qx (by rw[Os,Os,Nf,Zgo hk];have:=Tc j;have:=Ru n;W)
  have h0:0<=n % 100:=fw _ Й
  have h1:n % 100<100:=dw _ Й
  have g1:(n % 100).natAbs.log2<1920:=by
   R Nat.lt_of_le_of_lt (Nat.log2_le_self _) ?_
   W
  have g2:((k:Int)).natAbs.log2<1920:=by
   R Nat.lt_of_le_of_lt (Nat.log2_le_self _) ?_
   W
  have nz:0<64+(j:Int)/\64+(j:Int)<1073741824:=by W
  have sd1:Pk [.int (n % 100)]=some (.fz (.str (E3 n))):=by
   show(if(n % 100).natAbs.log2<1920 then _ else _)=_
   rw[Е g1]
  have sd2:Pk [.int (k:Int)]=some (.fz (.str (b9 (toString ((k:Г):Int))))):=by
   show(if((k:Int)).natAbs.log2<1920 then _ else _)=_
   rw[Е g2]
  unfold Mu at pp
  unfold Gen.Wm oSt
  simp only[av,List.map_nil]at pa
  have five:5<=PySem.sizeLine:=by decide
  unfold Mu
  generalize Q6 (Qn ps f (pre j++E3 n++b9 "."++b9 (toString ((k:Г):Int))))=KK at*
  generalize Q7 (Qn ps f (pre j++E3 n++b9 "."++b9 (toString ((k:Г):Int))))=VV at*
  generalize Q6 ps=KP at*
  generalize Q7 ps=VP at*
  generalize E3 n=NS at*
  generalize b9 (toString ((k:Г):Int))=KS at*
  simp[h,nz,five,pa,l1,l2,l3,sd1,sd2,pp,z,-Wj,-Pk]
 ·R⟨ps,ow,?_⟩
  have nz:0<64+(j:Int)/\64+(j:Int)<1073741824:=by W
  unfold Gen.Wm oSt
  simp[h,nz]
end My
namespace My
open DL PySem TT TX
ОSq(A0 A1 A2 A3 A5:Б SV)(F:А Str)(k:Г)(hk:k<10)(n:Int)(hF:F.length<=3):∀(xs:А Str) (j:Г) (ps:PS) (x8 x9:Б SV),Lm F k 100 ps->j+xs.length<=5->(∀x∈xs,x∈F++[IN,Qc])->∃ps' y8 y9,Lm F k 100 ps'/\
  Yh (Wa 2 (Zs (Zg 8) (Zs (Zg 9) Wb))) Gen.Wm (((xs.map D.str).zipIdx j).map fun p=>D.tup [.int (p.2:Г),p.1]) (oSt A0 A1 A2 A3 A5 k n ps x8 x9)=some (.nx (oSt A0 A1 A2 A3 A5 k n ps' y8 y9))
 | [],j,ps,x8,x9,ow,_,_=>⟨ps,x8,x9,ow,by simp⟩
 |f::xs,j,ps,x8,x9,ow,hj,hx=>by
  rw[bn]at hj
  O⟨ps1,ow1,t⟩:=Zgq A0 A1 A2 A3 A5 F k hk n ps ow hF j И f (hx f aj)
  O⟨ps',y8,y9,ow',ih⟩:=Sq A0 A1 A2 A3 A5 F k hk n hF xs (j+1) ps1 (some (.fz (.int (j:Int)))) (some (.fz (.str f))) ow1 И fun x h=>hx x (ar _ h)
  R⟨ps',y8,y9,ow',?_⟩
  rw[av,List.zipIdx_cons,av]
  unfold Yh
  rw[show(Wa 2 (Zs (Zg 8) (Zs (Zg 9) Wb))).run (.tup [.int (j:Г),.str f]) (oSt A0 A1 A2 A3 A5 k n ps x8 x9)=some (oSt A0 A1 A2 A3 A5 k n ps (some (.fz (.int (j:Int)))) (some (.fz (.str f))))from by simp]
  dsimp only[b7]
  rw[t]
  E ih
structure WP(F:А Str)(k:Г)(w:Wk):В where
 ok:WkOk w
 ends:∀f v,f≠IN->f≠Qv->Yo w.at' w.vt f=some v->Yz k v
ОZsa:IN≠Qv:=by decide+kernel
ОZag:Qc≠Qv:=by decide+kernel
ОZli{F:А Str}{k:Г}{ps:PS}(h:Lm F k 200 ps)(hF:F.length<=3)(hk:Qv∉F)(key kind:Str):WP F k ⟨key,kind,ps.map (·.1),ps.map (·.2)⟩:=by
 R⟨⟨by simp,h.nd,by have:=h.few;simp;W,fun z=>?_⟩,fun f v h1 h2 e=>?_⟩
 ·O⟨p,hp,e⟩:=a6.mp z
  have:=h.sub p hp
  rw[e]at this
  rcases cn.mp this with z|z
  ·E hk z
  ·rcases bo.mp z with z|z
   ·E Zsa z.symm
   ·E Zag (au.mp z).symm
 ·have e:Yo (ps.map (·.1)++[Qv]) (ps.map (·.2)++[kind]) f=some v:=e
  unfold Yo at e
  rw[List.zip_append Л,Xs,List.lookup_append]at e
  have n:List.lookup f ([Qv].zip [kind])=none:=by
   show List.lookup f [(Qv,kind)]=none
   rw[g6,beq_eq_false_iff_ne.mpr h2];rfl
  rw[n,Option.or_none]at e
  E h.ends _ (En e) h1
noncomputable abbrev Zgr(i:Int):Б D:=L2.atI [D.str (b9 "book"),D.str (b9 "part"),D.str (b9 "a")] i
ОZjp(i:Int):∃kd,Zgr (i % 3)=some (.str kd):=by
 have h0:0<=i % 3:=fw _ Й
 have h1:i % 3<3:=dw _ Й
 have:i % 3=0\/i % 3=1\/i % 3=2:=by W
 rcases this with h|h|h<;> rw[h]
 ·E⟨_,rfl⟩
 ·E⟨_,rfl⟩
 ·E⟨_,rfl⟩
noncomputable abbrev wkP(key kd:Str)(ps:PS):Wk:=⟨key,kd,ps.map (·.1),ps.map (·.2)⟩
noncomputable abbrev itS:Str:=b9 "It"
noncomputable abbrev sS:Str:=b9 "'s"
ОXv(F:А Str)(hF:F.length=3)(hK:Qv∉F)(A0:Б SV)(cs:А Int)(ws:А Wk)(k:Г)(hk:k<10)(c:Int)(hc:cs[k]? =some c)(key:Str)(hkey:key∉ws.map Wk.key)(hw:ws.length<=100)(x6 x7 x8 x9:Б SV):∃w y6 y7 y8 y9,w.key=key/\WP F k w/\
  Gen.Wn [A0,some (.fz (.lst (F.map D.str))),some (.fz (.lst (cs.map D.int))),some (.oK (Zv (ws.map Wk.key)) (ws.map Wk.d)),some (.fz (.int (k:Int))),some (.fz (.str key)),x6,x7,x8,x9]=
  some (.nx [A0,some (.fz (.lst (F.map D.str))),some (.fz (.lst (cs.map D.int))),some (.oK (Zv ((ws++[w]).map Wk.key)) ((ws++[w]).map Wk.d)),some (.fz (.int (k:Int))),some (.fz (.str key)),y6,y7,y8,y9]):=by
 have hl:k<cs.length:=by rcases gy k cs.length with z|z;E z;rw[List.getElem?_eq_none z]at hc;C hc
 have ac:L2.atI (cs.map D.int) (k:Int)=some (.int c):=by
  have:L2.ixN cs.length (k:Int)=some k:=by
   unfold L2.ixN
   simp;W
  unfold L2.atI
  rw[ao,this]
  show(cs.map D.int)[k]? =_
  rw[bf,hc];rfl
 have mx:=Sf (c+(k:Int)) 48271
 generalize (c+(k:Int)) % 2147483647*48271 % 2147483647=n at mx
 O⟨ps,y8,y9,ow,lo⟩:=Sq A0 (some (.fz (.lst (F.map D.str)))) (some (.fz (.lst (cs.map D.int)))) (some (.oK (Zv (ws.map Wk.key)) (ws.map Wk.d))) (some (.fz (.str key))) F k hk n И (F++[IN,Qc]) 0 [] x8 x9 ⟨by simp,(fun _ z=>nomatch z),(fun _ z=>nomatch z),(fun _ z=>nomatch z)⟩ (by simp;W) (fun _ h=>h)
 rw[show((((F++[IN,Qc]).map D.str).zipIdx 0).map fun p=>D.tup [.int (p.2:Г),p.1])=Qf ((F++[IN,Qc]).map D.str)from rfl,cq]at lo
 have lo:Yh (Wa 2 (Zs (Zg 8) (Zs (Zg 9) Wb))) Gen.Wm (Qf (F.map D.str++[D.str IN,D.str Qc])) _=_:=lo
 have zF:(F.map D.str).length+2<=PySem.sizeLine:=Qx (by rw[ao];W)
 obtain⟨t0,g0,gl⟩:∃t0:Str,(look (Q6 ps) (Q7 ps) (b8 IN)).getD (.str itS)= .str t0/\t0.length<=100:=by
  rw[Xu]
  cases e:ps.lookup IN with
  |none=>E⟨itS,rfl,by decide+kernel⟩
  |some v=>E⟨v,rfl,ow.len _ (En e)⟩
 have sl:sS.length=2:=by decide+kernel
 have l1:t0.length+sS.length<=PySem.sizeLine:=Qx (by rw[sl];W)
 have pp:=Ka ps IN (t0++sS)
 have zp:(Q7 ps).length<PySem.sizeLine:=Ys (by have:=ow.few;simp;W)
 have lk:look (Q6 (Qn ps IN (t0++sS))) (Q7 (Qn ps IN (t0++sS))) (b8 IN)=some (.str (t0++sS)):=by
  have:=Zf0 (b8 IN) (b8 IN) (.str (t0++sS)) (Q6 ps) (Q7 ps) Л
  rw[pp,Е rfl]at this
  E this
 have dp:=Xt (Qn ps IN (t0++sS)) IN
 have ow2:Lm F k 200 (Qn ps IN (t0++sS)):=(ow.mono Й).put Л (fun z=>absurd rfl z) (by rw[Os,sl];W)
 O⟨kd,hkd⟩:=Zjp (n / 5)
 have zw:(ws.map Wk.d).length<PySem.sizeLine:=Ys (by rw[ao];W)
 have fin:∀ps3:PS,Lm F k 200 ps3->Wj (Zv (ws.map Wk.key)) (ws.map Wk.d) (b8 key) (.tup [.str kd,.dK (Q6 ps3) (Q7 ps3)])=(Zv ((ws++[wkP key kd ps3]).map Wk.key),(ws++[wkP key kd ps3]).map Wk.d):=fun ps3 _=>by
  rw[Aw,Ax hkey]
  simp[Wk.d,D9]
 unfold Zgr at hkd
 by_cases h4:n % 4=0
 ·R⟨wkP key kd (Ug (Qn ps IN (t0++sS)) IN),some (.fz (.int n)),some (.fz (.dK (Q6 (Ug (Qn ps IN (t0++sS)) IN)) (Q7 (Ug (Qn ps IN (t0++sS)) IN)))),y8,y9,rfl,Zli (ow2.drop IN) И hK key kd,?_⟩
  have f:=fin _ (ow2.drop IN)
  unfold Gen.Wn
  unfold oSt at lo
  rw[show Q6 ([]:PS)=[]from rfl,show Q7 ([]:PS)=[]from rfl]at lo
  generalize ((ws++[wkP key kd (Ug (Qn ps IN (t0++sS)) IN)]).map Wk.d)=WD' at*
  generalize Zv ((ws++[wkP key kd (Ug (Qn ps IN (t0++sS)) IN)]).map Wk.key)=WK' at*
  generalize Q6 (Ug (Qn ps IN (t0++sS)) IN)=K3 at*
  generalize Q7 (Ug (Qn ps IN (t0++sS)) IN)=V3 at*
  generalize Q6 (Qn ps IN (t0++sS))=K2 at*
  generalize Q7 (Qn ps IN (t0++sS))=V2 at*
  generalize Q6 ps=K1 at*
  generalize Q7 ps=V1 at*
  generalize ws.map Wk.d=WD at*
  generalize Zv (ws.map Wk.key)=WK at*
  generalize F.map D.str=FD at*
  generalize cs.map D.int=CD at*
  simp[ac,mx,lo,zF,s2,s3,g0,l1,pp,zp,lk,dp,h4,hkd,f,zw,-Yh,-Wj,-look,-Jx]
 ·R⟨wkP key kd (Qn ps IN (t0++sS)),some (.fz (.int n)),some (.fz (.dK (Q6 (Qn ps IN (t0++sS))) (Q7 (Qn ps IN (t0++sS))))),y8,y9,rfl,Zli ow2 И hK key kd,?_⟩
  have f:=fin _ ow2
  unfold Gen.Wn
  unfold oSt at lo
  rw[show Q6 ([]:PS)=[]from rfl,show Q7 ([]:PS)=[]from rfl]at lo
  generalize ((ws++[wkP key kd (Qn ps IN (t0++sS))]).map Wk.d)=WD' at*
  generalize Zv ((ws++[wkP key kd (Qn ps IN (t0++sS))]).map Wk.key)=WK' at*
  generalize Q6 (Qn ps IN (t0++sS))=K2 at*
  generalize Q7 (Qn ps IN (t0++sS))=V2 at*
  generalize Q6 ps=K1 at*
  generalize Q7 ps=V1 at*
  generalize ws.map Wk.d=WD at*
  generalize Zv (ws.map Wk.key)=WK at*
  generalize F.map D.str=FD at*
  generalize cs.map D.int=CD at*
  simp[ac,mx,lo,zF,s2,s3,g0,l1,pp,zp,h4,hkd,f,zw,-Yh,-Wj,-look,-Jx]
end My
namespace My
open DL PySem TT TX
ОEo(F:А Str)(hF:F.length=3)(hK:Qv∉F)(A0:Б SV)(cs:А Int):∀(ks:А Str) (k:Г) (ws:А Wk) (x4 x5 x6 x7 x8 x9:Б SV),ws.length=k->k+ks.length<=10->k+ks.length<=cs.length->(ws.map Wk.key++ks).Nodup->(∀i w,ws[i]? =some w->WP F i w)->∃(ws':А Wk) (y4 y5 y6 y7 y8 y9:Б SV),ws'.map Wk.key=ws.map Wk.key++ks/\(∀i w,ws'[i]? =some w->WP F i w)/\
  Yh (Wa 2 (Zs (Zg 4) (Zs (Zg 5) Wb))) Gen.Wn (((ks.map D.str).zipIdx k).map fun p=>D.tup [.int (p.2:Г),p.1]) [A0,some (.fz (.lst (F.map D.str))),some (.fz (.lst (cs.map D.int))),some (.oK (Zv (ws.map Wk.key)) (ws.map Wk.d)),x4,x5,x6,x7,x8,x9]=
  some (.nx [A0,some (.fz (.lst (F.map D.str))),some (.fz (.lst (cs.map D.int))),some (.oK (Zv (ws'.map Wk.key)) (ws'.map Wk.d)),y4,y5,y6,y7,y8,y9])
 | [],k,ws,x4,x5,x6,x7,x8,x9,_,_,_,_,hw=>⟨ws,x4,x5,x6,x7,x8,x9,by simp,hw,by simp⟩
 |key::ks,k,ws,x4,x5,x6,x7,x8,x9,hl,h1,h2,nd,hw=>by
  rw[bn]at h1 h2
  have hc:cs[k]? =some (cs[k]'И):=az _
  O⟨w,z6,z7,z8,z9,ek,wp,t⟩:=Xv F hF hK A0 cs ws k И _ hc key (fun z=>(di.mp nd).2.2 _ z key aj rfl) И x6 x7 x8 x9
  have em:(ws++[w]).map Wk.key=ws.map Wk.key++[key]:=by rw[cq,<-ek];rfl
  O⟨ws',y4,y5,y6,y7,y8,y9,e,hw',ih⟩:=Eo F hF hK A0 cs ks (k+1) (ws++[w]) (some (.fz (.int (k:Int)))) (some (.fz (.str key))) z6 z7 z8 z9 (by rw[bj,hl];rfl) И И (by rw[em,gf];E nd) (fun i v hv=>by
   rcases gy i ws.length with z|z
   ·rw[List.getElem?_append_left z]at hv
    E hw i v hv
   ·rw[List.getElem?_append_right z]at hv
    have:i- ws.length=0:=by
     rcases Nat.eq_zero_or_pos (i- ws.length)with q|q
     ·E q
     ·rw[List.getElem?_eq_none (by simp;W)]at hv;C hv
    rw[this]at hv
    C hv
    have:i=k:=by W
    rw[this];E wp)
  R⟨ws',y4,y5,y6,y7,y8,y9,by rw[e,em,gf];rfl,hw',?_⟩
  rw[av,List.zipIdx_cons,av]
  unfold Yh
  rw[show(Wa 2 (Zs (Zg 4) (Zs (Zg 5) Wb))).run (.tup [.int (k:Г),.str key]) [A0,some (.fz (.lst (F.map D.str))),some (.fz (.lst (cs.map D.int))),some (.oK (Zv (ws.map Wk.key)) (ws.map Wk.d)),x4,x5,x6,x7,x8,x9]=some [A0,some (.fz (.lst (F.map D.str))),some (.fz (.lst (cs.map D.int))),some (.oK (Zv (ws.map Wk.key)) (ws.map Wk.d)),some (.fz (.int (k:Int))),some (.fz (.str key)),x6,x7,x8,x9]from by simp]
  dsimp only[b7]
  rw[t]
  E ih
ОZb2(F:А Str)(hF:F.length=3)(hK:Qv∉F)(cs:А Int)(ks:А Str)(hk:ks.length<=10)(hc:ks.length<=cs.length)(nd:ks.Nodup):∃ws:А Wk,ws.map Wk.key=ks/\(∀i w,ws[i]? =some w->WP F i w)/\
  Gen.W6 [.lst (ks.map D.str),.lst (F.map D.str),.lst (cs.map D.int)]=some (.oK (Zv (ws.map Wk.key)) (ws.map Wk.d)):=by
 O⟨ws,y4,y5,y6,y7,y8,y9,e,hw,l⟩:=Eo F hF hK (some (.fz (.lst (ks.map D.str)))) cs ks 0 [] none none none none none none rfl И И (by simpa using nd) (fun i w h=>by simp at h)
 R⟨ws,by simpa using e,hw,?_⟩
 rw[show(((ks.map D.str).zipIdx 0).map fun p=>D.tup [.int (p.2:Г),p.1])=Qf (ks.map D.str)from rfl]at l
 have l:Yh (Wa 2 (Zs (Zg 4) (Zs (Zg 5) Wb))) Gen.Wn (Qf (ks.map D.str)) [some (.fz (.lst (ks.map D.str))),some (.fz (.lst (F.map D.str))),some (.fz (.lst (cs.map D.int))),some (.oK [] []),none,none,none,none,none,none]=_:=l
 unfold Gen.W6 Gen.B4
 generalize Zv (ws.map Wk.key)=WK at*
 generalize ws.map Wk.d=WD at*
 generalize ks.map D.str=KD at*
 generalize F.map D.str=FD at*
 generalize cs.map D.int=CD at*
 simp[l,-Yh]
structure RuleOk(F r:А Str):В where
 len:r.length<=3
 has:∃f∈r,f∈F\/f=Qc
Оat3(a b c:Str)(i:Int):∃x∈[a,b,c],L2.atI [D.str a,D.str b,D.str c] (i % 3)=some (.str x):=by
 have h0:0<=i % 3:=fw _ Й
 have h1:i % 3<3:=dw _ Й
 have:i % 3=0\/i % 3=1\/i % 3=2:=by W
 rcases this with h|h|h<;> rw[h]
 ·E⟨a,by simp,rfl⟩
 ·E⟨b,by simp,rfl⟩
 ·E⟨c,by simp,rfl⟩
Оat4(p q r s:D)(i:Int):∃x∈[p,q,r,s],L2.atI [p,q,r,s] (i % 4)=some x:=by
 have h0:0<=i % 4:=fw _ Й
 have h1:i % 4<4:=dw _ Й
 have:i % 4=0\/i % 4=1\/i % 4=2\/i % 4=3:=by W
 rcases this with h|h|h|h<;> rw[h]
 ·E⟨p,by simp,rfl⟩
 ·E⟨q,by simp,rfl⟩
 ·E⟨r,by simp,rfl⟩
 ·E⟨s,by simp,rfl⟩
ОZwe(p q:D)(i:Int):∃n,Eu [p,q] none (some (i % 3))=[p,q].take n:=by
 have h0:0<=i % 3:=fw _ Й
 have h1:i % 3<3:=dw _ Й
 have:i % 3=0\/i % 3=1\/i % 3=2:=by W
 rcases this with h|h|h<;> rw[h]
 ·E⟨0,rfl⟩
 ·E⟨1,rfl⟩
 ·E⟨2,rfl⟩
ОZb3(F:А Str)(hF:F.length=3)(n:Int):∃rs:А (А Str),rs.length<=2/\(∀r∈rs,RuleOk F r)/\Gen.Q4 [.lst (F.map D.str),.int n]=some (.ol (rs.map Zy)):=by
 obtain⟨a,b,c,rfl⟩:∃a b c,F=[a,b,c]:=by
  match F,hF with
  | [a,b,c],_=>E⟨a,b,c,rfl⟩
 O⟨x,hx,ex⟩:=at3 a b c (n / 8)
 O⟨y,hy,ey⟩:=at3 a b c (n / 32)
 O⟨p,hp,ep⟩:=at4 (Zy [x]) (Zy [Qv,y]) (Zy [a,c,a]) (Zy [Qc]) (n / 128)
 O⟨q,hq,eq⟩:=at4 (Zy [x]) (Zy [Qv,y]) (Zy [a,c,a]) (Zy [Qc]) (n / 512)
 have one:∀p,p∈[Zy [x],Zy [Qv,y],Zy [a,c,a],Zy [Qc]]->∃r,RuleOk [a,b,c] r/\p=Zy r:=fun p hp=>by
  simp only[bo,gm,or_false]at hp
  rcases hp with h|h|h|h
  ·E⟨[x],⟨by simp,x,by simp,.inl hx⟩,h⟩
  ·E⟨[Qv,y],⟨by simp,y,by simp,.inl hy⟩,h⟩
  ·E⟨[a,c,a],⟨by simp,a,by simp,.inl Л⟩,h⟩
  ·E⟨[Qc],⟨by simp,Qc,by simp,.inr rfl⟩,h⟩
 O⟨r1,o1,rfl⟩:=one p hp
 O⟨r2,o2,rfl⟩:=one q hq
 O⟨m,hm⟩:=Zwe (Zy r1) (Zy r2) n
 R⟨[r1,r2].take m,by rw[gn];simp;W,fun r hr=>?_,?_⟩
 ·have:=List.mem_of_mem_take hr
  simp only[bo,gm,or_false]at this
  rcases this with rfl|rfl
  ·E o1
  ·E o2
 ·have a0:L2.atI [D.str a,D.str b,D.str c] 0=some (.str a):=rfl
  have a2:L2.atI [D.str a,D.str b,D.str c] 2=some (.str c):=rfl
  rw[List.map_take]
  unfold Zy at*
  simp only[av,List.map_nil]at*
  rw[<-hm]
  unfold Gen.Q4 Gen.B2
  generalize r1.map D.str=R1 at*
  generalize r2.map D.str=R2 at*
  simp[ex,ey,ep,eq,a0,a2,s1,s2,s3,s4]
end My
namespace My
open DL PySem TT TX
ОSr{w:Str}(h:Nam w):w≠Qv:=fun e=>(h.no 105 (by rw[e];decide+kernel)).1 rfl
ОZog{w:Str}(h:Nam w):w≠IN:=fun e=>(h.no 105 (by rw[e];decide+kernel)).1 rfl
ОZjq:Qc≠IN:=by decide+kernel
ОZgs{i j:Г}{t:Str}(h1:Yz i t)(h2:Yz j t):i=j:=by
 unfold Yz at h1 h2
 rw[h1]at h2
 have:=dm.inj h2
 W
Оapart(F:А Str)(hF:∀f∈F,Nam f)(rs:А (А Str))(hr:∀r∈rs,RuleOk F r)(ws:А Wk)(hw:∀i w,ws[i]? =some w->WP F i w):ws.Pairwise fun a b=>∀m∈a.marks rs,m∉b.marks rs:=by
 R List.pairwise_iff_getElem.mpr fun i j hi hj hij m h1 h2=>?_
 O⟨n1,l1,e1,_,r1,g1,v1⟩:=Qm _ _ _ _ m h1
 O⟨n2,l2,e2,_,r2,g2,v2⟩:=Qm _ _ _ _ m h2
 rw[e1]at e2
 have e2:=b8.inj e2
 have en:n1=n2:=by have:=(Prod.mk.inj e2).1;W
 have el:l1=l2:=(Prod.mk.inj e2).2
 subst en;subst el
 rw[g1]at g2
 have er:=dm.inj g2
 subst er
 O⟨f,hf,hf'⟩:=(hr r1 (cz g1)).has
 have ni:f≠IN:=by
  rcases hf' with z|z
  ·E Zog (hF f z)
  ·rw[z];E Zjq
 have nk:f≠Qv:=by
  rcases hf' with z|z
  ·E Sr (hF f z)
  ·rw[z];E Zag
 rw[Rq]at v1 v2
 split at v1
 ·rename_i a1
  split at v2
  ·rename_i a2
   O⟨x,hx⟩:=Option.isSome_iff_exists.mp (a1 f hf)
   O⟨y,hy⟩:=Option.isSome_iff_exists.mp (a2 f hf)
   have e:=(dm.inj v1).trans (dm.inj v2).symm
   have e:=List.map_inj_left.mp e f hf
   rw[hx,hy]at e
   have e:x=y:=e
   subst e
   have w1:=(hw i ws[i] (az hi)).ends f x ni nk hx
   have w2:=(hw j ws[j] (az hj)).ends f x ni nk hy
   have:=Zgs w1 w2
   W
  ·C v2
 ·C v1
ОZb4(ns:А Int):∃ms:А Int,Eu (ns.map D.int) (some 5) (some 15)=ms.map D.int/\ms.length<=10:=by
 O⟨ms,e,_⟩:=Zjd ns (some 5) (some 15)
 R⟨ms,e,?_⟩
 have h:(Eu (ns.map D.int) (some 5) (some 15)).length<=10:=by
  unfold Eu
  rw[gn]
  have e1:HT.sIx (ns.map D.int).length (ns.map D.int).length (some 15)=min 15 (ns.map D.int).length:=HT.sIx_nat _ _ 15
  have e2:HT.sIx (ns.map D.int).length 0 (some 5)=min 5 (ns.map D.int).length:=HT.sIx_nat _ _ 5
  W
 rw[e,ao]at h
 E h
ОZgt{ws:А Wk}(nd:(ws.map Wk.key).Nodup)(ok:∀w∈ws,WkOk w):Wp 48 (Yu ws) (Yu ws)=some true:=by
 R Zf1 47 ⟨nd,by simp⟩ fun v hv=>?_
 O⟨w,hw,rfl⟩:=a6.mp hv
 R L0 46 _ fun x hx=>?_
 simp only[bo,gm,or_false]at hx
 rcases hx with rfl|rfl
 ·E M7 45 _
 ·R Zf1 45 ⟨(ok w hw).nd,by rw[ao];E(ok w hw).len⟩ fun x hx=>?_
  O⟨t,_,rfl⟩:=a6.mp hx
  E M7 44 _
ОZsb(k:NK):PlD (Zu k):=by
 rcases k with l|⟨n,l⟩
 ·E .tup fun d hd=>by O⟨x,_,rfl⟩:=a6.mp hd;E .str x
 ·R .tup fun d hd=>?_
  simp only[bo,gm,or_false]at hd
  rcases hd with rfl|rfl
  ·E .int n
  ·E .tup fun d hd=>by O⟨x,_,rfl⟩:=a6.mp hd;E .str x
ОXw(ks:А NK):PlD (.lst (ks.map Zu)):=.lst fun d hd=>by O⟨k,_,rfl⟩:=a6.mp hd;E Zsb k
ОZsc(b:Str)(rs:А (А Str))(w:Wk):HpD 1 (Yq (Wf b rs w)):=by
 R⟨_,_,_,rfl,⟨by simp[Wf],by simp[Wf],fun e he=>?_⟩,?_,fun e he=>?_,Xw _,Xw _,.lst fun d hd=>?_⟩
 ·O⟨k,hk,rfl⟩:=a6.mp he
  rw[au.mp hk]
  E⟨b,[w.key],rfl⟩
 ·intro z
  have z:=List.map_eq_nil_iff.mp z
  have hm:Qv∈w.srt:=List.mem_filter.mpr ⟨(Yy _).mem_iff.mpr Л,by decide+kernel⟩
  have:(Qv,w.val Qv,[Bh b w.key])∈(Wf b rs w).fs:=List.mem_map_of_mem (f:=fun f=>(f,w.val f,[Bh b w.key])) hm
  rw[z]at this
  C this
 ·O⟨t,ht,rfl⟩:=a6.mp he
  E⟨t.1,_,rfl⟩
 ·O⟨t,ht,rfl⟩:=a6.mp hd
  R .tup fun d hd=>?_
  simp only[bo,gm,or_false]at hd
  rcases hd with rfl|rfl|rfl
  ·E .str _
  ·E .str _
  ·E Xw _
ОZjr(w:Wk):AR w.d:=.tup fun d hd=>by
 simp only[bo,gm,or_false]at hd
 rcases hd with rfl|rfl
 ·E .str _
 ·E .dK fun d hd=>by O⟨t,_,rfl⟩:=a6.mp hd;E .str t
ОZgu(A:Yf)(xs ys zs:А D)(h:A[9]? =some (some (.fz (.tup [.lst xs,.lst ys,.lst zs])))):Gen.M9 A=some (false,A):=by
 unfold Gen.M9 Gen.D8
 have l1:1<PySem.sizeLine:=by decide
 have l2:2<PySem.sizeLine:=by decide
 have iz:inZ (.bl false) (.lst [.bl true,.bl true,.bl true])=some (.fz (.bl false)):=rfl
 simp[h,s0,l1,l2,iz,-inZ]
Оlaw_true(ns:А Int)(hn:ns.length<=63):Gen.Rn [.lst (ns.map D.int)]=some (.fz (.bl true)):=by
 O⟨ms,em,hms⟩:=Zb4 ns
 O⟨c0,hc0⟩:=Ta ns 0
 O⟨c1,hc1⟩:=Ta ns 1
 O⟨c2,hc2⟩:=Ta ns 2
 O⟨c3,hc3⟩:=Ta ns 3
 have m0:=Sf c0 16807
 have m1:=Sf c1 16807
 have m2:=Sf c2 39373
 have m3:=Sf c3 69621
 have p0:=Nd c0 16807
 have p1:=Nd c1 16807
 have p2:=Nd c2 39373
 generalize c0 % 2147483647*16807 % 2147483647=X0 at*
 generalize c1 % 2147483647*16807 % 2147483647=X1 at*
 generalize c2 % 2147483647*39373 % 2147483647=X2 at*
 generalize c3 % 2147483647*69621 % 2147483647=X3 at*
 O⟨ks,k0,kl,knd,kn⟩:=Eg X0 p0 ms.length И
 O⟨F,f0,fl,fnd,fn⟩:=Eg X1 p1 3 И
 O⟨bs,b0,bl,_,_⟩:=Eg X2 p2 1 И
 obtain⟨b,rfl⟩:∃b,bs=[b]:=by
  match bs,bl with
  | [b],_=>E⟨b,rfl⟩
 O⟨rs,rl,ro,r0⟩:=Zb3 F fl X3
 have hK:Qv∉F:=fun z=>Sr (fn _ z) rfl
 O⟨ws,wk,wp,w0⟩:=Zb2 F fl hK ms ks И И knd
 have shf:Shf rs ws:=⟨by rw[wk];E knd,fun w hw=>by
   O⟨i,hi,rfl⟩:=dy hw
   E(wp i _ (az hi)).ok,by
   have:=congrArg List.length wk
   rw[ao]at this;W,apart F fn rs ro ws wp⟩
 have rls:Rls rs:=⟨by W,fun r hr=>by have:=(ro r hr).len;W⟩
 have d0:=Zjn b rs ws shf rls
 have q0:=pool_of b rs ws shf rls
 have es:=Zgt shf.nd shf.ok
 have ep:Wp 48 (.lst ((Rt b rs ws).map Yq)) (.lst ((Rt b rs ws).map Yq))=some true:=Zf9 40 _ (Zoe b rs ws)
 have few:((Rt b rs ws).map Yq).length<=20:=by
  rw[ao]
  unfold Rt
  rw[ao,(Yy _).length_eq,ao]
  E shf.few
 have hps:∀h∈(Rt b rs ws).map Yq,HpD 1 h:=fun h hh=>by
  O⟨o,ho,rfl⟩:=a6.mp hh
  O⟨k,_,rfl⟩:=a6.mp ho
  E Zsc b rs _
 have ars:∀d∈[D.str b,Yu ws,.lst (rs.map Zy)],AR d:=fun d hd=>by
  simp only[bo,gm,or_false]at hd
  rcases hd with rfl|rfl|rfl
  ·E .str _
  ·E .dK fun d hd=>by O⟨w,_,rfl⟩:=a6.mp hd;E Zjr w
  ·E .lsts fun r hr=>by
    O⟨f,hf,_⟩:=(ro r hr).has
    E fun z=>by rw[z]at hf;C hf
 have hb:L2.atI [D.str b] 0=some (.str b):=rfl
 have k0:Gen.Yw [.int X0,.int ((ms.map D.int).length:Int)]=some (.ol (ks.map D.str)):=by rw[ao];E k0
 have b0:Gen.Yw [.int X2,.int 1]=some (.ol [.str b]):=b0
 have f0:Gen.Yw [.int X1,.int 3]=some (.ol (F.map D.str)):=f0
 have hc0:Gen.Z6 [.lst (ns.map D.int),.int 0]=some (.fz (.int c0)):=hc0
 have hc1:Gen.Z6 [.lst (ns.map D.int),.int 1]=some (.fz (.int c1)):=hc1
 have hc2:Gen.Z6 [.lst (ns.map D.int),.int 2]=some (.fz (.int c2)):=hc2
 have hc3:Gen.Z6 [.lst (ns.map D.int),.int 3]=some (.fz (.int c3)):=hc3
 unfold Yu at d0 q0 es ars
 clear shf rls hn hms kl knd kn fl fnd fn bl ro wp wk p0 p1 p2
 generalize (Rt b rs ws).map Yq=OUT at*
 generalize rs.map Zy=RD at*
 generalize ws.map Wk.d=WD at*
 generalize Zv (ws.map Wk.key)=WK at*
 generalize ks.map D.str=KD at*
 generalize F.map D.str=FD at*
 generalize ms.map D.int=MD at*
 generalize ns.map D.int=ND at*
 have w:Gd 8 9 3 Gen.Qt (Ze (Za 4) (Ze (Za 6) (Ze (Za 5) Zl))) Gen.L5 Gen.M9 [some (.fz (.lst ND)),some (.fz (.lst MD)),some (.fz (.lst KD)),some (.fz (.lst FD)),some (.fz (.str b)),some (.fz (.lst RD)),some (.fz (.dK WK WD)),some (.ol OUT),none,none]=
   some (.nx [some (.fz (.lst ND)),some (.fz (.lst MD)),some (.fz (.lst KD)),some (.fz (.lst FD)),some (.fz (.str b)),some (.fz (.lst RD)),some (.fz (.dK WK WD)),some (.ol OUT),none,none]):=by
  R Zbp (ds:=[.str b,.dK WK WD,.lst RD]) (δ1:=[some (.fz (.lst ND)),some (.fz (.lst MD)),some (.fz (.lst KD)),some (.fz (.lst FD)),some (.fz (.str b)),some (.fz (.lst RD)),some (.fz (.dK WK WD)),some (.ol OUT),none,none]) (sv:=.ol OUT) rfl q0 ⟨rfl,ars,by decide,by simp,by simp,1,OUT,rfl,hps,Ys И,⟨[some (.fz (.lst ND)),some (.fz (.lst MD)),some (.fz (.lst KD)),some (.fz (.lst FD)),some (.fz (.str b)),some (.fz (.lst RD)),some (.fz (.dK WK WD)),some (.ol OUT),some (.fz (.lst OUT)),none],?_⟩,fun xs ys zs=>⟨_,Zgu _ xs ys zs rfl⟩⟩
  unfold Gen.L5
  simp[ep,-Wp]
 unfold Gen.Rn Gen.Zgc
 simp[em,hc0,hc1,hc2,hc3,m0,m1,m2,m3,k0,f0,b0,hb,r0,w0,d0,w,q0,ep,es,-Wp]
end My
def PySem.W.Fast.tw4845258824021178764:=()
def PySem.W.Fast.tw5492618123939972234:=()
def PySem.W.Fast.tw8832184971215630386:=()
def PySem.W.Fast.tw4507543469265500320:=()
def PySem.W.Fast.tw3022045731633505550:=()
def PySem.W.Fast.tw17942881407606871146:=()
def PySem.W.Fast.tw11243161442827499463:=()
def PySem.W.Fast.tw609086427154674742:=()
def PySem.W.Fast.tw17851233534686475943:=()
def PySem.W.Fast.tw16125622291139650467:=()
def PySem.W.Fast.tw12089026702223676535:=()
def PySem.W.Fast.tw12840042899081712895:=()
def PySem.W.Fast.tw17138411747179753909:=()
def PySem.W.Fast.tw14607760299160668881:=()
def PySem.W.Fast.tw14008869931560348302:=()
def PySem.W.Fast.tw183062570387447465:=()
def PySem.W.Fast.tw2939725410209028231:=()
def PySem.W.Fast.tw10691666255851587110:=()
def PySem.W.Fast.tw2924354251140868854:=()
def PySem.W.Fast.tw9629871861332780324:=()
def PySem.W.Fast.tw17977044504797519781:=()
def PySem.W.Fast.tw801273076089040597:=()
def PySem.W.Fast.tw9650412494155191631:=()
def PySem.W.Fast.tw12943930649311535533:=()
def PySem.W.Fast.tw16181256736628498284:=()
def PySem.W.Fast.tw7187811180225488548:=()
def PySem.W.Fast.tw9171134500227875131:=()
def PySem.W.Fast.tw6377322765364122810:=()
def PySem.W.Fast.tw8303297073323514169:=()
def PySem.W.Fast.tw2512317617317021242:=()
def PySem.W.Fast.tw11856872547405115170:=()
def PySem.W.Fast.tw293409213488357986:=()
def PySem.W.Fast.tw13392972617276514298:=()
def PySem.W.Fast.tw14366927454079101789:=()
def PySem.W.Fast.tw5839060200278055401:=()
def PySem.W.Fast.tw6131241577408857302:=()
def PySem.W.Fast.tw13373345340285216809:=()
def PySem.W.Fast.tw16581887713558196171:=()
def PySem.W.Fast.tw1494711608981816294:=()
def PySem.W.Fast.tw16345285018564670270:=()
def PySem.W.Fast.tw6985333801933319284:=()
def PySem.W.Fast.tw10806210967322010783:=()
def PySem.W.Fast.tw4670765013172530678:=()
def PySem.W.Fast.tw7413226239135660278:=()
def PySem.W.Fast.tw12262096623218600829:=()
def PySem.W.Fast.tw14818936557868887965:=()
def PySem.W.Fast.tw14139217237671628270:=()
def PySem.W.Fast.tw17452604838618457399:=()
def PySem.W.Fast.tw6300836789769654022:=()
def PySem.W.Fast.tw3702613454779009641:=()
def PySem.W.Fast.tw17978505765284005971:=()
def PySem.W.Fast.tw8169342184490445576:=()
def PySem.W.Fast.tw9321816966499738585:=()
def PySem.W.Fast.tw11843797773702387572:=()
def PySem.W.Fast.tw15532938674175169868:=()
def PySem.W.Fast.tw3807545512860557811:=()
def PySem.W.Fast.tw17813940115329986927:=()
def PySem.W.Fast.tw10431935164492850351:=()
def PySem.W.Fast.tw7523747669658762521:=()
def PySem.W.Fast.tw13777650725666372002:=()
def PySem.W.Fast.tw2446835595756535341:=()
open PySem PySem.W PyProof.Rows
set_option maxRecDepth 100000 in
set_option maxHeartbeats 0 in
theorem PySem.Challenge.cw_citeward_k36_heaps_of_single_works_holds : PySem.Challenge.rw_citeward_k36_heaps_of_single_works.Holds := by
  w_on; o_law; k_head; (case hw => w_witness2)
  k_fill
  refine Gen.Zwd (l := PySem.Challenge.rw_citeward_k36_heaps_of_single_works) rfl rfl (fun w h Y => PySem.W.kIn_of Y) ?F My.law_true
  case F =>
    intro w mg fa h KX G hmg
    refine' Gen.Zn8 KX G hmg ?ax0 ?Fx0 ?kx0 ?ax1 ?Fx1 ?kx1 ?ax2 ?Fx2 ?kx2 ?ax3 ?Fx3 ?kx3 ?ax4 ?Fx4 ?kx4 ?ax5 ?Fx5 ?kx5 ?ax6 ?Fx6 ?kx6 ?ax7 ?Fx7 ?kx7 ?ax8 ?Fx8 ?kx8 ?ax9 ?Fx9 ?kx9 ?ax10 ?Fx10 ?kx10 ?ax11 ?Fx11 ?kx11 ?ax12 ?Fx12 ?kx12 ?ax13 ?Fx13 ?kx13 ?ax14 ?lx14 ?cx14 ?kx14 ?zall ?zdict ?zenumerate ?zint ?zisinstance ?zlen ?zlist ?zrange ?zset ?zsorted ?zstr ?ztuple
    (case ax0 => k_is)
    (case Fx0 => exact ⟨_, L2.W4 (by k_is) (by k_is) (by k_is)⟩)
    (case kx0 => k_is)
    (case ax1 => k_is)
    (case Fx1 => exact ⟨_, L2.W4 (by k_is) (by k_is) (by k_is)⟩)
    (case kx1 => k_is)
    (case ax2 => k_is)
    (case Fx2 => exact ⟨_, L2.W4 (by k_is) (by k_is) (by k_is)⟩)
    (case kx2 => k_is)
    (case ax3 => k_is)
    (case Fx3 => exact ⟨_, L2.W4 (by k_is) (by k_is) (by k_is)⟩)
    (case kx3 => k_is)
    (case ax4 => k_is)
    (case Fx4 => exact ⟨_, L2.W4 (by k_is) (by k_is) (by k_is)⟩)
    (case kx4 => k_is)
    (case ax5 => k_is)
    (case Fx5 => exact ⟨_, L2.W4 (by k_is) (by k_is) (by k_is)⟩)
    (case kx5 => k_is)
    (case ax6 => k_is)
    (case Fx6 => exact ⟨_, L2.W4 (by k_is) (by k_is) (by k_is)⟩)
    (case kx6 => k_is)
    (case ax7 => k_is)
    (case Fx7 => exact ⟨_, L2.W4 (by k_is) (by k_is) (by k_is)⟩)
    (case kx7 => k_is)
    (case ax8 => k_is)
    (case Fx8 => exact ⟨_, L2.W4 (by k_is) (by k_is) (by k_is)⟩)
    (case kx8 => k_is)
    (case ax9 => k_is)
    (case Fx9 => exact ⟨_, L2.W4 (by k_is) (by k_is) (by k_is)⟩)
    (case kx9 => k_is)
    (case ax10 => k_is)
    (case Fx10 => exact ⟨_, L2.W4 (by k_is) (by k_is) (by k_is)⟩)
    (case kx10 => k_is)
    (case ax11 => k_is)
    (case Fx11 => exact ⟨_, L2.W4 (by k_is) (by k_is) (by k_is)⟩)
    (case kx11 => k_is)
    (case ax12 => k_is)
    (case Fx12 => exact ⟨_, L2.W4 (by k_is) (by k_is) (by k_is)⟩)
    (case kx12 => k_is)
    (case ax13 => k_is)
    (case Fx13 => exact ⟨_, L2.W4 (by k_is) (by k_is) (by k_is)⟩)
    (case kx13 => k_is)
    (case ax14 => k_is)
    (case lx14 => k_is)
    (case cx14 => k_is)
    (case kx14 => k_is)
    (case zall => k_is)
    (case zdict => k_is)
    (case zenumerate => k_is)
    (case zint => k_is)
    (case zisinstance => k_is)
    (case zlen => k_is)
    (case zlist => k_is)
    (case zrange => k_is)
    (case zset => k_is)
    (case zsorted => k_is)
    (case zstr => k_is)
    (case ztuple => k_is)
