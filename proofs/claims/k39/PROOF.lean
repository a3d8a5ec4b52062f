import PyProof.Rows.All
import Wide.All
import OpenK.AllK
import Wide.FinOn
import Lean
import PyProof.EqAt
import PyProof.EqKinds
import PyProof.TupleCall
import PyProof.NeKinds
import PyProof.EnumMake
import PyProof.ConsumeWalk
import PyProof.StrWalks
import PyProof.WalksMore
import PyProof.StrLawsNeg
import KE.KDictList
import KE.KLam
import KE.KMinKey
import KE.KSortTup
import KE.KUnpack
import PySem.Challenge.RW_citeward_k39_whole_any_order
set_option Elab.async false
set_option linter.all false
set_option genSizeOf false
set_option genSizeOfSpec false
set_option maxRecDepth 100000
set_option maxHeartbeats 4000000
open Option renaming bind_eq_some_iff->aa,map_eq_some_iff->cm,some->cz,bind_some->c6
open PySem renaming wpAny_bind->ac,wpAny_pure->ag,Value->ah,Addr->aj,Shared->am,starEach->a9,sizeLine->bd,wpAny->bg,model->b4,Program->b6,mainGlobals->b7,FuncData->ci,Expr->cj,World->c7,Around->dh,wpAny_call_entry->dr,wpAny_loadPart'->du,Heap->d6,wpAny_newObj_type->ff,sizeLine_eq->fu,cLine->f6,wpAny_callSpecial?_slot->gd,wpAny_holding->gn,eval->gq,backTo->gr,SetTable->g7,compareOp->g9,strIterType->h9
open PySem.W renaming Frag->ad,keepIn->bu,nsIn->cr,mg_of->dw,mg_none_of->gu
open List renaming mem_cons_self->af,mem_cons_of_mem->ao,length_map->aq,mem_singleton->ar,getElem?_eq_getElem->av,length_append->aw,mem_map->ax,getElem?_map->az,getElem?_eq_some_iff->a8,map_cons->bc,length_cons->bf,mem_append_right->bh,mem_append_left->bj,getD_eq_getElem?_getD->bn,size_toArray->bq,mem_cons->bx,mem_append->bz,mem_of_getElem?->b5,map_append->b9,map_map->cg,range->cq,mem_range->cu,not_lt->de,nodup_nil->df,getElem?_append_left->dg,nodup_cons->dm,replicate->dn,nodup_append->dq,getElem?_eq_none->dy,getElem?_set_self->d5,nil_append->d7,getElem_of_mem->eh,lt_irrefl->fg,getElem?_set_ne->fj,length_singleton->f8,mem_flatMap->gh,getElem?_append_right->gk,append_assoc->gp,length_take->gw,cons_lt_cons_iff->gx,exists_cons_of_ne_nil->ic,toArray->ik,lookup_cons->im
open PySem.Heap renaming get?_push_of_some->au,lt_size->bo,get?_push_size->bp,get?_update_self->g6,SameBut->io
open Array renaming length_toList->ay,getElem?_toList->c9,getElem?_eq_some_iff->gm
open Nat renaming le_refl->ba,ne_of_lt->cf,lt_of_lt_of_le->c8,le_trans->dk,lt_or_ge->dv,not_lt_zero->dz,zero_le->f7,lt_of_le_of_lt->ib,lt_irrefl->ii
open Bool renaming false_eq_true->bi,false_ne_true->bv,not_true->fq
open PySem.Value renaming ref->b8,none->ck
open PySem.PassesOwn renaming never->cw
open List.Nodup renaming length_le_of_subset->da
open PySem.Obj renaming mapSeq->di
open PySem.Builtin.Str renaming occurrences->dj
open Sum renaming inr->d3
open PyProof.Rows renaming seqObj->d4
open Int renaming emod_lt_of_pos->d8,emod_nonneg->f9,toNat_natCast->g8
open Or renaming inr->gg
open PySem.F renaming slot_dict_keyiterator_next->gv
open List.Pairwise renaming and_mem->gz
open PySem.Around renaming under_plainId->ie
open PySem.Paired renaming length->ig
open PySem.NameKind renaming free->ij
local notation"А"=>List
local notation"Б"=>Option
local notation"В"=>Prop
local notation"Г"=>Nat
local notation"Д"=>if_neg
local notation"Е"=>if_pos
local notation"Ж"=>decide_eq_false
local macro"З":term=>`(by rfl)
local macro"И":term=>`(by omega)
local macro"Й":term=>`(by decide)
local macro"К":term=>`(by simp)
local macro"E"t:term:tactic=>`(tactic|exact $t)
local macro"R"t:term:tactic=>`(tactic|refine $t)
local macro"O"p:Lean.Parser.Tactic.rcasesPatMed":="t:term:tactic=>`(tactic|obtain $p := $t)
local macro"W":tactic=>`(tactic|omega)
local macro"C"x:ident:tactic=>`(tactic|cases $x:ident)
local macro"Л"d:Lean.Parser.Command.declId s:Lean.Parser.Command.declSig v:Lean.Parser.Command.declVal:command=>`(theorem $d:declId $s:declSig $v:declVal)
local macro"М"d:Lean.Parser.Command.declId s:Lean.Parser.Command.optDeclSig v:Lean.Parser.Command.declVal:command=>`(noncomputable def $d:declId $s:optDeclSig $v:declVal)
local macro"Н"d:Lean.Parser.Command.declId s:Lean.Parser.Command.optDeclSig v:Lean.Parser.Command.declVal:command=>`(@[simp] noncomputable def $d:declId $s:optDeclSig $v:declVal)
open Option renaming some->aA,none->aB
open Bool renaming true->aC,false->aD
local macro"G"t:term:51"="x:ident:tactic=>`(tactic|generalize $t=$x at *)
local macro"U"i:(ppSpace colGt ident)+l:(Lean.Parser.Tactic.location)?:tactic=>`(tactic|unfold $i* $[$l]?)
local macro"B"h:ident":"t:term:tactic=>`(tactic|by_cases $h:ident:$t)
local macro"J"t:term"with"p:Lean.Parser.Tactic.rcasesPatLo:tactic=>`(tactic|rcases $t:term with $p)
local macro"Q"h:ident:tactic=>`(tactic|subst $h:ident)
local macro"а"d:Lean.Parser.Command.declId s:Lean.Parser.Command.optDeclSig v:Lean.Parser.Command.declVal:command=>`(noncomputable abbrev $d:declId $s:optDeclSig $v:declVal)
local macro"V"d:Lean.Parser.Term.letDecl:tactic=>`(tactic|have $d:letDecl)
local macro"T"t:term:tactic=>`(tactic|show $t)
local macro"I"x:(ppSpace colGt term:max)*:tactic=>`(tactic|intro $x*)
local macro"K"s:Lean.Parser.Tactic.rwRuleSeq l:(Lean.Parser.Tactic.location)?:tactic=>`(tactic|rw $s:rwRuleSeq $[$l:location]?)
local macro"L"t:term:tactic=>`(tactic|simpa using $t)
namespace L2
open PySem PySem.Spec PyProof.Rows
аKey:=Sum Int Str
МGn:Key->ah->Bool
 | .inl k,v=>Value.isInt k v
 | .inr x,v=>Value.isStrOf x v
МZt8(w:c7):Key->Int
 | .inl k=>hashInt k
 | .inr x=>hashStr w x
ЛZ6:∀{k:Key} {v:ah},Gn k v=aC->(∃i t,k=Sum.inl i/\v=Value.int i t)\/(∃x t,k=d3 x/\v=Value.str x t)
 | .inl i,v,h=>by O⟨t,e⟩:=Value.isInt_shape (k:=i) (v:=v) h;E .inl ⟨i,t,rfl,e⟩
 | .inr x,v,h=>by O⟨t,e⟩:=Value.isStrOf_shape (x:=x) (v:=v) h;E .inr ⟨x,t,rfl,e⟩
ЛZa4(i:Int)(t:Tok):Gn (.inl i) (.int i t)=aC:=by simp[Gn,Value.isInt]
ЛZa5(x:Str)(t:Tok):Gn (.inr x) (.str x t)=aC:=by simp[Gn,Value.isStrOf]
ЛZlo(a b:Int):decide ((Sum.inl a:Key)=Sum.inl b)=(a==b):=by
 B e:a=b
 ·Q e;simp
 ·V h:¬(Sum.inl a:Key)=Sum.inl b:=λq=>e (Sum.inl.inj q);K[Ж h];E(beq_eq_false_iff_ne.mpr e).symm
ЛZlp(a b:Str):decide ((d3 a:Key)=d3 b)=decide (a=b):=by
 B e:a=b
 ·Q e;simp
 ·V h:¬(d3 a:Key)=d3 b:=λq=>e (d3.inj q);K[Ж h,Ж e]
ЛZlq(a:Int)(b:Str):decide ((Sum.inl a:Key)=d3 b)=aD:=Ж (λq=>nomatch q)
ЛZlr(a:Str)(b:Int):decide ((d3 a:Key)=Sum.inl b)=aD:=Ж (λq=>nomatch q)
МZr(prog:b6)(w:c7):PySem.KeyKind prog w Key where
 is:=Gn
 hash:=Zt8 w
 inj:=λv a b ha hb=>by
  J Z6 ha with⟨i,t,rfl,rfl⟩|⟨x,t,rfl,rfl⟩
  ·J Z6 hb with⟨j,u,rfl,e⟩|⟨y,u,rfl,e⟩
   ·injection e with e1 _;K[e1]
   ·E nomatch e
  ·J Z6 hb with⟨j,u,rfl,e⟩|⟨y,u,rfl,e⟩
   ·E nomatch e
   ·injection e with e1 _;K[e1]
 byValue:=λk v h=>by J Z6 h with⟨i,t,rfl,rfl⟩|⟨x,t,rfl,rfl⟩<;> rfl
 pyHash:=λhv h=>by
  J Z6 hv with⟨i,t,rfl,rfl⟩|⟨x,t,rfl,rfl⟩
  ·E wpAny_pyHash_int h
  ·E wpAny_pyHash_str h
 eqBool:=λhu hv h=>by
  J Z6 hu with⟨i,t,rfl,rfl⟩|⟨x,t,rfl,rfl⟩
  ·J Z6 hv with⟨j,u,rfl,rfl⟩|⟨y,u,rfl,rfl⟩
   ·K[Zlo]at h;E wpAny_eqBool_int h
   ·K[Zlq]at h;E SeqAt.EqAt.int_str i t y u _ _ _ _ h
  ·J Z6 hv with⟨j,u,rfl,rfl⟩|⟨y,u,rfl,rfl⟩
   ·K[Zlr]at h;E SeqAt.EqAt.str_int x t j u _ _ _ _ h
   ·K[Zlp]at h;E wpAny_eqBool_str h
 «strs»:=λk x t v h=>by
  J Z6 h with⟨i,u,rfl,e⟩|⟨y,u,rfl,e⟩
  ·E nomatch e
  ·injection e with e1 _;Q e1;cases v<;> rfl
ЛZls(prog:b6)(w:c7)(k:Key)(v:ah):(Zr prog w).is k v=Gn k v:=rfl
ЛPk(prog:b6)(w:c7)(i:Int)(t:Tok):(Zr prog w).is (.inl i) (.int i t)=aC:=Za4 i t
ЛPl(prog:b6)(w:c7)(x:Str)(t:Tok):(Zr prog w).is (.inr x) (.str x t)=aC:=Za5 x t
аZl:=Sum (А Str) (Int×А Str)
МGj(l:А Str):А Key:=l.map d3
ЛLi{a b:А Str}(h:Gj a=Gj b):a=b:=by
 induction a generalizing b with
 |nil=>cases b with
  |nil=>rfl
  |cons y b=>simp[Gj]at h
 |cons x a ih=>cases b with
  |nil=>simp[Gj]at h
  |cons y b=>simp only[Gj,bc,List.cons.injEq]at h;K[d3.inj h.1,ih h.2]
ЛHs(a b:А Str):decide (Gj a=Gj b)=decide (a=b):=by
 B e:a=b
 ·K[e];simp
 ·K[Ж e,Ж λz=>e (Li z)]
МOm(prog:b6)(w:c7)(h:d6):Zl->aj->В
 | .inl l,a=>IsTupleKey (Zr prog w) h (Gj l) a
 | .inr (n,l),a=>∃o items m t b,h.get? a=aA o/\o.cls= .type "tuple"/\o.data= .seq items m/\items.toList=[.int n t,.ref b]/\IsTupleKey (Zr prog w) h (Gj l) b
МYe(prog:b6)(w:c7):Zl->Int
 | .inl l=>tupleKeyHash (Zr prog w) (Gj l)
 | .inr (n,l)=>reduceHash (Builtin.Tuple.tupleHashOf [hashInt n,tupleKeyHash (Zr prog w) (Gj l)])
МT7:Zl->Г
 | .inl l=>(Gj l).length+1
 | .inr (_,l)=>1+((Gj l).length+1)+1
section
variable{prog:b6}{w:c7}{A:dh}{E:ah->am->В}{s:am}
ЛOm.typeIs{k:Zl}{a:aj}(x:Om prog w s.heap k a):s.TypeIs (.ref a) "tuple":=by
 cases k with
 |inl l=>E IsTupleKey.typeIs (show IsTupleKey (Zr prog w) s.heap (Gj l) a from x)
 |inr p=>O⟨o,_,_,_,_,ho,hc,_⟩:=x;E⟨o,ho,hc⟩
ЛT8{l:А Str}{n:Int}{t:Tok}{vs:А ah}(h:ItemsAre (Zr prog w) (Gj l) (.int n t::vs)):False:=by
 cases l with
 |nil=>C h
 |cons x l=>
  cases h with
  |cons h1 _=>
   J Z6 (k:=.inr x) (v:=.int n t) h1 with⟨_,_,e,_⟩|⟨_,_,_,e⟩
   ·C e
   ·C e
ЛOm.inj{h:d6}{a:aj}{x y:Zl}(hx:Om prog w h x a)(hy:Om prog w h y a):x=y:=by
 V mix:∀{l:А Str} {n:Int} {l2:А Str},Om prog w h (.inl l) a->Om prog w h (.inr (n,l2)) a->False:=fun{l n l2} h1 h2=>by O⟨o,items,m,ho,_,hd,hi⟩:=h1;O⟨o',items',m',t,b,ho',_,hd',e,_⟩:=h2;obtain rfl:o=o':=cz.inj (ho.symm.trans ho');K[hd]at hd';injection hd' with z _;Q z;K[e]at hi;E T8 hi
 cases x with
 |inl l=>cases y with
  |inl l2=>K[Li (IsTupleKey.inj (show IsTupleKey (Zr prog w) h (Gj l) a from hx) hy)]
  |inr p=>E(mix hx hy).elim
 |inr p=>cases y with
  |inl l2=>E(mix hy hx).elim
  |inr q=>O⟨n,l⟩:=p;O⟨n2,l2⟩:=q;O⟨o,items,m,t,b,ho,_,hd,e,hb⟩:=hx;O⟨o',items',m',t',b',ho',_,hd',e',hb'⟩:=hy;obtain rfl:o=o':=cz.inj (ho.symm.trans ho');K[hd]at hd';injection hd' with z _;Q z;K[e]at e';injection e' with e1 e2;injection e1 with e1 _;injection e2 with e2 _;injection e2 with e2;subst e1 e2;K[Li (hb.inj hb')]
ЛOm.keeps{h h':d6}{k:Zl}{a d:aj}{o:Obj}{es ep} (x:Om prog w h k a) (ho:h.get? d=aA o) (hd:o.data= .dict es ep) (hs:io d h h'):Om prog w h' k a:=by
 cases k with
 |inl l=>E IsTupleKey.keeps (show IsTupleKey (Zr prog w) h (Gj l) a from x) ho hd hs
 |inr p=>
  O⟨o',items,m,t,b,ho',hc,hd',e,hb⟩:=x;V hne:a≠d:=by rintro rfl;obtain rfl:o'=o:=cz.inj (ho'.symm.trans ho);K[hd]at hd';E nomatch hd'
  E⟨o',items,m,t,b,(hs.2 a hne).trans ho',hc,hd',e,hb.keeps ho hd hs⟩
ЛOm.mono{h h':d6}{k:Zl}{a:aj}(x:Om prog w h k a)(hk:∀b o,h.get? b=aA o->h'.get? b=aA o):Om prog w h' k a:=by
 cases k with
 |inl l=>O⟨o,items,m,ho,r⟩:=x;E⟨o,items,m,hk _ _ ho,r⟩
 |inr p=>O⟨o,items,m,t,b,ho,hc,hd,e,⟨o2,i2,m2,ho2,r2⟩⟩:=x;E⟨o,items,m,t,b,hk _ _ ho,hc,hd,e,o2,i2,m2,hk _ _ ho2,r2⟩
ЛZcx{k:Zl}{a:aj}{Q:Int->am->В}(hu:A.units+1<f6)(hk:Om prog w s.heap k a)(h:Q (Ye prog w k) {s with toks:=s.toks+T7 k}):bg (b4 prog w) A (pyHash (.ref a)) Q E s:=by
 cases k with
 |inl l=>E wpAny_pyHash_tuple (knd:=Zr prog w) И hk h
 |inr p=>
  V hT:=hk.typeIs;O⟨n,l⟩:=p;O⟨o,items,m,t,b,ho,_,hd,hi,hb⟩:=hk;U pyHash
  first|U pyHashByItsType|skip
  first|R ac (wpAny_cRoomFor_or (.inr И) ?_)|skip
  R ac (wpAny_specialOf hT F.slot_tuple_hash.lookup ?_);T bg _ _ (if(aA (Value.builtin "tuple.__hash__")==aA ck)=aC then _ else _) Q E s;K[Д (by K[beq_builtin_none];E bv)];R ac (wpAny_specialOf hT F.slot_tuple_hash.lookup ?_);T bg _ _ (callSpecialIfBoundUnlessNone? (.ref a) "__hash__" _ >>=_) Q E s;R ac (wpAny_callSpecialIfBoundUnlessNone?_slot hT F.slot_tuple_hash (dr F.slot_tuple_hash hT F.entry_tuple_hash ?_ (F.args_tuple_hash_1 _)));T bg _ _ (Builtin.Tuple.tupleItemsOf (.ref a) >>=_) _ _ s;R ac (wpAny_tupleItemsOf ho hd ?_);R ac ?_;K[<-Array.forIn_toList,hi];simp only[List.forIn_cons,List.forIn_nil];V hu1:A.in1.units<cLine:=hu;R ac (ac (wpAny_pyHash_int ?_));R ag ?_;dsimp only;R ac (ac (wpAny_pyHash_tuple (knd:=Zr prog w) (s:={s with toks:=s.toks+1}) hu1 hb ?_));R ag ?_;R ag ?_;generalize hg:tupleKeyHash (Zr prog w) (Gj l)=g at h⊢;show bg _ _ (retInt (Builtin.Tuple.tupleHashOf [hashInt n,g])) _ _ _;R wpAny_ret_mkInt ?_;U Ye at h;dsimp only at h;K[hg]at h;generalize Builtin.Tuple.tupleHashOf [hashInt n,g]=z at h⊢;show bg _ _ (if(decide (-(2:Int)^63<=z)&&decide (z<2^63))=aC then _ else _) Q E _;U reduceHash at h;B hr:(decide (-(2:Int)^63<=z)&&decide (z<2^63))=aC
  ·K[Е hr];K[Е hr]at h;E ag (by simpa[T7,Nat.add_assoc]using h)
  ·K[Д hr];K[Д hr]at h;E ac (wpAny_rule (ag (by simpa[T7,Nat.add_assoc]using h)))
ЛZa6{x y:Zl}{a b:aj}{P:Fin->am->В}(hu:A.units<f6)(hx:Om prog w s.heap x a)(hy:Om prog w s.heap y b)(h:P (.done (.ret (.bool (decide (x=y))))) s):
  bg (b4 prog w) A (Builtin.«tuple.__eq__» ⟨[.ref a,.ref b],[]⟩) P E s:=by
 V mixS:∀(x:Str) (tx:Tok) (n:Int) (tn:Tok) {Q:Bool->am->В},Q aD s->bg (b4 prog w) A (eqBool (.str x tx) (.int n tn)) Q E s:=λx tx n tn Q q=>SeqAt.EqAt.str_int x tx n tn _ _ _ _ q;V mixI:∀(x:Str) (tx:Tok) (n:Int) (tn:Tok) {Q:Bool->am->В},Q aD s->bg (b4 prog w) A (eqBool (.int n tn) (.str x tx)) Q E s:=λx tx n tn Q q=>SeqAt.EqAt.int_str n tn x tx _ _ _ _ q;V hTb:=hy.typeIs;cases x with
 |inl l=>cases y with
  |inl l2=>
   R tuple_eq_tree (knd:=Zr prog w) (x:=Gj l) (y:=Gj l2) hx hy ?_;K[Hs];V :decide ((Sum.inl l:Zl)=Sum.inl l2)=decide (l=l2):=by
    B e:l=l2
    ·K[e];simp
    ·K[Ж e,Ж λz=>e (Sum.inl.inj z)]
   K[this]at h;E h
  |inr p=>
   O⟨n,l2⟩:=p;O⟨oa,xs,na,hoa,_,hda,hia⟩:=hx;O⟨ob,ys,nb,t,c,hob,_,hdb,e,hc⟩:=hy;V hf:decide ((Sum.inl l:Zl)=d3 (n,l2))=aD:=Ж λz=>nomatch z;K[hf]at h;T bg _ _ (isInstance (.ref b) (.type "tuple") >>=_) _ _ s;R ac (wpAny_isInstance hTb isSubtype_tuple_tuple ?_);simp only[fq,bi,if_false];R ac (wpAny_tupleItemsOf hoa hda ?_);R ac (wpAny_tupleItemsOf hob hdb ?_);K[e];V sy:ys.size=2:=by K[<-ay,e];rfl
   cases l with
   |nil=>
    generalize hxs:xs.toList=vs at hia;C hia;V sx:xs.size=0:=by K[<-ay,hxs];rfl
    simp only[List.zip_nil_left,List.forIn_nil];R ac (ag ?_);R ag ?_;T P (.done (.ret (.bool (xs.size==ys.size)))) s;K[sx,sy];E h
   |cons x l=>
    generalize hxs:xs.toList=vs at hia;cases hia with
    | @cons _ v _ vs h1 _=>
     J Z6 (k:=.inr x) (v:=v) h1 with⟨_,_,z,_⟩|⟨_,tx,z,rfl⟩
     ·C z
     ·simp only[List.zip_cons_cons,List.forIn_cons];R ac (ac (ac (mixS _ _ _ _ ?_)));simp only[Bool.not_false,if_true];E ac (ag (ag (ag (ag h))))
 |inr p=>cases y with
  |inl l=>
   O⟨n,l2⟩:=p;O⟨ob,ys,nb,t,c,hob,_,hdb,e,hc⟩:=hx;O⟨oa,xs,na,hoa,_,hda,hia⟩:=hy;V hf:decide ((d3 (n,l2):Zl)=Sum.inl l)=aD:=Ж λz=>nomatch z;K[hf]at h;T bg _ _ (isInstance (.ref b) (.type "tuple") >>=_) _ _ s;R ac (wpAny_isInstance hTb isSubtype_tuple_tuple ?_);simp only[fq,bi,if_false];R ac (wpAny_tupleItemsOf hob hdb ?_);R ac (wpAny_tupleItemsOf hoa hda ?_);K[e];V sy:ys.size=2:=by K[<-ay,e];rfl
   cases l with
   |nil=>
    generalize hxs:xs.toList=vs at hia;C hia;V sx:xs.size=0:=by K[<-ay,hxs];rfl
    simp only[List.zip_nil_right,List.forIn_nil];R ac (ag ?_);R ag ?_;T P (.done (.ret (.bool (ys.size==xs.size)))) s;K[sx,sy];E h
   |cons x l=>
    generalize hxs:xs.toList=vs at hia;cases hia with
    | @cons _ v _ vs h1 _=>
     J Z6 (k:=.inr x) (v:=v) h1 with⟨_,_,z,_⟩|⟨_,tx,z,rfl⟩
     ·C z
     ·simp only[List.zip_cons_cons,List.forIn_cons];R ac (ac (ac (mixI _ _ _ _ ?_)));simp only[Bool.not_false,if_true];E ac (ag (ag (ag (ag h))))
  |inr q=>
   O⟨n,l⟩:=p;O⟨n2,l2⟩:=q;O⟨oa,xs,na,ta,ca,hoa,_,hda,ea,hca⟩:=hx;O⟨ob,ys,nb,tb,cb,hob,_,hdb,eb,hcb⟩:=hy;T bg _ _ (isInstance (.ref b) (.type "tuple") >>=_) _ _ s;R ac (wpAny_isInstance hTb isSubtype_tuple_tuple ?_);simp only[fq,bi,if_false];R ac (wpAny_tupleItemsOf hoa hda ?_);R ac (wpAny_tupleItemsOf hob hdb ?_);K[ea,eb];V sx:xs.size=2:=by K[<-ay,ea];rfl
   V sy:ys.size=2:=by K[<-ay,eb];rfl
   simp only[List.zip_cons_cons,List.zip_nil_left,List.forIn_cons,List.forIn_nil];R ac (ac (ac (wpAny_eqBool_int ?_)));B hn:n=n2
   ·Q hn;simp only[beq_self_eq_true,fq,bi,if_false];R ag ?_;dsimp only;R ac (ac (wpAny_eqBool_tuple (knd:=Zr prog w) hu hca hcb ?_));K[Hs];B hl:l=l2
    ·Q hl;simp only[decide_true,fq,bi,if_false];R ag (ag (ag ?_));T P (.done (.ret (.bool (xs.size==ys.size)))) s;K[sx,sy];L h
    ·simp only[decide_eq_false hl,Bool.not_false,if_true];V hf:decide ((d3 (n,l):Zl)=d3 (n,l2))=aD:=Ж λz=>hl (by injection z with z;injection z);K[hf]at h;E ac (ag (ag (ag (ag h))))
   ·V hb:(n==n2)=aD:=beq_eq_false_iff_ne.mpr hn;simp only[hb,Bool.not_false,if_true];V hf:decide ((d3 (n,l):Zl)=d3 (n2,l2))=aD:=Ж λz=>hn (by injection z with z;injection z);K[hf]at h;E ac (ag (ag (ag (ag h))))
ЛZow{x y:Zl}{a b:aj}{Q:Bool->am->В}(hu:A.units+1<f6)(hx:Om prog w s.heap x a)(hy:Om prog w s.heap y b)(h:Q (decide (x=y)) s):bg (b4 prog w) A (eqBool (.ref a) (.ref b)) Q E s:=by
 U eqBool
 try with_reducible R gn ?_
 T bg _ _ (if(b8 a==b8 b)=aC then _ else _) Q E s;B hab:(b8 a==b8 b)=aC
 ·K[Е hab];V e:a=b:=by V :=eq_of_beq hab;injection this
  Q e;obtain rfl:=hx.inj hy;E ac (wpAny_rule (ag (by L h)))
 ·K[Д hab];E ac (wpAny_richCompare_same_room (op:=.Eq) hx.typeIs hy.typeIs F.slot_tuple_eq
   (dr F.slot_tuple_eq hx.typeIs F.entry_tuple_eq (Za6 (A:=A.in1) hu hx hy ⟨_,rfl,(λe=>nomatch e),wpAny_truthy_bool h⟩) (F.args_tuple_eq_2 _ _)) И)
ЛHt{m:Г}{ks:А Key}{a:aj}{Q:Bool->am->В}(hk:IsTupleKey (Zr prog w) s.heap ks a)(h:Q aC s):bg (b4 prog w) A (eqIsQuiet (m+1) (.ref a)) Q E s:=by
 V hT:=hk.typeIs;O⟨o,items,n,ho,_,hd,hi⟩:=hk;U eqIsQuiet;R ac (wpAny_specialOf hT F.slot_tuple_eq.lookup ?_);T bg _ _ (isInstance (.ref a) (.type "tuple") >>=_) _ _ s;R ac (wpAny_isInstance hT isSubtype_tuple_tuple ?_);simp only[fq,bi,if_false];R ac (wpAny_seqItems ho hd ?_);R ac ?_;T bg _ _ (forIn items _ _) _ _ s;K[<-Array.forIn_toList];R wpAny_forIn_list _ (λrest r s'=>r.1=aB/\s'=s/\∀v∈rest,carriedByValue v=aC) _ ?_ ?_ _ _ ⟨rfl,rfl,hi.byValue⟩
 ·rintro v rest r s' ⟨hr,rfl,hall⟩;K[eqIsQuiet_byValue _ (hall v af)];R ac (ag ?_);simp only[fq,bi,if_false];E ag ⟨rfl,rfl,λu hu'=>hall u (ao _ hu')⟩
 ·rintro⟨r1,r2⟩ s' ⟨hr,rfl,_⟩;simp only at hr;Q hr;E ag h
ЛLj{k:Zl}{a:aj}{Q:Bool->am->В}(hk:Om prog w s.heap k a)(h:Q aC s):bg (b4 prog w) A (eqIsQuiet 8 (.ref a)) Q E s:=by
 cases k with
 |inl l=>E Ht hk h
 |inr p=>have hT:=hk.typeIs;O⟨n,l⟩:=p;O⟨o,items,m,t,b,ho,_,hd,hi,hb⟩:=hk;U eqIsQuiet;R ac (wpAny_specialOf hT F.slot_tuple_eq.lookup ?_);T bg _ _ (isInstance (.ref a) (.type "tuple") >>=_) _ _ s;R ac (wpAny_isInstance hT isSubtype_tuple_tuple ?_);simp only[fq,bi,if_false];R ac (wpAny_seqItems ho hd ?_);R ac ?_;T bg _ _ (forIn items _ _) _ _ s;K[<-Array.forIn_toList,hi];simp only[List.forIn_cons,List.forIn_nil];K[eqIsQuiet_byValue _ (v:=Value.int n t) rfl];R ac (ac (ag ?_));simp only[fq,bi,if_false];R ag ?_;dsimp only;R ac (ac (Ht hb ?_));simp only[fq,bi,if_false];E ag (ag (ag h))
end
МFj(prog:b6)(w:c7):HeapKind prog w Zl where
 is:=Om prog w
 hash:=Ye prog w
 draws:=T7
 room:=λA=>A.units+1<f6
 inj:=λhx hy=>hx.inj hy
 keeps:=λx ho hd hs=>x.keeps ho hd hs
 pyHash:=λhu hk h=>Zcx hu hk h
 eqBool:=λhu hx hy h=>Zow hu hx hy h
 quiet:=λhk h=>Lj hk h
inductive V where
 |non|bl (b:Bool)|int (i:Int)|str (x:Str)|byt (b:Array UInt8)|flt (b:UInt64)|ref (a:aj)|ty (n:String)
 deriving DecidableEq
МZy:V->ah->В
 | .non,u=>u=ck
 | .bl b,u=>u=Value.bool b
 | .int i,u=>∃t,u=Value.int i t
 | .str x,u=>∃t,u=Value.str x t
 | .byt b,u=>∃t,u=Value.bytes b t
 | .flt b,u=>∃t,u=Value.float b t
 | .ref a,u=>u=b8 a
 | .ty n,u=>u=Value.type n
аZ2:А V->А ah->Prop:=Paired Zy
ЛZ2.length{xs:А V}{us:А ah}(r:Z2 xs us):xs.length=us.length:=ig r
ЛZ2.get:∀{xs:А V} {us:А ah} {i:Г} {x:V},Z2 xs us->xs[i]? =aA x->∃u,us[i]? =aA u/\Zy x u
 |_,_,_,_,.nil,e=>by simp at e
 |_,_,0,_,.cons r _,e=>by simp at e;Q e;E⟨_,rfl,r⟩
 |_,_,i+1,x,.cons _ t,e=>by O⟨u,h1,h2⟩:=Z2.get (i:=i) (x:=x) t (by L e);E⟨u,by L h1,h2⟩
ЛZ2.set{x:V}{u:ah}(r:Zy x u):∀{xs:А V} {us:А ah} (i:Г),Z2 xs us->Z2 (xs.set i x) (us.set i u)
 |_,_,_,.nil=>.nil
 |_,_,0,.cons _ t=>.cons r t
 |_,_,i+1,.cons q t=>.cons q (Z2.set r i t)
ЛZ2.append:∀{xs ys:А V} {us ws:А ah},Z2 xs us->Z2 ys ws->Z2 (xs++ys) (us++ws)
 |_,_,_,_,.nil,s=>s
 |_,_,_,_,.cons r t,s=>.cons r (Z2.append t s)
ЛZ2.take:∀{xs:А V} {us:А ah} (n:Г),Z2 xs us->Z2 (xs.take n) (us.take n)
 |_,_,0,_=>.nil
 |_,_,_+1,.nil=>.nil
 |_,_,n+1,.cons r t=>.cons r (Z2.take n t)
ЛZ2.drop:∀{xs:А V} {us:А ah} (n:Г),Z2 xs us->Z2 (xs.drop n) (us.drop n)
 |_,_,0,r=>r
 |_,_,_+1,.nil=>.nil
 |_,_,n+1,.cons _ t=>Z2.drop n t
МTi:Б V->Б ah->В
 |some v,aA u=>Zy v u
 |none,aB=>True
 |_,_=>False
МKV{κ:Type}:А (κ×V)->А (κ×ah)->Prop:=Paired λ(p:κ×V) (q:κ×ah)=>p.1=q.1/\Zy p.2 q.2
МkV:Key->V
 | .inl i=>.int i
 | .inr x=>.str x
inductive HO where
 |lst (xs:А V)
 |tup (xs:А V)
 |dK (kvs:А (Key×V)) (ep:Г)|dT (kvs:А (А Key×V)) (ep:Г) (bs:А aj)|dN (kvs:А (Zl×V)) (ep:Г) (bs:А aj)
 |set (S:Int->Bool) (n:Г)
 |ins (C dx:aj) (fs:А (Str×V))
 |own (x:aj)
 |xd (fs:А (Str×V))
 |met (f x:aj)
 |rng (lo hi:Int)
 |frz (o:Obj) (u:HO)
 |tbl (ps:Array ah)
 |tab (q:Str)
 |ext (φ:d6->В)
аHp:=aj->Б HO
МZ9(H:Hp)(a:aj)(o:HO):Hp:=λb=>if b=a then aA o else H b
ЛZ3{H:Hp}{a:aj}{o:HO}:Z9 H a o a=aA o:=by U Z9;K[Е rfl]
ЛZw{H:Hp}{a b:aj}{o:HO}(h:b≠a):Z9 H a o b=H b:=by U Z9;K[Д h]
ЛZg9{H:Hp}{a:aj}{o u:HO}:Z9 (Z9 H a o) a u=Z9 H a u:=by funext b;U Z9;split<;> rfl
ЛT9{H:Hp}{a b:aj}{o u:HO}(h:H a=aA o)(h':H b=aA u)(d:o≠u):a≠b:=by I e;Q e;K[h]at h';E d (cz.inj h')
ЛY6{H:Hp}{a b:aj}{o:HO}(h:H a=aA o)(h':H b=aB):a≠b:=by I e;Q e;K[h]at h';C h'
МQ4(H:Hp):Zl->aj->В
 | .inl l,b=>H b=aA (.tup ((Gj l).map kV))
 | .inr (n,l),b=>∃c,H b=aA (.tup [.int n,.ref c])/\H c=aA (.tup ((Gj l).map kV))
ЛQ4.mono{H H':Hp}{k:Zl}{b:aj}(h:Q4 H k b)(ht:∀b xs,H b=aA (.tup xs)->H' b=aA (.tup xs)):Q4 H' k b:=by
 cases k with
 |inl l=>E ht _ _ h
 |inr p=>O⟨c,h1,h2⟩:=h;E⟨c,ht _ _ h1,ht _ _ h2⟩
section
variable(P:b6)(w:c7)
МYj(H:Hp)(h:d6)(a:aj):HO->В
 | .lst xs=>xs.length<=sizeLine/\∃(its:А ah) (n:Г),Z2 xs its/\h.get? a=aA {cls:=.type "list",data:=.seq its.toArray n}
 | .tup xs=>xs.length<=sizeLine/\∃its:А ah,Z2 xs its/\IsTup h a its.toArray
 | .dK kvs ep=>kvs.length<=sizeLine/\(a==sysModules)=aD/\∃vs,KV kvs vs/\h.DictAt (Zr P w) a vs ep
 | .dT kvs ep bs=>kvs.length<=sizeLine/\(a==sysModules)=aD/\∃xs:А (А Key×aj×ah),
   Paired (λ(p:А Key×V) (q:А Key×aj×ah)=>p.1=q.1/\H q.2.1=aA (.tup (p.1.map kV))/\Zy p.2 q.2.2) kvs xs/\
   ∃o es,h.get? a=aA o/\o.ExactDict/\o.data= .dict es ep/\es.toList=xs.map (entryOfKey (tupleKind (Zr P w)))/\(xs.map (·.1)).Nodup/\(xs.map λx=>x.2.1)=bs
 | .dN kvs ep bs=>kvs.length<=sizeLine/\(a==sysModules)=aD/\∃xs:А (Zl×aj×ah),
   Paired (λ(p:Zl×V) (q:Zl×aj×ah)=>p.1=q.1/\Q4 H p.1 q.2.1/\Zy p.2 q.2.2) kvs xs/\
   ∃o es,h.get? a=aA o/\o.ExactDict/\o.data= .dict es ep/\es.toList=xs.map (entryOfKey (Fj P w))/\(xs.map (·.1)).Nodup/\(xs.map λx=>x.2.1)=bs
 | .set S n=>h.SetOf (intKind P w) a S n
 | .ins C dx fs=>H dx=aA (.own a)/\fs.length<=1000/\dx≠a/\h.get? a=aA (PySem.W.instObj C dx)/\
   ∃mA,h.Ns1 dx mA/\(∀f,Ti (fs.lookup f) (mA f))/\PySem.Within mA (fs.map (·.1))
 | .own _=>∃o,h.get? a=aA o
 | .xd fs=>∃mA,h.Ns1 a mA/\∀f,Ti (fs.lookup f) (mA f)
 | .rng lo hi=>∃t u v,h.get? a=aA {cls:=.type "range",data:=.fields #[.int lo t,.int hi u,.int 1 v]}
 | .frz o u=>h.get? a=aA o/\Yj H h a u
 | .tbl ps=>h.get? a=aA {cls:=.none,data:=.fields ps}
 | .met f x=>h.get? a=aA (PySem.W.methodObj (.ref f) (.ref x))
 | .tab q=>∃ps:Array ah,h.get? a=aA {cls:=.none,data:=.fields ps}/\TriplesOk ps.toList/\∀pos cv,codeAmong pos ps.toList=aA cv->∃c o vs t,cv= .ref c/\H c=aA (.frz o (.own a))/\o.data= .fields vs/\vs[1]? =aA (.str q t)
 | .ext φ=>φ h/\(∃o,h.get? a=aA o)/\∀h1 h2:d6,φ h1->(∀o,h1.get? a=aA o->h2.get? a=aA o)->φ h2
МGo(H:Hp)(h:d6):Prop:=∀a o,H a=aA o->Yj P w H h a o
end
section
variable{P:b6}{w:c7}{H H':Hp}{h h':d6}{a:aj}{o:HO}
ЛYj.lt(x:Yj P w H h a o):a<h.objs.size:=by
 cases o with
 |lst xs=>O⟨_,_,_,_,e⟩:=x;E bo e
 |tup xs=>O⟨_,_,_,p⟩:=x;E p.lt
 |dK kvs ep=>O⟨_,_,_,_,o,_,e,_⟩:=x;E bo e
 |dT kvs ep bs=>O⟨_,_,_,_,o,_,e,_⟩:=x;E bo e
 |dN kvs ep bs=>O⟨_,_,_,_,o,_,e,_⟩:=x;E bo e
 |set S n=>O⟨o,_,_,_,e,_⟩:=x;E bo e
 |ins C dx fs=>O⟨_,_,_,e,_⟩:=x;E bo e
 |own y=>O⟨_,e⟩:=x;E bo e
 |xd fs=>O⟨_,⟨_,_,_,e,_⟩,_⟩:=x;E bo e
 |rng lo hi=>O⟨_,_,_,e⟩:=x;E bo e
 |frz ob u=>O⟨e,_⟩:=x;E bo e
 |tbl ps=>E bo (show h.get? a=aA _ from x)
 |met f y=>E bo (show h.get? a=aA _ from x)
 |tab q=>O⟨_,e,_⟩:=x;E bo e
 |ext φ=>O⟨_,⟨_,e⟩,_⟩:=x;E bo e
ЛPaired.mapP{α β:Type}{F G:α->β->В}{l₁:А α}{l₂:А β}(h:Paired F l₁ l₂)(f:∀a b,F a b->G a b):Paired G l₁ l₂:=by
 induction h with
 |nil=>E .nil
 |cons r _ ih=>E .cons (f _ _ r) ih
ЛYj.stay(x:Yj P w H h a o)(k:∀b u,(b=a\/H b=aA (.own a))->h.get? b=aA u->h'.get? b=aA u)
  (ho:∀b,H b=aA (.own a)->H' b=aA (.own a)) (ht:∀b xs,H b=aA (.tup xs)->H' b=aA (.tup xs))
  (hz:∀b o,H b=aA (.frz o (.own a))->H' b=aA (.frz o (.own a)):=by first|E λ_ _ q=>q| (intro b o q;K[Zw (Y6 q (by assumption))];E q)):Yj P w H' h' a o:=by
 induction o with
 |lst xs=>O⟨z,its,n,r,e⟩:=x;E⟨z,its,n,r,k _ _ (.inl rfl) e⟩
 |tup xs=>O⟨z,its,r,ob,e,c⟩:=x;E⟨z,its,r,ob,k _ _ (.inl rfl) e,c⟩
 |dK kvs ep=>O⟨z,y,vs,r,ob,es,e,c⟩:=x;E⟨z,y,vs,r,ob,es,k _ _ (.inl rfl) e,c⟩
 |dT kvs ep bs=>O⟨z,y,xs,r,ob,es,e,c⟩:=x;E⟨z,y,xs,Paired.mapP r λp q z=>⟨z.1,ht _ _ z.2.1,z.2.2⟩,ob,es,k _ _ (.inl rfl) e,c⟩
 |dN kvs ep bs=>O⟨z,y,xs,r,ob,es,e,c⟩:=x;E⟨z,y,xs,Paired.mapP r λp q z=>⟨z.1,z.2.1.mono ht,z.2.2⟩,ob,es,k _ _ (.inl rfl) e,c⟩
 |set S n=>O⟨ob,es,ep,t,e,c⟩:=x;E⟨ob,es,ep,t,k _ _ (.inl rfl) e,c⟩
 |ins C dx fs=>O⟨d,z,ne,e,mA,⟨od,es,ep,e2,c⟩,r⟩:=x;E⟨ho _ d,z,ne,k _ _ (.inl rfl) e,mA,⟨od,es,ep,k _ _ (.inr d) e2,c⟩,r⟩
 |own y=>O⟨ob,e⟩:=x;E⟨ob,k _ _ (.inl rfl) e⟩
 |xd fs=>O⟨mA,⟨od,es,ep,e,c⟩,r⟩:=x;E⟨mA,⟨od,es,ep,k _ _ (.inl rfl) e,c⟩,r⟩
 |rng lo hi=>O⟨t,u,v,e⟩:=x;E⟨t,u,v,k _ _ (.inl rfl) e⟩
 |frz ob u ih=>O⟨e,q⟩:=x;E⟨k _ _ (.inl rfl) e,ih q⟩
 |tbl ps=>have e:h.get? a=aA {cls:=.none,data:=.fields ps}:=x;T h'.get? a=aA {cls:=.none,data:=.fields ps};E k a _ (.inl rfl) e
 |met f y=>have e:h.get? a=aA (PySem.W.methodObj (.ref f) (.ref y)):=x;T h'.get? a=aA (PySem.W.methodObj (.ref f) (.ref y));E k a _ (.inl rfl) e
 |tab q=>O⟨ps,e,t,c⟩:=x;R⟨ps,k _ _ (.inl rfl) e,t,λpos cv z=>?_⟩;O⟨c1,o1,vs,tt,e1,e2,r⟩:=c pos cv z;E⟨c1,o1,vs,tt,e1,hz _ _ e2,r⟩
 |ext φ=>O⟨p,⟨o,e⟩,st⟩:=x;E⟨st _ _ p λo q=>k _ _ (.inl rfl) q,⟨o,k _ _ (.inl rfl) e⟩,st⟩
ЛGo.lt(x:Go P w H h)(e:H a=aA o):a<h.objs.size:=(x a o e).lt
ЛGo.fresh(x:Go P w H h)(e:h.objs.size<=a):H a=aB:=by
 cases q:H a with
 |none=>rfl
 |some u=>E absurd (c8 (x.lt q) e) (ii _)
ЛGo.kept(x:Go P w H h)(k:∀b u,h.get? b=aA u->h'.get? b=aA u):Go P w H h':=λa o e=>
 (x a o e).stay (λb u _ q=>k b u q) (λ_ q=>q) λ_ _ q=>q
ЛGo.laid(x:Go P w H h)(k:∀b u,h.get? b=aA u->h'.get? b=aA u)(hp:h.objs.size<=a)(new:Yj P w (Z9 H a o) h' a o):Go P w (Z9 H a o) h':=λb u e=>by
 V hn:=x.fresh hp;B hb:b=a
 ·Q hb;K[Z3]at e;C e;E new
 ·K[Zw hb]at e;E(x b u e).stay (λc v _ q=>k c v q) (λc q=>by K[Zw (Y6 q hn)];E q) λc xs q=>by K[Zw (Y6 q hn)];E q
end
МRd(H:Hp)(a:aj)(u:HO):Prop:=H a=aA u\/∃o,H a=aA (.frz o u)
ЛRd.ok{P:b6}{w:c7}{H:Hp}{h:d6}{a:aj}{u:HO}(r:Rd H a u)(x:Go P w H h):Yj P w H h a u:=by
 J r with r|⟨o,r⟩
 ·E x a u r
 ·O⟨_,q⟩:=x a _ r;E q
МHK(H:Hp)(a:aj)(kvs:А (Key×V)):Prop:=∃ep,H a=aA (.dK kvs ep)
МHTt(H:Hp)(a:aj)(kvs:А (А Key×V)):Prop:=∃ep bs,H a=aA (.dT kvs ep bs)
МRdK(H:Hp)(a:aj)(kvs:А (Key×V)):Prop:=∃ep,Rd H a (.dK kvs ep)
МRdT(H:Hp)(a:aj)(kvs:А (А Key×V)):Prop:=∃ep bs,Rd H a (.dT kvs ep bs)
ЛHK.rd{H:Hp}{a:aj}{kvs:А (Key×V)}(h:HK H a kvs):RdK H a kvs:=let⟨ep,h⟩:=h;⟨ep,.inl h⟩
МPn(kvs:А (А Key×V))(bs:А aj)(k:А Key)(b:aj):А Addr:=if(kvs.any λkv=>decide (kv.1=k))=aC then bs else bs++[b]
ЛHTt.rd{H:Hp}{a:aj}{kvs:А (А Key×V)}(h:HTt H a kvs):RdT H a kvs:=let⟨ep,bs,h⟩:=h;⟨ep,bs,.inl h⟩
МMut:Б HO->В
 |some (.lst _)=>True
 |some (.dK _ _)=>True
 |some (.dT _ _ _)=>True
 |some (.dN _ _ _)=>True
 |some (.set _ _)=>True
 |some (.ins _ _ _)=>True
 |some (.ext _)=>True
 |_=>False
section
variable{P:b6}{w:c7}{H:Hp}{h h':d6}{x e:aj}{o':HO}
ЛGo.write(ok:Go P w H h)(mu:Mut (H x))(he:e=x\/H e=aA (.own x))(k:∀b u,b≠e->h.get? b=aA u->h'.get? b=aA u)(heo:∃u,h'.get? e=aA u)
  (new:Yj P w (Z9 H x o') h' x o'):Go P w (Z9 H x o') h':=λb u q=>by
 V nown:∀c y,H c=aA (.own y)->c≠x:=λc y r z=>by Q z;K[r]at mu;E mu
 V ntup:∀c xs,H c=aA (.tup xs)->c≠x:=λc xs r z=>by Q z;K[r]at mu;E mu
 B hb:b=x
 ·Q hb;K[Z3]at q;C q;E new
 ·K[Zw hb]at q;B hbe:b=e
  ·V q':H b=aA (.own x):=by
    J he with z|z
    ·E absurd (hbe.trans z) hb
    ·K[hbe];E z
   K[q]at q';C q';O⟨v,hv⟩:=heo;E⟨v,by K[hbe];E hv⟩
  ·R(ok b u q).stay (λc v hc r=>k c v ?_ r) (λc r=>by K[Zw (nown c b r)];E r) (λc xs r=>by K[Zw (ntup c xs r)];E r) λc o r=>by K[Zw (λz=>by Q z;K[r]at mu;E mu)];E r
   J hc with rfl|hc
   ·E hbe
   ·rintro rfl;J he with z|z
    ·E nown c b hc z
    ·K[hc]at z;C z;E hb rfl
end
structure Un(fs ex:А aj)(H H':Hp)(h h':d6):В where
 keep:∀b o,h.get? b=aA o->H b=aB->b∉fs->b∉ex->h'.get? b=aA o
 slot:∀b o,h.get? b=aA o->H b=aB->b∈fs->b∉ex->∃sl,h'.get? b=aA {o with slots:=sl}
 free:∀b o,h.get? b=aA o->H b=aB->b∉ex->H' b=aB
 there:∀b o,h.get? b=aA o->b∉ex->∃o',h'.get? b=aA o'
 tups:∀b xs,H b=aA (.tup xs)->H' b=aA (.tup xs)
 frzs:∀b o u,H b=aA (.frz o u)->H' b=aA (.frz o u)
 tbls:∀b ps,H b=aA (.tbl ps)->∃more,H' b=aA (.tbl (ps++more))
section
variable{fs fs' ex ex':А aj}{H H1 H2:Hp}{h h1 h2 h':d6}{a x e:aj}{o:HO}
ЛUn.any(u:Un fs ex H H1 h h1){b:aj}{ob:Obj}(q:h.get? b=aA ob)(n:H b=aB)(hx:b∉ex):∃sl,h1.get? b=aA {ob with slots:=sl}:=by
 B hb:b∈fs
 ·E u.slot b ob q n hb hx
 ·E⟨ob.slots,u.keep b ob q n hb hx⟩
ЛUn.kept(k:∀b u,h.get? b=aA u->h'.get? b=aA u):Un fs ex H H h h':=
 ⟨λb ob q _ _ _=>k b ob q,λb ob q _ _ _=>⟨ob.slots,k b ob q⟩,λ_ _ _ n _=>n,λb ob q _=>⟨ob,k b ob q⟩,λ_ _ q=>q,λ_ _ _ q=>q,λ_ ps q=>⟨#[],by K[q];simp⟩⟩
ЛUn.refl:Un fs ex H H h h:=Un.kept λ_ _ q=>q
ЛUn.laid(k:∀b u,h.get? b=aA u->h'.get? b=aA u)(hp:h.objs.size<=a)(hn:H a=aB):Un fs ex H (Z9 H a o) h h' where
 keep:=λb u q _ _ _=>k b u q
 slot:=λb u q _ _ _=>⟨u.slots,k b u q⟩
 free:=λb u q n _=>by K[Zw (cf (c8 (bo q) hp))];E n
 there:=λb u q _=>⟨u,k b u q⟩
 tups:=λb xs q=>by K[Zw (Y6 q hn)];E q
 frzs:=λb u xs q=>by K[Zw (Y6 q hn)];E q
 tbls:=λb ps q=>⟨#[],by K[Zw (Y6 q hn),q];simp⟩
ЛUn.write(mu:Mut (H x))(he:e=x\/H e=aA (.own x))(k:∀b u,b≠e->h.get? b=aA u->h'.get? b=aA u)(heo:∃u,h'.get? e=aA u):Un fs ex H (Z9 H x o) h h':=by
 V hx:∀b,H b=aB->b≠x:=λb n z=>by Q z;K[n]at mu;E mu
 V hb:∀b,H b=aB->b≠e:=λb n z=>by
  Q z;J he with r|r
  ·E hx b n r
  ·K[n]at r;C r
 V hm:∀b u,H b=aA u->¬Mut (aA u)->b≠x:=λb u q nm z=>by Q z;K[q]at mu;E nm mu
 R⟨λb u q n _ _=>k b u (hb b n) q,λb u q n _ _=>⟨u.slots,k b u (hb b n) q⟩,λb u q n _=>by K[Zw (hx b n)];E n,λb u q _=>?_,
  λb xs q=>by K[Zw (hm b _ q λz=>z)];E q,λb u xs q=>by K[Zw (hm b _ q λz=>z)];E q,λb ps q=>⟨#[],by K[Zw (hm b _ q λz=>z),q];simp⟩⟩
 B hbe:b=e
 ·Q hbe;E heo
 ·E⟨u,k b u hbe q⟩
end
Мtrk(h:d6)(H:Hp):А Addr:=(cq h.objs.size).filter λa=>(H a).isSome
МLl(h:d6)(H:Hp):Heap:=PySem.W.hideAll h (trk h H)
ЛZa7(h:d6)(H:Hp):(Ll h H).objs.size=h.objs.size:=PySem.W.hideAll_size _ _
ЛZcy{h:d6}{H:Hp}{b:aj}{o:Obj}(e:h.get? b=aA o)(n:H b=aB):(Ll h H).get? b=aA o:=
 PySem.W.hideAll_get _ e λhm=>by V q:(H b).isSome=aC:=(List.mem_filter.mp hm).2;K[n]at q;simp at q
ЛZha{h:d6}{H:Hp}{b:aj}{o:Obj}(e:(Ll h H).get? b=aA o):h.get? b=aA o/\H b=aB:=by
 V e':h.get? b=aA o:=PySem.W.of_hideAll (trk h H) e;R⟨e',?_⟩;cases q:H b with
 |none=>rfl
 |some x=>have hm:b∈trk h H:=List.mem_filter.mpr ⟨cu.mpr (bo e'),by simp[q]⟩;V z:(Ll h H).get? b=aB:=PySem.W.hideAll_none (trk h H) hm;K[z]at e;C e
МZhb(g h:d6)(L:aj):А (aj×Obj):=(cq h.objs.size).filterMap λa=>if a=L\/(g.get? a).isSome=aC then aB else(h.get? a).map λo=>(a,o)
Мrest(g h:d6)(L d:aj):А (aj×Obj):=(Zhb g h L).filter λp=>decide (p.1≠d)
structure Mod(K:ad)(mg:Str->Б ah)(base:d6):В where
 kin:K.In base
 glob:base.Ns b7 mg
 blt:∃mb,base.Ns builtinsNs mb/\∀x:Str,x≠"__name__"->mb x=bootBuiltins x
 nolimit:base.NoLimit
set_option genInjectivity false in
structure Cx where
 prog:b6
 w:c7
 K:ad
 mg:Str->Б ah
 base:d6
 A:dh
 N:А Str
 s₀:am
 H₀:Hp
 env:Env
 outer:А Env
 stack:А Env
 ex:А aj
 fn:Str->Bool
 calm:Bool
 pn:А (aj×Obj)
 xe:ah->am->В
Мfrs(l:А Env):А Addr:=l.filterMap (·.frame)
аCx.fs(X:Cx):А Addr:=frs X.outer
МVs(sc:Scope)(x:Str):Prop:=sc.names.lookup x=aA .local\/sc.names.lookup x=aA .cell\/sc.names.lookup x=aA .free
МLoc(sc:Scope)(x:Str):Prop:=sc.names.lookup x=aA .local\/sc.names.lookup x=aA .cell
МZoy(env:Env)(h:d6)(m:Str->Б ah)(x:Str)(u:ah):Prop:=
 (env.kindOf x=aA .local/\m x=aA u)\/((env.kindOf x=aA .cell\/env.kindOf x=aA .free)/\∃c,env.cells.lookup x=aA c/\h.IsCell c (aA u))
set_option genInjectivity false in
structure Cx.Ok(X:Cx):В where
 mod:Mod X.K X.mg X.base
 kind:X.env.scope.kind= .function
 glob:X.env.globals=b7
 blt:X.env.builtins=builtinsNs
 above:X.s₀.heap.objs.size<=X.env.locals
 inj:∀x y c,X.env.cells.lookup x=aA c->X.env.cells.lookup y=aA c->x=y
 has:∀x,(X.env.kindOf x=aA .cell\/X.env.kindOf x=aA .free)->∃c,X.env.cells.lookup x=aA c
 cab:∀x c,X.fn x=aC->X.env.cells.lookup x=aA c->X.s₀.heap.objs.size<=c
 hd:X.calm=aC->X.A.handled=aB
 frames:X.A.frames=aA X.stack
 stk:X.stack=X.outer\/(X.stack=X.env::X.outer/\X.env.frame=aA X.env.locals)
 exf:∀b∈X.ex,b≠X.env.locals/\∀x c,X.env.cells.lookup x=aA c->c≠b
 bs:∀b o,X.base.get? b=aA o->X.s₀.heap.get? b=aA o/\X.H₀ b=aB
 bsz:X.base.objs.size<=X.s₀.heap.objs.size
 noex:∀b o,X.base.get? b=aA o->b∉X.ex
 exfs:∀b∈X.ex,b∉X.fs
 funs:X.s₀.heap.FunFrames X.base X.outer
 frf:∀b∈X.fs,X.H₀ b=aB
structure Inv(X:Cx)(pins:А (aj×Obj))(σ:А (Б V))(H:Hp)(s:am):В where
 ok:X.Ok
 os:s.os=X.s₀.os
 bare:AllBare s.gens
 base:Un X.fs X.ex X.H₀ H X.s₀.heap s.heap
 loc:∃m,s.heap.Ns X.env.locals m/\∀(i:Г) (x:Str) (v:V),X.N[i]? =aA x->σ[i]? =aA (aA v)->Vs X.env.scope x->∃u,Zy v u/\Zoy X.env s.heap m x u
 cell:∀x c,X.env.cells.lookup x=aA c->∃v,s.heap.IsCell c v
 free:H X.env.locals=aB
 freeC:∀x c,X.env.cells.lookup x=aA c->H c=aB
 pin:∀p∈X.pn++pins,s.heap.get? p.1=aA p.2/\H p.1=aB/\p.1≠X.env.locals/\p.1∉X.fs/\∀v,p.2.data≠.cell v
 hok:Go X.prog X.w H s.heap
 len:σ.length=X.N.length
section
variable{X:Cx}{pins:А (aj×Obj)}{σ:А (Б V)}{H H':Hp}{s:am}{h':d6}
ЛCx.Ok.nofr(ok:X.Ok){b:aj}{o:Obj}(e:X.base.get? b=aA o):b∉X.fs:=λhb=>by V :=(ok.funs.mem hb).1;K[e]at this;C this
ЛInv.bs(I:Inv X pins σ H s):∀b o,X.base.get? b=aA o->s.heap.get? b=aA o/\H b=aB:=λb o e=>
 ⟨I.base.keep b o (I.ok.bs b o e).1 (I.ok.bs b o e).2 (I.ok.nofr e) (I.ok.noex b o e),I.base.free b o (I.ok.bs b o e).1 (I.ok.bs b o e).2 (I.ok.noex b o e)⟩
ЛInv.bk(I:Inv X pins σ H s):∀b o,X.base.get? b=aA o->s.heap.get? b=aA o:=λb o e=>(I.bs b o e).1
ЛInv.mod(I:Inv X pins σ H s):Mod X.K X.mg X.base:=I.ok.mod
ЛInv.kIn(I:Inv X pins σ H s):X.K.In s.heap:=I.ok.mod.kin.keeps I.bk
ЛInv.lt(I:Inv X pins σ H s):X.env.locals<s.heap.objs.size:=let⟨_,hn,_⟩:=I.loc;hn.lt
ЛInv.sz(I:Inv X pins σ H s):X.s₀.heap.objs.size<=s.heap.objs.size:=dk I.ok.above (Nat.le_of_lt I.lt)
ЛInv.nofs(I:Inv X pins σ H s){a:aj}(h:s.heap.objs.size<=a):a∉X.fs:=λhb=>by O⟨_,o,ho,_⟩:=I.ok.funs.mem hb;E absurd (c8 (bo ho) (dk I.sz h)) (ii _)
ЛInv.cne(I:Inv X pins σ H s):∀x c,X.env.cells.lookup x=aA c->c≠X.env.locals:=λx c e z=>by O⟨v,o,ho,hd⟩:=I.cell x c e;O⟨m,⟨o',es,ep,ho',hd',_⟩,_⟩:=I.loc;K[z,ho']at ho;C ho;K[hd']at hd;C hd
ЛInv.funs(I:Inv X pins σ H s):s.heap.FunFrames X.base X.outer:=by
 V all:∀(l:А Env),(∀b∈frs l,b∈X.fs)->X.s₀.heap.FunFrames X.base l->s.heap.FunFrames X.base l:=by
  I l;induction l with
  |nil=>intro _ _;trivial
  |cons env r ih=>intro hs hl;O⟨hk,⟨L,o,hf,hn,ho,hd⟩,hr⟩:=hl;V hL:L∈X.fs:=hs L (by U frs;K[List.filterMap_cons,hf];E af);O⟨sl,e⟩:=I.base.slot L o ho (I.ok.frf L hL) hL λz=>I.ok.exfs L z hL;E⟨hk,⟨L,_,hf,hn,e,hd⟩,ih (λb hb=>hs b (by U frs;K[List.filterMap_cons,hf];E ao _ hb)) hr⟩
 E all X.outer (λ_ hb=>hb) I.ok.funs
ЛInv.stack(I:Inv X pins σ H s):s.heap.FunFrames X.base X.stack:=by
 J I.ok.stk with e|⟨e,hf⟩
 ·K[e];E I.funs
 ·K[e];O⟨m,hn,_⟩:=I.loc;R .cons (by K[I.ok.kind];decide) hf hn ?_ I.funs;E Heap.get?_none_of_le (dk I.ok.bsz I.ok.above)
ЛInv.stkSub(I:Inv X pins σ H s):∀b∈frs X.stack,b∈X.env.locals::X.fs:=λb hb=>by
 J I.ok.stk with e|⟨e,hf⟩
 ·K[e]at hb;E ao _ hb
 ·K[e]at hb;U frs at hb;K[List.filterMap_cons,hf]at hb;E hb
ЛInv.stkFree(I:Inv X pins σ H s):∀b∈frs X.stack,H b=aB:=λb hb=>by
 J bx.mp (I.stkSub b hb)with e|hb
 ·K[e];E I.free
 ·O⟨_,o,ho,_⟩:=I.ok.funs.mem hb;E I.base.free b o ho (I.ok.frf b hb) λz=>I.ok.exfs b z hb
ЛInv.step{g':Array GenState}{t':Г}{d':Drawn}{ch:А aj}(I:Inv X pins σ H s)
  (hch:∀b∈ch,(b∈X.ex\/X.s₀.heap.objs.size<=b)/\b≠X.env.locals/\(∀x c,X.env.cells.lookup x=aA c->c≠b)/\∀p∈X.pn++pins,p.1≠b)
  (keep:∀b o,b≠X.env.locals->b∉X.fs->b∉ch->s.heap.get? b=aA o->H b=aB->h'.get? b=aA o)
  (slot:∀b o,b≠X.env.locals->b∈X.fs->b∉ch->s.heap.get? b=aA o->H b=aB->∃sl,h'.get? b=aA {o with slots:=sl}) (free:∀b o,b∉ch->s.heap.get? b=aA o->H b=aB->H' b=aB)
  (there:∀b o,b∉ch->s.heap.get? b=aA o->∃o',h'.get? b=aA o')
  (tups:∀b xs,H b=aA (.tup xs)->H' b=aA (.tup xs)) (frzs:∀b o u,H b=aA (.frz o u)->H' b=aA (.frz o u)) (tbls:∀b ps,H b=aA (.tbl ps)->∃more,H' b=aA (.tbl (ps++more)))
  (ns:∀m,s.heap.Ns X.env.locals m->h'.Ns X.env.locals m) (hok:Go X.prog X.w H' h') (hg:AllBare g'):
  Inv X pins σ H' {s with heap:=h',gens:=g',drawn:=d',toks:=t'}:=by
 V neL:∀b o,X.s₀.heap.get? b=aA o->b≠X.env.locals:=λb o e=>cf (c8 (bo e) I.ok.above);V neC:∀b o,X.s₀.heap.get? b=aA o->b∉X.ex->b∉ch:=λb o e hx hb=>by
  rcases(hch b hb).1 with z|z
  ·E hx z
  ·E absurd (c8 (bo e) z) (ii _)
 V cellK:∀x c,X.env.cells.lookup x=aA c->∀v,s.heap.IsCell c v->h'.IsCell c v:=λx c e v ⟨o,ho,hd⟩=>by
  V nch:c∉ch:=λz=>(hch c z).2.2.1 x c e rfl;B hc:c∈X.fs
  ·O⟨sl,q⟩:=slot c o (I.cne x c e) hc nch ho (I.freeC x c e);E⟨_,q,hd⟩
  ·E⟨o,keep c o (I.cne x c e) hc nch ho (I.freeC x c e),hd⟩
 R⟨I.ok,I.os,hg,⟨λb o e n hb hx=>?_,λb o e n hb hx=>?_,λb o e n hx=>?_,λb o e hx=>?_,λb xs e=>tups b xs (I.base.tups b xs e),λb o xs e=>frzs b o xs (I.base.frzs b o xs e),λb ps e=>?_⟩,?_,λx c e=>?_,?_,λx c e=>?_,λp hp=>?_,hok,I.len⟩
 ·E keep b o (neL b o e) hb (neC b o e hx) (I.base.keep b o e n hb hx) (I.base.free b o e n hx)
 ·O⟨sl,e1⟩:=I.base.slot b o e n hb hx;O⟨sl',e2⟩:=slot b _ (neL b o e) hb (neC b o e hx) e1 (I.base.free b o e n hx);E⟨sl',e2⟩
 ·O⟨o',e1⟩:=I.base.there b o e hx;E free b o' (neC b o e hx) e1 (I.base.free b o e n hx)
 ·O⟨o',e1⟩:=I.base.there b o e hx;E there b o' (neC b o e hx) e1
 ·O⟨m1,e1⟩:=I.base.tbls b ps e;O⟨m2,e2⟩:=tbls b _ e1;E⟨m1++m2,by K[e2,Array.append_assoc]⟩
 ·O⟨m,hn,hl⟩:=I.loc;R⟨m,ns m hn,λi x v e1 e2 e3=>?_⟩;O⟨u,r,l⟩:=hl i x v e1 e2 e3;R⟨u,r,?_⟩;J l with l|⟨k,c,e,z⟩
  ·E .inl l
  ·E .inr ⟨k,c,e,cellK x c e _ z⟩
 ·O⟨v,z⟩:=I.cell x c e;E⟨v,cellK x c e v z⟩
 ·O⟨m,⟨o,_,_,ho,_⟩,_⟩:=I.loc;E free _ o (λz=>(hch _ z).2.1 rfl) ho I.free
 ·O⟨v,o,ho,hd⟩:=I.cell x c e;E free c o (λz=>(hch c z).2.2.1 x c e rfl) ho (I.freeC x c e)
 ·O⟨e,n,ne,nf,d⟩:=I.pin p hp;V nch:p.1∉ch:=λz=>(hch p.1 z).2.2.2 p hp rfl;E⟨keep p.1 p.2 ne nf nch e n,free p.1 p.2 nch e n,ne,nf,d⟩
ЛInv.un{t':Г}(I:Inv X pins σ H s)(u:Un X.fs [] H H' s.heap h')(hok:Go X.prog X.w H' h'):Inv X pins σ H' {s with heap:=h',toks:=t'}:=by
 O⟨m,⟨o,es,ep,ho,r⟩,_⟩:=id I.loc;O⟨sl,hL⟩:=u.any ho I.free К;E I.step (g':=s.gens) (d':=s.drawn) (ch:=[]) (λ_ z=>nomatch z) (λb o _ hb _ e n=>u.keep b o e n hb К) (λb o _ hb _ e n=>u.slot b o e n hb К) (λb o _ e n=>u.free b o e n К) (λb o _ e=>u.there b o e К) u.tups u.frzs u.tbls (λm' hm=>by
  O⟨o',es',ep',ho',r'⟩:=hm;K[ho]at ho';C ho';E⟨_,es',ep',hL,r'⟩) hok I.bare
ЛInv.call{g':Array GenState}{t':Г}{d':Drawn}{ch:А aj}(I:Inv X pins σ H s)(u:Un (frs X.stack) ch H H' s.heap h')(hok:Go X.prog X.w H' h')(hg:AllBare g')
  (hch:∀b∈ch,(b∈X.ex\/X.s₀.heap.objs.size<=b)/\b≠X.env.locals/\(∀x c,X.env.cells.lookup x=aA c->c≠b)/\∀p∈X.pn++pins,p.1≠b):
  Inv X pins σ H' {s with heap:=h',gens:=g',drawn:=d',toks:=t'}:=by
 O⟨m,⟨o,es,ep,ho,r⟩,_⟩:=id I.loc;O⟨sl,hL⟩:=u.any ho I.free λz=>(hch _ z).2.1 rfl;E I.step (ch:=ch) hch (λb o hL hb hc e n=>u.keep b o e n (λz=>(bx.mp (I.stkSub b z)).elim hL hb) hc) (λb o _ _ hc e n=>u.any e n hc) (λb o hc e n=>u.free b o e n hc) (λb o hc e=>u.there b o e hc) u.tups u.frzs u.tbls (λm' hm=>by
  O⟨o',es',ep',ho',r'⟩:=hm;K[ho]at ho';C ho';E⟨_,es',ep',hL,r'⟩) hok hg
ЛInv.turned{t':Г}{it:aj}(I:Inv X pins σ H s)(k:∀b o,b≠it->s.heap.get? b=aA o->h'.get? b=aA o)(hn:H it=aB)(hL:it≠X.env.locals)
  (h1:it∈X.ex\/X.s₀.heap.objs.size<=it) (h2:∀x c,X.env.cells.lookup x=aA c->c≠it) (h3:∀p∈X.pn++pins,p.1≠it):Inv X pins σ H {s with heap:=h',toks:=t'}:=by
 V nit:∀b u,H b=aA u->b≠it:=λb u e z=>by K[z,hn]at e;C e
 R I.step (g':=s.gens) (d':=s.drawn) (ch:=[it]) (λb hb=>?_) (λb o _ _ hc e _=>k b o (λz=>hc (by simp[z])) e) (λb o _ _ hc e _=>⟨o.slots,k b o (λz=>hc (by simp[z])) e⟩) (λ_ _ _ _ n=>n)
  (λb o hc e=>⟨o,k b o (λz=>hc (by simp[z])) e⟩) (λ_ _ e=>e) (λ_ _ _ e=>e) (λb ps e=>⟨#[],by K[e];simp⟩) (λm hm=>?_) (λb u e=>?_) I.bare
 ·V e:b=it:=by L hb
  Q e;E⟨h1,hL,h2,h3⟩
 ·O⟨o,es,ep,ho,r⟩:=hm;E⟨o,es,ep,k _ o (Ne.symm hL) ho,r⟩
 ·R(I.hok b u e).stay (λc v hc q=>k c v ?_ q) (λ_ q=>q) λ_ _ q=>q;J hc with z|z
  ·K[z];E nit b u e
  ·E nit c _ z
ЛInv.tok(I:Inv X pins σ H s)(t:Г):Inv X pins σ H {s with toks:=t}:=I.un (h':=s.heap) (t':=t) Un.refl I.hok
ЛInv.kept{t':Г}(I:Inv X pins σ H s)(k:∀b u,s.heap.get? b=aA u->h'.get? b=aA u):Inv X pins σ H {s with heap:=h',toks:=t'}:=I.un (Un.kept k) (I.hok.kept k)
ЛInv.laid{a:aj}{o:HO}{t':Г}(I:Inv X pins σ H s)(k:∀b u,s.heap.get? b=aA u->h'.get? b=aA u)(hp:s.heap.objs.size<=a)(new:Yj X.prog X.w (Z9 H a o) h' a o):
  Inv X pins σ (Z9 H a o) {s with heap:=h',toks:=t'}:=I.un (Un.laid k hp (I.hok.fresh hp)) (I.hok.laid k hp new)
ЛInv.write{x e:aj}{o:HO}{t':Г}(I:Inv X pins σ H s)(mu:Mut (H x))(he:e=x\/H e=aA (.own x))(k:∀b u,b≠e->s.heap.get? b=aA u->h'.get? b=aA u)(heo:∃u,h'.get? e=aA u)
  (new:Yj X.prog X.w (Z9 H x o) h' x o):Inv X pins σ (Z9 H x o) {s with heap:=h',toks:=t'}:=I.un (Un.write mu he k heo) (I.hok.write mu he k heo new)
ЛInv.pins_of{pins':А (aj×Obj)}(I:Inv X pins σ H s)(h:∀p∈pins',s.heap.get? p.1=aA p.2/\H p.1=aB/\p.1≠X.env.locals/\p.1∉X.fs/\∀v,p.2.data≠.cell v):Inv X pins' σ H s:=
 ⟨I.ok,I.os,I.bare,I.base,I.loc,I.cell,I.free,I.freeC,λp hp=>(bz.mp hp).elim (λz=>I.pin p (bj _ z)) (h p),I.hok,I.len⟩
ЛPo{N:А Str}(hN:N.Nodup){i j:Г}{x:Str}(a:N[i]? =aA x)(b:N[j]? =aA x):i=j:=by O⟨h1,e1⟩:=a8.mp a;O⟨h2,e2⟩:=a8.mp b;E(List.getElem_inj hN).mp (e1.trans e2.symm)
ЛFk{M:Model}{A:dh}{E:ah->am->В}{i:Г}{x:Str}{v:V}{u:ah}{Q:Unit->am->В}(I:Inv X pins σ H s)(hN:X.N.Nodup)(hi:X.N[i]? =aA x)(hx:Loc X.env.scope x)(r:Zy v u)
  (h:∀s',Inv X pins (σ.set i (aA v)) H s'->(∃a,io a s.heap s'.heap/\(a=X.env.locals\/X.env.cells.lookup x=aA a))->Q () s') (hf:X.fn x=aC\/X.env.scope.names.lookup x=aA .local:=by first|E .inl rfl|E .inr rfl|assumption):bg M A (storeName X.env x u) Q E s:=by
 O⟨m,hn,hl⟩:=id I.loc;V hcls:(X.env.scope.kind== .class|| (X.env.scope.kind== .module&&X.env.locals !=X.env.globals))=aD:=by K[I.ok.kind];rfl
 V hiσ:i<σ.length:=by K[I.len];E(a8.mp hi).1
 V cne:=I.cne;V tracked:∀{a:aj} {h':d6},(∃o,s.heap.get? a=aA o/\H a=aB)->io a s.heap h'->Go X.prog X.w H h':=fun{a h'} ha hs b ob e=>by
  O⟨_,_,hfree⟩:=ha;R(I.hok b ob e).stay (λc w' hc q=>(hs.2 c ?_).trans q) (λ_ q=>q) λ_ _ q=>q;rintro rfl;J hc with rfl|hc
  ·K[hfree]at e;C e
  ·K[hfree]at hc;C hc
 J hx with hk|hk
 ·R wpAny_storeName_local hk hn (λh' hn' hs=>?_) hcls;O⟨oL,_,_,hoL,_⟩:=id hn;R h _ ⟨I.ok,I.os,I.bare,⟨λb o e n hb hx=>?_,λb o e n hb hx=>?_,I.base.free,λb o e hx=>?_,I.base.tups,I.base.frzs,I.base.tbls⟩,⟨_,hn',λj y v' e1 e2 e3=>?_⟩,λy c e=>?_,I.free,I.freeC,λp hp=>?_,tracked ⟨oL,hoL,I.free⟩ hs,by L I.len⟩ ⟨_,hs,.inl rfl⟩
  ·E(hs.2 b (cf (c8 (bo e) I.ok.above))).trans (I.base.keep b o e n hb hx)
  ·O⟨sl,e1⟩:=I.base.slot b o e n hb hx;E⟨sl,(hs.2 b (cf (c8 (bo e) I.ok.above))).trans e1⟩
  ·O⟨o',e1⟩:=I.base.there b o e hx;E⟨o',(hs.2 b (cf (c8 (bo e) I.ok.above))).trans e1⟩
  ·B hj:j=i
   ·Q hj;K[hi]at e1;C e1;K[d5 hiσ]at e2;C e2;E⟨u,r,.inl ⟨hk,by simp⟩⟩
   ·K[fj (Ne.symm hj)]at e2;O⟨u',r',q⟩:=hl j y v' e1 e2 e3;R⟨u',r',?_⟩;J q with⟨k,e⟩|⟨k,c,e,z⟩
    ·R .inl ⟨k,?_⟩;V :y≠x:=λe=>hj (Po hN e1 (e▸hi));simp[this,e]
    ·E .inr ⟨k,c,e,z.sameBut hs (cne y c e)⟩
  ·O⟨w',z⟩:=I.cell y c e;E⟨w',z.sameBut hs (cne y c e)⟩
  ·O⟨e,n,ne,nf,d⟩:=I.pin p hp;E⟨(hs.2 p.1 ne).trans e,n,ne,nf,d⟩
 ·V hfn:X.fn x=aC:=by
   J hf with z|z
   ·E z
   ·K[z]at hk;C hk
  O⟨c,hc⟩:=I.ok.has x (.inl hk);O⟨w',z⟩:=I.cell x c hc;R wpAny_storeName_cell I.ok.kind hk hc z (λh' hc' hs=>?_);O⟨oc,hoc,hocd⟩:=id z;R h {s with heap:=h'} ⟨I.ok,I.os,I.bare,⟨λb o e n hb hx=>?_,λb o e n hb hx=>?_,I.base.free,λb o e hx=>?_,I.base.tups,I.base.frzs,I.base.tbls⟩,⟨m,hn.sameBut hs (Ne.symm (cne x c hc)),λj y v' e1 e2 e3=>?_⟩,λy c' e=>?_,I.free,I.freeC,λp hp=>?_,tracked ⟨oc,hoc,I.freeC x c hc⟩ hs,by L I.len⟩ ⟨c,hs,.inr hc⟩
  ·E(hs.2 b (cf (c8 (bo e) (I.ok.cab x c hfn hc)))).trans (I.base.keep b o e n hb hx)
  ·O⟨sl,e1⟩:=I.base.slot b o e n hb hx;E⟨sl,(hs.2 b (cf (c8 (bo e) (I.ok.cab x c hfn hc)))).trans e1⟩
  ·O⟨o',e1⟩:=I.base.there b o e hx;E⟨o',(hs.2 b (cf (c8 (bo e) (I.ok.cab x c hfn hc)))).trans e1⟩
  ·B hj:j=i
   ·Q hj;K[hi]at e1;C e1;K[d5 hiσ]at e2;C e2;E⟨u,r,.inr ⟨.inl hk,c,hc,hc'⟩⟩
   ·K[fj (Ne.symm hj)]at e2;O⟨u',r',q⟩:=hl j y v' e1 e2 e3;R⟨u',r',?_⟩;J q with q|⟨k,c',e,z'⟩
    ·E .inl q
    ·R .inr ⟨k,c',e,z'.sameBut hs ?_⟩;rintro rfl;E hj (Po hN e1 (I.ok.inj _ _ _ e hc▸hi))
  ·B hcc:c'=c
   ·Q hcc;E⟨_,hc'⟩
   ·O⟨w2,z2⟩:=I.cell y c' e;E⟨w2,z2.sameBut hs hcc⟩
  ·O⟨e,n,ne,nf,d⟩:=I.pin p hp;R⟨(hs.2 p.1 ?_).trans e,n,ne,nf,d⟩;I q;K[q,hoc]at e;V q':oc=p.2:=cz.inj e;E d w' (by K[<-q'];E hocd)
ЛPp{M:Model}{A:dh}{E:ah->am->В}{i:Г}{x:Str}{v:V}{u:ah}{Q:Unit->am->В}(I:Inv X pins σ H s)(hN:X.N.Nodup)(hi:X.N[i]? =aA x)(hx:Loc X.env.scope x)(r:Zy v u)
  (h:∀s',Inv X pins (σ.set i (aA v)) H s'->Q () s') (hf:X.fn x=aC\/X.env.scope.names.lookup x=aA .local:=by first|E .inl rfl|E .inr rfl|assumption):bg M A (storeName X.env x u) Q E s:=
 Fk I hN hi hx r (λs' I' _=>h s' I') hf
ЛInv.call'{s':am}{ch:А aj}(I:Inv X pins σ H s)(ho:s'.os=s.os)(u:Un (frs X.stack) ch H H' s.heap s'.heap)(hok:Go X.prog X.w H' s'.heap)(hg:AllBare s'.gens)
  (hch:∀b∈ch,(b∈X.ex\/X.s₀.heap.objs.size<=b)/\b≠X.env.locals/\(∀x c,X.env.cells.lookup x=aA c->c≠b)/\∀p∈X.pn++pins,p.1≠b):Inv X pins σ H' s':=by
 O⟨h',g',d',t',o'⟩:=s';V e:o'=s.os:=ho;Q e;E I.call (g':=g') (t':=t') (d':=d') u hok hg hch
end
аXK:=ah->Б aj->Hp->В
аSt:=А (Б V)
аVK:=V->Hp->В
аTE:=St->Hp->VK->В
аTT:=St->Hp->(Bool->Hp->В)->В
аTA:=St->Hp->(А V->Hp->В)->В
set_option genInjectivity false in
structure Ends where
 nx:St->Hp->В
 rt:VK
 bk:St->Hp->Prop:=λ_ _=>False
 ct:St->Hp->Prop:=λ_ _=>False
аTS:=Ends->St->Hp->В
МEP(X:Cx)(pins:А (aj×Obj))(σ:St)(Q:VK)(u:ah)(s':am):Prop:=∃v H',Inv X pins σ H' s'/\Zy v u/\Q v H'
МTP(X:Cx)(pins:А (aj×Obj))(σ:St)(Q:Bool->Hp->В)(b:Bool)(s':am):Prop:=∃H',Inv X pins σ H' s'/\Q b H'
МAP(X:Cx)(pins:А (aj×Obj))(σ:St)(Q:А V->Hp->В)(us:А ah)(s':am):Prop:=∃vs H',Inv X pins σ H' s'/\Z2 vs us/\Q vs H'
МSP(X:Cx)(pins:А (aj×Obj))(D:Ends)(f:Flow)(s':am):Prop:=
 match f with
 | .next=>∃σ' H',Inv X pins σ' H' s'/\D.nx σ' H'
 | .brk=>∃σ' H',Inv X pins σ' H' s'/\D.bk σ' H'
 | .cont=>∃σ' H',Inv X pins σ' H' s'/\D.ct σ' H'
 | .ret u=>∃v σ' H',Inv X pins σ' H' s'/\Zy v u/\D.rt v H'
МPE(X:Cx)(e:cj)(t:TE):Prop:=
 ∀(pins:А (aj×Obj)) (s:am) (σ:St) (H:Hp) (Q:VK),Inv X pins σ H s->t σ H Q->bg (b4 X.prog X.w) X.A (gq e X.env) (EP X pins σ Q) X.xe s
МPT(X:Cx)(e:cj)(t:TT):Prop:=
 ∀(pins:А (aj×Obj)) (s:am) (σ:St) (H:Hp) (Q:Bool->Hp->В),Inv X pins σ H s->t σ H Q->bg (b4 X.prog X.w) X.A (isTrue e X.env (gq e X.env)) (TP X pins σ Q) X.xe s
МPW(X:Cx)(e:cj)(t:TT):Prop:=
 ∀(whole:Sem ah) (pins:А (aj×Obj)) (s:am) (σ:St) (H:Hp) (Q:Bool->Hp->В),Inv X pins σ H s->t σ H Q->bg (b4 X.prog X.w) X.A (isTrue e X.env whole) (TP X pins σ Q) X.xe s
ЛPW.pt{X:Cx}{e:cj}{t:TT}(h:PW X e t):PT X e t:=h _
МPA(X:Cx)(es:А cj)(t:TA):Prop:=
 ∀(pos:Pos) (pins:А (aj×Obj)) (s:am) (σ:St) (H:Hp) (Q:А V->Hp->В),Inv X pins σ H s->t σ H Q->bg (b4 X.prog X.w) X.A (spliced (gr pos (a9 es X.env))) (AP X pins σ Q) X.xe s
МPS(X:Cx)(st:Stmt)(t:TS):Prop:=
 ∀(pins:А (aj×Obj)) (s:am) (σ:St) (H:Hp) (D:Ends),Inv X pins σ H s->t D σ H->bg (b4 X.prog X.w) X.A (exec st X.env) (SP X pins D) X.xe s
МTa(X:Cx)(st:А Stmt)(t:TS):Prop:=
 ∀(pins:А (aj×Obj)) (s:am) (σ:St) (H:Hp) (D:Ends),Inv X pins σ H s->t D σ H->bg (b4 X.prog X.w) X.A (execs st X.env) (SP X pins D) X.xe s
ЛWp{α:Type}{t:Sem α}{Q Q':α->am->В}{M:Model}{A:dh}{E:ah->am->В}{s:am}(h:bg M A t Q E s)(hQ:∀a s,Q a s->Q' a s):bg M A t Q' E s:=wpAny_mono h hQ λ_ _ x=>x
section
variable{X:Cx}
МBg(i:Г):TE:=λσ H Q=>∃v,σ[i]? =aA (aA v)/\Q v H
МtC(v:V):TE:=λ_ H Q=>Q v H
ЛJy{i:Г}{x:Str}{pos:Pos}(hN:X.N[i]? =aA x)(hv:Vs X.env.scope x)(hd:(x==("__debug__":Str))=aD:=by decide)(hcd:(x==("__classdict__":Str))=aD:=by decide):PE X (.Name x pos) (Bg i):=by
 I pins s σ H Q I h;O⟨v,e,h⟩:=h;O⟨m,hn,hl⟩:=I.loc;O⟨u,r,l⟩:=hl i x v hN e hv;V fin:EP X pins σ Q u s:=⟨v,H,I,r,h⟩
 J l with⟨hk,hm⟩|⟨hk,c,hc,hcell⟩
 ·E wpAny_Name (wpAny_loadName_local I.ok.kind hk hn hm fin) hd
 ·J hk with hk|hk
  ·E wpAny_Name (wpAny_loadName_cell I.ok.kind hk hc hcell fin) hd
  ·E wpAny_Name (wpAny_loadName_free I.ok.kind hk hc hcell fin hcd) hd
ЛZlt{i j pos}:PE X (.Constant (.int i) j pos) (tC (.int i)):=λ_ _ _ H _ I h=>wpAny_Constant_int ⟨.int i,H,I.tok _,⟨_,rfl⟩,h⟩
ЛZoz{b j pos}:PE X (.Constant (.bool b) j pos) (tC (.bl b)):=λ_ _ _ H _ I h=>Constant_bool ⟨.bl b,H,I,rfl,h⟩
ЛZcz{x j pos}:PE X (.Constant (.str x) j pos) (tC (.str x)):=λ_ _ _ H _ I h=>Calls.Constant_str ⟨.str x,H,I.tok _,⟨_,rfl⟩,h⟩
МGl(X:Cx)(x:Str):Prop:=X.env.kindOf x=aA .globalImplicit
ЛZhc{E:ah->am->В}{pins:А (aj×Obj)}{s:am}{σ:St}{H:Hp}{x:Str}{u:ah}{pos:Pos}{Q:ah->am->В}(I:Inv X pins σ H s)(hg:Gl X x)(hm:X.mg x=aA u)(h:Q u s)
  (hd:(x==("__debug__":Str))=aD:=by decide):bg (b4 X.prog X.w) X.A (gq (.Name x pos) X.env) Q E s:=
 Calls.Name_function_global I.ok.kind hg (Calls.loadGlobal_global (by K[I.ok.glob];E I.mod.glob.keeps I.bk) hm h) hd
ЛBh{E:ah->am->В}{pins:А (aj×Obj)}{s:am}{σ:St}{H:Hp}{x:Str}{u:ah}{pos:Pos}{Q:ah->am->В}(I:Inv X pins σ H s)(hg:Gl X x)(hm:X.mg x=aB)(hv:bootBuiltins x=aA u)(h:Q u s)
  (hn:x≠"__name__":=by decide) (hd:(x==("__debug__":Str))=aD:=by decide):bg (b4 X.prog X.w) X.A (gq (.Name x pos) X.env) Q E s:=by
 O⟨mb,h1,h2⟩:=I.mod.blt;E Calls.Name_function_global I.ok.kind hg (Calls.loadGlobal_builtin (by K[I.ok.glob];E I.mod.glob.keeps I.bk) hm (by K[I.ok.blt];E h1.keeps I.bk) ((h2 x hn).trans hv) h) hd
Мt2I(ta tb:TE)(k:Int->Int->Hp->В):St->Hp->Prop:=λσ H=>ta σ H λx H1=>tb σ H1 λy H2=>∃i j,x= .int i/\y= .int j/\k i j H2
МZy8(ta tb:TE):TE:=λσ H Q=>t2I ta tb (λi j H2=>Q (.int (i+j)) H2) σ H
МZy9(ta tb:TE):TE:=λσ H Q=>t2I ta tb (λi j H2=>Q (.int (i- j)) H2) σ H
МZza(ta tb:TE):TE:=λσ H Q=>t2I ta tb (λi j H2=>(-(2^64)<i/\i<2^64)/\Q (.int (i*j)) H2) σ H
variable{a b:cj}{ta tb:TE}{pos:Pos}
МPC(X:Cx)(op:CmpOp)(a b:cj)(t:TE):Prop:=
 ∀(pins:А (aj×Obj)) (s:am) (σ:St) (H:Hp) (Q:VK),Inv X pins σ H s->t σ H Q->
  bg (b4 X.prog X.w) X.A (gq a X.env) (λv s₁=>bg (b4 X.prog X.w) X.A (gq b X.env) (λu s₂=>bg (b4 X.prog X.w) X.A (g9 op v u) (EP X pins σ Q) X.xe s₂) X.xe s₁) X.xe s
МZa9(p:Int->Int->Bool)(ta tb:TE):TE:=λσ H Q=>t2I ta tb (λi j H2=>Q (.bl (p i j)) H2) σ H
аtLt:TE->TE->TE:=Za9 λi j=>decide (i<j)
аtLe:TE->TE->TE:=Za9 λi j=>decide (i<=j)
аtGt:TE->TE->TE:=Za9 λi j=>decide (j<i)
аtGe:TE->TE->TE:=Za9 λi j=>decide (j<=i)
аZzb:TE->TE->TE:=Za9 λi j=>decide (i=j)
аZzc:TE->TE->TE:=Za9 λi j=>!decide (i=j)
МZzd(ta:TE):TE:=λσ H Q=>ta σ H λx H1=>Q (.bl (decide (x= .non))) H1
МZw5(ta:TE):TE:=λσ H Q=>ta σ H λx H1=>Q (.bl (!decide (x= .non))) H1
МtB(t:TE):TT:=λσ H Q=>t σ H λx H1=>∃c,x= .bl c/\Q c H1
ЛZlu{e:cj}{t:TE}(h:PE X e t)(he:∀whole,isTrue e X.env whole=(do let v<-whole;standAt e.pos;holding [v] (truthy v)):=by I _;rfl):PT X e (tB t):=by I pins s σ H Q I hw;R isTrue_plain (Wp (h pins s σ H _ I hw) λv s1 ⟨x,H1,I1,r1,q1⟩=>?_) (he _);O⟨d,rfl,q⟩:=q1;C r1;E wpAny_truthy_bool ⟨H1,I1,q⟩
variable{tA tB':TT}{rest:А cj}
МZo0(t u:TT):TT:=λσ H Q=>t σ H λc H1=>if c=aC then u σ H1 Q else Q aD H1
МtOr(t u:TT):TT:=λσ H Q=>t σ H λc H1=>if c=aC then Q aC H1 else u σ H1 Q
МZo1(t:TT):TT:=λσ H Q=>t σ H λc H1=>Q (!c) H1
ЛZhd(ha:PT X a tA):PW X (.BoolOp .And [a] pos) tA:=by
 I wh pins s σ H Q I h;R isTrue_and (Wp (ha pins s σ H Q I h) λc s1 e=>?_);cases c with
 |true=>E isTrue_and_nil e
 |false=>E e
ЛZlv(ha:PT X a tA):PW X (.BoolOp .Or [a] pos) tA:=by
 I wh pins s σ H Q I h;R isTrue_or (Wp (ha pins s σ H Q I h) λc s1 e=>?_);cases c with
 |false=>E isTrue_or_nil e
 |true=>E e
ЛZlw(ha:PT X a tA)(hb:PW X (.BoolOp .And (b::rest) pos) tB'):PW X (.BoolOp .And (a::b::rest) pos) (Zo0 tA tB'):=by
 I wh pins s σ H Q I h;R isTrue_and (Wp (ha pins s σ H _ I h) λc s1 zq9=>?_);O⟨H1,I1,q1⟩:=zq9;cases c with
 |true=>E hb wh pins s1 σ H1 Q I1 q1
 |false=>E⟨H1,I1,q1⟩
ЛZo2(ha:PT X a tA)(hb:PW X (.BoolOp .Or (b::rest) pos) tB'):PW X (.BoolOp .Or (a::b::rest) pos) (tOr tA tB'):=by
 I wh pins s σ H Q I h;R isTrue_or (Wp (ha pins s σ H _ I h) λc s1 zq9=>?_);O⟨H1,I1,q1⟩:=zq9;cases c with
 |true=>E⟨H1,I1,q1⟩
 |false=>E hb wh pins s1 σ H1 Q I1 q1
ЛZlx(ha:PT X a tA):PT X (.UnaryOp .Not a pos) (Zo1 tA):=by I pins s σ H Q I h;E isTrue_not (ha pins s σ H (λc H1=>Q (!c) H1) I h)
МZj3(ta tb:TE):TE:=λσ H Q=>ta σ H λx H1=>∃c,x= .bl c/\if c=aC then tb σ H1 Q else Q (.bl aD) H1
МZze(ta tb:TE):TE:=λσ H Q=>ta σ H λx H1=>∃c,x= .bl c/\if c=aC then Q (.bl aC) H1 else tb σ H1 Q
МZw7(ta:TE):TE:=λσ H Q=>ta σ H λx H1=>∃c,x= .bl c/\Q (.bl (!c)) H1
ЛZly{op} {t:TE} (h:PE X a t):PE X (.BoolOp op [a] pos) t:=λpins s σ H Q I hw=>BoolOp_one (h pins s σ H Q I hw)
ЛZlz(ha:PE X a ta)(hb:PE X (.BoolOp .And (b::rest) pos) tb):PE X (.BoolOp .And (a::b::rest) pos) (Zj3 ta tb):=by
 I pins s σ H Q I h;R BoolOp_and (Wp (ha pins s σ H _ I h) λv s1 zq9=>?_);O⟨x,H1,I1,r1,q1⟩:=zq9;O⟨c,rfl,q1⟩:=q1;C r1;R wpAny_truthy_bool ?_;cases c with
 |true=>E hb pins s1 σ H1 Q I1 q1
 |false=>E⟨.bl aD,H1,I1,rfl,q1⟩
МtIf(t:TT)(ta tb:TE):TE:=λσ H Q=>t σ H λc H1=>if c=aC then ta σ H1 Q else tb σ H1 Q
end
МW5(K:ad)(H:Hp)(a:aj)(xs:А V):Prop:=
 Rd H a (.lst xs)\/
  ∃(o:Obj) (its:Array ah) (n:Г),K.lookup a=aA o/\o.cls= .type "list"/\o.dict=aB/\o.data= .seq its n/\its.size<=sizeLine/\Z2 xs its.toList
МOb(K:ad)(H:Hp)(a:aj)(xs:А V):Prop:=
 Rd H a (.tup xs)\/
  ∃(o:Obj) (its:Array ah) (n:Г),K.lookup a=aA o/\o.cls= .type "tuple"/\o.data= .seq its n/\its.size<=sizeLine/\Z2 xs its.toList
МZua:ah->Б V
 | .none=>aA .non
 | .bool b=>aA (.bl b)
 | .int i _=>aA (.int i)
 | .str x _=>aA (.str x)
 | .bytes b _=>aA (.byt b)
 | .float b _=>aA (.flt b)
 | .ref a=>aA (.ref a)
 | .type n=>aA (.ty n)
 |_=>aB
ЛZy.abs{x:V}{u:ah}(r:Zy x u):Zua u=aA x:=by
 cases x with
 |non=>C r;rfl
 |bl _=>C r;rfl
 |int _=>O⟨t,rfl⟩:=r;rfl
 |str _=>O⟨t,rfl⟩:=r;rfl
 |byt _=>O⟨t,rfl⟩:=r;rfl
 |flt _=>O⟨t,rfl⟩:=r;rfl
 |ref _=>C r;rfl
 |ty _=>C r;rfl
ЛZy.inj{x y:V}{u:ah}(r:Zy x u)(q:Zy y u):x=y:=cz.inj (r.abs.symm.trans q.abs)
ЛZ2.inj{xs:А V}:∀{ys:А V} {us:А ah},Z2 xs us->Z2 ys us->xs=ys:=by
 induction xs with
 |nil=>intro ys us h g;C h;C g;rfl
 |cons x xs ih=>
  I ys us h g;cases h with
  |cons r t=>
   cases g with
   |cons r' t'=>K[r.inj r',ih t t']
section
variable{X:Cx}{pins:А (aj×Obj)}{σ:St}{H:Hp}{s:am}{a:aj}{xs ys:А V}
ЛInv.list(I:Inv X pins σ H s)(h:W5 X.K H a xs):∃its:А ah,Z2 xs its/\PlainL s.heap a its.toArray/\xs.length<=sizeLine:=by
 J h with h|⟨o,its,n,hk,hc,hd,hs,hz,r⟩
 ·O⟨z,its,n,r,e⟩:=h.ok I.hok;E⟨its,r,⟨_,n,e,rfl,rfl,rfl⟩,z⟩
 ·R⟨its.toList,r,⟨o,n,I.kIn a o hk,hc,hd,by L hs⟩,?_⟩;V e:=r.length;simp only[ay]at e;W
ЛInv.tuple(I:Inv X pins σ H s)(h:Ob X.K H a xs):∃its:А ah,Z2 xs its/\IsTup s.heap a its.toArray/\xs.length<=sizeLine:=by
 J h with h|⟨o,its,n,hk,hc,hs,hz,r⟩
 ·O⟨z,its,r,p⟩:=h.ok I.hok;E⟨its,r,p,z⟩
 ·R⟨its.toList,r,⟨o,I.kIn a o hk,hc,n,by L hs⟩,?_⟩;V e:=r.length;simp only[ay]at e;W
ЛInv.list_inj(I:Inv X pins σ H s)(h:W5 X.K H a xs)(h':W5 X.K H a ys):xs=ys:=by
 O⟨its,r,⟨o,n,e,_,_,d⟩,_⟩:=I.list h;O⟨its',r',⟨o',n',e',_,_,d'⟩,_⟩:=I.list h';K[e]at e';C e';K[d]at d';injection d' with d1 _;V :its=its':=by L congrArg Array.toList d1
 Q this;E r.inj r'
ЛInv.tuple_inj(I:Inv X pins σ H s)(h:Ob X.K H a xs)(h':Ob X.K H a ys):xs=ys:=by
 O⟨its,r,⟨o,e,_,n,d⟩,_⟩:=I.tuple h;O⟨its',r',⟨o',e',_,n',d'⟩,_⟩:=I.tuple h';K[e]at e';C e';K[d]at d';injection d' with d1 _;V :its=its':=by L congrArg Array.toList d1
 Q this;E r.inj r'
end
аCx.wish(X:Cx)(E:ah->am->В):Cx:={X with xe:=E}
аCx.nox(X:Cx):Cx:=X.wish λ_ _=>False
ЛCx.Ok.wish{X:Cx}(ok:X.Ok)(E:ah->am->В):(X.wish E).Ok:=
 ⟨ok.mod,ok.kind,ok.glob,ok.blt,ok.above,ok.inj,ok.has,ok.cab,ok.hd,ok.frames,ok.stk,ok.exf,ok.bs,ok.bsz,ok.noex,ok.exfs,ok.funs,ok.frf⟩
ЛCx.Ok.unwish{X:Cx}{E:ah->am->В}(ok:(X.wish E).Ok):X.Ok:=
 ⟨ok.mod,ok.kind,ok.glob,ok.blt,ok.above,ok.inj,ok.has,ok.cab,ok.hd,ok.frames,ok.stk,ok.exf,ok.bs,ok.bsz,ok.noex,ok.exfs,ok.funs,ok.frf⟩
section
variable{X:Cx}{pins:А (aj×Obj)}{σ:St}{H:Hp}{s:am}{E:ah->am->В}
ЛInv.wish(I:Inv X pins σ H s)(E:ah->am->В):Inv (X.wish E) pins σ H s:=⟨I.ok.wish E,I.os,I.bare,I.base,I.loc,I.cell,I.free,I.freeC,I.pin,I.hok,I.len⟩
ЛInv.unwish(I:Inv (X.wish E) pins σ H s):Inv X pins σ H s:=⟨I.ok.unwish,I.os,I.bare,I.base,I.loc,I.cell,I.free,I.freeC,I.pin,I.hok,I.len⟩
ЛSP.unwish{D:Ends}{f:Flow}{s':am}(h:SP (X.wish E) pins D f s'):SP X pins D f s':=by
 cases f with
 |next=>O⟨σ',H',I,q⟩:=h;E⟨σ',H',I.unwish,q⟩
 |brk=>O⟨σ',H',I,q⟩:=h;E⟨σ',H',I.unwish,q⟩
 |cont=>O⟨σ',H',I,q⟩:=h;E⟨σ',H',I.unwish,q⟩
 |ret u=>O⟨v,σ',H',I,r,q⟩:=h;E⟨v,σ',H',I.unwish,r,q⟩
ЛTa.nox{st:А Stmt}{t:TS}(h:Ta X.nox st t):Ta X st t:=λpins s σ H D I hw=>
 wpAny_mono (h pins s σ H D (I.wish _) hw) (λ_ _ q=>q.unwish) λ_ _ z=>False.elim z
end
section
variable{X:Cx}{st:Stmt}{rest:А Stmt}{t u:TS}{e:cj}{te:TE}{pos:Pos}
МZj4:TS:=λD σ H=>D.nx σ H
МZl0(t u:TS):TS:=λD σ H=>t {D with nx:=u D} σ H
ЛZhe:Ta X [] Zj4:=λ_ _ σ H _ I h=>wpAny_execs_nil ⟨σ,H,I,h⟩
ЛZc0(h1:PS X st t)(h2:Ta X rest u):Ta X (st::rest) (Zl0 t u):=by
 I pins s σ H D I h;R wpAny_execs_cons (Wp (h1 pins s σ H {D with nx:=u D} I h) λf s1 q=>?_);cases f with
 |next=>O⟨σ',H',I',q⟩:=q;E h2 pins s1 σ' H' D I' q
 |ret v=>E q
 |brk=>E q
 |cont=>E q
ЛZhf(h1:PS X st t):Ta X [st] t:=by
 I pins s σ H D I h;R wpAny_execs_cons (Wp (h1 pins s σ H D I h) λf s1 q=>?_);cases f with
 |next=>E wpAny_execs_nil q
 |ret v=>E q
 |brk=>E q
 |cont=>E q
МZub:TS:=λD σ H=>D.bk σ H
МZw8:TS:=λD σ H=>D.ct σ H
ЛInv.quiet{pins:А (aj×Obj)}{σ:St}{H:Hp}{s:am}(I:Inv X pins σ H s):interactive X.env=aD:=by simp[interactive,I.ok.kind]
МHu(te:TE):TS:=λD σ H=>te σ H λ_ H1=>D.nx σ H1
ЛTt(he:PE X e te)(hs:swapsWith e aB pos.line X.env=pure aD:=by rfl):PS X (.Expr e pos) (Hu te):=by I pins s σ H D I h;E wpAny_Expr_any (Wp (he pins s σ H _ I h) λv s1 ⟨x,H1,I1,r1,q1⟩=>⟨σ,H1,I1,q1⟩) I.quiet hs
МZl1(te:TE):TS:=λD σ H=>te σ H D.rt
ЛZc1(he:PE X e te):PS X (.Return (aA e) pos) (Zl1 te):=by I pins s σ H D I h;E wpAny_Return_some (Wp (he pins s σ H _ I h) λv s1 ⟨x,H1,I1,r1,q1⟩=>⟨x,σ,H1,I1,r1,q1⟩)
МZw9:TS:=λD _ H=>D.rt .non H
МZo3(c:TT)(t u:TS):TS:=λD σ H=>c σ H λb H1=>if b=aC then t D σ H1 else u D σ H1
ЛZo4{c:cj}{a b:А Stmt}{tc:TT}(hc:PT X c tc)(ha:Ta X a t)(hb:Ta X b u):PS X (.If c a b pos) (Zo3 tc t u):=by
 I pins s σ H D I h;R wpAny_If (Wp (hc pins s σ H _ I h) λd s1 zq9=>?_);O⟨H1,I1,q1⟩:=zq9;cases d with
 |true=>E ha pins s1 σ H1 D I1 q1
 |false=>E hb pins s1 σ H1 D I1 q1
МZuc:TS:=λ_ _ _=>False
end
аTG:=V->St->Hp->(St->Hp->В)->В
аTGs:=А V->St->Hp->(St->Hp->В)->В
МPG(X:Cx)(target:cj)(t:TG):Prop:=
 ∀(pins:А (aj×Obj)) (s:am) (σ:St) (H:Hp) (v:V) (u:ah) (Q:St->Hp->В),Inv X pins σ H s->Zy v u->t v σ H Q->
  bg (b4 X.prog X.w) X.A (assign target X.env u) (λ_ s'=>∃σ' H',Inv X pins σ' H' s'/\Q σ' H') X.xe s
МPGs(X:Cx)(ts:А cj)(t:TGs):Prop:=
 ∀(pins:А (aj×Obj)) (s:am) (σ:St) (H:Hp) (vs:А V) (us:А ah) (Q:St->Hp->В),Inv X pins σ H s->Z2 vs us->t vs σ H Q->
  bg (b4 X.prog X.w) X.A (assignInOrder ((assignEach ts X.env).map (·.2)) us) (λ_ s'=>∃σ' H',Inv X pins σ' H' s'/\Q σ' H') X.xe s
аZhg:=V->V->V->Hp->(Hp->В)->В
МZo5(X:Cx)(t:Zhg):Prop:=
 ∀(pins:А (aj×Obj)) (s:am) (σ:St) (H:Hp) (o i v:V) (ov iv u:ah) (Q:Hp->В),Inv X pins σ H s->Zy o ov->Zy i iv->Zy v u->t o i v H Q->
  bg (b4 X.prog X.w) X.A (setItem ov iv u) (λ_ s'=>∃H',Inv X pins σ H' s'/\Q H') X.xe s
аTIp:=V->V->Hp->VK->В
МPIp(X:Cx)(op:Operator)(t:TIp):Prop:=
 ∀(pins:А (aj×Obj)) (s:am) (σ:St) (H:Hp) (x y:V) (v u:ah) (Q:VK),Inv X pins σ H s->Zy x v->Zy y u->t x y H Q->
  bg (b4 X.prog X.w) X.A (inplaceOp op v u) (EP X pins σ Q) X.xe s
section
variable{X:Cx}{pos:Pos}
МAa(i:Г):TG:=λv σ H Q=>Q (σ.set i (aA v)) H
ЛZhh{i:Г}{x:Str}(hN:X.N.Nodup)(hi:X.N[i]? =aA x)(hx:Loc X.env.scope x)(hf:X.fn x=aC\/X.env.scope.names.lookup x=aA .local:=by first|E .inl rfl|E .inr rfl|assumption):PG X (.Name x pos) (Aa i):=by I pins s σ H v u Q I r h;E wpAny_assign_Name (Pp I hN hi hx r (λs' I'=>⟨_,H,I',h⟩) hf)
МZo6:TGs:=λvs σ H Q=>vs=[]/\Q σ H
МZj5(t:TG)(u:TGs):TGs:=λvs σ H Q=>∃v r,vs=v::r/\t v σ H λσ' H'=>u r σ' H' Q
ЛZhi:PGs X [] Zo6:=by I pins s σ H vs us Q I r h;O⟨e,h⟩:=h;Q e;C r;E assignInOrder_nil ⟨σ,H,I,h⟩
ЛZc3{e:cj}{es:А cj}{t:TG}{u:TGs}(h1:PG X e t)(h2:PGs X es u)
  (hs:(assignEach (e::es) X.env).map (·.2)=assign e X.env::(assignEach es X.env).map (·.2):=by rfl):PGs X (e::es) (Zj5 t u):=by
 I pins s σ H vs us Q I r h;O⟨v,vr,e1,h⟩:=h;Q e1;cases r with
 |cons r rr=>K[hs];R assignInOrder_cons (Wp (h1 pins s σ H _ _ _ I r h) λ_ s1 zq9=>?_);O⟨σ1,H1,I1,q1⟩:=zq9;E h2 pins s1 σ1 H1 _ _ Q I1 rr q1
МZo7(K:ad)(n:Г)(t:TGs):TG:=λv σ H Q=>∃a xs,v= .ref a/\Ob K H a xs/\xs.length=n/\t xs σ H Q
ЛZl2{es:А cj}{k:Г}{t:TGs}{n:Г}(hc:X.calm=aC)(h:PGs X es t)
  (hn:(assignEach es X.env).length=n:=by rfl) (hst:(assignEach es X.env).findIdx? (·.1)=aB:=by rfl):PG X (.Tuple es k pos) (Zo7 X.K n t):=by
 I pins s σ H v u Q I r hw;O⟨a,xs,e1,hq,hl,hw⟩:=hw;Q e1;C r;O⟨its,rv,ht,hz⟩:=I.tuple hq;R assign_Tuple_tuple (I.ok.hd hc) ht (by simp[hn,<-hl,rv.length]) hst λh' hx=>?_;V I1:Inv X pins σ H {s with heap:=h'}:=I.kept (t':=s.toks) λb o e=>hx b o (cf (bo e)) e;E h pins _ σ H xs _ Q I1 (by L rv) hw
МZo8(to ti:TE)(t:Zhg):TG:=λv σ H Q=>to σ H λo H1=>ti σ H1 λi H2=>t o i v H2 λH3=>Q σ H3
ЛZl3{o i:cj}{to ti:TE}{t:Zhg}(ho:PE X o to)(hi:PE X i ti)(hs:Zo5 X t)
  (ha:∀v,assign (.Subscript o i pos) X.env v=(do
   let ov<-holding [v] (gq o X.env);let iv<-holding [v,ov] (gq i X.env)
   standAt pos
   holding [v,ov,iv] (setItem ov iv v)
   release [v,ov,iv] []):=by I _;rfl):PG X (.Subscript o i pos) (Zo8 to ti t):=by
 I pins s σ H v u Q I r h;K[ha];R ac (gn (Wp (ho pins s σ H _ I h) λov s1 zq9=>?_));O⟨x,H1,I1,r1,q1⟩:=zq9;R ac (gn (Wp (hi pins s1 σ H1 _ I1 q1) λiv s2 zq9=>?_));O⟨y,H2,I2,r2,q2⟩:=zq9;R ac (wpAny_standAt (ac (gn (Wp (hs pins s2 σ H2 x y v ov iv u _ I2 r1 r2 r q2) λ_ s3 zq9=>?_))));O⟨H3,I3,q3⟩:=zq9;E wpAny_release ⟨σ,H3,I3,q3⟩
МVx(te:TE)(g:TG):TS:=λD σ H=>te σ H λx H1=>g x σ H1 D.nx
ЛZc4{tg e:cj}{te:TE}{g:TG}(he:PE X e te)(hg:PG X tg g)(hs:swapsWithSole [tg] e pos.line X.env=pure aD:=by rfl)(hw:swappedStores [tg] e X.env=pure aB:=by rfl)
  (h1:(assignEach [tg] X.env).map (·.2)=[assign tg X.env]:=by rfl):PS X (.Assign [tg] e pos) (Vx te g):=by
 I pins s σ H D I h;R wpAny_Assign_stores (Wp (he pins s σ H _ I h) λv s1 ⟨x,H1,I1,r1,q1⟩=>?_) hs hw;K[h1];E Wp (hg pins s1 σ H1 x v _ I1 r1 q1) λ_ s2 q=>q
ЛZc5{i:Г}{x:Str}{e:cj}{te:TE}{pos':Pos}(hN:X.N.Nodup)(hi:X.N[i]? =aA x)(hx:Loc X.env.scope x)(he:PE X e te)(hs:swapsWith e (aA (.Name x pos')) pos.line X.env=pure aD:=by rfl)(hf:X.fn x=aC\/X.env.scope.names.lookup x=aA .local:=by first|E .inl rfl|E .inr rfl|assumption):
  PS X (.Assign [.Name x pos'] e pos) (Vx te (Aa i)):=by
 I pins s σ H D I h;R wpAny_Assign_Name (Wp (he pins s σ H _ I h) λv s1 ⟨y,H1,I1,r1,q1⟩=>?_) hs;E Pp I1 hN hi hx r1 (λs2 I2=>⟨_,H1,I2,q1⟩) hf
МZzf(i j:Г)(ta:TA):TS:=λD σ H=>ta σ H λvs H1=>∃v w,vs=[v,w]/\D.nx ((σ.set i (aA v)).set j (aA w)) H1
МZzg(i:Г)(te:TE)(ti:TIp):TS:=λD σ H=>∃x,σ[i]? =aA (aA x)/\te σ H λy H1=>ti x y H1 λz H2=>D.nx (σ.set i (aA z)) H2
МZxa(to ti te:TE)(tget:V->V->Hp->VK->В)(tip:TIp)(tset:Zhg):TS:=λD σ H=>to σ H λo H1=>ti σ H1 λi H2=>tget o i H2 λx H3=>te σ H3 λy H4=>tip x y H4 λz H5=>tset o i z H5 λH6=>D.nx σ H6
МZzh(X:Cx)(t:V->V->Hp->VK->В):Prop:=
 ∀(pins:А (aj×Obj)) (s:am) (σ:St) (H:Hp) (o i:V) (ov iv:ah) (Q:VK),Inv X pins σ H s->Zy o ov->Zy i iv->t o i H Q->
  bg (b4 X.prog X.w) X.A (getItem ov iv) (EP X pins σ Q) X.xe s
МipI(f:Int->Int->Int):TIp:=λx y H Q=>∃i j,x= .int i/\y= .int j/\Q (.int (f i j)) H
МZc6(c:TT)(tb:TS):TS:=λD σ H=>∃W:Г->St->Hp->В,(∃m,W m σ H)/\∀m σ H,W m σ H->
 c σ H λb H1=>if b=aC then∃N:St->Hp->В,(∀σ' H',N σ' H'->∃m',m'<m/\W m' σ' H')/\tb {D with nx:=N,ct:=N,bk:=D.nx} σ H1 else D.nx σ H1
ЛZc7{c:cj}{body:А Stmt}{tc:TT}{tb:TS}(hp:PassesOwn (b4 X.prog X.w) X.A X.env X.xe)(hc:PT X c tc)(hb:Ta X body tb):PS X (.While c body [] pos) (Zc6 tc tb):=by
 I pins s σ H D I h;O⟨W,⟨m0,w0⟩,turn⟩:=h;R wpAny_While (codeAny_whileLoop (λn s'=>∃σ' H',Inv X pins σ' H' s'/\W n σ' H') ?_ m0 ⟨σ,H,I,w0⟩);rintro n s1 ⟨σ1,H1,I1,w1⟩;R wpAny_passesOwn hp (Wp (hc pins s1 σ1 H1 _ I1 (turn n σ1 H1 w1)) λb s2 zq9=>?_);O⟨H2,I2,q2⟩:=zq9;cases b with
 |true=>
  O⟨N,hN,q2⟩:=q2;K[Е rfl];R wpAny_passesOwn hp (Wp (hb pins s2 σ1 H2 _ I2 q2) λf s3 q3=>?_);cases f with
  |next=>O⟨σ3,H3,I3,n3⟩:=q3;O⟨m',hm,w3⟩:=hN σ3 H3 n3;E⟨m',hm,σ3,H3,I3,w3⟩
  |cont=>O⟨σ3,H3,I3,n3⟩:=q3;O⟨m',hm,w3⟩:=hN σ3 H3 n3;E⟨m',hm,σ3,H3,I3,w3⟩
  |brk=>E q3
  |ret v=>E q3
 |false=>K[Д bv];E wpAny_execs_nil ⟨σ1,H2,I2,q2⟩
end
set_option genInjectivity false in
structure It where
 go:Г->Hp->В
 yld:Г->Hp->V->Hp->В
 stop:Г->Hp->В
МJz(X:Cx)(pins:А (aj×Obj))(H:Hp)(b:aj):Prop:=
 H b=aB/\b≠X.env.locals/\b∉X.fs/\(b∈X.ex\/X.s₀.heap.objs.size<=b)/\(∀x c,X.env.cells.lookup x=aA c->c≠b)/\∀p∈X.pn++pins,p.1≠b
ЛInv.fpOk{X:Cx}{pins:А (aj×Obj)}{σ:St}{H H':Hp}{s:am}{b:aj}(I:Inv X pins σ H s)(hb:s.heap.objs.size<=b)(hn:H' b=aB):Jz X pins H' b:=by
 R⟨hn,Nat.ne_of_gt (c8 I.lt hb),I.nofs hb,.inr (dk I.sz hb),λx c e z=>?_,λp hp z=>?_⟩
 ·O⟨v,q⟩:=I.cell x c e;E absurd (c8 q.lt (by K[z];E hb)) (ii _)
 ·E absurd (c8 (bo (I.pin p hp).1) (by K[z];E hb)) (ii _)
structure Turn(P:b6)(w:c7)(K:ad)(tg:cj)(J:It)(fp:А aj)(it:aj)(tn:Г->d6->В):В where
 mem:it∈fp
 obj:∀i h,tn i h->∀b∈fp,∃o,h.get? b=aA o/\∀v,o.data≠.cell v
 keep:∀i h h',tn i h->(∀b∈fp,∀o,h.get? b=aA o->h'.get? b=aA o)->tn i h'
 item:∀(X:Cx),X.prog=P->X.w=w->X.K=K->X.calm=aC->∀(i:Г) (pins:А (aj×Obj)) (s:am) (σ:St) (H:Hp) (E:ah->am->В),Inv X pins σ H s->(∀b∈fp,Jz X pins H b)->tn i s.heap->J.go i H->
  bg (b4 P w) X.A (pyNext (.ref it)) (λr s1=>∃u,r=aA u/\
   bg (b4 P w) X.A (letOwnedTupleGo tg (.ref it) u) (λ_ s2=>∃x H',Inv X pins σ H' s2/\Zy x u/\J.yld i H x H'/\tn (i+1) s2.heap/\∀b∈fp,H' b=aB) E s1) E s
 done:∀(X:Cx),X.prog=P->X.w=w->X.K=K->X.calm=aC->∀(i:Г) (pins:А (aj×Obj)) (s:am) (σ:St) (H:Hp) (E:ah->am->В),Inv X pins σ H s->(∀b∈fp,Jz X pins H b)->tn i s.heap->J.stop i H->
  bg (b4 P w) X.A (pyNext (.ref it)) (λr s1=>r=aB/\Inv X pins σ H s1) E s
 self:∀(A:dh) (i:Г) (s:am) (Q:ah->am->В) (E:ah->am->В),tn i s.heap->Q (.ref it) s->bg (b4 P w) A (pyIter (.ref it)) Q E s
аTI:=St->Hp->(It->Hp->В)->В
МPIE(X:Cx)(pins:А (aj×Obj))(σ:St)(tg:cj)(R:It->Hp->В)(itv:ah)(s2:am):Prop:=
 ∃(it:aj) (fp:А aj) (tn:Г->d6->В) (J:It) (H':Hp),itv= .ref it/\Inv X pins σ H' s2/\Turn X.prog X.w X.K tg J fp it tn/\tn 0 s2.heap/\(∀b∈fp,Jz X pins H' b)/\R J H'
МPI(X:Cx)(tg iter:cj)(wi:TI):Prop:=
 ∀(pins:А (aj×Obj)) (s:am) (σ:St) (H:Hp) (R:It->Hp->В),Inv X pins σ H s->wi σ H R->
  bg (b4 X.prog X.w) X.A (gq iter X.env) (λv s1=>bg (b4 X.prog X.w) X.A (pyIter v) (PIE X pins σ tg R) X.xe s1) X.xe s
ЛAb{M:Model}{A:dh}{E:ah->am->В}{s:am}{tg:cj}{it:aj}{u:ah}{o:Obj}{n:String}{vs:Array ah}{Q:Unit->am->В}(ho:s.heap.get? it=aA o)(hc:o.cls= .type n)(hd:o.data= .fields vs)
    (hn:["enumerate","zip","dict_itemiterator","dict_reverseitemiterator","odict_iterator","itertools.zip_longest","itertools.pairwise"].contains n=aD) (hQ:Q () s):bg M A (letOwnedTupleGo tg (.ref it) u) Q E s:=by
  U letOwnedTupleGo;cases tg<;> first
    |E ag hQ
    | (cases u<;> first
        |E ag hQ
        | (R ac (wpAny_load ho ?_)
           K[hc,hd];T bg M A (if(["enumerate","zip","dict_itemiterator","dict_reverseitemiterator","odict_iterator","itertools.zip_longest","itertools.pairwise"].contains n&&vs[0]? ==aA (rawInt _))=aC then _ else _) Q E s;K[Д (by I h;K[hn,Bool.false_and]at h;C h)];E ag hQ))
МItl(K:ad)(a:aj):It:=
 ⟨λi H=>∃xs x,W5 K H a xs/\xs[i]? =aA x,λi H x H'=>H'=H/\∀xs,W5 K H a xs->xs[i]? =aA x,λi H=>∃xs,W5 K H a xs/\xs.length<=i⟩
МItt(K:ad)(a:aj):It:=
 ⟨λi H=>∃xs x,Ob K H a xs/\xs[i]? =aA x,λi H x H'=>H'=H/\∀xs,Ob K H a xs->xs[i]? =aA x,λi H=>∃xs,Ob K H a xs/\xs.length<=i⟩
МItr(lo:Int)(n:Г):It:=⟨λi _=>i<n,λi H x H'=>H'=H/\x= .int (lo+i),λi _=>n<=i⟩
ЛZbb{P:b6}{w:c7}{K:ad}{tg:cj}(a it:aj):Turn P w K tg (Itl K a) [it] it (λi h=>h.IsListIter it a i)where
 mem:=by simp
 obj:=λi h st b hb=>by
  V e:b=it:=by L hb
  Q e;O⟨o,e,c,d⟩:=st;E⟨o,e,λv z=>by K[d]at z;C z⟩
 keep:=λi h h' st k=>st.at λo e=>k it К o e
 item:=by I X hP hw hK hc i pins s σ H E I hf st hg;subst hP hw hK;O⟨xs,x,hq,hx⟩:=hg;O⟨its,rv,p,hz⟩:=I.list hq;O⟨u,hu,ru⟩:=rv.get hx;O⟨f0,f1,f2,f3,f4,f5⟩:=hf it К;R wpAny_pyNext_list_item st p.isList (x:=u) (by L hu) λh' st' sb=>?_;V I1:Inv X pins σ H {s with heap:=h'}:=I.turned (t':=s.toks) (λb o hb e=>(sb.2 b hb).trans e) f0 f1 f3 f4 f5;O⟨o,e,c,d⟩:=id st';E⟨u,rfl,Ab (s:={s with heap:=h'}) e c d Й ⟨x,H,I1,ru,⟨rfl,λys hy=>by K[I.list_inj hy hq];E hx⟩,st',λb hb=>(hf b hb).1⟩⟩
 done:=by I X hP hw hK hc i pins s σ H E I hf st hg;subst hP hw hK;O⟨xs,hq,hx⟩:=hg;O⟨its,rv,p,hz⟩:=I.list hq;O⟨f0,f1,f2,f3,f4,f5⟩:=hf it К;V hl:=rv.length;E wpAny_pyNext_list_end (I.ok.hd hc) st p.isList (by simp;W) λh' eb=>⟨rfl,I.turned (t':=s.toks) (λb o hb e=>eb b o hb e) f0 f1 f3 f4 f5⟩
 self:=λ_ _ _ _ _ st h=>wpAny_pyIter_listiter st h
ЛVy{P:b6}{w:c7}{K:ad}{tg:cj}(a it:aj):Turn P w K tg (Itt K a) [it] it (λi h=>h.IsTupleIter it a i)where
 mem:=by simp
 obj:=λi h st b hb=>by
  V e:b=it:=by L hb
  Q e;O⟨o,e,c,d⟩:=st;E⟨o,e,λv z=>by K[d]at z;C z⟩
 keep:=λi h h' st k=>st.at λo e=>k it К o e
 item:=by I X hP hw hK hc i pins s σ H E I hf st hg;subst hP hw hK;O⟨xs,x,hq,hx⟩:=hg;O⟨its,rv,p,hz⟩:=I.tuple hq;O⟨u,hu,ru⟩:=rv.get hx;O⟨f0,f1,f2,f3,f4,f5⟩:=hf it К;R wpAny_pyNext_tuple_item st (show s.heap.IsTuple a its.toArray from p) (x:=u) (by L hu) λh' st' sb=>?_;V I1:Inv X pins σ H {s with heap:=h'}:=I.turned (t':=s.toks) (λb o hb e=>(sb.2 b hb).trans e) f0 f1 f3 f4 f5;O⟨o,e,c,d⟩:=id st';E⟨u,rfl,Ab (s:={s with heap:=h'}) e c d Й ⟨x,H,I1,ru,⟨rfl,λys hy=>by K[I.tuple_inj hy hq];E hx⟩,st',λb hb=>(hf b hb).1⟩⟩
 done:=by I X hP hw hK hc i pins s σ H E I hf st hg;subst hP hw hK;O⟨xs,hq,hx⟩:=hg;O⟨its,rv,p,hz⟩:=I.tuple hq;O⟨f0,f1,f2,f3,f4,f5⟩:=hf it К;V hl:=rv.length;E wpAny_pyNext_tuple_end (I.ok.hd hc) st (show s.heap.IsTuple a its.toArray from p) (by simp;W) λh' eb=>⟨rfl,I.turned (t':=s.toks) (λb o hb e=>eb b o hb e) f0 f1 f3 f4 f5⟩
 self:=λ_ _ _ _ _ st h=>wpAny_pyIter_tupleiter st h
ЛVz{P:b6}{w:c7}{K:ad}{tg:cj}(it:aj)(lo:Int)(n:Г):Turn P w K tg (Itr lo n) [it] it (λi h=>IsRangeIter h it (lo+(i:Г)*1) ((n:Int)- (i:Г)) 1)where
 mem:=by simp
 obj:=λi h st b hb=>by
  V e:b=it:=by L hb
  Q e;E⟨_,st,λv z=>by
   V z':Data.fields _=Data.cell v:=z;C z'⟩
 keep:=λi h h' st k=>k it К _ st
 item:=by I X hP hw hK hc i pins s σ H E I hf st hg;subst hP hw hK;O⟨f0,f1,f2,f3,f4,f5⟩:=hf it К;V W:=Walks.range (prog:=X.prog) (w:=X.w) (I.ok.hd hc) it lo 1 n;R W.item i s _ _ hg st λv h' tk hv st' kk=>?_;O⟨t,rfl⟩:=hv;V I1:Inv X pins σ H {s with heap:=h',toks:=tk}:=I.turned (λb o hb e=>kk b o (by L hb) e) f0 f1 f3 f4 f5;R⟨_,rfl,Ab (s:={s with heap:=h',toks:=tk}) (n:="range_iterator") st' rfl rfl Й ⟨.int (lo+i),H,I1,⟨t,?_⟩,⟨rfl,rfl⟩,st',λb hb=>(hf b hb).1⟩⟩;K[Int.mul_one]
 done:=by I X hP hw hK hc i pins s σ H E I hf st hg;subst hP hw hK;O⟨f0,f1,f2,f3,f4,f5⟩:=hf it К;E wpAny_pyNext_range_end (I.ok.hd hc) st (by V :n<=i:=hg;W) λh' eb=>⟨rfl,I.turned (t':=s.toks) (λb o hb e=>eb b o hb e) f0 f1 f3 f4 f5⟩
 self:=λ_ _ _ _ _ st h=>wpAny_pyIter_rangeiter st h
section
variable{X:Cx}{tg:cj}
МZxc(K:ad)(tl:TE):TI:=λσ H R=>tl σ H λx H1=>∃a,x= .ref a/\(∃xs,W5 K H1 a xs)/\R (Itl K a) H1
МZzi(K:ad)(tl:TE):TI:=λσ H R=>tl σ H λx H1=>∃a,x= .ref a/\(∃xs,Ob K H1 a xs)/\R (Itt K a) H1
ЛZc8{pins:А (aj×Obj)}{σ:St}{H:Hp}{s:am}{R:It->Hp->В}{E:ah->am->В}{lo hi:Int}{t u v:Tok}{tk:Г}(I:Inv X pins σ H s)(h1:-(2^62)<=lo)(h2:lo<2^62)(h3:-(2^62)<=hi)(h4:hi<2^62)
  (q:R (Itr lo (hi- lo).toNat) H):bg (b4 X.prog X.w) X.A (pyIter (.ref s.heap.objs.size)) (PIE X pins σ tg R) E {s with heap:=s.heap.push {cls:=.type "range",data:=.fields #[.int lo t,.int hi u,.int 1 v]},toks:=tk}:=by
 R wpAny_pyIter_range (IsRange.new ..) (small_one h1 h2 h3 h4) ?_;V I1:Inv X pins σ H {s with heap:=s.heap.push {cls:=.type "range",data:=.fields #[.int lo t,.int hi u,.int 1 v]},toks:=tk}:=I.kept λb o e=>au _ e;R⟨(s.heap.push {cls:=.type "range",data:=.fields #[.int lo t,.int hi u,.int 1 v]}).objs.size,[(s.heap.push {cls:=.type "range",data:=.fields #[.int lo t,.int hi u,.int 1 v]}).objs.size],_,_,H,rfl,
  I1.kept (t':=tk) λb o e=>au _ e,Vz _ lo (hi- lo).toNat,?_,λb hb=>?_,q⟩
 ·V e1:lo+((0:Г):Int)*1=lo:=by simp
  V e2:(((hi- lo).toNat:Г):Int)- ((0:Г):Int)=Builtin.Range.rangeSize lo hi 1:=by K[rangeSize_one];split<;> W
  T IsRangeIter _ _ (lo+((0:Г):Int)*1) ((((hi- lo).toNat:Г):Int)- ((0:Г):Int)) 1;K[e1,e2];E bp _ rfl
 ·V e:b=(s.heap.push {cls:=.type "range",data:=.fields #[.int lo t,.int hi u,.int 1 v]}).objs.size:=by L hb
  Q e;E I1.fpOk (ba _) (I1.hok.fresh (ba _))
МZj6(ta:TA):TI:=λσ H R=>ta σ H λvs H1=>∃j:Int,vs=[.int j]/\-(2^62)<=j/\j<2^62/\R (Itr 0 j.toNat) H1
МZxd(ta:TA):TI:=λσ H R=>ta σ H λvs H1=>∃i j:Int,vs=[.int i,.int j]/\(-(2^62)<=i/\i<2^62/\-(2^62)<=j/\j<2^62)/\R (Itr i (j- i).toNat) H1
ЛZbc{a:cj}{ta:TA}{p pos:Pos}(hg:Gl X "range")(hm:X.mg "range"=aB)(ha:PA X [a] ta)(hs:a9 [a] X.env=[(aD,gq a X.env)]:=by rfl):PI X tg (.Call (.Name "range" p) [a] [] pos) (Zj6 ta):=by
 I pins s σ H R I h;R Call_ (Bh I hg hm boot_range (PyProof.Rows.callWith_type1 (Wp (ha pos pins s σ H _ I h) λus s1 ⟨vs,H1,I1,r1,q1⟩=>?_) hs rfl));O⟨j,e,q1,q2,q⟩:=q1;Q e;cases r1 with
 |cons r rr=>C rr;O⟨t,rfl⟩:=r;E call_range_1 (Zc8 I1 И И q1 q2 (by L q))
МZpc(wi:TI)(g:TG)(tb:TS):TS:=λD σ H=>wi σ H λJ H1=>∃W:Г->Г->St->Hp->В,(∃m,W 0 m σ H1)/\∀i m σ H,W i m σ H->
 (J.stop i H/\D.nx σ H)\/(J.go i H/\∃N:St->Hp->В,(∀σ' H',N σ' H'->∃m',m'<m/\W (i+1) m' σ' H')/\∀x H',J.yld i H x H'->g x σ H' λσ2 H2=>tb {D with nx:=N,ct:=N,bk:=D.nx} σ2 H2)
МAc(fp:А aj)(h:d6):А (aj×Obj):=fp.filterMap λb=>(h.get? b).map λo=>(b,o)
ЛBi{fp:А aj}{h:d6}{b:aj}{o:Obj}(hb:b∈fp)(e:h.get? b=aA o):(b,o)∈Ac fp h:=List.mem_filterMap.mpr ⟨b,hb,by K[e];rfl⟩
ЛZbd{fp:А aj}{h:d6}{p:aj×Obj}(hp:p∈Ac fp h):p.1∈fp/\h.get? p.1=aA p.2:=by
 O⟨b,hb,e⟩:=List.mem_filterMap.mp hp;cases q:h.get? b with
 |none=>K[q]at e;C e
 |some o=>K[q]at e;V e':(b,o)=p:=cz.inj e;Q e';E⟨hb,q⟩
ЛInv.pinned{pins:А (aj×Obj)}{σ:St}{H:Hp}{s:am}{fp:А aj}(I:Inv X pins σ H s)(hf:∀b∈fp,Jz X pins H b)(ho:∀b∈fp,∃o,s.heap.get? b=aA o/\∀v,o.data≠.cell v):Inv X (pins++Ac fp s.heap) σ H s:=
 I.pins_of λp hp=>(bz.mp hp).elim (λz=>I.pin p (bh _ z)) λz=>by O⟨hb,e⟩:=Zbd z;O⟨f0,f1,f2,_⟩:=hf p.1 hb;O⟨o,e',d⟩:=ho p.1 hb;K[e]at e';C e';E⟨e,f0,f1,f2,d⟩
ЛInv.unpinned{pins pl:А (aj×Obj)}{σ:St}{H:Hp}{s:am}(I:Inv X (pins++pl) σ H s):Inv X pins σ H s:=I.pins_of λp hp=>I.pin p (bh _ (bj _ hp))
ЛZl4 {iter : cj} {body : А Stmt} {wi : TI} {g : TG} {tb : TS} {pos : Pos} (hp : PassesOwn (b4 X.prog X.w) X.A X.env X.xe) (hc : X.calm = aC) (hi : PI X tg iter wi) (hg : PG X tg g) (hb : Ta X body tb)
    (hs : ∀ x, foldedSetIterable iter X.env x = pure x := by I _; rfl) : PS X (.For tg iter body [] pos) (Zpc wi g tb) := by
  I pins s σ H D I h;R wpAny_For (Wp (hi pins s σ H _ I h) λv s1 h1 => Wp h1 λitv s2 h2 => ?_) hs;obtain ⟨it, fp, tn, J, H2, e, I2, T, st2, f2, W, ⟨m0, w0⟩, turn⟩ := h2;Q e
  -- what stays aC of the iterator's objects through the loop
  V stat : ∀ {H' : Hp}, (∀ b ∈ fp, H' b = aB) -> ∀ b ∈ fp, Jz X pins H' b := λhn b hb => ⟨hn b hb, (f2 b hb).2⟩
  R codeAny_forLoop_any (λn s' => ∃ i σ' H', Inv X pins σ' H' s' /\ tn i s'.heap /\ (∀ b ∈ fp, H' b = aB) /\ W i n σ' H') ?_ m0 ⟨0, σ, H2, I2, st2, λb hb => (f2 b hb).1, w0⟩;rintro n s3 ⟨i, σ3, H3, I3, st3, fr3, w3⟩;J turn i n σ3 H3 w3 with ⟨stop, qn⟩ | ⟨go, N, hN, step⟩
  · R wpAny_passesOwn hp (Wp (T.done X rfl rfl rfl hc i pins s3 σ3 H3 X.xe I3 (stat fr3) st3 stop) λr s4 ⟨hr, I4⟩ => ?_)
    Q hr;E wpAny_execs_nil ⟨σ3, H3, I4, qn⟩
  · R wpAny_passesOwn hp (Wp (T.item X rfl rfl rfl hc i pins s3 σ3 H3 X.xe I3 (stat fr3) st3 go) λr s4 ⟨u, hr, h4⟩ => ?_)
    Q hr;R wpAny_passesOwn hp (Wp h4 λ_ s5 zq9 => ?_);obtain ⟨x, H5, I5, r5, y5, st5, fr5⟩ := zq9;V I5' := I5.pinned (stat fr5) (T.obj _ _ st5);R wpAny_passesOwn hp (Wp (hg _ s5 σ3 H5 x u _ I5' r5 (step x H5 y5)) λ_ s6 zq9 => ?_);obtain ⟨σ6, H6, I6, q6⟩ := zq9;R wpAny_passesOwn hp (Wp (hb _ s6 σ6 H6 _ I6 q6) λf s7 q7 => ?_);V again : ∀ {σ7 : St} {H7 : Hp}, Inv X (pins ++ Ac fp s5.heap) σ7 H7 s7 -> N σ7 H7 -> ∃ m, m < n /\ ∃ i σ' H', Inv X pins σ' H' s7 /\ tn i s7.heap /\ (∀ b ∈ fp, H' b = aB) /\ W i m σ' H' := λ{σ7 H7} I7 n7 => by obtain ⟨m', hm, w7⟩ := hN σ7 H7 n7;R⟨m', hm, i + 1, σ7, H7, I7.unpinned, T.keep _ _ _ st5 λb hb o e => (I7.pin (b, o) (bh _ (bh _ (Bi hb e)))).1, λb hb => ?_, w7⟩;obtain ⟨o, e, d⟩ := T.obj _ _ st5 b hb;E(I7.pin (b, o) (bh _ (bh _ (Bi hb e)))).2.1
    cases f with
    | next => obtain ⟨σ7, H7, I7, n7⟩ := q7; E again I7 n7
    | cont => obtain ⟨σ7, H7, I7, n7⟩ := q7; E again I7 n7
    | brk => obtain ⟨σ7, H7, I7, q7⟩ := q7; E⟨σ7, H7, I7.unpinned, q7⟩
    | ret v => obtain ⟨x7, σ7, H7, I7, r7, q7⟩ := q7; E⟨x7, σ7, H7, I7.unpinned, r7, q7⟩
end
аR2:=V->V->Hp->VK->В
МCf(X:Cx)(f:ah->ah->Sem ah)(r:R2):Prop:=
 ∀(pins:А (aj×Obj)) (s:am) (σ:St) (H:Hp) (x y:V) (v u:ah) (Q:VK),Inv X pins σ H s->Zy x v->Zy y u->r x y H Q->
  bg (b4 X.prog X.w) X.A (f v u) (EP X pins σ Q) X.xe s
МUnR(X:Cx)(f:ah->Sem ah)(r:V->Hp->VK->В):Prop:=
 ∀(pins:А (aj×Obj)) (s:am) (σ:St) (H:Hp) (x:V) (v:ah) (Q:VK),Inv X pins σ H s->Zy x v->r x H Q->
  bg (b4 X.prog X.w) X.A (f v) (EP X pins σ Q) X.xe s
МJo(X:Cx)(f:ah)(r:А V->Hp->VK->В):Prop:=
 ∀(pins:А (aj×Obj)) (s:am) (σ:St) (H:Hp) (xs:А V) (us:А ah) (Q:VK),Inv X pins σ H s->Z2 xs us->r xs H Q->
  bg (b4 X.prog X.w) X.A (call f us) (EP X pins σ Q) X.xe s
МZzj(X:Cx)(r:V->Hp->(Bool->Hp->В)->В):Prop:=
 ∀(pins:А (aj×Obj)) (s:am) (σ:St) (H:Hp) (x:V) (v:ah) (Q:Bool->Hp->В),Inv X pins σ H s->Zy x v->r x H Q->
  bg (b4 X.prog X.w) X.A (truthy v) (TP X pins σ Q) X.xe s
МtOp(r:R2)(ta tb:TE):TE:=λσ H Q=>ta σ H λx H1=>tb σ H1 λy H2=>r x y H2 Q
МtUn(r:V->Hp->VK->В)(ta:TE):TE:=λσ H Q=>ta σ H λx H1=>r x H1 Q
МrI(C:Int->Int->В)(g:Int->Int->V):R2:=λx y H Q=>∃i j,x= .int i/\y= .int j/\C i j/\Q (g i j) H
МrI0(g:Int->Int->V):R2:=λx y H Q=>∃i j,x= .int i/\y= .int j/\Q (g i j) H
МrU(g:Int->V):V->Hp->VK->Prop:=λx H Q=>∃i,x= .int i/\Q (g i) H
section
variable{X:Cx}{a b c:cj}{ta tb tc:TE}{pos:Pos}
ЛZl5(ha:PE X a ta)(hb:PE X b tb){pins:А (aj×Obj)}{s:am}{σ:St}{H:Hp}{R:V->V->Hp->В}(I:Inv X pins σ H s)
  (h:ta σ H λx H1=>tb σ H1 λy H2=>R x y H2) {Q:ah->am->В} {f:ah->ah->Sem ah}
  (hf:∀v u s2 x y H2,Inv X pins σ H2 s2->Zy x v->Zy y u->R x y H2->bg (b4 X.prog X.w) X.A (f v u) Q X.xe s2):
  bg (b4 X.prog X.w) X.A (gq a X.env) (λv s₁=>bg (b4 X.prog X.w) X.A (gq b X.env) (λu s₂=>bg (b4 X.prog X.w) X.A (f v u) Q X.xe s₂) X.xe s₁) X.xe s:=by
 R Wp (ha pins s σ H _ I h) λv s1 zq9=>?_;O⟨x,H1,I1,r1,q1⟩:=zq9;R Wp (hb pins s1 σ H1 _ I1 q1) λu s2 zq9=>?_;O⟨y,H2,I2,r2,q2⟩:=zq9;E hf v u s2 x y H2 I2 r1 r2 q2
ЛZpd{op:Operator}{r:R2}(ho:Cf X (binaryOp op) r)(ha:PE X a ta)(hb:PE X b tb):PE X (.BinOp a op b pos) (tOp r ta tb):=by I pins s σ H Q I h;E wpAny_BinOp (Zl5 ha hb I h λv u s2 x y H2 I2 rx ry q=>ho pins s2 σ H2 x y v u Q I2 rx ry q)
ЛopI{f:ah->ah->Sem ah}{C:Int->Int->В}{g:Int->Int->Int}
  (rule:∀(i j:Int) (t u:Tok) (s:am) (Q:ah->am->В) (E:ah->am->В),C i j->Q (.int (g i j) s.toks) {s with toks:=s.toks+1}->bg (b4 X.prog X.w) X.A (f (.int i t) (.int j u)) Q E s):
  Cf X f (rI C λi j=>.int (g i j)):=by
 I pins s σ H x y v u Q I rx ry h;O⟨i,j,rfl,rfl,hc,q⟩:=h;O⟨t,rfl⟩:=rx;O⟨t',rfl⟩:=ry;E rule i j t t' s _ _ hc ⟨.int (g i j),H,I.tok _,⟨_,rfl⟩,q⟩
ЛZue{f:ah->ah->Sem ah}{g:Int->Int->Int}
  (rule:∀(i j:Int) (t u:Tok) (s:am) (Q:ah->am->В) (E:ah->am->В),Q (.int (g i j) s.toks) {s with toks:=s.toks+1}->bg (b4 X.prog X.w) X.A (f (.int i t) (.int j u)) Q E s):
  Cf X f (rI0 λi j=>.int (g i j)):=by
 I pins s σ H x y v u Q I rx ry h;O⟨i,j,rfl,rfl,q⟩:=h;O⟨t,rfl⟩:=rx;O⟨t',rfl⟩:=ry;E rule i j t t' s _ _ ⟨.int (g i j),H,I.tok _,⟨_,rfl⟩,q⟩
ЛZpe{f:ah->ah->Sem ah}{g:Int->Int->Bool}
  (rule:∀(i j:Int) (t u:Tok) (s:am) (Q:ah->am->В) (E:ah->am->В),Q (.bool (g i j)) s->bg (b4 X.prog X.w) X.A (f (.int i t) (.int j u)) Q E s):
  Cf X f (rI0 λi j=>.bl (g i j)):=by
 I pins s σ H x y v u Q I rx ry h;O⟨i,j,rfl,rfl,q⟩:=h;O⟨t,rfl⟩:=rx;O⟨t',rfl⟩:=ry;E rule i j t t' s _ _ ⟨.bl (g i j),H,I,rfl,q⟩
МZpf(i j:Int):Prop:=0<j/\j<1073741824
МZxe(i j:Int):Prop:=j≠0/\j.natAbs<1073741824
МZzk(i j:Int):Prop:=0<=j/\j<=1000000/\i.natAbs<2^64
МZc9(i j:Int):Prop:=(-(2^64)<i/\i<2^64)\/(-(2^64)<j/\j<2^64)
ЛZc9.ok{i j:Int}(h:Zc9 i j):IntMulOk i j:=by
 J h with⟨h1,h2⟩|⟨h1,h2⟩
 ·E .of_left (intBits_le_64 h1 h2)
 ·E .of_right (intBits_le_64 h1 h2)
ЛZl6:Cf X (binaryOp .Add) (rI0 λi j=>.int (i+j)):=Zue λ_ _ _ _ _ _ _ q=>add_int q
ЛZl7:Cf X (binaryOp .Mult) (rI Zc9 λi j=>.int (i*j)):=opI λ_ _ _ _ _ _ _ hc q=>mul_int q hc.ok
ЛZhk:Cf X (binaryOp .FloorDiv) (rI Zpf λi j=>.int (i / j)):=opI λi j _ _ _ _ _ hc q=>by V h1:(0:Int)<j:=hc.1;V h2:j<1073741824:=hc.2;E floordiv_int И (by K[Int.fdiv_eq_ediv_of_nonneg i И];E q) (.inl (PyProof.noPylong_small И))
ЛZl8:Cf X (binaryOp .Mod) (rI (λ_ j=>0<j) λi j=>.int (i % j)):=opI λi j _ _ _ _ _ hc q=>by V h1:(0:Int)<j:=hc;E mod_int' И (by K[Int.fmod_eq_emod_of_nonneg i И];E q)
end
Мscal:V->V->Bool
 | .non,.non=>aC| .non,.int _=>aC| .int _,.non=>aC| .non,.bl _=>aC| .bl _,.non=>aC| .non,.str _=>aC| .str _,.non=>aC
 | .int _,.int _=>aC| .bl _,.bl _=>aC| .str _,.str _=>aC| .byt _,.byt _=>aC
 | .int _,.str _=>aC| .str _,.int _=>aC| .bl _,.str _=>aC| .str _,.bl _=>aC
 |_,_=>aD
МrEq:R2:=λx y H Q=>scal x y=aC/\Q (.bl (decide (x=y))) H
МrNe:R2:=λx y H Q=>scal x y=aC/\Q (.bl (!decide (x=y))) H
ЛHv{i j:Int}:decide (V.int i=V.int j)=(i==j):=by K[Bool.eq_iff_iff];simp
ЛZda{i j:Bool}:decide (V.bl i=V.bl j)=(i==j):=by K[Bool.eq_iff_iff];simp
ЛHw{i j:Str}:decide (V.str i=V.str j)=(i==j):=by K[Bool.eq_iff_iff];simp
ЛHx{i j:Array UInt8}:decide (V.byt i=V.byt j)=(i.toList==j.toList):=by K[Bool.eq_iff_iff];C i;C j;simp
section
variable{X:Cx}{a b c:cj}{ta tb tc:TE}{pos:Pos}
ЛYg{pins:А (aj×Obj)}{σ:St}{H:Hp}{s:am}{Q:VK}{k k':Bool}(I:Inv X pins σ H s)(q:Q (.bl k) H)(e:k=k'):EP X pins σ Q (.bool k') s:=by Q e;E⟨.bl k,H,I,rfl,q⟩
ЛZj7:Cf X (g9 .Eq) rEq:=by
 I pins s σ H x y v u Q I rx ry h;O⟨hs,q⟩:=h;cases x with
 |non=>
  C rx;cases y with
  |non=>C ry;E PySem.EqNone.eq_none_none (Yg I q К)
  |bl j=>C ry;E PySem.EqNone.eq_none_bool (Yg I q К)
  |int j=>O⟨t',rfl⟩:=ry;E PySem.EqNone.eq_none_int (Yg I q К)
  |str j=>O⟨t',rfl⟩:=ry;E PySem.EqNone.eq_none_str (Yg I q К)
  |_=>E absurd (show aD=aC from hs) bv
 |bl i=>
  C rx;cases y with
  |non=>C ry;E PySem.EqNone.eq_bool_none (Yg I q К)
  |bl j=>C ry;E eq_bool (Yg I q Zda)
  |str j=>O⟨t',rfl⟩:=ry;E PySem.EqMixed.eq_bool_str (Yg I q К)
  |_=>E absurd (show aD=aC from hs) bv
 |int i=>
  O⟨t,rfl⟩:=rx;cases y with
  |non=>C ry;E PySem.EqNone.eq_int_none (Yg I q К)
  |int j=>O⟨t',rfl⟩:=ry;E eq_int (Yg I q Hv)
  |str j=>O⟨t',rfl⟩:=ry;E PySem.EqMixed.eq_int_str (Yg I q К)
  |_=>E absurd (show aD=aC from hs) bv
 |str i=>
  O⟨t,rfl⟩:=rx;cases y with
  |non=>C ry;E PySem.EqNone.eq_str_none (Yg I q К)
  |bl j=>C ry;E PySem.EqMixed.eq_str_bool (Yg I q К)
  |int j=>O⟨t',rfl⟩:=ry;E PySem.EqMixed.eq_str_int (Yg I q К)
  |str j=>O⟨t',rfl⟩:=ry;E eq_str (Yg I q Hw)
  |_=>E absurd (show aD=aC from hs) bv
 |byt i=>
  O⟨t,rfl⟩:=rx;cases y with
  |byt j=>O⟨t',rfl⟩:=ry;E PySem.W.eq_bytes (Yg I q Hx)
  |_=>E absurd (show aD=aC from hs) bv
 |_=>cases y<;> E absurd (show aD=aC from hs) bv
ЛZpg:Cf X (g9 .NotEq) rNe:=by
 I pins s σ H x y v u Q I rx ry h;O⟨hs,q⟩:=h;cases x with
 |non=>
  C rx;cases y with
  |non=>C ry;E PySem.EqNone.ne_none_none (Yg I q К)
  |bl j=>C ry;E PySem.EqNone.ne_none_bool (Yg I q К)
  |int j=>O⟨t',rfl⟩:=ry;E PySem.EqNone.ne_none_int (Yg I q К)
  |str j=>O⟨t',rfl⟩:=ry;E PySem.EqNone.ne_none_str (Yg I q К)
  |_=>E absurd (show aD=aC from hs) bv
 |bl i=>
  C rx;cases y with
  |non=>C ry;E PySem.EqNone.ne_bool_none (Yg I q К)
  |bl j=>C ry;E ne_bool (Yg I q (congrArg not Zda))
  |str j=>O⟨t',rfl⟩:=ry;E PySem.EqMixed.ne_bool_str (Yg I q К)
  |_=>E absurd (show aD=aC from hs) bv
 |int i=>
  O⟨t,rfl⟩:=rx;cases y with
  |non=>C ry;E PySem.EqNone.ne_int_none (Yg I q К)
  |int j=>O⟨t',rfl⟩:=ry;E ne_int (Yg I q (congrArg not Hv))
  |str j=>O⟨t',rfl⟩:=ry;E PySem.EqMixed.ne_int_str (Yg I q К)
  |_=>E absurd (show aD=aC from hs) bv
 |str i=>
  O⟨t,rfl⟩:=rx;cases y with
  |non=>C ry;E PySem.EqNone.ne_str_none (Yg I q К)
  |bl j=>C ry;E PySem.EqMixed.ne_str_bool (Yg I q К)
  |int j=>O⟨t',rfl⟩:=ry;E PySem.EqMixed.ne_str_int (Yg I q К)
  |str j=>O⟨t',rfl⟩:=ry;E ne_str (Yg I q (congrArg not Hw))
  |_=>E absurd (show aD=aC from hs) bv
 |byt i=>
  O⟨t,rfl⟩:=rx;cases y with
  |byt j=>O⟨t',rfl⟩:=ry;E PySem.W.ne_bytes (Yg I q (congrArg not Hx))
  |_=>E absurd (show aD=aC from hs) bv
 |_=>cases y<;> E absurd (show aD=aC from hs) bv
ЛZph:Cf X (g9 .Lt) (rI0 λi j=>.bl (decide (i<j))):=Zpe λ_ _ _ _ _ _ _ q=>lt_int q
ЛZpi:Cf X (g9 .Gt) (rI0 λi j=>.bl (decide (j<i))):=Zpe λ_ _ _ _ _ _ _ q=>gt_int q
ЛZbe:Cf X (g9 .In) (λx y H Q=>∃i j,x= .str i/\y= .str j/\Q (.bl (!(dj j i 0 j.length 1).isEmpty)) H):=by I pins s σ H x y v u Q I rx ry h;O⟨i,j,rfl,rfl,q⟩:=h;O⟨t,rfl⟩:=rx;O⟨t',rfl⟩:=ry;E in_str (Yg I q rfl)
МZxf:HO->Bool
 | .lst _=>aC
 | .ins _ _ _=>aC
 |_=>aD
ЛCf.or{f:ah->ah->Sem ah}{r r':R2}(h:Cf X f r)(h':Cf X f r'):Cf X f (λx y H Q=>r x y H Q\/r' x y H Q):=by
 I pins s σ H x y v u Q I rx ry q;J q with q|q
 ·E h pins s σ H x y v u Q I rx ry q
 ·E h' pins s σ H x y v u Q I rx ry q
ЛAd(b:cj){op:CmpOp}(h:op≠.In:=by decide)(h2:op≠.NotIn:=by decide):behindInMarks op b=aD:=by
 V e1:(op==CmpOp.In)=aD:=by cases op<;> first|rfl|E absurd rfl h
 V e2:(op==CmpOp.NotIn)=aD:=by cases op<;> first|rfl|E absurd rfl h2
 cases b<;> simp[behindInMarks,e1,e2]
ЛZhl{op:CmpOp}{r:R2}(ho:Cf X (g9 op) r)(ha:PE X a ta)(hb:PE X b tb)(hm:behindInMarks op b=aD):PE X (.Compare a [op] [b] pos) (tOp r ta tb):=by I pins s σ H Q I h;E wpAny_Compare1 (Zl5 ha hb I h λv u s2 x y H2 I2 rx ry q=>ho pins s2 σ H2 x y v u Q I2 rx ry q) hm
МZj8(t:TE):TT:=λσ H Q=>t σ H λx H'=>∃k,x= .bl k/\Q k H'
ЛZhm{op:CmpOp}{r:R2}(ho:Cf X (g9 op) r)(ha:PE X a ta)(hb:PE X b tb)(hm:behindInMarks op b=aD):PT X (.Compare a [op] [b] pos) (Zj8 (tOp r ta tb)):=by
 I pins s σ H Q I h;R wpAny_isTrue_Compare1 (Wp (ha pins s σ H _ I h) λv s1 ⟨x,H1,I1,r1,q1⟩=>Wp (hb pins s1 σ H1 _ I1 q1) λu s2 ⟨y,H2,I2,r2,q2⟩=>
  Wp (ho pins s2 σ H2 x y v u _ I2 r1 r2 q2) λc s3 ⟨z,H3,I3,r3,k,e,q3⟩=>?_) hm
 Q e;C r3;E wpAny_truthy_bool ⟨H3,I3,q3⟩
МZuh(r r':R2)(ta tb tc:TE):TE:=λσ H Q=>ta σ H λx H1=>tb σ H1 λy H2=>r x y H2 λz H3=>∃k,z= .bl k/\
 (if k=aC then tc σ H3 λw' H4=>r' y w' H4 Q else Q (.bl aD) H3)
МZzl(K:ad)(x:V)(H:Hp)(k:Bool):Prop:=
 match x with
 | .non=>k=aD
 | .bl b=>k=b
 | .int i=>k=(i !=0)
 | .str y=>y.length<=sizeLine/\k=((y.length:Int) !=0)
 | .byt y=>y.size<=sizeLine/\k=((y.size:Int) !=0)
 | .ref p=>(∃xs,W5 K H p xs/\k= !xs.isEmpty)\/(∃xs,Ob K H p xs/\k= !xs.isEmpty)\/∃kvs,HK H p kvs/\k= !kvs.isEmpty
 |_=>False
ЛMf:(sizeLine:Г)<2^63:=by K[fu];decide
ЛV0:Cf X (binaryOp .Add) (λx y H Q=>∃i j,x= .str i/\y= .str j/\i.length+j.length<=sizeLine/\Q (.str (i++j)) H):=by I pins s σ H x y v u Q I rx ry h;O⟨i,j,rfl,rfl,hz,q⟩:=h;O⟨t,rfl⟩:=rx;O⟨t',rfl⟩:=ry;E add_str (λt' tk=>⟨.str (i++j),H,I.tok _,⟨_,rfl⟩,q⟩) hz
МZpj(b:cj):Prop:=∀o i,subscripted b aD o i=operate [o,i] (getItem o i)
ЛOc{x:V}{us:А ah}(r:Z2 [x] us):∃u,us=[u]/\Zy x u:=by
 cases r with
 |cons r1 r2=>C r2;E⟨_,rfl,r1⟩
ЛZbf:Jo X (.type "int") (λxs H Q=>(∃i,xs=[.int i]/\Q (.int i) H)\/∃k,xs=[.bl k]/\Q (.int (if k then 1 else 0)) H):=by
 I pins s σ H xs us Q I r h;J h with⟨i,rfl,q⟩|⟨k,rfl,q⟩
 ·O⟨u,rfl,t,rfl⟩:=Oc r;E call_int_int ⟨.int i,H,I,⟨_,rfl⟩,q⟩
 ·O⟨u,rfl,r1⟩:=Oc r;C r1;E call_int_bool ⟨.int (if k then 1 else 0),H,I.tok _,⟨_,rfl⟩,q⟩
ЛLm:Jo X (.type "str") (λxs H Q=>∃i,xs=[.int i]/\i.natAbs.log2<1920/\Q (.str (toString i)) H):=by I pins s σ H xs us Q I r h;O⟨i,rfl,hz,q⟩:=h;O⟨u,rfl,t,rfl⟩:=Oc r;E PySem.P.str_of_int hz ⟨.str _,H,I.tok _,⟨_,rfl⟩,q⟩
МZzm(K:ad)(x:V)(H:Hp)(n:Г):Prop:=
 match x with
 | .str y=>y.length<=sizeLine/\n=y.length
 | .byt y=>y.size<=sizeLine/\n=y.size
 | .ref p=>(∃xs,W5 K H p xs/\n=xs.length)\/∃xs,Ob K H p xs/\n=xs.length
 |_=>False
end
structure ObjM(h:d6)(x dx C:aj)(mA:Str->Б ah):В where
 obj:h.get? x=aA (PySem.W.instObj C dx)
 ns:h.Ns1 dx mA
 ne:dx≠x
МIr(f:Str)(v:V):А (Str×V)->А (Str×V)
  | []=>[(f,v)]
  | (g,x)::r=>if g=f then(g,v)::r else(g,x)::Ir f v r
ЛTi.some_of{v:V}{o:Б ah}(r:Ti (aA v) o):∃u,o=aA u/\Zy v u:=by
 cases o with
 |none=>E(show False from r).elim
 |some u=>E⟨u,rfl,r⟩
structure Cls(K:ad)(C:aj):В where
 pg:PySem.W.plainGet K C Str.empty=aC
 hd:PySem.W.hasDictIn K C=aC
 po:PySem.W.plainOver K C=aC
 sa:PySem.W.findIn K (.ref C) "__setattr__"=aA (aA (.builtin "object.__setattr__"))
МV2(K:ad)(C:aj)(f:Str):Prop:=PySem.W.findIn K (.ref C) f=aA aB
structure Con(K:ad)(C:aj)(f:Str)(v:V)(u:ah):В where
 at_:PySem.W.findIn K (.ref C) f=aA (aA u)
 rel:Zy v u
 get:PySem.W.specialIn K u "__get__"=aA aB
 cp:PySem.W.copiedNames.contains f=aD
structure Meth(K:ad)(C:aj)(m:Str)(f:aj):В where
 at_:PySem.W.findIn K (.ref C) m=aA (aA (.ref f))
 fn:PySem.W.isFn K (.ref f)=aC
 kp:bu K (.ref f)=aC
МZzn(K:ad)(ta:TE)(f:Str):TE:=λσ H Q=>ta σ H λx H1=>∃a C dx fs v,x= .ref a/\H1 a=aA (.ins C dx fs)/\Cls K C/\V2 K C f/\fs.lookup f=aA v/\Q v H1
МZzo(K:ad)(ta:TE)(f:Str):TE:=λσ H Q=>ta σ H λx H1=>∃a C dx fs v u,x= .ref a/\H1 a=aA (.ins C dx fs)/\Cls K C/\Con K C f v u/\fs.lookup f=aB/\Q v H1
МZzp(K:ad)(ta tv:TE)(f:Str):TS:=λD σ H=>tv σ H λy H1=>ta σ H1 λx H2=>∃a C dx fs,x= .ref a/\H2 a=aA (.ins C dx fs)/\Cls K C/\V2 K C f/\fs.length<1000/\
 D.nx σ (Z9 H2 a (.ins C dx (Ir f y fs)))
МZzq(X:Cx)(op:Operator)(rd:V->V->Hp->VK->В):Prop:=
 ∀(pins:А (aj×Obj)) (s:am) (σ:St) (H:Hp) (x y:V) (u v:ah) (Q:VK),Inv X pins σ H s->Zy x u->Zy y v->rd x y H Q->bg (b4 X.prog X.w) X.A (inplaceOp op u v) (EP X pins σ Q) X.xe s
МZsx(K:ad)(ta tv:TE)(rd:V->V->Hp->VK->В)(f:Str):TS:=λD σ H=>ta σ H λx H1=>∃a C dx fs v,x= .ref a/\H1 a=aA (.ins C dx fs)/\Cls K C/\V2 K C f/\fs.lookup f=aA v/\
 tv σ H1 λy H2=>rd v y H2 λz H3=>∃dx' fs',H3 a=aA (.ins C dx' fs')/\fs'.length<1000/\D.nx σ (Z9 H3 a (.ins C dx' (Ir f z fs')))
section
variable{X:Cx}{o e value:cj}{f:Str}{pos pos' tpos:Pos}{ta tv:TE}
МZzr:V->V->Hp->VK->Prop:=λx y H Q=>∃i j,x= .int i/\y= .int j/\Q (.int (i+j)) H
МZzs:V->V->Hp->VK->Prop:=λx y H Q=>∃i j,x= .int i/\y= .int j/\Q (.int (i- j)) H
end
section
variable{X:Cx}{pins:А (aj×Obj)}{σ:St}{H:Hp}{s:am}{A:dh}{E:ah->am->В}{Q:ah->am->В}{c:ah}{b:Bool}
inductive TyOf(K:ad)(H:Hp):V->ah->В where
 |non:TyOf K H .non (.type "NoneType")
 |bl (x:Bool):TyOf K H (.bl x) (.type "bool")
 |int (i:Int):TyOf K H (.int i) (.type "int")
 |str (x:Str):TyOf K H (.str x) (.type "str")
 |flt (x:UInt64):TyOf K H (.flt x) (.type "float")
 |lst {a:aj} {xs:А V} (e:H a=aA (.lst xs)):TyOf K H (.ref a) (.type "list")
 |frz {a:aj} {o:Obj} {xs:А V} (e:H a=aA (.frz o (.lst xs))):TyOf K H (.ref a) (.type "list")
 |tup {a:aj} {xs:А V} (e:H a=aA (.tup xs)):TyOf K H (.ref a) (.type "tuple")
 |dK {a:aj} {kvs:А (Key×V)} {ep:Г} (e:H a=aA (.dK kvs ep)):TyOf K H (.ref a) (.type "dict")
 |dT {a:aj} {kvs:А (А Key×V)} {ep:Г} {bs:А aj} (e:H a=aA (.dT kvs ep bs)):TyOf K H (.ref a) (.type "dict")
 |ins {a C dx:aj} {fs:А (Str×V)} (e:H a=aA (.ins C dx fs)) (cl:Cls K C) (ha:PySem.W.findIn K (.ref C) "__class__"=aA (aA (.builtin "object.__class__")))
   (hn:PySem.W.specialIn K (.builtin "object.__class__") "__get__"=aA (aA (.builtin "getset_descriptor.__get__"))) (htk:PySem.W.takesIn K (.builtin "object.__class__")=aA aC)
   (hm:PySem.W.mroIn K C (.type "object")=aA aC):TyOf K H (.ref a) (.ref C)
end
structure Room(k:Г)(A:dh):В where
 hd:A.handled=aB
 dp:A.depth+3*k+5<recursionLimit
 un:A.units+16*k+200<f6
ЛRoom.mono{j k:Г}{A:dh}(r:Room k A)(h:j<=k):Room j A:=⟨r.hd,by V :=r.dp;W,by V :=r.un;W⟩
ЛRoom.deeper{k:Г}{A:dh}(r:Room (k+1) A)(env:Env):Room k (A.deeper env):=
 ⟨r.hd,by V :=r.dp;T A.depth+1+3*k+5<_;W,by V :=r.un;show A.units+3+16*k+200<_;W⟩
ЛRoom.depth{k:Г}{A:dh}(r:Room k A):A.depth<recursionLimit:=by V :=r.dp;W
ЛRoom.units{k:Г}{A:dh}(r:Room k A):A.units+64<cLine:=by V :=r.un;W
МPq:TA:=λ_ H Q=>Q [] H
МRm(ta:TE)(tr:TA):TA:=λσ H Q=>ta σ H λx H1=>tr σ H1 λxs H2=>Q (x::xs) H2
section
variable{X:Cx}{e:cj}{es:А cj}{te:TE}{t:TA}{pos:Pos}
ЛBj:PA X [] Pq:=λ_ _ _ _ H Q I h=>Calls.spliced_nil ⟨[],H,I,.nil,h⟩
ЛJf(ha:PE X e te)(hr:PA X es t)(hs:a9 (e::es) X.env=(aD,gq e X.env)::a9 es X.env:=by rfl):PA X (e::es) (Rm te t):=by I pos pins s σ H Q I h;K[hs];T bg _ _ (spliced ((aD,gq e X.env)::gr pos (a9 es X.env))) _ _ s;R Calls.spliced_cons (Wp (ha pins s σ H _ I h) λu s1 zq9=>?_);O⟨x,H1,I1,r1,q1⟩:=zq9;E Wp (hr pos pins s1 σ H1 _ I1 q1) λus s2 ⟨xs,H2,I2,r2,q2⟩=>⟨x::xs,H2,I2,.cons r1 r2,q2⟩
МZpk(t:TA):TE:=λσ H Q=>t σ H λxs H1=>xs.length<=sizeLine/\∀p,H1 p=aB->Q (.ref p) (Z9 H1 p (.tup xs))
МZhn(t:TA):TE:=λσ H Q=>t σ H λxs H1=>xs.length<=sizeLine/\∀p,H1 p=aB->Q (.ref p) (Z9 H1 p (.lst xs))
ЛZl9{x1} (h:PA X es t):PE X (.Tuple es x1 pos) (Zpk t):=by I pins s σ H Q I hq;R wpAny_Tuple_spliced (Wp (h pos pins s σ H _ I hq) λus s1 ⟨xs,H1,I1,r,z,q⟩=>⟨by K[<-r.length];E z,?_⟩);V hf:H1 s1.heap.objs.size=aB:=I1.hok.fresh (ba _);R⟨.ref s1.heap.objs.size,Z9 H1 s1.heap.objs.size (.tup xs),I1.laid (t':=s1.toks) (λb u e=>au _ e) (ba _) ?_,rfl,q _ hf⟩;E⟨z,us,r,⟨_,bp _ rfl,rfl,_,rfl⟩⟩
ЛLn(h:PA X es t):PE X (.List es pos) (Zhn t):=by I pins s σ H Q I hq;R wpAny_List_spliced (Wp (h pos pins s σ H _ I hq) λus s1 ⟨xs,H1,I1,r,z,q⟩=>⟨by K[<-r.length];E z,?_⟩);V hf:H1 s1.heap.objs.size=aB:=I1.hok.fresh (ba _);R⟨.ref s1.heap.objs.size,Z9 H1 s1.heap.objs.size (.lst xs),I1.laid (t':=s1.toks) (λb u e=>au _ e) (ba _) ?_,rfl,q _ hf⟩;E⟨z,us,0,r,bp _ rfl⟩
end
аSp:=А V->Hp->VK->XK->В
аCXT:=А Env->Hp->am->XK->ah->am->В
structure Env0(P:b6)(w:c7)(K:ad)(mg:Str->Б ah)(base:d6)(A:dh)(outer:А Env)(s:am)(H:Hp):В where
 frames:A.frames=aA outer
 mod:Mod K mg base
 bs:∀b o,base.get? b=aA o->s.heap.get? b=aA o/\H b=aB
 bsz:base.objs.size<=s.heap.objs.size
 funs:s.heap.FunFrames base outer
 frf:∀b∈frs outer,H b=aB
 hok:Go P w H s.heap
 bare:AllBare s.gens
МCE(outer:А Env)(P:b6)(w:c7)(H:Hp)(s:am)(Q:VK)(u:ah)(s':am):Prop:=
 ∃v H',s'.os=s.os/\AllBare s'.gens/\Un (frs outer) [] H H' s.heap s'.heap/\Go P w H' s'.heap/\Zy v u/\Q v H'
МCR(CX:CXT)(outer:А Env)(P:b6)(w:c7)(H:Hp)(s:am)(Q:VK)(E:XK)(r:Result)(s':am):Prop:=
 match r with
 | .ok (.ret u)=>CE outer P w H s Q u s'
 | .ok _=>False
 | .error e=>CX outer H s E e s'
structure FnOk(P:b6)(w:c7)(K:ad)(mg:Str->Б ah)(base:d6)(CX:CXT)(k:Г)(f:aj)(fd:ci)(ps:А Str)(sp:Sp):В where
 len:∀vs H Q E,sp vs H Q E->vs.length=ps.length
 run:∀(A:dh) (outer:А Env) (s:am) (H:Hp) (args:Args) (us:А ah) (vs:А V) (Q:VK) (E:XK),Room k A->Env0 P w K mg base A outer s H->BindsTo s fd args (ps.zip us)->Z2 vs us->sp vs H Q E->
  codeAny (b4 P w) A (.call (.ref f) args) (CR CX outer P w H s Q E) s
section
variable{X:Cx}{pins:А (aj×Obj)}{σ:St}{H:Hp}{s s':am}
ЛInv.env0(I:Inv X pins σ H s):Env0 X.prog X.w X.K X.mg X.base X.A X.stack s H:=
 ⟨I.ok.frames,I.ok.mod,I.bs,dk I.ok.bsz I.sz,I.stack,I.stkFree,I.hok,I.bare⟩
ЛInv.after{Q:VK}{u:ah}(I:Inv X pins σ H s)(h:CE X.stack X.prog X.w H s Q u s'):EP X pins σ Q u s':=by O⟨v,H',os,bare,un,hok,r,q⟩:=h;O⟨hh,g,d,t,os'⟩:=s';obtain rfl:os'=s.os:=os;E⟨v,H',I.call (h':=hh) (g':=g) (d':=d) (t':=t) (ch:=[]) un hok bare (λb z=>absurd z К),r,q⟩
end
МZj9(sp:Sp)(dvs:А V)(E:XK)(t:TA):TE:=λσ H Q=>t σ H λvs H1=>sp (vs++dvs) H1 Q E
МZxg(C:aj)(m:Str)(sp:Sp)(dvs:А V)(E:XK)(ta:TE)(t:TA):TE:=λσ H Q=>ta σ H λx H1=>∃a dx fs,x= .ref a/\H1 a=aA (.ins C dx fs)/\fs.lookup m=aB/\
 t σ H1 λvs H2=>sp (x::(vs++dvs)) H2 Q E
МZxh(C:aj)(sp:Sp)(dvs:А V)(E:XK)(t:TA):TE:=λσ H Q=>t σ H λvs H1=>∀x dx,H1 x=aB->H1 dx=aB->dx≠x->
 sp (.ref x::(vs++dvs)) (Z9 (Z9 H1 dx (.own x)) x (.ins C dx [])) (λv H2=>v= .non/\Q (.ref x) H2) E
МWh(K:ad)(fd:ci)(ps:А Str)(ds:А ah):Prop:=
 ∀(s:am) (us:А ah),K.In s.heap->(us++ds).length=ps.length->BindsTo s fd ⟨us,[]⟩ (ps.zip (us++ds))
ЛWh.all{K:ad}{fd:ci}{ps:А Str}(h:∀us:А ah,us.length=ps.length->bindArgs fd ⟨us,[]⟩=pure (ps.zip us)):Wh K fd ps []:=λs us _ hl=>by K[List.append_nil]at hl⊢;E .of_eq (h us hl)
МV3(CX:CXT)(X:Cx)(E:XK):Prop:=∀(pins:А (aj×Obj)) (σ:St) (H:Hp) (s:am) (e:ah) (s':am),Inv X pins σ H s->CX X.stack H s E e s'->X.xe e s'
section
variable{X:Cx}{CX:CXT}{k:Г}{f C:aj}{fd:ci}{ps:А Str}{sp:Sp}{dvs:А V}{ds:А ah}{E:XK}{x m:Str}{p pos apos:Pos}{e o:cj}{es:А cj}{ta:TE}{t:TA}
ЛZma{pins:А (aj×Obj)}{σ:St}{H:Hp}{s:am}{Q:VK}{us:А ah}{vs:А V}(F:FnOk X.prog X.w X.K X.mg X.base CX k f fd ps sp)(hr:Room k X.A)(hb:Wh X.K fd ps ds)(hd:Z2 dvs ds)(hx:V3 CX X E)
  (I:Inv X pins σ H s) (r:Z2 vs us) (h:sp (vs++dvs) H Q E):bg (b4 X.prog X.w) X.A (call (.ref f) us) (EP X pins σ Q) X.xe s:=by
 V r2:Z2 (vs++dvs) (us++ds):=r.append hd;V hl:(us++ds).length=ps.length:=by K[<-r2.length];E F.len _ _ _ _ h
 R wpAny_call (codeAny_mono (F.run X.A X.stack s H ⟨us,[]⟩ (us++ds) (vs++dvs) Q E hr I.env0 (hb s us I.kIn hl) r2 h) λr s' hq=>?_);cases r with
 |error e=>E hx pins σ H s e s' I hq
 |ok fl=>
  cases fl with
  |ret u=>E I.after hq
  |next=>E False.elim hq
  |brk=>E False.elim hq
  |cont=>E False.elim hq
ЛZho(F:FnOk X.prog X.w X.K X.mg X.base CX k f fd ps sp)(hr:Room k X.A)(hg:Gl X x)(hm:X.mg x=aA (.ref f))(hk:bu X.K (.ref f)=aC)(hb:Wh X.K fd ps ds)(hd:Z2 dvs ds)(hx:V3 CX X E)
  (ha:PA X (e::es) t) (hdb:(x==("__debug__":Str))=aD:=by decide) (he:a9 (e::es) X.env=(aD,gq e X.env)::a9 es X.env:=by rfl) (hpl:(gr pos (a9 es X.env)).any (·.1)=aD:=by rfl):
  PE X (.Call (.Name x p) (e::es) [] pos) (Zj9 sp dvs E t):=by
 I pins s σ H Q I h;R wpAny_Call_Name_kw (Zhc I hg hm ?_ hdb);R PySem.W.callWith_K (h₀:=X.base) I.ok.mod.kin hk (Wp (ha pos pins s σ H _ I h) λus s1 ⟨vs,H1,I1,r,q⟩=>⟨I1.kIn,?_⟩) he hpl;E Zma F hr hb hd hx I1 r q
structure Mk(K:ad)(C f:aj):В where
 makes:PySem.W.makesIn K C=aC
 init:PySem.W.findIn K (.ref C) "__init__"=aA (aA (.ref f))
 fn:PySem.W.isFn K (.ref f)=aC
 kp:bu K (.ref C)=aC
end
МPK(X:Cx)(kws:А Keyword)(t:TA):Prop:=
 ∀(pos:Pos) (pins:А (aj×Obj)) (s:am) (σ:St) (H:Hp) (Q:А V->Hp->В),Inv X pins σ H s->t σ H Q->bg (b4 X.prog X.w) X.A (evalAll ((backToKw pos (keywordEach kws X.env)).map (·.2))) (AP X pins σ Q) X.xe s
section
variable{X:Cx}{CX:CXT}{k:Г}{f C:aj}{fd:ci}{ps ks:А Str}{sp:Sp}{E:XK}{x m:Str}{p pos apos kpos:Pos}{e o:cj}{es:А cj}{kws:А Keyword}{te ta:TE}{t tk:TA}{nm:Б Str}
structure KBinds(K:ad)(fd:ci)(ps ks:А Str)(g:А ah->А ah->А ah)(gV:А V->А V->А V):В where
 to:∀(s:am) (us ws:А ah),K.In s.heap->(g us ws).length=ps.length->BindsTo s fd ⟨us,ks.zip ws⟩ (ps.zip (g us ws))
 rel:∀{vs:А V} {us:А ah} {zs:А V} {ws:А ah},Z2 vs us->Z2 zs ws->Z2 (gV vs zs) (g us ws)
МZui(sp:Sp)(gV:А V->А V->А V)(E:XK)(t tk:TA):TE:=λσ H Q=>t σ H λvs H1=>tk σ H1 λzs H2=>sp (gV vs zs) H2 Q E
variable{g:А ah->А ah->А ah}{gV:А V->А V->А V}
end
structure FnScope(N P:А Str)(sc:Scope):В where
 kind:sc.kind= .function
 co:sc.isCoroutine=aD
 gen:sc.isGenerator=aD
 nd:N.Nodup
 pre:N.take P.length=P
 par:∀x∈P,sc.names.lookup x=aA .local\/sc.names.lookup x=aA .cell
 nofree:∀y∈sc.names,y.2≠.free
ЛFm{kindOf:Str->Б NameKind}{x:Str}:∀{binds:А (Str×ah)} {m:Str->Б ah},(∀v,(x,v)∉binds)->bindL kindOf binds m x=m x
  | [],_,_=>rfl
  | (n,v)::r,m,h=>by
    U bindL;K[Fm λw hw=>h w (ao _ hw)];split
    · have:x≠n:=by rintro rfl;E h v af
      simp[this]
    · rfl
ЛFn{kindOf:Str->Б NameKind}{x:Str}:∀{binds:А (Str×ah)} {m:Str->Б ah},(∀v,(x,v)∉binds)->bindC kindOf binds m x=m x
  | [],_,_=>rfl
  | (n,v)::r,m,h=>by
    U bindC;K[Fn λw hw=>h w (ao _ hw)];split
    · rfl
    · have:x≠n:=by rintro rfl;E h v af
      simp[this]
ЛFo{kindOf:Str->Б NameKind}{x:Str}{v:ah}:∀{P:А Str} {vs:А ah} {i:Г} {m:Str->Б ah},P.Nodup->P[i]? =aA x->vs[i]? =aA v->kindOf x=aA .local->
  bindL kindOf (P.zip vs) m x=aA v
 | [],_,_,_,_,h,_,_=>by simp at h
 |_::_,[],_,_,_,_,h,_=>by simp at h
 |p::P,w::vs,0,m,nd,h1,h2,hk=>by simp at h1 h2;Q h1;Q h2;T bindL kindOf ((p,w)::P.zip vs) m p=_;U bindL;K[Fm λv hv=>(dm.mp nd).1 (List.of_mem_zip hv).1,Е hk];simp
 |p::P,w::vs,i+1,m,nd,h1,h2,hk=>by T bindL kindOf ((p,w)::P.zip vs) m x=_;U bindL;E Fo (i:=i) (dm.mp nd).2 (by L h1) (by L h2) hk
ЛFp{kindOf:Str->Б NameKind}{x:Str}{v:ah}:∀{P:А Str} {vs:А ah} {i:Г} {m:Str->Б ah},P.Nodup->P[i]? =aA x->vs[i]? =aA v->kindOf x≠aA .local->
  bindC kindOf (P.zip vs) m x=aA v
 | [],_,_,_,_,h,_,_=>by simp at h
 |_::_,[],_,_,_,_,h,_=>by simp at h
 |p::P,w::vs,0,m,nd,h1,h2,hk=>by simp at h1 h2;Q h1;Q h2;T bindC kindOf ((p,w)::P.zip vs) m p=_;U bindC;K[Fn λv hv=>(dm.mp nd).1 (List.of_mem_zip hv).1,Д hk];simp
 |p::P,w::vs,i+1,m,nd,h1,h2,hk=>by T bindC kindOf ((p,w)::P.zip vs) m x=_;U bindC;E Fp (i:=i) (dm.mp nd).2 (by L h1) (by L h2) hk
МCa(N:А Str)(vs:А V):St:=vs.map aA++dn (N.length- vs.length) aB
МV4(CX:CXT)(P:b6)(w:c7)(K:ad)(mg:Str->Б ah)(base:d6)(N:А Str)(qual:Str)(scope:Scope)(f:aj)(cd:ah)(A:dh)(outer:А Env)(s:am)(H:Hp)(E:XK):Cx where
 prog:=P
 w:=w
 K:=K
 mg:=mg
 base:=base
 A:=A.deeper (envOfC qual scope s.heap.objs.size f cd)
 N:=N
 s₀:=s
 H₀:=H
 env:=envOfC qual scope s.heap.objs.size f cd
 outer:=outer
 stack:=envOfC qual scope s.heap.objs.size f cd::outer
 ex:=[]
 calm:=aC
 fn:=λ_=>aC
 pn:=[]
 xe:=λe s'=>bg (b4 P w) (A.deeper (envOfC qual scope s.heap.objs.size f cd)) (leaving (envOfC qual scope s.heap.objs.size f cd) e) (λ_ s''=>CX outer H s E e s'') (λe' s''=>CX outer H s E e' s'') s'
ЛPr{sc:Scope}{n:Г}{x:Str}(h:sc.names.lookup x=aA .cell):∃c,(cellsFrom n sc.names []).lookup x=aA c:=by V q:=PySem.W.cellsFrom_some sc.names n [] (.inl h);E Option.isSome_iff_exists.mp q
ЛZbh{CX:CXT}{P:b6}{w:c7}{K:ad}{mg:Str->Б ah}{base:d6}{N ps:А Str}{qual:Str}{scope:Scope}{f:aj}{cd:ah}{A:dh}{outer:А Env}{s s1:am}{H:Hp}{E:XK}{us:А ah}{vs:А V}
  (S:FnScope N ps scope) (hd:A.handled=aB) (e0:Env0 P w K mg base A outer s H) (hl:vs.length=ps.length) (r:Z2 vs us)
  (x:InCallC s s.heap.objs.size (bindL (envOfC qual scope s.heap.objs.size f cd).kindOf (ps.zip us) λ_=>aB) (cellsFrom (s.heap.objs.size+1) scope.names []) (bindC (envOfC qual scope s.heap.objs.size f cd).kindOf (ps.zip us) λ_=>aB) s1):
  Inv (V4 CX P w K mg base N qual scope f cd A outer s H E) [] (Ca N vs) H s1:=by
 V hpl:ps.length<=N.length:=by V :=congrArg List.length S.pre;K[gw]at this;W
 O⟨h1,tk,rfl,hk⟩:=x.done;V noA:∀b:aj,b∉(V4 CX P w K mg base N qual scope f cd A outer s H E).ex:=λb z=>absurd (show b∈([]:А aj)from z) К;R⟨⟨e0.mod,S.kind,rfl,rfl,ba _,λy z c h1 h2=>?_,λy hy=>?_,λy c _ h=>?_,λ_=>hd,Around.frames_deeper e0.frames,.inr ⟨rfl,rfl⟩,λb z=>absurd z (noA b),e0.bs,e0.bsz,λb _ _=>noA b,λb z=>absurd z (noA b),e0.funs,e0.frf⟩,
  rfl,e0.bare,Un.kept hk,⟨_,x.toInCall.ns,λi y v h1 h2 h3=>?_⟩,λy c h=>⟨_,x.cell y c h⟩,e0.hok.fresh (ba _),λy c h=>?_,λp hp=>absurd (show p∈([]:А (aj×Obj))from hp) К,e0.hok.kept hk,?_⟩
 ·E name_of_addr x.apart (PySem.mem_of_lookup h1) (PySem.mem_of_lookup h2)
 ·V hy:scope.names.lookup y=aA .cell\/scope.names.lookup y=aA .free:=hy;J hy with hy|hy
  ·E Pr hy
  ·E absurd rfl (S.nofree _ (PySem.mem_of_lookup hy))
 ·E Nat.le_of_lt (x.above y c (PySem.mem_of_lookup h))
 ·V hi:i<vs.length:=by
   U Ca at h2;B hi:i<vs.length
   ·E hi
   ·K[gk (by L hi)]at h2;K[List.getElem?_replicate]at h2;split at h2<;> C h2
  V ha:vs[i]? =aA v:=by
   U Ca at h2;K[dg (by L hi),az]at h2;cases e:vs[i]? with
   |none=>K[e]at h2;C h2
   |some a=>K[e]at h2;C h2;rfl
  O⟨u,hu,rv⟩:=r.get ha;V hp:ps[i]? =aA y:=by K[<-S.pre,List.getElem?_take_of_lt И];E h1
  V ndP:ps.Nodup:=by K[<-S.pre];E S.nd.sublist (List.take_sublist _ _)
  R⟨u,rv,?_⟩;J S.par y (b5 hp)with k|k
  ·E .inl ⟨k,Fo ndP hp hu k⟩
  ·O⟨c,e⟩:=Pr (n:=s.heap.objs.size+1) k;R .inr ⟨.inl k,c,e,?_⟩;V q:=x.cell y c e;K[Fp ndP hp hu (by T scope.names.lookup y≠_;K[k];decide)]at q;E q
 ·E e0.hok.fresh (Nat.le_of_lt (x.above y c (PySem.mem_of_lookup h)))
 ·U Ca;T _=N.length;K[aw,aq,List.length_replicate];W
ЛZpl{CX:CXT}{P:b6}{w:c7}{K:ad}{mg:Str->Б ah}{base:d6}{k:Г}{f:aj}{name qual:Str}{params:Arguments}{body:А Stmt}{scope:Scope}{dV kV doc pm cdv ct oc:ah}{an od:Б aj}
  {osl:Array (Б ah)} {N ps:А Str} {sp:Sp} (lk:K.lookup f=aA ⟨oc,od,.func (PySem.W.fnOf name qual params body scope dV kV doc pm an cdv ct),osl⟩) (hcd:PySem.W.codeIn K cdv qual=aC) (S:FnScope N ps scope)
  (len:∀vs H Q E,sp vs H Q E->vs.length=ps.length)
  (hbody:∀(A:dh) (outer:А Env) (s:am) (H:Hp) (vs:А V) (Q:VK) (E:XK),Room k (A.deeper (envOfC qual scope s.heap.objs.size f cdv))->sp vs H Q E->
   ∃t,Ta (V4 CX P w K mg base N qual scope f cdv A outer s H E) body t/\t {nx:=λ_ H'=>Q .non H',rt:=Q} (Ca N vs) H):
  FnOk P w K mg base CX (k+1) f (PySem.W.fnOf name qual params body scope dV kV doc pm an cdv ct) ps sp:=by
 R⟨len,λA outer s H args us vs Q E hr e0 hb r hsp=>?_⟩;V hl:=len _ _ _ _ hsp;V KX:K.In s.heap:=e0.mod.kin.keeps λb o e=>(e0.bs b o e).1;V lim:s.heap.NoLimit:=e0.mod.nolimit.keeps λb o e=>(e0.bs b o e).1;V hkind:∀y∈ps.zip us,scope.names.lookup y.1=aA .local\/(scope.names.lookup y.1=aA .cell/\((cellsFrom (s.heap.objs.size+1) scope.names []).lookup y.1).isSome=aC):=λ⟨n,v⟩ hy=>by
  J S.par n (List.of_mem_zip hy).1 with q|q
  ·E .inl q
  ·E .inr ⟨q,PySem.W.cellsFrom_some _ _ _ (.inl q)⟩
 R codeAny_call_function hr.depth (KX _ _ lk) rfl S.co S.gen rfl (PySem.W.codeRec_of KX hcd) (hb _ _ _ _ ?_);R wpAny_newFunctionEnv_cells S.kind hkind λenv he s1 x=>?_;Q he;R⟨lim.keeps x.toInCall.keep,codeAny_func ?_⟩;O⟨t,ht,hq⟩:=hbody A outer s H vs Q E (hr.deeper _) hsp;V I:Inv (V4 CX P w K mg base N qual scope f cdv A outer s H E) [] (Ca N vs) H s1:=Zbh S hr.hd e0 hl r x;R wpAny_mono (ht [] s1 (Ca N vs) H _ I hq) (λfl s' hs=>?_) λe s' hs=>hs;V fin:∀{σ':St} {H':Hp} {v:V} {u:ah},Inv (V4 CX P w K mg base N qual scope f cdv A outer s H E) [] σ' H' s'->Zy v u->Q v H'->CE outer P w H s Q u s':=
  fun{σ' H' v u} J rv q=>⟨v,H',J.os,J.bare,J.base,J.hok,rv,q⟩
 cases fl with
 |ret u=>O⟨v,σ',H',J,rv,q⟩:=hs;E fin J rv q
 |next=>O⟨σ',H',J,q⟩:=hs;E fin (v:=V.non) (u:=ck) J rfl q
 |brk=>O⟨_,_,_,q⟩:=hs;E False.elim q
 |cont=>O⟨_,_,_,q⟩:=hs;E False.elim q
section
variable{X:Cx}{x:Str}{p pos:Pos}{e:cj}{es:А cj}{t:TA}{id T:String}{r:А V->Hp->VK->В}
МtCB(r:А V->Hp->VK->В)(t:TA):TE:=λσ H Q=>t σ H λvs H1=>r vs H1 Q
ЛZdb(hc:Jo X (.builtin id) r)(hg:Gl X x)(hm:X.mg x=aB)(hv:bootBuiltins x=aA (.builtin id))(ha:PA X (e::es) t)(hn:x≠"__name__":=by decide)(hdb:(x==("__debug__":Str))=aD:=by decide)
  (he:a9 (e::es) X.env=(aD,gq e X.env)::a9 es X.env:=by rfl) (hpl:(gr pos (a9 es X.env)).any (·.1)=aD:=by rfl):PE X (.Call (.Name x p) (e::es) [] pos) (tCB r t):=by
 I pins s σ H Q I h;R wpAny_Call_Name_kw (Bh I hg hm hv ?_ hn hdb);E PyProof.Rows.callWith_builtin1 (Wp (ha pos pins s σ H _ I h) λus s1 ⟨vs,H1,I1,r1,q1⟩=>hc pins s1 σ H1 vs us Q I1 r1 q1) he hpl
ЛZbi(hc:Jo X (.type T) r)(hg:Gl X x)(hm:X.mg x=aB)(hv:bootBuiltins x=aA (.type T))(ha:PA X (e::es) t)(hn:x≠"__name__":=by decide)(hdb:(x==("__debug__":Str))=aD:=by decide)
  (he:a9 (e::es) X.env=(aD,gq e X.env)::a9 es X.env:=by rfl) (hpl:(gr pos (a9 es X.env)).any (·.1)=aD:=by rfl):PE X (.Call (.Name x p) (e::es) [] pos) (tCB r t):=by
 I pins s σ H Q I h;R wpAny_Call_Name_kw (Bh I hg hm hv ?_ hn hdb);E PyProof.Rows.callWith_type1 (Wp (ha pos pins s σ H _ I h) λus s1 ⟨vs,H1,I1,r1,q1⟩=>hc pins s1 σ H1 vs us Q I1 r1 q1) he hpl
end
end L2
namespace HT
open PySem PyProof.Rows
МlexLt:А Int->А Int->Bool
 | [],[]=>aD
 | [],_::_=>aC
 |_::_,[]=>aD
 |x::xs,y::ys=>if x=y then lexLt xs ys else decide (x<y)
ЛZmb(x y:Int)(xs ys:А Int):lexLt (x::xs) (y::ys)=if x=y then lexLt xs ys else decide (x<y):=rfl
ЛZg6:lexLt [] []=aD:=rfl
ЛZdc(y:Int)(ys:А Int):lexLt [] (y::ys)=aC:=rfl
ЛZdd(x:Int)(xs:А Int):lexLt (x::xs) []=aD:=rfl
section
variable{prog:b6}{w:c7}{A:dh}{E:ah->am->В}{s:am}
МsIx(n d:Г):Б Int->Г
 |none=>d
 |some v=>if v<0 then(v+(n:Int)).toNat else min v.toNat n
ЛZpn(n d:Г):sIx n d aB=d:=rfl
ЛsIx_nat(n d k:Г):sIx n d (aA (k:Int))=min k n:=by show(if(k:Int)<0 then((k:Int)+(n:Int)).toNat else min (k:Int).toNat n)=min k n;K[Д И,g8]
end
end HT
namespace L2
open PySem PySem.Spec PyProof.Rows
аTO:=St->Hp->(Б Int->Hp->В)->В
МPO(X:Cx)(e:Б cj)(t:TO):Prop:=
 ∀(pins:А (aj×Obj)) (s:am) (σ:St) (H:Hp) (Q:Б Int->Hp->В),Inv X pins σ H s->t σ H Q->
  bg (b4 X.prog X.w) X.A (evalPart e X.env) (λu s'=>∃o H',Inv X pins σ H' s'/\IsPart u o/\Q o H') X.xe s
МZsy:TO:=λ_ H Q=>Q aB H
МZka(t:TE):TO:=λσ H Q=>t σ H λx H1=>∃i,x= .int i/\Q (aA i) H1
section
variable{X:Cx}{e:cj}{te:TE}{lo hi:Б cj}{tl th:TO}{pos p2:Pos}
ЛZhp(h:PE X e te):PO X (aA e) (Zka te):=by I pins s σ H Q I hw;K[evalPart_some];R Wp (h pins s σ H _ I hw) λu s1 zq9=>?_;O⟨x,H1,I1,r1,q1⟩:=zq9;O⟨i,rfl,q⟩:=q1;O⟨t,rfl⟩:=r1;E⟨aA i,H1,I1,.int i t,q⟩
МSlR(X:Cx)(r:V->Б Int->Б Int->Hp->VK->В):Prop:=
 ∀(pins:А (aj×Obj)) (s:am) (σ:St) (H:Hp) (x:V) (v vl vu:ah) (lo hi:Б Int) (sl:aj) (Q:VK),Inv X pins σ H s->Zy x v->s.heap.IsSliceOf sl vl vu .none->IsPart vl lo->IsPart vu hi->r x lo hi H Q->
  ∃T id,typeLookup (.type T) "__getitem__"=pure (aA (.builtin id))/\s.TypeIs v T/\bg (b4 X.prog X.w) X.A (getItem v (.ref sl)) (EP X pins σ Q) X.xe s
ЛSlR.or{r r':V->Б Int->Б Int->Hp->VK->В}(h:SlR X r)(h':SlR X r'):SlR X (λx lo hi H Q=>r x lo hi H Q\/r' x lo hi H Q):=by
 I pins s σ H x v vl vu lo hi sl Q I rx hs pl pu q;J q with q|q
 ·E h pins s σ H x v vl vu lo hi sl Q I rx hs pl pu q
 ·E h' pins s σ H x v vl vu lo hi sl Q I rx hs pl pu q
МtSl(r:V->Б Int->Б Int->Hp->VK->В)(te:TE)(tl th:TO):TE:=λσ H Q=>te σ H λx H1=>tl σ H1 λl H2=>th σ H2 λu H3=>r x l u H3 Q
ЛZde{r:V->Б Int->Б Int->Hp->VK->В}(hr:SlR X r)(he:PE X e te)(hl:PO X lo tl)(hu:PO X hi th):PE X (.Subscript e (.Slice lo hi aB p2) pos) (tSl r te tl th):=by I pins s σ H Q I h;R Subscript_ (Wp (he pins s σ H _ I h) λv s1 zq9=>?_);O⟨x,H1,I1,r1,q1⟩:=zq9;R wpAny_Slice (Wp (hl pins s1 σ H1 _ I1 q1) λvl s2 ⟨l,H2,I2,pl,q2⟩=>Wp (hu pins s2 σ H2 _ I2 q2) λvu s3 zq9=>?_);O⟨u,H3,I3,pu,q3⟩:=zq9;K[evalPart_none];R ag ?_;V I4:Inv X pins σ H3 {s3 with heap:=s3.heap.push {cls:=.type "slice",data:=.fields #[vl,vu,.none]}}:=I3.kept (t':=s3.toks) λb ob q=>au _ q;O⟨T,id,hT,ht,hg⟩:=hr pins {s3 with heap:=s3.heap.push {cls:=.type "slice",data:=.fields #[vl,vu,.none]}} σ H3 x v vl vu l u s3.heap.objs.size Q I4 r1 (Heap.IsSliceOf.new ..) pl pu q3;T bg (b4 X.prog X.w) X.A (subscriptTail e (.Slice lo hi aB p2) v (.ref s3.heap.objs.size)) (EP X pins σ Q) X.xe {s3 with heap:=s3.heap.push {cls:=.type "slice",data:=.fields #[vl,vu,.none]}};E tail_any (ops:=[.ref s3.heap.objs.size,v]) ht hT hg (by with_unfolding_all rfl)
МV5(xs:А V)(lo hi:Б Int):А V:=(xs.drop (HT.sIx xs.length 0 lo)).take (HT.sIx xs.length xs.length hi- HT.sIx xs.length 0 lo)
ЛPt(xs:А V)(lo hi:Б Int):(V5 xs lo hi).length<=xs.length:=by U V5;K[gw,List.length_drop];W
МZzt(K:ad):V->Б Int->Б Int->Hp->VK->Prop:=λx lo hi H Q=>∃a xs,x= .ref a/\Ob K H a xs/\
 ¬(HT.sIx xs.length 0 lo=0/\HT.sIx xs.length xs.length hi=xs.length)/\∀p,H p=aB->Q (.ref p) (Z9 H p (.tup (V5 xs lo hi)))
МZzu(K:ad):R2:=λx y H Q=>∃a b ns ms,x= .ref a/\y= .ref b/\Ob K H a (ns.map V.int)/\Ob K H b (ms.map V.int)/\Q (.bl (HT.lexLt ns ms)) H
МZxj(K:ad):R2:=λx y H Q=>∃a b xs ys,x= .ref a/\y= .ref b/\Ob K H a xs/\Ob K H b ys/\xs≠[]/\xs.length+ys.length<=sizeLine/\
 (ys=[]->Q (.ref a) H)/\(ys≠[]->∀p,H p=aB->Q (.ref p) (Z9 H p (.tup (xs++ys))))
end
МixN(n:Г)(i:Int):Б Nat:=if 0<=i then(if i<n then aA i.toNat else aB)else if-(n:Int)<=i then aA (i+n).toNat else aB
МatI{α:Type}(xs:А α)(i:Int):Б α:=(ixN xs.length i).bind λj=>xs[j]?
ЛLo{n:Г}{i:Int}{j:Г}(h:ixN n i=aA j):seqIndex? i n=aA j/\j<n/\-(n:Int)<=i/\i<n:=by
 U ixN at h;B h0:0<=i
 ·K[Е h0]at h;B h1:i<n
  ·K[Е h1]at h;V e:i.toNat=j:=cz.inj h;E⟨by K[seqIndex_of h0 h1,e],by W,by W,h1⟩
  ·K[Д h1]at h;C h
 ·K[Д h0]at h;B h1:-(n:Int)<=i
  ·K[Е h1]at h;V e:(i+n).toNat=j:=cz.inj h;E⟨by K[seqIndex_neg И h1,e],by W,h1,by W⟩
  ·K[Д h1]at h;C h
ЛLp{α:Type}{xs:А α}{i:Int}{v:α}(h:atI xs i=aA v):∃j,seqIndex? i xs.length=aA j/\xs[j]? =aA v/\j<xs.length/\-(xs.length:Int)<=i/\i<xs.length:=by
 U atI at h;cases e:ixN xs.length i with
 |none=>K[e]at h;C h
 |some j=>K[e]at h;O⟨h1,h2,h3,h4⟩:=Lo e;E⟨j,h1,h,h2,h3,h4⟩
МTu(b:cj):Prop:=∀o i,subscripted b aD o i=operate [o,i] (getItem o i)
МIxR(X:Cx)(r:R2):Prop:=
 ∀(value slice:cj) (pins:А (aj×Obj)) (s:am) (σ:St) (H:Hp) (x y:V) (v u:ah) (Q:VK),Inv X pins σ H s->Zy x v->Zy y u->r x y H Q->
  subscripted slice aD v u=operate [v,u] (getItem v u)->bg (b4 X.prog X.w) X.A (subscriptTail value slice v u) (EP X pins σ Q) X.xe s
МMtR(X:Cx)(id:String)(r:V->А V->Hp->VK->В):Prop:=
 ∀(pins:А (aj×Obj)) (s:am) (σ:St) (H:Hp) (x:V) (xs:А V) (v:ah) (us:А ah) (Q:VK),Inv X pins σ H s->Zy x v->Z2 xs us->r x xs H Q->
  bg (b4 X.prog X.w) X.A (call (.builtin id) (v::us)) (EP X pins σ Q) X.xe s
section
variable{X:Cx}{a b:cj}{ta tb:TE}{pos:Pos}
ЛIxR.or{r r':R2}(h:IxR X r)(h':IxR X r'):IxR X (λx y H Q=>r x y H Q\/r' x y H Q):=by
 I value slice pins s σ H x y v u Q I rx ry q hs;J q with q|q
 ·E h value slice pins s σ H x y v u Q I rx ry q hs
 ·E h' value slice pins s σ H x y v u Q I rx ry q hs
ЛZdf{r:R2}(hr:IxR X r)(ha:PE X a ta)(hb:PE X b tb)(hs:Tu b):PE X (.Subscript a b pos) (tOp r ta tb):=by I pins s σ H Q I h;E Subscript_ (Zl5 ha hb I h λv u s2 x y H2 I2 rx ry q=>hr a b pins s2 σ H2 x y v u Q I2 rx ry q (hs _ _))
МZhr(K:ad):R2:=λx y H Q=>∃p xs i v,x= .ref p/\y= .int i/\W5 K H p xs/\atI xs i=aA v/\Q v H
МZpo(K:ad):R2:=λx y H Q=>∃p xs i v,x= .ref p/\y= .int i/\Ob K H p xs/\atI xs i=aA v/\Q v H
МZpp:R2:=λx y H Q=>∃z i c,x= .str z/\y= .int i/\z.length<=sizeLine/\atI z.cps.toList i=aA c/\Q (.str ⟨#[c]⟩) H
ЛHy:IxR X (Zhr X.K):=by
 I value slice pins s σ H x y v u Q I rx ry h hs;O⟨p,xs,i,z,rfl,rfl,hq,he,q⟩:=h;C rx;O⟨t,rfl⟩:=ry;O⟨its,r,pl,hz⟩:=I.list hq;O⟨j,h1,h2,h3,h4,h5⟩:=Lp he;O⟨w,ew,rw'⟩:=r.get h2;V hl:=r.length;V hn:=Mf;V fin:EP X pins σ Q w s:=⟨z,H,I,rw',q⟩
 B h0:0<=i
 ·V hj:i.toNat=j:=by K[seqIndex_of h0 h5]at h1;E cz.inj h1
  E item_listR pl.isList h0 И (by K[hj];L ew) fin hs
 ·V hj:(i+(its.toArray.size:Int)).toNat=j:=by K[seqIndex_neg И h4]at h1;K[bq,<-hl];E cz.inj h1
  E subscriptTail_builtinR (x:=w) pl.isList.typeIs slot_list_getitem.lookup
   (wpAny_getItem_list_neg (Q:=λr s'=>r=w/\EP X pins σ Q r s') pl.isList И (by K[bq]<;> W) И (by K[hj];L ew) ⟨rfl,fin⟩) hs
ЛZmd:IxR X (Zpo X.K):=by
 I value slice pins s σ H x y v u Q I rx ry h hs;O⟨p,xs,i,z,rfl,rfl,hq,he,q⟩:=h;C rx;O⟨t,rfl⟩:=ry;O⟨its,r,pl,hz⟩:=I.tuple hq;O⟨j,h1,h2,h3,h4,h5⟩:=Lp he;O⟨w,ew,rw'⟩:=r.get h2;V hl:=r.length;V hn:=Mf;V fin:EP X pins σ Q w s:=⟨z,H,I,rw',q⟩
 E subscriptTail_builtinR (x:=w) pl.typeIs slot_tuple_getitem.lookup
  (getItem_tuple (j:=j) (Q:=λr s'=>r=w/\EP X pins σ Q r s') pl И И (by K[bq,<-hl];E h1) (by L ew) ⟨rfl,fin⟩) hs
ЛZme:IxR X Zpp:=by
 I value slice pins s σ H x y v u Q I rx ry h hs;O⟨z,i,c,rfl,rfl,hz,he,q⟩:=h;O⟨t,rfl⟩:=rx;O⟨t',rfl⟩:=ry;O⟨j,h1,h2,h3,h4,h5⟩:=Lp he;V hl:z.cps.toList.length=z.length:=by simp[Str.length]
 K[hl]at h1 h4 h5;V hn:=Mf;E tail_any (typeIs_str s z t) slot_str_getitem.lookup (getItem_str (c:=c) (by
  V e1:decide (i< -(2^63:Int))=aD:=Ж И;V e2:decide (i>=2^63)=aD:=Ж И;K[e1,e2,Bool.or_false]) (by K[h1];L h2) ⟨.str ⟨#[c]⟩,H,I.tok _,⟨_,rfl⟩,q⟩) hs
МrIx(K:ad):R2:=λx y H Q=>Zhr K x y H Q\/Zpo K x y H Q\/Zpp x y H Q
ЛZdg:IxR X (rIx X.K):=Hy.or (Zmd.or Zme)
ЛV6(its:А ah)(n j:Г)(u:ah):di (·.setIfInBounds j u) {cls:=.type "list",data:=.seq its.toArray n}={cls:=.type "list",data:=.seq (its.set j u).toArray n}:=by simp[di]
ЛInv.lst{pins:А (aj×Obj)}{σ:St}{H:Hp}{s:am}{p:aj}{xs:А V}(I:Inv X pins σ H s)(h:H p=aA (.lst xs)):
  ∃(its:А ah) (n:Г),Z2 xs its/\s.heap.get? p=aA {cls:=.type "list",data:=.seq its.toArray n}/\xs.length<=sizeLine:=by
 O⟨z,its,n,r,e⟩:=I.hok p _ h;E⟨its,n,r,e,z⟩
ЛInv.lstUpd{pins:А (aj×Obj)}{σ:St}{H:Hp}{s:am}{p:aj}{xs ys:А V}{its its':А ah}{n n':Г}{f:Obj->Obj}(I:Inv X pins σ H s)(h:H p=aA (.lst xs))
  (ho:s.heap.get? p=aA {cls:=.type "list",data:=.seq its.toArray n}) (hf:f {cls:=.type "list",data:=.seq its.toArray n}={cls:=.type "list",data:=.seq its'.toArray n'}) (r:Z2 ys its') (hz:ys.length<=sizeLine) (t:Г):
  Inv X pins σ (Z9 H p (.lst ys)) {s with heap:=s.heap.update p f,toks:=t}:=by
 V e:(s.heap.update p f).get? p=aA {cls:=.type "list",data:=.seq its'.toArray n'}:=by K[g6 f ho (by K[hf]<;> rfl),hf]
 R I.write (x:=p) (e:=p) (by K[h];trivial) (.inl rfl) (λb u hb q=>(Heap.get?_update_other _ _ (Ne.symm hb)).trans q) ⟨_,e⟩ ?_;E⟨hz,its',n',r,e⟩
МZkb:V->V->V->Hp->(Hp->В)->Prop:=λo i v H Q=>∃p xs k j,o= .ref p/\i= .int k/\H p=aA (.lst xs)/\ixN xs.length k=aA j/\Q (Z9 H p (.lst (xs.set j v)))
ЛZdh:Zo5 X Zkb:=by
 I pins s σ H o i v ov iv u Q I ro ri rv h;O⟨p,xs,k,j,rfl,rfl,hp,hj,q⟩:=h;C ro;O⟨t,rfl⟩:=ri;O⟨its,n,r,ho,hz⟩:=I.lst hp;O⟨h1,h2,h3,h4⟩:=Lo hj;V hl:=r.length;V hn:=Mf;V I':Inv X pins σ (Z9 H p (.lst (xs.set j v))) {s with heap:=s.heap.update p (di (·.setIfInBounds j u))}:=
  I.lstUpd hp ho (V6 its n j u) (r.set rv j) (by K[List.length_set];E hz) s.toks
 B h0:0<=k
 ·V hk:k.toNat=j:=by K[seqIndex_of h0 h4]at h1;E cz.inj h1
  E PySem.W.ki_setAt ho h0 И (by K[bq,<-hl];E h4) (by K[hk];E⟨_,I',q⟩)
 ·V hk:(k+(its.toArray.size:Int)).toNat=j:=by K[seqIndex_neg И h3]at h1;K[bq,<-hl];E cz.inj h1
  E PySem.W.ki_setBack ho И (by K[bq,<-hl];E h3) И (by K[hk];E⟨_,I',q⟩)
ЛLq(lo hi:Б Int)(n:Г):(sliceBounds lo hi aB n).1=((HT.sIx n 0 lo:Г):Int)/\(sliceBounds lo hi aB n).2.1=((HT.sIx n n hi:Г):Int)/\(sliceBounds lo hi aB n).2.2=1:=by
 R⟨?_,?_,rfl⟩
 ·cases lo with
  |none=>simp[sliceBounds,HT.sIx]
  |some i=>
   simp only[sliceBounds,HT.sIx,Option.getD_none,show(1:Int) > 0 by decide,if_true];B h:i<0
   ·simp only[h,if_true]<;> W
   ·simp only[h,if_false]<;> W
 ·cases hi with
  |none=>simp[sliceBounds,HT.sIx]
  |some i=>
   simp only[sliceBounds,HT.sIx,Option.getD_none,show(1:Int) > 0 by decide,if_true];B h:i<0
   ·simp only[h,if_true]<;> W
   ·simp only[h,if_false]<;> W
ЛIu(its:А ah)(lo hi:Б Int):slicePick its.toArray lo hi aB=((its.drop (HT.sIx its.length 0 lo)).take (HT.sIx its.length its.length hi- HT.sIx its.length 0 lo)).toArray:=by O⟨h1,h2,h3⟩:=Lq lo hi its.toArray.size;U slicePick;K[h1,h2,h3];simp only[sliceRange_one,pick_run,bq]<;> rfl
МZpr(K:ad):V->Б Int->Б Int->Hp->VK->Prop:=λx lo hi H Q=>∃a xs,x= .ref a/\W5 K H a xs/\∀p,H p=aB->Q (.ref p) (Z9 H p (.lst (V5 xs lo hi)))
ЛZhs:SlR X (Zpr X.K):=by I pins s σ H x v vl vu lo hi sl Q I rx hs pl pu h;O⟨a,xs,rfl,hx,q⟩:=h;C rx;O⟨its,r,ht,hz⟩:=I.list hx;V hlen:=r.length;R⟨"list",_,slot_list_getitem.lookup,ht.isList.typeIs,?_⟩;R wpAny_getItem_list_slice ht.isList hs pl pu .none К ?_ (by K[bq]<;> W);K[Iu,<-hlen];R⟨.ref s.heap.objs.size,_,I.laid (t':=s.toks) (o:=.lst (V5 xs lo hi)) (λb ob q=>au _ q) (ba _) ?_,rfl,q _ (I.hok.fresh (ba _))⟩;E⟨dk (Pt xs lo hi) hz,_,0,(r.drop (HT.sIx xs.length 0 lo)).take (HT.sIx xs.length xs.length hi- HT.sIx xs.length 0 lo),bp _ rfl⟩
МY2:V->Bool
 | .non=>aC
 | .bl _=>aC
 | .int _=>aC
 | .str _=>aC
 |_=>aD
МPu:V->V->Bool
 | .non,.non=>aC
 | .bl a,.bl b=>a==b
 | .bl a,.int b=>(if a then 1 else 0)==b
 | .int a,.bl b=>a==(if b then 1 else 0)
 | .int a,.int b=>a==b
 | .str a,.str b=>a==b
 |_,_=>aD
ЛZdi{A:dh}{s:am}{y x:V}{u v:ah}(ry:Zy y u)(rx:Zy x v)(fy:Y2 y=aC)(fx:Y2 x=aC):SeqAt.EqAt A s u v (Pu y x):=by
 cases y with
 |non=>
  C ry;cases x with
  |non=>C rx;E SeqAt.EqAt.same _
  |bl b=>C rx;E SeqAt.EqAt.none_bool b
  |int b=>O⟨t,rfl⟩:=rx;E SeqAt.EqAt.none_int b t
  |str b=>O⟨t,rfl⟩:=rx;E SeqAt.EqAt.none_str b t
  |_=>E absurd (show aD=aC from fx) bv
 |bl a=>
  C ry;cases x with
  |non=>C rx;E SeqAt.EqAt.bool_none a
  |bl b=>C rx;E SeqAt.EqAt.bool_bool a b
  |int b=>O⟨t,rfl⟩:=rx;E SeqAt.EqAt.bool_int a b t
  |str b=>O⟨t,rfl⟩:=rx;E SeqAt.EqAt.bool_str a b t
  |_=>E absurd (show aD=aC from fx) bv
 |int a=>
  O⟨t',rfl⟩:=ry;cases x with
  |non=>C rx;E SeqAt.EqAt.int_none a t'
  |bl b=>C rx;E SeqAt.EqAt.int_bool a t' b
  |int b=>O⟨t,rfl⟩:=rx;E SeqAt.EqAt.int_int a t' b t
  |str b=>O⟨t,rfl⟩:=rx;E SeqAt.EqAt.int_str a t' b t
  |_=>E absurd (show aD=aC from fx) bv
 |str a=>
  O⟨t',rfl⟩:=ry;cases x with
  |non=>C rx;E SeqAt.EqAt.str_none a t'
  |bl b=>C rx;E SeqAt.EqAt.str_bool a t' b
  |int b=>O⟨t,rfl⟩:=rx;E SeqAt.EqAt.str_int a t' b t
  |str b=>O⟨t,rfl⟩:=rx;E SeqAt.EqAt.str_str a t' b t
  |_=>E absurd (show aD=aC from fx) bv
 |_=>E absurd (show aD=aC from fy) bv
МV7(x:V)(u:ah):Bool:=match u with
 | .none=>Pu .non x
 | .bool b=>Pu (.bl b) x
 | .int i _=>Pu (.int i) x
 | .str z _=>Pu (.str z) x
 |_=>aD
ЛZdj{x y:V}{u:ah}(r:Zy y u)(f:Y2 y=aC):V7 x u=Pu y x:=by
 cases y with
 |non=>C r;rfl
 |bl b=>C r;rfl
 |int i=>O⟨t,rfl⟩:=r;rfl
 |str z=>O⟨t,rfl⟩:=r;rfl
 |_=>E absurd (show aD=aC from f) bv
ЛRn{x:V}:∀{xs:А V} {us:А ah},Z2 xs us->xs.all Y2=aC->us.any (V7 x)=xs.any λy=>Pu y x
 |_,_,.nil,_=>rfl
 |y::xs,u::us,.cons r t,f=>by K[List.all_cons,Bool.and_eq_true]at f;K[List.any_cons,List.any_cons,Zdj r f.1,Rn t f.2]
ЛCg{A:dh}{s:am}{x:V}{v:ah}(rx:Zy x v)(fx:Y2 x=aC):∀{xs:А V} {us:А ah},Z2 xs us->xs.all Y2=aC->∀u∈us,SeqAt.EqAt A s u v (V7 x u)
 |_,_,.nil,_=>λu hu=>by C hu
 |y::xs,u::us,.cons r t,f=>λu' hu=>by
  K[List.all_cons,Bool.and_eq_true]at f;J bx.mp hu with rfl|hu
  ·K[Zdj r f.1];E Zdi r rx f.1 fx
  ·E Cg rx fx t f.2 u' hu
МinV(x:V)(xs:А V):Bool:=xs.any λy=>Pu y x
МrIn(K:ad)(neg:Bool):R2:=λx y H Q=>∃p xs,y= .ref p/\(W5 K H p xs\/Ob K H p xs)/\Y2 x=aC/\xs.all Y2=aC/\Q (.bl (if neg then !inV x xs else inV x xs)) H
ЛZbj:Cf X (g9 .In) (rIn X.K aD):=by
 I pins s σ H x y v u Q I rx ry h;O⟨p,xs,rfl,hq,fx,fs,q⟩:=h;C ry;J hq with hq|hq
 ·O⟨its,r,pl,hz⟩:=I.list hq;R SeqAt.in_listAt (V7 x) pl.isList (λw hw=>Cg rx fx r fs w (by L hw)) ⟨.bl _,H,I,rfl,?_⟩;K[show its.toArray.any (V7 x)=its.any (V7 x) by simp,Rn r fs];E q
 ·O⟨its,r,pl,hz⟩:=I.tuple hq;R SeqAt.in_tupleAt (V7 x) pl (λw hw=>Cg rx fx r fs w (by L hw)) ⟨.bl _,H,I,rfl,?_⟩;K[show its.toArray.any (V7 x)=its.any (V7 x) by simp,Rn r fs];E q
ЛLr:Cf X (g9 .NotIn) (rIn X.K aC):=by
 I pins s σ H x y v u Q I rx ry h;O⟨p,xs,rfl,hq,fx,fs,q⟩:=h;C ry;J hq with hq|hq
 ·O⟨its,r,pl,hz⟩:=I.list hq;R SeqAt.notIn_listAt (V7 x) pl.isList (λw hw=>Cg rx fx r fs w (by L hw)) ⟨.bl _,H,I,rfl,?_⟩;K[show its.toArray.any (V7 x)=its.any (V7 x) by simp,Rn r fs];E q
 ·O⟨its,r,pl,hz⟩:=I.tuple hq;R SeqAt.notIn_tupleAt (V7 x) pl (λw hw=>Cg rx fx r fs w (by L hw)) ⟨.bl _,H,I,rfl,?_⟩;K[show its.toArray.any (V7 x)=its.any (V7 x) by simp,Rn r fs];E q
ЛLs:Cf X (g9 .NotIn) (λx y H Q=>∃i j,x= .str i/\y= .str j/\Q (.bl (!(!(dj j i 0 j.length 1).isEmpty))) H):=by I pins s σ H x y v u Q I rx ry h;O⟨i,j,rfl,rfl,q⟩:=h;O⟨t,rfl⟩:=rx;O⟨t',rfl⟩:=ry;E notIn_str ⟨.bl _,H,I,rfl,q⟩
ЛLu:Jo X (.builtin "len") (λxs H Q=>∃p ys,xs=[.ref p]/\(W5 X.K H p ys\/Ob X.K H p ys)/\Q (.int ys.length) H):=by
 I pins s σ H xs us Q I r h;O⟨p,ys,rfl,hq,q⟩:=h;O⟨u,rfl,rx⟩:=Oc r;C rx;V hn:=Mf;J hq with hq|hq
 ·O⟨its,r',pl,hz⟩:=I.list hq;V hlen:=r'.length;E Calls.call_len_list pl.isList (by simp only[bq]<;> W) ⟨.int ys.length,H,I.tok _,⟨s.toks+1,by K[bq,hlen]⟩,q⟩
 ·O⟨its,r',pl,hz⟩:=I.tuple hq;V hlen:=r'.length;E len_tuple pl (by simp only[bq]<;> W) ⟨.int ys.length,H,I.tok _,⟨s.toks+1,by K[bq,hlen]⟩,q⟩
ЛLv:Jo X (.builtin "len") (λxs H Q=>∃z,xs=[.str z]/\z.length<=sizeLine/\Q (.int z.length) H):=by I pins s σ H xs us Q I r h;O⟨z,rfl,hz,q⟩:=h;O⟨u,rfl,t,rfl⟩:=Oc r;V hn:=Mf;E len_str И ⟨.int z.length,H,I.tok _,⟨_,rfl⟩,q⟩
ЛJo.or{f:ah}{r r':А V->Hp->VK->В}(h:Jo X f r)(h':Jo X f r'):Jo X f (λxs H Q=>r xs H Q\/r' xs H Q):=by
 I pins s σ H xs us Q I rs q;J q with q|q
 ·E h pins s σ H xs us Q I rs q
 ·E h' pins s σ H xs us Q I rs q
ЛIv:Jo X (.type "tuple") (λxs H Q=>∃p ys,xs=[.ref p]/\((W5 X.K H p ys/\∀l,H l=aB->Q (.ref l) (Z9 H l (.tup ys)))\/(Ob X.K H p ys/\Q (.ref p) H))):=by
 I pins s σ H xs us Q I r h;O⟨p,ys,rfl,h⟩:=h;O⟨u,rfl,rx⟩:=Oc r;C rx;J h with⟨hq,q⟩|⟨hq,q⟩
 ·O⟨its,r',pl,hz⟩:=I.list hq;V hlen:=r'.length;R call_tuple_list pl.isList (λh' kp=>?_) (by simp only[bq]<;> W);V I1:Inv X pins σ H {s with heap:=h'}:=I.kept (t':=s.toks) kp;V I2:Inv X pins σ (Z9 H h'.objs.size (.tup ys)) {s with heap:=h'.push {cls:=.type "tuple",data:=.seq its.toArray}}:=
   I1.laid (t':=s.toks) (λb o e=>au _ e) (ba _) (show Yj X.prog X.w _ _ _ (.tup ys)from⟨hz,its,r',IsTup.new _ _⟩)
  E⟨.ref h'.objs.size,_,I2,rfl,q _ (I1.hok.fresh (ba _))⟩
 ·O⟨its,r',pl,hz⟩:=I.tuple hq;E call_tuple_same pl ⟨.ref p,H,I,rfl,q⟩
МtyV(K:ad)(T:String)(x:V)(H:Hp):Prop:=match x with
 | .str _=>T="str"
 | .int _=>T="int"
 | .ref p=>(T="list"/\∃xs,W5 K H p xs)\/(T="tuple"/\∃o,K.lookup p=aA o/\o.cls= .type "tuple"/\o.dict=aB)\/
   (T="dict"/\((∃kvs,HK H p kvs)\/∃kvs,HTt H p kvs))\/(T="set"/\∃S n,H p=aA (.set S n))
 |_=>False
ЛZdk{pins:А (aj×Obj)}{σ:St}{H:Hp}{s:am}{T:String}{x:V}{v:ah}(I:Inv X pins σ H s)(r:Zy x v)(ty:tyV X.K T x H):
  s.TypeIs v T/\∀a,v= .ref a->∃ob,s.heap.get? a=aA ob/\ob.dict=aB:=by
 cases x with
 |str z=>O⟨t,rfl⟩:=r;cases(show T="str"from ty);E⟨typeIs_str s z t,λ_ e=>nomatch e⟩
 |int i=>O⟨t,rfl⟩:=r;cases(show T="int"from ty);E⟨typeIs_int s i t,λ_ e=>nomatch e⟩
 |ref p=>
  C r;J ty with⟨rfl,xs,hq⟩|⟨rfl,o,hk,hc,hd⟩|⟨rfl,hk⟩|⟨rfl,S,n,hk⟩
  ·O⟨its,_,pl,_⟩:=I.list hq;R⟨pl.isList.typeIs,λa e=>?_⟩;C e;O⟨o,n,e,c,hd,_⟩:=pl;E⟨o,e,hd⟩
  ·R⟨⟨o,I.kIn p o hk,hc⟩,λa e=>?_⟩;C e;E⟨o,I.kIn _ o hk,hd⟩
  ·V z:∃o,s.heap.get? p=aA o/\o.ExactDict:=by
    J hk with⟨kvs,ep,hk⟩|⟨kvs,ep,bs,hk⟩
    ·O⟨_,_,_,_,o,_,e,ex,_⟩:=I.hok p _ hk;E⟨o,e,ex⟩
    ·O⟨_,_,_,_,o,_,e,ex,_⟩:=I.hok p _ hk;E⟨o,e,ex⟩
   O⟨o,e,ex⟩:=z;R⟨⟨o,e,ex.1⟩,λa e2=>?_⟩;C e2;E⟨o,e,ex.2.1⟩
  ·O⟨o,_,_,_,e,ex,_⟩:=I.hok p _ hk;R⟨⟨o,e,ex.1⟩,λa e2=>?_⟩;C e2;E⟨o,e,ex.2.1⟩
 |_=>E False.elim ty
МZps(K:ad)(T:String)(r:V->А V->Hp->VK->В)(to:TE):TE:=λσ H Q=>to σ H λx H1=>tyV K T x H1/\r x [] H1 Q
МtBM(K:ad)(T:String)(r:V->А V->Hp->VK->В)(to:TE)(t:TA):TE:=λσ H Q=>to σ H λx H1=>tyV K T x H1/\t σ H1 λxs H2=>r x xs H2 Q
variable{o e:cj}{es:А cj}{to:TE}{t:TA}{name:Str}{apos cpos:Pos}{T id:String}{r:V->А V->Hp->VK->В}
ЛZmf(pa:PlainAttrs T)(slot:Slot T name id)(hty:typeOf (.builtin id)=pure (.type "method_descriptor"))(hm:MtR X id r)(ho:PE X o to)
  (hbase:attributeBase o name X.env (gq o X.env)=gq o X.env:=by rfl) (hline:(apos.endLine==cpos.line)=aC:=by rfl):PE X (.Call (.Attribute o name apos) [] [] cpos) (Zps X.K T r to):=by
 I pins s σ H Q I h;R wpAny_Call_method0_late hbase hline (Wp (ho pins s σ H _ I h) λv s1 zq9=>?_);O⟨x,H1,I1,r1,ty,q1⟩:=zq9;O⟨h1,h2⟩:=Zdk I1 r1 ty;E⟨T,id,pa,slot,hty,h1,h2,Calls.callWith_builtin rfl (PySem.evalArgs_none (hm pins s1 σ H1 x [] v [] Q I1 r1 .nil q1))⟩
ЛHz(pa:PlainAttrs T)(slot:Slot T name id)(hty:typeOf (.builtin id)=pure (.type "method_descriptor"))(hm:MtR X id r)(ho:PE X o to)(ha:PA X (e::es) t)
  (hbase:attributeBase o name X.env (gq o X.env)=gq o X.env:=by rfl)
  (hfew:((gr cpos (a9 (e::es) X.env)).all (λx=>!x.1)&&(backToKw cpos (keywordEach [] X.env)).all (λx=>x.1.isSome)
   &&decide ((e::es).length+([]:А Keyword).length+(if([]:А Keyword).isEmpty then 0 else 1)<30))=aC:=by rfl)
  (hline:(apos.endLine==cpos.line)=aC:=by rfl) (hs:a9 (e::es) X.env=(aD,gq e X.env)::a9 es X.env:=by rfl) (hplain:(gr cpos (a9 es X.env)).any (·.1)=aD:=by rfl):
  PE X (.Call (.Attribute o name apos) (e::es) [] cpos) (tBM X.K T r to t):=by
 I pins s σ H Q I h;R wpAny_Call_method_late hbase hfew hline rfl (Wp (ho pins s σ H _ I h) λv s1 zq9=>?_);O⟨x,H1,I1,r1,ty,q1⟩:=zq9;O⟨h1,h2⟩:=Zdk I1 r1 ty;R⟨T,id,pa,slot,hty,h1,h2,?_⟩;V hA:=ha cpos pins s1 σ H1 _ I1 q1;K[hs]at hA⊢;R Calls.callWith_builtin (by show(aD|| (gr cpos (a9 es X.env)).any (·.1))=aD;K[hplain]<;> rfl) (Calls.evalArgs_plain ?_);E Wp hA λus s2 ⟨vs,H2,I2,r2,q2⟩=>hm pins s2 σ H2 x vs v us Q I2 r1 r2 q2
end
МMtM(X:Cx)(id:String)(r:V->А V->Hp->VK->В):Prop:=
 ∀(pins:А (aj×Obj)) (s:am) (σ:St) (H:Hp) (x:V) (xs:А V) (v:ah) (us:А ah) (Q:VK),Inv X pins σ H s->Zy x v->Z2 xs us->r x xs H Q->
  bg (b4 X.prog X.w) X.A (call (.builtin id) (v::us)) (EP X pins σ Q) X.xe s
ЛZ2.one{x:V}{us:А ah}(h:Z2 [x] us):∃u,us=[u]/\Zy x u:=by
 cases h with
 |cons r t=>C t;E⟨_,rfl,r⟩
ЛZ2.zero:∀{us:А ah},Z2 [] us->us=[]
 |_,.nil=>rfl
ЛZ2.dropLast{xs:А V}{us:А ah}(h:Z2 xs us):Z2 xs.dropLast us.dropLast:=by
 induction h with
 |nil=>E .nil
 |cons r t ih=>
  cases t with
  |nil=>E .nil
  |cons q t'=>E .cons r ih
ЛV8{α:Type}(l:А α):l.eraseIdx (l.length- 1)=l.dropLast:=by
 induction l with
 |nil=>rfl
 |cons a r ih=>
  cases r with
  |nil=>rfl
  |cons b r=>
   V e:(a::b::r).length- 1=((b::r).length- 1)+1:=by V h1:(a::b::r).length=r.length+2:=rfl;V h2:(b::r).length=r.length+1:=rfl;W
   K[e,List.eraseIdx_cons_succ,ih]
   all_goals rfl
section
variable{X:Cx}{pins:А (aj×Obj)}{σ:St}{H:Hp}{s:am}{l b:aj}{xs ys zs:А V}
ЛInv.lset{its its':А ah}{n:Г}{f:Array ah->Array ah}{t':Г}(I:Inv X pins σ H s)(hH:H l=aA (.lst xs))
  (e:s.heap.get? l=aA {cls:=.type "list",data:=.seq its.toArray n}) (hf:f its.toArray=its'.toArray) (hv:Z2 ys its') (hz:ys.length<=sizeLine):
  Inv X pins σ (Z9 H l (.lst ys)) {s with heap:=s.heap.update l (di f),toks:=t'}:=by
 V q:=PySem.IsL.update e f;K[hf]at q;R I.write (x:=l) (e:=l) (by K[hH];E trivial) (.inl rfl) (λb' u hb hu=>(Heap.get?_update_other s.heap (di f) (Ne.symm hb)).trans hu) ⟨_,q⟩ ?_;E⟨hz,its',_,hv,q⟩
ЛInv.lnew{its:А ah}{t':Г}(I:Inv X pins σ H s)(hv:Z2 ys its)(hz:ys.length<=sizeLine):
  Inv X pins σ (Z9 H s.heap.objs.size (.lst ys)) {s with heap:=s.heap.push {cls:=.type "list",data:=.seq its.toArray},toks:=t'}:=
 I.laid (λ_ _ q=>au _ q) (ba _) ⟨hz,its,0,hv,bp _ rfl⟩
ЛInv.fresh(I:Inv X pins σ H s):H s.heap.objs.size=aB:=I.hok.fresh (ba _)
ЛInv.lstM(I:Inv X pins σ H s)(hH:H l=aA (.lst xs)):xs.length<=sizeLine/\∃(its:А ah) (n:Г),Z2 xs its/\xs.length=its.length/\s.heap.get? l=aA {cls:=.type "list",data:=.seq its.toArray n}:=by O⟨z,its,n,r,e⟩:=I.hok l _ hH;E⟨z,its,n,r,r.length,e⟩
ЛZdl{n:Г}(h:n<=sizeLine):Builtin.List.listTooLong n=aD:=by U Builtin.List.listTooLong;EЖ И
end
section
variable{X:Cx}
МBk:V->А V->Hp->VK->Prop:=λx vs H Q=>∃l xs y,x= .ref l/\vs=[y]/\H l=aA (.lst xs)/\xs.length<sizeLine/\Q .non (Z9 H l (.lst (xs++[y])))
ЛMg:MtM X "list.append" Bk:=by I pins s σ H x vs v us Q I rx rv h;O⟨l,xs,y,rfl,rfl,hH,hz,q⟩:=h;C rx;O⟨u,rfl,ru⟩:=rv.one;O⟨z,its,n,r,hl,e⟩:=I.lstM hH;R call_meets F.slot_list_append ⟨_,e,rfl⟩ F.entry_list_append (F.args_list_append_2 _ _) (PySem.list_append l its.toArray n u (by K[bq];W)) ⟨e,?_⟩;R⟨.non,_,I.lset (its':=its++[u]) hH e К (r.append (.cons ru .nil)) ?_,rfl,q⟩;K[aw,f8];W
МZs2:V->А V->Hp->VK->Prop:=λx vs H Q=>∃l b xs zs,x= .ref l/\vs=[.ref b]/\H l=aA (.lst xs)/\H b=aA (.lst zs)/\xs.length+zs.length<=sizeLine/\Q .non (Z9 H l (.lst (xs++zs)))
МZpt:V->А V->Hp->VK->Prop:=λx vs H Q=>∃l xs y,x= .ref l/\vs=[]/\H l=aA (.lst xs)/\xs[xs.length- 1]? =aA y/\Q y (Z9 H l (.lst xs.dropLast))
ЛZmg:MtM X "list.pop" Zpt:=by
 I pins s σ H x vs v us Q I rx rv h;O⟨l,xs,y,rfl,rfl,hH,hy,q⟩:=h;C rx;V hus:=rv.zero;Q hus;O⟨z,its,n,r,hl,e⟩:=I.lstM hH;O⟨u,hu,ru⟩:=r.get hy;V hy':its.toArray[its.toArray.size- 1]? =aA u:=by T its.toArray[its.length- 1]? =aA u;K[<-c9,<-hl];E hu
 R call_meets F.slot_list_pop ⟨_,e,rfl⟩ F.entry_list_pop (F.args_list_pop_1 _) (MeetsSeq.list_pop_last l its.toArray n u hy' (by K[bq];W)) ⟨e,?_⟩;R⟨y,_,I.lset (its':=its.dropLast) hH e ?_ r.dropLast ?_,ru,q⟩
 ·T its.toArray.eraseIdxIfInBounds (its.toArray.size- 1)=its.dropLast.toArray;K[bq,List.eraseIdxIfInBounds_toArray,V8]
 ·K[List.length_dropLast];W
МZul:V->А V->Hp->VK->Prop:=λx vs H Q=>∃l xs i k y,x= .ref l/\vs=[.int i]/\H l=aA (.lst xs)/\-(2^63)<=i/\i<2^63/\seqIndex? i xs.length=aA k/\xs[k]? =aA y/\Q y (Z9 H l (.lst (xs.eraseIdx k)))
МZpu:V->А V->Hp->VK->Prop:=λx vs H Q=>∃l xs,x= .ref l/\vs=[]/\H l=aA (.lst xs)/\Q .non (Z9 H l (.lst xs.reverse))
МZum:V->А V->Hp->VK->Prop:=λx vs H Q=>∃l xs,x= .ref l/\vs=[]/\H l=aA (.lst xs)/\Q .non (Z9 H l (.lst []))
МZzv:R2:=λx y H Q=>∃l b xs zs,x= .ref l/\y= .ref b/\H l=aA (.lst xs)/\H b=aA (.lst zs)/\xs.length+zs.length<=sizeLine/\∀p,H p=aB->Q (.ref p) (Z9 H p (.lst (xs++zs)))
МZzw:R2:=λx y H Q=>∃l k xs,x= .ref l/\y= .int k/\H l=aA (.lst xs)/\-(2^63)<=k/\k<2^63/\xs.length*k.toNat<=sizeLine/\
 ∀p,H p=aB->Q (.ref p) (Z9 H p (.lst (dn k.toNat xs).flatten))
end
section
variable{κ:Type}[DecidableEq κ]
МQd(kvs:А (κ×V))(k:κ):Б V:=(kvs.find? λkv=>decide (kv.1=k)).map (·.2)
МQe(kvs:А (κ×V))(k:κ)(v:V):А (κ×V):=
 if(kvs.any λkv=>decide (kv.1=k))=aC then kvs.map (λkv=>if kv.1=k then(kv.1,v)else kv)else kvs++[(k,v)]
МZdm(kvs:А (κ×V))(k:κ):А (κ×V):=kvs.filter λkv=>decide (kv.1≠k)
ЛZdn{k:κ}:Qd ([]:А (κ×V)) k=aB:=rfl
ЛO6{p:κ×V}{r:А (κ×V)}{k:κ}(e:p.1=k):Qd (p::r) k=aA p.2:=by simp[Qd,List.find?_cons,e]
ЛUq{p:κ×V}{r:А (κ×V)}{k:κ}(e:¬p.1=k):Qd (p::r) k=Qd r k:=by simp[Qd,List.find?_cons,e]
ЛAe(k:κ):∀kvs:А (κ×V),(kvs.any λkv=>decide (kv.1=k))=(Qd kvs k).isSome
 | []=>rfl
 |p::r=>by
  K[List.any_cons];B e:p.1=k
  ·simp only[O6 e,decide_eq_true e,Bool.true_or,Option.isSome_some]
  ·K[Uq e,Ж e,Bool.false_or];E Ae k r
ЛCh(kvs:А (κ×V))(k:κ)(v:V):(Qe kvs k v).length<=kvs.length+1:=by
 U Qe;split
 ·K[aq];W
 ·K[aw,bf,List.length_nil];W
ЛTi.isSome_eq{o:Б V}{u:Б ah}(r:Ti o u):o.isSome=u.isSome:=by
 cases o with
 |none=>cases u with
  |none=>rfl
  |some _=>E(show False from r).elim
 |some _=>cases u with
  |none=>E(show False from r).elim
  |some _=>rfl
ЛKV.val{kvs:А (κ×V)}{vs:А (κ×ah)}(r:KV kvs vs)(k:κ):Ti (Qd kvs k) (valueAt vs k):=by
 U KV at r;induction r with
 |nil=>E True.intro
 | @cons p q ps qs h t ih=>
  O⟨h1,h2⟩:=h;B e:p.1=k
  ·V e':q.1=k:=h1.symm.trans e;V b:valueAt (q::qs) k=aA q.2:=by simp[valueAt,List.find?_cons,e']
   K[O6 e,b];E h2
  ·V e':¬q.1=k:=λz=>e (h1.trans z);V b:valueAt (q::qs) k=valueAt qs k:=by simp[valueAt,List.find?_cons,e']
   K[Uq e,b];E ih
ЛKV.any{kvs:А (κ×V)}{vs:А (κ×ah)}(r:KV kvs vs)(k:κ):(kvs.any λkv=>decide (kv.1=k))=vs.any λkv=>decide (kv.1=k):=by
 U KV at r;induction r with
 |nil=>rfl
 |cons h t ih=>K[List.any_cons,List.any_cons,ih,h.1]
ЛKV.repl{kvs:А (κ×V)}{vs:А (κ×ah)}(r:KV kvs vs)(k:κ){y:V}{u:ah}(ry:Zy y u):
  KV (kvs.map λkv=>if kv.1=k then(kv.1,y)else kv) (vs.map λkv=>if kv.1=k then(kv.1,u)else kv):=by
 U KV at r⊢;induction r with
 |nil=>E .nil
 | @cons p q ps qs h t ih=>
  K[bc,bc];R .cons ?_ ih;O⟨h1,h2⟩:=h;B e:p.1=k
  ·K[Е e,Е (h1.symm.trans e)];E⟨h1,ry⟩
  ·K[Д e,Д (λz=>e (h1.trans z))];E⟨h1,h2⟩
ЛKV.put{kvs:А (κ×V)}{vs:А (κ×ah)}(r:KV kvs vs)(k:κ){y:V}{u:ah}(ry:Zy y u):KV (Qe kvs k y) (stored vs k u):=by
 U Qe stored;K[r.any k];B e:(vs.any λkv=>decide (kv.1=k))=aC
 ·K[Е e,Е e];E r.repl k ry
 ·K[Д e,Д e];E Paired.snoc r ⟨rfl,ry⟩
ЛKV.length{kvs:А (κ×V)}{vs:А (κ×ah)}(r:KV kvs vs):kvs.length=vs.length:=ig r
end
ЛFq{P:b6}{w:c7}{k:Key}{u:ah}(r:Zy (kV k) u):(Zr P w).is k u=aC:=by
 cases k with
 |inl i=>O⟨t,e⟩:=(show∃t,u=Value.int i t from r);Q e;E Pk P w i t
 |inr x=>O⟨t,e⟩:=(show∃t,u=Value.str x t from r);Q e;E Pl P w x t
ЛFr{P:b6}{w:c7}:∀{ks:А Key} {us:А ah},Z2 (ks.map kV) us->ItemsAre (Zr P w) ks us
 | [],_,r=>by K[List.map_nil]at r;C r;E .nil
 |k::ks,_,r=>by
  K[bc]at r;cases r with
  |cons h t=>E .cons (Fq h) (Fr t)
аKT(H:Hp):А (А Key×V)->А (А Key×aj×ah)->Prop:=Paired λp q=>p.1=q.1/\H q.2.1=aA (.tup (p.1.map kV))/\Zy p.2 q.2.2
ЛKT.val{H:Hp}{kvs:А (А Key×V)}{xs:А (А Key×aj×ah)}(r:KT H kvs xs)(k:А Key):Ti (Qd kvs k) ((atKey xs k).map (·.2)):=by
 induction r with
 |nil=>E True.intro
 | @cons p q ps qs h t ih=>
  O⟨h1,_,h2⟩:=h;B e:p.1=k
  ·V e':q.1=k:=h1.symm.trans e;V b:atKey (q::qs) k=aA q.2:=by simp[atKey,List.find?_cons,e']
   K[O6 e,b];E h2
  ·V e':¬q.1=k:=λz=>e (h1.trans z);V b:atKey (q::qs) k=atKey qs k:=by simp[atKey,List.find?_cons,e']
   K[Uq e,b];E ih
ЛKT.repl{H:Hp}{kvs:А (А Key×V)}{xs:А (А Key×aj×ah)}(r:KT H kvs xs)(k:А Key){y:V}{u:ah}(ry:Zy y u):
  KT H (kvs.map λkv=>if kv.1=k then(kv.1,y)else kv) (xs.map (putAt k u)):=by
 induction r with
 |nil=>E .nil
 | @cons p q ps qs h t ih=>
  K[bc,bc];R .cons ?_ ih;O⟨h1,h2,h3⟩:=h;U putAt;B e:p.1=k
  ·K[Е e,Е (h1.symm.trans e)];E⟨h1,h2,ry⟩
  ·K[Д e,Д (λz=>e (h1.trans z))];E⟨h1,h2,h3⟩
ЛKT.put{H:Hp}{kvs:А (А Key×V)}{xs:А (А Key×aj×ah)}(r:KT H kvs xs)(k:А Key){b:aj}{y:V}{u:ah}(hb:H b=aA (.tup (k.map kV)))(ry:Zy y u):
  KT H (Qe kvs k y) (storedH xs k b u):=by
 V e:(kvs.any λkv=>decide (kv.1=k))=(atKey xs k).isSome:=by K[Ae,(r.val k).isSome_eq,Option.isSome_map]
 U Qe storedH;K[e];B q:(atKey xs k).isSome=aC
 ·K[Е q,Е q];E r.repl k ry
 ·K[Д q,Д q];E Paired.snoc r ⟨rfl,hb,ry⟩
ЛKT.keeps{H H':Hp}{kvs:А (А Key×V)}{xs:А (А Key×aj×ah)}(r:KT H kvs xs)(ht:∀b ys,H b=aA (.tup ys)->H' b=aA (.tup ys)):KT H' kvs xs:=
 Paired.mapP r λ_ _ z=>⟨z.1,ht _ _ z.2.1,z.2.2⟩
section
variable{P:b6}{w:c7}{H:Hp}{h:d6}{a:aj}
ЛZdo{u:HO}(ok:Go P w H h)(e:Rd H a u):Yj P w H h a u:=e.ok ok
ЛTc{kvs:А (Key×V)}(ok:Go P w H h)(e:RdK H a kvs):kvs.length<=sizeLine/\(a==sysModules)=aD/\∃vs,KV kvs vs/\h.DictOf (Zr P w) a vs:=
 let⟨ep,e⟩:=e;let⟨z,y,vs,r,d⟩:=(show Yj P w H h a (.dK kvs ep)from Zdo ok e);⟨z,y,vs,r,d.dictOf⟩
ЛZkc{kvs:А (Key×V)}(ok:Go P w H h)(e:HK H a kvs):kvs.length<=sizeLine/\(a==sysModules)=aD/\∃vs,KV kvs vs/\h.DictOf (Zr P w) a vs:=Tc ok e.rd
ЛGz{ks:А Key}(ok:Go P w H h)(e:H a=aA (.tup (ks.map kV))):(tupleKind (Zr P w)).is h ks a:=by
 O⟨_,its,r,o,h1,h2,n,h3⟩:=(show Yj P w H h a (.tup (ks.map kV))from ok a _ e)
 E⟨o,its.toArray,n,h1,h2,h3,by L Fr r⟩
ЛPv{kvs:А (А Key×V)}(ok:Go P w H h)(e:RdT H a kvs):kvs.length<=sizeLine/\(a==sysModules)=aD/\
  ∃xs,KT H kvs xs/\h.DictOfH (tupleKind (Zr P w)) a xs:=by
 O⟨ep,bs,e⟩:=e;O⟨z,y,xs,r,o,es,h1,h2,h3,h4,h5,_⟩:=(show Yj P w H h a (.dT kvs ep bs)from Zdo ok e)
 R⟨z,y,xs,r,o,es,ep,h1,h2,h3,h4,λx hx=>?_,h5⟩;V all:∀{l:А (А Key×V)} {m:А (А Key×aj×ah)},KT H l m->∀x∈m,(tupleKind (Zr P w)).is h x.1 x.2.1:=by
  I l m q;induction q with
  |nil=>intro x hx;E nomatch hx
  | @cons p q ps qs hq t ih=>
   I x hx;J bx.mp hx with e|hx
   ·Q e;E Gz ok (by K[<-hq.1];E hq.2.1)
   ·E ih x hx
 E all r x hx
ЛZpv{kvs:А (А Key×V)}(ok:Go P w H h)(e:HTt H a kvs):kvs.length<=sizeLine/\(a==sysModules)=aD/\
  ∃xs,KT H kvs xs/\h.DictOfH (tupleKind (Zr P w)) a xs:=Pv ok e.rd
end
МUr(H:Hp)(a:aj)(y:V)(r:Б V):Prop:=
 (∃kvs k,RdK H a kvs/\y=kV k/\r=Qd kvs k)\/∃kvs k b,RdT H a kvs/\y= .ref b/\H b=aA (.tup (k.map kV))/\r=Qd kvs k
МAf(H:Hp)(a:aj)(y v:V)(R:Hp->В):Prop:=
 (∃kvs k,HK H a kvs/\y=kV k/\kvs.length<sizeLine/\∀ep,R (Z9 H a (.dK (Qe kvs k v) ep)))\/
 ∃kvs k b,HTt H a kvs/\y= .ref b/\H b=aA (.tup (k.map kV))/\kvs.length<sizeLine/\∀ep ep0 bs,H a=aA (.dT kvs ep0 bs)->R (Z9 H a (.dT (Qe kvs k v) ep (Pn kvs bs k b)))
ЛUr.k{H:Hp}{a:aj}{kvs:А (Key×V)}{k:Key}(e:HK H a kvs):Ur H a (kV k) (Qd kvs k):=.inl ⟨kvs,k,e.rd,rfl,rfl⟩
ЛUr.t{H:Hp}{a b:aj}{kvs:А (А Key×V)}{k:А Key}(e:HTt H a kvs)(eb:H b=aA (.tup (k.map kV))):Ur H a (.ref b) (Qd kvs k):=.inr ⟨kvs,k,b,e.rd,rfl,eb,rfl⟩
ЛAf.k{H:Hp}{a:aj}{kvs:А (Key×V)}{k:Key}{v:V}{R:Hp->В}(e:HK H a kvs)(hl:kvs.length<sizeLine)(h:∀ep,R (Z9 H a (.dK (Qe kvs k v) ep))):Af H a (kV k) v R:=.inl ⟨kvs,k,e,rfl,hl,h⟩
ЛAf.t{H:Hp}{a b:aj}{kvs:А (А Key×V)}{k:А Key}{v:V}{R:Hp->В}(e:HTt H a kvs)(eb:H b=aA (.tup (k.map kV)))(hl:kvs.length<sizeLine)(h:∀ep ep0 bs,H a=aA (.dT kvs ep0 bs)->R (Z9 H a (.dT (Qe kvs k v) ep (Pn kvs bs k b)))):
  Af H a (.ref b) v R:=.inr ⟨kvs,k,b,e,rfl,eb,hl,h⟩
section
variable{X:Cx}{pins:А (aj×Obj)}{σ:St}{H:Hp}{s:am}{a:aj}{y v:V}{u r:ah}{o:Б V}{A:dh}{E:ah->am->В}
ЛInv.big(I:Inv X pins σ H s):sysModules<s.heap.objs.size:=by V h:b7<s.heap.objs.size:=(I.mod.glob.keeps I.bk).lt;E Nat.lt_trans Й h
ЛZbk{Q:ah->am->В}(hu:A.units+1<f6)(I:Inv X pins σ H s)(g:Ur H a y (aA v))(ry:Zy y u)(h:∀w' s',Inv X pins σ H s'->Zy v w'->Q w' s'):
  bg (b4 X.prog X.w) A (getItem (.ref a) u) Q E s:=by
 J g with⟨kvs,k,e,ey,l⟩|⟨kvs,k,b,e,ey,eb,l⟩
 ·Q ey;O⟨z,hd,vs,rel,dd⟩:=Tc I.hok e;O⟨w',hw,rw'⟩:=Ti.some_of (v:=v) (o:=valueAt vs k) (by K[l];E rel.val k);E wpAny_getItem_of (Fq ry) dd.mapOf hw (h w' _ (I.tok _) rw')
 ·Q ey;cases(show u=b8 b from ry);O⟨z,hd,xs,rel,dd⟩:=Pv I.hok e;O⟨w',hw,rw'⟩:=Ti.some_of (v:=v) (o:=(atKey xs k).map (·.2)) (by K[l];E rel.val k);O⟨p,hp,hp2⟩:=cm.mp hw;R wpAny_getItem_heap (tupleKind_room_in1 hu) (Gz I.hok eb) dd hp ?_;K[hp2];E h w' _ (I.tok _) rw'
ЛZun{Q:ah->am->В}(hu:A.units+1<f6)(I:Inv X pins σ H s)(g:Ur H a y o)(ry:Zy y u)(h:∀s',Inv X pins σ H s'->Q (.bool o.isSome) s'):
  bg (b4 X.prog X.w) A (g9 .In u (.ref a)) Q E s:=by
 J g with⟨kvs,k,e,ey,l⟩|⟨kvs,k,b,e,ey,eb,l⟩
 ·Q ey;O⟨z,hd,vs,rel,dd⟩:=Tc I.hok e;R wpAny_in_of (Fq ry) hd dd.mapOf ?_;K[<-(rel.val k).isSome_eq,<-l];E h _ (I.tok _)
 ·Q ey;cases(show u=b8 b from ry);O⟨z,hd,xs,rel,dd⟩:=Pv I.hok e;R wpAny_in_heap (tupleKind_room_in1 hu) (Gz I.hok eb) hd dd ?_;V q:=(rel.val k).isSome_eq;K[Option.isSome_map]at q;K[<-q,<-l];E h _ (I.tok _)
ЛZht{Q:ah->am->В}(hu:A.units+1<f6)(I:Inv X pins σ H s)(g:Ur H a y o)(ry:Zy y u)(h:∀s',Inv X pins σ H s'->Q (.bool (!o.isSome)) s'):
  bg (b4 X.prog X.w) A (g9 .NotIn u (.ref a)) Q E s:=by
 J g with⟨kvs,k,e,ey,l⟩|⟨kvs,k,b,e,ey,eb,l⟩
 ·Q ey;O⟨z,hd,vs,rel,dd⟩:=Tc I.hok e;R wpAny_notIn_of (Fq ry) hd dd.mapOf ?_;K[<-(rel.val k).isSome_eq,<-l];E h _ (I.tok _)
 ·Q ey;cases(show u=b8 b from ry);O⟨z,hd,xs,rel,dd⟩:=Pv I.hok e;R wpAny_notIn_heap (tupleKind_room_in1 hu) (Gz I.hok eb) hd dd ?_;V q:=(rel.val k).isSome_eq;K[Option.isSome_map]at q;K[<-q,<-l];E h _ (I.tok _)
ЛTv{h':d6}{t':Г}{ob:HO}(I:Inv X pins σ H s)(mu:Mut (H a))(hs:io a s.heap h')(he:∃q,h'.get? a=aA q)(new:Yj X.prog X.w (Z9 H a ob) h' a ob):
  Inv X pins σ (Z9 H a ob) {s with heap:=h',toks:=t'}:=
 I.write (x:=a) (e:=a) mu (.inl rfl) (λb q hb z=>(hs.2 b hb).trans z) he new
ЛV9{P:b6}{w:c7}{h':d6}{kvs:А (Key×V)}{vs:А (Key×ah)}(z:kvs.length<=sizeLine)(hd:(a==sysModules)=aD)(rel:KV kvs vs)(dd:h'.DictOf (Zr P w) a vs):
  ∃ep,∀H':Hp,Yj P w H' h' a (.dK kvs ep):=let⟨ep,dd⟩:=dd.dictAt;⟨ep,λ_=>⟨z,hd,vs,rel,dd⟩⟩
ЛZbl{R:Hp->В}{Q:Unit->am->В}(hu:A.units+1<f6)(I:Inv X pins σ H s)(g:Af H a y v R)(ry:Zy y u)(rv:Zy v r)(h:∀H' s',R H'->Inv X pins σ H' s'->Q () s'):
  bg (b4 X.prog X.w) A (setItem (.ref a) u r) Q E s:=by
 J g with⟨kvs,k,e,ey,l,eH⟩|⟨kvs,k,b,e,ey,eb,l,eH⟩
 ·Q ey;O⟨z,hd,vs,rel,dd⟩:=Zkc I.hok e;V hz:vs.length<=sizeLine:=by K[<-rel.length];E z
  V hl:(Qe kvs k v).length<=sizeLine:=by V :=Ch kvs k v;W
  R wpAny_setItem_pairs (hsz:=hz) (Fq ry) dd λh' dd' hs=>?_;V he:∃q,h'.get? a=aA q:=let⟨q,_,_,hq,_⟩:=dd';⟨q,hq⟩
  O⟨ep,ok⟩:=V9 hl hd (rel.put k rv) dd';E h _ _ (eH ep) (Tv I (by O⟨e0,e⟩:=e;K[e];E True.intro) hs he (ok _))
 ·Q ey;cases(show u=b8 b from ry);O⟨z,hd,xs,rel,dd⟩:=Zpv I.hok e;V hz:xs.length<=sizeLine:=by K[<-ig rel];E z
  V hl:(Qe kvs k v).length<=sizeLine:=by V :=Ch kvs k v;W
  R wpAny_setItem_heap (hsz:=hz) (tupleKind_room_in1 hu) (Gz I.hok eb) dd λh' dd' hs=>?_;O⟨q,es,ep,hq,h2,h3,h4,_,h5⟩:=dd';O⟨e0,bs,e⟩:=e;V hb:(xs.map λx=>x.2.1)=bs:=by
   O⟨_,_,xs',r',_,_,w1,_,w3,w4,_,w6⟩:=(show Yj X.prog X.w H s.heap a (.dT kvs e0 bs)from I.hok a _ e)
   O⟨_,_,_,y1,_,y3,y4,_⟩:=dd;K[w1]at y1;C y1;K[w3]at y3;C y3;V :xs'.map (λx=>x.2.1)=xs.map λx=>x.2.1:=by
    V z:=congrArg (List.map DictEntry.key) (w4.symm.trans y4);K[cg,cg]at z;V inj:∀{l m:А (А Key×aj×ah)},l.map (DictEntry.key∘entryOfKey (tupleKind (Zr X.prog X.w)))=m.map (DictEntry.key∘entryOfKey (tupleKind (Zr X.prog X.w)))->(l.map λx=>x.2.1)=m.map λx=>x.2.1:=by
     I l;induction l with
     |nil=>intro m z;cases m with
      |nil=>rfl
      |cons _ _=>C z
     |cons x l ih=>intro m z;cases m with
      |nil=>C z
      |cons y m=>K[bc,bc]at z⊢;injection z with z1 z2;V z1':b8 x.2.1=b8 y.2.1:=z1;injection z1' with z1';K[z1',ih z2]
    E inj z
   K[<-this];E w6
  V hb2:((storedH xs k b r).map λx=>x.2.1)=Pn kvs bs k b:=by
   V ee:(kvs.any λkv=>decide (kv.1=k))=(atKey xs k).isSome:=by K[Ae,(rel.val k).isSome_eq,Option.isSome_map]
   U Pn storedH;K[ee];B qq:(atKey xs k).isSome=aC
   ·K[Е qq,Е qq,cg,<-hb];R List.map_congr_left λx _=>?_;show(putAt k r x).2.1=x.2.1;U putAt;split<;> rfl
   ·K[Д qq,Д qq,b9,hb];rfl
  R h _ _ (eH ep e0 bs e) (Tv I (by K[e];E True.intro) hs ⟨q,hq⟩ ⟨hl,hd,_,(rel.put k eb rv).keeps λc ys ec=>?_,q,es,hq,h2,h3,h4,h5,hb2⟩);K[Zw (T9 ec e (λz=>nomatch z))];E ec
end
МZmh(i:cj):Prop:=∀ov iv,subscripted i aD ov iv=operate [ov,iv] (getItem ov iv)
ЛDa{prog:b6}{w:c7}{A:dh}{E:ah->am->В}{s:am}{env:Env}{value slice:cj}{pos:Pos}{T id:String}{Q:ah->am->В}
  (hl:typeLookup (.type T) "__getitem__"=pure (aA (.builtin id))) (hs:Zmh slice)
  (h:bg (b4 prog w) A (gq value env) (λo s₁=>bg (b4 prog w) A (gq slice env) (λi s₂=>s₂.TypeIs o T/\bg (b4 prog w) A (getItem o i) Q E s₂) E s₁) E s):
  bg (b4 prog w) A (gq (.Subscript value slice pos) env) Q E s:=by
 R Subscript_ (wpAny_mono h (λo s₁ h₁=>wpAny_mono h₁ (λi s₂ h₂=>?_) λ_ _ x=>x) λ_ _ x=>x);O⟨hT,h₂⟩:=h₂;U subscriptTail;R ac ?_;K[getitemInPython_of_ne hT.not_modules];R ac (wpAny_specialOf hT hl ?_);V fin:bg (b4 prog w) A (subscripted slice aD o i) (λr s₃=>bg (b4 prog w) A (letTemporaryGo value o r >>=λ_=>pure r) Q E s₃) E s₂:=by K[hs o i];E wpAny_operating (wpAny_mono h₂ (λr s₃ h₃=>ac (wpAny_letTemporaryGo (ag h₃))) λ_ _ x=>x)
 first
  |E ag (ac fin)
  |E ac (ag (ac fin))
  |E ac fin
ЛPw{X:Cx}{pins:А (aj×Obj)}{σ:St}{H:Hp}{s:am}{a:aj}{y:V}{o:Б V}(I:Inv X pins σ H s)(g:Ur H a y o):s.TypeIs (.ref a) "dict":=by
 J g with⟨kvs,k,e,_,_⟩|⟨kvs,k,b,e,_,_,_⟩
 ·O⟨_,_,vs,_,dd⟩:=Tc I.hok e;E dd.typeIs
 ·O⟨_,_,xs,_,dd⟩:=Pv I.hok e;E dd.typeIs
МZkd(td ty:TE):TE:=λσ H Q=>td σ H λx H1=>ty σ H1 λy H2=>∃a v,x= .ref a/\Ur H2 a y (aA v)/\Q v H2
МZzx(ty td:TE):TE:=λσ H Q=>ty σ H λy H1=>td σ H1 λx H2=>∃a o,x= .ref a/\Ur H2 a y o/\Q (.bl o.isSome) H2
МZs3(ty td:TE):TE:=λσ H Q=>ty σ H λy H1=>td σ H1 λx H2=>∃a o,x= .ref a/\Ur H2 a y o/\Q (.bl (!o.isSome)) H2
МZdp(td ty tv:TE):TS:=λD σ H=>tv σ H λv H1=>td σ H1 λx H2=>ty σ H2 λy H3=>∃a,x= .ref a/\Af H3 a y v (D.nx σ)
МZxl(td ty tv:TE)(rd:V->V->Hp->VK->В):TS:=λD σ H=>td σ H λx H1=>ty σ H1 λy H2=>∃a v,x= .ref a/\Ur H2 a y (aA v)/\
 tv σ H2 λy2 H3=>rd v y2 H3 λz H4=>Af H4 a y z (D.nx σ)
МZxm(td ty:TE):TS:=λD σ H=>td σ H λx H1=>ty σ H1 λy H2=>∃a kvs k,x= .ref a/\HK H2 a kvs/\y=kV k/\(Qd kvs k).isSome=aC/\∀ep,D.nx σ (Z9 H2 a (.dK (Zdm kvs k) ep))
section
variable{X:Cx}{o i e value:cj}{pos pos' tpos:Pos}{td ty tv:TE}
ЛZhu(hu:X.A.units+1<f6)(ho:PE X o td)(hi:PE X i ty)(hs:Zmh i):PE X (.Subscript o i pos) (Zkd td ty):=by I pins s σ H Q I h;R Da PySem.F.slot_dict_getitem.lookup hs (Wp (ho pins s σ H _ I h) λu s1 ⟨x,H1,I1,rx,q1⟩=>Wp (hi pins s1 σ H1 _ I1 q1) λiv s2 zq9=>?_);O⟨y,H2,I2,ry,a,v,ex,g,q2⟩:=zq9;Q ex;obtain rfl:u=b8 a:=rx;E⟨Pw I2 g,Zbk hu I2 g ry λw' s3 I3 rw'=>⟨v,H2,I3,rw',q2⟩⟩
ЛDb(hu:X.A.units+1<f6)(ho:PE X o td)(hi:PE X i ty)(hv:PE X value tv)(hs:swapsWith value (aA (.Subscript o i pos')) pos.line X.env=pure aD):
  PS X (.Assign [.Subscript o i pos'] value pos) (Zdp td ty tv):=by
 I pins s σ H D I h;R wpAny_Assign_Subscript (Wp (hv pins s σ H _ I h) λr s1 ⟨v,H1,I1,rv,q1⟩=>Wp (ho pins s1 σ H1 _ I1 q1) λu s2 ⟨x,H2,I2,rx,q2⟩=>Wp (hi pins s2 σ H2 _ I2 q2) λiv s3 ⟨y,H3,I3,ry,a,ex,g⟩=>?_) hs;Q ex;obtain rfl:u=b8 a:=rx;E Zbl hu I3 g ry rv λH4 s4 q3 I4=>⟨σ,H4,I4,q3⟩
end
ЛPx{P:b6}{w:c7}{H:Hp}(h:d6)(hb:sysModules<h.objs.size):Yj P w H (h.push {cls:=.type "dict",data:=.dict #[]}) h.objs.size (.dK [] 0):=
 ⟨f7 _,beq_eq_false_iff_ne.mpr (Ne.symm (cf hb)),[],.nil,_, #[],bp _ rfl,⟨rfl,rfl,rfl⟩,rfl,λ_ he=>by simp at he,Pairs.nil,df⟩
МAg:TE:=λ_ H Q=>∀p,H p=aB->Q (.ref p) (Z9 H p (.dK [] 0))
МZuo:TE:=λ_ H Q=>∀p,H p=aB->Q (.ref p) (Z9 H p (.dT [] 0 []))
section
variable{X:Cx}{pos:Pos}
ЛRo:PE X (.Dict [] [] pos) Ag:=λpins s σ H Q I h=>
 wpAny_Dict_empty ⟨.ref s.heap.objs.size,_,I.laid (a:=s.heap.objs.size) (o:=.dK [] 0) (t':=s.toks) (λ_ _ q=>au _ q) (ba _) (Px s.heap I.big),rfl,h _ (I.hok.fresh (ba _))⟩
end
МLw:А (TE×TE)->St->Hp->(А (V×V)->Hp->В)->В
  | [],_,H,Q=>Q [] H
  | (tk,tv)::r,σ,H,Q=>tk σ H λx H1=>tv σ H1 λy H2=>Lw r σ H2 λps H3=>Q ((x,y)::ps) H3
аVV:А (V×V)->А (ah×ah)->Prop:=Paired λp q=>Zy p.1 q.1/\Zy p.2 q.2
МPPs(X:Cx)(pos:Pos)(keys:А (Б cj))(values:А cj)(trs:А (TE×TE)):Prop:=
 ∀(pins:А (aj×Obj)) (s:am) (σ:St) (H:Hp) (Q:А (V×V)->Hp->В),Inv X pins σ H s->Lw trs σ H Q->
  bg (b4 X.prog X.w) X.A (evalPairs (pairTrees keys values X.env pos)) (λvs s'=>∃ps H',Inv X pins σ H' s'/\VV ps vs/\Q ps H') X.xe s
ЛZhv{X:Cx}{pos:Pos}:PPs X pos [] [] []:=λpins s σ H Q I h=>pairTrees_nil_walk ⟨[],H,I,.nil,h⟩
ЛZdq{X:Cx}{pos:Pos}{k v:cj}{ks:А (Б cj)}{vs:А cj}{tk tv:TE}{trs:А (TE×TE)}(hk:PE X k tk)(hv:PE X v tv)(hr:PPs X pos ks vs trs):
  PPs X pos (aA k::ks) (v::vs) ((tk,tv)::trs):=λpins s σ H Q I h=>
 pairTrees_cons_walk (Wp (hk pins s σ H _ I h) λu s1 ⟨x,H1,I1,rx,q1⟩=>Wp (hv pins s1 σ H1 _ I1 q1) λw2 s2 ⟨y,H2,I2,ry,q2⟩=>
  Wp (hr pins s2 σ H2 _ I2 q2) λws s3 ⟨ps,H3,I3,rel,q3⟩=>⟨(x,y)::ps,H3,I3,.cons ⟨rx,ry⟩ rel,q3⟩)
МOn(kvs more:А (Key×V)):А (Key×V):=more.foldl (λacc kv=>Qe acc kv.1 kv.2) kvs
ЛKV.merge:∀{more:А (Key×V)} {rs:А (Key×ah)} {kvs:А (Key×V)} {vs:А (Key×ah)},KV more rs->KV kvs vs->KV (On kvs more) (merged vs rs):=by
 I more rs kvs vs r;U KV at r;induction r generalizing kvs vs with
 |nil=>intro q;E q
 | @cons p q ps qs h t ih=>
  I r0;V e:KV (Qe kvs p.1 p.2) (stored vs q.1 q.2):=by V :=r0.put p.1 h.2;K[<-h.1];E this
  E ih e
ЛGp:∀(more kvs:А (Key×V)),(On kvs more).length<=kvs.length+more.length
 | [],kvs=>by T kvs.length<=kvs.length+0;W
 |p::r,kvs=>by V h1:=Gp r (Qe kvs p.1 p.2);V h2:=Ch kvs p.1 p.2;show(On (Qe kvs p.1 p.2) r).length<=_;K[bf];W
ЛAh{P:b6}{w:c7}:∀{kvs:А (Key×V)} {ws:А (ah×ah)},VV (kvs.map λkv=>(kV kv.1,kv.2)) ws->∃rs,Carries (Zr P w) ws rs/\KV kvs rs
 | [],_,r=>by K[List.map_nil]at r;C r;E⟨[],True.intro,.nil⟩
 |p::kvs,_,r=>by
  K[bc]at r;cases r with
  | @cons a b as bs h t=>O⟨rs,c,q⟩:=Ah (P:=P) (w:=w) t;O⟨b1,b2⟩:=b;E⟨(p.1,b2)::rs,⟨Fq h.1,rfl,c⟩,.cons ⟨rfl,h.2⟩ q⟩
МZxn(trs:А (TE×TE)):TE:=λσ H Q=>∀p,H p=aB->Lw trs σ (Z9 H p (.dK [] 0)) λps H2=>H2 p=aA (.dK [] 0)/\∃kvs:А (Key×V),ps=kvs.map (λkv=>(kV kv.1,kv.2))/\kvs.length<=15/\∀ep,Q (.ref p) (Z9 H2 p (.dK (On [] kvs) ep))
structure M1(X:Cx)(o:cj)(m:Str)(apos:Pos)(e:cj)(cpos:Pos):В where
 base:attributeBase o m X.env (gq o X.env)=gq o X.env
 few:((gr cpos (a9 [e] X.env)).all (λx=>!x.1)&&(backToKw cpos (keywordEach [] X.env)).all (λx=>x.1.isSome)
  &&decide (([e]:А cj).length+([]:А Keyword).length+(if([]:А Keyword).isEmpty then 0 else 1)<30))=aC
 line:(apos.endLine==cpos.line)=aC
 trees:gr cpos (a9 [e] X.env)=[(aD,gq e X.env)]
structure M2(X:Cx)(o:cj)(m:Str)(apos:Pos)(e f:cj)(cpos:Pos):В where
 base:attributeBase o m X.env (gq o X.env)=gq o X.env
 few:((gr cpos (a9 [e,f] X.env)).all (λx=>!x.1)&&(backToKw cpos (keywordEach [] X.env)).all (λx=>x.1.isSome)
  &&decide (([e,f]:А cj).length+([]:А Keyword).length+(if([]:А Keyword).isEmpty then 0 else 1)<30))=aC
 line:(apos.endLine==cpos.line)=aC
 trees:gr cpos (a9 [e,f] X.env)=[(aD,gq e X.env),(aD,gq f X.env)]
МIsD(H:Hp)(a:aj):Prop:=(∃kvs,RdK H a kvs)\/∃kvs,RdT H a kvs
МZup(td ty:TE):TE:=λσ H Q=>td σ H λx H1=>∃a,x= .ref a/\IsD H1 a/\ty σ H1 λy H2=>∃o,Ur H2 a y o/\Q (o.getD .non) H2
МZuq(td ty tx:TE):TE:=λσ H Q=>td σ H λx H1=>∃a,x= .ref a/\IsD H1 a/\ty σ H1 λy H2=>tx σ H2 λz H3=>∃o,Ur H3 a y o/\Q (o.getD z) H3
МZur(td ty:TE):TE:=λσ H Q=>td σ H λx H1=>∃a,x= .ref a/\IsD H1 a/\ty σ H1 λy H2=>∃kvs k v,HK H2 a kvs/\y=kV k/\Qd kvs k=aA v/\∀ep,Q v (Z9 H2 a (.dK (Zdm kvs k) ep))
МZus(td ty tx:TE):TE:=λσ H Q=>td σ H λx H1=>∃a,x= .ref a/\IsD H1 a/\ty σ H1 λy H2=>tx σ H2 λz H3=>∃kvs k,HK H3 a kvs/\y=kV k/\
 (∀v ep,Qd kvs k=aA v->Q v (Z9 H3 a (.dK (Zdm kvs k) ep)))/\(Qd kvs k=aB->Q z H3)
section
variable{X:Cx}{pins:А (aj×Obj)}{σ:St}{H:Hp}{s:am}{a:aj}{kvs:А (Key×V)}{A:dh}{E:ah->am->В}
ЛZdr{Q:ah->am->В}(I:Inv X pins σ H s)(e:RdK H a kvs)(h:∀p ep s',H p=aB->Inv X pins σ (Z9 H p (.dK kvs ep)) s'->Q (.ref p) s'):bg (b4 X.prog X.w) A (call (.type "dict") [.ref a]) Q E s:=by O⟨z,hd,vs,rel,dd⟩:=Tc I.hok e;R kt_call_dict hd dd (by K[<-rel.length];E z) λh' dd' hs=>?_;O⟨ep,ok⟩:=V9 z (beq_eq_false_iff_ne.mpr (Ne.symm (cf I.big))) rel dd';R h _ ep _ (I.hok.fresh (ba _)) (I.laid (a:=s.heap.objs.size) (o:=.dK kvs ep) (t':=s.toks) (λb q hq=>?_) (ba _) (ok _));E(hs.2 b (cf (bo hq))).trans (au _ hq)
end
end L2
namespace Att
open PySem PySem.W PySem.Calls PyProof.Rows
ЛTj{P:Params}{h:d6}:∀(ns:А Int) (vs:А ah),WellAll P h vs (ns.map WData.int)->IntsAre vs ns:=by
 I ns;induction ns with
 |nil=>intro vs w;K[List.map_nil]at w;C w;E .nil
 |cons n ns ih=>
  I vs w;K[bc]at w;cases w with
  |cons a b=>C a;E .cons _ _ (ih _ b)
ЛZbm{l:OpenLaw}{n:Г}(hn:l.most=aA n){P:Params}{h:d6}{args:А WData}{vals:А ah}
  (hpre:l.row.toRowW.claim.pre args=aC) (hwl:WellAll P h vals args):
  ∃a vs ns,vals=[b8 a]/\args=[WData.list (ns.map WData.int)]/\h.get? a=aA {cls:=.type "list",data:=.seq vs.toArray}/\IntsAre vs ns/\ns.length<=n:=by
 V hsh:WShape.hasAll [] args [.list .int]=aC:=(pre_splitW hpre).1;V hc:l.pre.holds [] {args:=args}=aC:=(pre_splitW hpre).2;O⟨d,r,rfl,h1,h2⟩:=hasAllW_cons hsh;obtain rfl:=hasAllW_nil h2;O⟨xs,rfl,h3⟩:=hasW_list h1;O⟨ns,rfl⟩:=items_int h3;V hlen:ns.length<=n:=by
  U OpenLaw.pre at hc;V h4:(WTm.not (.lt (.lit (.int (n:Int))) (.len (.arg 0)))).holds [] {args:=[.list (ns.map .int)]}=aC:=by V h4:=(holds_andW hc).1;K[hn]at h4;E h4
  V h5:=condW_of h4 (w_not (w_lt w_lit (w_len_list (w_arg rfl))));K[aq]at h5;R Nat.le_of_not_lt λq=>?_;V q':(n:Int)<((ns.length:Г):Int):=by W
  first
   | (K[decide_eq_true q']at h5;E absurd h5 Й)
   | (simp at h5;W)
 cases hwl with
 |cons w1 w2=>
  C w2;cases w1 with
  |list ho hall=>E⟨_,_,ns,rfl,rfl,ho,Tj ns _ hall,hlen⟩
ЛZbn(l:OpenLaw)(args:А WData):l.row.toRowW.claim.post args (.bool aC) args=aC:=
 postW_of (r:=l.row.toRowW) (X:=(aC==aC))
  (show WShape.has [] (.bool aC) .bool=aC by first|rfl|decide|simp[WShape.has,WShape.arms,WShape.armsAll])
  (show(WTm.eq .res (.lit (.bool aC))).value [] {args:=args,res:=aA (.bool aC),after:=args}=aA (.bool (aC==aC))from w_eq_bool (w_res rfl) w_lit) rfl
Лattach_call{l:OpenLaw}{n:Г}{q:b6}{loose:А Str}{XP:(Str->Б ah)->d6->В}{YP:c7->d6->В}{d:DefRec}
  (hn:l.most=aA n) (hdf:d.params.defaults=[])
  (call:∀(w:c7) (s₀ s₁:am) (mg mb:Str->Б ah) (fa:aj) (o:Obj) (pm cd doc:ah) (a:aj) (vs:А ah) (ns:А Int),
   Ground q loose [] XP w s₀ mg mb s₁.heap->YP w s₁.heap->
   s₁.heap.get? fa=aA o->o.data= .func (docDef d.name d.params d.body d.scope pm cd doc)->s₁.heap.CodeRec cd d.name->mg d.name=aA (.ref fa)->
   s₁.heap.get? a=aA {cls:=.type "list",data:=.seq vs.toArray}->IntsAre vs ns->ns.length<=n->s₁.gens= #[]->
   codeAny (b4 l.prog w) callerA (.call (.ref fa) ⟨[.ref a],[]⟩) (λr s'=>r= .ok (.ret (.bool aC))/\OldK s₁.heap s'.heap/\s'.os=s₁.os/\AllBare s'.gens) s₁):
  WalkO q loose XP YP l.row.toRowW d [] (λf vs=>PySem.call f vs):=by
 I w s₀ s₁ mg mb G Y fa o pm cd doc dV kV ho hd hcd hD hmg hg args vals as hpre hlay hrd hwl hlo;obtain rfl:dV= .none:=Dflts.none hD hdf;obtain rfl:kV= .none:=Dflts.noKw hD;O⟨a,vs,ns,rfl,rfl,hobj,hints,hlen⟩:=Zbm hn hpre hwl;R enter_call (codeAny_mono (call w s₀ s₁ mg mb fa o pm cd doc a vs ns G Y ho (fd_plain hd) hcd hmg hobj hints hlen hg) λr s' hq=>?_);O⟨rfl,h2,h3,h4⟩:=hq;E⟨.inl ⟨.bool aC,.bool aC,[],rfl,λ_=>rfl,.bool aC,Zbn l _,λ_=>⟨List.Pairwise.nil,λ_ hm=>(nomatch hm)⟩⟩,h2,h3,h4⟩
section
variable{prog:b6}{w:c7}{A:dh}{E:ah->am->В}{s:am}{K:Frag}
МZut(h:d6):Heap:={h with objs:= #[]}
МZuu(h:d6)(L d:aj):А (aj×Obj):=(cq h.objs.size).filterMap λa=>if a=L\/a=d then aB else(h.get? a).map λo=>(a,o)
end
end Att
namespace L2
open PySem PySem.Spec PyProof.Rows
ЛFs:∀{vs:А ah} {ns:А Int},IntsAre vs ns->Z2 (ns.map V.int) vs
 |_,_,.nil=>.nil
 |_,_,.cons n t h=>.cons ⟨t,rfl⟩ (Fs h)
МZds(H:Hp):Prop:=∀b,H b=aB\/∃o xs,H b=aA (.frz o (.lst xs))
ЛZdt {P : b6} {w : c7} {K : ad} {mg mb : Str -> Б ah} {CX : CXT} {k : Г} {fa a : aj} {fd : ci} {x : Str} {sp : Sp} {s₁ : am} {vs : А ah} {ns : А Int}
    (KX : K.In s₁.heap) (hns : s₁.heap.Ns b7 mg) (hb : s₁.heap.Ns builtinsNs mb) (hbb : ∀ x : Str, x ≠ "__name__" -> mb x = bootBuiltins x) (hlim : s₁.heap.NoLimit) (hg : s₁.gens = #[])
    (ha : s₁.heap.get? a = aA { cls := .type "list", data := .seq vs.toArray }) (hi : IntsAre vs ns) (hl : ns.length <= sizeLine) (hr : Room k callerA)
    (F : ∀ base : d6, K.In base -> base.Ns b7 mg -> FnOk P w K mg base CX k fa fd [x] sp) (hbind : ∀ (s : am) (u : ah), BindsTo s fd ⟨[u], []⟩ [(x, u)])
    (hsp : ∀ H : Hp, Zds H -> W5 K H a (ns.map V.int) -> sp [.ref a] H (λv _ => v = .bl aC) λ_ _ _ => False)
    (hCX : ∀ H e s', CX [] H s₁ (λ_ _ _ => False) e s' -> False) :
    codeAny (b4 P w) callerA (.call (.ref fa) ⟨[.ref a], []⟩) (λr s' => r = .ok (.ret (.bool aC)) /\ OldK s₁.heap s'.heap /\ s'.os = s₁.os /\ AllBare s'.gens) s₁ := by
  V rv := Fs hi;V lenV := hi.length
  -- from an abstract heap in which nothing but the script may be tracked
  V core : ∀ H : Hp, Zds H -> W5 K H a (ns.map V.int) -> Go P w H s₁.heap -> (∀ b, H b ≠ aB -> b = a) -> (H a ≠ aB -> K.lookup a = aB) ->
      codeAny (b4 P w) callerA (.call (.ref fa) ⟨[.ref a], []⟩) (λr s' => r = .ok (.ret (.bool aC)) /\ OldK s₁.heap s'.heap /\ s'.os = s₁.os /\ AllBare s'.gens) s₁ := by
    I H hO hS hok hA hK;V base_of : ∀ {b : aj} {o : Obj}, s₁.heap.get? b = aA o -> H b = aB -> (Ll s₁.heap H).get? b = aA o := λe n => Zcy e n;V noA : ∀ {b : aj} {o : Obj} {es : Array DictEntry} {ep : Г}, s₁.heap.get? b = aA o -> o.data = .dict es ep -> H b = aB := λ{b o es ep} e d => by
      cases q : H b with
      | none => rfl
      | some u =>have e' : b = a := hA b (by rw [q]; simp);Q e';rw [ha] at e; C e;V d' : Data.seq vs.toArray _ = Data.dict es ep := d;C d'
    V nsK : ∀ {b : aj} {m : Str -> Б ah}, s₁.heap.Ns b m -> (Ll s₁.heap H).Ns b m := λ{b m} ⟨o, es, ep, e, d, r⟩ => ⟨o, es, ep, base_of e (noA e d), d, r⟩
    V hKb : K.In (Ll s₁.heap H) := λb o e => base_of (KX b o e) (by
      cases q : H b with
      | none => rfl
      | some u =>
        V e' : b = a := hA b (by rw [q]; simp);Q e';rw [hK (by rw [q]; simp)] at e; C e)
    V hM : Mod K mg (Ll s₁.heap H) := ⟨hKb, nsK hns, ⟨mb, nsK hb, hbb⟩, let ⟨mc, h1, h2⟩ := hlim; ⟨mc, nsK h1, h2⟩⟩
    V e0 : Env0 P w K mg (Ll s₁.heap H) callerA [] s₁ H := ⟨rfl, hM, λb o e => Zha e, Nat.le_of_eq (Za7 _ _), trivial, λb hb => absurd (show b ∈ ([] : А aj) from hb) К, hok, .of_eq hg⟩
    R codeAny_mono ((F _ hKb (nsK hns)).run callerA [] s₁ H ⟨[.ref a], []⟩ [.ref a] [.ref a] _ _ hr e0 (hbind s₁ (.ref a)) (.cons rfl .nil) (hsp H hO hS)) λr s' h => ?_;cases r with
    | error e => E(hCX H e s' h).elim
    | ok fl =>
      cases fl with
      | next => E False.elim h
      | brk => E False.elim h
      | cont => E False.elim h
      | ret u =>
        obtain ⟨v, H', os, bare, un, hok', r', q⟩ := h;V q' : v = .bl aC := q;Q q';obtain rfl : u = Value.bool aC := r';R⟨rfl, OldK.of_keep λb o e => ?_, os, bare⟩;cases q : H b with
        | none => E un.keep b o e q (by I z; E absurd (show b ∈ ([] : А aj) from z) К) К
        | some u =>
          J hO b with z | ⟨ob, xs, z⟩
          · rw [q] at z; C z
          · have z2 := un.frzs b ob _ z
            obtain ⟨e1, _⟩ := hok b _ z;obtain ⟨e2, _⟩ := hok' b _ z2;rw [e] at e1; C e1;E e2
  cases hk : K.lookup a with
  | some o =>
    -- the script is one of the module's own objects
    V e := KX a o hk;rw [ha] at e;C e;R core (λ_ => aB) (λ_ => .inl rfl) (.inr ⟨_, vs.toArray, _, hk, rfl, rfl, rfl, by rw [bq, lenV]; E hl, by L rv⟩) (λb u z => by V z' : (aB : Б HO) = aA u := z; C z') (λb z => absurd rfl z) λz => absurd rfl z
  | none =>
    R core (λb => if b = a then aA (.frz { cls := .type "list", data := .seq vs.toArray } (.lst (ns.map V.int))) else aB) (λb => ?_) (.inl (.inr ⟨{ cls := .type "list", data := .seq vs.toArray }, Е rfl⟩)) (λb u z => ?_) (λb z => ?_) λ_ => hk
    · by_cases hb : b = a
      · E .inr ⟨_, _, Е hb⟩
      · E .inl (Д hb)
    · by_cases hb : b = a
      · have z' := (Е hb).symm.trans z
        C z';Q hb;E⟨ha, by rw [aq]; E hl, vs, _, rv, ha⟩
      · have z' := (Д hb).symm.trans z
        C z'
    · by_cases hb : b = a
      · E hb
      · E absurd (Д hb) z
аKOf{K:ad}{h:d6}(_:K.In h):PySem.W.Frag:=K
ЛZhw{l:PySem.W.OpenLaw}{n k:Г}{q:b6}{loose:А Str}{XP:(Str->Б ah)->d6->В}{YP:c7->d6->В}{d:DefRec}{K:Params->ad}{CX:c7->CXT}{sp:c7->Sp}{x:Str}
  (hn:l.most=aA n) (hn2:n<=sizeLine) (hdf:d.params.defaults=[]) (hr:Room k callerA)
  (hY:∀(w:c7) (h:d6),YP w h->(K w.params).In h)
  (F:∀(w:c7) (mg:Str->Б ah) (fa:aj) (h:d6),(K w.params).In h->h.Ns b7 mg->mg d.name=aA (.ref fa)->
   ∃fd:ci,(∀(s:am) (u:ah),BindsTo s fd ⟨[u],[]⟩ [(x,u)])/\
    ∀base:d6,(K w.params).In base->base.Ns b7 mg->FnOk l.prog w (K w.params) mg base (CX w) k fa fd [x] (sp w))
  (hsp:∀(w:c7) (H:Hp) (a:aj) (ns:А Int),ns.length<=n->Zds H->W5 (K w.params) H a (ns.map V.int)->sp w [.ref a] H (λv _=>v= .bl aC) λ_ _ _=>False)
  (hCX:∀(w:c7) (H:Hp) (s:am) (e:ah) (s':am),CX w [] H s (λ_ _ _=>False) e s'->False):
  PySem.W.WalkO q loose XP YP l.row.toRowW d [] (λf vs=>PySem.call f vs):=by
 R Att.attach_call hn hdf λw s₀ s₁ mg mb fa o pm cd doc a vs ns G Y ho hd hcd hmg hobj hints hlen hg=>?_;V KX:=hY w _ Y;O⟨fd,hb,hF⟩:=F w mg fa _ KX G.T.g hmg;E Zdt KX G.T.g G.T.b G.T.builtins G.T.nolimit hg hobj hints (dk hlen hn2) hr hF hb (λH hO hS=>hsp w H a ns hlen hO hS) λH e s'=>hCX w H s₁ e s'
ЛZdu{l:PySem.W.OpenLaw}{n k:Г}{q:b6}{loose:А Str}{XP:(Str->Б ah)->d6->В}{YP:c7->d6->В}{d:DefRec}{K:Params->ad}{CX:CXT}{sp:ad->Sp}{x:Str}
  (hn:l.most=aA n) (hn2:n<=sizeLine) (hdf:d.params.defaults=[]) (hr:Room k callerA)
  (hY:∀(w:c7) (h:d6),YP w h->(K w.params).In h)
  (F:∀(w:c7) (mg:Str->Б ah) (fa:aj) (h:d6),(K w.params).In h->h.Ns b7 mg->mg d.name=aA (.ref fa)->
   ∃fd:ci,(∀(s:am) (u:ah),BindsTo s fd ⟨[u],[]⟩ [(x,u)])/\
    ∀base:d6,(K w.params).In base->base.Ns b7 mg->FnOk l.prog w (K w.params) mg base CX k fa fd [x] (sp (K w.params)))
  (hsp:∀(K:ad) (H:Hp) (a:aj) (ns:А Int),ns.length<=n->Zds H->W5 K H a (ns.map V.int)->sp K [.ref a] H (λv _=>v= .bl aC) λ_ _ _=>False)
  (hCX:∀(H:Hp) (s:am) (e:ah) (s':am),CX [] H s (λ_ _ _=>False) e s'->False):
  PySem.W.WalkO q loose XP YP l.row.toRowW d [] (λf vs=>PySem.call f vs):=
 Zhw (K:=K) (CX:=λ_=>CX) (sp:=λw=>sp (K w.params)) hn hn2 hdf hr hY F (λw H a ns h1 h2 h3=>hsp (K w.params) H a ns h1 h2 h3) λ_ H s e s'=>hCX H s e s'
МZs5(s:Stmt)(j:Г):Stmt:=match s with
 | .ClassDef _ _ _ body _ _ _ _ _ _ _=>body.getD j (.Pass ⟨0,0,0,0⟩)
 |_=>.Pass ⟨0,0,0,0⟩
МBl(s:Stmt):Arguments:=match s with
 | .FunctionDef _ a _ _ _ _ _ _ _ _=>a
 |_=>{posonlyargs:=[],args:=[],vararg:=aB,kwonlyargs:=[],kw_defaults:=[],kwarg:=aB,defaults:=[]}
МUc(s:Stmt):А Stmt:=match s with
 | .FunctionDef _ _ b _ _ _ _ _ _ _=>b
 |_=>[]
МZx(s:Stmt):Scope:=match s with
 | .FunctionDef _ _ _ _ _ _ sc _ _ _=>sc
 |_=>{kind:=.function,names:=[],isGenerator:=aD,isCoroutine:=aD}
аUd:CXT:=λ_ _ _ _ _ _=>False
аE0:XK:=λ_ _ _=>False
ЛZpx{X:Cx}:V3 Ud X E0:=λ_ _ _ _ _ _ _ h=>h.elim
structure Fun(K:ad)(x qual:Str)(st:Stmt)(f:aj)(fd:ci):В where
 ex:∃(oc:ah) (od:Б aj) (kV doc pm:ah) (an:Б aj) (cdv ct:ah) (osl:Array (Б ah)),
  fd=PySem.W.fnOf x qual (Bl st) (Uc st) (Zx st) .none kV doc pm an cdv ct/\K.lookup f=aA ⟨oc,od,.func fd,osl⟩/\PySem.W.codeIn K cdv qual=aC
 kp:bu K (.ref f)=aC
section
variable{P:b6}{w:c7}{K:ad}{mg:Str->Б ah}{base:d6}
ЛFun.ok{x qual:Str}{st:Stmt}{f:aj}{fd:ci}{N ps:А Str}{k:Г}{sp:Sp}(F:Fun K x qual st f fd)(S:FnScope N ps (Zx st))(len:∀vs H Q E,sp vs H Q E->vs.length=ps.length)
  (hbody:∀(cdv:ah) (A:dh) (outer:А Env) (s:am) (H:Hp) (vs:А V) (Q:VK) (E:XK),Room k (A.deeper (envOfC qual (Zx st) s.heap.objs.size f cdv))->sp vs H Q E->
   ∃t,Ta (V4 Ud P w K mg base N qual (Zx st) f cdv A outer s H E).nox (Uc st) t/\t {nx:=λ_ H'=>Q .non H',rt:=Q} (Ca N vs) H):FnOk P w K mg base Ud (k+1) f fd ps sp:=by
 O⟨oc,od,kV,doc,pm,an,cdv,ct,osl,rfl,lk,hcd⟩:=F.ex;R Zpl lk hcd S len λA outer s H vs Q E hr hsp=>?_;O⟨t,h,q⟩:=hbody cdv A outer s H vs Q E hr hsp;E⟨t,h.nox,q⟩
ЛFun.binds{x qual:Str}{st:Stmt}{f:aj}{fd:ci}{ps:А Str}(F:Fun K x qual st f fd)
  (h:∀(kV doc pm:ah) (an:Б aj) (cdv ct:ah) (us:А ah),us.length=ps.length->bindArgs (PySem.W.fnOf x qual (Bl st) (Uc st) (Zx st) .none kV doc pm an cdv ct) ⟨us,[]⟩=pure (ps.zip us)):Wh K fd ps []:=by
 O⟨oc,od,kV,doc,pm,an,cdv,ct,osl,rfl,lk,hcd⟩:=F.ex;E .all (h kV doc pm an cdv ct)
ЛWq{x qual:Str}{st:Stmt}{f:aj}{oc:ah}{od an:Б aj}{osl:Array (Б ah)}{kV doc pm cdv ct:ah}(l:K.lookup f=aA ⟨oc,od,.func (PySem.W.fnOf x qual (Bl st) (Uc st) (Zx st) .none kV doc pm an cdv ct),osl⟩)
  (c:PySem.W.codeIn K cdv qual=aC) (k:bu K (.ref f)=aC):Fun K x qual st f (PySem.W.fnOf x qual (Bl st) (Uc st) (Zx st) .none kV doc pm an cdv ct):=⟨⟨oc,od,kV,doc,pm,an,cdv,ct,osl,rfl,l,c⟩,k⟩
end
ЛZpy{A:dh}{k:Г}(hr:Room k A):A.units+1<cLine:=ib (Nat.add_le_add_left (by decide:1<=64) _) hr.units
МZi(H H':Hp):Prop:=∀b o,H b=aA o->H' b=aA o
ЛZi.refl(H:Hp):Zi H H:=λ_ _ h=>h
ЛZi.trans{H H1 H2:Hp}(a:Zi H H1)(b:Zi H1 H2):Zi H H2:=λc o h=>b c o (a c o h)
ЛZi.free{H H':Hp}(e:Zi H H'){l:aj}(h:H' l=Option.none):H l=Option.none:=by
 cases q:H l with
 |none=>rfl
 |some o=>K[e l o q]at h;C h
ЛPE.imp{X:Cx}{e:cj}{t t':TE}(h:PE X e t)(w:∀σ H Q,t' σ H Q->t σ H Q):PE X e t':=λpins s σ H Q I q=>h pins s σ H Q I (w σ H Q q)
ЛPT.imp{X:Cx}{e:cj}{t t':TT}(h:PT X e t)(w:∀σ H Q,t' σ H Q->t σ H Q):PT X e t':=λpins s σ H Q I q=>h pins s σ H Q I (w σ H Q q)
ЛPW.imp{X:Cx}{e:cj}{t t':TT}(h:PW X e t)(w:∀σ H Q,t' σ H Q->t σ H Q):PW X e t':=λwh pins s σ H Q I q=>h wh pins s σ H Q I (w σ H Q q)
ЛPA.imp{X:Cx}{e:А cj}{t t':TA}(h:PA X e t)(w:∀σ H Q,t' σ H Q->t σ H Q):PA X e t':=λpos pins s σ H Q I q=>h pos pins s σ H Q I (w σ H Q q)
ЛPS.imp{X:Cx}{e:Stmt}{t t':TS}(h:PS X e t)(w:∀D σ H,t' D σ H->t D σ H):PS X e t':=λpins s σ H D I q=>h pins s σ H D I (w D σ H q)
ЛTa.imp{X:Cx}{e:А Stmt}{t t':TS}(h:Ta X e t)(w:∀D σ H,t' D σ H->t D σ H):Ta X e t':=λpins s σ H D I q=>h pins s σ H D I (w D σ H q)
ЛPG.imp{X:Cx}{e:cj}{t t':TG}(h:PG X e t)(w:∀v σ H Q,t' v σ H Q->t v σ H Q):PG X e t':=λpins s σ H v u Q I r q=>h pins s σ H v u Q I r (w v σ H Q q)
ЛPGs.imp{X:Cx}{e:А cj}{t t':TGs}(h:PGs X e t)(w:∀v σ H Q,t' v σ H Q->t v σ H Q):PGs X e t':=λpins s σ H vs us Q I r q=>h pins s σ H vs us Q I r (w vs σ H Q q)
ЛPI.imp{X:Cx}{tg e:cj}{t t':TI}(h:PI X tg e t)(w:∀σ H R,t' σ H R->t σ H R):PI X tg e t':=λpins s σ H R I q=>h pins s σ H R I (w σ H R q)
МMh(cells:А (Str×aj)):А (Str×NameKind)->А (Str×aj)->А (Str×aj)
 | [],cs=>cs
 | (n,k)::r,cs=>Mh cells r (if k= .free then(n,(cells.lookup n).getD 0)::cs else cs)
ЛG0{env:Env}:∀(names:А (Str×NameKind)) (cs:А (Str×aj)),(∀y∈names,y.2= .free->∃c,env.cells.lookup y.1=aA c)->
    (forIn names cs (λx r=>if(x.2==ij)=aC then do let a<-cellOf env x.1;pure (ForInStep.yield ((x.1,a)::r))else pure (ForInStep.yield r)):Sem (А (Str×aj)))=pure (Mh env.cells names cs)
  | [],cs,_=>by K[List.forIn_nil];rfl
  | (n,k)::r,cs,h=>by
    K[List.forIn_cons];B hk:k= .free
    · O⟨c,hc⟩:=h (n,k) af hk
      Q hk;V e1:cellOf env n=pure c:=by U cellOf;K[hc]
      show((if(ij==ij)=aC then(cellOf env n >>=λa=>pure (ForInStep.yield ((n,a)::cs)))else pure (ForInStep.yield cs)) >>=λs=>_)=_;K[Е (show(ij==ij)=aC by decide),e1];show(forIn r ((n,c)::cs) _:Sem (А (Str×aj)))=_;K[G0 r _ λy hy=>h y (ao _ hy)];T _=pure (Mh env.cells r (if ij=ij then(n,(env.cells.lookup n).getD 0)::cs else cs));K[Е rfl,hc];rfl
    · have hb:(k==ij)=aD:=by L hk
      show((if(k==ij)=aC then(cellOf env n >>=λa=>pure (ForInStep.yield ((n,a)::cs)))else pure (ForInStep.yield cs)) >>=λs=>_)=_;K[hb,Д bv];show(forIn r cs _:Sem (А (Str×aj)))=_;K[G0 r _ λy hy=>h y (ao _ hy)];T _=pure (Mh env.cells r (if k=ij then _ else cs));K[Д hk]
ЛGq{scope:Scope}{env:Env}(h:∀y∈scope.names,y.2= .free->∃c,env.cells.lookup y.1=aA c):closureFor scope env=pure (Mh env.cells scope.names []):=by simp only[closureFor];K[G0 scope.names [] h];rfl
ЛPy{cells:А (Str×aj)}{x:Str}{c:aj}:∀{names:А (Str×NameKind)} {cs:А (Str×aj)},(∀y∈names,y.2= .free->∃c,cells.lookup y.1=aA c)->
    (cs.lookup x=aA c->cells.lookup x=aA c)->(Mh cells names cs).lookup x=aA c->cells.lookup x=aA c
  | [],_,_,h0,e=>h0 e
  | (n,k)::r,cs,h,h0,e=>by
    R Py (names:=r) (λy hy=>h y (ao _ hy)) ?_ e;I e';B hk:k= .free
    · K[Е hk]at e'
      O⟨c',hc⟩:=h (n,k) af hk;K[hc]at e';B hx:x==n
      · simp only[im,hx]at e'
        C e';V :x=n:=by L hx
        K[this];E hc
      · have hx':(x==n)=aD:=by L hx
        simp only[im,hx']at e';E h0 e'
    · K[Д hk]at e';E h0 e'
ЛFt{cells:А (Str×aj)}{x:Str}:∀{names:А (Str×NameKind)} {cs:А (Str×aj)},(∃c,cs.lookup x=aA c)->∃c,(Mh cells names cs).lookup x=aA c
  | [],_,h=>h
  | (n,k)::r,cs,⟨c,h⟩=>by
    R Ft (names:=r) ?_;B hk:k= .free
    · K[Е hk]
      B hx:x==n
      · E⟨(cells.lookup n).getD 0,by simp only[im,hx]⟩
      · have hx':(x==n)=aD:=by L hx
        E⟨c,by simp only[im,hx'];E h⟩
    · K[Д hk];E⟨c,h⟩
ЛRp{cells:А (Str×aj)}{x:Str}:∀{names:А (Str×NameKind)} {cs:А (Str×aj)},(x,ij)∈names->∃c,(Mh cells names cs).lookup x=aA c
  | [],_,h=>nomatch h
  | (n,k)::r,cs,h=>by
    J bx.mp h with e|e
    · C e
      R Ft (names:=r) ⟨(cells.lookup x).getD 0,?_⟩;K[Е rfl];simp[im]
    · E Rp (names:=r) e
МrlF(env:Env):Str×NameKind->Str×NameKind:=λ(n,k)=>if(k==ij&&env.scope.kind== .function&&env.kindOf n==aA .cell)then(n,NameKind.cell)else(n,k)
ЛLx(env:Env)(p:Str×NameKind):(rlF env p).1=p.1:=by O⟨n,k⟩:=p;U rlF;dsimp only;split<;> rfl
ЛOd{f:Str×NameKind->Str×NameKind}(h:∀p,(f p).1=p.1)(x:Str):∀names:А (Str×NameKind),(names.map f).lookup x=(names.lookup x).map λk=>(f (x,k)).2
  | []=>rfl
  | (n,k)::r=>by
    V ih:=Od h x r;V e:f (n,k)=(n,(f (n,k)).2):=Prod.ext (h (n,k)) rfl;K[bc,e,im,im];cases hx:x==n with
    |true=>
      V :x=n:=by L hx
      Q this;rfl
    |false=>E ih
ЛAi{x:Str}{k:NameKind}:∀{names:А (Str×NameKind)},names.lookup x=aA k->(x,k)∈names
  | [],h=>by simp at h
  | (n,k')::r,h=>by
    K[im]at h;cases hx:x==n with
    |true=>
      K[hx]at h;V :x=n:=by L hx
      Q this;C h;E af
    |false=>K[hx]at h;E ao _ (Ai h)
ЛBm{env:Env}{names:А (Str×NameKind)}{x:Str}{kk:NameKind}(hn:∀y∈names,y.2≠.cell)(hk:kk= .cell\/kk= .free)(h:(names.map (rlF env)).lookup x=aA kk):(x,ij)∈names:=by
 K[Od (Lx env)]at h;O⟨k,h1,h2⟩:=cm.mp h;V hm:=Ai h1;V hc:k≠.cell:=hn _ hm;B hf:k= .free
 ·Q hf;E hm
 ·exfalso;V hb:(k==ij)=aD:=by L hf
  U rlF at h2;simp only[hb,Bool.false_and,bi,if_false]at h2;J hk with e|e
  ·E hc (h2.trans e)
  ·E hf (h2.trans e)
inductive BSrc where
 |own|cap (j:Г)|acc
МZkf(σ:St)(acc:aj):BSrc->Б V
 | .own=>aB
 | .cap j=>(σ[j]?).join
 | .acc=>aA (.ref acc)
МVt(src:А BSrc)(σ:St)(acc:aj):St:=src.map (Zkf σ acc)
аCx.block(X:Cx)(N':А Str)(scope:Scope)(C:aj)(s₀:am)(H₀:Hp)(ex:А aj):Cx:=
 {X with N:=N',env:=compEnvC scope (Mh X.env.cells scope.names []) C X.env,s₀:=s₀,H₀:=H₀,outer:=X.stack,stack:=X.stack,ex:=ex,fn:=λ_=>aD,pn:=[],xe:=λ_ _=>False}
structure CompScope(X:Cx)(N':А Str)(scope:Scope)(src:А BSrc):В where
 kind:scope.kind= .function
 nocell:∀y∈scope.names,y.2≠.cell
 names:∀y∈scope.names,y.2= .local->scope.names.lookup y.1=aA .local
 free:∀y∈scope.names,y.2= .free->X.env.kindOf y.1=aA .cell\/X.env.kindOf y.1=aA .free
 len:src.length=N'.length
 cap:∀(k j:Г) (x:Str),src[k]? =aA (.cap j)->N'[k]? =aA x->X.N[j]? =aA x/\(X.env.kindOf x=aA .cell\/X.env.kindOf x=aA .free)/\scope.names.lookup x=aA .free
 acc:∀(k:Г) (x:Str),src[k]? =aA .acc->N'[k]? =aA x->scope.names.lookup x=aB
ЛGk{env:Env}{names:А (Str×NameKind)}{x:Str}(h:names.lookup x=aB):(names.map (rlF env)).lookup x=aB:=by K[Od (Lx env),h];rfl
ЛGm{env:Env}{names:А (Str×NameKind)}{x:Str}(h:names.lookup x=aA .free):(names.map (rlF env)).lookup x=aA .cell\/(names.map (rlF env)).lookup x=aA .free:=by
 K[Od (Lx env),h];U rlF;dsimp only[Option.map];split
 ·E .inl rfl
 ·E .inr rfl
section
variable{X:Cx}{N':А Str}{scope:Scope}{src:А BSrc}{pins:А (aj×Obj)}{σ:St}{H:Hp}{s:am}{C acc:aj}{fp:А aj}
ЛPz{h1:d6}{tk:Г}(S:CompScope X N' scope src)(I:Inv X pins σ H s)(hC:C=s.heap.objs.size)(hf:∀b∈fp,Jz X pins H b)(hfo:∀b∈fp,∃o,s.heap.get? b=aA o)
  (hns:h1.Ns C λ_=>aB) (hk:∀b o,s.heap.get? b=aA o->h1.get? b=aA o):
  Inv (X.block N' scope C s H fp) [] (Vt src σ acc) H {s with heap:=h1,toks:=tk}:=by
 V cellf:∀y∈scope.names,y.2= .free->∃c,X.env.cells.lookup y.1=aA c:=λy hy e=>I.ok.has y.1 (S.free y hy e);V sub:∀x c,(Mh X.env.cells scope.names []).lookup x=aA c->X.env.cells.lookup x=aA c:=λx c e=>Py cellf (λh=>by simp at h) e;V gt:∀b,b<s.heap.objs.size->b≠C:=λb hb e=>by K[e,hC]at hb;E ii _ hb
 R⟨⟨I.ok.mod,S.kind,I.ok.glob,I.ok.blt,by K[hC];E ba _,λx y c h1 h2=>I.ok.inj x y c (sub x c h1) (sub y c h2),λx hx=>?_,λx c h=>absurd h bv,I.ok.hd,I.ok.frames,.inl rfl,λb hb=>?_,I.bs,
  dk I.ok.bsz I.sz,λb o e hb=>?_,λb hb hs=>?_,I.stack,I.stkFree⟩,rfl,I.bare,Un.kept hk,⟨_,hns,λi x v e1 e2 e3=>?_⟩,λx c e=>?_,?_,λx c e=>I.freeC x c (sub x c e),λp hp=>?_,I.hok.kept hk,?_⟩
 ·J hx with hx|hx
  ·E Rp (Bm S.nocell (.inl rfl) hx)
  ·E Rp (Bm S.nocell (.inr rfl) hx)
 ·O⟨f0,f1,f2,f3,f4,f5⟩:=hf b hb;R⟨?_,λx c e=>f4 x c (sub x c e)⟩;T b≠C;O⟨o,ho⟩:=hfo b hb;E gt b (bo ho)
 ·O⟨f0,f1,f2,f3,f4,f5⟩:=hf b hb;J f3 with z|z
  ·E I.ok.noex b o e z
  ·E absurd (c8 (bo e) (dk I.ok.bsz z)) (ii _)
 ·O⟨f0,f1,f2,f3,f4,f5⟩:=hf b hb;J bx.mp (I.stkSub b hs)with z|z
  ·E f1 z
  ·E f2 z
 ·V hsrc:∃q,src[i]? =aA q:=by
   cases q:src[i]? with
   |some q0=>E⟨q0,rfl⟩
   |none=>have e2':(Vt src σ acc)[i]? =aA (aA v):=e2;U Vt at e2';K[az,q]at e2';C e2'
  O⟨q,hq⟩:=hsrc;V e2':(Vt src σ acc)[i]? =aA (aA v):=e2;U Vt at e2';K[az,hq]at e2';V e2'':Zkf σ acc q=aA v:=cz.inj e2';cases q with
  |own=>C e2''
  |acc=>
   exfalso;V hno:=Gk (env:=X.env) (S.acc i x hq e1);V hno':(relabel scope X.env).names.lookup x=aB:=hno;V e3':Vs (relabel scope X.env) x:=e3;J e3' with z|z|z
   ·K[hno']at z;C z
   ·K[hno']at z;C z
   ·K[hno']at z;C z
  |cap j=>
   O⟨hj,hkind,hfr⟩:=S.cap i j x hq e1;V hσ:σ[j]? =aA (aA v):=by
    V e4:(σ[j]?).join=aA v:=e2'';cases r:σ[j]? with
    |none=>K[r]at e4;C e4
    |some o=>K[r]at e4;cases o with
     |none=>C e4
     |some w'=>C e4;rfl
   O⟨m,hn,hl⟩:=I.loc;O⟨u,ru,l⟩:=hl j x v hj hσ (by J hkind with z|z;E .inr (.inl z);E .inr (.inr z));R⟨u,ru,?_⟩;J l with⟨z,_⟩|⟨_,c,hc,hcell⟩
   ·J hkind with y|y
    ·K[y]at z;C z
    ·K[y]at z;C z
   ·V e3':Vs (relabel scope X.env) x:=e3;V fin:∀kk,kk= .cell\/kk= .free->(relabel scope X.env).names.lookup x=aA kk->Zoy (X.block N' scope C s H fp).env h1 (λ_=>aB) x u:=λkk hkk hx=>by
     O⟨c',hc'⟩:=Rp (cells:=X.env.cells) (cs:=[]) (Bm S.nocell hkk hx);V :=sub x c' hc';K[hc]at this;C this;O⟨oc,hoc,hocd⟩:=hcell;R .inr ⟨?_,c,hc',oc,hk c oc hoc,hocd⟩;J hkk with y|y
     ·Q y;E .inl hx
     ·Q y;E .inr hx
    J e3' with z|z|z
    ·exfalso;V z':(relabel scope X.env).names.lookup x=aA .local:=z;J Gm (env:=X.env) hfr with y|y
     ·V y':(relabel scope X.env).names.lookup x=aA .cell:=y;K[z']at y';C y'
     ·V y':(relabel scope X.env).names.lookup x=aA .free:=y;K[z']at y';C y'
    ·E fin .cell (.inl rfl) z
    ·E fin .free (.inr rfl) z
 ·O⟨v,oc,hoc,hocd⟩:=I.cell x c (sub x c e);E⟨v,oc,hk c oc hoc,hocd⟩
 ·T H C=aB;K[hC];E I.hok.fresh (ba _)
 ·V hp':p∈([]:А (aj×Obj)):=by L hp
  E nomatch hp'
 ·show(Vt src σ acc).length=N'.length;U Vt;K[aq];E S.len
МZdv(src:А BSrc)(wi:TI)(g:TG)(tt:TT)(te:TE):TE:=λσ H Q=>wi σ H λJ H1=>∀acc,H1 acc=aB->
 ∃W:Г->Г->St->Hp->В,(∃m,W 0 m (Vt src σ acc) (Z9 H1 acc (.lst [])))/\∀i m σ' H,W i m σ' H->(J.stop i H/\Q (.ref acc) H)\/
  (J.go i H/\∀x H',J.yld i H x H'->g x σ' H' λσ2 H2=>tt σ2 H2 λb H3=>if b=aC then te σ2 H3 λy H4=>Bk (.ref acc) [y] H4 λ_ H5=>∃m',m'<m/\W (i+1) m' σ2 H5 else∃m',m'<m/\W (i+1) m' σ2 H3)
МPTs(X:Cx)(ifs:А cj)(t:TT):Prop:=
 ∀(pins:А (aj×Obj)) (s:am) (σ:St) (H:Hp) (Q:Bool->Hp->В),Inv X pins σ H s->t σ H Q->
  bg (b4 X.prog X.w) X.A (forIn ifs aC λc r=>if r=aC then do let ok<-isTrue c X.env (gq c X.env);pure (ForInStep.yield ok)else pure (ForInStep.yield r)) (TP X pins σ Q) X.xe s
МZpz:TT:=λ_ H Q=>Q aC H
ЛZhy:PTs X [] Zpz:=λ_ s σ H Q I h=>wpAny_tests_nil ⟨H,I,h⟩
ЛZhz{c:cj}{t:TT}(h:PT X c t):PTs X [c] t:=λpins s σ H Q I q=>wpAny_tests_one (h pins s σ H Q I q)
ЛZbo{prog:b6}{w:c7}{A:dh}{s:am}{elt target iter:cj}{ifs:А cj}{scope:Scope}{pos:Pos}{it acc:ah}{env:Env}{R:Result->am->В}(I:Г->am->В)
  (turn:∀n s,I n s->bg (b4 prog w) A (pyNext it) (λr s₁=>match r with
   |none=>R (.ok .next) s₁
   |some v=>bg (b4 prog w) A (letOwnedTupleGo target it v) (λ_ s₀=>bg (b4 prog w) A (assign target env v) (λ_ s₂=>
     bg (b4 prog w) A (forIn ifs aC λc r=>if r=aC then do let ok<-isTrue c env (gq c env);pure (ForInStep.yield ok)else pure (ForInStep.yield r)) (λok s₃=>if ok=aC then bg (b4 prog w) A (gq elt env) (λx s₄=>
      bg (b4 prog w) A (call (.builtin "list.append") [acc,x]) (λ_ s₅=>∃m,m<n/\I m s₅) (λ_ _=>False) s₄) (λ_ _=>False) s₃
      else∃m,m<n/\I m s₃) (λ_ _=>False) s₂)
     (λ_ _=>False) s₀) (λ_ _=>False) s₁) (λ_ _=>False) s)
  (n:Г) (h:I n s):codeAny (b4 prog w) A (.compLoop (.ListComp elt [⟨target,iter,ifs,0⟩] scope pos) 0 it acc env) R s:=by
 R codeAny_loop rfl I (λn s hI=>?_) n h;T bg _ A ((compTurn (.ListComp elt [⟨target,iter,ifs,0⟩] scope pos) 0 it acc env).onRaise (λx=>do noteFrame x env;theTreesLotGoes x)) _ _ s;R wpAny_noted ?_;K[compTurn_list];R ac (wpAny_standAt (ac (wpAny_mono (turn n s hI) (λr s₁ h₁=>?_) λ_ _ f=>f.elim)));cases r with
 |none=>E ag h₁
 |some v=>
  R ac (wpAny_mono h₁ (λ_ s₀ h₀'=>?_) λ_ _ f=>f.elim);R ac (wpAny_mono h₀' (λ_ s₂ h₂=>?_) λ_ _ f=>f.elim);R ac (wpAny_mono h₂ (λokb s₃ h₃=>?_) λ_ _ f=>f.elim);cases okb with
  |false=>E ag ⟨rfl,h₃⟩
  |true=>E ac (ac (wpAny_mono h₃ (λx s₄ h₄=>ac (wpAny_mono h₄ (λ_ s₅ h₅=>ag (ag ⟨rfl,h₅⟩)) λ_ _ f=>f.elim)) λ_ _ f=>f.elim))
ЛAj{tg elt iter:cj}{ifs:А cj}{pos:Pos}{g:TG}{tt:TT}{te:TE}{it:aj}{tn:Г->d6->В}{J:It}{Q:VK}{RR:ah->aj->Result->am->В}{E:ah->am->В}
  (hc:X.calm=aC) (S:CompScope X N' scope src)
  (hg:∀(C:aj) (s₀:am) (H₀:Hp) (ex:А aj),PG (X.block N' scope C s₀ H₀ ex) tg g)
  (ht:∀(C:aj) (s₀:am) (H₀:Hp) (ex:А aj),PTs (X.block N' scope C s₀ H₀ ex) ifs tt)
  (he:∀(C:aj) (s₀:am) (H₀:Hp) (ex:А aj),PE (X.block N' scope C s₀ H₀ ex) elt te)
  (I:Inv X pins σ H s) (T:Turn X.prog X.w X.K tg J fp it tn) (st:tn 0 s.heap) (hf:∀b∈fp,Jz X pins H b)
  (q:∀acc,H acc=aB->∃W:Г->Г->St->Hp->В,(∃m,W 0 m (Vt src σ acc) (Z9 H acc (.lst [])))/\∀i m σ' H,W i m σ' H->(J.stop i H/\Q (.ref acc) H)\/
   (J.go i H/\∀x H',J.yld i H x H'->g x σ' H' λσ2 H2=>tt σ2 H2 λb H3=>if b=aC then te σ2 H3 λy H4=>Bk (.ref acc) [y] H4 λ_ H5=>∃m',m'<m/\W (i+1) m' σ2 H5 else∃m',m'<m/\W (i+1) m' σ2 H3))
  (hRR:∀(acc C:aj) (s':am) (H':Hp) (m:Str->Б ah),Inv X pins σ H' s'->Q (.ref acc) H'->s'.heap.Ns C m->H' C=aB->C≠X.env.locals->X.s₀.heap.objs.size<=C->(∀x c,X.env.cells.lookup x=aA c->c≠C)->(∀p∈X.pn++pins,p.1≠C)->
   RR (.ref acc) C (.ok .next) s'):
  bg (b4 X.prog X.w) X.A (newList []) (λacc s₃=>bg (b4 X.prog X.w) X.A (newFunctionEnv scope X.env.globals (Mh X.env.cells scope.names []) [] X.env.qual aB .none (aA X.env)) (λcenv s₄=>
   codeAny (b4 X.prog X.w) X.A (.compStart (.ListComp elt [⟨tg,iter,ifs,0⟩] scope pos) 0 (.ref it) acc {cenv with scope:=relabel scope X.env}) (RR acc cenv.locals) s₄) E s₃) E s:=by
 V hfo:∀b∈fp,∃o,s.heap.get? b=aA o:=λb hb=>let⟨o,e,_⟩:=T.obj 0 _ st b hb;⟨o,e⟩
 R ff (wpAny_newFunctionEnv S.nocell (by I y hy;simp at hy) (λh₁ hns₁ hsb₁=>?_) S.kind);dsimp only at hns₁ hsb₁⊢;V hacc:H s.heap.objs.size=aB:=I.hok.fresh (ba _);V I3:Inv X pins σ (Z9 H s.heap.objs.size (.lst [])) {s with heap:=s.heap.push {cls:=.type "list",dict:=aB,data:=.seq ([]:А ah).toArray}}:=I.lnew (t':=s.toks) (its:=[]) (ys:=[]) .nil (f7 _);V hf3:∀b∈fp,Jz X pins (Z9 H s.heap.objs.size (.lst [])) b:=λb hb=>by O⟨f0,f⟩:=hf b hb;O⟨o,ho⟩:=hfo b hb;E⟨by K[Zw (cf (bo ho))];E f0,f⟩
 V hfo3:∀b∈fp,∃o,(s.heap.push {cls:=.type "list",dict:=aB,data:=.seq ([]:А ah).toArray}).get? b=aA o:=λb hb=>let⟨o,e⟩:=hfo b hb;⟨o,au _ e⟩
 O⟨W,⟨m0,w0⟩,turn⟩:=q _ hacc;generalize hH2:s.heap.push {cls:=.type "list",dict:=aB,data:=.seq ([]:А ah).toArray}=H2 at hns₁ hsb₁ I3 hfo3⊢;V keep:∀b o,H2.get? b=aA o->h₁.get? b=aA o:=λb o e=>hsb₁.extBut b o (cf (bo e)) (au _ e);V J0:=Pz (N':=N') (scope:=scope) (src:=src) (acc:=s.heap.objs.size) (tk:=s.toks+([]:А (Str×ah)).length) (C:=H2.objs.size) S I3 rfl hf3 hfo3 (show h₁.Ns H2.objs.size (λ_=>aB)from hns₁) keep;V st1:tn 0 h₁:=T.keep 0 s.heap h₁ st λb hb o e=>keep b o (by K[<-hH2];E au _ e);V cne:H2.objs.size≠X.env.locals:=Nat.ne_of_gt I3.lt;V csz:X.s₀.heap.objs.size<=H2.objs.size:=I3.sz;V ccell:∀x c,X.env.cells.lookup x=aA c->c≠H2.objs.size:=λx c e z=>by O⟨v,oc,hoc,_⟩:=I3.cell x c e;E absurd (bo hoc) (by K[z];E ii _)
 V cpin:∀p∈X.pn++pins,p.1≠H2.objs.size:=λp hp z=>absurd (bo (I3.pin p hp).1) (by K[z];E ii _);V loop:∀s₃:am,s₃={s with heap:=h₁,toks:=s.toks+([]:А (Str×ah)).length}->
   codeAny (b4 X.prog X.w) X.A (.compLoop (.ListComp elt [⟨tg,iter,ifs,0⟩] scope pos) 0 (.ref it) (.ref s.heap.objs.size) (compEnvC scope (Mh X.env.cells scope.names []) H2.objs.size X.env)) (RR (.ref s.heap.objs.size) H2.objs.size) s₃:=by
  rintro s₃ rfl;R Zbo (λn s'=>∃i σ' H',Inv (X.block N' scope H2.objs.size {s with heap:=H2} (Z9 H s.heap.objs.size (.lst [])) fp) [] σ' H' s'/\tn i s'.heap/\(∀b∈fp,H' b=aB)/\W i n σ' H') ?_ m0 ⟨0,_,_,J0,st1,λb hb=>(hf3 b hb).1,w0⟩;rintro n s4 ⟨i,σ4,H4,J4,st4,fr4,w4⟩;V fok:∀{H':Hp},(∀b∈fp,H' b=aB)->∀b∈fp,Jz (X.block N' scope H2.objs.size {s with heap:=H2} (Z9 H s.heap.objs.size (.lst [])) fp) [] H' b:=fun{H'} hn b hb=>by
   O⟨f0,f1,f2,f3,f4,f5⟩:=hf3 b hb;R⟨hn b hb,?_,λz=>J4.ok.exfs b hb z,.inl hb,λx c e=>(J4.ok.exf b hb).2 x c e,λp hp=>?_⟩
   ·E(J4.ok.exf b hb).1
   ·V hp':p∈([]:А (aj×Obj)):=by L hp
    E nomatch hp'
  J turn i n σ4 H4 w4 with⟨stop,qn⟩|⟨go,step⟩
  ·R Wp (T.done (X.block N' scope H2.objs.size {s with heap:=H2} (Z9 H s.heap.objs.size (.lst [])) fp) rfl rfl rfl hc i [] s4 σ4 H4 _ J4 (fok fr4) st4 stop) λr s5 ⟨hr,J5⟩=>?_;Q hr;O⟨m5,hn5,_⟩:=J5.loc;V I5:Inv X pins σ H4 s5:=I3.call' (ch:=fp) J5.os J5.base J5.hok J5.bare λb hb=>by O⟨f0,f1,f2,f3,f4,f5⟩:=hf3 b hb;E⟨f3,f1,f4,f5⟩
   E hRR _ _ s5 H4 m5 I5 qn hn5 J5.free cne csz ccell cpin
  ·R Wp (T.item (X.block N' scope H2.objs.size {s with heap:=H2} (Z9 H s.heap.objs.size (.lst [])) fp) rfl rfl rfl hc i [] s4 σ4 H4 _ J4 (fok fr4) st4 go) λr s5 ⟨u,hr,h5⟩=>?_;Q hr;R Wp h5 λ_ s6 zq9=>?_;O⟨x,H6,J6,r6,y6,st6,fr6⟩:=zq9;V J6':=J6.pinned (fok fr6) (T.obj _ _ st6);V again:∀{σ7:St} {H7:Hp} {s7:am},Inv (X.block N' scope H2.objs.size {s with heap:=H2} (Z9 H s.heap.objs.size (.lst [])) fp) ([]++Ac fp s6.heap) σ7 H7 s7->(∃m',m'<n/\W (i+1) m' σ7 H7)->
     ∃m,m<n/\∃i σ' H',Inv (X.block N' scope H2.objs.size {s with heap:=H2} (Z9 H s.heap.objs.size (.lst [])) fp) [] σ' H' s7/\tn i s7.heap/\(∀b∈fp,H' b=aB)/\W i m σ' H':=fun{σ7 H7 s7} J7 ⟨m',hm,w7⟩=>by
    R⟨m',hm,i+1,σ7,H7,J7.unpinned,T.keep _ _ _ st6 λb hb o e=>(J7.pin (b,o) (bh _ (bh _ (Bi hb e)))).1,λb hb=>?_,w7⟩;O⟨o,e,d⟩:=T.obj _ _ st6 b hb;E(J7.pin (b,o) (bh _ (bh _ (Bi hb e)))).2.1
   R Wp (hg _ _ _ _ _ s6 σ4 H6 x u _ J6' r6 (step x H6 y6)) λ_ s7 zq9=>?_;O⟨σ7,H7,J7,q7⟩:=zq9;R Wp (ht _ _ _ _ _ s7 σ7 H7 _ J7 q7) λb s8 zq9=>?_;O⟨H8,J8,q8⟩:=zq9;cases b with
   |false=>K[Д bv]at q8⊢;E again J8 q8
   |true=>K[Е rfl]at q8⊢;R Wp (he _ _ _ _ _ s8 σ7 H8 _ J8 q8) λy s9 zq9=>?_;O⟨vy,H9,J9,r9,q9⟩:=zq9;R Wp (Mg _ s9 σ7 H9 (.ref s.heap.objs.size) [vy] (.ref s.heap.objs.size) [y] _ J9 rfl (.cons r9 .nil) q9) λ_ s10 ⟨_,H10,J10,_,q10⟩=>again J10 q10
 E codeAny_compStart_list (loop _ rfl) (T.self X.A 0 _ _ _ st1 (loop _ rfl))
ЛZh0{tg elt iter:cj}{ifs:А cj}{pos:Pos}{wi:TI}{g:TG}{tt:TT}{te:TE}(hc:X.calm=aC)(S:CompScope X N' scope src)(hi:PI X tg iter wi)
  (hg:∀(C:aj) (s₀:am) (H₀:Hp) (ex:А aj),PG (X.block N' scope C s₀ H₀ ex) tg g)
  (ht:∀(C:aj) (s₀:am) (H₀:Hp) (ex:А aj),PTs (X.block N' scope C s₀ H₀ ex) ifs tt)
  (he:∀(C:aj) (s₀:am) (H₀:Hp) (ex:А aj),PE (X.block N' scope C s₀ H₀ ex) elt te)
  (hs:∀x,foldedSetIterable iter X.env x=pure x:=by I _;rfl):PE X (.ListComp elt [⟨tg,iter,ifs,0⟩] scope pos) (Zdv src wi g tt te):=by
 I pins s σ H Q I h;K[eval_ListComp];R wpAny_comprehension_free (use:=aB) rfl hs (Gq λy hy e=>I.ok.has y.1 (S.free y hy e)) S.kind S.names (Wp (hi pins s σ H _ I h) λv s1 h1=>Wp h1 λitv s2 h2=>?_);O⟨it,fp,tn,J,H2,e,I2,T,st2,f2,q⟩:=h2;Q e;R Aj hc S hg ht he I2 T st2 f2 q λacc C s' H' m I' q' hn hC c1 c2 c3 c4=>⟨m,hn,λh' hs'=>?_⟩
 E⟨.ref acc,H',I'.turned (t':=s'.toks) (λb o hb e=>(hs'.2 b hb).trans e) hC c1 (.inr c2) c3 c4,rfl,q'⟩
ЛXa{tg elt iter:cj}{ifs:А cj}{pos spos py:Pos}{wi:TI}{g:TG}{tt:TT}{te:TE}{i:Г}{y:Str}(hc:X.calm=aC)(S:CompScope X N' scope src)(hi:PI X tg iter wi)
  (hg:∀(C:aj) (s₀:am) (H₀:Hp) (ex:А aj),PG (X.block N' scope C s₀ H₀ ex) tg g)
  (ht:∀(C:aj) (s₀:am) (H₀:Hp) (ex:А aj),PTs (X.block N' scope C s₀ H₀ ex) ifs tt)
  (he:∀(C:aj) (s₀:am) (H₀:Hp) (ex:А aj),PE (X.block N' scope C s₀ H₀ ex) elt te)
  (hN:X.N.Nodup) (hiy:X.N[i]? =aA y) (hx:X.env.scope.names.lookup y=aA .local)
  (hsw:swapsWith (.ListComp elt [⟨tg,iter,ifs,0⟩] scope pos) (aA (.Name y py)) spos.line X.env=pure aC)
  (hs:∀x,foldedSetIterable iter X.env x=pure x:=by I _;rfl):PS X (.Assign [.Name y py] (.ListComp elt [⟨tg,iter,ifs,0⟩] scope pos) spos) (Vx (Zdv src wi g tt te) (Aa i)):=by
 I pins s σ H D I h;K[exec_Assign_Name_used _ _ _ _ hsw];R ac (wpAny_standAt (ac ?_));T bg _ X.A (do let _<-comprehension (.ListComp elt [⟨tg,iter,ifs,0⟩] scope pos) scope X.env _ (newList []) aD (gq iter X.env) (aA (assign (.Name y py) X.env))) _ _ s;R ac (wpAny_mono (wpAny_comprehension_free (use:=aA (assign (.Name y py) X.env)) (Q:=λ_ s'=>SP X pins D .next s') rfl hs (Gq λy hy e=>I.ok.has y.1 (S.free y hy e)) S.kind S.names
  (Wp (hi pins s σ H _ I h) λv s1 h1=>Wp h1 λitv s2 h2=>?_)) (λ_ s' hq=>ag (ag hq)) λ_ _ e=>e)
 O⟨it,fp,tn,J,H2,e,I2,T,st2,f2,q⟩:=h2;Q e;R Aj (Q:=λx H1=>Aa i x σ H1 D.nx) hc S hg ht he I2 T st2 f2 q λacc C s' H' m I' q' hn hC c1 c2 c3 c4=>?_;R wpAny_assign_Name (Fk I' hN hiy (.inl hx) (v:=.ref acc) (u:=.ref acc) rfl (λs'' I'' ⟨a,hsb,ha⟩=>?_) (.inr hx));V hCa:C≠a:=by
  J ha with z|z
  ·K[z];E c1
  ·E Ne.symm (c3 _ _ z)
 R⟨m,hn.sameBut hsb hCa,λh' hs'=>?_⟩;E⟨_,H',I''.turned (t':=s''.toks) (λb o hb e=>(hs'.2 b hb).trans e) hC c1 (.inr c2) c3 c4,q'⟩
end
Мwithout(h:d6)(xs:А aj):Heap:={objs:=(Array.range h.objs.size).map λa=>if a∈xs then{cls:=.none,data:=.freed}else(h.objs[a]?).getD {cls:=.none,data:=.freed}}
structure Raised(h:d6)(e:aj)(cls:ah)(dx tb:Б aj):В where
 obj:∃oe vs,h.get? e=aA oe/\oe.cls=cls/\oe.dict=dx/\oe.data= .fields vs/\vs[1]? =aA (match tb with|none=>.none|some T=>.ref T)
 tr:∀T,tb=aA T->T≠e/\∃oT ts fl,h.get? T=aA oT/\oT.data= .fields ts/\ts[3]? =aA fl
МZuv:Б aj->А aj
 |none=>[]
 |some T=>[T]
structure Noted(l:А aj)(h h':d6)(e:aj)(cls:ah)(dx tb:Б aj)(T:aj):В where
 keep:∀b o,b≠e->b∉Zuv tb->b∉l->h.get? b=aA o->h'.get? b=aA o
 slot:∀b o,b∈l->h.get? b=aA o->∃sl,h'.get? b=aA {o with slots:=sl}
 new:h.get? T=aB\/aA T=tb
 r:Raised h' e cls dx (aA T)
МCX1(P:b6)(w:c7):CXT:=λouter H s E e s'=>∃(a:aj) (cls:ah) (dx:Б aj) (T:aj) (H':Hp),e= .ref a/\s'.os=s.os/\AllBare s'.gens/\Un (frs outer) [] H H' s.heap s'.heap/\Go P w H' s'.heap/\
 Raised s'.heap a cls dx (aA T)/\s.heap.get? a=aB/\s.heap.get? T=aB/\H' a=aB/\H' T=aB/\E cls dx H'
МZuw(X:Cx)(EX:XK):Prop:=∀(pins:А (aj×Obj)) (σ:St) (H:Hp) (s:am) (e:aj) (cls:ah) (dx tb:Б aj),Inv X pins σ H s->Raised s.heap e cls dx tb->X.s₀.heap.get? e=aB->H e=aB->
 (∀T,tb=aA T->X.s₀.heap.get? T=aB/\H T=aB)->EX cls dx H->X.xe (.ref e) s
abbrev VEB:А Value:=[.type "ValueError",.type "Exception",.type "BaseException",.type "object"]
МZuy(EX:XK)(C:aj)(t:TA):TS:=λ_ σ H=>t σ H λvs H1=>vs.length<=sizeLine/\EX (.ref C) aB H1
аEXT:=ah->Б aj->St->Hp->В
МZs6(X:Cx)(EX:EXT):Prop:=∀(pins:А (aj×Obj)) (σ:St) (H:Hp) (s:am) (e:aj) (cls:ah) (dx:Б aj) (T:aj),Inv X pins σ H s->Raised s.heap e cls dx (aA T)->X.s₀.heap.get? e=aB->H e=aB->
 X.s₀.heap.get? T=aB->H T=aB->(∀p∈X.pn++pins,p.1≠e/\p.1≠T)->(e≠X.env.locals/\T≠X.env.locals)->(∀x c,X.env.cells.lookup x=aA c->c≠e/\c≠T)->EX cls dx σ H->X.xe (.ref e) s
МZxo(X:Cx)(EX:EXT):Prop:=∀(pins:А (aj×Obj)) (σ:St) (H:Hp) (s:am) (e:ah) (s':am),Inv X pins σ H s->CX1 X.prog X.w X.stack H s (λcls od H'=>EX cls od σ H') e s'->X.xe e s'
МZuz(sp:Sp)(EX:EXT)(t:TA):TE:=λσ H Q=>t σ H λvs H1=>sp vs H1 Q λcls od H'=>EX cls od σ H'
structure Air(X:Cx)(pins:А (aj×Obj))(H:Hp)(s:am)(e:aj)(cls:ah)(dx:Б aj)(T:aj):В where
 r:Raised s.heap e cls dx (aA T)
 e0:X.s₀.heap.get? e=aB
 eH:H e=aB
 t0:X.s₀.heap.get? T=aB
 tH:H T=aB
 pe:∀p∈X.pn++pins,p.1≠e/\p.1≠T
 le:e≠X.env.locals/\T≠X.env.locals
 ce:∀x c,X.env.cells.lookup x=aA c->c≠e/\c≠T
аCx.inTry(X:Cx)(pn:А (aj×Obj))(xe:ah->am->В):Cx:={X with pn:=pn,xe:=xe}
аCx.inSuite(X:Cx)(a:aj):Cx:={X with A:=X.A.mark (aA (.ref a)),calm:=aD,xe:=λ_ _=>False}
section
variable{X:Cx}{pins:А (aj×Obj)}{σ:St}{H:Hp}{s:am}{e T:aj}{cls:ah}{dx:Б aj}{xe:ah->am->В}
МFu(a C:aj)(dx:Б aj):d6->Prop:=λh=>∃o,h.get? a=aA o/\o.cls= .ref C/\o.dict=dx/\PySem.W.notCls o=aC
end
set_option genInjectivity false in
structure Hd where
 x:Str
 np:Pos
 nm:Б (Str×Г)
 b0:Stmt
 suite:А Stmt
 pos:Pos
 B:aj
 t:TS
МHd.ast(h:Hd):ExceptHandler:=.ExceptHandler (aA (.Name h.x h.np)) (h.nm.map (·.1)) (h.b0::h.suite) h.pos
МEnds.but(D:Ends)(i:Г):Ends:={nx:=λσ H=>D.nx (σ.set i aB) H,bk:=λσ H=>D.bk (σ.set i aB) H,ct:=λσ H=>D.ct (σ.set i aB) H,rt:=D.rt}
МHd.run(h:Hd)(C:aj)(dx:Б aj)(D:Ends)(σ:St)(H:Hp):Prop:=match h.nm with
 |none=>h.t D σ H
 |some (_,i)=>∀a,H a=aB->h.t (D.but i) (σ.set i (aA (.ref a))) (Z9 H a (.ext (Fu a C dx)))
МZkg(K:ad)(C:aj):А Hd->Б Hd
 | []=>aB
 |h::r=>match PySem.W.mroIn K C (.ref h.B)with
  |some aC=>aA h
  |some aD=>Zkg K C r
  |none=>aB
set_option genInjectivity false in
structure Hd.Ok(X:Cx)(h:Hd):В where
 gl:Gl X h.x
 mg:X.mg h.x=aA (.ref h.B)
 ty:PySem.W.typeIn X.K (.ref h.B)=aA (.type "type")
 cl:PySem.W.isClsIn X.K h.B=aC
 bs:PySem.W.mroIn X.K h.B (.type "BaseException")=aA aC
 db:(h.x==("__debug__":Str))=aD
 nm:∀n i,h.nm=aA (n,i)->X.N.Nodup/\X.N[i]? =aA n/\Loc X.env.scope n/\X.env.kindOf n=aA .local/\X.env.scope.names.lookup n=aA .local
 su:∀a,Ta (X.inSuite a) (h.b0::h.suite) h.t
section
variable{X:Cx}{pins:А (aj×Obj)}{σ:St}{H:Hp}{s:am}{e T C:aj}{dx:Б aj}{D:Ends}
МZzz(K:ad)(tb:EXT->TS)(hs:А Hd):TS:=λD σ H=>tb (λcls dx σ' H'=>∃C h,cls= .ref C/\Zkg K C hs=aA h/\h.run C dx D σ' H') D σ H
end
end L2
namespace L2
open PySem PySem.Spec PySem.Calls PyProof.Rows Builtin.ObjectAttr Builtin.Getset_descriptor
structure ExcKit(K:ad)(C:aj):В where
 cl:PySem.W.isClsIn K C=aC
 ga:PySem.W.findIn K (.ref C) "__getattribute__"=aA (aA (.builtin "BaseException.__getattribute__"))
 gt:PySem.W.findIn K (.ref C) "__getattr__"=aA aB
 ca:PySem.W.findIn K (.ref C) "__class__"=aA (aA (.builtin "object.__class__"))
 gs:PySem.W.specialIn K (.builtin "object.__class__") "__get__"=aA (aA (.builtin "getset_descriptor.__get__"))
 tk:PySem.W.takesIn K (.builtin "object.__class__")=aA aC
 ob:PySem.W.mroIn K C (.type "object")=aA aC
 be:PySem.W.mroIn K C (.type "BaseException")=aA aC
section
variable{X:Cx}
МZz0(K:ad)(c:V)(cv:ah):А V->Hp->VK->Prop:=λxs H Q=>∃a C dx b,xs=[.ref a,c]/\H a=aA (.ext (Fu a C dx))/\ExcKit K C/\PySem.W.kitOne K (.ref C) cv=aA b/\Q (.bl b) H
МZxp(K:ad)(Bs:А aj):А V->Hp->VK->Prop:=λxs H Q=>∃a C dx p b,xs=[.ref a,.ref p]/\H a=aA (.ext (Fu a C dx))/\ExcKit K C/\H p=aA (.tup (Bs.map V.ref))/\PySem.W.kitAny K (.ref C) (Bs.map b8)=aA b/\Q (.bl b) H
ЛDc:∀{Bs:А aj} {us:А ah},Z2 (Bs.map V.ref) us->us=Bs.map b8
 | [],_,r=>by K[List.map_nil]at r;C r;rfl
 |B::Bs,_,r=>by
  K[bc]at r;cases r with
  |cons h t=>K[show _=b8 B from h,Dc t];rfl
end
end L2
namespace L2
open PySem PySem.Spec PyProof.Rows
аCx.blockX(X:Cx)(N':А Str)(scope:Scope)(C:aj)(s₀:am)(H₀:Hp)(ex:А aj)(xe:ah->am->В):Cx:=
 {X with N:=N',env:=compEnvC scope (Mh X.env.cells scope.names []) C X.env,s₀:=s₀,H₀:=H₀,outer:=X.stack,stack:=X.stack,ex:=ex,fn:=λ_=>aD,pn:=[],xe:=xe}
section
variable{X:Cx}{N':А Str}{scope:Scope}{src:А BSrc}{pins:А (aj×Obj)}{σ:St}{H:Hp}{s:am}{C acc:aj}{fp:А aj}
МZu0(src:А BSrc)(wi:TI)(g:TG)(tt:TT)(te:EXT->TE)(EX:EXT):TE:=λσ H Q=>wi σ H λJ H1=>∀acc,H1 acc=aB->
 ∃W:Г->Г->St->Hp->В,(∃m,W 0 m (Vt src σ acc) (Z9 H1 acc (.lst [])))/\∀i m σ' H,W i m σ' H->(J.stop i H/\Q (.ref acc) H)\/
  (J.go i H/\∀x H',J.yld i H x H'->g x σ' H' λσ2 H2=>tt σ2 H2 λb H3=>if b=aC then te (λcls od _ H'=>EX cls od σ H') σ2 H3 λy H4=>Bk (.ref acc) [y] H4 λ_ H5=>∃m',m'<m/\W (i+1) m' σ2 H5 else∃m',m'<m/\W (i+1) m' σ2 H3)
end
end L2
namespace PySem
open Sem (wp)
end PySem
namespace L2
open PySem PySem.Spec PySem.Calls PyProof.Rows Builtin.ObjectAttr
МZdw:А ah->Bool
 | .ref _::r=>Zdw r
 |l=>l==VEB
structure ExcSet(K:ad)(C:aj)(name:Str):В where
 sa:PySem.W.findIn K (.ref C) "__setattr__"=aA (aA (.builtin "object.__setattr__"))
 ob:PySem.W.mroIn K C (.type "object")=aA aC
 na:PySem.W.findIn K (.ref C) name=aA aB
 mr:((PySem.W.clsIn K C).any λcd=>Zdw cd.mro&&cd.hasDict)=aC
МCi(a C:aj)(dx:Б aj):d6->Prop:=λh=>∃o t,h.get? a=aA o/\o.cls= .ref C/\o.dict=dx/\o.data= .fields #[.ref t,.none,.none,.none,.bool aD,.none]
end L2
namespace L2
open PySem PySem.Spec PyProof.Rows
МZu1(K:ad)(C f:aj):Bool:=match K.lookup C with
 |some ⟨.type "type",_,.cls cd,sl⟩=>(match cd.mro,sl.toList with
  | .ref B::r,[_,_,_,_,aA (.builtin i),_]=>B==C&&i=="ValueError.__new__" && !cd.hasDel&&PySem.W.tailIn K VEB r&&PySem.W.nsOkIn K cd.ns&&cr K cd.ns "__init__"==aA (aA (.ref f))
  |_,_=>aD)
 |_=>aD
МZs7(C f:aj)(h:d6):Prop:=∃(bm:А ah) (N:aj) (nm q:Str) (bs:А ah) (hdct:Bool) (sn:А Str) (sub:А ah) (ab:Bool) (col:Б Bool) (dd:Б aj) (k0 k1 k2 k3 k5:Б ah) (mN:Str->Б ah),
 h.get? C=aA (excClassObj nm q C N bs bm hdct sn sub ab col dd k0 k1 k2 k3 k5 "ValueError.__new__")/\h.Ns N mN/\mN "__init__"=aA (.ref f)/\OwnTail h VEB bm
Мdrop(H:Hp)(e:aj):Hp:=λb=>if b=e then aB else H b
structure ExcGet(K:ad)(C:aj)(f:Str):В where
 kit:ExcKit K C
 na:PySem.W.findIn K (.ref C) f=aA aB
 mr:((PySem.W.clsIn K C).any λcd=>cd.hasDict)=aC
МZu2(K:ad)(ta:TE)(f:Str):TE:=λσ H Q=>ta σ H λx H1=>∃a C dx fs v,x= .ref a/\H1 a=aA (.ext (Fu a C (aA dx)))/\H1 dx=aA (.xd fs)/\ExcGet K C f/\fs.lookup f=aA v/\Q v H1
section
variable{X:Cx}{e o value:cj}{f:Str}{pos pos':Pos}{ta tv:TE}
МZu3(K:ad)(ta tv:TE)(f:Str):TS:=λD σ H=>tv σ H λy H1=>ta σ H1 λx H2=>∃a C,x= .ref a/\H2 a=aA (.ext (Ci a C aB))/\ExcSet K C f/\
 ∀dx,H2 dx=aB->D.nx σ (Z9 (Z9 H2 dx (.xd [(f,y)])) a (.ext (Ci a C (aA dx))))
end
МZs8(EX:XK)(C:aj)(sp:Sp)(t:TA):TS:=λ_ σ H=>t σ H λvs H1=>vs.length<=sizeLine/\∀e,H1 e=aB->sp (.ref e::vs) (Z9 H1 e (.ext (Ci e C aB))) (λv H2=>v= .non/\∃dx,H2 e=aA (.ext (Ci e C dx))/\EX (.ref C) dx (drop H2 e)) E0
end L2
namespace DL
open PySem L2
variable{K:ad}
inductive D where
 |non|bl (b:Bool)|int (i:Int)|str (x:Str)
 |tup (xs:А D)|lst (xs:А D)
 |dK (ks:А Key) (vs:А D)|dT (ks:А (А Key)) (vs:А D)|dX (ks:А Zl) (vs:А D)
 |exc (c:Str) (ks:А Str) (vs:А D)
МAk(K:ad)(c:Str)(C:aj):Prop:=cr K b7 c=aA (aA (.ref C))
МKB(F:Hp)(kvs:А (А Key×V))(bs:А aj):Prop:=Paired (λ(p:А Key×V) (b:aj)=>F b=aA (.tup (p.1.map kV))) kvs bs
МKN(F:Hp)(kvs:А (Zl×V))(bs:А aj):Prop:=Paired (λ(p:Zl×V) (b:aj)=>Q4 F p.1 b) kvs bs
mutual
inductive Rep(K:ad)(F:Hp):D->V->В where
 |non:Rep K F .non .non
 |bl (b:Bool):Rep K F (.bl b) (.bl b)
 |int (i:Int):Rep K F (.int i) (.int i)
 |str (x:Str):Rep K F (.str x) (.str x)
 |tup {a:aj} {xs:А D} {vs:А V} (h:F a=aA (.tup vs)) (r:Reps K F xs vs):Rep K F (.tup xs) (.ref a)
 |lst {a:aj} {xs:А D} {vs:А V} (h:W5 K F a vs) (o:F a=aA (.lst vs)\/∀d∈xs,∃i,d= .int i) (r:Reps K F xs vs):Rep K F (.lst xs) (.ref a)
 |dK {a:aj} {ks:А Key} {ds:А D} {kvs:А (Key×V)} {ep:Г} (h:F a=aA (.dK kvs ep)) (e:kvs.map (·.1)=ks) (r:Reps K F ds (kvs.map (·.2))):Rep K F (.dK ks ds) (.ref a)
 |dT {a:aj} {ks:А (А Key)} {ds:А D} {kvs:А (А Key×V)} {ep:Г} {bs:А aj} (h:F a=aA (.dT kvs ep bs)) (kb:KB F kvs bs) (e:kvs.map (·.1)=ks) (r:Reps K F ds (kvs.map (·.2))):Rep K F (.dT ks ds) (.ref a)
 |dX {a:aj} {ks:А Zl} {ds:А D} {kvs:А (Zl×V)} {ep:Г} {bs:А aj} (h:F a=aA (.dN kvs ep bs)) (kb:KN F kvs bs) (e:kvs.map (·.1)=ks) (r:Reps K F ds (kvs.map (·.2))):Rep K F (.dX ks ds) (.ref a)
 |exc {a C:aj} {c:Str} (cl:Ak K c C) (h:F a=aA (.ext (Fu a C aB))):Rep K F (.exc c [] []) (.ref a)
 |exd {a C dx:aj} {c:Str} {ks:А Str} {ds:А D} {fs:А (Str×V)} (cl:Ak K c C) (h:F a=aA (.ext (Fu a C (aA dx)))) (hx:F dx=aA (.xd fs)) (e:fs.map (·.1)=ks) (r:Reps K F ds (fs.map (·.2))):Rep K F (.exc c ks ds) (.ref a)
inductive Reps(K:ad)(F:Hp):А D->А V->В where
 |nil:Reps K F [] []
 |cons {d:D} {v:V} {ds:А D} {vs:А V} (h:Rep K F d v) (t:Reps K F ds vs):Reps K F (d::ds) (v::vs)
end
ЛKB.mono{F F':Hp}(s:Zi F F'){kvs:А (А Key×V)}{bs:А aj}(h:KB F kvs bs):KB F' kvs bs:=Paired.mapP h λ_ _ z=>s _ _ z
ЛKN.mono{F F':Hp}(s:Zi F F'){kvs:А (Zl×V)}{bs:А aj}(h:KN F kvs bs):KN F' kvs bs:=Paired.mapP h λ_ _ z=>z.mono λ_ _ q=>s _ _ q
ЛZdx{F F':Hp}(s:Zi F F'){a:aj}{u:HO}(h:Rd F a u):Rd F' a u:=by
 J h with h|⟨o,h⟩
 ·E .inl (s _ _ h)
 ·E .inr ⟨o,s _ _ h⟩
ЛWb{F F':Hp}(s:Zi F F'){a:aj}{xs:А V}(h:W5 K F a xs):W5 K F' a xs:=by
 J h with h|h
 ·E .inl (Zdx s h)
 ·E .inr h
ЛQf{F F':Hp}(s:Zi F F'){a:aj}{xs:А V}(h:Ob K F a xs):Ob K F' a xs:=by
 J h with h|h
 ·E .inl (Zdx s h)
 ·E .inr h
ЛGr{F:Hp}{a:aj}{vs:А V}(h:F a=aA (.tup vs)):Ob K F a vs:=.inl (.inl h)
mutual
ЛRep.mono{F F':Hp}(s:Zi F F'):∀{d:D} {v:V},Rep K F d v->Rep K F' d v
 |_,_,.non=>.non
 |_,_,.bl b=>.bl b
 |_,_,.int i=>.int i
 |_,_,.str x=>.str x
 |_,_,.tup h r=>.tup (s _ _ h) (Reps.mono s r)
 |_,_,.lst h o r=>.lst (Wb s h) (o.imp (λz=>s _ _ z) id) (Reps.mono s r)
 |_,_,.dK h e r=>.dK (s _ _ h) e (Reps.mono s r)
 |_,_,.dT h kb e r=>.dT (s _ _ h) (kb.mono s) e (Reps.mono s r)
 |_,_,.dX h kb e r=>.dX (s _ _ h) (kb.mono s) e (Reps.mono s r)
 |_,_,.exc cl h=>.exc cl (s _ _ h)
 |_,_,.exd cl h hx e r=>.exd cl (s _ _ h) (s _ _ hx) e (Reps.mono s r)
ЛReps.mono{F F':Hp}(s:Zi F F'):∀{ds:А D} {vs:А V},Reps K F ds vs->Reps K F' ds vs
 |_,_,.nil=>.nil
 |_,_,.cons h t=>.cons (Rep.mono s h) (Reps.mono s t)
end
ЛReps.length{F:Hp}{ds:А D}:∀{vs:А V},Reps K F ds vs->ds.length=vs.length:=by
 induction ds with
 |nil=>intro vs h;C h;rfl
 |cons d ds ih=>
  I vs h;cases h with
  |cons _ t=>K[bf,bf,ih t]
ЛReps.append{F:Hp}{ds es:А D}{vs us:А V}(h:Reps K F ds vs)(q:Reps K F es us):Reps K F (ds++es) (vs++us):=by
 induction ds generalizing vs with
 |nil=>C h;E q
 |cons d ds ih=>
  cases h with
  |cons h t=>E .cons h (ih t)
ЛReps.snoc{F:Hp}{ds:А D}{vs:А V}{d:D}{v:V}(r:Reps K F ds vs)(h:Rep K F d v):Reps K F (ds++[d]) (vs++[v]):=r.append (.cons h .nil)
ЛReps.get{F:Hp}:∀{ds:А D} {vs:А V} {i:Г} {d:D},Reps K F ds vs->ds[i]? =aA d->∃v,vs[i]? =aA v/\Rep K F d v
 |_,_,_,_,.nil,e=>by simp at e
 |_,_,0,_,.cons h t,e=>by simp at e;Q e;E⟨_,rfl,h⟩
 |_,_,i+1,d,.cons h t,e=>by O⟨v,h1,h2⟩:=Reps.get (i:=i) (d:=d) t (by L e);E⟨v,by L h1,h2⟩
ЛReps.take{F:Hp}:∀{ds:А D} {vs:А V} (n:Г),Reps K F ds vs->Reps K F (ds.take n) (vs.take n)
 |_,_,0,_=>.nil
 |_,_,_+1,.nil=>.nil
 |_,_,n+1,.cons h t=>.cons h (t.take n)
ЛReps.drop{F:Hp}:∀{ds:А D} {vs:А V} (n:Г),Reps K F ds vs->Reps K F (ds.drop n) (vs.drop n)
 |_,_,0,r=>r
 |_,_,_+1,.nil=>.nil
 |_,_,n+1,.cons h t=>t.drop n
inductive SV where
 |fz (d:D)|ol (xs:А D)|oK (ks:А Key) (vs:А D)|oT (ks:А (А Key)) (vs:А D)|oN (ks:А Key) (xss:А (А D))|oL (pin:Б aj) (xss:А (А D))|oQ (pin:aj) (ks:А Key) (vs:А D)|oX (ks:А Zl) (xss:А (А D))|oD (dss:А (А Key×А D))
НSV.toD:SV->D
 | .fz d=>d
 | .ol xs=>.lst xs
 | .oK ks vs=>.dK ks vs
 | .oT ks vs=>.dT ks vs
 | .oN ks xss=>.dK ks (xss.map D.lst)
 | .oL _ xss=>.lst (xss.map D.lst)
 | .oQ _ ks vs=>.dK ks vs
 | .oX ks xss=>.dX ks (xss.map D.lst)
 | .oD dss=>.lst (dss.map λp=>.dK p.1 p.2)
аZo:=А (aj×HO)
inductive Kids(K:ad)(F:Hp):А (А D)->А V->Zo->В where
 |nil:Kids K F [] [] []
 |cons {xs:А D} {xss:А (А D)} {b:aj} {vs:А V} {ws:А V} {ns:Zo} (r:Reps K F xs vs) (t:Kids K F xss ws ns):Kids K F (xs::xss) (.ref b::ws) ((b,.lst vs)::ns)
inductive KidD(K:ad)(F:Hp):А (А Key×А D)->А V->Zo->В where
 |nil:KidD K F [] [] []
 |cons {ds:А D} {dss:А (А Key×А D)} {b:aj} {kvs:А (Key×V)} {ep:Г} {ws:А V} {ns:Zo} (r:Reps K F ds (kvs.map (·.2))) (t:KidD K F dss ws ns):KidD K F ((kvs.map (·.1),ds)::dss) (.ref b::ws) ((b,.dK kvs ep)::ns)
inductive Shape(K:ad)(F:Hp):SV->V->Zo->В where
 |fz {d:D} {v:V} (h:Rep K F d v):Shape K F (.fz d) v []
 |ol {a:aj} {xs:А D} {vs:А V} (r:Reps K F xs vs):Shape K F (.ol xs) (.ref a) [(a,.lst vs)]
 |oK {a:aj} {ks:А Key} {ds:А D} {kvs:А (Key×V)} {ep:Г} (e:kvs.map (·.1)=ks) (r:Reps K F ds (kvs.map (·.2))):Shape K F (.oK ks ds) (.ref a) [(a,.dK kvs ep)]
 |oT {a:aj} {ks:А (А Key)} {ds:А D} {kvs:А (А Key×V)} {ep:Г} {bs:А aj} (kb:KB F kvs bs) (e:kvs.map (·.1)=ks) (r:Reps K F ds (kvs.map (·.2))):Shape K F (.oT ks ds) (.ref a) [(a,.dT kvs ep bs)]
 |oN {a:aj} {ks:А Key} {xss:А (А D)} {kvs:А (Key×V)} {ns:Zo} {ep:Г} (e:kvs.map (·.1)=ks) (r:Kids K F xss (kvs.map (·.2)) ns):Shape K F (.oN ks xss) (.ref a) ((a,.dK kvs ep)::ns)
 |oL {pin:Б aj} {a:aj} {xss:А (А D)} {ws:А V} {ns:Zo} (hp:∀b,pin=aA b->b=a) (r:Kids K F xss ws ns):Shape K F (.oL pin xss) (.ref a) ((a,.lst ws)::ns)
 |oQ {a:aj} {ks:А Key} {ds:А D} {kvs:А (Key×V)} {ep:Г} (e:kvs.map (·.1)=ks) (r:Reps K F ds (kvs.map (·.2))):Shape K F (.oQ a ks ds) (.ref a) [(a,.dK kvs ep)]
 |oX {a:aj} {ks:А Zl} {xss:А (А D)} {kvs:А (Zl×V)} {ns:Zo} {ep:Г} {bs:А aj} (kb:KN F kvs bs) (e:kvs.map (·.1)=ks) (r:Kids K F xss (kvs.map (·.2)) ns):Shape K F (.oX ks xss) (.ref a) ((a,.dN kvs ep bs)::ns)
 |oD {a:aj} {dss:А (А Key×А D)} {ws:А V} {ns:Zo} (r:KidD K F dss ws ns):Shape K F (.oD dss) (.ref a) ((a,.lst ws)::ns)
ЛKidD.mono{F F':Hp}(s:Zi F F'):∀{dss:А (А Key×А D)} {ws:А V} {ns:Zo},KidD K F dss ws ns->KidD K F' dss ws ns
 |_,_,_,.nil=>.nil
 |_,_,_,.cons r t=>.cons (r.mono s) (t.mono s)
ЛKids.mono{F F':Hp}(s:Zi F F'){xss:А (А D)}{ws:А V}{ns:Zo}(h:Kids K F xss ws ns):Kids K F' xss ws ns:=by
 induction h with
 |nil=>E .nil
 |cons r _ ih=>E .cons (r.mono s) ih
ЛShape.mono{F F':Hp}(s:Zi F F'){sv:SV}{v:V}{ns:Zo}(h:Shape K F sv v ns):Shape K F' sv v ns:=by
 cases h with
 |fz h=>E .fz (h.mono s)
 |ol r=>E .ol (r.mono s)
 |oK e r=>E .oK e (r.mono s)
 |oT kb e r=>E .oT (kb.mono s) e (r.mono s)
 |oN e r=>E .oN e (r.mono s)
 |oL hp r=>E .oL hp (r.mono s)
 |oQ e r=>E .oQ e (r.mono s)
 |oX kb e r=>E .oX (kb.mono s) e (r.mono s)
 |oD r=>E .oD (r.mono s)
МUe(F:Hp):Zo->Hp
 | []=>F
 |p::r=>Z9 (Ue F r) p.1 p.2
аBf(ns:Zo):А Addr:=ns.map (·.1)
ЛO7{F:Hp}{b:aj}:∀{ns:Zo},b∉Bf ns->Ue F ns b=F b
 | [],_=>rfl
 |p::r,h=>by V h1:b≠p.1:=λe=>h (by K[e];E af);V h2:b∉Bf r:=λe=>h (ao _ e);T Z9 (Ue F r) p.1 p.2 b=F b;K[Zw h1,O7 h2]
ЛAl{F:Hp}{p:aj×HO}:∀{ns:Zo},(Bf ns).Nodup->p∈ns->Ue F ns p.1=aA p.2
 | [],_,h=>nomatch h
 |q::r,nd,h=>by
  O⟨n1,n2⟩:=dm.mp nd;T Z9 (Ue F r) q.1 q.2 p.1=aA p.2;J bx.mp h with e|e
  ·Q e;E Z3
  ·K[Zw λz=>n1 (ax.mpr ⟨p,e,z⟩)];E Al n2 e
ЛQl{F:Hp}{ns:Zo}(h:∀p∈ns,F p.1=aB):Zi F (Ue F ns):=λb o e=>by
 B hb:b∈Bf ns
 ·O⟨p,hp,ep⟩:=ax.mp hb;Q ep;K[h p hp]at e;C e
 ·K[O7 hb];E e
ЛDd{F H:Hp}{ns:Zo}(nd:(Bf ns).Nodup)(le:Zi F H)(h:∀p∈ns,H p.1=aA p.2):Zi (Ue F ns) H:=λb o e=>by
 B hb:b∈Bf ns
 ·O⟨p,hp,ep⟩:=ax.mp hb;Q ep;K[Al nd hp]at e;C e;E h p hp
 ·K[O7 hb]at e;E le b o e
ЛP0{Z:Hp×Hp}{F:Hp}{ns:Zo}(nd:(Bf ns).Nodup)(fro:∀(b:aj) (o:HO),F b=aA o->Z.2 b=aA o\/Z.1 b=aB)(hz:∀p∈ns,Z.1 p.1=aB):∀(b:aj) (o:HO),Ue F ns b=aA o->Z.2 b=aA o\/Z.1 b=aB:=λb o e=>by
 B hb:b∈Bf ns
 ·O⟨p,hp,ep⟩:=ax.mp hb;Q ep;E .inr (hz p hp)
 ·K[O7 hb]at e;E fro b o e
ЛKids.rep{F F':Hp}(s:Zi F F'):∀{xss:А (А D)} {ws:А V} {ns:Zo},Kids K F xss ws ns->(∀p∈ns,F' p.1=aA p.2)->Reps K F' (xss.map D.lst) ws
 |_,_,_,.nil,_=>.nil
 |_,_,_,.cons r t,h=>.cons (.lst (.inl (.inl (h _ af))) (.inl (h _ af)) (r.mono s)) (t.rep s λp hp=>h p (ao _ hp))
ЛKidD.rep{F F':Hp}(s:Zi F F'):∀{dss:А (А Key×А D)} {ws:А V} {ns:Zo},KidD K F dss ws ns->(∀p∈ns,F' p.1=aA p.2)->Reps K F' (dss.map λp=>.dK p.1 p.2) ws
 |_,_,_,.nil,_=>.nil
 |_,_,_,.cons r t,h=>.cons (.dK (h _ af) rfl (r.mono s)) (t.rep s λp hp=>h p (ao _ hp))
ЛShape.rep{F:Hp}{sv:SV}{v:V}{ns:Zo}(h:Shape K F sv v ns)(nd:(Bf ns).Nodup)(hn:∀p∈ns,F p.1=aB):Rep K (Ue F ns) sv.toD v:=by
 V s:=Ql hn;V a:∀p∈ns,Ue F ns p.1=aA p.2:=λp hp=>Al nd hp;cases h with
 |fz h=>E h
 |ol r=>E .lst (.inl (.inl (a (_,_) af))) (.inl (a (_,_) af)) (r.mono s)
 |oK e r=>E .dK (a (_,_) af) e (r.mono s)
 |oT kb e r=>E .dT (a (_,_) af) (kb.mono s) e (r.mono s)
 |oN e r=>E .dK (a (_,_) af) e (r.rep s λp hp=>a p (ao _ hp))
 |oL _ r=>E .lst (.inl (.inl (a (_,_) af))) (.inl (a (_,_) af)) (r.rep s λp hp=>a p (ao _ hp))
 |oQ e r=>E .dK (a (_,_) af) e (r.mono s)
 |oX kb e r=>E .dX (a (_,_) af) (kb.mono s) e (r.rep s λp hp=>a p (ao _ hp))
 |oD r=>E .lst (.inl (.inl (a (_,_) af))) (.inl (a (_,_) af)) (r.rep s λp hp=>a p (ao _ hp))
аYk:=А (Б SV)
set_option genInjectivity false in
structure Ent(K:ad)where
 h:Hp
 f:Hp
 x:EXT
аent(H F:Hp):Ent K:=⟨H,F,λ_ _ _ _=>False⟩
set_option genInjectivity false in
structure Exn where
 c:Str
 ks:А Str:=[]
 vs:А D:=[]
МLz(K:ad)(F:Hp)(e:Exn)(cls:ah)(od:Б aj):Prop:=∃C,Ak K e.c C/\cls= .ref C/\match od with
 |none=>e.ks=[]/\e.vs=[]
 |some dx=>∃fs:А (Str×V),F dx=aA (.xd fs)/\fs.map (·.1)=e.ks/\Reps K F e.vs (fs.map (·.2))
structure SR(Z:Ent K)(F H:Hp)(σ:St)(δ:Yk)(own:Г->Zo):В where
 le:Zi F H
 fro:∀(b:aj) (o:HO),F b=aA o->Z.f b=aA o\/Z.h b=aB
 old:Zi Z.h H
 len:σ.length=δ.length
 at':∀(i:Г) (sv:SV),δ[i]? =aA (aA sv)->∃v,σ[i]? =aA (aA v)/\Shape K F sv v (own i)
 nod:∀i:Г,(Bf (own i)).Nodup
 ok:∀(i:Г) (p:aj×HO),p∈own i->F p.1=aB/\Z.h p.1=aB/\H p.1=aA p.2
 sep:∀(i j:Г) (p q:aj×HO),i≠j->p∈own i->q∈own j->p.1≠q.1
inductive RV where
 |tmp (sv:SV)|bw (i:Г)
structure TmpOk(Z:Ent K)(F H:Hp)(own:Г->Zo)(sv:SV)(v:V)(ns:Zo):В where
 sh:Shape K F sv v ns
 nd:(Bf ns).Nodup
 ok:∀p∈ns,F p.1=aB/\Z.h p.1=aB/\H p.1=aA p.2
 sep:∀(i:Г) (p q:aj×HO),p∈ns->q∈own i->p.1≠q.1
МP3(Z:Ent K)(F H:Hp)(σ:St)(own:Г->Zo):RV->V->В
 | .tmp sv,v=>∃ns,TmpOk Z F H own sv v ns
 | .bw i,v=>σ[i]? =aA (aA v)
ЛTmpOk.fz{Z:Ent K}{F H:Hp}{own:Г->Zo}{d:D}{v:V}(h:Rep K F d v):TmpOk Z F H own (.fz d) v []:=
 ⟨.fz h,df,λ_ h=>(nomatch h),λ_ _ _ h=>(nomatch h)⟩
ЛWs{H:Hp}{p:aj}{o:HO}(h:H p=aB):Zi H (Z9 H p o):=λb u e=>by K[Zw λz=>by K[z,h]at e;cases e];E e
ЛSR.grow{Z:Ent K}{F H H':Hp}{σ:St}{δ:Yk}{own:Г->Zo}(s:SR Z F H σ δ own)(h:Zi H H'):SR Z F H' σ δ own:=
 ⟨s.le.trans h,s.fro,s.old.trans h,s.len,s.at',s.nod,λi p hp=>let⟨a,b,c⟩:=s.ok i p hp;⟨a,b,h _ _ c⟩,s.sep⟩
ЛSR.addF{Z:Ent K}{F H:Hp}{σ:St}{δ:Yk}{own:Г->Zo}{ns:Zo}(s:SR Z F H σ δ own)(nd:(Bf ns).Nodup)(hn:∀p∈ns,F p.1=aB)(hH:∀p∈ns,H p.1=aA p.2)(hz:∀p∈ns,Z.h p.1=aB)
  (hs:∀(i:Г) (p q:aj×HO),p∈ns->q∈own i->p.1≠q.1):SR Z (Ue F ns) H σ δ own:=by
 V sm:=Ql hn;R⟨Dd nd s.le hH,P0 (Z:=(Z.h,Z.f)) nd s.fro hz,s.old,s.len,λi sv e=>?_,s.nod,λi p hp=>?_,s.sep⟩
 ·O⟨v,h1,h2⟩:=s.at' i sv e;E⟨v,h1,h2.mono sm⟩
 ·O⟨a,b,c⟩:=s.ok i p hp;R⟨?_,b,c⟩;K[O7 λhb=>?_]
  ·E a
  ·O⟨q,hq,e⟩:=ax.mp hb;E hs i q p hq hp e
ЛSR.settle{Z:Ent K}{F H:Hp}{σ:St}{δ:Yk}{own:Г->Zo}{sv:SV}{v:V}{ns:Zo}(s:SR Z F H σ δ own)(t:TmpOk Z F H own sv v ns):
  ∃F1,Zi F F1/\SR Z F1 H σ δ own/\Rep K F1 sv.toD v:=
 ⟨Ue F ns,Ql λp hp=>(t.ok p hp).1,s.addF t.nd (λp hp=>(t.ok p hp).1) (λp hp=>(t.ok p hp).2.2) (λp hp=>(t.ok p hp).2.1) t.sep,t.sh.rep t.nd λp hp=>(t.ok p hp).1⟩
Мput(own:Г->Zo)(i:Г)(ns:Zo):Г->Zo:=λj=>if j=i then ns else own j
ЛYh{own:Г->Zo}{i:Г}{ns:Zo}:put own i ns i=ns:=Е rfl
ЛYw{own:Г->Zo}{i j:Г}{ns:Zo}(h:j≠i):put own i ns j=own j:=Д h
ЛSR.freeze{Z:Ent K}{F H:Hp}{σ:St}{δ:Yk}{own:Г->Zo}{i:Г}{sv:SV}(s:SR Z F H σ δ own)(e:δ[i]? =aA (aA sv)):
  ∃F1 v,Zi F F1/\σ[i]? =aA (aA v)/\Rep K F1 sv.toD v/\SR Z F1 H σ (δ.set i (aA (.fz sv.toD))) (put own i []):=by
 O⟨v,h1,h2⟩:=s.at' i sv e;V hn:∀p∈own i,F p.1=aB:=λp hp=>(s.ok i p hp).1;V sm:=Ql hn;V hi:i<δ.length:=(a8.mp e).1;R⟨Ue F (own i),v,sm,h1,h2.rep (s.nod i) hn,⟨Dd (s.nod i) s.le λp hp=>(s.ok i p hp).2.2,P0 (Z:=(Z.h,Z.f)) (s.nod i) s.fro λp hp=>(s.ok i p hp).2.1,s.old,by K[List.length_set];E s.len,λj sw ej=>?_,λj=>?_,λj p hp=>?_,λj k p q hjk hp hq=>?_⟩⟩
 ·B hj:j=i
  ·Q hj;K[d5 hi]at ej;C ej;K[Yh];E⟨v,h1,.fz (h2.rep (s.nod j) hn)⟩
  ·K[fj (Ne.symm hj)]at ej;O⟨w,g1,g2⟩:=s.at' j sw ej;K[Yw hj];E⟨w,g1,g2.mono sm⟩
 ·B hj:j=i
  ·Q hj;K[Yh];E df
  ·K[Yw hj];E s.nod j
 ·B hj:j=i
  ·Q hj;K[Yh]at hp;E nomatch hp
  ·K[Yw hj]at hp;O⟨a,b,c⟩:=s.ok j p hp;R⟨?_,b,c⟩;K[O7 λhb=>?_]
   ·E a
   ·O⟨q,hq,z⟩:=ax.mp hb;E s.sep i j q p (Ne.symm hj) hq hp z
 ·B hj:j=i
  ·Q hj;K[Yh]at hp;E nomatch hp
  ·B hk:k=i
   ·Q hk;K[Yh]at hq;E nomatch hq
   ·K[Yw hj]at hp;K[Yw hk]at hq;E s.sep j k p q hjk hp hq
ЛSR.store{Z:Ent K}{F H:Hp}{σ:St}{δ:Yk}{own:Г->Zo}{i:Г}{sv:SV}{v:V}{ns:Zo}(s:SR Z F H σ δ own)(t:TmpOk Z F H own sv v ns)(hi:i<σ.length):
  SR Z F H (σ.set i (aA v)) (δ.set i (aA sv)) (put own i ns):=by
 R⟨s.le,s.fro,s.old,by K[List.length_set,List.length_set];E s.len,λj sw ej=>?_,λj=>?_,λj p hp=>?_,λj k p q hjk hp hq=>?_⟩
 ·B hj:j=i
  ·Q hj;V hd:j<δ.length:=by V :=(a8.mp ej).1;L this
   K[d5 hd]at ej;C ej;K[Yh,d5 hi];E⟨v,rfl,t.sh⟩
  ·K[fj (Ne.symm hj)]at ej;K[Yw hj,fj (Ne.symm hj)];E s.at' j sw ej
 ·B hj:j=i
  ·Q hj;K[Yh];E t.nd
  ·K[Yw hj];E s.nod j
 ·B hj:j=i
  ·Q hj;K[Yh]at hp;E t.ok p hp
  ·K[Yw hj]at hp;E s.ok j p hp
 ·B hj:j=i
  ·Q hj;K[Yh]at hp;K[Yw (Ne.symm hjk)]at hq;E t.sep k p q hp hq
  ·B hk:k=i
   ·Q hk;K[Yh]at hq;K[Yw hj]at hp;E Ne.symm (t.sep j q p hq hp)
   ·K[Yw hj]at hp;K[Yw hk]at hq;E s.sep j k p q hjk hp hq
ЛSR.change{Z:Ent K}{F H:Hp}{σ:St}{δ:Yk}{own:Г->Zo}{i:Г}{sv sv':SV}{a:aj}{o o':HO}{v:V}{ns':Zo}(s:SR Z F H σ δ own)(e:δ[i]? =aA (aA sv))(hv:σ[i]? =aA (aA v))
  (ha:(a,o)∈own i) (hs:Shape K F sv' v ns') (hns:∀p∈ns',p=(a,o')\/(p∈own i/\p.1≠a)) (nd:(Bf ns').Nodup):SR Z F (Z9 H a o') σ (δ.set i (aA sv')) (put own i ns'):=by
 O⟨fa,ha0,hHa⟩:=s.ok i (a,o) ha;V hi:i<δ.length:=(a8.mp e).1;R⟨λb u eb=>?_,s.fro,λb u eb=>?_,by K[List.length_set];E s.len,λj sw ej=>?_,λj=>?_,λj p hp=>?_,λj k p q hjk hp hq=>?_⟩
 ·K[Zw λz=>by K[z]at eb;K[fa]at eb;cases eb];E s.le b u eb
 ·K[Zw λz=>by K[z]at eb;K[ha0]at eb;cases eb];E s.old b u eb
 ·B hj:j=i
  ·Q hj;K[d5 hi]at ej;C ej;K[Yh];E⟨v,hv,hs⟩
  ·K[fj (Ne.symm hj)]at ej;K[Yw hj];E s.at' j sw ej
 ·B hj:j=i
  ·Q hj;K[Yh];E nd
  ·K[Yw hj];E s.nod j
 ·B hj:j=i
  ·Q hj;K[Yh]at hp;J hns p hp with z|⟨z,ne⟩
   ·Q z;E⟨fa,ha0,Z3⟩
   ·O⟨x,y,w⟩:=s.ok j p z;E⟨x,y,by K[Zw ne];E w⟩
  ·K[Yw hj]at hp;O⟨x,y,w⟩:=s.ok j p hp;E⟨x,y,by K[Zw (s.sep j i p (a,o) hj hp ha)];E w⟩
 ·V own':∀r∈ns',∃r'∈own i,r.1=r'.1:=λr hr=>by
   J hns r hr with z|⟨z,_⟩
   ·Q z;E⟨(a,o),ha,rfl⟩
   ·E⟨r,z,rfl⟩
  B hj:j=i
  ·Q hj;K[Yh]at hp;K[Yw (Ne.symm hjk)]at hq;O⟨r',hr',er⟩:=own' p hp;K[er];E s.sep j k r' q hjk hr' hq
  ·B hk:k=i
   ·Q hk;K[Yh]at hq;K[Yw hj]at hp;O⟨r',hr',er⟩:=own' q hq;K[er];E s.sep j k p r' hjk hp hr'
   ·K[Yw hj]at hp;K[Yw hk]at hq;E s.sep j k p q hjk hp hq
end DL
namespace DL
open PySem L2
variable{K:ad}
аFE:=Yk->Б (RV×Yk)
аFT:=Yk->Б (Bool×Yk)
аFA:=Yk->Б (А RV×Yk)
аFD:=Yk->Б (А D×Yk)
НSV.nested:SV->Bool
 | .oN _ _=>aC
 | .oL _ _=>aC
 | .oX _ _=>aC
 | .oD _=>aC
 |_=>aD
НIw:RV->Yk->Б D
 | .tmp sv,_=>aA sv.toD
 | .bw i,δ=>(δ[i]?.join).bind λsv=>if sv.nested then aB else aA sv.toD
Нfrz:RV->Yk->Б (D×Yk)
 | .tmp sv,δ=>aA (sv.toD,δ)
 | .bw i,δ=>(δ[i]?.join).bind λsv=>aA (sv.toD,δ.set i (aA (.fz sv.toD)))
ЛO8{δ:Yk}{i:Г}{sv:SV}(h:δ[i]?.join=aA sv):δ[i]? =aA (aA sv):=by
 cases e:δ[i]? with
 |none=>K[e]at h;C h
 |some o=>K[e]at h;cases o with
  |none=>C h
  |some s=>C h;rfl
МZe(Z:Ent K)(f:FE):TE:=λσ H Q=>∃F δ own rv δ',SR Z F H σ δ own/\f δ=aA (rv,δ')/\
 ∀v H' F' own',Zi H H'->Zi F F'->SR Z F' H' σ δ' own'->P3 Z F' H' σ own' rv v->Q v H'
МYl(Z:Ent K)(f:FT):TT:=λσ H Q=>∃F δ own b δ',SR Z F H σ δ own/\f δ=aA (b,δ')/\
 ∀H' F' own',Zi H H'->Zi F F'->SR Z F' H' σ δ' own'->Q b H'
МRVS(K:ad)(F:Hp)(σ:St):RV->V->В
 | .tmp sv,v=>Rep K F sv.toD v
 | .bw i,v=>σ[i]? =aA (aA v)
inductive RVSs(K:ad)(F:Hp)(σ:St):А RV->А V->В where
 |nil:RVSs K F σ [] []
 |cons {rv:RV} {v:V} {rvs:А RV} {vs:А V} (h:RVS K F σ rv v) (t:RVSs K F σ rvs vs):RVSs K F σ (rv::rvs) (v::vs)
МCb(Z:Ent K)(f:FA):TA:=λσ H Q=>∃F δ own rvs δ',SR Z F H σ δ own/\f δ=aA (rvs,δ')/\
 ∀vs H' F' own',Zi H H'->Zi F F'->SR Z F' H' σ δ' own'->RVSs K F' σ rvs vs->Q vs H'
МQu(Z:Ent K)(f:FD):TA:=λσ H Q=>∃F δ own ds δ',SR Z F H σ δ own/\f δ=aA (ds,δ')/\
 ∀vs H' F' own',Zi H H'->Zi F F'->SR Z F' H' σ δ' own'->Reps K F' ds vs->Q vs H'
section
variable{Z:Ent K}{F H F' H':Hp}{σ:St}{δ δ':Yk}{own:Г->Zo}{rv:RV}{v:V}{d:D}{Q:VK}
ЛRVS.mono(s:Zi F F')(h:RVS K F σ rv v):RVS K F' σ rv v:=by
 cases rv with
 |tmp sv=>E Rep.mono s h
 |bw i=>E h
ЛSR.settleR(s:SR Z F H σ δ own)(h:P3 Z F H σ own rv v):∃F1,Zi F F1/\SR Z F1 H σ δ own/\RVS K F1 σ rv v:=by
 cases rv with
 |tmp sv=>O⟨ns,t⟩:=h;E s.settle t
 |bw i=>E⟨F,Zi.refl F,s,h⟩
ЛSR.frzR(s:SR Z F H σ δ own)(h:RVS K F σ rv v)(e:frz rv δ=aA (d,δ')):∃F1 own1,Zi F F1/\SR Z F1 H σ δ' own1/\Rep K F1 d v:=by
 cases rv with
 |tmp sv=>C e;E⟨F,own,Zi.refl F,s,h⟩
 |bw i=>O⟨sv,e1,e2⟩:=aa.mp e;C e2;O⟨F1,w,h1,h2,h3,h4⟩:=s.freeze (O8 e1);V h':σ[i]? =aA (aA v):=h;K[h']at h2;C h2;E⟨F1,_,h1,h4,h3⟩
МYi(K:ad)(F H:Hp)(d:D)(v:V):Prop:=∃sv ns,sv.toD=d/\sv.nested=aD/\Shape K F sv v ns/\∀p∈ns,H p.1=aA p.2
ЛYi.of(h:Rep K F d v):Yi K F H d v:=⟨.fz d,[],rfl,rfl,.fz h,λ_ h=>nomatch h⟩
ЛSR.rd(s:SR Z F H σ δ own)(h:RVS K F σ rv v)(e:Iw rv δ=aA d):Yi K F H d v:=by
 cases rv with
 |tmp sv=>C e;E Yi.of h
 |bw i=>
  O⟨sv,e1,e2⟩:=aa.mp e;cases hn:sv.nested with
  |true=>K[hn]at e2;C e2
  |false=>K[hn]at e2;C e2;O⟨w,h1,h2⟩:=s.at' i sv (O8 e1);V h':σ[i]? =aA (aA v):=h;K[h']at h1;C h1;E⟨sv,own i,rfl,hn,h2,λp hp=>(s.ok i p hp).2.2⟩
inductive RepNs(K:ad)(F H:Hp):А D->А V->В where
 |nil:RepNs K F H [] []
 |cons {d:D} {v:V} {ds:А D} {vs:А V} (h:Yi K F H d v) (t:RepNs K F H ds vs):RepNs K F H (d::ds) (v::vs)
ЛYi.non(h:Yi K F H .non v):v= .non:=by
 O⟨sv,ns,e,n,sh,hp⟩:=h;cases sh with
 |fz r=>C e;C r;rfl
 |ol r=>C e
 |oK e' r=>C e
 |oT kb e' r=>C e
 |oN e' r=>C n
 |oX kb' e' r=>C n
 |oD r=>C n
 |oL _ r=>C n
 |oQ e' r=>C e
ЛYi.bl{b:Bool}(h:Yi K F H (.bl b) v):v= .bl b:=by
 O⟨sv,ns,e,n,sh,hp⟩:=h;cases sh with
 |fz r=>C e;C r;rfl
 |ol r=>C e
 |oK e' r=>C e
 |oT kb e' r=>C e
 |oN e' r=>C n
 |oX kb' e' r=>C n
 |oD r=>C n
 |oL _ r=>C n
 |oQ e' r=>C e
ЛYi.int{i:Int}(h:Yi K F H (.int i) v):v= .int i:=by
 O⟨sv,ns,e,n,sh,hp⟩:=h;cases sh with
 |fz r=>C e;C r;rfl
 |ol r=>C e
 |oK e' r=>C e
 |oT kb e' r=>C e
 |oN e' r=>C n
 |oX kb' e' r=>C n
 |oD r=>C n
 |oL _ r=>C n
 |oQ e' r=>C e
ЛYi.str{x:Str}(h:Yi K F H (.str x) v):v= .str x:=by
 O⟨sv,ns,e,n,sh,hp⟩:=h;cases sh with
 |fz r=>C e;C r;rfl
 |ol r=>C e
 |oK e' r=>C e
 |oT kb e' r=>C e
 |oN e' r=>C n
 |oX kb' e' r=>C n
 |oD r=>C n
 |oL _ r=>C n
 |oQ e' r=>C e
ЛYi.tup{xs:А D}(le:Zi F H)(h:Yi K F H (.tup xs) v):∃a vs,v= .ref a/\Ob K H a vs/\Reps K F xs vs:=by
 O⟨sv,ns,e,n,sh,hp⟩:=h;cases sh with
 |fz r=>C e;cases r with|tup h r=>E⟨_,_,rfl,Qf le (Gr h),r⟩
 |ol r=>C e
 |oK e' r=>C e
 |oT kb e' r=>C e
 |oN e' r=>C n
 |oX kb' e' r=>C n
 |oD r=>C n
 |oL _ r=>C n
 |oQ e' r=>C e
ЛYi.lst{xs:А D}(le:Zi F H)(h:Yi K F H (.lst xs) v):∃a vs,v= .ref a/\W5 K H a vs/\Reps K F xs vs:=by
 O⟨sv,ns,e,n,sh,hp⟩:=h;cases sh with
 |fz r=>C e;cases r with|lst h _ r=>E⟨_,_,rfl,Wb le h,r⟩
 |ol r=>C e;E⟨_,_,rfl,.inl (.inl (hp _ af)),r⟩
 |oK e' r=>C e
 |oT kb e' r=>C e
 |oN e' r=>C n
 |oX kb' e' r=>C n
 |oD r=>C n
 |oL _ r=>C n
 |oQ e' r=>C e
ЛYi.dK{ks:А Key}{ds:А D}(le:Zi F H)(h:Yi K F H (.dK ks ds) v):∃a kvs,v= .ref a/\HK H a kvs/\kvs.map (·.1)=ks/\Reps K F ds (kvs.map (·.2)):=by
 O⟨sv,ns,e,n,sh,hp⟩:=h;cases sh with
 |fz r=>C e;cases r with|dK h e r=>E⟨_,_,rfl,⟨_,le _ _ h⟩,e,r⟩
 |ol r=>C e
 |oK e' r=>C e;E⟨_,_,rfl,⟨_,hp _ af⟩,e',r⟩
 |oT kb e' r=>C e
 |oN e' r=>C n
 |oX kb' e' r=>C n
 |oD r=>C n
 |oL _ r=>C n
 |oQ e' r=>C e;E⟨_,_,rfl,⟨_,hp _ af⟩,e',r⟩
ЛYi.dT{ks:А (А Key)}{ds:А D}(le:Zi F H)(h:Yi K F H (.dT ks ds) v):∃a kvs,v= .ref a/\HTt H a kvs/\kvs.map (·.1)=ks/\Reps K F ds (kvs.map (·.2)):=by
 O⟨sv,ns,e,n,sh,hp⟩:=h;cases sh with
 |fz r=>C e;cases r with|dT h kb e r=>E⟨_,_,rfl,⟨_,_,le _ _ h⟩,e,r⟩
 |ol r=>C e
 |oK e' r=>C e
 |oT kb e' r=>C e;E⟨_,_,rfl,⟨_,_,hp _ af⟩,e',r⟩
 |oN e' r=>C n
 |oX kb' e' r=>C n
 |oD r=>C n
 |oL _ r=>C n
 |oQ e' r=>C e
end
ЛIx{a:aj}:([a]:А aj).Nodup:=dm.mpr ⟨λh=>(nomatch h),df⟩
МFin(Z:Ent K)(F H:Hp)(σ:St)(δ:Yk)(own:Г->Zo)(sv:SV)(Q:VK):Prop:=
 ∀v H' F' ns,Zi H H'->Zi F F'->SR Z F' H' σ δ own->TmpOk Z F' H' own sv v ns->Q v H'
section
variable{Z:Ent K}{F H:Hp}{σ:St}{δ:Yk}{own:Г->Zo}{Q:VK}
ЛFin.fz{d:D}{v:V}(f:Fin Z F H σ δ own (.fz d) Q)(s:SR Z F H σ δ own)(h:Rep K F d v):Q v H:=f v H F [] (Zi.refl H) (Zi.refl F) s (.fz h)
ЛFin.one{sv:SV}{o:HO}{p:aj}(f:Fin Z F H σ δ own sv Q)(s:SR Z F H σ δ own)(sh:Shape K F sv (.ref p) [(p,o)])(hp:H p=aB):Q (.ref p) (Z9 H p o):=by
 V sm:=Ws (o:=o) hp;R f (.ref p) (Z9 H p o) F [(p,o)] sm (Zi.refl F) (s.grow sm) ⟨sh,Ix,λq hq=>?_,λi q r hq hr=>?_⟩
 ·obtain rfl:=ar.mp hq;E⟨s.le.free hp,s.old.free hp,Z3⟩
 ·obtain rfl:=ar.mp hq;I e;V e':p=r.1:=e;V z:=(s.ok i r hr).2.2;K[<-e',hp]at z;C z
ЛFin.lst{xs:А D}{vs:А V}{p:aj}(f:Fin Z F H σ δ own (.ol xs) Q)(s:SR Z F H σ δ own)(r:Reps K F xs vs)(hp:H p=aB):Q (.ref p) (Z9 H p (.lst vs)):=f.one s (.ol r) hp
ЛFin.tup{xs:А D}{vs:А V}{p:aj}(f:Fin Z F H σ δ own (.fz (.tup xs)) Q)(s:SR Z F H σ δ own)(r:Reps K F xs vs)(hp:H p=aB):Q (.ref p) (Z9 H p (.tup vs)):=by
 V sm:=Ws (o:=.tup vs) hp;V sF:Zi F (Ue F [(p,.tup vs)]):=Ql λq hq=>by obtain rfl:=ar.mp hq;E s.le.free hp
 R f (.ref p) (Z9 H p (.tup vs)) (Ue F [(p,.tup vs)]) [] sm sF ?_ (.fz (.tup Z3 (r.mono sF)));R(s.grow sm).addF (Ix) (λq hq=>?_) (λq hq=>?_) (λq hq=>?_) λi q u hq hu=>?_
 ·obtain rfl:=ar.mp hq;E s.le.free hp
 ·obtain rfl:=ar.mp hq;E Z3
 ·obtain rfl:=ar.mp hq;E s.old.free hp
 ·obtain rfl:=ar.mp hq;I e;V e':p=u.1:=e;V z:=(s.ok i u hu).2.2;K[<-e',hp]at z;C z
end
ЛJp{F:Hp}{d:D}{v:V}{ns:Zo}(h:Shape K F (.fz d) v ns):Rep K F d v:=by
 cases h with
 |fz r=>E r
section
variable{Z:Ent K}{H:Hp}{σ:St}{Q:VK}
НZa(i:Г):FE:=λδ=>match δ[i]? with
 |some (aA (.fz d))=>aA (.tmp (.fz d),δ)
 |some (aA _)=>aA (.bw i,δ)
 |_=>aB
ЛZp0{i:Г}(h:Ze Z (Za i) σ H Q):Bg i σ H Q:=by
 O⟨F,δ,own,rv,δ',s,e,k⟩:=h;U Za at e;split at e
 ·rename_i d hd;C e;O⟨v,h1,h2⟩:=s.at' i _ hd;E⟨v,h1,k v H F own (Zi.refl H) (Zi.refl F) s ⟨[],.fz (Jp h2)⟩⟩
 ·rename_i sv hsv hd;C e;O⟨v,h1,h2⟩:=s.at' i _ hd;E⟨v,h1,k v H F own (Zi.refl H) (Zi.refl F) s h1⟩
 ·C e
НZf(d:D):FE:=λδ=>aA (.tmp (.fz d),δ)
ЛL0{d:D}{v:V}(hr:∀F,Rep K F d v)(h:Ze Z (Zf d) σ H Q):tC v σ H Q:=by O⟨F,δ,own,rv,δ',s,e,k⟩:=h;C e;E k v H F own (Zi.refl H) (Zi.refl F) s ⟨[],.fz (hr F)⟩
НZj:FA:=λδ=>aA ([],δ)
НZc(fe:FE)(fa:FA):FA:=λδ=>(fe δ).bind λp=>(fa p.2).bind λq=>aA (p.1::q.1,q.2)
ЛZdy{R:А V->Hp->В}(h:Cb Z Zj σ H R):Pq σ H R:=by O⟨F,δ,own,rvs,δ',s,e,k⟩:=h;C e;E k [] H F own (Zi.refl H) (Zi.refl F) s .nil
ЛZbp{fe:FE}{fa:FA}{R:А V->Hp->В}(h:Cb Z (Zc fe fa) σ H R):Rm (Ze Z fe) (Cb Z fa) σ H R:=by O⟨F,δ,own,rvs,δ',s,e,k⟩:=h;O⟨⟨rv,δ1⟩,e1,e2⟩:=aa.mp e;O⟨⟨rr,δ2⟩,e3,e4⟩:=aa.mp e2;C e4;R⟨F,δ,own,rv,δ1,s,e1,λv H1 F1 own1 sH sF s1 r1=>?_⟩;O⟨F2,sF2,s2,r2⟩:=s1.settleR r1;E⟨F2,δ1,own1,rr,δ2,s2,e3,λvs H3 F3 own3 sH3 sF3 s3 r3=>k _ H3 F3 own3 (sH.trans sH3) (sF.trans (sF2.trans sF3)) s3 (.cons (r2.mono sF3) r3)⟩
НOe:А RV->Yk->Б (А D)
 | [],_=>aA []
 |rv::r,δ=>(Iw rv δ).bind λd=>(Oe r δ).bind λds=>aA (d::ds)
ЛSR.rdAll{F:Hp}{δ:Yk}{own:Г->Zo}(s:SR Z F H σ δ own):∀{rvs:А RV} {vs:А V} {ds:А D},RVSs K F σ rvs vs->Oe rvs δ=aA ds->RepNs K F H ds vs
 |_,_,_,.nil,e=>by C e;E .nil
 |_,_,_,.cons h t,e=>by O⟨d,e1,e2⟩:=aa.mp e;O⟨ds,e3,e4⟩:=aa.mp e2;C e4;E .cons (s.rd h e1) (s.rdAll t e3)
НYq(g:А D->Б SV)(fa:FA):FE:=λδ=>(fa δ).bind λp=>(Oe p.1 p.2).bind λds=>(g ds).bind λsv=>aA (.tmp sv,p.2)
МUs(Z:Ent K)(r:А V->Hp->VK->В)(g:А D->Б SV):Prop:=
 ∀(F H:Hp) (σ:St) (δ:Yk) (own:Г->Zo) (vs:А V) (ds:А D) (sv:SV) (Q:VK),SR Z F H σ δ own->RepNs K F H ds vs->g ds=aA sv->Fin Z F H σ δ own sv Q->r vs H Q
ЛAm{r:А V->Hp->VK->В}{g:А D->Б SV}{fa:FA}(hg:Us Z r g)(h:Ze Z (Yq g fa) σ H Q):tCB r (Cb Z fa) σ H Q:=by O⟨F,δ,own,rv,δ',s,e,k⟩:=h;O⟨⟨rvs,δ1⟩,e1,e2⟩:=aa.mp e;O⟨ds,e3,e4⟩:=aa.mp e2;O⟨sv,e5,e6⟩:=aa.mp e4;C e6;R⟨F,δ,own,rvs,δ1,s,e1,λvs H1 F1 own1 sH sF s1 r1=>?_⟩;E hg F1 H1 σ δ1 own1 vs ds sv Q s1 (s1.rdAll r1 e3) e5 λv H2 F2 ns sH2 sF2 s2 t=>k v H2 F2 own1 (sH.trans sH2) (sF.trans sF2) s2 ⟨ns,t⟩
Нg2(g:D->D->Б SV):А D->Б SV
 | [x,y]=>g x y
 |_=>aB
НZm(g:D->D->Б SV)(fa fb:FE):FE:=Yq (g2 g) (Zc fa (Zc fb Zj))
МY7(Z:Ent K)(r:R2)(g:D->D->Б SV):Prop:=
 ∀(F H:Hp) (σ:St) (δ:Yk) (own:Г->Zo) (x y:V) (d1 d2:D) (sv:SV) (Q:VK),SR Z F H σ δ own->Yi K F H d1 x->Yi K F H d2 y->g d1 d2=aA sv->Fin Z F H σ δ own sv Q->r x y H Q
ЛFv{r:R2}{g:D->D->Б SV}{fa fb:FE}(hg:Y7 Z r g)(h:Ze Z (Zm g fa fb) σ H Q):tOp r (Ze Z fa) (Ze Z fb) σ H Q:=by
 V hN:Us Z (λvs H Q=>∃x y,vs=[x,y]/\r x y H Q) (g2 g):=by
  I F H σ δ own vs ds sv Q s rs e f;cases rs with
  |nil=>C e
  |cons h1 t1=>
   cases t1 with
   |nil=>C e
   |cons h2 t2=>
    cases t2 with
    |nil=>E⟨_,_,rfl,hg F H σ δ own _ _ _ _ sv Q s h1 h2 e f⟩
    |cons h3 t3=>C e
 O⟨F,δ,own,rv,δ',s,e,k⟩:=Am hN h;O⟨⟨rv1,δ1⟩,e1,e2⟩:=aa.mp e;O⟨⟨rr,δ2⟩,e3,e4⟩:=aa.mp e2;C e4;O⟨⟨rv2,δ3⟩,e5,e6⟩:=aa.mp e3;O⟨⟨rr',δ4⟩,e7,e8⟩:=aa.mp e6;C e8;C e7;R⟨F,δ,own,rv1,δ1,s,e1,λv H1 F1 own1 sH sF s1 r1=>?_⟩;O⟨F2,sF2,s2,r2⟩:=s1.settleR r1;R⟨F2,δ1,own1,rv2,δ3,s2,e5,λu H3 F3 own3 sH3 sF3 s3 r3=>?_⟩;O⟨F4,sF4,s4,r4⟩:=s3.settleR r3;O⟨x,y,exy,q⟩:=k [v,u] H3 F4 own3 (sH.trans sH3) (sF.trans (sF2.trans (sF3.trans sF4))) s4 (.cons (r2.mono (sF3.trans sF4)) (.cons r4 .nil));injection exy with ex ey;injection ey with ey _;subst ex ey;E q
НunF(g:D->Б SV)(fa:FE):FE:=Yq (λ| [x]=>g x|_=>aB) (Zc fa Zj)
МZxq(Z:Ent K)(r:V->Hp->VK->В)(g:D->Б SV):Prop:=
 ∀(F H:Hp) (σ:St) (δ:Yk) (own:Г->Zo) (x:V) (d:D) (sv:SV) (Q:VK),SR Z F H σ δ own->Yi K F H d x->g d=aA sv->Fin Z F H σ δ own sv Q->r x H Q
НZs:FD:=λδ=>aA ([],δ)
НZh(fe:FE)(fd:FD):FD:=λδ=>(fe δ).bind λp=>(frz p.1 p.2).bind λq=>(fd q.2).bind λr=>aA (q.1::r.1,r.2)
ЛFw{R:А V->Hp->В}(h:Qu Z Zs σ H R):Pq σ H R:=by O⟨F,δ,own,rvs,δ',s,e,k⟩:=h;C e;E k [] H F own (Zi.refl H) (Zi.refl F) s .nil
ЛAn{fe:FE}{fd:FD}{R:А V->Hp->В}(h:Qu Z (Zh fe fd) σ H R):Rm (Ze Z fe) (Qu Z fd) σ H R:=by O⟨F,δ,own,rvs,δ',s,e,k⟩:=h;O⟨⟨rv,δ1⟩,e1,e2⟩:=aa.mp e;O⟨⟨d,δ2⟩,e3,e4⟩:=aa.mp e2;O⟨⟨ds,δ3⟩,e5,e6⟩:=aa.mp e4;C e6;R⟨F,δ,own,rv,δ1,s,e1,λv H1 F1 own1 sH sF s1 r1=>?_⟩;O⟨F2,sF2,s2,r2⟩:=s1.settleR r1;O⟨F3,own3,sF3,s3,r3⟩:=s2.frzR r2 e3;E⟨F3,δ2,own3,ds,δ3,s3,e5,λvs H4 F4 own4 sH4 sF4 s4 r4=>k _ H4 F4 own4 (sH.trans sH4) (sF.trans (sF2.trans (sF3.trans sF4))) s4 (.cons (r3.mono sF4) r4)⟩
НtupF(fd:FD):FE:=λδ=>(fd δ).bind λp=>if p.1.length<=bd then aA (.tmp (.fz (.tup p.1)),p.2)else aB
НU9(fd:FD):FE:=λδ=>(fd δ).bind λp=>if p.1.length<=bd then aA (.tmp (.ol p.1),p.2)else aB
ЛZp1{fd:FD}(h:Ze Z (tupF fd) σ H Q):Zpk (Qu Z fd) σ H Q:=by
 O⟨F,δ,own,rv,δ',s,e,k⟩:=h;O⟨⟨ds,δ1⟩,e1,e2⟩:=aa.mp e;B hz:ds.length<=bd
 ·K[Е hz]at e2;C e2;R⟨F,δ,own,ds,δ1,s,e1,λvs H1 F1 own1 sH sF s1 r1=>⟨by K[<-r1.length];E hz,λp hp=>?_⟩⟩;E Fin.tup (λv H2 F2 ns a b c t=>k v H2 F2 own1 (sH.trans a) (sF.trans b) c ⟨ns,t⟩) s1 r1 hp
 ·K[Д hz]at e2;C e2
ЛZp2{fd:FD}(h:Ze Z (U9 fd) σ H Q):Zhn (Qu Z fd) σ H Q:=by
 O⟨F,δ,own,rv,δ',s,e,k⟩:=h;O⟨⟨ds,δ1⟩,e1,e2⟩:=aa.mp e;B hz:ds.length<=bd
 ·K[Е hz]at e2;C e2;R⟨F,δ,own,ds,δ1,s,e1,λvs H1 F1 own1 sH sF s1 r1=>⟨by K[<-r1.length];E hz,λp hp=>?_⟩⟩;E Fin.lst (λv H2 F2 ns a b c t=>k v H2 F2 own1 (sH.trans a) (sF.trans b) c ⟨ns,t⟩) s1 r1 hp
 ·K[Д hz]at e2;C e2
end
НSV.scal:SV->Bool
 | .fz .non=>aC
 | .fz (.bl _)=>aC
 | .fz (.int _)=>aC
 | .fz (.str _)=>aC
 |_=>aD
МY1(K:ad)(n:Г)(g:А D->Б SV):Sp:=λvs H Q _=>∃F ds sv,Zi F H/\Reps K F ds vs/\ds.length=n/\g ds=aA sv/\
 ∀v H' F' ns,Zi H H'->Zi F F'->Zi F' H'->(∀(b:aj) (o:HO),F' b=aA o->F b=aA o\/H b=aB)->Shape K F' sv v ns->(Bf ns).Nodup->(∀p∈ns,F' p.1=aB/\H p.1=aB/\H' p.1=aA p.2)->Q v H'
НfrzAll:А RV->Yk->Б (А D×Yk)
 | [],δ=>aA ([],δ)
 |rv::r,δ=>(frz rv δ).bind λp=>(frzAll r p.2).bind λq=>aA (p.1::q.1,q.2)
ЛRVSs.mono{F F':Hp}{σ:St}(s:Zi F F'){rvs:А RV}{vs:А V}(h:RVSs K F σ rvs vs):RVSs K F' σ rvs vs:=by
 induction h with
 |nil=>E .nil
 |cons h _ ih=>E .cons (h.mono s) ih
section
variable{Z:Ent K}{H:Hp}{σ:St}{Q:VK}
ЛSR.frzAll{F:Hp}{δ:Yk}{own:Г->Zo}:∀{rvs:А RV} {vs:А V} {ds:А D} {δ':Yk} {F:Hp} {δ:Yk} {own:Г->Zo},SR Z F H σ δ own->RVSs K F σ rvs vs->DL.frzAll rvs δ=aA (ds,δ')->
  ∃F1 own1,Zi F F1/\SR Z F1 H σ δ' own1/\Reps K F1 ds vs
 |_,_,_,_,F,_,own,s,.nil,e=>by C e;E⟨F,own,Zi.refl F,s,.nil⟩
 |_,_,_,_,F,_,own,s,.cons h t,e=>by O⟨⟨d,δ1⟩,e1,e2⟩:=aa.mp e;O⟨⟨ds,δ2⟩,e3,e4⟩:=aa.mp e2;C e4;O⟨F1,own1,sF1,s1,r1⟩:=s.frzR h e1;O⟨F2,own2,sF2,s2,r2⟩:=SR.frzAll (own:=own) (F:=F) (δ:=δ1) s1 (t.mono sF1) e3;E⟨F2,own2,sF1.trans sF2,s2,.cons (r1.mono sF2) r2⟩
НYc(n:Г)(g:А D->Б SV)(fa:FA):FE:=λδ=>(fa δ).bind λp=>(DL.frzAll p.1 p.2).bind λq=>if q.1.length=n then(g q.1).bind λsv=>aA (.tmp sv,if sv.scal then p.2 else q.2)else aB
ЛZdz{F F':Hp}{sv:SV}{v:V}{ns:Zo}(h:sv.scal=aC)(sh:Shape K F sv v ns):ns=[]/\Shape K F' sv v []:=by
 cases sh with
 |fz r=>
  R⟨rfl,.fz ?_⟩;cases r with
  |non=>E .non
  |bl b=>E .bl b
  |int i=>E .int i
  |str x=>E .str x
  |tup _ _=>C h
  |lst _ _ _=>C h
  |dK _ _ _=>C h
  |dT _ _ _ _=>C h
  |exc _ _=>C h
  |dX _ _ _ _=>C h
  |exd _ _ _ _ _=>C h
 |ol _=>C h
 |oK _ _=>C h
 |oT _ _ _=>C h
 |oN _ _=>C h
 |oX _ _ _=>C h
 |oD _=>C h
 |oL _ _=>C h
 |oQ _ _=>C h
ЛZmi{n:Г}{g:А D->Б SV}{fa:FA}{E:XK}(h:Ze Z (Yc n g fa) σ H Q):Zj9 (Y1 K n g) [] E (Cb Z fa) σ H Q:=by
 O⟨F,δ,own,rv,δ',s,e,k⟩:=h;O⟨⟨rvs,δ1⟩,e1,e2⟩:=aa.mp e;O⟨⟨ds,δ2⟩,e3,e4⟩:=aa.mp e2;B hn:ds.length=n
 ·K[Е hn]at e4;O⟨sv,e5,e6⟩:=aa.mp e4;R⟨F,δ,own,rvs,δ1,s,e1,λvs H1 F1 own1 sH sF s1 r1=>?_⟩;O⟨F2,own2,sF2,s2,r2⟩:=s1.frzAll (own:=own) (F:=F) (δ:=δ) r1 e3;K[List.append_nil];R⟨F2,ds,sv,s2.le,r2,hn,e5,λv H3 F3 ns sH3 sF3 le3 fro3 sh nd ok=>?_⟩;B hs:sv.scal=aC
  ·K[Е hs]at e6;C e6;O⟨_,sh'⟩:=Zdz (F':=F1) hs sh;E k v H3 F1 own1 (sH.trans sH3) sF (s1.grow sH3) ⟨[],sh',df,λ_ h=>(nomatch h),λ_ _ _ h=>(nomatch h)⟩
  ·K[Д hs]at e6;C e6;V s3:SR Z F3 H3 σ δ2 own2:=by
    R⟨le3,λb o e=>?_,s2.old.trans sH3,s2.len,λi sw ei=>?_,s2.nod,λi p hp=>?_,s2.sep⟩
    ·J fro3 b o e with z|z
     ·E s2.fro b o z
     ·E .inr (s2.old.free z)
    ·O⟨w,h1,h2⟩:=s2.at' i sw ei;E⟨w,h1,h2.mono sF3⟩
    ·O⟨a,b,c⟩:=s2.ok i p hp;R⟨?_,b,sH3 _ _ c⟩;cases z:F3 p.1 with
     |none=>rfl
     |some u=>
      J fro3 _ u z with y|y
      ·K[a]at y;C y
      ·K[c]at y;C y
   E k v H3 F3 own2 (sH.trans sH3) (sF.trans (sF2.trans sF3)) s3 ⟨ns,sh,nd,λp hp=>⟨(ok p hp).1,(s2.old).free (ok p hp).2.1,(ok p hp).2.2⟩,λi p q hp hq e=>by
    V z:=(s2.ok i q hq).2.2;K[<-e,(ok p hp).2.1]at z;C z⟩
 ·K[Д hn]at e4;C e4
end
end DL
namespace DL
open PySem L2
variable{K:ad}
section
variable{Z:Ent K}{H:Hp}{σ:St}{R:Bool->Hp->В}{Q:VK}
НYs(fe:FE):FT:=λδ=>(fe δ).bind λp=>match p.1 with
 | .tmp (.fz (.bl b))=>aA (b,p.2)
 |_=>aB
ЛXb{fe:FE}(h:Yl Z (Ys fe) σ H R):Zj8 (Ze Z fe) σ H R:=by
 O⟨F,δ,own,b,δ',s,e,k⟩:=h;O⟨⟨rv,δ1⟩,e1,e2⟩:=aa.mp e;R⟨F,δ,own,rv,δ1,s,e1,λv H1 F1 own1 sH sF s1 r1=>?_⟩;dsimp only at e2;split at e2
 ·C e2;O⟨ns,t⟩:=r1;cases Jp t.sh;E⟨_,rfl,k H1 F1 own1 sH sF s1⟩
 ·C e2
ЛZh2{fe:FE}(h:Yl Z (Ys fe) σ H R):tB (Ze Z fe) σ H R:=Xb h
НZmj(f g:FT):FT:=λδ=>(f δ).bind λp=>if p.1=aC then g p.2 else aA (aD,p.2)
НorF(f g:FT):FT:=λδ=>(f δ).bind λp=>if p.1=aC then aA (aC,p.2)else g p.2
НZh3(f:FT):FT:=λδ=>(f δ).bind λp=>aA (!p.1,p.2)
ЛZp3{f g:FT}(h:Yl Z (Zmj f g) σ H R):Zo0 (Yl Z f) (Yl Z g) σ H R:=by
 O⟨F,δ,own,b,δ',s,e,k⟩:=h;O⟨⟨c,δ1⟩,e1,e2⟩:=aa.mp e;R⟨F,δ,own,c,δ1,s,e1,λH1 F1 own1 sH sF s1=>?_⟩;cases c with
 |true=>K[Е rfl]at e2⊢;E⟨F1,δ1,own1,b,δ',s1,e2,λH2 F2 own2 a c d=>k H2 F2 own2 (sH.trans a) (sF.trans c) d⟩
 |false=>K[Д bv]at e2⊢;C e2;E k H1 F1 own1 sH sF s1
ЛZu4{f g:FT}(h:Yl Z (orF f g) σ H R):tOr (Yl Z f) (Yl Z g) σ H R:=by
 O⟨F,δ,own,b,δ',s,e,k⟩:=h;O⟨⟨c,δ1⟩,e1,e2⟩:=aa.mp e;R⟨F,δ,own,c,δ1,s,e1,λH1 F1 own1 sH sF s1=>?_⟩;cases c with
 |true=>K[Е rfl]at e2⊢;C e2;E k H1 F1 own1 sH sF s1
 |false=>K[Д bv]at e2⊢;E⟨F1,δ1,own1,b,δ',s1,e2,λH2 F2 own2 a c d=>k H2 F2 own2 (sH.trans a) (sF.trans c) d⟩
ЛZp4{f:FT}(h:Yl Z (Zh3 f) σ H R):Zo1 (Yl Z f) σ H R:=by O⟨F,δ,own,b,δ',s,e,k⟩:=h;O⟨⟨c,δ1⟩,e1,e2⟩:=aa.mp e;C e2;E⟨F,δ,own,c,δ1,s,e1,k⟩
НZmk(f g:FE):FE:=λδ=>(Ys f δ).bind λp=>if p.1=aC then g p.2 else aA (.tmp (.fz (.bl aD)),p.2)
НorV(f g:FE):FE:=λδ=>(Ys f δ).bind λp=>if p.1=aC then aA (.tmp (.fz (.bl aC)),p.2)else g p.2
НZz1(f:FE):FE:=λδ=>(Ys f δ).bind λp=>aA (.tmp (.fz (.bl (!p.1))),p.2)
ЛZp5{F:Hp}{own:Г->Zo}{b:Bool}:P3 Z F H σ own (.tmp (.fz (.bl b))) (.bl b):=⟨[],.fz (.bl b)⟩
ЛZml{f g:FE}(h:Ze Z (Zmk f g) σ H Q):Zj3 (Ze Z f) (Ze Z g) σ H Q:=by
 O⟨F,δ,own,rv,δ',s,e,k⟩:=h;O⟨⟨c,δ1⟩,e1,e2⟩:=aa.mp e;R Xb ⟨F,δ,own,c,δ1,s,e1,λH1 F1 own1 sH sF s1=>?_⟩;cases c with
 |true=>K[Е rfl]at e2⊢;E⟨F1,δ1,own1,rv,δ',s1,e2,λv H2 F2 own2 a c d=>k v H2 F2 own2 (sH.trans a) (sF.trans c) d⟩
 |false=>K[Д bv]at e2⊢;C e2;E k _ H1 F1 own1 sH sF s1 Zp5
НifF(t:FT)(f g:FE):FE:=λδ=>(t δ).bind λp=>if p.1=aC then f p.2 else g p.2
НZu5(g g':D->D->Б SV)(fa fb fc:FE):FE:=λδ=>(fa δ).bind λp=>(fb p.2).bind λq=>(Iw p.1 q.2).bind λx=>(Iw q.1 q.2).bind λy=>(g x y).bind fun
 | .fz (.bl aC)=>(fc q.2).bind λr=>(Iw q.1 r.2).bind λy'=>(Iw r.1 r.2).bind λz=>(g' y' z).bind λsv=>aA (.tmp sv,r.2)
 | .fz (.bl aD)=>aA (.tmp (.fz (.bl aD)),q.2)
 |_=>aB
end
inductive Fl where
 |nx (δ:Yk)|bk (δ:Yk)|ct (δ:Yk)|rt (sv:SV)|ex (e:Exn) (δ:Yk)
аFS:=Yk->Б Fl
МL1(Z:Ent K)(F:Hp)(D:Ends):Fl->В
 | .nx δ=>∀σ' H' F' own',Zi F F'->SR Z F' H' σ' δ own'->D.nx σ' H'
 | .bk δ=>∀σ' H' F' own',Zi F F'->SR Z F' H' σ' δ own'->D.bk σ' H'
 | .ct δ=>∀σ' H' F' own',Zi F F'->SR Z F' H' σ' δ own'->D.ct σ' H'
 | .rt sv=>∀v H' F' ns,Zi F F'->Zi F' H'->(∀(b:aj) (o:HO),F' b=aA o->Z.f b=aA o\/Z.h b=aB)->Zi Z.h H'->Shape K F' sv v ns->(Bf ns).Nodup->
   (∀p∈ns,F' p.1=aB/\Z.h p.1=aB/\H' p.1=aA p.2)->D.rt v H'
 | .ex x δ=>∀σ' H' F' own' cls od,Zi F F'->SR Z F' H' σ' δ own'->Lz K F' x cls od->Z.x cls od σ' H'
ЛL1.mono{Z:Ent K}{F F':Hp}{D:Ends}(s:Zi F F'):∀{fl:Fl},L1 Z F D fl->L1 Z F' D fl
 | .nx _,h=>λσ' H' F2 own' a b=>h σ' H' F2 own' (s.trans a) b
 | .bk _,h=>λσ' H' F2 own' a b=>h σ' H' F2 own' (s.trans a) b
 | .ct _,h=>λσ' H' F2 own' a b=>h σ' H' F2 own' (s.trans a) b
 | .rt _,h=>λv H' F2 ns a=>h v H' F2 ns (s.trans a)
 | .ex _ _,h=>λσ' H' F2 own' cls od a=>h σ' H' F2 own' cls od (s.trans a)
МZ5(Z:Ent K)(f:FS):TS:=λD σ H=>∃F δ own fl,SR Z F H σ δ own/\f δ=aA fl/\L1 Z F D fl
section
variable{Z:Ent K}{H:Hp}{σ:St}{E:Ends}
НUt:FS:=λδ=>aA (.nx δ)
НZu6:FS:=λδ=>aA (.bk δ)
НZxr:FS:=λδ=>aA (.ct δ)
ЛZmm(h:Z5 Z Ut E σ H):Zj4 E σ H:=by O⟨F,δ,own,fl,s,e,k⟩:=h;C e;E k σ H F own (Zi.refl F) s
НZ4(f g:FS):FS:=λδ=>(f δ).bind fun
 | .nx δ'=>g δ'
 |fl=>aA fl
ЛZp6{f g:FS}(h:Z5 Z (Z4 f g) E σ H):Zl0 (Z5 Z f) (Z5 Z g) E σ H:=by
 O⟨F,δ,own,fl,s,e,k⟩:=h;O⟨f1,e1,e2⟩:=aa.mp e;R⟨F,δ,own,f1,s,e1,?_⟩;cases f1 with
 |nx δ1=>E λσ' H' F' own' sF s'=>⟨F',δ1,own',fl,s',e2,k.mono sF⟩
 |bk δ1=>C e2;E k
 |ct δ1=>C e2;E k
 |rt sv=>C e2;E k
 |ex x δ1=>C e2;E k
НXc(t:FT)(f g:FS):FS:=λδ=>(t δ).bind λp=>if p.1=aC then f p.2 else g p.2
ЛZp7{t:FT}{f g:FS}(h:Z5 Z (Xc t f g) E σ H):Zo3 (Yl Z t) (Z5 Z f) (Z5 Z g) E σ H:=by
 O⟨F,δ,own,fl,s,e,k⟩:=h;O⟨⟨c,δ1⟩,e1,e2⟩:=aa.mp e;R⟨F,δ,own,c,δ1,s,e1,λH1 F1 own1 sH sF s1=>?_⟩;cases c with
 |true=>K[Е rfl]at e2⊢;E⟨F1,δ1,own1,fl,s1,e2,k.mono sF⟩
 |false=>K[Д bv]at e2⊢;E⟨F1,δ1,own1,fl,s1,e2,k.mono sF⟩
НZxs(fe:FE):FS:=λδ=>(fe δ).bind λp=>aA (.nx p.2)
НZp8:RV->Yk->Б SV
 | .tmp sv,_=>aA sv
 | .bw i,δ=>δ[i]?.join
НJq(fe:FE):FS:=λδ=>(fe δ).bind λp=>(Zp8 p.1 p.2).bind λsv=>aA (.rt sv)
ЛZp9{fe:FE}(h:Z5 Z (Jq fe) E σ H):Zl1 (Ze Z fe) E σ H:=by
 O⟨F,δ,own,fl,s,e,k⟩:=h;O⟨⟨rv,δ1⟩,e1,e2⟩:=aa.mp e;O⟨sv,e3,e4⟩:=aa.mp e2;C e4;R⟨F,δ,own,rv,δ1,s,e1,λv H1 F1 own1 sH sF s1 r1=>?_⟩;cases rv with
 |tmp sw=>C e3;O⟨ns,t⟩:=r1;E k v H1 F1 ns sF s1.le s1.fro s1.old t.sh t.nd t.ok
 |bw i=>O⟨w,h1,h2⟩:=s1.at' i sv (O8 e3);V r1':σ[i]? =aA (aA v):=r1;K[r1']at h1;C h1;E k v H1 F1 (own1 i) sF s1.le s1.fro s1.old h2 (s1.nod i) (s1.ok i)
НZz2:FS:=λδ=>aA (.rt (.fz .non))
Нstow(i:Г):RV->Yk->Б Yk
 | .tmp sv,δ=>if i<δ.length then aA (δ.set i (aA sv))else aB
 | .bw j,δ=>(frz (.bw j) δ).bind λp=>if i<p.2.length then aA (p.2.set i (aA (.fz p.1)))else aB
ЛSR.stow{F:Hp}{δ δ':Yk}{own:Г->Zo}{i:Г}{rv:RV}{v:V}(s:SR Z F H σ δ own)(r:P3 Z F H σ own rv v)(e:DL.stow i rv δ=aA δ'):∃F' own',Zi F F'/\SR Z F' H (σ.set i (aA v)) δ' own':=by
 cases rv with
 |tmp sv=>
  O⟨ns,t⟩:=r;V e:(if i<δ.length then aA (δ.set i (aA sv))else aB)=aA δ':=e;B hi:i<δ.length
  ·K[Е hi]at e;C e;E⟨F,_,Zi.refl F,s.store t (by K[s.len];E hi)⟩
  ·K[Д hi]at e;C e
 |bw j=>
  O⟨⟨d,δ1⟩,e1,e2⟩:=aa.mp e;O⟨F1,own1,sF,s1,r1⟩:=s.frzR (rv:=.bw j) (v:=v) r e1;B hi:i<δ1.length
  ·K[Е hi]at e2;C e2;E⟨F1,_,sF,s1.store (.fz r1) (by K[s1.len];E hi)⟩
  ·K[Д hi]at e2;C e2
НY0(i:Г)(fe:FE):FS:=λδ=>(fe δ).bind λp=>(stow i p.1 p.2).bind λδ'=>aA (.nx δ')
ЛZki{i:Г}{fe:FE}(h:Z5 Z (Y0 i fe) E σ H):Vx (Ze Z fe) (Aa i) E σ H:=by O⟨F,δ,own,fl,s,e,k⟩:=h;O⟨⟨rv,δ1⟩,e1,e2⟩:=aa.mp e;O⟨δ2,e3,e4⟩:=aa.mp e2;C e4;R⟨F,δ,own,rv,δ1,s,e1,λv H1 F1 own1 sH sF s1 r1=>?_⟩;O⟨F2,own2,sF2,s2⟩:=s1.stow r1 e3;E k _ H1 F2 own2 (sF.trans sF2) s2
set_option genInjectivity false in
structure FG where
 run:D->Yk->Б Yk
 tch:А Г
set_option genInjectivity false in
structure FGs where
 run:А D->Yk->Б Yk
 tch:А Г
МOf(Z:Ent K)(g:FG):TG:=λv σ H Q=>∃F δ own d δ',SR Z F H σ δ own/\Rep K F d v/\g.run d δ=aA δ'/\∀σ' own',SR Z F H σ' δ' own'->(∀j:Г,j∉g.tch->σ'[j]? =σ[j]?)->Q σ' H
МOp(Z:Ent K)(g:FGs):TGs:=λvs σ H Q=>∃F δ own ds δ',SR Z F H σ δ own/\Reps K F ds vs/\g.run ds δ=aA δ'/\∀σ' own',SR Z F H σ' δ' own'->(∀j:Г,j∉g.tch->σ'[j]? =σ[j]?)->Q σ' H
МZd(i:Г):FG:=⟨λd δ=>if i<δ.length then aA (δ.set i (aA (.fz d)))else aB,[i]⟩
ЛZh4{i:Г}{v:V}{Q:St->Hp->В}(h:Of Z (Zd i) v σ H Q):Aa i v σ H Q:=by
 O⟨F,δ,own,d,δ',s,r,e,k⟩:=h;V e:(if i<δ.length then aA (δ.set i (aA (.fz d)))else aB)=aA δ':=e;B hi:i<δ.length
 ·K[Е hi]at e;C e;E k _ _ (s.store (.fz r) (by K[s.len];E hi)) λj hj=>fj λz=>hj (by K[z];E af)
 ·K[Д hi]at e;C e
МWi:FGs:=⟨λds δ=>match ds with
 | []=>aA δ
 |_=>aB,[]⟩
МZt(g:FG)(r:FGs):FGs:=⟨λds δ=>match ds with
 |d::t=>(g.run d δ).bind λδ1=>r.run t δ1
 | []=>aB,g.tch++r.tch⟩
@[simp] theorem Zop(i:Г)(d:D)(δ:Yk):(Zd i).run d δ=if i<δ.length then some (δ.set i (some (.fz d)))else none:=rfl
@[simp] theorem Zqa(δ:Yk):Wi.run [] δ=some δ:=rfl
@[simp] theorem Zoq(g:FG)(r:FGs)(d:D)(t:А D)(δ:Yk):(Zt g r).run (d::t) δ=(g.run d δ).bind λδ1=>r.run t δ1:=rfl
ЛZmn{vs:А V}{Q:St->Hp->В}(h:Op Z Wi vs σ H Q):Zo6 vs σ H Q:=by
 O⟨F,δ,own,ds,δ',s,r,e,k⟩:=h;cases r with
 |nil=>C e;E⟨rfl,k σ own s λ_ _=>rfl⟩
 |cons h t=>C e
ЛZh5{g:FG}{r:FGs}{vs:А V}{Q:St->Hp->В}(h:Op Z (Zt g r) vs σ H Q):Zj5 (Of Z g) (Op Z r) vs σ H Q:=by
 O⟨F,δ,own,ds,δ',s,rr,e,k⟩:=h;cases rr with
 |nil=>C e
 |cons h t=>O⟨δ1,e1,e2⟩:=aa.mp e;E⟨_,_,rfl,F,δ,own,_,δ1,s,h,e1,λσ1 own1 s1 t1=>⟨F,δ1,own1,_,δ',s1,t,e2,λσ2 own2 s2 t2=>k σ2 own2 s2 λj hj=>(t2 j λz=>hj (bh _ z)).trans (t1 j λz=>hj (bj _ z))⟩⟩
МWj(n:Г)(g:FGs):FG:=⟨λd δ=>match d with
 | .tup xs=>if xs.length=n then g.run xs δ else aB
 |_=>aB,g.tch⟩
@[simp] theorem Zqb(n:Г)(g:FGs)(xs:А D)(δ:Yk):(Wj n g).run (.tup xs) δ=if xs.length=n then g.run xs δ else none:=rfl
ЛZmo{n:Г}{g:FGs}{v:V}{Q:St->Hp->В}(h:Of Z (Wj n g) v σ H Q):Zo7 K n (Op Z g) v σ H Q:=by
 O⟨F,δ,own,d,δ',s,r,e,k⟩:=h;dsimp only[Wj]at e;split at e
 ·rename_i xs;B hn:xs.length=n
  ·K[Е hn]at e;cases r with
   |tup h r=>E⟨_,_,rfl,Qf s.le (Gr h),by K[<-r.length];E hn,F,δ,own,_,δ',s,r,e,k⟩
  ·K[Д hn]at e;C e
 ·C e
НL3(g:FG)(fe:FE):FS:=λδ=>(fe δ).bind λp=>(frz p.1 p.2).bind λq=>(g.run q.1 q.2).bind λδ'=>aA (.nx δ')
ЛZd0{g:FG}{fe:FE}(h:Z5 Z (L3 g fe) E σ H):Vx (Ze Z fe) (Of Z g) E σ H:=by O⟨F,δ,own,fl,s,e,k⟩:=h;O⟨⟨rv,δ1⟩,e1,e2⟩:=aa.mp e;O⟨⟨d,δ2⟩,e3,e4⟩:=aa.mp e2;O⟨δ3,e5,e6⟩:=aa.mp e4;C e6;R⟨F,δ,own,rv,δ1,s,e1,λv H1 F1 own1 sH sF s1 r1=>?_⟩;O⟨F2,sF2,s2,r2⟩:=s1.settleR r1;O⟨F3,own3,sF3,s3,r3⟩:=s2.frzR r2 e3;E⟨F3,δ2,own3,d,δ3,s3,r3,e5,λσ' own' s' _=>k σ' H1 F3 own' (sF.trans (sF2.trans sF3)) s'⟩
НZ7(tg:FG)(body:FS):А D->Yk->Б Fl
 | [],δ=>aA (.nx δ)
 |d::ds,δ=>(tg.run d δ).bind λδ1=>(body δ1).bind fun
  | .nx δ2=>Z7 tg body ds δ2
  | .ct δ2=>Z7 tg body ds δ2
  | .bk δ2=>aA (.nx δ2)
  | .rt sv=>aA (.rt sv)
  | .ex x δ2=>aA (.ex x δ2)
МOq(K:ad)(J:It)(F:Hp)(ds:А D):Prop:=∀F' H,Zi F F'->Zi F' H->∀i:Г,
 (∀d,ds[i]? =aA d->J.go i H/\∀x H',J.yld i H x H'->Zi H H'/\∃ns,(Bf ns).Nodup/\(∀p∈ns,H p.1=aB/\H' p.1=aA p.2)/\Rep K (Ue F' ns) d x)/\(ds.length<=i->J.stop i H)
МQm(Z:Ent K)(f:FD):TI:=λσ H R=>∃F δ own ds δ',SR Z F H σ δ own/\f δ=aA (ds,δ')/\
 ∀J H' F' own',Zi H H'->Zi F F'->SR Z F' H' σ δ' own'->Oq K J F' ds->R J H'
НJ1(fi:FD)(tg:FG)(body:FS):FS:=λδ=>(fi δ).bind λp=>Z7 tg body p.1 p.2
ЛSR.fresh{F H':Hp}{δ:Yk}{own:Г->Zo}{ns:Zo}(s:SR Z F H σ δ own)(sm:Zi H H')(nd:(Bf ns).Nodup)(h:∀p∈ns,H p.1=aB/\H' p.1=aA p.2):Zi F (Ue F ns)/\SR Z (Ue F ns) H' σ δ own:=by R⟨Ql λp hp=>s.le.free (h p hp).1,(s.grow sm).addF nd (λp hp=>s.le.free (h p hp).1) (λp hp=>(h p hp).2) (λp hp=>s.old.free (h p hp).1) λi p q hp hq e=>?_⟩;V z:=(s.ok i q hq).2.2;K[<-e,(h p hp).1]at z;C z
ЛZqc{fi:FD}{tg:FG}{body:FS}(h:Z5 Z (J1 fi tg body) E σ H):Zpc (Qm Z fi) (Of Z tg) (Z5 Z body) E σ H:=by
 O⟨F,δ,own,fl,s,e,k⟩:=h;O⟨⟨ds,δ1⟩,e1,e2⟩:=aa.mp e;R⟨F,δ,own,ds,δ1,s,e1,λJ H1 F1 own1 sH sF s1 yl=>?_⟩;R⟨λi m σ H=>m=ds.length- i/\i<=ds.length/\∃F δ own,Zi F1 F/\SR Z F H σ δ own/\Z7 tg body (ds.drop i) δ=aA fl,⟨ds.length,by simp,f7 _,F1,δ1,own1,Zi.refl F1,s1,e2⟩,?_⟩;rintro i m σ' H' ⟨rfl,hi,F2,δ2,own2,sF2,s2,ef⟩;B hlt:i<ds.length
 ·V hd:ds[i]? =aA ds[i]:=by simp[hlt]
  O⟨go,yy⟩:=(yl F2 H' sF2 s2.le i).1 _ hd;K[List.drop_eq_getElem_cons hlt]at ef;O⟨δ3,e3,e4⟩:=aa.mp ef;O⟨f1,e5,e6⟩:=aa.mp e4;R .inr ⟨go,λσ4 H4=>∃F δ own,Zi F1 F/\SR Z F H4 σ4 δ own/\Z7 tg body (ds.drop (i+1)) δ=aA fl,λσ4 H4 ⟨F4,δ4,own4,a,b,c⟩=>⟨ds.length- (i+1),by W,rfl,hlt,F4,δ4,own4,a,b,c⟩,λx H3 hy=>?_⟩;O⟨sm,ns,nd,hn,rp⟩:=yy x H3 hy;O⟨sFn,sn⟩:=s2.fresh sm nd hn;R⟨Ue F2 ns,δ2,own2,_,δ3,sn,rp,e3,λσ5 own5 s5 _=>⟨Ue F2 ns,δ3,own5,f1,s5,e5,?_⟩⟩;cases f1 with
  |nx δ6=>E λσ6 H6 F6 own6 a b=>⟨F6,δ6,own6,sF2.trans (sFn.trans a),b,e6⟩
  |ct δ6=>E λσ6 H6 F6 own6 a b=>⟨F6,δ6,own6,sF2.trans (sFn.trans a),b,e6⟩
  |bk δ6=>C e6;E λσ6 H6 F6 own6 a b=>k σ6 H6 F6 own6 (sF.trans (sF2.trans (sFn.trans a))) b
  |rt sv=>C e6;E λv H6 F6 ns6 a=>k v H6 F6 ns6 (sF.trans (sF2.trans (sFn.trans a)))
  |ex x δ6=>C e6;E λσ6 H6 F6 own6 cls od a=>k σ6 H6 F6 own6 cls od (sF.trans (sF2.trans (sFn.trans a)))
 ·V hz:i=ds.length:=by W
  Q hz;K[List.drop_length]at ef;C ef;E .inl ⟨(yl F2 H' sF2 s2.le _).2 (ba _),k σ' H' F2 own2 (sF.trans sF2) s2⟩
МUu(t:FT)(body:FS):Г->Yk->Б Fl
 |0,_=>aB
 |n+1,δ=>(t δ).bind λp=>if p.1=aC then(body p.2).bind (fun
  | .nx δ2=>Uu t body n δ2
  | .ct δ2=>Uu t body n δ2
  | .bk δ2=>aA (.nx δ2)
  | .rt sv=>aA (.rt sv)
  | .ex x δ2=>aA (.ex x δ2))else aA (.nx p.2)
ЛZh6{n:Г}{t:FT}{body:FS}(h:Z5 Z (Uu t body n) E σ H):Zc6 (Yl Z t) (Z5 Z body) E σ H:=by
 O⟨F,δ,own,fl,s,e,k⟩:=h;R⟨λm σ H=>∃F2 δ own,Zi F F2/\SR Z F2 H σ δ own/\Uu t body m δ=aA fl,⟨n,F,δ,own,Zi.refl F,s,e⟩,?_⟩;rintro m σ1 H1 ⟨F1,δ1,own1,sF1,s1,e1⟩;cases m with
 |zero=>C e1
 |succ m=>
  O⟨⟨c,δ2⟩,e2,e3⟩:=aa.mp e1;R⟨F1,δ1,own1,c,δ2,s1,e2,λH2 F2 own2 sH sF2 s2=>?_⟩;cases c with
  |false=>K[Д bv]at e3⊢;C e3;E k σ1 H2 F2 own2 (sF1.trans sF2) s2
  |true=>
   K[Е rfl]at e3⊢;O⟨f1,e4,e5⟩:=aa.mp e3;R⟨λσ' H'=>∃F2 δ own,Zi F F2/\SR Z F2 H' σ' δ own/\Uu t body m δ=aA fl,λσ' H' w=>⟨m,Nat.lt_succ_self m,w⟩,F2,δ2,own2,f1,s2,e4,?_⟩;cases f1 with
   |nx δ6=>E λσ6 H6 F6 own6 a b=>⟨F6,δ6,own6,sF1.trans (sF2.trans a),b,e5⟩
   |ct δ6=>E λσ6 H6 F6 own6 a b=>⟨F6,δ6,own6,sF1.trans (sF2.trans a),b,e5⟩
   |bk δ6=>C e5;E λσ6 H6 F6 own6 a b=>k σ6 H6 F6 own6 (sF1.trans (sF2.trans a)) b
   |rt sv=>C e5;E λv H6 F6 ns6 a=>k v H6 F6 ns6 (sF1.trans (sF2.trans a))
   |ex x δ6=>C e5;E λσ6 H6 F6 own6 cls od a=>k σ6 H6 F6 own6 cls od (sF1.trans (sF2.trans a))
НZz3(fe:FE):FD:=λδ=>(fe δ).bind λp=>(frz p.1 p.2).bind λq=>match q.1 with
 | .lst xs=>aA (xs,q.2)
 | .tup xs=>aA (xs,q.2)
 |_=>aB
МZz4(K:ad)(tl:TE):TI:=λσ H R=>tl σ H λx H1=>(∃a,x= .ref a/\(∃xs,W5 K H1 a xs)/\R (Itl K a) H1)\/(∃a,x= .ref a/\(∃xs,Ob K H1 a xs)/\R (Itt K a) H1)
ЛP4{F:Hp}{a:aj}{xs:А D}{vs:А V}(h:W5 K F a vs)(r:Reps K F xs vs):Oq K (Itl K a) F xs:=λF' H sF sH i=>by V q:W5 K H a vs:=Wb (sF.trans sH) h;R⟨λd hd=>?_,λhl=>⟨vs,q,by K[<-r.length];E hl⟩⟩;O⟨v,h1,h2⟩:=r.get hd;R⟨⟨vs,v,q,h1⟩,λx H' zq9=>?_⟩;O⟨e1,e2⟩:=zq9;Q e1;V e3:=e2 vs q;K[h1]at e3;C e3;E⟨Zi.refl _,[],df,λ_ h=>(nomatch h),h2.mono sF⟩
ЛXd{F:Hp}{a:aj}{xs:А D}{vs:А V}(h:Ob K F a vs)(r:Reps K F xs vs):Oq K (Itt K a) F xs:=λF' H sF sH i=>by V q:Ob K H a vs:=Qf (sF.trans sH) h;R⟨λd hd=>?_,λhl=>⟨vs,q,by K[<-r.length];E hl⟩⟩;O⟨v,h1,h2⟩:=r.get hd;R⟨⟨vs,v,q,h1⟩,λx H' zq9=>?_⟩;O⟨e1,e2⟩:=zq9;Q e1;V e3:=e2 vs q;K[h1]at e3;C e3;E⟨Zi.refl _,[],df,λ_ h=>(nomatch h),h2.mono sF⟩
МTd(lo:Int)(n:Г):А D:=(cq n).map λi=>.int (lo+(i:Г))
ЛL4{lo:Int}{n:Г}{F:Hp}:Oq K (Itr lo n) F (Td lo n):=λF' H sF sH i=>by
 V hl:(Td lo n).length=n:=by U Td;K[aq,List.length_range]
 R⟨λd hd=>?_,λh=>by K[hl]at h;E h⟩;V hi:i<n:=by V :=(a8.mp hd).1;K[hl]at this;E this
 R⟨hi,λx H' zq9=>?_⟩;O⟨e1,e2⟩:=zq9;subst e1 e2;U Td at hd;K[az,List.getElem?_range hi]at hd;C hd;E⟨Zi.refl _,[],df,λ_ h=>(nomatch h),.int _⟩
МMi(j:Int):Prop:=-(2^62)<=j/\j<2^62
ЛZh7{j:Int}(h0:0<=j)(h:j<=16777216):Mi j:=⟨by W,by W⟩
ЛUv{n:Г}(h:n<=16777216):Mi (n:Int):=Zh7 И И
open Classical in
НTk(fa:FA):FD:=λδ=>(fa δ).bind λp=>match Oe p.1 p.2 with
 |some [.int j]=>if Mi j then aA (Td 0 j.toNat,p.2)else aB
 |_=>aB
ЛZmp{fa:FA}{R:It->Hp->В}(h:Qm Z (Tk fa) σ H R):Zj6 (Cb Z fa) σ H R:=by
 O⟨F,δ,own,ds,δ',s,e,k⟩:=h;O⟨⟨rvs,δ1⟩,e1,e2⟩:=aa.mp e;R⟨F,δ,own,rvs,δ1,s,e1,λvs H1 F1 own1 sH sF s1 r1=>?_⟩;dsimp only at e2;split at e2
 ·rename_i j hj;V rn:=s1.rdAll r1 hj;cases rn with
  |cons h t=>
   C t;B hb:Mi j
   ·K[Е hb]at e2;C e2;E⟨j,by K[h.int],hb.1,hb.2,k _ H1 F1 own1 sH sF s1 L4⟩
   ·K[Д hb]at e2;C e2
 ·C e2
НRq(i:Г)(fe:FE):FS:=λδ=>match δ[i]? with
 |some (aA (.ol _))=>(fe δ).bind λp=>(frz p.1 p.2).bind λq=>match q.2[i]? with
  |some (aA (.ol xs))=>if xs.length<bd then aA (.nx (q.2.set i (aA (.ol (xs++[q.1])))))else aB
  |_=>aB
 |_=>aB
ЛJr{F:Hp}{xs:А D}{v:V}{ns:Zo}(h:Shape K F (.ol xs) v ns):∃a vs,v= .ref a/\ns=[(a,.lst vs)]/\Reps K F xs vs:=by
 cases h with
 |ol r=>E⟨_,_,rfl,rfl,r⟩
ЛZqd{i:Г}{fe:FE}(h:Z5 Z (Rq i fe) E σ H):Hu (tBM K "list" Bk (Bg i) (Rm (Ze Z fe) Pq)) E σ H:=by
 O⟨F,δ,own,fl,s,e,k⟩:=h;U Rq at e;split at e
 ·rename_i xs0 hx0;O⟨⟨rv,δ1⟩,e1,e2⟩:=aa.mp e;O⟨⟨d,δ2⟩,e3,e4⟩:=aa.mp e2;O⟨v,hv,sh⟩:=s.at' i _ hx0;O⟨a,vs0,ev,en,r0⟩:=Jr sh;R⟨v,hv,?_,F,δ,own,rv,δ1,s,e1,λy H1 F1 own1 sH sF s1 r1=>?_⟩
  ·Q ev;E .inl ⟨rfl,vs0,.inl (.inl (s.ok i (a,.lst vs0) (by K[en];E af)).2.2)⟩
  O⟨F2,sF2,s2,r2⟩:=s1.settleR r1;O⟨F3,own3,sF3,s3,r3⟩:=s2.frzR r2 e3;dsimp only at e4;split at e4
  ·rename_i xs hx;B hz:xs.length<bd
   ·K[Е hz]at e4;C e4;O⟨v',hv',sh'⟩:=s3.at' i _ hx;K[hv]at hv';C hv';O⟨b,vs,eb,en',r'⟩:=Jr sh';V mb:(b,HO.lst vs)∈own3 i:=by K[en'];E af
    Q eb;R⟨b,vs,y,rfl,rfl,(s3.ok i _ mb).2.2,by K[<-r'.length];E hz,?_⟩;E k σ _ F3 _ (sF.trans (sF2.trans sF3)) (s3.change (sv':=.ol (xs++[d])) (o':=.lst (vs++[y])) (ns':=[(b,.lst (vs++[y]))]) hx hv mb (.ol (r'.snoc r3)) (λp hp=>.inl (ar.mp hp)) Ix)
   ·K[Д hz]at e4;C e4
  ·C e4
 ·C e
end
НAo(n:Г)(ds:А D):Yk:=ds.map (λd=>aA (.fz d))++dn (n- ds.length) aB
ЛP5{N:А Str}{F H:Hp}{ds:А D}{vs:А V}(le:Zi F H)(r:Reps K F ds vs):SR (ent H F:Ent K) F H (L2.Ca N vs) (Ao N.length ds) λ_=>[]:=by
 V hl:=r.length;R⟨le,λb o e=>.inl e,Zi.refl H,?_,λi sv e=>?_,λ_=>df,λ_ _ h=>(nomatch h),λ_ _ _ _ _ h=>(nomatch h)⟩
 ·U L2.Ca Ao;K[aw,aw,aq,aq,List.length_replicate,List.length_replicate,hl]
 ·U Ao at e;B hi:i<ds.length
  ·K[dg (by L hi),az]at e;cases hd:ds[i]? with
   |none=>K[hd]at e;C e
   |some d=>K[hd]at e;C e;O⟨v,h1,h2⟩:=r.get hd;R⟨v,?_,.fz h2⟩;U L2.Ca;K[dg (by K[aq];W),az,h1];rfl
  ·K[gk (by L hi),List.getElem?_replicate]at e;split at e<;> C e
ЛZd1{n:Г}{g:А D->Б SV}{vs:А V}{H:Hp}{Q:VK}{E:XK}(h:Y1 K n g vs H Q E):vs.length=n:=by O⟨F,ds,sv,le,r,hn,e,k⟩:=h;K[<-r.length];E hn
end DL
namespace DL
open PySem L2
variable{K:ad}
МxG(K:ad)(g:FG):TG:=λv σ H Q=>∃Z:Ent K,Of Z g v σ H Q
МxT(K:ad)(f:FT):TT:=λσ H Q=>∃Z:Ent K,Yl Z f σ H Q
МxE(K:ad)(f:FE):TE:=λσ H Q=>∃Z:Ent K,Ze Z f σ H Q
МQ7:FT:=λδ=>aA (aC,δ)
@[simp] theorem Zqe(δ:Yk):Q7 δ=some (true,δ):=rfl
Нcaps(src:А BSrc):А RV:=src.filterMap fun
 | .cap j=>aA (.bw j)
 |_=>aB
НXe(δ:Yk):BSrc->Б SV
 | .own=>aB
 | .cap j=>match δ[j]?.join with
  |some (.fz d)=>aA (.fz d)
  |_=>aB
 | .acc=>aA (.ol [])
НbD(src:А BSrc)(δ:Yk):Yk:=src.map (Xe δ)
НresetSlot:BSrc->Б SV->Б SV
 | .own,_=>aB
 |_,o=>o
НO9:А BSrc->Yk->Yk
 |b::r,o::t=>resetSlot b o::O9 r t
 |_,t=>t
НYb(src:А BSrc)(k:Г)(g:FG)(tt:FT)(te:FE):А D->Yk->Б Yk
 | [],δ=>aA δ
 |d::ds,δ=>(g.run d δ).bind λδ1=>(tt δ1).bind λp=>if p.1=aC then(te p.2).bind λq=>(frz q.1 q.2).bind λr=>match r.2[k]? with
   |some (aA (.ol zs))=>if zs.length<bd then Yb src k g tt te ds (O9 src (r.2.set k (aA (.ol (zs++[r.1])))))else aB
   |_=>aB
  else Yb src k g tt te ds (O9 src p.2)
НOg(src:А BSrc)(k:Г)(fi:FD)(g:FG)(tt:FT)(te:FE):FE:=λδ=>(fi δ).bind λp=>(frzAll (caps src) p.2).bind λc=>(Yb src k g tt te p.1 (bD src c.2)).bind λδb=>match δb[k]? with
 |some (aA (.ol ys))=>aA (.tmp (.ol ys),c.2)
 |_=>aB
ЛMj:∀(src:А BSrc) (δ:Yk),(O9 src δ).length=δ.length
 | [],t=>by U O9;rfl
 |_::_,[]=>by U O9;rfl
 |b::r,o::t=>by show(resetSlot b o::O9 r t).length=_;K[bf,bf,Mj r t]
ЛMl:∀{src:А BSrc} {δ:Yk} {i:Г} {sv:SV},(O9 src δ)[i]? =aA (aA sv)->δ[i]? =aA (aA sv)
 | [],_,_,_,h=>h
 |_::_,[],_,_,h=>h
 |b::r,o::t,0,sv,h=>by
  V h:aA (resetSlot b o)=aA (aA sv):=h;cases b with
  |own=>C h
  |cap j=>E h
  |acc=>E h
 |b::r,o::t,i+1,sv,h=>by V h:(O9 r t)[i]? =aA (aA sv):=h;T t[i]? =_;E Ml h
section
variable{Z:Ent K}{F H:Hp}{σ:St}{δ δ':Yk}{own:Г->Zo}
ЛSR.forget(s:SR Z F H σ δ own)(hl:δ'.length=δ.length)(h:∀(i:Г) (sv:SV),δ'[i]? =aA (aA sv)->δ[i]? =aA (aA sv)):SR Z F H σ δ' own:=
 ⟨s.le,s.fro,s.old,s.len.trans hl.symm,λi sv e=>s.at' i sv (h i sv e),s.nod,s.ok,s.sep⟩
ЛSR.caps:∀{rvs:А RV} {ds:А D} {δ δ':Yk} {F:Hp} {own:Г->Zo},(∀rv∈rvs,∃j,rv= .bw j)->SR Z F H σ δ own->DL.frzAll rvs δ=aA (ds,δ')->∃F1 own1,Zi F F1/\SR Z F1 H σ δ' own1
 | [],_,_,_,F,own,_,s,e=>by C e;E⟨F,own,Zi.refl F,s⟩
 |rv::r,_,_,_,F,own,hb,s,e=>by O⟨⟨d,δ1⟩,e1,e2⟩:=aa.mp e;O⟨⟨ds,δ2⟩,e3,e4⟩:=aa.mp e2;C e4;O⟨j,rfl⟩:=hb rv af;O⟨sv,e5,e6⟩:=aa.mp e1;C e6;O⟨F1,v,sF,_,_,s1⟩:=s.freeze (O8 e5);O⟨F2,own2,sF2,s2⟩:=SR.caps (λrv h=>hb rv (ao _ h)) s1 e3;E⟨F2,own2,sF.trans sF2,s2⟩
ЛSR.after{F3 H3:Hp}(s2:SR Z F H σ δ own)(sH3:Zi H H3)(sF3:Zi F F3)(le3:Zi F3 H3)(fro3:∀(b:aj) (o:HO),F3 b=aA o->F b=aA o\/H b=aB):SR Z F3 H3 σ δ own:=by
 R⟨le3,λb o e=>?_,s2.old.trans sH3,s2.len,λi sw ei=>?_,s2.nod,λi p hp=>?_,s2.sep⟩
 ·J fro3 b o e with z|z
  ·E s2.fro b o z
  ·E .inr (s2.old.free z)
 ·O⟨w,h1,h2⟩:=s2.at' i sw ei;E⟨w,h1,h2.mono sF3⟩
 ·O⟨a,b,c⟩:=s2.ok i p hp;R⟨?_,b,sH3 _ _ c⟩;cases z:F3 p.1 with
  |none=>rfl
  |some u=>
   J fro3 _ u z with y|y
   ·K[a]at y;C y
   ·K[c]at y;C y
end
structure SrcOk(src:А BSrc)(k:Г):В where
 acc:src[k]? =aA .acc
 uni:∀i:Г,src[i]? =aA .acc->i=k
ЛZd2{Z:Ent K}{F H:Hp}{σ:St}{δ:Yk}{own:Г->Zo}{src:А BSrc}{k:Г}{acc:aj}(S:SrcOk src k)(s:SR Z F H σ δ own)(ha:H acc=aB):
  SR (ent H F:Ent K) F (Z9 H acc (.lst [])) (Vt src σ acc) (bD src δ) (λi=>if i=k then[(acc,.lst [])]else[]):=by
 V mem:∀{i:Г} {p:aj×HO},p∈(if i=k then[(acc,HO.lst [])]else[])->i=k/\p=(acc,.lst []):=fun{i p} h=>by
  B hi:i=k
  ·K[Е hi]at h;E⟨hi,ar.mp h⟩
  ·K[Д hi]at h;E nomatch h
 R⟨s.le.trans (Ws ha),λb o e=>.inl e,Ws ha,by U Vt bD;K[aq,aq],λi sv e=>?_,λi=>?_,λi p hp=>?_,λi j p q hij hp hq=>?_⟩
 ·U bD at e;K[az]at e;cases hq:src[i]? with
  |none=>K[hq]at e;C e
  |some q=>
   K[hq]at e;V e:Xe δ q=aA sv:=cz.inj e;cases q with
   |own=>C e
   |acc=>C e;V hi:=S.uni i hq;R⟨.ref acc,by U Vt;K[az,hq];rfl,?_⟩;T Shape K F (.ol []) (.ref acc) (if i=k then[(acc,.lst [])]else[]);K[Е hi];E .ol .nil
   |cap j=>
    V hi:i≠k:=λz=>by K[z,S.acc]at hq;C hq
    U Xe at e;dsimp only at e;split at e
    ·rename_i d hd;C e;O⟨v,h1,h2⟩:=s.at' j _ (O8 hd);R⟨v,by U Vt;K[az,hq];T aA (σ[j]?).join=_;K[h1];rfl,?_⟩;show Shape K F (.fz d) v (if i=k then[(acc,.lst [])]else[]);K[Д hi];E .fz (Jp h2)
    ·C e
 ·show(Bf (if i=k then[(acc,HO.lst [])]else[])).Nodup;B hi:i=k
  ·K[Е hi];E Ix
  ·K[Д hi];E df
 ·O⟨_,rfl⟩:=mem hp;E⟨s.le.free ha,ha,Z3⟩
 ·O⟨z,_⟩:=mem hp;O⟨y,_⟩:=mem hq;E absurd (z.trans y.symm) hij
ЛZd3{Z:Ent K}{H:Hp}{σ:St}{Q:VK}{src:А BSrc}{k:Г}{fi:FD}{g:FG}{tt:FT}{te:FE}(S:SrcOk src k)(hk:k∉g.tch)(h:Ze Z (Og src k fi g tt te) σ H Q):
  Zdv src (Qm Z fi) (xG K g) (xT K tt) (xE K te) σ H Q:=by
 O⟨F,δ,own,rv,δ',s,e,k0⟩:=h;O⟨⟨ds,δ1⟩,e1,e2⟩:=aa.mp e;O⟨⟨cs,δ2⟩,e3,e4⟩:=aa.mp e2;O⟨δf,e5,e6⟩:=aa.mp e4;R⟨F,δ,own,ds,δ1,s,e1,λJ H1 F1 own1 sH sF s1 yl acc ha=>?_⟩;O⟨F2,own2,sF2,s2⟩:=s1.caps (λrv hr=>by
  U DL.caps at hr;O⟨b,_,hb⟩:=List.mem_filterMap.mp hr;cases b with
  |own=>C hb
  |acc=>C hb
  |cap j=>C hb;E⟨j,rfl⟩) e3
 V s3:=Zd2 S s2 ha;V hacc0:(Vt src σ acc)[k]? =aA (aA (.ref acc)):=by U Vt;K[az,S.acc];rfl
 R⟨λi m σ' H=>m=ds.length- i/\i<=ds.length/\σ'[k]? =aA (aA (.ref acc))/\∃F δ own,Zi F2 F/\SR (ent H1 F2:Ent K) F H σ' δ own/\Yb src k g tt te (ds.drop i) δ=aA δf,
  ⟨ds.length,by simp,f7 _,hacc0,F2,_,_,Zi.refl F2,s3,e5⟩,?_⟩
 rintro i m σ4 H4 ⟨rfl,hi,hacc,F4,δ4,own4,sF4,s4,ef⟩;B hlt:i<ds.length
 ·V hd:ds[i]? =aA ds[i]:=by simp[hlt]
  O⟨go,yy⟩:=(yl F4 H4 (sF2.trans sF4) s4.le i).1 _ hd;K[List.drop_eq_getElem_cons hlt]at ef;O⟨δ5,e7,e8⟩:=aa.mp ef;O⟨⟨b,δ6⟩,e9,e10⟩:=aa.mp e8;R .inr ⟨go,λx H5 hy=>?_⟩;O⟨sm,ns,nd,hn,rp⟩:=yy x H5 hy;O⟨sFn,sn⟩:=s4.fresh sm nd hn;R⟨(ent H1 F2:Ent K),Ue F4 ns,δ4,own4,_,δ5,sn,rp,e7,λσ6 own6 s6 t6=>⟨(ent H1 F2:Ent K),Ue F4 ns,δ5,own6,b,δ6,s6,e9,λH7 F7 own7 sH7 sF7 s7=>?_⟩⟩;V hacc6:σ6[k]? =aA (aA (.ref acc)):=(t6 k hk).trans hacc;cases b with
  |false=>dsimp only;K[Д bv]at e10⊢;E⟨ds.length- (i+1),by W,rfl,hlt,hacc6,F7,_,own7,sF4.trans (sFn.trans sF7),s7.forget (Mj src δ6) (λj sv hj=>Ml hj),e10⟩
  |true=>
   dsimp only;K[Е rfl]at e10⊢;O⟨⟨rv8,δ8⟩,e11,e12⟩:=aa.mp e10;O⟨⟨d9,δ9⟩,e13,e14⟩:=aa.mp e12;R⟨(ent H1 F2:Ent K),F7,δ6,own7,rv8,δ8,s7,e11,λy H8 F8 own8 sH8 sF8 s8 r8=>?_⟩;O⟨F9,sF9,s9,r9⟩:=s8.settleR r8;O⟨F10,own10,sF10,s10,r10⟩:=s9.frzR r9 e13;dsimp only at e14;split at e14
   ·rename_i zs hz;B hzl:zs.length<bd
    ·K[Е hzl]at e14;O⟨v',hv',sh'⟩:=s10.at' k _ hz;K[hacc6]at hv';C hv';O⟨b,vs,eb,en',r'⟩:=Jr sh';C eb;V mb:(acc,HO.lst vs)∈own10 k:=by K[en'];E af
     R⟨acc,vs,y,rfl,rfl,(s10.ok k _ mb).2.2,by K[<-r'.length];E hzl,?_⟩;V s11:=s10.change (sv':=.ol (zs++[d9])) (o':=.lst (vs++[y])) (ns':=[(acc,.lst (vs++[y]))]) hz hacc6 mb (.ol (r'.snoc r10)) (λp hp=>.inl (ar.mp hp)) Ix;E⟨ds.length- (i+1),by W,rfl,hlt,hacc6,F10,_,_,sF4.trans (sFn.trans (sF7.trans (sF8.trans (sF9.trans sF10)))),s11.forget (Mj src _) (λj sv hj=>Ml hj),e14⟩
    ·K[Д hzl]at e14;C e14
   ·C e14
 ·V hz:i=ds.length:=by W
  Q hz;K[List.drop_length]at ef;C ef;R .inl ⟨(yl F4 H4 (sF2.trans sF4) s4.le _).2 (ba _),?_⟩;dsimp only at e6;split at e6
  ·rename_i ys hys;C e6;O⟨v',hv',sh'⟩:=s4.at' k _ hys;K[hacc]at hv';C hv';O⟨b,vs,eb,en',r'⟩:=Jr sh';C eb;V mb:(acc,HO.lst vs)∈own4 k:=by K[en'];E af
   O⟨o1,o2,o3⟩:=s4.ok k _ mb;R k0 (.ref acc) H4 F4 own2 (sH.trans s4.old) (sF.trans (sF2.trans sF4)) (s2.after s4.old sF4 s4.le λb o e=>s4.fro b o e) ⟨[(acc,.lst vs)],.ol r',Ix,λp hp=>?_,λj p q hp hq e=>?_⟩
   ·obtain rfl:=ar.mp hp;E⟨o1,s2.old.free ha,o3⟩
   ·obtain rfl:=ar.mp hp;V z:=(s2.ok j q hq).2.2;V e':acc=q.1:=e;K[<-e',ha]at z;C z
  ·C e6
end DL
namespace DL
open PySem PySem.Spec PyProof.Rows L2
variable{K:ad}
variable{Z:Ent K}
НXf(f:Int->Int->D):D->D->Б SV
 | .int i,.int j=>aA (.fz (f i j))
 |_,_=>aB
НZbq(C:Int->Int->Bool)(f:Int->Int->D):D->D->Б SV
 | .int i,.int j=>if C i j=aC then aA (.fz (f i j))else aB
 |_,_=>aB
ЛZkj{g:Int->Int->V}{f:Int->Int->D}(hr:∀F i j,Rep K F (f i j) (g i j)):Y7 Z (rI0 g) (Xf f):=by
 I F H σ δ own x y d1 d2 sv Q s r1 r2 e k;U Xf at e;split at e
 ·C e;E⟨_,_,r1.int,r2.int,k.fz s (hr _ _ _)⟩
 ·C e
ЛZmq{C:Int->Int->В}{c:Int->Int->Bool}{g:Int->Int->V}{f:Int->Int->D}(hc:∀i j,c i j=aC->C i j)(hr:∀F i j,Rep K F (f i j) (g i j)):Y7 Z (rI C g) (Zbq c f):=by
 I F H σ δ own x y d1 d2 sv Q s r1 r2 e k;U Zbq at e;split at e
 ·split at e
  ·rename_i hcc;C e;E⟨_,_,r1.int,r2.int,hc _ _ hcc,k.fz s (hr _ _ _)⟩
  ·C e
 ·C e
НZz5:D->D->Б SV:=Xf λi j=>.int (i- j)
МZd4(i j:Int):Bool:=(decide (-(2^64)<i)&&decide (i<2^64))|| (decide (-(2^64)<j)&&decide (j<2^64))
НZqf:D->D->Б SV:=Zbq Zd4 λi j=>.int (i*j)
НZqg(i j:Int):Bool:=decide (0<j)&&decide (j<1073741824)
НRr:D->D->Б SV:=Zbq Zqg λi j=>.int (i / j)
НZqh(i j:Int):Bool:=decide (0<j)
НUf:D->D->Б SV:=Zbq Zqh λi j=>.int (i % j)
НZu7(i j:Int):Bool:=decide (0<=j)&&decide (j<=1000000)&&decide (i.natAbs<2^64)
НZz6:D->D->Б SV:=Zbq Zu7 λi j=>.int (i^j.toNat)
ЛZqi:Y7 Z (rI Zc9 λi j=>V.int (i*j)) Zqf:=Zmq (λi j h=>by
 U Zd4 at h;simp only[Bool.or_eq_true,Bool.and_eq_true,decide_eq_true_eq]at h;E h) λ_ _ _=>.int _
ЛZmr:Y7 Z (rI Zpf λi j=>V.int (i / j)) Rr:=Zmq (λi j h=>by
 U Zqg at h;simp only[Bool.and_eq_true,decide_eq_true_eq]at h;E h) λ_ _ _=>.int _
ЛZqj:Y7 Z (rI (λ_ j=>0<j) λi j=>V.int (i % j)) Uf:=Zmq (λi j h=>by
 U Zqh at h;simp only[decide_eq_true_eq]at h;E h) λ_ _ _=>.int _
НUg:D->D->Б SV:=Xf λi j=>.bl (decide (i<j))
НleD:D->D->Б SV:=Xf λi j=>.bl (decide (i<=j))
НgtD:D->D->Б SV:=Xf λi j=>.bl (decide (j<i))
НgeD:D->D->Б SV:=Xf λi j=>.bl (decide (j<=i))
ЛZu8:Y7 Z (rI0 λi j=>V.bl (decide (i<j))) Ug:=Zkj λ_ _ _=>.bl _
ЛZu9:Y7 Z (rI0 λi j=>V.bl (decide (j<i))) gtD:=Zkj λ_ _ _=>.bl _
МZva:R2:=λx y H Q=>∃i j,x= .str i/\y= .str j/\i.length+j.length<=bd/\Q (.str (i++j)) H
МZkk(K:ad):R2:=λx y H Q=>∃l b xs zs,x= .ref l/\y= .ref b/\W5 K H l xs/\W5 K H b zs/\xs.length+zs.length<=bd/\∀p,H p=aB->Q (.ref p) (Z9 H p (.lst (xs++zs)))
ЛZh8{X:Cx}:Cf X (binaryOp .Add) (Zkk X.K):=by
 I pins s σ H x y v u Q I rx ry h;O⟨l,b,xs,zs,rfl,rfl,hH,hB,hz,q⟩:=h;C rx;C ry;O⟨its,r,pl,z⟩:=I.list hH;O⟨its2,r2,pl2,z2⟩:=I.list hB;V hl:=r.length;V hl2:=r2.length;O⟨⟨cls,dd,data,sl⟩,ho,hc,n,hd⟩:=pl.isList;O⟨⟨cls2,dd2,data2,sl2⟩,ho2,hc2,n2,hd2⟩:=pl2.isList;simp only at hc hd hc2 hd2;subst hc hd hc2 hd2;V ea:its.toArray++its2.toArray=(its++its2).toArray:=by simp
 R concat_meets ⟨_,ho,rfl⟩ ⟨_,ho2,rfl⟩ noFill_list_add seq_list_add PySem.F.slot_list_add PySem.F.entry_list_add (PySem.F.args_list_add_2 _ _) (list_addW l b its.toArray its2.toArray n n2 dd dd2 sl sl2 (by K[bq,bq];W)) ⟨ho,ho2,?_⟩;K[ea];E⟨.ref _,_,I.lnew (t':=s.toks) (r.append r2) (by K[aw];W),rfl,q _ I.fresh⟩
МZkl(K:ad):R2:=λx y H Q=>rI0 (λi j=>V.int (i+j)) x y H Q\/(Zva x y H Q\/Zkk K x y H Q)
ЛZh9{X:Cx}:Cf X (binaryOp .Add) (Zkl X.K):=Zl6.or (V0.or Zh8)
НOs:D->D->Б SV
 | .int i,.int j=>aA (.fz (.int (i+j)))
 | .str x,.str y=>if x.length+y.length<=bd then aA (.fz (.str (x++y)))else aB
 | .lst xs,.lst ys=>if xs.length+ys.length<=bd then aA (.ol (xs++ys))else aB
 |_,_=>aB
ЛZqk:Y7 Z (Zkl K) Os:=by
 I F H σ δ own x y d1 d2 sv Q s r1 r2 e k;U Os at e;split at e
 ·C e;E .inl ⟨_,_,r1.int,r2.int,k.fz s (.int _)⟩
 ·split at e
  ·rename_i hz;C e;E .inr (.inl ⟨_,_,r1.str,r2.str,hz,k.fz s (.str _)⟩)
  ·C e
 ·split at e
  ·rename_i hz;C e;O⟨a,vs,ex,ha,ra⟩:=r1.lst s.le;O⟨b,us,ey,hb,rb⟩:=r2.lst s.le;E .inr (.inr ⟨a,b,vs,us,ex,ey,ha,hb,by K[<-ra.length,<-rb.length];E hz,λp hp=>k.lst s (ra.append rb) hp⟩)
  ·C e
 ·C e
НeqS:D->D->Б Bool
 | .non,.non=>aA aC
 | .non,.int _=>aA aD
 | .int _,.non=>aA aD
 | .non,.bl _=>aA aD
 | .bl _,.non=>aA aD
 | .non,.str _=>aA aD
 | .str _,.non=>aA aD
 | .int i,.int j=>aA (decide (i=j))
 | .bl i,.bl j=>aA (decide (i=j))
 | .str i,.str j=>aA (decide (i=j))
 | .int _,.str _=>aA aD
 | .str _,.int _=>aA aD
 | .bl _,.str _=>aA aD
 | .str _,.bl _=>aA aD
 |_,_=>aB
ЛZd5{F H:Hp}{d1 d2:D}{x y:V}{b:Bool}(e:eqS d1 d2=aA b)(r1:Yi K F H d1 x)(r2:Yi K F H d2 y):scal x y=aC/\b=decide (x=y):=by
 U eqS at e;split at e<;> C e
 ·K[r1.non,r2.non];E⟨rfl,by simp⟩
 ·K[r1.non,r2.int];E⟨rfl,by simp⟩
 ·K[r1.int,r2.non];E⟨rfl,by simp⟩
 ·K[r1.non,r2.bl];E⟨rfl,by simp⟩
 ·K[r1.bl,r2.non];E⟨rfl,by simp⟩
 ·K[r1.non,r2.str];E⟨rfl,by simp⟩
 ·K[r1.str,r2.non];E⟨rfl,by simp⟩
 ·K[r1.int,r2.int];E⟨rfl,by simp⟩
 ·K[r1.bl,r2.bl];E⟨rfl,by simp⟩
 ·K[r1.str,r2.str];E⟨rfl,by simp⟩
 ·K[r1.int,r2.str];E⟨rfl,by simp⟩
 ·K[r1.str,r2.int];E⟨rfl,by simp⟩
 ·K[r1.bl,r2.str];E⟨rfl,by simp⟩
 ·K[r1.str,r2.bl];E⟨rfl,by simp⟩
НeqD(d1 d2:D):Б SV:=(eqS d1 d2).bind λb=>aA (.fz (.bl b))
НneD(d1 d2:D):Б SV:=(eqS d1 d2).bind λb=>aA (.fz (.bl (!b)))
ЛZvd:Y7 Z rEq eqD:=by I F H σ δ own x y d1 d2 sv Q s r1 r2 e k;O⟨b,e1,e2⟩:=aa.mp e;C e2;O⟨h1,h2⟩:=Zd5 e1 r1 r2;Q h2;E⟨h1,k.fz s (.bl _)⟩
ЛZve:Y7 Z rNe neD:=by I F H σ δ own x y d1 d2 sv Q s r1 r2 e k;O⟨b,e1,e2⟩:=aa.mp e;C e2;O⟨h1,h2⟩:=Zd5 e1 r1 r2;Q h2;E⟨h1,k.fz s (.bl _)⟩
НD.isNon:D->Bool
 | .non=>aC
 |_=>aD
НZz7(d1 d2:D):Б SV:=if d2.isNon=aC then aA (.fz (.bl d1.isNon))else aB
НZxt(d1 d2:D):Б SV:=if d2.isNon=aC then aA (.fz (.bl (!d1.isNon)))else aB
ЛReps.atI{F:Hp}{xs:А D}{vs:А V}{i:Int}{d:D}(r:Reps K F xs vs)(e:L2.atI xs i=aA d):∃v,L2.atI vs i=aA v/\Rep K F d v:=by U L2.atI at e⊢;O⟨j,e1,e2⟩:=aa.mp e;O⟨v,h1,h2⟩:=r.get e2;E⟨v,aa.mpr ⟨j,by K[<-r.length];E e1,h1⟩,h2⟩
НixD:D->D->Б SV
 | .lst xs,.int i=>(L2.atI xs i).bind λd=>aA (.fz d)
 | .tup xs,.int i=>(L2.atI xs i).bind λd=>aA (.fz d)
 | .str z,.int i=>if z.length<=bd then(L2.atI z.cps.toList i).bind λc=>aA (.fz (.str ⟨#[c]⟩))else aB
 |_,_=>aB
ЛZqm:Y7 Z (rIx K) ixD:=by
 I F H σ δ own x y d1 d2 sv Q s r1 r2 e k;U ixD at e;split at e
 ·O⟨d,e1,e2⟩:=aa.mp e;C e2;O⟨a,vs,ex,ha,ra⟩:=r1.lst s.le;O⟨v,h1,h2⟩:=ra.atI e1;E .inl ⟨a,vs,_,v,ex,r2.int,ha,h1,k.fz s h2⟩
 ·O⟨d,e1,e2⟩:=aa.mp e;C e2;O⟨a,vs,ex,ha,ra⟩:=r1.tup s.le;O⟨v,h1,h2⟩:=ra.atI e1;E .inr (.inl ⟨a,vs,_,v,ex,r2.int,ha,h1,k.fz s h2⟩)
 ·split at e
  ·rename_i hz;O⟨c,e1,e2⟩:=aa.mp e;C e2;E .inr (.inr ⟨_,_,c,r1.str,r2.int,hz,e1,k.fz s (.str _)⟩)
  ·C e
 ·C e
аFO:=Yk->Б (Б Int×Yk)
МFx(Z:Ent K)(f:FO):TO:=λσ H Q=>∃F δ own o δ',SR Z F H σ δ own/\f δ=aA (o,δ')/\∀H' F' own',Zi H H'->Zi F F'->SR Z F' H' σ δ' own'->Q o H'
НZvf:FO:=λδ=>aA (aB,δ)
НDe(fe:FE):FO:=λδ=>(fe δ).bind λp=>match p.1 with
 | .tmp (.fz (.int i))=>aA (aA i,p.2)
 |_=>aB
section
variable{H:Hp}{σ:L2.St}{Q:VK}{R:Б Int->Hp->В}
ЛZms{fe:FE}(h:Fx Z (De fe) σ H R):Zka (Ze Z fe) σ H R:=by
 O⟨F,δ,own,b,δ',s,e,k⟩:=h;O⟨⟨rv,δ1⟩,e1,e2⟩:=aa.mp e;R⟨F,δ,own,rv,δ1,s,e1,λv H1 F1 own1 sH sF s1 r1=>?_⟩;dsimp only at e2;split at e2
 ·C e2;O⟨ns,t⟩:=r1;cases Jp t.sh;E⟨_,rfl,k H1 F1 own1 sH sF s1⟩
 ·C e2
НslF(g:D->Б Int->Б Int->Б SV)(fe:FE)(fl fh:FO):FE:=λδ=>(fe δ).bind λp=>(fl p.2).bind λl=>(fh l.2).bind λh=>(Iw p.1 h.2).bind λd=>(g d l.1 h.1).bind λsv=>aA (.tmp sv,h.2)
МZkn(Z:Ent K)(r:V->Б Int->Б Int->Hp->VK->В)(g:D->Б Int->Б Int->Б SV):Prop:=
 ∀(F H:Hp) (σ:L2.St) (δ:Yk) (own:Г->Zo) (x:V) (d:D) (lo hi:Б Int) (sv:SV) (Q:VK),SR Z F H σ δ own->Yi K F H d x->g d lo hi=aA sv->Fin Z F H σ δ own sv Q->r x lo hi H Q
ЛZvh{r:V->Б Int->Б Int->Hp->VK->В}{g:D->Б Int->Б Int->Б SV}{fe:FE}{fl fh:FO}(hg:Zkn Z r g)(h:Ze Z (slF g fe fl fh) σ H Q):tSl r (Ze Z fe) (Fx Z fl) (Fx Z fh) σ H Q:=by
 O⟨F,δ,own,rv,δ',s,e,k⟩:=h;O⟨⟨rv1,δ1⟩,e1,e⟩:=aa.mp e;O⟨⟨lo,δ2⟩,e2,e⟩:=aa.mp e;O⟨⟨hi,δ3⟩,e3,e⟩:=aa.mp e;O⟨d,e4,e⟩:=aa.mp e;O⟨sv,e5,e⟩:=aa.mp e;C e;R⟨F,δ,own,rv1,δ1,s,e1,λv H1 F1 own1 sH1 sF1 s1 r1=>?_⟩;O⟨F1',sF1',s1',r1'⟩:=s1.settleR r1;R⟨F1',δ1,own1,lo,δ2,s1',e2,λH2 F2 own2 sH2 sF2 s2=>⟨F2,δ2,own2,hi,δ3,s2,e3,λH3 F3 own3 sH3 sF3 s3=>?_⟩⟩;E hg F3 H3 σ δ3 own3 v d lo hi sv Q s3 (s3.rd (r1'.mono (sF2.trans sF3)) e4) e5 λq H4 F4 ns sH4 sF4 s4 t4=>
  k q H4 F4 own3 (sH1.trans (sH2.trans (sH3.trans sH4))) (sF1.trans (sF1'.trans (sF2.trans (sF3.trans sF4)))) s4 ⟨ns,t4⟩
end
МL5(xs:А D)(lo hi:Б Int):А D:=(xs.drop (HT.sIx xs.length 0 lo)).take (HT.sIx xs.length xs.length hi- HT.sIx xs.length 0 lo)
ЛReps.cut{F:Hp}{xs:А D}{vs:А V}(r:Reps K F xs vs)(lo hi:Б Int):Reps K F (L5 xs lo hi) (V5 vs lo hi):=by U L5 V5;K[r.length];E(r.drop _).take _
МZqn:V->Б Int->Б Int->Hp->VK->Prop:=λx lo hi H Q=>∃z,x= .str z/\z.length<=bd/\Q (.str (Txt.slice z lo hi)) H
ЛZmt{X:Cx}:SlR X Zqn:=by
 I pins s σ H x v vl vu lo hi sl Q I rx hs pl pu h;O⟨z,rfl,hz,q⟩:=h;O⟨t,rfl⟩:=rx;R⟨"str",_,F.slot_str_getitem.lookup,typeIs_str _ _ _,?_⟩;V fin:∀(t':Tok) (k:Г),EP X pins σ Q (.str (Txt.slice z lo hi) t') {s with toks:=k}:=λt' k=>⟨.str (Txt.slice z lo hi),H,I.tok _,⟨_,rfl⟩,q⟩
 cases pl with
 |none=>cases pu with
  |none=>E wpAny_getItem_str_slice (l:=aB) (u:=aB) (st:=aB) hs rfl (post_val_or_str ⟨dk (Txt.slice_le z _ _) hz,fin⟩)
  |int j tj=>E wpAny_getItem_str_slice (l:=aB) (u:=aA (j,tj)) (st:=aB) hs rfl (post_val_or_str ⟨dk (Txt.slice_le z _ _) hz,fin⟩)
 |int i ti=>cases pu with
  |none=>E wpAny_getItem_str_slice (l:=aA (i,ti)) (u:=aB) (st:=aB) hs rfl (post_val_or_str ⟨dk (Txt.slice_le z _ _) hz,fin⟩)
  |int j tj=>E wpAny_getItem_str_slice (l:=aA (i,ti)) (u:=aA (j,tj)) (st:=aB) hs rfl (post_val_or_str ⟨dk (Txt.slice_le z _ _) hz,fin⟩)
НslD:D->Б Int->Б Int->Б SV
 | .lst xs,lo,hi=>aA (.ol (L5 xs lo hi))
 | .str z,lo,hi=>if z.length<=bd then aA (.fz (.str (Txt.slice z lo hi)))else aB
 |_,_,_=>aB
ЛZvi:Zkn Z (λx lo hi H Q=>Zpr K x lo hi H Q\/Zqn x lo hi H Q) slD:=by
 I F H σ δ own x d lo hi sv Q s r1 e k;U slD at e;split at e
 ·C e;O⟨a,vs,ex,ha,ra⟩:=r1.lst s.le;E .inl ⟨a,vs,ex,ha,λp hp=>k.lst s (ra.cut _ _) hp⟩
 ·split at e
  ·rename_i hz;C e;E .inr ⟨_,r1.str,hz,k.fz s (.str _)⟩
  ·C e
 ·C e
end DL
namespace L2
open PySem PySem.Spec PyProof.Rows
section
variable{X:Cx}{tg:cj}
МIte(K:ad)(a:aj):It:=
 ⟨λi H=>∃xs x,W5 K H a xs/\xs[i]? =aA x,λi H x H'=>∃p v,x= .ref p/\H p=aB/\H'=Z9 H p (.tup [.int (i:Г),v])/\∀xs,W5 K H a xs->xs[i]? =aA v,λi H=>∃xs,W5 K H a xs/\xs.length<=i⟩
ЛInv.turnedT{pins:А (aj×Obj)}{σ:L2.St}{H:Hp}{s:am}{h':d6}{t':Г}{e it T:aj}{xs:А V}{its:А ah}(I:Inv X pins σ H s)(k:∀b o,b≠e->b≠it->s.heap.get? b=aA o->h'.get? b=aA o)
  (f1:Jz X pins H e) (f2:Jz X pins H it) (hT:T=s.heap.objs.size) (ht:IsTup h' T its.toArray) (rv:Z2 xs its) (hz:xs.length<=sizeLine) (he:∃o,h'.get? e=aA o) (hi:∃o,h'.get? it=aA o):
  Inv X pins σ (Z9 H T (.tup xs)) {s with heap:=h',toks:=t'}:=by
 V hTn:H T=aB:=by K[hT];E I.hok.fresh (ba _)
 V neT:∀b o,s.heap.get? b=aA o->b≠T:=λb o q=>by K[hT];E cf (bo q)
 V ntr:∀b u,H b=aA u->b≠e/\b≠it:=λb u q=>⟨(λz=>by K[z,f1.1]at q;C q),(λz=>by K[z,f2.1]at q;C q)⟩
 R I.step (g':=s.gens) (d':=s.drawn) (ch:=[e,it]) (λb hb=>?_) (λb o _ _ hc q _=>k b o (λz=>hc (by simp[z])) (λz=>hc (by simp[z])) q)
  (λb o _ _ hc q _=>⟨o.slots,k b o (λz=>hc (by simp[z])) (λz=>hc (by simp[z])) q⟩) (λb o _ q n=>by K[Zw (neT b o q)];E n)
  (λb o hc q=>⟨o,k b o (λz=>hc (by simp[z])) (λz=>hc (by simp[z])) q⟩) (λb ys q=>by K[Zw (Y6 q hTn)];E q) (λb o u q=>by K[Zw (Y6 q hTn)];E q)
  (λb ps q=>⟨#[],by K[Zw (Y6 q hTn),q];simp⟩) (λm hm=>?_) (λb u q=>?_) I.bare
 ·V hb':b=e\/b=it:=by L hb
  J hb' with z|z
  ·Q z;O⟨_,a1,_,a3,a4,a5⟩:=f1;E⟨a3,a1,a4,a5⟩
  ·Q z;O⟨_,a1,_,a3,a4,a5⟩:=f2;E⟨a3,a1,a4,a5⟩
 ·O⟨o,es,ep,ho,r⟩:=hm;E⟨o,es,ep,k _ o (Ne.symm f1.2.1) (Ne.symm f2.2.1) ho,r⟩
 ·B hb:b=T
  ·Q hb;K[Z3]at q;C q;E⟨hz,its,rv,ht⟩
  ·K[Zw hb]at q;R(I.hok b u q).stay (λc v hc z=>?_) (λc z=>by K[Zw (Y6 z hTn)];E z) λc ys z=>by K[Zw (Y6 z hTn)];E z
   J hc with y|y
   ·K[y]at z⊢;E k _ _ (ntr b u q).1 (ntr b u q).2 z
   ·E k _ _ (ntr c _ y).1 (ntr c _ y).2 z
ЛZbr{P:b6}{w:c7}{K:ad}{elts:А cj}{kk:Г}{tpos:Pos}(a e it:aj)(hei:e≠it):Turn P w K (.Tuple elts kk tpos) (Ite K a) [e,it] e (λi h=>(∃old,IsEnum h e it ((i:Г):Int) old)/\h.IsListIter it a i)where
 mem:=by simp
 obj:=λi h st b hb=>by
  V hb':b=e\/b=it:=by L hb
  J hb' with z|z
  ·Q z;O⟨old,q⟩:=st.1;E⟨_,q,λv y=>by
    V y':Data.fields _=Data.cell v:=y;C y'⟩
  ·Q z;O⟨o,q,c,d⟩:=st.2;E⟨o,q,λv y=>by K[d]at y;C y⟩
 keep:=λi h h' st k=>⟨let⟨old,q⟩:=st.1;⟨old,k e К _ q⟩,st.2.at λo q=>k it К o q⟩
 item:=by
  I X hP hw hK hc i pins s σ H E I hf st hg;subst hP hw hK;O⟨xs,x,hq,hx⟩:=hg;O⟨its,rv,p,hz⟩:=I.list hq;O⟨u,hu,ru⟩:=rv.get hx;O⟨⟨old,he⟩,hit⟩:=st;V hl:s.heap.IsList a its.toArray:=p.isList;V ai:a≠it:=λz=>by O⟨o1,q1,c1,_⟩:=hit;O⟨o2,q2,c2,_⟩:=hl;K[z,q1]at q2;C q2;K[c1]at c2;E absurd c2 Й
  V ae:e∉[it,a]:=λz=>by
   V z':e=it\/e=a:=by L z
   J z' with z|z
   ·E hei z
   ·O⟨o2,q2,c2,_⟩:=hl;K[<-z,he]at q2;C q2;E absurd (show Value.type "enumerate"=Value.type "list"from c2) Й
  V D:=Draws.list (prog:=X.prog) (w:=X.w) (A:=X.A.in1) (by first|E I.ok.hd hc| (K[show X.A.in1.handled=X.A.handled from rfl];E I.ok.hd hc)) it a ai its.toArray;V hlt:i<its.toArray.size:=by V :=(a8.mp hu).1;K[bq];E this
  R wpAny_pyNext_enum_itemD D he ⟨hit,hl⟩ hlt hei ae λy h' tk hy hout st' hT hsz hk=>⟨.ref s.heap.objs.size,rfl,?_⟩
  R wpAny_letOwnedTupleGo_enum hout λh2 he2 hs2=>?_;V hy':its.toArray[i]? =aA y:=hy;V ey:y=u:=by
   V :its[i]? =aA y:=by L hy'
   K[hu]at this;C this;rfl
  Q ey;V kk:∀b o,b≠e->b≠it->s.heap.get? b=aA o->h2.get? b=aA o:=λb o h1 h3 q=>(hs2.2 b h1).trans (hk b o h1 h3 q);V neT:s.heap.objs.size≠e:=Nat.ne_of_gt (bo he);V I2:=I.turnedT (h':=h2) (t':=tk+1) (e:=e) (it:=it) (T:=s.heap.objs.size) (xs:=[.int (i:Г),x]) (its:=[.int i tk,y]) kk (hf e К) (hf it К) rfl ⟨_,(hs2.2 _ neT).trans hT,rfl,_,rfl⟩ (.cons ⟨tk,rfl⟩ (.cons ru .nil)) (by T 2<=sizeLine;decide)
   ⟨_,he2⟩ (let⟨o,q,_⟩:=st'.1;⟨o,(hs2.2 it (Ne.symm hei)).trans q⟩)
  R⟨.ref s.heap.objs.size,_,I2,rfl,⟨s.heap.objs.size,x,rfl,I.hok.fresh (ba _),rfl,λys hy2=>by K[I.list_inj hy2 hq];E hx⟩,⟨⟨_,he2⟩,st'.1.at λo q=>(hs2.2 it (Ne.symm hei)).trans q⟩,λb hb=>?_⟩;K[Zw λz=>?_]
  ·E(hf b hb).1
  ·V hb':b=e\/b=it:=by L hb
   J hb' with y|y
   ·K[<-z,y]at neT;E neT rfl
   ·O⟨o,q,_⟩:=hit;K[y]at z;E absurd (bo q) (by K[z];E ii _)
 done:=by I X hP hw hK hc i pins s σ H E I hf st hg;subst hP hw hK;O⟨xs,hq,hx⟩:=hg;O⟨its,rv,p,hz⟩:=I.list hq;O⟨⟨old,he⟩,hit⟩:=st;O⟨f0,f1,f2,f3,f4,f5⟩:=hf it К;V hl:=rv.length;E wpAny_pyNext_enum_end (I.ok.hd hc) he hit p.isList (by simp;W) λh' eb=>⟨rfl,I.turned (t':=s.toks) (λb o hb q=>eb b o hb q) f0 f1 f3 f4 f5⟩
 self:=λ_ _ _ _ _ st h=>let⟨⟨old,he⟩,_⟩:=st;wpAny_pyIter_enum he h
МZko(K:ad)(ta:TA):TI:=λσ H R=>ta σ H λvs H1=>∃a xs,vs=[.ref a]/\W5 K H1 a xs/\R (Ite K a) H1
ЛZia{l:cj}{elts:А cj}{kk:Г}{tpos p pos:Pos}{ta:TA}(hg:Gl X "enumerate")(hm:X.mg "enumerate"=aB)(ha:PA X [l] ta)(hs:a9 [l] X.env=[(aD,gq l X.env)]:=by rfl):
  PI X (.Tuple elts kk tpos) (.Call (.Name "enumerate" p) [l] [] pos) (Zko X.K ta):=by
 I pins s σ H R I h;R Call_ (Bh I hg hm boot_enumerate (PyProof.Rows.callWith_type1 (Wp (ha pos pins s σ H _ I h) λus s1 ⟨vs,H1,I1,r1,q1⟩=>?_) hs rfl));O⟨a,xs,e,hq,q⟩:=q1;Q e;O⟨u,rfl,ru⟩:=Oc r1;C ru;O⟨its,rv,p,hz⟩:=I1.list hq;R call_enumerate_list p.isList λh' he hit hsz hk=>wpAny_pyIter_enum he ?_;V I2:Inv X pins σ H1 {s1 with heap:=h'}:=I1.kept (t':=s1.toks) hk;R⟨s1.heap.objs.size+1,[s1.heap.objs.size+1,s1.heap.objs.size],_,_,H1,rfl,I2,Zbr a _ _ (Nat.succ_ne_self _),⟨⟨.none,by L he⟩,hit⟩,λb hb=>?_,q⟩;V hb':b=s1.heap.objs.size+1\/b=s1.heap.objs.size:=by L hb
 J hb' with z|z
 ·Q z;E I1.fpOk (Nat.le_succ _) (I1.hok.fresh (Nat.le_succ _))
 ·Q z;E I1.fpOk (ba _) (I1.hok.fresh (ba _))
МZxu(K:ad):V->А V->Hp->VK->Prop:=λx xs H Q=>∃sep p ys,x= .str sep/\xs=[.ref p]/\W5 K H p (ys.map V.str)/\JoinOk sep ys=aC/\Q (.str (Txt.join sep ys)) H
inductive TyX(K:ad)(H:Hp):V->String->В where
 |non:TyX K H .non "NoneType"
 |bl (x:Bool):TyX K H (.bl x) "bool"
 |int (i:Int):TyX K H (.int i) "int"
 |str (x:Str):TyX K H (.str x) "str"
 |lst {a:aj} {xs:А V} (e:W5 K H a xs):TyX K H (.ref a) "list"
 |tup {a:aj} {xs:А V} (e:Ob K H a xs):TyX K H (.ref a) "tuple"
 |dK {a:aj} {kvs:А (Key×V)} {ep:Г} (e:H a=aA (.dK kvs ep)):TyX K H (.ref a) "dict"
 |dT {a:aj} {kvs:А (А Key×V)} {ep:Г} {bs:А aj} (e:H a=aA (.dT kvs ep bs)):TyX K H (.ref a) "dict"
МZz8(K:ad)(c:String):А V->Hp->VK->Prop:=λxs H Q=>∃x t b,xs=[x,.ty c]/\TyX K H x t/\PySem.W.kitOne K (.type t) (.type c)=aA b/\Q (.bl b) H
end
end L2
namespace DL
open PySem PySem.Spec PyProof.Rows L2
variable{K:ad}
МJs(xs:А D):А D:=xs.zipIdx.map λp=>.tup [.int (p.2:Г),p.1]
ЛFy{xs:А D}{i:Г}{d:D}(h:(Js xs)[i]? =aA d):∃x,xs[i]? =aA x/\d= .tup [.int (i:Г),x]:=by
 U Js at h;K[az,List.getElem?_zipIdx]at h;cases e:xs[i]? with
 |none=>K[e]at h;C h
 |some x=>K[e]at h;C h;E⟨x,rfl,by simp⟩
ЛFz(xs:А D):(Js xs).length=xs.length:=by U Js;K[aq,List.length_zipIdx]
ЛP6{F:Hp}{a:aj}{xs:А D}{vs:А V}(h:W5 K F a vs)(r:Reps K F xs vs):Oq K (Ite K a) F (Js xs):=λF' H sF sH i=>by
 V q:W5 K H a vs:=Wb (sF.trans sH) h;R⟨λd hd=>?_,λhl=>⟨vs,q,by K[<-r.length,<-Fz];E hl⟩⟩;O⟨x,hx,rfl⟩:=Fy hd;O⟨v,h1,h2⟩:=r.get hx;R⟨⟨vs,v,q,h1⟩,λy H' zq9=>?_⟩;O⟨p,w,e1,e2,e3,e4⟩:=zq9;subst e1 e3;V e5:=e4 vs q;K[h1]at e5;C e5;V hp:F' p=aB:=sH.free e2;V sm:Zi F' (Ue F' [(p,.tup [.int (i:Г),v])]):=Ql λz hz=>by obtain rfl:=ar.mp hz;E hp
 R⟨Ws e2,[(p,.tup [.int (i:Г),v])],Ix,λz hz=>?_,.tup Z3 (.cons (.int _) (.cons (h2.mono (sF.trans sm)) .nil))⟩;obtain rfl:=ar.mp hz;E⟨e2,Z3⟩
section
variable{Z:Ent K}{H:Hp}{σ:L2.St}{Q:VK}
НZkp(fd:FD):FD:=λδ=>(fd δ).bind λp=>match p.1 with
 | [.lst xs]=>aA (Js xs,p.2)
 |_=>aB
ЛZib{fd:FD}{R:It->Hp->В}(h:Qm Z (Zkp fd) σ H R):Zko K (Qu Z fd) σ H R:=by
 O⟨F,δ,own,ds,δ',s,e,k⟩:=h;O⟨⟨ds1,δ1⟩,e1,e2⟩:=aa.mp e;R⟨F,δ,own,ds1,δ1,s,e1,λvs H1 F1 own1 sH sF s1 r1=>?_⟩;dsimp only at e2;split at e2
 ·rename_i xs;C e2;cases r1 with
  |cons h t=>
   C t;cases h with
   |lst h _ r=>E⟨_,_,rfl,Wb s1.le h,k _ H1 F1 own1 sH sF s1 (P6 h r)⟩
 ·C e2
НD.ty:D->String
 | .str _=>"str"
 | .int _=>"int"
 | .lst _=>"list"
 | .dK _ _=>"dict"
 | .dT _ _=>"dict"
 |_=>"?"
НZmu(T:String)(d:D):Bool:=T==d.ty&&(T=="str" ||T=="list" ||T=="dict")
НbmF(T:String)(g:А D->Б SV)(fo:FE)(fa:FA):FE:=λδ=>(fo δ).bind λp=>(Iw p.1 p.2).bind λd0=>if Zmu T d0=aC then(fa p.2).bind λq=>(Oe (p.1::q.1) q.2).bind λds=>(g ds).bind λsv=>aA (.tmp sv,q.2)else aB
МZxv(Z:Ent K)(r:V->А V->Hp->VK->В)(g:А D->Б SV):Prop:=Us Z (λvs H Q=>∃x xs,vs=x::xs/\r x xs H Q) g
end
Нstrs?:А D->Б (А Str)
 | []=>aA []
 | .str x::r=>(strs? r).bind λt=>aA (x::t)
 |_=>aB
НZxw:А D->Б SV
 | [.str sep,.lst xs]=>(strs? xs).bind λys=>if JoinOk sep ys=aC then aA (.fz (.str (Txt.join sep ys)))else aB
 |_=>aB
variable{Z:Ent K}
НD.pyTy:D->String
 | .non=>"NoneType"
 | .bl _=>"bool"
 | .int _=>"int"
 | .str _=>"str"
 | .tup _=>"tuple"
 | .lst _=>"list"
 | .dK _ _=>"dict"
 | .dT _ _=>"dict"
 | .dX _ _=>"?"
 | .exc _ _ _=>"?"
НD.isExc:D->Bool
 | .exc _ _ _=>aC
 | .dX _ _=>aC
 |_=>aD
НZz9(c:String)(d:D):Б SV:=if d.isExc=aC then aB else aA (.fz (.bl (d.pyTy==c|| (c=="int" &&d.pyTy=="bool"))))
НIy:А D->Б SV
 | [.lst xs]=>aA (.fz (.int (xs.length:Г)))
 | [.tup xs]=>aA (.fz (.int (xs.length:Г)))
 | [.str x]=>if x.length<=bd then aA (.fz (.int (x.length:Г)))else aB
 |_=>aB
ЛZqo:Us Z (λxs H Q=>(∃p ys,xs=[V.ref p]/\(W5 K H p ys\/Ob K H p ys)/\Q (.int ys.length) H)\/(∃z,xs=[V.str z]/\z.length<=bd/\Q (.int z.length) H)) Iy:=by
 I F H σ δ own vs ds sv Q s r e k;U Iy at e;split at e
 ·C e;cases r with
  |cons h t=>C t;O⟨a,us,ex,ha,ra⟩:=h.lst s.le;Q ex;E .inl ⟨a,us,rfl,.inl ha,by K[<-ra.length];E k.fz s (.int _)⟩
 ·C e;cases r with
  |cons h t=>C t;O⟨a,us,ex,ha,ra⟩:=h.tup s.le;Q ex;E .inl ⟨a,us,rfl,.inr ha,by K[<-ra.length];E k.fz s (.int _)⟩
 ·split at e
  ·rename_i hz;C e;cases r with
   |cons h t=>C t;E .inr ⟨_,by K[h.str],hz,k.fz s (.int _)⟩
  ·C e
 ·C e
НZxx:А D->Б SV
 | [.lst xs]=>aA (.ol xs)
 | [.tup xs]=>aA (.ol xs)
 |_=>aB
НL6:А D->Б SV
 | [.lst xs]=>aA (.fz (.tup xs))
 |_=>aB
ЛZic:Us Z (λxs H Q=>∃p ys,xs=[V.ref p]/\((W5 K H p ys/\∀l,H l=aB->Q (.ref l) (Z9 H l (.tup ys)))\/(Ob K H p ys/\Q (.ref p) H))) L6:=by
 I F H σ δ own vs ds sv Q s r e k;U L6 at e;split at e
 ·C e;cases r with
  |cons h t=>C t;O⟨a,us,ex,ha,ra⟩:=h.lst s.le;Q ex;E⟨a,us,rfl,.inl ⟨ha,λl hl=>k.tup s ra hl⟩⟩
 ·C e
НZid:А D->Б SV
 | [.int i]=>aA (.fz (.int i))
 | [.bl b]=>aA (.fz (.int (if b then 1 else 0)))
 |_=>aB
ЛZqp:Us Z (λxs H Q=>(∃i,xs=[V.int i]/\Q (.int i) H)\/∃k,xs=[V.bl k]/\Q (.int (if k then 1 else 0)) H) Zid:=by
 I F H σ δ own vs ds sv Q s r e k;U Zid at e;split at e
 ·C e;cases r with
  |cons h t=>C t;E .inl ⟨_,by K[h.int],k.fz s (.int _)⟩
 ·C e;cases r with
  |cons h t=>C t;E .inr ⟨_,by K[h.bl],k.fz s (.int _)⟩
 ·C e
section
variable{X:Cx}{Z:Ent X.K}{a b c:cj}{fa fb fc:FE}{pos:Pos}
ЛZb(i:Г){x:Str}{pos:Pos}(hN:X.N[i]? =aA x:=by rfl)(hv:Vs X.env.scope x:=by first|E Or.inl rfl|E gg (Or.inl rfl)|E gg (gg rfl))(hd:(x==("__debug__":Str))=aD:=by decide)
  (hcd:(x==("__classdict__":Str))=aD:=by decide):PE X (.Name x pos) (Ze Z (Za i)):=(Jy hN hv hd hcd).imp λ_ _ _ h=>Zp0 h
ЛZp{i:Int}{j:Г}:PE X (.Constant (.int i) j pos) (Ze Z (Zf (.int i))):=Zlt.imp λ_ _ _ h=>L0 (λ_=>.int _) h
ЛL7{i:Bool}{j:Г}:PE X (.Constant (.bool i) j pos) (Ze Z (Zf (.bl i))):=Zoz.imp λ_ _ _ h=>L0 (λ_=>.bl _) h
ЛKa{i:Str}{j:Г}:PE X (.Constant (.str i) j pos) (Ze Z (Zf (.str i))):=Zcz.imp λ_ _ _ h=>L0 (λ_=>.str _) h
ЛDf{op:Operator}{r:R2}{g:D->D->Б SV}(ho:Cf X (binaryOp op) r)(hp:Y7 Z r g)(ha:PE X a (Ze Z fa))(hb:PE X b (Ze Z fb)):PE X (.BinOp a op b pos) (Ze Z (Zm g fa fb)):=(Zpd ho ha hb).imp λ_ _ _ h=>Fv hp h
ЛQ8(ha:PE X a (Ze Z fa))(hb:PE X b (Ze Z fb)):PE X (.BinOp a .Add b pos) (Ze Z (Zm Os fa fb)):=Df Zh9 Zqk ha hb
ЛMm(ha:PE X a (Ze Z fa))(hb:PE X b (Ze Z fb)):PE X (.BinOp a .FloorDiv b pos) (Ze Z (Zm Rr fa fb)):=Df Zhk Zmr ha hb
ЛQn(ha:PE X a (Ze Z fa))(hb:PE X b (Ze Z fb)):PE X (.BinOp a .Mod b pos) (Ze Z (Zm Uf fa fb)):=Df Zl8 Zqj ha hb
ЛZkq{op:CmpOp}{r:R2}{g:D->D->Б SV}(ho:Cf X (g9 op) r)(hp:Y7 Z r g)(ha:PE X a (Ze Z fa))(hb:PE X b (Ze Z fb))(hm:behindInMarks op b=aD):PE X (.Compare a [op] [b] pos) (Ze Z (Zm g fa fb)):=(Zhl ho ha hb hm).imp λ_ _ _ h=>Fv hp h
ЛKb{op:CmpOp}{r:R2}{g:D->D->Б SV}(ho:Cf X (g9 op) r)(hp:Y7 Z r g)(ha:PE X a (Ze Z fa))(hb:PE X b (Ze Z fb))(hm:behindInMarks op b=aD):PT X (.Compare a [op] [b] pos) (Yl Z (Ys (Zm g fa fb))):=
 (Zhm ho ha hb hm).imp λσ H Q h=>by O⟨F,δ,own,rv,δ',s,e,k⟩:=Xb h;E Fv hp ⟨F,δ,own,rv,δ',s,e,k⟩
ЛZqq(ha:PE X a (Ze Z fa))(hb:PE X b (Ze Z fb)):PT X (.Compare a [.Lt] [b] pos) (Yl Z (Ys (Zm Ug fa fb))):=Kb Zph Zu8 ha hb (Ad _)
ЛZqr(ha:PE X a (Ze Z fa))(hb:PE X b (Ze Z fb)):PT X (.Compare a [.Gt] [b] pos) (Yl Z (Ys (Zm gtD fa fb))):=Kb Zpi Zu9 ha hb (Ad _)
ЛZmv{f:FT}(ha:PT X a (Yl Z f)):PW X (.BoolOp .And [a] pos) (Yl Z f):=Zhd ha
ЛZd6{f:FT}(ha:PT X a (Yl Z f)):PW X (.BoolOp .Or [a] pos) (Yl Z f):=Zlv ha
ЛZqs{f g:FT}{rest:А cj}(ha:PT X a (Yl Z f))(hb:PW X (.BoolOp .And (b::rest) pos) (Yl Z g)):PW X (.BoolOp .And (a::b::rest) pos) (Yl Z (Zmj f g)):=(Zlw ha hb).imp λ_ _ _ h=>Zp3 h
ЛZie{f g:FT}{rest:А cj}(ha:PT X a (Yl Z f))(hb:PW X (.BoolOp .Or (b::rest) pos) (Yl Z g)):PW X (.BoolOp .Or (a::b::rest) pos) (Yl Z (orF f g)):=(Zo2 ha hb).imp λ_ _ _ h=>Zu4 h
ЛZkr{f:FT}(ha:PT X a (Yl Z f)):PT X (.UnaryOp .Not a pos) (Yl Z (Zh3 f)):=(Zlx ha).imp λ_ _ _ h=>Zp4 h
ЛZd7(h:PE X a (Ze Z fa))(he:∀whole,isTrue a X.env whole=(do let v<-whole;standAt a.pos;holding [v] (truthy v)):=by I _;rfl):PT X a (Yl Z (Ys fa)):=(Zlu h he).imp λ_ _ _ h=>Zh2 h
ЛZqt{op:BoolOp}(h:PE X a (Ze Z fa)):PE X (.BoolOp op [a] pos) (Ze Z fa):=Zly h
ЛZqu{rest:А cj}(ha:PE X a (Ze Z fa))(hb:PE X (.BoolOp .And (b::rest) pos) (Ze Z fb)):PE X (.BoolOp .And (a::b::rest) pos) (Ze Z (Zmk fa fb)):=(Zlz ha hb).imp λ_ _ _ h=>Zml h
ЛYa:PA X [] (Cb Z Zj):=Bj.imp λ_ _ _ h=>Zdy h
ЛZk{es:А cj}{fr:FA}(ha:PE X a (Ze Z fa))(hr:PA X es (Cb Z fr))(hs:a9 (a::es) X.env=(aD,gq a X.env)::a9 es X.env:=by rfl):PA X (a::es) (Cb Z (Zc fa fr)):=(Jf ha hr hs).imp λ_ _ _ h=>Zbp h
ЛYn:PA X [] (Qu Z Zs):=Bj.imp λ_ _ _ h=>Fw h
ЛZv{es:А cj}{fr:FD}(ha:PE X a (Ze Z fa))(hr:PA X es (Qu Z fr))(hs:a9 (a::es) X.env=(aD,gq a X.env)::a9 es X.env:=by rfl):PA X (a::es) (Qu Z (Zh fa fr)):=(Jf ha hr hs).imp λ_ _ _ h=>An h
ЛUw{es:А cj}{fd:FD}{k:Г}(h:PA X es (Qu Z fd)):PE X (.Tuple es k pos) (Ze Z (tupF fd)):=(Zl9 h).imp λ_ _ _ h=>Zp1 h
ЛQo{es:А cj}{fd:FD}(h:PA X es (Qu Z fd)):PE X (.List es pos) (Ze Z (U9 fd)):=(Ln h).imp λ_ _ _ h=>Zp2 h
ЛZd8(ha:PE X a (Ze Z fa)):PO X (aA a) (Fx Z (De fa)):=λpins s σ H Q I h=>Zhp ha pins s σ H Q I (Zms h)
ЛZvk{lo hi:Б cj}{fl fh:FO}{p2:Pos}(ha:PE X a (Ze Z fa))(hl:PO X lo (Fx Z fl))(hh:PO X hi (Fx Z fh)):PE X (.Subscript a (.Slice lo hi aB p2) pos) (Ze Z (slF slD fa fl fh)):=
 (Zde (Zhs.or Zmt) ha hl hh).imp λ_ _ _ h=>Zvh Zvi h
ЛZ8{k n:Г}{f:aj}{fd:ci}{ps:А Str}{g:А D->Б SV}{x:Str}{p:Pos}{es:А cj}{fr:FA}(F:FnOk X.prog X.w X.K X.mg X.base Ud k f fd ps (Y1 X.K n g))(hr:Room k X.A)(hm:X.mg x=aA (.ref f))(hk:bu X.K (.ref f)=aC)(hb:Wh X.K fd ps [])
  (ha:PA X (a::es) (Cb Z fr)) (hg:Gl X x:=by rfl) (hdb:(x==("__debug__":Str))=aD:=by decide) (he:a9 (a::es) X.env=(aD,gq a X.env)::a9 es X.env:=by rfl) (hpl:(gr pos (a9 es X.env)).any (·.1)=aD:=by rfl):
  PE X (.Call (.Name x p) (a::es) [] pos) (Ze Z (Yc n g fr)):=(Zho F hr hg hm hk hb .nil Zpx ha hdb he hpl).imp λ_ _ _ h=>Zmi h
ЛL8{id:String}{r:А V->Hp->VK->В}{g:А D->Б SV}{x:Str}{p:Pos}{es:А cj}{fr:FA}(hc:Jo X (.builtin id) r)(hp:Us Z r g)(hm:X.mg x=aB)(hv:bootBuiltins x=aA (.builtin id))(ha:PA X (a::es) (Cb Z fr))(hg:Gl X x:=by rfl)(hn:x≠"__name__":=by decide)(hdb:(x==("__debug__":Str))=aD:=by decide)
  (he:a9 (a::es) X.env=(aD,gq a X.env)::a9 es X.env:=by rfl) (hpl:(gr pos (a9 es X.env)).any (·.1)=aD:=by rfl):PE X (.Call (.Name x p) (a::es) [] pos) (Ze Z (Yq g fr)):=(Zdb hc hg hm hv ha hn hdb he hpl).imp λ_ _ _ h=>Am hp h
ЛRs{T:String}{r:А V->Hp->VK->В}{g:А D->Б SV}{x:Str}{p:Pos}{es:А cj}{fr:FA}(hc:Jo X (.type T) r)(hp:Us Z r g)(hm:X.mg x=aB)(hv:bootBuiltins x=aA (.type T))(ha:PA X (a::es) (Cb Z fr))(hg:Gl X x:=by rfl)(hn:x≠"__name__":=by decide)(hdb:(x==("__debug__":Str))=aD:=by decide)
  (he:a9 (a::es) X.env=(aD,gq a X.env)::a9 es X.env:=by rfl) (hpl:(gr pos (a9 es X.env)).any (·.1)=aD:=by rfl):PE X (.Call (.Name x p) (a::es) [] pos) (Ze Z (Yq g fr)):=(Zbi hc hg hm hv ha hn hdb he hpl).imp λ_ _ _ h=>Am hp h
ЛAp{p:Pos}(hm:X.mg "len"=aB)(ha:PE X a (Ze Z fa))(hg:Gl X "len":=by rfl)(he:a9 [a] X.env=(aD,gq a X.env)::a9 [] X.env:=by rfl)(hpl:(gr pos (a9 [] X.env)).any (·.1)=aD:=by rfl):PE X (.Call (.Name "len" p) [a] [] pos) (Ze Z (Yq Iy (Zc fa Zj))):=
 L8 (Lu.or Lv) Zqo hm PySem.boot_len (Zk ha Ya he) hg Й Й he hpl
ЛZif{p:Pos}(hm:X.mg "tuple"=aB)(ha:PE X a (Ze Z fa))(hg:Gl X "tuple":=by rfl)(he:a9 [a] X.env=(aD,gq a X.env)::a9 [] X.env:=by rfl)(hpl:(gr pos (a9 [] X.env)).any (·.1)=aD:=by rfl):PE X (.Call (.Name "tuple" p) [a] [] pos) (Ze Z (Yq L6 (Zc fa Zj))):=
 Rs Iv Zic hm boot_tuple (Zk ha Ya he) hg Й Й he hpl
ЛZmw{p:Pos}(hm:X.mg "int"=aB)(ha:PE X a (Ze Z fa))(hg:Gl X "int":=by rfl)(he:a9 [a] X.env=(aD,gq a X.env)::a9 [] X.env:=by rfl)(hpl:(gr pos (a9 [] X.env)).any (·.1)=aD:=by rfl):PE X (.Call (.Name "int" p) [a] [] pos) (Ze Z (Yq Zid (Zc fa Zj))):=
 Rs Zbf Zqp hm boot_int (Zk ha Ya he) hg Й Й he hpl
ЛZ1(i:Г){x:Str}(hN:X.N.Nodup)(hi:X.N[i]? =aA x:=by rfl)(hx:Loc X.env.scope x:=by first|E Or.inl rfl|E gg rfl)(hf:X.fn x=aC\/X.env.scope.names.lookup x=aA .local:=by first|E .inl rfl|E .inr rfl):PG X (.Name x pos) (Of Z (Zd i)):=(Zhh hN hi hx hf).imp λ_ _ _ _ h=>Zh4 h
ЛG1:PGs X [] (Op Z Wi):=Zhi.imp λ_ _ _ _ h=>Zmn h
ЛWc{es:А cj}{g:FG}{r:FGs}(h1:PG X a (Of Z g))(h2:PGs X es (Op Z r))(hs:(assignEach (a::es) X.env).map (·.2)=assign a X.env::(assignEach es X.env).map (·.2):=by rfl):PGs X (a::es) (Op Z (Zt g r)):=(Zc3 h1 h2 hs).imp λ_ _ _ _ h=>Zh5 h
ЛKc{es:А cj}{k n:Г}{g:FGs}(hc:X.calm=aC)(h:PGs X es (Op Z g))(hn:(assignEach es X.env).length=n:=by rfl)(hst:(assignEach es X.env).findIdx? (·.1)=aB:=by rfl):PG X (.Tuple es k pos) (Of Z (Wj n g)):=(Zl2 hc h hn hst).imp λ_ _ _ _ h=>Zmo h
ЛGs{tg:cj}{p:Pos}(hm:X.mg "range"=aB)(ha:PE X a (Ze Z fa))(hg:Gl X "range":=by rfl)(hs:a9 [a] X.env=[(aD,gq a X.env)]:=by rfl):PI X tg (.Call (.Name "range" p) [a] [] pos) (Qm Z (Tk (Zc fa Zj))):=(Zbc hg hm (Zk ha Ya hs) hs).imp λ_ _ _ h=>Zmp h
ЛWl{N':А Str}{scope:Scope}{src:А BSrc}(kind:scope.kind= .function)(nocell:(scope.names.all λy=>!(y.2== .cell))=aC)(names:(scope.names.all λy=>!(y.2== .local)|| (scope.names.lookup y.1==aA .local))=aC)
  (free:(scope.names.all λy=>!(y.2== .free)|| (X.env.kindOf y.1==aA .cell)|| (X.env.kindOf y.1==aA .free))=aC) (len:src.length=N'.length)
  (cap:((cq src.length).all λk=>match src[k]?,N'[k]? with
   |some (.cap j),aA x=>(X.N[j]? ==aA x)&&((X.env.kindOf x==aA .cell)|| (X.env.kindOf x==aA .free))&&(scope.names.lookup x==aA .free)
   |some .acc,aA x=>scope.names.lookup x==aB
   |_,_=>aC)=aC):CompScope X N' scope src:=by
 V capk:∀(k:Г) (q:BSrc) (x:Str),src[k]? =aA q->N'[k]? =aA x->(match aA q,aA x with
   |some (.cap j),aA x=>(X.N[j]? ==aA x)&&((X.env.kindOf x==aA .cell)|| (X.env.kindOf x==aA .free))&&(scope.names.lookup x==aA .free)
   |some .acc,aA x=>scope.names.lookup x==aB
   |_,_=>aC)=aC:=λk q x h1 h2=>by
  V hk:k<src.length:=(a8.mp h1).1;V :=List.all_eq_true.mp cap k (cu.mpr hk);K[h1,h2]at this;E this
 R⟨kind,λy hy e=>?_,λy hy e=>?_,λy hy e=>?_,len,λk j x h1 h2=>?_,λk x h1 h2=>?_⟩
 ·V :=List.all_eq_true.mp nocell y hy;K[e]at this;C this
 ·V :=List.all_eq_true.mp names y hy;K[e]at this;L this
 ·V :=List.all_eq_true.mp free y hy;K[e]at this;L this
 ·V :=capk k (.cap j) x h1 h2;simp only[Bool.and_eq_true,Bool.or_eq_true,beq_iff_eq]at this;E⟨this.1.1,this.1.2,this.2⟩
 ·V :=capk k .acc x h1 h2;L this
ЛCj{src:А BSrc}(k:Г)(acc:src[k]? =aA .acc)(uni:((cq src.length).all λi=>match src[i]? with
   |some .acc=>i==k
   |_=>aC)=aC):SrcOk src k:=⟨acc,λi h=>by
  V hi:i<src.length:=(a8.mp h).1;V :=List.all_eq_true.mp uni i (cu.mpr hi);K[h]at this;L this⟩
Лxg{tg:cj}{g:FG}(h:∀Z:Ent X.K,PG X tg (Of Z g)):PG X tg (xG X.K g):=λpins s σ H v u Q I r ⟨Z,q⟩=>h Z pins s σ H v u Q I r q
Лxe{e:cj}{f:FE}(h:∀Z:Ent X.K,PE X e (Ze Z f)):PE X e (xE X.K f):=λpins s σ H Q I ⟨Z,q⟩=>h Z pins s σ H Q I q
Лxt{e:cj}{f:FT}(h:∀Z:Ent X.K,PT X e (Yl Z f)):PTs X [e] (xT X.K f):=λpins s σ H Q I ⟨Z,q⟩=>Zhz (h Z) pins s σ H Q I q
Лxt0:PTs X [] (xT X.K Q7):=λpins s σ H Q I ⟨Z,q⟩=>by O⟨F,δ,own,b,δ',sr,e,k⟩:=q;C e;E Zhy pins s σ H Q I (k H F own (Zi.refl H) (Zi.refl F) sr)
ЛG2{N':А Str}{scope:Scope}{src:А BSrc}{k:Г}{tg elt iter:cj}{ifs:А cj}{fi:FD}{g:FG}{tt:FT}{te:FE}(hc:X.calm=aC)(S:CompScope X N' scope src)(So:SrcOk src k)(hk:k∉g.tch)(hi:PI X tg iter (Qm Z fi))
  (hg:∀(C:aj) (s₀:am) (H₀:Hp) (ex:А aj),PG (X.block N' scope C s₀ H₀ ex) tg (xG X.K g)) (ht:∀(C:aj) (s₀:am) (H₀:Hp) (ex:А aj),PTs (X.block N' scope C s₀ H₀ ex) ifs (xT X.K tt)) (he:∀(C:aj) (s₀:am) (H₀:Hp) (ex:А aj),PE (X.block N' scope C s₀ H₀ ex) elt (xE X.K te))
  (hs:∀x,foldedSetIterable iter X.env x=pure x:=by I _;rfl):PE X (.ListComp elt [⟨tg,iter,ifs,0⟩] scope pos) (Ze Z (Og src k fi g tt te)):=(Zh0 hc S hi hg ht he hs).imp λ_ _ _ h=>Zd3 So hk h
ЛJ2:Ta X [] (Z5 Z Ut):=Zhe.imp λ_ _ _ h=>Zmm h
ЛZg{st:Stmt}{rest:А Stmt}{f g:FS}(h1:PS X st (Z5 Z f))(h2:Ta X rest (Z5 Z g)):Ta X (st::rest) (Z5 Z (Z4 f g)):=(Zc0 h1 h2).imp λ_ _ _ h=>Zp6 h
ЛZu{st:Stmt}{f:FS}(h:PS X st (Z5 Z f)):Ta X [st] (Z5 Z f):=Zhf h
МZvl:FS:=λ_=>aB
ЛWu(h:PE X a (Ze Z fa)):PS X (.Return (aA a) pos) (Z5 Z (Jq fa)):=(Zc1 h).imp λ_ _ _ h=>Zp9 h
ЛTl{t:FT}{f g:FS}{bt be:А Stmt}(hc:PT X c (Yl Z t))(ha:Ta X bt (Z5 Z f))(hb:Ta X be (Z5 Z g)):PS X (.If c bt be pos) (Z5 Z (Xc t f g)):=(Zo4 hc ha hb).imp λ_ _ _ h=>Zp7 h
ЛYf(i:Г){x:Str}{pos':Pos}(hN:X.N.Nodup)(he:PE X a (Ze Z fa))(hi:X.N[i]? =aA x:=by rfl)(hx:Loc X.env.scope x:=by first|E Or.inl rfl|E gg rfl)(hs:swapsWith a (aA (.Name x pos')) pos.line X.env=pure aD:=by rfl)(hf:X.fn x=aC\/X.env.scope.names.lookup x=aA .local:=by first|E .inl rfl|E .inr rfl):
  PS X (.Assign [.Name x pos'] a pos) (Z5 Z (Y0 i fa)):=(Zc5 hN hi hx he hs hf).imp λ_ _ _ h=>Zki h
ЛC9(i:Г){N':А Str}{scope:Scope}{src:А BSrc}{k:Г}{tg elt iter:cj}{ifs:А cj}{fi:FD}{g:FG}{tt:FT}{te:FE}{y:Str}{py spos:Pos}(hc:X.calm=aC)(S:CompScope X N' scope src)(So:SrcOk src k)(hk:k∉g.tch)(hi:PI X tg iter (Qm Z fi))
  (hg:∀(C:aj) (s₀:am) (H₀:Hp) (ex:А aj),PG (X.block N' scope C s₀ H₀ ex) tg (xG X.K g)) (ht:∀(C:aj) (s₀:am) (H₀:Hp) (ex:А aj),PTs (X.block N' scope C s₀ H₀ ex) ifs (xT X.K tt)) (he:∀(C:aj) (s₀:am) (H₀:Hp) (ex:А aj),PE (X.block N' scope C s₀ H₀ ex) elt (xE X.K te))
  (hN:X.N.Nodup) (hiy:X.N[i]? =aA y:=by rfl) (hx:X.env.scope.names.lookup y=aA .local:=by rfl) (hsw:swapsWith (.ListComp elt [⟨tg,iter,ifs,0⟩] scope pos) (aA (.Name y py)) spos.line X.env=pure aC:=by rfl)
  (hs:∀x,foldedSetIterable iter X.env x=pure x:=by I _;rfl):PS X (.Assign [.Name y py] (.ListComp elt [⟨tg,iter,ifs,0⟩] scope pos) spos) (Z5 Z (Y0 i (Og src k fi g tt te))):=
 (Xa hc S hi hg ht he hN hiy hx hsw hs).imp λD σ H h=>by O⟨F,δ,own,rv,δ',s,e,q⟩:=Zki h;E Zd3 So hk ⟨F,δ,own,rv,δ',s,e,q⟩
ЛZd9{tg:cj}{g:FG}(he:PE X a (Ze Z fa))(hg:PG X tg (Of Z g))(hs:swapsWithSole [tg] a pos.line X.env=pure aD:=by rfl)(hw:swappedStores [tg] a X.env=pure aB:=by rfl)(h1:(assignEach [tg] X.env).map (·.2)=[assign tg X.env]:=by rfl):
  PS X (.Assign [tg] a pos) (Z5 Z (L3 g fa)):=(Zc4 he hg hs hw h1).imp λ_ _ _ h=>Zd0 h
ЛWx{tg iter:cj}{body:А Stmt}{fi:FD}{g:FG}{f:FS}(hp:PassesOwn (b4 X.prog X.w) X.A X.env X.xe)(hc:X.calm=aC)(hi:PI X tg iter (Qm Z fi))(hg:PG X tg (Of Z g))(hb:Ta X body (Z5 Z f))(hs:∀x,foldedSetIterable iter X.env x=pure x:=by I _;rfl):
  PS X (.For tg iter body [] pos) (Z5 Z (J1 fi g f)):=(Zl4 hp hc hi hg hb hs).imp λ_ _ _ h=>Zqc h
ЛZig(n:Г){t:FT}{body:А Stmt}{f:FS}(hp:PassesOwn (b4 X.prog X.w) X.A X.env X.xe)(hc:PT X c (Yl Z t))(hb:Ta X body (Z5 Z f)):PS X (.While c body [] pos) (Z5 Z (Uu t f n)):=(Zc7 hp hc hb).imp λ_ _ _ h=>Zh6 h
ЛGu(i:Г){x:Str}{px apos cpos:Pos}(hb:PE X b (Ze Z fb))(hN:X.N[i]? =aA x:=by rfl)(hv:Vs X.env.scope x:=by first|E Or.inl rfl|E gg (Or.inl rfl)|E gg (gg rfl))(hd:(x==("__debug__":Str))=aD:=by decide)
  (hcd:(x==("__classdict__":Str))=aD:=by decide) (hbase:attributeBase (.Name x px) "append" X.env (gq (.Name x px) X.env)=gq (.Name x px) X.env:=by rfl)
  (hfew:((gr cpos (a9 [b] X.env)).all (λx=>!x.1)&&(backToKw cpos (keywordEach [] X.env)).all (λx=>x.1.isSome)&&decide ([b].length+([]:А Keyword).length+(if([]:А Keyword).isEmpty then 0 else 1)<30))=aC:=by rfl)
  (hline:(apos.endLine==cpos.line)=aC:=by rfl) (hs:a9 [b] X.env=(aD,gq b X.env)::a9 [] X.env:=by rfl) (hpl:(gr cpos (a9 [] X.env)).any (·.1)=aD:=by rfl) (hsw:swapsWith (.Call (.Attribute (.Name x px) "append" apos) [b] [] cpos) aB pos.line X.env=pure aD:=by rfl):
  PS X (.Expr (.Call (.Attribute (.Name x px) "append" apos) [b] [] cpos) pos) (Z5 Z (Rq i fb)):=
 (Tt (Hz PySem.F.plainAttrs_list PySem.F.slot_list_append PySem.F.type_list_append Mg (Jy (i:=i) hN hv hd hcd) (Jf hb Bj hs) hbase hfew hline hs hpl) hsw).imp λ_ _ _ h=>Zqd h
end
НQa(f:FS)(n:Г)(ds:А D):Б SV:=match f (Ao n ds)with
 |some (.rt sv)=>aA sv
 |some (.nx _)=>aA (.fz .non)
 |_=>aB
ЛZea{N:А Str}{n:Г}{f:FS}{vs:А V}{H:Hp}{Q:VK}{E:XK}(h:Y1 K n (Qa f N.length) vs H Q E):∃F,Z5 (ent H F:Ent K) f {nx:=λ_ H'=>Q .non H',rt:=Q} (L2.Ca N vs) H:=by
 O⟨F,ds,sv,le,r,hn,e,k⟩:=h;U Qa at e;split at e
 ·rename_i sw hf;C e;E⟨F,F,_,_,.rt sv,P5 (N:=N) le r,hf,λv H' F' ns a b c d e' nd ok=>k v H' F' ns d a b c e' nd ok⟩
 ·rename_i δ hf;C e;E⟨F,F,_,_,.nx δ,P5 (N:=N) le r,hf,λσ' H' F' own' a s'=>k .non H' F' [] s'.old a s'.le s'.fro (.fz .non) df λ_ h=>(nomatch h)⟩
 ·C e
МZxy(K:ad):Sp:=λvs H Q _=>∃(a:aj) (ns:А Int),vs=[.ref a]/\W5 K H a (ns.map V.int)/\ns.length<=63/\∀H',Q (.bl aC) H'
ЛP7{F:Hp}:∀ns:А Int,Reps K F (ns.map D.int) (ns.map V.int)
 | []=>.nil
 |n::r=>.cons (.int n) (P7 r)
end DL
namespace DL
open PySem PySem.Spec PyProof.Rows L2
variable{K:ad}
НBa(f:D->D->Б Bool):А D->А D->Б Bool
 |x::xs,y::ys=>(f x y).bind λb=>(Ba f xs ys).bind λc=>aA (b&&c)
 |_,_=>aA aC
НG3(f:D->D->Б Bool):D->D->Б Bool
 | .lst xs,.lst ys=>if xs.length=ys.length then Ba f xs ys else aA aD
 | .tup xs,.tup ys=>(Ba f xs ys).bind λb=>aA (b&&decide (xs.length=ys.length))
 | .lst _,.tup _=>aA aD
 | .tup _,.lst _=>aA aD
 |d1,d2=>eqS d1 d2
НWe:Г->D->D->Б Bool
 |0=>λ_ _=>aB
 |n+1=>G3 (We n)
ЛAq{F H:Hp}{d1 d2:D}{x y:V}{b:Bool}(e:eqS d1 d2=aA b)(r1:Yi K F H d1 x)(r2:Yi K F H d2 y):Y2 x=aC/\Y2 y=aC/\b=Pu x y:=by U eqS at e;split at e<;> cases e<;> (first|obtain rfl:=r1.non|obtain rfl:=r1.int|obtain rfl:=r1.bl|obtain rfl:=r1.str)<;> (first|obtain rfl:=r2.non|obtain rfl:=r2.int|obtain rfl:=r2.bl|obtain rfl:=r2.str)<;> R⟨rfl,rfl,?_⟩<;> first|rfl|simp[Pu]
section
variable{X:Cx}{pins:А (aj×Obj)}{σ:L2.St}{F H:Hp}{s:am}
ЛZeb{x y:V}{v:ah}(rx:Zy x v)(ry:Zy y v)(fx:Y2 x=aC)(fy:Y2 y=aC):Pu x y=aC:=by
 cases x with
 |non=>C rx;cases y with
  |non=>rfl
  |bl b=>C ry
  |int b=>O⟨t,e⟩:=ry;C e
  |str b=>O⟨t,e⟩:=ry;C e
  |_=>C fy
 |bl a=>C rx;cases y with
  |non=>C ry
  |bl b=>C ry;simp[Pu]
  |int b=>O⟨t,e⟩:=ry;C e
  |str b=>O⟨t,e⟩:=ry;C e
  |_=>C fy
 |int a=>O⟨t,rfl⟩:=rx;cases y with
  |non=>C ry
  |bl b=>C ry
  |int b=>O⟨t,e⟩:=ry;C e;simp[Pu]
  |str b=>O⟨t,e⟩:=ry;C e
  |_=>C fy
 |str a=>O⟨t,rfl⟩:=rx;cases y with
  |non=>C ry
  |bl b=>C ry
  |int b=>O⟨t,e⟩:=ry;C e
  |str b=>O⟨t,e⟩:=ry;C e;simp[Pu]
  |_=>C fy
 |_=>C fx
ЛXg{h:d6}{a:aj}{i1 i2:Array ah}(h1:h.IsList a i1)(h2:h.IsList a i2):i1=i2:=by O⟨o,e1,c1,n1,d1⟩:=h1;O⟨o2,e2,c2,n2,d2⟩:=h2;K[e1]at e2;C e2;K[d1]at d2;C d2;rfl
ЛP8{h:d6}{a:aj}{i1 i2:Array ah}(h1:h.IsTuple a i1)(h2:h.IsTuple a i2):i1=i2:=by O⟨o,e1,c1,n1,d1⟩:=h1;O⟨o2,e2,c2,n2,d2⟩:=h2;K[e1]at e2;C e2;K[d1]at d2;C d2;rfl
ЛDg{f:D->D->Б Bool}(hf:∀d1 d2 b x y v,Rep X.K F d1 x->Zy x v->Rep X.K F d2 y->Zy y v->f d1 d2=aA b->b=aC){xs:А D}:∀{ys:А D} {vs ws:А V} {us:А ah} {b:Bool},Reps X.K F xs vs->Z2 vs us->Reps X.K F ys ws->Z2 ws us->Ba f xs ys=aA b->b=aC:=by
 induction xs with
 |nil=>intro ys vs ws us b _ _ _ _ e;C e;rfl
 |cons x xs ih=>
  I ys vs ws us b r1 v1 r2 v2 e;cases r1 with
  |cons h1 t1=>
   cases v1 with
   |cons a1 w1=>
    cases v2 with
    |cons a2 w2=>
     cases r2 with
     |cons h2 t2=>O⟨b,e1,e2⟩:=aa.mp e;O⟨c,e3,e4⟩:=aa.mp e2;C e4;K[hf _ _ _ _ _ _ h1 a1 h2 a2 e1,ih t1 w1 t2 w2 e3];rfl
ЛZbs(I:Inv X pins σ H s)(le:Zi F H){f:D->D->Б Bool}(ih:∀(d1 d2:D) (b:Bool) (x y:V) (v:ah),Rep X.K F d1 x->Zy x v->Rep X.K F d2 y->Zy y v->f d1 d2=aA b->b=aC)(d1 d2:D)(b:Bool)(x y:V)(v:ah)(r1:Rep X.K F d1 x)(v1:Zy x v)(r2:Rep X.K F d2 y)(v2:Zy y v)(e:G3 f d1 d2=aA b):b=aC:=by
  U G3 at e;split at e
  ·rename_i xs ys;cases r1 with
   |lst q1 _ p1=>
   cases r2 with
   |lst q2 _ p2=>
   C v1;C v2;O⟨i1,w1,l1,_⟩:=I.list (Wb le q1);O⟨i2,w2,l2,_⟩:=I.list (Wb le q2);V z:=Xg l1.isList l2.isList;V z:i1=i2:=by L z
   Q z;split at e
   ·E Dg (ih) p1 w1 p2 w2 e
   ·rename_i hl;V h1:=w1.length;V h2:=w2.length;V h3:=p1.length;V h4:=p2.length;E absurd И hl
  ·rename_i xs ys;cases r1 with
   |tup q1 p1=>
   cases r2 with
   |tup q2 p2=>
   C v1;C v2;O⟨i1,w1,l1,_⟩:=I.tuple (Qf le (Gr q1));O⟨i2,w2,l2,_⟩:=I.tuple (Qf le (Gr q2));V z:=P8 l1 l2;V z:i1=i2:=by L z
   Q z;O⟨c,e1,e2⟩:=aa.mp e;C e2;V h1:=w1.length;V h2:=w2.length;V h3:=p1.length;V h4:=p2.length;K[Dg (ih) p1 w1 p2 w2 e1,decide_eq_true И];rfl
  ·cases r1 with
   |lst q1 _ p1=>
   cases r2 with
   |tup q2 p2=>
   C v1;C v2;O⟨i1,w1,l1,_⟩:=I.list (Wb le q1);O⟨i2,w2,l2,_⟩:=I.tuple (Qf le (Gr q2));E absurd rfl (SeqAt.ne_of_list_tuple (s:=s) l1.isList l2)
  ·cases r1 with
   |tup q1 p1=>
   cases r2 with
   |lst q2 _ p2=>
   C v1;C v2;O⟨i1,w1,l1,_⟩:=I.tuple (Qf le (Gr q1));O⟨i2,w2,l2,_⟩:=I.list (Wb le q2);E absurd rfl (SeqAt.ne_of_list_tuple (s:=s) l2.isList l1)
  ·O⟨f1,f2,rfl⟩:=Aq (H:=H) e (Yi.of r1) (Yi.of r2);E Zeb v1 v2 f1 f2
ЛP9(I:Inv X pins σ H s)(le:Zi F H):∀(n:Г) (d1 d2:D) (b:Bool) (x y:V) (v:ah),Rep X.K F d1 x->Zy x v->Rep X.K F d2 y->Zy y v->We n d1 d2=aA b->b=aC
 |0,_,_,_,_,_,_,_,_,_,_,e=>by C e
 |n+1,d1,d2,b,x,y,v,r1,v1,r2,v2,e=>Zbs I le (P9 I le n) d1 d2 b x y v r1 v1 r2 v2 e
ЛSa{A:dh}{f:D->D->Б Bool}(hf:∀d1 d2 b x y v u,Rep X.K F d1 x->Zy x v->Rep X.K F d2 y->Zy y u->f d1 d2=aA b->SeqAt.EqAt A s v u b){xs:А D}:∀{ys:А D} {vs ws:А V} {us zs:А ah} {b:Bool},Reps X.K F xs vs->Z2 vs us->Reps X.K F ys ws->Z2 ws zs->Ba f xs ys=aA b->
  ∃e:Г->Bool,(∀j (h1:j<us.length) (h2:j<zs.length),SeqAt.EqAt A s us[j] zs[j] (e j))/\(cq (min us.length zs.length)).all e=b:=by
 induction xs with
 |nil=>intro ys vs ws us zs b r1 v1 _ _ e;C r1;C v1;C e;E⟨λ_=>aC,λj h1=>absurd h1 (dz _),by K[List.length_nil,Nat.zero_min];rfl⟩
 |cons x xs ih=>
  I ys vs ws us zs b r1 v1 r2 v2 e;cases r1 with
  |cons h1 t1=>
   cases v1 with
   |cons a1 w1=>
    cases v2 with
    |nil=>C r2;C e;E⟨λ_=>aC,λj _ h2=>absurd h2 (dz _),by K[List.length_nil,Nat.min_zero];rfl⟩
    |cons a2 w2=>
     cases r2 with
     |cons h2 t2=>
      O⟨b,e1,e2⟩:=aa.mp e;O⟨c,e3,e4⟩:=aa.mp e2;C e4;O⟨g,g1,g2⟩:=ih t1 w1 t2 w2 e3;R⟨λj=>Nat.casesOn j b g,λj h1 h2=>?_,?_⟩
      ·cases j with
       |zero=>E hf _ _ _ _ _ _ _ ‹_› a1 ‹_› a2 e1
       |succ j=>E g1 j (Nat.lt_of_succ_lt_succ h1) (Nat.lt_of_succ_lt_succ h2)
      ·K[bf,bf,Nat.succ_min_succ,List.range_succ_eq_map,List.all_cons,List.all_map,<-g2];rfl
ЛrcN(I:Inv X pins σ H s)(le:Zi F H){A:dh}{f:D->D->Б Bool}{d1 d2:D}{b:Bool}{x y:V}{v u:ah}
  (ih:∀d1 d2 b x y v u,Rep X.K F d1 x->Zy x v->Rep X.K F d2 y->Zy y u->f d1 d2=aA b->SeqAt.EqAt A.in1 s v u b) (r1:Yi X.K F H d1 x) (v1:Zy x v) (r2:Yi X.K F H d2 y) (v2:Zy y u)
  (e:G3 f d1 d2=aA b) (hu:A.units<f6) (hr:Y2 x=aD\/Y2 y=aD):(∃a c,v= .ref a/\u= .ref c)/\SeqAt.RcAt A s v u b/\SeqAt.RcNeAt A s v u (!b):=by
 U G3 at e;split at e
 ·O⟨a1,vs1,rfl,q1,p1⟩:=r1.lst le;O⟨a2,vs2,rfl,q2,p2⟩:=r2.lst le;C v1;C v2;O⟨i1,w1,l1,_⟩:=I.list q1;O⟨i2,w2,l2,_⟩:=I.list q2;V h1:=w1.length;V h2:=w2.length;V h3:=p1.length;V h4:=p2.length;R⟨⟨_,_,rfl,rfl⟩,?_⟩;split at e
  ·rename_i hl;O⟨g,g1,g2⟩:=Sa ih p1 w1 p2 w2 e;V hm:min i1.length i2.length=i1.toArray.size:=by simp;W
   K[hm]at g2;Q g2;V hz:i1.toArray.size=i2.toArray.size:=by simp;W
   E⟨SeqAt.RcAt.lists l1.isList l2.isList hz hu (λj j1 j2=>by L g1 j (by L j1) (by L j2)),SeqAt.RcNeAt.lists l1.isList l2.isList hz hu (λj j1 j2=>by L g1 j (by L j1) (by L j2))⟩
  ·rename_i hl;C e;V hz:(i1.toArray.size !=i2.toArray.size)=aC:=by simp;W
   E⟨SeqAt.RcAt.lists_lengths l1.isList l2.isList hz hu,SeqAt.RcNeAt.lists_lengths l1.isList l2.isList hz hu⟩
 ·rename_i xs ys;O⟨a1,vs1,rfl,q1,p1⟩:=r1.tup le;O⟨a2,vs2,rfl,q2,p2⟩:=r2.tup le;C v1;C v2;O⟨i1,w1,l1,_⟩:=I.tuple q1;O⟨i2,w2,l2,_⟩:=I.tuple q2;V h1:=w1.length;V h2:=w2.length;V h3:=p1.length;V h4:=p2.length;O⟨c,e1,e2⟩:=aa.mp e;C e2;R⟨⟨_,_,rfl,rfl⟩,?_⟩;O⟨g,g1,g2⟩:=Sa ih p1 w1 p2 w2 e1;Q g2;V e3:((cq (min i1.length i2.length)).all g&&decide (xs.length=ys.length))=((cq (min i1.toArray.size i2.toArray.size)).all g&&i1.toArray.size==i2.toArray.size):=by
   V :(i1.toArray.size==i2.toArray.size)=decide (xs.length=ys.length):=by K[bq,bq,<-h1,<-h2,<-h3,<-h4];rfl
   K[this];simp
  K[e3];E⟨SeqAt.RcAt.tuples l1 l2 hu (λj j1 j2=>by L g1 j (by L j1) (by L j2)),SeqAt.RcNeAt.tuples l1 l2 hu (λj j1 j2=>by L g1 j (by L j1) (by L j2))⟩
 ·O⟨a1,vs1,rfl,q1,p1⟩:=r1.lst le;O⟨a2,vs2,rfl,q2,p2⟩:=r2.tup le;C v1;C v2;C e;O⟨i1,w1,l1,_⟩:=I.list q1;O⟨i2,w2,l2,_⟩:=I.tuple q2;E⟨⟨_,_,rfl,rfl⟩,SeqAt.RcAt.list_tuple l1.isList l2 hu,SeqAt.RcNeAt.list_tuple l1.isList l2 hu⟩
 ·O⟨a1,vs1,rfl,q1,p1⟩:=r1.tup le;O⟨a2,vs2,rfl,q2,p2⟩:=r2.lst le;C v1;C v2;C e;O⟨i1,w1,l1,_⟩:=I.tuple q1;O⟨i2,w2,l2,_⟩:=I.list q2;E⟨⟨_,_,rfl,rfl⟩,SeqAt.RcAt.tuple_list l1 l2.isList hu,SeqAt.RcNeAt.tuple_list l1 l2.isList hu⟩
 ·O⟨f1,f2,_⟩:=Aq e r1 r2;J hr with hr|hr
  ·K[f1]at hr;C hr
  ·K[f2]at hr;C hr
ЛMn(I:Inv X pins σ H s)(le:Zi F H):∀(n:Г) (A:dh) (d1 d2:D) (b:Bool) (x y:V) (v u:ah),A.units+n<f6->Rep X.K F d1 x->Zy x v->Rep X.K F d2 y->Zy y u->We n d1 d2=aA b->SeqAt.EqAt A s v u b
 |0,_,_,_,_,_,_,_,_,_,_,_,_,_,e=>by C e
 |n+1,A,d1,d2,b,x,y,v,u,hu,r1,v1,r2,v2,e=>by
  B hf:Y2 x=aC/\Y2 y=aC
  ·V e':eqS d1 d2=aA b:=by
    U We G3 at e;split at e
    ·C r1;cases hf.1
    ·C r1;cases hf.1
    ·C r1;cases hf.1
    ·C r1;cases hf.1
    ·E e
   O⟨f1,f2,rfl⟩:=Aq (H:=H) e' (Yi.of r1) (Yi.of r2);E Zdi v1 v2 f1 f2
  ·V hf':Y2 x=aD\/Y2 y=aD:=by
    cases h1:Y2 x with
    |false=>E .inl rfl
    |true=>cases h2:Y2 y with
     |false=>E .inr rfl
     |true=>E absurd ⟨h1,h2⟩ hf
   O⟨⟨a,c,rfl,rfl⟩,h1,_⟩:=rcN I le (A:=A) (f:=We n) (λd1 d2 b x y v u q1 w1 q2 w2 e=>Mn I le n A.in1 d1 d2 b x y v u (by V :A.in1.units=A.units+1:=rfl;W) q1 w1 q2 w2 e) (Yi.of r1) v1 (Yi.of r2) v2 e И hf';B hac:a=c
   ·Q hac;K[P9 I le (n+1) d1 d2 b x y _ r1 v1 r2 v2 e];E SeqAt.EqAt.same _
   ·E SeqAt.EqAt.of_refs hac h1
МZih(K:ad)(neg:Bool):R2:=λx y H Q=>∃F d1 d2 b,Zi F H/\Yi K F H d1 x/\Yi K F H d2 y/\We 48 d1 d2=aA b/\(Y2 x=aD\/Y2 y=aD)/\Q (.bl (if neg then !b else b)) H
ЛZec(hu:X.A.units+64<f6):Cf X (g9 .Eq) (Zih X.K aD):=by I pins s σ H x y v u Q I rx ry h;O⟨F,d1,d2,b,le,r1,r2,e,hf,q⟩:=h;O⟨_,h1,_⟩:=rcN I le (A:=X.A) (f:=We 47) (λd1 d2 b x y v u q1 w1 q2 w2 e=>Mn I le 47 X.A.in1 d1 d2 b x y v u (by V :X.A.in1.units=X.A.units+1:=rfl;W) q1 w1 q2 w2 e) r1 rx r2 ry e И hf;E h1 X.prog X.w X.xe _ ⟨.bl b,H,I,rfl,q⟩
ЛZmx(hu:X.A.units+64<f6):Cf X (g9 .NotEq) (Zih X.K aC):=by I pins s σ H x y v u Q I rx ry h;O⟨F,d1,d2,b,le,r1,r2,e,hf,q⟩:=h;O⟨_,_,h1⟩:=rcN I le (A:=X.A) (f:=We 47) (λd1 d2 b x y v u q1 w1 q2 w2 e=>Mn I le 47 X.A.in1 d1 d2 b x y v u (by V :X.A.in1.units=X.A.units+1:=rfl;W) q1 w1 q2 w2 e) r1 rx r2 ry e И hf;E h1 X.prog X.w X.xe _ ⟨.bl !b,H,I,rfl,q⟩
end
НD.isFlat:D->Bool
 | .non=>aC| .bl _=>aC| .int _=>aC| .str _=>aC|_=>aD
НeqX(d1 d2:D):Б SV:=if d1.isFlat=aC/\d2.isFlat=aC then eqD d1 d2 else(We 48 d1 d2).bind λb=>aA (.fz (.bl b))
НneX(d1 d2:D):Б SV:=if d1.isFlat=aC/\d2.isFlat=aC then neD d1 d2 else(We 48 d1 d2).bind λb=>aA (.fz (.bl !b))
ЛBo{F H:Hp}{d:D}{x:V}(r:Yi K F H d x)(h:d.isFlat=aD):Y2 x=aD:=by
 O⟨sv,ns,e,n,sh,hp⟩:=r;cases sh with
 |fz r=>C e;cases r<;> first|rfl|C h
 |ol r=>rfl
 |oK e' r=>rfl
 |oT kb e' r=>rfl
 |oN e' r=>rfl
 |oX kb' e' r=>rfl
 |oD r=>rfl
 |oL _ r=>rfl
 |oQ e' r=>rfl
section
variable{Z:Ent K}
ЛZkt:Y7 Z (λx y H Q=>rEq x y H Q\/Zih K aD x y H Q) eqX:=by
 I F H σ δ own x y d1 d2 sv Q s r1 r2 e k;U eqX at e;split at e
 ·E .inl (Zvd F H σ δ own x y d1 d2 sv Q s r1 r2 e k)
 ·rename_i hf;O⟨b,e1,e2⟩:=aa.mp e;C e2;R .inr ⟨F,d1,d2,b,s.le,r1,r2,e1,?_,k.fz s (.bl _)⟩;cases h1:d1.isFlat with
  |false=>E .inl (Bo r1 h1)
  |true=>cases h2:d2.isFlat with
   |false=>E .inr (Bo r2 h2)
   |true=>E absurd ⟨h1,h2⟩ hf
ЛZqv:Y7 Z (λx y H Q=>rNe x y H Q\/Zih K aC x y H Q) neX:=by
 I F H σ δ own x y d1 d2 sv Q s r1 r2 e k;U neX at e;split at e
 ·E .inl (Zve F H σ δ own x y d1 d2 sv Q s r1 r2 e k)
 ·rename_i hf;O⟨b,e1,e2⟩:=aa.mp e;C e2;R .inr ⟨F,d1,d2,b,s.le,r1,r2,e1,?_,k.fz s (.bl _)⟩;cases h1:d1.isFlat with
  |false=>E .inl (Bo r1 h1)
  |true=>cases h2:d2.isFlat with
   |false=>E .inr (Bo r2 h2)
   |true=>E absurd ⟨h1,h2⟩ hf
НZ0a:D->Б SV
 | .int i=>aA (.fz (.int (-i)))
 |_=>aB
end
section
variable{X:Cx}{Z:Ent X.K}{a b c:cj}{fa fb fc:FE}{pos:Pos}
ЛDh(hv:X.A.units+64<f6)(ha:PE X a (Ze Z fa))(hb:PE X b (Ze Z fb)):PE X (.Compare a [.Eq] [b] pos) (Ze Z (Zm eqX fa fb)):=Zkq (Zj7.or (Zec hv)) Zkt ha hb (Ad _)
ЛZku(hv:X.A.units+64<f6)(ha:PE X a (Ze Z fa))(hb:PE X b (Ze Z fb)):PT X (.Compare a [.Eq] [b] pos) (Yl Z (Ys (Zm eqX fa fb))):=Kb (Zj7.or (Zec hv)) Zkt ha hb (Ad _)
ЛRt(hv:X.A.units+64<f6)(ha:PE X a (Ze Z fa))(hb:PE X b (Ze Z fb)):PT X (.Compare a [.NotEq] [b] pos) (Yl Z (Ys (Zm neX fa fb))):=Kb (Zpg.or (Zmx hv)) Zqv ha hb (Ad _)
end
end DL
namespace L2
open PySem PySem.Spec PyProof.Rows
section
variable{X:Cx}{tg:cj}
МIts(z:Str):It:=⟨λi _=>i<z.length,λi H x H'=>H'=H/\∃c,z.cps[i]? =aA c/\x= .str ⟨#[c]⟩,λi _=>z.length<=i⟩
ЛZbu{P:b6}{w:c7}{K:ad}{tg:cj}(z:Str)(t:Tok)(it:aj):Turn P w K tg (Its z) [it] it (λi h=>h.IsStrIter it (h9 z) z t i)where
 mem:=by simp
 obj:=λi h st b hb=>by
  V e:b=it:=by L hb
  Q e;O⟨o,e,c,d⟩:=st;E⟨o,e,λv q=>by K[d]at q;C q⟩
 keep:=λi h h' st k=>by O⟨o,e,c,d⟩:=st;E⟨o,k it К o e,c,d⟩
 item:=by
  I X hP hw hK hc i pins s σ H E I hf st hg;subst hP hw hK;O⟨f0,f1,f2,f3,f4,f5⟩:=hf it К;V hlt:i<z.cps.size:=hg;V hx:z.cps[i]? =aA z.cps[i]:=by simp[hlt]
  V fin:∀h',h'.IsStrIter it (h9 z) z t (i+1)->io it s.heap h'->∃u,aA (Value.str ⟨#[z.cps[i]]⟩ s.toks)=aA u/\bg (b4 X.prog X.w) X.A (letOwnedTupleGo tg (.ref it) u) (λ_ s2=>∃x H',Inv X pins σ H' s2/\Zy x u/\(Its z).yld i H x H'/\s2.heap.IsStrIter it (h9 z) z t (i+1)/\∀b∈[it],H' b=aB) E {s with heap:=h',toks:=s.toks+1}:=λh' st' sb=>by
   V I1:Inv X pins σ H {s with heap:=h',toks:=s.toks+1}:=I.turned (t':=s.toks+1) (λb o hb q=>(sb.2 b hb).trans q) f0 f1 f3 f4 f5;O⟨o,e,c,d⟩:=id st';V hn:["enumerate","zip","dict_itemiterator","dict_reverseitemiterator","odict_iterator","itertools.zip_longest","itertools.pairwise"].contains (h9 z)=aD:=by U h9;split<;> decide
   E⟨_,rfl,Ab (s:={s with heap:=h',toks:=s.toks+1}) e c d hn ⟨.str ⟨#[z.cps[i]]⟩,H,I1,⟨_,rfl⟩,⟨rfl,_,hx,rfl⟩,st',λb hb=>(hf b hb).1⟩⟩
  cases ha:z.cps.all (· <128)with
  |false=>
   V et:h9 z="str_iterator":=by U h9;K[ha];rfl
   K[et]at st fin;K[et];E wpAny_pyNext_wide_item st hx fin
  |true=>
   V et:h9 z="str_ascii_iterator":=by U h9;K[ha];rfl
   K[et]at st fin;K[et];E wpAny_pyNext_ascii_item st hx fin
 done:=by
  I X hP hw hK hc i pins s σ H E I hf st hg;subst hP hw hK;O⟨f0,f1,f2,f3,f4,f5⟩:=hf it К;V hge:z.cps.size<=i:=hg;V hx:z.cps[i]? =aB:=by simp[hge]
  cases ha:z.cps.all (· <128)with
  |false=>
   V et:h9 z="str_iterator":=by U h9;K[ha];rfl
   K[et]at st;E wpAny_pyNext_wide_end (I.ok.hd hc) st hx λh' eb=>⟨rfl,I.turned (t':=s.toks) (λb o hb q=>eb b o hb q) f0 f1 f3 f4 f5⟩
  |true=>
   V et:h9 z="str_ascii_iterator":=by U h9;K[ha];rfl
   K[et]at st;E wpAny_pyNext_ascii_end (I.ok.hd hc) st hx λh' eb=>⟨rfl,I.turned (t':=s.toks) (λb o hb q=>eb b o hb q) f0 f1 f3 f4 f5⟩
 self:=λ_ _ _ _ _ st h=>by
  cases ha:z.cps.all (· <128)with
  |false=>
   V et:h9 z="str_iterator":=by U h9;K[ha];rfl
   K[et]at st;E wpAny_pyIter_striter_wide st h
  |true=>
   V et:h9 z="str_ascii_iterator":=by U h9;K[ha];rfl
   K[et]at st;E wpAny_pyIter_striter_ascii st h
МZqw(K:ad)(tl:TE):TI:=λσ H R=>tl σ H λx H1=>(∃a,x= .ref a/\(∃xs,W5 K H1 a xs)/\R (Itl K a) H1)\/(∃a,x= .ref a/\(∃xs,Ob K H1 a xs)/\R (Itt K a) H1)\/(∃z,x= .str z/\R (Its z) H1)
ЛZmy{l:cj}{tl:TE}(hl:PE X l tl):PI X tg l (Zqw X.K tl):=by
 I pins s σ H R I h;R Wp (hl pins s σ H _ I h) λv s1 zq9=>?_;O⟨x,H1,I1,r1,q1⟩:=zq9;J q1 with⟨a,e,⟨xs,hq⟩,q⟩|⟨a,e,⟨xs,hq⟩,q⟩|⟨z,e,q⟩
 ·Q e;C r1;O⟨its,rv,p,hz⟩:=I1.list hq;R wpAny_pyIter_list p.isList ?_;R⟨s1.heap.objs.size,[s1.heap.objs.size],_,_,H1,rfl,I1.kept (t':=s1.toks) λb o e=>au _ e,Zbb a _,⟨_,bp _ rfl,rfl,rfl⟩,λb hb=>?_,q⟩;V e:b=s1.heap.objs.size:=by L hb
  Q e;E I1.fpOk (ba _) (I1.hok.fresh (ba _))
 ·Q e;C r1;O⟨its,rv,p,hz⟩:=I1.tuple hq;R wpAny_pyIter_tuple (show s1.heap.IsTuple a its.toArray from p) ?_;R⟨s1.heap.objs.size,[s1.heap.objs.size],_,_,H1,rfl,I1.kept (t':=s1.toks) λb o e=>au _ e,Vy a _,⟨_,bp _ rfl,rfl,rfl⟩,λb hb=>?_,q⟩;V e:b=s1.heap.objs.size:=by L hb
  Q e;E I1.fpOk (ba _) (I1.hok.fresh (ba _))
 ·Q e;O⟨t,rfl⟩:=r1;R wpAny_pyIter_strU ?_;R⟨s1.heap.objs.size,[s1.heap.objs.size],_,_,H1,rfl,I1.kept (t':=s1.toks) λb o e=>au _ e,Zbu z t _,⟨_,bp _ rfl,rfl,rfl⟩,λb hb=>?_,q⟩;V e:b=s1.heap.objs.size:=by L hb
  Q e;E I1.fpOk (ba _) (I1.hok.fresh (ba _))
МZvn:V->А V->Hp->VK->Prop:=λx xs H Q=>∃a b,x= .str a/\xs=[.str b]/\(b.length==0)=aD/\a.length<=sizeLine/\(Txt.split a b).length<=sizeLine/\∀p,H p=aB->Q (.ref p) (Z9 H p (.lst ((Txt.split a b).map V.str)))
МZxz:V->А V->Hp->VK->Prop:=λx xs H Q=>∃a b,x= .str a/\xs=[.str b]/\(b.length==0)=aD/\a.length<=sizeLine/\∀p,H p=aB->Q (.ref p) (Z9 H p (.tup [.str (Txt.partition a b).1,.str (Txt.partition a b).2.1,.str (Txt.partition a b).2.2]))
МZqx(K:ad):А V->Hp->VK->Prop:=λxs H Q=>∃(p:aj) (bs:А Bool),xs=[.ref p]/\W5 K H p (bs.map V.bl)/\Q (.bl (bs.all id)) H
ЛSb:∀{bs:А Bool} {us:А ah},Z2 (bs.map V.bl) us->us=bs.map Value.bool
 | [],_,r=>by K[List.map_nil]at r;C r;rfl
 |b::bs,_,r=>by
  K[bc]at r;cases r with
  |cons h t=>cases(show _=Value.bool b from h);K[Sb t];rfl
ЛKd:∀bs:А Bool,(cq bs.length).all (λi=>(bs[i]?).getD aC)=bs.all id
 | []=>rfl
 |b::bs=>by K[bf,List.range_succ_eq_map,List.all_cons,List.all_map,List.all_cons,<-Kd bs];rfl
ЛZee(hc:X.calm=aC):Jo X (.builtin "all") (Zqx X.K):=by
 I pins s σ H xs us Q I rs h;O⟨p,bs,rfl,hq,q⟩:=h;O⟨u,rfl,ru⟩:=Oc rs;C ru;O⟨its,rv,pl,hz⟩:=I.list hq;V e:=Sb rv;Q e;R call_all_walk (wpAny_pyIter_list pl.isList ?_);V hne:p≠s.heap.objs.size:=λz=>by O⟨o,ho,_⟩:=pl.isList;V :=bo ho;K[z]at this;E ii _ this
 R⟨s.heap.objs.size,_,_,_,_,_,λi=>(bs[i]?).getD aC,rfl,Walks.list (by first|E I.ok.hd hc| (K[show X.A.in1.handled=X.A.handled from rfl];E I.ok.hd hc)) _ p hne (bs.map Value.bool).toArray,⟨⟨_,bp _ rfl,rfl,rfl⟩,pl.isList.at λo e=>au _ e⟩,?_,λh' tk hk=>?_⟩
 ·I i v s' Q' E' hP hQ;V hP':(bs.map Value.bool)[i]? =aA v:=by L hP
  K[az]at hP';cases hb:bs[i]? with
  |none=>K[hb]at hP';C hP'
  |some b=>K[hb]at hP';C hP';dsimp only at hQ;K[hb]at hQ;E wpAny_truthy_bool hQ
 ·V e:(cq (bs.map Value.bool).toArray.size).all (λi=>(bs[i]?).getD aC)=bs.all id:=by K[bq,aq];E Kd bs
  K[e];R⟨.bl _,H,I.kept (t':=tk) λb o hb=>hk b o (λz=>?_) (au _ hb),rfl,q⟩;V z':b=s.heap.objs.size:=by L z
  V :=bo hb;K[z']at this;E ii _ this
end
end L2
namespace DL
open PySem PySem.Spec PyProof.Rows L2
variable{K:ad}
МSc(z:Str):А D:=z.cps.toList.map λc=>.str ⟨#[c]⟩
ЛSd{z:Str}{F:Hp}:Oq K (Its z) F (Sc z):=λF' H sF sH i=>by
 V hl:(Sc z).length=z.length:=by U Sc;K[aq];rfl
 R⟨λd hd=>?_,λh=>by K[hl]at h;E h⟩;V hi:i<z.length:=by V :=(a8.mp hd).1;K[hl]at this;E this
 R⟨hi,λx H' zq9=>?_⟩;O⟨e1,c,e2,e3⟩:=zq9;subst e1 e3;U Sc at hd;K[az]at hd;V e4:z.cps.toList[i]? =aA c:=by L e2
 K[e4]at hd;C hd;E⟨Zi.refl _,[],df,λ_ h=>(nomatch h),.str _⟩
section
variable{Z:Ent K}{H:Hp}{σ:L2.St}{Q:VK}{E:Ends}
НCd(fe:FE):FD:=λδ=>(fe δ).bind λp=>(frz p.1 p.2).bind λq=>match q.1 with
 | .lst xs=>aA (xs,q.2)
 | .tup xs=>aA (xs,q.2)
 | .str z=>aA (Sc z,q.2)
 |_=>aB
ЛZmz{fe:FE}{R:It->Hp->В}(h:Qm Z (Cd fe) σ H R):Zqw K (Ze Z fe) σ H R:=by
 O⟨F,δ,own,ds,δ',s,e,k⟩:=h;O⟨⟨rv,δ1⟩,e1,e2⟩:=aa.mp e;O⟨⟨d,δ2⟩,e3,e4⟩:=aa.mp e2;R⟨F,δ,own,rv,δ1,s,e1,λv H1 F1 own1 sH sF s1 r1=>?_⟩;O⟨F2,sF2,s2,r2⟩:=s1.settleR r1;O⟨F3,own3,sF3,s3,r3⟩:=s2.frzR r2 e3;dsimp only at e4;split at e4
 ·C e4;cases r3 with
  |lst h _ r=>E .inl ⟨_,rfl,⟨_,Wb s3.le h⟩,k _ H1 F3 own3 sH (sF.trans (sF2.trans sF3)) s3 (P4 h r)⟩
 ·C e4;cases r3 with
  |tup h r=>E .inr (.inl ⟨_,rfl,⟨_,Qf s3.le (Gr h)⟩,k _ H1 F3 own3 sH (sF.trans (sF2.trans sF3)) s3 (Xd (Gr h) r)⟩)
 ·C e4;cases r3 with
  |str x=>E .inr (.inr ⟨_,rfl,k _ H1 F3 own3 sH (sF.trans (sF2.trans sF3)) s3 Sd⟩)
 ·C e4
НinS(i j:Str):Bool:=!(dj j i 0 j.length 1).isEmpty
НinD:D->D->Б SV
 | .str i,.str j=>aA (.fz (.bl (inS i j)))
 |_,_=>aB
НL9:D->D->Б SV
 | .str i,.str j=>aA (.fz (.bl (!inS i j)))
 |_,_=>aB
ЛZvo:Y7 Z (λx y H Q=>∃i j,x= .str i/\y= .str j/\Q (.bl (!(dj j i 0 j.length 1).isEmpty)) H) inD:=by
 I F H σ δ own x y d1 d2 sv Q s r1 r2 e k;U inD at e;split at e
 ·C e;E⟨_,_,r1.str,r2.str,k.fz s (.bl _)⟩
 ·C e
ЛZii:Y7 Z (λx y H Q=>∃i j,x= .str i/\y= .str j/\Q (.bl (!(!(dj j i 0 j.length 1).isEmpty))) H) L9:=by
 I F H σ δ own x y d1 d2 sv Q s r1 r2 e k;U L9 at e;split at e
 ·C e;E⟨_,_,r1.str,r2.str,k.fz s (.bl _)⟩
 ·C e
НZvp:А D->Б SV
 | [.str a,.str b]=>if(b.length==0)=aD/\a.length<=bd/\(Txt.split a b).length<=bd then aA (.ol ((Txt.split a b).map D.str))else aB
 |_=>aB
НZm0:А D->Б SV
 | [.str a,.str b]=>if(b.length==0)=aD/\a.length<=bd then aA (.fz (.tup [.str (Txt.partition a b).1,.str (Txt.partition a b).2.1,.str (Txt.partition a b).2.2]))else aB
 |_=>aB
Нbools?:А D->Б (А Bool)
 | []=>aA []
 | .bl x::r=>(bools? r).bind λt=>aA (x::t)
 |_=>aB
ЛSe{F:Hp}:∀{ds:А D} {xs:А Bool} {vs:А V},bools? ds=aA xs->Reps K F ds vs->vs=xs.map V.bl
 | [],_,_,e,r=>by C e;C r;rfl
 |d::ds,_,_,e,r=>by
  cases r with
  |cons h t=>
   U bools? at e;split at e
   ·rename_i e0;C e0
   ·rename_i x r0 e0;C e0;O⟨ys,e1,e2⟩:=aa.mp e;C e2;C h;K[Se e1 t];rfl
   ·C e
НZij:А D->Б SV
 | [.lst xs]=>(bools? xs).bind λbs=>aA (.fz (.bl (bs.all id)))
 |_=>aB
ЛZqy:Us Z (Zqx K) Zij:=by
 I F H σ δ own vs ds sv Q s r e k;U Zij at e;split at e
 ·O⟨bs,e1,e2⟩:=aa.mp e;C e2;cases r with
  |cons h1 t=>C t;O⟨a,vs,rfl,ha,ra⟩:=h1.lst s.le;K[Se e1 ra]at ha;E⟨a,bs,rfl,ha,k.fz s (.bl _)⟩
 ·C e
НZvq(i:Г):FS:=λδ=>match δ[i]? with
 |some (aA (.ol _))=>aA (.nx (δ.set i (aA (.ol []))))
 |_=>aB
end
section
variable{X:Cx}{Z:Ent X.K}{a b c:cj}{fa fb fc:FE}{pos:Pos}{tg:cj}
ЛUa(ha:PE X a (Ze Z fa)):PI X tg a (Qm Z (Cd fa)):=λpins s σ H R I h=>Zmy ha pins s σ H R I (Zmz h)
ЛZqz{p:Pos}(hm:X.mg "all"=aB)(ha:PE X a (Ze Z fa))(hc:X.calm=aC:=by rfl)(hg:Gl X "all":=by rfl)(he:a9 [a] X.env=(aD,gq a X.env)::a9 [] X.env:=by rfl)(hpl:(gr pos (a9 [] X.env)).any (·.1)=aD:=by rfl):PE X (.Call (.Name "all" p) [a] [] pos) (Ze Z (Yq Zij (Zc fa Zj))):=
 L8 (Zee hc) Zqy hm boot_all (Zk ha Ya he) hg Й Й he hpl
end
end DL
namespace L2
open PySem PySem.Spec PyProof.Rows
open AutoSeq1 (wpAny_loadPart')
section
variable{prog:b6}{w:c7}{A:dh}{E:ah->am->В}{s:am}
ЛTm{it t:aj}{i:Г}{items:Array ah}{x:ah}{Q:ah->am->В}(hit:s.heap.IsTupleIter it t i)(ht:s.heap.IsTuple t items)(hx:items[i]? =aA x)
  (hQ:∀h',h'.IsTupleIter it t (i+1)->io it s.heap h'->Q x {s with heap:=h'}):bg (b4 prog w) A (Builtin.SmallTypes.nextOf (.ref it)) Q E s:=by
 O⟨o,ho,hc,hd⟩:=id hit;O⟨ol,hol,_,nl,hdl⟩:=ht;U Builtin.SmallTypes.nextOf;R ac (gd (name:=Str.ofString "__next__") hit.typeIs F.slot_tuple_iterator_next (dr F.slot_tuple_iterator_next hit.typeIs F.entry_tuple_iterator_next ?_ (F.args_tuple_iterator_next_1 _)));T bg _ _ (field (.ref it) 0 >>=_) _ _ s;R ac (wpAny_field ho hd (x:=.ref t) rfl ?_);show bg _ _ (if(b8 t==ck)=aC then _ else _) _ _ s;K[Д (show¬((b8 t==ck)=aC)from bv)];show bg _ _ (field (.ref it) 1 >>=_) _ _ s;R ac (wpAny_field ho hd (x:=.int i 0) rfl ?_);show bg _ _ (seqItems? (.ref t) >>=_) _ _ s;R ac (wpAny_seqItems hol hdl ?_);simp only[g8,hx];R ac (wpAny_setField ho hd К (ag ⟨x,rfl,ag (hQ _ ⟨_,g6 _ ho (Obj.isFreed_of_fields (Obj.data_mapFields hd _)),(Obj.cls_mapFields ..).trans hc,by K[Obj.data_mapFields hd];simp[rawInt]⟩ (Heap.SameBut.update ..))⟩))
ЛCk{it t:aj}{i:Г}{items:Array ah}{Q:ah->am->В}(hh:A.handled=aB)(hit:s.heap.IsTupleIter it t i)(ht:s.heap.IsTuple t items)(hx:items[i]? =aB)
  (hE:∀h' e,Heap.ExtBut it s.heap h'->(∃o,h'.get? e=aA o/\o.cls= .type "StopIteration")->E (.ref e) {s with heap:=h'}):bg (b4 prog w) A (Builtin.SmallTypes.nextOf (.ref it)) Q E s:=by
 O⟨o,ho,hc,hd⟩:=id hit;O⟨ol,hol,_,nl,hdl⟩:=ht;U Builtin.SmallTypes.nextOf;R ac (gd (name:=Str.ofString "__next__") hit.typeIs F.slot_tuple_iterator_next (dr F.slot_tuple_iterator_next hit.typeIs F.entry_tuple_iterator_next ?_ (F.args_tuple_iterator_next_1 _)));T bg _ _ (field (.ref it) 0 >>=_) _ _ s;R ac (wpAny_field ho hd (x:=.ref t) rfl ?_);show bg _ _ (if(b8 t==ck)=aC then _ else _) _ _ s;K[Д (show¬((b8 t==ck)=aC)from bv)];show bg _ _ (field (.ref it) 1 >>=_) _ _ s;R ac (wpAny_field ho hd (x:=.int i 0) rfl ?_);show bg _ _ (seqItems? (.ref t) >>=_) _ _ s;R ac (wpAny_seqItems hol hdl ?_);simp only[g8,hx];R ac (wpAny_rule (ac (wpAny_setField ho hd К ?_)));show bg _ _ (newExc (.type "StopIteration") [] >>=_) _ _ _;R ac ?_;simp only[newExc,newTuple];R ac (ff ?_ (by size_fits));R ac (m:=firstArgMember _ _) (wpAny_of_eq (a:=ck) (by first|rfl| (simp only[firstArgMember];rfl)) ?_);R ff ?_ (by size_fits);simp only[raiseNew];R ac (wpAny_handled ?_);first|K[show A.in1.handled=aB from hh]|K[hh]
 R ac (ag (wpAny_throw ?_));E hE _ _ (((Heap.SameBut.update ..).extBut.push _).push _) ⟨_,bp _ rfl,rfl⟩
ЛSf{h h':d6}{t it:aj}{items:Array ah}(x:h.IsTuple t items)(hs:Heap.ExtBut it h h')(hne:t≠it):h'.IsTuple t items:=let⟨o,ho,r⟩:=x;⟨o,hs t o hne ho,r⟩
ЛZbv{prog:b6}{w:c7}{A:dh}(hh:A.handled=aB)(it l:aj)(hne:l≠it)(items:Array ah):
  Draws prog w A it [it,l] items.size (λi v=>items[i]? =aA v) (λi h=>h.IsTupleIter it l i/\h.IsTuple l items)where
 live:=λ_ _ st=>let⟨o,ho,_⟩:=st.1;⟨o,ho⟩
 frame:=λ_ _ _ st hk=>⟨st.1.at λo e=>hk it К o e,let⟨o,ho,r⟩:=st.2;⟨o,hk l К o ho,r⟩⟩
 item:=λi s Q E hi st hQ=>by R Tm st.1 st.2 (x:=items[i]) (by simp[hi]) λh' hit' hs'=>?_;E hQ _ h' s.toks (by simp[hi]) ⟨hit',Sf st.2 hs'.extBut hne⟩ hs'
 done:=λs Q E st hE=>Ck hh st.1 st.2 К hE
ЛNa(l:aj)(items:Array ah)(n:Г)(dct:Б aj)(sl:Array (Б ah)):
  Meets (Builtin.«enumerate.__new__» ⟨[.type "enumerate",.ref l],[]⟩) (λ_ R s=>s.heap.get? l=aA {cls:=.type "tuple",dict:=dct,data:=.seq items n,slots:=sl}/\
   R (.ok (.ret (.ref (s.heap.push {cls:=.type "tuple_iterator",data:=.fields #[.ref l,.int 0 0]}).objs.size))) {s with heap:=(s.heap.push {cls:=.type "tuple_iterator",data:=.fields #[.ref l,.int 0 0]}).push {cls:=.type "enumerate",data:=.fields #[.none,.bool aD,.ref s.heap.objs.size,rawInt 0,.none,.none]}}):=
 .of_wp λprog w A R s h=>by
  O⟨hp,g,d,tk,os⟩:=s;O⟨hl,h⟩:=h;V hsub:=sub_enumerate;V hL:Heap.IsTuple (Shared.heap ⟨hp,g,d,tk,os⟩) l items:=⟨_,hl,rfl,n,rfl⟩
  wp_walk using du hl;R wpAny_stack_any λst=>ag ?_;split
  ·rename_i c _ _ _ _ _;cases(c==Value.type "enumerate")
   ·wp_walk using du hl,wpAny_pyIter_tuple hL;E⟨_,rfl,h⟩
   ·wp_walk using du hl,wpAny_pyIter_tuple hL;E⟨_,rfl,h⟩
  ·wp_walk using du hl,wpAny_pyIter_tuple hL;E⟨_,rfl,h⟩
ЛIz{l:aj}{items:Array ah}{Q:ah->am->В}(hL:s.heap.IsTuple l items)
  (h:∀h',IsEnum h' (s.heap.objs.size+1) s.heap.objs.size 0 .none->h'.IsTupleIter s.heap.objs.size l 0->h'.objs.size=s.heap.objs.size+2->(∀b o,s.heap.get? b=aA o->h'.get? b=aA o)->Q (.ref (s.heap.objs.size+1)) {s with heap:=h'}):
  bg (b4 prog w) A (call (.type "enumerate") [.ref l]) Q E s:=by
 O⟨⟨c,dct,dt,sl⟩,hl,hc,n,hd⟩:=hL;replace hc:c= .type "tuple":=hc;replace hd:dt= .seq items n:=hd;subst hc hd;R callType_new F.called_enumerate Й (F.typeCall_enumerate_1 _) (F.newCall_enumerate_1 _) (λobj=>F.args_object_init_2 obj _) F.entry_enumerate_new (Na l items n dct sl) ⟨hl,?_⟩;V hz:(s.heap.push {cls:=.type "tuple_iterator",data:=.fields #[.ref l,.int 0 0]}).objs.size=s.heap.objs.size+1:=Heap.size_push ..;T _/\_;K[hz];V he:IsEnum ((s.heap.push {cls:=.type "tuple_iterator",data:=.fields #[.ref l,.int 0 0]}).push {cls:=.type "enumerate",data:=.fields #[.none,.bool aD,.ref s.heap.objs.size,rawInt 0,.none,.none]}) (s.heap.objs.size+1) s.heap.objs.size 0 .none:=by V :=bp (s.heap.push {cls:=.type "tuple_iterator",data:=.fields #[.ref l,.int 0 0]}) (o:={cls:=.type "enumerate",data:=.fields #[.none,.bool aD,.ref s.heap.objs.size,rawInt 0,.none,.none]}) rfl;K[hz]at this;E this
 E⟨⟨_,he,rfl⟩,h _ he ⟨_,au _ (bp _ rfl),rfl,rfl⟩ (by K[Heap.size_push,hz]) λb o x=>au _ (au _ x)⟩
ЛNb{e it l:aj}{i:Г}{items:Array ah}{old:ah}{Q:Б ah->am->В}(hh:A.handled=aB)(he:IsEnum s.heap e it i old)(hit:s.heap.IsTupleIter it l i)(hl:s.heap.IsTuple l items)(hx:items[i]? =aB)
  (hQ:∀h',Heap.ExtBut it s.heap h'->Q aB {s with heap:=h'}):bg (b4 prog w) A (pyNext (.ref e)) Q E s:=by
 V hT:s.TypeIs (.ref e) "enumerate":=⟨_,he,rfl⟩;U pyNext;R ac (wpAny_attempt (gd (name:=Str.ofString "__next__") hT F.slot_enumerate_next (dr F.slot_enumerate_next hT F.entry_enumerate_next ?_ (F.args_enumerate_next_1 _))));T bg _ _ (field (.ref e) 2 >>=_) _ _ _;R ac (wpAny_field he rfl (x:=.ref it) rfl ?_);R ac (Ck (by first|E hh| (K[show A.in1.handled=A.handled from rfl];E hh)) hit hl hx λh' x he' hx'=>?_);O⟨o,ho,hc⟩:=hx';R ac (wpAny_isInstance (T:="StopIteration") (b:=aC) ⟨o,ho,hc⟩ isSubtype_stop ?_);E ag (hQ _ he')
end
section
variable{X:Cx}{tg:cj}
МZm1(K:ad)(a:aj):It:=
 ⟨λi H=>∃xs x,Ob K H a xs/\xs[i]? =aA x,λi H x H'=>∃p v,x= .ref p/\H p=aB/\H'=Z9 H p (.tup [.int (i:Г),v])/\∀xs,Ob K H a xs->xs[i]? =aA v,λi H=>∃xs,Ob K H a xs/\xs.length<=i⟩
ЛXh{P:b6}{w:c7}{K:ad}{elts:А cj}{kk:Г}{tpos:Pos}(a e it:aj)(hei:e≠it):Turn P w K (.Tuple elts kk tpos) (Zm1 K a) [e,it] e (λi h=>(∃old,IsEnum h e it ((i:Г):Int) old)/\h.IsTupleIter it a i)where
 mem:=by simp
 obj:=λi h st b hb=>by
  V hb':b=e\/b=it:=by L hb
  J hb' with z|z
  ·Q z;O⟨old,q⟩:=st.1;E⟨_,q,λv y=>by
    V y':Data.fields _=Data.cell v:=y;C y'⟩
  ·Q z;O⟨o,q,c,d⟩:=st.2;E⟨o,q,λv y=>by K[d]at y;C y⟩
 keep:=λi h h' st k=>⟨let⟨old,q⟩:=st.1;⟨old,k e К _ q⟩,st.2.at λo q=>k it К o q⟩
 item:=by
  I X hP hw hK hc i pins s σ H E I hf st hg;subst hP hw hK;O⟨xs,x,hq,hx⟩:=hg;O⟨its,rv,p,hz⟩:=I.tuple hq;O⟨u,hu,ru⟩:=rv.get hx;O⟨⟨old,he⟩,hit⟩:=st;V hl:s.heap.IsTuple a its.toArray:=p;V ai:a≠it:=λz=>by O⟨o1,q1,c1,_⟩:=hit;O⟨o2,q2,c2,_⟩:=hl;K[z,q1]at q2;C q2;K[c1]at c2;E absurd c2 Й
  V ae:e∉[it,a]:=λz=>by
   V z':e=it\/e=a:=by L z
   J z' with z|z
   ·E hei z
   ·O⟨o2,q2,c2,_⟩:=hl;K[<-z,he]at q2;C q2;E absurd (show Value.type "enumerate"=Value.type "tuple"from c2) Й
  V D:=Zbv (prog:=X.prog) (w:=X.w) (A:=X.A.in1) (by first|E I.ok.hd hc| (K[show X.A.in1.handled=X.A.handled from rfl];E I.ok.hd hc)) it a ai its.toArray;V hlt:i<its.toArray.size:=by V :=(a8.mp hu).1;K[bq];E this
  R wpAny_pyNext_enum_itemD D he ⟨hit,hl⟩ hlt hei ae λy h' tk hy hout st' hT hsz hk=>⟨.ref s.heap.objs.size,rfl,?_⟩
  R wpAny_letOwnedTupleGo_enum hout λh2 he2 hs2=>?_;V hy':its.toArray[i]? =aA y:=hy;V ey:y=u:=by
   V :its[i]? =aA y:=by L hy'
   K[hu]at this;C this;rfl
  Q ey;V kk:∀b o,b≠e->b≠it->s.heap.get? b=aA o->h2.get? b=aA o:=λb o h1 h3 q=>(hs2.2 b h1).trans (hk b o h1 h3 q);V neT:s.heap.objs.size≠e:=Nat.ne_of_gt (bo he);V I2:=I.turnedT (h':=h2) (t':=tk+1) (e:=e) (it:=it) (T:=s.heap.objs.size) (xs:=[.int (i:Г),x]) (its:=[.int i tk,y]) kk (hf e К) (hf it К) rfl ⟨_,(hs2.2 _ neT).trans hT,rfl,_,rfl⟩ (.cons ⟨tk,rfl⟩ (.cons ru .nil)) (by T 2<=sizeLine;decide)
   ⟨_,he2⟩ (let⟨o,q,_⟩:=st'.1;⟨o,(hs2.2 it (Ne.symm hei)).trans q⟩)
  R⟨.ref s.heap.objs.size,_,I2,rfl,⟨s.heap.objs.size,x,rfl,I.hok.fresh (ba _),rfl,λys hy2=>by K[I.tuple_inj hy2 hq];E hx⟩,⟨⟨_,he2⟩,st'.1.at λo q=>(hs2.2 it (Ne.symm hei)).trans q⟩,λb hb=>?_⟩;K[Zw λz=>?_]
  ·E(hf b hb).1
  ·V hb':b=e\/b=it:=by L hb
   J hb' with y|y
   ·K[<-z,y]at neT;E neT rfl
   ·O⟨o,q,_⟩:=hit;K[y]at z;E absurd (bo q) (by K[z];E ii _)
 done:=by I X hP hw hK hc i pins s σ H E I hf st hg;subst hP hw hK;O⟨xs,hq,hx⟩:=hg;O⟨its,rv,p,hz⟩:=I.tuple hq;O⟨⟨old,he⟩,hit⟩:=st;O⟨f0,f1,f2,f3,f4,f5⟩:=hf it К;V hl:=rv.length;E Nb (I.ok.hd hc) he hit (show s.heap.IsTuple a its.toArray from p) (by simp;W) λh' eb=>⟨rfl,I.turned (t':=s.toks) (λb o hb q=>eb b o hb q) f0 f1 f3 f4 f5⟩
 self:=λ_ _ _ _ _ st h=>let⟨⟨old,he⟩,_⟩:=st;wpAny_pyIter_enum he h
МZef(K:ad)(ta:TA):TI:=λσ H R=>ta σ H λvs H1=>∃a xs,vs=[.ref a]/\Ob K H1 a xs/\R (Zm1 K a) H1
ЛZeg{l:cj}{elts:А cj}{kk:Г}{tpos p pos:Pos}{ta:TA}(hg:Gl X "enumerate")(hm:X.mg "enumerate"=aB)(ha:PA X [l] ta)(hs:a9 [l] X.env=[(aD,gq l X.env)]:=by rfl):
  PI X (.Tuple elts kk tpos) (.Call (.Name "enumerate" p) [l] [] pos) (Zef X.K ta):=by
 I pins s σ H R I h;R Call_ (Bh I hg hm boot_enumerate (PyProof.Rows.callWith_type1 (Wp (ha pos pins s σ H _ I h) λus s1 ⟨vs,H1,I1,r1,q1⟩=>?_) hs rfl));O⟨a,xs,e,hq,q⟩:=q1;Q e;O⟨u,rfl,ru⟩:=Oc r1;C ru;O⟨its,rv,p,hz⟩:=I1.tuple hq;R Iz (show s1.heap.IsTuple a its.toArray from p) λh' he hit hsz hk=>wpAny_pyIter_enum he ?_;V I2:Inv X pins σ H1 {s1 with heap:=h'}:=I1.kept (t':=s1.toks) hk;R⟨s1.heap.objs.size+1,[s1.heap.objs.size+1,s1.heap.objs.size],_,_,H1,rfl,I2,Xh a _ _ (Nat.succ_ne_self _),⟨⟨.none,by L he⟩,hit⟩,λb hb=>?_,q⟩;V hb':b=s1.heap.objs.size+1\/b=s1.heap.objs.size:=by L hb
 J hb' with z|z
 ·Q z;E I1.fpOk (Nat.le_succ _) (I1.hok.fresh (Nat.le_succ _))
 ·Q z;E I1.fpOk (ba _) (I1.hok.fresh (ba _))
end
end L2
namespace DL
open PySem PySem.Spec PyProof.Rows L2
variable{K:ad}
ЛNc{F:Hp}{a:aj}{xs:А D}{vs:А V}(h:Ob K F a vs)(r:Reps K F xs vs):Oq K (Zm1 K a) F (Js xs):=λF' H sF sH i=>by
 V q:Ob K H a vs:=Qf (sF.trans sH) h;R⟨λd hd=>?_,λhl=>⟨vs,q,by K[<-r.length,<-Fz];E hl⟩⟩;O⟨x,hx,rfl⟩:=Fy hd;O⟨v,h1,h2⟩:=r.get hx;R⟨⟨vs,v,q,h1⟩,λy H' zq9=>?_⟩;O⟨p,w,e1,e2,e3,e4⟩:=zq9;subst e1 e3;V e5:=e4 vs q;K[h1]at e5;C e5;V hp:F' p=aB:=sH.free e2;V sm:Zi F' (Ue F' [(p,.tup [.int (i:Г),v])]):=Ql λz hz=>by obtain rfl:=ar.mp hz;E hp
 R⟨Ws e2,[(p,.tup [.int (i:Г),v])],Ix,λz hz=>?_,.tup Z3 (.cons (.int _) (.cons (h2.mono (sF.trans sm)) .nil))⟩;obtain rfl:=ar.mp hz;E⟨e2,Z3⟩
section
variable{Z:Ent K}{H:Hp}{σ:L2.St}{Q:VK}
НZeh(fd:FD):FD:=λδ=>(fd δ).bind λp=>match p.1 with
 | [.tup xs]=>aA (Js xs,p.2)
 |_=>aB
ЛZei{fd:FD}{R:It->Hp->В}(h:Qm Z (Zeh fd) σ H R):Zef K (Qu Z fd) σ H R:=by
 O⟨F,δ,own,ds,δ',s,e,k⟩:=h;O⟨⟨ds1,δ1⟩,e1,e2⟩:=aa.mp e;R⟨F,δ,own,ds1,δ1,s,e1,λvs H1 F1 own1 sH sF s1 r1=>?_⟩;dsimp only at e2;split at e2
 ·rename_i xs;C e2;cases r1 with
  |cons h t=>
   C t;cases h with
   |tup h r=>E⟨_,_,rfl,Qf s1.le (Gr h),k _ H1 F1 own1 sH sF s1 (Nc (Gr h) r)⟩
 ·C e2
end
section
variable{X:Cx}{Z:Ent X.K}{a:cj}{fa:FE}{pos:Pos}
НMo(fd:FD):FD:=λδ=>(fd δ).bind λp=>match p.1 with
 | [.lst xs]=>aA (Js xs,p.2)
 | [.tup xs]=>aA (Js xs,p.2)
 |_=>aB
ЛZej{H:Hp}{σ:L2.St}{fd:FD}{R:It->Hp->В}(h:Qm Z (Mo fd) σ H R):Qm Z (Zkp fd) σ H R\/Qm Z (Zeh fd) σ H R:=by
 O⟨F,δ,own,ds,δ',s,e,k⟩:=h;O⟨⟨ds1,δ1⟩,e1,e2⟩:=aa.mp e;dsimp only at e2;split at e2
 ·rename_i xs;E .inl ⟨F,δ,own,ds,δ',s,aa.mpr ⟨_,e1,e2⟩,k⟩
 ·rename_i xs;E .inr ⟨F,δ,own,ds,δ',s,aa.mpr ⟨_,e1,e2⟩,k⟩
 ·C e2
ЛTw{elts:А cj}{kk:Г}{tpos p:Pos}{fd:FD}(hm:X.mg "enumerate"=aB)(ha:PA X [a] (Qu Z fd))(hg:Gl X "enumerate":=by rfl)(hs:a9 [a] X.env=[(aD,gq a X.env)]:=by rfl):
  PI X (.Tuple elts kk tpos) (.Call (.Name "enumerate" p) [a] [] pos) (Qm Z (Mo fd)):=λpins s σ H R I h=>by
 J Zej h with h|h
 ·E Zia hg hm ha hs pins s σ H R I (Zib h)
 ·E Zeg hg hm ha hs pins s σ H R I (Zei h)
end
end DL
namespace L2
open PySem PySem.Spec PyProof.Rows
variable{X:Cx}
МZvr(K:ad):V->А V->Hp->VK->Prop:=λx xs H Q=>∃sep p ys,x= .str sep/\xs=[.ref p]/\(W5 K H p (ys.map V.str)\/Ob K H p (ys.map V.str))/\JoinOk sep ys=aC/\Q (.str (Txt.join sep ys)) H
end L2
namespace DL
open PySem PySem.Spec PyProof.Rows L2
variable{K:ad}
НZvs:А D->Б SV
 | [.str sep,.lst xs]=>(strs? xs).bind λys=>if JoinOk sep ys=aC then aA (.fz (.str (Txt.join sep ys)))else aB
 | [.str sep,.tup xs]=>(strs? xs).bind λys=>if JoinOk sep ys=aC then aA (.fz (.str (Txt.join sep ys)))else aB
 |_=>aB
end DL
namespace L2
open PySem PySem.Spec PyProof.Rows
variable{X:Cx}
МZq0:R2:=λx y H Q=>∃a v,x= .ref a/\Ur H a y (aA v)/\Q v H
МZek:R2:=λy x H Q=>∃a o,x= .ref a/\Ur H a y o/\Q (.bl o.isSome) H
МRu:R2:=λy x H Q=>∃a o,x= .ref a/\Ur H a y o/\Q (.bl (!o.isSome)) H
ЛXi(hu:X.A.units+1<f6):Cf X (g9 .In) Zek:=by I pins s σ H y x v u Q I ry rx h;O⟨a,o,rfl,g,q⟩:=h;C rx;E Zun hu I g ry λs' I'=>⟨.bl o.isSome,H,I',rfl,q⟩
ЛI8(hu:X.A.units+1<f6):Cf X (g9 .NotIn) Ru:=by I pins s σ H y x v u Q I ry rx h;O⟨a,o,rfl,g,q⟩:=h;C rx;E Zht hu I g ry λs' I'=>⟨.bl (!o.isSome),H,I',rfl,q⟩
end L2
namespace DL
open PySem PySem.Spec PyProof.Rows L2
variable{K:ad}
НD.key?:D->Б Key
 | .int i=>aA (.inl i)
 | .str x=>aA (.inr x)
 |_=>aB
Нkeys?:А D->Б (А Key)
 | []=>aA []
 |d::r=>d.key?.bind λk=>(keys? r).bind λt=>aA (k::t)
section
variable{κ:Type}[DecidableEq κ]
Нlook(ks:А κ)(vs:А D)(k:κ):Б D:=match ks,vs with
 |a::ks,v::vs=>if a=k then aA v else look ks vs k
 |_,_=>aB
ЛTx{F:Hp}(k:κ):∀(kvs:А (κ×V)) (ds:А D),Reps K F ds (kvs.map (·.2))->match look (kvs.map (·.1)) ds k with
  |some d=>∃v,Qd kvs k=aA v/\Rep K F d v
  |none=>Qd kvs k=aB
 | [],_,r=>by C r;E Zdn
 |p::kvs,_,r=>by
  cases r with
  | @cons d v ds vs h t=>
   T match(if p.1=k then aA d else look (kvs.map (·.1)) ds k)with
    |some d=>∃v,Qd (p::kvs) k=aA v/\Rep K F d v
    |none=>Qd (p::kvs) k=aB
   B e:p.1=k
   ·K[Е e];E⟨p.2,O6 e,h⟩
   ·K[Д e,Uq e];E Tx k kvs ds t
НWv(ks:А κ)(vs:А D)(k:κ)(v:D):А κ×А D:=
 if k∈ks then(ks,(ks.zip vs).map λp=>if p.1=k then v else p.2)else(ks++[k],vs++[v])
ЛReps.length_map{F:Hp}{α:Type}{ds:А D}{kvs:А (α×V)}(r:Reps K F ds (kvs.map (·.2))):ds.length=kvs.length:=by K[r.length,aq]
ЛDi{F:Hp}{k:κ}{d:D}{v:V}(hd:Rep K F d v):∀(kvs:А (κ×V)) (ds:А D),Reps K F ds (kvs.map (·.2))->
  Reps K F (((kvs.map (·.1)).zip ds).map λp=>if p.1=k then d else p.2) ((kvs.map λkv=>if kv.1=k then(kv.1,v)else kv).map (·.2))
 | [],_,r=>by C r;E .nil
 |p::kvs,_,r=>by
  cases r with
  | @cons d' v' ds vs h t=>
   V ih:=Di (k:=k) hd kvs ds t;T Reps K F ((if p.1=k then d else d')::(((kvs.map (·.1)).zip ds).map λp=>if p.1=k then d else p.2)) ((if p.1=k then(p.1,v)else p).2::((kvs.map λkv=>if kv.1=k then(kv.1,v)else kv).map (·.2)));R .cons ?_ ih;B e:p.1=k
   ·K[Е e,Е e];E hd
   ·K[Д e,Д e];E h
ЛZel{k:κ}{v:V}(kvs:А (κ×V)):(kvs.map λkv=>if kv.1=k then(kv.1,v)else kv).map (·.1)=kvs.map (·.1):=by K[cg];R List.map_congr_left λp _=>?_;show(if p.1=k then(p.1,v)else p).1=p.1;split<;> rfl
ЛRv(k:κ)(kvs:А (κ×V)):(kvs.any λkv=>decide (kv.1=k))=aC↔k∈kvs.map (·.1):=by
 K[List.any_eq_true,ax];constructor
 ·rintro⟨p,h1,h2⟩;E⟨p,h1,of_decide_eq_true h2⟩
 ·rintro⟨p,h1,h2⟩;E⟨p,h1,decide_eq_true h2⟩
ЛNd{F:Hp}{k:κ}{d:D}{v:V}(hd:Rep K F d v)(kvs:А (κ×V))(ds:А D)(r:Reps K F ds (kvs.map (·.2))):
  (Qe kvs k v).map (·.1)=(Wv (kvs.map (·.1)) ds k d).1/\Reps K F (Wv (kvs.map (·.1)) ds k d).2 ((Qe kvs k v).map (·.2)):=by
 U Qe Wv;B h:k∈kvs.map (·.1)
 ·K[Е h,Е ((Rv k kvs).mpr h)];E⟨Zel kvs,Di hd kvs ds r⟩
 ·K[Д h,Д λz=>h ((Rv k kvs).mp z),b9,b9];E⟨rfl,r.snoc hd⟩
end
ЛAr{F H:Hp}{d:D}{k:Key}{y:V}(e:d.key? =aA k)(r:Yi K F H d y):y=kV k:=by
 cases d with
 |int i=>C e;E r.int
 |str x=>C e;E r.str
 |_=>C e
ЛDj{F:Hp}{d:D}{k:Key}{y:V}(e:d.key? =aA k)(r:Rep K F d y):y=kV k:=Ar (H:=F) e (Yi.of r)
ЛNf{F:Hp}:∀{ds:А D} {ks:А Key} {vs:А V},keys? ds=aA ks->Reps K F ds vs->vs=ks.map kV
 | [],_,_,e,r=>by C e;C r;rfl
 |d::ds,_,_,e,r=>by
  cases r with
  |cons h t=>O⟨k,e1,e2⟩:=aa.mp e;O⟨t',e3,e4⟩:=aa.mp e2;C e4;K[Dj e1 h,Nf e3 t];rfl
ЛYi.tupH{F H:Hp}{xs:А D}{v:V}(le:Zi F H)(h:Yi K F H (.tup xs) v):∃a vs,v= .ref a/\H a=aA (.tup vs)/\Reps K F xs vs:=by
 O⟨sv,ns,e,n,sh,hp⟩:=h;cases sh with
 |fz r=>C e;cases r with|tup h r=>E⟨_,_,rfl,le _ _ h,r⟩
 |ol r=>C e
 |oK e' r=>C e
 |oT kb e' r=>C e
 |oN e' r=>C n
 |oX kb' e' r=>C n
 |oD r=>C n
 |oL _ r=>C n
 |oQ e' r=>C e
НXj:D->D->Б (Б D)
 | .dK ks vs,d=>d.key?.bind λk=>aA (look ks vs k)
 | .dT ks vs,.tup xs=>(keys? xs).bind λk=>aA (look ks vs k)
 |_,_=>aB
ЛXk{F H:Hp}{d1 d2:D}{x y:V}{o:Б D}(le:Zi F H)(e:Xj d1 d2=aA o)(r1:Yi K F H d1 x)(r2:Yi K F H d2 y):
  ∃a,x= .ref a/\IsD H a/\match o with
   |some d=>∃v,Ur H a y (aA v)/\Rep K F d v
   |none=>Ur H a y aB:=by
 U Xj at e;split at e
 ·O⟨k,e1,e2⟩:=aa.mp e;O⟨a,kvs,rfl,ha,rfl,rr⟩:=r1.dK le;R⟨a,rfl,.inl ⟨kvs,ha.rd⟩,?_⟩;K[Ar e1 r2];V z:=Tx k kvs _ rr;V g:=Ur.k (k:=k) ha;K[cz.inj e2]at z;cases o with
  |none=>K[show Qd kvs k=aB from z]at g;E g
  |some d=>O⟨v,z1,z2⟩:=z;K[z1]at g;E⟨v,g,z2⟩
 ·O⟨k,e1,e2⟩:=aa.mp e;O⟨a,kvs,rfl,ha,rfl,rr⟩:=r1.dT le;O⟨b,vs,rfl,hb,rb⟩:=r2.tupH le;R⟨a,rfl,.inr ⟨kvs,ha.rd⟩,?_⟩;K[Nf e1 rb]at hb;V z:=Tx k kvs _ rr;V g:=Ur.t ha hb;K[cz.inj e2]at z;cases o with
  |none=>K[show Qd kvs k=aB from z]at g;E g
  |some d=>O⟨v,z1,z2⟩:=z;K[z1]at g;E⟨v,g,z2⟩
 ·C e
section
variable{Z:Ent K}
НZem(d1 d2:D):Б SV:=(Xj d1 d2).bind λo=>o.bind λd=>aA (.fz d)
ЛZm2:Y7 Z Zq0 Zem:=by I F H σ δ own x y d1 d2 sv Q s r1 r2 e k;O⟨o,e1,e2⟩:=aa.mp e;O⟨d,e3,e4⟩:=aa.mp e2;C e4;Q e3;O⟨a,rfl,_,v,g,rv⟩:=Xk s.le e1 r1 r2;E⟨a,v,rfl,g,k.fz s rv⟩
НZq1(d1 d2:D):Б SV:=(Xj d2 d1).bind λo=>aA (.fz (.bl o.isSome))
НDk(d1 d2:D):Б SV:=(Xj d2 d1).bind λo=>aA (.fz (.bl (!o.isSome)))
ЛZm3:Y7 Z Zek Zq1:=by
 I F H σ δ own x y d1 d2 sv Q s r1 r2 e k;O⟨o,e1,e2⟩:=aa.mp e;C e2;O⟨a,rfl,_,g⟩:=Xk s.le e1 r2 r1;cases o with
 |none=>E⟨a,aB,rfl,g,k.fz s (.bl _)⟩
 |some d=>O⟨v,g,_⟩:=g;E⟨a,aA v,rfl,g,k.fz s (.bl _)⟩
ЛZbw:Y7 Z Ru Dk:=by
 I F H σ δ own x y d1 d2 sv Q s r1 r2 e k;O⟨o,e1,e2⟩:=aa.mp e;C e2;O⟨a,rfl,_,g⟩:=Xk s.le e1 r2 r1;cases o with
 |none=>E⟨a,aB,rfl,g,k.fz s (.bl _)⟩
 |some d=>O⟨v,g,_⟩:=g;E⟨a,aA v,rfl,g,k.fz s (.bl _)⟩
НD.isD:D->Bool
 | .dK _ _=>aC| .dT _ _=>aC|_=>aD
НO5(d1 d2:D):Б SV:=if d1.isD=aC then Zem d1 d2 else ixD d1 d2
НinX(d1 d2:D):Б SV:=if d2.isD=aC then Zq1 d1 d2 else inD d1 d2
НXl(d1 d2:D):Б SV:=if d2.isD=aC then Dk d1 d2 else L9 d1 d2
ЛZbx{H:Hp}{σ:L2.St}{Q:VK}{fa fb:FE}{g g1 g2':D->D->Б SV}(hg:∀d1 d2 sv,g d1 d2=aA sv->g1 d1 d2=aA sv\/g2' d1 d2=aA sv)(h:Ze Z (Zm g fa fb) σ H Q):Ze Z (Zm g1 fa fb) σ H Q\/Ze Z (Zm g2' fa fb) σ H Q:=by
 O⟨F,δ,own,rv,δ',s,e,k⟩:=h;O⟨⟨rvs,δ1⟩,e1,e2⟩:=aa.mp e;O⟨ds,e3,e4⟩:=aa.mp e2;O⟨sv,e5,e6⟩:=aa.mp e4;V :(g2 g1) ds=aA sv\/(g2 g2') ds=aA sv:=by
  U g2 at e5⊢;split at e5
  ·E hg _ _ _ e5
  ·C e5
 J this with z|z
 ·E .inl ⟨F,δ,own,rv,δ',s,aa.mpr ⟨_,e1,aa.mpr ⟨_,e3,aa.mpr ⟨_,z,e6⟩⟩⟩,k⟩
 ·E .inr ⟨F,δ,own,rv,δ',s,aa.mpr ⟨_,e1,aa.mpr ⟨_,e3,aa.mpr ⟨_,z,e6⟩⟩⟩,k⟩
ЛZq2:Y7 Z (λx y H Q=>(∃i j,x= .str i/\y= .str j/\Q (.bl (!(dj j i 0 j.length 1).isEmpty)) H)\/Zek x y H Q) inX:=by
 I F H σ δ own x y d1 d2 sv Q s r1 r2 e k;U inX at e;split at e
 ·E .inr (Zm3 F H σ δ own x y d1 d2 sv Q s r1 r2 e k)
 ·E .inl (Zvo F H σ δ own x y d1 d2 sv Q s r1 r2 e k)
ЛZen:Y7 Z (λx y H Q=>(∃i j,x= .str i/\y= .str j/\Q (.bl (!(!(dj j i 0 j.length 1).isEmpty))) H)\/Ru x y H Q) Xl:=by
 I F H σ δ own x y d1 d2 sv Q s r1 r2 e k;U Xl at e;split at e
 ·E .inr (Zbw F H σ δ own x y d1 d2 sv Q s r1 r2 e k)
 ·E .inl (Zii F H σ δ own x y d1 d2 sv Q s r1 r2 e k)
end
section
variable{X:Cx}{Z:Ent X.K}{a b c:cj}{fa fb fc:FE}{pos:Pos}
ЛYo(hu:X.A.units+1<f6)(ha:PE X a (Ze Z fa))(hb:PE X b (Ze Z fb))(hs:Tu b:=by I _ _;rfl):PE X (.Subscript a b pos) (Ze Z (Zm O5 fa fb)):=λpins s σ H Q I h=>by
 J Zbx (g1:=Zem) (g2':=ixD) (λd1 d2 sv e=>by
  U O5 at e;split at e
  ·E .inl e
  ·E .inr e) h with h|h
 ·E Zhu hu ha hb hs pins s σ H Q I (Fv Zm2 h)
 ·E Zdf Zdg ha hb hs pins s σ H Q I (Fv Zqm h)
end
end DL
namespace L2
open PySem PySem.Spec PyProof.Rows
variable{X:Cx}
МZvu:V->А V->Hp->VK->Prop:=λx xs H Q=>∃a,x= .ref a/\((∃y o,xs=[y]/\Ur H a y o/\Q (o.getD .non) H)\/(∃y z o,xs=[y,z]/\Ur H a y o/\Q (o.getD z) H))
end L2
namespace DL
open PySem PySem.Spec PyProof.Rows L2
variable{K:ad}
section
variable{Z:Ent K}{H:Hp}{σ:L2.St}{Q:VK}{E:Ends}
НDl:FE:=λδ=>aA (.tmp (.oK [] []),δ)
НZx0:FE:=λδ=>aA (.tmp (.oT [] []),δ)
ЛZik(h:Ze Z Dl σ H Q):Ag σ H Q:=by O⟨F,δ,own,rv,δ',s,e,k⟩:=h;C e;I p hp;V f:Fin Z F H σ δ own (.oK [] []) Q:=λv H' F' ns a b c t=>k v H' F' own a b c ⟨ns,t⟩;E f.one s (.oK (kvs:=[]) rfl .nil) hp
НSV.isOD:Б (Б SV)->Bool
 |some (aA (.oK _ _))=>aC
 |some (aA (.oT _ _))=>aC
 |some (aA (.oQ _ _ _))=>aC
 |_=>aD
НZq3(kd d:D):Б (Б SV)->Б SV
 |some (aA (.oK ks vs))=>kd.key?.bind λk=>if vs.length<bd then aA (.oK (Wv ks vs k d).1 (Wv ks vs k d).2)else aB
 |some (aA (.oT ks vs))=>match kd with
  | .tup xs=>(keys? xs).bind λk=>if vs.length<bd then aA (.oT (Wv ks vs k d).1 (Wv ks vs k d).2)else aB
  |_=>aB
 |some (aA (.oQ q ks vs))=>kd.key?.bind λk=>if vs.length<bd then aA (.oQ q (Wv ks vs k d).1 (Wv ks vs k d).2)else aB
 |_=>aB
НIr(i:Г)(fk fv:FE):FS:=λδ=>(fv δ).bind λp=>(frz p.1 p.2).bind λq=>if SV.isOD (q.2[i]?)=aC then(fk q.2).bind λr=>(Iw r.1 r.2).bind λkd=>(Zq3 kd q.1 (r.2[i]?)).bind λsv=>aA (.nx (r.2.set i (aA sv)))else aB
ЛZeo{F:Hp}{ks:А Key}{ds:А D}{v:V}{ns:Zo}(h:Shape K F (.oK ks ds) v ns):∃a kvs ep,v= .ref a/\ns=[(a,.dK kvs ep)]/\kvs.map (·.1)=ks/\Reps K F ds (kvs.map (·.2)):=by
 cases h with
 |oK e r=>E⟨_,_,_,rfl,rfl,e,r⟩
ЛZep{F:Hp}{q:aj}{ks:А Key}{ds:А D}{v:V}{ns:Zo}(h:Shape K F (.oQ q ks ds) v ns):∃kvs ep,v= .ref q/\ns=[(q,.dK kvs ep)]/\kvs.map (·.1)=ks/\Reps K F ds (kvs.map (·.2)):=by
 cases h with
 |oQ e r=>E⟨_,_,rfl,rfl,e,r⟩
ЛZeq{F:Hp}{ks:А (А Key)}{ds:А D}{v:V}{ns:Zo}(h:Shape K F (.oT ks ds) v ns):∃a kvs ep bs,v= .ref a/\ns=[(a,.dT kvs ep bs)]/\KB F kvs bs/\kvs.map (·.1)=ks/\Reps K F ds (kvs.map (·.2)):=by
 cases h with
 |oT kb e r=>E⟨_,_,_,_,rfl,rfl,kb,e,r⟩
ЛKB.put{F:Hp}{kvs:А (А Key×V)}{bs:А aj}{k:А Key}{b:aj}{v:V}(h:KB F kvs bs)(hb:F b=aA (.tup (k.map kV))):KB F (Qe kvs k v) (Pn kvs bs k b):=by
 U Qe Pn;split
 ·U KB at*;clear hb;rename_i hq;clear hq;induction h with
  |nil=>E .nil
  | @cons p c ps cs h1 t ih=>
   K[bc];R .cons ?_ ih;B e:p.1=k
   ·K[Е e];E h1
   ·K[Д e];E h1
 ·E Paired.snoc h hb
ЛYi.tupF{F H:Hp}{xs:А D}{v:V}(h:Yi K F H (.tup xs) v):∃a vs,v= .ref a/\F a=aA (.tup vs)/\Reps K F xs vs:=by
 O⟨sv,ns,e,n,sh,hp⟩:=h;cases sh with
 |fz r=>C e;cases r with|tup h r=>E⟨_,_,rfl,h,r⟩
 |ol r=>C e
 |oK e' r=>C e
 |oT kb e' r=>C e
 |oN e' r=>C n
 |oX kb' e' r=>C n
 |oD r=>C n
 |oL _ r=>C n
 |oQ e' r=>C e
ЛZil{o:Б (Б SV)}(h:SV.isOD o=aC):∃sv,o=aA (aA sv):=by
 U SV.isOD at h;split at h
 ·E⟨_,rfl⟩
 ·E⟨_,rfl⟩
 ·E⟨_,rfl⟩
 ·C h
ЛZq4{i:Г}{fk fv:FE}(h:Z5 Z (Ir i fk fv) E σ H):Zdp (Bg i) (Ze Z fk) (Ze Z fv) E σ H:=by
 O⟨F,δ,own,fl,s,e,k⟩:=h;O⟨⟨rv,δ1⟩,e1,e⟩:=aa.mp e;O⟨⟨d,δ2⟩,e2,e⟩:=aa.mp e;dsimp only at e;split at e
 ·rename_i hod;O⟨⟨rk,δ3⟩,e3,e⟩:=aa.mp e;O⟨kd,e4,e⟩:=aa.mp e;O⟨sv,e5,e⟩:=aa.mp e;C e;R⟨F,δ,own,rv,δ1,s,e1,λv H1 F1 own1 sH1 sF1 s1 r1=>?_⟩;O⟨F2,sF2,s2,r2⟩:=s1.settleR r1;O⟨F3,own3,sF3,s3,r3⟩:=s2.frzR r2 e2;O⟨sv0,hsv0⟩:=Zil hod;O⟨x,hx,_⟩:=s3.at' i sv0 hsv0;R⟨x,hx,F3,δ2,own3,rk,δ3,s3,e3,λy H4 F4 own4 sH4 sF4 s4 r4=>?_⟩;O⟨F5,sF5,s5,r5⟩:=s4.settleR r4;V rk':=s5.rd r5 e4;V rd:Rep K F5 d v:=r3.mono (sF4.trans sF5);V sF:Zi F F5:=sF1.trans (sF2.trans (sF3.trans (sF4.trans sF5)));dsimp only at e5;generalize ho:δ3[i]? =o at e5;U Zq3 at e5;split at e5
  ·rename_i ks vs;O⟨kk,f1,f2⟩:=aa.mp e5;split at f2
   ·rename_i hz;C f2;O⟨x',hx',sh⟩:=s5.at' i _ ho;K[hx]at hx';C hx';O⟨a,kvs,ep0,ea,en,rfl,rr⟩:=Zeo sh;Q ea;V mb:(a,HO.dK kvs ep0)∈own4 i:=by K[en];E af
    V hH:=(s5.ok i _ mb).2.2;V z:=Nd (k:=kk) rd kvs vs rr;R⟨a,rfl,?_⟩;K[Ar f1 rk'];R Af.k ⟨_,hH⟩ (by K[<-rr.length_map];E hz) λep=>?_;E k σ _ F5 _ sF (s5.change (sv':=.oK (Wv (kvs.map (·.1)) vs kk d).1 (Wv (kvs.map (·.1)) vs kk d).2) (o':=.dK (Qe kvs kk v) ep) (ns':=[(a,.dK (Qe kvs kk v) ep)]) ho hx mb (.oK z.1 z.2) (λp hp=>.inl (ar.mp hp)) Ix)
   ·C f2
  ·rename_i ks vs;split at e5
   ·rename_i xs;O⟨kk,f1,f2⟩:=aa.mp e5;split at f2
    ·rename_i hz;C f2;O⟨x',hx',sh⟩:=s5.at' i _ ho;K[hx]at hx';C hx';O⟨a,kvs,ep0,bs0,ea,en,kb,rfl,rr⟩:=Zeq sh;Q ea;V mb:(a,HO.dT kvs ep0 bs0)∈own4 i:=by K[en];E af
     V hH:=(s5.ok i _ mb).2.2;V z:=Nd (k:=kk) rd kvs vs rr;O⟨b,us,rfl,hbF,rb⟩:=rk'.tupF;K[Nf f1 rb]at hbF;R⟨a,rfl,Af.t ⟨_,_,hH⟩ (s5.le _ _ hbF) (by K[<-rr.length_map];E hz) λep ep1 bs1 hq=>?_⟩;K[hH]at hq;C hq;E k σ _ F5 _ sF (s5.change (sv':=.oT (Wv (kvs.map (·.1)) vs kk d).1 (Wv (kvs.map (·.1)) vs kk d).2) (o':=.dT (Qe kvs kk v) ep (Pn kvs bs0 kk b)) (ns':=[(a,.dT (Qe kvs kk v) ep (Pn kvs bs0 kk b))]) ho hx mb (.oT (kb.put hbF) z.1 z.2) (λp hp=>.inl (ar.mp hp)) Ix)
    ·C f2
   ·C e5
  ·rename_i q ks vs;O⟨kk,f1,f2⟩:=aa.mp e5;split at f2
   ·rename_i hz;C f2;O⟨x',hx',sh⟩:=s5.at' i _ ho;K[hx]at hx';C hx';O⟨kvs,ep0,ea,en,rfl,rr⟩:=Zep sh;Q ea;V mb:(q,HO.dK kvs ep0)∈own4 i:=by K[en];E af
    V hH:=(s5.ok i _ mb).2.2;V z:=Nd (k:=kk) rd kvs vs rr;R⟨q,rfl,?_⟩;K[Ar f1 rk'];R Af.k ⟨_,hH⟩ (by K[<-rr.length_map];E hz) λep=>?_;E k σ _ F5 _ sF (s5.change (sv':=.oQ q (Wv (kvs.map (·.1)) vs kk d).1 (Wv (kvs.map (·.1)) vs kk d).2) (o':=.dK (Qe kvs kk v) ep) (ns':=[(q,.dK (Qe kvs kk v) ep)]) ho hx mb (.oQ z.1 z.2) (λp hp=>.inl (ar.mp hp)) Ix)
   ·C f2
  ·C e5
 ·C e
НZ0b(T:String)(g:D->А D->Б SV)(fo:FE)(fd:FD):FE:=λδ=>(fo δ).bind λp=>(Iw p.1 p.2).bind λd0=>if Zmu T d0=aC then(fd p.2).bind λq=>(Iw p.1 q.2).bind λd1=>(g d1 q.1).bind λsv=>aA (.tmp sv,q.2)else aB
МZx1(Z:Ent K)(r:V->А V->Hp->VK->В)(g:D->А D->Б SV):Prop:=
 ∀(F H:Hp) (σ:L2.St) (δ:Yk) (own:Г->Zo) (x:V) (d:D) (vs:А V) (ds:А D) (sv:SV) (Q:VK),SR Z F H σ δ own->Yi K F H d x->Reps K F ds vs->g d ds=aA sv->Fin Z F H σ δ own sv Q->r x vs H Q
НZvv:D->А D->Б SV
 |d,[y]=>(Xj d y).bind λo=>aA (.fz (o.getD .non))
 |d,[y,z]=>(Xj d y).bind λo=>aA (.fz (o.getD z))
 |_,_=>aB
end
section
variable{X:Cx}{Z:Ent X.K}{a b c:cj}{fa fb fc:FE}{pos:Pos}
ЛDm:PE X (.Dict [] [] pos) (Ze Z Dl):=Ro.imp λ_ _ _ h=>Zik h
ЛDn(i:Г){x:Str}{px p1:Pos}(hu:X.A.units+1<f6)(hb:PE X b (Ze Z fb))(hv':PE X a (Ze Z fa))(hN:X.N[i]? =aA x:=by rfl)(hv:Vs X.env.scope x:=by first|E Or.inl rfl|E gg (Or.inl rfl)|E gg (gg rfl))(hd:(x==("__debug__":Str))=aD:=by decide)
  (hcd:(x==("__classdict__":Str))=aD:=by decide) (hs:swapsWith a (aA (.Subscript (.Name x px) b p1)) pos.line X.env=pure aD:=by rfl):
  PS X (.Assign [.Subscript (.Name x px) b p1] a pos) (Z5 Z (Ir i fb fa)):=(Db hu (Jy (i:=i) hN hv hd hcd) hb hv' hs).imp λ_ _ _ h=>Zq4 h
end
end DL
namespace L2
open PySem PySem.Spec PyProof.Rows
variable{X:Cx}
МDp:А V->Hp->VK->Prop:=λxs H Q=>∃a kvs,xs=[.ref a]/\RdK H a kvs/\∀p ep,H p=aB->Q (.ref p) (Z9 H p (.dK kvs ep))
ЛSg:Jo X (.type "dict") Dp:=by I pins s σ H xs us Q I rs h;O⟨a,kvs,rfl,e,q⟩:=h;O⟨u,rfl,ru⟩:=Oc rs;C ru;E Zdr I e λp ep s' hp I'=>⟨.ref p,_,I',rfl,q p ep hp⟩
end L2
namespace DL
open PySem PySem.Spec PyProof.Rows L2
variable{K:ad}
section
variable{Z:Ent K}{H:Hp}{σ:L2.St}{Q:VK}{E:Ends}
НDq:А D->Б SV
 | [.dK ks vs]=>aA (.oK ks vs)
 |_=>aB
ЛZer:Us Z Dp Dq:=by
 I F H σ δ own vs ds sv Q s r e k;U Dq at e;split at e
 ·C e;cases r with
  |cons h t=>C t;O⟨a,kvs,rfl,ha,ek,rr⟩:=h.dK s.le;E⟨a,kvs,rfl,ha.rd,λp ep hp=>k.one s (.oK ek rr) hp⟩
 ·C e
НZvw(k:Str)(i:Г):FE:=λδ=>match δ[i]? with
 |some (aA sv)=>aA (.tmp (.oK [.inr k] [sv.toD]),δ.set i (aA (.fz sv.toD)))
 |_=>aB
НZkv(ks:А Key)(vs:А D)(k:Key):А Key×А D:=(((ks.zip vs).filter λp=>decide (p.1≠k)).map (·.1),((ks.zip vs).filter λp=>decide (p.1≠k)).map (·.2))
НZ0c(i:Г)(fk:FE):FS:=λδ=>match δ[i]? with
 |some (aA (.oK _ _))=>(fk δ).bind λr=>(Iw r.1 r.2).bind λkd=>kd.key?.bind λk=>match r.2[i]? with
  |some (aA (.oK ks vs))=>if(look ks vs k).isSome=aC then aA (.nx (r.2.set i (aA (.oK (Zkv ks vs k).1 (Zkv ks vs k).2))))else aB
  |_=>aB
 |_=>aB
end
section
variable{X:Cx}{Z:Ent X.K}{a b c:cj}{fa fb fc:FE}{pos:Pos}
ЛZes{p:Pos}(hm:X.mg "dict"=aB)(ha:PE X a (Ze Z fa))(hg:Gl X "dict":=by rfl)(he:a9 [a] X.env=(aD,gq a X.env)::a9 [] X.env:=by rfl)(hpl:(gr pos (a9 [] X.env)).any (·.1)=aD:=by rfl):PE X (.Call (.Name "dict" p) [a] [] pos) (Ze Z (Yq Dq (Zc fa Zj))):=
 Rs Sg Zer hm boot_dict (Zk ha Ya he) hg Й Й he hpl
end
end DL
namespace L2
open PySem PySem.Spec PyProof.Rows
section
variable{prog:b6}{w:c7}{A:dh}{E:ah->am->В}{s:am}
ЛXm{Q:Int->am->В}(h:Q 0xFCA86420 {s with toks:=s.toks+1}):bg (b4 prog w) A (pyHash .none) Q E s:=by V hT:s.TypeIs .none "NoneType":=rfl;R PySem.W.pyHash_slot (v:=.none) (Q:=Q) hT F.slot_NoneType_hash F.entry_NoneType_hash (F.args_NoneType_hash_1 _) rfl (.inl rfl) ?_;T bg (b4 prog w) A.in1 (mkInt 0xFCA86420 >>=λv=>ret v) _ E s;R ac (wpAny_mkInt ?_);E ag ⟨_,_,rfl,h⟩
end
МZet:Б Key->ah->Bool
 |none,.none=>aC
 |none,_=>aD
 |some k,v=>Gn k v
ЛY3{k:Б Key}{v:ah}(h:Zet k v=aC):(k=aB/\v= .none)\/∃j,k=aA j/\Gn j v=aC:=by
 cases k with
 |none=>cases v<;> first|E .inl ⟨rfl,rfl⟩|C h
 |some j=>E .inr ⟨j,rfl,h⟩
ЛAs{j:Key}(h:Gn j .none=aC):False:=by J Z6 h with⟨i,t,_,e⟩|⟨x,t,_,e⟩<;> C e
МNg(prog:b6)(w:c7):PySem.KeyKind prog w (Б Key)where
 is:=Zet
 hash:=λ|none=>0xFCA86420|some k=>(Zr prog w).hash k
 inj:=λv a b ha hb=>by
  J Y3 ha with⟨rfl,rfl⟩|⟨i,rfl,hi⟩
  ·J Y3 hb with⟨rfl,_⟩|⟨j,rfl,hj⟩
   ·rfl
   ·E(As hj).elim
  ·J Y3 hb with⟨rfl,rfl⟩|⟨j,rfl,hj⟩
   ·E(As hi).elim
   ·K[(Zr prog w).inj v i j hi hj]
 byValue:=λk v h=>by
  J Y3 h with⟨rfl,rfl⟩|⟨i,rfl,hi⟩
  ·rfl
  ·E(Zr prog w).byValue i v hi
 pyHash:=fun{A E s k v Q} hv h=>by
  J Y3 hv with⟨rfl,rfl⟩|⟨i,rfl,hi⟩
  ·E Xm h
  ·E(Zr prog w).pyHash hi h
 eqBool:=fun{A E s a b u v Q} hu hv h=>by
  J Y3 hu with⟨rfl,rfl⟩|⟨i,rfl,hi⟩
  ·J Y3 hv with⟨rfl,rfl⟩|⟨j,rfl,hj⟩
   ·E SeqAt.EqAt.same _ _ _ _ _ (by L h)
   ·K[Ж (λz=>nomatch z)]at h;J Z6 hj with⟨i,t,rfl,rfl⟩|⟨x,t,rfl,rfl⟩
    ·E SeqAt.EqAt.none_int i t _ _ _ _ h
    ·E SeqAt.EqAt.none_str x t _ _ _ _ h
  ·J Y3 hv with⟨rfl,rfl⟩|⟨j,rfl,hj⟩
   ·K[Ж (λz=>nomatch z)]at h;J Z6 hi with⟨i,t,rfl,rfl⟩|⟨x,t,rfl,rfl⟩
    ·E SeqAt.EqAt.int_none i t _ _ _ _ h
    ·E SeqAt.EqAt.str_none x t _ _ _ _ h
   ·R(Zr prog w).eqBool hi hj ?_;V e:decide (aA i=aA j)=decide (i=j):=by simp
    K[<-e];E h
 «strs»:=λk x t v h=>by
  J Y3 h with⟨rfl,e⟩|⟨i,rfl,hi⟩
  ·C e
  ·E(Zr prog w).strs i x t v hi
variable{X:Cx}
ЛDr{P:b6}{w:c7}{h:d6}{a:aj}{vs:А (Key×ah)}(d:h.DictOf (Zr P w) a vs):h.MapOf (Ng P w) a (λ|none=>aB|some k=>valueAt vs k):=by
 O⟨o,es,ep,ho,hc,hd,hk,hf⟩:=d.mapOf;R⟨o,es,ep,ho,hc,hd,λe he=>?_,λk=>?_⟩
 ·O⟨k,h1,h2⟩:=hk e he;E⟨aA k,h1,h2⟩
 ·cases k with
  |some k=>E hf k
  |none=>
   show(es.find? λe=>Zet aB e.key).map (·.val)=aB;K[Array.find?_eq_none.mpr λe he z=>?_]
   ·rfl
   ·O⟨k,h1,_⟩:=hk e he;J Y3 z with⟨_,e2⟩|⟨j,e2,_⟩
    ·K[e2]at h1;E As h1
    ·C e2
МMp(neg:Bool):R2:=λy x H Q=>∃a kvs,y= .non/\x= .ref a/\RdK H a kvs/\Q (.bl neg) H
ЛZby:Cf X (g9 .In) (Mp aD):=by I pins s σ H y x v u Q I ry rx h;O⟨a,kvs,rfl,rfl,e,q⟩:=h;C ry;C rx;O⟨z,hd,vs,rel,dd⟩:=Tc I.hok e;E wpAny_in_of (knd:=Ng X.prog X.w) (k:=aB) rfl hd (Dr dd) ⟨.bl aD,H,I.tok _,rfl,q⟩
ЛNh:Cf X (g9 .NotIn) (Mp aC):=by I pins s σ H y x v u Q I ry rx h;O⟨a,kvs,rfl,rfl,e,q⟩:=h;C ry;C rx;O⟨z,hd,vs,rel,dd⟩:=Tc I.hok e;E wpAny_notIn_of (knd:=Ng X.prog X.w) (k:=aB) rfl hd (Dr dd) ⟨.bl aC,H,I.tok _,rfl,q⟩
end L2
namespace L2
open PySem PySem.Spec PyProof.Rows
МZm4(es:Array DictEntry)(kvs:А (Str×ah)):Prop:=es.size=kvs.length/\∀(i:Г) (p:Str×ah),kvs[i]? =aA p->∃e t,es[i]? =aA e/\e.key= .str p.1 t/\e.val=p.2
МZx2(h:d6)(a:aj)(kvs:А (Str×ah)):Prop:=∃o es ep,h.get? a=aA o/\o.ExactDict/\o.data= .dict es ep/\Zm4 es kvs
Мplace(kvs:А (Str×ah))(x:Str):Б Nat:=kvs.findIdx? λp=>decide (p.1=x)
inductive SHits(A:dh)(s:am)(kb:А (Str×ah)):А (Str×ah)->Bool->В where
 |nil:SHits A s kb [] aC
 |miss {k:Str} {v:ah} {r:А (Str×ah)}:place kb k=aB->SHits A s kb ((k,v)::r) aD
 |hit {k:Str} {v:ah} {r:А (Str×ah)} {j:Г} {p:Str×ah} {e b:Bool}:place kb k=aA j->kb[j]? =aA p->SeqAt.EqAt A s v p.2 e->SHits A s kb r b->SHits A s kb ((k,v)::r) (e&&b)
end L2
namespace DL
open PySem PySem.Spec PyProof.Rows L2
variable{K:ad}
НstrK?:А Key->Б (А Str)
 | []=>aA []
 | .inr x::r=>(strK? r).bind λt=>aA (x::t)
 |_=>aB
НZq5(f:D->D->Б Bool)(ys:А Str)(us:А D):А Str->А D->Б Bool
 |x::xs,v::vs=>match look ys us x with
  |none=>aA aD
  |some u=>(f v u).bind λb=>(Zq5 f ys us xs vs).bind λc=>aA (b&&c)
 |_,_=>aA aC
НZim(f:D->D->Б Bool):D->D->Б Bool
 | .dK ks vs,.dK ks' vs'=>(strK? ks).bind λxs=>(strK? ks').bind λys=>if xs.length=ys.length then Zq5 f ys vs' xs vs else aA aD
 |d1,d2=>G3 f d1 d2
НeqM:Г->D->D->Б Bool
 |0=>λ_ _=>aB
 |n+1=>Zim (eqM n)
end DL
namespace DL
open PySem PySem.Spec PyProof.Rows L2
variable{K:ad}
section
variable{X:Cx}{pins:А (aj×Obj)}{σ:L2.St}{F H:Hp}{s:am}
МZ0d(K:ad)(neg:Bool):R2:=λx y H Q=>∃F d1 d2 b,Zi F H/\Yi K F H d1 x/\Yi K F H d2 y/\eqM 48 d1 d2=aA b/\(Y2 x=aD\/Y2 y=aD)/\Q (.bl (if neg then !b else b)) H
end
end DL
namespace DL
open PySem PySem.Spec PyProof.Rows L2
variable{K:ad}
НeqY(d1 d2:D):Б SV:=if d1.isFlat=aC/\d2.isFlat=aC then eqD d1 d2 else(eqM 48 d1 d2).bind λb=>aA (.fz (.bl b))
НneY(d1 d2:D):Б SV:=if d1.isFlat=aC/\d2.isFlat=aC then neD d1 d2 else(eqM 48 d1 d2).bind λb=>aA (.fz (.bl !b))
НinY(d1 d2:D):Б SV:=match d1,d2 with
 | .non,.dK _ _=>aA (.fz (.bl aD))
 |_,_=>inX d1 d2
НXn(d1 d2:D):Б SV:=match d1,d2 with
 | .non,.dK _ _=>aA (.fz (.bl aC))
 |_,_=>Xl d1 d2
section
variable{Z:Ent K}
ЛZq6:Y7 Z (λx y H Q=>((∃i j,x= .str i/\y= .str j/\Q (.bl (!(dj j i 0 j.length 1).isEmpty)) H)\/Zek x y H Q)\/Mp aD x y H Q) inY:=by
 I F H σ δ own x y d1 d2 sv Q s r1 r2 e k;U inY at e;split at e
 ·C e;O⟨a,kvs,rfl,ha,_,_⟩:=r2.dK s.le;E .inr ⟨a,kvs,r1.non,rfl,ha.rd,k.fz s (.bl _)⟩
 ·E .inl (Zq2 F H σ δ own x y d1 d2 sv Q s r1 r2 e k)
ЛZeu:Y7 Z (λx y H Q=>((∃i j,x= .str i/\y= .str j/\Q (.bl (!(!(dj j i 0 j.length 1).isEmpty))) H)\/Ru x y H Q)\/Mp aC x y H Q) Xn:=by
 I F H σ δ own x y d1 d2 sv Q s r1 r2 e k;U Xn at e;split at e
 ·C e;O⟨a,kvs,rfl,ha,_,_⟩:=r2.dK s.le;E .inr ⟨a,kvs,r1.non,rfl,ha.rd,k.fz s (.bl _)⟩
 ·E .inl (Zen F H σ δ own x y d1 d2 sv Q s r1 r2 e k)
end
end DL
namespace DL
open PySem PySem.Spec PyProof.Rows L2
variable{K:ad}
ЛSR.changeT{Z:Ent K}{F H:Hp}{σ:L2.St}{δ:Yk}{own:Г->Zo}{i:Г}{sv sv' svT:SV}{a:aj}{o o':HO}{v vT:V}{ns' nsT:Zo}(s:SR Z F H σ δ own)(t:TmpOk Z F H own svT vT nsT)(e:δ[i]? =aA (aA sv))(hv:σ[i]? =aA (aA v))
  (ha:(a,o)∈own i) (hs:Shape K F sv' v ns') (hns:∀p∈ns',p=(a,o')\/(p∈own i/\p.1≠a)\/p∈nsT) (nd:(Bf ns').Nodup):SR Z F (Z9 H a o') σ (δ.set i (aA sv')) (put own i ns'):=by
 O⟨fa,ha0,hHa⟩:=s.ok i (a,o) ha;V hi:i<δ.length:=(a8.mp e).1;R⟨λb u eb=>?_,s.fro,λb u eb=>?_,by K[List.length_set];E s.len,λj sw ej=>?_,λj=>?_,λj p hp=>?_,λj k p q hjk hp hq=>?_⟩
 ·K[Zw λz=>by K[z]at eb;K[fa]at eb;cases eb];E s.le b u eb
 ·K[Zw λz=>by K[z]at eb;K[ha0]at eb;cases eb];E s.old b u eb
 ·B hj:j=i
  ·Q hj;K[d5 hi]at ej;C ej;K[Yh];E⟨v,hv,hs⟩
  ·K[fj (Ne.symm hj)]at ej;K[Yw hj];E s.at' j sw ej
 ·B hj:j=i
  ·Q hj;K[Yh];E nd
  ·K[Yw hj];E s.nod j
 ·B hj:j=i
  ·Q hj;K[Yh]at hp;J hns p hp with z|⟨z,ne⟩|z
   ·Q z;E⟨fa,ha0,Z3⟩
   ·O⟨x,y,w⟩:=s.ok j p z;E⟨x,y,by K[Zw ne];E w⟩
   ·O⟨x,y,w⟩:=t.ok p z;E⟨x,y,by K[Zw (t.sep j p (a,o) z ha)];E w⟩
  ·K[Yw hj]at hp;O⟨x,y,w⟩:=s.ok j p hp;E⟨x,y,by K[Zw (s.sep j i p (a,o) hj hp ha)];E w⟩
 ·V far:∀(l:Г) (r q:aj×HO),l≠i->r∈ns'->q∈own l->r.1≠q.1:=λl r q hl hr hq=>by
   J hns r hr with z|⟨z,_⟩|z
   ·Q z;E s.sep i l (a,o) q (Ne.symm hl) ha hq
   ·E s.sep i l r q (Ne.symm hl) z hq
   ·E t.sep l r q z hq
  B hj:j=i
  ·Q hj;K[Yh]at hp;K[Yw (Ne.symm hjk)]at hq;E far k p q (Ne.symm hjk) hp hq
  ·B hk:k=i
   ·Q hk;K[Yh]at hq;K[Yw hj]at hp;E λz=>far j q p hj hq hp z.symm
   ·K[Yw hj]at hp;K[Yw hk]at hq;E s.sep j k p q hjk hp hq
ЛKids.snoc{F:Hp}:∀{xss:А (А D)} {ws:А V} {ns:Zo} {xs:А D} {b:aj} {vs:А V},Kids K F xss ws ns->Reps K F xs vs->Kids K F (xss++[xs]) (ws++[.ref b]) (ns++[(b,.lst vs)])
 |_,_,_,_,_,_,.nil,r=>.cons r .nil
 |_,_,_,_,_,_,.cons h t,r=>.cons h (t.snoc r)
section
variable{Z:Ent K}{H:Hp}{σ:L2.St}{Q:VK}{E:Ends}
НZx3:FE:=λδ=>aA (.tmp (.oN [] []),δ)
НZx4(i j:Г):FS:=λδ=>match δ[i]?,δ[j]? with
 |some (aA (.oN ks xss)),aA (aA (.fz kd))=>kd.key?.bind λk=>if(ks.any λx=>decide (x=k))=aD/\xss.length<bd then aA (.nx (δ.set i (aA (.oN (ks++[k]) (xss++[[]])))))else aB
 |_,_=>aB
ЛKids.length{F:Hp}:∀{xss:А (А D)} {ws:А V} {ns:Zo},Kids K F xss ws ns->xss.length=ws.length
 |_,_,_,.nil=>rfl
 |_,_,_,.cons _ t=>by K[bf,bf,t.length]
end
ЛKids.ref{F:Hp}:∀{xss:А (А D)} {ws:А V} {ns:Zo} {p:Г} {v:V},Kids K F xss ws ns->ws[p]? =aA v->∃b,v= .ref b
 |_,_,_,_,_,.nil,e=>by simp at e
 |_,_,_,0,_,.cons _ _,e=>by simp at e;E⟨_,e.symm⟩
 |_,_,_,p+1,_,.cons _ t,e=>t.ref (p:=p) (by L e)
НZev:А Key->Key->Б Г
 | [],_=>aB
 |a::r,k=>if a=k then aA 0 else(Zev r k).map (· +1)
section
variable{Z:Ent K}{H:Hp}{σ:L2.St}{Q:VK}{E:Ends}
НZx5(i j:Г)(fe:FE):FS:=λδ=>match δ[i]?,δ[j]? with
 |some (aA (.oN ks _)),aA (aA (.fz kd))=>kd.key?.bind λk=>(Zev ks k).bind λp=>(fe δ).bind λq=>(frz q.1 q.2).bind λr=>match r.2[i]? with
  |some (aA (.oN ks' xss))=>if ks'=ks then(xss[p]?).bind λxs=>if xs.length<bd then aA (.nx (r.2.set i (aA (.oN ks (xss.set p (xs++[r.1]))))))else aB else aB
  |_=>aB
 |_,_=>aB
end
end DL
namespace DL
open PySem PySem.Spec PyProof.Rows L2
variable{K:ad}
section
variable{Z:Ent K}{H:Hp}{σ:L2.St}{E:Ends}
НZin(fe:FE):FS:=λδ=>(fe δ).bind λp=>(frz p.1 p.2).bind λq=>aA (.rt (.fz q.1))
ЛZm5{fe:FE}(h:Z5 Z (Zin fe) E σ H):Zl1 (Ze Z fe) E σ H:=by O⟨F,δ,own,fl,s,e,k⟩:=h;O⟨⟨rv,δ1⟩,e1,e2⟩:=aa.mp e;O⟨⟨d,δ2⟩,e3,e4⟩:=aa.mp e2;C e4;R⟨F,δ,own,rv,δ1,s,e1,λv H1 F1 own1 sH sF s1 r1=>?_⟩;O⟨F2,sF2,s2,r2⟩:=s1.settleR r1;O⟨F3,own3,sF3,s3,r3⟩:=s2.frzR r2 e3;E k v H1 F3 [] (sF.trans (sF2.trans sF3)) s3.le s3.fro s3.old (.fz r3) df λ_ h=>(nomatch h)
end
section
variable{X:Cx}{Z:Ent X.K}{a b c:cj}{fa fb fc:FE}{pos:Pos}
ЛZew(h:PE X a (Ze Z fa)):PS X (.Return (aA a) pos) (Z5 Z (Zin fa)):=(Zc1 h).imp λ_ _ _ h=>Zm5 h
end
end DL
namespace L2
open PySem PySem.Spec PyProof.Rows
variable{X:Cx}
МZtf(K:ad):V->А V->Hp->VK->Prop:=λx xs H Q=>∃p ys y j,x= .ref p/\xs=[y]/\W5 K H p ys/\Y2 y=aC/\ys.all Y2=aC/\(ys.findIdx? λz=>Pu z y)=aA j/\Q (.int (j:Г)) H
МZtg:V->А V->Hp->VK->Prop:=λx xs H Q=>∃a b i rest,x= .str a/\xs=[.str b]/\dj a b 0 a.length 1=i::rest/\Q (.int (i:Г)) H
МZth:V->А V->Hp->VK->Prop:=λx xs H Q=>∃a b,x= .str a/\xs=[.str b]/\a.length<=sizeLine/\Q (.str (Txt.rstripChars a b)) H
МZkw:R2:=λx y H Q=>∃a k,x= .str a/\y= .int k/\MulOk a k/\Q (.str (Txt.mul a k)) H
ЛZio:Cf X (binaryOp .Mult) Zkw:=by I pins s σ H x y v u Q I rx ry h;O⟨a,k,rfl,rfl,hm,q⟩:=h;O⟨t,rfl⟩:=rx;O⟨t',rfl⟩:=ry;E SB.mul hm λt' k=>⟨.str _,H,I.tok _,⟨_,rfl⟩,q⟩
end L2
namespace DL
open PySem PySem.Spec PyProof.Rows L2
variable{K:ad}
НD.fv:D->V
 | .bl b=>.bl b
 | .int i=>.int i
 | .str x=>.str x
 |_=>.non
ЛZex{F H:Hp}{d:D}{x:V}(r:Yi K F H d x)(h:d.isFlat=aC):x=d.fv/\Y2 x=aC:=by
 cases d with
 |non=>K[r.non];E⟨rfl,rfl⟩
 |bl b=>K[r.bl];E⟨rfl,rfl⟩
 |int i=>K[r.int];E⟨rfl,rfl⟩
 |str y=>K[r.str];E⟨rfl,rfl⟩
 |_=>C h
ЛXo{F:Hp}:∀{ds:А D} {vs:А V},Reps K F ds vs->ds.all D.isFlat=aC->vs=ds.map D.fv/\vs.all Y2=aC
 |_,_,.nil,_=>⟨rfl,rfl⟩
 |_,_,.cons h t,e=>by K[List.all_cons,Bool.and_eq_true]at e;O⟨a1,a2⟩:=Zex (H:=F) (Yi.of h) e.1;O⟨b1,b2⟩:=Xo t e.2;R⟨by K[bc,<-a1,<-b1],by K[List.all_cons,a2,b2];rfl⟩
МXp(y x:D):Bool:=Pu y.fv x.fv
@[simp] theorem Zq7(a b:Str):Xp (.str a) (.str b)=decide (a=b):=by
 show(a==b)=decide (a=b);B h:a=b
 ·Q h;simp
 ·K[Ж h];E beq_eq_false_iff_ne.mpr h
@[simp] theorem Zti(a b:Bool):Xp (.bl a) (.bl b)=decide (a=b):=by cases a<;> cases b<;> rfl
@[simp] theorem Zq8:Xp .non .non=true:=rfl
@[simp] theorem Ztj(a:Str):Xp (.str a) .non=false:=rfl
МZbz(x:D)(xs:А D):Bool:=xs.any λy=>Xp y x
ЛDs{d:D}{ds:А D}:inV d.fv (ds.map D.fv)=Zbz d ds:=by U inV Zbz;K[List.any_map];rfl
МD.seq?:D->Б (А D)
 | .lst xs=>aA xs
 | .tup xs=>aA xs
 |_=>aB
@[simp] theorem Ztk(xs:А D):D.seq? (.lst xs)=some xs:=rfl
@[simp] theorem Ztl(xs:А D):D.seq? (.tup xs)=some xs:=rfl
@[simp] theorem Ztm(x:Str):D.seq? (.str x)=none:=rfl
@[simp] theorem Zvy(ks:А Key)(vs:А D):D.seq? (.dK ks vs)=none:=rfl
@[simp] theorem Zvz(ks:А (А Key))(vs:А D):D.seq? (.dT ks vs)=none:=rfl
НinZ(d1 d2:D):Б SV:=match d2.seq? with
 |some xs=>if d1.isFlat=aC/\xs.all D.isFlat=aC then aA (.fz (.bl (Zbz d1 xs)))else aB
 |none=>inY d1 d2
НAu(d1 d2:D):Б SV:=match d2.seq? with
 |some xs=>if d1.isFlat=aC/\xs.all D.isFlat=aC then aA (.fz (.bl (!Zbz d1 xs)))else aB
 |none=>Xn d1 d2
section
variable{Z:Ent K}{H:Hp}{σ:L2.St}{Q:VK}{E:Ends}
ЛZey{F:Hp}{d:D}{x:V}{xs:А D}(le:Zi F H)(r:Yi K F H d x)(h:d.seq? =aA xs):∃a vs,x= .ref a/\(W5 K H a vs\/Ob K H a vs)/\Reps K F xs vs:=by
 cases d with
 |lst ys=>C h;O⟨a,vs,e,q,rr⟩:=r.lst le;E⟨a,vs,e,.inl q,rr⟩
 |tup ys=>C h;O⟨a,vs,e,q,rr⟩:=r.tup le;E⟨a,vs,e,.inr q,rr⟩
 |_=>C h
ЛZq9:Y7 Z (λx y H Q=>(((∃i j,x= .str i/\y= .str j/\Q (.bl (!(dj j i 0 j.length 1).isEmpty)) H)\/Zek x y H Q)\/Mp aD x y H Q)\/rIn K aD x y H Q) inZ:=by
 I F H σ δ own x y d1 d2 sv Q s r1 r2 e k;U inZ at e;split at e
 ·rename_i xs hx;split at e
  ·rename_i hf;C e;O⟨a,vs,rfl,hq,rr⟩:=Zey s.le r2 hx;O⟨e1,f1⟩:=Zex r1 hf.1;O⟨e2,f2⟩:=Xo rr hf.2;R .inr ⟨a,vs,rfl,hq,f1,f2,?_⟩;K[e1,e2,Ds];E k.fz s (.bl _)
  ·C e
 ·E .inl (Zq6 F H σ δ own x y d1 d2 sv Q s r1 r2 e k)
ЛZez:Y7 Z (λx y H Q=>(((∃i j,x= .str i/\y= .str j/\Q (.bl (!(!(dj j i 0 j.length 1).isEmpty))) H)\/Ru x y H Q)\/Mp aC x y H Q)\/rIn K aC x y H Q) Au:=by
 I F H σ δ own x y d1 d2 sv Q s r1 r2 e k;U Au at e;split at e
 ·rename_i xs hx;split at e
  ·rename_i hf;C e;O⟨a,vs,rfl,hq,rr⟩:=Zey s.le r2 hx;O⟨e1,f1⟩:=Zex r1 hf.1;O⟨e2,f2⟩:=Xo rr hf.2;R .inr ⟨a,vs,rfl,hq,f1,f2,?_⟩;K[e1,e2,Ds];E k.fz s (.bl _)
  ·C e
 ·E .inl (Zeu F H σ δ own x y d1 d2 sv Q s r1 r2 e k)
НZv0:А D->Б SV
 | [.lst xs,x]=>if x.isFlat=aC/\xs.all D.isFlat=aC then(xs.findIdx? λy=>Xp y x).bind λj=>aA (.fz (.int (j:Г)))else aB
 |_=>aB
НZto:А D->Б SV
 | [.str a,.str b]=>match dj a b 0 a.length 1 with
  |i::_=>aA (.fz (.int (i:Г)))
  | []=>aB
 |_=>aB
НZtp:А D->Б SV
 | [.str a,.str b]=>if a.length<=bd then aA (.fz (.str (Txt.rstripChars a b)))else aB
 |_=>aB
open Classical in
МZip(a:Str)(k:Int):Б SV:=if MulOk a k then aA (.fz (.str (Txt.mul a k)))else aB
ЛZiq{a:Str}{k:Int}{sv:SV}(h:Zip a k=aA sv):MulOk a k/\sv= .fz (.str (Txt.mul a k)):=by
 U Zip at h;split at h
 ·rename_i hm;C h;E⟨hm,rfl⟩
 ·C h
МDt(i j:Int):Prop:=Zd4 i j=aC
open Classical in
МSi(i j:Int):Б SV:=if Dt i j then aA (.fz (.int (i*j)))else aB
ЛZir{i j:Int}{sv:SV}(h:Si i j=aA sv):Zqf (.int i) (.int j)=aA sv:=by
 U Si at h;split at h
 ·rename_i hc;C h;U Dt at hc;simp[hc]
 ·C h
ЛXq{i j:Int}(h:-(2^64)<j/\j<2^64):Si i j=aA (.fz (.int (i*j))):=by U Si;K[Е];U Dt Zd4;K[decide_eq_true h.1,decide_eq_true h.2];simp
ЛXr{i j:Int}(h:-(2^64)<i/\i<2^64):Si i j=aA (.fz (.int (i*j))):=by U Si;K[Е];U Dt Zd4;K[decide_eq_true h.1,decide_eq_true h.2];simp
МAv:D->D->Б SV
 | .str a,.int k=>Zip a k
 | .int i,.int j=>Si i j
 |_,_=>aB
@[simp] theorem Ztq(a:Str)(k:Int):Av (.str a) (.int k)=Zip a k:=rfl
@[simp] theorem Ztr(i j:Int):Av (.int i) (.int j)=Si i j:=rfl
ЛZm6:Y7 Z (λx y H Q=>rI Zc9 (λi j=>V.int (i*j)) x y H Q\/Zkw x y H Q) Av:=by
 I F H σ δ own x y d1 d2 sv Q s r1 r2 e k;U Av at e;split at e
 ·O⟨hm,rfl⟩:=Ziq e;E .inr ⟨_,_,r1.str,r2.int,hm,k.fz s (.str _)⟩
 ·E .inl (Zqi F H σ δ own x y _ _ sv Q s r1 r2 (Zir e) k)
 ·C e
НZb0:А D->Б SV
 | [.int i]=>if i.natAbs.log2<1920 then aA (.fz (.str (toString i)))else aB
 |_=>aB
ЛZm7:Us Z (λxs H Q=>∃i:Int,xs=[.int i]/\i.natAbs.log2<1920/\Q (.str (toString i)) H) Zb0:=by
 I F H σ δ own vs ds sv Q s r e k;U Zb0 at e;split at e
 ·split at e
  ·rename_i hm;C e;cases r with
   |cons h1 t=>C t;E⟨_,by K[h1.int],hm,k.fz s (.str _)⟩
  ·C e
 ·C e
НZkx(kd d:D):Б (Б SV)->Б SV
 |some (aA (.ol xs))=>match kd with
  | .int i=>(ixN xs.length i).bind λj=>aA (.ol (xs.set j d))
  |_=>aB
 |_=>aB
НSV.isOL:Б (Б SV)->Bool
 |some (aA (.ol _))=>aC
 |_=>aD
ЛZis{o:Б (Б SV)}(h:SV.isOL o=aC):∃xs,o=aA (aA (.ol xs)):=by
 U SV.isOL at h;split at h
 ·E⟨_,rfl⟩
 ·C h
НDu(i:Г)(fk fv:FE):FS:=λδ=>(fv δ).bind λp=>(frz p.1 p.2).bind λq=>if SV.isOL (q.2[i]?)=aC then(fk q.2).bind λr=>(Iw r.1 r.2).bind λkd=>(Zkx kd q.1 (r.2[i]?)).bind λsv=>aA (.nx (r.2.set i (aA sv)))else aB
ЛReps.set{F:Hp}{d:D}{v:V}(h:Rep K F d v):∀{ds:А D} {vs:А V} (j:Г),Reps K F ds vs->Reps K F (ds.set j d) (vs.set j v)
 |_,_,_,.nil=>.nil
 |_,_,0,.cons _ t=>.cons h t
 |_,_,j+1,.cons g t=>.cons g (Reps.set h j t)
ЛZm8{i:Г}{fk fv:FE}(h:Z5 Z (Du i fk fv) E σ H):Vx (Ze Z fv) (Zo8 (Bg i) (Ze Z fk) Zkb) E σ H:=by
 O⟨F,δ,own,fl,s,e,k⟩:=h;O⟨⟨rv,δ1⟩,e1,e⟩:=aa.mp e;O⟨⟨d,δ2⟩,e2,e⟩:=aa.mp e;dsimp only at e;split at e
 ·rename_i hol;O⟨⟨rk,δ3⟩,e3,e⟩:=aa.mp e;O⟨kd,e4,e⟩:=aa.mp e;O⟨sv,e5,e⟩:=aa.mp e;C e;R⟨F,δ,own,rv,δ1,s,e1,λv H1 F1 own1 sH1 sF1 s1 r1=>?_⟩;O⟨F2,sF2,s2,r2⟩:=s1.settleR r1;O⟨F3,own3,sF3,s3,r3⟩:=s2.frzR r2 e2;O⟨xs0,hxs0⟩:=Zis hol;O⟨x,hx,_⟩:=s3.at' i _ hxs0;R⟨x,hx,F3,δ2,own3,rk,δ3,s3,e3,λy H4 F4 own4 sH4 sF4 s4 r4=>?_⟩;O⟨F5,sF5,s5,r5⟩:=s4.settleR r4;V rk':=s5.rd r5 e4;V rd:Rep K F5 d v:=r3.mono (sF4.trans sF5);V sF:Zi F F5:=sF1.trans (sF2.trans (sF3.trans (sF4.trans sF5)));dsimp only at e5;generalize ho:δ3[i]? =o at e5;U Zkx at e5;split at e5
  ·rename_i xs;split at e5
   ·rename_i n;O⟨j,f1,f2⟩:=aa.mp e5;C f2;O⟨x',hx',sh⟩:=s5.at' i _ ho;K[hx]at hx';C hx';O⟨a,vs,ea,en,rr⟩:=Jr sh;Q ea;V mb:(a,HO.lst vs)∈own4 i:=by K[en];E af
    V hH:=(s5.ok i _ mb).2.2;R⟨a,vs,n,j,rfl,rk'.int,hH,by K[<-rr.length];E f1,?_⟩;E k σ _ F5 _ sF (s5.change (sv':=.ol (xs.set j d)) (o':=.lst (vs.set j v)) (ns':=[(a,.lst (vs.set j v))]) ho hx mb (.ol (Reps.set rd j rr)) (λp hp=>.inl (ar.mp hp)) Ix)
   ·C e5
  ·C e5
 ·C e
НSV.ol?:RV->Б (А D)
 | .tmp (.ol ys)=>aA ys
 |_=>aB
НZv1(i:Г)(fe:FE):FS:=λδ=>match δ[i]? with
 |some (aA (.ol _))=>(fe δ).bind λp=>(SV.ol? p.1).bind λys=>match p.2[i]? with
  |some (aA (.ol xs))=>if xs.length+ys.length<=bd then aA (.nx (p.2.set i (aA (.ol (xs++ys)))))else aB
  |_=>aB
 |_=>aB
end
section
variable{X:Cx}{Z:Ent X.K}{a b c:cj}{fa fb fc:FE}{pos:Pos}
ЛZra(hu:X.A.units+1<f6)(ha:PE X a (Ze Z fa))(hb:PE X b (Ze Z fb))(hm:behindInMarks .In b=aD:=by rfl):PE X (.Compare a [.In] [b] pos) (Ze Z (Zm inZ fa fb)):=Zkq (((Zbe.or (Xi hu)).or Zby).or Zbj) Zq9 ha hb hm
ЛSj(hu:X.A.units+1<f6)(ha:PE X a (Ze Z fa))(hb:PE X b (Ze Z fb))(hm:behindInMarks .NotIn b=aD:=by rfl):PT X (.Compare a [.NotIn] [b] pos) (Yl Z (Ys (Zm Au fa fb))):=Kb (((Ls.or (I8 hu)).or Nh).or Lr) Zez ha hb hm
ЛMq(ha:PE X a (Ze Z fa))(hb:PE X b (Ze Z fb)):PE X (.BinOp a .Mult b pos) (Ze Z (Zm Av fa fb)):=Df (Zl7.or Zio) Zm6 ha hb
ЛZm9{p:Pos}(hm:X.mg "str"=aB)(ha:PE X a (Ze Z fa))(hg:Gl X "str":=by rfl)(he:a9 [a] X.env=(aD,gq a X.env)::a9 [] X.env:=by rfl)(hpl:(gr pos (a9 [] X.env)).any (·.1)=aD:=by rfl):PE X (.Call (.Name "str" p) [a] [] pos) (Ze Z (Yq Zb0 (Zc fa Zj))):=
 Rs Lm Zm7 hm boot_str (Zk ha Ya he) hg Й Й he hpl
ЛZna(i:Г){x:Str}{px p1:Pos}(hb:PE X b (Ze Z fb))(hv':PE X a (Ze Z fa))(hN:X.N[i]? =aA x:=by rfl)(hv:Vs X.env.scope x:=by first|E Or.inl rfl|E gg (Or.inl rfl)|E gg (gg rfl))(hd:(x==("__debug__":Str))=aD:=by decide)
  (hcd:(x==("__classdict__":Str))=aD:=by decide) (hs:swapsWithSole [.Subscript (.Name x px) b p1] a pos.line X.env=pure aD:=by rfl) (hw:swappedStores [.Subscript (.Name x px) b p1] a X.env=pure aB:=by rfl)
  (h1:(assignEach [.Subscript (.Name x px) b p1] X.env).map (·.2)=[assign (.Subscript (.Name x px) b p1) X.env]:=by rfl)
  (ha:∀v,assign (.Subscript (.Name x px) b p1) X.env v=(do
   let ov<-holding [v] (gq (.Name x px) X.env);let iv<-holding [v,ov] (gq b X.env)
   standAt p1
   holding [v,ov,iv] (setItem ov iv v)
   release [v,ov,iv] []):=by I _;rfl):
  PS X (.Assign [.Subscript (.Name x px) b p1] a pos) (Z5 Z (Du i fb fa)):=(Zc4 hv' (Zl3 (Jy (i:=i) hN hv hd hcd) hb Zdh ha) hs hw h1).imp λ_ _ _ h=>Zm8 h
end
end DL
namespace DL
open PySem PySem.Spec PyProof.Rows L2
end DL
namespace DL
open PySem PySem.Spec PyProof.Rows L2
variable{K:ad}
section
variable{Z:Ent K}{H:Hp}{σ:L2.St}{Q:Bool->Hp->В}
НDv(f:FT):FT:=λδ=>(f δ).bind λp=>aA (p.1,δ)
ЛZit{f:FT}(h:Yl Z (Dv f) σ H Q):Yl Z f σ H Q:=by O⟨F,δ,own,b,δ',s,e,k⟩:=h;O⟨⟨b1,δ1⟩,e1,e2⟩:=aa.mp e;C e2;E⟨F,δ,own,b1,δ1,s,e1,λH' F' own' sH sF s'=>k H' F own sH (Zi.refl F) (s.grow sH)⟩
end
section
variable{X:Cx}{Z:Ent X.K}{a:cj}{ft:FT}
ЛZe0(ha:PT X a (Yl Z ft)):PT X a (Yl Z (Dv ft)):=ha.imp λ_ _ _ h=>Zit h
end
end DL
namespace DL
open PySem PySem.Spec PyProof.Rows L2
variable{K:ad}
МZrb(n:Г)(k:Int):Prop:=-(2^63)<=k/\k<2^63/\n*k.toNat<=bd
section
variable{Z:Ent K}{H:Hp}{σ:L2.St}{Q:VK}
open Classical in
МZnb(xs:А D):D->Б SV
 | .int k=>if Zrb xs.length k then aA (.ol (dn k.toNat xs).flatten)else aB
 |_=>aB
@[simp] theorem Zrc{xs:А D}{k:Int}(h:Zrb xs.length k):Znb xs (.int k)=some (.ol (dn k.toNat xs).flatten):=by U Znb;dsimp only;K[Е h]
НZ0e(fa fb:FE):FE:=λδ=>(fa δ).bind λp=>(SV.ol? p.1).bind λxs=>(fb p.2).bind λq=>(Iw q.1 q.2).bind λd=>(Znb xs d).bind λsv=>aA (.tmp sv,q.2)
end
end DL
namespace DL
open PySem PySem.Spec PyProof.Rows L2
variable{K:ad}
section
variable{Z:Ent K}
НslT:D->Б Int->Б Int->Б SV
 | .tup xs,lo,hi=>if¬(HT.sIx xs.length 0 lo=0/\HT.sIx xs.length xs.length hi=xs.length)then aA (.fz (.tup (L5 xs lo hi)))else aB
 |_,_,_=>aB
end
end DL
namespace DL
open PySem L2
variable{K:ad}
inductive RX where
 |v (rv:RV) (δ:Yk)|x (e:Exn) (δ:Yk)
inductive RL(α:Type)where
 |v (xs:А α) (δ:Yk)|x (e:Exn) (δ:Yk)
аFX:=Yk->Б RX
аFAX:=Yk->Б (RL RV)
аFDX:=Yk->Б (RL D)
МXOk(Z:Ent K)(F:Hp)(σ:St)(e:Exn)(δ:Yk):Prop:=∀H' F' own' cls od,Zi F F'->SR Z F' H' σ δ own'->Lz K F' e cls od->Z.x cls od σ H'
МZre(Z:Ent K)(f:FX):TE:=λσ H Q=>∃F δ own r,SR Z F H σ δ own/\f δ=aA r/\match r with
 | .v rv δ'=>∀v H' F' own',Zi H H'->Zi F F'->SR Z F' H' σ δ' own'->P3 Z F' H' σ own' rv v->Q v H'
 | .x e δ'=>XOk Z F σ e δ'
МZv3(Z:Ent K)(f:FAX):TA:=λσ H Q=>∃F δ own r,SR Z F H σ δ own/\f δ=aA r/\match r with
 | .v rvs δ'=>∀vs H' F' own',Zi H H'->Zi F F'->SR Z F' H' σ δ' own'->RVSs K F' σ rvs vs->Q vs H'
 | .x e δ'=>XOk Z F σ e δ'
МZv4(Z:Ent K)(f:FDX):TA:=λσ H Q=>∃F δ own r,SR Z F H σ δ own/\f δ=aA r/\match r with
 | .v ds δ'=>∀vs H' F' own',Zi H H'->Zi F F'->SR Z F' H' σ δ' own'->Reps K F' ds vs->Q vs H'
 | .x e δ'=>XOk Z F σ e δ'
НFX.val(f:FX):FE:=λδ=>match f δ with
 |some (.v rv δ')=>aA (rv,δ')
 |_=>aB
section
variable{Z:Ent K}{H:Hp}{σ:St}{Q:VK}{E:Ends}
НZx6(fe:FE):FX:=λδ=>(fe δ).bind λp=>aA (.v p.1 p.2)
НZts:FAX:=λδ=>aA (.v [] δ)
НZrf(fx:FX)(fa:FAX):FAX:=λδ=>(fx δ).bind fun
 | .v rv δ1=>(fa δ1).bind fun
  | .v rvs δ2=>aA (.v (rv::rvs) δ2)
  | .x e δ2=>aA (.x e δ2)
 | .x e δ1=>aA (.x e δ1)
НZrg:FDX:=λδ=>aA (.v [] δ)
НZor(fx:FX)(fd:FDX):FDX:=λδ=>(fx δ).bind fun
 | .v rv δ1=>(frz rv δ1).bind λq=>(fd q.2).bind fun
  | .v ds δ2=>aA (.v (q.1::ds) δ2)
  | .x e δ2=>aA (.x e δ2)
 | .x e δ1=>aA (.x e δ1)
НZ0f(fd:FDX):FX:=λδ=>(fd δ).bind fun
 | .v ds δ1=>if ds.length<=bd then aA (.v (.tmp (.fz (.tup ds))) δ1)else aB
 | .x e δ1=>aA (.x e δ1)
НZx7(g:А D->Б SV)(fa:FAX):FX:=λδ=>(fa δ).bind fun
 | .v rvs δ1=>(Oe rvs δ1).bind λds=>(g ds).bind λsv=>aA (.v (.tmp sv) δ1)
 | .x e δ1=>aA (.x e δ1)
НZ0g(g:D->D->Б SV)(fa fb:FX):FX:=λδ=>(fa δ).bind fun
 | .x e δ1=>aA (.x e δ1)
 | .v r1 δ1=>(fb δ1).bind fun
  | .x e δ2=>aA (.x e δ2)
  | .v r2 δ2=>(Iw r1 δ2).bind λd1=>(Iw r2 δ2).bind λd2=>(g d1 d2).bind λsv=>aA (.v (.tmp sv) δ2)
end
inductive XO where
 |v (sv:SV)|x (e:Exn)
МspX(K:ad)(n:Г)(g:А D->Б XO):Sp:=λvs H Q E=>∃F ds o,Zi F H/\Reps K F ds vs/\ds.length=n/\g ds=aA o/\match o with
 | .v sv=>∀v H' F' ns,Zi H H'->Zi F F'->Zi F' H'->(∀(b:aj) (o:HO),F' b=aA o->F b=aA o\/H b=aB)->Shape K F' sv v ns->(Bf ns).Nodup->(∀p∈ns,F' p.1=aB/\H p.1=aB/\H' p.1=aA p.2)->Q v H'
 | .x e=>∀cls od H' F',Zi H H'->Zi F F'->Zi F' H'->(∀(b:aj) (o:HO),F' b=aA o->F b=aA o\/H b=aB)->Lz K F' e cls od->E cls od H'
НZ0h(f:FS)(n:Г)(ds:А D):Б XO:=match f (Ao n ds)with
 |some (.rt sv)=>aA (.v sv)
 |some (.nx _)=>aA (.v (.fz .non))
 |some (.ex e _)=>aA (.x e)
 |_=>aB
НZ0i(h:А D->Б XO)(ds:А D):Б SV:=match h ds with
 |some (.v sv)=>aA sv
 |_=>aB
аZ0j(H F:Hp)(E:XK):Ent K:=⟨H,F,λcls od _ H'=>E cls od H'⟩
section
variable{Z:Ent K}{H:Hp}{σ:St}{Q:VK}{E:Ends}
НZx8(n:Г)(g:А D->Б XO)(fa:FAX):FX:=λδ=>(fa δ).bind fun
 | .x e δ1=>aA (.x e δ1)
 | .v rvs δ1=>(DL.frzAll rvs δ1).bind λq=>if q.1.length=n then(g q.1).bind (fun
  | .v sv=>aA (.v (.tmp sv) (if sv.scal then δ1 else q.2))
  | .x e=>aA (.x e q.2))else aB
НZv5(g:А D->Б SV)(ds:А D):Б XO:=(g ds).bind λsv=>aA (.v sv)
НZ0k(i:Г)(fx:FX):FS:=λδ=>(fx δ).bind fun
 | .v rv δ1=>(stow i rv δ1).bind λδ'=>aA (.nx δ')
 | .x e δ1=>aA (.ex e δ1)
НZ0l(fx:FX):FS:=λδ=>(fx δ).bind fun
 | .v rv δ1=>(Zp8 rv δ1).bind λsv=>aA (.rt sv)
 | .x e δ1=>aA (.ex e δ1)
НZx9(fx:FX):FS:=λδ=>(fx δ).bind fun
 | .v _ δ1=>aA (.nx δ1)
 | .x e δ1=>aA (.ex e δ1)
НZ0m(i:Г)(fx:FX):FS:=λδ=>match fx δ with
 |some (.x e δ1)=>(match δ[i]? with
  |some (aA (.ol _))=>aA (.ex e δ1)
  |_=>aB)
 |_=>Rq i fx.val δ
НZ0n(i:Г)(fx:FX):FS:=λδ=>match fx δ with
 |some (.x e δ1)=>(match δ[i]? with
  |some (aA (.ol _))=>aA (.ex e δ1)
  |_=>aB)
 |_=>Zv1 i fx.val δ
НZv6(c:Str):FS:=λδ=>aA (.ex ⟨c,[],[]⟩ δ)
set_option genInjectivity false in
structure HX where
 x:Str
 np:Pos
 nm:Б (Str×Г)
 b0:Stmt
 suite:А Stmt
 pos:Pos
 B:aj
 yes:А Str
 no:А Str
 f:FS
set_option genInjectivity false in
structure HX.Sub(K:ad)(h:HX):В where
 yes:∀c∈h.yes,∀C,Ak K c C->PySem.W.mroIn K C (.ref h.B)=aA aC
 no:∀c∈h.no,∀C,Ak K c C->PySem.W.mroIn K C (.ref h.B)=aA aD
МHX.hd(Z:Ent K)(h:HX):Hd:=⟨h.x,h.np,h.nm,h.b0,h.suite,h.pos,h.B,Z5 Z h.f⟩
set_option genInjectivity false in
structure HF where
 i:Б Г
 yes:А Str
 no:А Str
 f:FS
НHX.hf(h:HX):HF:=⟨h.nm.map (·.2),h.yes,h.no,h.f⟩
НZky(c:Str):А HF->Б HF
 | []=>aB
 |h::r=>if c∈h.yes then aA h else if c∈h.no then Zky c r else aB
НFl.but(i:Г):Fl->Fl
 | .nx δ=>.nx (δ.set i aB)
 | .bk δ=>.bk (δ.set i aB)
 | .ct δ=>.ct (δ.set i aB)
 | .ex e δ=>.ex e (δ.set i aB)
 | .rt sv=>.rt sv
НFl.isEx:Fl->Bool
 | .ex _ _=>aC
 |_=>aD
НHF.run(h:HF)(x:Exn)(δ:Yk):Б Fl:=match h.i with
 |none=>h.f δ
 |some i=>if i<δ.length then(h.f (δ.set i (aA (.fz (.exc x.c x.ks x.vs))))).bind λfl=>if fl.isEx=aC then aB else aA (fl.but i)else aB
НZ0o(fb:FS)(hs:А HF):FS:=λδ=>(fb δ).bind fun
 | .ex x δ1=>(Zky x.c hs).bind λh=>h.run x δ1
 |fl=>aA fl
аEnt.wish(Z:Ent K)(EX:EXT):Ent K:=⟨Z.h,Z.f,EX⟩
end
end DL
namespace DL
open PySem PySem.Spec PyProof.Rows L2
section
variable{X:Cx}{Z:Ent X.K}{a b c:cj}{fa fb:FE}{fx fy:FX}{pos:Pos}
НZ0p(yes no:А Str):D->Б SV
 | .exc c _ _=>if c∈yes then aA (.fz (.bl aC))else if c∈no then aA (.fz (.bl aD))else aB
 |_=>aB
МKn(K:ad)(r:aj->Bool->В)(yes no:А Str):Prop:=(∀c∈yes,∀C,Ak K c C->ExcKit K C/\r C aC)/\∀c∈no,∀C,Ak K c C->ExcKit K C/\r C aD
МZv7(Bs:А aj):TA:=λ_ H R=>R (Bs.map V.ref) H
end
end DL
namespace DL
open PySem PySem.Spec PyProof.Rows L2
section
variable{X:Cx}{pins:А (aj×Obj)}{σ:L2.St}{H:Hp}{s:am}
ЛInv.trackO{a:aj}{o:HO}(I:Inv X pins σ H s)(e0:X.s₀.heap.get? a=aB)(eH:H a=aB)(le:a≠X.env.locals)(ce:∀x c,X.env.cells.lookup x=aA c->c≠a)(pe:∀p∈X.pn++pins,p.1≠a)(new:Yj X.prog X.w (Z9 H a o) s.heap a o):Inv X pins σ (Z9 H a o) s:=by
 R⟨I.ok,I.os,I.bare,⟨I.base.keep,I.base.slot,λb o q n hx=>?_,I.base.there,λb xs q=>?_,λb o u q=>?_,λb ps q=>?_⟩,I.loc,I.cell,?_,λx c ec=>?_,λp hp=>?_,λb u q=>?_,I.len⟩
 ·K[Zw (λz=>by K[z,e0]at q;C q)];E I.base.free b o q n hx
 ·V :=I.base.tups b xs q;K[Zw (λz=>by K[z,eH]at this;C this)];E this
 ·V :=I.base.frzs b o u q;K[Zw (λz=>by K[z,eH]at this;C this)];E this
 ·O⟨m,this⟩:=I.base.tbls b ps q;E⟨m,by K[Zw (λz=>by K[z,eH]at this;C this)];E this⟩
 ·K[Zw (Ne.symm le)];E I.free
 ·K[Zw (ce x c ec)];E I.freeC x c ec
 ·O⟨q,n,r⟩:=I.pin p hp;E⟨q,by K[Zw (pe p hp)];E n,r⟩
 ·B hb:b=a
  ·Q hb;K[Z3]at q;C q;E new
  ·K[Zw hb]at q;E(I.hok b u q).stay (λc v _ z=>z) (λc z=>by K[Zw (λy=>by K[y,eH]at z;C z)];E z) (λc xs z=>by K[Zw (λy=>by K[y,eH]at z;C z)];E z) λc o z=>by K[Zw (λy=>by K[y,eH]at z;C z)];E z
МZe1(trs:А (TE×TE)):TE:=λσ H Q=>Lw trs σ H λps H2=>∃kvs:А (Key×V),ps=kvs.map (λkv=>(kV kv.1,kv.2))/\kvs.length<=15/\∀p ep,H2 p=aB->Q (.ref p) (Z9 H2 p (.dK (On [] kvs) ep))
ЛZe2{pos:Pos}{keys:А (Б cj)}{values:А cj}{trs:А (TE×TE)}(h:PPs X pos keys values trs)(hall:keys.all (·.isSome)=aC)(hl:keys.length=values.length)(h0:keys≠[])
  (h15:keys.length<=15):PE X (.Dict keys values pos) (Ze1 trs):=by
 I pins s σ H Q I q;V hn:=I.hok.fresh (ba s.heap.objs.size);V I0:=I.kept (h':=s.heap.push {cls:=.type "dict",data:=.dict #[]}) (t':=s.toks) (λ_ _ q=>au _ q);V hob:(s.heap.push {cls:=.type "dict",data:=.dict #[]}).get? s.heap.objs.size=aA {cls:=.type "dict",data:=.dict #[]}:=bp _ rfl;V old:∀b o,s.heap.get? b=aA o->b≠s.heap.objs.size:=λb o z=>cf (bo z);V apart:∀p∈X.pn++pins,p.1≠s.heap.objs.size:=λp hp=>old _ _ (I.pin p hp).1;V hloc:s.heap.objs.size≠X.env.locals:=λz=>ii _ (c8 (z▸I.lt) (ba _));V hcel:∀x c,X.env.cells.lookup x=aA c->c≠s.heap.objs.size:=λx c ec=>by O⟨v,o,ho,_⟩:=I.cell x c ec;E old _ _ ho
 V hs0:X.s₀.heap.get? s.heap.objs.size=aB:=Heap.get?_none_of_le I.sz;V I1:=I0.pins_of (pins':=(s.heap.objs.size,{cls:=.type "dict",data:=.dict #[]})::pins) λp hp=>by
  J bx.mp hp with z|z
  ·Q z;E⟨hob,hn,hloc,I.nofs (ba _),λv z=>nomatch z⟩
  ·E I0.pin p (bh _ z)
 R wpAny_Dict_walk (knd:=Zr X.prog X.w) hall hl h0 h15 (Wp (h _ _ σ _ _ I1 q) λws s2 zq9=>?_);O⟨ps,H2,I2,rel,kvs,ep,lk,q2⟩:=zq9;Q ep;O⟨rs,c,rk⟩:=Ah (P:=X.prog) (w:=X.w) rel;O⟨p1,p2,p3,p4,p5⟩:=I2.pin (s.heap.objs.size,{cls:=.type "dict",data:=.dict #[]}) (bh _ af);V new0:Yj X.prog X.w (Z9 H2 s.heap.objs.size (.dK [] 0)) s2.heap s.heap.objs.size (.dK [] 0):=(show Yj X.prog X.w (λ_=>aB) _ _ (.dK [] 0)from Px s.heap I.big).stay (λb u hb z=>by
  J hb with rfl|hb
  ·K[hob]at z;C z;E p1
  ·C hb) (λ_ z=>nomatch z) (λ_ _ z=>nomatch z) λ_ _ z=>nomatch z
 V I3:Inv X pins σ (Z9 H2 s.heap.objs.size (.dK [] 0)) s2:=Inv.trackO (I2.pins_of (pins':=pins) λp hp=>I2.pin p (bh _ (ao _ hp))) hs0 p2 hloc hcel apart new0;O⟨z,hd,vs0,r0,dd⟩:=Zkc I3.hok ⟨_,(show Z9 H2 s.heap.objs.size (.dK [] 0) s.heap.objs.size=aA (.dK [] 0)from Z3)⟩;C r0;R⟨rs,c,dd,λh' dd' hs=>?_⟩;V hz:(On [] kvs).length<=sizeLine:=by V h1:=Gp kvs [];K[List.length_nil]at h1;K[fu];W
 V he:∃q,h'.get? s.heap.objs.size=aA q:=let⟨q,_,_,hq,_⟩:=dd';⟨q,hq⟩
 O⟨ep,ok⟩:=V9 hz hd (rk.merge .nil) dd';V I4:L2.Inv X pins σ (Z9 (Z9 H2 s.heap.objs.size (.dK [] 0)) s.heap.objs.size (.dK (On [] kvs) ep)) {s2 with heap:=h',toks:=s2.toks+ws.length}:=Tv I3 (by K[Z3];E True.intro) hs he (ok _);K[Zg9]at I4;E⟨.ref s.heap.objs.size,_,I4,rfl,q2 _ ep p2⟩
end
section
variable{K:ad}{Z:Ent K}{σ:L2.St}{H:Hp}{Q:VK}
ЛXs{f:FE}{Q':VK}(m:∀v H,Q v H->Q' v H)(h:Ze Z f σ H Q):Ze Z f σ H Q':=by O⟨F,δ,own,rv,δ',s,e,k⟩:=h;E⟨F,δ,own,rv,δ',s,e,λv H' F' own' a b c d=>m _ _ (k v H' F' own' a b c d)⟩
МtPD(Z:Ent K)(l:А (Str×FE)):А (TE×TE):=l.map λp=>(tC (.str p.1),Ze Z p.2)
НZe3:А (Str×FE)->FD
 | []=>Zs
 |p::r=>Zh p.2 (Ze3 r)
НZv8(l:А (Str×FE)):FE:=λδ=>(Ze3 l δ).bind λp=>if p.1.length=l.length then aA (.tmp (.oK (l.map λq=>.inr q.1) p.1),p.2)else aB
ЛKe:∀(more acc:А (Key×V)),((acc++more).map (·.1)).Nodup->On acc more=acc++more
 | [],acc,_=>by T acc=acc++[];K[List.append_nil]
 |p::r,acc,h=>by
  V e:Qe acc p.1 p.2=acc++[p]:=by U Qe;K[Д];I z;O⟨q,hq,z⟩:=List.any_eq_true.mp z;K[b9,dq]at h;E h.2.2 p.1 (ax.mpr ⟨q,hq,of_decide_eq_true z⟩) p.1 К rfl
  T On (Qe acc p.1 p.2) r=_;K[e,Ke r (acc++[p]) (by L h)];simp
НZ0q:А D->Б SV
 | [.int i,.int j]=>aA (.fz (.int (if j<i then j else i)))
 |_=>aB
end
end DL
namespace DL
open PySem PySem.Spec PyProof.Rows L2
НXt(ss:А Str)(fd:FD):FD:=λδ=>(fd δ).bind λp=>aA (ss.map D.str++p.1,p.2)
ЛZiu{K:ad}{Z:Ent K}{σ:L2.St}{H:Hp}{fd:FD}:∀(ss:А Str) {R:А V->Hp->В},Qu Z (Xt ss fd) σ H R->Qu Z fd σ H λvs H'=>R (ss.map V.str++vs) H'
 |ss,R,h=>by O⟨F,δ,own,ds,δ',s,e,k⟩:=h;O⟨⟨ds1,δ1⟩,e1,e2⟩:=aa.mp e;C e2;R⟨F,δ,own,ds1,δ1,s,e1,λvs H' F' own' a b c r=>k _ H' F' own' a b c ?_⟩;E Reps.append (strs_rep ss) r
where strs_rep {F:Hp}:∀ss:А Str,Reps K F (ss.map D.str) (ss.map V.str)
 | []=>.nil
 |x::r=>.cons (.str x) (strs_rep r)
section
variable{X:Cx}{Z:Ent X.K}{pos:Pos}
аcst(x:Str×Г×Pos):Expr:=.Constant (.str x.1) x.2.1 x.2.2
ЛSk{es:А cj}{t:TA}(h:PA X es t):∀l:А (Str×Г×Pos),PA X (l.map cst++es) λσ H R=>t σ H λvs H'=>R ((l.map λx=>V.str x.1)++vs) H'
 | []=>h
 |x::r=>(Jf (e:=cst x) (es:=r.map cst++es) Zcz (Sk h r) rfl).imp λσ H R q=>q
ЛZiv{es:А cj}{fd:FD}(l:А (Str×Г×Pos))(h:PA X es (Qu Z fd)):PA X (l.map cst++es) (Qu Z (Xt (l.map (·.1)) fd)):=
 (Sk h l).imp λσ H R q=>by V :=Ziu (l.map (·.1)) q;K[cg]at this;E this
end
end DL
namespace DL
open PySem PySem.Spec PyProof.Rows L2
section
variable{K:ad}
inductive RC where
 |v (δ:Yk)|x (e:Exn)
МxX(K:ad)(f:FX)(EX:EXT):TE:=λσ H Q=>∃Z:Ent K,Z.x=EX/\Zre Z f σ H Q
НXu(src:А BSrc)(k:Г)(g:FG)(tt:FT)(te:FX):А D->Yk->Б RC
 | [],δ=>aA (.v δ)
 |d::ds,δ=>(g.run d δ).bind λδ1=>(tt δ1).bind λp=>if p.1=aC then(te p.2).bind (fun
  | .x e _=>aA (.x e)
  | .v rv δ2=>(frz rv δ2).bind λr=>match r.2[k]? with
   |some (aA (.ol zs))=>if zs.length<bd then Xu src k g tt te ds (O9 src (r.2.set k (aA (.ol (zs++[r.1])))))else aB
   |_=>aB)
  else Xu src k g tt te ds (O9 src p.2)
НZya(src:А BSrc)(k:Г)(fi:FD)(g:FG)(tt:FT)(te:FX):FX:=λδ=>(fi δ).bind λp=>(frzAll (caps src) p.2).bind λc=>(Xu src k g tt te p.1 (bD src c.2)).bind fun
 | .x e=>aA (.x e c.2)
 | .v δb=>match δb[k]? with
  |some (aA (.ol ys))=>aA (.v (.tmp (.ol ys)) c.2)
  |_=>aB
end
end DL
namespace L2
open PySem PySem.Spec PyProof.Rows
МZkz{α:Type}(xs:А α)(lo hi st:Б Int):А α:=
 (sliceRange (sliceBounds lo hi st xs.length).1 (sliceBounds lo hi st xs.length).2.1 (sliceBounds lo hi st xs.length).2.2).filterMap (xs[·]?)
section
variable{X:Cx}{e st:cj}{te:TE}{lo hi:Б cj}{tl th ts:TO}{pos p2:Pos}
МZ0r(X:Cx)(r:V->Б Int->Б Int->Б Int->Hp->VK->В):Prop:=
 ∀(pins:А (aj×Obj)) (s:am) (σ:St) (H:Hp) (x:V) (v vl vu vs:ah) (lo hi st:Б Int) (sl:aj) (Q:VK),Inv X pins σ H s->Zy x v->s.heap.IsSliceOf sl vl vu vs->IsPart vl lo->IsPart vu hi->IsPart vs st->r x lo hi st H Q->
  ∃T id,typeLookup (.type T) "__getitem__"=pure (aA (.builtin id))/\s.TypeIs v T/\bg (b4 X.prog X.w) X.A (getItem v (.ref sl)) (EP X pins σ Q) X.xe s
МZ0s(r:V->Б Int->Б Int->Б Int->Hp->VK->В)(te:TE)(tl th ts:TO):TE:=λσ H Q=>te σ H λx H1=>tl σ H1 λl H2=>th σ H2 λu H3=>ts σ H3 λw H4=>r x l u w H4 Q
МZ0t(K:ad):V->Б Int->Б Int->Б Int->Hp->VK->Prop:=λx lo hi st H Q=>∃a xs,x= .ref a/\W5 K H a xs/\st≠aA 0/\∀p,H p=aB->Q (.ref p) (Z9 H p (.lst (Zkz xs lo hi st)))
end
end L2
namespace DL
open PySem PySem.Spec PyProof.Rows L2
НZ0u(g:D->Б Int->Б Int->Б Int->Б SV)(fe:FE)(fl fh fs:FO):FE:=λδ=>(fe δ).bind λp=>(fl p.2).bind λl=>(fh l.2).bind λh=>(fs h.2).bind λw=>(Iw p.1 w.2).bind λd=>(g d l.1 h.1 w.1).bind λsv=>aA (.tmp sv,w.2)
section
variable{K:ad}{Z:Ent K}{H:Hp}{σ:L2.St}{Q:VK}
МZv9(Z:Ent K)(r:V->Б Int->Б Int->Б Int->Hp->VK->В)(g:D->Б Int->Б Int->Б Int->Б SV):Prop:=
 ∀(F H:Hp) (σ:L2.St) (δ:Yk) (own:Г->Zo) (x:V) (d:D) (lo hi st:Б Int) (sv:SV) (Q:VK),SR Z F H σ δ own->Yi K F H d x->g d lo hi st=aA sv->Fin Z F H σ δ own sv Q->r x lo hi st H Q
НZ0v:D->Б Int->Б Int->Б Int->Б SV
 | .lst xs,lo,hi,st=>if st≠aA 0 then aA (.ol (Zkz xs lo hi st))else aB
 |_,_,_,_=>aB
end
end DL
namespace DL
section
variable{α:Type}{P:А α->В}
@[elab_as_elim] theorem of0(h:P [])(us:А α)(hl:us.length=0):P us:=by V :us=[]:=List.eq_nil_of_length_eq_zero hl;K[this];E h
@[elab_as_elim] theorem of1(h:∀a,P [a])(us:А α)(hl:us.length=1):P us:=by O⟨a,e⟩:=List.length_eq_one_iff.mp hl;K[e];E h a
ЛofC{n:Г}(h:∀a (us:А α),us.length=n->P (a::us))(us:А α)(hl:us.length=n+1):P us:=by
 cases us with
 |nil=>E absurd hl К
 |cons a r=>E h a r (by L hl)
@[elab_as_elim] theorem of2(h:∀a b,P [a,b])(us:А α)(hl:us.length=2):P us:=ofC (λa=>of1 (P:=λus=>P (a::us)) (h a)) us hl
@[elab_as_elim] theorem of3(h:∀a b c,P [a,b,c])(us:А α)(hl:us.length=3):P us:=ofC (λa=>of2 (P:=λus=>P (a::us)) (h a)) us hl
@[elab_as_elim] theorem of4(h:∀a b c d,P [a,b,c,d])(us:А α)(hl:us.length=4):P us:=ofC (λa=>of3 (P:=λus=>P (a::us)) (h a)) us hl
@[elab_as_elim] theorem of5(h:∀a b c d e,P [a,b,c,d,e])(us:А α)(hl:us.length=5):P us:=ofC (λa=>of4 (P:=λus=>P (a::us)) (h a)) us hl
@[elab_as_elim] theorem of6(h:∀a b c d e f,P [a,b,c,d,e,f])(us:А α)(hl:us.length=6):P us:=ofC (λa=>of5 (P:=λus=>P (a::us)) (h a)) us hl
end
end DL
namespace L2
open PySem PySem.Spec PyProof.Rows
section
variable{prog:b6}{w:c7}{A:dh}{E:ah->am->В}{s:am}{q d:aj}{i n ep:Г}{od:Obj}{es:Array DictEntry}
ЛAw{Q:ah->am->В}(hs:(d==sysModules)=aD)(g:s.heap.get? d=aA od)(x:od.ExactDict)(c:od.data= .dict es ep)
  (k:Q (.ref s.heap.objs.size) {s with heap:=s.heap.push {cls:=.type "dict_keyiterator",data:=.fields #[.ref d,.int 0 0,.int es.size 0,.int ep 0]}}):bg (b4 prog w) A (pyIter (.ref d)) Q E s:=by
 V T:s.TypeIs (.ref d) "dict":=⟨od,g,x.1⟩
 R wpAny_pyIter_slot T PySem.F.slot_dict_iter (dr PySem.F.slot_dict_iter T PySem.F.entry_dict_iter (show bg _ _ (Builtin.«dict.__iter__» _) _ _ _ from ?_) (PySem.F.args_dict_iter_1 _));U Builtin.«dict.__iter__» Builtin.Dict.dictSlotNone;R ac (ac (wpAny_notOrdered_dict T (show bg _ _ (pure (b8 d)) _ _ s from ag ?_)));T bg _ _ (Builtin.Dict.showsAll d >>=_) _ _ s;U Builtin.Dict.showsAll;K[Д (by K[hs];decide)];R ac (ag (ac (wpAny_dictEntries g c (ac (wpAny_dictEpoch g c (ac (ff (ag ⟨_,rfl,"dict_keyiterator",_,⟨_,bp _ rfl,rfl⟩,gv.lookup,?_⟩))))))));simpa[rawInt]using k
ЛAx{e:DictEntry}{Q:Б ah->am->В}(t:s.heap.IsKeyIter q d i n ep)(g:s.heap.get? d=aA od)(c:od.data= .dict es ep)(hn:es.size=n)(he:es[i]? =aA e)
  (k:∀h',h'.IsKeyIter q d (i+1) n ep->io q s.heap h'->Q (aA e.key) {s with heap:=h'}):bg (b4 prog w) A (pyNext (.ref q)) Q E s:=by
 O⟨o,ho,hc,hd⟩:=id t;V T:=t.typeIs;U pyNext;R ac (wpAny_attempt (gd (name:="__next__") T gv (dr gv T PySem.F.entry_dict_keyiterator_next (ac (ag (ac (ac ?_)))) (PySem.F.args_dict_keyiterator_next_1 _))))
 first| (R ac (wpAny_typeNameOfWhole_keyiter T (ag (ac (wpAny_fieldsOf ho hd ?_)))))| (R ac (wpAny_typeNameOf_keyiter T (ag (ac (wpAny_fieldsOf ho hd ?_)))))
 V z0:Builtin.Dict_items.ownsTuple "dict_keyiterator"=aD:=rfl;K[z0];simp only[bi,if_false];T bg _ _ (ite ((b8 d==ck)=aC) _ _) _ _ s;K[Д (show¬(b8 d==ck)=aC from λz=>bv z)];R ac (ag (ac (wpAny_dictEntries g c ?_)));K[Д (by K[hn];simp)];R ac (ag (ac (wpAny_dictEpoch g c ?_)));K[Д К];V hi:i<es.size:=(gm.mp he).1;R ag ?_;simp only[show¬((i:Int)<0) by W,if_false,g8,he];R ac ?_
 first| (R ac (wpAny_typeNameOfWhole_keyiter T (ag (ac (wpAny_isOneOf_keyiter T ?_)))))| (R ac (wpAny_typeNameOf_keyiter T (ag (ac (wpAny_isOneOf_keyiter T ?_)))))
 T bg _ _ (setField (.ref q) 1 (rawInt ((i:Int)+1)) >>=_) _ _ s;R ac (wpAny_setField ho hd К ?_);V t':(s.heap.update q (Obj.mapFields (·.setIfInBounds 1 (rawInt ((i:Int)+1))))).IsKeyIter q d (i+1) n ep:=⟨_,g6 _ ho (Obj.isFreed_of_fields (Obj.data_mapFields hd _)),(Obj.cls_mapFields ..).trans hc,(Obj.data_mapFields hd _).trans (by simp[rawInt])⟩
 R ac (gn (ac (wpAny_isOneOf_keyiter (s:={s with heap:=s.heap.update q (Obj.mapFields (·.setIfInBounds 1 (rawInt ((i:Int)+1))))}) t'.typeIs (show bg _ _ (pure e.key) _ _ _ from ag (ag ⟨_,rfl,ag (k _ t' (Heap.SameBut.update ..))⟩)))))
ЛAy{Q:Б ah->am->В}(hh:A.handled=aB)(t:s.heap.IsKeyIter q d i n ep)(g:s.heap.get? d=aA od)(c:od.data= .dict es ep)(hn:es.size=n)(hi:n<=i)
  (k:∀h',Heap.ExtBut q s.heap h'->Q aB {s with heap:=h'}):bg (b4 prog w) A (pyNext (.ref q)) Q E s:=by
 O⟨o,ho,hc,hd⟩:=id t;V T:=t.typeIs;U pyNext;R ac (wpAny_attempt (gd (name:="__next__") T gv (dr gv T PySem.F.entry_dict_keyiterator_next (ac (ag (ac (ac ?_)))) (PySem.F.args_dict_keyiterator_next_1 _))))
 first| (R ac (wpAny_typeNameOfWhole_keyiter T (ag (ac (wpAny_fieldsOf ho hd ?_)))))| (R ac (wpAny_typeNameOf_keyiter T (ag (ac (wpAny_fieldsOf ho hd ?_)))))
 V z0:Builtin.Dict_items.ownsTuple "dict_keyiterator"=aD:=rfl;K[z0];simp only[bi,if_false];T bg _ _ (ite ((b8 d==ck)=aC) _ _) _ _ s;K[Д (show¬(b8 d==ck)=aC from λz=>bv z)];R ac (ag (ac (wpAny_dictEntries g c ?_)));K[Д (by K[hn];simp)];R ac (ag (ac (wpAny_dictEpoch g c ?_)));K[Д К];V he:es[i]? =aB:=Array.getElem?_eq_none И;R ag ?_;simp only[show¬((i:Int)<0) by W,if_false,g8,he];R ac ?_
 first| (R ac (wpAny_typeNameOfWhole_keyiter T (ag ?_)))| (R ac (wpAny_typeNameOf_keyiter T (ag ?_)))
 T bg _ _ (setField (.ref q) 0 ck >>=_) _ _ s;R ac (wpAny_setField ho hd К (show bg _ _ (newExc (.type "StopIteration") [] >>=_) _ _ _ from ac ?_));simp only[newExc,newTuple];R ac (ff (ac (m:=firstArgMember _ _) (wpAny_of_eq (a:=ck) (by first|rfl| (simp only[firstArgMember];rfl)) (ff ?_ (by size_fits)))) (by size_fits));simp only[raiseNew];R ac (wpAny_handled ?_);K[show A.in1.handled=Option.none from hh];R ac (ag (wpAny_throw ?_));R ac (wpAny_isInstance (T:="StopIteration") (b:=aC) (by E⟨_,bp _ rfl,rfl⟩) isSubtype_stop ?_);E ag (k _ (((Heap.SameBut.update ..).extBut.push _).push _))
ЛDw{P:b6}{w:c7}{k:Key}{u:ah}(h:(Zr P w).is k u=aC):Zy (kV k) u:=by
 J Z6 h with⟨i,t,rfl,rfl⟩|⟨x,t,rfl,rfl⟩
 ·E⟨t,rfl⟩
 ·E⟨t,rfl⟩
end
МItk(a:aj)(n ep:Г):It:=
 ⟨λi H=>∃kvs,H a=aA (.dK kvs ep)/\kvs.length=n/\i<n,λi H x H'=>H'=H/\∃kvs kv,H a=aA (.dK kvs ep)/\kvs[i]? =aA kv/\x=kV kv.1,λi H=>∃kvs,H a=aA (.dK kvs ep)/\kvs.length=n/\n<=i⟩
МItd(a:aj)(n ep:Г):It:=
 ⟨λi H=>∃kvs bs,H a=aA (.dT kvs ep bs)/\kvs.length=n/\i<n,λi H x H'=>H'=H/\∃kvs bs b,H a=aA (.dT kvs ep bs)/\bs[i]? =aA b/\x= .ref b,λi H=>∃kvs bs,H a=aA (.dT kvs ep bs)/\kvs.length=n/\n<=i⟩
ЛNi{q d:aj}{i n ep:Г}{h h':d6}(t:h.IsKeyIter q d i n ep)(k:∀o,h.get? q=aA o->h'.get? q=aA o):h'.IsKeyIter q d i n ep:=let⟨o,e,r⟩:=t;⟨o,k o e,r⟩
ЛZe4{P:b6}{w:c7}{es:А DictEntry}{vs:А (Key×ah)}(h:Pairs (Zr P w) es vs){i:Г}{kv:Key×ah}(hi:vs[i]? =aA kv):∃e,es[i]? =aA e/\(Zr P w).is kv.1 e.key=aC:=by
 induction h generalizing i with
 |nil=>simp at hi
 | @cons e0 kv0 es0 kvs0 h1 h2 _ ih=>
  cases i with
  |zero=>simp at hi;Q hi;E⟨e0,by simp,h1⟩
  |succ j=>O⟨e,a1,a2⟩:=ih (i:=j) (by L hi);E⟨e,by L a1,a2⟩
ЛMr{P:b6}{w:c7}{es:А DictEntry}{vs:А (Key×ah)}(h:Pairs (Zr P w) es vs):es.length=vs.length:=by
 induction h with
 |nil=>rfl
 |cons _ _ _ ih=>K[bf,bf,ih]
ЛUo{α β:Type}{R:α->β->В}{l:А α}{m:А β}(h:Paired R l m):∀{i:Г} {x:α},l[i]? =aA x->∃y,m[i]? =aA y/\R x y:=by
 induction h with
 |nil=>intro i x hi;simp at hi
 | @cons a b as bs h1 t ih=>
  I i x hi;cases i with
  |zero=>simp at hi;Q hi;E⟨b,by simp,h1⟩
  |succ j=>O⟨y,a1,a2⟩:=ih (i:=j) (by L hi);E⟨y,by L a1,a2⟩
ЛBp{P:b6}{w:c7}{K:ad}{tg:cj}(a it:aj)(n ep:Г):Turn P w K tg (Itk a n ep) [it] it (λi h=>h.IsKeyIter it a i n ep)where
 mem:=af
 obj:=λi h st b hb=>by obtain rfl:=ar.mp hb;O⟨o,e,c,d⟩:=st;E⟨o,e,λv z=>by K[d]at z;C z⟩
 keep:=λi h h' st k=>Ni st λo e=>k it af o e
 item:=by
  I X hP hw hK hc i pins s σ H E I hf st hg;subst hP hw hK;O⟨kvs,hq,hn,hi⟩:=hg;O⟨z,hd,vs,rel,od,es,g,x,c,ko,pr,nd⟩:=(show Yj X.prog X.w H s.heap a (.dK kvs ep)from I.hok a _ hq)
  O⟨f0,f1,f2,f3,f4,f5⟩:=hf it af;V hkv:kvs[i]? =aA (kvs[i]'И):=av И;O⟨vv,hv,hr⟩:=Uo rel hkv;O⟨e,he,hke⟩:=Ze4 pr hv;V hz:es.size=n:=by K[<-ay,Mr pr,<-ig rel,hn]
  R Ax st g c hz (e:=e) (by K[<-c9];E he) λh' st' sb=>?_;V I1:Inv X pins σ H {s with heap:=h'}:=I.turned (t':=s.toks) (λb o hb e=>(sb.2 b hb).trans e) f0 f1 f3 f4 f5;O⟨o,e1,c1,d1⟩:=id st';E⟨e.key,rfl,Ab (s:={s with heap:=h'}) e1 c1 d1 Й ⟨kV (kvs[i]'И).1,H,I1,Dw (by K[hr.1];E hke),⟨rfl,kvs,_,hq,hkv,rfl⟩,st',λb hb=>(hf b hb).1⟩⟩
 done:=by
  I X hP hw hK hc i pins s σ H E I hf st hg;subst hP hw hK;O⟨kvs,hq,hn,hi⟩:=hg;O⟨z,hd,vs,rel,od,es,g,x,c,ko,pr,nd⟩:=(show Yj X.prog X.w H s.heap a (.dK kvs ep)from I.hok a _ hq)
  O⟨f0,f1,f2,f3,f4,f5⟩:=hf it af;V hz:es.size=n:=by K[<-ay,Mr pr,<-ig rel,hn]
  E Ay (I.ok.hd hc) st g c hz hi λh' eb=>⟨rfl,I.turned (t':=s.toks) (λb o hb e=>eb b o hb e) f0 f1 f3 f4 f5⟩
 self:=λ_ _ s _ _ st h=>by E wpAny_pyIter_slot st.typeIs PySem.F.slot_dict_keyiterator_iter (dr PySem.F.slot_dict_keyiterator_iter st.typeIs PySem.F.entry_dict_keyiterator_iter (by E ag ⟨_,rfl,"dict_keyiterator",_,st.typeIs,gv.lookup,h⟩) (PySem.F.args_dict_keyiterator_iter_1 _))
ЛZiw{P:b6}{w:c7}{K:ad}{tg:cj}(a it:aj)(n ep:Г):Turn P w K tg (Itd a n ep) [it] it (λi h=>h.IsKeyIter it a i n ep)where
 mem:=af
 obj:=(Bp (P:=P) (w:=w) (K:=K) (tg:=tg) a it n ep).obj
 keep:=(Bp (P:=P) (w:=w) (K:=K) (tg:=tg) a it n ep).keep
 item:=by
  I X hP hw hK hc i pins s σ H E I hf st hg;subst hP hw hK;O⟨kvs,bs,hq,hn,hi⟩:=hg;O⟨z,hd,xs,rel,od,es,g,x,c,en,nd,hbs⟩:=(show Yj X.prog X.w H s.heap a (.dT kvs ep bs)from I.hok a _ hq)
  O⟨f0,f1,f2,f3,f4,f5⟩:=hf it af;V hkv:kvs[i]? =aA (kvs[i]'И):=av И;O⟨vv,hv,hr⟩:=Uo rel hkv;V hz:es.size=n:=by K[<-ay,en,aq,<-ig rel,hn]
  V he:es[i]? =aA (entryOfKey (tupleKind (Zr X.prog X.w)) vv):=by K[<-c9,en,az,hv];rfl
  R Ax st g c hz he λh' st' sb=>?_;V I1:Inv X pins σ H {s with heap:=h'}:=I.turned (t':=s.toks) (λb o hb e=>(sb.2 b hb).trans e) f0 f1 f3 f4 f5;O⟨o,e1,c1,d1⟩:=id st';E⟨.ref vv.2.1,rfl,Ab (s:={s with heap:=h'}) e1 c1 d1 Й ⟨.ref vv.2.1,H,I1,rfl,⟨rfl,kvs,bs,vv.2.1,hq,by K[<-hbs,az,hv];rfl,rfl⟩,st',λb hb=>(hf b hb).1⟩⟩
 done:=by
  I X hP hw hK hc i pins s σ H E I hf st hg;subst hP hw hK;O⟨kvs,bs,hq,hn,hi⟩:=hg;O⟨z,hd,xs,rel,od,es,g,x,c,en,nd,hbs⟩:=(show Yj X.prog X.w H s.heap a (.dT kvs ep bs)from I.hok a _ hq)
  O⟨f0,f1,f2,f3,f4,f5⟩:=hf it af;V hz:es.size=n:=by K[<-ay,en,aq,<-ig rel,hn]
  E Ay (I.ok.hd hc) st g c hz hi λh' eb=>⟨rfl,I.turned (t':=s.toks) (λb o hb e=>eb b o hb e) f0 f1 f3 f4 f5⟩
 self:=(Bp (P:=P) (w:=w) (K:=K) (tg:=tg) a it n ep).self
section
variable{X:Cx}{tg:cj}
МZri(tl:TE):TI:=λσ H R=>tl σ H λx H1=>(∃a kvs ep,x= .ref a/\H1 a=aA (.dK kvs ep)/\R (Itk a kvs.length ep) H1)\/(∃a kvs ep bs,x= .ref a/\H1 a=aA (.dT kvs ep bs)/\R (Itd a kvs.length ep) H1)
ЛZnd{l:cj}{tl:TE}(hl:PE X l tl):PI X tg l (Zri tl):=by
 I pins s σ H R I h;R Wp (hl pins s σ H _ I h) λv s1 zq9=>?_;O⟨x,H1,I1,r1,q1⟩:=zq9;J q1 with⟨a,kvs,ep,rfl,hq,q⟩|⟨a,kvs,ep,bs,rfl,hq,q⟩
 ·C r1;O⟨z,hd,vs,rel,od,es,g,x,c,ko,pr,nd⟩:=(show Yj X.prog X.w H1 s1.heap a (.dK kvs ep)from I1.hok a _ hq)
  V hz:es.size=kvs.length:=by K[<-ay,Mr pr,<-ig rel]
  R Aw hd g x c ⟨s1.heap.objs.size,[s1.heap.objs.size],_,_,H1,rfl,I1.kept (t':=s1.toks) λb o e=>au _ e,Bp a _ kvs.length ep,⟨_,bp _ rfl,rfl,by K[hz];rfl⟩,λb hb=>?_,q⟩;obtain rfl:=ar.mp hb;E I1.fpOk (ba _) (I1.hok.fresh (ba _))
 ·C r1;O⟨z,hd,xs,rel,od,es,g,x,c,en,nd,hbs⟩:=(show Yj X.prog X.w H1 s1.heap a (.dT kvs ep bs)from I1.hok a _ hq)
  V hz:es.size=kvs.length:=by K[<-ay,en,aq,<-ig rel]
  R Aw hd g x c ⟨s1.heap.objs.size,[s1.heap.objs.size],_,_,H1,rfl,I1.kept (t':=s1.toks) λb o e=>au _ e,Ziw a _ kvs.length ep,⟨_,bp _ rfl,rfl,by K[hz];rfl⟩,λb hb=>?_,q⟩;obtain rfl:=ar.mp hb;E I1.fpOk (ba _) (I1.hok.fresh (ba _))
end
end L2
namespace DL
open PySem PySem.Spec PyProof.Rows L2
variable{K:ad}
НRw:Key->D
 | .inl i=>.int i
 | .inr x=>.str x
ЛSl{F:Hp}(k:Key):Rep K F (Rw k) (kV k):=by
 cases k with
 |inl i=>E .int i
 |inr x=>E .str x
ЛMs{F:Hp}:∀k:А Key,Reps K F (k.map Rw) (k.map kV)
 | []=>.nil
 |k::r=>.cons (Sl k) (Ms r)
ЛZb1{F:Hp}{a:aj}{kvs:А (Key×V)}{ep:Г}(h:F a=aA (.dK kvs ep)):Oq K (Itk a kvs.length ep) F ((kvs.map (·.1)).map Rw):=λF' H sF sH i=>by V q:H a=aA (.dK kvs ep):=sH _ _ (sF _ _ h);R⟨λd hd=>?_,λhl=>⟨kvs,q,rfl,by L hl⟩⟩;K[cg,az]at hd;O⟨kv,h1,h2⟩:=cm.mp hd;R⟨⟨kvs,q,rfl,(a8.mp h1).1⟩,λx H' ⟨e1,kvs',kv',e2,e3,e4⟩=>?_⟩;Q e1;K[q]at e2;C e2;K[h1]at e3;C e3;Q e4;K[<-h2];E⟨Zi.refl _,[],df,λ_ h=>(nomatch h),Sl _⟩
ЛZb2{F:Hp}{a:aj}{kvs:А (А Key×V)}{ep:Г}{bs:А aj}(h:F a=aA (.dT kvs ep bs))(kb:KB F kvs bs):Oq K (Itd a kvs.length ep) F ((kvs.map (·.1)).map λk=>D.tup (k.map Rw)):=λF' H sF sH i=>by V q:H a=aA (.dT kvs ep bs):=sH _ _ (sF _ _ h);R⟨λd hd=>?_,λhl=>⟨kvs,bs,q,rfl,by L hl⟩⟩;K[cg,az]at hd;O⟨kv,h1,h2⟩:=cm.mp hd;R⟨⟨kvs,bs,q,rfl,(a8.mp h1).1⟩,λx H' ⟨e1,kvs',bs',b,e2,e3,e4⟩=>?_⟩;Q e1;K[q]at e2;C e2;Q e4;O⟨b',g1,g2⟩:=Uo (kb.mono sF) h1;K[e3]at g1;C g1;K[<-h2];E⟨Zi.refl _,[],df,λ_ h=>(nomatch h),.tup g2 (Ms _)⟩
section
variable{Z:Ent K}{H:Hp}{σ:L2.St}
НXv(fe:FE):FD:=λδ=>(fe δ).bind λp=>(frz p.1 p.2).bind λq=>match q.1 with
 | .dK ks _=>aA (ks.map Rw,q.2)
 | .dT ks _=>aA (ks.map λk=>D.tup (k.map Rw),q.2)
 |_=>aB
ЛZne{fe:FE}{R:It->Hp->В}(h:Qm Z (Xv fe) σ H R):Zri (Ze Z fe) σ H R:=by
 O⟨F,δ,own,ds,δ',s,e,k⟩:=h;O⟨⟨rv,δ1⟩,e1,e2⟩:=aa.mp e;O⟨⟨d,δ2⟩,e3,e4⟩:=aa.mp e2;R⟨F,δ,own,rv,δ1,s,e1,λv H1 F1 own1 sH sF s1 r1=>?_⟩;O⟨F2,sF2,s2,r2⟩:=s1.settleR r1;O⟨F3,own3,sF3,s3,r3⟩:=s2.frzR r2 e3;dsimp only at e4;split at e4
 ·C e4;cases r3 with
  |dK h e r=>Q e;E .inl ⟨_,_,_,rfl,s3.le _ _ h,k _ H1 F3 own3 sH (sF.trans (sF2.trans sF3)) s3 (Zb1 h)⟩
 ·C e4;cases r3 with
  |dT h kb e r=>Q e;E .inr ⟨_,_,_,_,rfl,s3.le _ _ h,k _ H1 F3 own3 sH (sF.trans (sF2.trans sF3)) s3 (Zb2 h kb)⟩
 ·C e4
end
ЛZe5{X:Cx}{tg:cj}{Z:Ent X.K}{a:cj}{fa:FE}(ha:PE X a (Ze Z fa)):PI X tg a (Qm Z (Xv fa)):=λpins s σ H R I h=>Znd ha pins s σ H R I (Zne h)
end DL
namespace DL
open PySem PySem.Spec PyProof.Rows L2
variable{K:ad}
НinW(d1 d2:D):Б SV:=match d2.seq? with
 |some xs=>if d1.isFlat=aC/\xs.all D.isFlat=aC then aA (.fz (.bl (Zbz d1 xs)))else aB
 |none=>inD d1 d2
НZwc(d1 d2:D):Б SV:=match d2.seq? with
 |some xs=>if d1.isFlat=aC/\xs.all D.isFlat=aC then aA (.fz (.bl (!Zbz d1 xs)))else aB
 |none=>L9 d1 d2
end DL
namespace L2
open PySem PySem.Spec PyProof.Rows
section
variable{X:Cx}
МZ0x:R2:=λx y H Q=>∃a b kvs,x= .ref a/\y= .ref b/\HTt H a kvs/\HTt H b kvs/\(∀p∈kvs,Y2 p.2=aC)/\Q (.bl aC) H
end
end L2
namespace DL
open PySem PySem.Spec PyProof.Rows L2
variable{K:ad}
МZrj(ks ks':А (А Key))(vs vs':А D):Bool:=@decide (ks=ks'/\vs=vs'/\vs.all D.isFlat=aC) (Classical.propDecidable _)
НZ0y(d1 d2:D):Б SV:=match d1,d2 with
 | .dT ks vs,.dT ks' vs'=>if Zrj ks ks' vs vs'=aC then aA (.fz (.bl aC))else aB
 |_,_=>aB
end DL
namespace DL
open PySem PySem.Spec PyProof.Rows L2
end DL
namespace DL
open PySem PySem.Spec PyProof.Rows L2
variable{K:ad}
НXw(src:А BSrc)(k:Г)(g:FG)(tt:FT)(te:FE):А D->Yk->Б Yk
 | [],δ=>aA δ
 |d::ds,δ=>(g.run d δ).bind λδ1=>(tt δ1).bind λp=>if p.1=aC then(te p.2).bind λq=>match q.1,q.2[k]? with
   | .tmp (.ol xs),aA (aA (.oL aB zs))=>if zs.length<bd then Xw src k g tt te ds (O9 src (q.2.set k (aA (.oL aB (zs++[xs])))))else aB
   |_,_=>aB
  else Xw src k g tt te ds (O9 src p.2)
НZwd(src:А BSrc)(k:Г)(fi:FD)(g:FG)(tt:FT)(te:FE):FE:=λδ=>(fi δ).bind λp=>(frzAll (caps src) p.2).bind λc=>(Xw src k g tt te p.1 ((bD src c.2).set k (aA (.oL aB [])))).bind λδb=>match δb[k]? with
 |some (aA (.oL aB ys))=>aA (.tmp (.oL aB ys),c.2)
 |_=>aB
section
variable{Z:Ent K}{H:Hp}{σ:L2.St}{Q:VK}{E:Ends}
МZk0(i p q:Г):FE:=λδ=>match δ[i]?,δ[p]?,δ[q]? with
 |some (aA (.oL aB xss)),aA (aA (.fz (.int n))),aA (aA (.fz (.lst xs)))=>if 0<=n/\n.toNat<=xss.length/\xss.length+1<=bd then aA (.tmp (.oL aB (xss.take n.toNat++[xs]++xss.drop n.toNat)),δ.set i aB)else aB
 |_,_,_=>aB
@[simp] theorem Zrk{i p q:Г}{δ:Yk}{xss:А (А D)}{n:Г}{xs:А D}(hi:δ[i]? =some (some (.oL none xss)))(hp:δ[p]? =some (some (.fz (.int (n:Г)))))(hq:δ[q]? =some (some (.fz (.lst xs))))(hn:n<=xss.length)(hz:xss.length+1<=bd):
  Zk0 i p q δ=aA (.tmp (.oL aB (xss.take n++[xs]++xss.drop n)),δ.set i aB):=by
 U Zk0;K[hi,hp,hq];dsimp only;K[Е ⟨by W,by W,hz⟩,g8]
аZ0z(K:ad):А V->Hp->VK->Prop:=λxs H Q=>∃p ys,xs=[V.ref p]/\(W5 K H p ys\/Ob K H p ys)/\∀l,H l=aB->Q (.ref l) (Z9 H l (.lst ys))
НapT(c:Str)(n:Г)(xss:А (А D)):А (А D):=(xss.take n).map (· ++[.str c])++xss.drop n
МDx(i j:Г)(c:Str):FS:=λδ=>match δ[i]? with
 |some (aA (.oL aB xss))=>if i≠j/\j<δ.length/\(∀xs∈xss,xs.length<bd)then aA (.nx ((δ.set j aB).set i (aA (.oL aB (xss.map (· ++[.str c]))))))else aB
 |_=>aB
@[simp] theorem Znf{i j:Г}{c:Str}{δ:Yk}{xss:А (А D)}(hi:δ[i]? =some (some (.oL none xss)))(hij:i≠j)(hj:j<δ.length)(hz:∀xs∈xss,xs.length<bd):Dx i j c δ=some (.nx ((δ.set j none).set i (some (.oL none (xss.map (· ++[.str c])))))):=by U Dx;K[hi];dsimp only;K[Е ⟨hij,hj,hz⟩]
МDy(i:Г):FS:=λδ=>match δ[i]? with
 |some (aA (.oL aB _))=>aA (.nx (δ.set i (aA (.ol []))))
 |_=>aB
@[simp] theorem Zng{i:Г}{δ:Yk}{xss:А (А D)}(hi:δ[i]? =some (some (.oL none xss))):Dy i δ=some (.nx (δ.set i (some (.ol [])))):=by U Dy;K[hi]
end
end DL
namespace DL
open PySem PySem.Spec PyProof.Rows L2
section
variable{X:Cx}{Z:Ent X.K}{a b c:cj}{fa fb fc:FE}{pos:Pos}
ЛZk1(i:Г){x:Str}{pos:Pos}(hN:X.N[i]? =aA x:=by rfl)(hv:Vs X.env.scope x:=by first|E Or.inl rfl|E gg (Or.inl rfl)|E gg (gg rfl))(hd:(x==("__debug__":Str))=aD:=by decide)
  (hcd:(x==("__classdict__":Str))=aD:=by decide):PE X (.Name x pos) (Bg i):=Jy hN hv hd hcd
end
end DL
namespace DL
open PySem PySem.Spec PyProof.Rows L2
variable{K:ad}
МZtv(K:ad)(C:aj)(f:Str):Sp:=λvs H Q _=>∃e p ys,vs=[.ref e,.ref p]/\H e=aA (.ext (Ci e C aB))/\(W5 K H p ys\/Ob K H p ys)/\
 ∀l,H l=aB->∀dx,Z9 H l (.lst ys) dx=aB->Q .non (Z9 (Z9 (Z9 H l (.lst ys)) dx (.xd [(f,.ref l)])) e (.ext (Ci e C (aA dx))))
МZtw(C:aj)(f:Str):Sp:=λvs H Q _=>∃e v,vs=[.ref e,v]/\H e=aA (.ext (Ci e C aB))/\
 ∀dx,H dx=aB->Q .non (Z9 (Z9 H dx (.xd [(f,v)])) e (.ext (Ci e C (aA dx))))
section
variable{Z:Ent K}{H:Hp}{σ:L2.St}{E:Ends}{Q:VK}
НZwe(c f:Str)(fe:FE):FS:=λδ=>(fe δ).bind λp=>(frz p.1 p.2).bind λq=>match q.1 with
 | .lst ds=>aA (.ex ⟨c,[f],[.lst ds]⟩ q.2)
 |_=>aB
НZwf(c f:Str)(fe:FE):FS:=λδ=>(fe δ).bind λp=>(frz p.1 p.2).bind λq=>aA (.ex ⟨c,[f],[q.1]⟩ q.2)
НZyc(cs:А Str)(f:Str):D->Б SV
 | .exc c ks vs=>if c∈cs then((ks.zip vs).lookup f).bind λd=>aA (.fz d)else aB
 |_=>aB
end
end DL
namespace DL
open PySem PySem.Spec PyProof.Rows L2
variable{K:ad}
ЛSm:∀{xs ys:А Str},xs.map V.str=ys.map V.str->xs=ys
 | [],[],_=>rfl
 | [],_::_,h=>by simp at h
 |_::_,[],h=>by simp at h
 |x::xs,y::ys,h=>by simp only[bc,List.cons.injEq]at h;O⟨h1,h2⟩:=h;C h1;K[Sm h2]
аZe6(H:Hp)(bs:А aj)(xss:А (А Str)):Prop:=Paired (λ(b:aj) (xs:А Str)=>H b=aA (.tup (xs.map V.str))) bs xss
open Classical in
МeqT(H:Hp)(ss:А Str):ah->Bool:=λw=>decide (∃b,w= .ref b/\H b=aA (.tup (ss.map V.str)))
section
variable{X:Cx}{pins:А (aj×Obj)}{σ:L2.St}{H:Hp}{s:am}
МZ00(K:ad)(neg:Bool):R2:=λx y H Q=>∃b ss a bs xss,x= .ref b/\H b=aA (.tup (ss.map V.str))/\y= .ref a/\W5 K H a (bs.map V.ref)/\Ze6 H bs xss/\Q (.bl (if neg then !(xss.any λxs=>decide (xs=ss))else xss.any λxs=>decide (xs=ss))) H
МZtx(K:ad):V->А V->Hp->VK->Prop:=λx xs H Q=>∃b ss a bs xss j,xs=[.ref b]/\H b=aA (.tup (ss.map V.str))/\x= .ref a/\W5 K H a (bs.map V.ref)/\Ze6 H bs xss/\(xss.findIdx? λxs=>decide (xs=ss))=aA j/\Q (.int (j:Г)) H
end
Нtl?:А D->Б (А (А Str))
 | []=>aA []
 | .tup ds::r=>(strs? ds).bind λx=>(tl? r).bind λt=>aA (x::t)
 |_=>aB
НinP:D->D->Б SV
 | .tup a,.lst xs=>(strs? a).bind λss=>(tl? xs).bind λxss=>aA (.fz (.bl (xss.any λx=>decide (x=ss))))
 |_,_=>aB
НZwg:D->D->Б SV
 | .tup a,.lst xs=>(strs? a).bind λss=>(tl? xs).bind λxss=>aA (.fz (.bl (!(xss.any λx=>decide (x=ss)))))
 |_,_=>aB
НZwh:А D->Б SV
 | [.lst xs,.tup a]=>(strs? a).bind λss=>(tl? xs).bind λxss=>(xss.findIdx? λx=>decide (x=ss)).bind λj=>aA (.fz (.int (j:Г)))
 |_=>aB
end DL
namespace DL
open PySem PySem.Spec PyProof.Rows L2
variable{K:ad}
section
variable{Z:Ent K}{H:Hp}{σ:L2.St}{Q:VK}
НZyd(k0:Str)(f0:FE)(j:Г)(f1:FE):FE:=λδ=>match δ[j]? with
 |some (aA (.fz (.str x)))=>(Zh f0 (Zh f1 Zs) δ).bind λp=>match p.1 with
  | [v0,v1]=>if k0=x then aB else aA (.tmp (.oK [.inr k0,.inr x] [v0,v1]),p.2)
  |_=>aB
 |_=>aB
end
end DL
namespace L2
open PySem PySem.Spec PyProof.Rows
section
variable{X:Cx}
МZty(K:ad):V->А V->Hp->VK->Prop:=λx xs H Q=>∃p ys y,x= .ref p/\xs=[y]/\W5 K H p ys/\Y2 y=aC/\ys.all Y2=aC/\Q (.int ((ys.countP λz=>Pu z y):Г)) H
МZwi:V->А V->Hp->VK->Prop:=λx xs H Q=>∃a b i,x= .str a/\xs=[.str b,.int i]/\Q (.int (Txt.find3 a b i)) H
end
end L2
namespace DL
open PySem PySem.Spec PyProof.Rows L2
variable{K:ad}
section
variable{Z:Ent K}{H:Hp}{σ:L2.St}{Q:VK}{E:Ends}
НZwj:А D->Б SV
 | [.lst xs,x]=>if x.isFlat=aC/\xs.all D.isFlat=aC then aA (.fz (.int ((xs.countP λy=>Xp y x):Г)))else aB
 |_=>aB
НZwk:А D->Б SV
 | [.str a,.str b,.int i]=>aA (.fz (.int (Txt.find3 a b i)))
 |_=>aB
НZ01(i:Г)(j:Int):FS:=λδ=>match δ[i]? with
 |some (aA (.fz (.int x)))=>aA (.nx (δ.set i (aA (.fz (.int (x+j))))))
 |_=>aB
НZye:FE:=λδ=>aA (.tmp (.oL aB [[]]),δ)
МZk2(i:Г):FS:=λδ=>match δ[i]? with
 |some (aA (.oL p xss))=>if xss.length<bd then aA (.nx (δ.set i (aA (.oL p (xss++[[]])))))else aB
 |_=>aB
@[simp] theorem Zrl{i:Г}{δ:Yk}{p:Б aj}{xss:А (А D)}(hi:δ[i]? =some (some (.oL p xss)))(hz:xss.length<bd):Zk2 i δ=some (.nx (δ.set i (some (.oL p (xss++[[]]))))):=by U Zk2;K[hi];EЕ hz
аZ02(K:ad)(i:Г):TE:=tOp (Zhr K) (Bg i) (tC (.int (-1)))
МZrm(i:Г)(fe:FE):FS:=λδ=>match δ[i]? with
 |some (aA (.oL _ xss0))=>if xss0.length=0 then aB else(fe δ).bind λq=>(frz q.1 q.2).bind λr=>match r.2[i]? with
  |some (aA (.oL p xss))=>(xss[xss.length- 1]?).bind λxs=>if xs.length<bd then aA (.nx (r.2.set i (aA (.oL p (xss.set (xss.length- 1) (xs++[r.1]))))))else aB
  |_=>aB
 |_=>aB
end
end DL
namespace DL
open PySem PySem.Spec PyProof.Rows L2
variable{K:ad}
section
variable{Z:Ent K}{H:Hp}{σ:L2.St}{Q:VK}{E:Ends}
МZk3(i:Г):FE:=λδ=>match δ[i]? with
 |some (aA (.oL _ xss))=>aA (.tmp (.fz (.int (xss.length:Г))),δ)
 |_=>aB
@[simp] theorem Zrn{i:Г}{δ:Yk}{p:Б aj}{xss:А (А D)}(hi:δ[i]? =some (some (.oL p xss))):Zk3 i δ=some (.tmp (.fz (.int (xss.length:Г))),δ):=by U Zk3;K[hi]
аZyf(K:ad):А V->Hp->VK->Prop:=λxs H Q=>∃p ys,xs=[V.ref p]/\(W5 K H p ys\/Ob K H p ys)/\Q (.int ys.length) H
МZtz(i:Г):FE:=λδ=>match δ[i]? with
 |some (aA (.oL _ xss))=>(xss[xss.length- 1]?).bind λxs=>aA (.tmp (.fz (.int (xs.length:Г))),δ)
 |_=>aB
МZt0(i:Г):FE:=λδ=>match δ[i]? with
 |some (aA (.oL _ xss))=>(xss[xss.length- 1]?).bind λxs=>(xs[xs.length- 1]?).bind λd=>aA (.tmp (.fz d),δ)
 |_=>aB
МSn(i:Г):FE:=λδ=>match δ[i]? with
 |some (aA (.oL _ (xs::_)))=>aA (.tmp (.fz (.tup xs)),δ)
 |_=>aB
@[simp] theorem Zk4{i:Г}{δ:Yk}{p:Б aj}{xss:А (А D)}{xs:А D}(hi:δ[i]? =some (some (.oL p (xs::xss)))):Sn i δ=some (.tmp (.fz (.tup xs)),δ):=by U Sn;K[hi]
аZyg(K:ad):А V->Hp->VK->Prop:=λxs H Q=>∃p ys,xs=[V.ref p]/\((W5 K H p ys/\∀l,H l=aB->Q (.ref l) (Z9 H l (.tup ys)))\/(Ob K H p ys/\Q (.ref p) H))
МZyh(j i:Г):FS:=λδ=>match δ[i]? with
 |some (aA (.oL p xss))=>(xss[xss.length- 1]?).bind λxs=>if i≠j/\j<δ.length then aA (.nx ((δ.set i (aA (.oL p xss.dropLast))).set j (aA (.ol xs))))else aB
 |_=>aB
МI9(H:Hp)(ns:Zo):Hp:=λb=>if b∈Bf ns then aB else H b
МspM(K:ad)(g:aj->А (А D)->Б (А (А D))):Sp:=λvs H Q _=>∃F a xss ws ns yss,vs=[V.ref a]/\Zi F H/\Kids K F xss ws ns/\(Bf ((a,HO.lst ws)::ns)).Nodup/\(∀p∈(a,HO.lst ws)::ns,F p.1=aB/\H p.1=aA p.2)/\g a xss=aA yss/\
 ∀H' F' ws' ns',Zi (I9 H ((a,.lst ws)::ns)) H'->Zi F F'->Zi F' H'->(∀(b:aj) (o:HO),F' b=aA o->F b=aA o\/I9 H ((a,.lst ws)::ns) b=aB)->Kids K F' yss ws' ns'->(Bf ((a,HO.lst ws')::ns')).Nodup->
  (∀p∈(a,HO.lst ws')::ns',F' p.1=aB/\I9 H ((a,.lst ws)::ns) p.1=aB/\H' p.1=aA p.2)->Q .non H'
НZe7(n:Г)(a:aj)(xss:А (А D)):Yk:=aA (.oL (aA a) xss)::dn (n- 1) aB
НZk5(a:aj)(o:Б (Б SV)):Б (А (А D)):=match o with
 |some (aA (.oL (aA b) yss))=>if b=a then aA yss else aB
 |_=>aB
НZ03(f:FS)(n:Г)(a:aj)(xss:А (А D)):Б (А (А D)):=match f (Ze7 n a xss)with
 |some (.nx δ)=>Zk5 a δ[0]?
 |_=>aB
open Classical in
МZ04(i:Г)(g:aj->А (А D)->Б (А (А D))):FS:=λδ=>match δ[i]? with
 |some (aA (.oL p xss))=>if h:∃o,∀a,g a xss=aA o then aA (.nx (δ.set i (aA (.oL p h.choose))))else aB
 |_=>aB
end
end DL
namespace DL
open PySem PySem.Spec PyProof.Rows L2
end DL
namespace L2
open PySem PySem.Spec PyProof.Rows
section
variable{X:Cx}
аZyi:А V->Hp->VK->Prop:=λxs H Q=>∃(x:Str) (n:Int),xs=[V.str x]/\PySem.intText? x=aA n/\x.length<=640/\Q (.int n) H
end
end L2
namespace DL
open PySem PySem.Spec PyProof.Rows L2
variable{K:ad}
МZyj:А D->Б SV
 | [.str x]=>if x.length<=640 then(PySem.intText? x).bind λn=>aA (.fz (.int n))else aB
 |_=>aB
end DL
namespace L2
open PySem PySem.Spec PyProof.Rows
section
variable{X:Cx}
МZyk(K:ad):V->А V->Hp->VK->Prop:=λx vs H Q=>∃l b xs zs,x= .ref l/\vs=[.ref b]/\H l=aA (.lst xs)/\Ob K H b zs/\xs.length+zs.length<=sizeLine/\Q .non (Z9 H l (.lst (xs++zs)))
ЛSq:∀{xs:А V} {its:А ah},xs.length=its.length->(∀(j:Г) (x:V) (v:ah),xs[j]? =aA x->its[j]? =aA v->Zy x v)->Z2 xs its
 | [],[],_,_=>.nil
 |x::xs,v::its,h,g=>.cons (g 0 x v rfl rfl) (Sq (by L h) λj x v a b=>g (j+1) x v (by L a) (by L b))
 | [],_::_,h,_=>nomatch h
 |_::_,[],h,_=>nomatch h
МZe8:А V->Hp->VK->Prop:=λxs H Q=>∃p kvs,xs=[.ref p]/\RdK H p kvs/\∀l,H l=aB->Q (.ref l) (Z9 H l (.lst (kvs.map λkv=>kV kv.1)))
ЛAz(hc:X.calm=aC):Jo X (.type "list") Ze8:=by
 I pins s σ H xs us Q I r h;O⟨p,kvs,rfl,⟨ep,e⟩,q⟩:=h;O⟨u,rfl,rx⟩:=Oc r;C rx;O⟨z,hd,vs,rel,dd⟩:=(show Yj X.prog X.w H s.heap p (.dK kvs ep)from Zdo I.hok e)
 V hl:vs.length=kvs.length:=(ig rel).symm;R PySem.W.kdl_call (PySem.W.kdl_dict (knd:=Zr X.prog X.w) (kvs:=vs) (ep:=ep) hd) (I.ok.hd hc) dd (by K[hl];E z) λh' tk acc' c' hk hD hacc=>?_;V hv:Z2 (kvs.map λkv=>kV kv.1) acc'.toList:=by R Sq ((aq _).trans (hl.symm.trans (hacc.1.symm.trans (ay).symm))) λj x v hx hv=>?_;O⟨k,y,e1,e2⟩:=hacc.2 j v (by K[<-c9];E hv);K[az]at hx;O⟨kv,e3,e4⟩:=cm.mp hx;O⟨q',e5,e6,_⟩:=Uo rel e3;K[e5]at e1;C e1;K[<-e4,e6];E Dw e2
 E⟨.ref s.heap.objs.size,_,I.laid (t':=tk) hk (ba _) (show Yj X.prog X.w _ h' _ (.lst (kvs.map λkv=>kV kv.1))from⟨by K[aq];E z,acc'.toList,c',hv,by L hD⟩),rfl,q _ (I.hok.fresh (ba _))⟩
end
end L2
namespace DL
open PySem PySem.Spec PyProof.Rows L2
variable{K:ad}
МSr:А D->Б SV
 | [.dK ks _]=>aA (.ol (ks.map Rw))
 |_=>aB
@[simp] theorem Zro(ks:А Key)(vs:А D):Sr [.dK ks vs]=some (.ol (ks.map Rw)):=rfl
section
variable{Z:Ent K}{H:Hp}{σ:L2.St}{Q:VK}{E:Ends}
ЛZnh:Us Z Ze8 Sr:=by
 I F H σ δ own vs ds sv Q s r e k;U Sr at e;split at e
 ·C e;cases r with
  |cons h t=>
   C t;O⟨a,kvs,rfl,ha,ek,rr⟩:=h.dK s.le;R⟨a,kvs,rfl,ha.rd,λl hl=>?_⟩;K[<-ek]at k;V hr:=Ms (K:=K) (F:=F) (kvs.map (·.1));V hr:Reps K F ((kvs.map (·.1)).map Rw) (kvs.map λkv=>kV kv.1):=by K[cg (g:=kV)]at hr;E hr
   E k.one s (.ol hr) hl
 ·C e
НSV.tup?:RV->Б (А D)
 | .tmp (.fz (.tup ys))=>aA ys
 |_=>aB
НZyl(i:Г)(fe:FE):FS:=λδ=>match δ[i]? with
 |some (aA (.ol _))=>(fe δ).bind λp=>(SV.tup? p.1).bind λys=>match p.2[i]? with
  |some (aA (.ol xs))=>if xs.length+ys.length<=bd then aA (.nx (p.2.set i (aA (.ol (xs++ys)))))else aB
  |_=>aB
 |_=>aB
end
section
variable{X:Cx}{Z:Ent X.K}{a b c:cj}{fa fb fc:FE}{pos:Pos}
ЛZni{p:Pos}(hc:X.calm=aC)(hm:X.mg "list"=aB)(ha:PE X a (Ze Z fa))(hg:Gl X "list":=by rfl)(he:a9 [a] X.env=(aD,gq a X.env)::a9 [] X.env:=by rfl)(hpl:(gr pos (a9 [] X.env)).any (·.1)=aD:=by rfl):PE X (.Call (.Name "list" p) [a] [] pos) (Ze Z (Yq Sr (Zc fa Zj))):=
 Rs (Az hc) Znh hm boot_list (Zk ha Ya he) hg Й Й he hpl
end
end DL
namespace DL
open PySem PySem.Spec PyProof.Rows L2
section
variable{K:ad}{Z:Ent K}{H:Hp}{σ:L2.St}{Q:VK}
НbmX(T:String)(g:А D->Б SV)(fo:FE)(fa:FAX):FX:=λδ=>(fo δ).bind λp=>(Iw p.1 p.2).bind λd0=>if Zmu T d0=aC then(fa p.2).bind fun
 | .x e δ2=>aA (.x e δ2)
 | .v rvs δ2=>(Oe (p.1::rvs) δ2).bind λds=>(g ds).bind λsv=>aA (.v (.tmp sv) δ2)else aB
end
end DL
namespace DL
open PySem PySem.Spec PyProof.Rows L2
section
variable{K:ad}{Z:Ent K}{H:Hp}{σ:L2.St}{Q:VK}{E:Ends}
inductive MR where
 |v (yss:А (А D))|x (e:Exn)
МZ05(K:ad)(g:aj->А (А D)->Б MR):Sp:=λvs H Q E=>∃F a xss ws ns r,vs=[V.ref a]/\Zi F H/\Kids K F xss ws ns/\(Bf ((a,HO.lst ws)::ns)).Nodup/\(∀p∈(a,HO.lst ws)::ns,F p.1=aB/\H p.1=aA p.2)/\g a xss=aA r/\match r with
 | .v yss=>∀H' F' ws' ns',Zi (I9 H ((a,.lst ws)::ns)) H'->Zi F F'->Zi F' H'->(∀(b:aj) (o:HO),F' b=aA o->F b=aA o\/I9 H ((a,.lst ws)::ns) b=aB)->Kids K F' yss ws' ns'->(Bf ((a,HO.lst ws')::ns')).Nodup->
   (∀p∈(a,HO.lst ws')::ns',F' p.1=aB/\I9 H ((a,.lst ws)::ns) p.1=aB/\H' p.1=aA p.2)->Q .non H'
 | .x e=>∀cls od H' F',Zi (I9 H ((a,.lst ws)::ns)) H'->Zi F F'->Zi F' H'->(∀(b:aj) (o:HO),F' b=aA o->F b=aA o\/I9 H ((a,.lst ws)::ns) b=aB)->Lz K F' e cls od->E cls od H'
НZym(f:FS)(n:Г)(a:aj)(xss:А (А D)):Б MR:=match f (Ze7 n a xss)with
 |some (.nx δ)=>(Zk5 a δ[0]?).map .v
 |some (.ex e _)=>aA (.x e)
 |_=>aB
open Classical in
МZyn(i:Г)(g:aj->А (А D)->Б MR):FS:=λδ=>match δ[i]? with
 |some (aA (.oL p xss))=>if h:∃o,∀a,g a xss=aA o then(match h.choose with
  | .v yss=>aA (.nx (δ.set i (aA (.oL p yss))))
  | .x e=>aA (.ex e (δ.set i aB)))else aB
 |_=>aB
МZrp(i:Г)(fx:FX):FS:=λδ=>match δ[i]? with
 |some (aA (.oL _ xss0))=>if xss0.length=0 then aB else(fx δ).bind fun
  | .x e δ1=>aA (.ex e δ1)
  | .v rv δ1=>(frz rv δ1).bind λr=>match r.2[i]? with
   |some (aA (.oL p xss))=>(xss[xss.length- 1]?).bind λxs=>if xs.length<bd then aA (.nx (r.2.set i (aA (.oL p (xss.set (xss.length- 1) (xs++[r.1]))))))else aB
   |_=>aB
 |_=>aB
end
end DL
namespace L2
open PySem PySem.Spec PyProof.Rows
end L2
namespace L2
open PySem PySem.Spec PyProof.Rows
section
variable{X:Cx}
МZyo(K:ad):R2:=λx y H Q=>∃a k xs,x= .ref a/\y= .int k/\Ob K H a xs/\xs≠[]/\2<=k/\k<=1000/\xs.length<=1000/\∀p,H p=aB->Q (.ref p) (Z9 H p (.tup (dn k.toNat xs).flatten))
end
end L2
namespace DL
open PySem PySem.Spec PyProof.Rows L2
variable{K:ad}
section
variable{Z:Ent K}
МZyp:D->D->Б SV
 | .tup xs,.int k=>if xs.isEmpty=aD/\2<=k/\k<=1000/\xs.length<=1000 then aA (.fz (.tup (dn k.toNat xs).flatten))else aB
 |_,_=>aB
end
end DL
namespace L2
open PySem PySem.Spec PyProof.Rows
section
variable{X:Cx}
МZt1:V->А V->Hp->VK->Prop:=λx xs H Q=>∃a b k,x= .str a/\xs=[.str b,.int k]/\(b.length==0)=aD/\0<=k/\k<=1000/\a.length<=sizeLine/\(Txt.splitMax a b k).length<=sizeLine/\∀p,H p=aB->Q (.ref p) (Z9 H p (.lst ((Txt.splitMax a b k).map V.str)))
end
end L2
namespace DL
open PySem PySem.Spec PyProof.Rows L2
variable{K:ad}
section
variable{Z:Ent K}
НZt2:А D->Б SV
 | [.str a,.str b,.int k]=>if(b.length==0)=aD/\0<=k/\k<=1000/\a.length<=bd/\(Txt.splitMax a b k).length<=bd then aA (.ol ((Txt.splitMax a b k).map D.str))else aB
 |_=>aB
end
end DL
namespace L2
open PySem PySem.Spec PyProof.Rows
section
variable{X:Cx}
МZwl(K:ad)(a:aj):It:=
 ⟨λi H=>∃xs x,W5 K H a xs/\xs[i]? =aA x,λi H x H'=>∃p v,x= .ref p/\H p=aB/\H'=Z9 H p (.tup [.int ((i+1:Г):Int),v])/\∀xs,W5 K H a xs->xs[i]? =aA v,λi H=>∃xs,W5 K H a xs/\xs.length<=i⟩
МZwm(K:ad)(ta:TA):TI:=λσ H R=>ta σ H λvs H1=>∃a xs,vs=[.ref a]/\W5 K H1 a xs/\R (Zwl K a) H1
end
end L2
namespace DL
open PySem PySem.Spec PyProof.Rows L2
variable{K:ad}
МZnj(xs:А D):А D:=(xs.zipIdx 1).map λp=>.tup [.int (p.2:Г),p.1]
section
variable{Z:Ent K}{H:Hp}{σ:L2.St}{Q:VK}
НZwn(fd:FD):FD:=λδ=>(fd δ).bind λp=>match p.1 with
 | [.lst xs]=>aA (Znj xs,p.2)
 |_=>aB
end
end DL
namespace DL
open PySem PySem.Spec PyProof.Rows L2
variable{K:ad}
section
variable{Z:Ent K}
НZyq:А D->Б SV
 | [.lst xs]=>aA (.fz (.int (xs.length:Г)))
 | [.tup xs]=>aA (.fz (.int (xs.length:Г)))
 | [.str x]=>if x.length<=bd then aA (.fz (.int (x.length:Г)))else aB
 | [.dK ks _]=>aA (.fz (.int (ks.length:Г)))
 |_=>aB
end
end DL
namespace DL
open PySem PySem.Spec PyProof.Rows L2
variable{K:ad}
section
variable{Z:Ent K}{H:Hp}{σ:L2.St}{Q:VK}{E:Ends}
аUR:=D×А Key×А D
аUG:=aj->А D->А Key->А D->Б UR
МspU(K:ad)(n:Г)(g:UG):Sp:=λvs H Q _=>∃F a us ds kvs ep es r,vs=us++[V.ref a]/\Zi F H/\Reps K F ds us/\ds.length=n/\Reps K F es (kvs.map (·.2))/\F a=aB/\H a=aA (.dK kvs ep)/\g a ds (kvs.map (·.1)) es=aA r/\
 ∀v H' F' kvs' ep',Zi (I9 H [(a,.dK kvs ep)]) H'->Zi F F'->Zi F' H'->(∀(b:aj) (o:HO),F' b=aA o->F b=aA o\/I9 H [(a,.dK kvs ep)] b=aB)->Rep K F' r.1 v->kvs'.map (·.1)=r.2.1->Reps K F' r.2.2 (kvs'.map (·.2))->F' a=aB->H' a=aA (.dK kvs' ep')->Q v H'
НZrq:А FS->Yk->Б Yk
 | [],δ=>aA δ
 |f::r,δ=>match f δ with
  |some (.nx δ1)=>Zrq r δ1
  |_=>aB
МZrr(Z:Ent K):А FS->TS->TS
 | [],t=>t
 |f::r,t=>Zl0 (Z5 Z f) (Zrr Z r t)
НZnk(n:Г)(a:aj)(ds:А D)(ks:А Key)(es:А D):Yk:=ds.map (λd=>aA (.fz d))++aA (.oQ a ks es)::dn (n- ds.length- 1) aB
НZrs(a:aj)(d:D):Б (Б SV)->Б UR
 |some (aA (.oQ b ks es))=>if b=a then aA (d,ks,es)else aB
 |_=>aB
НZ06(fs:А FS)(fe:FE)(n:Г):UG:=λa ds ks es=>(Zrq fs (Znk n a ds ks es)).bind λδ=>(fe δ).bind λp=>(frz p.1 p.2).bind λq=>Zrs a q.1 (q.2[ds.length]?)
МZyr(Z:Ent K)(f:FE):TE:=λσ H Q=>∃F δ own rv δ',SR Z F H σ δ own/\f δ=aA (rv,δ')/\
 ∀v H' F' own',Zi F F'->SR Z F' H' σ δ' own'->RVS K F' σ rv v->Q v H'
МZwo(Z:Ent K)(i:Г)(fd:FD):TA:=λσ H R=>Qu Z fd σ H λvs H1=>∃x,σ[i]? =aA (aA x)/\R (vs++[x]) H1
open Classical in
МZwp(i n:Г)(g:UG)(fd:FD):FE:=λδ=>(fd δ).bind λp=>if p.1.length=n then match p.2[i]? with
 |some (aA (.oK ks es))=>if h:∃r,∀a,g a p.1 ks es=aA r then aA (.tmp (.fz h.choose.1),p.2.set i (aA (.oK h.choose.2.1 h.choose.2.2)))else aB
 |_=>aB else aB
НZys(g:D->D->Б SV)(fa fb:FE):FE:=λδ=>(fa δ).bind λp=>(frz p.1 p.2).bind λq=>(fb q.2).bind λr=>(Iw r.1 r.2).bind λd2=>(g q.1 d2).bind λsv=>if sv.scal then aA (.tmp sv,r.2)else aB
НZyt(i:Г)(fe:FE):FS:=λδ=>match δ[i]? with
 |some (aA (.ol _))=>(fe δ).bind λp=>(frz p.1 p.2).bind λq=>match q.2[i]? with
  |some (aA (.ol xs))=>if xs.length<bd then aA (.nx (q.2.set i (aA (.ol (xs++[q.1])))))else aB
  |_=>aB
 |_=>aB
end
end DL
namespace DL
open PySem PySem.Spec PyProof.Rows L2
variable{K:ad}
МSkD(ks:А Key)(m:Г)(d:D):Prop:=∃vs,d= .dK ks vs/\ks.length=vs.length/\∀v∈vs,∃(x:Str) (ks2:А Key) (ys:А Str),v= .tup [.str x,.dK ks2 (ys.map D.str)]/\ys.length<=m
МZ07(W:aj->В)(H:Hp)(ks:А Key)(m:Г)(v:V):Prop:=∃a kvs ep,v= .ref a/\W a/\H a=aA (.dK kvs ep)/\kvs.map (·.1)=ks/\∀p∈kvs,∃t x b kvs2 ep2,p.2= .ref t/\W t/\H t=aA (.tup [.str x,.ref b])/\W b/\H b=aA (.dK kvs2 ep2)/\kvs2.length<=m/\∀q∈kvs2,∃y,q.2= .str y
МZyv(Z:Ent K)(F:Hp)(own:Г->Zo)(W:aj->В):Prop:=∀b,W b->F b=aB/\Z.h b=aB/\∀i p,p∈own i->p.1≠b
section
variable{Z:Ent K}{F H:Hp}{σ:L2.St}{δ:Yk}{own:Г->Zo}{W:aj->В}
open Classical in
МwH(W:aj->В)(H F:Hp):Hp:=λb=>if W b then H b else F b
МZ08(Z:Ent K)(W:aj->В)(H F:Hp):Ent K:=⟨wH W H Z.h,F,Z.x⟩
end
section
variable{Z:Ent K}{H:Hp}{σ:L2.St}{Q:VK}{E:Ends}
МZrt(i j n:Г)(ds:А D)(δ1:Yk)(sv:SV)(T1 T2:FT)(is:А D)(δ3:Yk):Prop:=
 ds.length=n/\(∀d∈ds,SV.scal (.fz d)=aC)/\i≠j/\i<δ1.length/\j<δ1.length/\∃(ks:А Key) (m:Г) (ks':А Key),SkD ks m sv.toD/\(∃δ2,T1 (δ1.set i (aA (.fz sv.toD)))=aA (aD,δ2))/\is=ks'.map Rw/\(∀k∈ks',k∈ks)/\m+ks'.length<bd/\
  ∀k∈ks',∀m' d,SkD ks m' d->∃δ4,T2 ((δ3.set i (aA (.fz d))).set j (aA (.fz (Rw k))))=aA (aD,δ4)
open Classical in
МZyw(i j n:Г)(g:А D->Б SV)(fd:FD)(T1:FT)(fi:FE)(T2:FT):FS:=λδ=>(fd δ).bind λp=>(g p.1).bind λsv=>(Xv fi (p.2.set i aB)).bind λq=>
 if Zrt i j n p.1 p.2 sv T1 T2 q.1 q.2 then aA (.nx ((q.2.set i aB).set j aB))else aB
аZ09(i j:Г)(K:ad):TE:=tOp (rIx K) (Zkd (Bg i) (Bg j)) (tC (.int 1))
МZ1a(K:ad)(fi:FE):TI:=λσ H R=>∃Z':Ent K,Qm Z' (Xv fi) σ H R
end
end DL
namespace SX
open PySem
МG4(l:А Г):Prop:=l.Pairwise (· < ·)
МAt(xs:Array Г)(j p:Г):Prop:=p<=xs.size/\(∀i y,i<p->xs[i]? =aA y->y<j)/\∀i y,p<=i->xs[i]? =aA y->j<=y
ЛBq{xs:Array Г}(h:G4 xs.toList){i k y z:Г}(hi:xs[i]? =aA y)(hk:xs[k]? =aA z)(hik:i<k):y<z:=by K[<-c9]at hi hk;O⟨a,ha⟩:=a8.mp hi;O⟨b,hb⟩:=a8.mp hk;V :=List.pairwise_iff_getElem.mp h i k a b hik;K[ha,hb]at this;E this
ЛZe9{xs:Array Г}{j:Г}(h:G4 xs.toList):∀(fuel lo hi:Г),hi<=lo+fuel->lo<=hi->hi<=xs.size->(∀i y,i<lo->xs[i]? =aA y->y<j)->(∀i y,hi<=i->xs[i]? =aA y->j<=y)->At xs j (SetTable.below.go xs j fuel lo hi)
 |0,lo,hi,h1,h2,h3,a,b=>by
  V :lo=hi:=by W
  Q this;U SetTable.below.go;E⟨h3,a,b⟩
 |fuel+1,lo,hi,h1,h2,h3,a,b=>by
  U SetTable.below.go;B hl:lo<hi
  ·K[Е hl];dsimp only;V hm:(lo+hi) / 2<xs.size:=by W
   V hg:xs.getD ((lo+hi) / 2) j=xs[(lo+hi) / 2]:=by simp[Array.getD,hm]
   V he:xs[(lo+hi) / 2]? =aA xs[(lo+hi) / 2]:=by simp[hm]
   B hc:xs.getD ((lo+hi) / 2) j<j
   ·K[Е hc];R Ze9 h fuel _ hi И И h3 (λi y hi' e=>?_) b;B hq:i=(lo+hi) / 2
    ·Q hq;K[he]at e;C e;K[<-hg];E hc
    ·V :=Bq h e he И;K[hg]at hc;W
   ·K[Д hc];R Ze9 h fuel lo _ И И И a (λi y hi' e=>?_);B hq:i=(lo+hi) / 2
    ·Q hq;K[he]at e;C e;K[<-hg];W
    ·V :=Bq h he e И;K[hg]at hc;W
  ·K[Д hl];V :lo=hi:=by W
   Q this;E⟨h3,a,b⟩
ЛA8{xs:Array Г}(h:G4 xs.toList)(j:Г):At xs j (SetTable.below xs j):=
 Ze9 h xs.size 0 xs.size И (f7 _) (ba _) (λi _ z=>absurd z И) λi y z e=>by V :=(gm.mp e).1;W
ЛDz{xs:Array Г}{j p q:Г}(a:At xs j p)(b:At xs j q):p=q:=by
 J Nat.lt_trichotomy p q with h|h|h
 ·V hp:p<xs.size:=by V :=b.1;W
  V e:xs[p]? =aA xs[p]:=by simp[hp]
  V :=a.2.2 p _ (ba _) e;V :=b.2.1 p _ h e;W
 ·E h
 ·V hq:q<xs.size:=by V :=a.1;W
  V e:xs[q]? =aA xs[q]:=by simp[hq]
  V :=b.2.2 q _ (ba _) e;V :=a.2.1 q _ h e;W
ЛZfa{xs:Array Г}{j:Г}(h:G4 xs.toList)(hn:xs[SetTable.below xs j]?≠aA j):G4 (SetTable.insertAt xs (SetTable.below xs j) j).toList:=by
 V a:=A8 h j;G SetTable.below xs j=p;K[SetTable.toList_insertAt];O⟨a1,a2,a3⟩:=a;V lo:∀y∈xs.toList.take p,y<j:=λy hy=>by
  O⟨i,hi,e⟩:=eh hy;K[List.getElem_take]at e;V hi':i<p:=by simp at hi;W
  R a2 i y hi' ?_;K[<-c9,a8];E⟨_,e⟩
 V hi:∀y∈xs.toList.drop p,j<y:=λy hy=>by
  O⟨i,hi,e⟩:=eh hy;K[List.getElem_drop]at e;V ep:xs[p+i]? =aA y:=by K[<-c9,a8];E⟨_,e⟩
  V h1:=a3 (p+i) y И ep;J Nat.lt_or_eq_of_le h1 with z|z
  ·E z
  ·Q z;cases i with
   |zero=>E absurd ep hn
   |succ i=>
    V hp:p<xs.size:=by V :=(gm.mp ep).1;W
    V e0:xs[p]? =aA xs[p]:=by simp[hp]
    V q1:=a3 p _ (ba _) e0;V q2:=Bq h e0 ep И;W
 R List.pairwise_append.mpr ⟨h.sublist (List.take_sublist _ _),List.pairwise_cons.mpr ⟨hi,h.sublist (List.drop_sublist _ _)⟩,λa ha b hb=>?_⟩;J bx.mp hb with z|z
 ·K[z];E lo a ha
 ·E Nat.lt_trans (lo a ha) (hi b z)
structure Tab(B:Bool)(t:g7):В where
 led:t.led= !B
 dum:t.dummies= #[]
 rise:t.plain=aC->G4 t.place.toList
ЛD0(j:Г):SetTable.has #[] j=aD:=by U SetTable.has;simp
end SX
namespace SX
open PySem PyProof.Rows
variable{prog:b6}{w:c7}{A:dh}{E:ah->am->В}{s:am}
аZwq(l:А (Int×ah)):А Int:=l.map λe=>numOf e.2
МOwn(prog:b6)(w:c7)(B:Bool)(o:Obj)(ks:А Int):Prop:=∃es ep t,o.ExactSet/\o.data= .set es ep t/\ElemsOf (intKind prog w) es.toList/\(Zwq es.toList).Perm ks/\t.fits es.size=aC/\Tab B t/\es.size<scanBound
end SX
namespace SX
open PySem PySem.Spec PyProof.Rows
Мdd(val:Г->Int):Г->А Int
 |0=>[]
 |i+1=>if val i∈dd val i then dd val i else dd val i++[val i]
аBy(w:c7):Bool:=w.params.followText "set-order"
аMu(w:c7):Obj:={cls:=.type "set",dict:=aB,data:=.set #[] 0 (.fresh 0 0 (!By w))}
section
variable{prog:b6}{w:c7}{A:dh}{E:ah->am->В}{s:am}
ЛZix(a:ah){Q:ah->am->В}(h:Q (.ref s.heap.objs.size) {s with heap:=s.heap.push (Mu w)}):
  codeAny (b4 prog w) A (.call (.builtin "set.__new__") ⟨[.type "set",a],[]⟩) (wants Q E) s:=by
 R codeAny_of_tree ?_;T bg _ A.in1 (checkBuiltinCall "set.__new__" ⟨[.type "set",a],[]⟩>>=λ_=>again (.builtin "set.__new__" ⟨[.type "set",a],[]⟩)) _ _ s;R ac (wpAny_of_eq (PySem.F.newCall_set_1 a) (ag ⟨plainId_quiet PySem.F.plain_set_new _,codeAny_builtin PySem.F.entry_set_new ?_⟩));K[ie PySem.F.plain_set_new _];V hs:=sub_set_self;O⟨hp,g,d,tk,os⟩:=s;U Builtin.«set.__new__» Builtin.Frozenset.newClass;dsimp only;wp_walk;R wpAny_askSetting (ag ?_);dsimp only;simp only[newObj];E ac (wpAny_alloc (ag (ag h)))
end
end SX
namespace SX
open PySem PySem.Spec PyProof.Rows
ЛWt:Slot "set_iterator" "__next__" "set_iterator.__next__":=
 .of (owner:="set_iterator") (n:="__next__") (by K[typeLookup_type,builtinLookup_eq_fast];kernel_rfl) (by decide+kernel) (by decide+kernel) (by decide+kernel) (by first|E .inl (by decide+kernel)|E .inr (by decide+kernel)) (by K[isSubtype_type];kernel_rfl)
ЛBr:entryFor table "set_iterator.__next__"=aA Builtin.«set_iterator.__next__»:=entryFor_of_tree (by kernel_rfl)
ЛGa(a:ah):argsOk "set_iterator.__next__" ⟨[a],[]⟩:=by U argsOk;kernel_rfl
ЛXx:entryFor table "set.__iter__"=aA Builtin.«frozenset.__iter__»:=entryFor_alias (id':="frozenset.__iter__") (by kernel_rfl) rfl (by decide+kernel) (by kernel_rfl)
section
variable{prog:b6}{w:c7}{A:dh}{E:ah->am->В}{s:am}
ЛZfb{src:Source}{n:Г}{Q:Г->am->В}(hn:n≠0)(h:∀i d,i<n->Q i {s with drawn:=d}):bg (b4 prog w) A (choose src n) Q E s:=
 λ_ _ _=>⟨hn,h _ _ (Nat.mod_lt _ (Nat.pos_of_ne_zero hn))⟩
ЛMv{α:Type}:∀(l:А α) (i:Г) (h:i<l.length),(l[i]::l.eraseIdx i).Perm l
 |x::l,0,_=>List.Perm.refl _
 |x::l,i+1,h=>(List.Perm.swap x _ _).trans ((Mv l i (by L h)).cons x)
ЛZfc{α:Type}:∀(n:Г) (xs:А α) (s:am) {Q:А α->am->В},n=xs.length->(∀ys d,ys.Perm xs->Q ys {s with drawn:=d})->bg (b4 prog w) A (drawOrder n xs) Q E s
 |0,[],s,Q,_,h=>by U drawOrder;E ag (h [] s.drawn (List.Perm.refl _))
 |n+1,x::xs,s,Q,hn,h=>by
  U drawOrder;R ac (Zfb К λi d hi=>?_);V e:(x::xs)[i]? =aA (x::xs)[i]:=av hi;K[e];dsimp only;V hl:n=((x::xs).eraseIdx i).length:=by K[List.length_eraseIdx_of_lt hi];L hn
  R ac (Zfc n ((x::xs).eraseIdx i) _ hl λys d' hp=>ag (h _ d' ?_));E(hp.cons _).trans (Mv _ i hi)
 |0,_::_,_,_,hn,_=>by simp at hn
 |_+1,[],_,_,hn,_=>by simp at hn
end
аVu(first:ah)(i:Г)(r:aj)(n ep:Г):Obj:={cls:=.type "set_iterator",dict:=aB,data:=.fields #[first,.int (i:Int) 0,.ref r,.int (n:Int) 0,.int (ep:Int) 0],slots:= #[]}
аMw(ps:А Г):Obj:={cls:=.type "tuple",data:=.seq (ps.map λi:Г=>rawInt i).toArray}
section
variable{prog:b6}{w:c7}{A:dh}{E:ah->am->В}{s:am}{r:aj}{o:Obj}{es:Array (Int×ah)}{ep:Г}{t:g7}
ЛZiy{Q:ah->am->В}(ho:s.heap.get? r=aA o)(hx:o.ExactSet)(hd:o.data= .set es ep t)(hf:t.fits es.size=aC)(hb:es.size<scanBound)
  (hN:(!By w&&(!t.plain&&decide (es.size > 1)))=aD->Q (.ref s.heap.objs.size) {s with heap:=s.heap.push (Vu (.int 0 0) 0 r es.size ep)})
  (hD:(!By w&&(!t.plain&&decide (es.size > 1)))=aC->∀ps d,ps.Perm (cq es.size)->Q (.ref (s.heap.objs.size+1)) {s with heap:=(s.heap.push (Mw ps)).push (Vu (.ref s.heap.objs.size) 0 r es.size ep),drawn:=d}):
  bg (b4 prog w) A (pyIter (.ref r)) Q E s:=by
 V hT:s.TypeIs (.ref r) "set":=⟨o,ho,hx.1⟩
 R wpAny_pyIter_slot hT PySem.F.slot_set_iter (dr PySem.F.slot_set_iter hT Xx ?_ (PySem.F.args_set_iter_1 _));U Builtin.«frozenset.__iter__»;R ac (m:=Builtin.Frozenset.slot0 "__iter__" ⟨[.ref r],[]⟩) (Q:=_) (ag ?_);R ac (m:=Builtin.Frozenset.sizeOf r) ?_;U Builtin.Frozenset.sizeOf;R ac (wpAny_setEntries_of ho hd hf (ag ?_));R ac ?_;U setDrawn;R ac (wpAny_setState_of ho hd hf ?_);U setsByText;R ac (ac (wpAny_askSetting (ag ?_)));R ag ?_;T bg _ _ (if(!By w&&(!t.plain&&decide (es.size > 1)))=aC then _ else _) _ _ _;cases hc:(!By w&&(!t.plain&&decide (es.size > 1)))with
 |false=>K[Д К];R ac (ag ?_);R ac (wpAny_setEpoch_of ho hd hf ?_);R ac (m:=newFields _ _) (ff (ag ⟨_,rfl,"set_iterator",_,⟨_,bp _ rfl,rfl⟩,Wt.lookup,hN hc⟩))
 |true=>K[Е rfl];V hl:(cq es.size).length=es.size:=List.length_range;R ac ?_;R Zfc _ (cq es.size) _ hl.symm λps d hp=>?_;V pl:ps.length=es.size:=hp.length_eq.trans hl;R ac (wpAny_newTuple ?_ (by K[aq,pl];E fits_of_scanBound hb));V ho2:(s.heap.push (Mw ps)).get? r=aA o:=au _ ho;R ac (wpAny_setEpoch_of (s:={s with heap:=s.heap.push (Mw ps),drawn:=d}) ho2 hd hf ?_);V sz:(s.heap.push (Mw ps)).objs.size=s.heap.objs.size+1:=Heap.size_push _ _;R ac (m:=newFields _ _) (ff (ag ⟨_,rfl,"set_iterator",_,⟨_,bp _ rfl,rfl⟩,Wt.lookup,?_⟩));V z:=hD hc ps d hp;K[<-sz]at z;E z
end
end SX
namespace SX
open PySem PySem.Spec PyProof.Rows
section
variable{prog:b6}{w:c7}{A:dh}{E:ah->am->В}{s:am}{I r:aj}{o:Obj}{es:Array (Int×ah)}{ep:Г}{t:g7}{slot i nx:Г}{x:ah}{Q:Б ah->am->В}
аNj(prog:b6)(w:c7)(A:dh)(s:am)(r:aj)(slot i ep:Г)(y:Б (ah×Г)):Prop:=∀(R:Б (ah×Г)->am->В) (E':ah->am->В),R y s->bg (b4 prog w) A (setNext r slot i ep) R E' s
ЛZk6(hI:s.heap.get? I=aA (Vu (.int (slot:Int) 0) i r es.size ep))(ho:s.heap.get? r=aA o)(hd:o.data= .set es ep t)(hf:t.fits es.size=aC)(hn:Nj prog w A.in1 s r slot i ep (aA (x,nx)))
  (hQ:∀h',h'.get? I=aA (Vu (.int (nx:Int) 0) (i+1) r es.size ep)->io I s.heap h'->Q (aA x) {s with heap:=h'}):bg (b4 prog w) A (pyNext (.ref I)) Q E s:=by
 V hT:s.TypeIs (.ref I) "set_iterator":=⟨_,hI,rfl⟩
 U pyNext;R ac (wpAny_attempt (gd (name:=Str.ofString "__next__") hT Wt (dr Wt hT Br ?_ (Ga _))));U Builtin.«set_iterator.__next__»;R ac (m:=slotArgs "__next__" 0 ⟨[.ref I],[]⟩) (ag ?_);R ac (wpAny_fieldsOf hI rfl ?_);dsimp only;R ac (wpAny_setEntries_of ho hd hf ?_);K[Д К];simp only[g8];R ac (hn _ _ ?_);dsimp only;R ac (wpAny_setField_rec hI К λh1 g1 b1=>?_);R ac (wpAny_setField_rec (s:={s with heap:=h1}) g1 К λh2 g2 b2=>?_);R ag ⟨_,rfl,ag (hQ h2 ?_ (b1.trans b2))⟩;K[g2];rfl
ЛZk7(hh:A.handled=aB)(hI:s.heap.get? I=aA (Vu (.int (slot:Int) 0) i r es.size ep))(ho:s.heap.get? r=aA o)(hd:o.data= .set es ep t)(hf:t.fits es.size=aC)(hn:Nj prog w A.in1 s r slot i ep aB)
  (hQ:∀h',Heap.ExtBut I s.heap h'->Q aB {s with heap:=h'}):bg (b4 prog w) A (pyNext (.ref I)) Q E s:=by
 V hT:s.TypeIs (.ref I) "set_iterator":=⟨_,hI,rfl⟩
 U pyNext;R ac (wpAny_attempt (gd (name:=Str.ofString "__next__") hT Wt (dr Wt hT Br ?_ (Ga _))));U Builtin.«set_iterator.__next__»;R ac (m:=slotArgs "__next__" 0 ⟨[.ref I],[]⟩) (ag ?_);R ac (wpAny_fieldsOf hI rfl ?_);dsimp only;R ac (wpAny_setEntries_of ho hd hf ?_);K[Д К];simp only[g8];R ac (hn _ _ ?_);dsimp only;R ac (wpAny_setField_rec hI К λh1 g1 b1=>?_);R ac (m:=newExc (.type "StopIteration") []) ?_;simp only[newExc,newTuple];R ac (ff ?_ (by size_fits));R ac (m:=firstArgMember _ _) (wpAny_of_eq (a:=ck) (by first|rfl| (simp only[firstArgMember];rfl)) ?_);R ff ?_ (by size_fits);simp only[raiseNew];R ac (wpAny_handled ?_);K[show A.in1.handled=aB from hh];R ac (ag (wpAny_throw ?_));R ac (wpAny_isInstance (T:="StopIteration") (b:=aC) ⟨_,bp _ rfl,rfl⟩ isSubtype_stop ?_);E ag (hQ _ ((b1.extBut.push _).push _))
ЛKf(hB:By w=aD)(ho:s.heap.get? r=aA o)(hd:o.data= .set es ep t)(hf:t.fits es.size=aC)(hl:t.led=aC)(hr:(!t.plain&&decide (es.size > 1))=aD):
  Nj prog w A s r slot i ep (match es[SetTable.below t.place slot]?,t.place[SetTable.below t.place slot]? with
   |some (_,x),aA j=>aA (x,j+1)
   |_,_=>aB):=by
 I R E' h;U setNext;R ac (wpAny_setState_of ho hd hf ?_);dsimp only;U setsByText;R ac (ac (wpAny_askSetting (ag ?_)));V e1:(b4 prog w).w.params.followText "set-order"=aD:=hB;dsimp only;K[Д (by K[e1];simp)];T bg _ _ (if(!t.plain&&decide (es.size > 1))=aC then _ else _) _ _ _;K[Д (by K[hr];simp)];R ac ?_;show bg _ _ (if(!t.led&& !es.isEmpty)=aC then _ else _) _ _ _;K[Д (by K[hl];simp)];E ag (ag h)
ЛSs(hB:By w=aC)(ho:s.heap.get? r=aA o)(hd:o.data= .set es ep t)(hf:t.fits es.size=aC):
  Nj prog w A s r slot i ep (((pickOrder (w.params.setOrder r ep) es)[i]?).map λe=>(e.2,slot)):=by
 I R E' h;U setNext;R ac (wpAny_setState_of ho hd hf ?_);dsimp only;U setsByText;R ac (ac (wpAny_askSetting (ag ?_)));V e1:(b4 prog w).w.params.followText "set-order"=aC:=hB;dsimp only;K[Е (by K[e1])];K[Д К];R ac ?_;U setWalk;R ac (wpAny_setState_of ho hd hf ?_);dsimp only;U setsByText;R ac (ac (wpAny_askSetting (ag ?_)));dsimp only;K[Е (by K[e1])];R ac (wpAny_askSetting (ag ?_));E ag h
variable{T:aj}{ps:А Г}
ЛZrv{p:Г}{hx:Int}(hI:s.heap.get? I=aA (Vu (.ref T) i r es.size ep))(hT0:s.heap.get? T=aA (Mw ps))(hp:ps[i]? =aA p)(he:es[p]? =aA (hx,x))(ho:s.heap.get? r=aA o)(hd:o.data= .set es ep t)(hf:t.fits es.size=aC)
  (hQ:∀h',h'.get? I=aA (Vu (.ref T) (i+1) r es.size ep)->io I s.heap h'->Q (aA x) {s with heap:=h'}):bg (b4 prog w) A (pyNext (.ref I)) Q E s:=by
 V hT:s.TypeIs (.ref I) "set_iterator":=⟨_,hI,rfl⟩
 U pyNext;R ac (wpAny_attempt (gd (name:=Str.ofString "__next__") hT Wt (dr Wt hT Br ?_ (Ga _))));U Builtin.«set_iterator.__next__»;R ac (m:=slotArgs "__next__" 0 ⟨[.ref I],[]⟩) (ag ?_);R ac (wpAny_fieldsOf hI rfl ?_);dsimp only;R ac (wpAny_setEntries_of ho hd hf ?_);K[Д К];R ac (m:=seqItems? (.ref T)) ?_;U seqItems?;R ac (wpAny_load hT0 (ag ?_));dsimp only;V e1:(ps.map λi:Г=>rawInt i).toArray[((i:Г):Int).toNat]? =aA (.int (p:Int) 0):=by simp[hp,rawInt]
 K[e1];dsimp only;R ac ?_;U setNextDrawn;R ac (wpAny_setState_of ho hd hf ?_);dsimp only;K[Д К];V e2:es[((p:Г):Int).toNat]? =aA (hx,x):=by L he
 K[e2];R ag ?_;R ac (wpAny_setField_rec hI К λh1 g1 b1=>?_);R ag ⟨_,rfl,ag (hQ h1 ?_ b1)⟩;K[g1];rfl
ЛZrw(hh:A.handled=aB)(hI:s.heap.get? I=aA (Vu (.ref T) i r es.size ep))(hT0:s.heap.get? T=aA (Mw ps))(hp:ps[i]? =aB)(ho:s.heap.get? r=aA o)(hd:o.data= .set es ep t)(hf:t.fits es.size=aC)
  (hQ:∀h',Heap.ExtBut I s.heap h'->Q aB {s with heap:=h'}):bg (b4 prog w) A (pyNext (.ref I)) Q E s:=by
 V hT:s.TypeIs (.ref I) "set_iterator":=⟨_,hI,rfl⟩
 U pyNext;R ac (wpAny_attempt (gd (name:=Str.ofString "__next__") hT Wt (dr Wt hT Br ?_ (Ga _))));U Builtin.«set_iterator.__next__»;R ac (m:=slotArgs "__next__" 0 ⟨[.ref I],[]⟩) (ag ?_);R ac (wpAny_fieldsOf hI rfl ?_);dsimp only;R ac (wpAny_setEntries_of ho hd hf ?_);K[Д К];R ac (m:=seqItems? (.ref T)) ?_;U seqItems?;R ac (wpAny_load hT0 (ag ?_));dsimp only;V e1:(ps.map λi:Г=>rawInt i).toArray[((i:Г):Int).toNat]? =aB:=by simp only[g8,List.getElem?_toArray,az,hp,Option.map_none]
 K[e1];dsimp only;R ac (wpAny_setField_rec hI К λh1 g1 b1=>?_);R ac (wpAny_setField_rec (s:={s with heap:=h1}) g1 К λh2 g2 b2=>?_);R ac (m:=newExc (.type "StopIteration") []) ?_;simp only[newExc,newTuple];R ac (ff ?_ (by size_fits));R ac (m:=firstArgMember _ _) (wpAny_of_eq (a:=ck) (by first|rfl| (simp only[firstArgMember];rfl)) ?_);R ff ?_ (by size_fits);simp only[raiseNew];R ac (wpAny_handled ?_);K[show A.in1.handled=aB from hh];R ac (ag (wpAny_throw ?_));R ac (wpAny_isInstance (T:="StopIteration") (b:=aC) ⟨_,bp _ rfl,rfl⟩ isSubtype_stop ?_);E ag (hQ _ (((b1.trans b2).extBut.push _).push _))
end
end SX
namespace SX
open PySem PySem.Spec PyProof.Rows
аFa(acc:Array ah)(c:Г):Obj:={cls:=.type "list",dict:=aB,data:=.seq acc c,slots:= #[]}
structure Tells(prog:b6)(w:c7)(A:dh)(I:aj)(fp:А aj)(ord:А ah)(St:Г->d6->В):В where
 mem:I∈fp
 keep:∀i h h',St i h->(∀b∈fp,∀o,h.get? b=aA o->h'.get? b=aA o)->St i h'
 step:∀i (s:am) x (Q:Б ah->am->В) (E:ah->am->В),St i s.heap->ord[i]? =aA x->(∀h',St (i+1) h'->io I s.heap h'->Q (aA x) {s with heap:=h'})->bg (b4 prog w) A (pyNext (.ref I)) Q E s
 stop:∀(s:am) (Q:Б ah->am->В) (E:ah->am->В),St ord.length s.heap->(∀h',Heap.ExtBut I s.heap h'->Q aB {s with heap:=h'})->bg (b4 prog w) A (pyNext (.ref I)) Q E s
section
variable{prog:b6}{w:c7}{A:dh}{E:ah->am->В}{R:Result->am->В}{I S:aj}{fp:А aj}{ord:А ah}{St:Г->d6->В}
ЛD1(T:Tells prog w A.in1 I fp ord St)(hS:S∉fp)(hz:ord.length<=10000)(res:ah):∀(m i:Г) (s:am) (c:Г),i+m=ord.length->St i s.heap->s.heap.get? S=aA (Fa (ord.take i).toArray c)->
  (∀h' c',(∀b x,b≠S->b≠I->s.heap.get? b=aA x->h'.get? b=aA x)->h'.get? S=aA (Fa ord.toArray c')->R (.ok (.ret res)) {s with heap:=h'})->codeAny (b4 prog w) A (.builtin "list.extend.loop" ⟨[.ref S,.ref I,res],[]⟩) R s:=by
 V hSI:S≠I:=λz=>hS (z▸T.mem);I m;induction m with
 |zero=>intro i s c hi st hl hR;obtain rfl:i=ord.length:=hi;K[List.take_length]at hl;R codeAny_builtin PySem.F.entry_extend_loop ?_;K[ie PySem.F.plain_extend_loop _];T bg _ A.in1 (pyNext (.ref I) >>=_) _ _ s;R ac (T.stop s _ _ st λh' ex=>?_);E ag (hR h' c (λb x _ hb e=>ex b x hb e) (ex S _ hSI hl))
 |succ m ih=>
  I i s c hi st hl hR;V hlt:i<ord.length:=by W
  R codeAny_builtin PySem.F.entry_extend_loop ?_;K[ie PySem.F.plain_extend_loop _];T bg _ A.in1 (pyNext (.ref I) >>=_) _ _ s;R ac (T.step i s ord[i] _ _ st (by simp[hlt]) λh1 st1 b1=>?_);V l1:h1.get? S=aA (Fa (ord.take i).toArray c):=(b1.2 S hSI).trans hl;V tk:(ord.take i).toArray.push ord[i]=(ord.take (i+1)).toArray:=by K[List.take_add_one,av hlt];simp
  T bg _ A.in1 (updateSeq S (·.push ord[i]) >>=_) _ _ _;R ac (wpAny_updateSeq l1 rfl (ag ⟨plainId_quiet PySem.F.plain_extend_loop _,?_⟩) (by K[bq,gw,fu];W) (by show((ord.take i).toArray.push ord[i]).size<=_;K[tk,bq,gw,fu];W));V g2:=g6 (di (·.push ord[i])) l1 rfl;V hm:∃c',di (·.push ord[i]) (Fa (ord.take i).toArray c)=Fa (ord.take (i+1)).toArray c':=by K[<-tk];E⟨_,rfl⟩
  O⟨c',hc'⟩:=hm;K[hc']at g2;R ih (i+1) _ c' И (T.keep _ _ _ st1 λb hb x e=>(Heap.get?_update_other _ _ (λz:S=b=>hS (by K[z];E hb))).trans e) g2 λh3 c3 k3 g3=>?_;E hR h3 c3 (λb x hb hbI e=>k3 b x hb hbI ((Heap.get?_update_other _ _ (Ne.symm hb)).trans ((b1.2 b hbI).trans e))) g3
ЛZiz{s:am}{r:aj}{Q:Bool->am->В}(hT:s.TypeIs (.ref r) "set")(h:Q aD s):bg (b4 prog w) A (Builtin.List.listLengthHint (.ref r)) Q E s:=by
 U Builtin.List.listLengthHint;R ac (wpAny_specialOf hT PySem.F.slot_set_len.lookup ?_);generalize hid:("set.__len__":String)=id0
 wp_delta
 K[show splitId id0=aA ("set","__len__")from by Q hid;decide+kernel];Q hid;R ac (wpAny_isInstance (T:="set") (b:=aC) hT sub_set_self ?_);R wpAny_ite_split (λz=>absurd z Й) λ_=>?_;R wpAny_ite_split (λ_=>?_) λz=>absurd (by decide+kernel) z;E ac (wpAny_typeOf hT (ag h))
ЛD2{α:Type}(f:Г->Г):∀(n k:Г) (l:А α) (out:Array α),n=l.length->(pickOrder.go f n k l out).toList.Perm (out.toList++l)
 |0,k,l,out,h=>by V :l=[]:=List.eq_nil_of_length_eq_zero h.symm;Q this;U pickOrder.go;simp
 |n+1,k,l,out,h=>by
  U pickOrder.go;V hp:0<l.length:=by W
  V hm:f k % l.length<l.length:=Nat.mod_lt _ hp;K[av hm];dsimp only;R(D2 f n (k+1) _ _ (by K[List.length_eraseIdx_of_lt hm];W)).trans ?_;K[Array.toList_push,gp];E(Mv l _ hm).append_left _
ЛZfd{α:Type}(f:Г->Г)(xs:Array α):(pickOrder f xs).toList.Perm xs.toList:=by V :=D2 f xs.size 0 xs.toList #[] (ay).symm;simpa[pickOrder]using this
end
end SX
namespace SX
open PySem PySem.Spec PyProof.Rows
section
variable{prog:b6}{w:c7}{A:dh}{E:ah->am->В}{s:am}{I r T:aj}{o:Obj}{es:Array (Int×ah)}{ep:Г}{t:g7}
Мsl(t:g7):Г->Г
 |0=>0
 |i+1=>t.place.getD i 0+1
ЛZk8{t:g7}(h:G4 t.place.toList){i:Г}(hi:i<=t.place.size):SetTable.below t.place (sl t i)=i:=by
 R Dz (A8 h _) ⟨hi,λk y hk e=>?_,λk y hk e=>?_⟩
 ·cases i with
  |zero=>W
  |succ i=>
   V hp:i<t.place.size:=by W
   V e2:t.place[i]? =aA t.place[i]:=by simp[hp]
   V eg:sl t (i+1)=t.place[i]+1:=by U sl;simp[Array.getD,hp]
   K[eg];B z:k=i
   ·Q z;K[e2]at e;C e;W
   ·V :=Bq h e e2 И;W
 ·cases i with
  |zero=>E f7 _
  |succ i=>
   V hp:i<t.place.size:=by W
   V e2:t.place[i]? =aA t.place[i]:=by simp[hp]
   V eg:sl t (i+1)=t.place[i]+1:=by U sl;simp[Array.getD,hp]
   K[eg];V :=Bq h e2 e И;W
ЛT9{r I:aj}(h:r≠I){h1 h2:d6}(b:io I h1 h2){x:Obj}(e:h1.get? r=aA x):h2.get? r=aA x:=(b.2 r h).trans e
ЛXy(hh:A.handled=aB)(hr:r≠I)(hd:o.data= .set es ep t)(hf:t.fits es.size=aC)(hB:By w=aD)(hl:t.led=aC)(hp:(!t.plain&&decide (es.size > 1))=aD)(rise:G4 t.place.toList)(sz:t.place.size=es.size):
  Tells prog w A I [I,r] (es.toList.map (·.2)) (λi h=>h.get? I=aA (Vu (.int (sl t i:Int) 0) i r es.size ep)/\h.get? r=aA o):=by
 R⟨by simp,λi h h' st k=>⟨k I К _ st.1,k r К _ st.2⟩,λi s x Q E st hx hQ=>?_,λs Q E st hQ=>?_⟩
 ·K[az]at hx;O⟨e,he,rfl⟩:=cm.mp hx;K[c9]at he;V hi:i<es.size:=(gm.mp he).1;V hi':i<t.place.size:=by W
  V e2:t.place[i]? =aA t.place[i]:=by simp[hi']
  V nx:=Kf (prog:=prog) (w:=w) (A:=A.in1) (s:=s) (slot:=sl t i) (i:=i) hB st.2 hd hf hl hp;K[Zk8 rise И,he,e2]at nx;R Zk6 st.1 st.2 hd hf nx λh' g b=>hQ h' ⟨?_,T9 hr b st.2⟩ b;V eg:sl t (i+1)=t.place[i]+1:=by U sl;simp[Array.getD,hi']
  K[eg];E g
 ·V hn:(es.toList.map (·.2)).length=es.size:=by K[aq,ay]
  K[hn]at st;V nx:=Kf (prog:=prog) (w:=w) (A:=A.in1) (s:=s) (slot:=sl t es.size) (i:=es.size) hB st.2 hd hf hl hp;K[Zk8 rise И,show es[es.size]? =aB by simp]at nx;E Zk7 hh st.1 st.2 hd hf nx hQ
ЛZb3(hh:A.handled=aB)(hr:r≠I)(hd:o.data= .set es ep t)(hf:t.fits es.size=aC)(hB:By w=aC):
  Tells prog w A I [I,r] ((pickOrder (w.params.setOrder r ep) es).toList.map (·.2)) (λi h=>h.get? I=aA (Vu (.int ((0:Г):Int) 0) i r es.size ep)/\h.get? r=aA o):=by
 R⟨by simp,λi h h' st k=>⟨k I К _ st.1,k r К _ st.2⟩,λi s x Q E st hx hQ=>?_,λs Q E st hQ=>?_⟩
 ·K[az]at hx;O⟨e,he,rfl⟩:=cm.mp hx;K[c9]at he;V nx:=Ss (prog:=prog) (w:=w) (A:=A.in1) (s:=s) (slot:=0) (i:=i) hB st.2 hd hf;K[he]at nx;E Zk6 st.1 st.2 hd hf nx λh' g b=>hQ h' ⟨g,T9 hr b st.2⟩ b
 ·V nx:=Ss (prog:=prog) (w:=w) (A:=A.in1) (s:=s) (slot:=0) (i:=((pickOrder (w.params.setOrder r ep) es).toList.map (·.2)).length) hB st.2 hd hf;K[aq,ay,show(pickOrder (w.params.setOrder r ep) es)[(pickOrder (w.params.setOrder r ep) es).size]? =aB by simp]at nx;K[aq,ay]at st;E Zk7 hh st.1 st.2 hd hf nx hQ
ЛXz(hh:A.handled=aB)(hr:r≠I)(hT:T≠I)(hd:o.data= .set es ep t)(hf:t.fits es.size=aC){ps:А Г}(hp:∀p∈ps,p<es.size):
  Tells prog w A I [I,r,T] (ps.map λp=>(es.getD p (0,.none)).2) (λi h=>h.get? I=aA (Vu (.ref T) i r es.size ep)/\h.get? r=aA o/\h.get? T=aA (Mw ps)):=by
 R⟨by simp,λi h h' st k=>⟨k I К _ st.1,k r К _ st.2.1,k T К _ st.2.2⟩,λi s x Q E st hx hQ=>?_,λs Q E st hQ=>?_⟩
 ·K[az]at hx;O⟨p,he,rfl⟩:=cm.mp hx;V lt:=hp p (b5 he);V e2:es[p]? =aA ((es.getD p (0,.none)).1,(es.getD p (0,.none)).2):=by simp[Array.getD,lt]
  E Zrv st.1 st.2.2 he e2 st.2.1 hd hf λh' g b=>hQ h' ⟨g,T9 hr b st.2.1,T9 hT b st.2.2⟩ b
 ·K[aq]at st;E Zrw hh st.1 st.2.2 К st.2.1 hd hf hQ
end
end SX
namespace SX
open PySem PySem.Spec PyProof.Rows
section
variable{prog:b6}{w:c7}{A:dh}{E:ah->am->В}{s:am}{I r S:aj}{o:Obj}{ks:А Int}
ЛNk{R:Result->am->В}{fp:А aj}{ord:А ah}{St:Г->d6->В}{res:ah}{c:Г}(T:Tells prog w A.in1 I fp ord St)(hS:S∉fp)(hz:ord.length<=10000)(hT:s.TypeIs (.ref r) "set")(st:St 0 s.heap)(hl:s.heap.get? S=aA (Fa #[] c)){f:Bool->Bool}
  (hR:∀h' c',(∀b x,b≠S->b≠I->s.heap.get? b=aA x->h'.get? b=aA x)->h'.get? S=aA (Fa ord.toArray c')->R (.ok (.ret res)) {s with heap:=h'}):
  bg (b4 prog w) A.in1 (do
   let room<-holding [.ref I] (Builtin.List.listLengthHint (.ref r))
   if f room=aC then do
    rule "list.extend.makes-room"
    Builtin.List.listTouch (.ref S)
    again (.builtin "list.extend.loop" ⟨[.ref S,.ref I,res],[]⟩)
   else again (.builtin "list.extend.loop" ⟨[.ref S,.ref I,res],[]⟩))
   (λfin s'=>match fin with| .done f=>R (.ok f) s'| .again c'=>c'.quiet=aC/\codeAny (b4 prog w) A c' R s') (λe s'=>R (.error e) s') s:=by
 R ac (gn (Ziz hT ?_));R wpAny_ite_split (λ_=>?_) (λ_=>ag ⟨plainId_quiet PySem.F.plain_extend_loop _,D1 T hS hz res ord.length 0 s c И st (by L hl) hR⟩);R ac (wpAny_rule (ac ?_));T bg _ _ (updateSeq S (·.push .none) >>=λ_=>updateSeq S (·.pop)) _ _ _;R ac (wpAny_updateSeq hl rfl ?_);V l2:=g6 (di (·.push ck)) hl rfl;R wpAny_updateSeq (hz:=by seq_fits) l2 rfl ?_;V l3:=g6 (di (·.pop)) l2 rfl;V oth:∀b x,b≠S->s.heap.get? b=aA x->((s.heap.update S (di (·.push ck))).update S (di (·.pop))).get? b=aA x:=
  λb x hb e=>(Heap.get?_update_other _ _ (Ne.symm hb)).trans ((Heap.get?_update_other _ _ (Ne.symm hb)).trans e)
 R ag ⟨plainId_quiet PySem.F.plain_extend_loop _,D1 T hS hz res ord.length 0 _ _ И (T.keep _ _ _ st λb hb x e=>oth b x (λz=>hS (z▸hb)) e) l3 λh' c' k g=>?_⟩;E hR h' c' (λb x hb hI e=>k b x hb hI (oth b x hb e)) g
end
end SX
namespace SX
open PySem PySem.Spec PyProof.Rows
end SX
namespace SX
open PySem PySem.Spec PyProof.Rows
Мsrt(ns:А Int):А Int:=(dd (λi=>ns.getD i 0) ns.length).mergeSort λa b=>decide (a<=b)
end SX
namespace L2
open PySem PySem.Spec PyProof.Rows SX
section
variable{X:Cx}
ЛInv.drawnAt{pins:А (aj×Obj)}{σ:St}{H:Hp}{s:am}(I:Inv X pins σ H s)(d:_):Inv X pins σ H {s with drawn:=d}:=
 ⟨I.ok,I.os,I.bare,I.base,I.loc,I.cell,I.free,I.freeC,I.pin,I.hok,I.len⟩
МrSS(K:ad):А V->Hp->VK->Prop:=λxs H Q=>∃l ns,xs=[.ref l]/\W5 K H l (ns.map V.int)/\ns.length<64/\∀q,H q=aB->Q (.ref q) (Z9 H q (.lst ((srt ns).map V.int)))
ЛTe:bootBuiltins "sorted"=aA (.builtin "sorted"):=by kernel_rfl
ЛSu:bootBuiltins "set"=aA (.type "set"):=by kernel_rfl
end
end L2
namespace DL
open PySem PySem.Spec PyProof.Rows L2 SX
variable{K:ad}
Нints?:А D->Б (А Int)
 | []=>aA []
 | .int i::r=>(ints? r).bind λl=>aA (i::l)
 |_=>aB
МZ1b:А D->Б SV
 | [.lst xs]=>(ints? xs).bind λns=>if ns.length<64 then aA (.ol ((srt ns).map D.int))else aB
 |_=>aB
end DL
namespace TX
open PySem PySem.W PyProof.Rows
МW6{α:Type}(lt:Г->Г->Bool)(n:Г)(R:α->В):KasT α->В
 | .ret a=>R a
 | .ask i j k=>i<n/\j<n/\W6 lt n R (k (lt i j))
ЛW6.bind{α β:Type}{lt:Г->Г->Bool}{n:Г}{R:α->В}{S:β->В}{f:α->KasT β}(h:∀a,R a->W6 lt n S (f a)):∀{t:KasT α},W6 lt n R t->W6 lt n S (t.bind f)
 | .ret a,g=>h a g
 | .ask i j k,g=>⟨g.1,g.2.1,W6.bind h (t:=k (lt i j)) g.2.2⟩
ЛW6.mono{α:Type}{lt:Г->Г->Bool}{n:Г}{R S:α->В}(h:∀a,R a->S a):∀{t:KasT α},W6 lt n R t->W6 lt n S t
 | .ret a,g=>h a g
 | .ask i j k,g=>⟨g.1,g.2.1,W6.mono h (t:=k (lt i j)) g.2.2⟩
ЛW6.wp{α:Type}{lt:Г->Г->Bool}{n:Г}{R:α->В}{cmp:Г->Г->(Bool->am->В)->am->В}{I:am->В}{Q:α->am->В}
  (hc:∀i j C s,i<n->j<n->I s->(∀s',I s'->C (lt i j) s')->cmp i j C s) (hq:∀a s,R a->I s->Q a s):∀{t:KasT α} {s:am},W6 lt n R t->I s->t.kasWp cmp Q s
 | .ret a,s,g,i=>hq a s g i
 | .ask i j k,s,g,x=>hc i j _ s g.1 g.2.1 x λs' x'=>W6.wp hc hq (t:=k (lt i j)) g.2.2 x'
section
variable{O:KeyOrd}{key:Г->O.α}{n:Г}
аFb(O:KeyOrd)(key:Г->O.α)(i j:Г):Bool:=O.blt (key i) (key j)
МKp(key:Г->O.α)(p:Array Г)(i:Г):O.α:=key (p.getD i 0)
МNl(key:Г->O.α)(p:Array Г)(k:Г):Prop:=∀i j,i<=j->j<k->O.kle (Kp key p i) (Kp key p j)
МDec(key:Г->O.α)(p:Array Г)(k:Г):Prop:=∀i j,i<=j->j<k->O.kle (Kp key p j) (Kp key p i)
МPm(n:Г)(p:Array Г):Prop:=p.Perm (ik (cq n))
ЛPm.size{p:Array Г}(h:Pm n p):p.size=n:=by V :=(Array.perm_iff_toList_perm.mp h).length_eq;L this
ЛPm.lt{p:Array Г}(h:Pm n p){i:Г}(hi:i<n):p.getD i 0<n:=by
 V hs:i<p.size:=by K[h.size];E hi
 V hm:p[i]∈(cq n):=(Array.perm_iff_toList_perm.mp h).mem_iff.mp К;K[Array.getD_eq_getD_getElem?,getElem?_pos p i hs];E cu.mp hm
ЛCl{p q:Array Г}{i j:Г}(h:p[i]? =q[j]?):Kp key p i=Kp key q j:=by U Kp;K[Array.getD_eq_getD_getElem?,Array.getD_eq_getD_getElem?,h]
ЛA9{p:Array Г}{i j:Г}(hj:j<=p.size)(k:Г):Kp key (kas_rev p i j) k=if i<=k/\k<j then Kp key p (i+j- 1- k)else Kp key p k:=by
 V e:=getElem?_mirror_all (xs:=p) (i:=i) hj k;U kas_rev;B h:i<=k/\k<j
 ·K[Е h]at e⊢;E Cl e
 ·K[Д h]at e⊢;E Cl e
ЛZfe{p:Array Г}{src d:Г}(hs:src<p.size)(hd:d<=src)(k:Г):Kp key (bubble p src d) k=if k=src- d then Kp key p src else if src- d<k/\k<=src then Kp key p (k- 1)else Kp key p k:=by
 V e:=getElem?_bubble hs d hd k;B h1:k=src- d
 ·K[Е h1]at e⊢;E Cl e
 ·K[Д h1]at e⊢;B h2:src- d<k/\k<=src
  ·K[Е h2]at e⊢;E Cl e
  ·K[Д h2]at e⊢;E Cl e
ЛPm.rev{p:Array Г}(h:Pm n p)(i j:Г):Pm n (kas_rev p i j):=(mirror_perm p i j _).trans h
ЛPm.bub{p:Array Г}(h:Pm n p)(i j:Г):Pm n (bubble p i j):=(bubble_perm p i j).trans h
ЛEa{p:Array Г}(hp:Pm n p):∀(f m:Г),1<=m->m+f<=n->Nl key p m->
  W6 (Fb O key) n (λr=>m<=r/\r<=m+f/\Nl key p r/\(r=m+f\/O.klt (Kp key p r) (Kp key p (r- 1)))) (kas_asc p f m)
 |0,m,_,_,hs=>⟨ba _,ba _,hs,.inl rfl⟩
 |f+1,m,h1,hm,hs=>by
  R⟨hp.lt И,hp.lt И,?_⟩;T W6 _ _ _ (if O.blt (Kp key p m) (Kp key p (m- 1))=aC then _ else _);B c:O.blt (Kp key p m) (Kp key p (m- 1))=aC
  ·K[Е c];E⟨ba _,by W,hs,.inr c⟩
  ·K[Д c];R(Ea hp f (m+1) И И λi j hij hj=>?_).mono λr ⟨a,b,d,e⟩=>⟨by W,by W,d,by J e with e|e;E .inl И;E .inr e⟩
   B hjm:j<m
   ·E hs i j hij hjm
   ·V :j=m:=by W
    Q this;B hi:i=j
    ·Q hi;E KeyOrd.kle_refl _
    ·E KeyOrd.kle_trans (hs i (j- 1) И И) (KeyOrd.kle_of_not_klt c)
ЛGb:∀(f:Г) (p:Array Г) (m q:Г),Pm n p->1<=m->m+f<=n->Dec key p m->q+1<=m->(∀i,m- (q+1)<=i->i<m->Kp key p i=Kp key p (m- 1))->
  W6 (Fb O key) n (λr=>Pm n r.1/\m<=r.2.1/\r.2.1<=m+f/\Dec key r.1 r.2.1/\r.2.2+1<=r.2.1/\∀i,r.2.1- (r.2.2+1)<=i->i<r.2.1->Kp key r.1 i=Kp key r.1 (r.2.1- 1)) (kas_desc f p m q)
 |0,p,m,q,hp,_,_,hs,hq,he=>⟨hp,ba _,ba _,hs,hq,he⟩
 |f+1,p,m,q,hp,h1,hm,hs,hq,he=>by
  V hsz:m<=p.size:=by K[hp.size];W
  R⟨hp.lt И,hp.lt И,?_⟩;T W6 _ _ _ (if O.blt (Kp key p m) (Kp key p (m- 1))=aC then _ else _);V up:∀{r:Array Г×Г×Г},(Pm n r.1/\m+1<=r.2.1/\r.2.1<=m+1+f/\Dec key r.1 r.2.1/\r.2.2+1<=r.2.1/\∀i,r.2.1- (r.2.2+1)<=i->i<r.2.1->Kp key r.1 i=Kp key r.1 (r.2.1- 1))->
    (Pm n r.1/\m<=r.2.1/\r.2.1<=m+(f+1)/\Dec key r.1 r.2.1/\r.2.2+1<=r.2.1/\∀i,r.2.1- (r.2.2+1)<=i->i<r.2.1->Kp key r.1 i=Kp key r.1 (r.2.1- 1)):=
   λ⟨a,b,c,d⟩=>⟨a,by W,by W,d⟩
  V step1:∀x:Array Г,O.blt (Kp key p m) (Kp key p (m- 1))=aC->(∀k,Kp key x k=Kp key p k)->Dec key x (m+1):=by
   I x c hk i j hij hj;K[hk,hk];B hjx:j<m
   ·E hs i j hij hjx
   ·V hj':j=m:=by W
    Q hj';B hi':i=j
    ·Q hi';E KeyOrd.kle_refl _
    ·E KeyOrd.kle_trans (KeyOrd.kle_of_klt c) (hs i (j- 1) И И)
  V one:∀x:Array Г,∀i,m+1- (0+1)<=i->i<m+1->Kp key x i=Kp key x (m+1- 1):=λx i a b=>by congr 1;W
  B c:O.blt (Kp key p m) (Kp key p (m- 1))=aC
  ·K[Е c];B hq0:q > 0
   ·K[Е hq0];R(Gb f (kas_rev p (m- (q+1)) m) (m+1) 0 (hp.rev _ _) И И (step1 _ c λk=>?_) И (one _)).mono λr=>up;K[A9 hsz];B hk:m- (q+1)<=k/\k<m
    ·K[Е hk,he _ И И,he k hk.1 hk.2]
    ·K[Д hk]
   ·K[Д hq0];E(Gb f p (m+1) 0 hp И И (step1 _ c λ_=>rfl) И (one _)).mono λr=>up
  ·K[Д c];R⟨hp.lt И,hp.lt И,?_⟩;T W6 _ _ _ (if O.blt (Kp key p (m- 1)) (Kp key p m)=aC then _ else _);B d:O.blt (Kp key p (m- 1)) (Kp key p m)=aC
   ·K[Е d];E⟨hp,ba _,Nat.le_add_right _ _,hs,hq,he⟩
   ·K[Д d];V ex:Kp key p m=Kp key p (m- 1):=KeyOrd.kle_antisymm (by simpa[KeyOrd.kle]using d) (by simpa[KeyOrd.kle]using c);R(Gb f p (m+1) (q+1) hp И И (λi j hij hj=>?_) И λi a b=>?_).mono λr=>up
    ·B hjx:j<m
     ·E hs i j hij hjx
     ·V hj':j=m:=by W
      Q hj';B hi':i=j
      ·Q hi';E KeyOrd.kle_refl _
      ·K[ex];E hs i (j- 1) И И
    ·K[show m+1- 1=m by W];B hix:i=m
     ·Q hix;rfl
     ·K[ex];E he i И И
аCt(key:Г->O.α)(n:Г)(r:Г×Array Г):Prop:=Pm n r.2/\1<=r.1/\r.1<=n/\Nl key r.2 r.1
ЛEb{p:Array Г}(hp:Pm n p){m:Г}(h1:1<=m)(hm:m<=n)(hs:Dec key p m):W6 (Fb O key) n (Ct key n) (kas_tail3 m n p):=by
 V hsz:m<=p.size:=by K[hp.size];E hm
 R W6.bind (R:=λr=>m<=r/\r<=m+(n- m)/\Nl key (kas_rev p 0 m) r/\_) (λr ⟨a,b,c,_⟩=>⟨hp.rev _ _,by T 1<=r;W,by show r<=n;W,c⟩) (Ea (hp.rev 0 m) (n- m) m h1 И λi j hij hj=>?_);K[A9 hsz,A9 hsz,Е И,Е И];E hs _ _ И И
ЛGv{p:Array Г}(hp:Pm n p){m:Г}(hm:m+1<=n)(hs:Dec key p (m+1)):W6 (Fb O key) n (Ct key n) (kas_descPart m n p):=by
 R W6.bind (λr h=>?_) (Gb (n- (m+1)) p (m+1) 0 hp И И hs И λi a b=>by congr 1;W);O⟨a,b,c,d,e,g⟩:=h;V hsz:r.2.1<=r.1.size:=by K[a.size];W
 B hq:r.2.2 > 0
 ·K[Е hq];R Eb (a.rev _ _) И И λi j hij hj=>?_;V k:∀x,Kp key (kas_rev r.1 (r.2.1- (r.2.2+1)) r.2.1) x=Kp key r.1 x:=λx=>by
   K[A9 hsz];B hk:r.2.1- (r.2.2+1)<=x/\x<r.2.1
   ·K[Е hk,g _ И И,g x hk.1 hk.2]
   ·K[Д hk]
  K[k,k];E d i j hij hj
 ·K[Д hq];E Eb a И И d
ЛX3{p:Array Г}(hp:Pm n p)(h1:1<=n):W6 (Fb O key) n (Ct key n) (kas_count n p):=by
 R W6.bind (λm h=>?_) (Ea (key:=key) hp (n- 1) 1 (ba _) И λi j hij hj=>by(have:i=j:=by W);Q this;E KeyOrd.kle_refl _);O⟨a,b,c,d⟩:=h;B hm:(m==n)=aC
 ·K[Е hm];E⟨hp,a,by T m<=n;W,c⟩
 ·K[Д hm];V hne:m≠n:=λz=>hm (by K[z];E beq_self_eq_true n);V br:O.klt (Kp key p m) (Kp key p (m- 1)):=by
   J d with d|d
   ·W
   ·E d
  B h2:m > 1
  ·K[Е h2];R⟨hp.lt И,hp.lt И,?_⟩;T W6 _ _ _ (if O.blt (Kp key p 0) (Kp key p (m- 1))=aC then _ else _);B c0:O.blt (Kp key p 0) (Kp key p (m- 1))=aC
   ·K[Е c0];E⟨hp,a,by T m<=n;W,c⟩
   ·K[Д c0];V hsz:m<=p.size:=by K[hp.size];W
    V eq:∀i,i<m->Kp key p i=Kp key p (m- 1):=λi hi=>
     KeyOrd.kle_antisymm (c i (m- 1) И И) (KeyOrd.kle_trans (by simpa[KeyOrd.kle]using c0) (c 0 i И hi))
    V k:∀x,Kp key (kas_rev p 0 m) x=Kp key p x:=λx=>by
     K[A9 hsz];B hk:0<=x/\x<m
     ·K[Е hk,eq _ И,eq x hk.2]
     ·K[Д hk]
    R Gv (hp.rev 0 m) И λi j hij hj=>?_;K[k,k];B hjm:j=m
    ·Q hjm;B hi:i=j
     ·Q hi;E KeyOrd.kle_refl _
     ·K[eq i И];E KeyOrd.kle_of_klt br
    ·K[eq i И,eq j И];E KeyOrd.kle_refl _
  ·K[Д h2];V :m=1:=by W
   Q this;R Gv hp И λi j hij hj=>?_;B hi:i=j
   ·Q hi;E KeyOrd.kle_refl _
   ·V :i=0:=by W
    Q this;V :j=1:=by W
    Q this;E KeyOrd.kle_of_klt br
ЛG5{p:Array Г}(hp:Pm n p){k:Г}(hk:k<n)(hs:Nl key p k):∀(f l r:Г),l<=r->r<=k->r- l<=f->(∀i,i<l->O.kle (Kp key p i) (Kp key p k))->(∀i,r<=i->i<k->O.kle (Kp key p k) (Kp key p i))->
  W6 (Fb O key) n (λm=>m<=k/\(∀i,i<m->O.kle (Kp key p i) (Kp key p k))/\∀i,m<=i->i<k->O.kle (Kp key p k) (Kp key p i)) (kas_place p k f l r)
 |0,l,r,hlr,hr,hf,h1,h2=>⟨by W,h1,λi a b=>h2 i И b⟩
 |f+1,l,r,hlr,hr,hf,h1,h2=>by
  T W6 _ _ _ (if l>=r then _ else _);B c:l>=r
  ·K[Е c];E⟨by W,h1,λi a b=>h2 i И b⟩
  ·K[Д c];R⟨hp.lt hk,hp.lt И,?_⟩;T W6 _ _ _ (if O.blt (Kp key p k) (Kp key p ((l+r) / 2))=aC then _ else _);B d:O.blt (Kp key p k) (Kp key p ((l+r) / 2))=aC
   ·K[Е d];E G5 hp hk hs f l ((l+r) / 2) И И И h1 λi a b=>KeyOrd.kle_trans (KeyOrd.kle_of_klt d) (hs _ i a b)
   ·K[Д d];E G5 hp hk hs f ((l+r) / 2+1) r И hr И (λi a=>KeyOrd.kle_trans (hs i ((l+r) / 2) И И) (KeyOrd.kle_of_not_klt d)) h2
ЛSv:∀(f:Г) (p:Array Г) (k:Г),Pm n p->k+f=n->Nl key p k->W6 (Fb O key) n (λq=>Pm n q/\Nl key q n) (kas_bin f p k)
 |0,p,k,hp,hk,hs=>⟨hp,by(have:k=n:=hk);K[<-this];E hs⟩
 |f+1,p,k,hp,hk,hs=>by
  R W6.bind (λl h=>?_) (G5 hp И hs k 0 k (f7 _) (ba _) И (λi hi=>absurd hi (dz _)) λi a b=>absurd b И);O⟨hl,a,b⟩:=h;V hsz:k<p.size:=by K[hp.size];W
  R Sv f (bubble p k (k- l)) (k+1) (hp.bub _ _) И λi j hij hj=>?_;K[Zfe hsz И,Zfe hsz И];V e:k- (k- l)=l:=by W
  K[e];B i1:i=l
  ·K[Е i1];B j1:j=l
   ·K[Е j1];E KeyOrd.kle_refl _
   ·K[Д j1,Е И];E b (j- 1) И И
  ·K[Д i1];B i2:l<i/\i<=k
   ·K[Е i2,Д И,Е И];E hs _ _ И И
   ·K[Д i2];B j1:j=l
    ·K[Е j1];E a i И
    ·K[Д j1];B j2:l<j/\j<=k
     ·K[Е j2];E hs _ _ И И
     ·K[Д j2];E hs _ _ hij И
ЛKg(h1:1<=n):W6 (Fb O key) n (λq=>Pm n q/\Nl key q n) (kas_sort n):=by
 R W6.bind (λr h=>?_) (X3 (key:=key) (Array.Perm.refl _) h1);O⟨a,b,c,d⟩:=h;B hr:r.1<n
 ·K[Е hr];V e:max r.1 1=r.1:=by W
  K[e];E Sv _ _ _ a И d
 ·K[Д hr];V :r.1=n:=by W
  E⟨a,by K[this]at d;E d⟩
end
end TX
namespace TX
open PySem PySem.SeqAt
open AutoSeq1 (wpAny_loadPart')
open MeetsSeq MeetsSeq2 MeetsSeq3 SeqRoads2
МOt(A:dh)(s:am)(y x:ah)(b:Bool):Prop:=
 ∀(prog:b6) (w:c7) (E:ah->am->В) (Q:ah->am->В),Q (.bool b) s->bg (b4 prog w) A (richCompare .Lt y x) Q E s
МUh(fin:Bool)(e l:Г->Bool):Г->Г->Bool
 |0,_=>fin
 |k+1,i=>if e i=aC then Uh fin e l k (i+1)else l i
ЛZb5(l b:aj)(items items2:Array ah)(n n2:Г)(dd dd2:Б aj)(sl sl2:Array (Б ah))(e lt:Г->Bool)(k:Г):
  ∀i:Г,(∀j,j<i->e j=aC)->min items.size items2.size- i=k->Meets (Builtin.«list.__eq__.loop» ⟨[.ref l,.ref b,rawInt i,rawInt 0],[]⟩)
   (λA R s=>s.heap.get? l=aA {cls:=.type "list",dict:=dd,data:=.seq items n,slots:=sl}/\s.heap.get? b=aA {cls:=.type "list",dict:=dd2,data:=.seq items2 n2,slots:=sl2}/\
    (∀j (h1:j<items.size) (h2:j<items2.size),(∀i,i<j->e i=aC)->EqAt A.in1 s items[j] items2[j] (e j))/\(∀j (h1:j<items.size) (h2:j<items2.size),(∀i,i<j->e i=aC)->e j=aD->Ot A.in1 s items[j] items2[j] (lt j))/\
    R (.ok (.ret (.bool (Uh (decide (items.size<items2.size)) e lt k i)))) s):=by
 induction k with
 |zero=>
  I i hpre hk prog w A R s h;O⟨hp,g,d,tk,os⟩:=s;O⟨hl,hb,he,ht,h⟩:=h;wp_walk using du hl,du hb;V hi:items[((i:Г):Int).toNat]? =aB\/items2[((i:Г):Int).toNat]? =aB:=by
   J dv i items.size with z|z
   ·right;simp;W
   ·left;simp;W
  rcases h1:items[((i:Г):Int).toNat]? with _|x
  ·wp_walk using du hl,du hb;E h
  ·J hi with hi|hi
   ·K[h1]at hi;C hi
   ·K[hi];wp_walk using du hl,du hb;E h
 |succ k ih=>
  I i hpre hk prog w A R s h;O⟨hp,g,d,tk,os⟩:=s;O⟨hl,hb,he,ht,h⟩:=h;wp_walk using du hl,du hb;V hlt:i<items.size:=by W
  V hlt2:i<items2.size:=by W
  V hi1:items[((i:Г):Int).toNat]? =aA items[i]:=by simp[hlt]
  V hi2:items2[((i:Г):Int).toNat]? =aA items2[i]:=by simp[hlt2]
  V hc:((i:Int)+1)=((i+1:Г):Int):=by push_cast;rfl
  K[hi1,hi2];R ac (he i hlt hlt2 hpre prog w _ _ ?_);cases hb':e i with
  |true=>
   V h':R (.ok (.ret (.bool (Uh (decide (items.size<items2.size)) e lt k (i+1))))) ⟨hp,g,d,tk,os⟩:=by V z:=h;U Uh at z;K[Е hb']at z;E z
   wp_walk;K[hc];E⟨plainId_quiet plain_eq_loop _,codeAny_builtin entry_eq_loop (by
    K[ie plain_eq_loop _];E ih (i+1) (λj hj=>by
     J dv j i with z|z
     ·E hpre j z
     ·V :j=i:=by W
      K[this];E hb') И prog w A R _ ⟨hl,hb,he,ht,h'⟩)⟩
  |false=>
   V h':R (.ok (.ret (.bool (lt i)))) ⟨hp,g,d,tk,os⟩:=by V z:=h;U Uh at z;K[Д (by K[hb'];simp)]at z;E z
   wp_walk using du hl,du hb;K[hi1,hi2];R ac (ht i hlt hlt2 hpre hb' prog w _ _ ?_);wp_walk;E h'
ЛKh(l b:aj)(items items2:Array ah)(n n2:Г)(dd dd2:Б aj)(sl sl2:Array (Б ah))(e lt:Г->Bool):
  Meets (Builtin.«list.__lt__» ⟨[.ref l,.ref b],[]⟩)
   (λA R s=>s.heap.get? l=aA {cls:=.type "list",dict:=dd,data:=.seq items n,slots:=sl}/\s.heap.get? b=aA {cls:=.type "list",dict:=dd2,data:=.seq items2 n2,slots:=sl2}/\
    (∀j (h1:j<items.size) (h2:j<items2.size),(∀i,i<j->e i=aC)->EqAt A.in1 s items[j] items2[j] (e j))/\(∀j (h1:j<items.size) (h2:j<items2.size),(∀i,i<j->e i=aC)->e j=aD->Ot A.in1 s items[j] items2[j] (lt j))/\
    R (.ok (.ret (.bool (Uh (decide (items.size<items2.size)) e lt (min items.size items2.size) 0)))) s):=by
 I prog w A R s h;O⟨hp,g,d,tk,os⟩:=s;O⟨hl,hb,he,ht,h⟩:=h;V f3:=AutoSeq1.sub_list_list;wp_walk using du hl,du hb;E⟨plainId_quiet plain_eq_loop _,codeAny_builtin entry_eq_loop (by
  K[ie plain_eq_loop _];E Zb5 l b items items2 n n2 dd dd2 sl sl2 e lt _ 0 (λj hj=>absurd hj (dz _)) rfl prog w A R _ ⟨hl,hb,he,ht,h⟩)⟩
ЛX4(l b:aj)(items items2:Array ah)(n n2:Г)(dd dd2:Б aj)(sl sl2:Array (Б ah))(e lt:Г->Bool):
  Meets (Builtin.«tuple.__lt__» ⟨[.ref l,.ref b],[]⟩)
   (λA R s=>s.heap.get? l=aA {cls:=.type "tuple",dict:=dd,data:=.seq items n,slots:=sl}/\s.heap.get? b=aA {cls:=.type "tuple",dict:=dd2,data:=.seq items2 n2,slots:=sl2}/\
    (∀j (h1:j<items.size) (h2:j<items2.size),(∀i,i<j->e i=aC)->EqAt A.in1 s items[j] items2[j] (e j))/\(∀j (h1:j<items.size) (h2:j<items2.size),(∀i,i<j->e i=aC)->e j=aD->Ot A.in1 s items[j] items2[j] (lt j))/\
    R (.ok (.ret (.bool (Uh (decide (items.size<items2.size)) e lt (min items.size items2.size) 0)))) s):=
 .of_wp λprog w A R s h=>by
  O⟨hp,g,d,tk,os⟩:=s;O⟨hl,hb,he,ht,h⟩:=h;V f2:=AutoSeq1.sub_tuple_tuple;V hZ:(items.toList.zip items2.toList).length=min items.size items2.size:=by simp
  wp_walk using du hl,du hb,wpAny_forIn_list _ (λrest b s'=>b.1=aB/\s'=⟨hp,g,d,tk,os⟩/\∃i,rest=(items.toList.zip items2.toList).drop i/\(∀j,j<i->e j=aC)/\
   R (.ok (.ret (.bool (Uh (decide (items.size<items2.size)) e lt (min items.size items2.size- i) i)))) ⟨hp,g,d,tk,os⟩) _
  case turn=>
   rintro⟨y,x⟩ rest b s' ⟨hb',rfl,i,hz,hpre,hR⟩;V hlt:i<(items.toList.zip items2.toList).length:=by
    J dv i (items.toList.zip items2.toList).length with h'|h'
    ·E h'
    ·K[List.drop_of_length_le h']at hz;C hz
   V hm:i<min items.size items2.size:=hZ▸hlt;V h1:i<items.size:=c8 hm (Nat.min_le_left _ _);V h2:i<items2.size:=c8 hm (Nat.min_le_right _ _);K[List.drop_eq_getElem_cons hlt]at hz;injection hz with hyx hrest;V hy:y=items[i]:=by V :=congrArg Prod.fst hyx;L this
   V hx:x=items2[i]:=by V :=congrArg Prod.snd hyx;L this
   subst hy hx;V hk:min items.size items2.size- i=(min items.size items2.size- (i+1))+1:=by W
   K[hk]at hR;U Uh at hR;R ac (he i h1 h2 hpre prog w _ _ ?_);cases hy:e i with
   |true=>
    K[Е hy]at hR;wp_walk;E⟨rfl,rfl,i+1,hrest,λj hj=>by
     J dv j i with z|z
     ·E hpre j z
     ·V :j=i:=by W
      K[this];E hy,hR⟩
   |false=>K[Д (by K[hy];simp)]at hR;simp only[Bool.not_false,if_true];R ac (wpAny_rule (ac (ht i h1 h2 hpre hy prog w _ _ ?_)));wp_walk;E⟨_,rfl,hR⟩
  case fin=>
   rintro⟨b1,b2⟩ s' ⟨hb',rfl,i,hz,hpre,hR⟩;simp only at hb';Q hb';V hge:min items.size items2.size<=i:=by
    J dv i (items.toList.zip items2.toList).length with h'|h'
    ·K[List.drop_eq_getElem_cons h']at hz;C hz
    ·E hZ▸h'
   V hk:min items.size items2.size- i=0:=by W
   K[hk]at hR;wp_walk;E⟨_,rfl,hR⟩
  case h=>
   E⟨rfl,rfl,0,rfl,λj hj=>absurd hj (dz _),by L h⟩
section
variable{A:dh}{s:am}
ЛOt.lists{l b:aj}{items items2:Array ah}{e lt:Г->Bool}(hl:s.heap.IsList l items)(hb:s.heap.IsList b items2)(hu:A.units<f6)
  (he:∀j (h1:j<items.size) (h2:j<items2.size),(∀i,i<j->e i=aC)->EqAt A.in1 s items[j] items2[j] (e j)) (ht:∀j (h1:j<items.size) (h2:j<items2.size),(∀i,i<j->e i=aC)->e j=aD->Ot A.in1 s items[j] items2[j] (lt j)):
  Ot A s (.ref l) (.ref b) (Uh (decide (items.size<items2.size)) e lt (min items.size items2.size) 0):=λprog w E Q h=>by
 O⟨⟨cls,dd,data,sl⟩,ho,hc,n,hd⟩:=id hl;O⟨⟨cls2,dd2,data2,sl2⟩,ho2,hc2,n2,hd2⟩:=id hb;simp only at hc hd hc2 hd2;subst hc hd hc2 hd2;E richCompare_meets_room (op:=.Lt) ⟨_,ho,rfl⟩ ⟨_,ho2,rfl⟩ F.slot_list_lt F.entry_list_lt (F.args_list_lt_2 _ _) (Kh l b items items2 n n2 dd dd2 sl sl2 e lt)
  ⟨ho,ho2,he,ht,show Value.bool (Uh (decide (items.size<items2.size)) e lt (min items.size items2.size) 0)≠Value.notImplemented/\Q (.bool (Uh (decide (items.size<items2.size)) e lt (min items.size items2.size) 0)) s from⟨(λx=>nomatch x),h⟩⟩ hu
ЛOt.tuples{l b:aj}{items items2:Array ah}{e lt:Г->Bool}(hl:s.heap.IsTuple l items)(hb:s.heap.IsTuple b items2)(hu:A.units<f6)
  (he:∀j (h1:j<items.size) (h2:j<items2.size),(∀i,i<j->e i=aC)->EqAt A.in1 s items[j] items2[j] (e j)) (ht:∀j (h1:j<items.size) (h2:j<items2.size),(∀i,i<j->e i=aC)->e j=aD->Ot A.in1 s items[j] items2[j] (lt j)):
  Ot A s (.ref l) (.ref b) (Uh (decide (items.size<items2.size)) e lt (min items.size items2.size) 0):=λprog w E Q h=>by
 O⟨⟨cls,dd,data,sl⟩,ho,hc,n,hd⟩:=id hl;O⟨⟨cls2,dd2,data2,sl2⟩,ho2,hc2,n2,hd2⟩:=id hb;simp only at hc hd hc2 hd2;subst hc hd hc2 hd2;E richCompare_meets_room (op:=.Lt) ⟨_,ho,rfl⟩ ⟨_,ho2,rfl⟩ F.slot_tuple_lt F.entry_tuple_lt (F.args_tuple_lt_2 _ _) (X4 l b items items2 n n2 dd dd2 sl sl2 e lt)
  ⟨ho,ho2,he,ht,show Value.bool (Uh (decide (items.size<items2.size)) e lt (min items.size items2.size) 0)≠Value.notImplemented/\Q (.bool (Uh (decide (items.size<items2.size)) e lt (min items.size items2.size) 0)) s from⟨(λx=>nomatch x),h⟩⟩ hu
МGw(A:dh)(s:am)(y x:ah)(b:Bool):Prop:=
 ∀(prog:b6) (w:c7) (E:ah->am->В) (Q:Bool->am->В),Q b s->bg (b4 prog w) A (PyProof.Rows.oneLt' aC y x) Q E s
ЛGw.lists{l b:aj}{items items2:Array ah}{e lt:Г->Bool}(hl:s.heap.IsList l items)(hb:s.heap.IsList b items2)(hu:A.units<f6)
  (he:∀j (h1:j<items.size) (h2:j<items2.size),(∀i,i<j->e i=aC)->EqAt A.in1 s items[j] items2[j] (e j)) (ht:∀j (h1:j<items.size) (h2:j<items2.size),(∀i,i<j->e i=aC)->e j=aD->Ot A.in1 s items[j] items2[j] (lt j)):
  Gw A s (.ref l) (.ref b) (Uh (decide (items.size<items2.size)) e lt (min items.size items2.size) 0):=λprog w E Q h=>by
 O⟨⟨cls,dd,data,sl⟩,ho,hc,n,hd⟩:=id hl;O⟨⟨cls2,dd2,data2,sl2⟩,ho2,hc2,n2,hd2⟩:=id hb;simp only at hc hd hc2 hd2;subst hc hd hc2 hd2;K[PyProof.Rows.oneLt'_eq];simp only[if_true];R ac (wpAny_cRoomFor hu ?_);R ac (wpAny_callSpecialIfBound?_slot ⟨_,ho,rfl⟩ F.slot_list_lt (call_meets F.slot_list_lt ⟨_,ho,rfl⟩ F.entry_list_lt (F.args_list_lt_2 _ _) (Kh l b items items2 n n2 dd dd2 sl sl2 e lt) ⟨ho,ho2,he,ht,?_⟩));E wpAny_truthy_bool h
ЛGw.int(a:Int)(t:Tok)(b:Int)(u:Tok):Gw A s (.int a t) (.int b u) (decide (a<b)):=λprog w E Q h=>PyProof.Rows.oneLt_int h
ЛGw.str(a:Str)(t:Tok)(b:Str)(u:Tok):Gw A s (.str a t) (.str b u) (decide (a.cps.toList<b.cps.toList)):=λprog w E Q h=>PyProof.Rows.oneLt_str h
ЛOt.int(a:Int)(t:Tok)(b:Int)(u:Tok):Ot A s (.int a t) (.int b u) (decide (a<b)):=λprog w E Q h=>wpAny_lt_int h
ЛOt.str(a:Str)(t:Tok)(b:Str)(u:Tok):Ot A s (.str a t) (.str b u) (decide (a.cps.toList<b.cps.toList)):=λprog w E Q h=>PySem.P.lt_str h
end
end TX
namespace TX
open PySem PySem.Spec PyProof.Rows L2
open PySem.W (kla_fn kla_obj kla_callFunE kla_codeExpr envX)
structure LamS(x:Str)(fs:А Str)(sc:Scope):В where
 kind:sc.kind= .function
 co:sc.isCoroutine=aD
 gen:sc.isGenerator=aD
 par:sc.names.lookup x=aA .local
 nocell:∀y∈sc.names,y.2≠.cell
 nd:x∉fs
аZnm(qual:Str)(sc:Scope)(L f:aj)(c:aj)(cl:А (Str×aj)):Env:=envX qual sc L f (.ref c) cl
МcxL(X:Cx)(N:А Str)(qual:Str)(sc:Scope)(f c:aj)(cl:А (Str×aj))(A:dh)(s:am)(H:Hp):Cx where
 prog:=X.prog
 w:=X.w
 K:=X.K
 mg:=X.mg
 base:=X.base
 A:=A.deeper (Znm qual sc s.heap.objs.size f c cl)
 N:=N
 s₀:=s
 H₀:=H
 env:=Znm qual sc s.heap.objs.size f c cl
 outer:=X.stack
 stack:=Znm qual sc s.heap.objs.size f c cl::X.stack
 ex:=[]
 calm:=aC
 fn:=λ_=>aD
 pn:=[]
 xe:=λ_ _=>False
end TX
namespace TX
open PySem PySem.Spec PyProof.Rows L2
open PySem.W (kla_fn kla_obj kla_eval kla_makeFunction kla_makeFunctionHit CodeHd tabObj)
МZyx(mg:Str->Б ah)(h:d6):Prop:=∃bm ob,mg "__builtins__"=aA (.ref bm)/\bm≠builtinsNs/\h.get? bm=aA ob/\ob.cls= .type "module"/\ob.dict=aA builtinsNs/\ob.data= .plain
МZ1c(o:Obj)(q:Str):Prop:=∃vs t,o.data= .fields vs/\vs[1]? =aA (.str q t)
end TX
namespace TX
open PySem PySem.Spec PyProof.Rows L2 DL
open PySem.SeqAt (EqAt)
variable{K:ad}
НRx(eq lt:D->D->Б Bool):А D->А D->Б Bool
 | [],ys=>aA (!ys.isEmpty)
 |_::_,[]=>aA aD
 |x::xs,y::ys=>(eq x y).bind λb=>if b=aC then Rx eq lt xs ys else lt x y
НX5(eq lt:D->D->Б Bool):D->D->Б Bool
 | .int i,.int j=>aA (decide (i<j))
 | .str a,.str b=>aA (decide (a.cps.toList<b.cps.toList))
 | .lst xs,.lst ys=>Rx eq lt xs ys
 | .tup xs,.tup ys=>Rx eq lt xs ys
 |_,_=>aB
НUg:Г->D->D->Б Bool
 |0=>λ_ _=>aB
 |n+1=>X5 (We n) (Ug n)
МisT:Б Bool->Bool
 |some aC=>aC
 |_=>aD
аeJ(f:D->D->Б Bool)(xs ys:А D)(j:Г):Bool:=isT (f (xs.getD j .non) (ys.getD j .non))
ЛEc{fin:Bool}{e l:Г->Bool}:∀(k i:Г),Uh fin e l k (i+1)=Uh fin (λj=>e (j+1)) (λj=>l (j+1)) k i
 |0,_=>rfl
 |k+1,i=>by
  show(if e (i+1)=aC then Uh fin e l k (i+1+1)else l (i+1))=(if e (i+1)=aC then _ else _)
  K[Ec k (i+1)]
ЛKi{eq lt:D->D->Б Bool}:∀{xs ys:А D} {b:Bool},Rx eq lt xs ys=aA b->
  Uh (decide (xs.length<ys.length)) (eJ eq xs ys) (eJ lt xs ys) (min xs.length ys.length) 0=b/\
  ∀j,j<xs.length->j<ys.length->(∀i,i<j->eJ eq xs ys i=aC)->eq (xs.getD j .non) (ys.getD j .non)=aA (eJ eq xs ys j)/\(eJ eq xs ys j=aD->lt (xs.getD j .non) (ys.getD j .non)=aA (eJ lt xs ys j))
 | [],ys,b,h=>by
  R⟨?_,λj hj=>absurd hj (dz _)⟩;obtain rfl:(!ys.isEmpty)=b:=by L h
  cases ys<;> simp[Uh]
 |x::xs,[],b,h=>by
  R⟨?_,λj _ hj=>absurd hj (dz _)⟩;obtain rfl:aD=b:=by L h
  simp[Uh]
 |x::xs,y::ys,b,h=>by
  V h:(eq x y).bind (λb=>if b=aC then Rx eq lt xs ys else lt x y)=aA b:=h;O⟨c,hc,h2⟩:=aa.mp h;V e0:eJ eq (x::xs) (y::ys) 0=c:=by T isT (eq x y)=c;K[hc];cases c<;> rfl
  V hm:min (x::xs).length (y::ys).length=min xs.length ys.length+1:=by simp only[bf];W
  V hfin:decide ((x::xs).length<(y::ys).length)=decide (xs.length<ys.length):=by simp
  K[hm,hfin];cases c with
  |false=>
   V h2:lt x y=aA b:=by L h2
   R⟨?_,λj hj1 hj2 hp=>?_⟩
   ·show(if eJ eq (x::xs) (y::ys) 0=aC then _ else eJ lt (x::xs) (y::ys) 0)=b;K[e0,Д К];T isT (lt x y)=b;K[h2];cases b<;> rfl
   ·cases j with
    |zero=>R⟨by K[e0];E hc,λ_=>?_⟩;T lt x y=aA (isT (lt x y));K[h2];cases b<;> rfl
    |succ j=>have:=hp 0 (Nat.succ_pos _);K[e0]at this;C this
  |true=>
   V h2:Rx eq lt xs ys=aA b:=by L h2
   O⟨i1,i2⟩:=Ki h2;R⟨?_,λj hj1 hj2 hp=>?_⟩
   ·show(if eJ eq (x::xs) (y::ys) 0=aC then Uh _ _ _ _ (0+1)else eJ lt (x::xs) (y::ys) 0)=b;K[e0,Е rfl,Ec];E i1
   ·cases j with
    |zero=>R⟨by K[e0];E hc,λz=>?_⟩;K[e0]at z;C z
    |succ j=>E i2 j (by L hj1) (by L hj2) λi hi=>hp (i+1) И
ЛReps.getD{F:Hp}:∀{ds:А D} {vs:А V} {its:А ah},Reps K F ds vs->Z2 vs its->∀(j:Г) (hj:j<its.length),∃v,Rep K F (ds.getD j .non) v/\Zy v its[j]/\j<ds.length
 |_,_,_,.nil,.nil,j,hj=>absurd hj (dz _)
 |_,_,_,.cons h t,.cons q qs,0,_=>⟨_,h,q,Nat.succ_pos _⟩
 |_,_,_,.cons h t,.cons q qs,j+1,hj=>by O⟨v,a,b,c⟩:=Reps.getD t qs j (Nat.lt_of_succ_lt_succ hj);E⟨v,a,b,Nat.succ_lt_succ c⟩
ЛReps.lenV{F:Hp}:∀{ds:А D} {vs:А V} {its:А ah},Reps K F ds vs->Z2 vs its->ds.length=its.length
 |_,_,_,.nil,.nil=>rfl
 |_,_,_,.cons h t,.cons q qs=>congrArg (· +1) (Reps.lenV t qs)
section
variable{X:Cx}{pins:А (aj×Obj)}{σ:L2.St}{F H:Hp}{s:am}
ЛUx(I:Inv X pins σ H s)(le:Zi F H){a:aj}{vs:А V}(h:W5 X.K F a vs):∃its:А ah,Z2 vs its/\s.heap.IsList a its.toArray:=by O⟨its,rv,⟨o,n,ho,hcl,_,hd⟩,_⟩:=I.list (Wb le h);E⟨its,rv,o,ho,hcl,n,hd⟩
ЛQ9(I:Inv X pins σ H s)(le:Zi F H){a:aj}{vs:А V}(h:F a=aA (.tup vs)):∃its:А ah,Z2 vs its/\s.heap.IsTuple a its.toArray:=by O⟨_,its,rv,p⟩:=I.hok a _ (le _ _ h);O⟨o,ho,hc,n,hd⟩:=p;E⟨its,rv,o,ho,hc,n,hd⟩
ЛEd(I:Inv X pins σ H s)(le:Zi F H){n:Г}{A:dh}(hu:A.units+n<f6)(ih:∀(d1 d2:D) (b:Bool) (x y:V) (v u:ah),Rep X.K F d1 x->Zy x v->Rep X.K F d2 y->Zy y u->Ug n d1 d2=aA b->Ot A s v u b)
  {ds es:А D} {vs ws:А V} {its jts:А ah} (r1:Reps X.K F ds vs) (rv1:Z2 vs its) (r2:Reps X.K F es ws) (rv2:Z2 ws jts) {b:Bool} (h:Rx (We n) (Ug n) ds es=aA b):
  Uh (decide (its.toArray.size<jts.toArray.size)) (eJ (We n) ds es) (eJ (Ug n) ds es) (min its.toArray.size jts.toArray.size) 0=b/\
  (∀j (h1:j<its.toArray.size) (h2:j<jts.toArray.size),(∀i,i<j->eJ (We n) ds es i=aC)->EqAt A s its.toArray[j] jts.toArray[j] (eJ (We n) ds es j))/\
  (∀j (h1:j<its.toArray.size) (h2:j<jts.toArray.size),(∀i,i<j->eJ (We n) ds es i=aC)->eJ (We n) ds es j=aD->Ot A s its.toArray[j] jts.toArray[j] (eJ (Ug n) ds es j)):=by
 O⟨a,c⟩:=Ki h;K[Reps.lenV r1 rv1,Reps.lenV r2 rv2]at a;R⟨by L a,λj h1 h2 hp=>?_,λj h1 h2 hp hf=>?_⟩
 ·V h1':j<its.length:=by L h1
  V h2':j<jts.length:=by L h2
  O⟨v,p1,p2,p3⟩:=Reps.getD r1 rv1 j h1';O⟨w,q1,q2,q3⟩:=Reps.getD r2 rv2 j h2';E Mn I le n A _ _ _ _ _ _ _ hu p1 (by L p2) q1 (by L q2) (c j p3 q3 hp).1
 ·V h1':j<its.length:=by L h1
  V h2':j<jts.length:=by L h2
  O⟨v,p1,p2,p3⟩:=Reps.getD r1 rv1 j h1';O⟨w,q1,q2,q3⟩:=Reps.getD r2 rv2 j h2';E ih _ _ _ _ _ _ _ p1 (by L p2) q1 (by L q2) ((c j p3 q3 hp).2 hf)
ЛX6(I:Inv X pins σ H s)(le:Zi F H):∀(n:Г) (A:dh) (d1 d2:D) (b:Bool) (x y:V) (v u:ah),A.units+n<f6->Rep X.K F d1 x->Zy x v->Rep X.K F d2 y->Zy y u->Ug n d1 d2=aA b->Ot A s v u b
 |0,_,_,_,_,_,_,_,_,_,_,_,_,_,e=>by C e
 |n+1,A,d1,d2,b,x,y,v,u,hu,r1,v1,r2,v2,e=>by
  V e:X5 (We n) (Ug n) d1 d2=aA b:=e;V hi:A.in1.units+n<cLine:=by V :A.in1.units=A.units+1:=rfl;W
  V ih:=λ(d1 d2:D) (b:Bool) (x y:V) (v u:ah)=>X6 I le n A.in1 d1 d2 b x y v u hi;cases r1 with
  |int i=>cases r2 with
   |int j=>
    O⟨t1,rfl⟩:=v1;O⟨t2,rfl⟩:=v2;obtain rfl:decide (i<j)=b:=by L e
    E Ot.int i t1 j t2
   |_=>C e
  |str i=>cases r2 with
   |str j=>
    O⟨t1,rfl⟩:=v1;O⟨t2,rfl⟩:=v2;obtain rfl:decide (i.cps.toList<j.cps.toList)=b:=by L e
    E Ot.str i t1 j t2
   |_=>C e
  |lst h _ r=>cases r2 with
   |lst h' _ r'=>C v1;C v2;O⟨its,rv,hl⟩:=Ux I le h;O⟨jts,rv',hl'⟩:=Ux I le h';O⟨a,c,d⟩:=Ed I le hi ih r rv r' rv' e;K[<-a];E Ot.lists hl hl' И c d
   |_=>C e
  |tup h r=>cases r2 with
   |tup h' r'=>C v1;C v2;O⟨its,rv,hl⟩:=Q9 I le h;O⟨jts,rv',hl'⟩:=Q9 I le h';O⟨a,c,d⟩:=Ed I le hi ih r rv r' rv' e;K[<-a];E Ot.tuples hl hl' И c d
   |_=>C e
  |_=>C e
ЛZnn(I:Inv X pins σ H s)(le:Zi F H){n:Г}{A:dh}{d1 d2:D}{b:Bool}{x y:V}{v u:ah}(hu:A.units+(n+1)<f6)(r1:Rep X.K F d1 x)(v1:Zy x v)(r2:Rep X.K F d2 y)(v2:Zy y u)
  (e:Ug (n+1) d1 d2=aA b) (hn:∀xs,d1≠.tup xs):Gw A s v u b:=by
 V e:X5 (We n) (Ug n) d1 d2=aA b:=e;V hi:A.in1.units+n<cLine:=by V :A.in1.units=A.units+1:=rfl;W
 V ih:=λ(d1 d2:D) (b:Bool) (x y:V) (v u:ah)=>X6 I le n A.in1 d1 d2 b x y v u hi;cases r1 with
 |int i=>cases r2 with
  |int j=>
   O⟨t1,rfl⟩:=v1;O⟨t2,rfl⟩:=v2;obtain rfl:decide (i<j)=b:=by L e
   E Gw.int i t1 j t2
  |_=>C e
 |str i=>cases r2 with
  |str j=>
   O⟨t1,rfl⟩:=v1;O⟨t2,rfl⟩:=v2;obtain rfl:decide (i.cps.toList<j.cps.toList)=b:=by L e
   E Gw.str i t1 j t2
  |_=>C e
 |lst h _ r=>cases r2 with
  |lst h' _ r'=>C v1;C v2;O⟨its,rv,hl⟩:=Ux I le h;O⟨jts,rv',hl'⟩:=Ux I le h';O⟨a,c,d⟩:=Ed I le hi ih r rv r' rv' e;K[<-a];E Gw.lists hl hl' И c d
  |_=>C e
 |tup h r=>E absurd rfl (hn _)
 |_=>C e
end
end TX
namespace TX
open PySem PySem.Spec PyProof.Rows L2 DL
open PySem.W (kas_sort kas_ask kas_item kat_run kat_snds)
section
variable{X:Cx}{pins:А (aj×Obj)}{σ:L2.St}{H:Hp}{s:am}{E:ah->am->В}
ЛD3{D:aj}{o:Obj}{xs ys:Array ah}{n t':Г}{g:Array ah->Array ah}(I:Inv X pins σ H s)(fD:Jz X pins H D):Inv X pins σ H {s with heap:=s.heap.update D (di g),toks:=t'}:=
 I.turned (λb o hb e=>by K[Heap.get?_update_ne _ _ _ _ hb];E e) fD.1 fD.2.1 fD.2.2.2.1 fD.2.2.2.2.1 fD.2.2.2.2.2
МKS(X:Cx)(pins:А (aj×Obj))(σ:L2.St)(H0:Hp)(f:aj)(fo:Obj)(D kS:aj)(e1:Г)(KeyOk:Г->V->Hp->В)(i:Г)(s:am):Prop:=
 ∃H ks kvs e,Zi H0 H/\Inv X pins σ H s/\Jz X pins H D/\Jz X pins H kS/\Jz X pins H f/\s.heap.get? D=aA (d4 "list" #[] e1)/\s.heap.get? kS=aA (d4 "list" (ik ks) e)/\s.heap.get? f=aA fo/\
  Z2 kvs ks/\ks.length=i/\∀j kv,kvs[j]? =aA kv->KeyOk j kv H
end
end TX
namespace TX
open PySem PySem.Spec PyProof.Rows L2 DL
open PySem.W (kas_sort kas_ask kas_item kat_run kat_snds)
section
variable{X:Cx}{pins:А (aj×Obj)}{σ:L2.St}{H:Hp}{s:am}{E:ah->am->В}{its:А ah}{f D kS:aj}{fo:Obj}{e1:Г}{KeyOk:Г->V->Hp->В}{A:dh}{P:PySem.Fin->am->В}
МOut(X:Cx)(pins:А (aj×Obj))(σ:L2.St)(H0:Hp)(D:aj)(out:А ah)(s:am):Prop:=
 ∃H c,Zi H0 H/\Inv X pins σ H s/\Jz X pins H D/\s.heap.get? D=aA (d4 "list" (ik out) c)
variable{O:KeyOrd}{key:Г->O.α}
МCmp(X:Cx)(pins:А (aj×Obj))(σ:L2.St)(H0:Hp)(A:dh)(KeyOk:Г->V->Hp->В)(O:KeyOrd)(key:Г->O.α)(n:Г):Prop:=
 ∀H2 s2 ks kvs,Zi H0 H2->Inv X pins σ H2 s2->Z2 kvs ks->ks.length=n->(∀j kv,kvs[j]? =aA kv->KeyOk j kv H2)->2<=n->
  ∃κ,(∀Q:SortKind->am->В,Q κ s2->bg (b4 X.prog X.w) A (keyKind' (ik ks)) Q (λ_ _=>False) s2)/\
   ∀i j (Q:Bool->am->В),i<n->j<n->Q (O.blt (key i) (key j)) s2->bg (b4 X.prog X.w) A (keyLt' κ (ks.getD i .none) (ks.getD j .none)) Q (λ_ _=>False) s2
end
end TX
namespace TX
open PySem PySem.Spec PySem.Calls PyProof.Rows L2 DL
end TX
namespace TX
open PySem PySem.Spec PySem.Calls PyProof.Rows L2 DL
open PySem.W (KatLex kat_lt kat_kind KatTups kat_one kat_nil kat_cons kat_yes kat_no)
section
variable{X:Cx}{pins:А (aj×Obj)}{σ:L2.St}{F H:Hp}{s:am}
ЛZff(I:Inv X pins σ H s)(le:Zi F H){n:Г}{A:dh}(hu:A.units+(n+1)<f6){Q:Bool->am->В}{fin:Bool}:∀{ds es:А D} {vs ws:А V} {its jts:А ah} {b:Bool} (i:Г),
  Reps X.K F ds vs->Z2 vs its->Reps X.K F es ws->Z2 ws jts->(i=0->∀d,ds.head? =aA d->∀xs,d≠.tup xs)->Rx (We (n+1)) (Ug (n+1)) ds es=aA b->(its.length=jts.length->fin=aD)->(its.length<jts.length->fin=aC)->(jts.length<its.length->fin=aD)->Q b s->
  KatLex X.prog X.w A aC fin Q (its.zip jts) i s
 |_,_,_,_,_,_,b,i,.nil,.nil,.nil,.nil,_,e,f1,_,_,q=>by
  obtain rfl:aD=b:=by L e
  T Q fin s;K[f1 rfl];E q
 |_,_,_,_,_,_,b,i,.nil,.nil,.cons _ _,.cons _ _,_,e,_,f2,_,q=>by
  obtain rfl:aC=b:=by L e
  T Q fin s;K[f2 К];E q
 |_,_,_,_,_,_,b,i,.cons _ _,.cons _ _,.nil,.nil,_,e,_,_,f3,q=>by
  obtain rfl:aD=b:=by L e
  T Q fin s;K[f3 К];E q
 |d::ds,d'::es,_,_,_,_,b,i,.cons h t,.cons r rs,.cons h' t',.cons r' rs',hd,e,f1,f2,f3,q=>by
  V e:(We (n+1) d d').bind (λb=>if b=aC then Rx (We (n+1)) (Ug (n+1)) ds es else Ug (n+1) d d')=aA b:=e;O⟨c,hc,e2⟩:=aa.mp e;R kat_cons (Mn I le (n+1) A _ _ _ _ _ _ _ И h r h' r' hc X.prog X.w _ _ ?_);cases c with
  |true=>
   V e2:Rx (We (n+1)) (Ug (n+1)) ds es=aA b:=by L e2
   E kat_yes (Zff I le hu (i+1) t rs t' rs' (λz=>absurd z (Nat.succ_ne_zero i)) e2 (λz=>f1 (by simp[z])) (λz=>f2 (by L z)) (λz=>f3 (by L z)) q)
  |false=>
   V e2:Ug (n+1) d d'=aA b:=by L e2
   R kat_no ?_;cases i with
   |zero=>E Znn I le hu h r h' r' e2 (hd rfl d rfl) X.prog X.w _ _ q
   |succ i=>
    V :(aC&&(i+1==0))=aD:=by simp
    K[this];R kat_one _ _ (X6 I le (n+1) A _ _ _ _ _ _ _ И h r h' r' e2 X.prog X.w _ _ ?_);E q
inductive KK where
 |lst|str|int
inductive IsKey:KK->D->В where
 |lst (xs:А D) (r:А D):IsKey .lst (.tup (.lst xs::r))
 |str (x:Str) (r:А D):IsKey .str (.tup (.str x::r))
 |int (i:Int) (r:А D):IsKey .int (.tup (.int i::r))
ЛIsKey.shape{b:KK}{d:D}(h:IsKey b d):∃e r,d= .tup (e::r)/\∀xs,e≠.tup xs:=by
 cases h with
 |lst xs r=>E⟨_,r,rfl,λ_ z=>by C z⟩
 |str x r=>E⟨_,r,rfl,λ_ z=>by C z⟩
 |int x r=>E⟨_,r,rfl,λ_ z=>by C z⟩
МkT:KK->String
 | .lst=>"list"
 | .str=>"str"
 | .int=>"int"
ЛZno(I:Inv X pins σ H s)(le:Zi F H){n:Г}{A:dh}(hu:A.units+(n+2)<f6){d1 d2:D}{x y:V}{v u:ah}{b:Bool}{k:KK}{E:ah->am->В}{Q:Bool->am->В}(k1:IsKey k d1)(k2:IsKey k d2)
  (r1:Rep X.K F d1 x) (v1:Zy x v) (r2:Rep X.K F d2 y) (v2:Zy y u) (e:Ug (n+2) d1 d2=aA b) (q:Q b s):bg (b4 X.prog X.w) A (keyLt' (tuples' aC) v u) Q E s:=by
 O⟨e1,rs1,rfl,hn1⟩:=k1.shape;O⟨e2,rs2,rfl,_⟩:=k2.shape;cases r1 with
 |tup h1 p1=>cases r2 with
  |tup h2 p2=>
   C v1;C v2;O⟨its,rv,o,ho,hc,m,hd⟩:=Q9 I le h1;O⟨jts,rw',o',ho',hc',m',hd'⟩:=Q9 I le h2;V e:Rx (We (n+1)) (Ug (n+1)) (e1::rs1) (e2::rs2)=aA b:=e;R kat_lt ho hd ho' hd' ?_;R Zff I le И 0 p1 rv p2 rw' (λ_ d z xs=>?_) e (λz=>?_) (λz=>?_) (λz=>?_) q
   ·obtain rfl:e1=d:=by L z
    E hn1 xs
   ·simp[z]
   ·L z
   ·V z:jts.length<its.length:=by L z
    simp;W
ЛKj(I:Inv X pins σ H s)(le:Zi F H){k:KK}:∀{ds:А D} {vs:А V} {its:А ah},(∀d∈ds,IsKey k d)->Reps X.K F ds vs->Z2 vs its->∃fs,KatTups s.heap its fs/\fs.length=its.length/\∀v∈fs,PySem.W.Looks (b4 X.prog X.w) s.heap (typeOf v) (.type (kT k))
 |_,_,_,_,.nil,.nil=>⟨[],trivial,rfl,λ_ z=>nomatch z⟩
 |d::ds,_,_,hk,.cons h t,.cons r rs=>by
  O⟨fs,a,b,c⟩:=Kj I le (λd z=>hk d (ao _ z)) t rs;cases hk d af with
  |lst xs rr=>cases h with
   |tup h1 p1=>
    C r;O⟨its,rv,o,ho,hc,m,hd⟩:=Q9 I le h1;cases p1 with
    |cons q1 q2=>cases rv with
     |cons w1 w2=>cases q1 with
      |lst g1 _ g2=>
       C w1;O⟨jts,_,o2,ho2,hc2,_⟩:=Ux I le g1;R⟨_::fs,KatTups.cons ho hc hd rfl a,by simp[b],λv z=>?_⟩;J bx.mp z with z|z
       ·Q z;E λA Q E s' k q=>wpAny_typeOf (T:="list") ⟨o2,k _ _ ho2,hc2⟩ q
       ·E c v z
  |str x rr=>cases h with
   |tup h1 p1=>
    C r;O⟨its,rv,o,ho,hc,m,hd⟩:=Q9 I le h1;cases p1 with
    |cons q1 q2=>cases rv with
     |cons w1 w2=>cases q1 with
      |str y=>
       O⟨tk,rfl⟩:=w1;R⟨_::fs,KatTups.cons ho hc hd rfl a,by simp[b],λv z=>?_⟩;J bx.mp z with z|z
       ·Q z;E λA Q E s' k q=>wpAny_typeOf (T:="str") (typeIs_str s' x tk) q
       ·E c v z
  |int x rr=>cases h with
   |tup h1 p1=>
    C r;O⟨its,rv,o,ho,hc,m,hd⟩:=Q9 I le h1;cases p1 with
    |cons q1 q2=>cases rv with
     |cons w1 w2=>cases q1 with
      |int y=>
       O⟨tk,rfl⟩:=w1;R⟨_::fs,KatTups.cons ho hc hd rfl a,by simp[b],λv z=>?_⟩;J bx.mp z with z|z
       ·Q z;E λA Q E s' k q=>wpAny_typeOf (T:="int") (typeIs_int s' x tk) q
       ·E c v z
ЛZfg(I:Inv X pins σ H s)(le:Zi F H){A:dh}{E:ah->am->В}{k:KK}{ds:А D}{vs:А V}{its:А ah}(hk:∀d∈ds,IsKey k d)(r:Reps X.K F ds vs)(rv:Z2 vs its)(h2:0<its.length){Q:SortKind->am->В}(q:Q (tuples' aC) s):
  bg (b4 X.prog X.w) A (keyKind' (ik its)) Q E s:=by
 O⟨fs,a,b,c⟩:=Kj I le hk r rv;R kat_kind (T:=.type (kT k)) a И c (by cases k<;> decide) ?_;cases k<;> E q
end
end TX
namespace TX
open PySem PySem.Spec PySem.Calls PyProof.Rows L2 DL
structure KeysOk(ks:А D):В where
 key:∃k,∀d∈ks,IsKey k d
 ord:∃enc:D->А Г,(∀a∈ks,∀b∈ks,Ug 16 a b=aA (decide (enc a<enc b)))/\∀i j:Г,i<ks.length->j<ks.length->enc (ks.getD i .non)=enc (ks.getD j .non)->i=j
МRy(ks:А D)(p:А Г):Prop:=p.Perm (cq ks.length)/\p.Pairwise λi j=>Ug 16 (ks.getD j .non) (ks.getD i .non)=aA aD
ЛX7{ks:А D}(h:KeysOk ks){p q:А Г}(hp:Ry ks p)(hq:Ry ks q):p=q:=by
 O⟨enc,he,hd⟩:=h.ord;V get:∀i,i<ks.length->ks.getD i .non∈ks:=λi hi=>by K[bn,av hi];E List.getElem_mem hi
 V mp:∀i∈p,i<ks.length:=λi hi=>cu.mp (hp.1.mem_iff.mp hi);V mq:∀i∈q,i<ks.length:=λi hi=>cu.mp (hq.1.mem_iff.mp hi);R List.Perm.eq_of_pairwise (le:=λi j=>Ug 16 (ks.getD j .non) (ks.getD i .non)=aA aD) (λa b ha hb h1 h2=>?_) hp.2 hq.2 (hp.1.trans hq.1.symm);K[he _ (get _ (mq b hb)) _ (get _ (mp a ha))]at h1;K[he _ (get _ (mp a ha)) _ (get _ (mq b hb))]at h2;V h1:¬enc (ks.getD b .non)<enc (ks.getD a .non):=by L h1
 V h2:¬enc (ks.getD a .non)<enc (ks.getD b .non):=by L h2
 E hd a b (mp a ha) (mq b hb) (List.le_antisymm (de.mp h1) (de.mp h2))
ЛBt{ks:А D}(h:KeysOk ks):∃p,Ry ks p:=by
 O⟨enc,he,hd⟩:=h.ord;V get:∀i,i<ks.length->ks.getD i .non∈ks:=λi hi=>by K[bn,av hi];E List.getElem_mem hi
 R⟨(cq ks.length).mergeSort λi j=>decide (¬enc (ks.getD j .non)<enc (ks.getD i .non)),List.mergeSort_perm _ _,?_⟩;V pw:=List.pairwise_mergeSort (le:=λi j:Г=>decide (¬enc (ks.getD j .non)<enc (ks.getD i .non)))
  (λa b c h1 h2=>by
   simp only[decide_eq_true_eq]at*;E de.mpr (List.le_trans (de.mp h1) (de.mp h2)))
  (λa b=>by
   simp only[Bool.or_eq_true,decide_eq_true_eq];J List.le_total (enc (ks.getD a .non)) (enc (ks.getD b .non))with z|z
   ·E .inl (de.mpr z)
   ·E .inr (de.mpr z)) (cq ks.length)
 R(List.Pairwise.imp_of_mem ?_ pw);I i j hi hj z;V hi:i<ks.length:=cu.mp ((List.mergeSort_perm _ _).mem_iff.mp hi);V hj:j<ks.length:=cu.mp ((List.mergeSort_perm _ _).mem_iff.mp hj);K[he _ (get j hj) _ (get i hi)];L z
open Classical in
МTn(ks xs:А D):Б SV:=
 if h:ks.length=xs.length/\xs.length<64/\KeysOk ks then aA (.ol ((Classical.choose (Bt h.2.2)).map λi=>xs.getD i .non))else aB
ЛZi0{ks xs:А D}{sv:SV}(e:Tn ks xs=aA sv):ks.length=xs.length/\xs.length<64/\KeysOk ks/\∃p,Ry ks p/\sv= .ol (p.map λi=>xs.getD i .non):=by
 U Tn at e;split at e
 ·rename_i h;C e;E⟨h.1,h.2.1,h.2.2,_,Classical.choose_spec (Bt h.2.2),rfl⟩
 ·C e
ЛZi1{ks xs:А D}(h1:ks.length=xs.length)(h2:xs.length<64)(h3:KeysOk ks):∃p,Ry ks p/\Tn ks xs=aA (.ol (p.map λi=>xs.getD i .non)):=by R⟨_,Classical.choose_spec (Bt h3),?_⟩;U Tn;K[dif_pos ⟨h1,h2,h3⟩]
НZws(fb:FE)(cs:А D)(d:D):Б D:=(fb (aA (.fz d)::cs.map λc=>aA (.fz c))).bind λp=>(frz p.1 p.2).bind λq=>aA q.1
НZfh(fb:FE)(cs:А D):А D->Б (А D)
 | []=>aA []
 |d::ds=>(Zws fb cs d).bind λk=>(Zfh fb cs ds).bind λks=>aA (k::ks)
НZrx(fb:FE)(js:А Г)(d:D)(δ:Yk):Б (RV×Yk):=match d with
 | .lst xs=>(frzAll (js.map RV.bw) δ).bind λr=>(Zfh fb r.1 xs).bind λks=>(Tn ks xs).bind λsv=>aA (.tmp sv,r.2)
 |_=>aB
НZwt(fa:FE)(js:А Г)(fb:FE):FE:=λδ=>(fa δ).bind λp=>(frz p.1 p.2).bind λq=>Zrx fb js q.1 q.2
section
variable{K:ad}{Z:Ent K}{H:Hp}{σ:L2.St}
ЛReps.len2{F:Hp}:∀{ds:А D} {vs:А V},Reps K F ds vs->ds.length=vs.length
 |_,_,.nil=>rfl
 |_,_,.cons _ t=>congrArg (· +1) (Reps.len2 t)
end
end TX
namespace TX
open PySem PySem.Spec PySem.Calls PyProof.Rows L2 DL
open PySem.W (CodeHd kla_fn kla_obj)
section
variable{X:Cx}{pins:А (aj×Obj)}{σ:L2.St}{H:Hp}{s:am}
ЛD4{K:ad}{F:Hp}:∀{ks:А D} {kvs:А V},kvs.length=ks.length->(∀(j:Г) kv,kvs[j]? =aA kv->Rep K F (ks.getD j .non) kv)->Reps K F ks kvs
 | [],[],_,_=>.nil
 |k::ks,v::kvs,hl,h=>.cons (h 0 v rfl) (D4 (by L hl) λj kv e=>h (j+1) kv (by L e))
ЛZb6:∀{ws:А V} {its:А ah},Z2 ws its->∀{p:А Г},(∀i∈p,i<its.length)->Z2 (p.map λi=>ws.getD i .non) (p.map λi=>its.getD i ck):=by
 I ws its h p hp;V at':∀{ws:А V} {its:А ah},Z2 ws its->∀i,i<its.length->Zy (ws.getD i .non) (its.getD i ck):=by
  I ws its h;induction h with
  |nil=>intro i hi;simp at hi
  |cons r t ih=>intro i hi;cases i with
   |zero=>E r
   |succ i=>E ih i (by L hi)
 induction p with
 |nil=>E .nil
 |cons i r ih=>E .cons (at' h i (hp i af)) (ih λj hj=>hp j (ao _ hj))
ЛNm{K:ad}{F:Hp}:∀{xs:А D} {ws:А V},Reps K F xs ws->∀(i:Г),i<xs.length->Rep K F (xs.getD i .non) (ws.getD i .non)
 |_,_,.nil,i,hi=>absurd hi (dz _)
 |_,_,.cons h t,0,_=>h
 |_,_,.cons h t,i+1,hi=>Nm t i (Nat.lt_of_succ_lt_succ hi)
ЛKk{K:ad}{F:Hp}{xs:А D}{ws:А V}(h:Reps K F xs ws):∀{p:А Г},(∀i∈p,i<xs.length)->Reps K F (p.map λi=>xs.getD i .non) (p.map λi=>ws.getD i .non)
 | [],_=>.nil
 |i::r,hp=>.cons (Nm h i (hp i af)) (Kk h λj hj=>hp j (ao _ hj))
аD5(enc:D->А Г)(ks:А D)(i:Г):strKind.toKeyOrd.α:=enc (ks.getD i .non)
ЛZfi{ks:А D}{enc:D->А Г}{A:dh}{kb:KK}(hu:A.units+16<f6)(hk:∀d∈ks,IsKey kb d)(he:∀a∈ks,∀b∈ks,Ug 16 a b=aA (decide (enc a<enc b))){n:Г}(hn:ks.length=n):
  Cmp X pins σ H A (λj kv H=>Rep X.K H (ks.getD j .non) kv) strKind.toKeyOrd (D5 enc ks) n:=by
 I H2 s2 ksV kvs sm I2 rv hl hkv h2;V hlk:kvs.length=ks.length:=by V :=rv.length;W
 V rr:=D4 hlk hkv;V get:∀i,i<ks.length->ks.getD i .non∈ks:=λi hi=>by K[bn,av hi];E List.getElem_mem hi
 R⟨tuples' aC,λQ q=>Zfg I2 (Zi.refl H2) hk rr rv И q,λi j Q hi hj q=>?_⟩;O⟨v,a1,a2,a3⟩:=Reps.getD rr rv i И;O⟨w,b1,b2,b3⟩:=Reps.getD rr rv j И;V e1:ksV.getD i ck=ksV[i]:=by simp[bn,av (show i<ksV.length by W)]
 V e2:ksV.getD j ck=ksV[j]:=by simp[bn,av (show j<ksV.length by W)]
 K[e1,e2];E Zno I2 (Zi.refl H2) (n:=14) hu (hk _ (get i a3)) (hk _ (get j b3)) a1 a2 b1 b2 (he _ (get i a3) _ (get j b3)) q
ЛZfj{ks:А D}{enc:D->А Г}(he:∀a∈ks,∀b∈ks,Ug 16 a b=aA (decide (enc a<enc b))){p:Array Г}{n:Г}(hn:ks.length=n)(hp:Pm n p)(hs:Nl (O:=strKind.toKeyOrd) (D5 enc ks) p n):Ry ks p.toList:=by
 Q hn;V pt:p.toList.Perm (cq ks.length):=Array.perm_iff_toList_perm.mp hp;V get:∀i,i<ks.length->ks.getD i .non∈ks:=λi hi=>by K[bn,av hi];E List.getElem_mem hi
 R⟨pt,List.pairwise_iff_getElem.mpr λi j hi hj hij=>?_⟩;V hj':j<ks.length:=by V :=pt.length_eq;K[List.length_range]at this;W
 V mi:p.toList[i]<ks.length:=cu.mp (pt.mem_iff.mp (List.getElem_mem hi));V mj:p.toList[j]<ks.length:=cu.mp (pt.mem_iff.mp (List.getElem_mem hj));K[he _ (get _ mj) _ (get _ mi)];V z:=hs i j (Nat.le_of_lt hij) hj';U Kp at z;V ei:p.getD i 0=p.toList[i]:=by K[Array.getD_eq_getD_getElem?];simp at hi⊢;simp[hi]
 V ej:p.getD j 0=p.toList[j]:=by K[Array.getD_eq_getD_getElem?];simp at hj⊢;simp[hj]
 K[ei,ej]at z;V z:decide (enc (ks.getD p.toList[j] .non)<enc (ks.getD p.toList[i] .non))=aD:=z;K[z]
end
end TX
namespace TX
open PySem PySem.Spec PySem.Calls PyProof.Rows L2 DL
open PySem.W (CodeHd tabObj)
аspT(P:aj)(q:Str)(sp:Sp):Sp:=λvs H Q E=>H P=aA (.tab q)/\sp vs H Q E
structure FunC(K:ad)(x qual:Str)(st:Stmt)(f:aj)(fd:ci)(c:aj):В where
 ex:∃(oc:ah) (od:Б aj) (kV doc pm:ah) (an:Б aj) (ct:ah) (osl:Array (Б ah)),
  fd=PySem.W.fnOf x qual (Bl st) (Uc st) (Zx st) .none kV doc pm an (.ref c) ct/\K.lookup f=aA ⟨oc,od,.func fd,osl⟩/\PySem.W.codeIn K (.ref c) qual=aC
 kp:bu K (.ref f)=aC
end TX
namespace TX
open PySem PySem.Spec PySem.Calls PyProof.Rows L2 DL
МleS(a b:Str):Bool:=decide (¬b.cps.toList<a.cps.toList)
МZi2(ss:А Str):А Str:=ss.mergeSort leS
end TX
namespace L2
open PySem PySem.Spec PySem.Calls PyProof.Rows TX
section
variable{X:Cx}
МZyy(K:ad):А V->Hp->VK->Prop:=λxs H Q=>∃l ss,xs=[.ref l]/\W5 K H l (ss.map V.str)/\ss.length<64/\∀q,H q=aB->Q (.ref q) (Z9 H q (.lst ((Zi2 ss).map V.str)))
end
end L2
namespace DL
open PySem PySem.Spec PySem.Calls PyProof.Rows L2 TX
variable{K:ad}
Нtxs?:А D->Б (А Str)
 | []=>aA []
 | .str i::r=>(txs? r).bind λl=>aA (i::l)
 |_=>aB
МZyz:А D->Б SV
 | [.lst xs]=>(txs? xs).bind λns=>if ns.length<64 then aA (.ol ((Zi2 ns).map D.str))else aB
 |_=>aB
НltS:D->D->Б SV
 | .str a,.str b=>aA (.fz (.bl (decide (a.cps.toList<b.cps.toList))))
 |_,_=>aB
end DL
namespace TX
open PySem PySem.Spec PySem.Calls PyProof.Rows L2 DL
open PySem.W (CodeHd tabObj)
МZ1e(names:А (Str×NameKind))(cl:А (Str×aj)):Bool:=names.all λp=>p.2 != .free|| (cl.lookup p.1).isSome
МjsB(N:А Str)(sc lc:А (Str×NameKind)):А Г->А Str->Bool
 |j::js,y::fs=>N[j]? ==aA y&&sc.lookup y==aA .cell&&lc.lookup y==aA .free&&jsB N sc lc js fs
 | [],[]=>aC
 |_,_=>aD
end TX
namespace DL
open PySem PySem.Spec PySem.Calls PyProof.Rows L2 TX
end DL
namespace DL
open PySem PySem.Spec PySem.Calls PyProof.Rows L2
section
variable{K:ad}{Z:Ent K}{H:Hp}{σ:L2.St}
open Classical in
НZy0(fa:FA):FD:=λδ=>(fa δ).bind λp=>match Oe p.1 p.2 with
 |some [.int i,.int j]=>if Mi i/\Mi j then aA (Td i (j- i).toNat,p.2)else aB
 |_=>aB
end
end DL
namespace TX
open PySem PySem.Spec PySem.Calls PyProof.Rows L2 DL
open PySem.W (kas_sort kas_ask kas_item kat_run kat_snds)
section
variable{X:Cx}{pins:А (aj×Obj)}{σ:L2.St}{H:Hp}{s:am}{E:ah->am->В}{its:А ah}{l:aj}{KeyOk:Г->V->Hp->В}{Q:ah->am->В}{O:KeyOrd}{key:Г->O.α}{kvs:А V}
ЛX8(I:Inv X pins σ H s)(hl:s.heap.IsList l its.toArray)(h64:its.length<64)(rv:Z2 kvs its)(hk:∀j kv,kvs[j]? =aA kv->KeyOk j kv H)(hc:Cmp X pins σ H X.A.in1.in1 KeyOk O key its.length)
  (hQ:∀p D s' c,Pm its.length p->Nl key p its.length->X.s₀.heap.get? D=aB->Inv X pins σ H s'->Jz X pins H D->s'.heap.get? D=aA (d4 "list" (ik (p.toList.map λi=>its.getD i ck)) c)->Q (.ref D) s'):
  bg (b4 X.prog X.w) X.A (call (.builtin "sorted") [.ref l]) Q E s:=by
 R Calls.call_function_entry kind_sorted plain_sorted entry_sorted (args_sorted1 _) ?_;U Builtin.«sorted»;R ac (m:=checkCount "sorted" 1 1 _) (ag ?_);R ac (collect_list hl ?_ (by K[fu];W));R ac (wpAny_newList ?_ (by K[fu];W));V hsz:((s.heap.push (d4 "list" #[] 0)).update s.heap.objs.size (di (· ++its.toArray))).objs.size=s.heap.objs.size+1:=by K[Heap.size_update,size_push']
 V hoL:(((s.heap.push (d4 "list" #[] 0)).update s.heap.objs.size (di (· ++its.toArray))).push (d4 "list" its.toArray 0)).get? (s.heap.objs.size+1)=aA (d4 "list" its.toArray 0):=by K[<-hsz];E bp _ rfl
 V keep:∀b o,s.heap.get? b=aA o->(((s.heap.push (d4 "list" #[] 0)).update s.heap.objs.size (di (· ++its.toArray))).push (d4 "list" its.toArray 0)).get? b=aA o:=λb o q=>by V hlt:b<s.heap.objs.size:=bo q;K[Heap.get?_push_ne _ _ _ (by K[hsz];E cf (Nat.lt_succ_of_lt hlt)),Heap.get?_update_ne _ _ _ _ (cf hlt),Heap.get?_push_ne _ _ _ (cf hlt)];E q
 T bg _ _ _ _ _ {s with heap:=((s.heap.push (d4 "list" #[] 0)).update s.heap.objs.size (di (· ++its.toArray))).push (d4 "list" its.toArray 0)};K[hsz];R ac (gn (dr slot_list_sort ⟨_,hoL,rfl⟩ entry_list_sort ?body (args_list_sort _)))
 case body=>
  K[list_sort_plain];V hs2:(((s.heap.push (d4 "list" #[] 0)).update s.heap.objs.size (di (· ++its.toArray))).push (d4 "list" its.toArray 0)).objs.size=s.heap.objs.size+2:=by K[size_push',hsz]
  generalize hh:(((s.heap.push (d4 "list" #[] 0)).update s.heap.objs.size (di (· ++its.toArray))).push (d4 "list" its.toArray 0))=h1 at hoL keep hs2⊢;generalize hD:s.heap.objs.size+1=D at hoL⊢;V hDn: @Eq Г D (s.heap.objs.size+1):=hD.symm;obtain⟨e1,ho1⟩:∃e1,(h1.update D (di λ_=>(#[]:Array ah))).get? D=aA (d4 "list" #[] e1):=⟨_,get?_update_seq hoL λ_=> #[]⟩
  R ac (listItems_at hoL rfl ?_);R ac (listUpdate_at hoL rfl ?_ (by K[bq,fu];W) (f7 _));R ac (seqEpoch_at ho1 rfl ?_);R ac (wpAny_newTuple ?_ (by T its.length<=_;K[fu];W));R ac (wpAny_newList ?_ (f7 _));R gn ?_;V kp:∀b o,s.heap.get? b=aA o->(((h1.update D (di λ_=>(#[]:Array ah))).push (d4 "tuple" its.toArray 0)).push (d4 "list" #[] 0)).get? b=aA o:=λb o q=>by V hlt: @LT.lt Г _ b s.heap.objs.size:=bo q;V :=keep b o q;R au _ (au _ ?_);K[Heap.get?_update_ne _ _ _ _ (cf (show @LT.lt Г _ b D by W))];E this
  V nD:H D=aB:=I.hok.fresh И;V fD:Jz X pins H D:=I.fpOk И nD;V ho6:(((h1.update D (di λ_=>(#[]:Array ah))).push (d4 "tuple" its.toArray 0)).push (d4 "list" #[] 0)).get? D=aA (d4 "list" #[] e1):=au _ (au _ ho1);V I6:Inv X pins σ H {s with heap:=((h1.update D (di λ_=>(#[]:Array ah))).push (d4 "tuple" its.toArray 0)).push (d4 "list" #[] 0)}:=I.kept kp;T bg (b4 X.prog X.w) X.A.in1.in1 _ _ _ {s with heap:=((h1.update D (di λ_=>(#[]:Array ah))).push (d4 "tuple" its.toArray 0)).push (d4 "list" #[] 0)};V hD0:X.s₀.heap.get? D=aB:=Heap.get?_none_of_le (dk I.sz И);generalize hs6:({s with heap:=((h1.update D (di λ_=>(#[]:Array ah))).push (d4 "tuple" its.toArray 0)).push (d4 "list" #[] 0)}:am)=s6 at I6⊢;V ho6:s6.heap.get? D=aA (d4 "list" #[] e1):=by K[<-hs6];E ho6
  V fin:∀(p:Array Г) (out:Array ah),out=ik (p.toList.map λi=>its.getD i ck)->out.size<64->Pm its.length p->Nl key p its.length->
    Q (.ref D) {s6 with heap:=s6.heap.update D (di λ_=>out)}:=λp out ho hz z1 z2=>by
   Q ho;E hQ p D _ _ z1 z2 hD0 (D3 (o:=d4 "list" #[] 0) (xs:= #[]) (ys:= #[]) (n:=0) I6 fD) fD (get?_update_seq ho6 λ_=>_)
  try dsimp only
  B h2:its.toArray.size<2
  ·K[Е h2,Е h2];V h2':its.length<2:=by L h2
   R ac (ag ?_);K[StateT.run_pure];R ac (ag ?_)
   try dsimp only
   V eo:(arrOf (SortSt.mk' general' (its.toArray.zip its.toArray) #[] 7 aB)).map (·.2)=ik ((ik (cq its.length)).toList.map λi=>its.getD i ck):=by
    show(its.toArray.zip its.toArray).map (·.2)=_;apply Array.toList_inj.mp;K[Array.toList_map,ksk_zip];simp only[List.toList_toArray];K[List.map_snd_zip И];apply List.ext_getElem
    ·simp
    ·I i a b;simp[a]
   K[eo];R ac (seqEpoch_at ho6 rfl ?_);R ac (listUpdate_at ho6 rfl ?_ (f7 _) (by K[bq,fu];simp;W));T bg _ _ (if((e1 !=e1)=aC)then _ else _) _ _ _;simp only[bne_self_eq_false,bi,if_false];R ag ⟨_,rfl,ag ⟨_,rfl,fin (ik (cq its.length)) _ rfl (by simp;W) (Array.Perm.refl _) (λi j hij hj=>?_)⟩⟩;V :i=j:=by W
   Q this;E KeyOrd.kle_refl _
  ·K[Д h2,Д h2];V h2':2<=its.length:=Nat.le_of_not_lt (by L h2);O⟨κ,hκ,hlt⟩:=hc H s6 its kvs (Zi.refl H) I6 rv rfl hk h2';R ac (wpAny_mono (hκ (λκ' s'=>κ'=κ/\s'=s6) ⟨rfl,rfl⟩) (λκ' s' z=>?_) λ_ _ z=>z.elim);O⟨rfl,rfl⟩:=z;V g:=W6.wp (lt:=Fb O key) (n:=its.length) (R:=λq=>Pm its.length q/\Nl key q its.length) (cmp:=kas_ask X.prog X.w X.A.in1.in1 κ' its) (I:=λs''=>s''=s') (Q:=λq s''=>s''=s'/\Pm its.length q/\Nl key q its.length)
    (λi j C s'' hi hj z hC=>by Q z;E hlt i j C hi hj (hC _ rfl)) (λq s'' z1 z2=>⟨z2,z1⟩) (Kg (key:=key) И) rfl
   R ac (wpAny_mono (kat_run (Q:=λst s''=>∃p:Array Г,s''=s'/\Pm its.length p/\Nl key p its.length/\arrOf st=p.map (kas_item (its.toArray.zip its.toArray))/\failedOf st=aB) rfl h2' h64
    (λp st s'' _ a1 a2 z=>⟨p,z.1,z.2.1,z.2.2,a1,a2⟩) g) (λr s'' z=>?_) λ_ _ z=>z)
   O⟨⟨⟩,st⟩:=r;O⟨p,rfl,z1,z2,z3,z4⟩:=z
   try dsimp only
   K[kat_snds rfl z3];R ac (seqEpoch_at ho6 rfl ?_);R ac (listUpdate_at ho6 rfl ?_ (f7 _) (by K[bq,aq,ay,z1.size,fu];W));K[z4];simp only[bne_self_eq_false,bi,if_false];E ag ⟨_,rfl,ag ⟨_,rfl,fin p _ rfl (by K[bq,aq,ay,z1.size];E h64) z1 z2⟩⟩
end
end TX
namespace L2
open PySem PySem.Spec PySem.Calls PyProof.Rows DL TX
section
variable{X:Cx}
МZk9(K:ad):А V->Hp->VK->Prop:=λvs H Q=>∃l F ds ws p,vs=[.ref l]/\Zi F H/\W5 K H l ws/\Reps K F ds ws/\KeysOk ds/\Ry ds p/\ws.length<64/\∀q,H q=aB->Q (.ref q) (Z9 H q (.lst (p.map λi=>ws.getD i .non)))
ЛZb7(hu:X.A.units+64<f6):Jo X (.builtin "sorted") (Zk9 X.K):=by
 I pins s σ H xs us Q I r h;O⟨l,F,ds,ws,p0,rfl,le,hl,rr,ko,hp0,hz,q⟩:=h;O⟨u,rfl,ru⟩:=Oc r;C ru;O⟨its,rvi,⟨o,n,ho,hcl,_,hd⟩,_⟩:=I.list hl;V hlen:ds.length=its.length:=TX.Reps.lenV rr rvi;V wlen:ws.length=its.length:=rvi.length;O⟨enc,he,hdis⟩:=id ko.ord;O⟨kb,hkb⟩:=id ko.key;V hu2:X.A.in1.in1.units+16<cLine:=by T X.A.units+1+1+16<f6;W
 R X8 (KeyOk:=λj kv H=>Rep X.K H (ds.getD j .non) kv) (O:=strKind.toKeyOrd) (key:=D5 enc ds) I ⟨o,ho,hcl,n,hd⟩ И rvi (λj kv e=>?_) (Zfi hu2 hkb he hlen) ?hQ
 ·V hj:j<ws.length:=(a8.mp e).1;V h1:=Nm rr j И;V :ws.getD j .non=kv:=by K[bn,e];rfl
  K[this]at h1;E h1.mono le
 case hQ=>
  I p D s3 cc hp hs hD0 I3 fD gD;V ep:p.toList=p0:=X7 ko (Zfj he hlen hp hs) hp0;K[ep]at gD;V bnd:∀i∈p0,i<its.length:=λi hi=>by V :=cu.mp (hp0.1.mem_iff.mp hi);W
  V new:Yj X.prog X.w (Z9 H D (.lst (p0.map λi=>ws.getD i .non))) s3.heap D (.lst (p0.map λi=>ws.getD i .non)):=by R⟨?_,p0.map λi=>its.getD i ck,cc,Zb6 rvi bnd,gD⟩;V :=hp0.1.length_eq;K[List.length_range]at this;K[aq,this,fu];W
  E⟨.ref D,_,Inv.trackO I3 hD0 fD.1 fD.2.1 fD.2.2.2.2.1 fD.2.2.2.2.2 new,rfl,q D fD.1⟩
end
end L2
namespace DL
open PySem PySem.Spec PySem.Calls PyProof.Rows L2 TX
variable{K:ad}
МCm:А D->Б SV
 | [.lst xs]=>Tn xs xs
 |_=>aB
section
variable{Z:Ent K}{H:Hp}{σ:L2.St}{Q:VK}{E:Ends}
ЛZnp:Us Z (Zk9 K) Cm:=by
 I F H σ δ own vs ds sv Q s r e k;U Cm at e;split at e
 ·rename_i xs;O⟨_,hz,ko,p,hp,rfl⟩:=Zi0 e;cases r with
  |cons h t=>C t;O⟨a,us,rfl,ha,ru⟩:=h.lst s.le;V bnd:∀i∈p,i<xs.length:=λi hi=>cu.mp (hp.1.mem_iff.mp hi);E⟨a,F,xs,us,p,rfl,s.le,ha,ru,ko,hp,by K[<-Reps.len2 ru];E hz,λq hq=>k.lst s (Kk ru bnd) hq⟩
 ·C e
end
section
variable{X:Cx}{Z:Ent X.K}{a b c:cj}{fa fb fc:FE}{pos:Pos}
ЛNn{p:Pos}(hv:X.A.units+64<f6)(hm:X.mg "sorted"=aB)(ha:PE X a (Ze Z fa))(hg:Gl X "sorted":=by rfl)(he:a9 [a] X.env=(aD,gq a X.env)::a9 [] X.env:=by rfl)(hpl:(gr pos (a9 [] X.env)).any (·.1)=aD:=by rfl):
  PE X (.Call (.Name "sorted" p) [a] [] pos) (Ze Z (Yq Cm (Zc fa Zj))):=L8 (Zb7 hv) Znp hm L2.Te (Zk ha Ya he) hg Й Й he hpl
end
end DL
namespace TX
open PySem PySem.Spec PySem.Calls PyProof.Rows L2 DL
НZnq(lt:D->D->Б Bool):Г->D->А D->Г->Б Г
 |b,_,[],_=>aA b
 |b,kb,k::ks,j=>(lt k kb).bind λc=>if c=aC then Znq lt j k ks (j+1)else Znq lt b kb ks (j+1)
section
variable{X:Cx}{pins:А (aj×Obj)}{σ:L2.St}{H:Hp}{s:am}{ws:А V}{f l I S:aj}{fo:Obj}{ks:А D}
МMSt(X:Cx)(pins:А (aj×Obj))(σ:L2.St)(H0:Hp)(f:aj)(fo:Obj)(I S l:aj)(j:Г)(best:Array ah)(H:Hp)(s:am):Prop:=
 Zi H0 H/\Inv X pins σ H s/\Jz X pins H I/\Jz X pins H S/\Jz X pins H f/\s.heap.IsListIter I l j/\(∃c,s.heap.get? S=aA (d4 "list" best c))/\s.heap.get? f=aA fo
МZwu(X:Cx)(pins:А (aj×Obj))(σ:L2.St)(H:Hp)(A:dh)(f:aj)(fo:Obj)(ws:А V)(ks:А D):Prop:=
 ∀(j:Г) (u:ah) (H1:Hp) (s1:am),j<ws.length->Zy (ws.getD j .non) u->Zi H H1->Inv X pins σ H1 s1->s1.heap.get? f=aA fo->Jz X pins H1 f->
  bg (b4 X.prog X.w) A (call (.ref f) [u]) (λk s2=>∃kv H2,Zi H1 H2/\Inv X pins σ H2 s2/\Un (frs X.stack) [] H1 H2 s1.heap s2.heap/\Zy kv k/\Rep X.K H2 (ks.getD j .non) kv) (λ_ _=>False) s1
end
end TX
namespace TX
open PySem PySem.Spec PySem.Calls PyProof.Rows L2 DL
open PySem.W (CodeHd kla_fn kla_obj)
НZwv(lt:D->D->Б Bool):А D->Б (Б Г)
 | []=>aA aB
 |k::ks=>(Znq lt 0 k ks 1).bind λm=>aA (aA m)
end TX
namespace TX
open PySem PySem.Spec PySem.Calls PyProof.Rows L2 DL
open PySem.W (CodeHd kla_fn kla_obj)
НZww(fb:FE)(js:А Г)(d:D)(δ:Yk):Б (RV×Yk):=match d with
 | .lst xs=>(frzAll (js.map RV.bw) δ).bind λr=>(Zfh fb r.1 xs).bind λks=>(Zwv (Ug 16) ks).bind λm=>aA (.tmp (.fz ((m.map λi=>xs.getD i .non).getD .non)),r.2)
 |_=>aB
НZy1(fa:FE)(js:А Г)(fb:FE):FE:=λδ=>(fa δ).bind λp=>(frz p.1 p.2).bind λq=>Zww fb js q.1 q.2
end TX
namespace DL
open PySem PySem.Spec PySem.Calls PyProof.Rows L2 TX
end DL
namespace TX
open PySem PySem.Spec PySem.Calls PyProof.Rows L2 DL
end TX
namespace TX
open PySem PySem.Spec PySem.Calls PyProof.Rows L2 DL
open PySem.W (kas_sort kas_ask kas_item kat_run kat_snds)
section
variable{X:Cx}{pins:А (aj×Obj)}{σ:L2.St}{H:Hp}{s:am}{E:ah->am->В}{its:А ah}{KeyOk:Г->V->Hp->В}{Q:ah->am->В}{O:KeyOrd}{key:Г->O.α}{kvs:А V}
ЛZb8(I:Inv X pins σ H s)(h64:its.length<64)(rv:Z2 kvs its)(hk:∀j kv,kvs[j]? =aA kv->KeyOk j kv H)(hc:Cmp X pins σ H X.A.in1.in1 KeyOk O key its.length)
  (hQ:∀p D s' c,Pm its.length p->Nl key p its.length->X.s₀.heap.get? D=aB->Inv X pins σ H s'->Jz X pins H D->s'.heap.get? D=aA (d4 "list" (ik (p.toList.map λi=>its.getD i ck)) c)->Q (.ref D) s'):
  bg (b4 X.prog X.w) X.A.in1 (do
   let l<-newList its;let _<-holding [l] (call (.builtin "list.sort") [l] [])
   ret l) (λfin s'=>∃v,fin= .done (.ret v)/\Q v s') E s:=by
 R ac (wpAny_newList ?_ (by K[fu];W));V hoL:(s.heap.push (d4 "list" its.toArray 0)).get? s.heap.objs.size=aA (d4 "list" its.toArray 0):=bp _ rfl;V keep:∀b o,s.heap.get? b=aA o->(s.heap.push (d4 "list" its.toArray 0)).get? b=aA o:=λb o q=>au _ q;R ac (gn (dr (s:={s with heap:=s.heap.push (d4 "list" its.toArray 0)}) slot_list_sort ⟨_,hoL,rfl⟩ entry_list_sort ?body (args_list_sort _)))
 case body=>
  K[list_sort_plain];V hs2:(s.heap.push (d4 "list" its.toArray 0)).objs.size=s.heap.objs.size+1:=size_push' ..;generalize hh:(s.heap.push (d4 "list" its.toArray 0))=h1 at hoL keep hs2⊢;generalize hD:s.heap.objs.size=D at hoL⊢;V hDn: @Eq Г D s.heap.objs.size:=hD.symm;obtain⟨e1,ho1⟩:∃e1,(h1.update D (di λ_=>(#[]:Array ah))).get? D=aA (d4 "list" #[] e1):=⟨_,get?_update_seq hoL λ_=> #[]⟩
  R ac (listItems_at hoL rfl ?_);R ac (listUpdate_at hoL rfl ?_ (by K[bq,fu];W) (f7 _));R ac (seqEpoch_at ho1 rfl ?_);R ac (wpAny_newTuple ?_ (by T its.length<=_;K[fu];W));R ac (wpAny_newList ?_ (f7 _));R gn ?_;V kp:∀b o,s.heap.get? b=aA o->(((h1.update D (di λ_=>(#[]:Array ah))).push (d4 "tuple" its.toArray 0)).push (d4 "list" #[] 0)).get? b=aA o:=λb o q=>by V hlt: @LT.lt Г _ b s.heap.objs.size:=bo q;V :=keep b o q;R au _ (au _ ?_);K[Heap.get?_update_ne _ _ _ _ (cf (show @LT.lt Г _ b D by W))];E this
  V nD:H D=aB:=I.hok.fresh И;V fD:Jz X pins H D:=I.fpOk И nD;V ho6:(((h1.update D (di λ_=>(#[]:Array ah))).push (d4 "tuple" its.toArray 0)).push (d4 "list" #[] 0)).get? D=aA (d4 "list" #[] e1):=au _ (au _ ho1);V I6:Inv X pins σ H {s with heap:=((h1.update D (di λ_=>(#[]:Array ah))).push (d4 "tuple" its.toArray 0)).push (d4 "list" #[] 0)}:=I.kept kp;T bg (b4 X.prog X.w) X.A.in1.in1 _ _ _ {s with heap:=((h1.update D (di λ_=>(#[]:Array ah))).push (d4 "tuple" its.toArray 0)).push (d4 "list" #[] 0)};V hD0:X.s₀.heap.get? D=aB:=Heap.get?_none_of_le (dk I.sz И);generalize hs6:({s with heap:=((h1.update D (di λ_=>(#[]:Array ah))).push (d4 "tuple" its.toArray 0)).push (d4 "list" #[] 0)}:am)=s6 at I6⊢;V ho6:s6.heap.get? D=aA (d4 "list" #[] e1):=by K[<-hs6];E ho6
  V fin:∀(p:Array Г) (out:Array ah),out=ik (p.toList.map λi=>its.getD i ck)->out.size<64->Pm its.length p->Nl key p its.length->
    Q (.ref D) {s6 with heap:=s6.heap.update D (di λ_=>out)}:=λp out ho hz z1 z2=>by
   Q ho;E hQ p D _ _ z1 z2 hD0 (D3 (o:=d4 "list" #[] 0) (xs:= #[]) (ys:= #[]) (n:=0) I6 fD) fD (get?_update_seq ho6 λ_=>_)
  try dsimp only
  B h2:its.toArray.size<2
  ·K[Е h2,Е h2];V h2':its.length<2:=by L h2
   R ac (ag ?_);K[StateT.run_pure];R ac (ag ?_)
   try dsimp only
   V eo:(arrOf (SortSt.mk' general' (its.toArray.zip its.toArray) #[] 7 aB)).map (·.2)=ik ((ik (cq its.length)).toList.map λi=>its.getD i ck):=by
    show(its.toArray.zip its.toArray).map (·.2)=_;apply Array.toList_inj.mp;K[Array.toList_map,ksk_zip];simp only[List.toList_toArray];K[List.map_snd_zip И];apply List.ext_getElem
    ·simp
    ·I i a b;simp[a]
   K[eo];R ac (seqEpoch_at ho6 rfl ?_);R ac (listUpdate_at ho6 rfl ?_ (f7 _) (by K[bq,fu];simp;W));T bg _ _ (if((e1 !=e1)=aC)then _ else _) _ _ _;simp only[bne_self_eq_false,bi,if_false];R ag ⟨_,rfl,ag ⟨_,rfl,fin (ik (cq its.length)) _ rfl (by simp;W) (Array.Perm.refl _) (λi j hij hj=>?_)⟩⟩;V :i=j:=by W
   Q this;E KeyOrd.kle_refl _
  ·K[Д h2,Д h2];V h2':2<=its.length:=Nat.le_of_not_lt (by L h2);O⟨κ,hκ,hlt⟩:=hc H s6 its kvs (Zi.refl H) I6 rv rfl hk h2';R ac (wpAny_mono (hκ (λκ' s'=>κ'=κ/\s'=s6) ⟨rfl,rfl⟩) (λκ' s' z=>?_) λ_ _ z=>z.elim);O⟨rfl,rfl⟩:=z;V g:=W6.wp (lt:=Fb O key) (n:=its.length) (R:=λq=>Pm its.length q/\Nl key q its.length) (cmp:=kas_ask X.prog X.w X.A.in1.in1 κ' its) (I:=λs''=>s''=s') (Q:=λq s''=>s''=s'/\Pm its.length q/\Nl key q its.length)
    (λi j C s'' hi hj z hC=>by Q z;E hlt i j C hi hj (hC _ rfl)) (λq s'' z1 z2=>⟨z2,z1⟩) (Kg (key:=key) И) rfl
   R ac (wpAny_mono (kat_run (Q:=λst s''=>∃p:Array Г,s''=s'/\Pm its.length p/\Nl key p its.length/\arrOf st=p.map (kas_item (its.toArray.zip its.toArray))/\failedOf st=aB) rfl h2' h64
    (λp st s'' _ a1 a2 z=>⟨p,z.1,z.2.1,z.2.2,a1,a2⟩) g) (λr s'' z=>?_) λ_ _ z=>z)
   O⟨⟨⟩,st⟩:=r;O⟨p,rfl,z1,z2,z3,z4⟩:=z
   try dsimp only
   K[kat_snds rfl z3];R ac (seqEpoch_at ho6 rfl ?_);R ac (listUpdate_at ho6 rfl ?_ (f7 _) (by K[bq,aq,ay,z1.size,fu];W));K[z4];simp only[bne_self_eq_false,bi,if_false];E ag ⟨_,rfl,ag ⟨_,rfl,fin p _ rfl (by K[bq,aq,ay,z1.size];E h64) z1 z2⟩⟩
end
end TX
namespace L2
open PySem PySem.Spec PySem.Calls PyProof.Rows DL TX
section
variable{X:Cx}
МZy2(K:ad):А V->Hp->VK->Prop:=λvs H Q=>∃a kvs ep bs F ds p,vs=[.ref a]/\Zi F H/\H a=aA (.dT kvs ep bs)/\Reps K F ds (bs.map V.ref)/\KeysOk ds/\Ry ds p/\bs.length<64/\∀q,H q=aB->Q (.ref q) (Z9 H q (.lst (p.map λi=>(bs.map V.ref).getD i .non)))
end
end L2
namespace DL
open PySem PySem.Spec PySem.Calls PyProof.Rows L2 TX
section
variable{K:ad}{F H:Hp}{v:V}
аZla(k:А Key):D:=.tup (k.map Rw)
МZy3:А D->Б SV
 | [.dT ks _]=>Tn (ks.map Zla) (ks.map Zla)
 |_=>aB
variable{Z:Ent K}{σ:L2.St}{Q:VK}{E:Ends}
end
end DL
namespace L2
open PySem PySem.Spec PyProof.Rows
variable{X:Cx}{pos:Pos}
МZry(K:ad)(n:Г)(t:TGs):TG:=λv σ H Q=>∃a xs,v= .ref a/\W5 K H a xs/\xs.length=n/\t xs σ H Q
ЛZnr{es:А cj}{k:Г}{t:TGs}{n:Г}(hc:X.calm=aC)(h:PGs X es t)
  (hn:(assignEach es X.env).length=n:=by rfl) (hst:(assignEach es X.env).findIdx? (·.1)=aB:=by rfl):PG X (.Tuple es k pos) (Zry X.K n t):=by
 I pins s σ H v u Q I r hw;O⟨a,xs,e1,hq,hl,hw⟩:=hw;Q e1;C r;O⟨its,rv,pl,hz⟩:=I.list hq;K[assign_Tuple];R ac (wpAny_standAt ?_);U unpack;K[hst,show(assignEach es X.env).length=its.toArray.size by simp[hn,<-hl,rv.length]];R ac (gn (PySem.W.kun_itemsOf (I.ok.hd hc) pl.isList λh' hx=>?_));V I1:Inv X pins σ H {s with heap:=h'}:=I.kept (t':=s.toks) λb o e=>hx b o (cf (bo e)) e;E h pins _ σ H xs _ Q I1 (by L rv) hw
end L2
namespace DL
open PySem PySem.Spec PyProof.Rows L2
variable{K:ad}{Z:Ent K}{H:Hp}{σ:L2.St}
МSw(n:Г)(g:FGs):FG:=⟨λd δ=>match d with
 | .lst xs=>if xs.length=n then g.run xs δ else aB
 |_=>aB,g.tch⟩
@[simp] theorem Zrz(n:Г)(g:FGs)(xs:А D)(δ:Yk):(Sw n g).run (.lst xs) δ=if xs.length=n then g.run xs δ else none:=rfl
ЛZns{n:Г}{g:FGs}{v:V}{Q:L2.St->Hp->В}(h:Of Z (Sw n g) v σ H Q):Zry K n (Op Z g) v σ H Q:=by
 O⟨F,δ,own,d,δ',s,r,e,k⟩:=h;dsimp only[Sw]at e;split at e
 ·rename_i xs;B hn:xs.length=n
  ·K[Е hn]at e;cases r with
   |lst h _ r=>E⟨_,_,rfl,Wb s.le h,by K[<-r.length];E hn,F,δ,own,_,δ',s,r,e,k⟩
  ·K[Д hn]at e;C e
 ·C e
variable{X:Cx}{Z:Ent X.K}{pos:Pos}
ЛZr0{es:А cj}{k n:Г}{g:FGs}(hc:X.calm=aC)(h:PGs X es (Op Z g))(hn:(assignEach es X.env).length=n:=by rfl)(hst:(assignEach es X.env).findIdx? (·.1)=aB:=by rfl):PG X (.Tuple es k pos) (Of Z (Sw n g)):=(Znr hc h hn hst).imp λ_ _ _ _ h=>Zns h
end DL
namespace TT
open PySem PySem.SetTable SX
МX9(m:Г)(p:Probe):Probe:=
 if p.more > 0 then{p with j:=p.j+1,more:=p.more- 1}else
 {p with j:=(leap m p.i p.perturb).1,more:=runEnd m (leap m p.i p.perturb).1- (leap m p.i p.perturb).1,i:=(leap m p.i p.perturb).1,perturb:=(leap m p.i p.perturb).2}
ЛZnt(t:g7)(p:Probe):t.advance p=X9 t.mask p:=rfl
МWr(m:Г):Г->Probe->Probe
 |0,p=>p
 |n+1,p=>Wr m n (X9 m p)
ЛQv(m:Г):∀(a b:Г) (p:Probe),Wr m (a+b) p=Wr m b (Wr m a p)
 |0,b,p=>by K[Nat.zero_add];rfl
 |a+1,b,p=>by K[Nat.add_right_comm];E Qv m a b (X9 m p)
МRz(m i q:Г):Probe:={j:=i,more:=runEnd m i- i,i:=i,perturb:=q,dummy:=aB}
ЛD6(m:Г)(p:Probe):(X9 m p).dummy=p.dummy:=by U X9;split<;> rfl
ЛSx(m:Г):∀(n:Г) (p:Probe),(Wr m n p).dummy=p.dummy
 |0,_=>rfl
 |n+1,p=>(Sx m n (X9 m p)).trans (D6 m p)
ЛZnu(m i:Г):runEnd m i- i<=9:=by U runEnd;split<;> W
ЛZfk{m i:Г}(h:i<=m):runEnd m i<=m:=by U runEnd;split<;> W
ЛNp(m i:Г):i<=runEnd m i:=by U runEnd;split<;> W
ЛUp{m i q:Г}:∀{k:Г},k<=runEnd m i- i->Wr m k (Rz m i q)={j:=i+k,more:=runEnd m i- i- k,i:=i,perturb:=q,dummy:=aB}
 |0,_=>rfl
 |k+1,h=>by K[Qv m k 1,Up И];T X9 m _=_;U X9;K[Е (by show runEnd m i- i- k > 0;W)];rfl
ЛBu(m i q:Г):Wr m (runEnd m i- i+1) (Rz m i q)=Rz m (leap m i q).1 (leap m i q).2:=by K[Qv m _ 1,Up (ba _)];T X9 m _=_;U X9;K[Д (by show¬runEnd m i- i- (runEnd m i- i) > 0;W)];rfl
МUb(m:Г):Г->Г×Г->Г×Г
 |0,x=>x
 |n+1,x=>Ub m n (leap m x.1 x.2)
ЛKl(m:Г):∀(a b:Г) (x:Г×Г),Ub m (a+b) x=Ub m b (Ub m a x)
 |0,b,x=>by K[Nat.zero_add];rfl
 |a+1,b,x=>by K[Nat.add_right_comm];E Kl m a b _
ЛSy{m:Г}:∀(n:Г) (x:Г×Г),x.1<=m->(Ub m n x).1<=m
 |0,_,h=>h
 |n+1,x,_=>Sy n _ (Nat.le_of_lt_succ (Nat.mod_lt (x.1*5+1+x.2 / 32) (Nat.succ_pos m)))
ЛKm(m:Г):∀(n:Г) (x:Г×Г),(Ub m n x).2=x.2 / 32^n
 |0,x=>by simp[Ub]
 |n+1,x=>by show(Ub m n (leap m x.1 x.2)).2=_;K[Km m n];T x.2 / 32 / 32^n=_;K[Nat.div_div_eq_div_mul,Nat.pow_succ,Nat.mul_comm]
Мorb(m:Г):Г->Г->Г
 |0,_=>0
 |n+1,i=>(1<<<i)|||orb m n ((i*5+1) % (m+1))
ЛD7{m:Г}:∀(n i j:Г),(orb m n i).testBit j=aC->∃c,c<n/\(Ub m c (i,0)).1=j
 |0,i,j,h=>by simp[orb]at h
 |n+1,i,j,h=>by
  U orb at h;K[Nat.testBit_or,Bool.or_eq_true]at h;J h with h|h
  ·R⟨0,by W,?_⟩;K[Nat.one_shiftLeft,Nat.testBit_two_pow]at h;T i=j;E of_decide_eq_true h
  ·O⟨c,hc,e⟩:=D7 n _ j h;R⟨c+1,by W,?_⟩;show(Ub m c (leap m i 0)).1=j;V :leap m i 0=((i*5+1) % (m+1),0):=by simp[leap]
   K[this];E e
МMsk(m:Г):Prop:=m=7\/m=31\/m=127
ЛZi3{m:Г}(h:Msk m):(cq (m+1)).all (λi=>orb m (m+1) i==2^(m+1)- 1)=aC:=by J h with rfl|rfl|rfl<;> decide+kernel
ЛZlc{m i q j:Г}(h:Msk m)(hi:i<=m)(hq:q<2^64)(hj:j<=m):∃c,c<m+15/\(Ub m c (i,q)).1=j:=by
 V h13:(Ub m 13 (i,q)).2=0:=by K[Km];E Nat.div_eq_of_lt (c8 hq Й)
 V hle:=Sy (m:=m) 13 (i,q) hi;generalize hx:Ub m 13 (i,q)=x at h13 hle;O⟨a,b⟩:=x;simp only at h13 hle;Q h13;V ho:=List.all_eq_true.mp (Zi3 h) a (cu.mpr И);V ho:orb m (m+1) a=2^(m+1)- 1:=by L ho
 O⟨c,hc,e⟩:=D7 (m+1) a j (by K[ho,Nat.testBit_two_pow_sub_one];L by W);E⟨13+c,by W,by K[Kl,hx];E e⟩
ЛZfl(m:Г):∀(c i q:Г),∃n,n<=10*c/\Wr m n (Rz m i q)=Rz m (Ub m c (i,q)).1 (Ub m c (i,q)).2
 |0,i,q=>⟨0,by W,rfl⟩
 |c+1,i,q=>by O⟨n,hn,e⟩:=Zfl m c (leap m i q).1 (leap m i q).2;R⟨runEnd m i- i+1+n,by V :=Znu m i;W,?_⟩;K[Qv,Bu,e];rfl
аJa(m:Г)(h:Int):Probe:=Rz m (bits h % (m+1)) (bits h)
ЛZr1(t:g7)(h:Int):t.probeStart h=Ja t.mask h:=rfl
ЛD8(h:Int):bits h<2^64:=by U bits;V h1:=d8 h (show(0:Int)<2^64 by decide);V h2:=f9 h (show(2^64:Int)≠0 by decide);W
ЛZr2{m:Г}(hm:Msk m)(h:Int){j:Г}(hj:j<=m):∃n,n<10*turns m/\(Wr m n (Ja m h)).j=j:=by O⟨c,hc,e⟩:=Zlc (q:=bits h) hm (Nat.le_of_lt_succ (Nat.mod_lt (bits h) (Nat.succ_pos m))) (D8 h) hj;O⟨n,hn,e2⟩:=Zfl m c (bits h % (m+1)) (bits h);E⟨n,by U turns;W,by K[e2];E e⟩
аsq(m:Г)(h:Int)(n:Г):Nat:=(Wr m n (Ja m h)).j
ЛD9{m:Г}:∀(n:Г) (p:Probe),p.i<=m->p.j+p.more<=m->(Wr m n p).j<=m
 |0,p,_,h=>by T p.j<=m;W
 |n+1,p,hi,h=>by
  R D9 n (X9 m p) ?_ ?_
  ·U X9;split
   ·E hi
   ·E Nat.le_of_lt_succ (Nat.mod_lt (p.i*5+1+p.perturb / 32) (Nat.succ_pos m))
  ·U X9;split
   ·T p.j+1+(p.more- 1)<=m;W
   ·V hl:(leap m p.i p.perturb).1<=m:=Nat.le_of_lt_succ (Nat.mod_lt (p.i*5+1+p.perturb / 32) (Nat.succ_pos m));V :=Zfk hl;V :=Np m (leap m p.i p.perturb).1;show(leap m p.i p.perturb).1+(runEnd m (leap m p.i p.perturb).1- (leap m p.i p.perturb).1)<=m;W
ЛZfm(m:Г)(h:Int)(n:Г):sq m h n<=m:=by V h1:bits h % (m+1)<=m:=Nat.le_of_lt_succ (Nat.mod_lt _ (Nat.succ_pos m));R D9 n _ h1 ?_;V :=Zfk h1;V :=Np m (bits h % (m+1));T bits h % (m+1)+(runEnd m (bits h % (m+1))- bits h % (m+1))<=m;W
ЛMx{t:g7}(hr:G4 t.place.toList){i j:Г}(h:t.place[i]? =aA j):t.slot j= .live i:=by
 V hi:i<t.place.size:=(gm.mp h).1;V a:At t.place j i:=by
  R⟨by W,λk y hk e=>Bq hr e h hk,λk y hk e=>?_⟩;J Nat.lt_or_eq_of_le hk with z|z
  ·E Nat.le_of_lt (Bq hr h e z)
  ·Q z;K[h]at e;C e;E ba _
 V e:=Dz (A8 hr j) a;U SetTable.slot;dsimp only;K[e,h,Е К]
ЛNq{t:g7}{i j:Г}(h:t.slot j= .live i):t.place[i]? =aA j:=by
 U SetTable.slot at h;dsimp only at h;split at h
 ·rename_i e;C h;L e
 ·split at h<;> C h
ЛZaa{t:g7}(hr:G4 t.place.toList){j:Г}(h:t.slot j= .empty):j∉t.place.toList:=λz=>by
 O⟨i,hi,e⟩:=eh z;V :t.place[i]? =aA j:=by K[<-c9,a8];E⟨hi,e⟩
 K[Mx hr this]at h;C h
ЛEe{t:g7}(hd:t.dummies= #[])(j:Г):t.slot j= .empty\/∃i,t.slot j= .live i:=by
 U SetTable.slot;dsimp only;split
 ·E .inr ⟨_,rfl⟩
 ·K[hd,D0];E .inl К
ЛEf{t:g7}(hd:t.dummies= #[]){j:Г}(h:j∉t.place.toList):t.slot j= .empty:=by
 J Ee hd j with z|⟨i,z⟩
 ·E z
 ·V :=Nq z;K[<-c9]at this;E absurd (b5 this) h
ЛZab{t:g7}(hd:t.dummies= #[])(f:Г->Int)(h:Int):∀(fuel:Г) (p:Probe),p.dummy=aB->(∃n,n<fuel/\t.slot (Wr t.mask n p).j= .empty)->
  (∃n,n<fuel/\SetTable.probe.go t f h fuel p=aA (.empty (Wr t.mask n p).j aB)/\t.slot (Wr t.mask n p).j= .empty/\∀k,k<n->∃i,t.slot (Wr t.mask k p).j= .live i/\f i≠h)\/
  (∃n i,n<fuel/\SetTable.probe.go t f h fuel p=aA (.candidate (Wr t.mask n p).j i (Wr t.mask (n+1) p))/\t.slot (Wr t.mask n p).j= .live i/\f i=h/\∀k,k<n->∃i,t.slot (Wr t.mask k p).j= .live i/\f i≠h)
 |0,p,_,⟨n,hn,_⟩=>absurd hn (dz _)
 |fuel+1,p,hp,⟨n,hn,he⟩=>by
  U SetTable.probe.go;J Ee hd p.j with hs|⟨i,hs⟩
  ·R .inl ⟨0,by W,?_,hs,λk hk=>absurd hk (dz _)⟩;K[hs];T aA (Met.empty p.j p.dummy)=_;K[hp];rfl
  ·K[hs];dsimp only;B hf:f i=h
   ·R .inr ⟨0,i,by W,?_,hs,hf,λk hk=>absurd hk (dz _)⟩;K[Е (by L hf)];rfl
   ·K[Д (by L hf),Znt];cases n with
    |zero=>have he:t.slot p.j= .empty:=he;K[hs]at he;C he
    |succ n=>
     V first:∀n,(∀k,k<n->∃i,t.slot (Wr t.mask k (X9 t.mask p)).j= .live i/\f i≠h)->∀k,k<n+1->∃i,t.slot (Wr t.mask k p).j= .live i/\f i≠h:=λn a k hk=>by
      cases k with
      |zero=>E⟨i,hs,hf⟩
      |succ k=>E a k И
     J Zab hd f h fuel (X9 t.mask p) ((D6 _ _).trans hp) ⟨n,by W,he⟩with⟨n',h1,h2,h3,h4⟩|⟨n',i',h1,h2,h3,h4,h5⟩
     ·E .inl ⟨n'+1,by W,h2,h3,first n' h4⟩
     ·E .inr ⟨n'+1,i',by W,h2,h3,h4,first n' h5⟩
МLk(m:Г)(pl:А Г)(h:Int)(j:Г):Prop:=∃n,sq m h n=j/\∀k,k<n->sq m h k∈pl
ЛLk.mono{m:Г}{pl pl':А Г}(hs:∀x∈pl,x∈pl'){h:Int}{j:Г}(l:Lk m pl h j):Lk m pl' h j:=let⟨n,a,b⟩:=l;⟨n,a,λk hk=>hs _ (b k hk)⟩
structure Tb(t:g7)(hs:А Int):В where
 dum:t.dummies= #[]
 msk:Msk t.mask
 rise:G4 t.place.toList
 le:∀j∈t.place.toList,j<=t.mask
 len:t.place.toList.length=hs.length
 room:hs.length<=t.mask
 look:∀e∈hs.zip t.place.toList,Lk t.mask t.place.toList e.1 e.2
ЛTb.fits{t:g7}{hs:А Int}(b:Tb t hs){n:Г}(hn:n=hs.length):t.fits n=aC:=by
 V h1:=b.len;V h2:=b.room;V h3:t.place.size=hs.length:=by K[<-h1,ay]
 U SetTable.fits SetTable.fill;K[b.dum,h3,hn];simp;W
ЛTb.gave{t:g7}{hs:А Int}(b:Tb t hs):t.gaveWay=aD:=by U SetTable.gaveWay;J b.msk with e|e|e<;> K[e]<;> rfl
ЛG6{l:А Г}(h:G4 l):l.Nodup:=h.imp λz=>cf z
ЛZac{m:Г}{pl:А Г}(nd:pl.Nodup)(hl:pl.length<=m):∃j,j<=m/\j∉pl:=by apply Classical.byContradiction;I hn;V all:∀j,j<=m->j∈pl:=λj hj=>Classical.byContradiction λz=>hn ⟨j,hj,z⟩;V :(cq (m+1)).length<=pl.length:=da List.nodup_range λj hj=>all j (by V :=cu.mp hj;W);K[List.length_range]at this;W
ЛTb.empty{t:g7}{hs:А Int}(b:Tb t hs)(h:Int):∃n,n<10*turns t.mask/\t.slot (sq t.mask h n)= .empty:=by O⟨j,hj,hn⟩:=Zac (G6 b.rise) (by K[b.len];E b.room);O⟨n,h1,h2⟩:=Zr2 b.msk h hj;E⟨n,h1,by T t.slot (Wr t.mask n (Ja t.mask h)).j= .empty;K[h2];E Ef b.dum hn⟩
ЛTb.fresh(f m:Г)(l:Bool):Tb (SetTable.fresh f m l) []:=⟨rfl,.inl rfl,List.Pairwise.nil,(λ_ z=>nomatch z),rfl,f7 _,(λ_ z=>nomatch z)⟩
ЛZi4{α β:Type}(p:Г){as:А α}{bs:А β}(h:as.length=bs.length)(a:α)(b:β):(as.take p++a::as.drop p).zip (bs.take p++b::bs.drop p)=(as.zip bs).take p++(a,b)::(as.zip bs).drop p:=by K[List.zip_append (by simp[h]),List.zip_cons_cons];simp only[List.zip_eq_zipWith,List.take_zipWith,List.drop_zipWith]
ЛTb.put{t:g7}{hs:А Int}(b:Tb t hs)(h:Int){n:Г}(he:t.slot (sq t.mask h n)= .empty)(hb:∀k,k<n->t.slot (sq t.mask h k)≠.empty)(hr:hs.length+1<=t.mask):
  Tb (t.put (sq t.mask h n)).1 (hs.take (below t.place (sq t.mask h n))++h::hs.drop (below t.place (sq t.mask h n))):=by
 V hn:t.place[SetTable.below t.place (sq t.mask h n)]?≠aA (sq t.mask h n):=λz=>by K[Mx b.rise z]at he;C he
 V hni:=Zaa b.rise he;V hbm:∀k,k<n->sq t.mask h k∈t.place.toList:=λk hk=>Classical.byContradiction λz=>hb k hk (Ef b.dum z);V hjle:=Zfm t.mask h n;V hlk:Lk t.mask t.place.toList h (sq t.mask h n):=⟨n,rfl,hbm⟩
 G sq t.mask h n=j;V hpl:(t.put j).1.place.toList=t.place.toList.take (below t.place j)++j::t.place.toList.drop (below t.place j):=SetTable.toList_insertAt _ _ _;V hsub:∀x∈t.place.toList,x∈(t.put j).1.place.toList:=λx hx=>by
  K[hpl];K[<-List.take_append_drop (below t.place j) t.place.toList]at hx;J bz.mp hx with z|z
  ·E bj _ z
  ·E bh _ (ao _ z)
 V hm:(t.put j).1.mask=t.mask:=rfl;R⟨?_,by K[hm];E b.msk,Zfa b.rise hn,λx hx=>?_,?_,?_,λe he'=>?_⟩
 ·show(if has t.dummies j then _ else t.dummies)= #[];K[b.dum,D0];rfl
 ·K[hm];K[hpl]at hx;J bz.mp hx with z|z
  ·E b.le x (List.mem_of_mem_take z)
  ·J bx.mp z with z|z
   ·K[z];E hjle
   ·E b.le x (List.mem_of_mem_drop z)
 ·K[hpl];V :=b.len;simp only[aw,gw,bf,List.length_drop];W
 ·K[hm];simp only[aw,gw,bf,List.length_drop];W
 ·K[hpl,Zi4 _ b.len.symm]at he';K[hm];J bz.mp he' with z|z
  ·E(b.look e (List.mem_of_mem_take z)).mono hsub
  ·J bx.mp z with z|z
   ·K[z];E hlk.mono hsub
   ·E(b.look e (List.mem_of_mem_drop z)).mono hsub
ЛTb.plainOff{t:g7}{hs:А Int}(b:Tb t hs):Tb {t with plain:=aD} hs:=⟨b.dum,b.msk,b.rise,b.le,b.len,b.room,b.look⟩
end TT
namespace TT
open PySem PySem.SetTable SX
МOw(owner:Array (Б Г))(j:Г):Prop:=(owner.getD j (aA 0)).isNone=aD
ЛKo{m:Г}{owner:Array (Б Г)}:∀(fuel i q:Г),(∃c,c<fuel/\¬Ow owner (Ub m c (i,q)).1)->
  ∃n,layClean.free m owner fuel i q=aA (Wr m n (Rz m i q)).j/\¬Ow owner (Wr m n (Rz m i q)).j/\∀k,k<n->Ow owner (Wr m k (Rz m i q)).j
 |0,i,q,⟨c,hc,_⟩=>absurd hc (dz _)
 |fuel+1,i,q,⟨c,hc,hn⟩=>by
  U layClean.free;cases hf:(cq (runEnd m i+1- i)).find? λk=>(owner.getD (i+k) (aA 0)).isNone with
  |some k=>
   V hk:=List.find?_range_eq_some.mp hf;V hr:=Np m i;V hkl:k<=runEnd m i- i:=by V :=cu.mp hk.2.1;W
   R⟨k,?_,?_,λk' hk'=>?_⟩
   ·K[Up hkl]
   ·K[Up hkl];I z;U Ow at z;dsimp only at z;K[hk.1]at z;C z
   ·K[Up И];V :=hk.2.2 k' hk';U Ow;dsimp only;L this
  |none=>
   V hall:=List.find?_eq_none.mp hf;V hr:=Np m i;V own:∀k,k<=runEnd m i- i->Ow owner (i+k):=λk hk=>by
    V :=hall k (cu.mpr И);U Ow;cases z:(owner.getD (i+k) (aA 0)).isNone with
    |false=>rfl
    |true=>E absurd z this
   cases c with
   |zero=>E absurd (own 0 (f7 _)) hn
   |succ c=>
    O⟨n,h1,h2,h3⟩:=Ko fuel (leap m i q).1 (leap m i q).2 ⟨c,by W,hn⟩;R⟨runEnd m i- i+1+n,?_,?_,λk hk=>?_⟩
    ·K[Qv,Bu];E h1
    ·K[Qv,Bu];E h2
    ·B hk2:k<=runEnd m i- i
     ·K[Up hk2];E own k hk2
     ·V e:k=runEnd m i- i+1+(k- (runEnd m i- i+1)):=by W
      K[e,Qv,Bu];E h3 _ И
structure Ly(m:Г)(hs:А Int)(owner:Array (Б Г))(js:А Г):В where
 size:owner.size=m+1
 len:js.length=hs.length
 nd:js.Nodup
 le:∀j∈js,j<=m
 own:∀j k,j<=m->(owner.getD j aB=aA k↔js[k]? =aA j)
 look:∀e∈hs.zip js,Lk m js e.1 e.2
ЛLy.ow{m:Г}{hs:А Int}{owner:Array (Б Г)}{js:А Г}(l:Ly m hs owner js){j:Г}(hj:j<=m):Ow owner j↔j∈js:=by
 V hs:j<owner.size:=by K[l.size];W
 V e1:owner.getD j (aA 0)=owner[j]:=by simp[Array.getD,hs]
 V e2:owner.getD j aB=owner[j]:=by simp[Array.getD,hs]
 U Ow;K[e1];constructor
 ·I h;cases z:owner[j]with
  |none=>K[z]at h;C h
  |some k=>E b5 ((l.own j k hj).mp (by K[e2];E z))
 ·I h;O⟨k,hk,e⟩:=eh h;V :=(l.own j k hj).mpr (a8.mpr ⟨hk,e⟩);K[e2]at this;K[this];rfl
ЛLy.nil(m:Г):Ly m [] (Array.replicate (m+1) aB) []:=by
 R⟨by simp,rfl,df,(λ_ z=>nomatch z),λj k hj=>?_,(λ_ z=>nomatch z)⟩;V :(Array.replicate (m+1) (aB:Б Г)).getD j aB=aB:=by simp[Array.getD]
 K[this];simp
ЛLy.step{m:Г}{hs:А Int}{owner:Array (Б Г)}{js:А Г}(hm:Msk m)(l:Ly m hs owner js)(hl:hs.length<=m)(h:Int):
  ∃j,layClean.free m owner (turns m) (bits h % (m+1)) (bits h)=aA j/\Ly m (hs++[h]) (owner.setIfInBounds j (aA hs.length)) (js++[j]):=by
 O⟨j0,hj0,hn0⟩:=Zac l.nd (by K[l.len];E hl);O⟨c,hc,e⟩:=Zlc (q:=bits h) hm (Nat.le_of_lt_succ (Nat.mod_lt (bits h) (Nat.succ_pos m))) (D8 h) hj0;O⟨n,h1,h2,h3⟩:=Ko (m:=m) (owner:=owner) (turns m) (bits h % (m+1)) (bits h) ⟨c,hc,by K[e,l.ow hj0];E hn0⟩;V hle:=Zfm m h n;V hlk:Lk m js h (sq m h n):=⟨n,rfl,λk hk=>(l.ow (Zfm m h k)).mp (h3 k hk)⟩
 V hnj:sq m h n∉js:=λz=>h2 ((l.ow hle).mpr z);R⟨sq m h n,h1,?_⟩;G sq m h n=j;V hsz:j<owner.size:=by K[l.size];W
 R⟨by simp[l.size],by simp[l.len],dq.mpr ⟨l.nd,by simp,λa ha b hb=>?_⟩,λx hx=>?_,λx k hx=>?_,λe he=>?_⟩
 ·K[ar.mp hb];E λz=>hnj (z▸ha)
 ·J bz.mp hx with z|z
  ·E l.le x z
  ·K[ar.mp z];E hle
 ·B hxj:x=j
  ·Q hxj;V :(owner.setIfInBounds x (aA hs.length)).getD x aB=aA hs.length:=by simp[Array.getD,hsz]
   K[this];constructor
   ·I z;C z;K[<-l.len];simp
   ·I z;B hk:k<js.length
    ·K[dg hk]at z;E absurd (b5 z) hnj
    ·V hk2:=(a8.mp z).1;K[aw,f8]at hk2;K[<-l.len,show k=js.length by W]
  ·V hxs:x<owner.size:=by K[l.size];W
   V :(owner.setIfInBounds j (aA hs.length)).getD x aB=owner.getD x aB:=by simp[Array.getD,hxs,Array.getElem_setIfInBounds,Ne.symm hxj]
   K[this,l.own x k hx];B hk:k<js.length
   ·K[dg hk]
   ·K[dy И];constructor
    ·I z;C z
    ·I z;V hk2:=(a8.mp z).1;K[aw,f8]at hk2;V :k=js.length:=by W
     Q this;K[gk (ba _)]at z;simp at z;E absurd z.symm hxj
 ·K[List.zip_append l.len.symm]at he;J bz.mp he with z|z
  ·E(l.look e z).mono λx hx=>bj _ hx
  ·simp at z;K[z];E hlk.mono λx hx=>bj _ hx
ЛZad{m:Г}(hm:Msk m):∀(rest hs:А Int) (owner:Array (Б Г)) (js:А Г),Ly m hs owner js->hs.length+rest.length<=m+1->
  ∃owner' js',rest.foldl (λ(acc:Б (Array (Б Г)×Г)) h=>do
   let(owner,k)<-acc;let j<-layClean.free m owner (turns m) (bits h % (m+1)) (bits h)
   pure (owner.setIfInBounds j (aA k),k+1)) (aA (owner,hs.length))=aA (owner',(hs++rest).length)/\Ly m (hs++rest) owner' js'
 | [],hs,owner,js,l,_=>⟨owner,js,by simp,by L l⟩
 |h::rest,hs,owner,js,l,hl=>by
  O⟨j,e,l2⟩:=l.step hm (by simp only[bf]at hl;W) h;O⟨owner',js',e2,l3⟩:=Zad hm rest (hs++[h]) _ _ l2 (by simp only[aw,bf,List.length_nil]at hl⊢;W);R⟨owner',js',?_,by L l3⟩;K[List.foldl_cons];V z:(do
   let(owner,k)<-(aA (owner,hs.length):Б (Array (Б Г)×Г));let j<-layClean.free m owner (turns m) (bits h % (m+1)) (bits h)
   pure (owner.setIfInBounds j (aA k),k+1))=aA (owner.setIfInBounds j (aA hs.length),(hs++[h]).length):=by
   show(layClean.free m owner (turns m) (bits h % (m+1)) (bits h) >>=λj=>pure (owner.setIfInBounds j (aA hs.length),hs.length+1))=_;K[e];simp
  K[z,e2];simp
ЛZb9{t:g7}{es:Array (Int×ah)}{wanted:Г}(hm:Msk (sizeAbove wanted- 1))(hl:es.size<=sizeAbove wanted- 1):
  ∃t' order,t.relaid (es.map λ(e:Int×ah)=>e.1) wanted=aA (t',order)/\t'.led=t.led/\(order.filterMap λi=>es[i]?).toList.Perm es.toList/\Tb t' ((order.filterMap λi=>es[i]?).toList.map λ(e:Int×ah)=>e.1):=by
 U SetTable.relaid SetTable.laid SetTable.layClean;G sizeAbove wanted- 1=m;V hsl:(es.map (·.1)).toList.length=es.size:=by simp
 O⟨owner,js,e,l⟩:=Zad hm (es.map λe=>e.1).toList [] _ [] (Ly.nil m) (by K[hsl];simp;W);K[<-Array.foldl_toList];V e:((es.map (·.1)).toList.foldl (λ(acc:Б (Array (Б Г)×Г)) h=>do
   let(owner,k)<-acc;let j<-layClean.free m owner (turns m) (bits h % (m+1)) (bits h)
   pure (owner.setIfInBounds j (aA k),k+1)) (aA (Array.replicate (m+1) aB,0)))=aA (owner,(([]:А Int)++(es.map λ(e:Int×ah)=>e.1).toList).length):=e
 K[e];K[d7]at l;V jl:js.length=es.size:=by K[l.len,hsl]
 generalize hlive:((cq (m+1)).filterMap λj=>(owner.getD j aB).map (j,·))=live;V mem:∀j k,(j,k)∈live↔j<=m/\js[k]? =aA j:=λj k=>by
  K[<-hlive,List.mem_filterMap];constructor
  ·rintro⟨j',hj',z⟩;O⟨k',z1,z2⟩:=cm.mp z;C z2;V hj:j<=m:=by V :=cu.mp hj';W
   E⟨hj,(l.own j k hj).mp z1⟩
  ·rintro⟨hj,z⟩;E⟨j,cu.mpr И,by K[(l.own j k hj).mpr z];rfl⟩
 V rise:G4 (live.map (·.1)):=by K[<-hlive];U G4;K[List.pairwise_map];R List.Pairwise.filterMap _ (λa b hab c hc d hd=>?_) List.pairwise_lt_range;O⟨_,_,rfl⟩:=cm.mp hc;O⟨_,_,rfl⟩:=cm.mp hd;E hab
 V pmem:∀x,x∈live.map (·.1)↔x∈js:=λx=>by
  K[ax];constructor
  ·rintro⟨⟨j,k⟩,hp,rfl⟩;E b5 ((mem j k).mp hp).2
  ·I hx;O⟨k,hk,e⟩:=eh hx;E⟨(x,k),(mem x k).mpr ⟨l.le x hx,a8.mpr ⟨hk,e⟩⟩,rfl⟩
 V plen:live.length=es.size:=by V p:(live.map (·.1)).Perm js:=(List.perm_ext_iff_of_nodup (G6 rise) l.nd).mpr pmem;V :=p.length_eq;K[aq]at this;W
 V ond:(live.map (·.2)).Nodup:=by V Ix:live.Pairwise λa b=>a.1≠b.1:=List.pairwise_map.mp (G6 rise);R List.pairwise_map.mpr (List.Pairwise.imp_of_mem (fun{a b} ha hb hab z=>?_) Ix);O⟨j1,k1⟩:=a;O⟨j2,k2⟩:=b;simp only at z hab;Q z;V z1:=((mem j1 k1).mp ha).2;V z2:=((mem j2 k1).mp hb).2;K[z1]at z2;E hab (cz.inj z2)
 V operm:(live.map (·.2)).Perm (cq es.size):=by
  R(List.perm_ext_iff_of_nodup ond List.nodup_range).mpr λk=>?_;K[ax,cu];constructor
  ·rintro⟨⟨j,k⟩,hp,rfl⟩;V :=(a8.mp ((mem j k).mp hp).2).1;W
  ·I hk;V hk':k<js.length:=by W
   E⟨(js[k],k),(mem _ _).mpr ⟨l.le _ (List.getElem_mem hk'),av hk'⟩,rfl⟩
 R⟨{mask:=m,place:=(live.map (·.1)).toArray,dummies:= #[],finger:=t.finger,led:=t.led,moves:=t.movedTo m,plain:=t.plain},(live.map (·.2)).toArray,by K[<-hlive];rfl,rfl,?_,?_⟩
 ·K[Array.toList_filterMap];E(operm.filterMap _).trans (by K[filterMap_getElem?_range])
 ·V ge:∀p∈live,∃v,es[p.2]? =aA v:=λp hp=>by V :=cu.mp (operm.mem_iff.mp (ax.mpr ⟨p,hp,rfl⟩));E⟨es[p.2],by simp[this]⟩
  V fm:∀l:А (Г×Г),(∀p∈l,∃v,es[p.2]? =aA v)->(l.map (·.2)).filterMap (λi=>es[i]?)=l.map λp=>es.getD p.2 (0,ck):=by
   I l;induction l with
   |nil=>intro _;rfl
   |cons p l ih=>intro h;O⟨v,hv⟩:=h p af;V hv2:=gm.mp hv;K[bc,List.filterMap_cons_some hv,ih λq hq=>h q (ao _ hq),bc];congr 1;simp only[Array.getD,hv2.1,↓reduceDIte];E hv2.2.symm
  V el:(((live.map (·.2)).toArray.filterMap λi=>es[i]?).toList.map λ(e:Int×ah)=>e.1)=live.map λp=>(es.getD p.2 (0,ck)).1:=by K[Array.toList_filterMap,List.toList_toArray,fm live ge,cg];rfl
  K[el];R⟨rfl,hm,by L rise,λj hj=>?_,?_,?_,λe he=>?_⟩
  ·E l.le j ((pmem j).mp (by L hj))
  ·simp
  ·K[aq,plen];E hl
  ·V :e∈(live.map λp=>(es.getD p.2 (0,ck)).1).zip (live.map (·.1)):=by L he
   K[List.zip_map']at this;O⟨⟨j,k⟩,hp,rfl⟩:=ax.mp this;O⟨hj,hk⟩:=(mem j k).mp hp;V hkl:=(a8.mp hk).1;V hke:k<es.size:=by W
   V hz:((es.getD k (0,ck)).1,j)∈(es.map (·.1)).toList.zip js:=by K[List.mem_iff_getElem?];R⟨k,?_⟩;K[List.getElem?_zip_eq_some];R⟨?_,hk⟩;simp[hke,Array.getD]
   V lk:=l.look _ hz;T Lk m _ _ _;R lk.mono λx hx=>?_;V :=(pmem x).mpr hx;L this
end TT
namespace TT
open PySem PySem.SetTable PySem.Spec PyProof.Rows SX L2
section
variable{prog:b6}{w:c7}{A:dh}{E:ah->am->В}{s:am}
ЛZae(n:Г){v:ah}(h:carriedByValue v=aC):ofAClassStatement n v=pure aD:=by
 cases v with
 |ref a=>simp[carriedByValue]at h
 |_=>first|rfl| (U ofAClassStatement;rfl)
ЛSz{m:Г}{ks:А Key}{a:aj}{Q:Bool->am->В}(hk:IsTupleKey (Zr prog w) s.heap ks a)(h:Q aD s):bg (b4 prog w) A (ofAClassStatement (m+1) (.ref a)) Q E s:=by
 V hT:=hk.typeIs;O⟨o,items,n,ho,_,hd,hi⟩:=hk;U ofAClassStatement;R ac (wpAny_typeOf hT ?_);dsimp only;K[Е Й];R ac (ag ?_);simp only[fq,bi,if_false];R ac (wpAny_seqItems ho hd ?_);dsimp only;R ac ?_;K[<-Array.forIn_toList];R wpAny_forIn_list _ (λrest r s'=>r.1=aB/\s'=s/\∀v∈rest,carriedByValue v=aC) _ ?_ ?_ _ _ ⟨rfl,rfl,hi.byValue⟩
 ·rintro v rest r s' ⟨hr,rfl,hall⟩;K[Zae _ (hall v af)];R ac (ag ?_);simp only[bi,if_false];E ag ⟨rfl,rfl,λu hu'=>hall u (ao _ hu')⟩
 ·rintro⟨r1,r2⟩ s' ⟨hr,rfl,_⟩;simp only at hr;Q hr;E ag h
ЛZld{k:Zl}{a:aj}{Q:Bool->am->В}(hk:Om prog w s.heap k a)(h:Q aD s):bg (b4 prog w) A (ofAClassStatement 8 (.ref a)) Q E s:=by
 cases k with
 |inl l=>E Sz hk h
 |inr p=>have hT:=hk.typeIs;O⟨n,l⟩:=p;O⟨o,items,m,t,b,ho,_,hd,hi,hb⟩:=hk;U ofAClassStatement;R ac (wpAny_typeOf hT ?_);dsimp only;K[Е Й];R ac (ag ?_);simp only[fq,bi,if_false];R ac (wpAny_seqItems ho hd ?_);dsimp only;R ac ?_;K[<-Array.forIn_toList,hi];simp only[List.forIn_cons,List.forIn_nil];K[Zae _ (v:=Value.int n t) rfl];R ac (ac (ag ?_));simp only[bi,if_false];R ag ?_;dsimp only;R ac (ac (Sz hb ?_));simp only[bi,if_false];E ag (ag (ag h))
ЛZi5(n:Г){v:ah}(h:carriedByValue v=aC):∃b,hashByValue n v=pure b:=by
 cases v with
 |ref a=>simp[carriedByValue]at h
 |_=>U hashByValue;E⟨_,rfl⟩
ЛS0{m:Г}{ks:А Key}{a:aj}{Q:Bool->am->В}(hk:IsTupleKey (Zr prog w) s.heap ks a)(h:∀b,Q b s):bg (b4 prog w) A (hashByValue (m+1) (.ref a)) Q E s:=by
 V hT:=hk.typeIs;O⟨o,items,n,ho,_,hd,hi⟩:=hk;U hashByValue;R ac (wpAny_specialOf hT F.slot_tuple_hash.lookup ?_);R ac (wpAny_seqItems ho hd ?_);R ac ?_;T bg _ _ (forIn items _ _) _ _ s;K[<-Array.forIn_toList];R wpAny_forIn_list _ (λrest r s'=>r.1=aB/\s'=s/\∀v∈rest,carriedByValue v=aC) _ ?_ ?_ _ _ ⟨rfl,rfl,hi.byValue⟩
 ·rintro v rest r s' ⟨hr,rfl,hall⟩;O⟨b,hb⟩:=Zi5 m (hall v af);K[hb];R ac (ag ?_);cases b with
  |true=>simp only[fq,bi,if_false];E ag ⟨rfl,rfl,λu hu'=>hall u (ao _ hu')⟩
  |false=>simp only[Bool.not_false,if_true];E ag (ag (h _))
 ·rintro⟨r1,r2⟩ s' ⟨hr,rfl,_⟩;simp only at hr;Q hr;E ag (h _)
ЛZr3{k:Zl}{a:aj}{Q:Bool->am->В}(hk:Om prog w s.heap k a)(h:∀b,Q b s):bg (b4 prog w) A (hashByValue 8 (.ref a)) Q E s:=by
 cases k with
 |inl l=>E S0 hk h
 |inr p=>
  V hT:=hk.typeIs;O⟨n,l⟩:=p;O⟨o,items,m,t,b,ho,_,hd,hi,hb⟩:=hk;U hashByValue;R ac (wpAny_specialOf hT F.slot_tuple_hash.lookup ?_);R ac (wpAny_seqItems ho hd ?_);R ac ?_;T bg _ _ (forIn items _ _) _ _ s;K[<-Array.forIn_toList,hi];simp only[List.forIn_cons,List.forIn_nil];V e:hashByValue 7 (Value.int n t)=pure aC:=by U hashByValue;rfl
  K[e];R ac (ac (ag ?_));simp only[fq,bi,if_false];R ag ?_;dsimp only;R ac (ac (S0 hb λbb=>?_));cases bb with
  |true=>simp only[fq,bi,if_false];E ag (ag (ag (h _)))
  |false=>simp only[Bool.not_false,if_true];E ag (ag (ag (h _)))
ЛZnv{k:Zl}{a:aj}{Q:Bool->am->В}(hk:Om prog w s.heap k a){ys:А ah}(hy:∀v∈ys,∃k' b,v= .ref b/\Om prog w s.heap k' b)(h:Q aD s):bg (b4 prog w) A (searchCouldBeSeen (.ref a) ys) Q E s:=by
 U searchCouldBeSeen;R ac ?_;R wpAny_forIn_list _ (λrest r s'=>r.1=aB/\s'=s/\∀v∈rest,∃k' b,v= .ref b/\Om prog w s.heap k' b) _ ?_ ?_ _ _ ⟨rfl,rfl,hy⟩
 ·rintro v rest r s' ⟨hr,rfl,hall⟩;O⟨k',b,rfl,hb⟩:=hall v af;V go:∀u∈rest,∃k' b,u= .ref b/\Om prog w s'.heap k' b:=λu hu=>hall u (ao _ hu);dsimp only;B hab:(a==b|| (carriedByValue (.ref a)&&carriedByValue (.ref b)))=aC
  ·K[Е hab];E ag ⟨rfl,rfl,go⟩
  ·K[Д hab];R ac (Lj hk ?_);simp only[fq,bi,if_false];R ac (Lj hb ?_);simp only[fq,bi,if_false];R ac (Zld hk ?_);simp only[bi,if_false];R ac (Zld hb ?_);simp only[bi,if_false];E ag ⟨rfl,rfl,go⟩
 ·rintro⟨r1,r2⟩ s' ⟨hr,rfl,_⟩;simp only at hr;Q hr;E ag h
ЛZca{α:Type}{c:В}[Decidable c]{m:Sem Bool}{X K:Sem α}{Q:α->am->В}(hm:∀Q':Bool->am->В,Q' aD s->bg (b4 prog w) A m Q' E s)(hK:bg (b4 prog w) A K Q E s):
  bg (b4 prog w) A (if c then m >>=λr=>if r=aC then X else K else K) Q E s:=by
 split
 ·R ac (hm _ ?_);simp only[bi,if_false];E hK
 ·E hK
аent(prog:b6)(w:c7)(z:Zl×aj):Int×Value:=(Ye prog w z.1,b8 z.2)
variable{a b:aj}{o:Obj}{es:Array (Int×ah)}{ep:Г}{t:g7}{zs:А (Zl×aj)}{k:Zl}
ЛZfn(he:es.toList=zs.map (ent prog w))(i:Г):es[i]? =(zs[i]?).map (ent prog w):=by K[<-c9,he,az]
ЛZnw(he:es.toList=zs.map (ent prog w))(tb:Tb t (es.toList.map (·.1))){i:Г}{z:Zl×aj}(hz:zs[i]? =aA z):∃n,t.slot (sq t.mask (Ye prog w z.1) n)= .live i/\∀k,k<n->t.slot (sq t.mask (Ye prog w z.1) k)≠.empty:=by
 V hl:zs.length=t.place.toList.length:=by K[tb.len,he,aq,aq]
 V hi:i<zs.length:=(a8.mp hz).1;V hp:t.place.toList[i]? =aA (t.place.toList[i]'И):=av _;V hh:(es.toList.map (·.1))[i]? =aA (Ye prog w z.1):=by K[he,az,az,hz];rfl
 O⟨n,e1,e2⟩:=tb.look (Ye prog w z.1,t.place.toList[i]'И) (List.mem_iff_getElem?.mpr ⟨i,List.getElem?_zip_eq_some.mpr ⟨hh,hp⟩⟩);R⟨n,?_,λk hk=>?_⟩
 ·R Mx tb.rise ?_;K[<-c9,hp];E congrArg aA e1.symm
 ·V :=e2 k hk;I z;E Zaa tb.rise z this
ЛZaf(hu:A.units+1<f6)(hk:Om prog w s.heap k b)(ho:s.heap.get? a=aA o)(hd:o.data= .set es ep t)(he:es.toList=zs.map (ent prog w))(his:∀z∈zs,Om prog w s.heap z.1 z.2)(tb:Tb t (es.toList.map (·.1))){N:Г}(hN:N<10*turns t.mask)(hE:t.slot (sq t.mask (Ye prog w k) N)= .empty){Q:SetFound->am->В}
  (hfound:k∈zs.map (·.1)->∀r,Q (.there r) s) (hfree:∀n,k∉zs.map (·.1)->t.slot (sq t.mask (Ye prog w k) n)= .empty->(∀j,j<n->t.slot (sq t.mask (Ye prog w k) j)≠.empty)->Q (.free (sq t.mask (Ye prog w k) n) aD) s):
  ∀(fuel n:Г) (st:Б Probe),st.getD (t.probeStart (Ye prog w k))=Wr t.mask n (Ja t.mask (Ye prog w k))->n<=N->N<n+fuel->(∀j,j<n->∃i z,t.slot (sq t.mask (Ye prog w k) j)= .live i/\zs[i]? =aA z/\z.1≠k)->
   bg (b4 prog w) A (setSearchFrom a (.ref b) (Ye prog w k) aC fuel st) Q E s
 |0,n,st,_,h1,h2,_=>by W
 |fuel+1,n,st,hst,h1,h2,hb=>by
  V hfit:t.fits es.size=aC:=tb.fits К;U setSearchFrom;R ac (wpAny_setState_of ho hd hfit ?_);dsimp only;K[tb.gave];simp only[bi,if_false];K[hst];V hj:∀j,(Wr t.mask j (Wr t.mask n (Ja t.mask (Ye prog w k)))).j=sq t.mask (Ye prog w k) (n+j):=λj=>by K[<-Qv]
  U SetTable.probe;J Zab tb.dum (λi=>(es[i]?.map (·.1)).getD 0) (Ye prog w k) (10*turns t.mask) (Wr t.mask n (Ja t.mask (Ye prog w k))) ((Sx _ _ _).trans rfl) ⟨N- n,by W,by K[hj,show n+(N- n)=N by W];E hE⟩with⟨m,g1,g2,g3,g4⟩|⟨m,i,g1,g2,g3,g4,g5⟩
  ·V key:∀f:Г->Int,f=(λi=>(es[i]?.map (·.1)).getD 0)->SetTable.probe.go t f (Ye prog w k) (10*turns t.mask) (Wr t.mask n (Ja t.mask (Ye prog w k)))=aA (.empty (Wr t.mask m (Wr t.mask n (Ja t.mask (Ye prog w k)))).j aB):=λf hf=>by K[hf];E g2
   K[key]
   case a=>rfl
   dsimp only;K[hj]at g3⊢;R ag (hfree (n+m) ?_ g3 λj hjm=>?_)
   ·I hin;O⟨z,hz,ez⟩:=ax.mp hin;O⟨i0,hi0,e0⟩:=eh hz;V hz0:zs[i0]? =aA z:=a8.mpr ⟨hi0,e0⟩;O⟨n0,q1,q2⟩:=Znw he tb hz0;K[ez]at q1 q2;J Nat.lt_trichotomy n0 (n+m)with c|c|c
    ·J dv n0 n with c'|c'
     ·O⟨i,z',w1,w2,w3⟩:=hb n0 c';K[q1]at w1;C w1;K[hz0]at w2;C w2;E w3 ez
     ·O⟨i,w1,w2⟩:=g4 (n0- n) И;K[hj,show n+(n0- n)=n0 by W,q1]at w1;C w1;apply w2;show(es[i0]?.map (·.1)).getD 0=_;K[Zfn he,hz0,<-ez];rfl
    ·K[<-c,q1]at g3;C g3
    ·E q2 _ c g3
   ·J dv j n with c|c
    ·O⟨i,z',w1,_⟩:=hb j c;K[w1];E λz=>nomatch z
    ·O⟨i,w1,_⟩:=g4 (j- n) И;K[hj,show n+(j- n)=j by W]at w1;K[w1];E λz=>nomatch z
  ·V key:∀f:Г->Int,f=(λi=>(es[i]?.map (·.1)).getD 0)->SetTable.probe.go t f (Ye prog w k) (10*turns t.mask) (Wr t.mask n (Ja t.mask (Ye prog w k)))=aA (.candidate (Wr t.mask m (Wr t.mask n (Ja t.mask (Ye prog w k)))).j i (Wr t.mask (m+1) (Wr t.mask n (Ja t.mask (Ye prog w k))))):=λf hf=>by K[hf];E g2
   K[key]
   case a=>rfl
   dsimp only;V hp:=Nq g3;V hil:i<zs.length:=by V :=(gm.mp hp).1;V l:=tb.len;K[he,aq,aq,ay]at l;W
   V hz0:zs[i]? =aA zs[i]:=av hil;V hzi:=his zs[i] (List.getElem_mem hil);generalize zs[i]=z at hz0 hzi;V hes:es[i]? =aA (Ye prog w z.1,b8 z.2):=by K[Zfn he,hz0];rfl
   R Zca (λQ' q=>Znv hk (λv hv=>?_) q) ?_
   ·O⟨e,hem,rfl⟩:=ax.mp hv;V :e∈es.toList:=by V :=Array.mem_toList_iff.mp hem;E Array.mem_toList_iff.mpr (Array.mem_filter.mp this).1
    K[he]at this;O⟨z',hz',rfl⟩:=ax.mp this;E⟨z'.1,z'.2,rfl,his z' hz'⟩
   K[hes];dsimp only;R ac (gn (Zow hu hzi hk ?_));R ac (wpAny_setState_of ho hd hfit ?_);dsimp only;B hzk:z.1=k
   ·K[decide_eq_true hzk];simp only[Bool.and_self,if_true];E ag (hfound (ax.mpr ⟨z,b5 hz0,hzk⟩) _)
   ·K[Ж hzk];simp only[Bool.and_false,bi,if_false];V hsm:t.sameMemory t.moves t.mask=aA aC:=by U SetTable.sameMemory;simp
    K[hsm];simp only[if_true];K[g3];dsimp only;K[hes];dsimp only;R ac (wpAny_isSame_ref_self ?_);simp only[if_true];R ac (ag ?_);dsimp only;V hNle:n+m+1<=N:=by
     V :¬N<=n+m:=λc=>by
      J Nat.lt_or_eq_of_le c with c|c
      ·J dv N n with c'|c'
       ·W
       ·O⟨i',w1,_⟩:=g5 (N- n) И;K[hj,show n+(N- n)=N by W,hE]at w1;C w1
      ·K[hj,<-c,hE]at g3;C g3
     W
    R Zaf hu hk ho hd he his tb hN hE hfound hfree fuel (n+m+1) _ ?_ hNle И λj hjm=>?_
    ·T Wr t.mask (m+1) (Wr t.mask n (Ja t.mask (Ye prog w k)))=_;K[<-Qv,<-Nat.add_assoc]
    ·J dv j n with c|c
     ·E hb j c
     ·J dv j (n+m)with c'|c'
      ·O⟨i',w1,w2⟩:=g5 (j- n) И;K[hj,show n+(j- n)=j by W]at w1;V hp':=Nq w1;V hil':i'<zs.length:=by V :=(gm.mp hp').1;V l:=tb.len;K[he,aq,aq,ay]at l;W
       R⟨i',zs[i'],w1,av hil',λzz=>w2 ?_⟩;show(es[i']?.map (·.1)).getD 0=_;K[Zfn he,av hil',<-zz];rfl
      ·V :j=n+m:=by W
       Q this;K[hj]at g3;E⟨i,z,g3,hz0,hzk⟩
end
end TT
namespace TT
open PySem PySem.SetTable PySem.Spec PyProof.Rows SX L2
МTo(prog:b6)(w:c7)(B:Bool)(h:d6)(o:Obj)(xs:А (Zl×aj)):Prop:=
 ∃(es:Array (Int×ah)) (ep:Г) (t:g7) (zs:А (Zl×aj)),o.ExactSet/\o.data= .set es ep t/\es.toList=zs.map (ent prog w)/\zs.Perm xs/\(xs.map (·.1)).Nodup/\(∀z∈xs,Om prog w h z.1 z.2)/\Tb t (es.toList.map (·.1))/\t.led= !B/\es.size*5<t.mask*3
МG7(xs:А (Zl×aj))(k:Zl)(b:aj):А (Zl×aj):=if(xs.any λz=>decide (z.1=k))=aC then xs else xs++[(k,b)]
ЛRv{xs:А (Zl×aj)}{k:Zl}:(xs.any λz=>decide (z.1=k))=aC↔k∈xs.map (·.1):=by
 K[List.any_eq_true,ax];constructor
 ·rintro⟨z,hz,e⟩;E⟨z,hz,of_decide_eq_true e⟩
 ·rintro⟨z,hz,e⟩;E⟨z,hz,decide_eq_true e⟩
section
variable{prog:b6}{w:c7}{A:dh}{E:ah->am->В}{s:am}
ЛOm.but{h h':d6}{k:Zl}{a d:aj}{o:Obj}{es:Array (Int×ah)}{ep:Г}{t:g7}(x:Om prog w h k a)(ho:h.get? d=aA o)(hd:o.data= .set es ep t)(hs:∀b u,b≠d->h.get? b=aA u->h'.get? b=aA u):Om prog w h' k a:=by
 V ne:∀{c:aj} {u:Obj} {its n},h.get? c=aA u->u.data= .seq its n->c≠d:=fun{c u its n} e1 e2 z=>by Q z;K[ho]at e1;C e1;K[hd]at e2;C e2
 cases k with
 |inl l=>O⟨u,its,n,e,c,d',r⟩:=x;E⟨u,its,n,hs _ _ (ne e d') e,c,d',r⟩
 |inr p=>O⟨u,its,n,tt,b,e,c,d',ei,⟨u2,i2,n2,e2,c2,d2,r2⟩⟩:=x;E⟨u,its,n,tt,b,hs _ _ (ne e d') e,c,d',ei,u2,i2,n2,hs _ _ (ne e2 d2) e2,c2,d2,r2⟩
ЛR0{α β:Type}{f:α->β}{l:А β}{m:А β}(p:l.Perm m):∀zs:А α,m=zs.map f->∃l':А α,l'.Perm zs/\l=l'.map f:=by
 induction p with
 |nil=>intro zs e;cases zs with
  |nil=>E⟨[],List.Perm.nil,rfl⟩
  |cons z zs=>C e
 | @cons x l1 l2 _ ih=>intro zs e;cases zs with
  |nil=>C e
  |cons z zs=>injection e with e1 e2;O⟨l',p',e'⟩:=ih zs e2;E⟨z::l',p'.cons z,by K[bc,e1,e']⟩
 |swap x y l=>intro zs e;cases zs with
  |nil=>C e
  |cons z zs=>cases zs with
   |nil=>C e
   |cons z2 zs=>injection e with e1 e2;injection e2 with e2 e3;E⟨z2::z::zs,List.Perm.swap z z2 zs,by K[bc,bc,e1,e2,e3]⟩
 |trans _ _ ih1 ih2=>intro zs e;O⟨l2,p2,e2⟩:=ih2 zs e;O⟨l3,p3,e3⟩:=ih1 l2 e2;E⟨l3,p3.trans p2,e3⟩
ЛZwx{B:Bool}{a b:aj}{o:Obj}{xs:А (Zl×aj)}{k:Zl}{Q:Bool->am->В}(hu:A.units+1<f6)(ho:s.heap.get? a=aA o)(hO:To prog w B s.heap o xs)(hk:Om prog w s.heap k b)(hr:xs.length+1<=76)
  (h:∀h' o' r,io a s.heap h'->h'.get? a=aA o'->To prog w B h' o' (G7 xs k b)->Q r {s with heap:=h'}):
  bg (b4 prog w) A (setAddHashed a (.ref b) (Ye prog w k)) Q E s:=by
 O⟨es,ep,t,zs,hx,hd,he,pm,nd,his,tb,hled,hroom⟩:=hO;V hisz:∀z∈zs,Om prog w s.heap z.1 z.2:=λz hz=>his z (pm.mem_iff.mp hz);V hfit:t.fits es.size=aC:=tb.fits К;V zl:zs.length=es.size:=by K[<-ay,he,aq]
 V xl:xs.length=es.size:=by K[<-pm.length_eq,zl]
 V kz:k∈zs.map (·.1)↔k∈xs.map (·.1):=(pm.map _).mem_iff;U setAddHashed;R gn ?_;U setAddHashedIn;R ac (wpAny_setState_of ho hd hfit ?_);dsimp only;K[show byScan (b8 b) es=aD from rfl];simp only[bi,if_false];O⟨N,hN,hE⟩:=tb.empty (Ye prog w k);U setSearch;V hmask:t.mask<=127:=by J tb.msk with e|e|e<;> W
 R ac (Zaf hu hk ho hd he hisz tb hN hE (λhin r=>?_) (λn hni hEn hbn=>?_) 100000 0 aB rfl (f7 _) (by U turns at hN;W) (λj hj=>absurd hj (dz _)))
 ·dsimp only;R ag ?_;R h s.heap o aD (Heap.SameBut.refl a s.heap) ho ?_;U G7;K[Е (Rv.mpr (kz.mp hin))];E⟨es,ep,t,zs,hx,hd,he,pm,nd,his,tb,hled,hroom⟩
 ·dsimp only;V hni':k∉xs.map (·.1):=λz=>hni (kz.mpr z);R ac (wpAny_setState_of ho hd hfit ?_);dsimp only;V hcase:es.size+1<=t.mask:=by J tb.msk with e|e|e<;> W
  V tb1:=tb.put (Ye prog w k) hEn hbn (by K[aq,ay];E hcase);V hput:(t.put (sq t.mask (Ye prog w k) n)).2=below t.place (sq t.mask (Ye prog w k) n):=rfl;V hmk:(t.put (sq t.mask (Ye prog w k) n)).1.mask=t.mask:=rfl;V hld:(t.put (sq t.mask (Ye prog w k) n)).1.led=t.led:=rfl;K[hput];generalize below t.place (sq t.mask (Ye prog w k) n)=p at tb1⊢;generalize (t.put (sq t.mask (Ye prog w k) n)).1=t1 at tb1 hmk hld⊢;V he1:(insertAt es p (Ye prog w k,b8 b)).toList=(zs.take p++(k,b)::zs.drop p).map (ent prog w):=by K[SetTable.toList_insertAt,he,b9,bc,List.map_take,List.map_drop]
  V hh1:(insertAt es p (Ye prog w k,b8 b)).toList.map (·.1)=(es.toList.map (·.1)).take p++Ye prog w k::(es.toList.map (·.1)).drop p:=by K[SetTable.toList_insertAt,b9,bc,List.map_take,List.map_drop]
  V sz1:(insertAt es p (Ye prog w k,b8 b)).size=es.size+1:=by K[<-ay,SetTable.toList_insertAt,aw,bf,gw,List.length_drop,ay];W
  K[<-hh1]at tb1;V pm1:(zs.take p++(k,b)::zs.drop p).Perm (xs++[(k,b)]):=by R List.perm_middle.trans ?_;K[List.take_append_drop];E(pm.cons _).trans (List.perm_append_singleton _ _).symm
  V Ix:((xs++[(k,b)]).map (·.1)).Nodup:=by K[b9,dq];R⟨nd,by simp,λx hx y hy=>?_⟩;simp only[bc,List.map_nil,ar]at hy;Q hy;E λz=>hni' (z▸hx)
  generalize insertAt es p (Ye prog w k,b8 b)=es1 at he1 tb1 sz1⊢;generalize zs.take p++(k,b)::zs.drop p=zs1 at he1 pm1;V hfin:∀h' o' r,io a s.heap h'->h'.get? a=aA o'->To prog w B h' o' (xs++[(k,b)])->Q r {s with heap:=h'}:=λh' o' r x y z=>h h' o' r x y (by U G7;K[Д λy=>hni' (Rv.mp y)];E z);V his1:∀h',io a s.heap h'->∀z∈xs++[(k,b)],Om prog w h' z.1 z.2:=λh' sb z hz=>by
   V hold:Om prog w s.heap z.1 z.2:=by
    J bz.mp hz with q|q
    ·E his z q
    ·K[ar.mp q];E hk
   E Om.but hold ho hd λc u hc e=>(sb.2 c hc).trans e
  V tail:∀(t2:g7),Tb t2 (es1.toList.map (·.1))->t2.mask=t.mask->t2.led=t.led->bg (b4 prog w) A (do
    storeSet a es1 t2
    if(!aD&&t2.tooFull)=aC then do
     setRelay a (grown (es.size+1))
     pure aC
    else pure aC) Q E s:=λt2 tb2 m2 l2=>by
   R ac (wpAny_storeSet_of ho hd ?_ (by K[sz1,fu];W));V o1:(s.heap.update a (Obj.putSet es1 t2)).get? a=aA {o with data:=.set es1 (ep+1) t2}:=by V z:=g6 (Obj.putSet es1 t2) ho (by K[putSet_of es1 t2 hd];rfl);K[putSet_of es1 t2 hd]at z;E z
   V b1:=Heap.SameBut.update s.heap a (Obj.putSet es1 t2);V fl:t2.fill=es.size+1:=by U SetTable.fill;V :=tb2.len;K[aq,ay,ay]at this;K[tb2.dum,this,sz1];rfl
   B hf:t2.tooFull=aC
   ·K[Е (by K[hf];rfl)];V hge:(es.size+1)*5>=t.mask*3:=by U SetTable.tooFull at hf;K[fl,m2]at hf;E of_decide_eq_true hf
    V hS:Msk (sizeAbove (grown (es.size+1))- 1)/\es1.size<=sizeAbove (grown (es.size+1))- 1/\es1.size*5<(sizeAbove (grown (es.size+1))- 1)*3/\sizeAbove (grown (es.size+1))<=128:=by
     K[sz1];J tb.msk with e|e|e
     ·V :es.size=4:=by W
      K[this];E⟨.inr (.inl Й),by decide,by decide,by decide⟩
     ·V :es.size=18:=by W
      K[this];E⟨.inr (.inr Й),by decide,by decide,by decide⟩
     ·W
    R ac ?_;U setRelay;R ac (wpAny_setState_of (s:={s with heap:=s.heap.update a (Obj.putSet es1 t2)}) o1 rfl (tb2.fits К) ?_);dsimp only;K[Д (by K[fu];V :=hS.2.2.2;W)];O⟨t3,order,q1,q2,q3,q4⟩:=Zb9 (t:=t2) (es:=es1) hS.1 hS.2.1;V q1':t2.relaid (es1.map (·.1)) (grown (es.size+1))=aA (t3,order):=q1;K[q1'];V hmk3:t3.mask=sizeAbove (grown (es.size+1))- 1:=by U SetTable.relaid SetTable.laid at q1;O⟨ow,_,z⟩:=aa.mp q1;C z;rfl
    V sz3:(order.filterMap λi=>es1[i]?).size=es1.size:=by K[<-ay,q3.length_eq,ay]
    R ac ?_;T bg _ _ (if((order.filterMap λi=>es1[i]?).size !=es1.size)=aC then _ else _) _ _ _;K[Д (by K[sz3];simp)];R ag ?_;dsimp only;R wpAny_storeSet_of (s:={s with heap:=s.heap.update a (Obj.putSet es1 t2)}) o1 rfl ?_ (by K[sz3,sz1,fu];W);V o2:=g6 (Obj.putSet (order.filterMap λi=>es1[i]?) t3) o1 (by K[putSet_of _ t3 rfl];rfl);K[putSet_of _ t3 rfl]at o2;V b2:=b1.trans (Heap.SameBut.update _ a (Obj.putSet (order.filterMap λi=>es1[i]?) t3));generalize (order.filterMap λi=>es1[i]?)=es3 at q3 q4 sz3 o2 b2⊢;V he3:∃zs3:А (Zl×aj),es3.toList=zs3.map (ent prog w)/\zs3.Perm zs1:=by K[he1]at q3;O⟨l3,r1,r2⟩:=R0 q3 zs1 rfl;E⟨l3,r2,r1⟩
    O⟨zs3,r1,r2⟩:=he3;R ag (hfin _ _ aC b2 o2 ⟨es3,_,t3,zs3,hx,rfl,r1,r2.trans pm1,Ix,his1 _ b2,q4,by K[q2,l2];E hled,?_⟩);K[sz3,hmk3];E hS.2.2.1
   ·K[Д (by L hf)];R ag (hfin _ _ aC b1 o1 ⟨es1,_,t2,zs1,hx,rfl,he1,pm1,Ix,his1 _ b1,tb2,by K[l2];E hled,?_⟩);U SetTable.tooFull at hf;K[fl,m2]at hf;K[sz1,m2];V :¬(es.size+1)*5>=t.mask*3:=λz=>hf (decide_eq_true z);W
  B hpl:t1.plain=aC
  ·K[Е hpl];R ac (Zr3 hk λbb=>?_);cases bb with
   |true=>E tail t1 tb1 hmk hld
   |false=>E tail {t1 with plain:=aD} tb1.plainOff hmk hld
  ·K[Д hpl];R ac (ag ?_);E tail t1 tb1 hmk hld
end
end TT
namespace TT
open PySem PySem.SetTable PySem.Spec PyProof.Rows SX L2
МIq(ys:А (Zl×aj)):А (Zl×aj):=ys.foldl (λacc y=>G7 acc y.1 y.2) []
ЛZfo(xs:А (Zl×aj))(k:Zl)(b:aj):(G7 xs k b).length<=xs.length+1:=by
 U G7;split
 ·W
 ·simp
ЛZfp{xs:А (Zl×aj)}{k:Zl}{b:aj}{z:Zl×aj}(h:z∈G7 xs k b):z∈xs\/z=(k,b):=by
 U G7 at h;split at h
 ·E .inl h
 ·J bz.mp h with q|q
  ·E .inl q
  ·E .inr (ar.mp q)
ЛZfq{ys:А (Zl×aj)}{i:Г}{y:Zl×aj}(h:ys[i]? =aA y):Iq (ys.take (i+1))=G7 (Iq (ys.take i)) y.1 y.2:=by U Iq;K[List.take_add_one,h];simp
ЛTf:∀(ys acc:А (Zl×aj)),(ys.foldl (λacc y=>G7 acc y.1 y.2) acc).length<=acc.length+ys.length
 | [],acc=>by simp
 |y::ys,acc=>by K[List.foldl_cons];V h1:=Tf ys (G7 acc y.1 y.2);V h2:=Zfo acc y.1 y.2;K[bf];W
ЛZag(ys:А (Zl×aj)):(Iq ys).length<=ys.length:=by V :=Tf ys [];simpa[Iq]using this
ЛTg:∀(ys acc:А (Zl×aj)) (z:Zl×aj),z∈ys.foldl (λacc y=>G7 acc y.1 y.2) acc->z∈acc\/z∈ys
 | [],acc,z,h=>.inl h
 |y::ys,acc,z,h=>by
  K[List.foldl_cons]at h;J Tg ys _ z h with q|q
  ·J Zfp q with r|r
   ·E .inl r
   ·E .inr (by K[r];E af)
  ·E .inr (ao _ q)
ЛNr{ys:А (Zl×aj)}{z:Zl×aj}(h:z∈Iq ys):z∈ys:=by
 J Tg ys [] z h with q|q
 ·E nomatch q
 ·E q
ЛTo.re{prog:b6}{w:c7}{B:Bool}{h h':d6}{o:Obj}{xs:А (Zl×aj)}(x:To prog w B h o xs)(hk:∀z∈xs,Om prog w h' z.1 z.2):To prog w B h' o xs:=by O⟨es,ep,t,zs,a,b,c,d,e,_,f⟩:=x;E⟨es,ep,t,zs,a,b,c,d,e,hk,f⟩
МKpt(h0 h:d6):Prop:=∀b o,h0.get? b=aA o->h.get? b=aA o
section
variable{prog:b6}{w:c7}{A:dh}{R:Result->am->В}{I:aj}{fp wr:А aj}{G:Array GenState->Array GenState->В}{n:Г}{P:Г->ah->В}{St:Г->am->В}
ЛZr4{B:Bool}(W:WalksS prog w A.in1 I fp wr G n P St)(S:aj)(hS:S∉fp)(hu:A.in1.units+1<f6){h0:d6}(hS0:h0.get? S=aB)(hw0:∀b∈wr,h0.get? b=aB)(ys:А (Zl×aj))(hl:ys.length=n)(hv:∀i v,P i v->∃y,ys[i]? =aA y/\v= .ref y.2)(hys:∀y∈ys,Om prog w h0 y.1 y.2)(hb:n<=75):
  ∀(m i:Г) (s:am) (o:Obj),i+m=n->St i s->Kpt h0 s.heap->s.heap.get? S=aA o->To prog w B s.heap o (Iq (ys.take i))->
  (∀s' o',Moved (S::wr) G s s'->Kpt h0 s'.heap->s'.heap.get? S=aA o'->To prog w B s'.heap o' (Iq ys)->R (.ok (.ret .none)) s')->codeAny (b4 prog w) A (.builtin "set.update.loop" ⟨[.ref S,.ref I],[]⟩) R s:=by
 V nw:S∉wr:=λz=>hS (W.sub _ z);V up:∀b∈wr,b∈S::wr:=λ_ z=>ao _ z;V kz:∀{l:А (Zl×aj)} {h:d6},Kpt h0 h->(∀z∈l,z∈ys)->∀z∈Iq l,Om prog w h z.1 z.2:=fun{l h} kp hl z hz=>(hys z (hl z (Nr hz))).mono kp;V tk:∀i,∀z∈ys.take i,z∈ys:=λi z hz=>List.mem_of_mem_take hz;I m;induction m with
 |zero=>intro i s o hi st kp ho hO hR;obtain rfl:i=n:=hi;R codeAny_builtin PyProof.Rows.F.entry_set_update_loop ?_;K[ie PyProof.Rows.F.plain_set_update_loop _];T bg _ A.in1 (pyNext (.ref I) >>=_) _ _ s;R ac (W.done s _ _ st λs' mv=>?_);V kp':Kpt h0 s'.heap:=λb x e=>mv.heap b x (λz=>by K[hw0 b z]at e;C e) (kp b x e);K[<-hl,List.take_length]at hO;E ag (hR s' o (mv.mono up) kp' (mv.heap S _ nw ho) (hO.re (kz kp' λ_ z=>z)))
 |succ m ih=>
  I i s o hi st kp ho hO hR;V hlt:i<n:=by W
  R codeAny_builtin PyProof.Rows.F.entry_set_update_loop ?_;K[ie PyProof.Rows.F.plain_set_update_loop _];T bg _ A.in1 (pyNext (.ref I) >>=_) _ _ s;R ac (W.item i s _ _ hlt st λv s1 pv st1 mv=>?_);O⟨y,hy,rfl⟩:=hv i v pv;V ho1:=mv.heap S _ nw ho;V kp1:Kpt h0 s1.heap:=λb x e=>mv.heap b x (λz=>by K[hw0 b z]at e;C e) (kp b x e);V hny:Om prog w s1.heap y.1 y.2:=(hys y (b5 hy)).mono kp1;show bg _ A.in1 (holding [b8 y.2] (setAdd S (.ref y.2)) >>=_) _ _ s1;R ac (gn ?_);U setAdd;R gn (ac (Zcx hu hny ?_));R Zwx (s:={s1 with toks:=s1.toks+T7 y.1}) (B:=B) (xs:=Iq (ys.take i)) hu ho1 (hO.re (kz kp1 (tk i))) hny (by V :=Zag (ys.take i);K[gw]at this;W) λh2 o2 b sb g2 O2=>?_;V kp2:Kpt h0 h2:=λc x e=>by
   V hc:c≠S:=λz=>by K[z,hS0]at e;C e
   K[sb.2 c hc];E kp1 c x e
  R ag ⟨plainId_quiet PyProof.Rows.F.plain_set_update_loop _,ih (i+1) _ o2 И (W.frame _ s1 _ _ st1 (Nat.le_add_right _ _) λc hc x e=>?_) kp2 g2 ?_ λs3 o3 m3 k3 g3 O3=>?_⟩
  ·K[sb.2 c λz=>hS (z▸hc)];E e
  ·K[Zfq hy];E O2
  ·R hR s3 o3 (Moved.trans W.gtrans ((mv.mono up).then_heap (Nat.le_add_right _ _) λc x hc e=>?_) m3) k3 g3 O3;K[sb.2 c λz=>hc (z▸af)];E e
end
section
variable{prog:b6}{w:c7}{A:dh}{E:ah->am->В}{s:am}
ЛZr5{h:d6}:To prog w (By w) h (Mu w) []:=⟨#[],0,_,[],⟨rfl,rfl,rfl⟩,rfl,rfl,List.Perm.nil,df,(λz hz=>nomatch hz),Tb.fresh _ _ _,rfl,by T 0*5<7*3;decide⟩
ЛS5{l:aj}{its:Array ah}{ys:А (Zl×aj)}{Q:ah->am->В}(hh:A.handled=aB)(hu:A.units+5<f6)(hl:s.heap.IsList l its)(hi:its.toList=ys.map λy=>b8 y.2)(hys:∀y∈ys,Om prog w s.heap y.1 y.2)(hb:ys.length<=75)
  (h:∀(h':d6) (tk:Г) (o:Obj),h'.get? s.heap.objs.size=aA o->To prog w (By w) h' o (Iq ys)->(∀b x,b<s.heap.objs.size->s.heap.get? b=aA x->h'.get? b=aA x)->Q (.ref s.heap.objs.size) {s with heap:=h',toks:=tk}):
  bg (b4 prog w) A (call (.type "set") [.ref l]) Q E s:=by
 V hsz:its.size=ys.length:=by K[<-ay,hi,aq]
 O⟨c,tl,hmro⟩:=PySem.F.called_set.mro;V hmade:=PySem.F.called_set.made;V hsub:=PySem.F.called_set.sub;V h1:=PySem.F.called_set.notType;V h2:=PySem.F.called_set.canCreate;V hct:=PySem.F.typeCall_set_1 (.ref l);R wpAny_call (codeAny_of_tree ?_);T bg _ _ (callAny (.type "set") _) _ _ _;R ag ⟨Code.quiet_builtin _ (by decide+kernel),codeAny_builtin PySem.F.entry_type_call ?_⟩;K[Around.under_plain (weight_type_call_type "set" [.ref l] []) rfl]
 repeat (any_goals (first|assumption|wp_step))
 R codeAny_mono (Zix (.ref l) (E:=E) (Q:=λv s1=>v= .ref s.heap.objs.size/\s1={s with heap:=s.heap.push (Mu w)}) ⟨rfl,rfl⟩) λr s1 hr=>?_;cases r with
 |error e=>E hr
 |ok fl=>
  cases fl with
  |ret obj=>
   O⟨rfl,rfl⟩:=hr;V hS:(s.heap.push (Mu w)).get? s.heap.objs.size=aA (Mu w):=bp _ rfl;V hT:Shared.TypeIs {s with heap:=s.heap.push (Mu w)} (.ref s.heap.objs.size) "set":=⟨_,hS,rfl⟩
   V hli:=PySem.F.called_set.init.lookup;V hbi:=PySem.F.called_set.init.bind (.ref s.heap.objs.size)
   repeat (any_goals (first|assumption|wp_step))
   R codeAny_mono (codeAny_call_builtin (R:=wants (λr s2=>r= .none/\∃h' tk o,s2={s with heap:=h',toks:=tk}/\h'.get? s.heap.objs.size=aA o/\To prog w (By w) h' o (Iq ys)/\(∀b x,b<s.heap.objs.size->s.heap.get? b=aA x->h'.get? b=aA x)) E)
    PySem.F.called_set.init.plain PySem.F.entry_set_init (check_set_init_1 hT ?_)) λr2 s2 hr2=>?_
   ·O⟨ol,hol,hcl,nl,hdl⟩:=hl;O⟨ocls,od,odata,osl⟩:=ol;simp only at hcl hdl;subst hcl hdl;V hol':(s.heap.push (Mu w)).get? l=aA {cls:=.type "list",dict:=od,data:=.seq its nl,slots:=osl}:=au _ hol;V hsa:=PySem.F.sub_list_set;V hsb:=PySem.F.sub_list_frozenset;V hsc:(Value.type "list"==Value.type "dict")=aD:=by decide
    V hl1:(s.heap.push (Mu w)).IsList l its:=⟨_,hol',rfl,nl,rfl⟩
    U Builtin.«set.__init__» noKeywords Builtin.Frozenset.updateFrom;generalize hPI:pyIter=PI;wp_walk;Q hPI;R wpAny_pyIter_list hl1 (ac (wpAny_runValue ?_));V ll:l<s.heap.objs.size:=bo hol;V hh3:A.in1.in1.in1.handled=aB:=by simp[hh]
    V sz:(s.heap.push (Mu w)).objs.size=s.heap.objs.size+1:=Heap.size_push _ _;V ne:l≠(s.heap.push (Mu w)).objs.size:=by K[sz];E cf (Nat.lt_succ_of_lt ll)
    V nf:s.heap.objs.size∉[(s.heap.push (Mu w)).objs.size,l]:=by K[sz];simp only[bx,List.not_mem_nil,or_false,not_or];E⟨cf (Nat.lt_succ_self _),Nat.ne_of_gt ll⟩
    R Zr4 (h0:=s.heap) ((Walks.list hh3 _ l ne its).toS) s.heap.objs.size nf (by T A.units+1+1+1+1<f6;W) (Heap.get?_none_of_le (ba _)) (λb hb'=>?_) ys hsz.symm (λi v hv=>?_) hys И its.size 0 _ (Mu w) И
     ⟨⟨_,bp _ rfl,rfl,rfl⟩,(hl1.push _)⟩ (λb o e=>au _ (au _ e)) (au _ hS) Zr5 λs' o' mv kp go Oo=>?_
    ·V :b=(s.heap.push (Mu w)).objs.size:=by L hb'
     K[this,sz];E Heap.get?_none_of_le (Nat.le_succ _)
    ·V hv':its[i]? =aA v:=hv;K[<-c9,hi,az]at hv';O⟨y,hy,rfl⟩:=cm.mp hv';E⟨y,hy,rfl⟩
    V eg:s'.gens=s.gens:=mv.gens;V ed:s'.drawn=s.drawn:=mv.drawn;V eo:s'.os=s.os:=mv.os;V es:s'={s with heap:=s'.heap,toks:=s'.toks}:=by C s';simp only at eg ed eo;subst eg ed eo;rfl
    T bg _ _ _ _ _ _;R ag ?_;show bg _ _ (ret ck) _ _ _;E ag ⟨rfl,s'.heap,s'.toks,o',es,go,Oo,λb x hb e=>kp b x e⟩
   ·cases r2 with
    |error e=>E hr2
    |ok f2=>
     cases f2 with
     |ret r=>
      O⟨rfl,h',tk,o',rfl,g',O',k'⟩:=hr2
      repeat (any_goals (first|assumption|wp_step))
      E h _ _ _ g' O' k'
     |_=>E hr2.elim
  |_=>E hr.elim
end
section
variable{prog:b6}{w:c7}{A:dh}{E:ah->am->В}{s:am}{I r S:aj}{o:Obj}{es:Array (Int×ah)}{ep:Г}{t:g7}
ЛZwy{R:Result->am->В}{res:ah}{c:Г}(hh:A.handled=aB)(ho:s.heap.get? r=aA o)(hx:o.ExactSet)(hd:o.data= .set es ep t)(hf:t.fits es.size=aC)(hled:t.led= !By w)(rise:G4 t.place.toList)(hr:es.size<=1000)(hS:S≠r)(hl:s.heap.get? S=aA (Fa #[] c))
  (hR:∀(h':d6) d c' (ord:А ah),ord.Perm (es.toList.map (·.2))->(∀b x,b≠S->s.heap.get? b=aA x->h'.get? b=aA x)->h'.get? S=aA (Fa ord.toArray c')->R (.ok (.ret res)) {s with heap:=h',drawn:=d}):
  bg (b4 prog w) A.in1 (Builtin.List.listExtendWith (.ref S) (.ref r) res) (λfin s'=>match fin with| .done f=>R (.ok f) s'| .again c'=>c'.quiet=aC/\codeAny (b4 prog w) A c' R s') (λe s'=>R (.error e) s') s:=by
 V hb:es.size<scanBound:=by U scanBound;W
 V psz:t.place.size=es.size:=by U SetTable.fits at hf;simp only[Bool.and_eq_true,beq_iff_eq]at hf;E hf.1
 V hT:s.TypeIs (.ref r) "set":=⟨o,ho,hx.1⟩
 V hlS:S<s.heap.objs.size:=bo hl;V hlr:r<s.heap.objs.size:=bo ho;U Builtin.List.listExtendWith;R ac (wpAny_typeOf (T:="set") hT ?_);V z1:Builtin.List.listSameRef (.ref S) (.ref r)=aD:=by simp[Builtin.List.listSameRef,hS]
 V z2:(Value.type "set"==Value.type "list")=aD:=by decide
 V z3:(Value.type "set"==Value.type "tuple")=aD:=by decide
 simp only[z1,z2,z3,Bool.or_false,bi,if_false];V hh':A.in1.handled=aB:=hh;R ac (Ziy ho hx hd hf hb (λhc=>?_) λhc ps d hp=>?_)
 ·V rI:r≠s.heap.objs.size:=cf hlr;V SI:S≠s.heap.objs.size:=cf hlS;V nf:S∉[s.heap.objs.size,r]:=by simp only[bx,List.not_mem_nil,or_false,not_or];E⟨SI,hS⟩
  V old:∀b x,s.heap.get? b=aA x->b≠s.heap.objs.size:=λb x e=>cf (bo e);cases hB:By w with
  |false=>
   V hl':t.led=aC:=by K[hled,hB];rfl
   V hp:(!t.plain&&decide (es.size > 1))=aD:=by K[hB]at hc;L hc
   R Nk (Xy hh' rI hd hf hB hl' hp rise psz) nf (by K[aq,ay];W) ⟨o,au _ ho,hx.1⟩ ⟨bp _ rfl,au _ ho⟩ (au _ hl) (f:=λb=>b||_) λh' c' k g=>?_;E hR h' s.drawn c' _ (List.Perm.refl _) (λb x hb e=>k b x hb (old b x e) (au _ e)) g
  |true=>have pp:=Zfd (w.params.setOrder r ep) es;R Nk (Zb3 hh' rI hd hf hB) nf (by K[aq,pp.length_eq,ay];W) ⟨o,au _ ho,hx.1⟩ ⟨bp _ rfl,au _ ho⟩ (au _ hl) (f:=λb=>b||_) λh' c' k g=>?_;E hR h' s.drawn c' _ (pp.map _) (λb x hb e=>k b x hb (old b x e) (au _ e)) g
 ·V pm0:∀p∈ps,p<es.size:=λp hq=>cu.mp (hp.mem_iff.mp hq);V rI:r≠s.heap.objs.size+1:=cf (Nat.lt_succ_of_lt hlr);V TI:s.heap.objs.size≠s.heap.objs.size+1:=cf (Nat.lt_succ_self _);V nf:S∉[s.heap.objs.size+1,r,s.heap.objs.size]:=by simp only[bx,List.not_mem_nil,or_false,not_or];E⟨cf (Nat.lt_succ_of_lt hlS),hS,cf hlS⟩
  V up:∀b x,s.heap.get? b=aA x->((s.heap.push (Mw ps)).push (Vu (.ref s.heap.objs.size) 0 r es.size ep)).get? b=aA x:=λb x e=>au _ (au _ e);V sz2:(s.heap.push (Mw ps)).objs.size=s.heap.objs.size+1:=Heap.size_push _ _;V gI:((s.heap.push (Mw ps)).push (Vu (.ref s.heap.objs.size) 0 r es.size ep)).get? (s.heap.objs.size+1)=aA (Vu (.ref s.heap.objs.size) 0 r es.size ep):=by K[<-sz2];E bp _ rfl
  V gT:((s.heap.push (Mw ps)).push (Vu (.ref s.heap.objs.size) 0 r es.size ep)).get? s.heap.objs.size=aA (Mw ps):=au _ (bp _ rfl);V pl:(ps.map λp=>es.getD p (0,ck)).Perm es.toList:=by
   R(hp.map _).trans ?_;V :(cq es.size).map (λp=>es.getD p (0,ck))=es.toList:=by
    apply List.ext_getElem?;I i;K[az];B hi:i<es.size
    ·K[List.getElem?_range hi,c9];simp[Array.getD,hi]
    ·K[dy (by L hi),dy (by L hi)];rfl
   K[this]
  V eo:(ps.map λp=>(es.getD p (0,ck)).2)=(ps.map λp=>es.getD p (0,ck)).map (·.2):=by K[cg];rfl
  R Nk (s:={s with heap:=(s.heap.push (Mw ps)).push (Vu (.ref s.heap.objs.size) 0 r es.size ep),drawn:=d}) (Xz hh' rI TI hd hf pm0) nf (by K[aq,hp.length_eq,List.length_range];W) ⟨o,up _ _ ho,hx.1⟩ ⟨gI,up _ _ ho,gT⟩ (up _ _ hl) (f:=λb=>b||_) λh' c' k g=>?_;K[eo]at g;E hR h' d c' _ (pl.map _) (λb x hb e=>k b x hb (cf (Nat.lt_succ_of_lt (bo e))) (up b x e)) g
ЛZfr{xs:А (Zl×aj)}{Q:А ah->am->В}(hh:A.handled=aB)(ho:s.heap.get? r=aA o)(hO:To prog w (By w) s.heap o xs)(hr:xs.length<=1000)
  (h:∀(zs:А (Zl×aj)) (h':d6) d,zs.Perm xs->(∀b x,s.heap.get? b=aA x->h'.get? b=aA x)->s.heap.objs.size<=h'.objs.size->Q (zs.map λz=>b8 z.2) {s with heap:=h',drawn:=d}):bg (b4 prog w) A (collect (.ref r)) Q E s:=by
 O⟨es,ep,t,zs,hx,hd,he,pm,nd,his,tb,hled,hroom⟩:=hO;V zl:zs.length=es.size:=by K[<-ay,he,aq]
 V xl:xs.length=es.size:=by K[<-pm.length_eq,zl]
 V hlr:r<s.heap.objs.size:=bo ho;V nS:s.heap.objs.size≠r:=Nat.ne_of_gt hlr;U collect;R ac (wpAny_runValue (codeAny_builtin PySem.F.entry_proto_collect ?_));K[ie PySem.F.plain_proto_collect _];T bg _ A.in1 (newList [] >>=λl=>again (.builtin "list.__iadd__" ⟨[l,.ref r],[]⟩)) _ _ s;R ac (ff ?_);R ag ⟨plainId_quiet PySem.F.plain_list_iadd _,codeAny_builtin PySem.F.entry_list_iadd ?_⟩;K[ie PySem.F.plain_list_iadd _];T bg _ A.in1 (Builtin.List.listExtendWith (.ref s.heap.objs.size) (.ref r) (.ref s.heap.objs.size)) _ _ _;R Zwy (R:=λrr s'=>match rr with
  | .ok (.ret v)=>bg (b4 prog w) A (match v with
   | .ref a=>(load a >>=λx=>match x.data with
    | .seq xs _=>pure xs.toList
    |_=>unsupported "internal:collect")
   |_=>unsupported "internal:collect") Q E s'
  | .ok _=>False
  | .error e=>E e s') (s:={s with heap:=s.heap.push (Fa #[] 0)}) (c:=0) hh (au _ ho) hx hd (tb.fits К) hled tb.rise И nS (bp _ rfl) λh' d c' ord hp hk g=>?_
 T bg _ A (load s.heap.objs.size >>=_) _ _ _;R ac (wpAny_load g ?_);R ag ?_;V e:ord.toArray.toList=ord:=by simp
 T Q ord.toArray.toList _;K[e];K[he,cg]at hp;O⟨zs',p',e'⟩:=R0 hp zs rfl;K[e'];E h zs' h' d (p'.trans pm) (λb x e=>hk b x (cf (bo e)) (au _ e)) (Nat.le_of_lt (bo g))
end
end TT
namespace TT
open PySem PySem.Spec PyProof.Rows L2 DL TX SX
МZn:Zl->D
 | .inl l=>.tup (l.map D.str)
 | .inr (n,l)=>.tup [.int n,.tup (l.map D.str)]
МTp(ks:А Zl)(k:Zl):А Zl:=if(ks.any λz=>decide (z=k))=aC then ks else ks++[k]
МEg(ks:А Zl):А Zl:=ks.foldl Tp []
ЛZfs(xs:А (Zl×aj))(k:Zl)(b:aj):(G7 xs k b).map (·.1)=Tp (xs.map (·.1)) k:=by
 U G7 Tp;V e:((xs.map (·.1)).any λz=>decide (z=k))=xs.any λz=>decide (z.1=k):=by K[List.any_map];rfl
 K[e];split
 ·rfl
 ·K[b9];rfl
ЛNt(ys:А (Zl×aj)):(Iq ys).map (·.1)=Eg (ys.map (·.1)):=by
 V go:∀(ys acc:А (Zl×aj)),(ys.foldl (λacc y=>G7 acc y.1 y.2) acc).map (·.1)=(ys.map (·.1)).foldl Tp (acc.map (·.1)):=by
  I ys;induction ys with
  |nil=>intro acc;rfl
  |cons y ys ih=>intro acc;K[List.foldl_cons,ih,bc,List.foldl_cons,Zfs]
 E go ys []
МR1(ds out:А D):Prop:=out.Perm ds/\out.Pairwise λa b=>Ug 16 b a=aA aD
ЛZcb{ks:А D}{enc:D->А Г}(hd:∀i j:Г,i<ks.length->j<ks.length->enc (ks.getD i .non)=enc (ks.getD j .non)->i=j){a b:D}(ha:a∈ks)(hb:b∈ks)(e:enc a=enc b):a=b:=by
 O⟨i,hi,rfl⟩:=eh ha;O⟨j,hj,rfl⟩:=eh hb;V gi:ks.getD i .non=ks[i]:=by K[bn,av hi];rfl
 V gj:ks.getD j .non=ks[j]:=by K[bn,av hj];rfl
 V :=hd i j hi hj (by K[gi,gj];E e);Q this;rfl
ЛG8{ds a b:А D}(h:KeysOk ds)(ha:R1 ds a)(hb:R1 ds b):a=b:=by
 O⟨enc,he,hd⟩:=h.ord;R List.Perm.eq_of_pairwise (le:=λa b=>Ug 16 b a=aA aD) (λx y hx hy h1 h2=>?_) ha.2 hb.2 (ha.1.trans hb.1.symm);V mx:=ha.1.mem_iff.mp hx;V my:=hb.1.mem_iff.mp hy;K[he _ my _ mx]at h1;K[he _ mx _ my]at h2;V h1:¬enc y<enc x:=by L h1
 V h2:¬enc x<enc y:=by L h2
 E Zcb hd mx my (List.le_antisymm (de.mp h1) (de.mp h2))
ЛEh{ds:А D}{p:А Г}(h:Ry ds p):R1 ds (p.map λi=>ds.getD i .non):=by
 R⟨?_,List.pairwise_map.mpr h.2⟩;R(h.1.map _).trans ?_;V :(cq ds.length).map (λi=>ds.getD i .non)=ds:=by
  apply List.ext_getElem
  ·simp
  ·I i h1 h2;simp[bn,av h2]
 K[this]
ЛG9{ds:А D}(h:KeysOk ds):∃out,R1 ds out:=let⟨_,hp⟩:=Bt h;⟨_,Eh hp⟩
ЛGc{ks:А D}{enc:D->А Г}:(∀i j:Г,i<ks.length->j<ks.length->enc (ks.getD i .non)=enc (ks.getD j .non)->i=j)↔(ks.map enc).Nodup:=by
 V gi:∀i (hi:i<ks.length),ks.getD i .non=ks[i]:=λi hi=>by K[bn,av hi];rfl
 constructor
 ·I h;R List.pairwise_iff_getElem.mpr λi j hi hj hij e=>?_;K[aq]at hi hj;K[List.getElem_map,List.getElem_map]at e;V :=h i j hi hj (by K[gi i hi,gi j hj];E e);W
 ·I h i j hi hj e;K[gi i hi,gi j hj]at e;V :=(List.getElem?_inj (i:=i) (j:=j) (by K[aq];E hi) h).mp (by simp[hi,hj,e]);E this
ЛS6{ds es:А D}(h:KeysOk ds)(p:es.Perm ds):KeysOk es:=by O⟨k,hk⟩:=h.key;O⟨enc,he,hd⟩:=h.ord;R⟨⟨k,λd hd=>hk d (p.mem_iff.mp hd)⟩,enc,λa ha b hb=>he a (p.mem_iff.mp ha) b (p.mem_iff.mp hb),?_⟩;E Gc.mpr ((p.map enc).nodup_iff.mpr (Gc.mp hd))
end TT
namespace L2
open PySem PySem.Spec PySem.Calls PyProof.Rows DL TX SX TT
ЛEi{P:b6}{w:c7}{H:Hp}{h:d6}(ok:Go P w H h){k:Zl}{b:aj}(e:Q4 H k b):Om P w h k b:=by
 cases k with
 |inl l=>E Gz ok e
 |inr p=>
  O⟨n,l⟩:=p;O⟨c,h1,h2⟩:=e;O⟨_,its,r,o,q1,q2,m,q3⟩:=(show Yj P w H h b (.tup [.int n,.ref c])from ok b _ h1)
  cases r with
  |cons r1 t=>cases t with
   |cons r2 t=>C t;O⟨tk,rfl⟩:=r1;C r2;E⟨o,_,m,tk,c,q1,q2,q3,rfl,Gz ok h2⟩
ЛCn{K:ad}{F:Hp}{k:Zl}{b:aj}(e:Q4 F k b):Rep K F (Zn k) (.ref b):=by
 V tx:∀l:А Str,Reps K F (l.map D.str) ((Gj l).map kV):=λl=>by
  induction l with
  |nil=>E .nil
  |cons x l ih=>E .cons (.str x) ih
 cases k with
 |inl l=>E .tup e (tx l)
 |inr p=>O⟨n,l⟩:=p;O⟨c,h1,h2⟩:=e;E .tup h1 (.cons (.int n) (.cons (.tup h2 (tx l)) .nil))
ЛR3{K:ad}{F:Hp}{k:Zl}{v:V}(r:Rep K F (Zn k) v):∃b,v= .ref b/\Q4 F k b:=by
 V tx:∀{l:А Str} {vs:А V},Reps K F (l.map D.str) vs->vs=(Gj l).map kV:=fun{l}=>by
  induction l with
  |nil=>intro vs h;C h;rfl
  |cons x l ih=>intro vs h;cases h with
   |cons h t=>C h;K[ih t];rfl
 cases k with
 |inl l=>cases r with
  |tup h r=>K[tx r]at h;E⟨_,rfl,h⟩
 |inr p=>
  O⟨n,l⟩:=p;cases r with
  |tup h r=>cases r with
   |cons r1 t=>C r1;cases t with
    |cons r2 t=>C t;cases r2 with
     |tup h2 r2=>K[tx r2]at h2;E⟨_,rfl,_,h,h2⟩
section
variable{X:Cx}
МrSN(K:ad):А V->Hp->VK->Prop:=λvs H Q=>∃(l:aj) (ys:А (Zl×aj)),vs=[.ref l]/\W5 K H l (ys.map λy=>V.ref y.2)/\(∀y∈ys,Q4 H y.1 y.2)/\ys.length<=75/\(Iq ys).length<64/\KeysOk ((Iq ys).map λy=>Zn y.1)/\
 ∀(zs:А (Zl×aj)) (q:aj),zs.Perm (Iq ys)->R1 ((Iq ys).map λy=>Zn y.1) (zs.map λy=>Zn y.1)->H q=aB->Q (.ref q) (Z9 H q (.lst (zs.map λz=>V.ref z.2)))
ЛZnx:∀{ys:А (Zl×aj)} {its:А ah},Z2 (ys.map λy=>V.ref y.2) its->its=ys.map λy=>b8 y.2
 | [],_,h=>by C h;rfl
 |y::ys,_,h=>by
  cases h with
  |cons r t=>C r;K[Znx t];rfl
ЛZft:∀ys:А (Zl×aj),Z2 (ys.map λy=>V.ref y.2) (ys.map λy=>b8 y.2)
 | []=>.nil
 |y::ys=>.cons rfl (Zft ys)
ЛZi6{a:cj}{t:TA}{p1 p2 q1 q2:Pos}(hc:X.calm=aC)(hu:X.A.units+64<f6)(h1:X.mg "sorted"=aB)(h2:X.mg "set"=aB)(ha:PA X [a] t)(g1:Gl X "sorted")(g2:Gl X "set")
  (he1:a9 [.Call (.Name "set" q1) [a] [] q2] X.env=(aD,gq (.Call (.Name "set" q1) [a] [] q2) X.env)::a9 [] X.env) (hp1:(gr p2 (a9 [] X.env)).any (·.1)=aD)
  (he2:a9 [a] X.env=(aD,gq a X.env)::a9 [] X.env) (hp2:(gr q2 (a9 [] X.env)).any (·.1)=aD):
  PE X (.Call (.Name "sorted" p1) [.Call (.Name "set" q1) [a] [] q2] [] p2) (tCB (rSN X.K) t):=by
 I pins s σ H Q I h;R wpAny_Call_Name_kw (Bh I g1 h1 Te ?_);R PyProof.Rows.callWith_builtin1 ?_ he1 hp1;K[he1];T bg _ _ (spliced ((aD,gq (.Call (.Name "set" q1) [a] [] q2) X.env)::gr p2 (a9 [] X.env))) _ _ s;R Calls.spliced_cons (wpAny_Call_Name_kw (Bh I g2 h2 Su ?_));R PyProof.Rows.callWith_type1 (Wp (ha q2 pins s σ H _ I h) λus s1 ⟨vs,H1,I1,r1,z1⟩=>?_) he2 hp2;O⟨l,ys,rfl,hl,hn,hz,hz2,ko,q⟩:=z1;O⟨u,rfl,ru⟩:=Oc r1;C ru;O⟨its,rv,⟨o,n,ho,hcl,_,hd⟩,_⟩:=I1.list hl;V hits:=Znx rv;V hh:=I1.ok.hd hc;R S5 (its:=its.toArray) (ys:=ys) hh И ⟨o,ho,hcl,n,hd⟩ (by L hits) (λy hy=>Ei I1.hok (hn y hy)) hz λh' tk o' ho' hO hk=>?_;T bg _ _ (spliced []) _ _ _;R Calls.spliced_nil ?_;V kept:∀b x,s1.heap.get? b=aA x->h'.get? b=aA x:=λb x e=>hk b x (bo e) e;V I2:Inv X pins σ H1 {s1 with heap:=h',toks:=tk}:=I1.kept kept;R Calls.call_function_entry kind_sorted plain_sorted entry_sorted (args_sorted1 _) ?_;U Builtin.«sorted»;R ac (m:=checkCount "sorted" 1 1 _) (ag ?_);R ac (Zfr (A:=X.A.in1) (s:={s1 with heap:=h',toks:=tk}) hh ho' hO И λzs h3 d hp hk3 ge=>?_);V I3:Inv X pins σ H1 {s1 with heap:=h3,toks:=tk,drawn:=d}:=(I2.kept (t':=tk) hk3).drawnAt d;V kz:KeysOk (zs.map λy=>Zn y.1):=S6 ko (hp.map _);O⟨enc,he,hdis⟩:=id kz.ord;O⟨kb,hkb⟩:=id kz.key;V hu2:X.A.in1.in1.units+16<cLine:=by T X.A.units+1+1+16<f6;W
 V zl:zs.length=(Iq ys).length:=hp.length_eq;V dl:(zs.map λy=>Zn y.1).length=(zs.map λz=>b8 z.2).length:=by simp
 V hnz:∀z∈zs,Q4 H1 z.1 z.2:=λz hz'=>hn z (Nr (hp.mem_iff.mp hz'));R Zb8 (its:=zs.map λz=>b8 z.2) (kvs:=zs.map λz=>V.ref z.2) (KeyOk:=λj kv H=>Rep X.K H ((zs.map λy=>Zn y.1).getD j .non) kv) (O:=strKind.toKeyOrd) (key:=D5 enc (zs.map λy=>Zn y.1)) I3 (by K[aq];W) (Zft zs) (λj kv e=>?_) (Zfi hu2 hkb he dl) ?hQ
 ·K[az]at e;O⟨z,ez,rfl⟩:=cm.mp e;V :(zs.map λy=>Zn y.1).getD j .non=Zn z.1:=by K[bn,az,ez];rfl
  K[this];E Cn (hnz z (b5 ez))
 case hQ=>
  I p D s3 cc hp2' hs hD0 I4 fD gD;V sb:=Zfj he dl hp2' hs;V pt:p.toList.Perm (cq zs.length):=by V :=sb.1;K[aq]at this;E this
  V bnd:∀i∈p.toList,i<zs.length:=λi hi=>cu.mp (pt.mem_iff.mp hi);V g1':∀i∈p.toList,(zs.map λz=>b8 z.2).getD i ck=b8 (zs.getD i (.inl [],0)).2:=λi hi=>by V hb:=bnd i hi;simp[bn,az,av hb]
  V g2':∀i∈p.toList,(zs.map λy=>Zn y.1).getD i .non=Zn (zs.getD i (.inl [],0)).1:=λi hi=>by V hb:=bnd i hi;simp[bn,az,av hb]
  generalize hzs2:p.toList.map (λi=>zs.getD i (.inl [],0))=zs2;V e1:(p.toList.map λi=>(zs.map λz=>b8 z.2).getD i ck)=zs2.map λz=>b8 z.2:=by K[<-hzs2,cg];E List.map_congr_left g1'
  V e2:(p.toList.map λi=>(zs.map λy=>Zn y.1).getD i .non)=zs2.map λy=>Zn y.1:=by K[<-hzs2,cg];E List.map_congr_left g2'
  V pz:zs2.Perm zs:=by
   K[<-hzs2];R(pt.map _).trans ?_;V :(cq zs.length).map (λi=>zs.getD i (.inl [],0))=zs:=by
    apply List.ext_getElem
    ·simp
    ·I i h1 h2;simp[bn,av h2]
   K[this]
  V so:=Eh sb;K[e2]at so;V so2:R1 ((Iq ys).map λy=>Zn y.1) (zs2.map λy=>Zn y.1):=⟨so.1.trans (hp.map _),so.2⟩
  K[e1]at gD;V new:Yj X.prog X.w (Z9 H1 D (.lst (zs2.map λz=>V.ref z.2))) s3.heap D (.lst (zs2.map λz=>V.ref z.2)):=by R⟨?_,zs2.map λz=>b8 z.2,cc,Zft zs2,gD⟩;K[aq,pz.length_eq,fu];W
  E⟨.ref D,_,Inv.trackO I4 hD0 fD.1 fD.2.1 fD.2.2.2.2.1 fD.2.2.2.2.2 new,rfl,q zs2 D (pz.trans hp) so2 fD.1⟩
end
end L2
namespace DL
open PySem PySem.Spec PyProof.Rows L2 SX TT TX
variable{K:ad}
Мnk?:D->Б Zl
 | .tup xs=>match strs? xs with
  |some l=>aA (.inl l)
  |none=>match xs with
   | [.int n,.tup ys]=>(strs? ys).bind λl=>aA (.inr (n,l))
   |_=>aB
 |_=>aB
ЛEj:∀l:А Str,strs? (l.map D.str)=aA l
 | []=>rfl
 |x::l=>by K[bc,strs?,Ej l];rfl
ЛNu:∀{xs:А D} {l:А Str},strs? xs=aA l->xs=l.map D.str
 | [],_,h=>by C h;rfl
 |x::xs,l,h=>by
  U strs? at h;split at h
  ·rename_i e;C e
  ·rename_i y r e;C e;O⟨t,h1,h2⟩:=aa.mp h;C h2;K[Nu h1];rfl
  ·C h
@[simp] theorem Co(k:Zl):nk? (Zn k)=some k:=by
 cases k with
 |inl l=>show(match strs? (l.map D.str)with|some l=>_|none=>_)=_;K[Ej]
 |inr p=>O⟨n,l⟩:=p;show(strs? (l.map D.str)).bind _=_;K[Ej];rfl
ЛZfu{d:D}{k:Zl}(h:nk? d=aA k):d=Zn k:=by
 U nk? at h;split at h
 ·rename_i xs;split at h
  ·rename_i l hl;C h;K[Nu hl];rfl
  ·split at h
   ·O⟨l,h1,h2⟩:=aa.mp h;C h2;K[Nu h1];rfl
   ·C h
 ·C h
Мnks?:А D->Б (А Zl)
 | []=>aA []
 |d::r=>(nk? d).bind λk=>(nks? r).bind λks=>aA (k::ks)
@[simp] theorem Ty:∀ks:А Zl,nks? (ks.map Zn)=some ks
 | []=>rfl
 |k::ks=>by K[bc,nks?,Co,Ty ks];rfl
ЛNv:∀{ds:А D} {ks:А Zl},nks? ds=aA ks->ds=ks.map Zn
 | [],_,h=>by C h;rfl
 |d::ds,_,h=>by O⟨k,h1,h2⟩:=aa.mp (show(nk? d).bind _=_ from h);O⟨ks,h3,h4⟩:=aa.mp h2;C h4;K[Zfu h1,Nv h3];rfl
ЛEk{F:Hp}:∀{ks:А Zl} {vs:А V},Reps K F (ks.map Zn) vs->∃ys:А (Zl×aj),ys.map (·.1)=ks/\vs=ys.map (λy=>V.ref y.2)/\∀y∈ys,Q4 F y.1 y.2
 | [],_,h=>by C h;E⟨[],rfl,rfl,λ_ z=>nomatch z⟩
 |k::ks,_,h=>by
  cases h with
  |cons h t=>
   O⟨b,rfl,hb⟩:=R3 h;O⟨ys,rfl,rfl,hy⟩:=Ek t;R⟨(k,b)::ys,rfl,rfl,λy hy'=>?_⟩;J bx.mp hy' with z|z
   ·K[z];E hb
   ·E hy y z
ЛKq{F:Hp}:∀{ys:А (Zl×aj)},(∀y∈ys,Q4 F y.1 y.2)->Reps K F (ys.map λy=>Zn y.1) (ys.map λy=>V.ref y.2)
 | [],_=>.nil
 |y::ys,h=>.cons (Cn (h y af)) (Kq λz hz=>h z (ao _ hz))
open Classical in
МEl(ks:А Zl):Б SV:=
 if h:ks.length<=75/\(Eg ks).length<64/\KeysOk ((Eg ks).map Zn)then aA (.ol (Classical.choose (G9 h.2.2)))else aB
ЛZfv{ks:А Zl}{sv:SV}(e:El ks=aA sv):ks.length<=75/\(Eg ks).length<64/\KeysOk ((Eg ks).map Zn)/\∃out,R1 ((Eg ks).map Zn) out/\sv= .ol out:=by
 U El at e;split at e
 ·rename_i h;C e;E⟨h.1,h.2.1,h.2.2,_,Classical.choose_spec (G9 h.2.2),rfl⟩
 ·C e
ЛZfw{ks:А Zl}{out:А D}(h1:ks.length<=75)(h2:(Eg ks).length<64)(h3:KeysOk ((Eg ks).map Zn))(h4:R1 ((Eg ks).map Zn) out):El ks=aA (.ol out):=by U El;K[dif_pos ⟨h1,h2,h3⟩,G8 h3 (Classical.choose_spec (G9 h3)) h4]
МCp:А D->Б SV
 | [.lst xs]=>(nks? xs).bind El
 |_=>aB
@[simp] theorem Kr(ks:А Zl):Cp [.lst (ks.map Zn)]=El ks:=by show(nks? (ks.map Zn)).bind _=_;K[Ty];rfl
section
variable{Z:Ent K}{H:Hp}{σ:L2.St}{Q:VK}{E:Ends}
ЛZny:Us Z (rSN K) Cp:=by
 I F H σ δ own vs ds sv Q s r e k;U Cp at e;split at e
 ·O⟨ks,e1,e2⟩:=aa.mp e;O⟨z1,z2,ko,out,ho,rfl⟩:=Zfv e2;V :=Nv e1;Q this;cases r with
  |cons h t=>
   C t;O⟨a,us,rfl,ha,ru⟩:=h.lst s.le;O⟨ys,rfl,rfl,hy⟩:=Ek ru;V ek:(Iq ys).map (λy=>Zn y.1)=(Eg (ys.map (·.1))).map Zn:=by K[<-Nt,cg];rfl
   R⟨a,ys,rfl,ha,λy hy'=>(hy y hy').mono λ_ _ q=>s.le _ _ q,by L z1,?_,by K[ek];E ko,λzs q hp so hq=>?_⟩
   ·V :=congrArg List.length (Nt ys);K[aq]at this;W
   ·V eo:out=zs.map λy=>Zn y.1:=by K[ek]at so;E G8 ko ho so
    K[eo]at k;E k.lst s (Kq λz hz=>hy z (Nr (hp.mem_iff.mp hz))) hq
 ·C e
end
section
variable{X:Cx}{Z:Ent X.K}{a b c:cj}{fa fb fc:FE}{pos:Pos}
ЛNw{p1 q1 q2:Pos}(hc:X.calm=aC)(hv:X.A.units+64<f6)(h1:X.mg "sorted"=aB)(h2:X.mg "set"=aB)(ha:PE X a (Ze Z fa))(g1:Gl X "sorted":=by rfl)(g2:Gl X "set":=by rfl)
  (he1:a9 [.Call (.Name "set" q1) [a] [] q2] X.env=(aD,gq (.Call (.Name "set" q1) [a] [] q2) X.env)::a9 [] X.env:=by rfl) (hp1:(gr pos (a9 [] X.env)).any (·.1)=aD:=by rfl)
  (he2:a9 [a] X.env=(aD,gq a X.env)::a9 [] X.env:=by rfl) (hp2:(gr q2 (a9 [] X.env)).any (·.1)=aD:=by rfl):
  PE X (.Call (.Name "sorted" p1) [.Call (.Name "set" q1) [a] [] q2] [] pos) (Ze Z (Yq Cp (Zc fa Zj))):=
 (Zi6 hc hv h1 h2 (Zk ha Ya he2) g1 g2 he1 hp1 he2 hp2).imp λ_ _ _ h=>Am Zny h
end
end DL
namespace L2
open PySem PySem.Spec PySem.Calls PyProof.Rows
section
variable{prog:b6}{w:c7}{K:Type}[DecidableEq K]{knd:HeapKind prog w K}{A:dh}{E:ah->am->В}{s:am}
ЛS7{d a:aj}{xs:А (K×aj×ah)}{k:K}{v:ah}{Q:ah->am->В}(hu:knd.room A)(hkey:knd.is s.heap k a)(hm:s.heap.DictOfH knd d xs)
  (hold:∀p,atKey xs k=aA p->Q p.2 {s with toks:=s.toks+knd.draws k})
  (hnew:atKey xs k=aB->∀h',h'.DictOfH knd d (xs++[(k,a,v)])->io d s.heap h'->Q v {s with heap:=h',toks:=s.toks+knd.draws k}) (hsz:xs.length<=sizeLine):
  bg (b4 prog w) A (dictSetDefault d (.ref a) v) Q E s:=by
 O⟨o,es,ep,ho,hc,hd,he,his,hn⟩:=hm;U dictSetDefault
 try with_reducible R gn ?_
 R ac (knd.pyHash hu hkey (ac (wpAny_dictFind_heap (s:={s with toks:=s.toks+knd.draws k}) hu hkey ho hd he his hn ?_ ?_)))
 ·I hno;V hnot:k∉xs.map (·.1):=not_mem_keys_of_get hno;dsimp only;R ac (wpAny_rule (ac (wpAny_updateDictKeys (hz:=by V e:=size_of_entries he;W) (s:={s with toks:=s.toks+knd.draws k}) ho hd (ag (hnew (atKey_none_of_get hno) _ ⟨_,_,ep+1,g6 _ ho (Obj.isFreed_of_dict (Obj.data_mapDictKeys hd _)),
   hc.mapDictKeys _,Obj.data_mapDictKeys hd _,?_,?_,?_⟩ (Heap.SameBut.update ..))))))
  ·simp[he,entryOfKey]
  ·I x hx;J bz.mp hx with hx|hx
   ·E knd.keeps (his x hx) ho hd (Heap.SameBut.update ..)
   ·simp only[ar]at hx;Q hx;E knd.keeps hkey ho hd (Heap.SameBut.update ..)
  ·K[b9,dq];R⟨hn,by simp,?_⟩;I x hx y hy;simp only[bc,List.map_nil,ar]at hy;Q hy;E λe=>hnot (e▸hx)
 ·I j p hj;dsimp only;R ac (wpAny_dictEntries (s:={s with toks:=s.toks+knd.draws k}) ho hd ?_);K[entry_at he j,hj];E ac (wpAny_rule (ag (hold p (atKey_of_get hn hj))))
end
МKNt(H:Hp):А (Zl×V)->А (Zl×aj×ah)->Prop:=Paired λ(p:Zl×V) (q:Zl×aj×ah)=>p.1=q.1/\Q4 H p.1 q.2.1/\Zy p.2 q.2.2
section
variable{P:b6}{w:c7}{H:Hp}{h:d6}{a:aj}
ЛZfx{kvs:А (Zl×V)}{ep:Г}{bs:А aj}(ok:Go P w H h)(e:H a=aA (.dN kvs ep bs)):kvs.length<=sizeLine/\(a==sysModules)=aD/\
  ∃xs,KNt H kvs xs/\h.DictOfH (Fj P w) a xs/\(xs.map λx=>x.2.1)=bs:=by
 O⟨z,y,xs,r,o,es,h1,h2,h3,h4,h5,h6⟩:=(show Yj P w H h a (.dN kvs ep bs)from ok a _ e)
 R⟨z,y,xs,r,⟨o,es,ep,h1,h2,h3,h4,λx hx=>?_,h5⟩,h6⟩;V all:∀{l:А (Zl×V)} {m:А (Zl×aj×ah)},KNt H l m->∀x∈m,(Fj P w).is h x.1 x.2.1:=by
  I l m q;induction q with
  |nil=>intro x hx;E nomatch hx
  | @cons p q ps qs hq t ih=>
   I x hx;J bx.mp hx with e|hx
   ·Q e;E Ei ok (by K[<-hq.1];E hq.2.1)
   ·E ih x hx
 E all r x hx
ЛKNt.val{kvs:А (Zl×V)}{xs:А (Zl×aj×ah)}(r:KNt H kvs xs)(k:Zl):Ti (Qd kvs k) ((atKey xs k).map (·.2)):=by
 induction r with
 |nil=>E True.intro
 | @cons p q ps qs hq t ih=>
  B e:p.1=k
  ·K[O6 e];V :atKey (q::qs) k=aA q.2:=by U atKey;K[List.find?_cons_of_pos (by K[<-hq.1];E decide_eq_true e)];rfl
   K[this];E hq.2.2
  ·K[Uq e];V :atKey (q::qs) k=atKey qs k:=by U atKey;K[List.find?_cons_of_neg (by K[<-hq.1];L e)]
   K[this];E ih
end
МIsN(H:Hp)(a:aj):Prop:=∃kvs ep bs,H a=aA (.dN kvs ep bs)
МZr7(td ty:TE):TE:=λσ H Q=>td σ H λx H1=>ty σ H1 λy H2=>∃a b kvs ep bs k v,x= .ref a/\y= .ref b/\H2 a=aA (.dN kvs ep bs)/\Q4 H2 k b/\Qd kvs k=aA v/\Q v H2
МZle(td ty tx:TE):TE:=λσ H Q=>td σ H λx H1=>∃a,x= .ref a/\IsN H1 a/\ty σ H1 λy H2=>tx σ H2 λz H3=>∃kvs ep bs k b,y= .ref b/\H3 a=aA (.dN kvs ep bs)/\Q4 H3 k b/\kvs.length<sizeLine/\
 ((∃v,Qd kvs k=aA v/\Q v H3)\/(Qd kvs k=aB/\∀ep',Q z (Z9 H3 a (.dN (kvs++[(k,z)]) ep' (bs++[b])))))
section
variable{X:Cx}{o i e f:cj}{td ty tx:TE}{pos apos cpos:Pos}
ЛZlf{A:dh}{P:b6}{w:c7}(hu:A.units+2<f6):(Fj P w).room A.in1:=hu
ЛZi7(hu:X.A.units+2<f6)(ho:PE X o td)(hi:PE X i ty)(hs:Zmh i):PE X (.Subscript o i pos) (Zr7 td ty):=by I pins s σ H Q I h;R Da PySem.F.slot_dict_getitem.lookup hs (Wp (ho pins s σ H _ I h) λu s1 ⟨x,H1,I1,rx,q1⟩=>Wp (hi pins s1 σ H1 _ I1 q1) λiv s2 zq9=>?_);O⟨y,H2,I2,ry,a,b,kvs,ep,bs,k,v,ex,ey,ea,eb,ev,q2⟩:=zq9;subst ex ey;obtain rfl:u=b8 a:=rx;obtain rfl:iv=b8 b:=ry;O⟨z,hd,xs,rel,dd,_⟩:=Zfx I2.hok ea;O⟨w',hw,rw'⟩:=Ti.some_of (v:=v) (o:=(atKey xs k).map (·.2)) (by K[<-ev];E rel.val k);O⟨p,hp,hp2⟩:=cm.mp hw;R⟨dd.typeIs,wpAny_getItem_heap (Zlf hu) (Ei I2.hok eb) dd hp ?_⟩;K[hp2];E⟨v,H2,I2.tok _,rw',q2⟩
ЛZah(hu:X.A.units+2<f6)(ho:PE X o td)(he:PE X e ty)(hf:PE X f tx)(m:M2 X o "setdefault" apos e f cpos):PE X (.Call (.Attribute o "setdefault" apos) [e,f] [] cpos) (Zle td ty tx):=by
 I pins s σ H Q I h;R wpAny_Call_method m.base m.few m.line PySem.F.plainAttrs_dict PySem.F.slot_dict_setdefault PySem.F.type_dict_setdefault (Wp (ho pins s σ H _ I h) λu s1 zq9=>?_);O⟨x,H1,I1,rx,a,ex,d,q1⟩:=zq9;Q ex;obtain rfl:u=b8 a:=rx;O⟨kvs1,ep1,bs1,ea1⟩:=d;O⟨_,_,xs1,_,dd1,_⟩:=Zfx I1.hok ea1;R⟨dd1.typeIs,λb q=>?_,?_⟩
 ·C q;O⟨ob,_,_,h1,h2,_⟩:=dd1;E⟨ob,h1,h2.2.1⟩
 K[m.trees];R Calls.callWith_builtin rfl (Calls.evalArgs_plain (Calls.spliced_cons (Wp (he pins s1 σ H1 _ I1 q1) λiv s2 ⟨y,H2,I2,ry,q2⟩=>
  Calls.spliced_cons (Wp (hf pins s2 σ H2 _ I2 q2) λfv s3 ⟨z,H3,I3,rz,kvs,ep,bs,k,b,ey,ea,eb,hl,q3⟩=>Calls.spliced_nil ?_))))
 Q ey;obtain rfl:iv=b8 b:=ry;O⟨hz,hd,xs,rel,dd,hbs⟩:=Zfx I3.hok ea;V hxl:xs.length=kvs.length:=(ig rel).symm;R dr PySem.F.slot_dict_setdefault dd.typeIs PySem.F.entry_dict_setdefault ?_ (PySem.F.args_dict_setdefault_3 _ _ _);U Builtin.«dict.setdefault»;R ac (m:=Builtin.Dict.keyAndDefault "setdefault" ⟨[.ref a,.ref b,fv],[]⟩) ?_;T bg _ _ (Builtin.Dict.notOrdered "setdefault" ⟨[.ref a,.ref b,fv],[]⟩>>=_) _ _ s3;R ac (wpAny_notOrdered_dict dd.typeIs ?_);R ag (a:=(a,b8 b,aA fv)) ?_;dsimp only;K[Д (by K[hd];simp)];R ac (S7 (knd:=Fj X.prog X.w) (Zlf hu) (Ei I3.hok eb) dd (λp hp=>?_) (λhno h' dd' hs=>?_) И)
 ·J q3 with⟨v,ev,q⟩|⟨ev,_⟩
  ·V r:=rel.val k;K[hp,ev]at r;E ag ⟨_,rfl,v,H3,I3.tok _,r,q⟩
  ·V r:=rel.val k;K[hp,ev]at r;E r.elim
 ·J q3 with⟨v,ev,q⟩|⟨ev,q⟩
  ·V r:=rel.val k;K[hno,ev]at r;E r.elim
  ·O⟨ob,es,ep',hq,h2,h3,h4,_,h5⟩:=dd';R ag ⟨_,rfl,z,_,Tv I3 (ob:=.dN (kvs++[(k,z)]) ep' (bs++[b])) (by K[ea];E True.intro) hs ⟨ob,hq⟩ ⟨by K[aw,f8];W,hd,xs++[(k,b,fv)],?_,ob,es,hq,h2,h3,h4,h5,by K[b9,hbs];rfl⟩,rz,q ep'⟩;V app:∀{l:А (Zl×V)} {m:А (Zl×aj×ah)},KNt H3 l m->Paired (λ(p:Zl×V) (q:Zl×aj×ah)=>p.1=q.1/\Q4 (Z9 H3 a (.dN (kvs++[(k,z)]) ep' (bs++[b]))) p.1 q.2.1/\Zy p.2 q.2.2) (l++[(k,z)]) (m++[(k,b,fv)]):=by
    V up:∀c ys,H3 c=aA (.tup ys)->Z9 H3 a (.dN (kvs++[(k,z)]) ep' (bs++[b])) c=aA (.tup ys):=λc ys ec=>by K[Zw (T9 ec ea (λz=>nomatch z))];E ec
    I l m r;induction r with
    |nil=>E .cons ⟨rfl,eb.mono up,rz⟩ .nil
    |cons hq t ih=>E .cons ⟨hq.1,hq.2.1.mono up,hq.2.2⟩ ih
   E app rel
ЛZfy{P:b6}{w:c7}{H:Hp}(h:d6)(hb:sysModules<h.objs.size):Yj P w H (h.push {cls:=.type "dict",data:=.dict #[]}) h.objs.size (.dN [] 0 []):=
 ⟨f7 _,beq_eq_false_iff_ne.mpr (Ne.symm (cf hb)),[],.nil,_, #[],bp _ rfl,⟨rfl,rfl,rfl⟩,rfl,rfl,df,rfl⟩
МZfz:TE:=λ_ H Q=>∀p,H p=aB->Q (.ref p) (Z9 H p (.dN [] 0 []))
ЛZf0:PE X (.Dict [] [] pos) Zfz:=λpins s σ H Q I h=>
 wpAny_Dict_empty ⟨.ref s.heap.objs.size,_,I.laid (a:=s.heap.objs.size) (o:=.dN [] 0 []) (t':=s.toks) (λ_ _ q=>au _ q) (ba _) (Zfy s.heap I.big),rfl,h _ (I.hok.fresh (ba _))⟩
МZai(K:ad):V->А V->Hp->VK->Prop:=λx vs H Q=>∃l b xs zs,x= .ref l/\vs=[.ref b]/\H l=aA (.lst xs)/\W5 K H b zs/\xs.length+zs.length<=sizeLine/\Q .non (Z9 H l (.lst (xs++zs)))
end
end L2
namespace L2
open PySem PySem.Spec PySem.Calls PyProof.Rows
ЛZi8(l:aj)(items:Array ah)(n:Г)(b:aj)(items2:Array ah)(n2:Г)(dc:Б aj)(sl:Array (Б ah))(hs0:¬(!items.isEmpty&&Builtin.List.listTooLong (items.size+items2.size))=aC)(hs1:items.size<=sizeLine)(hs2:items.size+items2.size<=sizeLine+1):
  Meets (Builtin.«list.extend» ⟨[.ref l,.ref b],[]⟩) (λ_ R s=>s.heap.get? l=aA {cls:=.type "list",dict:=aB,data:=.seq items n,slots:= #[]}/\s.heap.get? b=aA {cls:=.type "list",dict:=dc,data:=.seq items2 n2,slots:=sl}/\R (.ok (.ret ck)) {s with heap:=s.heap.update l (di λx=>x++items2),toks:=s.toks}):=
 .of_wp λprog w A R s h=>by
  O⟨hp,g,d,tk,os⟩:=s;O⟨hl,hb,h⟩:=h;V f1:=AutoSeq1.idx_int;V f2:=AutoSeq1.sub_tuple_tuple;V f3:=AutoSeq1.sub_list_list;V f4:=AutoSeq1.sub_tuple_list;V f5:=AutoSeq1.sub_list_tuple;V hz':(items++items2).size<=sizeLine+1:=by K[Array.size_append];E hs2
  wp_walk using(wpAny_updateSeq hl rfl (hz:=hs1) (_hz':=hz')),AutoSeq1.wpAny_loadPart' hl,AutoSeq1.wpAny_loadPart' hb;E⟨_,rfl,h⟩
ЛZaj{X:Cx}:MtM X "list.extend" (Zai X.K):=by
 I pins s σ H x vs v us Q I rx rv h;O⟨l,b,xs,zs,rfl,rfl,hH,hB,hz,q⟩:=h;C rx;O⟨u,rfl,ru⟩:=rv.one;C ru;O⟨z,its,n,r,hl,e⟩:=I.lstM hH;O⟨its2,r2,⟨o,n2,ho,hc,hdn,hd⟩,z2⟩:=I.list hB;V hl2:=r2.length;O⟨cls,dc,data,sl⟩:=o;C hc;C hd;V hsz:its.toArray.size+its2.toArray.size<=sizeLine:=by K[bq,bq];W
 V hlong:¬(!its.toArray.isEmpty&&Builtin.List.listTooLong (its.toArray.size+its2.toArray.size))=aC:=by K[Zdl hsz,Bool.and_false];E bv
 R call_meets F.slot_list_extend ⟨_,e,rfl⟩ F.entry_list_extend (F.args_list_extend_2 _ _)
  (Zi8 l its.toArray n b its2.toArray n2 dc sl hlong (by K[bq];W) И) ⟨e,ho,?_⟩
 R⟨.non,_,I.lset (its':=its++its2) hH e К (r.append r2) ?_,rfl,q⟩;K[aw];W
end L2
namespace DL
open PySem PySem.Spec PyProof.Rows L2 TT
variable{K:ad}
ЛKids.appL{F:Hp}:∀{xss:А (А D)} {ws:А V} {ns:Zo} {p:Г} {b:aj},Kids K F xss ws ns->ws[p]? =aA (.ref b)->(Bf ns).Nodup->
  ∃xs vs,xss[p]? =aA xs/\(b,HO.lst vs)∈ns/\Reps K F xs vs/\∀{ys:А D} {us:А V},Reps K F ys us->∃ns',Kids K F (xss.set p (xs++ys)) ws ns'/\Bf ns'=Bf ns/\∀q∈ns',q=(b,HO.lst (vs++us))\/(q∈ns/\q.1≠b)
 |_,_,_,_,_,.nil,e,_=>by simp at e
 |_,_,_,0,b,@Kids.cons _ _ xs xss b' vs ws ns r t,e,nd=>by
  V e':b'=b:=by L e
  Q e';O⟨n1,n2⟩:=dm.mp nd;R⟨xs,vs,rfl,af,r,fun{ys us} hd=>⟨(b',.lst (vs++us))::ns,.cons (r.append hd) t,rfl,λq hq=>?_⟩⟩;J bx.mp hq with z|z
  ·E .inl z
  ·E .inr ⟨ao _ z,λw=>n1 (ax.mpr ⟨q,z,w⟩)⟩
 |_,_,_,p+1,b,@Kids.cons _ _ xs0 xss b' vs0 ws ns r t,e,nd=>by
  O⟨n1,n2⟩:=dm.mp nd;O⟨xs,vs,h1,h2,h3,h4⟩:=Kids.appL (p:=p) (b:=b) t (by L e) n2;R⟨xs,vs,by L h1,ao _ h2,h3,fun{ys us} hd=>?_⟩;O⟨ns',k1,k2,k3⟩:=h4 hd;R⟨(b',.lst vs0)::ns',by K[List.set_cons_succ];E .cons r k1,by T b'::Bf ns'=b'::Bf ns;K[k2],λq hq=>?_⟩;J bx.mp hq with z|z
  ·R .inr ⟨by K[z];E af,λw=>n1 ?_⟩;K[z]at w;E ax.mpr ⟨_,h2,w.symm⟩
  ·J k3 q z with w|⟨w,w2⟩
   ·E .inl w
   ·E .inr ⟨ao _ w,w2⟩
НY8:А Zl->Zl->Б Г
 | [],_=>aB
 |a::r,k=>if a=k then aA 0 else(Y8 r k).map (· +1)
ЛKs{k:Zl}:∀{kvs:А (Zl×V)} {p:Г},Y8 (kvs.map (·.1)) k=aA p->∃v,(kvs.map (·.2))[p]? =aA v/\Qd kvs k=aA v
 | [],_,e=>by C e
 |q::r,p,e=>by
  V e:(if q.1=k then aA 0 else(Y8 (r.map (·.1)) k).map (· +1))=aA p:=e;B h:q.1=k
  ·K[Е h]at e;C e;E⟨q.2,rfl,O6 h⟩
  ·K[Д h]at e;O⟨p',e1,e2⟩:=cm.mp e;Q e2;O⟨v,h1,h2⟩:=Ks e1;E⟨v,by L h1,by K[Uq h];E h2⟩
ЛKt{k:Zl}:∀{kvs:А (Zl×V)},Y8 (kvs.map (·.1)) k=aB->Qd kvs k=aB
 | [],_=>rfl
 |q::r,e=>by
  V e:(if q.1=k then aA 0 else(Y8 (r.map (·.1)) k).map (· +1))=aB:=e;B h:q.1=k
  ·K[Е h]at e;C e
  ·K[Д h]at e;K[Uq h];E Kt (Option.map_eq_none_iff.mp e)
ЛKN.snoc{F:Hp}{kvs:А (Zl×V)}{bs:А aj}{k:Zl}{v:V}{b:aj}(h:KN F kvs bs)(hb:Q4 F k b):KN F (kvs++[(k,v)]) (bs++[b]):=by
 induction h with
 |nil=>E .cons hb .nil
 |cons r t ih=>E .cons r ih
ЛZf1{F:Hp}{ks:А Zl}{xss:А (А D)}{v:V}{ns:Zo}(h:Shape K F (.oX ks xss) v ns):∃a kvs ns' ep bs,v= .ref a/\ns=(a,.dN kvs ep bs)::ns'/\KN F kvs bs/\kvs.map (·.1)=ks/\Kids K F xss (kvs.map (·.2)) ns':=by
 cases h with
 |oX kb e r=>E⟨_,_,_,_,_,rfl,rfl,kb,e,r⟩
section
variable{Z:Ent K}{H:Hp}{σ:L2.St}{Q:VK}{E:Ends}
НKu:FE:=λδ=>aA (.tmp (.oX [] []),δ)
ЛZi9(h:Ze Z Ku σ H Q):Zfz σ H Q:=by O⟨F,δ,own,rv,δ',s,e,k⟩:=h;C e;I p hp;V f:Fin Z F H σ δ own (.oX [] []) Q:=λv H' F' ns a b c t=>k v H' F' own a b c ⟨ns,t⟩;E f.one s (.oX (kvs:=[]) .nil rfl .nil) hp
ЛR4{F:Hp}{δ:Yk}{own:Г->Zo}{i:Г}{ks:А Zl}{xss:А (А D)}(s:SR Z F H σ δ own)(e:δ[i]? =aA (aA (.oX ks xss))):∃a kvs ep bs ns',σ[i]? =aA (aA (.ref a))/\own i=(a,.dN kvs ep bs)::ns'/\H a=aA (.dN kvs ep bs)/\KN F kvs bs/\kvs.map (·.1)=ks/\Kids K F xss (kvs.map (·.2)) ns':=by O⟨x,hx,sh⟩:=s.at' i _ e;O⟨a,kvs,ns',ep,bs,rfl,en,kb,ek,kd⟩:=Zf1 sh;E⟨a,kvs,ep,bs,ns',hx,en,(s.ok i (a,.dN kvs ep bs) (by K[en];E af)).2.2,kb,ek,kd⟩
ЛZr8{F:Hp}{δ:Yk}{own:Г->Zo}{i:Г}{ks:А Zl}{xss:А (А D)}{k:Zl}{p:Г}(s:SR Z F H σ δ own)(e:δ[i]? =aA (aA (.oX ks xss)))(hp:Y8 ks k=aA p):
  ∃a kvs ep bs c vs xs,σ[i]? =aA (aA (.ref a))/\H a=aA (.dN kvs ep bs)/\kvs.length=xss.length/\Qd kvs k=aA (.ref c)/\H c=aA (.lst vs)/\xss[p]? =aA xs/\xs.length=vs.length/\F c=aB/\
   ∀(ys:А D) (us:А V),Reps K F ys us->∃own',SR Z F (Z9 H c (.lst (vs++us))) σ (δ.set i (aA (.oX ks (xss.set p (xs++ys))))) own':=by
 O⟨a,kvs,ep,bs,ns',hx,en,hH,kb,ek,kd⟩:=R4 s e;K[<-ek]at hp;O⟨v,g1,g2⟩:=Ks hp;O⟨c,rfl⟩:=kd.ref g1;V nd:=s.nod i;K[en]at nd;O⟨n1,n2⟩:=dm.mp nd;O⟨xs,vs,q1,q2,q3,q4⟩:=kd.appL g1 n2;V mb:(c,HO.lst vs)∈own i:=by K[en];E ao _ q2
 O⟨fc,_,hHc⟩:=s.ok i _ mb;R⟨a,kvs,ep,bs,c,vs,xs,hx,hH,by V :=kd.length;K[aq]at this;E this.symm,g2,hHc,q1,q3.length,fc,λys us r=>?_⟩;O⟨ns2,k1,k2,k3⟩:=q4 r;V hac:a≠c:=λz=>n1 (ax.mpr ⟨_,q2,z.symm⟩);R⟨_,s.change (sv':=.oX ks (xss.set p (xs++ys))) (o':=.lst (vs++us)) (ns':=(a,.dN kvs ep bs)::ns2) e hx mb (.oX kb ek k1) (λq hq=>?_) ?_⟩
 ·J bx.mp hq with z|z
  ·E .inr ⟨by K[en,z];E af,by K[z];E hac⟩
  ·J k3 q z with w|⟨w,w2⟩
   ·E .inl w
   ·E .inr ⟨by K[en];E ao _ w,w2⟩
 ·show(a::Bf ns2).Nodup;K[k2];E nd
ЛZr9{F:Hp}{δ:Yk}{own:Г->Zo}{i:Г}{ks:А Zl}{xss:А (А D)}{k:Zl}(s:SR Z F H σ δ own)(e:δ[i]? =aA (aA (.oX ks xss)))(hp:Y8 ks k=aB):
  ∃a kvs ep bs,σ[i]? =aA (aA (.ref a))/\H a=aA (.dN kvs ep bs)/\kvs.length=xss.length/\Qd kvs k=aB/\
   ∀(l b:aj) (ys:А D) (us:А V) (ep':Г),H l=aB->Q4 F k b->Reps K F ys us->∃own',SR Z F (Z9 (Z9 (Z9 H l (.lst [])) a (.dN (kvs++[(k,.ref l)]) ep' (bs++[b]))) l (.lst us)) σ (δ.set i (aA (.oX (ks++[k]) (xss++[ys])))) own':=by
 O⟨a,kvs,ep,bs,ns',hx,en,hH,kb,ek,kd⟩:=R4 s e;K[<-ek]at hp;V nd:=s.nod i;K[en]at nd;O⟨n1,n2⟩:=dm.mp nd;V mb:(a,HO.dN kvs ep bs)∈own i:=by K[en];E af
 R⟨a,kvs,ep,bs,hx,hH,by V :=kd.length;K[aq]at this;E this.symm,Kt hp,λl b ys us ep' hl hb r=>?_⟩;V hla:l≠a:=λz=>by K[z,hH]at hl;C hl
 V eH:Z9 (Z9 (Z9 H l (.lst [])) a (.dN (kvs++[(k,.ref l)]) ep' (bs++[b]))) l (.lst us)=Z9 (Z9 H l (.lst us)) a (.dN (kvs++[(k,.ref l)]) ep' (bs++[b])):=by
  funext c;U Z9;B h1:c=l
  ·K[Е h1];B h2:c=a
   ·E absurd (h1.symm.trans h2) hla
   ·K[Д h2,Е h1]
  ·K[Д h1];B h2:c=a
   ·K[Е h2,Е h2]
   ·K[Д h2,Д h2,Д h1,Д h1]
 K[eH];V sm:=Ws (o:=HO.lst us) hl;V s1:=s.grow sm;V t:TmpOk Z F (Z9 H l (.lst us)) own (.ol ys) (.ref l) [(l,.lst us)]:=by
  R⟨.ol r,Ix,λq hq=>?_,λj q r hq hr z=>?_⟩
  ·obtain rfl:=ar.mp hq;E⟨s.le.free hl,s.old.free hl,Z3⟩
  ·obtain rfl:=ar.mp hq;V z':l=r.1:=z;V :=(s.ok j r hr).2.2;K[<-z',hl]at this;C this
 V hb':∀p∈own i,p.1≠l:=λp hp z=>t.sep i (l,.lst us) p af hp z.symm;R⟨_,s1.changeT (o':=.dN (kvs++[(k,.ref l)]) ep' (bs++[b])) (ns':=(a,.dN (kvs++[(k,.ref l)]) ep' (bs++[b]))::(ns'++[(l,.lst us)])) t e hx mb (.oX (kb.snoc hb) (by K[b9,ek];rfl) (by K[b9];E kd.snoc r)) (λp hp=>?_) ?_⟩
 ·J bx.mp hp with z|z
  ·E .inl z
  ·J bz.mp z with z|z
   ·E .inr (.inl ⟨by K[en];E ao _ z,λw=>n1 (ax.mpr ⟨p,z,w⟩)⟩)
   ·E .inr (.inr z)
 ·show(a::(ns'++[(l,HO.lst us)]).map (·.1)).Nodup;K[b9];R dm.mpr ⟨λz=>?_,?_⟩
  ·J bz.mp z with z|z
   ·E n1 z
   ·E hb' _ mb (ar.mp z)
  ·R dq.mpr ⟨n2,Ix,λx hx y hy z=>?_⟩;O⟨p,hp,ep⟩:=ax.mp hx;V hy':y=l:=ar.mp hy;E hb' p (by K[en];E ao _ hp) (by K[ep,z,hy'])
НTq(ks:А Zl)(xss:А (А D))(k:Zl)(ys:А D):А Zl×А (А D):=match Y8 ks k with
 |some p=>(ks,xss.set p (xss.getD p []++ys))
 |none=>(ks++[k],xss++[ys])
МokX(xss:А (А D))(n:Г):Prop:=xss.length<bd/\n<bd/\∀xs∈xss,xs.length+n<bd
open Classical in
МTh(i:Г)(fk:FE)(j:Г)(ext:Bool):FS:=λδ=>match δ[i]? with
 |some (aA (.oX _ _))=>(fk δ).bind λp=>(frz p.1 p.2).bind λq=>(nk? q.1).bind λk=>match q.2[i]?,q.2[j]? with
  |some (aA (.oX ks xss)),aA (aA (.fz d))=>(if ext=aC then(match d with| .lst ys=>aA ys|_=>aB)else aA [d]).bind λys=>if okX xss ys.length then aA (.nx (q.2.set i (aA (.oX (Tq ks xss k ys).1 (Tq ks xss k ys).2))))else aB
  |_,_=>aB
 |_=>aB
ЛZak{i j:Г}{fk:FE}{ext:Bool}(h:Z5 Z (Th i fk j ext) E σ H):Hu (tBM K "list" (if ext=aC then Zai K else Bk) (Zle (Bg i) (Ze Z fk) (Zhn Pq)) (Rm (Bg j) Pq)) E σ H:=by
 O⟨F,δ,own,fl,s,e,k⟩:=h;U Th at e;split at e
 ·rename_i ks0 xss0 hi0;O⟨⟨rv,δ1⟩,e1,e⟩:=aa.mp e;O⟨⟨kd,δ2⟩,e2,e⟩:=aa.mp e;O⟨kk,e3,e⟩:=aa.mp e;dsimp only at e2 e3 e;split at e
  ·rename_i ks xss d hi hj;O⟨ys,e4,e⟩:=aa.mp e;split at e
   ·rename_i hok;C e;O⟨a,kvs0,ep0,bs0,ns0,hx0,en0,hH0,_⟩:=R4 s hi0;R⟨.ref a,hx0,a,rfl,⟨_,_,_,hH0⟩,F,δ,own,rv,δ1,s,e1,λv H1 F1 own1 sH sF s1 r1=>?_⟩;O⟨F2,sF2,s2,r2⟩:=s1.settleR r1;O⟨F3,own3,sF3,s3,r3⟩:=s2.frzR r2 e2;K[Zfu e3]at r3;O⟨b,rfl,hb⟩:=R3 r3;O⟨y,hy,shy⟩:=s3.at' j _ hj;V ry:=Jp shy;V hus:∃us,Reps K F3 ys us/\(∀{c:aj} {vs:А V} {H4:Hp} {Q:VK},Zi F3 H4->H4 c=aA (.lst vs)->F3 c=aB->vs.length+ys.length<bd->Q .non (Z9 H4 c (.lst (vs++us)))->(if ext=aC then Zai K else Bk) (.ref c) [y] H4 Q):=by
     cases ext with
     |false=>
      obtain rfl:[d]=ys:=by L e4
      R⟨[y],.cons ry .nil,fun{c vs H4 Q} le hc hf hz q=>?_⟩;E⟨c,vs,y,rfl,rfl,hc,by simpa using(by simp at hz;W:vs.length<bd),q⟩
     |true=>
      simp only[if_true]at e4;split at e4
      ·rename_i zs;C e4;cases ry with
       | @lst l _ us hl _ ru=>R⟨us,ru,fun{c vs H4 Q} le hc hf hz q=>?_⟩;E⟨c,l,vs,us,rfl,rfl,hc,Wb le hl,by K[<-ru.length];W,q⟩
      ·C e4
    O⟨us,ru,step⟩:=hus;V lu:=ru.length;V sFt:=sF.trans (sF2.trans sF3);R⟨f7 _,λl hl=>?_⟩;V sml:=Ws (o:=HO.lst []) hl;cases hp:Y8 ks kk with
    |some p=>
     O⟨a',kvs,ep,bs,c,vs,xs,hx,hH,hlen,hv,hHc,q1,q2,fc,q3⟩:=Zr8 (s3.grow sml) hi hp;K[hx0]at hx;C hx;V hxs:=b5 q1;V hz:=hok.2.2 xs hxs;R⟨kvs,ep,bs,kk,b,rfl,hH,hb.mono λ_ _ q=>(s3.grow sml).le _ _ q,by K[hlen];E hok.1,.inl ⟨.ref c,hv,.inl ⟨rfl,vs,.inl (.inl hHc)⟩,y,hy,?_⟩⟩;R step (s3.grow sml).le hHc fc И ?_;O⟨own',sr⟩:=q3 ys us ru;R k σ _ F3 own' sFt ?_;V :Tq ks xss kk ys=(ks,xss.set p (xs++ys)):=by
      U Tq;K[hp];V :xss.getD p []=xs:=by K[bn,q1];rfl
      show(ks,xss.set p (xss.getD p []++ys))=_;K[this]
     K[this];E sr
    |none=>
     O⟨a',kvs,ep,bs,hx,hH,hlen,hv,q3⟩:=Zr9 s3 hi hp;K[hx0]at hx;C hx;V hH':(Z9 H1 l (.lst [])) a=aA (.dN kvs ep bs):=sml _ _ hH;R⟨kvs,ep,bs,kk,b,rfl,hH',hb.mono λ_ _ q=>(s3.grow sml).le _ _ q,by K[hlen];E hok.1,.inr ⟨hv,λep'=>?_⟩⟩;V hla:l≠a:=λz=>by K[z,hH]at hl;C hl
     V hHl:(Z9 (Z9 H1 l (.lst [])) a (.dN (kvs++[(kk,.ref l)]) ep' (bs++[b]))) l=aA (.lst []):=by K[Zw hla,Z3]
     V leN:Zi F3 (Z9 (Z9 H1 l (.lst [])) a (.dN (kvs++[(kk,.ref l)]) ep' (bs++[b]))):=λc u ec=>by
      V hca:c≠a:=λz=>by O⟨a2,kvs2,ep2,bs2,ns2,hx2,en2,_⟩:=R4 s3 hi;K[hx0]at hx2;C hx2;V :=(s3.ok i (a,.dN kvs2 ep2 bs2) (by K[en2];E af)).1;K[z,this]at ec;C ec
      K[Zw hca];E(s3.grow sml).le _ _ ec
     R⟨.inl ⟨rfl,[],.inl (.inl hHl)⟩,y,hy,?_⟩;R step (vs:=[]) leN hHl (s3.le.free hl) (by V h1:=hok.2.1;L h1) ?_;O⟨own',sr⟩:=q3 l b ys us ep' hl hb ru;R k σ _ F3 own' sFt ?_;V :Tq ks xss kk ys=(ks++[kk],xss++[ys]):=by U Tq;K[hp]
     K[this];E sr
   ·C e
  ·C e
 ·C e
end
section
variable{X:Cx}{Z:Ent X.K}{a b c:cj}{fa fb fc:FE}{pos:Pos}
ЛZal:PE X (.Dict [] [] pos) (Ze Z Ku):=Zf0.imp λ_ _ _ h=>Zi9 h
ЛZja(i j:Г){x y:Str}{k:cj}{fk:FE}{px py p2 ap1 cp1 apos cpos:Pos}(hu:X.A.units+64<f6)(hk:PE X k (Ze Z fk))(hN:X.N[i]? =aA x:=by rfl)(hv:Vs X.env.scope x:=by first|E Or.inl rfl|E gg (Or.inl rfl)|E gg (gg rfl))(hd:(x==("__debug__":Str))=aD:=by decide)(hcd:(x==("__classdict__":Str))=aD:=by decide)
  (hN':X.N[j]? =aA y:=by rfl) (hv':Vs X.env.scope y:=by first|E Or.inl rfl|E gg (Or.inl rfl)|E gg (gg rfl)) (hd':(y==("__debug__":Str))=aD:=by decide) (hcd':(y==("__classdict__":Str))=aD:=by decide)
  (m:M2 X (.Name x px) "setdefault" ap1 k (.List [] p2) cp1:=by E⟨rfl,rfl,rfl,rfl⟩)
  (hbase:attributeBase (.Call (.Attribute (.Name x px) "setdefault" ap1) [k,.List [] p2] [] cp1) "append" X.env (gq (.Call (.Attribute (.Name x px) "setdefault" ap1) [k,.List [] p2] [] cp1) X.env)=gq (.Call (.Attribute (.Name x px) "setdefault" ap1) [k,.List [] p2] [] cp1) X.env:=by rfl)
  (hfew:((gr cpos (a9 [.Name y py] X.env)).all (λx=>!x.1)&&(backToKw cpos (keywordEach [] X.env)).all (λx=>x.1.isSome)&&decide ([Expr.Name y py].length+([]:А Keyword).length+(if([]:А Keyword).isEmpty then 0 else 1)<30))=aC:=by rfl)
  (hline:(apos.endLine==cpos.line)=aC:=by rfl) (hs:a9 [.Name y py] X.env=(aD,gq (.Name y py) X.env)::a9 [] X.env:=by rfl) (hpl:(gr cpos (a9 [] X.env)).any (·.1)=aD:=by rfl) (hsw:swapsWith (.Call (.Attribute (.Call (.Attribute (.Name x px) "setdefault" ap1) [k,.List [] p2] [] cp1) "append" apos) [.Name y py] [] cpos) aB pos.line X.env=pure aD:=by rfl):
  PS X (.Expr (.Call (.Attribute (.Call (.Attribute (.Name x px) "setdefault" ap1) [k,.List [] p2] [] cp1) "append" apos) [.Name y py] [] cpos) pos) (Z5 Z (Th i fk j aD)):=
 (Tt (Hz PySem.F.plainAttrs_list PySem.F.slot_list_append PySem.F.type_list_append Mg (Zah И (Jy (i:=i) hN hv hd hcd) hk (Ln Bj) m) (Jf (Jy (i:=j) hN' hv' hd' hcd') Bj hs) hbase hfew hline hs hpl) hsw).imp λ_ _ _ h=>Zak (ext:=aD) h
ЛZjb(i j:Г){x y:Str}{k:cj}{fk:FE}{px py p2 ap1 cp1 apos cpos:Pos}(hu:X.A.units+64<f6)(hk:PE X k (Ze Z fk))(hN:X.N[i]? =aA x:=by rfl)(hv:Vs X.env.scope x:=by first|E Or.inl rfl|E gg (Or.inl rfl)|E gg (gg rfl))(hd:(x==("__debug__":Str))=aD:=by decide)(hcd:(x==("__classdict__":Str))=aD:=by decide)
  (hN':X.N[j]? =aA y:=by rfl) (hv':Vs X.env.scope y:=by first|E Or.inl rfl|E gg (Or.inl rfl)|E gg (gg rfl)) (hd':(y==("__debug__":Str))=aD:=by decide) (hcd':(y==("__classdict__":Str))=aD:=by decide)
  (m:M2 X (.Name x px) "setdefault" ap1 k (.List [] p2) cp1:=by E⟨rfl,rfl,rfl,rfl⟩)
  (hbase:attributeBase (.Call (.Attribute (.Name x px) "setdefault" ap1) [k,.List [] p2] [] cp1) "extend" X.env (gq (.Call (.Attribute (.Name x px) "setdefault" ap1) [k,.List [] p2] [] cp1) X.env)=gq (.Call (.Attribute (.Name x px) "setdefault" ap1) [k,.List [] p2] [] cp1) X.env:=by rfl)
  (hfew:((gr cpos (a9 [.Name y py] X.env)).all (λx=>!x.1)&&(backToKw cpos (keywordEach [] X.env)).all (λx=>x.1.isSome)&&decide ([Expr.Name y py].length+([]:А Keyword).length+(if([]:А Keyword).isEmpty then 0 else 1)<30))=aC:=by rfl)
  (hline:(apos.endLine==cpos.line)=aC:=by rfl) (hs:a9 [.Name y py] X.env=(aD,gq (.Name y py) X.env)::a9 [] X.env:=by rfl) (hpl:(gr cpos (a9 [] X.env)).any (·.1)=aD:=by rfl) (hsw:swapsWith (.Call (.Attribute (.Call (.Attribute (.Name x px) "setdefault" ap1) [k,.List [] p2] [] cp1) "extend" apos) [.Name y py] [] cpos) aB pos.line X.env=pure aD:=by rfl):
  PS X (.Expr (.Call (.Attribute (.Call (.Attribute (.Name x px) "setdefault" ap1) [k,.List [] p2] [] cp1) "extend" apos) [.Name y py] [] cpos) pos) (Z5 Z (Th i fk j aC)):=
 (Tt (Hz PySem.F.plainAttrs_list PySem.F.slot_list_extend PySem.F.type_list_extend Zaj (Zah И (Jy (i:=i) hN hv hd hcd) hk (Ln Bj) m) (Jf (Jy (i:=j) hN' hv' hd' hcd') Bj hs) hbase hfew hline hs hpl) hsw).imp λ_ _ _ h=>Zak (ext:=aC) h
end
end DL
namespace L2
open PySem PySem.Spec PySem.Calls PyProof.Rows
МZsb:V->V->Hp->VK->Prop:=λx y H Q=>∃a b kvs ep bs k v,x= .ref a/\y= .ref b/\H a=aA (.dN kvs ep bs)/\Q4 H k b/\Qd kvs k=aA v/\Q v H
МItn(a:aj)(n ep:Г):It:=
 ⟨λi H=>∃kvs bs,H a=aA (.dN kvs ep bs)/\kvs.length=n/\i<n,λi H x H'=>H'=H/\∃kvs bs b,H a=aA (.dN kvs ep bs)/\bs[i]? =aA b/\x= .ref b,λi H=>∃kvs bs,H a=aA (.dN kvs ep bs)/\kvs.length=n/\n<=i⟩
ЛZjc{P:b6}{w:c7}{K:ad}{tg:cj}(a it:aj)(n ep:Г):Turn P w K tg (Itn a n ep) [it] it (λi h=>h.IsKeyIter it a i n ep)where
 mem:=af
 obj:=(Bp (P:=P) (w:=w) (K:=K) (tg:=tg) a it n ep).obj
 keep:=(Bp (P:=P) (w:=w) (K:=K) (tg:=tg) a it n ep).keep
 item:=by
  I X hP hw hK hc i pins s σ H E I hf st hg;subst hP hw hK;O⟨kvs,bs,hq,hn,hi⟩:=hg;O⟨z,hd,xs,rel,od,es,g,x,c,en,nd,hbs⟩:=(show Yj X.prog X.w H s.heap a (.dN kvs ep bs)from I.hok a _ hq)
  O⟨f0,f1,f2,f3,f4,f5⟩:=hf it af;V hkv:kvs[i]? =aA (kvs[i]'И):=av И;O⟨vv,hv,hr⟩:=Uo rel hkv;V hz:es.size=n:=by K[<-ay,en,aq,<-ig rel,hn]
  V he:es[i]? =aA (entryOfKey (Fj X.prog X.w) vv):=by K[<-c9,en,az,hv];rfl
  R Ax st g c hz he λh' st' sb=>?_;V I1:Inv X pins σ H {s with heap:=h'}:=I.turned (t':=s.toks) (λb o hb e=>(sb.2 b hb).trans e) f0 f1 f3 f4 f5;O⟨o,e1,c1,d1⟩:=id st';E⟨.ref vv.2.1,rfl,Ab (s:={s with heap:=h'}) e1 c1 d1 Й ⟨.ref vv.2.1,H,I1,rfl,⟨rfl,kvs,bs,vv.2.1,hq,by K[<-hbs,az,hv];rfl,rfl⟩,st',λb hb=>(hf b hb).1⟩⟩
 done:=by
  I X hP hw hK hc i pins s σ H E I hf st hg;subst hP hw hK;O⟨kvs,bs,hq,hn,hi⟩:=hg;O⟨z,hd,xs,rel,od,es,g,x,c,en,nd,hbs⟩:=(show Yj X.prog X.w H s.heap a (.dN kvs ep bs)from I.hok a _ hq)
  O⟨f0,f1,f2,f3,f4,f5⟩:=hf it af;V hz:es.size=n:=by K[<-ay,en,aq,<-ig rel,hn]
  E Ay (I.ok.hd hc) st g c hz hi λh' eb=>⟨rfl,I.turned (t':=s.toks) (λb o hb e=>eb b o hb e) f0 f1 f3 f4 f5⟩
 self:=(Bp (P:=P) (w:=w) (K:=K) (tg:=tg) a it n ep).self
section
variable{X:Cx}{tg:cj}
МZlg(tl:TE):TI:=λσ H R=>tl σ H λx H1=>∃a kvs ep bs,x= .ref a/\H1 a=aA (.dN kvs ep bs)/\R (Itn a kvs.length ep) H1
ЛZjd{l:cj}{tl:TE}(hl:PE X l tl):PI X tg l (Zlg tl):=by
 I pins s σ H R I h;R Wp (hl pins s σ H _ I h) λv s1 zq9=>?_;O⟨x,H1,I1,r1,q1⟩:=zq9;O⟨a,kvs,ep,bs,rfl,hq,q⟩:=q1;C r1;O⟨z,hd,xs,rel,od,es,g,x,c,en,nd,hbs⟩:=(show Yj X.prog X.w H1 s1.heap a (.dN kvs ep bs)from I1.hok a _ hq)
 V hz:es.size=kvs.length:=by K[<-ay,en,aq,<-ig rel]
 R Aw hd g x c ⟨s1.heap.objs.size,[s1.heap.objs.size],_,_,H1,rfl,I1.kept (t':=s1.toks) λb o e=>au _ e,Zjc a _ kvs.length ep,⟨_,bp _ rfl,rfl,by K[hz];rfl⟩,λb hb=>?_,q⟩;obtain rfl:=ar.mp hb;E I1.fpOk (ba _) (I1.hok.fresh (ba _))
end
end L2
namespace DL
open PySem PySem.Spec PyProof.Rows L2 TT
variable{K:ad}
ЛZcc{F:Hp}{a:aj}{kvs:А (Zl×V)}{ep:Г}{bs:А aj}(h:F a=aA (.dN kvs ep bs))(kb:KN F kvs bs):Oq K (Itn a kvs.length ep) F ((kvs.map (·.1)).map Zn):=λF' H sF sH i=>by V q:H a=aA (.dN kvs ep bs):=sH _ _ (sF _ _ h);R⟨λd hd=>?_,λhl=>⟨kvs,bs,q,rfl,by L hl⟩⟩;K[cg,az]at hd;O⟨kv,h1,h2⟩:=cm.mp hd;R⟨⟨kvs,bs,q,rfl,(a8.mp h1).1⟩,λx H' ⟨e1,kvs',bs',b,e2,e3,e4⟩=>?_⟩;Q e1;K[q]at e2;C e2;Q e4;O⟨b',g1,g2⟩:=Uo (kb.mono sF) h1;K[e3]at g1;C g1;K[<-h2];E⟨Zi.refl _,[],df,λ_ h=>(nomatch h),Cn g2⟩
ЛYi.dX{F H:Hp}{ks:А Zl}{ds:А D}{v:V}(le:Zi F H)(h:Yi K F H (.dX ks ds) v):∃a kvs ep bs,v= .ref a/\H a=aA (.dN kvs ep bs)/\kvs.map (·.1)=ks/\Reps K F ds (kvs.map (·.2)):=by
 O⟨sv,ns,e,n,sh,hp⟩:=h;cases sh with
 |fz r=>C e;cases r with|dX h kb e r=>E⟨_,_,_,_,rfl,le _ _ h,e,r⟩
 |ol r=>C e
 |oK e' r=>C e
 |oT kb e' r=>C e
 |oN e' r=>C n
 |oX kb' e' r=>C n
 |oD r=>C n
 |oL _ r=>C n
 |oQ e' r=>C e
ЛYi.nk{F H:Hp}{d:D}{k:Zl}{v:V}(le:Zi F H)(e0:nk? d=aA k)(h:Yi K F H d v):∃b,v= .ref b/\Q4 H k b:=by
 K[Zfu e0]at h;O⟨sv,ns,e,n,sh,hp⟩:=h;V nt:∀{xs:А D},Zn k≠.lst xs:=fun{xs} z=>by cases k<;> C z
 V nd:∀{ks:А Key} {xs:А D},Zn k≠.dK ks xs:=fun{ks xs} z=>by cases k<;> C z
 V ndt:∀{ks:А (А Key)} {xs:А D},Zn k≠.dT ks xs:=fun{ks xs} z=>by cases k<;> C z
 cases sh with
 |fz r=>have e:_=Zn k:=e;simp only[SV.toD]at e;Q e;O⟨b,rfl,hb⟩:=R3 r;E⟨b,rfl,hb.mono λ_ _ q=>le _ _ q⟩
 |ol r=>E absurd e.symm nt
 |oK e' r=>E absurd e.symm nd
 |oT kb e' r=>E absurd e.symm ndt
 |oN e' r=>C n
 |oX kb' e' r=>C n
 |oD r=>C n
 |oL _ r=>C n
 |oQ e' r=>E absurd e.symm nd
section
variable{Z:Ent K}{H:Hp}{σ:L2.St}{Q:VK}{E:Ends}
НZf2(fe:FE):FD:=λδ=>(fe δ).bind λp=>(frz p.1 p.2).bind λq=>match q.1 with
 | .dX ks _=>aA (ks.map Zn,q.2)
 |_=>aB
ЛZje{fe:FE}{R:It->Hp->В}(h:Qm Z (Zf2 fe) σ H R):Zlg (Ze Z fe) σ H R:=by
 O⟨F,δ,own,ds,δ',s,e,k⟩:=h;O⟨⟨rv,δ1⟩,e1,e2⟩:=aa.mp e;O⟨⟨d,δ2⟩,e3,e4⟩:=aa.mp e2;R⟨F,δ,own,rv,δ1,s,e1,λv H1 F1 own1 sH sF s1 r1=>?_⟩;O⟨F2,sF2,s2,r2⟩:=s1.settleR r1;O⟨F3,own3,sF3,s3,r3⟩:=s2.frzR r2 e3;dsimp only at e4;split at e4
 ·C e4;cases r3 with
  |dX h kb e r=>Q e;E⟨_,_,_,_,rfl,s3.le _ _ h,k _ H1 F3 own3 sH (sF.trans (sF2.trans sF3)) s3 (Zcc h kb)⟩
 ·C e4
НZf3(d1 d2:D):Б SV:=match d1 with
 | .dX ks vs=>(nk? d2).bind λk=>(look ks vs k).bind λd=>aA (.fz d)
 |_=>aB
ЛZsc:Y7 Z Zsb Zf3:=by
 I F H σ δ own x y d1 d2 sv Q s r1 r2 e k;U Zf3 at e;split at e
 ·rename_i ks vs;O⟨kk,e1,e2⟩:=aa.mp e;O⟨d,e3,e4⟩:=aa.mp e2;C e4;O⟨a,kvs,ep,bs,rfl,ha,rfl,rr⟩:=r1.dX s.le;O⟨b,rfl,hb⟩:=r2.nk s.le e1;V z:=Tx kk kvs _ rr;K[e3]at z;O⟨v,z1,z2⟩:=z;E⟨a,b,kvs,ep,bs,kk,v,rfl,rfl,ha,hb,z1,k.fz s z2⟩
 ·C e
НEm(i:Г)(fe:FE):FS:=λδ=>match δ[i]? with
 |some (aA (.ol _))=>(fe δ).bind λp=>(frz p.1 p.2).bind λq=>match q.1,q.2[i]? with
  | .lst ys,aA (aA (.ol xs))=>if xs.length+ys.length<=bd then aA (.nx (q.2.set i (aA (.ol (xs++ys)))))else aB
  |_,_=>aB
 |_=>aB
ЛZnz{i:Г}{fe:FE}(h:Z5 Z (Em i fe) E σ H):Hu (tBM K "list" (Zai K) (Bg i) (Rm (Ze Z fe) Pq)) E σ H:=by
 O⟨F,δ,own,fl,s,e,k⟩:=h;U Em at e;split at e
 ·rename_i xs0 hx0;O⟨⟨rv,δ1⟩,e1,e2⟩:=aa.mp e;O⟨⟨d,δ2⟩,e3,e4⟩:=aa.mp e2;O⟨v,hv,sh⟩:=s.at' i _ hx0;O⟨a,vs0,ev,en,r0⟩:=Jr sh;R⟨v,hv,?_,F,δ,own,rv,δ1,s,e1,λy H1 F1 own1 sH sF s1 r1=>?_⟩
  ·Q ev;E .inl ⟨rfl,vs0,.inl (.inl (s.ok i (a,.lst vs0) (by K[en];E af)).2.2)⟩
  O⟨F2,sF2,s2,r2⟩:=s1.settleR r1;O⟨F3,own3,sF3,s3,r3⟩:=s2.frzR r2 e3;dsimp only at e4;split at e4
  ·rename_i ys xs hx;B hz:xs.length+ys.length<=bd
   ·K[Е hz]at e4;C e4;O⟨v',hv',sh'⟩:=s3.at' i _ hx;K[hv]at hv';C hv';O⟨b,vs,eb,en',r'⟩:=Jr sh';V mb:(b,HO.lst vs)∈own3 i:=by K[en'];E af
    Q eb;cases r3 with
    | @lst l _ us hl _ ru=>R⟨b,l,vs,us,rfl,rfl,(s3.ok i _ mb).2.2,Wb s3.le hl,by K[<-r'.length,<-ru.length];E hz,?_⟩;E k σ _ F3 _ (sF.trans (sF2.trans sF3)) (s3.change (sv':=.ol (xs++ys)) (o':=.lst (vs++us)) (ns':=[(b,.lst (vs++us))]) hx hv mb (.ol (r'.append ru)) (λp hp=>.inl (ar.mp hp)) Ix)
   ·K[Д hz]at e4;C e4
  ·C e4
 ·C e
НNx(j ia il:Г):FS:=λδ=>match δ[ia]?,δ[il]? with
 |some (aA (.fz (.lst hs))),aA (aA (.ol xs))=>(xs[xs.length- 1]?).bind λd=>(ixD (.lst hs) d).bind λsv=>(stow j (.tmp sv) (δ.set il (aA (.ol xs.dropLast)))).bind λδ'=>aA (.nx δ')
 |_,_=>aB
ЛReps.dropLast{F:Hp}{ds:А D}{vs:А V}(r:Reps K F ds vs):Reps K F ds.dropLast vs.dropLast:=by K[List.dropLast_eq_take,List.dropLast_eq_take,<-r.length];E r.take _
ЛZjf{j ia il:Г}(h:Z5 Z (Nx j ia il) E σ H):Vx (tOp (rIx K) (Bg ia) (Zps K "list" Zpt (Bg il))) (Aa j) E σ H:=by
 O⟨F,δ,own,fl,s,e,k⟩:=h;U Nx at e;split at e
 ·rename_i hs xs hia hil;O⟨d,e1,e⟩:=aa.mp e;O⟨sv,e2,e⟩:=aa.mp e;O⟨δ2,e3,e⟩:=aa.mp e;C e;O⟨x,hx,shx⟩:=s.at' ia _ hia;V rx:=Jp shx;O⟨y,hy,shy⟩:=s.at' il _ hil;O⟨a,vs,ea,en,ra⟩:=Jr shy;Q ea;V mb:(a,HO.lst vs)∈own il:=by K[en];E af
  V hHa:=(s.ok il _ mb).2.2;O⟨v,hv,rv⟩:=ra.get e1;V hl:=ra.length;R⟨x,hx,.ref a,hy,.inl ⟨rfl,vs,.inl (.inl hHa)⟩,a,vs,v,rfl,rfl,hHa,by K[<-hl];E hv,?_⟩;V s2:=s.change (sv':=.ol xs.dropLast) (o':=.lst vs.dropLast) (ns':=[(a,.lst vs.dropLast)]) hil hy mb (.ol ra.dropLast) (λp hp=>.inl (ar.mp hp)) Ix;R Zqm F _ σ _ _ x v (.lst hs) d sv _ s2 (Yi.of rx) (Yi.of rv) e2 λw H3 F3 ns sH sF s3 t3=>?_;O⟨F4,own4,sF4,s4⟩:=s3.stow (rv:=.tmp sv) (v:=w) ⟨ns,t3⟩ e3;E k _ H3 F4 own4 (sF.trans sF4) s4
 ·C e
НZam(j:Г)(f1:FE):FE:=λδ=>match δ[j]? with
 |some (aA (.fz kd))=>kd.key?.bind λk=>(Zh f1 Zs δ).bind λp=>match p.1 with
  | [v1]=>aA (.tmp (.oK [k] [v1]),p.2)
  |_=>aB
 |_=>aB
ЛZjg{f1:FE}{j:Г}(h:Ze Z (Zam j f1) σ H Q):Ze1 [(Bg j,Ze Z f1)] σ H Q:=by
 O⟨F,δ,own,rv,δ',s,e,k⟩:=h;U Zam at e;split at e
 ·rename_i kd hx;O⟨kk,e0,e⟩:=aa.mp e;O⟨⟨ds,δ1⟩,e1,e2⟩:=aa.mp e;dsimp only at e2;split at e2
  ·rename_i v1;C e2;O⟨v,hv,sh⟩:=s.at' j _ hx;V r:=Jp sh;V ev:v=kV kk:=Dj e0 r;V hd:Qu Z (Zh f1 Zs) σ H (λvs H'=>∃kvs:А (Key×V),([kV kk].zip vs)=kvs.map (λkv=>(kV kv.1,kv.2))/\kvs.length<=15/\∀p ep,H' p=aB->Q (.ref p) (Z9 H' p (.dK (On [] kvs) ep))):=by
    R⟨F,δ,own,[v1],_,s,e1,λvs H1 F1 own1 sH sF s1 r1=>?_⟩;obtain⟨w1,rfl⟩:∃w1,vs=[w1]:=by
     cases r1 with
     |cons h t=>C t;E⟨_,rfl⟩
    R⟨[(kk,w1)],rfl,by T 1<=15;decide,λp ep hp=>?_⟩;V nd:((([]:А (Key×V))++[(kk,w1)]).map (·.1)).Nodup:=by simp
    K[Ke _ [] nd,d7];E Fin.one (λw H' F' ns a b c t=>k w H' F' own1 (sH.trans a) (sF.trans b) c ⟨ns,t⟩) s1 (.oK rfl r1) hp
   V h2:=An (fe:=f1) (fd:=Zs) hd;R⟨v,hv,?_⟩;K[ev];R Xs (λu H1 q=>?_) h2;V z:=Fw q;E z
  ·C e2
 ·C e
end
section
variable{X:Cx}{Z:Ent X.K}{a b c:cj}{fa fb fc:FE}{pos:Pos}
ЛZn0{tg:cj}(ha:PE X a (Ze Z fa)):PI X tg a (Qm Z (Zf2 fa)):=λpins s σ H R I h=>Zjd ha pins s σ H R I (Zje h)
ЛZlh(hu:X.A.units+64<f6)(ha:PE X a (Ze Z fa))(hb:PE X b (Ze Z fb))(hs:Tu b:=by I _ _;rfl):PE X (.Subscript a b pos) (Ze Z (Zm Zf3 fa fb)):=λpins s σ H Q I h=>Zi7 И ha hb hs pins s σ H Q I (Fv Zsc h)
ЛNy(i:Г){x:Str}{px apos cpos:Pos}(hb:PE X b (Ze Z fb))(hN:X.N[i]? =aA x:=by rfl)(hv:Vs X.env.scope x:=by first|E Or.inl rfl|E gg (Or.inl rfl)|E gg (gg rfl))(hd:(x==("__debug__":Str))=aD:=by decide)
  (hcd:(x==("__classdict__":Str))=aD:=by decide) (hbase:attributeBase (.Name x px) "extend" X.env (gq (.Name x px) X.env)=gq (.Name x px) X.env:=by rfl)
  (hfew:((gr cpos (a9 [b] X.env)).all (λx=>!x.1)&&(backToKw cpos (keywordEach [] X.env)).all (λx=>x.1.isSome)&&decide ([b].length+([]:А Keyword).length+(if([]:А Keyword).isEmpty then 0 else 1)<30))=aC:=by rfl)
  (hline:(apos.endLine==cpos.line)=aC:=by rfl) (hs:a9 [b] X.env=(aD,gq b X.env)::a9 [] X.env:=by rfl) (hpl:(gr cpos (a9 [] X.env)).any (·.1)=aD:=by rfl) (hsw:swapsWith (.Call (.Attribute (.Name x px) "extend" apos) [b] [] cpos) aB pos.line X.env=pure aD:=by rfl):
  PS X (.Expr (.Call (.Attribute (.Name x px) "extend" apos) [b] [] cpos) pos) (Z5 Z (Em i fb)):=
 (Tt (Hz PySem.F.plainAttrs_list PySem.F.slot_list_extend PySem.F.type_list_extend Zaj (Jy (i:=i) hN hv hd hcd) (Jf hb Bj hs) hbase hfew hline hs hpl) hsw).imp λ_ _ _ h=>Znz h
ЛZjh(j ia il:Г){x y z:Str}{py pz apos cpos p1 p2:Pos}(hn:X.N.Nodup)(hy:PE X (.Name y py) (Bg ia))(hz:PE X (.Name z pz) (Bg il))(hj:X.N[j]? =aA x:=by rfl)(hl:Loc X.env.scope x:=by first|E Or.inl rfl|E gg rfl)
  (hbase:attributeBase (.Name z pz) "pop" X.env (gq (.Name z pz) X.env)=gq (.Name z pz) X.env:=by rfl) (hline:(apos.endLine==cpos.line)=aC:=by rfl)
  (hs:swapsWith (.Subscript (.Name y py) (.Call (.Attribute (.Name z pz) "pop" apos) [] [] cpos) p2) (aA (.Name x p1)) pos.line X.env=pure aD:=by rfl) (hf:X.fn x=aC\/X.env.scope.names.lookup x=aA .local:=by first|E .inl rfl|E .inr rfl):
  PS X (.Assign [.Name x p1] (.Subscript (.Name y py) (.Call (.Attribute (.Name z pz) "pop" apos) [] [] cpos) p2) pos) (Z5 Z (Nx j ia il)):=
 (Zc5 hn hj hl (Zdf Zdg hy (Zmf PySem.F.plainAttrs_list PySem.F.slot_list_pop PySem.F.type_list_pop Zmg hz hbase hline) (by I _ _;rfl)) hs hf).imp λ_ _ _ h=>Zjf h
ЛZji(j:Г){x:Str}{p2:Pos}(hb:PE X b (Ze Z fb))(hN:X.N[j]? =aA x:=by rfl)(hv:Vs X.env.scope x:=by first|E Or.inl rfl|E gg (Or.inl rfl)|E gg (gg rfl))(hd:(x==("__debug__":Str))=aD:=by decide)
  (hcd:(x==("__classdict__":Str))=aD:=by decide):PE X (.Dict [aA (.Name x p2)] [b] pos) (Ze Z (Zam j fb)):=
 (Ze2 (Zdq (Jy (i:=j) hN hv hd hcd) hb Zhv) З З К (by T 1<=15;decide)).imp λ_ _ _ h=>Zjg h
end
end DL
namespace L2
open PySem PySem.Spec PySem.Calls PyProof.Rows DL TX
section
variable{X:Cx}
МZw0(_:ad):А V->Hp->VK->Prop:=λvs H Q=>∃a kvs ep ss,vs=[.ref a]/\H a=aA (.dK kvs ep)/\kvs.map (·.1)=ss.map d3/\ss.length<64/\∀q,H q=aB->Q (.ref q) (Z9 H q (.lst ((Zi2 ss).map V.str)))
end
end L2
namespace DL
open PySem PySem.Spec PySem.Calls PyProof.Rows L2 TX
variable{K:ad}
Мtxk?:А Key->Б (А Str)
 | []=>aA []
 | .inr x::r=>(txk? r).bind λl=>aA (x::l)
 | .inl _::_=>aB
@[simp] theorem Zjj:∀ss:А Str,txk? (ss.map d3)=some ss
 | []=>rfl
 |s::ss=>by K[bc,txk?,Zjj ss];rfl
МZw1:А D->Б SV
 | [.dK ks _]=>(txk? ks).bind λss=>if ss.length<64 then aA (.ol ((Zi2 ss).map D.str))else aB
 |_=>aB
end DL
namespace DL
open PySem PySem.Spec PyProof.Rows L2 TT
variable{K:ad}
open Classical in
Мres(S:aj->В)(F:Hp):Hp:=λb=>if S b then F b else aB
inductive AR:D->В where
 |non:AR .non
 |bl (b:Bool):AR (.bl b)
 |int (i:Int):AR (.int i)
 |str (x:Str):AR (.str x)
 |tup {xs:А D} (h:∀d∈xs,AR d):AR (.tup xs)
 |dK {ks:А Key} {vs:А D} (h:∀d∈vs,AR d):AR (.dK ks vs)
 |txs {ss:А Str} (h:ss≠[]):AR (.lst (ss.map D.str))
 |lsts {xss:А (А Str)} (h:∀ss∈xss,ss≠[]):AR (.lst (xss.map λss=>.lst (ss.map D.str)))
МZn1(F:Hp)(b:aj):Prop:=∀t rest,F b=aA (.lst (.ref t::rest))->∃us,F t=aA (.lst us)
МCut(K:ad)(F:Hp)(d:D):Prop:=∀v,Rep K F d v->∃S:aj->В,Rep K (res S F) d v/\∀b,S b->Zn1 F b
МFlV(G:Hp)(u:V):Prop:=∃t l,u= .ref t/\G t=aA (.tup ((Gj l).map kV))
МMt(G:Hp)(b:aj):Prop:=∃t rest x ws,G b=aA (.lst (.ref t::rest))/\G t=aA (.tup (.str x::ws))
МChg(B:Г)(G G':Hp):Prop:=∀b o,G b=aA o->G' b=aA o\/(Mt G b/\∃us,G' b=aA (.lst us)/\us.length<=B/\∀u∈us,FlV G' u)
inductive PlD:D->В where
 |non:PlD .non
 |bl (b:Bool):PlD (.bl b)
 |int (i:Int):PlD (.int i)
 |str (x:Str):PlD (.str x)
 |tup {xs:А D} (h:∀d∈xs,PlD d):PlD (.tup xs)
 |lst {xs:А D} (h:∀d∈xs,PlD d):PlD (.lst xs)
МZ1i(K:ad)(G G':Hp)(d:D):Prop:=∀v,Rep K G d v->∃d',Rep K G' d' v/\((∃xs,d= .lst xs)->∃xs',d'= .lst xs')
МFlL(m:Г)(xs:А D):Prop:=xs≠[]/\xs.length<=m/\∀e∈xs,∃(x:Str) (l:А Str),e= .tup ((x::l).map D.str)
МHpD(m:Г)(d:D):Prop:=∃xs ys zs,d= .tup [.lst xs,.lst ys,.lst zs]/\FlL m xs/\zs≠[]/\(∀e∈zs,∃(x:Str) (r:А D),e= .tup (.str x::r))/\PlD (.lst xs)/\PlD (.lst ys)/\PlD (.lst zs)
section
variable{Z:Ent K}{H:Hp}{σ:L2.St}{Q:VK}{E:Ends}
МZsd(i j n:Г)(ds:А D)(δ1:Yk)(sv:SV)(T1 T2:FT):Prop:=
 ds.length=n/\(∀d∈ds,AR d)/\i≠j/\i<δ1.length/\j<δ1.length/\∃(m:Г) (hs:А D),sv.toD= .lst hs/\(∀h∈hs,HpD m h)/\m+hs.length<bd/\(∃δ2,T1 (δ1.set i (aA (.fz sv.toD)))=aA (aD,δ2))/\
  ∀xs ys zs,∃δ4,T2 ((δ1.set i aB).set j (aA (.fz (.tup [.lst xs,.lst ys,.lst zs]))))=aA (aD,δ4)
open Classical in
МZw2(i j n:Г)(g:А D->Б SV)(fd:FD)(T1 T2:FT):FS:=λδ=>(fd δ).bind λp=>(g p.1).bind λsv=>
 if Zsd i j n p.1 p.2 sv T1 T2 then aA (.nx ((p.2.set i aB).set j aB))else aB
аtAt(j:Г)(k:Int)(K:ad):TE:=tOp (rIx K) (Bg j) (tC (.int k))
end
end DL
namespace DL
open PySem PySem.Spec PyProof.Rows L2 TT
end DL
namespace DL
open PySem PySem.Spec PyProof.Rows L2 TX TT
variable{K:ad}
аNTs(H:Hp)(bs:А aj)(ks:А Zl):Prop:=Paired (λ(b:aj) (k:Zl)=>Q4 H k b) bs ks
open Classical in
МHa(H:Hp)(k:Zl):ah->Bool:=λw=>decide (∃b,w= .ref b/\Q4 H k b)
ЛZan{a b:А Str}(h:(Gj a).map kV=(Gj b).map kV):a=b:=by
 V e:∀l:А Str,(Gj l).map kV=l.map V.str:=λl=>by U Gj;K[cg];rfl
 K[e,e]at h;E Sm h
ЛZf4{H:Hp}{k k':Zl}{b:aj}(h:Q4 H k b)(h':Q4 H k' b):k=k':=by
 cases k with
 |inl l=>
  cases k' with
  |inl l'=>have e:=HO.tup.inj (cz.inj ((show H b=_ from h).symm.trans h'));K[Zan e]
  |inr p=>
   O⟨c,h1,h2⟩:=h';V e:=HO.tup.inj (cz.inj ((show H b=_ from h).symm.trans h1));cases l with
   |nil=>simp[Gj]at e
   |cons x l=>simp[Gj,kV]at e
 |inr p=>
  O⟨c,h1,h2⟩:=h;cases k' with
  |inl l'=>
   V e:=HO.tup.inj (cz.inj (h1.symm.trans (show H b=_ from h')));cases l' with
   |nil=>simp[Gj]at e
   |cons x l=>simp[Gj,kV]at e
  |inr p'=>O⟨c',h1',h2'⟩:=h';V e:=HO.tup.inj (cz.inj (h1.symm.trans h1'));simp at e;O⟨e1,e2⟩:=e;Q e2;V e3:=HO.tup.inj (cz.inj (h2.symm.trans h2'));O⟨n,l⟩:=p;O⟨n',l'⟩:=p';K[show n=n' from e1,show l=l' from Zan e3]
ЛS8{H:Hp}{k k':Zl}{b:aj}(h:Q4 H k' b):Ha H k (.ref b)=decide (k'=k):=by
 U Ha;B e:k'=k
 ·Q e;K[decide_eq_true rfl];E@decide_eq_true _ (Classical.propDecidable _) ⟨b,rfl,h⟩
 ·K[Ж e];E@decide_eq_false _ (Classical.propDecidable _) λ⟨b',z,q⟩=>by C z;E e (Zf4 h q)
ЛS9{H:Hp}{k:Zl}:∀{bs:А aj} {ks:А Zl},NTs H bs ks->(bs.map b8).any (Ha H k)=ks.any λx=>decide (x=k)
 |_,_,.nil=>rfl
 |c::bs,x::ks,.cons h t=>by K[bc,List.any_cons,List.any_cons,S8 h,S9 t]
МZse(K:ad)(neg:Bool):R2:=λx y H Q=>∃b k a bs ks,x= .ref b/\Q4 H k b/\y= .ref a/\W5 K H a (bs.map V.ref)/\NTs H bs ks/\(∀k'∈ks,We 48 (Zn k') (Zn k)=aA (decide (k'=k)))/\Q (.bl (if neg then !(ks.any λx=>decide (x=k))else ks.any λx=>decide (x=k))) H
section
variable{X:Cx}{pins:А (aj×Obj)}{σ:L2.St}{H:Hp}{s:am}
ЛVa(I:Inv X pins σ H s){A:dh}(hu:A.units+48<f6){b:aj}{k:Zl}(hb:Q4 H k b):∀{bs:А aj} {ks:А Zl},NTs H bs ks->(∀k'∈ks,We 48 (Zn k') (Zn k)=aA (decide (k'=k)))->∀u∈bs.map b8,SeqAt.EqAt A s u (.ref b) (Ha H k u)
 |_,_,.nil,_,u,hm=>nomatch hm
 |c::bs,x::ks,.cons h t,hq,u,hm=>by
  K[bc]at hm;J bx.mp hm with z|z
  ·Q z;K[S8 h];E Mn I (Zi.refl H) 48 A (Zn x) (Zn k) _ (.ref c) (.ref b) _ _ hu (Cn h) rfl (Cn hb) rfl (hq x af)
  ·E Va I hu hb t (λk' hk=>hq k' (ao _ hk)) u z
ЛZn2(hu:X.A.units+64<f6):Cf X (g9 .In) (Zse X.K aD):=by I pins s σ H x y v u Q I rx ry h;O⟨b,k,a,bs,ks,rfl,hb,rfl,hq,ht,he,q⟩:=h;C rx;C ry;O⟨its,r,pl,hz⟩:=I.list hq;V ei:=Dc r;Q ei;R SeqAt.in_listAt (Ha H k) pl.isList (λw hw=>Va I (by V :X.A.in1.units=X.A.units+1:=rfl;W) hb ht he w (by L hw)) ⟨.bl _,H,I,rfl,?_⟩;K[show(bs.map b8).toArray.any (Ha H k)=(bs.map b8).any (Ha H k) by simp,S9 ht];E q
end
open Classical in
МinN(d1 d2:D):Б SV:=match d2 with
 | .lst xs=>(nk? d1).bind λk=>(nks? xs).bind λks=>if(∀k'∈ks,We 48 (Zn k') (Zn k)=aA (decide (k'=k)))then aA (.fz (.bl (ks.any λx=>decide (x=k))))else aB
 |_=>aB
open Classical in
МZw3(d1 d2:D):Б SV:=match d2 with
 | .lst xs=>(nk? d1).bind λk=>(nks? xs).bind λks=>if(∀k'∈ks,We 48 (Zn k') (Zn k)=aA (decide (k'=k)))then aA (.fz (.bl (!(ks.any λx=>decide (x=k)))))else aB
 |_=>aB
ЛZn3{k:Zl}{ks:А Zl}(h:∀k'∈ks,We 48 (Zn k') (Zn k)=aA (decide (k'=k))):inN (Zn k) (.lst (ks.map Zn))=aA (.fz (.bl (ks.any λx=>decide (x=k)))):=by U inN;dsimp only;K[Co];dsimp only[c6];K[Ty];dsimp only[c6];K[Е h]
ЛZf5{F:Hp}:∀{ks:А Zl} {vs:А V},Reps K F (ks.map Zn) vs->∃bs,vs=bs.map V.ref/\NTs F bs ks
 | [],_,h=>by C h;E⟨[],rfl,.nil⟩
 |k::ks,_,h=>by
  cases h with
  |cons h t=>O⟨b,rfl,hb⟩:=R3 h;O⟨bs,rfl,hbs⟩:=Zf5 t;E⟨b::bs,rfl,.cons hb hbs⟩
section
variable{Z:Ent K}
ЛZsf:Y7 Z (Zse K aD) inN:=by
 I F H σ δ own x y d1 d2 sv Q s r1 r2 e k;U inN at e;split at e
 ·O⟨kk,e1,e⟩:=aa.mp e;O⟨ks,e2,e⟩:=aa.mp e;split at e
  ·rename_i hq;C e;O⟨b,rfl,hb⟩:=r1.nk s.le e1;O⟨a,us,rfl,hs,ru⟩:=r2.lst s.le;K[Nv e2]at ru;O⟨bs,rfl,tb⟩:=Zf5 ru;E⟨b,kk,a,bs,ks,rfl,hb,rfl,hs,Paired.mapP tb λ_ _ z=>z.mono λ_ _ w=>s.le _ _ w,hq,k.fz s (.bl _)⟩
  ·C e
 ·C e
end
end DL
namespace RV
open PySem PyProof.Rows
end RV
namespace RV
open PySem PyProof.Rows
МZy5(h:d6)(it a:aj)(j:Int):Prop:=∃o,h.get? it=aA o/\o.cls= .type "list_reverseiterator"/\o.data= .fields #[.ref a,.int j 0]
end RV
namespace L2
open PySem PySem.Spec PyProof.Rows RV
МItv(K:ad)(a:aj)(n:Г):It:=
 ⟨λi H=>∃xs x,W5 K H a xs/\xs.length=n/\xs.reverse[i]? =aA x,λi H x H'=>H'=H/\∀xs,W5 K H a xs->xs.reverse[i]? =aA x,λi H=>n<=i⟩
МZ1m(K:ad)(ta:TA):TI:=λσ H R=>ta σ H λvs H1=>∃a xs,vs=[.ref a]/\W5 K H1 a xs/\R (Itv K a xs.length) H1
end L2
namespace DL
open PySem PySem.Spec PyProof.Rows L2
variable{K:ad}{Z:Ent K}{σ:L2.St}{H:Hp}
НZ1n(fd:FD):FD:=λδ=>(fd δ).bind λp=>match p.1 with
 | [.lst xs]=>aA (xs.reverse,p.2)
 |_=>aB
section
variable{X:Cx}{Z:Ent X.K}{a b c:cj}{fa fb fc:FE}{pos:Pos}
ЛZsg(hv:X.A.units+64<f6)(ha:PE X a (Ze Z fa))(hb:PE X b (Ze Z fb))(hm:behindInMarks .In b=aD:=by rfl):PT X (.Compare a [.In] [b] pos) (Yl Z (Ys (Zm inN fa fb))):=Kb (Zn2 hv) Zsf ha hb hm
end
end DL
namespace DL
open PySem PySem.Spec PyProof.Rows L2
variable{K:ad}
ЛKidD.length{F:Hp}:∀{dss:А (А Key×А D)} {ws:А V} {ns:Zo},KidD K F dss ws ns->dss.length=ws.length
 |_,_,_,.nil=>rfl
 |_,_,_,.cons _ t=>by K[bf,bf,t.length]
ЛKidD.ref{F:Hp}:∀{dss:А (А Key×А D)} {ws:А V} {ns:Zo} {p:Г} {v:V},KidD K F dss ws ns->ws[p]? =aA v->∃b,v= .ref b
 |_,_,_,_,_,.nil,e=>by simp at e
 |_,_,_,0,_,.cons _ _,e=>⟨_,by L e.symm⟩
 |_,_,_,p+1,_,.cons _ t,e=>t.ref (p:=p) (by L e)
ЛKidD.put{F:Hp}:∀{dss:А (А Key×А D)} {ws:А V} {ns:Zo} {p:Г} {b:aj},KidD K F dss ws ns->ws[p]? =aA (.ref b)->(Bf ns).Nodup->
  ∃(kvs:А (Key×V)) (ds:А D) (ep:Г),dss[p]? =aA (kvs.map (·.1),ds)/\(b,HO.dK kvs ep)∈ns/\Reps K F ds (kvs.map (·.2))/\∀{kvs':А (Key×V)} {ds':А D} {ep':Г},Reps K F ds' (kvs'.map (·.2))->∃ns',KidD K F (dss.set p (kvs'.map (·.1),ds')) ws ns'/\Bf ns'=Bf ns/\∀q∈ns',q=(b,HO.dK kvs' ep')\/(q∈ns/\q.1≠b)
 |_,_,_,_,_,.nil,e,_=>by simp at e
 |_,_,_,0,b,@KidD.cons _ _ ds dss b' kvs ep ws ns r t,e,nd=>by
  V e':b'=b:=by L e
  Q e';O⟨n1,n2⟩:=dm.mp nd;R⟨kvs,ds,ep,rfl,af,r,fun{kvs' ds' ep'} hd=>⟨(b',.dK kvs' ep')::ns,.cons hd t,rfl,λq hq=>?_⟩⟩;J bx.mp hq with z|z
  ·E .inl z
  ·E .inr ⟨ao _ z,λw=>n1 (ax.mpr ⟨q,z,w⟩)⟩
 |_,_,_,p+1,b,@KidD.cons _ _ ds0 dss b' kvs0 ep0 ws ns r t,e,nd=>by
  O⟨n1,n2⟩:=dm.mp nd;O⟨kvs,ds,ep,h1,h2,h3,h4⟩:=KidD.put (p:=p) (b:=b) t (by L e) n2;R⟨kvs,ds,ep,by L h1,ao _ h2,h3,fun{kvs' ds' ep'} hd=>?_⟩;O⟨ns',k1,k2,k3⟩:=h4 (ep':=ep') hd;R⟨(b',.dK kvs0 ep0)::ns',by K[List.set_cons_succ];E .cons r k1,by T b'::Bf ns'=b'::Bf ns;K[k2],λq hq=>?_⟩;J bx.mp hq with z|z
  ·R .inr ⟨by K[z];E af,λw=>n1 ?_⟩;K[z]at w;E ax.mpr ⟨_,h2,w.symm⟩
  ·J k3 q z with w|⟨w,w2⟩
   ·E .inl w
   ·E .inr ⟨ao _ w,w2⟩
ЛZf6{F:Hp}{dss:А (А Key×А D)}{v:V}{ns:Zo}(h:Shape K F (.oD dss) v ns):∃a ws ns',v= .ref a/\ns=(a,.lst ws)::ns'/\KidD K F dss ws ns':=by
 cases h with
 |oD r=>E⟨_,_,_,rfl,rfl,r⟩
section
variable{Z:Ent K}{H:Hp}{σ:L2.St}{Q:VK}{E:Ends}
ЛZf7{F:Hp}{δ:Yk}{own:Г->Zo}{i:Г}{dss:А (А Key×А D)}(s:SR Z F H σ δ own)(h:δ[i]? =aA (aA (.oD dss))):
  ∃a ws ns,σ[i]? =aA (aA (.ref a))/\own i=(a,HO.lst ws)::ns/\KidD K F dss ws ns/\H a=aA (.lst ws)/\a∉Bf ns/\(Bf ns).Nodup:=by
 O⟨v,hv,sh⟩:=s.at' i _ h;O⟨a,ws,ns,rfl,en,kd⟩:=Zf6 sh;V nd:=s.nod i;K[en]at nd;O⟨q1,q2⟩:=dm.mp nd;E⟨a,ws,ns,hv,en,kd,(s.ok i (a,.lst ws) (by K[en];E af)).2.2,q1,q2⟩
НZf8:FE:=λδ=>aA (.tmp (.oD [([],[]),([],[]),([],[])]),δ)
ЛZjk(h:Ze Z Zf8 σ H Q):Zhn (Rm Ag (Rm Ag (Rm Ag Pq))) σ H Q:=by
 O⟨F,δ,own,rv,δ',s,e,k⟩:=h;C e;I b1 h1 b2 h2 b3 h3;R⟨by T 3<=_;decide,λa ha=>?_⟩;V S1:=Ws (o:=HO.dK [] 0) h1;V S2:=Ws (o:=HO.dK [] 0) h2;V S3:=Ws (o:=HO.dK [] 0) h3;V S4:=Ws (o:=HO.lst [.ref b1,.ref b2,.ref b3]) ha;V f2:H b2=aB:=S1.free h2;V f3:H b3=aB:=S1.free (S2.free h3);V f0:H a=aB:=S1.free (S2.free (S3.free ha));V n21:b2≠b1:=λz=>by K[z,Z3]at h2;C h2
 V n32:b3≠b2:=λz=>by K[z,Z3]at h3;C h3
 V n31:b3≠b1:=λz=>by K[z,S2 b1 _ Z3]at h3;C h3
 V n03:a≠b3:=λz=>by K[z,Z3]at ha;C ha
 V n02:a≠b2:=λz=>by K[z,S3 b2 _ Z3]at ha;C ha
 V n01:a≠b1:=λz=>by K[z,S3 b1 _ (S2 b1 _ Z3)]at ha;C ha
 V ST:=S1.trans (S2.trans (S3.trans S4));V nd:(Bf [(a,HO.lst [.ref b1,.ref b2,.ref b3]),(b1,HO.dK [] 0),(b2,HO.dK [] 0),(b3,HO.dK [] 0)]).Nodup:=by simp[n01,n02,n03,Ne.symm n21,Ne.symm n31,Ne.symm n32]
 V all:∀p∈[(a,HO.lst [.ref b1,.ref b2,.ref b3]),(b1,HO.dK [] 0),(b2,HO.dK [] 0),(b3,HO.dK [] 0)],H p.1=aB/\(Z9 (Z9 (Z9 (Z9 H b1 (HO.dK [] 0)) b2 (HO.dK [] 0)) b3 (HO.dK [] 0)) a (HO.lst [.ref b1,.ref b2,.ref b3])) p.1=aA p.2:=λp hp=>by
  simp only[bx,List.not_mem_nil,or_false]at hp;J hp with rfl|rfl|rfl|rfl
  ·E⟨f0,Z3⟩
  ·E⟨h1,S4 _ _ (S3 _ _ (S2 _ _ Z3))⟩
  ·E⟨f2,S4 _ _ (S3 _ _ Z3)⟩
  ·E⟨f3,S4 _ _ Z3⟩
 R k (.ref a) _ F own ST (Zi.refl F) (s.grow ST) ⟨[(a,.lst [.ref b1,.ref b2,.ref b3]),(b1,.dK [] 0),(b2,.dK [] 0),(b3,.dK [] 0)],.oD (.cons (kvs:=[]) .nil (.cons (kvs:=[]) .nil (.cons (kvs:=[]) .nil .nil))),nd,λp hp=>?_,λi p q hp hq e=>?_⟩
 ·O⟨z1,z2⟩:=all p hp;E⟨s.le.free z1,s.old.free z1,z2⟩
 ·V hq':=(s.ok i q hq).2.2;K[<-e,(all p hp).1]at hq';C hq'
МVb(i:Г)(fi fk fv:FE):FS:=λδ=>(fv δ).bind λq=>(frz q.1 q.2).bind λr=>match r.2[i]? with
 |some (aA (.oD dss0))=>(fi r.2).bind λq2=>(Iw q2.1 q2.2).bind λjd=>match jd with
  | .int j=>(ixN dss0.length j).bind λn=>(fk q2.2).bind λq3=>(Iw q3.1 q3.2).bind λkd=>kd.key?.bind λkk=>match q3.2[i]? with
   |some (aA (.oD dss))=>(dss[n]?).bind λp=>if p.2.length<bd then aA (.nx (q3.2.set i (aA (.oD (dss.set n (Wv p.1 p.2 kk r.1))))))else aB
   |_=>aB
  |_=>aB
 |_=>aB
ЛZn4{i:Г}{fi fk fv:FE}(h:Z5 Z (Vb i fi fk fv) E σ H):Zdp (tOp (Zhr K) (Bg i) (Ze Z fi)) (Ze Z fk) (Ze Z fv) E σ H:=by
 O⟨F,δ,own,fl,s,e,k⟩:=h;U Vb at e;O⟨⟨rv,δ1⟩,e1,e⟩:=aa.mp e;O⟨⟨d,δ2⟩,e2,e⟩:=aa.mp e;dsimp only at e2 e;split at e
 ·rename_i dss0 hi0;O⟨⟨ri,δ3⟩,e3,e⟩:=aa.mp e;O⟨jd,e4,e⟩:=aa.mp e;dsimp only at e4 e;split at e
  ·rename_i j;O⟨n,e8,e⟩:=aa.mp e;O⟨⟨rk,δ4⟩,e5,e⟩:=aa.mp e;O⟨kd,e6,e⟩:=aa.mp e;O⟨kk,e7,e⟩:=aa.mp e;dsimp only at e6 e;split at e
   ·rename_i dss hi;O⟨p,e9,e⟩:=aa.mp e;split at e
    ·rename_i hz;C e;R⟨F,δ,own,rv,δ1,s,e1,λv H1 F1 own1 sH1 sF1 s1 r1=>?_⟩;O⟨F2,sF2,s2,r2⟩:=s1.settleR r1;O⟨F3,own3,sF3,s3,r3⟩:=s2.frzR r2 e2;O⟨a,ws,ns,hv,en,kd0,hH,q1,q2⟩:=Zf7 s3 hi0;V hl:=kd0.length;K[hl]at e8;V hn:n<ws.length:=(Lo e8).2.1;O⟨b,hb⟩:=kd0.ref (av hn);V hwn:ws[n]? =aA (.ref b):=by K[av hn,hb]
     R⟨.ref a,hv,F3,δ2,own3,ri,δ3,s3,e3,λy H4 F4 own4 sH4 sF4 s4 r4=>?_⟩;O⟨F5,sF5,s5,r5⟩:=s4.settleR r4;obtain rfl:=(s5.rd r5 e4).int;V hH4:=sH4 _ _ hH;R⟨a,ws,j,.ref b,rfl,rfl,.inl (.inl hH4),by U atI;K[e8];E hwn,F5,δ3,own4,rk,δ4,s5,e5,λy2 H6 F6 own6 sH6 sF6 s6 r6=>?_⟩;O⟨F7,sF7,s7,r7⟩:=s6.settleR r6;V rk':=s7.rd r7 e6;O⟨a7,ws7,ns7,hv7,en7,kd7,hH7,r1',r2'⟩:=Zf7 s7 hi;K[hv]at hv7;C hv7;V :aA (HO.lst ws7)=aA (HO.lst ws):=hH7.symm.trans (sH6 _ _ hH4);C this;O⟨kvs,ds,ep,k1,k2,k3,k4⟩:=kd7.put hwn r2';K[e9]at k1;C k1;V sFF:Zi F3 F7:=sF4.trans (sF5.trans (sF6.trans sF7));V rd:Rep K F7 d v:=r3.mono sFF;V z:=Nd (k:=kk) rd kvs ds k3;V mb3:(a,HO.lst ws)∈own6 i:=by K[en7];E af
     V mbb:(b,HO.dK kvs ep)∈own6 i:=by K[en7];E ao _ k2
     V hne:a≠b:=λz=>r1' (ax.mpr ⟨_,k2,z.symm⟩);R⟨b,rfl,?_⟩;K[Ar e7 rk'];R Af.k ⟨_,(s7.ok i _ mbb).2.2⟩ (by K[<-k3.length_map];E hz) λep'=>?_;O⟨ns',j1,j2,j3⟩:=k4 (kvs':=Qe kvs kk v) (ds':=(Wv (kvs.map (·.1)) ds kk d).2) (ep':=ep') z.2;K[z.1]at j1;R k σ _ F7 _ (sF1.trans (sF2.trans (sF3.trans sFF))) (s7.change (sv':=.oD (dss.set n (Wv (kvs.map (·.1)) ds kk d))) (o':=.dK (Qe kvs kk v) ep') (ns':=(a,.lst ws)::ns') hi hv mbb (.oD j1) (λq hq=>?_) ?_)
     ·J bx.mp hq with z|z
      ·E .inr ⟨by K[z];E mb3,by K[z];E hne⟩
      ·J j3 q z with z|⟨z,z2⟩
       ·E .inl z
       ·E .inr ⟨by K[en7];E ao _ z,z2⟩
     ·show(a::Bf ns').Nodup;K[j2];E dm.mpr ⟨r1',r2'⟩
    ·C e
   ·C e
  ·C e
 ·C e
end
section
variable{X:Cx}{Z:Ent X.K}{a b c:cj}{fa fb fc:FE}{pos:Pos}
ЛZjl{p1 p2 p3:Pos}(he:a9 [.Dict [] [] p1,.Dict [] [] p2,.Dict [] [] p3] X.env=(aD,gq (.Dict [] [] p1) X.env)::a9 [.Dict [] [] p2,.Dict [] [] p3] X.env:=by rfl)(he2:a9 [.Dict [] [] p2,.Dict [] [] p3] X.env=(aD,gq (.Dict [] [] p2) X.env)::a9 [.Dict [] [] p3] X.env:=by rfl)(he3:a9 [.Dict [] [] p3] X.env=(aD,gq (.Dict [] [] p3) X.env)::a9 [] X.env:=by rfl):
  PE X (.List [.Dict [] [] p1,.Dict [] [] p2,.Dict [] [] p3] pos) (Ze Z Zf8):=(Ln (Jf Ro (Jf Ro (Jf Ro Bj he3) he2) he)).imp λ_ _ _ h=>Zjk h
ЛZn5(i:Г){x:Str}{px p0 p1:Pos}(hu:X.A.units+1<f6)(hc:PE X c (Ze Z fc))(hb:PE X b (Ze Z fb))(hv':PE X a (Ze Z fa))(hN:X.N[i]? =aA x:=by rfl)(hv:Vs X.env.scope x:=by first|E Or.inl rfl|E gg (Or.inl rfl)|E gg (gg rfl))(hd:(x==("__debug__":Str))=aD:=by decide)
  (hcd:(x==("__classdict__":Str))=aD:=by decide) (hpl:Tu c:=by I _ _;rfl) (hs:swapsWith a (aA (.Subscript (.Subscript (.Name x px) c p0) b p1)) pos.line X.env=pure aD:=by rfl):
  PS X (.Assign [.Subscript (.Subscript (.Name x px) c p0) b p1] a pos) (Z5 Z (Vb i fc fb fa)):=(Db hu (Zdf Hy (Jy (i:=i) hN hv hd hcd) hc hpl) hb hv' hs).imp λ_ _ _ h=>Zn4 h
end
end DL
namespace L2
open PySem PySem.Spec PyProof.Rows SX TT TX DL
section
variable{X:Cx}
МrLS(K:ad):А V->Hp->VK->Prop:=λvs H Q=>∃(l:aj) (ys:А (Zl×aj)),vs=[.ref l]/\W5 K H l (ys.map λy=>V.ref y.2)/\(∀y∈ys,Q4 H y.1 y.2)/\ys.length<=75/\Q (.int ((Iq ys).length:Г)) H
ЛZjm{a:cj}{t:TA}{p1 p2 q1 q2:Pos}(hc:X.calm=aC)(hu:X.A.units+64<f6)(h1:X.mg "len"=aB)(h2:X.mg "set"=aB)(ha:PA X [a] t)(g1:Gl X "len")(g2:Gl X "set")
  (he1:a9 [.Call (.Name "set" q1) [a] [] q2] X.env=(aD,gq (.Call (.Name "set" q1) [a] [] q2) X.env)::a9 [] X.env) (hp1:(gr p2 (a9 [] X.env)).any (·.1)=aD)
  (he2:a9 [a] X.env=(aD,gq a X.env)::a9 [] X.env) (hp2:(gr q2 (a9 [] X.env)).any (·.1)=aD):
  PE X (.Call (.Name "len" p1) [.Call (.Name "set" q1) [a] [] q2] [] p2) (tCB (rLS X.K) t):=by
 I pins s σ H Q I h;R wpAny_Call_Name_kw (Bh I g1 h1 boot_len ?_);R PyProof.Rows.callWith_builtin1 ?_ he1 hp1;K[he1];T bg _ _ (spliced ((aD,gq (.Call (.Name "set" q1) [a] [] q2) X.env)::gr p2 (a9 [] X.env))) _ _ s;R Calls.spliced_cons (wpAny_Call_Name_kw (Bh I g2 h2 Su ?_));R PyProof.Rows.callWith_type1 (Wp (ha q2 pins s σ H _ I h) λus s1 ⟨vs,H1,I1,r1,z1⟩=>?_) he2 hp2;O⟨l,ys,rfl,hl,hn,hz,q⟩:=z1;O⟨u,rfl,ru⟩:=Oc r1;C ru;O⟨its,rv,⟨o,n,ho,hcl,_,hd⟩,_⟩:=I1.list hl;V hits:=Znx rv;V hh:=I1.ok.hd hc;R S5 (its:=its.toArray) (ys:=ys) hh И ⟨o,ho,hcl,n,hd⟩ (by L hits) (λy hy=>Ei I1.hok (hn y hy)) hz λh' tk o' ho' hO hk=>?_;T bg _ _ (spliced []) _ _ _;R Calls.spliced_nil ?_;V kept:∀b x,s1.heap.get? b=aA x->h'.get? b=aA x:=λb x e=>hk b x (bo e) e;V I2:Inv X pins σ H1 {s1 with heap:=h',toks:=tk+1+1}:=I1.kept kept;O⟨es,ep,tt,zs,hx,hdt,he,pm,nd,his,tb,hled,hroom⟩:=hO;V zl:zs.length=es.size:=by K[<-ay,he,aq]
 V xl:(Iq ys).length=es.size:=by K[<-pm.length_eq,zl]
 V yl:=Zag ys;R call_len_set (s:={s1 with heap:=h',toks:=tk}) ho' hx hdt (tb.fits К) И ?_;K[xl]at q;E⟨.int (es.size:Г),H1,I2,⟨_,rfl⟩,q⟩
end
end L2
namespace DL
open PySem PySem.Spec PyProof.Rows L2 SX TT TX
variable{K:ad}
МKv:А D->Б SV
 | [.lst xs]=>(nks? xs).bind λks=>if ks.length<=75 then aA (.fz (.int ((Eg ks).length:Г)))else aB
 |_=>aB
ЛKw{ks:А Zl}(h:ks.length<=75):Kv [.lst (ks.map Zn)]=aA (.fz (.int ((Eg ks).length:Г))):=by show(nks? (ks.map Zn)).bind _=_;K[Ty];EЕ h
section
variable{Z:Ent K}{H:Hp}{σ:L2.St}{Q:VK}{E:Ends}
ЛZn6:Us Z (rLS K) Kv:=by
 I F H σ δ own vs ds sv Q s r e k;U Kv at e;split at e
 ·O⟨ks,e1,e2⟩:=aa.mp e;split at e2
  ·rename_i hz;C e2;V :=Nv e1;Q this;cases r with
   |cons h t=>C t;O⟨a,us,rfl,ha,ru⟩:=h.lst s.le;O⟨ys,rfl,rfl,hy⟩:=Ek ru;V ek:=congrArg List.length (Nt ys);K[aq]at ek;R⟨a,ys,rfl,ha,λy hy'=>(hy y hy').mono λ_ _ q=>s.le _ _ q,by L hz,?_⟩;K[ek];E k.fz s (.int _)
  ·C e2
 ·C e
end
section
variable{X:Cx}{Z:Ent X.K}{a b c:cj}{fa fb fc:FE}{pos:Pos}
ЛZf9{p1 q1 q2:Pos}(hc:X.calm=aC)(hv:X.A.units+64<f6)(h1:X.mg "len"=aB)(h2:X.mg "set"=aB)(ha:PE X a (Ze Z fa))(g1:Gl X "len":=by rfl)(g2:Gl X "set":=by rfl)
  (he1:a9 [.Call (.Name "set" q1) [a] [] q2] X.env=(aD,gq (.Call (.Name "set" q1) [a] [] q2) X.env)::a9 [] X.env:=by rfl) (hp1:(gr pos (a9 [] X.env)).any (·.1)=aD:=by rfl)
  (he2:a9 [a] X.env=(aD,gq a X.env)::a9 [] X.env:=by rfl) (hp2:(gr q2 (a9 [] X.env)).any (·.1)=aD:=by rfl):
  PE X (.Call (.Name "len" p1) [.Call (.Name "set" q1) [a] [] q2] [] pos) (Ze Z (Yq Kv (Zc fa Zj))):=
 (Zjm hc hv h1 h2 (Zk ha Ya he2) g1 g2 he1 hp1 he2 hp2).imp λ_ _ _ h=>Am Zn6 h
end
end DL
namespace My
open DL PySem
ЛQw{n:Г}(h:n<=16777216):n<=PySem.sizeLine:=h
ЛYd{n:Г}(h:n<16777216):n<PySem.sizeLine:=h
аLET:Str:="ABCDEFGHIJKLMNOPQRSTUVWXYZabcdefghijklmnopqrstuvwxyz"
ЛZt5(c:Г):(⟨#[c]⟩:Str).length=1:=rfl
ЛZjn(ns:А Int)(lo hi:Б Int):∃ms:А Int,L5 (ns.map D.int) lo hi=ms.map D.int/\ms.length<=ns.length:=by U L5;R⟨(ns.drop _).take _,by K[List.map_take,List.map_drop],?_⟩;K[gw,List.length_drop];W
Мcat:А Str->Str
 | []=>""
 |x::r=>x++cat r
ЛCq{te:FE}{f:D->D}{c:Б SV}{j:Г}:∀(xs ys:А D),(∀x∈xs,∀zs,te [aA (.fz x),c,aA (.ol zs)]=aA (.tmp (.fz (f x)),[aA (.fz x),c,aA (.ol zs)]))->ys.length+xs.length<=16777216->
  Yb [.own,.cap j,.acc] 2 (Zd 0) Q7 te xs [aB,c,aA (.ol ys)]=aA [aB,c,aA (.ol (ys++xs.map f))]
 | [],ys,_,_=>by simp
 |x::xs,ys,h,hl=>by K[bf]at hl;V ih:=Cq (te:=te) (f:=f) (c:=c) (j:=j) xs (ys++[f x]) (λy hy=>h y (ao _ hy)) (by K[aw];simp;W);V e1:=h x af ys;V h4:ys.length<PySem.sizeLine:=Yd И;simp[e1,h4];L ih
ЛRa{f:D->D->Б Bool}:∀xs:А D,(∀x∈xs,f x x=aA aC)->Ba f xs xs=aA aC
 | [],_=>rfl
 |x::r,h=>by simp[h x af,Ra r λy hy=>h y (ao _ hy)]
end My
namespace My
open DL PySem StrLaws Builtin.Str
Мgap(n:Г):Г->А Г->В
 |_,[]=>True
 |a,p::r=>a<=p/\gap n (p+n) r
Мjl(y:А Г):А (А Г)->А Г
 | []=>[]
 | [p]=>p
 |p::q::r=>p++y++jl y (q::r)
Мpos(n:Г):Г->А (А Г)->А Г
 |_,[]=>[]
 |_,[_]=>[]
 |a,p::q::r=>(a+p.length)::pos n (a+p.length+n) (q::r)
structure Sep(y:Str)(c o:Г):В where
 at':y.cps.toList[o]? =aA c
 one:∀j,y.cps.toList[j]? =aA c->j=o
end My
namespace My
open DL PySem
ЛW7{tg:FG}{body:FS}{d:D}{ds:А D}{δ δ1 δ2:Yk}(h1:tg.run d δ=aA δ1)(h2:body δ1=aA (.nx δ2)):Z7 tg body (d::ds) δ=Z7 tg body ds δ2:=by show(tg.run d δ).bind _=_;K[h1,c6,h2,c6]
аS(l:А Г):Str:=⟨l.toArray⟩
ЛZli(l:А Г):(S l).length=l.length:=by T l.toArray.size=_;simp
ЛZsh(a b:А Г):S a++S b=S (a++b):=by
 show(⟨a.toArray++b.toArray⟩:Str)=⟨(a++b).toArray⟩
 simp
ЛZsi{a b:А Г}(h:S a=S b):a=b:=by V :a.toArray=b.toArray:=congrArg Str.cps h;L this
ЛZsj(x:Str):x=S x.cps.toList:=by C x;simp
ЛZn7(l:А Г):(S l).cps.toList=l:=by simp
ЛEn{α:Type}(p:А α)(i:Г)(c:α)(h:p[i]? =aA c):L2.atI p (i:Int)=aA c:=by V hl:=(a8.mp h).1;U L2.atI L2.ixN;K[Е И,Е И];L h
end My
namespace My
open DL PySem
аCe(s n:Г):А D:=(List.range' s n).map λi:Г=>D.int (i:Int)
ЛQp(n:Г):Td 0 n=Ce 0 n:=by U Td;K[List.range_eq_range'];R List.map_congr_left λi _=>?_;simp
ЛGd{tg:FG}{body:FS}{P:Г->Yk->В}:∀(n s:Г) (δ:Yk),P s δ->(∀i,s<=i->i<s+n->∀δ,P i δ->∃δ1 δ2,tg.run (.int (i:Int)) δ=aA δ1/\body δ1=aA (.nx δ2)/\P (i+1) δ2)->
  ∃δ',Z7 tg body (Ce s n) δ=aA (.nx δ')/\P (s+n) δ'
 |0,s,δ,h,_=>⟨δ,rfl,h⟩
 |n+1,s,δ,h,k=>by O⟨δ1,δ2,h1,h2,h3⟩:=k s (ba _) И δ h;O⟨δ',e,h'⟩:=Gd (tg:=tg) (body:=body) (P:=P) n (s+1) δ2 h3 λi hi hj=>k i И И;R⟨δ',?_,by K[show s+(n+1)=s+1+n by W];E h'⟩;T Z7 tg body (.int (s:Int)::Ce (s+1) n) δ=_;K[W7 h1 h2];E e
МZsk(i:Г):А D->А D
 | []=>[]
 |x::r=>.tup [.int (i:Int),x]::Zsk (i+1) r
end My
namespace My
open DL PySem StrLaws Builtin.Str
end My
namespace My
open DL PySem
аYt(xs:А Str):А L2.Key:=xs.map d3
ЛCr(k:Str):∀(xs:А Str) (vs:А D),look (Yt xs) vs (d3 k)=look xs vs k
 | [],[]=>rfl
 | [],_::_=>rfl
 |_::_,[]=>rfl
 |x::xs,v::vs=>by
  show(if(d3 x:L2.Key)=d3 k then aA v else look (Yt xs) vs (d3 k))=if x=k then aA v else look xs vs k;K[Cr k xs vs];B h:x=k
  ·K[Е h,Е (by K[h])]
  ·K[Д h,Д λe=>h (d3.inj e)]
ЛEo(k:Str)(v:D)(xs:А Str)(vs:А D):Wv (Yt xs) vs (d3 k) v=(Yt (Wv xs vs k v).1,(Wv xs vs k v).2):=by
 V hm:((d3 k:L2.Key)∈Yt xs)↔k∈xs:=by
  constructor
  ·I h;O⟨y,hy,e⟩:=ax.mp h;K[<-d3.inj e];E hy
  ·E λh=>ax.mpr ⟨k,h,rfl⟩
 U Wv;B h:k∈xs
 ·K[Е h,Е (hm.mpr h)];congr 1;V :∀(xs:А Str) (vs:А D),((Yt xs).zip vs).map (λp=>if p.1=(d3 k:L2.Key)then v else p.2)=(xs.zip vs).map λp=>if p.1=k then v else p.2:=by
   I xs;induction xs with
   |nil=>intro vs;rfl
   |cons x xs ih=>
    I vs;cases vs with
    |nil=>rfl
    |cons u vs=>
     show(if(d3 x:L2.Key)=d3 k then v else u)::((Yt xs).zip vs).map (λp=>if p.1=(d3 k:L2.Key)then v else p.2)=(if x=k then v else u)::(xs.zip vs).map λp=>if p.1=k then v else p.2;K[ih vs];B hx:x=k
     ·K[Е hx,Е (by K[hx])]
     ·K[Д hx,Д λe=>hx (d3.inj e)]
  E this xs vs
 ·K[Д h,Д λe=>h (hm.mp e)];simp[Yt]
ЛEp{k:Str}{v:D}{xs:А Str}{vs:А D}(h:k∉xs):Wv xs vs k v=(xs++[k],vs++[v]):=by U Wv;K[Д h]
structure Dic(xs:А Str)(vs:А D):В where
 nd:xs.Nodup
 len:xs.length=vs.length
ЛZga{xs:А Str}:∀{vs:А D},xs.Nodup->xs.length=vs.length->∀(i:Г) (x:Str) (v:D),xs[i]? =aA x->vs[i]? =aA v->look xs vs x=aA v:=by
 induction xs with
 |nil=>intro vs _ _ i x v h;simp at h
 |cons y xs ih=>
  I vs nd hl i x v hx hv;cases vs with
  |nil=>simp at hv
  |cons u vs=>
   O⟨n1,n2⟩:=dm.mp nd;show(if y=x then aA u else look xs vs x)=aA v;cases i with
   |zero=>simp at hx hv;K[Е hx,hv]
   |succ i=>simp at hx hv;V hm:=b5 hx;K[Д λe=>n1 (by K[e];E hm)];E ih n2 (by L hl) i x v hx hv
end My
namespace My
open DL PySem TT
ЛR5(n:Г)(xs:А D)(h:∀x∈xs,We n x x=aA aC):We (n+1) (.lst xs) (.lst xs)=aA aC:=by simp[Ra xs h]
ЛZao(n:Г)(xs:А D)(h:∀x∈xs,We n x x=aA aC):We (n+1) (.tup xs) (.tup xs)=aA aC:=by simp[Ra xs h]
ЛZap(n:Г)(x:Str):We (n+1) (.str x) (.str x)=aA aC:=by simp
аNK:=L2.Zl
МtE(s:А Г):А Nat:=s.map (· +1)++[0]
ЛZaq:∀(s t u v:А Г),(tE s++u<tE t++v)↔(s<t\/(s=t/\u<v))
 | [],[],u,v=>by show(0::u<0::v)↔_;K[gx];simp
 | [],b::t,u,v=>by show(0::u<(b+1)::(tE t++v))↔_;K[gx];simp
 |a::s,[],u,v=>by show((a+1)::(tE s++u)<0::v)↔_;K[gx];simp
 |a::s,b::t,u,v=>by
  show((a+1)::(tE s++u)<(b+1)::(tE t++v))↔_;K[gx,Zaq s t u v,gx];constructor
  ·rintro(h|⟨h1,h2|⟨h2,h3⟩⟩)
   ·E .inl (.inl И)
   ·E .inl (.inr ⟨by W,h2⟩)
   ·E .inr ⟨by K[h2,show a=b by W],h3⟩
  ·rintro((h|⟨h1,h2⟩)|⟨h1,h2⟩)
   ·E .inl И
   ·E .inr ⟨by W,.inl h2⟩
   ·C h1;E .inr ⟨rfl,.inr ⟨rfl,h2⟩⟩
ЛZn8:∀(s t u v:А Г),tE s++u=tE t++v->s=t/\u=v:=by
 I s;induction s with
 |nil=>intro t u v z;cases t with
  |nil=>E⟨rfl,by simpa[tE]using z⟩
  |cons b t=>simp[tE]at z
 |cons a s ih=>intro t u v z;cases t with
  |nil=>simp[tE]at z
  |cons b t=>have z:(a+1)::(tE s++u)=(b+1)::(tE t++v):=z;O⟨z1,z2⟩:=List.cons.inj z;O⟨i1,i2⟩:=ih t u v z2;E⟨by K[i1,show a=b by W],i2⟩
ЛEr{a b:Str}(h:a.cps.toList=b.cps.toList):a=b:=by K[Zsj a,Zsj b,h]
МOu:А Str->А Г
 | []=>[0]
 |x::l=>1::(tE x.cps.toList++Ou l)
ЛEs:∀{a b:А Str},Ou a=Ou b->a=b
 | [],[],_=>rfl
 | [],_::_,h=>by simp[Ou]at h
 |_::_,[],h=>by simp[Ou]at h
 |x::a,y::b,h=>by O⟨_,h2⟩:=List.cons.inj h;O⟨e1,e2⟩:=Zn8 _ _ _ _ h2;K[Er e1,Es e2]
ЛNz(n:Г)(x y:Str):We (n+1) (.str x) (.str y)=aA (decide (x=y)):=by simp
ЛHb(n:Г)(x y:Str):TX.Ug (n+1) (.str x) (.str y)=aA (decide (x.cps.toList<y.cps.toList)):=rfl
ЛEt(n:Г):∀a b:А Str,TX.Rx (We (n+1)) (TX.Ug (n+1)) (a.map D.str) (b.map D.str)=aA (decide (Ou a<Ou b))
 | [],[]=>by T aA aD=_;E congrArg aA Й
 | [],y::b=>by T aA aC=_;R congrArg aA (decide_eq_true ?_).symm;show[0]<1::_;K[gx];E .inl Й
 |x::a,[]=>by T aA aD=_;R congrArg aA (Ж ?_).symm;show¬(1::_< [0]);K[gx];rintro(h|⟨h,_⟩)<;> W
 |x::a,y::b=>by
  show(We (n+1) (.str x) (.str y)).bind (λc=>if c=aC then TX.Rx (We (n+1)) (TX.Ug (n+1)) (a.map D.str) (b.map D.str)else TX.Ug (n+1) (.str x) (.str y))=_;K[Nz,Et n a b,Hb];V e:(Ou (x::a)<Ou (y::b))↔(x.cps.toList<y.cps.toList\/(x.cps.toList=y.cps.toList/\Ou a<Ou b)):=by
   show(1::(tE x.cps.toList++Ou a)<1::(tE y.cps.toList++Ou b))↔_;K[gx,Zaq];constructor
   ·rintro(h|⟨_,h⟩)
    ·W
    ·E h
   ·E λh=>.inr ⟨rfl,h⟩
  B h:x=y
  ·Q h;V i:=fg x.cps.toList;K[decide_eq_true rfl];T aA (decide (Ou a<Ou b))=_;R congrArg aA (decide_eq_decide.mpr ?_);K[e];E⟨λz=>.inr ⟨rfl,z⟩,λz=>z.elim (λz=>absurd z i) λz=>z.2⟩
  ·K[Ж h];T aA (decide (x.cps.toList<y.cps.toList))=_;R congrArg aA (decide_eq_decide.mpr ?_);K[e];E⟨.inl,λz=>z.elim id λz=>absurd (Er z.1) h⟩
ЛEu(n:Г):∀a b:А Str,∃c,Ba (We (n+1)) (a.map D.str) (b.map D.str)=aA c/\(c&&decide ((a.map D.str).length=(b.map D.str).length))=decide (a=b)
 | [],[]=>⟨aC,rfl,by simp⟩
 | [],y::b=>⟨aC,rfl,by simp⟩
 |x::a,[]=>⟨aC,rfl,by simp⟩
 |x::a,y::b=>by
  O⟨c,e1,e2⟩:=Eu n a b;R⟨decide (x=y)&&c,?_,?_⟩
  ·show(We (n+1) (.str x) (.str y)).bind (λb'=>(Ba (We (n+1)) (a.map D.str) (b.map D.str)).bind λc'=>aA (b'&&c'))=_;K[Nz,e1];rfl
  ·K[Bool.and_assoc];V :decide (((x::a).map D.str).length=((y::b).map D.str).length)=decide ((a.map D.str).length=(b.map D.str).length):=by simp
   K[this,e2];B h:x=y
   ·B h2:a=b<;> simp[h,h2]
   ·simp[h]
ЛHc(n:Г)(a b:А Str):We (n+2) (.tup (a.map D.str)) (.tup (b.map D.str))=aA (decide (a=b)):=by O⟨c,e1,e2⟩:=Eu n a b;show(Ba (We (n+1)) (a.map D.str) (b.map D.str)).bind (λb'=>aA (b'&&decide ((a.map D.str).length=(b.map D.str).length)))=_;K[e1];T aA (c&&_)=_;K[e2]
inductive OneK:NK->NK->В where
 |nm (a b:А Str):OneK (.inl a) (.inl b)
 |mk (n m:Г) (a b:А Str):OneK (.inr ((n:Int),a)) (.inr ((m:Int),b))
МOv:NK->А Г
 | .inl l=>Ou l
 | .inr (n,l)=>n.toNat::Ou l
ЛEv{a b:NK}(h:OneK a b)(e:Ov a=Ov b):a=b:=by
 cases h with
 |nm a b=>K[Es e]
 |mk n m a b=>O⟨e1,e2⟩:=List.cons.inj e;K[Es e2,show n=m by L e1]
ЛZar(n:Г){a b:NK}(h:OneK a b):We (n+3) (Zn a) (Zn b)=aA (decide (a=b)):=by
 cases h with
 |nm a b=>show We (n+3) (.tup (a.map D.str)) (.tup (b.map D.str))=_;K[show n+3=n+1+2 from rfl,Hc];E congrArg aA (decide_eq_decide.mpr ⟨λz=>by K[z],λz=>Sum.inl.inj z⟩)
 |mk n1 m1 a b=>
  V e:=Hc n a b;show(Ba (We (n+2)) [.int (n1:Int),.tup (a.map D.str)] [.int (m1:Int),.tup (b.map D.str)]).bind (λb'=>aA (b'&&decide (2=2)))=_;show((We (n+2) (.int (n1:Int)) (.int (m1:Int))).bind λb'=>((We (n+2) (.tup (a.map D.str)) (.tup (b.map D.str))).bind λc1=>(aA aC).bind λc2=>aA (c1&&c2)).bind λc'=>aA (b'&&c')).bind (λb'=>aA (b'&&decide (2=2)))=_;K[e,show We (n+2) (.int (n1:Int)) (.int (m1:Int))=aA (decide ((n1:Int)=m1)) by simp];T aA _=_;R congrArg aA ?_;B h1:n1=m1
  ·B h2:a=b
   ·subst h1 h2;simp
   ·Q h1;V hf:decide ((d3 ((n1:Int),a):NK)=d3 ((n1:Int),b))=aD:=Ж λz=>h2 (Prod.mk.inj (d3.inj z)).2;K[hf,Ж h2];simp
  ·V hf:decide ((d3 ((n1:Int),a):NK)=d3 ((m1:Int),b))=aD:=Ж λz=>h1 (by V :=(Prod.mk.inj (d3.inj z)).1;W);K[hf,Ж (show¬(n1:Int)=m1 by W)];simp
ЛZas(n:Г){a b:NK}(h:OneK a b):TX.Ug (n+4) (Zn a) (Zn b)=aA (decide (Ov a<Ov b)):=by
 cases h with
 |nm a b=>E Et (n+2) a b
 |mk n1 m1 a b=>
  V e:=Hc (n+1) a b;V e2:=Et (n+1) a b;show(We (n+3) (.int (n1:Int)) (.int (m1:Int))).bind (λc=>if c=aC then(We (n+3) (.tup (a.map D.str)) (.tup (b.map D.str))).bind (λc=>if c=aC then aA aD else TX.Ug (n+3) (.tup (a.map D.str)) (.tup (b.map D.str)))else TX.Ug (n+3) (.int (n1:Int)) (.int (m1:Int)))=_;K[e,show We (n+3) (.int (n1:Int)) (.int (m1:Int))=aA (decide ((n1:Int)=m1)) by simp];show(if decide ((n1:Int)=m1)=aC then(if decide (a=b)=aC then aA aD else TX.Rx (We (n+2)) (TX.Ug (n+2)) (a.map D.str) (b.map D.str))else aA (decide ((n1:Int)<m1)))=_;K[e2];V el:(Ov (.inr ((n1:Int),a))<Ov (.inr ((m1:Int),b)))↔(n1<m1\/(n1=m1/\Ou a<Ou b)):=by show((n1:Int).toNat::Ou a<(m1:Int).toNat::Ou b)↔_;K[gx];simp
  B h1:n1=m1
  ·K[Е (by simp[h1])];B h2:a=b
   ·K[Е (by simp[h2])];R congrArg aA (Ж ?_).symm;K[el];subst h1 h2;rintro(z|⟨_,z⟩)
    ·W
    ·E fg _ z
   ·K[Д (by simp[h2])];R congrArg aA (decide_eq_decide.mpr ?_);K[el];E⟨λz=>.inr ⟨h1,z⟩,λz=>z.elim (λz=>by W) λz=>z.2⟩
  ·K[Д (by simp;W)];R congrArg aA (decide_eq_decide.mpr ?_);K[el];E⟨λz=>.inl И,λz=>z.elim (λz=>by W) λz=>absurd z.1 h1⟩
МCc(ks:А NK):Prop:=(∀k∈ks,∃(x:Str) (l:А Str),k= .inl (x::l))\/∀k∈ks,∃(n:Г) (l:А Str),k= .inr ((n:Int),l)
ЛCc.one{ks:А NK}(h:Cc ks){a b:NK}(ha:a∈ks)(hb:b∈ks):OneK a b:=by
 J h with h|h
 ·O⟨x,l,rfl⟩:=h a ha;O⟨y,m,rfl⟩:=h b hb;E .nm _ _
 ·O⟨x,l,rfl⟩:=h a ha;O⟨y,m,rfl⟩:=h b hb;E .mk _ _ _ _
ЛCc.sub{ks js:А NK}(h:Cc ks)(hs:∀k∈js,k∈ks):Cc js:=h.imp (λh k hk=>h k (hs k hk)) λh k hk=>h k (hs k hk)
МZgb(d:D):А Nat:=Ov ((nk? d).getD (.inl []))
ЛTz(k:NK):Zgb (Zn k)=Ov k:=by U Zgb;K[Co];rfl
ЛKx{ks:А NK}(h:Cc ks)(nd:ks.Nodup):TX.KeysOk (ks.map Zn):=by
 R⟨?_,Zgb,λa ha b hb=>?_,?_⟩
 ·J h with h|h
  ·R⟨.str,λd hd=>?_⟩;O⟨k,hk,rfl⟩:=ax.mp hd;O⟨x,l,rfl⟩:=h k hk;E .str _ _
  ·R⟨.int,λd hd=>?_⟩;O⟨k,hk,rfl⟩:=ax.mp hd;O⟨x,l,rfl⟩:=h k hk;E .int _ _
 ·O⟨k,hk,rfl⟩:=ax.mp ha;O⟨l,hl,rfl⟩:=ax.mp hb;K[Tz,Tz];E Zas 12 (h.one hk hl)
 ·R Gc.mpr ?_;K[cg];R List.Pairwise.map _ (R:=λa b=>a≠b/\a∈ks/\b∈ks) (λa b ⟨h1,h2,h3⟩ e=>h1 ?_) ?_
  ·V e:Zgb (Zn a)=Zgb (Zn b):=e;K[Tz,Tz]at e;E Ev (h.one h2 h3) e
  ·E(gz.mp nd).imp fun{a b} z=>⟨z.2.2,z.1,z.2.1⟩
ЛZgc{ks:А NK}{k x:NK}:x∈Tp ks k↔x∈ks\/x=k:=by
 U Tp;V e:(ks.any λz=>decide (z=k))=aC↔k∈ks:=by K[List.any_eq_true];E⟨λ⟨z,hz,e⟩=>by V :z=k:=of_decide_eq_true e;K[<-this];E hz,λh=>⟨k,h,decide_eq_true rfl⟩⟩
 split
 ·rename_i h;E⟨.inl,λz=>z.elim id λz=>by K[z];E e.mp h⟩
 ·K[bz,ar]
ЛZjo{ks:А NK}{k:NK}(h:ks.Nodup):(Tp ks k).Nodup:=by
 U Tp;split
 ·E h
 ·rename_i hn;R dq.mpr ⟨h,by simp,λa ha b hb z=>hn ?_⟩;K[ar.mp hb]at z;K[List.any_eq_true];E⟨a,ha,decide_eq_true z⟩
ЛEw:∀(ks acc:А NK),acc.Nodup->(ks.foldl Tp acc).Nodup/\∀x,x∈ks.foldl Tp acc↔x∈acc\/x∈ks
 | [],acc,h=>⟨h,λx=>by simp⟩
 |k::ks,acc,h=>by O⟨a,b⟩:=Ew ks (Tp acc k) (Zjo h);R⟨a,λx=>?_⟩;K[List.foldl_cons,b x,Zgc,bx];E⟨λz=>by J z with(z|z)|z;(· E .inl z);(· E .inr (.inl z));E .inr (.inr z),λz=>by J z with z|z|z;(· E .inl (.inl z));(· E .inl (.inr z));E .inr z⟩
ЛEx(ks:А NK):(Eg ks).Nodup:=(Ew ks [] df).1
ЛR6(ks:А NK)(x:NK):x∈Eg ks↔x∈ks:=by K[show Eg ks=ks.foldl Tp []from rfl,(Ew ks [] df).2 x];simp
ЛZjp(ks:А NK):(Eg ks).length<=ks.length:=da (Ex ks) λx hx=>(R6 ks x).mp hx
ЛZgd{ks out:А NK}(h:Cc ks)(hl:ks.length<64)(hm:∀x,x∈out↔x∈ks)(hs:out.Pairwise λa b=>Ov a<Ov b):El ks=aA (.ol (out.map Zn)):=by
 V nd:out.Nodup:=hs.imp fun{a b} z e=>by K[e]at z;E fg _ z
 V pm:out.Perm (Eg ks):=(List.perm_ext_iff_of_nodup nd (Ex ks)).mpr λx=>by K[hm,R6]
 V hk:=h.sub λk hk=>(R6 ks k).mp hk;R Zfw И (by V :=Zjp ks;W) (Kx hk (Ex ks)) ⟨pm.map _,List.pairwise_map.mpr ?_⟩;R(gz.mp hs).imp fun{a b} ⟨ha,hb,z⟩=>?_;K[Zas 12 (h.one ((hm b).mp hb) ((hm a).mp ha))];E congrArg aA (Ж λy=>fg _ (List.lt_trans y z))
end My
namespace My
open DL PySem TT
ЛZat{ds out:А D}(hk:TX.KeysOk ds)(hl:ds.length<64)(so:R1 ds out):TX.Tn ds ds=aA (.ol out):=by O⟨p,hp,e⟩:=TX.Zi1 (ks:=ds) (xs:=ds) rfl hl hk;K[e,G8 hk (Eh hp) so]
open Classical in
ЛZau{α:Type}{f:α->D}{enc:α->А Г}{xs out:А α}{kk:TX.KK}(hk:∀a∈xs,TX.IsKey kk (f a))(hlt:∀a∈xs,∀b∈xs,TX.Ug 16 (f a) (f b)=aA (decide (enc a<enc b)))(nd:(xs.map enc).Nodup)(hl:xs.length<64)
  (hp:out.Perm xs) (hs:out.Pairwise λa b=>¬enc b<enc a):TX.Tn (xs.map f) (xs.map f)=aA (.ol (out.map f)):=by
 V same:∀a∈xs,∀b∈xs,f a=f b->enc a=enc b:=λa ha b hb e=>by
  V h1:=hlt a ha b hb;V h2:=hlt b hb a ha;K[<-e,hlt a ha a ha]at h1;K[<-e,hlt a ha a ha]at h2;V i:¬enc a<enc a:=fg _;V h1:decide (enc a<enc b)=aD:=by K[<-cz.inj h1];EЖ i
  V h2:decide (enc b<enc a)=aD:=by K[<-cz.inj h2];EЖ i
  E List.le_antisymm (de.mp (of_decide_eq_false h2)) (de.mp (of_decide_eq_false h1))
 let e:D->А Nat:=λd=>if h:∃a,a∈xs/\f a=d then enc (Classical.choose h)else[]
 V ee:∀a∈xs,e (f a)=enc a:=λa ha=>by
  V h:∃a',a'∈xs/\f a'=f a:=⟨a,ha,rfl⟩
  show(if h:∃a',a'∈xs/\f a'=f a then enc (Classical.choose h)else[])=enc a;K[dif_pos h];E same _ (Classical.choose_spec h).1 a ha (Classical.choose_spec h).2
 V ko:TX.KeysOk (xs.map f):=by
  R⟨⟨kk,λd hd=>?_⟩,e,λa ha b hb=>?_,?_⟩
  ·O⟨a,ha,rfl⟩:=ax.mp hd;E hk a ha
  ·O⟨x,hx,rfl⟩:=ax.mp ha;O⟨y,hy,rfl⟩:=ax.mp hb;K[ee x hx,ee y hy];E hlt x hx y hy
  ·R Gc.mpr ?_;K[cg];V :xs.map (e∘f)=xs.map enc:=List.map_congr_left λa ha=>ee a ha;K[this];E nd
 R Zat ko (by K[aq];E hl) ⟨hp.map f,List.pairwise_map.mpr ?_⟩;R(gz.mp hs).imp fun{a b} ⟨ha,hb,z⟩=>?_;K[hlt b (hp.mem_iff.mp hb) a (hp.mem_iff.mp ha)];E congrArg aA (Ж z)
аT0:=Str×Str×А NK
аWm(t:T0):D:=.tup [.str t.1,.str t.2.1,.lst (t.2.2.map Zn)]
structure HP where
 ns:А NK
 ms:А NK
 fs:А T0
аZ0(h:HP):D:=.tup [.lst (h.ns.map Zn),.lst (h.ms.map Zn),.lst (h.fs.map Wm)]
МRb(k:NK):Prop:=∃(x:Str) (l:А Str),k= .inl (x::l)
МisM(k:NK):Prop:=∃(n:Г) (l:А Str),k= .inr ((n:Int),l)
structure HPok(h:HP):В where
 ne:h.ns≠[]
 nm:∀k∈h.ns,Rb k
 mr:∀k∈h.ms,isM k
 fl:∀t∈h.fs,∀k∈t.2.2,Rb k
ЛVc(n:Г):∀as bs:А NK,Cc (as++bs)->as.length=bs.length->Ba (We (n+3)) (as.map Zn) (bs.map Zn)=aA (decide (as=bs))
 | [],[],_,_=>rfl
 | [],_::_,_,h=>by simp at h
 |_::_,[],_,h=>by simp at h
 |a::as,b::bs,ho,hl=>by
  V h1:OneK a b:=ho.one К К;V ih:=Vc n as bs (ho.sub λk hk=>by
   J bz.mp hk with z|z
   ·simp[z]
   ·simp[z]) (by L hl)
  show(We (n+3) (Zn a) (Zn b)).bind (λb'=>(Ba (We (n+3)) (as.map Zn) (bs.map Zn)).bind λc'=>aA (b'&&c'))=_;K[Zar n h1,ih];T aA _=_;R congrArg aA ?_;B h:a=b
  ·B h2:as=bs
   ·simp[h,h2]
   ·K[Ж h2,Ж λz=>h2 (List.cons.inj z).2];simp
  ·K[Ж h,Ж λz=>h (List.cons.inj z).1];simp
ЛZn9(n:Г){as bs:А NK}(ho:Cc (as++bs)):We (n+4) (.lst (as.map Zn)) (.lst (bs.map Zn))=aA (decide (as=bs)):=by
 show(if(as.map Zn).length=(bs.map Zn).length then Ba (We (n+3)) (as.map Zn) (bs.map Zn)else aA aD)=_;K[aq,aq];B h:as.length=bs.length
 ·K[Е h,Vc n as bs ho h]
 ·K[Д h];E congrArg aA (Ж λz=>h (by K[z])).symm
ЛZoa(n:Г)(k:NK)(h:Rb k\/isM k):We (n+3) (Zn k) (Zn k)=aA aC:=by
 V :OneK k k:=by
  J h with⟨x,l,rfl⟩|⟨x,l,rfl⟩
  ·E .nm _ _
  ·E .mk _ _ _ _
 K[Zar n this];simp
ЛGe(n:Г)(ks:А NK)(h:∀k∈ks,Rb k\/isM k):We (n+4) (.lst (ks.map Zn)) (.lst (ks.map Zn))=aA aC:=R5 (n+3) _ λx hx=>by O⟨k,hk,rfl⟩:=ax.mp hx;E Zoa n k (h k hk)
ЛZav(n:Г)(t:T0)(h:∀k∈t.2.2,Rb k):We (n+5) (Wm t) (Wm t)=aA aC:=Zao (n+4) _ λx hx=>by
 simp only[bx,List.not_mem_nil,or_false]at hx;J hx with rfl|rfl|rfl
 ·E Zap (n+3) _
 ·E Zap (n+3) _
 ·E Ge n _ λk hk=>.inl (h k hk)
ЛZob(n:Г)(h:HP)(ok:HPok h):We (n+7) (Z0 h) (Z0 h)=aA aC:=Zao (n+6) _ λx hx=>by
 simp only[bx,List.not_mem_nil,or_false]at hx;J hx with rfl|rfl|rfl
 ·E Ge (n+2) _ λk hk=>.inl (ok.nm k hk)
 ·E Ge (n+2) _ λk hk=>.inr (ok.mr k hk)
 ·E R5 (n+5) _ λx hx=>by O⟨t,ht,rfl⟩:=ax.mp hx;E Zav n t (ok.fl t ht)
ЛR7(n:Г)(hs:А HP)(ok:∀h∈hs,HPok h):We (n+8) (.lst (hs.map Z0)) (.lst (hs.map Z0))=aA aC:=R5 (n+7) _ λx hx=>by O⟨h,hh,rfl⟩:=ax.mp hx;E Zob n h (ok h hh)
МWw(t:T0):А Nat:=tE t.1.cps.toList++(tE t.2.1.cps.toList++[])
ЛZge{s t:T0}(h:Ww s=Ww t):s.1=t.1/\s.2.1=t.2.1:=by O⟨h1,h2⟩:=Zn8 _ _ _ _ h;E⟨Er h1,Er (Zn8 _ _ _ _ h2).1⟩
ЛZoc(s t:T0)(hs:∀k∈s.2.2,Rb k)(h:Ww s=Ww t->s=t):TX.Ug 16 (Wm s) (Wm t)=aA (decide (Ww s<Ww t)):=by
 V el:(Ww s<Ww t)↔(s.1.cps.toList<t.1.cps.toList\/(s.1.cps.toList=t.1.cps.toList/\s.2.1.cps.toList<t.2.1.cps.toList)):=by
  U Ww;K[Zaq,Zaq];constructor
  ·rintro(z|⟨z,w|⟨_,w⟩⟩)
   ·E .inl z
   ·E .inr ⟨z,w⟩
   ·E absurd w (fg _)
  ·rintro(z|⟨z,w⟩)
   ·E .inl z
   ·E .inr ⟨z,.inl w⟩
 show(We 15 (.str s.1) (.str t.1)).bind (λc=>if c=aC then(We 15 (.str s.2.1) (.str t.2.1)).bind (λc=>if c=aC then(We 15 (.lst (s.2.2.map Zn)) (.lst (t.2.2.map Zn))).bind (λc=>if c=aC then aA aD else TX.Ug 15 (.lst (s.2.2.map Zn)) (.lst (t.2.2.map Zn)))else TX.Ug 15 (.str s.2.1) (.str t.2.1))else TX.Ug 15 (.str s.1) (.str t.1))=_;K[Nz,Nz,Hb,Hb];B h1:s.1=t.1
 ·K[decide_eq_true h1];B h2:s.2.1=t.2.1
  ·K[decide_eq_true h2];V e:s=t:=h (by U Ww;K[h1,h2]);Q e;K[Ge 11 _ λk hk=>.inl (hs k hk)];T aA aD=_;E congrArg aA (Ж (fg _)).symm
  ·K[Ж h2];T aA (decide (s.2.1.cps.toList<t.2.1.cps.toList))=_;R congrArg aA (decide_eq_decide.mpr ?_);K[el,h1];E⟨λz=>.inr ⟨rfl,z⟩,λz=>z.elim (λz=>absurd z (fg _)) λz=>z.2⟩
 ·K[Ж h1];T aA (decide (s.1.cps.toList<t.1.cps.toList))=_;R congrArg aA (decide_eq_decide.mpr ?_);K[el];E⟨.inl,λz=>z.elim id λz=>absurd (Er z.1) h1⟩
ЛZgf{α β:Type}{f:α->β}{xs:А α}(h:(xs.map f).Nodup){a b:α}(ha:a∈xs)(hb:b∈xs)(e:f a=f b):a=b:=by O⟨i,hi,rfl⟩:=eh ha;O⟨j,hj,rfl⟩:=eh hb;V :i=j:=(List.getElem?_inj (by K[aq];E hi) h).mp (by simp[hi,hj,e]);Q this;rfl
ЛZjq{ts out:А T0}(hf:∀t∈ts,∀k∈t.2.2,Rb k)(nd:(ts.map Ww).Nodup)(hl:ts.length<64)(hp:out.Perm ts)(hs:out.Pairwise λa b=>¬Ww b<Ww a):TX.Tn (ts.map Wm) (ts.map Wm)=aA (.ol (out.map Wm)):=
 Zau (enc:=Ww) (kk:=.str) (λa _=>.str _ _) (λa ha b hb=>Zoc a b (hf a ha) λe=>Zgf nd ha hb e) nd hl hp hs
МQs(h:HP):А Nat:=Ov (h.ns.headD (.inl []))
ЛZsl(a b:HP)(oa:HPok a)(ob:HPok b)(h:Qs a=Qs b->a=b):TX.Ug 16 (Z0 a) (Z0 b)=aA (decide (Qs a<Qs b)):=by
 show(We 15 (.lst (a.ns.map Zn)) (.lst (b.ns.map Zn))).bind (λc=>if c=aC then(We 15 (.lst (a.ms.map Zn)) (.lst (b.ms.map Zn))).bind (λc=>if c=aC then(We 15 (.lst (a.fs.map Wm)) (.lst (b.fs.map Wm))).bind (λc=>if c=aC then aA aD else TX.Ug 15 (.lst (a.fs.map Wm)) (.lst (b.fs.map Wm)))else TX.Ug 15 (.lst (a.ms.map Zn)) (.lst (b.ms.map Zn)))else TX.Ug 15 (.lst (a.ns.map Zn)) (.lst (b.ns.map Zn)))=_;V on:Cc (a.ns++b.ns):=.inl λk hk=>by
  J bz.mp hk with z|z
  ·E oa.nm k z
  ·E ob.nm k z
 K[Zn9 11 on];B hn:Qs a=Qs b
 ·V e:=h hn;Q e;K[decide_eq_true rfl,Ge 11 _ λk hk=>.inr (oa.mr k hk)];V e3:We 15 (.lst (a.fs.map Wm)) (.lst (a.fs.map Wm))=aA aC:=R5 14 _ λx hx=>by O⟨t,ht,rfl⟩:=ax.mp hx;E Zav 9 t (oa.fl t ht)
  K[e3];T aA aD=_;E congrArg aA (Ж (fg _)).symm
 ·O⟨x,as,ea⟩:=ic oa.ne;O⟨y,bs,eb⟩:=ic ob.ne;V hxy:x≠y:=λz=>hn (by U Qs;K[ea,eb,z];rfl);K[Ж λz=>hxy (by K[ea,eb]at z;E(List.cons.inj z).1)];T TX.Ug 15 (.lst (a.ns.map Zn)) (.lst (b.ns.map Zn))=_;U Qs;K[ea,eb];V ok:OneK x y:=on.one (by K[ea];simp) (by K[eb];simp);show(We 14 (Zn x) (Zn y)).bind (λc=>if c=aC then _ else TX.Ug 14 (Zn x) (Zn y))=_;K[Zar 11 ok,Ж hxy];show TX.Ug 14 (Zn x) (Zn y)=_;E Zas 10 ok
ЛZgg{hs out:А HP}(ok:∀h∈hs,HPok h)(nd:(hs.map Qs).Nodup)(hl:hs.length<64)(hp:out.Perm hs)(hsr:out.Pairwise λa b=>¬Qs b<Qs a):TX.Tn (hs.map Z0) (hs.map Z0)=aA (.ol (out.map Z0)):=
 Zau (enc:=Qs) (kk:=.lst) (λa _=>.lst _ _) (λa ha b hb=>Zsl a b (ok a ha) (ok b hb) λe=>Zgf nd ha hb e) nd hl hp hsr
end My
namespace My
open DL PySem TT
аUi(h:HP):А NK:=h.ns++h.ms
аkLt(a b:NK):Prop:=Ov a<Ov b
аtLt(a b:T0):Prop:=Ww a<Ww b
ЛZaw{a b:А Г}(h:a<b):¬b<a:=λz=>fg _ (List.lt_trans h z)
ЛW8{α:Type}{f:α->А Г}{l:А α}(h:l.Pairwise λa b=>f a<f b):l.Nodup:=h.imp fun{a b} h e=>by Q e;E fg _ h
ЛJt{α:Type}{f:α->А Г}{l m:А α}(h1:l.Pairwise λa b=>f a<f b)(h2:m.Pairwise λa b=>f a<f b)(hm:∀x,x∈l↔x∈m):l=m:=
 List.Perm.eq_of_pairwise (λx y _ _ z1 z2=>absurd z2 (Zaw z1)) h1 h2 ((List.perm_ext_iff_of_nodup (W8 h1) (W8 h2)).mpr hm)
structure IsMerge(G:HP->В)(h:HP):В where
 ns_s:h.ns.Pairwise kLt
 ns_m:∀k,k∈h.ns↔∃a,G a/\k∈a.ns
 ms_s:h.ms.Pairwise kLt
 ms_m:∀k,k∈h.ms↔∃a,G a/\k∈a.ms
 fs_s:h.fs.Pairwise tLt
 fs_m:∀f v,(∃l,(f,v,l)∈h.fs)↔∃a,G a/\∃l,(f,v,l)∈a.fs
 fs_l:∀t∈h.fs,t.2.2.Pairwise kLt/\∀k,k∈t.2.2↔∃a,G a/\∃l,(t.1,t.2.1,l)∈a.fs/\k∈l
ЛIsMerge.uniq{G G':HP->В}{h h':HP}(m:IsMerge G h)(m':IsMerge G' h')(e:∀a,G a↔G' a):h=h':=by
 V e1:h.ns=h'.ns:=Jt m.ns_s m'.ns_s λk=>by K[m.ns_m,m'.ns_m];simp only[e]
 V e2:h.ms=h'.ms:=Jt m.ms_s m'.ms_s λk=>by K[m.ms_m,m'.ms_m];simp only[e]
 V one:∀{G G':HP->В} {h h':HP},IsMerge G h->IsMerge G' h'->(∀a,G a↔G' a)->∀t∈h.fs,t∈h'.fs:=fun{G G' h h'} m m' e t ht=>by
  V h1:=(m.fs_m t.1 t.2.1).mp ⟨t.2.2,ht⟩;simp only[e]at h1;O⟨l,hl⟩:=(m'.fs_m t.1 t.2.1).mpr h1;V :t.2.2=l:=Jt (m.fs_l t ht).1 (m'.fs_l _ hl).1 λk=>by K[(m.fs_l t ht).2,(m'.fs_l _ hl).2];simp only[e]
  K[<-this]at hl;E hl
 V e3:h.fs=h'.fs:=Jt m.fs_s m'.fs_s λt=>⟨one m m' e t,one m' m (λa=>(e a).symm) t⟩
 C h;C h';simp only at e1 e2 e3;K[e1,e2,e3]
Мshr(a b:HP):Prop:=∃t,t∈Ui a/\t∈Ui b
ЛZgh{a b:HP}(h:shr a b):shr b a:=let⟨t,h1,h2⟩:=h;⟨t,h2,h1⟩
inductive Conn(S:HP->В):HP->HP->В where
 |here {a:HP}:S a->Conn S a a
 |step {a b c:HP}:Conn S a b->S c->shr b c->Conn S a c
ЛConn.right{S:HP->В}{a b:HP}(h:Conn S a b):S b:=by
 cases h with
 |here h=>E h
 |step _ h _=>E h
ЛConn.trans{S:HP->В}{a b c:HP}(h:Conn S a b)(k:Conn S b c):Conn S a c:=by
 induction k with
 |here _=>E h
 |step _ hc sh ih=>E .step ih hc sh
ЛConn.symm{S:HP->В}{a b:HP}(h:Conn S a b):Conn S b a:=by
 induction h with
 |here h=>E .here h
 | @step b c k hc sh ih=>E(Conn.step (.here hc) k.right (Zgh sh)).trans ih
ЛConn.mono{S T:HP->В}(hs:∀a,S a->T a){a b:HP}(h:Conn S a b):Conn T a b:=by
 induction h with
 |here h=>E .here (hs _ h)
 |step _ hc sh ih=>E .step ih (hs _ hc) sh
ЛConn.congr{S T:HP->В}(hs:∀a,S a↔T a)(a b:HP):Conn S a b↔Conn T a b:=⟨Conn.mono λa h=>(hs a).mp h,Conn.mono λa h=>(hs a).mpr h⟩
structure IsPool(S:HP->В)(out:А HP):В where
 sorted:out.Pairwise λa b=>Qs a<Qs b
 each:∀h∈out,∃a,S a/\IsMerge (Conn S a) h
 all:∀a,S a->∃h∈out,IsMerge (Conn S a) h
ЛIsPool.uniq{S T:HP->В}{out out':А HP}(p:IsPool S out)(q:IsPool T out')(e:∀a,S a↔T a):out=out':=by
 V one:∀{S T:HP->В} {out out':А HP},IsPool S out->IsPool T out'->(∀a,S a↔T a)->∀h∈out,h∈out':=fun{S T out out'} p q e h hh=>by O⟨a,sa,m⟩:=p.each h hh;O⟨h',hh',m'⟩:=q.all a ((e a).mp sa);K[m.uniq m' (Conn.congr e a)];E hh'
 E Jt p.sorted q.sorted λh=>⟨one p q e h,one q p (λa=>(e a).symm) h⟩
ЛIsMerge.tie{G:HP->В}{h:HP}(m:IsMerge G h)(t:NK):t∈Ui h↔∃a,G a/\t∈Ui a:=by
 constructor
 ·I z;J bz.mp z with z|z
  ·O⟨a,g,z⟩:=(m.ns_m t).mp z;E⟨a,g,bj _ z⟩
  ·O⟨a,g,z⟩:=(m.ms_m t).mp z;E⟨a,g,bh _ z⟩
 ·rintro⟨a,g,z⟩;J bz.mp z with z|z
  ·E bj _ ((m.ns_m t).mpr ⟨a,g,z⟩)
  ·E bh _ ((m.ms_m t).mpr ⟨a,g,z⟩)
ЛIsMerge.of{G:HP->В}{P:HP->В}{part:HP->HP->В}{h:HP}(m:IsMerge P h)(hp:∀p,P p->IsMerge (part p) p)(e:∀a,G a↔∃p,P p/\part p a):IsMerge G h:=by
 R⟨m.ns_s,λk=>?_,m.ms_s,λk=>?_,m.fs_s,λf v=>?_,λt ht=>⟨(m.fs_l t ht).1,λk=>?_⟩⟩
 ·K[m.ns_m];constructor
  ·rintro⟨p,hP,hk⟩;O⟨a,g,hk⟩:=((hp p hP).ns_m k).mp hk;E⟨a,(e a).mpr ⟨p,hP,g⟩,hk⟩
  ·rintro⟨a,g,hk⟩;O⟨p,hP,g⟩:=(e a).mp g;E⟨p,hP,((hp p hP).ns_m k).mpr ⟨a,g,hk⟩⟩
 ·K[m.ms_m];constructor
  ·rintro⟨p,hP,hk⟩;O⟨a,g,hk⟩:=((hp p hP).ms_m k).mp hk;E⟨a,(e a).mpr ⟨p,hP,g⟩,hk⟩
  ·rintro⟨a,g,hk⟩;O⟨p,hP,g⟩:=(e a).mp g;E⟨p,hP,((hp p hP).ms_m k).mpr ⟨a,g,hk⟩⟩
 ·K[m.fs_m];constructor
  ·rintro⟨p,hP,hk⟩;O⟨a,g,hk⟩:=((hp p hP).fs_m f v).mp hk;E⟨a,(e a).mpr ⟨p,hP,g⟩,hk⟩
  ·rintro⟨a,g,hk⟩;O⟨p,hP,g⟩:=(e a).mp g;E⟨p,hP,((hp p hP).fs_m f v).mpr ⟨a,g,hk⟩⟩
 ·K[(m.fs_l t ht).2];constructor
  ·rintro⟨p,hP,l,hl,hk⟩;O⟨a,g,l',hl',hk⟩:=(((hp p hP).fs_l _ hl).2 k).mp hk;E⟨a,(e a).mpr ⟨p,hP,g⟩,l',hl',hk⟩
  ·rintro⟨a,g,l,hl,hk⟩;O⟨p,hP,g⟩:=(e a).mp g;O⟨l',hl'⟩:=((hp p hP).fs_m t.1 t.2.1).mpr ⟨a,g,l,hl⟩;E⟨p,hP,l',hl',(((hp p hP).fs_l _ hl').2 k).mpr ⟨a,g,l,hl,hk⟩⟩
ЛIsMerge.sum{X:HP->В}{h:HP}(h0:∃G,IsMerge G h/\∀b,G b->X b)(h1:∀b,X b->∃G,IsMerge G h/\G b):IsMerge X h:=by
 O⟨G,m,hG⟩:=h0;R⟨m.ns_s,λk=>⟨λz=>?_,λz=>?_⟩,m.ms_s,λk=>⟨λz=>?_,λz=>?_⟩,m.fs_s,λf v=>⟨λz=>?_,λz=>?_⟩,λt ht=>⟨(m.fs_l t ht).1,λk=>⟨λz=>?_,λz=>?_⟩⟩⟩
 ·O⟨a,g,z⟩:=(m.ns_m k).mp z;E⟨a,hG a g,z⟩
 ·O⟨a,x,z⟩:=z;O⟨G',m',g'⟩:=h1 a x;E(m'.ns_m k).mpr ⟨a,g',z⟩
 ·O⟨a,g,z⟩:=(m.ms_m k).mp z;E⟨a,hG a g,z⟩
 ·O⟨a,x,z⟩:=z;O⟨G',m',g'⟩:=h1 a x;E(m'.ms_m k).mpr ⟨a,g',z⟩
 ·O⟨a,g,z⟩:=(m.fs_m f v).mp z;E⟨a,hG a g,z⟩
 ·O⟨a,x,z⟩:=z;O⟨G',m',g'⟩:=h1 a x;E(m'.fs_m f v).mpr ⟨a,g',z⟩
 ·O⟨a,g,z⟩:=((m.fs_l t ht).2 k).mp z;E⟨a,hG a g,z⟩
 ·O⟨a,x,z⟩:=z;O⟨G',m',g'⟩:=h1 a x;E((m'.fs_l t ht).2 k).mpr ⟨a,g',z⟩
ЛIsPool.pour {S T : HP -> В} {P Q R : А HP} (nS : ∀ a, S a -> a.ns ≠ []) (nT : ∀ a, T a -> a.ns ≠ []) (p : IsPool S P) (q : IsPool T Q) (r : IsPool (λh => h ∈ P \/ h ∈ Q) R) : IsPool (λa => S a \/ T a) R := by
  let part : HP -> HP -> Prop := λh b => (∃ a, h ∈ P /\ IsMerge (Conn S a) h /\ Conn S a b) \/ (∃ a, h ∈ Q /\ IsMerge (Conn T a) h /\ Conn T a b);V pm : ∀ h b, part h b -> ∃ G, IsMerge G h /\ G b := λh b z => by
    J z with ⟨a, _, m, c⟩ | ⟨a, _, m, c⟩
    · E⟨_, m, c⟩
    · E⟨_, m, c⟩
  V pu : ∀ h b, part h b -> (S b \/ T b) /\ (h ∈ P \/ h ∈ Q) := λh b z => by
    J z with ⟨a, hp, m, c⟩ | ⟨a, hq, m, c⟩
    · E⟨.inl c.right, .inl hp⟩
    · E⟨.inr c.right, .inr hq⟩
  V pe : ∀ h, h ∈ P \/ h ∈ Q -> ∃ G a, IsMerge G h /\ G a /\ ∀ b, G b -> part h b := λh hh => by
    J hh with z | z
    · obtain ⟨a, sa, m⟩ := p.each h z
      E⟨_, a, m, .here sa, λb c => .inl ⟨a, z, m, c⟩⟩
    · obtain ⟨a, sa, m⟩ := q.each h z
      E⟨_, a, m, .here sa, λb c => .inr ⟨a, z, m, c⟩⟩
  V mp : ∀ h, h ∈ P \/ h ∈ Q -> IsMerge (part h) h := λh hh => by obtain ⟨G, a, m, ga, hG⟩ := pe h hh;E .sum ⟨G, m, hG⟩ (pm h)
  V tie : ∀ h t, h ∈ P \/ h ∈ Q -> (t ∈ Ui h ↔ ∃ b, part h b /\ t ∈ Ui b) := λh t hh => (mp h hh).tie t
  -- the members of one part hang together
  V up : ∀ h b c, part h b -> part h c -> (∀ G, IsMerge G h -> G b -> (∀ x, G x -> Conn (λa => S a \/ T a) b x) -> ∀ G', IsMerge G' h -> G' c -> (∀ x, G' x -> Conn (λa => S a \/ T a) c x) -> Conn (λa => S a \/ T a) b c) := λh b c hb hc G m gb cb G' m' gc cc => by
    V nb : b.ns ≠ [] := (pu h b hb).1.elim (nS b) (nT b);obtain ⟨k, l, ek⟩ := ic nb;V kb : k ∈ b.ns := by rw [ek]; E af
    V kh := (m.ns_m k).mpr ⟨b, gb, kb⟩;obtain ⟨y, gy, ky⟩ := (m'.ns_m k).mp kh;V sb : shr b y := ⟨k, bj _ kb, bj _ ky⟩
    V cy := cc y gy;E(Conn.step (.here (pu h b hb).1) cy.right sb).trans cy.symm
  V inS : ∀ {a b}, Conn S a b -> Conn (λa => S a \/ T a) a b := λh => h.mono λ_ z => .inl z;V inT : ∀ {a b}, Conn T a b -> Conn (λa => S a \/ T a) a b := λh => h.mono λ_ z => .inr z;V tog : ∀ h b, part h b -> ∃ G, IsMerge G h /\ G b /\ ∀ x, G x -> Conn (λa => S a \/ T a) b x := λh b z => by
    J z with ⟨a, _, m, c⟩ | ⟨a, _, m, c⟩
    · E⟨_, m, c, λx cx => inS (c.symm.trans cx)⟩
    · E⟨_, m, c, λx cx => inT (c.symm.trans cx)⟩
  V same : ∀ h b c, part h b -> part h c -> Conn (λa => S a \/ T a) b c := λh b c hb hc => by obtain ⟨G, m, gb, cb⟩ := tog h b hb;obtain ⟨G', m', gc, cc⟩ := tog h c hc;E up h b c hb hc G m gb cb G' m' gc cc
  V key : ∀ h0 a0, (h0 ∈ P \/ h0 ∈ Q) -> part h0 a0 -> ∀ b, Conn (λa => S a \/ T a) a0 b ↔ ∃ h, Conn (λh => h ∈ P \/ h ∈ Q) h0 h /\ part h b := λh0 a0 hh0 ha0 b => by
    constructor
    · intro c
      have : ∀ {x y}, Conn (λa => S a \/ T a) x y -> part h0 x -> ∃ h, Conn (λh => h ∈ P \/ h ∈ Q) h0 h /\ part h y := λ{x y} c => by
        induction c with
        | here _ => E λz => ⟨h0, .here hh0, z⟩
        | @step x y c' uc sh ih =>
          I z;rename_i y' c2;obtain ⟨h, ch, ph⟩ := ih z;obtain ⟨h', hh', m', g'⟩ : ∃ h', (h' ∈ P \/ h' ∈ Q) /\ part h' y /\ True := by
            J uc with uc | uc
            · obtain ⟨h', hh', m'⟩ := p.all _ uc
              E⟨h', .inl hh', .inl ⟨_, hh', m', .here uc⟩, trivial⟩
            · obtain ⟨h', hh', m'⟩ := q.all _ uc
              E⟨h', .inr hh', .inr ⟨_, hh', m', .here uc⟩, trivial⟩
          obtain ⟨t, t1, t2⟩ := sh;E⟨h', .step ch hh' ⟨t, (tie h t ch.right).mpr ⟨_, ph, t1⟩, (tie h' t hh').mpr ⟨_, m', t2⟩⟩, m'⟩
      E this c ha0
    · rintro ⟨h, ch, ph⟩
      have : ∀ {x y}, Conn (λh => h ∈ P \/ h ∈ Q) x y -> part x a0 -> ∀ b, part y b -> Conn (λa => S a \/ T a) a0 b := λ{x y} c => by
        induction c with
        | here _ => E λz b hb => same _ _ _ z hb
        | step c' hc sh ih =>intro z b hb;obtain ⟨t, t1, t2⟩ := sh;obtain ⟨u, pu1, tu⟩ := (tie _ t c'.right).mp t1;obtain ⟨v, pv1, tv⟩ := (tie _ t hc).mp t2;E(Conn.step (ih z u pu1) (pu _ v pv1).1 ⟨t, tu, tv⟩).trans (same _ _ _ pv1 hb)
      E this ch ha0 b ph
  V mk : ∀ h0 a0 r0, (h0 ∈ P \/ h0 ∈ Q) -> part h0 a0 -> IsMerge (Conn (λh => h ∈ P \/ h ∈ Q) h0) r0 -> IsMerge (Conn (λa => S a \/ T a) a0) r0 := λh0 a0 r0 hh0 ha0 m =>
    m.of (λh ch => mp h ch.right) (key h0 a0 hh0 ha0)
  R⟨r.sorted, λr0 hr => ?_, λa ua => ?_⟩
  · obtain ⟨h0, hh0, m⟩ := r.each r0 hr
    obtain ⟨G, a0, _, g, hG⟩ := pe h0 hh0;E⟨a0, (pu h0 a0 (hG a0 g)).1, mk h0 a0 r0 hh0 (hG a0 g) m⟩
  · obtain ⟨h', hh', ph⟩ : ∃ h', (h' ∈ P \/ h' ∈ Q) /\ part h' a := by
      J ua with uc | uc
      · obtain ⟨h', hh', m'⟩ := p.all _ uc
        E⟨h', .inl hh', .inl ⟨_, hh', m', .here uc⟩⟩
      · obtain ⟨h', hh', m'⟩ := q.all _ uc
        E⟨h', .inr hh', .inr ⟨_, hh', m', .here uc⟩⟩
    obtain ⟨r0, hr, m⟩ := r.all h' hh';E⟨r0, hr, mk h' a r0 hh' ph m⟩
end My
noncomputable section
local macro_rules| `(tactic|trivial)=> `(tactic|first|E Or.inl rfl|E gg (Or.inl rfl)|E gg (gg rfl)|E gg rfl)
namespace Gen
open PySem PySem.Spec PyProof.Rows L2 DL
МN0(i:Г):Stmt:=PySem.Challenge.pw_citeward_k39_whole_any_order.main.body.getD i (.Pass ⟨0,0,0,0⟩)
аZod:Nat:=1000
аBv:Stmt:=N0 13
аUy:Stmt:=N0 14
аBw:Stmt:=N0 15
аUz:Stmt:=N0 16
аOx:Stmt:=N0 7
аN3:Stmt:=N0 8
аOy:Stmt:=N0 9
аMz:Stmt:=N0 6
аN4:Stmt:=N0 5
аRc:Stmt:=N0 17
аBx:Stmt:=N0 12
аU0:Stmt:=N0 11
аBz:Stmt:=N0 3
аCs:Stmt:=N0 4
аB0:Stmt:=N0 2
аRe:Stmt:=N0 1
аB2:Stmt:=N0 18
аOz:Stmt:=N0 19
аB3:Stmt:=N0 20
МWf:FS:=
 Z4 (Y0 9 (Zm Av (Za 6) (Yq Zid (Zc (Zm eqX (Za 8) (Za 4)) Zj)))) (Y0 7 (Zm Os (Za 7) (Zm O5 (Za 2) (Zm Uf (Zm Os (Zm Rr (Za 0) (Zm Os (Za 8) (Zf (.int 2)))) (Za 9)) (Zf (.int 22))))))
МJg:FS:=
 Z4 (Y0 7 (Zf (.str ""))) (Z4 (J1 (Tk (Zc (Za 3) Zj)) (Zd 8) Wf) (Rq 5 (Za 7)))
МCu:FS:=
 Z4 (Y0 2 (Zf (.str "abcdefghjlmpqrstuvwxyz"))) (Z4 (Y0 3 (Zm Os (Zf (.int 1)) (Zm Uf (Za 0) (Zf (.int 8))))) (Z4 (Y0 4 (Zm Uf (Zm Rr (Za 0) (Zf (.int 8))) (Za 3))) (Z4 (Y0 5 (U9 (Zs))) (Z4 (J1 (Tk (Zc (Za 1) Zj)) (Zd 6) Jg) (Jq (Za 5))))))
МYx:А D->Б SV:=Qa Cu 10
МQj:FS:=
 Z4 (Rq 2 (Zm Uf (Za 3) (Zf (.int 5040)))) (Y0 3 (Zm Rr (Za 3) (Zf (.int 5040))))
МQk:FS:=
 Z4 (Y0 3 (Zm Uf (Zm Av (Zm Os (Zm Os (Za 3) (Za 4)) (Zf (.int 1))) (Zf (.int 48271))) (Zf (.int 2147483647)))) (Rq 2 (Zm Uf (Zm Av (Za 3) (Zf (.int 69621))) (Zf (.int 2147483629))))
МJh:FS:=
 Z4 (Y0 2 (U9 (Zs))) (Z4 (Y0 3 (Zm Rr (Za 0) (Zf (.int 2)))) (Z4 (Xc (Ys (Zm eqX (Zm Uf (Za 0) (Zf (.int 2))) (Zf (.int 1)))) (Z4 (J1 (Tk (Zc (Za 1) Zj)) (Zd 4) Qj) (Jq (Za 2))) (Ut)) (Z4 (Y0 3 (Zm Uf (Za 3) (Zf (.int 2147483647)))) (Z4 (J1 (Tk (Zc (Za 1) Zj)) (Zd 4) Qk) (Jq (Za 2))))))
МYm:А D->Б SV:=Qa Jh 5
МJi:FS:=
 Rq 5 (Zm O5 (Zm Os (Za 0) (U9 (Zh (Zf (.str "kind")) (Zs)))) (Zm Uf (Zm O5 (Za 2) (Zm Os (Zm Os (Zf (.int 2)) (Zm Av (Zf (.int 3)) (Za 4))) (Za 6))) (Zf (.int 4))))
МJj:FS:=
 Z4 (Y0 5 (U9 (Zs))) (Z4 (J1 (Tk (Zc (Zm Os (Zf (.int 1)) (Zm Uf (Zm O5 (Za 2) (Zm Os (Zf (.int 1)) (Zm Av (Zf (.int 3)) (Za 4)))) (Zf (.int 2)))) Zj)) (Zd 6) Ji) (Rq 3 (Za 5)))
МCv:FS:=
 Z4 (Y0 2 (Yc 2 Ym (Zc (Za 1) (Zc (Zf (.int 10)) (Zj))))) (Z4 (Y0 3 (U9 (Zs))) (Z4 (J1 (Tk (Zc (Zm Uf (Zm O5 (Za 2) (Zf (.int 0))) (Zf (.int 4))) Zj)) (Zd 4) Jj) (Jq (Za 3))))
МJu:А D->Б SV:=Qa Cv 7
МY9:FS:=
 Xc (Ys (Zm gtD (Zm Uf (Zm O5 (Za 7) (Za 9)) (Zf (.int 4))) (Zf (.int 0)))) (Ir 8 (Za 10) (Zm Os (Zf (.str "It's ")) (Yq Zb0 (Zc (Zm Uf (Zm O5 (Za 7) (Zm Os (Zf (.int 3)) (Za 9))) (Za 3)) Zj)))) (Ut)
МWa:FS:=
 Z4 (Y0 7 (Yc 2 Ym (Zc (Za 6) (Zc (Zf (.int 7)) (Zj))))) (Z4 (Y0 8 (Dl)) (Z4 (J1 (Mo (Zh (Za 1) Zs)) (Wj 2 (Zt (Zd 9) (Zt (Zd 10) (Wi)))) Y9) (Vb 4 (Zm Uf (Za 5) (Zf (.int 3))) (Zm O5 (Za 0) (Zm Rr (Za 5) (Zf (.int 3)))) (tupF (Zh (Zm O5 (U9 (Xt ["book","part"] (Zs))) (Zm Uf (Zm O5 (Za 7) (Zf (.int 6))) (Zf (.int 2)))) (Zh (Za 8) (Zs)))))))
МO0:FS:=
 Z4 (Y0 4 (Zf8)) (Z4 (J1 (Mo (Zh (Za 2) Zs)) (Wj 2 (Zt (Zd 5) (Zt (Zd 6) (Wi)))) Wa) (Zin (Za 4)))
МQg:А D->Б SV:=Qa O0 11
МU1:FS:=
 Th 1 (Za 4) 2 aD
МWy:FS:=
 J1 (Cd (Zm Os (Zm O5 (Za 3) (Zf (.int 0))) (Zm O5 (Za 3) (Zf (.int 1))))) (Zd 4) U1
МB4:FS:=
 Z4 (Y0 1 (Ku)) (Z4 (J1 (Mo (Zh (Za 0) Zs)) (Wj 2 (Zt (Zd 2) (Zt (Zd 3) (Wi)))) Wy) (Zin (Za 1)))
МQx:А D->Б SV:=Qa B4 5
МU2:FS:=
 Xc (Ys (Zm Au (Za 7) (Za 3))) (Z4 (Ir 3 (Za 7) (Zf (.bl aC))) (Rq 4 (Za 7))) (Ut)
МR8:FS:=
 J1 (Cd (Zm Zf3 (Za 1) (Za 6))) (Zd 7) U2
МU3:FT:=
 Ys (Zm gtD (Yq Iy (Zc (Za 4) Zj)) (Zf (.int 0)))
МCw:FS:=
 Z4 (Nx 5 0 4) (J1 (Cd (Zm Os (Zm O5 (Za 5) (Zf (.int 0))) (Zm O5 (Za 5) (Zf (.int 1))))) (Zd 6) R8)
МHe:FS:=
 Z4 (Y0 3 (Zam 2 (Zf (.bl aC)))) (Z4 (Y0 4 (U9 (Zh (Za 2) (Zs)))) (Z4 (Uu U3 Cw Zod) (Jq (Yq Sr (Zc (Za 3) Zj)))))
МEy:А D->Б SV:=Qa He 8
МU4:FS:=
 Th 3 (tupF (Zh (Za 5) (Zh (Za 6) (Zs)))) 7 aC
МWz:FS:=
 Z4 (Em 1 (Zm O5 (Za 4) (Zf (.int 0)))) (Z4 (Em 2 (Zm O5 (Za 4) (Zf (.int 1)))) (J1 (Cd (Zm O5 (Za 4) (Zf (.int 2)))) (Wj 3 (Zt (Zd 5) (Zt (Zd 6) (Zt (Zd 7) (Wi))))) U4))
МQy:FE:=
 tupF (Zh (Zm O5 (Za 0) (Zf (.int 0))) (Zh (Zm O5 (Za 0) (Zf (.int 1))) (Zh (Yq Cp (Zc (Zm Zf3 (Za 1) (Za 0)) Zj)) (Zs))))
МB5:FS:=
 Z4 (Y0 1 (U9 (Zs))) (Z4 (Y0 2 (U9 (Zs))) (Z4 (Y0 3 (Ku)) (Z4 (J1 (Cd (Za 0)) (Zd 4) Wz) (Z4 (Y0 8 (Og [.own,.cap 3,.acc] 2 (Zf2 (Za 3)) (Zd 0) (Q7) Qy)) (Jq (tupF (Zh (Yq Cp (Zc (Za 1) Zj)) (Zh (Yq Cp (Zc (Za 2) Zj)) (Zh (Yq Cm (Zc (Za 8) Zj)) (Zs))))))))))
МQz:А D->Б SV:=Qa B5 9
МU5:FS:=
 Ir 3 (Za 6) (Zf (.bl aC))
МB6:FE:=
 Zm O5 (Za 1) (Za 0)
МJb:FS:=
 Xc (Ys (Zm Au (Za 4) (Za 3))) (Z4 (Y0 5 (Yc 3 Ey (Zc (Za 0) (Zc (Za 1) (Zc (Za 4) (Zj)))))) (Z4 (J1 (Cd (Za 5)) (Zd 6) U5) (Rq 2 (Yc 1 Qz (Zc (Og [.own,.cap 0,.acc] 2 (Cd (Za 5)) (Zd 0) (Q7) B6) (Zj)))))) (Ut)
МEz:FS:=
 Z4 (Y0 1 (Yc 1 Qx (Zc (Za 0) (Zj)))) (Z4 (Y0 2 (U9 (Zs))) (Z4 (Y0 3 (Dl)) (Z4 (J1 (Tk (Zc (Yq Iy (Zc (Za 0) Zj)) Zj)) (Zd 4) Jb) (Jq (Yq Cm (Zc (Za 2) Zj))))))
МU6:А D->Б SV:=Qa Ez 7
МHf:FS:=
 Jq (Yc 1 U6 (Zc (Zm Os (Za 0) (Za 1)) (Zj)))
МWg:А D->Б SV:=Qa Hf 2
МJv:FS:=
 Z4 (Rq 4 (Yc 2 Wg (Zc (Yc 2 Wg (Zc (Za 5) (Zc (Za 6) (Zj)))) (Zc (Za 7) (Zj))))) (Rq 4 (Yc 2 Wg (Zc (Za 5) (Zc (Yc 2 Wg (Zc (Za 6) (Zc (Za 7) (Zj)))) (Zj)))))
МM0:FS:=
 Z4 (L3 (Sw 3 (Zt (Zd 1) (Zt (Zd 2) (Zt (Zd 3) (Wi))))) (Za 0)) (Z4 (Y0 4 (U9 (Zs))) (Z4 (J1 (Cd (U9 (Zh (tupF (Zh (Za 1) (Zh (Za 2) (Zh (Za 3) (Zs))))) (Zh (tupF (Zh (Za 1) (Zh (Za 3) (Zh (Za 2) (Zs))))) (Zh (tupF (Zh (Za 2) (Zh (Za 1) (Zh (Za 3) (Zs))))) (Zh (tupF (Zh (Za 2) (Zh (Za 3) (Zh (Za 1) (Zs))))) (Zh (tupF (Zh (Za 3) (Zh (Za 1) (Zh (Za 2) (Zs))))) (Zh (tupF (Zh (Za 3) (Zh (Za 2) (Zh (Za 1) (Zs))))) (Zs))))))))) (Wj 3 (Zt (Zd 5) (Zt (Zd 6) (Zt (Zd 7) (Wi))))) Jv) (Jq (Za 4))))
МBb:А D->Б SV:=Qa M0 8
МCy:FS:=
 Jq (Zm Uf (Zm Av (Zm Uf (Za 0) (Zf (.int 2147483647))) (Za 1)) (Zf (.int 2147483647)))
МWo:А D->Б SV:=Qa Cy 2
МJk:FS:=
 Z4 (Xc (Ys (Zm Ug (Za 1) (Yq Iy (Zc (Za 0) Zj)))) (Jq (Zm O5 (Za 0) (Za 1))) (Ut)) (Jq (Zf (.int 0)))
МZq:А D->Б SV:=Qa Jk 2
МCz:FS:=
 Z4 (Y0 1 (Yq Dq (Zc (Zm O5 (Za 0) (Zf (.int 1))) Zj))) (Z4 (Ir 1 (Zf (.str "kind")) (Zm O5 (Za 0) (Zf (.int 0)))) (Jq (Za 1)))
МQq:А D->Б SV:=Qa Cz 2
МUj:FE:=
 Zm inZ (Za 0) (Za 1)
МUk:FE:=
 Zm O5 (Za 1) (Za 0)
МQ0:FS:=
 Xc (Ys (Yq Zij (Zc (Og [.own,.cap 0,.acc] 2 (Cd (Za 4)) (Zd 0) (Q7) Uj) Zj))) (Rq 2 (tupF (Zh (Za 3) (Zh (Yq L6 (Zc (Og [.own,.cap 0,.acc] 2 (Cd (Za 4)) (Zd 0) (Q7) Uk) Zj)) (Zs))))) (Ut)
МRf:FS:=
 Z4 (Y0 2 (U9 (Zs))) (Z4 (J1 (Mo (Zh (Za 1) Zs)) (Wj 2 (Zt (Zd 3) (Zt (Zd 4) (Wi)))) Q0) (Jq (Za 2)))
МU7:А D->Б SV:=Qa Rf 5
МQh:FT:=
 Ys (Zm neX (Za 0) (Zf (.str "note")))
МJl:FE:=
 tupF (Zh (Za 0) (Zh (Zm O5 (Za 1) (Za 0)) (Zh (U9 (Zh (Za 2) (Zs))) (Zs))))
МC0:FS:=
 Z4 (Y0 3 (Yc 1 Qq (Zc (Za 1) (Zj)))) (Z4 (Y0 4 (Og [.own,.cap 3,.cap 0,.acc] 3 (Xv (Za 3)) (Zd 0) (Qh) Jl)) (Jq (tupF (Zh (U9 (Zh (Za 0) (Zs))) (Zh (Yc 2 U7 (Zc (Za 3) (Zc (Za 2) (Zj)))) (Zh (Za 4) (Zs)))))))
МQr:А D->Б SV:=Qa C0 5
МOh:FE:=
 Yc 3 Qr (Zc (tupF (Zh (Za 2) (Zh (Za 0) (Zs)))) (Zc (Zm O5 (Za 3) (Za 0)) (Zc (Za 1) (Zj))))
МM3:FS:=
 Jq (Yc 1 U6 (Zc (Og [.own,.cap 2,.cap 0,.cap 1,.acc] 4 (Xv (Za 1)) (Zd 0) (Q7) Oh) (Zj)))
МWn:А D->Б SV:=Qa M3 3
МJm:FS:=
 Z4 (Em 2 (Zm O5 (Za 4) (Zf (.int 0)))) (Em 3 (Zm O5 (Za 4) (Zf (.int 1))))
МC2:FS:=
 Z4 (Y0 2 (U9 (Zs))) (Z4 (Y0 3 (U9 (Zs))) (Z4 (J1 (Cd (Za 0)) (Zd 4) Jm) (Z4 (Xc (orF (Ys (Zm neX (Yq Kv (Zc (Za 2) Zj)) (Yq Iy (Zc (Za 2) Zj)))) (Ys (Zm neX (Yq Kv (Zc (Za 3) Zj)) (Yq Iy (Zc (Za 3) Zj))))) (Jq (Zf (.bl aD))) (Ut)) (Jq (Zm eqX (Yq Cm (Zc (Za 2) Zj)) (Yq Cp (Zc (Za 1) Zj)))))))
МJw:А D->Б SV:=Qa C2 5
МQ1:FT:=
 Ys (Zm inN (Za 0) (Zm O5 (Za 1) (Zf (.int 0))))
МQ2:FE:=
 Za 0
МW0:FS:=
 Z4 (Y0 4 (Og [.own,.cap 3,.acc] 2 (Cd (Zm O5 (Za 2) (Zf (.int 0)))) (Zd 0) (Q1) Q2)) (Xc (Zmj (Ys (Zm neX (Za 4) (U9 (Zs)))) (Ys (Zm Ug (Yq Iy (Zc (Za 4) Zj)) (Yq Iy (Zc (Zm O5 (Za 2) (Zf (.int 0))) Zj))))) (Jq (Zf (.bl aD))) (Ut))
МQ3:FS:=
 J1 (Cd (Za 1)) (Zd 3) W0
МB7:FS:=
 Z4 (J1 (Cd (Za 0)) (Zd 2) Q3) (Jq (Zf (.bl aC)))
МWd:А D->Б SV:=Qa B7 5
МR9:FE:=
 Yc 3 Wn (Zc (Zm O5 (Za 2) (Za 0)) (Zc (Zm O5 (Za 3) (Za 0)) (Zc (Za 1) (Zj))))
МT3:FE:=
 tupF (Zh (Zm O5 (Za 1) (Za 2)) (Zh (Za 0) (Zs)))
МMa:FS:=
 Y0 7 (Zm Os (Za 7) (Og [.own,.cap 1,.cap 8,.acc] 3 (Xv (Zm O5 (Za 5) (Za 8))) (Zd 0) (Q7) T3))
МT4:FT:=
 Ys (Zm neX (Za 0) (Za 1))
МZax:FE:=
 Za 0
МZay:FE:=
 Yc 3 Wn (Zc (Zm O5 (Za 2) (Za 0)) (Zc (Zm O5 (Za 3) (Za 0)) (Zc (Za 1) (Zj))))
МT5:FS:=
 Xc (orF (Ys (Zm neX (Yc 2 Wg (Zc (Za 10) (Zc (Za 11) (Zj)))) (Za 10))) (orF (Ys (Zm neX (Yc 2 Wg (Zc (Za 11) (Zc (Za 10) (Zj)))) (Za 10))) (Zh3 (Ys (Yc 2 Wd (Zc (Za 11) (Zc (Za 10) (Zj)))))))) (Jq (Zf (.bl aD))) (Ut)
МMb:FS:=
 Z4 (Y0 2 (Yc 2 Yx (Zc (Yc 2 Wo (Zc (Yc 2 Zq (Zc (Za 0) (Zc (Zf (.int 1)) (Zj)))) (Zc (Zf (.int 16807)) (Zj)))) (Zc (Zf (.int 4)) (Zj))))) (Z4 (Y0 3 (Yc 2 Yx (Zc (Yc 2 Wo (Zc (Yc 2 Zq (Zc (Za 0) (Zc (Zf (.int 2)) (Zj)))) (Zc (Zf (.int 16807)) (Zj)))) (Zc (Zf (.int 3)) (Zj))))) (Z4 (Y0 4 (Yc 2 Ju (Zc (Za 3) (Zc (Yc 2 Zq (Zc (Za 0) (Zc (Zf (.int 3)) (Zj)))) (Zj))))) (Z4 (Y0 5 (Yc 4 Qg (Zc (Za 2) (Zc (Za 3) (Zc (slF slD (Za 0) (De (Zf (.int 6))) (De (Zf (.int 15)))) (Zc (Zm Os (Zf (.int 2)) (Zm Uf (Yc 2 Zq (Zc (Za 0) (Zc (Zf (.int 5)) (Zj)))) (Zf (.int 9)))) (Zj))))))) (Z4 (Y0 6 (Og [.own,.cap 4,.cap 1,.cap 5,.acc] 4 (Tk (Zc (Zf (.int 3)) Zj)) (Zd 0) (Q7) R9)) (Z4 (Y0 7 (U9 (Zs))) (Z4 (J1 (Tk (Zc (Zf (.int 3)) Zj)) (Zd 8) Ma) (Z4 (Y0 9 (Yc 1 Bb (Zc (Za 6) (Zj)))) (Z4 (Y0 10 (Zm O5 (Za 9) (Zf (.int 0)))) (Z4 (Xc (orF (Dv (Ys (Zm neX (Og [.own,.cap 10,.acc] 2 (Cd (Za 9)) (Zd 0) (T4) Zax) (U9 (Zs))))) (Zh3 (Ys (Yc 2 Jw (Zc (Za 10) (Zc (Za 7) (Zj))))))) (Jq (Zf (.bl aD))) (Ut)) (Z4 (Xc (Dv (Ys (Zm neX (Za 6) (Og [.own,.cap 4,.cap 1,.cap 5,.acc] 4 (Tk (Zc (Zf (.int 3)) Zj)) (Zd 0) (Q7) Zay)))) (Jq (Zf (.bl aD))) (Ut)) (Z4 (J1 (Cd (Za 6)) (Zd 11) T5) (Jq (Zmk (Zm eqX (Yc 2 Wg (Zc (Za 10) (Zc (Za 10) (Zj)))) (Za 10)) (Zm eqX (Za 10) (Yq Cm (Zc (Za 10) Zj))))))))))))))))
МZaz:FS:=
 Z4 (Y0 1 (Yc 2 Yx (Zc (Yc 2 Wo (Zc (Yc 2 Zq (Zc (Za 0) (Zc (Zf (.int 0)) (Zj)))) (Zc (Zf (.int 16807)) (Zj)))) (Zc (Zf (.int 3)) (Zj))))) (Z4 (Xc (Ys (Zm eqX (Zm Uf (Yc 2 Zq (Zc (Za 0) (Zc (Zf (.int 4)) (Zj)))) (Zf (.int 3))) (Zf (.int 1)))) (Du 1 (Zf (.int 2)) (Zm O5 (Za 1) (Zm Uf (Zm Rr (Yc 2 Zq (Zc (Za 0) (Zc (Zf (.int 4)) (Zj)))) (Zf (.int 3))) (Zf (.int 2))))) (Ut)) Mb)
МMc:А D->Б SV:=Qa Zaz 12
end Gen
namespace Gen
open PySem PySem.Spec PyProof.Rows L2 DL
structure Txt(K:ad)(mg:Str->Б ah)(fx0 fx1 fx2 fx3 fx4 fx5 fx6 fx7 fx8 fx9 fx10 fx11 fx12 fx13 fx14 fx15 fx16 fx17 fx18:aj):В where
 z_all:mg "all"=aB
 z_dict:mg "dict"=aB
 z_enumerate:mg "enumerate"=aB
 z_int:mg "int"=aB
 z_len:mg "len"=aB
 z_list:mg "list"=aB
 z_range:mg "range"=aB
 z_set:mg "set"=aB
 z_sorted:mg "sorted"=aB
 z_str:mg "str"=aB
 z_tuple:mg "tuple"=aB
 m_0:mg "_law_names"=aA (.ref fx0)
 k_0:bu K (.ref fx0)=aC
 m_1:mg "_law_numbers"=aA (.ref fx1)
 k_1:bu K (.ref fx1)=aC
 m_2:mg "_law_rules"=aA (.ref fx2)
 k_2:bu K (.ref fx2)=aC
 m_3:mg "_law_shelves"=aA (.ref fx3)
 k_3:bu K (.ref fx3)=aC
 m_4:mg "holders_of"=aA (.ref fx4)
 k_4:bu K (.ref fx4)=aC
 m_5:mg "tied"=aA (.ref fx5)
 k_5:bu K (.ref fx5)=aC
 m_6:mg "join_heaps"=aA (.ref fx6)
 k_6:bu K (.ref fx6)=aC
 m_7:mg "joined"=aA (.ref fx7)
 k_7:bu K (.ref fx7)=aC
 m_8:mg "pour"=aA (.ref fx8)
 k_8:bu K (.ref fx8)=aC
 m_9:mg "_law_all"=aA (.ref fx9)
 k_9:bu K (.ref fx9)=aC
 m_10:mg "_law_mixed"=aA (.ref fx10)
 k_10:bu K (.ref fx10)=aC
 m_11:mg "_law_cell_at"=aA (.ref fx11)
 k_11:bu K (.ref fx11)=aC
 m_12:mg "own_texts"=aA (.ref fx12)
 k_12:bu K (.ref fx12)=aC
 m_13:mg "marks_of"=aA (.ref fx13)
 k_13:bu K (.ref fx13)=aC
 m_14:mg "lone_heap"=aA (.ref fx14)
 k_14:bu K (.ref fx14)=aC
 m_15:mg "pool_of"=aA (.ref fx15)
 k_15:bu K (.ref fx15)=aC
 m_16:mg "_law_apart"=aA (.ref fx16)
 k_16:bu K (.ref fx16)=aC
 m_17:mg "_law_within"=aA (.ref fx17)
 k_17:bu K (.ref fx17)=aC
 m_18:mg "law"=aA (.ref fx18)
 k_18:bu K (.ref fx18)=aC
section
variable{P:b6}{w:c7}{K:ad}{mg:Str->Б ah}{base:d6}{fx0 fx1 fx2 fx3 fx4 fx5 fx6 fx7 fx8 fx9 fx10 fx11 fx12 fx13 fx14 fx15 fx16 fx17 fx18:aj}
ЛYu:FnScope ["_law_number","_law_many","_law_letters","_law_size","_law_at","_law_names_here","_law_turn","_law_name","_law_k","_law_step"] ["_law_number","_law_many"] (Zx Bv):=⟨rfl,rfl,rfl,by decide+kernel,rfl,by decide+kernel,by decide+kernel⟩
ЛYy:FnScope ["_law_cell","_law_many","_law_found","_law_number","_law_k"] ["_law_cell","_law_many"] (Zx Uy):=⟨rfl,rfl,rfl,by decide+kernel,rfl,by decide+kernel,by decide+kernel⟩
ЛW9:FnScope ["_law_fields","_law_cell","_law_some","_law_rules_here","_law_k","_law_rule","_law_j"] ["_law_fields","_law_cell"] (Zx Bw):=⟨rfl,rfl,rfl,by decide+kernel,rfl,by decide+kernel,by decide+kernel⟩
ЛYz:FnScope ["_law_keys","_law_fields","_law_cells","_law_wide","_law_shelves_here","_law_k","_law_cell","_law_some","_law_own","_law_j","_law_field"] ["_law_keys","_law_fields","_law_cells","_law_wide"] (Zx Uz):=⟨rfl,rfl,rfl,by decide+kernel,rfl,by decide+kernel,by decide+kernel⟩
ЛQi:FnScope ["heaps","holders","place","heap","tie"] ["heaps"] (Zx Ox):=⟨rfl,rfl,rfl,by decide+kernel,rfl,by decide+kernel,by decide+kernel⟩
ЛGf:FnScope ["heaps","holders","place","found","left","heap","tie","other"] ["heaps","holders","place"] (Zx N3):=⟨rfl,rfl,rfl,by decide+kernel,rfl,by decide+kernel,by decide+kernel⟩
ЛYv:FnScope ["heaps","names","marks","tellers","heap","field","value","told_by","fields"] ["heaps"] (Zx Oy):=⟨rfl,rfl,rfl,by decide+kernel,rfl,by decide+kernel,by decide+kernel⟩
ЛJc:FnScope ["heaps","holders","pool","seen","place","group","other"] ["heaps"] (Zx Mz):=⟨rfl,rfl,rfl,by decide+kernel,rfl,by decide+kernel,by decide+kernel⟩
ЛZjr:FnScope ["one","other"] ["one","other"] (Zx N4):=⟨rfl,rfl,rfl,by decide+kernel,rfl,by decide+kernel,by decide+kernel⟩
ЛW1:FnScope ["_law_pools","_law_a","_law_b","_law_c","_law_found","_law_one","_law_two","_law_three"] ["_law_pools"] (Zx Rc):=⟨rfl,rfl,rfl,by decide+kernel,rfl,by decide+kernel,by decide+kernel⟩
ЛN5:FnScope ["_law_cell","_law_by"] ["_law_cell","_law_by"] (Zx Bx):=⟨rfl,rfl,rfl,by decide+kernel,rfl,by decide+kernel,by decide+kernel⟩
ЛE1:FnScope ["_law_script","_law_k"] ["_law_script","_law_k"] (Zx U0):=⟨rfl,rfl,rfl,by decide+kernel,rfl,by decide+kernel,by decide+kernel⟩
ЛMd:FnScope ["work","texts"] ["work"] (Zx Bz):=⟨rfl,rfl,rfl,by decide+kernel,rfl,by decide+kernel,by decide+kernel⟩
ЛOi:FnScope ["texts","rules","marks","number","rule"] ["texts","rules"] (Zx Cs):=⟨rfl,rfl,rfl,by decide+kernel,rfl,by decide+kernel,by decide+kernel⟩
ЛB8:FnScope ["name","work","rules","texts","fields"] ["name","work","rules"] (Zx B0):=⟨rfl,rfl,rfl,by decide+kernel,rfl,by decide+kernel,by decide+kernel⟩
ЛHg:FnScope ["book","shelf","rules"] ["book","shelf","rules"] (Zx Re):=⟨rfl,rfl,rfl,by decide+kernel,rfl,by decide+kernel,by decide+kernel⟩
ЛUl:FnScope ["_law_pool","_law_names_here","_law_told","_law_marks","_law_heap"] ["_law_pool","_law_names_here"] (Zx B2):=⟨rfl,rfl,rfl,by decide+kernel,rfl,by decide+kernel,by decide+kernel⟩
ЛJn:FnScope ["_law_part","_law_pool","_law_heap","_law_other","_law_some"] ["_law_part","_law_pool"] (Zx Oz):=⟨rfl,rfl,rfl,by decide+kernel,rfl,by decide+kernel,by decide+kernel⟩
ЛJd:FnScope ["_law_script","_law_books","_law_keys","_law_fields","_law_rules_here","_law_shelves_here","_law_pools","_law_names_here","_law_k","_law_found","_law_pool","_law_part"] ["_law_script"] (Zx B3):=⟨rfl,rfl,rfl,by decide+kernel,rfl,by decide+kernel,by decide+kernel⟩
ЛN6{x qual:Str}{st:Stmt}{f:aj}{fd:ci}{N ps:А Str}{k n:Г}(F:Fun K x qual st f fd)(S:FnScope N ps (Zx st))(hn:n=ps.length)(f0:FS)(hb:∀(cdv:ah) (A:dh) (outer:А Env) (s:am) (H F0:Hp) (E:XK),Room k (A.deeper (envOfC qual (Zx st) s.heap.objs.size f cdv))->(A.deeper (envOfC qual (Zx st) s.heap.objs.size f cdv)).units+1<f6->(A.deeper (envOfC qual (Zx st) s.heap.objs.size f cdv)).units+64<f6->Ta (V4 Ud P w K mg base N qual (Zx st) f cdv A outer s H E).nox (Uc st) (Z5 (ent H F0:Ent K) f0)):FnOk P w K mg base Ud (k+1) f fd ps (Y1 K n (Qa f0 N.length)):=
 F.ok S (λ_ _ _ _ h=>(Zd1 h).trans hn) λcdv A outer s H vs Q E hr h=>by O⟨F0,h⟩:=Zea (N:=N) (f:=f0) h;E⟨_,hb cdv A outer s H F0 E hr (Zpy hr) hr.units,h⟩
variable(T:Txt K mg fx0 fx1 fx2 fx3 fx4 fx5 fx6 fx7 fx8 fx9 fx10 fx11 fx12 fx13 fx14 fx15 fx16 fx17 fx18)
include T
ЛN7{fd:ci}(F:Fun K "_law_names" "_law_names" Bv fx0 fd):
  FnOk P w K mg base Ud 1 fx0 fd ["_law_number","_law_many"] (Y1 K 2 Yx):=by
 R N6 F Yu rfl Cu λ_ _ _ _ _ _ _ hr hu hv=>?_;E(Zg (Yf 2 Yu.nd Ka) (Zg (Yf 3 Yu.nd (Q8 Zp (Qn (Zb 0) Zp))) (Zg (Yf 4 Yu.nd (Qn (Mm (Zb 0) Zp) (Zb 3))) (Zg (Yf 5 Yu.nd (Qo Yn)) (Zg (Wx cw rfl (Gs T.z_range (Zb 1)) (Z1 6 Yu.nd) (Zg (Yf 7 Yu.nd Ka) (Zg (Wx cw rfl (Gs T.z_range (Zb 3)) (Z1 8 Yu.nd) (Zg (Yf 9 Yu.nd (Mq (Zb 6) (Zmw T.z_int (Dh hv (Zb 8) (Zb 4))))) (Zu (Yf 7 Yu.nd (Q8 (Zb 7) (Yo hu (Zb 2) (Qn (Q8 (Mm (Zb 0) (Q8 (Zb 8) Zp)) (Zb 9)) Zp))))))) (Zu (Gu 5 (Zb 7)))))) (Zu (Wu (Zb 5))))))))
ЛE2{fd:ci}(F:Fun K "_law_numbers" "_law_numbers" Uy fx1 fd):
  FnOk P w K mg base Ud 1 fx1 fd ["_law_cell","_law_many"] (Y1 K 2 Ym):=by
 R N6 F Yy rfl Jh λ_ _ _ _ _ _ _ hr hu hv=>?_;E(Zg (Yf 2 Yy.nd (Qo Yn)) (Zg (Yf 3 Yy.nd (Mm (Zb 0) Zp)) (Zg (Tl (Zku hv (Qn (Zb 0) Zp) Zp) (Zg (Wx cw rfl (Gs T.z_range (Zb 1)) (Z1 4 Yy.nd) (Zg (Gu 2 (Qn (Zb 3) Zp)) (Zu (Yf 3 Yy.nd (Mm (Zb 3) Zp))))) (Zu (Wu (Zb 2)))) J2) (Zg (Yf 3 Yy.nd (Qn (Zb 3) Zp)) (Zg (Wx cw rfl (Gs T.z_range (Zb 1)) (Z1 4 Yy.nd) (Zg (Yf 3 Yy.nd (Qn (Mq (Q8 (Q8 (Zb 3) (Zb 4)) Zp) Zp) Zp)) (Zu (Gu 2 (Qn (Mq (Zb 3) Zp) Zp))))) (Zu (Wu (Zb 2))))))))
ЛN8{fd:ci}(F:Fun K "_law_rules" "_law_rules" Bw fx2 fd){dx1:ci}(Vx1:FnOk P w K mg base Ud 1 fx1 dx1 ["_law_cell","_law_many"] (Y1 K 2 Ym))(Wx1:Wh K dx1 ["_law_cell","_law_many"] []):
  FnOk P w K mg base Ud 2 fx2 fd ["_law_fields","_law_cell"] (Y1 K 2 Ju):=by
 R N6 F W9 rfl Cv λ_ _ _ _ _ _ _ hr hu hv=>?_;E(Zg (Yf 2 W9.nd (Z8 Vx1 (hr.mono Й) T.m_1 T.k_1 Wx1 (Zk (Zb 1) (Zk Zp Ya)))) (Zg (Yf 3 W9.nd (Qo Yn)) (Zg (Wx cw rfl (Gs T.z_range (Qn (Yo hu (Zb 2) Zp) Zp)) (Z1 4 W9.nd) (Zg (Yf 5 W9.nd (Qo Yn)) (Zg (Wx cw rfl (Gs T.z_range (Q8 Zp (Qn (Yo hu (Zb 2) (Q8 Zp (Mq Zp (Zb 4)))) Zp))) (Z1 6 W9.nd) (Zu (Gu 5 (Yo hu (Q8 (Zb 0) (Qo (Zv Ka Yn))) (Qn (Yo hu (Zb 2) (Q8 (Q8 Zp (Mq Zp (Zb 4))) (Zb 6))) Zp))))) (Zu (Gu 3 (Zb 5)))))) (Zu (Wu (Zb 3))))))
ЛE3{fd:ci}(F:Fun K "_law_shelves" "_law_shelves" Uz fx3 fd){dx1:ci}(Vx1:FnOk P w K mg base Ud 1 fx1 dx1 ["_law_cell","_law_many"] (Y1 K 2 Ym))(Wx1:Wh K dx1 ["_law_cell","_law_many"] []):
  FnOk P w K mg base Ud 2 fx3 fd ["_law_keys","_law_fields","_law_cells","_law_wide"] (Y1 K 4 Qg):=by
 R N6 F Yz rfl O0 λ_ _ _ _ _ _ _ hr hu hv=>?_;E(Zg (Yf 4 Yz.nd Zjl) (Zg (Wx cw rfl (Tw T.z_enumerate (Zv (Zb 2) Yn)) (Kc rfl (Wc (Z1 5 Yz.nd) (Wc (Z1 6 Yz.nd) G1))) (Zg (Yf 7 Yz.nd (Z8 Vx1 (hr.mono Й) T.m_1 T.k_1 Wx1 (Zk (Zb 6) (Zk Zp Ya)))) (Zg (Yf 8 Yz.nd Dm) (Zg (Wx cw rfl (Tw T.z_enumerate (Zv (Zb 1) Yn)) (Kc rfl (Wc (Z1 9 Yz.nd) (Wc (Z1 10 Yz.nd) G1))) (Zu (Tl (Zqr (Qn (Yo hu (Zb 7) (Zb 9)) Zp) Zp) (Zu (Dn 8 hu (Zb 10) (Q8 Ka (Zm9 T.z_str (Qn (Yo hu (Zb 7) (Q8 Zp (Zb 9))) (Zb 3)))))) J2))) (Zu (Zn5 4 hu (Qn (Zb 5) Zp) (Yo hu (Zb 0) (Mm (Zb 5) Zp)) (Uw (Zv (Yo hu (Qo (Ziv [("book",_,_),("part",_,_)] Yn)) (Qn (Yo hu (Zb 7) Zp) Zp)) (Zv (Zb 8) Yn))))))))) (Zu (Zew (Zb 4)))))
ЛFc{fd:ci}(F:Fun K "holders_of" "holders_of" Ox fx4 fd):
  FnOk P w K mg base Ud 1 fx4 fd ["heaps"] (Y1 K 1 Qx):=by
 R N6 F Qi rfl B4 λ_ _ _ _ _ _ _ hr hu hv=>?_;E(Zg (Yf 1 Qi.nd Zal) (Zg (Wx cw rfl (Tw T.z_enumerate (Zv (Zb 0) Yn)) (Kc rfl (Wc (Z1 2 Qi.nd) (Wc (Z1 3 Qi.nd) G1))) (Zu (Wx cw rfl (Ua (Q8 (Yo hu (Zb 3) Zp) (Yo hu (Zb 3) Zp))) (Z1 4 Qi.nd) (Zu (Zja 1 2 hv (Zb 4)))))) (Zu (Zew (Zb 1)))))
ЛZjs{fd:ci}(F:Fun K "tied" "tied" N3 fx5 fd):
  FnOk P w K mg base Ud 1 fx5 fd ["heaps","holders","place"] (Y1 K 3 Ey):=by
 R N6 F Gf rfl He λ_ _ _ _ _ _ _ hr hu hv=>?_;E(Zg (Yf 3 Gf.nd (Zji 2 L7)) (Zg (Yf 4 Gf.nd (Qo (Zv (Zb 2) Yn))) (Zg (Zig Zod cw (Zqr (Ap T.z_len (Zb 4)) Zp) (Zg (Zjh 5 0 4 Gf.nd (Zk1 0) (Zk1 4)) (Zu (Wx cw rfl (Ua (Q8 (Yo hu (Zb 5) Zp) (Yo hu (Zb 5) Zp))) (Z1 6 Gf.nd) (Zu (Wx cw rfl (Ua (Zlh hv (Zb 1) (Zb 6))) (Z1 7 Gf.nd) (Zu (Tl (Sj hu (Zb 7) (Zb 3)) (Zg (Dn 3 hu (Zb 7) L7) (Zu (Gu 4 (Zb 7)))) J2)))))))) (Zu (Wu (Zni rfl T.z_list (Zb 3)))))))
ЛFd{fd:ci}(F:Fun K "join_heaps" "join_heaps" Oy fx6 fd):
  FnOk P w K mg base Ud 1 fx6 fd ["heaps"] (Y1 K 1 Qz):=by
 R N6 F Yv rfl B5 λ_ _ _ _ _ _ _ hr hu hv=>?_;E(Zg (Yf 1 Yv.nd (Qo Yn)) (Zg (Yf 2 Yv.nd (Qo Yn)) (Zg (Yf 3 Yv.nd Zal) (Zg (Wx cw rfl (Ua (Zb 0)) (Z1 4 Yv.nd) (Zg (Ny 1 (Yo hu (Zb 4) Zp)) (Zg (Ny 2 (Yo hu (Zb 4) Zp)) (Zu (Wx cw rfl (Ua (Yo hu (Zb 4) Zp)) (Kc rfl (Wc (Z1 5 Yv.nd) (Wc (Z1 6 Yv.nd) (Wc (Z1 7 Yv.nd) G1)))) (Zu (Zjb 3 7 hv (Uw (Zv (Zb 5) (Zv (Zb 6) Yn)))))))))) (Zg (C9 8 rfl (Wl (N':=["pair","tellers",".acc"]) (src:=[.own,.cap 3,.acc]) З З З З З З) (Cj 2 З З) Й (Zn0 (Zb 3)) (λ_ _ _ _=>xg λ_=>(Z1 0 (show(["pair","tellers",".acc"]:А Str).Nodup by decide+kernel))) (λ_ _ _ _=>xt0) (λ_ _ _ _=>xe λ_=>(Uw (Zv (Yo hu (Zb 0) Zp) (Zv (Yo hu (Zb 0) Zp) (Zv (Nw rfl hv T.z_sorted T.z_set (Zlh hv (Zb 1) (Zb 0))) Yn))))) Yv.nd) (Zu (Wu (Uw (Zv (Nw rfl hv T.z_sorted T.z_set (Zb 1)) (Zv (Nw rfl hv T.z_sorted T.z_set (Zb 2)) (Zv (Nn hv T.z_sorted (Zb 8)) Yn)))))))))))
ЛZce{fd:ci}(F:Fun K "joined" "joined" Mz fx7 fd){dx4:ci}(Vx4:FnOk P w K mg base Ud 1 fx4 dx4 ["heaps"] (Y1 K 1 Qx))(Wx4:Wh K dx4 ["heaps"] []){dx5:ci}(Vx5:FnOk P w K mg base Ud 1 fx5 dx5 ["heaps","holders","place"] (Y1 K 3 Ey))(Wx5:Wh K dx5 ["heaps","holders","place"] []){dx6:ci}(Vx6:FnOk P w K mg base Ud 1 fx6 dx6 ["heaps"] (Y1 K 1 Qz))(Wx6:Wh K dx6 ["heaps"] []):
  FnOk P w K mg base Ud 2 fx7 fd ["heaps"] (Y1 K 1 U6):=by
 R N6 F Jc rfl Ez λ_ _ _ _ _ _ _ hr hu hv=>?_;E(Zg (Yf 1 Jc.nd (Z8 Vx4 (hr.mono Й) T.m_4 T.k_4 Wx4 (Zk (Zb 0) Ya))) (Zg (Yf 2 Jc.nd (Qo Yn)) (Zg (Yf 3 Jc.nd Dm) (Zg (Wx cw rfl (Gs T.z_range (Ap T.z_len (Zb 0))) (Z1 4 Jc.nd) (Zu (Tl (Sj hu (Zb 4) (Zb 3)) (Zg (Yf 5 Jc.nd (Z8 Vx5 (hr.mono Й) T.m_5 T.k_5 Wx5 (Zk (Zb 0) (Zk (Zb 1) (Zk (Zb 4) Ya))))) (Zg (Wx cw rfl (Ua (Zb 5)) (Z1 6 Jc.nd) (Zu (Dn 3 hu (Zb 6) L7))) (Zu (Gu 2 (Z8 Vx6 (hr.mono Й) T.m_6 T.k_6 Wx6 (Zk (G2 rfl (Wl (N':=["other","heaps",".acc"]) (src:=[.own,.cap 0,.acc]) З З З З З З) (Cj 2 З З) Й (Ua (Zb 5)) (λ_ _ _ _=>xg λ_=>(Z1 0 (show(["other","heaps",".acc"]:А Str).Nodup by decide+kernel))) (λ_ _ _ _=>xt0) (λ_ _ _ _=>xe λ_=>(Yo hu (Zb 1) (Zb 0)))) Ya)))))) J2))) (Zu (Wu (Nn hv T.z_sorted (Zb 2))))))))
ЛZjt{fd:ci}(F:Fun K "pour" "pour" N4 fx8 fd){dx7:ci}(Vx7:FnOk P w K mg base Ud 2 fx7 dx7 ["heaps"] (Y1 K 1 U6))(Wx7:Wh K dx7 ["heaps"] []):
  FnOk P w K mg base Ud 3 fx8 fd ["one","other"] (Y1 K 2 Wg):=by
 R N6 F Zjr rfl Hf λ_ _ _ _ _ _ _ hr hu hv=>?_;E(Zu (Wu (Z8 Vx7 (hr.mono Й) T.m_7 T.k_7 Wx7 (Zk (Q8 (Zb 0) (Zb 1)) Ya))))
ЛHh{fd:ci}(F:Fun K "_law_all" "_law_all" Rc fx9 fd){dx8:ci}(Vx8:FnOk P w K mg base Ud 3 fx8 dx8 ["one","other"] (Y1 K 2 Wg))(Wx8:Wh K dx8 ["one","other"] []):
  FnOk P w K mg base Ud 4 fx9 fd ["_law_pools"] (Y1 K 1 Bb):=by
 R N6 F W1 rfl M0 λ_ _ _ _ _ _ _ hr hu hv=>?_;E(Zg (Zd9 (Zb 0) (Zr0 rfl (Wc (Z1 1 W1.nd) (Wc (Z1 2 W1.nd) (Wc (Z1 3 W1.nd) G1))))) (Zg (Yf 4 W1.nd (Qo Yn)) (Zg (Wx cw rfl (Ua (Qo (Zv (Uw (Zv (Zb 1) (Zv (Zb 2) (Zv (Zb 3) Yn)))) (Zv (Uw (Zv (Zb 1) (Zv (Zb 3) (Zv (Zb 2) Yn)))) (Zv (Uw (Zv (Zb 2) (Zv (Zb 1) (Zv (Zb 3) Yn)))) (Zv (Uw (Zv (Zb 2) (Zv (Zb 3) (Zv (Zb 1) Yn)))) (Zv (Uw (Zv (Zb 3) (Zv (Zb 1) (Zv (Zb 2) Yn)))) (Zv (Uw (Zv (Zb 3) (Zv (Zb 2) (Zv (Zb 1) Yn)))) Yn)))))))) (Kc rfl (Wc (Z1 5 W1.nd) (Wc (Z1 6 W1.nd) (Wc (Z1 7 W1.nd) G1)))) (Zg (Gu 4 (Z8 Vx8 (hr.mono Й) T.m_8 T.k_8 Wx8 (Zk (Z8 Vx8 (hr.mono Й) T.m_8 T.k_8 Wx8 (Zk (Zb 5) (Zk (Zb 6) Ya))) (Zk (Zb 7) Ya)))) (Zu (Gu 4 (Z8 Vx8 (hr.mono Й) T.m_8 T.k_8 Wx8 (Zk (Zb 5) (Zk (Z8 Vx8 (hr.mono Й) T.m_8 T.k_8 Wx8 (Zk (Zb 6) (Zk (Zb 7) Ya))) Ya))))))) (Zu (Wu (Zb 4))))))
ЛN9{fd:ci}(F:Fun K "_law_mixed" "_law_mixed" Bx fx10 fd):
  FnOk P w K mg base Ud 1 fx10 fd ["_law_cell","_law_by"] (Y1 K 2 Wo):=by
 R N6 F N5 rfl Cy λ_ _ _ _ _ _ _ hr hu hv=>?_;E(Zu (Wu (Qn (Mq (Qn (Zb 0) Zp) (Zb 1)) Zp)))
ЛE4{fd:ci}(F:Fun K "_law_cell_at" "_law_cell_at" U0 fx11 fd):
  FnOk P w K mg base Ud 1 fx11 fd ["_law_script","_law_k"] (Y1 K 2 Zq):=by
 R N6 F E1 rfl Jk λ_ _ _ _ _ _ _ hr hu hv=>?_;E(Zg (Tl (Zqq (Zb 1) (Ap T.z_len (Zb 0))) (Zu (Wu (Yo hu (Zb 0) (Zb 1)))) J2) (Zu (Wu Zp)))
ЛPa{fd:ci}(F:Fun K "own_texts" "own_texts" Bz fx12 fd):
  FnOk P w K mg base Ud 1 fx12 fd ["work"] (Y1 K 1 Qq):=by
 R N6 F Md rfl Cz λ_ _ _ _ _ _ _ hr hu hv=>?_;E(Zg (Yf 1 Md.nd (Zes T.z_dict (Yo hu (Zb 0) Zp))) (Zg (Dn 1 hu Ka (Yo hu (Zb 0) Zp)) (Zu (Wu (Zb 1)))))
ЛVd{fd:ci}(F:Fun K "marks_of" "marks_of" Cs fx13 fd):
  FnOk P w K mg base Ud 1 fx13 fd ["texts","rules"] (Y1 K 2 U7):=by
 R N6 F Oi rfl Rf λ_ _ _ _ _ _ _ hr hu hv=>?_;E(Zg (Yf 2 Oi.nd (Qo Yn)) (Zg (Wx cw rfl (Tw T.z_enumerate (Zv (Zb 1) Yn)) (Kc rfl (Wc (Z1 3 Oi.nd) (Wc (Z1 4 Oi.nd) G1))) (Zu (Tl (Zd7 (Zqz T.z_all (G2 rfl (Wl (N':=["field","texts",".acc"]) (src:=[.own,.cap 0,.acc]) З З З З З З) (Cj 2 З З) Й (Ua (Zb 4)) (λ_ _ _ _=>xg λ_=>(Z1 0 (show(["field","texts",".acc"]:А Str).Nodup by decide+kernel))) (λ_ _ _ _=>xt0) (λ_ _ _ _=>xe λ_=>(Zra hu (Zb 0) (Zb 1)))))) (Zu (Gu 2 (Uw (Zv (Zb 3) (Zv (Zif T.z_tuple (G2 rfl (Wl (N':=["field","texts",".acc"]) (src:=[.own,.cap 0,.acc]) З З З З З З) (Cj 2 З З) Й (Ua (Zb 4)) (λ_ _ _ _=>xg λ_=>(Z1 0 (show(["field","texts",".acc"]:А Str).Nodup by decide+kernel))) (λ_ _ _ _=>xt0) (λ_ _ _ _=>xe λ_=>(Yo hu (Zb 1) (Zb 0))))) Yn))))) J2))) (Zu (Wu (Zb 2)))))
ЛPb{fd:ci}(F:Fun K "lone_heap" "lone_heap" B0 fx14 fd){dx12:ci}(Vx12:FnOk P w K mg base Ud 1 fx12 dx12 ["work"] (Y1 K 1 Qq))(Wx12:Wh K dx12 ["work"] []){dx13:ci}(Vx13:FnOk P w K mg base Ud 1 fx13 dx13 ["texts","rules"] (Y1 K 2 U7))(Wx13:Wh K dx13 ["texts","rules"] []):
  FnOk P w K mg base Ud 2 fx14 fd ["name","work","rules"] (Y1 K 3 Qr):=by
 R N6 F B8 rfl C0 λ_ _ _ _ _ _ _ hr hu hv=>?_;E(Zg (Yf 3 B8.nd (Z8 Vx12 (hr.mono Й) T.m_12 T.k_12 Wx12 (Zk (Zb 1) Ya))) (Zg (C9 4 rfl (Wl (N':=["field","texts","name",".acc"]) (src:=[.own,.cap 3,.cap 0,.acc]) З З З З З З) (Cj 3 З З) Й (Ze5 (Zb 3)) (λ_ _ _ _=>xg λ_=>(Z1 0 (show(["field","texts","name",".acc"]:А Str).Nodup by decide+kernel))) (λ_ _ _ _=>xt λ_=>(Rt hv (Zb 0) Ka)) (λ_ _ _ _=>xe λ_=>(Uw (Zv (Zb 0) (Zv (Yo hu (Zb 1) (Zb 0)) (Zv (Qo (Zv (Zb 2) Yn)) Yn))))) B8.nd) (Zu (Wu (Uw (Zv (Qo (Zv (Zb 0) Yn)) (Zv (Z8 Vx13 (hr.mono Й) T.m_13 T.k_13 Wx13 (Zk (Zb 3) (Zk (Zb 2) Ya))) (Zv (Zb 4) Yn))))))))
ЛHi{fd:ci}(F:Fun K "pool_of" "pool_of" Re fx15 fd){dx7:ci}(Vx7:FnOk P w K mg base Ud 2 fx7 dx7 ["heaps"] (Y1 K 1 U6))(Wx7:Wh K dx7 ["heaps"] []){dx14:ci}(Vx14:FnOk P w K mg base Ud 2 fx14 dx14 ["name","work","rules"] (Y1 K 3 Qr))(Wx14:Wh K dx14 ["name","work","rules"] []):
  FnOk P w K mg base Ud 3 fx15 fd ["book","shelf","rules"] (Y1 K 3 Wn):=by
 R N6 F Hg rfl M3 λ_ _ _ _ _ _ _ hr hu hv=>?_;E(Zu (Wu (Z8 Vx7 (hr.mono Й) T.m_7 T.k_7 Wx7 (Zk (G2 rfl (Wl (N':=["key","rules","book","shelf",".acc"]) (src:=[.own,.cap 2,.cap 0,.cap 1,.acc]) З З З З З З) (Cj 4 З З) Й (Ze5 (Zb 1)) (λ_ _ _ _=>xg λ_=>(Z1 0 (show(["key","rules","book","shelf",".acc"]:А Str).Nodup by decide+kernel))) (λ_ _ _ _=>xt0) (λ_ _ _ _=>xe λ_=>(Z8 Vx14 (hr.mono Й) T.m_14 T.k_14 Wx14 (Zk (Uw (Zv (Zb 2) (Zv (Zb 0) Yn))) (Zk (Yo hu (Zb 3) (Zb 0)) (Zk (Zb 1) Ya)))))) Ya))))
ЛPc{fd:ci}(F:Fun K "_law_apart" "_law_apart" B2 fx16 fd):
  FnOk P w K mg base Ud 1 fx16 fd ["_law_pool","_law_names_here"] (Y1 K 2 Jw):=by
 R N6 F Ul rfl C2 λ_ _ _ _ _ _ _ hr hu hv=>?_;E(Zg (Yf 2 Ul.nd (Qo Yn)) (Zg (Yf 3 Ul.nd (Qo Yn)) (Zg (Wx cw rfl (Ua (Zb 0)) (Z1 4 Ul.nd) (Zg (Ny 2 (Yo hu (Zb 4) Zp)) (Zu (Ny 3 (Yo hu (Zb 4) Zp))))) (Zg (Tl (PW.pt (Zie (Rt hv (Zf9 rfl hv T.z_len T.z_set (Zb 2)) (Ap T.z_len (Zb 2))) (Zd6 (Rt hv (Zf9 rfl hv T.z_len T.z_set (Zb 3)) (Ap T.z_len (Zb 3)))))) (Zu (Wu L7)) J2) (Zu (Wu (Dh hv (Nn hv T.z_sorted (Zb 2)) (Nw rfl hv T.z_sorted T.z_set (Zb 1)))))))))
ЛFe{fd:ci}(F:Fun K "_law_within" "_law_within" Oz fx17 fd):
  FnOk P w K mg base Ud 1 fx17 fd ["_law_part","_law_pool"] (Y1 K 2 Wd):=by
 R N6 F Jn rfl B7 λ_ _ _ _ _ _ _ hr hu hv=>?_;E(Zg (Wx cw rfl (Ua (Zb 0)) (Z1 2 Jn.nd) (Zu (Wx cw rfl (Ua (Zb 1)) (Z1 3 Jn.nd) (Zg (C9 4 rfl (Wl (N':=["_law_name","_law_other",".acc"]) (src:=[.own,.cap 3,.acc]) З З З З З З) (Cj 2 З З) Й (Ua (Yo hu (Zb 2) Zp)) (λ_ _ _ _=>xg λ_=>(Z1 0 (show(["_law_name","_law_other",".acc"]:А Str).Nodup by decide+kernel))) (λ_ _ _ _=>xt λ_=>(Zsg hv (Zb 0) (Yo hu (Zb 1) Zp))) (λ_ _ _ _=>xe λ_=>(Zb 0)) Jn.nd) (Zu (Tl (PW.pt (Zqs (Rt hv (Zb 4) (Qo Yn)) (Zmv (Zqq (Ap T.z_len (Zb 4)) (Ap T.z_len (Yo hu (Zb 2) Zp)))))) (Zu (Wu L7)) J2)))))) (Zu (Wu L7)))
ЛZoe{fd:ci}(F:Fun K "law" "law" B3 fx18 fd){dx0:ci}(Vx0:FnOk P w K mg base Ud 1 fx0 dx0 ["_law_number","_law_many"] (Y1 K 2 Yx))(Wx0:Wh K dx0 ["_law_number","_law_many"] []){dx2:ci}(Vx2:FnOk P w K mg base Ud 2 fx2 dx2 ["_law_fields","_law_cell"] (Y1 K 2 Ju))(Wx2:Wh K dx2 ["_law_fields","_law_cell"] []){dx3:ci}(Vx3:FnOk P w K mg base Ud 2 fx3 dx3 ["_law_keys","_law_fields","_law_cells","_law_wide"] (Y1 K 4 Qg))(Wx3:Wh K dx3 ["_law_keys","_law_fields","_law_cells","_law_wide"] []){dx8:ci}(Vx8:FnOk P w K mg base Ud 3 fx8 dx8 ["one","other"] (Y1 K 2 Wg))(Wx8:Wh K dx8 ["one","other"] []){dx9:ci}(Vx9:FnOk P w K mg base Ud 4 fx9 dx9 ["_law_pools"] (Y1 K 1 Bb))(Wx9:Wh K dx9 ["_law_pools"] []){dx10:ci}(Vx10:FnOk P w K mg base Ud 1 fx10 dx10 ["_law_cell","_law_by"] (Y1 K 2 Wo))(Wx10:Wh K dx10 ["_law_cell","_law_by"] []){dx11:ci}(Vx11:FnOk P w K mg base Ud 1 fx11 dx11 ["_law_script","_law_k"] (Y1 K 2 Zq))(Wx11:Wh K dx11 ["_law_script","_law_k"] []){dx15:ci}(Vx15:FnOk P w K mg base Ud 3 fx15 dx15 ["book","shelf","rules"] (Y1 K 3 Wn))(Wx15:Wh K dx15 ["book","shelf","rules"] []){dx16:ci}(Vx16:FnOk P w K mg base Ud 1 fx16 dx16 ["_law_pool","_law_names_here"] (Y1 K 2 Jw))(Wx16:Wh K dx16 ["_law_pool","_law_names_here"] []){dx17:ci}(Vx17:FnOk P w K mg base Ud 1 fx17 dx17 ["_law_part","_law_pool"] (Y1 K 2 Wd))(Wx17:Wh K dx17 ["_law_part","_law_pool"] []):
  FnOk P w K mg base Ud 5 fx18 fd ["_law_script"] (Y1 K 1 Mc):=by
 R N6 F Jd rfl Zaz λ_ _ _ _ _ _ _ hr hu hv=>?_;E(Zg (Yf 1 Jd.nd (Z8 Vx0 (hr.mono Й) T.m_0 T.k_0 Wx0 (Zk (Z8 Vx10 (hr.mono Й) T.m_10 T.k_10 Wx10 (Zk (Z8 Vx11 (hr.mono Й) T.m_11 T.k_11 Wx11 (Zk (Zb 0) (Zk Zp Ya))) (Zk Zp Ya))) (Zk Zp Ya)))) (Zg (Tl (Zku hv (Qn (Z8 Vx11 (hr.mono Й) T.m_11 T.k_11 Wx11 (Zk (Zb 0) (Zk Zp Ya))) Zp) Zp) (Zu (Zna 1 Zp (Yo hu (Zb 1) (Qn (Mm (Z8 Vx11 (hr.mono Й) T.m_11 T.k_11 Wx11 (Zk (Zb 0) (Zk Zp Ya))) Zp) Zp)))) J2) (Zg (Yf 2 Jd.nd (Z8 Vx0 (hr.mono Й) T.m_0 T.k_0 Wx0 (Zk (Z8 Vx10 (hr.mono Й) T.m_10 T.k_10 Wx10 (Zk (Z8 Vx11 (hr.mono Й) T.m_11 T.k_11 Wx11 (Zk (Zb 0) (Zk Zp Ya))) (Zk Zp Ya))) (Zk Zp Ya)))) (Zg (Yf 3 Jd.nd (Z8 Vx0 (hr.mono Й) T.m_0 T.k_0 Wx0 (Zk (Z8 Vx10 (hr.mono Й) T.m_10 T.k_10 Wx10 (Zk (Z8 Vx11 (hr.mono Й) T.m_11 T.k_11 Wx11 (Zk (Zb 0) (Zk Zp Ya))) (Zk Zp Ya))) (Zk Zp Ya)))) (Zg (Yf 4 Jd.nd (Z8 Vx2 (hr.mono Й) T.m_2 T.k_2 Wx2 (Zk (Zb 3) (Zk (Z8 Vx11 (hr.mono Й) T.m_11 T.k_11 Wx11 (Zk (Zb 0) (Zk Zp Ya))) Ya)))) (Zg (Yf 5 Jd.nd (Z8 Vx3 (hr.mono Й) T.m_3 T.k_3 Wx3 (Zk (Zb 2) (Zk (Zb 3) (Zk (Zvk (Zb 0) (Zd8 Zp) (Zd8 Zp)) (Zk (Q8 Zp (Qn (Z8 Vx11 (hr.mono Й) T.m_11 T.k_11 Wx11 (Zk (Zb 0) (Zk Zp Ya))) Zp)) Ya)))))) (Zg (C9 6 rfl (Wl (N':=["_law_k","_law_rules_here","_law_books","_law_shelves_here",".acc"]) (src:=[.own,.cap 4,.cap 1,.cap 5,.acc]) З З З З З З) (Cj 4 З З) Й (Gs T.z_range Zp) (λ_ _ _ _=>xg λ_=>(Z1 0 (show(["_law_k","_law_rules_here","_law_books","_law_shelves_here",".acc"]:А Str).Nodup by decide+kernel))) (λ_ _ _ _=>xt0) (λ_ _ _ _=>xe λ_=>(Z8 Vx15 (hr.mono Й) T.m_15 T.k_15 Wx15 (Zk (Yo hu (Zb 2) (Zb 0)) (Zk (Yo hu (Zb 3) (Zb 0)) (Zk (Zb 1) Ya))))) Jd.nd) (Zg (Yf 7 Jd.nd (Qo Yn)) (Zg (Wx cw rfl (Gs T.z_range Zp) (Z1 8 Jd.nd) (Zu (Yf 7 Jd.nd (Q8 (Zb 7) (G2 rfl (Wl (N':=["_law_key","_law_books","_law_k",".acc"]) (src:=[.own,.cap 1,.cap 8,.acc]) З З З З З З) (Cj 3 З З) Й (Ze5 (Yo hu (Zb 5) (Zb 8))) (λ_ _ _ _=>xg λ_=>(Z1 0 (show(["_law_key","_law_books","_law_k",".acc"]:А Str).Nodup by decide+kernel))) (λ_ _ _ _=>xt0) (λ_ _ _ _=>xe λ_=>(Uw (Zv (Yo hu (Zb 1) (Zb 2)) (Zv (Zb 0) Yn))))))))) (Zg (Yf 9 Jd.nd (Z8 Vx9 (hr.mono Й) T.m_9 T.k_9 Wx9 (Zk (Zb 6) Ya))) (Zg (Yf 10 Jd.nd (Yo hu (Zb 9) Zp)) (Zg (Tl (PW.pt (Zie (Ze0 (Rt hv (G2 rfl (Wl (N':=["_law_one","_law_pool",".acc"]) (src:=[.own,.cap 10,.acc]) З З З З З З) (Cj 2 З З) Й (Ua (Zb 9)) (λ_ _ _ _=>xg λ_=>(Z1 0 (show(["_law_one","_law_pool",".acc"]:А Str).Nodup by decide+kernel))) (λ_ _ _ _=>xt λ_=>(Rt hv (Zb 0) (Zb 1))) (λ_ _ _ _=>xe λ_=>(Zb 0))) (Qo Yn))) (Zd6 (Zkr (Zd7 (Z8 Vx16 (hr.mono Й) T.m_16 T.k_16 Wx16 (Zk (Zb 10) (Zk (Zb 7) Ya)))))))) (Zu (Wu L7)) J2) (Zg (Tl (Ze0 (Rt hv (Zb 6) (G2 rfl (Wl (N':=["_law_k","_law_rules_here","_law_books","_law_shelves_here",".acc"]) (src:=[.own,.cap 4,.cap 1,.cap 5,.acc]) З З З З З З) (Cj 4 З З) Й (Gs T.z_range Zp) (λ_ _ _ _=>xg λ_=>(Z1 0 (show(["_law_k","_law_rules_here","_law_books","_law_shelves_here",".acc"]:А Str).Nodup by decide+kernel))) (λ_ _ _ _=>xt0) (λ_ _ _ _=>xe λ_=>(Z8 Vx15 (hr.mono Й) T.m_15 T.k_15 Wx15 (Zk (Yo hu (Zb 2) (Zb 0)) (Zk (Yo hu (Zb 3) (Zb 0)) (Zk (Zb 1) Ya)))))))) (Zu (Wu L7)) J2) (Zg (Wx cw rfl (Ua (Zb 6)) (Z1 11 Jd.nd) (Zu (Tl (PW.pt (Zie (Rt hv (Z8 Vx8 (hr.mono Й) T.m_8 T.k_8 Wx8 (Zk (Zb 10) (Zk (Zb 11) Ya))) (Zb 10)) (Zie (Rt hv (Z8 Vx8 (hr.mono Й) T.m_8 T.k_8 Wx8 (Zk (Zb 11) (Zk (Zb 10) Ya))) (Zb 10)) (Zd6 (Zkr (Zd7 (Z8 Vx17 (hr.mono Й) T.m_17 T.k_17 Wx17 (Zk (Zb 11) (Zk (Zb 10) Ya))))))))) (Zu (Wu L7)) J2))) (Zu (Wu (Zqu (Dh hv (Z8 Vx8 (hr.mono Й) T.m_8 T.k_8 Wx8 (Zk (Zb 10) (Zk (Zb 10) Ya))) (Zb 10)) (Zqt (Dh hv (Zb 10) (Nn hv T.z_sorted (Zb 10)))))))))))))))))))))
end
ЛZof{l:PySem.W.OpenLaw}{w:c7}{K:ad}{h:d6}{mg:Str->Б ah}{fa fx0 fx1 fx2 fx3 fx4 fx5 fx6 fx7 fx8 fx9 fx10 fx11 fx12 fx13 fx14 fx15 fx16 fx17 fx18:aj}(X:K.In h)(G:h.Ns b7 mg)(hfa:mg "law"=aA (.ref fa))
  {odx18 anx18:Б aj} {slx18:Array (Б ah)} {ocx18 kVx18 dcx18 pmx18 cdx18 ctx18:ah}
  (ax0:cr K b7 "_law_names"=aA (aA (.ref fx0))) (Fx0:∃fd,Fun K "_law_names" "_law_names" Bv fx0 fd) (kx0:bu K (.ref fx0)=aC)
  (ax1:cr K b7 "_law_numbers"=aA (aA (.ref fx1))) (Fx1:∃fd,Fun K "_law_numbers" "_law_numbers" Uy fx1 fd) (kx1:bu K (.ref fx1)=aC)
  (ax2:cr K b7 "_law_rules"=aA (aA (.ref fx2))) (Fx2:∃fd,Fun K "_law_rules" "_law_rules" Bw fx2 fd) (kx2:bu K (.ref fx2)=aC)
  (ax3:cr K b7 "_law_shelves"=aA (aA (.ref fx3))) (Fx3:∃fd,Fun K "_law_shelves" "_law_shelves" Uz fx3 fd) (kx3:bu K (.ref fx3)=aC)
  (ax4:cr K b7 "holders_of"=aA (aA (.ref fx4))) (Fx4:∃fd,Fun K "holders_of" "holders_of" Ox fx4 fd) (kx4:bu K (.ref fx4)=aC)
  (ax5:cr K b7 "tied"=aA (aA (.ref fx5))) (Fx5:∃fd,Fun K "tied" "tied" N3 fx5 fd) (kx5:bu K (.ref fx5)=aC)
  (ax6:cr K b7 "join_heaps"=aA (aA (.ref fx6))) (Fx6:∃fd,Fun K "join_heaps" "join_heaps" Oy fx6 fd) (kx6:bu K (.ref fx6)=aC)
  (ax7:cr K b7 "joined"=aA (aA (.ref fx7))) (Fx7:∃fd,Fun K "joined" "joined" Mz fx7 fd) (kx7:bu K (.ref fx7)=aC)
  (ax8:cr K b7 "pour"=aA (aA (.ref fx8))) (Fx8:∃fd,Fun K "pour" "pour" N4 fx8 fd) (kx8:bu K (.ref fx8)=aC)
  (ax9:cr K b7 "_law_all"=aA (aA (.ref fx9))) (Fx9:∃fd,Fun K "_law_all" "_law_all" Rc fx9 fd) (kx9:bu K (.ref fx9)=aC)
  (ax10:cr K b7 "_law_mixed"=aA (aA (.ref fx10))) (Fx10:∃fd,Fun K "_law_mixed" "_law_mixed" Bx fx10 fd) (kx10:bu K (.ref fx10)=aC)
  (ax11:cr K b7 "_law_cell_at"=aA (aA (.ref fx11))) (Fx11:∃fd,Fun K "_law_cell_at" "_law_cell_at" U0 fx11 fd) (kx11:bu K (.ref fx11)=aC)
  (ax12:cr K b7 "own_texts"=aA (aA (.ref fx12))) (Fx12:∃fd,Fun K "own_texts" "own_texts" Bz fx12 fd) (kx12:bu K (.ref fx12)=aC)
  (ax13:cr K b7 "marks_of"=aA (aA (.ref fx13))) (Fx13:∃fd,Fun K "marks_of" "marks_of" Cs fx13 fd) (kx13:bu K (.ref fx13)=aC)
  (ax14:cr K b7 "lone_heap"=aA (aA (.ref fx14))) (Fx14:∃fd,Fun K "lone_heap" "lone_heap" B0 fx14 fd) (kx14:bu K (.ref fx14)=aC)
  (ax15:cr K b7 "pool_of"=aA (aA (.ref fx15))) (Fx15:∃fd,Fun K "pool_of" "pool_of" Re fx15 fd) (kx15:bu K (.ref fx15)=aC)
  (ax16:cr K b7 "_law_apart"=aA (aA (.ref fx16))) (Fx16:∃fd,Fun K "_law_apart" "_law_apart" B2 fx16 fd) (kx16:bu K (.ref fx16)=aC)
  (ax17:cr K b7 "_law_within"=aA (aA (.ref fx17))) (Fx17:∃fd,Fun K "_law_within" "_law_within" Oz fx17 fd) (kx17:bu K (.ref fx17)=aC)
  (ax18:cr K b7 "law"=aA (aA (.ref fx18))) (lx18:K.lookup fx18=aA ⟨ocx18,odx18,.func (PySem.W.fnOf "law" "law" (Bl B3) (Uc B3) (Zx B3) .none kVx18 dcx18 pmx18 anx18 cdx18 ctx18),slx18⟩) (cx18:PySem.W.codeIn K cdx18 "law"=aC) (kx18:bu K (.ref fx18)=aC)
  (zall:cr K b7 "all"=aA aB)
  (zdict:cr K b7 "dict"=aA aB)
  (zenumerate:cr K b7 "enumerate"=aA aB)
  (zint:cr K b7 "int"=aA aB)
  (zlen:cr K b7 "len"=aA aB)
  (zlist:cr K b7 "list"=aA aB)
  (zrange:cr K b7 "range"=aA aB)
  (zset:cr K b7 "set"=aA aB)
  (zsorted:cr K b7 "sorted"=aA aB)
  (zstr:cr K b7 "str"=aA aB)
  (ztuple:cr K b7 "tuple"=aA aB)
  :∃fd:ci,(∀(s:am) (v:ah),BindsTo s fd ⟨[v],[]⟩ [("_law_script",v)])/\∀base:d6,K.In base->base.Ns b7 mg->FnOk l.prog w K mg base Ud 5 fa fd ["_law_script"] (Y1 K 1 Mc):=by
 V e:=hfa.symm.trans (dw X G ax18);C e;V T:Txt K mg fx0 fx1 fx2 fx3 fx4 fx5 fx6 fx7 fx8 fx9 fx10 fx11 fx12 fx13 fx14 fx15 fx16 fx17 _:=⟨gu X G zall,gu X G zdict,gu X G zenumerate,gu X G zint,gu X G zlen,gu X G zlist,gu X G zrange,gu X G zset,gu X G zsorted,gu X G zstr,gu X G ztuple,dw X G ax0,kx0,dw X G ax1,kx1,dw X G ax2,kx2,dw X G ax3,kx3,dw X G ax4,kx4,dw X G ax5,kx5,dw X G ax6,kx6,dw X G ax7,kx7,dw X G ax8,kx8,dw X G ax9,kx9,dw X G ax10,kx10,dw X G ax11,kx11,dw X G ax12,kx12,dw X G ax13,kx13,dw X G ax14,kx14,dw X G ax15,kx15,dw X G ax16,kx16,dw X G ax17,kx17,dw X G ax18,kx18⟩
 O⟨_,Fx0⟩:=Fx0;O⟨_,Fx1⟩:=Fx1;O⟨_,Fx2⟩:=Fx2;O⟨_,Fx3⟩:=Fx3;O⟨_,Fx4⟩:=Fx4;O⟨_,Fx5⟩:=Fx5;O⟨_,Fx6⟩:=Fx6;O⟨_,Fx7⟩:=Fx7;O⟨_,Fx8⟩:=Fx8;O⟨_,Fx9⟩:=Fx9;O⟨_,Fx10⟩:=Fx10;O⟨_,Fx11⟩:=Fx11;O⟨_,Fx12⟩:=Fx12;O⟨_,Fx13⟩:=Fx13;O⟨_,Fx14⟩:=Fx14;O⟨_,Fx15⟩:=Fx15;O⟨_,Fx16⟩:=Fx16;O⟨_,Fx17⟩:=Fx17;V Fx18:=Wq (st:=B3) lx18 cx18 kx18;V bx0:=Fx0.binds (ps:=["_law_number","_law_many"]) λ_ _ _ _ _ _ us hl=>of2 (λ_ _=>rfl) us hl;V bx1:=Fx1.binds (ps:=["_law_cell","_law_many"]) λ_ _ _ _ _ _ us hl=>of2 (λ_ _=>rfl) us hl;V bx2:=Fx2.binds (ps:=["_law_fields","_law_cell"]) λ_ _ _ _ _ _ us hl=>of2 (λ_ _=>rfl) us hl;V bx3:=Fx3.binds (ps:=["_law_keys","_law_fields","_law_cells","_law_wide"]) λ_ _ _ _ _ _ us hl=>of4 (λ_ _ _ _=>rfl) us hl;V bx4:=Fx4.binds (ps:=["heaps"]) λ_ _ _ _ _ _ us hl=>of1 (λ_=>rfl) us hl;V bx5:=Fx5.binds (ps:=["heaps","holders","place"]) λ_ _ _ _ _ _ us hl=>of3 (λ_ _ _=>rfl) us hl;V bx6:=Fx6.binds (ps:=["heaps"]) λ_ _ _ _ _ _ us hl=>of1 (λ_=>rfl) us hl;V bx7:=Fx7.binds (ps:=["heaps"]) λ_ _ _ _ _ _ us hl=>of1 (λ_=>rfl) us hl;V bx8:=Fx8.binds (ps:=["one","other"]) λ_ _ _ _ _ _ us hl=>of2 (λ_ _=>rfl) us hl;V bx9:=Fx9.binds (ps:=["_law_pools"]) λ_ _ _ _ _ _ us hl=>of1 (λ_=>rfl) us hl;V bx10:=Fx10.binds (ps:=["_law_cell","_law_by"]) λ_ _ _ _ _ _ us hl=>of2 (λ_ _=>rfl) us hl;V bx11:=Fx11.binds (ps:=["_law_script","_law_k"]) λ_ _ _ _ _ _ us hl=>of2 (λ_ _=>rfl) us hl;V bx12:=Fx12.binds (ps:=["work"]) λ_ _ _ _ _ _ us hl=>of1 (λ_=>rfl) us hl;V bx13:=Fx13.binds (ps:=["texts","rules"]) λ_ _ _ _ _ _ us hl=>of2 (λ_ _=>rfl) us hl;V bx14:=Fx14.binds (ps:=["name","work","rules"]) λ_ _ _ _ _ _ us hl=>of3 (λ_ _ _=>rfl) us hl;V bx15:=Fx15.binds (ps:=["book","shelf","rules"]) λ_ _ _ _ _ _ us hl=>of3 (λ_ _ _=>rfl) us hl;V bx16:=Fx16.binds (ps:=["_law_pool","_law_names_here"]) λ_ _ _ _ _ _ us hl=>of2 (λ_ _=>rfl) us hl;V bx17:=Fx17.binds (ps:=["_law_part","_law_pool"]) λ_ _ _ _ _ _ us hl=>of2 (λ_ _=>rfl) us hl;R⟨PySem.W.fnOf "law" "law" (Bl B3) (Uc B3) (Zx B3) .none kVx18 dcx18 pmx18 anx18 cdx18 ctx18,λs v=>.of_eq rfl,λbase kb nb=>?_⟩;V Gx0:=N7 (P:=l.prog) (w:=w) (base:=base) T Fx0;V Gx1:=E2 (P:=l.prog) (w:=w) (base:=base) T Fx1;V Gx2:=N8 (P:=l.prog) (w:=w) (base:=base) T Fx2 Gx1 bx1;V Gx3:=E3 (P:=l.prog) (w:=w) (base:=base) T Fx3 Gx1 bx1;V Gx4:=Fc (P:=l.prog) (w:=w) (base:=base) T Fx4;V Gx5:=Zjs (P:=l.prog) (w:=w) (base:=base) T Fx5;V Gx6:=Fd (P:=l.prog) (w:=w) (base:=base) T Fx6;V Gx7:=Zce (P:=l.prog) (w:=w) (base:=base) T Fx7 Gx4 bx4 Gx5 bx5 Gx6 bx6;V Gx8:=Zjt (P:=l.prog) (w:=w) (base:=base) T Fx8 Gx7 bx7;V Gx9:=Hh (P:=l.prog) (w:=w) (base:=base) T Fx9 Gx8 bx8;V Gx10:=N9 (P:=l.prog) (w:=w) (base:=base) T Fx10;V Gx11:=E4 (P:=l.prog) (w:=w) (base:=base) T Fx11;V Gx12:=Pa (P:=l.prog) (w:=w) (base:=base) T Fx12;V Gx13:=Vd (P:=l.prog) (w:=w) (base:=base) T Fx13;V Gx14:=Pb (P:=l.prog) (w:=w) (base:=base) T Fx14 Gx12 bx12 Gx13 bx13;V Gx15:=Hi (P:=l.prog) (w:=w) (base:=base) T Fx15 Gx7 bx7 Gx14 bx14;V Gx16:=Pc (P:=l.prog) (w:=w) (base:=base) T Fx16;V Gx17:=Fe (P:=l.prog) (w:=w) (base:=base) T Fx17;E Zoe T Fx18 Gx0 bx0 Gx2 bx2 Gx3 bx3 Gx8 bx8 Gx9 bx9 Gx10 bx10 Gx11 bx11 Gx15 bx15 Gx16 bx16 Gx17 bx17
ЛZog{K:ad}{H:Hp}{a:aj}{ns:А Int}(hn:Mc [.lst (ns.map D.int)]=aA (.fz (.bl aC)))(hO:Zds H)(hS:W5 K H a (ns.map V.int)):Y1 K 1 Mc [.ref a] H (λv _=>v= .bl aC) λ_ _ _=>False:=by R⟨H,[.lst (ns.map D.int)],.fz (.bl aC),Zi.refl H,.cons (.lst hS (.inr λd hd=>let⟨i,_,e⟩:=ax.mp hd;⟨i,e.symm⟩) (P7 ns)) .nil,rfl,hn,λv H' F' ms _ _ _ _ sh _ _=>?_⟩;cases Jp sh;rfl
ЛZw4{l:PySem.W.OpenLaw}{q:b6}{loose:А Str}{XP:(Str->Б ah)->d6->В}{YP:c7->d6->В}{d:DefRec}{K:Params->ad}(hn:l.most=aA 63)(hdf:d.params.defaults=[])
  (hY:∀(w:c7) (h:d6),YP w h->(K w.params).In h)
  (F:∀(w:c7) (mg:Str->Б ah) (fa:aj) (h:d6),(K w.params).In h->h.Ns b7 mg->mg d.name=aA (.ref fa)->
   ∃fd:ci,(∀(s:am) (u:ah),BindsTo s fd ⟨[u],[]⟩ [("_law_script",u)])/\∀base:d6,(K w.params).In base->base.Ns b7 mg->FnOk l.prog w (K w.params) mg base Ud 5 fa fd ["_law_script"] (Y1 (K w.params) 1 Mc))
  (hlaw:∀ns:А Int,ns.length<=63->Mc [.lst (ns.map D.int)]=aA (.fz (.bl aC))):
  PySem.W.WalkO q loose XP YP l.row.toRowW d [] (λf vs=>PySem.call f vs):=
 L2.Zdu (n:=63) (k:=5) (x:="_law_script") (CX:=Ud) (sp:=λK=>Y1 K 1 Mc) hn Й hdf ⟨rfl,by decide,by decide⟩ hY F (λ_ _ _ ns hl hO hS=>Zog (hlaw ns hl) hO hS) λ_ _ _ _ z=>z
end Gen
namespace My
open DL PySem
аBc:Str:="abcdefghjlmpqrstuvwxyz"
ЛZgi:Bc.cps.toList.length=22:=by decide+kernel
ЛKy:Bc.length<=PySem.sizeLine:=by decide+kernel
МLC(j:Г):Nat:=Bc.cps.toList.getD j 0
ЛZoh:∀i<22,∀j<22,LC i=LC j->i=j:=by decide+kernel
ЛZoi:∀i<22,LC i≠105/\LC i≠110/\LC i≠111:=by decide+kernel
ЛZsm(i:Int):L2.atI Bc.cps.toList (i % 22)=aA (LC (i % 22).toNat):=by
 V h0:0<=i % 22:=f9 _ Й;V h1:i % 22<22:=d8 _ Й;O⟨j,hj⟩:=Int.eq_ofNat_of_zero_le h0;K[hj];V hjl:j<Bc.cps.toList.length:=by K[Zgi];W
 R En _ _ _ ?_;U LC;K[bn,show((j:Int)).toNat=j by W,av hjl];rfl
Мsgn(x:Int)(at':Int)(t:Г)(k:Г):Nat:=LC ((x / ((k:Int)+2)+(t:Int)*(if(k:Int)=at' then 1 else 0)) % 22).toNat
МPh(x at':Int)(size t:Г):А Nat:=(cq size).map (sgn x at' t)
ЛZcf(a1 a3 a5:Б SV)(x at':Int)(t k:Г)(hk:k<=100)(w:А Г)(hw:w.length<=1000)(x9:Б SV):
  ∃y9,Gen.Wf [aA (.fz (.int x)),a1,aA (.fz (.str Bc)),a3,aA (.fz (.int at')),a5,aA (.fz (.int (t:Int))),aA (.fz (.str (S w))),aA (.fz (.int (k:Int))),x9]=aA (.nx [aA (.fz (.int x)),a1,aA (.fz (.str Bc)),a3,aA (.fz (.int at')),a5,aA (.fz (.int (t:Int))),aA (.fz (.str (S (w++[sgn x at' t k])))),aA (.fz (.int (k:Int))),y9]):=by
 V go:∀ki ti:Int,0<=ki->ki<=100->∀b:Int,(b=0\/b=1)->(if ki=at' then(1:Int)else 0)=b->∀ch,L2.atI Bc.cps.toList ((x / (ki+2)+ti*b) % 22)=aA ch->
   Gen.Wf [aA (.fz (.int x)),a1,aA (.fz (.str Bc)),a3,aA (.fz (.int at')),a5,aA (.fz (.int ti)),aA (.fz (.str (S w))),aA (.fz (.int ki)),x9]=aA (.nx [aA (.fz (.int x)),a1,aA (.fz (.str Bc)),a3,aA (.fz (.int at')),a5,aA (.fz (.int ti)),aA (.fz (.str (S (w++[ch])))),aA (.fz (.int ki)),aA (.fz (.int (ti*b)))]):=by
  I ki ti h0 h1 b hb hif ch hch;V hm:=Xq (i:=ti) (j:=b) И;V d1:0<ki+2:=by W
  V d2:ki+2<1073741824:=by W
  V z:(S w).length+(⟨#[ch]⟩:Str).length<=PySem.sizeLine:=Qw (by K[Zli w];T w.length+1<=_;W);V ea:S w++(⟨#[ch]⟩:Str)=S (w++[ch]):=Zsh w [ch];B hk:ki=at'
  ·K[Е hk]at hif;Q hif;U Gen.Wf;simp[hk]at hm hch d1 d2⊢;simp[hm,hch,d1,d2,Ky,z,ea]
  ·K[Д hk]at hif;Q hif;U Gen.Wf;simp[hk]at hm hch⊢;simp[hm,hch,d1,d2,Ky,z,ea]
 R⟨_,go (k:Int) (t:Int) И И (if(k:Int)=at' then 1 else 0) (by split<;> simp) rfl (sgn x at' t k) (Zsm _)⟩
ЛZcg(a1 a3 a5:Б SV)(x at':Int)(t size:Г)(hs:size<=100)(x8 x9:Б SV):
  ∃y8 y9,Z7 (Zd 8) Gen.Wf (Ce 0 size) [aA (.fz (.int x)),a1,aA (.fz (.str Bc)),a3,aA (.fz (.int at')),a5,aA (.fz (.int (t:Int))),aA (.fz (.str (S []))),x8,x9]=aA (.nx [aA (.fz (.int x)),a1,aA (.fz (.str Bc)),a3,aA (.fz (.int at')),a5,aA (.fz (.int (t:Int))),aA (.fz (.str (S (Ph x at' size t)))),y8,y9]):=by
 O⟨δ',e,y8,y9,hy⟩:=Gd (tg:=Zd 8) (body:=Gen.Wf) (P:=λi δ=>∃y8 y9,δ=[aA (.fz (.int x)),a1,aA (.fz (.str Bc)),a3,aA (.fz (.int at')),a5,aA (.fz (.int (t:Int))),aA (.fz (.str (S (Ph x at' i t)))),y8,y9]) size 0 [aA (.fz (.int x)),a1,aA (.fz (.str Bc)),a3,aA (.fz (.int at')),a5,aA (.fz (.int (t:Int))),aA (.fz (.str (S []))),x8,x9] ⟨x8,x9,rfl⟩ (λi _ hi δ ⟨y8,y9,hy⟩=>by
  Q hy;O⟨z9,e⟩:=Zcf a1 a3 a5 x at' t i И (Ph x at' i t) (by U Ph;simp;W) y9;R⟨[aA (.fz (.int x)),a1,aA (.fz (.str Bc)),a3,aA (.fz (.int at')),a5,aA (.fz (.int (t:Int))),aA (.fz (.str (S (Ph x at' i t)))),aA (.fz (.int (i:Int))),y9],_,by simp,e,aA (.fz (.int (i:Int))),z9,?_⟩;V :Ph x at' (i+1) t=Ph x at' i t++[sgn x at' t i]:=by U Ph;K[List.range_succ,b9];rfl
  K[this])
 Q hy;K[Nat.zero_add]at e;E⟨y8,y9,e⟩
МQb(x at':Int)(size m:Г):А Str:=(cq m).map λt=>S (Ph x at' size t)
ЛHj(a1:Б SV)(x at':Int)(size:Г)(hs:size<=8)(m:Г)(hm:m<=100):
  ∃δ,Z7 (Zd 6) Gen.Jg (Ce 0 m) [aA (.fz (.int x)),a1,aA (.fz (.str Bc)),aA (.fz (.int (size:Int))),aA (.fz (.int at')),aA (.ol []),aB,aB,aB,aB]=aA (.nx δ)/\δ[5]? =aA (aA (.ol ((Qb x at' size m).map D.str))):=by
 O⟨δ',e,y6,y7,y8,y9,hy⟩:=Gd (tg:=Zd 6) (body:=Gen.Jg) (P:=λi δ=>∃y6 y7 y8 y9,δ=[aA (.fz (.int x)),a1,aA (.fz (.str Bc)),aA (.fz (.int (size:Int))),aA (.fz (.int at')),aA (.ol ((Qb x at' size i).map D.str)),y6,y7,y8,y9]) m 0 [aA (.fz (.int x)),a1,aA (.fz (.str Bc)),aA (.fz (.int (size:Int))),aA (.fz (.int at')),aA (.ol []),aB,aB,aB,aB] ⟨aB,aB,aB,aB,rfl⟩ (λi _ hi δ ⟨y6,y7,y8,y9,hy⟩=>by
  Q hy;O⟨z8,z9,e⟩:=Zcg a1 (aA (.fz (.int (size:Int)))) (aA (.ol ((Qb x at' size i).map D.str))) x at' i size И y8 y9;V g1:Mi (size:Int):=Uv И;V et:((size:Int)).toNat=size:=by W
  V z:(Qb x at' size i).length<PySem.sizeLine:=Yd (by U Qb;simp;W);V he:Str.ofString ""=S []:=rfl;V hr:Qb x at' size (i+1)=Qb x at' size i++[S (Ph x at' size i)]:=by U Qb;K[List.range_succ,b9];rfl
  R⟨[aA (.fz (.int x)),a1,aA (.fz (.str Bc)),aA (.fz (.int (size:Int))),aA (.fz (.int at')),aA (.ol ((Qb x at' size i).map D.str)),aA (.fz (.int (i:Int))),y7,y8,y9],[aA (.fz (.int x)),a1,aA (.fz (.str Bc)),aA (.fz (.int (size:Int))),aA (.fz (.int at')),aA (.ol ((Qb x at' size (i+1)).map D.str)),aA (.fz (.int (i:Int))),aA (.fz (.str (S (Ph x at' size i)))),z8,z9],by simp,?_,_,_,_,_,rfl⟩;K[hr];G Qb x at' size i=NL;U Gen.Jg;simp[-Z7,he,g1,et,Qp,e,z])
 Q hy;K[Nat.zero_add]at e;E⟨_,e,rfl⟩
structure Nam(w:Str):В where
 one:1<=w.length
 most:w.length<=8
 no:∀c∈w.cps.toList,c≠105/\c≠110/\c≠111
ЛE5(x:Int)(h0:0<=x)(m:Г)(hm:m<=20):∃ws:А Str,Gen.Yx [.int x,.int (m:Int)]=aA (.ol (ws.map D.str))/\ws.length=m/\ws.Nodup/\∀w∈ws,Nam w:=by
 V s0:0<=x % 8:=f9 _ Й;V s1:x % 8<8:=d8 _ Й;obtain⟨size,hs⟩:∃n:Г,(n:Int)=1+x % 8:=⟨(1+x % 8).toNat,by W⟩
 V hs1:1<=size:=by W
 V hs8:size<=8:=by W
 V p0:(0:Int)<(size:Int):=by W
 V a0:0<=x / 8 % (size:Int):=f9 _ И;V a1:x / 8 % (size:Int)<(size:Int):=d8 _ p0;generalize hat:x / 8 % (size:Int)=at' at a0 a1;O⟨δ,e,hδ⟩:=Hj (aA (.fz (.int (m:Int)))) x at' size hs8 m И;V g1:Mi (m:Int):=Uv И;V et:((m:Int)).toNat=m:=by W
 R⟨Qb x at' size m,?_,by U Qb;simp,?_,λw hw=>?_⟩
 ·generalize Qb x at' size m=NL at hδ;U Gen.Yx Gen.Cu;V hs0:0<size:=by W
  simp[-Z7,<-hs,p0,hs0,hat,g1,et,Qp,e,hδ]
 ·U Qb;R List.Pairwise.map _ (R:=λa b=>a≠b/\a<m/\b<m) (λa b h=>?_) ?_
  ·I z;O⟨hne,ha,hb⟩:=h;V hl:=Zsi z;O⟨k,hk⟩:=Int.eq_ofNat_of_zero_le a0;V hks:k<size:=by W
   V e1:(Ph x at' size a)[k]? =aA (sgn x at' a k):=by U Ph;K[az,List.getElem?_range hks];rfl
   V e2:(Ph x at' size b)[k]? =aA (sgn x at' b k):=by U Ph;K[az,List.getElem?_range hks];rfl
   K[hl,e2]at e1;V e3:=cz.inj e1;U sgn at e3;K[Е hk.symm]at e3;V q:=λy:Int=>(f9 y (show(22:Int)≠0 by decide))
   V q':=λy:Int=>(d8 y (show(0:Int)<22 by decide))
   V r1:=q (x / ((k:Int)+2)+(a:Int)*1);V r2:=q' (x / ((k:Int)+2)+(a:Int)*1);V r3:=q (x / ((k:Int)+2)+(b:Int)*1);V r4:=q' (x / ((k:Int)+2)+(b:Int)*1);V e4:=Zoh _ И _ И e3;generalize x / ((k:Int)+2)=y at*;W
  ·V nd:(cq m).Pairwise (λa b=>a<b):=List.pairwise_lt_range;R(gz.mp nd).imp fun{a b} h=>?_;E⟨cf h.2.2,cu.mp h.1,cu.mp h.2.1⟩
 ·U Qb at hw;O⟨t,_,rfl⟩:=ax.mp hw;V hl:(S (Ph x at' size t)).length=size:=by K[Zli];U Ph;simp
  R⟨by K[hl];E hs1,by K[hl];E hs8,λc hc=>?_⟩;K[Zn7]at hc;U Ph at hc;O⟨k,_,rfl⟩:=ax.mp hc;V r1:=f9 (x / ((k:Int)+2)+(t:Int)*(if(k:Int)=at' then 1 else 0)) (show(22:Int)≠0 by decide);V r2:=d8 (x / ((k:Int)+2)+(t:Int)*(if(k:Int)=at' then 1 else 0)) (show(0:Int)<22 by decide);E Zoi _ И
ЛZgj(c b:Int):Gen.Wo [.int c,.int b]=aA (.fz (.int (c % 2147483647*b % 2147483647))):=by V h1:0<=c % 2147483647:=f9 _ Й;V h2:c % 2147483647<2147483647:=d8 _ Й;V hm:=Xr (i:=c % 2147483647) (j:=b) И;U Gen.Wo Gen.Cy;simp[hm]
ЛGg(ns:А Int)(k:Г):∃c:Int,Gen.Zq [.lst (ns.map D.int),.int (k:Int)]=aA (.fz (.int c)):=by
 B h:k<ns.length
 ·V a:L2.atI (ns.map D.int) (k:Int)=aA (.int ns[k]):=En _ _ _ (by K[az,av h];rfl);R⟨ns[k],?_⟩;V h':(k:Int)<(ns.length:Int):=by W
  U Gen.Zq Gen.Jk;simp[h',h,a]
 ·R⟨0,?_⟩;V h':¬(k:Int)<(ns.length:Int):=by W
  U Gen.Zq Gen.Jk;simp[h',h]
ЛPd(c b:Int):0<=c % 2147483647*b % 2147483647:=f9 _ Й
end My
namespace My
open DL PySem TT
Лjz1:1<=PySem.sizeLine:=by decide
Лjz2:2<=PySem.sizeLine:=by decide
Лjz3:3<=PySem.sizeLine:=by decide
аVv:=А (А Г)
аW4(l:А Г):А D:=l.map λp:Г=>.int (p:Int)
МFf(ks:А NK)(pl:Vv)(t:NK)(p:Г):А NK×Vv:=match Y8 ks t with
 |some q=>(ks,pl.set q (pl.getD q []++[p]))
 |none=>(ks++[t],pl++[[p]])
ЛOj:∀{ks:А NK} {k:NK} {q:Г},Y8 ks k=aA q->ks[q]? =aA k
 |a::ks,k,q,h=>by
  V h:(if a=k then aA 0 else(Y8 ks k).map (· +1))=aA q:=h;B e:a=k
  ·K[Е e]at h;C h;K[e];rfl
  ·K[Д e]at h;O⟨r,hr,e2⟩:=cm.mp h;Q e2;T ks[r]? =aA k;E Oj hr
ЛOl:∀{ks:А NK} {k:NK},Y8 ks k=aB->k∉ks
 | [],k,_=>λz=>nomatch z
 |a::ks,k,h=>by
  V h:(if a=k then aA 0 else(Y8 ks k).map (· +1))=aB:=h;B e:a=k
  ·K[Е e]at h;C h
  ·K[Д e]at h;V :=Ol (Option.map_eq_none_iff.mp h);I z;J bx.mp z with z|z
   ·E e z.symm
   ·E this z
structure Hold(R:NK->Г->В)(B:Г)(ks:А NK)(pl:Vv):В where
 nd:ks.Nodup
 len:ks.length=pl.length
 has:∀(t:NK) (p:Г),(∃(q:Г) (l:А Г),ks[q]? =aA t/\pl[q]? =aA l/\p∈l)↔R t p
 few:ks.length<=B
 each:∀l∈pl,l.length<=B
ЛHold.add{R:NK->Г->В}{B:Г}{ks:А NK}{pl:Vv}(h:Hold R B ks pl)(t:NK)(p:Г):Hold (λu q=>R u q\/(u=t/\q=p)) (B+1) (Ff ks pl t p).1 (Ff ks pl t p).2:=by
 U Ff;cases e:Y8 ks t with
 |some q=>
  V hq:=Oj e;V hql:q<ks.length:=by J dv q ks.length with z|z;E z;K[dy z]at hq;C hq
  V hqp:q<pl.length:=by K[<-h.len];E hql
  V eg:pl.getD q []=pl[q]:=by K[bn,av hqp];rfl
  R⟨h.nd,by K[List.length_set];E h.len,λu r=>?_,Nat.le_succ_of_le h.few,λl hl=>?_⟩
  ·K[<-h.has u r];constructor
   ·rintro⟨i,l,h1,h2,h3⟩;B hi:i=q
    ·Q hi;V eu:u=t:=by K[hq]at h1;E(cz.inj h1).symm
     K[d5 hqp]at h2;V el:=cz.inj h2;K[<-el]at h3;J bz.mp h3 with z|z
     ·K[eg]at z;E .inl ⟨i,pl[i],h1,av hqp,z⟩
     ·E .inr ⟨eu,ar.mp z⟩
    ·K[fj (λz=>hi z.symm)]at h2;E .inl ⟨i,l,h1,h2,h3⟩
   ·rintro(⟨i,l,h1,h2,h3⟩|⟨rfl,rfl⟩)
    ·B hi:i=q
     ·Q hi;R⟨i,pl.getD i []++[p],h1,d5 hqp,bj _ ?_⟩;K[eg];K[av hqp]at h2;K[cz.inj h2];E h3
     ·E⟨i,l,h1,by K[fj (λz=>hi z.symm)];E h2,h3⟩
    ·E⟨q,_,hq,d5 hqp,bh _ af⟩
  ·J List.mem_or_eq_of_mem_set hl with z|z
   ·E Nat.le_succ_of_le (h.each l z)
   ·K[z,aw,eg];V :=h.each _ (List.getElem_mem hqp);L this
 |none=>
  V hn:=Ol e;R⟨dq.mpr ⟨h.nd,by simp,λa ha b hb e=>hn (by K[<-ar.mp hb,<-e];E ha)⟩,by simp[h.len],λu r=>?_,by V :=h.few;simp;W,λl hl=>?_⟩
  ·K[<-h.has u r];constructor
   ·rintro⟨i,l,h1,h2,h3⟩;J dv i ks.length with z|z
    ·K[dg z]at h1;K[dg (by K[<-h.len];E z)]at h2;E .inl ⟨i,l,h1,h2,h3⟩
    ·K[gk z]at h1;K[gk (by K[<-h.len];E z),<-h.len]at h2;cases ei:i- ks.length with
     |zero=>K[ei]at h1 h2;C h1;C h2;E .inr ⟨rfl,ar.mp h3⟩
     |succ j=>K[ei]at h1;C h1
   ·rintro(⟨i,l,h1,h2,h3⟩|⟨rfl,rfl⟩)
    ·V z:i<ks.length:=by J dv i ks.length with z|z;E z;K[dy z]at h1;C h1
     E⟨i,l,by K[dg z];E h1,by K[dg (by K[<-h.len];E z)];E h2,h3⟩
    ·E⟨ks.length,[r],by simp,by K[h.len];simp,af⟩
  ·J bz.mp hl with z|z
   ·E Nat.le_succ_of_le (h.each l z)
   ·K[ar.mp z];simp
ЛZch(ks:А NK)(pl:Vv)(t:NK)(p:Г):Tq ks (pl.map W4) t [.int (p:Int)]=((Ff ks pl t p).1,(Ff ks pl t p).2.map W4):=by
 U Tq Ff;cases Y8 ks t with
 |some q=>
  dsimp only;K[List.map_set];V :(pl.map W4).getD q []=W4 (pl.getD q []):=by K[bn,bn,az];cases pl[q]? <;> rfl
  K[this];simp[W4]
 |none=>simp[W4]
ЛZa0{δ:Yk}{i j:Г}{fk:FE}{ext:Bool}{ks:А NK}{xss:А (А D)}{k:NK}{p:RV×Yk}{q:D×Yk}{d:D}{ys:А D}(h1:δ[i]? =aA (aA (.oX ks xss)))(h2:fk δ=aA p)(h3:frz p.1 p.2=aA q)(h4:nk? q.1=aA k)(h5:q.2[i]? =aA (aA (.oX ks xss)))(h6:q.2[j]? =aA (aA (.fz d)))
  (h7:(ext=aD/\ys=[d])\/(ext=aC/\d= .lst ys)) (h8:okX xss ys.length):Th i fk j ext δ=aA (.nx (q.2.set i (aA (.oX (Tq ks xss k ys).1 (Tq ks xss k ys).2)))):=by
 U Th;K[h1];dsimp only;K[h2];dsimp only[c6];K[h3];dsimp only[c6];K[h4];dsimp only[c6];K[h5,h6];dsimp only;J h7 with⟨rfl,rfl⟩|⟨rfl,rfl⟩
 ·K[Д Й];dsimp only[c6];K[Е h8]
 ·K[Е rfl];dsimp only[c6];K[Е h8]
ЛZgk{xss:А (А D)}{n:Г}(h1:xss.length<=100000)(h2:n<=100000)(h3:∀xs∈xss,xs.length<=100000):okX xss n:=
 ⟨Yd И,Yd И,λxs hx=>Yd (by V :=h3 xs hx;W)⟩
ЛHold.ok{R:NK->Г->В}{B:Г}{ks:А NK}{pl:Vv}(h:Hold R B ks pl)(hB:B<=10000)(n:Г)(hn:n<=10000):okX (pl.map W4) n:=
 Zgk (by K[aq,<-h.len];V :=h.few;W) И λxs hx=>by O⟨l,hl,rfl⟩:=ax.mp hx;V :=h.each l hl;simp[W4];W
ЛHold.imp{R R':NK->Г->В}{B B':Г}{ks:А NK}{pl:Vv}(h:Hold R B ks pl)(e:∀t p,R t p↔R' t p)(hB:B<=B'):Hold R' B' ks pl:=
 ⟨h.nd,h.len,λt p=>(h.has t p).trans (e t p),dk h.few hB,λl hl=>dk (h.each l hl) hB⟩
ЛVe(A hd:Б SV)(n:Г):∀(ts:А NK) (R:NK->Г->В) (B:Г) (ks:А NK) (pl:Vv) (x4:Б SV),Hold R B ks pl->B+ts.length<=10000->∃ks' pl' y4,Hold (λu q=>R u q\/(u∈ts/\q=n)) (B+ts.length) ks' pl'/\
  Z7 (Zd 4) Gen.U1 (ts.map Zn) [A,aA (.oX ks (pl.map W4)),aA (.fz (.int (n:Int))),hd,x4]=aA (.nx [A,aA (.oX ks' (pl'.map W4)),aA (.fz (.int (n:Int))),hd,y4])
 | [],R,B,ks,pl,x4,h,_=>⟨ks,pl,x4,h.imp (λt p=>by simp) (ba _),by simp⟩
 |t::ts,R,B,ks,pl,x4,h,hz=>by
  K[bf]at hz;O⟨ks',pl',y4,h',ih⟩:=Ve A hd n ts _ (B+1) (Ff ks pl t n).1 (Ff ks pl t n).2 (aA (.fz (Zn t))) (h.add t n) И;R⟨ks',pl',y4,h'.imp (λu q=>?_) (by K[bf];W),?_⟩
  ·K[bx];constructor
   ·rintro((z|⟨z1,z2⟩)|⟨z1,z2⟩)
    ·E .inl z
    ·E .inr ⟨.inl z1,z2⟩
    ·E .inr ⟨.inr z1,z2⟩
   ·rintro(z|⟨z1|z1,z2⟩)
    ·E .inl (.inl z)
    ·E .inl (.inr ⟨z1,z2⟩)
    ·E .inr ⟨z1,z2⟩
  ·V a:Gen.U1 [A,aA (.oX ks (pl.map W4)),aA (.fz (.int (n:Int))),hd,aA (.fz (Zn t))]=aA (.nx [A,aA (.oX (Ff ks pl t n).1 ((Ff ks pl t n).2.map W4)),aA (.fz (.int (n:Int))),hd,aA (.fz (Zn t))]):=by V :=Za0 (δ:=[A,aA (.oX ks (pl.map W4)),aA (.fz (.int (n:Int))),hd,aA (.fz (Zn t))]) (i:=1) (j:=2) (fk:=Za 4) (p:=(.tmp (.fz (Zn t)),[A,aA (.oX ks (pl.map W4)),aA (.fz (.int (n:Int))),hd,aA (.fz (Zn t))])) (q:=(Zn t,[A,aA (.oX ks (pl.map W4)),aA (.fz (.int (n:Int))),hd,aA (.fz (Zn t))])) (d:=.int (n:Int)) (ext:=aD) (ys:=[.int (n:Int)]) rfl rfl rfl (Co t) rfl rfl (.inl ⟨rfl,rfl⟩) (h.ok И _ К);K[Zch]at this;E this
   K[bc];U Z7;K[show(Zd 4).run (Zn t) [A,aA (.oX ks (pl.map W4)),aA (.fz (.int (n:Int))),hd,x4]=aA [A,aA (.oX ks (pl.map W4)),aA (.fz (.int (n:Int))),hd,aA (.fz (Zn t))]from by simp];dsimp only[c6];K[a];E ih
end My
namespace My
open DL PySem TT
МFg(hs:А HP):Nat:=(hs.map λh=>(Ui h).length).sum
ЛM4(h:HP)(hs:А HP):Fg (h::hs)=(Ui h).length+Fg hs:=by U Fg;simp
ЛZci(A:Б SV)(n:Г)(h:HP)(R:NK->Г->В)(B:Г)(ks:А NK)(pl:Vv)(x4:Б SV)(ho:Hold R B ks pl)(hz:B+(Ui h).length<=10000):∃ks' pl' y4,Hold (λu q=>R u q\/(u∈Ui h/\q=n)) (B+(Ui h).length) ks' pl'/\
  Gen.Wy [A,aA (.oX ks (pl.map W4)),aA (.fz (.int (n:Int))),aA (.fz (Z0 h)),x4]=aA (.nx [A,aA (.oX ks' (pl'.map W4)),aA (.fz (.int (n:Int))),aA (.fz (Z0 h)),y4]):=by
 O⟨ks',pl',y4,h',e⟩:=Ve A (aA (.fz (Z0 h))) n (Ui h) R B ks pl x4 ho hz;R⟨ks',pl',y4,h',?_⟩;V zl:(h.ns.map Zn).length+(h.ms.map Zn).length<=PySem.sizeLine:=Qw (by K[aq,aq];K[aw]at hz;W);V at1:∀a b c:D,L2.atI [a,b,c] 1=aA b:=λ_ _ _=>rfl;V at0:∀a b c:D,L2.atI [a,b,c] 0=aA a:=λ_ _ _=>rfl;K[show(Ui h).map Zn=h.ns.map Zn++h.ms.map Zn from b9]at e;U Gen.Wy;U Z0 at e⊢;G h.ns.map Zn=NS;G h.ms.map Zn=MS;G h.fs.map Wm=TS;G pl.map W4=PL;G pl'.map W4=PL';simp[at0,at1,zl,e,-Z7]
аRg(hs:А HP)(t:NK)(p:Г):Prop:=∃h,hs[p]? =aA h/\t∈Ui h
ЛKz(A:Б SV):∀(hs pre:А HP) (B:Г) (ks:А NK) (pl:Vv) (x2 x3 x4:Б SV),Hold (Rg pre) B ks pl->B+Fg hs<=10000->∃ks' pl' y2 y3 y4,Hold (Rg (pre++hs)) (B+Fg hs) ks' pl'/\
  Z7 (Wj 2 (Zt (Zd 2) (Zt (Zd 3) Wi))) Gen.Wy (((hs.map Z0).zipIdx pre.length).map λp=>D.tup [.int (p.2:Г),p.1]) [A,aA (.oX ks (pl.map W4)),x2,x3,x4]=aA (.nx [A,aA (.oX ks' (pl'.map W4)),y2,y3,y4])
 | [],pre,B,ks,pl,x2,x3,x4,ho,_=>⟨ks,pl,x2,x3,x4,by K[List.append_nil];E ho,by simp⟩
 |h::hs,pre,B,ks,pl,x2,x3,x4,ho,hz=>by
  K[M4]at hz;O⟨ks1,pl1,z4,h1,t⟩:=Zci A pre.length h _ B ks pl x4 ho И;V h2:Hold (Rg (pre++[h])) (B+(Ui h).length) ks1 pl1:=h1.imp (λu p=>by
   constructor
   ·rintro(⟨g,e,z⟩|⟨z,rfl⟩)
    ·V hp:p<pre.length:=by J dv p pre.length with q|q;E q;K[dy q]at e;C e
     E⟨g,by K[dg hp];E e,z⟩
    ·E⟨h,by simp,z⟩
   ·rintro⟨g,e,z⟩;J dv p pre.length with q|q
    ·K[dg q]at e;E .inl ⟨g,e,z⟩
    ·K[gk q]at e;cases ei:p- pre.length with
     |zero=>K[ei]at e;C e;E .inr ⟨z,by W⟩
     |succ j=>K[ei]at e;C e) (ba _)
  O⟨ks',pl',y2,y3,y4,h',ih⟩:=Kz A hs (pre++[h]) _ ks1 pl1 (aA (.fz (.int (pre.length:Int)))) (aA (.fz (Z0 h))) z4 h2 И;R⟨ks',pl',y2,y3,y4,?_,?_⟩
  ·K[gp]at h';K[M4];E h'.imp (λ_ _=>Iff.rfl) И
  ·K[bc,List.zipIdx_cons,bc];K[aw]at ih;U Z7;K[show(Wj 2 (Zt (Zd 2) (Zt (Zd 3) Wi))).run (.tup [.int (pre.length:Г),Z0 h]) [A,aA (.oX ks (pl.map W4)),x2,x3,x4]=aA [A,aA (.oX ks (pl.map W4)),aA (.fz (.int (pre.length:Int))),aA (.fz (Z0 h)),x4]from by simp];dsimp only[c6];K[t];E ih
аY4(ks:А NK)(pl:Vv):D:=.dX ks ((pl.map W4).map D.lst)
Лholders_of(hs:А HP)(hz:Fg hs<=10000):∃ks pl,Hold (Rg hs) (Fg hs) ks pl/\Gen.Qx [.lst (hs.map Z0)]=aA (.fz (Y4 ks pl)):=by
 V h0:Hold (Rg []) 0 [] []:=⟨df,rfl,λt p=>⟨λ⟨q,l,h,_⟩=>by simp at h,λ⟨h,e,_⟩=>by simp at e⟩,ba _,λl hl=>nomatch hl⟩
 O⟨ks,pl,y2,y3,y4,ho,e⟩:=Kz (aA (.fz (.lst (hs.map Z0)))) hs [] 0 [] [] aB aB aB h0 И;R⟨ks,pl,by L ho,?_⟩;K[show(((hs.map Z0).zipIdx ([]:А HP).length).map λp=>D.tup [.int (p.2:Г),p.1])=Js (hs.map Z0)from rfl]at e;V e:Z7 (Wj 2 (Zt (Zd 2) (Zt (Zd 3) Wi))) Gen.Wy (Js (hs.map Z0)) [aA (.fz (.lst (hs.map Z0))),aA (.oX [] []),aB,aB,aB]=_:=e;U Gen.Qx Gen.B4 Y4;G hs.map Z0=HS;G pl.map W4=HX;simp[e,Ku,-Z7]
ЛPe:∀{ks:А NK} {vs:А D} {q:Г} {t:NK} {v:D},ks.Nodup->ks[q]? =aA t->vs[q]? =aA v->look ks vs t=aA v
 | [],vs,q,t,v,_,h,_=>by simp at h
 |k::ks,[],q,t,v,_,_,h=>by simp at h
 |k::ks,u::vs,q,t,v,nd,h1,h2=>by
  O⟨n1,n2⟩:=dm.mp nd;show(if k=t then aA u else look ks vs t)=aA v;cases q with
  |zero=>C h1;C h2;K[Е rfl]
  |succ q=>have h1:ks[q]? =aA t:=h1;K[Д λe=>n1 (by K[e];E b5 h1)];E Pe n2 h1 h2
ЛHold.look{R:NK->Г->В}{B:Г}{ks:А NK}{pl:Vv}(h:Hold R B ks pl){t:NK}{p:Г}(hr:R t p):∃l:А Г,DL.look ks ((pl.map W4).map D.lst) t=aA (.lst (W4 l))/\(∀p,p∈l↔R t p)/\l.length<=B:=by
 O⟨q,l,h1,h2,h3⟩:=(h.has t p).mpr hr;R⟨l,Pe h.nd h1 (by K[az,az,h2];rfl),λp'=>?_,h.each l (b5 h2)⟩;K[<-h.has t p'];constructor
 ·E λz=>⟨q,l,h1,h2,z⟩
 ·rintro⟨q',l',g1,g2,g3⟩;V hq:q<ks.length:=by J dv q ks.length with z|z;E z;K[dy z]at h1;C h1
  V :q=q':=(List.getElem?_inj hq h.nd).mp (h1.trans g1.symm);Q this;K[h2]at g2;K[cz.inj g2];E g3
end My
namespace My
open DL PySem TT
аQ5(f:А Г):А L2.Key:=f.map λp:Г=>.inl (p:Int)
аQ6(f:А Г):А D:=f.map λ_=>.bl aC
ЛBd{f:А Г}{p:Г}:(Sum.inl (p:Int):L2.Key)∈Q5 f↔p∈f:=by
 constructor
 ·I z;O⟨q,hq,e⟩:=ax.mp z;V e:=Sum.inl.inj e;V :q=p:=by W
  K[<-this];E hq
 ·E λz=>List.mem_map_of_mem (f:=λp:Г=>(Sum.inl (p:Int):L2.Key)) z
ЛE6:∀{ks:А L2.Key} {vs:А D} {k:L2.Key},k∉ks->look ks vs k=aB
 | [],vs,k,_=>by cases vs<;> rfl
 |a::ks,[],k,_=>rfl
 |a::ks,v::vs,k,h=>by show(if a=k then aA v else look ks vs k)=aB;K[Д λz=>h (by K[z];E af),E6 λz=>h (ao _ z)]
ЛM5:∀{ks:А L2.Key} {vs:А D} {k:L2.Key},ks.length=vs.length->k∈ks->∃v,look ks vs k=aA v
 |a::ks,[],k,h,_=>by simp at h
 |a::ks,v::vs,k,h,hk=>by
  B e:a=k
  ·E⟨v,by show(if a=k then aA v else _)=_;K[Е e]⟩
  ·O⟨w,hw⟩:=M5 (ks:=ks) (vs:=vs) (k:=k) (by L h) (by
    J bx.mp hk with z|z
    ·E absurd z.symm e
    ·E z)
   E⟨w,by show(if a=k then aA v else look ks vs k)=_;K[Д e,hw]⟩
structure TI(n:Г)(f l:А Г):В where
 nd:f.Nodup
 lt:∀x∈f,x<n
 ld:l.Nodup
 sub:∀x∈l,x∈f
ЛPf{n:Г}{f:А Г}(nd:f.Nodup)(lt:∀x∈f,x<n):f.length<=n:=by V :=da nd (l₂:=cq n) λx hx=>cu.mpr (lt x hx);L this
ЛTI.len{n:Г}{f l:А Г}(h:TI n f l):f.length<=n/\l.length<=n:=⟨Pf h.nd h.lt,Pf h.ld λx hx=>h.lt x (h.sub x hx)⟩
аRl(HS:А D)(HD:D)(i:Г)(f l:А Г)(x5 x6 x7:Б SV):Yk:=[aA (.fz (.lst HS)),aA (.fz HD),aA (.fz (.int (i:Int))),aA (.oK (Q5 f) (Q6 f)),aA (.ol (W4 l)),x5,x6,x7]
ЛHk(HS:А D)(HD:D)(i n:Г)(hn:n<=1000)(f l:А Г)(h:TI n f l)(o:Г)(x5 x6:Б SV):
  Gen.U2 (Rl HS HD i f l x5 x6 (aA (.fz (.int (o:Int)))))=aA (.nx (if o∈f then Rl HS HD i f l x5 x6 (aA (.fz (.int (o:Int))))else Rl HS HD i (f++[o]) (l++[o]) x5 x6 (aA (.fz (.int (o:Int)))))):=by
 V z1:(Q6 f).length<PySem.sizeLine:=Yd (by V :=h.len;simp;W);V z2:(W4 l).length<PySem.sizeLine:=Yd (by V :=h.len;simp[W4];W);B ho:o∈f
 ·K[Е ho];O⟨v,lk⟩:=M5 (ks:=Q5 f) (vs:=Q6 f) (k:=.inl (o:Int)) К (Bd.mpr ho);U Gen.U2 Rl;G Q5 f=KF;G Q6 f=VF;G W4 l=PL;simp[lk,-look]
 ·K[Д ho];V lk:look (Q5 f) (Q6 f) (.inl (o:Int))=aB:=E6 λz=>ho (Bd.mp z);V p:Wv (Q5 f) (Q6 f) (Sum.inl (o:Int)) (.bl aC)=(Q5 (f++[o]),Q6 (f++[o])):=by U Wv;K[Д λz=>ho (Bd.mp z)];simp[Q5,Q6]
  V e:W4 (l++[o])=W4 l++[.int (o:Int)]:=by simp[W4]
  U Gen.U2 Rl;K[e];G Q5 (f++[o])=KF';G Q6 (f++[o])=VF';G Q5 f=KF;G Q6 f=VF;G W4 l=PL;simp[lk,p,z1,z2,-look,-Wv]
ЛTI.snoc{n:Г}{f l:А Г}(h:TI n f l){o:Г}(ho:o∉f)(hn:o<n):TI n (f++[o]) (l++[o]):=by
 R⟨dq.mpr ⟨h.nd,by simp,λa ha b hb e=>ho (by K[<-ar.mp hb,<-e];E ha)⟩,λx hx=>?_,dq.mpr ⟨h.ld,by simp,λa ha b hb e=>ho (by K[<-ar.mp hb,<-e];E h.sub a ha)⟩,λx hx=>?_⟩
 ·J bz.mp hx with z|z
  ·E h.lt x z
  ·K[ar.mp z];E hn
 ·J bz.mp hx with z|z
  ·E bj _ (h.sub x z)
  ·E bh _ z
structure Grew(X:Г->В)(f l f' l':А Г):В where
 gf:∀x,x∈f'↔x∈f\/X x
 gl:∀x,x∈l'↔x∈l\/(X x/\x∉f)
 len:f'.length+l.length=f.length+l'.length
ЛGrew.imp{X Y:Г->В}{f l f' l':А Г}(g:Grew X f l f' l')(e:∀x,X x↔Y x):Grew Y f l f' l':=⟨λx=>by K[g.gf,e],λx=>by K[g.gl,e],g.len⟩
ЛGrew.trans{X Y:Г->В}{f l f1 l1 f2 l2:А Г}(g:Grew X f l f1 l1)(h:Grew Y f1 l1 f2 l2):Grew (λx=>X x\/Y x) f l f2 l2:=by
 R⟨λx=>?_,λx=>?_,by V :=g.len;V :=h.len;W⟩
 ·K[h.gf,g.gf,or_assoc]
 ·K[h.gl,g.gl,g.gf];constructor
  ·rintro((z|⟨z1,z2⟩)|⟨z1,z2⟩)
   ·E .inl z
   ·E .inr ⟨.inl z1,z2⟩
   ·E .inr ⟨.inr z1,λw=>z2 (.inl w)⟩
  ·rintro(z|⟨z1|z1,z2⟩)
   ·E .inl (.inl z)
   ·E .inl (.inr ⟨z1,z2⟩)
   ·B hx:X x
    ·E .inl (.inr ⟨hx,z2⟩)
    ·E .inr ⟨z1,λw=>w.elim z2 hx⟩
ЛC3(HS:А D)(HD:D)(i n:Г)(hn:n<=1000)(x5 x6:Б SV):∀(os f l:А Г) (x7:Б SV),TI n f l->(∀o∈os,o<n)->∃f' l' y7,TI n f' l'/\Grew (· ∈os) f l f' l'/\
  Z7 (Zd 7) Gen.U2 (W4 os) (Rl HS HD i f l x5 x6 x7)=aA (.nx (Rl HS HD i f' l' x5 x6 y7))
 | [],f,l,x7,h,_=>⟨f,l,x7,h,⟨λx=>by simp,λx=>by simp,rfl⟩,by simp[W4]⟩
 |o::os,f,l,x7,h,ho=>by
  V t:=Hk HS HD i n hn f l h o x5 x6;V r:(Zd 7).run (.int (o:Int)) (Rl HS HD i f l x5 x6 x7)=aA (Rl HS HD i f l x5 x6 (aA (.fz (.int (o:Int))))):=by simp[Rl]
  B hf:o∈f
  ·K[Е hf]at t;O⟨f',l',y7,h',g,ih⟩:=C3 HS HD i n hn x5 x6 os f l (aA (.fz (.int (o:Int)))) h λx hx=>ho x (ao _ hx);R⟨f',l',y7,h',⟨λx=>?_,λx=>?_,g.len⟩,?_⟩
   ·K[g.gf,bx];E⟨λz=>z.elim .inl λz=>.inr (.inr z),λz=>z.elim .inl λz=>z.elim (λz=>.inl (by K[z];E hf)) .inr⟩
   ·K[g.gl,bx];E⟨λz=>z.elim .inl λz=>.inr ⟨.inr z.1,z.2⟩,λz=>z.elim .inl λz=>z.1.elim (λw=>absurd (by K[w];E hf) z.2) λw=>.inr ⟨w,z.2⟩⟩
   ·T Z7 (Zd 7) Gen.U2 (.int (o:Int)::W4 os) _=_;U Z7;K[r];dsimp only[c6];K[t];E ih
  ·K[Д hf]at t;O⟨f',l',y7,h',g,ih⟩:=C3 HS HD i n hn x5 x6 os (f++[o]) (l++[o]) (aA (.fz (.int (o:Int)))) (h.snoc hf (ho o af)) λx hx=>ho x (ao _ hx);V g0:Grew (· =o) f l (f++[o]) (l++[o]):=⟨λx=>by simp,λx=>by
    K[bz,ar];E⟨λz=>z.elim .inl λz=>.inr ⟨z,by K[z];E hf⟩,λz=>z.elim .inl λz=>.inr z.1⟩,by simp;W⟩
   R⟨f',l',y7,h',(g0.trans g).imp λx=>by K[bx],?_⟩;T Z7 (Zd 7) Gen.U2 (.int (o:Int)::W4 os) _=_;U Z7;K[r];dsimp only[c6];K[t];E ih
ЛZgl(hs:А HP)(ks:А NK)(pl:Vv)(B:Г)(ho:Hold (Rg hs) B ks pl)(i n:Г)(hn:n<=1000)(hl:hs.length=n)(f l:А Г)(h:TI n f l)(t:NK)(j:Г)(ht:Rg hs t j)(x5 x7:Б SV):∃f' l' y7,TI n f' l'/\Grew (Rg hs t) f l f' l'/\
  Gen.R8 (Rl (hs.map Z0) (Y4 ks pl) i f l x5 (aA (.fz (Zn t))) x7)=aA (.nx (Rl (hs.map Z0) (Y4 ks pl) i f' l' x5 (aA (.fz (Zn t))) y7)):=by
 O⟨os,lk,hm,_⟩:=ho.look ht;O⟨f',l',y7,h',g,e⟩:=C3 (hs.map Z0) (Y4 ks pl) i n hn x5 (aA (.fz (Zn t))) os f l x7 h λo hoo=>by
  O⟨g,eg,_⟩:=(hm o).mp hoo;K[<-hl];J dv o hs.length with z|z
  ·E z
  ·K[dy z]at eg;C eg
 R⟨f',l',y7,h',g.imp hm,?_⟩;V nk:=Co t;U Gen.R8;U Rl Y4 at e⊢;G hs.map Z0=HS;G (pl.map W4).map D.lst=HX;G Zn t=T;G W4 os=OS;G Q5 f'=A1;G Q6 f'=A2;G W4 l'=A3;G Q5 f=A4;G Q6 f=A5;G W4 l=A6;simp[nk,lk,e,-look,-Z7]
ЛK0(hs:А HP)(ks:А NK)(pl:Vv)(B:Г)(ho:Hold (Rg hs) B ks pl)(i n:Г)(hn:n<=1000)(hl:hs.length=n)(j:Г)(x5:Б SV):∀(ts:А NK) (f l:А Г) (x6 x7:Б SV),TI n f l->(∀t∈ts,Rg hs t j)->∃f' l' y6 y7,TI n f' l'/\Grew (λx=>∃t∈ts,Rg hs t x) f l f' l'/\
  Z7 (Zd 6) Gen.R8 (ts.map Zn) (Rl (hs.map Z0) (Y4 ks pl) i f l x5 x6 x7)=aA (.nx (Rl (hs.map Z0) (Y4 ks pl) i f' l' x5 y6 y7))
 | [],f,l,x6,x7,h,_=>⟨f,l,x6,x7,h,⟨λx=>by simp,λx=>by simp,rfl⟩,by simp⟩
 |t::ts,f,l,x6,x7,h,ht=>by
  O⟨f1,l1,z7,h1,g1,e1⟩:=Zgl hs ks pl B ho i n hn hl f l h t j (ht t af) x5 x7;O⟨f',l',y6,y7,h',g',ih⟩:=K0 hs ks pl B ho i n hn hl j x5 ts f1 l1 (aA (.fz (Zn t))) z7 h1 λu hu=>ht u (ao _ hu);R⟨f',l',y6,y7,h',(g1.trans g').imp λx=>?_,?_⟩
  ·simp only[bx,exists_eq_or_imp]
  ·K[bc];U Z7;K[show(Zd 6).run (Zn t) (Rl (hs.map Z0) (Y4 ks pl) i f l x5 x6 x7)=aA (Rl (hs.map Z0) (Y4 ks pl) i f l x5 (aA (.fz (Zn t))) x7)from by simp[Rl]];dsimp only[c6];K[e1];E ih
end My
namespace My
open DL PySem TT
МshI(hs:А HP)(a b:Г):Prop:=∃t,Rg hs t a/\Rg hs t b
inductive RI(hs:А HP)(i:Г):Г->В where
 |here:RI hs i i
 |step {a b:Г}:RI hs i a->shI hs a b->RI hs i b
ЛZll{hs:А HP}{i:Г}{h:HP}(e:hs[i]? =aA h):L2.atI (hs.map Z0) (i:Int)=aA (Z0 h):=by
 V hl:i<hs.length:=by J dv i hs.length with z|z;E z;K[dy z]at e;C e
 V :L2.ixN hs.length (i:Int)=aA i:=by U L2.ixN;simp;W
 U L2.atI;K[aq,this];show(hs.map Z0)[i]? =_;K[az,e];rfl
section
variable(hs:А HP)(ks:А NK)(pl:Vv)(B:Г)(ho:Hold (Rg hs) B ks pl)(i n:Г)(hn:n<=1000)(hl:hs.length=n)(hB:∀h∈hs,(Ui h).length<=10000)
include ho hn hl hB
ЛZcj(f l:А Г)(j:Г)(h:HP)(hj:hs[j]? =aA h)(ti:TI n f (l++[j]))(x5 x6 x7:Б SV):∃f' l' y5 y6 y7,TI n f' l'/\Grew (shI hs j) f l f' l'/\
  Gen.Cw (Rl (hs.map Z0) (Y4 ks pl) i f (l++[j]) x5 x6 x7)=aA (.nx (Rl (hs.map Z0) (Y4 ks pl) i f' l' y5 y6 y7)):=by
 V ti0:TI n f l:=⟨ti.nd,ti.lt,(dq.mp ti.ld).1,λx hx=>ti.sub x (bj _ hx)⟩
 O⟨f',l',y6,y7,h',g,e⟩:=K0 hs ks pl B ho i n hn hl j (aA (.fz (Z0 h))) (Ui h) f l x6 x7 ti0 λt ht=>⟨h,hj,ht⟩
 R⟨f',l',aA (.fz (Z0 h)),y6,y7,h',g.imp λx=>?_,?_⟩
 ·constructor
  ·rintro⟨t,ht,hx⟩;E⟨t,⟨h,hj,ht⟩,hx⟩
  ·rintro⟨t,⟨h2,e2,ht⟩,hx⟩;K[hj]at e2;C e2;E⟨t,ht,hx⟩
 ·V hz2:(Ui h).length<=10000:=hB h (b5 hj);V zl:(h.ns.map Zn).length+(h.ms.map Zn).length<=PySem.sizeLine:=Qw (by K[aq,aq];K[aw]at hz2;W);V at1:∀a b c:D,L2.atI [a,b,c] 1=aA b:=λ_ _ _=>rfl;V at0:∀a b c:D,L2.atI [a,b,c] 0=aA a:=λ_ _ _=>rfl;V ai:=Zll hj;K[show(Ui h).map Zn=h.ns.map Zn++h.ms.map Zn from b9]at e;V el:W4 (l++[j])=W4 l++[.int (j:Int)]:=by simp[W4]
  V e1:(W4 l++[D.int (j:Int)])[(W4 l++[D.int (j:Int)]).length- 1]? =aA (.int (j:Int)):=by simp
  V e2:(W4 l++[D.int (j:Int)]).dropLast=W4 l:=List.dropLast_concat;U Gen.Cw;U Rl at e⊢;K[el];K[show Z0 h= .tup [.lst (h.ns.map Zn),.lst (h.ms.map Zn),.lst (h.fs.map Wm)]from rfl]at e ai⊢;G hs.map Z0=HS;G Y4 ks pl=HD;G h.ns.map Zn=NS;G h.ms.map Zn=MS;G h.fs.map Wm=TS;G Q5 f'=A1;G Q6 f'=A2;G W4 l'=A3;G Q5 f=A4;G Q6 f=A5;G W4 l=A6;generalize hQ:A6++[D.int (j:Int)]=A7 at*;simp[e1,e2,ai,at0,at1,zl,e,-Z7]
ЛE7:∀(m:Г) (f l:А Г) (x5 x6 x7:Б SV),TI n f l->2*(n- f.length)+l.length<m->i∈f->(∀a∈f,RI hs i a)->(∀a∈f,a∉l->∀b,shI hs a b->b∈f)->(∀a∈f,a<n)->∃f' y5 y6 y7,TI n f' []/\i∈f'/\(∀a∈f',RI hs i a)/\(∀a∈f',∀b,shI hs a b->b∈f')/\
  Uu Gen.U3 Gen.Cw m (Rl (hs.map Z0) (Y4 ks pl) i f l x5 x6 x7)=aA (.nx (Rl (hs.map Z0) (Y4 ks pl) i f' [] y5 y6 y7))
 |0,f,l,x5,x6,x7,_,hm,_,_,_,_=>absurd hm (dz _)
 |m+1,f,l,x5,x6,x7,ti,hm,hi,hr,hc,hlt=>by
  J List.eq_nil_or_concat l with rfl|⟨l0,j,rfl⟩
  ·R⟨f,x5,x6,x7,ti,hi,hr,λa ha=>hc a ha К,?_⟩;V t2:Gen.U3 (Rl (hs.map Z0) (Y4 ks pl) i f [] x5 x6 x7)=aA (aD,Rl (hs.map Z0) (Y4 ks pl) i f [] x5 x6 x7):=by U Gen.U3 Rl;simp[W4]
   U Uu;K[t2];rfl
  ·K[List.concat_eq_append]at*;V hjf:j∈f:=ti.sub j К;V hjl:j<hs.length:=by K[hl];E hlt j hjf
   V hj:hs[j]? =aA hs[j]:=av hjl;O⟨f',l',y5,y6,y7,ti',g,e⟩:=Zcj hs ks pl B ho i n hn hl hB f l0 j hs[j] hj ti x5 x6 x7;V t1:Gen.U3 (Rl (hs.map Z0) (Y4 ks pl) i f (l0++[j]) x5 x6 x7)=aA (aC,Rl (hs.map Z0) (Y4 ks pl) i f (l0++[j]) x5 x6 x7):=by U Gen.U3 Rl;simp[W4]
   V hlen:=g.len;V hf':=ti'.len.1;V hff:f.length<=f'.length:=da ti.nd λx hx=>(g.gf x).mpr (.inl hx);V hfn:=ti.len.1;K[aw]at hm;O⟨f2,z5,z6,z7,ti2,a1,a2,a3,a4⟩:=E7 m f' l' y5 y6 y7 ti' (by simp at hm;W) ((g.gf i).mpr (.inl hi)) (λa ha=>by
     rcases(g.gf a).mp ha with z|z
     ·E hr a z
     ·E .step (hr j hjf) z) (λa ha hal b hab=>by
     B haf:a∈f
     ·B haj:a=j
      ·K[haj]at hab;E(g.gf b).mpr (.inr hab)
      ·V :a∉l0++[j]:=λz=>by
        J bz.mp z with z|z
        ·E hal ((g.gl a).mpr (.inl z))
        ·E haj (ar.mp z)
       E(g.gf b).mpr (.inl (hc a haf this b hab))
     ·rcases(g.gf a).mp ha with z|z
      ·E absurd z haf
      ·E absurd ((g.gl a).mpr (.inr ⟨z,haf⟩)) hal) (λa ha=>ti'.lt a ha)
   R⟨f2,z5,z6,z7,ti2,a1,a2,a3,?_⟩;U Uu;K[t1];dsimp only[c6];K[Е rfl,e];E a4
Лtied(hi:i<n)(hn2:n<=300):∃f,TI n f []/\i∈f/\(∀a∈f,RI hs i a)/\(∀a∈f,∀b,shI hs a b->b∈f)/\Gen.Ey [.lst (hs.map Z0),Y4 ks pl,.int (i:Int)]=aA (.ol (W4 f)):=by
 V ti:TI n [i] [i]:=⟨by simp,λx hx=>by K[ar.mp hx];E hi,by simp,λx hx=>hx⟩
 O⟨f,y5,y6,y7,ti',a1,a2,a3,w⟩:=E7 hs ks pl B ho i n hn hl hB 1000 [i] [i] aB aB aB ti (by simp;W) К (λa ha=>by K[ar.mp ha];E .here) (λa ha hal=>absurd ha hal) (λa ha=>ti.lt a ha);R⟨f,ti',a1,a2,a3,?_⟩;V ek:(Q5 f).map Rw=W4 f:=by K[cg];rfl
 U Gen.Ey Gen.He;V w:Uu Gen.U3 Gen.Cw Gen.Zod [aA (.fz (.lst (hs.map Z0))),aA (.fz (Y4 ks pl)),aA (.fz (.int (i:Int))),aA (.oK [.inl (i:Int)] [.bl aC]),aA (.ol [.int (i:Int)]),aB,aB,aB]=_:=w;U Rl at w;G hs.map Z0=HS;G Y4 ks pl=HD;G Q5 f=A1;G Q6 f=A2;G W4 f=A3;simp[w,ek,jz1]
end
end My
namespace My
open DL PySem TT TX
аY5(t:T0):NK:=.inl [t.1,t.2.1]
МOkK(l:А NK):Prop:=(∀k∈l,Rb k)\/(∀k∈l,isM k)
ЛOkK.one{l:А NK}(h:OkK l):Cc l:=h.imp (λh k hk=>h k hk) λh k hk=>h k hk
ЛPg{l:А NK}(h:OkK l):∃out:А NK,out.Pairwise kLt/\∀x,x∈out↔x∈l:=by
 let le:NK->NK->Bool:=λa b=>!decide (Ov b<Ov a);V pm:((Eg l).mergeSort le).Perm (Eg l):=List.mergeSort_perm _ _;V pw:((Eg l).mergeSort le).Pairwise λa b=>le a b=aC:=List.pairwise_mergeSort (le:=le) (λa b c h1 h2=>by
   simp only[le,Bool.not_eq_true',decide_eq_false_iff_not]at*;E de.mpr (List.le_trans (de.mp h1) (de.mp h2))) (λa b=>by
   simp only[le,Bool.or_eq_true,Bool.not_eq_true',decide_eq_false_iff_not];J List.le_total (Ov a) (Ov b)with z|z
   ·E .inl (de.mpr z)
   ·E .inr (de.mpr z)) _
 V nd:((Eg l).mergeSort le).Nodup:=pm.nodup_iff.mpr (Ex l);V mem:∀x,x∈(Eg l).mergeSort le↔x∈l:=λx=>by K[pm.mem_iff,R6]
 R⟨_,?_,mem⟩;R(gz.mp (pw.and nd)).imp fun{a b} ⟨ha,hb,h1,h2⟩=>?_;simp only[le,Bool.not_eq_true',decide_eq_false_iff_not]at h1;B z:Ov a<Ov b
 ·E z
 ·E absurd (Ev (h.one.one ((mem a).mp ha) ((mem b).mp hb)) (List.le_antisymm (de.mp h1) (de.mp z))) h2
open Classical in
Мrise(l:А NK):А NK:=if h:∃out:А NK,out.Pairwise kLt/\∀x,x∈out↔x∈l then Classical.choose h else[]
ЛUm{l:А NK}(h:OkK l):(rise l).Pairwise kLt/\∀x,x∈rise l↔x∈l:=by U rise;K[dif_pos (Pg h)];E Classical.choose_spec (Pg h)
ЛE8{l:А NK}(h:OkK l)(hl:l.length<64):Cp [.lst (l.map Zn)]=aA (.ol ((rise l).map Zn)):=(Kr l).trans (Zgd h.one hl (λx=>(Um h).2 x) (Um h).1)
МC4(ts:А T0):А T0:=ts.mergeSort λa b=>!decide (Ww b<Ww a)
ЛJx(ts:А T0):(C4 ts).Perm ts:=List.mergeSort_perm _ _
ЛK5(ts:А T0):(C4 ts).Pairwise λa b=>¬Ww b<Ww a:=by
 V :=List.pairwise_mergeSort (le:=λa b:T0=>!decide (Ww b<Ww a)) (λa b c h1 h2=>by
   simp only[Bool.not_eq_true',decide_eq_false_iff_not]at*;E de.mpr (List.le_trans (de.mp h1) (de.mp h2))) (λa b=>by
   simp only[Bool.or_eq_true,Bool.not_eq_true',decide_eq_false_iff_not];J List.le_total (Ww a) (Ww b)with z|z
   ·E .inl (de.mpr z)
   ·E .inr (de.mpr z)) ts
 E this.imp fun{a b} h=>by L h
аVw:=А (А NK)
аOa(l:А NK):А D:=l.map Zn
МFh(ks:А NK)(pl:Vw)(t:NK)(ys:А NK):А NK×Vw:=match Y8 ks t with
 |some q=>(ks,pl.set q (pl.getD q []++ys))
 |none=>(ks++[t],pl++[ys])
structure Tell(S:NK->В)(R:NK->NK->В)(L:NK->Г)(B:Г)(ks:А NK)(pl:Vw):В where
 nd:ks.Nodup
 len:ks.length=pl.length
 key:∀t,t∈ks↔S t
 has:∀(q:Г) (t:NK) (l:А NK),ks[q]? =aA t->pl[q]? =aA l->(∀k,k∈l↔R t k)/\l.length<=L t
 few:ks.length<=B
ЛTell.imp{S S':NK->В}{R R':NK->NK->В}{L L':NK->Г}{B B':Г}{ks:А NK}{pl:Vw}(h:Tell S R L B ks pl)(e1:∀t,S t↔S' t)(e2:∀t k,R t k↔R' t k)(e3:∀t,L t<=L' t)(hB:B<=B'):Tell S' R' L' B' ks pl:=
 ⟨h.nd,h.len,λt=>(h.key t).trans (e1 t),λq t l h1 h2=>⟨λk=>((h.has q t l h1 h2).1 k).trans (e2 t k),dk (h.has q t l h1 h2).2 (e3 t)⟩,dk h.few hB⟩
ЛTell.add{S:NK->В}{R:NK->NK->В}{L:NK->Г}{B:Г}{ks:А NK}{pl:Vw}(h:Tell S R L B ks pl)(hs:∀t k,R t k->S t)(t:NK)(ys:А NK):Tell (λu=>S u\/u=t) (λu k=>R u k\/(u=t/\k∈ys)) (λu=>L u+if u=t then ys.length else 0) (B+1) (Fh ks pl t ys).1 (Fh ks pl t ys).2:=by
 U Fh;cases e:Y8 ks t with
 |some q=>
  V hq:=Oj e;V hql:q<ks.length:=by J dv q ks.length with z|z;E z;K[dy z]at hq;C hq
  V hqp:q<pl.length:=by K[<-h.len];E hql
  V eg:pl.getD q []=pl[q]:=by K[bn,av hqp];rfl
  V ht:S t:=(h.key t).mp (b5 hq);R⟨h.nd,by K[List.length_set];E h.len,λu=>?_,λi u l h1 h2=>?_,by V :=h.few;T ks.length<=_;W⟩
  ·K[h.key];E⟨.inl,λz=>z.elim id λz=>by K[z];E ht⟩
  ·B hi:i=q
   ·Q hi;V eu:u=t:=by K[hq]at h1;E(cz.inj h1).symm
    K[d5 hqp]at h2;V el:=cz.inj h2;O⟨g1,g2⟩:=h.has i u pl[i] h1 (av hqp);R⟨λk=>?_,?_⟩
    ·K[<-el,bz,eg,g1 k];E⟨λz=>z.elim .inl λz=>.inr ⟨eu,z⟩,λz=>z.elim .inl λz=>.inr z.2⟩
    ·K[<-el,aw,eg,Е eu];W
   ·K[fj (λz=>hi z.symm)]at h2;O⟨g1,g2⟩:=h.has i u l h1 h2;R⟨λk=>?_,by W⟩;K[g1 k];R⟨.inl,λz=>z.elim id λz=>?_⟩;K[z.1]at h1;E absurd ((List.getElem?_inj hql h.nd).mp (hq.trans h1.symm)) λw=>hi w.symm
 |none=>
  V hn:=Ol e;R⟨dq.mpr ⟨h.nd,by simp,λa ha b hb e=>hn (by K[<-ar.mp hb,<-e];E ha)⟩,by simp[h.len],λu=>?_,λi u l h1 h2=>?_,by V :=h.few;simp;W⟩
  ·K[bz,h.key,ar]
  ·J dv i ks.length with z|z
   ·K[dg z]at h1;K[dg (by K[<-h.len];E z)]at h2;O⟨g1,g2⟩:=h.has i u l h1 h2;R⟨λk=>?_,by W⟩;K[g1 k];E⟨.inl,λw=>w.elim id λw=>absurd (by K[<-w.1];E b5 h1) hn⟩
   ·K[gk z]at h1;K[gk (by K[<-h.len];E z),<-h.len]at h2;cases ei:i- ks.length with
    |zero=>K[ei]at h1 h2;C h1;C h2;R⟨λk=>⟨λw=>.inr ⟨rfl,w⟩,λw=>w.elim (λw=>absurd ((h.key t).mpr (hs t k w)) hn) λw=>w.2⟩,by K[Е rfl];W⟩
    |succ j=>K[ei]at h1;C h1
ЛZck(ks:А NK)(pl:Vw)(t:NK)(ys:А NK):Tq ks (pl.map Oa) t (Oa ys)=((Fh ks pl t ys).1,(Fh ks pl t ys).2.map Oa):=by
 U Tq Fh;cases Y8 ks t with
 |some q=>
  dsimp only;K[List.map_set];V :(pl.map Oa).getD q []=Oa (pl.getD q []):=by K[bn,bn,az];cases pl[q]? <;> rfl
  K[this];simp[Oa]
 |none=>simp[Oa]
ЛTell.ok{S:NK->В}{R:NK->NK->В}{L:NK->Г}{B:Г}{ks:А NK}{pl:Vw}(h:Tell S R L B ks pl)(hB:B<=10000)(hL:∀t,L t<=10000)(n:Г)(hn:n<=10000):okX (pl.map Oa) n:=
 Zgk (by K[aq,<-h.len];V :=h.few;W) И λxs hx=>by
  O⟨l,hl,rfl⟩:=ax.mp hx;O⟨q,hq,rfl⟩:=eh hl;V hq2:q<ks.length:=by K[h.len];E hq
  V :=(h.has q ks[q] pl[q] (av hq2) (av hq)).2;V :=hL ks[q];simp[Oa];W
end My
namespace My
open DL PySem TT TX
МFi(t:NK)(fs:А T0):Nat:=(fs.map λx=>if Y5 x=t then x.2.2.length else 0).sum
МtlG(t:NK)(gs:А HP):Nat:=(gs.map λh=>Fi t h.fs).sum
ЛBe(t:NK)(x:T0)(fs:А T0):Fi t (x::fs)=(if Y5 x=t then x.2.2.length else 0)+Fi t fs:=by U Fi;simp
ЛE9(t:NK)(h:HP)(gs:А HP):tlG t (h::gs)=Fi t h.fs+tlG t gs:=by U tlG;simp
аVf(A:Б SV)(ns ms:А NK)(ks:А NK)(pl:Vw)(h x5 x6 x7 x8:Б SV):Yk:=[A,aA (.ol (Oa ns)),aA (.ol (Oa ms)),aA (.oX ks (pl.map Oa)),h,x5,x6,x7,x8]
ЛK6(A h x8:Б SV)(ns ms:А NK):∀(fs:А T0) (S:NK->В) (R:NK->NK->В) (L:NK->Г) (B:Г) (ks:А NK) (pl:Vw) (x5 x6 x7:Б SV),Tell S R L B ks pl->(∀t k,R t k->S t)->B+fs.length<=10000->(∀t,L t+Fi t fs<=10000)->(∀x∈fs,x.2.2.length<=10000)->∃ks' pl' y5 y6 y7,Tell (λt=>S t\/∃x∈fs,t=Y5 x) (λt k=>R t k\/∃x∈fs,t=Y5 x/\k∈x.2.2) (λt=>L t+Fi t fs) (B+fs.length) ks' pl'/\
  Z7 (Wj 3 (Zt (Zd 5) (Zt (Zd 6) (Zt (Zd 7) Wi)))) Gen.U4 (fs.map Wm) (Vf A ns ms ks pl h x5 x6 x7 x8)=aA (.nx (Vf A ns ms ks' pl' h y5 y6 y7 x8))
 | [],S,R,L,B,ks,pl,x5,x6,x7,te,_,_,_,_=>⟨ks,pl,x5,x6,x7,te.imp (λt=>by simp) (λt k=>by simp) (λt=>by simp[Fi]) (ba _),by simp⟩
 |x::fs,S,R,L,B,ks,pl,x5,x6,x7,te,hRS,hz,hL,hx=>by
  K[bf]at hz;V te1:=te.add hRS (Y5 x) x.2.2;O⟨ks',pl',y5,y6,y7,te',ih⟩:=K6 A h x8 ns ms fs _ _ _ (B+1) (Fh ks pl (Y5 x) x.2.2).1 (Fh ks pl (Y5 x) x.2.2).2 (aA (.fz (.str x.1))) (aA (.fz (.str x.2.1))) (aA (.fz (.lst (Oa x.2.2)))) te1 (λt k z=>z.elim (λz=>.inl (hRS t k z)) λz=>.inr z.1) И (λt=>by
   V :=hL t;K[Be]at this;B e:t=Y5 x
   ·K[Е e];K[Е e.symm]at this;W
   ·K[Д e];W) λy hy=>hx y (ao _ hy)
  R⟨ks',pl',y5,y6,y7,te'.imp (λt=>?_) (λt k=>?_) (λt=>?_) (by K[bf];W),?_⟩
  ·simp only[bx,exists_eq_or_imp,or_assoc]
  ·simp only[bx,exists_eq_or_imp,or_assoc]
  ·K[Be];B e:t=Y5 x
   ·K[Е e,Е e.symm];W
   ·K[Д e,Д λz=>e z.symm];W
  ·V a:Gen.U4 (Vf A ns ms ks pl h (aA (.fz (.str x.1))) (aA (.fz (.str x.2.1))) (aA (.fz (.lst (Oa x.2.2)))) x8)=aA (.nx (Vf A ns ms (Fh ks pl (Y5 x) x.2.2).1 (Fh ks pl (Y5 x) x.2.2).2 h (aA (.fz (.str x.1))) (aA (.fz (.str x.2.1))) (aA (.fz (.lst (Oa x.2.2)))) x8)):=by V :=Za0 (δ:=Vf A ns ms ks pl h (aA (.fz (.str x.1))) (aA (.fz (.str x.2.1))) (aA (.fz (.lst (Oa x.2.2)))) x8) (i:=3) (j:=7) (fk:=tupF (Zh (Za 5) (Zh (Za 6) Zs))) (p:=(.tmp (.fz (.tup [.str x.1,.str x.2.1])),Vf A ns ms ks pl h (aA (.fz (.str x.1))) (aA (.fz (.str x.2.1))) (aA (.fz (.lst (Oa x.2.2)))) x8)) (q:=(.tup [.str x.1,.str x.2.1],Vf A ns ms ks pl h (aA (.fz (.str x.1))) (aA (.fz (.str x.2.1))) (aA (.fz (.lst (Oa x.2.2)))) x8)) (d:=.lst (Oa x.2.2)) (ys:=Oa x.2.2) (ext:=aC) (k:=Y5 x) rfl (by simp[jz2]) rfl (Co (Y5 x)) rfl rfl (.inr ⟨rfl,rfl⟩) (te.ok И (λt=>by V :=hL t;W) _ (by simp[Oa];E hx x af));K[Zck]at this;E this
   K[bc];U Z7;K[show(Wj 3 (Zt (Zd 5) (Zt (Zd 6) (Zt (Zd 7) Wi)))).run (Wm x) (Vf A ns ms ks pl h x5 x6 x7 x8)=aA (Vf A ns ms ks pl h (aA (.fz (.str x.1))) (aA (.fz (.str x.2.1))) (aA (.fz (.lst (Oa x.2.2)))) x8)from by simp];dsimp only[c6];K[a];E ih
аSG(gs:А HP)(t:NK):Prop:=∃h∈gs,∃x∈h.fs,t=Y5 x
аRG(gs:А HP)(t k:NK):Prop:=∃h∈gs,∃x∈h.fs,t=Y5 x/\k∈x.2.2
МTr(gs:А HP):Nat:=(gs.map λh=>h.fs.length).sum
ЛK7(h:HP)(gs:А HP):Tr (h::gs)=h.fs.length+Tr gs:=by U Tr;simp
structure Few(h:HP):В where
 ns:h.ns.length<=1000
 ms:h.ms.length<=1000
 tl:∀x∈h.fs,x.2.2.length<=10000
ЛZcl(A x8:Б SV)(hp:HP)(fw:Few hp)(ns ms:А NK)(hz:ns.length+1000<=100000)(hz2:ms.length+1000<=100000)(S:NK->В)(R:NK->NK->В)(L:NK->Г)(B:Г)(ks:А NK)(pl:Vw)(te:Tell S R L B ks pl)(hRS:∀t k,R t k->S t)(hB:B+hp.fs.length<=10000)(hL:∀t,L t+Fi t hp.fs<=10000)(x5 x6 x7:Б SV):∃ks' pl' y5 y6 y7,Tell (λt=>S t\/∃x∈hp.fs,t=Y5 x) (λt k=>R t k\/∃x∈hp.fs,t=Y5 x/\k∈x.2.2) (λt=>L t+Fi t hp.fs) (B+hp.fs.length) ks' pl'/\
  Gen.Wz (Vf A ns ms ks pl (aA (.fz (Z0 hp))) x5 x6 x7 x8)=aA (.nx (Vf A (ns++hp.ns) (ms++hp.ms) ks' pl' (aA (.fz (Z0 hp))) y5 y6 y7 x8)):=by
 O⟨ks',pl',y5,y6,y7,te',l⟩:=K6 A (aA (.fz (Z0 hp))) x8 (ns++hp.ns) (ms++hp.ms) hp.fs S R L B ks pl x5 x6 x7 te hRS hB hL fw.tl;R⟨ks',pl',y5,y6,y7,te',?_⟩;V z1:(Oa ns).length+(hp.ns.map Zn).length<=PySem.sizeLine:=Qw (by V :=fw.ns;simp[Oa];W);V z2:(Oa ms).length+(hp.ms.map Zn).length<=PySem.sizeLine:=Qw (by V :=fw.ms;simp[Oa];W);V at2:∀a b c:D,L2.atI [a,b,c] 2=aA c:=λ_ _ _=>rfl;V at1:∀a b c:D,L2.atI [a,b,c] 1=aA b:=λ_ _ _=>rfl;V at0:∀a b c:D,L2.atI [a,b,c] 0=aA a:=λ_ _ _=>rfl;V e1:Oa (ns++hp.ns)=Oa ns++hp.ns.map Zn:=b9;V e2:Oa (ms++hp.ms)=Oa ms++hp.ms.map Zn:=b9;U Gen.Wz;U Vf at l⊢;K[e1,e2]at l⊢;clear e1 e2;K[show Z0 hp= .tup [.lst (hp.ns.map Zn),.lst (hp.ms.map Zn),.lst (hp.fs.map Wm)]from rfl]at l⊢;G pl.map Oa=P1;G pl'.map Oa=P2;G Oa ns=N1;G Oa ms=N2;G hp.ns.map Zn=NS;G hp.ms.map Zn=MS;G hp.fs.map Wm=TS;simp[at0,at1,at2,z1,z2,l,-Z7]
ЛK8(A x8:Б SV):∀(gs:А HP) (ns ms:А NK) (S:NK->В) (R:NK->NK->В) (L:NK->Г) (B:Г) (ks:А NK) (pl:Vw) (x4 x5 x6 x7:Б SV),Tell S R L B ks pl->(∀t k,R t k->S t)->(∀h∈gs,Few h)->ns.length+1000*gs.length<=90000->ms.length+1000*gs.length<=90000->B+Tr gs<=10000->(∀t,L t+tlG t gs<=10000)->∃ks' pl' y4 y5 y6 y7,Tell (λt=>S t\/SG gs t) (λt k=>R t k\/RG gs t k) (λt=>L t+tlG t gs) (B+Tr gs) ks' pl'/\
  Z7 (Zd 4) Gen.Wz (gs.map Z0) (Vf A ns ms ks pl x4 x5 x6 x7 x8)=aA (.nx (Vf A (ns++gs.flatMap HP.ns) (ms++gs.flatMap HP.ms) ks' pl' y4 y5 y6 y7 x8))
 | [],ns,ms,S,R,L,B,ks,pl,x4,x5,x6,x7,te,_,_,_,_,_,_=>⟨ks,pl,x4,x5,x6,x7,te.imp (λt=>by simp) (λt k=>by simp) (λt=>by simp[tlG]) (by simp[Tr]),by simp⟩
 |h::gs,ns,ms,S,R,L,B,ks,pl,x4,x5,x6,x7,te,hRS,fw,hz,hz2,hB,hL=>by
  K[bf]at hz hz2;K[K7]at hB;V fh:=fw h af;O⟨ks1,pl1,z5,z6,z7,te1,t1⟩:=Zcl A x8 h fh ns ms И И S R L B ks pl te hRS И (λt=>by V :=hL t;K[E9]at this;W) x5 x6 x7;O⟨ks',pl',y4,y5,y6,y7,te',ih⟩:=K8 A x8 gs (ns++h.ns) (ms++h.ms) _ _ _ _ ks1 pl1 (aA (.fz (Z0 h))) z5 z6 z7 te1 (λt k z=>z.elim (λz=>.inl (hRS t k z)) λ⟨x,hx,e,_⟩=>.inr ⟨x,hx,e⟩) (λg hg=>fw g (ao _ hg)) (by V :=fh.ns;K[aw];W) (by V :=fh.ms;K[aw];W) И (λt=>by V :=hL t;K[E9]at this;W);R⟨ks',pl',y4,y5,y6,y7,te'.imp (λt=>?_) (λt k=>?_) (λt=>by K[E9];W) (by K[K7];W),?_⟩
  ·simp only[SG,bx,exists_eq_or_imp,or_assoc]
  ·simp only[RG,bx,exists_eq_or_imp,or_assoc]
  ·K[bc,List.flatMap_cons,List.flatMap_cons,<-gp,<-gp];U Z7;K[show(Zd 4).run (Z0 h) (Vf A ns ms ks pl x4 x5 x6 x7 x8)=aA (Vf A ns ms ks pl (aA (.fz (Z0 h))) x5 x6 x7 x8)from by simp];dsimp only[c6];K[t1];E ih
end My
namespace My
open DL PySem TT TX
МQc(ks:А NK)(pl:Vw)(k:NK):А NK:=match Y8 ks k with
 |some q=>pl.getD q []
 |none=>[]
ЛZcm{ks:А NK}{k:NK}(h:k∈ks):∃q,Y8 ks k=aA q:=by
 cases e:Y8 ks k with
 |some q=>E⟨q,rfl⟩
 |none=>E absurd h (Ol e)
ЛT6{S:NK->В}{R:NK->NK->В}{L:NK->Г}{B:Г}{ks:А NK}{pl:Vw}(te:Tell S R L B ks pl){k:NK}(hk:k∈ks):(∀x,x∈Qc ks pl k↔R k x)/\(Qc ks pl k).length<=L k/\look ks ((pl.map Oa).map D.lst) k=aA (.lst (Oa (Qc ks pl k))):=by
 O⟨q,e⟩:=Zcm hk;V hq:=Oj e;V hql:q<ks.length:=by J dv q ks.length with z|z;E z;K[dy z]at hq;C hq
 V hqp:q<pl.length:=by K[<-te.len];E hql
 V et:Qc ks pl k=pl[q]:=by U Qc;K[e];T pl.getD q []=_;K[bn,av hqp];rfl
 V hp:=av hqp;O⟨g1,g2⟩:=te.has q k pl[q] hq hp;K[et];E⟨g1,g2,Pe te.nd hq (by K[az,az,hp];rfl)⟩
МC5(ks:А NK)(pl:Vw):NK->T0
 | .inl [a,b]=>(a,b,rise (Qc ks pl (.inl [a,b])))
 |_=>("","",[])
МK9(ks:А NK)(pl:Vw)(d:D):D:=match nk? d with
 |some k=>Wm (C5 ks pl k)
 |none=>.non
ЛZcn{S:NK->В}{R:NK->NK->В}{L:NK->Г}{B:Г}{ks:А NK}{pl:Vw}(te:Tell S R L B ks pl)(hB:B<=10000)(hp:∀t,S t->∃a b,t= .inl [a,b])(hL:∀t,L t<64)(hR:∀t k,R t k->Rb k):
  Yb [.own,.cap 3,.acc] 2 (Zd 0) Q7 Gen.Qy (ks.map Zn) [aB,aA (.fz (.dX ks ((pl.map Oa).map D.lst))),aA (.ol [])]=
  aA [aB,aA (.fz (.dX ks ((pl.map Oa).map D.lst))),aA (.ol ((ks.map (C5 ks pl)).map Wm))]:=by
 V c:=Cq (te:=Gen.Qy) (f:=K9 ks pl) (c:=aA (.fz (.dX ks ((pl.map Oa).map D.lst)))) (j:=3) (ks.map Zn) [] (λx hx zs=>by
  O⟨k,hk,rfl⟩:=ax.mp hx;O⟨a,b,rfl⟩:=hp k ((te.key k).mp hk);O⟨g1,g2,lk⟩:=T6 te hk;V ok:OkK (Qc ks pl (.inl [a,b])):=.inl λx hx=>hR _ _ ((g1 x).mp hx);V sd:Cp [.lst ((Qc ks pl (.inl [a,b])).map Zn)]=aA (.ol (Oa (rise (Qc ks pl (.inl [a,b]))))):=E8 ok (ib g2 (hL _));V at1:∀a b:D,L2.atI [a,b] 1=aA b:=λ_ _=>rfl;V at0:∀a b:D,L2.atI [a,b] 0=aA a:=λ_ _=>rfl;V ek:Zn (.inl [a,b])= .tup [.str a,.str b]:=rfl;V nk:=Co (.inl [a,b]);V ef:K9 ks pl (Zn (.inl [a,b]))= .tup [.str a,.str b,.lst (Oa (rise (Qc ks pl (.inl [a,b]))))]:=by U K9;K[nk];rfl
  K[ef];K[ek]at nk⊢;U Gen.Qy;G (pl.map Oa).map D.lst=XS;G Oa (rise (Qc ks pl (.inl [a,b])))=RS;V lk2:look ks XS (Sum.inl [a,b])=aA (.lst ((Qc ks pl (.inl [a,b])).map Zn)):=lk;G (Qc ks pl (.inl [a,b])).map Zn=TD;generalize (Sum.inl [a,b]:NK)=P at*;simp[at0,at1,nk,lk2,sd,jz3,-look]) (by V :=te.few;simp;W)
 V e:(ks.map Zn).map (K9 ks pl)=(ks.map (C5 ks pl)).map Wm:=by K[cg,cg];R List.map_congr_left λk _=>?_;T K9 ks pl (Zn k)=Wm (C5 ks pl k);U K9;K[Co]
 K[c,d7,e]
structure Grp(gs:А HP):В where
 few:∀h∈gs,Few h
 nn:∀h∈gs,∀k∈h.ns,Rb k
 mm:∀h∈gs,∀k∈h.ms,isM k
 tt:∀h∈gs,∀x∈h.fs,∀k∈x.2.2,Rb k
 n64:(gs.flatMap HP.ns).length<64
 m64:(gs.flatMap HP.ms).length<64
 t64:∀t,tlG t gs<64
 len:gs.length<64
 cnt:Tr gs<=10000
 p64:∃ps:А NK,ps.length<64/\∀t,SG gs t->t∈ps
Лjoin_heaps(gs:А HP)(g:Grp gs):∃h,IsMerge (· ∈gs) h/\Gen.Qz [.lst (gs.map Z0)]=aA (.fz (Z0 h)):=by
 V te0:Tell (λ_=>False) (λ_ _=>False) (λ_=>0) 0 [] []:=⟨df,rfl,λt=>by simp,λq t l h _=>by simp at h,ba _⟩
 O⟨ks,pl,y4,y5,y6,y7,te1,l⟩:=K8 (aA (.fz (.lst (gs.map Z0)))) aB gs [] [] _ _ _ 0 [] [] aB aB aB aB te0 (λ_ _ z=>z) g.few (by V :=g.len;simp;W) (by V :=g.len;simp;W) (by V :=g.cnt;W) (λt=>by V :=g.t64 t;W);V te:Tell (SG gs) (RG gs) (λt=>tlG t gs) (Tr gs) ks pl:=te1.imp (λt=>by simp) (λt k=>by simp) (λt=>by simp) И;V hpair:∀t,SG gs t->∃a b,t= .inl [a,b]:=λt ⟨h,_,x,_,e⟩=>⟨x.1,x.2.1,e⟩
 V hRN:∀t k,RG gs t k->Rb k:=λt k ⟨h,hh,x,hx,_,hk⟩=>g.tt h hh x hx k hk;V c:=Zcn te g.cnt hpair g.t64 hRN;V okN:OkK (gs.flatMap HP.ns):=.inl λk hk=>by O⟨h,hh,hk⟩:=gh.mp hk;E g.nn h hh k hk
 V okM:OkK (gs.flatMap HP.ms):=.inr λk hk=>by O⟨h,hh,hk⟩:=gh.mp hk;E g.mm h hh k hk
 V r1:=E8 okN g.n64;V r2:=E8 okM g.m64;V k64:ks.length<64:=by O⟨ps,h1,h2⟩:=g.p64;E ib (da te.nd λt ht=>h2 t ((te.key t).mp ht)) h1
 V tri:∀k∈ks,∃a b,k= .inl [a,b]/\C5 ks pl k=(a,b,rise (Qc ks pl k)):=λk hk=>by O⟨a,b,rfl⟩:=hpair k ((te.key k).mp hk);E⟨a,b,rfl,rfl⟩
 V okT:∀k∈ks,OkK (Qc ks pl k):=λk hk=>.inl λx hx=>hRN k x (((T6 te hk).1 x).mp hx);V nde:((ks.map (C5 ks pl)).map Ww).Nodup:=by K[cg];R List.pairwise_map.mpr ((gz.mp te.nd).imp fun{x y} ⟨hx,hy,h⟩ e=>h ?_);O⟨a,b,e1,e2⟩:=tri x hx;O⟨a',b',e1',e2'⟩:=tri y hy;V e:Ww (C5 ks pl x)=Ww (C5 ks pl y):=e;K[e2,e2']at e;O⟨z1,z2⟩:=Zge e;V z1:a=a':=z1;V z2:b=b':=z2;K[e1,e1',z1,z2]
 V r3:Cm [.lst ((ks.map (C5 ks pl)).map Wm)]=aA (.ol ((C4 (ks.map (C5 ks pl))).map Wm)):=Zjq (λt ht k hk=>by
   O⟨x,hx,rfl⟩:=ax.mp ht;O⟨a,b,e1,e2⟩:=tri x hx;K[e2]at hk;E hRN x k (((T6 te hx).1 k).mp (((Um (okT x hx)).2 k).mp hk))) nde (by K[aq];E k64) (Jx _) (K5 _)
 R⟨⟨rise (gs.flatMap HP.ns),rise (gs.flatMap HP.ms),C4 (ks.map (C5 ks pl))⟩,⟨(Um okN).1,λk=>?_,(Um okM).1,λk=>?_,?_,λf v=>?_,λt ht=>?_⟩,?_⟩
 ·K[(Um okN).2,gh]
 ·K[(Um okM).2,gh]
 ·V nd2:((C4 (ks.map (C5 ks pl))).map Ww).Nodup:=(((Jx _).map Ww).nodup_iff).mpr nde;R((K5 _).and (List.pairwise_map.mp nd2)).imp fun{a b} ⟨h1,h2⟩=>?_;B z:Ww a<Ww b
  ·E z
  ·E absurd (List.le_antisymm (de.mp h1) (de.mp z)) h2
 ·constructor
  ·rintro⟨l,hl⟩;O⟨k,hk,e⟩:=ax.mp ((Jx _).mem_iff.mp hl);O⟨a,b,e1,e2⟩:=tri k hk;K[e2]at e;O⟨h,hh,x,hx,ex⟩:=(te.key k).mp hk;K[e1]at ex;V ex:=List.cons.inj (Sum.inl.inj ex);V ex2:=(List.cons.inj ex.2).1;V ea:=(Prod.mk.inj e).1;V eb:=(Prod.mk.inj (Prod.mk.inj e).2).1;R⟨h,hh,x.2.2,?_⟩;K[<-ea,<-eb,ex.1,ex2];E hx
  ·rintro⟨h,hh,l,hl⟩;V hk:Y5 (f,v,l)∈ks:=(te.key _).mpr ⟨h,hh,_,hl,rfl⟩;E⟨_,(Jx _).mem_iff.mpr (List.mem_map_of_mem (f:=C5 ks pl) hk)⟩
 ·O⟨k,hk,rfl⟩:=ax.mp ((Jx _).mem_iff.mp ht);O⟨a,b,e1,e2⟩:=tri k hk;K[e2];R⟨(Um (okT k hk)).1,λx=>?_⟩;T x∈rise (Qc ks pl k)↔_;K[(Um (okT k hk)).2,(T6 te hk).1 x,e1];constructor
  ·rintro⟨h,hh,y,hy,ey,hx⟩;V ey:=List.cons.inj (Sum.inl.inj ey);V ey2:=(List.cons.inj ey.2).1;E⟨h,hh,y.2.2,by show(a,b,y.2.2)∈h.fs;K[ey.1,ey2];E hy,hx⟩
  ·rintro⟨h,hh,l,hl,hx⟩;E⟨h,hh,_,hl,rfl,hx⟩
 ·K[d7,d7]at l;V l:Z7 (Zd 4) Gen.Wz (gs.map Z0) [aA (.fz (.lst (gs.map Z0))),aA (.ol []),aA (.ol []),aA (.oX [] []),aB,aB,aB,aB,aB]=_:=l;U Gen.Qz Gen.B5;U Vf at l;U Oa at l;U Oa at c;K[show Z0 ⟨rise (gs.flatMap HP.ns),rise (gs.flatMap HP.ms),C4 (ks.map (C5 ks pl))⟩=D.tup [.lst ((rise (gs.flatMap HP.ns)).map Zn),.lst ((rise (gs.flatMap HP.ms)).map Zn),.lst ((C4 (ks.map (C5 ks pl))).map Wm)]from rfl];G (C4 (ks.map (C5 ks pl))).map Wm=O3;G (ks.map (C5 ks pl)).map Wm=O4;G (rise (gs.flatMap HP.ns)).map Zn=O1;G (rise (gs.flatMap HP.ms)).map Zn=O2;G (gs.flatMap HP.ns).map Zn=I1;G (gs.flatMap HP.ms).map Zn=I2;G gs.map Z0=GS;G (pl.map λl=>l.map Zn)=PL;simp[l,c,r1,r2,r3,jz3,Ku,-Z7,-Yb]
end My
namespace My
open DL PySem TT TX
ЛIsMerge.congr{G G':HP->В}{h:HP}(m:IsMerge G h)(e:∀a,G a↔G' a):IsMerge G' h:=by V :G=G':=funext λa=>propext (e a);K[<-this];E m
аPi(hs:А HP)(b:Г):HP:=(hs[b]?).getD ⟨[],[],[]⟩
ЛRh{hs:А HP}{b:Г}(hb:b<hs.length):hs[b]? =aA (Pi hs b):=by U Pi;K[av hb];rfl
аIa(hs:А HP)(p:Г)(g:HP):Prop:=∃b,RI hs p b/\hs[b]? =aA g
ЛZgm{hs:А HP}{a b:Г}(h:shI hs a b):shI hs b a:=let⟨t,h1,h2⟩:=h;⟨t,h2,h1⟩
ЛRI.trans{hs:А HP}{a b c:Г}(h:RI hs a b)(k:RI hs b c):RI hs a c:=by
 induction k with
 |here=>E h
 |step _ s ih=>E .step ih s
ЛRI.symm{hs:А HP}{a b:Г}(h:RI hs a b):RI hs b a:=by
 induction h with
 |here=>E .here
 |step _ s ih=>E(RI.step .here (Zgm s)).trans ih
ЛVg{hs:А HP}{p:Г}{a:HP}(hp:hs[p]? =aA a)(g:HP):Ia hs p g↔Conn (· ∈hs) a g:=by
 constructor
 ·rintro⟨b,r,e⟩;V :∀{x y},RI hs x y->x=p->∀g,hs[y]? =aA g->Conn (· ∈hs) a g:=fun{x y} r=>by
   induction r with
   |here=>intro hx g e;K[hx,hp]at e;C e;E .here (b5 hp)
   |step r s ih=>intro hx g e;O⟨t,⟨u,eu,tu⟩,⟨v,ev,tv⟩⟩:=s;K[e]at ev;C ev;E .step (ih hx u eu) (b5 e) ⟨t,tu,tv⟩
  E this r rfl g e
 ·I c;V :∀{x y},Conn (· ∈hs) x y->hs[p]? =aA x->Ia hs p y:=fun{x y} c=>by
   induction c with
   |here _=>E λz=>⟨p,.here,z⟩
   |step c' hc sh ih=>intro z;O⟨b,r,e⟩:=ih z;O⟨q,hq⟩:=List.getElem?_of_mem hc;O⟨t,t1,t2⟩:=sh;E⟨q,.step r ⟨t,⟨_,e,t1⟩,⟨_,hq,t2⟩⟩,hq⟩
  E this c hp
ЛHl(w:Г->Г):∀(n:Г) (f:А Г),f.Nodup->(∀x∈f,x<n)->(f.map w).sum<=((cq n).map w).sum
 |0,f,_,h=>by
  cases f with
  |nil=>simp
  |cons x f=>E absurd (h x af) (dz _)
 |n+1,f,nd,h=>by
  K[List.range_succ,b9,List.sum_append];B hn:n∈f
  ·V pm:=List.perm_cons_erase hn;V nd2:=pm.nodup_iff.mp nd;O⟨n1,n2⟩:=dm.mp nd2;V ih:=Hl w n (f.erase n) n2 λx hx=>by V h1:=h x (List.mem_of_mem_erase hx);V h2:x≠n:=λz=>n1 (z▸hx);W
   K[(pm.map w).sum_nat,bc,List.sum_cons];simp only[bc,List.map_nil,List.sum_cons,List.sum_nil];W
  ·V ih:=Hl w n f nd λx hx=>by V h1:=h x hx;V h2:x≠n:=λz=>hn (by K[<-z];E hx);W
   W
ЛZgn(w:HP->Г)(hs:А HP):(cq hs.length).map (λb=>w (Pi hs b))=hs.map w:=by R List.ext_getElem К λi h1 h2=>?_;simp at h1;V :=Rh h1;K[av h1]at this;K[List.getElem_map,List.getElem_map,List.getElem_range,<-cz.inj this]
structure Tot(hs:А HP):В where
 all:Grp hs
 ne:∀h∈hs,h.ns≠[]
ЛTot.grp{hs:А HP}(T:Tot hs){f:А Г}(nd:f.Nodup)(lt:∀x∈f,x<hs.length):Grp (f.map (Pi hs)):=by
 V mem:∀h∈f.map (Pi hs),h∈hs:=λh hh=>by O⟨b,hb,rfl⟩:=ax.mp hh;E b5 (Rh (lt b hb))
 V le:∀w:HP->Г,((f.map (Pi hs)).map w).sum<=(hs.map w).sum:=λw=>by K[cg,<-Zgn w hs];E Hl (w∘Pi hs) hs.length f nd lt
 V A:=T.all;R⟨λh hh=>A.few h (mem h hh),λh hh=>A.nn h (mem h hh),λh hh=>A.mm h (mem h hh),λh hh=>A.tt h (mem h hh),?_,?_,λt=>ib (le _) (A.t64 t),?_,dk (le _) A.cnt,?_⟩
 ·V :=A.n64;K[List.length_flatMap]at this⊢;E ib (le _) this
 ·V :=A.m64;K[List.length_flatMap]at this⊢;E ib (le _) this
 ·K[aq];V :=Pf nd lt;V :=A.len;W
 ·O⟨ps,h1,h2⟩:=A.p64;E⟨ps,h1,λt ⟨h,hh,z⟩=>h2 t ⟨h,mem h hh,z⟩⟩
end My
namespace My
open DL PySem TT TX
аHm(HS:А D)(HD:D)(P:А D)(sk:А Г)(x4 x5 x6:Б SV):Yk:=[aA (.fz (.lst HS)),aA (.fz HD),aA (.ol P),aA (.oK (Q5 sk) (Q6 sk)),x4,x5,x6]
ЛLa(HS:А D)(HD:D)(P:А D)(x4 x5:Б SV):∀(f sk:А Г) (x6:Б SV),(sk++f).Nodup->sk.length+f.length<=10000->∃y6,
  Z7 (Zd 6) Gen.U5 (W4 f) (Hm HS HD P sk x4 x5 x6)=aA (.nx (Hm HS HD P (sk++f) x4 x5 y6))
 | [],sk,x6,_,_=>⟨x6,by simp[W4]⟩
 |o::f,sk,x6,nd,hz=>by
  K[bf]at hz;V e0:(sk++[o])++f=sk++o::f:=by simp
  O⟨y6,ih⟩:=La HS HD P x4 x5 f (sk++[o]) (aA (.fz (.int (o:Int)))) (by K[e0];E nd) (by K[aw];simp;W);R⟨y6,?_⟩;V ho:o∉sk:=λz=>(dq.mp nd).2.2 o z o af rfl;V p:Wv (Q5 sk) (Q6 sk) (Sum.inl (o:Int)) (.bl aC)=(Q5 (sk++[o]),Q6 (sk++[o])):=by U Wv;K[Д λz=>ho (Bd.mp z)];simp[Q5,Q6]
  V z1:(Q6 sk).length<PySem.sizeLine:=Yd (by simp;W);V t:Gen.U5 (Hm HS HD P sk x4 x5 (aA (.fz (.int (o:Int)))))=aA (.nx (Hm HS HD P (sk++[o]) x4 x5 (aA (.fz (.int (o:Int)))))):=by U Gen.U5 Hm;G Q5 (sk++[o])=K1;G Q6 (sk++[o])=K2;G Q5 sk=K3;G Q6 sk=K4;simp[p,z1,-Wv]
  T Z7 (Zd 6) Gen.U5 (.int (o:Int)::W4 f) _=_;U Z7;K[show(Zd 6).run (.int (o:Int)) (Hm HS HD P sk x4 x5 x6)=aA (Hm HS HD P sk x4 x5 (aA (.fz (.int (o:Int)))))from by simp];dsimp only[c6];K[t];dsimp only[c6];K[ih,e0]
ЛZgo(hs:А HP)(f:А Г)(lt:∀x∈f,x<hs.length)(hf:f.length<=10000):
  Yb [.own,.cap 0,.acc] 2 (Zd 0) Q7 Gen.B6 (W4 f) [aB,aA (.fz (.lst (hs.map Z0))),aA (.ol [])]=aA [aB,aA (.fz (.lst (hs.map Z0))),aA (.ol ((f.map (Pi hs)).map Z0))]:=by
 let F:D->D:=λd=>match d with| .int i=>Z0 (Pi hs i.toNat)|_=>.non
 V c:=Cq (te:=Gen.B6) (f:=F) (c:=aA (.fz (.lst (hs.map Z0)))) (j:=0) (W4 f) [] (λx hx zs=>by
  O⟨b,hb,rfl⟩:=ax.mp hx;V ai:=Zll (Rh (lt b hb));V ef:F (.int (b:Int))=Z0 (Pi hs b):=by T Z0 (Pi hs ((b:Int)).toNat)=_;K[g8]
  K[ef];U Gen.B6;G Z0 (Pi hs b)=Q;G hs.map Z0=HS;simp[ai]) (by simp[W4];W)
 V e:(W4 f).map F=(f.map (Pi hs)).map Z0:=by K[cg,cg];R List.map_congr_left λb _=>?_;T Z0 (Pi hs ((b:Int)).toNat)=Z0 (Pi hs b);K[g8]
 K[c,d7,e]
structure JI(hs:А HP)(i:Г)(sk:А Г)(ps:А HP):В where
 nd:sk.Nodup
 lt:∀x∈sk,x<hs.length
 cl:∀a∈sk,∀b,shI hs a b->b∈sk
 upto:∀p,p<i->p∈sk
 each:∀h∈ps,∃a∈sk,IsMerge (Ia hs a) h
 all:∀a∈sk,∃h∈ps,IsMerge (Ia hs a) h
 apart:ps.Pairwise λh h'=>∀k,k∈h.ns->k∉h'.ns
 len:ps.length<=i
ЛJI.ri{hs:А HP}{i:Г}{sk:А Г}{ps:А HP}(j:JI hs i sk ps){a b:Г}(ha:a∈sk)(r:RI hs a b):b∈sk:=by
 induction r with
 |here=>E ha
 |step _ s ih=>E j.cl _ ih _ s
ЛVh(hs:А HP)(T:Tot hs)(ks:А NK)(pl:Vv)(B:Г)(ho:Hold (Rg hs) B ks pl)(i:Г)(hi:i<hs.length)(sk:А Г)(ps:А HP)(j:JI hs i sk ps)(x5 x6:Б SV):∃sk' ps' y5 y6,JI hs (i+1) sk' ps'/\
  Gen.Jb (Hm (hs.map Z0) (Y4 ks pl) (ps.map Z0) sk (aA (.fz (.int (i:Int)))) x5 x6)=aA (.nx (Hm (hs.map Z0) (Y4 ks pl) (ps'.map Z0) sk' (aA (.fz (.int (i:Int)))) y5 y6)):=by
 V h64:=T.all.len;V hB:∀h∈hs,(Ui h).length<=10000:=λh hh=>by V f:=T.all.few h hh;V :=f.ns;V :=f.ms;K[aw];W
 B hs0:i∈sk
 ·R⟨sk,ps,x5,x6,⟨j.nd,j.lt,j.cl,λp hp=>?_,j.each,j.all,j.apart,by V :=j.len;W⟩,?_⟩
  ·B e:p=i
   ·K[e];E hs0
   ·E j.upto p И
  ·O⟨v,lk⟩:=M5 (ks:=Q5 sk) (vs:=Q6 sk) (k:=.inl (i:Int)) К (Bd.mpr hs0);U Gen.Jb Hm;G Q5 sk=K1;G Q6 sk=K2;simp[lk,-look]
 ·O⟨f,ti,fi,fr,fc,tg⟩:=tied hs ks pl B ho i hs.length И rfl hB hi И;V out:∀x∈f,x∉sk:=λx hx z=>hs0 (j.ri z (fr x hx).symm);V nd2:(sk++f).Nodup:=dq.mpr ⟨j.nd,ti.nd,λa ha b hb e=>out b hb (by K[<-e];E ha)⟩;V fl:=ti.len.1;V skl:=Pf j.nd j.lt;O⟨h,m,jh⟩:=join_heaps (f.map (Pi hs)) (T.grp ti.nd ti.lt);V mem:∀g,g∈f.map (Pi hs)↔Ia hs i g:=λg=>by
   constructor
   ·I z;O⟨b,hb,rfl⟩:=ax.mp z;E⟨b,fr b hb,Rh (ti.lt b hb)⟩
   ·rintro⟨b,r,e⟩;V hb:b∈f:=by
     V :∀{x y},RI hs x y->x∈f->y∈f:=fun{x y} r=>by
      induction r with
      |here=>E id
      |step _ s ih=>E λz=>fc _ (ih z) _ s
     E this r fi
    V :=Rh (ti.lt b hb);K[e]at this;K[cz.inj this];E List.mem_map_of_mem hb
  V m:IsMerge (Ia hs i) h:=m.congr mem;O⟨y6,sl⟩:=La (hs.map Z0) (Y4 ks pl) (ps.map Z0) (aA (.fz (.int (i:Int)))) (aA (.fz (.lst (W4 f)))) f sk x6 nd2 И;R⟨sk++f,ps++[h],aA (.fz (.lst (W4 f))),y6,⟨nd2,λx hx=>?_,λa ha b hab=>?_,λp hp=>?_,λh' hh=>?_,λa ha=>?_,?_,by V :=j.len;simp;W⟩,?_⟩
  ·J bz.mp hx with z|z
   ·E j.lt x z
   ·E ti.lt x z
  ·J bz.mp ha with z|z
   ·E bj _ (j.cl a z b hab)
   ·E bh _ (fc a z b hab)
  ·B e:p=i
   ·K[e];E bh _ fi
   ·E bj _ (j.upto p И)
  ·J bz.mp hh with z|z
   ·O⟨a,ha,m'⟩:=j.each h' z;E⟨a,bj _ ha,m'⟩
   ·K[ar.mp z];E⟨i,bh _ fi,m⟩
  ·J bz.mp ha with z|z
   ·O⟨h',hh,m'⟩:=j.all a z;E⟨h',bj _ hh,m'⟩
   ·R⟨h,by simp,m.congr λg=>?_⟩;constructor
    ·rintro⟨b,r,e⟩;E⟨b,(fr a z).symm.trans r,e⟩
    ·rintro⟨b,r,e⟩;E⟨b,(fr a z).trans r,e⟩
  ·R List.pairwise_append.mpr ⟨j.apart,by simp,λh1 hh1 h2 hh2 k k1 k2=>?_⟩;K[ar.mp hh2]at k2;O⟨a,ha,m1⟩:=j.each h1 hh1;O⟨u,⟨c,rc,ec⟩,kc⟩:=(m1.ns_m k).mp k1;O⟨v,⟨d,rd,ed⟩,kd⟩:=(m.ns_m k).mp k2;V cs:=j.ri ha rc;V ds:=j.cl c cs d ⟨k,⟨u,ec,bj _ kc⟩,⟨v,ed,bj _ kd⟩⟩;E hs0 (j.ri ds rd.symm)
  ·V lk:look (Q5 sk) (Q6 sk) (.inl (i:Int))=aB:=E6 λz=>hs0 (Bd.mp z);V c:=Zgo hs f ti.lt И;V zp:(ps.map Z0).length<PySem.sizeLine:=Yd (by V :=j.len;K[aq];W);V ep:(ps++[h]).map Z0=ps.map Z0++[Z0 h]:=by simp
   K[ep];K[show Z0 h= .tup [.lst (h.ns.map Zn),.lst (h.ms.map Zn),.lst (h.fs.map Wm)]from rfl]at jh⊢;U Gen.Jb;U Hm at sl⊢;G [D.lst (h.ns.map Zn),.lst (h.ms.map Zn),.lst (h.fs.map Wm)]=HH;G (f.map (Pi hs)).map Z0=GS;G hs.map Z0=HS;G Y4 ks pl=HD;G ps.map Z0=PP;G Q5 (sk++f)=K1;G Q6 (sk++f)=K2;G Q5 sk=K3;G Q6 sk=K4;G W4 f=PF;simp[lk,tg,sl,c,jh,zp,-look,-Z7,-Yb]
end My
namespace My
open DL PySem TT TX
ЛZgp{hs:А HP}(T:Tot hs){a:Г}(ha:a<hs.length){h:HP}(m:IsMerge (Ia hs a) h):HPok h:=by
 V A:=T.all;R⟨λz=>?_,λk hk=>?_,λk hk=>?_,λt ht k hk=>?_⟩
 ·V e:=Rh ha;V hm:=b5 e;O⟨k,l,ek⟩:=ic (T.ne _ hm);V :=(m.ns_m k).mpr ⟨_,⟨a,.here,e⟩,by K[ek];E af⟩;K[z]at this;C this
 ·O⟨g,⟨b,_,e⟩,hk⟩:=(m.ns_m k).mp hk;E A.nn g (b5 e) k hk
 ·O⟨g,⟨b,_,e⟩,hk⟩:=(m.ms_m k).mp hk;E A.mm g (b5 e) k hk
 ·O⟨g,⟨b,_,e⟩,l,hl,hk⟩:=((m.fs_l t ht).2 k).mp hk;E A.tt g (b5 e) _ hl k hk
ЛHn{h h':HP}(o:HPok h)(o':HPok h')(ap:∀k,k∈h.ns->k∉h'.ns):Qs h≠Qs h':=λe=>by
 O⟨x,l,ex⟩:=ic o.ne;O⟨y,l',ey⟩:=ic o'.ne;U Qs at e;K[ex,ey]at e;V e:Ov x=Ov y:=e;V hx:x∈h.ns:=by K[ex];E af
 V hy:y∈h'.ns:=by K[ey];E af
 O⟨u,v,e1⟩:=o.nm x hx;O⟨u',v',e2⟩:=o'.nm y hy;V one:OneK x y:=by K[e1,e2];E .nm _ _
 V :=Ev one e;K[<-this]at hy;E ap x hx hy
МLb(ts:А HP):А HP:=ts.mergeSort λa b=>!decide (Qs b<Qs a)
ЛJe(ts:А HP):(Lb ts).Perm ts:=List.mergeSort_perm _ _
ЛVi(ts:А HP):(Lb ts).Pairwise λa b=>¬Qs b<Qs a:=by
 V :=List.pairwise_mergeSort (le:=λa b:HP=>!decide (Qs b<Qs a)) (λa b c h1 h2=>by
   simp only[Bool.not_eq_true',decide_eq_false_iff_not]at*;E de.mpr (List.le_trans (de.mp h1) (de.mp h2))) (λa b=>by
   simp only[Bool.or_eq_true,Bool.not_eq_true',decide_eq_false_iff_not];J List.le_total (Qs a) (Qs b)with z|z
   ·E .inl (de.mpr z)
   ·E .inr (de.mpr z)) ts
 E this.imp fun{a b} h=>by L h
Лjoined(hs:А HP)(T:Tot hs):∃out,IsPool (· ∈hs) out/\(∀h∈out,HPok h)/\out.length<=hs.length/\Gen.U6 [.lst (hs.map Z0)]=aA (.ol (out.map Z0)):=by
 V h64:=T.all.len;V few:∀h∈hs,(Ui h).length<=126:=λh hh=>by V n:=T.all.n64;V m:=T.all.m64;O⟨a,b,rfl⟩:=List.append_of_mem hh;simp only[List.flatMap_append,List.flatMap_cons,aw]at n m;K[aw];W
 V hz:Fg hs<=10000:=by
  V :∀l:А HP,(∀h∈l,(Ui h).length<=126)->Fg l<=126*l.length:=λl=>by
   induction l with
   |nil=>intro _;simp[Fg]
   |cons h l ih=>intro hl;V :=ih λg hg=>hl g (ao _ hg);V :=hl h af;K[M4,bf];W
  V :=this hs few;W
 O⟨ks,pl,ho,hd⟩:=holders_of hs hz;O⟨δ',e,sk,ps,y4,y5,y6,j,hy⟩:=Gd (tg:=Zd 4) (body:=Gen.Jb) (P:=λi δ=>∃sk ps y4 y5 y6,JI hs i sk ps/\δ=Hm (hs.map Z0) (Y4 ks pl) (ps.map Z0) sk y4 y5 y6) hs.length 0 (Hm (hs.map Z0) (Y4 ks pl) [] [] aB aB aB) ⟨[],[],aB,aB,aB,⟨df,(λ_ z=>nomatch z),(λ_ z=>nomatch z),(λp z=>absurd z (dz _)),(λ_ z=>nomatch z),(λ_ z=>nomatch z),.nil,ba _⟩,rfl⟩ (λi _ hi δ ⟨sk,ps,y4,y5,y6,j,hy⟩=>by
  Q hy;K[Nat.zero_add]at hi;O⟨sk',ps',z5,z6,j',t⟩:=Vh hs T ks pl _ ho i hi sk ps j y5 y6;E⟨Hm (hs.map Z0) (Y4 ks pl) (ps.map Z0) sk (aA (.fz (.int (i:Int)))) y5 y6,_,by simp,t,sk',ps',_,z5,z6,j',rfl⟩)
 Q hy;K[Nat.zero_add]at j;V ok:∀h∈ps,HPok h:=λh hh=>by O⟨a,ha,m⟩:=j.each h hh;E Zgp T (j.lt a ha) m
 V nde:(ps.map Qs).Nodup:=List.pairwise_map.mpr ((gz.mp j.apart).imp fun{a b} ⟨ha,hb,ap⟩=>Hn (ok a ha) (ok b hb) ap);V s:=Zgg ok nde (by V :=j.len;W) (Je ps) (Vi ps);V s:Cm [.lst (ps.map Z0)]=aA (.ol ((Lb ps).map Z0)):=s;R⟨Lb ps,⟨?_,λh hh=>?_,λa ha=>?_⟩,λh hh=>ok h ((Je ps).mem_iff.mp hh),by K[(Je ps).length_eq];E j.len,?_⟩
 ·V nd2:((Lb ps).map Qs).Nodup:=(((Je ps).map Qs).nodup_iff).mpr nde;R((Vi ps).and (List.pairwise_map.mp nd2)).imp fun{a b} ⟨h1,h2⟩=>?_;B z:Qs a<Qs b
  ·E z
  ·E absurd (List.le_antisymm (de.mp h1) (de.mp z)) h2
 ·O⟨p,hp,m⟩:=j.each h ((Je ps).mem_iff.mp hh);V e:=Rh (j.lt p hp);E⟨_,b5 e,m.congr (Vg e)⟩
 ·O⟨p,e⟩:=List.getElem?_of_mem ha;V hp:p<hs.length:=by J dv p hs.length with z|z;E z;K[dy z]at e;C e
  O⟨h,hh,m⟩:=j.all p (j.upto p hp);E⟨h,(Je ps).mem_iff.mpr hh,m.congr (Vg e)⟩
 ·V g1:Mi (hs.length:Int):=Uv И;V et:((hs.length:Int)).toNat=hs.length:=by W
  V el:(hs.map Z0).length=hs.length:=aq _;V e:Z7 (Zd 4) Gen.Jb (Ce 0 hs.length) [aA (.fz (.lst (hs.map Z0))),aA (.fz (Y4 ks pl)),aA (.ol []),aA (.oK [] []),aB,aB,aB]=_:=e;U Gen.U6 Gen.Ez;U Hm Y4 at e;U Y4 at hd;G (Lb ps).map Z0=OS;G ps.map Z0=PS;G Q5 sk=K1;G Q6 sk=K2;G (pl.map W4).map D.lst=HX;G hs.map Z0=HS;G hs.length=N;simp[hd,e,s,g1,el,et,Qp,-Z7]
end My
namespace My
open DL PySem TT TX
Лs1:1<=PySem.sizeLine:=by decide
Лs2:2<=PySem.sizeLine:=by decide
Лs3:3<=PySem.sizeLine:=by decide
аJ3:Str:=Str.ofString "kind"
аZgq:Str:=Str.ofString "note"
МW2(fs ts:А Str)(f:Str):Б Str:=(fs.zip ts).lookup f
ЛGh:∀(fs ts:А Str) (f:Str),look fs (ts.map D.str) f=(W2 fs ts f).map D.str
 | [],ts,f=>by cases ts<;> rfl
 |_::_,[],f=>rfl
 |x::fs,t::ts,f=>by
  show(if x=f then aA (D.str t)else look fs (ts.map D.str) f)=_;K[Gh fs ts f];U W2;K[List.zip_cons_cons,im];B h:x=f
  ·Q h;simp
  ·V :(f==x)=aD:=beq_eq_false_iff_ne.mpr λz=>h z.symm;K[Д h,this]
аZa1(kind:Str)(fs ts:А Str):D:=.tup [.str kind,.dK (Yt fs) (ts.map D.str)]
Лown_texts(kind:Str)(fs ts:А Str)(hl:fs.length=ts.length)(hz:ts.length<=1000)(hk:J3∉fs):Gen.Qq [Za1 kind fs ts]=aA (.oK (Yt (fs++[J3])) ((ts++[kind]).map D.str)):=by
 V hp:Wv (Yt fs) (ts.map D.str) (d3 J3) (.str kind)=(Yt (fs++[J3]),(ts++[kind]).map D.str):=by K[Eo,Ep hk];simp
 V z:(ts.map D.str).length<PySem.sizeLine:=Yd (by simp;W);V at1:∀a b:D,L2.atI [a,b] 1=aA b:=λ_ _=>rfl;V at0:∀a b:D,L2.atI [a,b] 0=aA a:=λ_ _=>rfl;U Za1 Gen.Qq Gen.Cz;G ts.map D.str=TS;G Yt fs=FS;simp[at1,at0,hp,z,-Wv]
МU8(fs ts:А Str):Г->А (А Str)->А NK
 |_,[]=>[]
 |i,r::rs=>(match r.mapM (W2 fs ts)with|some l=>[(.inr ((i:Int),l):NK)]|none=>[])++U8 fs ts (i+1) rs
аYr(r:А Str):D:=.lst (r.map D.str)
МZsn(fs ts:А Str):D->D
 | .str f=>.bl (W2 fs ts f).isSome
 |_=>.non
МZlm(fs ts:А Str):D->D
 | .str f=>.str ((W2 fs ts f).getD "")
 |_=>.non
ЛZgr(fs ts:А Str)(j:Г)(r:А Str)(hr:r.length<=100):
  Yb [.own,.cap j,.acc] 2 (Zd 0) Q7 Gen.Uj (r.map D.str) [aB,aA (.fz (.dK (Yt fs) (ts.map D.str))),aA (.ol [])]=aA [aB,aA (.fz (.dK (Yt fs) (ts.map D.str))),aA (.ol (r.map λf=>.bl (W2 fs ts f).isSome))]:=by
 V c:=Cq (te:=Gen.Uj) (f:=Zsn fs ts) (c:=aA (.fz (.dK (Yt fs) (ts.map D.str)))) (j:=j) (r.map D.str) [] (λx hx zs=>by
  O⟨f,hf,rfl⟩:=ax.mp hx;V l:=(Cr f fs (ts.map D.str)).trans (Gh fs ts f);U Gen.Uj Zsn;G ts.map D.str=TS;G Yt fs=FS;simp[l,-look]) (by K[aq];simp;W)
 K[c,d7,cg];rfl
ЛZgs(fs ts:А Str)(j:Г)(r:А Str)(hr:r.length<=100)(hh:∀f∈r,(W2 fs ts f).isSome):
  Yb [.own,.cap j,.acc] 2 (Zd 0) Q7 Gen.Uk (r.map D.str) [aB,aA (.fz (.dK (Yt fs) (ts.map D.str))),aA (.ol [])]=aA [aB,aA (.fz (.dK (Yt fs) (ts.map D.str))),aA (.ol (r.map λf=>.str ((W2 fs ts f).getD "")))]:=by
 V c:=Cq (te:=Gen.Uk) (f:=Zlm fs ts) (c:=aA (.fz (.dK (Yt fs) (ts.map D.str)))) (j:=j) (r.map D.str) [] (λx hx zs=>by
  O⟨f,hf,rfl⟩:=ax.mp hx;V l:=(Cr f fs (ts.map D.str)).trans (Gh fs ts f);O⟨v,hv⟩:=Option.isSome_iff_exists.mp (hh f hf);K[hv]at l;V g:Zlm fs ts (.str f)= .str v:=by T D.str ((W2 fs ts f).getD "")=_;K[hv];rfl
  K[g];U Gen.Uk;G ts.map D.str=TS;G Yt fs=FS;simp[l,-look]) (by K[aq];simp;W)
 K[c,d7,cg];rfl
ЛVj(fs ts:А Str):∀r:А Str,r.mapM (W2 fs ts)=if(∀f∈r,(W2 fs ts f).isSome)then aA (r.map λf=>(W2 fs ts f).getD "")else aB
 | []=>by simp
 |f::r=>by
  K[List.mapM_cons,Vj fs ts r];cases h:W2 fs ts f with
  |none=>simp[h]
  |some v=>
   B h2:∀f∈r,(W2 fs ts f).isSome
   ·K[Е h2,Е λg hg=>(bx.mp hg).elim (λz=>by K[z,h];rfl) λz=>h2 g z];simp[h]
   ·K[Д h2,Д λz=>h2 λg hg=>z g (ao _ hg)];rfl
ЛLc:∀(r:А Str) (p:Str->Bool),bools? (r.map λf=>D.bl (p f))=aA (r.map p)
 | [],p=>rfl
 |f::r,p=>by V :=Lc r p;K[bc,bc];simp[this]
ЛHo(fs ts:А Str)(R:Б SV)(M:А NK)(n:Г)(r:А Str)(hr:r.length<=100)(hM:M.length<=100):
  Gen.Q0 [aA (.fz (.dK (Yt fs) (ts.map D.str))),R,aA (.ol (M.map Zn)),aA (.fz (.int (n:Int))),aA (.fz (Yr r))]=
  aA (.nx [aA (.fz (.dK (Yt fs) (ts.map D.str))),R,aA (.ol ((M++(match r.mapM (W2 fs ts)with|some l=>[(.inr ((n:Int),l):NK)]|none=>[])).map Zn)),aA (.fz (.int (n:Int))),aA (.fz (Yr r))]):=by
 V h1:=Zgr fs ts 0 r hr;V b:=Lc r λf=>(W2 fs ts f).isSome;V z1:M.length<PySem.sizeLine:=Yd И;U Gen.Q0;K[Vj];B h:∀f∈r,(W2 fs ts f).isSome
 ·V h2:=Zgs fs ts 0 r hr h;K[Е h];V al:(r.map λf=>(W2 fs ts f).isSome).all id=aC:=by K[List.all_map];E List.all_eq_true.mpr λf hf=>h f hf
  G ts.map D.str=TS;G Yt fs=FS;simp[h1,h2,b,al,z1,s2,-Yb];U Zn;simp
 ·K[Д h];V al:(r.map λf=>(W2 fs ts f).isSome).all id=aD:=by K[List.all_map,Bool.eq_false_iff];E λz=>h λf hf=>List.all_eq_true.mp z f hf
  G ts.map D.str=TS;G Yt fs=FS;simp[h1,b,al,z1,-Yb]
ЛIb(fs ts:А Str)(R:Б SV):∀(rs:А (А Str)) (n:Г) (M:А NK) (x3 x4:Б SV),(∀r∈rs,r.length<=100)->M.length+rs.length<=100->∃y3 y4,
  Z7 (Wj 2 (Zt (Zd 3) (Zt (Zd 4) Wi))) Gen.Q0 (((rs.map Yr).zipIdx n).map λp=>D.tup [.int (p.2:Г),p.1]) [aA (.fz (.dK (Yt fs) (ts.map D.str))),R,aA (.ol (M.map Zn)),x3,x4]=
  aA (.nx [aA (.fz (.dK (Yt fs) (ts.map D.str))),R,aA (.ol ((M++U8 fs ts n rs).map Zn)),y3,y4])
 | [],n,M,x3,x4,_,_=>⟨x3,x4,by simp[U8]⟩
 |r::rs,n,M,x3,x4,hr,hM=>by
  K[bf]at hM;V t:=Ho fs ts R M n r (hr r af) И;O⟨y3,y4,ih⟩:=Ib fs ts R rs (n+1) (M++(match r.mapM (W2 fs ts)with|some l=>[(.inr ((n:Int),l):NK)]|none=>[])) (aA (.fz (.int (n:Int)))) (aA (.fz (Yr r))) (λq hq=>hr q (ao _ hq)) (by
   K[aw];cases r.mapM (W2 fs ts)<;> simp<;> W)
  R⟨y3,y4,?_⟩;K[bc,List.zipIdx_cons,bc,U8];K[gp]at ih;V e:∀δ,(Wj 2 (Zt (Zd 3) (Zt (Zd 4) Wi))).run (.tup [.int (n:Г),Yr r]) [aA (.fz (.dK (Yt fs) (ts.map D.str))),R,aA (.ol (M.map Zn)),x3,x4]=aA δ->δ=[aA (.fz (.dK (Yt fs) (ts.map D.str))),R,aA (.ol (M.map Zn)),aA (.fz (.int (n:Int))),aA (.fz (Yr r))]:=λδ h=>by L h.symm
  U Z7;G ts.map D.str=TS;G Yt fs=FS;K[show(Wj 2 (Zt (Zd 3) (Zt (Zd 4) Wi))).run (.tup [.int (n:Г),Yr r]) [aA (.fz (.dK FS TS)),R,aA (.ol (M.map Zn)),x3,x4]=aA [aA (.fz (.dK FS TS)),R,aA (.ol (M.map Zn)),aA (.fz (.int (n:Int))),aA (.fz (Yr r))]from by simp];dsimp only[c6];K[t];E ih
Лmarks_of(fs ts:А Str)(rs:А (А Str))(hr:∀r∈rs,r.length<=100)(hn:rs.length<=100):Gen.U7 [.dK (Yt fs) (ts.map D.str),.lst (rs.map Yr)]=aA (.ol ((U8 fs ts 0 rs).map Zn)):=by O⟨y3,y4,e⟩:=Ib fs ts (aA (.fz (.lst (rs.map Yr)))) rs 0 [] aB aB hr (by L hn);K[d7]at e;V e2:Js (rs.map Yr)=(((rs.map Yr).zipIdx 0).map λp=>D.tup [.int (p.2:Г),p.1]):=rfl;U Gen.U7 Gen.Rf;K[<-e2]at e;G ts.map D.str=TS;G Yt fs=FS;G rs.map Yr=RS;G (U8 fs ts 0 rs).map Zn=MS;V e:Z7 (Wj 2 (Zt (Zd 3) (Zt (Zd 4) Wi))) Gen.Q0 (Js RS) [aA (.fz (.dK FS TS)),aA (.fz (.lst RS)),aA (.ol []),aB,aB]=_:=e;simp[e,-Z7]
structure Wk where
 key:Str
 kind:Str
 fs:А Str
 ts:А Str
structure WkOk(w:Wk):В where
 len:w.fs.length=w.ts.length
 nd:w.fs.Nodup
 few:w.fs.length<=10
 nk:J3∉w.fs
аWk.at'(w:Wk):А Str:=w.fs++[J3]
аWk.vt(w:Wk):А Str:=w.ts++[w.kind]
аWk.val(w:Wk)(f:Str):Str:=(W2 w.at' w.vt f).getD ""
аWk.d(w:Wk):D:=Za1 w.kind w.fs w.ts
аC6(b k:Str):NK:=.inl [b,k]
МWk.tri(b:Str)(w:Wk):А T0:=(w.at'.filter λf=>decide (f≠Zgq)).map λf=>(f,w.val f,[C6 b w.key])
аWk.marks(rs:А (А Str))(w:Wk):А NK:=U8 w.at' w.vt 0 rs
МQt(b:Str)(rs:А (А Str))(w:Wk):HP:=⟨[C6 b w.key],w.marks rs,w.tri b⟩
ЛIc:∀(fs ts:А Str) (f:Str),fs.length=ts.length->(f∈fs↔(W2 fs ts f).isSome=aC)
 | [],[],f,_=>by simp[W2]
 | [],_::_,f,h=>by simp at h
 |_::_,[],f,h=>by simp at h
 |x::fs,t::ts,f,h=>by
  V ih:=Ic fs ts f (by L h);U W2 at*;K[List.zip_cons_cons,im,bx,ih];B e:f=x
  ·Q e;simp
  ·V :(f==x)=aD:=beq_eq_false_iff_ne.mpr e;K[this];simp[e]
ЛM6(fs ts:А Str)(nm:D)(hl:fs.length=ts.length):∀(xs:А Str) (zs:А D),(∀x∈xs,x∈fs)->zs.length+xs.length<=1000->
  Yb [.own,.cap 3,.cap 0,.acc] 3 (Zd 0) Gen.Qh Gen.Jl (xs.map D.str) [aB,aA (.fz (.dK (Yt fs) (ts.map D.str))),aA (.fz nm),aA (.ol zs)]=
  aA [aB,aA (.fz (.dK (Yt fs) (ts.map D.str))),aA (.fz nm),aA (.ol (zs++(xs.filter λf=>decide (f≠Zgq)).map λf=>D.tup [.str f,.str ((W2 fs ts f).getD ""),.lst [nm]]))]
 | [],zs,_,_=>by simp
 |x::xs,zs,h,hz=>by
  K[bf]at hz;O⟨v,hv⟩:=Option.isSome_iff_exists.mp ((Ic fs ts x hl).mp (h x af));V l:=(Cr x fs (ts.map D.str)).trans (Gh fs ts x);K[hv]at l;V z1:zs.length<PySem.sizeLine:=Yd И;K[bc,List.filter_cons];U Yb;B hx:x=Zgq
  ·V ih:=M6 fs ts nm hl xs zs (λy hy=>h y (ao _ hy)) И;K[Д (by simp[hx])];G ts.map D.str=TS;G Yt fs=FS;K[show Gen.Qh=Ys (Zm neX (Za 0) (Zf (.str "note")))from rfl]at*;simp[hx,-Yb,-look];simpa[-Yb,-look]using ih
  ·V ih:=M6 fs ts nm hl xs (zs++[D.tup [.str x,.str ((W2 fs ts x).getD ""),.lst [nm]]]) (λy hy=>h y (ao _ hy)) (by K[aw];simp;W);K[Е (by simp[hx]),bc];K[gp]at ih;G ts.map D.str=TS;G Yt fs=FS;V e0:∀q,Gen.Qh [aA (SV.fz (D.str x)),aA (.fz (.dK FS TS)),aA (.fz nm),aA (.ol q)]=aA (aC,[aA (SV.fz (D.str x)),aA (.fz (.dK FS TS)),aA (.fz nm),aA (.ol q)]):=λq=>by U Gen.Qh;simp[hx]
   V e1:∀q,Gen.Jl [aA (SV.fz (D.str x)),aA (.fz (.dK FS TS)),aA (.fz nm),aA (.ol q)]=aA (.tmp (.fz (D.tup [.str x,.str v,.lst [nm]])),[aA (SV.fz (D.str x)),aA (.fz (.dK FS TS)),aA (.fz nm),aA (.ol q)]):=λq=>by U Gen.Jl;simp[l,s1,s3,-look]
   K[hv]at ih⊢;simp[e0,e1,z1,-Yb,-look];simpa[-Yb,-look]using ih
ЛM7(xs:А Str):(Yt xs).map Rw=xs.map D.str:=by K[cg];rfl
Лlone_heap(b:Str)(rs:А (А Str))(w:Wk)(ok:WkOk w)(hr:∀r∈rs,r.length<=100)(hn:rs.length<=100):
  Gen.Qr [Zn (C6 b w.key),w.d,.lst (rs.map Yr)]=aA (.fz (Z0 (Qt b rs w))):=by
 V o:Gen.Qq [w.d]=aA (.oK (Yt w.at') (w.vt.map D.str)):=own_texts w.kind w.fs w.ts ok.len (by V :=ok.len;V :=ok.few;W) ok.nk;V hl:w.at'.length=w.vt.length:=by simp[ok.len]
 V m:=marks_of w.at' w.vt rs hr hn;V c:=M6 w.at' w.vt (Zn (C6 b w.key)) hl w.at' [] (λx hx=>hx) (by V :=ok.few;simp;W);V ek:=M7 w.at';V el:(Qt b rs w).fs.map Wm=(w.at'.filter λf=>decide (f≠Zgq)).map λf=>D.tup [.str f,.str (w.val f),.lst [Zn (C6 b w.key)]]:=by show(w.tri b).map Wm=_;U Wk.tri;K[cg];rfl
 V en:(Qt b rs w).ns.map Zn=[Zn (C6 b w.key)]:=rfl;V em:(Qt b rs w).ms=w.marks rs:=rfl;U Gen.Qr Gen.C0 Z0;K[el,en,em];K[d7]at c;V ev:∀f,w.val f=(W2 w.at' w.vt f).getD "":=λ_=>rfl;G Zn (C6 b w.key)=NM;generalize hM:(w.marks rs).map Zn=MS at*;G w.d=W;G w.at'=AT;G w.vt=VT;G VT.map D.str=TS;G Yt AT=FS;simp[o,m,c,ek,s1,s3,hM,ev,-Yb,-look]
аZz(ws:А Wk):D:=.dK (Yt (ws.map Wk.key)) (ws.map Wk.d)
ЛHq{ws:А Wk}(nd:(ws.map Wk.key).Nodup){w:Wk}(h:w∈ws):look (Yt (ws.map Wk.key)) (ws.map Wk.d) (d3 w.key)=aA w.d:=by K[Cr];O⟨i,hi,rfl⟩:=eh h;E Zga nd К i _ _ (by simp[hi]) (by simp[hi])
ЛLd(b:Str)(rs:А (А Str))(ws:А Wk)(nd:(ws.map Wk.key).Nodup)(ok:∀w∈ws,WkOk w)(hr:∀r∈rs,r.length<=100)(hn:rs.length<=100):∀(xs:А Wk) (zs:А D),(∀x∈xs,x∈ws)->zs.length+xs.length<=1000->
  Yb [.own,.cap 2,.cap 0,.cap 1,.acc] 4 (Zd 0) Q7 Gen.Oh ((xs.map Wk.key).map D.str) [aB,aA (.fz (.lst (rs.map Yr))),aA (.fz (.str b)),aA (.fz (Zz ws)),aA (.ol zs)]=
  aA [aB,aA (.fz (.lst (rs.map Yr))),aA (.fz (.str b)),aA (.fz (Zz ws)),aA (.ol (zs++(xs.map (Qt b rs)).map Z0))]
 | [],zs,_,_=>by simp
 |x::xs,zs,h,hz=>by
  K[bf]at hz;V ih:=Ld b rs ws nd ok hr hn xs (zs++[Z0 (Qt b rs x)]) (λy hy=>h y (ao _ hy)) (by K[aw];simp;W);V hx:=h x af;V l:=Hq nd hx;V lo:Gen.Qr [.tup [.str b,.str x.key],x.d,.lst (rs.map Yr)]=aA (.fz (Z0 (Qt b rs x))):=lone_heap b rs x (ok x hx) hr hn;V z1:zs.length<PySem.sizeLine:=Yd И;K[gp]at ih;K[bc,bc,bc,bc];V e1:∀q,Gen.Oh [aA (.fz (.str x.key)),aA (.fz (.lst (rs.map Yr))),aA (.fz (.str b)),aA (.fz (Zz ws)),aA (.ol q)]=aA (.tmp (.fz (Z0 (Qt b rs x))),[aA (.fz (.str x.key)),aA (.fz (.lst (rs.map Yr))),aA (.fz (.str b)),aA (.fz (Zz ws)),aA (.ol q)]):=λq=>by U Gen.Oh;U Zz;U Z0 at lo⊢;G [D.lst ((Qt b rs x).ns.map Zn),.lst ((Qt b rs x).ms.map Zn),.lst ((Qt b rs x).fs.map Wm)]=HH;G x.d=XD;G ws.map Wk.d=WD;G Yt (ws.map Wk.key)=WK;G rs.map Yr=RD;simp[l,lo,s2,-look]
  U Zz at e1 ih⊢;G Z0 (Qt b rs x)=HH;G ws.map Wk.d=WD;G Yt (ws.map Wk.key)=WK;G rs.map Yr=RD;U Yb;simp[e1,z1,-Yb];simpa[-Yb]using ih
ЛZso{w:Wk}(ok:WkOk w):w.at'.Nodup:=dq.mpr ⟨ok.nd,by simp,λa ha c hc e=>ok.nk (by K[<-ar.mp hc,<-e];E ha)⟩
ЛIe:∀(fs ts:А Str) (rs:А (А Str)) (n:Г),∀m∈U8 fs ts n rs,∃(j:Г) (l:А Str),m= .inr ((j:Int),l)/\n<=j/\∃r,rs[j- n]? =aA r/\r.mapM (W2 fs ts)=aA l
 |fs,ts,[],n,m,h=>nomatch h
 |fs,ts,r::rs,n,m,h=>by
  K[U8]at h;J bz.mp h with z|z
  ·cases e:r.mapM (W2 fs ts)with
   |none=>K[e]at z;C z
   |some l=>K[e]at z;E⟨n,l,ar.mp z,ba _,r,by simp,e⟩
  ·O⟨j,l,e,hj,r',h1,h2⟩:=Ie fs ts rs (n+1) m z;R⟨j,l,e,by W,r',?_,h2⟩;K[show j- n=(j- (n+1))+1 by W];E h1
ЛM8:∀(fs ts:А Str) (rs:А (А Str)) (n:Г),(U8 fs ts n rs).length<=rs.length
 |fs,ts,[],n=>ba _
 |fs,ts,r::rs,n=>by K[U8,aw,bf];V :=M8 fs ts rs (n+1);cases r.mapM (W2 fs ts)<;> simp<;> W
structure Shw(rs:А (А Str))(ws:А Wk):В where
 nd:(ws.map Wk.key).Nodup
 ok:∀w∈ws,WkOk w
 few:ws.length<=40
 m64:ws.length*rs.length<64
 rl:∀r∈rs,r.length<=100
 rn:rs.length<=60
ЛZco(b:Str)(w:Wk)(ok:WkOk w):((w.tri b).map Y5).Nodup:=by U Wk.tri;K[cg];R List.pairwise_map.mpr (((Zso ok).filter _).imp fun{x y} h e=>h ?_);V e:=Sum.inl.inj e;E(List.cons.inj e).1
ЛZa2(t:NK):∀fs:А T0,(fs.map Y5).Nodup->(∀x∈fs,x.2.2.length=1)->Fi t fs<=1
 | [],_,_=>by simp[Fi]
 |x::fs,nd,h=>by
  O⟨n1,n2⟩:=dm.mp nd;V ih:=Za2 t fs n2 λy hy=>h y (ao _ hy);K[Be];B e:Y5 x=t
  ·V z:Fi t fs=0:=by
    V :∀l:А T0,t∉l.map Y5->Fi t l=0:=λl=>by
     induction l with
     |nil=>intro _;simp[Fi]
     |cons y l ih=>intro hn;K[Be,Д λz=>hn (by K[<-z];simp),ih λz=>hn (ao _ z)]
    E this fs (by K[<-e];E n1)
   K[Е e,z,h x af];decide
  ·K[Д e];W
ЛW3{α:Type}(w:α->Г)(B:Г):∀l:А α,(∀x∈l,w x<=B)->(l.map w).sum<=l.length*B
 | [],_=>by simp
 |x::l,h=>by V :=W3 w B l λy hy=>h y (ao _ hy);V :=h x af;K[bc,List.sum_cons,bf,Nat.add_mul];W
ЛZgt(b:Str)(rs:А (А Str))(ws:А Wk)(s:Shw rs ws)(hp:∃ps:А NK,ps.length<64/\∀w∈ws,∀x∈w.tri b,Y5 x∈ps):Tot (ws.map (Qt b rs)):=by
 V few:=s.few;V tl1:∀w:Wk,∀x∈w.tri b,x.2.2=[C6 b w.key]:=λw x hx=>by O⟨f,_,rfl⟩:=ax.mp hx;rfl
 V ml:∀w:Wk,(w.marks rs).length<=rs.length:=λw=>M8 w.at' w.vt rs 0;V fl:∀w∈ws,(w.tri b).length<=11:=λw hw=>by
  U Wk.tri;K[aq];V :=List.length_filter_le (λf=>decide (f≠Zgq)) w.at';V h2:w.at'.length=w.fs.length+1:=by simp
  V :=(s.ok w hw).few;W
 R⟨⟨λh hh=>?_,λh hh k hk=>?_,λh hh k hk=>?_,λh hh x hx k hk=>?_,?_,?_,λt=>?_,by K[aq];W,?_,?_⟩,λh hh=>?_⟩
 ·O⟨w,hw,rfl⟩:=ax.mp hh;V :=ml w;V :=s.rn;E⟨by show[C6 b w.key].length<=_;simp,by show(w.marks rs).length<=_;W,λx hx=>by K[tl1 w x hx];simp⟩
 ·O⟨w,hw,rfl⟩:=ax.mp hh;E⟨b,[w.key],ar.mp hk⟩
 ·O⟨w,hw,rfl⟩:=ax.mp hh;O⟨j,l,e,_⟩:=Ie _ _ _ _ k (show k∈w.marks rs from hk);E⟨j,l,e⟩
 ·O⟨w,hw,rfl⟩:=ax.mp hh;K[tl1 w x hx]at hk;E⟨b,[w.key],ar.mp hk⟩
 ·K[List.length_flatMap,cg];V :=W3 ((λh:HP=>h.ns.length)∘Qt b rs) 1 ws λw _=>ba _;E ib this И
 ·K[List.length_flatMap,cg];E ib (W3 ((λh:HP=>h.ms.length)∘Qt b rs) rs.length ws λw _=>ml w) s.m64
 ·U tlG;K[cg];V :=W3 ((λh:HP=>Fi t h.fs)∘Qt b rs) 1 ws λw hw=>Za2 t (w.tri b) (Zco b w (s.ok w hw)) λx hx=>by K[tl1 w x hx];rfl
  E ib this И
 ·U Tr;K[cg];V :=W3 ((λh:HP=>h.fs.length)∘Qt b rs) 11 ws λw hw=>fl w hw;E dk this И
 ·O⟨ps,h1,h2⟩:=hp;R⟨ps,h1,λt zq9=>?_⟩;O⟨h,hh,x,hx,e⟩:=zq9;O⟨w,hw,rfl⟩:=ax.mp hh;K[e];E h2 w hw x hx
 ·O⟨w,hw,rfl⟩:=ax.mp hh;E λz=>nomatch z
Лpool_of(b:Str)(rs:А (А Str))(ws:А Wk)(s:Shw rs ws)(hp:∃ps:А NK,ps.length<64/\∀w∈ws,∀x∈w.tri b,Y5 x∈ps):∃out,IsPool (· ∈ws.map (Qt b rs)) out/\(∀h∈out,HPok h)/\out.length<=ws.length/\Gen.Wn [.str b,Zz ws,.lst (rs.map Yr)]=aA (.ol (out.map Z0)):=by V c:=Ld b rs ws s.nd s.ok s.rl (by V :=s.rn;W) ws [] (λ_ h=>h) (by V :=s.few;simp;W);K[d7]at c;O⟨out,p,ok,len,j⟩:=joined (ws.map (Qt b rs)) (Zgt b rs ws s hp);R⟨out,p,ok,by K[aq]at len;E len,?_⟩;V ek:=M7 (ws.map Wk.key);U Gen.Wn Gen.M3;U Zz at c⊢;G out.map Z0=OUT;G (ws.map (Qt b rs)).map Z0=LH;G ws.map Wk.d=WD;G Yt (ws.map Wk.key)=WK;G rs.map Yr=RD;G (ws.map Wk.key).map D.str=KS;simp[c,j,ek,-Yb]
end My
namespace My
open DL PySem TT TX
structure Uni(U V W:А NK)(S:HP->В):В where
 ne:∀a,S a->a.ns≠[]
 ns:∀a,S a->∀k∈a.ns,k∈U/\Rb k
 ms:∀a,S a->∀k∈a.ms,k∈V/\isM k
 fs:∀a,S a->∀x∈a.fs,Y5 x∈W/\∀k∈x.2.2,k∈a.ns
ЛUni.or{U V W:А NK}{S T:HP->В}(s:Uni U V W S)(t:Uni U V W T):Uni U V W λa=>S a\/T a:=
 ⟨λa h=>h.elim (s.ne a) (t.ne a),λa h=>h.elim (s.ns a) (t.ns a),λa h=>h.elim (s.ms a) (t.ms a),λa h=>h.elim (s.fs a) (t.fs a)⟩
ЛGi{U V W:А NK}{S:HP->В}(u:Uni U V W S){a h:HP}(sa:S a)(m:IsMerge (Conn S a) h):h.ns≠[]/\(∀k∈h.ns,k∈U/\Rb k)/\(∀k∈h.ms,k∈V/\isM k)/\∀x∈h.fs,Y5 x∈W/\∀k∈x.2.2,k∈h.ns:=by
 R⟨λz=>?_,λk hk=>?_,λk hk=>?_,λx hx=>⟨?_,λk hk=>?_⟩⟩
 ·O⟨k,l,ek⟩:=ic (u.ne a sa);V :=(m.ns_m k).mpr ⟨a,.here sa,by K[ek];E af⟩;K[z]at this;C this
 ·O⟨b,c,hk⟩:=(m.ns_m k).mp hk;E u.ns b c.right k hk
 ·O⟨b,c,hk⟩:=(m.ms_m k).mp hk;E u.ms b c.right k hk
 ·O⟨b,c,l,hl⟩:=(m.fs_m x.1 x.2.1).mp ⟨x.2.2,hx⟩;E(u.fs b c.right _ hl).1
 ·O⟨b,c,l,hl,hk⟩:=((m.fs_l x hx).2 k).mp hk;E(m.ns_m k).mpr ⟨b,c,(u.fs b c.right _ hl).2 k hk⟩
ЛC7{U V W:А NK}{S:HP->В}{P:А HP}(u:Uni U V W S)(p:IsPool S P):Uni U V W (· ∈P):=
 ⟨λh hh=>let⟨_,sa,m⟩:=p.each h hh;(Gi u sa m).1,λh hh=>let⟨_,sa,m⟩:=p.each h hh;(Gi u sa m).2.1,λh hh=>let⟨_,sa,m⟩:=p.each h hh;(Gi u sa m).2.2.1,λh hh=>let⟨_,sa,m⟩:=p.each h hh;(Gi u sa m).2.2.2⟩
ЛIg{S:HP->В}{P:А HP}(p:IsPool S P):P.Pairwise λh h'=>∀t,t∈Ui h->t∉Ui h':=by
 R(gz.mp p.sorted).imp fun{h h'} ⟨hh,hh',lt⟩ t t1 t2=>?_;O⟨a,sa,m⟩:=p.each h hh;O⟨a',sa',m'⟩:=p.each h' hh';O⟨b,c,tb⟩:=(m.tie t).mp t1;O⟨b',c',tb'⟩:=(m'.tie t).mp t2;V cc:Conn S a a':=(Conn.step c c'.right ⟨t,tb,tb'⟩).trans c'.symm;V :h=h':=m.uniq m' λx=>⟨λz=>cc.symm.trans z,λz=>cc.trans z⟩
 K[this]at lt;E fg _ lt
structure Small(u v w:Г)(P:А HP):В where
 ns:(P.flatMap HP.ns).length<=u
 ms:(P.flatMap HP.ms).length<=v
 tl:∀t,tlG t P<=u
 cn:Tr P<=P.length*w
 ln:P.length<=u
 fw:∀h∈P,h.ns.length<=u/\h.ms.length<=v/\∀x∈h.fs,x.2.2.length<=u
ЛZgu(t:NK)(B:Г):∀fs:А T0,(fs.map Y5).Nodup->(∀x∈fs,x.2.2.length<=B)->Fi t fs<=B
 | [],_,_=>by simp[Fi]
 |x::fs,nd,h=>by
  O⟨n1,n2⟩:=dm.mp nd;V ih:=Zgu t B fs n2 λy hy=>h y (ao _ hy);K[Be];B e:Y5 x=t
  ·V z:Fi t fs=0:=by
    V :∀l:А T0,t∉l.map Y5->Fi t l=0:=λl=>by
     induction l with
     |nil=>intro _;simp[Fi]
     |cons y l ih=>intro hn;K[Be,Д λz=>hn (by K[<-z];simp),ih λz=>hn (ao _ z)]
    E this fs (by K[<-e];E n1)
   K[Е e,z];E h x af
  ·K[Д e];W
ЛZsp:∀l:А HP,(l.map λ_=>1).sum=l.length
 | []=>rfl
 |h::l=>by K[bc,List.sum_cons,Zsp l,bf];W
ЛB9{U V W:А NK}{S:HP->В}{P:А HP}(u:Uni U V W S)(p:IsPool S P):Small U.length V.length W.length P:=by
 V q:=C7 u p;V ap:=Ig p;V srt:∀h∈P,h.ns.Pairwise kLt/\h.ms.Pairwise kLt/\h.fs.Pairwise tLt/\∀x∈h.fs,x.2.2.Pairwise kLt:=λh hh=>by O⟨a,sa,m⟩:=p.each h hh;E⟨m.ns_s,m.ms_s,m.fs_s,λx hx=>(m.fs_l x hx).1⟩
 V ndN:(P.flatMap HP.ns).Nodup:=List.pairwise_flatMap.mpr ⟨λh hh=>W8 (srt h hh).1,ap.imp fun{h h'} z x hx y hy e=>z x (bj _ hx) (by K[e];E bj _ hy)⟩;V ndM:(P.flatMap HP.ms).Nodup:=List.pairwise_flatMap.mpr ⟨λh hh=>W8 (srt h hh).2.1,ap.imp fun{h h'} z x hx y hy e=>z x (bh _ hx) (by K[e];E bh _ hy)⟩;V nsl:∀h∈P,h.ns.length<=U.length:=λh hh=>da (W8 (srt h hh).1) λk hk=>(q.ns h hh k hk).1;V ndP:∀h∈P,(h.fs.map Y5).Nodup:=λh hh=>List.pairwise_map.mpr ((srt h hh).2.2.1.imp fun{x y} lt e=>by
  V e:=Sum.inl.inj e;V e1:=(List.cons.inj e).1;V e2:=(List.cons.inj (List.cons.inj e).2).1;V :Ww x=Ww y:=by U Ww;K[e1,e2]
  V lt:Ww x<Ww y:=lt;K[this]at lt;E fg _ lt)
 V tol:∀h∈P,∀x∈h.fs,x.2.2.length<=h.ns.length:=λh hh x hx=>da (W8 ((srt h hh).2.2.2 x hx)) λk hk=>(q.fs h hh x hx).2 k hk;V n1:(P.flatMap HP.ns).length<=U.length:=da ndN λk hk=>by O⟨h,hh,hk⟩:=gh.mp hk;E(q.ns h hh k hk).1
 V sum_mono:∀(w w':HP->Г) (l:А HP),(∀h∈l,w h<=w' h)->(l.map w).sum<=(l.map w').sum:=λw w' l=>by
  induction l with
  |nil=>intro _;simp
  |cons h l ih=>intro z;V :=ih λg hg=>z g (ao _ hg);V :=z h af;simp only[bc,List.sum_cons];W
 R⟨n1,da ndM λk hk=>?_,λt=>?_,?_,?_,λh hh=>⟨nsl h hh,da (W8 (srt h hh).2.1) λk hk=>(q.ms h hh k hk).1,λx hx=>dk (tol h hh x hx) (nsl h hh)⟩⟩
 ·O⟨h,hh,hk⟩:=gh.mp hk;E(q.ms h hh k hk).1
 ·R dk ?_ n1;K[List.length_flatMap];E sum_mono _ _ P λh hh=>Zgu t _ h.fs (ndP h hh) (tol h hh)
 ·E W3 (λh:HP=>h.fs.length) W.length P λh hh=>by
   V :=da (ndP h hh) (l₂:=W) λk hk=>by O⟨x,hx,rfl⟩:=ax.mp hk;E(q.fs h hh x hx).1
   K[aq]at this;E this
 ·R dk ?_ n1;K[List.length_flatMap];V :=sum_mono (λ_=>1) (λh=>h.ns.length) P λh hh=>by V :=q.ne h hh;E List.length_pos_iff.mpr this
  V e1:=Zsp P;E dk (Nat.le_of_eq e1.symm) this
ЛZgv{U V W:А NK}{S T:HP->В}{P Q:А HP}(u:Uni U V W S)(u':Uni U V W T)(p:IsPool S P)(q:IsPool T Q)(hU:U.length<=31)(hV:V.length<=31)(hW:W.length<64):Tot (P++Q):=by
 V s:=B9 u p;V s':=B9 u' q;V b:=(C7 u p)
 V b':=(C7 u' q)
 V or:∀h,h∈P++Q->h∈P\/h∈Q:=λh=>bz.mp;V ub:=b.or b';R⟨⟨λh hh=>?_,λh hh k hk=>(ub.ns h (or h hh) k hk).2,λh hh k hk=>(ub.ms h (or h hh) k hk).2,λh hh x hx k hk=>(ub.ns h (or h hh) k ((ub.fs h (or h hh) x hx).2 k hk)).2,?_,?_,λt=>?_,?_,?_,W,hW,λt ⟨h,hh,x,hx,e⟩=>by K[e];E(ub.fs h (or h hh) x hx).1⟩,λh hh=>ub.ne h (or h hh)⟩
 ·J or h hh with z|z
  ·O⟨z1,z2,z3⟩:=s.fw h z;E⟨by W,by W,λx hx=>by V :=z3 x hx;W⟩
  ·O⟨z1,z2,z3⟩:=s'.fw h z;E⟨by W,by W,λx hx=>by V :=z3 x hx;W⟩
 ·K[List.flatMap_append,aw];V :=s.ns;V :=s'.ns;W
 ·K[List.flatMap_append,aw];V :=s.ms;V :=s'.ms;W
 ·U tlG;K[b9,List.sum_append];V h1:=s.tl t;V h2:=s'.tl t;U tlG at h1 h2;W
 ·K[aw];V :=s.ln;V :=s'.ln;W
 ·U Tr;K[b9,List.sum_append];V h1:=s.cn;V h2:=s'.cn;U Tr at h1 h2;V l1:=s.ln;V l2:=s'.ln;V m1:P.length*W.length<=31*63:=Nat.mul_le_mul И И;V m2:Q.length*W.length<=31*63:=Nat.mul_le_mul И И;W
end My
namespace My
open DL PySem TT TX
МNum(x:Int):Prop:=0<=x/\x<2147483647
ЛZgw{m:Int}(h:0<m/\m<=2147483647)(x:Int):Num (x % m):=⟨f9 _ И,Int.lt_of_lt_of_le (d8 _ h.1) h.2⟩
ЛGx(a b:Б SV):∀(n s:Г) (ms:А Int) (x:Int) (y:Б SV),(∀m∈ms,Num m)->ms.length+n<=1000->
  ∃(ms':А Int) (x':Int) (y':Б SV),Z7 (Zd 4) Gen.Qj (Ce s n) [a,b,aA (.ol (ms.map D.int)),aA (.fz (.int x)),y]=aA (.nx [a,b,aA (.ol (ms'.map D.int)),aA (.fz (.int x')),y'])/\(∀m∈ms',Num m)/\ms'.length=ms.length+n
 |0,s,ms,x,y,h,_=>⟨ms,x,y,rfl,h,rfl⟩
 |n+1,s,ms,x,y,h,hl=>by
  V z:ms.length<PySem.sizeLine:=Yd И;V hb:Gen.Qj [a,b,aA (.ol (ms.map D.int)),aA (.fz (.int x)),aA (.fz (.int (s:Int)))]=aA (.nx [a,b,aA (.ol ((ms++[x % 5040]).map D.int)),aA (.fz (.int (x / 5040))),aA (.fz (.int (s:Int)))]):=by U Gen.Qj;simp[z]
  O⟨ms',x',y',e,h1,h2⟩:=Gx a b n (s+1) (ms++[x % 5040]) (x / 5040) (aA (.fz (.int (s:Int)))) (λm hm=>by
   J bz.mp hm with hm|hm
   ·E h m hm
   ·K[ar.mp hm];E Zgw Й _) (by K[aw,f8];W)
  R⟨ms',x',y',(W7 (ds:=Ce (s+1) n) К hb).trans e,h1,by K[h2,aw,f8];W⟩
ЛGy(a b:Б SV):∀(n s:Г) (ms:А Int) (x:Int) (y:Б SV),(∀m∈ms,Num m)->ms.length+n<=1000->
  ∃(ms':А Int) (x':Int) (y':Б SV),Z7 (Zd 4) Gen.Qk (Ce s n) [a,b,aA (.ol (ms.map D.int)),aA (.fz (.int x)),y]=aA (.nx [a,b,aA (.ol (ms'.map D.int)),aA (.fz (.int x')),y'])/\(∀m∈ms',Num m)/\ms'.length=ms.length+n
 |0,s,ms,x,y,h,_=>⟨ms,x,y,rfl,h,rfl⟩
 |n+1,s,ms,x,y,h,hl=>by
  V z:ms.length<PySem.sizeLine:=Yd И;V hb:Gen.Qk [a,b,aA (.ol (ms.map D.int)),aA (.fz (.int x)),aA (.fz (.int (s:Int)))]=aA (.nx [a,b,aA (.ol ((ms++[(x+(s:Int)+1)*48271 % 2147483647*69621 % 2147483629]).map D.int)),aA (.fz (.int ((x+(s:Int)+1)*48271 % 2147483647))),aA (.fz (.int (s:Int)))]):=by V hm:=Xq (i:=x+(s:Int)+1) (j:=48271) И;V hm2:=Xq (i:=(x+(s:Int)+1)*48271 % 2147483647) (j:=69621) И;U Gen.Qk;simp[hm,hm2,z]
  O⟨ms',x',y',e,h1,h2⟩:=Gy a b n (s+1) (ms++[(x+(s:Int)+1)*48271 % 2147483647*69621 % 2147483629]) ((x+(s:Int)+1)*48271 % 2147483647) (aA (.fz (.int (s:Int)))) (λm hm=>by
   J bz.mp hm with hm|hm
   ·E h m hm
   ·K[ar.mp hm];E Zgw Й _) (by K[aw,f8];W)
  R⟨ms',x',y',(W7 (ds:=Ce (s+1) n) К hb).trans e,h1,by K[h2,aw,f8];W⟩
ЛIh(c:Int)(n:Г)(h:n<=1000):∃ms:А Int,Gen.Ym [.int c,.int (n:Int)]=aA (.ol (ms.map D.int))/\(∀m∈ms,Num m)/\ms.length=n:=by
 V g1:Mi (n:Int):=Uv И;V et:((n:Int)).toNat=n:=by W
 B hc:c % 2=1
 ·O⟨ms,x',y',e,h1,h2⟩:=Gx (aA (.fz (.int c))) (aA (.fz (.int (n:Int)))) n 0 [] (c / 2) aB (λ_ h=>nomatch h) (by L h);R⟨ms,?_,h1,by L h2⟩;simp only[List.map_nil]at e;U Gen.Ym Gen.Jh;simp[-Z7,g1,et,Qp,e,hc]
 ·O⟨ms,x',y',e,h1,h2⟩:=Gy (aA (.fz (.int c))) (aA (.fz (.int (n:Int)))) n 0 [] (c / 2 % 2147483647) aB (λ_ h=>nomatch h) (by L h);R⟨ms,?_,h1,by L h2⟩;simp only[List.map_nil]at e;U Gen.Ym Gen.Jh;simp[-Z7,g1,et,Qp,e,hc]
ЛZgx{w:Str}(h:Nam w):w≠J3:=λe=>(h.no 105 (by K[e];decide+kernel)).1 rfl
аPS:=А (Str×Str)
аIi(ps:PS):А L2.Key:=Yt (ps.map (·.1))
аTs(ps:PS):А D:=(ps.map (·.2)).map D.str
аnS(n:Г):Str:=Str.ofString (toString ((n:Г):Int))
аITS:Str:=Str.ofString "It's "
МitT(n:Г):Str:=ITS++nS n
ЛZok:∀n<10,(nS n).length<=2:=by decide+kernel
ЛZjv:ITS.length=5:=by decide+kernel
ЛM9{ms:А Int}{j:Г}(h:j<ms.length):L2.atI (ms.map D.int) (j:Int)=aA (.int ms[j]):=En _ _ _ (by K[az,av h];rfl)
аoSt(A0 A1 A2 A4 A5 A6:Б SV)(wd:Г)(ms:А Int)(ps:PS)(x9 x10:Б SV):Yk:=[A0,A1,A2,aA (.fz (.int (wd:Int))),A4,A5,A6,aA (.ol (ms.map D.int)),aA (.oK (Ii ps) (Ts ps)),x9,x10]
ЛZgy(A0 A1 A2 A4 A5 A6:Б SV)(wd:Г)(h2:2<=wd)(h10:wd<=10)(ms:А Int)(hl:ms.length=7)(ps:PS)(hp:ps.length<=10)(j:Г)(hj:j<3)(f:Str)(hf:f∉ps.map (·.1)):∃ps',(ps'=ps\/∃n<10,ps'=ps++[(f,itT n)])/\
  Gen.Y9 (oSt A0 A1 A2 A4 A5 A6 wd ms ps (aA (.fz (.int (j:Int)))) (aA (.fz (.str f))))=aA (.nx (oSt A0 A1 A2 A4 A5 A6 wd ms ps' (aA (.fz (.int (j:Int)))) (aA (.fz (.str f))))):=by
 V a1:=M9 (ms:=ms) (j:=j) И;V a2:=M9 (ms:=ms) (j:=3+j) И;K[show(((3+j:Г)):Int)=3+(j:Int) by W]at a2;generalize ms[j]'И=x at a1;generalize ms[3+j]'И=y at a2;B h:0<x % 4
 ·V y0:0<=y % (wd:Int):=f9 _ И;V y1:y % (wd:Int)<(wd:Int):=d8 _ И;obtain⟨n,hn⟩:∃n:Г,(n:Int)=y % (wd:Int):=⟨(y % (wd:Int)).toNat,by W⟩
  V n10:n<10:=by W
  R⟨ps++[(f,itT n)],.inr ⟨n,n10,rfl⟩,?_⟩;V nl:=Zok n n10;V l1:ITS.length+(nS n).length<=PySem.sizeLine:=Qw (by K[Zjv];W);V pp:Wv (Ii ps) (Ts ps) (d3 f) (.str (ITS++nS n))=(Ii (ps++[(f,itT n)]),Ts (ps++[(f,itT n)])):=by U Ii Ts itT;K[Eo,Ep hf];simp
  V z:(Ts ps).length<PySem.sizeLine:=Yd (by simp;W);V w0:(0:Int)<(wd:Int):=by W
  V w1:0<wd:=by W
  V w2:(wd:Int)<1073741824:=by W
  V g1:((n:Г):Int).natAbs.log2<1920:=by R ib (Nat.log2_le_self _) ?_;W
  V sd:Zb0 [.int (n:Int)]=aA (.fz (.str (nS n))):=by show(if((n:Г):Int).natAbs.log2<1920 then _ else _)=_;K[Е g1]
  U Gen.Y9 oSt;G Ii (ps++[(f,itT n)])=KK;G Ts (ps++[(f,itT n)])=VV;G Ii ps=KP;G Ts ps=VP;G ms.map D.int=MS;G nS n=NS;simp[h,a1,a2,w0,w1,w2,<-hn,l1,sd,pp,z,-Wv,-Zb0]
 ·R⟨ps,.inl rfl,?_⟩;U Gen.Y9 oSt;G Ii ps=KP;G Ts ps=VP;G ms.map D.int=MS;simp[h,a1]
structure Own(F:А Str)(ps:PS):В where
 nd:(ps.map (·.1)).Nodup
 all:∀p∈ps,p.1∈F/\∃n<10,p.2=itT n
ЛVk(F:А Str)(hF:F.length=3)(A0 A1 A2 A4 A5 A6:Б SV)(wd:Г)(h2:2<=wd)(h10:wd<=10)(ms:А Int)(hl:ms.length=7):∀(xs:А Str) (j:Г) (ps:PS) (x9 x10:Б SV),(ps.map (·.1)++xs).Nodup->Own F ps->j+xs.length<=3->ps.length<=j->(∀x∈xs,x∈F)->∃ps' y9 y10,Own F ps'/\ps'.length<=3/\
  Z7 (Wj 2 (Zt (Zd 9) (Zt (Zd 10) Wi))) Gen.Y9 (((xs.map D.str).zipIdx j).map λp=>D.tup [.int (p.2:Г),p.1]) (oSt A0 A1 A2 A4 A5 A6 wd ms ps x9 x10)=aA (.nx (oSt A0 A1 A2 A4 A5 A6 wd ms ps' y9 y10))
 | [],j,ps,x9,x10,_,ow,hj,hp,_=>⟨ps,x9,x10,ow,by simp at hj;W,by simp⟩
 |f::xs,j,ps,x9,x10,nd,ow,hj,hp,hx=>by
  K[bf]at hj;V hf:f∉ps.map (·.1):=λz=>(dq.mp nd).2.2 _ z f af rfl;O⟨ps1,o1,t⟩:=Zgy A0 A1 A2 A4 A5 A6 wd h2 h10 ms hl ps И j И f hf;V o2:(ps1.map (·.1)++xs).Nodup/\Own F ps1/\ps1.length<=j+1:=by
   J o1 with z|⟨n,hn,z⟩
   ·Q z;E⟨nd.sublist (List.Sublist.append (List.Sublist.refl _) (List.sublist_cons_self _ _)),ow,by W⟩
   ·Q z;V e:(ps++[(f,itT n)]).map (·.1)=ps.map (·.1)++[f]:=by simp
    V nd':(ps.map (·.1)++[f]++xs).Nodup:=by K[gp];E nd
    R⟨by K[e];E nd',⟨by K[e];E(dq.mp nd').1,λp hp'=>?_⟩,by simp;W⟩;J bz.mp hp' with z|z
    ·E ow.all p z
    ·K[ar.mp z];E⟨hx f af,n,hn,rfl⟩
  O⟨ps',y9,y10,ow',l',ih⟩:=Vk F hF A0 A1 A2 A4 A5 A6 wd h2 h10 ms hl xs (j+1) ps1 (aA (.fz (.int (j:Int)))) (aA (.fz (.str f))) o2.1 o2.2.1 И o2.2.2 λx h=>hx x (ao _ h);R⟨ps',y9,y10,ow',l',?_⟩;K[bc,List.zipIdx_cons,bc];U Z7;K[show(Wj 2 (Zt (Zd 9) (Zt (Zd 10) Wi))).run (.tup [.int (j:Г),.str f]) (oSt A0 A1 A2 A4 A5 A6 wd ms ps x9 x10)=aA (oSt A0 A1 A2 A4 A5 A6 wd ms ps (aA (.fz (.int (j:Int)))) (aA (.fz (.str f))))from by simp];dsimp only[c6];K[t];E ih
аwkP(key kd:Str)(ps:PS):Wk:=⟨key,kd,ps.map (·.1),ps.map (·.2)⟩
аZjx:Str:=Str.ofString "book"
аZjy:Str:=Str.ofString "part"
structure WP(F:А Str)(w:Wk):В where
 ok:WkOk w
 kd:w.kind=Zjx\/w.kind=Zjy
 all:∃ps,Own F ps/\w.fs=ps.map (·.1)/\w.ts=ps.map (·.2)
ЛZjz(i:Int):∃kd,(kd=Zjx\/kd=Zjy)/\L2.atI [D.str Zjx,D.str Zjy] (i % 2)=aA (.str kd):=by
 V :i % 2=0\/i % 2=1:=by W
 J this with h|h<;> K[h]
 ·E⟨_,.inl rfl,rfl⟩
 ·E⟨_,.inr rfl,rfl⟩
аdP(ws:А Wk):А L2.Key×А D:=(Yt (ws.map Wk.key),ws.map Wk.d)
аsSt(ks F:А Str)(cs:А Int)(wd:Г)(dss:А (А L2.Key×А D))(x5 x6 x7 x8 x9 x10:Б SV):Yk:=[aA (.fz (.lst (ks.map D.str))),aA (.fz (.lst (F.map D.str))),aA (.fz (.lst (cs.map D.int))),aA (.fz (.int (wd:Int))),aA (.oD dss),x5,x6,x7,x8,x9,x10]
ЛRi(ks F:А Str)(hF:F.length=3)(nF:F.Nodup)(hN:∀f∈F,Nam f)(cs:А Int)(wd:Г)(h2:2<=wd)(h10:wd<=10)(dss:А (А L2.Key×А D))(i:Г)(ws:А Wk)(k:Г)(c:Int)(hi:L2.ixN dss.length ((k:Int) % 3)=aA i)(hd:dss[i]? =aA (dP ws))(key:Str)(hk:L2.atI (ks.map D.str) ((k:Int) / 3)=aA (.str key))(hkey:key∉ws.map Wk.key)(hw:ws.length<=100)(x7 x8 x9 x10:Б SV):∃w y7 y8 y9 y10,w.key=key/\WP F w/\
  Gen.Wa (sSt ks F cs wd dss (aA (.fz (.int (k:Int)))) (aA (.fz (.int c))) x7 x8 x9 x10)=aA (.nx (sSt ks F cs wd (dss.set i (dP (ws++[w]))) (aA (.fz (.int (k:Int)))) (aA (.fz (.int c))) y7 y8 y9 y10)):=by
 O⟨ms,en,hm,ml⟩:=Ih c 7 И;O⟨ps,y9,y10,ow,pl,lo⟩:=Vk F hF (aA (.fz (.lst (ks.map D.str)))) (aA (.fz (.lst (F.map D.str)))) (aA (.fz (.lst (cs.map D.int)))) (aA (.oD dss)) (aA (.fz (.int (k:Int)))) (aA (.fz (.int c))) wd h2 h10 ms ml F 0 [] x9 x10 (by L nF) ⟨by simp,λ_ z=>nomatch z⟩ И К (λ_ h=>h);V lo:Z7 (Wj 2 (Zt (Zd 9) (Zt (Zd 10) Wi))) Gen.Y9 (Js (F.map D.str)) _=_:=lo;V a6:=M9 (ms:=ms) (j:=6) И;generalize ms[6]'И=x at a6;O⟨kd,hkd,ak⟩:=Zjz x;V zw:(ws.map Wk.d).length<PySem.sizeLine:=Yd (by K[aq];W);V f:Wv (Yt (ws.map Wk.key)) (ws.map Wk.d) (d3 key) (.tup [.str kd,.dK (Ii ps) (Ts ps)])=(Yt ((ws++[wkP key kd ps]).map Wk.key),(ws++[wkP key kd ps]).map Wk.d):=by K[Eo,Ep hkey];simp[Wk.d,Za1]
 R⟨wkP key kd ps,aA (.ol (ms.map D.int)),aA (.fz (.dK (Ii ps) (Ts ps))),y9,y10,rfl,⟨⟨by simp,ow.nd,by simp;W,λz=>?_⟩,hkd,ps,ow,rfl,rfl⟩,?_⟩
 ·O⟨p,hp,e⟩:=ax.mp z;V :=(ow.all p hp).1;K[e]at this;E Zgx (hN _ this) rfl
 ·U Gen.Wa sSt;U oSt at lo;K[show Ii ([]:PS)=[]from rfl,show Ts ([]:PS)=[]from rfl]at lo;U dP at hd⊢;G ((ws++[wkP key kd ps]).map Wk.d)=WD';G Yt ((ws++[wkP key kd ps]).map Wk.key)=WK';G Ii ps=K1;G Ts ps=V1;G ws.map Wk.d=WD;G Yt (ws.map Wk.key)=WK;G F.map D.str=FD;G cs.map D.int=CD;G ks.map D.str=KD;G ms.map D.int=MS;V en:Gen.Ym [.int c,.int 7]=_:=en;V a6:L2.atI MS 6=_:=a6;simp[Vb,en,lo,s2,a6,ak,hi,hk,hd,f,zw,-Z7,-Wv]
ЛRj{ks:А Str}(nd:ks.Nodup){n:Г}(h:n<ks.length):ks[n]∉ks.take n:=λz=>by V e:ks=ks.take n++ks.drop n:=(List.take_append_drop n ks).symm;K[e]at nd;R(dq.mp nd).2.2 _ z ks[n] ?_ rfl;K[List.drop_eq_getElem_cons h];E af
structure Sh(F ks:А Str)(n:Г)(ws:А Wk):В where
 key:ws.map Wk.key=ks.take n
 ok:∀w∈ws,WP F w
ЛSh.add{F ks:А Str}{n:Г}{ws:А Wk}(s:Sh F ks n ws)(h:n<ks.length){w:Wk}(e:w.key=ks[n])(p:WP F w):Sh F ks (n+1) (ws++[w]):=
 ⟨by K[b9,s.key,List.take_succ,av h,<-e];rfl,λv hv=>by
  J bz.mp hv with z|z
  ·E s.ok v z
  ·K[ar.mp z];E p⟩
ЛIj(ks F:А Str)(hk:ks.length=4)(nk:ks.Nodup)(hF:F.length=3)(nF:F.Nodup)(hN:∀f∈F,Nam f)(CS:А Int)(wd:Г)(h2:2<=wd)(h10:wd<=10):∀(cs:А Int) (k:Г) (A B C:А Wk) (x5 x6 x7 x8 x9 x10:Б SV),k+cs.length<=9->Sh F ks ((k+2) / 3) A->Sh F ks ((k+1) / 3) B->Sh F ks (k / 3) C->∃(A' B' C':А Wk) (y5 y6 y7 y8 y9 y10:Б SV),Sh F ks ((k+cs.length+2) / 3) A'/\Sh F ks ((k+cs.length+1) / 3) B'/\Sh F ks ((k+cs.length) / 3) C'/\
  Z7 (Wj 2 (Zt (Zd 5) (Zt (Zd 6) Wi))) Gen.Wa (((cs.map D.int).zipIdx k).map λp=>D.tup [.int (p.2:Г),p.1]) (sSt ks F CS wd [dP A,dP B,dP C] x5 x6 x7 x8 x9 x10)=aA (.nx (sSt ks F CS wd [dP A',dP B',dP C'] y5 y6 y7 y8 y9 y10))
 | [],k,A,B,C,x5,x6,x7,x8,x9,x10,_,sA,sB,sC=>⟨A,B,C,x5,x6,x7,x8,x9,x10,sA,sB,sC,by simp⟩
 |c::cs,k,A,B,C,x5,x6,x7,x8,x9,x10,hl,sA,sB,sC=>by
  K[bf]at hl;V hn:k / 3<ks.length:=by W
  V ak:L2.atI (ks.map D.str) ((k:Int) / 3)=aA (.str ks[k / 3]):=by K[show(k:Int) / 3=((k / 3:Г):Int) by W];E En _ _ _ (by K[az,av hn];rfl)
  V small:∀{n:Г} {ws:А Wk},Sh F ks n ws->ws.length<=100:=fun{n ws} s=>by V :=congrArg List.length s.key;K[aq,gw]at this;W
  V run:∀w,(Wj 2 (Zt (Zd 5) (Zt (Zd 6) Wi))).run (.tup [.int (k:Г),.int c]) (sSt ks F CS wd w x5 x6 x7 x8 x9 x10)=aA (sSt ks F CS wd w (aA (.fz (.int (k:Int)))) (aA (.fz (.int c))) x7 x8 x9 x10):=λw=>by simp
  V main:∃A1 B1 C1 z7 z8 z9 z10,Sh F ks ((k+1+2) / 3) A1/\Sh F ks ((k+1+1) / 3) B1/\Sh F ks ((k+1) / 3) C1/\Gen.Wa (sSt ks F CS wd [dP A,dP B,dP C] (aA (.fz (.int (k:Int)))) (aA (.fz (.int c))) x7 x8 x9 x10)=aA (.nx (sSt ks F CS wd [dP A1,dP B1,dP C1] (aA (.fz (.int (k:Int)))) (aA (.fz (.int c))) z7 z8 z9 z10)):=by
   V three:k % 3=0\/k % 3=1\/k % 3=2:=by W
   J three with r|r|r
   ·K[show(k+2) / 3=k / 3 by W]at sA;O⟨w,z7,z8,z9,z10,ek,wp,t⟩:=Ri ks F hF nF hN CS wd h2 h10 [dP A,dP B,dP C] 0 A k c (by K[show(k:Int) % 3=0 by W];rfl) rfl ks[k / 3] ak (by K[sA.key];E Rj nk hn) (small sA) x7 x8 x9 x10;E⟨A++[w],B,C,z7,z8,z9,z10,by K[show(k+1+2) / 3=k / 3+1 by W];E sA.add hn ek wp,by K[show(k+1+1) / 3=(k+1) / 3 by W];E sB,by K[show(k+1) / 3=k / 3 by W];E sC,t⟩
   ·K[show(k+1) / 3=k / 3 by W]at sB;O⟨w,z7,z8,z9,z10,ek,wp,t⟩:=Ri ks F hF nF hN CS wd h2 h10 [dP A,dP B,dP C] 1 B k c (by K[show(k:Int) % 3=1 by W];rfl) rfl ks[k / 3] ak (by K[sB.key];E Rj nk hn) (small sB) x7 x8 x9 x10;E⟨A,B++[w],C,z7,z8,z9,z10,by K[show(k+1+2) / 3=(k+2) / 3 by W];E sA,by K[show(k+1+1) / 3=k / 3+1 by W];E sB.add hn ek wp,by K[show(k+1) / 3=k / 3 by W];E sC,t⟩
   ·O⟨w,z7,z8,z9,z10,ek,wp,t⟩:=Ri ks F hF nF hN CS wd h2 h10 [dP A,dP B,dP C] 2 C k c (by K[show(k:Int) % 3=2 by W];rfl) rfl ks[k / 3] ak (by K[sC.key];E Rj nk hn) (small sC) x7 x8 x9 x10;E⟨A,B,C++[w],z7,z8,z9,z10,by K[show(k+1+2) / 3=(k+2) / 3 by W];E sA,by K[show(k+1+1) / 3=(k+1) / 3 by W];E sB,by K[show(k+1) / 3=k / 3+1 by W];E sC.add hn ek wp,t⟩
  O⟨A1,B1,C1,z7,z8,z9,z10,s1',s2',s3',t⟩:=main;O⟨A',B',C',y5,y6,y7,y8,y9,y10,u1,u2,u3,ih⟩:=Ij ks F hk nk hF nF hN CS wd h2 h10 cs (k+1) A1 B1 C1 (aA (.fz (.int (k:Int)))) (aA (.fz (.int c))) z7 z8 z9 z10 И s1' s2' s3';R⟨A',B',C',y5,y6,y7,y8,y9,y10,by K[bf,show k+(cs.length+1)+2=k+1+cs.length+2 by W];E u1,by K[bf,show k+(cs.length+1)+1=k+1+cs.length+1 by W];E u2,by K[bf,show k+(cs.length+1)=k+1+cs.length by W];E u3,?_⟩;K[bc,List.zipIdx_cons,bc];U Z7;K[run];dsimp only[c6];K[t];E ih
ЛVl(ks F:А Str)(hk:ks.length=4)(nk:ks.Nodup)(hF:F.length=3)(nF:F.Nodup)(hN:∀f∈F,Nam f)(cs:А Int)(hc:cs.length<=9)(wd:Г)(h2:2<=wd)(h10:wd<=10):∃A B C:А Wk,(∀ws∈[A,B,C],(∀w∈ws,WP F w)/\(ws.map Wk.key).Nodup/\ws.length<=3)/\
  Gen.Qg [.lst (ks.map D.str),.lst (F.map D.str),.lst (cs.map D.int),.int (wd:Int)]=aA (.fz (.lst [Zz A,Zz B,Zz C])):=by
 V nil:∀n:Г,n=0->Sh F ks n []:=λn h=>⟨by K[h];rfl,λ_ h=>nomatch h⟩
 O⟨A,B,C,y5,y6,y7,y8,y9,y10,sA,sB,sC,l⟩:=Ij ks F hk nk hF nF hN cs wd h2 h10 cs 0 [] [] [] aB aB aB aB aB aB И (nil _ И) (nil _ И) (nil _ И);V fin:∀{n:Г} {ws:А Wk},n<=3->Sh F ks n ws->(∀w∈ws,WP F w)/\(ws.map Wk.key).Nodup/\ws.length<=3:=fun{n ws} hn s=>⟨s.ok,by K[s.key];E nk.sublist (List.take_sublist _ _),by
  V :=congrArg List.length s.key;K[aq,gw]at this;W⟩
 R⟨A,B,C,λws h=>?_,?_⟩
 ·simp only[bx,List.not_mem_nil,or_false]at h;J h with rfl|rfl|rfl
  ·E fin И sA
  ·E fin И sB
  ·E fin И sC
 ·K[show(((cs.map D.int).zipIdx 0).map λp=>D.tup [.int (p.2:Г),p.1])=Js (cs.map D.int)from rfl]at l;U sSt dP at l;V l:Z7 (Wj 2 (Zt (Zd 5) (Zt (Zd 6) Wi))) Gen.Wa (Js (cs.map D.int)) [aA (.fz (.lst (ks.map D.str))),aA (.fz (.lst (F.map D.str))),aA (.fz (.lst (cs.map D.int))),aA (.fz (.int (wd:Int))),aA (.oD [([],[]),([],[]),([],[])]),aB,aB,aB,aB,aB,aB]=_:=l;U Gen.Qg Gen.O0 Zz;G Yt (A.map Wk.key)=WA;G A.map Wk.d=DA;G Yt (B.map Wk.key)=WB;G B.map Wk.d=DB;G Yt (C.map Wk.key)=WC;G C.map Wk.d=DC;G ks.map D.str=KD;G F.map D.str=FD;G cs.map D.int=CD;simp[l,-Z7]
ЛLe(F:А Str)(hF:F.length=3)(A1 A3:Б SV)(ms:А Int)(hl:ms.length=10)(k:Г)(hk:k<=2):∀(n s:Г) (r:А Str) (x6:Б SV),s+n<=2->r.length=s->∃(r':А Str) (y6:Б SV),r'.length=s+n/\
  Z7 (Zd 6) Gen.Ji (Ce s n) [aA (.fz (.lst (F.map D.str))),A1,aA (.ol (ms.map D.int)),A3,aA (.fz (.int (k:Int))),aA (.ol (r.map D.str)),x6]=aA (.nx [aA (.fz (.lst (F.map D.str))),A1,aA (.ol (ms.map D.int)),A3,aA (.fz (.int (k:Int))),aA (.ol (r'.map D.str)),y6])
 |0,s,r,x6,_,hr=>⟨r,x6,by W,rfl⟩
 |n+1,s,r,x6,hs,hr=>by
  V a:=M9 (ms:=ms) (j:=2+3*k+s) И;K[show((2+3*k+s:Г):Int)=2+3*(k:Int)+(s:Int) by W]at a;generalize ms[2+3*k+s]'И=y at a;V m:=Xr (i:=3) (j:=(k:Int)) И;V y0:0<=y % 4:=f9 _ Й;V y1:y % 4<4:=d8 _ Й;obtain⟨i,hi⟩:∃i:Г,(i:Int)=y % 4:=⟨(y % 4).toNat,by W⟩
  V fl:(F++[J3]).length=4:=by simp[hF]
  V at4:L2.atI (F.map D.str++[D.str J3]) (y % 4)=aA (.str ((F++[J3])[i]'И)):=by
   K[<-hi];V e:F.map D.str++[D.str J3]=(F++[J3]).map D.str:=by simp
   K[e];E En _ _ _ (by K[az,av И];rfl)
  generalize (F++[J3])[i]'И=f at at4;V zF:(F.map D.str).length+1<=PySem.sizeLine:=Qw (by K[aq];W);V zr:r.length<PySem.sizeLine:=Yd И;O⟨r',y6,l',ih⟩:=Le F hF A1 A3 ms hl k hk n (s+1) (r++[f]) (aA (.fz (.int (s:Int)))) И (by simp[hr]);R⟨r',y6,by W,?_⟩;V hb:Gen.Ji [aA (.fz (.lst (F.map D.str))),A1,aA (.ol (ms.map D.int)),A3,aA (.fz (.int (k:Int))),aA (.ol (r.map D.str)),aA (.fz (.int (s:Int)))]=aA (.nx [aA (.fz (.lst (F.map D.str))),A1,aA (.ol (ms.map D.int)),A3,aA (.fz (.int (k:Int))),aA (.ol ((r++[f]).map D.str)),aA (.fz (.int (s:Int)))]):=by U Gen.Ji;G F.map D.str=FD;G ms.map D.int=MS;simp[a,m,at4,zF,zr,s1]
  E(W7 (ds:=Ce (s+1) n) К hb).trans ih
ЛIk(F:А Str)(hF:F.length=3)(A1:Б SV)(ms:А Int)(hl:ms.length=10):∀(n s:Г) (rs:А (А Str)) (x4 x5 x6:Б SV),s+n<=3->rs.length=s->(∀r∈rs,r.length<=3)->∃(rs':А (А Str)) (y4 y5 y6:Б SV),rs'.length=s+n/\(∀r∈rs',r.length<=3)/\
  Z7 (Zd 4) Gen.Jj (Ce s n) [aA (.fz (.lst (F.map D.str))),A1,aA (.ol (ms.map D.int)),aA (.ol (rs.map Yr)),x4,x5,x6]=aA (.nx [aA (.fz (.lst (F.map D.str))),A1,aA (.ol (ms.map D.int)),aA (.ol (rs'.map Yr)),y4,y5,y6])
 |0,s,rs,x4,x5,x6,_,hr,h3=>⟨rs,x4,x5,x6,by W,h3,rfl⟩
 |n+1,s,rs,x4,x5,x6,hs,hr,h3=>by
  V a:=M9 (ms:=ms) (j:=1+3*s) И;K[show((1+3*s:Г):Int)=1+3*(s:Int) by W]at a;generalize ms[1+3*s]'И=y at a;V m:=Xr (i:=3) (j:=(s:Int)) И;V y0:0<=y % 2:=f9 _ Й;V y1:y % 2<2:=d8 _ Й;obtain⟨q,hq⟩:∃q:Г,(q:Int)=1+y % 2:=⟨(1+y % 2).toNat,by W⟩
  O⟨r,z6,rl,e⟩:=Le F hF A1 (aA (.ol (rs.map Yr))) ms hl s И q 0 [] x6 И rfl;V g1:Mi (q:Int):=Uv И;V et:((q:Int)).toNat=q:=by W
  V zr:rs.length<PySem.sizeLine:=Yd И;O⟨rs',y4,y5,y6,l',h3',ih⟩:=Ik F hF A1 ms hl n (s+1) (rs++[r]) (aA (.fz (.int (s:Int)))) (aA (.fz (.lst (r.map D.str)))) z6 И (by simp[hr]) (λv hv=>by
   J bz.mp hv with z|z
   ·E h3 v z
   ·K[ar.mp z,rl];W)
  R⟨rs',y4,y5,y6,by W,h3',?_⟩;V hb:Gen.Jj [aA (.fz (.lst (F.map D.str))),A1,aA (.ol (ms.map D.int)),aA (.ol (rs.map Yr)),aA (.fz (.int (s:Int))),x5,x6]=aA (.nx [aA (.fz (.lst (F.map D.str))),A1,aA (.ol (ms.map D.int)),aA (.ol ((rs++[r]).map Yr)),aA (.fz (.int (s:Int))),aA (.fz (.lst (r.map D.str))),z6]):=by K[List.map_nil]at e;U Gen.Jj;G F.map D.str=FD;G ms.map D.int=MS;simp[a,m,<-hq,g1,et,Qp,e,zr,-Z7]
  E(W7 (ds:=Ce (s+1) n) К hb).trans ih
ЛZcp(F:А Str)(hF:F.length=3)(c:Int):∃rs:А (А Str),rs.length<=3/\(∀r∈rs,r.length<=3)/\Gen.Ju [.lst (F.map D.str),.int c]=aA (.ol (rs.map Yr)):=by
 O⟨ms,en,hm,ml⟩:=Ih c 10 И;V a:=M9 (ms:=ms) (j:=0) И;generalize ms[0]'И=y at a;V y0:0<=y % 4:=f9 _ Й;V y1:y % 4<4:=d8 _ Й;obtain⟨q,hq⟩:∃q:Г,(q:Int)=y % 4:=⟨(y % 4).toNat,by W⟩
 O⟨rs,y4,y5,y6,rl,h3,e⟩:=Ik F hF (aA (.fz (.int c))) ms ml q 0 [] aB aB aB И rfl (λ_ h=>nomatch h);V g1:Mi (q:Int):=Uv И;V et:((q:Int)).toNat=q:=by W
 R⟨rs,by W,h3,?_⟩;K[List.map_nil]at e;V en:Gen.Ym [.int c,.int 10]=_:=en;V a:L2.atI (ms.map D.int) 0=_:=a;U Gen.Ju Gen.Cv;G F.map D.str=FD;G ms.map D.int=MS;simp[en,a,<-hq,g1,et,Qp,e,-Z7]
end My
namespace My
open DL PySem TT TX
ЛZgz{fs ts:А Str}(hl:fs.length=ts.length)(hk:J3∉fs)(kind f:Str):W2 (fs++[J3]) (ts++[kind]) f=if f=J3 then aA kind else W2 fs ts f:=by
 U W2;K[List.zip_append hl,List.lookup_append];show((fs.zip ts).lookup f).or (List.lookup f [(J3,kind)])=_;K[im];B h:f=J3
 ·Q h;V :(fs.zip ts).lookup J3=aB:=by
   rcases h:(fs.zip ts).lookup J3 with _|v
   ·rfl
   ·O⟨l1,l2,e,_⟩:=List.lookup_eq_some_iff.mp h;E absurd (List.of_mem_zip (show(J3,v)∈fs.zip ts by K[e];simp)).1 hk
  K[this];simp
 ·K[Д h,beq_eq_false_iff_ne.mpr h];simp
Лpour(P Q:А HP)(T:Tot (P++Q)):∃out,IsPool (λh=>h∈P\/h∈Q) out/\(∀h∈out,HPok h)/\out.length<=P.length+Q.length/\Gen.Wg [.lst (P.map Z0),.lst (Q.map Z0)]=aA (.ol (out.map Z0)):=by
 O⟨out,p,ok,len,j⟩:=joined (P++Q) T;V pq:∀a,a∈P++Q↔(a∈P\/a∈Q):=λa=>bz;V e:(λh=>h∈P++Q)=λh=>h∈P\/h∈Q:=funext λa=>propext (pq a);V p':IsPool (λh=>h∈P\/h∈Q) out:=by K[<-e];E p
 R⟨out,p',ok,by K[aw]at len;E len,?_⟩;V z:(P.map Z0).length+(Q.map Z0).length<=PySem.sizeLine:=Qw (by V :=T.all.len;K[aw]at this;K[aq,aq];W);K[b9]at j;U Gen.Wg Gen.Hf;G out.map Z0=OUT;G P.map Z0=PD;G Q.map Z0=QD;simp[j,z]
ЛZcq{S T:HP->В}{P Q:А HP}(nS:∀a,S a->a.ns≠[])(nT:∀a,T a->a.ns≠[])(p:IsPool S P)(q:IsPool T Q)(t:Tot (P++Q)):∃out,IsPool (λa=>S a\/T a) out/\(∀h∈out,HPok h)/\out.length<=P.length+Q.length/\Gen.Wg [.lst (P.map Z0),.lst (Q.map Z0)]=aA (.ol (out.map Z0)):=by O⟨out,r,ok,len,e⟩:=pour P Q t;E⟨out,p.pour nS nT q r,ok,len,e⟩
ЛZg0(F:А Str)(hF:F.length=3):∃W:А NK,W.length<64/\∀(b:Str) (w:Wk),WP F w->∀x∈w.tri b,Y5 x∈W:=by
 R⟨(F.flatMap λf=>(cq 10).map λn=>(.inl [f,itT n]:NK))++[.inl [J3,Zjx],.inl [J3,Zjy]],?_,λb w p x hx=>?_⟩
 ·K[aw,List.length_flatMap];V :=W3 (λf=>((cq 10).map λn=>(.inl [f,itT n]:NK)).length) 10 F λf _=>by simp
  simp only[bf,List.length_nil];W
 ·O⟨f,hf,rfl⟩:=ax.mp hx;O⟨hf,hn⟩:=List.mem_filter.mp hf;V vk:=Zgz p.ok.len p.ok.nk w.kind f;show(.inl [f,w.val f]:NK)∈_;U Wk.val Wk.at' Wk.vt;K[vk];B e:f=J3
  ·K[Е e,e];R bh _ ?_;show(.inl [J3,w.kind]:NK)∈_;J p.kd with z|z<;> K[z]<;> simp
  ·K[Д e];V hf:f∈w.fs:=(bz.mp hf).resolve_right λz=>e (ar.mp z);O⟨v,hv⟩:=Option.isSome_iff_exists.mp ((Ic w.fs w.ts f p.ok.len).mp hf);K[hv];O⟨ps,ow,e1,e2⟩:=p.all;U W2 at hv;K[e1,e2,List.zip_map',show(ps.map λp=>(p.1,p.2))=ps by simp]at hv;O⟨l1,l2,el,_⟩:=List.lookup_eq_some_iff.mp hv;O⟨h1,n,h10,h2⟩:=ow.all (f,v) (by K[el];simp);V h2:v=itT n:=h2;R bj _ (gh.mpr ⟨f,h1,ax.mpr ⟨n,cu.mpr h10,?_⟩⟩);K[h2];rfl
ЛZol(rs:А (А Str))(w:Wk):∀m∈w.marks rs,isM m:=λm hm=>by O⟨j,l,e,_⟩:=Ie _ _ _ _ m hm;E⟨j,l,e⟩
ЛZg1{U V W:А NK}{b:Str}{rs:А (А Str)}{ws:А Wk}(hU:∀w∈ws,C6 b w.key∈U)(hV:∀w∈ws,∀m∈w.marks rs,m∈V)(hW:∀w∈ws,∀x∈w.tri b,Y5 x∈W):Uni U V W (· ∈ws.map (Qt b rs)):=by
 R⟨λa h=>?_,λa h k hk=>?_,λa h k hk=>?_,λa h x hx=>?_⟩
 ·O⟨w,hw,rfl⟩:=ax.mp h;E λz=>nomatch z
 ·O⟨w,hw,rfl⟩:=ax.mp h;K[ar.mp (show k∈[C6 b w.key]from hk)];E⟨hU w hw,b,[w.key],rfl⟩
 ·O⟨w,hw,rfl⟩:=ax.mp h;E⟨hV w hw k hk,Zol rs w k hk⟩
 ·O⟨w,hw,rfl⟩:=ax.mp h;R⟨hW w hw x hx,λk hk=>?_⟩;O⟨f,_,rfl⟩:=ax.mp (show x∈w.tri b from hx);E hk
structure PL(U V W:А NK)(S:HP->В)(P:А HP):В where
 p:IsPool S P
 u:Uni U V W S
 ok:∀h∈P,HPok h
аYp(P:А HP):D:=.lst (P.map Z0)
section
variable{U V W:А NK}(hU:U.length<=31)(hV:V.length<=31)(hW:W.length<64)
include hU hV hW
ЛVm{S T:HP->В}{P Q:А HP}(p:PL U V W S P)(q:PL U V W T Q):∃R,PL U V W (λa=>S a\/T a) R/\Gen.Wg [Yp P,Yp Q]=aA (.ol (R.map Z0)):=by O⟨R,r,ok,_,e⟩:=Zcq p.u.ne q.u.ne p.p q.p (Zgv p.u q.u p.p q.p hU hV hW);E⟨R,⟨r,p.u.or q.u,ok⟩,e⟩
ЛMe{S T A:HP->В}{P Q O:А HP}(p:PL U V W S P)(q:PL U V W T Q)(o:PL U V W A O)(e:∀a,(S a\/T a)↔A a):Gen.Wg [Yp P,Yp Q]=aA (.ol (O.map Z0)):=by O⟨R,r,h⟩:=Vm hU hV hW p q;K[h,r.p.uniq o.p e]
ЛZg2{A:HP->В}{O:А HP}(o:PL U V W A O){S T R:HP->В}{P Q N:А HP}(p:PL U V W S P)(q:PL U V W T Q)(n:PL U V W R N)(e:∀a,A a↔(S a\/T a\/R a))(A0 A1 A2 A3:Б SV)(L:А D)(hL:L.length<=100):
  Gen.Jv [A0,A1,A2,A3,aA (.ol L),aA (.fz (Yp P)),aA (.fz (Yp Q)),aA (.fz (Yp N))]=aA (.nx [A0,A1,A2,A3,aA (.ol (L++[Yp O,Yp O])),aA (.fz (Yp P)),aA (.fz (Yp Q)),aA (.fz (Yp N))]):=by
 O⟨X,x,h1⟩:=Vm hU hV hW p q;O⟨Y,y,h3⟩:=Vm hU hV hW q n;V h2:=Me hU hV hW x n o λa=>by K[e];E or_assoc
 V h4:=Me hU hV hW p y o λa=>by K[e]
 V z1:L.length<PySem.sizeLine:=Yd И;V z2:L.length+1<PySem.sizeLine:=Yd И;U Gen.Jv Yp;U Yp at h1 h2 h3 h4;G O.map Z0=OD;G P.map Z0=PD;G Q.map Z0=QD;G N.map Z0=ND;G X.map Z0=XD;G Y.map Z0=YD;simp[h1,h2,h3,h4,z1,z2]
ЛVn{A:HP->В}{O:А HP}(o:PL U V W A O)(A0 A1 A2 A3:Б SV):∀(ts:А (А HP×А HP×А HP)) (m:Г) (x5 x6 x7:Б SV),(∀t∈ts,∃S T R:HP->В,PL U V W S t.1/\PL U V W T t.2.1/\PL U V W R t.2.2/\∀a,A a↔(S a\/T a\/R a))->m+2*ts.length<=50->∃y5 y6 y7,
  Z7 (Wj 3 (Zt (Zd 5) (Zt (Zd 6) (Zt (Zd 7) Wi)))) Gen.Jv (ts.map λt=>.tup [Yp t.1,Yp t.2.1,Yp t.2.2]) [A0,A1,A2,A3,aA (.ol (dn m (Yp O))),x5,x6,x7]=aA (.nx [A0,A1,A2,A3,aA (.ol (dn (m+2*ts.length) (Yp O))),y5,y6,y7])
 | [],m,x5,x6,x7,_,_=>⟨x5,x6,x7,rfl⟩
 |t::ts,m,x5,x6,x7,h,hm=>by
  K[bf]at hm;O⟨S,T,R,p,q,n,e⟩:=h t af;V hb:=Zg2 hU hV hW o p q n e A0 A1 A2 A3 (dn m (Yp O)) (by K[List.length_replicate];W);V er:dn m (Yp O)++[Yp O,Yp O]=dn (m+2) (Yp O):=by K[show[Yp O,Yp O]=dn 2 (Yp O)from rfl,List.replicate_append_replicate]
  K[er]at hb;O⟨y5,y6,y7,ih⟩:=Vn o A0 A1 A2 A3 ts (m+2) (aA (.fz (Yp t.1))) (aA (.fz (Yp t.2.1))) (aA (.fz (Yp t.2.2))) (λt ht=>h t (ao _ ht)) И;K[show m+2+2*ts.length=m+2*(ts.length+1) by W]at ih;E⟨y5,y6,y7,(W7 К hb).trans ih⟩
ЛZj0{S T R:HP->В}{P Q N:А HP}(p:PL U V W S P)(q:PL U V W T Q)(n:PL U V W R N):∃O,PL U V W (λa=>S a\/T a\/R a) O/\Gen.Bb [.lst [Yp P,Yp Q,Yp N]]=aA (.ol (dn 12 (Yp O))):=by
 O⟨X,x,_⟩:=Vm hU hV hW q n;O⟨O,o,_⟩:=Vm hU hV hW p x;R⟨O,o,?_⟩;O⟨y5,y6,y7,l⟩:=Vn hU hV hW o (aA (.fz (.lst [Yp P,Yp Q,Yp N]))) (aA (.fz (Yp P))) (aA (.fz (Yp Q))) (aA (.fz (Yp N))) [(P,Q,N),(P,N,Q),(Q,P,N),(Q,N,P),(N,P,Q),(N,Q,P)] 0 aB aB aB (λt ht=>by
  simp only[bx,List.not_mem_nil,or_false]at ht;J ht with rfl|rfl|rfl|rfl|rfl|rfl
  ·E⟨S,T,R,p,q,n,λa=>by simp only[or_comm,or_left_comm,or_assoc]⟩
  ·E⟨S,R,T,p,n,q,λa=>by simp only[or_comm,or_left_comm,or_assoc]⟩
  ·E⟨T,S,R,q,p,n,λa=>by simp only[or_comm,or_left_comm,or_assoc]⟩
  ·E⟨T,R,S,q,n,p,λa=>by simp only[or_comm,or_left_comm,or_assoc]⟩
  ·E⟨R,S,T,n,p,q,λa=>by simp only[or_comm,or_left_comm,or_assoc]⟩
  ·E⟨R,T,S,n,q,p,λa=>by simp only[or_comm,or_left_comm,or_assoc]⟩) К
 simp only[bc,List.map_nil,List.replicate_zero,bf,List.length_nil]at l;V s6:6<=PySem.sizeLine:=by decide
 U Gen.Bb Gen.M0;G Yp P=PD;G Yp Q=QD;G Yp N=ND;G Yp O=OD;G dn 12 OD=RP;V l:Z7 (Wj 3 (Zt (Zd 5) (Zt (Zd 6) (Zt (Zd 7) Wi)))) Gen.Jv [.tup [PD,QD,ND],.tup [PD,ND,QD],.tup [QD,PD,ND],.tup [QD,ND,PD],.tup [ND,PD,QD],.tup [ND,QD,PD]] [aA (.fz (.lst [PD,QD,ND])),aA (.fz PD),aA (.fz QD),aA (.fz ND),aA (.ol []),aB,aB,aB]=aA (.nx [aA (.fz (.lst [PD,QD,ND])),aA (.fz PD),aA (.fz QD),aA (.fz ND),aA (.ol RP),y5,y6,y7]):=l;simp[l,s3,s6,-Z7]
end
end My
namespace My
open DL PySem TT TX
ЛZom{ks out:А NK}(h:Cc ks)(nd:ks.Nodup)(hl:ks.length<64)(hm:∀x,x∈out↔x∈ks)(hs:out.Pairwise kLt):TX.Tn (ks.map Zn) (ks.map Zn)=aA (.ol (out.map Zn)):=by
 V nd':out.Nodup:=hs.imp fun{a b} z e=>by K[e]at z;E fg _ z
 V pm:out.Perm ks:=(List.perm_ext_iff_of_nodup nd' nd).mpr hm;R Zat (Kx h nd) (by K[aq];E hl) ⟨pm.map _,List.pairwise_map.mpr ?_⟩;R(gz.mp hs).imp fun{a b} ⟨ha,hb,z⟩=>?_;K[Zas 12 (h.one ((hm b).mp hb) ((hm a).mp ha))];E congrArg aA (Ж λy=>fg _ (List.lt_trans y z))
ЛVo{ks:А NK}(nd:ks.Nodup):(Eg ks).length=ks.length:=((List.perm_ext_iff_of_nodup (Ex ks) nd).mpr (R6 ks)).length_eq
ЛIl(A0 A1:Б SV):∀(hs:А HP) (N M:А NK) (x4:Б SV),N.length+(hs.flatMap HP.ns).length<=900->M.length+(hs.flatMap HP.ms).length<=900->∃y4,
  Z7 (Zd 4) Gen.Jm (hs.map Z0) [A0,A1,aA (.ol (N.map Zn)),aA (.ol (M.map Zn)),x4]=aA (.nx [A0,A1,aA (.ol ((N++hs.flatMap HP.ns).map Zn)),aA (.ol ((M++hs.flatMap HP.ms).map Zn)),y4])
 | [],N,M,x4,_,_=>⟨x4,by simp⟩
 |h::hs,N,M,x4,hN,hM=>by
  K[List.flatMap_cons,aw]at hN hM;O⟨y4,ih⟩:=Il A0 A1 hs (N++h.ns) (M++h.ms) (aA (.fz (Z0 h))) (by K[aw];W) (by K[aw];W);K[gp,gp,<-List.flatMap_cons,<-List.flatMap_cons]at ih;R⟨y4,?_⟩;V z1:(N.map Zn).length+(h.ns.map Zn).length<=PySem.sizeLine:=Qw (by K[aq,aq];W);V z2:(M.map Zn).length+(h.ms.map Zn).length<=PySem.sizeLine:=Qw (by K[aq,aq];W);V a0:∀a b c:D,L2.atI [a,b,c] 0=aA a:=λ_ _ _=>rfl;V a1:∀a b c:D,L2.atI [a,b,c] 1=aA b:=λ_ _ _=>rfl;V hb:Gen.Jm [A0,A1,aA (.ol (N.map Zn)),aA (.ol (M.map Zn)),aA (.fz (Z0 h))]=aA (.nx [A0,A1,aA (.ol ((N++h.ns).map Zn)),aA (.ol ((M++h.ms).map Zn)),aA (.fz (Z0 h))]):=by K[b9,b9];U Gen.Jm Z0;G N.map Zn=ND;G M.map Zn=MD;G h.ns.map Zn=HN;G h.ms.map Zn=HM;G h.fs.map Wm=HF;simp[a0,a1,z1,z2]
  E(W7 К hb).trans ih
ЛZcr(P:А HP)(G R:А NK)(ndN:(P.flatMap HP.ns).Nodup)(ndM:(P.flatMap HP.ms).Nodup)(lN:(P.flatMap HP.ns).length<=31)(lM:(P.flatMap HP.ms).length<=31)(iN:∀k∈P.flatMap HP.ns,Rb k)(lG:G.length<64)(e:∀k,k∈P.flatMap HP.ns↔k∈G)(r1:R.Pairwise kLt)(r2:∀k,k∈R↔k∈G):
  Gen.Jw [Yp P,.lst (G.map Zn)]=aA (.fz (.bl aC)):=by
 O⟨y4,l⟩:=Il (aA (.fz (Yp P))) (aA (.fz (.lst (G.map Zn)))) P [] [] aB (by K[List.length_nil];W) (by K[List.length_nil];W);K[d7,d7]at l;V d1:=Kw (ks:=P.flatMap HP.ns) И;V d2:=Kw (ks:=P.flatMap HP.ms) И;K[Vo ndN]at d1;K[Vo ndM]at d2;V t1:Cm [.lst ((P.flatMap HP.ns).map Zn)]=aA (.ol (R.map Zn)):=Zom (.inl iN) ndN И (λk=>by K[r2,e]) r1;V t2:Cp [.lst (G.map Zn)]=aA (.ol (R.map Zn)):=(Kr _).trans (Zgd (.inl λk hk=>iN k ((e k).mpr hk)) lG r2 r1);V er:We 48 (.lst (R.map Zn)) (.lst (R.map Zn))=aA aC:=Ge 44 _ λk hk=>.inl (iN k ((e k).mpr ((r2 k).mp hk)));V n1:((P.flatMap HP.ns).map Zn).length=(P.flatMap HP.ns).length:=aq _;V n2:((P.flatMap HP.ms).map Zn).length=(P.flatMap HP.ms).length:=aq _;K[<-n1]at d1;K[<-n2]at d2;K[show([]:А NK).map Zn=[]from rfl]at l;U Gen.Jw Gen.C2;U Yp at*;clear n1 n2;G (P.flatMap HP.ns).map Zn=NS;G (P.flatMap HP.ms).map Zn=MS;G P.map Z0=PD;G G.map Zn=GD;G R.map Zn=RD;simp[l,d1,d2,t1,t2,er,-Z7,-We]
ЛZon{a c:NK}(ha:Rb a)(hc:Rb c):We 48 (Zn a) (Zn c)=aA (decide (a=c)):=by O⟨x,l,rfl⟩:=ha;O⟨y,l',rfl⟩:=hc;E Zar 45 (.nm _ _)
ЛZsr{m:NK}{ks:А NK}(hm:Rb m)(hk:∀k∈ks,Rb k)(c:Bool)(hc:c=aC↔m∈ks):inN (Zn m) (.lst (ks.map Zn))=aA (.fz (.bl c)):=by K[Zn3 λk h=>Zon (hk k h) hm];congr 3;K[Bool.eq_iff_iff,hc];simp
ЛC8(o:HP)(ho:∀k∈o.ns,Rb k)(c:Bool):∀(xs zs:А NK),(∀k∈xs,Rb k/\(c=aC↔k∈o.ns))->zs.length+xs.length<=900->
  Yb [.own,.cap 3,.acc] 2 (Zd 0) Gen.Q1 Gen.Q2 (xs.map Zn) [aB,aA (.fz (Z0 o)),aA (.ol (zs.map Zn))]=aA [aB,aA (.fz (Z0 o)),aA (.ol ((if c=aC then zs++xs else zs).map Zn))]
 | [],zs,_,_=>by cases c<;> simp
 |k::xs,zs,h,hz=>by
  K[bf]at hz;O⟨h1,h2⟩:=h k af;V i:=Zsr h1 ho c h2;V a0:∀a b c:D,L2.atI [a,b,c] 0=aA a:=λ_ _ _=>rfl;V z1:zs.length<PySem.sizeLine:=Yd И;V e0:∀q,Gen.Q1 [aA (.fz (Zn k)),aA (.fz (Z0 o)),aA (.ol q)]=aA (c,[aA (.fz (Zn k)),aA (.fz (Z0 o)),aA (.ol q)]):=λq=>by U Gen.Q1 Z0;G o.ns.map Zn=ON;G o.ms.map Zn=OM;G o.fs.map Wm=OF;G Zn k=KD;simp[a0,i]
  V e1:∀q,Gen.Q2 [aA (.fz (Zn k)),aA (.fz (Z0 o)),aA (.ol q)]=aA (.tmp (.fz (Zn k)),[aA (.fz (Zn k)),aA (.fz (Z0 o)),aA (.ol q)]):=λq=>by U Gen.Q2;simp
  K[bc];cases c with
  |false=>have ih:=C8 o ho aD xs zs (λk hk=>h k (ao _ hk)) И;simp only[bi,if_false]at ih⊢;G Z0 o=OD;G Zn k=KD;U Yb;simp[e0,-Yb];simpa[-Yb]using ih
  |true=>have ih:=C8 o ho aC xs (zs++[k]) (λk hk=>h k (ao _ hk)) (by K[aw,f8];W);simp only[if_true]at ih⊢;K[gp,b9]at ih;K[show[k].map Zn=[Zn k]from rfl]at ih;V e5:(zs++([k]++xs)).map Zn=(zs++k::xs).map Zn:=rfl;K[e5]at ih;generalize (zs++k::xs).map Zn=RR at*;G Z0 o=OD;G Zn k=KD;U Yb;simp[e0,e1,z1,-Yb];simpa[-Yb]using ih
ЛVp(A0 A1 x4:Б SV)(h o:HP)(hn:∀k∈h.ns,Rb k)(ho:∀k∈o.ns,Rb k)(hl:h.ns.length<=100)(c:Bool)(hc:∀k∈h.ns,c=aC↔k∈o.ns):∃y4,
  Gen.W0 [A0,A1,aA (.fz (Z0 h)),aA (.fz (Z0 o)),x4]=aA (.nx [A0,A1,aA (.fz (Z0 h)),aA (.fz (Z0 o)),y4]):=by
 V cc:=C8 o ho c h.ns [] (λk hk=>⟨hn k hk,hc k hk⟩) (by simp;W);V a0:∀a b c:D,L2.atI [a,b,c] 0=aA a:=λ_ _ _=>rfl;K[show([]:А NK).map Zn=[]from rfl,d7]at cc;V e1:We 48 (.lst []) (.lst [])=aA aC:=rfl;cases c with
 |false=>R⟨aA (.ol []),?_⟩;simp only[bi,if_false,List.map_nil]at cc;U Gen.W0;U Z0 at cc⊢;G h.ns.map Zn=HN;G h.ms.map Zn=HM;G h.fs.map Wm=HF;G o.ns.map Zn=ON;G o.ms.map Zn=OM;G o.fs.map Wm=OF;simp[a0,cc,e1,-Yb,-We]
 |true=>
  R⟨aA (.ol (h.ns.map Zn)),?_⟩;simp only[if_true]at cc;V e2:∃v,We 48 (.lst (h.ns.map Zn)) (.lst [])=aA v:=by
   cases h.ns with
   |nil=>E⟨aC,rfl⟩
   |cons x l=>E⟨aD,rfl⟩
  O⟨v,e2⟩:=e2;U Gen.W0;U Z0 at cc⊢;G h.ns.map Zn=HN;G h.ms.map Zn=HM;G h.fs.map Wm=HF;G o.ns.map Zn=ON;G o.ms.map Zn=OM;G o.fs.map Wm=OF;cases v with
  |true=>simp[a0,cc,e2,-Yb,-We]
  |false=>simp[a0,cc,e2,-Yb,-We]
ЛLf(A0 A1:Б SV)(h:HP)(hn:∀k∈h.ns,Rb k)(hl:h.ns.length<=100):∀(os:А HP) (x3 x4:Б SV),(∀o∈os,(∀k∈o.ns,Rb k)/\∃c:Bool,∀k∈h.ns,c=aC↔k∈o.ns)->∃y3 y4,
  Z7 (Zd 3) Gen.W0 (os.map Z0) [A0,A1,aA (.fz (Z0 h)),x3,x4]=aA (.nx [A0,A1,aA (.fz (Z0 h)),y3,y4])
 | [],x3,x4,_=>⟨x3,x4,rfl⟩
 |o::os,x3,x4,ho=>by O⟨h1,c,hc⟩:=ho o af;O⟨z4,hb⟩:=Vp A0 A1 x4 h o hn h1 hl c hc;O⟨y3,y4,ih⟩:=Lf A0 A1 h hn hl os (aA (.fz (Z0 o))) z4 λo h=>ho o (ao _ h);E⟨y3,y4,(W7 К hb).trans ih⟩
ЛIm(A0:Б SV)(O:А HP):∀(hs:А HP) (x2 x3 x4:Б SV),(∀h∈hs,(∀k∈h.ns,Rb k)/\h.ns.length<=100/\∀o∈O,(∀k∈o.ns,Rb k)/\∃c:Bool,∀k∈h.ns,c=aC↔k∈o.ns)->∃y2 y3 y4,
  Z7 (Zd 2) Gen.Q3 (hs.map Z0) [A0,aA (.fz (Yp O)),x2,x3,x4]=aA (.nx [A0,aA (.fz (Yp O)),y2,y3,y4])
 | [],x2,x3,x4,_=>⟨x2,x3,x4,rfl⟩
 |h::hs,x2,x3,x4,hh=>by
  O⟨h1,h2,h3⟩:=hh h af;O⟨z3,z4,e⟩:=Lf A0 (aA (.fz (Yp O))) h h1 h2 O x3 x4 h3;V hb:Gen.Q3 [A0,aA (.fz (Yp O)),aA (.fz (Z0 h)),x3,x4]=aA (.nx [A0,aA (.fz (Yp O)),aA (.fz (Z0 h)),z3,z4]):=by U Gen.Q3;U Yp at e⊢;G O.map Z0=OD;G Z0 h=HD;simp[e,-Z7]
  O⟨y2,y3,y4,ih⟩:=Im A0 O hs (aA (.fz (Z0 h))) z3 z4 λh w=>hh h (ao _ w);E⟨y2,y3,y4,(W7 К hb).trans ih⟩
ЛHr(P O:А HP)(hh:∀h∈P,(∀k∈h.ns,Rb k)/\h.ns.length<=100/\∀o∈O,(∀k∈o.ns,Rb k)/\∃c:Bool,∀k∈h.ns,c=aC↔k∈o.ns):Gen.Wd [Yp P,Yp O]=aA (.fz (.bl aC)):=by O⟨y2,y3,y4,l⟩:=Im (aA (.fz (Yp P))) O P aB aB aB hh;U Gen.Wd Gen.B7;U Yp at*;G O.map Z0=OD;G P.map Z0=PD;simp[l,-Z7]
ЛVq{S A:HP->В}(sub:∀a,S a->A a){P O:А HP}(p:IsPool S P)(q:IsPool A O){h o:HP}(hh:h∈P)(ho:o∈O):∃c:Bool,∀k∈h.ns,c=aC↔k∈o.ns:=by
 O⟨a,sa,m⟩:=p.each h hh;O⟨a',sa',m'⟩:=q.each o ho;B e:∃k∈h.ns,k∈o.ns
 ·R⟨aC,λk hk=>⟨λ_=>?_,λ_=>rfl⟩⟩;O⟨k0,h1,h2⟩:=e;O⟨b,cb,kb⟩:=(m.ns_m k0).mp h1;O⟨b',cb',kb'⟩:=(m'.ns_m k0).mp h2;O⟨d,cd,kd⟩:=(m.ns_m k).mp hk;V c1:Conn A a' b:=.step cb' (sub b cb.right) ⟨k0,bj _ kb',bj _ kb⟩;V c2:Conn A b d:=Conn.mono sub (cb.symm.trans cd);E(m'.ns_m k).mpr ⟨d,c1.trans c2,kd⟩
 ·E⟨aD,λk hk=>⟨λz=>(nomatch z),λz=>absurd ⟨k,hk,z⟩ e⟩⟩
end My
namespace My
open DL PySem TT TX
ЛZcs(ns:А Int):∃ms:А Int,L5 (ns.map D.int) (aA 6) (aA 15)=ms.map D.int/\ms.length<=9:=by
 O⟨ms,e,_⟩:=Zjn ns (aA 6) (aA 15);R⟨ms,e,?_⟩;V h:(L5 (ns.map D.int) (aA 6) (aA 15)).length<=9:=by U L5;K[gw];V e1:HT.sIx (ns.map D.int).length (ns.map D.int).length (aA 15)=min 15 (ns.map D.int).length:=HT.sIx_nat _ _ 15;V e2:HT.sIx (ns.map D.int).length 0 (aA 6)=min 6 (ns.map D.int).length:=HT.sIx_nat _ _ 6;W
 K[e,aq]at h;E h
ЛZln:Ce 0 3=[.int 0,.int 1,.int 2]:=rfl
аPj(b0 b1 b2:Str):D:=.lst [.str b0,.str b1,.str b2]
ЛIo(e:FE)(he:e=Gen.R9)(b0 b1 b2:Str)(RD:А D)(sA sB sC:D)(PA PB PC:А D)(h0:Gen.Wn [.str b0,sA,.lst RD]=aA (.ol PA))(h1:Gen.Wn [.str b1,sB,.lst RD]=aA (.ol PB))(h2:Gen.Wn [.str b2,sC,.lst RD]=aA (.ol PC)):
  Yb [.own,.cap 4,.cap 1,.cap 5,.acc] 4 (Zd 0) Q7 e (Ce 0 3) [aB,aA (.fz (.lst RD)),aA (.fz (Pj b0 b1 b2)),aA (.fz (.lst [sA,sB,sC])),aA (.ol [])]=aA [aB,aA (.fz (.lst RD)),aA (.fz (Pj b0 b1 b2)),aA (.fz (.lst [sA,sB,sC])),aA (.ol [.lst PA,.lst PB,.lst PC])]:=by
 V t0:∀a b c:D,L2.atI [a,b,c] 0=aA a:=λ_ _ _=>rfl;V t1:∀a b c:D,L2.atI [a,b,c] 1=aA b:=λ_ _ _=>rfl;V t2:∀a b c:D,L2.atI [a,b,c] 2=aA c:=λ_ _ _=>rfl;V z0:0<PySem.sizeLine:=Yd И;V z1:1<PySem.sizeLine:=Yd И;V z2:2<PySem.sizeLine:=Yd И;Q he;V turn:∀(i:Int) (b:Str) (s:D) (P q:А D),L2.atI [D.str b0,D.str b1,D.str b2] i=aA (.str b)->L2.atI [sA,sB,sC] i=aA s->Gen.Wn [.str b,s,.lst RD]=aA (.ol P)->Gen.R9 [aA (.fz (.int i)),aA (.fz (.lst RD)),aA (.fz (Pj b0 b1 b2)),aA (.fz (.lst [sA,sB,sC])),aA (.ol q)]=aA (.tmp (.ol P),[aA (.fz (.int i)),aA (.fz (.lst RD)),aA (.fz (Pj b0 b1 b2)),aA (.fz (.lst [sA,sB,sC])),aA (.ol q)]):=λi b s P q e1 e2 e3=>by U Gen.R9 Pj;simp[e1,e2,e3]
 V u0:=λq=>turn 0 b0 sA PA q (t0 _ _ _) (t0 _ _ _) h0;V u1:=λq=>turn 1 b1 sB PB q (t1 _ _ _) (t1 _ _ _) h1;V u2:=λq=>turn 2 b2 sC PC q (t2 _ _ _) (t2 _ _ _) h2;K[Zln];G Pj b0 b1 b2=OB;G [sA,sB,sC]=SS;simp[Yb,u0,u1,u2,z0,z1,z2]
ЛIp(b0 b1 b2 b:Str)(i:Int)(hb:L2.atI [D.str b0,D.str b1,D.str b2] i=aA (.str b)):∀(xs:А Str) (zs:А D),zs.length+xs.length<=900->
  Yb [.own,.cap 1,.cap 8,.acc] 3 (Zd 0) Q7 Gen.T3 (xs.map D.str) [aB,aA (.fz (Pj b0 b1 b2)),aA (.fz (.int i)),aA (.ol zs)]=aA [aB,aA (.fz (Pj b0 b1 b2)),aA (.fz (.int i)),aA (.ol (zs++xs.map λx=>Zn (C6 b x)))]
 | [],zs,_=>by simp
 |x::xs,zs,hz=>by
  K[bf]at hz;V ih:=Ip b0 b1 b2 b i hb xs (zs++[Zn (C6 b x)]) (by K[aw,f8];W);K[gp]at ih;V z1:zs.length<PySem.sizeLine:=Yd И;V e1:∀q,Gen.T3 [aA (.fz (.str x)),aA (.fz (Pj b0 b1 b2)),aA (.fz (.int i)),aA (.ol q)]=aA (.tmp (.fz (Zn (C6 b x))),[aA (.fz (.str x)),aA (.fz (Pj b0 b1 b2)),aA (.fz (.int i)),aA (.ol q)]):=λq=>by U Gen.T3 Pj;K[show Zn (C6 b x)= .tup [.str b,.str x]from rfl];simp[hb,s2]
  K[bc,bc];G Pj b0 b1 b2=OB;G Zn (C6 b x)=NX;U Yb;simp[e1,z1,-Yb];simpa[-Yb]using ih
аlSt(x0 x2 x3 x4:Б SV)(b0 b1 b2:Str)(SS:А D)(x6:Б SV)(L:А NK)(x8:Б SV):Yk:=[x0,aA (.fz (Pj b0 b1 b2)),x2,x3,x4,aA (.fz (.lst SS)),x6,aA (.ol (L.map Zn)),x8,aB,aB,aB]
ЛRk(x0 x2 x3 x4 x6:Б SV)(b0 b1 b2 b:Str)(SS:А D)(i:Int)(ws:А Wk)(hb:L2.atI [D.str b0,D.str b1,D.str b2] i=aA (.str b))(hs:L2.atI SS i=aA (Zz ws))(hw:ws.length<=100)(L:А NK)(hL:L.length<=100):
  Gen.Ma (lSt x0 x2 x3 x4 b0 b1 b2 SS x6 L (aA (.fz (.int i))))=aA (.nx (lSt x0 x2 x3 x4 b0 b1 b2 SS x6 (L++ws.map λw=>C6 b w.key) (aA (.fz (.int i))))):=by
 V c:=Ip b0 b1 b2 b i hb (ws.map Wk.key) [] (by simp;W);K[d7]at c;V em:((ws.map Wk.key).map λx=>Zn (C6 b x))=(ws.map λw=>C6 b w.key).map Zn:=by K[cg,cg];rfl
 K[em]at c;V ek:=M7 (ws.map Wk.key);V z:(L.map Zn).length+((ws.map λw=>C6 b w.key).map Zn).length<=PySem.sizeLine:=Qw (by simp;W);U Gen.Ma lSt;K[b9];U Zz at hs;G (ws.map λw=>C6 b w.key).map Zn=WN;G L.map Zn=LD;G ws.map Wk.d=WD;G (ws.map Wk.key).map D.str=KS;G Yt (ws.map Wk.key)=WK;G Pj b0 b1 b2=OB;simp[hs,ek,c,z,-Yb]
ЛVr(x0 x2 x3 x4 x6:Б SV)(b0 b1 b2:Str)(A B C:А Wk)(hA:A.length<=3)(hB:B.length<=3)(hC:C.length<=3):∃y8,
  Z7 (Zd 8) Gen.Ma (Ce 0 3) (lSt x0 x2 x3 x4 b0 b1 b2 [Zz A,Zz B,Zz C] x6 [] aB)=aA (.nx (lSt x0 x2 x3 x4 b0 b1 b2 [Zz A,Zz B,Zz C] x6 ((A.map λw=>C6 b0 w.key)++(B.map λw=>C6 b1 w.key)++(C.map λw=>C6 b2 w.key)) y8)):=by
 V t0:=Rk x0 x2 x3 x4 x6 b0 b1 b2 b0 [Zz A,Zz B,Zz C] 0 A rfl rfl И [] К;V t1:=Rk x0 x2 x3 x4 x6 b0 b1 b2 b1 [Zz A,Zz B,Zz C] 1 B rfl rfl И (A.map λw=>C6 b0 w.key) (by simp;W);V t2:=Rk x0 x2 x3 x4 x6 b0 b1 b2 b2 [Zz A,Zz B,Zz C] 2 C rfl rfl И ((A.map λw=>C6 b0 w.key)++(B.map λw=>C6 b1 w.key)) (by simp;W);K[d7]at t0;K[Zln];R⟨aA (.fz (.int 2)),?_⟩;E(W7 К t0).trans ((W7 К t1).trans ((W7 К t2).trans rfl))
ЛLg(Q:А D)(e:We 48 (.lst Q) (.lst Q)=aA aC):∀n:Г,
  Yb [.own,.cap 10,.acc] 2 (Zd 0) Gen.T4 Gen.Zax (dn n (.lst Q)) [aB,aA (.fz (.lst Q)),aA (.ol [])]=aA [aB,aA (.fz (.lst Q)),aA (.ol [])]
 |0=>rfl
 |n+1=>by
  V ih:=Lg Q e n;V e0:Gen.T4 [aA (.fz (.lst Q)),aA (.fz (.lst Q)),aA (.ol [])]=aA (aD,[aA (.fz (.lst Q)),aA (.fz (.lst Q)),aA (.ol [])]):=by U Gen.T4;simp[e,-We]
  K[List.replicate_succ];U Yb;simp[e0,-Yb];simpa[-Yb]using ih
ЛZct(δ:Yk)(P O:А HP)(h10:δ[10]? =aA (aA (.fz (Yp O))))(h11:δ[11]? =aA (aA (.fz (Yp P))))(p1:Gen.Wg [Yp O,Yp P]=aA (.ol (O.map Z0)))(p2:Gen.Wg [Yp P,Yp O]=aA (.ol (O.map Z0)))(w:Gen.Wd [Yp P,Yp O]=aA (.fz (.bl aC)))(e:We 48 (Yp O) (Yp O)=aA aC):Gen.T5 δ=aA (.nx δ):=by U Gen.T5;U Yp at*;G O.map Z0=OD;G P.map Z0=PD;simp[h10,h11,p1,p2,w,e,-We]
ЛLh(x0 x1 x2 x3 x4 x5 x6 x7 x8 x9:Б SV)(O:А HP)(e:We 48 (Yp O) (Yp O)=aA aC):∀(Ps:А (А HP)) (x11:Б SV),(∀P∈Ps,Gen.Wg [Yp O,Yp P]=aA (.ol (O.map Z0))/\Gen.Wg [Yp P,Yp O]=aA (.ol (O.map Z0))/\Gen.Wd [Yp P,Yp O]=aA (.fz (.bl aC)))->∃y11,
  Z7 (Zd 11) Gen.T5 (Ps.map Yp) [x0,x1,x2,x3,x4,x5,x6,x7,x8,x9,aA (.fz (Yp O)),x11]=aA (.nx [x0,x1,x2,x3,x4,x5,x6,x7,x8,x9,aA (.fz (Yp O)),y11])
 | [],x11,_=>⟨x11,rfl⟩
 |P::Ps,x11,h=>by O⟨h1,h2,h3⟩:=h P af;V hb:=Zct [x0,x1,x2,x3,x4,x5,x6,x7,x8,x9,aA (.fz (Yp O)),aA (.fz (Yp P))] P O rfl rfl h1 h2 h3 e;O⟨y11,ih⟩:=Lh x0 x1 x2 x3 x4 x5 x6 x7 x8 x9 O e Ps (aA (.fz (Yp P))) λP hP=>h P (ao _ hP);E⟨y11,(W7 К hb).trans ih⟩
end My
namespace My
open DL PySem TT TX
ЛZa3{a b:FS}{δ δ':Yk}(h:a δ=aA (.nx δ')):Z4 a b δ=b δ':=by U Z4;K[h];rfl
ЛZg3(ns:А Int):∃b0 b1 b2:Str,Gen.Zaz [aA (.fz (.lst (ns.map D.int))),aB,aB,aB,aB,aB,aB,aB,aB,aB,aB,aB]=Gen.Mb [aA (.fz (.lst (ns.map D.int))),aA (.ol [.str b0,.str b1,.str b2]),aB,aB,aB,aB,aB,aB,aB,aB,aB,aB]:=by
 O⟨c0,hc0⟩:=Gg ns 0;O⟨c4,hc4⟩:=Gg ns 4;V m0:=Zgj c0 16807;V p0:=Pd c0 16807;G c0 % 2147483647*16807 % 2147483647=X0;O⟨bs,b0,bl,_,_⟩:=E5 X0 p0 3 И;obtain⟨x,y,z,rfl⟩:∃x y z,bs=[x,y,z]:=by
  match bs,bl with
  | [x,y,z],_=>E⟨x,y,z,rfl⟩
 V b0:Gen.Yx [.int X0,.int 3]=aA (.ol [.str x,.str y,.str z]):=b0;V hc0:Gen.Zq [.lst (ns.map D.int),.int 0]=aA (.fz (.int c0)):=hc0;V hc4:Gen.Zq [.lst (ns.map D.int),.int 4]=aA (.fz (.int c4)):=hc4;V h1:Y0 1 (Yc 2 Gen.Yx (Zc (Yc 2 Gen.Wo (Zc (Yc 2 Gen.Zq (Zc (Za 0) (Zc (Zf (.int 0)) (Zj)))) (Zc (Zf (.int 16807)) (Zj)))) (Zc (Zf (.int 3)) (Zj)))) [aA (.fz (.lst (ns.map D.int))),aB,aB,aB,aB,aB,aB,aB,aB,aB,aB,aB]=aA (.nx [aA (.fz (.lst (ns.map D.int))),aA (.ol [.str x,.str y,.str z]),aB,aB,aB,aB,aB,aB,aB,aB,aB,aB]):=by G ns.map D.int=ND;simp[hc0,m0,b0]
 V h2:∃v:Str,(Xc (Ys (Zm eqX (Zm Uf (Yc 2 Gen.Zq (Zc (Za 0) (Zc (Zf (.int 4)) (Zj)))) (Zf (.int 3))) (Zf (.int 1)))) (Du 1 (Zf (.int 2)) (Zm O5 (Za 1) (Zm Uf (Zm Rr (Yc 2 Gen.Zq (Zc (Za 0) (Zc (Zf (.int 4)) (Zj)))) (Zf (.int 3))) (Zf (.int 2))))) (Ut)) [aA (.fz (.lst (ns.map D.int))),aA (.ol [.str x,.str y,.str z]),aB,aB,aB,aB,aB,aB,aB,aB,aB,aB]=aA (.nx [aA (.fz (.lst (ns.map D.int))),aA (.ol [.str x,.str y,.str v]),aB,aB,aB,aB,aB,aB,aB,aB,aB,aB]):=by
  B h:c4 % 3=1
  ·obtain⟨v,hv⟩:∃v:Str,L2.atI [D.str x,D.str y,D.str z] (c4 / 3 % 2)=aA (.str v):=by
    V :c4 / 3 % 2=0\/c4 / 3 % 2=1:=by W
    J this with h|h<;> K[h]
    ·E⟨x,rfl⟩
    ·E⟨y,rfl⟩
   R⟨v,?_⟩;V i2:L2.ixN 3 2=aA 2:=rfl;G ns.map D.int=ND;simp[hc4,h,hv,i2]
  ·R⟨z,?_⟩;G ns.map D.int=ND;simp[hc4,h]
 O⟨v,h2⟩:=h2;R⟨x,y,v,?_⟩;U Gen.Zaz;generalize Gen.Mb=TL;K[Za3 h1,Za3 h2]
Лlaw_true(ns:А Int)(hn:ns.length<=63):Gen.Mc [.lst (ns.map D.int)]=aA (.fz (.bl aC)):=by
 O⟨b0,b1,b2,hh⟩:=Zg3 ns
 suffices ht:Gen.Mb [aA (.fz (.lst (ns.map D.int))),aA (.ol [.str b0,.str b1,.str b2]),aB,aB,aB,aB,aB,aB,aB,aB,aB,aB]=aA (.rt (.fz (.bl aC))) by K[ht]at hh;U Gen.Mc;G ns.map D.int=ND;simp[hh]
 clear hh;O⟨ms,em,hms⟩:=Zcs ns;O⟨c1,hc1⟩:=Gg ns 1;O⟨c2,hc2⟩:=Gg ns 2;O⟨c3,hc3⟩:=Gg ns 3;O⟨c5,hc5⟩:=Gg ns 5;V m1:=Zgj c1 16807;V m2:=Zgj c2 16807;V p1:=Pd c1 16807;V p2:=Pd c2 16807;G c1 % 2147483647*16807 % 2147483647=X1;G c2 % 2147483647*16807 % 2147483647=X2;O⟨ks,k0,kl,knd,kn⟩:=E5 X1 p1 4 И;O⟨F,f0,fl,fnd,fn⟩:=E5 X2 p2 3 И;O⟨rs,rl,ro,r0⟩:=Zcp F fl c3;V w0':0<=c5 % 9:=f9 _ Й;V w1':c5 % 9<9:=d8 _ Й;obtain⟨wd,hwd⟩:∃wd:Г,(wd:Int)=2+c5 % 9:=⟨(2+c5 % 9).toNat,by W⟩
 O⟨A,B,C,ok,w0⟩:=Vl ks F kl knd fl fnd fn ms hms wd И И;O⟨oA,nA,lA⟩:=ok A К;O⟨oB,nB,lB⟩:=ok B К;O⟨oC,nC,lC⟩:=ok C К;clear ok;O⟨W,hW,pW⟩:=Zg0 F fl;V ml:∀w:Wk,(w.marks rs).length<=3:=λw=>dk (M8 _ _ rs 0) rl;V shw:∀ws:А Wk,(∀w∈ws,WP F w)->(ws.map Wk.key).Nodup->ws.length<=3->Shw rs ws:=λws o n l=>⟨n,λw h=>(o w h).ok,by W,by V :=Nat.mul_le_mul l rl;W,λr hr=>by V :=ro r hr;W,by W⟩
 let U:А NK:=(A.map λw=>C6 b0 w.key)++(B.map λw=>C6 b1 w.key)++(C.map λw=>C6 b2 w.key)
 let V:А NK:=A.flatMap (λw=>w.marks rs)++B.flatMap (λw=>w.marks rs)++C.flatMap (λw=>w.marks rs);V hU:U.length<=9:=by show((A.map λw=>C6 b0 w.key)++(B.map λw=>C6 b1 w.key)++(C.map λw=>C6 b2 w.key)).length<=9;simp only[aw,aq];W
 V fm:∀ws:А Wk,ws.length<=3->(ws.flatMap λw=>w.marks rs).length<=9:=λws h=>by K[List.length_flatMap];V :=W3 (λw:Wk=>(w.marks rs).length) 3 ws λw _=>ml w;W
 V hV:V.length<=31:=by show(A.flatMap (λw=>w.marks rs)++B.flatMap (λw=>w.marks rs)++C.flatMap (λw=>w.marks rs)).length<=31;V :=fm A lA;V :=fm B lB;V :=fm C lC;simp only[aw];W
 V pool:∀(b:Str) (ws:А Wk),(∀w∈ws,WP F w)->(ws.map Wk.key).Nodup->ws.length<=3->(∀w∈ws,C6 b w.key∈U)->(∀w∈ws,∀m∈w.marks rs,m∈V)->∃P,PL U V W (· ∈ws.map (Qt b rs)) P/\Gen.Wn [.str b,Zz ws,.lst (rs.map Yr)]=aA (.ol (P.map Z0)):=λb ws o n l hu hv=>by O⟨P,p,oo,_,e⟩:=pool_of b rs ws (shw ws o n l) ⟨W,hW,λw hw=>pW b w (o w hw)⟩;E⟨P,⟨p,Zg1 hu hv λw hw=>pW b w (o w hw),oo⟩,e⟩
 O⟨PA,pA,qA⟩:=pool b0 A oA nA lA (λw h=>bj _ (bj _ (ax.mpr ⟨w,h,rfl⟩))) (λw h m hm=>bj _ (bj _ (gh.mpr ⟨w,h,hm⟩)));O⟨PB,pB,qB⟩:=pool b1 B oB nB lB (λw h=>bj _ (bh _ (ax.mpr ⟨w,h,rfl⟩))) (λw h m hm=>bj _ (bh _ (gh.mpr ⟨w,h,hm⟩)));O⟨PC,pC,qC⟩:=pool b2 C oC nC lC (λw h=>bh _ (ax.mpr ⟨w,h,rfl⟩)) (λw h m hm=>bh _ (gh.mpr ⟨w,h,hm⟩));V hU':U.length<=31:=by W
 O⟨O,o,la⟩:=Zj0 hU' hV hW pA pB pC;V sm:=B9 o.u o.p;V un:=C7 o.u o.p;V ap:=Ig o.p;V srt:∀h∈O,h.ns.Pairwise kLt/\h.ms.Pairwise kLt:=λh hh=>by O⟨a,sa,m⟩:=o.p.each h hh;E⟨m.ns_s,m.ms_s⟩
 V ndN:(O.flatMap HP.ns).Nodup:=List.pairwise_flatMap.mpr ⟨λh hh=>W8 (srt h hh).1,ap.imp fun{h h'} z x hx y hy e=>z x (bj _ hx) (by K[e];E bj _ hy)⟩;V ndM:(O.flatMap HP.ms).Nodup:=List.pairwise_flatMap.mpr ⟨λh hh=>W8 (srt h hh).2,ap.imp fun{h h'} z x hx y hy e=>z x (bh _ hx) (by K[e];E bh _ hy)⟩;V iN:∀k∈O.flatMap HP.ns,Rb k:=λk hk=>by O⟨h,hh,hk⟩:=gh.mp hk;E(un.ns h hh k hk).2
 V eN:∀k,k∈O.flatMap HP.ns↔k∈U:=λk=>by
  constructor
  ·I hk;O⟨h,hh,hk⟩:=gh.mp hk;E(un.ns h hh k hk).1
  ·V one:∀(b:Str) (ws:А Wk),(∀a,a∈ws.map (Qt b rs)->(a∈A.map (Qt b0 rs)\/a∈B.map (Qt b1 rs)\/a∈C.map (Qt b2 rs)))->k∈(ws.map λw=>C6 b w.key)->k∈O.flatMap HP.ns:=λb ws sub hk=>by O⟨w,hw,rfl⟩:=ax.mp hk;V hs:=sub _ (List.mem_map_of_mem hw);O⟨h,hh,m⟩:=o.p.all (Qt b rs w) hs;E gh.mpr ⟨h,hh,(m.ns_m _).mpr ⟨_,.here hs,ar.mpr rfl⟩⟩
   I hk;J bz.mp hk with hk|hk
   ·J bz.mp hk with hk|hk
    ·E one b0 A (λa h=>.inl h) hk
    ·E one b1 B (λa h=>.inr (.inl h)) hk
   ·E one b2 C (λa h=>.inr (.inr h)) hk
 V isU:∀k∈U,Rb k:=λk hk=>iN k ((eN k).mpr hk);O⟨R,r1,r2⟩:=Pg (.inl isU);V lap:=Zcr O U R ndN ndM (by V :=sm.ns;W) (by V :=sm.ms;W) iN И eN r1 r2;V eO:We 48 (Yp O) (Yp O)=aA aC:=R7 40 _ o.ok;V so:Cm [Yp O]=aA (.ol (O.map Z0)):=Zgg o.ok (List.pairwise_map.mpr (o.p.sorted.imp λh e=>by K[e]at h;E fg _ h)) (by V :=sm.ln;W) (.refl _) (o.p.sorted.imp λh=>Zaw h);V part:∀{S:HP->В} {P:А HP},PL U V W S P->(∀a,S a->(a∈A.map (Qt b0 rs)\/a∈B.map (Qt b1 rs)\/a∈C.map (Qt b2 rs)))->Gen.Wg [Yp O,Yp P]=aA (.ol (O.map Z0))/\Gen.Wg [Yp P,Yp O]=aA (.ol (O.map Z0))/\Gen.Wd [Yp P,Yp O]=aA (.fz (.bl aC)):=fun{S P} p sub=>by R⟨Me hU' hV hW o p o λa=>⟨λz=>z.elim id (sub a),.inl⟩,Me hU' hV hW p o o λa=>⟨λz=>z.elim (sub a) id,.inr⟩,Hr P O λh hh=>?_⟩;V up:=C7 p.u p.p;V sp:=(B9 p.u p.p).fw h hh;E⟨λk hk=>(up.ns h hh k hk).2,by W,λo' ho=>⟨λk hk=>(un.ns o' ho k hk).2,Vq sub p.p o.p hh ho⟩⟩
 V hA:=part pA λa h=>.inl h;V hB:=part pB λa h=>.inr (.inl h);V hC:=part pC λa h=>.inr (.inr h);V oo:=Me hU' hV hW o o o λa=>⟨λz=>z.elim id id,.inl⟩
 V e3:We 48 (.lst [Yp PA,Yp PB,Yp PC]) (.lst [Yp PA,Yp PB,Yp PC])=aA aC:=R5 47 _ λx hx=>by
  simp only[bx,List.not_mem_nil,or_false]at hx;J hx with rfl|rfl|rfl
  ·E R7 39 _ pA.ok
  ·E R7 39 _ pB.ok
  ·E R7 39 _ pC.ok
 V cp1:=Io Gen.R9 rfl b0 b1 b2 (rs.map Yr) (Zz A) (Zz B) (Zz C) (PA.map Z0) (PB.map Z0) (PC.map Z0) qA qB qC;V cp6:=Io Gen.Zay rfl b0 b1 b2 (rs.map Yr) (Zz A) (Zz B) (Zz C) (PA.map Z0) (PB.map Z0) (PC.map Z0) qA qB qC;V sc:=Lg (O.map Z0) eO 12;V k0:Gen.Yx [.int X1,.int 4]=aA (.ol (ks.map D.str)):=k0;V f0:Gen.Yx [.int X2,.int 3]=aA (.ol (F.map D.str)):=f0;V hc1:Gen.Zq [.lst (ns.map D.int),.int 1]=aA (.fz (.int c1)):=hc1;V hc2:Gen.Zq [.lst (ns.map D.int),.int 2]=aA (.fz (.int c2)):=hc2;V hc3:Gen.Zq [.lst (ns.map D.int),.int 3]=aA (.fz (.int c3)):=hc3;V hc5:Gen.Zq [.lst (ns.map D.int),.int 5]=aA (.fz (.int c5)):=hc5;V hwd':2+c5 % 9=(wd:Int):=hwd.symm;O⟨y8,nl⟩:=Vr (aA (.fz (.lst (ns.map D.int)))) (aA (.fz (.lst (ks.map D.str)))) (aA (.fz (.lst (F.map D.str)))) (aA (.fz (.lst (rs.map Yr)))) (aA (.ol [Yp PA,Yp PB,Yp PC])) b0 b1 b2 A B C lA lB lC;O⟨y11,pl⟩:=Lh (aA (.fz (.lst (ns.map D.int)))) (aA (.fz (Pj b0 b1 b2))) (aA (.fz (.lst (ks.map D.str)))) (aA (.fz (.lst (F.map D.str)))) (aA (.fz (.lst (rs.map Yr)))) (aA (.fz (.lst [Zz A,Zz B,Zz C]))) (aA (.fz (.lst [Yp PA,Yp PB,Yp PC]))) (aA (.ol (U.map Zn))) y8 (aA (.ol (dn 12 (Yp O)))) O eO [PA,PB,PC] aB (λP h=>by
  simp only[bx,List.not_mem_nil,or_false]at h;J h with rfl|rfl|rfl
  ·E hA
  ·E hB
  ·E hC)
 K[show[PA,PB,PC].map Yp=[Yp PA,Yp PB,Yp PC]from rfl]at pl;V nl:Z7 (Zd 8) Gen.Ma (Ce 0 3) [aA (.fz (.lst (ns.map D.int))),aA (.fz (Pj b0 b1 b2)),aA (.fz (.lst (ks.map D.str))),aA (.fz (.lst (F.map D.str))),aA (.fz (.lst (rs.map Yr))),aA (.fz (.lst [Zz A,Zz B,Zz C])),aA (.ol [Yp PA,Yp PB,Yp PC]),aA (.ol []),aB,aB,aB,aB]=aA (.nx [aA (.fz (.lst (ns.map D.int))),aA (.fz (Pj b0 b1 b2)),aA (.fz (.lst (ks.map D.str))),aA (.fz (.lst (F.map D.str))),aA (.fz (.lst (rs.map Yr))),aA (.fz (.lst [Zz A,Zz B,Zz C])),aA (.ol [Yp PA,Yp PB,Yp PC]),aA (.ol (U.map Zn)),y8,aB,aB,aB]):=nl;V at0:L2.atI (dn 12 (Yp O)) 0=aA (Yp O):=rfl;V g3:Mi (3:Int):=Uv (n:=3) Й;V e3':=e3;U Pj at*
 clear_value U V
 clear part hA hB hC pool shw ml fm hU hV hU' o sm un ap srt ndN ndM iN eN isU r1 r2 pA pB pC qA qB qC pW hW oA oB oC nA nB nC lA lB lC kl knd kn fl fnd fn ro hms w0' w1' p1 p2;U Yp at*;G O.map Z0=OD;G PA.map Z0=DA;G PB.map Z0=DB;G PC.map Z0=DC;G U.map Zn=UD;G Zz A=SA;G Zz B=SB;G Zz C=SC;G rs.map Yr=RD;G ks.map D.str=KD;G F.map D.str=FD;G ms.map D.int=MD;G ns.map D.int=ND;G dn 12 (D.lst OD)=RP;V t3:(3:Int).toNat=3:=rfl;V e00:We 48 (.lst []) (.lst [])=aA aC:=rfl;U Gen.Mb;simp[em,hc1,hc2,hc3,hc5,m1,m2,k0,f0,r0,hwd',w0,g3,t3,Qp,cp1,cp6,nl,la,at0,sc,e00,lap,e3,pl,oo,eO,so,-Z7,-Yb,-We]
end My
def PySem.W.Fast.tw12206433987742352041:=()
def PySem.W.Fast.tw3979605703789144908:=()
def PySem.W.Fast.tw9299254322696481958:=()
def PySem.W.Fast.tw5924490764307737465:=()
def PySem.W.Fast.tw10657637766912904244:=()
def PySem.W.Fast.tw12643734502483820853:=()
def PySem.W.Fast.tw12038531320720090110:=()
def PySem.W.Fast.tw3357573259214177833:=()
def PySem.W.Fast.tw14164517044179209052:=()
def PySem.W.Fast.tw779187777251733116:=()
def PySem.W.Fast.tw5967032908064763794:=()
def PySem.W.Fast.tw7780682582590598193:=()
def PySem.W.Fast.tw728103818051609747:=()
def PySem.W.Fast.tw14422416401754672224:=()
def PySem.W.Fast.tw13921875186353489365:=()
def PySem.W.Fast.tw13591585234240288479:=()
def PySem.W.Fast.tw20227790086067428:=()
def PySem.W.Fast.tw6891582581417151392:=()
def PySem.W.Fast.tw7332285316556473622:=()
def PySem.W.Fast.tw3247089224950156116:=()
def PySem.W.Fast.tw5593613416151550647:=()
def PySem.W.Fast.tw1602621116473425085:=()
def PySem.W.Fast.tw15629724416895746467:=()
def PySem.W.Fast.tw5217479028450289625:=()
def PySem.W.Fast.tw1240906412127893442:=()
def PySem.W.Fast.tw8166046095351805631:=()
def PySem.W.Fast.tw18244899303365441028:=()
def PySem.W.Fast.tw5385434225856173484:=()
def PySem.W.Fast.tw13782361739528066766:=()
def PySem.W.Fast.tw9123923473201246577:=()
def PySem.W.Fast.tw13865463218019253628:=()
def PySem.W.Fast.tw12950765284606352521:=()
def PySem.W.Fast.tw9659116267664736885:=()
def PySem.W.Fast.tw5312086194692882973:=()
def PySem.W.Fast.tw2081456672017849541:=()
def PySem.W.Fast.tw14765053982320024004:=()
def PySem.W.Fast.tw5176266264621532705:=()
def PySem.W.Fast.tw11475333244486135929:=()
def PySem.W.Fast.tw8682356445059201799:=()
def PySem.W.Fast.tw4768350980113179083:=()
def PySem.W.Fast.tw2110477138323466301:=()
def PySem.W.Fast.tw2364632490425502682:=()
def PySem.W.Fast.tw7096207824481956639:=()
def PySem.W.Fast.tw10279624525948054772:=()
def PySem.W.Fast.tw5775229424675834421:=()
def PySem.W.Fast.tw11659874138691997302:=()
def PySem.W.Fast.tw10423298867492502579:=()
def PySem.W.Fast.tw13053586688665586970:=()
def PySem.W.Fast.tw7549408095927524162:=()
def PySem.W.Fast.tw15507323548297399298:=()
def PySem.W.Fast.tw7076992277090773630:=()
def PySem.W.Fast.tw16756181709821749260:=()
def PySem.W.Fast.tw14318353101650943927:=()
def PySem.W.Fast.tw6011355444956094192:=()
def PySem.W.Fast.tw17029558816584842504:=()
def PySem.W.Fast.tw12002716445338950661:=()
def PySem.W.Fast.tw1857210152791997041:=()
def PySem.W.Fast.tw7212673966510034285:=()
def PySem.W.Fast.tw6281721225690744099:=()
def PySem.W.Fast.tw7759104263034071282:=()
def PySem.W.Fast.tw14303812419773258418:=()
def PySem.W.Fast.tw10447970611333000110:=()
def PySem.W.Fast.tw14914224261753108001:=()
def PySem.W.Fast.tw15116070653146127780:=()
def PySem.W.Fast.tw15687195174200727302:=()
def PySem.W.Fast.tw5166081476677344014:=()
def PySem.W.Fast.tw8462779205440199392:=()
def PySem.W.Fast.tw17714509782175459081:=()
def PySem.W.Fast.tw4437069900377867580:=()
def PySem.W.Fast.tw5212791772864534593:=()
def PySem.W.Fast.tw11352767906060662257:=()
def PySem.W.Fast.tw9878251723328505653:=()
def PySem.W.Fast.tw3726248198206103854:=()
def PySem.W.Fast.tw6971264231293566546:=()
def PySem.W.Fast.tw15733381311782034676:=()
def PySem.W.Fast.tw18293060489592741284:=()
open PySem PySem.W PyProof.Rows
set_option maxRecDepth 100000 in
set_option maxHeartbeats 0 in
theorem PySem.Challenge.cw_citeward_k39_whole_any_order_holds : PySem.Challenge.rw_citeward_k39_whole_any_order.Holds := by
  w_on; o_law; k_head; (case hw => w_witness2)
  k_fill
  refine Gen.Zw4 (l := PySem.Challenge.rw_citeward_k39_whole_any_order) rfl rfl (fun w h Y => PySem.W.kIn_of Y) ?F My.law_true
  case F =>
    intro w mg fa h KX G hmg
    refine' Gen.Zof KX G hmg ?ax0 ?Fx0 ?kx0 ?ax1 ?Fx1 ?kx1 ?ax2 ?Fx2 ?kx2 ?ax3 ?Fx3 ?kx3 ?ax4 ?Fx4 ?kx4 ?ax5 ?Fx5 ?kx5 ?ax6 ?Fx6 ?kx6 ?ax7 ?Fx7 ?kx7 ?ax8 ?Fx8 ?kx8 ?ax9 ?Fx9 ?kx9 ?ax10 ?Fx10 ?kx10 ?ax11 ?Fx11 ?kx11 ?ax12 ?Fx12 ?kx12 ?ax13 ?Fx13 ?kx13 ?ax14 ?Fx14 ?kx14 ?ax15 ?Fx15 ?kx15 ?ax16 ?Fx16 ?kx16 ?ax17 ?Fx17 ?kx17 ?ax18 ?lx18 ?cx18 ?kx18 ?zall ?zdict ?zenumerate ?zint ?zlen ?zlist ?zrange ?zset ?zsorted ?zstr ?ztuple
    (case ax0 => k_is)
    (case Fx0 => exact ⟨_, L2.Wq (by k_is) (by k_is) (by k_is)⟩)
    (case kx0 => k_is)
    (case ax1 => k_is)
    (case Fx1 => exact ⟨_, L2.Wq (by k_is) (by k_is) (by k_is)⟩)
    (case kx1 => k_is)
    (case ax2 => k_is)
    (case Fx2 => exact ⟨_, L2.Wq (by k_is) (by k_is) (by k_is)⟩)
    (case kx2 => k_is)
    (case ax3 => k_is)
    (case Fx3 => exact ⟨_, L2.Wq (by k_is) (by k_is) (by k_is)⟩)
    (case kx3 => k_is)
    (case ax4 => k_is)
    (case Fx4 => exact ⟨_, L2.Wq (by k_is) (by k_is) (by k_is)⟩)
    (case kx4 => k_is)
    (case ax5 => k_is)
    (case Fx5 => exact ⟨_, L2.Wq (by k_is) (by k_is) (by k_is)⟩)
    (case kx5 => k_is)
    (case ax6 => k_is)
    (case Fx6 => exact ⟨_, L2.Wq (by k_is) (by k_is) (by k_is)⟩)
    (case kx6 => k_is)
    (case ax7 => k_is)
    (case Fx7 => exact ⟨_, L2.Wq (by k_is) (by k_is) (by k_is)⟩)
    (case kx7 => k_is)
    (case ax8 => k_is)
    (case Fx8 => exact ⟨_, L2.Wq (by k_is) (by k_is) (by k_is)⟩)
    (case kx8 => k_is)
    (case ax9 => k_is)
    (case Fx9 => exact ⟨_, L2.Wq (by k_is) (by k_is) (by k_is)⟩)
    (case kx9 => k_is)
    (case ax10 => k_is)
    (case Fx10 => exact ⟨_, L2.Wq (by k_is) (by k_is) (by k_is)⟩)
    (case kx10 => k_is)
    (case ax11 => k_is)
    (case Fx11 => exact ⟨_, L2.Wq (by k_is) (by k_is) (by k_is)⟩)
    (case kx11 => k_is)
    (case ax12 => k_is)
    (case Fx12 => exact ⟨_, L2.Wq (by k_is) (by k_is) (by k_is)⟩)
    (case kx12 => k_is)
    (case ax13 => k_is)
    (case Fx13 => exact ⟨_, L2.Wq (by k_is) (by k_is) (by k_is)⟩)
    (case kx13 => k_is)
    (case ax14 => k_is)
    (case Fx14 => exact ⟨_, L2.Wq (by k_is) (by k_is) (by k_is)⟩)
    (case kx14 => k_is)
    (case ax15 => k_is)
    (case Fx15 => exact ⟨_, L2.Wq (by k_is) (by k_is) (by k_is)⟩)
    (case kx15 => k_is)
    (case ax16 => k_is)
    (case Fx16 => exact ⟨_, L2.Wq (by k_is) (by k_is) (by k_is)⟩)
    (case kx16 => k_is)
    (case ax17 => k_is)
    (case Fx17 => exact ⟨_, L2.Wq (by k_is) (by k_is) (by k_is)⟩)
    (case kx17 => k_is)
    (case ax18 => k_is)
    (case lx18 => k_is)
    (case cx18 => k_is)
    (case kx18 => k_is)
    (case zall => k_is)
    (case zdict => k_is)
    (case zenumerate => k_is)
    (case zint => k_is)
    (case zlen => k_is)
    (case zlist => k_is)
    (case zrange => k_is)
    (case zset => k_is)
    (case zsorted => k_is)
    (case zstr => k_is)
    (case ztuple => k_is)
