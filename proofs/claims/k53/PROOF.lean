import PyProof.Rows.All
import Wide.All
import OpenK.AllK
import Wide.FinOn
import Lean
import PyProof.EqAt
import PyProof.EqKinds
import PyProof.TupleCall
import PyProof.NeKinds
import PyProof.EnumMake
import PyProof.ConsumeWalk
import PyProof.StrWalks
import PyProof.WalksMore
import PyProof.StrLawsNeg
import PySem.Challenge.RW_citeward_k53_whole_lists_read_back
set_option Elab.async false
set_option linter.all false
set_option genSizeOf false
set_option genSizeOfSpec false
set_option compiler.extract_closed false
set_option maxRecDepth 100000
set_option maxHeartbeats 4000000
open List renaming mem_cons_self->aa,mem_cons_of_mem->ad,mem_singleton->af,length_append->ao,length_map->ay,mem_cons->ba,length_cons->bc,mem_map->bd,getElem?_eq_some_iff->bf,map_cons->bn,mem_append->bo,mem_append_right->bp,size_toArray->bq,getElem?_map->bz,length_singleton->b4,map_map->b6,all_eq_true->b9,append_assoc->cg,mem_append_left->ci,map_append->cm,nodup_cons->cq,nodup_nil->cx,mem_of_getElem?->cy,nil_append->cz,append_nil->de,filterMap_cons_some->dk,map_congr_left->dl,nodup_append->dm,getElem?_eq_getElem->dq,filterMap_cons_none->dr,getElem?_set_ne->du,getElem?_append_right->dv,drop_eq_getElem_cons->dy,getElem?_set_self->d3,flatMap_cons->d6,getElem?_append_left->fm,range->gh
open PySem.W renaming Frag->aj,nsIn->d7
open PySem renaming Value->aq,starEach->au,Addr->av,wpAny_bind->aw,Shared->ax,wpAny_pure->bj,sizeLine->bu,wpAny->b5,Program->b8,Expr->ca,model->cv,mainGlobals->c8,backTo->c9,World->df,eval->dj,Around->d4,Heap->ed,attributeBase->eg,wpAny_mono->eh,compareOp->eu,Keyword->f7,keywordEach->f9
open PySem.Str renaming ofString->az,join->di
open Nat renaming le_refl->bg,zero_le->cr,lt_of_lt_of_le->c6,le_trans->dw,ne_of_lt->d8,lt_irrefl->fj
open PySem.Heap renaming get?_push_of_some->bh,lt_size->bx,get?_push_size->cj
open Bool renaming false_ne_true->bi,and_eq_true->dn
open PySem.Builtin.Str renaming occurrences->bv,strKind->c7
open Sum renaming inr->b7
open PySem.PassesOwn renaming never->cn
open Option renaming bind_eq_some_iff->dh,map_eq_some_iff->ez,bind_some->f8
open PySem.Value renaming ref->dz
open PySem.Txt renaming partition->d5
open Int renaming emod_lt_of_pos->fg,emod_nonneg->f6
open PySem.F renaming slot_dict_keyiterator_next->fq
open Or renaming inr->fu
open Array renaming length_toList->gc
open Option renaming some->aA,none->aB
open Bool renaming true->aC,false->aD
theorem bI.{u}{c:Prop}{h:Decidable c}(n:¬c){α:Sort u}{t e:α}:@ite α c h t e=e:=if_neg n
theorem bJ.{u}{c:Prop}{h:Decidable c}(n:c){α:Sort u}{t e:α}:@ite α c h t e=t:=if_pos n
theorem bK{p:Prop}[Decidable p](h:¬p):decide p=false:=decide_eq_false h
theorem bL{p:Prop}[Decidable p](h:p):decide p=true:=decide_eq_true h
theorem bM{p:Prop}[Decidable p](h:decide p=true):p:=of_decide_eq_true h
theorem bN{a b:Prop}(h:a)(g:¬a):b:=absurd h g
theorem zqA(h:True:=by first|rfl|exact Or.inl rfl|exact Or.inr (Or.inl rfl)|exact Or.inr (Or.inr rfl)|exact Or.inr rfl|(intro _;rfl)|(intro _ _;rfl)|assumption|decide+kernel|exact⟨rfl,rfl,rfl,rfl⟩|(refine⟨by constructor<;>first|rfl|decide+kernel,?_,rfl⟩;intro _ _ _ _ _ _ us hl;(first|refine of1 ?_ us hl|refine of2 ?_ us hl|refine of3 ?_ us hl|refine of4 ?_ us hl|refine of5 ?_ us hl);intros;rfl)|(apply Ew<;>rfl)|(apply GP<;>rfl)):True:=h
local macro_rules |`(‹$t›)=>`(autoParam $t zqA._auto_1)
open PySem PySem.Spec PyProof.Rows
set_option bootstrap.genMatcherCode false
noncomputable section
namespace Lake
namespace L2
theorem cR.{u,v}{α:Type u}{β:Type v}{o:Option α}{f:α->Option β}{r:β}{G:Prop}(e:o.bind f=aA r)(k:∀a,o=aA a->f a=aA r->G):G:=let⟨a,b,c⟩:=dh.mp e;k a b c
theorem cT.{u,v,w}{α:Type u}{γ:Type w}{β:Type v}{o:Option (α×γ)}{f:α×γ->Option β}{r:β}{G:Prop}(e:o.bind f=aA r)(k:∀a b,o=aA (a,b)->f (a,b)=aA r->G):G:=let⟨(a,b),c,d⟩:=dh.mp e;k a b c d
theorem Qx{G:Prop}(h:p/\q/\r/\s/\t/\u)(f:p->q->r->s->t->u->G):G:=let⟨x,y,z,m,n,k⟩:=h;f x y z m n k
theorem Zr{p q r:A->Prop}{G:Prop}(h:∃a,p a/\q a/\r a)(f:∀a,p a->q a->r a->G):G:=let⟨a,x,y,z⟩:=h;f a x y z
theorem We{p q:A->B->Prop}{G:Prop}(h:∃a b,p a b/\q a b)(f:∀a b,p a b->q a b->G):G:=let⟨a,b,x,y⟩:=h;f a b x y
theorem Yd{p q r:A->B->Prop}{G:Prop}(h:∃a b,p a b/\q a b/\r a b)(f:∀a b,p a b->q a b->r a b->G):G:=let⟨a,b,x,y,z⟩:=h;f a b x y z
theorem G9{p q r s:A->B->Prop}{G:Prop}(h:∃a b,p a b/\q a b/\r a b/\s a b)(f:∀a b,p a b->q a b->r a b->s a b->G):G:=let⟨a,b,x,y,z,m⟩:=h;f a b x y z m
theorem Ww{p q r:A->B->C->D->Prop}{G:Prop}(h:∃a b c d,p a b c d/\q a b c d/\r a b c d)(f:∀a b c d,p a b c d->q a b c d->r a b c d->G):G:=let⟨a,b,c,d,x,y,z⟩:=h;f a b c d x y z
theorem Yx{p q r:A->B->C->D->E->Prop}{G:Prop}(h:∃a b c d e,p a b c d e/\q a b c d e/\r a b c d e)(f:∀a b c d e,p a b c d e->q a b c d e->r a b c d e->G):G:=let⟨a,b,c,d,e,x,y,z⟩:=h;f a b c d e x y z
theorem cA{p q r s t:A->B->C->D->E->Prop}{G:Prop}(h:∃a b c d e,p a b c d e/\q a b c d e/\r a b c d e/\s a b c d e/\t a b c d e)(f:∀a b c d e,p a b c d e->q a b c d e->r a b c d e->s a b c d e->t a b c d e->G):G:=let⟨a,b,c,d,e,x,y,z,m,n⟩:=h;f a b c d e x y z m n
noncomputable abbrev Key:=Sum Int Str
noncomputable def Rg:Key->aq->Bool
 | .inl k,v=>Value.isInt k v
 | .inr x,v=>Value.isStrOf x v
noncomputable def gK(w:df):Key->Int
 | .inl k=>hashInt k
 | .inr x=>hashStr w x
theorem Y1:∀{k:Key} {v:aq},Rg k v=aC->(∃i t,k=Sum.inl i/\v=Value.int i t)\/(∃x t,k=b7 x/\v=Value.str x t)
 | .inl i,v,h=>by obtain⟨t,e⟩:=Value.isInt_shape (k:=i) (v:=v) h;exact .inl ⟨i,t,rfl,e⟩
 | .inr x,v,h=>by obtain⟨t,e⟩:=Value.isStrOf_shape (x:=x) (v:=v) h;exact .inr ⟨x,t,rfl,e⟩
theorem j_(i t):Rg (.inl i) (.int i t)=aC:=by simp[Rg,Value.isInt]
theorem j9(x t):Rg (.inr x) (.str x t)=aC:=by simp[Rg,Value.isStrOf]
theorem pG(a b):decide ((Sum.inl a:Key)=Sum.inl b)=(a==b):=by
 by_cases e:a=b
 .subst e;simp
 .have h:¬(Sum.inl a:Key)=Sum.inl b:=λq=>e (Sum.inl.inj q);rw[bK h];exact(beq_eq_false_iff_ne.mpr e).symm
theorem pF(a b):decide ((b7 a:Key)=b7 b)=decide (a=b):=by
 by_cases e:a=b
 .subst e;simp
 .have h:¬(b7 a:Key)=b7 b:=λq=>e (b7.inj q);rw[bK h,bK e]
theorem pE(a b):decide ((Sum.inl a:Key)=b7 b)=aD:=bK (λq=>nomatch q)
theorem pD(a b):decide ((b7 a:Key)=Sum.inl b)=aD:=bK (λq=>nomatch q)
noncomputable def Yf(prog:b8)(w:df):PySem.KeyKind prog w Key where
 is:=Rg
 hash:=gK w
 inj:=λv a b ha hb=>by
  rcases Y1 ha with⟨i,t,rfl,rfl⟩|⟨x,t,rfl,rfl⟩
  .rcases Y1 hb with⟨j,u,rfl,e⟩|⟨y,u,rfl,e⟩
   .injection e with e1 _;rw[e1]
   .exact nomatch e
  .rcases Y1 hb with⟨j,u,rfl,e⟩|⟨y,u,rfl,e⟩
   .exact nomatch e
   .injection e with e1 _;rw[e1]
 byValue:=λk v h=>by rcases Y1 h with⟨i,t,rfl,rfl⟩|⟨x,t,rfl,rfl⟩<;> rfl
 pyHash:=λhv h=>by
  rcases Y1 hv with⟨i,t,rfl,rfl⟩|⟨x,t,rfl,rfl⟩
  .exact wpAny_pyHash_int h
  .exact wpAny_pyHash_str h
 eqBool:=λhu hv h=>by
  rcases Y1 hu with⟨i,t,rfl,rfl⟩|⟨x,t,rfl,rfl⟩
  .rcases Y1 hv with⟨j,u,rfl,rfl⟩|⟨y,u,rfl,rfl⟩
   .rw[pG]at h;exact wpAny_eqBool_int h
   .rw[pE]at h;exact SeqAt.EqAt.int_str i t y u _ _ _ _ h
  .rcases Y1 hv with⟨j,u,rfl,rfl⟩|⟨y,u,rfl,rfl⟩
   .rw[pD]at h;exact SeqAt.EqAt.str_int x t j u _ _ _ _ h
   .rw[pF]at h;exact wpAny_eqBool_str h
 «strs»:=λk x t v h=>by
  rcases Y1 h with⟨i,u,rfl,e⟩|⟨y,u,rfl,e⟩
  .exact nomatch e
  .injection e with e1 _;subst e1;cases v<;> rfl
theorem dQ(prog w k v):(Yf prog w).is k v=Rg k v:=rfl
theorem He(prog w i t):(Yf prog w).is (.inl i) (.int i t)=aC:=j_ i t
theorem Hf(prog w x t):(Yf prog w).is (.inr x) (.str x t)=aC:=j9 x t
inductive V where
 |non|bl (b:Bool)|int (i:Int)|str (x:Str)|byt (b:Array UInt8)|flt (b:UInt64)|ref (a:av)|ty (n:String)
 deriving DecidableEq
def Ya:V->aq->Prop
 | .non,u=>u=Value.none
 | .bl b,u=>u=Value.bool b
 | .int i,u=>∃t,u=Value.int i t
 | .str x,u=>∃t,u=Value.str x t
 | .byt b,u=>∃t,u=Value.bytes b t
 | .flt b,u=>∃t,u=Value.float b t
 | .ref a,u=>u=dz a
 | .ty n,u=>u=Value.type n
abbrev Ym:List V->List aq->Prop:=Paired Ya
theorem Ym.length(r:Ym xs us):xs.length=us.length:=Paired.length r
theorem Ym.get:∀{xs:List V} {us:List aq} {i:Nat} {x:V},Ym xs us->xs[i]? =aA x->∃u,us[i]? =aA u/\Ya x u
 |_,_,_,_,.nil,e=>by simp at e
 |_,_,0,_,.cons r _,e=>by simp at e;subst e;exact⟨_,rfl,r⟩
 |_,_,i+1,x,.cons _ t,e=>by obtain⟨u,h1,h2⟩:=Ym.get (i:=i) (x:=x) t (by simpa using e);exact⟨u,by simpa using h1,h2⟩
theorem Ym.append:∀{xs ys:List V} {us ws:List aq},Ym xs us->Ym ys ws->Ym (xs++ys) (us++ws)
 |_,_,_,_,.nil,s=>s
 |_,_,_,_,.cons r t,s=>.cons r (Ym.append t s)
theorem Ym.take:∀{xs:List V} {us:List aq} n,Ym xs us->Ym (xs.take n) (us.take n)
 |_,_,0,_=>.nil
 |_,_,_+1,.nil=>.nil
 |_,_,n+1,.cons r t=>.cons r (Ym.take n t)
theorem Ym.drop:∀{xs:List V} {us:List aq} n,Ym xs us->Ym (xs.drop n) (us.drop n)
 |_,_,0,r=>r
 |_,_,_+1,.nil=>.nil
 |_,_,n+1,.cons _ t=>Ym.drop n t
theorem Ym.none_of:∀{xs:List V} {us:List aq} {i:Nat},Ym xs us->xs[i]? =aB->us[i]? =aB:=fun{xs us i} r e=>by have h1:=r.length;have h2:xs.length<=i:=List.getElem?_eq_none_iff.mp e;exact List.getElem?_eq_none_iff.mpr (by omega)
def Fz:Option V->Option aq->Prop
 |some v,aA u=>Ya v u
 |none,aB=>True
 |_,_=>False
def KV{κ:Type}:List (κ×V)->List (κ×aq)->Prop:=Paired λ(p:κ×V) (q:κ×aq)=>p.1=q.1/\Ya p.2 q.2
noncomputable def kV:Key->V
 | .inl i=>.int i
 | .inr x=>.str x
inductive HO where
 |lst (xs:List V)
 |tup (xs:List V)
 |dK (kvs:List (Key×V)) (ep:Nat)|dT (kvs:List (List Key×V)) (ep:Nat) (bs:List av)
 |set (S:Int->Bool) (n:Nat)
 |own (x:av)
 |xd (fs:List (Str×V))
 |frz (o:Obj) (u:HO)
 |tbl (ps:Array aq)
 |ext (φ:ed->Prop)
noncomputable abbrev Hp:=av->Option HO
noncomputable def Wu(H:Hp)(a:av)(o:HO):Hp:=λb=>if b=a then aA o else H b
theorem Yp:Wu H a o a=aA o:=by unfold Wu;rw[bJ rfl]
theorem Zv(h:b≠a):Wu H a o b=H b:=by unfold Wu;rw[bI h]
theorem mH:Wu (Wu H a o) a u=Wu H a u:=by funext b;unfold Wu;split<;> rfl
theorem tP{H:Hp}(h:H a=aA o)(h':H b=aA u)(d:o≠u):a≠b:=by intro e;subst e;rw[h]at h';exact d (Option.some.inj h')
theorem Wz{H:Hp}(h:H a=aA o)(h':H b=aB):a≠b:=by intro e;subst e;rw[h]at h';cases h'
section
variable(P:b8)(w:df)
def Wi(H:Hp)(h:ed)(a:av):HO->Prop
 | .lst xs=>xs.length<=sizeLine/\∃(cS:List aq) (n:Nat),Ym xs cS/\h.get? a=aA {cls:=.type "list",data:=.seq cS.toArray n}
 | .tup xs=>xs.length<=sizeLine/\∃cS:List aq,Ym xs cS/\IsTup h a cS.toArray
 | .dK kvs ep=>kvs.length<=sizeLine/\(a==sysModules)=aD/\∃vs,KV kvs vs/\h.DictAt (Yf P w) a vs ep
 | .dT kvs ep bs=>kvs.length<=sizeLine/\(a==sysModules)=aD/\∃xs:List (List Key×av×aq),
   Paired (λ(p:List Key×V) (q:List Key×av×aq)=>p.1=q.1/\H q.2.1=aA (.tup (p.1.map kV))/\Ya p.2 q.2.2) kvs xs/\
   ∃o es,h.get? a=aA o/\o.ExactDict/\o.data= .dict es ep/\es.toList=xs.map (entryOfKey (tupleKind (Yf P w)))/\(xs.map (·.1)).Nodup/\(xs.map λx=>x.2.1)=bs
 | .set S n=>h.SetOf (intKind P w) a S n
 | .own _=>∃o,h.get? a=aA o
 | .xd fs=>∃mA,h.Ns1 a mA/\∀f,Fz (fs.lookup f) (mA f)
 | .frz o u=>h.get? a=aA o/\Wi H h a u
 | .tbl ps=>h.get? a=aA {cls:=.none,data:=.fields ps}
 | .ext φ=>φ h/\(∃o,h.get? a=aA o)/\∀h1 h2:ed,φ h1->(∀o,h1.get? a=aA o->h2.get? a=aA o)->φ h2
def Rf(H:Hp)(h:ed):Prop:=∀a o,H a=aA o->Wi P w H h a o
end
section
variable{P:b8}{w:df}{H H':Hp}{h h':ed}{a:av}{o:HO}
theorem Wi.lt(x:Wi P w H h a o):a<h.objs.size:=by
 cases o with
 |lst xs=>obtain⟨_,_,_,_,e⟩:=x;exact bx e
 |tup xs=>obtain⟨_,_,_,p⟩:=x;exact p.lt
 |dK kvs ep=>obtain⟨_,_,_,_,o,_,e,_⟩:=x;exact bx e
 |dT kvs ep bs=>obtain⟨_,_,_,_,o,_,e,_⟩:=x;exact bx e
 |set S n=>obtain⟨o,_,_,_,e,_⟩:=x;exact bx e
 |own y=>obtain⟨_,e⟩:=x;exact bx e
 |xd fs=>obtain⟨_,⟨_,_,_,e,_⟩,_⟩:=x;exact bx e
 |frz ob u=>obtain⟨e,_⟩:=x;exact bx e
 |tbl ps=>exact bx (show h.get? a=aA _ from x)
 |ext φ=>obtain⟨_,⟨_,e⟩,_⟩:=x;exact bx e
theorem Paired.mapP{QZ:List α}{l₂:List β}(h:Paired F QZ l₂)(f:∀a b,F a b->G a b):Paired G QZ l₂:=by
 induction h with
 |nil=>exact .nil
 |cons r _ ih=>exact .cons (f _ _ r) ih
theorem Wi.stay(x:Wi P w H h a o)(k:∀b u,(b=a\/H b=aA (.own a))->h.get? b=aA u->h'.get? b=aA u)(ho:∀b,H b=aA (.own a)->H' b=aA (.own a))(ht:∀b xs,H b=aA (.tup xs)->H' b=aA (.tup xs))(hz:∀b o,H b=aA (.frz o (.own a))->H' b=aA (.frz o (.own a))):Wi P w H' h' a o:=by
 induction o with
 |lst xs=>obtain⟨z,cS,n,r,e⟩:=x;exact⟨z,cS,n,r,k _ _ (.inl rfl) e⟩
 |tup xs=>obtain⟨z,cS,r,ob,e,c⟩:=x;exact⟨z,cS,r,ob,k _ _ (.inl rfl) e,c⟩
 |dK kvs ep=>obtain⟨z,y,vs,r,ob,es,e,c⟩:=x;exact⟨z,y,vs,r,ob,es,k _ _ (.inl rfl) e,c⟩
 |dT kvs ep bs=>obtain⟨z,y,xs,r,ob,es,e,c⟩:=x;exact⟨z,y,xs,Paired.mapP r λp q z=>⟨z.1,ht _ _ z.2.1,z.2.2⟩,ob,es,k _ _ (.inl rfl) e,c⟩
 |set S n=>obtain⟨ob,es,ep,t,e,c⟩:=x;exact⟨ob,es,ep,t,k _ _ (.inl rfl) e,c⟩
 |own y=>obtain⟨ob,e⟩:=x;exact⟨ob,k _ _ (.inl rfl) e⟩
 |xd fs=>obtain⟨mA,⟨od,es,ep,e,c⟩,r⟩:=x;exact⟨mA,⟨od,es,ep,k _ _ (.inl rfl) e,c⟩,r⟩
 |frz ob u ih=>obtain⟨e,q⟩:=x;exact⟨k _ _ (.inl rfl) e,ih q⟩
 |tbl ps=>have e:h.get? a=aA {cls:=.none,data:=.fields ps}:=x;show h'.get? a=aA {cls:=.none,data:=.fields ps};exact k a _ (.inl rfl) e
 |ext φ=>obtain⟨p,⟨o,e⟩,st⟩:=x;exact⟨st _ _ p λo q=>k _ _ (.inl rfl) q,⟨o,k _ _ (.inl rfl) e⟩,st⟩
theorem Rf.lt(x:Rf P w H h)(e:H a=aA o):a<h.objs.size:=(x a o e).lt
theorem Rf.fresh(x:Rf P w H h)(e:h.objs.size<=a):H a=aB:=by
 cases q:H a with
 |none=>rfl
 |some u=>exact bN (c6 (x.lt q) e) (fj _)
theorem Rf.kept(x:Rf P w H h)(k:∀b u,h.get? b=aA u->h'.get? b=aA u):Rf P w H h':=λa o e=>
 (x a o e).stay (λb u _ q=>k b u q) (λ_ q=>q) (λ_ _ q=>q) λ_ _ q=>q
theorem Rf.laid(x:Rf P w H h)(k:∀b u,h.get? b=aA u->h'.get? b=aA u)(hp:h.objs.size<=a)(new:Wi P w (Wu H a o) h' a o):Rf P w (Wu H a o) h':=λb u e=>by
 have hn:=x.fresh hp;by_cases hb:b=a
 .subst hb;rw[Yp]at e;cases e;exact new
 .rw[Zv hb]at e;exact(x b u e).stay (λc v _ q=>k c v q) (λc q=>by rw[Zv (Wz q hn)];exact q) (λc xs q=>by rw[Zv (Wz q hn)];exact q) λc o q=>by rw[Zv (Wz q hn)];exact q
end
def Rd(H:Hp)(a:av)(u:HO):Prop:=H a=aA u\/∃o,H a=aA (.frz o u)
theorem Rd.ok(r:Rd H a u)(x:Rf P w H h):Wi P w H h a u:=by
 rcases r with r|⟨o,r⟩
 .exact x a u r
 .obtain⟨_,q⟩:=x a _ r;exact q
def HK(H:Hp)(a:av)(kvs:List (Key×V)):Prop:=∃ep,H a=aA (.dK kvs ep)
def HTt(H:Hp)(a:av)(kvs:List (List Key×V)):Prop:=∃ep bs,H a=aA (.dT kvs ep bs)
def RdK(H:Hp)(a:av)(kvs:List (Key×V)):Prop:=∃ep,Rd H a (.dK kvs ep)
def RdT(H:Hp)(a:av)(kvs:List (List Key×V)):Prop:=∃ep bs,Rd H a (.dT kvs ep bs)
theorem HK.rd(h:HK H a kvs):RdK H a kvs:=let⟨ep,h⟩:=h;⟨ep,.inl h⟩
noncomputable def Hg(kvs:List (List Key×V))(bs:List av)(k:List Key)(b:av):List Addr:=if(kvs.any λkv=>decide (kv.1=k))=aC then bs else bs++[b]
theorem HTt.rd(h:HTt H a kvs):RdT H a kvs:=let⟨ep,bs,h⟩:=h;⟨ep,bs,.inl h⟩
def Mut:Option HO->Prop
 |some (.lst _)=>True
 |some (.dK _ _)=>True
 |some (.dT _ _ _)=>True
 |some (.set _ _)=>True
 |some (.ext _)=>True
 |_=>False
theorem Rf.write(ok:Rf P w H h)(mu:Mut (H x))(he:e=x\/H e=aA (.own x))(k:∀b u,b≠e->h.get? b=aA u->h'.get? b=aA u)(QA:∃u,h'.get? e=aA u)(new:Wi P w (Wu H x o') h' x o'):Rf P w (Wu H x o') h':=λb u q=>by
 have QU:∀c y,H c=aA (.own y)->c≠x:=λc y r z=>by subst z;rw[r]at mu;exact mu
 have KQ:∀c xs,H c=aA (.tup xs)->c≠x:=λc xs r z=>by subst z;rw[r]at mu;exact mu
 by_cases hb:b=x
 .subst hb;rw[Yp]at q;cases q;exact new
 .rw[Zv hb]at q;by_cases hbe:b=e
  .have q':H b=aA (.own x):=by
    rcases he with z|z
    .exact bN (hbe.trans z) hb
    .rw[hbe];exact z
   rw[q]at q';cases q';obtain⟨v,hv⟩:=QA;exact⟨v,by rw[hbe];exact hv⟩
  .refine(ok b u q).stay (λc v hc r=>k c v ?_ r) (λc r=>by rw[Zv (QU c b r)];exact r) (λc xs r=>by rw[Zv (KQ c xs r)];exact r) λc o r=>by rw[Zv (λz=>by subst z;rw[r]at mu;exact mu)];exact r
   rcases hc with rfl|hc
   .exact hbe
   .rintro rfl;rcases he with z|z
    .exact QU c b hc z
    .rw[hc]at z;cases z;exact hb rfl
structure Un(fs ex:List av)(H H':Hp)(h h':ed):Prop where
 keep:∀b o,h.get? b=aA o->H b=aB->b∉fs->b∉ex->h'.get? b=aA o
 slot:∀b o,h.get? b=aA o->H b=aB->b∈fs->b∉ex->∃sl,h'.get? b=aA {o with slots:=sl}
 free:∀b o,h.get? b=aA o->H b=aB->b∉ex->H' b=aB
 there:∀b o,h.get? b=aA o->b∉ex->∃o',h'.get? b=aA o'
 tups:∀b xs,H b=aA (.tup xs)->H' b=aA (.tup xs)
 frzs:∀b o u,H b=aA (.frz o u)->H' b=aA (.frz o u)
 tbls:∀b ps,H b=aA (.tbl ps)->∃Z_,H' b=aA (.tbl (ps++Z_))
section
variable{fs dB ex dC:List av}{H H1 H2:Hp}{h h1 h2 h':ed}{a x e:av}{o:HO}
theorem Un.any(u:Un fs ex H H1 h h1)(q:h.get? b=aA ob)(n:H b=aB)(hx:b∉ex):∃sl,h1.get? b=aA {ob with slots:=sl}:=by
 by_cases hb:b∈fs
 .exact u.slot b ob q n hb hx
 .exact⟨ob.slots,u.keep b ob q n hb hx⟩
theorem Un.kept(k:∀b u,h.get? b=aA u->h'.get? b=aA u):Un fs ex H H h h':=
 ⟨λb ob q _ _ _=>k b ob q,λb ob q _ _ _=>⟨ob.slots,k b ob q⟩,λ_ _ _ n _=>n,λb ob q _=>⟨ob,k b ob q⟩,λ_ _ q=>q,λ_ _ _ q=>q,λ_ ps q=>⟨#[],by rw[q];simp⟩⟩
theorem Un.refl:Un fs ex H H h h:=Un.kept λ_ _ q=>q
theorem Un.laid(k:∀b u,h.get? b=aA u->h'.get? b=aA u)(hp:h.objs.size<=a)(hn:H a=aB):Un fs ex H (Wu H a o) h h' where
 keep:=λb u q _ _ _=>k b u q
 slot:=λb u q _ _ _=>⟨u.slots,k b u q⟩
 free:=λb u q n _=>by rw[Zv (d8 (c6 (bx q) hp))];exact n
 there:=λb u q _=>⟨u,k b u q⟩
 tups:=λb xs q=>by rw[Zv (Wz q hn)];exact q
 frzs:=λb u xs q=>by rw[Zv (Wz q hn)];exact q
 tbls:=λb ps q=>⟨#[],by rw[Zv (Wz q hn),q];simp⟩
theorem Un.write(mu:Mut (H x))(he:e=x\/H e=aA (.own x))(k:∀b u,b≠e->h.get? b=aA u->h'.get? b=aA u)(QA:∃u,h'.get? e=aA u):Un fs ex H (Wu H x o) h h':=by
 have hx:∀b,H b=aB->b≠x:=λb n z=>by subst z;rw[n]at mu;exact mu
 have hb:∀b,H b=aB->b≠e:=λb n z=>by
  subst z;rcases he with r|r
  .exact hx b n r
  .rw[n]at r;cases r
 have hm:∀b u,H b=aA u->¬Mut (aA u)->b≠x:=λb u q nm z=>by subst z;rw[q]at mu;exact nm mu
 refine⟨λb u q n _ _=>k b u (hb b n) q,λb u q n _ _=>⟨u.slots,k b u (hb b n) q⟩,λb u q n _=>by rw[Zv (hx b n)];exact n,λb u q _=>?_,
  λb xs q=>by rw[Zv (hm b _ q λz=>z)];exact q,λb u xs q=>by rw[Zv (hm b _ q λz=>z)];exact q,λb ps q=>⟨#[],by rw[Zv (hm b _ q λz=>z),q];simp⟩⟩
 by_cases hbe:b=e
 .subst hbe;exact QA
 .exact⟨u,k b u hbe q⟩
end
noncomputable def trk(h:ed)(H:Hp):List Addr:=(gh h.objs.size).filter λa=>(H a).isSome
noncomputable def S0(h:ed)(H:Hp):Heap:=PySem.W.hideAll h (trk h H)
theorem j8(h H):(S0 h H).objs.size=h.objs.size:=PySem.W.hideAll_size _ _
theorem kT(e:h.get? b=aA o)(n:H b=aB):(S0 h H).get? b=aA o:=
 PySem.W.hideAll_get _ e λhm=>by have q:(H b).isSome=aC:=(List.mem_filter.mp hm).2;rw[n]at q;simp at q
theorem mG(e:(S0 h H).get? b=aA o):h.get? b=aA o/\H b=aB:=by
 have e':h.get? b=aA o:=PySem.W.of_hideAll (trk h H) e;refine⟨e',?_⟩;cases q:H b with
 |none=>rfl
 |some x=>have hm:b∈trk h H:=List.mem_filter.mpr ⟨List.mem_range.mpr (bx e'),by simp[q]⟩;have z:(S0 h H).get? b=aB:=PySem.W.hideAll_none (trk h H) hm;rw[z]at e;cases e
noncomputable def mF(g h:ed)(L:av):List (av×Obj):=(gh h.objs.size).filterMap λa=>if a=L\/(g.get? a).isSome=aC then aB else(h.get? a).map λo=>(a,o)
def rest(g h:ed)(L d:av):List (av×Obj):=(mF g h L).filter λp=>decide (p.1≠d)
structure Mod(K:aj)(mg:Str->Option aq)(base:ed):Prop where
 kin:K.In base
 glob:base.Ns c8 mg
 blt:∃mb,base.Ns builtinsNs mb/\∀x:Str,x≠"__name__"->mb x=bootBuiltins x
 nolimit:base.NoLimit
set_option genInjectivity false in
structure Cx where
 prog:b8
 w:df
 K:aj
 mg:Str->Option aq
 base:ed
 A:d4
 N:List Str
 s₀:ax
 H₀:Hp
 env:Env
 outer:List Env
 stack:List Env
 ex:List av
 fn:Str->Bool
 calm:Bool
 pn:List (av×Obj)
 xe:aq->ax->Prop
noncomputable def Re(l:List Env):List Addr:=l.filterMap (·.frame)
abbrev Cx.fs(X:Cx):List Addr:=Re X.outer
def Hh(sc:Scope)(x:Str):Prop:=sc.names.lookup x=aA .local\/sc.names.lookup x=aA .cell\/sc.names.lookup x=aA .free
def Loc(sc:Scope)(x:Str):Prop:=sc.names.lookup x=aA .local\/sc.names.lookup x=aA .cell
def BA(env:Env)(h:ed)(m:Str->Option aq)(x:Str)(u:aq):Prop:=
 (env.kindOf x=aA .local/\m x=aA u)\/((env.kindOf x=aA .cell\/env.kindOf x=aA .free)/\∃c,env.cells.lookup x=aA c/\h.IsCell c (aA u))
set_option genInjectivity false in
structure Cx.Ok(X:Cx):Prop where
 mod:Mod X.K X.mg X.base
 kind:X.env.scope.kind= .function
 glob:X.env.globals=c8
 blt:X.env.builtins=builtinsNs
 above:X.s₀.heap.objs.size<=X.env.locals
 inj:∀x y c,X.env.cells.lookup x=aA c->X.env.cells.lookup y=aA c->x=y
 has:∀x,(X.env.kindOf x=aA .cell\/X.env.kindOf x=aA .free)->∃c,X.env.cells.lookup x=aA c
 cab:∀x c,X.fn x=aC->X.env.cells.lookup x=aA c->X.s₀.heap.objs.size<=c
 hd:X.calm=aC->X.A.handled=aB
 frames:X.A.frames=aA X.stack
 stk:X.stack=X.outer\/(X.stack=X.env::X.outer/\X.env.frame=aA X.env.locals)
 exf:∀b∈X.ex,b≠X.env.locals/\∀x c,X.env.cells.lookup x=aA c->c≠b
 bs:∀b o,X.base.get? b=aA o->X.s₀.heap.get? b=aA o/\X.H₀ b=aB
 bsz:X.base.objs.size<=X.s₀.heap.objs.size
 noex:∀b o,X.base.get? b=aA o->b∉X.ex
 exfs:∀b∈X.ex,b∉X.fs
 funs:X.s₀.heap.FunFrames X.base X.outer
 frf:∀b∈X.fs,X.H₀ b=aB
structure cP(X:Cx)(cO:List (av×Obj))(σ:List (Option V))(H:Hp)(s:ax):Prop where
 ok:X.Ok
 os:s.os=X.s₀.os
 bare:AllBare s.gens
 base:Un X.fs X.ex X.H₀ H X.s₀.heap s.heap
 loc:∃m,s.heap.Ns X.env.locals m/\∀(i:Nat) (x:Str) (v:V),X.N[i]? =aA x->σ[i]? =aA (aA v)->Hh X.env.scope x->∃u,Ya v u/\BA X.env s.heap m x u
 cell:∀x c,X.env.cells.lookup x=aA c->∃v,s.heap.IsCell c v
 free:H X.env.locals=aB
 freeC:∀x c,X.env.cells.lookup x=aA c->H c=aB
 pin:∀p∈X.pn++cO,s.heap.get? p.1=aA p.2/\H p.1=aB/\p.1≠X.env.locals/\p.1∉X.fs/\∀v,p.2.data≠.cell v
 hok:Rf X.prog X.w H s.heap
 len:σ.length=X.N.length
theorem Cx.Ok.nofr{X:Cx}(ok:X.Ok)(e:X.base.get? b=aA o):b∉X.fs:=λhb=>by have:=(ok.funs.mem hb).1;rw[e]at this;cases this
theorem cP.bs(I:cP X cO σ H s):∀b o,X.base.get? b=aA o->s.heap.get? b=aA o/\H b=aB:=λb o e=>
 ⟨I.base.keep b o (I.ok.bs b o e).1 (I.ok.bs b o e).2 (I.ok.nofr e) (I.ok.noex b o e),I.base.free b o (I.ok.bs b o e).1 (I.ok.bs b o e).2 (I.ok.noex b o e)⟩
theorem cP.bk(I:cP X cO σ H s):∀b o,X.base.get? b=aA o->s.heap.get? b=aA o:=λb o e=>(I.bs b o e).1
theorem cP.mod(I:cP X cO σ H s):Mod X.K X.mg X.base:=I.ok.mod
theorem cP.kIn(I:cP X cO σ H s):X.K.In s.heap:=I.ok.mod.kin.keeps I.bk
theorem cP.lt(I:cP X cO σ H s):X.env.locals<s.heap.objs.size:=let⟨_,hn,_⟩:=I.loc;hn.lt
theorem cP.sz(I:cP X cO σ H s):X.s₀.heap.objs.size<=s.heap.objs.size:=dw I.ok.above (Nat.le_of_lt I.lt)
theorem cP.nofs(I:cP X cO σ H s){a:av}(h:s.heap.objs.size<=a):a∉X.fs:=λhb=>by obtain⟨_,o,ho,_⟩:=I.ok.funs.mem hb;exact bN (c6 (bx ho) (dw I.sz h)) (fj _)
theorem cP.cne(I:cP X cO σ H s):∀x c,X.env.cells.lookup x=aA c->c≠X.env.locals:=λx c e z=>by refine We (I.cell x c e) λv o ho hd=>?_;obtain⟨m,⟨o',es,ep,V',UW,_⟩,_⟩:=I.loc;rw[z,V']at ho;cases ho;rw[UW]at hd;cases hd
theorem cP.funs(I:cP X cO σ H s):s.heap.FunFrames X.base X.outer:=by
 have all:∀(l:List Env),(∀b∈Re l,b∈X.fs)->X.s₀.heap.FunFrames X.base l->s.heap.FunFrames X.base l:=by
  intro l;induction l with
  |nil=>intro _ _;trivial
  |cons env r ih=>intro hs hl;obtain⟨hk,⟨L,o,hf,hn,ho,hd⟩,hr⟩:=hl;have hL:L∈X.fs:=hs L (by unfold Re;rw[List.filterMap_cons,hf];exact aa);obtain⟨sl,e⟩:=I.base.slot L o ho (I.ok.frf L hL) hL λz=>I.ok.exfs L z hL;exact⟨hk,⟨L,_,hf,hn,e,hd⟩,ih (λb hb=>hs b (by unfold Re;rw[List.filterMap_cons,hf];exact ad _ hb)) hr⟩
 exact all X.outer (λ_ hb=>hb) I.ok.funs
theorem cP.stack(I:cP X cO σ H s):s.heap.FunFrames X.base X.stack:=by
 rcases I.ok.stk with e|⟨e,hf⟩
 .rw[e];exact I.funs
 .rw[e];obtain⟨m,hn,_⟩:=I.loc;refine .cons (by rw[I.ok.kind];decide) hf hn ?_ I.funs;exact Heap.get?_none_of_le (dw I.ok.bsz I.ok.above)
theorem cP.stkSub(I:cP X cO σ H s):∀b∈Re X.stack,b∈X.env.locals::X.fs:=λb hb=>by
 rcases I.ok.stk with e|⟨e,hf⟩
 .rw[e]at hb;exact ad _ hb
 .rw[e]at hb;unfold Re at hb;rw[List.filterMap_cons,hf]at hb;exact hb
theorem cP.stkFree(I:cP X cO σ H s):∀b∈Re X.stack,H b=aB:=λb hb=>by
 rcases ba.mp (I.stkSub b hb)with e|hb
 .rw[e];exact I.free
 .obtain⟨_,o,ho,_⟩:=I.ok.funs.mem hb;exact I.base.free b o ho (I.ok.frf b hb) λz=>I.ok.exfs b z hb
theorem cP.step{ch:List av}(I:cP X cO σ H s)(WH:∀b∈ch,(b∈X.ex\/X.s₀.heap.objs.size<=b)/\b≠X.env.locals/\(∀x c,X.env.cells.lookup x=aA c->c≠b)/\∀p∈X.pn++cO,p.1≠b)(keep:∀b o,b≠X.env.locals->b∉X.fs->b∉ch->s.heap.get? b=aA o->H b=aB->h'.get? b=aA o)(slot:∀b o,b≠X.env.locals->b∈X.fs->b∉ch->s.heap.get? b=aA o->H b=aB->∃sl,h'.get? b=aA {o with slots:=sl})(free:∀b o,b∉ch->s.heap.get? b=aA o->H b=aB->H' b=aB)(there:∀b o,b∉ch->s.heap.get? b=aA o->∃o',h'.get? b=aA o')(tups:∀b xs,H b=aA (.tup xs)->H' b=aA (.tup xs))(frzs:∀b o u,H b=aA (.frz o u)->H' b=aA (.frz o u))(tbls:∀b ps,H b=aA (.tbl ps)->∃Z_,H' b=aA (.tbl (ps++Z_)))(ns:∀m,s.heap.Ns X.env.locals m->h'.Ns X.env.locals m)(hok:Rf X.prog X.w H' h')(hg:AllBare g'):
  cP X cO σ H' {s with heap:=h',gens:=g',drawn:=d',toks:=t'}:=by
 have DF:∀b o,X.s₀.heap.get? b=aA o->b≠X.env.locals:=λb o e=>d8 (c6 (bx e) I.ok.above);have NM:∀b o,X.s₀.heap.get? b=aA o->b∉X.ex->b∉ch:=λb o e hx hb=>by
  rcases(WH b hb).1 with z|z
  .exact hx z
  .exact bN (c6 (bx e) z) (fj _)
 have XW:∀x c,X.env.cells.lookup x=aA c->∀v,s.heap.IsCell c v->h'.IsCell c v:=λx c e v ⟨o,ho,hd⟩=>by
  have QX:c∉ch:=λz=>(WH c z).2.2.1 x c e rfl;by_cases hc:c∈X.fs
  .obtain⟨sl,q⟩:=slot c o (I.cne x c e) hc QX ho (I.freeC x c e);exact⟨_,q,hd⟩
  .exact⟨o,keep c o (I.cne x c e) hc QX ho (I.freeC x c e),hd⟩
 refine⟨I.ok,I.os,hg,⟨λb o e n hb hx=>?_,λb o e n hb hx=>?_,λb o e n hx=>?_,λb o e hx=>?_,λb xs e=>tups b xs (I.base.tups b xs e),λb o xs e=>frzs b o xs (I.base.frzs b o xs e),λb ps e=>?_⟩,?_,λx c e=>?_,?_,λx c e=>?_,λp hp=>?_,hok,I.len⟩
 .exact keep b o (DF b o e) hb (NM b o e hx) (I.base.keep b o e n hb hx) (I.base.free b o e n hx)
 .obtain⟨sl,e1⟩:=I.base.slot b o e n hb hx;obtain⟨TH,e2⟩:=slot b _ (DF b o e) hb (NM b o e hx) e1 (I.base.free b o e n hx);exact⟨TH,e2⟩
 .obtain⟨o',e1⟩:=I.base.there b o e hx;exact free b o' (NM b o e hx) e1 (I.base.free b o e n hx)
 .obtain⟨o',e1⟩:=I.base.there b o e hx;exact there b o' (NM b o e hx) e1
 .obtain⟨m1,e1⟩:=I.base.tbls b ps e;obtain⟨m2,e2⟩:=tbls b _ e1;exact⟨m1++m2,by rw[e2,Array.append_assoc]⟩
 .obtain⟨m,hn,hl⟩:=I.loc;refine⟨m,ns m hn,λi x v e1 e2 e3=>?_⟩;obtain⟨u,r,l⟩:=hl i x v e1 e2 e3;refine⟨u,r,?_⟩;rcases l with l|⟨k,c,e,z⟩
  .exact .inl l
  .exact .inr ⟨k,c,e,XW x c e _ z⟩
 .obtain⟨v,z⟩:=I.cell x c e;exact⟨v,XW x c e v z⟩
 .obtain⟨m,⟨o,_,_,ho,_⟩,_⟩:=I.loc;exact free _ o (λz=>(WH _ z).2.1 rfl) ho I.free
 .refine We (I.cell x c e) λv o ho hd=>?_;exact free c o (λz=>(WH c z).2.2.1 x c e rfl) ho (I.freeC x c e)
 .obtain⟨e,n,ne,nf,d⟩:=I.pin p hp;have QX:p.1∉ch:=λz=>(WH p.1 z).2.2.2 p hp rfl;exact⟨keep p.1 p.2 ne nf QX e n,free p.1 p.2 QX e n,ne,nf,d⟩
theorem cP.un(I:cP X cO σ H s)(u:Un X.fs [] H H' s.heap h')(hok:Rf X.prog X.w H' h'):cP X cO σ H' {s with heap:=h',toks:=t'}:=by
 obtain⟨m,⟨o,es,ep,ho,r⟩,_⟩:=id I.loc;obtain⟨sl,hL⟩:=u.any ho I.free (by simp);exact I.step (g':=s.gens) (d':=s.drawn) (ch:=[]) (λ_ z=>nomatch z) (λb o _ hb _ e n=>u.keep b o e n hb (by simp)) (λb o _ hb _ e n=>u.slot b o e n hb (by simp)) (λb o _ e n=>u.free b o e n (by simp)) (λb o _ e=>u.there b o e (by simp)) u.tups u.frzs u.tbls (λm' hm=>by
  obtain⟨o',QD,WL,V',r'⟩:=hm;rw[ho]at V';cases V';exact⟨_,QD,WL,hL,r'⟩) hok I.bare
theorem cP.call(I:cP X cO σ H s)(u:Un (Re X.stack) ch H H' s.heap h')(hok:Rf X.prog X.w H' h')(hg:AllBare g')(WH:∀b∈ch,(b∈X.ex\/X.s₀.heap.objs.size<=b)/\b≠X.env.locals/\(∀x c,X.env.cells.lookup x=aA c->c≠b)/\∀p∈X.pn++cO,p.1≠b):
  cP X cO σ H' {s with heap:=h',gens:=g',drawn:=d',toks:=t'}:=by
 obtain⟨m,⟨o,es,ep,ho,r⟩,_⟩:=id I.loc;obtain⟨sl,hL⟩:=u.any ho I.free λz=>(WH _ z).2.1 rfl;exact I.step (ch:=ch) WH (λb o hL hb hc e n=>u.keep b o e n (λz=>(ba.mp (I.stkSub b z)).elim hL hb) hc) (λb o _ _ hc e n=>u.any e n hc) (λb o hc e n=>u.free b o e n hc) (λb o hc e=>u.there b o e hc) u.tups u.frzs u.tbls (λm' hm=>by
  obtain⟨o',QD,WL,V',r'⟩:=hm;rw[ho]at V';cases V';exact⟨_,QD,WL,hL,r'⟩) hok hg
theorem cP.turned(I:cP X cO σ H s)(k:∀b o,b≠it->s.heap.get? b=aA o->h'.get? b=aA o)(hn:H it=aB)(hL:it≠X.env.locals)(h1:it∈X.ex\/X.s₀.heap.objs.size<=it)(h2:∀x c,X.env.cells.lookup x=aA c->c≠it)(h3:∀p∈X.pn++cO,p.1≠it):cP X cO σ H {s with heap:=h',toks:=t'}:=by
 have DE:∀b u,H b=aA u->b≠it:=λb u e z=>by rw[z,hn]at e;cases e
 refine I.step (g':=s.gens) (d':=s.drawn) (ch:=[it]) (λb hb=>?_) (λb o _ _ hc e _=>k b o (λz=>hc (by simp[z])) e) (λb o _ _ hc e _=>⟨o.slots,k b o (λz=>hc (by simp[z])) e⟩) (λ_ _ _ _ n=>n)
  (λb o hc e=>⟨o,k b o (λz=>hc (by simp[z])) e⟩) (λ_ _ e=>e) (λ_ _ _ e=>e) (λb ps e=>⟨#[],by rw[e];simp⟩) (λm hm=>?_) (λb u e=>?_) I.bare
 .have e:b=it:=by simpa using hb
  subst e;exact⟨h1,hL,h2,h3⟩
 .obtain⟨o,es,ep,ho,r⟩:=hm;exact⟨o,es,ep,k _ o (Ne.symm hL) ho,r⟩
 .refine(I.hok b u e).stay (λc v hc q=>k c v ?_ q) (λ_ q=>q) (λ_ _ q=>q) λ_ _ q=>q;rcases hc with z|z
  .rw[z];exact DE b u e
  .exact DE c _ z
theorem cP.tok(I:cP X cO σ H s)(t):cP X cO σ H {s with toks:=t}:=I.un (h':=s.heap) (t':=t) Un.refl I.hok
theorem cP.kept(I:cP X cO σ H s)(k:∀b u,s.heap.get? b=aA u->h'.get? b=aA u):cP X cO σ H {s with heap:=h',toks:=t'}:=I.un (Un.kept k) (I.hok.kept k)
theorem cP.laid{a:av}(I:cP X cO σ H s)(k:∀b u,s.heap.get? b=aA u->h'.get? b=aA u)(hp:s.heap.objs.size<=a)(new:Wi X.prog X.w (Wu H a o) h' a o):
  cP X cO σ (Wu H a o) {s with heap:=h',toks:=t'}:=I.un (Un.laid k hp (I.hok.fresh hp)) (I.hok.laid k hp new)
theorem cP.write(I:cP X cO σ H s)(mu:Mut (H x))(he:e=x\/H e=aA (.own x))(k:∀b u,b≠e->s.heap.get? b=aA u->h'.get? b=aA u)(QA:∃u,h'.get? e=aA u)(new:Wi X.prog X.w (Wu H x o) h' x o):cP X cO σ (Wu H x o) {s with heap:=h',toks:=t'}:=I.un (Un.write mu he k QA) (I.hok.write mu he k QA new)
theorem cP.pins_of(I:cP X cO σ H s)(h:∀p∈pins',s.heap.get? p.1=aA p.2/\H p.1=aB/\p.1≠X.env.locals/\p.1∉X.fs/\∀v,p.2.data≠.cell v):cP X pins' σ H s:=
 ⟨I.ok,I.os,I.bare,I.base,I.loc,I.cell,I.free,I.freeC,λp hp=>(bo.mp hp).elim (λz=>I.pin p (ci _ z)) (h p),I.hok,I.len⟩
theorem Ka{N:List Str}(hN:N.Nodup){i:Nat}(a:N[i]? =aA x)(b:N[j]? =aA x):i=j:=by obtain⟨h1,e1⟩:=bf.mp a;obtain⟨h2,e2⟩:=bf.mp b;exact(List.getElem_inj hN).mp (e1.trans e2.symm)
theorem Nz(I:cP X cO σ H s)(hN:X.N.Nodup)(hi:X.N[i]? =aA x)(hx:Loc X.env.scope x)(r:Ya v u)(h:∀s',cP X cO (σ.set i (aA v)) H s'->(∃a,Heap.SameBut a s.heap s'.heap/\(a=X.env.locals\/X.env.cells.lookup x=aA a))->Q () s')(hf:‹X.fn x=aC\/X.env.scope.names.lookup x=aA .local›):b5 M A (storeName X.env x u) Q E s:=by
 obtain⟨m,hn,hl⟩:=id I.loc;have RE:(X.env.scope.kind== .class|| (X.env.scope.kind== .module&&X.env.locals !=X.env.globals))=aD:=by rw[I.ok.kind];rfl
 have PM:i<σ.length:=by rw[I.len];exact(bf.mp hi).1
 have cne:=I.cne;have XI:∀{a:av} {h':ed},(∃o,s.heap.get? a=aA o/\H a=aB)->Heap.SameBut a s.heap h'->Rf X.prog X.w H h':=fun{a h'} ha hs b ob e=>by
  obtain⟨_,_,TU⟩:=ha;refine(I.hok b ob e).stay (λc w' hc q=>(hs.2 c ?_).trans q) (λ_ q=>q) (λ_ _ q=>q) λ_ _ q=>q;rintro rfl;rcases hc with rfl|hc
  .rw[TU]at e;cases e
  .rw[TU]at hc;cases hc
 rcases hx with hk|hk
 .refine wpAny_storeName_local hk hn (λh' JN hs=>?_) RE;obtain⟨oL,_,_,DW,_⟩:=id hn;refine h _ ⟨I.ok,I.os,I.bare,⟨λb o e n hb hx=>?_,λb o e n hb hx=>?_,I.base.free,λb o e hx=>?_,I.base.tups,I.base.frzs,I.base.tbls⟩,⟨_,JN,λj y v' e1 e2 e3=>?_⟩,λy c e=>?_,I.free,I.freeC,λp hp=>?_,XI ⟨oL,DW,I.free⟩ hs,by simpa using I.len⟩ ⟨_,hs,.inl rfl⟩
  .exact(hs.2 b (d8 (c6 (bx e) I.ok.above))).trans (I.base.keep b o e n hb hx)
  .obtain⟨sl,e1⟩:=I.base.slot b o e n hb hx;exact⟨sl,(hs.2 b (d8 (c6 (bx e) I.ok.above))).trans e1⟩
  .obtain⟨o',e1⟩:=I.base.there b o e hx;exact⟨o',(hs.2 b (d8 (c6 (bx e) I.ok.above))).trans e1⟩
  .by_cases hj:j=i
   .subst hj;rw[hi]at e1;cases e1;rw[d3 PM]at e2;cases e2;exact⟨u,r,.inl ⟨hk,by simp⟩⟩
   .rw[du (Ne.symm hj)]at e2;obtain⟨u',r',q⟩:=hl j y v' e1 e2 e3;refine⟨u',r',?_⟩;rcases q with⟨k,e⟩|⟨k,c,e,z⟩
    .refine .inl ⟨k,?_⟩;have:y≠x:=λe=>hj (Ka hN e1 (e▸hi));simp[this,e]
    .exact .inr ⟨k,c,e,z.sameBut hs (cne y c e)⟩
  .obtain⟨w',z⟩:=I.cell y c e;exact⟨w',z.sameBut hs (cne y c e)⟩
  .obtain⟨e,n,ne,nf,d⟩:=I.pin p hp;exact⟨(hs.2 p.1 ne).trans e,n,ne,nf,d⟩
 .have JT:X.fn x=aC:=by
   rcases hf with z|z
   .exact z
   .rw[z]at hk;cases hk
  obtain⟨c,hc⟩:=I.ok.has x (.inl hk);obtain⟨w',z⟩:=I.cell x c hc;refine wpAny_storeName_cell I.ok.kind hk hc z (λh' PQ hs=>?_);obtain⟨oc,UK,V_⟩:=id z;refine h {s with heap:=h'} ⟨I.ok,I.os,I.bare,⟨λb o e n hb hx=>?_,λb o e n hb hx=>?_,I.base.free,λb o e hx=>?_,I.base.tups,I.base.frzs,I.base.tbls⟩,⟨m,hn.sameBut hs (Ne.symm (cne x c hc)),λj y v' e1 e2 e3=>?_⟩,λy c' e=>?_,I.free,I.freeC,λp hp=>?_,XI ⟨oc,UK,I.freeC x c hc⟩ hs,by simpa using I.len⟩ ⟨c,hs,.inr hc⟩
  .exact(hs.2 b (d8 (c6 (bx e) (I.ok.cab x c JT hc)))).trans (I.base.keep b o e n hb hx)
  .obtain⟨sl,e1⟩:=I.base.slot b o e n hb hx;exact⟨sl,(hs.2 b (d8 (c6 (bx e) (I.ok.cab x c JT hc)))).trans e1⟩
  .obtain⟨o',e1⟩:=I.base.there b o e hx;exact⟨o',(hs.2 b (d8 (c6 (bx e) (I.ok.cab x c JT hc)))).trans e1⟩
  .by_cases hj:j=i
   .subst hj;rw[hi]at e1;cases e1;rw[d3 PM]at e2;cases e2;exact⟨u,r,.inr ⟨.inl hk,c,hc,PQ⟩⟩
   .rw[du (Ne.symm hj)]at e2;obtain⟨u',r',q⟩:=hl j y v' e1 e2 e3;refine⟨u',r',?_⟩;rcases q with q|⟨k,c',e,z'⟩
    .exact .inl q
    .refine .inr ⟨k,c',e,z'.sameBut hs ?_⟩;rintro rfl;exact hj (Ka hN e1 (I.ok.inj _ _ _ e hc▸hi))
  .by_cases hcc:c'=c
   .subst hcc;exact⟨_,PQ⟩
   .obtain⟨w2,z2⟩:=I.cell y c' e;exact⟨w2,z2.sameBut hs hcc⟩
  .obtain⟨e,n,ne,nf,d⟩:=I.pin p hp;refine⟨(hs.2 p.1 ?_).trans e,n,ne,nf,d⟩;intro q;rw[q,UK]at e;have q':oc=p.2:=Option.some.inj e;exact d w' (by rw[<-q'];exact V_)
theorem Ac(I:cP X cO σ H s)(hN:X.N.Nodup)(hi:X.N[i]? =aA x)(hx:Loc X.env.scope x)(r:Ya v u)(h:∀s',cP X cO (σ.set i (aA v)) H s'->Q () s')(hf:‹X.fn x=aC\/X.env.scope.names.lookup x=aA .local›):b5 M A (storeName X.env x u) Q E s:=
 Nz I hN hi hx r (λs' I' _=>h s' I') hf
theorem cP.call'(I:cP X cO σ H s)(ho:s'.os=s.os)(u:Un (Re X.stack) ch H H' s.heap s'.heap)(hok:Rf X.prog X.w H' s'.heap)(hg:AllBare s'.gens)(WH:∀b∈ch,(b∈X.ex\/X.s₀.heap.objs.size<=b)/\b≠X.env.locals/\(∀x c,X.env.cells.lookup x=aA c->c≠b)/\∀p∈X.pn++cO,p.1≠b):cP X cO σ H' s':=by
 obtain⟨h',g',d',t',o'⟩:=s';have e:o'=s.os:=ho;subst e;exact I.call (g':=g') (t':=t') (d':=d') u hok hg WH
abbrev XK:=aq->Option av->Hp->Prop
noncomputable abbrev St:=List (Option V)
abbrev VK:=V->Hp->Prop
abbrev TE:=St->Hp->VK->Prop
abbrev TT:=St->Hp->(Bool->Hp->Prop)->Prop
abbrev TA:=St->Hp->(List V->Hp->Prop)->Prop
set_option genInjectivity false in
structure Ends where
 nx:St->Hp->Prop
 rt:VK
 bk:St->Hp->Prop:=λ_ _=>False
 ct:St->Hp->Prop:=λ_ _=>False
abbrev TS:=Ends->St->Hp->Prop
def EP(X:Cx)(cO:List (av×Obj))(σ:St)(Q:VK)(u:aq)(s':ax):Prop:=∃v H',cP X cO σ H' s'/\Ya v u/\Q v H'
def TP(X:Cx)(cO:List (av×Obj))(σ:St)(Q:Bool->Hp->Prop)(b:Bool)(s':ax):Prop:=∃H',cP X cO σ H' s'/\Q b H'
def AP(X:Cx)(cO:List (av×Obj))(σ:St)(Q:List V->Hp->Prop)(us:List aq)(s':ax):Prop:=∃vs H',cP X cO σ H' s'/\Ym vs us/\Q vs H'
def SP(X:Cx)(cO:List (av×Obj))(D:Ends)(f:Flow)(s':ax):Prop:=
 match f with
 | .next=>∃ZB H',cP X cO ZB H' s'/\D.nx ZB H'
 | .brk=>∃ZB H',cP X cO ZB H' s'/\D.bk ZB H'
 | .cont=>∃ZB H',cP X cO ZB H' s'/\D.ct ZB H'
 | .ret u=>∃v ZB H',cP X cO ZB H' s'/\Ya v u/\D.rt v H'
def PE(X:Cx)(e:ca)(t:TE):Prop:=
 ∀(cO:List (av×Obj)) (s:ax) (σ:St) (H:Hp) (Q:VK),cP X cO σ H s->t σ H Q->b5 (cv X.prog X.w) X.A (dj e X.env) (EP X cO σ Q) X.xe s
def PT(X:Cx)(e:ca)(t:TT):Prop:=
 ∀(cO:List (av×Obj)) (s:ax) (σ:St) (H:Hp) (Q:Bool->Hp->Prop),cP X cO σ H s->t σ H Q->b5 (cv X.prog X.w) X.A (isTrue e X.env (dj e X.env)) (TP X cO σ Q) X.xe s
def PW(X:Cx)(e:ca)(t:TT):Prop:=
 ∀(Y_:Sem aq) (cO:List (av×Obj)) (s:ax) (σ:St) (H:Hp) (Q:Bool->Hp->Prop),cP X cO σ H s->t σ H Q->b5 (cv X.prog X.w) X.A (isTrue e X.env Y_) (TP X cO σ Q) X.xe s
theorem PW.pt(h:PW X e t):PT X e t:=h _
def PA(X:Cx)(es:List ca)(t:TA):Prop:=
 ∀(pos:Pos) (cO:List (av×Obj)) (s:ax) (σ:St) (H:Hp) (Q:List V->Hp->Prop),cP X cO σ H s->t σ H Q->b5 (cv X.prog X.w) X.A (spliced (c9 pos (au es X.env))) (AP X cO σ Q) X.xe s
def PS(X:Cx)(st:Stmt)(t:TS):Prop:=
 ∀(cO:List (av×Obj)) (s:ax) (σ:St) (H:Hp) (D:Ends),cP X cO σ H s->t D σ H->b5 (cv X.prog X.w) X.A (exec st X.env) (SP X cO D) X.xe s
def Mh(X:Cx)(st:List Stmt)(t:TS):Prop:=
 ∀(cO:List (av×Obj)) (s:ax) (σ:St) (H:Hp) (D:Ends),cP X cO σ H s->t D σ H->b5 (cv X.prog X.w) X.A (execs st X.env) (SP X cO D) X.xe s
theorem W7{Q:α->ax->Prop}(h:b5 M A t Q E s)(hQ:∀a s,Q a s->Q' a s):b5 M A t Q' E s:=eh h hQ λ_ _ x=>x
section
def Ol(i:Nat):TE:=λσ H Q=>∃v,σ[i]? =aA (aA v)/\Q v H
def tC(v:V):TE:=λ_ H Q=>Q v H
theorem Om{X:Cx}{pos}(hN:X.N[i]? =aA x)(hv:Hh X.env.scope x)(hd:‹(x==("__debug__":Str))=aD›)(YC:‹(x==("__classdict__":Str))=aD›):PE X (.Name x pos) (Ol i):=by
 intro cO s σ H Q I h;obtain⟨v,e,h⟩:=h;obtain⟨m,hn,hl⟩:=I.loc;obtain⟨u,r,l⟩:=hl i x v hN e hv;have fin:EP X cO σ Q u s:=⟨v,H,I,r,h⟩
 rcases l with⟨hk,hm⟩|⟨hk,c,hc,hcell⟩
 .exact wpAny_Name (wpAny_loadName_local I.ok.kind hk hn hm fin) hd
 .rcases hk with hk|hk
  .exact wpAny_Name (wpAny_loadName_cell I.ok.kind hk hc hcell fin) hd
  .exact wpAny_Name (wpAny_loadName_free I.ok.kind hk hc hcell fin YC) hd
theorem S3:PE X (.Constant (.int i) j pos) (tC (.int i)):=λ_ _ _ H _ I h=>wpAny_Constant_int ⟨.int i,H,I.tok _,⟨_,rfl⟩,h⟩
theorem tO:PE X (.Constant (.bool b) j pos) (tC (.bl b)):=λ_ _ _ H _ I h=>Constant_bool ⟨.bl b,H,I,rfl,h⟩
theorem pC:PE X (.Constant .none j pos) (tC .non):=λ_ _ _ H _ I h=>Constant_none ⟨.non,H,I,rfl,h⟩
theorem S4:PE X (.Constant (.str x) j pos) (tC (.str x)):=λ_ _ _ H _ I h=>Calls.Constant_str ⟨.str x,H,I.tok _,⟨_,rfl⟩,h⟩
def Gl(X:Cx)(x:Str):Prop:=X.env.kindOf x=aA .globalImplicit
theorem Ad{σ:St}(I:cP X cO σ H s)(hg:Gl X x)(hm:X.mg x=aA u)(h:Q u s)(hd:‹(x==("__debug__":Str))=aD›):b5 (cv X.prog X.w) X.A (dj (.Name x pos) X.env) Q E s:=
 Calls.Name_function_global I.ok.kind hg (Calls.loadGlobal_global (by rw[I.ok.glob];exact I.mod.glob.keeps I.bk) hm h) hd
theorem Et{E}{σ:St}{pos}(I:cP X cO σ H s)(hg:Gl X x)(hm:X.mg x=aB)(hv:bootBuiltins x=aA u)(h:Q u s)(hn:‹x≠"__name__"›)(hd:‹(x==("__debug__":Str))=aD›):b5 (cv X.prog X.w) X.A (dj (.Name x pos) X.env) Q E s:=by
 obtain⟨mb,h1,h2⟩:=I.mod.blt;exact Calls.Name_function_global I.ok.kind hg (Calls.loadGlobal_builtin (by rw[I.ok.glob];exact I.mod.glob.keeps I.bk) hm (by rw[I.ok.blt];exact h1.keeps I.bk) ((h2 x hn).trans hv) h) hd
theorem wA(hg:Gl X x)(hm:X.mg x=aA u)(r:Ya v u)(hd:‹(x==("__debug__":Str))=aD›):PE X (.Name x pos) (tC v):=
 λ_ _ _ H _ I h=>Ad I hg hm ⟨v,H,I,r,h⟩ hd
theorem mE{pos}(hg:Gl X x)(hm:X.mg x=aB)(hv:bootBuiltins x=aA u)(r:Ya v u)(hn:‹x≠"__name__"›)(hd:‹(x==("__debug__":Str))=aD›):PE X (.Name x pos) (tC v):=
 λ_ _ _ H _ I h=>Et I hg hm hv ⟨v,H,I,r,h⟩ hn hd
def tB(t:TE):TT:=λσ H Q=>t σ H λx H1=>∃c,x= .bl c/\Q c H1
theorem pB(h:PE X e t)(he:‹∀Y_,isTrue e X.env Y_=(do let v<-Y_;standAt e.pos;holding [v] (truthy v))›):PT X e (tB t):=by intro cO s σ H Q I hw;refine isTrue_plain (W7 (h cO s σ H _ I hw) λv s1 ⟨x,H1,I1,r1,q1⟩=>?_) (he _);obtain⟨d,rfl,q⟩:=q1;cases r1;exact wpAny_truthy_bool ⟨H1,I1,q⟩
variable{rest:List ca}
def C'(t u:TT):TT:=λσ H Q=>t σ H λc H1=>if c=aC then u σ H1 Q else Q aD H1
def tOr(t u:TT):TT:=λσ H Q=>t σ H λc H1=>if c=aC then Q aC H1 else u σ H1 Q
def C_(t:TT):TT:=λσ H Q=>t σ H λc H1=>Q (!c) H1
theorem mD(ha:PT X a tA):PW X (.BoolOp .And [a] pos) tA:=by
 intro wh cO s σ H Q I h;refine isTrue_and (W7 (ha cO s σ H Q I h) λc s1 e=>?_);cases c with
 |true=>exact isTrue_and_nil e
 |false=>exact e
theorem pP(ha:PT X a tA):PW X (.BoolOp .Or [a] pos) tA:=by
 intro wh cO s σ H Q I h;refine isTrue_or (W7 (ha cO s σ H Q I h) λc s1 e=>?_);cases c with
 |false=>exact isTrue_or_nil e
 |true=>exact e
theorem pO(ha:PT X a tA)(hb:PW X (.BoolOp .And (b::rest) pos) tB'):PW X (.BoolOp .And (a::b::rest) pos) (C' tA tB'):=by
 intro wh cO s σ H Q I h;refine isTrue_and (W7 (ha cO s σ H _ I h) λc s1 ZJ=>?_);obtain⟨H1,I1,q1⟩:=ZJ;cases c with
 |true=>exact hb wh cO s1 σ H1 Q I1 q1
 |false=>exact⟨H1,I1,q1⟩
theorem tN(ha:PT X a tA)(hb:PW X (.BoolOp .Or (b::rest) pos) tB'):PW X (.BoolOp .Or (a::b::rest) pos) (tOr tA tB'):=by
 intro wh cO s σ H Q I h;refine isTrue_or (W7 (ha cO s σ H _ I h) λc s1 ZJ=>?_);obtain⟨H1,I1,q1⟩:=ZJ;cases c with
 |true=>exact⟨H1,I1,q1⟩
 |false=>exact hb wh cO s1 σ H1 Q I1 q1
theorem pN(ha:PT X a tA):PT X (.UnaryOp .Not a pos) (C_ tA):=by intro cO s σ H Q I h;exact isTrue_not (ha cO s σ H (λc H1=>Q (!c) H1) I h)
def zF(ta tb:TE):TE:=λσ H Q=>ta σ H λx H1=>∃c,x= .bl c/\if c=aC then tb σ H1 Q else Q (.bl aD) H1
theorem pM  (h:PE X a t):PE X (.BoolOp op [a] pos) t:=λcO s σ H Q I hw=>BoolOp_one (h cO s σ H Q I hw)
theorem pL(ha:PE X a ta)(hb:PE X (.BoolOp .And (b::rest) pos) tb):PE X (.BoolOp .And (a::b::rest) pos) (zF ta tb):=by
 intro cO s σ H Q I h;refine BoolOp_and (W7 (ha cO s σ H _ I h) λv s1 ZJ=>?_);obtain⟨x,H1,I1,r1,q1⟩:=ZJ;obtain⟨c,rfl,q1⟩:=q1;cases r1;refine wpAny_truthy_bool ?_;cases c with
 |true=>exact hb cO s1 σ H1 Q I1 q1
 |false=>exact⟨.bl aD,H1,I1,rfl,q1⟩
def tIf(t:TT)(ta tb:TE):TE:=λσ H Q=>t σ H λc H1=>if c=aC then ta σ H1 Q else tb σ H1 Q
theorem kS(hc:PT X c tA)(ha:PE X a ta)(hb:PE X b tb):PE X (.IfExp c a b pos) (tIf tA ta tb):=by
 intro cO s σ H Q I h;refine wpAny_IfExp (W7 (hc cO s σ H _ I h) λd s1 ZJ=>?_);obtain⟨H1,I1,q1⟩:=ZJ;cases d with
 |true=>exact ha cO s1 σ H1 Q I1 q1
 |false=>exact hb cO s1 σ H1 Q I1 q1
end
def On(K:aj)(H:Hp)(a:av)(xs:List V):Prop:=
 Rd H a (.lst xs)\/
  ∃(o:Obj) (cS:Array aq) (n:Nat),K.lookup a=aA o/\o.cls= .type "list"/\o.dict=aB/\o.data= .seq cS n/\cS.size<=sizeLine/\Ym xs cS.toList
def Er(K:aj)(H:Hp)(a:av)(xs:List V):Prop:=
 Rd H a (.tup xs)\/
  ∃(o:Obj) (cS:Array aq) (n:Nat),K.lookup a=aA o/\o.cls= .type "tuple"/\o.data= .seq cS n/\cS.size<=sizeLine/\Ym xs cS.toList
noncomputable def gJ:aq->Option V
 | .none=>aA .non
 | .bool b=>aA (.bl b)
 | .int i _=>aA (.int i)
 | .str x _=>aA (.str x)
 | .bytes b _=>aA (.byt b)
 | .float b _=>aA (.flt b)
 | .ref a=>aA (.ref a)
 | .type n=>aA (.ty n)
 |_=>aB
theorem Ya.abs(r:Ya x u):gJ u=aA x:=by
 cases x with
 |non=>cases r;rfl
 |bl _=>cases r;rfl
 |int _=>obtain⟨t,rfl⟩:=r;rfl
 |str _=>obtain⟨t,rfl⟩:=r;rfl
 |byt _=>obtain⟨t,rfl⟩:=r;rfl
 |flt _=>obtain⟨t,rfl⟩:=r;rfl
 |ref _=>cases r;rfl
 |ty _=>cases r;rfl
theorem Ya.inj(r:Ya x u)(q:Ya y u):x=y:=Option.some.inj (r.abs.symm.trans q.abs)
theorem Ym.inj:∀{ys:List V} {us:List aq},Ym xs us->Ym ys us->xs=ys:=by
 induction xs with
 |nil=>intro ys us h g;cases h;cases g;rfl
 |cons x xs ih=>
  intro ys us h g;cases h with
  |cons r t=>
   cases g with
   |cons r' t'=>rw[r.inj r',ih t t']
section
variable{X:Cx}{cO:List (av×Obj)}{σ:St}{H:Hp}{s:ax}{a:av}{xs ys:List V}
theorem cP.list(I:cP X cO σ H s)(h:On X.K H a xs):∃cS,Ym xs cS/\PlainL s.heap a cS.toArray/\xs.length<=sizeLine:=by
 rcases h with h|⟨o,cS,n,hk,hc,hd,hs,hz,r⟩
 .obtain⟨z,cS,n,r,e⟩:=h.ok I.hok;exact⟨cS,r,⟨_,n,e,rfl,rfl,rfl⟩,z⟩
 .refine⟨cS.toList,r,⟨o,n,I.kIn a o hk,hc,hd,by simpa using hs⟩,?_⟩;have e:=r.length;simp only[gc]at e;omega
theorem cP.tuple(I:cP X cO σ H s)(h:Er X.K H a xs):∃cS,Ym xs cS/\IsTup s.heap a cS.toArray/\xs.length<=sizeLine:=by
 rcases h with h|⟨o,cS,n,hk,hc,hs,hz,r⟩
 .obtain⟨z,cS,r,p⟩:=h.ok I.hok;exact⟨cS,r,p,z⟩
 .refine⟨cS.toList,r,⟨o,I.kIn a o hk,hc,n,by simpa using hs⟩,?_⟩;have e:=r.length;simp only[gc]at e;omega
theorem cP.list_inj(I:cP X cO σ H s)(h:On X.K H a xs)(h':On X.K H a ys):xs=ys:=by
 obtain⟨cS,r,⟨o,n,e,_,_,d⟩,_⟩:=I.list h;obtain⟨its',r',⟨o',n',e',_,_,d'⟩,_⟩:=I.list h';rw[e]at e';cases e';rw[d]at d';injection d' with d1 _
 have:cS=its':=by simpa using congrArg Array.toList d1
 subst this;exact r.inj r'
theorem cP.tuple_inj(I:cP X cO σ H s)(h:Er X.K H a xs)(h':Er X.K H a ys):xs=ys:=by
 obtain⟨cS,r,⟨o,e,_,n,d⟩,_⟩:=I.tuple h;obtain⟨its',r',⟨o',e',_,n',d'⟩,_⟩:=I.tuple h';rw[e]at e';cases e';rw[d]at d';injection d' with d1 _
 have:cS=its':=by simpa using congrArg Array.toList d1
 subst this;exact r.inj r'
end
noncomputable abbrev Cx.wish(X:Cx)(E:aq->ax->Prop):Cx:={X with xe:=E}
noncomputable abbrev Cx.nox(X:Cx):Cx:=X.wish λ_ _=>False
theorem Cx.Ok.wish{X:Cx}(ok:X.Ok)(E):(X.wish E).Ok:=
 ⟨ok.mod,ok.kind,ok.glob,ok.blt,ok.above,ok.inj,ok.has,ok.cab,ok.hd,ok.frames,ok.stk,ok.exf,ok.bs,ok.bsz,ok.noex,ok.exfs,ok.funs,ok.frf⟩
theorem Cx.Ok.unwish{X:Cx}(ok:(X.wish E).Ok):X.Ok:=
 ⟨ok.mod,ok.kind,ok.glob,ok.blt,ok.above,ok.inj,ok.has,ok.cab,ok.hd,ok.frames,ok.stk,ok.exf,ok.bs,ok.bsz,ok.noex,ok.exfs,ok.funs,ok.frf⟩
section
variable{X:Cx}{cO:List (av×Obj)}{σ:St}{H:Hp}{s:ax}{E:aq->ax->Prop}
theorem cP.wish(I:cP X cO σ H s)(E):cP (X.wish E) cO σ H s:=⟨I.ok.wish E,I.os,I.bare,I.base,I.loc,I.cell,I.free,I.freeC,I.pin,I.hok,I.len⟩
theorem cP.unwish(I:cP (X.wish E) cO σ H s):cP X cO σ H s:=⟨I.ok.unwish,I.os,I.bare,I.base,I.loc,I.cell,I.free,I.freeC,I.pin,I.hok,I.len⟩
theorem SP.unwish(h:SP (X.wish E) cO D f s'):SP X cO D f s':=by
 cases f with
 |next=>refine We h λZB H' I q=>?_;exact⟨ZB,H',I.unwish,q⟩
 |brk=>refine We h λZB H' I q=>?_;exact⟨ZB,H',I.unwish,q⟩
 |cont=>refine We h λZB H' I q=>?_;exact⟨ZB,H',I.unwish,q⟩
 |ret u=>obtain⟨v,ZB,H',I,r,q⟩:=h;exact⟨v,ZB,H',I.unwish,r,q⟩
theorem Mh.nox{st}(h:Mh X.nox st t):Mh X st t:=λcO s σ H D I hw=>
 eh (h cO s σ H D (I.wish _) hw) (λ_ _ q=>q.unwish) λ_ _ z=>False.elim z
end
section
variable{X:Cx}{st:Stmt}{t u:TS}
def zE:TS:=λD σ H=>D.nx σ H
def HN(t u:TS):TS:=λD σ H=>t {D with nx:=u D} σ H
theorem mB:Mh X [] zE:=λ_ _ σ H _ I h=>wpAny_execs_nil ⟨σ,H,I,h⟩
theorem Hi{rest:List Stmt}(h1:PS X st t)(h2:Mh X rest u):Mh X (st::rest) (HN t u):=by
 intro cO s σ H D I h;refine wpAny_execs_cons (W7 (h1 cO s σ H {D with nx:=u D} I h) λf s1 q=>?_);cases f with
 |next=>refine We q λZB H' I' q=>?_;exact h2 cO s1 ZB H' D I' q
 |ret v=>exact q
 |brk=>exact q
 |cont=>exact q
theorem x_(h1:PS X st t):Mh X [st] t:=by
 intro cO s σ H D I h;refine wpAny_execs_cons (W7 (h1 cO s σ H D I h) λf s1 q=>?_);cases f with
 |next=>exact wpAny_execs_nil q
 |ret v=>exact q
 |brk=>exact q
 |cont=>exact q
theorem cP.quiet{σ:St}(I:cP X cO σ H s):interactive X.env=aD:=by simp[interactive,I.ok.kind]
def M7(te:TE):TS:=λD σ H=>te σ H λ_ H1=>D.nx σ H1
theorem Ot(he:PE X e te)(hs:‹swapsWith e aB pos.line X.env=pure aD›):PS X (.Expr e pos) (M7 te):=by intro cO s σ H D I h;exact wpAny_Expr_any (W7 (he cO s σ H _ I h) λv s1 ⟨x,H1,I1,r1,q1⟩=>⟨σ,H1,I1,q1⟩) I.quiet hs
def QN(te:TE):TS:=λD σ H=>te σ H D.rt
theorem S5(he:PE X e te):PS X (.Return (aA e) pos) (QN te):=by intro cO s σ H D I h;exact wpAny_Return_some (W7 (he cO s σ H _ I h) λv s1 ⟨x,H1,I1,r1,q1⟩=>⟨x,σ,H1,I1,r1,q1⟩)
def CZ(c:TT)(t u:TS):TS:=λD σ H=>c σ H λb H1=>if b=aC then t D σ H1 else u D σ H1
theorem t5(hc:PT X c tc)(ha:Mh X a t)(hb:Mh X b u):PS X (.If c a b pos) (CZ tc t u):=by
 intro cO s σ H D I h;refine wpAny_If (W7 (hc cO s σ H _ I h) λd s1 ZJ=>?_);obtain⟨H1,I1,q1⟩:=ZJ;cases d with
 |true=>exact ha cO s1 σ H1 D I1 q1
 |false=>exact hb cO s1 σ H1 D I1 q1
def pK:TS:=λ_ _ _=>False
theorem kR:PS X st pK:=λ_ _ _ _ _ _ h=>h.elim
end
abbrev TG:=V->St->Hp->(St->Hp->Prop)->Prop
abbrev TGs:=List V->St->Hp->(St->Hp->Prop)->Prop
def PG(X:Cx)(ZV:ca)(t:TG):Prop:=
 ∀(cO:List (av×Obj)) (s:ax) (σ:St) (H:Hp) (v:V) (u:aq) (Q:St->Hp->Prop),cP X cO σ H s->Ya v u->t v σ H Q->
  b5 (cv X.prog X.w) X.A (assign ZV X.env u) (λ_ s'=>∃ZB H',cP X cO ZB H' s'/\Q ZB H') X.xe s
def PGs(X:Cx)(ts:List ca)(t:TGs):Prop:=
 ∀(cO:List (av×Obj)) (s:ax) (σ:St) (H:Hp) (vs:List V) (us:List aq) (Q:St->Hp->Prop),cP X cO σ H s->Ym vs us->t vs σ H Q->
  b5 (cv X.prog X.w) X.A (assignInOrder ((assignEach ts X.env).map (·.2)) us) (λ_ s'=>∃ZB H',cP X cO ZB H' s'/\Q ZB H') X.xe s
abbrev TIp:=V->V->Hp->VK->Prop
def PIp(X:Cx)(op:Operator)(t:TIp):Prop:=
 ∀(cO:List (av×Obj)) (s:ax) (σ:St) (H:Hp) (x y:V) (v u:aq) (Q:VK),cP X cO σ H s->Ya x v->Ya y u->t x y H Q->
  b5 (cv X.prog X.w) X.A (inplaceOp op v u) (EP X cO σ Q) X.xe s
section
variable{pos:Pos}
def Il(i:Nat):TG:=λv σ H Q=>Q (σ.set i (aA v)) H
theorem n_(hN:X.N.Nodup)(hi:X.N[i]? =aA x)(hx:Loc X.env.scope x)(hf:‹X.fn x=aC\/X.env.scope.names.lookup x=aA .local›):PG X (.Name x pos) (Il i):=by intro cO s σ H v u Q I r h;exact wpAny_assign_Name (Ac I hN hi hx r (λs' I'=>⟨_,H,I',h⟩) hf)
def BG:TGs:=λvs σ H Q=>vs=[]/\Q σ H
def zD(t:TG)(u:TGs):TGs:=λvs σ H Q=>∃v r,vs=v::r/\t v σ H λZB H'=>u r ZB H' Q
theorem n9:PGs X [] BG:=by intro cO s σ H vs us Q I r h;obtain⟨e,h⟩:=h;subst e;cases r;exact assignInOrder_nil ⟨σ,H,I,h⟩
theorem kQ(h1:PG X e t)(h2:PGs X es u)(hs:‹(assignEach (e::es) X.env).map (·.2)=assign e X.env::(assignEach es X.env).map (·.2)›):PGs X (e::es) (zD t u):=by
 intro cO s σ H vs us Q I r h;obtain⟨v,vr,e1,h⟩:=h;subst e1;cases r with
 |cons r rr=>rw[hs];refine assignInOrder_cons (W7 (h1 cO s σ H _ _ _ I r h) λ_ s1 ZJ=>?_);obtain⟨UF,H1,I1,q1⟩:=ZJ;exact h2 cO s1 UF H1 _ _ Q I1 rr q1
def BF(K:aj)(n:Nat)(t:TGs):TG:=λv σ H Q=>∃a xs,v= .ref a/\Er K H a xs/\xs.length=n/\t xs σ H Q
theorem pJ{k}(hc:X.calm=aC)(h:PGs X es t)(hn:‹(assignEach es X.env).length=n›)(YB:‹(assignEach es X.env).findIdx? (·.1)=aB›):PG X (.Tuple es k pos) (BF X.K n t):=by
 intro cO s σ H v u Q I r hw;obtain⟨a,xs,e1,hq,hl,hw⟩:=hw;subst e1;cases r;obtain⟨cS,rv,ht,hz⟩:=I.tuple hq;refine assign_Tuple_tuple (I.ok.hd hc) ht (by simp[hn,<-hl,rv.length]) YB λh' hx=>?_;have I1:cP X cO σ H {s with heap:=h'}:=I.kept (t':=s.toks) λb o e=>hx b o (d8 (bx e)) e;exact h cO _ σ H xs _ Q I1 (by simpa using rv) hw
def OU(te:TE)(g:TG):TS:=λD σ H=>te σ H λx H1=>g x σ H1 D.nx
theorem EI(hN:X.N.Nodup)(hi:X.N[i]? =aA x)(hx:Loc X.env.scope x)(he:PE X e te)(hs:‹swapsWith e (aA (.Name x pos')) pos.line X.env=pure aD›)(hf:‹X.fn x=aC\/X.env.scope.names.lookup x=aA .local›):
  PS X (.Assign [.Name x pos'] e pos) (OU te (Il i)):=by
 intro cO s σ H D I h;refine wpAny_Assign_Name (W7 (he cO s σ H _ I h) λv s1 ⟨y,H1,I1,r1,q1⟩=>?_) hs;exact Ac I1 hN hi hx r1 (λs2 I2=>⟨_,H1,I2,q1⟩) hf
def BE(i:Nat)(te:TE)(ti:TIp):TS:=λD σ H=>∃x,σ[i]? =aA (aA x)/\te σ H λy H1=>ti x y H1 λz H2=>D.nx (σ.set i (aA z)) H2
theorem pI(hN:X.N.Nodup)(hi:X.N[i]? =aA x)(hx:Loc X.env.scope x)(he:PE X e te)(ho:PIp X op ti)(hf:‹X.fn x=aC\/X.env.scope.names.lookup x=aA .local›):
  PS X (.AugAssign (.Name x pos') op e pos) (BE i te ti):=by
 intro cO s σ H D I h;obtain⟨v,e1,h⟩:=h;obtain⟨m,hn,hl⟩:=I.loc;have vd:Hh X.env.scope x:=by rcases hx with k|k;exact .inl k;exact .inr (.inl k)
 obtain⟨u,r,l⟩:=hl i x v hi e1 vd;refine wpAny_AugAssign_Name ?_;have go:b5 (cv X.prog X.w) X.A (dj e X.env) (λw s₂=>b5 (cv X.prog X.w) X.A (inplaceOp op u w) (λr s₃=>b5 (cv X.prog X.w) X.A (storeName X.env x r) (λ_=>SP X cO D .next) X.xe s₃) X.xe s₂) X.xe s:=by refine W7 (he cO s σ H _ I h) λw s1 ZJ=>?_;obtain⟨y,H1,I1,r1,q1⟩:=ZJ;refine W7 (ho cO s1 σ H1 v y u w _ I1 r r1 q1) λz s2 ZJ=>?_;obtain⟨zv,H2,I2,r2,q2⟩:=ZJ;exact Ac I2 hN hi hx r2 (λs3 I3=>⟨_,H2,I3,q2⟩) hf
 rcases l with⟨hk,hm⟩|⟨hk,c,hc,hcell⟩
 .exact wpAny_loadName_local I.ok.kind hk hn hm go
 .rcases hk with hk|hk
  .exact wpAny_loadName_cell I.ok.kind hk hc hcell go
  .rcases hx with k|k
   .have:X.env.scope.names.lookup x=aA .free:=hk;rw[k]at this;cases this
   .have:X.env.scope.names.lookup x=aA .free:=hk;rw[k]at this;cases this
def ipI(f:Int->Int->Int):TIp:=λx y H Q=>∃i j,x= .int i/\y= .int j/\Q (.int (f i j)) H
theorem pH:PIp X .Add (ipI λi j=>i+j):=by intro cO s σ H x y v u Q I r1 r2 h;refine Yd h λi j e1 e2 q=>?_;subst e1;subst e2;obtain⟨t,rfl⟩:=r1;obtain⟨t',rfl⟩:=r2;exact iadd_int ⟨.int _,H,I.tok _,⟨_,rfl⟩,q⟩
def yZ(c:TT)(tb:TS):TS:=λD σ H=>∃W:Nat->St->Hp->Prop,(∃m,W m σ H)/\∀m σ H,W m σ H->
 c σ H λb H1=>if b=aC then∃N:St->Hp->Prop,(∀ZB H',N ZB H'->∃m',m'<m/\W m' ZB H')/\tb {D with nx:=N,ct:=N,bk:=D.nx} σ H1 else D.nx σ H1
theorem kP(hp:PassesOwn (cv X.prog X.w) X.A X.env X.xe)(hc:PT X c tc)(hb:Mh X body tb):PS X (.While c body [] pos) (yZ tc tb):=by
 intro cO s σ H D I h;obtain⟨W,⟨m0,w0⟩,turn⟩:=h;refine wpAny_While (codeAny_whileLoop (λn s'=>∃ZB H',cP X cO ZB H' s'/\W n ZB H') ?_ m0 ⟨σ,H,I,w0⟩);rintro n s1 ⟨UF,H1,I1,w1⟩;refine wpAny_passesOwn hp (W7 (hc cO s1 UF H1 _ I1 (turn n UF H1 w1)) λb s2 ZJ=>?_);obtain⟨H2,I2,q2⟩:=ZJ;cases b with
 |true=>
  obtain⟨N,hN,q2⟩:=q2;rw[bJ rfl];refine wpAny_passesOwn hp (W7 (hb cO s2 UF H2 _ I2 q2) λf s3 q3=>?_);cases f with
  |next=>refine We q3 λVQ H3 I3 n3=>?_;obtain⟨m',hm,w3⟩:=hN VQ H3 n3;exact⟨m',hm,VQ,H3,I3,w3⟩
  |cont=>refine We q3 λVQ H3 I3 n3=>?_;obtain⟨m',hm,w3⟩:=hN VQ H3 n3;exact⟨m',hm,VQ,H3,I3,w3⟩
  |brk=>exact q3
  |ret v=>exact q3
 |false=>rw[bI bi];exact wpAny_execs_nil ⟨UF,H2,I2,q2⟩
end
set_option genInjectivity false in
structure It where
 go:Nat->Hp->Prop
 yld:Nat->Hp->V->Hp->Prop
 stop:Nat->Hp->Prop
def Tl(X:Cx)(cO:List (av×Obj))(H:Hp)(b:av):Prop:=
 H b=aB/\b≠X.env.locals/\b∉X.fs/\(b∈X.ex\/X.s₀.heap.objs.size<=b)/\(∀x c,X.env.cells.lookup x=aA c->c≠b)/\∀p∈X.pn++cO,p.1≠b
theorem cP.fpOk{σ:St}{b:av}(I:cP X cO σ H s)(hb:s.heap.objs.size<=b)(hn:H' b=aB):Tl X cO H' b:=by
 refine⟨hn,Nat.ne_of_gt (c6 I.lt hb),I.nofs hb,.inr (dw I.sz hb),λx c e z=>?_,λp hp z=>?_⟩
 .obtain⟨v,q⟩:=I.cell x c e;exact bN (c6 q.lt (by rw[z];exact hb)) (fj _)
 .exact bN (c6 (bx (I.pin p hp).1) (by rw[z];exact hb)) (fj _)
structure Turn(P:b8)(w:df)(K:aj)(tg:ca)(J:It)(fp:List av)(it:av)(tn:Nat->ed->Prop):Prop where
 mem:it∈fp
 obj:∀i h,tn i h->∀b∈fp,∃o,h.get? b=aA o/\∀v,o.data≠.cell v
 keep:∀i h h',tn i h->(∀b∈fp,∀o,h.get? b=aA o->h'.get? b=aA o)->tn i h'
 item:∀(X:Cx),X.prog=P->X.w=w->X.K=K->X.calm=aC->∀(i:Nat) (cO:List (av×Obj)) (s:ax) (σ:St) (H:Hp) (E:aq->ax->Prop),cP X cO σ H s->(∀b∈fp,Tl X cO H b)->tn i s.heap->J.go i H->
  b5 (cv P w) X.A (pyNext (.ref it)) (λr s1=>∃u,r=aA u/\
   b5 (cv P w) X.A (letOwnedTupleGo tg (.ref it) u) (λ_ s2=>∃x H',cP X cO σ H' s2/\Ya x u/\J.yld i H x H'/\tn (i+1) s2.heap/\∀b∈fp,H' b=aB) E s1) E s
 done:∀(X:Cx),X.prog=P->X.w=w->X.K=K->X.calm=aC->∀(i:Nat) (cO:List (av×Obj)) (s:ax) (σ:St) (H:Hp) (E:aq->ax->Prop),cP X cO σ H s->(∀b∈fp,Tl X cO H b)->tn i s.heap->J.stop i H->
  b5 (cv P w) X.A (pyNext (.ref it)) (λr s1=>r=aB/\cP X cO σ H s1) E s
 self:∀(A:d4) (i:Nat) (s:ax) (Q:aq->ax->Prop) (E:aq->ax->Prop),tn i s.heap->Q (.ref it) s->b5 (cv P w) A (pyIter (.ref it)) Q E s
abbrev TI:=St->Hp->(It->Hp->Prop)->Prop
def PIE(X:Cx)(cO:List (av×Obj))(σ:St)(tg:ca)(R:It->Hp->Prop)(Q_:aq)(s2:ax):Prop:=
 ∃(it:av) (fp:List av) (tn:Nat->ed->Prop) (J:It) (H':Hp),Q_= .ref it/\cP X cO σ H' s2/\Turn X.prog X.w X.K tg J fp it tn/\tn 0 s2.heap/\(∀b∈fp,Tl X cO H' b)/\R J H'
def PI(X:Cx)(tg ZG:ca)(wi:TI):Prop:=
 ∀(cO:List (av×Obj)) (s:ax) (σ:St) (H:Hp) (R:It->Hp->Prop),cP X cO σ H s->wi σ H R->
  b5 (cv X.prog X.w) X.A (dj ZG X.env) (λv s1=>b5 (cv X.prog X.w) X.A (pyIter v) (PIE X cO σ tg R) X.xe s1) X.xe s
theorem N0(ho:s.heap.get? it=aA o)(hc:o.cls= .type n)(hd:o.data= .fields vs)(hn:["enumerate","zip","dict_itemiterator","dict_reverseitemiterator","odict_iterator","itertools.zip_longest","itertools.pairwise"].contains n=aD)(hQ:Q () s):b5 M A (letOwnedTupleGo tg (.ref it) u) Q E s:=by
  unfold letOwnedTupleGo;cases tg<;> first
    |exact bj hQ
    | (cases u<;> first
        |exact bj hQ
        | (refine aw (wpAny_load ho ?_)
           rw[hc,hd];show b5 M A (if(["enumerate","zip","dict_itemiterator","dict_reverseitemiterator","odict_iterator","itertools.zip_longest","itertools.pairwise"].contains n&&vs[0]? ==aA (rawInt _))=aC then _ else _) Q E s;rw[bI (by intro h;rw[hn,Bool.false_and]at h;cases h)];exact bj hQ))
noncomputable def Itl(K:aj)(a:av):It:=
 ⟨λi H=>∃xs x,On K H a xs/\xs[i]? =aA x,λi H x H'=>H'=H/\∀xs,On K H a xs->xs[i]? =aA x,λi H=>∃xs,On K H a xs/\xs.length<=i⟩
noncomputable def Itt(K:aj)(a:av):It:=
 ⟨λi H=>∃xs x,Er K H a xs/\xs[i]? =aA x,λi H x H'=>H'=H/\∀xs,Er K H a xs->xs[i]? =aA x,λi H=>∃xs,Er K H a xs/\xs.length<=i⟩
noncomputable def Itr(lo:Int)(n:Nat):It:=⟨λi _=>i<n,λi H x H'=>H'=H/\x= .int (lo+i),λi _=>n<=i⟩
theorem jv{P:b8}{w:df}{K:aj}{tg:ca}(a it:av):Turn P w K tg (Itl K a) [it] it (λi h=>h.IsListIter it a i)where
 mem:=by simp
 obj:=λi h st b hb=>by
  have e:b=it:=by simpa using hb
  subst e;refine Zr st λo e c d=>?_;exact⟨o,e,λv z=>by rw[d]at z;cases z⟩
 keep:=λi h h' st k=>st.at λo e=>k it (by simp) o e
 item:=by intro X hP hw hK hc i cO s σ H E I hf st hg;subst hP hw hK;refine We hg λxs x hq hx=>?_;refine Zr (I.list hq) λcS rv p hz=>?_;obtain⟨u,hu,ru⟩:=rv.get hx;refine Qx (hf it (by simp)) λf0 f1 f2 f3 f4 f5=>?_;refine wpAny_pyNext_list_item st p.isList (x:=u) (by simpa using hu) λh' YQ sb=>?_;have I1:cP X cO σ H {s with heap:=h'}:=I.turned (t':=s.toks) (λb o hb e=>(sb.2 b hb).trans e) f0 f1 f3 f4 f5;refine Zr (id YQ) λo e c d=>?_;exact⟨u,rfl,N0 (s:={s with heap:=h'}) e c d (by decide) ⟨x,H,I1,ru,⟨rfl,λys hy=>by rw[I.list_inj hy hq];exact hx⟩,YQ,λb hb=>(hf b hb).1⟩⟩
 done:=by intro X hP hw hK hc i cO s σ H E I hf st hg;subst hP hw hK;obtain⟨xs,hq,hx⟩:=hg;refine Zr (I.list hq) λcS rv p hz=>?_;refine Qx (hf it (by simp)) λf0 f1 f2 f3 f4 f5=>?_;have hl:=rv.length;exact wpAny_pyNext_list_end (I.ok.hd hc) st p.isList (by simp;omega) λh' eb=>⟨rfl,I.turned (t':=s.toks) (λb o hb e=>eb b o hb e) f0 f1 f3 f4 f5⟩
 self:=λ_ _ _ _ _ st h=>wpAny_pyIter_listiter st h
theorem ia{P:b8}{w:df}{K:aj}{tg:ca}(a it:av):Turn P w K tg (Itt K a) [it] it (λi h=>h.IsTupleIter it a i)where
 mem:=by simp
 obj:=λi h st b hb=>by
  have e:b=it:=by simpa using hb
  subst e;refine Zr st λo e c d=>?_;exact⟨o,e,λv z=>by rw[d]at z;cases z⟩
 keep:=λi h h' st k=>st.at λo e=>k it (by simp) o e
 item:=by intro X hP hw hK hc i cO s σ H E I hf st hg;subst hP hw hK;refine We hg λxs x hq hx=>?_;refine Zr (I.tuple hq) λcS rv p hz=>?_;obtain⟨u,hu,ru⟩:=rv.get hx;refine Qx (hf it (by simp)) λf0 f1 f2 f3 f4 f5=>?_;refine wpAny_pyNext_tuple_item st (show s.heap.IsTuple a cS.toArray from p) (x:=u) (by simpa using hu) λh' YQ sb=>?_;have I1:cP X cO σ H {s with heap:=h'}:=I.turned (t':=s.toks) (λb o hb e=>(sb.2 b hb).trans e) f0 f1 f3 f4 f5;refine Zr (id YQ) λo e c d=>?_;exact⟨u,rfl,N0 (s:={s with heap:=h'}) e c d (by decide) ⟨x,H,I1,ru,⟨rfl,λys hy=>by rw[I.tuple_inj hy hq];exact hx⟩,YQ,λb hb=>(hf b hb).1⟩⟩
 done:=by intro X hP hw hK hc i cO s σ H E I hf st hg;subst hP hw hK;obtain⟨xs,hq,hx⟩:=hg;refine Zr (I.tuple hq) λcS rv p hz=>?_;refine Qx (hf it (by simp)) λf0 f1 f2 f3 f4 f5=>?_;have hl:=rv.length;exact wpAny_pyNext_tuple_end (I.ok.hd hc) st (show s.heap.IsTuple a cS.toArray from p) (by simp;omega) λh' eb=>⟨rfl,I.turned (t':=s.toks) (λb o hb e=>eb b o hb e) f0 f1 f3 f4 f5⟩
 self:=λ_ _ _ _ _ st h=>wpAny_pyIter_tupleiter st h
theorem iZ{P:b8}{w:df}{K:aj}{tg:ca}(it:av)(lo:Int)(n:Nat):Turn P w K tg (Itr lo n) [it] it (λi h=>IsRangeIter h it (lo+(i:Nat)*1) ((n:Int)- (i:Nat)) 1)where
 mem:=by simp
 obj:=λi h st b hb=>by
  have e:b=it:=by simpa using hb
  subst e;exact⟨_,st,λv z=>by
   have z':Data.fields _=Data.cell v:=z;cases z'⟩
 keep:=λi h h' st k=>k it (by simp) _ st
 item:=by intro X hP hw hK hc i cO s σ H E I hf st hg;subst hP hw hK;refine Qx (hf it (by simp)) λf0 f1 f2 f3 f4 f5=>?_;have W:=Walks.range (prog:=X.prog) (w:=X.w) (I.ok.hd hc) it lo 1 n;refine W.item i s _ _ hg st λv h' tk hv YQ kk=>?_;obtain⟨t,rfl⟩:=hv;have I1:cP X cO σ H {s with heap:=h',toks:=tk}:=I.turned (λb o hb e=>kk b o (by simpa using hb) e) f0 f1 f3 f4 f5;refine⟨_,rfl,N0 (s:={s with heap:=h',toks:=tk}) (n:="range_iterator") YQ rfl rfl (by decide) ⟨.int (lo+i),H,I1,⟨t,?_⟩,⟨rfl,rfl⟩,YQ,λb hb=>(hf b hb).1⟩⟩;rw[Int.mul_one]
 done:=by intro X hP hw hK hc i cO s σ H E I hf st hg;subst hP hw hK;refine Qx (hf it (by simp)) λf0 f1 f2 f3 f4 f5=>?_;exact wpAny_pyNext_range_end (I.ok.hd hc) st (by have:n<=i:=hg;omega) λh' eb=>⟨rfl,I.turned (t':=s.toks) (λb o hb e=>eb b o hb e) f0 f1 f3 f4 f5⟩
 self:=λ_ _ _ _ _ st h=>wpAny_pyIter_rangeiter st h
theorem kO{σ:St}{lo:Int}(I:cP X cO σ H s)(h1:-(2^62)<=lo)(h2:lo<2^62)(h3:-(2^62)<=hi)(h4:hi<2^62)(q:R (Itr lo (hi- lo).toNat) H):b5 (cv X.prog X.w) X.A (pyIter (.ref s.heap.objs.size)) (PIE X cO σ tg R) E {s with heap:=s.heap.push {cls:=.type "range",data:=.fields #[.int lo t,.int hi u,.int 1 v]},toks:=tk}:=by
 refine wpAny_pyIter_range (IsRange.new ..) (small_one h1 h2 h3 h4) ?_;have I1:cP X cO σ H {s with heap:=s.heap.push {cls:=.type "range",data:=.fields #[.int lo t,.int hi u,.int 1 v]},toks:=tk}:=I.kept λb o e=>bh _ e;refine⟨(s.heap.push {cls:=.type "range",data:=.fields #[.int lo t,.int hi u,.int 1 v]}).objs.size,[(s.heap.push {cls:=.type "range",data:=.fields #[.int lo t,.int hi u,.int 1 v]}).objs.size],_,_,H,rfl,
  I1.kept (t':=tk) λb o e=>bh _ e,iZ _ lo (hi- lo).toNat,?_,λb hb=>?_,q⟩
 .have e1:lo+((0:Nat):Int)*1=lo:=by simp
  have e2:(((hi- lo).toNat:Nat):Int)- ((0:Nat):Int)=Builtin.Range.rangeSize lo hi 1:=by rw[rangeSize_one];split<;> omega
  show IsRangeIter _ _ (lo+((0:Nat):Int)*1) ((((hi- lo).toNat:Nat):Int)- ((0:Nat):Int)) 1;rw[e1,e2];exact cj _ rfl
 .have e:b=(s.heap.push {cls:=.type "range",data:=.fields #[.int lo t,.int hi u,.int 1 v]}).objs.size:=by simpa using hb
  subst e;exact I1.fpOk (bg _) (I1.hok.fresh (bg _))
def zC(ta:TA):TI:=λσ H R=>ta σ H λvs H1=>∃j:Int,vs=[.int j]/\-(2^62)<=j/\j<2^62/\R (Itr 0 j.toNat) H1
theorem ju(hg:Gl X "range")(hm:X.mg "range"=aB)(ha:PA X [a] ta)(hs:‹au [a] X.env=[(aD,dj a X.env)]›):PI X tg (.Call (.Name "range" p) [a] [] pos) (zC ta):=by
 intro cO s σ H R I h;refine Call_ (Et I hg hm boot_range (PyProof.Rows.callWith_type1 (W7 (ha pos cO s σ H _ I h) λus s1 ⟨vs,H1,I1,r1,q1⟩=>?_) hs rfl));obtain⟨j,e,q1,q2,q⟩:=q1;subst e;cases r1 with
 |cons r rr=>cases rr;obtain⟨t,rfl⟩:=r;exact call_range_1 (kO I1 (by omega) (by omega) q1 q2 (by simpa using q))
def BD(wi:TI)(g:TG)(tb:TS):TS:=λD σ H=>wi σ H λJ H1=>∃W:Nat->Nat->St->Hp->Prop,(∃m,W 0 m σ H1)/\∀i m σ H,W i m σ H->
 (J.stop i H/\D.nx σ H)\/(J.go i H/\∃N:St->Hp->Prop,(∀ZB H',N ZB H'->∃m',m'<m/\W (i+1) m' ZB H')/\∀x H',J.yld i H x H'->g x σ H' λYU H2=>tb {D with nx:=N,ct:=N,bk:=D.nx} YU H2)
noncomputable def Eu(fp:List av)(h:ed):List (av×Obj):=fp.filterMap λb=>(h.get? b).map λo=>(b,o)
theorem Uv(hb:b∈fp)(e:h.get? b=aA o):(b,o)∈Eu fp h:=List.mem_filterMap.mpr ⟨b,hb,by rw[e];rfl⟩
theorem jt(hp:p∈Eu fp h):p.1∈fp/\h.get? p.1=aA p.2:=by
 obtain⟨b,hb,e⟩:=List.mem_filterMap.mp hp;cases q:h.get? b with
 |none=>rw[q]at e;cases e
 |some o=>rw[q]at e;have e':(b,o)=p:=Option.some.inj e;subst e';exact⟨hb,q⟩
theorem cP.pinned{σ:St}(I:cP X cO σ H s)(hf:∀b∈fp,Tl X cO H b)(ho:∀b∈fp,∃o,s.heap.get? b=aA o/\∀v,o.data≠.cell v):cP X (cO++Eu fp s.heap) σ H s:=
 I.pins_of λp hp=>(bo.mp hp).elim (λz=>I.pin p (bp _ z)) λz=>by obtain⟨hb,e⟩:=jt z;obtain⟨f0,f1,f2,_⟩:=hf p.1 hb;obtain⟨o,e',d⟩:=ho p.1 hb;rw[e]at e';cases e';exact⟨e,f0,f1,f2,d⟩
theorem cP.unpinned{σ:St}(I:cP X (cO++pl) σ H s):cP X cO σ H s:=I.pins_of λp hp=>I.pin p (bp _ (ci _ hp))
theorem qt {ZG:ca}{body:List Stmt}{wi:TI}{g:TG}{tb:TS}{pos:Pos}(hp:PassesOwn (cv X.prog X.w) X.A X.env X.xe)(hc:X.calm=aC)(hi:PI X tg ZG wi)(hg:PG X tg g)(hb:Mh X body tb)(hs:∀ x,foldedSetIterable ZG X.env x=pure x:=by intro _; rfl):PS X (.For tg ZG body [] pos) (BD wi g tb):=by
  intro cO s σ H D I h;refine wpAny_For (W7 (hi cO s σ H _ I h) λv s1 h1=>W7 h1 λQ_ s2 h2=>?_) hs;obtain ⟨it,fp,tn,J,H2,e,I2,T,SJ,f2,W,⟨m0,w0⟩,turn⟩:=h2;subst e
  have SH:∀ {H':Hp},(∀ b ∈ fp,H' b=aB)->∀ b ∈ fp,Tl X cO H' b:=λhn b hb=>⟨hn b hb,(f2 b hb).2⟩
  refine codeAny_forLoop_any (λn s'=>∃ i ZB H',cP X cO ZB H' s'/\tn i s'.heap/\(∀ b ∈ fp,H' b=aB)/\W i n ZB H') ?_ m0 ⟨0,σ,H2,I2,SJ,λb hb=>(f2 b hb).1,w0⟩;rintro n s3 ⟨i,VQ,H3,I3,st3,fr3,w3⟩;rcases turn i n VQ H3 w3 with ⟨stop,qn⟩ | ⟨go,N,hN,step⟩
  · refine wpAny_passesOwn hp (W7 (T.done X rfl rfl rfl hc i cO s3 VQ H3 X.xe I3 (SH fr3) st3 stop) λr s4 ⟨hr,I4⟩=>?_)
    subst hr;exact wpAny_execs_nil ⟨VQ,H3,I4,qn⟩
  · refine wpAny_passesOwn hp (W7 (T.item X rfl rfl rfl hc i cO s3 VQ H3 X.xe I3 (SH fr3) st3 go) λr s4 ⟨u,hr,h4⟩=>?_)
    subst hr;refine wpAny_passesOwn hp (W7 h4 λ_ s5 ZJ=>?_);obtain ⟨x,H5,I5,r5,y5,st5,fr5⟩:=ZJ;have I5':=I5.pinned (SH fr5) (T.obj _ _ st5);refine wpAny_passesOwn hp (W7 (hg _ s5 VQ H5 x u _ I5' r5 (step x H5 y5)) λ_ s6 ZJ=>?_);obtain ⟨XR,H6,I6,q6⟩:=ZJ;refine wpAny_passesOwn hp (W7 (hb _ s6 XR H6 _ I6 q6) λf s7 q7=>?_);have again:∀ {YJ:St} {H7:Hp},cP X (cO ++ Eu fp s5.heap) YJ H7 s7->N YJ H7->∃ m,m < n/\∃ i ZB H',cP X cO ZB H' s7/\tn i s7.heap/\(∀ b ∈ fp,H' b=aB)/\W i m ZB H':=λ{YJ H7} I7 n7=>by obtain ⟨m',hm,w7⟩:=hN YJ H7 n7;refine ⟨m',hm,i + 1,YJ,H7,I7.unpinned,T.keep _ _ _ st5 λb hb o e=>(I7.pin (b,o) (bp _ (bp _ (Uv hb e)))).1,λb hb=>?_,w7⟩;obtain ⟨o,e,d⟩:=T.obj _ _ st5 b hb;exact (I7.pin (b,o) (bp _ (bp _ (Uv hb e)))).2.1
    cases f with
    | next=>refine We q7 λYJ H7 I7 n7=>?_;exact again I7 n7
    | cont=>refine We q7 λYJ H7 I7 n7=>?_;exact again I7 n7
    | brk=>refine We q7 λYJ H7 I7 q7=>?_;exact ⟨YJ,H7,I7.unpinned,q7⟩
    | ret v=>obtain ⟨x7,YJ,H7,I7,r7,q7⟩:=q7; exact ⟨x7,YJ,H7,I7.unpinned,r7,q7⟩
abbrev R2:=V->V->Hp->VK->Prop
def B5(X:Cx)(f:aq->aq->Sem aq)(r:R2):Prop:=
 ∀(cO:List (av×Obj)) (s:ax) (σ:St) (H:Hp) (x y:V) (v u:aq) (Q:VK),cP X cO σ H s->Ya x v->Ya y u->r x y H Q->
  b5 (cv X.prog X.w) X.A (f v u) (EP X cO σ Q) X.xe s
def UnR(X:Cx)(f:aq->Sem aq)(r:V->Hp->VK->Prop):Prop:=
 ∀(cO:List (av×Obj)) (s:ax) (σ:St) (H:Hp) (x:V) (v:aq) (Q:VK),cP X cO σ H s->Ya x v->r x H Q->
  b5 (cv X.prog X.w) X.A (f v) (EP X cO σ Q) X.xe s
def Ub(X:Cx)(f:aq)(r:List V->Hp->VK->Prop):Prop:=
 ∀(cO:List (av×Obj)) (s:ax) (σ:St) (H:Hp) (xs:List V) (us:List aq) (Q:VK),cP X cO σ H s->Ym xs us->r xs H Q->
  b5 (cv X.prog X.w) X.A (call f us) (EP X cO σ Q) X.xe s
def tOp(r:R2)(ta tb:TE):TE:=λσ H Q=>ta σ H λx H1=>tb σ H1 λy H2=>r x y H2 Q
def tUn(r:V->Hp->VK->Prop)(ta:TE):TE:=λσ H Q=>ta σ H λx H1=>r x H1 Q
def rI(C:Int->Int->Prop)(g:Int->Int->V):R2:=λx y H Q=>∃i j,x= .int i/\y= .int j/\C i j/\Q (g i j) H
def rI0(g:Int->Int->V):R2:=λx y H Q=>∃i j,x= .int i/\y= .int j/\Q (g i j) H
def rU(g:Int->V):V->Hp->VK->Prop:=λx H Q=>∃i,x= .int i/\Q (g i) H
theorem HJ(ha:PE X a ta)(hb:PE X b tb){σ:St}{R:V->V->Hp->Prop}(I:cP X cO σ H s)(h:ta σ H λx H1=>tb σ H1 λy H2=>R x y H2){f:aq->aq->Sem aq}(hf:∀v u s2 x y H2,cP X cO σ H2 s2->Ya x v->Ya y u->R x y H2->b5 (cv X.prog X.w) X.A (f v u) Q X.xe s2):
  b5 (cv X.prog X.w) X.A (dj a X.env) (λv s₁=>b5 (cv X.prog X.w) X.A (dj b X.env) (λu s₂=>b5 (cv X.prog X.w) X.A (f v u) Q X.xe s₂) X.xe s₁) X.xe s:=by
 refine W7 (ha cO s σ H _ I h) λv s1 ZJ=>?_;obtain⟨x,H1,I1,r1,q1⟩:=ZJ;refine W7 (hb cO s1 σ H1 _ I1 q1) λu s2 ZJ=>?_;obtain⟨y,H2,I2,r2,q2⟩:=ZJ;exact hf v u s2 x y H2 I2 r1 r2 q2
theorem tz(ho:B5 X (binaryOp op) r)(ha:PE X a ta)(hb:PE X b tb):PE X (.BinOp a op b pos) (tOp r ta tb):=by intro cO s σ H Q I h;exact wpAny_BinOp (HJ ha hb I h λv u s2 x y H2 I2 rx ry q=>ho cO s2 σ H2 x y v u Q I2 rx ry q)
theorem zB(ho:UnR X (unaryOp op) r)(ha:PE X a ta):PE X (.UnaryOp op a pos) (tUn r ta):=by intro cO s σ H Q I h;exact UnaryOp_ (W7 (ha cO s σ H _ I h) λv s1 ⟨x,H1,I1,r1,q1⟩=>ho cO s1 σ H1 x v Q I1 r1 q1)
theorem opI{g:Int->Int->Int}(rule:∀i j t u s Q E,C i j->Q (.int (g i j) s.toks) {s with toks:=s.toks+1}->b5 (cv X.prog X.w) X.A (f (.int i t) (.int j u)) Q E s):
  B5 X f (rI C λi j=>.int (g i j)):=by
 intro cO s σ H x y v u Q I rx ry h;obtain⟨i,j,rfl,rfl,hc,q⟩:=h;obtain⟨t,rfl⟩:=rx;obtain⟨t',rfl⟩:=ry;exact rule i j t t' s _ _ hc ⟨.int (g i j),H,I.tok _,⟨_,rfl⟩,q⟩
theorem BC{g:Int->Int->Int}(rule:∀i j t u s Q E,Q (.int (g i j) s.toks) {s with toks:=s.toks+1}->b5 (cv X.prog X.w) X.A (f (.int i t) (.int j u)) Q E s):
  B5 X f (rI0 λi j=>.int (g i j)):=by
 intro cO s σ H x y v u Q I rx ry h;obtain⟨i,j,rfl,rfl,q⟩:=h;obtain⟨t,rfl⟩:=rx;obtain⟨t',rfl⟩:=ry;exact rule i j t t' s _ _ ⟨.int (g i j),H,I.tok _,⟨_,rfl⟩,q⟩
theorem HI{g:Int->Int->Bool}(rule:∀i j t u s Q E,Q (.bool (g i j)) s->b5 (cv X.prog X.w) X.A (f (.int i t) (.int j u)) Q E s):
  B5 X f (rI0 λi j=>.bl (g i j)):=by
 intro cO s σ H x y v u Q I rx ry h;obtain⟨i,j,rfl,rfl,q⟩:=h;obtain⟨t,rfl⟩:=rx;obtain⟨t',rfl⟩:=ry;exact rule i j t t' s _ _ ⟨.bl (g i j),H,I,rfl,q⟩
def BB(i j:Int):Prop:=0<j/\j<1073741824
def OT(i j:Int):Prop:=(-(2^64)<i/\i<2^64)\/(-(2^64)<j/\j<2^64)
theorem OT.ok(h:OT i j):IntMulOk i j:=by
 rcases h with⟨h1,h2⟩|⟨h1,h2⟩
 .exact .of_left (intBits_le_64 h1 h2)
 .exact .of_right (intBits_le_64 h1 h2)
theorem qr:B5 X (binaryOp .Add) (rI0 λi j=>.int (i+j)):=BC λ_ _ _ _ _ _ _ q=>add_int q
theorem qp:B5 X (binaryOp .Sub) (rI0 λi j=>.int (i- j)):=BC λ_ _ _ _ _ _ _ q=>sub_int q
theorem qo:B5 X (binaryOp .Mult) (rI OT λi j=>.int (i*j)):=opI λ_ _ _ _ _ _ _ hc q=>mul_int q hc.ok
theorem n8:B5 X (binaryOp .FloorDiv) (rI BB λi j=>.int (i / j)):=opI λi j _ _ _ _ _ hc q=>by have h1:(0:Int)<j:=hc.1;have h2:j<1073741824:=hc.2;exact floordiv_int (by omega) (by rw[Int.fdiv_eq_ediv_of_nonneg i (by omega)];exact q) (.inl (PyProof.noPylong_small (by omega)))
theorem qm:B5 X (binaryOp .Mod) (rI (λ_ j=>0<j) λi j=>.int (i % j)):=opI λi j _ _ _ _ _ hc q=>by have h1:(0:Int)<j:=hc;exact mod_int' (by omega) (by rw[Int.fmod_eq_emod_of_nonneg i (by omega)];exact q)
theorem unI{g:Int->Int}(rule:∀i t s Q E,Q (.int (g i) s.toks) {s with toks:=s.toks+1}->b5 (cv X.prog X.w) X.A (f (.int i t)) Q E s):
  UnR X f (rU λi=>.int (g i)):=by
 intro cO s σ H x v Q I rx h;obtain⟨i,rfl,q⟩:=h;obtain⟨t,rfl⟩:=rx;exact rule i t s _ _ ⟨.int (g i),H,I.tok _,⟨_,rfl⟩,q⟩
theorem yY:UnR X (unaryOp .USub) (rU λi=>.int (-i)):=unI λ_ _ _ _ _ q=>neg_int q
noncomputable def scal:V->V->Bool
 | .non,.non=>aC| .non,.int _=>aC| .int _,.non=>aC| .non,.bl _=>aC| .bl _,.non=>aC| .non,.str _=>aC| .str _,.non=>aC
 | .int _,.int _=>aC| .bl _,.bl _=>aC| .str _,.str _=>aC| .byt _,.byt _=>aC
 | .int _,.str _=>aC| .str _,.int _=>aC| .bl _,.str _=>aC| .str _,.bl _=>aC
 |_,_=>aD
def rEq:R2:=λx y H Q=>scal x y=aC/\Q (.bl (decide (x=y))) H
def rNe:R2:=λx y H Q=>scal x y=aC/\Q (.bl (!decide (x=y))) H
theorem xz:decide (V.int i=V.int j)=(i==j):=by rw[Bool.eq_iff_iff];simp
theorem yX:decide (V.bl i=V.bl j)=(i==j):=by rw[Bool.eq_iff_iff];simp
theorem xy:decide (V.str i=V.str j)=(i==j):=by rw[Bool.eq_iff_iff];simp
theorem xw:decide (V.byt i=V.byt j)=(i.toList==j.toList):=by rw[Bool.eq_iff_iff];cases i;cases j;simp
theorem Y0{σ:St}(I:cP X cO σ H s)(q:Q (.bl k) H)(e:k=k'):EP X cO σ Q (.bool k') s:=by subst e;exact⟨.bl k,H,I,rfl,q⟩
theorem zA:B5 X (eu .Eq) rEq:=by
 intro cO s σ H x y v u Q I rx ry h;obtain⟨hs,q⟩:=h;cases x with
 |non=>
  cases rx;cases y with
  |non=>cases ry;exact PySem.EqNone.eq_none_none (Y0 I q (by simp))
  |bl j=>cases ry;exact PySem.EqNone.eq_none_bool (Y0 I q (by simp))
  |int j=>obtain⟨t',rfl⟩:=ry;exact PySem.EqNone.eq_none_int (Y0 I q (by simp))
  |str j=>obtain⟨t',rfl⟩:=ry;exact PySem.EqNone.eq_none_str (Y0 I q (by simp))
  |_=>exact bN (show aD=aC from hs) bi
 |bl i=>
  cases rx;cases y with
  |non=>cases ry;exact PySem.EqNone.eq_bool_none (Y0 I q (by simp))
  |bl j=>cases ry;exact eq_bool (Y0 I q yX)
  |str j=>obtain⟨t',rfl⟩:=ry;exact PySem.EqMixed.eq_bool_str (Y0 I q (by simp))
  |_=>exact bN (show aD=aC from hs) bi
 |int i=>
  obtain⟨t,rfl⟩:=rx;cases y with
  |non=>cases ry;exact PySem.EqNone.eq_int_none (Y0 I q (by simp))
  |int j=>obtain⟨t',rfl⟩:=ry;exact eq_int (Y0 I q xz)
  |str j=>obtain⟨t',rfl⟩:=ry;exact PySem.EqMixed.eq_int_str (Y0 I q (by simp))
  |_=>exact bN (show aD=aC from hs) bi
 |str i=>
  obtain⟨t,rfl⟩:=rx;cases y with
  |non=>cases ry;exact PySem.EqNone.eq_str_none (Y0 I q (by simp))
  |bl j=>cases ry;exact PySem.EqMixed.eq_str_bool (Y0 I q (by simp))
  |int j=>obtain⟨t',rfl⟩:=ry;exact PySem.EqMixed.eq_str_int (Y0 I q (by simp))
  |str j=>obtain⟨t',rfl⟩:=ry;exact eq_str (Y0 I q xy)
  |_=>exact bN (show aD=aC from hs) bi
 |byt i=>
  obtain⟨t,rfl⟩:=rx;cases y with
  |byt j=>obtain⟨t',rfl⟩:=ry;exact PySem.W.eq_bytes (Y0 I q xw)
  |_=>exact bN (show aD=aC from hs) bi
 |_=>cases y<;> exact bN (show aD=aC from hs) bi
theorem A_:B5 X (eu .NotEq) rNe:=by
 intro cO s σ H x y v u Q I rx ry h;obtain⟨hs,q⟩:=h;cases x with
 |non=>
  cases rx;cases y with
  |non=>cases ry;exact PySem.EqNone.ne_none_none (Y0 I q (by simp))
  |bl j=>cases ry;exact PySem.EqNone.ne_none_bool (Y0 I q (by simp))
  |int j=>obtain⟨t',rfl⟩:=ry;exact PySem.EqNone.ne_none_int (Y0 I q (by simp))
  |str j=>obtain⟨t',rfl⟩:=ry;exact PySem.EqNone.ne_none_str (Y0 I q (by simp))
  |_=>exact bN (show aD=aC from hs) bi
 |bl i=>
  cases rx;cases y with
  |non=>cases ry;exact PySem.EqNone.ne_bool_none (Y0 I q (by simp))
  |bl j=>cases ry;exact ne_bool (Y0 I q (congrArg not yX))
  |str j=>obtain⟨t',rfl⟩:=ry;exact PySem.EqMixed.ne_bool_str (Y0 I q (by simp))
  |_=>exact bN (show aD=aC from hs) bi
 |int i=>
  obtain⟨t,rfl⟩:=rx;cases y with
  |non=>cases ry;exact PySem.EqNone.ne_int_none (Y0 I q (by simp))
  |int j=>obtain⟨t',rfl⟩:=ry;exact ne_int (Y0 I q (congrArg not xz))
  |str j=>obtain⟨t',rfl⟩:=ry;exact PySem.EqMixed.ne_int_str (Y0 I q (by simp))
  |_=>exact bN (show aD=aC from hs) bi
 |str i=>
  obtain⟨t,rfl⟩:=rx;cases y with
  |non=>cases ry;exact PySem.EqNone.ne_str_none (Y0 I q (by simp))
  |bl j=>cases ry;exact PySem.EqMixed.ne_str_bool (Y0 I q (by simp))
  |int j=>obtain⟨t',rfl⟩:=ry;exact PySem.EqMixed.ne_str_int (Y0 I q (by simp))
  |str j=>obtain⟨t',rfl⟩:=ry;exact ne_str (Y0 I q (congrArg not xy))
  |_=>exact bN (show aD=aC from hs) bi
 |byt i=>
  obtain⟨t,rfl⟩:=rx;cases y with
  |byt j=>obtain⟨t',rfl⟩:=ry;exact PySem.W.ne_bytes (Y0 I q (congrArg not xw))
  |_=>exact bN (show aD=aC from hs) bi
 |_=>cases y<;> exact bN (show aD=aC from hs) bi
theorem tw:B5 X (eu .Lt) (rI0 λi j=>.bl (decide (i<j))):=HI λ_ _ _ _ _ _ _ q=>lt_int q
theorem GU:B5 X (eu .LtE) (rI0 λi j=>.bl (decide (i<=j))):=HI λ_ _ _ _ _ _ _ q=>le_int q
theorem tu:B5 X (eu .Gt) (rI0 λi j=>.bl (decide (j<i))):=HI λ_ _ _ _ _ _ _ q=>gt_int q
theorem N3:B5 X (eu .In) (λx y H Q=>∃i j,x= .str i/\y= .str j/\Q (.bl (!(bv j i 0 j.length 1).isEmpty)) H):=by intro cO s σ H x y v u Q I rx ry h;obtain⟨i,j,rfl,rfl,q⟩:=h;obtain⟨t,rfl⟩:=rx;obtain⟨t',rfl⟩:=ry;exact in_str (Y0 I q rfl)
theorem ql:B5 X (eu .Is) (λx y H Q=>y= .non/\Q (.bl (decide (x= .non))) H):=by
 intro cO s σ H x y v u Q I rx ry h;obtain⟨rfl,q⟩:=h;cases ry;refine is_none_gen (Y0 I q ?_);cases x<;> first
  | (cases rx;rfl)
  | (obtain⟨t,rfl⟩:=rx;rfl)
theorem ny:B5 X (eu .IsNot) (λx y H Q=>y= .non/\Q (.bl (!decide (x= .non))) H):=by
 intro cO s σ H x y v u Q I rx ry h;obtain⟨rfl,q⟩:=h;cases ry;refine isnot_none_gen (Y0 I q ?_);cases x<;> first
  | (cases rx;rfl)
  | (obtain⟨t,rfl⟩:=rx;rfl)
theorem B5.or(h:B5 X f r)(h':B5 X f r'):B5 X f (λx y H Q=>r x y H Q\/r' x y H Q):=by
 intro cO s σ H x y v u Q I rx ry q;rcases q with q|q
 .exact h cO s σ H x y v u Q I rx ry q
 .exact h' cO s σ H x y v u Q I rx ry q
theorem Gc(b)(h:‹op≠.In›)(h2:‹op≠.NotIn›):behindInMarks op b=aD:=by
 have e1:(op==CmpOp.In)=aD:=by cases op<;> first|rfl|exact bN rfl h
 have e2:(op==CmpOp.NotIn)=aD:=by cases op<;> first|rfl|exact bN rfl h2
 cases b<;> simp[behindInMarks,e1,e2]
theorem nw(ho:B5 X (eu op) r)(ha:PE X a ta)(hb:PE X b tb)(hm:behindInMarks op b=aD):PE X (.Compare a [op] [b] pos) (tOp r ta tb):=by intro cO s σ H Q I h;exact wpAny_Compare1 (HJ ha hb I h λv u s2 x y H2 I2 rx ry q=>ho cO s2 σ H2 x y v u Q I2 rx ry q) hm
def AU(t:TE):TT:=λσ H Q=>t σ H λx H'=>∃k,x= .bl k/\Q k H'
theorem nv(ho:B5 X (eu op) r)(ha:PE X a ta)(hb:PE X b tb)(hm:behindInMarks op b=aD):PT X (.Compare a [op] [b] pos) (AU (tOp r ta tb)):=by
 intro cO s σ H Q I h;refine wpAny_isTrue_Compare1 (W7 (ha cO s σ H _ I h) λv s1 ⟨x,H1,I1,r1,q1⟩=>W7 (hb cO s1 σ H1 _ I1 q1) λu s2 ⟨y,H2,I2,r2,q2⟩=>
  W7 (ho cO s2 σ H2 x y v u _ I2 r1 r2 q2) λc s3 ⟨z,H3,I3,r3,k,e,q3⟩=>?_) hm
 subst e;cases r3;exact wpAny_truthy_bool ⟨H3,I3,q3⟩
def yW(r r':R2)(ta tb tc:TE):TE:=λσ H Q=>ta σ H λx H1=>tb σ H1 λy H2=>r x y H2 λz H3=>∃k,z= .bl k/\
 (if k=aC then tc σ H3 λw' H4=>r' y w' H4 Q else Q (.bl aD) H3)
theorem kM(ho:B5 X (eu op) r)(V':B5 X (eu op') r')(ha:PE X a ta)(hb:PE X b tb)(hc:PE X c tc)(hm:lastMarks [op,op'] [b,c]=aD:=by with_unfolding_all rfl):PE X (.Compare a [op,op'] [b,c] pos) (yW r r' ta tb tc):=by
 intro cO s σ H Q I h;refine Compare_chain (W7 (ha cO s σ H _ I h) λv s1 ⟨x,H1,I1,r1,q1⟩=>chain_link (W7 (hb cO s1 σ H1 _ I1 q1) λu s2 ⟨y,H2,I2,r2,q2⟩=>
  W7 (ho cO s2 σ H2 x y v u _ I2 r1 r2 q2) λd s3 ⟨z,H3,I3,r3,k,e,q3⟩=>?_)) hm
 subst e;cases r3;refine wpAny_truthy_bool ?_;cases k with
 |false=>exact ite_ff ⟨.bl aD,H3,I3,rfl,q3⟩
 |true=>exact ite_tt (chain_last (W7 (hc cO s3 σ H3 _ I3 q3) λw' s4 ⟨z',H4,I4,r4,q4⟩=>V' cO s4 σ H4 y z' u w' Q I4 r2 r4 q4))
theorem Kc:(sizeLine:Nat)<2^63:=by rw[sizeLine_eq];decide
theorem iY:B5 X (binaryOp .Add) (λx y H Q=>∃i j,x= .str i/\y= .str j/\i.length+j.length<=sizeLine/\Q (.str (i++j)) H):=by intro cO s σ H x y v u Q I rx ry h;obtain⟨i,j,rfl,rfl,hz,q⟩:=h;obtain⟨t,rfl⟩:=rx;obtain⟨t',rfl⟩:=ry;exact add_str (λt' tk=>⟨.str (i++j),H,I.tok _,⟨_,rfl⟩,q⟩) hz
theorem Uu(r:Ym [x] us):∃u,us=[u]/\Ya x u:=by
 cases r with
 |cons r1 r2=>cases r2;exact⟨_,rfl,r1⟩
theorem GR(r:Ym [x,y] us):∃u w',us=[u,w']/\Ya x u/\Ya y w':=by
 cases r with
 |cons r1 r2=>
  cases r2 with
  |cons r3 r4=>cases r4;exact⟨_,_,rfl,r1,r3⟩
theorem js(hc:X.calm=aC):Ub X (.builtin "max") (λxs H Q=>∃i j,xs=[.int i,.int j]/\Q (.int (if j > i then j else i)) H):=by
 intro cO s σ H xs us Q I r h;obtain⟨i,j,rfl,q⟩:=h;obtain⟨u,w',rfl,⟨t,rfl⟩,⟨t',rfl⟩⟩:=GR r;refine max_two_ints (I.ok.hd hc) λh' tk k=>⟨_,H,I.kept k,?_,q⟩
 by_cases hj:j > i
 .rw[bJ hj,bJ hj];exact⟨_,rfl⟩
 .rw[bI hj,bI hj];exact⟨_,rfl⟩
theorem jr:Ub X (.type "int") (λxs H Q=>(∃i,xs=[.int i]/\Q (.int i) H)\/∃k,xs=[.bl k]/\Q (.int (if k then 1 else 0)) H):=by
 intro cO s σ H xs us Q I r h;rcases h with⟨i,rfl,q⟩|⟨k,rfl,q⟩
 .obtain⟨u,rfl,t,rfl⟩:=Uu r;exact call_int_int ⟨.int i,H,I,⟨_,rfl⟩,q⟩
 .obtain⟨u,rfl,r1⟩:=Uu r;cases r1;exact call_int_bool ⟨.int (if k then 1 else 0),H,I.tok _,⟨_,rfl⟩,q⟩
theorem S6:Ub X (.type "str") (λxs H Q=>∃i,xs=[.int i]/\i.natAbs.log2<1920/\Q (.str (toString i)) H):=by intro cO s σ H xs us Q I r h;obtain⟨i,rfl,hz,q⟩:=h;obtain⟨u,rfl,t,rfl⟩:=Uu r;exact PySem.P.str_of_int hz ⟨.str _,H,I.tok _,⟨_,rfl⟩,q⟩
noncomputable def gI(f:Str)(v:V):List (Str×V)->List (Str×V)
  | []=>[(f,v)]
  | (g,x)::r=>if g=f then(g,v)::r else(g,x)::gI f v r
theorem Fz.some_of(r:Fz (aA v) o):∃u,o=aA u/\Ya v u:=by
 cases o with
 |none=>exact(show False from r).elim
 |some u=>exact⟨u,rfl,r⟩
structure cY(k:Nat)(A:d4):Prop where
 hd:A.handled=aB
 dp:A.depth+3*k+5<recursionLimit
 un:A.units+16*k+200<cLine
theorem cY.mono(r:cY k A)(h:j<=k):cY j A:=⟨r.hd,by have:=r.dp;omega,by have:=r.un;omega⟩
theorem cY.deeper(r:cY (k+1) A)(env):cY k (A.deeper env):=
 ⟨r.hd,by have:=r.dp;show A.depth+1+3*k+5<_;omega,by have:=r.un;show A.units+3+16*k+200<_;omega⟩
theorem cY.depth(r:cY k A):A.depth<recursionLimit:=by have:=r.dp;omega
theorem cY.units(r:cY k A):A.units+64<cLine:=by have:=r.un;omega
def Rh:TA:=λ_ H Q=>Q [] H
def O6(ta:TE)(tr:TA):TA:=λσ H Q=>ta σ H λx H1=>tr σ H1 λxs H2=>Q (x::xs) H2
theorem Ql:PA X [] Rh:=λ_ _ _ _ H Q I h=>Calls.spliced_nil ⟨[],H,I,.nil,h⟩
theorem Wn(ha:PE X e te)(hr:PA X es t)(hs:‹au (e::es) X.env=(aD,dj e X.env)::au es X.env›):PA X (e::es) (O6 te t):=by intro pos cO s σ H Q I h;rw[hs];show b5 _ _ (spliced ((aD,dj e X.env)::c9 pos (au es X.env))) _ _ s;refine Calls.spliced_cons (W7 (ha cO s σ H _ I h) λu s1 ZJ=>?_);obtain⟨x,H1,I1,r1,q1⟩:=ZJ;exact W7 (hr pos cO s1 σ H1 _ I1 q1) λus s2 ⟨xs,H2,I2,r2,q2⟩=>⟨x::xs,H2,I2,.cons r1 r2,q2⟩
def CU(t:TA):TE:=λσ H Q=>t σ H λxs H1=>xs.length<=sizeLine/\∀p,H1 p=aB->Q (.ref p) (Wu H1 p (.tup xs))
def OV(t:TA):TE:=λσ H Q=>t σ H λxs H1=>xs.length<=sizeLine/\∀p,H1 p=aB->Q (.ref p) (Wu H1 p (.lst xs))
theorem qk (h:PA X es t):PE X (.Tuple es x1 pos) (CU t):=by intro cO s σ H Q I hq;refine wpAny_Tuple_spliced (W7 (h pos cO s σ H _ I hq) λus s1 ⟨xs,H1,I1,r,z,q⟩=>⟨by rw[<-r.length];exact z,?_⟩);have hf:H1 s1.heap.objs.size=aB:=I1.hok.fresh (bg _);refine⟨.ref s1.heap.objs.size,Wu H1 s1.heap.objs.size (.tup xs),I1.laid (t':=s1.toks) (λb u e=>bh _ e) (bg _) ?_,rfl,q _ hf⟩;exact⟨z,us,r,⟨_,cj _ rfl,rfl,_,rfl⟩⟩
theorem S7(h:PA X es t):PE X (.List es pos) (OV t):=by intro cO s σ H Q I hq;refine wpAny_List_spliced (W7 (h pos cO s σ H _ I hq) λus s1 ⟨xs,H1,I1,r,z,q⟩=>⟨by rw[<-r.length];exact z,?_⟩);have hf:H1 s1.heap.objs.size=aB:=I1.hok.fresh (bg _);refine⟨.ref s1.heap.objs.size,Wu H1 s1.heap.objs.size (.lst xs),I1.laid (t':=s1.toks) (λb u e=>bh _ e) (bg _) ?_,rfl,q _ hf⟩;exact⟨z,us,0,r,cj _ rfl⟩
abbrev Sp:=List V->Hp->VK->XK->Prop
abbrev Hb:=List Env->Hp->ax->XK->aq->ax->Prop
structure Env0(P:b8)(w:df)(K:aj)(mg:Str->Option aq)(base:ed)(A:d4)(outer:List Env)(s:ax)(H:Hp):Prop where
 frames:A.frames=aA outer
 mod:Mod K mg base
 bs:∀b o,base.get? b=aA o->s.heap.get? b=aA o/\H b=aB
 bsz:base.objs.size<=s.heap.objs.size
 funs:s.heap.FunFrames base outer
 frf:∀b∈Re outer,H b=aB
 hok:Rf P w H s.heap
 bare:AllBare s.gens
def CE(outer:List Env)(P:b8)(w:df)(H:Hp)(s:ax)(Q:VK)(u:aq)(s':ax):Prop:=
 ∃v H',s'.os=s.os/\AllBare s'.gens/\Un (Re outer) [] H H' s.heap s'.heap/\Rf P w H' s'.heap/\Ya v u/\Q v H'
def CR(CX:Hb)(outer:List Env)(P:b8)(w:df)(H:Hp)(s:ax)(Q:VK)(E:XK)(r:Result)(s':ax):Prop:=
 match r with
 | .ok (.ret u)=>CE outer P w H s Q u s'
 | .ok _=>False
 | .error e=>CX outer H s E e s'
structure FnOk(P:b8)(w:df)(K:aj)(mg:Str->Option aq)(base:ed)(CX:Hb)(k:Nat)(f:av)(fd:FuncData)(ps:List Str)(sp:Sp):Prop where
 len:∀vs H Q E,sp vs H Q E->vs.length=ps.length
 run:∀(A:d4) (outer:List Env) (s:ax) (H:Hp) (args:Args) (us:List aq) (vs:List V) (Q:VK) (E:XK),cY k A->Env0 P w K mg base A outer s H->BindsTo s fd args (ps.zip us)->Ym vs us->sp vs H Q E->
  codeAny (cv P w) A (.call (.ref f) args) (CR CX outer P w H s Q E) s
theorem FnOk.mono{K}(F:FnOk P w K mg base CX j f fd ps sp)(h:j<=k):
  FnOk P w K mg base CX k f fd ps sp:=⟨F.len,λA outer s H args us vs Q E hr=>F.run A outer s H args us vs Q E (hr.mono h)⟩
section
variable{X:Cx}{cO:List (av×Obj)}{σ:St}{H:Hp}{s s':ax}
theorem cP.env0(I:cP X cO σ H s):Env0 X.prog X.w X.K X.mg X.base X.A X.stack s H:=
 ⟨I.ok.frames,I.ok.mod,I.bs,dw I.ok.bsz I.sz,I.stack,I.stkFree,I.hok,I.bare⟩
theorem cP.after(I:cP X cO σ H s)(h:CE X.stack X.prog X.w H s Q u s'):EP X cO σ Q u s':=by obtain⟨v,H',os,bare,un,hok,r,q⟩:=h;obtain⟨hh,g,d,t,vp⟩:=s';obtain rfl:vp=s.os:=os;exact⟨v,H',I.call (h':=hh) (g':=g) (d':=d) (t':=t) (ch:=[]) un hok bare (λb z=>bN z (by simp)),r,q⟩
end
def Hj(sp:Sp)(T_:List V)(E:XK)(t:TA):TE:=λσ H Q=>t σ H λvs H1=>sp (vs++T_) H1 Q E
def M8(K:aj)(fd:FuncData)(ps:List Str)(ds:List aq):Prop:=
 ∀(s:ax) (us:List aq),K.In s.heap->(us++ds).length=ps.length->BindsTo s fd ⟨us,[]⟩ (ps.zip (us++ds))
theorem M8.all{K}(h:∀us,us.length=ps.length->bindArgs fd ⟨us,[]⟩=pure (ps.zip us)):M8 K fd ps []:=λs us _ hl=>by rw[de]at hl⊢;exact .of_eq (h us hl)
def EH(CX:Hb)(X:Cx)(E:XK):Prop:=∀(cO:List (av×Obj)) (σ:St) (H:Hp) (s:ax) (e:aq) (s':ax),cP X cO σ H s->CX X.stack H s E e s'->X.xe e s'
section
variable{X:Cx}{CX:Hb}{k:Nat}{f C:av}{fd:FuncData}{ps:List Str}{sp:Sp}{T_:List V}{ds:List aq}{E:XK}{x m:Str}{p pos ZC:Pos}{e o:ca}{es:List ca}{t:TA}
theorem qj{σ:St}(F:FnOk X.prog X.w X.K X.mg X.base CX k f fd ps sp)(hr:cY k X.A)(hb:M8 X.K fd ps ds)(hd:Ym T_ ds)(hx:EH CX X E)(I:cP X cO σ H s)(r:Ym vs us)(h:sp (vs++T_) H Q E):b5 (cv X.prog X.w) X.A (call (.ref f) us) (EP X cO σ Q) X.xe s:=by
 have r2:Ym (vs++T_) (us++ds):=r.append hd;have hl:(us++ds).length=ps.length:=by rw[<-r2.length];exact F.len _ _ _ _ h
 refine wpAny_call (codeAny_mono (F.run X.A X.stack s H ⟨us,[]⟩ (us++ds) (vs++T_) Q E hr I.env0 (hb s us I.kIn hl) r2 h) λr s' hq=>?_);cases r with
 |error e=>exact hx cO σ H s e s' I hq
 |ok fl=>
  cases fl with
  |ret u=>exact I.after hq
  |next=>exact False.elim hq
  |brk=>exact False.elim hq
  |cont=>exact False.elim hq
theorem Fi(F:FnOk X.prog X.w X.K X.mg X.base CX k f fd ps sp)(hr:cY k X.A)(hg:Gl X x)(hm:X.mg x=aA (.ref f))(hk:PySem.W.keepIn X.K (.ref f)=aC)(hb:M8 X.K fd ps ds)(hd:Ym T_ ds)(hx:EH CX X E)(ha:PA X (e::es) t)(YM:‹(x==("__debug__":Str))=aD›)(he:‹au (e::es) X.env=(aD,dj e X.env)::au es X.env›)(ZH:‹(c9 pos (au es X.env)).any (·.1)=aD›):
  PE X (.Call (.Name x p) (e::es) [] pos) (Hj sp T_ E t):=by
 intro cO s σ H Q I h;refine wpAny_Call_Name_kw (Ad I hg hm ?_ YM);refine PySem.W.callWith_K (h₀:=X.base) I.ok.mod.kin hk (W7 (ha pos cO s σ H _ I h) λus s1 ⟨vs,H1,I1,r,q⟩=>⟨I1.kIn,?_⟩) he ZH;exact qj F hr hb hd hx I1 r q
end
structure FnScope(N P:List Str)(sc:Scope):Prop where
 kind:sc.kind= .function
 co:sc.isCoroutine=aD
 gen:sc.isGenerator=aD
 nd:N.Nodup
 pre:N.take P.length=P
 par:∀x∈P,sc.names.lookup x=aA .local\/sc.names.lookup x=aA .cell
 nofree:∀y∈sc.names,y.2≠.free
theorem N4{kindOf}:∀{binds:List (Str×aq)} {m:Str->Option aq},(∀v,(x,v)∉binds)->bindL kindOf binds m x=m x
  | [],_,_=>rfl
  | (n,v)::r,m,h=>by
    unfold bindL;rw[N4 λw hw=>h w (ad _ hw)];split
    · have:x≠n:=by rintro rfl;exact h v aa
      simp[this]
    · rfl
theorem N5{kindOf}:∀{binds:List (Str×aq)} {m:Str->Option aq},(∀v,(x,v)∉binds)->bindC kindOf binds m x=m x
  | [],_,_=>rfl
  | (n,v)::r,m,h=>by
    unfold bindC;rw[N5 λw hw=>h w (ad _ hw)];split
    · rfl
    · have:x≠n:=by rintro rfl;exact h v aa
      simp[this]
theorem N6{kindOf}:∀{P:List Str} {vs:List aq} {i:Nat} {m:Str->Option aq},P.Nodup->P[i]? =aA x->vs[i]? =aA v->kindOf x=aA .local->
  bindL kindOf (P.zip vs) m x=aA v
 | [],_,_,_,_,h,_,_=>by simp at h
 |_::_,[],_,_,_,_,h,_=>by simp at h
 |p::P,w::vs,0,m,nd,h1,h2,hk=>by simp at h1 h2;subst h1;subst h2;show bindL kindOf ((p,w)::P.zip vs) m p=_;unfold bindL;rw[N4 λv hv=>(cq.mp nd).1 (List.of_mem_zip hv).1,bJ hk];simp
 |p::P,w::vs,i+1,m,nd,h1,h2,hk=>by show bindL kindOf ((p,w)::P.zip vs) m x=_;unfold bindL;exact N6 (i:=i) (cq.mp nd).2 (by simpa using h1) (by simpa using h2) hk
theorem N7{kindOf}:∀{P:List Str} {vs:List aq} {i:Nat} {m:Str->Option aq},P.Nodup->P[i]? =aA x->vs[i]? =aA v->kindOf x≠aA .local->
  bindC kindOf (P.zip vs) m x=aA v
 | [],_,_,_,_,h,_,_=>by simp at h
 |_::_,[],_,_,_,_,h,_=>by simp at h
 |p::P,w::vs,0,m,nd,h1,h2,hk=>by simp at h1 h2;subst h1;subst h2;show bindC kindOf ((p,w)::P.zip vs) m p=_;unfold bindC;rw[N5 λv hv=>(cq.mp nd).1 (List.of_mem_zip hv).1,bI hk];simp
 |p::P,w::vs,i+1,m,nd,h1,h2,hk=>by show bindC kindOf ((p,w)::P.zip vs) m x=_;unfold bindC;exact N7 (i:=i) (cq.mp nd).2 (by simpa using h1) (by simpa using h2) hk
noncomputable def start(N:List Str)(vs:List V):St:=vs.map aA++List.replicate (N.length- vs.length) aB
noncomputable def Ri(CX:Hb)(P:b8)(w:df)(K:aj)(mg:Str->Option aq)(base:ed)(N:List Str)(qual:Str)(scope:Scope)(f:av)(cd:aq)(A:d4)(outer:List Env)(s:ax)(H:Hp)(E:XK):Cx where
 prog:=P
 w:=w
 K:=K
 mg:=mg
 base:=base
 A:=A.deeper (envOfC qual scope s.heap.objs.size f cd)
 N:=N
 s₀:=s
 H₀:=H
 env:=envOfC qual scope s.heap.objs.size f cd
 outer:=outer
 stack:=envOfC qual scope s.heap.objs.size f cd::outer
 ex:=[]
 calm:=aC
 fn:=λ_=>aC
 pn:=[]
 xe:=λe s'=>b5 (cv P w) (A.deeper (envOfC qual scope s.heap.objs.size f cd)) (leaving (envOfC qual scope s.heap.objs.size f cd) e) (λ_ QR=>CX outer H s E e QR) (λe' QR=>CX outer H s E e' QR) s'
theorem Hk{sc:Scope}(h:sc.names.lookup x=aA .cell):∃c,(cellsFrom n sc.names []).lookup x=aA c:=by have q:=PySem.W.cellsFrom_some sc.names n [] (.inl h);exact Option.isSome_iff_exists.mp q
theorem jq{K}(S:FnScope N ps scope)(hd:A.handled=aB)(e0:Env0 P w K mg base A outer s H)(hl:vs.length=ps.length)(r:Ym vs us)(x:InCallC s s.heap.objs.size (bindL (envOfC qual scope s.heap.objs.size f cd).kindOf (ps.zip us) λ_=>aB) (cellsFrom (s.heap.objs.size+1) scope.names []) (bindC (envOfC qual scope s.heap.objs.size f cd).kindOf (ps.zip us) λ_=>aB) s1):
  cP (Ri CX P w K mg base N qual scope f cd A outer s H E) [] (start N vs) H s1:=by
 have ZH:ps.length<=N.length:=by have:=congrArg List.length S.pre;rw[List.length_take]at this;omega
 obtain⟨h1,tk,rfl,hk⟩:=x.done;have QV:∀b:av,b∉(Ri CX P w K mg base N qual scope f cd A outer s H E).ex:=λb z=>bN (show b∈([]:List av)from z) (by simp);refine⟨⟨e0.mod,S.kind,rfl,rfl,bg _,λy z c h1 h2=>?_,λy hy=>?_,λy c _ h=>?_,λ_=>hd,Around.frames_deeper e0.frames,.inr ⟨rfl,rfl⟩,λb z=>bN z (QV b),e0.bs,e0.bsz,λb _ _=>QV b,λb z=>bN z (QV b),e0.funs,e0.frf⟩,
  rfl,e0.bare,Un.kept hk,⟨_,x.toInCall.ns,λi y v h1 h2 h3=>?_⟩,λy c h=>⟨_,x.cell y c h⟩,e0.hok.fresh (bg _),λy c h=>?_,λp hp=>bN (show p∈([]:List (av×Obj))from hp) (by simp),e0.hok.kept hk,?_⟩
 .exact name_of_addr x.apart (PySem.mem_of_lookup h1) (PySem.mem_of_lookup h2)
 .have hy:scope.names.lookup y=aA .cell\/scope.names.lookup y=aA .free:=hy;rcases hy with hy|hy
  .exact Hk hy
  .exact bN rfl (S.nofree _ (PySem.mem_of_lookup hy))
 .exact Nat.le_of_lt (x.above y c (PySem.mem_of_lookup h))
 .have hi:i<vs.length:=by
   unfold start at h2;by_cases hi:i<vs.length
   .exact hi
   .rw[dv (by simpa using hi)]at h2;rw[List.getElem?_replicate]at h2;split at h2<;> cases h2
  have ha:vs[i]? =aA v:=by
   unfold start at h2;rw[fm (by simpa using hi),bz]at h2;cases e:vs[i]? with
   |none=>rw[e]at h2;cases h2
   |some a=>rw[e]at h2;cases h2;rfl
  obtain⟨u,hu,rv⟩:=r.get ha;have hp:ps[i]? =aA y:=by rw[<-S.pre,List.getElem?_take_of_lt (by omega)];exact h1
  have DG:ps.Nodup:=by rw[<-S.pre];exact S.nd.sublist (List.take_sublist _ _)
  refine⟨u,rv,?_⟩;rcases S.par y (cy hp)with k|k
  .exact .inl ⟨k,N6 DG hp hu k⟩
  .obtain⟨c,e⟩:=Hk (n:=s.heap.objs.size+1) k;refine .inr ⟨.inl k,c,e,?_⟩;have q:=x.cell y c e;rw[N7 DG hp hu (by show scope.names.lookup y≠_;rw[k];decide)]at q;exact q
 .exact e0.hok.fresh (Nat.le_of_lt (x.above y c (PySem.mem_of_lookup h)))
 .unfold start;show _=N.length;rw[ao,ay,List.length_replicate];omega
theorem AT{K}{dV kV YY pm ZN ct oc}(lk:K.lookup f=aA ⟨oc,od,.func (PySem.W.fnOf name qual params body scope dV kV YY pm an ZN ct),TM⟩)(YC:PySem.W.codeIn K ZN qual=aC)(S:FnScope N ps scope)(len:∀vs H Q E,sp vs H Q E->vs.length=ps.length)(XV:∀A outer s H vs Q E,cY k (A.deeper (envOfC qual scope s.heap.objs.size f ZN))->sp vs H Q E->
   ∃t,Mh (Ri CX P w K mg base N qual scope f ZN A outer s H E) body t/\t {nx:=λ_ H'=>Q .non H',rt:=Q} (start N vs) H):
  FnOk P w K mg base CX (k+1) f (PySem.W.fnOf name qual params body scope dV kV YY pm an ZN ct) ps sp:=by
 refine⟨len,λA outer s H args us vs Q E hr e0 hb r VO=>?_⟩;have hl:=len _ _ _ _ VO;have KX:K.In s.heap:=e0.mod.kin.keeps λb o e=>(e0.bs b o e).1;have K':s.heap.NoLimit:=e0.mod.nolimit.keeps λb o e=>(e0.bs b o e).1;have WV:∀y∈ps.zip us,scope.names.lookup y.1=aA .local\/(scope.names.lookup y.1=aA .cell/\((cellsFrom (s.heap.objs.size+1) scope.names []).lookup y.1).isSome=aC):=λ⟨n,v⟩ hy=>by
  rcases S.par n (List.of_mem_zip hy).1 with q|q
  .exact .inl q
  .exact .inr ⟨q,PySem.W.cellsFrom_some _ _ _ (.inl q)⟩
 refine codeAny_call_function hr.depth (KX _ _ lk) rfl S.co S.gen rfl (PySem.W.codeRec_of KX YC) (hb _ _ _ _ ?_);refine wpAny_newFunctionEnv_cells S.kind WV λenv he s1 x=>?_;subst he;refine⟨K'.keeps x.toInCall.keep,codeAny_func ?_⟩;obtain⟨t,ht,hq⟩:=XV A outer s H vs Q E (hr.deeper _) VO;have I:cP (Ri CX P w K mg base N qual scope f ZN A outer s H E) [] (start N vs) H s1:=jq S hr.hd e0 hl r x;refine eh (ht [] s1 (start N vs) H _ I hq) (λfl s' hs=>?_) λe s' hs=>hs;have fin:∀{ZB:St} {H':Hp} {v:V} {u:aq},cP (Ri CX P w K mg base N qual scope f ZN A outer s H E) [] ZB H' s'->Ya v u->Q v H'->CE outer P w H s Q u s':=
  fun{ZB H' v u} J rv q=>⟨v,H',J.os,J.bare,J.base,J.hok,rv,q⟩
 cases fl with
 |ret u=>obtain⟨v,ZB,H',J,rv,q⟩:=hs;exact fin J rv q
 |next=>refine We hs λZB H' J q=>?_;exact fin (v:=V.non) (u:=Value.none) J rfl q
 |brk=>refine We hs λ_ _ _ q=>?_;exact False.elim q
 |cont=>refine We hs λ_ _ _ q=>?_;exact False.elim q
section
variable{X:Cx}{x:Str}{p pos:Pos}{e:ca}{es:List ca}{t:TA}{id T:String}{r:List V->Hp->VK->Prop}
def tCB(r:List V->Hp->VK->Prop)(t:TA):TE:=λσ H Q=>t σ H λvs H1=>r vs H1 Q
theorem Kd(hc:Ub X (.builtin id) r)(hg:Gl X x)(hm:X.mg x=aB)(hv:bootBuiltins x=aA (.builtin id))(ha:PA X (e::es) t)(hn:‹x≠"__name__"›)(YM:‹(x==("__debug__":Str))=aD›)(he:‹au (e::es) X.env=(aD,dj e X.env)::au es X.env›)(ZH:‹(c9 pos (au es X.env)).any (·.1)=aD›):PE X (.Call (.Name x p) (e::es) [] pos) (tCB r t):=by
 intro cO s σ H Q I h;refine wpAny_Call_Name_kw (Et I hg hm hv ?_ hn YM);exact PyProof.Rows.callWith_builtin1 (W7 (ha pos cO s σ H _ I h) λus s1 ⟨vs,H1,I1,r1,q1⟩=>hc cO s1 σ H1 vs us Q I1 r1 q1) he ZH
theorem N8(hc:Ub X (.type T) r)(hg:Gl X x)(hm:X.mg x=aB)(hv:bootBuiltins x=aA (.type T))(ha:PA X (e::es) t)(hn:‹x≠"__name__"›)(YM:‹(x==("__debug__":Str))=aD›)(he:‹au (e::es) X.env=(aD,dj e X.env)::au es X.env›)(ZH:‹(c9 pos (au es X.env)).any (·.1)=aD›):PE X (.Call (.Name x p) (e::es) [] pos) (tCB r t):=by
 intro cO s σ H Q I h;refine wpAny_Call_Name_kw (Et I hg hm hv ?_ hn YM);exact PyProof.Rows.callWith_type1 (W7 (ha pos cO s σ H _ I h) λus s1 ⟨vs,H1,I1,r1,q1⟩=>hc cO s1 σ H1 vs us Q I1 r1 q1) he ZH
end
end L2
namespace HT
noncomputable def N9:List Int->List Int->Bool
 | [],[]=>aD
 | [],_::_=>aC
 |_::_,[]=>aD
 |x::xs,y::ys=>if x=y then N9 xs ys else decide (x<y)
theorem dP(x y xs ys):N9 (x::xs) (y::ys)=if x=y then N9 xs ys else decide (x<y):=rfl
theorem dR:N9 [] []=aD:=rfl
theorem dU(y ys):N9 [] (y::ys)=aC:=rfl
theorem dS(x xs):N9 (x::xs) []=aD:=rfl
noncomputable def sIx(n d:Nat):Option Int->Nat
 |none=>d
 |some v=>if v<0 then(v+(n:Int)).toNat else min v.toNat n
theorem dJ(n d):sIx n d aB=d:=rfl
end HT
namespace L2
abbrev TO:=St->Hp->(Option Int->Hp->Prop)->Prop
def PO(X:Cx)(e:Option ca)(t:TO):Prop:=
 ∀(cO:List (av×Obj)) (s:ax) (σ:St) (H:Hp) (Q:Option Int->Hp->Prop),cP X cO σ H s->t σ H Q->
  b5 (cv X.prog X.w) X.A (evalPart e X.env) (λu s'=>∃o H',cP X cO σ H' s'/\IsPart u o/\Q o H') X.xe s
def xv:TO:=λ_ H Q=>Q aB H
def AS(t:TE):TO:=λσ H Q=>t σ H λx H1=>∃i,x= .int i/\Q (aA i) H1
theorem nu:PO X aB xv:=by intro cO s σ H Q I h;rw[evalPart_none];exact bj ⟨aB,H,I,.none,h⟩
theorem nt(h:PE X e te):PO X (aA e) (AS te):=by intro cO s σ H Q I hw;rw[evalPart_some];refine W7 (h cO s σ H _ I hw) λu s1 ZJ=>?_;obtain⟨x,H1,I1,r1,q1⟩:=ZJ;obtain⟨i,rfl,q⟩:=q1;obtain⟨t,rfl⟩:=r1;exact⟨aA i,H1,I1,.int i t,q⟩
def SlR(X:Cx)(r:V->Option Int->Option Int->Hp->VK->Prop):Prop:=
 ∀(cO:List (av×Obj)) (s:ax) (σ:St) (H:Hp) (x:V) (v vl vu:aq) (lo hi:Option Int) (sl:av) (Q:VK),cP X cO σ H s->Ya x v->s.heap.IsSliceOf sl vl vu .none->IsPart vl lo->IsPart vu hi->r x lo hi H Q->
  ∃T id,typeLookup (.type T) "__getitem__"=pure (aA (.builtin id))/\s.TypeIs v T/\b5 (cv X.prog X.w) X.A (getItem v (.ref sl)) (EP X cO σ Q) X.xe s
theorem SlR.or(h:SlR X r)(h':SlR X r'):SlR X (λx lo hi H Q=>r x lo hi H Q\/r' x lo hi H Q):=by
 intro cO s σ H x v vl vu lo hi sl Q I rx hs pl pu q;rcases q with q|q
 .exact h cO s σ H x v vl vu lo hi sl Q I rx hs pl pu q
 .exact h' cO s σ H x v vl vu lo hi sl Q I rx hs pl pu q
def tSl(r:V->Option Int->Option Int->Hp->VK->Prop)(te:TE)(tl th:TO):TE:=λσ H Q=>te σ H λx H1=>tl σ H1 λl H2=>th σ H2 λu H3=>r x l u H3 Q
theorem kt{lo hi:Option ca}(hr:SlR X r)(he:PE X e te)(hl:PO X lo tl)(hu:PO X hi th):PE X (.Subscript e (.Slice lo hi aB p2) pos) (tSl r te tl th):=by intro cO s σ H Q I h;refine Subscript_ (W7 (he cO s σ H _ I h) λv s1 ZJ=>?_);obtain⟨x,H1,I1,r1,q1⟩:=ZJ;refine wpAny_Slice (W7 (hl cO s1 σ H1 _ I1 q1) λvl s2 ⟨l,H2,I2,pl,q2⟩=>W7 (hu cO s2 σ H2 _ I2 q2) λvu s3 ZJ=>?_);obtain⟨u,H3,I3,pu,q3⟩:=ZJ;rw[evalPart_none];refine bj ?_;have I4:cP X cO σ H3 {s3 with heap:=s3.heap.push {cls:=.type "slice",data:=.fields #[vl,vu,.none]}}:=I3.kept (t':=s3.toks) λb ob q=>bh _ q;refine Yd (hr cO {s3 with heap:=s3.heap.push {cls:=.type "slice",data:=.fields #[vl,vu,.none]}} σ H3 x v vl vu l u s3.heap.objs.size Q I4 r1 (Heap.IsSliceOf.new ..) pl pu q3) λT id hT ht hg=>?_;show b5 (cv X.prog X.w) X.A (subscriptTail e (.Slice lo hi aB p2) v (.ref s3.heap.objs.size)) (EP X cO σ Q) X.xe {s3 with heap:=s3.heap.push {cls:=.type "slice",data:=.fields #[vl,vu,.none]}};exact tail_any (ops:=[.ref s3.heap.objs.size,v]) ht hT hg (by with_unfolding_all rfl)
def QM(xs:List V)(lo hi:Option Int):List V:=(xs.drop (HT.sIx xs.length 0 lo)).take (HT.sIx xs.length xs.length hi- HT.sIx xs.length 0 lo)
theorem Hl(xs lo hi):(QM xs lo hi).length<=xs.length:=by unfold QM;rw[List.length_take,List.length_drop];omega
noncomputable def Nf(n:Nat)(i:Int):Option Nat:=if 0<=i then(if i<n then aA i.toNat else aB)else if-(n:Int)<=i then aA (i+n).toNat else aB
def atI{α:Type}(xs:List α)(i:Int):Option α:=(Nf xs.length i).bind λj=>xs[j]?
theorem nr(h:Nf n i=aA j):seqIndex? i n=aA j/\j<n/\-(n:Int)<=i/\i<n:=by
 unfold Nf at h;by_cases h0:0<=i
 .rw[bJ h0]at h;by_cases h1:i<n
  .rw[bJ h1]at h;have e:i.toNat=j:=Option.some.inj h;exact⟨by rw[seqIndex_of h0 h1,e],by omega,by omega,h1⟩
  .rw[bI h1]at h;cases h
 .rw[bI h0]at h;by_cases h1:-(n:Int)<=i
  .rw[bJ h1]at h;have e:(i+n).toNat=j:=Option.some.inj h;exact⟨by rw[seqIndex_neg (by omega) h1,e],by omega,h1,by omega⟩
  .rw[bI h1]at h;cases h
theorem S8{v:α}(h:atI xs i=aA v):∃j,seqIndex? i xs.length=aA j/\xs[j]? =aA v/\j<xs.length/\-(xs.length:Int)<=i/\i<xs.length:=by
 unfold atI at h;cases e:Nf xs.length i with
 |none=>rw[e]at h;cases h
 |some j=>rw[e]at h;obtain⟨h1,h2,h3,h4⟩:=nr e;exact⟨j,h1,h,h2,h3,h4⟩
theorem nq{j:Nat}{v:α}(h:xs[j]? =aA v):atI xs (j:Int)=aA v:=by
 have hj:j<xs.length:=(bf.mp h).1;have e:Nf xs.length (j:Int)=aA j:=by unfold Nf;rw[bJ (by omega),bJ (by omega)];simp
 unfold atI;rw[e];exact h
theorem km(xs)(v:α):atI (xs++[v]) (-1)=aA v:=by
 have hl:(xs++[v]).length=xs.length+1:=by simp
 have e:Nf (xs++[v]).length (-1)=aA xs.length:=by unfold Nf;rw[hl,bI (by decide),bJ (by omega)];congr 1;omega
 unfold atI;rw[e];show(xs++[v])[xs.length]? =aA v;simp
def xu(b:ca):Prop:=∀o i,subscripted b aD o i=operate [o,i] (getItem o i)
def IxR(X:Cx)(r:R2):Prop:=
 ∀(value slice:ca) (cO:List (av×Obj)) (s:ax) (σ:St) (H:Hp) (x y:V) (v u:aq) (Q:VK),cP X cO σ H s->Ya x v->Ya y u->r x y H Q->
  subscripted slice aD v u=operate [v,u] (getItem v u)->b5 (cv X.prog X.w) X.A (subscriptTail value slice v u) (EP X cO σ Q) X.xe s
def MtR(X:Cx)(id:String)(r:V->List V->Hp->VK->Prop):Prop:=
 ∀(cO:List (av×Obj)) (s:ax) (σ:St) (H:Hp) (x:V) (xs:List V) (v:aq) (us:List aq) (Q:VK),cP X cO σ H s->Ya x v->Ym xs us->r x xs H Q->
  b5 (cv X.prog X.w) X.A (call (.builtin id) (v::us)) (EP X cO σ Q) X.xe s
section
variable{X:Cx}
theorem IxR.or(h:IxR X r)(h':IxR X r'):IxR X (λx y H Q=>r x y H Q\/r' x y H Q):=by
 intro value slice cO s σ H x y v u Q I rx ry q hs;rcases q with q|q
 .exact h value slice cO s σ H x y v u Q I rx ry q hs
 .exact h' value slice cO s σ H x y v u Q I rx ry q hs
theorem GV(hr:IxR X r)(ha:PE X a ta)(hb:PE X b tb)(hs:xu b):PE X (.Subscript a b pos) (tOp r ta tb):=by intro cO s σ H Q I h;exact Subscript_ (HJ ha hb I h λv u s2 x y H2 I2 rx ry q=>hr a b cO s2 σ H2 x y v u Q I2 rx ry q (hs _ _))
def MP(K:aj):R2:=λx y H Q=>∃p xs i v,x= .ref p/\y= .int i/\On K H p xs/\atI xs i=aA v/\Q v H
def CS(K:aj):R2:=λx y H Q=>∃p xs i v,x= .ref p/\y= .int i/\Er K H p xs/\atI xs i=aA v/\Q v H
def CQ:R2:=λx y H Q=>∃z i c,x= .str z/\y= .int i/\z.length<=sizeLine/\atI z.cps.toList i=aA c/\Q (.str ⟨#[c]⟩) H
theorem S9:IxR X (MP X.K):=by
 intro value slice cO s σ H x y v u Q I rx ry h hs;obtain⟨p,xs,i,z,rfl,rfl,hq,he,q⟩:=h;cases rx;obtain⟨t,rfl⟩:=ry;refine Zr (I.list hq) λcS r pl hz=>?_;obtain⟨j,h1,h2,h3,h4,h5⟩:=S8 he;obtain⟨w,ew,UO⟩:=r.get h2;have hl:=r.length;have hn:=Kc;have fin:EP X cO σ Q w s:=⟨z,H,I,UO,q⟩
 by_cases h0:0<=i
 .have hj:i.toNat=j:=by rw[seqIndex_of h0 h5]at h1;exact Option.some.inj h1
  exact item_listR pl.isList h0 (by omega) (by rw[hj];simpa using ew) fin hs
 .have hj:(i+(cS.toArray.size:Int)).toNat=j:=by rw[seqIndex_neg (by omega) h4]at h1;rw[bq,<-hl];exact Option.some.inj h1
  exact subscriptTail_builtinR (x:=w) pl.isList.typeIs slot_list_getitem.lookup
   (wpAny_getItem_list_neg (Q:=λr s'=>r=w/\EP X cO σ Q r s') pl.isList (by omega) (by rw[bq]<;> omega) (by omega) (by rw[hj];simpa using ew) ⟨rfl,fin⟩) hs
theorem qi:IxR X (CS X.K):=by
 intro value slice cO s σ H x y v u Q I rx ry h hs;obtain⟨p,xs,i,z,rfl,rfl,hq,he,q⟩:=h;cases rx;obtain⟨t,rfl⟩:=ry;refine Zr (I.tuple hq) λcS r pl hz=>?_;obtain⟨j,h1,h2,h3,h4,h5⟩:=S8 he;obtain⟨w,ew,UO⟩:=r.get h2;have hl:=r.length;have hn:=Kc;have fin:EP X cO σ Q w s:=⟨z,H,I,UO,q⟩
 exact subscriptTail_builtinR (x:=w) pl.typeIs slot_tuple_getitem.lookup
  (getItem_tuple (j:=j) (Q:=λr s'=>r=w/\EP X cO σ Q r s') pl (by omega) (by omega) (by rw[bq,<-hl];exact h1) (by simpa using ew) ⟨rfl,fin⟩) hs
theorem qh:IxR X CQ:=by
 intro value slice cO s σ H x y v u Q I rx ry h hs;obtain⟨z,i,c,rfl,rfl,hz,he,q⟩:=h;obtain⟨t,rfl⟩:=rx;obtain⟨t',rfl⟩:=ry;obtain⟨j,h1,h2,h3,h4,h5⟩:=S8 he;have hl:z.cps.toList.length=z.length:=by simp[Str.length]
 rw[hl]at h1 h4 h5;have hn:=Kc;exact tail_any (typeIs_str s z t) slot_str_getitem.lookup (getItem_str (c:=c) (by
  have e1:decide (i< -(2^63:Int))=aD:=bK (by omega);have e2:decide (i>=2^63)=aD:=bK (by omega);rw[e1,e2,Bool.or_false]) (by rw[h1];simpa using h2) ⟨.str ⟨#[c]⟩,H,I.tok _,⟨_,rfl⟩,q⟩) hs
def rIx(K:aj):R2:=λx y H Q=>MP K x y H Q\/CS K x y H Q\/CQ x y H Q
theorem qg:IxR X (rIx X.K):=S9.or (qi.or qh)
theorem Va(lo hi n):(sliceBounds lo hi aB n).1=((HT.sIx n 0 lo:Nat):Int)/\(sliceBounds lo hi aB n).2.1=((HT.sIx n n hi:Nat):Int)/\(sliceBounds lo hi aB n).2.2=1:=by
 refine⟨?_,?_,rfl⟩
 .cases lo with
  |none=>simp[sliceBounds,HT.sIx]
  |some i=>
   simp only[sliceBounds,HT.sIx,Option.getD_none,show(1:Int) > 0 by decide,if_true];by_cases h:i<0
   .simp only[h,if_true]<;> omega
   .simp only[h,if_false]<;> omega
 .cases hi with
  |none=>simp[sliceBounds,HT.sIx]
  |some i=>
   simp only[sliceBounds,HT.sIx,Option.getD_none,show(1:Int) > 0 by decide,if_true];by_cases h:i<0
   .simp only[h,if_true]<;> omega
   .simp only[h,if_false]<;> omega
theorem Ni(cS:List aq)(lo hi):slicePick cS.toArray lo hi aB=((cS.drop (HT.sIx cS.length 0 lo)).take (HT.sIx cS.length cS.length hi- HT.sIx cS.length 0 lo)).toArray:=by obtain⟨h1,h2,h3⟩:=Va lo hi cS.toArray.size;unfold slicePick;rw[h1,h2,h3];simp only[sliceRange_one,pick_run,bq]<;> rfl
def CP(K:aj):V->Option Int->Option Int->Hp->VK->Prop:=λx lo hi H Q=>∃a xs,x= .ref a/\On K H a xs/\∀p,H p=aB->Q (.ref p) (Wu H p (.lst (QM xs lo hi)))
theorem nj:SlR X (CP X.K):=by intro cO s σ H x v vl vu lo hi sl Q I rx hs pl pu h;obtain⟨a,xs,rfl,hx,q⟩:=h;cases rx;refine Zr (I.list hx) λcS r ht hz=>?_;have hlen:=r.length;refine⟨"list",_,slot_list_getitem.lookup,ht.isList.typeIs,?_⟩;refine wpAny_getItem_list_slice ht.isList hs pl pu .none (by simp) ?_ (by rw[bq]<;> omega);rw[Ni,<-hlen];refine⟨.ref s.heap.objs.size,_,I.laid (t':=s.toks) (o:=.lst (QM xs lo hi)) (λb ob q=>bh _ q) (bg _) ?_,rfl,q _ (I.hok.fresh (bg _))⟩;exact⟨dw (Hl xs lo hi) hz,_,0,(r.drop (HT.sIx xs.length 0 lo)).take (HT.sIx xs.length xs.length hi- HT.sIx xs.length 0 lo),cj _ rfl⟩
noncomputable def Wx:V->Bool
 | .non=>aC
 | .bl _=>aC
 | .int _=>aC
 | .str _=>aC
 |_=>aD
noncomputable def Hm:V->V->Bool
 | .non,.non=>aC
 | .bl a,.bl b=>a==b
 | .bl a,.int b=>(if a then 1 else 0)==b
 | .int a,.bl b=>a==(if b then 1 else 0)
 | .int a,.int b=>a==b
 | .str a,.str b=>a==b
 |_,_=>aD
theorem yb(ry:Ya y u)(rx:Ya x v)(fy:Wx y=aC)(fx:Wx x=aC):SeqAt.EqAt A s u v (Hm y x):=by
 cases y with
 |non=>
  cases ry;cases x with
  |non=>cases rx;exact SeqAt.EqAt.same _
  |bl b=>cases rx;exact SeqAt.EqAt.none_bool b
  |int b=>obtain⟨t,rfl⟩:=rx;exact SeqAt.EqAt.none_int b t
  |str b=>obtain⟨t,rfl⟩:=rx;exact SeqAt.EqAt.none_str b t
  |_=>exact bN (show aD=aC from fx) bi
 |bl a=>
  cases ry;cases x with
  |non=>cases rx;exact SeqAt.EqAt.bool_none a
  |bl b=>cases rx;exact SeqAt.EqAt.bool_bool a b
  |int b=>obtain⟨t,rfl⟩:=rx;exact SeqAt.EqAt.bool_int a b t
  |str b=>obtain⟨t,rfl⟩:=rx;exact SeqAt.EqAt.bool_str a b t
  |_=>exact bN (show aD=aC from fx) bi
 |int a=>
  obtain⟨t',rfl⟩:=ry;cases x with
  |non=>cases rx;exact SeqAt.EqAt.int_none a t'
  |bl b=>cases rx;exact SeqAt.EqAt.int_bool a t' b
  |int b=>obtain⟨t,rfl⟩:=rx;exact SeqAt.EqAt.int_int a t' b t
  |str b=>obtain⟨t,rfl⟩:=rx;exact SeqAt.EqAt.int_str a t' b t
  |_=>exact bN (show aD=aC from fx) bi
 |str a=>
  obtain⟨t',rfl⟩:=ry;cases x with
  |non=>cases rx;exact SeqAt.EqAt.str_none a t'
  |bl b=>cases rx;exact SeqAt.EqAt.str_bool a t' b
  |int b=>obtain⟨t,rfl⟩:=rx;exact SeqAt.EqAt.str_int a t' b t
  |str b=>obtain⟨t,rfl⟩:=rx;exact SeqAt.EqAt.str_str a t' b t
  |_=>exact bN (show aD=aC from fx) bi
 |_=>exact bN (show aD=aC from fy) bi
def Hn(x:V)(u:aq):Bool:=match u with
 | .none=>Hm .non x
 | .bool b=>Hm (.bl b) x
 | .int i _=>Hm (.int i) x
 | .str z _=>Hm (.str z) x
 |_=>aD
theorem EG(r:Ya y u)(f:Wx y=aC):Hn x u=Hm y x:=by
 cases y with
 |non=>cases r;rfl
 |bl b=>cases r;rfl
 |int i=>obtain⟨t,rfl⟩:=r;rfl
 |str z=>obtain⟨t,rfl⟩:=r;rfl
 |_=>exact bN (show aD=aC from f) bi
theorem Ae:∀{xs:List V} {us:List aq},Ym xs us->xs.all Wx=aC->us.any (Hn x)=xs.any λy=>Hm y x
 |_,_,.nil,_=>rfl
 |y::xs,u::us,.cons r t,f=>by rw[List.all_cons,dn]at f;rw[List.any_cons,List.any_cons,EG r f.1,Ae t f.2]
theorem Co(rx:Ya x v)(fx:Wx x=aC):∀{xs:List V} {us:List aq},Ym xs us->xs.all Wx=aC->∀u∈us,SeqAt.EqAt A s u v (Hn x u)
 |_,_,.nil,_=>λu hu=>by cases hu
 |y::xs,u::us,.cons r t,f=>λu' hu=>by
  rw[List.all_cons,dn]at f;rcases ba.mp hu with rfl|hu
  .rw[EG r f.1];exact yb r rx f.1 fx
  .exact Co rx fx t f.2 u' hu
def inV(x:V)(xs:List V):Bool:=xs.any λy=>Hm y x
def rIn(K:aj)(QW:Bool):R2:=λx y H Q=>∃p xs,y= .ref p/\(On K H p xs\/Er K H p xs)/\Wx x=aC/\xs.all Wx=aC/\Q (.bl (if QW then !inV x xs else inV x xs)) H
theorem Pa:B5 X (eu .In) (rIn X.K aD):=by
 intro cO s σ H x y v u Q I rx ry h;obtain⟨p,xs,rfl,hq,fx,fs,q⟩:=h;cases ry;rcases hq with hq|hq
 .refine Zr (I.list hq) λcS r pl hz=>?_;refine SeqAt.in_listAt (Hn x) pl.isList (λw hw=>Co rx fx r fs w (by simpa using hw)) ⟨.bl _,H,I,rfl,?_⟩;rw[show cS.toArray.any (Hn x)=cS.any (Hn x) by simp,Ae r fs];exact q
 .refine Zr (I.tuple hq) λcS r pl hz=>?_;refine SeqAt.in_tupleAt (Hn x) pl (λw hw=>Co rx fx r fs w (by simpa using hw)) ⟨.bl _,H,I,rfl,?_⟩;rw[show cS.toArray.any (Hn x)=cS.any (Hn x) by simp,Ae r fs];exact q
theorem Af:B5 X (eu .NotIn) (rIn X.K aC):=by
 intro cO s σ H x y v u Q I rx ry h;obtain⟨p,xs,rfl,hq,fx,fs,q⟩:=h;cases ry;rcases hq with hq|hq
 .refine Zr (I.list hq) λcS r pl hz=>?_;refine SeqAt.notIn_listAt (Hn x) pl.isList (λw hw=>Co rx fx r fs w (by simpa using hw)) ⟨.bl _,H,I,rfl,?_⟩;rw[show cS.toArray.any (Hn x)=cS.any (Hn x) by simp,Ae r fs];exact q
 .refine Zr (I.tuple hq) λcS r pl hz=>?_;refine SeqAt.notIn_tupleAt (Hn x) pl (λw hw=>Co rx fx r fs w (by simpa using hw)) ⟨.bl _,H,I,rfl,?_⟩;rw[show cS.toArray.any (Hn x)=cS.any (Hn x) by simp,Ae r fs];exact q
theorem Ag:B5 X (eu .NotIn) (λx y H Q=>∃i j,x= .str i/\y= .str j/\Q (.bl (!(!(bv j i 0 j.length 1).isEmpty))) H):=by intro cO s σ H x y v u Q I rx ry h;obtain⟨i,j,rfl,rfl,q⟩:=h;obtain⟨t,rfl⟩:=rx;obtain⟨t',rfl⟩:=ry;exact notIn_str ⟨.bl _,H,I,rfl,q⟩
theorem Ah:Ub X (.builtin "len") (λxs H Q=>∃p ys,xs=[.ref p]/\(On X.K H p ys\/Er X.K H p ys)/\Q (.int ys.length) H):=by
 intro cO s σ H xs us Q I r h;obtain⟨p,ys,rfl,hq,q⟩:=h;obtain⟨u,rfl,rx⟩:=Uu r;cases rx;have hn:=Kc;rcases hq with hq|hq
 .refine Zr (I.list hq) λcS r' pl hz=>?_;have hlen:=r'.length;exact Calls.call_len_list pl.isList (by simp only[bq]<;> omega) ⟨.int ys.length,H,I.tok _,⟨s.toks+1,by rw[bq,hlen]⟩,q⟩
 .refine Zr (I.tuple hq) λcS r' pl hz=>?_;have hlen:=r'.length;exact len_tuple pl (by simp only[bq]<;> omega) ⟨.int ys.length,H,I.tok _,⟨s.toks+1,by rw[bq,hlen]⟩,q⟩
theorem Vb:Ub X (.builtin "len") (λxs H Q=>∃z,xs=[.str z]/\z.length<=sizeLine/\Q (.int z.length) H):=by intro cO s σ H xs us Q I r h;obtain⟨z,rfl,hz,q⟩:=h;obtain⟨u,rfl,t,rfl⟩:=Uu r;have hn:=Kc;exact len_str (by omega) ⟨.int z.length,H,I.tok _,⟨_,rfl⟩,q⟩
theorem Ub.or(h:Ub X f r)(h':Ub X f r'):Ub X f (λxs H Q=>r xs H Q\/r' xs H Q):=by
 intro cO s σ H xs us Q I rs q;rcases q with q|q
 .exact h cO s σ H xs us Q I rs q
 .exact h' cO s σ H xs us Q I rs q
theorem Vc:Ub X (.type "list") (λxs H Q=>∃p ys,xs=[.ref p]/\(On X.K H p ys\/Er X.K H p ys)/\∀l,H l=aB->Q (.ref l) (Wu H l (.lst ys))):=by
 intro cO s σ H xs us Q I r h;obtain⟨p,ys,rfl,hq,q⟩:=h;obtain⟨u,rfl,rx⟩:=Uu r;cases rx;have fin:∀(cS:List aq),Ym ys cS->ys.length<=sizeLine->∀(h':ed) (c':Nat),(∀b o',s.heap.get? b=aA o'->h'.get? b=aA o')->
   h'.get? s.heap.objs.size=aA {cls:=.type "list",dict:=aB,data:=.seq cS.toArray c',slots:= #[]}->EP X cO σ Q (.ref s.heap.objs.size) {s with heap:=h'}:=λcS r' hz h' c' kp e=>
  ⟨.ref s.heap.objs.size,_,I.laid (t':=s.toks) kp (bg _) (show Wi X.prog X.w _ h' _ (.lst ys)from⟨hz,cS,c',r',e⟩),rfl,q _ (I.hok.fresh (bg _))⟩
 rcases hq with hq|hq
 .refine Zr (I.list hq) λcS r' pl hz=>?_;have hlen:=r'.length;obtain⟨o,ho,hc,n,hd⟩:=pl.isList;exact call_list_seq p (.inl rfl) ho hc hd (λh' c' kp e=>fin cS r' hz h' c' kp e) (by simp only[bq]<;> omega)
 .refine Zr (I.tuple hq) λcS r' pl hz=>?_;have hlen:=r'.length;obtain⟨o,ho,hc,n,hd⟩:=pl;exact call_list_seq p (.inr rfl) ho hc hd (λh' c' kp e=>fin cS r' hz h' c' kp e) (by simp only[bq]<;> omega)
theorem M9:Ub X (.type "tuple") (λxs H Q=>∃p ys,xs=[.ref p]/\((On X.K H p ys/\∀l,H l=aB->Q (.ref l) (Wu H l (.tup ys)))\/(Er X.K H p ys/\Q (.ref p) H))):=by
 intro cO s σ H xs us Q I r h;obtain⟨p,ys,rfl,h⟩:=h;obtain⟨u,rfl,rx⟩:=Uu r;cases rx;rcases h with⟨hq,q⟩|⟨hq,q⟩
 .refine Zr (I.list hq) λcS r' pl hz=>?_;have hlen:=r'.length;refine call_tuple_list pl.isList (λh' kp=>?_) (by simp only[bq]<;> omega);have I1:cP X cO σ H {s with heap:=h'}:=I.kept (t':=s.toks) kp;have I2:cP X cO σ (Wu H h'.objs.size (.tup ys)) {s with heap:=h'.push {cls:=.type "tuple",data:=.seq cS.toArray}}:=
   I1.laid (t':=s.toks) (λb o e=>bh _ e) (bg _) (show Wi X.prog X.w _ _ _ (.tup ys)from⟨hz,cS,r',IsTup.new _ _⟩)
  exact⟨.ref h'.objs.size,_,I2,rfl,q _ (I1.hok.fresh (bg _))⟩
 .refine Zr (I.tuple hq) λcS r' pl hz=>?_;exact call_tuple_same pl ⟨.ref p,H,I,rfl,q⟩
def tyV(K:aj)(T:String)(x:V)(H:Hp):Prop:=match x with
 | .str _=>T="str"
 | .int _=>T="int"
 | .ref p=>(T="list"/\∃xs,On K H p xs)\/(T="tuple"/\∃o,K.lookup p=aA o/\o.cls= .type "tuple"/\o.dict=aB)\/
   (T="dict"/\((∃kvs,HK H p kvs)\/∃kvs,HTt H p kvs))\/(T="set"/\∃S n,H p=aA (.set S n))
 |_=>False
theorem ya{σ:St}(I:cP X cO σ H s)(r:Ya x v)(ty:tyV X.K T x H):
  s.TypeIs v T/\∀a,v= .ref a->∃ob,s.heap.get? a=aA ob/\ob.dict=aB:=by
 cases x with
 |str z=>obtain⟨t,rfl⟩:=r;cases(show T="str"from ty);exact⟨typeIs_str s z t,λ_ e=>nomatch e⟩
 |int i=>obtain⟨t,rfl⟩:=r;cases(show T="int"from ty);exact⟨typeIs_int s i t,λ_ e=>nomatch e⟩
 |ref p=>
  cases r;rcases ty with⟨rfl,xs,hq⟩|⟨rfl,o,hk,hc,hd⟩|⟨rfl,hk⟩|⟨rfl,S,n,hk⟩
  .refine Zr (I.list hq) λcS _ pl _=>?_;refine⟨pl.isList.typeIs,λa e=>?_⟩;cases e;refine G9 pl λo n e c hd _=>?_;exact⟨o,e,hd⟩
  .refine⟨⟨o,I.kIn p o hk,hc⟩,λa e=>?_⟩;cases e;exact⟨o,I.kIn _ o hk,hd⟩
  .have z:∃o,s.heap.get? p=aA o/\o.ExactDict:=by
    rcases hk with⟨kvs,ep,hk⟩|⟨kvs,ep,bs,hk⟩
    .obtain⟨_,_,_,_,o,_,e,ex,_⟩:=I.hok p _ hk;exact⟨o,e,ex⟩
    .obtain⟨_,_,_,_,o,_,e,ex,_⟩:=I.hok p _ hk;exact⟨o,e,ex⟩
   obtain⟨o,e,ex⟩:=z;refine⟨⟨o,e,ex.1⟩,λa e2=>?_⟩;cases e2;exact⟨o,e,ex.2.1⟩
  .refine Ww (I.hok p _ hk) λo _ _ _ e ex _=>?_;refine⟨⟨o,e,ex.1⟩,λa e2=>?_⟩;cases e2;exact⟨o,e,ex.2.1⟩
 |_=>exact False.elim ty
def CN(K:aj)(T:String)(r:V->List V->Hp->VK->Prop)(to:TE):TE:=λσ H Q=>to σ H λx H1=>tyV K T x H1/\r x [] H1 Q
def tBM(K:aj)(T:String)(r:V->List V->Hp->VK->Prop)(to:TE)(t:TA):TE:=λσ H Q=>to σ H λx H1=>tyV K T x H1/\t σ H1 λxs H2=>r x xs H2 Q
variable{o e:ca}{to:TE}{name:Str}{ZC ZA:Pos}{T id:String}{r:V->List V->Hp->VK->Prop}
theorem qe(pa:PlainAttrs T)(slot:Slot T name id)(PB:typeOf (.builtin id)=pure (.type "method_descriptor"))(hm:MtR X id r)(ho:PE X o to)(ZF:‹eg o name X.env (dj o X.env)=dj o X.env›)(ZE:‹(ZC.endLine==ZA.line)=aC›):PE X (.Call (.Attribute o name ZC) [] [] ZA) (CN X.K T r to):=by
 intro cO s σ H Q I h;refine wpAny_Call_method0_late ZF ZE (W7 (ho cO s σ H _ I h) λv s1 ZJ=>?_);obtain⟨x,H1,I1,r1,ty,q1⟩:=ZJ;obtain⟨h1,h2⟩:=ya I1 r1 ty;exact⟨T,id,pa,slot,PB,h1,h2,Calls.callWith_builtin rfl (PySem.evalArgs_none (hm cO s1 σ H1 x [] v [] Q I1 r1 .nil q1))⟩
theorem Cp(pa:PlainAttrs T)(slot:Slot T name id)(PB:typeOf (.builtin id)=pure (.type "method_descriptor"))(hm:MtR X id r)(ho:PE X o to)(ha:PA X (e::es) t)(ZF:‹eg o name X.env (dj o X.env)=dj o X.env›)(ZQ:((c9 ZA (au (e::es) X.env)).all (λx=>!x.1)&&(backToKw ZA (f9 [] X.env)).all (λx=>x.1.isSome)
   &&decide ((e::es).length+([]:List f7).length+(if([]:List f7).isEmpty then 0 else 1)<30))=aC:=by rfl)(ZE:‹(ZC.endLine==ZA.line)=aC›)(hs:‹au (e::es) X.env=(aD,dj e X.env)::au es X.env›)(SW:‹(c9 ZA (au es X.env)).any (·.1)=aD›):
  PE X (.Call (.Attribute o name ZC) (e::es) [] ZA) (tBM X.K T r to t):=by
 intro cO s σ H Q I h;refine wpAny_Call_method_late ZF ZQ ZE rfl (W7 (ho cO s σ H _ I h) λv s1 ZJ=>?_);obtain⟨x,H1,I1,r1,ty,q1⟩:=ZJ;obtain⟨h1,h2⟩:=ya I1 r1 ty;refine⟨T,id,pa,slot,PB,h1,h2,?_⟩;have hA:=ha ZA cO s1 σ H1 _ I1 q1;rw[hs]at hA⊢;refine Calls.callWith_builtin (by show(aD|| (c9 ZA (au es X.env)).any (·.1))=aD;rw[SW]<;> rfl) (Calls.evalArgs_plain ?_);exact W7 hA λus s2 ⟨vs,H2,I2,r2,q2⟩=>hm cO s2 σ H2 x vs v us Q I2 r1 r2 q2
end
def MtM(X:Cx)(id:String)(r:V->List V->Hp->VK->Prop):Prop:=
 ∀(cO:List (av×Obj)) (s:ax) (σ:St) (H:Hp) (x:V) (xs:List V) (v:aq) (us:List aq) (Q:VK),cP X cO σ H s->Ya x v->Ym xs us->r x xs H Q->
  b5 (cv X.prog X.w) X.A (call (.builtin id) (v::us)) (EP X cO σ Q) X.xe s
theorem Ym.one(h:Ym [x] us):∃u,us=[u]/\Ya x u:=by
 cases h with
 |cons r t=>cases t;exact⟨_,rfl,r⟩
theorem Ym.zero:∀{us:List aq},Ym [] us->us=[]
 |_,.nil=>rfl
theorem Ym.dropLast(h:Ym xs us):Ym xs.dropLast us.dropLast:=by
 induction h with
 |nil=>exact .nil
 |cons r t ih=>
  cases t with
  |nil=>exact .nil
  |cons q t'=>exact .cons r ih
theorem iX{α:Type}(l:List α):l.eraseIdx (l.length- 1)=l.dropLast:=by
 induction l with
 |nil=>rfl
 |cons a r ih=>
  cases r with
  |nil=>rfl
  |cons b r=>
   have e:(a::b::r).length- 1=((b::r).length- 1)+1:=by have h1:(a::b::r).length=r.length+2:=rfl;have h2:(b::r).length=r.length+1:=rfl;omega
   rw[e,List.eraseIdx_cons_succ,ih]
   all_goals rfl
section
variable{X:Cx}{cO:List (av×Obj)}{σ:St}{H:Hp}{s:ax}{l b:av}{xs ys zs:List V}
theorem cP.lset{cS:List aq}(I:cP X cO σ H s)(hH:H l=aA (.lst xs))(e:s.heap.get? l=aA {cls:=.type "list",data:=.seq cS.toArray n})(hf:f cS.toArray=its'.toArray)(hv:Ym ys its')(hz:ys.length<=sizeLine):
  cP X cO σ (Wu H l (.lst ys)) {s with heap:=s.heap.update l (Obj.mapSeq f),toks:=t'}:=by
 have q:=PySem.IsL.update e f;rw[hf]at q;refine I.write (x:=l) (e:=l) (by rw[hH];exact trivial) (.inl rfl) (λb' u hb hu=>(Heap.get?_update_other s.heap (Obj.mapSeq f) (Ne.symm hb)).trans hu) ⟨_,q⟩ ?_;exact⟨hz,its',_,hv,q⟩
theorem cP.lnew(I:cP X cO σ H s)(hv:Ym ys cS)(hz:ys.length<=sizeLine):
  cP X cO σ (Wu H s.heap.objs.size (.lst ys)) {s with heap:=s.heap.push {cls:=.type "list",data:=.seq cS.toArray},toks:=t'}:=
 I.laid (λ_ _ q=>bh _ q) (bg _) ⟨hz,cS,0,hv,cj _ rfl⟩
theorem cP.fresh(I:cP X cO σ H s):H s.heap.objs.size=aB:=I.hok.fresh (bg _)
theorem cP.lstM(I:cP X cO σ H s)(hH:H l=aA (.lst xs)):xs.length<=sizeLine/\∃cS n,Ym xs cS/\xs.length=cS.length/\s.heap.get? l=aA {cls:=.type "list",data:=.seq cS.toArray n}:=by obtain⟨z,cS,n,r,e⟩:=I.hok l _ hH;exact⟨z,cS,n,r,r.length,e⟩
theorem Ho(h:n<=sizeLine):Builtin.List.listTooLong n=aD:=by unfold Builtin.List.listTooLong;exact bK (by omega)
end
def Ou:V->List V->Hp->VK->Prop:=λx vs H Q=>∃l xs y,x= .ref l/\vs=[y]/\H l=aA (.lst xs)/\xs.length<sizeLine/\Q .non (Wu H l (.lst (xs++[y])))
theorem O3:MtM X "list.append" Ou:=by intro cO s σ H x vs v us Q I rx rv h;obtain⟨l,xs,y,rfl,rfl,hH,hz,q⟩:=h;cases rx;obtain⟨u,rfl,ru⟩:=rv.one;obtain⟨z,cS,n,r,hl,e⟩:=I.lstM hH;refine call_meets F.slot_list_append ⟨_,e,rfl⟩ F.entry_list_append (F.args_list_append_2 _ _) (PySem.list_append l cS.toArray n u (by rw[bq];omega)) ⟨e,?_⟩;refine⟨.non,_,I.lset (its':=cS++[u]) hH e (by simp) (r.append (.cons ru .nil)) ?_,rfl,q⟩;rw[ao,b4];omega
def xr:V->List V->Hp->VK->Prop:=λx vs H Q=>∃l b xs zs,x= .ref l/\vs=[.ref b]/\H l=aA (.lst xs)/\H b=aA (.lst zs)/\xs.length+zs.length<=sizeLine/\Q .non (Wu H l (.lst (xs++zs)))
theorem jp:MtM X "list.extend" xr:=by
 intro cO s σ H x vs v us Q I rx rv h;obtain⟨l,b,xs,zs,rfl,rfl,hH,hB,hz,q⟩:=h;cases rx;obtain⟨u,rfl,ru⟩:=rv.one;cases ru;obtain⟨z,cS,n,r,hl,e⟩:=I.lstM hH;obtain⟨z2,YT,n2,r2,hl2,e2⟩:=I.lstM hB;have hsz:cS.toArray.size+YT.toArray.size<=sizeLine:=by rw[bq,bq];omega
 have UA:¬(!cS.toArray.isEmpty&&Builtin.List.listTooLong (cS.toArray.size+YT.toArray.size))=aC:=by rw[Ho hsz,Bool.and_false];exact bi
 refine call_meets F.slot_list_extend ⟨_,e,rfl⟩ F.entry_list_extend (F.args_list_extend_2 _ _)
  (AutoSeq1.list_extend_list_list_0 l cS.toArray n b YT.toArray n2 UA (by rw[bq];omega) (by omega)) ⟨e,e2,?_⟩
 refine⟨.non,_,I.lset (its':=cS++YT) hH e (by simp) (r.append r2) ?_,rfl,q⟩;rw[ao];omega
def CM:V->List V->Hp->VK->Prop:=λx vs H Q=>∃l xs y,x= .ref l/\vs=[]/\H l=aA (.lst xs)/\xs[xs.length- 1]? =aA y/\Q y (Wu H l (.lst xs.dropLast))
theorem qc:MtM X "list.pop" CM:=by
 intro cO s σ H x vs v us Q I rx rv h;obtain⟨l,xs,y,rfl,rfl,hH,hy,q⟩:=h;cases rx;have hus:=rv.zero;subst hus;obtain⟨z,cS,n,r,hl,e⟩:=I.lstM hH;obtain⟨u,hu,ru⟩:=r.get hy;have WC:cS.toArray[cS.toArray.size- 1]? =aA u:=by show cS.toArray[cS.length- 1]? =aA u;rw[<-Array.getElem?_toList,<-hl];exact hu
 refine call_meets F.slot_list_pop ⟨_,e,rfl⟩ F.entry_list_pop (F.args_list_pop_1 _) (MeetsSeq.list_pop_last l cS.toArray n u WC (by rw[bq];omega)) ⟨e,?_⟩;refine⟨y,_,I.lset (its':=cS.dropLast) hH e ?_ r.dropLast ?_,ru,q⟩
 .show cS.toArray.eraseIdxIfInBounds (cS.toArray.size- 1)=cS.dropLast.toArray;rw[bq,List.eraseIdxIfInBounds_toArray,iX]
 .rw[List.length_dropLast];omega
section
variable{κ:Type}[DecidableEq κ]
noncomputable def O7(kvs:List (κ×V))(k:κ):Option V:=(kvs.find? λkv=>decide (kv.1=k)).map (·.2)
noncomputable def Jg(kvs:List (κ×V))(k:κ)(v:V):List (κ×V):=
 if(kvs.any λkv=>decide (kv.1=k))=aC then kvs.map (λkv=>if kv.1=k then(kv.1,v)else kv)else kvs++[(k,v)]
theorem kj:O7 ([]:List (κ×V)) k=aB:=rfl
theorem Rj{k:κ}(e:p.1=k):O7 (p::r) k=aA p.2:=by simp[O7,List.find?_cons,e]
theorem Rk{k:κ}(e:¬p.1=k):O7 (p::r) k=O7 r k:=by simp[O7,List.find?_cons,e]
theorem Rl(k):∀kvs:List (κ×V),(kvs.any λkv=>decide (kv.1=k))=(O7 kvs k).isSome
 | []=>rfl
 |p::r=>by
  rw[List.any_cons];by_cases e:p.1=k
  .simp only[Rj e,bL e,Bool.true_or,Option.isSome_some]
  .rw[Rk e,bK e,Bool.false_or];exact Rl k r
theorem Rm(kvs)(k:κ)(v):(Jg kvs k v).length<=kvs.length+1:=by
 unfold Jg;split
 .rw[ay];omega
 .rw[ao,bc,List.length_nil];omega
theorem ke{k:κ}(v)(h:O7 kvs k=aB):Jg kvs k v=kvs++[(k,v)]:=by unfold Jg;rw[Rl,h];exact bI (by decide)
theorem Fz.isSome_eq(r:Fz o u):o.isSome=u.isSome:=by
 cases o with
 |none=>cases u with
  |none=>rfl
  |some _=>exact(show False from r).elim
 |some _=>cases u with
  |none=>exact(show False from r).elim
  |some _=>rfl
theorem Fz.getD(r:Fz o u)(rd:Ya d d'):Ya (o.getD d) (u.getD d'):=by
 cases o with
 |none=>cases u with
  |none=>exact rd
  |some _=>exact(show False from r).elim
 |some _=>cases u with
  |none=>exact(show False from r).elim
  |some _=>exact r
theorem KV.val(r:KV kvs vs)(k:κ):Fz (O7 kvs k) (valueAt vs k):=by
 unfold KV at r;induction r with
 |nil=>exact True.intro
 | @cons p q ps qs h t ih=>
  obtain⟨h1,h2⟩:=h;by_cases e:p.1=k
  .have e':q.1=k:=h1.symm.trans e;have b:valueAt (q::qs) k=aA q.2:=by simp[valueAt,List.find?_cons,e']
   rw[Rj e,b];exact h2
  .have e':¬q.1=k:=λz=>e (h1.trans z);have b:valueAt (q::qs) k=valueAt qs k:=by simp[valueAt,List.find?_cons,e']
   rw[Rk e,b];exact ih
theorem KV.any(r:KV kvs vs)(k:κ):(kvs.any λkv=>decide (kv.1=k))=vs.any λkv=>decide (kv.1=k):=by
 unfold KV at r;induction r with
 |nil=>rfl
 |cons h t ih=>rw[List.any_cons,List.any_cons,ih,h.1]
theorem KV.repl(r:KV kvs vs)(k:κ)(ry:Ya y u):
  KV (kvs.map λkv=>if kv.1=k then(kv.1,y)else kv) (vs.map λkv=>if kv.1=k then(kv.1,u)else kv):=by
 unfold KV at r⊢;induction r with
 |nil=>exact .nil
 | @cons p q ps qs h t ih=>
  rw[bn,bn];refine .cons ?_ ih;obtain⟨h1,h2⟩:=h;by_cases e:p.1=k
  .rw[bJ e,bJ (h1.symm.trans e)];exact⟨h1,ry⟩
  .rw[bI e,bI (λz=>e (h1.trans z))];exact⟨h1,h2⟩
theorem KV.put(r:KV kvs vs)(k:κ)(ry:Ya y u):KV (Jg kvs k y) (stored vs k u):=by
 unfold Jg stored;rw[r.any k];by_cases e:(vs.any λkv=>decide (kv.1=k))=aC
 .rw[bJ e,bJ e];exact r.repl k ry
 .rw[bI e,bI e];exact Paired.snoc r ⟨rfl,ry⟩
theorem KV.length{vs:List (κ×aq)}(r:KV kvs vs):kvs.length=vs.length:=Paired.length r
end
theorem Im(r:Ya (kV k) u):(Yf P w).is k u=aC:=by
 cases k with
 |inl i=>obtain⟨t,e⟩:=(show∃t,u=Value.int i t from r);subst e;exact He P w i t
 |inr x=>obtain⟨t,e⟩:=(show∃t,u=Value.str x t from r);subst e;exact Hf P w x t
theorem Pb:∀{ks:List Key} {us:List aq},Ym (ks.map kV) us->ItemsAre (Yf P w) ks us
 | [],_,r=>by rw[List.map_nil]at r;cases r;exact .nil
 |k::ks,_,r=>by
  rw[bn]at r;cases r with
  |cons h t=>exact .cons (Im h) (Pb t)
abbrev KT(H:Hp):List (List Key×V)->List (List Key×av×aq)->Prop:=Paired λp q=>p.1=q.1/\H q.2.1=aA (.tup (p.1.map kV))/\Ya p.2 q.2.2
theorem KT.val(r:KT H kvs xs)(k):Fz (O7 kvs k) ((atKey xs k).map (·.2)):=by
 induction r with
 |nil=>exact True.intro
 | @cons p q ps qs h t ih=>
  obtain⟨h1,_,h2⟩:=h;by_cases e:p.1=k
  .have e':q.1=k:=h1.symm.trans e;have b:atKey (q::qs) k=aA q.2:=by simp[atKey,List.find?_cons,e']
   rw[Rj e,b];exact h2
  .have e':¬q.1=k:=λz=>e (h1.trans z);have b:atKey (q::qs) k=atKey qs k:=by simp[atKey,List.find?_cons,e']
   rw[Rk e,b];exact ih
theorem KT.repl(r:KT H kvs xs)(k)(ry:Ya y u):
  KT H (kvs.map λkv=>if kv.1=k then(kv.1,y)else kv) (xs.map (putAt k u)):=by
 induction r with
 |nil=>exact .nil
 | @cons p q ps qs h t ih=>
  rw[bn,bn];refine .cons ?_ ih;obtain⟨h1,h2,h3⟩:=h;unfold putAt;by_cases e:p.1=k
  .rw[bJ e,bJ (h1.symm.trans e)];exact⟨h1,h2,ry⟩
  .rw[bI e,bI (λz=>e (h1.trans z))];exact⟨h1,h2,h3⟩
theorem KT.put(r:KT H kvs xs)(k)(hb:H b=aA (.tup (k.map kV)))(ry:Ya y u):
  KT H (Jg kvs k y) (storedH xs k b u):=by
 have e:(kvs.any λkv=>decide (kv.1=k))=(atKey xs k).isSome:=by rw[Rl,(r.val k).isSome_eq,Option.isSome_map]
 unfold Jg storedH;rw[e];by_cases q:(atKey xs k).isSome=aC
 .rw[bJ q,bJ q];exact r.repl k ry
 .rw[bI q,bI q];exact Paired.snoc r ⟨rfl,hb,ry⟩
theorem KT.keeps(r:KT H kvs xs)(ht:∀b ys,H b=aA (.tup ys)->H' b=aA (.tup ys)):KT H' kvs xs:=
 Paired.mapP r λ_ _ z=>⟨z.1,ht _ _ z.2.1,z.2.2⟩
theorem GO(ok:Rf P w H h)(e:Rd H a u):Wi P w H h a u:=e.ok ok
theorem Ai(ok:Rf P w H h)(e:RdK H a kvs):kvs.length<=sizeLine/\(a==sysModules)=aD/\∃vs,KV kvs vs/\h.DictOf (Yf P w) a vs:=
 let⟨ep,e⟩:=e;let⟨z,y,vs,r,d⟩:=(show Wi P w H h a (.dK kvs ep)from GO ok e);⟨z,y,vs,r,d.dictOf⟩
theorem GN(ok:Rf P w H h)(e:HK H a kvs):kvs.length<=sizeLine/\(a==sysModules)=aD/\∃vs,KV kvs vs/\h.DictOf (Yf P w) a vs:=Ai ok e.rd
theorem Tn(ok:Rf P w H h)(e:H a=aA (.tup (ks.map kV))):(tupleKind (Yf P w)).is h ks a:=by
 obtain⟨_,cS,r,o,h1,h2,n,h3⟩:=(show Wi P w H h a (.tup (ks.map kV))from ok a _ e)
 exact⟨o,cS.toArray,n,h1,h2,h3,by simpa using Pb r⟩
theorem Ke(ok:Rf P w H h)(e:RdT H a kvs):kvs.length<=sizeLine/\(a==sysModules)=aD/\
  ∃xs,KT H kvs xs/\h.DictOfH (tupleKind (Yf P w)) a xs:=by
 obtain⟨ep,bs,e⟩:=e;obtain⟨z,y,xs,r,o,es,h1,h2,h3,h4,h5,_⟩:=(show Wi P w H h a (.dT kvs ep bs)from GO ok e)
 refine⟨z,y,xs,r,o,es,ep,h1,h2,h3,h4,λx hx=>?_,h5⟩;have all:∀{l:List (List Key×V)} {m:List (List Key×av×aq)},KT H l m->∀x∈m,(tupleKind (Yf P w)).is h x.1 x.2.1:=by
  intro l m q;induction q with
  |nil=>intro x hx;exact nomatch hx
  | @cons p q ps qs hq t ih=>
   intro x hx;rcases ba.mp hx with e|hx
   .subst e;exact Tn ok (by rw[<-hq.1];exact hq.2.1)
   .exact ih x hx
 exact all r x hx
theorem tF(ok:Rf P w H h)(e:HTt H a kvs):kvs.length<=sizeLine/\(a==sysModules)=aD/\
  ∃xs,KT H kvs xs/\h.DictOfH (tupleKind (Yf P w)) a xs:=Ke ok e.rd
def B6(H:Hp)(a:av)(y:V)(r:Option V):Prop:=
 (∃kvs k,RdK H a kvs/\y=kV k/\r=O7 kvs k)\/∃kvs k b,RdT H a kvs/\y= .ref b/\H b=aA (.tup (k.map kV))/\r=O7 kvs k
def Nj(H:Hp)(a:av)(y v:V)(R:Hp->Prop):Prop:=
 (∃kvs k,HK H a kvs/\y=kV k/\kvs.length<sizeLine/\∀ep,R (Wu H a (.dK (Jg kvs k v) ep)))\/
 ∃kvs k b,HTt H a kvs/\y= .ref b/\H b=aA (.tup (k.map kV))/\kvs.length<sizeLine/\∀ep WJ bs,H a=aA (.dT kvs WJ bs)->R (Wu H a (.dT (Jg kvs k v) ep (Hg kvs bs k b)))
theorem B6.k{k:Key}(e:HK H a kvs):B6 H a (kV k) (O7 kvs k):=.inl ⟨kvs,k,e.rd,rfl,rfl⟩
theorem B6.t{k}(e:HTt H a kvs)(eb:H b=aA (.tup (k.map kV))):B6 H a (.ref b) (O7 kvs k):=.inr ⟨kvs,k,b,e.rd,rfl,eb,rfl⟩
theorem Nj.k{k:Key}(e:HK H a kvs)(hl:kvs.length<sizeLine)(h:∀ep,R (Wu H a (.dK (Jg kvs k v) ep))):Nj H a (kV k) v R:=.inl ⟨kvs,k,e,rfl,hl,h⟩
theorem Nj.t{k}(e:HTt H a kvs)(eb:H b=aA (.tup (k.map kV)))(hl:kvs.length<sizeLine)(h:∀ep WJ bs,H a=aA (.dT kvs WJ bs)->R (Wu H a (.dT (Jg kvs k v) ep (Hg kvs bs k b)))):
  Nj H a (.ref b) v R:=.inr ⟨kvs,k,b,e,rfl,eb,hl,h⟩
section
variable{X:Cx}{cO:List (av×Obj)}{σ:St}{H:Hp}{s:ax}{a:av}{y v:V}{u r:aq}{o:Option V}{A:d4}{E:aq->ax->Prop}
theorem cP.big(I:cP X cO σ H s):sysModules<s.heap.objs.size:=by have h:c8<s.heap.objs.size:=(I.mod.glob.keeps I.bk).lt;exact Nat.lt_trans (by decide) h
theorem jm(hu:A.units+1<cLine)(I:cP X cO σ H s)(g:B6 H a y (aA v))(ry:Ya y u)(h:∀w' s',cP X cO σ H s'->Ya v w'->Q w' s'):
  b5 (cv X.prog X.w) A (getItem (.ref a) u) Q E s:=by
 rcases g with⟨kvs,k,e,ey,l⟩|⟨kvs,k,b,e,ey,eb,l⟩
 .subst ey;obtain⟨z,hd,vs,ZR,dd⟩:=Ai I.hok e;obtain⟨w',hw,UO⟩:=Fz.some_of (v:=v) (o:=valueAt vs k) (by rw[l];exact ZR.val k);exact wpAny_getItem_of (Im ry) dd.mapOf hw (h w' _ (I.tok _) UO)
 .subst ey;cases(show u=dz b from ry);obtain⟨z,hd,xs,ZR,dd⟩:=Ke I.hok e;obtain⟨w',hw,UO⟩:=Fz.some_of (v:=v) (o:=(atKey xs k).map (·.2)) (by rw[l];exact ZR.val k);obtain⟨p,hp,JH⟩:=ez.mp hw;refine wpAny_getItem_heap (tupleKind_room_in1 hu) (Tn I.hok eb) dd hp ?_;rw[JH];exact h w' _ (I.tok _) UO
theorem gH(hu:A.units+1<cLine)(I:cP X cO σ H s)(g:B6 H a y o)(ry:Ya y u)(h:∀s',cP X cO σ H s'->Q (.bool o.isSome) s'):
  b5 (cv X.prog X.w) A (eu .In u (.ref a)) Q E s:=by
 rcases g with⟨kvs,k,e,ey,l⟩|⟨kvs,k,b,e,ey,eb,l⟩
 .subst ey;obtain⟨z,hd,vs,ZR,dd⟩:=Ai I.hok e;refine wpAny_in_of (Im ry) hd dd.mapOf ?_;rw[<-(ZR.val k).isSome_eq,<-l];exact h _ (I.tok _)
 .subst ey;cases(show u=dz b from ry);obtain⟨z,hd,xs,ZR,dd⟩:=Ke I.hok e;refine wpAny_in_heap (tupleKind_room_in1 hu) (Tn I.hok eb) hd dd ?_;have q:=(ZR.val k).isSome_eq;rw[Option.isSome_map]at q;rw[<-q,<-l];exact h _ (I.tok _)
theorem nh(hu:A.units+1<cLine)(I:cP X cO σ H s)(g:B6 H a y o)(ry:Ya y u)(h:∀s',cP X cO σ H s'->Q (.bool (!o.isSome)) s'):
  b5 (cv X.prog X.w) A (eu .NotIn u (.ref a)) Q E s:=by
 rcases g with⟨kvs,k,e,ey,l⟩|⟨kvs,k,b,e,ey,eb,l⟩
 .subst ey;obtain⟨z,hd,vs,ZR,dd⟩:=Ai I.hok e;refine wpAny_notIn_of (Im ry) hd dd.mapOf ?_;rw[<-(ZR.val k).isSome_eq,<-l];exact h _ (I.tok _)
 .subst ey;cases(show u=dz b from ry);obtain⟨z,hd,xs,ZR,dd⟩:=Ke I.hok e;refine wpAny_notIn_heap (tupleKind_room_in1 hu) (Tn I.hok eb) hd dd ?_;have q:=(ZR.val k).isSome_eq;rw[Option.isSome_map]at q;rw[<-q,<-l];exact h _ (I.tok _)
theorem Vd(I:cP X cO σ H s)(mu:Mut (H a))(hs:Heap.SameBut a s.heap h')(he:∃q,h'.get? a=aA q)(new:Wi X.prog X.w (Wu H a ob) h' a ob):
  cP X cO σ (Wu H a ob) {s with heap:=h',toks:=t'}:=
 I.write (x:=a) (e:=a) mu (.inl rfl) (λb q hb z=>(hs.2 b hb).trans z) he new
theorem yU(z:kvs.length<=sizeLine)(hd:(a==sysModules)=aD)(ZR:KV kvs vs)(dd:h'.DictOf (Yf P w) a vs):
  ∃ep,∀H',Wi P w H' h' a (.dK kvs ep):=let⟨ep,dd⟩:=dd.dictAt;⟨ep,λ_=>⟨z,hd,vs,ZR,dd⟩⟩
theorem jk(hu:A.units+1<cLine)(I:cP X cO σ H s)(g:Nj H a y v R)(ry:Ya y u)(rv:Ya v r)(h:∀H' s',R H'->cP X cO σ H' s'->Q () s'):
  b5 (cv X.prog X.w) A (setItem (.ref a) u r) Q E s:=by
 rcases g with⟨kvs,k,e,ey,l,eH⟩|⟨kvs,k,b,e,ey,eb,l,eH⟩
 .subst ey;obtain⟨z,hd,vs,ZR,dd⟩:=GN I.hok e;have hz:vs.length<=sizeLine:=by rw[<-ZR.length];exact z
  have hl:(Jg kvs k v).length<=sizeLine:=by have:=Rm kvs k v;omega
  refine wpAny_setItem_pairs (hsz:=hz) (Im ry) dd λh' RK hs=>?_;have he:∃q,h'.get? a=aA q:=let⟨q,_,_,hq,_⟩:=RK;⟨q,hq⟩
  obtain⟨ep,ok⟩:=yU hl hd (ZR.put k rv) RK;exact h _ _ (eH ep) (Vd I (by obtain⟨e0,e⟩:=e;rw[e];exact True.intro) hs he (ok _))
 .subst ey;cases(show u=dz b from ry);obtain⟨z,hd,xs,ZR,dd⟩:=tF I.hok e;have hz:xs.length<=sizeLine:=by rw[<-Paired.length ZR];exact z
  have hl:(Jg kvs k v).length<=sizeLine:=by have:=Rm kvs k v;omega
  refine wpAny_setItem_heap (hsz:=hz) (tupleKind_room_in1 hu) (Tn I.hok eb) dd λh' RK hs=>?_;obtain⟨q,es,ep,hq,h2,h3,h4,_,h5⟩:=RK;obtain⟨e0,bs,e⟩:=e;have hb:(xs.map λx=>x.2.1)=bs:=by
   obtain⟨_,_,NA,r',_,_,w1,_,w3,w4,_,w6⟩:=(show Wi X.prog X.w H s.heap a (.dT kvs e0 bs)from I.hok a _ e)
   obtain⟨_,_,_,y1,_,y3,y4,_⟩:=dd;rw[w1]at y1;cases y1;rw[w3]at y3;cases y3;have:NA.map (λx=>x.2.1)=xs.map λx=>x.2.1:=by
    have z:=congrArg (List.map DictEntry.key) (w4.symm.trans y4);rw[b6,b6]at z;have inj:∀{l m:List (List Key×av×aq)},l.map (DictEntry.key∘entryOfKey (tupleKind (Yf X.prog X.w)))=m.map (DictEntry.key∘entryOfKey (tupleKind (Yf X.prog X.w)))->(l.map λx=>x.2.1)=m.map λx=>x.2.1:=by
     intro l;induction l with
     |nil=>intro m z;cases m with
      |nil=>rfl
      |cons _ _=>cases z
     |cons x l ih=>intro m z;cases m with
      |nil=>cases z
      |cons y m=>rw[bn,bn]at z⊢;injection z with z1 z2;have SF:dz x.2.1=dz y.2.1:=z1;injection SF with SF;rw[SF,ih z2]
    exact inj z
   rw[<-this];exact w6
  have ua:((storedH xs k b r).map λx=>x.2.1)=Hg kvs bs k b:=by
   have ee:(kvs.any λkv=>decide (kv.1=k))=(atKey xs k).isSome:=by rw[Rl,(ZR.val k).isSome_eq,Option.isSome_map]
   unfold Hg storedH;rw[ee];by_cases qq:(atKey xs k).isSome=aC
   .rw[bJ qq,bJ qq,b6,<-hb];refine dl λx _=>?_;show(putAt k r x).2.1=x.2.1;unfold putAt;split<;> rfl
   .rw[bI qq,bI qq,cm,hb];rfl
  refine h _ _ (eH ep e0 bs e) (Vd I (by rw[e];exact True.intro) hs ⟨q,hq⟩ ⟨hl,hd,_,(ZR.put k eb rv).keeps λc ys ec=>?_,q,es,hq,h2,h3,h4,h5,ua⟩);rw[Zv (tP ec e (λz=>nomatch z))];exact ec
end
def HH(i:ca):Prop:=∀ov iv,subscripted i aD ov iv=operate [ov,iv] (getItem ov iv)
theorem ng{id:String}(hl:typeLookup (.type T) "__getitem__"=pure (aA (.builtin id)))(hs:HH slice)(h:b5 (cv prog w) A (dj value env) (λo s₁=>b5 (cv prog w) A (dj slice env) (λi s₂=>s₂.TypeIs o T/\b5 (cv prog w) A (getItem o i) Q E s₂) E s₁) E s):
  b5 (cv prog w) A (dj (.Subscript value slice pos) env) Q E s:=by
 refine Subscript_ (eh h (λo s₁ h₁=>eh h₁ (λi s₂ WB=>?_) λ_ _ x=>x) λ_ _ x=>x);obtain⟨hT,WB⟩:=WB;unfold subscriptTail;refine aw ?_;rw[getitemInPython_of_ne hT.not_modules];refine aw (wpAny_specialOf hT hl ?_);have fin:b5 (cv prog w) A (subscripted slice aD o i) (λr s₃=>b5 (cv prog w) A (letTemporaryGo value o r >>=λ_=>pure r) Q E s₃) E s₂:=by rw[hs o i];exact wpAny_operating (eh WB (λr s₃ WA=>aw (wpAny_letTemporaryGo (bj WA))) λ_ _ x=>x)
 first
  |exact bj (aw fin)
  |exact aw (bj (aw fin))
  |exact aw fin
theorem Hq{σ:St}(I:cP X cO σ H s)(g:B6 H a y o):s.TypeIs (.ref a) "dict":=by
 rcases g with⟨kvs,k,e,_,_⟩|⟨kvs,k,b,e,_,_,_⟩
 .obtain⟨_,_,vs,_,dd⟩:=Ai I.hok e;exact dd.typeIs
 .obtain⟨_,_,xs,_,dd⟩:=Ke I.hok e;exact dd.typeIs
def AR(td ty:TE):TE:=λσ H Q=>td σ H λx H1=>ty σ H1 λy H2=>∃a v,x= .ref a/\B6 H2 a y (aA v)/\Q v H2
def GM(td ty tv:TE):TS:=λD σ H=>tv σ H λv H1=>td σ H1 λx H2=>ty σ H2 λy H3=>∃a,x= .ref a/\Nj H3 a y v (D.nx σ)
theorem xq(hu:X.A.units+1<cLine)(ho:PE X o td)(hi:PE X i ty)(hs:HH i):PE X (.Subscript o i pos) (AR td ty):=by intro cO s σ H Q I h;refine ng PySem.F.slot_dict_getitem.lookup hs (W7 (ho cO s σ H _ I h) λu s1 ⟨x,H1,I1,rx,q1⟩=>W7 (hi cO s1 σ H1 _ I1 q1) λiv s2 ZJ=>?_);obtain⟨y,H2,I2,ry,a,v,ex,g,q2⟩:=ZJ;subst ex;obtain rfl:u=dz a:=rx;exact⟨Hq I2 g,jm hu I2 g ry λw' s3 I3 UO=>⟨v,H2,I3,UO,q2⟩⟩
theorem xp(hu:X.A.units+1<cLine)(ho:PE X o td)(hi:PE X i ty)(hv:PE X value tv)(hs:swapsWith value (aA (.Subscript o i pos')) pos.line X.env=pure aD):
  PS X (.Assign [.Subscript o i pos'] value pos) (GM td ty tv):=by
 intro cO s σ H D I h;refine wpAny_Assign_Subscript (W7 (hv cO s σ H _ I h) λr s1 ⟨v,H1,I1,rv,q1⟩=>W7 (ho cO s1 σ H1 _ I1 q1) λu s2 ⟨x,H2,I2,rx,q2⟩=>W7 (hi cO s2 σ H2 _ I2 q2) λiv s3 ⟨y,H3,I3,ry,a,ex,g⟩=>?_) hs;subst ex;obtain rfl:u=dz a:=rx;exact jk hu I3 g ry rv λH4 s4 q3 I4=>⟨σ,H4,I4,q3⟩
theorem Hr(h:ed)(hb:sysModules<h.objs.size):Wi P w H (h.push {cls:=.type "dict",data:=.dict #[]}) h.objs.size (.dK [] 0):=
 ⟨cr _,beq_eq_false_iff_ne.mpr (Ne.symm (d8 hb)),[],.nil,_,#[],cj _ rfl,⟨rfl,rfl,rfl⟩,rfl,λ_ he=>by simp at he,Pairs.nil,cx⟩
theorem kH(h:ed)(hb:sysModules<h.objs.size):Wi P w H (h.push {cls:=.type "dict",data:=.dict #[]}) h.objs.size (.dT [] 0 []):=
 ⟨cr _,beq_eq_false_iff_ne.mpr (Ne.symm (d8 hb)),[],.nil,_,#[],cj _ rfl,⟨rfl,rfl,rfl⟩,rfl,rfl,cx,rfl⟩
def Ve:TE:=λ_ H Q=>∀p,H p=aB->Q (.ref p) (Wu H p (.dK [] 0))
def yT:TE:=λ_ H Q=>∀p,H p=aB->Q (.ref p) (Wu H p (.dT [] 0 []))
theorem Kf:PE X (.Dict [] [] pos) Ve:=λcO s σ H Q I h=>
 wpAny_Dict_empty ⟨.ref s.heap.objs.size,_,I.laid (a:=s.heap.objs.size) (o:=.dK [] 0) (t':=s.toks) (λ_ _ q=>bh _ q) (bg _) (Hr s.heap I.big),rfl,h _ (I.hok.fresh (bg _))⟩
theorem kG:PE X (.Dict [] [] pos) yT:=λcO s σ H Q I h=>
 wpAny_Dict_empty ⟨.ref s.heap.objs.size,_,I.laid (a:=s.heap.objs.size) (o:=.dT [] 0 []) (t':=s.toks) (λ_ _ q=>bh _ q) (bg _) (kH s.heap I.big),rfl,h _ (I.hok.fresh (bg _))⟩
def Vf:List (TE×TE)->St->Hp->(List (V×V)->Hp->Prop)->Prop
  | [],_,H,Q=>Q [] H
  | (tk,tv)::r,σ,H,Q=>tk σ H λx H1=>tv σ H1 λy H2=>Vf r σ H2 λps H3=>Q ((x,y)::ps) H3
abbrev VV:List (V×V)->List (aq×aq)->Prop:=Paired λp q=>Ya p.1 q.1/\Ya p.2 q.2
def PPs(X:Cx)(pos:Pos)(keys:List (Option ca))(YD:List ca)(SG:List (TE×TE)):Prop:=
 ∀(cO:List (av×Obj)) (s:ax) (σ:St) (H:Hp) (Q:List (V×V)->Hp->Prop),cP X cO σ H s->Vf SG σ H Q->
  b5 (cv X.prog X.w) X.A (evalPairs (pairTrees keys YD X.env pos)) (λvs s'=>∃ps H',cP X cO σ H' s'/\VV ps vs/\Q ps H') X.xe s
theorem nZ:PPs X pos [] [] []:=λcO s σ H Q I h=>pairTrees_nil_walk ⟨[],H,I,.nil,h⟩
theorem kF(hk:PE X k tk)(hv:PE X v tv)(hr:PPs X pos ks vs SG):
  PPs X pos (aA k::ks) (v::vs) ((tk,tv)::SG):=λcO s σ H Q I h=>
 pairTrees_cons_walk (W7 (hk cO s σ H _ I h) λu s1 ⟨x,H1,I1,rx,q1⟩=>W7 (hv cO s1 σ H1 _ I1 q1) λw2 s2 ⟨y,H2,I2,ry,q2⟩=>
  W7 (hr cO s2 σ H2 _ I2 q2) λws s3 ⟨ps,H3,I3,ZR,q3⟩=>⟨(x,y)::ps,H3,I3,.cons ⟨rx,ry⟩ ZR,q3⟩)
def Rn(kvs Z_:List (Key×V)):List (Key×V):=Z_.foldl (λacc kv=>Jg acc kv.1 kv.2) kvs
theorem KV.merge:∀{Z_:List (Key×V)} {rs:List (Key×aq)} {kvs:List (Key×V)} {vs:List (Key×aq)},KV Z_ rs->KV kvs vs->KV (Rn kvs Z_) (merged vs rs):=by
 intro Z_ rs kvs vs r;unfold KV at r;induction r generalizing kvs vs with
 |nil=>intro q;exact q
 | @cons p q ps qs h t ih=>
  intro r0;have e:KV (Jg kvs p.1 p.2) (stored vs q.1 q.2):=by have:=r0.put p.1 h.2;rw[<-h.1];exact this
  exact ih e
theorem Ta:∀Z_ kvs,(Rn kvs Z_).length<=kvs.length+Z_.length
 | [],kvs=>by show kvs.length<=kvs.length+0;omega
 |p::r,kvs=>by have h1:=Ta r (Jg kvs p.1 p.2);have h2:=Rm kvs p.1 p.2;show(Rn (Jg kvs p.1 p.2) r).length<=_;rw[bc];omega
theorem Kg:∀{kvs:List (Key×V)} {ws:List (aq×aq)},VV (kvs.map λkv=>(kV kv.1,kv.2)) ws->∃rs,Carries (Yf P w) ws rs/\KV kvs rs
 | [],_,r=>by rw[List.map_nil]at r;cases r;exact⟨[],True.intro,.nil⟩
 |p::kvs,_,r=>by
  rw[bn]at r;cases r with
  | @cons a b as bs h t=>obtain⟨rs,c,q⟩:=Kg (P:=P) (w:=w) t;obtain⟨b1,b2⟩:=b;exact⟨(p.1,b2)::rs,⟨Im h.1,rfl,c⟩,.cons ⟨rfl,h.2⟩ q⟩
structure M1(X:Cx)(o:ca)(m:Str)(ZC:Pos)(e:ca)(ZA:Pos):Prop where
 base:eg o m X.env (dj o X.env)=dj o X.env
 few:((c9 ZA (au [e] X.env)).all (λx=>!x.1)&&(backToKw ZA (f9 [] X.env)).all (λx=>x.1.isSome)
  &&decide (([e]:List ca).length+([]:List f7).length+(if([]:List f7).isEmpty then 0 else 1)<30))=aC
 line:(ZC.endLine==ZA.line)=aC
 trees:c9 ZA (au [e] X.env)=[(aD,dj e X.env)]
structure M2(X:Cx)(o:ca)(m:Str)(ZC:Pos)(e f:ca)(ZA:Pos):Prop where
 base:eg o m X.env (dj o X.env)=dj o X.env
 few:((c9 ZA (au [e,f] X.env)).all (λx=>!x.1)&&(backToKw ZA (f9 [] X.env)).all (λx=>x.1.isSome)
  &&decide (([e,f]:List ca).length+([]:List f7).length+(if([]:List f7).isEmpty then 0 else 1)<30))=aC
 line:(ZC.endLine==ZA.line)=aC
 trees:c9 ZA (au [e,f] X.env)=[(aD,dj e X.env),(aD,dj f X.env)]
def IsD(H:Hp)(a:av):Prop:=(∃kvs,RdK H a kvs)\/∃kvs,RdT H a kvs
section
variable{X:Cx}{cO:List (av×Obj)}{σ:St}{H:Hp}{s:ax}{a:av}{y d:V}{u r:aq}{o:Option V}{A:d4}{E:aq->ax->Prop}
theorem qa(hu:A.units+1<cLine)(I:cP X cO σ H s)(g:B6 H a y o)(ry:Ya y u)(h:∀w' s',cP X cO σ H s'->Ya (o.getD .non) w'->Q w' s'):
  b5 (cv X.prog X.w) A (call (.builtin "dict.get") [.ref a,u]) Q E s:=by
 rcases g with⟨kvs,k,e,ey,l⟩|⟨kvs,k,b,e,ey,eb,l⟩
 .subst ey;obtain⟨z,hd,vs,ZR,dd⟩:=Ai I.hok e;refine call_meetsIn PySem.F.slot_dict_get dd.typeIs PySem.F.entry_dict_get (PySem.F.args_dict_get_2 _ _) (meets_dict_get (Yf X.prog X.w) a (Im ry) hd) ⟨_,dd.mapOf,h _ _ (I.tok _) ?_⟩;rw[l];exact(ZR.val k).getD rfl
 .subst ey;cases(show u=dz b from ry);obtain⟨z,hd,xs,ZR,dd⟩:=Ke I.hok e;refine call_meetsIn PySem.F.slot_dict_get dd.typeIs PySem.F.entry_dict_get (PySem.F.args_dict_get_2 _ _) (meetsH_dict_get (tupleKind (Yf X.prog X.w)) a b hd) ⟨tupleKind_room_in1 hu,k,xs,Tn I.hok eb,dd,h _ _ (I.tok _) ?_⟩;rw[l];exact(ZR.val k).getD rfl
theorem qZ(hu:A.units+1<cLine)(I:cP X cO σ H s)(g:B6 H a y o)(ry:Ya y u)(rd:Ya d r)(h:∀w' s',cP X cO σ H s'->Ya (o.getD d) w'->Q w' s'):
  b5 (cv X.prog X.w) A (call (.builtin "dict.get") [.ref a,u,r]) Q E s:=by
 rcases g with⟨kvs,k,e,ey,l⟩|⟨kvs,k,b,e,ey,eb,l⟩
 .subst ey;obtain⟨z,hd,vs,ZR,dd⟩:=Ai I.hok e;refine call_meetsIn PySem.F.slot_dict_get dd.typeIs PySem.F.entry_dict_get (PySem.F.args_dict_get_3 _ _ _) (meets_dict_get_default (Yf X.prog X.w) a (Im ry) hd r) ⟨_,dd.mapOf,h _ _ (I.tok _) ?_⟩;rw[l];exact(ZR.val k).getD rd
 .subst ey;cases(show u=dz b from ry);obtain⟨z,hd,xs,ZR,dd⟩:=Ke I.hok e;refine call_meetsIn PySem.F.slot_dict_get dd.typeIs PySem.F.entry_dict_get (PySem.F.args_dict_get_3 _ _ _) (meetsH_dict_get_default (tupleKind (Yf X.prog X.w)) a b hd r) ⟨tupleKind_room_in1 hu,k,xs,Tn I.hok eb,dd,h _ _ (I.tok _) ?_⟩;rw[l];exact(ZR.val k).getD rd
end
end L2
namespace Att
open PySem.W PySem.Calls
theorem I8:∀ns vs,WellAll P h vs (ns.map WData.int)->IntsAre vs ns:=by
 intro ns;induction ns with
 |nil=>intro vs w;rw[List.map_nil]at w;cases w;exact .nil
 |cons n ns ih=>
  intro vs w;rw[bn]at w;cases w with
  |cons a b=>cases a;exact .cons _ _ (ih _ b)
theorem ji{l:OpenLaw}(hn:l.most=aA n)(US:l.row.toRowW.claim.pre args=aC)(JD:WellAll P h vals args):
  ∃a vs ns,vals=[dz a]/\args=[WData.list (ns.map WData.int)]/\h.get? a=aA {cls:=.type "list",data:=.seq vs.toArray}/\IntsAre vs ns/\ns.length<=n:=by
 have uF:WShape.hasAll [] args [.list .int]=aC:=(pre_splitW US).1;have hc:l.pre.holds [] {args:=args}=aC:=(pre_splitW US).2;obtain⟨d,r,rfl,h1,h2⟩:=hasAllW_cons uF;obtain rfl:=hasAllW_nil h2;obtain⟨xs,rfl,h3⟩:=hasW_list h1;obtain⟨ns,rfl⟩:=items_int h3;have hlen:ns.length<=n:=by
  unfold OpenLaw.pre at hc;have h4:(WTm.not (.lt (.lit (.int (n:Int))) (.len (.arg 0)))).holds [] {args:=[.list (ns.map .int)]}=aC:=by have h4:=(holds_andW hc).1;rw[hn]at h4;exact h4
  have h5:=condW_of h4 (w_not (w_lt w_lit (w_len_list (w_arg rfl))));rw[ay]at h5;refine Nat.le_of_not_lt λq=>?_;have q':(n:Int)<((ns.length:Nat):Int):=by omega
  first
   | (rw[bL q']at h5;exact bN h5 (by decide))
   | (simp at h5;omega)
 cases JD with
 |cons w1 w2=>
  cases w2;cases w1 with
  |list ho WI=>exact⟨_,_,ns,rfl,rfl,ho,I8 ns _ WI,hlen⟩
theorem jh(l:OpenLaw)(args):l.row.toRowW.claim.post args (.bool aC) args=aC:=
 postW_of (r:=l.row.toRowW) (X:=(aC==aC))
  (show WShape.has [] (.bool aC) .bool=aC by first|rfl|decide|simp[WShape.has,WShape.arms,WShape.armsAll])
  (show(WTm.eq .res (.lit (.bool aC))).value [] {args:=args,res:=aA (.bool aC),after:=args}=aA (.bool (aC==aC))from w_eq_bool (w_res rfl) w_lit) rfl
theorem attach_call{l:OpenLaw}(hn:l.most=aA n)(RD:d.params.defaults=[])(call:∀w s₀ s₁ mg mb fa o pm cd YY a vs ns,
   Ground q loose [] XP w s₀ mg mb s₁.heap->YP w s₁.heap->
   s₁.heap.get? fa=aA o->o.data= .func (docDef d.name d.params d.body d.scope pm cd YY)->s₁.heap.CodeRec cd d.name->mg d.name=aA (.ref fa)->
   s₁.heap.get? a=aA {cls:=.type "list",data:=.seq vs.toArray}->IntsAre vs ns->ns.length<=n->s₁.gens= #[]->
   codeAny (cv l.prog w) callerA (.call (.ref fa) ⟨[.ref a],[]⟩) (λr s'=>r= .ok (.ret (.bool aC))/\OldK s₁.heap s'.heap/\s'.os=s₁.os/\AllBare s'.gens) s₁):
  WalkO q loose XP YP l.row.toRowW d [] (λf vs=>PySem.call f vs):=by
 intro w s₀ s₁ mg mb G Y fa o pm cd YY dV kV ho hd YC hD JO hg args vals as US hlay hrd JD hlo;obtain rfl:dV= .none:=Dflts.none hD RD;obtain rfl:kV= .none:=Dflts.noKw hD;obtain⟨a,vs,ns,rfl,rfl,SY,UB,hlen⟩:=ji hn US JD;refine enter_call (codeAny_mono (call w s₀ s₁ mg mb fa o pm cd YY a vs ns G Y ho (fd_plain hd) YC JO SY UB hlen hg) λr s' hq=>?_);obtain⟨rfl,h2,h3,h4⟩:=hq;exact⟨.inl ⟨.bool aC,.bool aC,[],rfl,λ_=>rfl,.bool aC,jh l _,λ_=>⟨List.Pairwise.nil,λ_ hm=>(nomatch hm)⟩⟩,h2,h3,h4⟩
end Att
namespace L2
theorem Pc:∀{vs:List aq} {ns:List Int},IntsAre vs ns->Ym (ns.map V.int) vs
 |_,_,.nil=>.nil
 |_,_,.cons n t h=>.cons ⟨t,rfl⟩ (Pc h)
def MO(H:Hp):Prop:=∀b,H b=aB\/∃o xs,H b=aA (.frz o (.lst xs))
theorem kE {P:b8} {w:df} {K:aj} {mg mb:Str->Option aq} {CX:Hb} {k:Nat} {fa a:av} {fd:FuncData} {x:Str} {sp:Sp} {s₁:ax} {vs:List aq} {ns:List Int}
    (KX : K.In s₁.heap) (XU : s₁.heap.Ns c8 mg) (hb : s₁.heap.Ns builtinsNs mb) (hbb : ∀ x : Str, x ≠ "__name__" -> mb x = bootBuiltins x) (hlim : s₁.heap.NoLimit) (hg : s₁.gens = #[])
    (ha : s₁.heap.get? a = aA { cls := .type "list", data := .seq vs.toArray }) (hi : IntsAre vs ns) (hl : ns.length <= sizeLine) (hr : cY k callerA)
    (F:∀ base:ed,K.In base->base.Ns c8 mg->FnOk P w K mg base CX k fa fd [x] sp) (hbind:∀ (s:ax) (u:aq),BindsTo s fd ⟨[u],[]⟩ [(x,u)])
    (VO:∀ H:Hp,MO H->On K H a (ns.map V.int)->sp [.ref a] H (λv _=>v=.bl aC) λ_ _ _=>False)
    (PX:∀ H e s',CX [] H s₁ (λ_ _ _=>False) e s'->False) :
    codeAny (cv P w) callerA (.call (.ref fa) ⟨[.ref a],[]⟩) (λr s'=>r=.ok (.ret (.bool aC))/\OldK s₁.heap s'.heap/\s'.os=s₁.os/\AllBare s'.gens) s₁:=by
  have rv:=Pc hi;have lenV:=hi.length
  have OB:∀ H:Hp,MO H->On K H a (ns.map V.int)->Rf P w H s₁.heap->(∀ b,H b≠aB->b=a)->(H a≠aB->K.lookup a=aB) ->
      codeAny (cv P w) callerA (.call (.ref fa) ⟨[.ref a],[]⟩) (λr s'=>r=.ok (.ret (.bool aC))/\OldK s₁.heap s'.heap/\s'.os=s₁.os/\AllBare s'.gens) s₁:=by
    intro H hO hS hok hA hK;have WX:∀ {b:av} {o:Obj},s₁.heap.get? b=aA o->H b=aB->(S0 s₁.heap H).get? b=aA o:=λe n=>kT e n;have QV:∀ {b:av} {o:Obj} {es:Array DictEntry} {ep:Nat},s₁.heap.get? b=aA o->o.data=.dict es ep->H b=aB:=λ{b o es ep} e d=>by
      cases q:H b with
      | none=>rfl
      | some u =>have e':b=a:=hA b (by rw [q]; simp);subst e';rw [ha] at e; cases e;have d':Data.seq vs.toArray _=Data.dict es ep:=d;cases d'
    have NJ:∀ {b:av} {m:Str->Option aq},s₁.heap.Ns b m->(S0 s₁.heap H).Ns b m:=λ{b m} ⟨o,es,ep,e,d,r⟩=>⟨o,es,ep,WX e (QV e d),d,r⟩
    have CA:K.In (S0 s₁.heap H):=λb o e=>WX (KX b o e) (by
      cases q:H b with
      | none=>rfl
      | some u =>
        have e':b=a:=hA b (by rw [q]; simp);subst e';rw [hK (by rw [q]; simp)] at e; cases e)
    have hM:Mod K mg (S0 s₁.heap H):=⟨CA,NJ XU,⟨mb,NJ hb,hbb⟩,let ⟨mc,h1,h2⟩:=hlim; ⟨mc,NJ h1,h2⟩⟩
    have e0:Env0 P w K mg (S0 s₁.heap H) callerA [] s₁ H:=⟨rfl,hM,λb o e=>mG e,Nat.le_of_eq (j8 _ _),trivial,λb hb=>bN (show b ∈ ([]:List av) from hb) (by simp),hok,.of_eq hg⟩
    refine codeAny_mono ((F _ CA (NJ XU)).run callerA [] s₁ H ⟨[.ref a],[]⟩ [.ref a] [.ref a] _ _ hr e0 (hbind s₁ (.ref a)) (.cons rfl .nil) (VO H hO hS)) λr s' h=>?_;cases r with
    | error e=>exact (PX H e s' h).elim
    | ok fl =>
      cases fl with
      | next=>exact False.elim h
      | brk=>exact False.elim h
      | cont=>exact False.elim h
      | ret u =>
        obtain ⟨v,H',os,bare,un,hok',r',q⟩:=h;have q':v=.bl aC:=q;subst q';obtain rfl:u=Value.bool aC:=r';refine ⟨rfl,OldK.of_keep λb o e=>?_,os,bare⟩;cases q:H b with
        | none=>exact un.keep b o e q (by intro z; exact bN (show b ∈ ([]:List av) from z) (by simp)) (by simp)
        | some u =>
          rcases hO b with z | ⟨ob,xs,z⟩
          · rw [q] at z; cases z
          · have z2:=un.frzs b ob _ z
            obtain ⟨e1,_⟩:=hok b _ z;obtain ⟨e2,_⟩:=hok' b _ z2;rw [e] at e1; cases e1;exact e2
  cases hk:K.lookup a with
  | some o =>
    have e:=KX a o hk;rw [ha] at e;cases e;refine OB (λ_=>aB) (λ_=>.inl rfl) (.inr ⟨_,vs.toArray,_,hk,rfl,rfl,rfl,by rw [bq,lenV]; exact hl,by simpa using rv⟩) (λb u z=>by have z':(aB:Option HO)=aA u:=z; cases z') (λb z=>bN rfl z) λz=>bN rfl z
  | none =>
    refine OB (λb => if b = a then aA (.frz { cls := .type "list", data := .seq vs.toArray } (.lst (ns.map V.int))) else aB) (λb => ?_) (.inl (.inr ⟨{ cls := .type "list", data := .seq vs.toArray }, bJ rfl⟩)) (λb u z => ?_) (λb z => ?_) λ_ => hk
    · by_cases hb:b=a
      · exact .inr ⟨_,_,bJ hb⟩
      · exact .inl (bI hb)
    · by_cases hb:b=a
      · have z':=(bJ hb).symm.trans z
        cases z';subst hb;exact ⟨ha,by rw [ay]; exact hl,vs,_,rv,ha⟩
      · have z':=(bI hb).symm.trans z
        cases z'
    · by_cases hb:b=a
      · exact hb
      · exact bN (bI hb) z
theorem nY{l:PySem.W.OpenLaw}{K:Params->aj}{CX:df->Hb}{sp:df->Sp}(hn:l.most=aA n)(JM:n<=sizeLine)(RD:d.params.defaults=[])(hr:cY k callerA)(hY:∀w h,YP w h->(K w.params).In h)(F:∀w mg fa h,(K w.params).In h->h.Ns c8 mg->mg d.name=aA (.ref fa)->
   ∃fd,(∀s u,BindsTo s fd ⟨[u],[]⟩ [(x,u)])/\
    ∀base,(K w.params).In base->base.Ns c8 mg->FnOk l.prog w (K w.params) mg base (CX w) k fa fd [x] (sp w))(VO:∀w H a (ns:List Int),ns.length<=n->MO H->On (K w.params) H a (ns.map V.int)->sp w [.ref a] H (λv _=>v= .bl aC) λ_ _ _=>False)(PX:∀w H s e s',CX w [] H s (λ_ _ _=>False) e s'->False):
  PySem.W.WalkO q loose XP YP l.row.toRowW d [] (λf vs=>PySem.call f vs):=by
 refine Att.attach_call hn RD λw s₀ s₁ mg mb fa o pm cd YY a vs ns G Y ho hd YC JO SY UB hlen hg=>?_;have KX:=hY w _ Y;obtain⟨fd,hb,hF⟩:=F w mg fa _ KX G.T.g JO;exact kE KX G.T.g G.T.b G.T.builtins G.T.nolimit hg SY UB (dw hlen JM) hr hF hb (λH hO hS=>VO w H a ns hlen hO hS) λH e s'=>PX w H s₁ e s'
theorem kD{l:PySem.W.OpenLaw}{K:Params->aj}{sp:aj->Sp}(hn:l.most=aA n)(JM:n<=sizeLine)(RD:d.params.defaults=[])(hr:cY k callerA)(hY:∀w h,YP w h->(K w.params).In h)(F:∀w mg fa h,(K w.params).In h->h.Ns c8 mg->mg d.name=aA (.ref fa)->
   ∃fd,(∀s u,BindsTo s fd ⟨[u],[]⟩ [(x,u)])/\
    ∀base,(K w.params).In base->base.Ns c8 mg->FnOk l.prog w (K w.params) mg base CX k fa fd [x] (sp (K w.params)))(VO:∀K H a (ns:List Int),ns.length<=n->MO H->On K H a (ns.map V.int)->sp K [.ref a] H (λv _=>v= .bl aC) λ_ _ _=>False)(PX:∀H s e s',CX [] H s (λ_ _ _=>False) e s'->False):
  PySem.W.WalkO q loose XP YP l.row.toRowW d [] (λf vs=>PySem.call f vs):=
 nY (K:=K) (CX:=λ_=>CX) (sp:=λw=>sp (K w.params)) hn JM RD hr hY F (λw H a ns h1 h2 h3=>VO (K w.params) H a ns h1 h2 h3) λ_ H s e s'=>PX H s e s'
noncomputable def Mi(s:Stmt):Arguments:=match s with
 | .FunctionDef _ a _ _ _ _ _ _ _ _=>a
 |_=>{posonlyargs:=[],args:=[],vararg:=aB,kwonlyargs:=[],kw_defaults:=[],kwarg:=aB,defaults:=[]}
noncomputable def Jq(s:Stmt):List Stmt:=match s with
 | .FunctionDef _ _ b _ _ _ _ _ _ _=>b
 |_=>[]
noncomputable def Yg(s:Stmt):Scope:=match s with
 | .FunctionDef _ _ _ _ _ _ sc _ _ _=>sc
 |_=>{kind:=.function,names:=[],isGenerator:=aD,isCoroutine:=aD}
abbrev Qm:Hb:=λ_ _ _ _ _ _=>False
abbrev E0:XK:=λ_ _ _=>False
theorem LG:EH Qm X E0:=λ_ _ _ _ _ _ _ h=>h.elim
structure Fun(K:aj)(x qual:Str)(st:Stmt)(f:av)(fd:FuncData):Prop where
 ex:∃(oc:aq) (od:Option av) (kV YY pm:aq) (an:Option av) (ZN ct:aq) (TM:Array (Option aq)),
  fd=PySem.W.fnOf x qual (Mi st) (Jq st) (Yg st) .none kV YY pm an ZN ct/\K.lookup f=aA ⟨oc,od,.func fd,TM⟩/\PySem.W.codeIn K ZN qual=aC
 kp:PySem.W.keepIn K (.ref f)=aC
section
variable{K:aj}
theorem Fun.ok{st}(F:Fun K x qual st f fd)(S:FnScope N ps (Yg st))(len:∀vs H Q E,sp vs H Q E->vs.length=ps.length)(XV:∀ZN A outer s H vs Q E,cY k (A.deeper (envOfC qual (Yg st) s.heap.objs.size f ZN))->sp vs H Q E->
   ∃t,Mh (Ri Qm P w K mg base N qual (Yg st) f ZN A outer s H E).nox (Jq st) t/\t {nx:=λ_ H'=>Q .non H',rt:=Q} (start N vs) H):FnOk P w K mg base Qm (k+1) f fd ps sp:=by
 obtain⟨oc,od,kV,YY,pm,an,ZN,ct,TM,rfl,lk,YC⟩:=F.ex;refine AT lk YC S len λA outer s H vs Q E hr VO=>?_;obtain⟨t,h,q⟩:=XV ZN A outer s H vs Q E hr VO;exact⟨t,h.nox,q⟩
theorem Fun.binds{st}(F:Fun K x qual st f fd)(h:∀kV YY pm an ZN ct us,us.length=ps.length->bindArgs (PySem.W.fnOf x qual (Mi st) (Jq st) (Yg st) .none kV YY pm an ZN ct) ⟨us,[]⟩=pure (ps.zip us)):M8 K fd ps []:=by
 obtain⟨oc,od,kV,YY,pm,an,ZN,ct,TM,rfl,lk,YC⟩:=F.ex;exact .all (h kV YY pm an ZN ct)
theorem dO{st}{kV YY pm ZN ct}(l:K.lookup f=aA ⟨oc,od,.func (PySem.W.fnOf x qual (Mi st) (Jq st) (Yg st) .none kV YY pm an ZN ct),TM⟩)(c:PySem.W.codeIn K ZN qual=aC)(k:PySem.W.keepIn K (.ref f)=aC):Fun K x qual st f (PySem.W.fnOf x qual (Mi st) (Jq st) (Yg st) .none kV YY pm an ZN ct):=⟨⟨oc,od,kV,YY,pm,an,ZN,ct,TM,rfl,l,c⟩,k⟩
end
theorem LF(hr:cY k A):A.units+1<cLine:=Nat.lt_of_le_of_lt (Nat.add_le_add_left (by decide:1<=64) _) hr.units
def Zo(H H':Hp):Prop:=∀b o,H b=aA o->H' b=aA o
theorem Zo.refl(H):Zo H H:=λ_ _ h=>h
theorem Zo.trans(a:Zo H H1)(b:Zo H1 H2):Zo H H2:=λc o h=>b c o (a c o h)
theorem Zo.free(e:Zo H H')(h:H' l=Option.none):H l=Option.none:=by
 cases q:H l with
 |none=>rfl
 |some o=>rw[e l o q]at h;cases h
theorem PE.imp(h:PE X e t)(w:∀σ H Q,t' σ H Q->t σ H Q):PE X e t':=λcO s σ H Q I q=>h cO s σ H Q I (w σ H Q q)
theorem PT.imp(h:PT X e t)(w:∀σ H Q,t' σ H Q->t σ H Q):PT X e t':=λcO s σ H Q I q=>h cO s σ H Q I (w σ H Q q)
theorem PW.imp(h:PW X e t)(w:∀σ H Q,t' σ H Q->t σ H Q):PW X e t':=λwh cO s σ H Q I q=>h wh cO s σ H Q I (w σ H Q q)
theorem PA.imp(h:PA X e t)(w:∀σ H Q,t' σ H Q->t σ H Q):PA X e t':=λpos cO s σ H Q I q=>h pos cO s σ H Q I (w σ H Q q)
theorem PS.imp(h:PS X e t)(w:∀D σ H,t' D σ H->t D σ H):PS X e t':=λcO s σ H D I q=>h cO s σ H D I (w D σ H q)
theorem Mh.imp(h:Mh X e t)(w:∀D σ H,t' D σ H->t D σ H):Mh X e t':=λcO s σ H D I q=>h cO s σ H D I (w D σ H q)
theorem PG.imp(h:PG X e t)(w:∀v σ H Q,t' v σ H Q->t v σ H Q):PG X e t':=λcO s σ H v u Q I r q=>h cO s σ H v u Q I r (w v σ H Q q)
theorem PGs.imp(h:PGs X e t)(w:∀v σ H Q,t' v σ H Q->t v σ H Q):PGs X e t':=λcO s σ H vs us Q I r q=>h cO s σ H vs us Q I r (w vs σ H Q q)
theorem PI.imp(h:PI X tg e t)(w:∀σ H R,t' σ H R->t σ H R):PI X tg e t':=λcO s σ H R I q=>h cO s σ H R I (w σ H R q)
noncomputable def Ge(cells:List (Str×av)):List (Str×NameKind)->List (Str×av)->List (Str×av)
 | [],cs=>cs
 | (n,k)::r,cs=>Ge cells r (if k= .free then(n,(cells.lookup n).getD 0)::cs else cs)
theorem To:∀names cs,(∀y∈names,y.2= .free->∃c,env.cells.lookup y.1=aA c)->
    (forIn names cs (λx r=>if(x.2==NameKind.free)=aC then do let a<-cellOf env x.1;pure (ForInStep.yield ((x.1,a)::r))else pure (ForInStep.yield r)):Sem (List (Str×av)))=pure (Ge env.cells names cs)
  | [],cs,_=>by rw[List.forIn_nil];rfl
  | (n,k)::r,cs,h=>by
    rw[List.forIn_cons];by_cases hk:k= .free
    · obtain⟨c,hc⟩:=h (n,k) aa hk
      subst hk;have e1:cellOf env n=pure c:=by unfold cellOf;rw[hc]
      show((if(NameKind.free==NameKind.free)=aC then(cellOf env n >>=λa=>pure (ForInStep.yield ((n,a)::cs)))else pure (ForInStep.yield cs)) >>=λs=>_)=_;rw[bJ (show(NameKind.free==NameKind.free)=aC by decide),e1];show(forIn r ((n,c)::cs) _:Sem (List (Str×av)))=_;rw[To r _ λy hy=>h y (ad _ hy)];show _=pure (Ge env.cells r (if NameKind.free=NameKind.free then(n,(env.cells.lookup n).getD 0)::cs else cs));rw[bJ rfl,hc];rfl
    · have hb:(k==NameKind.free)=aD:=by simpa using hk
      show((if(k==NameKind.free)=aC then(cellOf env n >>=λa=>pure (ForInStep.yield ((n,a)::cs)))else pure (ForInStep.yield cs)) >>=λs=>_)=_;rw[hb,bI bi];show(forIn r cs _:Sem (List (Str×av)))=_;rw[To r _ λy hy=>h y (ad _ hy)];show _=pure (Ge env.cells r (if k=NameKind.free then _ else cs));rw[bI hk]
theorem B7(h:∀y∈scope.names,y.2= .free->∃c,env.cells.lookup y.1=aA c):closureFor scope env=pure (Ge env.cells scope.names []):=by simp only[closureFor];rw[To scope.names [] h];rfl
theorem Hs:∀{names:List (Str×NameKind)} {cs:List (Str×av)},(∀y∈names,y.2= .free->∃c,cells.lookup y.1=aA c)->
    (cs.lookup x=aA c->cells.lookup x=aA c)->(Ge cells names cs).lookup x=aA c->cells.lookup x=aA c
  | [],_,_,h0,e=>h0 e
  | (n,k)::r,cs,h,h0,e=>by
    refine Hs (names:=r) (λy hy=>h y (ad _ hy)) ?_ e;intro e';by_cases hk:k= .free
    · rw[bJ hk]at e'
      obtain⟨c',hc⟩:=h (n,k) aa hk;rw[hc]at e';by_cases hx:x==n
      · simp only[List.lookup_cons,hx]at e'
        cases e';have:x=n:=by simpa using hx
        rw[this];exact hc
      · have XE:(x==n)=aD:=by simpa using hx
        simp only[List.lookup_cons,XE]at e';exact h0 e'
    · rw[bI hk]at e';exact h0 e'
theorem Pd:∀{names:List (Str×NameKind)} {cs:List (Str×av)},(∃c,cs.lookup x=aA c)->∃c,(Ge cells names cs).lookup x=aA c
  | [],_,h=>h
  | (n,k)::r,cs,⟨c,h⟩=>by
    refine Pd (names:=r) ?_;by_cases hk:k= .free
    · rw[bJ hk]
      by_cases hx:x==n
      · exact⟨(cells.lookup n).getD 0,by simp only[List.lookup_cons,hx]⟩
      · have XE:(x==n)=aD:=by simpa using hx
        exact⟨c,by simp only[List.lookup_cons,XE];exact h⟩
    · rw[bI hk];exact⟨c,h⟩
theorem Aj:∀{names:List (Str×NameKind)} {cs:List (Str×av)},(x,NameKind.free)∈names->∃c,(Ge cells names cs).lookup x=aA c
  | [],_,h=>nomatch h
  | (n,k)::r,cs,h=>by
    rcases ba.mp h with e|e
    · cases e
      refine Pd (names:=r) ⟨(cells.lookup x).getD 0,?_⟩;rw[bJ rfl];simp[List.lookup_cons]
    · exact Aj (names:=r) e
noncomputable def rlF(env:Env):Str×NameKind->Str×NameKind:=λ(n,k)=>if(k==NameKind.free&&env.scope.kind== .function&&env.kindOf n==aA .cell)then(n,NameKind.cell)else(n,k)
theorem Vg(env p):(rlF env p).1=p.1:=by obtain⟨n,k⟩:=p;unfold rlF;dsimp only;split<;> rfl
theorem Bq{f:Str×NameKind->Str×NameKind}(h:∀p,(f p).1=p.1)(x):∀names:List (Str×NameKind),(names.map f).lookup x=(names.lookup x).map λk=>(f (x,k)).2
  | []=>rfl
  | (n,k)::r=>by
    have ih:=Bq h x r;have e:f (n,k)=(n,(f (n,k)).2):=Prod.ext (h (n,k)) rfl;rw[bn,e,List.lookup_cons,List.lookup_cons];cases hx:x==n with
    |true=>
      have:x=n:=by simpa using hx
      subst this;rfl
    |false=>exact ih
theorem Kh:∀{names:List (Str×NameKind)},names.lookup x=aA k->(x,k)∈names
  | [],h=>by simp at h
  | (n,k')::r,h=>by
    rw[List.lookup_cons]at h;cases hx:x==n with
    |true=>
      rw[hx]at h;have:x=n:=by simpa using hx
      subst this;cases h;exact aa
    |false=>rw[hx]at h;exact ad _ (Kh h)
theorem Gf{names:List (Str×NameKind)}(hn:∀y∈names,y.2≠.cell)(hk:kk= .cell\/kk= .free)(h:(names.map (rlF env)).lookup x=aA kk):(x,NameKind.free)∈names:=by
 rw[Bq (Vg env)]at h;obtain⟨k,h1,h2⟩:=ez.mp h;have hm:=Kh h1;have hc:k≠.cell:=hn _ hm;by_cases hf:k= .free
 .subst hf;exact hm
 .exfalso;have hb:(k==NameKind.free)=aD:=by simpa using hf
  unfold rlF at h2;simp only[hb,Bool.false_and,Bool.false_eq_true,if_false]at h2;rcases hk with e|e
  .exact hc (h2.trans e)
  .exact hf (h2.trans e)
inductive BSrc where
 |own|cap (j:Nat)|acc
noncomputable def AQ(σ:St)(acc:av):BSrc->Option V
 | .own=>aB
 | .cap j=>(σ[j]?).join
 | .acc=>aA (.ref acc)
noncomputable def Pe(src:List BSrc)(σ:St)(acc:av):St:=src.map (AQ σ acc)
abbrev Cx.block(X:Cx)(N':List Str)(scope:Scope)(C:av)(s₀:ax)(H₀:Hp)(ex:List av):Cx:=
 {X with N:=N',env:=compEnvC scope (Ge X.env.cells scope.names []) C X.env,s₀:=s₀,H₀:=H₀,outer:=X.stack,stack:=X.stack,ex:=ex,fn:=λ_=>aD,pn:=[],xe:=λ_ _=>False}
structure CompScope(X:Cx)(N':List Str)(scope:Scope)(src:List BSrc):Prop where
 kind:scope.kind= .function
 nocell:∀y∈scope.names,y.2≠.cell
 names:∀y∈scope.names,y.2= .local->scope.names.lookup y.1=aA .local
 free:∀y∈scope.names,y.2= .free->X.env.kindOf y.1=aA .cell\/X.env.kindOf y.1=aA .free
 len:src.length=N'.length
 cap:∀(k j:Nat) (x:Str),src[k]? =aA (.cap j)->N'[k]? =aA x->X.N[j]? =aA x/\(X.env.kindOf x=aA .cell\/X.env.kindOf x=aA .free)/\scope.names.lookup x=aA .free
 acc:∀(k:Nat) (x:Str),src[k]? =aA .acc->N'[k]? =aA x->scope.names.lookup x=aB
theorem Mz{names:List (Str×NameKind)}(h:names.lookup x=aB):(names.map (rlF env)).lookup x=aB:=by rw[Bq (Vg env),h];rfl
theorem M0{names:List (Str×NameKind)}(h:names.lookup x=aA .free):(names.map (rlF env)).lookup x=aA .cell\/(names.map (rlF env)).lookup x=aA .free:=by
 rw[Bq (Vg env),h];unfold rlF;dsimp only[Option.map];split
 .exact .inl rfl
 .exact .inr rfl
section
variable{X:Cx}{N':List Str}{scope:Scope}{src:List BSrc}{cO:List (av×Obj)}{σ:St}{H:Hp}{s:ax}{C acc:av}{fp:List av}
theorem Io(S:CompScope X N' scope src)(I:cP X cO σ H s)(hC:C=s.heap.objs.size)(hf:∀b∈fp,Tl X cO H b)(S_:∀b∈fp,∃o,s.heap.get? b=aA o)(XU:h1.Ns C λ_=>aB)(hk:∀b o,s.heap.get? b=aA o->h1.get? b=aA o):
  cP (X.block N' scope C s H fp) [] (Pe src σ acc) H {s with heap:=h1,toks:=tk}:=by
 have OC:∀y∈scope.names,y.2= .free->∃c,X.env.cells.lookup y.1=aA c:=λy hy e=>I.ok.has y.1 (S.free y hy e);have sub:∀x c,(Ge X.env.cells scope.names []).lookup x=aA c->X.env.cells.lookup x=aA c:=λx c e=>Hs OC (λh=>by simp at h) e;have gt:∀b,b<s.heap.objs.size->b≠C:=λb hb e=>by rw[e,hC]at hb;exact fj _ hb
 refine⟨⟨I.ok.mod,S.kind,I.ok.glob,I.ok.blt,by rw[hC];exact bg _,λx y c h1 h2=>I.ok.inj x y c (sub x c h1) (sub y c h2),λx hx=>?_,λx c h=>bN h bi,I.ok.hd,I.ok.frames,.inl rfl,λb hb=>?_,I.bs,
  dw I.ok.bsz I.sz,λb o e hb=>?_,λb hb hs=>?_,I.stack,I.stkFree⟩,rfl,I.bare,Un.kept hk,⟨_,XU,λi x v e1 e2 e3=>?_⟩,λx c e=>?_,?_,λx c e=>I.freeC x c (sub x c e),λp hp=>?_,I.hok.kept hk,?_⟩
 .rcases hx with hx|hx
  .exact Aj (Gf S.nocell (.inl rfl) hx)
  .exact Aj (Gf S.nocell (.inr rfl) hx)
 .refine Qx (hf b hb) λf0 f1 f2 f3 f4 f5=>?_;refine⟨?_,λx c e=>f4 x c (sub x c e)⟩;show b≠C;obtain⟨o,ho⟩:=S_ b hb;exact gt b (bx ho)
 .refine Qx (hf b hb) λf0 f1 f2 f3 f4 f5=>?_;rcases f3 with z|z
  .exact I.ok.noex b o e z
  .exact bN (c6 (bx e) (dw I.ok.bsz z)) (fj _)
 .refine Qx (hf b hb) λf0 f1 f2 f3 f4 f5=>?_;rcases ba.mp (I.stkSub b hs)with z|z
  .exact f1 z
  .exact f2 z
 .have JG:∃q,src[i]? =aA q:=by
   cases q:src[i]? with
   |some q0=>exact⟨q0,rfl⟩
   |none=>have RH:(Pe src σ acc)[i]? =aA (aA v):=e2;unfold Pe at RH;rw[bz,q]at RH;cases RH
  obtain⟨q,hq⟩:=JG;have RH:(Pe src σ acc)[i]? =aA (aA v):=e2;unfold Pe at RH;rw[bz,hq]at RH;have P_:AQ σ acc q=aA v:=Option.some.inj RH;cases q with
  |own=>cases P_
  |acc=>
   exfalso;have hno:=Mz (env:=X.env) (S.acc i x hq e1);have SZ:(relabel scope X.env).names.lookup x=aB:=hno;have PZ:Hh (relabel scope X.env) x:=e3;rcases PZ with z|z|z
   .rw[SZ]at z;cases z
   .rw[SZ]at z;cases z
   .rw[SZ]at z;cases z
  |cap j=>
   obtain⟨hj,WV,XB⟩:=S.cap i j x hq e1;have v_:σ[j]? =aA (aA v):=by
    have e4:(σ[j]?).join=aA v:=P_;cases r:σ[j]? with
    |none=>rw[r]at e4;cases e4
    |some o=>rw[r]at e4;cases o with
     |none=>cases e4
     |some w'=>cases e4;rfl
   obtain⟨m,hn,hl⟩:=I.loc;obtain⟨u,ru,l⟩:=hl j x v hj v_ (by rcases WV with z|z;exact .inr (.inl z);exact .inr (.inr z));refine⟨u,ru,?_⟩;rcases l with⟨z,_⟩|⟨_,c,hc,hcell⟩
   .rcases WV with y|y
    .rw[y]at z;cases z
    .rw[y]at z;cases z
   .have PZ:Hh (relabel scope X.env) x:=e3;have fin:∀kk,kk= .cell\/kk= .free->(relabel scope X.env).names.lookup x=aA kk->BA (X.block N' scope C s H fp).env h1 (λ_=>aB) x u:=λkk PL hx=>by
     obtain⟨c',PQ⟩:=Aj (cells:=X.env.cells) (cs:=[]) (Gf S.nocell PL hx);have:=sub x c' PQ;rw[hc]at this;cases this;obtain⟨oc,UK,V_⟩:=hcell;refine .inr ⟨?_,c,PQ,oc,hk c oc UK,V_⟩;rcases PL with y|y
     .subst y;exact .inl hx
     .subst y;exact .inr hx
    rcases PZ with z|z|z
    .exfalso;have z':(relabel scope X.env).names.lookup x=aA .local:=z;rcases M0 (env:=X.env) XB with y|y
     .have y':(relabel scope X.env).names.lookup x=aA .cell:=y;rw[z']at y';cases y'
     .have y':(relabel scope X.env).names.lookup x=aA .free:=y;rw[z']at y';cases y'
    .exact fin .cell (.inl rfl) z
    .exact fin .free (.inr rfl) z
 .refine We (I.cell x c (sub x c e)) λv oc UK V_=>?_;exact⟨v,oc,hk c oc UK,V_⟩
 .show H C=aB;rw[hC];exact I.hok.fresh (bg _)
 .have VZ:p∈([]:List (av×Obj)):=by simpa using hp
  exact nomatch VZ
 .show(Pe src σ acc).length=N'.length;unfold Pe;rw[ay];exact S.len
def GL(src:List BSrc)(wi:TI)(g:TG)(tt:TT)(te:TE):TE:=λσ H Q=>wi σ H λJ H1=>∀acc,H1 acc=aB->
 ∃W:Nat->Nat->St->Hp->Prop,(∃m,W 0 m (Pe src σ acc) (Wu H1 acc (.lst [])))/\∀i m ZB H,W i m ZB H->(J.stop i H/\Q (.ref acc) H)\/
  (J.go i H/\∀x H',J.yld i H x H'->g x ZB H' λYU H2=>tt YU H2 λb H3=>if b=aC then te YU H3 λy H4=>Ou (.ref acc) [y] H4 λ_ H5=>∃m',m'<m/\W (i+1) m' YU H5 else∃m',m'<m/\W (i+1) m' YU H3)
def PTs(X:Cx)(Z':List ca)(t:TT):Prop:=
 ∀(cO:List (av×Obj)) (s:ax) (σ:St) (H:Hp) (Q:Bool->Hp->Prop),cP X cO σ H s->t σ H Q->
  b5 (cv X.prog X.w) X.A (forIn Z' aC λc r=>if r=aC then do let ok<-isTrue c X.env (dj c X.env);pure (ForInStep.yield ok)else pure (ForInStep.yield r)) (TP X cO σ Q) X.xe s
def tE:TT:=λ_ H Q=>Q aC H
theorem mR:PTs X [] tE:=λ_ s σ H Q I h=>wpAny_tests_nil ⟨H,I,h⟩
theorem mQ(h:PT X c t):PTs X [c] t:=λcO s σ H Q I q=>wpAny_tests_one (h cO s σ H Q I q)
theorem jg{acc:aq}(I:Nat->ax->Prop)(turn:∀n s,I n s->b5 (cv prog w) A (pyNext it) (λr s₁=>match r with
   |none=>R (.ok .next) s₁
   |some v=>b5 (cv prog w) A (letOwnedTupleGo ZV it v) (λ_ s₀=>b5 (cv prog w) A (assign ZV env v) (λ_ s₂=>
     b5 (cv prog w) A (forIn Z' aC λc r=>if r=aC then do let ok<-isTrue c env (dj c env);pure (ForInStep.yield ok)else pure (ForInStep.yield r)) (λok s₃=>if ok=aC then b5 (cv prog w) A (dj elt env) (λx XJ=>
      b5 (cv prog w) A (call (.builtin "list.append") [acc,x]) (λ_ VR=>∃m,m<n/\I m VR) (λ_ _=>False) XJ) (λ_ _=>False) s₃
      else∃m,m<n/\I m s₃) (λ_ _=>False) s₂)
     (λ_ _=>False) s₀) (λ_ _=>False) s₁) (λ_ _=>False) s)(n)(h:I n s):codeAny (cv prog w) A (.compLoop (.ListComp elt [⟨ZV,ZG,Z',0⟩] scope pos) 0 it acc env) R s:=by
 refine codeAny_loop rfl I (λn s hI=>?_) n h;show b5 _ A ((compTurn (.ListComp elt [⟨ZV,ZG,Z',0⟩] scope pos) 0 it acc env).onRaise (λx=>do noteFrame x env;theTreesLotGoes x)) _ _ s;refine wpAny_noted ?_;rw[compTurn_list];refine aw (wpAny_standAt (aw (eh (turn n s hI) (λr s₁ h₁=>?_) λ_ _ f=>f.elim)));cases r with
 |none=>exact bj h₁
 |some v=>
  refine aw (eh h₁ (λ_ s₀ VY=>?_) λ_ _ f=>f.elim);refine aw (eh VY (λ_ s₂ WB=>?_) λ_ _ f=>f.elim);refine aw (eh WB (λKN s₃ WA=>?_) λ_ _ f=>f.elim);cases KN with
  |false=>exact bj ⟨rfl,WA⟩
  |true=>exact aw (aw (eh WA (λx XJ SU=>aw (eh SU (λ_ VR SQ=>bj (bj ⟨rfl,SQ⟩)) λ_ _ f=>f.elim)) λ_ _ f=>f.elim))
theorem Ki{Q:VK}{RR:aq->av->Result->ax->Prop}(hc:X.calm=aC)(S:CompScope X N' scope src)(hg:∀C s₀ H₀ ex,PG (X.block N' scope C s₀ H₀ ex) tg g)(ht:∀C s₀ H₀ ex,PTs (X.block N' scope C s₀ H₀ ex) Z' tt)(he:∀C s₀ H₀ ex,PE (X.block N' scope C s₀ H₀ ex) elt te)(I:cP X cO σ H s)(T:Turn X.prog X.w X.K tg J fp it tn)(st:tn 0 s.heap)(hf:∀b∈fp,Tl X cO H b)(q:∀acc,H acc=aB->∃W:Nat->Nat->St->Hp->Prop,(∃m,W 0 m (Pe src σ acc) (Wu H acc (.lst [])))/\∀i m ZB H,W i m ZB H->(J.stop i H/\Q (.ref acc) H)\/
   (J.go i H/\∀x H',J.yld i H x H'->g x ZB H' λYU H2=>tt YU H2 λb H3=>if b=aC then te YU H3 λy H4=>Ou (.ref acc) [y] H4 λ_ H5=>∃m',m'<m/\W (i+1) m' YU H5 else∃m',m'<m/\W (i+1) m' YU H3))(JZ:∀acc C s' H' m,cP X cO σ H' s'->Q (.ref acc) H'->s'.heap.Ns C m->H' C=aB->C≠X.env.locals->X.s₀.heap.objs.size<=C->(∀x c,X.env.cells.lookup x=aA c->c≠C)->(∀p∈X.pn++cO,p.1≠C)->
   RR (.ref acc) C (.ok .next) s'):
  b5 (cv X.prog X.w) X.A (newList []) (λacc s₃=>b5 (cv X.prog X.w) X.A (newFunctionEnv scope X.env.globals (Ge X.env.cells scope.names []) [] X.env.qual aB .none (aA X.env)) (λVN XJ=>
   codeAny (cv X.prog X.w) X.A (.compStart (.ListComp elt [⟨tg,ZG,Z',0⟩] scope pos) 0 (.ref it) acc {VN with scope:=relabel scope X.env}) (RR acc VN.locals) XJ) E s₃) E s:=by
 have S_:∀b∈fp,∃o,s.heap.get? b=aA o:=λb hb=>let⟨o,e,_⟩:=T.obj 0 _ st b hb;⟨o,e⟩
 refine wpAny_newObj_type (wpAny_newFunctionEnv S.nocell (by intro y hy;simp at hy) (λh₁ YI YH=>?_) S.kind);dsimp only at YI YH⊢;have YW:H s.heap.objs.size=aB:=I.hok.fresh (bg _);have I3:cP X cO σ (Wu H s.heap.objs.size (.lst [])) {s with heap:=s.heap.push {cls:=.type "list",dict:=aB,data:=.seq ([]:List aq).toArray}}:=I.lnew (t':=s.toks) (cS:=[]) (ys:=[]) .nil (cr _);have UL:∀b∈fp,Tl X cO (Wu H s.heap.objs.size (.lst [])) b:=λb hb=>by obtain⟨f0,f⟩:=hf b hb;obtain⟨o,ho⟩:=S_ b hb;exact⟨by rw[Zv (d8 (bx ho))];exact f0,f⟩
 have UC:∀b∈fp,∃o,(s.heap.push {cls:=.type "list",dict:=aB,data:=.seq ([]:List aq).toArray}).get? b=aA o:=λb hb=>let⟨o,e⟩:=S_ b hb;⟨o,bh _ e⟩
 obtain⟨W,⟨m0,w0⟩,turn⟩:=q _ YW;generalize hH2:s.heap.push {cls:=.type "list",dict:=aB,data:=.seq ([]:List aq).toArray}=H2 at YI YH I3 UC⊢;have keep:∀b o,H2.get? b=aA o->h₁.get? b=aA o:=λb o e=>YH.extBut b o (d8 (bx e)) (bh _ e);have J0:=Io (N':=N') (scope:=scope) (src:=src) (acc:=s.heap.objs.size) (tk:=s.toks+([]:List (Str×aq)).length) (C:=H2.objs.size) S I3 rfl UL UC (show h₁.Ns H2.objs.size (λ_=>aB)from YI) keep;have QQ:tn 0 h₁:=T.keep 0 s.heap h₁ st λb hb o e=>keep b o (by rw[<-hH2];exact bh _ e);have cne:H2.objs.size≠X.env.locals:=Nat.ne_of_gt I3.lt;have NW:X.s₀.heap.objs.size<=H2.objs.size:=I3.sz;have WW:∀x c,X.env.cells.lookup x=aA c->c≠H2.objs.size:=λx c e z=>by refine We (I3.cell x c e) λv oc UK _=>?_;exact bN (bx UK) (by rw[z];exact fj _)
 have UY:∀p∈X.pn++cO,p.1≠H2.objs.size:=λp hp z=>bN (bx (I3.pin p hp).1) (by rw[z];exact fj _);have VI:∀s₃:ax,s₃={s with heap:=h₁,toks:=s.toks+([]:List (Str×aq)).length}->
   codeAny (cv X.prog X.w) X.A (.compLoop (.ListComp elt [⟨tg,ZG,Z',0⟩] scope pos) 0 (.ref it) (.ref s.heap.objs.size) (compEnvC scope (Ge X.env.cells scope.names []) H2.objs.size X.env)) (RR (.ref s.heap.objs.size) H2.objs.size) s₃:=by
  rintro s₃ rfl;refine jg (λn s'=>∃i ZB H',cP (X.block N' scope H2.objs.size {s with heap:=H2} (Wu H s.heap.objs.size (.lst [])) fp) [] ZB H' s'/\tn i s'.heap/\(∀b∈fp,H' b=aB)/\W i n ZB H') ?_ m0 ⟨0,_,_,J0,QQ,λb hb=>(UL b hb).1,w0⟩;rintro n s4 ⟨i,WN,H4,J4,st4,fr4,w4⟩;have RG:∀{H':Hp},(∀b∈fp,H' b=aB)->∀b∈fp,Tl (X.block N' scope H2.objs.size {s with heap:=H2} (Wu H s.heap.objs.size (.lst [])) fp) [] H' b:=fun{H'} hn b hb=>by
   refine Qx (UL b hb) λf0 f1 f2 f3 f4 f5=>?_;refine⟨hn b hb,?_,λz=>J4.ok.exfs b hb z,.inl hb,λx c e=>(J4.ok.exf b hb).2 x c e,λp hp=>?_⟩
   .exact(J4.ok.exf b hb).1
   .have VZ:p∈([]:List (av×Obj)):=by simpa using hp
    exact nomatch VZ
  rcases turn i n WN H4 w4 with⟨stop,qn⟩|⟨go,step⟩
  .refine W7 (T.done (X.block N' scope H2.objs.size {s with heap:=H2} (Wu H s.heap.objs.size (.lst [])) fp) rfl rfl rfl hc i [] s4 WN H4 _ J4 (RG fr4) st4 stop) λr s5 ⟨hr,J5⟩=>?_;subst hr;obtain⟨m5,JL,_⟩:=J5.loc;have I5:cP X cO σ H4 s5:=I3.call' (ch:=fp) J5.os J5.base J5.hok J5.bare λb hb=>by refine Qx (UL b hb) λf0 f1 f2 f3 f4 f5=>?_;exact⟨f3,f1,f4,f5⟩
   exact JZ _ _ s5 H4 m5 I5 qn JL J5.free cne NW WW UY
  .refine W7 (T.item (X.block N' scope H2.objs.size {s with heap:=H2} (Wu H s.heap.objs.size (.lst [])) fp) rfl rfl rfl hc i [] s4 WN H4 _ J4 (RG fr4) st4 go) λr s5 ⟨u,hr,h5⟩=>?_;subst hr;refine W7 h5 λ_ s6 ZJ=>?_;obtain⟨x,H6,J6,r6,y6,SI,IB⟩:=ZJ;have J6':=J6.pinned (RG IB) (T.obj _ _ SI);have again:∀{YJ:St} {H7:Hp} {s7:ax},cP (X.block N' scope H2.objs.size {s with heap:=H2} (Wu H s.heap.objs.size (.lst [])) fp) ([]++Eu fp s6.heap) YJ H7 s7->(∃m',m'<n/\W (i+1) m' YJ H7)->
     ∃m,m<n/\∃i ZB H',cP (X.block N' scope H2.objs.size {s with heap:=H2} (Wu H s.heap.objs.size (.lst [])) fp) [] ZB H' s7/\tn i s7.heap/\(∀b∈fp,H' b=aB)/\W i m ZB H':=fun{YJ H7 s7} J7 ⟨m',hm,w7⟩=>by
    refine⟨m',hm,i+1,YJ,H7,J7.unpinned,T.keep _ _ _ SI λb hb o e=>(J7.pin (b,o) (bp _ (bp _ (Uv hb e)))).1,λb hb=>?_,w7⟩;obtain⟨o,e,d⟩:=T.obj _ _ SI b hb;exact(J7.pin (b,o) (bp _ (bp _ (Uv hb e)))).2.1
   refine W7 (hg _ _ _ _ _ s6 WN H6 x u _ J6' r6 (step x H6 y6)) λ_ s7 ZJ=>?_;obtain⟨YJ,H7,J7,q7⟩:=ZJ;refine W7 (ht _ _ _ _ _ s7 YJ H7 _ J7 q7) λb s8 ZJ=>?_;obtain⟨H8,J8,q8⟩:=ZJ;cases b with
   |false=>rw[bI bi]at q8⊢;exact again J8 q8
   |true=>rw[bJ rfl]at q8⊢;refine W7 (he _ _ _ _ _ s8 YJ H8 _ J8 q8) λy s9 ZJ=>?_;obtain⟨vy,H9,J9,r9,q9⟩:=ZJ;refine W7 (O3 _ s9 YJ H9 (.ref s.heap.objs.size) [vy] (.ref s.heap.objs.size) [y] _ J9 rfl (.cons r9 .nil) q9) λ_ UN ⟨_,H10,J10,_,q10⟩=>again J10 q10
 exact codeAny_compStart_list (VI _ rfl) (T.self X.A 0 _ _ _ QQ (VI _ rfl))
theorem mP(hc:X.calm=aC)(S:CompScope X N' scope src)(hi:PI X tg ZG wi)(hg:∀C s₀ H₀ ex,PG (X.block N' scope C s₀ H₀ ex) tg g)(ht:∀C s₀ H₀ ex,PTs (X.block N' scope C s₀ H₀ ex) Z' tt)(he:∀C s₀ H₀ ex,PE (X.block N' scope C s₀ H₀ ex) elt te)(hs:‹∀x,foldedSetIterable ZG X.env x=pure x›):PE X (.ListComp elt [⟨tg,ZG,Z',0⟩] scope pos) (GL src wi g tt te):=by
 intro cO s σ H Q I h;rw[eval_ListComp];refine wpAny_comprehension_free (use:=aB) rfl hs (B7 λy hy e=>I.ok.has y.1 (S.free y hy e)) S.kind S.names (W7 (hi cO s σ H _ I h) λv s1 h1=>W7 h1 λQ_ s2 h2=>?_);obtain⟨it,fp,tn,J,H2,e,I2,T,SJ,f2,q⟩:=h2;subst e;refine Ki hc S hg ht he I2 T SJ f2 q λacc C s' H' m I' q' hn hC c1 c2 c3 c4=>⟨m,hn,λh' UR=>?_⟩
 exact⟨.ref acc,H',I'.turned (t':=s'.toks) (λb o hb e=>(UR.2 b hb).trans e) hC c1 (.inr c2) c3 c4,rfl,q'⟩
theorem iW(hc:X.calm=aC)(S:CompScope X N' scope src)(hi:PI X tg ZG wi)(hg:∀C s₀ H₀ ex,PG (X.block N' scope C s₀ H₀ ex) tg g)(ht:∀C s₀ H₀ ex,PTs (X.block N' scope C s₀ H₀ ex) Z' tt)(he:∀C s₀ H₀ ex,PE (X.block N' scope C s₀ H₀ ex) elt te)(hN:X.N.Nodup)(PN:X.N[i]? =aA y)(hx:X.env.scope.names.lookup y=aA .local)(Y':swapsWith (.ListComp elt [⟨tg,ZG,Z',0⟩] scope pos) (aA (.Name y py)) spos.line X.env=pure aC)(hs:‹∀x,foldedSetIterable ZG X.env x=pure x›):PS X (.Assign [.Name y py] (.ListComp elt [⟨tg,ZG,Z',0⟩] scope pos) spos) (OU (GL src wi g tt te) (Il i)):=by
 intro cO s σ H D I h;rw[exec_Assign_Name_used _ _ _ _ Y'];refine aw (wpAny_standAt (aw ?_));show b5 _ X.A (do let _<-comprehension (.ListComp elt [⟨tg,ZG,Z',0⟩] scope pos) scope X.env _ (newList []) aD (dj ZG X.env) (aA (assign (.Name y py) X.env))) _ _ s;refine aw (eh (wpAny_comprehension_free (use:=aA (assign (.Name y py) X.env)) (Q:=λ_ s'=>SP X cO D .next s') rfl hs (B7 λy hy e=>I.ok.has y.1 (S.free y hy e)) S.kind S.names
  (W7 (hi cO s σ H _ I h) λv s1 h1=>W7 h1 λQ_ s2 h2=>?_)) (λ_ s' hq=>bj (bj hq)) λ_ _ e=>e)
 obtain⟨it,fp,tn,J,H2,e,I2,T,SJ,f2,q⟩:=h2;subst e;refine Ki (Q:=λx H1=>Il i x σ H1 D.nx) hc S hg ht he I2 T SJ f2 q λacc C s' H' m I' q' hn hC c1 c2 c3 c4=>?_;refine wpAny_assign_Name (Nz I' hN PN (.inl hx) (v:=.ref acc) (u:=.ref acc) rfl (λQR eN ⟨a,hsb,ha⟩=>?_) (.inr hx));have uh:C≠a:=by
  rcases ha with z|z
  .rw[z];exact c1
  .exact Ne.symm (c3 _ _ z)
 refine⟨m,hn.sameBut hsb uh,λh' UR=>?_⟩;exact⟨_,H',eN.turned (t':=QR.toks) (λb o hb e=>(UR.2 b hb).trans e) hC c1 (.inr c2) c3 c4,q'⟩
end
structure Raised(h:ed)(e:av)(cls:aq)(dx tb:Option av):Prop where
 obj:∃oe vs,h.get? e=aA oe/\oe.cls=cls/\oe.dict=dx/\oe.data= .fields vs/\vs[1]? =aA (match tb with|none=>.none|some T=>.ref T)
 tr:∀T,tb=aA T->T≠e/\∃oT ts fl,h.get? T=aA oT/\oT.data= .fields ts/\ts[3]? =aA fl
noncomputable def HG:Option av->List av
 |none=>[]
 |some T=>[T]
structure Noted(l:List av)(h h':ed)(e:av)(cls:aq)(dx tb:Option av)(T:av):Prop where
 keep:∀b o,b≠e->b∉HG tb->b∉l->h.get? b=aA o->h'.get? b=aA o
 slot:∀b o,b∈l->h.get? b=aA o->∃sl,h'.get? b=aA {o with slots:=sl}
 new:h.get? T=aB\/aA T=tb
 r:Raised h' e cls dx (aA T)
theorem kC(o:Obj)(f):(o.mapFields f).dict=o.dict:=by obtain⟨c,d,dt,sl⟩:=o;cases dt<;> rfl
theorem Pf(hf:A.frames=aA (env::outer))(ff:s.heap.FunFrames base (env::outer))(hL:env.frame=aA L)(h1:s.heap.get? e=aA oe)(h3:oe.data= .fields vs)(hz:1<vs.size)(he:e∉Re (env::outer))(h:∀h' T,(∀b o,b≠e->b∉Re (env::outer)->s.heap.get? b=aA o->h'.get? b=aA o)->(∀b o,b≠e->b∈Re (env::outer)->s.heap.get? b=aA o->∃sl,h'.get? b=aA {o with slots:=sl})->s.heap.get? T=aB->T≠e->
   h'.get? e=aA (oe.mapFields (·.setIfInBounds 1 (.ref T)))->(∃oT ts fl,h'.get? T=aA oT/\oT.data= .fields ts/\ts[3]? =aA fl)->Q () {s with heap:=h'}):
  b5 M A (do let a<-frameOf env;let pl<-entryPlaceOf L hadNext;let b<-EntryCells.newEntry head a .none (rawInt L) .none pl;setField (.ref e) 1 b) Q E s:=by
 refine aw (wpAny_frameOf_fun hf ff hL λg1 NB=>aw (wpAny_entryPlaceOf λpl ip=>?_));unfold EntryCells.newEntry newFields;have e1:g1.get? e=aA oe:=(NB.2.1 e he).trans h1;refine aw (wpAny_newObj_type (wpAny_setField (bh _ e1) h3 hz ?_) (ip.sizeOk5 _ _ _ _ _));have ne:g1.objs.size≠e:=Nat.ne_of_gt (bx e1);have kp:∀b o,b≠e->g1.get? b=aA o->((g1.push {cls:=.type "traceback",dict:=aB,data:=.fields ([head,.ref L,.none,rawInt L,.none]++(if pl.isEmpty then List.replicate 6 Value.none else pl)).toArray}).update e (Obj.mapFields (·.setIfInBounds 1 (dz g1.objs.size)))).get? b=aA o:=λb o nb q=>by rw[Heap.get?_update_other _ _ (Ne.symm nb)];exact bh _ q
 refine h _ g1.objs.size (λb o nb nf q=>kp b o nb ((NB.2.1 b nf).trans q)) (λb o nb hb q=>?_) (Heap.get?_none_of_le (by rw[NB.1];exact bg _)) ne ?_ ?_
 .obtain⟨sl,q1⟩:=NB.2.2 b o q;exact⟨sl,kp b _ nb q1⟩
 .exact Heap.get?_update_self _ (bh _ e1) (Obj.isFreed_of_fields (Obj.data_mapFields h3 _))
 .refine⟨_,_,rawInt L,(Heap.get?_update_other _ _ (Ne.symm ne)).trans (cj g1 rfl),rfl,?_⟩;simp
theorem Kj(hf:A.frames=aA (env::outer))(ff:s.heap.FunFrames base (env::outer))(hL:env.frame=aA L)(r:Raised s.heap e cls dx tb)(h:∀h' T,Noted (Re (env::outer)) s.heap h' e cls dx tb T->Q () {s with heap:=h'}):b5 M A (noteFrame (.ref e) env) Q E s:=by
 obtain⟨oe,vs,h1,h2,hd,h3,h5⟩:=r.obj;have VW:∀b o ws,s.heap.get? b=aA o->o.data= .fields ws->b∉Re (env::outer):=λb o ws q qd hm=>by obtain⟨_,o',q1,q2⟩:=ff.mem hm;rw[q]at q1;cases q1;exact q2 ws qd
 have he:=VW e oe vs h1 h3;have hz:1<vs.size:=(Array.getElem?_eq_some_iff.mp h5).1;have QT:∀(h':ed) (T:av),h'.get? e=aA (oe.mapFields (·.setIfInBounds 1 (.ref T)))->∃oe vs,h'.get? e=aA oe/\oe.cls=cls/\oe.dict=dx/\oe.data= .fields vs/\vs[1]? =aA (.ref T):=λh' T q=>
  ⟨_,_,q,(Obj.cls_mapFields _ _).trans h2,(kC _ _).trans hd,Obj.data_mapFields h3 _,by simp[hz]⟩
 unfold noteFrame;simp only[hL];refine aw (wpAny_field h1 h3 h5 ?_);cases tb with
 |none=>rw[bI (by decide)];exact Pf hf ff hL h1 h3 hz he λh' T k1 k2 k3 k4 k5 k6=>h h' T ⟨λb o n1 _ n3 q=>k1 b o n1 n3 q,λb o hb q=>k2 b o (λz=>he (z▸hb)) hb q,.inl k3,QT h' T k5,λT' z=>by cases z;exact⟨k4,k6⟩⟩
 |some T0=>
  obtain⟨r1,oT,ts,fl,r2,r3,r4⟩:=r.tr T0 rfl;have hT:=VW T0 oT ts r2 r3;rw[bJ (show(dz T0 !=Value.none)=aC from by simp)];refine aw (wpAny_field r2 r3 r4 ?_);by_cases NT:(fl==rawInt L)=aC
  .rw[bJ NT];exact bj (h s.heap T0 ⟨λ_ _ _ _ _ q=>q,λb o _ q=>⟨o.slots,q⟩,.inr rfl,r⟩)
  .rw[bI NT];have UP:∀b,b≠T0->(s.heap.update T0 (Obj.mapFields (·.setIfInBounds 3 Value.none))).get? b=s.heap.get? b:=λb hb=>Heap.get?_update_other _ _ (Ne.symm hb);have sz3:=(Array.getElem?_eq_some_iff.mp r4).1;have atT:(s.heap.update T0 (Obj.mapFields (·.setIfInBounds 3 Value.none))).get? T0=aA (oT.mapFields (·.setIfInBounds 3 Value.none)):=Heap.get?_update_self _ r2 (Obj.isFreed_of_fields (Obj.data_mapFields r3 _));refine aw (wpAny_setField r2 r3 sz3 (Pf (base:=base) hf (ff.of_keeps λb o q nf=>⟨o,(UP b λz=>nf ts (by rw[z,r2]at q;cases q;exact r3)).trans q,rfl⟩) hL ((UP e (Ne.symm r1)).trans h1) h3 hz he λh' T k1 k2 k3 k4 k5 k6=>?_));refine h h' T ⟨λb o n1 n2 n3 q=>k1 b o n1 n3 ((UP b λz=>n2 (by rw[z];exact af.mpr rfl)).trans q),λb o hb q=>k2 b o (λz=>he (z▸hb)) hb ((UP b λz=>hT (z▸hb)).trans q),?_,QT h' T k5,λT' z=>by cases z;exact⟨k4,k6⟩⟩;by_cases z:T=T0
   .exact .inr (by rw[z])
   .exact .inl ((UP T z).symm.trans k3)
theorem Gg(r:Raised s.heap e cls dx (aA T))(hn:∀b o ws,s.heap.get? b=aA o->o.data= .fields ws->b∉l)(h:∀h',Noted l s.heap h' e cls dx (aA T) T->Q () {s with heap:=h'}):b5 M A (setFlight (.ref e) fr) Q E s:=by
 obtain⟨oe,vs,h1,h2,hd,h3,h5⟩:=r.obj;obtain⟨r1,oT,ts,fl,r2,r3,r4⟩:=r.tr T rfl;have sz3:=(Array.getElem?_eq_some_iff.mp r4).1;unfold setFlight;refine aw (wpAny_field h1 h3 h5 ?_);rw[bJ (show(dz T !=Value.none)=aC from by simp)];have UP:∀b,b≠T->(s.heap.update T (Obj.mapFields (·.setIfInBounds 3 (fr.elim .none λf=>rawInt f)))).get? b=s.heap.get? b:=λb hb=>Heap.get?_update_other _ _ (Ne.symm hb);refine wpAny_setField r2 r3 sz3 (h _ ⟨λb o n1 n2 n3 q=>(UP b λz=>n2 (by rw[z];exact af.mpr rfl)).trans q,λb o hb q=>⟨o.slots,(UP b λz=>hn T oT ts r2 r3 (z▸hb)).trans q⟩,.inr rfl,⟨oe,vs,(UP e (Ne.symm r1)).trans h1,h2,hd,h3,h5⟩,λT' z=>?_⟩);cases z;exact⟨r1,_,_,fr.elim .none λf=>rawInt f,Heap.get?_update_self _ r2 (Obj.isFreed_of_fields (Obj.data_mapFields r3 _)),Obj.data_mapFields r3 _,by simp[sz3]⟩
theorem Noted.trans(a:Noted l h h1 e cls dx tb T)(b:Noted l h1 h2 e cls dx (aA T) T')(hT:T∉l)(eY:∀T0,tb=aA T0->h.get? T=aB\/T=T0):Noted l h h2 e cls dx tb T':=by
 have nT:∀b o,b∉HG tb->h.get? b=aA o->b≠T:=λb o n q z=>by
  rcases a.new with k|k
  .rw[z,k]at q;cases q
  .rw[<-k]at n;exact n (by rw[z];exact af.mpr rfl)
 refine⟨λc o n1 n2 n3 q=>b.keep c o n1 (λz=>nT c o n2 q (af.mp z)) n3 (a.keep c o n1 n2 n3 q),λc o hc q=>?_,?_,b.r⟩
 .obtain⟨sl,q1⟩:=a.slot c o hc q;obtain⟨TH,q2⟩:=b.slot c _ hc q1;exact⟨TH,q2⟩
 .rcases b.new with k|k
  .by_cases hm:aA T'=tb
   .exact .inr hm
   .refine .inl ?_;cases z:h.get? T' with
    |none=>rfl
    |some o=>
     exfalso;by_cases hl:T'∈l
     .obtain⟨sl,q1⟩:=a.slot T' o hl z;rw[k]at q1;cases q1
     .by_cases he:T'=e
      .refine We a.r.obj λoe vs q1 _=>?_;rw[<-he,k]at q1;cases q1
      .have:=a.keep T' o he (λy=>hm (by cases tb with
        |none=>cases y
        |some T0=>rw[af.mp y])) hl z
       rw[k]at this;cases this
  .cases k;rcases a.new with k|k
   .exact .inl k
   .exact .inr k
theorem Kk(hf:A.frames=aA (env::outer))(ff:s.heap.FunFrames base (env::outer))(hL:env.frame=aA L)(r:Raised s.heap e cls dx tb)(h:∀h' T,Noted (Re (env::outer)) s.heap h' e cls dx tb T->Q () {s with heap:=h'}):b5 M A (leaving env (.ref e)) Q E s:=by
 have VW:∀b o ws,s.heap.get? b=aA o->o.data= .fields ws->b∉Re (env::outer):=λb o ws q qd hm=>by obtain⟨_,o',q1,q2⟩:=ff.mem hm;rw[q]at q1;cases q1;exact q2 ws qd
 unfold leaving;refine aw (Kj hf ff hL r λh1 T1 n1=>?_);have VU:∀b o ws,h1.get? b=aA o->o.data= .fields ws->b∉Re (env::outer):=λb o ws q qd hm=>by obtain⟨_,o',q1,q2⟩:=ff.mem hm;obtain⟨sl,q3⟩:=n1.slot b o' hm q1;rw[q]at q3;cases q3;exact q2 ws qd
 refine Gg (s:={s with heap:=h1}) n1.r VU λh2 n2=>?_;obtain⟨_,oT,ts,fl,r2,r3,_⟩:=n1.r.tr T1 rfl;exact h h2 T1 (n1.trans n2 (VU T1 oT ts r2 r3) λT0 z=>by
  rcases n1.new with k|k
  .exact .inl k
  .rw[z]at k;cases k;exact .inr rfl)
def Hc(P:b8)(w:df):Hb:=λouter H s E e s'=>∃(a:av) (cls:aq) (dx:Option av) (T:av) (H':Hp),e= .ref a/\s'.os=s.os/\AllBare s'.gens/\Un (Re outer) [] H H' s.heap s'.heap/\Rf P w H' s'.heap/\
 Raised s'.heap a cls dx (aA T)/\s.heap.get? a=aB/\s.heap.get? T=aB/\H' a=aB/\H' T=aB/\E cls dx H'
def Kl(X:Cx)(EX:XK):Prop:=∀(cO:List (av×Obj)) (σ:St) (H:Hp) (s:ax) (e:av) (cls:aq) (dx tb:Option av),cP X cO σ H s->Raised s.heap e cls dx tb->X.s₀.heap.get? e=aB->H e=aB->
 (∀T,tb=aA T->X.s₀.heap.get? T=aB/\H T=aB)->EX cls dx H->X.xe (.ref e) s
theorem Wi.has:∀{o:HO},Wi P w H h a o->∃u,h.get? a=aA u:=by
 intro o;induction o with
 |lst xs=>intro⟨_,_,_,_,e⟩;exact⟨_,e⟩
 |tup xs=>intro⟨_,_,_,_,e,_⟩;exact⟨_,e⟩
 |dK kvs ep=>intro⟨_,_,_,_,o,_,e,_⟩;exact⟨_,e⟩
 |dT kvs ep bs=>intro⟨_,_,_,_,o,_,e,_⟩;exact⟨_,e⟩
 |set S n=>intro⟨o,_,_,_,e,_⟩;exact⟨_,e⟩
 |own y=>intro⟨_,e⟩;exact⟨_,e⟩
 |xd fs=>intro⟨_,⟨_,_,_,e,_⟩,_⟩;exact⟨_,e⟩
 |frz ob u _=>intro⟨e,_⟩;exact⟨_,e⟩
 |tbl ps=>intro e;exact⟨_,(show h.get? a=aA _ from e)⟩
 |ext φ=>intro⟨_,⟨_,e⟩,_⟩;exact⟨_,e⟩
theorem Rf.gone(ok:Rf P w H h)(n:h.get? a=aB):H a=aB:=by
 cases e:H a with
 |none=>rfl
 |some o=>obtain⟨u,q⟩:=(ok a o e).has;rw[n]at q;cases q
theorem wD(ok:Rf P w H h)(k:∀b o,H b≠aB->h.get? b=aA o->h'.get? b=aA o):Rf P w H h':=λa o e=>
 (ok a o e).stay (λb u hb q=>k b u (by rcases hb with hb|hb<;> rw[hb]<;> simp[e]) q) (λ_ z=>z) (λ_ _ z=>z) λ_ _ z=>z
theorem kB(h:b∈Re l):b∈Re (env::l):=by unfold Re at h⊢;obtain⟨x,hx,e⟩:=List.mem_filterMap.mp h;exact List.mem_filterMap.mpr ⟨x,ad _ hx,e⟩
theorem Cq{K}:
  Kl (Ri (Hc P w) P w K mg base N qual scope f cd A outer s H E) E:=by
 intro cO σ H1 s1 e cls dx tb I r he heH hT q;have hf:=I.ok.frames;have ff:=I.stack;have XB:(Ri (Hc P w) P w K mg base N qual scope f cd A outer s H E).env.frame=aA (Ri (Hc P w) P w K mg base N qual scope f cd A outer s H E).env.locals:=by
  rcases I.ok.stk with z|z
  .have:=congrArg List.length z;exact bN this (by show outer.length+1≠outer.length;omega)
  .exact z.2
 have sf:=I.stkFree;have S':s.heap.get? e=aB:=he;have up:Un (Re outer) [] H H1 s.heap s1.heap:=I.base;refine Kk hf ff XB r λh' T ZJ=>?_;obtain⟨k1,k2,k3,r'⟩:=ZJ;have D':s.heap.get? T=aB/\H1 T=aB:=by
  rcases k3 with k3|k3
  .refine⟨?_,I.hok.gone k3⟩;cases z:s.heap.get? T with
   |none=>rfl
   |some o=>obtain⟨o',q'⟩:=up.there T o z (by simp);rw[k3]at q';cases q'
  .exact hT T k3.symm
 have old:∀b o,s.heap.get? b=aA o->b≠e/\b∉HG tb:=λb o qb=>by
  refine⟨(λz=>by rw[z,S']at qb;cases qb),λz=>?_⟩;cases tb with
  |none=>cases z
  |some T0=>have:=(hT T0 rfl).1;rw[af.mp z]at qb;have QP:s.heap.get? T0=aB:=this;rw[QP]at qb;cases qb
 have loc:∀b o,s.heap.get? b=aA o->b∉Re outer->b∉Re ((Ri (Hc P w) P w K mg base N qual scope f cd A outer s H E).env::outer):=λb o qb hb hm=>by
  unfold Re at hm;rw[List.filterMap_cons,XB]at hm;rcases ba.mp hm with z|z
  .have:=I.ok.above;have h2:=bx qb;rw[z]at h2;exact bN h2 (Nat.not_lt.mpr this)
  .exact hb z
 refine⟨e,cls,dx,T,H1,rfl,I.os,I.bare,⟨λb o qb n hb hx=>?_,λb o qb n hb hx=>?_,λb o qb n hx=>up.free b o qb n hx,λb o qb hx=>?_,up.tups,up.frzs,up.tbls⟩,?_,r',S',D'.1,heH,D'.2,q⟩
 .obtain⟨o1,o2⟩:=old b o qb;exact k1 b o o1 o2 (loc b o qb hb) (up.keep b o qb n hb hx)
 .obtain⟨sl,q1⟩:=up.slot b o qb n hb hx;obtain⟨TH,q2⟩:=k2 b _ (kB hb) q1;exact⟨TH,q2⟩
 .obtain⟨o',q1⟩:=up.there b o qb hx;obtain⟨o1,o2⟩:=old b o qb;by_cases b1:b∈Re ((Ri (Hc P w) P w K mg base N qual scope f cd A outer s H E).env::outer)
  .obtain⟨sl,z⟩:=k2 b o' b1 q1;exact⟨_,z⟩
  .exact⟨o',k1 b o' o1 o2 b1 q1⟩
 .refine wD I.hok λb o hb qb=>k1 b o (λz=>hb (by rw[z];exact heH)) (λz=>?_) (λz=>hb (sf b z)) qb;cases tb with
  |none=>cases z
  |some T0=>exact hb (by rw[af.mp z];exact(hT T0 rfl).2)
abbrev VEB:List Value:=[.type "ValueError",.type "Exception",.type "BaseException",.type "object"]
theorem iV(k:∀b o,h.get? b=aA o->h'.get? b=aA o):∀{bm:List aq},OwnTail h bmB bm->OwnTail h' bmB bm:=by
 intro bm t;induction t with
 |base=>exact .base
 |own e n m _ ih=>exact .own (k _ _ e) (n.keeps k) m ih
def yS(EX:XK)(C:av)(t:TA):TS:=λ_ σ H=>t σ H λvs H1=>vs.length<=sizeLine/\EX (.ref C) aB H1
theorem kA{np ZA pos}(th:Kl X EX)(hc:X.calm=aC)(ZZ:X.ex=[])(oc:OwnCls x C VEB "ValueError.__new__" X.mg X.base)(hg:Gl X x)(ha:PA X [a] t)(he:‹au [a] X.env=(aD,dj a X.env)::au [] X.env›)(ZH:‹((c9 ZA (au [a] X.env)).any λx=>x.1)=aD›)(JW:∃y rest,c9 ZA (au [a] X.env)=(aD,y)::rest:=by exact⟨_,_,rfl⟩)(uZ:∀h bm,OwnTail h VEB bm->bm.contains (.type "BaseException")=aC)(hd:‹(x==("__debug__":Str))=aD›):PS X (.Raise (aA (.Call (.Name x np) [a] [] ZA)) aB pos) (yS EX C t):=by
 intro cO s σ H D I h;obtain⟨hb,bm,N,nm,q,bs,hdct,sn,sub,ab,col,dd,k0,k1,k2,k3,k5,mN,o1,o2,o3,o4⟩:=oc;refine wpAny_Raise_call_subU (C:=C) (Bn:="ValueError") (B:="ValueError") (nm:=nm) (q:=q) (N:=N) (bs:=bs) (bm:=bm) (hdct:=hdct) (sn:=sn) (sub:=sub) (ab:=ab) (col:=col) (dd:=dd) (k0:=k0) (k1:=k1) (k2:=k2) (k3:=k3) (k5:=k5) (mN:=mN) PySem.F.excBase_ValueError (by decide) PySem.F.excBase_ValueError (uZ _ _ o4) (I.ok.hd hc) ZH o3 ?_;refine Ad I hg hb ⟨rfl,?_⟩ hd;obtain⟨y,rest,hy⟩:=JW;rw[hy];refine Calls.evalArgs_plain ?_;rw[<-hy];refine W7 (ha ZA cO s σ H _ I h) λus s2 ⟨vs,H2,I2,r2,zl,q2⟩=>⟨rfl,(by rw[<-r2.length];exact zl),I2.bk _ _ o1,o2.keeps I2.bk,iV I2.bk o4,λh' e m=>?_⟩
 .refine Zr m.there λT m1 m2 m3=>?_;have I3:cP X cO σ H2 {s2 with heap:=h'}:=I2.kept (t':=s2.toks) m.keeps;refine th cO σ H2 _ e (.ref C) aB aB I3 ⟨⟨_,_,m1,rfl,rfl,rfl,rfl⟩,λT' z=>nomatch z⟩ ?_ ?_ (λT' z=>nomatch z) q2
  .cases z:X.s₀.heap.get? e with
   |none=>rfl
   |some o=>obtain⟨o',z'⟩:=I2.base.there e o z (by rw[ZZ];simp);rw[m.new]at z';cases z'
  .exact Rf.gone I2.hok m.new
abbrev Km:=aq->Option av->St->Hp->Prop
def U4(X:Cx)(EX:Km):Prop:=∀(cO:List (av×Obj)) (σ:St) (H:Hp) (s:ax) (e:av) (cls:aq) (dx:Option av) (T:av),cP X cO σ H s->Raised s.heap e cls dx (aA T)->X.s₀.heap.get? e=aB->H e=aB->
 X.s₀.heap.get? T=aB->H T=aB->(∀p∈X.pn++cO,p.1≠e/\p.1≠T)->(e≠X.env.locals/\T≠X.env.locals)->(∀x c,X.env.cells.lookup x=aA c->c≠e/\c≠T)->EX cls dx σ H->X.xe (.ref e) s
theorem Kl.t(h:Kl X EX):U4 X λcls od _ H=>EX cls od H:=λcO σ H s e cls dx T I r h1 h2 h3 h4 _ _ _ q=>h cO σ H s e cls dx (aA T) I r h1 h2 (λT' z=>by cases z;exact⟨h3,h4⟩) q
theorem mO(th:U4 X EX)(ZZ:X.ex=[]){σ:St}(I:cP X cO σ H s)(h:Hc X.prog X.w X.stack H s (λcls od H'=>EX cls od σ H') e s'):X.xe e s':=by
 obtain⟨a,cls,dx,T,H',he,os,bare,un,hok,r,n1,n2,n3,n4,q⟩:=h;subst he;have I':cP X cO σ H' s':=I.call' (ch:=[]) os un hok bare (λb hb=>nomatch hb);have old:∀b,s.heap.get? b=aB->X.s₀.heap.get? b=aB:=λb hb=>by
  cases z:X.s₀.heap.get? b with
  |none=>rfl
  |some o=>obtain⟨o',z'⟩:=I.base.there b o z (by rw[ZZ];simp);rw[hb]at z';cases z'
 have pin:∀b,s.heap.get? b=aB->∀p∈X.pn++cO,p.1≠b:=λb hb p hp z=>by have:=(I.pin p hp).1;rw[z,hb]at this;cases this
 have loc:∀b,s.heap.get? b=aB->b≠X.env.locals:=λb hb z=>by obtain⟨m,⟨o,es,ep,ho,_⟩,_⟩:=id I.loc;rw[z,ho]at hb;cases hb
 have OE:∀b,s.heap.get? b=aB->∀x c,X.env.cells.lookup x=aA c->c≠b:=λb hb x c hc z=>by refine We (I.cell x c hc) λv o ho _=>?_;rw[z,hb]at ho;cases ho
 exact th cO σ H' s' a cls dx T I' r (old a n1) n3 (old T n2) n4 (λp hp=>⟨pin a n1 p hp,pin T n2 p hp⟩) ⟨loc a n1,loc T n2⟩ (λx c hc=>⟨OE a n1 x c hc,OE T n2 x c hc⟩) q
def Ak(X:Cx)(EX:Km):Prop:=∀(cO:List (av×Obj)) (σ:St) (H:Hp) (s:ax) (e:aq) (s':ax),cP X cO σ H s->Hc X.prog X.w X.stack H s (λcls od H'=>EX cls od σ H') e s'->X.xe e s'
theorem U4.pass(th:U4 X EX)(ZZ:X.ex=[]):Ak X EX:=λ_ _ _ _ _ _ I h=>mO th ZZ I h
def yR(sp:Sp)(EX:Km)(t:TA):TE:=λσ H Q=>t σ H λvs H1=>sp vs H1 Q λcls od H'=>EX cls od σ H'
theorem l_{p pos}(F:FnOk X.prog X.w X.K X.mg X.base (Hc X.prog X.w) k f fd ps sp)(hr:cY k X.A)(hg:Gl X x)(hm:X.mg x=aA (.ref f))(hk:PySem.W.keepIn X.K (.ref f)=aC)(hb:M8 X.K fd ps [])(th:Ak X EX)(ha:PA X (e::es) t)(YM:‹(x==("__debug__":Str))=aD›)(he:‹au (e::es) X.env=(aD,dj e X.env)::au es X.env›)(ZH:‹(c9 pos (au es X.env)).any (·.1)=aD›):
  PE X (.Call (.Name x p) (e::es) [] pos) (yR sp EX t):=by
 intro cO s σ H Q I h;refine wpAny_Call_Name_kw (Ad I hg hm ?_ YM);refine PySem.W.callWith_K (h₀:=X.base) I.ok.mod.kin hk (W7 (ha pos cO s σ H _ I h) λus s1 ⟨vs,H1,I1,r,q⟩=>⟨I1.kIn,?_⟩) he ZH;have hl:(us++[]).length=ps.length:=by rw[de,<-r.length];exact F.len _ _ _ _ q
 have bb:=hb s1 us I1.kIn hl;rw[de]at bb;refine wpAny_call (codeAny_mono (F.run X.A X.stack s1 H1 ⟨us,[]⟩ us vs Q _ hr I1.env0 bb r q) λr' s' hq=>?_);cases r' with
 |error e=>exact th _ _ _ _ _ _ I1 hq
 |ok fl=>
  cases fl with
  |ret u=>exact I1.after hq
  |next=>exact False.elim hq
  |brk=>exact False.elim hq
  |cont=>exact False.elim hq
structure Air(X:Cx)(cO:List (av×Obj))(H:Hp)(s:ax)(e:av)(cls:aq)(dx:Option av)(T:av):Prop where
 r:Raised s.heap e cls dx (aA T)
 e0:X.s₀.heap.get? e=aB
 eH:H e=aB
 t0:X.s₀.heap.get? T=aB
 tH:H T=aB
 pe:∀p∈X.pn++cO,p.1≠e/\p.1≠T
 le:e≠X.env.locals/\T≠X.env.locals
 ce:∀x c,X.env.cells.lookup x=aA c->c≠e/\c≠T
section
variable{σ:St}
theorem cP.air(I:cP X cO σ H s)(a:Air X cO H s e cls dx T)(ZZ:X.ex=[])(k1:∀b o,b≠e->b≠T->b∉Re X.stack->s.heap.get? b=aA o->h'.get? b=aA o)(k2:∀b o,b∈Re X.stack->s.heap.get? b=aA o->∃sl,h'.get? b=aA {o with slots:=sl})(r':Raised h' e cls dx (aA T'))(hT:s.heap.get? T'=aB\/T'=T):
  cP X cO σ H {s with heap:=h'}/\Air X cO H {s with heap:=h'} e cls dx T':=by
 have old:∀b o,X.s₀.heap.get? b=aA o->b≠e/\b≠T:=λb o q=>⟨(λz=>by rw[z,a.e0]at q;cases q),(λz=>by rw[z,a.t0]at q;cases q)⟩
 have nl:∀b o,X.s₀.heap.get? b=aA o->b≠X.env.locals:=λb o q=>d8 (c6 (bx q) I.ok.above);have DB:∀b,b≠X.env.locals->b∉X.fs->b∉Re X.stack:=λb h1 h2 z=>(ba.mp (I.stkSub b z)).elim h1 h2;have any:∀b o,b≠e->b≠T->s.heap.get? b=aA o->∃sl,h'.get? b=aA {o with slots:=sl}:=λb o n1 n2 q=>by
  by_cases hb:b∈Re X.stack
  .exact k2 b o hb q
  .exact⟨o.slots,k1 b o n1 n2 hb q⟩
 have XW:∀x c,X.env.cells.lookup x=aA c->∀v,s.heap.IsCell c v->h'.IsCell c v:=λx c ec v ⟨o,ho,hd⟩=>by obtain⟨sl,q⟩:=any c o (a.ce x c ec).1 (a.ce x c ec).2 ho;exact⟨_,q,hd⟩
 refine⟨⟨I.ok,I.os,I.bare,⟨λb o q n hb hx=>?_,λb o q n hb hx=>?_,I.base.free,λb o q hx=>?_,I.base.tups,I.base.frzs,I.base.tbls⟩,?_,λx c ec=>?_,I.free,I.freeC,λp hp=>?_,?_,I.len⟩,⟨r',a.e0,a.eH,?_,?_,λp hp=>⟨(a.pe p hp).1,?_⟩,⟨a.le.1,?_⟩,λx c ec=>⟨(a.ce x c ec).1,?_⟩⟩⟩
 .exact k1 b o (old b o q).1 (old b o q).2 (DB b (nl b o q) hb) (I.base.keep b o q n hb hx)
 .obtain⟨sl,q1⟩:=I.base.slot b o q n hb hx;obtain⟨TH,q2⟩:=any b _ (old b o q).1 (old b o q).2 q1;exact⟨TH,q2⟩
 .obtain⟨o',q1⟩:=I.base.there b o q hx;obtain⟨TH,q2⟩:=any b _ (old b o q).1 (old b o q).2 q1;exact⟨_,q2⟩
 .obtain⟨m,⟨o,es,ep,ho,rr⟩,hl⟩:=I.loc;obtain⟨sl,q2⟩:=any _ o (Ne.symm a.le.1) (Ne.symm a.le.2) ho;refine⟨m,⟨_,es,ep,q2,rr⟩,λi x v e1 e2 e3=>?_⟩;obtain⟨u,r,l⟩:=hl i x v e1 e2 e3;refine⟨u,r,?_⟩;rcases l with l|⟨k,c,ec,z⟩
  .exact .inl l
  .exact .inr ⟨k,c,ec,XW x c ec _ z⟩
 .obtain⟨v,z⟩:=I.cell x c ec;exact⟨v,XW x c ec v z⟩
 .obtain⟨q,n,ne,nf,d⟩:=I.pin p hp;exact⟨k1 p.1 p.2 (a.pe p hp).1 (a.pe p hp).2 (DB _ ne nf) q,n,ne,nf,d⟩
 .exact wD I.hok λb o hb q=>k1 b o (λz=>hb (by rw[z];exact a.eH)) (λz=>hb (by rw[z];exact a.tH)) (λz=>hb (I.stkFree b z)) q
 .rcases hT with hT|hT
  .cases z:X.s₀.heap.get? T' with
   |none=>rfl
   |some o=>obtain⟨o',q⟩:=I.base.there T' o z (by rw[ZZ];simp);rw[hT]at q;cases q
  .rw[hT];exact a.t0
 .rcases hT with hT|hT
  .exact I.hok.gone hT
  .rw[hT];exact a.tH
 .rcases hT with hT|hT
  .intro z;have:=(I.pin p hp).1;rw[z,hT]at this;cases this
  .rw[hT];exact(a.pe p hp).2
 .rcases hT with hT|hT
  .intro z;obtain⟨m,⟨o,es,ep,ho,_⟩,_⟩:=I.loc;rw[<-z,hT]at ho;cases ho
  .rw[hT];exact a.le.2
 .rcases hT with hT|hT
  .intro z;refine We (I.cell x c ec) λv o ho _=>?_;rw[z,hT]at ho;cases ho
  .rw[hT];exact(a.ce x c ec).2
theorem cP.noted(I:cP X cO σ H s)(a:Air X cO H s e cls dx T)(ZZ:X.ex=[])(n:Noted (Re X.stack) s.heap h' e cls dx (aA T) T'):cP X cO σ H {s with heap:=h'}/\Air X cO H {s with heap:=h'} e cls dx T':=
 I.air a ZZ (λb o n1 n2 n3 q=>n.keep b o n1 (λz=>n2 (af.mp z)) n3 q) n.slot n.r (by
  rcases n.new with k|k
  .exact .inl k
  .cases k;exact .inr rfl)
theorem B8{Q:ax->Prop}(I:cP X cO σ H s)(a:Air X cO H s e cls dx T)(ZZ:X.ex=[])(hA:A.frames=aA X.stack)(YB:X.stack=X.env::X.outer)(XB:X.env.frame=aA X.env.locals)(k:∀h' T',cP X cO σ H {s with heap:=h'}->Air X cO H {s with heap:=h'} e cls dx T'->Q {s with heap:=h'}):
  b5 M A (noteFrame (.ref e) X.env) (λ_ s2=>b5 M A (setFlight (.ref e) aB) (λ_ s3=>Q s3) E s2) E s/\b5 M A (setFlight (.ref e) aB) (λ_ s3=>Q s3) E s:=by
 have NK:∀{σ:St} {H:Hp} {s:ax},cP X cO σ H s->∀b o ws,s.heap.get? b=aA o->o.data= .fields ws->b∉Re X.stack:=fun{σ H s} I b o ws q qd hm=>by obtain⟨_,o',q1,q2⟩:=I.stack.mem hm;rw[q]at q1;cases q1;exact q2 ws qd
 constructor
 .have ff:s.heap.FunFrames X.base (X.env::X.outer):=by rw[<-YB];exact I.stack
  refine Kj (by rw[hA,YB]) ff XB a.r λh1 T1 n1=>?_;rw[<-YB]at n1;obtain⟨I1,a1⟩:=I.noted a ZZ n1;refine Gg (s:={s with heap:=h1}) a1.r (NK I1) λh2 n2=>?_;obtain⟨I2,a2⟩:=I1.noted a1 ZZ n2;exact k h2 T1 I2 a2
 .refine Gg a.r (NK I) λh2 n2=>?_;obtain⟨I2,a2⟩:=I.noted a ZZ n2;exact k h2 T I2 a2
end
noncomputable abbrev Cx.inTry(X:Cx)(pn:List (av×Obj))(xe:aq->ax->Prop):Cx:={X with pn:=pn,xe:=xe}
noncomputable abbrev Cx.inSuite(X:Cx)(a:av):Cx:={X with A:=X.A.mark (aA (.ref a)),calm:=aD,xe:=λ_ _=>False}
section
variable{X:Cx}{cO:List (av×Obj)}{σ:St}{H:Hp}{s:ax}{e T:av}
theorem Cx.Ok.tryIn{xe:aq->ax->Prop}{pn}(k:X.Ok):(X.inTry pn xe).Ok:=⟨k.mod,k.kind,k.glob,k.blt,k.above,k.inj,k.has,k.cab,k.hd,k.frames,k.stk,k.exf,k.bs,k.bsz,k.noex,k.exfs,k.funs,k.frf⟩
theorem Cx.Ok.suiteIn(k:X.Ok):(X.inSuite e).Ok:=⟨k.mod,k.kind,k.glob,k.blt,k.above,k.inj,k.has,k.cab,(λh=>nomatch h),k.frames,k.stk,k.exf,k.bs,k.bsz,k.noex,k.exfs,k.funs,k.frf⟩
theorem cP.tryIn(I:cP X cO σ H s):cP (X.inTry (X.pn++cO) xe) [] σ H s:=⟨I.ok.tryIn,I.os,I.bare,I.base,I.loc,I.cell,I.free,I.freeC,(λp hp=>I.pin p (by simpa using hp)),I.hok,I.len⟩
theorem cP.tryOut(k:X.Ok)(I:cP (X.inTry (X.pn++cO) xe) pins' σ H s):cP X cO σ H s:=⟨k,I.os,I.bare,I.base,I.loc,I.cell,I.free,I.freeC,(λp hp=>I.pin p (ci _ hp)),I.hok,I.len⟩
theorem cP.suiteIn(I:cP X cO σ H s):cP (X.inSuite e) cO σ H s:=⟨I.ok.suiteIn,I.os,I.bare,I.base,I.loc,I.cell,I.free,I.freeC,I.pin,I.hok,I.len⟩
theorem cP.suiteOut(k:X.Ok)(I:cP (X.inSuite e) cO σ H s):cP X cO σ H s:=⟨k,I.os,I.bare,I.base,I.loc,I.cell,I.free,I.freeC,I.pin,I.hok,I.len⟩
theorem SP.out(k:X.Ok)(h:SP (X.inSuite e) cO D f s):SP X cO D f s:=by
 cases f with
 |next=>refine We h λZB H' I q=>?_;exact⟨ZB,H',I.suiteOut k,q⟩
 |brk=>refine We h λZB H' I q=>?_;exact⟨ZB,H',I.suiteOut k,q⟩
 |cont=>refine We h λZB H' I q=>?_;exact⟨ZB,H',I.suiteOut k,q⟩
 |ret u=>obtain⟨v,ZB,H',I,q⟩:=h;exact⟨v,ZB,H',I.suiteOut k,q⟩
theorem SP.outT(k:X.Ok)(h:SP (X.inTry (X.pn++cO) xe) [] D f s):SP X cO D f s:=by
 cases f with
 |next=>refine We h λZB H' I q=>?_;exact⟨ZB,H',I.tryOut k,q⟩
 |brk=>refine We h λZB H' I q=>?_;exact⟨ZB,H',I.tryOut k,q⟩
 |cont=>refine We h λZB H' I q=>?_;exact⟨ZB,H',I.tryOut k,q⟩
 |ret u=>obtain⟨v,ZB,H',I,q⟩:=h;exact⟨v,ZB,H',I.tryOut k,q⟩
def Ro(a C:av)(dx:Option av):ed->Prop:=λh=>∃o,h.get? a=aA o/\o.cls= .ref C/\o.dict=dx/\PySem.W.notCls o=aC
theorem cP.track(I:cP X cO σ H s)(a:Air X cO H s e (.ref C) dx T):cP X cO σ (Wu H e (.ext (Ro e C dx))) s:=by
 obtain⟨oe,vs,h1,h2,uW,h3,h5⟩:=a.r.obj;have uL:PySem.W.notCls oe=aC:=by unfold PySem.W.notCls;rw[h3]
 refine⟨I.ok,I.os,I.bare,⟨I.base.keep,I.base.slot,λb o q n hx=>?_,I.base.there,λb xs q=>?_,λb o u q=>?_,λb ps q=>?_⟩,I.loc,I.cell,?_,λx c ec=>?_,λp hp=>?_,λb u q=>?_,I.len⟩
 .rw[Zv (λz=>by rw[z,a.e0]at q;cases q)];exact I.base.free b o q n hx
 .have:=I.base.tups b xs q;rw[Zv (λz=>by rw[z,a.eH]at this;cases this)];exact this
 .have:=I.base.frzs b o u q;rw[Zv (λz=>by rw[z,a.eH]at this;cases this)];exact this
 .obtain⟨m,this⟩:=I.base.tbls b ps q;exact⟨m,by rw[Zv (λz=>by rw[z,a.eH]at this;cases this)];exact this⟩
 .rw[Zv (Ne.symm a.le.1)];exact I.free
 .rw[Zv (a.ce x c ec).1];exact I.freeC x c ec
 .obtain⟨q,n,r⟩:=I.pin p hp;exact⟨q,by rw[Zv (a.pe p hp).1];exact n,r⟩
 .by_cases hb:b=e
  .subst hb;rw[Yp]at q;cases q;exact⟨⟨oe,h1,h2,uW,uL⟩,⟨oe,h1⟩,λg1 g2 ⟨o,z1,z2⟩ k=>⟨o,k o z1,z2⟩⟩
  .rw[Zv hb]at q;exact(I.hok b u q).stay (λc v _ z=>z) (λc z=>by rw[Zv (λy=>by rw[y,a.eH]at z;cases z)];exact z) (λc xs z=>by rw[Zv (λy=>by rw[y,a.eH]at z;cases z)];exact z) λc o z=>by rw[Zv (λy=>by rw[y,a.eH]at z;cases z)];exact z
theorem Fj(I:cP X cO σ H s)(hN:X.N.Nodup)(hi:X.N[i]? =aA n)(hk:X.env.kindOf n=aA .local)(h:∀s',cP X cO (σ.set i aB) H s'->Q () s'):b5 M A (do bindName X.env n .none;unbindBehindTheSuite X.env n pos) Q E s:=by
 obtain⟨m,hn,hl⟩:=id I.loc;have RE:(X.env.scope.kind== .class|| (X.env.scope.kind== .module&&X.env.locals !=X.env.globals))=aD:=by rw[I.ok.kind];rfl
 refine wpAny_nameGoes_keeps hk hn RE λh' u JN hs=>?_;obtain⟨oL,_,_,DW,_⟩:=id hn;have cne:=I.cne;have nl:∀b o,X.s₀.heap.get? b=aA o->b≠X.env.locals:=λb o q=>d8 (c6 (bx q) I.ok.above);refine h _ ⟨I.ok,I.os,I.bare,⟨λb o q n hb hx=>?_,λb o q n hb hx=>?_,I.base.free,λb o q hx=>?_,I.base.tups,I.base.frzs,I.base.tbls⟩,⟨_,JN,λj y v' e1 e2 e3=>?_⟩,λy c ec=>?_,I.free,I.freeC,λp hp=>?_,λb ob q=>?_,by simpa using I.len⟩
 .exact(hs.2 b (nl b o q)).trans (I.base.keep b o q n hb hx)
 .obtain⟨sl,e1⟩:=I.base.slot b o q n hb hx;exact⟨sl,(hs.2 b (nl b o q)).trans e1⟩
 .obtain⟨o',e1⟩:=I.base.there b o q hx;exact⟨o',(hs.2 b (nl b o q)).trans e1⟩
 .by_cases hj:j=i
  .subst hj;have:j<σ.length:=by have:=(bf.mp e2).1;simpa using this
   rw[d3 this]at e2;cases e2
  .rw[du (Ne.symm hj)]at e2;obtain⟨u',r',q⟩:=hl j y v' e1 e2 e3;refine⟨u',r',?_⟩;rcases q with⟨k,z⟩|⟨k,c,z,z'⟩
   .refine .inl ⟨k,?_⟩;have:y≠n:=λz=>hj (Ka hN e1 (z▸hi));simp[this,z]
   .exact .inr ⟨k,c,z,z'.sameBut hs (cne y c z)⟩
 .obtain⟨w',z⟩:=I.cell y c ec;exact⟨w',z.sameBut hs (cne y c ec)⟩
 .obtain⟨q,n,ne,nf,d⟩:=I.pin p hp;exact⟨(hs.2 p.1 ne).trans q,n,ne,nf,d⟩
 .refine(I.hok b ob q).stay (λc w' hc z=>(hs.2 c ?_).trans z) (λ_ z=>z) (λ_ _ z=>z) λ_ _ z=>z;rintro rfl;rcases hc with hc|hc
  .rw[<-hc,I.free]at q;cases q
  .rw[I.free]at hc;cases hc
end
theorem Pg{K}(X:K.In s.heap)(he:Ro e C dx s.heap)(PB:PySem.W.typeIn K (.ref B)=aA (.type "type"))(JU:PySem.W.isClsIn K B=aC)(hB:PySem.W.mroIn K B (.type "BaseException")=aA aC)(hm:PySem.W.mroIn K C (.ref B)=aA b)(h:Q b s):b5 M A (excMatches (.ref e) (.ref B)) Q E s:=by
 obtain⟨hp,g,d,tk,os⟩:=s;refine Zr he λo h1 h2 _=>?_;have lt:PySem.W.Looks M hp (typeOf (.ref B)) (.type "type"):=PySem.W.looks_typeIn X PB;have li:PySem.W.Looks M hp (isType (.ref B)) aC:=by
  unfold PySem.W.isClsIn PySem.W.clsIn at JU;split at JU
  .rename_i ho;intro A' Q' E' s' k q;unfold isType loadHead;exact aw (wpAny_loadPart (k _ _ (X _ _ ho)) (bj q))
  .cases JU
 have lb:=PySem.W.looks_mroIn (M:=M) X hB;have lm:=PySem.W.looks_mroIn (M:=M) X hm;have le:PySem.W.Looks M hp (typeOf (.ref e)) (.ref C):=h2▸(PySem.W.Looks.ld h1).andThen .now;have lx:PySem.W.Looks M hp (isExcClass (.ref B)) aC:=by unfold isExcClass;exact li.andThen lb
 have l0:PySem.W.Looks M hp (isInstance (.ref B) (.type "tuple")) aD:=by unfold isInstance;exact lt.andThen (.of_pure tc_notTuple)
 unfold excMatches;refine aw (l0.at ?_);dsimp only;rw[bI bi];refine aw (bj ?_);refine aw ?_;rw[List.forIn_cons];refine aw (aw (lx.at ?_));rw[bI (by decide)];refine bj ?_;dsimp only;rw[List.forIn_nil];refine bj ?_;refine aw (le.at ?_);refine aw ?_;rw[List.forIn_cons];refine aw (aw (lm.at ?_));cases b with
 |true=>rw[bJ rfl];exact bj (bj (bj h))
 |false=>rw[bI bi];refine bj ?_;dsimp only;rw[List.forIn_nil];exact bj (bj h)
set_option genInjectivity false in
structure Hd where
 x:Str
 np:Pos
 nm:Option (Str×Nat)
 b0:Stmt
 suite:List Stmt
 pos:Pos
 B:av
 t:TS
noncomputable def Hd.ast(h:Hd):ExceptHandler:=.ExceptHandler (aA (.Name h.x h.np)) (h.nm.map (·.1)) (h.b0::h.suite) h.pos
noncomputable def Ends.but(D:Ends)(i:Nat):Ends:={nx:=λσ H=>D.nx (σ.set i aB) H,bk:=λσ H=>D.bk (σ.set i aB) H,ct:=λσ H=>D.ct (σ.set i aB) H,rt:=D.rt}
def Hd.run(h:Hd)(C:av)(dx:Option av)(D:Ends)(σ:St)(H:Hp):Prop:=match h.nm with
 |none=>h.t D σ H
 |some (_,i)=>∀a,H a=aB->h.t (D.but i) (σ.set i (aA (.ref a))) (Wu H a (.ext (Ro a C dx)))
noncomputable def Ph(K:aj)(C:av):List Hd->Option Hd
 | []=>aB
 |h::r=>match PySem.W.mroIn K C (.ref h.B)with
  |some aC=>aA h
  |some aD=>Ph K C r
  |none=>aB
set_option genInjectivity false in
structure Hd.Ok(X:Cx)(h:Hd):Prop where
 gl:Gl X h.x
 mg:X.mg h.x=aA (.ref h.B)
 ty:PySem.W.typeIn X.K (.ref h.B)=aA (.type "type")
 cl:PySem.W.isClsIn X.K h.B=aC
 bs:PySem.W.mroIn X.K h.B (.type "BaseException")=aA aC
 db:(h.x==("__debug__":Str))=aD
 nm:∀n i,h.nm=aA (n,i)->X.N.Nodup/\X.N[i]? =aA n/\Loc X.env.scope n/\X.env.kindOf n=aA .local/\X.env.scope.names.lookup n=aA .local
 su:∀a,Mh (X.inSuite a) (h.b0::h.suite) h.t
theorem Air.at'(a:Air X cO H s e (.ref C) dx T):Ro e C dx s.heap:=by obtain⟨oe,vs,h1,h2,h3,h4,_⟩:=a.r.obj;exact⟨oe,h1,h2,h3,by unfold PySem.W.notCls;rw[h4]⟩
theorem Pj{σ:St}(ZZ:X.ex=[])(YB:X.stack=X.env::X.outer)(XB:X.env.frame=aA X.env.locals)(I:cP X cO σ H s)(a:Air X cO H s e (.ref C) dx T)(q:h.run C dx D σ H):
  ∀{hs:List Hd},(∀h∈hs,h.Ok X)->Ph X.K C hs=aA h->b5 (cv X.prog X.w) X.A (handleBy (.ref e) X.env (hs.map Hd.ast)) (SP X cO D) X.xe s
 | [],_,p=>nomatch p
 |g::r,ok,p=>by
  have kg:=ok g aa;show b5 _ _ (handleBy (.ref e) X.env (.ExceptHandler (aA (.Name g.x g.np)) (g.nm.map (·.1)) (g.b0::g.suite) g.pos::r.map Hd.ast)) _ _ s;have Is:cP (X.inSuite e) cO σ H s:=I.suiteIn;refine wpAny_handleBy_cons (codeAny_handlers_test (Ad (X:=X.inSuite e) Is kg.gl kg.mg ?_ kg.db)) (by intro z;cases z);unfold Ph at p;split at p
  .rename_i hm;cases p;refine Pg I.kIn a.at' kg.ty kg.cl kg.bs hm ?_;show codeAny _ _ _ _ s;unfold Hd.run at q;split at q
   .rename_i hn;rw[hn];refine codeAny_handlers_suite ?_;refine(B8 (M:=cv X.prog X.w) (A:=X.A.mark (aA (.ref e))) I a ZZ I.ok.frames YB XB λh' T' I' a'=>?_).2;refine eh (kg.su e cO _ σ H D I'.suiteIn q) (λf s2 z=>?_) λ_ _ z=>z.elim;exact SP.out I.ok z
   .rename_i n i hn;rw[hn];obtain⟨n1,n2,n3,n4,n5⟩:=kg.nm n i hn;refine codeAny_handlers_suite_as ?_;refine(B8 (M:=cv X.prog X.w) (A:=X.A.mark (aA (.ref e))) I a ZZ I.ok.frames YB XB λh' T' I' a'=>?_).2;refine Ac (X:=X.inSuite e) (v:=.ref e) (i:=i) (I'.track a').suiteIn n1 n2 n3 rfl (λs2 I2=>?_) (.inr n5);refine eh (kg.su e cO _ _ _ (D.but i) I2 (q e a.eH)) (λf s3 z=>?_) λ_ _ z=>z.elim;show b5 _ X.A _ _ _ s3;cases f with
    |next=>refine We z λZB H' I3 z=>?_;exact Fj (I3.suiteOut I.ok) n1 n2 n4 λs4 I4=>⟨_,H',I4,z⟩
    |brk=>refine We z λZB H' I3 z=>?_;exact Fj (I3.suiteOut I.ok) n1 n2 n4 λs4 I4=>⟨_,H',I4,z⟩
    |cont=>refine We z λZB H' I3 z=>?_;exact Fj (I3.suiteOut I.ok) n1 n2 n4 λs4 I4=>⟨_,H',I4,z⟩
    |ret u=>obtain⟨v,ZB,H',I3,z⟩:=z;exact Fj (I3.suiteOut I.ok) n1 n2 n4 λs4 I4=>⟨v,_,H',I4,z⟩
  .rename_i hm;refine Pg I.kIn a.at' kg.ty kg.cl kg.bs hm ?_;exact Pj ZZ YB XB I a q (λh hh=>ok h (ad _ hh)) p
  .cases p
def CL(K:aj)(tb:Km->TS)(hs:List Hd):TS:=λD σ H=>tb (λcls dx ZB H'=>∃C h,cls= .ref C/\Ph K C hs=aA h/\h.run C dx D ZB H') D σ H
theorem qY(hb:∀pn xe EX,U4 (X.inTry pn xe) EX->Mh (X.inTry pn xe) body (tb EX))(ok:∀h∈h0::hs,h.Ok X)(ZZ:X.ex=[])(YB:X.stack=X.env::X.outer)(XB:X.env.frame=aA X.env.locals):PS X (.Try body ((h0::hs).map Hd.ast) [] [] pos) (CL X.K tb (h0::hs)):=by
 intro cO s σ H D I h;refine wpAny_Try_except (h₀:=h0.ast) (hs:=hs.map Hd.ast) ?_;refine eh (hb (X.pn++cO) _ _ ?_ [] s σ H D I.tryIn h) (λf s1 z=>?_) λ_ _ z=>z
 .intro pins' ZB H' s' e cls dx T I' r e0 eH t0 tH pe le ce ⟨C,g,ec,hp,q⟩;subst ec;have I2:cP X cO ZB H' s':=I'.tryOut I.ok;have a:Air X cO H' s' e (.ref C) dx T:=⟨r,e0,eH,t0,tH,λp hp=>pe p (ci _ hp),le,ce⟩
  exact(B8 (M:=cv X.prog X.w) (A:=X.A) I2 a ZZ I.ok.frames YB XB λh' T' I3 a3=>Pj ZZ YB XB I3 a3 q ok hp).1
 .have z':=SP.outT I.ok z;cases f with
  |next=>exact PySem.wpAny_execs_nil z'
  |brk=>exact z'
  |cont=>exact z'
  |ret u=>exact z'
theorem jf(h:env'.frame=env.frame):noteFrame e env'=noteFrame e env:=by unfold noteFrame PySem.frameOf;rw[h]
theorem qX{σ:St}{EX:Km}(ZZ:X.ex=[])(I:cP X cO σ H s)(h:Hc X.prog X.w X.stack H s (λcls od H'=>EX cls od σ H') e s'):
  ∃(a:av) (cls:aq) (dx:Option av) (T:av) (H':Hp),e= .ref a/\cP X cO σ H' s'/\Air X cO H' s' a cls dx T/\EX cls dx σ H'/\s'.os=s.os/\AllBare s'.gens/\Un (Re X.stack) [] H H' s.heap s'.heap/\Rf X.prog X.w H' s'.heap/\s.heap.get? a=aB/\s.heap.get? T=aB:=by
 obtain⟨a,cls,dx,T,H',he,os,bare,un,hok,r,n1,n2,n3,n4,q⟩:=h;have I':cP X cO σ H' s':=I.call' (ch:=[]) os un hok bare (λb hb=>nomatch hb);have old:∀b,s.heap.get? b=aB->X.s₀.heap.get? b=aB:=λb hb=>by
  cases z:X.s₀.heap.get? b with
  |none=>rfl
  |some o=>obtain⟨o',z'⟩:=I.base.there b o z (by rw[ZZ];simp);rw[hb]at z';cases z'
 have pin:∀b,s.heap.get? b=aB->∀p∈X.pn++cO,p.1≠b:=λb hb p hp z=>by have:=(I.pin p hp).1;rw[z,hb]at this;cases this
 have loc:∀b,s.heap.get? b=aB->b≠X.env.locals:=λb hb z=>by obtain⟨m,⟨o,es,ep,ho,_⟩,_⟩:=id I.loc;rw[z,ho]at hb;cases hb
 have OE:∀b,s.heap.get? b=aB->∀x c,X.env.cells.lookup x=aA c->c≠b:=λb hb x c hc z=>by refine We (I.cell x c hc) λv o ho _=>?_;rw[z,hb]at ho;cases ho
 exact⟨a,cls,dx,T,H',he,I',⟨r,old a n1,n3,old T n2,n4,λp hp=>⟨pin a n1 p hp,pin T n2 p hp⟩,⟨loc a n1,loc T n2⟩,λx c hc=>⟨OE a n1 x c hc,OE T n2 x c hc⟩⟩,q,os,bare,un,hok,n1,n2⟩
theorem iU(I:Nat->ax->Prop)(turn:∀n s,I n s->b5 (cv prog w) A (pyNext it) (λr s₁=>match r with
   |none=>R (.ok .next) s₁
   |some v=>b5 (cv prog w) A (letOwnedTupleGo ZV it v) (λ_ s₀=>b5 (cv prog w) A (assign ZV env v) (λ_ s₂=>
     b5 (cv prog w) A (forIn Z' aC λc r=>if r=aC then do let ok<-isTrue c env (dj c env);pure (ForInStep.yield ok)else pure (ForInStep.yield r)) (λok s₃=>if ok=aC then b5 (cv prog w) A (dj elt env) (λx XJ=>
      b5 (cv prog w) A (call (.builtin "list.append") [acc,x]) (λ_ VR=>∃m,m<n/\I m VR) (λ_ _=>False) XJ) (notedBy (cv prog w) A env λx s'=>R (.error x) s') s₃
      else∃m,m<n/\I m s₃) (λ_ _=>False) s₂)
     (λ_ _=>False) s₀) (λ_ _=>False) s₁) (λ_ _=>False) s)(n)(h:I n s):codeAny (cv prog w) A (.compLoop (.ListComp elt [⟨ZV,ZG,Z',0⟩] scope pos) 0 it acc env) R s:=by
 refine codeAny_loop rfl I (λn s hI=>?_) n h;show b5 _ A ((compTurn (.ListComp elt [⟨ZV,ZG,Z',0⟩] scope pos) 0 it acc env).onRaise (λx=>do noteFrame x env;theTreesLotGoes x)) _ _ s;refine wpAny_noted ?_;rw[compTurn_list];refine aw (wpAny_standAt (aw (eh (turn n s hI) (λr s₁ h₁=>?_) λ_ _ f=>f.elim)));cases r with
 |none=>exact bj h₁
 |some v=>
  refine aw (eh h₁ (λ_ s₀ VY=>?_) λ_ _ f=>f.elim);refine aw (eh VY (λ_ s₂ WB=>?_) λ_ _ f=>f.elim);refine aw (eh WB (λKN s₃ WA=>?_) λ_ _ f=>f.elim);cases KN with
  |false=>exact bj ⟨rfl,WA⟩
  |true=>exact aw (aw (eh WA (λx XJ SU=>aw (eh SU (λ_ VR SQ=>bj (bj ⟨rfl,SQ⟩)) λ_ _ f=>f.elim)) λ_ _ f=>f))
abbrev Cx.blockX(X:Cx)(N':List Str)(scope:Scope)(C:av)(s₀:ax)(H₀:Hp)(ex:List av)(xe:aq->ax->Prop):Cx:=
 {X with N:=N',env:=compEnvC scope (Ge X.env.cells scope.names []) C X.env,s₀:=s₀,H₀:=H₀,outer:=X.stack,stack:=X.stack,ex:=ex,fn:=λ_=>aD,pn:=[],xe:=xe}
section
variable{X:Cx}{N':List Str}{scope:Scope}{src:List BSrc}{cO:List (av×Obj)}{σ:St}{H:Hp}{s:ax}{C acc:av}{fp:List av}
theorem cP.blockX{τ:St}(I:cP (X.block N' scope C s₀ H₀ ex) ps τ G u):cP (X.blockX N' scope C s₀ H₀ ex xe) ps τ G u:=by have k:=I.ok;exact⟨⟨k.mod,k.kind,k.glob,k.blt,k.above,k.inj,k.has,k.cab,k.hd,k.frames,k.stk,k.exf,k.bs,k.bsz,k.noex,k.exfs,k.funs,k.frf⟩,I.os,I.bare,I.base,I.loc,I.cell,I.free,I.freeC,I.pin,I.hok,I.len⟩
theorem cP.unblockX{τ:St}(I:cP (X.blockX N' scope C s₀ H₀ ex xe) ps τ G u):cP (X.block N' scope C s₀ H₀ ex) ps τ G u:=by have k:=I.ok;exact⟨⟨k.mod,k.kind,k.glob,k.blt,k.above,k.inj,k.has,k.cab,k.hd,k.frames,k.stk,k.exf,k.bs,k.bsz,k.noex,k.exfs,k.funs,k.frf⟩,I.os,I.bare,I.base,I.loc,I.cell,I.free,I.freeC,I.pin,I.hok,I.len⟩
theorem Ht{te:Km->TE}{EX:Km}{Q:VK}{RR:aq->av->Result->ax->Prop}(hc:X.calm=aC)(ZZ:X.ex=[])(YB:X.stack=X.env::X.outer)(XB:X.env.frame=aA X.env.locals)(S:CompScope X N' scope src)(hg:∀C s₀ H₀ ex,PG (X.block N' scope C s₀ H₀ ex) tg g)(ht:∀C s₀ H₀ ex,PTs (X.block N' scope C s₀ H₀ ex) Z' tt)(he:∀C s₀ H₀ ex xe EX,Ak (X.blockX N' scope C s₀ H₀ ex xe) EX->PE (X.blockX N' scope C s₀ H₀ ex xe) elt (te EX))(I:cP X cO σ H s)(T:Turn X.prog X.w X.K tg J fp it tn)(st:tn 0 s.heap)(hf:∀b∈fp,Tl X cO H b)(q:∀acc,H acc=aB->∃W:Nat->Nat->St->Hp->Prop,(∃m,W 0 m (Pe src σ acc) (Wu H acc (.lst [])))/\∀i m ZB H,W i m ZB H->(J.stop i H/\Q (.ref acc) H)\/
   (J.go i H/\∀x H',J.yld i H x H'->g x ZB H' λYU H2=>tt YU H2 λb H3=>if b=aC then te (λcls od _ H'=>EX cls od σ H') YU H3 λy H4=>Ou (.ref acc) [y] H4 λ_ H5=>∃m',m'<m/\W (i+1) m' YU H5 else∃m',m'<m/\W (i+1) m' YU H3))(JZ:∀acc C s' H' m,cP X cO σ H' s'->Q (.ref acc) H'->s'.heap.Ns C m->H' C=aB->C≠X.env.locals->X.s₀.heap.objs.size<=C->(∀x c,X.env.cells.lookup x=aA c->c≠C)->(∀p∈X.pn++cO,p.1≠C)->
   RR (.ref acc) C (.ok .next) s')(ue:∀acc C s' H' m a cls dx T,cP X cO σ H' s'->Air X cO H' s' a cls dx T->EX cls dx σ H'->s'.heap.Ns C m->H' C=aB->C≠X.env.locals->X.s₀.heap.objs.size<=C->(∀x c,X.env.cells.lookup x=aA c->c≠C)->(∀p∈X.pn++cO,p.1≠C)->C≠a->C≠T->
   RR (.ref acc) C (.error (.ref a)) s'):
  b5 (cv X.prog X.w) X.A (newList []) (λacc s₃=>b5 (cv X.prog X.w) X.A (newFunctionEnv scope X.env.globals (Ge X.env.cells scope.names []) [] X.env.qual aB .none (aA X.env)) (λVN XJ=>
   codeAny (cv X.prog X.w) X.A (.compStart (.ListComp elt [⟨tg,ZG,Z',0⟩] scope pos) 0 (.ref it) acc {VN with scope:=relabel scope X.env}) (RR acc VN.locals) XJ) E s₃) E s:=by
 have S_:∀b∈fp,∃o,s.heap.get? b=aA o:=λb hb=>let⟨o,e,_⟩:=T.obj 0 _ st b hb;⟨o,e⟩
 refine wpAny_newObj_type (wpAny_newFunctionEnv S.nocell (by intro y hy;simp at hy) (λh₁ YI YH=>?_) S.kind);dsimp only at YI YH⊢;have YW:H s.heap.objs.size=aB:=I.hok.fresh (bg _);have I3:cP X cO σ (Wu H s.heap.objs.size (.lst [])) {s with heap:=s.heap.push {cls:=.type "list",dict:=aB,data:=.seq ([]:List aq).toArray}}:=I.lnew (t':=s.toks) (cS:=[]) (ys:=[]) .nil (cr _);have UL:∀b∈fp,Tl X cO (Wu H s.heap.objs.size (.lst [])) b:=λb hb=>by obtain⟨f0,f⟩:=hf b hb;obtain⟨o,ho⟩:=S_ b hb;exact⟨by rw[Zv (d8 (bx ho))];exact f0,f⟩
 have UC:∀b∈fp,∃o,(s.heap.push {cls:=.type "list",dict:=aB,data:=.seq ([]:List aq).toArray}).get? b=aA o:=λb hb=>let⟨o,e⟩:=S_ b hb;⟨o,bh _ e⟩
 obtain⟨W,⟨m0,w0⟩,turn⟩:=q _ YW;generalize hH2:s.heap.push {cls:=.type "list",dict:=aB,data:=.seq ([]:List aq).toArray}=H2 at YI YH I3 UC⊢;have keep:∀b o,H2.get? b=aA o->h₁.get? b=aA o:=λb o e=>YH.extBut b o (d8 (bx e)) (bh _ e);have J0:=Io (N':=N') (scope:=scope) (src:=src) (acc:=s.heap.objs.size) (tk:=s.toks+([]:List (Str×aq)).length) (C:=H2.objs.size) S I3 rfl UL UC (show h₁.Ns H2.objs.size (λ_=>aB)from YI) keep;have QQ:tn 0 h₁:=T.keep 0 s.heap h₁ st λb hb o e=>keep b o (by rw[<-hH2];exact bh _ e);have cne:H2.objs.size≠X.env.locals:=Nat.ne_of_gt I3.lt;have NW:X.s₀.heap.objs.size<=H2.objs.size:=I3.sz;have WW:∀x c,X.env.cells.lookup x=aA c->c≠H2.objs.size:=λx c e z=>by refine We (I3.cell x c e) λv oc UK _=>?_;exact bN (bx UK) (by rw[z];exact fj _)
 have UY:∀p∈X.pn++cO,p.1≠H2.objs.size:=λp hp z=>bN (bx (I3.pin p hp).1) (by rw[z];exact fj _);have VI:∀s₃:ax,s₃={s with heap:=h₁,toks:=s.toks+([]:List (Str×aq)).length}->
   codeAny (cv X.prog X.w) X.A (.compLoop (.ListComp elt [⟨tg,ZG,Z',0⟩] scope pos) 0 (.ref it) (.ref s.heap.objs.size) (compEnvC scope (Ge X.env.cells scope.names []) H2.objs.size X.env)) (RR (.ref s.heap.objs.size) H2.objs.size) s₃:=by
  rintro s₃ rfl;refine iU (λn s'=>∃i ZB H',cP (X.block N' scope H2.objs.size {s with heap:=H2} (Wu H s.heap.objs.size (.lst [])) fp) [] ZB H' s'/\tn i s'.heap/\(∀b∈fp,H' b=aB)/\W i n ZB H') ?_ m0 ⟨0,_,_,J0,QQ,λb hb=>(UL b hb).1,w0⟩;rintro n s4 ⟨i,WN,H4,J4,st4,fr4,w4⟩;have RG:∀{H':Hp},(∀b∈fp,H' b=aB)->∀b∈fp,Tl (X.block N' scope H2.objs.size {s with heap:=H2} (Wu H s.heap.objs.size (.lst [])) fp) [] H' b:=fun{H'} hn b hb=>by
   refine Qx (UL b hb) λf0 f1 f2 f3 f4 f5=>?_;refine⟨hn b hb,?_,λz=>J4.ok.exfs b hb z,.inl hb,λx c e=>(J4.ok.exf b hb).2 x c e,λp hp=>?_⟩
   .exact(J4.ok.exf b hb).1
   .have VZ:p∈([]:List (av×Obj)):=by simpa using hp
    exact nomatch VZ
  rcases turn i n WN H4 w4 with⟨stop,qn⟩|⟨go,step⟩
  .refine W7 (T.done (X.block N' scope H2.objs.size {s with heap:=H2} (Wu H s.heap.objs.size (.lst [])) fp) rfl rfl rfl hc i [] s4 WN H4 _ J4 (RG fr4) st4 stop) λr s5 ⟨hr,J5⟩=>?_;subst hr;obtain⟨m5,JL,_⟩:=J5.loc;have I5:cP X cO σ H4 s5:=I3.call' (ch:=fp) J5.os J5.base J5.hok J5.bare λb hb=>by refine Qx (UL b hb) λf0 f1 f2 f3 f4 f5=>?_;exact⟨f3,f1,f4,f5⟩
   exact JZ _ _ s5 H4 m5 I5 qn JL J5.free cne NW WW UY
  .refine W7 (T.item (X.block N' scope H2.objs.size {s with heap:=H2} (Wu H s.heap.objs.size (.lst [])) fp) rfl rfl rfl hc i [] s4 WN H4 _ J4 (RG fr4) st4 go) λr s5 ⟨u,hr,h5⟩=>?_;subst hr;refine W7 h5 λ_ s6 ZJ=>?_;obtain⟨x,H6,J6,r6,y6,SI,IB⟩:=ZJ;have J6':=J6.pinned (RG IB) (T.obj _ _ SI);have again:∀{YJ:St} {H7:Hp} {s7:ax},cP (X.block N' scope H2.objs.size {s with heap:=H2} (Wu H s.heap.objs.size (.lst [])) fp) ([]++Eu fp s6.heap) YJ H7 s7->(∃m',m'<n/\W (i+1) m' YJ H7)->
     ∃m,m<n/\∃i ZB H',cP (X.block N' scope H2.objs.size {s with heap:=H2} (Wu H s.heap.objs.size (.lst [])) fp) [] ZB H' s7/\tn i s7.heap/\(∀b∈fp,H' b=aB)/\W i m ZB H':=fun{YJ H7 s7} J7 ⟨m',hm,w7⟩=>by
    refine⟨m',hm,i+1,YJ,H7,J7.unpinned,T.keep _ _ _ SI λb hb o e=>(J7.pin (b,o) (bp _ (bp _ (Uv hb e)))).1,λb hb=>?_,w7⟩;obtain⟨o,e,d⟩:=T.obj _ _ SI b hb;exact(J7.pin (b,o) (bp _ (bp _ (Uv hb e)))).2.1
   refine W7 (hg _ _ _ _ _ s6 WN H6 x u _ J6' r6 (step x H6 y6)) λ_ s7 ZJ=>?_;obtain⟨YJ,H7,J7,q7⟩:=ZJ;refine W7 (ht _ _ _ _ _ s7 YJ H7 _ J7 q7) λb s8 ZJ=>?_;obtain⟨H8,J8,q8⟩:=ZJ;cases b with
   |false=>rw[bI bi]at q8⊢;exact again J8 q8
   |true=>
    rw[bJ rfl]at q8⊢;refine W7 (he _ _ _ _ (λe s'=>notedBy (cv X.prog X.w) X.A (compEnvC scope (Ge X.env.cells scope.names []) H2.objs.size X.env) (λx s'=>RR (.ref s.heap.objs.size) H2.objs.size (.error x) s') e s') (λcls od _ H'=>EX cls od σ H') ?_ _ s8 YJ H8 _ J8.blockX q8) λy s9 ⟨vy,H9,J9',r9,q9⟩=>?_
    .intro ps τ G u e u' K0 hx;have up:∀{ps:List (av×Obj)} {τ:St} {G:Hp} {u:ax},cP (X.blockX N' scope H2.objs.size {s with heap:=H2} (Wu H s.heap.objs.size (.lst [])) fp (λe s'=>notedBy (cv X.prog X.w) X.A (compEnvC scope (Ge X.env.cells scope.names []) H2.objs.size X.env) (λx s'=>RR (.ref s.heap.objs.size) H2.objs.size (.error x) s') e s')) ps τ G u->cP X cO σ G u:=fun{ps τ G u} K=>I3.call' (ch:=fp) K.os K.base K.hok K.bare λb hb=>by refine Qx (UL b hb) λf0 f1 f2 f3 f4 f5=>?_;exact⟨f3,f1,f4,f5⟩
     obtain⟨a,cls,dx,T',G',ee,I',ar,qx,vo,OG,ve,JI,na,nT⟩:=qX (X:=X) (EX:=EX) ZZ (up K0) hx;have Kb:=K0.call' (ch:=[]) vo ve JI OG (λb hb=>nomatch hb);subst ee;obtain⟨m0,⟨o0,_,_,q0,_⟩,_⟩:=K0.loc;obtain⟨mC,⟨oC,esC,epC,qC,rC⟩,_⟩:=Kb.loc;have NF:u.heap.get? H2.objs.size=aA o0:=q0;have EZ:u'.heap.get? H2.objs.size=aA oC:=qC;have DH:H2.objs.size≠a:=λz=>by rw[z,na]at NF;cases NF
     have DI:H2.objs.size≠T':=λz=>by rw[z,nT]at NF;cases NF
     have v0:H2.objs.size∉Re X.stack:=λz=>by
      rcases ba.mp (I3.stkSub _ z)with y|y
      .exact cne y
      .exact I3.nofs (bg _) y
     show b5 (cv X.prog X.w) X.A (noteFrame (.ref a) (compEnvC scope (Ge X.env.cells scope.names []) H2.objs.size X.env)) _ _ u';rw[jf (env:=X.env) (env':=compEnvC scope (Ge X.env.cells scope.names []) H2.objs.size X.env) rfl];refine Kj (base:=X.base) (by rw[I3.ok.frames,YB]) (by rw[<-YB];exact I'.stack) XB ar.r λh1 T1 n1=>?_;rw[<-YB]at n1;obtain⟨I1,a1⟩:=I'.noted ar ZZ n1;have vx:H2.objs.size≠T1:=λz=>by
      rcases n1.new with y|y
      .rw[<-z,EZ]at y;cases y
      .cases y;exact DI z
     exact ue _ _ _ G' mC a cls dx T1 I1 a1 qx ⟨oC,esC,epC,n1.keep _ oC DH (λz=>DI (af.mp z)) v0 EZ,rC⟩ Kb.free cne NW WW UY DH vx
    have J9:=J9'.unblockX;refine W7 (O3 _ s9 YJ H9 (.ref s.heap.objs.size) [vy] (.ref s.heap.objs.size) [y] _ J9 rfl (.cons r9 .nil) q9) λ_ UN ⟨_,H10,J10,_,q10⟩=>again J10 q10
 exact codeAny_compStart_list (VI _ rfl) (T.self X.A 0 _ _ _ QQ (VI _ rfl))
def yQ(src:List BSrc)(wi:TI)(g:TG)(tt:TT)(te:Km->TE)(EX:Km):TE:=λσ H Q=>wi σ H λJ H1=>∀acc,H1 acc=aB->
 ∃W:Nat->Nat->St->Hp->Prop,(∃m,W 0 m (Pe src σ acc) (Wu H1 acc (.lst [])))/\∀i m ZB H,W i m ZB H->(J.stop i H/\Q (.ref acc) H)\/
  (J.go i H/\∀x H',J.yld i H x H'->g x ZB H' λYU H2=>tt YU H2 λb H3=>if b=aC then te (λcls od _ H'=>EX cls od σ H') YU H3 λy H4=>Ou (.ref acc) [y] H4 λ_ H5=>∃m',m'<m/\W (i+1) m' YU H5 else∃m',m'<m/\W (i+1) m' YU H3)
theorem l9(hc:X.calm=aC)(ZZ:X.ex=[])(YB:X.stack=X.env::X.outer)(XB:X.env.frame=aA X.env.locals)(th:U4 X EX)(S:CompScope X N' scope src)(hi:PI X tg ZG wi)(hg:∀C s₀ H₀ ex,PG (X.block N' scope C s₀ H₀ ex) tg g)(ht:∀C s₀ H₀ ex,PTs (X.block N' scope C s₀ H₀ ex) Z' tt)(he:∀C s₀ H₀ ex xe EX,Ak (X.blockX N' scope C s₀ H₀ ex xe) EX->PE (X.blockX N' scope C s₀ H₀ ex xe) elt (te EX))(hs:‹∀x,foldedSetIterable ZG X.env x=pure x›):PE X (.ListComp elt [⟨tg,ZG,Z',0⟩] scope pos) (yQ src wi g tt te EX):=by
 intro cO s σ H Q I h;rw[eval_ListComp];refine wpAny_comprehension_free (use:=aB) rfl hs (B7 λy hy e=>I.ok.has y.1 (S.free y hy e)) S.kind S.names (W7 (hi cO s σ H _ I h) λv s1 h1=>W7 h1 λQ_ s2 h2=>?_);obtain⟨it,fp,tn,J,H2,e,I2,T,SJ,f2,q⟩:=h2;subst e;refine Ht hc ZZ YB XB S hg ht he I2 T SJ f2 q (λacc C s' H' m I' q' hn hC c1 c2 c3 c4=>⟨m,hn,λh' UR=>?_⟩) λacc C s' H' m a cls dx T' I' ar qx hn hC c1 c2 c3 c4 n1 n2=>⟨m,hn,λh' UR VN eW=>?_⟩
 .exact⟨.ref acc,H',I'.turned (t':=s'.toks) (λb o hb e=>(UR.2 b hb).trans e) hC c1 (.inr c2) c3 c4,rfl,q'⟩
 .have I3:cP X cO σ H' {s' with heap:=h'}:=I'.turned (t':=s'.toks) (λb o hb e=>(UR.2 b hb).trans e) hC c1 (.inr c2) c3 c4;have r3:Raised h' a cls dx (aA T'):=by refine We ar.r.obj λoe vs k1 k2=>?_;refine⟨⟨oe,vs,(UR.2 a (Ne.symm n1)).trans k1,k2⟩,λT2 z=>?_⟩;cases z;obtain⟨k3,oT,ts,fl,k4,k5⟩:=ar.r.tr T' rfl;exact⟨k3,oT,ts,fl,(UR.2 T' (Ne.symm n2)).trans k4,k5⟩
  have a3:Air X cO H' {s' with heap:=h'} a cls dx T':=⟨r3,ar.e0,ar.eH,ar.t0,ar.tH,ar.pe,ar.le,ar.ce⟩
  obtain⟨oe,vs,k1,k2,kd,k3,k5⟩:=r3.obj;have NK:∀b o ws,h'.get? b=aA o->o.data= .fields ws->b∉Re X.stack:=λb o ws q qd hm=>by obtain⟨_,o',q1,q2⟩:=I3.stack.mem hm;have E_:h'.get? b=aA o':=q1;rw[q]at E_;cases E_;exact q2 ws qd
  unfold PySem.passOn;refine aw (wpAny_field (s:={s' with heap:=h'}) k1 k3 k5 ?_);rw[bI (by simp)];refine aw (Gg (s:={s' with heap:=h'}) r3 NK λh2 n2=>?_);obtain⟨I4,a4⟩:=I3.noted a3 ZZ n2;exact wpAny_throw (th cO σ H' _ a cls dx T' I4 a4.r a4.e0 a4.eH a4.t0 a4.tH a4.pe a4.le a4.ce qx)
end
section
variable{K:aj}
inductive D where
 |non|bl (b:Bool)|int (i:Int)|str (x:Str)
 |tup (xs:List D)|lst (xs:List D)
 |dK (ks:List Key) (vs:List D)|dT (ks:List (List Key)) (vs:List D)
 |exc (c:Str) (ks:List Str) (vs:List D)
def Br(K:aj)(c:Str)(C:av):Prop:=d7 K c8 c=aA (aA (.ref C))
def KB(F:Hp)(kvs:List (List Key×V))(bs:List av):Prop:=Paired (λ(p:List Key×V) (b:av)=>F b=aA (.tup (p.1.map kV))) kvs bs
mutual
inductive cX(K:aj)(F:Hp):D->V->Prop where
 |non:cX K F .non .non
 |bl (b:Bool):cX K F (.bl b) (.bl b)
 |int (i:Int):cX K F (.int i) (.int i)
 |str (x:Str):cX K F (.str x) (.str x)
 |tup {a:av} {xs:List D} {vs:List V} (h:F a=aA (.tup vs)) (r:cQ K F xs vs):cX K F (.tup xs) (.ref a)
 |lst {a:av} {xs:List D} {vs:List V} (h:On K F a vs) (o:F a=aA (.lst vs)\/∀d∈xs,∃i,d= .int i) (r:cQ K F xs vs):cX K F (.lst xs) (.ref a)
 |dK {a:av} {ks:List Key} {ds:List D} {kvs:List (Key×V)} {ep:Nat} (h:F a=aA (.dK kvs ep)) (e:kvs.map (·.1)=ks) (r:cQ K F ds (kvs.map (·.2))):cX K F (.dK ks ds) (.ref a)
 |dT {a:av} {ks:List (List Key)} {ds:List D} {kvs:List (List Key×V)} {ep:Nat} {bs:List av} (h:F a=aA (.dT kvs ep bs)) (kb:KB F kvs bs) (e:kvs.map (·.1)=ks) (r:cQ K F ds (kvs.map (·.2))):cX K F (.dT ks ds) (.ref a)
 |exc {a C:av} {c:Str} (cl:Br K c C) (h:F a=aA (.ext (Ro a C aB))):cX K F (.exc c [] []) (.ref a)
 |exd {a C dx:av} {c:Str} {ks:List Str} {ds:List D} {fs:List (Str×V)} (cl:Br K c C) (h:F a=aA (.ext (Ro a C (aA dx)))) (hx:F dx=aA (.xd fs)) (e:fs.map (·.1)=ks) (r:cQ K F ds (fs.map (·.2))):cX K F (.exc c ks ds) (.ref a)
inductive cQ(K:aj)(F:Hp):List D->List V->Prop where
 |nil:cQ K F [] []
 |cons {d:D} {v:V} {ds:List D} {vs:List V} (h:cX K F d v) (t:cQ K F ds vs):cQ K F (d::ds) (v::vs)
end
theorem KB.mono(s:Zo F F')(h:KB F kvs bs):KB F' kvs bs:=Paired.mapP h λ_ _ z=>s _ _ z
theorem yP(s:Zo F F')(h:Rd F a u):Rd F' a u:=by
 rcases h with h|⟨o,h⟩
 .exact .inl (s _ _ h)
 .exact .inr ⟨o,s _ _ h⟩
theorem Qq(s:Zo F F')(h:On K F a xs):On K F' a xs:=by
 rcases h with h|h
 .exact .inl (yP s h)
 .exact .inr h
theorem Od(s:Zo F F')(h:Er K F a xs):Er K F' a xs:=by
 rcases h with h|h
 .exact .inl (yP s h)
 .exact .inr h
theorem Ip(h:F a=aA (.tup vs)):Er K F a vs:=.inl (.inl h)
theorem cX.mono(s:Zo F F')(h:cX K F d v):cX K F' d v:=
 cX.rec (motive_1:=λd v _=>cX K F' d v) (motive_2:=λds vs _=>cQ K F' ds vs) .non .bl .int .str (λh _ r=>.tup (s _ _ h) r) (λh o _ r=>.lst (Qq s h) (o.imp (λz=>s _ _ z) id) r) (λh e _ r=>.dK (s _ _ h) e r) (λh kb e _ r=>.dT (s _ _ h) (kb.mono s) e r) (λcl h=>.exc cl (s _ _ h)) (λcl h hx e _ r=>.exd cl (s _ _ h) (s _ _ hx) e r) .nil (λ_ _ h t=>.cons h t) h
theorem cQ.mono(s:Zo F F')(h:cQ K F ds vs):cQ K F' ds vs:=by
 induction ds generalizing vs with
 |nil=>cases h;exact .nil
 |cons d ds ih=>
  cases h with
  |cons a t=>exact .cons (cX.mono s a) (ih t)
theorem cQ.length:∀{vs:List V},cQ K F ds vs->ds.length=vs.length:=by
 induction ds with
 |nil=>intro vs h;cases h;rfl
 |cons d ds ih=>
  intro vs h;cases h with
  |cons _ t=>rw[bc,bc,ih t]
theorem cQ.append(h:cQ K F ds vs)(q:cQ K F es us):cQ K F (ds++es) (vs++us):=by
 induction ds generalizing vs with
 |nil=>cases h;exact q
 |cons d ds ih=>
  cases h with
  |cons h t=>exact .cons h (ih t)
theorem cQ.snoc(r:cQ K F ds vs)(h:cX K F d v):cQ K F (ds++[d]) (vs++[v]):=r.append (.cons h .nil)
theorem cQ.get:∀{ds:List D} {vs:List V} {i:Nat} {d:D},cQ K F ds vs->ds[i]? =aA d->∃v,vs[i]? =aA v/\cX K F d v
 |_,_,_,_,.nil,e=>by simp at e
 |_,_,0,_,.cons h t,e=>by simp at e;subst e;exact⟨_,rfl,h⟩
 |_,_,i+1,d,.cons h t,e=>by obtain⟨v,h1,h2⟩:=cQ.get (i:=i) (d:=d) t (by simpa using e);exact⟨v,by simpa using h1,h2⟩
theorem cQ.take:∀{ds:List D} {vs:List V} n,cQ K F ds vs->cQ K F (ds.take n) (vs.take n)
 |_,_,0,_=>.nil
 |_,_,_+1,.nil=>.nil
 |_,_,n+1,.cons h t=>.cons h (t.take n)
theorem cQ.drop:∀{ds:List D} {vs:List V} n,cQ K F ds vs->cQ K F (ds.drop n) (vs.drop n)
 |_,_,0,r=>r
 |_,_,_+1,.nil=>.nil
 |_,_,n+1,.cons h t=>t.drop n
inductive SV where
 |fz (d:D)|ol (xs:List D)|oK (ks:List Key) (vs:List D)|oT (ks:List (List Key)) (vs:List D)|oN (ks:List Key) (xss:List (List D))|oL (pin:Option av) (xss:List (List D))|oQ (pin:av) (ks:List Key) (vs:List D)
@[simp]noncomputable def SV.toD:SV->D
 | .fz d=>d
 | .ol xs=>.lst xs
 | .oK ks vs=>.dK ks vs
 | .oT ks vs=>.dT ks vs
 | .oN ks xss=>.dK ks (xss.map D.lst)
 | .oL _ xss=>.lst (xss.map D.lst)
 | .oQ _ ks vs=>.dK ks vs
noncomputable abbrev Zu:=List (av×HO)
inductive cW(K:aj)(F:Hp):List (List D)->List V->Zu->Prop where
 |nil:cW K F [] [] []
 |cons {xs:List D} {xss:List (List D)} {b:av} {vs:List V} {ws:List V} {ns:Zu} (r:cQ K F xs vs) (t:cW K F xss ws ns):cW K F (xs::xss) (.ref b::ws) ((b,.lst vs)::ns)
inductive cV(K:aj)(F:Hp):SV->V->Zu->Prop where
 |fz {d:D} {v:V} (h:cX K F d v):cV K F (.fz d) v []
 |ol {a:av} {xs:List D} {vs:List V} (r:cQ K F xs vs):cV K F (.ol xs) (.ref a) [(a,.lst vs)]
 |oK {a:av} {ks:List Key} {ds:List D} {kvs:List (Key×V)} {ep:Nat} (e:kvs.map (·.1)=ks) (r:cQ K F ds (kvs.map (·.2))):cV K F (.oK ks ds) (.ref a) [(a,.dK kvs ep)]
 |oT {a:av} {ks:List (List Key)} {ds:List D} {kvs:List (List Key×V)} {ep:Nat} {bs:List av} (kb:KB F kvs bs) (e:kvs.map (·.1)=ks) (r:cQ K F ds (kvs.map (·.2))):cV K F (.oT ks ds) (.ref a) [(a,.dT kvs ep bs)]
 |oN {a:av} {ks:List Key} {xss:List (List D)} {kvs:List (Key×V)} {ns:Zu} {ep:Nat} (e:kvs.map (·.1)=ks) (r:cW K F xss (kvs.map (·.2)) ns):cV K F (.oN ks xss) (.ref a) ((a,.dK kvs ep)::ns)
 |oL {pin:Option av} {a:av} {xss:List (List D)} {ws:List V} {ns:Zu} (hp:∀b,pin=aA b->b=a) (r:cW K F xss ws ns):cV K F (.oL pin xss) (.ref a) ((a,.lst ws)::ns)
 |oQ {a:av} {ks:List Key} {ds:List D} {kvs:List (Key×V)} {ep:Nat} (e:kvs.map (·.1)=ks) (r:cQ K F ds (kvs.map (·.2))):cV K F (.oQ a ks ds) (.ref a) [(a,.dK kvs ep)]
theorem cW.mono(s:Zo F F')(h:cW K F xss ws ns):cW K F' xss ws ns:=by
 induction h with
 |nil=>exact .nil
 |cons r _ ih=>exact .cons (r.mono s) ih
theorem cV.mono(s:Zo F F')(h:cV K F sv v ns):cV K F' sv v ns:=by
 cases h with
 |fz h=>exact .fz (h.mono s)
 |ol r=>exact .ol (r.mono s)
 |oK e r=>exact .oK e (r.mono s)
 |oT kb e r=>exact .oT (kb.mono s) e (r.mono s)
 |oN e r=>exact .oN e (r.mono s)
 |oL hp r=>exact .oL hp (r.mono s)
 |oQ e r=>exact .oQ e (r.mono s)
noncomputable def Uc(F:Hp):Zu->Hp
 | []=>F
 |p::r=>Wu (Uc F r) p.1 p.2
noncomputable abbrev B9(ns:Zu):List Addr:=ns.map (·.1)
theorem Cr:∀{ns:Zu},b∉B9 ns->Uc F ns b=F b
 | [],_=>rfl
 |p::r,h=>by have h1:b≠p.1:=λe=>h (by rw[e];exact aa);have h2:b∉B9 r:=λe=>h (ad _ e);show Wu (Uc F r) p.1 p.2 b=F b;rw[Zv h1,Cr h2]
theorem Kn:∀{ns:Zu},(B9 ns).Nodup->p∈ns->Uc F ns p.1=aA p.2
 | [],_,h=>nomatch h
 |q::r,nd,h=>by
  obtain⟨n1,n2⟩:=cq.mp nd;show Wu (Uc F r) q.1 q.2 p.1=aA p.2;rcases ba.mp h with e|e
  .subst e;exact Yp
  .rw[Zv λz=>n1 (bd.mpr ⟨p,e,z⟩)];exact Kn n2 e
theorem Q9(h:∀p∈ns,F p.1=aB):Zo F (Uc F ns):=λb o e=>by
 by_cases hb:b∈B9 ns
 .obtain⟨p,hp,ep⟩:=bd.mp hb;subst ep;rw[h p hp]at e;cases e
 .rw[Cr hb];exact e
theorem wC(nd:(B9 ns).Nodup)(le:Zo F H)(h:∀p∈ns,H p.1=aA p.2):Zo (Uc F ns) H:=λb o e=>by
 by_cases hb:b∈B9 ns
 .obtain⟨p,hp,ep⟩:=bd.mp hb;subst ep;rw[Kn nd hp]at e;cases e;exact h p hp
 .rw[Cr hb]at e;exact le b o e
theorem Hu{Z:Hp×Hp}(nd:(B9 ns).Nodup)(fro:∀b o,F b=aA o->Z.2 b=aA o\/Z.1 b=aB)(hz:∀p∈ns,Z.1 p.1=aB):∀b o,Uc F ns b=aA o->Z.2 b=aA o\/Z.1 b=aB:=λb o e=>by
 by_cases hb:b∈B9 ns
 .obtain⟨p,hp,ep⟩:=bd.mp hb;subst ep;exact .inr (hz p hp)
 .rw[Cr hb]at e;exact fro b o e
theorem cW.rep(s:Zo F F'):∀{xss:List (List D)} {ws:List V} {ns:Zu},cW K F xss ws ns->(∀p∈ns,F' p.1=aA p.2)->cQ K F' (xss.map D.lst) ws
 |_,_,_,.nil,_=>.nil
 |_,_,_,.cons r t,h=>.cons (.lst (.inl (.inl (h _ aa))) (.inl (h _ aa)) (r.mono s)) (t.rep s λp hp=>h p (ad _ hp))
theorem cV.rep(h:cV K F sv v ns)(nd:(B9 ns).Nodup)(hn:∀p∈ns,F p.1=aB):cX K (Uc F ns) sv.toD v:=by
 have s:=Q9 hn;have a:∀p∈ns,Uc F ns p.1=aA p.2:=λp hp=>Kn nd hp;cases h with
 |fz h=>exact h
 |ol r=>exact .lst (.inl (.inl (a (_,_) aa))) (.inl (a (_,_) aa)) (r.mono s)
 |oK e r=>exact .dK (a (_,_) aa) e (r.mono s)
 |oT kb e r=>exact .dT (a (_,_) aa) (kb.mono s) e (r.mono s)
 |oN e r=>exact .dK (a (_,_) aa) e (r.rep s λp hp=>a p (ad _ hp))
 |oL _ r=>exact .lst (.inl (.inl (a (_,_) aa))) (.inl (a (_,_) aa)) (r.rep s λp hp=>a p (ad _ hp))
 |oQ e r=>exact .dK (a (_,_) aa) e (r.mono s)
noncomputable abbrev Wa:=List (Option SV)
set_option genInjectivity false in
structure cU(K:aj)where
 h:Hp
 f:Hp
 x:Km
noncomputable abbrev ent(H F:Hp):cU K:=⟨H,F,λ_ _ _ _=>False⟩
set_option genInjectivity false in
structure Exn where
 c:Str
 ks:List Str:=[]
 vs:List D:=[]
def EF(K:aj)(F:Hp)(e:Exn)(cls:aq)(od:Option av):Prop:=∃C,Br K e.c C/\cls= .ref C/\match od with
 |none=>e.ks=[]/\e.vs=[]
 |some dx=>∃fs:List (Str×V),F dx=aA (.xd fs)/\fs.map (·.1)=e.ks/\cQ K F e.vs (fs.map (·.2))
structure SR(Z:cU K)(F H:Hp)(σ:St)(δ:Wa)(own:Nat->Zu):Prop where
 le:Zo F H
 fro:∀(b:av) (o:HO),F b=aA o->Z.f b=aA o\/Z.h b=aB
 old:Zo Z.h H
 len:σ.length=δ.length
 at':∀(i:Nat) (sv:SV),δ[i]? =aA (aA sv)->∃v,σ[i]? =aA (aA v)/\cV K F sv v (own i)
 nod:∀i:Nat,(B9 (own i)).Nodup
 ok:∀(i:Nat) (p:av×HO),p∈own i->F p.1=aB/\Z.h p.1=aB/\H p.1=aA p.2
 sep:∀(i j:Nat) (p q:av×HO),i≠j->p∈own i->q∈own j->p.1≠q.1
inductive RV where
 |tmp (sv:SV)|bw (i:Nat)
structure cZ(Z:cU K)(F H:Hp)(own:Nat->Zu)(sv:SV)(v:V)(ns:Zu):Prop where
 sh:cV K F sv v ns
 nd:(B9 ns).Nodup
 ok:∀p∈ns,F p.1=aB/\Z.h p.1=aB/\H p.1=aA p.2
 sep:∀(i:Nat) (p q:av×HO),p∈ns->q∈own i->p.1≠q.1
def Hv(Z:cU K)(F H:Hp)(σ:St)(own:Nat->Zu):RV->V->Prop
 | .tmp sv,v=>∃ns,cZ Z F H own sv v ns
 | .bw i,v=>σ[i]? =aA (aA v)
theorem cZ.fz{Z:cU K}(h:cX K F d v):cZ Z F H own (.fz d) v []:=
 ⟨.fz h,cx,λ_ h=>(nomatch h),λ_ _ _ h=>(nomatch h)⟩
theorem Jh(h:H p=aB):Zo H (Wu H p o):=λb u e=>by rw[Zv λz=>by rw[z,h]at e;cases e];exact e
theorem SR.grow{Z:cU K}(s:SR Z F H σ δ own)(h:Zo H H'):SR Z F H' σ δ own:=
 ⟨s.le.trans h,s.fro,s.old.trans h,s.len,s.at',s.nod,λi p hp=>let⟨a,b,c⟩:=s.ok i p hp;⟨a,b,h _ _ c⟩,s.sep⟩
theorem SR.addF{Z:cU K}(s:SR Z F H σ δ own)(nd:(B9 ns).Nodup)(hn:∀p∈ns,F p.1=aB)(hH:∀p∈ns,H p.1=aA p.2)(hz:∀p∈ns,Z.h p.1=aB)(hs:∀i p q,p∈ns->q∈own i->p.1≠q.1):SR Z (Uc F ns) H σ δ own:=by
 have sm:=Q9 hn;refine⟨wC nd s.le hH,Hu (Z:=(Z.h,Z.f)) nd s.fro hz,s.old,s.len,λi sv e=>?_,s.nod,λi p hp=>?_,s.sep⟩
 .obtain⟨v,h1,h2⟩:=s.at' i sv e;exact⟨v,h1,h2.mono sm⟩
 .obtain⟨a,b,c⟩:=s.ok i p hp;refine⟨?_,b,c⟩;rw[Cr λhb=>?_]
  .exact a
  .obtain⟨q,hq,e⟩:=bd.mp hb;exact hs i q p hq hp e
theorem SR.settle{Z:cU K}(s:SR Z F H σ δ own)(t:cZ Z F H own sv v ns):
  ∃F1,Zo F F1/\SR Z F1 H σ δ own/\cX K F1 sv.toD v:=
 ⟨Uc F ns,Q9 λp hp=>(t.ok p hp).1,s.addF t.nd (λp hp=>(t.ok p hp).1) (λp hp=>(t.ok p hp).2.2) (λp hp=>(t.ok p hp).2.1) t.sep,t.sh.rep t.nd λp hp=>(t.ok p hp).1⟩
noncomputable def put(own:Nat->Zu)(i:Nat)(ns:Zu):Nat->Zu:=λj=>if j=i then ns else own j
theorem Z4:put own i ns i=ns:=bJ rfl
theorem Yb(h:j≠i):put own i ns j=own j:=bI h
theorem SR.freeze{Z:cU K}(s:SR Z F H σ δ own)(e:δ[i]? =aA (aA sv)):
  ∃F1 v,Zo F F1/\σ[i]? =aA (aA v)/\cX K F1 sv.toD v/\SR Z F1 H σ (δ.set i (aA (.fz sv.toD))) (put own i []):=by
 obtain⟨v,h1,h2⟩:=s.at' i sv e;have hn:∀p∈own i,F p.1=aB:=λp hp=>(s.ok i p hp).1;have sm:=Q9 hn;have hi:i<δ.length:=(bf.mp e).1;refine⟨Uc F (own i),v,sm,h1,h2.rep (s.nod i) hn,⟨wC (s.nod i) s.le λp hp=>(s.ok i p hp).2.2,Hu (Z:=(Z.h,Z.f)) (s.nod i) s.fro λp hp=>(s.ok i p hp).2.1,s.old,by rw[List.length_set];exact s.len,λj sw ej=>?_,λj=>?_,λj p hp=>?_,λj k p q WF hp hq=>?_⟩⟩
 .by_cases hj:j=i
  .subst hj;rw[d3 hi]at ej;cases ej;rw[Z4];exact⟨v,h1,.fz (h2.rep (s.nod j) hn)⟩
  .rw[du (Ne.symm hj)]at ej;obtain⟨w,g1,g2⟩:=s.at' j sw ej;rw[Yb hj];exact⟨w,g1,g2.mono sm⟩
 .by_cases hj:j=i
  .subst hj;rw[Z4];exact cx
  .rw[Yb hj];exact s.nod j
 .by_cases hj:j=i
  .subst hj;rw[Z4]at hp;exact nomatch hp
  .rw[Yb hj]at hp;obtain⟨a,b,c⟩:=s.ok j p hp;refine⟨?_,b,c⟩;rw[Cr λhb=>?_]
   .exact a
   .obtain⟨q,hq,z⟩:=bd.mp hb;exact s.sep i j q p (Ne.symm hj) hq hp z
 .by_cases hj:j=i
  .subst hj;rw[Z4]at hp;exact nomatch hp
  .by_cases hk:k=i
   .subst hk;rw[Z4]at hq;exact nomatch hq
   .rw[Yb hj]at hp;rw[Yb hk]at hq;exact s.sep j k p q WF hp hq
theorem SR.store{Z:cU K}(s:SR Z F H σ δ own)(t:cZ Z F H own sv v ns)(hi:i<σ.length):
  SR Z F H (σ.set i (aA v)) (δ.set i (aA sv)) (put own i ns):=by
 refine⟨s.le,s.fro,s.old,by rw[List.length_set,List.length_set];exact s.len,λj sw ej=>?_,λj=>?_,λj p hp=>?_,λj k p q WF hp hq=>?_⟩
 .by_cases hj:j=i
  .subst hj;have hd:j<δ.length:=by have:=(bf.mp ej).1;simpa using this
   rw[d3 hd]at ej;cases ej;rw[Z4,d3 hi];exact⟨v,rfl,t.sh⟩
  .rw[du (Ne.symm hj)]at ej;rw[Yb hj,du (Ne.symm hj)];exact s.at' j sw ej
 .by_cases hj:j=i
  .subst hj;rw[Z4];exact t.nd
  .rw[Yb hj];exact s.nod j
 .by_cases hj:j=i
  .subst hj;rw[Z4]at hp;exact t.ok p hp
  .rw[Yb hj]at hp;exact s.ok j p hp
 .by_cases hj:j=i
  .subst hj;rw[Z4]at hp;rw[Yb (Ne.symm WF)]at hq;exact t.sep k p q hp hq
  .by_cases hk:k=i
   .subst hk;rw[Z4]at hq;rw[Yb hj]at hp;exact Ne.symm (t.sep j q p hq hp)
   .rw[Yb hj]at hp;rw[Yb hk]at hq;exact s.sep j k p q WF hp hq
theorem SR.change{Z:cU K}(s:SR Z F H σ δ own)(e:δ[i]? =aA (aA sv))(hv:σ[i]? =aA (aA v))(ha:(a,o)∈own i)(hs:cV K F sv' v ns')(XU:∀p∈ns',p=(a,o')\/(p∈own i/\p.1≠a))(nd:(B9 ns').Nodup):SR Z F (Wu H a o') σ (δ.set i (aA sv')) (put own i ns'):=by
 obtain⟨fa,UX,ug⟩:=s.ok i (a,o) ha;have hi:i<δ.length:=(bf.mp e).1;refine⟨λb u eb=>?_,s.fro,λb u eb=>?_,by rw[List.length_set];exact s.len,λj sw ej=>?_,λj=>?_,λj p hp=>?_,λj k p q WF hp hq=>?_⟩
 .rw[Zv λz=>by rw[z]at eb;rw[fa]at eb;cases eb];exact s.le b u eb
 .rw[Zv λz=>by rw[z]at eb;rw[UX]at eb;cases eb];exact s.old b u eb
 .by_cases hj:j=i
  .subst hj;rw[d3 hi]at ej;cases ej;rw[Z4];exact⟨v,hv,hs⟩
  .rw[du (Ne.symm hj)]at ej;rw[Yb hj];exact s.at' j sw ej
 .by_cases hj:j=i
  .subst hj;rw[Z4];exact nd
  .rw[Yb hj];exact s.nod j
 .by_cases hj:j=i
  .subst hj;rw[Z4]at hp;rcases XU p hp with z|⟨z,ne⟩
   .subst z;exact⟨fa,UX,Yp⟩
   .obtain⟨x,y,w⟩:=s.ok j p z;exact⟨x,y,by rw[Zv ne];exact w⟩
  .rw[Yb hj]at hp;obtain⟨x,y,w⟩:=s.ok j p hp;exact⟨x,y,by rw[Zv (s.sep j i p (a,o) hj hp ha)];exact w⟩
 .have own':∀r∈ns',∃r'∈own i,r.1=r'.1:=λr hr=>by
   rcases XU r hr with z|⟨z,_⟩
   .subst z;exact⟨(a,o),ha,rfl⟩
   .exact⟨r,z,rfl⟩
  by_cases hj:j=i
  .subst hj;rw[Z4]at hp;rw[Yb (Ne.symm WF)]at hq;obtain⟨r',PD,er⟩:=own' p hp;rw[er];exact s.sep j k r' q WF PD hq
  .by_cases hk:k=i
   .subst hk;rw[Z4]at hq;rw[Yb hj]at hp;obtain⟨r',PD,er⟩:=own' q hq;rw[er];exact s.sep j k p r' WF hp PD
   .rw[Yb hj]at hp;rw[Yb hk]at hq;exact s.sep j k p q WF hp hq
end
section
variable{K:aj}
abbrev FE:=Wa->Option (RV×Wa)
abbrev FT:=Wa->Option (Bool×Wa)
abbrev FA:=Wa->Option (List RV×Wa)
abbrev FD:=Wa->Option (List D×Wa)
@[simp]noncomputable def SV.nested:SV->Bool
 | .oN _ _=>aC
 | .oL _ _=>aC
 |_=>aD
@[simp]def rdv:RV->Wa->Option D
 | .tmp sv,_=>aA sv.toD
 | .bw i,δ=>(δ[i]?.join).bind λsv=>if sv.nested then aB else aA sv.toD
@[simp]def frz:RV->Wa->Option (D×Wa)
 | .tmp sv,δ=>aA (sv.toD,δ)
 | .bw i,δ=>(δ[i]?.join).bind λsv=>aA (sv.toD,δ.set i (aA (.fz sv.toD)))
theorem Cs{δ:Wa}{i:Nat}(h:δ[i]?.join=aA sv):δ[i]? =aA (aA sv):=by
 cases e:δ[i]? with
 |none=>rw[e]at h;cases h
 |some o=>rw[e]at h;cases o with
  |none=>cases h
  |some s=>cases h;rfl
def Zf(Z:cU K)(f:FE):TE:=λσ H Q=>∃F δ own rv δ',SR Z F H σ δ own/\f δ=aA (rv,δ')/\
 ∀v H' F' own',Zo H H'->Zo F F'->SR Z F' H' σ δ' own'->Hv Z F' H' σ own' rv v->Q v H'
def Wc(Z:cU K)(f:FT):TT:=λσ H Q=>∃F δ own b δ',SR Z F H σ δ own/\f δ=aA (b,δ')/\
 ∀H' F' own',Zo H H'->Zo F F'->SR Z F' H' σ δ' own'->Q b H'
def RVS(K:aj)(F:Hp)(σ:St):RV->V->Prop
 | .tmp sv,v=>cX K F sv.toD v
 | .bw i,v=>σ[i]? =aA (aA v)
inductive RVSs(K:aj)(F:Hp)(σ:St):List RV->List V->Prop where
 |nil:RVSs K F σ [] []
 |cons {rv:RV} {v:V} {rvs:List RV} {vs:List V} (h:RVS K F σ rv v) (t:RVSs K F σ rvs vs):RVSs K F σ (rv::rvs) (v::vs)
def Bs(Z:cU K)(f:FA):TA:=λσ H Q=>∃F δ own rvs δ',SR Z F H σ δ own/\f δ=aA (rvs,δ')/\
 ∀vs H' F' own',Zo H H'->Zo F F'->SR Z F' H' σ δ' own'->RVSs K F' σ rvs vs->Q vs H'
def Ji(Z:cU K)(f:FD):TA:=λσ H Q=>∃F δ own ds δ',SR Z F H σ δ own/\f δ=aA (ds,δ')/\
 ∀vs H' F' own',Zo H H'->Zo F F'->SR Z F' H' σ δ' own'->cQ K F' ds vs->Q vs H'
section
variable{Z:cU K}{F H F' H':Hp}{σ:St}{δ δ':Wa}{own:Nat->Zu}{rv:RV}{v:V}{d:D}
theorem RVS.mono(s:Zo F F')(h:RVS K F σ rv v):RVS K F' σ rv v:=by
 cases rv with
 |tmp sv=>exact cX.mono s h
 |bw i=>exact h
theorem SR.settleR(s:SR Z F H σ δ own)(h:Hv Z F H σ own rv v):∃F1,Zo F F1/\SR Z F1 H σ δ own/\RVS K F1 σ rv v:=by
 cases rv with
 |tmp sv=>obtain⟨ns,t⟩:=h;exact s.settle t
 |bw i=>exact⟨F,Zo.refl F,s,h⟩
theorem SR.frzR(s:SR Z F H σ δ own)(h:RVS K F σ rv v)(e:frz rv δ=aA (d,δ')):∃F1 own1,Zo F F1/\SR Z F1 H σ δ' own1/\cX K F1 d v:=by
 cases rv with
 |tmp sv=>cases e;exact⟨F,own,Zo.refl F,s,h⟩
 |bw i=>refine cR e λsv e1 e2=>?_;cases e2;refine G9 (s.freeze (Cs e1)) λF1 w h1 h2 h3 h4=>?_;have h':σ[i]? =aA (aA v):=h;rw[h']at h2;cases h2;exact⟨F1,_,h1,h4,h3⟩
def Wb(K:aj)(F H:Hp)(d:D)(v:V):Prop:=∃sv ns,sv.toD=d/\sv.nested=aD/\cV K F sv v ns/\∀p∈ns,H p.1=aA p.2
theorem Wb.of(h:cX K F d v):Wb K F H d v:=⟨.fz d,[],rfl,rfl,.fz h,λ_ h=>nomatch h⟩
theorem SR.rd(s:SR Z F H σ δ own)(h:RVS K F σ rv v)(e:rdv rv δ=aA d):Wb K F H d v:=by
 cases rv with
 |tmp sv=>cases e;exact Wb.of h
 |bw i=>
  refine cR e λsv e1 e2=>?_;cases hn:sv.nested with
  |true=>rw[hn]at e2;cases e2
  |false=>rw[hn]at e2;cases e2;obtain⟨w,h1,h2⟩:=s.at' i sv (Cs e1);have h':σ[i]? =aA (aA v):=h;rw[h']at h1;cases h1;exact⟨sv,own i,rfl,hn,h2,λp hp=>(s.ok i p hp).2.2⟩
inductive RepNs(K:aj)(F H:Hp):List D->List V->Prop where
 |nil:RepNs K F H [] []
 |cons {d:D} {v:V} {ds:List D} {vs:List V} (h:Wb K F H d v) (t:RepNs K F H ds vs):RepNs K F H (d::ds) (v::vs)
theorem Wb.non(h:Wb K F H .non v):v= .non:=by
 refine G9 h λsv ns e n sh hp=>?_;cases sh with
 |fz r=>cases e;cases r;rfl
 |ol r=>cases e
 |oK e' r=>cases e
 |oT kb e' r=>cases e
 |oN e' r=>cases n
 |oL _ r=>cases n
 |oQ e' r=>cases e
theorem Wb.bl(h:Wb K F H (.bl b) v):v= .bl b:=by
 refine G9 h λsv ns e n sh hp=>?_;cases sh with
 |fz r=>cases e;cases r;rfl
 |ol r=>cases e
 |oK e' r=>cases e
 |oT kb e' r=>cases e
 |oN e' r=>cases n
 |oL _ r=>cases n
 |oQ e' r=>cases e
theorem Wb.int(h:Wb K F H (.int i) v):v= .int i:=by
 refine G9 h λsv ns e n sh hp=>?_;cases sh with
 |fz r=>cases e;cases r;rfl
 |ol r=>cases e
 |oK e' r=>cases e
 |oT kb e' r=>cases e
 |oN e' r=>cases n
 |oL _ r=>cases n
 |oQ e' r=>cases e
theorem Wb.str(h:Wb K F H (.str x) v):v= .str x:=by
 refine G9 h λsv ns e n sh hp=>?_;cases sh with
 |fz r=>cases e;cases r;rfl
 |ol r=>cases e
 |oK e' r=>cases e
 |oT kb e' r=>cases e
 |oN e' r=>cases n
 |oL _ r=>cases n
 |oQ e' r=>cases e
theorem Wb.tup(le:Zo F H)(h:Wb K F H (.tup xs) v):∃a vs,v= .ref a/\Er K H a vs/\cQ K F xs vs:=by
 obtain⟨sv,ns,e,n,sh,hp⟩:=h;cases sh with
 |fz r=>cases e;cases r with|tup h r=>exact⟨_,_,rfl,Od le (Ip h),r⟩
 |ol r=>cases e
 |oK e' r=>cases e
 |oT kb e' r=>cases e
 |oN e' r=>cases n
 |oL _ r=>cases n
 |oQ e' r=>cases e
theorem Wb.lst(le:Zo F H)(h:Wb K F H (.lst xs) v):∃a vs,v= .ref a/\On K H a vs/\cQ K F xs vs:=by
 obtain⟨sv,ns,e,n,sh,hp⟩:=h;cases sh with
 |fz r=>cases e;cases r with|lst h _ r=>exact⟨_,_,rfl,Qq le h,r⟩
 |ol r=>cases e;exact⟨_,_,rfl,.inl (.inl (hp _ aa)),r⟩
 |oK e' r=>cases e
 |oT kb e' r=>cases e
 |oN e' r=>cases n
 |oL _ r=>cases n
 |oQ e' r=>cases e
theorem Wb.dK(le:Zo F H)(h:Wb K F H (.dK ks ds) v):∃a kvs,v= .ref a/\HK H a kvs/\kvs.map (·.1)=ks/\cQ K F ds (kvs.map (·.2)):=by
 obtain⟨sv,ns,e,n,sh,hp⟩:=h;cases sh with
 |fz r=>cases e;cases r with|dK h e r=>exact⟨_,_,rfl,⟨_,le _ _ h⟩,e,r⟩
 |ol r=>cases e
 |oK e' r=>cases e;exact⟨_,_,rfl,⟨_,hp _ aa⟩,e',r⟩
 |oT kb e' r=>cases e
 |oN e' r=>cases n
 |oL _ r=>cases n
 |oQ e' r=>cases e;exact⟨_,_,rfl,⟨_,hp _ aa⟩,e',r⟩
theorem Wb.dT(le:Zo F H)(h:Wb K F H (.dT ks ds) v):∃a kvs,v= .ref a/\HTt H a kvs/\kvs.map (·.1)=ks/\cQ K F ds (kvs.map (·.2)):=by
 obtain⟨sv,ns,e,n,sh,hp⟩:=h;cases sh with
 |fz r=>cases e;cases r with|dT h kb e r=>exact⟨_,_,rfl,⟨_,_,le _ _ h⟩,e,r⟩
 |ol r=>cases e
 |oK e' r=>cases e
 |oT kb e' r=>cases e;exact⟨_,_,rfl,⟨_,_,hp _ aa⟩,e',r⟩
 |oN e' r=>cases n
 |oL _ r=>cases n
 |oQ e' r=>cases e
end
theorem Fk:([a]:List av).Nodup:=cq.mpr ⟨λh=>(nomatch h),cx⟩
def Nk(Z:cU K)(F H:Hp)(σ:St)(δ:Wa)(own:Nat->Zu)(sv:SV)(Q:VK):Prop:=
 ∀v H' F' ns,Zo H H'->Zo F F'->SR Z F' H' σ δ own->cZ Z F' H' own sv v ns->Q v H'
section
variable{Z:cU K}{F H:Hp}{σ:St}{δ:Wa}{own:Nat->Zu}{Q:VK}
theorem Nk.fz(f:Nk Z F H σ δ own (.fz d) Q)(s:SR Z F H σ δ own)(h:cX K F d v):Q v H:=f v H F [] (Zo.refl H) (Zo.refl F) s (.fz h)
theorem Nk.one(f:Nk Z F H σ δ own sv Q)(s:SR Z F H σ δ own)(sh:cV K F sv (.ref p) [(p,o)])(hp:H p=aB):Q (.ref p) (Wu H p o):=by
 have sm:=Jh (o:=o) hp;refine f (.ref p) (Wu H p o) F [(p,o)] sm (Zo.refl F) (s.grow sm) ⟨sh,Fk,λq hq=>?_,λi q r hq hr=>?_⟩
 .obtain rfl:=af.mp hq;exact⟨s.le.free hp,s.old.free hp,Yp⟩
 .obtain rfl:=af.mp hq;intro e;have e':p=r.1:=e;have z:=(s.ok i r hr).2.2;rw[<-e',hp]at z;cases z
theorem Nk.lst(f:Nk Z F H σ δ own (.ol xs) Q)(s:SR Z F H σ δ own)(r:cQ K F xs vs)(hp:H p=aB):Q (.ref p) (Wu H p (.lst vs)):=f.one s (.ol r) hp
theorem Nk.tup(f:Nk Z F H σ δ own (.fz (.tup xs)) Q)(s:SR Z F H σ δ own)(r:cQ K F xs vs)(hp:H p=aB):Q (.ref p) (Wu H p (.tup vs)):=by
 have sm:=Jh (o:=.tup vs) hp;have sF:Zo F (Uc F [(p,.tup vs)]):=Q9 λq hq=>by obtain rfl:=af.mp hq;exact s.le.free hp
 refine f (.ref p) (Wu H p (.tup vs)) (Uc F [(p,.tup vs)]) [] sm sF ?_ (.fz (.tup Yp (r.mono sF)));refine(s.grow sm).addF (Fk) (λq hq=>?_) (λq hq=>?_) (λq hq=>?_) λi q u hq hu=>?_
 .obtain rfl:=af.mp hq;exact s.le.free hp
 .obtain rfl:=af.mp hq;exact Yp
 .obtain rfl:=af.mp hq;exact s.old.free hp
 .obtain rfl:=af.mp hq;intro e;have e':p=u.1:=e;have z:=(s.ok i u hu).2.2;rw[<-e',hp]at z;cases z
end
theorem Q0(h:cV K F (.fz d) v ns):cX K F d v:=by
 cases h with
 |fz r=>exact r
section
variable{Z:cU K}{H:Hp}{σ:St}{Q:VK}
@[simp]noncomputable def Za(i:Nat):FE:=λδ=>match δ[i]? with
 |some (aA (.fz d))=>aA (.tmp (.fz d),δ)
 |some (aA _)=>aA (.bw i,δ)
 |_=>aB
theorem tD(h:Zf Z (Za i) σ H Q):Ol i σ H Q:=by
 refine Yx h λF δ own rv δ' s e k=>?_;unfold Za at e;split at e
 .rename_i d hd;cases e;obtain⟨v,h1,h2⟩:=s.at' i _ hd;exact⟨v,h1,k v H F own (Zo.refl H) (Zo.refl F) s ⟨[],.fz (Q0 h2)⟩⟩
 .rename_i sv hsv hd;cases e;obtain⟨v,h1,h2⟩:=s.at' i _ hd;exact⟨v,h1,k v H F own (Zo.refl H) (Zo.refl F) s h1⟩
 .cases e
@[simp]noncomputable def Zc(d:D):FE:=λδ=>some (.tmp (.fz d),δ)
theorem Mj(hr:∀F,cX K F d v)(h:Zf Z (Zc d) σ H Q):tC v σ H Q:=by refine Yx h λF δ own rv δ' s e k=>?_;cases e;exact k v H F own (Zo.refl H) (Zo.refl F) s ⟨[],.fz (hr F)⟩
@[simp]noncomputable def Zi:FA:=λδ=>some ([],δ)
@[simp]noncomputable def Zd(fe:FE)(fa:FA):FA:=λδ=>(fe δ).bind λp=>(fa p.2).bind λq=>some (p.1::q.1,q.2)
theorem l8(h:Bs Z Zi σ H R):Rh σ H R:=by refine Yx h λF δ own rvs δ' s e k=>?_;cases e;exact k [] H F own (Zo.refl H) (Zo.refl F) s .nil
theorem je(h:Bs Z (Zd fe fa) σ H R):O6 (Zf Z fe) (Bs Z fa) σ H R:=by refine Yx h λF δ own rvs δ' s e k=>?_;refine cT e λrv δ1 e1 e2=>?_;refine cT e2 λrr δ2 e3 e4=>?_;cases e4;refine⟨F,δ,own,rv,δ1,s,e1,λv H1 F1 own1 sH sF s1 r1=>?_⟩;refine Zr (s1.settleR r1) λF2 ZI s2 r2=>?_;exact⟨F2,δ1,own1,rr,δ2,s2,e3,λvs H3 F3 ZP YO ZU s3 r3=>k _ H3 F3 ZP (sH.trans YO) (sF.trans (ZI.trans ZU)) s3 (.cons (r2.mono ZU) r3)⟩
@[simp]def Bt:List RV->Wa->Option (List D)
 | [],_=>aA []
 |rv::r,δ=>(rdv rv δ).bind λd=>(Bt r δ).bind λds=>aA (d::ds)
theorem SR.rdAll(s:SR Z F H σ δ own):∀{rvs:List RV} {vs:List V} {ds:List D},RVSs K F σ rvs vs->Bt rvs δ=aA ds->RepNs K F H ds vs
 |_,_,_,.nil,e=>by cases e;exact .nil
 |_,_,_,.cons h t,e=>by refine cR e λd e1 e2=>?_;refine cR e2 λds e3 e4=>?_;cases e4;exact .cons (s.rd h e1) (s.rdAll t e3)
@[simp]def Yy(g:List D->Option SV)(fa:FA):FE:=λδ=>(fa δ).bind λp=>(Bt p.1 p.2).bind λds=>(g ds).bind λsv=>some (.tmp sv,p.2)
def Bu(Z:cU K)(r:List V->Hp->VK->Prop)(g:List D->Option SV):Prop:=
 ∀(F H:Hp) (σ:St) (δ:Wa) (own:Nat->Zu) (vs:List V) (ds:List D) (sv:SV) (Q:VK),SR Z F H σ δ own->RepNs K F H ds vs->g ds=aA sv->Nk Z F H σ δ own sv Q->r vs H Q
theorem EE(hg:Bu Z r g)(h:Zf Z (Yy g fa) σ H Q):tCB r (Bs Z fa) σ H Q:=by refine Yx h λF δ own rv δ' s e k=>?_;refine cT e λrvs δ1 e1 e2=>?_;refine cR e2 λds e3 e4=>?_;refine cR e4 λsv e5 e6=>?_;cases e6;refine⟨F,δ,own,rvs,δ1,s,e1,λvs H1 F1 own1 sH sF s1 r1=>?_⟩;exact hg F1 H1 σ δ1 own1 vs ds sv Q s1 (s1.rdAll r1 e3) e5 λv H2 F2 ns WT ZI s2 t=>k v H2 F2 own1 (sH.trans WT) (sF.trans ZI) s2 ⟨ns,t⟩
@[simp]noncomputable def g2(g:D->D->Option SV):List D->Option SV
 | [x,y]=>g x y
 |_=>aB
@[simp]def Zg(g:D->D->Option SV)(fa fb:FE):FE:=Yy (g2 g) (Zd fa (Zd fb Zi))
def Wj(Z:cU K)(r:R2)(g:D->D->Option SV):Prop:=
 ∀(F H:Hp) (σ:St) (δ:Wa) (own:Nat->Zu) (x y:V) (d1 d2:D) (sv:SV) (Q:VK),SR Z F H σ δ own->Wb K F H d1 x->Wb K F H d2 y->g d1 d2=aA sv->Nk Z F H σ δ own sv Q->r x y H Q
theorem Hw(hg:Wj Z r g)(h:Zf Z (Zg g fa fb) σ H Q):tOp r (Zf Z fa) (Zf Z fb) σ H Q:=by
 have hN:Bu Z (λvs H Q=>∃x y,vs=[x,y]/\r x y H Q) (g2 g):=by
  intro F H σ δ own vs ds sv Q s rs e f;cases rs with
  |nil=>cases e
  |cons h1 t1=>
   cases t1 with
   |nil=>cases e
   |cons h2 t2=>
    cases t2 with
    |nil=>exact⟨_,_,rfl,hg F H σ δ own _ _ _ _ sv Q s h1 h2 e f⟩
    |cons h3 t3=>cases e
 refine Yx (EE hN h) λF δ own rv δ' s e k=>?_;refine cT e λVF δ1 e1 e2=>?_;refine cT e2 λrr δ2 e3 e4=>?_;cases e4;refine cT e3 λKH XZ e5 e6=>?_;refine cT e6 λQS UG e7 e8=>?_;cases e8;cases e7;refine⟨F,δ,own,VF,δ1,s,e1,λv H1 F1 own1 sH sF s1 r1=>?_⟩;refine Zr (s1.settleR r1) λF2 ZI s2 r2=>?_;refine⟨F2,δ1,own1,KH,XZ,s2,e5,λu H3 F3 ZP YO ZU s3 r3=>?_⟩;refine Zr (s3.settleR r3) λF4 ZY s4 r4=>?_;refine We (k [v,u] H3 F4 ZP (sH.trans YO) (sF.trans (ZI.trans (ZU.trans ZY))) s4 (.cons (r2.mono (ZU.trans ZY)) (.cons r4 .nil))) λx y uq q=>?_;injection uq with ex ey
 injection ey with ey _;subst ex ey;exact q
@[simp]def unF(g:D->Option SV)(fa:FE):FE:=Yy (λ| [x]=>g x|_=>none) (Zd fa Zi)
def GK(Z:cU K)(r:V->Hp->VK->Prop)(g:D->Option SV):Prop:=
 ∀(F H:Hp) (σ:St) (δ:Wa) (own:Nat->Zu) (x:V) (d:D) (sv:SV) (Q:VK),SR Z F H σ δ own->Wb K F H d x->g d=aA sv->Nk Z F H σ δ own sv Q->r x H Q
theorem CK(hg:GK Z r g)(h:Zf Z (unF g fa) σ H Q):tUn r (Zf Z fa) σ H Q:=by refine Yx h λF δ own rv δ' s e k=>?_;refine cT e λrvs δ1 e1 e2=>?_;refine cR e2 λds e3 e4=>?_;refine cR e4 λsv e5 e6=>?_;cases e6;refine cT e1 λVF δ2 e7 e8=>?_;refine cT e8 λQS UG e9 UE=>?_;cases UE;cases e9;refine cR e3 λd QE TZ=>?_;cases TZ;refine⟨F,δ,own,VF,δ2,s,e7,λv H1 F1 own1 sH sF s1 r1=>?_⟩;refine Zr (s1.settleR r1) λF2 ZI s2 r2=>?_;exact hg F2 H1 σ δ2 own1 v d sv Q s2 (s2.rd r2 QE) e5 λv H2 eO ns WT KG s2 t=>k v H2 eO own1 (sH.trans WT) (sF.trans (ZI.trans KG)) s2 ⟨ns,t⟩
@[simp]noncomputable def Zt:FD:=λδ=>some ([],δ)
@[simp]def Zm(fe:FE)(fd:FD):FD:=λδ=>(fe δ).bind λp=>(frz p.1 p.2).bind λq=>(fd q.2).bind λr=>some (q.1::r.1,r.2)
theorem Pk(h:Ji Z Zt σ H R):Rh σ H R:=by refine Yx h λF δ own rvs δ' s e k=>?_;cases e;exact k [] H F own (Zo.refl H) (Zo.refl F) s .nil
theorem Gh(h:Ji Z (Zm fe fd) σ H R):O6 (Zf Z fe) (Ji Z fd) σ H R:=by refine Yx h λF δ own rvs δ' s e k=>?_;refine cT e λrv δ1 e1 e2=>?_;refine cT e2 λd δ2 e3 e4=>?_;refine cT e4 λds XZ e5 e6=>?_;cases e6;refine⟨F,δ,own,rv,δ1,s,e1,λv H1 F1 own1 sH sF s1 r1=>?_⟩;refine Zr (s1.settleR r1) λF2 ZI s2 r2=>?_;refine Yd (s2.frzR r2 e3) λF3 ZP ZU s3 r3=>?_;exact⟨F3,δ2,ZP,ds,XZ,s3,e5,λvs H4 F4 YR VC ZY s4 r4=>k _ H4 F4 YR (sH.trans VC) (sF.trans (ZI.trans (ZU.trans ZY))) s4 (.cons (r3.mono ZY) r4)⟩
@[simp]noncomputable def tupF(fd:FD):FE:=λδ=>(fd δ).bind λp=>if p.1.length<=bu then some (.tmp (.fz (.tup p.1)),p.2)else none
@[simp]noncomputable def Ud(fd:FD):FE:=λδ=>(fd δ).bind λp=>if p.1.length<=bu then some (.tmp (.ol p.1),p.2)else none
theorem u_(h:Zf Z (tupF fd) σ H Q):CU (Ji Z fd) σ H Q:=by
 refine Yx h λF δ own rv δ' s e k=>?_;refine cT e λds δ1 e1 e2=>?_;by_cases hz:ds.length<=bu
 .rw[bJ hz]at e2;cases e2;refine⟨F,δ,own,ds,δ1,s,e1,λvs H1 F1 own1 sH sF s1 r1=>⟨by rw[<-r1.length];exact hz,λp hp=>?_⟩⟩;exact Nk.tup (λv H2 F2 ns a b c t=>k v H2 F2 own1 (sH.trans a) (sF.trans b) c ⟨ns,t⟩) s1 r1 hp
 .rw[bI hz]at e2;cases e2
theorem u9(h:Zf Z (Ud fd) σ H Q):OV (Ji Z fd) σ H Q:=by
 refine Yx h λF δ own rv δ' s e k=>?_;refine cT e λds δ1 e1 e2=>?_;by_cases hz:ds.length<=bu
 .rw[bJ hz]at e2;cases e2;refine⟨F,δ,own,ds,δ1,s,e1,λvs H1 F1 own1 sH sF s1 r1=>⟨by rw[<-r1.length];exact hz,λp hp=>?_⟩⟩;exact Nk.lst (λv H2 F2 ns a b c t=>k v H2 F2 own1 (sH.trans a) (sF.trans b) c ⟨ns,t⟩) s1 r1 hp
 .rw[bI hz]at e2;cases e2
end
@[simp]noncomputable def SV.scal:SV->Bool
 | .fz .non=>aC
 | .fz (.bl _)=>aC
 | .fz (.int _)=>aC
 | .fz (.str _)=>aC
 |_=>aD
def Y3(K:aj)(n:Nat)(g:List D->Option SV):Sp:=λvs H Q _=>∃F ds sv,Zo F H/\cQ K F ds vs/\ds.length=n/\g ds=aA sv/\
 ∀v H' F' ns,Zo H H'->Zo F F'->Zo F' H'->(∀(b:av) (o:HO),F' b=aA o->F b=aA o\/H b=aB)->cV K F' sv v ns->(B9 ns).Nodup->(∀p∈ns,F' p.1=aB/\H p.1=aB/\H' p.1=aA p.2)->Q v H'
@[simp]def frzAll:List RV->Wa->Option (List D×Wa)
 | [],δ=>aA ([],δ)
 |rv::r,δ=>(frz rv δ).bind λp=>(frzAll r p.2).bind λq=>aA (p.1::q.1,q.2)
theorem RVSs.mono(s:Zo F F')(h:RVSs K F σ rvs vs):RVSs K F' σ rvs vs:=by
 induction h with
 |nil=>exact .nil
 |cons h _ ih=>exact .cons (h.mono s) ih
section
variable{Z:cU K}
theorem SR.frzAll{F:Hp}{δ:Wa}{own:Nat->Zu}:∀{rvs:List RV} {vs:List V} {ds:List D} {δ':Wa} {F:Hp} {δ:Wa} {own:Nat->Zu},SR Z F H σ δ own->RVSs K F σ rvs vs->L2.frzAll rvs δ=aA (ds,δ')->
  ∃F1 own1,Zo F F1/\SR Z F1 H σ δ' own1/\cQ K F1 ds vs
 |_,_,_,_,F,_,own,s,.nil,e=>by cases e;exact⟨F,own,Zo.refl F,s,.nil⟩
 |_,_,_,_,F,_,own,s,.cons h t,e=>by refine cT e λd δ1 e1 e2=>?_;refine cT e2 λds δ2 e3 e4=>?_;cases e4;refine Yd (s.frzR h e1) λF1 own1 YV s1 r1=>?_;refine Yd (SR.frzAll (own:=own) (F:=F) (δ:=δ1) s1 (t.mono YV) e3) λF2 own2 ZI s2 r2=>?_;exact⟨F2,own2,YV.trans ZI,s2,.cons (r1.mono ZI) r2⟩
@[simp]def Z5(n:Nat)(g:List D->Option SV)(fa:FA):FE:=λδ=>(fa δ).bind λp=>(L2.frzAll p.1 p.2).bind λq=>if q.1.length=n then(g q.1).bind λsv=>some (.tmp sv,if sv.scal then p.2 else q.2)else none
theorem Hx(h:sv.scal=aC)(sh:cV K F sv v ns):ns=[]/\cV K F' sv v []:=by
 cases sh with
 |fz r=>
  refine⟨rfl,.fz ?_⟩;cases r with
  |non=>exact .non
  |bl b=>exact .bl b
  |int i=>exact .int i
  |str x=>exact .str x
  |tup _ _=>cases h
  |lst _ _ _=>cases h
  |dK _ _ _=>cases h
  |dT _ _ _ _=>cases h
  |exc _ _=>cases h
  |exd _ _ _ _ _=>cases h
 |ol _=>cases h
 |oK _ _=>cases h
 |oT _ _ _=>cases h
 |oN _ _=>cases h
 |oL _ _=>cases h
 |oQ _ _=>cases h
theorem pA(h:Zf Z (Z5 n g fa) σ H Q):Hj (Y3 K n g) [] E (Bs Z fa) σ H Q:=by
 obtain⟨F,δ,own,rv,δ',s,e,k⟩:=h;refine cT e λrvs δ1 e1 e2=>?_;refine cT e2 λds δ2 e3 e4=>?_;by_cases hn:ds.length=n
 .rw[bJ hn]at e4;refine cR e4 λsv e5 e6=>?_;refine⟨F,δ,own,rvs,δ1,s,e1,λvs H1 F1 own1 sH sF s1 r1=>?_⟩;obtain⟨F2,own2,ZI,s2,r2⟩:=s1.frzAll (own:=own) (F:=F) (δ:=δ) r1 e3;rw[de];refine⟨F2,ds,sv,s2.le,r2,hn,e5,λv H3 F3 ns YO ZU UQ YX sh nd ok=>?_⟩;by_cases hs:sv.scal=aC
  .rw[bJ hs]at e6;cases e6;obtain⟨_,XT⟩:=Hx (F':=F1) hs sh;exact k v H3 F1 own1 (sH.trans YO) sF (s1.grow YO) ⟨[],XT,cx,λ_ h=>(nomatch h),λ_ _ _ h=>(nomatch h)⟩
  .rw[bI hs]at e6;cases e6;have s3:SR Z F3 H3 σ δ2 own2:=by
    refine⟨UQ,λb o e=>?_,s2.old.trans YO,s2.len,λi sw ei=>?_,s2.nod,λi p hp=>?_,s2.sep⟩
    .rcases YX b o e with z|z
     .exact s2.fro b o z
     .exact .inr (s2.old.free z)
    .obtain⟨w,h1,h2⟩:=s2.at' i sw ei;exact⟨w,h1,h2.mono ZU⟩
    .obtain⟨a,b,c⟩:=s2.ok i p hp;refine⟨?_,b,YO _ _ c⟩;cases z:F3 p.1 with
     |none=>rfl
     |some u=>
      rcases YX _ u z with y|y
      .rw[a]at y;cases y
      .rw[c]at y;cases y
   exact k v H3 F3 own2 (sH.trans YO) (sF.trans (ZI.trans ZU)) s3 ⟨ns,sh,nd,λp hp=>⟨(ok p hp).1,(s2.old).free (ok p hp).2.1,(ok p hp).2.2⟩,λi p q hp hq e=>by
    have z:=(s2.ok i q hq).2.2;rw[<-e,(ok p hp).2.1]at z;cases z⟩
 .rw[bI hn]at e4;cases e4
end
end
section
variable{K:aj}
section
variable{Z:cU K}
@[simp]noncomputable def Zq(fe:FE):FT:=λδ=>(fe δ).bind λp=>match p.1 with
 | .tmp (.fz (.bl b))=>aA (b,p.2)
 |_=>aB
theorem ED(h:Wc Z (Zq fe) σ H R):AU (Zf Z fe) σ H R:=by
 refine Yx h λF δ own b δ' s e k=>?_;refine cT e λrv δ1 e1 e2=>?_;refine⟨F,δ,own,rv,δ1,s,e1,λv H1 F1 own1 sH sF s1 r1=>?_⟩;dsimp only at e2;split at e2
 .cases e2;obtain⟨ns,t⟩:=r1;cases Q0 t.sh;exact⟨_,rfl,k H1 F1 own1 sH sF s1⟩
 .cases e2
theorem mM(h:Wc Z (Zq fe) σ H R):tB (Zf Z fe) σ H R:=ED h
@[simp]noncomputable def Ko(f g:FT):FT:=λδ=>(f δ).bind λp=>if p.1=true then g p.2 else some (false,p.2)
@[simp]noncomputable def orF(f g:FT):FT:=λδ=>(f δ).bind λp=>if p.1=true then some (true,p.2)else g p.2
@[simp]noncomputable def Tp(f:FT):FT:=λδ=>(f δ).bind λp=>some (!p.1,p.2)
theorem u8(h:Wc Z (Ko f g) σ H R):C' (Wc Z f) (Wc Z g) σ H R:=by
 refine Yx h λF δ own b δ' s e k=>?_;refine cT e λc δ1 e1 e2=>?_;refine⟨F,δ,own,c,δ1,s,e1,λH1 F1 own1 sH sF s1=>?_⟩;cases c with
 |true=>rw[bJ rfl]at e2⊢;exact⟨F1,δ1,own1,b,δ',s1,e2,λH2 F2 own2 a c d=>k H2 F2 own2 (sH.trans a) (sF.trans c) d⟩
 |false=>rw[bI bi]at e2⊢;cases e2;exact k H1 F1 own1 sH sF s1
theorem gG(h:Wc Z (orF f g) σ H R):tOr (Wc Z f) (Wc Z g) σ H R:=by
 refine Yx h λF δ own b δ' s e k=>?_;refine cT e λc δ1 e1 e2=>?_;refine⟨F,δ,own,c,δ1,s,e1,λH1 F1 own1 sH sF s1=>?_⟩;cases c with
 |true=>rw[bJ rfl]at e2⊢;cases e2;exact k H1 F1 own1 sH sF s1
 |false=>rw[bI bi]at e2⊢;exact⟨F1,δ1,own1,b,δ',s1,e2,λH2 F2 own2 a c d=>k H2 F2 own2 (sH.trans a) (sF.trans c) d⟩
theorem u7(h:Wc Z (Tp f) σ H R):C_ (Wc Z f) σ H R:=by refine Yx h λF δ own b δ' s e k=>?_;refine cT e λc δ1 e1 e2=>?_;cases e2;exact⟨F,δ,own,c,δ1,s,e1,k⟩
@[simp]noncomputable def QL(f g:FE):FE:=λδ=>(Zq f δ).bind λp=>if p.1=true then g p.2 else some (.tmp (.fz (.bl false)),p.2)
theorem AO:Hv Z F H σ own (.tmp (.fz (.bl b))) (.bl b):=⟨[],.fz (.bl b)⟩
theorem q_(h:Zf Z (QL f g) σ H Q):zF (Zf Z f) (Zf Z g) σ H Q:=by
 refine Yx h λF δ own rv δ' s e k=>?_;refine cT e λc δ1 e1 e2=>?_;refine ED ⟨F,δ,own,c,δ1,s,e1,λH1 F1 own1 sH sF s1=>?_⟩;cases c with
 |true=>rw[bJ rfl]at e2⊢;exact⟨F1,δ1,own1,rv,δ',s1,e2,λv H2 F2 own2 a c d=>k v H2 F2 own2 (sH.trans a) (sF.trans c) d⟩
 |false=>rw[bI bi]at e2⊢;cases e2;exact k _ H1 F1 own1 sH sF s1 AO
@[simp]noncomputable def ifF(t:FT)(f g:FE):FE:=λδ=>(t δ).bind λp=>if p.1=true then f p.2 else g p.2
theorem gT(h:Zf Z (ifF t f g) σ H Q):tIf (Wc Z t) (Zf Z f) (Zf Z g) σ H Q:=by
 refine Yx h λF δ own rv δ' s e k=>?_;refine cT e λc δ1 e1 e2=>?_;refine⟨F,δ,own,c,δ1,s,e1,λH1 F1 own1 sH sF s1=>?_⟩;cases c with
 |true=>rw[bJ rfl]at e2⊢;exact⟨F1,δ1,own1,rv,δ',s1,e2,λv H2 F2 own2 a c d=>k v H2 F2 own2 (sH.trans a) (sF.trans c) d⟩
 |false=>rw[bI bi]at e2⊢;exact⟨F1,δ1,own1,rv,δ',s1,e2,λv H2 F2 own2 a c d=>k v H2 F2 own2 (sH.trans a) (sF.trans c) d⟩
@[simp]def EC(g g':D->D->Option SV)(fa fb fc:FE):FE:=λδ=>(fa δ).bind λp=>(fb p.2).bind λq=>(rdv p.1 q.2).bind λx=>(rdv q.1 q.2).bind λy=>(g x y).bind fun
 | .fz (.bl aC)=>(fc q.2).bind λr=>(rdv q.1 r.2).bind λy'=>(rdv r.1 r.2).bind λz=>(g' y' z).bind λsv=>aA (.tmp sv,r.2)
 | .fz (.bl aD)=>aA (.tmp (.fz (.bl aD)),q.2)
 |_=>aB
theorem mL(hg:Wj Z r g)(uT:Wj Z r' g')(h:Zf Z (EC g g' fa fb fc) σ H Q):yW r r' (Zf Z fa) (Zf Z fb) (Zf Z fc) σ H Q:=by
 refine Yx h λF δ own rv δ' s e k=>?_;refine cT e λVF δ1 e1 e=>?_;refine cT e λKH δ2 e2 e=>?_;refine cR e λx e3 e=>?_;refine cR e λy e4 e=>?_;refine cR e λsv e5 e=>?_;refine⟨F,δ,own,VF,δ1,s,e1,λv H1 F1 own1 X_ YV s1 r1=>?_⟩;refine Zr (s1.settleR r1) λUZ XF VE XY=>?_;refine⟨UZ,δ1,own1,KH,δ2,VE,e2,λu H2 F2 own2 WT ZI s2 r2=>?_⟩;refine Zr (s2.settleR r2) λF3 ZU s3 r3=>?_;refine hg F3 H2 σ δ2 own2 v u x y sv _ s3 (s3.rd (XY.mono (ZI.trans ZU)) e3) (s3.rd r3 e4) e5 λz H4 F4 ns VC ZY s4 t4=>?_;dsimp only at e;split at e
 .cases Q0 t4.sh;refine⟨aC,rfl,?_⟩;rw[bJ rfl];refine cT e λvk U_ e6 e=>?_;refine cR e λy' e7 e=>?_;refine cR e λz' e8 e=>?_;refine cR e λsv' e9 e=>?_;cases e;refine⟨F4,δ2,own2,vk,U_,s4,e6,λw H5 F5 X' LZ TJ s5 r5=>?_⟩;refine Zr (s5.settleR r5) λF6 EV s6 r6=>?_;refine uT F6 H5 σ U_ X' u w y' z' sv' _ s6 (s6.rd (r3.mono (ZY.trans (TJ.trans EV))) e7) (s6.rd r6 e8) e9 λq H7 F7 vt LY UM s7 t7=>?_;exact k q H7 F7 X' (X_.trans (WT.trans (VC.trans (LZ.trans LY)))) (YV.trans (XF.trans (ZI.trans (ZU.trans (ZY.trans (TJ.trans (EV.trans UM))))))) s7 ⟨vt,t7⟩
 .cases Q0 t4.sh;cases e;refine⟨aD,rfl,?_⟩;rw[bI bi];exact k _ H4 F4 own2 (X_.trans (WT.trans VC)) (YV.trans (XF.trans (ZI.trans (ZU.trans ZY)))) s4 AO
 .cases e
end
inductive Fl where
 |nx (δ:Wa)|bk (δ:Wa)|ct (δ:Wa)|rt (sv:SV)|ex (e:Exn) (δ:Wa)
abbrev FS:=Wa->Option Fl
def Tq(Z:cU K)(F:Hp)(D:Ends):Fl->Prop
 | .nx δ=>∀ZB H' F' own',Zo F F'->SR Z F' H' ZB δ own'->D.nx ZB H'
 | .bk δ=>∀ZB H' F' own',Zo F F'->SR Z F' H' ZB δ own'->D.bk ZB H'
 | .ct δ=>∀ZB H' F' own',Zo F F'->SR Z F' H' ZB δ own'->D.ct ZB H'
 | .rt sv=>∀v H' F' ns,Zo F F'->Zo F' H'->(∀(b:av) (o:HO),F' b=aA o->Z.f b=aA o\/Z.h b=aB)->Zo Z.h H'->cV K F' sv v ns->(B9 ns).Nodup->
   (∀p∈ns,F' p.1=aB/\Z.h p.1=aB/\H' p.1=aA p.2)->D.rt v H'
 | .ex x δ=>∀ZB H' F' own' cls od,Zo F F'->SR Z F' H' ZB δ own'->EF K F' x cls od->Z.x cls od ZB H'
theorem Tq.mono{Z:cU K}{D}(s:Zo F F'):∀{fl:Fl},Tq Z F D fl->Tq Z F' D fl
 | .nx _,h=>λZB H' F2 own' a b=>h ZB H' F2 own' (s.trans a) b
 | .bk _,h=>λZB H' F2 own' a b=>h ZB H' F2 own' (s.trans a) b
 | .ct _,h=>λZB H' F2 own' a b=>h ZB H' F2 own' (s.trans a) b
 | .rt _,h=>λv H' F2 ns a=>h v H' F2 ns (s.trans a)
 | .ex _ _,h=>λZB H' F2 own' cls od a=>h ZB H' F2 own' cls od (s.trans a)
def Zx(Z:cU K)(f:FS):TS:=λD σ H=>∃F δ own fl,SR Z F H σ δ own/\f δ=aA fl/\Tq Z F D fl
section
variable{Z:cU K}{H:Hp}{σ:St}
@[simp]noncomputable def Yn:FS:=λδ=>some (.nx δ)
theorem q5(h:Zx Z Yn E σ H):zE E σ H:=by refine Ww h λF δ own fl s e k=>?_;cases e;exact k σ H F own (Zo.refl F) s
@[simp]noncomputable def Zs(f g:FS):FS:=λδ=>(f δ).bind fun
 | .nx δ'=>g δ'
 |fl=>aA fl
theorem u4(h:Zx Z (Zs f g) E σ H):HN (Zx Z f) (Zx Z g) E σ H:=by
 refine Ww h λF δ own fl s e k=>?_;refine cR e λf1 e1 e2=>?_;refine⟨F,δ,own,f1,s,e1,?_⟩;cases f1 with
 |nx δ1=>exact λZB H' F' own' sF s'=>⟨F',δ1,own',fl,s',e2,k.mono sF⟩
 |bk δ1=>cases e2;exact k
 |ct δ1=>cases e2;exact k
 |rt sv=>cases e2;exact k
 |ex x δ1=>cases e2;exact k
@[simp]noncomputable def Jt(t:FT)(f g:FS):FS:=λδ=>(t δ).bind λp=>if p.1=true then f p.2 else g p.2
theorem u3(h:Zx Z (Jt t f g) E σ H):CZ (Wc Z t) (Zx Z f) (Zx Z g) E σ H:=by
 refine Ww h λF δ own fl s e k=>?_;refine cT e λc δ1 e1 e2=>?_;refine⟨F,δ,own,c,δ1,s,e1,λH1 F1 own1 sH sF s1=>?_⟩;cases c with
 |true=>rw[bJ rfl]at e2⊢;exact⟨F1,δ1,own1,fl,s1,e2,k.mono sF⟩
 |false=>rw[bI bi]at e2⊢;exact⟨F1,δ1,own1,fl,s1,e2,k.mono sF⟩
@[simp]noncomputable def LN(fe:FE):FS:=λδ=>(fe δ).bind λp=>some (.nx p.2)
theorem qz(h:Zx Z (LN fe) E σ H):M7 (Zf Z fe) E σ H:=by refine Ww h λF δ own fl s e k=>?_;refine cT e λrv δ1 e1 e2=>?_;cases e2;exact⟨F,δ,own,rv,δ1,s,e1,λv H1 F1 own1 sH sF s1 _=>k σ H1 F1 own1 sF s1⟩
@[simp]noncomputable def MQ:RV->Wa->Option SV
 | .tmp sv,_=>aA sv
 | .bw i,δ=>δ[i]?.join
@[simp]noncomputable def Yv(fe:FE):FS:=λδ=>(fe δ).bind λp=>(MQ p.1 p.2).bind λsv=>some (.rt sv)
theorem AN(h:Zx Z (Yv fe) E σ H):QN (Zf Z fe) E σ H:=by
 refine Ww h λF δ own fl s e k=>?_;refine cT e λrv δ1 e1 e2=>?_;refine cR e2 λsv e3 e4=>?_;cases e4;refine⟨F,δ,own,rv,δ1,s,e1,λv H1 F1 own1 sH sF s1 r1=>?_⟩;cases rv with
 |tmp sw=>cases e3;obtain⟨ns,t⟩:=r1;exact k v H1 F1 ns sF s1.le s1.fro s1.old t.sh t.nd t.ok
 |bw i=>obtain⟨w,h1,h2⟩:=s1.at' i sv (Cs e3);have XY:σ[i]? =aA (aA v):=r1;rw[XY]at h1;cases h1;exact k v H1 F1 (own1 i) sF s1.le s1.fro s1.old h2 (s1.nod i) (s1.ok i)
@[simp]def stow(i:Nat):RV->Wa->Option Wa
 | .tmp sv,δ=>if i<δ.length then aA (δ.set i (aA sv))else aB
 | .bw j,δ=>(frz (.bw j) δ).bind λp=>if i<p.2.length then aA (p.2.set i (aA (.fz p.1)))else aB
theorem SR.stow(s:SR Z F H σ δ own)(r:Hv Z F H σ own rv v)(e:L2.stow i rv δ=aA δ'):∃F' own',Zo F F'/\SR Z F' H (σ.set i (aA v)) δ' own':=by
 cases rv with
 |tmp sv=>
  obtain⟨ns,t⟩:=r;have e:(if i<δ.length then aA (δ.set i (aA sv))else aB)=aA δ':=e;by_cases hi:i<δ.length
  .rw[bJ hi]at e;cases e;exact⟨F,_,Zo.refl F,s.store t (by rw[s.len];exact hi)⟩
  .rw[bI hi]at e;cases e
 |bw j=>
  refine cT e λd δ1 e1 e2=>?_;refine Yd (s.frzR (rv:=.bw j) (v:=v) r e1) λF1 own1 sF s1 r1=>?_;by_cases hi:i<δ1.length
  .rw[bJ hi]at e2;cases e2;exact⟨F1,_,sF,s1.store (.fz r1) (by rw[s1.len];exact hi)⟩
  .rw[bI hi]at e2;cases e2
@[simp]def Ye(i:Nat)(fe:FE):FS:=λδ=>(fe δ).bind λp=>(stow i p.1 p.2).bind λδ'=>some (.nx δ')
theorem GJ(h:Zx Z (Ye i fe) E σ H):OU (Zf Z fe) (Il i) E σ H:=by refine Ww h λF δ own fl s e k=>?_;refine cT e λrv δ1 e1 e2=>?_;refine cR e2 λδ2 e3 e4=>?_;cases e4;refine⟨F,δ,own,rv,δ1,s,e1,λv H1 F1 own1 sH sF s1 r1=>?_⟩;refine We (s1.stow r1 e3) λF2 own2 ZI s2=>?_;exact k _ H1 F2 own2 (sF.trans ZI) s2
set_option genInjectivity false in
structure FG where
 run:D->Wa->Option Wa
 tch:List Nat
set_option genInjectivity false in
structure FGs where
 run:List D->Wa->Option Wa
 tch:List Nat
def Ra(Z:cU K)(g:FG):TG:=λv σ H Q=>∃F δ own d δ',SR Z F H σ δ own/\cX K F d v/\g.run d δ=aA δ'/\∀ZB own',SR Z F H ZB δ' own'->(∀j:Nat,j∉g.tch->ZB[j]? =σ[j]?)->Q ZB H
def Rp(Z:cU K)(g:FGs):TGs:=λvs σ H Q=>∃F δ own ds δ',SR Z F H σ δ own/\cQ K F ds vs/\g.run ds δ=aA δ'/\∀ZB own',SR Z F H ZB δ' own'->(∀j:Nat,j∉g.tch->ZB[j]? =σ[j]?)->Q ZB H
noncomputable def Zl(i:Nat):FG:=⟨λd δ=>if i<δ.length then aA (δ.set i (aA (.fz d)))else aB,[i]⟩
theorem mK(h:Ra Z (Zl i) v σ H Q):Il i v σ H Q:=by
 obtain⟨F,δ,own,d,δ',s,r,e,k⟩:=h;have e:(if i<δ.length then aA (δ.set i (aA (.fz d)))else aB)=aA δ':=e;by_cases hi:i<δ.length
 .rw[bJ hi]at e;cases e;exact k _ _ (s.store (.fz r) (by rw[s.len];exact hi)) λj hj=>du λz=>hj (by rw[z];exact aa)
 .rw[bI hi]at e;cases e
noncomputable def Ct:FGs:=⟨λds δ=>match ds with
 | []=>aA δ
 |_=>aB,[]⟩
noncomputable def W0(g:FG)(r:FGs):FGs:=⟨λds δ=>match ds with
 |d::t=>(g.run d δ).bind λδ1=>r.run t δ1
 | []=>aB,g.tch++r.tch⟩
@[simp]theorem dM(i d δ):(Zl i).run d δ=if i<δ.length then some (δ.set i (some (.fz d)))else none:=rfl
@[simp]theorem dI(δ):Ct.run [] δ=some δ:=rfl
@[simp]theorem dL(g r d t δ):(W0 g r).run (d::t) δ=(g.run d δ).bind λδ1=>r.run t δ1:=rfl
theorem qy(h:Rp Z Ct vs σ H Q):BG vs σ H Q:=by
 obtain⟨F,δ,own,ds,δ',s,r,e,k⟩:=h;cases r with
 |nil=>cases e;exact⟨rfl,k σ own s λ_ _=>rfl⟩
 |cons h t=>cases e
theorem mJ(h:Rp Z (W0 g r) vs σ H Q):zD (Ra Z g) (Rp Z r) vs σ H Q:=by
 obtain⟨F,δ,own,ds,δ',s,rr,e,k⟩:=h;cases rr with
 |nil=>cases e
 |cons h t=>refine cR e λδ1 e1 e2=>?_;exact⟨_,_,rfl,F,δ,own,_,δ1,s,h,e1,λUF own1 s1 t1=>⟨F,δ1,own1,_,δ',s1,t,e2,λYU own2 s2 t2=>k YU own2 s2 λj hj=>(t2 j λz=>hj (bp _ z)).trans (t1 j λz=>hj (ci _ z))⟩⟩
noncomputable def Bv(n:Nat)(g:FGs):FG:=⟨λd δ=>match d with
 | .tup xs=>if xs.length=n then g.run xs δ else aB
 |_=>aB,g.tch⟩
@[simp]theorem dH(n g xs δ):(Bv n g).run (.tup xs) δ=if xs.length=n then g.run xs δ else none:=rfl
theorem qw(h:Ra Z (Bv n g) v σ H Q):BF K n (Rp Z g) v σ H Q:=by
 obtain⟨F,δ,own,d,δ',s,r,e,k⟩:=h;dsimp only[Bv]at e;split at e
 .rename_i xs;by_cases hn:xs.length=n
  .rw[bJ hn]at e;cases r with
   |tup h r=>exact⟨_,_,rfl,Od s.le (Ip h),by rw[<-r.length];exact hn,F,δ,own,_,δ',s,r,e,k⟩
  .rw[bI hn]at e;cases e
 .cases e
@[simp]noncomputable def Yr(tg:FG)(body:FS):List D->Wa->Option Fl
 | [],δ=>aA (.nx δ)
 |d::ds,δ=>(tg.run d δ).bind λδ1=>(body δ1).bind fun
  | .nx δ2=>Yr tg body ds δ2
  | .ct δ2=>Yr tg body ds δ2
  | .bk δ2=>aA (.nx δ2)
  | .rt sv=>aA (.rt sv)
  | .ex x δ2=>aA (.ex x δ2)
def Gi(K:aj)(J:It)(F:Hp)(ds:List D):Prop:=∀F' H,Zo F F'->Zo F' H->∀i:Nat,
 (∀d,ds[i]? =aA d->J.go i H/\∀x H',J.yld i H x H'->Zo H H'/\∃ns,(B9 ns).Nodup/\(∀p∈ns,H p.1=aB/\H' p.1=aA p.2)/\cX K (Uc F' ns) d x)/\(ds.length<=i->J.stop i H)
def Ue(Z:cU K)(f:FD):TI:=λσ H R=>∃F δ own ds δ',SR Z F H σ δ own/\f δ=aA (ds,δ')/\
 ∀J H' F' own',Zo H H'->Zo F F'->SR Z F' H' σ δ' own'->Gi K J F' ds->R J H'
@[simp]noncomputable def Uw(fi:FD)(tg:FG)(body:FS):FS:=λδ=>(fi δ).bind λp=>Yr tg body p.1 p.2
theorem SR.fresh(s:SR Z F H σ δ own)(sm:Zo H H')(nd:(B9 ns).Nodup)(h:∀p∈ns,H p.1=aB/\H' p.1=aA p.2):Zo F (Uc F ns)/\SR Z (Uc F ns) H' σ δ own:=by refine⟨Q9 λp hp=>s.le.free (h p hp).1,(s.grow sm).addF nd (λp hp=>s.le.free (h p hp).1) (λp hp=>(h p hp).2) (λp hp=>s.old.free (h p hp).1) λi p q hp hq e=>?_⟩;have z:=(s.ok i q hq).2.2;rw[<-e,(h p hp).1]at z;cases z
theorem u2(h:Zx Z (Uw fi tg body) E σ H):BD (Ue Z fi) (Ra Z tg) (Zx Z body) E σ H:=by
 refine Ww h λF δ own fl s e k=>?_;refine cT e λds δ1 e1 e2=>?_;refine⟨F,δ,own,ds,δ1,s,e1,λJ H1 F1 own1 sH sF s1 yl=>?_⟩;refine⟨λi m σ H=>m=ds.length- i/\i<=ds.length/\∃F δ own,Zo F1 F/\SR Z F H σ δ own/\Yr tg body (ds.drop i) δ=aA fl,⟨ds.length,by simp,cr _,F1,δ1,own1,Zo.refl F1,s1,e2⟩,?_⟩;rintro i m ZB H' ⟨rfl,hi,F2,δ2,own2,ZI,s2,ef⟩;by_cases YL:i<ds.length
 .have hd:ds[i]? =aA ds[i]:=by simp[YL]
  obtain⟨go,yy⟩:=(yl F2 H' ZI s2.le i).1 _ hd;rw[dy YL]at ef;refine cR ef λXZ e3 e4=>?_;refine cR e4 λf1 e5 e6=>?_;refine .inr ⟨go,λWN H4=>∃F δ own,Zo F1 F/\SR Z F H4 WN δ own/\Yr tg body (ds.drop (i+1)) δ=aA fl,λWN H4 ⟨F4,UG,YR,a,b,c⟩=>⟨ds.length- (i+1),by omega,rfl,YL,F4,UG,YR,a,b,c⟩,λx H3 hy=>?_⟩;obtain⟨sm,ns,nd,hn,rp⟩:=yy x H3 hy;obtain⟨VD,sn⟩:=s2.fresh sm nd hn;refine⟨Uc F2 ns,δ2,own2,_,XZ,sn,rp,e3,λeP X' s5 _=>⟨Uc F2 ns,XZ,X',f1,s5,e5,?_⟩⟩;cases f1 with
  |nx XH=>exact λXR H6 F6 ZW a b=>⟨F6,XH,ZW,ZI.trans (VD.trans a),b,e6⟩
  |ct XH=>exact λXR H6 F6 ZW a b=>⟨F6,XH,ZW,ZI.trans (VD.trans a),b,e6⟩
  |bk XH=>cases e6;exact λXR H6 F6 ZW a b=>k XR H6 F6 ZW (sF.trans (ZI.trans (VD.trans a))) b
  |rt sv=>cases e6;exact λv H6 F6 KR a=>k v H6 F6 KR (sF.trans (ZI.trans (VD.trans a)))
  |ex x XH=>cases e6;exact λXR H6 F6 ZW cls od a=>k XR H6 F6 ZW cls od (sF.trans (ZI.trans (VD.trans a)))
 .have hz:i=ds.length:=by omega
  subst hz;rw[List.drop_length]at ef;cases ef;exact .inl ⟨(yl F2 H' ZI s2.le _).2 (bg _),k ZB H' F2 own2 (sF.trans ZI) s2⟩
noncomputable def Ju(t:FT)(body:FS):Nat->Wa->Option Fl
 |0,_=>aB
 |n+1,δ=>(t δ).bind λp=>if p.1=aC then(body p.2).bind (fun
  | .nx δ2=>Ju t body n δ2
  | .ct δ2=>Ju t body n δ2
  | .bk δ2=>aA (.nx δ2)
  | .rt sv=>aA (.rt sv)
  | .ex x δ2=>aA (.ex x δ2))else aA (.nx p.2)
theorem mI(h:Zx Z (Ju t body n) E σ H):yZ (Wc Z t) (Zx Z body) E σ H:=by
 refine Ww h λF δ own fl s e k=>?_;refine⟨λm σ H=>∃F2 δ own,Zo F F2/\SR Z F2 H σ δ own/\Ju t body m δ=aA fl,⟨n,F,δ,own,Zo.refl F,s,e⟩,?_⟩;rintro m UF H1 ⟨F1,δ1,own1,YV,s1,e1⟩;cases m with
 |zero=>cases e1
 |succ m=>
  refine cT e1 λc δ2 e2 e3=>?_;refine⟨F1,δ1,own1,c,δ2,s1,e2,λH2 F2 own2 sH ZI s2=>?_⟩;cases c with
  |false=>rw[bI bi]at e3⊢;cases e3;exact k UF H2 F2 own2 (YV.trans ZI) s2
  |true=>
   rw[bJ rfl]at e3⊢;refine cR e3 λf1 e4 e5=>?_;refine⟨λZB H'=>∃F2 δ own,Zo F F2/\SR Z F2 H' ZB δ own/\Ju t body m δ=aA fl,λZB H' w=>⟨m,Nat.lt_succ_self m,w⟩,F2,δ2,own2,f1,s2,e4,?_⟩;cases f1 with
   |nx XH=>exact λXR H6 F6 ZW a b=>⟨F6,XH,ZW,YV.trans (ZI.trans a),b,e5⟩
   |ct XH=>exact λXR H6 F6 ZW a b=>⟨F6,XH,ZW,YV.trans (ZI.trans a),b,e5⟩
   |bk XH=>cases e5;exact λXR H6 F6 ZW a b=>k XR H6 F6 ZW (YV.trans (ZI.trans a)) b
   |rt sv=>cases e5;exact λv H6 F6 KR a=>k v H6 F6 KR (YV.trans (ZI.trans a))
   |ex x XH=>cases e5;exact λXR H6 F6 ZW cls od a=>k XR H6 F6 ZW cls od (YV.trans (ZI.trans a))
theorem Hy(h:On K F a vs)(r:cQ K F xs vs):Gi K (Itl K a) F xs:=λF' H sF sH i=>by have q:On K H a vs:=Qq (sF.trans sH) h;refine⟨λd hd=>?_,λhl=>⟨vs,q,by rw[<-r.length];exact hl⟩⟩;obtain⟨v,h1,h2⟩:=r.get hd;refine⟨⟨vs,v,q,h1⟩,λx H' ZJ=>?_⟩;obtain⟨e1,e2⟩:=ZJ;subst e1;have e3:=e2 vs q;rw[h1]at e3;cases e3;exact⟨Zo.refl _,[],cx,λ_ h=>(nomatch h),h2.mono sF⟩
theorem iT(h:Er K F a vs)(r:cQ K F xs vs):Gi K (Itt K a) F xs:=λF' H sF sH i=>by have q:Er K H a vs:=Od (sF.trans sH) h;refine⟨λd hd=>?_,λhl=>⟨vs,q,by rw[<-r.length];exact hl⟩⟩;obtain⟨v,h1,h2⟩:=r.get hd;refine⟨⟨vs,v,q,h1⟩,λx H' ZJ=>?_⟩;obtain⟨e1,e2⟩:=ZJ;subst e1;have e3:=e2 vs q;rw[h1]at e3;cases e3;exact⟨Zo.refl _,[],cx,λ_ h=>(nomatch h),h2.mono sF⟩
noncomputable def Kp(lo:Int)(n:Nat):List D:=(gh n).map λi=>.int (lo+(i:Nat))
theorem Vh{lo}:Gi K (Itr lo n) F (Kp lo n):=λF' H sF sH i=>by
 have hl:(Kp lo n).length=n:=by unfold Kp;rw[ay,List.length_range]
 refine⟨λd hd=>?_,λh=>by rw[hl]at h;exact h⟩;have hi:i<n:=by have:=(bf.mp hd).1;rw[hl]at this;exact this
 refine⟨hi,λx H' ZJ=>?_⟩;obtain⟨e1,e2⟩:=ZJ;subst e1 e2;unfold Kp at hd;rw[bz,List.getElem?_range hi]at hd;cases hd;exact⟨Zo.refl _,[],cx,λ_ h=>(nomatch h),.int _⟩
def Nl(j:Int):Prop:=-(2^62)<=j/\j<2^62
theorem nO(h0:0<=j)(h:j<=16777216):Nl j:=⟨by omega,by omega⟩
theorem Rq{n:Nat}(h:n<=16777216):Nl (n:Int):=nO (by omega) (by omega)
open Classical in
@[simp]def Hz(fa:FA):FD:=λδ=>(fa δ).bind λp=>match Bt p.1 p.2 with
 |some [.int j]=>if Nl j then aA (Kp 0 j.toNat,p.2)else aB
 |_=>aB
theorem qv(h:Ue Z (Hz fa) σ H R):zC (Bs Z fa) σ H R:=by
 refine Yx h λF δ own ds δ' s e k=>?_;refine cT e λrvs δ1 e1 e2=>?_;refine⟨F,δ,own,rvs,δ1,s,e1,λvs H1 F1 own1 sH sF s1 r1=>?_⟩;dsimp only at e2;split at e2
 .rename_i j hj;have rn:=s1.rdAll r1 hj;cases rn with
  |cons h t=>
   cases t;by_cases hb:Nl j
   .rw[bJ hb]at e2;cases e2;exact⟨j,by rw[h.int],hb.1,hb.2,k _ H1 F1 own1 sH sF s1 Vh⟩
   .rw[bI hb]at e2;cases e2
 .cases e2
@[simp]def Vi(i:Nat)(fe:FE):FS:=λδ=>match δ[i]? with
 |some (aA (.ol _))=>(fe δ).bind λp=>(frz p.1 p.2).bind λq=>match q.2[i]? with
  |some (aA (.ol xs))=>if xs.length<bu then aA (.nx (q.2.set i (aA (.ol (xs++[q.1])))))else aB
  |_=>aB
 |_=>aB
theorem Qr(h:cV K F (.ol xs) v ns):∃a vs,v= .ref a/\ns=[(a,.lst vs)]/\cQ K F xs vs:=by
 cases h with
 |ol r=>exact⟨_,_,rfl,rfl,r⟩
theorem u1(h:Zx Z (Vi i fe) E σ H):M7 (tBM K "list" Ou (Ol i) (O6 (Zf Z fe) Rh)) E σ H:=by
 refine Ww h λF δ own fl s e k=>?_;unfold Vi at e;split at e
 .rename_i xs0 UJ;refine cT e λrv δ1 e1 e2=>?_;refine cT e2 λd δ2 e3 e4=>?_;obtain⟨v,hv,sh⟩:=s.at' i _ UJ;refine Yd (Qr sh) λa XX ev en r0=>?_;refine⟨v,hv,?_,F,δ,own,rv,δ1,s,e1,λy H1 F1 own1 sH sF s1 r1=>?_⟩
  .subst ev;exact .inl ⟨rfl,XX,.inl (.inl (s.ok i (a,.lst XX) (by rw[en];exact aa)).2.2)⟩
  refine Zr (s1.settleR r1) λF2 ZI s2 r2=>?_;refine Yd (s2.frzR r2 e3) λF3 ZP ZU s3 r3=>?_;dsimp only at e4;split at e4
  .rename_i xs hx;by_cases hz:xs.length<bu
   .rw[bJ hz]at e4;cases e4;obtain⟨v',YA,XT⟩:=s3.at' i _ hx;rw[hv]at YA;cases YA;refine Yd (Qr XT) λb vs eb VM r'=>?_;have mb:(b,HO.lst vs)∈ZP i:=by rw[VM];exact aa
    subst eb;refine⟨b,vs,y,rfl,rfl,(s3.ok i _ mb).2.2,by rw[<-r'.length];exact hz,?_⟩;exact k σ _ F3 _ (sF.trans (ZI.trans ZU)) (s3.change (sv':=.ol (xs++[d])) (o':=.lst (vs++[y])) (ns':=[(b,.lst (vs++[y]))]) hx hv mb (.ol (r'.snoc r3)) (λp hp=>.inl (af.mp hp)) Fk)
   .rw[bI hz]at e4;cases e4
  .cases e4
 .cases e
end
@[simp]noncomputable def Ca(n:Nat)(ds:List D):Wa:=ds.map (λd=>some (.fz d))++List.replicate (n- ds.length) none
theorem Al(le:Zo F H)(r:cQ K F ds vs):SR (ent H F:cU K) F H (L2.start N vs) (Ca N.length ds) λ_=>[]:=by
 have hl:=r.length;refine⟨le,λb o e=>.inl e,Zo.refl H,?_,λi sv e=>?_,λ_=>cx,λ_ _ h=>(nomatch h),λ_ _ _ _ _ h=>(nomatch h)⟩
 .unfold L2.start Ca;rw[ao,ao,ay,ay,List.length_replicate,List.length_replicate,hl]
 .unfold Ca at e;by_cases hi:i<ds.length
  .rw[fm (by simpa using hi),bz]at e;cases hd:ds[i]? with
   |none=>rw[hd]at e;cases e
   |some d=>rw[hd]at e;cases e;obtain⟨v,h1,h2⟩:=r.get hd;refine⟨v,?_,.fz h2⟩;unfold L2.start;rw[fm (by rw[ay];omega),bz,h1];rfl
  .rw[dv (by simpa using hi),List.getElem?_replicate]at e;split at e<;> cases e
theorem l7(h:Y3 K n g vs H Q E):vs.length=n:=by obtain⟨F,ds,sv,le,r,hn,e,k⟩:=h;rw[<-r.length];exact hn
end
section
variable{K:aj}
def xG(K:aj)(g:FG):TG:=λv σ H Q=>∃Z:cU K,Ra Z g v σ H Q
def xT(K:aj)(f:FT):TT:=λσ H Q=>∃Z:cU K,Wc Z f σ H Q
def xE(K:aj)(f:FE):TE:=λσ H Q=>∃Z:cU K,Zf Z f σ H Q
noncomputable def O8:FT:=λδ=>aA (aC,δ)
@[simp]theorem dG(δ):O8 δ=some (true,δ):=rfl
@[simp]noncomputable def caps(src:List BSrc):List RV:=src.filterMap fun
 | .cap j=>aA (.bw j)
 |_=>aB
@[simp]noncomputable def EB(δ:Wa):BSrc->Option SV
 | .own=>aB
 | .cap j=>match δ[j]?.join with
  |some (.fz d)=>aA (.fz d)
  |_=>aB
 | .acc=>aA (.ol [])
@[simp]noncomputable def bD(src:List BSrc)(δ:Wa):Wa:=src.map (EB δ)
@[simp]noncomputable def resetSlot:BSrc->Option SV->Option SV
 | .own,_=>aB
 |_,o=>o
@[simp]def Rr:List BSrc->Wa->Wa
 |b::r,o::t=>resetSlot b o::Rr r t
 |_,t=>t
@[simp]def Wl(src:List BSrc)(k:Nat)(g:FG)(tt:FT)(te:FE):List D->Wa->Option Wa
 | [],δ=>aA δ
 |d::ds,δ=>(g.run d δ).bind λδ1=>(tt δ1).bind λp=>if p.1=aC then(te p.2).bind λq=>(frz q.1 q.2).bind λr=>match r.2[k]? with
   |some (aA (.ol zs))=>if zs.length<bu then Wl src k g tt te ds (Rr src (r.2.set k (aA (.ol (zs++[r.1])))))else aB
   |_=>aB
  else Wl src k g tt te ds (Rr src p.2)
@[simp]def Op(src:List BSrc)(k:Nat)(fi:FD)(g:FG)(tt:FT)(te:FE):FE:=λδ=>(fi δ).bind λp=>(frzAll (caps src) p.2).bind λc=>(Wl src k g tt te p.1 (bD src c.2)).bind λLP=>match LP[k]? with
 |some (aA (.ol ys))=>aA (.tmp (.ol ys),c.2)
 |_=>aB
theorem Cu:∀src δ,(Rr src δ).length=δ.length
 | [],t=>by unfold Rr;rfl
 |_::_,[]=>by unfold Rr;rfl
 |b::r,o::t=>by show(resetSlot b o::Rr r t).length=_;rw[bc,bc,Cu r t]
theorem Cv:∀{src:List BSrc} {δ:Wa} {i:Nat} {sv:SV},(Rr src δ)[i]? =aA (aA sv)->δ[i]? =aA (aA sv)
 | [],_,_,_,h=>h
 |_::_,[],_,_,h=>h
 |b::r,o::t,0,sv,h=>by
  have h:aA (resetSlot b o)=aA (aA sv):=h;cases b with
  |own=>cases h
  |cap j=>exact h
  |acc=>exact h
 |b::r,o::t,i+1,sv,h=>by have h:(Rr r t)[i]? =aA (aA sv):=h;show t[i]? =_;exact Cv h
section
variable{Z:cU K}{F H:Hp}{σ:St}{δ δ':Wa}{own:Nat->Zu}
theorem SR.forget(s:SR Z F H σ δ own)(hl:δ'.length=δ.length)(h:∀(i:Nat) sv,δ'[i]? =aA (aA sv)->δ[i]? =aA (aA sv)):SR Z F H σ δ' own:=
 ⟨s.le,s.fro,s.old,s.len.trans hl.symm,λi sv e=>s.at' i sv (h i sv e),s.nod,s.ok,s.sep⟩
theorem SR.caps:∀{rvs:List RV} {ds:List D} {δ δ':Wa} {F:Hp} {own:Nat->Zu},(∀rv∈rvs,∃j,rv= .bw j)->SR Z F H σ δ own->L2.frzAll rvs δ=aA (ds,δ')->∃F1 own1,Zo F F1/\SR Z F1 H σ δ' own1
 | [],_,_,_,F,own,_,s,e=>by cases e;exact⟨F,own,Zo.refl F,s⟩
 |rv::r,_,_,_,F,own,hb,s,e=>by refine cT e λd δ1 e1 e2=>?_;refine cT e2 λds δ2 e3 e4=>?_;cases e4;obtain⟨j,rfl⟩:=hb rv aa;refine cR e1 λsv e5 e6=>?_;cases e6;refine G9 (s.freeze (Cs e5)) λF1 v sF _ _ s1=>?_;obtain⟨F2,own2,ZI,s2⟩:=SR.caps (λrv h=>hb rv (ad _ h)) s1 e3;exact⟨F2,own2,sF.trans ZI,s2⟩
theorem SR.after(s2:SR Z F H σ δ own)(YO:Zo H H3)(ZU:Zo F F3)(UQ:Zo F3 H3)(YX:∀b o,F3 b=aA o->F b=aA o\/H b=aB):SR Z F3 H3 σ δ own:=by
 refine⟨UQ,λb o e=>?_,s2.old.trans YO,s2.len,λi sw ei=>?_,s2.nod,λi p hp=>?_,s2.sep⟩
 .rcases YX b o e with z|z
  .exact s2.fro b o z
  .exact .inr (s2.old.free z)
 .obtain⟨w,h1,h2⟩:=s2.at' i sw ei;exact⟨w,h1,h2.mono ZU⟩
 .obtain⟨a,b,c⟩:=s2.ok i p hp;refine⟨?_,b,YO _ _ c⟩;cases z:F3 p.1 with
  |none=>rfl
  |some u=>
   rcases YX _ u z with y|y
   .rw[a]at y;cases y
   .rw[c]at y;cases y
end
structure SrcOk(src:List BSrc)(k:Nat):Prop where
 acc:src[k]? =aA .acc
 uni:∀i:Nat,src[i]? =aA .acc->i=k
theorem H0{Z:cU K}(S:SrcOk src k)(s:SR Z F H σ δ own)(ha:H acc=aB):
  SR (ent H F:cU K) F (Wu H acc (.lst [])) (Pe src σ acc) (bD src δ) (λi=>if i=k then[(acc,.lst [])]else[]):=by
 have mem:∀{i:Nat} {p:av×HO},p∈(if i=k then[(acc,HO.lst [])]else[])->i=k/\p=(acc,.lst []):=fun{i p} h=>by
  by_cases hi:i=k
  .rw[bJ hi]at h;exact⟨hi,af.mp h⟩
  .rw[bI hi]at h;exact nomatch h
 refine⟨s.le.trans (Jh ha),λb o e=>.inl e,Jh ha,by unfold Pe bD;rw[ay,ay],λi sv e=>?_,λi=>?_,λi p hp=>?_,λi j p q TR hp hq=>?_⟩
 .unfold bD at e;rw[bz]at e;cases hq:src[i]? with
  |none=>rw[hq]at e;cases e
  |some q=>
   rw[hq]at e;have e:EB δ q=aA sv:=Option.some.inj e;cases q with
   |own=>cases e
   |acc=>cases e;have hi:=S.uni i hq;refine⟨.ref acc,by unfold Pe;rw[bz,hq];rfl,?_⟩;show cV K F (.ol []) (.ref acc) (if i=k then[(acc,.lst [])]else[]);rw[bJ hi];exact .ol .nil
   |cap j=>
    have hi:i≠k:=λz=>by rw[z,S.acc]at hq;cases hq
    unfold EB at e;dsimp only at e;split at e
    .rename_i d hd;cases e;obtain⟨v,h1,h2⟩:=s.at' j _ (Cs hd);refine⟨v,by unfold Pe;rw[bz,hq];show aA (σ[j]?).join=_;rw[h1];rfl,?_⟩;show cV K F (.fz d) v (if i=k then[(acc,.lst [])]else[]);rw[bI hi];exact .fz (Q0 h2)
    .cases e
 .show(B9 (if i=k then[(acc,HO.lst [])]else[])).Nodup;by_cases hi:i=k
  .rw[bJ hi];exact Fk
  .rw[bI hi];exact cx
 .obtain⟨_,rfl⟩:=mem hp;exact⟨s.le.free ha,ha,Yp⟩
 .obtain⟨z,_⟩:=mem hp;obtain⟨y,_⟩:=mem hq;exact bN (z.trans y.symm) TR
theorem yO{Z:cU K}(S:SrcOk src k)(hk:k∉g.tch)(h:Zf Z (Op src k fi g tt te) σ H Q):
  GL src (Ue Z fi) (xG K g) (xT K tt) (xE K te) σ H Q:=by
 refine Yx h λF δ own rv δ' s e k0=>?_;refine cT e λds δ1 e1 e2=>?_;refine cT e2 λcs δ2 e3 e4=>?_;refine cR e4 λLO e5 e6=>?_;refine⟨F,δ,own,ds,δ1,s,e1,λJ H1 F1 own1 sH sF s1 yl acc ha=>?_⟩;obtain⟨F2,own2,ZI,s2⟩:=s1.caps (λrv hr=>by
  unfold L2.caps at hr;obtain⟨b,_,hb⟩:=List.mem_filterMap.mp hr;cases b with
  |own=>cases hb
  |acc=>cases hb
  |cap j=>cases hb;exact⟨j,rfl⟩) e3
 have s3:=H0 S s2 ha;have UD:(Pe src σ acc)[k]? =aA (aA (.ref acc)):=by unfold Pe;rw[bz,S.acc];rfl
 refine⟨λi m ZB H=>m=ds.length- i/\i<=ds.length/\ZB[k]? =aA (aA (.ref acc))/\∃F δ own,Zo F2 F/\SR (ent H1 F2:cU K) F H ZB δ own/\Wl src k g tt te (ds.drop i) δ=aA LO,
  ⟨ds.length,by simp,cr _,UD,F2,_,_,Zo.refl F2,s3,e5⟩,?_⟩
 rintro i m WN H4 ⟨rfl,hi,YW,F4,UG,YR,ZY,s4,ef⟩;by_cases YL:i<ds.length
 .have hd:ds[i]? =aA ds[i]:=by simp[YL]
  obtain⟨go,yy⟩:=(yl F4 H4 (ZI.trans ZY) s4.le i).1 _ hd;rw[dy YL]at ef;refine cR ef λU_ e7 e8=>?_;refine cT e8 λb XH e9 UE=>?_;refine .inr ⟨go,λx H5 hy=>?_⟩;obtain⟨sm,ns,nd,hn,rp⟩:=yy x H5 hy;obtain⟨VD,sn⟩:=s4.fresh sm nd hn;refine⟨(ent H1 F2:cU K),Uc F4 ns,UG,YR,_,U_,sn,rp,e7,λXR ZW s6 t6=>⟨(ent H1 F2:cU K),Uc F4 ns,U_,ZW,b,XH,s6,e9,λH7 F7 VH LY UM s7=>?_⟩⟩;have YN:XR[k]? =aA (aA (.ref acc)):=(t6 k hk).trans YW;cases b with
  |false=>dsimp only;rw[bI bi]at UE⊢;exact⟨ds.length- (i+1),by omega,rfl,YL,YN,F7,_,VH,ZY.trans (VD.trans UM),s7.forget (Cu src XH) (λj sv hj=>Cv hj),UE⟩
  |true=>
   dsimp only;rw[bJ rfl]at UE⊢;refine cT UE λEW LQ QE TZ=>?_;refine cT TZ λd9 vS IG WM=>?_;refine⟨(ent H1 F2:cU K),F7,XH,VH,EW,LQ,s7,QE,λy H8 F8 KM vj KC s8 r8=>?_⟩;refine Zr (s8.settleR r8) λF9 L' s9 r9=>?_;refine Yd (s9.frzR r9 IG) λEO VT SL UN KL=>?_;dsimp only at WM;split at WM
   .rename_i zs hz;by_cases hzl:zs.length<bu
    .rw[bJ hzl]at WM;obtain⟨v',YA,XT⟩:=UN.at' k _ hz;rw[YN]at YA;cases YA;refine Yd (Qr XT) λb vs eb VM r'=>?_;cases eb;have mb:(acc,HO.lst vs)∈VT k:=by rw[VM];exact aa
     refine⟨acc,vs,y,rfl,rfl,(UN.ok k _ mb).2.2,by rw[<-r'.length];exact hzl,?_⟩;have s11:=UN.change (sv':=.ol (zs++[d9])) (o':=.lst (vs++[y])) (ns':=[(acc,.lst (vs++[y]))]) hz YN mb (.ol (r'.snoc KL)) (λp hp=>.inl (af.mp hp)) Fk;exact⟨ds.length- (i+1),by omega,rfl,YL,YN,EO,_,_,ZY.trans (VD.trans (UM.trans (KC.trans (L'.trans SL)))),s11.forget (Cu src _) (λj sv hj=>Cv hj),WM⟩
    .rw[bI hzl]at WM;cases WM
   .cases WM
 .have hz:i=ds.length:=by omega
  subst hz;rw[List.drop_length]at ef;cases ef;refine .inl ⟨(yl F4 H4 (ZI.trans ZY) s4.le _).2 (bg _),?_⟩;dsimp only at e6;split at e6
  .rename_i ys hys;cases e6;obtain⟨v',YA,XT⟩:=s4.at' k _ hys;rw[YW]at YA;cases YA;refine Yd (Qr XT) λb vs eb VM r'=>?_;cases eb;have mb:(acc,HO.lst vs)∈YR k:=by rw[VM];exact aa
   obtain⟨o1,o2,o3⟩:=s4.ok k _ mb;refine k0 (.ref acc) H4 F4 own2 (sH.trans s4.old) (sF.trans (ZI.trans ZY)) (s2.after s4.old ZY s4.le λb o e=>s4.fro b o e) ⟨[(acc,.lst vs)],.ol r',Fk,λp hp=>?_,λj p q hp hq e=>?_⟩
   .obtain rfl:=af.mp hp;exact⟨o1,s2.old.free ha,o3⟩
   .obtain rfl:=af.mp hp;have z:=(s2.ok j q hq).2.2;have e':acc=q.1:=e;rw[<-e',ha]at z;cases z
  .cases e6
end
section
variable{K:aj}
variable{Z:cU K}
@[simp]noncomputable def QK(f:Int->Int->D):D->D->Option SV
 | .int i,.int j=>aA (.fz (f i j))
 |_,_=>aB
@[simp]noncomputable def OR(C:Int->Int->Bool)(f:Int->Int->D):D->D->Option SV
 | .int i,.int j=>if C i j=aC then aA (.fz (f i j))else aB
 |_,_=>aB
theorem LM(hr:∀F i j,cX K F (f i j) (g i j)):Wj Z (rI0 g) (QK f):=by
 intro F H σ δ own x y d1 d2 sv Q s r1 r2 e k;unfold QK at e;split at e
 .cases e;exact⟨_,_,r1.int,r2.int,k.fz s (hr _ _ _)⟩
 .cases e
theorem HM(hc:∀i j,c i j=aC->C i j)(hr:∀F i j,cX K F (f i j) (g i j)):Wj Z (rI C g) (OR c f):=by
 intro F H σ δ own x y d1 d2 sv Q s r1 r2 e k;unfold OR at e;split at e
 .split at e
  .rename_i hcc;cases e;exact⟨_,_,r1.int,r2.int,hc _ _ hcc,k.fz s (hr _ _ _)⟩
  .cases e
 .cases e
@[simp]def RQ:D->D->Option SV:=QK λi j=>.int (i- j)
noncomputable def OQ(i j:Int):Bool:=(decide (-(2^64)<i)&&decide (i<2^64))|| (decide (-(2^64)<j)&&decide (j<2^64))
@[simp]def CJ:D->D->Option SV:=OR OQ λi j=>.int (i*j)
@[simp]noncomputable def CY(i j:Int):Bool:=decide (0<j)&&decide (j<1073741824)
@[simp]def Iq:D->D->Option SV:=OR CY λi j=>.int (i / j)
@[simp]noncomputable def CW(i j:Int):Bool:=decide (0<j)
@[simp]def Q1:D->D->Option SV:=OR CW λi j=>.int (i % j)
theorem tM:Wj Z (rI0 λi j=>V.int (i- j)) RQ:=LM λ_ _ _=>.int _
theorem tL:Wj Z (rI OT λi j=>V.int (i*j)) CJ:=HM (λi j h=>by
 unfold OQ at h;simp only[Bool.or_eq_true,dn,decide_eq_true_eq]at h;exact h) λ_ _ _=>.int _
theorem qu:Wj Z (rI BB λi j=>V.int (i / j)) Iq:=HM (λi j h=>by
 unfold CY at h;simp only[dn,decide_eq_true_eq]at h;exact h) λ_ _ _=>.int _
theorem tK:Wj Z (rI (λ_ j=>0<j) λi j=>V.int (i % j)) Q1:=HM (λi j h=>by
 unfold CW at h;simp only[decide_eq_true_eq]at h;exact h) λ_ _ _=>.int _
@[simp]def ltD:D->D->Option SV:=QK λi j=>.bl (decide (i<j))
@[simp]def leD:D->D->Option SV:=QK λi j=>.bl (decide (i<=j))
@[simp]def gtD:D->D->Option SV:=QK λi j=>.bl (decide (j<i))
theorem gS:Wj Z (rI0 λi j=>V.bl (decide (i<j))) ltD:=LM λ_ _ _=>.bl _
theorem HL:Wj Z (rI0 λi j=>V.bl (decide (i<=j))) leD:=LM λ_ _ _=>.bl _
theorem gR:Wj Z (rI0 λi j=>V.bl (decide (j<i))) gtD:=LM λ_ _ _=>.bl _
def gQ:R2:=λx y H Q=>∃i j,x= .str i/\y= .str j/\i.length+j.length<=bu/\Q (.str (i++j)) H
def AL(K:aj):R2:=λx y H Q=>∃l b xs zs,x= .ref l/\y= .ref b/\On K H l xs/\On K H b zs/\xs.length+zs.length<=bu/\∀p,H p=aB->Q (.ref p) (Wu H p (.lst (xs++zs)))
theorem nN:B5 X (binaryOp .Add) (AL X.K):=by
 intro cO s σ H x y v u Q I rx ry h;obtain⟨l,b,xs,zs,rfl,rfl,hH,hB,hz,q⟩:=h;cases rx;cases ry;refine Zr (I.list hH) λcS r pl z=>?_;refine Zr (I.list hB) λYT r2 vm z2=>?_;have hl:=r.length;have hl2:=r2.length;obtain⟨⟨cls,dd,data,sl⟩,ho,hc,n,hd⟩:=pl.isList;obtain⟨⟨cls2,dd2,data2,sl2⟩,ho2,hc2,n2,hd2⟩:=vm.isList;simp only at hc hd hc2 hd2;subst hc hd hc2 hd2;have ea:cS.toArray++YT.toArray=(cS++YT).toArray:=by simp
 refine concat_meets ⟨_,ho,rfl⟩ ⟨_,ho2,rfl⟩ noFill_list_add seq_list_add PySem.F.slot_list_add PySem.F.entry_list_add (PySem.F.args_list_add_2 _ _) (list_addW l b cS.toArray YT.toArray n n2 dd dd2 sl sl2 (by rw[bq,bq];omega)) ⟨ho,ho2,?_⟩;rw[ea];exact⟨.ref _,_,I.lnew (t':=s.toks) (r.append r2) (by rw[ao];omega),rfl,q _ I.fresh⟩
def AJ(K:aj):R2:=λx y H Q=>rI0 (λi j=>V.int (i+j)) x y H Q\/(gQ x y H Q\/AL K x y H Q)
theorem nM:B5 X (binaryOp .Add) (AJ X.K):=qr.or (iY.or nN)
@[simp]noncomputable def Wo:D->D->Option SV
 | .int i,.int j=>aA (.fz (.int (i+j)))
 | .str x,.str y=>if x.length+y.length<=bu then aA (.fz (.str (x++y)))else aB
 | .lst xs,.lst ys=>if xs.length+ys.length<=bu then aA (.ol (xs++ys))else aB
 |_,_=>aB
theorem tJ:Wj Z (AJ K) Wo:=by
 intro F H σ δ own x y d1 d2 sv Q s r1 r2 e k;unfold Wo at e;split at e
 .cases e;exact .inl ⟨_,_,r1.int,r2.int,k.fz s (.int _)⟩
 .split at e
  .rename_i hz;cases e;exact .inr (.inl ⟨_,_,r1.str,r2.str,hz,k.fz s (.str _)⟩)
  .cases e
 .split at e
  .rename_i hz;cases e;refine Yd (r1.lst s.le) λa vs ex ha ra=>?_;refine Yd (r2.lst s.le) λb us ey hb rb=>?_;exact .inr (.inr ⟨a,b,vs,us,ex,ey,ha,hb,by rw[<-ra.length,<-rb.length];exact hz,λp hp=>k.lst s (ra.append rb) hp⟩)
  .cases e
 .cases e
@[simp]noncomputable def eqS:D->D->Option Bool
 | .non,.non=>aA aC
 | .non,.int _=>aA aD
 | .int _,.non=>aA aD
 | .non,.bl _=>aA aD
 | .bl _,.non=>aA aD
 | .non,.str _=>aA aD
 | .str _,.non=>aA aD
 | .int i,.int j=>aA (decide (i=j))
 | .bl i,.bl j=>aA (decide (i=j))
 | .str i,.str j=>aA (decide (i=j))
 | .int _,.str _=>aA aD
 | .str _,.int _=>aA aD
 | .bl _,.str _=>aA aD
 | .str _,.bl _=>aA aD
 |_,_=>aB
theorem yV(e:eqS d1 d2=aA b)(r1:Wb K F H d1 x)(r2:Wb K F H d2 y):scal x y=aC/\b=decide (x=y):=by
 unfold eqS at e;split at e<;> cases e
 .rw[r1.non,r2.non];exact⟨rfl,by simp⟩
 .rw[r1.non,r2.int];exact⟨rfl,by simp⟩
 .rw[r1.int,r2.non];exact⟨rfl,by simp⟩
 .rw[r1.non,r2.bl];exact⟨rfl,by simp⟩
 .rw[r1.bl,r2.non];exact⟨rfl,by simp⟩
 .rw[r1.non,r2.str];exact⟨rfl,by simp⟩
 .rw[r1.str,r2.non];exact⟨rfl,by simp⟩
 .rw[r1.int,r2.int];exact⟨rfl,by simp⟩
 .rw[r1.bl,r2.bl];exact⟨rfl,by simp⟩
 .rw[r1.str,r2.str];exact⟨rfl,by simp⟩
 .rw[r1.int,r2.str];exact⟨rfl,by simp⟩
 .rw[r1.str,r2.int];exact⟨rfl,by simp⟩
 .rw[r1.bl,r2.str];exact⟨rfl,by simp⟩
 .rw[r1.str,r2.bl];exact⟨rfl,by simp⟩
@[simp]def eqD(d1 d2:D):Option SV:=(eqS d1 d2).bind λb=>some (.fz (.bl b))
@[simp]def neD(d1 d2:D):Option SV:=(eqS d1 d2).bind λb=>some (.fz (.bl (!b)))
theorem gP:Wj Z rEq eqD:=by intro F H σ δ own x y d1 d2 sv Q s r1 r2 e k;refine cR e λb e1 e2=>?_;cases e2;obtain⟨h1,h2⟩:=yV e1 r1 r2;subst h2;exact⟨h1,k.fz s (.bl _)⟩
theorem gO:Wj Z rNe neD:=by intro F H σ δ own x y d1 d2 sv Q s r1 r2 e k;refine cR e λb e1 e2=>?_;cases e2;obtain⟨h1,h2⟩:=yV e1 r1 r2;subst h2;exact⟨h1,k.fz s (.bl _)⟩
@[simp]noncomputable def D.isNon:D->Bool
 | .non=>aC
 |_=>aD
theorem Da(r:Wb K F H d x):decide (x= .non)=d.isNon:=by
 obtain⟨sv,ns,e,n,sh,hp⟩:=r;subst e;cases sh with
 |fz r=>cases r<;> rfl
 |_=>rfl
@[simp]noncomputable def Db(d1 d2:D):Option SV:=if d2.isNon=true then some (.fz (.bl d1.isNon))else none
@[simp]noncomputable def Kq(d1 d2:D):Option SV:=if d2.isNon=true then some (.fz (.bl (!d1.isNon)))else none
theorem Dc{d:D}(h:d.isNon=aC):d= .non:=by cases d<;> first|rfl|cases h
theorem tI:Wj Z (λx y H Q=>y=V.non/\Q (.bl (decide (x= .non))) H) Db:=by
 intro F H σ δ own x y d1 d2 sv Q s r1 r2 e k;unfold Db at e;split at e
 .rename_i h;cases e;have:=Dc h;subst this;exact⟨r2.non,by rw[Da r1];exact k.fz s (.bl _)⟩
 .cases e
theorem qO:Wj Z (λx y H Q=>y=V.non/\Q (.bl (!decide (x= .non))) H) Kq:=by
 intro F H σ δ own x y d1 d2 sv Q s r1 r2 e k;unfold Kq at e;split at e
 .rename_i h;cases e;have:=Dc h;subst this;exact⟨r2.non,by rw[Da r1];exact k.fz s (.bl _)⟩
 .cases e
theorem cQ.atI(r:cQ K F xs vs)(e:L2.atI xs i=aA d):∃v,L2.atI vs i=aA v/\cX K F d v:=by unfold L2.atI at e⊢;refine cR e λj e1 e2=>?_;obtain⟨v,h1,h2⟩:=r.get e2;exact⟨v,dh.mpr ⟨j,by rw[<-r.length];exact e1,h1⟩,h2⟩
@[simp]def ixD:D->D->Option SV
 | .lst xs,.int i=>(L2.atI xs i).bind λd=>aA (.fz d)
 | .tup xs,.int i=>(L2.atI xs i).bind λd=>aA (.fz d)
 | .str z,.int i=>if z.length<=bu then(L2.atI z.cps.toList i).bind λc=>aA (.fz (.str ⟨#[c]⟩))else aB
 |_,_=>aB
theorem gN:Wj Z (rIx K) ixD:=by
 intro F H σ δ own x y d1 d2 sv Q s r1 r2 e k;unfold ixD at e;split at e
 .refine cR e λd e1 e2=>?_;cases e2;refine Yd (r1.lst s.le) λa vs ex ha ra=>?_;obtain⟨v,h1,h2⟩:=ra.atI e1;exact .inl ⟨a,vs,_,v,ex,r2.int,ha,h1,k.fz s h2⟩
 .refine cR e λd e1 e2=>?_;cases e2;refine Yd (r1.tup s.le) λa vs ex ha ra=>?_;obtain⟨v,h1,h2⟩:=ra.atI e1;exact .inr (.inl ⟨a,vs,_,v,ex,r2.int,ha,h1,k.fz s h2⟩)
 .split at e
  .rename_i hz;refine cR e λc e1 e2=>?_;cases e2;exact .inr (.inr ⟨_,_,c,r1.str,r2.int,hz,e1,k.fz s (.str _)⟩)
  .cases e
 .cases e
abbrev FO:=Wa->Option (Option Int×Wa)
def Bw(Z:cU K)(f:FO):TO:=λσ H Q=>∃F δ own o δ',SR Z F H σ δ own/\f δ=aA (o,δ')/\∀H' F' own',Zo H H'->Zo F F'->SR Z F' H' σ δ' own'->Q o H'
@[simp]noncomputable def O9:FO:=λδ=>some (none,δ)
@[simp]noncomputable def Uf(fe:FE):FO:=λδ=>(fe δ).bind λp=>match p.1 with
 | .tmp (.fz (.int i))=>aA (aA i,p.2)
 |_=>aB
section
variable{H:Hp}{σ:L2.St}{Q:VK}
theorem kL(h:Bw Z O9 σ H R):xv σ H R:=by refine Yx h λF δ own o δ' s e k=>?_;cases e;exact k H F own (Zo.refl H) (Zo.refl F) s
theorem qN(h:Bw Z (Uf fe) σ H R):AS (Zf Z fe) σ H R:=by
 refine Yx h λF δ own b δ' s e k=>?_;refine cT e λrv δ1 e1 e2=>?_;refine⟨F,δ,own,rv,δ1,s,e1,λv H1 F1 own1 sH sF s1 r1=>?_⟩;dsimp only at e2;split at e2
 .cases e2;obtain⟨ns,t⟩:=r1;cases Q0 t.sh;exact⟨_,rfl,k H1 F1 own1 sH sF s1⟩
 .cases e2
@[simp]def slF(g:D->Option Int->Option Int->Option SV)(fe:FE)(fl fh:FO):FE:=λδ=>(fe δ).bind λp=>(fl p.2).bind λl=>(fh l.2).bind λh=>(rdv p.1 h.2).bind λd=>(g d l.1 h.1).bind λsv=>some (.tmp sv,h.2)
def AI(Z:cU K)(r:V->Option Int->Option Int->Hp->VK->Prop)(g:D->Option Int->Option Int->Option SV):Prop:=
 ∀(F H:Hp) (σ:L2.St) (δ:Wa) (own:Nat->Zu) (x:V) (d:D) (lo hi:Option Int) (sv:SV) (Q:VK),SR Z F H σ δ own->Wb K F H d x->g d lo hi=aA sv->Nk Z F H σ δ own sv Q->r x lo hi H Q
theorem gM(hg:AI Z r g)(h:Zf Z (slF g fe fl fh) σ H Q):tSl r (Zf Z fe) (Bw Z fl) (Bw Z fh) σ H Q:=by
 refine Yx h λF δ own rv δ' s e k=>?_;refine cT e λVF δ1 e1 e=>?_;refine cT e λlo δ2 e2 e=>?_;refine cT e λhi XZ e3 e=>?_;refine cR e λd e4 e=>?_;refine cR e λsv e5 e=>?_;cases e;refine⟨F,δ,own,VF,δ1,s,e1,λv H1 F1 own1 X_ YV s1 r1=>?_⟩;refine Zr (s1.settleR r1) λUZ XF VE XY=>?_;refine⟨UZ,δ1,own1,lo,δ2,VE,e2,λH2 F2 own2 WT ZI s2=>⟨F2,δ2,own2,hi,XZ,s2,e3,λH3 F3 ZP YO ZU s3=>?_⟩⟩;exact hg F3 H3 σ XZ ZP v d lo hi sv Q s3 (s3.rd (XY.mono (ZI.trans ZU)) e4) e5 λq H4 F4 ns VC ZY s4 t4=>
  k q H4 F4 ZP (X_.trans (WT.trans (YO.trans VC))) (YV.trans (XF.trans (ZI.trans (ZU.trans ZY)))) s4 ⟨ns,t4⟩
end
def I9(xs:List D)(lo hi:Option Int):List D:=(xs.drop (HT.sIx xs.length 0 lo)).take (HT.sIx xs.length xs.length hi- HT.sIx xs.length 0 lo)
theorem cQ.cut(r:cQ K F xs vs)(lo hi):cQ K F (I9 xs lo hi) (QM vs lo hi):=by unfold I9 QM;rw[r.length];exact(r.drop _).take _
def CV:V->Option Int->Option Int->Hp->VK->Prop:=λx lo hi H Q=>∃z,x= .str z/\z.length<=bu/\Q (.str (Txt.slice z lo hi)) H
theorem qM:SlR X CV:=by
 intro cO s σ H x v vl vu lo hi sl Q I rx hs pl pu h;obtain⟨z,rfl,hz,q⟩:=h;obtain⟨t,rfl⟩:=rx;refine⟨"str",_,F.slot_str_getitem.lookup,typeIs_str _ _ _,?_⟩;have fin:∀(t':Tok) (k:Nat),EP X cO σ Q (.str (Txt.slice z lo hi) t') {s with toks:=k}:=λt' k=>⟨.str (Txt.slice z lo hi),H,I.tok _,⟨_,rfl⟩,q⟩
 cases pl with
 |none=>cases pu with
  |none=>exact wpAny_getItem_str_slice (l:=aB) (u:=aB) (st:=aB) hs rfl (post_val_or_str ⟨dw (Txt.slice_le z _ _) hz,fin⟩)
  |int j tj=>exact wpAny_getItem_str_slice (l:=aB) (u:=aA (j,tj)) (st:=aB) hs rfl (post_val_or_str ⟨dw (Txt.slice_le z _ _) hz,fin⟩)
 |int i ti=>cases pu with
  |none=>exact wpAny_getItem_str_slice (l:=aA (i,ti)) (u:=aB) (st:=aB) hs rfl (post_val_or_str ⟨dw (Txt.slice_le z _ _) hz,fin⟩)
  |int j tj=>exact wpAny_getItem_str_slice (l:=aA (i,ti)) (u:=aA (j,tj)) (st:=aB) hs rfl (post_val_or_str ⟨dw (Txt.slice_le z _ _) hz,fin⟩)
@[simp]def slD:D->Option Int->Option Int->Option SV
 | .lst xs,lo,hi=>aA (.ol (I9 xs lo hi))
 | .str z,lo,hi=>if z.length<=bu then aA (.fz (.str (Txt.slice z lo hi)))else aB
 |_,_,_=>aB
theorem gL:AI Z (λx lo hi H Q=>CP K x lo hi H Q\/CV x lo hi H Q) slD:=by
 intro F H σ δ own x d lo hi sv Q s r1 e k;unfold slD at e;split at e
 .cases e;refine Yd (r1.lst s.le) λa vs ex ha ra=>?_;exact .inl ⟨a,vs,ex,ha,λp hp=>k.lst s (ra.cut _ _) hp⟩
 .split at e
  .rename_i hz;cases e;exact .inr ⟨_,r1.str,hz,k.fz s (.str _)⟩
  .cases e
 .cases e
end
section
variable{X:Cx}
noncomputable def Ite(K:aj)(a:av):It:=
 ⟨λi H=>∃xs x,On K H a xs/\xs[i]? =aA x,λi H x H'=>∃p v,x= .ref p/\H p=aB/\H'=Wu H p (.tup [.int (i:Nat),v])/\∀xs,On K H a xs->xs[i]? =aA v,λi H=>∃xs,On K H a xs/\xs.length<=i⟩
theorem cP.turnedT{σ:L2.St}{T:av}(I:cP X cO σ H s)(k:∀b o,b≠e->b≠it->s.heap.get? b=aA o->h'.get? b=aA o)(f1:Tl X cO H e)(f2:Tl X cO H it)(hT:T=s.heap.objs.size)(ht:IsTup h' T cS.toArray)(rv:Ym xs cS)(hz:xs.length<=sizeLine)(he:∃o,h'.get? e=aA o)(hi:∃o,h'.get? it=aA o):
  cP X cO σ (Wu H T (.tup xs)) {s with heap:=h',toks:=t'}:=by
 have PU:H T=aB:=by rw[hT];exact I.hok.fresh (bg _)
 have neT:∀b o,s.heap.get? b=aA o->b≠T:=λb o q=>by rw[hT];exact d8 (bx q)
 have NI:∀b u,H b=aA u->b≠e/\b≠it:=λb u q=>⟨(λz=>by rw[z,f1.1]at q;cases q),(λz=>by rw[z,f2.1]at q;cases q)⟩
 refine I.step (g':=s.gens) (d':=s.drawn) (ch:=[e,it]) (λb hb=>?_) (λb o _ _ hc q _=>k b o (λz=>hc (by simp[z])) (λz=>hc (by simp[z])) q)
  (λb o _ _ hc q _=>⟨o.slots,k b o (λz=>hc (by simp[z])) (λz=>hc (by simp[z])) q⟩) (λb o _ q n=>by rw[Zv (neT b o q)];exact n)
  (λb o hc q=>⟨o,k b o (λz=>hc (by simp[z])) (λz=>hc (by simp[z])) q⟩) (λb ys q=>by rw[Zv (Wz q PU)];exact q) (λb o u q=>by rw[Zv (Wz q PU)];exact q)
  (λb ps q=>⟨#[],by rw[Zv (Wz q PU),q];simp⟩) (λm hm=>?_) (λb u q=>?_) I.bare
 .have XQ:b=e\/b=it:=by simpa using hb
  rcases XQ with z|z
  .subst z;refine Qx f1 λ_ a1 _ a3 a4 a5=>?_;exact⟨a3,a1,a4,a5⟩
  .subst z;refine Qx f2 λ_ a1 _ a3 a4 a5=>?_;exact⟨a3,a1,a4,a5⟩
 .obtain⟨o,es,ep,ho,r⟩:=hm;exact⟨o,es,ep,k _ o (Ne.symm f1.2.1) (Ne.symm f2.2.1) ho,r⟩
 .by_cases hb:b=T
  .subst hb;rw[Yp]at q;cases q;exact⟨hz,cS,rv,ht⟩
  .rw[Zv hb]at q;refine(I.hok b u q).stay (λc v hc z=>?_) (λc z=>by rw[Zv (Wz z PU)];exact z) (λc ys z=>by rw[Zv (Wz z PU)];exact z) λc o z=>by rw[Zv (Wz z PU)];exact z
   rcases hc with y|y
   .rw[y]at z⊢;exact k _ _ (NI b u q).1 (NI b u q).2 z
   .exact k _ _ (NI c _ y).1 (NI c _ y).2 z
theorem jd{P:b8}{w:df}{K:aj}{XG:List ca}{kk:Nat}{W':Pos}(a e it:av)(UU:e≠it):Turn P w K (.Tuple XG kk W') (Ite K a) [e,it] e (λi h=>(∃old,IsEnum h e it ((i:Nat):Int) old)/\h.IsListIter it a i)where
 mem:=by simp
 obj:=λi h st b hb=>by
  have XQ:b=e\/b=it:=by simpa using hb
  rcases XQ with z|z
  .subst z;obtain⟨old,q⟩:=st.1;exact⟨_,q,λv y=>by
    have y':Data.fields _=Data.cell v:=y;cases y'⟩
  .subst z;refine Zr st.2 λo q c d=>?_;exact⟨o,q,λv y=>by rw[d]at y;cases y⟩
 keep:=λi h h' st k=>⟨let⟨old,q⟩:=st.1;⟨old,k e (by simp) _ q⟩,st.2.at λo q=>k it (by simp) o q⟩
 item:=by
  intro X hP hw hK hc i cO s σ H E I hf st hg;subst hP hw hK;refine We hg λxs x hq hx=>?_;refine Zr (I.list hq) λcS rv p hz=>?_;obtain⟨u,hu,ru⟩:=rv.get hx;obtain⟨⟨old,he⟩,hit⟩:=st;have hl:s.heap.IsList a cS.toArray:=p.isList;have ai:a≠it:=λz=>by refine Zr hit λo1 q1 c1 _=>?_;refine Zr hl λo2 q2 c2 _=>?_;rw[z,q1]at q2;cases q2;rw[c1]at c2;exact bN c2 (by decide)
  have ae:e∉[it,a]:=λz=>by
   have z':e=it\/e=a:=by simpa using z
   rcases z' with z|z
   .exact UU z
   .refine Zr hl λo2 q2 c2 _=>?_;rw[<-z,he]at q2;cases q2;exact bN (show Value.type "enumerate"=Value.type "list"from c2) (by decide)
  have D:=Draws.list (prog:=X.prog) (w:=X.w) (A:=X.A.in1) (by first|exact I.ok.hd hc| (rw[show X.A.in1.handled=X.A.handled from rfl];exact I.ok.hd hc)) it a ai cS.toArray;have YL:i<cS.toArray.size:=by have:=(bf.mp hu).1;rw[bq];exact this
  refine wpAny_pyNext_enum_itemD D he ⟨hit,hl⟩ YL UU ae λy h' tk hy SX YQ hT hsz hk=>⟨.ref s.heap.objs.size,rfl,?_⟩
  refine wpAny_letOwnedTupleGo_enum SX λh2 UV WE=>?_;have WC:cS.toArray[i]? =aA y:=hy;have ey:y=u:=by
   have:cS[i]? =aA y:=by simpa using WC
   rw[hu]at this;cases this;rfl
  subst ey;have kk:∀b o,b≠e->b≠it->s.heap.get? b=aA o->h2.get? b=aA o:=λb o h1 h3 q=>(WE.2 b h1).trans (hk b o h1 h3 q);have neT:s.heap.objs.size≠e:=Nat.ne_of_gt (bx he);have I2:=I.turnedT (h':=h2) (t':=tk+1) (e:=e) (it:=it) (T:=s.heap.objs.size) (xs:=[.int (i:Nat),x]) (cS:=[.int i tk,y]) kk (hf e (by simp)) (hf it (by simp)) rfl ⟨_,(WE.2 _ neT).trans hT,rfl,_,rfl⟩ (.cons ⟨tk,rfl⟩ (.cons ru .nil)) (by show 2<=sizeLine;decide)
   ⟨_,UV⟩ (let⟨o,q,_⟩:=YQ.1;⟨o,(WE.2 it (Ne.symm UU)).trans q⟩)
  refine⟨.ref s.heap.objs.size,_,I2,rfl,⟨s.heap.objs.size,x,rfl,I.hok.fresh (bg _),rfl,λys JC=>by rw[I.list_inj JC hq];exact hx⟩,⟨⟨_,UV⟩,YQ.1.at λo q=>(WE.2 it (Ne.symm UU)).trans q⟩,λb hb=>?_⟩;rw[Zv λz=>?_]
  .exact(hf b hb).1
  .have XQ:b=e\/b=it:=by simpa using hb
   rcases XQ with y|y
   .rw[<-z,y]at neT;exact neT rfl
   .obtain⟨o,q,_⟩:=hit;rw[y]at z;exact bN (bx q) (by rw[z];exact fj _)
 done:=by intro X hP hw hK hc i cO s σ H E I hf st hg;subst hP hw hK;obtain⟨xs,hq,hx⟩:=hg;refine Zr (I.list hq) λcS rv p hz=>?_;obtain⟨⟨old,he⟩,hit⟩:=st;refine Qx (hf it (by simp)) λf0 f1 f2 f3 f4 f5=>?_;have hl:=rv.length;exact wpAny_pyNext_enum_end (I.ok.hd hc) he hit p.isList (by simp;omega) λh' eb=>⟨rfl,I.turned (t':=s.toks) (λb o hb q=>eb b o hb q) f0 f1 f3 f4 f5⟩
 self:=λ_ _ _ _ _ st h=>let⟨⟨old,he⟩,_⟩:=st;wpAny_pyIter_enum he h
def AH(K:aj)(ta:TA):TI:=λσ H R=>ta σ H λvs H1=>∃a xs,vs=[.ref a]/\On K H1 a xs/\R (Ite K a) H1
theorem nL(hg:Gl X "enumerate")(hm:X.mg "enumerate"=aB)(ha:PA X [l] ta)(hs:‹au [l] X.env=[(aD,dj l X.env)]›):
  PI X (.Tuple XG kk W') (.Call (.Name "enumerate" p) [l] [] pos) (AH X.K ta):=by
 intro cO s σ H R I h;refine Call_ (Et I hg hm boot_enumerate (PyProof.Rows.callWith_type1 (W7 (ha pos cO s σ H _ I h) λus s1 ⟨vs,H1,I1,r1,q1⟩=>?_) hs rfl));refine Yd q1 λa xs e hq q=>?_;subst e;obtain⟨u,rfl,ru⟩:=Uu r1;cases ru;refine Zr (I1.list hq) λcS rv p hz=>?_;refine call_enumerate_list p.isList λh' he hit hsz hk=>wpAny_pyIter_enum he ?_;have I2:cP X cO σ H1 {s1 with heap:=h'}:=I1.kept (t':=s1.toks) hk;refine⟨s1.heap.objs.size+1,[s1.heap.objs.size+1,s1.heap.objs.size],_,_,H1,rfl,I2,jd a _ _ (Nat.succ_ne_self _),⟨⟨.none,by simpa using he⟩,hit⟩,λb hb=>?_,q⟩;have XQ:b=s1.heap.objs.size+1\/b=s1.heap.objs.size:=by simpa using hb
 rcases XQ with z|z
 .subst z;exact I1.fpOk (Nat.le_succ _) (I1.hok.fresh (Nat.le_succ _))
 .subst z;exact I1.fpOk (bg _) (I1.hok.fresh (bg _))
theorem Vj:∀{xs:List Str} {us:List aq},Ym (xs.map V.str) us->∃l,us=strValues l/\l.map (·.1)=xs
 | [],_,r=>by rw[List.map_nil]at r;cases r;exact⟨[],rfl,rfl⟩
 |x::xs,_,r=>by
  rw[bn]at r;cases r with
  |cons h t=>obtain⟨tk,rfl⟩:=h;obtain⟨l,e1,e2⟩:=Vj t;exact⟨(x,tk)::l,by rw[e1];rfl,by rw[bn,e2]⟩
def tG(K:aj):V->List V->Hp->VK->Prop:=λx xs H Q=>∃sep p ys,x= .str sep/\xs=[.ref p]/\On K H p (ys.map V.str)/\JoinOk sep ys=aC/\Q (.str (Txt.join sep ys)) H
theorem nK:MtR X "str.join" (tG X.K):=by intro cO s σ H x xs v us Q I rx rs h;obtain⟨sep,p,ys,rfl,rfl,hq,hok,q⟩:=h;obtain⟨t,rfl⟩:=rx;obtain⟨u,rfl,ru⟩:=Uu rs;cases ru;refine Zr (I.list hq) λcS rv pl hz=>?_;obtain⟨l,e1,e2⟩:=Vj rv;subst e1;exact SC.join pl.isList e2 hok λt' k=>⟨.str (Txt.join sep ys),H,I.tok _,⟨_,rfl⟩,q⟩
inductive TyX(K:aj)(H:Hp):V->String->Prop where
 |non:TyX K H .non "NoneType"
 |bl (x:Bool):TyX K H (.bl x) "bool"
 |int (i:Int):TyX K H (.int i) "int"
 |str (x:Str):TyX K H (.str x) "str"
 |lst {a:av} {xs:List V} (e:On K H a xs):TyX K H (.ref a) "list"
 |tup {a:av} {xs:List V} (e:Er K H a xs):TyX K H (.ref a) "tuple"
 |dK {a:av} {kvs:List (Key×V)} {ep:Nat} (e:H a=aA (.dK kvs ep)):TyX K H (.ref a) "dict"
 |dT {a:av} {kvs:List (List Key×V)} {ep:Nat} {bs:List av} (e:H a=aA (.dT kvs ep bs)):TyX K H (.ref a) "dict"
theorem kK{σ:L2.St}(I:cP X cO σ H s)(rx:Ya x u)(ty:TyX X.K H x T)(e:PySem.W.kitOne X.K (.type T) c=aA b)(h:∀tk,Q (.bool b) {s with toks:=tk}):
  b5 (cv X.prog X.w) A (call (.builtin "isinstance") [u,c]) Q E s:=by
 cases ty with
 |non=>cases(show u=Value.none from rx);exact PySem.W.kia_one PySem.W.kitx_none I.kIn True.intro e (λz=>nomatch z) h
 |bl y=>cases(show u=Value.bool y from rx);exact PySem.W.kia_one PySem.W.kitx_bool I.kIn True.intro e (λz=>nomatch z) h
 |int i=>obtain⟨t,q⟩:=(show∃t,u=Value.int i t from rx);cases q;exact PySem.W.kia_one PySem.W.kitx_int I.kIn True.intro e (λz=>nomatch z) h
 |str y=>obtain⟨t,q⟩:=(show∃t,u=Value.str y t from rx);cases q;exact PySem.W.kia_one PySem.W.kitx_str I.kIn True.intro e (λz=>nomatch z) h
 | @lst a xs ea=>cases(show u=dz a from rx);refine Zr (I.list ea) λcS _ pl _=>?_;refine Zr pl.isList λo h1 h2 _=>?_;exact PySem.W.kia_one PySem.W.kitx_list I.kIn ⟨o,h1,h2⟩ e (λz=>nomatch z) h
 | @tup a xs ea=>cases(show u=dz a from rx);refine Zr (I.tuple ea) λcS _ pl _=>?_;refine Zr pl λo h1 h2 _=>?_;exact PySem.W.kia_one PySem.W.kitx_tuple I.kIn ⟨o,h1,h2⟩ e (λz=>nomatch z) h
 | @dK a kvs ep ea=>
  cases(show u=dz a from rx);obtain⟨_,_,vs,_,p⟩:=(show Wi X.prog X.w H s.heap a (.dK kvs ep)from I.hok a _ ea)
  refine Yd p λo es h1 h2 _=>?_;exact PySem.W.kia_one PySem.W.kitx_dict I.kIn ⟨o,h1,h2.1⟩ e (λz=>nomatch z) h
 | @dT a kvs ep bs ea=>
  cases(show u=dz a from rx);obtain⟨_,_,xs,_,o,es,h1,h2,_⟩:=(show Wi X.prog X.w H s.heap a (.dT kvs ep bs)from I.hok a _ ea)
  exact PySem.W.kia_one PySem.W.kitx_dict I.kIn ⟨o,h1,h2.1⟩ e (λz=>nomatch z) h
def vQ(K:aj)(c:String):List V->Hp->VK->Prop:=λxs H Q=>∃x t b,xs=[x,.ty c]/\TyX K H x t/\PySem.W.kitOne K (.type t) (.type c)=aA b/\Q (.bl b) H
theorem kJ:Ub X (.builtin "isinstance") (vQ X.K c):=by intro cO s σ H xs us Q I r h;obtain⟨x,t,b,rfl,ty,e,q⟩:=h;obtain⟨u,w',rfl,r1,r2⟩:=GR r;cases r2;exact kK I r1 ty e λtk=>⟨.bl b,H,I.tok _,rfl,q⟩
end
section
variable{K:aj}
noncomputable def Am(xs:List D):List D:=xs.zipIdx.map λp=>.tup [.int (p.2:Nat),p.1]
theorem jc{d:D}(h:(Am xs)[i]? =aA d):∃x,xs[i]? =aA x/\d= .tup [.int (i:Nat),x]:=by
 unfold Am at h;rw[bz,List.getElem?_zipIdx]at h;cases e:xs[i]? with
 |none=>rw[e]at h;cases h
 |some x=>rw[e]at h;cases h;exact⟨x,rfl,by simp⟩
theorem jb(xs):(Am xs).length=xs.length:=by unfold Am;rw[ay,List.length_zipIdx]
theorem Dd(h:On K F a vs)(r:cQ K F xs vs):Gi K (Ite K a) F (Am xs):=λF' H sF sH i=>by
 have q:On K H a vs:=Qq (sF.trans sH) h;refine⟨λd hd=>?_,λhl=>⟨vs,q,by rw[<-r.length,<-jb];exact hl⟩⟩;obtain⟨x,hx,rfl⟩:=jc hd;obtain⟨v,h1,h2⟩:=r.get hx;refine⟨⟨vs,v,q,h1⟩,λy H' ZJ=>?_⟩;obtain⟨p,w,e1,e2,e3,e4⟩:=ZJ;subst e1 e3;have e5:=e4 vs q;rw[h1]at e5;cases e5;have hp:F' p=aB:=sH.free e2;have sm:Zo F' (Uc F' [(p,.tup [.int (i:Nat),v])]):=Q9 λz hz=>by obtain rfl:=af.mp hz;exact hp
 refine⟨Jh e2,[(p,.tup [.int (i:Nat),v])],Fk,λz hz=>?_,.tup Yp (.cons (.int _) (.cons (h2.mono (sF.trans sm)) .nil))⟩;obtain rfl:=af.mp hz;exact⟨e2,Yp⟩
section
variable{Z:cU K}{H:Hp}{Q:VK}
@[simp]def De(fd:FD):FD:=λδ=>(fd δ).bind λp=>match p.1 with
 | [.lst xs]=>aA (Am xs,p.2)
 |_=>aB
theorem nJ(h:Ue Z (De fd) σ H R):AH K (Ji Z fd) σ H R:=by
 refine Yx h λF δ own ds δ' s e k=>?_;refine cT e λOA δ1 e1 e2=>?_;refine⟨F,δ,own,OA,δ1,s,e1,λvs H1 F1 own1 sH sF s1 r1=>?_⟩;dsimp only at e2;split at e2
 .rename_i xs;cases e2;cases r1 with
  |cons h t=>
   cases t;cases h with
   |lst h _ r=>exact⟨_,_,rfl,Qq s1.le h,k _ H1 F1 own1 sH sF s1 (Dd h r)⟩
 .cases e2
@[simp]noncomputable def D.ty:D->String
 | .str _=>"str"
 | .int _=>"int"
 | .lst _=>"list"
 | .dK _ _=>"dict"
 | .dT _ _=>"dict"
 |_=>"?"
@[simp]noncomputable def ML(T:String)(d:D):Bool:=T==d.ty&&(T=="str" ||T=="list" ||T=="dict")
theorem AG(le:Zo F H)(r:Wb K F H d x)(h:ML T d=aC):tyV K T x H:=by
 unfold ML at h;simp only[dn,beq_iff_eq]at h;obtain⟨h1,h2⟩:=h;subst h1;cases d with
 |str y=>rw[r.str];rfl
 |lst xs=>refine Yd (r.lst le) λa vs e ha _=>?_;subst e;exact .inl ⟨rfl,vs,ha⟩
 |dK ks vs=>obtain⟨a,kvs,e,⟨ep,ha⟩,_⟩:=r.dK le;subst e;exact .inr (.inr (.inl ⟨rfl,.inl ⟨kvs,ep,ha⟩⟩))
 |dT ks vs=>obtain⟨a,kvs,e,⟨ep,bs,ha⟩,_⟩:=r.dT le;subst e;exact .inr (.inr (.inl ⟨rfl,.inr ⟨kvs,ep,bs,ha⟩⟩))
 |non=>exact bN (show("?"=="str" || "?"=="list" || "?"=="dict")=aC from h2) (by decide)
 |bl b=>exact bN (show("?"=="str" || "?"=="list" || "?"=="dict")=aC from h2) (by decide)
 |int i=>exact bN (show("int"=="str" || "int"=="list" || "int"=="dict")=aC from h2) (by decide)
 |tup xs=>exact bN (show("?"=="str" || "?"=="list" || "?"=="dict")=aC from h2) (by decide)
 |exc C ks vs=>exact bN (show("?"=="str" || "?"=="list" || "?"=="dict")=aC from h2) (by decide)
@[simp]def M3(T:String)(g:List D->Option SV)(fo:FE)(fa:FA):FE:=λδ=>(fo δ).bind λp=>(rdv p.1 p.2).bind λd0=>if ML T d0=true then(fa p.2).bind λq=>(Bt (p.1::q.1) q.2).bind λds=>(g ds).bind λsv=>some (.tmp sv,q.2)else none
def Kr(Z:cU K)(r:V->List V->Hp->VK->Prop)(g:List D->Option SV):Prop:=Bu Z (λvs H Q=>∃x xs,vs=x::xs/\r x xs H Q) g
theorem QJ(hg:Kr Z r g)(h:Zf Z (M3 T g fo fa) σ H Q):tBM K T r (Zf Z fo) (Bs Z fa) σ H Q:=by
 refine Yx h λF δ own rv δ' s e k=>?_;refine cT e λVF δ1 e1 e=>?_;refine cR e λd0 e2 e=>?_;dsimp only at e;split at e
 .rename_i ht;refine cT e λrvs δ2 e3 e=>?_;refine cR e λds e4 e=>?_;refine cR e λsv e5 e=>?_;cases e;refine⟨F,δ,own,VF,δ1,s,e1,λv H1 F1 own1 X_ YV s1 r1=>?_⟩;refine Zr (s1.settleR r1) λUZ XF VE XY=>?_;refine⟨AG VE.le (VE.rd XY e2) ht,UZ,δ1,own1,rvs,δ2,VE,e3,λvs H2 F2 own2 WT ZI s2 r2=>?_⟩;obtain⟨x,xs,ex,q⟩:=hg F2 H2 σ δ2 own2 (v::vs) ds sv Q s2 (s2.rdAll (.cons (XY.mono ZI) r2) e4) e5 λq H4 F4 ns VC ZY s4 t4=>
   k q H4 F4 own2 (X_.trans (WT.trans VC)) (YV.trans (XF.trans (ZI.trans ZY))) s4 ⟨ns,t4⟩
  injection ex with ex1 ex2;subst ex1 ex2;exact q
 .cases e
end
@[simp]noncomputable def strs?:List D->Option (List Str)
 | []=>aA []
 | .str x::r=>(strs? r).bind λt=>aA (x::t)
 |_=>aB
theorem Vk:∀{ds:List D} {xs:List Str} {vs:List V},strs? ds=aA xs->cQ K F ds vs->vs=xs.map V.str
 | [],_,_,e,r=>by cases e;cases r;rfl
 |d::r,xs,vs,e,q=>by
  cases q with
  |cons h t=>
   unfold strs? at e;split at e
   .rename_i e0;cases e0
   .rename_i x r' e0;cases e0;refine cR e λys e1 e2=>?_;cases e2;cases h;rw[Vk e1 t];rfl
   .cases e
variable{Z:cU K}
@[simp]noncomputable def D.pyTy:D->String
 | .non=>"NoneType"
 | .bl _=>"bool"
 | .int _=>"int"
 | .str _=>"str"
 | .tup _=>"tuple"
 | .lst _=>"list"
 | .dK _ _=>"dict"
 | .dT _ _=>"dict"
 | .exc _ _ _=>"?"
@[simp]noncomputable def D.isExc:D->Bool
 | .exc _ _ _=>aC
 |_=>aD
theorem nI(le:Zo F H)(r:Wb K F H d x)(hx:d.isExc=aD):TyX K H x d.pyTy:=by
 cases d with
 |exc C ks vs=>cases hx
 |non=>rw[r.non];exact .non
 |bl b=>rw[r.bl];exact .bl b
 |int i=>rw[r.int];exact .int i
 |str y=>rw[r.str];exact .str y
 |tup xs=>refine Yd (r.tup le) λa vs e ha _=>?_;subst e;exact .tup ha
 |lst xs=>refine Yd (r.lst le) λa vs e ha _=>?_;subst e;exact .lst ha
 |dK ks vs=>obtain⟨a,kvs,e,⟨ep,ha⟩,_⟩:=r.dK le;subst e;exact .dK ha
 |dT ks vs=>obtain⟨a,kvs,e,⟨ep,bs,ha⟩,_⟩:=r.dT le;subst e;exact .dT ha
@[simp]noncomputable def Vl(c:String)(d:D):Option SV:=if d.isExc=true then none else some (.fz (.bl (d.pyTy==c|| (c=="int" &&d.pyTy=="bool"))))
theorem eB(hk:∀d:D,d.isExc=aD->PySem.W.kitOne K (.type d.pyTy) (.type c)=aA (d.pyTy==c|| (c=="int" &&d.pyTy=="bool"))):GK Z (λx H Q=>vQ K c [x,.ty c] H Q) (Vl c):=by
 intro F H σ δ own x d sv Q s r e k;unfold Vl at e;split at e
 .cases e
 .rename_i hx;cases e;have XE:d.isExc=aD:=by cases z:d.isExc with
   |true=>exact bN z hx
   |false=>rfl
  exact⟨x,_,_,rfl,nI s.le r XE,hk d XE,k.fz s (.bl _)⟩
@[simp]noncomputable def Cb:List D->Option SV
 | [.lst xs]=>aA (.fz (.int (xs.length:Nat)))
 | [.tup xs]=>aA (.fz (.int (xs.length:Nat)))
 | [.str x]=>if x.length<=bu then aA (.fz (.int (x.length:Nat)))else aB
 |_=>aB
theorem eA:Bu Z (λxs H Q=>(∃p ys,xs=[V.ref p]/\(On K H p ys\/Er K H p ys)/\Q (.int ys.length) H)\/(∃z,xs=[V.str z]/\z.length<=bu/\Q (.int z.length) H)) Cb:=by
 intro F H σ δ own vs ds sv Q s r e k;unfold Cb at e;split at e
 .cases e;cases r with
  |cons h t=>cases t;refine Yd (h.lst s.le) λa us ex ha ra=>?_;subst ex;exact .inl ⟨a,us,rfl,.inl ha,by rw[<-ra.length];exact k.fz s (.int _)⟩
 .cases e;cases r with
  |cons h t=>cases t;refine Yd (h.tup s.le) λa us ex ha ra=>?_;subst ex;exact .inl ⟨a,us,rfl,.inr ha,by rw[<-ra.length];exact k.fz s (.int _)⟩
 .split at e
  .rename_i hz;cases e;cases r with
   |cons h t=>cases t;exact .inr ⟨_,by rw[h.str],hz,k.fz s (.int _)⟩
  .cases e
 .cases e
@[simp]noncomputable def Pm:List D->Option SV
 | [.lst xs]=>aA (.ol xs)
 | [.tup xs]=>aA (.ol xs)
 |_=>aB
theorem qL:Bu Z (λxs H Q=>∃p ys,xs=[V.ref p]/\(On K H p ys\/Er K H p ys)/\∀l,H l=aB->Q (.ref l) (Wu H l (.lst ys))) Pm:=by
 intro F H σ δ own vs ds sv Q s r e k;unfold Pm at e;split at e
 .cases e;cases r with
  |cons h t=>cases t;refine Yd (h.lst s.le) λa us ex ha ra=>?_;subst ex;exact⟨a,us,rfl,.inl ha,λl hl=>k.lst s ra hl⟩
 .cases e;cases r with
  |cons h t=>cases t;refine Yd (h.tup s.le) λa us ex ha ra=>?_;subst ex;exact⟨a,us,rfl,.inr ha,λl hl=>k.lst s ra hl⟩
 .cases e
@[simp]noncomputable def Tr:List D->Option SV
 | [.lst xs]=>aA (.fz (.tup xs))
 |_=>aB
theorem nH:Bu Z (λxs H Q=>∃p ys,xs=[V.ref p]/\((On K H p ys/\∀l,H l=aB->Q (.ref l) (Wu H l (.tup ys)))\/(Er K H p ys/\Q (.ref p) H))) Tr:=by
 intro F H σ δ own vs ds sv Q s r e k;unfold Tr at e;split at e
 .cases e;cases r with
  |cons h t=>cases t;refine Yd (h.lst s.le) λa us ex ha ra=>?_;subst ex;exact⟨a,us,rfl,.inl ⟨ha,λl hl=>k.tup s ra hl⟩⟩
 .cases e
@[simp]noncomputable def MJ:List D->Option SV
 | [.int i]=>aA (.fz (.int i))
 | [.bl b]=>aA (.fz (.int (if b then 1 else 0)))
 |_=>aB
theorem f':Bu Z (λxs H Q=>(∃i,xs=[V.int i]/\Q (.int i) H)\/∃k,xs=[V.bl k]/\Q (.int (if k then 1 else 0)) H) MJ:=by
 intro F H σ δ own vs ds sv Q s r e k;unfold MJ at e;split at e
 .cases e;cases r with
  |cons h t=>cases t;exact .inl ⟨_,by rw[h.int],k.fz s (.int _)⟩
 .cases e;cases r with
  |cons h t=>cases t;exact .inr ⟨_,by rw[h.bl],k.fz s (.int _)⟩
 .cases e
section
variable{X:Cx}{Z:cU X.K}{a b c:ca}{fa fb fc:FE}{pos:Pos}
theorem Zb(i)(hN:‹X.N[i]? =aA x›)(hv:Hh X.env.scope x:=by first|exact Or.inl rfl|exact fu (Or.inl rfl)|exact fu (fu rfl))(hd:‹(x==("__debug__":Str))=aD›)(YC:‹(x==("__classdict__":Str))=aD›):PE X (.Name x pos) (Zf Z (Za i)):=(Om hN hv hd YC).imp λ_ _ _ h=>tD h
theorem Zk:PE X (.Constant (.int i) j pos) (Zf Z (Zc (.int i))):=S3.imp λ_ _ _ h=>Mj (λ_=>.int _) h
theorem HD:PE X (.Constant (.bool i) j pos) (Zf Z (Zc (.bl i))):=tO.imp λ_ _ _ h=>Mj (λ_=>.bl _) h
theorem Jx:PE X (.Constant .none j pos) (Zf Z (Zc .non)):=pC.imp λ_ _ _ h=>Mj (λ_=>.non) h
theorem Z6:PE X (.Constant (.str i) j pos) (Zf Z (Zc (.str i))):=S4.imp λ_ _ _ h=>Mj (λ_=>.str _) h
theorem nG(hm:X.mg x=aA (.str y t))(hg:‹Gl X x›)(hd:‹(x==("__debug__":Str))=aD›):PE X (.Name x pos) (Zf Z (Zc (.str y))):=
 (wA (v:=.str y) hg hm ⟨t,rfl⟩ hd).imp λ_ _ _ h=>Mj (λ_=>.str _) h
theorem nE(hm:X.mg x=aA (.int y t))(hg:‹Gl X x›)(hd:‹(x==("__debug__":Str))=aD›):PE X (.Name x pos) (Zf Z (Zc (.int y))):=
 (wA (v:=.int y) hg hm ⟨t,rfl⟩ hd).imp λ_ _ _ h=>Mj (λ_=>.int _) h
theorem Df(ho:B5 X (binaryOp op) r)(hp:Wj Z r g)(ha:PE X a (Zf Z fa))(hb:PE X b (Zf Z fb)):PE X (.BinOp a op b pos) (Zf Z (Zg g fa fb)):=(tz ho ha hb).imp λ_ _ _ h=>Hw hp h
theorem Yt(ha:PE X a (Zf Z fa))(hb:PE X b (Zf Z fb)):PE X (.BinOp a .Add b pos) (Zf Z (Zg Wo fa fb)):=Df nM tJ ha hb
theorem AF(ha:PE X a (Zf Z fa))(hb:PE X b (Zf Z fb)):PE X (.BinOp a .Sub b pos) (Zf Z (Zg RQ fa fb)):=Df qp tM ha hb
theorem Ev(ha:PE X a (Zf Z fa))(hb:PE X b (Zf Z fb)):PE X (.BinOp a .FloorDiv b pos) (Zf Z (Zg Iq fa fb)):=Df n8 qu ha hb
theorem W8(ha:PE X a (Zf Z fa))(hb:PE X b (Zf Z fb)):PE X (.BinOp a .Mod b pos) (Zf Z (Zg Q1 fa fb)):=Df qm tK ha hb
theorem LL(ho:B5 X (eu op) r)(hp:Wj Z r g)(ha:PE X a (Zf Z fa))(hb:PE X b (Zf Z fb))(hm:behindInMarks op b=aD):PE X (.Compare a [op] [b] pos) (Zf Z (Zg g fa fb)):=(nw ho ha hb hm).imp λ_ _ _ h=>Hw hp h
theorem An(ho:B5 X (eu op) r)(hp:Wj Z r g)(ha:PE X a (Zf Z fa))(hb:PE X b (Zf Z fb))(hm:behindInMarks op b=aD):PT X (.Compare a [op] [b] pos) (Wc Z (Zq (Zg g fa fb))):=
 (nv ho ha hb hm).imp λσ H Q h=>by refine Yx (ED h) λF δ own rv δ' s e k=>?_;exact Hw hp ⟨F,δ,own,rv,δ',s,e,k⟩
theorem RP(ha:PE X a (Zf Z fa))(hb:PE X b (Zf Z fb)):PT X (.Compare a [.Lt] [b] pos) (Wc Z (Zq (Zg ltD fa fb))):=An tw gS ha hb (Gc _)
theorem hX(ha:PE X a (Zf Z fa))(hb:PE X b (Zf Z fb)):PT X (.Compare a [.LtE] [b] pos) (Wc Z (Zq (Zg leD fa fb))):=An GU HL ha hb (Gc _)
theorem Vm(ha:PE X a (Zf Z fa))(hb:PE X b (Zf Z fb)):PT X (.Compare a [.Gt] [b] pos) (Wc Z (Zq (Zg gtD fa fb))):=An tu gR ha hb (Gc _)
theorem Dg(ha:PE X a (Zf Z fa))(hb:PE X b (Zf Z fb)):PT X (.Compare a [.Is] [b] pos) (Wc Z (Zq (Zg Db fa fb))):=An ql tI ha hb (Gc _)
theorem Vn(ha:PE X a (Zf Z fa))(hb:PE X b (Zf Z fb)):PT X (.Compare a [.IsNot] [b] pos) (Wc Z (Zq (Zg Kq fa fb))):=An ny qO ha hb (Gc _)
theorem EA(ha:PT X a (Wc Z f)):PW X (.BoolOp .And [a] pos) (Wc Z f):=mD ha
theorem Pn(ha:PT X a (Wc Z f)):PW X (.BoolOp .Or [a] pos) (Wc Z f):=pP ha
theorem LJ{rest}(ha:PT X a (Wc Z f))(hb:PW X (.BoolOp .And (b::rest) pos) (Wc Z g)):PW X (.BoolOp .And (a::b::rest) pos) (Wc Z (Ko f g)):=(pO ha hb).imp λ_ _ _ h=>u8 h
theorem Vo{rest}(ha:PT X a (Wc Z f))(hb:PW X (.BoolOp .Or (b::rest) pos) (Wc Z g)):PW X (.BoolOp .Or (a::b::rest) pos) (Wc Z (orF f g)):=(tN ha hb).imp λ_ _ _ h=>gG h
theorem Cw(ha:PT X a (Wc Z f)):PT X (.UnaryOp .Not a pos) (Wc Z (Tp f)):=(pN ha).imp λ_ _ _ h=>u7 h
theorem Ba(h:PE X a (Zf Z fa))(he:‹∀Y_,isTrue a X.env Y_=(do let v<-Y_;standAt a.pos;holding [v] (truthy v))›):PT X a (Wc Z (Zq fa)):=(pB h he).imp λ_ _ _ h=>mM h
theorem GQ(h:PE X a (Zf Z fa)):PE X (.BoolOp op [a] pos) (Zf Z fa):=pM h
theorem LI{rest}(ha:PE X a (Zf Z fa))(hb:PE X (.BoolOp .And (b::rest) pos) (Zf Z fb)):PE X (.BoolOp .And (a::b::rest) pos) (Zf Z (QL fa fb)):=(pL ha hb).imp λ_ _ _ h=>q_ h
theorem MI(hc:PT X c (Wc Z t))(ha:PE X a (Zf Z fa))(hb:PE X b (Zf Z fb)):PE X (.IfExp c a b pos) (Zf Z (ifF t fa fb)):=(kS hc ha hb).imp λ_ _ _ h=>gT h
theorem Zy:PA X [] (Bs Z Zi):=Ql.imp λ_ _ _ h=>l8 h
theorem Zh(ha:PE X a (Zf Z fa))(hr:PA X es (Bs Z fr))(hs:‹au (a::es) X.env=(aD,dj a X.env)::au es X.env›):PA X (a::es) (Bs Z (Zd fa fr)):=(Wn ha hr hs).imp λ_ _ _ h=>je h
theorem Yz:PA X [] (Ji Z Zt):=Ql.imp λ_ _ _ h=>Pk h
theorem Yc(ha:PE X a (Zf Z fa))(hr:PA X es (Ji Z fr))(hs:‹au (a::es) X.env=(aD,dj a X.env)::au es X.env›):PA X (a::es) (Ji Z (Zm fa fr)):=(Wn ha hr hs).imp λ_ _ _ h=>Gh h
theorem Rb(h:PA X es (Ji Z fd)):PE X (.Tuple es k pos) (Zf Z (tupF fd)):=(qk h).imp λ_ _ _ h=>u_ h
theorem Qi(h:PA X es (Ji Z fd)):PE X (.List es pos) (Zf Z (Ud fd)):=(S7 h).imp λ_ _ _ h=>u9 h
theorem Gj:PO X aB (Bw Z O9):=λcO s σ H Q I h=>nu cO s σ H Q I (kL h)
theorem Q2(ha:PE X a (Zf Z fa)):PO X (aA a) (Bw Z (Uf fa)):=λcO s σ H Q I h=>nt ha cO s σ H Q I (qN h)
theorem Nn{lo:Option ca}(ha:PE X a (Zf Z fa))(hl:PO X lo (Bw Z fl))(hh:PO X hi (Bw Z fh)):PE X (.Subscript a (.Slice lo hi aB p2) pos) (Zf Z (slF slD fa fl fh)):=
 (kt (nj.or qM) ha hl hh).imp λ_ _ _ h=>gM gL h
theorem qK{p}(F:FnOk X.prog X.w X.K X.mg X.base Qm k f fd ps (Y3 X.K n g))(hr:cY k X.A)(hm:X.mg x=aA (.ref f))(hk:PySem.W.keepIn X.K (.ref f)=aC)(hb:M8 X.K fd ps [])(ha:PA X (a::es) (Bs Z fr))(hg:‹Gl X x›)(YM:‹(x==("__debug__":Str))=aD›)(he:‹au (a::es) X.env=(aD,dj a X.env)::au es X.env›)(ZH:‹(c9 pos (au es X.env)).any (·.1)=aD›):
  PE X (.Call (.Name x p) (a::es) [] pos) (Zf Z (Z5 n g fr)):=(Fi F hr hg hm hk hb .nil LG ha YM he ZH).imp λ_ _ _ h=>pA h
theorem Vp{id}{p}(hc:Ub X (.builtin id) r)(hp:Bu Z r g)(hm:X.mg x=aB)(hv:bootBuiltins x=aA (.builtin id))(ha:PA X (a::es) (Bs Z fr))(hg:‹Gl X x›)(hn:‹x≠"__name__"›)(YM:‹(x==("__debug__":Str))=aD›)(he:‹au (a::es) X.env=(aD,dj a X.env)::au es X.env›)(ZH:‹(c9 pos (au es X.env)).any (·.1)=aD›):PE X (.Call (.Name x p) (a::es) [] pos) (Zf Z (Yy g fr)):=(Kd hc hg hm hv ha hn YM he ZH).imp λ_ _ _ h=>EE hp h
theorem Mk{p}(hc:Ub X (.type T) r)(hp:Bu Z r g)(hm:X.mg x=aB)(hv:bootBuiltins x=aA (.type T))(ha:PA X (a::es) (Bs Z fr))(hg:‹Gl X x›)(hn:‹x≠"__name__"›)(YM:‹(x==("__debug__":Str))=aD›)(he:‹au (a::es) X.env=(aD,dj a X.env)::au es X.env›)(ZH:‹(c9 pos (au es X.env)).any (·.1)=aD›):PE X (.Call (.Name x p) (a::es) [] pos) (Zf Z (Yy g fr)):=(N8 hc hg hm hv ha hn YM he ZH).imp λ_ _ _ h=>EE hp h
theorem Oq{p}(hm:X.mg "len"=aB)(ha:PE X a (Zf Z fa))(hg:‹Gl X "len"›)(he:‹au [a] X.env=(aD,dj a X.env)::au [] X.env›)(ZH:‹(c9 pos (au [] X.env)).any (·.1)=aD›):PE X (.Call (.Name "len" p) [a] [] pos) (Zf Z (Yy Cb (Zd fa Zi))):=
 Vp (Ah.or Vb) eA hm PySem.boot_len (Zh ha Zy he) hg (by decide) (by decide) he ZH
theorem EN{p}(hm:X.mg "list"=aB)(ha:PE X a (Zf Z fa))(hg:‹Gl X "list"›)(he:‹au [a] X.env=(aD,dj a X.env)::au [] X.env›)(ZH:‹(c9 pos (au [] X.env)).any (·.1)=aD›):PE X (.Call (.Name "list" p) [a] [] pos) (Zf Z (Yy Pm (Zd fa Zi))):=
 Mk Vc qL hm boot_list (Zh ha Zy he) hg (by decide) (by decide) he ZH
theorem Vq{p}(hm:X.mg "tuple"=aB)(ha:PE X a (Zf Z fa))(hg:‹Gl X "tuple"›)(he:‹au [a] X.env=(aD,dj a X.env)::au [] X.env›)(ZH:‹(c9 pos (au [] X.env)).any (·.1)=aD›):PE X (.Call (.Name "tuple" p) [a] [] pos) (Zf Z (Yy Tr (Zd fa Zi))):=
 Mk M9 nH hm boot_tuple (Zh ha Zy he) hg (by decide) (by decide) he ZH
theorem qJ{p}(hm:X.mg "int"=aB)(ha:PE X a (Zf Z fa))(hg:‹Gl X "int"›)(he:‹au [a] X.env=(aD,dj a X.env)::au [] X.env›)(ZH:‹(c9 pos (au [] X.env)).any (·.1)=aD›):PE X (.Call (.Name "int" p) [a] [] pos) (Zf Z (Yy MJ (Zd fa Zi))):=
 Mk jr f' hm boot_int (Zh ha Zy he) hg (by decide) (by decide) he ZH
theorem Po{c}{p p2}(hm:X.mg "isinstance"=aB)(uN:X.mg x=aB)(hv:bootBuiltins x=aA (.type c))(hk:∀d:D,d.isExc=aD->PySem.W.kitOne X.K (.type d.pyTy) (.type c)=aA (d.pyTy==c|| (c=="int" &&d.pyTy=="bool")))(ha:PE X a (Zf Z fa))(hg:‹Gl X "isinstance"›)(uS:‹Gl X x›)(hn:‹x≠"__name__"›)(YM:‹(x==("__debug__":Str))=aD›)(he:‹au [a,.Name x p2] X.env=(aD,dj a X.env)::au [.Name x p2] X.env›)(UV:‹au [.Name x p2] X.env=(aD,dj (.Name x p2) X.env)::au [] X.env›)(ZH:‹(c9 pos (au [.Name x p2] X.env)).any (·.1)=aD›):
  PE X (.Call (.Name "isinstance" p) [a,.Name x p2] [] pos) (Zf Z (unF (Vl c) fa)):=
 (Kd kJ hg hm boot_isinstance (Wn ha (Wn (mE (v:=.ty c) uS uN hv rfl hn YM) Ql UV) he) (by decide) (by decide) he ZH).imp λσ H Q h=>by have h2:=CK (eB hk) h;exact h2
theorem nD(ho:B5 X (eu op) r)(hp:Wj Z r g)(V':B5 X (eu op') r')(VZ:Wj Z r' g')(ha:PE X a (Zf Z fa))(hb:PE X b (Zf Z fb))(hc:PE X c (Zf Z fc))(hm:lastMarks [op,op'] [b,c]=aD:=by with_unfolding_all rfl):
  PE X (.Compare a [op,op'] [b,c] pos) (Zf Z (EC g g' fa fb fc)):=(kM ho V' ha hb hc hm).imp λ_ _ _ h=>mL hp VZ h
theorem Yo(i)(hN:X.N.Nodup)(hi:‹X.N[i]? =aA x›)(hx:Loc X.env.scope x:=by first|exact Or.inl rfl|exact fu rfl)(hf:‹X.fn x=aC\/X.env.scope.names.lookup x=aA .local›):PG X (.Name x pos) (Ra Z (Zl i)):=(n_ hN hi hx hf).imp λ_ _ _ _ h=>mK h
theorem Vr:PGs X [] (Rp Z Ct):=n9.imp λ_ _ _ _ h=>qy h
theorem Bx(h1:PG X a (Ra Z g))(h2:PGs X es (Rp Z r))(hs:‹(assignEach (a::es) X.env).map (·.2)=assign a X.env::(assignEach es X.env).map (·.2)›):PGs X (a::es) (Rp Z (W0 g r)):=(kQ h1 h2 hs).imp λ_ _ _ _ h=>mJ h
theorem LH{k:Nat}(hc:X.calm=aC)(h:PGs X es (Rp Z g))(hn:‹(assignEach es X.env).length=n›)(YB:‹(assignEach es X.env).findIdx? (·.1)=aB›):PG X (.Tuple es k pos) (Ra Z (Bv n g)):=(pJ hc h hn YB).imp λ_ _ _ _ h=>qw h
theorem Pp{tg}{p}(hm:X.mg "range"=aB)(ha:PE X a (Zf Z fa))(hg:‹Gl X "range"›)(hs:‹au [a] X.env=[(aD,dj a X.env)]›):PI X tg (.Call (.Name "range" p) [a] [] pos) (Ue Z (Hz (Zd fa Zi))):=(ju hg hm (Zh ha Zy hs) hs).imp λ_ _ _ h=>qv h
theorem EM{XG}{k}{tp p}(hm:X.mg "enumerate"=aB)(ha:PE X a (Zf Z fa))(hg:‹Gl X "enumerate"›)(hs:‹au [a] X.env=[(aD,dj a X.env)]›):PI X (.Tuple XG k tp) (.Call (.Name "enumerate" p) [a] [] pos) (Ue Z (De (Zm fa Zt))):=(nL hg hm (Yc ha Yz hs) hs).imp λ_ _ _ h=>nJ h
theorem Ew{src:List BSrc}(kind:scope.kind= .function)(nocell:(scope.names.all λy=>!(y.2== .cell))=aC)(names:(scope.names.all λy=>!(y.2== .local)|| (scope.names.lookup y.1==aA .local))=aC)(free:(scope.names.all λy=>!(y.2== .free)|| (X.env.kindOf y.1==aA .cell)|| (X.env.kindOf y.1==aA .free))=aC)(len:src.length=N'.length)(cap:((gh src.length).all λk=>match src[k]?,N'[k]? with
   |some (.cap j),aA x=>(X.N[j]? ==aA x)&&((X.env.kindOf x==aA .cell)|| (X.env.kindOf x==aA .free))&&(scope.names.lookup x==aA .free)
   |some .acc,aA x=>scope.names.lookup x==aB
   |_,_=>aC)=aC):CompScope X N' scope src:=by
 have OF:∀(k:Nat) (q:BSrc) (x:Str),src[k]? =aA q->N'[k]? =aA x->(match aA q,aA x with
   |some (.cap j),aA x=>(X.N[j]? ==aA x)&&((X.env.kindOf x==aA .cell)|| (X.env.kindOf x==aA .free))&&(scope.names.lookup x==aA .free)
   |some .acc,aA x=>scope.names.lookup x==aB
   |_,_=>aC)=aC:=λk q x h1 h2=>by
  have hk:k<src.length:=(bf.mp h1).1;have:=b9.mp cap k (List.mem_range.mpr hk);rw[h1,h2]at this;exact this
 refine⟨kind,λy hy e=>?_,λy hy e=>?_,λy hy e=>?_,len,λk j x h1 h2=>?_,λk x h1 h2=>?_⟩
 .have:=b9.mp nocell y hy;rw[e]at this;cases this
 .have:=b9.mp names y hy;rw[e]at this;simpa using this
 .have:=b9.mp free y hy;rw[e]at this;simpa using this
 .have:=OF k (.cap j) x h1 h2;simp only[dn,Bool.or_eq_true,beq_iff_eq]at this;exact⟨this.1.1,this.1.2,this.2⟩
 .have:=OF k .acc x h1 h2;simpa using this
theorem GP{src:List BSrc}(k)(acc:src[k]? =aA .acc)(uni:((gh src.length).all λi=>match src[i]? with
   |some .acc=>i==k
   |_=>aC)=aC):SrcOk src k:=⟨acc,λi h=>by
  have hi:i<src.length:=(bf.mp h).1;have:=b9.mp uni i (List.mem_range.mpr hi);rw[h]at this;simpa using this⟩
theorem Ao(K):∀d:D,d.isExc=aD->PySem.W.kitOne K (.type d.pyTy) (.type "str")=aA (d.pyTy=="str" || ("str"=="int" &&d.pyTy=="bool")):=by intro d h;cases d<;> first| (cases h;done)|with_unfolding_all rfl
theorem kI(K):∀d:D,d.isExc=aD->PySem.W.kitOne K (.type d.pyTy) (.type "dict")=aA (d.pyTy=="dict" || ("dict"=="int" &&d.pyTy=="bool")):=by intro d h;cases d<;> first| (cases h;done)|with_unfolding_all rfl
theorem xg(h:∀Z:cU X.K,PG X tg (Ra Z g)):PG X tg (xG X.K g):=λcO s σ H v u Q I r ⟨Z,q⟩=>h Z cO s σ H v u Q I r q
theorem xe(h:∀Z:cU X.K,PE X e (Zf Z f)):PE X e (xE X.K f):=λcO s σ H Q I ⟨Z,q⟩=>h Z cO s σ H Q I q
theorem xt(h:∀Z:cU X.K,PT X e (Wc Z f)):PTs X [e] (xT X.K f):=λcO s σ H Q I ⟨Z,q⟩=>mQ (h Z) cO s σ H Q I q
theorem xt0:PTs X [] (xT X.K O8):=λcO s σ H Q I ⟨Z,q⟩=>by refine Yx q λF δ own b δ' sr e k=>?_;cases e;exact mR cO s σ H Q I (k H F own (Zo.refl H) (Zo.refl F) sr)
theorem qI(hc:X.calm=aC)(S:CompScope X N' scope src)(So:SrcOk src k)(hk:k∉g.tch)(hi:PI X tg ZG (Ue Z fi))(hg:∀C s₀ H₀ ex,PG (X.block N' scope C s₀ H₀ ex) tg (xG X.K g))(ht:∀C s₀ H₀ ex,PTs (X.block N' scope C s₀ H₀ ex) Z' (xT X.K tt))(he:∀C s₀ H₀ ex,PE (X.block N' scope C s₀ H₀ ex) elt (xE X.K te))(hs:‹∀x,foldedSetIterable ZG X.env x=pure x›):PE X (.ListComp elt [⟨tg,ZG,Z',0⟩] scope pos) (Zf Z (Op src k fi g tt te)):=(mP hc S hi hg ht he hs).imp λ_ _ _ h=>yO So hk h
theorem Z8:Mh X [] (Zx Z Yn):=mB.imp λ_ _ _ h=>q5 h
theorem Ze{st}{rest}(h1:PS X st (Zx Z f))(h2:Mh X rest (Zx Z g)):Mh X (st::rest) (Zx Z (Zs f g)):=(Hi h1 h2).imp λ_ _ _ h=>u4 h
theorem Zj{st}(h:PS X st (Zx Z f)):Mh X [st] (Zx Z f):=x_ h
noncomputable def Jv:FS:=λ_=>aB
theorem Qy{st}:PS X st (Zx Z Jv):=kR.imp λ_ _ _ h=>by refine Ww h λF δ own fl s e k=>?_;cases e
theorem yJ(h:PE X a (Zf Z fa))(hs:‹swapsWith a aB pos.line X.env=pure aD›):PS X (.Expr a pos) (Zx Z (LN fa)):=(Ot h hs).imp λ_ _ _ h=>qz h
theorem Z7(h:PE X a (Zf Z fa)):PS X (.Return (aA a) pos) (Zx Z (Yv fa)):=(S5 h).imp λ_ _ _ h=>AN h
theorem Wf(hc:PT X c (Wc Z t))(ha:Mh X bt (Zx Z f))(hb:Mh X be (Zx Z g)):PS X (.If c bt be pos) (Zx Z (Jt t f g)):=(t5 hc ha hb).imp λ_ _ _ h=>u3 h
theorem Zz(i){pos'}(hN:X.N.Nodup)(he:PE X a (Zf Z fa))(hi:‹X.N[i]? =aA x›)(hx:Loc X.env.scope x:=by first|exact Or.inl rfl|exact fu rfl)(hs:‹swapsWith a (aA (.Name x pos')) pos.line X.env=pure aD›)(hf:‹X.fn x=aC\/X.env.scope.names.lookup x=aA .local›):
  PS X (.Assign [.Name x pos'] a pos) (Zx Z (Ye i fa)):=(EI hN hi hx he hs hf).imp λ_ _ _ h=>GJ h
theorem ja(i){py spos}(hc:X.calm=aC)(S:CompScope X N' scope src)(So:SrcOk src k)(hk:k∉g.tch)(hi:PI X tg ZG (Ue Z fi))(hg:∀C s₀ H₀ ex,PG (X.block N' scope C s₀ H₀ ex) tg (xG X.K g))(ht:∀C s₀ H₀ ex,PTs (X.block N' scope C s₀ H₀ ex) Z' (xT X.K tt))(he:∀C s₀ H₀ ex,PE (X.block N' scope C s₀ H₀ ex) elt (xE X.K te))(hN:X.N.Nodup)(PN:‹X.N[i]? =aA y›)(hx:‹X.env.scope.names.lookup y=aA .local›)(Y':‹swapsWith (.ListComp elt [⟨tg,ZG,Z',0⟩] scope pos) (aA (.Name y py)) spos.line X.env=pure aC›)(hs:‹∀x,foldedSetIterable ZG X.env x=pure x›):PS X (.Assign [.Name y py] (.ListComp elt [⟨tg,ZG,Z',0⟩] scope pos) spos) (Zx Z (Ye i (Op src k fi g tt te))):=
 (iW hc S hi hg ht he hN PN hx Y' hs).imp λD σ H h=>by refine Yx (GJ h) λF δ own rv δ' s e q=>?_;exact yO So hk ⟨F,δ,own,rv,δ',s,e,q⟩
theorem Qz(hp:PassesOwn (cv X.prog X.w) X.A X.env X.xe)(hc:X.calm=aC)(hi:PI X tg ZG (Ue Z fi))(hg:PG X tg (Ra Z g))(hb:Mh X body (Zx Z f))(hs:‹∀x,foldedSetIterable ZG X.env x=pure x›):
  PS X (.For tg ZG body [] pos) (Zx Z (Uw fi g f)):=(qt hp hc hi hg hb hs).imp λ_ _ _ h=>u2 h
theorem Vt(n)(hp:PassesOwn (cv X.prog X.w) X.A X.env X.xe)(hc:PT X c (Wc Z t))(hb:Mh X body (Zx Z f)):PS X (.While c body [] pos) (Zx Z (Ju t f n)):=(kP hp hc hb).imp λ_ _ _ h=>mI h
theorem Pq(i){px ZC ZA}(hb:PE X b (Zf Z fb))(hN:‹X.N[i]? =aA x›)(hv:Hh X.env.scope x:=by first|exact Or.inl rfl|exact fu (Or.inl rfl)|exact fu (fu rfl))(hd:‹(x==("__debug__":Str))=aD›)(YC:‹(x==("__classdict__":Str))=aD›)(ZF:‹eg (.Name x px) "append" X.env (dj (.Name x px) X.env)=dj (.Name x px) X.env›)(ZQ:‹((c9 ZA (au [b] X.env)).all (λx=>!x.1)&&(backToKw ZA (f9 [] X.env)).all (λx=>x.1.isSome)&&decide ([b].length+([]:List f7).length+(if([]:List f7).isEmpty then 0 else 1)<30))=aC›)(ZE:‹(ZC.endLine==ZA.line)=aC›)(hs:‹au [b] X.env=(aD,dj b X.env)::au [] X.env›)(ZH:‹(c9 ZA (au [] X.env)).any (·.1)=aD›)(Y':‹swapsWith (.Call (.Attribute (.Name x px) "append" ZC) [b] [] ZA) aB pos.line X.env=pure aD›):
  PS X (.Expr (.Call (.Attribute (.Name x px) "append" ZC) [b] [] ZA) pos) (Zx Z (Vi i fb)):=
 (Ot (Cp PySem.F.plainAttrs_list PySem.F.slot_list_append PySem.F.type_list_append O3 (Om (i:=i) hN hv hd YC) (Wn hb Ql hs) ZF ZQ ZE hs ZH) Y').imp λ_ _ _ h=>u1 h
end
@[simp]noncomputable def Yj(f:FS)(n:Nat)(ds:List D):Option SV:=match f (Ca n ds)with
 |some (.rt sv)=>aA sv
 |some (.nx _)=>aA (.fz .non)
 |_=>aB
theorem lr(h:Y3 K n (Yj f N.length) vs H Q E):∃F,Zx (ent H F:cU K) f {nx:=λ_ H'=>Q .non H',rt:=Q} (L2.start N vs) H:=by
 obtain⟨F,ds,sv,le,r,hn,e,k⟩:=h;unfold Yj at e;split at e
 .rename_i sw hf;cases e;exact⟨F,F,_,_,.rt sv,Al (N:=N) le r,hf,λv H' F' ns a b c d e' nd ok=>k v H' F' ns d a b c e' nd ok⟩
 .rename_i δ hf;cases e;exact⟨F,F,_,_,.nx δ,Al (N:=N) le r,hf,λZB H' F' own' a s'=>k .non H' F' [] s'.old a s'.le s'.fro (.fz .non) cx λ_ h=>(nomatch h)⟩
 .cases e
theorem Dh:∀ns:List Int,cQ K F (ns.map D.int) (ns.map V.int)
 | []=>.nil
 |n::r=>.cons (.int n) (Dh r)
end
section
variable{K:aj}
@[simp]noncomputable def Pr(f:D->D->Option Bool):List D->List D->Option Bool
 |x::xs,y::ys=>(f x y).bind λb=>(Pr f xs ys).bind λc=>aA (b&&c)
 |_,_=>aA aC
@[simp]def Ex(f:D->D->Option Bool):D->D->Option Bool
 | .lst xs,.lst ys=>if xs.length=ys.length then Pr f xs ys else aA aD
 | .tup xs,.tup ys=>(Pr f xs ys).bind λb=>aA (b&&decide (xs.length=ys.length))
 | .lst _,.tup _=>aA aD
 | .tup _,.lst _=>aA aD
 |d1,d2=>eqS d1 d2
theorem Ks(e:eqS d1 d2=aA b)(r1:Wb K F H d1 x)(r2:Wb K F H d2 y):Wx x=aC/\Wx y=aC/\b=Hm x y:=by unfold eqS at e;split at e<;> cases e<;> (first|obtain rfl:=r1.non|obtain rfl:=r1.int|obtain rfl:=r1.bl|obtain rfl:=r1.str)<;> (first|obtain rfl:=r2.non|obtain rfl:=r2.int|obtain rfl:=r2.bl|obtain rfl:=r2.str)<;> refine⟨rfl,rfl,?_⟩<;> first|rfl|simp[Hm]
section
variable{X:Cx}{cO:List (av×Obj)}{σ:L2.St}{F H:Hp}{s:ax}
theorem lq(rx:Ya x v)(ry:Ya y v)(fx:Wx x=aC)(fy:Wx y=aC):Hm x y=aC:=by
 cases x with
 |non=>cases rx;cases y with
  |non=>rfl
  |bl b=>cases ry
  |int b=>obtain⟨t,e⟩:=ry;cases e
  |str b=>obtain⟨t,e⟩:=ry;cases e
  |_=>cases fy
 |bl a=>cases rx;cases y with
  |non=>cases ry
  |bl b=>cases ry;simp[Hm]
  |int b=>obtain⟨t,e⟩:=ry;cases e
  |str b=>obtain⟨t,e⟩:=ry;cases e
  |_=>cases fy
 |int a=>obtain⟨t,rfl⟩:=rx;cases y with
  |non=>cases ry
  |bl b=>cases ry
  |int b=>obtain⟨t,e⟩:=ry;cases e;simp[Hm]
  |str b=>obtain⟨t,e⟩:=ry;cases e
  |_=>cases fy
 |str a=>obtain⟨t,rfl⟩:=rx;cases y with
  |non=>cases ry
  |bl b=>cases ry
  |int b=>obtain⟨t,e⟩:=ry;cases e
  |str b=>obtain⟨t,e⟩:=ry;cases e;simp[Hm]
  |_=>cases fy
 |_=>cases fx
theorem ie{h:ed}(h1:h.IsList a i1)(h2:h.IsList a i2):i1=i2:=by obtain⟨o,e1,c1,n1,d1⟩:=h1;obtain⟨o2,e2,c2,n2,d2⟩:=h2;rw[e1]at e2;cases e2;rw[d1]at d2;cases d2;rfl
theorem Di{h:ed}(h1:h.IsTuple a i1)(h2:h.IsTuple a i2):i1=i2:=by obtain⟨o,e1,c1,n1,d1⟩:=h1;obtain⟨o2,e2,c2,n2,d2⟩:=h2;rw[e1]at e2;cases e2;rw[d1]at d2;cases d2;rfl
theorem wB(hf:∀d1 d2 b x y v,cX X.K F d1 x->Ya x v->cX X.K F d2 y->Ya y v->f d1 d2=aA b->b=aC):∀{ys:List D} {vs ws:List V} {us:List aq} {b:Bool},cQ X.K F xs vs->Ym vs us->cQ X.K F ys ws->Ym ws us->Pr f xs ys=aA b->b=aC:=by
 induction xs with
 |nil=>intro ys vs ws us b _ _ _ _ e;cases e;rfl
 |cons x xs ih=>
  intro ys vs ws us b r1 v1 r2 v2 e;cases r1 with
  |cons h1 t1=>
   cases v1 with
   |cons a1 w1=>
    cases v2 with
    |cons a2 w2=>
     cases r2 with
     |cons h2 t2=>obtain⟨b,e1,e2⟩:=dh.mp e;obtain⟨c,e3,e4⟩:=dh.mp e2;cases e4;rw[hf _ _ _ _ _ _ h1 a1 h2 a2 e1,ih t1 w1 t2 w2 e3];rfl
theorem jZ(I:cP X cO σ H s)(le:Zo F H)(ih:∀d1 d2 b x y v,cX X.K F d1 x->Ya x v->cX X.K F d2 y->Ya y v->f d1 d2=aA b->b=aC)(d1 d2 b x y v)(r1:cX X.K F d1 x)(v1:Ya x v)(r2:cX X.K F d2 y)(v2:Ya y v)(e:Ex f d1 d2=aA b):b=aC:=by
  unfold Ex at e;split at e
  .rename_i xs ys;cases r1 with
   |lst q1 _ p1=>
   cases r2 with
   |lst q2 _ p2=>
   cases v1;cases v2;refine Zr (I.list (Qq le q1)) λi1 w1 l1 _=>?_;refine Zr (I.list (Qq le q2)) λi2 w2 l2 _=>?_;have z:=ie l1.isList l2.isList;have z:i1=i2:=by simpa using z
   subst z;split at e
   .exact wB (ih) p1 w1 p2 w2 e
   .rename_i hl;have h1:=w1.length;have h2:=w2.length;have h3:=p1.length;have h4:=p2.length;exact bN (by omega) hl
  .rename_i xs ys;cases r1 with
   |tup q1 p1=>
   cases r2 with
   |tup q2 p2=>
   cases v1;cases v2;refine Zr (I.tuple (Od le (Ip q1))) λi1 w1 l1 _=>?_;refine Zr (I.tuple (Od le (Ip q2))) λi2 w2 l2 _=>?_;have z:=Di l1 l2;have z:i1=i2:=by simpa using z
   subst z;refine cR e λc e1 e2=>?_;cases e2;have h1:=w1.length;have h2:=w2.length;have h3:=p1.length;have h4:=p2.length;rw[wB (ih) p1 w1 p2 w2 e1,bL (by omega)];rfl
  .cases r1 with
   |lst q1 _ p1=>
   cases r2 with
   |tup q2 p2=>
   cases v1;cases v2;refine Zr (I.list (Qq le q1)) λi1 w1 l1 _=>?_;refine Zr (I.tuple (Od le (Ip q2))) λi2 w2 l2 _=>?_;exact bN rfl (SeqAt.ne_of_list_tuple (s:=s) l1.isList l2)
  .cases r1 with
   |tup q1 p1=>
   cases r2 with
   |lst q2 _ p2=>
   cases v1;cases v2;refine Zr (I.tuple (Od le (Ip q1))) λi1 w1 l1 _=>?_;refine Zr (I.list (Qq le q2)) λi2 w2 l2 _=>?_;exact bN rfl (SeqAt.ne_of_list_tuple (s:=s) l2.isList l1)
  .obtain⟨f1,f2,rfl⟩:=Ks (H:=H) e (Wb.of r1) (Wb.of r2);exact lq v1 v2 f1 f2
theorem Dj(hf:∀d1 d2 b x y v u,cX X.K F d1 x->Ya x v->cX X.K F d2 y->Ya y u->f d1 d2=aA b->SeqAt.EqAt A s v u b):∀{ys:List D} {vs ws:List V} {us zs:List aq} {b:Bool},cQ X.K F xs vs->Ym vs us->cQ X.K F ys ws->Ym ws zs->Pr f xs ys=aA b->
  ∃e,(∀j h1 (h2:j<zs.length),SeqAt.EqAt A s us[j] zs[j] (e j))/\(gh (min us.length zs.length)).all e=b:=by
 induction xs with
 |nil=>intro ys vs ws us zs b r1 v1 _ _ e;cases r1;cases v1;cases e;exact⟨λ_=>aC,λj h1=>bN h1 (Nat.not_lt_zero _),by rw[List.length_nil,Nat.zero_min];rfl⟩
 |cons x xs ih=>
  intro ys vs ws us zs b r1 v1 r2 v2 e;cases r1 with
  |cons h1 t1=>
   cases v1 with
   |cons a1 w1=>
    cases v2 with
    |nil=>cases r2;cases e;exact⟨λ_=>aC,λj _ h2=>bN h2 (Nat.not_lt_zero _),by rw[List.length_nil,Nat.min_zero];rfl⟩
    |cons a2 w2=>
     cases r2 with
     |cons h2 t2=>
      obtain⟨b,e1,e2⟩:=dh.mp e;obtain⟨c,e3,e4⟩:=dh.mp e2;cases e4;obtain⟨g,g1,g2⟩:=ih t1 w1 t2 w2 e3;refine⟨λj=>Nat.casesOn j b g,λj h1 h2=>?_,?_⟩
      .cases j with
       |zero=>exact hf _ _ _ _ _ _ _ (by assumption:_) a1 (by assumption:_) a2 e1
       |succ j=>exact g1 j (Nat.lt_of_succ_lt_succ h1) (Nat.lt_of_succ_lt_succ h2)
      .rw[bc,bc,Nat.succ_min_succ,List.range_succ_eq_map,List.all_cons,List.all_map,<-g2];rfl
theorem rcN(I:cP X cO σ H s)(le:Zo F H)(ih:∀d1 d2 b x y v u,cX X.K F d1 x->Ya x v->cX X.K F d2 y->Ya y u->f d1 d2=aA b->SeqAt.EqAt A.in1 s v u b)(r1:Wb X.K F H d1 x)(v1:Ya x v)(r2:Wb X.K F H d2 y)(v2:Ya y u)(e:Ex f d1 d2=aA b)(hu:A.units<cLine)(hr:Wx x=aD\/Wx y=aD):(∃a c,v= .ref a/\u= .ref c)/\SeqAt.RcAt A s v u b/\SeqAt.RcNeAt A s v u (!b):=by
 unfold Ex at e;split at e
 .obtain⟨a1,LV,rfl,q1,p1⟩:=r1.lst le;obtain⟨a2,LU,rfl,q2,p2⟩:=r2.lst le;cases v1;cases v2;refine Zr (I.list q1) λi1 w1 l1 _=>?_;refine Zr (I.list q2) λi2 w2 l2 _=>?_;have h1:=w1.length;have h2:=w2.length;have h3:=p1.length;have h4:=p2.length;refine⟨⟨_,_,rfl,rfl⟩,?_⟩;split at e
  .rename_i hl;obtain⟨g,g1,g2⟩:=Dj ih p1 w1 p2 w2 e;have hm:min i1.length i2.length=i1.toArray.size:=by simp;omega
   rw[hm]at g2;subst g2;have hz:i1.toArray.size=i2.toArray.size:=by simp;omega
   exact⟨SeqAt.RcAt.lists l1.isList l2.isList hz hu (λj j1 j2=>by simpa using g1 j (by simpa using j1) (by simpa using j2)),SeqAt.RcNeAt.lists l1.isList l2.isList hz hu (λj j1 j2=>by simpa using g1 j (by simpa using j1) (by simpa using j2))⟩
  .rename_i hl;cases e;have hz:(i1.toArray.size !=i2.toArray.size)=aC:=by simp;omega
   exact⟨SeqAt.RcAt.lists_lengths l1.isList l2.isList hz hu,SeqAt.RcNeAt.lists_lengths l1.isList l2.isList hz hu⟩
 .rename_i xs ys;obtain⟨a1,LV,rfl,q1,p1⟩:=r1.tup le;obtain⟨a2,LU,rfl,q2,p2⟩:=r2.tup le;cases v1;cases v2;refine Zr (I.tuple q1) λi1 w1 l1 _=>?_;refine Zr (I.tuple q2) λi2 w2 l2 _=>?_;have h1:=w1.length;have h2:=w2.length;have h3:=p1.length;have h4:=p2.length;refine cR e λc e1 e2=>?_;cases e2;refine⟨⟨_,_,rfl,rfl⟩,?_⟩;obtain⟨g,g1,g2⟩:=Dj ih p1 w1 p2 w2 e1;subst g2;have e3:((gh (min i1.length i2.length)).all g&&decide (xs.length=ys.length))=((gh (min i1.toArray.size i2.toArray.size)).all g&&i1.toArray.size==i2.toArray.size):=by
   have:(i1.toArray.size==i2.toArray.size)=decide (xs.length=ys.length):=by rw[bq,bq,<-h1,<-h2,<-h3,<-h4];rfl
   rw[this];simp
  rw[e3];exact⟨SeqAt.RcAt.tuples l1 l2 hu (λj j1 j2=>by simpa using g1 j (by simpa using j1) (by simpa using j2)),SeqAt.RcNeAt.tuples l1 l2 hu (λj j1 j2=>by simpa using g1 j (by simpa using j1) (by simpa using j2))⟩
 .obtain⟨a1,LV,rfl,q1,p1⟩:=r1.lst le;obtain⟨a2,LU,rfl,q2,p2⟩:=r2.tup le;cases v1;cases v2;cases e;refine Zr (I.list q1) λi1 w1 l1 _=>?_;refine Zr (I.tuple q2) λi2 w2 l2 _=>?_;exact⟨⟨_,_,rfl,rfl⟩,SeqAt.RcAt.list_tuple l1.isList l2 hu,SeqAt.RcNeAt.list_tuple l1.isList l2 hu⟩
 .obtain⟨a1,LV,rfl,q1,p1⟩:=r1.tup le;obtain⟨a2,LU,rfl,q2,p2⟩:=r2.lst le;cases v1;cases v2;cases e;refine Zr (I.tuple q1) λi1 w1 l1 _=>?_;refine Zr (I.list q2) λi2 w2 l2 _=>?_;exact⟨⟨_,_,rfl,rfl⟩,SeqAt.RcAt.tuple_list l1 l2.isList hu,SeqAt.RcNeAt.tuple_list l1 l2.isList hu⟩
 .obtain⟨f1,f2,_⟩:=Ks e r1 r2;rcases hr with hr|hr
  .rw[f1]at hr;cases hr
  .rw[f2]at hr;cases hr
end
@[simp]noncomputable def D.isFlat:D->Bool
 | .non=>aC| .bl _=>aC| .int _=>aC| .str _=>aC|_=>aD
theorem Kt(r:Wb K F H d x)(h:d.isFlat=aD):Wx x=aD:=by
 obtain⟨sv,ns,e,n,sh,hp⟩:=r;cases sh with
 |fz r=>cases e;cases r<;> first|rfl|cases h
 |ol r=>rfl
 |oK e' r=>rfl
 |oT kb e' r=>rfl
 |oN e' r=>rfl
 |oL _ r=>rfl
 |oQ e' r=>rfl
@[simp]noncomputable def Dk:D->Option SV
 | .int i=>aA (.fz (.int (-i)))
 |_=>aB
theorem f_{Z:cU K}:GK Z (rU λi=>.int (-i)) Dk:=by
 intro F H σ δ own x d sv Q s r e k;unfold Dk at e;split at e
 .cases e;exact⟨_,r.int,k.fz s (.int _)⟩
 .cases e
section
variable{X:Cx}{Z:cU X.K}{a b c:ca}{fa fb fc:FE}{pos:Pos}
theorem Dl(ha:PE X a (Zf Z fa)):PE X (.UnaryOp .USub a pos) (Zf Z (unF Dk fa)):=(zB yY ha).imp λ_ _ _ h=>CK f_ h
end
end
section
variable{X:Cx}{tg:ca}
noncomputable def Its(z:Str):It:=⟨λi _=>i<z.length,λi H x H'=>H'=H/\∃c,z.cps[i]? =aA c/\x= .str ⟨#[c]⟩,λi _=>z.length<=i⟩
theorem j7{P:b8}{w:df}{K:aj}{tg:ca}(z:Str)(t:Tok)(it:av):Turn P w K tg (Its z) [it] it (λi h=>h.IsStrIter it (strIterType z) z t i)where
 mem:=by simp
 obj:=λi h st b hb=>by
  have e:b=it:=by simpa using hb
  subst e;refine Zr st λo e c d=>?_;exact⟨o,e,λv q=>by rw[d]at q;cases q⟩
 keep:=λi h h' st k=>by refine Zr st λo e c d=>?_;exact⟨o,k it (by simp) o e,c,d⟩
 item:=by
  intro X hP hw hK hc i cO s σ H E I hf st hg;subst hP hw hK;refine Qx (hf it (by simp)) λf0 f1 f2 f3 f4 f5=>?_;have YL:i<z.cps.size:=hg;have hx:z.cps[i]? =aA z.cps[i]:=by simp[YL]
  have fin:∀h',h'.IsStrIter it (strIterType z) z t (i+1)->Heap.SameBut it s.heap h'->∃u,aA (Value.str ⟨#[z.cps[i]]⟩ s.toks)=aA u/\b5 (cv X.prog X.w) X.A (letOwnedTupleGo tg (.ref it) u) (λ_ s2=>∃x H',cP X cO σ H' s2/\Ya x u/\(Its z).yld i H x H'/\s2.heap.IsStrIter it (strIterType z) z t (i+1)/\∀b∈[it],H' b=aB) E {s with heap:=h',toks:=s.toks+1}:=λh' YQ sb=>by
   have I1:cP X cO σ H {s with heap:=h',toks:=s.toks+1}:=I.turned (t':=s.toks+1) (λb o hb q=>(sb.2 b hb).trans q) f0 f1 f3 f4 f5;refine Zr (id YQ) λo e c d=>?_;have hn:["enumerate","zip","dict_itemiterator","dict_reverseitemiterator","odict_iterator","itertools.zip_longest","itertools.pairwise"].contains (strIterType z)=aD:=by unfold strIterType;split<;> decide
   exact⟨_,rfl,N0 (s:={s with heap:=h',toks:=s.toks+1}) e c d hn ⟨.str ⟨#[z.cps[i]]⟩,H,I1,⟨_,rfl⟩,⟨rfl,_,hx,rfl⟩,YQ,λb hb=>(hf b hb).1⟩⟩
  cases ha:z.cps.all (· <128)with
  |false=>
   have et:strIterType z="str_iterator":=by unfold strIterType;rw[ha];rfl
   rw[et]at st fin;rw[et];exact wpAny_pyNext_wide_item st hx fin
  |true=>
   have et:strIterType z="str_ascii_iterator":=by unfold strIterType;rw[ha];rfl
   rw[et]at st fin;rw[et];exact wpAny_pyNext_ascii_item st hx fin
 done:=by
  intro X hP hw hK hc i cO s σ H E I hf st hg;subst hP hw hK;refine Qx (hf it (by simp)) λf0 f1 f2 f3 f4 f5=>?_;have hge:z.cps.size<=i:=hg;have hx:z.cps[i]? =aB:=by simp[hge]
  cases ha:z.cps.all (· <128)with
  |false=>
   have et:strIterType z="str_iterator":=by unfold strIterType;rw[ha];rfl
   rw[et]at st;exact wpAny_pyNext_wide_end (I.ok.hd hc) st hx λh' eb=>⟨rfl,I.turned (t':=s.toks) (λb o hb q=>eb b o hb q) f0 f1 f3 f4 f5⟩
  |true=>
   have et:strIterType z="str_ascii_iterator":=by unfold strIterType;rw[ha];rfl
   rw[et]at st;exact wpAny_pyNext_ascii_end (I.ok.hd hc) st hx λh' eb=>⟨rfl,I.turned (t':=s.toks) (λb o hb q=>eb b o hb q) f0 f1 f3 f4 f5⟩
 self:=λ_ _ _ _ _ st h=>by
  cases ha:z.cps.all (· <128)with
  |false=>
   have et:strIterType z="str_iterator":=by unfold strIterType;rw[ha];rfl
   rw[et]at st;exact wpAny_pyIter_striter_wide st h
  |true=>
   have et:strIterType z="str_ascii_iterator":=by unfold strIterType;rw[ha];rfl
   rw[et]at st;exact wpAny_pyIter_striter_ascii st h
def vP(K:aj)(tl:TE):TI:=λσ H R=>tl σ H λx H1=>(∃a,x= .ref a/\(∃xs,On K H1 a xs)/\R (Itl K a) H1)\/(∃a,x= .ref a/\(∃xs,Er K H1 a xs)/\R (Itt K a) H1)\/(∃z,x= .str z/\R (Its z) H1)
theorem qH(hl:PE X l tl):PI X tg l (vP X.K tl):=by
 intro cO s σ H R I h;refine W7 (hl cO s σ H _ I h) λv s1 ZJ=>?_;obtain⟨x,H1,I1,r1,q1⟩:=ZJ;rcases q1 with⟨a,e,⟨xs,hq⟩,q⟩|⟨a,e,⟨xs,hq⟩,q⟩|⟨z,e,q⟩
 .subst e;cases r1;refine Zr (I1.list hq) λcS rv p hz=>?_;refine wpAny_pyIter_list p.isList ?_;refine⟨s1.heap.objs.size,[s1.heap.objs.size],_,_,H1,rfl,I1.kept (t':=s1.toks) λb o e=>bh _ e,jv a _,⟨_,cj _ rfl,rfl,rfl⟩,λb hb=>?_,q⟩;have e:b=s1.heap.objs.size:=by simpa using hb
  subst e;exact I1.fpOk (bg _) (I1.hok.fresh (bg _))
 .subst e;cases r1;refine Zr (I1.tuple hq) λcS rv p hz=>?_;refine wpAny_pyIter_tuple (show s1.heap.IsTuple a cS.toArray from p) ?_;refine⟨s1.heap.objs.size,[s1.heap.objs.size],_,_,H1,rfl,I1.kept (t':=s1.toks) λb o e=>bh _ e,ia a _,⟨_,cj _ rfl,rfl,rfl⟩,λb hb=>?_,q⟩;have e:b=s1.heap.objs.size:=by simpa using hb
  subst e;exact I1.fpOk (bg _) (I1.hok.fresh (bg _))
 .subst e;obtain⟨t,rfl⟩:=r1;refine wpAny_pyIter_strU ?_;refine⟨s1.heap.objs.size,[s1.heap.objs.size],_,_,H1,rfl,I1.kept (t':=s1.toks) λb o e=>bh _ e,j7 z t _,⟨_,cj _ rfl,rfl,rfl⟩,λb hb=>?_,q⟩;have e:b=s1.heap.objs.size:=by simpa using hb
  subst e;exact I1.fpOk (bg _) (I1.hok.fresh (bg _))
theorem Ey:∀l,Ym ((l.map (·.1)).map V.str) (strValues l)
 | []=>.nil
 | (x,t)::r=>.cons ⟨t,rfl⟩ (Ey r)
def yI:V->List V->Hp->VK->Prop:=λx xs H Q=>∃a b,x= .str a/\xs=[.str b]/\(b.length==0)=aD/\a.length<=sizeLine/\(Txt.split a b).length<=sizeLine/\∀p,H p=aB->Q (.ref p) (Wu H p (.lst ((Txt.split a b).map V.str)))
theorem lj:MtR X "str.split" yI:=by
 intro cO s σ H x xs v us Q I rx rs h;obtain⟨a,b,rfl,rfl,hb,ha,hz,q⟩:=h;obtain⟨t,rfl⟩:=rx;obtain⟨u,rfl,ru⟩:=Uu rs;obtain⟨t',rfl⟩:=ru;have one:Txt.split a b=[a]->∀tk,EP X cO σ Q (.ref s.heap.objs.size) {s with toks:=tk,heap:=s.heap.push {cls:=.type "list",data:=.seq #[.str a t]}}:=λe tk=>by rw[e]at q;exact⟨.ref _,_,I.lnew (t':=tk) (ys:=[.str a]) (cS:=[.str a t]) (.cons ⟨t,rfl⟩ .nil) (by show 1<=sizeLine;decide),rfl,q _ I.fresh⟩
 cases h1:(decide (a.length<b.length)||decide (c7 a<c7 b))
 .cases hf:(bv a b 0 a.length (a.length+1)).isEmpty
  .have e:Txt.split a b=Builtin.Str.partsBetween a (bv a b 0 a.length (a.length+1)) b.length:=(bI (ne_true_of_eq_false h1)).trans (bI (ne_true_of_eq_false hf));rw[e]at hz q;refine call_meets F.slot_str_split (typeIs_str _ _ _) F.entry_str_split (F.args_str_split_2 _ _) (meets_str_split_sep a b t t' h1 hb hf ha hz) ?_;rw[strsFrom_eq];have hv:=Ey (numbered s.toks (Builtin.Str.partsBetween a (bv a b 0 a.length (a.length+1)) b.length));rw[numbered_texts]at hv;exact⟨.ref _,_,I.lnew (t':=_) hv (by rw[ay];exact hz),rfl,q _ I.fresh⟩
  .exact call_meets F.slot_str_split (typeIs_str _ _ _) F.entry_str_split (F.args_str_split_2 _ _) (meets_str_split_not_found a b t t' h1 hb hf) (one ((bI (ne_true_of_eq_false h1)).trans (bJ hf)) s.toks)
 .exact call_meets F.slot_str_split (typeIs_str _ _ _) F.entry_str_split (F.args_str_split_2 _ _) (meets_str_split_cannot_occur a b t t' h1) (one (bJ h1) s.toks)
def AE:V->List V->Hp->VK->Prop:=λx xs H Q=>∃a b,x= .str a/\xs=[.str b]/\(b.length==0)=aD/\a.length<=sizeLine/\∀p,H p=aB->Q (.ref p) (Wu H p (.tup [.str (d5 a b).1,.str (d5 a b).2.1,.str (d5 a b).2.2]))
theorem cP.tnew{σ:L2.St}(I:cP X cO σ H s)(hv:Ym ys cS)(hz:ys.length<=sizeLine):
  cP X cO σ (Wu H s.heap.objs.size (.tup ys)) {s with heap:=s.heap.push {cls:=.type "tuple",data:=.seq cS.toArray},toks:=t'}:=
 I.laid (λ_ _ q=>bh _ q) (bg _) ⟨hz,cS,hv,⟨_,cj _ rfl,rfl,_,rfl⟩⟩
theorem nC:MtR X "str.partition" AE:=by
 intro cO s σ H x xs v us Q I rx rs h;obtain⟨a,b,rfl,rfl,hb,ha,q⟩:=h;obtain⟨t,rfl⟩:=rx;obtain⟨u,rfl,ru⟩:=Uu rs;obtain⟨t',rfl⟩:=ru;refine call_meets F.slot_str_partition (typeIs_str _ _ _) F.entry_str_partition (F.args_str_partition_2 _ _) (meets_str_partition a b t t' hb ha) ?_;unfold d5 at q;cases e:bv a b 0 a.length 1 with
 |nil=>rw[e]at q;exact⟨.ref _,_,I.tnew (t':=s.toks+1) (ys:=[.str a,.str Str.empty,.str Str.empty]) (cS:=[.str a t,.str Str.empty s.toks,.str Str.empty s.toks]) (.cons ⟨_,rfl⟩ (.cons ⟨_,rfl⟩ (.cons ⟨_,rfl⟩ .nil))) (by show 3<=sizeLine;decide),rfl,q _ I.fresh⟩
 |cons i r=>rw[e]at q;exact⟨.ref _,_,I.tnew (t':=s.toks+1+1) (ys:=[.str (Builtin.Str.strSub a 0 i),.str b,.str (Builtin.Str.strSub a (i+b.length) a.length)]) (cS:=[.str (Builtin.Str.strSub a 0 i) s.toks,.str b t',.str (Builtin.Str.strSub a (i+b.length) a.length) (s.toks+1)]) (.cons ⟨_,rfl⟩ (.cons ⟨_,rfl⟩ (.cons ⟨_,rfl⟩ .nil))) (by show 3<=sizeLine;decide),rfl,q _ I.fresh⟩
def vO(K:aj):List V->Hp->VK->Prop:=λxs H Q=>∃(p:av) (bs:List Bool),xs=[.ref p]/\On K H p (bs.map V.bl)/\Q (.bl (bs.all id)) H
theorem Dm:∀{bs:List Bool} {us:List aq},Ym (bs.map V.bl) us->us=bs.map Value.bool
 | [],_,r=>by rw[List.map_nil]at r;cases r;rfl
 |b::bs,_,r=>by
  rw[bn]at r;cases r with
  |cons h t=>cases(show _=Value.bool b from h);rw[Dm t];rfl
theorem Ps:∀bs:List Bool,(gh bs.length).all (λi=>(bs[i]?).getD aC)=bs.all id
 | []=>rfl
 |b::bs=>by rw[bc,List.range_succ_eq_map,List.all_cons,List.all_map,List.all_cons,<-Ps bs];rfl
theorem lh(hc:X.calm=aC):Ub X (.builtin "all") (vO X.K):=by
 intro cO s σ H xs us Q I rs h;obtain⟨p,bs,rfl,hq,q⟩:=h;obtain⟨u,rfl,ru⟩:=Uu rs;cases ru;refine Zr (I.list hq) λcS rv pl hz=>?_;have e:=Dm rv;subst e;refine call_all_walk (wpAny_pyIter_list pl.isList ?_);have YZ:p≠s.heap.objs.size:=λz=>by obtain⟨o,ho,_⟩:=pl.isList;have:=bx ho;rw[z]at this;exact fj _ this
 refine⟨s.heap.objs.size,_,_,_,_,_,λi=>(bs[i]?).getD aC,rfl,Walks.list (by first|exact I.ok.hd hc| (rw[show X.A.in1.handled=X.A.handled from rfl];exact I.ok.hd hc)) _ p YZ (bs.map Value.bool).toArray,⟨⟨_,cj _ rfl,rfl,rfl⟩,pl.isList.at λo e=>bh _ e⟩,?_,λh' tk hk=>?_⟩
 .intro i v s' Q' E' hP hQ;have PV:(bs.map Value.bool)[i]? =aA v:=by simpa using hP
  rw[bz]at PV;cases hb:bs[i]? with
  |none=>rw[hb]at PV;cases PV
  |some b=>rw[hb]at PV;cases PV;dsimp only at hQ;rw[hb]at hQ;exact wpAny_truthy_bool hQ
 .have e:(gh (bs.map Value.bool).toArray.size).all (λi=>(bs[i]?).getD aC)=bs.all id:=by rw[bq,ay];exact Ps bs
  rw[e];refine⟨.bl _,H,I.kept (t':=tk) λb o hb=>hk b o (λz=>?_) (bh _ hb),rfl,q⟩;have z':b=s.heap.objs.size:=by simpa using z
  have:=bx hb;rw[z']at this;exact fj _ this
end
section
variable{K:aj}
noncomputable def Np(z:Str):List D:=z.cps.toList.map λc=>.str ⟨#[c]⟩
theorem Dn:Gi K (Its z) F (Np z):=λF' H sF sH i=>by
 have hl:(Np z).length=z.length:=by unfold Np;rw[ay];rfl
 refine⟨λd hd=>?_,λh=>by rw[hl]at h;exact h⟩;have hi:i<z.length:=by have:=(bf.mp hd).1;rw[hl]at this;exact this
 refine⟨hi,λx H' ZJ=>?_⟩;obtain⟨e1,c,e2,e3⟩:=ZJ;subst e1 e3;unfold Np at hd;rw[bz]at hd;have e4:z.cps.toList[i]? =aA c:=by simpa using e2
 rw[e4]at hd;cases hd;exact⟨Zo.refl _,[],cx,λ_ h=>(nomatch h),.str _⟩
section
variable{Z:cU K}{H:Hp}{σ:L2.St}{Q:VK}
@[simp]def Ux(fe:FE):FD:=λδ=>(fe δ).bind λp=>(frz p.1 p.2).bind λq=>match q.1 with
 | .lst xs=>aA (xs,q.2)
 | .tup xs=>aA (xs,q.2)
 | .str z=>aA (Np z,q.2)
 |_=>aB
theorem qG(h:Ue Z (Ux fe) σ H R):vP K (Zf Z fe) σ H R:=by
 refine Yx h λF δ own ds δ' s e k=>?_;refine cT e λrv δ1 e1 e2=>?_;refine cT e2 λd δ2 e3 e4=>?_;refine⟨F,δ,own,rv,δ1,s,e1,λv H1 F1 own1 sH sF s1 r1=>?_⟩;refine Zr (s1.settleR r1) λF2 ZI s2 r2=>?_;refine Yd (s2.frzR r2 e3) λF3 ZP ZU s3 r3=>?_;dsimp only at e4;split at e4
 .cases e4;cases r3 with
  |lst h _ r=>exact .inl ⟨_,rfl,⟨_,Qq s3.le h⟩,k _ H1 F3 ZP sH (sF.trans (ZI.trans ZU)) s3 (Hy h r)⟩
 .cases e4;cases r3 with
  |tup h r=>exact .inr (.inl ⟨_,rfl,⟨_,Od s3.le (Ip h)⟩,k _ H1 F3 ZP sH (sF.trans (ZI.trans ZU)) s3 (iT (Ip h) r)⟩)
 .cases e4;cases r3 with
  |str x=>exact .inr (.inr ⟨_,rfl,k _ H1 F3 ZP sH (sF.trans (ZI.trans ZU)) s3 Dn⟩)
 .cases e4
@[simp]noncomputable def Fm(i j:Str):Bool:=!(bv j i 0 j.length 1).isEmpty
@[simp]def inD:D->D->Option SV
 | .str i,.str j=>aA (.fz (.bl (Fm i j)))
 |_,_=>aB
@[simp]def EL:D->D->Option SV
 | .str i,.str j=>aA (.fz (.bl (!Fm i j)))
 |_,_=>aB
theorem hW:Wj Z (λx y H Q=>∃i j,x= .str i/\y= .str j/\Q (.bl (!(bv j i 0 j.length 1).isEmpty)) H) inD:=by
 intro F H σ δ own x y d1 d2 sv Q s r1 r2 e k;unfold inD at e;split at e
 .cases e;exact⟨_,_,r1.str,r2.str,k.fz s (.bl _)⟩
 .cases e
theorem nB:Wj Z (λx y H Q=>∃i j,x= .str i/\y= .str j/\Q (.bl (!(!(bv j i 0 j.length 1).isEmpty))) H) EL:=by
 intro F H σ δ own x y d1 d2 sv Q s r1 r2 e k;unfold EL at e;split at e
 .cases e;exact⟨_,_,r1.str,r2.str,k.fz s (.bl _)⟩
 .cases e
@[simp]noncomputable def Gk:List D->Option SV
 | [.str a,.str b]=>if(b.length==0)=aD/\a.length<=bu/\(Txt.split a b).length<=bu then aA (.ol ((Txt.split a b).map D.str))else aB
 |_=>aB
theorem Ez:∀xs:List Str,cQ K F (xs.map D.str) (xs.map V.str)
 | []=>.nil
 |x::r=>.cons (.str x) (Ez r)
theorem nA:Kr Z yI Gk:=by
 intro F H σ δ own vs ds sv Q s r e k;unfold Gk at e;split at e
 .rename_i a b;split at e
  .rename_i h;cases e;cases r with
   |cons h1 t=>cases t with
    |cons h2 t=>cases t;exact⟨_,_,rfl,a,b,h1.str,by rw[h2.str],h.1,h.2.1,h.2.2,λp hp=>k.lst s (Ez _) hp⟩
  .cases e
 .cases e
@[simp]noncomputable def Uy:List D->Option SV
 | [.str a,.str b]=>if(b.length==0)=aD/\a.length<=bu then aA (.fz (.tup [.str (d5 a b).1,.str (d5 a b).2.1,.str (d5 a b).2.2]))else aB
 |_=>aB
theorem Dp:Kr Z AE Uy:=by
 intro F H σ δ own vs ds sv Q s r e k;unfold Uy at e;split at e
 .rename_i a b;split at e
  .rename_i h;cases e;cases r with
   |cons h1 t=>cases t with
    |cons h2 t=>cases t;exact⟨_,_,rfl,a,b,h1.str,by rw[h2.str],h.1,h.2,λp hp=>k.tup s (.cons (.str _) (.cons (.str _) (.cons (.str _) .nil))) hp⟩
  .cases e
 .cases e
@[simp]noncomputable def bools?:List D->Option (List Bool)
 | []=>aA []
 | .bl x::r=>(bools? r).bind λt=>aA (x::t)
 |_=>aB
theorem Dq:∀{ds:List D} {xs:List Bool} {vs:List V},bools? ds=aA xs->cQ K F ds vs->vs=xs.map V.bl
 | [],_,_,e,r=>by cases e;cases r;rfl
 |d::ds,_,_,e,r=>by
  cases r with
  |cons h t=>
   unfold bools? at e;split at e
   .rename_i e0;cases e0
   .rename_i x r0 e0;cases e0;refine cR e λys e1 e2=>?_;cases e2;cases h;rw[Dq e1 t];rfl
   .cases e
@[simp]def MH:List D->Option SV
 | [.lst xs]=>(bools? xs).bind λbs=>aA (.fz (.bl (bs.all id)))
 |_=>aB
theorem fZ:Bu Z (vO K) MH:=by
 intro F H σ δ own vs ds sv Q s r e k;unfold MH at e;split at e
 .refine cR e λbs e1 e2=>?_;cases e2;cases r with
  |cons h1 t=>cases t;obtain⟨a,vs,rfl,ha,ra⟩:=h1.lst s.le;rw[Dq e1 ra]at ha;exact⟨a,bs,rfl,ha,k.fz s (.bl _)⟩
 .cases e
end
section
variable{X:Cx}{Z:cU X.K}{a b c:ca}{fa fb fc:FE}{pos:Pos}{tg:ca}
theorem Qs(ha:PE X a (Zf Z fa)):PI X tg a (Ue Z (Ux fa)):=λcO s σ H R I h=>qH ha cO s σ H R I (qG h)
theorem Ml{ZC ZA}(ha:PE X a (Zf Z fa))(hb:PE X b (Zf Z fb))(ZF:‹eg a "split" X.env (dj a X.env)=dj a X.env›)(ZQ:‹((c9 ZA (au [b] X.env)).all (λx=>!x.1)&&(backToKw ZA (f9 [] X.env)).all (λx=>x.1.isSome)&&decide ([b].length+([]:List f7).length+(if([]:List f7).isEmpty then 0 else 1)<30))=aC›)(ZE:‹(ZC.endLine==ZA.line)=aC›)(hs:‹au [b] X.env=(aD,dj b X.env)::au [] X.env›)(ZH:‹(c9 ZA (au [] X.env)).any (·.1)=aD›):
  PE X (.Call (.Attribute a "split" ZC) [b] [] ZA) (Zf Z (M3 "str" Gk fa (Zd fb Zi))):=
 (Cp PySem.F.plainAttrs_str PySem.F.slot_str_split PySem.F.type_str_split lj ha (Zh hb Zy hs) ZF ZQ ZE hs ZH).imp λ_ _ _ h=>QJ nA h
theorem Rs{ZC ZA}(ha:PE X a (Zf Z fa))(hb:PE X b (Zf Z fb))(ZF:‹eg a "partition" X.env (dj a X.env)=dj a X.env›)(ZQ:‹((c9 ZA (au [b] X.env)).all (λx=>!x.1)&&(backToKw ZA (f9 [] X.env)).all (λx=>x.1.isSome)&&decide ([b].length+([]:List f7).length+(if([]:List f7).isEmpty then 0 else 1)<30))=aC›)(ZE:‹(ZC.endLine==ZA.line)=aC›)(hs:‹au [b] X.env=(aD,dj b X.env)::au [] X.env›)(ZH:‹(c9 ZA (au [] X.env)).any (·.1)=aD›):
  PE X (.Call (.Attribute a "partition" ZC) [b] [] ZA) (Zf Z (M3 "str" Uy fa (Zd fb Zi))):=
 (Cp PySem.F.plainAttrs_str PySem.F.slot_str_partition PySem.F.type_str_partition nC ha (Zh hb Zy hs) ZF ZQ ZE hs ZH).imp λ_ _ _ h=>QJ Dp h
theorem fY{p}(hm:X.mg "all"=aB)(ha:PE X a (Zf Z fa))(hc:‹X.calm=aC›)(hg:‹Gl X "all"›)(he:‹au [a] X.env=(aD,dj a X.env)::au [] X.env›)(ZH:‹(c9 pos (au [] X.env)).any (·.1)=aD›):PE X (.Call (.Name "all" p) [a] [] pos) (Zf Z (Yy MH (Zd fa Zi))):=
 Vp (lh hc) fZ hm boot_all (Zh ha Zy he) hg (by decide) (by decide) he ZH
end
end
section
open AutoSeq1 (wpAny_loadPart')
end
def yH(K:aj):V->List V->Hp->VK->Prop:=λx xs H Q=>∃sep p ys,x= .str sep/\xs=[.ref p]/\(On K H p (ys.map V.str)\/Er K H p (ys.map V.str))/\JoinOk sep ys=aC/\Q (.str (Txt.join sep ys)) H
theorem lg:MtR X "str.join" (yH X.K):=by
 intro cO s σ H x xs v us Q I rx rs h;obtain⟨sep,p,ys,rfl,rfl,hq,hok,q⟩:=h;rcases hq with hq|hq
 .exact nK cO s σ H _ _ v us Q I rx rs ⟨sep,p,ys,rfl,rfl,hq,hok,q⟩
 .obtain⟨t,rfl⟩:=rx;obtain⟨u,rfl,ru⟩:=Uu rs;cases ru;refine Zr (I.tuple hq) λcS rv pl hz=>?_;obtain⟨l,e1,e2⟩:=Vj rv;subst e1 e2;have hok':=hok;unfold JoinOk at hok';rw[Bool.not_eq_true']at hok';obtain⟨o,ho,hc,n,hd⟩:=(show s.heap.IsTuple p (strValues l).toArray from pl)
  exact call_meets F.slot_str_join (typeIs_str _ _ _) F.entry_str_join (F.args_str_join_2 _ _) (meets_str_join_tuple sep t p l hok') ⟨⟨o,n,ho,hc,hd⟩,post_join l ⟨joinFit_length hok',λt' k=>⟨.str (Txt.join sep (l.map (·.1))),H,I.tok _,⟨_,rfl⟩,q⟩⟩⟩
section
variable{K:aj}
@[simp]def Uz:List D->Option SV
 | [.str sep,.lst xs]=>(strs? xs).bind λys=>if JoinOk sep ys=aC then aA (.fz (.str (Txt.join sep ys)))else aB
 | [.str sep,.tup xs]=>(strs? xs).bind λys=>if JoinOk sep ys=aC then aA (.fz (.str (Txt.join sep ys)))else aB
 |_=>aB
theorem o_{Z:cU K}:Kr Z (yH K) Uz:=by
 intro F H σ δ own vs ds sv Q s r e k;unfold Uz at e;split at e
 .refine cR e λys e1 e2=>?_;split at e2
  .rename_i hok;cases e2;cases r with
   |cons h1 t1=>
    cases t1 with
    |cons h2 t2=>cases t2;refine Yd (h2.lst s.le) λa us ex ha ra=>?_;rw[Vk e1 ra]at ha;exact⟨_,_,rfl,_,a,ys,h1.str,by rw[ex],.inl ha,hok,k.fz s (.str _)⟩
  .cases e2
 .refine cR e λys e1 e2=>?_;split at e2
  .rename_i hok;cases e2;cases r with
   |cons h1 t1=>
    cases t1 with
    |cons h2 t2=>cases t2;refine Yd (h2.tup s.le) λa us ex ha ra=>?_;rw[Vk e1 ra]at ha;exact⟨_,_,rfl,_,a,ys,h1.str,by rw[ex],.inr ha,hok,k.fz s (.str _)⟩
  .cases e2
 .cases e
section
variable{X:Cx}{Z:cU X.K}{a b:ca}{fa fb:FE}
theorem U5{ZC ZA}(ha:PE X a (Zf Z fa))(hb:PE X b (Zf Z fb))(ZF:‹eg a "join" X.env (dj a X.env)=dj a X.env›)(ZQ:‹((c9 ZA (au [b] X.env)).all (λx=>!x.1)&&(backToKw ZA (f9 [] X.env)).all (λx=>x.1.isSome)&&decide ([b].length+([]:List f7).length+(if([]:List f7).isEmpty then 0 else 1)<30))=aC›)(ZE:‹(ZC.endLine==ZA.line)=aC›)(hs:‹au [b] X.env=(aD,dj b X.env)::au [] X.env›)(ZH:‹(c9 ZA (au [] X.env)).any (·.1)=aD›):
  PE X (.Call (.Attribute a "join" ZC) [b] [] ZA) (Zf Z (M3 "str" Uz fa (Zd fb Zi))):=
 (Cp PySem.F.plainAttrs_str PySem.F.slot_str_join PySem.F.type_str_join lg ha (Zh hb Zy hs) ZF ZQ ZE hs ZH).imp λ_ _ _ h=>QJ o_ h
end
end
def fX:R2:=λx y H Q=>∃a v,x= .ref a/\B6 H a y (aA v)/\Q v H
def OP:R2:=λy x H Q=>∃a o,x= .ref a/\B6 H a y o/\Q (.bl o.isSome) H
def Ap:R2:=λy x H Q=>∃a o,x= .ref a/\B6 H a y o/\Q (.bl (!o.isSome)) H
theorem Ku(hu:X.A.units+1<cLine):B5 X (eu .In) OP:=by intro cO s σ H y x v u Q I ry rx h;obtain⟨a,o,rfl,g,q⟩:=h;cases rx;exact gH hu I g ry λs' I'=>⟨.bl o.isSome,H,I',rfl,q⟩
theorem Tb(hu:X.A.units+1<cLine):B5 X (eu .NotIn) Ap:=by intro cO s σ H y x v u Q I ry rx h;obtain⟨a,o,rfl,g,q⟩:=h;cases rx;exact nh hu I g ry λs' I'=>⟨.bl (!o.isSome),H,I',rfl,q⟩
section
variable{K:aj}
@[simp]noncomputable def D.key?:D->Option Key
 | .int i=>aA (.inl i)
 | .str x=>aA (.inr x)
 |_=>aB
@[simp]noncomputable def keys?:List D->Option (List Key)
 | []=>aA []
 |d::r=>d.key?.bind λk=>(keys? r).bind λt=>aA (k::t)
section
variable{κ:Type}[DecidableEq κ]
@[simp]noncomputable def Z9(ks:List κ)(vs:List D)(k:κ):Option D:=match ks,vs with
 |a::ks,v::vs=>if a=k then aA v else Z9 ks vs k
 |_,_=>aB
theorem Vu{F:Hp}(k:κ):∀(kvs:List (κ×V)) (ds:List D),cQ K F ds (kvs.map (·.2))->match Z9 (kvs.map (·.1)) ds k with
  |some d=>∃v,O7 kvs k=aA v/\cX K F d v
  |none=>O7 kvs k=aB
 | [],_,r=>by cases r;exact kj
 |p::kvs,_,r=>by
  cases r with
  | @cons d v ds vs h t=>
   show match(if p.1=k then aA d else Z9 (kvs.map (·.1)) ds k)with
    |some d=>∃v,O7 (p::kvs) k=aA v/\cX K F d v
    |none=>O7 (p::kvs) k=aB
   by_cases e:p.1=k
   .rw[bJ e];exact⟨p.2,Rj e,h⟩
   .rw[bI e,Rk e];exact Vu k kvs ds t
@[simp]noncomputable def Yw(ks:List κ)(vs:List D)(k:κ)(v:D):List κ×List D:=
 if k∈ks then(ks,(ks.zip vs).map λp=>if p.1=k then v else p.2)else(ks++[k],vs++[v])
theorem cQ.length_map{α:Type}{kvs:List (α×V)}(r:cQ K F ds (kvs.map (·.2))):ds.length=kvs.length:=by rw[r.length,ay]
theorem xf(hd:cX K F d v):∀(kvs:List (κ×V)) ds,cQ K F ds (kvs.map (·.2))->
  cQ K F (((kvs.map (·.1)).zip ds).map λp=>if p.1=k then d else p.2) ((kvs.map λkv=>if kv.1=k then(kv.1,v)else kv).map (·.2))
 | [],_,r=>by cases r;exact .nil
 |p::kvs,_,r=>by
  cases r with
  | @cons d' v' ds vs h t=>
   have ih:=xf (k:=k) hd kvs ds t;show cQ K F ((if p.1=k then d else d')::(((kvs.map (·.1)).zip ds).map λp=>if p.1=k then d else p.2)) ((if p.1=k then(p.1,v)else p).2::((kvs.map λkv=>if kv.1=k then(kv.1,v)else kv).map (·.2)));refine .cons ?_ ih;by_cases e:p.1=k
   .rw[bJ e,bJ e];exact hd
   .rw[bI e,bI e];exact h
theorem lZ(kvs:List (κ×V)):(kvs.map λkv=>if kv.1=k then(kv.1,v)else kv).map (·.1)=kvs.map (·.1):=by rw[b6];refine dl λp _=>?_;show(if p.1=k then(p.1,v)else p).1=p.1;split<;> rfl
theorem xc(k)(kvs:List (κ×V)):(kvs.any λkv=>decide (kv.1=k))=aC↔k∈kvs.map (·.1):=by
 rw[List.any_eq_true,bd];constructor
 .rintro⟨p,h1,h2⟩;exact⟨p,h1,bM h2⟩
 .rintro⟨p,h1,h2⟩;exact⟨p,h1,bL h2⟩
theorem EK(hd:cX K F d v)(kvs:List (κ×V))(ds)(r:cQ K F ds (kvs.map (·.2))):
  (Jg kvs k v).map (·.1)=(Yw (kvs.map (·.1)) ds k d).1/\cQ K F (Yw (kvs.map (·.1)) ds k d).2 ((Jg kvs k v).map (·.2)):=by
 unfold Jg Yw;by_cases h:k∈kvs.map (·.1)
 .rw[bJ h,bJ ((xc k kvs).mpr h)];exact⟨lZ kvs,xf hd kvs ds r⟩
 .rw[bI h,bI λz=>h ((xc k kvs).mp z),cm,cm];exact⟨rfl,r.snoc hd⟩
end
theorem Vv(e:d.key? =aA k)(r:Wb K F H d y):y=kV k:=by
 cases d with
 |int i=>cases e;exact r.int
 |str x=>cases e;exact r.str
 |_=>cases e
theorem Vw(e:d.key? =aA k)(r:cX K F d y):y=kV k:=Vv (H:=F) e (Wb.of r)
theorem Vx:∀{ds:List D} {ks:List Key} {vs:List V},keys? ds=aA ks->cQ K F ds vs->vs=ks.map kV
 | [],_,_,e,r=>by cases e;cases r;rfl
 |d::ds,_,_,e,r=>by
  cases r with
  |cons h t=>refine cR e λk e1 e2=>?_;refine cR e2 λt' e3 e4=>?_;cases e4;rw[Vw e1 h,Vx e3 t];rfl
theorem Wb.tupH(le:Zo F H)(h:Wb K F H (.tup xs) v):∃a vs,v= .ref a/\H a=aA (.tup vs)/\cQ K F xs vs:=by
 obtain⟨sv,ns,e,n,sh,hp⟩:=h;cases sh with
 |fz r=>cases e;cases r with|tup h r=>exact⟨_,_,rfl,le _ _ h,r⟩
 |ol r=>cases e
 |oK e' r=>cases e
 |oT kb e' r=>cases e
 |oN e' r=>cases n
 |oL _ r=>cases n
 |oQ e' r=>cases e
@[simp]def RU:D->D->Option (Option D)
 | .dK ks vs,d=>d.key?.bind λk=>aA (Z9 ks vs k)
 | .dT ks vs,.tup xs=>(keys? xs).bind λk=>aA (Z9 ks vs k)
 |_,_=>aB
theorem Kv{F H:Hp}{d1 d2:D}{x y:V}{o:Option D}(le:Zo F H)(e:RU d1 d2=aA o)(r1:Wb K F H d1 x)(r2:Wb K F H d2 y):
  ∃a,x= .ref a/\IsD H a/\match o with
   |some d=>∃v,B6 H a y (aA v)/\cX K F d v
   |none=>B6 H a y aB:=by
 unfold RU at e;split at e
 .refine cR e λk e1 e2=>?_;obtain⟨a,kvs,rfl,ha,rfl,rr⟩:=r1.dK le;refine⟨a,rfl,.inl ⟨kvs,ha.rd⟩,?_⟩;rw[Vv e1 r2];have z:=Vu k kvs _ rr;have g:=B6.k (k:=k) ha;rw[Option.some.inj e2]at z;cases o with
  |none=>rw[show O7 kvs k=aB from z]at g;exact g
  |some d=>obtain⟨v,z1,z2⟩:=z;rw[z1]at g;exact⟨v,g,z2⟩
 .refine cR e λk e1 e2=>?_;obtain⟨a,kvs,rfl,ha,rfl,rr⟩:=r1.dT le;obtain⟨b,vs,rfl,hb,rb⟩:=r2.tupH le;refine⟨a,rfl,.inr ⟨kvs,ha.rd⟩,?_⟩;rw[Vx e1 rb]at hb;have z:=Vu k kvs _ rr;have g:=B6.t ha hb;rw[Option.some.inj e2]at z;cases o with
  |none=>rw[show O7 kvs k=aB from z]at g;exact g
  |some d=>obtain⟨v,z1,z2⟩:=z;rw[z1]at g;exact⟨v,g,z2⟩
 .cases e
section
variable{Z:cU K}
@[simp]def GH(d1 d2:D):Option SV:=(RU d1 d2).bind λo=>o.bind λd=>some (.fz d)
theorem qF:Wj Z fX GH:=by intro F H σ δ own x y d1 d2 sv Q s r1 r2 e k;refine cR e λo e1 e2=>?_;refine cR e2 λd e3 e4=>?_;cases e4;subst e3;obtain⟨a,rfl,_,v,g,rv⟩:=Kv s.le e1 r1 r2;exact⟨a,v,rfl,g,k.fz s rv⟩
@[simp]def vN(d1 d2:D):Option SV:=(RU d2 d1).bind λo=>some (.fz (.bl o.isSome))
@[simp]def xb(d1 d2:D):Option SV:=(RU d2 d1).bind λo=>some (.fz (.bl (!o.isSome)))
theorem qE:Wj Z OP vN:=by
 intro F H σ δ own x y d1 d2 sv Q s r1 r2 e k;refine cR e λo e1 e2=>?_;cases e2;obtain⟨a,rfl,_,g⟩:=Kv s.le e1 r2 r1;cases o with
 |none=>exact⟨a,aB,rfl,g,k.fz s (.bl _)⟩
 |some d=>obtain⟨v,g,_⟩:=g;exact⟨a,aA v,rfl,g,k.fz s (.bl _)⟩
theorem j6:Wj Z Ap xb:=by
 intro F H σ δ own x y d1 d2 sv Q s r1 r2 e k;refine cR e λo e1 e2=>?_;cases e2;obtain⟨a,rfl,_,g⟩:=Kv s.le e1 r2 r1;cases o with
 |none=>exact⟨a,aB,rfl,g,k.fz s (.bl _)⟩
 |some d=>obtain⟨v,g,_⟩:=g;exact⟨a,aA v,rfl,g,k.fz s (.bl _)⟩
@[simp]noncomputable def D.isD:D->Bool
 | .dK _ _=>aC| .dT _ _=>aC|_=>aD
@[simp]def Wg(d1 d2:D):Option SV:=if d1.isD=true then GH d1 d2 else ixD d1 d2
@[simp]def inX(d1 d2:D):Option SV:=if d2.isD=true then vN d1 d2 else inD d1 d2
@[simp]def EJ(d1 d2:D):Option SV:=if d2.isD=true then xb d1 d2 else EL d1 d2
theorem j5(hg:∀d1 d2 sv,g d1 d2=aA sv->g1 d1 d2=aA sv\/g2' d1 d2=aA sv)(h:Zf Z (Zg g fa fb) σ H Q):Zf Z (Zg g1 fa fb) σ H Q\/Zf Z (Zg g2' fa fb) σ H Q:=by
 refine Yx h λF δ own rv δ' s e k=>?_;refine cT e λrvs δ1 e1 e2=>?_;refine cR e2 λds e3 e4=>?_;refine cR e4 λsv e5 e6=>?_;have:(g2 g1) ds=aA sv\/(g2 g2') ds=aA sv:=by
  unfold g2 at e5⊢;split at e5
  .exact hg _ _ _ e5
  .cases e5
 rcases this with z|z
 .exact .inl ⟨F,δ,own,rv,δ',s,dh.mpr ⟨_,e1,dh.mpr ⟨_,e3,dh.mpr ⟨_,z,e6⟩⟩⟩,k⟩
 .exact .inr ⟨F,δ,own,rv,δ',s,dh.mpr ⟨_,e1,dh.mpr ⟨_,e3,dh.mpr ⟨_,z,e6⟩⟩⟩,k⟩
theorem fW:Wj Z (λx y H Q=>(∃i j,x= .str i/\y= .str j/\Q (.bl (!(bv j i 0 j.length 1).isEmpty)) H)\/OP x y H Q) inX:=by
 intro F H σ δ own x y d1 d2 sv Q s r1 r2 e k;unfold inX at e;split at e
 .exact .inr (qE F H σ δ own x y d1 d2 sv Q s r1 r2 e k)
 .exact .inl (hW F H σ δ own x y d1 d2 sv Q s r1 r2 e k)
theorem lY:Wj Z (λx y H Q=>(∃i j,x= .str i/\y= .str j/\Q (.bl (!(!(bv j i 0 j.length 1).isEmpty))) H)\/Ap x y H Q) EJ:=by
 intro F H σ δ own x y d1 d2 sv Q s r1 r2 e k;unfold EJ at e;split at e
 .exact .inr (j6 F H σ δ own x y d1 d2 sv Q s r1 r2 e k)
 .exact .inl (nB F H σ δ own x y d1 d2 sv Q s r1 r2 e k)
end
section
variable{X:Cx}{Z:cU X.K}{a b c:ca}{fa fb fc:FE}{pos:Pos}
theorem Zp(hu:X.A.units+1<cLine)(ha:PE X a (Zf Z fa))(hb:PE X b (Zf Z fb))(hs:‹xu b›):PE X (.Subscript a b pos) (Zf Z (Zg Wg fa fb)):=λcO s σ H Q I h=>by
 rcases j5 (g1:=GH) (g2':=ixD) (λd1 d2 sv e=>by
  unfold Wg at e;split at e
  .exact .inl e
  .exact .inr e) h with h|h
 .exact xq hu ha hb hs cO s σ H Q I (Hw qF h)
 .exact GV qg ha hb hs cO s σ H Q I (Hw gN h)
end
end
def yG:V->List V->Hp->VK->Prop:=λx xs H Q=>∃a,x= .ref a/\((∃y o,xs=[y]/\B6 H a y o/\Q (o.getD .non) H)\/(∃y z o,xs=[y,z]/\B6 H a y o/\Q (o.getD z) H))
theorem o9(hu:X.A.units+1<cLine):MtR X "dict.get" yG:=by
 intro cO s σ H x xs v us Q I rx rs h;obtain⟨a,rfl,h⟩:=h;cases rx;rcases h with⟨y,o,rfl,g,q⟩|⟨y,z,o,rfl,g,q⟩
 .obtain⟨u,rfl,ru⟩:=Uu rs;exact qa hu I g ru λw' s' I' r'=>⟨_,H,I',r',q⟩
 .obtain⟨u,w',rfl,r1,r2⟩:=GR rs;exact qZ hu I g r1 r2 λw' s' I' r'=>⟨_,H,I',r',q⟩
section
variable{K:aj}
section
variable{Z:cU K}{H:Hp}{σ:L2.St}{Q:VK}
@[simp]noncomputable def Rt:FE:=λδ=>some (.tmp (.oK [] []),δ)
@[simp]noncomputable def GG:FE:=λδ=>some (.tmp (.oT [] []),δ)
theorem o8(h:Zf Z Rt σ H Q):Ve σ H Q:=by refine Yx h λF δ own rv δ' s e k=>?_;cases e;intro p hp;have f:Nk Z F H σ δ own (.oK [] []) Q:=λv H' F' ns a b c t=>k v H' F' own a b c ⟨ns,t⟩;exact f.one s (.oK (kvs:=[]) rfl .nil) hp
theorem o7(h:Zf Z GG σ H Q):yT σ H Q:=by refine Yx h λF δ own rv δ' s e k=>?_;cases e;intro p hp;have f:Nk Z F H σ δ own (.oT [] []) Q:=λv H' F' ns a b c t=>k v H' F' own a b c ⟨ns,t⟩;exact f.one s (.oT (kvs:=[]) .nil rfl .nil) hp
@[simp]noncomputable def SV.isOD:Option (Option SV)->Bool
 |some (aA (.oK _ _))=>aC
 |some (aA (.oT _ _))=>aC
 |some (aA (.oQ _ _ _))=>aC
 |_=>aD
@[simp]def vM(kd d:D):Option (Option SV)->Option SV
 |some (aA (.oK ks vs))=>kd.key?.bind λk=>if vs.length<bu then aA (.oK (Yw ks vs k d).1 (Yw ks vs k d).2)else aB
 |some (aA (.oT ks vs))=>match kd with
  | .tup xs=>(keys? xs).bind λk=>if vs.length<bu then aA (.oT (Yw ks vs k d).1 (Yw ks vs k d).2)else aB
  |_=>aB
 |some (aA (.oQ q ks vs))=>kd.key?.bind λk=>if vs.length<bu then aA (.oQ q (Yw ks vs k d).1 (Yw ks vs k d).2)else aB
 |_=>aB
@[simp]def Ts(i:Nat)(fk fv:FE):FS:=λδ=>(fv δ).bind λp=>(frz p.1 p.2).bind λq=>if SV.isOD (q.2[i]?)=true then(fk q.2).bind λr=>(rdv r.1 r.2).bind λkd=>(vM kd q.1 (r.2[i]?)).bind λsv=>some (.nx (r.2.set i (some sv)))else none
theorem lX(h:cV K F (.oK ks ds) v ns):∃a kvs ep,v= .ref a/\ns=[(a,.dK kvs ep)]/\kvs.map (·.1)=ks/\cQ K F ds (kvs.map (·.2)):=by
 cases h with
 |oK e r=>exact⟨_,_,_,rfl,rfl,e,r⟩
theorem Kw(h:cV K F (.oQ q ks ds) v ns):∃kvs ep,v= .ref q/\ns=[(q,.dK kvs ep)]/\kvs.map (·.1)=ks/\cQ K F ds (kvs.map (·.2)):=by
 cases h with
 |oQ e r=>exact⟨_,_,rfl,rfl,e,r⟩
theorem lW(h:cV K F (.oT ks ds) v ns):∃a kvs ep bs,v= .ref a/\ns=[(a,.dT kvs ep bs)]/\KB F kvs bs/\kvs.map (·.1)=ks/\cQ K F ds (kvs.map (·.2)):=by
 cases h with
 |oT kb e r=>exact⟨_,_,_,_,rfl,rfl,kb,e,r⟩
theorem KB.put(h:KB F kvs bs)(hb:F b=aA (.tup (k.map kV))):KB F (Jg kvs k v) (Hg kvs bs k b):=by
 unfold Jg Hg;split
 .unfold KB at*;clear hb;rename_i hq;clear hq;induction h with
  |nil=>exact .nil
  | @cons p c ps cs h1 t ih=>
   rw[bn];refine .cons ?_ ih;by_cases e:p.1=k
   .rw[bJ e];exact h1
   .rw[bI e];exact h1
 .exact Paired.snoc h hb
theorem Wb.tupF(h:Wb K F H (.tup xs) v):∃a vs,v= .ref a/\F a=aA (.tup vs)/\cQ K F xs vs:=by
 obtain⟨sv,ns,e,n,sh,hp⟩:=h;cases sh with
 |fz r=>cases e;cases r with|tup h r=>exact⟨_,_,rfl,h,r⟩
 |ol r=>cases e
 |oK e' r=>cases e
 |oT kb e' r=>cases e
 |oN e' r=>cases n
 |oL _ r=>cases n
 |oQ e' r=>cases e
theorem o6(h:SV.isOD o=aC):∃sv,o=aA (aA sv):=by
 unfold SV.isOD at h;split at h
 .exact⟨_,rfl⟩
 .exact⟨_,rfl⟩
 .exact⟨_,rfl⟩
 .cases h
theorem fV(h:Zx Z (Ts i fk fv) E σ H):GM (Ol i) (Zf Z fk) (Zf Z fv) E σ H:=by
 refine Ww h λF δ own fl s e k=>?_;refine cT e λrv δ1 e1 e=>?_;refine cT e λd δ2 e2 e=>?_;dsimp only at e;split at e
 .rename_i hod;refine cT e λrk XZ e3 e=>?_;refine cR e λkd e4 e=>?_;refine cR e λsv e5 e=>?_;cases e;refine⟨F,δ,own,rv,δ1,s,e1,λv H1 F1 own1 X_ YV s1 r1=>?_⟩;refine Zr (s1.settleR r1) λF2 ZI s2 r2=>?_;refine Yd (s2.frzR r2 e2) λF3 ZP ZU s3 r3=>?_;obtain⟨vf,JF⟩:=o6 hod;obtain⟨x,hx,_⟩:=s3.at' i vf JF;refine⟨x,hx,F3,δ2,ZP,rk,XZ,s3,e3,λy H4 F4 YR VC ZY s4 r4=>?_⟩;refine Zr (s4.settleR r4) λF5 TJ s5 r5=>?_;have rk':=s5.rd r5 e4;have rd:cX K F5 d v:=r3.mono (ZY.trans TJ);have sF:Zo F F5:=YV.trans (ZI.trans (ZU.trans (ZY.trans TJ)));dsimp only at e5;generalize ho:XZ[i]? =o at e5;unfold vM at e5;split at e5
  .rename_i ks vs;refine cR e5 λkk f1 f2=>?_;split at f2
   .rename_i hz;cases f2;obtain⟨x',XE,sh⟩:=s5.at' i _ ho;rw[hx]at XE;cases XE;obtain⟨a,kvs,WJ,ea,en,rfl,rr⟩:=lX sh;subst ea;have mb:(a,HO.dK kvs WJ)∈YR i:=by rw[en];exact aa
    have hH:=(s5.ok i _ mb).2.2;have z:=EK (k:=kk) rd kvs vs rr;refine⟨a,rfl,?_⟩;rw[Vv f1 rk'];refine Nj.k ⟨_,hH⟩ (by rw[<-rr.length_map];exact hz) λep=>?_;exact k σ _ F5 _ sF (s5.change (sv':=.oK (Yw (kvs.map (·.1)) vs kk d).1 (Yw (kvs.map (·.1)) vs kk d).2) (o':=.dK (Jg kvs kk v) ep) (ns':=[(a,.dK (Jg kvs kk v) ep)]) ho hx mb (.oK z.1 z.2) (λp hp=>.inl (af.mp hp)) Fk)
   .cases f2
  .rename_i ks vs;split at e5
   .rename_i xs;refine cR e5 λkk f1 f2=>?_;split at f2
    .rename_i hz;cases f2;obtain⟨x',XE,sh⟩:=s5.at' i _ ho;rw[hx]at XE;cases XE;obtain⟨a,kvs,WJ,IL,ea,en,kb,rfl,rr⟩:=lW sh;subst ea;have mb:(a,HO.dT kvs WJ IL)∈YR i:=by rw[en];exact aa
     have hH:=(s5.ok i _ mb).2.2;have z:=EK (k:=kk) rd kvs vs rr;obtain⟨b,us,rfl,JX,rb⟩:=rk'.tupF;rw[Vx f1 rb]at JX;refine⟨a,rfl,Nj.t ⟨_,_,hH⟩ (s5.le _ _ JX) (by rw[<-rr.length_map];exact hz) λep uu dF hq=>?_⟩;rw[hH]at hq;cases hq;exact k σ _ F5 _ sF (s5.change (sv':=.oT (Yw (kvs.map (·.1)) vs kk d).1 (Yw (kvs.map (·.1)) vs kk d).2) (o':=.dT (Jg kvs kk v) ep (Hg kvs IL kk b)) (ns':=[(a,.dT (Jg kvs kk v) ep (Hg kvs IL kk b))]) ho hx mb (.oT (kb.put JX) z.1 z.2) (λp hp=>.inl (af.mp hp)) Fk)
    .cases f2
   .cases e5
  .rename_i q ks vs;refine cR e5 λkk f1 f2=>?_;split at f2
   .rename_i hz;cases f2;obtain⟨x',XE,sh⟩:=s5.at' i _ ho;rw[hx]at XE;cases XE;obtain⟨kvs,WJ,ea,en,rfl,rr⟩:=Kw sh;subst ea;have mb:(q,HO.dK kvs WJ)∈YR i:=by rw[en];exact aa
    have hH:=(s5.ok i _ mb).2.2;have z:=EK (k:=kk) rd kvs vs rr;refine⟨q,rfl,?_⟩;rw[Vv f1 rk'];refine Nj.k ⟨_,hH⟩ (by rw[<-rr.length_map];exact hz) λep=>?_;exact k σ _ F5 _ sF (s5.change (sv':=.oQ q (Yw (kvs.map (·.1)) vs kk d).1 (Yw (kvs.map (·.1)) vs kk d).2) (o':=.dK (Jg kvs kk v) ep) (ns':=[(q,.dK (Jg kvs kk v) ep)]) ho hx mb (.oQ z.1 z.2) (λp hp=>.inl (af.mp hp)) Fk)
   .cases f2
  .cases e5
 .cases e
@[simp]def RT(T:String)(g:D->List D->Option SV)(fo:FE)(fd:FD):FE:=λδ=>(fo δ).bind λp=>(rdv p.1 p.2).bind λd0=>if ML T d0=true then(fd p.2).bind λq=>(rdv p.1 q.2).bind λd1=>(g d1 q.1).bind λsv=>some (.tmp sv,q.2)else none
def AD(Z:cU K)(r:V->List V->Hp->VK->Prop)(g:D->List D->Option SV):Prop:=
 ∀(F H:Hp) (σ:L2.St) (δ:Wa) (own:Nat->Zu) (x:V) (d:D) (vs:List V) (ds:List D) (sv:SV) (Q:VK),SR Z F H σ δ own->Wb K F H d x->cQ K F ds vs->g d ds=aA sv->Nk Z F H σ δ own sv Q->r x vs H Q
theorem fU(hg:AD Z r g)(h:Zf Z (RT T g fo fd) σ H Q):tBM K T r (Zf Z fo) (Ji Z fd) σ H Q:=by
 refine Yx h λF δ own rv δ' s e k=>?_;refine cT e λVF δ1 e1 e=>?_;refine cR e λd0 e2 e=>?_;dsimp only at e;split at e
 .rename_i ht;refine cT e λds δ2 e3 e=>?_;refine cR e λd1 e4 e=>?_;refine cR e λsv e5 e=>?_;cases e;refine⟨F,δ,own,VF,δ1,s,e1,λv H1 F1 own1 X_ YV s1 r1=>?_⟩;refine Zr (s1.settleR r1) λUZ XF VE XY=>?_;refine⟨AG VE.le (VE.rd XY e2) ht,UZ,δ1,own1,ds,δ2,VE,e3,λvs H2 F2 own2 WT ZI s2 r2=>?_⟩;exact hg F2 H2 σ δ2 own2 v d1 vs ds sv Q s2 (s2.rd (XY.mono ZI) e4) r2 e5 λq H4 F4 ns VC ZY s4 t4=>
   k q H4 F4 own2 (X_.trans (WT.trans VC)) (YV.trans (XF.trans (ZI.trans ZY))) s4 ⟨ns,t4⟩
 .cases e
@[simp]def Ru:D->List D->Option SV
 |d,[y]=>(RU d y).bind λo=>aA (.fz (o.getD .non))
 |d,[y,z]=>(RU d y).bind λo=>aA (.fz (o.getD z))
 |_,_=>aB
theorem o5:AD Z yG Ru:=by
 intro F H σ δ own x d vs ds sv Q s r1 r2 e k;unfold Ru at e;split at e
 .refine cR e λo e1 e2=>?_;cases e2;cases r2 with
  |cons h t=>
   cases t;obtain⟨a,rfl,_,g⟩:=Kv s.le e1 r1 (Wb.of h);cases o with
   |none=>exact⟨a,rfl,.inl ⟨_,aB,rfl,g,k.fz s .non⟩⟩
   |some d=>obtain⟨v,g,rv⟩:=g;exact⟨a,rfl,.inl ⟨_,aA v,rfl,g,k.fz s rv⟩⟩
 .refine cR e λo e1 e2=>?_;cases e2;cases r2 with
  |cons h t=>
   cases t with
   |cons h2 t=>
    cases t;obtain⟨a,rfl,_,g⟩:=Kv s.le e1 r1 (Wb.of h);cases o with
    |none=>exact⟨a,rfl,.inr ⟨_,_,aB,rfl,g,k.fz s h2⟩⟩
    |some d=>obtain⟨v,g,rv⟩:=g;exact⟨a,rfl,.inr ⟨_,_,aA v,rfl,g,k.fz s rv⟩⟩
 .cases e
end
section
variable{X:Cx}{Z:cU X.K}{a b c:ca}{fa fb fc:FE}{pos:Pos}
theorem Ov:PE X (.Dict [] [] pos) (Zf Z Rt):=Kf.imp λ_ _ _ h=>o8 h
theorem oz:PE X (.Dict [] [] pos) (Zf Z GG):=kG.imp λ_ _ _ h=>o7 h
theorem Kx{ZC ZA}(hu:X.A.units+1<cLine)(ha:PE X a (Zf Z fa))(hb:PA X (b::es) (Ji Z fd))(ZF:‹eg a "get" X.env (dj a X.env)=dj a X.env›)(ZQ:‹((c9 ZA (au (b::es) X.env)).all (λx=>!x.1)&&(backToKw ZA (f9 [] X.env)).all (λx=>x.1.isSome)&&decide ((b::es).length+([]:List f7).length+(if([]:List f7).isEmpty then 0 else 1)<30))=aC›)(ZE:‹(ZC.endLine==ZA.line)=aC›)(hs:‹au (b::es) X.env=(aD,dj b X.env)::au es X.env›)(ZH:‹(c9 ZA (au es X.env)).any (·.1)=aD›):
  PE X (.Call (.Attribute a "get" ZC) (b::es) [] ZA) (Zf Z (RT "dict" Ru fa fd)):=
 (Cp PySem.F.plainAttrs_dict PySem.F.slot_dict_get PySem.F.type_dict_get (o9 hu) ha hb ZF ZQ ZE hs ZH).imp λ_ _ _ h=>fU o5 h
theorem Rc(i){px p1}(hu:X.A.units+1<cLine)(hb:PE X b (Zf Z fb))(YA:PE X a (Zf Z fa))(hN:‹X.N[i]? =aA x›)(hv:Hh X.env.scope x:=by first|exact Or.inl rfl|exact fu (Or.inl rfl)|exact fu (fu rfl))(hd:‹(x==("__debug__":Str))=aD›)(YC:‹(x==("__classdict__":Str))=aD›)(hs:‹swapsWith a (aA (.Subscript (.Name x px) b p1)) pos.line X.env=pure aD›):
  PS X (.Assign [.Subscript (.Name x px) b p1] a pos) (Zx Z (Ts i fb fa)):=(xp hu (Om (i:=i) hN hv hd YC) hb YA hs).imp λ_ _ _ h=>fV h
end
end
theorem ic(h:Q 0xFCA86420 {s with toks:=s.toks+1}):b5 (cv prog w) A (pyHash .none) Q E s:=by have hT:s.TypeIs .none "NoneType":=rfl;refine PySem.W.pyHash_slot (v:=.none) (Q:=Q) hT F.slot_NoneType_hash F.entry_NoneType_hash (F.args_NoneType_hash_1 _) rfl (.inl rfl) ?_;show b5 (cv prog w) A.in1 (mkInt 0xFCA86420 >>=λv=>ret v) _ E s;refine aw (wpAny_mkInt ?_);exact bj ⟨_,_,rfl,h⟩
noncomputable def GF:Option Key->aq->Bool
 |none,.none=>aC
 |none,_=>aD
 |some k,v=>Rg k v
theorem Wy(h:GF k v=aC):(k=aB/\v= .none)\/∃j,k=aA j/\Rg j v=aC:=by
 cases k with
 |none=>cases v<;> first|exact .inl ⟨rfl,rfl⟩|cases h
 |some j=>exact .inr ⟨j,rfl,h⟩
theorem Ky(h:Rg j .none=aC):False:=by rcases Y1 h with⟨i,t,_,e⟩|⟨x,t,_,e⟩<;> cases e
noncomputable def Vy(prog:b8)(w:df):PySem.KeyKind prog w (Option Key)where
 is:=GF
 hash:=λ|none=>0xFCA86420|some k=>(Yf prog w).hash k
 inj:=λv a b ha hb=>by
  rcases Wy ha with⟨rfl,rfl⟩|⟨i,rfl,hi⟩
  .rcases Wy hb with⟨rfl,_⟩|⟨j,rfl,hj⟩
   .rfl
   .exact(Ky hj).elim
  .rcases Wy hb with⟨rfl,rfl⟩|⟨j,rfl,hj⟩
   .exact(Ky hi).elim
   .rw[(Yf prog w).inj v i j hi hj]
 byValue:=λk v h=>by
  rcases Wy h with⟨rfl,rfl⟩|⟨i,rfl,hi⟩
  .rfl
  .exact(Yf prog w).byValue i v hi
 pyHash:=fun{A E s k v Q} hv h=>by
  rcases Wy hv with⟨rfl,rfl⟩|⟨i,rfl,hi⟩
  .exact ic h
  .exact(Yf prog w).pyHash hi h
 eqBool:=fun{A E s a b u v Q} hu hv h=>by
  rcases Wy hu with⟨rfl,rfl⟩|⟨i,rfl,hi⟩
  .rcases Wy hv with⟨rfl,rfl⟩|⟨j,rfl,hj⟩
   .exact SeqAt.EqAt.same _ _ _ _ _ (by simpa using h)
   .rw[bK (λz=>nomatch z)]at h;rcases Y1 hj with⟨i,t,rfl,rfl⟩|⟨x,t,rfl,rfl⟩
    .exact SeqAt.EqAt.none_int i t _ _ _ _ h
    .exact SeqAt.EqAt.none_str x t _ _ _ _ h
  .rcases Wy hv with⟨rfl,rfl⟩|⟨j,rfl,hj⟩
   .rw[bK (λz=>nomatch z)]at h;rcases Y1 hi with⟨i,t,rfl,rfl⟩|⟨x,t,rfl,rfl⟩
    .exact SeqAt.EqAt.int_none i t _ _ _ _ h
    .exact SeqAt.EqAt.str_none x t _ _ _ _ h
   .refine(Yf prog w).eqBool hi hj ?_;have e:decide (aA i=aA j)=decide (i=j):=by simp
    rw[<-e];exact h
 «strs»:=λk x t v h=>by
  rcases Wy h with⟨rfl,e⟩|⟨i,rfl,hi⟩
  .cases e
  .exact(Yf prog w).strs i x t v hi
theorem xa{h:ed}(d:h.DictOf (Yf P w) a vs):h.MapOf (Vy P w) a (λ|none=>aB|some k=>valueAt vs k):=by
 obtain⟨o,es,ep,ho,hc,hd,hk,hf⟩:=d.mapOf;refine⟨o,es,ep,ho,hc,hd,λe he=>?_,λk=>?_⟩
 .obtain⟨k,h1,h2⟩:=hk e he;exact⟨aA k,h1,h2⟩
 .cases k with
  |some k=>exact hf k
  |none=>
   show(es.find? λe=>GF aB e.key).map (·.val)=aB;rw[Array.find?_eq_none.mpr λe he z=>?_]
   .rfl
   .obtain⟨k,h1,_⟩:=hk e he;rcases Wy z with⟨_,e2⟩|⟨j,e2,_⟩
    .rw[e2]at h1;exact Ky h1
    .cases e2
def E1(QW:Bool):R2:=λy x H Q=>∃a kvs,y= .non/\x= .ref a/\RdK H a kvs/\Q (.bl QW) H
theorem Pu:B5 X (eu .In) (E1 aD):=by intro cO s σ H y x v u Q I ry rx h;obtain⟨a,kvs,rfl,rfl,e,q⟩:=h;cases ry;cases rx;obtain⟨z,hd,vs,ZR,dd⟩:=Ai I.hok e;exact wpAny_in_of (knd:=Vy X.prog X.w) (k:=aB) rfl hd (xa dd) ⟨.bl aD,H,I.tok _,rfl,q⟩
theorem Aq:B5 X (eu .NotIn) (E1 aC):=by intro cO s σ H y x v u Q I ry rx h;obtain⟨a,kvs,rfl,rfl,e,q⟩:=h;cases ry;cases rx;obtain⟨z,hd,vs,ZR,dd⟩:=Ai I.hok e;exact wpAny_notIn_of (knd:=Vy X.prog X.w) (k:=aB) rfl hd (xa dd) ⟨.bl aC,H,I.tok _,rfl,q⟩
def Vz(es:Array DictEntry)(kvs:List (Str×aq)):Prop:=es.size=kvs.length/\∀(i:Nat) (p:Str×aq),kvs[i]? =aA p->∃e t,es[i]? =aA e/\e.key= .str p.1 t/\e.val=p.2
def Ar(h:ed)(a:av)(kvs:List (Str×aq)):Prop:=∃o es ep,h.get? a=aA o/\o.ExactDict/\o.data= .dict es ep/\Vz es kvs
noncomputable def place(kvs:List (Str×aq))(x:Str):Option Nat:=kvs.findIdx? λp=>decide (p.1=x)
theorem Vz.find(h:Vz es kvs)(x):(es.findIdx? λe=>e.key.isStr x)=place kvs x:=by
 unfold place;have hA:(es.findIdx? λe=>e.key.isStr x)=es.toList.findIdx? λe=>e.key.isStr x:=by obtain⟨l⟩:=es;simp
 rw[hA];have:∀(es:List DictEntry) (kvs:List (Str×aq)),es.length=kvs.length->(∀(i:Nat) (p:Str×aq),kvs[i]? =aA p->∃e t,es[i]? =aA e/\e.key= .str p.1 t/\e.val=p.2)->
   es.findIdx? (λe=>e.key.isStr x)=kvs.findIdx? λp=>decide (p.1=x):=by
  intro es;induction es with
  |nil=>intro kvs hl _;cases kvs with
   |nil=>rfl
   |cons p r=>cases hl
  |cons e es ih=>
   intro kvs hl hp;cases kvs with
   |nil=>cases hl
   |cons p r=>
    refine Yd (hp 0 p rfl) λe' t h1 h2 h3=>?_;obtain rfl:e=e':=by simpa using h1
    have hk:e.key.isStr x=decide (p.1=x):=by
     rw[h2];show(p.1==x)=_;by_cases z:p.1=x
     .rw[z];simp
     .rw[bK z];exact beq_eq_false_iff_ne.mpr z
    rw[List.findIdx?_cons,List.findIdx?_cons,hk,ih r (by simpa using hl) (λi q hq=>hp (i+1) q (by simpa using hq))]
 exact this es.toList kvs (by rw[gc];exact h.1) (λi p hp=>by
  refine We (h.2 i p hp) λe t h1 h2=>?_;exact⟨e,t,by rw[Array.getElem?_toList];exact h1,h2⟩)
theorem j4(ho:s.heap.get? d=aA o)(hd:o.data= .dict es ep)(hp:Vz es kvs)(q:Q (place kvs x) s):
  b5 (cv prog w) A (dictFind d (.str x t) n) Q E s:=by
 have WI:(es.all λe=>isExactStrKey e.key)=aC:=by
  rw[Array.all_eq_true];intro i hi;have XM:i<kvs.length:=by rw[<-hp.1];exact hi
  refine Yd (hp.2 i kvs[i] (by simp[XM])) λe t' h1 h2 _=>?_;rw[Array.getElem?_eq_getElem hi]at h1;cases h1;rw[h2];rfl
 unfold dictFind
 try with_reducible refine wpAny_holding ?_
 refine aw (wpAny_dictEntries ho hd ?_);dsimp only;rw[bJ WI];unfold foundByValue;rw[hp.find x];cases hj:place kvs x with
 |none=>rw[hj]at q;exact bj q
 |some j=>rw[hj]at q;obtain⟨YL,hx,_⟩:=List.findIdx?_eq_some_iff_getElem.mp hj;refine Yd (hp.2 j kvs[j] (by simp[YL])) λe t' h1 h2 h3=>?_;have XE:kvs[j].1=x:=bM hx;rw[XE]at h2;dsimp only;rw[h1];dsimp only;refine aw (wpAny_dictEpoch ho hd ?_);rw[h2];refine aw (SeqAt.EqAt.str_str x t' x t prog w _ _ ?_);refine aw (wpAny_dictEpoch ho hd ?_);rw[bI (by simp)];simp only[beq_self_eq_true,if_true];exact aw (wpAny_rule (bj q))
inductive SHits(A:d4)(s:ax)(kb:List (Str×aq)):List (Str×aq)->Bool->Prop where
 |nil:SHits A s kb [] aC
 |miss {k:Str} {v:aq} {r:List (Str×aq)}:place kb k=aB->SHits A s kb ((k,v)::r) aD
 |hit {k:Str} {v:aq} {r:List (Str×aq)} {j:Nat} {p:Str×aq} {e b:Bool}:place kb k=aA j->kb[j]? =aA p->SeqAt.EqAt A s v p.2 e->SHits A s kb r b->SHits A s kb ((k,v)::r) (e&&b)
theorem Kz(ha:(a==sysModules)=aD)(hb:(b==sysModules)=aD)(da:Ar s.heap a ka)(db:Ar s.heap b kb)(XA:ka.length=kb.length->SHits A s kb ka r)(q:Q (ka.length==kb.length&&r) s):b5 (cv prog w) A (Builtin.Dict.samePairs nm a b) Q E s:=by
 obtain⟨oa,es,ep,ga,_,NV,pa⟩:=da;obtain⟨ob,QD,WL,gb,_,IH,pb⟩:=db;have la:=pa.1;have lb:=pb.1;unfold Builtin.Dict.samePairs Builtin.Dict.showsAll;rw[bI (by rw[ha];exact bi),bI (by rw[hb];exact bi)];refine aw (bj (aw (bj (aw (wpAny_dictEntries ga NV ?_)))));refine aw (wpAny_dictEntries gb IH ?_);by_cases hz:es.size=QD.size
 .have hl:ka.length=kb.length:=by omega
  have q':Q r s:=by simpa[hl]using q
  have hh:=XA hl;rw[bI (by rw[hz];simp)];refine aw (wpAny_dictEpoch ga NV (aw ?_));rw[Std.Legacy.Range.forIn_eq_forIn_range'];simp only[Std.Legacy.Range.size,Nat.sub_zero,Nat.add_sub_cancel,Nat.div_one];refine wpAny_forIn_list _ (λrest x s'=>s'=s/\x=(aB,())/\∃i,rest=List.range' i (es.size- i)/\i<=es.size/\SHits A s kb (ka.drop i) r) _ ?_ ?_ _ _ ⟨rfl,rfl,0,by simp,cr _,hh⟩
  .rintro x rest y s' ⟨rfl,rfl,i,hr,hi,hS⟩;have YL:i<es.size:=by
    rcases Nat.lt_or_ge i es.size with z|z
    .exact z
    .rw[Nat.sub_eq_zero_of_le z]at hr;cases hr
   rw[show es.size- i=(es.size- (i+1))+1 by omega,List.range'_succ]at hr;injection hr with hx hrest;subst hx;have DY:x<ka.length:=by omega
   refine Yd (pa.2 x ka[x] (by simp[DY])) λe t h1 h2 h3=>?_;rw[dy DY]at hS;refine aw (wpAny_dictEntries ga NV ?_);rw[h1];show b5 _ _ (holding [e.key,e.val] _ >>=_) _ _ _;rw[h2];refine aw (wpAny_holding (aw (j4 gb IH pb ?_)));generalize hk:ka[x]=p at hS h2 h3⊢;obtain⟨k,v⟩:=p;cases hS with
   |miss hn=>rw[hn];refine bj ?_;show b5 _ _ (if(!aD)=aC then _ else _) _ _ _;rw[bJ (by decide)];exact bj (bj q')
   | @hit _ _ _ j p' eb bb hn hp he PD=>
    rw[hn];refine Yd (pb.2 j p' hp) λf t' g1 g2 g3=>?_;refine aw (wpAny_dictEntries gb IH ?_);rw[g1];rw[show e.val=v from h3];dsimp only;rw[g3];refine wpAny_holding (he prog w _ _ ?_);cases eb with
    |false=>rw[Bool.false_and]at q';show b5 _ _ (if(!aD)=aC then _ else _) _ _ _;rw[bJ (by decide)];exact bj (bj q')
    |true=>show b5 _ _ (if(!aC)=aC then _ else _) _ _ _;rw[bI (by decide)];refine aw (wpAny_dictEpoch ga NV ?_);rw[bI (by simp)];exact bj ⟨rfl,rfl,x+1,hrest,YL,by rw[Bool.true_and];exact PD⟩
  .rintro x s' ⟨rfl,rfl,i,hr,hi,hS⟩;have e:i=es.size:=by
    rcases Nat.lt_or_ge i es.size with z|z
    .rw[show es.size- i=(es.size- (i+1))+1 by omega,List.range'_succ]at hr;cases hr
    .omega
   rw[e,la,List.drop_length]at hS;cases hS;exact bj q'
 .rw[bJ (by simpa using hz)];have hf:(ka.length==kb.length)=aD:=by rw[<-la,<-lb];simpa using hz
  rw[hf,Bool.false_and]at q;exact aw (wpAny_rule (bj q))
section
variable{s:ax}{a b:av}{ka kb:List (Str×aq)}
theorem Ar.typeIs(d:Ar s.heap a ka):s.TypeIs (.ref a) "dict":=let⟨o,_,_,ho,hc,_⟩:=d;⟨o,ho,hc.1⟩
theorem Dr(ha:(a==sysModules)=aD)(hb:(b==sysModules)=aD)(da:Ar s.heap a ka)(db:Ar s.heap b kb)(hu:A.units<cLine)(XA:ka.length=kb.length->SHits A.in1 s kb ka r):SeqAt.RcAt A s (.ref a) (.ref b) (ka.length==kb.length&&r):=λprog w E Q q=>by refine wpAny_richCompare_same_room (op:=.Eq) da.typeIs db.typeIs PySem.F.slot_dict_eq (wpAny_call_entry PySem.F.slot_dict_eq da.typeIs PySem.F.entry_dict_eq ?_ (PySem.F.args_dict_eq_2 _ _)) hu;show b5 _ _ (Builtin.Dict.dictSlotArgs "__eq__" ⟨[.ref a,.ref b],[]⟩>>=_) _ _ s;refine aw ?_;unfold Builtin.Dict.dictSlotArgs;refine aw (wpAny_notOrdered_dict da.typeIs ?_);show b5 _ _ (pure (dz a,dz b)) _ _ s;refine bj (aw (wpAny_isInstance (T:="dict") db.typeIs PySem.F.sub_dict_dict ?_));simp only[Bool.not_true,Bool.false_eq_true,if_false];refine aw (bj (aw (bj (aw (Kz ha hb da db XA ?_)))));exact bj ⟨_,rfl,(λx=>nomatch x),by simpa using q⟩
theorem K3(ha:(a==sysModules)=aD)(hb:(b==sysModules)=aD)(da:Ar s.heap a ka)(db:Ar s.heap b kb)(hu:A.units<cLine)(XA:ka.length=kb.length->SHits A.in1 s kb ka r):SeqAt.RcNeAt A s (.ref a) (.ref b) (!(ka.length==kb.length&&r)):=λprog w E Q q=>by refine wpAny_richCompare_same_room (op:=.NotEq) da.typeIs db.typeIs PySem.F.slot_dict_ne (wpAny_call_entry PySem.F.slot_dict_ne da.typeIs PySem.F.entry_dict_ne ?_ (PySem.F.args_dict_ne_2 _ _)) hu;show b5 _ _ (Builtin.Dict.dictSlotArgs "__ne__" ⟨[.ref a,.ref b],[]⟩>>=_) _ _ s;refine aw ?_;unfold Builtin.Dict.dictSlotArgs;refine aw (wpAny_notOrdered_dict da.typeIs ?_);show b5 _ _ (pure (dz a,dz b)) _ _ s;refine bj (aw (wpAny_isInstance (T:="dict") db.typeIs PySem.F.sub_dict_dict ?_));simp only[Bool.not_true,Bool.false_eq_true,if_false];refine aw (bj (aw (bj (aw (Kz ha hb da db XA ?_)))));exact bj ⟨_,rfl,(λx=>nomatch x),by simpa using q⟩
end
section
variable{K:aj}
@[simp]noncomputable def strK?:List Key->Option (List Str)
 | []=>aA []
 | .inr x::r=>(strK? r).bind λt=>aA (x::t)
 |_=>aB
@[simp]def V3(f:D->D->Option Bool)(ys:List Str)(us:List D):List Str->List D->Option Bool
 |x::xs,v::vs=>match Z9 ys us x with
  |none=>aA aD
  |some u=>(f v u).bind λb=>(V3 f ys us xs vs).bind λc=>aA (b&&c)
 |_,_=>aA aC
@[simp]def As(f:D->D->Option Bool):D->D->Option Bool
 | .dK ks vs,.dK ks' vs'=>(strK? ks).bind λxs=>(strK? ks').bind λys=>if xs.length=ys.length then V3 f ys vs' xs vs else aA aD
 |d1,d2=>Ex f d1 d2
@[simp]def Ab:Nat->D->D->Option Bool
 |0=>λ_ _=>aB
 |n+1=>As (Ab n)
theorem xZ:∀{es:List DictEntry} {kvs:List (Key×aq)} {xs:List Str},Pairs (Yf P w) es kvs->strK? (kvs.map (·.1))=aA xs->
  ∃ZT:List (Str×aq),ZT.map (·.1)=xs/\ZT.map (·.2)=kvs.map (·.2)/\es.length=ZT.length/\∀(i:Nat) p,ZT[i]? =aA p->∃e t,es[i]? =aA e/\e.key= .str p.1 t/\e.val=p.2
 |_,_,_,.nil,e=>by cases e;exact⟨[],rfl,rfl,rfl,λi p h=>by simp at h⟩
 |_,_,_,@Pairs.cons _ _ _ _ _ en kv es kvs hi hv t,e=>by
  obtain⟨k,v⟩:=kv;cases k with
  |inl i=>cases e
  |inr x=>
   have e:(strK? (kvs.map (·.1))).bind (λt=>aA (x::t))=aA _:=e;refine cR e λxs e1 e2=>?_;cases e2;obtain⟨ZT,h1,h2,h3,h4⟩:=xZ t e1;refine⟨(x,v)::ZT,by rw[bn,h1],by rw[bn,bn,h2],by rw[bc,bc,h3],λi p hp=>?_⟩;cases i with
   |zero=>
    obtain rfl:(x,v)=p:=by simpa using hp
    rcases Y1 (show Rg (.inr x) en.key=aC from hi)with⟨j,t',e3,_⟩|⟨y,t',e3,e4⟩
    .cases e3
    .cases e3;exact⟨en,t',rfl,e4,hv⟩
   |succ i=>exact h4 i p (by simpa using hp)
theorem V4:∀{kvs:List (Key×V)} {vs:List (Key×aq)},KV kvs vs->vs.map (·.1)=kvs.map (·.1)/\Ym (kvs.map (·.2)) (vs.map (·.2))
 |_,_,.nil=>⟨rfl,.nil⟩
 |_,_,.cons h t=>⟨by rw[bn,bn,h.1,(V4 t).1],.cons h.2 (V4 t).2⟩
section
variable{X:Cx}{cO:List (av×Obj)}{σ:L2.St}{F H:Hp}{s:ax}
theorem K4(I:cP X cO σ H s)(ha:HK H a kvs)(e:strK? (kvs.map (·.1))=aA xs):
  (a==sysModules)=aD/\∃ZT,Ar s.heap a ZT/\ZT.map (·.1)=xs/\Ym (kvs.map (·.2)) (ZT.map (·.2))/\(kvs.map (·.1)).Nodup:=by
 obtain⟨z,hd,vs,ZR,dd⟩:=GN I.hok ha;obtain⟨k1,k2⟩:=V4 ZR;obtain⟨o,es,ep,ho,hc,uX,_,hp,nd⟩:=dd;rw[<-k1]at e;obtain⟨ZT,h1,h2,h3,h4⟩:=xZ hp e;refine⟨hd,ZT,⟨o,es,ep,ho,hc,uX,by rw[<-h3];simp,λi p PF=>?_⟩,h1,by rw[h2];exact k2,by rw[<-k1];exact nd⟩;refine We (h4 i p PF) λen t g1 g2=>?_;exact⟨en,t,by rw[<-Array.getElem?_toList];exact g1,g2⟩
theorem Tt(x:Str):∀(ZT:List (Str×aq)) (us:List D) (Us:List V),cQ X.K F us Us->Ym Us (ZT.map (·.2))->match Z9 (ZT.map (·.1)) us x with
  |none=>place ZT x=aB
  |some u=>∃j p U,place ZT x=aA j/\ZT[j]? =aA p/\cX X.K F u U/\Ya U p.2
 | [],_,_,r,v=>by cases v;cases r;rfl
 |p::ZT,_,_,r,v=>by
  cases v with
  | @cons U u' Us us' hU tU=>
  cases r with
  | @cons d v' ds vs' h t=>
   have ih:=Tt x ZT ds Us t tU;show match(if p.1=x then aA d else Z9 (ZT.map (·.1)) ds x)with
    |none=>place (p::ZT) x=aB
    |some u=>∃j q U,place (p::ZT) x=aA j/\(p::ZT)[j]? =aA q/\cX X.K F u U/\Ya U q.2
   have ZH:place (p::ZT) x=if p.1=x then aA 0 else(place ZT x).map (· +1):=by unfold place;rw[List.findIdx?_cons];by_cases e:p.1=x<;> simp[e]
   by_cases e:p.1=x
   .rw[bJ e,ZH,bJ e];exact⟨0,p,U,rfl,rfl,h,hU⟩
   .rw[bI e,ZH,bI e];cases hl:Z9 (ZT.map (·.1)) ds x with
    |none=>rw[hl]at ih;dsimp only at ih⊢;rw[ih];rfl
    |some u=>rw[hl]at ih;obtain⟨j,q,U',h1,h2,h3,h4⟩:=ih;exact⟨j+1,q,U',by rw[h1];rfl,by simpa using h2,h3,h4⟩
theorem xY(ih:∀d1 d2 b x y v u,cX X.K F d1 x->Ya x v->cX X.K F d2 y->Ya y u->f d1 d2=aA b->SeqAt.EqAt A s v u b)(ru:cQ X.K F us Us)(vu:Ym Us (YK.map (·.2))):
  ∀ZT vs Vs r,cQ X.K F vs Vs->Ym Vs (ZT.map (·.2))->V3 f (YK.map (·.1)) us (ZT.map (·.1)) vs=aA r->SHits A s YK ZT r
 | [],_,_,_,r,v,e=>by cases v;cases r;cases e;exact .nil
 |p::ZT,_,_,_,r,v,e=>by
  obtain⟨k,w⟩:=p;cases v with
  | @cons V0 u' Vs us' hV tV=>
  cases r with
  | @cons d v' ds vs' h t=>
   have lp:=Tt (X:=X) (F:=F) k YK us Us ru vu;have e:(match Z9 (YK.map (·.1)) us k with
    |none=>aA aD
    |some u=>(f d u).bind λb=>(V3 f (YK.map (·.1)) us (ZT.map (·.1)) ds).bind λc=>aA (b&&c))=aA _:=e
   cases hl:Z9 (YK.map (·.1)) us k with
   |none=>rw[hl]at lp e;cases e;exact .miss lp
   |some u=>rw[hl]at lp e;obtain⟨j,q,U,h1,h2,h3,h4⟩:=lp;refine cR e λb e1 e2=>?_;refine cR e2 λc e3 e4=>?_;cases e4;exact .hit h1 h2 (ih _ _ _ _ _ _ _ h hV h3 h4 e1) (xY ih ru vu ZT ds Vs c t tV e3)
end
end
section
variable{K:aj}
theorem Pv:∀ZT,(ZT.map (·.1)).Nodup->∀q∈ZT,∃j,place ZT q.1=aA j/\ZT[j]? =aA q
 | [],_,_,h=>nomatch h
 |p::r,nd,q,h=>by
  obtain⟨n1,n2⟩:=cq.mp nd;have ZH:place (p::r) q.1=if p.1=q.1 then aA 0 else(place r q.1).map (· +1):=by unfold place;rw[List.findIdx?_cons];by_cases e:p.1=q.1<;> simp[e]
  rcases ba.mp h with e|e
  .subst e;exact⟨0,by rw[ZH,bJ rfl],rfl⟩
  .obtain⟨j,h1,h2⟩:=Pv r n2 q e;have YZ:¬p.1=q.1:=λz=>n1 (bd.mpr ⟨q,e,z.symm⟩);exact⟨j+1,by rw[ZH,bI YZ,h1];rfl,by simpa using h2⟩
theorem Ds:∀{ks:List Key} {xs:List Str},strK? ks=aA xs->ks=xs.map b7
 | [],_,e=>by cases e;rfl
 | .inr x::ks,_,e=>by refine cR e λt e1 e2=>?_;cases e2;rw[Ds e1];rfl
 | .inl i::ks,_,e=>by cases e
theorem ib(e:strK? ks=aA xs)(nd:ks.Nodup):xs.Nodup:=by rw[Ds e]at nd;have z:(xs.map b7:List Key).Pairwise (· ≠ ·):=nd;rw[List.pairwise_map]at z;exact z.imp λh e=>h (by rw[e])
section
variable{X:Cx}{cO:List (av×Obj)}{σ:L2.St}{F H:Hp}{s:ax}
theorem Pw(ih:∀d1 d2 b x y v,cX X.K F d1 x->Ya x v->cX X.K F d2 y->Ya y v->f d1 d2=aA b->b=aC)(ru:cQ X.K F us Us)(vu:Ym Us (ZT.map (·.2))):
  ∀(YE:List (Str×aq)) vs Vs r,(∀q∈YE,∃j,place ZT q.1=aA j/\ZT[j]? =aA q)->cQ X.K F vs Vs->Ym Vs (YE.map (·.2))->V3 f (ZT.map (·.1)) us (YE.map (·.1)) vs=aA r->r=aC
 | [],_,_,_,_,r,v,e=>by cases v;cases r;cases e;rfl
 |p::YE,_,_,_,hs,r,v,e=>by
  obtain⟨k,w⟩:=p;cases v with
  | @cons V0 u' Vs us' hV tV=>
  cases r with
  | @cons d v' ds vs' h t=>
   have lp:=Tt (X:=X) (F:=F) k ZT us Us ru vu;obtain⟨j,D_,uP⟩:=hs (k,w) aa;have e:(match Z9 (ZT.map (·.1)) us k with
    |none=>aA aD
    |some u=>(f d u).bind λb=>(V3 f (ZT.map (·.1)) us (YE.map (·.1)) ds).bind λc=>aA (b&&c))=aA _:=e
   cases hl:Z9 (ZT.map (·.1)) us k with
   |none=>rw[hl]at lp;rw[show place ZT k=aA j from D_]at lp;cases lp
   |some u=>rw[hl]at lp e;obtain⟨j',q,U,h1,h2,h3,h4⟩:=lp;rw[show place ZT k=aA j from D_]at h1;cases h1;rw[uP]at h2;cases h2;refine cR e λb e1 e2=>?_;refine cR e2 λc e3 e4=>?_;cases e4;rw[ih _ _ _ _ _ _ h hV h3 h4 e1,Pw ih ru vu YE ds Vs c (λq hq=>hs q (ad _ hq)) t tV e3];rfl
theorem K5(I:cP X cO σ H s)(le:Zo F H):∀n d1 d2 b x y v,cX X.K F d1 x->Ya x v->cX X.K F d2 y->Ya y v->Ab n d1 d2=aA b->b=aC
 |0,_,_,_,_,_,_,_,_,_,_,e=>by cases e
 |n+1,d1,d2,b,x,y,v,r1,v1,r2,v2,e=>by
  unfold Ab As at e;split at e
  .cases r1 with
   | @dK a ks ds kvs uu h1 e1 KJ=>
   cases r2 with
   | @dK a' ks' RJ ZX ep2 h2 e2 KI=>
   cases v1;cases(show dz a=dz a' from v2);rw[h1]at h2;cases h2;subst e1 e2;refine cR e λxs f1 e=>?_;refine cR e λys f2 e=>?_;rw[f1]at f2;cases f2;rw[bJ rfl]at e;obtain⟨_,ZT,_,hk,hv,nd⟩:=K4 I ⟨_,le _ _ h1⟩ f1;have ndx:=ib f1 nd;rw[<-hk]at e ndx;exact Pw (K5 I le n) KI hv ZT _ _ b (Pv ZT ndx) KJ hv e
  .exact jZ I le (K5 I le n) d1 d2 b x y v r1 v1 r2 v2 e
theorem rcM(I:cP X cO σ H s)(le:Zo F H)(ih:∀d1 d2 b x y v u,cX X.K F d1 x->Ya x v->cX X.K F d2 y->Ya y u->f d1 d2=aA b->SeqAt.EqAt A.in1 s v u b)(r1:Wb X.K F H d1 x)(v1:Ya x v)(r2:Wb X.K F H d2 y)(v2:Ya y u)(e:As f d1 d2=aA b)(hu:A.units<cLine)(hr:Wx x=aD\/Wx y=aD):(∃a c,v= .ref a/\u= .ref c)/\SeqAt.RcAt A s v u b/\SeqAt.RcNeAt A s v u (!b):=by
 unfold As at e;split at e
 .obtain⟨a1,v7,rfl,ud,rfl,KJ⟩:=r1.dK le;obtain⟨a2,v4,rfl,uc,rfl,KI⟩:=r2.dK le;cases v1;cases v2;refine cR e λxs f1 e=>?_;refine cR e λys f2 e=>?_;obtain⟨m1,YE,NE,Do,uC,_⟩:=K4 I ud f1;obtain⟨m2,YK,NC,R_,uB,_⟩:=K4 I uc f2;have l1:YE.length=xs.length:=by rw[<-Do,ay]
  have l2:YK.length=ys.length:=by rw[<-R_,ay]
  refine⟨⟨_,_,rfl,rfl⟩,?_⟩;split at e
  .rename_i hl;rw[<-Do,<-R_]at e;have XA:YE.length=YK.length->SHits A.in1 s YK YE b:=λ_=>xY ih KI uB YE _ _ b KJ uC e;have hb:b=(YE.length==YK.length&&b):=by rw[l1,l2,hl];simp
   rw[hb];exact⟨Dr m1 m2 NE NC hu XA,K3 m1 m2 NE NC hu XA⟩
  .rename_i hl;cases e;have XA:YE.length=YK.length->SHits A.in1 s YK YE aD:=λz=>bN (by omega) hl;have hb:aD=(YE.length==YK.length&&aD):=by simp
   rw[hb];exact⟨Dr m1 m2 NE NC hu XA,K3 m1 m2 NE NC hu XA⟩
 .exact rcN I le ih r1 v1 r2 v2 e hu hr
theorem FU(I:cP X cO σ H s)(le:Zo F H):∀n A d1 d2 b x y v u,A.units+n<cLine->cX X.K F d1 x->Ya x v->cX X.K F d2 y->Ya y u->Ab n d1 d2=aA b->SeqAt.EqAt A s v u b
 |0,_,_,_,_,_,_,_,_,_,_,_,_,_,e=>by cases e
 |n+1,A,d1,d2,b,x,y,v,u,hu,r1,v1,r2,v2,e=>by
  by_cases hf:Wx x=aC/\Wx y=aC
  .have e':eqS d1 d2=aA b:=by
    unfold Ab As at e;split at e
    .cases r1;cases hf.1
    .unfold Ex at e;split at e
     .cases r1;cases hf.1
     .cases r1;cases hf.1
     .cases r1;cases hf.1
     .cases r1;cases hf.1
     .exact e
   obtain⟨f1,f2,rfl⟩:=Ks (H:=H) e' (Wb.of r1) (Wb.of r2);exact yb v1 v2 f1 f2
  .have uV:Wx x=aD\/Wx y=aD:=by
    cases h1:Wx x with
    |false=>exact .inl rfl
    |true=>cases h2:Wx y with
     |false=>exact .inr rfl
     |true=>exact bN ⟨h1,h2⟩ hf
   obtain⟨⟨a,c,rfl,rfl⟩,h1,_⟩:=rcM I le (A:=A) (f:=Ab n) (λd1 d2 b x y v u q1 w1 q2 w2 e=>FU I le n A.in1 d1 d2 b x y v u (by have:A.in1.units=A.units+1:=rfl;omega) q1 w1 q2 w2 e) (Wb.of r1) v1 (Wb.of r2) v2 e (by omega) uV;by_cases hac:a=c
   .subst hac;rw[K5 I le (n+1) d1 d2 b x y _ r1 v1 r2 v2 e];exact SeqAt.EqAt.same _
   .exact SeqAt.EqAt.of_refs hac h1
def MG(K:aj)(QW:Bool):R2:=λx y H Q=>∃F d1 d2 b,Zo F H/\Wb K F H d1 x/\Wb K F H d2 y/\Ab 48 d1 d2=aA b/\(Wx x=aD\/Wx y=aD)/\Q (.bl (if QW then !b else b)) H
theorem yF(hu:X.A.units+64<cLine):B5 X (eu .Eq) (MG X.K aD):=by intro cO s σ H x y v u Q I rx ry h;obtain⟨F,d1,d2,b,le,r1,r2,e,hf,q⟩:=h;obtain⟨_,h1,_⟩:=rcM I le (A:=X.A) (f:=Ab 47) (λd1 d2 b x y v u q1 w1 q2 w2 e=>FU I le 47 X.A.in1 d1 d2 b x y v u (by have:X.A.in1.units=X.A.units+1:=rfl;omega) q1 w1 q2 w2 e) r1 rx r2 ry e (by omega) hf;exact h1 X.prog X.w X.xe _ ⟨.bl b,H,I,rfl,q⟩
theorem yE(hu:X.A.units+64<cLine):B5 X (eu .NotEq) (MG X.K aC):=by intro cO s σ H x y v u Q I rx ry h;obtain⟨F,d1,d2,b,le,r1,r2,e,hf,q⟩:=h;obtain⟨_,_,h1⟩:=rcM I le (A:=X.A) (f:=Ab 47) (λd1 d2 b x y v u q1 w1 q2 w2 e=>FU I le 47 X.A.in1 d1 d2 b x y v u (by have:X.A.in1.units=X.A.units+1:=rfl;omega) q1 w1 q2 w2 e) r1 rx r2 ry e (by omega) hf;exact h1 X.prog X.w X.xe _ ⟨.bl !b,H,I,rfl,q⟩
end
end
section
variable{K:aj}
@[simp]def Mm(d1 d2:D):Option SV:=if d1.isFlat=true/\d2.isFlat=true then eqD d1 d2 else(Ab 48 d1 d2).bind λb=>some (.fz (.bl b))
@[simp]def neY(d1 d2:D):Option SV:=if d1.isFlat=true/\d2.isFlat=true then neD d1 d2 else(Ab 48 d1 d2).bind λb=>some (.fz (.bl !b))
@[simp]def inY(d1 d2:D):Option SV:=match d1,d2 with
 | .non,.dK _ _=>aA (.fz (.bl aD))
 |_,_=>inX d1 d2
@[simp]def FR(d1 d2:D):Option SV:=match d1,d2 with
 | .non,.dK _ _=>aA (.fz (.bl aC))
 |_,_=>EJ d1 d2
section
variable{Z:cU K}
theorem xW(r1:Wb K F H d1 x)(r2:Wb K F H d2 y)(hf:¬(d1.isFlat=aC/\d2.isFlat=aC)):Wx x=aD\/Wx y=aD:=by
 cases h1:d1.isFlat with
 |false=>exact .inl (Kt r1 h1)
 |true=>cases h2:d2.isFlat with
  |false=>exact .inr (Kt r2 h2)
  |true=>exact bN ⟨h1,h2⟩ hf
theorem AC:Wj Z (λx y H Q=>rEq x y H Q\/MG K aD x y H Q) Mm:=by
 intro F H σ δ own x y d1 d2 sv Q s r1 r2 e k;unfold Mm at e;split at e
 .exact .inl (gP F H σ δ own x y d1 d2 sv Q s r1 r2 e k)
 .rename_i hf;refine cR e λb e1 e2=>?_;cases e2;exact .inr ⟨F,d1,d2,b,s.le,r1,r2,e1,xW r1 r2 hf,k.fz s (.bl _)⟩
theorem AB:Wj Z (λx y H Q=>rNe x y H Q\/MG K aC x y H Q) neY:=by
 intro F H σ δ own x y d1 d2 sv Q s r1 r2 e k;unfold neY at e;split at e
 .exact .inl (gO F H σ δ own x y d1 d2 sv Q s r1 r2 e k)
 .rename_i hf;refine cR e λb e1 e2=>?_;cases e2;exact .inr ⟨F,d1,d2,b,s.le,r1,r2,e1,xW r1 r2 hf,k.fz s (.bl _)⟩
theorem fT:Wj Z (λx y H Q=>((∃i j,x= .str i/\y= .str j/\Q (.bl (!(bv j i 0 j.length 1).isEmpty)) H)\/OP x y H Q)\/E1 aD x y H Q) inY:=by
 intro F H σ δ own x y d1 d2 sv Q s r1 r2 e k;unfold inY at e;split at e
 .cases e;obtain⟨a,kvs,rfl,ha,_,_⟩:=r2.dK s.le;exact .inr ⟨a,kvs,r1.non,rfl,ha.rd,k.fz s (.bl _)⟩
 .exact .inl (fW F H σ δ own x y d1 d2 sv Q s r1 r2 e k)
theorem lV:Wj Z (λx y H Q=>((∃i j,x= .str i/\y= .str j/\Q (.bl (!(!(bv j i 0 j.length 1).isEmpty))) H)\/Ap x y H Q)\/E1 aC x y H Q) FR:=by
 intro F H σ δ own x y d1 d2 sv Q s r1 r2 e k;unfold FR at e;split at e
 .cases e;obtain⟨a,kvs,rfl,ha,_,_⟩:=r2.dK s.le;exact .inr ⟨a,kvs,r1.non,rfl,ha.rd,k.fz s (.bl _)⟩
 .exact .inl (lY F H σ δ own x y d1 d2 sv Q s r1 r2 e k)
end
section
variable{X:Cx}{Z:cU X.K}{a b c:ca}{fa fb fc:FE}{pos:Pos}
theorem GD(hv:X.A.units+64<cLine)(ha:PE X a (Zf Z fa))(hb:PE X b (Zf Z fb)):PE X (.Compare a [.Eq] [b] pos) (Zf Z (Zg Mm fa fb)):=LL (zA.or (yF hv)) AC ha hb (Gc _)
theorem fS(hv:X.A.units+64<cLine)(ha:PE X a (Zf Z fa))(hb:PE X b (Zf Z fb)):PE X (.Compare a [.NotEq] [b] pos) (Zf Z (Zg neY fa fb)):=LL (A_.or (yE hv)) AB ha hb (Gc _)
theorem Qe(hv:X.A.units+64<cLine)(ha:PE X a (Zf Z fa))(hb:PE X b (Zf Z fb)):PT X (.Compare a [.Eq] [b] pos) (Wc Z (Zq (Zg Mm fa fb))):=An (zA.or (yF hv)) AC ha hb (Gc _)
theorem LB(hv:X.A.units+64<cLine)(ha:PE X a (Zf Z fa))(hb:PE X b (Zf Z fb)):PT X (.Compare a [.NotEq] [b] pos) (Wc Z (Zq (Zg neY fa fb))):=An (A_.or (yE hv)) AB ha hb (Gc _)
end
end
section
variable{K:aj}
theorem SR.changeT{Z:cU K}(s:SR Z F H σ δ own)(t:cZ Z F H own svT vT DC)(e:δ[i]? =aA (aA sv))(hv:σ[i]? =aA (aA v))(ha:(a,o)∈own i)(hs:cV K F sv' v ns')(XU:∀p∈ns',p=(a,o')\/(p∈own i/\p.1≠a)\/p∈DC)(nd:(B9 ns').Nodup):SR Z F (Wu H a o') σ (δ.set i (aA sv')) (put own i ns'):=by
 obtain⟨fa,UX,ug⟩:=s.ok i (a,o) ha;have hi:i<δ.length:=(bf.mp e).1;refine⟨λb u eb=>?_,s.fro,λb u eb=>?_,by rw[List.length_set];exact s.len,λj sw ej=>?_,λj=>?_,λj p hp=>?_,λj k p q WF hp hq=>?_⟩
 .rw[Zv λz=>by rw[z]at eb;rw[fa]at eb;cases eb];exact s.le b u eb
 .rw[Zv λz=>by rw[z]at eb;rw[UX]at eb;cases eb];exact s.old b u eb
 .by_cases hj:j=i
  .subst hj;rw[d3 hi]at ej;cases ej;rw[Z4];exact⟨v,hv,hs⟩
  .rw[du (Ne.symm hj)]at ej;rw[Yb hj];exact s.at' j sw ej
 .by_cases hj:j=i
  .subst hj;rw[Z4];exact nd
  .rw[Yb hj];exact s.nod j
 .by_cases hj:j=i
  .subst hj;rw[Z4]at hp;rcases XU p hp with z|⟨z,ne⟩|z
   .subst z;exact⟨fa,UX,Yp⟩
   .obtain⟨x,y,w⟩:=s.ok j p z;exact⟨x,y,by rw[Zv ne];exact w⟩
   .obtain⟨x,y,w⟩:=t.ok p z;exact⟨x,y,by rw[Zv (t.sep j p (a,o) z ha)];exact w⟩
  .rw[Yb hj]at hp;obtain⟨x,y,w⟩:=s.ok j p hp;exact⟨x,y,by rw[Zv (s.sep j i p (a,o) hj hp ha)];exact w⟩
 .have CC:∀(l:Nat) (r q:av×HO),l≠i->r∈ns'->q∈own l->r.1≠q.1:=λl r q hl hr hq=>by
   rcases XU r hr with z|⟨z,_⟩|z
   .subst z;exact s.sep i l (a,o) q (Ne.symm hl) ha hq
   .exact s.sep i l r q (Ne.symm hl) z hq
   .exact t.sep l r q z hq
  by_cases hj:j=i
  .subst hj;rw[Z4]at hp;rw[Yb (Ne.symm WF)]at hq;exact CC k p q (Ne.symm WF) hp hq
  .by_cases hk:k=i
   .subst hk;rw[Z4]at hq;rw[Yb hj]at hp;exact λz=>CC j q p hj hq hp z.symm
   .rw[Yb hj]at hp;rw[Yb hk]at hq;exact s.sep j k p q WF hp hq
theorem cW.snoc:∀{xss:List (List D)} {ws:List V} {ns:Zu} {xs:List D} {b:av} {vs:List V},cW K F xss ws ns->cQ K F xs vs->cW K F (xss++[xs]) (ws++[.ref b]) (ns++[(b,.lst vs)])
 |_,_,_,_,_,_,.nil,r=>.cons r .nil
 |_,_,_,_,_,_,.cons h t,r=>.cons h (t.snoc r)
theorem K6(h:cV K F (.oN ks xss) v ns):∃a kvs ns' ep,v= .ref a/\ns=(a,.dK kvs ep)::ns'/\kvs.map (·.1)=ks/\cW K F xss (kvs.map (·.2)) ns':=by
 cases h with
 |oN e r=>exact⟨_,_,_,_,rfl,rfl,e,r⟩
section
variable{Z:cU K}
@[simp]noncomputable def GC:FE:=λδ=>some (.tmp (.oN [] []),δ)
theorem nX(h:Zf Z GC σ H Q):Ve σ H Q:=by refine Yx h λF δ own rv δ' s e k=>?_;cases e;intro p hp;have f:Nk Z F H σ δ own (.oN [] []) Q:=λv H' F' ns a b c t=>k v H' F' own a b c ⟨ns,t⟩;exact f.one s (.oN (kvs:=[]) rfl .nil) hp
@[simp]noncomputable def M'(i j:Nat):FS:=λδ=>match δ[i]?,δ[j]? with
 |some (aA (.oN ks xss)),aA (aA (.fz kd))=>kd.key?.bind λk=>if(ks.any λx=>decide (x=k))=aD/\xss.length<bu then aA (.nx (δ.set i (aA (.oN (ks++[k]) (xss++[[]])))))else aB
 |_,_=>aB
theorem cW.length:∀{xss:List (List D)} {ws:List V} {ns:Zu},cW K F xss ws ns->xss.length=ws.length
 |_,_,_,.nil=>rfl
 |_,_,_,.cons _ t=>by rw[bc,bc,t.length]
theorem qD(h:Zx Z (M' i j) E σ H):GM (Ol i) (Ol j) (Zf Z (Ud Zt)) E σ H:=by
 refine Ww h λF δ own fl s e k=>?_;unfold M' at e;split at e
 .rename_i ks xss kd hi hj;refine cR e λkk f1 f2=>?_;split at f2
  .rename_i hc;cases f2;refine⟨F,δ,own,.tmp (.ol []),δ,s,by simp,λv H1 F1 own1 sH sF s1 r1=>?_⟩;obtain⟨DC,t⟩:=r1;obtain⟨b,us,rfl,rfl,ru⟩:=Qr t.sh;cases ru;obtain⟨x,hx,sh⟩:=s1.at' i _ hi;obtain⟨y,hy,LX⟩:=s1.at' j _ hj;obtain⟨a,kvs,ns',WJ,rfl,en,ek,RY⟩:=K6 sh;have mb:(a,HO.dK kvs WJ)∈own1 i:=by rw[en];exact aa
   have hH:=(s1.ok i _ mb).2.2;have hn:O7 kvs kk=aB:=by
    have z:=Rl kk kvs;cases hv:O7 kvs kk with
    |none=>rfl
    |some w=>
     rw[hv]at z;have z1:(kvs.any λkv=>decide (kv.1=kk))=(ks.any λx=>decide (x=kk)):=by rw[<-ek,List.any_map];rfl
     rw[z1,hc.1]at z;cases z
   have hput:=ke (.ref b) hn;have JB:y=kV kk:=Vw f1 (Q0 LX);refine⟨_,hx,y,hy,a,rfl,?_⟩;rw[JB];refine Nj.k ⟨_,hH⟩ (by have:=RY.length;rw[ay]at this;omega) λep=>?_;rw[hput];have nd0:=s1.nod i;rw[en]at nd0;obtain⟨q1,q2⟩:=cq.mp nd0;have hb:∀p∈own1 i,p.1≠b:=λp hp z=>t.sep i (b,.lst []) p aa hp z.symm;refine k σ _ F1 _ sF (s1.changeT (o':=.dK (kvs++[(kk,.ref b)]) ep) (ns':=(a,.dK (kvs++[(kk,.ref b)]) ep)::(ns'++[(b,.lst [])])) t hi hx mb (.oN (by rw[cm,ek];rfl) (by rw[cm];exact RY.snoc .nil)) (λp hp=>?_) ?_)
   .rcases ba.mp hp with z|z
    .exact .inl z
    .rcases bo.mp z with z|z
     .exact .inr (.inl ⟨by rw[en];exact ad _ z,λw=>q1 (bd.mpr ⟨p,z,w⟩)⟩)
     .exact .inr (.inr z)
   .show(a::(ns'++[(b,HO.lst [])]).map (·.1)).Nodup;rw[cm];refine cq.mpr ⟨λz=>?_,?_⟩
    .rcases bo.mp z with z|z
     .exact q1 z
     .exact hb _ mb (af.mp z)
    .refine dm.mpr ⟨q2,Fk,λx hx y hy z=>?_⟩;obtain⟨p,hp,ep⟩:=bd.mp hx;have WC:y=b:=af.mp hy;exact hb p (by rw[en];exact ad _ hp) (by rw[ep,z,WC])
  .cases f2
 .cases e
end
theorem cW.app:∀{xss:List (List D)} {ws:List V} {ns:Zu} {p:Nat} {b:av},cW K F xss ws ns->ws[p]? =aA (.ref b)->(B9 ns).Nodup->
  ∃xs vs,xss[p]? =aA xs/\(b,HO.lst vs)∈ns/\cQ K F xs vs/\∀{d:D} {v:V},cX K F d v->∃ns',cW K F (xss.set p (xs++[d])) ws ns'/\B9 ns'=B9 ns/\∀q∈ns',q=(b,HO.lst (vs++[v]))\/(q∈ns/\q.1≠b)
 |_,_,_,_,_,.nil,e,_=>by simp at e
 |_,_,_,0,b,@cW.cons _ _ xs xss b' vs ws ns r t,e,nd=>by
  have e':b'=b:=by simpa using e
  subst e';obtain⟨n1,n2⟩:=cq.mp nd;refine⟨xs,vs,rfl,aa,r,fun{d v} hd=>⟨(b',.lst (vs++[v]))::ns,.cons (r.snoc hd) t,rfl,λq hq=>?_⟩⟩;rcases ba.mp hq with z|z
  .exact .inl z
  .exact .inr ⟨ad _ z,λw=>n1 (bd.mpr ⟨q,z,w⟩)⟩
 |_,_,_,p+1,b,@cW.cons _ _ xs0 xss b' XX ws ns r t,e,nd=>by
  obtain⟨n1,n2⟩:=cq.mp nd;refine G9 (cW.app (p:=p) (b:=b) t (by simpa using e) n2) λxs vs h1 h2 h3 h4=>?_;refine⟨xs,vs,by simpa using h1,ad _ h2,h3,fun{d v} hd=>?_⟩;refine Zr (h4 hd) λns' k1 k2 k3=>?_;refine⟨(b',.lst XX)::ns',by rw[List.set_cons_succ];exact .cons r k1,by show b'::B9 ns'=b'::B9 ns;rw[k2],λq hq=>?_⟩;rcases ba.mp hq with z|z
  .refine .inr ⟨by rw[z];exact aa,λw=>n1 ?_⟩;rw[z]at w;exact bd.mpr ⟨_,h2,w.symm⟩
  .rcases k3 q z with w|⟨w,w2⟩
   .exact .inl w
   .exact .inr ⟨ad _ w,w2⟩
theorem cW.ref:∀{xss:List (List D)} {ws:List V} {ns:Zu} {p:Nat} {v:V},cW K F xss ws ns->ws[p]? =aA v->∃b,v= .ref b
 |_,_,_,_,_,.nil,e=>by simp at e
 |_,_,_,0,_,.cons _ _,e=>by simp at e;exact⟨_,e.symm⟩
 |_,_,_,p+1,_,.cons _ t,e=>t.ref (p:=p) (by simpa using e)
@[simp]noncomputable def Tu:List Key->Key->Option Nat
 | [],_=>aB
 |a::r,k=>if a=k then aA 0 else(Tu r k).map (· +1)
theorem Px:∀{kvs:List (Key×V)} {p:Nat},Tu (kvs.map (·.1)) k=aA p->∃v,(kvs.map (·.2))[p]? =aA v/\O7 kvs k=aA v
 | [],_,e=>by cases e
 |q::r,p,e=>by
  have e:(if q.1=k then aA 0 else(Tu (r.map (·.1)) k).map (· +1))=aA p:=e;by_cases h:q.1=k
  .rw[bJ h]at e;cases e;exact⟨q.2,rfl,Rj h⟩
  .rw[bI h]at e;obtain⟨p',e1,e2⟩:=ez.mp e;subst e2;obtain⟨v,h1,h2⟩:=Px e1;exact⟨v,by simpa using h1,by rw[Rk h];exact h2⟩
@[simp]def M_(i j:Nat)(fe:FE):FS:=λδ=>match δ[i]?,δ[j]? with
 |some (aA (.oN ks _)),aA (aA (.fz kd))=>kd.key?.bind λk=>(Tu ks k).bind λp=>(fe δ).bind λq=>(frz q.1 q.2).bind λr=>match r.2[i]? with
  |some (aA (.oN ks' xss))=>if ks'=ks then(xss[p]?).bind λxs=>if xs.length<bu then aA (.nx (r.2.set i (aA (.oN ks (xss.set p (xs++[r.1]))))))else aB else aB
  |_=>aB
 |_,_=>aB
theorem qB{Z:cU K}(h:Zx Z (M_ i j fe) E σ H):M7 (tBM K "list" Ou (AR (Ol i) (Ol j)) (O6 (Zf Z fe) Rh)) E σ H:=by
 refine Ww h λF δ own fl s e k=>?_;unfold M_ at e;split at e
 .rename_i ks xss0 kd hi hj;refine cR e λkk f1 e=>?_;refine cR e λp f2 e=>?_;refine cT e λrv δ1 f3 e=>?_;refine cT e λd δ2 f4 e=>?_;obtain⟨x,hx,sh⟩:=s.at' i _ hi;obtain⟨y,hy,LX⟩:=s.at' j _ hj;obtain⟨a,kvs,eS,WJ,rfl,en,ek,DJ⟩:=K6 sh;have mb:(a,HO.dK kvs WJ)∈own i:=by rw[en];exact aa
  have hH:=(s.ok i _ mb).2.2;rw[<-ek]at f2;obtain⟨v,g1,g2⟩:=Px f2;obtain⟨b,rfl⟩:=DJ.ref g1;have nd0:=s.nod i;rw[en]at nd0;obtain⟨_,KY⟩:=cq.mp nd0;refine G9 (DJ.app g1 KY) λxs0 XX _ m0 _ _=>?_;have hb0:=(s.ok i (b,.lst XX) (by rw[en];exact ad _ m0)).2.2;have JB:y=kV kk:=Vw f1 (Q0 LX);have dg:=B6.k (k:=kk) ⟨_,hH⟩;rw[g2]at dg;refine⟨_,hx,y,hy,a,.ref b,rfl,by rw[JB];exact dg,.inl ⟨rfl,XX,.inl (.inl hb0)⟩,F,δ,own,rv,δ1,s,f3,λw H1 F1 own1 X_ YV s1 r1=>?_⟩;refine Zr (s1.settleR r1) λF2 ZI s2 r2=>?_;refine Yd (s2.frzR r2 f4) λF3 ZP ZU s3 r3=>?_;dsimp only at e;split at e
  .rename_i ks' xss ho;split at e
   .rename_i UT;refine cR e λxs f5 e=>?_;split at e
    .rename_i hz;cases e;obtain⟨x',XE,vi⟩:=s3.at' i _ ho;rw[hx]at XE;cases XE;obtain⟨a',ZX,vw,CF,ea,TY,dD,NP⟩:=K6 vi;cases ea;have NN:(a,HO.dK ZX CF)∈ZP i:=by rw[TY];exact aa
     have hH3:=(s3.ok i _ NN).2.2;have:aA (HO.dK ZX CF)=aA (HO.dK kvs WJ):=hH3.symm.trans (X_ _ _ hH);cases this;have nd3:=s3.nod i;rw[TY]at nd3;obtain⟨q1,q2⟩:=cq.mp nd3;refine G9 (NP.app g1 q2) λys vs k1 k2 k3 k4=>?_;rw[f5]at k1;cases k1;refine Zr (k4 r3) λns' j1 j2 j3=>?_;have QY:(b,HO.lst vs)∈ZP i:=by rw[TY];exact ad _ k2
     have YZ:a≠b:=λz=>q1 (bd.mpr ⟨_,k2,z.symm⟩);refine⟨b,vs,w,rfl,rfl,(s3.ok i _ QY).2.2,by rw[<-k3.length];exact hz,?_⟩;refine k σ _ F3 _ (YV.trans (ZI.trans ZU)) (s3.change (sv':=.oN ks (xss.set p (xs++[d]))) (o':=.lst (vs++[w])) (ns':=(a,.dK kvs WJ)::ns') ho hx QY (.oN ek j1) (λq hq=>?_) ?_)
     .rcases ba.mp hq with z|z
      .exact .inr ⟨by rw[z];exact NN,by rw[z];exact YZ⟩
      .rcases j3 q z with z|⟨z,z2⟩
       .exact .inl z
       .exact .inr ⟨by rw[TY];exact ad _ z,z2⟩
     .show(a::B9 ns').Nodup;rw[j2];exact cq.mpr ⟨q1,q2⟩
    .cases e
   .cases e
  .cases e
 .cases e
end
section
variable{K:aj}
@[simp]def HC(fe:FE):FS:=λδ=>(fe δ).bind λp=>(frz p.1 p.2).bind λq=>some (.rt (.fz q.1))
theorem qA{Z:cU K}(h:Zx Z (HC fe) E σ H):QN (Zf Z fe) E σ H:=by refine Ww h λF δ own fl s e k=>?_;refine cT e λrv δ1 e1 e2=>?_;refine cT e2 λd δ2 e3 e4=>?_;cases e4;refine⟨F,δ,own,rv,δ1,s,e1,λv H1 F1 own1 sH sF s1 r1=>?_⟩;refine Zr (s1.settleR r1) λF2 ZI s2 r2=>?_;refine Yd (s2.frzR r2 e3) λF3 ZP ZU s3 r3=>?_;exact k v H1 F3 [] (sF.trans (ZI.trans ZU)) s3.le s3.fro s3.old (.fz r3) cx λ_ h=>(nomatch h)
section
variable{X:Cx}{Z:cU X.K}{a b c:ca}{fa fb fc:FE}{pos:Pos}
theorem r_(h:PE X a (Zf Z fa)):PS X (.Return (aA a) pos) (Zx Z (HC fa)):=(S5 h).imp λ_ _ _ h=>qA h
theorem nW:PE X (.Dict [] [] pos) (Zf Z GC):=Kf.imp λ_ _ _ h=>nX h
theorem rz(i j){y:Str}{px py p1 p2}(hu:X.A.units+1<cLine)(hN:‹X.N[i]? =aA x›)(hv:Hh X.env.scope x:=by first|exact Or.inl rfl|exact fu (Or.inl rfl)|exact fu (fu rfl))(hd:‹(x==("__debug__":Str))=aD›)(YC:‹(x==("__classdict__":Str))=aD›)(J_:‹X.N[j]? =aA y›)(YA:Hh X.env.scope y:=by first|exact Or.inl rfl|exact fu (Or.inl rfl)|exact fu (fu rfl))(UW:‹(y==("__debug__":Str))=aD›)(RF:‹(y==("__classdict__":Str))=aD›)(hs:‹swapsWith (.List [] p2) (aA (.Subscript (.Name x px) (.Name y py) p1)) pos.line X.env=pure aD›):
  PS X (.Assign [.Subscript (.Name x px) (.Name y py) p1] (.List [] p2) pos) (Zx Z (M' i j)):=(xp hu (Om (i:=i) hN hv hd YC) (Om (i:=j) J_ YA UW RF) (Qi Yz) hs).imp λ_ _ _ h=>qD h
theorem rq(i j){y:Str}{px py p1 ZC ZA}(hu:X.A.units+1<cLine)(hb:PE X b (Zf Z fb))(hN:‹X.N[i]? =aA x›)(hv:Hh X.env.scope x:=by first|exact Or.inl rfl|exact fu (Or.inl rfl)|exact fu (fu rfl))(hd:‹(x==("__debug__":Str))=aD›)(YC:‹(x==("__classdict__":Str))=aD›)(J_:‹X.N[j]? =aA y›)(YA:Hh X.env.scope y:=by first|exact Or.inl rfl|exact fu (Or.inl rfl)|exact fu (fu rfl))(UW:‹(y==("__debug__":Str))=aD›)(RF:‹(y==("__classdict__":Str))=aD›)(ZF:‹eg (.Subscript (.Name x px) (.Name y py) p1) "append" X.env (dj (.Subscript (.Name x px) (.Name y py) p1) X.env)=dj (.Subscript (.Name x px) (.Name y py) p1) X.env›)(ZQ:‹((c9 ZA (au [b] X.env)).all (λx=>!x.1)&&(backToKw ZA (f9 [] X.env)).all (λx=>x.1.isSome)&&decide ([b].length+([]:List f7).length+(if([]:List f7).isEmpty then 0 else 1)<30))=aC›)(ZE:‹(ZC.endLine==ZA.line)=aC›)(hs:‹au [b] X.env=(aD,dj b X.env)::au [] X.env›)(ZH:‹(c9 ZA (au [] X.env)).any (·.1)=aD›)(Y':‹swapsWith (.Call (.Attribute (.Subscript (.Name x px) (.Name y py) p1) "append" ZC) [b] [] ZA) aB pos.line X.env=pure aD›)(uQ:‹HH (.Name y py)›):
  PS X (.Expr (.Call (.Attribute (.Subscript (.Name x px) (.Name y py) p1) "append" ZC) [b] [] ZA) pos) (Zx Z (M_ i j fb)):=
 (Ot (Cp PySem.F.plainAttrs_list PySem.F.slot_list_append PySem.F.type_list_append O3 (xq hu (Om (i:=i) hN hv hd YC) (Om (i:=j) J_ YA UW RF) uQ) (Wn hb Ql hs) ZF ZQ ZE hs ZH) Y').imp λ_ _ _ h=>qB h
end
end
def AA:R2:=λx y H Q=>∃a k,x= .str a/\y= .int k/\MulOk a k/\Q (.str (Txt.mul a k)) H
theorem nV:B5 X (binaryOp .Mult) AA:=by intro cO s σ H x y v u Q I rx ry h;obtain⟨a,k,rfl,rfl,hm,q⟩:=h;obtain⟨t,rfl⟩:=rx;obtain⟨t',rfl⟩:=ry;exact SB.mul hm λt' k=>⟨.str _,H,I.tok _,⟨_,rfl⟩,q⟩
section
variable{K:aj}
@[simp]noncomputable def D.fv:D->V
 | .bl b=>.bl b
 | .int i=>.int i
 | .str x=>.str x
 |_=>.non
theorem MZ(r:Wb K F H d x)(h:d.isFlat=aC):x=d.fv/\Wx x=aC:=by
 cases d with
 |non=>rw[r.non];exact⟨rfl,rfl⟩
 |bl b=>rw[r.bl];exact⟨rfl,rfl⟩
 |int i=>rw[r.int];exact⟨rfl,rfl⟩
 |str y=>rw[r.str];exact⟨rfl,rfl⟩
 |_=>cases h
theorem V5:∀{ds:List D} {vs:List V},cQ K F ds vs->ds.all D.isFlat=aC->vs=ds.map D.fv/\vs.all Wx=aC
 |_,_,.nil,_=>⟨rfl,rfl⟩
 |_,_,.cons h t,e=>by rw[List.all_cons,dn]at e;obtain⟨a1,a2⟩:=MZ (H:=F) (Wb.of h) e.1;obtain⟨b1,b2⟩:=V5 t e.2;refine⟨by rw[bn,<-a1,<-b1],by rw[List.all_cons,a2,b2];rfl⟩
def V6(y x:D):Bool:=Hm y.fv x.fv
@[simp]theorem K7(a b):V6 (.str a) (.str b)=decide (a=b):=by
 show(a==b)=decide (a=b);by_cases h:a=b
 .subst h;simp
 .rw[bK h];exact beq_eq_false_iff_ne.mpr h
@[simp]theorem cN:V6 .non .non=true:=rfl
@[simp]theorem cK(a):V6 (.str a) .non=false:=rfl
def Nq(x:D)(xs:List D):Bool:=xs.any λy=>V6 y x
theorem xV:inV d.fv (ds.map D.fv)=Nq d ds:=by unfold inV Nq;rw[List.any_map];rfl
noncomputable def D.seq?:D->Option (List D)
 | .lst xs=>aA xs
 | .tup xs=>aA xs
 |_=>aB
@[simp]theorem cJ(xs):D.seq? (.lst xs)=some xs:=rfl
@[simp]theorem cI(xs):D.seq? (.tup xs)=some xs:=rfl
@[simp]theorem cH(x):D.seq? (.str x)=none:=rfl
@[simp]theorem cD(ks vs):D.seq? (.dK ks vs)=none:=rfl
@[simp]theorem cC(ks vs):D.seq? (.dT ks vs)=none:=rfl
@[simp]def inZ(d1 d2:D):Option SV:=match d2.seq? with
 |some xs=>if d1.isFlat=aC/\xs.all D.isFlat=aC then aA (.fz (.bl (Nq d1 xs)))else aB
 |none=>inY d1 d2
@[simp]def Rv(d1 d2:D):Option SV:=match d2.seq? with
 |some xs=>if d1.isFlat=aC/\xs.all D.isFlat=aC then aA (.fz (.bl (!Nq d1 xs)))else aB
 |none=>FR d1 d2
section
variable{Z:cU K}{H:Hp}{σ:L2.St}{Q:VK}
theorem yD(le:Zo F H)(r:Wb K F H d x)(h:d.seq? =aA xs):∃a vs,x= .ref a/\(On K H a vs\/Er K H a vs)/\cQ K F xs vs:=by
 cases d with
 |lst ys=>cases h;refine Yd (r.lst le) λa vs e q rr=>?_;exact⟨a,vs,e,.inl q,rr⟩
 |tup ys=>cases h;refine Yd (r.tup le) λa vs e q rr=>?_;exact⟨a,vs,e,.inr q,rr⟩
 |_=>cases h
theorem B':Wj Z (λx y H Q=>(((∃i j,x= .str i/\y= .str j/\Q (.bl (!(bv j i 0 j.length 1).isEmpty)) H)\/OP x y H Q)\/E1 aD x y H Q)\/rIn K aD x y H Q) inZ:=by
 intro F H σ δ own x y d1 d2 sv Q s r1 r2 e k;unfold inZ at e;split at e
 .rename_i xs hx;split at e
  .rename_i hf;cases e;obtain⟨a,vs,rfl,hq,rr⟩:=yD s.le r2 hx;obtain⟨e1,f1⟩:=MZ r1 hf.1;obtain⟨e2,f2⟩:=V5 rr hf.2;refine .inr ⟨a,vs,rfl,hq,f1,f2,?_⟩;rw[e1,e2,xV];exact k.fz s (.bl _)
  .cases e
 .exact .inl (fT F H σ δ own x y d1 d2 sv Q s r1 r2 e k)
theorem Dt:Wj Z (λx y H Q=>(((∃i j,x= .str i/\y= .str j/\Q (.bl (!(!(bv j i 0 j.length 1).isEmpty))) H)\/Ap x y H Q)\/E1 aC x y H Q)\/rIn K aC x y H Q) Rv:=by
 intro F H σ δ own x y d1 d2 sv Q s r1 r2 e k;unfold Rv at e;split at e
 .rename_i xs hx;split at e
  .rename_i hf;cases e;obtain⟨a,vs,rfl,hq,rr⟩:=yD s.le r2 hx;obtain⟨e1,f1⟩:=MZ r1 hf.1;obtain⟨e2,f2⟩:=V5 rr hf.2;refine .inr ⟨a,vs,rfl,hq,f1,f2,?_⟩;rw[e1,e2,xV];exact k.fz s (.bl _)
  .cases e
 .exact .inl (lV F H σ δ own x y d1 d2 sv Q s r1 r2 e k)
open Classical in
noncomputable def MN(a:Str)(k:Int):Option SV:=if MulOk a k then aA (.fz (.str (Txt.mul a k)))else aB
theorem nU(h:MN a k=aA sv):MulOk a k/\sv= .fz (.str (Txt.mul a k)):=by
 unfold MN at h;split at h
 .rename_i hm;cases h;exact⟨hm,rfl⟩
 .cases h
def MY(i j:Int):Prop:=OQ i j=aC
open Classical in
noncomputable def Du(i j:Int):Option SV:=if MY i j then aA (.fz (.int (i*j)))else aB
theorem nR(h:Du i j=aA sv):CJ (.int i) (.int j)=aA sv:=by
 unfold Du at h;split at h
 .rename_i hc;cases h;unfold MY at hc;simp[hc]
 .cases h
theorem FQ(h:-(2^64)<j/\j<2^64):Du i j=aA (.fz (.int (i*j))):=by unfold Du;rw[bJ];unfold MY OQ;rw[bL h.1,bL h.2];simp
theorem V7(h:-(2^64)<i/\i<2^64):Du i j=aA (.fz (.int (i*j))):=by unfold Du;rw[bJ];unfold MY OQ;rw[bL h.1,bL h.2];simp
def Au:D->D->Option SV
 | .str a,.int k=>MN a k
 | .int i,.int j=>Du i j
 |_,_=>aB
@[simp]theorem cG(a k):Au (.str a) (.int k)=MN a k:=rfl
@[simp]theorem cF(i j):Au (.int i) (.int j)=Du i j:=rfl
theorem ro:Wj Z (λx y H Q=>rI OT (λi j=>V.int (i*j)) x y H Q\/AA x y H Q) Au:=by
 intro F H σ δ own x y d1 d2 sv Q s r1 r2 e k;unfold Au at e;split at e
 .obtain⟨hm,rfl⟩:=nU e;exact .inr ⟨_,_,r1.str,r2.int,hm,k.fz s (.str _)⟩
 .exact .inl (tL F H σ δ own x y _ _ sv Q s r1 r2 (nR e) k)
 .cases e
@[simp]noncomputable def QO:List D->Option SV
 | [.int i]=>if i.natAbs.log2<1920 then aA (.fz (.str (toString i)))else aB
 |_=>aB
theorem rl:Bu Z (λxs H Q=>∃i,xs=[.int i]/\i.natAbs.log2<1920/\Q (.str (toString i)) H) QO:=by
 intro F H σ δ own vs ds sv Q s r e k;unfold QO at e;split at e
 .split at e
  .rename_i hm;cases e;cases r with
   |cons h1 t=>cases t;exact⟨_,by rw[h1.int],hm,k.fz s (.str _)⟩
  .cases e
 .cases e
@[simp]noncomputable def SV.ol?:RV->Option (List D)
 | .tmp (.ol ys)=>aA ys
 |_=>aB
@[simp]def OO(i:Nat)(fe:FE):FS:=λδ=>match δ[i]? with
 |some (aA (.ol _))=>(fe δ).bind λp=>(SV.ol? p.1).bind λys=>match p.2[i]? with
  |some (aA (.ol xs))=>if xs.length+ys.length<=bu then aA (.nx (p.2.set i (aA (.ol (xs++ys)))))else aB
  |_=>aB
 |_=>aB
theorem ol?_ok(h:SV.ol? rv=aA ys):rv= .tmp (.ol ys):=by
 unfold SV.ol? at h;split at h
 .cases h;rfl
 .cases h
theorem fR(h:Zx Z (OO i fe) E σ H):M7 (tBM K "list" xr (Ol i) (O6 (Zf Z fe) Rh)) E σ H:=by
 refine Ww h λF δ own fl s e k=>?_;unfold OO at e;split at e
 .rename_i xs0 UJ;refine cT e λrv δ1 e1 e2=>?_;refine cR e2 λys e3 e4=>?_;obtain⟨v,hv,sh⟩:=s.at' i _ UJ;refine Yd (Qr sh) λa XX ev en r0=>?_;refine⟨v,hv,?_,F,δ,own,rv,δ1,s,e1,λy H1 F1 own1 sH sF s1 r1=>?_⟩
  .subst ev;exact .inl ⟨rfl,XX,.inl (.inl (s.ok i (a,.lst XX) (by rw[en];exact aa)).2.2)⟩
  have e5:=ol?_ok e3;dsimp only at e5 e4;subst e5;obtain⟨ns,t⟩:=r1;refine Yd (Qr t.sh) λc us ec uv ru=>?_;have hc:H1 c=aA (.lst us):=(t.ok (c,.lst us) (by rw[uv];exact aa)).2.2;split at e4
  .rename_i xs hx;split at e4
   .rename_i hz;cases e4;obtain⟨v',YA,XT⟩:=s1.at' i _ hx;rw[hv]at YA;cases YA;refine Yd (Qr XT) λb vs eb VM r'=>?_;have mb:(b,HO.lst vs)∈own1 i:=by rw[VM];exact aa
    subst eb;refine⟨b,c,vs,us,rfl,by rw[ec],(s1.ok i _ mb).2.2,hc,by rw[<-r'.length,<-ru.length];exact hz,?_⟩;exact k σ _ F1 _ sF (s1.change (sv':=.ol (xs++ys)) (o':=.lst (vs++us)) (ns':=[(b,.lst (vs++us))]) hx hv mb (.ol (r'.append ru)) (λp hp=>.inl (af.mp hp)) Fk)
   .cases e4
  .cases e4
 .cases e
end
section
variable{X:Cx}{Z:cU X.K}{a b c:ca}{fa fb fc:FE}{pos:Pos}
theorem fQ(hu:X.A.units+1<cLine)(ha:PE X a (Zf Z fa))(hb:PE X b (Zf Z fb))(hm:‹behindInMarks .In b=aD›):PE X (.Compare a [.In] [b] pos) (Zf Z (Zg inZ fa fb)):=LL (((N3.or (Ku hu)).or Pu).or Pa) B' ha hb hm
theorem lU(hu:X.A.units+1<cLine)(ha:PE X a (Zf Z fa))(hb:PE X b (Zf Z fb))(hm:‹behindInMarks .NotIn b=aD›):PE X (.Compare a [.NotIn] [b] pos) (Zf Z (Zg Rv fa fb)):=LL (((Ag.or (Tb hu)).or Aq).or Af) Dt ha hb hm
theorem Av(hu:X.A.units+1<cLine)(ha:PE X a (Zf Z fa))(hb:PE X b (Zf Z fb))(hm:‹behindInMarks .In b=aD›):PT X (.Compare a [.In] [b] pos) (Wc Z (Zq (Zg inZ fa fb))):=An (((N3.or (Ku hu)).or Pu).or Pa) B' ha hb hm
theorem Dv(hu:X.A.units+1<cLine)(ha:PE X a (Zf Z fa))(hb:PE X b (Zf Z fb))(hm:‹behindInMarks .NotIn b=aD›):PT X (.Compare a [.NotIn] [b] pos) (Wc Z (Zq (Zg Rv fa fb))):=An (((Ag.or (Tb hu)).or Aq).or Af) Dt ha hb hm
theorem Gm(ha:PE X a (Zf Z fa))(hb:PE X b (Zf Z fb)):PE X (.BinOp a .Mult b pos) (Zf Z (Zg Au fa fb)):=Df (qo.or nV) ro ha hb
theorem rj{p}(hm:X.mg "str"=aB)(ha:PE X a (Zf Z fa))(hg:‹Gl X "str"›)(he:‹au [a] X.env=(aD,dj a X.env)::au [] X.env›)(ZH:‹(c9 pos (au [] X.env)).any (·.1)=aD›):PE X (.Call (.Name "str" p) [a] [] pos) (Zf Z (Yy QO (Zd fa Zi))):=
 Mk S6 rl hm boot_str (Zh ha Zy he) hg (by decide) (by decide) he ZH
theorem B_(i){px ZC ZA}(hb:PE X b (Zf Z fb))(hN:‹X.N[i]? =aA x›)(hv:Hh X.env.scope x:=by first|exact Or.inl rfl|exact fu (Or.inl rfl)|exact fu (fu rfl))(hd:‹(x==("__debug__":Str))=aD›)(YC:‹(x==("__classdict__":Str))=aD›)(ZF:‹eg (.Name x px) "extend" X.env (dj (.Name x px) X.env)=dj (.Name x px) X.env›)(ZQ:‹((c9 ZA (au [b] X.env)).all (λx=>!x.1)&&(backToKw ZA (f9 [] X.env)).all (λx=>x.1.isSome)&&decide ([b].length+([]:List f7).length+(if([]:List f7).isEmpty then 0 else 1)<30))=aC›)(ZE:‹(ZC.endLine==ZA.line)=aC›)(hs:‹au [b] X.env=(aD,dj b X.env)::au [] X.env›)(ZH:‹(c9 ZA (au [] X.env)).any (·.1)=aD›)(Y':‹swapsWith (.Call (.Attribute (.Name x px) "extend" ZC) [b] [] ZA) aB pos.line X.env=pure aD›):
  PS X (.Expr (.Call (.Attribute (.Name x px) "extend" ZC) [b] [] ZA) pos) (Zx Z (OO i fb)):=
 (Ot (Cp PySem.F.plainAttrs_list PySem.F.slot_list_extend PySem.F.type_list_extend jp (Om (i:=i) hN hv hd YC) (Wn hb Ql hs) ZF ZQ ZE hs ZH) Y').imp λ_ _ _ h=>fR h
end
end
section
variable{K:aj}
inductive RX where
 |v (rv:RV) (δ:Wa)|x (e:Exn) (δ:Wa)
inductive RL(α:Type)where
 |v (xs:List α) (δ:Wa)|x (e:Exn) (δ:Wa)
abbrev FX:=Wa->Option RX
abbrev FAX:=Wa->Option (RL RV)
def XOk(Z:cU K)(F:Hp)(σ:St)(e:Exn)(δ:Wa):Prop:=∀H' F' own' cls od,Zo F F'->SR Z F' H' σ δ own'->EF K F' e cls od->Z.x cls od σ H'
theorem XOk.mono{Z:cU K}(s:Zo F F')(h:XOk Z F σ e δ):XOk Z F' σ e δ:=λH2 F2 own cls od a=>h H2 F2 own cls od (s.trans a)
def Oe(Z:cU K)(f:FX):TE:=λσ H Q=>∃F δ own r,SR Z F H σ δ own/\f δ=aA r/\match r with
 | .v rv δ'=>∀v H' F' own',Zo H H'->Zo F F'->SR Z F' H' σ δ' own'->Hv Z F' H' σ own' rv v->Q v H'
 | .x e δ'=>XOk Z F σ e δ'
def Gn(Z:cU K)(f:FAX):TA:=λσ H Q=>∃F δ own r,SR Z F H σ δ own/\f δ=aA r/\match r with
 | .v rvs δ'=>∀vs H' F' own',Zo H H'->Zo F F'->SR Z F' H' σ δ' own'->RVSs K F' σ rvs vs->Q vs H'
 | .x e δ'=>XOk Z F σ e δ'
@[simp]noncomputable def FX.val(f:FX):FE:=λδ=>match f δ with
 |some (.v rv δ')=>aA (rv,δ')
 |_=>aB
section
variable{Z:cU K}
theorem Dw(h:Zf Z f.val σ H Q):Oe Z f σ H Q:=by
 refine Yx h λF δ own rv δ' s e k=>?_;unfold FX.val at e;split at e
 .rename_i rv' δ2 hf;cases e;exact⟨F,δ,own,_,s,hf,k⟩
 .cases e
theorem Dx(s:SR Z F H σ δ own)(hf:f δ=aA (.x x δ'))(k:XOk Z F σ x δ'):Oe Z f σ H Q:=⟨F,δ,own,_,s,hf,k⟩
@[simp]noncomputable def MW(fe:FE):FX:=λδ=>(fe δ).bind λp=>some (.v p.1 p.2)
theorem nQ(h:Oe Z (MW fe) σ H Q):Zf Z fe σ H Q:=by refine Ww h λF δ own r s e k=>?_;refine cT e λrv δ' e1 e2=>?_;cases e2;exact⟨F,δ,own,rv,δ',s,e1,k⟩
@[simp]noncomputable def Fn:FAX:=λδ=>some (.v [] δ)
@[simp]noncomputable def Aw(fx:FX)(fa:FAX):FAX:=λδ=>(fx δ).bind fun
 | .v rv δ1=>(fa δ1).bind fun
  | .v rvs δ2=>aA (.v (rv::rvs) δ2)
  | .x e δ2=>aA (.x e δ2)
 | .x e δ1=>aA (.x e δ1)
theorem j0(h:Gn Z Fn σ H R):Rh σ H R:=by refine Ww h λF δ own r s e k=>?_;cases e;exact k [] H F own (Zo.refl H) (Zo.refl F) s .nil
theorem iQ(h:Gn Z (Aw fx fa) σ H R):O6 (Oe Z fx) (Gn Z fa) σ H R:=by
 refine Ww h λF δ own r s e k=>?_;refine cR e λr1 e1 e2=>?_;cases r1 with
 |x x1 δ1=>cases e2;exact⟨F,δ,own,_,s,e1,k⟩
 |v rv δ1=>
  refine cR e2 λr2 e3 e4=>?_;refine⟨F,δ,own,_,s,e1,λv H1 F1 own1 sH sF s1 r1=>?_⟩;refine Zr (s1.settleR r1) λF2 ZI s2 rr=>?_;cases r2 with
  |x x2 δ2=>cases e4;exact⟨F2,δ1,own1,_,s2,e3,XOk.mono (sF.trans ZI) k⟩
  |v rvs δ2=>cases e4;exact⟨F2,δ1,own1,_,s2,e3,λvs H3 F3 ZP YO ZU s3 r3=>k _ H3 F3 ZP (sH.trans YO) (sF.trans (ZI.trans ZU)) s3 (.cons (rr.mono ZU) r3)⟩
end
inductive XO where
 |v (sv:SV)|x (e:Exn)
def spX(K:aj)(n:Nat)(g:List D->Option XO):Sp:=λvs H Q E=>∃F ds o,Zo F H/\cQ K F ds vs/\ds.length=n/\g ds=aA o/\match o with
 | .v sv=>∀v H' F' ns,Zo H H'->Zo F F'->Zo F' H'->(∀(b:av) (o:HO),F' b=aA o->F b=aA o\/H b=aB)->cV K F' sv v ns->(B9 ns).Nodup->(∀p∈ns,F' p.1=aB/\H p.1=aB/\H' p.1=aA p.2)->Q v H'
 | .x e=>∀cls od H' F',Zo H H'->Zo F F'->Zo F' H'->(∀(b:av) (o:HO),F' b=aA o->F b=aA o\/H b=aB)->EF K F' e cls od->E cls od H'
theorem nP(h:spX K n g vs H Q E):vs.length=n:=by obtain⟨F,ds,o,le,r,hn,e,k⟩:=h;rw[<-r.length];exact hn
@[simp]noncomputable def ON(f:FS)(n:Nat)(ds:List D):Option XO:=match f (Ca n ds)with
 |some (.rt sv)=>aA (.v sv)
 |some (.nx _)=>aA (.v (.fz .non))
 |some (.ex e _)=>aA (.x e)
 |_=>aB
noncomputable abbrev entX(H F:Hp)(E:XK):cU K:=⟨H,F,λcls od _ H'=>E cls od H'⟩
theorem SR.ent{Z Y:cU K}(s:SR Z F H σ δ own)(h1:‹Z.h=Y.h›)(h2:‹Z.f=Y.f›):SR Y F H σ δ own:=
 ⟨s.le,h1▸h2▸s.fro,h1▸s.old,s.len,s.at',s.nod,λi p hp=>h1▸s.ok i p hp,s.sep⟩
theorem jz(h:spX K n (ON f N.length) vs H Q E):∃F,Zx (entX H F E:cU K) f {nx:=λ_ H'=>Q .non H',rt:=Q} (L2.start N vs) H:=by
 obtain⟨F,ds,o,le,r,hn,e,k⟩:=h;have s0:SR (entX H F E:cU K) F H (L2.start N vs) (Ca N.length ds) λ_=>[]:=(Al (N:=N) le r).ent;unfold ON at e;split at e
 .rename_i sw hf;cases e;exact⟨F,F,_,_,.rt sw,s0,hf,λv H' F' ns a b c d e' nd ok=>k v H' F' ns d a b c e' nd ok⟩
 .rename_i δ hf;cases e;exact⟨F,F,_,_,.nx δ,s0,hf,λZB H' F' own' a s'=>k .non H' F' [] s'.old a s'.le s'.fro (.fz .non) cx λ_ h=>(nomatch h)⟩
 .rename_i x δ hf;cases e;exact⟨F,F,_,_,.ex x δ,s0,hf,λZB H' F' own' cls od a s' r'=>k cls od H' F' s'.old a s'.le s'.fro r'⟩
 .cases e
section
variable{Z:cU K}
theorem SR.behind(s2:SR Z F2 H1 σ δ2 own2)(YO:Zo H1 H3)(ZU:Zo F2 F3)(UQ:Zo F3 H3)(YX:∀b o,F3 b=aA o->F2 b=aA o\/H1 b=aB):SR Z F3 H3 σ δ2 own2:=by
 refine⟨UQ,λb o e=>?_,s2.old.trans YO,s2.len,λi sw ei=>?_,s2.nod,λi p hp=>?_,s2.sep⟩
 .rcases YX b o e with z|z
  .exact s2.fro b o z
  .exact .inr (s2.old.free z)
 .obtain⟨w,h1,h2⟩:=s2.at' i sw ei;exact⟨w,h1,h2.mono ZU⟩
 .obtain⟨a,b,c⟩:=s2.ok i p hp;refine⟨?_,b,YO _ _ c⟩;cases z:F3 p.1 with
  |none=>rfl
  |some u=>
   rcases YX _ u z with y|y
   .rw[a]at y;cases y
   .rw[c]at y;cases y
@[simp]def Dy(n:Nat)(g:List D->Option XO)(fa:FAX):FX:=λδ=>(fa δ).bind fun
 | .x e δ1=>aA (.x e δ1)
 | .v rvs δ1=>(L2.frzAll rvs δ1).bind λq=>if q.1.length=n then(g q.1).bind (fun
  | .v sv=>aA (.v (.tmp sv) (if sv.scal then δ1 else q.2))
  | .x e=>aA (.x e q.2))else aB
theorem oj(h:Oe Z (Dy n g fa) σ H Q):yR (spX K n g) Z.x (Gn Z fa) σ H Q:=by
 refine Ww h λF δ own rx s e k=>?_;refine cR e λr1 e1 e2=>?_;cases r1 with
 |x x1 δ1=>cases e2;exact⟨F,δ,own,_,s,e1,k⟩
 |v rvs δ1=>
  refine cT e2 λds δ2 e3 e4=>?_;refine⟨F,δ,own,_,s,e1,λvs H1 F1 own1 sH sF s1 r1=>?_⟩;refine Yd (s1.frzAll (own:=own) (F:=F) (δ:=δ) r1 e3) λF2 own2 ZI s2 r2=>?_;by_cases hn:ds.length=n
  .rw[bJ hn]at e4;refine cR e4 λo e5 e6=>?_;refine⟨F2,ds,o,s2.le,r2,hn,e5,?_⟩;cases o with
   |x x2=>cases e6;exact λcls od H3 F3 YO ZU UQ YX rr=>k H3 F3 own2 cls od (sF.trans (ZI.trans ZU)) (s2.behind YO ZU UQ YX) rr
   |v sv=>
    cases e6;intro v H3 F3 ns YO ZU UQ YX sh nd ok;by_cases hs:sv.scal=aC
    .rw[bJ hs]at k;obtain⟨_,XT⟩:=Hx (F':=F1) hs sh;exact k v H3 F1 own1 (sH.trans YO) sF (s1.grow YO) ⟨[],XT,cx,λ_ h=>(nomatch h),λ_ _ _ h=>(nomatch h)⟩
    .rw[bI hs]at k;exact k v H3 F3 own2 (sH.trans YO) (sF.trans (ZI.trans ZU)) (s2.behind YO ZU UQ YX) ⟨ns,sh,nd,λp hp=>⟨(ok p hp).1,(s2.old).free (ok p hp).2.1,(ok p hp).2.2⟩,λi p q hp hq e=>by
      have z:=(s2.ok i q hq).2.2;rw[<-e,(ok p hp).2.1]at z;cases z⟩
  .rw[bI hn]at e4;cases e4
@[simp]def HA(i:Nat)(fx:FX):FS:=λδ=>(fx δ).bind fun
 | .v rv δ1=>(stow i rv δ1).bind λδ'=>aA (.nx δ')
 | .x e δ1=>aA (.ex e δ1)
theorem XOk.of(k:Tq Z F E (.ex x δ)):XOk Z F σ x δ:=λH' F' own' cls od a b c=>k σ H' F' own' cls od a b c
theorem ri(h:Zx Z (HA i fx) E σ H):OU (Oe Z fx) (Il i) E σ H:=by
 refine Ww h λF δ own fl s e k=>?_;refine cR e λr e1 e2=>?_;cases r with
 |x x1 δ1=>cases e2;exact Dx s e1 (.of k)
 |v rv δ1=>exact Dw (GJ (Z:=Z) (E:=E) (i:=i) (fe:=fx.val) ⟨F,δ,own,fl,s,by unfold Ye FX.val;rw[e1];exact e2,k⟩)
@[simp]noncomputable def I_(fx:FX):FS:=λδ=>(fx δ).bind fun
 | .v rv δ1=>(MQ rv δ1).bind λsv=>aA (.rt sv)
 | .x e δ1=>aA (.ex e δ1)
theorem rg(h:Zx Z (I_ fx) E σ H):QN (Oe Z fx) E σ H:=by
 refine Ww h λF δ own fl s e k=>?_;refine cR e λr e1 e2=>?_;cases r with
 |x x1 δ1=>cases e2;exact Dx s e1 (.of k)
 |v rv δ1=>exact Dw (AN (Z:=Z) (E:=E) (fe:=fx.val) ⟨F,δ,own,fl,s,by unfold Yv FX.val;rw[e1];exact e2,k⟩)
@[simp]noncomputable def E2(c:Str):FS:=λδ=>some (.ex ⟨c,[],[]⟩ δ)
theorem oi(cl:Br K c C)(hx:∀cls od σ H',Z.x cls od σ H'->Z.x cls od [] H')(h:Zx Z (E2 c) E σ H):yS (λcls od H'=>Z.x cls od [] H') C (O6 (tC (.str x)) Rh) E σ H:=by refine Ww h λF δ own fl s e k=>?_;cases e;exact⟨by show 1<=bu;decide,hx _ _ _ _ (k σ H F own (.ref C) aB (Zo.refl F) s ⟨C,cl,rfl,rfl,rfl⟩)⟩
set_option genInjectivity false in
structure HX where
 x:Str
 np:Pos
 nm:Option (Str×Nat)
 b0:Stmt
 suite:List Stmt
 pos:Pos
 B:av
 yes:List Str
 no:List Str
 f:FS
set_option genInjectivity false in
structure HX.Sub(K:aj)(h:HX):Prop where
 yes:∀c∈h.yes,∀C,Br K c C->PySem.W.mroIn K C (.ref h.B)=aA aC
 no:∀c∈h.no,∀C,Br K c C->PySem.W.mroIn K C (.ref h.B)=aA aD
noncomputable def HX.hd(Z:cU K)(h:HX):Hd:=⟨h.x,h.np,h.nm,h.b0,h.suite,h.pos,h.B,Zx Z h.f⟩
set_option genInjectivity false in
structure HF where
 i:Option Nat
 yes:List Str
 no:List Str
 f:FS
@[simp]noncomputable def HX.hf(h:HX):HF:=⟨h.nm.map (·.2),h.yes,h.no,h.f⟩
@[simp]noncomputable def MV(c:Str):List HF->Option HF
 | []=>aB
 |h::r=>if c∈h.yes then aA h else if c∈h.no then MV c r else aB
theorem Py(Z:cU K)(cl:Br K c C):∀(hs:List HX) {f:HF},(∀h∈hs,h.Sub K)->MV c (hs.map HX.hf)=aA f->∃h:HX,h.hf=f/\Ph K C (hs.map (HX.hd Z))=aA (h.hd Z)
 | [],f,_,e=>nomatch e
 |h::r,f,ok,e=>by
  have e:(if c∈h.yes then aA h.hf else if c∈h.no then MV c (r.map HX.hf)else aB)=aA f:=e;show∃g:HX,g.hf=f/\(match PySem.W.mroIn K C (.ref h.B)with|some aC=>aA (h.hd Z)|some aD=>Ph K C (r.map (HX.hd Z))|none=>aB)=aA (g.hd Z);have kh:=ok h aa;by_cases q:c∈h.yes
  .rw[bJ q]at e;cases e;exact⟨h,rfl,by rw[kh.yes c q C cl]⟩
  .rw[bI q]at e;by_cases q2:c∈h.no
   .rw[bJ q2]at e;obtain⟨g,g1,g2⟩:=Py Z cl r (λg hg=>ok g (ad _ hg)) e;exact⟨g,g1,by rw[kh.no c q2 C cl];exact g2⟩
   .rw[bI q2]at e;cases e
@[simp]noncomputable def Fl.but(i:Nat):Fl->Fl
 | .nx δ=>.nx (δ.set i aB)
 | .bk δ=>.bk (δ.set i aB)
 | .ct δ=>.ct (δ.set i aB)
 | .ex e δ=>.ex e (δ.set i aB)
 | .rt sv=>.rt sv
@[simp]noncomputable def Fl.isEx:Fl->Bool
 | .ex _ _=>aC
 |_=>aD
@[simp]def HF.run(h:HF)(x:Exn)(δ:Wa):Option Fl:=match h.i with
 |none=>h.f δ
 |some i=>if i<δ.length then(h.f (δ.set i (aA (.fz (.exc x.c x.ks x.vs))))).bind λfl=>if fl.isEx=aC then aB else aA (fl.but i)else aB
@[simp]def MC(fb:FS)(hs:List HF):FS:=λδ=>(fb δ).bind fun
 | .ex x δ1=>(MV x.c hs).bind λh=>h.run x δ1
 |fl=>aA fl
noncomputable abbrev cU.wish(Z:cU K)(EX:Km):cU K:=⟨Z.h,Z.f,EX⟩
theorem SR.unset(s:SR Z F H σ δ own)(i):SR Z F H (σ.set i aB) (δ.set i aB) (put own i []):=by
 refine⟨s.le,s.fro,s.old,by rw[List.length_set,List.length_set];exact s.len,λj sw ej=>?_,λj=>?_,λj p hp=>?_,λj k p q WF hp hq=>?_⟩
 .by_cases hj:j=i
  .subst hj;have hd:j<δ.length:=by have:=(bf.mp ej).1;simpa using this
   rw[d3 hd]at ej;cases ej
  .rw[du (Ne.symm hj)]at ej;rw[Yb hj,du (Ne.symm hj)];exact s.at' j sw ej
 .by_cases hj:j=i
  .subst hj;rw[Z4];exact cx
  .rw[Yb hj];exact s.nod j
 .by_cases hj:j=i
  .subst hj;rw[Z4]at hp;exact nomatch hp
  .rw[Yb hj]at hp;exact s.ok j p hp
 .by_cases hj:j=i
  .subst hj;rw[Z4]at hp;exact nomatch hp
  .by_cases hk:k=i
   .subst hk;rw[Z4]at hq;exact nomatch hq
   .rw[Yb hj]at hp;rw[Yb hk]at hq;exact s.sep j k p q WF hp hq
theorem l6(hx:fl.isEx=aD)(k:Tq Z F E (fl.but i)):Tq Z F (E.but i) fl:=by
 cases fl with
 |nx δ=>exact λZB H' F' own' a b=>k (ZB.set i aB) H' F' _ a (b.unset i)
 |bk δ=>exact λZB H' F' own' a b=>k (ZB.set i aB) H' F' _ a (b.unset i)
 |ct δ=>exact λZB H' F' own' a b=>k (ZB.set i aB) H' F' _ a (b.unset i)
 |rt sv=>exact k
 |ex x δ=>cases hx
theorem fP{hs:List HX}(hsub:∀h∈hs,h.Sub K)(h:Zx Z (MC fb (hs.map HX.hf)) E σ H):CL K (λEX=>Zx (Z.wish EX) fb) (hs.map (HX.hd Z)) E σ H:=by
 refine Ww h λF δ own fl s e k=>?_;refine cR e λf1 e1 e2=>?_;refine⟨F,δ,own,f1,s.ent,e1,?_⟩;cases f1 with
 |nx δ1=>cases e2;exact λZB H' F' own' a b=>k ZB H' F' own' a b.ent
 |bk δ1=>cases e2;exact λZB H' F' own' a b=>k ZB H' F' own' a b.ent
 |ct δ1=>cases e2;exact λZB H' F' own' a b=>k ZB H' F' own' a b.ent
 |rt sv=>cases e2;exact k
 |ex x δ1=>
  refine cR e2 λhf e3 e4=>?_;intro ZB H' F' own' cls od sF s' r;refine Zr r λC cl rc r2=>?_;obtain⟨g,g1,g2⟩:=Py Z cl hs hsub e3;subst g1;refine⟨C,g.hd Z,rc,g2,?_⟩;have s2:SR Z F' H' ZB δ1 own':=s'.ent;obtain⟨gx,e_,um,dA,eZ,ul,gB,gy,gn,gf⟩:=g;cases um with
  |none=>exact⟨F',δ1,own',fl,s2,e4,k.mono sF⟩
  |some ni=>
   obtain⟨n,i⟩:=ni;have e4:(if i<δ1.length then(gf (δ1.set i (aA (.fz (.exc x.c x.ks x.vs))))).bind λfl=>if fl.isEx=aC then aB else aA (fl.but i)else aB)=aA fl:=e4;by_cases hc:i<δ1.length
   .rw[bJ hc]at e4;refine cR e4 λIC e5 e6=>?_;have UJ:IC.isEx=aD:=by
     cases z:IC.isEx with
     |true=>rw[bJ z]at e6;cases e6
     |false=>rfl
    rw[bI (by rw[UJ];exact bi)]at e6;cases e6;intro a ha;have VJ:H' a=aB:=ha;have sm:=Jh (o:=.ext (Ro a C od)) VJ;have ZI:Zo F' (Uc F' [(a,.ext (Ro a C od))]):=Q9 λq hq=>by obtain rfl:=af.mp hq;exact s2.le.free VJ
    have s3:SR Z (Uc F' [(a,.ext (Ro a C od))]) (Wu H' a (.ext (Ro a C od))) ZB δ1 own':=by
     refine(s2.grow sm).addF Fk (λq hq=>?_) (λq hq=>?_) (λq hq=>?_) λi q u hq hu=>?_
     .obtain rfl:=af.mp hq;exact s2.le.free VJ
     .obtain rfl:=af.mp hq;exact Yp
     .obtain rfl:=af.mp hq;exact s2.old.free VJ
     .obtain rfl:=af.mp hq;intro e;have e':a=u.1:=e;have z:=(s2.ok i u hu).2.2;rw[<-e',VJ]at z;cases z
    have rp:cX K (Uc F' [(a,.ext (Ro a C od))]) (.exc x.c x.ks x.vs) (.ref a):=by
     cases od with
     |none=>obtain⟨r3,r4⟩:=r2;rw[r3,r4];exact .exc cl Yp
     |some dx=>refine Zr r2 λfs r3 r4 r5=>?_;exact .exd cl Yp (ZI _ _ r3) r4 (r5.mono ZI)
    have s4:=s3.store (i:=i) (sv:=.fz (.exc x.c x.ks x.vs)) (v:=.ref a) (ns:=[]) (.fz rp) (by rw[s3.len];exact hc);exact⟨_,_,_,IC,s4,e5,l6 UJ (k.mono (sF.trans ZI))⟩
   .rw[bI hc]at e4;cases e4
end
end
section
variable{X:Cx}{Z:cU X.K}{a b c:ca}{fa fb:FE}{fx fy:FX}{pos:Pos}
theorem yN(h:PE X a (Zf Z fa)):PE X a (Oe Z (MW fa)):=h.imp λ_ _ _ q=>nQ q
theorem yM:PA X [] (Gn Z Fn):=Ql.imp λ_ _ _ h=>j0 h
theorem xU(ha:PE X a (Oe Z fx))(hr:PA X es (Gn Z fr))(hs:‹au (a::es) X.env=(aD,dj a X.env)::au es X.env›):PA X (a::es) (Gn Z (Aw fx fr)):=(Wn ha hr hs).imp λ_ _ _ h=>iQ h
theorem qW{p}(F:FnOk X.prog X.w X.K X.mg X.base (Hc X.prog X.w) k f fd ps (spX X.K n g))(hr:cY k X.A)(hm:X.mg x=aA (.ref f))(hk:PySem.W.keepIn X.K (.ref f)=aC)(hb:M8 X.K fd ps [])(th:Ak X Z.x)(ha:PA X (a::es) (Gn Z fr))(hg:‹Gl X x›)(YM:‹(x==("__debug__":Str))=aD›)(he:‹au (a::es) X.env=(aD,dj a X.env)::au es X.env›)(ZH:‹(c9 pos (au es X.env)).any (·.1)=aD›):
  PE X (.Call (.Name x p) (a::es) [] pos) (Oe Z (Dy n g fr)):=(l_ F hr hg hm hk hb th ha YM he ZH).imp λ_ _ _ h=>oj h
theorem Fun.okX{K}{st}(F:Fun K x qual st f fd)(S:FnScope N ps (Yg st))(len:∀vs H Q E,sp vs H Q E->vs.length=ps.length)(XV:∀ZN A outer s H vs Q E,cY k (A.deeper (envOfC qual (Yg st) s.heap.objs.size f ZN))->sp vs H Q E->
   ∃t,Mh (Ri (Hc P w) P w K mg base N qual (Yg st) f ZN A outer s H E) (Jq st) t/\t {nx:=λ_ H'=>Q .non H',rt:=Q} (L2.start N vs) H):FnOk P w K mg base (Hc P w) (k+1) f fd ps sp:=by
 obtain⟨oc,od,kV,YY,pm,an,ZN,ct,TM,rfl,lk,YC⟩:=F.ex;exact AT lk YC S len λA outer s H vs Q E hr VO=>XV ZN A outer s H vs Q E hr VO
theorem qV(h:PE X a (Oe Z fx)):PS X (.Return (aA a) pos) (Zx Z (I_ fx)):=(S5 h).imp λ_ _ _ h=>rg h
theorem qU(i){pos'}(hN:X.N.Nodup)(he:PE X a (Oe Z fx))(hi:‹X.N[i]? =aA x›)(hx:Loc X.env.scope x:=by first|exact Or.inl rfl|exact fu rfl)(hs:‹swapsWith a (aA (.Name x pos')) pos.line X.env=pure aD›)(hf:‹X.fn x=aC\/X.env.scope.names.lookup x=aA .local›):
  PS X (.Assign [.Name x pos'] a pos) (Zx Z (HA i fx)):=(EI hN hi hx he hs hf).imp λ_ _ _ h=>ri h
theorem Go{K}(X:K.In h)(hb:mg x=aA (.ref C))(q:PySem.W.excIn K C bmB newId=aC):OwnCls x C bmB newId mg h:=by
 refine⟨hb,?_⟩;unfold PySem.W.excIn at q;split at q
 .rename_i dd cd sl ho;split at q
  .rename_i C2 bm s0 s1 s2 s3 id s5 hm hs;simp only[dn,beq_iff_eq,Bool.not_eq_true']at q;obtain⟨⟨⟨⟨⟨rfl,rfl⟩,RB⟩,ht⟩,hok⟩,hin⟩:=q;obtain⟨nm,bs,mro,ns,qn,hd,sn,sub,ab,col,dE⟩:=cd;dsimp only at hm RB hok hin;subst hm RB;obtain⟨l⟩:=sl;simp only at hs;subst hs;exact⟨bm,ns,nm,qn,bs,hd,sn,sub,ab,col,dd,s0,s1,s2,s3,s5,_,X _ _ ho,
    .of_isNs (PySem.W.isNs_of_in X hok),PySem.W.nsMap_none_of_in X hok hin,PySem.W.tail_of_in X ht⟩
  .cases q
 .cases q
theorem l4:∀h bm,OwnTail h VEB bm->bm.contains (.type "BaseException")=aC:=λh bm t=>t.hasType (by decide)
theorem Fo{np ZA cp}{y}{j}(th:Kl X λcls od H'=>Z.x cls od [] H')(hc:X.calm=aC)(oc:OwnCls x C VEB "ValueError.__new__" X.mg X.base)(cl:Br X.K x C)(hx:∀cls od σ H',Z.x cls od σ H'->Z.x cls od [] H':=by exact λ_ _ _ _ h=>h)(ZZ:‹X.ex=[]›)(hg:‹Gl X x›)(he:‹au [.Constant (.str y) j cp] X.env=(aD,dj (.Constant (.str y) j cp) X.env)::au [] X.env›)(ZH:‹((c9 ZA (au [.Constant (.str y) j cp] X.env)).any λx=>x.1)=aD›)(JW:∃z rest,c9 ZA (au [.Constant (.str y) j cp] X.env)=(aD,z)::rest:=by exact⟨_,_,rfl⟩)(hd:‹(x==("__debug__":Str))=aD›):
  PS X (.Raise (aA (.Call (.Name x np) [.Constant (.str y) j cp] [] ZA)) aB pos) (Zx Z (E2 x)):=
 (kA th hc ZZ oc hg (Wn S4 Ql he) he ZH JW l4 hd).imp λ_ _ _ h=>oi cl hx h
theorem fO{fb}(hb:∀pn xe EX,U4 (X.inTry pn xe) EX->Mh (X.inTry pn xe) body (Zx (Z.wish EX) fb))(ok:∀h∈h0::hs,(h.hd Z).Ok X)(hsub:∀h∈h0::hs,h.Sub X.K)(ZZ:‹X.ex=[]›)(YB:‹X.stack=X.env::X.outer›)(XB:‹X.env.frame=aA X.env.locals›):
  PS X (.Try body (((h0::hs).map (HX.hd Z)).map Hd.ast) [] [] pos) (Zx Z (MC fb ((h0::hs).map HX.hf))):=
 (qY (tb:=λEX=>Zx (Z.wish EX) fb) (h0:=h0.hd Z) (hs:=hs.map (HX.hd Z)) hb (λh hh=>by
  have uR:h∈(h0::hs).map (HX.hd Z):=hh;obtain⟨g,hg,rfl⟩:=bd.mp uR;exact ok g hg) ZZ YB XB).imp λ_ _ _ h=>fP (hs:=h0::hs) hsub h
theorem xS{α:Type}{P:α->Prop}{a}(h:P a):∀x∈[a],P x:=λx hx=>by rw[af.mp hx];exact h
theorem xR{P:av->Prop}{K}:∀c∈([]:List Str),∀C,Br K c C->P C:=λ_ h=>nomatch h
theorem lz{P:av->Prop}{K}{c}{a}(x:Br K c a)(m:P a)(t:∀c∈r,∀C,Br K c C->P C):∀d∈c::r,∀C,Br K d C->P C:=λd hd C cl=>by
 rcases ba.mp hd with e|e
 .subst e;have z:=x.symm.trans cl;cases z;exact m
 .exact t d e C cl
theorem oh{P:Str->Nat->Prop}:∀n i,(aB:Option (Str×Nat))=aA (n,i)->P n i:=λ_ _ h=>nomatch h
end
theorem cP.trackO{σ:L2.St}(I:cP X cO σ H s)(e0:X.s₀.heap.get? a=aB)(eH:H a=aB)(le:a≠X.env.locals)(ce:∀x c,X.env.cells.lookup x=aA c->c≠a)(pe:∀p∈X.pn++cO,p.1≠a)(new:Wi X.prog X.w (Wu H a o) s.heap a o):cP X cO σ (Wu H a o) s:=by
 refine⟨I.ok,I.os,I.bare,⟨I.base.keep,I.base.slot,λb o q n hx=>?_,I.base.there,λb xs q=>?_,λb o u q=>?_,λb ps q=>?_⟩,I.loc,I.cell,?_,λx c ec=>?_,λp hp=>?_,λb u q=>?_,I.len⟩
 .rw[Zv (λz=>by rw[z,e0]at q;cases q)];exact I.base.free b o q n hx
 .have:=I.base.tups b xs q;rw[Zv (λz=>by rw[z,eH]at this;cases this)];exact this
 .have:=I.base.frzs b o u q;rw[Zv (λz=>by rw[z,eH]at this;cases this)];exact this
 .obtain⟨m,this⟩:=I.base.tbls b ps q;exact⟨m,by rw[Zv (λz=>by rw[z,eH]at this;cases this)];exact this⟩
 .rw[Zv (Ne.symm le)];exact I.free
 .rw[Zv (ce x c ec)];exact I.freeC x c ec
 .obtain⟨q,n,r⟩:=I.pin p hp;exact⟨q,by rw[Zv (pe p hp)];exact n,r⟩
 .by_cases hb:b=a
  .subst hb;rw[Yp]at q;cases q;exact new
  .rw[Zv hb]at q;exact(I.hok b u q).stay (λc v _ z=>z) (λc z=>by rw[Zv (λy=>by rw[y,eH]at z;cases z)];exact z) (λc xs z=>by rw[Zv (λy=>by rw[y,eH]at z;cases z)];exact z) λc o z=>by rw[Zv (λy=>by rw[y,eH]at z;cases z)];exact z
def yL(SG:List (TE×TE)):TE:=λσ H Q=>Vf SG σ H λps H2=>∃kvs:List (Key×V),ps=kvs.map (λkv=>(kV kv.1,kv.2))/\kvs.length<=15/\∀p ep,H2 p=aB->Q (.ref p) (Wu H2 p (.dK (Rn [] kvs) ep))
theorem ly(h:PPs X pos keys YD SG)(WI:keys.all (·.isSome)=aC)(hl:keys.length=YD.length)(h0:keys≠[])(QC:keys.length<=15):PE X (.Dict keys YD pos) (yL SG):=by
 intro cO s σ H Q I q;have hn:=I.hok.fresh (bg s.heap.objs.size);have I0:=I.kept (h':=s.heap.push {cls:=.type "dict",data:=.dict #[]}) (t':=s.toks) (λ_ _ q=>bh _ q);have DT:(s.heap.push {cls:=.type "dict",data:=.dict #[]}).get? s.heap.objs.size=aA {cls:=.type "dict",data:=.dict #[]}:=cj _ rfl;have old:∀b o,s.heap.get? b=aA o->b≠s.heap.objs.size:=λb o z=>d8 (bx z);have apart:∀p∈X.pn++cO,p.1≠s.heap.objs.size:=λp hp=>old _ _ (I.pin p hp).1;have PJ:s.heap.objs.size≠X.env.locals:=λz=>fj _ (c6 (z▸I.lt) (bg _));have JV:∀x c,X.env.cells.lookup x=aA c->c≠s.heap.objs.size:=λx c ec=>by refine We (I.cell x c ec) λv o ho _=>?_;exact old _ _ ho
 have NQ:X.s₀.heap.get? s.heap.objs.size=aB:=Heap.get?_none_of_le I.sz;have I1:=I0.pins_of (pins':=(s.heap.objs.size,{cls:=.type "dict",data:=.dict #[]})::cO) λp hp=>by
  rcases ba.mp hp with z|z
  .subst z;exact⟨DT,hn,PJ,I.nofs (bg _),λv z=>nomatch z⟩
  .exact I0.pin p (bp _ z)
 refine wpAny_Dict_walk (knd:=Yf X.prog X.w) WI hl h0 QC (W7 (h _ _ σ _ _ I1 q) λws s2 ZJ=>?_);obtain⟨ps,H2,I2,ZR,kvs,ep,lk,q2⟩:=ZJ;subst ep;obtain⟨rs,c,rk⟩:=Kg (P:=X.prog) (w:=X.w) ZR;obtain⟨p1,p2,p3,p4,p5⟩:=I2.pin (s.heap.objs.size,{cls:=.type "dict",data:=.dict #[]}) (bp _ aa);have KU:Wi X.prog X.w (Wu H2 s.heap.objs.size (.dK [] 0)) s2.heap s.heap.objs.size (.dK [] 0):=(show Wi X.prog X.w (λ_=>aB) _ _ (.dK [] 0)from Hr s.heap I.big).stay (λb u hb z=>by
  rcases hb with rfl|hb
  .rw[DT]at z;cases z;exact p1
  .cases hb) (λ_ z=>nomatch z) (λ_ _ z=>nomatch z) λ_ _ z=>nomatch z
 have I3:cP X cO σ (Wu H2 s.heap.objs.size (.dK [] 0)) s2:=cP.trackO (I2.pins_of (pins':=cO) λp hp=>I2.pin p (bp _ (ad _ hp))) NQ p2 PJ JV apart KU;obtain⟨z,hd,XX,r0,dd⟩:=GN I3.hok ⟨_,(show Wu H2 s.heap.objs.size (.dK [] 0) s.heap.objs.size=aA (.dK [] 0)from Yp)⟩;cases r0;refine⟨rs,c,dd,λh' RK hs=>?_⟩;have hz:(Rn [] kvs).length<=sizeLine:=by have h1:=Ta kvs [];rw[List.length_nil]at h1;rw[sizeLine_eq];omega
 have he:∃q,h'.get? s.heap.objs.size=aA q:=let⟨q,_,_,hq,_⟩:=RK;⟨q,hq⟩
 obtain⟨ep,ok⟩:=yU hz hd (rk.merge .nil) RK;have I4:L2.cP X cO σ (Wu (Wu H2 s.heap.objs.size (.dK [] 0)) s.heap.objs.size (.dK (Rn [] kvs) ep)) {s2 with heap:=h',toks:=s2.toks+ws.length}:=Vd I3 (by rw[Yp];exact True.intro) hs he (ok _);rw[mH]at I4;exact⟨.ref s.heap.objs.size,_,I4,rfl,q2 _ ep p2⟩
section
variable{K:aj}{Z:cU K}{σ:L2.St}{H:Hp}
theorem iP(m:∀v H,Q v H->Q' v H)(h:Zf Z f σ H Q):Zf Z f σ H Q':=by refine Yx h λF δ own rv δ' s e k=>?_;exact⟨F,δ,own,rv,δ',s,e,λv H' F' own' a b c d=>m _ _ (k v H' F' own' a b c d)⟩
noncomputable def tPD(Z:cU K)(l:List (Str×FE)):List (TE×TE):=l.map λp=>(tC (.str p.1),Zf Z p.2)
@[simp]def V8:List (Str×FE)->FD
 | []=>Zt
 |p::r=>Zm p.2 (V8 r)
theorem xQ:∀l {σ:L2.St} {H:Hp} {R:List (V×V)->Hp->Prop},Ji Z (V8 l) σ H (λvs H'=>R ((l.map λp=>V.str p.1).zip vs) H')->Vf (tPD Z l) σ H R
 | [],σ,H,R,h=>by have:=Pk h;exact this
 |p::r,σ,H,R,h=>by have h2:=Gh (fe:=p.2) (fd:=V8 r) h;exact iP (λv H1 q=>xQ r (R:=λps H3=>R ((.str p.1,v)::ps) H3) q) h2
@[simp]def FP(l:List (Str×FE)):FE:=λδ=>(V8 l δ).bind λp=>if p.1.length=l.length then some (.tmp (.oK (l.map λq=>.inr q.1) p.1),p.2)else none
theorem Pz:∀Z_ acc,((acc++Z_).map (·.1)).Nodup->Rn acc Z_=acc++Z_
 | [],acc,_=>by show acc=acc++[];rw[de]
 |p::r,acc,h=>by
  have e:Jg acc p.1 p.2=acc++[p]:=by unfold Jg;rw[bI];intro z;obtain⟨q,hq,z⟩:=List.any_eq_true.mp z;rw[cm,dm]at h;exact h.2.2 p.1 (bd.mpr ⟨q,hq,bM z⟩) p.1 (by simp) rfl
  show Rn (Jg acc p.1 p.2) r=_;rw[e,Pz r (acc++[p]) (by simpa using h)];simp
theorem iO{l:List (Str×FE)}(h:(l.map (·.1)).Nodup):(l.map λq=>(b7 q.1:Key)).Nodup:=by
 have:(l.map λq=>(b7 q.1:Key))=(l.map (·.1)).map Sum.inr:=by rw[b6];rfl
 rw[this];exact List.Pairwise.map _ (λa b JY z=>JY (b7.inj z)) h
theorem yK:∀(l:List (Str×FE)) (vs:List V),(l.map λp=>V.str p.1).zip vs=((l.map λq=>(b7 q.1:Key)).zip vs).map λkv=>(kV kv.1,kv.2)
 | [],_=>rfl
 |_::_,[]=>rfl
 |p::r,v::vs=>by rw[bn,bn,List.zip_cons_cons,List.zip_cons_cons,bn,yK r vs];rfl
theorem og(JK:(l.map (·.1)).Nodup)(QC:l.length<=15)(h:Zf Z (FP l) σ H Q):yL (tPD Z l) σ H Q:=by
 refine Yx h λF δ own rv δ' s e k=>?_;refine cT e λds δ1 e1 e2=>?_;by_cases hlen:ds.length=l.length
 .rw[bJ hlen]at e2;cases e2;refine xQ l ⟨F,δ,own,ds,δ1,s,e1,λvs H1 F1 own1 sH sF s1 r1=>?_⟩;have hv:vs.length=l.length:=by rw[<-r1.length];exact hlen
  have hk:(((l.map λq=>(b7 q.1:Key)).zip vs).map (·.1))=l.map λq=>(b7 q.1:Key):=List.map_fst_zip (by rw[ay,hv];exact bg _);have hs:(((l.map λq=>(b7 q.1:Key)).zip vs).map (·.2))=vs:=List.map_snd_zip (by rw[ay,hv];exact bg _);refine⟨(l.map λq=>(b7 q.1:Key)).zip vs,?_,?_,λp ep hp=>?_⟩
  .exact yK l vs
  .rw[List.length_zip,ay,hv,Nat.min_self];exact QC
  .rw[Pz _ [] (by rw[cz,hk];exact iO JK),cz];exact Nk.one (λw H' F' ns a b c t=>k w H' F' own1 (sH.trans a) (sF.trans b) c ⟨ns,t⟩) s1 (.oK hk (by rw[hs];exact r1)) hp
 .rw[bI hlen]at e2;cases e2
end
section
variable{X:Cx}{Z:cU X.K}{a b c:ca}{fa fb fc:FE}{pos:Pos}
theorem qT:PPs X pos [] [] (tPD Z []):=nZ
theorem oZ(hv:PE X a (Zf Z fa))(hr:PPs X pos ks vs (tPD Z l)):PPs X pos (aA (.Constant (.str k) j p)::ks) (a::vs) (tPD Z ((k,fa)::l)):=kF S4 hv hr
theorem oY(h:PPs X pos keys YD (tPD Z l))(JK:ks.Nodup)(UT:‹l.map (·.1)=ks›)(QC:‹l.length<=15›)(WI:‹keys.all (·.isSome)=aC›)(hl:‹keys.length=YD.length›)(h0:keys≠[]:=by exact List.cons_ne_nil _ _)(hk:‹keys.length=l.length›):PE X (.Dict keys YD pos) (Zf Z (FP l)):=(ly h WI hl h0 (by rw[hk];exact QC)).imp λ_ _ _ q=>og (by rw[UT];exact JK) QC q
end
@[simp]noncomputable def Rx(ss:List Str)(fd:FD):FD:=λδ=>(fd δ).bind λp=>some (ss.map D.str++p.1,p.2)
theorem oX{K}{Z:cU K}:∀ss {R:List V->Hp->Prop},Ji Z (Rx ss fd) σ H R->Ji Z fd σ H λvs H'=>R (ss.map V.str++vs) H'
 |ss,R,h=>by refine Yx h λF δ own ds δ' s e k=>?_;refine cT e λOA δ1 e1 e2=>?_;cases e2;refine⟨F,δ,own,OA,δ1,s,e1,λvs H' F' own' a b c r=>k _ H' F' own' a b c ?_⟩;exact cQ.append (strs_rep ss) r
where strs_rep {F:Hp}:∀ss:List Str,cQ K F (ss.map D.str) (ss.map V.str)
 | []=>.nil
 |x::r=>.cons (.str x) (strs_rep r)
noncomputable abbrev cst(x:Str×Nat×Pos):Expr:=.Constant (.str x.1) x.2.1 x.2.2
theorem Dz(h:PA X es t):∀l:List (Str×Nat×Pos),PA X (l.map cst++es) λσ H R=>t σ H λvs H'=>R ((l.map λx=>V.str x.1)++vs) H'
 | []=>h
 |x::r=>(Wn (e:=cst x) (es:=r.map cst++es) S4 (Dz h r) rfl).imp λσ H R q=>q
theorem Mn{Z:cU X.K}(l:List (Str×Nat×Pos))(h:PA X es (Ji Z fd)):PA X (l.map cst++es) (Ji Z (Rx (l.map (·.1)) fd)):=
 (Dz h l).imp λσ H R q=>by have:=oX (l.map (·.1)) q;rw[b6]at this;exact this
inductive RC where
 |v (δ:Wa)|x (e:Exn)
def xX(K:aj)(f:FX)(EX:Km):TE:=λσ H Q=>∃Z:cU K,Z.x=EX/\Oe Z f σ H Q
@[simp]def Gp(src:List BSrc)(k:Nat)(g:FG)(tt:FT)(te:FX):List D->Wa->Option RC
 | [],δ=>aA (.v δ)
 |d::ds,δ=>(g.run d δ).bind λδ1=>(tt δ1).bind λp=>if p.1=aC then(te p.2).bind (fun
  | .x e _=>aA (.x e)
  | .v rv δ2=>(frz rv δ2).bind λr=>match r.2[k]? with
   |some (aA (.ol zs))=>if zs.length<bu then Gp src k g tt te ds (Rr src (r.2.set k (aA (.ol (zs++[r.1])))))else aB
   |_=>aB)
  else Gp src k g tt te ds (Rr src p.2)
@[simp]def GI(src:List BSrc)(k:Nat)(fi:FD)(g:FG)(tt:FT)(te:FX):FX:=λδ=>(fi δ).bind λp=>(frzAll (caps src) p.2).bind λc=>(Gp src k g tt te p.1 (bD src c.2)).bind fun
 | .x e=>aA (.x e c.2)
 | .v LP=>match LP[k]? with
  |some (aA (.ol ys))=>aA (.v (.tmp (.ol ys)) c.2)
  |_=>aB
theorem oW{K:aj}{Z:cU K}(S:SrcOk src k)(hk:k∉g.tch)(h:Oe Z (GI src k fi g tt te) σ H Q):
  yQ src (Ue Z fi) (xG K g) (xT K tt) (xX K te) Z.x σ H Q:=by
 refine Ww h λF δ own rx s e k0=>?_;refine cT e λds δ1 e1 e2=>?_;refine cT e2 λcs δ2 e3 e4=>?_;refine cR e4 λLO e5 e6=>?_;refine⟨F,δ,own,ds,δ1,s,e1,λJ H1 F1 own1 sH sF s1 yl acc ha=>?_⟩;obtain⟨F2,own2,ZI,s2⟩:=s1.caps (λrv hr=>by
  unfold L2.caps at hr;obtain⟨b,_,hb⟩:=List.mem_filterMap.mp hr;cases b with
  |own=>cases hb
  |acc=>cases hb
  |cap j=>cases hb;exact⟨j,rfl⟩) e3
 have s3:SR (⟨H1,F2,λcls od _ H'=>Z.x cls od σ H'⟩:cU K) F2 (Wu H1 acc (.lst [])) (Pe src σ acc) (bD src δ2) (λi=>if i=k then[(acc,.lst [])]else[]):=(H0 S s2 ha).ent;have UD:(Pe src σ acc)[k]? =aA (aA (.ref acc)):=by unfold Pe;rw[bz,S.acc];rfl
 refine⟨λi m ZB H=>m=ds.length- i/\i<=ds.length/\ZB[k]? =aA (aA (.ref acc))/\∃F δ own,Zo F2 F/\SR (⟨H1,F2,λcls od _ H'=>Z.x cls od σ H'⟩:cU K) F H ZB δ own/\Gp src k g tt te (ds.drop i) δ=aA LO,
  ⟨ds.length,by simp,cr _,UD,F2,_,_,Zo.refl F2,s3,e5⟩,?_⟩
 rintro i m WN H4 ⟨rfl,hi,YW,F4,UG,YR,ZY,s4,ef⟩;by_cases YL:i<ds.length
 .have hd:ds[i]? =aA ds[i]:=by simp[YL]
  obtain⟨go,yy⟩:=(yl F4 H4 (ZI.trans ZY) s4.le i).1 _ hd;rw[dy YL]at ef;refine cR ef λU_ e7 e8=>?_;refine cT e8 λb XH e9 UE=>?_;refine .inr ⟨go,λx H5 hy=>?_⟩;obtain⟨sm,ns,nd,hn,rp⟩:=yy x H5 hy;obtain⟨VD,sn⟩:=s4.fresh sm nd hn;refine⟨(⟨H1,F2,λcls od _ H'=>Z.x cls od σ H'⟩:cU K),Uc F4 ns,UG,YR,_,U_,sn,rp,e7,λXR ZW s6 t6=>⟨(⟨H1,F2,λcls od _ H'=>Z.x cls od σ H'⟩:cU K),Uc F4 ns,U_,ZW,b,XH,s6,e9,λH7 F7 VH LY UM s7=>?_⟩⟩;have YN:XR[k]? =aA (aA (.ref acc)):=(t6 k hk).trans YW;cases b with
  |false=>dsimp only;rw[bI bi]at UE⊢;exact⟨ds.length- (i+1),by omega,rfl,YL,YN,F7,_,VH,ZY.trans (VD.trans UM),s7.forget (Cu src XH) (λj sv hj=>Cv hj),UE⟩
  |true=>
   dsimp only;rw[bJ rfl]at UE⊢;refine cR UE λr1 QE TZ=>?_;cases r1 with
   |x x8 LQ=>cases TZ;cases e6;exact⟨(⟨H1,F2,λcls od _ H'=>Z.x cls od σ H'⟩:cU K),rfl,F7,XH,VH,_,s7,QE,λH' F' own' cls od TL s' r'=>k0 H' F' own2 cls od (sF.trans (ZI.trans (ZY.trans (VD.trans (UM.trans TL))))) (s2.after s'.old (ZY.trans (VD.trans (UM.trans TL))) s'.le λb o e=>s'.fro b o e) r'⟩
   |v EW LQ=>
    refine cT TZ λd9 vS IG WM=>?_;refine⟨(⟨H1,F2,λcls od _ H'=>Z.x cls od σ H'⟩:cU K),rfl,F7,XH,VH,_,s7,QE,λy H8 F8 KM vj KC s8 r8=>?_⟩;refine Zr (s8.settleR r8) λF9 L' s9 r9=>?_;refine Yd (s9.frzR r9 IG) λEO VT SL UN KL=>?_;dsimp only at WM;split at WM
    .rename_i zs hz;by_cases hzl:zs.length<bu
     .rw[bJ hzl]at WM;obtain⟨v',YA,XT⟩:=UN.at' k _ hz;rw[YN]at YA;cases YA;refine Yd (Qr XT) λb vs eb VM r'=>?_;cases eb;have mb:(acc,HO.lst vs)∈VT k:=by rw[VM];exact aa
      refine⟨acc,vs,y,rfl,rfl,(UN.ok k _ mb).2.2,by rw[<-r'.length];exact hzl,?_⟩;have s11:=UN.change (sv':=.ol (zs++[d9])) (o':=.lst (vs++[y])) (ns':=[(acc,.lst (vs++[y]))]) hz YN mb (.ol (r'.snoc KL)) (λp hp=>.inl (af.mp hp)) Fk;exact⟨ds.length- (i+1),by omega,rfl,YL,YN,EO,_,_,ZY.trans (VD.trans (UM.trans (KC.trans (L'.trans SL)))),s11.forget (Cu src _) (λj sv hj=>Cv hj),WM⟩
     .rw[bI hzl]at WM;cases WM
    .cases WM
 .have hz:i=ds.length:=by omega
  subst hz;rw[List.drop_length]at ef;cases ef;refine .inl ⟨(yl F4 H4 (ZI.trans ZY) s4.le _).2 (bg _),?_⟩;dsimp only at e6;split at e6
  .rename_i ys hys;cases e6;obtain⟨v',YA,XT⟩:=s4.at' k _ hys;rw[YW]at YA;cases YA;refine Yd (Qr XT) λb vs eb VM r'=>?_;cases eb;have mb:(acc,HO.lst vs)∈YR k:=by rw[VM];exact aa
   obtain⟨o1,o2,o3⟩:=s4.ok k _ mb;refine k0 (.ref acc) H4 F4 own2 (sH.trans s4.old) (sF.trans (ZI.trans ZY)) (s2.after s4.old ZY s4.le λb o e=>s4.fro b o e) ⟨[(acc,.lst vs)],.ol r',Fk,λp hp=>?_,λj p q hp hq e=>?_⟩
   .obtain rfl:=af.mp hp;exact⟨o1,s2.old.free ha,o3⟩
   .obtain rfl:=af.mp hp;have z:=(s2.ok j q hq).2.2;have e':acc=q.1:=e;rw[<-e',ha]at z;cases z
  .cases e6
section
variable{X:Cx}{Z:cU X.K}{pos:Pos}
theorem xx(h:∀Z:cU X.K,Z.x=EX->PE X elt (Oe Z f)):PE X elt (xX X.K f EX):=λcO s σ H Q I ⟨Z,e,q⟩=>h Z e cO s σ H Q I q
theorem oV(h:Z.x=EX)(t:Ak X EX):Ak X Z.x:=by rw[h];exact t
theorem qS(hc:X.calm=aC)(th:U4 X Z.x)(S:CompScope X N' scope src)(So:SrcOk src k)(hk:k∉g.tch)(hi:PI X tg ZG (Ue Z fi))(hg:∀C s₀ H₀ ex,PG (X.block N' scope C s₀ H₀ ex) tg (xG X.K g))(ht:∀C s₀ H₀ ex,PTs (X.block N' scope C s₀ H₀ ex) Z' (xT X.K tt))(he:∀C s₀ H₀ ex xe EX,Ak (X.blockX N' scope C s₀ H₀ ex xe) EX->PE (X.blockX N' scope C s₀ H₀ ex xe) elt (xX X.K te EX))(ZZ:‹X.ex=[]›)(YB:‹X.stack=X.env::X.outer›)(XB:‹X.env.frame=aA X.env.locals›)(hs:‹∀x,foldedSetIterable ZG X.env x=pure x›):PE X (.ListComp elt [⟨tg,ZG,Z',0⟩] scope pos) (Oe Z (GI src k fi g tt te)):=(l9 hc ZZ YB XB th S hi hg ht he hs).imp λ_ _ _ h=>oW So hk h
theorem iN{K}:
  U4 (Ri (Hc P w) P w K mg base N qual scope f cd A outer s H E) λcls od _ H'=>E cls od H':=Cq.t
theorem oU{np hp}(hb:∀pn xe EX,U4 (X.inTry pn xe) EX->Mh (X.inTry pn xe) body (Zx (Z.wish EX) fb))(mg:X.mg x=aA (.ref B))(ck:PySem.W.typeIn X.K (.ref B)=aA (.type "type")/\PySem.W.isClsIn X.K B=aC/\PySem.W.mroIn X.K B (.type "BaseException")=aA aC)(su:∀a,Mh (X.inSuite a) (b0::suite) (Zx Z f))(hy:∀c∈yes,∀C,Br X.K c C->PySem.W.mroIn X.K C (.ref B)=aA aC)(hn:∀c∈no,∀C,Br X.K c C->PySem.W.mroIn X.K C (.ref B)=aA aD)(gl:‹Gl X x›)(db:‹(x==("__debug__":Str))=aD›)(ZZ:‹X.ex=[]›)(YB:‹X.stack=X.env::X.outer›)(XB:‹X.env.frame=aA X.env.locals›):
  PS X (.Try body [.ExceptHandler (aA (.Name x np)) aB (b0::suite) hp] [] [] pos) (Zx Z (MC fb [⟨aB,yes,no,f⟩])):=
 fO (h0:=⟨x,np,aB,b0,suite,hp,B,yes,no,f⟩) (hs:=[]) hb (xS ⟨gl,mg,ck.1,ck.2.1,ck.2.2,db,oh,su⟩) (xS ⟨hy,hn⟩) ZZ YB XB
end
noncomputable def Of{α:Type}(xs:List α)(lo hi st:Option Int):List α:=
 (sliceRange (sliceBounds lo hi st xs.length).1 (sliceBounds lo hi st xs.length).2.1 (sliceBounds lo hi st xs.length).2.2).filterMap (xs[·]?)
theorem Ym.pickI(r:Ym xs us):∀is:List Nat,Ym (is.filterMap (xs[·]?)) (is.filterMap (us[·]?))
 | []=>.nil
 |i::is=>by
  cases h:xs[i]? with
  |none=>rw[dr h,dr (r.none_of h)];exact Ym.pickI r is
  |some x=>obtain⟨u,hu,hr⟩:=r.get h;rw[dk h,dk hu];exact .cons hr (Ym.pickI r is)
theorem lu(us lo hi st):slicePick us.toArray lo hi st=(Of us lo hi st).toArray:=by unfold slicePick Of;simp
def vL(X:Cx)(r:V->Option Int->Option Int->Option Int->Hp->VK->Prop):Prop:=
 ∀(cO:List (av×Obj)) (s:ax) (σ:St) (H:Hp) (x:V) (v vl vu vs:aq) (lo hi st:Option Int) (sl:av) (Q:VK),cP X cO σ H s->Ya x v->s.heap.IsSliceOf sl vl vu vs->IsPart vl lo->IsPart vu hi->IsPart vs st->r x lo hi st H Q->
  ∃T id,typeLookup (.type T) "__getitem__"=pure (aA (.builtin id))/\s.TypeIs v T/\b5 (cv X.prog X.w) X.A (getItem v (.ref sl)) (EP X cO σ Q) X.xe s
def vK(r:V->Option Int->Option Int->Option Int->Hp->VK->Prop)(te:TE)(tl th ts:TO):TE:=λσ H Q=>te σ H λx H1=>tl σ H1 λl H2=>th σ H2 λu H3=>ts σ H3 λw H4=>r x l u w H4 Q
theorem jy{e st:ca}{lo hi:Option ca}(hr:vL X r)(he:PE X e te)(hl:PO X lo tl)(hu:PO X hi th)(ht:PO X (aA st) ts):PE X (.Subscript e (.Slice lo hi (aA st) p2) pos) (vK r te tl th ts):=by intro cO s σ H Q I h;refine Subscript_ (W7 (he cO s σ H _ I h) λv s1 ZJ=>?_);obtain⟨x,H1,I1,r1,q1⟩:=ZJ;refine wpAny_Slice (W7 (hl cO s1 σ H1 _ I1 q1) λvl s2 ⟨l,H2,I2,pl,q2⟩=>W7 (hu cO s2 σ H2 _ I2 q2) λvu s3 ⟨u,H3,I3,pu,q3⟩=>W7 (ht cO s3 σ H3 _ I3 q3) λvs s4 ZJ=>?_);obtain⟨w,H4,I4,pw,q4⟩:=ZJ;have I5:cP X cO σ H4 {s4 with heap:=s4.heap.push {cls:=.type "slice",data:=.fields #[vl,vu,vs]}}:=I4.kept (t':=s4.toks) λb ob q=>bh _ q;refine Yd (hr cO {s4 with heap:=s4.heap.push {cls:=.type "slice",data:=.fields #[vl,vu,vs]}} σ H4 x v vl vu vs l u w s4.heap.objs.size Q I5 r1 (Heap.IsSliceOf.new ..) pl pu pw q4) λT id hT ht hg=>?_;show b5 (cv X.prog X.w) X.A (subscriptTail e (.Slice lo hi (aA st) p2) v (.ref s4.heap.objs.size)) (EP X cO σ Q) X.xe {s4 with heap:=s4.heap.push {cls:=.type "slice",data:=.fields #[vl,vu,vs]}};exact tail_any (ops:=[v,.ref s4.heap.objs.size]) ht hT hg (by with_unfolding_all rfl)
def vJ(K:aj):V->Option Int->Option Int->Option Int->Hp->VK->Prop:=λx lo hi st H Q=>∃a xs,x= .ref a/\On K H a xs/\st≠aA 0/\∀p,H p=aB->Q (.ref p) (Wu H p (.lst (Of xs lo hi st)))
theorem lP:vL X (vJ X.K):=by
 intro cO s σ H x v vl vu vs lo hi st sl Q I rx hs pl pu pw h;obtain⟨a,xs,rfl,hx,h0,q⟩:=h;cases rx;refine Zr (I.list hx) λcS r ht hz=>?_;have hlen:=r.length;refine⟨"list",_,slot_list_getitem.lookup,ht.isList.typeIs,?_⟩;refine wpAny_getItem_list_slice ht.isList hs pl pu pw h0 ?_ (by rw[bq]<;> omega);have hsz:=slicePick_size_le cS.toArray lo hi st;rw[lu]at hsz⊢;have rr:Ym (Of xs lo hi st) (Of cS lo hi st):=by unfold Of;rw[hlen];exact r.pickI _
 have hl2:=rr.length;simp only[bq]at hsz;refine⟨.ref s.heap.objs.size,_,I.laid (t':=s.toks) (o:=.lst (Of xs lo hi st)) (λb ob q=>bh _ q) (bg _) ?_,rfl,q _ (I.hok.fresh (bg _))⟩;exact⟨by omega,_,0,rr,cj _ rfl⟩
theorem cQ.pickI{K}(r:cQ K F xs us):∀is:List Nat,cQ K F (is.filterMap (xs[·]?)) (is.filterMap (us[·]?))
 | []=>.nil
 |i::is=>by
  cases h:xs[i]? with
  |none=>
   have h2:us[i]? =aB:=by rw[List.getElem?_eq_none_iff]at h⊢;rw[<-r.length];exact h
   rw[dr h,dr h2];exact cQ.pickI r is
  |some x=>obtain⟨u,hu,hr⟩:=r.get h;rw[dk h,dk hu];exact .cons hr (cQ.pickI r is)
theorem cQ.pick{K}(r:cQ K F xs us)(lo hi st):cQ K F (Of xs lo hi st) (Of us lo hi st):=by unfold Of;rw[r.length];exact r.pickI _
@[simp]def MB(g:D->Option Int->Option Int->Option Int->Option SV)(fe:FE)(fl fh fs:FO):FE:=λδ=>(fe δ).bind λp=>(fl p.2).bind λl=>(fh l.2).bind λh=>(fs h.2).bind λw=>(rdv p.1 w.2).bind λd=>(g d l.1 h.1 w.1).bind λsv=>some (.tmp sv,w.2)
section
variable{K:aj}{Z:cU K}{H:Hp}{σ:L2.St}{Q:VK}
def yA(Z:cU K)(r:V->Option Int->Option Int->Option Int->Hp->VK->Prop)(g:D->Option Int->Option Int->Option Int->Option SV):Prop:=
 ∀(F H:Hp) (σ:L2.St) (δ:Wa) (own:Nat->Zu) (x:V) (d:D) (lo hi st:Option Int) (sv:SV) (Q:VK),SR Z F H σ δ own->Wb K F H d x->g d lo hi st=aA sv->Nk Z F H σ δ own sv Q->r x lo hi st H Q
theorem fM(hg:yA Z r g)(h:Zf Z (MB g fe fl fh fs) σ H Q):vK r (Zf Z fe) (Bw Z fl) (Bw Z fh) (Bw Z fs) σ H Q:=by
 refine Yx h λF δ own rv δ' s e k=>?_;refine cT e λVF δ1 e1 e=>?_;refine cT e λlo δ2 e2 e=>?_;refine cT e λhi XZ e3 e=>?_;refine cT e λst UG PZ e=>?_;refine cR e λd e4 e=>?_;refine cR e λsv e5 e=>?_;cases e;refine⟨F,δ,own,VF,δ1,s,e1,λv H1 F1 own1 X_ YV s1 r1=>?_⟩;refine Zr (s1.settleR r1) λUZ XF VE XY=>?_;refine⟨UZ,δ1,own1,lo,δ2,VE,e2,λH2 F2 own2 WT ZI s2=>⟨F2,δ2,own2,hi,XZ,s2,e3,λH3 F3 ZP YO ZU s3=>⟨F3,XZ,ZP,st,UG,s3,PZ,λH5 F5 X' LZ TJ s5=>?_⟩⟩⟩;exact hg F5 H5 σ UG X' v d lo hi st sv Q s5 (s5.rd (XY.mono (ZI.trans (ZU.trans TJ))) e4) e5 λq H4 F4 ns VC ZY s4 t4=>
  k q H4 F4 X' (X_.trans (WT.trans (YO.trans (LZ.trans VC)))) (YV.trans (XF.trans (ZI.trans (ZU.trans (TJ.trans ZY))))) s4 ⟨ns,t4⟩
@[simp]def OL:D->Option Int->Option Int->Option Int->Option SV
 | .lst xs,lo,hi,st=>if st≠aA 0 then aA (.ol (Of xs lo hi st))else aB
 |_,_,_,_=>aB
theorem eM:yA Z (vJ K) OL:=by
 intro F H σ δ own x d lo hi st sv Q s r1 e k;unfold OL at e;split at e
 .split at e
  .rename_i h0;cases e;refine Yd (r1.lst s.le) λa vs ex ha ra=>?_;exact⟨a,vs,ex,ha,h0,λp hp=>k.lst s (ra.pick _ _ _) hp⟩
  .cases e
 .cases e
end
theorem BZ{Z:cU X.K}{st}{lo:Option ca}(ha:PE X a (Zf Z fa))(hl:PO X lo (Bw Z fl))(hh:PO X hi (Bw Z fh))(hs:PO X (aA st) (Bw Z fs)):PE X (.Subscript a (.Slice lo hi (aA st) p2) pos) (Zf Z (MB OL fa fl fh fs)):=
 (jy lP ha hl hh hs).imp λ_ _ _ h=>fM eM h
section
variable{α:Type}{P:List α->Prop}
@[elab_as_elim]theorem of1(h:∀a,P [a])(us)(hl:us.length=1):P us:=by obtain⟨a,e⟩:=List.length_eq_one_iff.mp hl;rw[e];exact h a
theorem ofC(h:∀a us,us.length=n->P (a::us))(us)(hl:us.length=n+1):P us:=by
 cases us with
 |nil=>exact bN hl (by simp)
 |cons a r=>exact h a r (by simpa using hl)
@[elab_as_elim]theorem of2(h:∀a b,P [a,b])(us)(hl:us.length=2):P us:=ofC (λa=>of1 (P:=λus=>P (a::us)) (h a)) us hl
@[elab_as_elim]theorem of3(h:∀a b c,P [a,b,c])(us)(hl:us.length=3):P us:=ofC (λa=>of2 (P:=λus=>P (a::us)) (h a)) us hl
@[elab_as_elim]theorem of4(h:∀a b c d,P [a,b,c,d])(us)(hl:us.length=4):P us:=ofC (λa=>of3 (P:=λus=>P (a::us)) (h a)) us hl
@[elab_as_elim]theorem of5(h:∀a b c d e,P [a,b,c,d,e])(us)(hl:us.length=5):P us:=ofC (λa=>of4 (P:=λus=>P (a::us)) (h a)) us hl
end
theorem D0(hs:(d==sysModules)=aD)(g:s.heap.get? d=aA od)(x:od.ExactDict)(c:od.data= .dict es ep)(k:Q (.ref s.heap.objs.size) {s with heap:=s.heap.push {cls:=.type "dict_keyiterator",data:=.fields #[.ref d,.int 0 0,.int es.size 0,.int ep 0]}}):b5 (cv prog w) A (pyIter (.ref d)) Q E s:=by
 have T:s.TypeIs (.ref d) "dict":=⟨od,g,x.1⟩
 refine wpAny_pyIter_slot T PySem.F.slot_dict_iter (wpAny_call_entry PySem.F.slot_dict_iter T PySem.F.entry_dict_iter (show b5 _ _ (Builtin.«dict.__iter__» _) _ _ _ from ?_) (PySem.F.args_dict_iter_1 _));unfold Builtin.«dict.__iter__» Builtin.Dict.dictSlotNone;refine aw (aw (wpAny_notOrdered_dict T (show b5 _ _ (pure (dz d)) _ _ s from bj ?_)));show b5 _ _ (Builtin.Dict.showsAll d >>=_) _ _ s;unfold Builtin.Dict.showsAll;rw[bI (by rw[hs];decide)];refine aw (bj (aw (wpAny_dictEntries g c (aw (wpAny_dictEpoch g c (aw (wpAny_newObj_type (bj ⟨_,rfl,"dict_keyiterator",_,⟨_,cj _ rfl,rfl⟩,fq.lookup,?_⟩))))))));simpa[rawInt]using k
theorem D2(t:s.heap.IsKeyIter q d i n ep)(g:s.heap.get? d=aA od)(c:od.data= .dict es ep)(hn:es.size=n)(he:es[i]? =aA e)(k:∀h',h'.IsKeyIter q d (i+1) n ep->Heap.SameBut q s.heap h'->Q (aA e.key) {s with heap:=h'}):b5 (cv prog w) A (pyNext (.ref q)) Q E s:=by
 refine Zr (id t) λo ho hc hd=>?_;have T:=t.typeIs;unfold pyNext;refine aw (wpAny_attempt (wpAny_callSpecial?_slot (name:="__next__") T fq (wpAny_call_entry fq T PySem.F.entry_dict_keyiterator_next (aw (bj (aw (aw ?_)))) (PySem.F.args_dict_keyiterator_next_1 _))))
 first| (refine aw (wpAny_typeNameOfWhole_keyiter T (bj (aw (wpAny_fieldsOf ho hd ?_)))))| (refine aw (wpAny_typeNameOf_keyiter T (bj (aw (wpAny_fieldsOf ho hd ?_)))))
 have z0:Builtin.Dict_items.ownsTuple "dict_keyiterator"=aD:=rfl;rw[z0];simp only[Bool.false_eq_true,if_false];show b5 _ _ (ite ((dz d==Value.none)=aC) _ _) _ _ s;rw[bI (show¬(dz d==Value.none)=aC from λz=>bi z)];refine aw (bj (aw (wpAny_dictEntries g c ?_)));rw[bI (by rw[hn];simp)];refine aw (bj (aw (wpAny_dictEpoch g c ?_)));rw[bI (by simp)];have hi:i<es.size:=(Array.getElem?_eq_some_iff.mp he).1;refine bj ?_;simp only[show¬((i:Int)<0) by omega,if_false,Int.toNat_natCast,he];refine aw ?_
 first| (refine aw (wpAny_typeNameOfWhole_keyiter T (bj (aw (wpAny_isOneOf_keyiter T ?_)))))| (refine aw (wpAny_typeNameOf_keyiter T (bj (aw (wpAny_isOneOf_keyiter T ?_)))))
 show b5 _ _ (setField (.ref q) 1 (rawInt ((i:Int)+1)) >>=_) _ _ s;refine aw (wpAny_setField ho hd (by simp) ?_);have t':(s.heap.update q (Obj.mapFields (·.setIfInBounds 1 (rawInt ((i:Int)+1))))).IsKeyIter q d (i+1) n ep:=⟨_,Heap.get?_update_self _ ho (Obj.isFreed_of_fields (Obj.data_mapFields hd _)),(Obj.cls_mapFields ..).trans hc,(Obj.data_mapFields hd _).trans (by simp[rawInt])⟩
 refine aw (wpAny_holding (aw (wpAny_isOneOf_keyiter (s:={s with heap:=s.heap.update q (Obj.mapFields (·.setIfInBounds 1 (rawInt ((i:Int)+1))))}) t'.typeIs (show b5 _ _ (pure e.key) _ _ _ from bj (bj ⟨_,rfl,bj (k _ t' (Heap.SameBut.update ..))⟩)))))
theorem D3(hh:A.handled=aB)(t:s.heap.IsKeyIter q d i n ep)(g:s.heap.get? d=aA od)(c:od.data= .dict es ep)(hn:es.size=n)(hi:n<=i)(k:∀h',Heap.ExtBut q s.heap h'->Q aB {s with heap:=h'}):b5 (cv prog w) A (pyNext (.ref q)) Q E s:=by
 refine Zr (id t) λo ho hc hd=>?_;have T:=t.typeIs;unfold pyNext;refine aw (wpAny_attempt (wpAny_callSpecial?_slot (name:="__next__") T fq (wpAny_call_entry fq T PySem.F.entry_dict_keyiterator_next (aw (bj (aw (aw ?_)))) (PySem.F.args_dict_keyiterator_next_1 _))))
 first| (refine aw (wpAny_typeNameOfWhole_keyiter T (bj (aw (wpAny_fieldsOf ho hd ?_)))))| (refine aw (wpAny_typeNameOf_keyiter T (bj (aw (wpAny_fieldsOf ho hd ?_)))))
 have z0:Builtin.Dict_items.ownsTuple "dict_keyiterator"=aD:=rfl;rw[z0];simp only[Bool.false_eq_true,if_false];show b5 _ _ (ite ((dz d==Value.none)=aC) _ _) _ _ s;rw[bI (show¬(dz d==Value.none)=aC from λz=>bi z)];refine aw (bj (aw (wpAny_dictEntries g c ?_)));rw[bI (by rw[hn];simp)];refine aw (bj (aw (wpAny_dictEpoch g c ?_)));rw[bI (by simp)];have he:es[i]? =aB:=Array.getElem?_eq_none (by omega);refine bj ?_;simp only[show¬((i:Int)<0) by omega,if_false,Int.toNat_natCast,he];refine aw ?_
 first| (refine aw (wpAny_typeNameOfWhole_keyiter T (bj ?_)))| (refine aw (wpAny_typeNameOf_keyiter T (bj ?_)))
 show b5 _ _ (setField (.ref q) 0 Value.none >>=_) _ _ s;refine aw (wpAny_setField ho hd (by simp) (show b5 _ _ (newExc (.type "StopIteration") [] >>=_) _ _ _ from aw ?_));simp only[newExc,newTuple];refine aw (wpAny_newObj_type (aw (m:=firstArgMember _ _) (wpAny_of_eq (a:=Value.none) (by first|rfl| (simp only[firstArgMember];rfl)) (wpAny_newObj_type ?_ (by size_fits)))) (by size_fits));simp only[raiseNew];refine aw (wpAny_handled ?_);rw[show A.in1.handled=Option.none from hh];refine aw (bj (wpAny_throw ?_));refine aw (wpAny_isInstance (T:="StopIteration") (b:=aC) (by exact⟨_,cj _ rfl,rfl⟩) isSubtype_stop ?_);exact bj (k _ (((Heap.SameBut.update ..).extBut.push _).push _))
theorem xP(h:(Yf P w).is k u=aC):Ya (kV k) u:=by
 rcases Y1 h with⟨i,t,rfl,rfl⟩|⟨x,t,rfl,rfl⟩
 .exact⟨t,rfl⟩
 .exact⟨t,rfl⟩
noncomputable def Itk(a:av)(n ep:Nat):It:=
 ⟨λi H=>∃kvs,H a=aA (.dK kvs ep)/\kvs.length=n/\i<n,λi H x H'=>H'=H/\∃kvs kv,H a=aA (.dK kvs ep)/\kvs[i]? =aA kv/\x=kV kv.1,λi H=>∃kvs,H a=aA (.dK kvs ep)/\kvs.length=n/\n<=i⟩
noncomputable def Itd(a:av)(n ep:Nat):It:=
 ⟨λi H=>∃kvs bs,H a=aA (.dT kvs ep bs)/\kvs.length=n/\i<n,λi H x H'=>H'=H/\∃kvs bs b,H a=aA (.dT kvs ep bs)/\bs[i]? =aA b/\x= .ref b,λi H=>∃kvs bs,H a=aA (.dT kvs ep bs)/\kvs.length=n/\n<=i⟩
theorem V9{h h':ed}(t:h.IsKeyIter q d i n ep)(k:∀o,h.get? q=aA o->h'.get? q=aA o):h'.IsKeyIter q d i n ep:=let⟨o,e,r⟩:=t;⟨o,k o e,r⟩
theorem lO(h:Pairs (Yf P w) es vs){i:Nat}(hi:vs[i]? =aA kv):∃e,es[i]? =aA e/\(Yf P w).is kv.1 e.key=aC:=by
 induction h generalizing i with
 |nil=>simp at hi
 | @cons e0 kv0 es0 kvs0 h1 h2 _ ih=>
  cases i with
  |zero=>simp at hi;subst hi;exact⟨e0,by simp,h1⟩
  |succ j=>obtain⟨e,a1,a2⟩:=ih (i:=j) (by simpa using hi);exact⟨e,by simpa using a1,a2⟩
theorem E3(h:Pairs (Yf P w) es vs):es.length=vs.length:=by
 induction h with
 |nil=>rfl
 |cons _ _ _ ih=>rw[bc,bc,ih]
theorem Mo{l:List α}{m:List β}(h:Paired R l m):∀{i:Nat} {x:α},l[i]? =aA x->∃y,m[i]? =aA y/\R x y:=by
 induction h with
 |nil=>intro i x hi;simp at hi
 | @cons a b as bs h1 t ih=>
  intro i x hi;cases i with
  |zero=>simp at hi;subst hi;exact⟨b,by simp,h1⟩
  |succ j=>obtain⟨y,a1,a2⟩:=ih (i:=j) (by simpa using hi);exact⟨y,by simpa using a1,a2⟩
theorem Fp{P:b8}{w:df}{K:aj}{tg:ca}(a it:av)(n ep:Nat):Turn P w K tg (Itk a n ep) [it] it (λi h=>h.IsKeyIter it a i n ep)where
 mem:=aa
 obj:=λi h st b hb=>by obtain rfl:=af.mp hb;refine Zr st λo e c d=>?_;exact⟨o,e,λv z=>by rw[d]at z;cases z⟩
 keep:=λi h h' st k=>V9 st λo e=>k it aa o e
 item:=by
  intro X hP hw hK hc i cO s σ H E I hf st hg;subst hP hw hK;refine Zr hg λkvs hq hn hi=>?_;obtain⟨z,hd,vs,ZR,od,es,g,x,c,ko,pr,nd⟩:=(show Wi X.prog X.w H s.heap a (.dK kvs ep)from I.hok a _ hq)
  refine Qx (hf it aa) λf0 f1 f2 f3 f4 f5=>?_;have NR:kvs[i]? =aA (kvs[i]'(by omega)):=dq (by omega);obtain⟨vv,hv,hr⟩:=Mo ZR NR;obtain⟨e,he,uO⟩:=lO pr hv;have hz:es.size=n:=by rw[<-gc,E3 pr,<-Paired.length ZR,hn]
  refine D2 st g c hz (e:=e) (by rw[<-Array.getElem?_toList];exact he) λh' YQ sb=>?_;have I1:cP X cO σ H {s with heap:=h'}:=I.turned (t':=s.toks) (λb o hb e=>(sb.2 b hb).trans e) f0 f1 f3 f4 f5;refine Zr (id YQ) λo e1 c1 d1=>?_;exact⟨e.key,rfl,N0 (s:={s with heap:=h'}) e1 c1 d1 (by decide) ⟨kV (kvs[i]'(by omega)).1,H,I1,xP (by rw[hr.1];exact uO),⟨rfl,kvs,_,hq,NR,rfl⟩,YQ,λb hb=>(hf b hb).1⟩⟩
 done:=by
  intro X hP hw hK hc i cO s σ H E I hf st hg;subst hP hw hK;refine Zr hg λkvs hq hn hi=>?_;obtain⟨z,hd,vs,ZR,od,es,g,x,c,ko,pr,nd⟩:=(show Wi X.prog X.w H s.heap a (.dK kvs ep)from I.hok a _ hq)
  refine Qx (hf it aa) λf0 f1 f2 f3 f4 f5=>?_;have hz:es.size=n:=by rw[<-gc,E3 pr,<-Paired.length ZR,hn]
  exact D3 (I.ok.hd hc) st g c hz hi λh' eb=>⟨rfl,I.turned (t':=s.toks) (λb o hb e=>eb b o hb e) f0 f1 f3 f4 f5⟩
 self:=λ_ _ s _ _ st h=>by exact wpAny_pyIter_slot st.typeIs PySem.F.slot_dict_keyiterator_iter (wpAny_call_entry PySem.F.slot_dict_keyiterator_iter st.typeIs PySem.F.entry_dict_keyiterator_iter (by exact bj ⟨_,rfl,"dict_keyiterator",_,st.typeIs,fq.lookup,h⟩) (PySem.F.args_dict_keyiterator_iter_1 _))
theorem oS{P:b8}{w:df}{K:aj}{tg:ca}(a it:av)(n ep:Nat):Turn P w K tg (Itd a n ep) [it] it (λi h=>h.IsKeyIter it a i n ep)where
 mem:=aa
 obj:=(Fp (P:=P) (w:=w) (K:=K) (tg:=tg) a it n ep).obj
 keep:=(Fp (P:=P) (w:=w) (K:=K) (tg:=tg) a it n ep).keep
 item:=by
  intro X hP hw hK hc i cO s σ H E I hf st hg;subst hP hw hK;refine Yd hg λkvs bs hq hn hi=>?_;obtain⟨z,hd,xs,ZR,od,es,g,x,c,en,nd,QB⟩:=(show Wi X.prog X.w H s.heap a (.dT kvs ep bs)from I.hok a _ hq)
  refine Qx (hf it aa) λf0 f1 f2 f3 f4 f5=>?_;have NR:kvs[i]? =aA (kvs[i]'(by omega)):=dq (by omega);obtain⟨vv,hv,hr⟩:=Mo ZR NR;have hz:es.size=n:=by rw[<-gc,en,ay,<-Paired.length ZR,hn]
  have he:es[i]? =aA (entryOfKey (tupleKind (Yf X.prog X.w)) vv):=by rw[<-Array.getElem?_toList,en,bz,hv];rfl
  refine D2 st g c hz he λh' YQ sb=>?_;have I1:cP X cO σ H {s with heap:=h'}:=I.turned (t':=s.toks) (λb o hb e=>(sb.2 b hb).trans e) f0 f1 f3 f4 f5;refine Zr (id YQ) λo e1 c1 d1=>?_;exact⟨.ref vv.2.1,rfl,N0 (s:={s with heap:=h'}) e1 c1 d1 (by decide) ⟨.ref vv.2.1,H,I1,rfl,⟨rfl,kvs,bs,vv.2.1,hq,by rw[<-QB,bz,hv];rfl,rfl⟩,YQ,λb hb=>(hf b hb).1⟩⟩
 done:=by
  intro X hP hw hK hc i cO s σ H E I hf st hg;subst hP hw hK;refine Yd hg λkvs bs hq hn hi=>?_;obtain⟨z,hd,xs,ZR,od,es,g,x,c,en,nd,QB⟩:=(show Wi X.prog X.w H s.heap a (.dT kvs ep bs)from I.hok a _ hq)
  refine Qx (hf it aa) λf0 f1 f2 f3 f4 f5=>?_;have hz:es.size=n:=by rw[<-gc,en,ay,<-Paired.length ZR,hn]
  exact D3 (I.ok.hd hc) st g c hz hi λh' eb=>⟨rfl,I.turned (t':=s.toks) (λb o hb e=>eb b o hb e) f0 f1 f3 f4 f5⟩
 self:=(Fp (P:=P) (w:=w) (K:=K) (tg:=tg) a it n ep).self
def vR(tl:TE):TI:=λσ H R=>tl σ H λx H1=>(∃a kvs ep,x= .ref a/\H1 a=aA (.dK kvs ep)/\R (Itk a kvs.length ep) H1)\/(∃a kvs ep bs,x= .ref a/\H1 a=aA (.dT kvs ep bs)/\R (Itd a kvs.length ep) H1)
theorem qR(hl:PE X l tl):PI X tg l (vR tl):=by
 intro cO s σ H R I h;refine W7 (hl cO s σ H _ I h) λv s1 ZJ=>?_;obtain⟨x,H1,I1,r1,q1⟩:=ZJ;rcases q1 with⟨a,kvs,ep,rfl,hq,q⟩|⟨a,kvs,ep,bs,rfl,hq,q⟩
 .cases r1;obtain⟨z,hd,vs,ZR,od,es,g,x,c,ko,pr,nd⟩:=(show Wi X.prog X.w H1 s1.heap a (.dK kvs ep)from I1.hok a _ hq)
  have hz:es.size=kvs.length:=by rw[<-gc,E3 pr,<-Paired.length ZR]
  refine D0 hd g x c ⟨s1.heap.objs.size,[s1.heap.objs.size],_,_,H1,rfl,I1.kept (t':=s1.toks) λb o e=>bh _ e,Fp a _ kvs.length ep,⟨_,cj _ rfl,rfl,by rw[hz];rfl⟩,λb hb=>?_,q⟩;obtain rfl:=af.mp hb;exact I1.fpOk (bg _) (I1.hok.fresh (bg _))
 .cases r1;obtain⟨z,hd,xs,ZR,od,es,g,x,c,en,nd,QB⟩:=(show Wi X.prog X.w H1 s1.heap a (.dT kvs ep bs)from I1.hok a _ hq)
  have hz:es.size=kvs.length:=by rw[<-gc,en,ay,<-Paired.length ZR]
  refine D0 hd g x c ⟨s1.heap.objs.size,[s1.heap.objs.size],_,_,H1,rfl,I1.kept (t':=s1.toks) λb o e=>bh _ e,oS a _ kvs.length ep,⟨_,cj _ rfl,rfl,by rw[hz];rfl⟩,λb hb=>?_,q⟩;obtain rfl:=af.mp hb;exact I1.fpOk (bg _) (I1.hok.fresh (bg _))
section
variable{K:aj}
@[simp]noncomputable def Fa:Key->D
 | .inl i=>.int i
 | .inr x=>.str x
theorem D4(k):cX K F (Fa k) (kV k):=by
 cases k with
 |inl i=>exact .int i
 |inr x=>exact .str x
theorem E4:∀k:List Key,cQ K F (k.map Fa) (k.map kV)
 | []=>.nil
 |k::r=>.cons (D4 k) (E4 r)
theorem jx(h:F a=aA (.dK kvs ep)):Gi K (Itk a kvs.length ep) F ((kvs.map (·.1)).map Fa):=λF' H sF sH i=>by have q:H a=aA (.dK kvs ep):=sH _ _ (sF _ _ h);refine⟨λd hd=>?_,λhl=>⟨kvs,q,rfl,by simpa using hl⟩⟩;rw[b6,bz]at hd;obtain⟨kv,h1,h2⟩:=ez.mp hd;refine⟨⟨kvs,q,rfl,(bf.mp h1).1⟩,λx H' ⟨e1,ZX,kv',e2,e3,e4⟩=>?_⟩;subst e1;rw[q]at e2;cases e2;rw[h1]at e3;cases e3;subst e4;rw[<-h2];exact⟨Zo.refl _,[],cx,λ_ h=>(nomatch h),D4 _⟩
theorem jw(h:F a=aA (.dT kvs ep bs))(kb:KB F kvs bs):Gi K (Itd a kvs.length ep) F ((kvs.map (·.1)).map λk=>D.tup (k.map Fa)):=λF' H sF sH i=>by have q:H a=aA (.dT kvs ep bs):=sH _ _ (sF _ _ h);refine⟨λd hd=>?_,λhl=>⟨kvs,bs,q,rfl,by simpa using hl⟩⟩;rw[b6,bz]at hd;obtain⟨kv,h1,h2⟩:=ez.mp hd;refine⟨⟨kvs,bs,q,rfl,(bf.mp h1).1⟩,λx H' ⟨e1,ZX,bs',b,e2,e3,e4⟩=>?_⟩;subst e1;rw[q]at e2;cases e2;subst e4;obtain⟨b',g1,g2⟩:=Mo (kb.mono sF) h1;rw[e3]at g1;cases g1;rw[<-h2];exact⟨Zo.refl _,[],cx,λ_ h=>(nomatch h),.tup g2 (E4 _)⟩
@[simp]def HE(fe:FE):FD:=λδ=>(fe δ).bind λp=>(frz p.1 p.2).bind λq=>match q.1 with
 | .dK ks _=>aA (ks.map Fa,q.2)
 | .dT ks _=>aA (ks.map λk=>D.tup (k.map Fa),q.2)
 |_=>aB
theorem qQ{Z:cU K}(h:Ue Z (HE fe) σ H R):vR (Zf Z fe) σ H R:=by
 refine Yx h λF δ own ds δ' s e k=>?_;refine cT e λrv δ1 e1 e2=>?_;refine cT e2 λd δ2 e3 e4=>?_;refine⟨F,δ,own,rv,δ1,s,e1,λv H1 F1 own1 sH sF s1 r1=>?_⟩;refine Zr (s1.settleR r1) λF2 ZI s2 r2=>?_;refine Yd (s2.frzR r2 e3) λF3 ZP ZU s3 r3=>?_;dsimp only at e4;split at e4
 .cases e4;cases r3 with
  |dK h e r=>subst e;exact .inl ⟨_,_,_,rfl,s3.le _ _ h,k _ H1 F3 ZP sH (sF.trans (ZI.trans ZU)) s3 (jx h)⟩
 .cases e4;cases r3 with
  |dT h kb e r=>subst e;exact .inr ⟨_,_,_,_,rfl,s3.le _ _ h,k _ H1 F3 ZP sH (sF.trans (ZI.trans ZU)) s3 (jw h kb)⟩
 .cases e4
theorem eK{Z:cU X.K}(ha:PE X a (Zf Z fa)):PI X tg a (Ue Z (HE fa)):=λcO s σ H R I h=>qR ha cO s σ H R I (qQ h)
end
theorem jP{K}:FnOk P w K mg base CX k f fd ps (Y3 K n λ_=>aB):=by
 refine⟨λvs H Q E h=>?_,λA outer s H args us vs Q E hr he hb hv h=>?_⟩
 .obtain⟨F,ds,sv,_,_,_,e,_⟩:=h;cases e
 .obtain⟨F,ds,sv,_,_,_,e,_⟩:=h;cases e
section
variable{K:aj}
theorem eJ:∀b,(aB:Option av)=aA b->b=a:=λ_ h=>nomatch h
theorem lN(h:cV K F (.oL pin xss) v ns):∃a ws ns',v= .ref a/\ns=(a,.lst ws)::ns'/\cW K F xss ws ns'/\∀b,pin=aA b->b=a:=by
 cases h with
 |oL hp r=>exact⟨_,_,_,rfl,rfl,r,hp⟩
theorem cW.take:∀{xss:List (List D)} {ws:List V} {ns:Zu} n,cW K F xss ws ns->cW K F (xss.take n) (ws.take n) (ns.take n)
 |_,_,_,0,_=>.nil
 |_,_,_,_+1,.nil=>.nil
 |_,_,_,n+1,.cons r t=>.cons r (t.take n)
end
theorem Tc{X:Cx}{pos:Pos}(i)(hN:‹X.N[i]? =aA x›)(hv:Hh X.env.scope x:=by first|exact Or.inl rfl|exact fu (Or.inl rfl)|exact fu (fu rfl))(hd:‹(x==("__debug__":Str))=aD›)(YC:‹(x==("__classdict__":Str))=aD›):PE X (.Name x pos) (Ol i):=Om hN hv hd YC
theorem P0:∀{xs:List V} {us:List aq},Ym xs us->xs.all Wx=aC->us.countP (Hn x)=xs.countP λy=>Hm y x
 |_,_,.nil,_=>rfl
 |y::xs,u::us,.cons r t,f=>by rw[List.all_cons,dn]at f;rw[List.countP_cons,List.countP_cons,EG r f.1,P0 t f.2]
def xO(K:aj):V->List V->Hp->VK->Prop:=λx xs H Q=>∃p ys y,x= .ref p/\xs=[y]/\On K H p ys/\Wx y=aC/\ys.all Wx=aC/\Q (.int ((ys.countP λz=>Hm z y):Nat)) H
theorem lM:MtR X "list.count" (xO X.K):=by intro cO s σ H x xs v us Q I rx rs h;obtain⟨p,ys,y,rfl,rfl,hq,fy,fs,q⟩:=h;cases rx;obtain⟨u,rfl,ru⟩:=Uu rs;obtain⟨cS,r,⟨⟨cls,dd,data,sl⟩,n,e,hc,hdd,hd⟩,hz⟩:=I.list hq;simp only at hc hdd hd;subst hc hd;rw[<-P0 r fs]at q;exact call_meets PySem.F.slot_list_count ⟨_,e,rfl⟩ PySem.F.entry_list_count (PySem.F.args_list_count_2 _ _) (PySem.SeqAt.list_countAt p cS.toArray n dd sl u (Hn y)) ⟨e,λw hw=>Co ru fy r fs w (by simpa using hw),.int _,H,I.tok _,⟨_,rfl⟩,q⟩
def z_:V->List V->Hp->VK->Prop:=λx xs H Q=>∃a b i,x= .str a/\xs=[.str b,.int i]/\Q (.int (Txt.find3 a b i)) H
theorem lL:MtR X "str.find" z_:=by
 intro cO s σ H x xs v us Q I rx rs h;obtain⟨a,b,i,rfl,rfl,q⟩:=h;obtain⟨t,rfl⟩:=rx;cases rs with
 |cons r1 t1=>cases t1 with
  |cons r2 t2=>cases t2;obtain⟨t',rfl⟩:=r1;obtain⟨eQ,rfl⟩:=r2;exact SC.find3 ⟨.int _,H,I.tok _,⟨_,rfl⟩,q⟩
section
variable{K:aj}
section
variable{Z:cU K}
@[simp]def Cc:List D->Option SV
 | [.lst xs,x]=>if x.isFlat=aC/\xs.all D.isFlat=aC then aA (.fz (.int ((xs.countP λy=>V6 y x):Nat)))else aB
 |_=>aB
theorem oR:Kr Z (xO K) Cc:=by
 intro F H σ δ own vs ds sv Q s r e k;unfold Cc at e;split at e
 .rename_i xs x;split at e
  .rename_i hf;cases e;cases r with
   |cons h1 t=>cases t with
    |cons h2 t=>cases t;obtain⟨a,us,rfl,hq,rr⟩:=h1.lst s.le;obtain⟨g1,f1⟩:=MZ h2 hf.1;obtain⟨g2,f2⟩:=V5 rr hf.2;refine⟨_,_,rfl,a,us,_,rfl,rfl,hq,f1,f2,?_⟩;rw[g1,g2,List.countP_map];exact k.fz s (.int _)
  .cases e
 .cases e
@[simp]noncomputable def Xa:List D->Option SV
 | [.str a,.str b,.int i]=>aA (.fz (.int (Txt.find3 a b i)))
 |_=>aB
theorem oP:Kr Z z_ Xa:=by
 intro F H σ δ own vs ds sv Q s r e k;unfold Xa at e;split at e
 .cases e;cases r with
  |cons h1 t=>cases t with
   |cons h2 t=>cases t with
    |cons h3 t=>cases t;refine⟨_,_,rfl,_,_,_,h1.str,by rw[h2.str,h3.int],k.fz s (.int _)⟩
 .cases e
@[simp]noncomputable def MA(i:Nat)(j:Int):FS:=λδ=>match δ[i]? with
 |some (aA (.fz (.int x)))=>aA (.nx (δ.set i (aA (.fz (.int (x+j))))))
 |_=>aB
theorem eI(h:Zx Z (MA i j) E σ H):BE i (tC (.int j)) (ipI λi j=>i+j) E σ H:=by
 refine Ww h λF δ own fl s e k=>?_;unfold MA at e;split at e
 .rename_i x hx;cases e;obtain⟨v,hv,sh⟩:=s.at' i _ hx;have r:=Q0 sh;cases r;have hi:i<σ.length:=(bf.mp hv).1;exact⟨_,hv,_,_,rfl,rfl,k _ H F _ (Zo.refl F) (s.store (cZ.fz (.int _)) hi)⟩
 .cases e
theorem Ry(s:SR Z F H σ δ own)(h:δ[i]? =aA (aA (.oL pin xss))):
  ∃a ws ns,σ[i]? =aA (aA (.ref a))/\own i=(a,HO.lst ws)::ns/\cW K F xss ws ns/\(∀b,pin=aA b->b=a)/\H a=aA (.lst ws)/\a∉B9 ns/\(B9 ns).Nodup:=by
 obtain⟨v,hv,sh⟩:=s.at' i _ h;obtain⟨a,ws,ns,rfl,en,kd,hp⟩:=lN sh;have nd:=s.nod i;rw[en]at nd;obtain⟨q1,q2⟩:=cq.mp nd;exact⟨a,ws,ns,hv,en,kd,hp,(s.ok i (a,.lst ws) (by rw[en];exact aa)).2.2,q1,q2⟩
theorem oO(s:SR Z F H σ δ own)(sh:cV K F sv (.ref p) [(p,o)])(hp:H p=aB):cZ Z F (Wu H p o) own sv (.ref p) [(p,o)]:=by
 refine⟨sh,Fk,λq hq=>?_,λi q r hq hr e=>?_⟩
 .obtain rfl:=af.mp hq;exact⟨s.le.free hp,s.old.free hp,Yp⟩
 .obtain rfl:=af.mp hq;have e':p=r.1:=e;have z:=(s.ok i r hr).2.2;rw[<-e',hp]at z;cases z
@[simp]noncomputable def HZ:FE:=λδ=>some (.tmp (.oL none [[]]),δ)
theorem qP(h:Zf Z HZ σ H Q):OV (O6 (OV Rh) Rh) σ H Q:=by
 refine Yx h λF δ own rv δ' s e k=>?_;cases e;refine⟨cr _,λb hb=>⟨by show 1<=_;decide,λa ha=>?_⟩⟩;have S1:=Jh (o:=.lst []) hb;have S2:=Jh (o:=.lst [.ref b]) ha;have JY:a≠b:=λz=>by rw[z,Yp]at ha;cases ha
 have UX:H a=aB:=S1.free ha;refine k (.ref a) _ F own (S1.trans S2) (Zo.refl F) (s.grow (S1.trans S2)) ⟨[(a,.lst [.ref b]),(b,.lst [])],.oL eJ (.cons .nil .nil),?_,λp hp=>?_,λi p q hp hq e=>?_⟩
 .exact cq.mpr ⟨λz=>JY (af.mp z),Fk⟩
 .rcases ba.mp hp with z|z
  .subst z;exact⟨s.le.free UX,s.old.free UX,Yp⟩
  .have z:=af.mp z;subst z;exact⟨s.le.free hb,s.old.free hb,S2 _ _ Yp⟩
 .have hq':=(s.ok i q hq).2.2;rw[<-e]at hq';rcases ba.mp hp with z|z
  .subst z;rw[UX]at hq';cases hq'
  .have z:=af.mp z;subst z;rw[hb]at hq';cases hq'
noncomputable def K8(i:Nat):FS:=λδ=>match δ[i]? with
 |some (aA (.oL p xss))=>if xss.length<bu then aA (.nx (δ.set i (aA (.oL p (xss++[[]])))))else aB
 |_=>aB
@[simp]theorem lK(hi:δ[i]? =some (some (.oL p xss)))(hz:xss.length<bu):K8 i δ=some (.nx (δ.set i (some (.oL p (xss++[[]]))))):=by unfold K8;rw[hi];exact bJ hz
theorem rT(h:Zx Z (K8 i) E σ H):M7 (tBM K "list" Ou (Ol i) (O6 (OV Rh) Rh)) E σ H:=by
 refine Ww h λF δ own fl s e k=>?_;unfold K8 at e;split at e
 .rename_i p xss hi;split at e
  .rename_i hz;cases e;obtain⟨a,ws,ns,hv,en,kd,hp,hH,q1,q2⟩:=Ry s hi;have mb:(a,HO.lst ws)∈own i:=by rw[en];exact aa
   refine⟨_,hv,.inl ⟨rfl,ws,.inl (.inl hH)⟩,cr _,λb hb=>?_⟩;have S1:=Jh (o:=.lst []) hb;have s1:=s.grow S1;have t:=oO (sv:=.ol []) s (.ol .nil) hb;refine⟨a,ws,.ref b,rfl,rfl,S1 _ _ hH,by rw[<-kd.length];exact hz,?_⟩;have XQ:∀p∈own i,p.1≠b:=λp hp z=>t.sep i (b,.lst []) p aa hp z.symm;refine k σ _ F _ (Zo.refl F) (s1.changeT (sv':=.oL p (xss++[[]])) (o':=.lst (ws++[.ref b])) (ns':=(a,.lst (ws++[.ref b]))::(ns++[(b,.lst [])])) t hi hv mb (.oL hp (kd.snoc .nil)) (λp hp=>?_) ?_)
   .rcases ba.mp hp with z|z
    .exact .inl z
    .rcases bo.mp z with z|z
     .exact .inr (.inl ⟨by rw[en];exact ad _ z,λw=>q1 (bd.mpr ⟨p,z,w⟩)⟩)
     .exact .inr (.inr z)
   .show(a::(ns++[(b,HO.lst [])]).map (·.1)).Nodup;rw[cm];refine cq.mpr ⟨λz=>?_,?_⟩
    .rcases bo.mp z with z|z
     .exact q1 z
     .exact XQ _ mb (af.mp z)
    .refine dm.mpr ⟨q2,Fk,λx hx y hy z=>?_⟩;obtain⟨p,hp,ep⟩:=bd.mp hx;have WC:y=b:=af.mp hy;exact XQ p (by rw[en];exact ad _ hp) (by rw[ep,z,WC])
  .cases e
 .cases e
theorem cW.getV:∀{xss:List (List D)} {ws:List V} {ns:Zu} {p:Nat} {xs:List D},cW K F xss ws ns->xss[p]? =aA xs->∃b vs,ws[p]? =aA (.ref b)/\ns[p]? =aA (b,HO.lst vs)/\cQ K F xs vs
 |_,_,_,_,_,.nil,e=>by simp at e
 |_,_,_,0,_,.cons r _,e=>by simp at e;subst e;exact⟨_,_,rfl,rfl,r⟩
 |_,_,_,p+1,_,.cons _ t,e=>by refine Yd (t.getV (p:=p) (by simpa using e)) λb vs h1 h2 h3=>?_;exact⟨b,vs,by simpa using h1,by simpa using h2,h3⟩
theorem cW.lenN:∀{xss:List (List D)} {ws:List V} {ns:Zu},cW K F xss ws ns->xss.length=ns.length
 |_,_,_,.nil=>rfl
 |_,_,_,.cons _ t=>by rw[bc,bc,t.lenN]
theorem lJ{x:α}(h:ws[ws.length- 1]? =aA x):atI ws (-1)=aA x:=by
 have hl:=(bf.mp h).1;have e:ws=ws.dropLast++[x]:=by
  have YZ:ws≠[]:=λz=>by subst z;simp at hl
  have h2:ws.getLast YZ=x:=by rw[List.getLast_eq_getElem];exact(bf.mp h).2
  rw[<-h2];exact(List.dropLast_concat_getLast YZ).symm
 rw[e];exact km _ _
abbrev N_(K:aj)(i:Nat):TE:=tOp (MP K) (Ol i) (tC (.int (-1)))
theorem rS(s:SR Z F H σ δ own)(h:δ[i]? =aA (aA (.oL pin xss)))(hx:xss[xss.length- 1]? =aA xs):
  ∃a ws ns b vs,σ[i]? =aA (aA (.ref a))/\own i=(a,HO.lst ws)::ns/\cW K F xss ws ns/\H a=aA (.lst ws)/\ws[ws.length- 1]? =aA (.ref b)/\(b,HO.lst vs)∈own i/\H b=aA (.lst vs)/\cQ K F xs vs/\∀R,R (.ref b) H->N_ K i σ H R:=by
 obtain⟨a,ws,ns,hv,en,kd,hp,hH,q1,q2⟩:=Ry s h;refine Yd (kd.getV hx) λb vs h1 h2 h3=>?_;have mb:(b,HO.lst vs)∈own i:=by rw[en];exact ad _ (cy h2)
 rw[kd.length]at h1;exact⟨a,ws,ns,b,vs,hv,en,kd,hH,h1,mb,(s.ok i _ mb).2.2,h3,λR r=>⟨_,hv,a,ws,-1,_,rfl,rfl,.inl (.inl hH),lJ h1,r⟩⟩
def Ug(i:Nat)(fe:FE):FS:=λδ=>match δ[i]? with
 |some (aA (.oL _ xss0))=>if xss0.length=0 then aB else(fe δ).bind λq=>(frz q.1 q.2).bind λr=>match r.2[i]? with
  |some (aA (.oL p xss))=>(xss[xss.length- 1]?).bind λxs=>if xs.length<bu then aA (.nx (r.2.set i (aA (.oL p (xss.set (xss.length- 1) (xs++[r.1]))))))else aB
  |_=>aB
 |_=>aB
theorem lI{α:Type}(ZK)(x z:α):(ZK++[x]).set ((ZK++[x]).length- 1) z=ZK++[z]:=by rw[ao,b4,Nat.add_sub_cancel,List.set_append_right _ _ (bg _),Nat.sub_self,List.set_cons_zero]
theorem D5{α:Type}(ZK)(x:α):(ZK++[x])[(ZK++[x]).length- 1]? =aA x:=by rw[ao,b4,Nat.add_sub_cancel,dv (bg _),Nat.sub_self];rfl
theorem Ir(hi:δ[i]? =aA (aA (.oL p xss0)))(hn:xss0.length≠0)(h1:fe δ=aA (rv,δ1))(h2:frz rv δ1=aA (d,δ2))(h3:δ2[i]? =aA (aA (.oL p2 (ZK++[xs]))))(hz:xs.length<bu):
  Ug i fe δ=aA (.nx (δ2.set i (aA (.oL p2 (ZK++[xs++[d]]))))):=by
 unfold Ug;rw[hi];dsimp only;rw[bI hn,h1,f8,h2,f8];dsimp only;rw[h3];dsimp only;rw[D5,f8,bJ hz,lI]
theorem jO(h:Zx Z (Ug i fe) E σ H):M7 (tBM K "list" Ou (N_ K i) (O6 (Zf Z fe) Rh)) E σ H:=by
 refine Ww h λF δ own fl s e k=>?_;unfold Ug at e;split at e
 .rename_i p0 xss0 hi;split at e
  .cases e
  rename_i hn0;refine cT e λrv δ1 f3 e=>?_;refine cT e λd δ2 f4 e=>?_;obtain⟨xs0,UJ⟩:∃xs0,xss0[xss0.length- 1]? =aA xs0:=⟨xss0[xss0.length- 1]'(by omega),dq (by omega)⟩
  obtain⟨a,ws,ns,b,XX,hv,en,kd,hH,hw,m0,hb0,_,top⟩:=rS s hi UJ;refine top _ ?_;refine⟨.inl ⟨rfl,XX,.inl (.inl hb0)⟩,F,δ,own,rv,δ1,s,f3,λw H1 F1 own1 X_ YV s1 r1=>?_⟩;refine Zr (s1.settleR r1) λF2 ZI s2 r2=>?_;refine Yd (s2.frzR r2 f4) λF3 ZP ZU s3 r3=>?_;dsimp only at e;split at e
  .rename_i p xss ho;refine cR e λxs f5 e=>?_;split at e
   .rename_i hz;cases e;obtain⟨a3,vc,vw,DN,TY,NP,uJ,hH3,XY,EY⟩:=Ry s3 ho;rw[hv]at DN;cases DN;have:aA (HO.lst vc)=aA (HO.lst ws):=hH3.symm.trans (X_ _ _ hH);cases this;have c1:ws[xss.length- 1]? =aA (.ref b):=by rw[NP.length];exact hw
    refine G9 (NP.app c1 EY) λys vs k1 k2 k3 k4=>?_;rw[f5]at k1;cases k1;refine Zr (k4 r3) λns' j1 j2 j3=>?_;have NN:(a,HO.lst ws)∈ZP i:=by rw[TY];exact aa
    have QY:(b,HO.lst vs)∈ZP i:=by rw[TY];exact ad _ k2
    have YZ:a≠b:=λz=>XY (bd.mpr ⟨_,k2,z.symm⟩);refine⟨b,vs,w,rfl,rfl,(s3.ok i _ QY).2.2,by rw[<-k3.length];exact hz,?_⟩;refine k σ _ F3 _ (YV.trans (ZI.trans ZU)) (s3.change (sv':=.oL p (xss.set (xss.length- 1) (xs++[d]))) (o':=.lst (vs++[w])) (ns':=(a,.lst ws)::ns') ho hv QY (.oL uJ j1) (λq hq=>?_) ?_)
    .rcases ba.mp hq with z|z
     .exact .inr ⟨by rw[z];exact NN,by rw[z];exact YZ⟩
     .rcases j3 q z with z|⟨z,z2⟩
      .exact .inl z
      .exact .inr ⟨by rw[TY];exact ad _ z,z2⟩
    .show(a::B9 ns').Nodup;rw[j2];exact cq.mpr ⟨XY,EY⟩
   .cases e
  .cases e
 .cases e
end
end
section
variable{K:aj}
section
variable{Z:cU K}{H:Hp}{Q:VK}{E:Ends}
noncomputable def Iu(i:Nat):FE:=λδ=>match δ[i]? with
 |some (aA (.oL _ xss))=>aA (.tmp (.fz (.int (xss.length:Nat))),δ)
 |_=>aB
@[simp]theorem K9(hi:δ[i]? =some (some (.oL p xss))):Iu i δ=some (.tmp (.fz (.int (xss.length:Nat))),δ):=by unfold Iu;rw[hi]
abbrev eG(K:aj):List V->Hp->VK->Prop:=λxs H Q=>∃p ys,xs=[V.ref p]/\(On K H p ys\/Er K H p ys)/\Q (.int ys.length) H
theorem rR(h:Zf Z (Iu i) σ H Q):tCB (eG K) (O6 (Ol i) Rh) σ H Q:=by
 refine Yx h λF δ own rv δ' s e k=>?_;unfold Iu at e;split at e
 .rename_i p xss hi;cases e;obtain⟨a,ws,ns,hv,en,kd,hp,hH,q1,q2⟩:=Ry s hi;refine⟨_,hv,a,ws,rfl,.inl (.inl (.inl hH)),?_⟩;rw[<-kd.length];exact k _ H F own (Zo.refl H) (Zo.refl F) s ⟨[],.fz (.int _)⟩
 .cases e
noncomputable def Cy(i:Nat):FE:=λδ=>match δ[i]? with
 |some (aA (.oL _ (xs::_)))=>aA (.tmp (.fz (.tup xs)),δ)
 |_=>aB
@[simp]theorem D6(hi:δ[i]? =some (some (.oL p (xs::xss)))):Cy i δ=some (.tmp (.fz (.tup xs)),δ):=by unfold Cy;rw[hi]
abbrev eF(K:aj):List V->Hp->VK->Prop:=λxs H Q=>∃p ys,xs=[V.ref p]/\((On K H p ys/\∀l,H l=aB->Q (.ref l) (Wu H l (.tup ys)))\/(Er K H p ys/\Q (.ref p) H))
theorem jN(h:Zf Z (Cy i) σ H Q):tCB (eF K) (O6 (tOp (MP K) (Ol i) (tC (.int 0))) Rh) σ H Q:=by
 refine Yx h λF δ own rv δ' s e k=>?_;unfold Cy at e;split at e
 .rename_i p xs xss hi;cases e;obtain⟨a,ws,ns,hv,en,kd,hp,hH,q1,q2⟩:=Ry s hi;refine Yd (kd.getV (p:=0) rfl) λb vs h1 h2 h3=>?_;have mb:(b,HO.lst vs)∈own i:=by rw[en];exact ad _ (cy h2)
  refine⟨_,hv,a,ws,0,.ref b,rfl,rfl,.inl (.inl hH),nq (j:=0) h1,b,vs,rfl,.inl ⟨.inl (.inl (s.ok i _ mb).2.2),λl hl=>?_⟩⟩;exact Nk.tup (λv H2 F2 ns a b c t=>k v H2 F2 own a b c ⟨ns,t⟩) s h3 hl
 .cases e
noncomputable def La(j i:Nat):FS:=λδ=>match δ[i]? with
 |some (aA (.oL p xss))=>(xss[xss.length- 1]?).bind λxs=>if i≠j/\j<δ.length then aA (.nx ((δ.set i (aA (.oL p xss.dropLast))).set j (aA (.ol xs))))else aB
 |_=>aB
theorem lH(hi:δ[i]? =aA (aA (.oL p (ZK++[xs]))))(TR:i≠j)(hj:j<δ.length):La j i δ=aA (.nx ((δ.set i (aA (.oL p ZK))).set j (aA (.ol xs)))):=by unfold La;rw[hi];dsimp only;rw[D5,f8,bJ ⟨TR,hj⟩,List.dropLast_concat]
theorem cW.dropLast(h:cW K F xss ws ns):cW K F xss.dropLast ws.dropLast ns.dropLast:=by rw[List.dropLast_eq_take,List.dropLast_eq_take,List.dropLast_eq_take,<-h.length,<-h.lenN];exact h.take _
theorem rQ(h:Zx Z (La j i) E σ H):OU (CN K "list" CM (Ol i)) (Il j) E σ H:=by
 refine Ww h λF δ own fl s e k=>?_;unfold La at e;split at e
 .rename_i p xss hi;refine cR e λxs e1 e2=>?_;split at e2
  .rename_i hc;cases e2;obtain⟨a,ws,ns,hv,en,kd,hp,hH,q1,q2⟩:=Ry s hi;refine Yd (kd.getV e1) λb vs h1 h2 h3=>?_;have hl:=(bf.mp h2).1;have XU:ns=ns.dropLast++[(b,HO.lst vs)]:=by
    have YZ:ns≠[]:=λz=>by subst z;simp at hl
    have h9:ns.getLast YZ=(b,HO.lst vs):=by rw[kd.lenN]at h2;rw[List.getLast_eq_getElem];exact(bf.mp h2).2
    rw[<-h9];exact(List.dropLast_concat_getLast YZ).symm
   have mn:(b,HO.lst vs)∈ns:=by rw[XU];exact bp _ aa
   have mb:(b,HO.lst vs)∈own i:=by rw[en];exact ad _ mn
   have ma:(a,HO.lst ws)∈own i:=by rw[en];exact aa
   have NU:b≠a:=λz=>q1 (bd.mpr ⟨_,mn,z⟩);have nd2:=q2;rw[XU]at nd2;have KW:(B9 ns.dropLast++[b]).Nodup:=by unfold B9 at nd2;rw[cm]at nd2;exact nd2
   obtain⟨n1,n2,n3⟩:=dm.mp KW;refine⟨_,hv,.inl ⟨rfl,ws,.inl (.inl hH)⟩,a,ws,.ref b,rfl,rfl,hH,by rw[<-kd.length];exact h1,?_⟩;have sub:∀p∈ns.dropLast,p∈own i:=λp hp=>by rw[en,XU];exact ad _ (ci _ hp)
   have s1:=s.change (sv':=.oL p xss.dropLast) (o':=.lst ws.dropLast) (ns':=(a,.lst ws.dropLast)::ns.dropLast) hi hv ma (.oL hp kd.dropLast) (λq hq=>by
    rcases ba.mp hq with z|z
    .exact .inl z
    .exact .inr ⟨sub q z,λw=>q1 (bd.mpr ⟨q,by rw[XU];exact ci _ z,w⟩)⟩) (by
    show(a::B9 ns.dropLast).Nodup;exact cq.mpr ⟨λz=>q1 (by
     obtain⟨q,hq,eq⟩:=bd.mp z;exact bd.mpr ⟨q,by rw[XU];exact ci _ hq,eq⟩),n1⟩)
   have ok:=s.ok i _ mb;have t:cZ Z F (Wu H a (.lst ws.dropLast)) (put own i ((a,.lst ws.dropLast)::ns.dropLast)) (.ol xs) (.ref b) [(b,.lst vs)]:=by
    refine⟨.ol h3,Fk,λq hq=>?_,λl q r hq hr z=>?_⟩
    .obtain rfl:=af.mp hq;exact⟨ok.1,ok.2.1,by rw[Zv NU];exact ok.2.2⟩
    .obtain rfl:=af.mp hq;by_cases hl:l=i
     .subst hl;rw[Z4]at hr;rcases ba.mp hr with y|y
      .subst y;exact NU z
      .exact n3 r.1 (bd.mpr ⟨r,y,rfl⟩) b aa z.symm
     .rw[Yb hl]at hr;exact s.sep i l _ r (Ne.symm hl) mb hr z
   exact k _ _ F _ (Zo.refl F) (s1.store t (by rw[s.len];exact hc.2))
  .cases e2
 .cases e
noncomputable def Bb(H:Hp)(ns:Zu):Hp:=λb=>if b∈B9 ns then aB else H b
theorem xN:Zo (Bb H ns) H:=λb o e=>by
 unfold Bb at e;split at e
 .cases e
 .exact e
theorem xM(h:b∈B9 ns):Bb H ns b=aB:=bJ h
theorem Cz(h:b∉B9 ns):Bb H ns b=H b:=bI h
theorem jM(h:Bb H ns b=aB):b∈B9 ns\/H b=aB:=by
 by_cases hb:b∈B9 ns
 .exact .inl hb
 .rw[Cz hb]at h;exact .inr h
def spM(K:aj)(g:av->List (List D)->Option (List (List D))):Sp:=λvs H Q _=>∃F a xss ws ns ZK,vs=[V.ref a]/\Zo F H/\cW K F xss ws ns/\(B9 ((a,HO.lst ws)::ns)).Nodup/\(∀p∈(a,HO.lst ws)::ns,F p.1=aB/\H p.1=aA p.2)/\g a xss=aA ZK/\
 ∀H' F' W_ ns',Zo (Bb H ((a,.lst ws)::ns)) H'->Zo F F'->Zo F' H'->(∀(b:av) (o:HO),F' b=aA o->F b=aA o\/Bb H ((a,.lst ws)::ns) b=aB)->cW K F' ZK W_ ns'->(B9 ((a,HO.lst W_)::ns')).Nodup->
  (∀p∈(a,HO.lst W_)::ns',F' p.1=aB/\Bb H ((a,.lst ws)::ns) p.1=aB/\H' p.1=aA p.2)->Q .non H'
theorem oM{E}(h:spM K g vs H Q E):vs.length=1:=by obtain⟨F,a,xss,ws,ns,ZK,rfl,_⟩:=h;rfl
@[simp]noncomputable def rP(n:Nat)(a:av)(xss:List (List D)):Wa:=some (.oL (some a) xss)::List.replicate (n- 1) none
@[simp]noncomputable def AZ(a:av)(o:Option (Option SV)):Option (List (List D)):=match o with
 |some (aA (.oL (aA b) ZK))=>if b=a then aA ZK else aB
 |_=>aB
@[simp]def OK(f:FS)(n:Nat)(a:av)(xss:List (List D)):Option (List (List D)):=match f (rP n a xss)with
 |some (.nx δ)=>AZ a δ[0]?
 |_=>aB
theorem jL{E}(hN:0<N.length)(h:spM K (OK f N.length) vs H Q E):∃G F,Zx (ent G F:cU K) f {nx:=λ_ H'=>Q .non H',rt:=Q} (L2.start N vs) H:=by
 obtain⟨F,a,xss,ws,ns,ZK,rfl,le,kd,nd,ok,e,k⟩:=h;refine⟨Bb H ((a,.lst ws)::ns),F,?_⟩;have s0:SR (ent (Bb H ((a,.lst ws)::ns)) F:cU K) F H (List.replicate N.length aB) (List.replicate N.length aB) λ_=>[]:=
  ⟨le,λb o e=>.inl e,xN,by rw[List.length_replicate,List.length_replicate],λi sv e=>(by rw[List.getElem?_replicate]at e;split at e<;> cases e),λ_=>cx,λ_ _ h=>(nomatch h),λ_ _ _ _ _ h=>(nomatch h)⟩
 have t:cZ (ent (Bb H ((a,.lst ws)::ns)) F:cU K) F H (λ_=>[]) (.oL (aA a) xss) (.ref a) ((a,.lst ws)::ns):=
  ⟨.oL (λb e=>by cases e;rfl) kd,nd,λp hp=>⟨(ok p hp).1,xM (bd.mpr ⟨p,hp,rfl⟩),(ok p hp).2⟩,λ_ _ _ _ h=>(nomatch h)⟩
 have s1:=s0.store (i:=0) t (by rw[List.length_replicate];exact hN);have st:∀(α:Type) (n:Nat) (x:α) (y:α),0<n->(List.replicate n y).set 0 x=x::List.replicate (n- 1) y:=λα n x y hn=>by
  cases n with
  |zero=>omega
  |succ m=>rw[List.replicate_succ,List.set_cons_zero];rfl
 rw[st _ _ _ _ hN,st _ _ _ _ hN]at s1;unfold OK at e;split at e
 .rename_i δ hf;unfold AZ at e;split at e
  .rename_i b zss h0;split at e
   .rename_i NU;cases e;subst NU;refine⟨F,_,_,.nx δ,s1,hf,λZB H' F' own' a' s'=>?_⟩;obtain⟨c,W_,ns',hv,en,RY,hp,hH,q1,q2⟩:=Ry s' h0;obtain rfl:=hp b rfl;refine k H' F' W_ ns' s'.old a' s'.le s'.fro RY ?_ λp hp=>?_
    .have:=s'.nod 0;rw[en]at this;exact this
    .exact s'.ok 0 p (by rw[en];exact hp)
   .cases e
  .cases e
 .cases e
open Classical in
def Nr(i:Nat)(g:av->List (List D)->Option (List (List D))):FS:=λδ=>match δ[i]? with
 |some (aA (.oL p xss))=>if h:∃o,∀a,g a xss=aA o then aA (.nx (δ.set i (aA (.oL p h.choose))))else aB
 |_=>aB
theorem xL(hi:δ[i]? =aA (aA (.oL p xss)))(hg:∀a,g a xss=aA ZK):Nr i g δ=aA (.nx (δ.set i (aA (.oL p ZK)))):=by
 unfold Nr;rw[hi];have h:∃o,∀a,g a xss=aA o:=⟨ZK,hg⟩
 dsimp only;rw[dif_pos h];have:=h.choose_spec 0;rw[hg 0]at this;rw[<-Option.some.inj this]
theorem eE(h:Zx Z (Nr i g) E σ H):M7 (Hj (spM K g) [] E' (O6 (Ol i) Rh)) E σ H:=by
 refine Ww h λF δ own fl s e k=>?_;unfold Nr at e;split at e
 .rename_i p xss hi;split at e
  .rename_i hg;cases e;obtain⟨a,ws,ns,hv,en,kd,hp,hH,q1,q2⟩:=Ry s hi;have JS:i<δ.length:=(bf.mp hi).1;have JA:∀b,b∈B9 ((a,HO.lst ws)::ns)->∃q∈own i,b=q.1:=λb hb=>by obtain⟨q,hq,e⟩:=bd.mp hb;exact⟨q,by rw[en];exact hq,e.symm⟩
   have zh:∀b,Bb H ((a,.lst ws)::ns) b=aB->Z.h b=aB:=λb hb=>by
    rcases jM hb with z|z
    .obtain⟨q,hq,e⟩:=JA b z;rw[e];exact(s.ok i q hq).2.1
    .exact s.old.free z
   have keep:∀j,j≠i->∀q∈own j,Bb H ((a,.lst ws)::ns) q.1=aA q.2:=λj hj q hq=>by
    rw[Cz λz=>?_]
    .exact(s.ok j q hq).2.2
    .obtain⟨r,hr,e⟩:=JA _ z;exact s.sep j i q r hj hq hr e
   refine⟨_,hv,F,a,xss,ws,ns,_,rfl,s.le,kd,by rw[<-en];exact s.nod i,λq hq=>?_,hg.choose_spec a,λH' F' W_ ns' sH sF SN XN RY SM KO=>?_⟩
   .have:=s.ok i q (by rw[en];exact hq);exact⟨this.1,this.2.2⟩
   refine k σ H' F' (put own i ((a,.lst W_)::ns')) sF ⟨SN,λb o e=>?_,λb o e=>?_,by rw[List.length_set];exact s.len,λj sv e=>?_,λj=>?_,λj q hq=>?_,λj l q r VP hq hr=>?_⟩
   .rcases XN b o e with z|z
    .exact s.fro b o z
    .exact .inr (zh b z)
   .refine sH b o ?_;rw[Cz λz=>?_]
    .exact s.old b o e
    .obtain⟨q,hq,e'⟩:=JA b z;rw[e',(s.ok i q hq).2.1]at e;cases e
   .by_cases hj:j=i
    .subst hj;rw[d3 JS]at e;cases e;rw[Z4];exact⟨_,hv,.oL hp RY⟩
    .rw[du (Ne.symm hj)]at e;obtain⟨v,h1,h2⟩:=s.at' j sv e;rw[Yb hj];exact⟨v,h1,h2.mono sF⟩
   .by_cases hj:j=i
    .subst hj;rw[Z4];exact SM
    .rw[Yb hj];exact s.nod j
   .by_cases hj:j=i
    .subst hj;rw[Z4]at hq;obtain⟨x1,x2,x3⟩:=KO q hq;exact⟨x1,zh _ x2,x3⟩
    .rw[Yb hj]at hq;obtain⟨x1,x2,x3⟩:=s.ok j q hq;refine⟨?_,x2,sH _ _ (keep j hj q hq)⟩;cases z:F' q.1 with
     |none=>rfl
     |some u=>
      rcases XN _ u z with y|y
      .rw[x1]at y;cases y
      .rw[keep j hj q hq]at y;cases y
   .by_cases hj:j=i
    .subst hj;rw[Z4]at hq;rw[Yb (Ne.symm VP)]at hr;intro e;have z:=(KO q hq).2.1;rw[e,keep l (Ne.symm VP) r hr]at z;cases z
    .by_cases hl:l=i
     .subst hl;rw[Z4]at hr;rw[Yb hj]at hq;intro e;have z:=(KO r hr).2.1;rw[<-e,keep j hj q hq]at z;cases z
     .rw[Yb hj]at hq;rw[Yb hl]at hr;exact s.sep j l q r VP hq hr
  .cases e
 .cases e
end
end
section
variable{X:Cx}{Z:cU X.K}{a b c:ca}{fa fb fc:FE}{pos:Pos}
theorem rO:PE X (.UnaryOp .USub (.Constant (.int 1) jj p1) p2) (tC (.int (-1))):=(zB yY S3).imp λ_ _ _ h=>⟨1,rfl,h⟩
theorem AY(ha:PE X a (Ol i)):PE X (.Subscript a (.UnaryOp .USub (.Constant (.int 1) jj p1) p2) p3) (N_ X.K i):=GV S9 ha rO (by intro _ _;rfl)
theorem rN(he:‹au [.List [] p1] X.env=(aD,dj (.List [] p1) X.env)::au [] X.env›):PE X (.List [.List [] p1] pos) (Zf Z HZ):=(S7 (Wn (S7 Ql) Ql he)).imp λ_ _ _ h=>qP h
theorem FN(i){p}(hm:X.mg "len"=aB)(ha:PE X a (Ol i))(hg:‹Gl X "len"›)(he:‹au [a] X.env=(aD,dj a X.env)::au [] X.env›)(ZH:‹(c9 pos (au [] X.env)).any (·.1)=aD›):PE X (.Call (.Name "len" p) [a] [] pos) (Zf Z (Iu i)):=
 (Kd Ah hg hm PySem.boot_len (Wn ha Ql he) (by decide) (by decide) he ZH).imp λ_ _ _ h=>rR h
theorem jK(i){jj}{p p1 p2}(hm:X.mg "tuple"=aB)(ha:PE X a (Ol i))(hg:‹Gl X "tuple"›)(he:‹au [.Subscript a (.Constant (.int 0) jj p1) p2] X.env=(aD,dj (.Subscript a (.Constant (.int 0) jj p1) p2) X.env)::au [] X.env›)(ZH:‹(c9 pos (au [] X.env)).any (·.1)=aD›):
  PE X (.Call (.Name "tuple" p) [.Subscript a (.Constant (.int 0) jj p1) p2] [] pos) (Zf Z (Cy i)):=
 (N8 M9 hg hm boot_tuple (Wn (GV S9 ha S3 (by intro _ _;rfl)) Ql he) (by decide) (by decide) he ZH).imp λ_ _ _ h=>jN h
theorem rM(i){px ZC ZA lp}(hN:‹X.N[i]? =aA x›)(hv:Hh X.env.scope x:=by first|exact Or.inl rfl|exact fu (Or.inl rfl)|exact fu (fu rfl))(hd:‹(x==("__debug__":Str))=aD›)(YC:‹(x==("__classdict__":Str))=aD›)(ZF:‹eg (.Name x px) "append" X.env (dj (.Name x px) X.env)=dj (.Name x px) X.env›)(ZQ:‹((c9 ZA (au [.List [] lp] X.env)).all (λx=>!x.1)&&(backToKw ZA (f9 [] X.env)).all (λx=>x.1.isSome)&&decide ([Expr.List [] lp].length+([]:List f7).length+(if([]:List f7).isEmpty then 0 else 1)<30))=aC›)(ZE:‹(ZC.endLine==ZA.line)=aC›)(hs:‹au [.List [] lp] X.env=(aD,dj (.List [] lp) X.env)::au [] X.env›)(ZH:‹(c9 ZA (au [] X.env)).any (·.1)=aD›)(Y':‹swapsWith (.Call (.Attribute (.Name x px) "append" ZC) [.List [] lp] [] ZA) aB pos.line X.env=pure aD›):
  PS X (.Expr (.Call (.Attribute (.Name x px) "append" ZC) [.List [] lp] [] ZA) pos) (Zx Z (K8 i)):=
 (Ot (Cp PySem.F.plainAttrs_list PySem.F.slot_list_append PySem.F.type_list_append O3 (Om (i:=i) hN hv hd YC) (Wn (S7 Ql) Ql hs) ZF ZQ ZE hs ZH) Y').imp λ_ _ _ h=>rT h
theorem P3(i){ZC ZA}(ha:PE X a (N_ X.K i))(hb:PE X b (Zf Z fb))(ZF:‹eg a "append" X.env (dj a X.env)=dj a X.env›)(ZQ:‹((c9 ZA (au [b] X.env)).all (λx=>!x.1)&&(backToKw ZA (f9 [] X.env)).all (λx=>x.1.isSome)&&decide ([b].length+([]:List f7).length+(if([]:List f7).isEmpty then 0 else 1)<30))=aC›)(ZE:‹(ZC.endLine==ZA.line)=aC›)(hs:‹au [b] X.env=(aD,dj b X.env)::au [] X.env›)(ZH:‹(c9 ZA (au [] X.env)).any (·.1)=aD›)(Y':‹swapsWith (.Call (.Attribute a "append" ZC) [b] [] ZA) aB pos.line X.env=pure aD›):
  PS X (.Expr (.Call (.Attribute a "append" ZC) [b] [] ZA) pos) (Zx Z (Ug i fb)):=
 (Ot (Cp PySem.F.plainAttrs_list PySem.F.slot_list_append PySem.F.type_list_append O3 ha (Wn hb Ql hs) ZF ZQ ZE hs ZH) Y').imp λ_ _ _ h=>jO h
theorem rL(j i){y:Str}{px py ZC ZA}(hN:X.N.Nodup)(hi:‹X.N[i]? =aA x›)(hv:Hh X.env.scope x:=by first|exact Or.inl rfl|exact fu (Or.inl rfl)|exact fu (fu rfl))(hd:‹(x==("__debug__":Str))=aD›)(YC:‹(x==("__classdict__":Str))=aD›)(ZF:‹eg (.Name x px) "pop" X.env (dj (.Name x px) X.env)=dj (.Name x px) X.env›)(ZE:‹(ZC.endLine==ZA.line)=aC›)(hj:‹X.N[j]? =aA y›)(hy:Loc X.env.scope y:=by first|exact Or.inl rfl|exact fu rfl)(hs:‹swapsWith (.Call (.Attribute (.Name x px) "pop" ZC) [] [] ZA) (aA (.Name y py)) pos.line X.env=pure aD›)(hf:‹X.fn y=aC\/X.env.scope.names.lookup y=aA .local›):
  PS X (.Assign [.Name y py] (.Call (.Attribute (.Name x px) "pop" ZC) [] [] ZA) pos) (Zx Z (La j i)):=
 (EI hN hj hy (qe PySem.F.plainAttrs_list PySem.F.slot_list_pop PySem.F.type_list_pop qc (Om (i:=i) hi hv hd YC) ZF ZE) hs hf).imp λ_ _ _ h=>rQ h
theorem eD(i){p ZA}(F:FnOk X.prog X.w X.K X.mg X.base Qm k f fd ps (spM X.K g))(hr:cY k X.A)(hm:X.mg x=aA (.ref f))(hk:PySem.W.keepIn X.K (.ref f)=aC)(hb:M8 X.K fd ps [])(ha:PE X a (Ol i))(hg:‹Gl X x›)(YM:‹(x==("__debug__":Str))=aD›)(he:‹au [a] X.env=(aD,dj a X.env)::au [] X.env›)(ZH:‹(c9 ZA (au [] X.env)).any (·.1)=aD›)(Y':‹swapsWith (.Call (.Name x p) [a] [] ZA) aB pos.line X.env=pure aD›):
  PS X (.Expr (.Call (.Name x p) [a] [] ZA) pos) (Zx Z (Nr i g)):=(Ot (Fi F hr hg hm hk hb .nil LG (Wn ha Ql he) YM he ZH) Y').imp λ_ _ _ h=>eE h
theorem eC(i){j}{jj}{p1 p2}(hN:X.N.Nodup)(hi:‹X.N[i]? =aA x›)(hx:Loc X.env.scope x:=by first|exact Or.inl rfl|exact fu rfl)(hf:‹X.fn x=aC\/X.env.scope.names.lookup x=aA .local›):
  PS X (.AugAssign (.Name x p1) .Add (.Constant (.int j) jj p2) pos) (Zx Z (MA i j)):=(pI hN hi hx S3 pH hf).imp λ_ _ _ h=>eI h
theorem oJ{ZC ZA}(ha:PE X a (Zf Z fa))(hb:PE X b (Zf Z fb))(ZF:‹eg a "count" X.env (dj a X.env)=dj a X.env›)(ZQ:‹((c9 ZA (au [b] X.env)).all (λx=>!x.1)&&(backToKw ZA (f9 [] X.env)).all (λx=>x.1.isSome)&&decide ([b].length+([]:List f7).length+(if([]:List f7).isEmpty then 0 else 1)<30))=aC›)(ZE:‹(ZC.endLine==ZA.line)=aC›)(hs:‹au [b] X.env=(aD,dj b X.env)::au [] X.env›)(ZH:‹(c9 ZA (au [] X.env)).any (·.1)=aD›):
  PE X (.Call (.Attribute a "count" ZC) [b] [] ZA) (Zf Z (M3 "list" Cc fa (Zd fb Zi))):=
 (Cp PySem.F.plainAttrs_list PySem.F.slot_list_count PySem.F.type_list_count lM ha (Zh hb Zy hs) ZF ZQ ZE hs ZH).imp λ_ _ _ h=>QJ oR h
theorem oI{ZC ZA}(ha:PE X a (Zf Z fa))(hb:PE X b (Zf Z fb))(hc:PE X c (Zf Z fc))(ZF:‹eg a "find" X.env (dj a X.env)=dj a X.env›)(ZQ:‹((c9 ZA (au [b,c] X.env)).all (λx=>!x.1)&&(backToKw ZA (f9 [] X.env)).all (λx=>x.1.isSome)&&decide ([b,c].length+([]:List f7).length+(if([]:List f7).isEmpty then 0 else 1)<30))=aC›)(ZE:‹(ZC.endLine==ZA.line)=aC›)(hs:‹au [b,c] X.env=(aD,dj b X.env)::au [c] X.env›)(WE:‹au [c] X.env=(aD,dj c X.env)::au [] X.env›)(ZH:‹(c9 ZA (au [c] X.env)).any (·.1)=aD›):
  PE X (.Call (.Attribute a "find" ZC) [b,c] [] ZA) (Zf Z (M3 "str" Xa fa (Zd fb (Zd fc Zi)))):=
 (Cp PySem.F.plainAttrs_str PySem.F.slot_str_find PySem.F.type_str_find lL ha (Zh hb (Zh hc Zy WE) hs) ZF ZQ ZE hs ZH).imp λ_ _ _ h=>QJ oP h
end
abbrev AX:List V->Hp->VK->Prop:=λxs H Q=>∃(x:Str) (n:Int),xs=[V.str x]/\PySem.intText? x=aA n/\x.length<=640/\Q (.int n) H
theorem jJ:Ub X (.type "int") AX:=by intro cO s σ H xs us Q I r h;obtain⟨x,n,rfl,hn,hl,q⟩:=h;obtain⟨u,rfl,t,rfl⟩:=Uu r;exact PySem.W.KIN.call_text hn hl ⟨.int n,H,I.tok _,⟨_,rfl⟩,q⟩
section
variable{K:aj}
noncomputable def Ax:List D->Option SV
 | [.str x]=>if x.length<=640 then(PySem.intText? x).bind λn=>aA (.fz (.int n))else aB
 |_=>aB
theorem rK{Z:cU K}:Bu Z AX Ax:=by
 intro F H σ δ own vs ds sv Q s r e k;unfold Ax at e;split at e
 .split at e
  .rename_i x hx;refine cR e λn e1 e2=>?_;cases e2;cases r with
   |cons h1 t=>cases t;exact⟨x,n,by rw[h1.str],e1,hx,k.fz s (.int _)⟩
  .cases e
 .cases e
section
variable{X:Cx}{Z:cU X.K}{a:ca}{fa:FE}{pos:Pos}
theorem zy{p}(hm:X.mg "int"=aB)(ha:PE X a (Zf Z fa))(hg:‹Gl X "int"›)(he:‹au [a] X.env=(aD,dj a X.env)::au [] X.env›)(ZH:‹(c9 pos (au [] X.env)).any (·.1)=aD›):PE X (.Call (.Name "int" p) [a] [] pos) (Zf Z (Yy Ax (Zd fa Zi))):=
 Mk jJ rK hm boot_int (Zh ha Zy he) hg (by decide) (by decide) he ZH
end
end
theorem oH(l c_ n b bA n2 dc sl)(NQ:¬(!c_.isEmpty&&Builtin.List.listTooLong (c_.size+bA.size))=aC)(DP:c_.size<=sizeLine)(WE:c_.size+bA.size<=sizeLine+1):
  Meets (Builtin.«list.extend» ⟨[.ref l,.ref b],[]⟩) (λ_ R s=>s.heap.get? l=aA {cls:=.type "list",dict:=aB,data:=.seq c_ n,slots:= #[]}/\s.heap.get? b=aA {cls:=.type "tuple",dict:=dc,data:=.seq bA n2,slots:=sl}/\R (.ok (.ret Value.none)) {s with heap:=s.heap.update l (Obj.mapSeq λx=>x++bA),toks:=s.toks}):=
 .of_wp λprog w A R s h=>by
  obtain⟨hp,g,d,tk,os⟩:=s;obtain⟨hl,hb,h⟩:=h;have f1:=AutoSeq1.idx_int;have f2:=AutoSeq1.sub_tuple_tuple;have f3:=AutoSeq1.sub_list_list;have f4:=AutoSeq1.sub_tuple_list;have f5:=AutoSeq1.sub_list_tuple;have uA:(c_++bA).size<=sizeLine+1:=by rw[Array.size_append];exact WE
  wp_walk using(wpAny_updateSeq hl rfl (hz:=DP) (_hz':=uA)),AutoSeq1.wpAny_loadPart' hl,AutoSeq1.wpAny_loadPart' hb;exact⟨_,rfl,h⟩
def AW(K:aj):V->List V->Hp->VK->Prop:=λx vs H Q=>∃l b xs zs,x= .ref l/\vs=[.ref b]/\H l=aA (.lst xs)/\Er K H b zs/\xs.length+zs.length<=sizeLine/\Q .non (Wu H l (.lst (xs++zs)))
theorem oG:MtM X "list.extend" (AW X.K):=by
 intro cO s σ H x vs v us Q I rx rv h;obtain⟨l,b,xs,zs,rfl,rfl,hH,hB,hz,q⟩:=h;cases rx;obtain⟨u,rfl,ru⟩:=rv.one;cases ru;obtain⟨z,cS,n,r,hl,e⟩:=I.lstM hH;obtain⟨YT,r2,⟨o,ho,hc,n2,hd⟩,z2⟩:=I.tuple hB;have hl2:=r2.length;obtain⟨cls,dc,data,sl⟩:=o;cases hc;cases hd;have hsz:cS.toArray.size+YT.toArray.size<=sizeLine:=by rw[bq,bq];omega
 have UA:¬(!cS.toArray.isEmpty&&Builtin.List.listTooLong (cS.toArray.size+YT.toArray.size))=aC:=by rw[Ho hsz,Bool.and_false];exact bi
 refine call_meets F.slot_list_extend ⟨_,e,rfl⟩ F.entry_list_extend (F.args_list_extend_2 _ _)
  (oH l cS.toArray n b YT.toArray n2 dc sl UA (by rw[bq];omega) (by omega)) ⟨e,ho,?_⟩
 refine⟨.non,_,I.lset (its':=cS++YT) hH e (by simp) (r.append r2) ?_,rfl,q⟩;rw[ao];omega
theorem D7:∀{xs:List V} {cS:List aq},xs.length=cS.length->(∀(j:Nat) x v,xs[j]? =aA x->cS[j]? =aA v->Ya x v)->Ym xs cS
 | [],[],_,_=>.nil
 |x::xs,v::cS,h,g=>.cons (g 0 x v rfl rfl) (D7 (by simpa using h) λj x v a b=>g (j+1) x v (by simpa using a) (by simpa using b))
 | [],_::_,h,_=>nomatch h
 |_::_,[],h,_=>nomatch h
def zu:List V->Hp->VK->Prop:=λxs H Q=>∃p kvs,xs=[.ref p]/\RdK H p kvs/\∀l,H l=aB->Q (.ref l) (Wu H l (.lst (kvs.map λkv=>kV kv.1)))
theorem Lb(hc:X.calm=aC):Ub X (.type "list") zu:=by
 intro cO s σ H xs us Q I r h;obtain⟨p,kvs,rfl,⟨ep,e⟩,q⟩:=h;obtain⟨u,rfl,rx⟩:=Uu r;cases rx;obtain⟨z,hd,vs,ZR,dd⟩:=(show Wi X.prog X.w H s.heap p (.dK kvs ep)from GO I.hok e)
 have hl:vs.length=kvs.length:=(Paired.length ZR).symm;refine PySem.W.kdl_call (PySem.W.kdl_dict (knd:=Yf X.prog X.w) (kvs:=vs) (ep:=ep) hd) (I.ok.hd hc) dd (by rw[hl];exact z) λh' tk XC c' hk hD YW=>?_;have hv:Ym (kvs.map λkv=>kV kv.1) XC.toList:=by refine D7 ((ay _).trans (hl.symm.trans (YW.1.symm.trans (gc).symm))) λj x v hx hv=>?_;obtain⟨k,y,e1,e2⟩:=YW.2 j v (by rw[<-Array.getElem?_toList];exact hv);rw[bz]at hx;obtain⟨kv,e3,e4⟩:=ez.mp hx;refine Zr (Mo ZR e3) λq' e5 e6 _=>?_;rw[e5]at e1;cases e1;rw[<-e4,e6];exact xP e2
 exact⟨.ref s.heap.objs.size,_,I.laid (t':=tk) hk (bg _) (show Wi X.prog X.w _ h' _ (.lst (kvs.map λkv=>kV kv.1))from⟨by rw[ay];exact z,XC.toList,c',hv,by simpa using hD⟩),rfl,q _ (I.hok.fresh (bg _))⟩
section
variable{K:aj}
noncomputable def D8:List D->Option SV
 | [.dK ks _]=>aA (.ol (ks.map Fa))
 |_=>aB
@[simp]theorem cM(ks vs):D8 [.dK ks vs]=some (.ol (ks.map Fa)):=rfl
section
variable{Z:cU K}
theorem rJ:Bu Z zu D8:=by
 intro F H σ δ own vs ds sv Q s r e k;unfold D8 at e;split at e
 .cases e;cases r with
  |cons h t=>
   cases t;obtain⟨a,kvs,rfl,ha,ek,rr⟩:=h.dK s.le;refine⟨a,kvs,rfl,ha.rd,λl hl=>?_⟩;rw[<-ek]at k;have hr:=E4 (K:=K) (F:=F) (kvs.map (·.1));have hr:cQ K F ((kvs.map (·.1)).map Fa) (kvs.map λkv=>kV kv.1):=by rw[b6 (g:=kV)]at hr;exact hr
   exact k.one s (.ol hr) hl
 .cases e
@[simp]noncomputable def SV.tup?:RV->Option (List D)
 | .tmp (.fz (.tup ys))=>aA ys
 |_=>aB
@[simp]def MU(i:Nat)(fe:FE):FS:=λδ=>match δ[i]? with
 |some (aA (.ol _))=>(fe δ).bind λp=>(SV.tup? p.1).bind λys=>match p.2[i]? with
  |some (aA (.ol xs))=>if xs.length+ys.length<=bu then aA (.nx (p.2.set i (aA (.ol (xs++ys)))))else aB
  |_=>aB
 |_=>aB
theorem tup?_ok(h:SV.tup? rv=aA ys):rv= .tmp (.fz (.tup ys)):=by
 unfold SV.tup? at h;split at h
 .cases h;rfl
 .cases h
theorem rH(h:Zx Z (MU i fe) E σ H):M7 (tBM K "list" (AW K) (Ol i) (O6 (Zf Z fe) Rh)) E σ H:=by
 refine Ww h λF δ own fl s e k=>?_;unfold MU at e;split at e
 .rename_i xs0 UJ;refine cT e λrv δ1 e1 e2=>?_;refine cR e2 λys e3 e4=>?_;obtain⟨v,hv,sh⟩:=s.at' i _ UJ;refine Yd (Qr sh) λa XX ev en r0=>?_;refine⟨v,hv,?_,F,δ,own,rv,δ1,s,e1,λy H1 F1 own1 sH sF s1 r1=>?_⟩
  .subst ev;exact .inl ⟨rfl,XX,.inl (.inl (s.ok i (a,.lst XX) (by rw[en];exact aa)).2.2)⟩
  have e5:=tup?_ok e3;dsimp only at e5 e4;subst e5;obtain⟨ns,t⟩:=r1;have rt:cX K F1 (.tup ys) y:=Q0 t.sh;refine Yd ((Wb.of (H:=H1) rt).tup s1.le) λc us ec hc ru=>?_;split at e4
  .rename_i xs hx;split at e4
   .rename_i hz;cases e4;obtain⟨v',YA,XT⟩:=s1.at' i _ hx;rw[hv]at YA;cases YA;refine Yd (Qr XT) λb vs eb VM r'=>?_;have mb:(b,HO.lst vs)∈own1 i:=by rw[VM];exact aa
    subst eb;refine⟨b,c,vs,us,rfl,by rw[ec],(s1.ok i _ mb).2.2,hc,by rw[<-r'.length,<-ru.length];exact hz,?_⟩;exact k σ _ F1 _ sF (s1.change (sv':=.ol (xs++ys)) (o':=.lst (vs++us)) (ns':=[(b,.lst (vs++us))]) hx hv mb (.ol (r'.append ru)) (λp hp=>.inl (af.mp hp)) Fk)
   .cases e4
  .cases e4
 .cases e
end
section
variable{X:Cx}{Z:cU X.K}{a b c:ca}{fa fb fc:FE}{pos:Pos}
theorem rG{p}(hc:X.calm=aC)(hm:X.mg "list"=aB)(ha:PE X a (Zf Z fa))(hg:‹Gl X "list"›)(he:‹au [a] X.env=(aD,dj a X.env)::au [] X.env›)(ZH:‹(c9 pos (au [] X.env)).any (·.1)=aD›):PE X (.Call (.Name "list" p) [a] [] pos) (Zf Z (Yy D8 (Zd fa Zi))):=
 Mk (Lb hc) rJ hm boot_list (Zh ha Zy he) hg (by decide) (by decide) he ZH
theorem rF(i){px ZC ZA}(hb:PE X b (Zf Z fb))(hN:‹X.N[i]? =aA x›)(hv:Hh X.env.scope x:=by first|exact Or.inl rfl|exact fu (Or.inl rfl)|exact fu (fu rfl))(hd:‹(x==("__debug__":Str))=aD›)(YC:‹(x==("__classdict__":Str))=aD›)(ZF:‹eg (.Name x px) "extend" X.env (dj (.Name x px) X.env)=dj (.Name x px) X.env›)(ZQ:‹((c9 ZA (au [b] X.env)).all (λx=>!x.1)&&(backToKw ZA (f9 [] X.env)).all (λx=>x.1.isSome)&&decide ([b].length+([]:List f7).length+(if([]:List f7).isEmpty then 0 else 1)<30))=aC›)(ZE:‹(ZC.endLine==ZA.line)=aC›)(hs:‹au [b] X.env=(aD,dj b X.env)::au [] X.env›)(ZH:‹(c9 ZA (au [] X.env)).any (·.1)=aD›)(Y':‹swapsWith (.Call (.Attribute (.Name x px) "extend" ZC) [b] [] ZA) aB pos.line X.env=pure aD›):
  PS X (.Expr (.Call (.Attribute (.Name x px) "extend" ZC) [b] [] ZA) pos) (Zx Z (MU i fb)):=
 (Ot (Cp PySem.F.plainAttrs_list PySem.F.slot_list_extend PySem.F.type_list_extend oG (Om (i:=i) hN hv hd YC) (Wn hb Ql hs) ZF ZQ ZE hs ZH) Y').imp λ_ _ _ h=>rH h
end
end
def xK:V->List V->Hp->VK->Prop:=λx xs H Q=>∃a b k,x= .str a/\xs=[.str b,.int k]/\(b.length==0)=aD/\0<=k/\k<=1000/\a.length<=sizeLine/\(Txt.splitMax a b k).length<=sizeLine/\∀p,H p=aB->Q (.ref p) (Wu H p (.lst ((Txt.splitMax a b k).map V.str)))
theorem jI:MtR X "str.split" xK:=by
 intro cO s σ H x xs v us Q I rx rs h;obtain⟨a,b,k,rfl,rfl,hb,k0,k1,ha,hz,q⟩:=h;obtain⟨t,rfl⟩:=rx;cases rs with
 |cons r1 rs=>
 cases rs with
 |cons r2 rs=>
 cases rs;obtain⟨t1,rfl⟩:=r1;obtain⟨t2,rfl⟩:=r2;have hk:(decide (k< -(2^63:Int))||decide (k>=2^63))=aD:=by rw[bK (by omega),bK (by omega)];rfl
 have one:Txt.splitMax a b k=[a]->∀tk,EP X cO σ Q (.ref s.heap.objs.size) {s with toks:=tk,heap:=s.heap.push {cls:=.type "list",data:=.seq #[.str a t]}}:=λe tk=>by rw[e]at q;exact⟨.ref _,_,I.lnew (t':=tk) (ys:=[.str a]) (cS:=[.str a t]) (.cons ⟨t,rfl⟩ .nil) (by show 1<=sizeLine;decide),rfl,q _ I.fresh⟩
 cases h1:(decide (a.length<b.length)||decide (c7 a<c7 b))
 .cases hf:(bv a b 0 a.length (PySem.limitOf a k)).isEmpty
  .have e:Txt.splitMax a b k=Builtin.Str.partsBetween a (bv a b 0 a.length (PySem.limitOf a k)) b.length:=(bI (ne_true_of_eq_false h1)).trans (bI (ne_true_of_eq_false hf));rw[e]at hz q;refine call_meets F.slot_str_split (typeIs_str _ _ _) F.entry_str_split (F.args_str_split_3 _ _ _) (meets_str_split_sep_max a b k t t1 t2 hk h1 hb hf ha hz) ?_;rw[strsFrom_eq];have hv:=Ey (numbered s.toks (Builtin.Str.partsBetween a (bv a b 0 a.length (PySem.limitOf a k)) b.length));rw[numbered_texts]at hv;exact⟨.ref _,_,I.lnew (t':=_) hv (by rw[ay];exact hz),rfl,q _ I.fresh⟩
  .exact call_meets F.slot_str_split (typeIs_str _ _ _) F.entry_str_split (F.args_str_split_3 _ _ _) (meets_str_split_max_not_found a b k t t1 t2 hk h1 hb hf) (one ((bI (ne_true_of_eq_false h1)).trans (bJ hf)) s.toks)
 .exact call_meets F.slot_str_split (typeIs_str _ _ _) F.entry_str_split (F.args_str_split_3 _ _ _) (meets_str_split_max_cannot_occur a b k t t1 t2 hk h1) (one (bJ h1) s.toks)
section
variable{K:aj}
@[simp]noncomputable def Fq:List D->Option SV
 | [.str a,.str b,.int k]=>if(b.length==0)=aD/\0<=k/\k<=1000/\a.length<=bu/\(Txt.splitMax a b k).length<=bu then aA (.ol ((Txt.splitMax a b k).map D.str))else aB
 |_=>aB
theorem lG{Z:cU K}:Kr Z xK Fq:=by
 intro F H σ δ own vs ds sv Q s r e k;unfold Fq at e;split at e
 .rename_i a b n;split at e
  .rename_i h;cases e;cases r with
   |cons h1 t=>cases t with
    |cons h2 t=>cases t with
     |cons h3 t=>cases t;exact⟨_,_,rfl,a,b,n,h1.str,by rw[h2.str,h3.int],h.1,h.2.1,h.2.2.1,h.2.2.2.1,h.2.2.2.2,λp hp=>k.lst s (Ez _) hp⟩
  .cases e
 .cases e
section
variable{X:Cx}{Z:cU X.K}{a b c:ca}{fa fb fc:FE}
theorem lF{ZC ZA}(ha:PE X a (Zf Z fa))(hb:PE X b (Zf Z fb))(hc:PE X c (Zf Z fc))(ZF:‹eg a "split" X.env (dj a X.env)=dj a X.env›)(ZQ:‹((c9 ZA (au [b,c] X.env)).all (λx=>!x.1)&&(backToKw ZA (f9 [] X.env)).all (λx=>x.1.isSome)&&decide ([b,c].length+([]:List f7).length+(if([]:List f7).isEmpty then 0 else 1)<30))=aC›)(ZE:‹(ZC.endLine==ZA.line)=aC›)(hs:‹au [b,c] X.env=(aD,dj b X.env)::au [c] X.env›)(WE:‹au [c] X.env=(aD,dj c X.env)::au [] X.env›)(ZH:‹(c9 ZA (au [c] X.env)).any (·.1)=aD›):
  PE X (.Call (.Attribute a "split" ZC) [b,c] [] ZA) (Zf Z (M3 "str" Fq fa (Zd fb (Zd fc Zi)))):=
 (Cp PySem.F.plainAttrs_str PySem.F.slot_str_split PySem.F.type_str_split jI ha (Zh hb (Zh hc Zy WE) hs) ZF ZQ ZE hs ZH).imp λ_ _ _ h=>QJ lG h
end
end
theorem cw_typeK(h1:xs.any (·.1)=aD)(h2:ks.any (·.1.isNone)=aD)(k:b5 M A (evalArgs (.type T) aC xs ks) (λz s1=>b5 M A (call (.type T) z.pos z.kw) Q E s1) E s):b5 M A (callWith pos (.type T) [] xs ks) Q E s:=by
 unfold callWith;refine aw (wpAny_holding (eh k (λz s1 k1=>aw (wpAny_standAt ?_)) λ_ _ y=>y));simp only[h1,h2,Bool.or_false];refine aw (bj (aw (eh k1 (λr s2 kr=>aw (wpAny_holding (wpAny_point (bj kr)))) λ_ _ y=>y)))
section
variable{prog:b8}{w:df}{A:d4}{E:aq->ax->Prop}{s:ax}
theorem fF(hl:typeLookup (.type T) "__init__"=pure (aA (.builtin "object.__init__")))(hm:Bind.madeBy (.type T)=pure (aA newId))(YZ:(aA newId !=aA "object.__new__")=aC):Meets (Builtin.«object.__init__» ⟨[self,x],ks⟩) (λ_ R s=>s.TypeIs self T/\R (.ok (.ret .none)) s):=
 .of_wp λP W B R s q=>by
  obtain⟨hT,q⟩:=q
  repeat (any_goals (first|assumption|wp_step))
  exact⟨_,rfl,q⟩
theorem ctK(ft:TypeCalled T newId "object.__init__")(YZ:(aA newId !=aA "object.__new__")=aC)(eV:checkTypeCall T ⟨[x],ks⟩=pure ())(uY:checkBuiltinCall newId ⟨[.type T,x],ks⟩=pure ())(hok:∀obj,argsOk "object.__init__" ⟨[obj,x],ks⟩)(en:entryFor table newId=aA Bn)(g:Meets (Bn ⟨[.type T,x],ks⟩) S)(q:S A.in1 (wants (λobj s1=>s1.TypeIs obj T/\Q obj s1) E) s):b5 (cv prog w) A (call (.type T) [x] ks) Q E s:=by
 obtain⟨c,tl,uM⟩:=ft.mro;have hmade:=ft.made;have hsub:=ft.sub;have hnt:=ft.notType;have hcc:=ft.canCreate;refine wpAny_call (codeAny_of_tree (show b5 _ _ (callAny (.type T) _) _ _ _ from bj ⟨Code.quiet_builtin _ (by decide+kernel),codeAny_builtin F.entry_type_call ?_⟩));rw[Around.under_plain (weight_type_call_type T [x] ks) (units_type_call_type T [x] ks)]
 repeat (any_goals (first|assumption|wp_step))
 refine codeAny_mono (codeAny_call_builtin ft.plain en (wpAny_of_eq uY (g prog w A.in1 _ s q))) λr s1 hr=>?_
 match r,hr with
 | .error e,hr=>exact hr
 | .ok (.ret obj),hr=>
  obtain⟨hT,hq⟩:=hr;have hli:=ft.init.lookup;have hbi:=ft.init.bind obj
  repeat (any_goals (first|assumption|wp_step))
  refine codeAny_mono (codeAny_call_builtin ft.init.plain F.entry_object_init (ft.init.check _ _ _ _ _ _ _ _ hT (hok obj) (fF (T:=T) (self:=obj) (x:=x) (ks:=ks) hli hmade YZ prog w A.in1 (wants (λy s2=>y= .none/\Q obj s2) E) s1 ⟨hT,rfl,hq⟩))) λr2 s2 PC=>?_
  match r2,PC with
  | .error e,PC=>exact PC
  | .ok (.ret y),PC=>
   obtain⟨rfl,DR⟩:=PC
   repeat (any_goals (first|assumption|wp_step))
theorem jH(l us n dct sl t):
  Meets (Builtin.«enumerate.__new__» ⟨[.type "enumerate",.ref l],[("start",.int 1 t)]⟩) (λ_ R s=>s.heap.get? l=aA {cls:=.type "list",dict:=dct,data:=.seq us n,slots:=sl}/\
   R (.ok (.ret (.ref (s.heap.push {cls:=.type "list_iterator",data:=.fields #[.ref l,.int 0 0]}).objs.size))) {s with heap:=(s.heap.push {cls:=.type "list_iterator",data:=.fields #[.ref l,.int 0 0]}).push {cls:=.type "enumerate",data:=.fields #[.none,.bool aD,.ref s.heap.objs.size,rawInt 1,.none,.none]}}):=
 .of_wp λP W B R s q=>by
  obtain⟨x1,x2,x3,x4,x5⟩:=s;obtain⟨hl,q⟩:=q;have hsub:=sub_enumerate;have f1:=AutoSeq1.idx_int;have hL:Heap.IsList (Shared.heap ⟨x1,x2,x3,x4,x5⟩) l us:=⟨_,hl,rfl,n,rfl⟩
  wp_walk using wpAny_loadPart' hl;refine wpAny_stack_any λst=>bj ?_;split
  .rename_i c _ _ _ _ _;cases(c==Value.type "enumerate")
   .wp_walk using wpAny_loadPart' hl,wpAny_pyIter_list hL;exact⟨_,rfl,q⟩
   .wp_walk using wpAny_loadPart' hl,wpAny_pyIter_list hL;exact⟨_,rfl,q⟩
  .wp_walk using wpAny_loadPart' hl,wpAny_pyIter_list hL;exact⟨_,rfl,q⟩
theorem lE{it:av}{fp:List av}{n:Nat}{P:Nat->aq->Prop}{St:Nat->ed->Prop}(D:Draws prog w A it fp n P St):Draws prog w A it fp (n+1) (λi v=>∃j,i=j+1/\P j v) (λi h=>∃j,i=j+1/\St j h)where
 live:=λi h ⟨j,_,st⟩=>D.live j h st
 frame:=λi h h' ⟨j,e,st⟩ k=>⟨j,e,D.frame j h h' st k⟩
 item:=λi s Q E hi ⟨j,e,st⟩ hQ=>D.item j s Q E (by omega) st λx h' tk hP YQ hs=>hQ x h' tk ⟨j,e,hP⟩ ⟨j+1,by omega,YQ⟩ hs
 done:=λs Q E ⟨j,e,st⟩ hE=>D.done s Q E (Nat.succ.inj e▸st) hE
theorem Gq(hh:A.handled=aB)(he:IsEnum s.heap e it c old)(hit:s.heap.IsListIter it l i)(hl:s.heap.IsList l c_)(hx:c_[i]? =aB)(hQ:∀h',Heap.ExtBut it s.heap h'->Q aB {s with heap:=h'}):b5 (cv prog w) A (pyNext (.ref e)) Q E s:=by
 have hT:s.TypeIs (.ref e) "enumerate":=⟨_,he,rfl⟩;unfold pyNext;refine aw (wpAny_attempt (wpAny_callSpecial?_slot (name:=az "__next__") hT F.slot_enumerate_next (wpAny_call_entry F.slot_enumerate_next hT F.entry_enumerate_next ?_ (F.args_enumerate_next_1 _))));show b5 _ _ (field (.ref e) 2 >>=_) _ _ _;refine aw (wpAny_field he rfl (x:=.ref it) rfl ?_);refine aw (wpAny_nextOf_list_end (by first|exact hh| (rw[show A.in1.handled=A.handled from rfl];exact hh)) hit hl hx λh' x S' XE=>?_);obtain⟨o,ho,hc⟩:=XE;refine aw (wpAny_isInstance (T:="StopIteration") (b:=aC) ⟨o,ho,hc⟩ isSubtype_stop ?_);exact bj (hQ _ S')
theorem iM(hL:s.heap.IsList l us)(h:∀h',IsEnum h' (s.heap.objs.size+1) s.heap.objs.size 1 .none->h'.IsListIter s.heap.objs.size l 0->h'.objs.size=s.heap.objs.size+2->(∀b o,s.heap.get? b=aA o->h'.get? b=aA o)->Q (.ref (s.heap.objs.size+1)) {s with heap:=h'}):
  b5 (cv prog w) A (call (.type "enumerate") [.ref l] [("start",.int 1 t)]) Q E s:=by
 obtain⟨⟨c,dct,dt,sl⟩,hl,hc,n,hd⟩:=hL;replace hc:c= .type "list":=hc;replace hd:dt= .seq us n:=hd;subst hc hd;refine ctK F.called_enumerate (by decide) (by kernel_rfl) (by kernel_rfl) (λobj=>by unfold argsOk;kernel_rfl) F.entry_enumerate_new (jH l us n dct sl t) ⟨hl,?_⟩;have hz:(s.heap.push {cls:=.type "list_iterator",data:=.fields #[.ref l,.int 0 0]}).objs.size=s.heap.objs.size+1:=Heap.size_push ..;show _/\_;rw[hz];have he:IsEnum ((s.heap.push {cls:=.type "list_iterator",data:=.fields #[.ref l,.int 0 0]}).push {cls:=.type "enumerate",data:=.fields #[.none,.bool aD,.ref s.heap.objs.size,rawInt 1,.none,.none]}) (s.heap.objs.size+1) s.heap.objs.size 1 .none:=by have:=cj (s.heap.push {cls:=.type "list_iterator",data:=.fields #[.ref l,.int 0 0]}) (o:={cls:=.type "enumerate",data:=.fields #[.none,.bool aD,.ref s.heap.objs.size,rawInt 1,.none,.none]}) rfl;rw[hz]at this;exact this
 exact⟨⟨_,he,rfl⟩,h _ he ⟨_,bh _ (cj _ rfl),rfl,rfl⟩ (by rw[Heap.size_push,hz]) λb o x=>bh _ (bh _ x)⟩
end
section
variable{X:Cx}
noncomputable def IW(K:aj)(a:av):It:=
 ⟨λi H=>∃xs x,On K H a xs/\xs[i]? =aA x,λi H x H'=>∃p v,x= .ref p/\H p=aB/\H'=Wu H p (.tup [.int ((i+1:Nat):Int),v])/\∀xs,On K H a xs->xs[i]? =aA v,λi H=>∃xs,On K H a xs/\xs.length<=i⟩
theorem iL{P:b8}{w:df}{K:aj}{XG:List ca}{kk:Nat}{W':Pos}(a e it:av)(UU:e≠it):Turn P w K (.Tuple XG kk W') (IW K a) [e,it] e (λi h=>(∃old,IsEnum h e it ((i+1:Nat):Int) old)/\h.IsListIter it a i)where
 mem:=by simp
 obj:=λi h st b hb=>by
  have XQ:b=e\/b=it:=by simpa using hb
  rcases XQ with z|z
  .subst z;obtain⟨old,q⟩:=st.1;exact⟨_,q,λv y=>by
    have y':Data.fields _=Data.cell v:=y;cases y'⟩
  .subst z;refine Zr st.2 λo q c d=>?_;exact⟨o,q,λv y=>by rw[d]at y;cases y⟩
 keep:=λi h h' st k=>⟨let⟨old,q⟩:=st.1;⟨old,k e (by simp) _ q⟩,st.2.at λo q=>k it (by simp) o q⟩
 item:=by
  intro X hP hw hK hc i cO s σ H E I hf st hg;subst hP hw hK;refine We hg λxs x hq hx=>?_;refine Zr (I.list hq) λcS rv p hz=>?_;obtain⟨u,hu,ru⟩:=rv.get hx;obtain⟨⟨old,he⟩,hit⟩:=st;have hl:s.heap.IsList a cS.toArray:=p.isList;have ai:a≠it:=λz=>by refine Zr hit λo1 q1 c1 _=>?_;refine Zr hl λo2 q2 c2 _=>?_;rw[z,q1]at q2;cases q2;rw[c1]at c2;exact bN c2 (by decide)
  have ae:e∉[it,a]:=λz=>by
   have z':e=it\/e=a:=by simpa using z
   rcases z' with z|z
   .exact UU z
   .refine Zr hl λo2 q2 c2 _=>?_;rw[<-z,he]at q2;cases q2;exact bN (show Value.type "enumerate"=Value.type "list"from c2) (by decide)
  have D:=Draws.list (prog:=X.prog) (w:=X.w) (A:=X.A.in1) (by first|exact I.ok.hd hc| (rw[show X.A.in1.handled=X.A.handled from rfl];exact I.ok.hd hc)) it a ai cS.toArray;have D1:=lE D;have YL:i<cS.toArray.size:=by have:=(bf.mp hu).1;rw[bq];exact this
  refine wpAny_pyNext_enum_itemD (i:=i+1) D1 he ⟨i,rfl,hit,hl⟩ (Nat.succ_lt_succ YL) UU ae λy h' tk hy SX YQ hT hsz hk=>⟨.ref s.heap.objs.size,rfl,?_⟩
  obtain⟨j,ej,hy⟩:=hy;have ej:j=i:=by omega
  subst ej;obtain⟨j',CG,YQ⟩:=YQ;have CG:j'=j+1:=by omega
  subst CG;refine wpAny_letOwnedTupleGo_enum SX λh2 UV WE=>?_;have WC:cS.toArray[j]? =aA y:=hy;have ey:y=u:=by
   have:cS[j]? =aA y:=by simpa using WC
   rw[hu]at this;cases this;rfl
  subst ey;have kk:∀b o,b≠e->b≠it->s.heap.get? b=aA o->h2.get? b=aA o:=λb o h1 h3 q=>(WE.2 b h1).trans (hk b o h1 h3 q);have neT:s.heap.objs.size≠e:=Nat.ne_of_gt (bx he);have I2:=I.turnedT (h':=h2) (t':=tk+1) (e:=e) (it:=it) (T:=s.heap.objs.size) (xs:=[.int ((j+1:Nat):Int),x]) (cS:=[.int ((j+1:Nat):Int) tk,y]) kk (hf e (by simp)) (hf it (by simp)) rfl ⟨_,(WE.2 _ neT).trans hT,rfl,_,rfl⟩ (.cons ⟨tk,rfl⟩ (.cons ru .nil)) (by show 2<=sizeLine;decide)
   ⟨_,UV⟩ (let⟨o,q,_⟩:=YQ.1;⟨o,(WE.2 it (Ne.symm UU)).trans q⟩)
  refine⟨.ref s.heap.objs.size,_,I2,rfl,⟨s.heap.objs.size,x,rfl,I.hok.fresh (bg _),rfl,λys JC=>by rw[I.list_inj JC hq];exact hx⟩,⟨⟨_,UV⟩,YQ.1.at λo q=>(WE.2 it (Ne.symm UU)).trans q⟩,λb hb=>?_⟩;rw[Zv λz=>?_]
  .exact(hf b hb).1
  .have XQ:b=e\/b=it:=by simpa using hb
   rcases XQ with y|y
   .rw[<-z,y]at neT;exact neT rfl
   .obtain⟨o,q,_⟩:=hit;rw[y]at z;exact bN (bx q) (by rw[z];exact fj _)
 done:=by intro X hP hw hK hc i cO s σ H E I hf st hg;subst hP hw hK;obtain⟨xs,hq,hx⟩:=hg;refine Zr (I.list hq) λcS rv p hz=>?_;obtain⟨⟨old,he⟩,hit⟩:=st;refine Qx (hf it (by simp)) λf0 f1 f2 f3 f4 f5=>?_;have hl:=rv.length;exact Gq (I.ok.hd hc) he hit p.isList (by simp;omega) λh' eb=>⟨rfl,I.turned (t':=s.toks) (λb o hb q=>eb b o hb q) f0 f1 f3 f4 f5⟩
 self:=λ_ _ _ _ _ st h=>let⟨⟨old,he⟩,_⟩:=st;wpAny_pyIter_enum he h
def zo(K:aj)(ta:TA):TI:=λσ H R=>ta σ H λvs H1=>∃a xs,vs=[.ref a]/\On K H1 a xs/\R (IW K a) H1
theorem lD{XG}{kk j}{W' p pos kp q}(hg:Gl X "enumerate")(hm:X.mg "enumerate"=aB)(ha:PA X [l] ta)(hs:‹au [l] X.env=[(aD,dj l X.env)]›)(he:‹dj (.Call (.Name "enumerate" p) [l] [⟨aA "start",.Constant (.int 1) j q,kp⟩] pos) X.env=(do callWith pos (<-dj (.Name "enumerate" p) X.env) [] (c9 pos (au [l] X.env)) (backToKw pos (f9 [⟨aA "start",.Constant (.int 1) j q,kp⟩] X.env)))›):
  PI X (.Tuple XG kk W') (.Call (.Name "enumerate" p) [l] [⟨aA "start",.Constant (.int 1) j q,kp⟩] pos) (zo X.K ta):=by
 intro cO s σ H R I h;rw[he];refine aw (Et I hg hm boot_enumerate (cw_typeK (by rw[hs];rfl) rfl ?_));have hb:c9 pos (au [l] X.env)=[(aD,dj l X.env)]:=by rw[hs];rfl
 rw[hb];refine evalArgs_kwB rfl ?_;rw[<-hb];refine W7 (ha pos cO s σ H _ I h) λus s1 ZJ=>?_;obtain⟨vs,H1,I1,r1,q1⟩:=ZJ;refine Yd q1 λa xs e hq k=>?_;subst e;obtain⟨u,rfl,ru⟩:=Uu r1;cases ru;refine kws_cons (wpAny_Constant_int (kws_nil ?_));have I2:cP X cO σ H1 {s1 with toks:=s1.toks+1}:=I1.tok _;show b5 _ _ (call (.type "enumerate") [.ref a] [("start",.int 1 s1.toks)]) _ _ _;refine Zr (I2.list hq) λcS rv p' hz=>?_;refine iM p'.isList λh' S' hit hsz hk=>wpAny_pyIter_enum S' ?_;have I3:cP X cO σ H1 {s1 with heap:=h',toks:=s1.toks+1}:=I2.kept (t':=s1.toks+1) hk;refine⟨s1.heap.objs.size+1,[s1.heap.objs.size+1,s1.heap.objs.size],_,_,H1,rfl,I3,iL a _ _ (Nat.succ_ne_self _),⟨⟨.none,by simpa using S'⟩,hit⟩,λb hb=>?_,k⟩;have XQ:b=s1.heap.objs.size+1\/b=s1.heap.objs.size:=by simpa using hb
 rcases XQ with z|z
 .subst z;exact I1.fpOk (Nat.le_succ _) (I1.hok.fresh (Nat.le_succ _))
 .subst z;exact I1.fpOk (bg _) (I1.hok.fresh (bg _))
end
section
variable{K:aj}
noncomputable def Tv(xs:List D):List D:=(xs.zipIdx 1).map λp=>.tup [.int (p.2:Nat),p.1]
theorem iK{d:D}(h:(Tv xs)[i]? =aA d):∃x,xs[i]? =aA x/\d= .tup [.int ((i+1:Nat):Int),x]:=by
 unfold Tv at h;rw[bz,List.getElem?_zipIdx]at h;cases e:xs[i]? with
 |none=>rw[e]at h;cases h
 |some x=>rw[e]at h;cases h;exact⟨x,rfl,by rw[Nat.add_comm i 1]⟩
theorem iJ(xs):(Tv xs).length=xs.length:=by unfold Tv;rw[ay,List.length_zipIdx]
theorem Xb(h:On K F a vs)(r:cQ K F xs vs):Gi K (IW K a) F (Tv xs):=λF' H sF sH i=>by
 have q:On K H a vs:=Qq (sF.trans sH) h;refine⟨λd hd=>?_,λhl=>⟨vs,q,by rw[<-r.length,<-iJ];exact hl⟩⟩;obtain⟨x,hx,rfl⟩:=iK hd;obtain⟨v,h1,h2⟩:=r.get hx;refine⟨⟨vs,v,q,h1⟩,λy H' ZJ=>?_⟩;obtain⟨p,w,e1,e2,e3,e4⟩:=ZJ;subst e1 e3;have e5:=e4 vs q;rw[h1]at e5;cases e5;have hp:F' p=aB:=sH.free e2;have sm:Zo F' (Uc F' [(p,.tup [.int ((i+1:Nat):Int),v])]):=Q9 λz hz=>by obtain rfl:=af.mp hz;exact hp
 refine⟨Jh e2,[(p,.tup [.int ((i+1:Nat):Int),v])],Fk,λz hz=>?_,.tup Yp (.cons (.int _) (.cons (h2.mono (sF.trans sm)) .nil))⟩;obtain rfl:=af.mp hz;exact⟨e2,Yp⟩
@[simp]def FM(fd:FD):FD:=λδ=>(fd δ).bind λp=>match p.1 with
 | [.lst xs]=>aA (Tv xs,p.2)
 |_=>aB
theorem lC{Z:cU K}(h:Ue Z (FM fd) σ H R):zo K (Ji Z fd) σ H R:=by
 refine Yx h λF δ own ds δ' s e k=>?_;refine cT e λOA δ1 e1 e2=>?_;refine⟨F,δ,own,OA,δ1,s,e1,λvs H1 F1 own1 sH sF s1 r1=>?_⟩;dsimp only at e2;split at e2
 .rename_i xs;cases e2;cases r1 with
  |cons h t=>
   cases t;cases h with
   |lst h _ r=>exact⟨_,_,rfl,Qq s1.le h,k _ H1 F1 own1 sH sF s1 (Xb h r)⟩
 .cases e2
section
variable{X:Cx}{Z:cU X.K}{a:ca}{fa:FE}{pos:Pos}
theorem oF{XG}{k j}{tp p kp q}(hm:X.mg "enumerate"=aB)(ha:PE X a (Zf Z fa))(hg:‹Gl X "enumerate"›)(hs:‹au [a] X.env=[(aD,dj a X.env)]›)(he:‹dj (.Call (.Name "enumerate" p) [a] [⟨aA "start",.Constant (.int 1) j q,kp⟩] pos) X.env=(do callWith pos (<-dj (.Name "enumerate" p) X.env) [] (c9 pos (au [a] X.env)) (backToKw pos (f9 [⟨aA "start",.Constant (.int 1) j q,kp⟩] X.env)))›):
  PI X (.Tuple XG k tp) (.Call (.Name "enumerate" p) [a] [⟨aA "start",.Constant (.int 1) j q,kp⟩] pos) (Ue Z (FM (Zm fa Zt))):=(lD hg hm (Yc ha Yz hs) hs he).imp λ_ _ _ h=>lC h
end
end
section
variable{K:aj}
section
variable{Z:cU K}{H:Hp}{σ:L2.St}{E:Ends}
@[simp]noncomputable def runs:List FS->Wa->Option Wa
 | [],δ=>aA δ
 |f::r,δ=>match f δ with
  |some (.nx δ1)=>runs r δ1
  |_=>aB
def LD(Z:cU K):List FS->TS->TS
 | [],t=>t
 |f::r,t=>HN (Zx Z f) (LD Z r t)
theorem xo:∀{fs:List FS} {F H:Hp} {σ:L2.St} {δ:Wa} {own:Nat->Zu} {δ':Wa},SR Z F H σ δ own->runs fs δ=aA δ'->(∀ZB H' F' own',Zo F F'->SR Z F' H' ZB δ' own'->t E ZB H')->LD Z fs t E σ H
 | [],F,H,σ,δ,own,δ',s,e,k=>by cases e;exact k σ H F own (Zo.refl F) s
 |f::r,F,H,σ,δ,own,δ',s,e,k=>by
  unfold runs at e;split at e
  .rename_i δ1 hf;exact⟨F,δ,own,.nx δ1,s,hf,λUF H1 F1 own1 a1 s1=>xo s1 e λYU H2 F2 own2 a2 s2=>k YU H2 F2 own2 (a1.trans a2) s2⟩
  .cases e
@[simp]noncomputable def Xc(n:Nat)(a:av)(ds:List D)(ks:List Key)(es:List D):Wa:=ds.map (λd=>some (.fz d))++some (.oQ a ks es)::List.replicate (n- ds.length- 1) none
theorem xn{α:Type}(xs m)(x y:α):(xs++List.replicate (m+1) y).set xs.length x=xs++x::List.replicate m y:=by rw[List.set_append_right _ _ (bg _),Nat.sub_self,List.replicate_succ,List.set_cons_zero]
def Lc(Z:cU K)(i:Nat)(fd:FD):TA:=λσ H R=>Ji Z fd σ H λvs H1=>∃x,σ[i]? =aA (aA x)/\R (vs++[x]) H1
end
section
variable{X:Cx}{Z:cU X.K}{a b c:ca}{fa fb fc:FE}
theorem rE(i)(ha:PE X a (Ol i))(he:‹au [a] X.env=(aD,dj a X.env)::au [] X.env›):PA X [a] (Lc Z i Zt):=by intro p cO s σ H R I h;refine Wn ha Ql he p cO s σ H R I ?_;refine Yx h λF δ own ds δ' s0 e k=>?_;cases e;obtain⟨x,hx,q⟩:=k [] H F own (Zo.refl H) (Zo.refl F) s0 .nil;exact⟨x,hx,q⟩
theorem xm(ha:PE X a (Zf Z fa))(hr:PA X es (Lc Z i fd))(he:‹au (a::es) X.env=(aD,dj a X.env)::au es X.env›):PA X (a::es) (Lc Z i (Zm fa fd)):=by intro p cO s σ H R I h;refine Wn ha hr he p cO s σ H R I ?_;exact Gh h
end
end
abbrev AtF(K:aj)(x:Str)(st:Stmt)(f:av)(fd:FuncData):Prop:=d7 K c8 x=aA (aA (.ref f))/\Fun K x x st f fd
abbrev Und(K:aj)(mg:Str->Option aq):Prop:=∀{x:Str} {v:aq},d7 K c8 x=aA (aA v)->mg x=aA v
def Sv(P:b8)(w:df)(K:aj)(mg:Str->Option aq)(base:ed)(CX:Hb)(k:Nat)(x:Str)(ps:List Str)(sp:Sp):Prop:=
 ∃f fd,FnOk P w K mg base CX k f fd ps sp/\mg x=aA (.ref f)/\PySem.W.keepIn K (.ref f)=aC/\M8 K fd ps []
structure Sc(x:Str)(st:Stmt)(n:Nat)(N:List Str):Prop where
 S:FnScope N (N.take n) (Yg st)
 B:∀(kV YY pm:aq) (an:Option av) (ZN ct:aq) (us:List aq),us.length=(N.take n).length->bindArgs (PySem.W.fnOf x x (Mi st) (Jq st) (Yg st) .none kV YY pm an ZN ct) ⟨us,[]⟩=pure ((N.take n).zip us)
 n:n=(N.take n).length
abbrev HB(P:b8)(w:df)(K:aj)(mg:Str->Option aq)(base:ed)(N:List Str)(x:Str)(st:Stmt)(f:av)(k:Nat)(p:Hp->Prop)(f0:FS)(ZN:aq):Prop:=
 ∀{A:d4} {outer:List Env} {s:ax} {H F0:Hp} {E:XK},N.Nodup->p H->cY k (A.deeper (envOfC x (Yg st) s.heap.objs.size f ZN))->(A.deeper (envOfC x (Yg st) s.heap.objs.size f ZN)).units+1<cLine->(A.deeper (envOfC x (Yg st) s.heap.objs.size f ZN)).units+64<cLine->
  Mh (Ri Qm P w K mg base N x (Yg st) f ZN A outer s H E).nox (Jq st) (Zx (ent H F0:cU K) f0)
section
variable{P:b8}{w:df}{K:aj}{mg:Str->Option aq}{base:ed}{x:Str}{st:Stmt}{f:av}{fd:FuncData}
theorem ok0(a:AtF K x st f fd)(k n N g f0)(hb:∀{ZN:aq},HB P w K mg base N x st f k (λ_=>True) f0 ZN)(S:‹Sc x st n N›)(hg:‹g=Yj f0 N.length›):FnOk P w K mg base Qm (k+1) f fd (N.take n) (Y3 K n g):=by
 subst hg;exact a.2.ok S.S (λ_ _ _ _ h=>(l7 h).trans S.n) λZN A outer s H vs Q E hr h=>by obtain⟨F0,h⟩:=lr (N:=N) (f:=f0) h;exact⟨_,hb S.S.nd trivial hr (LF hr) hr.units,h⟩
theorem Cd(u:Und K mg)(a:∃f fd,AtF K x st f fd)(k n N g f0)(hb:∀{f:av} {ZN:aq},HB P w K mg base N x st f k (λ_=>True) f0 ZN)(S:‹Sc x st n N›)(hg:‹g=Yj f0 N.length›):Sv P w K mg base Qm (k+1) x (N.take n) (Y3 K n g):=by
 obtain⟨f,fd,a⟩:=a;exact⟨f,fd,ok0 a k n N g f0 hb S hg,u a.1,a.2.kp,a.2.binds S.B⟩
theorem oE(F:Fun K x x st f fd)(h:∀kV YY pm an ZN ct v,bindArgs (PySem.W.fnOf x x (Mi st) (Jq st) (Yg st) .none kV YY pm an ZN ct) ⟨[v],[]⟩=pure [(p,v)])(s v):BindsTo s fd ⟨[v],[]⟩ [(p,v)]:=by obtain⟨oc,od,kV,YY,pm,an,ZN,ct,TM,rfl,lk,YC⟩:=F.ex;exact .of_eq (h kV YY pm an ZN ct v)
end
section
variable{X:Cx}{Z:cU X.K}{pos:Pos}
theorem Gr(u:Und X.K X.mg)(h:∃t,d7 X.K c8 x=aA (aA (.str y t)))(hg:‹Gl X x›)(hd:‹(x==("__debug__":Str))=aD›):PE X (.Name x pos) (Zf Z (Zc (.str y))):=let⟨_,h⟩:=h;nG (u h) hg hd
theorem By(u:Und X.K X.mg)(h:∃t,d7 X.K c8 x=aA (aA (.int y t)))(hg:‹Gl X x›)(hd:‹(x==("__debug__":Str))=aD›):PE X (.Name x pos) (Zf Z (Zc (.int y))):=let⟨_,h⟩:=h;nE (u h) hg hd
theorem Zw{p:Pos}(S:Sv X.prog X.w X.K X.mg X.base Qm k x ps (Y3 X.K n g))(hr:cY j X.A)(ha:PA X (a::es) (Bs Z fr))(hj:‹k<=j›)(hg:‹Gl X x›)(YM:‹(x==("__debug__":Str))=aD›)(he:‹au (a::es) X.env=(aD,dj a X.env)::au es X.env›)(ZH:‹(c9 pos (au es X.env)).any (·.1)=aD›):
  PE X (.Call (.Name x p) (a::es) [] pos) (Zf Z (Z5 n g fr)):=
 let⟨_,_,a,b,c,d⟩:=S;qK a (hr.mono hj) b c d ha hg YM he ZH
end
section
variable{X:Cx}{Z:cU X.K}{pos:Pos}{src:List BSrc}{k:Nat}
theorem E5(N')(hi:PI X tg ZG (Ue Z fi))(hg:∀{C:av} {s₀:ax} {H₀:Hp} {ex:List av} {Y:cU X.K},N'.Nodup->PG (X.block N' scope C s₀ H₀ ex) tg (Ra Y g))(ht:∀{C:av} {s₀:ax} {H₀:Hp} {ex:List av},PTs (X.block N' scope C s₀ H₀ ex) Z' (xT X.K tt))(he:∀{C:av} {s₀:ax} {H₀:Hp} {ex:List av} {Y:cU X.K},PE (X.block N' scope C s₀ H₀ ex) elt (Zf Y te))(hc:‹X.calm=aC›)(S:‹CompScope X N' scope src›)(So:‹SrcOk src k›)(nd:‹N'.Nodup›)(hk:‹k∉g.tch›)(hs:‹∀x,foldedSetIterable ZG X.env x=pure x›):PE X (.ListComp elt [⟨tg,ZG,Z',0⟩] scope pos) (Zf Z (Op src k fi g tt te)):=
 qI hc S So hk hi (λ_ _ _ _=>xg λ_=>hg nd) (λ_ _ _ _=>ht) (λ_ _ _ _=>xe λ_=>he) hs
theorem C0(i N'){y}{py spos}(hN:X.N.Nodup)(hi:PI X tg ZG (Ue Z fi))(hg:∀{C:av} {s₀:ax} {H₀:Hp} {ex:List av} {Y:cU X.K},N'.Nodup->PG (X.block N' scope C s₀ H₀ ex) tg (Ra Y g))(ht:∀{C:av} {s₀:ax} {H₀:Hp} {ex:List av},PTs (X.block N' scope C s₀ H₀ ex) Z' (xT X.K tt))(he:∀{C:av} {s₀:ax} {H₀:Hp} {ex:List av} {Y:cU X.K},PE (X.block N' scope C s₀ H₀ ex) elt (Zf Y te))(hc:‹X.calm=aC›)(S:‹CompScope X N' scope src›)(So:‹SrcOk src k›)(nd:‹N'.Nodup›)(hk:‹k∉g.tch›)(PN:‹X.N[i]? =aA y›)(hx:‹X.env.scope.names.lookup y=aA .local›)(Y':‹swapsWith (.ListComp elt [⟨tg,ZG,Z',0⟩] scope pos) (aA (.Name y py)) spos.line X.env=pure aC›)(hs:‹∀x,foldedSetIterable ZG X.env x=pure x›):PS X (.Assign [.Name y py] (.ListComp elt [⟨tg,ZG,Z',0⟩] scope pos) spos) (Zx Z (Ye i (Op src k fi g tt te))):=
 ja i hc S So hk hi (λ_ _ _ _=>xg λ_=>hg nd) (λ_ _ _ _=>ht) (λ_ _ _ _=>xe λ_=>he) hN PN hx Y' hs
end
theorem rD{K}{ns:List Int}(hn:g [.lst (ns.map D.int)]=aA (.fz (.bl aC)))(hS:On K H a (ns.map V.int)):Y3 K 1 g [.ref a] H (λv H'=>v= .bl aC/\Zo H H') λ_ _ _=>False:=by refine⟨H,[.lst (ns.map D.int)],.fz (.bl aC),Zo.refl H,.cons (.lst hS (.inr λd hd=>let⟨i,_,e⟩:=bd.mp hd;⟨i,e.symm⟩) (Dh ns)) .nil,rfl,hn,λv H' F' ms sm _ _ _ sh _ _=>?_⟩;cases Q0 sh;exact⟨rfl,sm⟩
abbrev vE(l:PySem.W.OpenLaw)(x:Str)(k:Nat)(g:List D->Option SV)(K:aj)(w:df)(mg:Str->Option aq)(fa:av):Prop:=
 ∃fd:FuncData,(∀(s:ax) (u:aq),BindsTo s fd ⟨[u],[]⟩ [(x,u)])/\∀base:ed,K.In base->base.Ns c8 mg->FnOk l.prog w K mg base Qm k fa fd [x] (Y3 K 1 g)
theorem cL{K:Params->aj}(hn:l.most=aA 63)(RD:d.params.defaults=[])(hY:∀w h,YP w h->(K w.params).In h)(hr:cY k callerA)(JQ:∀ns:List Int,ns.length<=63->g [.lst (ns.map D.int)]=aA (.fz (.bl aC)))(F:∀w mg fa h,(K w.params).In h->h.Ns c8 mg->mg d.name=aA (.ref fa)->vE l x k g (K w.params) w mg fa):
  PySem.W.WalkO q loose XP YP l.row.toRowW d [] (λf vs=>PySem.call f vs):=
 L2.kD (n:=63) (CX:=Qm) (sp:=λK=>Y3 K 1 g) hn (by decide) RD hr hY F (λ_ _ _ ns hl hO hS=>by
  obtain⟨F0,ds,sv,a,b,c,d,e⟩:=rD (JQ ns hl) hS;exact⟨F0,ds,sv,a,b,c,d,λv H' F' own z1 z2 z3 z4 z5 z6 z7=>(e v H' F' own z1 z2 z3 z4 z5 z6 z7).1⟩) λ_ _ _ _ z=>z
@[simp]noncomputable def QI:List D->Option SV
 | [.int i,.int j]=>aA (.fz (.int (if j > i then j else i)))
 |_=>aB
section
variable{X:Cx}{Z:cU X.K}{a b c:ca}{fa fb fc:FE}{pos:Pos}
theorem fE:Bu Z (λxs H Q=>∃i j,xs=[.int i,.int j]/\Q (.int (if j > i then j else i)) H) QI:=by
 intro F H σ δ own vs ds sv Q s rs e f;unfold QI at e;split at e
 .cases e;cases rs with
  |cons h1 t1=>
   cases t1 with
   |cons h2 t2=>cases t2;rw[h1.int,h2.int];exact⟨_,_,rfl,f.fz s (.int _)⟩
 .cases e
theorem fD{p}(hm:X.mg "max"=aB)(hc:X.calm=aC)(ha:PE X a (Zf Z fa))(hb:PE X b (Zf Z fb))(hg:‹Gl X "max"›)(he:‹au [a,b] X.env=(aD,dj a X.env)::au [b] X.env›)(UV:‹au [b] X.env=(aD,dj b X.env)::au [] X.env›)(ZH:‹(c9 pos (au [b] X.env)).any (·.1)=aD›):
  PE X (.Call (.Name "max" p) [a,b] [] pos) (Zf Z (Yy QI (Zd fa (Zd fb Zi)))):=Vp (js hc) fE hm boot_max (Zh ha (Zh hb Zy UV) he) hg (by decide) (by decide) he ZH
end
abbrev HBX(P:b8)(w:df)(K:aj)(mg:Str->Option aq)(base:ed)(N:List Str)(x:Str)(st:Stmt)(f:av)(k:Nat)(f0:FS)(ZN:aq):Prop:=
 ∀{A:d4} {outer:List Env} {s:ax} {H F0:Hp} {E:XK},N.Nodup->True->cY k (A.deeper (envOfC x (Yg st) s.heap.objs.size f ZN))->(A.deeper (envOfC x (Yg st) s.heap.objs.size f ZN)).units+1<cLine->(A.deeper (envOfC x (Yg st) s.heap.objs.size f ZN)).units+64<cLine->
  Mh (Ri (Hc P w) P w K mg base N x (Yg st) f ZN A outer s H E) (Jq st) (Zx (entX H F0 E:cU K) f0)
abbrev HBM(P:b8)(w:df)(K:aj)(mg:Str->Option aq)(base:ed)(N:List Str)(x:Str)(st:Stmt)(f:av)(k:Nat)(f0:FS)(ZN:aq):Prop:=
 ∀{A:d4} {outer:List Env} {s:ax} {H G0 F0:Hp} {E:XK},N.Nodup->True->cY k (A.deeper (envOfC x (Yg st) s.heap.objs.size f ZN))->(A.deeper (envOfC x (Yg st) s.heap.objs.size f ZN)).units+1<cLine->(A.deeper (envOfC x (Yg st) s.heap.objs.size f ZN)).units+64<cLine->
  Mh (Ri Qm P w K mg base N x (Yg st) f ZN A outer s H E).nox (Jq st) (Zx (ent G0 F0:cU K) f0)
section
variable{P:b8}{w:df}{K:aj}{mg:Str->Option aq}{base:ed}{x:Str}{st:Stmt}{f:av}{fd:FuncData}
theorem vD(u:Und K mg)(a:∃f fd,AtF K x st f fd)(k n N g f0)(hb:∀{f:av} {ZN:aq},HBX P w K mg base N x st f k f0 ZN)(S:‹Sc x st n N›)(hg:‹g=ON f0 N.length›):Sv P w K mg base (Hc P w) (k+1) x (N.take n) (spX K n g):=by
 obtain⟨f,fd,a⟩:=a;refine⟨f,fd,?_,u a.1,a.2.kp,a.2.binds S.B⟩;subst hg;exact Fun.okX a.2 S.S (λ_ _ _ _ h=>(nP h).trans S.n) λZN A outer s H vs Q E hr h=>by obtain⟨F0,h⟩:=jz (N:=N) (f:=f0) h;exact⟨_,hb S.S.nd trivial hr (LF hr) hr.units,h⟩
theorem vC(u:Und K mg)(a:∃f fd,AtF K x st f fd)(k n N g f0)(hb:∀{f:av} {ZN:aq},HBM P w K mg base N x st f k f0 ZN)(S:‹Sc x st n N›)(hg:‹g=OK f0 N.length›)(h1:‹1=(N.take n).length›)(hN:‹0<N.length›):Sv P w K mg base Qm (k+1) x (N.take n) (spM K g):=by
 obtain⟨f,fd,a⟩:=a;refine⟨f,fd,?_,u a.1,a.2.kp,a.2.binds S.B⟩;subst hg;exact a.2.ok S.S (λ_ _ _ _ h=>(oM h).trans h1) λZN A outer s H vs Q E hr h=>by obtain⟨G0,F0,h⟩:=jL (N:=N) (f:=f0) hN h;exact⟨_,hb S.S.nd trivial hr (LF hr) hr.units,h⟩
theorem Xd(u:Und K mg)(a:∃f fd,AtF K x st f fd)(k n N)(S:‹Sc x st n N›):
  Sv P w K mg base Qm k x (N.take n) (Y3 K n λ_=>aB):=by
 obtain⟨f,fd,a⟩:=a;exact⟨f,fd,jP,u a.1,a.2.kp,a.2.binds S.B⟩
theorem Sv.mono(S:Sv P w K mg base CX k x ps sp)(h:k<=k'):Sv P w K mg base CX k' x ps sp:=
 let⟨f,fd,a,b,c,d⟩:=S;⟨f,fd,a.mono h,b,c,d⟩
end
section
variable{X:Cx}{Z:cU X.K}{a:ca}{pos:Pos}{k j n:Nat}{ps:List Str}{x:Str}{p:Pos}
theorem xl(S:Sv X.prog X.w X.K X.mg X.base (Hc X.prog X.w) k x ps (spX X.K n g))(hr:cY j X.A)(th:Ak X Z.x)(ha:PA X (a::es) (Gn Z fr))(hj:‹k<=j›)(hg:‹Gl X x›)(YM:‹(x==("__debug__":Str))=aD›)(he:‹au (a::es) X.env=(aD,dj a X.env)::au es X.env›)(ZH:‹(c9 pos (au es X.env)).any (·.1)=aD›):
  PE X (.Call (.Name x p) (a::es) [] pos) (Oe Z (Dy n g fr)):=
 let⟨_,_,a,b,c,d⟩:=S;qW a (hr.mono hj) b c d th ha hg YM he ZH
theorem BY(i){ZA}(S:Sv X.prog X.w X.K X.mg X.base Qm k x ps (spM X.K g))(hr:cY j X.A)(ha:PE X a (Ol i))(hj:‹k<=j›)(hg:‹Gl X x›)(YM:‹(x==("__debug__":Str))=aD›)(he:‹au [a] X.env=(aD,dj a X.env)::au [] X.env›)(ZH:‹(c9 ZA (au [] X.env)).any (·.1)=aD›)(Y':‹swapsWith (.Call (.Name x p) [a] [] ZA) aB pos.line X.env=pure aD›):
  PS X (.Expr (.Call (.Name x p) [a] [] ZA) pos) (Zx Z (Nr i g)):=
 let⟨_,_,a,b,c,d⟩:=S;eD i a (hr.mono hj) b c d ha hg YM he ZH Y'
end
section
variable{K:aj}
section
variable{Z:cU K}{H:Hp}{σ:L2.St}{Q:VK}{E:Ends}
abbrev WR:=List Key×List D
abbrev WG:=av->List D->List Key->List D->Option WR
def spW(K:aj)(n:Nat)(g:WG):Sp:=λvs H Q _=>∃F a us ds kvs ep es r,vs=us++[V.ref a]/\Zo F H/\cQ K F ds us/\ds.length=n/\cQ K F es (kvs.map (·.2))/\F a=aB/\H a=aA (.dK kvs ep)/\g a ds (kvs.map (·.1)) es=aA r/\
 ∀H' F' ZX WL,Zo (Bb H [(a,.dK kvs ep)]) H'->Zo F F'->Zo F' H'->(∀(b:av) (o:HO),F' b=aA o->F b=aA o\/Bb H [(a,.dK kvs ep)] b=aB)->ZX.map (·.1)=r.1->cQ K F' r.2 (ZX.map (·.2))->F' a=aB->H' a=aA (.dK ZX WL)->Q (.ref a) H'
theorem oy{E}(h:spW K n g vs H Q E):vs.length=n+1:=by obtain⟨F,a,us,ds,kvs,ep,es,r,rfl,_,r1,hn,_⟩:=h;rw[ao,<-r1.length,hn];rfl
theorem iI:FnOk P w K mg base CX k f fd ps (spW K n λ_ _ _ _=>aB):=by
 refine⟨λvs H Q E h=>?_,λA outer s H args us vs Q E hr he hb hv h=>?_⟩
 .obtain⟨F,a,us,ds,kvs,ep,es,r,_,_,_,_,_,_,_,e,_⟩:=h;cases e
 .obtain⟨F,a,us,ds,kvs,ep,es,r,_,_,_,_,_,_,_,e,_⟩:=h;cases e
@[simp]noncomputable def BX(a:av):Option (Option SV)->Option WR
 |some (aA (.oQ b ks es))=>if b=a then aA (ks,es)else aB
 |_=>aB
@[simp]noncomputable def QH(fs:List FS)(n:Nat):WG:=λa ds ks es=>(runs fs (Xc n a ds ks es)).bind λδ=>BX a (δ[ds.length]?)
theorem jG(hN:n<N.length)(h:spW K n (QH fs N.length) vs H Q E'):∃G F,LD (ent G F:cU K) fs (QN (Ol n)) {nx:=λ_ H'=>Q .non H',rt:=Q} (L2.start N vs) H:=by
 obtain⟨F,a,us,ds,kvs,ep,es,r,rfl,le,r1,hn,r2,fa,ha,e,k⟩:=h;refine⟨Bb H [(a,.dK kvs ep)],F,?_⟩;have q:=Al (N:=N) le r1;have s0:SR (ent (Bb H [(a,.dK kvs ep)]) F:cU K) F H (L2.start N us) (Ca N.length ds) λ_=>[]:=
  ⟨q.le,λb o e=>.inl e,xN,q.len,q.at',q.nod,λ_ _ h=>(nomatch h),λ_ _ _ _ _ h=>(nomatch h)⟩
 have t:cZ (ent (Bb H [(a,.dK kvs ep)]) F:cU K) F H (λ_=>[]) (.oQ a (kvs.map (·.1)) es) (.ref a) [(a,.dK kvs ep)]:=
  ⟨.oQ rfl r2,Fk,λp hp=>by
   obtain rfl:=af.mp hp;exact⟨fa,xM (bd.mpr ⟨_,af.mpr rfl,rfl⟩),ha⟩,λ_ _ _ _ h=>(nomatch h)⟩
 have uD:us.length=n:=by rw[<-r1.length];exact hn
 have uE:(L2.start N us).length=N.length:=by unfold L2.start;rw[ao,ay,List.length_replicate];omega
 have s1:=s0.store (i:=n) t (by rw[uE];exact hN);have e1:(L2.start N us).set n (aA (V.ref a))=L2.start N (us++[V.ref a]):=by
  unfold L2.start;obtain⟨m,hm⟩:∃m,N.length- us.length=m+1:=⟨N.length- us.length- 1,by omega⟩
  have:=xn (us.map aA) m (aA (V.ref a)) aB;rw[ay,uD]at this;rw[hm,this,cm,cg,ao];have h2:N.length- (us.length+[V.ref a].length)=m:=by simp;omega
  rw[h2];rfl
 have e2:(Ca N.length ds).set n (aA (SV.oQ a (kvs.map (·.1)) es))=Xc N.length a ds (kvs.map (·.1)) es:=by
  unfold Ca Xc;obtain⟨m,hm⟩:∃m,N.length- ds.length=m+1:=⟨N.length- ds.length- 1,by omega⟩
  have:=xn (ds.map λd=>aA (SV.fz d)) m (aA (SV.oQ a (kvs.map (·.1)) es)) aB;rw[ay,hn]at this;rw[hm,this];rfl
 rw[e1,e2]at s1;unfold QH at e;refine cR e λδ1 f1 e=>?_;refine xo s1 f1 λYU H2 F2 own2 a2 s2=>?_;generalize ho:δ1[ds.length]? =o at e;unfold BX at e;split at e
 .rename_i b ks' QD;split at e
  .rename_i hb;cases e;subst hb;obtain⟨v',YA,sh⟩:=s2.at' _ _ ho;refine G9 (Kw sh) λZX WL ev en ek rr=>?_;have mb:(b,HO.dK ZX WL)∈own2 ds.length:=by rw[en];exact aa
   obtain⟨x1,x2,x3⟩:=s2.ok _ _ mb;rw[hn,ev]at YA;exact⟨_,YA,k H2 F2 ZX WL s2.old a2 s2.le s2.fro ek rr x1 x3⟩
  .cases e
 .cases e
theorem SR.handS(s:SR Z F H σ δ own)(hi:δ[i]? =aA (aA sv))(hv:σ[i]? =aA (aA (.ref a)))(en:own i=[(a,.dK kvs ep)])(sH:Zo (Bb H [(a,.dK kvs ep)]) H')(sF:Zo F F')(SN:Zo F' H')(XN:∀b o,F' b=aA o->F b=aA o\/Bb H [(a,.dK kvs ep)] b=aB)(sh:cV K F' sv' (.ref a) [(a,.dK ZX WL)])(fa:F' a=aB)(ha:H' a=aA (.dK ZX WL)):
  SR Z F' H' σ (δ.set i (aA sv')) (put own i [(a,.dK ZX WL)]):=by
 have JS:i<δ.length:=(bf.mp hi).1;have ma:(a,HO.dK kvs ep)∈own i:=by rw[en];exact aa
 obtain⟨x1,x2,x3⟩:=s.ok i _ ma;have out:∀b,b≠a->Bb H [(a,.dK kvs ep)] b=H b:=λb hb=>Cz λz=>hb (by simpa[B9]using z);have zh:∀b,Bb H [(a,.dK kvs ep)] b=aB->Z.h b=aB:=λb hb=>by
  by_cases z:b=a
  .subst z;exact x2
  .rw[out b z]at hb;exact s.old.free hb
 have keep:∀j,j≠i->∀q∈own j,q.1≠a:=λj hj q hq=>s.sep j i q _ hj hq ma;refine⟨SN,λb o e=>?_,λb o e=>?_,by rw[List.length_set];exact s.len,λj sv e=>?_,λj=>?_,λj q hq=>?_,λj l q r VP hq hr=>?_⟩
 .rcases XN b o e with z|z
  .exact s.fro b o z
  .exact .inr (zh b z)
 .refine sH b o ?_;rw[out b λz=>by rw[z,x2]at e;cases e];exact s.old b o e
 .by_cases hj:j=i
  .subst hj;rw[d3 JS]at e;cases e;rw[Z4];exact⟨_,hv,sh⟩
  .rw[du (Ne.symm hj)]at e;obtain⟨v,h1,h2⟩:=s.at' j sv e;rw[Yb hj];exact⟨v,h1,h2.mono sF⟩
 .by_cases hj:j=i
  .subst hj;rw[Z4];exact Fk
  .rw[Yb hj];exact s.nod j
 .by_cases hj:j=i
  .subst hj;rw[Z4]at hq;obtain rfl:=af.mp hq;exact⟨fa,x2,ha⟩
  .rw[Yb hj]at hq;obtain⟨y1,y2,y3⟩:=s.ok j q hq;have hh:Bb H [(a,.dK kvs ep)] q.1=aA q.2:=by rw[out _ (keep j hj q hq)];exact y3
   refine⟨?_,y2,sH _ _ hh⟩;cases z:F' q.1 with
   |none=>rfl
   |some u=>
    rcases XN _ u z with y|y
    .rw[y1]at y;cases y
    .rw[hh]at y;cases y
 .by_cases hj:j=i
  .subst hj;rw[Z4]at hq;rw[Yb (Ne.symm VP)]at hr;obtain rfl:=af.mp hq;exact Ne.symm (keep l (Ne.symm VP) r hr)
  .by_cases hl:l=i
   .subst hl;rw[Z4]at hr;rw[Yb hj]at hq;obtain rfl:=af.mp hr;exact keep j hj q hq
   .rw[Yb hj]at hq;rw[Yb hl]at hr;exact s.sep j l q r VP hq hr
@[simp]noncomputable def Xe(i n:Nat)(g:WG)(fd:FD):FS:=λδ=>(fd δ).bind λp=>if p.1.length=n then match p.2[i]? with
 |some (aA (.oQ b ks es))=>(g b p.1 ks es).bind λr=>aA (.nx (p.2.set i (aA (.oQ b r.1 r.2))))
 |_=>aB else aB
theorem ox(h:Zx Z (Xe i n g fd) E σ H):M7 (Hj (spW K n g) [] E' (Lc Z i fd)) E σ H:=by
 refine Ww h λF δ own fl s e k=>?_;unfold Xe at e;refine cT e λds δ1 e1 e=>?_;dsimp only at e;split at e
 .rename_i hn;split at e
  .rename_i b ks es hi;refine cR e λr hg e=>?_;cases e;refine⟨F,δ,own,ds,δ1,s,e1,λvs H1 F1 own1 sH sF s1 r1=>?_⟩;obtain⟨x,hx,sh⟩:=s1.at' i _ hi;refine⟨x,hx,?_⟩;obtain⟨kvs,ep,rfl,en,rfl,rr⟩:=Kw sh;have ma:(b,HO.dK kvs ep)∈own1 i:=by rw[en];exact aa
   obtain⟨x1,x2,x3⟩:=s1.ok i _ ma;rw[de];refine⟨F1,b,vs,ds,kvs,ep,es,r,rfl,s1.le,r1,hn,rr,x1,x3,hg,λH' F' ZX WL L_ TL SN XN IF QS ID VJ=>?_⟩;exact k σ H' F' _ (sF.trans TL) (s1.handS hi hx en L_ TL SN XN (.oQ IF QS) ID VJ)
  .cases e
 .cases e
def Ld(Z:cU K)(fd:FD):TA:=λσ H R=>Ji Z fd σ H λvs H1=>Ve σ H1 λx H2=>R (vs++[x]) H2
open Classical in
def Mp(n:Nat)(g:WG)(fd:FD):FE:=λδ=>(fd δ).bind λp=>if p.1.length=n then if h:∃r,∀a,g a p.1 [] []=aA r then aA (.tmp (.oK h.choose.1 h.choose.2),p.2)else aB else aB
theorem iH(hd:fd δ=aA (ds,δ1))(hn:ds.length=n)(hg:∀a,g a ds [] []=aA r):Mp n g fd δ=aA (.tmp (.oK r.1 r.2),δ1):=by
 unfold Mp;rw[hd];dsimp only[f8];have h:∃r,∀a,g a ds [] []=aA r:=⟨r,hg⟩
 rw[bJ hn,dif_pos h];have:=h.choose_spec 0;rw[hg 0]at this;rw[<-Option.some.inj this]
theorem lB(h:Zf Z (Mp n g fd) σ H Q):Hj (spW K n g) [] E' (Ld Z fd) σ H Q:=by
 refine Yx h λF δ own rv δ' s e k=>?_;unfold Mp at e;refine cT e λds δ1 e1 e=>?_;dsimp only at e;split at e
 .rename_i hn;split at e
  .rename_i hg;cases e;refine⟨F,δ,own,ds,_,s,e1,λvs H1 F1 own1 sH sF s1 r1=>?_⟩;intro a ha;show spW K n g ((vs++[V.ref a])++[]) _ Q E';rw[de];have fa:F1 a=aB:=by
    cases z:F1 a with
    |none=>rfl
    |some o=>have:=s1.le a o z;rw[ha]at this;cases this
   have za:Z.h a=aB:=s1.old.free ha;refine⟨F1,a,vs,ds,[],0,[],_,rfl,λb o e=>?_,r1,hn,.nil,fa,Yp,hg.choose_spec a,λH' F' ZX WL L_ TL SN XN IF QS ID VJ=>?_⟩
   .rw[Zv λz=>by rw[z,fa]at e;cases e];exact s1.le b o e
   .have hs:∀b o,H1 b=aA o->H' b=aA o:=λb o e=>by
     refine L_ b o ?_;have hb:b≠a:=λz=>by rw[z,ha]at e;cases e
     rw[Cz (λz=>hb (by simpa[B9]using z)),Zv hb];exact e
    have PY:∀(b:av) (o:HO),F' b=aA o->F1 b=aA o\/H1 b=aB:=λb o e=>by
     rcases XN b o e with z|z
     .exact .inl z
     .by_cases hb:b=a
      .rw[hb];exact .inr ha
      .rw[Cz (λz=>hb (by simpa[B9]using z)),Zv hb]at z;exact .inr z
    have vq:∀(i:Nat) (p:av×HO),p∈own1 i->F' p.1=aB/\Z.h p.1=aB/\H' p.1=aA p.2:=λi p hp=>by
     obtain⟨y1,y2,y3⟩:=s1.ok i p hp;refine⟨?_,y2,hs _ _ y3⟩;cases z:F' p.1 with
     |none=>rfl
     |some u=>
      rcases PY _ u z with y|y
      .rw[y1]at y;cases y
      .rw[y3]at y;cases y
    have s2:SR Z F' H' σ δ' own1:=⟨SN,λb o e=>(PY b o e).elim (s1.fro b o) λz=>.inr (s1.old.free z),s1.old.trans hs,s1.len,λi sv e=>let⟨v,h1,h2⟩:=s1.at' i sv e;⟨v,h1,h2.mono TL⟩,s1.nod,vq,s1.sep⟩
    refine k (.ref a) H' F' own1 (sH.trans hs) (sF.trans TL) s2 ⟨[(a,.dK ZX WL)],.oK IF QS,Fk,λp hp=>?_,λi p q hp hq=>?_⟩
    .obtain rfl:=af.mp hp;exact⟨ID,za,VJ⟩
    .obtain rfl:=af.mp hp;intro z;have:=(s1.ok i q hq).2.2;rw[<-z]at this;have this:H1 a=aA q.2:=this;rw[ha]at this;cases this
  .cases e
 .cases e
end
section
variable{X:Cx}{Z:cU X.K}{a b c:ca}{fa fb fc:FE}{pos:Pos}{k j n:Nat}{ps:List Str}{x:Str}{p:Pos}{es:List ca}
theorem rB(he:‹au [.Dict [] [] p0] X.env=(aD,dj (.Dict [] [] p0) X.env)::au [] X.env›):PA X [.Dict [] [] p0] (Ld Z Zt):=by intro p cO s σ H R I h;refine Wn Kf Ql he p cO s σ H R I ?_;refine Yx h λF δ own ds δ' s0 e k=>?_;cases e;exact k [] H F own (Zo.refl H) (Zo.refl F) s0 .nil
theorem xk(ha:PE X a (Zf Z fa))(hr:PA X es (Ld Z fd))(he:‹au (a::es) X.env=(aD,dj a X.env)::au es X.env›):PA X (a::es) (Ld Z (Zm fa fd)):=by intro p cO s σ H R I h;refine Wn ha hr he p cO s σ H R I ?_;exact Gh h
theorem lA(S:Sv X.prog X.w X.K X.mg X.base Qm k x ps (spW X.K n g))(hr:cY j X.A)(ha:PA X (a::es) (Ld Z fr))(hj:‹k<=j›)(hg:‹Gl X x›)(YM:‹(x==("__debug__":Str))=aD›)(he:‹au (a::es) X.env=(aD,dj a X.env)::au es X.env›)(ZH:‹(c9 pos (au es X.env)).any (·.1)=aD›):
  PE X (.Call (.Name x p) (a::es) [] pos) (Zf Z (Mp n g fr)):=
 let⟨_,_,F,b,c,d⟩:=S;(Fi F (hr.mono hj) hg b c d .nil LG ha YM he ZH).imp λ_ _ _ h=>lB h
theorem ou(i){ZA}(S:Sv X.prog X.w X.K X.mg X.base Qm k x ps (spW X.K n g))(hr:cY j X.A)(ha:PA X (a::es) (Lc Z i fr))(hj:‹k<=j›)(hg:‹Gl X x›)(YM:‹(x==("__debug__":Str))=aD›)(he:‹au (a::es) X.env=(aD,dj a X.env)::au es X.env›)(ZH:‹(c9 ZA (au es X.env)).any (·.1)=aD›)(Y':‹swapsWith (.Call (.Name x p) (a::es) [] ZA) aB pos.line X.env=pure aD›):
  PS X (.Expr (.Call (.Name x p) (a::es) [] ZA) pos) (Zx Z (Xe i n g fr)):=
 let⟨_,_,F,b,c,d⟩:=S;(Ot (Fi F (hr.mono hj) hg b c d .nil LG ha YM he ZH) Y').imp λ_ _ _ h=>ox h
end
abbrev HBW(P:b8)(w:df)(K:aj)(mg:Str->Option aq)(base:ed)(N:List Str)(x:Str)(st:Stmt)(f:av)(k n:Nat)(fs:List FS)(ZN:aq):Prop:=
 ∀{A:d4} {outer:List Env} {s:ax} {H G0 F0:Hp} {E:XK},N.Nodup->True->cY k (A.deeper (envOfC x (Yg st) s.heap.objs.size f ZN))->(A.deeper (envOfC x (Yg st) s.heap.objs.size f ZN)).units+1<cLine->(A.deeper (envOfC x (Yg st) s.heap.objs.size f ZN)).units+64<cLine->
  Mh (Ri Qm P w K mg base N x (Yg st) f ZN A outer s H E).nox (Jq st) (LD (ent G0 F0:cU K) fs (QN (Ol n)))
section
variable{P:b8}{w:df}{mg:Str->Option aq}{base:ed}{x:Str}{st:Stmt}{f:av}{fd:FuncData}
theorem hJ(u:Und K mg)(a:∃f fd,AtF K x st f fd)(k n N g fs)(hb:∀{f:av} {ZN:aq},HBW P w K mg base N x st f k n fs ZN)(S:Sc x st (n+1) N:=by exact⟨⟨rfl,rfl,rfl,by decide+kernel,rfl,by decide+kernel,by decide+kernel⟩,by first|exact λ_ _ _ _ _ _ us hl=>of1 (λ_=>rfl) us hl|exact λ_ _ _ _ _ _ us hl=>of2 (λ_ _=>rfl) us hl|exact λ_ _ _ _ _ _ us hl=>of3 (λ_ _ _=>rfl) us hl|exact λ_ _ _ _ _ _ us hl=>of4 (λ_ _ _ _=>rfl) us hl|exact λ_ _ _ _ _ _ us hl=>of5 (λ_ _ _ _ _=>rfl) us hl,rfl⟩)(hg:‹g=QH fs N.length›)(hN:‹n<N.length›):Sv P w K mg base Qm (k+1) x (N.take (n+1)) (spW K n g):=by
 obtain⟨f,fd,a⟩:=a;refine⟨f,fd,?_,u a.1,a.2.kp,a.2.binds S.B⟩;subst hg;exact a.2.ok S.S (λ_ _ _ _ h=>(oy h).trans S.n) λZN A outer s H vs Q E hr h=>by obtain⟨G0,F0,h⟩:=jG (N:=N) (fs:=fs) hN h;exact⟨_,hb S.S.nd trivial hr (LF hr) hr.units,h⟩
theorem m_(u:Und K mg)(a:∃f fd,AtF K x st f fd)(k n N)(S:Sc x st (n+1) N:=by exact⟨⟨rfl,rfl,rfl,by decide+kernel,rfl,by decide+kernel,by decide+kernel⟩,by first|exact λ_ _ _ _ _ _ us hl=>of1 (λ_=>rfl) us hl|exact λ_ _ _ _ _ _ us hl=>of2 (λ_ _=>rfl) us hl|exact λ_ _ _ _ _ _ us hl=>of3 (λ_ _ _=>rfl) us hl|exact λ_ _ _ _ _ _ us hl=>of4 (λ_ _ _ _=>rfl) us hl|exact λ_ _ _ _ _ _ us hl=>of5 (λ_ _ _ _ _=>rfl) us hl,rfl⟩):
  Sv P w K mg base Qm k x (N.take (n+1)) (spW K n λ_ _ _ _=>aB):=by
 obtain⟨f,fd,a⟩:=a;exact⟨f,fd,iI,u a.1,a.2.kp,a.2.binds S.B⟩
end
end
end L2
namespace My
open L2
theorem Zn(h:n<=16777216):n<=PySem.sizeLine:=h
theorem Y2(h:n<16777216):n<PySem.sizeLine:=h
noncomputable abbrev LET:Str:="ABCDEFGHIJKLMNOPQRSTUVWXYZabcdefghijklmnopqrstuvwxyz"
theorem Wd(a b:Str):(a++b).length=a.length+b.length:=by show(a.cps++b.cps).size=a.cps.size+b.cps.size;simp
theorem cE(c):(⟨#[c]⟩:Str).length=1:=rfl
theorem W9:∀xs:List Str,strs? (xs.map D.str)=aA xs
 | []=>rfl
 |x::r=>by simp[W9 r]
noncomputable def Fs:List Str->Str
 | []=>""
 |x::r=>x++Fs r
theorem D9:∀xs,di (az "") xs=Fs xs
 | []=>rfl
 | [x]=>by show x=x++Str.empty;rw[Str.append_empty]
 |x::y::r=>by show x++Str.empty++di (az "") (y::r)=x++Fs (y::r);rw[Str.append_empty,D9 (y::r)]
theorem FL(xs):Txt.join (az "") xs=Fs xs:=(StrLaws.glued_eq_join _ xs).trans (D9 xs)
theorem BW(sep xs):Txt.join sep xs=di sep xs:=StrLaws.glued_eq_join _ xs
theorem Le(h:∀x∈xs,x.length<=B)(hz:xs.length*B+xs.length*sep.length<=16777216):JoinOk sep xs=aC:=by unfold JoinOk;rw[StrLaws.joinFits h hz];rfl
theorem Ay{te:FE}:∀xs ys,(∀x∈xs,∀zs,te [aA (.fz x),c,aA (.ol zs)]=aA (.tmp (.fz (f x)),[aA (.fz x),c,aA (.ol zs)]))->ys.length+xs.length<=16777216->
  Wl [.own,.cap j,.acc] 2 (Zl 0) O8 te xs [aB,c,aA (.ol ys)]=aA [aB,c,aA (.ol (ys++xs.map f))]
 | [],ys,_,_=>by simp
 |x::xs,ys,h,hl=>by rw[bc]at hl;have ih:=Ay (te:=te) (f:=f) (c:=c) (j:=j) xs (ys++[f x]) (λy hy=>h y (ad _ hy)) (by rw[ao];simp;omega);have e1:=h x aa ys;have h4:ys.length<PySem.sizeLine:=Y2 (by omega);simp[e1,h4];simpa using ih
theorem Lf:∀xs,(∀x∈xs,f x x=aA aC)->Pr f xs xs=aA aC
 | [],_=>rfl
 |x::r,h=>by simp[h x aa,Lf r λy hy=>h y (ad _ hy)]
end My
namespace My
open L2 StrLaws Builtin.Str
def gap(n:Nat):Nat->List Nat->Prop
 |_,[]=>True
 |a,p::r=>a<=p/\gap n (p+n) r
theorem Tw:∀{a:Nat} {P:List Nat},gap n a P->∀i∈P,a<=i
 |_,[],_,i,h=>nomatch h
 |a,p::r,g,i,h=>by
  rcases ba.mp h with e|e
  .rw[e];exact g.1
  .have:=Tw g.2 i e;have:=g.1;omega
theorem FK(s sub hi limit)(hn:1<=sub.length):∀m a ZM free P,gap sub.length free P->(∀i∈P,a<=i/\i<a+m)->
  (∀i,a<=i->((free<=i/\At s sub hi i)↔i∈P))->
  (forIn (List.range' a m) (ZM,free) (occBody s sub hi limit)).run.fst.toList=ZM.toList++P.take (limit- ZM.size)
 |0,a,ZM,free,P,g,hb,hm=>by
  have:P=[]:=by
   cases P with
   |nil=>rfl
   |cons p r=>have:=hb p aa;omega
  subst this;simp
 |m+1,a,ZM,free,P,g,hb,hm=>by
  rw[List.range'_succ,List.forIn_cons];unfold occBody;by_cases hl:ZM.size<limit
  .by_cases ha:a∈P
   .obtain⟨h1,h2,h3⟩:=(hm a (bg _)).mpr ha;rw[bJ ⟨⟨⟨hl,h1⟩,h2⟩,h3⟩];obtain⟨P',rfl⟩:∃P',P=a::P':=by
     cases P with
     |nil=>cases ha
     |cons p r=>
      rcases ba.mp ha with e|e
      .exact⟨r,by rw[e]⟩
      .have:=Tw g.2 a e;have:=(hb p aa).1;omega
    have ih:=FK s sub hi limit hn m (a+1) (ZM.push a) (a+sub.length) P' g.2 (λi XM=>by
      have z1:=Tw g.2 i XM;have z2:=(hb i (ad _ XM)).2;omega) (λi XM=>by
      constructor
      .rintro⟨z1,z2⟩;have:=(hm i (by omega)).mp ⟨by omega,z2⟩;rcases ba.mp this with e|e
       .omega
       .exact e
      .intro z;have z1:=Tw g.2 i z;exact⟨z1,((hm i (by omega)).mpr (ad _ z)).2⟩)
    refine Eq.trans ih ?_;rw[Array.toList_push,Array.size_push,show limit- ZM.size=(limit- (ZM.size+1))+1 by omega,List.take_succ_cons,cg];rfl
   .rw[bI λz=>ha ((hm a (bg _)).mp ⟨z.1.1.2,z.1.2,z.2⟩)];refine FK s sub hi limit hn m (a+1) ZM free P g (λi XM=>?_) (λi XM=>hm i (by omega));have z:=hb i XM;have:i≠a:=λe=>ha (by rw[<-e];exact XM);omega
  .rw[bI λz=>hl z.1.1.1];have e0:limit- ZM.size=0:=by omega
   have ih:∀(l:List Nat) (st:Array Nat×Nat),¬st.fst.size<limit->(forIn l st (occBody s sub hi limit)).run.fst=st.fst:=by
    intro l;induction l with
    |nil=>intro st _;rfl
    |cons x l ih=>intro st YB;rw[List.forIn_cons];unfold occBody;rw[bI λz=>YB z.1.1.1];exact ih _ YB
   have:=ih (List.range' (a+1) m) (ZM,free) hl;refine Eq.trans (congrArg Array.toList this) ?_;rw[e0];simp
theorem rA(x y limit P)(hn:1<=y.length)(g:gap y.length 0 P)(hm:∀i,At x y x.length i↔i∈P):occurrences x y 0 x.length limit=P.take limit:=by
 rw[occ_eq];have:=FK x y x.length limit hn (x.length+1- 0) 0 #[] 0 P g (λi hi=>by
  have:=((hm i).mpr hi).1;omega) (λi _=>by rw[<-hm i];simp)
 simpa using this
noncomputable def jl(y:List Nat):List (List Nat)->List Nat
 | []=>[]
 | [p]=>p
 |p::q::r=>p++y++jl y (q::r)
noncomputable def pos(n:Nat):Nat->List (List Nat)->List Nat
 |_,[]=>[]
 |_,[_]=>[]
 |a,p::q::r=>(a+p.length)::pos n (a+p.length+n) (q::r)
theorem Xf(n):∀a ps,gap n a (pos n a ps)
 |_,[]=>True.intro
 |_,[_]=>True.intro
 |a,p::q::r=>⟨Nat.le_add_right _ _,Xf n _ (q::r)⟩
theorem vB(ho:∀j,y[j]? =aA c->j=o):∀ps a j,(∀p∈ps,c∉p)->(jl y ps)[j]? =aA c->∃i∈pos y.length a ps,a+j=i+o
 | [],a,j,_,e=>by simp[jl]at e
 | [p],a,j,hp,e=>bN (cy e) (hp p aa)
 |p::q::r,a,j,hp,e=>by
  have e:(p++y++jl y (q::r))[j]? =aA c:=e;by_cases h1:j<p.length
  .rw[cg,fm h1]at e;exact bN (cy e) (hp p aa)
  .by_cases h2:j<p.length+y.length
   .rw[cg,dv (by omega),fm (by omega)]at e;have:=ho _ e;exact⟨a+p.length,aa,by omega⟩
   .rw[dv (by rw[ao];omega),ao]at e;obtain⟨i,hi,ei⟩:=vB ho (q::r) (a+p.length+y.length) _ (λz hz=>hp z (ad _ hz)) e;exact⟨i,ad _ hi,by omega⟩
theorem Xg:∀ps a i,i∈pos y.length a ps->a<=i/\i- a+y.length<=(jl y ps).length/\((jl y ps).drop (i- a)).take y.length=y
 | [],_,_,h=>nomatch h
 | [_],_,_,h=>nomatch h
 |p::q::r,a,i,h=>by
  show a<=i/\i- a+y.length<=(p++y++jl y (q::r)).length/\((p++y++jl y (q::r)).drop (i- a)).take y.length=y;rcases ba.mp h with e|e
  .subst e;rw[ao,ao,show a+p.length- a=p.length by omega];refine⟨by omega,by omega,?_⟩;rw[cg,List.drop_left,List.take_left]
  .obtain⟨z1,z2,z3⟩:=Xg (q::r) (a+p.length+y.length) i e;rw[ao,ao];refine⟨by omega,by omega,?_⟩;rw[show i- a=(p++y).length+(i- (a+p.length+y.length)) by rw[ao];omega,<-List.drop_drop,List.drop_left];exact z3
theorem Mq(y):∀ps,(di y ps).cps.toList=jl y.cps.toList (ps.map λp=>p.cps.toList)
 | []=>rfl
 | [p]=>rfl
 |p::q::r=>by show(p++y++di y (q::r)).cps.toList=p.cps.toList++y.cps.toList++jl y.cps.toList ((q::r).map λp=>p.cps.toList);rw[<-Mq y (q::r)];simp[Str.cps_append]
theorem Yk(x:Str):x.cps.toList.length=x.length:=by simp[Str.length]
structure Sep(y:Str)(c o:Nat):Prop where
 at':y.cps.toList[o]? =aA c
 one:∀j,y.cps.toList[j]? =aA c->j=o
theorem Sep.pos(S:Sep y c o):1<=y.length:=by have:=(bf.mp S.at').1;rw[Yk]at this;omega
theorem zm(S:Sep y c o)(ps)(hp:∀p∈ps,c∉p.cps.toList)(i):At (di y ps) y (di y ps).length i↔i∈pos y.length 0 (ps.map λp=>p.cps.toList):=by
 have hL:=Mq y ps;have hy:=Yk y;constructor
 .rintro⟨h1,h2⟩;rw[subAt_eq]at h2;have h2:=eq_of_beq h2;have hc:(jl y.cps.toList (ps.map λp=>p.cps.toList))[i+o]? =aA c:=by
   have z:=S.at';rw[<-h2,List.getElem?_take]at z;split at z
   .rw[List.getElem?_drop]at z;rw[<-hL];exact z
   .cases z
  obtain⟨j,hj,e⟩:=vB S.one (ps.map λp=>p.cps.toList) 0 (i+o) (λq hq=>by
   obtain⟨p,h,rfl⟩:=bd.mp hq;exact hp p h) hc
  have:i=j:=by omega
  rw[this,<-hy];exact hj
 .intro h;rw[<-hy]at h;obtain⟨z1,z2,z3⟩:=Xg _ 0 i h;rw[<-hL]at z2 z3;have hz:=Yk (di y ps);refine⟨by omega,?_⟩;rw[subAt_eq,<-hy];simpa using z3
theorem Az(S:Sep y c o)(ps)(hp:∀p∈ps,c∉p.cps.toList)(limit):
  occurrences (di y ps) y 0 (di y ps).length limit=(pos y.length 0 (ps.map λp=>p.cps.toList)).take limit:=
 rA _ _ _ _ S.pos (Xf _ _ _) (zm S ps hp)
theorem C1(x l i j)(h:(x.cps.toList.drop i).take (j- i)=l):strSub x i j=⟨l.toArray⟩:=by apply Str.ext';apply Array.toList_inj.mp;rw[strSub_toList,h]
theorem A6(x):∀ps a,ps≠[]->x.cps.toList.drop a=jl y ps->a<=x.length->partsFrom x y.length a (pos y.length a ps)=ps.map λp=>⟨p.toArray⟩
 | [],_,h,_,_=>bN rfl h
 | [p],a,_,e,ha=>by
  show[strSub x a x.length]=[⟨p.toArray⟩]
  rw[C1 x p a x.length (by
   rw[e];show p.take _=p;have:=congrArg List.length e;rw[List.length_drop,Yk]at this;have e2:(jl y [p]).length=p.length:=rfl;rw[e2]at this;rw[this];exact List.take_length)]
 |p::q::r,a,_,e,ha=>by
  have e:x.cps.toList.drop a=p++y++jl y (q::r):=e;show strSub x a (a+p.length)::partsFrom x y.length (a+p.length+y.length) (pos y.length (a+p.length+y.length) (q::r))=⟨p.toArray⟩::((q::r).map λp=>⟨p.toArray⟩)
  have l1:=congrArg List.length e;rw[List.length_drop,Yk,ao,ao]at l1;rw[C1 x p a (a+p.length) (by rw[e,show a+p.length- a=p.length by omega,cg,List.take_left])];rw[A6 x (q::r) (a+p.length+y.length) (by simp) (by
   rw[show a+p.length+y.length=a+(p++y).length by rw[ao];omega,<-List.drop_drop,e,List.drop_left]) (by omega)]
theorem i'(ps:List Str):(ps.map λp=>p.cps.toList).map (λp=>(⟨p.toArray⟩:Str))=ps:=by rw[b6];have:∀p:Str,((λp=>(⟨p.toArray⟩:Str))∘λp:Str=>p.cps.toList) p=p:=λp=>rfl;rw[dl (λp _=>this p),List.map_id']
theorem Lg(x):1<=c7 x:=by unfold c7;split<;> (try split)<;> decide
theorem Xh:∀{ps:List (List Nat)},pos n a ps=[]->ps=[]\/∃p,ps=[p]
 | [],_=>.inl rfl
 | [p],_=>.inr ⟨p,rfl⟩
theorem Lh(S:Sep y c o)(hk:c7 y=1)(ps)(h0:ps≠[])(hp:∀p∈ps,c∉p.cps.toList):Txt.split (di y ps) y=ps:=by
 have hP:occurrences (di y ps) y 0 (di y ps).length ((di y ps).length+1)=pos y.length 0 (ps.map λp=>p.cps.toList):=by have h1:=Az S ps hp ((di y ps).length+1);have h2:=Az S ps hp (((di y ps).length+1)+(pos y.length 0 (ps.map λp=>p.cps.toList)).length);rw[List.take_of_length_le (Nat.le_add_left _ _)]at h2;have h3:=occ_length_le_len (di y ps) y 0 (di y ps).length (((di y ps).length+1)+(pos y.length 0 (ps.map λp=>p.cps.toList)).length);rw[h2]at h3;rw[h1,List.take_of_length_le (by omega)]
 have one:pos y.length 0 (ps.map λp=>p.cps.toList)=[]->di y ps=ps.headD Str.empty/\[ps.headD Str.empty]=ps:=λe=>by
  rcases Xh e with z|⟨p,z⟩
  .exact bN (List.map_eq_nil_iff.mp z) h0
  .match ps,z with
   | [q],_=>exact⟨rfl,rfl⟩
 unfold Txt.split;by_cases hs:(decide ((di y ps).length<y.length)||decide (c7 (di y ps)<c7 y))=aC
 .rw[bJ hs];have YL:(di y ps).length<y.length:=by
   rw[hk]at hs;have:=Lg (di y ps);rcases Bool.or_eq_true_iff.mp hs with z|z
   .exact bM z
   .have:=bM z;omega
  have e:pos y.length 0 (ps.map λp=>p.cps.toList)=[]:=by
   cases hq:pos y.length 0 (ps.map λp=>p.cps.toList)with
   |nil=>rfl
   |cons i r=>have:=((zm S ps hp i).mpr (by rw[hq];exact aa)).1;omega
  rw[(one e).1];exact(one e).2
 .rw[bI hs,hP];by_cases he:(pos y.length 0 (ps.map λp=>p.cps.toList)).isEmpty=aC
  .rw[bJ he];have e:=List.isEmpty_iff.mp he;rw[(one e).1];exact(one e).2
  .rw[bI he,partsBetween_eq];have z:=A6 (y:=y.cps.toList) (di y ps) (ps.map λp=>p.cps.toList) 0 (by simpa using h0) (by rw[List.drop_zero];exact Mq y ps) (cr _);rw[Yk,i']at z;exact z
theorem lT(S:Sep y c o)(p)(hp:c∉p.cps.toList):d5 p y=(p,Str.empty,Str.empty):=by have h1:=Az S [p] (λq hq=>by rw[af.mp hq];exact hp) 1;unfold d5;rw[show di y [p]=p from rfl]at h1;rw[h1];rfl
end My
namespace My
open L2
theorem Ys(h1:tg.run d δ=aA δ1)(h2:body δ1=aA (.nx δ2)):Yr tg body (d::ds) δ=Yr tg body ds δ2:=by show(tg.run d δ).bind _=_;rw[h1,f8,h2,f8]
theorem Xi(h1:tg.run d δ=aA δ1)(h2:body δ1=aA (.rt sv)):Yr tg body (d::ds) δ=aA (.rt sv):=by show(tg.run d δ).bind _=_;rw[h1,f8,h2,f8]
theorem E6(h1:t δ=aA (aC,δ1))(h2:b δ1=aA (.nx δ2)):Ju t b (n+1) δ=Ju t b n δ2:=by show(t δ).bind _=_;rw[h1,f8];show(if aC=aC then(b δ1).bind _ else _)=_;rw[bJ rfl,h2,f8]
theorem Tz(h1:t δ=aA (aD,δ1)):Ju t b (n+1) δ=aA (.nx δ1):=by show(t δ).bind _=_;rw[h1,f8];rfl
noncomputable abbrev S(l:List Nat):Str:=⟨l.toArray⟩
theorem Z1(l):(S l).length=l.length:=by show l.toArray.size=_;simp
theorem Wm(a b):S a++S b=S (a++b):=by
 show(⟨a.toArray++b.toArray⟩:Str)=⟨(a++b).toArray⟩
 simp
theorem Bz(h:S a=S b):a=b:=by have:a.toArray=b.toArray:=congrArg Str.cps h;simpa using this
theorem OM(h:a≠b):S a≠S b:=λe=>h (Bz e)
theorem E7(x):x=S x.cps.toList:=by cases x;simp
theorem Yh(l):(S l).cps.toList=l:=by simp
theorem oq(p)(c:α):L2.atI (p++[c]) (-1)=aA c:=by
 unfold L2.atI L2.Nf;rw[ao,b4,bI (by decide),bJ (by omega)];have e:(-1+((p.length+1:Nat):Int)).toNat=p.length:=by omega
 rw[e];simp
theorem Ce(p)(i:Nat)(c:α)(h:p[i]? =aA c):L2.atI p (i:Int)=aA c:=by have hl:=(bf.mp h).1;unfold L2.atI L2.Nf;rw[bJ (by omega),bJ (by omega)];simpa using h
section
variable{κ:Type}[DecidableEq κ]
theorem we(k k' v):∀(ks:List κ) vs,k∈ks->ks.length=vs.length->Z9 ks ((ks.zip vs).map λp=>if p.1=k then v else p.2) k'=if k=k' then aA v else Z9 ks vs k'
 |a::ks,u::vs,hk,hl=>by
  rw[List.zip_cons_cons,bn];show(if a=k' then aA (if a=k then v else u)else Z9 ks ((ks.zip vs).map λp=>if p.1=k then v else p.2) k')=if k=k' then aA v else(if a=k' then aA u else Z9 ks vs k')
  by_cases ha:a=k'
  .subst ha;rw[bJ rfl,bJ rfl];by_cases R_:a=k
   .subst R_;rw[bJ rfl,bJ rfl]
   .rw[bI R_,bI λe=>R_ e.symm]
  .rw[bI ha,bI ha];by_cases hm:k∈ks
   .exact we k k' v ks vs hm (by simpa using hl)
   .have ub:k=a:=by
     rcases ba.mp hk with e|e
     .exact e
     .exact bN e hm
    rw[bI λe=>ha (ub.symm.trans e)];have:((ks.zip vs).map λp=>if p.1=k then v else p.2)=vs:=by
     have JR:ks.length=vs.length:=by simpa using hl
     clear hk hl ha;induction ks generalizing vs with
     |nil=>cases vs with
      |nil=>rfl
      |cons _ _=>simp at JR
     |cons b ks ih=>cases vs with
      |nil=>simp at JR
      |cons w vs=>rw[List.zip_cons_cons,bn,bI λe=>hm (by rw[<-e];exact aa),ih vs (λh=>hm (ad _ h)) (by simpa using JR)]
    rw[this]
 | [],_,hk,_=>nomatch hk
theorem P4(k k' v):∀(ks:List κ) vs,k∉ks->ks.length=vs.length->Z9 (ks++[k]) (vs++[v]) k'=if k=k' then aA v else Z9 ks vs k'
 | [],[],_,_=>by show(if k=k' then aA v else aB)=_;rfl
 |a::ks,u::vs,hk,hl=>by
  show(if a=k' then aA u else Z9 (ks++[k]) (vs++[v]) k')=if k=k' then aA v else(if a=k' then aA u else Z9 ks vs k')
  by_cases ha:a=k'
  .rw[bJ ha,bJ ha,bI λe=>hk (by rw[e,<-ha];exact aa)]
  .rw[bI ha,bI ha];exact P4 k k' v ks vs (λh=>hk (ad _ h)) (by simpa using hl)
theorem wd(k k' v)(ks:List κ)(vs)(hl:ks.length=vs.length):Z9 (Yw ks vs k v).1 (Yw ks vs k v).2 k'=if k=k' then aA v else Z9 ks vs k':=by
 unfold Yw;split
 .rename_i h;exact we k k' v ks vs h hl
 .rename_i h;exact P4 k k' v ks vs h hl
theorem A7(k v)(ks:List κ)(vs)(hl:ks.length=vs.length):(Yw ks vs k v).1.length=(Yw ks vs k v).2.length/\(Yw ks vs k v).2.length<=vs.length+1:=by
 unfold Yw;split
 .simp[hl]
 .simp[hl]
end
noncomputable abbrev E8(s n:Nat):List D:=(List.range' s n).map λi:Nat=>D.int (i:Int)
theorem O4(n):Kp 0 n=E8 0 n:=by unfold Kp;rw[List.range_eq_range'];refine dl λi _=>?_;simp
theorem E9{P:Nat->Wa->Prop}:∀n s δ,P s δ->(∀i,s<=i->i<s+n->∀δ,P i δ->∃δ1 δ2,tg.run (.int (i:Int)) δ=aA δ1/\body δ1=aA (.nx δ2)/\P (i+1) δ2)->
  ∃δ',Yr tg body (E8 s n) δ=aA (.nx δ')/\P (s+n) δ'
 |0,s,δ,h,_=>⟨δ,rfl,h⟩
 |n+1,s,δ,h,k=>by obtain⟨δ1,δ2,h1,h2,h3⟩:=k s (bg _) (by omega) δ h;obtain⟨δ',e,h'⟩:=E9 (tg:=tg) (body:=body) (P:=P) n (s+1) δ2 h3 λi hi hj=>k i (by omega) (by omega);refine⟨δ',?_,by rw[show s+(n+1)=s+1+n by omega];exact h'⟩;show Yr tg body (.int (s:Int)::E8 (s+1) n) δ=_;rw[Ys h1 h2];exact e
theorem A8{st:List D->Wa}:∀ds ys,
  (∀d∈ds,∀zs RJ,zs.length<bu->Wl src k g tt te (d::RJ) (st zs)=Wl src k g tt te RJ (st (zs++(f d).toList)))->ys.length+ds.length<=16777216->
  Wl src k g tt te ds (st ys)=aA (st (ys++ds.filterMap f))
 | [],ys,_,_=>by simp
 |d::ds,ys,h,hl=>by
  rw[bc]at hl;rw[h d aa ys ds (Y2 (by omega))];have hz:(f d).toList.length<=1:=by cases f d<;> simp
  rw[A8 ds (ys++(f d).toList) (λx hx=>h x (ad _ hx)) (by rw[ao];omega),cg];congr 3;cases hd:f d with
  |none=>rw[dr hd];rfl
  |some v=>rw[dk hd];rfl
theorem oo(n xs)(h:∀x∈xs,Ab n x x=aA aC):Ab (n+1) (.tup xs) (.tup xs)=aA aC:=by simp[Lf xs h]
theorem xj(n x):Ab (n+1) (.str x) (.str x)=aA aC:=by simp
theorem s_(xs)(m:Nat)(h:m<=xs.length):I9 xs aB (aA (m:Int))=xs.take m:=by unfold I9 HT.sIx;dsimp only;rw[bI (by omega),List.drop_zero];congr 1;omega
theorem wZ(xs)(m:Nat)(h:m<=xs.length):I9 xs (aA (m:Int)) aB=xs.drop m:=by unfold I9 HT.sIx;dsimp only;rw[bI (by omega),show min ((m:Int)).toNat xs.length=m by omega];rw[List.take_of_length_le (by rw[List.length_drop];omega)]
theorem sq(l:List α)(x n)(hl:(l.length:Int)=n)(hn:0<n):∃c,c∈l/\L2.atI l (x % n)=aA c:=by
 have h0:0<=x % n:=f6 _ (by omega);have h1:x % n<n:=fg _ hn;obtain⟨j,hj⟩:=Int.eq_ofNat_of_zero_le h0;have VP:j<l.length:=by omega
 rw[hj];exact⟨l[j],List.getElem_mem VP,Ce _ _ _ (dq VP)⟩
end My
namespace My
open L2 StrLaws Builtin.Str
theorem Iv(c):∀l,∃qs,qs≠[]/\(∀p∈qs,c∉p.cps.toList)/\S l=di (S [c]) qs
 | []=>⟨[S []],by simp,by simp,rfl⟩
 |d::l=>by
  obtain⟨qs,h1,h2,h3⟩:=Iv c l;have e:S (d::l)=S [d]++S l:=(Wm [d] l).symm;cases qs with
  |nil=>exact bN rfl h1
  |cons q r=>
   by_cases hd:d=c
   .subst hd;refine⟨S []::q::r,by simp,λp hp=>?_,?_⟩
    .rcases ba.mp hp with hp|hp
     .rw[hp];simp
     .exact h2 p hp
    .show S (d::l)=S []++S [d]++di (S [d]) (q::r);rw[<-h3,e,Wm [] [d]];rfl
   .refine⟨(S [d]++q)::r,by simp,λp hp=>?_,?_⟩
    .rcases ba.mp hp with hp|hp
     .rw[hp];have:(S [d]++q).cps.toList=d::q.cps.toList:=by simp[Str.cps_append]
      rw[this,ba];exact λz=>z.elim (λz=>hd z.symm) (h2 q aa)
     .exact h2 p (ad _ hp)
    .rw[e,h3];cases r with
     |nil=>rfl
     |cons q2 r=>show S [d]++(q++S [c]++di (S [c]) (q2::r))=(S [d]++q)++S [c]++di (S [c]) (q2::r);simp only[Str.append_assoc]
theorem Ft(c):Sep (S [c]) c 0:=⟨by simp,λj h=>by
 cases j with
 |zero=>rfl
 |succ j=>simp at h⟩
theorem iG(c p q)(hp:c∉p.cps.toList):d5 (p++S [c]++q) (S [c])=(p,S [c],q):=by
 have SS:=Ft c;obtain⟨qs,uI,DR,DQ⟩:=Iv c q.cps.toList;rw[<-E7 q]at DQ;have h1:=Az SS (p::qs) (λz hz=>by
  rcases ba.mp hz with e|e
  .rw[e];exact hp
  .exact DR z e) 1
 obtain⟨q1,r,hqr⟩:∃q1 r,qs=q1::r:=by
  cases qs with
  |nil=>exact bN rfl uI
  |cons q1 r=>exact⟨q1,r,rfl⟩
 have ej:di (S [c]) (p::qs)=p++S [c]++q:=by rw[DQ,hqr];rfl
 rw[ej]at h1;have e:(pos (S [c]).length 0 ((p::qs).map λp=>p.cps.toList)).take 1=[p.length]:=by
  rw[hqr];show[0+p.cps.toList.length]=[p.length]
  rw[Yk,Nat.zero_add]
 rw[e]at h1;have eL:(p++S [c]++q).cps.toList=p.cps.toList++(S [c]).cps.toList++q.cps.toList:=by simp[Str.cps_append]
 have hl:(p++S [c]++q).length=p.length+(S [c]).length+q.length:=by rw[Wd,Wd]
 unfold d5;rw[h1];have a1:=C1 (p++S [c]++q) p.cps.toList 0 p.length (by rw[List.drop_zero,Nat.sub_zero,eL,cg,<-Yk p,List.take_left]);have a2:=C1 (p++S [c]++q) q.cps.toList (p.length+(S [c]).length) (p++S [c]++q).length (by
  rw[eL,hl,show p.length+(S [c]).length=(p.cps.toList++(S [c]).cps.toList).length by rw[ao,Yk,Yk],List.drop_left];exact List.take_of_length_le (by rw[Yk];omega))
 show(strSub (p++S [c]++q) 0 p.length,S [c],strSub (p++S [c]++q) (p.length+(S [c]).length) (p++S [c]++q).length)=(p,S [c],q)
 rw[a1,a2]
theorem P5(y x):∀xs,di y (x::xs)=x++Fs (xs.map λz=>y++z)
 | []=>by show x=x++Str.empty;rw[Str.append_empty]
 |z::r=>by
  show x++y++di y (z::r)=x++(y++z++Fs (r.map λz=>y++z))
  rw[P5 y z r];simp only[Str.append_assoc]
theorem xi:∀a b,Fs (a++b)=Fs a++Fs b
 | [],b=>by show Fs b=Str.empty++Fs b;rw[Str.empty_append]
 |x::a,b=>by show x++Fs (a++b)=(x++Fs a)++Fs b;rw[xi a b,Str.append_assoc]
end My
namespace My
open L2
noncomputable abbrev Z3(xs:List Str):List L2.Key:=xs.map b7
theorem Og(k):∀xs vs,Z9 (Z3 xs) vs (b7 k)=Z9 xs vs k
 | [],[]=>rfl
 | [],_::_=>rfl
 |_::_,[]=>rfl
 |x::xs,v::vs=>by
  show(if(b7 x:L2.Key)=b7 k then aA v else Z9 (Z3 xs) vs (b7 k))=if x=k then aA v else Z9 xs vs k;rw[Og k xs vs];by_cases h:x=k
  .rw[bJ h,bJ (by rw[h])]
  .rw[bI h,bI λe=>h (b7.inj e)]
theorem Q3(k v xs vs):Yw (Z3 xs) vs (b7 k) v=(Z3 (Yw xs vs k v).1,(Yw xs vs k v).2):=by
 have hm:((b7 k:L2.Key)∈Z3 xs)↔k∈xs:=by
  constructor
  .intro h;obtain⟨y,hy,e⟩:=bd.mp h;rw[<-b7.inj e];exact hy
  .exact λh=>bd.mpr ⟨k,h,rfl⟩
 unfold Yw;by_cases h:k∈xs
 .rw[bJ h,bJ (hm.mpr h)];congr 1;have:∀(xs:List Str) (vs:List D),((Z3 xs).zip vs).map (λp=>if p.1=(b7 k:L2.Key)then v else p.2)=(xs.zip vs).map λp=>if p.1=k then v else p.2:=by
   intro xs;induction xs with
   |nil=>intro vs;rfl
   |cons x xs ih=>
    intro vs;cases vs with
    |nil=>rfl
    |cons u vs=>
     show(if(b7 x:L2.Key)=b7 k then v else u)::((Z3 xs).zip vs).map (λp=>if p.1=(b7 k:L2.Key)then v else p.2)=(if x=k then v else u)::(xs.zip vs).map λp=>if p.1=k then v else p.2;rw[ih vs];by_cases hx:x=k
     .rw[bJ hx,bJ (by rw[hx])]
     .rw[bI hx,bI λe=>hx (b7.inj e)]
  exact this xs vs
 .rw[bI h,bI λe=>h (hm.mp e)];simp[Z3]
theorem Uh{xs:List Str}(h:k∉xs):Yw xs vs k v=(xs++[k],vs++[v]):=by unfold Yw;rw[bI h]
theorem iF(k v)(xs:List Str)(vs)(h:xs.Nodup):(Yw xs vs k v).1.Nodup:=by
 unfold Yw;split
 .exact h
 .rename_i hk;exact dm.mpr ⟨h,by simp,λa ha b hb e=>hk (by rw[af.mp hb]at e;rw[<-e];exact ha)⟩
theorem P6(k v)(xs:List Str)(vs):∀u∈(Yw xs vs k v).2,u=v\/u∈vs:=by
 intro u hu;unfold Yw at hu;split at hu
 .obtain⟨p,hp,e⟩:=bd.mp hu;split at e
  .exact .inl e.symm
  .exact .inr (by rw[<-e];exact(List.of_mem_zip hp).2)
 .rcases bo.mp hu with h|h
  .exact .inr h
  .exact .inl (af.mp h)
structure Dic(xs:List Str)(vs:List D):Prop where
 nd:xs.Nodup
 len:xs.length=vs.length
theorem Dic.put(h:Dic xs vs)(k v):Dic (Yw xs vs k v).1 (Yw xs vs k v).2:=⟨iF k v xs vs h.nd,(A7 k v xs vs h.len).1⟩
theorem wY:∀{vs:List D},xs.Nodup->xs.length=vs.length->∀(i:Nat) (x:Str) v,xs[i]? =aA x->vs[i]? =aA v->Z9 xs vs x=aA v:=by
 induction xs with
 |nil=>intro vs _ _ i x v h;simp at h
 |cons y xs ih=>
  intro vs nd hl i x v hx hv;cases vs with
  |nil=>simp at hv
  |cons u vs=>
   obtain⟨n1,n2⟩:=cq.mp nd;show(if y=x then aA u else Z9 xs vs x)=aA v;cases i with
   |zero=>simp at hx hv;rw[bJ hx,hv]
   |succ i=>simp at hx hv;have hm:=cy hx;rw[bI λe=>n1 (by rw[e];exact hm)];exact ih n2 (by simpa using hl) i x v hx hv
theorem jF:∀{vs:List D} {x:Str},x∉xs->Z9 xs vs x=aB:=by
 induction xs with
 |nil=>intro vs x _;cases vs<;> rfl
 |cons y xs ih=>
  intro vs x h;cases vs with
  |nil=>rfl
  |cons u vs=>show(if y=x then aA u else Z9 xs vs x)=aB;rw[bI λe=>h (by rw[e];exact aa)];exact ih λhm=>h (ad _ hm)
theorem lS:∀{vs:List D} {x:Str} {v:D},Z9 xs vs x=aA v->v∈vs:=by
 induction xs with
 |nil=>intro vs x v h;cases vs<;> cases h
 |cons y xs ih=>
  intro vs x v h;cases vs with
  |nil=>cases h
  |cons u vs=>
   have h:(if y=x then aA u else Z9 xs vs x)=aA v:=h;split at h
   .cases h;exact aa
   .exact ad _ (ih h)
theorem wX:∀xs,strK? (Z3 xs)=aA xs
 | []=>rfl
 |x::xs=>by show(strK? (Z3 xs)).bind (λt=>aA (x::t))=aA (x::xs);rw[wX xs];rfl
theorem P7:∀xs vs,(∀(i:Nat) x v,xs[i]? =aA x->vs[i]? =aA v->Z9 ys us x=aA v/\f v v=aA aC)->V3 f ys us xs vs=aA aC
 | [],_,_=>rfl
 |_::_,[],_=>rfl
 |x::xs,v::vs,h=>by
  obtain⟨h1,h2⟩:=h 0 x v rfl rfl;have ih:=P7 xs vs λi x v hx hv=>h (i+1) x v (by simpa using hx) (by simpa using hv);show(match Z9 ys us x with
   |none=>aA aD
   |some u=>(f v u).bind λb=>(V3 f ys us xs vs).bind λc=>aA (b&&c))=aA aC
  rw[h1];dsimp only;rw[h2,ih];rfl
theorem yC(n)(h:Dic xs vs)(hv:∀v∈vs,Ab n v v=aA aC):Ab (n+1) (.dK (Z3 xs) vs) (.dK (Z3 xs) vs)=aA aC:=by show(strK? (Z3 xs)).bind (λNA=>(strK? (Z3 xs)).bind λys=>if NA.length=ys.length then V3 (Ab n) ys vs NA vs else aA aD)=aA aC;rw[wX];dsimp only[Option.bind];rw[bJ rfl];exact P7 xs vs λi x v hx YA=>⟨wY h.nd h.len i x v hx YA,hv v (cy YA)⟩
end My
namespace My
open L2 StrLaws Builtin.Str
theorem FJ(s sub hi limit)(hn:1<=sub.length):∀m a ZM free P,gap sub.length free P->(∀i∈P,a<=i/\i<a+m)->(∀i∈P,At s sub hi i)->
  (∀i,a<=i->free<=i->At s sub hi i->(i∈P\/∃p∈P,p<i/\i<p+sub.length))->
  (forIn (List.range' a m) (ZM,free) (occBody s sub hi limit)).run.fst.toList=ZM.toList++P.take (limit- ZM.size)
 |0,a,ZM,free,P,g,hb,hA,hm=>by
  have:P=[]:=by
   cases P with
   |nil=>rfl
   |cons p r=>have:=hb p aa;omega
  subst this;simp
 |m+1,a,ZM,free,P,g,hb,hA,hm=>by
  rw[List.range'_succ,List.forIn_cons];unfold occBody;by_cases hl:ZM.size<limit
  .by_cases ha:a∈P
   .have h1:=Tw g a ha;obtain⟨h2,h3⟩:=hA a ha;rw[bJ ⟨⟨⟨hl,h1⟩,h2⟩,h3⟩];obtain⟨P',rfl⟩:∃P',P=a::P':=by
     cases P with
     |nil=>cases ha
     |cons p r=>
      rcases ba.mp ha with e|e
      .exact⟨r,by rw[e]⟩
      .have:=Tw g.2 a e;have:=(hb p aa).1;omega
    have ih:=FJ s sub hi limit hn m (a+1) (ZM.push a) (a+sub.length) P' g.2 (λi XM=>by
      have z1:=Tw g.2 i XM;have z2:=(hb i (ad _ XM)).2;omega) (λi XM=>hA i (ad _ XM)) (λi XM hf z=>by
      rcases hm i (by omega) (by omega) z with e|⟨p,hp,e⟩
      .rcases ba.mp e with e|e
       .omega
       .exact .inl e
      .rcases ba.mp hp with e1|e1
       .omega
       .exact .inr ⟨p,e1,e⟩)
    refine Eq.trans ih ?_;rw[Array.toList_push,Array.size_push,show limit- ZM.size=(limit- (ZM.size+1))+1 by omega,List.take_succ_cons,cg];rfl
   .rw[bI λz=>by
     rcases hm a (bg _) z.1.1.2 ⟨z.1.2,z.2⟩with e|⟨p,hp,e⟩
     .exact ha e
     .have:=(hb p hp).1;omega]
    refine FJ s sub hi limit hn m (a+1) ZM free P g (λi XM=>?_) hA (λi XM=>hm i (by omega));have z:=hb i XM;have:i≠a:=λe=>ha (by rw[<-e];exact XM);omega
  .rw[bI λz=>hl z.1.1.1];have e0:limit- ZM.size=0:=by omega
   have ih:∀(l:List Nat) (st:Array Nat×Nat),¬st.fst.size<limit->(forIn l st (occBody s sub hi limit)).run.fst=st.fst:=by
    intro l;induction l with
    |nil=>intro st _;rfl
    |cons x l ih=>intro st YB;rw[List.forIn_cons];unfold occBody;rw[bI λz=>YB z.1.1.1];exact ih _ YB
   have:=ih (List.range' (a+1) m) (ZM,free) hl;refine Eq.trans (congrArg Array.toList this) ?_;rw[e0];simp
def Ui(y l:List Nat)(i:Nat):Prop:=i+y.length<=l.length/\(l.drop i).take y.length=y
def M4(y:List Nat):List (List Nat)->Prop
 | []=>False
 | [p]=>∀i,¬Ui y p i
 |p::q::r=>(∀i,i<p.length->¬Ui y (p++y++jl y (q::r)) i)/\M4 y (q::r)
theorem Mr(x y i):At x y x.length i↔Ui y.cps.toList x.cps.toList i:=by
 unfold At Ui;rw[subAt_eq,Yk,Yk];constructor
 .rintro⟨h1,h2⟩;exact⟨h1,eq_of_beq h2⟩
 .rintro⟨h1,h2⟩;exact⟨h1,by rw[h2];exact beq_self_eq_true _⟩
theorem xh:∀ps a i,M4 y ps->a<=i->Ui y (jl y ps) (i- a)->(i∈pos y.length a ps\/∃p∈pos y.length a ps,p<i/\i<p+y.length)
 | [],_,_,h,_,_=>h.elim
 | [p],a,i,h,_,s=>(h _ s).elim
 |p::q::r,a,i,h,ha,s=>by
  have s:Ui y (p++y++jl y (q::r)) (i- a):=s;show i∈(a+p.length)::pos y.length (a+p.length+y.length) (q::r)\/_;by_cases h1:i- a<p.length
  .exact(h.1 _ h1 s).elim
  by_cases h2:i=a+p.length
  .exact .inl (by rw[h2];exact aa)
  by_cases h3:i<a+p.length+y.length
  .exact .inr ⟨a+p.length,aa,by omega,h3⟩
  .have e:i- a=(p++y).length+(i- (a+p.length+y.length)):=by rw[ao];omega
   obtain⟨s1,s2⟩:=s;rw[e,<-List.drop_drop,List.drop_left]at s2;rw[ao]at s1;have:=xh (q::r) (a+p.length+y.length) i h.2 (by omega) ⟨by rw[e,ao]at s1;omega,s2⟩;rcases this with z|⟨p',hp,z⟩
   .exact .inl (ad _ z)
   .exact .inr ⟨p',ad _ hp,z⟩
theorem Rz(x y)(hn:1<=y.length)(ps)(h:M4 y.cps.toList ps)(e:x.cps.toList=jl y.cps.toList ps)(limit):
  occurrences x y 0 x.length limit=(pos y.length 0 ps).take limit:=by
 rw[occ_eq];have hA:∀i∈pos y.length 0 ps,At x y x.length i:=λi hi=>by rw[Mr,e];rw[<-Yk y]at hi;have:=Xg ps 0 i hi;exact⟨by simpa using this.2.1,by simpa using this.2.2⟩
 have:=FJ x y x.length limit hn (x.length+1- 0) 0 #[] 0 (pos y.length 0 ps) (Xf _ _ _) (λi hi=>by
  have:=(hA i hi).1;omega) hA (λi _ _ z=>by
  rw[Mr,e]at z;have:=xh ps 0 i h (cr _) (by simpa using z)
  rwa [Yk]at this)
 simpa using this
theorem Bc(x y)(hn:1<=y.length)(hk:c7 y=1)(ps)(h:M4 y.cps.toList ps)(e:x.cps.toList=jl y.cps.toList ps):Txt.split x y=ps.map S:=by
 have hP:occurrences x y 0 x.length (x.length+1)=pos y.length 0 ps:=by have h1:=Rz x y hn ps h e (x.length+1);have h2:=Rz x y hn ps h e ((x.length+1)+(pos y.length 0 ps).length);rw[List.take_of_length_le (Nat.le_add_left _ _)]at h2;have h3:=occ_length_le_len x y 0 x.length ((x.length+1)+(pos y.length 0 ps).length);rw[h2]at h3;rw[h1,List.take_of_length_le (by omega)]
 have h0:ps≠[]:=λz=>by rw[z]at h;exact h
 have one:pos y.length 0 ps=[]->[x]=ps.map S:=λz=>by
  rcases Xh z with z|⟨p,z⟩
  .exact bN z h0
  .rw[z]at e⊢;rw[E7 x,e];rfl
 unfold Txt.split;by_cases hs:(decide (x.length<y.length)||decide (c7 x<c7 y))=aC
 .rw[bJ hs];have YL:x.length<y.length:=by
   rw[hk]at hs;have:=Lg x;rcases Bool.or_eq_true_iff.mp hs with z|z
   .exact bM z
   .have:=bM z;omega
  refine one ?_;cases hq:pos y.length 0 ps with
  |nil=>rfl
  |cons i r=>
   have hi:i∈pos y.length 0 ps:=by rw[hq];exact aa
   rw[<-Yk y]at hi;have:=(Xg ps 0 i hi).2.1;rw[<-e,Yk,Yk]at this;omega
 .rw[bI hs,hP];by_cases he:(pos y.length 0 ps).isEmpty=aC
  .rw[bJ he];exact one (List.isEmpty_iff.mp he)
  .rw[bI he,partsBetween_eq];have z:=A6 (y:=y.cps.toList) x ps 0 h0 (by rw[List.drop_zero];exact e) (cr _);rw[Yk]at z;exact z
theorem jE(x y)(hn:1<=y.length)(h:∀i,¬Ui y.cps.toList x.cps.toList i):d5 x y=(x,Str.empty,Str.empty):=by have h1:=Rz x y hn [x.cps.toList] h rfl 1;unfold d5;rw[h1];rfl
theorem R0(y p q r):jl y (p::q::r)=p++y++jl y (q::r):=rfl
theorem jD(y)(hn:1<=y.length)(p q r)(h:M4 y.cps.toList (p::q::r)):
  d5 (S (jl y.cps.toList (p::q::r))) y=(S p,y,S (jl y.cps.toList (q::r))):=by
 have h1:=Rz (S (jl y.cps.toList (p::q::r))) y hn (p::q::r) h (Yh _) 1;have e:(pos y.length 0 (p::q::r)).take 1=[p.length]:=by
  show[0+p.length]=[p.length]
  rw[Nat.zero_add]
 rw[e]at h1;have eL:(S (jl y.cps.toList (p::q::r))).cps.toList=p++y.cps.toList++jl y.cps.toList (q::r):=Yh _;unfold d5;rw[h1];have a1:=C1 (S (jl y.cps.toList (p::q::r))) p 0 p.length (by rw[List.drop_zero,Nat.sub_zero,eL,cg,List.take_left]);have hl:(S (jl y.cps.toList (p::q::r))).length=p.length+y.length+(jl y.cps.toList (q::r)).length:=by rw[<-Yk,eL,ao,ao,Yk]
 have a2:=C1 (S (jl y.cps.toList (p::q::r))) (jl y.cps.toList (q::r)) (p.length+y.length) (S (jl y.cps.toList (p::q::r))).length (by
  rw[eL,show p.length+y.length=(p++y.cps.toList).length by rw[ao,Yk],List.drop_left,hl,ao,Yk];exact List.take_of_length_le (by omega))
 show(strSub _ 0 p.length,y,strSub _ (p.length+y.length) _)=_;rw[a1,a2]
theorem iE(y l):(∃i,Ui y l i)->∃i,Ui y l i/\∀j,j<i->¬Ui y l j:=by
 rintro⟨i,h⟩;induction i using Nat.strongRecOn with
 |_ i ih=>
  by_cases z:∃j,j<i/\Ui y l j
  .obtain⟨j,h1,h2⟩:=z;exact ih j h1 h2
  .exact⟨i,h,λj h1 h2=>z ⟨j,h1,h2⟩⟩
theorem A9(y)(hy:1<=y.length):∀n l,l.length<=n->∃ps,M4 y ps/\jl y ps=l/\ps.length<=l.length+1
 |n,l,hn=>by
  by_cases z:∃i,Ui y l i
  .obtain⟨i,⟨h1,h2⟩,h3⟩:=iE y l z;cases n with
   |zero=>omega
   |succ n=>
    obtain⟨ps,f,e,hl⟩:=A9 y hy n (l.drop (i+y.length)) (by rw[List.length_drop];omega);rw[List.length_drop]at hl;have el:l.take i++y++l.drop (i+y.length)=l:=by
     conv=>rhs;rw[<-List.take_append_drop i l]
     rw[cg];congr 1
     conv=>rhs;rw[<-List.take_append_drop y.length (l.drop i)]
     rw[h2,List.drop_drop]
    cases ps with
    |nil=>exact f.elim
    |cons q r=>
     refine⟨l.take i::q::r,⟨λj hj=>?_,f⟩,?_,?_⟩
     .rw[e,el];rw[List.length_take]at hj;exact h3 j (by omega)
     .rw[R0,e,el]
     .show(q::r).length+1<=_;omega
  .exact⟨[l],λi h=>z ⟨i,h⟩,rfl,by simp⟩
theorem jC(ey:y=c::y')(p)(hp:c∉p)(q r)(h:M4 y (q::r)):M4 y (p::q::r):=by refine⟨λi hi s=>?_,h⟩;have z:=congrArg List.head? s.2;rw[ey,List.head?_cons]at z;rw[<-ey,cg,List.head?_take,List.head?_drop,fm hi]at z;rw[bI (by rw[ey];simp)]at z;exact hp (cy z)
theorem lR(hc:c∈y)(p)(hp:c∉p):M4 y [p]:=λi s=>by
 have:c∈(p.drop i).take y.length:=by rw[s.2];exact hc
 exact hp (List.mem_of_mem_drop (List.mem_of_mem_take this))
theorem Bd:∀ps,ps≠[]->(∀p∈ps,c∉p)->M4 [c] ps
 | [],h,_=>(h rfl).elim
 | [p],_,h=>lR (c:=c) (by simp) p (h p aa)
 |p::q::r,_,h=>jC (c:=c) rfl p (h p aa) q r (Bd (q::r) (by simp) λx hx=>h x (ad _ hx))
end My
namespace My
open L2
noncomputable def ev{α:Type}:List α->List α
 | []=>[]
 | [a]=>[a]
 |a::_::r=>a::ev r
theorem Xj:∀m (xs:List α),xs.length<=2*m->((gh m).map λk=>2*k).filterMap (xs[·]?)=ev xs
 |0,xs,h=>by have:xs=[]:=List.eq_nil_of_length_eq_zero (by omega);subst this;rfl
 |m+1,xs,h=>by
  rw[List.range_succ_eq_map,bn,b6]
  match xs,h with
  | [],_=>simp[ev]
  | [a],_=>
   show a::List.filterMap (λx=>[a][x]?) (List.map ((λk=>2*k)∘Nat.succ) (gh m))=_;have:List.filterMap (λx=>[a][x]?) (List.map ((λk=>2*k)∘Nat.succ) (gh m))=[]:=by rw[List.filterMap_eq_nil_iff];intro x hx;obtain⟨k,_,rfl⟩:=bd.mp hx;show[a][2*(k+1)]? =aB;rw[List.getElem?_eq_none_iff];simp;omega
   rw[this];rfl
  |a::b::r,h=>
   show a::List.filterMap (λx=>(a::b::r)[x]?) (List.map ((λk=>2*k)∘Nat.succ) (gh m))=_;have ih:=Xj m r (by simp at h;omega);have:List.filterMap (λx=>(a::b::r)[x]?) (List.map ((λk=>2*k)∘Nat.succ) (gh m))=ev r:=by rw[<-ih,List.filterMap_map,List.filterMap_map];congr 1
   rw[this];rfl
theorem lQ(xs:List α):Of xs aB aB (aA 2)=ev xs:=by
 unfold Of;have e1:(sliceBounds aB aB (aA 2) xs.length)=(0,(xs.length:Int),2):=rfl;rw[e1];dsimp only;have e2:sliceRange 0 (xs.length:Int) 2=(gh ((xs.length+1) / 2)).map λk=>2*k:=by
  unfold sliceRange;rw[bJ (by decide)];by_cases h:xs.length=0
  .rw[h];rfl
  .rw[bJ (by omega)];dsimp only;rw[show(((xs.length:Int)- 0+2- 1) / 2).toNat=(xs.length+1) / 2 by omega];refine dl λk _=>?_;omega
 rw[e2];exact Xj _ xs (by omega)
theorem wW{α:Type}(f g:α->β):∀xs:List α,ev (xs.flatMap λx=>[f x,g x])=xs.map f
 | []=>rfl
 |x::xs=>by show f x::ev (xs.flatMap λx=>[f x,g x])=_;rw[wW f g xs];rfl
theorem xA{α:Type}(f g:α->β)(b):∀xs:List α,ev (b::xs.flatMap λx=>[f x,g x])=b::xs.map g
 | []=>rfl
 |x::xs=>by show b::ev (g x::xs.flatMap λx=>[f x,g x])=_;rw[xA f g (g x) xs];rfl
end My
noncomputable section
namespace Gen
open L2
noncomputable def top(i:Nat):Stmt:=PySem.Challenge.pw_citeward_k53_whole_lists_read_back.main.body.getD i (.Pass ⟨0,0,0,0⟩)
noncomputable abbrev QG:Nat:=1000
def Qb:FS:=
 Zs (Ye 9 (Zg Au (Za 6) (Yy MJ (Zd (Zg Mm (Za 8) (Za 4)) Zi)))) (Ye 7 (Zg Wo (Za 7) (Zg Wg (Za 2) (Zg Q1 (Zg Wo (Zg Iq (Za 0) (Zg Wo (Za 8) (Zc (.int 2)))) (Za 9)) (Zc (.int 22))))))
def U6:FS:=
 Zs (Ye 7 (Zc (.str ""))) (Zs (Uw (Hz (Zd (Za 3) Zi)) (Zl 8) Qb) (Vi 5 (Za 7)))
def R1:FS:=
 Zs (Ye 2 (Zc (.str "abcdefghjlmpqrstuvwxyz"))) (Zs (Ye 3 (Zg Wo (Zc (.int 1)) (Zg Q1 (Za 0) (Zc (.int 8))))) (Zs (Ye 4 (Zg Q1 (Zg Iq (Za 0) (Zc (.int 8))) (Za 3))) (Zs (Ye 5 (Ud (Zt))) (Zs (Uw (Hz (Zd (Za 1) Zi)) (Zl 6) U6) (Yv (Za 5))))))
def Q4:List D->Option SV:=Yj R1 10
def Jr:FS:=
 Zs (Vi 2 (Zg Q1 (Za 3) (Zc (.int 5040)))) (Ye 3 (Zg Iq (Za 3) (Zc (.int 5040))))
def Js:FS:=
 Zs (Ye 3 (Zg Q1 (Zg Au (Zg Wo (Zg Wo (Za 3) (Za 4)) (Zc (.int 1))) (Zc (.int 48271))) (Zc (.int 2147483647)))) (Vi 2 (Zg Q1 (Zg Au (Za 3) (Zc (.int 69621))) (Zc (.int 2147483629))))
def U7:FS:=
 Zs (Ye 2 (Ud (Zt))) (Zs (Ye 3 (Zg Iq (Za 0) (Zc (.int 2)))) (Zs (Jt (Zq (Zg Mm (Zg Q1 (Za 0) (Zc (.int 2))) (Zc (.int 1)))) (Zs (Uw (Hz (Zd (Za 1) Zi)) (Zl 4) Jr) (Yv (Za 2))) (Yn)) (Zs (Ye 3 (Zg Q1 (Za 3) (Zc (.int 2147483647)))) (Zs (Uw (Hz (Zd (Za 1) Zi)) (Zl 4) Js) (Yv (Za 2))))))
def Y4:List D->Option SV:=Yj U7 5
def U8:FS:=
 Zs (Jt (Zq (Zg ltD (Za 1) (Yy Cb (Zd (Za 0) Zi)))) (Yv (Zg Wg (Za 0) (Za 1))) (Yn)) (Yv (Zc (.int 0)))
def Y5:List D->Option SV:=Yj U8 2
def U9:FS:=
 M_ 2 4 (tupF (Zm (Zg Wg (Za 1) (Zg Q1 (Zg Wg (Za 5) (Zg Wo (Zc (.int 1)) (Zg Au (Zc (.int 2)) (Za 6)))) (Zc (.int 4)))) (Zm (Zg Wg (Za 1) (Zg Q1 (Zg Wg (Za 5) (Zg Wo (Zc (.int 2)) (Zg Au (Zc (.int 2)) (Za 6)))) (Zc (.int 4)))) (Zt))))
def Oa:FS:=
 Zs (Ye 5 (Z5 2 Y4 (Zd (Z5 2 Y5 (Zd (Za 0) (Zd (Zg Wo (Zc (.int 2)) (Za 3)) (Zi)))) (Zd (Zc (.int 7)) (Zi))))) (Zs (M' 2 4) (Uw (Hz (Zd (Zg Q1 (Zg Wg (Za 5) (Zc (.int 0))) (Zc (.int 4))) Zi)) (Zl 6) U9))
def R3:FS:=
 Zs (Ye 2 (GC)) (Zs (Uw (De (Zm (Ud (Rx ["book","part"] (Zt))) Zt)) (Bv 2 (W0 (Zl 3) (W0 (Zl 4) (Ct)))) Oa) (HC (Za 2)))
def Oh:List D->Option SV:=Yj R3 7
def Jj:FS:=
 Jt (Zq (Zg Mm (Zg Q1 (Zg Wg (Za 6) (Za 8)) (Zc (.int 3))) (Zc (.int 0)))) (Zs (Ye 10 (Zg Wg (Ud (Rx ["Lee, Ann & Roe","A = (b)","x"] (Zt))) (Zg Q1 (Zg Wg (Za 6) (Zg Wo (Zc (.int 4)) (Za 8))) (Zc (.int 3))))) (Ts 7 (Za 9) (Zg Wo (Za 10) (Zg Wg (Ud (Rx [""," ","'s"] (Zt))) (Zg Q1 (Zg Iq (Zg Wg (Za 6) (Zg Wo (Zc (.int 4)) (Za 8))) (Zc (.int 3))) (Zc (.int 3))))))) (Yn)
def Ob:FS:=
 Zs (Ye 6 (Z5 2 Y4 (Zd (Zg Wg (Za 2) (Za 4)) (Zd (Zc (.int 12)) (Zi))))) (Zs (Ye 7 (FP [("note",Zg Wo (Zg Wo (Zg Wo (Zc (.str "<")) (Za 5)) (Zc (.str "> {is} no"))) (Yy QO (Zd (Za 4) Zi)))])) (Zs (Uw (De (Zm (Za 1) Zt)) (Bv 2 (W0 (Zl 8) (W0 (Zl 9) (Ct)))) Jj) (Zs (Jt (Ko (Zq (Zg gtD (Zg Q1 (Zg Wg (Za 6) (Zc (.int 8))) (Zc (.int 4))) (Zc (.int 0)))) (Zq (Zg gtD (Za 4) (Zc (.int 0))))) (Ts 7 (Zc (.str "in")) (Zg Wg (Ud (Zm (Zg Wg (Za 0) (Zg RQ (Za 4) (Zc (.int 1)))) (Zm (Zc (.str "Some & other")) (Zm (Zg Wg (Za 0) (Zg Q1 (Zg Wg (Za 6) (Zc (.int 9))) (Za 4))) (Zt))))) (Zg Q1 (Zg Wg (Za 6) (Zc (.int 10))) (Zc (.int 3))))) (Yn)) (Ts 3 (Za 5) (tupF (Zm (Zg Wg (Ud (Rx ["book","part"] (Zt))) (Zg Q1 (Zg Wg (Za 6) (Zc (.int 11))) (Zc (.int 2)))) (Zm (Za 7) (Zt))))))))
def R4:FS:=
 Zs (Ye 3 (Rt)) (Zs (Uw (De (Zm (Za 0) Zt)) (Bv 2 (W0 (Zl 4) (W0 (Zl 5) (Ct)))) Ob) (Yv (Za 3)))
def Oi:List D->Option SV:=Yj R4 11
def Jk:FT :=
  Ko (Zq (Zg ltD (Za 2) (Yy Cb (Zd (Za 0) Zi)))) (Zq (Zg inZ (Zg Wg (Za 0) (Za 2)) (Zc (.str "ABCDEFGHIJKLMNOPQRSTUVWXYZabcdefghijklmnopqrstuvwxyz0123456789 .,!?'-/()&+*=:;"))))
noncomputable def Cf:FS:=
 MA 2 1
def R5:FS:=
 Zs (Ye 2 (Za 1)) (Zs (Ju Jk Cf QG) (Yv (Za 2)))
def Jy:List D->Option SV:=Yj R5 3
def Ia:FS:=
 Zs (Jt (Zq (Zg inZ (Zg Wg (Za 0) (Za 1)) (Zc (.str "[]")))) (Yv (Zg Wo (Za 1) (Zc (.int 1)))) (Yn)) (Zs (Jt (Zq (Zg Mm (Zg Wg (Za 0) (Za 1)) (Zc (.str "{")))) (Ye 2 (Zg Wo (M3 "str" Xa (Za 0) (Zd (Zc (.str "}")) (Zd (Za 1) Zi))) (Zc (.int 1)))) (Ye 2 (Z5 2 Jy (Zd (Za 0) (Zd (Za 1) (Zi)))))) (Zs (Jt (Zq (Zg leD (Za 2) (Za 1))) (Jv) (Yn)) (Yv (Za 2))))
def C3:List D->Option SV:=Yj Ia 3
def B0:FT:=
 Zq (Zg ltD (Za 2) (Yy Cb (Zd (Za 0) Zi)))
def R6:FS:=
 Zs (Ye 3 (Z5 2 C3 (Zd (Za 0) (Zd (Za 2) (Zi))))) (Zs (Vi 1 (slF slD (Za 0) (Uf (Za 2)) (Uf (Za 3)))) (Ye 2 (Za 3)))
def Ib:FS:=
 Zs (Ye 1 (Ud (Zt))) (Zs (Ye 2 (Zc (.int 0))) (Zs (Ju B0 R6 QG) (Yv (Za 1))))
def O5:List D->Option SV:=Yj Ib 4
def Cg:FS:=
 Zs (Jt (Zq (Zg gtD (Iu 0) (Zc (.int 3)))) (Jv) (Yn)) (K8 0)
def Qu:av->List (List D)->Option (List (List D)):=OK Cg 1
def R7:FS:=
 Zs (Jt (Zq (Zg Mm (Iu 0) (Zc (.int 1)))) (Jv) (Yn)) (Zs (La 1 0) (Zs (Jt (Zq (Zg Mm (Yy Cb (Zd (Za 1) Zi)) (Zc (.int 0)))) (Jv) (Yn)) (Ug 0 (tupF (Zm (Zc (.str "group")) (Zm (Yy Tr (Zd (Za 1) Zi)) (Zt)))))))
def Jz:av->List (List D)->Option (List (List D)):=OK R7 2
def Ch:FE:=
 Zg inZ (Za 0) (Za 1)
def R8:FS:=
 Yv (Yy MH (Zd (Op [.own,.cap 1,.acc] 2 (Ux (Za 0)) (Zl 0) (O8) Ch) Zi))
def J1:List D->Option SV:=Yj R8 2
def Gs:FS:=
 Zs (Jt (Tp (Zq (unF (Vl "str") (Za 0)))) (Yv (Zc (.bl aD))) (Yn)) (Yv (QL (EC leD leD (Zc (.int 1)) (Yy Cb (Zd (Za 0) Zi)) (Za 2)) (Z5 2 J1 (Zd (Za 0) (Zd (Za 1) (Zi))))))
def Wp:List D->Option SV:=Yj Gs 3
def Ms:FS:=
 Yv (Z5 3 Wp (Zd (Za 0) (Zd (Zc (.str "abcdefghijklmnopqrstuvwxyz")) (Zd (Zc (.int 8)) (Zi)))))
def Qv:List D->Option SV:=Yj Ms 1
def Gu:FS:=
 Jt (orF (Tp (Zq (Z5 1 Qv (Zd (Za 0) (Zi))))) (Zq (Zg Mm (Za 0) (Zc (.str "note"))))) (Jv) (Yn)
def Ja:List D->Option SV:=Yj Gu 1
def Jw:FS:=
 Zs (LN (Z5 1 Ja (Zd (Zg Wg (Za 0) (Zc (.int 0))) (Zi)))) (Zs (Jt (Tp (Zq (Z5 3 Wp (Zd (Zg Wg (Za 0) (Zc (.int 1))) (Zd (Zc (.str "123456789")) (Zd (Zc (.int 1)) (Zi))))))) (Jv) (Yn)) (Zs (Jt (Tp (Zq (Z5 3 Wp (Zd (Zg Wg (Za 0) (Zc (.int 2))) (Zd (Zc (.str "012")) (Zd (Zc (.int 1)) (Zi))))))) (Jv) (Yn)) (Yv (tupF (Zm (Zc (.str "hands")) (Zm (Zg Wg (Za 0) (Zc (.int 0))) (Zm (Yy Ax (Zd (Zg Wg (Za 0) (Zc (.int 1))) Zi)) (Zm (Yy Ax (Zd (Zg Wg (Za 0) (Zc (.int 2))) Zi)) (Zt)))))))))
def W3:List D->Option SV:=Yj Jw 1
def Uj:FS:=
 LN (Z5 1 Ja (Zd (Za 3) (Zi)))
def Uk:FS:=
 Zs (Jt (Zq (Zg neY (Zg Wg (Za 0) (Zc (.int 0))) (Zc (.str "{")))) (Yv (tupF (Zm (Zc (.str "signs")) (Zm (Za 0) (Zt))))) (Yn)) (Zs (Ye 1 (M3 "str" Gk (slF slD (Za 0) (Uf (Zc (.int 1))) (Uf (unF Dk (Zc (.int 1))))) (Zd (Zc (.str " ")) Zi))) (Zs (Jt (Zq (Zg Mm (Yy Cb (Zd (Za 1) Zi)) (Zc (.int 3)))) (Yv (Z5 1 W3 (Zd (Za 1) (Zi)))) (Yn)) (Zs (Ye 2 (Yy Tr (Zd (M3 "str" Gk (slF slD (Za 0) (Uf (Zc (.int 1))) (Uf (unF Dk (Zc (.int 1))))) (Zd (Zc (.str "|")) Zi)) Zi))) (Zs (Jt (Zq (Zg gtD (Yy Cb (Zd (Za 2) Zi)) (Zc (.int 4)))) (Jv) (Yn)) (Zs (Uw (Ux (Za 2)) (Zl 3) Uj) (Yv (tupF (Zm (Zc (.str "field")) (Zm (Za 2) (Zt))))))))))
def Wh:List D->Option SV:=Yj Uk 4
def Z2:FS:=
 Jt (Zq (Zg Mm (Za 3) (Zc (.str "[")))) (Nr 2 Qu) (Jt (Zq (Zg Mm (Za 3) (Zc (.str "]")))) (Nr 2 Jz) (Ug 2 (Z5 1 Wh (Zd (Za 3) (Zi)))))
def Oo:FS:=
 Zs (Jt (Tp (Zq (unF (Vl "str") (Za 0)))) (Jv) (Yn)) (Zs (Ye 1 (Z5 1 O5 (Zd (Za 0) (Zi)))) (Zs (Jt (Zq (Zg gtD (Zg RQ (Yy Cb (Zd (Za 1) Zi)) (M3 "list" Cc (Za 1) (Zd (Zc (.str "]")) Zi))) (Zc (.int 30)))) (Jv) (Yn)) (Zs (Ye 2 (HZ)) (Zs (Uw (Ux (Za 1)) (Zl 3) Z2) (Zs (Jt (Zq (Zg gtD (Iu 2) (Zc (.int 1)))) (Jv) (Yn)) (Yv (Cy 2)))))))
def W5:List D->Option SV:=Yj Oo 4
def W6:FS:=
 Jt (Zq (Zg Mm (Zg Wg (Za 3) (Zc (.int 0))) (Za 2))) (Yv (Zg Wg (Za 3) (Zc (.int 1)))) (Yn)
def Ci:FS:=
 Zs (Uw (Ux (RT "dict" Ru (Za 0) (Zm (Za 1) (Zm (Ud (Zt)) (Zt))))) (Zl 3) W6) (Yv (Zc .non))
def Jl:List D->Option SV:=Yj Ci 4
def Cj:FS:=
 Zs (Ye 3 (Zg Wg (Za 0) (Zg Wg (Za 2) (Zc (.int 0))))) (Zs (Ye 4 (Zg Wg (Za 3) (Zc (.int 1)))) (Zs (Jt (Zq (Zg inZ (Zg Wg (Za 2) (Zc (.int 1))) (Za 4))) (Yv (Zc .non)) (Yn)) (Zs (Ye 5 (Z5 3 Jl (Zd (Za 1) (Zd (Zg Wg (Za 3) (Zc (.int 0))) (Zd (Zg Wg (Za 2) (Zc (.int 1))) (Zi)))))) (Zs (Ye 6 (RT "dict" Ru (Za 4) (Zm (Zc (.str "in")) (Zt)))) (Zs (Jt (orF (Zq (Zg Db (Za 5) (Zc .non))) (orF (Zq (Zg Db (Za 6) (Zc .non))) (Zq (Zg Rv (Za 6) (Za 0))))) (Yv (Zc .non)) (Yn)) (Yv (tupF (Zm (Za 6) (Zm (Za 5) (Zt))))))))))
def Jm:List D->Option SV:=Yj Cj 7
def Mt:FT:=
 Zq (Zg Kq (Za 6) (Zc .non))
def Fu:FS:=
 Zs (Jt (Zq (Zg inZ (Za 6) (Za 5))) (Jv) (Yn)) (Zs (Ts 5 (Za 6) (Yy Cb (Zd (Za 4) Zi))) (Zs (Vi 4 (Za 6)) (Ye 6 (Z5 3 Jm (Zd (Za 0) (Zd (Za 1) (Zd (Za 6) (Zi))))))))
def GB:FS:=
 Zs (Ye 4 (Ud (Zt))) (Zs (Ye 5 (GG)) (Zs (Ye 6 (tupF (Zm (Za 2) (Zm (Za 3) (Zt))))) (Zs (Ju Mt Fu QG) (Yv (Za 4)))))
def OZ:List D->Option SV:=Yj GB 7
def GA:FS:=
 Zs (Ye 4 (Zg Wg (Z5 4 OZ (Zd (Za 0) (Zd (Za 1) (Zd (Za 2) (Zd (Za 3) (Zi)))))) (unF Dk (Zc (.int 1))))) (Yv (RT "dict" Ru (Zg Wg (Zg Wg (Za 0) (Zg Wg (Za 4) (Zc (.int 0)))) (Zc (.int 1))) (Zm (Zg Wg (Za 4) (Zc (.int 1))) (Zt))))
def B1:List D->Option SV:=Yj GA 5
def B2:FS:=
 Zs (Ye 6 (Z5 4 B1 (Zd (Za 0) (Zd (Za 1) (Zd (Za 2) (Zd (Za 5) (Zi))))))) (Jt (Zq (Zg Kq (Za 6) (Zc .non))) (Ts 4 (Za 5) (Za 6)) (Yn))
def Ic:FS:=
 Zs (Ye 4 (Rt)) (Zs (Uw (Ux (Za 3)) (Zl 5) B2) (Yv (Za 4)))
def C4:List D->Option SV:=Yj Ic 7
def Jn:FS:=
 Ts 1 (Za 2) (Zc (.bl aC))
def R9:FS:=
 Zs (Ye 1 (Rt)) (Zs (Uw (Ux (Za 0)) (Zl 2) Jn) (Yv (Yy D8 (Zd (Za 1) Zi))))
def Oj:List D->Option SV:=Yj R9 3
def Wq(YF:List D->Option SV):FS:=
 Jt (Zq (Zg Mm (Zg Wg (Za 2) (Zc (.int 0))) (Zc (.str "field")))) (MU 1 (Zg Wg (Za 2) (Zc (.int 1)))) (Jt (Zq (Zg Mm (Zg Wg (Za 2) (Zc (.int 0))) (Zc (.str "hands")))) (Vi 1 (Zg Wg (Za 2) (Zc (.int 1)))) (Jt (Zq (Zg Mm (Zg Wg (Za 2) (Zc (.int 0))) (Zc (.str "group")))) (OO 1 (Z5 1 YF (Zd (Zg Wg (Za 2) (Zc (.int 1))) (Zi)))) (Yn)))
def Be(YF:List D->Option SV):FS:=
 Zs (Ye 1 (Ud (Zt))) (Zs (Uw (Ux (Za 0)) (Zl 2) (Wq YF)) (Yv (Za 1)))
def Wk:Nat->List D->Option SV
 |0=>λ_=>aB
 |n+1=>Yj (Be (Wk n)) 3
def T4:List D->Option SV:=Wk 12
def Xk:FS:=
 Yv (Z5 1 Oj (Zd (Z5 1 T4 (Zd (Za 0) (Zi))) (Zi)))
def Ea:List D->Option SV:=Yj Xk 1
def Qf:FS:=
 Jt (Zq (Zg inZ (Za 2) (Za 1))) (Yv (Zg Wg (Za 1) (Za 2))) (Yn)
def Gv:FS:=
 Zs (Uw (Ux (Za 0)) (Zl 2) Qf) (Yv (Zc .non))
def Ul:List D->Option SV:=Yj Gv 3
def Nt:FE:=
 Zg Wo (slF slD (Za 0) (O9) (Uf (Zc (.int 1)))) (Zc (.str ". "))
def Nu:FE:=
 Zg Wo (Za 0) (Zc (.str " "))
def Iw:FS:=
 Zs (Jt (Zq (Zg Mm (Za 1) (Zc (.int 0)))) (Yv (Zg Wg (Za 0) (Zc (.int 0)))) (Yn)) (Zs (Jt (Zq (Zg Mm (Za 1) (Zc (.int 1)))) (Yv (Zg Wo (M3 "str" Uz (Zc (.str "")) (Zd (Op [.own,.acc] 1 (Ux (Zg Wg (Za 0) (Zc (.int 1)))) (Zl 0) (O8) Nt) Zi)) (Zg Wg (Za 0) (Zc (.int 0))))) (Yn)) (Yv (Zg Wo (M3 "str" Uz (Zc (.str "")) (Zd (Op [.own,.acc] 1 (Ux (Zg Wg (Za 0) (Zc (.int 1)))) (Zl 0) (O8) Nu) Zi)) (Zg Wg (Za 0) (Zc (.int 0))))))
def Ma:List D->Option SV:=Yj Iw 2
def Li:FE:=
 Z5 2 Ma (Zd (Za 0) (Zd (Za 1) (Zi)))
def Eb:FS:=
 Zs (Ye 3 (Op [.own,.cap 2,.acc] 2 (Ux (Za 0)) (Zl 0) (O8) Li)) (Zs (Jt (Zq (Zg gtD (Yy Cb (Zd (Za 3) Zi)) (Za 1))) (Yv (Zg Wo (M3 "str" Uz (Zc (.str ", ")) (Zd (slF slD (Za 3) (O9) (Uf (Za 1))) Zi)) (Zc (.str " and others")))) (Yn)) (Zs (Jt (Zq (Zg ltD (Yy Cb (Zd (Za 3) Zi)) (Zc (.int 2)))) (Yv (M3 "str" Uz (Zc (.str "")) (Zd (Za 3) Zi))) (Yn)) (Yv (Zg Wo (Zg Wo (M3 "str" Uz (Zc (.str ", ")) (Zd (slF slD (Za 3) (O9) (Uf (unF Dk (Zc (.int 1))))) Zi)) (Zc (.str " and "))) (Zg Wg (Za 3) (unF Dk (Zc (.int 1))))))))
def Gw:List D->Option SV:=Yj Eb 4
def Oc:FS:=
 Jt (Tp (Zq (Z5 3 Wp (Zd (Za 3) (Zd (Zc (.str "ABCDEFGHIJKLMNOPQRSTUVWXYZabcdefghijklmnopqrstuvwxyz")) (Zd (Zc (.int 15)) (Zi))))))) (E2 "NoHands") (Yn)
def B3:FS:=
 Zs (Ye 1 (M3 "str" Uy (Za 0) (Zd (Zc (.str ", ")) Zi))) (Zs (Ye 2 (ifF (Zq (Zg Mm (Zg Wg (Za 1) (Zc (.int 1))) (Zc (.str ", ")))) (M3 "str" Gk (Zg Wg (Za 1) (Zc (.int 2))) (Zd (Zc (.str " ")) Zi)) (Ud (Zt)))) (Zs (Jt (Zq (Zg gtD (Yy Cb (Zd (Za 2) Zi)) (Zc (.int 4)))) (E2 "NoHands") (Yn)) (Zs (Uw (Ux (Zg Wo (Ud (Zm (Zg Wg (Za 1) (Zc (.int 0))) (Zt))) (Za 2))) (Zl 3) Oc) (Yv (tupF (Zm (Zg Wg (Za 1) (Zc (.int 0))) (Zm (Yy Tr (Zd (Za 2) Zi)) (Zt))))))))
def Qj:List D->Option XO:=ON B3 4
def Bf:FX:=
 Dy 1 Qj (Aw (MW (Za 0)) (Fn))
def Gx:FS:=
 Zs (Jt (Tp (Zq (unF (Vl "str") (Za 0)))) (E2 "NoHands") (Yn)) (Zs (Ye 1 (M3 "str" Gk (Za 0) (Zd (Zc (.str " & ")) Zi))) (Zs (Jt (Zq (Zg gtD (Yy Cb (Zd (Za 1) Zi)) (Zc (.int 6)))) (E2 "NoHands") (Yn)) (I_ (GI [.own,.acc] 1 (Ux (Za 1)) (Zl 0) (O8) Bf))))
def Jb:List D->Option XO:=ON Gx 2
noncomputable def Mb:FS:=
 Yv (Za 2)
def Ow:FS:=
 Zs (Ye 2 (RT "dict" Ru (Za 1) (Zm (Zg Wg (Za 0) (Zc (.int 1))) (Zt)))) (Zs (Jt (Zq (Zg Db (Za 2) (Zc .non))) (Yv (Zc .non)) (Yn)) (Zs (MC (HA 3 (Dy 1 Jb (Aw (MW (Za 2)) (Fn)))) [⟨aB,["NoHands"],[],Mb⟩]) (Yv (Z5 3 Gw (Zd (Za 3) (Zd (Zg Wg (Za 0) (Zc (.int 2))) (Zd (Zg Wg (Za 0) (Zc (.int 3))) (Zi))))))))
def Jc:List D->Option SV:=Yj Ow 4
def Um(ZL:List D->Option SV):FE:=
 Z5 2 ZL (Zd (Za 0) (Zd (Za 1) (Zi)))
def Gy(ZL:List D->Option SV):FS:=
 Zs (Ye 2 (Op [.own,.cap 1,.acc] 2 (Ux (Za 0)) (Zl 0) (O8) (Um ZL))) (Zs (Jt (Zq (Zg inZ (Zc .non) (Za 2))) (Yv (Zc (.str ""))) (Yn)) (Yv (M3 "str" Uz (Zc (.str "")) (Zd (Za 2) Zi))))
def Uo(ZL:List D->Option SV):List D->Option SV:=Yj (Gy ZL) 3
def Qa(ZL:List D->Option SV):FS:=
 Zs (Jt (Zq (Zg Mm (Zg Wg (Za 0) (Zc (.int 0))) (Zc (.str "signs")))) (Yv (Zg Wg (Za 0) (Zc (.int 1)))) (Yn)) (Zs (Jt (Zq (Zg Mm (Zg Wg (Za 0) (Zc (.int 0))) (Zc (.str "field")))) (Yv (Z5 2 Ul (Zd (Zg Wg (Za 0) (Zc (.int 1))) (Zd (Za 1) (Zi))))) (Yn)) (Zs (Jt (Zq (Zg Mm (Zg Wg (Za 0) (Zc (.int 0))) (Zc (.str "hands")))) (Yv (Z5 2 Jc (Zd (Za 0) (Zd (Za 1) (Zi))))) (Yn)) (Yv (Z5 2 (Uo ZL) (Zd (Zg Wg (Za 0) (Zc (.int 1))) (Zd (Za 1) (Zi)))))))
def Y8:Nat->List D->Option SV
 |0=>λ_=>aB
 |n+1=>Yj (Qa (Y8 n)) 2
def Gz:List D->Option SV:=Y8 12
def Ec:FE:=
 Z5 2 Gz (Zd (Za 0) (Zd (Za 1) (Zi)))
def Ed:FT:=
 Zq (Zg Kq (Za 0) (Zc .non))
noncomputable def Ee:FE:=
 Za 0
def FI:FS:=
 Zs (Ye 2 (Op [.own,.cap 1,.acc] 2 (Ux (Za 0)) (Zl 0) (O8) Ec)) (Yv (M3 "str" Uz (Zc (.str "")) (Zd (Op [.own,.acc] 1 (Ux (Za 2)) (Zl 0) (Ed) Ee) Zi)))
def Lj:List D->Option SV:=Yj FI 3
def G1:FS:=
 Ts 2 (Za 3) (Zg Wo (Zg Wo (Zg Wo (Zg Wo (Zc (.str "<")) (Za 3)) (Zc (.str "="))) (Zg Wg (Za 1) (Za 3))) (Zc (.str ">")))
def Lk:FS:=
 Zs (Ye 2 (Rt)) (Zs (Uw (HE (Za 1)) (Zl 3) G1) (Yv (Z5 2 Lj (Zd (Za 0) (Zd (Za 2) (Zi))))))
def C5:List D->Option SV:=Yj Lk 4
def Ck:FS:=
 Zs (Ye 4 (Z5 4 C4 (Zd (Za 0) (Zd (Za 1) (Zd (Za 2) (Zd (Z5 1 Ea (Zd (Za 3) (Zi))) (Zi))))))) (Yv (Zg Wo (Zg Wo (Zg Wo (Zg Wo (Za 2) (Zc (.str " "))) (Zg Wg (Zg Wg (Za 0) (Za 2)) (Zc (.int 0)))) (Zc (.str " "))) (Z5 2 C5 (Zd (Za 3) (Zd (Za 4) (Zi))))))
def Jo:List D->Option SV:=Yj Ck 5
def Bg:FE:=
 Z5 4 Jo (Zd (Za 1) (Zd (Za 2) (Zd (Za 0) (Zd (Za 3) (Zi)))))
def G2:FS:=
 Yv (M3 "str" Uz (Zc (.str "\n")) (Zd (Op [.own,.cap 0,.cap 1,.cap 3,.acc] 4 (Ux (Za 2)) (Zl 0) (O8) Bg) Zi))
def Wv:List D->Option SV:=Yj G2 4
def U0:FS:=
 Zs (Ye 5 (M3 "str" Uy (Za 4) (Zd (Zc (.str ">")) Zi))) (Zs (Jt (Zq (Zg Mm (Zg Wg (Za 5) (Zc (.int 1))) (Zc (.str "")))) (Yv (Zc .non)) (Yn)) (OO 3 (Ud (Zm (Zg Wg (Za 5) (Zc (.int 0))) (Zm (Zg Wg (Za 5) (Zc (.int 2))) (Zt))))))
def Ll:FS:=
 Zs (Ye 2 (M3 "str" Gk (Za 0) (Zd (Zc (.str "<")) Zi))) (Zs (Ye 3 (Ud (Zm (Zg Wg (Za 2) (Zc (.int 0))) (Zt)))) (Zs (Uw (Ux (slF slD (Za 2) (Uf (Zc (.int 1))) (O9))) (Zl 4) U0) (Yv (ifF (Zq (Z5 2 J1 (Zd (M3 "str" Uz (Zc (.str "")) (Zd (MB OL (Za 3) (O9) (O9) (Uf (Zc (.int 2)))) Zi)) (Zd (Za 1) (Zi))))) (Za 3) (Zc .non)))))
def Mc:List D->Option SV:=Yj Ll 6
def T5:FS :=
  Yv (Z5 3 Wp (Zd (Za 0) (Zd (Zc (.str "ABCDEFGHIJKLMNOPQRSTUVWXYZabcdefghijklmnopqrstuvwxyz0123456789 .,!?'-/()&+*=")) (Zd (Zc (.int 80)) (Zi)))))
def Bh:List D->Option SV:=Yj T5 1
def Ie:FS:=
 Yv (QL (Z5 1 Qv (Zd (Za 0) (Zi))) (QL (Zg Rv (Za 0) (tupF (Rx ["note","kind"] (Zt)))) (Z5 1 Bh (Zd (Za 1) (Zi)))))
def C6:List D->Option SV:=Yj Ie 2
def Ws:FS:=
 Zs (Ye 3 (M3 "str" Uy (Za 2) (Zd (Zc (.str "=")) Zi))) (Zs (Jt (orF (Tp (Zq (Z5 2 C6 (Zd (Zg Wg (Za 3) (Zc (.int 0))) (Zd (Zg Wg (Za 3) (Zc (.int 2))) (Zi)))))) (Zq (Zg neY (RT "dict" Ru (Za 1) (Zm (Zg Wg (Za 3) (Zc (.int 0))) (Zm (Zg Wg (Za 3) (Zc (.int 2))) (Zt)))) (Zg Wg (Za 3) (Zc (.int 2)))))) (Yv (Zc .non)) (Yn)) (Ts 1 (Zg Wg (Za 3) (Zc (.int 0))) (Zg Wg (Za 3) (Zc (.int 2)))))
def G3:FS:=
 Zs (Ye 1 (Rt)) (Zs (Uw (Ux (Za 0)) (Zl 2) Ws) (Yv (Za 1)))
def Up:List D->Option SV:=Yj G3 4
def T6:FS :=
  Zs (Jt (orF (Zq (Zg ltD (Yy Cb (Zd (Za 0) Zi)) (Zc (.int 3)))) (orF (Tp (Zq (Z5 1 Qv (Zd (Zg Wg (Za 0) (Zc (.int 0))) (Zi))))) (Tp (Zq (Z5 1 Qv (Zd (Zg Wg (Za 0) (Zc (.int 1))) (Zi))))))) (Yv (Zc .non)) (Yn)) (Zs (Ye 1 (Z5 2 Mc (Zd (Zg Wg (Za 0) (Zc (.int 2))) (Zd (Zc (.str "ABCDEFGHIJKLMNOPQRSTUVWXYZabcdefghijklmnopqrstuvwxyz0123456789 .,!?'-/()&+*=:;")) (Zi))))) (Yv (ifF (Zq (Zg Db (Za 1) (Zc .non))) (Zc .non) (Z5 1 Up (Zd (MB OL (Za 1) (Uf (Zc (.int 1))) (O9) (Uf (Zc (.int 2)))) (Zi))))))
def Bi:List D->Option SV:=Yj T6 2
def Jp:FS:=
 Zs (Ye 5 (M3 "str" Fq (Za 4) (Zd (Zc (.str " ")) (Zd (Zc (.int 2)) Zi)))) (Zs (Ye 6 (Z5 1 Bi (Zd (Za 5) (Zi)))) (Zs (Jt (orF (Zq (Zg Db (Za 6) (Zc .non))) (Zq (Zg inZ (Zg Wg (Za 5) (Zc (.int 0))) (Za 1)))) (Jv) (Yn)) (Ts 1 (Zg Wg (Za 5) (Zc (.int 0))) (tupF (Zm (Zg Wg (Za 5) (Zc (.int 1))) (Zm (Za 6) (Zt)))))))
def Md:FS:=
 Zs (Jt (Tp (Zq (unF (Vl "str") (Za 0)))) (Jv) (Yn)) (Zs (Ye 1 (Rt)) (Zs (Ye 2 (ifF (Zq (Zg Mm (Za 0) (Zc (.str "")))) (Ud (Zt)) (M3 "str" Gk (Za 0) (Zd (Zc (.str "\n")) Zi)))) (Zs (Uw (FM (Zm (Za 2) Zt)) (Bv 2 (W0 (Zl 3) (W0 (Zl 4) (Ct)))) Jp) (Yv (Za 1)))))
def Q5:List D->Option SV:=Yj Md 7
def Me:FS:=
 Yv (Zg Q1 (Zg Au (Zg Q1 (Za 0) (Zc (.int 2147483647))) (Za 1)) (Zc (.int 2147483647)))
def J2:List D->Option SV:=Yj Me 2
def Qn(YG:List D->Option SV):FS:=
 Zs (Ye 6 (Zg Wg (Za 0) (Zg Wo (Zg Wo (Za 4) (Zc (.int 1))) (Zg Au (Zc (.int 2)) (Za 5))))) (Zs (Ye 7 (Zg Wg (Za 0) (Zg Wo (Zg Wo (Za 4) (Zc (.int 2))) (Zg Au (Zc (.int 2)) (Za 5))))) (Jt (Zq (Zg Mm (Zg Q1 (Za 6) (Zc (.int 6))) (Zc (.int 0)))) (Ye 3 (Zg Wo (Za 3) (Zg Wg (Ud (Rx [", ",": "," (x) "] (Zt))) (Zg Q1 (Za 7) (Zc (.int 3)))))) (Jt (Ko (Zq (Zg ltD (Zg Q1 (Za 6) (Zc (.int 6))) (Zc (.int 3)))) (Ko (Zq (Zg ltD (Za 2) (Zc (.int 2)))) (Zq (Zg Rv (Zc (.str "[")) (Za 3))))) (Ye 3 (Zg Wo (Zg Wo (Zg Wo (Za 3) (Zc (.str "["))) (Z5 3 YG (Zd (Za 0) (Zd (Za 1) (Zd (Zg Wo (Za 2) (Zc (.int 1))) (Zi)))))) (Zc (.str "]")))) (Jt (Zq (Zg Mm (Zg Q1 (Za 6) (Zc (.int 6))) (Zc (.int 3)))) (Ye 3 (Zg Wo (Zg Wo (Zg Wo (Za 3) (Zc (.str "{"))) (Zg Wg (Za 1) (Zg Q1 (Za 7) (Zc (.int 4))))) (Zc (.str " 1 0}")))) (Zs (Ye 8 (Ud (Zm (Zg Wg (Za 1) (Zg Q1 (Za 7) (Zc (.int 4)))) (Zm (Zg Wg (Za 1) (Zg Q1 (Zg Iq (Za 7) (Zc (.int 4))) (Zc (.int 4)))) (Zt))))) (Ye 3 (Zg Wo (Zg Wo (Zg Wo (Za 3) (Zc (.str "{"))) (M3 "str" Uz (Zc (.str "|")) (Zd (Za 8) Zi))) (Zc (.str "}")))))))))
def U1(YG:List D->Option SV):FS:=
 Zs (Ye 3 (Zc (.str ""))) (Zs (Ye 4 (Zg Au (Zc (.int 13)) (Za 2))) (Zs (Uw (Hz (Zd (Zg Wo (Zc (.int 1)) (Zg Q1 (Zg Wg (Za 0) (Za 4)) (Zg Wg (Ud (Zm (Zc (.int 6)) (Zm (Zc (.int 3)) (Zm (Zc (.int 3)) (Zt))))) (Za 2)))) Zi)) (Zl 5) (Qn YG)) (Yv (Za 3))))
def U2:Nat->List D->Option SV
 |0=>λ_=>aB
 |n+1=>Yj (U1 (U2 n)) 9
def T7:List D->Option SV:=U2 12
def Qg:FS:=
 Zs (Jt (Zq (Zg Mm (Zg Wg (Za 0) (Zc (.int 0))) (Zc (.str "field")))) (Yv (Yy Pm (Zd (Zg Wg (Za 0) (Zc (.int 1))) Zi))) (Yn)) (Zs (Jt (Zq (Zg Mm (Zg Wg (Za 0) (Zc (.int 0))) (Zc (.str "hands")))) (Yv (Ud (Zm (Zg Wg (Za 0) (Zc (.int 1))) (Zt)))) (Yn)) (Yv (Ud (Zt))))
def Y6:List D->Option SV:=Yj Qg 1
def Td:FT:=
 Zq (Zg inZ (Za 0) (Za 1))
noncomputable def Te:FE:=
 Za 0
def B4:FS:=
 Zs (Ye 2 (Z5 1 Y6 (Zd (Za 0) (Zi)))) (Yv (QL (Zg neY (Za 2) (Ud (Zt))) (Zg Mm (Op [.own,.cap 1,.acc] 2 (Ux (Za 2)) (Zl 0) (Td) Te) (Ud (Zt)))))
def J3:List D->Option SV:=Yj B4 3
def Ox(ZD:WG):FT:=
 Zq (Zg inZ (Za 0) (Za 1))
noncomputable def Oy(ZD:WG):FE:=
 Za 0
def Oz(ZD:WG):FT:=
 Zq (Z5 2 J3 (Zd (Za 0) (Zd (Za 1) (Zi))))
noncomputable def O0(ZD:WG):FE:=
 Za 0
def Wr(ZD:WG):FS:=
 Zs (Ye 4 (Op [.own,.cap 1,.acc] 2 (Ux (Z5 1 Y6 (Zd (Za 3) (Zi)))) (Zl 0) ((Ox ZD)) (Oy ZD))) (Zs (Jt (Zq (Zg neY (Za 4) (Ud (Zt)))) (Ts 2 (Zg Wg (Za 4) (Zc (.int 0))) (Zg Wg (Za 1) (Zg Wg (Za 4) (Zc (.int 0))))) (Yn)) (Jt (Zq (Zg Mm (Zg Wg (Za 3) (Zc (.int 0))) (Zc (.str "group")))) (Zs (Ye 5 (Op [.own,.cap 1,.acc] 2 (Ux (Zg Wg (Za 3) (Zc (.int 1)))) (Zl 0) ((Oz ZD)) (O0 ZD))) (Jt (Zq (Zg Mm (Za 5) (Ud (Zt)))) (Xe 2 2 ZD (Zm (Zg Wg (Za 3) (Zc (.int 1))) (Zm (Za 1) (Zt)))) (Yn))) (Yn)))
def Bj(ZD:WG):List FS:=
 [Uw (Ux (Za 0)) (Zl 3) (Wr ZD)]
def Yu:Nat->WG
 |0=>λ_ _ _ _=>aB
 |n+1=>QH (Bj (Yu n)) 6
def Bk:WG:=Yu 12
def Fv:FS:=
 Zs (Ye 14 (Z5 4 B1 (Zd (Za 5) (Zd (Za 4) (Zd (Za 11) (Zd (Za 13) (Zi))))))) (Jt (Zq (Zg Kq (Za 14) (Zc .non))) (Ts 12 (Za 13) (Za 14)) (Yn))
def Fw:FS:=
 Zs (Ye 12 (Rt)) (Zs (Uw (Ux (Za 3)) (Zl 13) Fv) (Ts 10 (Za 11) (tupF (Zm (Zg Wg (Zg Wg (Za 5) (Za 11)) (Zc (.int 0))) (Zm (Mp 2 Bk (Zm (Za 6) (Zm (Za 12) (Zt)))) (Zt))))))
def H_:FS:=
 Zs (Ye 1 (slF slD (Za 0) (Uf (Zc (.int 6))) (Uf (Zc (.int 14))))) (Zs (Ye 2 (Z5 2 Q4 (Zd (Z5 2 J2 (Zd (Z5 2 Y5 (Zd (Za 0) (Zd (Zc (.int 0)) (Zi)))) (Zd (Zc (.int 16807)) (Zi)))) (Zd (Yy Cb (Zd (Za 1) Zi)) (Zi))))) (Zs (Ye 3 (Z5 2 Q4 (Zd (Z5 2 J2 (Zd (Z5 2 Y5 (Zd (Za 0) (Zd (Zc (.int 1)) (Zi)))) (Zd (Zc (.int 16807)) (Zi)))) (Zd (Zc (.int 4)) (Zi))))) (Zs (Ye 4 (Z5 2 Oh (Zd (Za 0) (Zd (Za 3) (Zi))))) (Zs (Ye 5 (Z5 3 Oi (Zd (Za 2) (Zd (Za 3) (Zd (Za 1) (Zi)))))) (Zs (Ye 6 (Z5 1 W5 (Zd (Z5 3 T7 (Zd (Z5 2 Y4 (Zd (Z5 2 Y5 (Zd (Za 0) (Zd (Zc (.int 4)) (Zi)))) (Zd (Zc (.int 39)) (Zi)))) (Zd (Za 3) (Zd (Zc (.int 0)) (Zi))))) (Zi)))) (Zs (Ye 7 (Zg Q1 (Z5 2 Y5 (Zd (Za 0) (Zd (Zc (.int 5)) (Zi)))) (Yy QI (Zd (Zc (.int 1)) (Zd (Yy Cb (Zd (Za 2) Zi)) Zi))))) (Zs (Ye 2 (Zg Wo (slF slD (Za 2) (Uf (Za 7)) (O9)) (slF slD (Za 2) (O9) (Uf (Za 7))))) (Zs (Ye 8 (Z5 4 Wv (Zd (Za 5) (Zd (Za 4) (Zd (Yy Pm (Zd (Za 2) Zi)) (Zd (Za 6) (Zi))))))) (Zs (Ye 9 (Z5 1 Q5 (Zd (Za 8) (Zi)))) (Zs (Ye 10 (Rt)) (Zs (Uw (Ux (Za 2)) (Zl 11) Fw) (Zs (Jt (orF (Tp (Zq (unF (Vl "str") (Za 8)))) (orF (Tp (Zq (unF (Vl "dict") (Za 9)))) (Zq (Zg neY (Za 9) (Za 10))))) (Yv (Zc (.bl aD))) (Yn)) (Yv (Zg Mm (Z5 4 Wv (Zd (Za 9) (Zd (Rt) (Zd (Yy Pm (Zd (Za 2) Zi)) (Zd (Za 6) (Zi)))))) (Za 8)))))))))))))))
def MT:List D->Option SV:=Yj H_ 15
abbrev At(K:aj)(x:Str)(i:Nat):Prop:=∃f fd,AtF K x (top i) f fd
structure Env (K:aj) (mg:Str->Option aq) (ZO:av):Prop where
  u:Und K mg
  a0 : At K "_law_names" 66
  a1 : At K "_law_numbers" 67
  a2 : At K "_law_cell_at" 64
  a3 : At K "_law_table" 68
  a4 : At K "_law_shelf" 69
  a5 : At K "signs_end" 42
  a6 : At K "cut_end" 41
  a7 : At K "cuts_of" 40
  a8 : At K "begin_group" 43
  a9 : At K "end_group" 44
  a10 : At K "is_all_of" 13
  a11 : At K "is_text_of" 14
  a12 : At K "is_name" 15
  a13 : At K "check_name" 47
  a14 : At K "read_hands_piece" 46
  a15 : At K "read_piece" 45
  a16 : At K "read_template" 39
  a17 : At K "other_field" 22
  a18 : At K "pair_behind" 21
  a19 : At K "way" 20
  a20 : At K "had" 23
  a21 : At K "all_had" 24
  a22 : At K "each_once" 17
  a23 : At K "names_in" 54
  a24 : At K "asked" 53
  a25 : At K "told_field" 50
  a26 : At K "told_hand" 31
  a27 : At K "told_hands" 32
  a28 : At K "read_hand" 30
  a29 : At K "read_hands" 29
  a30 : At K "told_names" 51
  a31 : At K "told_group" 52
  a32 : At K "told_piece" 49
  a33 : At K "fill" 48
  a34 : At K "marked" 56
  a35 : At K "written_row" 58
  a36 : At K "write_list" 57
  a37 : At K "angled" 18
  a38 : At K "is_plain" 16
  a39 : At K "is_mark" 62
  a40 : At K "read_marks" 61
  a41 : At K "read_row" 60
  a42 : At K "read_list" 59
  a43 : At K "_law_mixed" 65
  a44 : At K "_law_text" 70
  a45 : At K "_law_names_of" 71
  a46 : At K "_law_lacks" 72
  a47 : At K "_law_told" 73
  a48 : At K "law" 74
  x_NoHands : d7 K c8 "NoHands" = aA (aA (.ref ZO))
  ty_NoHands : PySem.W.typeIn K (.ref ZO) = aA (.type "type")
  ic_NoHands:PySem.W.isClsIn K ZO=aC
  be_NoHands : PySem.W.mroIn K ZO (.type "BaseException") = aA aC
  h_NoHands_NoHands:PySem.W.mroIn K ZO (.ref ZO)=aA aC
  ow_NoHands : PySem.W.excIn K ZO VEB "ValueError.__new__" = aC
  z_all : mg "all" = aB
  z_dict : mg "dict" = aB
  z_enumerate : mg "enumerate" = aB
  z_int : mg "int" = aB
  z_isinstance : mg "isinstance" = aB
  z_len : mg "len" = aB
  z_list : mg "list" = aB
  z_max : mg "max" = aB
  z_range : mg "range" = aB
  z_str : mg "str" = aB
  z_tuple : mg "tuple" = aB
  c_LETTERS : ∃ t, d7 K c8 "LETTERS" = aA (aA (.str "ABCDEFGHIJKLMNOPQRSTUVWXYZabcdefghijklmnopqrstuvwxyz" t))
  c_MANY_FIGURES : ∃ t, d7 K c8 "MANY_FIGURES" = aA (aA (.str "123456789" t))
  c_MOST_DEEP : ∃ t, d7 K c8 "MOST_DEEP" = aA (aA (.int 3 t))
  c_MOST_GIVENS : ∃ t, d7 K c8 "MOST_GIVENS" = aA (aA (.int 4 t))
  c_MOST_HANDS : ∃ t, d7 K c8 "MOST_HANDS" = aA (aA (.int 6 t))
  c_MOST_NAMES : ∃ t, d7 K c8 "MOST_NAMES" = aA (aA (.int 4 t))
  c_MOST_PIECES : ∃ t, d7 K c8 "MOST_PIECES" = aA (aA (.int 30 t))
  c_NAME_LENGTH : ∃ t, d7 K c8 "NAME_LENGTH" = aA (aA (.int 8 t))
  c_PLAIN_LENGTH : ∃ t, d7 K c8 "PLAIN_LENGTH" = aA (aA (.int 80 t))
  c_PLAIN_SIGNS : ∃ t, d7 K c8 "PLAIN_SIGNS" = aA (aA (.str "ABCDEFGHIJKLMNOPQRSTUVWXYZabcdefghijklmnopqrstuvwxyz0123456789 .,!?'-/()&+*=" t))
  c_SMALL_LETTERS : ∃ t, d7 K c8 "SMALL_LETTERS" = aA (aA (.str "abcdefghijklmnopqrstuvwxyz" t))
  c_STYLE_SIGNS : ∃ t, d7 K c8 "STYLE_SIGNS" = aA (aA (.str "ABCDEFGHIJKLMNOPQRSTUVWXYZabcdefghijklmnopqrstuvwxyz0123456789 .,!?'-/()&+*=:;" t))
  c_WAY_FIGURES : ∃ t, d7 K c8 "WAY_FIGURES" = aA (aA (.str "012" t))
  c_WORD_LENGTH : ∃ t, d7 K c8 "WORD_LENGTH" = aA (aA (.int 15 t))
section
variable{P:b8}{w:df}{K:aj}{mg:Str->Option aq}{base:ed}{ZO:av}(E:Env K mg ZO)(kb:K.In base)
include E kb
theorem k0:Sv P w K mg base Qm 1 "_law_names" ["_law_number","_law_many"] (Y3 K 2 Q4):=Cd E.u E.a0 0 2 ["_law_number","_law_many","_law_letters","_law_size","_law_at","_law_names_here","_law_turn","_law_name","_law_k","_law_step"] Q4 R1 λnd _ hr hu hv=>(Ze (Zz 2 nd Z6) (Ze (Zz 3 nd (Yt Zk (W8 (Zb 0) Zk))) (Ze (Zz 4 nd (W8 (Ev (Zb 0) Zk) (Zb 3))) (Ze (Zz 5 nd (Qi Yz)) (Ze (Qz cn rfl (Pp E.z_range (Zb 1)) (Yo 6 nd) (Ze (Zz 7 nd Z6) (Ze (Qz cn rfl (Pp E.z_range (Zb 3)) (Yo 8 nd) (Ze (Zz 9 nd (Gm (Zb 6) (qJ E.z_int (GD hv (Zb 8) (Zb 4))))) (Zj (Zz 7 nd (Yt (Zb 7) (Zp hu (Zb 2) (W8 (Yt (Ev (Zb 0) (Yt (Zb 8) Zk)) (Zb 9)) Zk))))))) (Zj (Pq 5 (Zb 7)))))) (Zj (Z7 (Zb 5))))))))
theorem k1:Sv P w K mg base Qm 1 "_law_numbers" ["_law_cell","_law_many"] (Y3 K 2 Y4):=Cd E.u E.a1 0 2 ["_law_cell","_law_many","_law_found","_law_number","_law_k"] Y4 U7 λnd _ hr hu hv=>(Ze (Zz 2 nd (Qi Yz)) (Ze (Zz 3 nd (Ev (Zb 0) Zk)) (Ze (Wf (Qe hv (W8 (Zb 0) Zk) Zk) (Ze (Qz cn rfl (Pp E.z_range (Zb 1)) (Yo 4 nd) (Ze (Pq 2 (W8 (Zb 3) Zk)) (Zj (Zz 3 nd (Ev (Zb 3) Zk))))) (Zj (Z7 (Zb 2)))) Z8) (Ze (Zz 3 nd (W8 (Zb 3) Zk)) (Ze (Qz cn rfl (Pp E.z_range (Zb 1)) (Yo 4 nd) (Ze (Zz 3 nd (W8 (Gm (Yt (Yt (Zb 3) (Zb 4)) Zk) Zk) Zk)) (Zj (Pq 2 (W8 (Gm (Zb 3) Zk) Zk))))) (Zj (Z7 (Zb 2))))))))
theorem k2:Sv P w K mg base Qm 1 "_law_cell_at" ["_law_script","_law_k"] (Y3 K 2 Y5):=Cd E.u E.a2 0 2 ["_law_script","_law_k"] Y5 U8 λnd _ hr hu hv=>(Ze (Wf (RP (Zb 1) (Oq E.z_len (Zb 0))) (Zj (Z7 (Zp hu (Zb 0) (Zb 1)))) Z8) (Zj (Z7 Zk)))
theorem k3:Sv P w K mg base Qm 2 "_law_table" ["_law_script","_law_fields"] (Y3 K 2 Oh):=Cd E.u E.a3 1 2 ["_law_script","_law_fields","_law_table_here","_law_k","_law_kind","_law_some","_law_j"] Oh R3 λnd _ hr hu hv=>(Ze (Zz 2 nd nW) (Ze (Qz cn rfl (EM E.z_enumerate (Qi (Mn [("book",_,_),("part",_,_)] Yz))) (LH rfl (Bx (Yo 3 nd) (Bx (Yo 4 nd) Vr))) (Ze (Zz 5 nd (Zw (k1 E kb) hr (Zh (Zw (k2 E kb) hr (Zh (Zb 0) (Zh (Yt Zk (Zb 3)) Zy))) (Zh Zk Zy)))) (Ze (rz 2 4 hu) (Zj (Qz cn rfl (Pp E.z_range (W8 (Zp hu (Zb 5) Zk) Zk)) (Yo 6 nd) (Zj (rq 2 4 hu (Rb (Yc (Zp hu (Zb 1) (W8 (Zp hu (Zb 5) (Yt Zk (Gm Zk (Zb 6)))) Zk)) (Yc (Zp hu (Zb 1) (W8 (Zp hu (Zb 5) (Yt Zk (Gm Zk (Zb 6)))) Zk)) Yz)))))))))) (Zj (r_ (Zb 2)))))
theorem k4:Sv P w K mg base Qm 2 "_law_shelf" ["_law_keys","_law_fields","_law_cells"] (Y3 K 3 Oi):=Cd E.u E.a4 1 3 ["_law_keys","_law_fields","_law_cells","_law_shelf_here","_law_k","_law_key","_law_some","_law_own","_law_j","_law_field","_law_value"] Oi R4 λnd _ hr hu hv=>(Ze (Zz 3 nd Ov) (Ze (Qz cn rfl (EM E.z_enumerate (Zb 0)) (LH rfl (Bx (Yo 4 nd) (Bx (Yo 5 nd) Vr))) (Ze (Zz 6 nd (Zw (k1 E kb) hr (Zh (Zp hu (Zb 2) (Zb 4)) (Zh Zk Zy)))) (Ze (Zz 7 nd (oY (oZ (Yt (Yt (Yt Z6 (Zb 5)) Z6) (rj E.z_str (Zb 4))) qT) (show(["note"]:List Str).Nodup by decide+kernel))) (Ze (Qz cn rfl (EM E.z_enumerate (Zb 1)) (LH rfl (Bx (Yo 8 nd) (Bx (Yo 9 nd) Vr))) (Zj (Wf (Qe hv (W8 (Zp hu (Zb 6) (Zb 8)) Zk) Zk) (Ze (Zz 10 nd (Zp hu (Qi (Mn [("Lee, Ann & Roe",_,_),("A = (b)",_,_),("x",_,_)] Yz)) (W8 (Zp hu (Zb 6) (Yt Zk (Zb 8))) Zk))) (Zj (Rc 7 hu (Zb 9) (Yt (Zb 10) (Zp hu (Qi (Mn [("",_,_),(" ",_,_),("'s",_,_)] Yz)) (W8 (Ev (Zp hu (Zb 6) (Yt Zk (Zb 8))) Zk) Zk)))))) Z8))) (Ze (Wf (PW.pt (LJ (Vm (W8 (Zp hu (Zb 6) Zk) Zk) Zk) (EA (Vm (Zb 4) Zk)))) (Zj (Rc 7 hu Z6 (Zp hu (Qi (Yc (Zp hu (Zb 0) (AF (Zb 4) Zk)) (Yc Z6 (Yc (Zp hu (Zb 0) (W8 (Zp hu (Zb 6) Zk) (Zb 4))) Yz)))) (W8 (Zp hu (Zb 6) Zk) Zk)))) Z8) (Zj (Rc 3 hu (Zb 5) (Rb (Yc (Zp hu (Qi (Mn [("book",_,_),("part",_,_)] Yz)) (W8 (Zp hu (Zb 6) Zk) Zk)) (Yc (Zb 7) Yz)))))))))) (Zj (Z7 (Zb 3)))))
theorem k5:Sv P w K mg base Qm 1 "signs_end" ["text","place"] (Y3 K 2 Jy):=Cd E.u E.a5 0 2 ["text","place","end"] Jy R5 λnd _ hr hu hv=>(Ze (Zz 2 nd (Zb 1)) (Ze (Vt QG cn (PW.pt (LJ (RP (Zb 2) (Oq E.z_len (Zb 0))) (EA (Av hu (Zp hu (Zb 0) (Zb 2)) (Gr E.u E.c_STYLE_SIGNS))))) (Zj (eC 2 nd))) (Zj (Z7 (Zb 2)))))
theorem k6:Sv P w K mg base Qm 2 "cut_end" ["text","place"] (Y3 K 2 C3):=Cd E.u E.a6 1 2 ["text","place","end"] C3 Ia λnd _ hr hu hv=>(Ze (Wf (Av hu (Zp hu (Zb 0) (Zb 1)) Z6) (Zj (Z7 (Yt (Zb 1) Zk))) Z8) (Ze (Wf (Qe hv (Zp hu (Zb 0) (Zb 1)) Z6) (Zj (Zz 2 nd (Yt (oI (Zb 0) Z6 (Zb 1)) Zk))) (Zj (Zz 2 nd (Zw (k5 E kb) hr (Zh (Zb 0) (Zh (Zb 1) Zy)))))) (Ze (Wf (hX (Zb 2) (Zb 1)) (Zj Qy) Z8) (Zj (Z7 (Zb 2))))))
theorem k7:Sv P w K mg base Qm 3 "cuts_of" ["text"] (Y3 K 1 O5):=Cd E.u E.a7 2 1 ["text","cuts","place","end"] O5 Ib λnd _ hr hu hv=>(Ze (Zz 1 nd (Qi Yz)) (Ze (Zz 2 nd Zk) (Ze (Vt QG cn (RP (Zb 2) (Oq E.z_len (Zb 0))) (Ze (Zz 3 nd (Zw (k6 E kb) hr (Zh (Zb 0) (Zh (Zb 2) Zy)))) (Ze (Pq 1 (Nn (Zb 0) (Q2 (Zb 2)) (Q2 (Zb 3)))) (Zj (Zz 2 nd (Zb 3)))))) (Zj (Z7 (Zb 1))))))
theorem k8:Sv P w K mg base Qm 1 "begin_group" ["levels"] (spM K Qu):=vC E.u E.a8 0 1 ["levels"] Qu Cg λnd _ hr hu hv=>(Ze (Wf (Vm (FN 0 E.z_len (Tc 0)) (By E.u E.c_MOST_DEEP)) (Zj Qy) Z8) (Zj (rM 0)))
theorem k9:Sv P w K mg base Qm 1 "end_group" ["levels"] (spM K Jz):=vC E.u E.a9 0 1 ["levels","pieces"] Jz R7 λnd _ hr hu hv=>(Ze (Wf (Qe hv (FN 0 E.z_len (Tc 0)) Zk) (Zj Qy) Z8) (Ze (rL 1 0 nd) (Ze (Wf (Qe hv (Oq E.z_len (Zb 1)) Zk) (Zj Qy) Z8) (Zj (P3 0 (AY (Tc 0)) (Rb (Yc Z6 (Yc (Vq E.z_tuple (Zb 1)) Yz))))))))
theorem k10:Sv P w K mg base Qm 1 "is_all_of" ["text","signs"] (Y3 K 2 J1):=Cd E.u E.a10 0 2 ["text","signs"] J1 R8 λnd _ hr hu hv=>(Zj (Z7 (fY E.z_all (E5 ["sign","signs",".acc"] (Qs (Zb 0)) (λnd=>(Yo 0 nd)) (xt0) ((fQ hu (Zb 0) (Zb 1)))))))
theorem k11:Sv P w K mg base Qm 2 "is_text_of" ["value","signs","most"] (Y3 K 3 Wp):=Cd E.u E.a11 1 3 ["value","signs","most"] Wp Gs λnd _ hr hu hv=>(Ze (Wf (Cw (Ba (Po E.z_isinstance E.z_str boot_str (Ao _) (Zb 0)))) (Zj (Z7 HD)) Z8) (Zj (Z7 (LI (nD GU HL GU HL Zk (Oq E.z_len (Zb 0)) (Zb 2)) (GQ (Zw (k10 E kb) hr (Zh (Zb 0) (Zh (Zb 1) Zy))))))))
theorem k12:Sv P w K mg base Qm 3 "is_name" ["value"] (Y3 K 1 Qv):=Cd E.u E.a12 2 1 ["value"] Qv Ms λnd _ hr hu hv=>(Zj (Z7 (Zw (k11 E kb) hr (Zh (Zb 0) (Zh (Gr E.u E.c_SMALL_LETTERS) (Zh (By E.u E.c_NAME_LENGTH) Zy))))))
theorem k13:Sv P w K mg base Qm 4 "check_name" ["name"] (Y3 K 1 Ja):=Cd E.u E.a13 3 1 ["name"] Ja Gu λnd _ hr hu hv=>(Zj (Wf (PW.pt (Vo (Cw (Ba (Zw (k12 E kb) hr (Zh (Zb 0) Zy)))) (Pn (Qe hv (Zb 0) Z6)))) (Zj Qy) Z8))
theorem k14:Sv P w K mg base Qm 5 "read_hands_piece" ["words"] (Y3 K 1 W3):=Cd E.u E.a14 4 1 ["words"] W3 Jw λnd _ hr hu hv=>(Ze (yJ (Zw (k13 E kb) hr (Zh (Zp hu (Zb 0) Zk) Zy))) (Ze (Wf (Cw (Ba (Zw (k11 E kb) hr (Zh (Zp hu (Zb 0) Zk) (Zh (Gr E.u E.c_MANY_FIGURES) (Zh Zk Zy)))))) (Zj Qy) Z8) (Ze (Wf (Cw (Ba (Zw (k11 E kb) hr (Zh (Zp hu (Zb 0) Zk) (Zh (Gr E.u E.c_WAY_FIGURES) (Zh Zk Zy)))))) (Zj Qy) Z8) (Zj (Z7 (Rb (Yc Z6 (Yc (Zp hu (Zb 0) Zk) (Yc (zy E.z_int (Zp hu (Zb 0) Zk)) (Yc (zy E.z_int (Zp hu (Zb 0) Zk)) Yz))))))))))
theorem k15:Sv P w K mg base Qm 6 "read_piece" ["cut"] (Y3 K 1 Wh):=Cd E.u E.a15 5 1 ["cut","words","names","name"] Wh Uk λnd _ hr hu hv=>(Ze (Wf (LB hv (Zp hu (Zb 0) Zk) Z6) (Zj (Z7 (Rb (Yc Z6 (Yc (Zb 0) Yz))))) Z8) (Ze (Zz 1 nd (Ml (Nn (Zb 0) (Q2 Zk) (Q2 (Dl Zk))) Z6)) (Ze (Wf (Qe hv (Oq E.z_len (Zb 1)) Zk) (Zj (Z7 (Zw (k14 E kb) hr (Zh (Zb 1) Zy)))) Z8) (Ze (Zz 2 nd (Vq E.z_tuple (Ml (Nn (Zb 0) (Q2 Zk) (Q2 (Dl Zk))) Z6))) (Ze (Wf (Vm (Oq E.z_len (Zb 2)) (By E.u E.c_MOST_NAMES)) (Zj Qy) Z8) (Ze (Qz cn rfl (Qs (Zb 2)) (Yo 3 nd) (Zj (yJ (Zw (k13 E kb) hr (Zh (Zb 3) Zy))))) (Zj (Z7 (Rb (Yc Z6 (Yc (Zb 2) Yz)))))))))))
theorem k16:Sv P w K mg base Qm 7 "read_template" ["text"] (Y3 K 1 W5):=Cd E.u E.a16 6 1 ["text","cuts","levels","cut"] W5 Oo λnd _ hr hu hv=>(Ze (Wf (Cw (Ba (Po E.z_isinstance E.z_str boot_str (Ao _) (Zb 0)))) (Zj Qy) Z8) (Ze (Zz 1 nd (Zw (k7 E kb) hr (Zh (Zb 0) Zy))) (Ze (Wf (Vm (AF (Oq E.z_len (Zb 1)) (oJ (Zb 1) Z6)) (By E.u E.c_MOST_PIECES)) (Zj Qy) Z8) (Ze (Zz 2 nd rN) (Ze (Qz cn rfl (Qs (Zb 1)) (Yo 3 nd) (Zj (Wf (Qe hv (Zb 3) Z6) (Zj (BY 2 (k8 E kb) hr (Tc 2))) (Zj (Wf (Qe hv (Zb 3) Z6) (Zj (BY 2 (k9 E kb) hr (Tc 2))) (Zj (P3 2 (AY (Tc 2)) (Zw (k15 E kb) hr (Zh (Zb 3) Zy))))))))) (Ze (Wf (Vm (FN 2 E.z_len (Tc 2)) Zk) (Zj Qy) Z8) (Zj (Z7 (jK 2 E.z_tuple (Tc 2))))))))))
theorem k17:Sv P w K mg base Qm 1 "other_field" ["table","kind","field"] (Y3 K 3 Jl):=Cd E.u E.a17 0 3 ["table","kind","field","pair"] Jl Ci λnd _ hr hu hv=>(Ze (Qz cn rfl (Qs (Kx hu (Zb 0) (Yc (Zb 1) (Yc (Qi Yz) Yz)))) (Yo 3 nd) (Zj (Wf (Qe hv (Zp hu (Zb 3) Zk) (Zb 2)) (Zj (Z7 (Zp hu (Zb 3) Zk))) Z8))) (Zj (Z7 Jx)))
theorem k18:Sv P w K mg base Qm 2 "pair_behind" ["shelf","table","pair"] (Y3 K 3 Jm):=Cd E.u E.a18 1 3 ["shelf","table","pair","work","fields","other","key"] Jm Cj λnd _ hr hu hv=>(Ze (Zz 3 nd (Zp hu (Zb 0) (Zp hu (Zb 2) Zk))) (Ze (Zz 4 nd (Zp hu (Zb 3) Zk)) (Ze (Wf (Av hu (Zp hu (Zb 2) Zk) (Zb 4)) (Zj (Z7 Jx)) Z8) (Ze (Zz 5 nd (Zw (k17 E kb) hr (Zh (Zb 1) (Zh (Zp hu (Zb 3) Zk) (Zh (Zp hu (Zb 2) Zk) Zy))))) (Ze (Zz 6 nd (Kx hu (Zb 4) (Yc Z6 Yz))) (Ze (Wf (PW.pt (Vo (Dg (Zb 5) Jx) (Vo (Dg (Zb 6) Jx) (Pn (Dv hu (Zb 6) (Zb 0)))))) (Zj (Z7 Jx)) Z8) (Zj (Z7 (Rb (Yc (Zb 6) (Yc (Zb 5) Yz)))))))))))
theorem k19:Sv P w K mg base Qm 3 "way" ["shelf","table","key","field"] (Y3 K 4 OZ):=Cd E.u E.a19 2 4 ["shelf","table","key","field","pairs","places","pair"] OZ GB λnd _ hr hu hv=>(Ze (Zz 4 nd (Qi Yz)) (Ze (Zz 5 nd oz) (Ze (Zz 6 nd (Rb (Yc (Zb 2) (Yc (Zb 3) Yz)))) (Ze (Vt QG cn (Vn (Zb 6) Jx) (Ze (Wf (Av hu (Zb 6) (Zb 5)) (Zj Qy) Z8) (Ze (Rc 5 hu (Zb 6) (Oq E.z_len (Zb 4))) (Ze (Pq 4 (Zb 6)) (Zj (Zz 6 nd (Zw (k18 E kb) hr (Zh (Zb 0) (Zh (Zb 1) (Zh (Zb 6) Zy)))))))))) (Zj (Z7 (Zb 4)))))))
theorem k20:Sv P w K mg base Qm 4 "had" ["shelf","table","key","field"] (Y3 K 4 B1):=Cd E.u E.a20 3 4 ["shelf","table","key","field","last"] B1 GA λnd _ hr hu hv=>(Ze (Zz 4 nd (Zp hu (Zw (k19 E kb) hr (Zh (Zb 0) (Zh (Zb 1) (Zh (Zb 2) (Zh (Zb 3) Zy))))) (Dl Zk))) (Zj (Z7 (Kx hu (Zp hu (Zp hu (Zb 0) (Zp hu (Zb 4) Zk)) Zk) (Yc (Zp hu (Zb 4) Zk) Yz)))))
theorem k21:Sv P w K mg base Qm 5 "all_had" ["shelf","table","key","fields"] (Y3 K 4 C4):=Cd E.u E.a21 4 4 ["shelf","table","key","fields","found","field","text"] C4 Ic λnd _ hr hu hv=>(Ze (Zz 4 nd Ov) (Ze (Qz cn rfl (Qs (Zb 3)) (Yo 5 nd) (Ze (Zz 6 nd (Zw (k20 E kb) hr (Zh (Zb 0) (Zh (Zb 1) (Zh (Zb 2) (Zh (Zb 5) Zy)))))) (Zj (Wf (Vn (Zb 6) Jx) (Zj (Rc 4 hu (Zb 5) (Zb 6))) Z8)))) (Zj (Z7 (Zb 4)))))
theorem k22:Sv P w K mg base Qm 1 "each_once" ["things"] (Y3 K 1 Oj):=Cd E.u E.a22 0 1 ["things","found","thing"] Oj R9 λnd _ hr hu hv=>(Ze (Zz 1 nd Ov) (Ze (Qz cn rfl (Qs (Zb 0)) (Yo 2 nd) (Zj (Rc 1 hu (Zb 2) HD))) (Zj (Z7 (rG rfl E.z_list (Zb 1))))))
theorem i_(PH:0<=lv)(R:Sv P w K mg base Qm lv "names_in" ["pieces"] (Y3 K 1 r)):Sv P w K mg base Qm (lv+1) "names_in" ["pieces"] (Y3 K 1 (Yj (Be r) 3)):=Cd E.u E.a23 (lv+0) 1 ["pieces","names","piece"] (Yj (Be r) 3) (Be r) λnd _ hr hu hv=>(Ze (Zz 1 nd (Qi Yz)) (Ze (Qz cn rfl (Qs (Zb 0)) (Yo 2 nd) (Zj (Wf (Qe hv (Zp hu (Zb 2) Zk) Z6) (Zj (rF 1 (Zp hu (Zb 2) Zk))) (Zj (Wf (Qe hv (Zp hu (Zb 2) Zk) Z6) (Zj (Pq 1 (Zp hu (Zb 2) Zk))) (Zj (Wf (Qe hv (Zp hu (Zb 2) Zk) Z6) (Zj (B_ 1 (Zw R hr (Zh (Zp hu (Zb 2) Zk) Zy) (by omega)))) Z8))))))) (Zj (Z7 (Zb 1)))))
theorem vA:∀n,Sv P w K mg base Qm (0+1*n) "names_in" ["pieces"] (Y3 K 1 (Wk n))
 |0=>Xd E.u E.a23 _ 1 ["pieces","names","piece"]
 |n+1=>(i_ E kb (by omega) (vA n)).mono (by omega)
theorem k23:Sv P w K mg base Qm 12 "names_in" ["pieces"] (Y3 K 1 T4):=vA E kb 12
theorem k24:Sv P w K mg base Qm 13 "asked" ["T"] (Y3 K 1 Ea):=Cd E.u E.a24 12 1 ["T"] Ea Xk λnd _ hr hu hv=>(Zj (Z7 (Zw (k22 E kb) hr (Zh (Zw (k23 E kb) hr (Zh (Zb 0) Zy)) Zy))))
theorem k25:Sv P w K mg base Qm 1 "told_field" ["names","texts"] (Y3 K 2 Ul):=Cd E.u E.a25 0 2 ["names","texts","name"] Ul Gv λnd _ hr hu hv=>(Ze (Qz cn rfl (Qs (Zb 0)) (Yo 2 nd) (Zj (Wf (Av hu (Zb 2) (Zb 1)) (Zj (Z7 (Zp hu (Zb 1) (Zb 2)))) Z8))) (Zj (Z7 Jx)))
theorem k26:Sv P w K mg base Qm 1 "told_hand" ["hand","way"] (Y3 K 2 Ma):=Cd E.u E.a26 0 2 ["hand","way"] Ma Iw λnd _ hr hu hv=>(Ze (Wf (Qe hv (Zb 1) Zk) (Zj (Z7 (Zp hu (Zb 0) Zk))) Z8) (Ze (Wf (Qe hv (Zb 1) Zk) (Zj (Z7 (Yt (U5 Z6 (E5 ["given",".acc"] (Qs (Zp hu (Zb 0) Zk)) (λnd=>(Yo 0 nd)) (xt0) ((Yt (Nn (Zb 0) Gj (Q2 Zk)) Z6)))) (Zp hu (Zb 0) Zk)))) Z8) (Zj (Z7 (Yt (U5 Z6 (E5 ["given",".acc"] (Qs (Zp hu (Zb 0) Zk)) (λnd=>(Yo 0 nd)) (xt0) ((Yt (Zb 0) Z6)))) (Zp hu (Zb 0) Zk))))))
theorem k27:Sv P w K mg base Qm 2 "told_hands" ["hands","many","way"] (Y3 K 3 Gw):=Cd E.u E.a27 1 3 ["hands","many","way","texts"] Gw Eb λnd _ hr hu hv=>(Ze (C0 3 ["hand","way",".acc"] nd (Qs (Zb 0)) (λnd=>(Yo 0 nd)) (xt0) ((Zw (k26 E kb) hr (Zh (Zb 0) (Zh (Zb 1) Zy))))) (Ze (Wf (Vm (Oq E.z_len (Zb 3)) (Zb 1)) (Zj (Z7 (Yt (U5 Z6 (Nn (Zb 3) Gj (Q2 (Zb 1)))) Z6))) Z8) (Ze (Wf (RP (Oq E.z_len (Zb 3)) Zk) (Zj (Z7 (U5 Z6 (Zb 3)))) Z8) (Zj (Z7 (Yt (Yt (U5 Z6 (Nn (Zb 3) Gj (Q2 (Dl Zk)))) Z6) (Zp hu (Zb 3) (Dl Zk))))))))
theorem k28:Sv P w K mg base (Hc P w) 3 "read_hand" ["text"] (spX K 1 Qj):=vD E.u E.a28 2 1 ["text","halves","givens","word"] Qj B3 λnd _ hr hu hv=>(Ze (Zz 1 nd (Rs (Zb 0) Z6)) (Ze (Zz 2 nd (MI (Qe hv (Zp hu (Zb 1) Zk) Z6) (Ml (Zp hu (Zb 1) Zk) Z6) (Qi Yz))) (Ze (Wf (Vm (Oq E.z_len (Zb 2)) (By E.u E.c_MOST_GIVENS)) (Zj (Fo Cq rfl (Go kb (E.u E.x_NoHands) E.ow_NoHands) E.x_NoHands)) Z8) (Ze (Qz PassesOwn.leaving rfl (Qs (Yt (Qi (Yc (Zp hu (Zb 1) Zk) Yz)) (Zb 2))) (Yo 3 nd) (Zj (Wf (Cw (Ba (Zw (k11 E kb) hr (Zh (Zb 3) (Zh (Gr E.u E.c_LETTERS) (Zh (By E.u E.c_WORD_LENGTH) Zy)))))) (Zj (Fo Cq rfl (Go kb (E.u E.x_NoHands) E.ow_NoHands) E.x_NoHands)) Z8))) (Zj (Z7 (Rb (Yc (Zp hu (Zb 1) Zk) (Yc (Vq E.z_tuple (Zb 2)) Yz)))))))))
theorem k29:Sv P w K mg base (Hc P w) 4 "read_hands" ["text"] (spX K 1 Jb):=vD E.u E.a29 3 1 ["text","parts"] Jb Gx λnd _ hr hu hv=>(Ze (Wf (Cw (Ba (Po E.z_isinstance E.z_str boot_str (Ao _) (Zb 0)))) (Zj (Fo Cq rfl (Go kb (E.u E.x_NoHands) E.ow_NoHands) E.x_NoHands)) Z8) (Ze (Zz 1 nd (Ml (Zb 0) Z6)) (Ze (Wf (Vm (Oq E.z_len (Zb 1)) (By E.u E.c_MOST_HANDS)) (Zj (Fo Cq rfl (Go kb (E.u E.x_NoHands) E.ow_NoHands) E.x_NoHands)) Z8) (Zj (qV (qS rfl iN (Ew (N':=["part",".acc"]) (src:=[.own,.acc]) (by rfl) (by rfl) (by rfl) (by rfl) (by rfl) (by rfl)) (GP 1 (by rfl) (by rfl)) (by decide) (Qs (Zb 1)) (λ_ _ _ _=>xg λ_=>(Yo 0 (show(["part",".acc"]:List Str).Nodup by decide+kernel))) (λ_ _ _ _=>xt0) (λ_ _ _ _ _ _ tq=>xx λ_ zq=>(xl (k28 E kb) hr (oV zq tq) (xU (yN (Zb 0)) yM)))))))))
theorem k30:Sv P w K mg base Qm 5 "told_names" ["piece","texts"] (Y3 K 2 Jc):=Cd E.u E.a30 4 2 ["piece","texts","text","hands"] Jc Ow λnd _ hr hu hv=>(Ze (Zz 2 nd (Kx hu (Zb 1) (Yc (Zp hu (Zb 0) Zk) Yz))) (Ze (Wf (Dg (Zb 2) Jx) (Zj (Z7 Jx)) Z8) (Ze (oU (λ_ _ _ tq=>(Zj (qU 3 nd (xl (k29 E kb) hr (tq.pass rfl) (xU (yN (Zb 2)) yM))))) (E.u E.x_NoHands) ⟨E.ty_NoHands,E.ic_NoHands,E.be_NoHands⟩ (λ_=>(Zj (Z7 (Zb 2)))) (lz E.x_NoHands E.h_NoHands_NoHands xR) xR) (Zj (Z7 (Zw (k27 E kb) hr (Zh (Zb 3) (Zh (Zp hu (Zb 0) Zk) (Zh (Zp hu (Zb 0) Zk) Zy)))))))))
theorem i9(PH:5<=lv)(R:Sv P w K mg base Qm lv "told_piece" ["piece","texts"] (Y3 K 2 r)):Sv P w K mg base Qm (lv+1) "told_group" ["pieces","texts"] (Y3 K 2 (Uo r)):=Cd E.u E.a31 (lv+0) 2 ["pieces","texts","told"] (Uo r) (Gy r) λnd _ hr hu hv=>(Ze (C0 2 ["piece","texts",".acc"] nd (Qs (Zb 0)) (λnd=>(Yo 0 nd)) (xt0) ((Zw R hr (Zh (Zb 0) (Zh (Zb 1) Zy)) (by omega)))) (Ze (Wf (Av hu Jx (Zb 2)) (Zj (Z7 Z6)) Z8) (Zj (Z7 (U5 Z6 (Zb 2))))))
theorem i7(PH:5<=lv)(R:Sv P w K mg base Qm lv "told_piece" ["piece","texts"] (Y3 K 2 r)):Sv P w K mg base Qm (lv+2) "told_piece" ["piece","texts"] (Y3 K 2 (Yj (Qa r) 2)):=Cd E.u E.a32 (lv+1) 2 ["piece","texts"] (Yj (Qa r) 2) (Qa r) λnd _ hr hu hv=>(Ze (Wf (Qe hv (Zp hu (Zb 0) Zk) Z6) (Zj (Z7 (Zp hu (Zb 0) Zk))) Z8) (Ze (Wf (Qe hv (Zp hu (Zb 0) Zk) Z6) (Zj (Z7 (Zw (k25 E kb) hr (Zh (Zp hu (Zb 0) Zk) (Zh (Zb 1) Zy)) (by omega)))) Z8) (Ze (Wf (Qe hv (Zp hu (Zb 0) Zk) Z6) (Zj (Z7 (Zw (k30 E kb) hr (Zh (Zb 0) (Zh (Zb 1) Zy)) (by omega)))) Z8) (Zj (Z7 (Zw (i9 E kb PH R) hr (Zh (Zp hu (Zb 0) Zk) (Zh (Zb 1) Zy)) (by omega)))))))
theorem w_:∀n,Sv P w K mg base Qm (5+2*n) "told_piece" ["piece","texts"] (Y3 K 2 (Y8 n))
 |0=>Xd E.u E.a32 _ 2 ["piece","texts"]
 |n+1=>(i7 E kb (by omega) (w_ n)).mono (by omega)
theorem k32:Sv P w K mg base Qm 29 "told_piece" ["piece","texts"] (Y3 K 2 Gz):=w_ E kb 12
theorem k33:Sv P w K mg base Qm 30 "fill" ["T","F"] (Y3 K 2 Lj):=Cd E.u E.a33 29 2 ["T","F","told"] Lj FI λnd _ hr hu hv=>(Ze (C0 2 ["piece","F",".acc"] nd (Qs (Zb 0)) (λnd=>(Yo 0 nd)) (xt0) ((Zw (k32 E kb) hr (Zh (Zb 0) (Zh (Zb 1) Zy))))) (Zj (Z7 (U5 Z6 (E5 ["text",".acc"] (Qs (Zb 2)) (λnd=>(Yo 0 nd)) (xt λ_=>(Vn (Zb 0) Jx)) ((Zb 0)))))))
theorem k34:Sv P w K mg base Qm 31 "marked" ["T","F"] (Y3 K 2 C5):=Cd E.u E.a34 30 2 ["T","F","texts","name"] C5 Lk λnd _ hr hu hv=>(Ze (Zz 2 nd Ov) (Ze (Qz cn rfl (eK (Zb 1)) (Yo 3 nd) (Zj (Rc 2 hu (Zb 3) (Yt (Yt (Yt (Yt Z6 (Zb 3)) Z6) (Zp hu (Zb 1) (Zb 3))) Z6)))) (Zj (Z7 (Zw (k33 E kb) hr (Zh (Zb 0) (Zh (Zb 2) Zy)))))))
theorem k35:Sv P w K mg base Qm 32 "written_row" ["shelf","table","key","template"] (Y3 K 4 Jo):=Cd E.u E.a35 31 4 ["shelf","table","key","template","texts"] Jo Ck λnd _ hr hu hv=>(Ze (Zz 4 nd (Zw (k21 E kb) hr (Zh (Zb 0) (Zh (Zb 1) (Zh (Zb 2) (Zh (Zw (k24 E kb) hr (Zh (Zb 3) Zy)) Zy)))))) (Zj (Z7 (Yt (Yt (Yt (Yt (Zb 2) Z6) (Zp hu (Zp hu (Zb 0) (Zb 2)) Zk)) Z6) (Zw (k34 E kb) hr (Zh (Zb 3) (Zh (Zb 4) Zy)))))))
theorem k36:Sv P w K mg base Qm 33 "write_list" ["shelf","table","keys","T"] (Y3 K 4 Wv):=Cd E.u E.a36 32 4 ["shelf","table","keys","T"] Wv G2 λnd _ hr hu hv=>(Zj (Z7 (U5 Z6 (E5 ["key","shelf","table","T",".acc"] (Qs (Zb 2)) (λnd=>(Yo 0 nd)) (xt0) ((Zw (k35 E kb) hr (Zh (Zb 1) (Zh (Zb 2) (Zh (Zb 0) (Zh (Zb 3) Zy))))))))))
theorem k37:Sv P w K mg base Qm 2 "angled" ["text","signs"] (Y3 K 2 Mc):=Cd E.u E.a37 1 2 ["text","signs","runs","cuts","run","halves"] Mc Ll λnd _ hr hu hv=>(Ze (Zz 2 nd (Ml (Zb 0) Z6)) (Ze (Zz 3 nd (Qi (Yc (Zp hu (Zb 2) Zk) Yz))) (Ze (Qz cn rfl (Qs (Nn (Zb 2) (Q2 Zk) Gj)) (Yo 4 nd) (Ze (Zz 5 nd (Rs (Zb 4) Z6)) (Ze (Wf (Qe hv (Zp hu (Zb 5) Zk) Z6) (Zj (Z7 Jx)) Z8) (Zj (B_ 3 (Qi (Yc (Zp hu (Zb 5) Zk) (Yc (Zp hu (Zb 5) Zk) Yz)))))))) (Zj (Z7 (MI (Ba (Zw (k10 E kb) hr (Zh (U5 Z6 (BZ (Zb 3) Gj Gj (Q2 Zk))) (Zh (Zb 1) Zy)))) (Zb 3) Jx))))))
theorem k38:Sv P w K mg base Qm 3 "is_plain" ["value"] (Y3 K 1 Bh):=Cd E.u E.a38 2 1 ["value"] Bh T5 λnd _ hr hu hv=>(Zj (Z7 (Zw (k11 E kb) hr (Zh (Zb 0) (Zh (Gr E.u E.c_PLAIN_SIGNS) (Zh (By E.u E.c_PLAIN_LENGTH) Zy))))))
theorem k39:Sv P w K mg base Qm 4 "is_mark" ["name","text"] (Y3 K 2 C6):=Cd E.u E.a39 3 2 ["name","text"] C6 Ie λnd _ hr hu hv=>(Zj (Z7 (LI (Zw (k12 E kb) hr (Zh (Zb 0) Zy)) (LI (lU hu (Zb 0) (Rb (Mn [("note",_,_),("kind",_,_)] Yz))) (GQ (Zw (k38 E kb) hr (Zh (Zb 1) Zy)))))))
theorem k40:Sv P w K mg base Qm 5 "read_marks" ["marks"] (Y3 K 1 Up):=Cd E.u E.a40 4 1 ["marks","fields","mark","halves"] Up G3 λnd _ hr hu hv=>(Ze (Zz 1 nd Ov) (Ze (Qz cn rfl (Qs (Zb 0)) (Yo 2 nd) (Ze (Zz 3 nd (Rs (Zb 2) Z6)) (Ze (Wf (PW.pt (Vo (Cw (Ba (Zw (k39 E kb) hr (Zh (Zp hu (Zb 3) Zk) (Zh (Zp hu (Zb 3) Zk) Zy))))) (Pn (LB hv (Kx hu (Zb 1) (Yc (Zp hu (Zb 3) Zk) (Yc (Zp hu (Zb 3) Zk) Yz))) (Zp hu (Zb 3) Zk))))) (Zj (Z7 Jx)) Z8) (Zj (Rc 1 hu (Zp hu (Zb 3) Zk) (Zp hu (Zb 3) Zk)))))) (Zj (Z7 (Zb 1)))))
theorem k41:Sv P w K mg base Qm 6 "read_row" ["words"] (Y3 K 1 Bi):=Cd E.u E.a41 5 1 ["words","cuts"] Bi T6 λnd _ hr hu hv=>(Ze (Wf (PW.pt (Vo (RP (Oq E.z_len (Zb 0)) Zk) (Vo (Cw (Ba (Zw (k12 E kb) hr (Zh (Zp hu (Zb 0) Zk) Zy)))) (Pn (Cw (Ba (Zw (k12 E kb) hr (Zh (Zp hu (Zb 0) Zk) Zy)))))))) (Zj (Z7 Jx)) Z8) (Ze (Zz 1 nd (Zw (k37 E kb) hr (Zh (Zp hu (Zb 0) Zk) (Zh (Gr E.u E.c_STYLE_SIGNS) Zy)))) (Zj (Z7 (MI (Dg (Zb 1) Jx) Jx (Zw (k40 E kb) hr (Zh (BZ (Zb 1) (Q2 Zk) Gj (Q2 Zk)) Zy)))))))
theorem k42:Sv P w K mg base Qm 7 "read_list" ["text"] (Y3 K 1 Q5):=Cd E.u E.a42 6 1 ["text","shelf","rows","number","row","words","fields"] Q5 Md λnd _ hr hu hv=>(Ze (Wf (Cw (Ba (Po E.z_isinstance E.z_str boot_str (Ao _) (Zb 0)))) (Zj Qy) Z8) (Ze (Zz 1 nd Ov) (Ze (Zz 2 nd (MI (Qe hv (Zb 0) Z6) (Qi Yz) (Ml (Zb 0) Z6))) (Ze (Qz cn rfl (oF E.z_enumerate (Zb 2)) (LH rfl (Bx (Yo 3 nd) (Bx (Yo 4 nd) Vr))) (Ze (Zz 5 nd (lF (Zb 4) Z6 Zk)) (Ze (Zz 6 nd (Zw (k41 E kb) hr (Zh (Zb 5) Zy))) (Ze (Wf (PW.pt (Vo (Dg (Zb 6) Jx) (Pn (Av hu (Zp hu (Zb 5) Zk) (Zb 1))))) (Zj Qy) Z8) (Zj (Rc 1 hu (Zp hu (Zb 5) Zk) (Rb (Yc (Zp hu (Zb 5) Zk) (Yc (Zb 6) Yz))))))))) (Zj (Z7 (Zb 1)))))))
theorem k43:Sv P w K mg base Qm 1 "_law_mixed" ["_law_cell","_law_by"] (Y3 K 2 J2):=Cd E.u E.a43 0 2 ["_law_cell","_law_by"] J2 Me λnd _ hr hu hv=>(Zj (Z7 (W8 (Gm (W8 (Zb 0) Zk) (Zb 1)) Zk)))
theorem i6(PH:0<=lv)(R:Sv P w K mg base Qm lv "_law_text" ["_law_some","_law_fields","_law_depth"] (Y3 K 3 r)):Sv P w K mg base Qm (lv+1) "_law_text" ["_law_some","_law_fields","_law_depth"] (Y3 K 3 (Yj (U1 r) 9)):=Cd E.u E.a44 (lv+0) 3 ["_law_some","_law_fields","_law_depth","_law_text_here","_law_ahead","_law_k","_law_how","_law_what","_law_names_here"] (Yj (U1 r) 9) (U1 r) λnd _ hr hu hv=>(Ze (Zz 3 nd Z6) (Ze (Zz 4 nd (Gm Zk (Zb 2))) (Ze (Qz cn rfl (Pp E.z_range (Yt Zk (W8 (Zp hu (Zb 0) (Zb 4)) (Zp hu (Qi (Yc Zk (Yc Zk (Yc Zk Yz)))) (Zb 2))))) (Yo 5 nd) (Ze (Zz 6 nd (Zp hu (Zb 0) (Yt (Yt (Zb 4) Zk) (Gm Zk (Zb 5))))) (Ze (Zz 7 nd (Zp hu (Zb 0) (Yt (Yt (Zb 4) Zk) (Gm Zk (Zb 5))))) (Zj (Wf (Qe hv (W8 (Zb 6) Zk) Zk) (Zj (Zz 3 nd (Yt (Zb 3) (Zp hu (Qi (Mn [(", ",_,_),(": ",_,_),(" (x) ",_,_)] Yz)) (W8 (Zb 7) Zk))))) (Zj (Wf (PW.pt (LJ (RP (W8 (Zb 6) Zk) Zk) (LJ (RP (Zb 2) Zk) (EA (Dv hu Z6 (Zb 3)))))) (Zj (Zz 3 nd (Yt (Yt (Yt (Zb 3) Z6) (Zw R hr (Zh (Zb 0) (Zh (Zb 1) (Zh (Yt (Zb 2) Zk) Zy))) (by omega))) Z6))) (Zj (Wf (Qe hv (W8 (Zb 6) Zk) Zk) (Zj (Zz 3 nd (Yt (Yt (Yt (Zb 3) Z6) (Zp hu (Zb 1) (W8 (Zb 7) Zk))) Z6))) (Ze (Zz 8 nd (Qi (Yc (Zp hu (Zb 1) (W8 (Zb 7) Zk)) (Yc (Zp hu (Zb 1) (W8 (Ev (Zb 7) Zk) Zk)) Yz)))) (Zj (Zz 3 nd (Yt (Yt (Yt (Zb 3) Z6) (U5 Z6 (Zb 8))) Z6))))))))))))) (Zj (Z7 (Zb 3))))))
theorem w9:∀n,Sv P w K mg base Qm (0+1*n) "_law_text" ["_law_some","_law_fields","_law_depth"] (Y3 K 3 (U2 n))
 |0=>Xd E.u E.a44 _ 3 ["_law_some","_law_fields","_law_depth","_law_text_here","_law_ahead","_law_k","_law_how","_law_what","_law_names_here"]
 |n+1=>(i6 E kb (by omega) (w9 n)).mono (by omega)
theorem k44:Sv P w K mg base Qm 12 "_law_text" ["_law_some","_law_fields","_law_depth"] (Y3 K 3 T7):=w9 E kb 12
theorem k45:Sv P w K mg base Qm 1 "_law_names_of" ["_law_piece"] (Y3 K 1 Y6):=Cd E.u E.a45 0 1 ["_law_piece"] Y6 Qg λnd _ hr hu hv=>(Ze (Wf (Qe hv (Zp hu (Zb 0) Zk) Z6) (Zj (Z7 (EN E.z_list (Zp hu (Zb 0) Zk)))) Z8) (Ze (Wf (Qe hv (Zp hu (Zb 0) Zk) Z6) (Zj (Z7 (Qi (Yc (Zp hu (Zb 0) Zk) Yz)))) Z8) (Zj (Z7 (Qi Yz)))))
theorem k46:Sv P w K mg base Qm 2 "_law_lacks" ["_law_piece","_law_own"] (Y3 K 2 J3):=Cd E.u E.a46 1 2 ["_law_piece","_law_own","_law_names_here"] J3 B4 λnd _ hr hu hv=>(Ze (Zz 2 nd (Zw (k45 E kb) hr (Zh (Zb 0) Zy))) (Zj (Z7 (LI (fS hv (Zb 2) (Qi Yz)) (GQ (GD hv (E5 ["_law_name","_law_own",".acc"] (Qs (Zb 2)) (λnd=>(Yo 0 nd)) (xt λ_=>(Av hu (Zb 0) (Zb 1))) ((Zb 0))) (Qi Yz)))))))
theorem i5(PH:2<=lv)(R:Sv P w K mg base Qm lv "_law_told" ["_law_pieces","_law_own","_law_told_here"] (spW K 2 r)):Sv P w K mg base Qm (lv+1) "_law_told" ["_law_pieces","_law_own","_law_told_here"] (spW K 2 (QH (Bj r) 6)):=hJ E.u E.a47 (lv+0) 2 ["_law_pieces","_law_own","_law_told_here","_law_piece","_law_names_here","_law_lacking"] (QH (Bj r) 6) (Bj r) λnd _ hr hu hv=>(Hi (Qz cn rfl (Qs (Zb 0)) (Yo 3 nd) (Ze (C0 4 ["_law_name","_law_own",".acc"] nd (Qs (Zw (k45 E kb) hr (Zh (Zb 3) Zy) (by omega))) (λnd=>(Yo 0 nd)) (xt λ_=>(Av hu (Zb 0) (Zb 1))) ((Zb 0))) (Ze (Wf (LB hv (Zb 4) (Qi Yz)) (Zj (Rc 2 hu (Zp hu (Zb 4) Zk) (Zp hu (Zb 1) (Zp hu (Zb 4) Zk)))) Z8) (Zj (Wf (Qe hv (Zp hu (Zb 3) Zk) Z6) (Ze (C0 5 ["_law_one","_law_own",".acc"] nd (Qs (Zp hu (Zb 3) Zk)) (λnd=>(Yo 0 nd)) (xt λ_=>(Ba (Zw (k46 E kb) hr (Zh (Zb 0) (Zh (Zb 1) Zy)) (by omega)))) ((Zb 0))) (Zj (Wf (Qe hv (Zb 5) (Qi Yz)) (Zj (ou 2 R hr (xm (Zp hu (Zb 3) Zk) (xm (Zb 1) (rE 2 (Tc 2)))) (by omega))) Z8))) Z8))))) (x_ (S5 (Tc 2))))
theorem w8:∀n,Sv P w K mg base Qm (2+1*n) "_law_told" ["_law_pieces","_law_own","_law_told_here"] (spW K 2 (Yu n))
 |0=>m_ E.u E.a47 _ 2 ["_law_pieces","_law_own","_law_told_here","_law_piece","_law_names_here","_law_lacking"]
 |n+1=>(i5 E kb (by omega) (w8 n)).mono (by omega)
theorem k47:Sv P w K mg base Qm 14 "_law_told" ["_law_pieces","_law_own","_law_told_here"] (spW K 2 Bk):=w8 E kb 12
end
theorem dN{K}(E:Env K mg ZO)(uU:mg "law"=aA (.ref fa)):vE l "_law_script" 34 MT K w mg fa:=by obtain⟨_,_,a⟩:=E.a48;cases uU.symm.trans (E.u a.1);refine⟨_,oE a.2 λ_ _ _ _ _ _ _=>rfl,λbase kb nb=>?_⟩;exact ok0 a 33 1 ["_law_script","_law_cells","_law_keys","_law_fields","_law_table_here","_law_shelf_here","_law_template","_law_turn","_law_text_here","_law_found","_law_due","_law_key","_law_own","_law_field","_law_value"] MT H_ λnd _ hr hu hv=>(Ze (Zz 1 nd (Nn (Zb 0) (Q2 Zk) (Q2 Zk))) (Ze (Zz 2 nd (Zw (k0 E kb) hr (Zh (Zw (k43 E kb) hr (Zh (Zw (k2 E kb) hr (Zh (Zb 0) (Zh Zk Zy))) (Zh Zk Zy))) (Zh (Oq E.z_len (Zb 1)) Zy)))) (Ze (Zz 3 nd (Zw (k0 E kb) hr (Zh (Zw (k43 E kb) hr (Zh (Zw (k2 E kb) hr (Zh (Zb 0) (Zh Zk Zy))) (Zh Zk Zy))) (Zh Zk Zy)))) (Ze (Zz 4 nd (Zw (k3 E kb) hr (Zh (Zb 0) (Zh (Zb 3) Zy)))) (Ze (Zz 5 nd (Zw (k4 E kb) hr (Zh (Zb 2) (Zh (Zb 3) (Zh (Zb 1) Zy))))) (Ze (Zz 6 nd (Zw (k16 E kb) hr (Zh (Zw (k44 E kb) hr (Zh (Zw (k1 E kb) hr (Zh (Zw (k2 E kb) hr (Zh (Zb 0) (Zh Zk Zy))) (Zh Zk Zy))) (Zh (Zb 3) (Zh Zk Zy)))) Zy))) (Ze (Zz 7 nd (W8 (Zw (k2 E kb) hr (Zh (Zb 0) (Zh Zk Zy))) (fD E.z_max rfl Zk (Oq E.z_len (Zb 2))))) (Ze (Zz 2 nd (Yt (Nn (Zb 2) (Q2 (Zb 7)) Gj) (Nn (Zb 2) Gj (Q2 (Zb 7))))) (Ze (Zz 8 nd (Zw (k36 E kb) hr (Zh (Zb 5) (Zh (Zb 4) (Zh (EN E.z_list (Zb 2)) (Zh (Zb 6) Zy)))))) (Ze (Zz 9 nd (Zw (k42 E kb) hr (Zh (Zb 8) Zy))) (Ze (Zz 10 nd Ov) (Ze (Qz cn rfl (Qs (Zb 2)) (Yo 11 nd) (Ze (Zz 12 nd Ov) (Ze (Qz cn rfl (Qs (Zb 3)) (Yo 13 nd) (Ze (Zz 14 nd (Zw (k20 E kb) hr (Zh (Zb 5) (Zh (Zb 4) (Zh (Zb 11) (Zh (Zb 13) Zy)))))) (Zj (Wf (Vn (Zb 14) Jx) (Zj (Rc 12 hu (Zb 13) (Zb 14))) Z8)))) (Zj (Rc 10 hu (Zb 11) (Rb (Yc (Zp hu (Zp hu (Zb 5) (Zb 11)) Zk) (Yc (lA (k47 E kb) hr (xk (Zb 6) (xk (Zb 12) rB))) Yz)))))))) (Ze (Wf (PW.pt (Vo (Cw (Ba (Po E.z_isinstance E.z_str boot_str (Ao _) (Zb 8)))) (Vo (Cw (Ba (Po E.z_isinstance E.z_dict boot_dict (kI _) (Zb 9)))) (Pn (LB hv (Zb 9) (Zb 10)))))) (Zj (Z7 HD)) Z8) (Zj (Z7 (GD hv (Zw (k36 E kb) hr (Zh (Zb 9) (Zh Ov (Zh (EN E.z_list (Zb 2)) (Zh (Zb 6) Zy))))) (Zb 8)))))))))))))))))
end Gen
namespace My
open L2
theorem Q6{r}(h1:a δ=aA (.nx δ1))(h2:b δ1=r):Zs a b δ=r:=by simp[h1,h2]
theorem sk(h1:a δ=aA (.rt sv)):Zs a b δ=aA (.rt sv):=by simp[h1]
theorem fC{e}{δ δ1 δ2}{rv}(h1:e δ=aA (rv,δ1))(h2:stow i rv δ1=aA δ2):Ye i e δ=aA (.nx δ2):=by simp[h1,h2,-stow]
theorem yB{fa}{δ δ1}{rvs}{ds}{sv}(h1:fa δ=aA (rvs,δ1))(h2:Bt rvs δ1=aA ds)(h3:g ds=aA sv):Yy g fa δ=aA (.tmp sv,δ1):=by simp[h1,h2,h3,-Bt]
theorem fB{fa fb}{δ δ1 δ2}{u v}{x y}{sv}(h1:fa δ=aA (u,δ1))(h2:fb δ1=aA (v,δ2))(h3:Bt [u,v] δ2=aA [x,y])(h4:g x y=aA sv):Zg g fa fb δ=aA (.tmp sv,δ2):=by unfold Zg;exact yB (rvs:=[u,v]) (by simp[h1,h2]) h3 h4
theorem i4{δ1:Wa}{c}{r}(h1:t δ=aA (c,δ1))(h2:(bif c then a δ1 else b δ1)=r):Jt t a b δ=r:=by cases c<;> simp_all
theorem fA{δ1:Wa}{rv}{sv}(h1:fe δ=aA (rv,δ1))(h2:MQ rv δ1=aA sv):Yv fe δ=aA (.rt sv):=by simp[h1,h2,-MQ]
theorem g_(h:L2.atI xs i=aA d):Wg (.lst xs) (.int i)=aA (.fz d):=by simp[h]
theorem FH(h:f (Ca n ds)=aA (.rt sv)):Yj f n ds=aA sv:=by unfold Yj;rw[h]
theorem g9{δ1:Wa}{xs}{r}(h1:fi δ=aA (xs,δ1))(h2:Yr tg body xs δ1=r):Uw fi tg body δ=r:=by simp[h1,h2,-Yr]
theorem i3[Decidable p]{α:Type}{a b r:α}(h:p)(h2:a=r):(bif decide p then a else b)=r:=by rw[bL h];exact h2
theorem g8(h:x.length+y.length<=bu):Wo (.str x) (.str y)=aA (.fz (.str (x++y))):=by simp[h]
def bC(k:String)(l:List Lean.Syntax):=Lean.Syntax.node .none (.str `Lean.Parser.Tactic k) l.toArray
def bB(k:String)(l:List Lean.Syntax):=bC k (.atom .none ""::l)
def bE(l:List Lean.Syntax):=Lean.mkNullNode l.toArray
def bG(l:List Lean.Syntax):=bB "first" [bE (l.map λt=>bB "" [t])]
def bF(l:String)(f:Lean.Syntax->Lean.Syntax):=(l.splitOn " ").map λc=>f (bB "apply" [Lean.mkIdent (.str `My c)])
def bH(t:Lean.Syntax):=bB "withReducible" [t]
def evE:=bB "repeat'" [bC "tacticSeq" [bG (bF "Q6 fC i4 fA g9 FH" bH++bB "tacticRfl" []::bF "fB yB" bH++bB "assumption" []::bF "g_ g8 i3" λt=>bE [t,bG [bB "assumption" [],bB "tacticRfl" [],bB "omega" [bC "optConfig" [bE []]]]])]]
theorem evX{p:Prop}(h:autoParam p evE):p:=h
noncomputable abbrev STS : Str := "ABCDEFGHIJKLMNOPQRSTUVWXYZabcdefghijklmnopqrstuvwxyz0123456789 .,!?'-/()&+*=:;"
noncomputable abbrev ABC:Str:="abcdefghijklmnopqrstuvwxyz"
noncomputable def abc(c:Nat):Bool:=Nat.ble 97 c&&Nat.ble c 122
def Tf(c:Nat):Bool:=(Nat.ble 65 c&&Nat.ble c 90)||abc c|| (Nat.ble 39 c&&Nat.ble c 59)|| [32,33,38,61,63].contains c
theorem ze:∀c<128,Fm ⟨#[c]⟩ ABC=abc c:=by decide+kernel
theorem Ig:∀c<128,Fm ⟨#[c]⟩ STS=Tf c:=by decide+kernel
theorem sj:∀c<128,Fm ⟨#[c]⟩ "[]"=(c==91||c==93):=by decide+kernel
noncomputable def dg9(c:Nat):Bool:=Nat.ble 49 c&&Nat.ble c 57
noncomputable def dg3(c:Nat):Bool:=Nat.ble 48 c&&Nat.ble c 50
theorem se:∀c<128,Fm ⟨#[c]⟩ "123456789"=dg9 c:=by decide+kernel
theorem rf:∀c<128,Fm ⟨#[c]⟩ "012"=dg3 c:=by decide+kernel
theorem Ef:∀c,abc c=aC->97<=c/\c<=122:=λc h=>by unfold abc at h;rw[dn]at h;exact⟨Nat.le_of_ble_eq_true h.1,Nat.le_of_ble_eq_true h.2⟩
def Bl(l:List Nat):Prop:=∀c∈l,c<128
theorem P8(f):∀l:List Nat,bools? (l.map λc=>D.bl (f c))=aA (l.map f)
 | []=>rfl
 |x::r=>by simp[P8 f r]
def sgf(sg:Str)(d:D):D:=match d with
 | .str x=>.bl (Fm x sg)
 |d=>d
theorem BV(sg f l)(hin:∀c<128,Fm ⟨#[c]⟩ sg=f c)(ha:Bl l)(hl:l.length<=2000000):Gen.J1 [.str (S l),.str sg]=aA (.fz (.bl (l.all f))):=by
 have c:=Ay (te:=Gen.Ch) (f:=sgf sg) (c:=aA (.fz (.str sg))) (j:=1) (Np (S l)) [] (λx hx zs=>by
  unfold Np at hx;obtain⟨k,hk,rfl⟩:=bd.mp hx;unfold Gen.Ch sgf;simp[-Fm]) (by unfold Np;rw[ay,Yk,Z1];simp;omega)
 rw[cz]at c;have e:(Np (S l)).map (sgf sg)=l.map λc=>D.bl (f c):=by unfold Np;rw[b6,Yh];refine dl λk hk=>?_;show D.bl (Fm ⟨#[k]⟩ sg)=_;rw[hin k (ha k hk)]
 rw[e]at c;have s:=P8 f l;have sa:(l.map f).all id=l.all f:=by simp
 unfold Gen.J1 Gen.R8;simp[c,s]
theorem Ih(sg f l)(m:Nat)(hin:∀c<128,Fm ⟨#[c]⟩ sg=f c)(ha:Bl l)(hl:l.length<=100000):Gen.Wp [.str (S l),.str sg,.int (m:Int)]=aA (.fz (.bl (decide (1<=l.length/\l.length<=m)&&l.all f))):=by
 have a:=BV sg f l hin ha (by omega);have z:(S l).length<=PySem.sizeLine:=Zn (by rw[Z1];omega);rw[Z1]at z;generalize l.all f=b at*;unfold Gen.Wp Gen.Gs;by_cases h1:1<=l.length
 .by_cases h2:l.length<=m
  .have a1:(1:Int)<=(l.length:Int):=by omega
   have a2:(l.length:Int)<=(m:Int):=by omega
   simp[Z1,z,a1,a2,h1,h2,a]
  .have a1:(1:Int)<=(l.length:Int):=by omega
   have a2:¬(l.length:Int)<=(m:Int):=by omega
   simp[Z1,z,a1,a2,h1,h2,a]
 .have a1:¬(1:Int)<=(l.length:Int):=by omega
  simp[Z1,z,a1,h1,a]
def Ng(l:List Nat):Prop:=1<=l.length/\l.length<=8/\l.all abc=aC/\l≠[110,111,116,101]
theorem Ng.asc(h:Ng l):Bl l:=λc hc=>by have:=Ef c (b9.mp h.2.2.1 c hc);omega
theorem Ng.no(h:Ng l)(c)(hc:c<97\/122<c):c∉l:=λhm=>by have:=Ef c (b9.mp h.2.2.1 c hm);omega
theorem Lm(h:Ng l):Gen.Qv [.str (S l)]=aA (.fz (.bl aC)):=by
 have a:=Ih ABC abc l 8 ze h.asc (by have:=h.2.1;omega);have i8:((8:Nat):Int)=8:=rfl;have e:(decide (1<=l.length/\l.length<=8)&&l.all abc)=aC:=by rw[h.2.2.1,bL ⟨h.1,h.2.1⟩];rfl
 rw[i8,e]at a;unfold Gen.Qv Gen.Ms;simp[a]
theorem Ln:az "note"=S [110,111,116,101]:=by decide+kernel
theorem P9(h:Ng l):Gen.Ja [.str (S l)]=aA (.fz .non):=by have a:=Lm h;have n:¬S l=S [110,111,116,101]:=OM h.2.2.2;unfold Gen.Ja Gen.Gu;simp[a,Ln,n]
open PySem.StrLaws in
theorem om(pre l r:List Nat)(c:Nat)(hc:c∉l):Txt.find3 (S (pre++(l++c::r))) (S [c]) (pre.length:Int)=((pre.length+l.length:Nat):Int):=by
 have hL:(S (pre++(l++c::r))).length=pre.length+(l.length+(r.length+1)):=by rw[Z1];simp
 have hf:fromIndex (S (pre++(l++c::r))).length (pre.length:Int)=pre.length:=by unfold fromIndex;rw[bI (by omega)];omega
 have OH:∀i,At (S (pre++(l++c::r))) (S [c]) (S (pre++(l++c::r))).length i↔(pre++(l++c::r))[i]? =aA c:=λi=>by
  rw[Mr,Yh,Yh];unfold Ui;constructor
  .rintro⟨h1,h2⟩;have h1:i<(pre++(l++c::r)).length:=h1;rw[dy h1]at h2;have h2:[(pre++(l++c::r))[i]]=[c]:=h2;rw[dq h1];injection h2 with h2 _;rw[h2]
  .intro h;obtain⟨h1,h2⟩:=bf.mp h;refine⟨h1,?_⟩;rw[dy h1,h2];rfl
 have PP:(pre++(l++c::r))[pre.length+l.length]? =aA c:=by rw[dv (by omega),dv (by omega)];simp
 have no:∀i,pre.length<=i->i<pre.length+l.length->(pre++(l++c::r))[i]?≠aA c:=λi h1 h2 e=>by rw[dv h1,fm (by omega)]at e;exact hc (cy e)
 unfold Txt.find3;rw[hf,StrLaws.occ_eq];rcases occ_first (S (pre++(l++c::r))) (S [c]) (S (pre++(l++c::r))).length 1 (bg _) (List.range' pre.length ((S (pre++(l++c::r))).length+1- pre.length)) pre.length (λi hi=>(List.mem_range'_1.mp hi).1)with⟨_,h2⟩|⟨p1,a,p2,h1,h2,h3,h4⟩
 .exact bN ((OH _).mpr PP) (h2 _ (List.mem_range'_1.mpr ⟨by omega,by omega⟩))
 .have ha:a=pre.length+l.length:=by
   have hm:a∈List.range' pre.length ((S (pre++(l++c::r))).length+1- pre.length):=by rw[h1];exact bp _ aa
   have hge:=(List.mem_range'_1.mp hm).1;have h3':=(OH a).mp h3;by_cases YL:a<pre.length+l.length
   .exact bN h3' (no a hge YL)
   .by_cases hgt:pre.length+l.length<a
    .exfalso;have JP:pre.length+l.length∈p1++a::p2:=by rw[<-h1];exact List.mem_range'_1.mpr ⟨by omega,by rw[hL];omega⟩
     have vg:(p1++a::p2).Pairwise (· < ·):=by rw[<-h1];exact List.pairwise_lt_range'
     rcases bo.mp JP with z|z
     .exact h4 _ z ((OH _).mpr PP)
     .rcases ba.mp z with z|z
      .omega
      .have:=List.rel_of_pairwise_cons (List.pairwise_append.mp vg).2.1 z;omega
    .omega
  subst ha;generalize (forIn (List.range' pre.length ((S (pre++(l++c::r))).length+1- pre.length)) ((#[]:Array Nat),pre.length) (occBody (S (pre++(l++c::r))) (S [c]) (S (pre++(l++c::r))).length 1)).run.fst=arr at*;have TW:arr.toList[0]? =aA (pre.length+l.length):=by rw[Array.getElem?_toList];exact h2
  cases hal:arr.toList with
  |nil=>rw[hal]at TW;cases TW
  |cons x xs=>rw[hal]at TW;simp at TW;subst TW;rfl
theorem Sa(pre t r):Txt.slice (S (pre++(t++r))) (aA (pre.length:Int)) (aA ((pre.length+t.length:Nat):Int))=S t:=by refine(StrLaws.sliceText_plain ⟨by omega,by omega,by rw[Yh];simp;omega⟩).trans ?_;rw[Yh,Int.toNat_natCast,show(((pre.length+t.length:Nat):Int)- (pre.length:Int)).toNat=t.length by omega,List.drop_left,List.take_left]
theorem wV(a b l):Txt.slice (S (a::(l++[b]))) (aA 1) (aA (-1))=S l:=by
 have hl:(S (a::(l++[b]))).length=l.length+2:=by rw[Z1];simp
 have e:Txt.slice (S (a::(l++[b]))) (aA 1) (aA (-1))=Txt.slice (S (a::(l++[b]))) (aA 1) (aA (-1+((S (a::(l++[b]))).length:Int))):=StrLaws.sliceText_neg_hi _ _ (by decide) (by rw[hl];omega);rw[e,hl];have:=Sa [a] l [b];have e2:(-1+((l.length+2:Nat):Int))=(([a].length+l.length:Nat):Int):=by simp;omega
 rw[e2];exact this
inductive Tk where
 |op|cl|sg (l:List Nat)|br (l:List Nat)
noncomputable def Tk.l:Tk->List Nat
 | .op=>[91]
 | .cl=>[93]
 | .sg l=>l
 | .br l=>123::(l++[125])
noncomputable def Tk.isSg:Tk->Bool
 | .sg _=>aC
 |_=>aD
def Tk.ok:Tk->Prop
 | .sg l=>l≠[]/\l.length<=100/\∀c∈l,c<128/\Tf c=aC
 | .br l=>125∉l/\l.length<=100
 |_=>True
def Gd:Bool->List Tk->Prop
 |_,[]=>True
 |p,t::r=>t.ok/\¬(p=aC/\t.isSg=aC)/\Gd t.isSg r
def Yl(ts:List Tk):List Nat:=ts.flatMap Tk.l
theorem Mu(t ts):Yl (t::ts)=t.l++Yl ts:=rfl
theorem Uq(a b):Yl (a++b)=Yl a++Yl b:=List.flatMap_append
theorem G4:Tf 91=aD/\Tf 93=aD/\Tf 123=aD:=by decide
theorem Tk.first(t:Tk)(h:t.ok):∃c r,t.l=c::r/\c<128/\(t.isSg=aD->Tf c=aD)/\(t.isSg=aC->Tf c=aC):=by
 cases t with
 |op=>exact⟨91,[],rfl,by decide,λ_=>G4.1,λz=>nomatch z⟩
 |cl=>exact⟨93,[],rfl,by decide,λ_=>G4.2.1,λz=>nomatch z⟩
 |br l=>exact⟨123,l++[125],rfl,by decide,λ_=>G4.2.2,λz=>nomatch z⟩
 |sg l=>
  cases l with
  |nil=>exact bN rfl h.1
  |cons c r=>exact⟨c,r,rfl,(h.2.2 c aa).1,(λz=>nomatch z),λ_=>(h.2.2 c aa).2⟩
theorem FF(pre c)(r:List α):L2.atI (pre++c::r) (pre.length:Int)=aA c:=Ce _ _ _ (by rw[dv (bg _),Nat.sub_self];rfl)
theorem Lo(hL:L.length<=100000)(a):∀l pre rest n,L=pre++(l++rest)->(∀c∈l,c<128/\Tf c=aC)->(rest=[]\/∃c r,rest=c::r/\c<128/\Tf c=aD)->l.length<n->
  Ju Gen.Jk Gen.Cf n [aA (.fz (.str (S L))),a,aA (.fz (.int (pre.length:Int)))]=aA (.nx [aA (.fz (.str (S L))),a,aA (.fz (.int ((pre.length+l.length:Nat):Int)))])
 | [],pre,rest,0,_,_,_,h=>by simp at h
 | [],pre,rest,n+1,e,_,hr,_=>by
  have z:L.length<=PySem.sizeLine:=Zn (by omega);refine Tz ?_;rcases hr with h|⟨c,r,h,h1,h2⟩
  .subst h;have e':L=pre:=by rw[e];simp
   subst e';unfold Gen.Jk;simp[Z1,z]
  .subst h;have hi:=Ig c h1;rw[h2]at hi;have at':L2.atI L (pre.length:Int)=aA c:=by rw[e];exact FF pre c r
   have lt:(pre.length:Int)<(L.length:Int):=by rw[e];simp;omega
   unfold Gen.Jk;simp[-Fm,Z1,Yh,z,at',lt,hi]
 |c::l,pre,rest,0,_,_,_,h=>by simp at h
 |c::l,pre,rest,n+1,e,hc,hr,hn=>by
  have z:L.length<=PySem.sizeLine:=Zn (by omega);obtain⟨h1,h2⟩:=hc c aa;have hi:=Ig c h1;rw[h2]at hi;have at':L2.atI L (pre.length:Int)=aA c:=by rw[e];exact FF pre c _
  have lt:(pre.length:Int)<(L.length:Int):=by rw[e];simp;omega
  have ih:=Lo hL a l (pre++[c]) rest n (by rw[e];simp) (λd hd=>hc d (ad _ hd)) hr (by simpa using hn);have el:((pre++[c]).length:Int)=(pre.length:Int)+1:=by simp
  have el2:(pre++[c]).length+l.length=pre.length+(c::l).length:=by simp;omega
  rw[el,el2]at ih;refine(E6 (δ1:=[aA (.fz (.str (S L))),a,aA (.fz (.int (pre.length:Int)))]) (δ2:=[aA (.fz (.str (S L))),a,aA (.fz (.int ((pre.length:Int)+1)))]) ?_ ?_).trans ih
  .unfold Gen.Jk;simp[-Fm,Z1,Yh,z,at',lt,hi]
  .unfold Gen.Cf;simp
theorem my{rest:List Nat}(hL:L.length<=100000)(e:L=pre++(l++rest))(hc:∀c∈l,c<128/\Tf c=aC)(hr:rest=[]\/∃c r,rest=c::r/\c<128/\Tf c=aD)(hl:l.length<=100):
  Gen.Jy [.str (S L),.int (pre.length:Int)]=aA (.fz (.int ((pre.length+l.length:Nat):Int))):=by
 have w:=Lo hL (aA (.fz (.int (pre.length:Int)))) l pre rest 1000 e hc hr (by omega);unfold Gen.Jy Gen.R5;simp[-Int.natCast_add,w]
theorem re{rest:List Nat}(t:Tk)(hL:L.length<=100000)(e:L=pre++(t.l++rest))(ht:t.ok)(hr:t.isSg=aC->rest=[]\/∃c r,rest=c::r/\c<128/\Tf c=aD):
  Gen.C3 [.str (S L),.int (pre.length:Int)]=aA (.fz (.int ((pre.length+t.l.length:Nat):Int))):=by
 have z:L.length<=PySem.sizeLine:=Zn (by omega);have ob:az "{"=S [123]:=by decide+kernel
 have cb:az "}"=S [125]:=by decide+kernel
 obtain⟨c,r,ec,hc,f1,f2⟩:=t.first ht;have at':L2.atI L (pre.length:Int)=aA c:=by rw[e,ec];exact FF pre c _
 have hin:=sj c hc;have eX:az "[]"="[]":=rfl;unfold Gen.C3 Gen.Ia;cases t with
 |op=>
  injection ec with ec _;subst ec;have hin:Fm ⟨#[91]⟩ "[]"=aC:=hin;have e2:(((pre.length+Tk.op.l.length:Nat)):Int)=(pre.length:Int)+1:=by show((pre.length+1:Nat):Int)=_;omega
  rw[e2];simp[-Fm,Z1,Yh,z,at',hin]
 |cl=>
  injection ec with ec _;subst ec;have hin:Fm ⟨#[93]⟩ "[]"=aC:=hin;have e2:(((pre.length+Tk.cl.l.length:Nat)):Int)=(pre.length:Int)+1:=by show((pre.length+1:Nat):Int)=_;omega
  rw[e2];simp[-Fm,Z1,Yh,z,at',hin]
 |br l=>
  injection ec with ec _;subst ec;have hin:Fm ⟨#[123]⟩ "[]"=aD:=hin;have hf:=om pre (123::l) rest 125 (by
   intro h;rcases ba.mp h with h|h
   .exact bN h (by decide)
   .exact ht.1 h)
  have el:pre++(123::l++125::rest)=L:=by rw[e];show _=pre++(123::(l++[125])++rest);simp
  rw[el]at hf;have e2:(((pre.length+(Tk.br l).l.length:Nat)):Int)=((pre.length+(123::l).length:Nat):Int)+1:=by unfold Tk.l;simp;omega
  rw[e2];have gt:¬((pre.length+(123::l).length:Nat):Int)+1<=(pre.length:Int):=by omega
  generalize ((pre.length+(123::l).length:Nat):Int)=P at*;simp[-Fm,Z1,Yh,z,at',hin,ob,cb,hf,gt]
 |sg l=>
  have s:=my hL e ht.2.2 (hr rfl) ht.2.1;have hs:Tf c=aC:=f2 rfl;have v3:(c==91||c==93)=aD:=by
   have h1:c≠91:=λz=>by rw[z,G4.1]at hs;cases hs
   have h2:c≠93:=λz=>by rw[z,G4.2.1]at hs;cases hs
   simp[h1,h2]
  rw[v3]at hin;have n123:¬(⟨#[c]⟩:Str)=S [123]:=λz=>by have:=Bz (a:=[c]) z;injection this with this _;rw[this,G4.2.2]at hs;cases hs
  have YZ:1<=l.length:=List.length_pos_iff.mpr ht.1;have gt:¬((pre.length+(Tk.sg l).l.length:Nat):Int)<=(pre.length:Int):=by show¬((pre.length+l.length:Nat):Int)<=_;omega
  have s:Gen.Jy [.str (S L),.int (pre.length:Int)]=aA (.fz (.int ((pre.length+(Tk.sg l).l.length:Nat):Int))):=s;generalize ((pre.length+(Tk.sg l).l.length:Nat):Int)=P at*;simp[-Fm,Z1,Yh,z,at',hin,ob,n123,s,gt]
theorem iD{t:Tk}(h:Gd t.isSg ts)(ht:t.isSg=aC):Yl ts=[]\/∃c r,Yl ts=c::r/\c<128/\Tf c=aD:=by
 cases ts with
 |nil=>exact .inl rfl
 |cons u us=>
  obtain⟨h1,h2,_⟩:=h;have hu:u.isSg=aD:=by
   cases hz:u.isSg with
   |false=>rfl
   |true=>exact bN ⟨ht,hz⟩ h2
  obtain⟨c,r,ec,hc,f1,_⟩:=u.first h1;exact .inr ⟨c,r++Yl us,by rw[Mu,ec];rfl,hc,f1 hu⟩
theorem Sb(hL:L.length<=100000):∀ts p pre cs x n,L=pre++Yl ts->Gd p ts->ts.length<n->cs.length+ts.length<=1000->
  ∃x',Ju Gen.B0 Gen.R6 n [aA (.fz (.str (S L))),aA (.ol cs),aA (.fz (.int (pre.length:Int))),x]=aA (.nx [aA (.fz (.str (S L))),aA (.ol (cs++ts.map λt=>D.str (S t.l))),aA (.fz (.int (L.length:Int))),x'])
 |_,_,_,_,_,0,_,_,h,_=>by omega
 | [],p,pre,cs,x,n+1,e,_,_,_=>by
  have z:L.length<=PySem.sizeLine:=Zn (by omega);have e':L=pre:=by rw[e];unfold Yl;simp
  refine⟨x,?_⟩;rw[List.map_nil,de,<-e'];refine Tz ?_;unfold Gen.B0;simp[Z1,z]
 |t::ts,p,pre,cs,x,n+1,e,g,hn,hc=>by
  have z:L.length<=PySem.sizeLine:=Zn (by omega);obtain⟨g1,g2,g3⟩:=g;obtain⟨c,r,ec,_,_,_⟩:=t.first g1;have e0:L=pre++(t.l++Yl ts):=e;have ce:=re (L:=L) (pre:=pre) (rest:=Yl ts) t hL e0 g1 (λhz=>iD g3 hz);have sm:=Sa pre t.l (Yl ts);rw[<-e0]at sm;rw[bc]at hn hc;obtain⟨x',ih⟩:=Sb hL ts t.isSg (pre++t.l) (cs++[.str (S t.l)]) (aA (.fz (.int ((pre.length+t.l.length:Nat):Int)))) n (by rw[e0,cg]) g3 (by omega) (by rw[ao,b4];omega);refine⟨x',?_⟩;have lt:(pre.length:Int)<(L.length:Int):=by rw[e0,ec];simp;omega
  have zc:cs.length<PySem.sizeLine:=Y2 (by omega);have el:((pre++t.l).length:Int)=((pre.length+t.l.length:Nat):Int):=by rw[ao]
  rw[el]at ih;have em:cs++(t::ts).map (λt=>D.str (S t.l))=cs++[.str (S t.l)]++ts.map (λt=>D.str (S t.l)):=by simp
  rw[em];refine(E6 (δ1:=[aA (.fz (.str (S L))),aA (.ol cs),aA (.fz (.int (pre.length:Int))),x]) (δ2:=[aA (.fz (.str (S L))),aA (.ol (cs++[.str (S t.l)])),aA (.fz (.int ((pre.length+t.l.length:Nat):Int))),aA (.fz (.int ((pre.length+t.l.length:Nat):Int)))]) ?_ ?_).trans ih
  .unfold Gen.B0;simp[Z1,z,lt]
  .generalize ((pre.length+t.l.length:Nat):Int)=P at*;unfold Gen.R6;simp[Z1,z,ce,sm,zc]
theorem rZ(ts)(g:Gd aD ts)(hL:(Yl ts).length<=100000)(hn:ts.length<=900):Gen.O5 [.str (S (Yl ts))]=aA (.ol (ts.map λt=>D.str (S t.l))):=by obtain⟨x',w⟩:=Sb hL ts aD [] [] aB 1000 rfl g (by omega) (by simp;omega);rw[cz]at w;have e0:(([]:List Nat).length:Int)=0:=rfl;rw[e0]at w;unfold Gen.O5 Gen.Ib;simp[w]
noncomputable abbrev SGS:Str:="signs"
noncomputable abbrev FLD:Str:="field"
noncomputable abbrev HDS:Str:="hands"
noncomputable abbrev GRP:Str:="group"
theorem OY:az "signs"=SGS:=rfl
theorem Lp:az "field"=FLD:=rfl
theorem OX:az "hands"=HDS:=rfl
theorem HY:az "group"=GRP:=rfl
theorem IZ:az "{"=S [123]:=by decide+kernel
theorem MF:az " "=S [32]:=by decide+kernel
theorem gF:az "|"=S [124]:=by decide+kernel
theorem IY:az "["=S [91]:=by decide+kernel
theorem IX:az "]"=S [93]:=by decide+kernel
def Fb(l:List Nat):D:=.tup [.str SGS,.str (S l)]
def Nv(ns:List Str):D:=.tup [.str FLD,.tup (ns.map D.str)]
def Sd(n:List Nat)(a b:Nat):D:=.tup [.str HDS,.str (S n),.int (a:Int),.int (b:Int)]
def Ix(ds:List D):D:=.tup [.str GRP,.tup ds]
def hdL(n:List Nat)(a b:Nat):List Nat:=jl [32] [n,[48+a],[48+b]]
theorem z2:2<=PySem.sizeLine:=Zn (by decide)
theorem z4:4<=PySem.sizeLine:=Zn (by decide)
theorem g7(h:Tf c=aC):¬(⟨#[c]⟩:Str)=S [123]:=λz=>by have:=Bz (a:=[c]) z;injection this with this _;rw[this,G4.2.2]at h;cases h
theorem rY(h:(Tk.sg l).ok):Gen.Wh [.str (S l)]=aA (.fz (Fb l)):=by
 obtain⟨c,r,ec,_,_,f2⟩:=(Tk.sg l).first h;have ec:l=c::r:=ec;have n123:=g7 (f2 rfl);have z:l.length<=PySem.sizeLine:=Zn (by have:=h.2.1;omega);have at':L2.atI l 0=aA c:=by rw[ec];exact Ce (c::r) 0 c rfl
 unfold Gen.Wh Gen.Uk Fb;simp[Z1,Yh,z,z2,at',IZ,n123]
theorem Lq(a b c):∀(ns:List Str) x,(∀n∈ns,∃l,n=S l/\Ng l)->∃x',Yr (Zl 3) Gen.Uj (ns.map D.str) [a,b,c,x]=aA (.nx [a,b,c,x'])
 | [],x,_=>⟨x,rfl⟩
 |n::ns,x,h=>by
  obtain⟨l,e,hl⟩:=h n aa;have hb:Gen.Uj [a,b,c,aA (.fz (.str n))]=aA (.nx [a,b,c,aA (.fz (.str n))]):=by have:=P9 hl;rw[<-e]at this;unfold Gen.Uj;simp[this]
  obtain⟨x',e⟩:=Lq a b c ns (aA (.fz (.str n))) λm hm=>h m (ad _ hm);exact⟨x',(Ys (by simp) hb).trans e⟩
theorem Xl:∀ps,c∈jl y ps->c∈y\/∃p∈ps,c∈p
 | [],h=>nomatch h
 | [p],h=>.inr ⟨p,aa,h⟩
 |p::q::r,h=>by
  have h:c∈p++y++jl y (q::r):=h;rcases bo.mp h with h|h
  .rcases bo.mp h with h|h
   .exact .inr ⟨p,aa,h⟩
   .exact .inl h
  .rcases Xl (q::r) h with h|⟨p',h1,h2⟩
   .exact .inl h
   .exact .inr ⟨p',ad _ h1,h2⟩
theorem Lr:∀ps,(∀p∈ps,p.length<=B)->(jl y ps).length<=ps.length*(B+y.length)
 | [],_=>cr _
 | [p],h=>by have:=h p aa;show p.length<=_;simp;omega
 |p::q::r,h=>by
  have h1:=h p aa;have h2:=Lr (y:=y) (B:=B) (q::r) λx hx=>h x (ad _ hx);show(p++y++jl y (q::r)).length<=_;rw[ao,ao];have e:(p::q::r).length*(B+y.length)=(q::r).length*(B+y.length)+(B+y.length):=by rw[bc,Nat.succ_mul]
  omega
theorem g6(hn:∀n∈ns,Ng n)(c)(h1:c<97\/122<c)(h2:c≠124):c∉jl [124] ns:=λh=>by
 rcases Xl ns h with h|⟨p,hp,h⟩
 .exact h2 (af.mp h)
 .exact(hn p hp).no c h1 h
theorem rX(hl:ns.length<=4)(hn:∀n∈ns,Ng n):(jl [124] ns).length<=36:=by have:=Lr (y:=[124]) (B:=8) ns λp hp=>(hn p hp).2.1;have e:ns.length*(8+[124].length)<=4*9:=Nat.mul_le_mul hl (bg _);omega
theorem y_(l):L2.atI (Tk.br l).l 0=aA 123:=Ce (123::(l++[125])) 0 123 rfl
theorem rW(h0:ns≠[])(hl:ns.length<=4)(hn:∀n∈ns,Ng n):Gen.Wh [.str (S (Tk.br (jl [124] ns)).l)]=aA (.fz (Nv (ns.map S))):=by
 have n32:=g6 hn 32 (.inl (by decide)) (by decide);have K_:∀p∈ns,124∉p:=λp hp=>(hn p hp).no 124 (.inr (by decide));have zl:=rX hl hn;have LW:Txt.split (S (jl [124] ns)) (S [32])=[S (jl [124] ns)]:=Lh (Ft 32) (by decide+kernel) [S (jl [124] ns)] (by simp) (λp hp=>by rw[af.mp hp,Yh];exact n32);have vh:Txt.split (S (jl [124] ns)) (S [124])=ns.map S:=Bc _ _ (by decide) (by decide+kernel) ns (Bd ns h0 K_) (Yh _);have si:Txt.slice (S (Tk.br (jl [124] ns)).l) (aA 1) (aA (-1))=S (jl [124] ns):=wV 123 125 _;have at':=y_ (jl [124] ns);have zt:(Tk.br (jl [124] ns)).l.length<=PySem.sizeLine:=Zn (by show(123::(jl [124] ns++[125])).length<=_;simp;omega);have LR:(jl [124] ns).length<=PySem.sizeLine:=Zn (by omega);have hN:∀n∈ns.map S,∃l,n=S l/\Ng l:=λn h=>by obtain⟨l,hl,e⟩:=bd.mp h;exact⟨l,e.symm,hn l hl⟩
 have hL:(ns.map S).length<=4:=by rw[ay];exact hl
 generalize (Tk.br (jl [124] ns)).l=T at*;generalize jl [124] ns=l,ns.map S=N at*;have zn:N.length<=PySem.sizeLine:=Zn (by omega);have g4:¬(4:Int)<(N.length:Int):=by omega
 obtain⟨x',lp⟩:=Lq (aA (.fz (.str (S T)))) (aA (.ol [.str (S l)])) (aA (.fz (.tup (N.map D.str)))) N aB hN;have z1:1<=PySem.sizeLine:=Zn (by decide);have J':¬(S [32]).length=0:=by decide+kernel
 have IA:¬(S [124]).length=0:=by decide+kernel
 have RI:(⟨#[123]⟩:Str)=S [123]:=rfl;unfold Gen.Wh Gen.Uk Nv;simp[-Yr,Z1,Yh,zt,LR,at',IZ,MF,gF,RI,si,LW,vh,z1,z2,zn,J',IA,g4,lp]
theorem yz:∀a<10,PySem.intText? (S [48+a])=aA (a:Int):=by decide+kernel
theorem gE:∀a<10,1<=a->dg9 (48+a)=aC:=by decide
theorem gD:∀a<3,dg3 (48+a)=aC:=by decide
theorem jB(hn:Ng n)(h1:1<=a)(h2:a<=9)(h3:b<=2):Gen.W3 [.lst [.str (S n),.str (S [48+a]),.str (S [48+b])]]=aA (.fz (Sd n a b)):=by
 have c:=P9 hn;have t1:=Ih "123456789" dg9 [48+a] 1 se (λc hc=>by rw[af.mp hc];omega) (by simp);have t2:=Ih "012" dg3 [48+b] 1 rf (λc hc=>by rw[af.mp hc];omega) (by simp);have e1:(decide (1<=[48+a].length/\[48+a].length<=1)&&[48+a].all dg9)=aC:=by simp[gE a (by omega) h1]
 have e2:(decide (1<=[48+b].length/\[48+b].length<=1)&&[48+b].all dg3)=aC:=by simp[gD b (by omega)]
 rw[e1]at t1;rw[e2]at t2;have i1:((1:Nat):Int)=1:=rfl;rw[i1]at t1 t2;have g1:Ax [.str (S [48+a])]=aA (.fz (.int (a:Int))):=by unfold Ax;dsimp only;rw[bJ (by rw[Z1];show 1<=640;decide),yz a (by omega)];rfl
 have g2:Ax [.str (S [48+b])]=aA (.fz (.int (b:Int))):=by unfold Ax;dsimp only;rw[bJ (by rw[Z1];show 1<=640;decide),yz b (by omega)];rfl
 have a0:∀x y z:D,L2.atI [x,y,z] 0=aA x:=λ_ _ _=>rfl;have a1:∀x y z:D,L2.atI [x,y,z] 1=aA y:=λ_ _ _=>rfl;have a2:∀x y z:D,L2.atI [x,y,z] 2=aA z:=λ_ _ _=>rfl;generalize S [48+a]=SA,S [48+b]=SB at*;unfold Gen.W3 Gen.Jw Sd;simp[a0,a1,a2,c,t1,t2,g1,g2,z4]
theorem g5(hn:Ng n)(ha:a<=9)(hb:b<=2)(c)(h1:122<c):c∉hdL n a b:=λh=>by
 unfold hdL at h;rcases Xl _ h with h|⟨p,hp,h'⟩
 .have:=af.mp h;omega
 .rcases ba.mp hp with z|hp
  .rw[z]at h';exact hn.no c (.inr h1) h'
  .rcases ba.mp hp with z|hp
   .rw[z]at h';have:=af.mp h';omega
   .rw[af.mp hp]at h';have:=af.mp h';omega
theorem zb(hn:Ng n):(hdL n a b).length<=12:=by have:=hn.2.1;show(n++[32]++([48+a]++[32]++[48+b])).length<=_;simp;omega
theorem rV(hn:Ng n)(h1:1<=a)(h2:a<=9)(h3:b<=2):Gen.Wh [.str (S (Tk.br (hdL n a b)).l)]=aA (.fz (Sd n a b)):=by
 have zl:=zb (a:=a) (b:=b) hn;have LW:Txt.split (S (hdL n a b)) (S [32])=[S n,S [48+a],S [48+b]]:=Bc _ _ (by decide) (by decide+kernel) [n,[48+a],[48+b]] (Bd _ (by simp) (λp hp=>by
  rcases ba.mp hp with z|hp
  .subst z;exact hn.no 32 (.inl (by decide))
  .rcases ba.mp hp with z|hp
   .subst z;simp;omega
   .have z:=af.mp hp;subst z;simp;omega)) (Yh _)
 have si:Txt.slice (S (Tk.br (hdL n a b)).l) (aA 1) (aA (-1))=S (hdL n a b):=wV 123 125 _;have at':=y_ (hdL n a b);have zt:(Tk.br (hdL n a b)).l.length<=PySem.sizeLine:=Zn (by show(123::(hdL n a b++[125])).length<=_;simp;omega);have LR:(hdL n a b).length<=PySem.sizeLine:=Zn (by omega);have rh:=jB hn h1 h2 h3;have z3:3<=PySem.sizeLine:=Zn (by decide);have J':¬(S [32]).length=0:=by decide+kernel
 have RI:(⟨#[123]⟩:Str)=S [123]:=rfl;generalize (Tk.br (hdL n a b)).l=T at*;generalize hdL n a b=l,S [48+a]=SA,S [48+b]=SB at*;unfold Gen.Wh Gen.Uk;simp[Z1,Yh,zt,LR,at',IZ,MF,RI,si,LW,z3,J',rh]
theorem sS(a xss)(h:xss.length<=3):Gen.Qu a xss=aA (xss++[[]]):=by
 have g:¬(3:Int)<(xss.length:Int):=by omega
 have z:xss.length<PySem.sizeLine:=Y2 (by omega);have l1:=K9 (i:=0) (δ:=[aA (.oL (aA a) xss)]) (p:=aA a) (xss:=xss) rfl;have l2:=lK (i:=0) (δ:=[aA (.oL (aA a) xss)]) (p:=aA a) (xss:=xss) rfl z;have l2:K8 0 [aA (.oL (aA a) xss)]=aA (.nx [aA (.oL (aA a) (xss++[[]]))]):=l2;unfold Gen.Qu Gen.Cg;simp[l1,l2,g]
theorem gC(a ZK ys xs)(hx:xs≠[])(hz:xs.length<=1000)(hy:ys.length<=1000)(hl:ZK.length<=1000):Gen.Jz a (ZK++[ys]++[xs])=aA (ZK++[ys++[Ix xs]]):=by
 have l1:=K9 (i:=0) (δ:=[aA (.oL (aA a) (ZK++[ys]++[xs])),aB]) (p:=aA a) (xss:=ZK++[ys]++[xs]) rfl;have l2:La 1 0 [aA (.oL (aA a) (ZK++[ys]++[xs])),aB]=aA (.nx [aA (.oL (aA a) (ZK++[ys])),aA (.ol xs)]):=lH (i:=0) (j:=1) (δ:=[aA (.oL (aA a) (ZK++[ys]++[xs])),aB]) rfl (by decide) (by show 1<2;decide);have zx:xs.length<=PySem.sizeLine:=Zn (by omega);have l3:Ug 0 (tupF (Zm (Zc (.str "group")) (Zm (Yy Tr (Zd (Za 1) Zi)) (Zt)))) [aA (.oL (aA a) (ZK++[ys])),aA (.ol xs)]=aA (.nx [aA (.oL (aA a) (ZK++[ys++[Ix xs]])),aA (.ol xs)]):=
  Ir (i:=0) (δ:=[aA (.oL (aA a) (ZK++[ys])),aA (.ol xs)]) (δ1:=[aA (.oL (aA a) (ZK++[ys])),aA (.ol xs)]) (δ2:=[aA (.oL (aA a) (ZK++[ys])),aA (.ol xs)]) (rv:=.tmp (.fz (Ix xs))) (d:=Ix xs) rfl (by simp) (by simp[z2,Ix,HY]) rfl rfl (Y2 (by omega))
 have g1:¬((ZK++[ys]++[xs]).length:Int)=1:=by simp;omega
 have g2:¬(xs.length:Int)=0:=by have:=List.length_pos_iff.mpr hx;omega
 generalize ZK++[ys]++[xs]=W at*;unfold Gen.Jz Gen.R7;simp[l1,l2,l3,g1,g2,hx]
def Qc(t:Tk):D:=.str (S t.l)
section
variable(A B:Option SV)
theorem sR(xss)(h:xss.length<=3):Gen.Z2 [A,B,aA (.oL aB xss),aA (.fz (Qc .op))]=aA (.nx [A,B,aA (.oL aB (xss++[[]])),aA (.fz (Qc .op))]):=by have m:Nr 2 Gen.Qu [A,B,aA (.oL aB xss),aA (.fz (Qc .op))]=aA (.nx [A,B,aA (.oL aB (xss++[[]])),aA (.fz (Qc .op))]):=xL rfl λa=>sS a xss h;unfold Qc Tk.l at*;unfold Gen.Z2;simp[IY,m]
theorem sQ(ZK ys xs)(hx:xs≠[])(hz:xs.length<=1000)(hy:ys.length<=1000)(hl:ZK.length<=1000):Gen.Z2 [A,B,aA (.oL aB (ZK++[ys]++[xs])),aA (.fz (Qc .cl))]=aA (.nx [A,B,aA (.oL aB (ZK++[ys++[Ix xs]])),aA (.fz (Qc .cl))]):=by
 have m:Nr 2 Gen.Jz [A,B,aA (.oL aB (ZK++[ys]++[xs])),aA (.fz (Qc .cl))]=aA (.nx [A,B,aA (.oL aB (ZK++[ys++[Ix xs]])),aA (.fz (Qc .cl))]):=xL rfl λa=>gC a ZK ys xs hx hz hy hl;have n:¬S [93]=S [91]:=by decide+kernel
 generalize ZK++[ys]++[xs]=W at*;unfold Qc Tk.l at*;unfold Gen.Z2;simp[IY,IX,n,m]
theorem F_(t d ZK xs)(n1:¬S t.l=S [91])(n2:¬S t.l=S [93])(hr:Gen.Wh [Qc t]=aA (.fz d))(hz:xs.length<=1000):Gen.Z2 [A,B,aA (.oL aB (ZK++[xs])),aA (.fz (Qc t))]=aA (.nx [A,B,aA (.oL aB (ZK++[xs++[d]])),aA (.fz (Qc t))]):=by
 have zz:(SV.fz d).scal=aC\/(SV.fz d).scal=aD:=by cases(SV.fz d).scal<;> simp
 have l:Ug 2 (Z5 1 Gen.Wh (Zd (Za 3) (Zi))) [A,B,aA (.oL aB (ZK++[xs])),aA (.fz (Qc t))]=aA (.nx [A,B,aA (.oL aB (ZK++[xs++[d]])),aA (.fz (Qc t))]):=
  Ir (i:=2) (δ:=[A,B,aA (.oL aB (ZK++[xs])),aA (.fz (Qc t))]) (δ1:=[A,B,aA (.oL aB (ZK++[xs])),aA (.fz (Qc t))]) (δ2:=[A,B,aA (.oL aB (ZK++[xs])),aA (.fz (Qc t))]) (rv:=.tmp (.fz d)) (d:=d) rfl (by simp) (by simp[hr];exact ite_self _) rfl rfl (Y2 (by omega))
 generalize ZK++[xs]=W at*;unfold Qc at*;unfold Gen.Z2;simp[IY,IX,n1,n2,l]
end
def Cm:Nat->D->List Tk->Prop
 |0,_,_=>False
 |n+1,d,ts=>(∃l,(Tk.sg l).ok/\d=Fb l/\ts=[.sg l])
  \/(∃ns:List (List Nat),ns≠[]/\ns.length<=4/\(∀m∈ns,Ng m)/\d=Nv (ns.map S)/\ts=[.br (jl [124] ns)])
  \/(∃nm a b,Ng nm/\1<=a/\a<=9/\b<=2/\d=Sd nm a b/\ts=[.br (hdL nm a b)])
  \/∃qs:List (D×List Tk),qs≠[]/\qs.length<=100/\(∀q∈qs,Cm n q.1 q.2)/\d=Ix (qs.map (·.1))/\ts= .op::(qs.flatMap (·.2)++[.cl])
theorem Cm.mono:∀{n:Nat} {d:D} {ts:List Tk},Cm n d ts->Cm (n+1) d ts
 |0,_,_,h=>h.elim
 |n+1,d,ts,h=>by
  rcases h with h|h|h|⟨qs,h1,h2,h3,h4⟩
  .exact .inl h
  .exact .inr (.inl h)
  .exact .inr (.inr (.inl h))
  .exact .inr (.inr (.inr ⟨qs,h1,h2,λq hq=>(h3 q hq).mono,h4⟩))
theorem OW(l):¬S (Tk.br l).l=S [91]/\¬S (Tk.br l).l=S [93]:=by
 constructor
 .intro z;have:=Bz z;injection this with this _;exact bN this (by decide)
 .intro z;have:=Bz z;injection this with this _;exact bN this (by decide)
theorem HW(h:(Tk.sg l).ok):¬S (Tk.sg l).l=S [91]/\¬S (Tk.sg l).l=S [93]:=by
 obtain⟨c,r,ec,_,_,f2⟩:=(Tk.sg l).first h;have hs:=f2 rfl;rw[ec];constructor
 .intro z;have:=Bz z;injection this with this _;rw[this,G4.1]at hs;cases hs
 .intro z;have:=Bz z;injection this with this _;rw[this,G4.2.1]at hs;cases hs
theorem Xm(A B)(run:∀d ts,Cm n d ts->∀ZK xs x rest,ZK.length+n<=4->xs.length<=900->∃x',Yr (Zl 3) Gen.Z2 (ts.map Qc++rest) [A,B,aA (.oL aB (ZK++[xs])),x]=Yr (Zl 3) Gen.Z2 rest [A,B,aA (.oL aB (ZK++[xs++[d]])),x']):
  ∀(qs:List (D×List Tk)) ZK xs x rest,(∀q∈qs,Cm n q.1 q.2)->ZK.length+n<=4->xs.length+qs.length<=900->∃x',Yr (Zl 3) Gen.Z2 ((qs.flatMap (·.2)).map Qc++rest) [A,B,aA (.oL aB (ZK++[xs])),x]=Yr (Zl 3) Gen.Z2 rest [A,B,aA (.oL aB (ZK++[xs++qs.map (·.1)])),x']
 | [],ZK,xs,x,rest,_,_,_=>⟨x,by simp⟩
 |q::qs,ZK,xs,x,rest,h,hn,hl=>by
  rw[bc]at hl;obtain⟨x1,e1⟩:=run q.1 q.2 (h q aa) ZK xs x ((qs.flatMap (·.2)).map Qc++rest) hn (by omega);obtain⟨x2,e2⟩:=Xm A B run qs ZK (xs++[q.1]) x1 rest (λp hp=>h p (ad _ hp)) hn (by rw[ao,b4];omega);refine⟨x2,?_⟩;have ea:((q::qs).flatMap (·.2)).map Qc++rest=q.2.map Qc++((qs.flatMap (·.2)).map Qc++rest):=by simp
  have eb:xs++(q::qs).map (·.1)=xs++[q.1]++qs.map (·.1):=by simp
  rw[ea,eb,e1,e2]
theorem run(A B):∀n d ts,Cm n d ts->∀ZK xs x rest,ZK.length+n<=4->xs.length<=900->∃x',Yr (Zl 3) Gen.Z2 (ts.map Qc++rest) [A,B,aA (.oL aB (ZK++[xs])),x]=Yr (Zl 3) Gen.Z2 rest [A,B,aA (.oL aB (ZK++[xs++[d]])),x']
 |0,_,_,h=>h.elim
 |n+1,d,ts,h=>by
  intro ZK xs x rest hn hx;rcases h with⟨l,h1,rfl,rfl⟩|⟨ns,h0,h1,h2,rfl,rfl⟩|⟨nm,a,b,h1,h2,h3,h4,rfl,rfl⟩|⟨qs,h0,h1,h2,rfl,rfl⟩
  .exact⟨_,Ys (by simp) (F_ A B (.sg l) (Fb l) ZK xs (HW h1).1 (HW h1).2 (rY h1) (by omega))⟩
  .exact⟨_,Ys (by simp) (F_ A B (.br (jl [124] ns)) (Nv (ns.map S)) ZK xs (OW _).1 (OW _).2 (rW h0 h1 h2) (by omega))⟩
  .exact⟨_,Ys (by simp) (F_ A B (.br (hdL nm a b)) (Sd nm a b) ZK xs (OW _).1 (OW _).2 (rV h1 h2 h3 h4) (by omega))⟩
  .obtain⟨x1,e1⟩:=Xm A B (run A B n) qs (ZK++[xs]) [] (aA (.fz (Qc .op))) (Qc .cl::rest) h2 (by rw[ao,b4];omega) (by simp;omega);have hq:qs.map (·.1)≠[]:=by simpa using h0
   have n1:1<=n:=by
    cases n with
    |succ k=>omega
    |zero=>
     cases qs with
     |nil=>exact bN rfl h0
     |cons q r=>exact(h2 q aa).elim
   have uH:(qs.map (·.1)).length<=1000:=by rw[ay];omega
   refine⟨aA (.fz (Qc .cl)),?_⟩;have ea:(Tk.op::(qs.flatMap (·.2)++[.cl])).map Qc++rest=Qc .op::((qs.flatMap (·.2)).map Qc++(Qc .cl::rest)):=by simp
   rw[ea];refine(Ys (δ1:=[A,B,aA (.oL aB (ZK++[xs])),aA (.fz (Qc .op))]) (by simp) (sR A B (ZK++[xs]) (by rw[ao,b4];omega))).trans ?_;rw[cz]at e1;refine e1.trans ?_;have st:=sQ A B ZK xs (qs.map (·.1)) hq uH (by omega) (by omega);generalize qs.map (·.1)=DS at*;exact Ys (d:=Qc .cl) (ds:=rest) (δ:=[A,B,aA (.oL aB (ZK++[xs]++[DS])),x1]) (δ1:=[A,B,aA (.oL aB (ZK++[xs]++[DS])),aA (.fz (Qc .cl))]) (by simp) st
noncomputable def Tk.isCl:Tk->Bool
 | .cl=>aC
 |_=>aD
theorem wU:∀ts:List Tk,(∀t∈ts,t.ok)->((ts.map Qc).countP λy=>V6 y (.str (S [93])))=ts.countP Tk.isCl
 | [],_=>rfl
 |t::ts,h=>by
  have ih:=wU ts λu hu=>h u (ad _ hu);have ht:=h t aa;rw[bn,List.countP_cons,List.countP_cons,ih];congr 1;unfold Qc;rw[K7];cases t with
  |op=>rw[bK (OM (by decide))];rfl
  |cl=>rw[bL (show S Tk.cl.l=S [93]from rfl)];rfl
  |br l=>rw[bK (OW l).2];rfl
  |sg l=>rw[bK (HW ht).2];rfl
theorem Gd.ok:∀{p:Bool} {ts:List Tk},Gd p ts->∀t∈ts,t.ok
 |_,[],_,_,h=>nomatch h
 |_,t::ts,g,u,h=>by
  rcases ba.mp h with z|z
  .subst z;exact g.1
  .exact g.2.2.ok u z
theorem mw(ts:List Tk):(ts.map Qc).all D.isFlat=aC:=by rw[List.all_map];exact b9.mpr λt _=>rfl
theorem g0{qs:List (D×List Tk)}(h:∀q∈qs,Cm 4 q.1 q.2)(g:Gd aD (qs.flatMap (·.2)))(hL:(Yl (qs.flatMap (·.2))).length<=100000)(hq:qs.length<=100)(ht:(qs.flatMap (·.2)).length<=900)(hc:(qs.flatMap (·.2)).length<=30+(qs.flatMap (·.2)).countP Tk.isCl):
  Gen.W5 [.str (S (Yl (qs.flatMap (·.2))))]=aA (.fz (.tup (qs.map (·.1)))):=by
 have cc:=wU (qs.flatMap (·.2)) g.ok;have fl:=mw (qs.flatMap (·.2));obtain⟨x',r⟩:=Xm (aA (.fz (.str (S (Yl (qs.flatMap (·.2))))))) (aA (.fz (.lst ((qs.flatMap (·.2)).map Qc)))) (run _ _ 4) qs [] [] aB [] h (by simp) (by simp;omega);rw[de,cz,cz]at r;have c0:=rZ (qs.flatMap (·.2)) g hL ht;have c:Gen.O5 [.str (S (Yl (qs.flatMap (·.2))))]=aA (.ol ((qs.flatMap (·.2)).map Qc)):=c0;clear c0;have hlen:((qs.flatMap (·.2)).map Qc).length=(qs.flatMap (·.2)).length:=by rw[ay]
 generalize (qs.flatMap (·.2)).map Qc=C,Yl (qs.flatMap (·.2))=T at*;generalize (qs.flatMap (·.2))=ts at*;have le:=List.countP_le_length (p:=Tk.isCl) (l:=ts);have uo:¬(30:Int)<(C.length:Int)- (ts.countP Tk.isCl:Int):=by omega
 have r:Yr (Zl 3) Gen.Z2 C [aA (.fz (.str (S T))),aA (.fz (.lst C)),aA (.oL aB [[]]),aB]=aA (.nx [aA (.fz (.str (S T))),aA (.fz (.lst C)),aA (.oL aB [qs.map (·.1)]),x']):=r;have l1:=K9 (i:=2) (δ:=[aA (.fz (.str (S T))),aA (.fz (.lst C)),aA (.oL aB [qs.map (·.1)]),x']) (p:=aB) (xss:=[qs.map (·.1)]) rfl;have l2:=D6 (i:=2) (δ:=[aA (.fz (.str (S T))),aA (.fz (.lst C)),aA (.oL aB [qs.map (·.1)]),x']) (p:=aB) (xss:=[]) (xs:=qs.map (·.1)) rfl;generalize qs.map (·.1)=DS at*;have k:M3 "list" Cc (Za 1) (Zd (Zc (.str "]")) Zi) [aA (.fz (.str (S T))),aA (.ol C),aB,aB]=aA (.tmp (.fz (.int (ts.countP Tk.isCl:Nat))),[aA (.fz (.str (S T))),aA (.ol C),aB,aB]):=by
  have e:Cc [.lst C,.str "]"]=aA (.fz (.int (ts.countP Tk.isCl:Nat))):=by show(if _ then _ else _)=_;rw[bJ ⟨rfl,fl⟩,<-cc,<-IX]
  simp[-Cc,e]
 have tt:Zq (Zg gtD (Zg RQ (Yy Cb (Zd (Za 1) Zi)) (M3 "list" Cc (Za 1) (Zd (Zc (.str "]")) Zi))) (Zc (.int 30))) [aA (.fz (.str (S T))),aA (.ol C),aB,aB]=aA (aD,[aA (.fz (.str (S T))),aA (.ol C),aB,aB]):=by generalize M3 "list" Cc (Za 1) (Zd (Zc (.str "]")) Zi)=KF at*;generalize hP:(C.length:Int)- (ts.countP Tk.isCl:Nat)=P at*;simp[k,hP,uo]
 unfold Gen.W5 Gen.Oo;generalize Zq (Zg gtD (Zg RQ (Yy Cb (Zd (Za 1) Zi)) (M3 "list" Cc (Za 1) (Zd (Zc (.str "]")) Zi))) (Zc (.int 30)))=TF at*;simp[-Yr,c,r,l1,l2,tt]
theorem yx(y ns):di (S y) (ns.map S)=S (jl y ns):=by
 have e:=Mq (S y) (ns.map S);rw[b6]at e;have e2:ns.map ((λp=>p.cps.toList)∘S)=ns:=by
  conv=>rhs;rw[<-List.map_id ns]
  refine dl λa _=>?_;show(S a).cps.toList=a;rw[Yh]
 rw[e2,Yh]at e;rw[E7 (di (S y) (ns.map S)),e]
theorem mv{ns:List (List Nat)}(hl:ns.length<=4)(hn:∀n∈ns,Ng n):JoinOk (S [124]) (ns.map S)=aC:=Le (B:=8) (λx hx=>by
 obtain⟨n,h,rfl⟩:=bd.mp hx;rw[Z1];exact(hn n h).2.1) (by
 have:(S [124]).length=1:=by decide+kernel
 rw[this,ay];omega)
theorem Ls(x y:D):L2.atI [x,y] 1=aA y:=rfl
theorem T8(x y:D):L2.atI [x,y] 0=aA x:=rfl
theorem MR(x y z u:D):L2.atI [x,y,z,u] 0=aA x:=rfl
theorem HV(x y z u:D):L2.atI [x,y,z,u] 1=aA y:=rfl
theorem cB(x y z u:D):L2.atI [x,y,z,u] 2=aA z:=rfl
theorem d_(x y z u:D):L2.atI [x,y,z,u] 3=aA u:=rfl
theorem wz:¬SGS=FLD:=by decide+kernel
theorem gA:¬FLD=SGS:=by decide+kernel
theorem h_:¬HDS=SGS:=by decide+kernel
theorem IR:¬HDS=FLD:=by decide+kernel
theorem h7:¬GRP=SGS:=by decide+kernel
theorem IQ:¬GRP=FLD:=by decide+kernel
theorem IP:¬GRP=HDS:=by decide+kernel
noncomputable abbrev Q:=D×List Tk
noncomputable def Y7(qs:List Q):List Tk:=qs.flatMap (·.2)
noncomputable def Es(qs:List Q):List D:=qs.map (·.1)
noncomputable def nc(ts:List Tk):Nat:=ts.countP λt=>!t.isCl
theorem Cn(a b):nc (a++b)=nc a+nc b:=List.countP_append
theorem O1(a b):Y7 (a++b)=Y7 a++Y7 b:=List.flatMap_append
theorem O2(q):Y7 [q]=q.2:=by unfold Y7;simp
noncomputable def C7:Bool->List Tk->Bool
 |p,[]=>p
 |_,t::r=>C7 t.isSg r
theorem Mv:∀p a b,C7 p (a++b)=C7 (C7 p a) b
 |_,[],_=>rfl
 |_,t::a,b=>Mv t.isSg a b
theorem zZ:∀{p:Bool} {a b:List Tk},Gd p a->Gd (C7 p a) b->Gd p (a++b)
 |_,[],_,_,h=>h
 |_,t::a,b,⟨h1,h2,h3⟩,h=>⟨h1,h2,zZ h3 h⟩
theorem Gd.any(h:Gd aC ts)(p):Gd p ts:=by
 cases ts with
 |nil=>trivial
 |cons t r=>exact⟨h.1,λz=>h.2.1 ⟨rfl,z.2⟩,h.2.2⟩
structure Lev(n:Nat)(qs:List Q):Prop where
 pie:∀q∈qs,Cm n q.1 q.2
 gd:Gd aD (Y7 qs)
theorem G5:∀qs,(∀q∈qs,1<=nc q.2/\q.2.countP Tk.isCl<=nc q.2)->qs.length<=nc (Y7 qs)/\(Y7 qs).countP Tk.isCl<=nc (Y7 qs)
 | [],_=>⟨cr _,cr _⟩
 |q::qs,h=>by obtain⟨h1,h2⟩:=h q aa;obtain⟨h3,h4⟩:=G5 qs λp hp=>h p (ad _ hp);have e:Y7 (q::qs)=q.2++Y7 qs:=rfl;rw[e,Cn,List.countP_append,bc];omega
theorem FZ(ts):nc (.op::(ts++[.cl]))=nc ts+1:=by have e:(.op::(ts++[.cl]):List Tk)=[.op]++(ts++[.cl]):=rfl;rw[e,Cn,Cn];show 1+(nc ts+0)=_;omega
theorem sP(ts):(.op::(ts++[.cl]):List Tk).countP Tk.isCl=ts.countP Tk.isCl+1:=by have e:(.op::(ts++[.cl]):List Tk)=[.op]++(ts++[.cl]):=rfl;rw[e,List.countP_append,List.countP_append];show 0+(ts.countP Tk.isCl+1)=_;omega
theorem Mw:∀n d ts,Cm n d ts->1<=nc ts/\ts.countP Tk.isCl<=nc ts
 |0,_,_,h=>h.elim
 |n+1,d,ts,h=>by
  rcases h with⟨l,h1,rfl,rfl⟩|⟨ns,h0,h1,h2,rfl,rfl⟩|⟨nm,a,b,h1,h2,h3,h4,rfl,rfl⟩|⟨qs,h0,h1,h2,rfl,rfl⟩
  .exact⟨bg 1,cr _⟩
  .exact⟨bg 1,cr _⟩
  .exact⟨bg 1,cr _⟩
  .have:=G5 qs λq hq=>Mw n q.1 q.2 (h2 q hq);have e1:=FZ (Y7 qs);have e2:=sP (Y7 qs);show 1<=nc (.op::(Y7 qs++[.cl]))/\(.op::(Y7 qs++[.cl]):List Tk).countP Tk.isCl<=nc (.op::(Y7 qs++[.cl]));omega
structure cP(lv:List (List Q))(m:Nat):Prop where
 lev:∀i qs,lv[i]? =aA qs->Lev (4- i) qs
 one:1<=lv.length
 four:lv.length<=4
 sum:(lv.map λqs=>nc (Y7 qs)).sum+lv.length<=m+1
theorem Lev.add(h:Lev n qs)(hp:Cm n d ts)(hg:Gd (C7 aD (Y7 qs)) ts):Lev n (qs++[(d,ts)]):=by
 refine⟨λq hq=>?_,?_⟩
 .rcases bo.mp hq with z|z
  .exact h.pie q z
  .rw[af.mp z];exact hp
 .rw[O1,O2];exact zZ h.gd hg
theorem Cm.le(h:Cm n d ts):∀{m:Nat},n<=m->Cm m d ts:=by
 intro m hm;obtain⟨k,rfl⟩:∃k,m=n+k:=⟨m- n,by omega⟩
 clear hm;induction k with
 |zero=>exact h
 |succ k ih=>exact ih.mono
theorem BU:∀{p:Bool} {ts:List Tk},Gd p ts->Gd p (ts++[.cl])
 |_,[],_=>⟨trivial,(λh=>nomatch h.2),trivial⟩
 |_,t::ts,⟨h1,h2,h3⟩=>⟨h1,h2,BU h3⟩
def grQ(qs:List Q):Q:=(Ix (Es qs),.op::(Y7 qs++[.cl]))
theorem Xn:∀ts,(∀t∈ts,t.ok)->(Yl ts).length<=102*ts.length
 | [],_=>cr _
 |t::ts,h=>by
  have ih:=Xn ts λu hu=>h u (ad _ hu);have ht:=h t aa;rw[Mu,ao,bc];have:t.l.length<=102:=by
   cases t with
   |op=>decide
   |cl=>decide
   |sg l=>have:=ht.2.1;show l.length<=102;omega
   |br l=>have:=ht.2;show(123::(l++[125])).length<=102;simp;omega
  omega
theorem FY(ts):ts.length=nc ts+ts.countP Tk.isCl:=by
 have:=List.length_eq_countP_add_countP (p:=Tk.isCl) (l:=ts);have e:ts.countP (λa=>decide ¬(Tk.isCl a=aC))=nc ts:=by unfold nc;congr 1;funext t;cases t<;> rfl
 rw[e]at this;omega
structure Tmp(qs:List Q):Prop where
 lev:Lev 4 qs
 few:nc (Y7 qs)<=30
 len:(Yl (Y7 qs)).length<=100000
 most:qs.length<=100
theorem Tmp.read(h:Tmp qs):Gen.W5 [.str (S (Yl (Y7 qs)))]=aA (.fz (.tup (Es qs))):=by have e:=FY (Y7 qs);obtain⟨c1,c2⟩:=G5 qs λq hq=>Mw _ q.1 q.2 (h.lev.pie q hq);have:=h.few;exact g0 (qs:=qs) h.lev.pie h.lev.gd h.len h.most (by show(Y7 qs).length<=_;omega) (by show(Y7 qs).length<=30+(Y7 qs).countP Tk.isCl;omega)
noncomputable abbrev C8:Str:="abcdefghjlmpqrstuvwxyz"
theorem mr:C8.cps.toList.length=22:=by decide+kernel
theorem Se:C8.length<=PySem.sizeLine:=by decide+kernel
noncomputable def LC(j:Nat):Nat:=C8.cps.toList.getD j 0
theorem sO:∀i<22,∀j<22,LC i=LC j->i=j:=by decide+kernel
theorem zY:∀i<22,LC i≠105/\LC i≠110/\LC i≠111:=by decide+kernel
theorem gz(i):L2.atI C8.cps.toList (i % 22)=aA (LC (i % 22).toNat):=by
 have h0:0<=i % 22:=f6 _ (by decide);have h1:i % 22<22:=fg _ (by decide);obtain⟨j,hj⟩:=Int.eq_ofNat_of_zero_le h0;rw[hj];have VP:j<C8.cps.toList.length:=by rw[mr];omega
 refine Ce _ _ _ ?_;unfold LC;rw[List.getD_eq_getElem?_getD,show((j:Int)).toNat=j by omega,dq VP];rfl
def sgn(x:Int)(at':Int)(t:Nat)(k:Nat):Nat:=LC ((x / ((k:Int)+2)+(t:Int)*(if(k:Int)=at' then 1 else 0)) % 22).toNat
def Sf(x at':Int)(size t:Nat):List Nat:=(gh size).map (sgn x at' t)
theorem jA(a1 a3 a5 x at')(t k:Nat)(hk:k<=100)(w)(hw:w.length<=1000)(x9):
  ∃y9,Gen.Qb [aA (.fz (.int x)),a1,aA (.fz (.str C8)),a3,aA (.fz (.int at')),a5,aA (.fz (.int (t:Int))),aA (.fz (.str (S w))),aA (.fz (.int (k:Int))),x9]=aA (.nx [aA (.fz (.int x)),a1,aA (.fz (.str C8)),a3,aA (.fz (.int at')),a5,aA (.fz (.int (t:Int))),aA (.fz (.str (S (w++[sgn x at' t k])))),aA (.fz (.int (k:Int))),y9]):=by
 have go:∀ki ti:Int,0<=ki->ki<=100->∀b:Int,(b=0\/b=1)->(if ki=at' then(1:Int)else 0)=b->∀ch,L2.atI C8.cps.toList ((x / (ki+2)+ti*b) % 22)=aA ch->
   Gen.Qb [aA (.fz (.int x)),a1,aA (.fz (.str C8)),a3,aA (.fz (.int at')),a5,aA (.fz (.int ti)),aA (.fz (.str (S w))),aA (.fz (.int ki)),x9]=aA (.nx [aA (.fz (.int x)),a1,aA (.fz (.str C8)),a3,aA (.fz (.int at')),a5,aA (.fz (.int ti)),aA (.fz (.str (S (w++[ch])))),aA (.fz (.int ki)),aA (.fz (.int (ti*b)))]):=by
  intro ki ti h0 h1 b hb R' ch WH;have hm:=FQ (i:=ti) (j:=b) (by omega);have d1:0<ki+2:=by omega
  have d2:ki+2<1073741824:=by omega
  have z:(S w).length+(⟨#[ch]⟩:Str).length<=PySem.sizeLine:=Zn (by rw[Z1 w];show w.length+1<=_;omega);have ea:S w++(⟨#[ch]⟩:Str)=S (w++[ch]):=Wm w [ch];by_cases hk:ki=at'
  .rw[bJ hk]at R';subst R';unfold Gen.Qb;simp[hk]at hm WH d1 d2⊢;simp[hm,WH,d1,d2,Se,z,ea]
  .rw[bI hk]at R';subst R';unfold Gen.Qb;simp[hk]at hm WH⊢;simp[hm,WH,d1,d2,Se,z,ea]
 refine⟨_,go (k:Int) (t:Int) (by omega) (by omega) (if(k:Int)=at' then 1 else 0) (by split<;> simp) rfl (sgn x at' t k) (gz _)⟩
theorem k_(a1 a3 a5 x at')(t size:Nat)(hs:size<=100)(x8 x9):
  ∃y8 y9,Yr (Zl 8) Gen.Qb (E8 0 size) [aA (.fz (.int x)),a1,aA (.fz (.str C8)),a3,aA (.fz (.int at')),a5,aA (.fz (.int (t:Int))),aA (.fz (.str (S []))),x8,x9]=aA (.nx [aA (.fz (.int x)),a1,aA (.fz (.str C8)),a3,aA (.fz (.int at')),a5,aA (.fz (.int (t:Int))),aA (.fz (.str (S (Sf x at' size t)))),y8,y9]):=by
 obtain⟨δ',e,y8,y9,hy⟩:=E9 (tg:=Zl 8) (body:=Gen.Qb) (P:=λi δ=>∃y8 y9,δ=[aA (.fz (.int x)),a1,aA (.fz (.str C8)),a3,aA (.fz (.int at')),a5,aA (.fz (.int (t:Int))),aA (.fz (.str (S (Sf x at' i t)))),y8,y9]) size 0 [aA (.fz (.int x)),a1,aA (.fz (.str C8)),a3,aA (.fz (.int at')),a5,aA (.fz (.int (t:Int))),aA (.fz (.str (S []))),x8,x9] ⟨x8,x9,rfl⟩ (λi _ hi δ ⟨y8,y9,hy⟩=>by
  subst hy;obtain⟨z9,e⟩:=jA a1 a3 a5 x at' t i (by omega) (Sf x at' i t) (by unfold Sf;simp;omega) y9;refine⟨[aA (.fz (.int x)),a1,aA (.fz (.str C8)),a3,aA (.fz (.int at')),a5,aA (.fz (.int (t:Int))),aA (.fz (.str (S (Sf x at' i t)))),aA (.fz (.int (i:Int))),y9],_,by simp,e,aA (.fz (.int (i:Int))),z9,?_⟩;have:Sf x at' (i+1) t=Sf x at' i t++[sgn x at' t i]:=by unfold Sf;rw[List.range_succ,cm];rfl
  rw[this])
 subst hy;rw[Nat.zero_add]at e;exact⟨y8,y9,e⟩
def Je(x at':Int)(size m:Nat):List Str:=(gh m).map λt=>S (Sf x at' size t)
theorem ig(a1 x at')(size:Nat)(hs:size<=8)(m)(hm:m<=100):
  ∃δ,Yr (Zl 6) Gen.U6 (E8 0 m) [aA (.fz (.int x)),a1,aA (.fz (.str C8)),aA (.fz (.int (size:Int))),aA (.fz (.int at')),aA (.ol []),aB,aB,aB,aB]=aA (.nx δ)/\δ[5]? =aA (aA (.ol ((Je x at' size m).map D.str))):=by
 obtain⟨δ',e,y6,y7,y8,y9,hy⟩:=E9 (tg:=Zl 6) (body:=Gen.U6) (P:=λi δ=>∃y6 y7 y8 y9,δ=[aA (.fz (.int x)),a1,aA (.fz (.str C8)),aA (.fz (.int (size:Int))),aA (.fz (.int at')),aA (.ol ((Je x at' size i).map D.str)),y6,y7,y8,y9]) m 0 [aA (.fz (.int x)),a1,aA (.fz (.str C8)),aA (.fz (.int (size:Int))),aA (.fz (.int at')),aA (.ol []),aB,aB,aB,aB] ⟨aB,aB,aB,aB,rfl⟩ (λi _ hi δ ⟨y6,y7,y8,y9,hy⟩=>by
  subst hy;obtain⟨z8,z9,e⟩:=k_ a1 (aA (.fz (.int (size:Int)))) (aA (.ol ((Je x at' size i).map D.str))) x at' i size (by omega) y8 y9;have g1:Nl (size:Int):=Rq (by omega);have et:((size:Int)).toNat=size:=by omega
  have z:(Je x at' size i).length<PySem.sizeLine:=Y2 (by unfold Je;simp;omega);have he:az ""=S []:=rfl;have hr:Je x at' size (i+1)=Je x at' size i++[S (Sf x at' size i)]:=by unfold Je;rw[List.range_succ,cm];rfl
  refine⟨[aA (.fz (.int x)),a1,aA (.fz (.str C8)),aA (.fz (.int (size:Int))),aA (.fz (.int at')),aA (.ol ((Je x at' size i).map D.str)),aA (.fz (.int (i:Int))),y7,y8,y9],[aA (.fz (.int x)),a1,aA (.fz (.str C8)),aA (.fz (.int (size:Int))),aA (.fz (.int at')),aA (.ol ((Je x at' size (i+1)).map D.str)),aA (.fz (.int (i:Int))),aA (.fz (.str (S (Sf x at' size i)))),z8,z9],by simp,?_,_,_,_,_,rfl⟩;rw[hr];generalize Je x at' size i=NL at*;unfold Gen.U6;simp[-Yr,he,g1,et,O4,e,z])
 subst hy;rw[Nat.zero_add]at e;exact⟨_,e,rfl⟩
theorem sN:∀i<22,abc (LC i)=aC:=by decide+kernel
def Ii(w:Str):Prop:=∃l,w=S l/\Ng l/\∀c∈l,c≠105/\c≠110
theorem wT(x)(h0:0<=x)(m:Nat)(hm:m<=20):∃ws:List Str,Gen.Q4 [.int x,.int (m:Int)]=aA (.ol (ws.map D.str))/\ws.length=m/\ws.Nodup/\∀w∈ws,Ii w:=by
 have s0:0<=x % 8:=f6 _ (by decide);have s1:x % 8<8:=fg _ (by decide);obtain⟨size,hs⟩:∃n:Nat,(n:Int)=1+x % 8:=⟨(1+x % 8).toNat,by omega⟩
 have DP:1<=size:=by omega
 have uG:size<=8:=by omega
 have p0:(0:Int)<(size:Int):=by omega
 have a0:0<=x / 8 % (size:Int):=f6 _ (by omega);have a1:x / 8 % (size:Int)<(size:Int):=fg _ p0;generalize hat:x / 8 % (size:Int)=at' at a0 a1;obtain⟨δ,e,DL⟩:=ig (aA (.fz (.int (m:Int)))) x at' size uG m (by omega);have g1:Nl (m:Int):=Rq (by omega);have et:((m:Int)).toNat=m:=by omega
 refine⟨Je x at' size m,?_,by unfold Je;simp,?_,λw hw=>?_⟩
 .generalize Je x at' size m=NL at DL;unfold Gen.Q4 Gen.R1;have NQ:0<size:=by omega
  simp[-Yr,<-hs,p0,NQ,hat,g1,et,O4,e,DL]
 .unfold Je;refine List.Pairwise.map _ (R:=λa b=>a≠b/\a<m/\b<m) (λa b h=>?_) ?_
  .intro z;obtain⟨YZ,ha,hb⟩:=h;have hl:=Bz z;obtain⟨k,hk⟩:=Int.eq_ofNat_of_zero_le a0;have UT:k<size:=by omega
   have e1:(Sf x at' size a)[k]? =aA (sgn x at' a k):=by unfold Sf;rw[bz,List.getElem?_range UT];rfl
   have e2:(Sf x at' size b)[k]? =aA (sgn x at' b k):=by unfold Sf;rw[bz,List.getElem?_range UT];rfl
   rw[hl,e2]at e1;have e3:=Option.some.inj e1;unfold sgn at e3;rw[bJ hk.symm]at e3;have q:=λy:Int=>(f6 y (show(22:Int)≠0 by decide))
   have q':=λy:Int=>(fg y (show(0:Int)<22 by decide))
   have r1:=q (x / ((k:Int)+2)+(a:Int)*1);have r2:=q' (x / ((k:Int)+2)+(a:Int)*1);have r3:=q (x / ((k:Int)+2)+(b:Int)*1);have r4:=q' (x / ((k:Int)+2)+(b:Int)*1);have e4:=sO _ (by omega) _ (by omega) e3;generalize x / ((k:Int)+2)=y at*;omega
  .have nd:(gh m).Pairwise (λa b=>a<b):=List.pairwise_lt_range;refine(List.Pairwise.and_mem.mp nd).imp fun{a b} h=>?_;exact⟨d8 h.2.2,List.mem_range.mp h.1,List.mem_range.mp h.2.1⟩
 .unfold Je at hw;obtain⟨t,_,rfl⟩:=bd.mp hw;have hl:(Sf x at' size t).length=size:=by unfold Sf;simp
  have all:∀c∈Sf x at' size t,∃i<22,c=LC i:=λc hc=>by unfold Sf at hc;obtain⟨k,_,rfl⟩:=bd.mp hc;have r1:=f6 (x / ((k:Int)+2)+(t:Int)*(if(k:Int)=at' then 1 else 0)) (show(22:Int)≠0 by decide);have r2:=fg (x / ((k:Int)+2)+(t:Int)*(if(k:Int)=at' then 1 else 0)) (show(0:Int)<22 by decide);exact⟨_,by omega,rfl⟩
  have no:∀c∈Sf x at' size t,c≠105/\c≠110:=λc hc=>by obtain⟨i,hi,rfl⟩:=all c hc;exact⟨(zY i hi).1,(zY i hi).2.1⟩
  refine⟨_,rfl,⟨by omega,by omega,b9.mpr λc hc=>?_,λz=>?_⟩,no⟩
  .obtain⟨i,hi,rfl⟩:=all c hc;exact sN i hi
  .exact(no 110 (by rw[z];simp)).2 rfl
theorem BS(c b):Gen.J2 [.int c,.int b]=aA (.fz (.int (c % 2147483647*b % 2147483647))):=by have h1:0<=c % 2147483647:=f6 _ (by decide);have h2:c % 2147483647<2147483647:=fg _ (by decide);have hm:=V7 (i:=c % 2147483647) (j:=b) (by omega);unfold Gen.J2 Gen.Me;exact evX
theorem yw(ns:List Int)(k:Nat):∃c,Gen.Y5 [.lst (ns.map D.int),.int (k:Int)]=aA (.fz (.int c)):=by
 by_cases h:k<ns.length
 .have a:L2.atI (ns.map D.int) (k:Int)=aA (.int ns[k]):=Ce _ _ _ (by rw[bz,dq h];rfl);refine⟨ns[k],?_⟩;have h':(k:Int)<(ns.length:Int):=by omega
  unfold Gen.Y5 Gen.U8;simp[h',h,a]
 .refine⟨0,?_⟩;have h':¬(k:Int)<(ns.length:Int):=by omega
  unfold Gen.Y5 Gen.U8;simp[h',h]
theorem yv(c b:Int):0<=c % 2147483647*b % 2147483647:=f6 _ (by decide)
def Num(x:Int):Prop:=0<=x/\x<2147483647
theorem zX(h:0<m/\m<=2147483647)(x):Num (x % m):=⟨f6 _ (by omega),Int.lt_of_lt_of_le (fg _ h.1) h.2⟩
theorem Tg(a b):∀n s (ms:List Int) x y,(∀m∈ms,Num m)->ms.length+n<=1000->
  ∃(VX:List Int) (x':Int) (y':Option SV),Yr (Zl 4) Gen.Jr (E8 s n) [a,b,aA (.ol (ms.map D.int)),aA (.fz (.int x)),y]=aA (.nx [a,b,aA (.ol (VX.map D.int)),aA (.fz (.int x')),y'])/\(∀m∈VX,Num m)/\VX.length=ms.length+n
 |0,s,ms,x,y,h,_=>⟨ms,x,y,rfl,h,rfl⟩
 |n+1,s,ms,x,y,h,hl=>by
  have z:ms.length<PySem.sizeLine:=Y2 (by omega);have hb:Gen.Jr [a,b,aA (.ol (ms.map D.int)),aA (.fz (.int x)),aA (.fz (.int (s:Int)))]=aA (.nx [a,b,aA (.ol ((ms++[x % 5040]).map D.int)),aA (.fz (.int (x / 5040))),aA (.fz (.int (s:Int)))]):=by unfold Gen.Jr;simp[z]
  obtain⟨VX,x',y',e,h1,h2⟩:=Tg a b n (s+1) (ms++[x % 5040]) (x / 5040) (aA (.fz (.int (s:Int)))) (λm hm=>by
   rcases bo.mp hm with hm|hm
   .exact h m hm
   .rw[af.mp hm];exact zX (by decide) _) (by rw[ao,b4];omega)
  refine⟨VX,x',y',(Ys (ds:=E8 (s+1) n) (by simp) hb).trans e,h1,by rw[h2,ao,b4];omega⟩
theorem Th(a b):∀n s (ms:List Int) x y,(∀m∈ms,Num m)->ms.length+n<=1000->
  ∃(VX:List Int) (x':Int) (y':Option SV),Yr (Zl 4) Gen.Js (E8 s n) [a,b,aA (.ol (ms.map D.int)),aA (.fz (.int x)),y]=aA (.nx [a,b,aA (.ol (VX.map D.int)),aA (.fz (.int x')),y'])/\(∀m∈VX,Num m)/\VX.length=ms.length+n
 |0,s,ms,x,y,h,_=>⟨ms,x,y,rfl,h,rfl⟩
 |n+1,s,ms,x,y,h,hl=>by
  have z:ms.length<PySem.sizeLine:=Y2 (by omega);have hb:Gen.Js [a,b,aA (.ol (ms.map D.int)),aA (.fz (.int x)),aA (.fz (.int (s:Int)))]=aA (.nx [a,b,aA (.ol ((ms++[(x+(s:Int)+1)*48271 % 2147483647*69621 % 2147483629]).map D.int)),aA (.fz (.int ((x+(s:Int)+1)*48271 % 2147483647))),aA (.fz (.int (s:Int)))]):=by have hm:=FQ (i:=x+(s:Int)+1) (j:=48271) (by omega);have hm2:=FQ (i:=(x+(s:Int)+1)*48271 % 2147483647) (j:=69621) (by omega);unfold Gen.Js;simp[hm,hm2,z]
  obtain⟨VX,x',y',e,h1,h2⟩:=Th a b n (s+1) (ms++[(x+(s:Int)+1)*48271 % 2147483647*69621 % 2147483629]) ((x+(s:Int)+1)*48271 % 2147483647) (aA (.fz (.int (s:Int)))) (λm hm=>by
   rcases bo.mp hm with hm|hm
   .exact h m hm
   .rw[af.mp hm];exact zX (by decide) _) (by rw[ao,b4];omega)
  refine⟨VX,x',y',(Ys (ds:=E8 (s+1) n) (by simp) hb).trans e,h1,by rw[h2,ao,b4];omega⟩
theorem T9(c)(n:Nat)(h:n<=1000):∃ms:List Int,Gen.Y4 [.int c,.int (n:Int)]=aA (.ol (ms.map D.int))/\(∀m∈ms,Num m)/\ms.length=n:=by
 have g1:Nl (n:Int):=Rq (by omega);have et:((n:Int)).toNat=n:=by omega
 by_cases hc:c % 2=1
 .obtain⟨ms,x',y',e,h1,h2⟩:=Tg (aA (.fz (.int c))) (aA (.fz (.int (n:Int)))) n 0 [] (c / 2) aB (λ_ h=>nomatch h) (by simpa using h);refine⟨ms,?_,h1,by simpa using h2⟩;simp only[List.map_nil]at e;unfold Gen.Y4 Gen.U7;simp[-Yr,g1,et,O4,e,hc]
 .obtain⟨ms,x',y',e,h1,h2⟩:=Th (aA (.fz (.int c))) (aA (.fz (.int (n:Int)))) n 0 [] (c / 2 % 2147483647) aB (λ_ h=>nomatch h) (by simpa using h);refine⟨ms,?_,h1,by simpa using h2⟩;simp only[List.map_nil]at e;unfold Gen.Y4 Gen.U7;simp[-Yr,g1,et,O4,e,hc]
noncomputable abbrev Y9(p:Str×Str):D:=.tup [.str p.1,.str p.2]
noncomputable abbrev KB:Str:=az "book"
noncomputable abbrev KP:Str:=az "part"
theorem U3{ms:List Int}(h:j<ms.length):L2.atI (ms.map D.int) (j:Int)=aA (.int ms[j]):=Ce _ _ _ (by rw[bz,dq h];rfl)
theorem G6{fs:List Str}(hf:(fs.length:Int)=m)(h0:0<m)(v):∃s∈fs,L2.atI (fs.map D.str) (v % m)=aA (.str s):=by obtain⟨d,hd,e⟩:=sq (fs.map D.str) v m (by rw[ay];exact hf) h0;obtain⟨s,hs,rfl⟩:=bd.mp hd;exact⟨s,hs,e⟩
theorem Lu:∀{ks:List L2.Key},k∉ks->Tu (ks++[k]) k=aA ks.length
 | [],_=>by simp[Tu]
 |a::ks,h=>by have h1:a≠k:=λe=>h (by rw[e];exact aa);have ih:=Lu (ks:=ks) λhm=>h (ad _ hm);simp[Tu,h1]at ih⊢;simp[ih]
theorem kz(a0 x3)(fs:List Str)(hf:fs.length=4)(ks xss)(PK:ks.length=xss.length)(kind)(hk:(b7 kind:L2.Key)∉ks)(ps)(eU:ps.length<=100)(ms:List Int)(hm:ms.length=7)(j:Nat)(hj:j<3):
  ∃p,p.1∈fs/\p.2∈fs/\Gen.U9 [a0,aA (.fz (.lst (fs.map D.str))),aA (.oN (ks++[.inr kind]) (xss++[ps.map Y9])),x3,aA (.fz (.str kind)),aA (.ol (ms.map D.int)),aA (.fz (.int (j:Int)))]=aA (.nx [a0,aA (.fz (.lst (fs.map D.str))),aA (.oN (ks++[.inr kind]) (xss++[(ps++[p]).map Y9])),x3,aA (.fz (.str kind)),aA (.ol (ms.map D.int)),aA (.fz (.int (j:Int)))]):=by
 have a1:=U3 (ms:=ms) (j:=1+2*j) (by omega);have a2:=U3 (ms:=ms) (j:=2+2*j) (by omega);rw[show((1+2*j:Nat):Int)=1+2*(j:Int) by omega]at a1;rw[show((2+2*j:Nat):Int)=2+2*(j:Int) by omega]at a2;generalize ms[1+2*j]'(by omega)=v at a1;generalize ms[2+2*j]'(by omega)=u at a2;obtain⟨s1,h1,e1⟩:=G6 (fs:=fs) (m:=4) (by rw[hf];rfl) (by decide) v;obtain⟨s2,h2,e2⟩:=G6 (fs:=fs) (m:=4) (by rw[hf];rfl) (by decide) u;have m:=V7 (i:=2) (j:=(j:Int)) (by omega);have pl:=Lu hk;have z4:2<=PySem.sizeLine:=Zn (by decide);have zp:ps.length<PySem.sizeLine:=Y2 (by omega);have gx:(xss++[ps.map Y9])[ks.length]? =aA (ps.map Y9):=by rw[PK];simp
 have sx:∀z:List D,(xss++[ps.map Y9]).set ks.length z=xss++[z]:=λz=>by rw[PK];simp
 refine⟨(s1,s2),h1,h2,?_⟩;unfold Gen.U9;generalize ms.map D.int=MS at a1 a2⊢;generalize (j:Int)=J at a1 a2 m⊢;simp[z4,a1,a2,e1,e2,m,pl,gx,sx,zp]
theorem Lv(a0 x3)(fs:List Str)(hf:fs.length=4)(ks xss)(PK:ks.length=xss.length)(kind)(hk:(b7 kind:L2.Key)∉ks)(ms:List Int)(hm:ms.length=7):∀n s (ps:List (Str×Str)) x6,s+n<=3->ps.length<=s->(∀p∈ps,p.1∈fs/\p.2∈fs)->
  ∃(WU:List (Str×Str)) (y6:Option SV),Yr (Zl 6) Gen.U9 (E8 s n) [a0,aA (.fz (.lst (fs.map D.str))),aA (.oN (ks++[.inr kind]) (xss++[ps.map Y9])),x3,aA (.fz (.str kind)),aA (.ol (ms.map D.int)),x6]=aA (.nx [a0,aA (.fz (.lst (fs.map D.str))),aA (.oN (ks++[.inr kind]) (xss++[WU.map Y9])),x3,aA (.fz (.str kind)),aA (.ol (ms.map D.int)),y6])/\∀p∈WU,p.1∈fs/\p.2∈fs
 |0,s,ps,x6,h,hp,hq=>⟨ps,x6,rfl,hq⟩
 |n+1,s,ps,x6,h,hp,hq=>by
  obtain⟨p,uK,JH,e⟩:=kz a0 x3 fs hf ks xss PK kind hk ps (by omega) ms hm s (by omega);obtain⟨WU,z6,e',hl⟩:=Lv a0 x3 fs hf ks xss PK kind hk ms hm n (s+1) (ps++[p]) (aA (.fz (.int (s:Int)))) (by omega) (by rw[ao,b4];omega) (λq hm=>by
   rcases bo.mp hm with hm|hm
   .exact hq q hm
   .rw[af.mp hm];exact⟨uK,JH⟩)
  exact⟨WU,z6,(Ys (ds:=E8 (s+1) n) (by simp) e).trans e',hl⟩
noncomputable abbrev TB:=List (Str×List (Str×Str))
noncomputable abbrev tkS(T:TB):List L2.Key:=T.map λq=>.inr q.1
abbrev tvS(T:TB):List (List D):=T.map λq=>q.2.map Y9
def TOk(fs:List Str)(T:TB):Prop:=∀q∈T,∀p∈q.2,p.1∈fs/\p.2∈fs
theorem Sg(ns:List Int)(fs)(hf:fs.length=4)(T)(hT:TOk fs T)(hl:T.length<=10)(kind)(hk:kind∉T.map (·.1))(i:Nat)(hi:i<=10)(x5 x6):
  ∃(ps:List (Str×Str)) (y5 y6:Option SV),Gen.Oa [aA (.fz (.lst (ns.map D.int))),aA (.fz (.lst (fs.map D.str))),aA (.oN (tkS T) (tvS T)),aA (.fz (.int (i:Int))),aA (.fz (.str kind)),x5,x6]=aA (.nx [aA (.fz (.lst (ns.map D.int))),aA (.fz (.lst (fs.map D.str))),aA (.oN (tkS (T++[(kind,ps)])) (tvS (T++[(kind,ps)]))),aA (.fz (.int (i:Int))),aA (.fz (.str kind)),y5,y6])/\TOk fs (T++[(kind,ps)]):=by
 obtain⟨c,ec⟩:=yw ns (2+i);rw[show((2+i:Nat):Int)=2+(i:Int) by omega]at ec;obtain⟨ms,en,_,ml⟩:=T9 c 7 (by omega);have en:Gen.Y4 [.int c,.int 7]=_:=en;have a0:=U3 (ms:=ms) (j:=0) (by omega);have a0:L2.atI (ms.map D.int) 0=_:=a0;generalize ms[0]'(by omega)=v at a0;have q0:0<=v % 4:=f6 _ (by decide);have q1:v % 4<4:=fg _ (by decide);have PL:(b7 kind:L2.Key)∉tkS T:=λhm=>by obtain⟨q,hq,e⟩:=bd.mp hm;exact hk (bd.mpr ⟨q,hq,b7.inj e⟩)
 obtain⟨n,hn⟩:∃n:Nat,v % 4=(n:Int):=⟨(v % 4).toNat,by omega⟩
 obtain⟨ps,y6,e,hp⟩:=Lv (aA (.fz (.lst (ns.map D.int)))) (aA (.fz (.int (i:Int)))) fs hf (tkS T) (tvS T) (by simp) kind PL ms ml n 0 [] x6 (by omega) (by simp) (λ_ h=>nomatch h);rw[List.map_nil]at e;have g1:Nl (n:Int):=Rq (by omega);have et:((n:Int)).toNat=n:=by omega
 have ha:((tkS T).any λx=>decide (x=(b7 kind:L2.Key)))=aD:=by rw[List.any_eq_false];intro x hx;have:x≠b7 kind:=λe=>PL (by rw[<-e];exact hx);simp[this]
 have zx:(tvS T).length<PySem.sizeLine:=Y2 (by rw[ay];omega);refine⟨ps,aA (.ol (ms.map D.int)),y6,?_,λq hq p PF=>?_⟩
 .have ek:tkS (T++[(kind,ps)])=tkS T++[.inr kind]:=by simp
  have ev:tvS (T++[(kind,ps)])=tvS T++[ps.map Y9]:=by simp
  rw[ek,ev];generalize tkS T=TK,tvS T=TV,ms.map D.int=MS,(i:Int)=II at*;unfold Gen.Oa;simp[-Yr,-List.any_eq_false,ec,en,a0,hn,g1,et,O4,ha,zx,e]
 .rcases bo.mp hq with hq|hq
  .exact hT q hq p PF
  .rw[af.mp hq]at PF;exact hp p PF
abbrev Wt(T:TB):D:=.dK (tkS T) (T.map λq=>.lst (q.2.map Y9))
theorem fL:¬KB=KP:=by decide+kernel
theorem mq(ns:List Int)(fs)(hf:fs.length=4):∃T,TOk fs T/\T.length<=10/\Gen.Oh [.lst (ns.map D.int),.lst (fs.map D.str)]=aA (.fz (Wt T)):=by
 obtain⟨p1,u5,u6,e1,t1⟩:=Sg ns fs hf [] (λ_ h=>nomatch h) (by simp) KB (by simp) 0 (by decide) aB aB;obtain⟨p2,v5,v6,e2,t2⟩:=Sg ns fs hf _ t1 (by simp) KP (by simpa using λh=>fL h.symm) 1 (by decide) u5 u6;refine⟨_,t2,by simp,?_⟩;generalize ([]++[(KB,p1)]++[(KP,p2)]:TB)=T3 at*;have lp:Yr (Bv 2 (W0 (Zl 3) (W0 (Zl 4) (Ct)))) Gen.Oa [.tup [.int ((0:Nat):Int),.str KB],.tup [.int ((1:Nat):Int),.str KP]] [aA (.fz (.lst (ns.map D.int))),aA (.fz (.lst (fs.map D.str))),aA (.oN [] []),aB,aB,aB,aB]=aA (.nx [aA (.fz (.lst (ns.map D.int))),aA (.fz (.lst (fs.map D.str))),aA (.oN (tkS T3) (tvS T3)),aA (.fz (.int ((1:Nat):Int))),aA (.fz (.str KP)),v5,v6]):=by refine(Ys (by simp) e1).trans ?_;exact(Ys (by simp) e2).trans rfl
 have en:Am [.str KB,.str KP]=[.tup [.int ((0:Nat):Int),.str KB],.tup [.int ((1:Nat):Int),.str KP]]:=rfl;have z2:2<=PySem.sizeLine:=Zn (by decide);have ev:(tvS T3).map D.lst=T3.map λq=>.lst (q.2.map Y9):=by rw[b6];rfl
 unfold Wt;rw[<-ev];generalize tkS T3=TK,tvS T3=TV at*;unfold Gen.Oh Gen.R3;simp[-Yr,z2,en];simp[-Yr]at lp;rw[lp];simp
noncomputable abbrev IN:Str:=az "in"
noncomputable abbrev Nw:Str:=az "note"
noncomputable abbrev SO:Str:=az "Some & other"
noncomputable abbrev PS:=List (Str×Str)
noncomputable abbrev Yi(ps:PS):List L2.Key:=Z3 (ps.map (·.1))
noncomputable abbrev Z0(ps:PS):List D:=(ps.map (·.2)).map D.str
theorem FW(h:Ii w):w≠IN:=λe=>by obtain⟨l,rfl,_,no⟩:=h;exact(no 105 (by rw[show IN=S [105,110]from by decide+kernel]at e;rw[Bz e];simp)).1 rfl
theorem wS(h:Ii w):w≠Nw:=λe=>by obtain⟨l,rfl,_,no⟩:=h;exact(no 110 (by rw[show Nw=S [110,111,116,101]from Ln]at e;rw[Bz e];simp)).2 rfl
theorem sM(h:Ii w):w≠SO:=λe=>by
 obtain⟨l,rfl,nm,no⟩:=h;have:83∈l:=by rw[show SO=S (SO.cps.toList)from by decide+kernel]at e;rw[Bz e];decide+kernel
 exact nm.no 83 (.inl (by decide)) this
theorem yu:Nw≠IN:=by decide+kernel
noncomputable abbrev TA:List Str:=[az "Lee, Ann & Roe",az "A = (b)",az "x"]
noncomputable abbrev TBs:List Str:=[az "",az " ",az "'s"]
noncomputable def PVL:List Str:=TA.flatMap λa=>TBs.map λb=>a++b
theorem Xo:∀s∈PVL,s.length<=16:=by decide+kernel
theorem sL:∀s∈TA,s.length<=14:=by decide+kernel
theorem sK:∀s∈TBs,s.length<=2:=by decide+kernel
theorem sJ(u):∃a b,L2.atI (TA.map D.str) (u % 3)=aA (.str a)/\L2.atI (TBs.map D.str) (u / 3 % 3)=aA (.str b)/\a++b∈PVL/\a.length+b.length<=PySem.sizeLine:=by obtain⟨a,ha,ea⟩:=G6 (fs:=TA) (m:=3) rfl (by decide) u;obtain⟨b,hb,eb⟩:=G6 (fs:=TBs) (m:=3) rfl (by decide) (u / 3);have:=sL a ha;have:=sK b hb;exact⟨a,b,ea,eb,List.mem_flatMap.mpr ⟨a,ha,bd.mpr ⟨b,hb,rfl⟩⟩,Zn (by omega)⟩
noncomputable abbrev oSt(A0 A1 A2 A3 A4 A5:Option SV)(ms:List Int)(ps:PS)(x8 x9 XD:Option SV):Wa:=[A0,A1,A2,A3,A4,A5,aA (.ol (ms.map D.int)),aA (.oK (Yi ps) (Z0 ps)),x8,x9,XD]
theorem mo(A0 A1 A2 A3 A4 A5 ms)(hm:ms.length=12)(ps:PS)(hp:ps.length<=10)(j:Nat)(hj:j<4)(f)(hf:f∉ps.map (·.1))(XD):∃WU WQ,(WU=ps\/∃t∈PVL,WU=ps++[(f,t)])/\
  Gen.Jj (oSt A0 A1 A2 A3 A4 A5 ms ps (aA (.fz (.int (j:Int)))) (aA (.fz (.str f))) XD)=aA (.nx (oSt A0 A1 A2 A3 A4 A5 ms WU (aA (.fz (.int (j:Int)))) (aA (.fz (.str f))) WQ)):=by
 have a1:=U3 (ms:=ms) (j:=j) (by omega);have a2:=U3 (ms:=ms) (j:=4+j) (by omega);rw[show((4+j:Nat):Int)=4+(j:Int) by omega]at a2;generalize ms[j]'(by omega)=x at a1;generalize ms[4+j]'(by omega)=u at a2;by_cases h:x % 3=0
 .obtain⟨a,b,ea,eb,hv,hl⟩:=sJ u;have ea:L2.atI [D.str (az "Lee, Ann & Roe"),.str (az "A = (b)"),.str (az "x")] (u % 3)=_:=ea;have eb:L2.atI [D.str (az ""),.str (az " "),.str (az "'s")] (u / 3 % 3)=_:=eb;have pp:Yw (Yi ps) (Z0 ps) (b7 f) (.str (a++b))=(Yi (ps++[(f,a++b)]),Z0 (ps++[(f,a++b)])):=by unfold Yi Z0;rw[Q3,Uh hf];simp
  have z:(Z0 ps).length<PySem.sizeLine:=Y2 (by simp;omega);have z3:3<=PySem.sizeLine:=Zn (by decide);refine⟨ps++[(f,a++b)],aA (.fz (.str a)),.inr ⟨_,hv,rfl⟩,?_⟩;unfold Gen.Jj oSt;generalize Yi (ps++[(f,a++b)])=K2 at pp⊢;generalize Z0 (ps++[(f,a++b)])=V2 at pp⊢;generalize Yi ps=K1 at pp⊢;generalize Z0 ps=V1 at pp z⊢;generalize ms.map D.int=MS at a1 a2⊢;generalize (j:Int)=J at a1 a2⊢;simp[h,a1,a2,ea,eb,hl,pp,z,z3,-Yw]
 .refine⟨ps,XD,.inl rfl,?_⟩;unfold Gen.Jj oSt;generalize ms.map D.int=MS at a1 a2⊢;generalize (j:Int)=J at a1 a2⊢;simp[h,a1,-Yw]
structure Own(F:List Str)(ps:PS):Prop where
 nd:(ps.map (·.1)).Nodup
 all:∀p∈ps,(p.1∈F/\p.2∈PVL)\/p.1=Nw
 len:∀p∈ps,p.2.length<=100
theorem wR(F A0 A1 A2 A3 A4 A5 ms)(hm:ms.length=12):∀xs j ps x8 x9 XD,(ps.map (·.1)++xs).Nodup->Own F ps->j+xs.length<=4->ps.length<=j+1->(∀x∈xs,x∈F)->∃WU y8 y9 WQ,Own F WU/\WU.length<=5/\
  Yr (Bv 2 (W0 (Zl 8) (W0 (Zl 9) Ct))) Gen.Jj (((xs.map D.str).zipIdx j).map λp=>D.tup [.int (p.2:Nat),p.1]) (oSt A0 A1 A2 A3 A4 A5 ms ps x8 x9 XD)=aA (.nx (oSt A0 A1 A2 A3 A4 A5 ms WU y8 y9 WQ))
 | [],j,ps,x8,x9,XD,_,ow,hj,hp,_=>⟨ps,x8,x9,XD,ow,by simp at hj;omega,by simp⟩
 |f::xs,j,ps,x8,x9,XD,nd,ow,hj,hp,hx=>by
  rw[bc]at hj;have hf:f∉ps.map (·.1):=λz=>(dm.mp nd).2.2 _ z f aa rfl;obtain⟨NG,vZ,o1,t⟩:=mo A0 A1 A2 A3 A4 A5 ms hm ps (by omega) j (by omega) f hf XD;have o2:(NG.map (·.1)++xs).Nodup/\Own F NG/\NG.length<=j+1+1:=by
   rcases o1 with z|⟨v,hv,z⟩
   .subst z;exact⟨nd.sublist (List.Sublist.append (List.Sublist.refl _) (List.sublist_cons_self _ _)),ow,by omega⟩
   .subst z;have e:(ps++[(f,v)]).map (·.1)=ps.map (·.1)++[f]:=by simp
    have SM:(ps.map (·.1)++[f]++xs).Nodup:=by rw[cg];exact nd
    refine⟨by rw[e];exact SM,⟨by rw[e];exact(dm.mp SM).1,λp VZ=>?_,λp VZ=>?_⟩,by simp;omega⟩
    .rcases bo.mp VZ with z|z
     .exact ow.all p z
     .rw[af.mp z];exact .inl ⟨hx f aa,hv⟩
    .rcases bo.mp VZ with z|z
     .exact ow.len p z
     .rw[af.mp z];have:=Xo v hv;show v.length<=100;omega
  obtain⟨WU,y8,y9,WQ,vn,l',ih⟩:=wR F A0 A1 A2 A3 A4 A5 ms hm xs (j+1) NG (aA (.fz (.int (j:Int)))) (aA (.fz (.str f))) vZ o2.1 o2.2.1 (by omega) o2.2.2 λx h=>hx x (ad _ h);refine⟨WU,y8,y9,WQ,vn,l',?_⟩;rw[bn,List.zipIdx_cons,bn];exact(Ys (by simp) t).trans ih
noncomputable abbrev nS(n:Nat):Str:=az (toString ((n:Nat):Int))
theorem sI:∀n<10,(nS n).length<=2:=by decide+kernel
abbrev WK:=Str×PS
noncomputable abbrev W4(w:WK):D:=.tup [.str w.1,.dK (Yi w.2) (Z0 w.2)]
structure Work(keys F:List Str)(i:Nat)(w:WK):Prop where
 nd:(w.2.map (·.1)).Nodup
 knd:w.1=KB\/w.1=KP
 all:∀p∈w.2,(p.1∈F/\p.2∈PVL)\/p.1=Nw\/(p.1=IN/\(p.2=SO\/∃j:Nat,j<i/\keys[j]? =aA p.2))
 len:∀p∈w.2,p.2.length<=100
 few:w.2.length<=6
noncomputable abbrev sSt(keys F:List Str)(cs:List Int)(ks:List Str)(ws:List WK)(x4 x5 x6 x7 x8 x9 XD:Option SV):Wa:=[aA (.fz (.lst (keys.map D.str))),aA (.fz (.lst (F.map D.str))),aA (.fz (.lst (cs.map D.int))),aA (.oK (Z3 ks) (ws.map W4)),x4,x5,x6,x7,x8,x9,XD]
theorem ME:az "<"=S [60]:=by decide+kernel
theorem FV:(az "> {is} no").length=9:=by decide+kernel
theorem p_(i):∃kd,(kd=KB\/kd=KP)/\L2.atI [D.str KB,D.str KP] (i % 2)=aA (.str kd):=by
 have:i % 2=0\/i % 2=1:=by omega
 rcases this with h|h<;> rw[h]
 .exact⟨_,.inl rfl,rfl⟩
 .exact⟨_,.inr rfl,rfl⟩
theorem Xp(h:Ii w):w.length<=8:=by obtain⟨l,rfl,nm,_⟩:=h;rw[Z1];exact nm.2.1
theorem fK{keys:List Str}(hi:i<keys.length)(h0:0<i)(y z):∃t a b,L2.atI (keys.map D.str) ((i:Int)- 1)=aA (.str a)/\L2.atI (keys.map D.str) (y % (i:Int))=aA (.str b)/\L2.atI [D.str a,.str SO,.str b] (z % 3)=aA (.str t)/\(t=SO\/∃j,j<i/\keys[j]? =aA t):=by
 have y0:0<=y % (i:Int):=f6 _ (by omega);have y1:y % (i:Int)<(i:Int):=fg _ (by omega);obtain⟨n,hn⟩:∃n:Nat,(n:Int)=y % (i:Int):=⟨(y % (i:Int)).toNat,by omega⟩
 have ka:∀j:Nat,j<keys.length->L2.atI (keys.map D.str) (j:Int)=aA (.str (keys[j]!)):=λj hj=>Ce _ _ _ (by rw[bz,dq hj];simp[hj]);have kq:∀j:Nat,j<keys.length->keys[j]? =aA (keys[j]!):=λj hj=>by simp[hj]
 have e1:=ka (i- 1) (by omega);rw[show((i- 1:Nat):Int)=(i:Int)- 1 by omega]at e1;have e2:=ka n (by omega);rw[hn]at e2;have:z % 3=0\/z % 3=1\/z % 3=2:=by omega
 rcases this with h|h|h
 .exact⟨_,_,_,e1,e2,by rw[h];rfl,.inr ⟨i- 1,by omega,kq _ (by omega)⟩⟩
 .exact⟨_,_,_,e1,e2,by rw[h];rfl,.inl rfl⟩
 .exact⟨_,_,_,e1,e2,by rw[h];rfl,.inr ⟨n,by omega,kq _ (by omega)⟩⟩
theorem ky(keys F)(TQ:∀k∈keys,Ii k)(hF:F.length=4)(nF:F.Nodup)(hN:∀f∈F,Ii f)(cs ks ws i)(hi:i<keys.length)(h8:keys.length<=8)(hc:cs.length=keys.length)(key)(ek:keys[i]? =aA key)(fresh:key∉ks)(eT:ws.length<=100)(x6 x7 x8 x9 XD):∃w y6 y7 y8 y9 WQ,Work keys F i w/\
  Gen.Ob (sSt keys F cs ks ws (aA (.fz (.int (i:Int)))) (aA (.fz (.str key))) x6 x7 x8 x9 XD)=aA (.nx (sSt keys F cs (ks++[key]) (ws++[w]) (aA (.fz (.int (i:Int)))) (aA (.fz (.str key))) y6 y7 y8 y9 WQ)):=by
 have ac:=U3 (ms:=cs) (j:=i) (by omega);generalize cs[i]'(by omega)=c at ac;obtain⟨ms,en,_,ml⟩:=T9 c 12 (by omega);have en:Gen.Y4 [.int c,.int 12]=_:=en;have a8:=U3 (ms:=ms) (j:=8) (by omega);have a8:L2.atI (ms.map D.int) 8=_:=a8;have a9:=U3 (ms:=ms) (j:=9) (by omega);have a9:L2.atI (ms.map D.int) 9=_:=a9;have a10:=U3 (ms:=ms) (j:=10) (by omega);have a10:L2.atI (ms.map D.int) 10=_:=a10;have a11:=U3 (ms:=ms) (j:=11) (by omega);have a11:L2.atI (ms.map D.int) 11=_:=a11;generalize ms[8]'(by omega)=v8 at a8;generalize ms[9]'(by omega)=v9 at a9;generalize ms[10]'(by omega)=v10 at a10;generalize ms[11]'(by omega)=v11 at a11;have kl:=Xp (TQ key (cy ek));have nl:=sI i (by omega);have l1:(az "<").length+key.length<=PySem.sizeLine:=Zn (by rw[ME,Z1];simp;omega);have l2:(az "<"++key).length+(az "> {is} no").length<=PySem.sizeLine:=Zn (by rw[Str.length_append,ME,Z1,FV];simp;omega);have l3:(az "<"++key++az "> {is} no").length+(nS i).length<=PySem.sizeLine:=Zn (by rw[Str.length_append,Str.length_append,ME,Z1,FV];simp;omega);have tl:(az "<"++key++az "> {is} no"++nS i).length<=100:=by rw[Str.length_append,Str.length_append,Str.length_append,ME,Z1,FV];simp;omega
 have g1:((i:Nat):Int).natAbs.log2<1920:=Nat.lt_of_le_of_lt (Nat.log2_le_self _) (by omega);have sd:QO [.int (i:Int)]=aA (.fz (.str (nS i))):=by show(if((i:Nat):Int).natAbs.log2<1920 then _ else _)=_;rw[bJ g1]
 generalize ht:az "<"++key++az "> {is} no"++nS i=t0 at tl;have vz:∀x∈F,x≠Nw:=λx hx=>wS (hN x hx);obtain⟨ps,y8,y9,WQ,ow,pl,lo⟩:=wR F (aA (.fz (.lst (keys.map D.str)))) (aA (.fz (.lst (F.map D.str)))) (aA (.fz (.lst (cs.map D.int)))) (aA (.oK (Z3 ks) (ws.map W4))) (aA (.fz (.int (i:Int)))) (aA (.fz (.str key))) ms ml F 0 [(Nw,t0)] x8 x9 XD (cq.mpr ⟨λz=>vz _ z rfl,nF⟩) ⟨by simp,λp hp=>.inr (by rw[af.mp hp]),λp hp=>by rw[af.mp hp];exact tl⟩ (by omega) (by simp) (λ_ h=>h);rw[show(((F.map D.str).zipIdx 0).map λp=>D.tup [.int (p.2:Nat),p.1])=Am (F.map D.str)from rfl]at lo;have TN:IN∉ps.map (·.1):=λz=>by
  obtain⟨p,hp,e⟩:=bd.mp z;rcases ow.all p hp with⟨h,_⟩|h
  .exact FW (hN _ h) e
  .exact yu (h.symm.trans e)
 have old:∀p∈ps,(p.1∈F/\p.2∈PVL)\/p.1=Nw\/(p.1=IN/\(p.2=SO\/∃j:Nat,j<i/\keys[j]? =aA p.2)):=λp hp=>(ow.all p hp).imp id .inl;obtain⟨kd,DZ,ak⟩:=p_ v11;have zp:(Z0 ps).length<PySem.sizeLine:=Y2 (by simp;omega);have z3:3<=PySem.sizeLine:=Zn (by decide);have z2:2<=PySem.sizeLine:=Zn (by decide);have R':∃VG:PS,Work keys F i (kd,VG)/\(Jt (Ko (Zq (Zg gtD (Zg Q1 (Zg Wg (Za 6) (Zc (.int 8))) (Zc (.int 4))) (Zc (.int 0)))) (Zq (Zg gtD (Za 4) (Zc (.int 0))))) (Ts 7 (Zc (.str "in")) (Zg Wg (Ud (Zm (Zg Wg (Za 0) (Zg RQ (Za 4) (Zc (.int 1)))) (Zm (Zc (.str "Some & other")) (Zm (Zg Wg (Za 0) (Zg Q1 (Zg Wg (Za 6) (Zc (.int 9))) (Za 4))) (Zt))))) (Zg Q1 (Zg Wg (Za 6) (Zc (.int 10))) (Zc (.int 3))))) (Yn)) (sSt keys F cs ks ws (aA (.fz (.int (i:Int)))) (aA (.fz (.str key))) (aA (.ol (ms.map D.int))) (aA (.oK (Yi ps) (Z0 ps))) y8 y9 WQ)=aA (.nx (sSt keys F cs ks ws (aA (.fz (.int (i:Int)))) (aA (.fz (.str key))) (aA (.ol (ms.map D.int))) (aA (.oK (Yi VG) (Z0 VG))) y8 y9 WQ)):=by
  by_cases hx:0<v8 % 4/\0<i
  .obtain⟨t,a,b,e1,e2,e3,DO⟩:=fK hi hx.2 v9 v10;have i0:(0:Int)<(i:Int):=by omega
   have i1:(i:Int)<1073741824:=by omega
   have pp:Yw (Yi ps) (Z0 ps) (b7 IN) (.str t)=(Yi (ps++[(IN,t)]),Z0 (ps++[(IN,t)])):=by unfold Yi Z0;rw[Q3,Uh TN];simp
   have eR:SO.length=12:=by decide+kernel
   refine⟨ps++[(IN,t)],⟨?_,DZ,λp hp=>?_,λp hp=>?_,by simp;omega⟩,?_⟩
   .show((ps++[(IN,t)]).map (·.1)).Nodup;rw[cm];exact dm.mpr ⟨ow.nd,by simp,λa ha c hc e=>TN (by rw[<-(show c=IN by simpa using hc),<-e];exact ha)⟩
   .rcases bo.mp hp with h|h
    .exact old p h
    .rw[af.mp h];exact .inr (.inr ⟨rfl,DO⟩)
   .rcases bo.mp hp with h|h
    .exact ow.len p h
    .rw[af.mp h];show t.length<=100;rcases DO with rfl|⟨j,_,hj⟩
     .omega
     .have:=Xp (TQ t (cy hj));omega
   .unfold sSt;generalize Yi (ps++[(IN,t)])=K2 at pp⊢;generalize Z0 (ps++[(IN,t)])=V2 at pp⊢;generalize Yi ps=K1 at pp⊢;generalize Z0 ps=V1 at pp zp⊢;generalize keys.map D.str=KD at e1 e2⊢;generalize ms.map D.int=MS at a8 a9 a10⊢;have hx1:=hx.1;generalize (i:Int)=II at e1 e2 i0 i1⊢;simp[hx1,i0,i1,a8,a9,a10,e1,e2,e3,pp,zp,z3,-Yw]
  .refine⟨ps,⟨ow.nd,DZ,old,ow.len,by show ps.length<=6;omega⟩,?_⟩;unfold sSt;generalize Yi ps=K1,Z0 ps=V1,ms.map D.int=MS at a8⊢;by_cases h1:0<v8 % 4
   .have h2:¬(0:Int)<(i:Int):=by omega
    generalize (i:Int)=II at h2⊢;simp[h1,h2,a8,-Yw]
   .simp[h1,a8,-Yw]
 obtain⟨VG,wk,uw⟩:=R';have zw:(ws.map W4).length<PySem.sizeLine:=Y2 (by rw[ay];omega);have fin:Yw (Z3 ks) (ws.map W4) (b7 key) (.tup [.str kd,.dK (Yi VG) (Z0 VG)])=(Z3 (ks++[key]),(ws++[((kd,VG):WK)]).map W4):=by rw[Q3,Uh fresh];simp
 refine⟨(kd,VG),aA (.ol (ms.map D.int)),aA (.fz (.dK (Yi VG) (Z0 VG))),y8,y9,WQ,wk,?_⟩;unfold Gen.Ob;refine Q6 (δ1:=sSt keys F cs ks ws (aA (.fz (.int (i:Int)))) (aA (.fz (.str key))) (aA (.ol (ms.map D.int))) x7 x8 x9 XD) ?_ (Q6 (δ1:=sSt keys F cs ks ws (aA (.fz (.int (i:Int)))) (aA (.fz (.str key))) (aA (.ol (ms.map D.int))) (aA (.oK (Yi [(Nw,t0)]) (Z0 [(Nw,t0)]))) x8 x9 XD) ?_ (Q6 (δ1:=sSt keys F cs ks ws (aA (.fz (.int (i:Int)))) (aA (.fz (.str key))) (aA (.ol (ms.map D.int))) (aA (.oK (Yi ps) (Z0 ps))) y8 y9 WQ) ?_ (Q6 uw ?_)))
 .unfold sSt;generalize ms.map D.int=MS at en⊢;generalize cs.map D.int=CD at ac⊢;generalize (i:Int)=II at ac⊢;simp[ac,en]
 .unfold sSt;rw[<-ht]at*;generalize nS i=NS at*;generalize (i:Int)=II at sd⊢;simp[l1,l2,l3,sd,-QO]
 .unfold sSt;unfold oSt at lo;exact evX
 .unfold sSt;generalize (ws++[((kd,VG):WK)]).map W4=W2 at fin⊢;generalize Z3 (ks++[key])=KK2 at fin⊢;generalize ws.map W4=W1 at fin zw⊢;generalize Z3 ks=KK1 at fin⊢;generalize Yi VG=K1 at fin⊢;generalize Z0 VG=V1 at fin⊢;generalize ms.map D.int=MS at a11⊢;simp[a11,ak,fin,zw,z2,-Yw]
structure Shelf(keys F:List Str)(ws:List WK):Prop where
 nd:keys.Nodup
 nm:∀k∈keys,Ii k
 fn:∀f∈F,Ii f
 len:ws.length=keys.length
 most:keys.length<=8
 wk:∀(i:Nat) (w:WK),ws[i]? =aA w->Work keys F i w
noncomputable abbrev Qo(keys:List Str)(ws:List WK):D:=.dK (Z3 keys) (ws.map W4)
theorem iS{ks:List Str}(nd:ks.Nodup)(h:n<ks.length):ks[n]∉ks.take n:=λz=>by have e:ks=ks.take n++ks.drop n:=(List.take_append_drop n ks).symm;rw[e]at nd;refine(dm.mp nd).2.2 _ z ks[n] ?_ rfl;rw[dy h];exact aa
theorem Lw(keys F)(nd:keys.Nodup)(TQ:∀k∈keys,Ii k)(hF:F.length=4)(nF:F.Nodup)(hN:∀f∈F,Ii f)(cs)(h8:keys.length<=8)(hc:cs.length=keys.length):∀xs i ws x4 x5 x6 x7 x8 x9 XD,keys.drop i=xs->ws.length=i->(∀j w,ws[j]? =aA w->Work keys F j w)->∃(W_:List WK) (δ:Wa),W_.length=i+xs.length/\(∀j w,W_[j]? =aA w->Work keys F j w)/\δ[3]? =aA (aA (.oK (Z3 (keys.take (i+xs.length))) (W_.map W4)))/\
  Yr (Bv 2 (W0 (Zl 4) (W0 (Zl 5) Ct))) Gen.Ob (((xs.map D.str).zipIdx i).map λp=>D.tup [.int (p.2:Nat),p.1]) (sSt keys F cs (keys.take i) ws x4 x5 x6 x7 x8 x9 XD)=aA (.nx δ)
 | [],i,ws,x4,x5,x6,x7,x8,x9,XD,_,hw,ha=>⟨ws,_,by simpa using hw,ha,rfl,rfl⟩
 |key::xs,i,ws,x4,x5,x6,x7,x8,x9,XD,hd,hw,ha=>by
  have hi:i<keys.length:=by
   rcases Nat.lt_or_ge i keys.length with z|z
   .exact z
   .rw[List.drop_eq_nil_iff.mpr z]at hd;cases hd
  have hk:keys[i]=key:=by rw[dy hi]at hd;exact(List.cons.inj hd).1
  have UW:keys.drop (i+1)=xs:=by rw[dy hi]at hd;exact(List.cons.inj hd).2
  obtain⟨w,y6,y7,y8,y9,WQ,wk,t⟩:=ky keys F TQ hF nF hN cs (keys.take i) ws i hi h8 hc key (by rw[dq hi,hk]) (by rw[<-hk];exact iS nd hi) (by omega) x6 x7 x8 x9 XD;rw[show keys.take i++[key]=keys.take (i+1) by rw[List.take_succ,dq hi,hk];rfl]at t;obtain⟨W_,δ,l',a',e',ih⟩:=Lw keys F nd TQ hF nF hN cs h8 hc xs (i+1) (ws++[w]) (aA (.fz (.int (i:Int)))) (aA (.fz (.str key))) y6 y7 y8 y9 WQ UW (by simp[hw]) (λj v hv=>by
   rcases Nat.lt_or_ge j ws.length with q|q
   .rw[fm q]at hv;exact ha j v hv
   .rw[dv q]at hv;have:j- ws.length=0:=by
     rcases Nat.eq_zero_or_pos (j- ws.length)with r|r
     .exact r
     .rw[List.getElem?_eq_none (by simp;omega)]at hv;cases hv
    rw[this]at hv;cases hv;have:j=i:=by omega
    rw[this];exact wk)
  refine⟨W_,δ,by rw[bc];omega,a',by rw[bc,show i+(xs.length+1)=i+1+xs.length by omega];exact e',?_⟩;rw[bn,List.zipIdx_cons,bn];exact(Ys (by simp) t).trans ih
theorem mj(keys F)(nd:keys.Nodup)(TQ:∀k∈keys,Ii k)(hF:F.length=4)(nF:F.Nodup)(hN:∀f∈F,Ii f)(cs:List Int)(h8:keys.length<=8)(hc:cs.length=keys.length):∃ws,Shelf keys F ws/\Gen.Oi [.lst (keys.map D.str),.lst (F.map D.str),.lst (cs.map D.int)]=aA (.oK (Z3 keys) (ws.map W4)):=by obtain⟨ws,δ,l,a,e,lp⟩:=Lw keys F nd TQ hF nF hN cs h8 hc keys 0 [] aB aB aB aB aB aB aB rfl rfl (λj w h=>by simp at h);rw[Nat.zero_add]at l e;rw[List.take_length]at e;refine⟨ws,⟨nd,TQ,hN,l,h8,a⟩,?_⟩;rw[show(((keys.map D.str).zipIdx 0).map λp=>D.tup [.int (p.2:Nat),p.1])=Am (keys.map D.str)from rfl]at lp;unfold sSt at lp;rw[List.take_zero,show Z3 ([]:List Str)=[]from rfl,List.map_nil]at lp;unfold Gen.Oi Gen.R4;generalize ws.map W4=WD,Z3 keys=KK,keys.map D.str=KD,F.map D.str=FD,cs.map D.int=CD at*;simp[lp,e,-Yr]
theorem fJ{xs:List Str}(nd:xs.Nodup){i:Nat}(h1:xs[i]? =aA x)(h2:xs[j]? =aA x):i=j:=by obtain⟨a,ha⟩:=bf.mp h1;obtain⟨b,hb⟩:=bf.mp h2;exact(List.getElem_inj nd).mp (ha.trans hb.symm)
noncomputable def other(ps:List (Str×Str))(f:Str):Option Str:=(ps.find? λp=>decide (p.1=f)).map (·.2)
noncomputable def OJ(T:TB)(kind:Str):Option (List (Str×Str)):=(T.find? λq=>decide (q.1=kind)).map (·.2)
noncomputable def Lx(T:TB)(kind:Str):List (Str×Str):=(OJ T kind).getD []
theorem wQ(kind):∀T,Z9 (tkS T) (T.map λq=>D.lst (q.2.map Y9)) (b7 kind)=(OJ T kind).map λps=>.lst (ps.map Y9)
 | []=>rfl
 |q::T=>by
  have ih:=wQ kind T;unfold OJ at ih⊢;rw[List.find?_cons];show(if(b7 q.1:L2.Key)=b7 kind then _ else Z9 (tkS T) (T.map λq=>D.lst (q.2.map Y9)) (b7 kind))=_;by_cases h:q.1=kind
  .rw[bJ (by rw[h]),bL h];rfl
  .rw[bI (λz=>h (b7.inj z)),bK h];exact ih
noncomputable def wkO(k:Str):List Str->List WK->Option WK
 |x::xs,w::ws=>if x=k then aA w else wkO k xs ws
 |_,_=>aB
theorem G7(k):∀keys ws,Z9 (Z3 keys) (ws.map W4) (b7 k)=(wkO k keys ws).map W4
 | [],_=>rfl
 |_::_,[]=>rfl
 |x::xs,w::ws=>by
  have ih:=G7 k xs ws;show(if(b7 x:L2.Key)=b7 k then _ else Z9 (Z3 xs) (ws.map W4) (b7 k))=_;unfold wkO;by_cases h:x=k
  .rw[bJ (by rw[h]),bJ h];rfl
  .rw[bI (λz=>h (b7.inj z)),bI h];exact ih
theorem BR:∀{keys:List Str} {ws:List WK} {i:Nat},keys.Nodup->ws.length=keys.length->keys[i]? =aA k->∃w,ws[i]? =aA w/\wkO k keys ws=aA w
 | [],_,_,_,_,h=>by simp at h
 |_::_,[],_,_,e,_=>by simp at e
 |x::xs,w::ws,0,nd,e,h=>by
  have h:x=k:=by simpa using h
  unfold wkO;rw[bJ h];exact⟨w,rfl,rfl⟩
 |x::xs,w::ws,i+1,nd,e,h=>by
  have h:xs[i]? =aA k:=by simpa using h
  have hx:x≠k:=λz=>(cq.mp nd).1 (by rw[z];exact cy h);obtain⟨w',h1,h2⟩:=BR (cq.mp nd).2 (by simpa using e) h;unfold wkO;rw[bI hx];exact⟨w',by simpa using h1,h2⟩
theorem Shelf.at(Sh:Shelf keys F ws)(h:keys[i]? =aA k):∃w,wkO k keys ws=aA w/\Work keys F i w:=by obtain⟨w,h1,h2⟩:=BR Sh.nd Sh.len h;exact⟨w,h2,Sh.wk i w h1⟩
abbrev lkW(w:WK)(f:Str):Option D:=Z9 (w.2.map (·.1)) (Z0 w.2) f
open Classical in
def stp(keys:List Str)(T:TB)(f:Str)(w:WK):Option (Str×Str):=
 match lkW w f with
 |some _=>aB
 |none=>(other (Lx T w.1) f).bind λo=>match lkW w IN with
  |some (.str b)=>if b∈keys then aA (b,o)else aB
  |_=>aB
def nx(keys:List Str)(ws:List WK)(T:TB)(p:Str×Str):Option (Str×Str):=(wkO p.1 keys ws).bind (stp keys T p.2)
theorem C9:∀ps f d,Z9 (ps.map (·.1)) (Z0 ps) f=aA d->∃t,d= .str t/\(f,t)∈ps
 | [],_,_,h=>by cases h
 |p::ps,f,d,h=>by
  have h:(if p.1=f then aA (D.str p.2)else Z9 (ps.map (·.1)) (Z0 ps) f)=aA d:=h;by_cases e:p.1=f
  .rw[bJ e]at h;cases h;exact⟨p.2,rfl,by rw[<-e];exact aa⟩
  .rw[bI e]at h;obtain⟨t,h1,h2⟩:=C9 ps f d h;exact⟨t,h1,ad _ h2⟩
theorem Work.inn(W:Work keys F i w)(fn:∀f∈F,Ii f)(kn:∀k∈keys,Ii k):lkW w IN=aB\/(∃b,b∉keys/\lkW w IN=aA (.str b))\/∃j b,j<i/\keys[j]? =aA b/\lkW w IN=aA (.str b):=by
 cases h:lkW w IN with
 |none=>exact .inl rfl
 |some d=>
  obtain⟨t,rfl,hm⟩:=C9 _ _ _ h;rcases W.all _ hm with⟨z,_⟩|z|⟨_,z|⟨j,hj,z⟩⟩
  .exact bN rfl (FW (fn _ z))
  .exact bN z.symm yu
  .exact .inr (.inl ⟨t,λq=>sM (kn _ q) z,rfl⟩)
  .exact .inr (.inr ⟨j,t,hj,z,rfl⟩)
theorem BQ:∀{keys:List Str} {ws:List WK},k∉keys->wkO k keys ws=aB
 | [],_,_=>rfl
 |_::_,[],_=>rfl
 |x::xs,w::ws,h=>by unfold wkO;rw[bI λz=>h (by rw[z];exact aa)];exact BQ λz=>h (ad _ z)
def ptD:Option (Str×Str)->D
 |none=>.non
 |some p=>Y9 p
noncomputable def oD:Option Str->D
 |none=>.non
 |some o=>.str o
theorem Ly(a0 a1:Option SV)(f:Str):∀(ps:List (Str×Str)) (x3:Option SV),
  match other ps f with
  |some o=>Yr (Zl 3) Gen.W6 (ps.map Y9) [a0,a1,aA (.fz (.str f)),x3]=aA (.rt (.fz (.str o)))
  |none=>∃δ,Yr (Zl 3) Gen.W6 (ps.map Y9) [a0,a1,aA (.fz (.str f)),x3]=aA (.nx δ)
 | [],x3=>⟨_,rfl⟩
 |p::ps,x3=>by
  have run:(Zl 3).run (Y9 p) [a0,a1,aA (.fz (.str f)),x3]=aA [a0,a1,aA (.fz (.str f)),aA (.fz (Y9 p))]:=by simp
  rw[bn];unfold other;rw[List.find?_cons];by_cases h:p.1=f
  .rw[bL h];dsimp only;refine Xi run ?_;unfold Gen.W6;simp[L2.atI,L2.Nf,h]
  .rw[bK h];have hb:Gen.W6 [a0,a1,aA (.fz (.str f)),aA (.fz (Y9 p))]=aA (.nx [a0,a1,aA (.fz (.str f)),aA (.fz (Y9 p))]):=by unfold Gen.W6;simp[L2.atI,L2.Nf,h]
   have ih:=Ly a0 a1 f ps (aA (.fz (Y9 p)));unfold other at ih;dsimp only;generalize Option.map (λx=>x.snd) (List.find? (λp=>decide (p.fst=f)) ps)=o at ih⊢;cases o with
   |none=>obtain⟨δ,e⟩:=ih;exact⟨δ,(Ys run hb).trans e⟩
   |some q=>exact(Ys run hb).trans ih
theorem iR(T kind f):Gen.Jl [Wt T,.str kind,.str f]=aA (.fz (oD (other (Lx T kind) f))):=by
 have tl:=wQ kind T;have l:=Ly (aA (.fz (Wt T))) (aA (.fz (.str kind))) f (Lx T kind) aB;have z0:0<=PySem.sizeLine:=cr _;unfold Lx at l⊢;unfold Wt at l⊢;unfold Gen.Jl Gen.Ci;generalize tkS T=KS,(T.map λq=>D.lst (q.2.map Y9))=VS at*;cases ht:OJ T kind with
 |none=>rw[ht]at tl l;simp only[Option.map_none]at tl;simp only[Option.getD_none]at l⊢;have eo:other [] f=aB:=rfl;rw[eo]at l⊢;obtain⟨δ,e⟩:=l;simp[-Z9,tl,oD,z0]
 |some ps=>
  rw[ht]at tl l;simp only[Option.map_some]at tl;simp only[Option.getD_some]at l⊢;generalize other ps f=o at l⊢;generalize ps.map Y9=PS at*;cases o with
  |none=>obtain⟨δ,e⟩:=l;simp[-Yr,-Z9,tl,e,oD,z0]
  |some o=>simp[-Yr,-Z9,tl,l,oD,z0]
theorem iC(Sh:Shelf keys F ws)(T){i:Nat}(hk:keys[i]? =aA k):
  Gen.Jm [Qo keys ws,Wt T,.tup [.str k,.str f]]=aA (.fz (ptD (nx keys ws T (k,f)))):=by
 obtain⟨w,hw,W⟩:=Sh.at hk;have sl:=G7 k keys ws;rw[hw]at sl;have of:=iR T w.1 f;have en:nx keys ws T (k,f)=stp keys T f w:=by unfold nx;rw[show wkO (k,f).1 keys ws=aA w from hw];rfl
 rw[en];have inn:=W.inn Sh.fn Sh.nm;have no:∀b,b∉keys->Z9 (Z3 keys) (ws.map W4) (b7 b)=aB:=λb hb=>by rw[G7,BQ hb];rfl
 have hin:az "in"=IN:=rfl;have z2:2<=PySem.sizeLine:=Zn (by decide);obtain⟨kind,ps⟩:=w;unfold stp;unfold lkW at inn⊢;dsimp only at inn of⊢;replace sl:Z9 (Z3 keys) (ws.map W4) (b7 k)=aA (.tup [.str kind,.dK (Yi ps) (Z0 ps)]):=sl;have lf:Z9 (Yi ps) (Z0 ps) (b7 f)=Z9 (ps.map (·.1)) (Z0 ps) f:=Og f _ _;have li:Z9 (Yi ps) (Z0 ps) (b7 IN)=Z9 (ps.map (·.1)) (Z0 ps) IN:=Og IN _ _;have sy:∀(j:Nat) (b:Str),keys[j]? =aA b->b∈keys/\∃w',Z9 (Z3 keys) (ws.map W4) (b7 b)=aA (W4 w'):=λj b hb=>by obtain⟨w',h1,_⟩:=Sh.at hb;exact⟨cy hb,w',by rw[G7,h1];rfl⟩
 generalize Wt T=TD at of⊢;generalize other (Lx T kind) f=ot at of⊢;unfold Qo;generalize Z3 keys=KS at sl sy no⊢;generalize ws.map W4=WS at sl sy no⊢;generalize Yi ps=XS at sl lf li⊢;generalize Z9 (ps.map (·.1)) (Z0 ps) f=A at lf⊢;generalize Z9 (ps.map (·.1)) (Z0 ps) IN=B at li inn⊢;generalize Z0 ps=vs at sl lf li⊢;unfold Gen.Jm Gen.Cj;refine FH ?_;refine Q6 (δ1:=[aA (.fz (.dK KS WS)),aA (.fz TD),aA (.fz (.tup [.str k,.str f])),aA (.fz (.tup [.str kind,.dK XS vs])),aB,aB,aB]) (by simp[-Z9,L2.atI,L2.Nf,sl]) ?_;refine Q6 (δ1:=[aA (.fz (.dK KS WS)),aA (.fz TD),aA (.fz (.tup [.str k,.str f])),aA (.fz (.tup [.str kind,.dK XS vs])),aA (.fz (.dK XS vs)),aB,aB]) (by simp[L2.atI,L2.Nf]) ?_;cases A with
 |some v=>refine sk ?_;simp[-Z9,L2.atI,L2.Nf,lf,ptD]
 |none=>
  refine Q6 (δ1:=[aA (.fz (.dK KS WS)),aA (.fz TD),aA (.fz (.tup [.str k,.str f])),aA (.fz (.tup [.str kind,.dK XS vs])),aA (.fz (.dK XS vs)),aB,aB]) (by simp[-Z9,L2.atI,L2.Nf,lf]) ?_;refine Q6 (δ1:=[aA (.fz (.dK KS WS)),aA (.fz TD),aA (.fz (.tup [.str k,.str f])),aA (.fz (.tup [.str kind,.dK XS vs])),aA (.fz (.dK XS vs)),aA (.fz (oD ot)),aB]) (by
   cases ot<;> dsimp only[oD]at of⊢<;> simp[L2.atI,L2.Nf,of]) ?_
  refine Q6 (δ1:=[aA (.fz (.dK KS WS)),aA (.fz TD),aA (.fz (.tup [.str k,.str f])),aA (.fz (.tup [.str kind,.dK XS vs])),aA (.fz (.dK XS vs)),aA (.fz (oD ot)),aA (.fz (B.getD .non))]) (by simp[-Z9,hin,li]) ?_;clear of lf sl li;cases ot with
  |none=>simp[oD,ptD]
  |some o=>
   rcases inn with e|⟨b,hb,e⟩|⟨j,b,TR,hb,e⟩
   .subst e;simp[oD,ptD]
   .subst e;have nb:=no b hb;simp[-Z9,oD,nb,hb,ptD]
   .subst e;obtain⟨mb,w',s0⟩:=sy j b hb;simp[-Z9,oD,s0,mb,ptD,z2]
noncomputable abbrev PR:=Str×Str
noncomputable def plc(done:List PR)(p:PR):Nat:=done.findIdx λx=>decide (x=p)
noncomputable def Fc(f:PR->Option PR):Nat->List PR->PR->Option (List PR×Option PR)
 |0,_,_=>aB
 |n+1,done,p=>if p∈done then aA (done,aA p)else match f p with
  |none=>aA (done++[p],aB)
  |some q=>Fc f n (done++[p]) q
noncomputable abbrev kf(p:PR):List L2.Key:=[.inr p.1,.inr p.2]
theorem zW(h:kf a=kf b):a=b:=by simp only[List.cons.injEq,and_true]at h;exact Prod.ext (b7.inj h.1) (b7.inj h.2)
noncomputable def Os:Nat->Nat->List D
 |_,0=>[]
 |s,n+1=>.int (s:Int)::Os (s+1) n
theorem Si:∀n s,(Os s n).length=n
 |0,_=>rfl
 |n+1,s=>by show(Os (s+1) n).length+1=_;rw[Si n]
theorem Lz:∀n s,Os s n++[.int ((s+n:Nat):Int)]=Os s (n+1)
 |0,s=>rfl
 |n+1,s=>by show D.int (s:Int)::(Os (s+1) n++[.int ((s+(n+1):Nat):Int)])=D.int (s:Int)::Os (s+1) (n+1);rw[<-Lz n (s+1),show s+(n+1)=s+1+n by omega]
theorem yt(p):∀done s,Z9 (done.map kf) (Os s done.length) (kf p)=if p∈done then aA (.int ((s+plc done p:Nat):Int))else aB
 | [],s=>by simp
 |a::done,s=>by
  have ih:=yt p done (s+1);show(if kf a=kf p then aA (D.int (s:Int))else Z9 (done.map kf) (Os (s+1) done.length) (kf p))=_;unfold plc;rw[List.findIdx_cons];by_cases h:a=p
  .subst h;simp
  .rw[bI (λz=>h (zW z)),ih,bK h];have h':¬p=a:=λz=>h z.symm;by_cases hm:p∈done
   .rw[bJ hm,bJ (ad _ hm)];simp only[cond_false];unfold plc;congr 3;omega
   .rw[bI hm,bI (by simp[h',hm])]
theorem sG(h:p∉done)(vs v):Yw (done.map kf) vs (kf p) v=((done++[p]).map kf,vs++[v]):=by
 have hm:kf p∉done.map kf:=λz=>by obtain⟨a,ha,e⟩:=bd.mp z;exact h (by rw[<-zW e];exact ha)
 unfold Yw;simp[hm]
theorem yr{α β:Type}(g:α->β)(l:List α):(l.map g).length=l.length:=ay ..
section
variable{keys F:List Str}{ws:List WK}(Sh:Shelf keys F ws){T:TB}
abbrev stW(keys:List Str)(ws:List WK)(T:TB)(a2 a3:Option SV)(done:List PR)(ux:D):Wa:=[aA (.fz (Qo keys ws)),aA (.fz (Wt T)),a2,a3,aA (.ol (done.map Y9)),aA (.oT (done.map kf) (Os 0 done.length)),aA (.fz ux)]
include Sh in
theorem p9(a2 a3:Option SV){i:Nat}{done:List PR}{p:PR}(hp:keys[i]? =aA p.1)(hm:p∉done)(hl:done.length<=1000):
  Gen.Fu (stW keys ws T a2 a3 done (Y9 p))=aA (.nx (stW keys ws T a2 a3 (done++[p]) (ptD (nx keys ws T p)))):=by
 have pb:=iC Sh T (f:=p.2) hp;have lk:=yt p done 0;rw[bI hm]at lk;have pk:=sG hm (Os 0 done.length) (.int (done.length:Int));have is:=Lz done.length 0;rw[Nat.zero_add]at is;rw[is]at pk;have zv:(Os 0 done.length).length<PySem.sizeLine:=Y2 (by rw[Si];omega);have zd:(done.map Y9).length<PySem.sizeLine:=Y2 (by rw[yr];omega);have RB:(done.map Y9).length=done.length:=yr _ _;have ET:done.length<PySem.sizeLine:=Y2 (by omega);have e1:(done++[p]).map Y9=done.map Y9++[Y9 p]:=by rw[cm];rfl
 have e2:Os 0 (done++[p]).length=Os 0 (done.length+1):=by rw[ao];rfl
 unfold stW;rw[e1,e2];obtain⟨k,f⟩:=p;have en:nx keys ws T (k,f)=nx keys ws T ((k,f).1,(k,f).2):=rfl;dsimp only at pb lk pk⊢;generalize nx keys ws T (k,f)=q at pb⊢;generalize Qo keys ws=SD at pb⊢;generalize Wt T=TD at pb⊢;generalize done.map Y9=DM,done.map kf=DK,(done++[(k,f)]).map kf=DK2,Os 0 done.length=VS at*;unfold Gen.Fu;cases q with
 |none=>simp only[ptD]at pb;simp[-Z9,-Yw,lk,pk,zv,zd,RB,ET,pb,ptD]
 |some q=>obtain⟨j,o⟩:=q;simp only[ptD]at pb;simp[-Z9,-Yw,lk,pk,zv,zd,RB,ET,pb,ptD]
theorem mi(a2 a3 done)(p:PR):Gen.Mt (stW keys ws T a2 a3 done (Y9 p))=aA (aC,stW keys ws T a2 a3 done (Y9 p)):=by unfold Gen.Mt stW;simp
theorem mh(a2 a3 done):Gen.Mt (stW keys ws T a2 a3 done .non)=aA (aD,stW keys ws T a2 a3 done .non):=by unfold Gen.Mt stW;simp
theorem yq{i:Nat}{p q:PR}(Sh:Shelf keys F ws)(hp:keys[i]? =aA p.1)(h:nx keys ws T p=aA q):∃j,j<i/\keys[j]? =aA q.1:=by
 unfold nx at h;refine cR h λw hw h=>?_;obtain⟨w',h1,W⟩:=Sh.at hp;rw[hw]at h1;cases h1;unfold stp at h;split at h
 .cases h
 .refine cR h λo ho h=>?_;rcases W.inn Sh.fn Sh.nm with e|⟨b,hb,e⟩|⟨j,b,TR,hb,e⟩
  .rw[e]at h;cases h
  .rw[e]at h;dsimp only at h;rw[bI hb]at h;cases h
  .rw[e]at h;dsimp only at h;rw[bJ (cy hb)]at h;cases h;exact⟨j,TR,hb⟩
include Sh in
theorem yp:∀(n i:Nat) (done:List PR) (p:PR),keys[i]? =aA p.1->(∀d∈done,∃a,i<a/\keys[a]? =aA d.1)->i<n->∃l q,Fc (nx keys ws T) n done p=aA (l++[q],aB)/\∃j:Nat,keys[j]? =aA q.1
 |0,i,done,p,hp,_,h=>by omega
 |n+1,i,done,p,hp,hd,h=>by
  have hm:p∉done:=λz=>by obtain⟨a,ha,hk⟩:=hd p z;have:=fJ Sh.nd hk hp;omega
  unfold Fc;rw[bI hm];cases e:nx keys ws T p with
  |none=>exact⟨done,p,rfl,i,hp⟩
  |some q=>
   obtain⟨j,TR,hq⟩:=yq Sh hp e;exact yp n j (done++[p]) q hq (λd UW=>by
    rcases bo.mp UW with z|z
    .obtain⟨a,ha,hk⟩:=hd d z;exact⟨a,by omega,hk⟩
    .rw[af.mp z];exact⟨i,TR,hp⟩) (by omega)
include Sh in
theorem Sj(a2 a3:Option SV):∀(n VL i:Nat) (done:List PR) (p:PR) (l:List PR),Fc (nx keys ws T) n done p=aA (l,aB)->keys[i]? =aA p.1->n+2<=VL->done.length+n<=500->
  ∃δ,Ju Gen.Mt Gen.Fu VL (stW keys ws T a2 a3 done (Y9 p))=aA (.nx δ)/\δ[4]? =aA (aA (.ol (l.map Y9)))
 |0,_,_,_,_,_,h,_,_,_=>by cases h
 |n+1,0,_,_,_,_,_,_,h,_=>by omega
 |n+1,VL+1,i,done,p,l,h,hp,hf,hl=>by
  unfold Fc at h;by_cases hm:p∈done
  .rw[bJ hm]at h;cases h
  .rw[bI hm]at h;have hs:=p9 Sh (T:=T) a2 a3 hp hm (by omega);rw[E6 (mi a2 a3 done p) hs];cases e:nx keys ws T p with
   |none=>
    rw[e]at h;cases h;obtain⟨fuel',rfl⟩:∃m,VL=m+1:=⟨VL- 1,by omega⟩
    exact⟨_,Tz (mh a2 a3 _),rfl⟩
   |some q=>rw[e]at h;obtain⟨j,_,hq⟩:=yq Sh hp e;exact Sj a2 a3 n VL j (done++[p]) q l h hq (by omega) (by rw[ao,b4];omega)
def tx(keys:List Str)(ws:List WK)(p:PR):Option D:=(wkO p.1 keys ws).bind λw=>lkW w p.2
noncomputable def OI(l:List PR):PR:=l.getLast?.getD ("","")
theorem kx(l q):OI (l++[q])=q:=by unfold OI;simp
def hd(keys:List Str)(ws:List WK)(T:TB)(p:PR):Option D:=(Fc (nx keys ws T) 60 [] p).bind λr=>tx keys ws (OI r.1)
include Sh in
theorem FC{i:Nat}{p:PR}(hp:keys[i]? =aA p.1):∃l q,Fc (nx keys ws T) 60 [] p=aA (l++[q],aB)/\(∃j:Nat,keys[j]? =aA q.1)/\hd keys ws T p=tx keys ws q:=by have:=Sh.most;have hi:=(bf.mp hp).1;obtain⟨l,q,h,hq⟩:=yp Sh (T:=T) 60 i [] p hp (λ_ h=>nomatch h) (by omega);refine⟨l,q,h,hq,?_⟩;unfold hd;rw[h];show tx keys ws (OI (l++[q]))=_;rw[kx]
include Sh in
theorem HU{j:Nat}{q:PR}(hq:keys[j]? =aA q.1):∃(kind:Str) (ps:PS),Z9 (Z3 keys) (ws.map W4) (b7 q.1)=aA (.tup [.str kind,.dK (Yi ps) (Z0 ps)])/\Work keys F j (kind,ps)/\tx keys ws q=Z9 (ps.map (·.1)) (Z0 ps) q.2:=by obtain⟨w,hw,W⟩:=Sh.at hq;have sl:=G7 q.1 keys ws;rw[hw]at sl;refine⟨w.1,w.2,sl,W,?_⟩;unfold tx;rw[hw];rfl
include Sh in
theorem zV{i:Nat}{p:PR}(hp:keys[i]? =aA p.1){d:D}(h:hd keys ws T p=aA d):∃s:Str,d= .str s/\s.length<=100:=by obtain⟨l,q,_,⟨j,hq⟩,e⟩:=FC Sh (T:=T) hp;obtain⟨kind,ps,_,W,ht⟩:=HU Sh hq;rw[e,ht]at h;obtain⟨t,rfl,hm⟩:=C9 _ _ _ h;exact⟨t,rfl,W.len _ hm⟩
include Sh in
theorem sE{i:Nat}{p:PR}(hp:keys[i]? =aA p.1){l:List PR}(h:Fc (nx keys ws T) 60 [] p=aA (l,aB)):Gen.OZ [Qo keys ws,Wt T,.str p.1,.str p.2]=aA (.ol (l.map Y9)):=by obtain⟨δ,e,h4⟩:=Sj Sh (T:=T) (aA (.fz (.str p.1))) (aA (.fz (.str p.2))) 60 1000 i [] p l h hp (by decide) (by decide);have z2:2<=PySem.sizeLine:=Zn (by decide);unfold stW at e;rw[show([]:List PR).map Y9=[]from rfl,show([]:List PR).map kf=[]from rfl,show Os 0 ([]:List PR).length=[]from rfl]at e;generalize Qo keys ws=SD at e⊢;generalize Wt T=TD at e⊢;unfold Gen.OZ Gen.GB;simp[z2,e,h4]
include Sh in
theorem sD{i:Nat}{p:PR}(hp:keys[i]? =aA p.1):Gen.B1 [Qo keys ws,Wt T,.str p.1,.str p.2]=aA (.fz ((hd keys ws T p).getD .non)):=by
 obtain⟨l,q,h,⟨j,hq⟩,e⟩:=FC Sh (T:=T) hp;have wo:=sE Sh (T:=T) hp h;obtain⟨kind,ps,sl,W,ht⟩:=HU Sh hq;rw[e,ht];have al:L2.atI ((l++[q]).map Y9) (-1)=aA (Y9 q):=by rw[cm];exact oq _ _
 have lf:Z9 (Yi ps) (Z0 ps) (b7 q.2)=Z9 (ps.map (·.1)) (Z0 ps) q.2:=Og q.2 _ _;have a0:L2.atI [D.str q.1,.str q.2] 0=aA (.str q.1):=rfl;have a1:L2.atI [D.str q.1,.str q.2] 1=aA (.str q.2):=rfl;have a2:L2.atI [D.str kind,.dK (Yi ps) (Z0 ps)] 1=aA (.dK (Yi ps) (Z0 ps)):=rfl;have lm:=C9 ps q.2;unfold Qo at wo⊢;generalize (l++[q]).map Y9=DM at*;generalize Wt T=TD at wo⊢;generalize Z3 keys=KS,ws.map W4=WS,Yi ps=XS,ps.map (·.1)=xs,Z0 ps=vs at*;unfold Gen.B1 Gen.GA;cases hl:Z9 xs vs q.2 with
 |none=>rw[hl]at lf;simp[-Z9,wo,al,a0,a1,a2,sl,lf]
 |some v=>rw[hl]at lf;obtain⟨s,rfl,_⟩:=lm v hl;simp[-Z9,wo,al,a0,a1,a2,sl,lf]
end
theorem ku(hT:TOk F T)(h:other (Lx T kind) f=aA o):o∈F:=by
 unfold other at h;obtain⟨p,hp,rfl⟩:=ez.mp h;have hm:=List.mem_of_find?_eq_some hp;unfold Lx OJ at hm;cases e:T.find? (λq=>decide (q.1=kind))with
 |none=>rw[e]at hm;cases hm
 |some q=>rw[e]at hm;exact(hT q (List.mem_of_find?_eq_some e) p hm).2
section
variable{keys F:List Str}{ws:List WK}(Sh:Shelf keys F ws){T:TB}(hT:TOk F T)
include hT in
theorem sC{p q:PR}(h:nx keys ws T p=aA q):q.2∈F:=by
 unfold nx at h;refine cR h λw hw h=>?_;unfold stp at h;cases e:lkW w p.2 with
 |some d=>rw[e]at h;cases h
 |none=>
  rw[e]at h;refine cR h λo ho h=>?_;have hm:=ku hT ho;cases e2:lkW w IN with
  |none=>rw[e2]at h;cases h
  |some d=>
   rw[e2]at h;cases d with
   |str b=>
    dsimp only at h;split at h
    .cases h;exact hm
    .cases h
   |_=>cases h
include hT in
theorem yo:∀(n:Nat) (done:List PR) (p:PR) (l:List PR) (q:PR),Fc (nx keys ws T) n done p=aA (l++[q],aB)->p.2∈F->q.2∈F
 |0,_,_,_,_,h,_=>by cases h
 |n+1,done,p,l,q,h,hp=>by
  unfold Fc at h;by_cases hm:p∈done
  .rw[bJ hm]at h;cases h
  .rw[bI hm]at h;cases e:nx keys ws T p with
   |none=>rw[e]at h;have h:=(Prod.mk.inj (Option.some.inj h)).1;have:=(List.append_inj' h rfl).2;cases this;exact hp
   |some r=>rw[e]at h;exact yo n (done++[p]) r l q h (sC hT e)
def hS(keys:List Str)(ws:List WK)(T:TB)(k g:Str):Option Str:=match hd keys ws T (k,g)with
 |some (.str s)=>aA s
 |_=>aB
include Sh in
theorem zU{i:Nat}{k:Str}(hk:keys[i]? =aA k)(g:Str):Gen.B1 [Qo keys ws,Wt T,.str k,.str g]=aA (.fz (oD (hS keys ws T k g))):=by
 rw[sD Sh (T:=T) (p:=(k,g)) hk];unfold hS;cases e:hd keys ws T (k,g)with
 |none=>rfl
 |some d=>obtain⟨s,rfl,_⟩:=zV Sh (T:=T) (p:=(k,g)) hk e;rfl
include Sh hT in
theorem HS{i:Nat}{k g:Str}(hk:keys[i]? =aA k)(hg:g∈F){t:Str}(h:hS keys ws T k g=aA t):t∈PVL:=by
 unfold hS at h;cases e:hd keys ws T (k,g)with
 |none=>rw[e]at h;cases h
 |some d=>
  obtain⟨s,rfl,_⟩:=zV Sh (T:=T) (p:=(k,g)) hk e;rw[e]at h;cases h;obtain⟨l,q,hr,⟨j,hq⟩,eq⟩:=FC Sh (T:=T) (p:=(k,g)) hk;have qf:=yo hT _ _ _ _ _ hr hg;obtain⟨kind,ps,_,W,ht⟩:=HU Sh hq;rw[eq,ht]at e;obtain⟨t,et,hm⟩:=C9 _ _ _ e;cases et;rcases W.all _ hm with⟨_,z⟩|z|⟨z,_⟩
  .exact z
  .exact bN z (wS (Sh.fn _ qf))
  .exact bN z (FW (Sh.fn _ qf))
end
noncomputable def Yq(h:Str->Option Str)(gs:List Str):PS:=gs.filterMap λg=>(h g).map λt=>(g,t)
theorem Q7:p∈Yq h gs↔p.1∈gs/\h p.1=aA p.2:=by
 unfold Yq;rw[List.mem_filterMap];constructor
 .rintro⟨g,hg,e⟩;obtain⟨t,ht,rfl⟩:=ez.mp e;exact⟨hg,ht⟩
 .rintro⟨a,b⟩;exact⟨p.1,a,by rw[b];rfl⟩
theorem wP(SD TD k h)(hh:∀g,Gen.B1 [SD,TD,.str k,.str g]=aA (.fz (oD (h g))))(a3):∀gs ds x5 x6,(ds++gs).Nodup->ds.length+gs.length<=900->
  ∃y5 y6,Yr (Zl 5) Gen.B2 (gs.map D.str) [aA (.fz SD),aA (.fz TD),aA (.fz (.str k)),a3,aA (.oK (Yi (Yq h ds)) (Z0 (Yq h ds))),x5,x6]=aA (.nx [aA (.fz SD),aA (.fz TD),aA (.fz (.str k)),a3,aA (.oK (Yi (Yq h (ds++gs))) (Z0 (Yq h (ds++gs)))),y5,y6])
 | [],ds,x5,x6,_,_=>⟨x5,x6,by rw[de];rfl⟩
 |g::gs,ds,x5,x6,nd,hl=>by
  rw[bc]at hl;have e:=hh g;have zl:(Yq h ds).length<=ds.length:=List.length_filterMap_le _ _;have zv:(Z0 (Yq h ds)).length<PySem.sizeLine:=Y2 (by simp;omega);have fr:g∉(Yq h ds).map (·.1):=λz=>by obtain⟨p,hp,rfl⟩:=bd.mp z;exact(dm.mp nd).2.2 _ (Q7.mp hp).1 p.1 aa rfl
  have ap:Yq h (ds++[g])=Yq h ds++(match h g with|some t=>[(g,t)]|none=>[]):=by unfold Yq;rw[List.filterMap_append];cases e:h g<;> simp[e]
  obtain⟨y5,y6,ih⟩:=wP SD TD k h hh a3 gs (ds++[g]) (aA (.fz (.str g))) (aA (.fz (oD (h g)))) (by rw[cg];exact nd) (by rw[ao,b4];omega);rw[cg]at ih;refine⟨y5,y6,(Ys (δ1:=[aA (.fz SD),aA (.fz TD),aA (.fz (.str k)),a3,aA (.oK (Yi (Yq h ds)) (Z0 (Yq h ds))),aA (.fz (.str g)),x6]) rfl ?_).trans ih⟩;rw[ap];cases hg:h g with
  |none=>rw[hg]at e;have e:Gen.B1 [SD,TD,.str k,.str g]=aA (.fz .non):=e;rw[de];show _=aA (Fl.nx [aA (.fz SD),aA (.fz TD),aA (.fz (.str k)),a3,aA (.oK (Yi (Yq h ds)) (Z0 (Yq h ds))),aA (.fz (.str g)),aA (.fz .non)]);generalize Yi (Yq h ds)=KA,Z0 (Yq h ds)=VA at*;unfold Gen.B2;simp[e]
  |some t=>
   rw[hg]at e;have e:Gen.B1 [SD,TD,.str k,.str g]=aA (.fz (.str t)):=e;have pp:Yw (Yi (Yq h ds)) (Z0 (Yq h ds)) (b7 g) (.str t)=(Yi (Yq h ds++[(g,t)]),Z0 (Yq h ds++[(g,t)])):=by unfold Yi Z0;rw[Q3,Uh fr];simp
   show _=aA (Fl.nx [aA (.fz SD),aA (.fz TD),aA (.fz (.str k)),a3,aA (.oK (Yi (Yq h ds++[(g,t)])) (Z0 (Yq h ds++[(g,t)]))),aA (.fz (.str g)),aA (.fz (.str t))]);generalize Yi (Yq h ds++[(g,t)])=KB,Z0 (Yq h ds++[(g,t)])=VB at*;generalize Yi (Yq h ds)=KA,Z0 (Yq h ds)=VA at*;unfold Gen.B2;simp[-Yw,e,zv,pp]
theorem all_had(SD TD k h)(hh:∀g,Gen.B1 [SD,TD,.str k,.str g]=aA (.fz (oD (h g))))(gs)(nd:gs.Nodup)(hl:gs.length<=900):Gen.C4 [SD,TD,.str k,.lst (gs.map D.str)]=aA (.oK (Yi (Yq h gs)) (Z0 (Yq h gs))):=by obtain⟨y5,y6,e⟩:=wP SD TD k h hh (aA (.fz (.lst (gs.map D.str)))) gs [] aB aB nd (by simpa using hl);rw[cz,show Yi (Yq h [])=[]from rfl,show Z0 (Yq h [])=[]from rfl]at e;unfold Gen.C4 Gen.Ic;exact evX
theorem Fe:¬FLD=GRP:=by decide+kernel
def Ur:Nat->D->List Str
 |0,_=>[]
 |n+1,.tup [.str k,.tup xs]=>if k=GRP then xs.flatMap (Ur n)else(strs? xs).getD []
 |_+1,.tup [.str _,.str s,_,_]=>[s]
 |_+1,_=>[]
theorem FB(n l):Ur (n+1) (Fb l)=[]:=rfl
theorem Xq(n ns):Ur (n+1) (Nv ns)=ns:=by unfold Nv Ur;rw[bI Fe,W9];rfl
theorem Xr(n nm a b):Ur (n+1) (Sd nm a b)=[S nm]:=rfl
theorem Xs(n ds):Ur (n+1) (Ix ds)=ds.flatMap (Ur n):=by unfold Ix;rw[Ur,bJ rfl]
def RO(P:Str->Prop)(d:D):Prop:=∀n,∀s∈Ur n d,P s
theorem zj(l):RO P (Fb l):=λn s h=>by
 cases n with
 |zero=>exact nomatch h
 |succ n=>rw[FB]at h;exact nomatch h
theorem sB(h0:∀s∈ns,P s):RO P (Nv ns):=λn s h=>by
 cases n with
 |zero=>exact nomatch h
 |succ n=>rw[Xq]at h;exact h0 s h
theorem sA(h0:P (S nm))(a b):RO P (Sd nm a b):=λn s h=>by
 cases n with
 |zero=>exact nomatch h
 |succ n=>rw[Xr]at h;rw[af.mp h];exact h0
theorem t_(h0:∀d∈ds,RO P d):RO P (Ix ds):=λn s h=>by
 cases n with
 |zero=>exact nomatch h
 |succ n=>rw[Xs]at h;obtain⟨d,hd,hs⟩:=List.mem_flatMap.mp h;exact h0 d hd n s hs
noncomputable def Ut:List Str->List Str->List Str
 |acc,[]=>acc
 |acc,x::xs=>if x∈acc then Ut acc xs else Ut (acc++[x]) xs
theorem Eg:∀acc xs s,s∈acc->s∈Ut acc xs
 |acc,[],s,h=>h
 |acc,x::xs,s,h=>by
  rw[Ut];split
  .exact Eg acc xs s h
  .exact Eg _ xs s (ci _ h)
theorem L0:∀acc xs s,s∈xs->s∈Ut acc xs
 |acc,x::xs,s,h=>by
  rw[Ut];rcases ba.mp h with z|z
  .subst z;split
   .rename_i hx;exact Eg acc xs s hx
   .exact Eg _ xs s (bp _ (af.mpr rfl))
  .split
   .exact L0 acc xs s z
   .exact L0 _ xs s z
theorem Mf:∀acc xs s,s∈Ut acc xs->s∈acc\/s∈xs
 |acc,[],s,h=>.inl h
 |acc,x::xs,s,h=>by
  rw[Ut]at h;split at h
  .rcases Mf acc xs s h with z|z
   .exact .inl z
   .exact .inr (ad _ z)
  .rcases Mf _ xs s h with z|z
   .rcases bo.mp z with z|z
    .exact .inl z
    .rw[af.mp z];exact .inr aa
   .exact .inr (ad _ z)
theorem Eh:∀acc xs,(Ut acc xs).length<=acc.length+xs.length
 |acc,[]=>bg _
 |acc,x::xs=>by
  rw[Ut];split
  .have:=Eh acc xs;rw[bc];omega
  .have:=Eh (acc++[x]) xs;rw[ao,b4]at this;rw[bc];omega
theorem G8:∀acc xs,acc.Nodup->(Ut acc xs).Nodup
 |acc,[],h=>h
 |acc,x::xs,h=>by
  rw[Ut];split
  .exact G8 acc xs h
  .rename_i hx;refine G8 _ xs (dm.mpr ⟨h,cq.mpr ⟨List.not_mem_nil,cx⟩,λa ha b hb=>?_⟩);rw[af.mp hb];intro z;rw[z]at ha;exact hx ha
theorem vI:¬SGS=HDS:=by decide+kernel
theorem vH:¬SGS=GRP:=by decide+kernel
theorem hZ:¬HDS=GRP:=by decide+kernel
theorem yn:∀n d ts,Cm n d ts->(Ur n d).length<=4*nc ts
 |0,_,_,h=>h.elim
 |n+1,d,ts,h=>by
  rcases h with⟨l,h1,rfl,rfl⟩|⟨ns,h0,h1,h2,rfl,rfl⟩|⟨nm,a,b,h1,h2,h3,h4,rfl,rfl⟩|⟨qs,h0,h1,h2,rfl,rfl⟩
  .rw[FB];exact cr _
  .rw[Xq,ay];exact h1
  .rw[Xr];show 1<=4*1;decide
  .rw[Xs];show _<=4*nc (.op::(Y7 qs++[.cl]));rw[FZ];have:∀qs:List (D×List Tk),(∀q∈qs,Cm n q.1 q.2)->((qs.map (·.1)).flatMap (Ur n)).length<=4*nc (Y7 qs):=by
    intro qs;induction qs with
    |nil=>intro _;exact cr _
    |cons q qs ih=>intro h;have a:=yn n q.1 q.2 (h q aa);have b:=ih λp hp=>h p (ad _ hp);have e:Y7 (q::qs)=q.2++Y7 qs:=rfl;rw[bn,d6,ao,e,Cn];omega
   have:=this qs h2;omega
theorem wO:∀qs:List (D×List Tk),(∀q∈qs,Cm n q.1 q.2)->((qs.map (·.1)).flatMap (Ur n)).length<=4*nc (Y7 qs)
 | [],_=>cr _
 |q::qs,h=>by have a:=yn n q.1 q.2 (h q aa);have b:=wO qs λp hp=>h p (ad _ hp);have e:Y7 (q::qs)=q.2++Y7 qs:=rfl;rw[bn,d6,ao,e,Cn];omega
theorem Iy(r A):∀(qs:List (D×List Tk)) zs x,(∀q∈qs,∀zs,zs.length+(Ur n q.1).length<=10000->Gen.Wq r [A,aA (.ol (zs.map D.str)),aA (.fz q.1)]=aA (.nx [A,aA (.ol ((zs++Ur n q.1).map D.str)),aA (.fz q.1)]))->zs.length+((qs.map (·.1)).flatMap (Ur n)).length<=10000->∃x',Yr (Zl 2) (Gen.Wq r) (qs.map (·.1)) [A,aA (.ol (zs.map D.str)),x]=aA (.nx [A,aA (.ol ((zs++(qs.map (·.1)).flatMap (Ur n)).map D.str)),x'])
 | [],zs,x,_,_=>⟨x,by simp⟩
 |q::qs,zs,x,h,hl=>by rw[bn,d6,ao]at hl;obtain⟨x',e⟩:=Iy r A qs (zs++Ur n q.1) (aA (.fz q.1)) (λp hp=>h p (ad _ hp)) (by rw[ao];omega);have e1:=h q aa zs (by omega);refine⟨x',?_⟩;rw[bn,d6,<-cg];exact(Ys (δ1:=[A,aA (.ol (zs.map D.str)),aA (.fz q.1)]) (by simp) e1).trans e
theorem Sk(ih:∀d ts,Cm n d ts->∀m,n<=m+1->∀A zs,zs.length+(Ur n d).length<=10000->Gen.Wq (Gen.Wk m) [A,aA (.ol (zs.map D.str)),aA (.fz d)]=aA (.nx [A,aA (.ol ((zs++Ur n d).map D.str)),aA (.fz d)]))(qs:List (D×List Tk))(h:∀q∈qs,Cm n q.1 q.2)(hL:((qs.map (·.1)).flatMap (Ur n)).length<=10000)(hk:n<=k+1):Gen.Wk (k+1) [.tup (qs.map (·.1))]=aA (.ol (((qs.map (·.1)).flatMap (Ur n)).map D.str)):=by
 obtain⟨x',c⟩:=Iy (n:=n) (Gen.Wk k) (aA (.fz (.tup (qs.map (·.1))))) qs [] aB (λq hq zs hz=>ih q.1 q.2 (h q hq) k hk _ zs hz) (by simpa using hL);rw[cz]at c;have c:Yr (Zl 2) (Gen.Wq (Gen.Wk k)) (qs.map (·.1)) [aA (.fz (.tup (qs.map (·.1)))),aA (.ol []),aB]=_:=c;generalize ((qs.map (·.1)).flatMap (Ur n)).map D.str=NS at*;generalize qs.map (·.1)=DS at*;unfold Gen.Wk Gen.Be;simp[-Yr,c]
theorem zi:∀n d ts,Cm n d ts->∀m,n<=m+1->∀A zs,zs.length+(Ur n d).length<=10000->Gen.Wq (Gen.Wk m) [A,aA (.ol (zs.map D.str)),aA (.fz d)]=aA (.nx [A,aA (.ol ((zs++Ur n d).map D.str)),aA (.fz d)])
 |0,_,_,h,_,_=>h.elim
 |n+1,d,ts,h,m,hm=>by
  intro A zs hz;rcases h with⟨l,h1,rfl,rfl⟩|⟨ns,h0,h1,h2,rfl,rfl⟩|⟨nm,a,b,h1,h2,h3,h4,rfl,rfl⟩|⟨qs,h0,h1,h2,rfl,rfl⟩
  .rw[FB,de];generalize Gen.Wk m=r,zs.map D.str=ZS;unfold Gen.Wq Fb;simp[T8,Ls,OY,Lp,OX,HY,wz,vI,vH]
  .rw[Xq]at hz⊢;rw[cm];have y:(zs.map D.str).length+((ns.map S).map D.str).length<=PySem.sizeLine:=Zn (by rw[ay,ay (as:=ns.map S)];omega);generalize Gen.Wk m=r;unfold Nv;generalize zs.map D.str=ZS,(ns.map S).map D.str=NS at*;unfold Gen.Wq;simp[T8,Ls,Lp,y]
  .rw[Xr]at hz⊢;rw[cm];have y:(zs.map D.str).length<PySem.sizeLine:=Y2 (by rw[ay];omega);generalize Gen.Wk m=r;show _=aA (Fl.nx [A,aA (.ol (zs.map D.str++[.str (S nm)])),aA (.fz (Sd nm a b))]);unfold Sd;generalize zs.map D.str=ZS at*;unfold Gen.Wq;simp[MR,HV,Lp,OX,IR,y]
  .have n1:1<=n:=by
    cases n with
    |succ k=>omega
    |zero=>
     cases qs with
     |nil=>exact bN rfl h0
     |cons q r=>exact(h2 q aa).elim
   rw[Xs]at hz⊢;rw[cm];obtain⟨k,rfl⟩:∃k,m=k+1:=⟨m- 1,by omega⟩
   have st:=Sk (k:=k) (zi n) qs h2 (by omega) (by omega);have y:(zs.map D.str).length+(((qs.map (·.1)).flatMap (Ur n)).map D.str).length<=PySem.sizeLine:=Zn (by rw[ay,ay (f:=D.str)];omega);unfold Ix;generalize ((qs.map (·.1)).flatMap (Ur n)).map D.str=NS at*;generalize qs.map (·.1)=DS,zs.map D.str=ZS,Gen.Wk (k+1)=r at*;unfold Gen.Wq;simp[T8,Ls,Lp,OX,HY,IQ,IP,st,y]
theorem wN(x):∀ks:List Str,((ks.zip (ks.map λ_=>D.bl aC)).map λp=>if p.1=x then D.bl aC else p.2)=ks.map λ_=>D.bl aC
 | []=>rfl
 |k::ks=>by have ih:=wN x ks;rw[bn,List.zip_cons_cons,bn,ih,ite_self]
theorem m9(x)(ks:List Str):Yw ks (ks.map λ_=>D.bl aC) x (.bl aC)=(if x∈ks then ks else ks++[x],(if x∈ks then ks else ks++[x]).map λ_=>D.bl aC):=by
 unfold Yw;by_cases h:x∈ks
 .rw[bJ h,bJ h,wN]
 .rw[bI h,bI h,cm];rfl
theorem Sl(A):∀ns ks x,ks.length+ns.length<=10000->∃x',Yr (Zl 2) Gen.Jn (ns.map D.str) [A,aA (.oK (Z3 ks) (ks.map λ_=>.bl aC)),x]=aA (.nx [A,aA (.oK (Z3 (Ut ks ns)) ((Ut ks ns).map λ_=>.bl aC)),x'])
 | [],ks,x,_=>⟨x,rfl⟩
 |n::ns,ks,x,hl=>by
  rw[bc]at hl;have pi:=Q3 n (.bl aC) ks (ks.map λ_=>.bl aC);rw[m9]at pi;have z:(ks.map λ_=>D.bl aC).length<PySem.sizeLine:=Y2 (by rw[ay];omega);have hb:Gen.Jn [A,aA (.oK (Z3 ks) (ks.map λ_=>.bl aC)),aA (.fz (.str n))]=aA (.nx [A,aA (.oK (Z3 (if n∈ks then ks else ks++[n])) ((if n∈ks then ks else ks++[n]).map λ_=>.bl aC)),aA (.fz (.str n))]):=by generalize (ks.map λ_=>D.bl aC)=VS at*;generalize ((if n∈ks then ks else ks++[n]).map λ_=>D.bl aC)=VS2,Z3 (if n∈ks then ks else ks++[n])=KS2,Z3 ks=KS at*;unfold Gen.Jn;simp[-Yw,pi,z]
  obtain⟨x',e⟩:=Sl A ns (if n∈ks then ks else ks++[n]) (aA (.fz (.str n))) (by split<;> (try rw[ao,b4])<;> omega);refine⟨x',?_⟩;have eo:Ut ks (n::ns)=Ut (if n∈ks then ks else ks++[n]) ns:=by rw[Ut];split<;> rfl
  rw[bn,eo];exact(Ys (by simp) hb).trans e
theorem m8(ks):(Z3 ks).map Fa=ks.map D.str:=by unfold Z3;rw[b6];rfl
theorem m7(ns)(hl:ns.length<=10000):Gen.Oj [.lst (ns.map D.str)]=aA (.ol ((Ut [] ns).map D.str)):=by obtain⟨x',e⟩:=Sl (aA (.fz (.lst (ns.map D.str)))) ns [] aB (by simpa using hl);have e:Yr (Zl 2) Gen.Jn (ns.map D.str) [aA (.fz (.lst (ns.map D.str))),aA (.oK [] []),aB]=_:=e;have kk:=m8 (Ut [] ns);generalize ((Ut [] ns).map λ_=>D.bl aC)=VS,(Ut [] ns).map D.str=OS,Z3 (Ut [] ns)=KS,ns.map D.str=NS at*;unfold Gen.Oj Gen.R9;simp[-Yr,-Fa,e,kk]
def Bm(qs:List (D×List Tk)):List Str:=(qs.map (·.1)).flatMap (Ur 4)
theorem Tmp.nms{qs:List (D×List Tk)}(h:Tmp qs):(Bm qs).length<=120:=by have:=wO qs h.lev.pie;have:=h.few;unfold Bm;omega
theorem Tmp.asked{qs:List (D×List Tk)}(h:Tmp qs):Gen.Ea [.tup (Es qs)]=aA (.ol ((Ut [] (Bm qs)).map D.str)):=by have l:=h.nms;have e:Gen.T4 [.tup (Es qs)]=aA (.ol ((Bm qs).map D.str)):=Sk (n:=4) (k:=11) (zi 4) qs h.lev.pie (by unfold Bm at l;omega) (by decide);have o:=m7 (Bm qs) (by omega);generalize (Ut [] (Bm qs)).map D.str=OS,(Bm qs).map D.str=NS,Es qs=DS at*;unfold Gen.Ea Gen.Xk;simp[e,o]
noncomputable def ltr(c:Nat):Bool:=(Nat.ble 65 c&&Nat.ble c 90)|| (Nat.ble 97 c&&Nat.ble c 122)
theorem t9:∀c<128,Fm ⟨#[c]⟩ LET=ltr c:=by decide+kernel
noncomputable abbrev NH:Exn:=⟨"NoHands",[],[]⟩
theorem t8(l)(ha:Bl (60::l))(hl:l.length<=10000):Gen.Wp [.str (S (60::l)),.str LET,.int 15]=aA (.fz (.bl aD)):=by have e:=Ih LET ltr (60::l) 15 t9 ha (by rw[bc];omega);have:(60::l).all ltr=aD:=rfl;rw[this,Bool.and_false]at e;exact e
theorem BP(x0 x1 x2 x3 l)(ha:Bl (60::l))(hl:l.length<=10000)(ds):Yr (Zl 3) Gen.Oc (.str (S (60::l))::ds) [x0,x1,x2,x3]=aA (.ex NH [x0,x1,x2,aA (.fz (.str (S (60::l))))]):=by
 have e:=t8 l ha hl;generalize S (60::l)=w at*;have t:Gen.Oc [x0,x1,x2,aA (.fz (.str w))]=aA (.ex NH [x0,x1,x2,aA (.fz (.str w))]):=by unfold Gen.Oc;simp[e]
 simp[t]
noncomputable abbrev CO:Str:=", "
noncomputable abbrev BL:Str:=" "
noncomputable abbrev AM:Str:=" & "
noncomputable abbrev co:List Nat:=[44,32]
noncomputable abbrev am:List Nat:=[32,38,32]
theorem IV:CO.cps.toList=co:=by decide+kernel
theorem vG:BL.cps.toList=[32]:=by decide+kernel
theorem vF:AM.cps.toList=am:=by decide+kernel
theorem iz:c7 BL=1:=by decide+kernel
theorem iy:c7 AM=1:=by decide+kernel
theorem BO:¬(az ", ").length=0:=by decide+kernel
theorem fI:¬(az " ").length=0:=by decide+kernel
theorem fH:¬(az " & ").length=0:=by decide+kernel
theorem fG:¬Str.empty=CO:=by decide+kernel
theorem jlm:∀{ps:List (List Nat)} {p:List Nat},p∈ps->∀c∈p,c∈jl y ps
 | [q],p,h,c,hc=>by rw[af.mp h]at hc;exact hc
 |q::q2::r,p,h,c,hc=>by
  rw[R0];rcases ba.mp h with e|e
  .rw[e]at hc;exact ci _ (ci _ hc)
  .exact bp _ (jlm e c hc)
theorem jll:∀{ps:List (List Nat)} {p:List Nat},p∈ps->p.length<=(jl y ps).length
 | [q],p,h=>by rw[af.mp h];exact bg _
 |q::q2::r,p,h=>by
  rw[R0,ao,ao];rcases ba.mp h with e|e
  .rw[e];omega
  .have:=jll (y:=y) e;omega
theorem wy(ws:List (List Nat)):(ws.map S).map D.str=ws.map λw=>D.str (S w):=by rw[b6];rfl
theorem m6(ws)(h:M4 [32] ws):Txt.split (S (jl [32] ws)) BL=ws.map S:=
 Bc _ BL (by decide+kernel) iz ws (by rw[vG];exact h) (by rw[vG,Yh])
theorem p8(p q r)(h:M4 co (p::q::r)):d5 (S (jl co (p::q::r))) CO=(S p,CO,S (jl co (q::r))):=by
 have:=jD CO (by decide+kernel) p q r (by rw[IV];exact h)
 rwa [IV]at this
theorem m4(p)(h:M4 co [p]):d5 (S p) CO=(S p,Str.empty,Str.empty):=
 jE _ _ (by decide+kernel) (by rw[IV,Yh];exact h)
theorem p7(l)(ha:Bl (60::l))(hl:l.length<=9999)(h:M4 co [60::l]):Gen.Qj [.str (S (60::l))]=aA (.x NH):=by
 have pt:=m4 _ h;have el:=Z1 (60::l);have z1:(60::l).length<=PySem.sizeLine:=Zn (by rw[bc];omega);have s1:(1:Nat)<=PySem.sizeLine:=by decide
 have s0:(0:Nat)<=PySem.sizeLine:=cr _;have cb:=BO;have ne:=fG;have e:=BP (aA (.fz (.str (S (60::l))))) (aA (.fz (.tup [.str (S (60::l)),.str Str.empty,.str Str.empty]))) (aA (.ol [])) aB l ha (by omega) [];generalize (60::l).length=n at*;generalize S (60::l)=w at*;unfold Gen.Qj Gen.B3;simp[-Yr,pt,cb,z1,L2.atI,L2.Nf,ne,s1,s0,e,el]
theorem p6(a q r)(h:M4 co ((60::a)::q::r))(ha:Bl (jl co ((60::a)::q::r)))(hl:(jl co ((60::a)::q::r)).length<=9999):Gen.Qj [.str (S (jl co ((60::a)::q::r)))]=aA (.x NH):=by
 have pt:=p8 _ q r h;have ll:(60::a).length<=9999:=dw (jll (y:=co) (ps:=(60::a)::q::r) aa) hl;obtain⟨ws,fw,ew,lw⟩:=A9 [32] (by decide) _ (jl co (q::r)) (bg _);have sp:=m6 ws fw;rw[ew]at sp;have el:=Z1 (jl co ((60::a)::q::r));have el2:=Z1 (jl co (q::r));have l2:(jl co (q::r)).length<=9999:=by rw[R0,ao]at hl;omega
 have z1:(jl co ((60::a)::q::r)).length<=PySem.sizeLine:=Zn (by omega);have z2:(jl co (q::r)).length<=PySem.sizeLine:=Zn (by omega);have z3:ws.length<=PySem.sizeLine:=Zn (by omega);have z4:ws.length+1<=PySem.sizeLine:=Zn (by omega);have s1:(1:Nat)<=PySem.sizeLine:=by decide
 have cb:=BO;have bb:=fI;have sm:=wy ws;have VJ:Bl (60::a):=λc hc=>ha c (jlm (y:=co) aa c hc);have e:=BP (aA (.fz (.str (S (jl co ((60::a)::q::r)))))) (aA (.fz (.tup [.str (S (60::a)),.str CO,.str (S (jl co (q::r)))]))) (aA (.ol (ws.map λw=>D.str (S w)))) aB a VJ (by rw[bc]at ll;omega) (ws.map λw=>D.str (S w));generalize jl co ((60::a)::q::r)=x at*;generalize jl co (q::r)=rest at*;generalize S (60::a)=w at*;unfold Gen.Qj Gen.B3;by_cases h4:ws.length<=4
 .have n4:¬(4:Int)<(ws.length:Int):=by omega
  simp[-Yr,-b6,pt,cb,bb,z1,z2,z3,z4,L2.atI,L2.Nf,sp,sm,n4,s1,e,el,el2,Nat.add_comm]
 .have n4:(4:Int)<(ws.length:Int):=by omega
  simp[-Yr,-b6,pt,cb,bb,z1,z2,z3,z4,L2.atI,L2.Nf,sp,sm,n4,s1,el,el2,Nat.add_comm]
theorem ym(hy:y=b::z)(hb:b≠c):∀ps,jl y ps=c::l->∃p r,ps=(c::p)::r
  | [],h=>by cases h
  | [[]],h=>by cases h
  | []::q::r,h=>by rw[R0,hy]at h;injection h with h _;exact bN h hb
  | [c'::p],h=>by injection h with h _;exact⟨p,[],by rw[h]⟩
  | (c'::p)::q::r,h=>by injection h with h _;exact⟨p,q::r,by rw[h]⟩
theorem mz(l)(ha:Bl (60::l))(hl:l.length<=9998):Gen.Qj [.str (S (60::l))]=aA (.x NH):=by
 obtain⟨cs,fc,ec,_⟩:=A9 co (by decide) _ (60::l) (bg _);obtain⟨p,r,rfl⟩:=ym (y:=co) rfl (by decide) cs ec;cases r with
 |nil=>have ec:60::p=60::l:=ec;injection ec with _ ec;subst ec;exact p7 p ha (by omega) fc
 |cons q r=>rw[<-ec]at ha⊢;refine p6 p q r fc ha ?_;rw[ec,bc];omega
theorem pz(l)(ha:Bl l)(hl:l.length<=9000):Gen.Jb [.str (S (60::l))]=aA (.x NH):=by
 obtain⟨ps,f,e,hn⟩:=A9 am (by decide) _ (60::l) (bg _);have VJ:Bl (60::l):=λc hc=>by
  rcases ba.mp hc with h|h
  .rw[h];decide
  .exact ha c h
 rw[bc]at hn;have sp:Txt.split (S (60::l)) AM=ps.map S:=Bc _ AM (by decide+kernel) iy ps (by rw[vF];exact f) (by rw[vF,Yh,e]);obtain⟨p,r,rfl⟩:=ym (y:=am) rfl (by decide) ps e;have lp:=jll (y:=am) (ps:=(60::p)::r) (p:=60::p) aa;rw[e,bc,bc]at lp;have rh:=mz p (λc hc=>VJ c (by rw[<-e];exact jlm (y:=am) aa c hc)) (by omega);have el:=Z1 (60::l);have z1:(60::l).length<=PySem.sizeLine:=Zn (by rw[bc];omega);have z2:r.length+1<=PySem.sizeLine:=Zn (by rw[bc]at hn;omega);have ab:=fH;have sm:=wy r;have sp:Txt.split (S (60::l)) AM=S (60::p)::r.map S:=sp;generalize (60::l).length=n at*;generalize S (60::l)=w at*;generalize S (60::p)=u at*;have rc:∀ds,Gp [.own,.acc] 1 (Zl 0) O8 Gen.Bf (.str u::ds) [aB,aA (.ol [])]=aA (.x NH):=λds=>by rw[Gp];unfold Gen.Bf;simp[-Gp,rh]
 unfold Gen.Jb Gen.Gx;by_cases h6:r.length+1<=6
 .have n6:¬(6:Int)<(r.length:Int)+1:=by omega
  have KZ:¬6<r.length+1:=by omega
  simp[-Gp,-b6,sp,ab,z1,z2,el,sm,n6,KZ,rc]
 .have n6:(6:Int)<(r.length:Int)+1:=by omega
  have KZ:6<r.length+1:=by omega
  simp[-Gp,-b6,sp,ab,z1,z2,el,sm,n6,KZ]
theorem Ii.asc(h:Ii w):Bl w.cps.toList:=by obtain⟨l,rfl,h,_⟩:=h;rw[Yh];exact h.asc
theorem Ii.most(h:Ii w):w.length<=8:=by obtain⟨l,rfl,h,_⟩:=h;rw[Z1];exact h.2.1
noncomputable abbrev LA:Str:="<"
noncomputable abbrev EQ:Str:="="
noncomputable abbrev RA:Str:=">"
def MK(p:Str×Str):Str:=LA++p.1++EQ++p.2++RA
structure Tx(s:Str):Prop where
 asc:Bl s.cps.toList
 most:s.length<=20
structure Fld(es:List (Str×Str)):Prop where
 nd:(es.map (·.1)).Nodup
 len:es.length<=1000
 nam:∀p∈es,Ii p.1
 tx:∀p∈es,Tx p.2
noncomputable abbrev Xt(es:List (Str×Str))(g:Str×Str->Str):D:=.dK (Z3 (es.map (·.1))) (es.map λp=>.str (g p))
noncomputable abbrev Qw(es:List (Str×Str)):D:=Xt es (·.2)
abbrev Qk(es:List (Str×Str)):D:=Xt es MK
noncomputable def Gb(es:List (Str×Str))(x:Str):Option (Str×Str):=es.find? λp=>decide (p.1=x)
theorem Ga(g:Str×Str->Str)(x):∀es,Z9 (Z3 (es.map (·.1))) (es.map λp=>D.str (g p)) (b7 x)=(Gb es x).map λp=>D.str (g p)
 | []=>rfl
 |p::es=>by
  have ih:=Ga g x es;unfold Gb at ih⊢;rw[List.find?_cons];show(if(b7 p.1:L2.Key)=b7 x then aA (D.str (g p))else Z9 (Z3 (es.map (·.1))) (es.map λp=>D.str (g p)) (b7 x))=_;by_cases h:p.1=x
  .rw[bJ (by rw[h]),bL h];rfl
  .rw[bI (λz=>h (b7.inj z)),bK h,ih]
theorem Jd(h:Gb es x=aA p):p∈es/\p.1=x:=by unfold Gb at h;exact⟨List.mem_of_find?_eq_some h,by simpa using List.find?_some h⟩
def pick(es:List (Str×Str)):List Str->Option (Str×Str)
 | []=>aB
 |n::ns=>match Gb es n with
  |some p=>aA p
  |none=>pick es ns
theorem Ei:∀{ns:List Str} {p:Str×Str},pick es ns=aA p->p∈es
 | [],p,h=>by cases h
 |n::ns,p,h=>by
  unfold pick at h;cases hf:Gb es n with
  |some q=>rw[hf]at h;cases h;exact(Jd hf).1
  |none=>rw[hf]at h;exact Ei h
theorem Iz(a0:Option SV)(es:List (Str×Str)):∀(ns:List Str) (x2:Option SV),
  match pick es ns with
  |some p=>Yr (Zl 2) Gen.Qf (ns.map D.str) [a0,aA (.fz (Qk es)),x2]=aA (.rt (.fz (.str (MK p))))
  |none=>∃y2,Yr (Zl 2) Gen.Qf (ns.map D.str) [a0,aA (.fz (Qk es)),x2]=aA (.nx [a0,aA (.fz (Qk es)),y2])
 | [],x2=>⟨x2,rfl⟩
 |n::ns,x2=>by
  have lk:=Ga MK n es;have ih:=Iz a0 es ns (aA (.fz (.str n)));unfold Qk Xt at ih⊢;generalize Z3 (es.map (·.1))=KS,(es.map λp=>D.str (MK p))=VS at*;unfold pick;rw[bn];cases hf:Gb es n with
  |some p=>rw[hf]at lk;dsimp only[Option.map_some]at lk⊢;refine Xi (δ1:=[a0,aA (.fz (.dK KS VS)),aA (.fz (.str n))]) (by simp) ?_;unfold Gen.Qf;simp[-Z9,lk]
  |none=>
   rw[hf]at lk;dsimp only[Option.map_none]at lk⊢;have hb:Gen.Qf [a0,aA (.fz (.dK KS VS)),aA (.fz (.str n))]=aA (.nx [a0,aA (.fz (.dK KS VS)),aA (.fz (.str n))]):=by unfold Gen.Qf;simp[-Z9,lk]
   cases hp:pick es ns with
   |some p=>rw[hp]at ih;exact(Ys (by simp) hb).trans ih
   |none=>rw[hp]at ih;obtain⟨y2,e⟩:=ih;exact⟨y2,(Ys (by simp) hb).trans e⟩
theorem told_field(es ns):Gen.Ul [.tup (ns.map D.str),Qk es]=aA (.fz (oD ((pick es ns).map MK))):=by
 have l:=Iz (aA (.fz (.tup (ns.map D.str)))) es ns aB;generalize ns.map D.str=NS at*;unfold Gen.Ul Gen.Gv;cases hp:pick es ns with
 |some p=>rw[hp]at l;simp[-Yr,l,oD]
 |none=>rw[hp]at l;obtain⟨y,e⟩:=l;simp[-Yr,e,oD]
theorem ix:LA=S [60]:=by decide+kernel
theorem QF:EQ=S [61]:=by decide+kernel
theorem iw:RA=S [62]:=by decide+kernel
theorem wx(p):MK p=S (60::(p.1.cps.toList++[61]++p.2.cps.toList++[62])):=by
 unfold MK;rw[ix,QF,iw]
 conv=>lhs;rw[E7 p.1,E7 p.2]
 rw[Wm,Wm,Wm,Wm];simp
theorem G_{p:Str×Str}(h1:Ii p.1)(h2:Tx p.2):Bl (p.1.cps.toList++[61]++p.2.cps.toList++[62]):=by
 intro c hc;rcases bo.mp hc with hc|hc
 .rcases bo.mp hc with hc|hc
  .rcases bo.mp hc with hc|hc
   .exact h1.asc c hc
   .rw[af.mp hc];decide
  .exact h2.asc c hc
 .rw[af.mp hc];decide
theorem zg(h1:Ii p.1)(h2:Tx p.2):(MK p).length<=31:=by
 have a:=h1.most;have b:=h2.most;have l1:LA.length=1:=by decide+kernel
 have l2:EQ.length=1:=by decide+kernel
 have l3:RA.length=1:=by decide+kernel
 unfold MK;rw[Wd,Wd,Wd,Wd,l1,l2,l3];omega
theorem po(h1:Ii p.1)(h2:Tx p.2):Gen.Jb [.str (MK p)]=aA (.x NH):=by rw[wx];refine pz _ (G_ h1 h2) ?_;have a:=h1.most;have b:=h2.most;have e1:=Yk p.1;have e2:=Yk p.2;simp only[ao,b4];omega
theorem told_names(H:Fld es)(nm i j):Gen.Jc [.tup [.str HDS,.str nm,.int i,.int j],Qk es]=aA (.fz (oD ((pick es [nm]).map MK))):=by
 have lk:=Ga MK nm es;have t1:∀x y z u:D,L2.atI [x,y,z,u] 1=aA y:=λ_ _ _ _=>rfl;unfold Qk Xt;unfold pick;cases hf:Gb es nm with
 |none=>rw[hf]at lk;generalize Z3 (es.map (·.1))=KS,(es.map λp=>D.str (MK p))=VS at*;unfold Gen.Jc Gen.Ow;dsimp only[Option.map_none]at lk;simp[-Z9,t1,lk,pick,oD]
 |some p=>have rd:=po (H.nam p (Jd hf).1) (H.tx p (Jd hf).1);rw[hf]at lk;generalize Z3 (es.map (·.1))=KS,(es.map λp=>D.str (MK p))=VS at*;show _=aA (SV.fz (oD (aA (MK p))));unfold Gen.Jc Gen.Ow Gen.Mb;dsimp only[Option.map_some]at lk;generalize MK p=M at*;simp[-Z9,t1,lk,rd,oD]
theorem pj(T):T++az ""=T:=by
 have:az ""=S []:=by decide+kernel
 rw[this]
 conv=>lhs;rw[E7 T]
 rw[Wm,de,<-E7 T]
theorem ph(T):az ""++T=T:=by
 have:az ""=S []:=by decide+kernel
 rw[this]
 conv=>lhs;rw[E7 T]
 rw[Wm,cz,<-E7 T]
theorem L1:(az "").length=0:=by decide+kernel
inductive Pt where
 |sg (l:List Nat)
 |mk (p:Str×Str)
def Pt.s:Pt->Str
 | .sg l=>S l
 | .mk p=>MK p
def Ff(ps:List Pt):Str:=Fs (ps.map Pt.s)
theorem Xu(a):Ff [a]=a.s:=pj _
theorem zf(a b):Ff (a++b)=Ff a++Ff b:=by unfold Ff;rw[cm,xi]
theorem Xv(f):∀xs:List D,Ff (xs.flatMap f)=Fs (xs.map λd=>Ff (f d))
 | []=>rfl
 |x::xs=>by rw[d6,zf,Xv f xs];rfl
def Q8(es:List (Str×Str)):Nat->D->Option (List Pt)
 |0,_=>aB
 |_+1,.tup [.str _,.str s]=>aA [.sg s.cps.toList]
 |n+1,.tup [.str k,.tup xs]=>if k=GRP then(if(xs.any λd=>(Q8 es n d).isNone)=aC then aA []else aA (xs.flatMap λd=>(Q8 es n d).getD []))else(pick es ((strs? xs).getD [])).map λp=>[.mk p]
 |_+1,.tup [.str _,.str s,_,_]=>(pick es [s]).map λp=>[.mk p]
 |_+1,_=>aB
def tS(es:List (Str×Str))(n:Nat)(d:D):Option Str:=(Q8 es n d).map Ff
theorem zT(o:Option (Str×Str)):(o.map λp=>[Pt.mk p]).map Ff=o.map MK:=by
 cases o with
 |none=>rfl
 |some p=>show aA (Ff [.mk p])=_;rw[Xu];rfl
theorem zS(o:Option (List Pt)):(o.map Ff).getD ""=Ff (o.getD []):=by cases o<;> rfl
section
variable(es:List (Str×Str))(n:Nat)
theorem gw(l):tS es (n+1) (Fb l)=aA (S l):=by unfold tS Fb;rw[Q8,Yh];show aA (Ff [.sg l])=_;rw[Xu];rfl
theorem gv(ns):tS es (n+1) (Nv ns)=(pick es ns).map MK:=by unfold tS Nv;rw[Q8,bI Fe,W9];exact zT _
theorem gu(nm a b):tS es (n+1) (Sd nm a b)=(pick es [S nm]).map MK:=by unfold tS Sd;rw[Q8];exact zT _
def cc(ps:List D):Str:=Fs (ps.map λp=>(tS es n p).getD "")
def Sm(ps:List D):Str:=if(ps.any λd=>(tS es n d).isNone)=aC then az ""else cc es n ps
theorem gq(ds):tS es (n+1) (Ix ds)=aA (Sm es n ds):=by
 unfold tS Ix;rw[Q8,bJ rfl];have e:(λd=>(tS es n d).isNone)=λd=>(Q8 es n d).isNone:=by funext d;unfold tS;cases Q8 es n d<;> rfl
 unfold Sm;rw[e];split
 .rfl
 .show aA (Ff _)=aA (cc es n ds);rw[Xv];unfold cc tS;simp only[zS]
variable{es n}
def L3(ps:List D)(B:Nat):Prop:=∀p∈ps,(∀m,n<=m->Gen.Y8 m [p,Qk es]=aA (.fz (oD (tS es n p))))/\((tS es n p).getD "").length<=B
theorem jY(m)(hm:n<=m)(ps)(h:L3 (es:=es) (n:=n) ps B)(hl:ps.length<=1000):Wl [.own,.cap 1,.acc] 2 (Zl 0) O8 (Gen.Um (Gen.Y8 m)) ps [aB,aA (.fz (Qk es)),aA (.ol [])]=aA [aB,aA (.fz (Qk es)),aA (.ol (ps.map λd=>oD (tS es n d)))]:=by
 have:=Ay (te:=Gen.Um (Gen.Y8 m)) (f:=λd=>oD (tS es n d)) (c:=aA (.fz (Qk es))) (j:=1) ps [] (λx hx zs=>by
  have hp:=(h x hx).1 m hm;generalize tS es n x=o,Qk es=MD at*;unfold Gen.Um;cases o<;> dsimp only[oD]at hp⊢<;> simp[hp]) (by simp;omega)
 rwa [cz]at this
theorem sZ(ps:List D):(ps.map λd=>oD (tS es n d)).all D.isFlat=aC:=by rw[List.all_map,b9];intro d _;show(oD (tS es n d)).isFlat=aC;cases tS es n d<;> rfl
theorem iu(ps:List D):Nq .non (ps.map λd=>oD (tS es n d))=ps.any λd=>(tS es n d).isNone:=by unfold Nq;rw[List.any_map];congr 1;funext d;show V6 (oD (tS es n d)) .non=_;cases tS es n d<;> rfl
theorem zR:∀ps:List D,(ps.any λd=>(tS es n d).isNone)=aD->strs? (ps.map λd=>oD (tS es n d))=aA (ps.map λp=>(tS es n p).getD "")
 | [],_=>rfl
 |p::ps,h=>by
  rw[List.any_cons,Bool.or_eq_false_iff]at h;have ih:=zR ps h.2;rw[bn,bn];cases ho:tS es n p with
  |none=>rw[ho]at h;exact bN h.1 (by decide)
  |some s=>show strs? (D.str s::ps.map λd=>oD (tS es n d))=_;simp[ih]
theorem told_group(m)(hm:n<=m)(ps)(h:L3 (es:=es) (n:=n) ps B)(hl:ps.length<=1000)(hb:ps.length*B<=16000000):Gen.Uo (Gen.Y8 m) [.tup ps,Qk es]=aA (.fz (.str (Sm es n ps))):=by
 have tc:=jY m hm ps h hl;have fo:=sZ (es:=es) (n:=n) ps;have io:=iu (es:=es) (n:=n) ps;have so:=zR (es:=es) (n:=n) ps;have jo:=Le (sep:=az "") (xs:=ps.map λp=>(tS es n p).getD "") (B:=B) (λx hx=>by
  obtain⟨p,hp,rfl⟩:=bd.mp hx;exact(h p hp).2) (by rw[ay,L1];omega)
 have tj:=FL (ps.map λp=>(tS es n p).getD "");unfold Sm cc;generalize (ps.any λd=>(tS es n d).isNone)=b,(ps.map λd=>oD (tS es n d))=OS,(ps.map λp=>(tS es n p).getD "")=GS,Qk es=MD at*;unfold Gen.Uo Gen.Gy;cases b with
 |true=>simp[-Wl,-b9,tc,fo,io]
 |false=>simp[-Wl,-b9,tc,fo,io,so rfl,jo,tj]
end
theorem ww(H:Fld es)(ns):(((pick es ns).map MK).getD "").length<=102:=by
 cases hp:pick es ns with
 |none=>show(az "").length<=_;rw[L1];omega
 |some p=>have:=zg (H.nam p (Ei hp)) (H.tx p (Ei hp));show(MK p).length<=_;omega
theorem GZ:∀qs:List (D×List Tk),(∀q∈qs,((tS es n q.1).getD "").length<=102*q.2.length)->(cc es n (qs.map (·.1))).length<=102*(qs.flatMap (·.2)).length
 | [],_=>by show(az "").length<=_;rw[L1];omega
 |q::qs,h=>by have a:=h q aa;have b:=GZ qs λx hx=>h x (ad _ hx);show((tS es n q.1).getD ""++cc es n (qs.map (·.1))).length<=_;rw[Wd,d6,ao];omega
theorem Ej:∀(qs:List (D×List Tk)) q,q∈qs->q.2.length<=(qs.flatMap (·.2)).length
 |r::qs,q,h=>by
  rw[d6,ao];rcases ba.mp h with e|e
  .rw[e];omega
  .have:=Ej qs q e;omega
theorem HR(H:Fld es):∀n d ts,Cm n d ts->ts.length<=1000->
  (∀m,n<=m->Gen.Y8 m [d,Qk es]=aA (.fz (oD (tS es n d))))/\((tS es n d).getD "").length<=102*ts.length
 |0,_,_,h,_=>h.elim
 |n+1,d,ts,h,hl=>by
  rcases h with⟨l,ok,rfl,rfl⟩|⟨ns,h0,h4,hn,rfl,rfl⟩|⟨nm,a,b,hn,h1,h2,h3,rfl,rfl⟩|⟨qs,h0,hc,hq,rfl,rfl⟩
  .rw[gw];refine⟨λm hm=>?_,?_⟩
   .obtain⟨k,rfl⟩:∃k,m=k+1:=⟨m- 1,by omega⟩
    unfold Gen.Y8 Gen.Qa oD Fb;generalize Qk es=MD;simp[T8,Ls,OY]
   .have f:=Xn [.sg l] λt ht=>by rw[af.mp ht];exact ok
    have e:Yl [.sg l]=l:=by unfold Yl;simp[Tk.l]
    rw[e]at f;show(S l).length<=_;rw[Z1];exact f
  .rw[gv];refine⟨λm hm=>?_,by have:=ww H (ns.map S);simpa using this⟩;obtain⟨k,rfl⟩:∃k,m=k+1:=⟨m- 1,by omega⟩
   have tf:=told_field es (ns.map S);unfold Nv;generalize (pick es (ns.map S)).map MK=o,Qk es=MD,(ns.map S).map D.str=NS at*;unfold Gen.Y8 Gen.Qa;cases o<;> dsimp only[oD]at tf⊢<;> simp[T8,Ls,OY,Lp,gA,tf]
  .rw[gu];refine⟨λm hm=>?_,by have:=ww H [S nm];simpa using this⟩;obtain⟨k,rfl⟩:∃k,m=k+1:=⟨m- 1,by omega⟩
   have tf:=told_names H (S nm) (a:Int) (b:Int);unfold Sd;generalize (pick es [S nm]).map MK=o,Qk es=MD at*;unfold Gen.Y8 Gen.Qa;cases o<;> dsimp only[oD]at tf⊢<;> simp[MR,HV,OY,Lp,OX,h_,IR,tf]
  .rw[gq];rw[bc,ao,b4]at hl;have ih:∀q∈qs,_:=λq hm=>HR H n q.1 q.2 (hq q hm) (by have:=Ej qs q hm;omega);have tt:L3 (es:=es) (n:=n) (qs.map (·.1)) 102000:=λp hp=>by obtain⟨q,hm,rfl⟩:=bd.mp hp;refine⟨(ih q hm).1,?_⟩;have:=(ih q hm).2;have:=Ej qs q hm;omega
   have ln:(qs.map (·.1)).length=qs.length:=ay _;refine⟨λm hm=>?_,?_⟩
   .obtain⟨k,rfl⟩:∃k,m=k+1:=⟨m- 1,by omega⟩
    have tg:=told_group k (by omega) (qs.map (·.1)) tt (by omega) (by rw[ln];omega);unfold Ix;generalize qs.map (·.1)=ds,Qk es=MD at*;unfold Gen.Y8 Gen.Qa oD;simp[T8,Ls,OY,Lp,OX,h7,IQ,IP,tg]
   .have:=GZ qs λq hm=>(ih q hm).2;show(Sm es n _).length<=_;rw[bc,ao,b4];unfold Sm;split
    .rw[L1];omega
    .omega
theorem jX(hn:n<=12)(ps)(h:L3 (es:=es) (n:=n) ps B)(hl:ps.length<=1000):Wl [.own,.cap 1,.acc] 2 (Zl 0) O8 Gen.Ec ps [aB,aA (.fz (Qk es)),aA (.ol [])]=aA [aB,aA (.fz (Qk es)),aA (.ol (ps.map λd=>oD (tS es n d)))]:=by
 have:=Ay (te:=Gen.Ec) (f:=λd=>oD (tS es n d)) (c:=aA (.fz (Qk es))) (j:=1) ps [] (λx hx zs=>by
  have hp:=(h x hx).1 12 hn;generalize tS es n x=o,Qk es=MD at*;unfold Gen.Ec Gen.Gz;cases o<;> dsimp only[oD]at hp⊢<;> simp[hp]) (by simp;omega)
 rwa [cz]at this
noncomputable def IU:D->Option D
 | .non=>aB
 |d=>aA d
theorem zQ:∀ps:List D,((ps.map λd=>oD (tS es n d)).filterMap IU)=(ps.filterMap λd=>tS es n d).map D.str
 | []=>rfl
 |p::ps=>by
  have ih:=zQ (es:=es) (n:=n) ps;rw[bn];cases ho:tS es n p with
  |none=>rw[dr (by rfl),dr ho,ih]
  |some s=>rw[dk (b:=D.str s) (by rfl),dk ho,bn,ih]
theorem zP:∀ps,Fs (ps.filterMap λd=>tS es n d)=cc es n ps
 | []=>rfl
 |p::ps=>by
  have ih:=zP (es:=es) (n:=n) ps;show _=(tS es n p).getD ""++cc es n ps;cases ho:tS es n p with
  |none=>rw[dr ho,ih];exact(ph _).symm
  |some s=>rw[dk ho];show s++Fs _=_;rw[ih];rfl
theorem jW(ps:List D)(hl:ps.length<=1000):Wl [.own,.acc] 1 (Zl 0) Gen.Ed Gen.Ee (ps.map λd=>oD (tS es n d)) [aB,aA (.ol [])]=aA [aB,aA (.ol ((ps.filterMap λd=>tS es n d).map D.str))]:=by
 have:=A8 (src:=[.own,.acc]) (k:=1) (g:=Zl 0) (tt:=Gen.Ed) (te:=Gen.Ee) (st:=λzs=>[aB,aA (.ol zs)]) (f:=IU) (ps.map λd=>oD (tS es n d)) [] (λd hd zs RJ hz=>by
  obtain⟨q,_,rfl⟩:=bd.mp hd;rw[Wl];unfold Gen.Ed Gen.Ee;cases tS es n q<;> dsimp only[oD,IU]<;> simp[-Wl,hz]) (by simp;omega)
 rw[cz,zQ]at this;exact this
theorem pf(hn:n<=12)(ps)(h:L3 (es:=es) (n:=n) ps B)(hl:ps.length<=1000)(hb:ps.length*B<=16000000):Gen.Lj [.tup ps,Qk es]=aA (.fz (.str (cc es n ps))):=by
 have fc:=jX hn ps h hl;have kc:=jW (es:=es) (n:=n) ps hl;have so:=W9 (ps.filterMap λd=>tS es n d);have NT:(ps.filterMap λd=>tS es n d).length<=ps.length:=List.length_filterMap_le ..;have jo:=Le (sep:=az "") (xs:=ps.filterMap λd=>tS es n d) (B:=B) (λx hx=>by
  obtain⟨p,hp,e⟩:=List.mem_filterMap.mp hx;have:=(h p hp).2;rw[e]at this;exact this) (by
   have z:(az "").length=0:=by decide+kernel
   rw[z];have:=Nat.mul_le_mul_right B NT;omega)
 have tj:=FL (ps.filterMap λd=>tS es n d);rw[zP]at tj;generalize cc es n ps=C,(ps.map λd=>oD (tS es n d))=OS,(ps.filterMap λd=>tS es n d)=GS,Qk es=MD at*;unfold Gen.Lj Gen.FI;simp[-Wl,fc,kc,so,jo,tj]
theorem Sn(a0 a1)(H:Fld es)(ha:a1=aA (.fz (Qw es))):∀rest done x3,es=done++rest->
  ∃y3,Yr (Zl 3) Gen.G1 ((rest.map (·.1)).map D.str) [a0,a1,aA (.oK (Z3 (done.map (·.1))) (done.map λp=>.str (MK p))),x3]=aA (.nx [a0,a1,aA (.oK (Z3 (es.map (·.1))) (es.map λp=>.str (MK p))),y3])
 | [],done,x3,h=>⟨x3,by rw[de]at h;subst h;rfl⟩
 |p::rest,done,x3,h=>by
  have hm:p∈es:=by rw[h];simp
  have hn:=H.nam p hm;have ht:=H.tx p hm;have JJ:p.1∉done.map (·.1):=by have nd:=H.nd;rw[h,cm,bn]at nd;have:=(dm.mp nd).2.2;exact λz=>this _ z _ aa rfl
  have lk:Z9 (Z3 (es.map (·.1))) (es.map λp=>D.str p.2) (b7 p.1)=aA (.str p.2):=by rw[Og];obtain⟨i,hi⟩:=List.getElem?_of_mem hm;exact wY H.nd (by simp) i p.1 _ (by rw[bz,hi];rfl) (by rw[bz,hi];rfl)
  have l1:LA.length=1:=by decide+kernel
  have l2:EQ.length=1:=by decide+kernel
  have l3:RA.length=1:=by decide+kernel
  have q1:=hn.most;have q2:=ht.most;have z3:LA.length+p.1.length<=PySem.sizeLine:=Zn (by omega);have z4:(LA++p.1).length+EQ.length<=PySem.sizeLine:=Zn (by rw[Wd];omega);have z5:(LA++p.1++EQ).length+p.2.length<=PySem.sizeLine:=Zn (by rw[Wd,Wd];omega);have z6:(LA++p.1++EQ++p.2).length+RA.length<=PySem.sizeLine:=Zn (by rw[Wd,Wd,Wd];omega);have s1:az "<"=LA:=rfl;have s2:az "="=EQ:=rfl;have s3:az ">"=RA:=rfl;have hlen:=H.len;have RB:(done.map λp=>D.str (MK p)).length<PySem.sizeLine:=Y2 (by
   rw[ay];have:=congrArg List.length h;rw[ao,bc]at this;omega)
  have pu:=Q3 p.1 (.str (MK p)) (done.map (·.1)) (done.map λp=>D.str (MK p));rw[Uh JJ]at pu;dsimp only at pu;obtain⟨y3,e⟩:=Sn a0 a1 H ha rest (done++[p]) (aA (.fz (.str p.1))) (by rw[h];simp);refine⟨y3,?_⟩;rw[bn,bn];refine(Ys (δ1:=[a0,a1,aA (.oK (Z3 (done.map (·.1))) (done.map λp=>.str (MK p))),aA (.fz (.str p.1))]) (by simp) ?_).trans e;rw[cm,cm];show Gen.G1 _=aA (.nx [a0,a1,aA (.oK (Z3 (done.map (·.1)++[p.1])) ((done.map λp=>D.str (MK p))++[.str (MK p)])),aA (.fz (.str p.1))]);subst ha;have uf:LA++p.1++EQ++p.2++RA=MK p:=rfl;unfold Qw Xt;generalize Z3 (es.map (·.1))=KS,(es.map λp=>D.str p.2)=VS,(done.map λp=>D.str (MK p))=DV,done.map (·.1)=DK at*;clear e;unfold Gen.G1;simp[-Z9,-Yw,lk,s1,s2,s3,z3,z4,z5,z6,uf,RB,pu]
theorem jV(H:Fld es)(hn:n<=12)(ps)(h:L3 (es:=es) (n:=n) ps B)(hl:ps.length<=1000)(hb:ps.length*B<=16000000):Gen.C5 [.tup ps,Qw es]=aA (.fz (.str (cc es n ps))):=by
 obtain⟨y3,e⟩:=Sn (aA (.fz (.tup ps))) (aA (.fz (Qw es))) H rfl es [] aB rfl;have fo:=pf hn ps h hl hb;have hk:(Z3 (es.map (·.1))).map Fa=(es.map (·.1)).map D.str:=by rw[b6];rfl
 rw[show Z3 (([]:List (Str×Str)).map (·.1))=[]from rfl,List.map_nil]at e;generalize cc es n ps=C at*;unfold Qw Qk Xt at*;generalize Z3 (es.map (·.1))=KS,(es.map λp=>D.str p.2)=VS at*;generalize (es.map λp=>D.str (MK p))=MS at*;unfold Gen.C5 Gen.Lk;simp[-Yr,-b6,hk,e,fo]
theorem zO(es):D.dK (Yi es) (Z0 es)=Qw es:=by unfold Qw Xt Yi Z0;rw[b6];rfl
def Qt(es:List (Str×Str))(qs:List Q):List Pt:=(Es qs).flatMap λd=>(Q8 es 4 d).getD []
theorem yk(es qs):cc es 4 (Es qs)=Ff (Qt es qs):=by unfold Qt;rw[Xv];unfold cc tS;simp only[zS]
theorem Tmp.toks(h:Tmp qs):(Y7 qs).length<=60:=by have e:=FY (Y7 qs);obtain⟨c1,c2⟩:=G5 qs λq hq=>Mw _ q.1 q.2 (h.lev.pie q hq);have:=h.few;show(Y7 qs).length<=_;omega
theorem Tmp.toks2{qs:List (D×List Tk)}(h:Tmp qs):(qs.flatMap (·.2)).length<=60:=h.toks
theorem Tmp.tell(H:Fld es)(h:Tmp qs):L3 (es:=es) (n:=4) (Es qs) 102000:=λp hp=>by obtain⟨q,hm,rfl⟩:=bd.mp hp;have a:=Ej qs q hm;have b:=h.toks2;have c:=HR H 4 q.1 q.2 (h.lev.pie q hm) (by omega);exact⟨c.1,by have:=c.2;omega⟩
theorem Tmp.dlen(h:Tmp qs):(Es qs).length<=100:=by have:=h.most;unfold Es;rw[ay];exact this
theorem Tmp.marked(H:Fld es)(h:Tmp qs):Gen.C5 [.tup (Es qs),Qw es]=aA (.fz (.str (Ff (Qt es qs)))):=by have:=h.dlen;rw[jV H (by decide) (Es qs) (h.tell H) (by omega) (by omega),yk]
theorem Tmp.mlen(H:Fld es)(h:Tmp qs):(Ff (Qt es qs)).length<=6120:=by rw[<-yk];have b:=h.toks2;have:=GZ (es:=es) (n:=4) qs λq hm=>(HR H 4 q.1 q.2 (h.lev.pie q hm) (by have:=Ej qs q hm;omega)).2;exact dw this (by omega)
noncomputable def ir(s:Str):Bool:=s.cps.toList.all λc=>Nat.ble c 127
theorem sY:∀s∈PVL,ir s=aC:=by decide+kernel
theorem BN(h:s∈PVL):Tx s:=⟨λc hc=>by
  have:=Nat.le_of_ble_eq_true (b9.mp (sY s h) c hc);omega,by have:=Xo s h;omega⟩
section
variable{keys F:List Str}{ws:List WK}(Sh:Shelf keys F ws){T:TB}(hT:TOk F T){qs:List Q}(ht:Tmp qs)(hq:∀s∈Bm qs,s∈F)
def M5(keys:List Str)(ws:List WK)(T:TB)(qs:List Q)(k:Str):PS:=Yq (hS keys ws T k) (Ut [] (Bm qs))
theorem Ek:∀gs,((Yq h gs).map (·.1)).Sublist gs
 | []=>List.Sublist.slnil
 |g::gs=>by
  unfold Yq;cases e:h g with
  |none=>rw[dr (by rw[e];rfl)];exact(Ek gs).cons g
  |some t=>rw[dk (b:=(g,t)) (by rw[e];rfl),bn];exact(Ek gs).cons_cons g
include Sh hT ht hq in
theorem El{i:Nat}{k:Str}(hk:keys[i]? =aA k):Fld (M5 keys ws T qs k):=by
 have nd:=G8 [] (Bm qs) cx;have ol:=Eh [] (Bm qs);have nl:=ht.nms;rw[List.length_nil]at ol;have fl:(M5 keys ws T qs k).length<=(Ut [] (Bm qs)).length:=List.length_filterMap_le _ _;have mem:∀p∈M5 keys ws T qs k,p.1∈F/\p.2∈PVL:=λp hp=>by
  obtain⟨a,b⟩:=Q7.mp hp;have hF:p.1∈F:=by
   rcases Mf [] _ _ a with z|z
   .cases z
   .exact hq _ z
  exact⟨hF,HS Sh hT hk hF b⟩
 exact⟨(Ek _).nodup nd,by omega,λp hp=>Sh.fn _ (mem p hp).1,λp hp=>BN (mem p hp).2⟩
noncomputable def Ua(keys:List Str)(ws:List WK)(k:Str):Str:=((wkO k keys ws).map (·.1)).getD ""
noncomputable abbrev BLK:Str:=" "
def Bo(keys:List Str)(ws:List WK)(T:TB)(qs:List Q)(k:Str):Str:=k++BLK++Ua keys ws k++BLK++Ff (Qt (M5 keys ws T qs k) qs)
theorem sX:KB.length<=10/\KP.length<=10:=by decide+kernel
include Sh hT ht hq in
theorem Xw{i:Nat}{k:Str}(hk:keys[i]? =aA k):Gen.Jo [Qo keys ws,Wt T,.str k,.tup (Es qs)]=aA (.fz (.str (Bo keys ws T qs k)))/\(Bo keys ws T qs k).length<=7000:=by
 have H:=El Sh hT ht hq hk;have mk:=ht.marked H;have ml:=ht.mlen H;rw[<-zO]at mk;have ak:=ht.asked;have nd:=G8 [] (Bm qs) cx;have ol:=Eh [] (Bm qs);have nl:=ht.nms;rw[List.length_nil]at ol;have ah:=all_had (Qo keys ws) (Wt T) k (hS keys ws T k) (λg=>zU Sh hk g) (Ut [] (Bm qs)) nd (by omega);obtain⟨w,hw,W⟩:=Sh.at hk;have sl:=G7 k keys ws;rw[hw]at sl;have sl:Z9 (Z3 keys) (ws.map W4) (b7 k)=aA (.tup [.str w.1,.dK (Yi w.2) (Z0 w.2)]):=sl;have kl:k.length<=8:=Xp (Sh.nm _ (cy hk));have wl:w.1.length<=10:=by have:=sX;rcases W.knd with e|e<;> rw[e]<;> omega
 have b1:BLK.length=1:=by decide+kernel
 have er:Bo keys ws T qs k=k++BLK++w.1++BLK++Ff (Qt (M5 keys ws T qs k) qs):=by unfold Bo Ua;rw[hw];rfl
 rw[er];unfold M5 at mk ml⊢;generalize Ut [] (Bm qs)=gs at*;generalize Ff (Qt (Yq (hS keys ws T k) gs) qs)=R,Yi (Yq (hS keys ws T k) gs)=KS,Z0 (Yq (hS keys ws T k) gs)=VS at*;have z1:k.length+BLK.length<=PySem.sizeLine:=Zn (by omega);have z2:(k++BLK).length+w.1.length<=PySem.sizeLine:=Zn (by rw[Wd];omega);have z3:(k++BLK++w.1).length+BLK.length<=PySem.sizeLine:=Zn (by rw[Wd,Wd];omega);have z4:(k++BLK++w.1++BLK).length+R.length<=PySem.sizeLine:=Zn (by rw[Wd,Wd,Wd];omega);refine⟨?_,by rw[Wd,Wd,Wd,Wd];omega⟩;have sb:az " "=BLK:=rfl;have t0:=T8 (.str w.1) (.dK (Yi w.2) (Z0 w.2));generalize Wt T=TD,(D.dK (Yi w.2) (Z0 w.2))=WD at*;unfold Qo at*;generalize ws.map W4=WS,Es qs=DS,gs.map D.str=GS at*;unfold Gen.Jo Gen.Ck;simp[-Z9,ak,ah,mk,sl,t0,sb,z1,z2,z3,z4]
def No(keys:List Str)(ws:List WK)(T:TB)(qs:List Q):D->Option D
 | .str k=>aA (.str (Bo keys ws T qs k))
 |_=>aB
theorem wM(keys ws T qs):∀ks:List Str,(ks.map D.str).filterMap (No keys ws T qs)=(ks.map (Bo keys ws T qs)).map D.str
 | []=>rfl
 |k::ks=>by rw[bn,dk (f:=No keys ws T qs) (a:=D.str k) (b:=D.str (Bo keys ws T qs k)) rfl,wM keys ws T qs ks];rfl
noncomputable abbrev NL:Str:="\n"
theorem sW:NL.length=1:=by decide+kernel
include Sh hT ht hq in
theorem yj{ks:List Str}(hs:∀k∈ks,k∈keys)(hl:ks.length<=8):Gen.Wv [Qo keys ws,Wt T,.lst (ks.map D.str),.tup (Es qs)]=aA (.fz (.str (di NL (ks.map (Bo keys ws T qs))))):=by
 have cf:=A8 (src:=[.own,.cap 0,.cap 1,.cap 3,.acc]) (k:=4) (g:=Zl 0) (tt:=O8) (te:=Gen.Bg) (st:=λzs=>[aB,aA (.fz (Qo keys ws)),aA (.fz (Wt T)),aA (.fz (.tup (Es qs))),aA (.ol zs)]) (f:=No keys ws T qs) (ks.map D.str) [] (λd hd zs RJ hz=>by
  obtain⟨k,hk,rfl⟩:=bd.mp hd;obtain⟨i,hi⟩:=List.getElem?_of_mem (hs k hk);have r:=(Xw Sh hT ht hq hi).1;dsimp only[No];generalize Qo keys ws=SD,Wt T=TD,Es qs=DS at*;rw[Wl];unfold Gen.Bg;simp[-Wl,hz,r]) (by simp;omega)
 rw[cz,wM]at cf;have so:=W9 (ks.map (Bo keys ws T qs));have jo:=Le (sep:=NL) (xs:=ks.map (Bo keys ws T qs)) (B:=7000) (λx hx=>by
  obtain⟨k,hk,rfl⟩:=bd.mp hx;obtain⟨i,hi⟩:=List.getElem?_of_mem (hs k hk);exact(Xw Sh hT ht hq hi).2) (by rw[ay,sW];omega)
 have tj:=BW NL (ks.map (Bo keys ws T qs));have nl:az "\n"=NL:=rfl;generalize ks.map (Bo keys ws T qs)=RS,Qo keys ws=SD,Wt T=TD,Es qs=DS,ks.map D.str=KS at*;unfold Gen.Wv Gen.G2;simp[-Wl,cf,so,jo,tj,nl]
end
end My
namespace My
namespace R51
open L2
structure Nm(w:List Nat):Prop where
 one:1<=w.length
 most:w.length<=8
 is:∀c∈w,97<=c/\c<=122
noncomputable abbrev PLS : Str := "ABCDEFGHIJKLMNOPQRSTUVWXYZabcdefghijklmnopqrstuvwxyz0123456789 .,!?'-/()&+*="
def pls(c:Nat):Bool:=(Nat.ble 65 c&&Nat.ble c 90)||abc c|| (Nat.ble 39 c&&Nat.ble c 57)|| [32,33,38,61,63].contains c
def Tf(c:Nat):Bool:=pls c|| [58,59].contains c
theorem sV:∀c<128,Fm ⟨#[c]⟩ PLS=pls c:=by decide+kernel
theorem Ig:∀c<128,Fm ⟨#[c]⟩ STS=Tf c:=by decide+kernel
def rn(r:List Nat):List D:=if r=[]then[]else[.str (S r)]
theorem BM:S []=Str.empty:=rfl
def Em(l:List Nat):Bool:=decide (1<=l.length/\l.length<=8)&&l.all abc
def Ij(l:List Nat):Bool:=decide (1<=l.length/\l.length<=80)&&l.all pls
theorem Lm(l)(ha:Bl l)(hl:l.length<=100000):Gen.Qv [.str (S l)]=aA (.fz (.bl (Em l))):=by have a:=Ih ABC abc l 8 ze ha hl;have i8:((8:Nat):Int)=8:=rfl;rw[i8]at a;unfold Gen.Qv Gen.Ms Em;generalize (decide (1<=l.length/\l.length<=8)&&l.all abc)=b at*;simp[a]
theorem pd(l)(ha:Bl l)(hl:l.length<=100000):Gen.Bh [.str (S l)]=aA (.fz (.bl (Ij l))):=by have a:=Ih PLS pls l 80 sV ha hl;have i8:((80:Nat):Int)=80:=rfl;rw[i8]at a;unfold Gen.Bh Gen.T5 Ij;generalize (decide (1<=l.length/\l.length<=80)&&l.all pls)=b at*;simp[a]
noncomputable def Qd(c:Nat):List Nat->List Nat×Option (List Nat)
 | []=>([],aB)
 |x::r=>if x=c then([],aA r)else let p:=Qd c r;(x::p.1,p.2)
theorem wL(c):∀l,c∉(Qd c l).1
 | []=>by simp[Qd]
 |x::r=>by
  unfold Qd;by_cases h:x=c
  .rw[bJ h];simp
  .rw[bI h];have:=wL c r;show c∉x::(Qd c r).1;rw[ba,not_or];exact⟨λe=>h e.symm,this⟩
theorem Xx(c):∀l,l=(Qd c l).1++(match(Qd c l).2 with|none=>[]|some r=>c::r)
 | []=>rfl
 |x::r=>by
  have ih:=Xx c r;unfold Qd;by_cases h:x=c
  .rw[bJ h,h];rfl
  .rw[bI h];show x::r=x::((Qd c r).1++(match(Qd c r).2 with|none=>[]|some r=>c::r))
   rw[<-ih]
theorem wK(c l):d5 (S l) (S [c])=(S (Qd c l).1,(match(Qd c l).2 with|none=>S []|some _=>S [c]),(match(Qd c l).2 with|none=>S []|some r=>S r)):=by
 have h1:=wL c l;have h2:=Xx c l;generalize Qd c l=p at*;obtain⟨a,o⟩:=p;cases o with
 |none=>rw[de]at h2;subst h2;exact lT (Ft c) (S l) (by rw[Yh];exact h1)
 |some r=>subst h2;have:=iG c (S a) (S r) (by rw[Yh];exact h1);rw[Wm,Wm]at this;rw[<-this];simp
theorem pZ(h:Bl (a++b)):Bl a/\Bl b:=⟨λc hc=>h c (ci _ hc),λc hc=>h c (bp _ hc)⟩
theorem Xy(h:Bl l):Bl (Qd c l).1/\(Qd c l).1.length<=l.length/\∀r,(Qd c l).2=aA r->Bl r/\r.length<=l.length:=by
 have h2:=Xx c l;generalize Qd c l=p at*;obtain⟨a,o⟩:=p;cases o with
 |none=>rw[de]at h2;subst h2;exact⟨h,bg _,λr z=>nomatch z⟩
 |some r=>subst h2;obtain⟨x,y⟩:=pZ h;refine⟨x,by simp,λr' z=>?_⟩;cases z;exact⟨λc hc=>y c (ad _ hc),by simp;omega⟩
end R51
namespace R51
open L2
noncomputable def sp:List Nat->List Nat×List (List Nat)
 | []=>([],[])
 |c::t=>if c=60 then([],(sp t).1::(sp t).2)else(c::(sp t).1,(sp t).2)
theorem BK:∀t,t=(sp t).1++(sp t).2.flatMap λx=>60::x
 | []=>rfl
 |c::t=>by
  have ih:=BK t;unfold sp;by_cases h:c=60
  .rw[bJ h,h];show 60::t=[]++((sp t).1::(sp t).2).flatMap λx=>60::x;rw[d6,cz,List.cons_append,<-ih]
  .rw[bI h];show c::t=c::(sp t).1++_;rw[List.cons_append,<-ih]
theorem zN:∀t,60∉(sp t).1/\∀x∈(sp t).2,60∉x
 | []=>by simp[sp]
 |c::t=>by
  obtain⟨h1,h2⟩:=zN t;unfold sp;by_cases h:c=60
  .rw[bJ h];refine⟨by simp,λx hx=>?_⟩;rcases ba.mp hx with e|e
   .rw[e];exact h1
   .exact h2 x e
  .rw[bI h];refine⟨?_,h2⟩;show 60∉c::(sp t).1;rw[ba,not_or];exact⟨λe=>h e.symm,h1⟩
theorem GY:∀t,(sp t).1.length<=t.length/\(sp t).2.length<=t.length/\∀x∈(sp t).2,x.length<=t.length
 | []=>by simp[sp]
 |c::t=>by
  obtain⟨h1,h2,h3⟩:=GY t;unfold sp;by_cases h:c=60
  .rw[bJ h];refine⟨by simp,by simp;omega,λx hx=>?_⟩;rcases ba.mp hx with e|e
   .rw[e];simp;omega
   .have:=h3 x e;simp;omega
  .rw[bI h];exact⟨by simp;omega,by simp;omega,λx hx=>by have:=h3 x hx;simp;omega⟩
theorem GX:∀{t:List Nat},Bl t->Bl (sp t).1/\∀x∈(sp t).2,Bl x
 | [],_=>by simp[sp,Bl]
 |c::t,ha=>by
  obtain⟨h1,h2⟩:=GX (t:=t) λk hk=>ha k (ad _ hk);unfold sp;by_cases h:c=60
  .rw[bJ h];refine⟨by simp[Bl],λx hx=>?_⟩;rcases ba.mp hx with e|e
   .rw[e];exact h1
   .exact h2 x e
  .rw[bI h];refine⟨λk hk=>?_,h2⟩;rcases ba.mp hk with e|e
   .rw[e];exact ha c aa
   .exact h1 k e
noncomputable abbrev LTS:Str:="<"
theorem BJ:LTS=S [60]:=by decide+kernel
theorem BI:∀r:List (List Nat),Fs (r.map λx=>S [60]++S x)=S (r.flatMap λx=>60::x)
 | []=>rfl
 |x::r=>by show(S [60]++S x)++Fs _=_;rw[BI r,Wm,Wm,d6];simp
theorem mZ(t):Txt.split (S t) LTS=S (sp t).1::(sp t).2.map S:=by
 obtain⟨h1,h2⟩:=zN t;have e:S t=di (S [60]) (S (sp t).1::(sp t).2.map S):=by rw[P5,b6];show S t=S (sp t).1++Fs ((sp t).2.map λx=>S [60]++S x);rw[BI,Wm];exact congrArg S (BK t)
 have:=Lh (Ft 60) (by rw[<-BJ];decide+kernel) (S (sp t).1::(sp t).2.map S) (by simp) (λp hp=>by
  rcases ba.mp hp with e|hp
  .rw[e,Yh];exact h1
  .obtain⟨y,hy,rfl⟩:=bd.mp hp;rw[Yh];exact h2 y hy)
 rw[<-e]at this;rw[BJ];exact this
def L4(l:List Nat):List Nat:=(Qd 62 l).1
def Fx(l:List Nat):List Nat:=(Qd 62 l).2.getD []
def Xz(l:List Nat):Bool:=(Qd 62 l).2.isSome
theorem pY(ha:Bl l):Bl (Fx l)/\(Fx l).length<=l.length:=by
 obtain⟨_,_,a3⟩:=Xy (c:=62) ha;unfold Fx;cases ho:(Qd 62 l).2 with
 |none=>exact⟨(λc hc=>nomatch hc),cr _⟩
 |some r=>exact a3 r ho
theorem wJ(a0 a1 a2 cs l x5)(hl:l.length<=1000)(hp:cs.length<=100000):
  (Xz l=aC->∃y5,Gen.U0 [a0,a1,a2,aA (.ol cs),aA (.fz (.str (S l))),x5]=aA (.nx [a0,a1,a2,aA (.ol (cs++[.str (S (L4 l)),.str (S (Fx l))])),aA (.fz (.str (S l))),y5]))/\
  (Xz l=aD->Gen.U0 [a0,a1,a2,aA (.ol cs),aA (.fz (.str (S l))),x5]=aA (.rt (.fz .non))):=by
 have QB:az ">"=S [62]:=by decide+kernel
 have z:(S l).length<=PySem.sizeLine:=Zn (by rw[Z1];omega);rw[Z1]at z;have RZ:¬(S [62]).length=0:=by decide+kernel
 have he:az ""=Str.empty:=rfl;have YZ:¬S [62]=Str.empty:=by decide+kernel
 have z0:2<=PySem.sizeLine:=Zn (by decide);have z2:cs.length+2<=PySem.sizeLine:=Zn (by omega);have pc:=wK 62 l;unfold Xz Fx L4 Gen.U0;cases ho:(Qd 62 l).2 with
 |none=>rw[ho]at pc;dsimp only at pc⊢;generalize (Qd 62 l).1=a at*;refine⟨(λh=>bN h (by decide)),λ_=>?_⟩;simp[BM,L2.atI,L2.Nf,Z1,z,RZ,QB,pc,he]
 |some r=>rw[ho]at pc;dsimp only at pc⊢;generalize (Qd 62 l).1=a at*;refine⟨(λ_=>?_),λh=>bN h (by simp)⟩;simp[BM,L2.atI,L2.Nf,Z1,z,RZ,QB,pc,he,YZ,z0,z2]
abbrev two(l:List Nat):List D:=[.str (S (L4 l)),.str (S (Fx l))]
theorem wI(a0 a1 a2):∀(xs:List (List Nat)) cs x4 x5,(∀x∈xs,x.length<=1000/\Xz x=aC)->cs.length+2*xs.length<=100000->
  ∃y4 y5,Yr (Zl 4) Gen.U0 (xs.map λx=>D.str (S x)) [a0,a1,a2,aA (.ol cs),x4,x5]=aA (.nx [a0,a1,a2,aA (.ol (cs++xs.flatMap two)),y4,y5])
 | [],cs,x4,x5,_,_=>⟨x4,x5,by simp⟩
 |x::xs,cs,x4,x5,h,hl=>by rw[bc]at hl;obtain⟨h2,h3⟩:=h x aa;obtain⟨y5,hb⟩:=(wJ a0 a1 a2 cs x x5 h2 (by omega)).1 h3;obtain⟨y4,va,e⟩:=wI a0 a1 a2 xs (cs++two x) (aA (.fz (.str (S x)))) y5 (λy hy=>h y (ad _ hy)) (by rw[ao];simp;omega);refine⟨y4,va,?_⟩;rw[bn];refine(Ys (by simp) hb).trans (e.trans ?_);simp
theorem yi(a0 a1 a2):∀(xs:List (List Nat)) cs x4 x5,(∀x∈xs,x.length<=1000)->xs.all Xz=aD->cs.length+2*xs.length<=100000->
  Yr (Zl 4) Gen.U0 (xs.map λx=>D.str (S x)) [a0,a1,a2,aA (.ol cs),x4,x5]=aA (.rt (.fz .non))
 | [],cs,x4,x5,_,hb,_=>by simp at hb
 |x::xs,cs,x4,x5,h,hb,hl=>by
  rw[bc]at hl;have h2:=h x aa;have st:=wJ a0 a1 a2 cs x x5 h2 (by omega);rw[bn];cases hx:Xz x with
  |false=>exact Xi (by simp) (st.2 hx)
  |true=>
   obtain⟨y5,e1⟩:=st.1 hx;have XQ:xs.all Xz=aD:=by rw[List.all_cons,hx]at hb;exact hb
   exact(Ys (by simp) e1).trans (yi a0 a1 a2 xs (cs++two x) (aA (.fz (.str (S x)))) y5 (λy hy=>h y (ad _ hy)) XQ (by rw[ao];simp;omega))
theorem wr:∀ls:List (List Nat),Fs (ls.map S)=S ls.flatten
 | []=>rfl
 |l::ls=>by show S l++Fs (ls.map S)=_;rw[wr ls,Wm];rfl
theorem wq(f):∀ls:List (List Nat),ls.flatten.all f=ls.all λl=>l.all f
 | []=>rfl
 |l::ls=>by rw[List.flatten_cons,List.all_append,wq f ls];rfl
def okA(t:List Nat):Bool:=(sp t).2.all Xz&&((sp t).1::(sp t).2.map Fx).all λl=>l.all Tf
abbrev Sq(t:List Nat):List D:=.str (S (sp t).1)::(sp t).2.flatMap two
theorem yh:∀ls:List (List Nat),(∀l∈ls,l.length<=B)->ls.flatten.length<=ls.length*B
 | [],_=>cr _
 |l::ls,h=>by have:=yh ls λx hx=>h x (ad _ hx);have:=h l aa;rw[List.flatten_cons,ao,bc,Nat.succ_mul];omega
theorem jU(t)(ha:Bl t)(hl:t.length<=1000):Gen.Mc [.str (S t),.str STS]=aA (if okA t=aC then .ol (Sq t)else .fz .non):=by
 have Fg:=mZ t;obtain⟨l1,l2,l3⟩:=GY t;obtain⟨c1,c2⟩:=GX ha;have z:(S t).length<=PySem.sizeLine:=Zn (by rw[Z1];omega);rw[Z1]at z;have RZ:¬LTS.length=0:=by decide+kernel
 have hh:az "<"=LTS:=rfl;have z1:1<=PySem.sizeLine:=Zn (by decide);have SF:(sp t).2.length+1<=PySem.sizeLine:=Zn (by omega);have mm:((sp t).2.map S).map D.str=(sp t).2.map λx=>D.str (S x):=by rw[b6];rfl
 have ag:=wI (aA (.fz (.str (S t)))) (aA (.fz (.str STS))) (aA (.ol (.str (S (sp t).1)::(sp t).2.map λx=>D.str (S x)))) (sp t).2 [.str (S (sp t).1)] aB aB;have ab:=yi (aA (.fz (.str (S t)))) (aA (.fz (.str STS))) (aA (.ol (.str (S (sp t).1)::(sp t).2.map λx=>D.str (S x)))) (sp t).2 [.str (S (sp t).1)] aB aB (λx hx=>by have:=l3 x hx;omega);have gd:∀x∈(sp t).2,(sp t).2.all Xz=aC->Xz x=aC:=λx hx h=>b9.mp h x hx;have ac:∀x∈(sp t).2,Bl x/\x.length<=1000:=λx hx=>⟨c2 x hx,by have:=l3 x hx;omega⟩
 have cu:I9 (.str (S (sp t).1)::(sp t).2.map λx=>D.str (S x)) (aA 1) aB=(sp t).2.map λx=>D.str (S x):=by have:=wZ (.str (S (sp t).1)::(sp t).2.map λx=>D.str (S x)) 1 (by simp);exact this
 have a0:L2.atI (.str (S (sp t).1)::(sp t).2.map λx=>D.str (S x)) 0=aA (.str (S (sp t).1)):=Ce _ 0 _ rfl;have er:∀x∈(sp t).1::(sp t).2.map Fx,Bl x/\x.length<=1000:=λx hx=>by
  rcases ba.mp hx with e|hx
  .rw[e];exact⟨c1,by omega⟩
  .obtain⟨y,hy,rfl⟩:=bd.mp hx;have h1:=pY (ac y hy).1;have h2:=(ac y hy).2;exact⟨h1.1,by omega⟩
 have pk:L2.Of (Sq t) aB aB (aA 2)=(((sp t).1::(sp t).2.map Fx).map S).map D.str:=by rw[lQ];have:=xA (λl=>D.str (S (L4 l))) (λl=>D.str (S (Fx l))) (.str (S (sp t).1)) (sp t).2;refine this.trans ?_;simp
 have fl:=yh ((sp t).1::(sp t).2.map Fx) (λx hx=>(er x hx).2);have al:=BV STS Tf ((sp t).1::(sp t).2.map Fx).flatten Ig (λc hc=>by
  obtain⟨x,hx,hc⟩:=List.mem_flatten.mp hc;exact(er x hx).1 c hc) (by simp only[bc,ay]at fl;omega)
 rw[wq]at al;have ss:=W9 (((sp t).1::(sp t).2.map Fx).map S);have jo:JoinOk (az "") (((sp t).1::(sp t).2.map Fx).map S)=aC:=Le (B:=1000) (λx hx=>by
  obtain⟨y,hy,rfl⟩:=bd.mp hx;rw[Z1];exact(er y hy).2) (by
  have e0:(az "").length=0:=by decide+kernel
  rw[e0];simp only[bc,ay];omega)
 have jn:Txt.join (az "") (((sp t).1::(sp t).2.map Fx).map S)=S ((sp t).1::(sp t).2.map Fx).flatten:=(FL _).trans (wr _);unfold okA;have cc:[.str (S (sp t).1)]++(sp t).2.flatMap two=Sq t:=rfl;rw[cc]at ag;generalize Sq t=cs,(sp t).1::(sp t).2.map Fx=rs at*;unfold Gen.Mc Gen.Ll;generalize (sp t).2=segs,(sp t).1=r0 at*;cases hs:segs.all Xz with
 |false=>have e:=ab hs (by simp;omega);simp[-Yr,-b6,mm,hh,Fg,Z1,z,z1,SF,RZ,cu,a0,e]
 |true=>
  obtain⟨y4,y5,e⟩:=ag (λx hx=>⟨(ac x hx).2,gd x hx hs⟩) (by simp;omega);generalize (rs.all λl=>l.all Tf)=b at*;cases b with
  |true=>simp[-Yr,-b6,mm,hh,Fg,Z1,z,z1,SF,RZ,cu,a0,e,pk,ss,jo,jn,al]
  |false=>simp[-Yr,-b6,mm,hh,Fg,Z1,z,z1,SF,RZ,cu,a0,e,pk,ss,jo,jn,al]
end R51
namespace R51
open L2
theorem mY(b)(ys:List α):L2.Of (b::ys) (aA 1) aB (aA 2)=ev ys:=by
 unfold L2.Of;have e1:(PySem.sliceBounds (aA 1) aB (aA 2) (b::ys).length)=(1,((ys.length+1:Nat):Int),2):=by rw[bc];unfold PySem.sliceBounds;simp;omega
 rw[e1];dsimp only;have e2:PySem.sliceRange 1 ((ys.length+1:Nat):Int) 2=((gh ((ys.length+1) / 2)).map λk=>2*k).map λk=>k+1:=by
  unfold PySem.sliceRange;rw[bJ (by decide)];by_cases h:ys.length=0
  .rw[h];rfl
  .rw[bJ (by omega)];dsimp only;rw[show(((ys.length+1:Nat):Int)- 1+2- 1) / 2=(((ys.length+1) / 2:Nat):Int) by omega,Int.toNat_natCast,b6];refine dl λk _=>?_;show(1+2*(k:Int)).toNat=2*k+1;omega
 rw[e2,List.filterMap_map];have e3:((λx:Nat=>(b::ys)[x]?)∘λk=>k+1)=λx=>ys[x]?:=by funext k;rfl
 rw[e3];exact Xj _ ys (by omega)
noncomputable abbrev Ti:List Nat:=[110,111,116,101]
noncomputable abbrev Tj:List Nat:=[107,105,110,100]
def Qh(m:List Nat):List Nat:=(Qd 61 m).1
def Qp(m:List Nat):List Nat:=(Qd 61 m).2.getD []
def mkB(a b:List Nat):Bool:=Em a&&(!(a==Ti||a==Tj)&&Ij b)
theorem Ln:az "note"=S Ti:=by decide+kernel
theorem zM:az "kind"=S Tj:=by decide+kernel
theorem z2:2<=PySem.sizeLine:=Zn (by decide)
theorem BH(a b):decide (S a=S b)=(a==b):=by
 by_cases h:a=b
 .rw[h];simp
 .rw[bK (OM h),beq_eq_false_iff_ne.mpr h]
theorem sU(a b)(ha:Bl a)(hb:Bl b)(la:a.length<=1000)(lb:b.length<=1000):Gen.C6 [.str (S a),.str (S b)]=aA (.fz (.bl (mkB a b))):=by
 have h1:=Lm a ha (by omega);have h2:=pd b hb (by omega);have q:Nq (.str (S a)) [.str (S Ti),.str (S Tj)]=(a==Ti||a==Tj):=by show(V6 (.str (S Ti)) (.str (S a))|| (V6 (.str (S Tj)) (.str (S a))||false))=_;rw[K7,K7,BH,BH,Bool.or_false];rw[show(Ti==a)=(a==Ti)from BEq.comm,show(Tj==a)=(a==Tj)from BEq.comm]
 unfold mkB;generalize (a==Ti||a==Tj)=c,Em a=x,Ij b=y at*;unfold Gen.C6 Gen.Ie;cases x with
 |false=>simp[-Nq,h1]
 |true=>
  cases c with
  |true=>simp[-Nq,h1,z2,Ln,zM,q,D.seq?]
  |false=>simp[-Nq,h1,h2,z2,Ln,zM,q,D.seq?]
theorem pX(m):∃c,d5 (S m) (S [61])=(S (Qh m),c,S (Qp m)):=by
 have:=wK 61 m;rw[this];unfold Qh Qp;cases(Qd 61 m).2 with
 |none=>exact⟨_,rfl⟩
 |some r=>exact⟨_,rfl⟩
theorem G_(h:Bl m)(hl:m.length<=1000):Bl (Qh m)/\Bl (Qp m)/\(Qh m).length<=1000/\(Qp m).length<=1000:=by
 obtain⟨a1,a2,a3⟩:=Xy (c:=61) h;unfold Qh Qp;cases ho:(Qd 61 m).2 with
 |none=>exact⟨a1,(λc hc=>nomatch hc),by omega,cr _⟩
 |some r=>exact⟨a1,(a3 r ho).1,by omega,by have:=(a3 r ho).2;show r.length<=1000;omega⟩
structure Tx(xs:List Str)(vs:List D):Prop where
 dic:Dic xs vs
 txt:∀v∈vs,∃y,v= .str (S y)
 few:vs.length<=1000
theorem QF:az "="=S [61]:=by decide+kernel
theorem t3a(x y z:D):L2.atI [x,y,z] 0=aA x:=rfl
theorem t3c(x y z:D):L2.atI [x,y,z] 2=aA z:=rfl
theorem jT(A m)(ha:Bl m)(hl:m.length<=1000)(xs vs)(h:Tx xs vs)(hf:vs.length<1000)(x3):
  (Gen.Ws [A,aA (.oK (Z3 xs) vs),aA (.fz (.str (S m))),x3]=aA (.rt (.fz .non))/\(mkB (Qh m) (Qp m)=aD\/∃y,Z9 xs vs (S (Qh m))=aA (.str (S y))/\y≠Qp m))\/
  (mkB (Qh m) (Qp m)=aC/\(∀y,Z9 xs vs (S (Qh m))=aA (.str (S y))->y=Qp m)/\∃y3,Gen.Ws [A,aA (.oK (Z3 xs) vs),aA (.fz (.str (S m))),x3]=aA (.nx [A,aA (.oK (Z3 (Yw xs vs (S (Qh m)) (.str (S (Qp m)))).1) (Yw xs vs (S (Qh m)) (.str (S (Qp m)))).2),aA (.fz (.str (S m))),y3])):=by
 obtain⟨c,pe⟩:=pX m;obtain⟨q1,q2,q3,q4⟩:=G_ ha hl;have im:=sU (Qh m) (Qp m) q1 q2 q3 q4;have z:m.length<=PySem.sizeLine:=Zn (by omega);have h0:¬(S [61]).length=0:=by decide+kernel
 have li:=Og (S (Qh m)) xs vs;have pi:=Q3 (S (Qh m)) (.str (S (Qp m))) xs vs;have pl:=A7 (S (Qh m)) (.str (S (Qp m))) xs vs h.dic.len;have zl:vs.length<PySem.sizeLine:=Y2 (by omega);generalize Yw xs vs (S (Qh m)) (.str (S (Qp m)))=P at*;obtain⟨P1,P2⟩:=P;cases hb:mkB (Qh m) (Qp m)with
 |false=>rw[hb]at im;refine .inl ⟨?_,.inl rfl⟩;generalize S (Qh m)=N,S (Qp m)=T at*;unfold Gen.Ws;simp[-Z9,-Yw,Z1,z,QF,h0,pe,t3a,t3c,im]
 |true=>
  rw[hb]at im;cases ho:Z9 xs vs (S (Qh m))with
  |none=>rw[ho]at li;refine .inr ⟨rfl,(λy hy=>nomatch hy),aA (.fz (.tup [.str (S (Qh m)),.str c,.str (S (Qp m))])),?_⟩;generalize S (Qh m)=N,S (Qp m)=T at*;unfold Gen.Ws;simp[-Z9,-Yw,Z1,z,QF,h0,pe,t3a,t3c,im,li,pi,zl]
  |some d=>
   obtain⟨y,rfl⟩:=h.txt d (lS ho);rw[ho]at li;by_cases hy:y=Qp m
   .refine .inr ⟨rfl,(λy' WC=>by injection WC with WC;injection WC with WC;rw[<-Bz WC];exact hy),aA (.fz (.tup [.str (S (Qh m)),.str c,.str (S (Qp m))])),?_⟩;rw[hy]at li;generalize S (Qh m)=N,S (Qp m)=T at*;unfold Gen.Ws;simp[-Z9,-Yw,Z1,z,QF,h0,pe,t3a,t3c,im,li,pi,zl]
   .refine .inl ⟨?_,.inr ⟨y,rfl,hy⟩⟩;have YZ:¬S y=S (Qp m):=OM hy;generalize S (Qh m)=N,S (Qp m)=T at*;unfold Gen.Ws;simp[-Z9,-Yw,Z1,z,QF,h0,pe,t3a,t3c,im,li,YZ]
theorem Tx.put(h:Tx xs vs)(hf:vs.length<1000)(k y):Tx (Yw xs vs k (.str (S y))).1 (Yw xs vs k (.str (S y))).2:=by
 refine⟨h.dic.put k _,λv hv=>?_,by have:=(A7 k (.str (S y)) xs vs h.dic.len).2;omega⟩;rcases P6 k _ xs vs v hv with z|z
 .exact⟨y,z⟩
 .exact h.txt v z
abbrev RN(ms:List (List Nat)):List D:=ms.map λm=>D.str (S m)
def IT(p:List Str×List D)(m:List Nat):List Str×List D:=Yw p.1 p.2 (S (Qh m)) (.str (S (Qp m)))
def L5(ms:List (List Nat))(p:List Str×List D):List Str×List D:=ms.foldl IT p
theorem L6(A)(G:List Nat->List Nat):∀ms xs vs x2 x3,(∀m∈ms,Bl m/\m.length<=1000)->Tx xs vs->vs.length+ms.length<=900->(∀m∈ms,mkB (Qh m) (Qp m)=aC/\Qp m=G (Qh m))->(∀k y,Z9 xs vs (S k)=aA (.str (S y))->y=G k)->
  ∃y2 y3,Yr (Zl 2) Gen.Ws (RN ms) [A,aA (.oK (Z3 xs) vs),x2,x3]=aA (.nx [A,aA (.oK (Z3 (L5 ms (xs,vs)).1) (L5 ms (xs,vs)).2),y2,y3])
 | [],xs,vs,x2,x3,_,ht,_,_,_=>⟨x2,x3,rfl⟩
 |m::ms,xs,vs,x2,x3,ha,ht,hl,hb,hG=>by
  obtain⟨a1,a2⟩:=ha m aa;obtain⟨b1,b2⟩:=hb m aa;rw[bc]at hl;have run:(Zl 2).run (.str (S m)) [A,aA (.oK (Z3 xs) vs),x2,x3]=aA [A,aA (.oK (Z3 xs) vs),aA (.fz (.str (S m))),x3]:=by simp
  rcases jT A m a1 a2 xs vs ht (by omega) x3 with⟨_,g|⟨y,hy,hn⟩⟩|⟨g,g2,y3,e⟩
  .rw[b1]at g;cases g
  .exact bN (by rw[hG _ _ hy,b2]) hn
  .have pl:=(A7 (S (Qh m)) (.str (S (Qp m))) xs vs ht.dic.len).2;obtain⟨y2,vb,k2⟩:=L6 A G ms _ _ (aA (.fz (.str (S m)))) y3 (λx hx=>ha x (ad _ hx)) (ht.put (by omega) (S (Qh m)) (Qp m)) (by omega) (λx hx=>hb x (ad _ hx)) (λk y hy=>by
    rw[wd _ _ _ _ _ ht.dic.len]at hy;by_cases hk:S (Qh m)=S k
    .rw[bJ hk]at hy;injection hy with hy;injection hy with hy;rw[<-Bz hy,<-Bz hk,b2]
    .rw[bI hk]at hy;exact hG k y hy)
   exact⟨y2,vb,(Ys run e).trans k2⟩
theorem Tx.nil:Tx [] []:=⟨⟨cx,rfl⟩,(λ_ h=>nomatch h),cr _⟩
theorem X0(G:List Nat->List Nat)(ha:∀m∈ms,Bl m/\m.length<=1000)(hl:ms.length<=900)(h:∀m∈ms,mkB (Qh m) (Qp m)=aC/\Qp m=G (Qh m))(hf:L5 ms ([],[])=(xs,vs)):Gen.Up [.lst (RN ms)]=aA (.oK (Z3 xs) vs):=by obtain⟨y2,y3,e⟩:=L6 (aA (.fz (.lst (RN ms)))) G ms [] [] aB aB ha Tx.nil (by simpa using hl) h (λk y hy=>by simp at hy);have e0:(Z3 []:List L2.Key)=[]:=rfl;rw[e0,hf]at e;dsimp only at e;generalize RN ms=C at*;unfold Gen.Up Gen.G3;simp[-Yr,e]
end R51
namespace R51
open L2
noncomputable def Fg(c:Nat):List Nat->List (List Nat)
 | []=>[[]]
 |a::l=>if a=c then[]::Fg c l else match Fg c l with
  |p::r=>(a::p)::r
  | []=>[[a]]
theorem X1(c l):∀p,c∉p->Fg c (p++c::l)=p::Fg c l
 | [],_=>by show Fg c (c::l)=_;rw[Fg,bJ rfl]
 |a::p,h=>by have e:=X1 c l p λz=>h (ad _ z);have n:¬a=c:=λz=>h (by rw[z];exact aa);show Fg c (a::(p++c::l))=_;rw[Fg,bI n,e]
theorem En(c):∀l,Fg c l≠[]/\(∀p∈Fg c l,c∉p)/\jl [c] (Fg c l)=l
 | []=>⟨by simp[Fg],by simp[Fg],rfl⟩
 |a::l=>by
  obtain⟨h0,h1,h2⟩:=En c l;unfold Fg;by_cases e:a=c
  .rw[bJ e];refine⟨by simp,λp hp=>?_,?_⟩
   .rcases ba.mp hp with z|z
    .rw[z];exact λh=>nomatch h
    .exact h1 p z
   .cases hs:Fg c l with
    |nil=>exact bN hs h0
    |cons q r=>show[]++[c]++jl [c] (q::r)=a::l;rw[<-hs,h2,e];rfl
  .rw[bI e];cases hs:Fg c l with
   |nil=>exact bN hs h0
   |cons q r=>
    rw[hs]at h1 h2;refine⟨by simp,λp hp=>?_,?_⟩
    .rcases ba.mp hp with z|z
     .rw[z];intro h;rcases ba.mp h with y|y
      .exact e y.symm
      .exact h1 q aa y
     .exact h1 p (ad _ z)
    .cases r with
     |nil=>show a::q=a::l;rw[show q=l from h2]
     |cons q' r=>have h2:q++[c]++jl [c] (q'::r)=l:=h2;show(a::q)++[c]++jl [c] (q'::r)=a::l;rw[<-h2];rfl
def RM:List (List Nat)->List (List Nat)
 |p::q::r::s=>[p,q,jl [32] (r::s)]
 |l=>l
theorem yg:∀ps,jl [32] (RM ps)=jl [32] ps
 | []=>rfl
 | [_]=>rfl
 | [_,_]=>rfl
 |_::_::_::_=>rfl
theorem pW:∀{ps:List (List Nat)},ps≠[]->RM ps≠[]
 | [],h=>bN rfl h
 | [_],_=>by simp[RM]
 | [_,_],_=>by simp[RM]
 |_::_::_::_,_=>by simp[RM]
theorem mX:∀ps,pos 1 0 (RM ps)=(pos 1 0 ps).take 2
 | []=>rfl
 | [_]=>rfl
 | [_,_]=>rfl
 | [_,_,_]=>rfl
 |_::_::_::_::_=>rfl
def Jf(t:List Nat):List (List Nat):=RM (Fg 32 t)
open PySem.StrLaws in
theorem sT(t:List Nat):Txt.splitMax (S t) (S [32]) 2=(Jf t).map S:=by
 obtain⟨h0,h1,h2⟩:=En 32 t;have hk:c7 (S [32])=1:=by decide+kernel
 have l1:(S [32]).length=1:=Z1 _;have c1:(S [32]).cps.toList=[32]:=Yh _;have fits:M4 (S [32]).cps.toList (Fg 32 t):=by rw[c1];exact Bd _ h0 h1
 have ex:(S t).cps.toList=jl (S [32]).cps.toList (Fg 32 t):=by rw[c1,h2,Yh]
 have oc:=Rz (S t) (S [32]) (by rw[l1];exact bg _) (Fg 32 t) fits ex 2;rw[l1,<-mX]at oc;have K':PySem.limitOf (S t) 2=2:=rfl;have e3:(S t).cps.toList=jl [32] (Jf t):=by rw[Yh];unfold Jf;rw[yg,h2]
 have n3:Jf t≠[]:=pW h0;have oc:bv (S t) (S [32]) 0 (S t).length 2=pos 1 0 (Jf t):=oc;have one:pos 1 0 (Jf t)=[]->[S t]=(Jf t).map S:=λz=>by
  rcases Xh z with z|⟨p,z⟩
  .exact bN z n3
  .rw[z]at e3⊢;rw[Yh]at e3;rw[e3];rfl
 unfold Txt.splitMax;rw[K',oc];by_cases hs:(decide ((S t).length<(S [32]).length)||decide (c7 (S t)<c7 (S [32])))=aC
 .rw[bJ hs];have YL:(S t).length<1:=by
   rw[hk]at hs;have:=Lg (S t);rcases Bool.or_eq_true_iff.mp hs with z|z
   .have:=bM z;omega
   .have:=bM z;omega
  rw[Z1]at YL;have ht:t=[]:=List.eq_nil_of_length_eq_zero (by omega);subst ht;rfl
 .rw[bI hs];by_cases he:(pos 1 0 (Jf t)).isEmpty=aC
  .rw[bJ he];exact one (List.isEmpty_iff.mp he)
  .rw[bI he,partsBetween_eq];have z:=A6 (y:=[32]) (S t) (Jf t) 0 n3 (by rw[List.drop_zero];exact e3) (cr _);rw[l1];exact z
theorem L7(hw:w∈Jf t):(∀c∈w,c∈t)/\w.length<=t.length:=by
 have e:jl [32] (Jf t)=t:=by unfold Jf;rw[yg];exact(En 32 t).2.2
 have h:∀(ps:List (List Nat)),w∈ps->(∀c∈w,c∈jl [32] ps)/\w.length<=(jl [32] ps).length:=by
  intro ps;induction ps with
  |nil=>intro h;exact nomatch h
  |cons q r ih=>
   intro h;cases r with
   |nil=>rw[af.mp h];exact⟨λ_ h=>h,bg _⟩
   |cons q' r=>
    show(∀c∈w,c∈q++[32]++jl [32] (q'::r))/\w.length<=(q++[32]++jl [32] (q'::r)).length;rcases ba.mp h with z|z
    .rw[z];refine⟨λc hc=>ci _ (ci _ hc),?_⟩;rw[ao,ao];omega
    .obtain⟨a,b⟩:=ih z;refine⟨λc hc=>bp _ (a c hc),?_⟩;rw[ao];omega
 have:=h _ hw;rw[e]at this;exact this
def mks(t:List Nat):List (List Nat):=(sp t).2.map L4
theorem tm(ha:Bl t)(hl:t.length<=800):(∀m∈mks t,Bl m/\m.length<=1000)/\(mks t).length<=900:=by obtain⟨l1,l2,l3⟩:=GY t;obtain⟨c1,c2⟩:=GX ha;refine⟨λm hm=>?_,by unfold mks;rw[ay];omega⟩;unfold mks at hm;obtain⟨x,hx,rfl⟩:=bd.mp hm;obtain⟨a1,a2,_⟩:=Xy (c:=62) (c2 x hx);have:=l3 x hx;exact⟨a1,by show(Qd 62 x).1.length<=1000;omega⟩
theorem pV(t):L2.Of (Sq t) (aA 1) aB (aA 2)=RN (mks t):=by rw[mY];have:=wW (λl=>D.str (S (L4 l))) (λl=>D.str (S (Fx l))) (sp t).2;refine this.trans ?_;unfold mks RN;rw[b6];rfl
theorem w3a(x y z:D):L2.atI [x,y,z] 0=aA x:=rfl
theorem w3b(x y z:D):L2.atI [x,y,z] 1=aA y:=rfl
theorem w3c(x y z:D):L2.atI [x,y,z] 2=aA z:=rfl
theorem dZ : az "ABCDEFGHIJKLMNOPQRSTUVWXYZabcdefghijklmnopqrstuvwxyz0123456789 .,!?'-/()&+*=:;" = STS := rfl
theorem Xw(G:List Nat->List Nat)(ha:Bl t)(hl:t.length<=800)(e:Jf t=[a,b,c])(h1:Em a=aC)(h2:Em b=aC)(h3:okA c=aC)(h4:∀m∈mks c,mkB (Qh m) (Qp m)=aC/\Qp m=G (Qh m))(hf:L5 (mks c) ([],[])=(xs,vs)):
  Gen.Bi [.lst [.str (S a),.str (S b),.str (S c)]]=aA (.oK (Z3 xs) vs):=by
 have wa:=L7 (t:=t) (w:=a) (by rw[e];simp);have wb:=L7 (t:=t) (w:=b) (by rw[e];simp);have wc:=L7 (t:=t) (w:=c) (by rw[e];simp);have na:=Lm a (λx hx=>ha x (wa.1 x hx)) (by omega);have nb:=Lm b (λx hx=>ha x (wb.1 x hx)) (by omega);have ac:Bl c:=λx hx=>ha x (wc.1 x hx);have an:=jU c ac (by omega);rw[h1]at na;rw[h2]at nb;rw[h3,bJ rfl]at an;obtain⟨m1,m2⟩:=tm ac (by omega);have rm:=X0 G m1 m2 h4 hf;have od:=pV c;generalize RN (mks c)=MD,Sq c=CT,S a=SA,S b=SB,S c=SC at*;unfold Gen.Bi Gen.T6;simp[w3a,w3b,w3c,na,nb,an,od,rm]
end R51
namespace R51
open L2
noncomputable def M6(p:List Nat):List (List Nat)->List Nat->List Nat×List (List Nat)
 | [],s=>(p++s,[])
 |r::rs,s=>(p,(M6 r rs s).1::(M6 r rs s).2)
theorem X2:∀s,60∉s->sp s=(s,[])
 | [],_=>rfl
 |c::s,h=>by have n:¬c=60:=λz=>h (by rw[z];exact aa);rw[sp,bI n,X2 s λz=>h (ad _ z)]
theorem jS(c p rs s):M6 (c::p) rs s=(c::(M6 p rs s).1,(M6 p rs s).2):=by cases rs<;> rfl
theorem yf(s)(h:60∉s):∀t,sp (t++s)=M6 (sp t).1 (sp t).2 s
 | []=>by
  show sp s=([]++s,[])
  rw[X2 s h];rfl
 |c::t=>by
  have ih:=yf s h t;show sp (c::(t++s))=_;by_cases e:c=60
  .rw[sp,bJ e,ih];rw[sp,bJ e];rfl
  .rw[sp,bI e,ih];rw[sp,bI e];exact(jS c _ _ s).symm
theorem ye(r)(h:60∉r):∀t,sp (t++60::r)=((sp t).1,(sp t).2++[r])
 | []=>by
  show sp (60::r)=([],[r])
  rw[sp,bJ rfl,X2 r h]
 |c::t=>by
  have ih:=ye r h t;show sp (c::(t++60::r))=_;by_cases e:c=60
  .rw[sp,bJ e,ih];rw[sp,bJ e];rfl
  .rw[sp,bI e,ih];rw[sp,bI e]
theorem wp(p rs s):(M6 p rs s).1=p\/(M6 p rs s).1=p++s:=by
 cases rs with
 |nil=>exact .inr rfl
 |cons r rs=>exact .inl rfl
theorem Sr(s):∀rs p,∀r'∈(M6 p rs s).2,∃r∈rs,r'=r\/r'=r++s
 | [],_,_,h=>nomatch h
 |q::rs,p,r',h=>by
  have h:r'∈(M6 q rs s).1::(M6 q rs s).2:=h;rcases ba.mp h with z|z
  .refine⟨q,aa,?_⟩;rw[z];exact wp q rs s
  .obtain⟨r,hr,e⟩:=Sr s rs q r' z;exact⟨r,ad _ hr,e⟩
theorem wn(s):∀{l r:List Nat},(Qd c l).2=aA r->Qd c (l++s)=((Qd c l).1,aA (r++s))
 | [],r,h=>by simp[Qd]at h
 |x::l,r,h=>by
  show Qd c (x::(l++s))=_;unfold Qd at h⊢;by_cases e:x=c
  .rw[bJ e]at h⊢;rw[bJ e];cases h;rfl
  .rw[bI e]at h⊢;rw[bI e];have:=wn s (l:=l) (r:=r) h;dsimp only;rw[this]
theorem X3(r):∀{l:List Nat},c∉l->Qd c (l++c::r)=(l,aA r)
 | [],_=>by show Qd c (c::r)=_;unfold Qd;rw[bJ rfl]
 |x::l,h=>by have n:¬x=c:=λz=>h (by rw[z];exact aa);show Qd c (x::(l++c::r))=_;unfold Qd;rw[bI n,X3 r λz=>h (ad _ z)]
theorem zL(s)(h:Xz l=aC):Xz (l++s)=aC/\L4 (l++s)=L4 l/\Fx (l++s)=Fx l++s:=by
 unfold Xz at h;cases ho:(Qd 62 l).2 with
 |none=>rw[ho]at h;cases h
 |some r=>have:=wn s ho;unfold Xz L4 Fx;rw[this,ho];exact⟨rfl,rfl,rfl⟩
theorem tZ(ha:32∉a)(hb:32∉b):Jf (a++32::(b++32::c))=[a,b,c]:=by
 unfold Jf;rw[X1 32 _ a ha,X1 32 _ b hb];obtain⟨h0,_,h2⟩:=En 32 c;cases hs:Fg 32 c with
 |nil=>exact bN hs h0
 |cons p r=>rw[hs]at h2;show[a,b,jl [32] (p::r)]=_;rw[h2]
theorem MF:az " "=S [32]:=by decide+kernel
theorem z3:3<=PySem.sizeLine:=Zn (by decide)
theorem Nm.no(h:Nm w)(c)(hc:c<97\/122<c):c∉w:=λz=>by have:=h.is c z;omega
theorem Nm.asc(h:Nm w):Bl w:=λc z=>by have:=h.is c z;omega
theorem tY(h1:97<=c)(h2:c<=122):abc c=aC:=by unfold abc;rw[Nat.ble_eq_true_of_le h1,Nat.ble_eq_true_of_le h2];rfl
theorem Nm.abc{w:List Nat}(h:Nm w):w.all abc=aC:=b9.mpr λc z=>tY (h.is c z).1 (h.is c z).2
theorem Nm.name(h:Nm w):Em w=aC:=by unfold Em;rw[bL ⟨h.one,h.most⟩,h.abc];rfl
theorem tX{tx:List Nat}(h1:62∉nm)(h2:62∉tx)(h3:61∉nm):Xz (nm++61::(tx++62::tl))=aC/\L4 (nm++61::(tx++62::tl))=nm++61::tx/\Fx (nm++61::(tx++62::tl))=tl/\Qh (nm++61::tx)=nm/\Qp (nm++61::tx)=tx:=by
 have e:nm++61::(tx++62::tl)=(nm++61::tx)++62::tl:=by simp
 have n:62∉nm++61::tx:=λz=>by
  rcases bo.mp z with z|z
  .exact h1 z
  rcases ba.mp z with z|z
  .exact bN z (by decide)
  .exact h2 z
 have c:=X3 (c:=62) tl n;have d:=X3 (c:=61) tx h3;unfold Xz L4 Fx Qh Qp;rw[e,c,d];exact⟨rfl,rfl,rfl,rfl,rfl⟩
structure Fd(w:List Nat):Prop where
 name:Em w=aC
 nk:(w==Ti||w==Tj)=aD
 is:∀c∈w,97<=c/\c<=122
 most:w.length<=8
theorem tW(h:Ii w):∃l,w=S l/\Fd l:=by
 obtain⟨l,rfl,nm,no⟩:=h;have is:∀c∈l,97<=c/\c<=122:=λc hc=>Ef c (b9.mp nm.2.2.1 c hc);have n:Nm l:=⟨nm.1,nm.2.1,is⟩
 refine⟨l,rfl,n.name,?_,is,nm.2.1⟩;have h1:l≠Ti:=nm.2.2.2;have h2:l≠Tj:=λz=>(no 105 (by rw[z];decide)).1 rfl;rw[beq_eq_false_iff_ne.mpr h1,beq_eq_false_iff_ne.mpr h2];rfl
theorem nm_nmw(h:Ii w):∃l,w=S l/\Nm l:=by obtain⟨l,rfl,nm,no⟩:=h;exact⟨l,rfl,nm.1,nm.2.1,λc hc=>Ef c (b9.mp nm.2.2.1 c hc)⟩
theorem zK(h:pls c=aC):c<128/\c≠60/\c≠62/\c≠10:=by unfold pls abc at h;simp only[Bool.or_eq_true,dn,Nat.ble_eq,List.contains_iff_mem,ba,List.not_mem_nil,or_false]at h;omega
theorem zJ(h:Tf c=aC):c<128/\c≠60/\c≠62/\c≠10:=by
 unfold Tf at h;rw[Bool.or_eq_true]at h;rcases h with h|h
 .exact zK h
 .simp only[List.contains_iff_mem,ba,List.not_mem_nil,or_false]at h;omega
structure Pl(y:List Nat):Prop where
 ok:Ij y=aC
 len:y.length<=80
 is:∀c∈y,c<128/\c≠60/\c≠62/\c≠10
theorem Pl.of(h1:1<=y.length)(h2:y.length<=80)(h:∀c∈y,pls c=aC):Pl y:=
 ⟨by unfold Ij;rw[bL ⟨h1,h2⟩,b9.mpr h];rfl,h2,λc hc=>zK (h c hc)⟩
structure Row(b:List Nat)(xs:List Str)(vs:List D)(n:Nat):Prop where
 r0:(sp b).1.all Tf=aC
 rs:∀r∈(sp b).2,Xz r=aC/\(Fx r).all Tf=aC/\mkB (Qh (L4 r)) (Qp (L4 r))=aC/\Z9 xs vs (S (Qh (L4 r)))=aA (.str (S (Qp (L4 r))))
 fold:L5 (mks b) ([],[])=(xs,vs)
 dic:Dic xs vs
 pl:∀v∈vs,∃y,v= .str (S y)/\Pl y
 few:vs.length<=n
 ln:10∉b
 asc:Bl b
theorem Row.nil:Row [] [] [] 0:=⟨rfl,(λ_ h=>nomatch h),rfl,⟨cx,rfl⟩,(λ_ h=>nomatch h),bg _,(λh=>nomatch h),(λ_ h=>nomatch h)⟩
theorem yd(s):∀rs p,(∀r∈rs,Xz r=aC)->(M6 p rs s).2.map L4=rs.map L4/\((M6 p rs s).1=p\/(M6 p rs s).1=p++s)
 | [],p,_=>⟨rfl,.inr rfl⟩
 |r::rs,p,h=>by
  obtain⟨e,z⟩:=yd s rs r λx hx=>h x (ad _ hx);have g:=h r aa;refine⟨?_,.inl rfl⟩;show L4 (M6 r rs s).1::(M6 r rs s).2.map L4=L4 r::rs.map L4;rw[e];rcases z with z|z
  .rw[z]
  .rw[z,(zL s g).2.1]
theorem Row.fill(h:Row b xs vs n)(ui:60∉s)(hs:s.all Tf=aC):Row (b++s) xs vs (n+1):=by
 have e:=yf s ui b;have hm:mks (b++s)=mks b:=by unfold mks;rw[e];exact(yd s (sp b).2 (sp b).1 λr hr=>(h.rs r hr).1).1
 have ss:∀c∈s,c<128/\c≠60/\c≠62/\c≠10:=λc hc=>zJ (b9.mp hs c hc);refine⟨?_,λr hr=>?_,by rw[hm];exact h.fold,h.dic,h.pl,by have:=h.few;omega,λz=>?_,λc z=>?_⟩
 .rw[e];rcases wp (sp b).1 (sp b).2 s with z|z
  .rw[z];exact h.r0
  .rw[z,List.all_append,h.r0,hs];rfl
 .rw[e]at hr;obtain⟨q,hq,z⟩:=Sr s (sp b).2 (sp b).1 r hr;obtain⟨a1,a2,a3,a4⟩:=h.rs q hq;rcases z with z|z
  .rw[z];exact⟨a1,a2,a3,a4⟩
  .obtain⟨b1,b2,b3⟩:=zL s a1;rw[z,b2,b3];exact⟨b1,by rw[List.all_append,a2,hs];rfl,a3,a4⟩
 .rcases bo.mp z with z|z
  .exact h.ln z
  .exact(ss _ z).2.2.2 rfl
 .rcases bo.mp z with z|z
  .exact h.asc c z
  .exact(ss c z).1
theorem Row.mark(h:Row b xs vs n)(hf:Fd f)(hy:Pl y)(hc:∀z,Z9 xs vs (S f)=aA (.str (S z))->z=y):Row (b++60::(f++61::(y++62::[]))) (Yw xs vs (S f) (.str (S y))).1 (Yw xs vs (S f) (.str (S y))).2 (n+1):=by
 have IE:∀c∈f,c<128/\c≠60/\c≠62/\c≠61/\c≠10:=λc z=>by have:=hf.is c z;omega
 obtain⟨a1,a2,a3,a4,a5⟩:=tX (nm:=f) (tx:=y) (tl:=[]) (λz=>(IE _ z).2.2.1 rfl) (λz=>(hy.is _ z).2.2.1 rfl) (λz=>(IE _ z).2.2.2.1 rfl);have all:∀c∈f++61::(y++62::[]),c<128/\c≠60/\c≠10:=λc z=>by
  rcases bo.mp z with z|z
  .have:=IE c z;omega
  rcases ba.mp z with z|z
  .omega
  rcases bo.mp z with z|z
  .have:=hy.is c z;omega
  .have:=af.mp z;omega
 have e:=ye (f++61::(y++62::[])) (λz=>(all _ z).2.1 rfl) b;generalize hr0:f++61::(y++62::[])=r0 at*;have hm:mks (b++60::r0)=mks b++[f++61::y]:=by unfold mks;rw[e];show((sp b).2++[r0]).map L4=_;rw[cm,List.map_singleton,a2]
 have mk:mkB f y=aC:=by unfold mkB;rw[hf.name,hf.nk,hy.ok];rfl
 have pl:=A7 (S f) (.str (S y)) xs vs h.dic.len;refine⟨by rw[e];exact h.r0,λr hr=>?_,?_,h.dic.put _ _,λv hv=>?_,by have:=h.few;omega,λz=>?_,λc z=>?_⟩
 .rw[e]at hr;rw[wd _ _ _ _ _ h.dic.len];rcases bo.mp hr with z|z
  .obtain⟨q1,q2,q3,q4⟩:=h.rs r z;refine⟨q1,q2,q3,?_⟩;by_cases hk:S f=S (Qh (L4 r))
   .rw[bJ hk];rw[<-hk]at q4;rw[hc _ q4]
   .rw[bI hk];exact q4
  .rw[af.mp z,a2,a3,a4,a5];exact⟨a1,rfl,mk,bJ rfl⟩
 .rw[hm];unfold L5;rw[List.foldl_append];have:=h.fold;unfold L5 at this;rw[this];show IT (xs,vs) (f++61::y)=_;unfold IT;rw[a4,a5]
 .rcases P6 (S f) _ xs vs v hv with z|z
  .exact⟨y,z,hy⟩
  .exact h.pl v z
 .rcases bo.mp z with z|z
  .exact h.ln z
  rcases ba.mp z with z|z
  .exact bN z (by decide)
  .exact(all _ z).2.2 rfl
 .rcases bo.mp z with z|z
  .exact h.asc c z
  rcases ba.mp z with z|z
  .rw[z];decide
  .exact(all c z).1
def Gd(xs:List Str)(vs:List D)(k:List Nat):List Nat:=match Z9 xs vs (S k)with
 |some (.str s)=>s.cps.toList
 |_=>[]
theorem Row.ok(h:Row b xs vs n):okA b=aC/\∀m∈mks b,mkB (Qh m) (Qp m)=aC/\Qp m=Gd xs vs (Qh m):=by
 refine⟨?_,λm hm=>?_⟩
 .unfold okA;rw[dn];refine⟨b9.mpr λr hr=>(h.rs r hr).1,b9.mpr λl hl=>?_⟩;rcases ba.mp hl with z|z
  .rw[z];exact h.r0
  .obtain⟨r,hr,rfl⟩:=bd.mp z;exact(h.rs r hr).2.1
 .obtain⟨r,hr,rfl⟩:=bd.mp hm;obtain⟨a1,a2,a3,a4⟩:=h.rs r hr;refine⟨a3,?_⟩;unfold Gd;rw[a4]
end R51
namespace R51
open L2
structure Rw where
 k:List Nat
 kd:List Nat
 b:List Nat
 xs:List Str
 vs:List D
noncomputable def Rw.t(r:Rw):List Nat:=r.k++32::(r.kd++32::r.b)
def Rw.e(r:Rw):D:=.tup [.str (S r.kd),.dK (Z3 r.xs) r.vs]
structure Rw.Ok(r:Rw):Prop where
 k:Nm r.k
 kd:Nm r.kd
 row:Row r.b r.xs r.vs 100
 len:r.b.length<=500
theorem Rw.Ok.tx{r:Rw}(h:r.Ok):Bl r.t/\r.t.length<=600/\10∉r.t/\r.t≠[]:=by
 have m1:=h.k.most;have m2:=h.kd.most;have l:=h.len;unfold Rw.t;refine⟨λc z=>?_,?_,λz=>?_,λz=>by have:=congrArg List.length z;simp at this⟩
 .rcases bo.mp z with z|z
  .exact h.k.asc c z
  rcases ba.mp z with z|z
  .rw[z];decide
  rcases bo.mp z with z|z
  .exact h.kd.asc c z
  rcases ba.mp z with z|z
  .rw[z];decide
  .exact h.row.asc c z
 .rw[ao,bc,ao,bc];omega
 .rcases bo.mp z with z|z
  .exact h.k.no 10 (by omega) z
  rcases ba.mp z with z|z
  .exact bN z (by decide)
  rcases bo.mp z with z|z
  .exact h.kd.no 10 (by omega) z
  rcases ba.mp z with z|z
  .exact bN z (by decide)
  .exact h.row.ln z
theorem pU(A B){r:Rw}(h:r.Ok)(n xs vs)(hk:S r.k∉xs)(hl:vs.length<=500)(x5 x6):
  ∃y5 y6,Gen.Jp [A,aA (.oK (Z3 xs) vs),B,aA (.fz (.int n)),aA (.fz (.str (S r.t))),x5,x6]=aA (.nx [A,aA (.oK (Z3 (xs++[S r.k])) (vs++[r.e])),B,aA (.fz (.int n)),aA (.fz (.str (S r.t))),y5,y6]):=by
 obtain⟨ta,tl,_,_⟩:=h.tx;have e:Jf r.t=[r.k,r.kd,r.b]:=tZ (h.k.no 32 (by omega)) (h.kd.no 32 (by omega));obtain⟨o1,o2⟩:=h.row.ok;have rr:=Xw _ ta (by omega) e h.k.name h.kd.name o1 o2 h.row.fold;have s2:=sT r.t;rw[e]at s2;have s2:Txt.splitMax (S r.t) (S [32]) 2=[S r.k,S r.kd,S r.b]:=s2;have h0:¬(S [32]).length=0:=by decide+kernel
 have z:r.t.length<=PySem.sizeLine:=Zn (by omega);have nm:Z9 (Z3 xs) vs (b7 (S r.k))=aB:=by rw[Og];exact jF hk
 have pi:=Q3 (S r.k) (.tup [.str (S r.kd),.dK (Z3 r.xs) r.vs]) xs vs;rw[Uh hk]at pi;have zl:vs.length<PySem.sizeLine:=Y2 (by omega);refine⟨aA (.fz (.lst [.str (S r.k),.str (S r.kd),.str (S r.b)])),aA (.fz (.dK (Z3 r.xs) r.vs)),?_⟩;unfold Rw.e;generalize S r.k=SK,S r.kd=SB,S r.b=SC,Z3 r.xs=YS,r.vs=us at*;generalize Z3 (xs++[SK])=XS',Z3 xs=XS,r.t=T at*;unfold Gen.Jp;simp[-Yw,-Z9,Z1,z,z2,z3,MF,h0,s2,rr,w3a,w3b,nm,pi,zl]
abbrev ksR(rs:List Rw):List Str:=rs.map λr=>S r.k
abbrev esR(rs:List Rw):List D:=rs.map Rw.e
abbrev O_(rs:List Rw):List D:=rs.map λr=>D.str (S r.t)
theorem yc(A B):∀rs n xs vs x3 x4 x5 x6,(∀r∈rs,r.Ok)->(xs++ksR rs).Nodup->xs.length=vs.length->vs.length+rs.length<=400->
  ∃y3 y4 y5 y6,Yr (Bv 2 (W0 (Zl 3) (W0 (Zl 4) (Ct)))) Gen.Jp (((O_ rs).zipIdx n).map (λp=>D.tup [.int (p.2:Nat),p.1])) [A,aA (.oK (Z3 xs) vs),B,x3,x4,x5,x6]=aA (.nx [A,aA (.oK (Z3 (xs++ksR rs)) (vs++esR rs)),B,y3,y4,y5,y6])
 | [],n,xs,vs,x3,x4,x5,x6,_,_,_,_=>⟨x3,x4,x5,x6,by simp[ksR,esR,O_]⟩
 |r::rs,n,xs,vs,x3,x4,x5,x6,hg,nd,hd,hc=>by
  have g:=hg r aa;have SM:(xs++S r.k::ksR rs).Nodup:=nd;have nk:S r.k∉xs:=λz=>(dm.mp SM).2.2 _ z _ aa rfl;rw[bc]at hc;obtain⟨y5,y6,e⟩:=pU A B g (n:Int) xs vs nk (by omega) x5 x6;have ea:xs++S r.k::ksR rs=xs++[S r.k]++ksR rs:=by simp
  have eb:vs++r.e::esR rs=vs++[r.e]++esR rs:=by simp
  obtain⟨z3,z4,z5,z6,ih⟩:=yc A B rs (n+1) (xs++[S r.k]) (vs++[r.e]) (aA (.fz (.int (n:Int)))) (aA (.fz (.str (S r.t)))) y5 y6 (λq hq=>hg q (ad _ hq)) (by rw[<-ea];exact SM) (by simp[hd]) (by rw[ao,b4];omega);refine⟨z3,z4,z5,z6,?_⟩;have run:(Bv 2 (W0 (Zl 3) (W0 (Zl 4) (Ct)))).run (.tup [.int (n:Int),.str (S r.t)]) [A,aA (.oK (Z3 xs) vs),B,x3,x4,x5,x6]=aA [A,aA (.oK (Z3 xs) vs),B,aA (.fz (.int (n:Int))),aA (.fz (.str (S r.t))),x5,x6]:=by simp
  show Yr _ _ (D.tup [.int (n:Nat),.str (S r.t)]::((O_ rs).zipIdx (n+1)).map λp=>D.tup [.int (p.2:Nat),p.1]) _=aA (.nx [A,aA (.oK (Z3 (xs++S r.k::ksR rs)) (vs++r.e::esR rs)),B,z3,z4,z5,z6]);rw[ea,eb];exact(Ys run e).trans ih
theorem iq:az "\n"=S [10]:=by decide+kernel
abbrev txR(rs:List Rw):List Nat:=jl [10] (rs.map Rw.t)
theorem iB(rs)(h0:rs≠[])(h:∀r∈rs,10∉r):Txt.split (S (jl [10] rs)) (S [10])=rs.map S:=
 Bc _ _ (by decide) (by decide+kernel) rs (by rw[Yh];exact Bd rs h0 h) (by rw[Yh,Yh])
theorem mW:Gen.Q5 [.str (az "")]=aA (.oK [] []):=by kernel_rfl
theorem read_ok(h:∀r∈rs,r.Ok)(nd:(ksR rs).Nodup)(hc:rs.length<=400)(ht:(txR rs).length<=1000000):Gen.Q5 [.str (S (txR rs))]=aA (.oK (Z3 (ksR rs)) (esR rs)):=by
 cases rs with
 |nil=>exact mW
 |cons r0 rs0=>
  have ne:(r0::rs0).map Rw.t≠[]:=by simp
  have no:∀r∈(r0::rs0).map Rw.t,10∉r:=λr hr=>by obtain⟨q,hq,rfl⟩:=bd.mp hr;exact(h q hq).tx.2.2.1
  have sp:Txt.split (S (txR (r0::rs0))) (S [10])=((r0::rs0).map Rw.t).map S:=iB _ ne no;have YZ:¬S (txR (r0::rs0))=S []:=OM λz=>by
   have:r0.t≠[]:=(h r0 aa).tx.2.2.2;unfold txR at z;rw[bn]at z;cases hq:rs0.map Rw.t with
   |nil=>rw[hq]at z;exact this z
   |cons a b=>rw[hq]at z;have z':r0.t++[10]++jl [10] (a::b)=[]:=z;simp at z'
  have he:az ""=S []:=rfl;have z:(txR (r0::rs0)).length<=PySem.sizeLine:=Zn (by omega);have h0:¬(S [10]).length=0:=by decide+kernel
  have zr:(((r0::rs0).map Rw.t).map S).length<=PySem.sizeLine:=Zn (by rw[ay,ay];omega);have mm:(((r0::rs0).map Rw.t).map S).map D.str=O_ (r0::rs0):=by rw[b6,b6];rfl
  obtain⟨y3,y4,y5,y6,e⟩:=yc (aA (.fz (.str (S (txR (r0::rs0)))))) (aA (.fz (.lst (O_ (r0::rs0))))) (r0::rs0) 1 [] [] aB aB aB aB h (by simpa using nd) rfl (by simpa using hc);have e0:(Z3 []:List L2.Key)=[]:=rfl;rw[e0,cz,cz]at e;rw[<-mm]at e;generalize ((r0::rs0).map Rw.t).map S=W at*;generalize txR (r0::rs0)=T at*;generalize Z3 (ksR (r0::rs0))=KS at*;generalize esR (r0::rs0)=ES at*;have e:Yr (Bv 2 (W0 (Zl 3) (W0 (Zl 4) (Ct)))) Gen.Jp (Tv (W.map D.str)) _=_:=e;unfold Gen.Q5 Gen.Md;simp[-Yr,-b6,Z1,z,he,YZ,iq,h0,sp,zr,e]
end R51
namespace R51
open L2
theorem mV:∀s∈PVL,(decide (1<=s.length)&&s.cps.toList.all pls)=aC:=by decide+kernel
theorem gp(h:s∈PVL):Pl s.cps.toList:=by have a:=mV s h;simp only[dn,decide_eq_true_eq]at a;have b:=Xo s h;have e:=Yk s;exact Pl.of (by omega) (by omega) (b9.mp a.2)
theorem mU(h:c<128):My.Tf c=Tf c:=(My.Ig c h).symm.trans (Ig c h)
noncomputable def ptl:Pt->List Nat
 | .sg l=>l
 | .mk p=>60::(p.1.cps.toList++61::(p.2.cps.toList++62::[]))
theorem il(a):a.s=S (ptl a):=by
 cases a with
 |sg l=>rfl
 |mk p=>show MK p=_;rw[wx];simp[ptl]
theorem pt_S:∀ps,Ff ps=S (ps.flatMap ptl)
 | []=>by show az ""=S [];decide+kernel
 |a::r=>by show a.s++Ff r=_;rw[pt_S r,il,Wm,d6]
def PtOk(es:PS):Pt->Prop
 | .sg l=>∀c∈l,c<128/\My.Tf c=aC
 | .mk p=>p∈es
def addP(acc:PS):List Pt->PS
 | []=>acc
 | .sg _::r=>addP acc r
 | .mk p::r=>addP (if p∈acc then acc else acc++[p]) r
theorem key_inj{es:PS}(h:(es.map (·.1)).Nodup)(hp:p∈es)(hq:q∈es)(e:p.1=q.1):p=q:=by
 induction es with
 |nil=>cases hp
 |cons a r ih=>
  rw[bn,cq]at h;rcases ba.mp hp with z|z<;> rcases ba.mp hq with y|y
  .rw[z,y]
  .subst z;exact bN (bd.mpr ⟨q,y,e.symm⟩) h.1
  .subst y;exact bN (bd.mpr ⟨p,z,e⟩) h.1
  .exact ih h.2 z y
theorem wm:∀acc,(∀q∈acc,q.1=p.1->q=p)->(((acc.map (·.1)).zip (Z0 acc)).map λq=>if q.1=p.1 then D.str p.2 else q.2)=Z0 acc
 | [],_=>rfl
 |a::r,h=>by
  have ih:=wm r λq hq=>h q (ad _ hq);have ha:=h a aa;have h0:(if a.1=p.1 then D.str p.2 else D.str a.2)=D.str a.2:=by
   by_cases e:a.1=p.1
   .rw[bJ e,ha e]
   .rw[bI e]
  show(if a.1=p.1 then D.str p.2 else D.str a.2)::(((r.map (·.1)).zip (Z0 r)).map λq=>if q.1=p.1 then D.str p.2 else q.2)=D.str a.2::Z0 r;rw[h0,ih]
theorem put_acc{es:PS}(nd:(es.map (·.1)).Nodup)(sub:∀q∈acc,q∈es)(hp:p∈es):
  Yw (acc.map (·.1)) (Z0 acc) p.1 (.str p.2)=((if p∈acc then acc else acc++[p]).map (·.1),Z0 (if p∈acc then acc else acc++[p])):=by
 by_cases h:p∈acc
 .rw[bJ h];unfold Yw;rw[bJ (bd.mpr ⟨p,h,rfl⟩)];rw[wm acc λq hq e=>key_inj nd (sub q hq) hp e]
 .rw[bI h];rw[Uh λz=>by
   obtain⟨q,hq,e⟩:=bd.mp z;exact h (key_inj nd (sub q hq) hp e▸hq)]
  unfold Z0;simp
theorem row_parts{es:PS}(H:Fld es)(hv:∀p∈es,p.2∈PVL):∀ps acc b n,(∀a∈ps,PtOk es a)->(∀p∈acc,p∈es)->
  Row b (acc.map (·.1)) (Z0 acc) n->Row (b++ps.flatMap ptl) ((addP acc ps).map (·.1)) (Z0 (addP acc ps)) (n+ps.length)
 | [],acc,b,n,_,_,h=>by rw[List.flatMap_nil,de];exact h
 | .sg l::r,acc,b,n,ho,hs,h=>by
  have o:∀c∈l,c<128/\My.Tf c=aC:=ho _ aa;have al:l.all Tf=aC:=b9.mpr λc hc=>by rw[<-mU (o c hc).1];exact(o c hc).2
  have f:=h.fill (s:=l) (λz=>(zJ (b9.mp al 60 z)).2.1 rfl) al;have:=row_parts H hv r acc (b++l) (n+1) (λa ha=>ho a (ad _ ha)) hs f;rw[d6,<-cg,bc,show n+(r.length+1)=n+1+r.length from by omega];exact this
 | .mk p::r,acc,b,n,ho,hs,h=>by
  have o:p∈es:=ho _ aa;obtain⟨l,el,fl⟩:=tW (H.nam p o);have e1:p.1.cps.toList=l:=by rw[el,Yh]
  have pa:=put_acc H.nd hs o;have f:=h.mark (f:=l) (y:=p.2.cps.toList) fl (gp (hv p o)) (λz hz=>by
   rw[<-el]at hz;obtain⟨t,et,hm⟩:=C9 _ _ _ hz;have:=key_inj H.nd (hs _ hm) o rfl;have e2:t=p.2:=congrArg Prod.snd this;have e3:=D.str.inj et;rw[<-e2,<-e3,Yh])
  rw[<-E7 p.2,<-el,pa]at f;have:=row_parts H hv r (if p∈acc then acc else acc++[p]) _ (n+1) (λa ha=>ho a (ad _ ha)) (λq hq=>by
   by_cases hm:p∈acc
   .rw[bJ hm]at hq;exact hs q hq
   .rw[bI hm]at hq;rcases bo.mp hq with z|z
    .exact hs q z
    .rw[af.mp z];exact o) f
  rw[d6,<-cg,bc,show n+(r.length+1)=n+1+r.length from by omega];show Row (b++(60::(p.1.cps.toList++61::(p.2.cps.toList++62::[])))++_) _ _ _;rw[e1];exact this
end R51
end My
namespace My
open L2
noncomputable def wt1:Tk->Nat
 | .sg l=>l.length
 | .br _=>31
 |_=>0
def wt(ts:List Tk):Nat:=(ts.map wt1).sum
theorem Mg(a b):wt (a++b)=wt a+wt b:=by unfold wt;rw[cm,List.sum_append]
theorem xJ(a b):wt (a::b)=wt1 a+wt b:=by unfold wt;rw[bn,List.sum_cons]
def Nx(es:PS)(ps:List Pt)(ts:List Tk):Prop:=(∀a∈ps,R51.PtOk es a)/\ps.length<=ts.length/\(Ff ps).length<=wt ts
theorem L8(es ts):Nx es [] ts:=⟨(λ_ h=>nomatch h),cr _,by show(az "").length<=_;rw[L1];omega⟩
theorem Nx.app(h:Nx es a s)(g:Nx es b t):Nx es (a++b) (s++t):=by
 refine⟨λx hx=>?_,?_,?_⟩
 .rcases bo.mp hx with z|z
  .exact h.1 x z
  .exact g.1 x z
 .rw[ao,ao];have:=h.2.1;have:=g.2.1;omega
 .rw[zf,Wd,Mg];have:=h.2.2;have:=g.2.2;omega
theorem xI{es:PS}(H:Fld es)(ns l):Nx es (((pick es ns).map λp=>[Pt.mk p]).getD []) [.br l]:=by
 cases hp:pick es ns with
 |none=>exact L8 es _
 |some p=>
  have hm:=Ei hp;refine⟨λa ha=>?_,bg _,?_⟩
  .rw[af.mp ha];exact hm
  .show(Ff [Pt.mk p]).length<=_;rw[Xu];exact zg (H.nam p hm) (H.tx p hm)
theorem L9:∀qs:List (D×List Tk),(∀q∈qs,Nx es ((Q8 es n q.1).getD []) q.2)->Nx es ((qs.map (·.1)).flatMap λd=>(Q8 es n d).getD []) (qs.flatMap (·.2))
 | [],_=>L8 es _
 |q::qs,h=>by rw[bn,d6,d6];exact(h q aa).app (L9 qs λx hx=>h x (ad _ hx))
theorem HQ{es:PS}(H:Fld es):∀n d ts,Cm n d ts->Nx es ((Q8 es n d).getD []) ts
 |0,_,_,h=>h.elim
 |n+1,d,ts,h=>by
  rcases h with⟨l,ok,rfl,rfl⟩|⟨ns,h0,h4,hn,rfl,rfl⟩|⟨nm,a,b,hn,h1,h2,h3,rfl,rfl⟩|⟨qs,h0,hc,hq,rfl,rfl⟩
  .unfold Fb;rw[Q8,Yh];refine⟨λa ha=>?_,bg _,?_⟩
   .rw[af.mp ha];exact ok.2.2
   .show(Ff [Pt.sg l]).length<=_;rw[Xu];show(S l).length<=_;rw[Z1];exact bg _
  .unfold Nv;rw[Q8,bI Fe,W9];exact xI H _ _
  .unfold Sd;rw[Q8];exact xI H _ _
  .unfold Ix;rw[Q8,bJ rfl];have a:=L9 qs λq hm=>HQ H n q.1 q.2 (hq q hm);split
   .exact L8 es _
   .refine⟨a.1,?_,?_⟩
    .rw[bc,ao];exact dw a.2.1 (by omega)
    .rw[xJ,Mg];exact dw a.2.2 (by omega)
theorem Tmp.told{es:PS}(H:Fld es)(h:Tmp qs):Nx es (Qt es qs) (Y7 qs):=L9 qs λq hm=>HQ H 4 q.1 q.2 (h.lev.pie q hm)
section
variable{keys F:List Str}{ws:List WK}(Sh:Shelf keys F ws){T:TB}(hT:TOk F T){qs:List Q}(ht:Tmp qs)(hq:∀s∈Bm qs,s∈F)(hw:wt (Y7 qs)<=500)
def Bp(keys:List Str)(ws:List WK)(T:TB)(qs:List Q)(k:Str):PS:=R51.addP [] (Qt (M5 keys ws T qs k) qs)
def rwK(keys:List Str)(ws:List WK)(T:TB)(qs:List Q)(k:Str):R51.Rw:=⟨k.cps.toList,(Ua keys ws k).cps.toList,(Qt (M5 keys ws T qs k) qs).flatMap R51.ptl,(Bp keys ws T qs k).map (·.1),Z0 (Bp keys ws T qs k)⟩
include Sh hT hq in
theorem zI{i:Nat}{k:Str}(hk:keys[i]? =aA k):∀p∈M5 keys ws T qs k,p.2∈PVL:=λp hp=>by
 obtain⟨a,b⟩:=Q7.mp hp;have hF:p.1∈F:=by
  rcases Mf [] _ _ a with z|z
  .cases z
  .exact hq _ z
 exact HS Sh hT hk hF b
theorem gm:∀s∈[KB,KP],(decide (1<=s.length/\s.length<=8)&&s.cps.toList.all abc)=aC:=by decide+kernel
include Sh hT ht hq hw in
theorem gk{i:Nat}{k:Str}(hk:keys[i]? =aA k):(rwK keys ws T qs k).Ok/\S (rwK keys ws T qs k).t=Bo keys ws T qs k:=by
 have H:=El Sh hT ht hq hk;have tl:=ht.told H;have tk:=ht.toks;have r:=R51.row_parts H (zI Sh hT hq hk) (Qt (M5 keys ws T qs k) qs) [] [] 0 tl.1 (λ_ h=>nomatch h) R51.Row.nil;obtain⟨l,el,nl⟩:=R51.nm_nmw (Sh.nm _ (cy hk));obtain⟨w,JE,W⟩:=Sh.at hk;have ek:Ua keys ws k=w.1:=by unfold Ua;rw[JE];rfl
 have kn:R51.Nm w.1.cps.toList:=by
  have:w.1∈[KB,KP]:=by rcases W.knd with e|e<;> rw[e]<;> simp
  have z:=gm _ this;simp only[dn,decide_eq_true_eq]at z;have e:=Yk w.1;exact⟨by omega,by omega,λc hc=>Ef c (b9.mp z.2 c hc)⟩
 refine⟨⟨?_,?_,?_,?_⟩,?_⟩
 .show R51.Nm k.cps.toList;rw[el,Yh];exact nl
 .show R51.Nm (Ua keys ws k).cps.toList;rw[ek];exact kn
 .have few:=r.few;have:=tl.2.1;exact⟨r.r0,r.rs,r.fold,r.dic,r.pl,dw few (by omega),r.ln,r.asc⟩
 .have:=tl.2.2;rw[R51.pt_S,Z1]at this;exact dw this hw
 .show S (k.cps.toList++32::((Ua keys ws k).cps.toList++32::(Qt (M5 keys ws T qs k) qs).flatMap R51.ptl))=_;unfold Bo;rw[R51.pt_S,show BLK=S [32]from by decide+kernel]
  conv=>rhs;rw[E7 k,E7 (Ua keys ws k)]
  simp only[Wm,Yh,cg,List.singleton_append,List.cons_append,cz]
include Sh hT ht hq hw in
theorem jR{ks:List Str}(hs:∀k∈ks,k∈keys)(nd:ks.Nodup)(hl:ks.length<=8):Gen.Q5 [.str (di NL (ks.map (Bo keys ws T qs)))]=aA (.oK (Z3 ks) (ks.map λk=>.tup [.str (Ua keys ws k),.dK (Yi (Bp keys ws T qs k)) (Z0 (Bp keys ws T qs k))])):=by
 have ok:∀k∈ks,(rwK keys ws T qs k).Ok/\S (rwK keys ws T qs k).t=Bo keys ws T qs k:=λk hk=>by obtain⟨i,hi⟩:=List.getElem?_of_mem (hs k hk);exact gk Sh hT ht hq hw hi
 have kr:R51.ksR (ks.map (rwK keys ws T qs))=ks:=by show(ks.map (rwK keys ws T qs)).map (λr=>S r.k)=ks;rw[b6];refine(dl λk _=>?_).trans (List.map_id ks);show S k.cps.toList=k;exact(E7 k).symm
 have tx:S (R51.txR (ks.map (rwK keys ws T qs)))=di NL (ks.map (Bo keys ws T qs)):=by show S (jl [10] ((ks.map (rwK keys ws T qs)).map R51.Rw.t))=_;rw[<-yx,show NL=S [10]from by decide+kernel,b6,b6];congr 1;exact dl λk hk=>(ok k hk).2
 have all:∀r∈ks.map (rwK keys ws T qs),r.Ok:=λr hr=>by obtain⟨k,hk,rfl⟩:=bd.mp hr;exact(ok k hk).1
 have rd:=R51.read_ok all (by rw[kr];exact nd) (by rw[ay];omega) (by
  have:=Lr (y:=[10]) (B:=600) ((ks.map (rwK keys ws T qs)).map R51.Rw.t) λp hp=>by obtain⟨r,hr,rfl⟩:=bd.mp hp;exact(all r hr).tx.2.1
  rw[ay,ay]at this;have e:[10].length=1:=rfl;refine dw this ?_;rw[e];omega)
 rw[tx,kr]at rd;rw[rd];show aA (SV.oK (Z3 ks) ((ks.map (rwK keys ws T qs)).map R51.Rw.e))=_;rw[b6];congr 2
end
theorem Aa{e1 e2:PS}:∀ns,(∀s∈ns,Gb e1 s=Gb e2 s)->pick e1 ns=pick e2 ns
 | [],_=>rfl
 |n::ns,h=>by unfold pick;rw[h n aa,Aa ns λs hs=>h s (ad _ hs)]
theorem wj{e1 e2:PS}:∀n d ts,Cm n d ts->(∀s∈Ur n d,Gb e1 s=Gb e2 s)->Q8 e1 n d=Q8 e2 n d
 |0,_,_,h,_=>h.elim
 |n+1,d,ts,h,hf=>by
  rcases h with⟨l,ok,rfl,rfl⟩|⟨ns,h0,h4,hn,rfl,rfl⟩|⟨nm,a,b,hn,h1,h2,h3,rfl,rfl⟩|⟨qs,h0,hc,hq,rfl,rfl⟩
  .unfold Fb;rw[Q8,Q8]
  .rw[Xq]at hf;unfold Nv;rw[Q8,Q8,bI Fe,bI Fe,W9];show(pick e1 (ns.map S)).map _=(pick e2 (ns.map S)).map _;rw[Aa _ hf]
  .rw[Xr]at hf;unfold Sd;rw[Q8,Q8,Aa _ hf]
  .rw[Xs]at hf;have ih:∀d∈qs.map (·.1),Q8 e1 n d=Q8 e2 n d:=λd hd=>by obtain⟨q,hm,rfl⟩:=bd.mp hd;exact wj n q.1 q.2 (hq q hm) λs hs=>hf s (List.mem_flatMap.mpr ⟨q.1,hd,hs⟩)
   unfold Ix;rw[Q8,Q8,bJ rfl,bJ rfl];have a:((qs.map (·.1)).any λd=>(Q8 e1 n d).isNone)=((qs.map (·.1)).any λd=>(Q8 e2 n d).isNone):=by
    rw[Bool.eq_iff_iff,List.any_eq_true,List.any_eq_true];constructor
    .rintro⟨x,hx,e⟩;exact⟨x,hx,by rw[<-ih x hx];exact e⟩
    .rintro⟨x,hx,e⟩;exact⟨x,hx,by rw[ih x hx];exact e⟩
   have b:((qs.map (·.1)).flatMap λd=>(Q8 e1 n d).getD [])=((qs.map (·.1)).flatMap λd=>(Q8 e2 n d).getD []):=by rw[List.flatMap_def,List.flatMap_def];congr 1;exact dl λd hd=>by rw[ih d hd]
   rw[a,b]
theorem Tmp.congr(h:Tmp qs){e1 e2:PS}(hf:∀s∈Bm qs,Gb e1 s=Gb e2 s):Qt e1 qs=Qt e2 qs:=by unfold Qt;rw[List.flatMap_def,List.flatMap_def];congr 1;refine dl λd hd=>?_;obtain⟨q,hm,rfl⟩:=bd.mp hd;rw[wj 4 q.1 q.2 (h.lev.pie q hm) λs hs=>hf s (List.mem_flatMap.mpr ⟨q.1,hd,hs⟩)]
theorem Na:∀gs,Gb (Yq h gs) s=if s∈gs then(h s).map λt=>(s,t)else aB
 | []=>rfl
 |g::gs=>by
  have ih:=Na (h:=h) (s:=s) gs;unfold Yq;cases e:h g with
  |none=>
   rw[dr (by rw[e];rfl)];show Gb (Yq h gs) s=_;rw[ih];by_cases hs:s=g
   .subst hs;rw[e,bJ aa];split<;> rfl
   .by_cases hm:s∈gs
    .rw[bJ hm,bJ (ad _ hm)]
    .rw[bI hm,bI λz=>by rcases ba.mp z with z|z;exact hs z;exact hm z]
  |some t=>
   rw[dk (b:=(g,t)) (by rw[e];rfl)];show Gb ((g,t)::Yq h gs) s=_;unfold Gb at ih⊢;rw[List.find?_cons];by_cases hs:g=s
   .subst hs;rw[e,bJ aa,bL rfl];rfl
   .rw[bK hs];show(Yq h gs).find? _=_;rw[ih];by_cases hm:s∈gs
    .rw[bJ hm,bJ (ad _ hm)]
    .rw[bI hm,bI λz=>by rcases ba.mp z with z|z;exact hs z.symm;exact hm z]
theorem pT(ht:Tmp qs)(hq:∀s∈Bm qs,s∈F)(k):Qt (M5 keys ws T qs k) qs=Qt (Yq (hS keys ws T k) F) qs:=
 ht.congr λs hs=>by unfold M5;rw[Na,Na,bJ (L0 [] _ _ hs),bJ (hq s hs)]
section
variable{es fs:PS}(nd:(es.map (·.1)).Nodup)(sub:∀p∈fs,p∈es)
theorem Nb(h:Gb es n=aB):∀p∈es,p.1≠n:=λp hp e=>by unfold Gb at h;have:=List.find?_eq_none.mp h p hp;simp[e]at this
include sub in
theorem wg{n:Str}(h:Gb es n=aB):Gb fs n=aB:=by
 cases e:Gb fs n with
 |none=>rfl
 |some p=>exact bN (Jd e).2 (Nb h p (sub p (Jd e).1))
include nd sub in
theorem mT{n:Str}{p:Str×Str}(h:Gb es n=aA p)(hp:p∈fs):Gb fs n=aA p:=by
 cases e:Gb fs n with
 |none=>exact bN (Jd h).2 (Nb e p hp)
 |some q=>have a:=Jd e;have b:=Jd h;rw[R51.key_inj nd (sub q a.1) b.1 (a.2.trans b.2.symm)]
include sub in
theorem Mx:∀ns:List Str,pick es ns=aB->pick fs ns=aB
 | [],_=>rfl
 |n::ns,h=>by
  unfold pick at h⊢;cases e:Gb es n with
  |some p=>rw[e]at h;cases h
  |none=>rw[e]at h;rw[wg sub e];exact Mx ns h
include nd sub in
theorem Ss:∀(ns:List Str) (p:Str×Str),pick es ns=aA p->p∈fs->pick fs ns=aA p
 | [],_,h,_=>by cases h
 |n::ns,p,h,hp=>by
  unfold pick at h⊢;cases e:Gb es n with
  |some q=>rw[e]at h;cases h;rw[mT nd sub e hp]
  |none=>rw[e]at h;rw[wg sub e];exact Ss ns p h hp
include nd sub in
theorem Su(ns:List Str)(h:∀p,pick es ns=aA p->p∈fs):pick fs ns=pick es ns:=by
 cases e:pick es ns with
 |none=>exact Mx sub ns e
 |some p=>exact Ss nd sub ns p e (h p e)
include sub in
theorem pS:∀(n:Nat) (d:D) (ts:List Tk),Cm n d ts->Q8 es n d=aB->Q8 fs n d=aB
 |0,_,_,h,_=>h.elim
 |n+1,d,ts,h,hn=>by
  rcases h with⟨l,ok,rfl,rfl⟩|⟨ns,h0,h4,hm,rfl,rfl⟩|⟨nm,a,b,hm,h1,h2,h3,rfl,rfl⟩|⟨qs,h0,hc,hq,rfl,rfl⟩
  .unfold Fb at hn;rw[Q8]at hn;cases hn
  .unfold Nv at hn⊢;rw[Q8,bI Fe,W9]at hn⊢;rw[Mx sub _ (Option.map_eq_none_iff.mp hn)];rfl
  .unfold Sd at hn⊢;rw[Q8]at hn⊢;rw[Mx sub _ (Option.map_eq_none_iff.mp hn)];rfl
  .unfold Ix at hn;rw[Q8,bJ rfl]at hn;split at hn<;> cases hn
include nd sub in
theorem xH:∀(n:Nat) (d:D) (ts:List Tk),Cm n d ts->(∀p,Pt.mk p∈(Q8 es n d).getD []->p∈fs)->Q8 fs n d=Q8 es n d
 |0,_,_,h,_=>h.elim
 |n+1,d,ts,h,hk=>by
  rcases h with⟨l,ok,rfl,rfl⟩|⟨ns,h0,h4,hm,rfl,rfl⟩|⟨nm,a,b,hm,h1,h2,h3,rfl,rfl⟩|⟨qs,h0,hc,hq,rfl,rfl⟩
  .unfold Fb;rw[Q8,Q8]
  .unfold Nv at hk⊢;rw[Q8,bI Fe,W9]at hk⊢;rw[Q8,bI Fe,W9];rw[Su nd sub _ λp hp=>hk p (by rw[hp];exact aa)]
  .unfold Sd at hk⊢;rw[Q8]at hk⊢;rw[Q8,Su nd sub _ λp hp=>hk p (by rw[hp];exact aa)]
  .unfold Ix at hk⊢;rw[Q8,bJ rfl]at hk⊢;rw[Q8,bJ rfl];by_cases c:((qs.map (·.1)).any λd=>(Q8 es n d).isNone)=aC
   .have c2:((qs.map (·.1)).any λd=>(Q8 fs n d).isNone)=aC:=by obtain⟨x,hx,e⟩:=List.any_eq_true.mp c;obtain⟨q,hm,rfl⟩:=bd.mp hx;exact List.any_eq_true.mpr ⟨q.1,hx,by rw[pS sub n q.1 q.2 (hq q hm) (Option.isNone_iff_eq_none.mp e)];rfl⟩
    rw[bJ c,bJ c2]
   .rw[bI c]at hk;have ih:∀d∈qs.map (·.1),Q8 fs n d=Q8 es n d:=λd hd=>by obtain⟨q,hm,rfl⟩:=bd.mp hd;exact xH n q.1 q.2 (hq q hm) λp hp=>hk p (List.mem_flatMap.mpr ⟨q.1,hd,hp⟩)
    have c2:¬((qs.map (·.1)).any λd=>(Q8 fs n d).isNone)=aC:=λz=>by obtain⟨x,hx,e⟩:=List.any_eq_true.mp z;rw[ih x hx]at e;exact c (List.any_eq_true.mpr ⟨x,hx,e⟩)
    rw[bI c,bI c2,List.flatMap_def,List.flatMap_def];congr 2;exact dl λd hd=>by rw[ih d hd]
include nd sub in
theorem jQ{qs:List Q}(ht:Tmp qs)(hk:∀p,Pt.mk p∈Qt es qs->p∈fs):Qt fs qs=Qt es qs:=by unfold Qt at hk⊢;rw[List.flatMap_def,List.flatMap_def];congr 1;refine dl λd hd=>?_;obtain⟨q,hm,rfl⟩:=bd.mp hd;rw[xH nd sub 4 q.1 q.2 (ht.lev.pie q hm) λp hp=>hk p (List.mem_flatMap.mpr ⟨q.1,hd,hp⟩)]
end
open PySem.StrLaws in
theorem tT{l:List Nat}(h:(bv (S l) (S [91]) 0 (S l).length 1).isEmpty=aC):91∉l:=λhm=>by
 obtain⟨i,hi⟩:=List.getElem?_of_mem hm;have OH:At (S l) (S [91]) (S l).length i:=by rw[Mr,Yh,Yh];unfold Ui;obtain⟨h1,h2⟩:=bf.mp hi;refine⟨h1,?_⟩;rw[dy h1,h2];rfl
 have hL:=Z1 l;have hl:=(bf.mp hi).1;rw[StrLaws.occ_eq]at h;rcases occ_first (S l) (S [91]) (S l).length 1 (bg _) (List.range' 0 ((S l).length+1- 0)) 0 (λi hi=>cr _)with⟨_,h2⟩|⟨p1,a,p2,h1,h2,h3,h4⟩
 .exact h2 i (List.mem_range'_1.mpr ⟨by omega,by omega⟩) OH
 .generalize (forIn (List.range' 0 ((S l).length+1- 0)) ((#[]:Array Nat),0) (occBody (S l) (S [91]) (S l).length 1)).run.fst=arr at*;have TW:arr.toList[0]? =aA a:=by rw[Array.getElem?_toList];exact h2
  rw[List.isEmpty_iff.mp h]at TW;cases TW
def gb(ts:List Tk)(c:Nat):Nat:=if 91∈Yl ts then c else 0
theorem HP(ts c):gb ts c<=c:=by unfold gb;split<;> omega
theorem zH(a b c):gb a c<=gb (a++b) c:=by
 unfold gb;by_cases h:91∈Yl a
 .rw[bJ h,bJ (by rw[Uq];exact ci _ h)];omega
 .rw[bI h];omega
structure TI(F:List Str)(n k c:Nat)(qs:List Q):Prop where
 lev:Lev n qs
 own:∀q∈qs,RO (· ∈F) q.1
 few:nc (Y7 qs)<=k+gb (Y7 qs) c
 wt:wt (Y7 qs)<=31*(k+gb (Y7 qs) c)
 ne:0<k->qs≠[]
 last:C7 aD (Y7 qs)=aC->∃ps l,qs=ps++[(Fb l,[.sg l])]/\C7 aD (Y7 ps)=aD/\l.length<=5*k
theorem TI.start(F n c):TI F n 0 c []:=⟨⟨(λ_ h=>nomatch h),trivial⟩,(λ_ h=>nomatch h),cr _,cr _,(λh=>bN h (by decide)),(λh=>nomatch h)⟩
theorem TI.len(h:TI F n k c qs):(Yl (Y7 qs)).length<=204*(k+c):=by obtain⟨c1,c2⟩:=G5 qs λq hq=>Mw _ q.1 q.2 (h.lev.pie q hq);have f:=Xn (Y7 qs) h.lev.gd.ok;have e:=FY (Y7 qs);have:=h.few;have:=HP (Y7 qs) c;omega
theorem TI.pc(h:TI F (n+1) k c qs)(hp:Cm 1 d [.br l])(ok:(Tk.br l).ok)(ho:RO (· ∈F) d):TI F (n+1) (k+1) c (qs++[(d,[.br l])]):=by
 have e:Y7 (qs++[(d,[.br l])])=Y7 qs++[.br l]:=by rw[O1,O2]
 have g:=zH (Y7 qs) [.br l] c;refine⟨h.lev.add (hp.le (by omega)) ⟨ok,(λz=>nomatch z.2),trivial⟩,λq hq=>?_,?_,?_,λ_=>by simp,λz=>?_⟩
 .rcases bo.mp hq with z|z
  .exact h.own q z
  .rw[af.mp z];exact ho
 .have:=h.few;rw[e,Cn];have:nc [.br l]=1:=rfl;omega
 .have:=h.wt;rw[e,Mg];have:My.wt [.br l]=31:=rfl;omega
 .rw[e,Mv]at z;cases z
theorem TI.gr(h:TI F (n+1) k c qs)(hb:91∉Yl (Y7 qs))(hi:TI F n k' c' ps)(h0:0<k')(hc:k'+c'<=c)(h9:c<=100):TI F (n+1) (k+1) c (qs++[grQ ps]):=by
 have ne:=hi.ne h0;have g':=HP (Y7 ps) c';have hf:=hi.few;have hw:=hi.wt;have hl:ps.length<=100:=by have:=(G5 ps λq hq=>Mw _ q.1 q.2 (hi.lev.pie q hq)).1;omega
 have pg:Cm (n+1) (Ix (Es ps)) (.op::(Y7 ps++[.cl])):=.inr (.inr (.inr ⟨ps,ne,hl,hi.lev.pie,rfl,rfl⟩));have gg:Gd aC (.op::(Y7 ps++[.cl])):=⟨trivial,(λz=>nomatch z.2),BU hi.lev.gd⟩
 have e:Y7 (qs++[grQ ps])=Y7 qs++ .op::(Y7 ps++[.cl]):=by rw[O1,O2];rfl
 have CH:gb (Y7 (qs++[grQ ps])) c=c:=by unfold gb;rw[e,bJ];rw[Uq,Mu];exact bp _ (ci _ aa)
 have e0:gb (Y7 qs) c=0:=by unfold gb;rw[bI hb]
 refine⟨h.lev.add pg (gg.any _),λq hq=>?_,?_,?_,λ_=>by simp,λz=>?_⟩
 .rcases bo.mp hq with z|z
  .exact h.own q z
  .rw[af.mp z];exact t_ λd hd=>by obtain⟨q,hq,rfl⟩:=bd.mp hd;exact hi.own q hq
 .have:=h.few;rw[CH];rw[e0]at this;rw[e,Cn,FZ];omega
 .have:=h.wt;rw[CH];rw[e0]at this;rw[e,Mg,xJ,Mg];have e1:wt1 .op=0:=rfl;have e2:My.wt [.cl]=0:=rfl;omega
 .rw[e,Mv]at z;have:C7 (C7 aD (Y7 qs)) (.op::(Y7 ps++[.cl]))=C7 aD (Y7 ps++[.cl]):=rfl;rw[this,Mv]at z;cases z
def sgs(m:List Nat):Bool:=Nat.ble 1 m.length&&Nat.ble m.length 5&&m.all λc=>Nat.ble c 127&&Tf c
theorem xF:∀{p:Bool} {a b:List Tk},Gd p (a++b)->Gd p a
 |_,[],_,_=>trivial
 |_,t::a,b,h=>⟨h.1,h.2.1,xF h.2.2⟩
theorem TI.sg(h:TI F (n+1) k c qs)(hk:k<=10)(hm:sgs m=aC):∃UI,TI F (n+1) (k+1) c UI/\Yl (Y7 UI)=Yl (Y7 qs)++m:=by
 unfold sgs at hm;rw[dn,dn]at hm;obtain⟨⟨m1,m5⟩,ms⟩:=hm;have m1:=Nat.le_of_ble_eq_true m1;have m5:=Nat.le_of_ble_eq_true m5;have ms:∀c∈m,c<128/\Tf c=aC:=λc hc=>by have:=b9.mp ms c hc;rw[dn]at this;exact⟨by have:=Nat.le_of_ble_eq_true this.1;omega,this.2⟩
 have one:∀l:List Nat,(Tk.sg l).ok->Cm (n+1) (Fb l) [.sg l]:=λl ok=>.inl ⟨l,ok,rfl,rfl⟩;by_cases hs:C7 aD (Y7 qs)=aC
 .obtain⟨ps,l,rfl,e0,hl⟩:=h.last hs;have pl:=h.lev.pie (Fb l,[.sg l]) (by simp);have e:Y7 (ps++[(Fb l,[.sg l])])=Y7 ps++[.sg l]:=by rw[O1,O2]
  have e':Y7 (ps++[(Fb (l++m),[.sg (l++m)])])=Y7 ps++[.sg (l++m)]:=by rw[O1,O2]
  have DA:(Tk.sg l).ok:=h.lev.gd.ok _ (by rw[e];simp);have ok:(Tk.sg (l++m)).ok:=⟨by intro z;exact DA.1 (List.append_eq_nil_iff.mp z).1,by rw[ao];omega,λc hc=>by
   rcases bo.mp hc with z|z
   .exact DA.2.2 c z
   .exact ms c z⟩
  have fe:Yl (Y7 ps++[.sg (l++m)])=Yl (Y7 ps++[.sg l])++m:=by rw[Uq,Uq];show Yl (Y7 ps)++((l++m)++[])=Yl (Y7 ps)++(l++[])++m;simp
  have ge:gb (Y7 ps++[.sg l]) c<=gb (Y7 ps++[.sg (l++m)]) c:=by
   unfold gb;rw[fe];by_cases hh:91∈Yl (Y7 ps++[.sg l])
   .rw[bJ hh,bJ (ci _ hh)];omega
   .rw[bI hh];omega
  have lp:Lev (n+1) ps:=⟨λq hq=>h.lev.pie q (ci _ hq),by
   have:=h.lev.gd;rw[e]at this;exact xF this⟩
  refine⟨ps++[(Fb (l++m),[.sg (l++m)])],⟨lp.add (one _ ok) ⟨ok,(λz=>by rw[e0]at z;exact nomatch z.1),trivial⟩,λq hq=>?_,?_,?_,λ_=>by simp,λ_=>⟨ps,l++m,rfl,e0,by rw[ao];omega⟩⟩,?_⟩
  .rcases bo.mp hq with z|z
   .exact h.own q (ci _ z)
   .rw[af.mp z];exact zj _
  .have:=h.few;rw[e,Cn]at this;rw[e',Cn];have e1:nc [.sg l]=1:=rfl;have e2:nc [.sg (l++m)]=1:=rfl;omega
  .have:=h.wt;rw[e,Mg]at this;rw[e',Mg];have e1:My.wt [.sg l]=l.length:=rfl;have e2:My.wt [.sg (l++m)]=(l++m).length:=rfl;rw[ao]at e2;omega
  .rw[e',e,fe]
 .have hs:C7 aD (Y7 qs)=aD:=by simpa using hs
  have ok:(Tk.sg m).ok:=⟨by intro z;rw[z]at m1;exact bN m1 (by decide),by omega,ms⟩
  have e:Y7 (qs++[(Fb m,[.sg m])])=Y7 qs++[.sg m]:=by rw[O1,O2]
  have g:=zH (Y7 qs) [.sg m] c;refine⟨qs++[(Fb m,[.sg m])],⟨h.lev.add (one _ ok) ⟨ok,(λz=>by rw[hs]at z;exact nomatch z.1),trivial⟩,λq hq=>?_,?_,?_,λ_=>by simp,λ_=>⟨qs,m,rfl,hs,by omega⟩⟩,?_⟩
  .rcases bo.mp hq with z|z
   .exact h.own q z
   .rw[af.mp z];exact zj _
  .have:=h.few;rw[e,Cn];have:nc [.sg m]=1:=rfl;omega
  .have:=h.wt;rw[e,Mg];have:My.wt [.sg m]=m.length:=rfl;omega
  .rw[e,Uq];show _++(m++[])=_;rw[de]
noncomputable abbrev xSt(ms:List Int)(F:List Str)(d:Nat)(t:Str)(x5 x6 x7 x8:Option SV):Wa:=[aA (.fz (.lst (ms.map D.int))),aA (.fz (.lst (F.map D.str))),aA (.fz (.int (d:Int))),aA (.fz (.str t)),aA (.fz (.int (13*(d:Int)))),x5,x6,x7,x8]
noncomputable abbrev SGL:List (List Nat):=[[44,32],[58,32],[32,40,120,41,32]]
theorem gj:∀m∈SGL,sgs m=aC:=by decide
theorem gi:[az ", ",az ": ",az " (x) "]=SGL.map S:=by decide+kernel
theorem wv:az "["=S [91]:=by decide+kernel
theorem ik:az "]"=S [93]:=by decide+kernel
theorem gZ:∀m∈SGL,m.length<=5:=by decide
theorem wu:az "{"=S [123]:=by decide+kernel
theorem ij:az "}"=S [125]:=by decide+kernel
theorem ii:az "|"=S [124]:=by decide+kernel
theorem gY:az " 1 0}"=S [32,49,32,48,125]:=by decide+kernel
theorem gX(h4:ns.length<=4)(hn:∀m∈ns,Ng m):(Tk.br (jl [124] ns)).ok:=⟨λh=>by
 rcases Xl ns h with z|⟨p,hp,z⟩
 .exact bN z (by decide)
 .exact(hn p hp).no 125 (by omega) z,by
 have:=Lr (y:=[124]) (B:=8) ns λp hp=>(hn p hp).2.1;have e:[124].length=1:=rfl;rw[e]at this;omega⟩
theorem gW(hn:Ng n):(Tk.br (hdL n 1 0)).ok:=⟨g5 hn (by decide) (by decide) 125 (by decide),dw (zb hn) (by decide)⟩
section
variable{F:List Str}(hF:F.length=4)(hN:∀f∈F,Ii f){ms:List Int}(hm:ms.length=39){d:Nat}{n k c k' c':Nat}{qs:List Q}{r:List D->Option SV}
include hF hN hm in
theorem kZ(hk:k<=5)(hd:13*d+2+2*k<39)(h:TI F (n+1) k c qs)(hc:c<=50)
  (hr:d<2->∃ps,TI F n k' c' ps/\0<k'/\k'+c'<=c/\r [.lst (ms.map D.int),.lst (F.map D.str),.int ((d:Int)+1)]=aA (.fz (.str (S (Yl (Y7 ps)))))) (x6 x7 x8:Option SV):
  ∃UI y6 y7 y8,TI F (n+1) (k+1) c UI/\Gen.Qn r (xSt ms F d (S (Yl (Y7 qs))) (aA (.fz (.int (k:Int)))) x6 x7 x8)=aA (.nx (xSt ms F d (S (Yl (Y7 UI))) (aA (.fz (.int (k:Int)))) y6 y7 y8)):=by
 have a1:=U3 (ms:=ms) (j:=13*d+1+2*k) (by omega);have a2:=U3 (ms:=ms) (j:=13*d+2+2*k) (by omega);rw[show((13*d+1+2*k:Nat):Int)=13*(d:Int)+1+2*(k:Int) by omega]at a1;rw[show((13*d+2+2*k:Nat):Int)=13*(d:Int)+2+2*(k:Int) by omega]at a2;generalize ms[13*d+1+2*k]'(by omega)=u at a1;generalize ms[13*d+2+2*k]'(by omega)=v at a2;have mk:=V7 (i:=2) (j:=(k:Int)) (by omega);have z2:2<=PySem.sizeLine:=Zn (by decide);have z3:3<=PySem.sizeLine:=Zn (by decide);have tl:=h.len;obtain⟨s1,h1,e1⟩:=G6 (fs:=F) (m:=4) (by rw[hF];rfl) (by decide) v;obtain⟨s2,h2,e2⟩:=G6 (fs:=F) (m:=4) (by rw[hF];rfl) (by decide) (v / 4);obtain⟨n1,rfl,N1,_⟩:=hN s1 h1;obtain⟨n2,rfl,N2,_⟩:=hN s2 h2;have l1:=N1.2.1;have l2:=N2.2.1;by_cases c0:u % 6=0
 .obtain⟨s,hs,es⟩:=G6 (fs:=SGL.map S) (m:=3) rfl (by decide) v;rw[<-gi]at es;have es:L2.atI [D.str (az ", "),D.str (az ": "),D.str (az " (x) ")] (v % 3)=_:=es;obtain⟨m,DX,rfl⟩:=bd.mp hs;obtain⟨UI,T',e'⟩:=h.sg (by omega) (gj m DX);have l5:=gZ m DX;have za:(S (Yl (Y7 qs))).length+(S m).length<=PySem.sizeLine:=Zn (by rw[Z1,Z1];omega);have sa:=Wm (Yl (Y7 qs)) m;refine⟨UI,aA (.fz (.int u)),aA (.fz (.int v)),x8,T',?_⟩;rw[e',<-sa];unfold xSt;generalize S (Yl (Y7 qs))=T,S m=M,ms.map D.int=MS,F.map D.str=FS,13*(d:Int)=D13,(k:Int)=KK at*;unfold Gen.Qn;clear hr e1 e2 h1 h2 N1 N2 sa e' T' tl h hs;exact evX
 .by_cases c1:u % 6<3/\d<2/\(bv (S (Yl (Y7 qs))) (S [91]) 0 (S (Yl (Y7 qs))).length 1).isEmpty=aC
  .obtain⟨c1,c2,c3⟩:=c1;obtain⟨ps,P,h0,hcc,er⟩:=hr c2;have pl:=P.len;have u0:(d:Int)<2:=by omega
   have z1:(S (Yl (Y7 qs))).length+(S [91]).length<=PySem.sizeLine:=Zn (by rw[Z1,Z1];simp;omega);have z4:(S (Yl (Y7 qs))++S [91]).length+(S (Yl (Y7 ps))).length<=PySem.sizeLine:=Zn (by rw[Wm,Z1,Z1];simp;omega);have z5:(S (Yl (Y7 qs))++S [91]++S (Yl (Y7 ps))).length+(S [93]).length<=PySem.sizeLine:=Zn (by rw[Wm,Wm,Z1,Z1];simp;omega);have sa:S (Yl (Y7 (qs++[grQ ps])))=S (Yl (Y7 qs))++S [91]++S (Yl (Y7 ps))++S [93]:=by rw[Wm,Wm,Wm,O1,O2,Uq];congr 1;show Yl (Y7 qs)++Yl (.op::(Y7 ps++[.cl]))=_;rw[Mu,Uq];show Yl (Y7 qs)++([91]++(Yl (Y7 ps)++[93]))=_;simp
   refine⟨_,aA (.fz (.int u)),aA (.fz (.int v)),x8,h.gr (tT c3) P h0 hcc (by omega),?_⟩;rw[sa];unfold xSt;generalize S (Yl (Y7 qs))=T,S (Yl (Y7 ps))=M,ms.map D.int=MS,F.map D.str=FS,13*(d:Int)=D13,(k:Int)=KK at*;generalize (d:Int)=DD at*;unfold Gen.Qn;simp[a1,a2,mk,c0,c1,u0,wv,ik,c3,er,z1,z4,z5]
  .have key:∃b:Bool,(Ko (Zq (Zg ltD (Zg Q1 (Za 6) (Zc (.int 6))) (Zc (.int 3)))) (Ko (Zq (Zg ltD (Za 2) (Zc (.int 2)))) (Zq (Zg Rv (Zc (.str "[")) (Za 3))))) (xSt ms F d (S (Yl (Y7 qs))) (aA (.fz (.int (k:Int)))) (aA (.fz (.int u))) (aA (.fz (.int v))) x8)=aA (aD,xSt ms F d (S (Yl (Y7 qs))) (aA (.fz (.int (k:Int)))) (aA (.fz (.int u))) (aA (.fz (.int v))) x8):=⟨aC,by
    unfold xSt;generalize S (Yl (Y7 qs))=T,ms.map D.int=MS,F.map D.str=FS at*;by_cases c2:u % 6<3
    .by_cases c3:d<2
     .have c4:(bv T (S [91]) 0 T.length 1).isEmpty=aD:=Bool.eq_false_iff.mpr λz=>c1 ⟨c2,c3,z⟩;have IJ:(d:Int)<2:=by omega
      simp[c2,c3,IJ,wv,c4]
     .have IJ:¬(d:Int)<2:=by omega
      simp[c2,c3,IJ]
    .simp[c2]⟩
   obtain⟨_,key⟩:=key;have z1:(S (Yl (Y7 qs))).length+(S [123]).length<=PySem.sizeLine:=Zn (by rw[Z1,Z1];simp;omega);by_cases c3:u % 6=3
   .have z4:(S (Yl (Y7 qs))++S [123]).length+(S n1).length<=PySem.sizeLine:=Zn (by rw[Wm,Z1,Z1];simp;omega);have z5:(S (Yl (Y7 qs))++S [123]++S n1).length+(S [32,49,32,48,125]).length<=PySem.sizeLine:=Zn (by rw[Wm,Wm,Z1,Z1];simp;omega);have sa:S (Yl (Y7 (qs++[(Sd n1 1 0,[.br (hdL n1 1 0)])])))=S (Yl (Y7 qs))++S [123]++S n1++S [32,49,32,48,125]:=by rw[Wm,Wm,Wm,O1,O2,Uq];congr 1;show Yl (Y7 qs)++(123::((n1++[32]++([49]++[32]++[48]))++[125])++[])=_;simp
    refine⟨_,aA (.fz (.int u)),aA (.fz (.int v)),x8,h.pc (.inr (.inr (.inl ⟨n1,1,0,N1,by decide,by decide,by decide,rfl,rfl⟩))) (gW N1) (sA h1 1 0),?_⟩;rw[sa];unfold xSt at key⊢;generalize S (Yl (Y7 qs))=T,ms.map D.int=MS,F.map D.str=FS,13*(d:Int)=D13,(k:Int)=KK at*;generalize (d:Int)=DD at*;unfold Gen.Qn;generalize Ko _ _=TT at*;simp[a1,a2,mk,c0,key,c3,wu,gY,e1,z1,z4,z5]
   .have nn:∀m∈[n1,n2],Ng m:=by
     intro m hm;rcases ba.mp hm with z|z
     .rw[z];exact N1
     .rw[af.mp z];exact N2
    have jo:=mv (ns:=[n1,n2]) (by simp) nn;have tj:=BW (S [124]) ([n1,n2].map S);rw[yx]at tj;have jo:JoinOk (S [124]) [S n1,S n2]=aC:=jo;have tj:Txt.join (S [124]) [S n1,S n2]=S (jl [124] [n1,n2]):=tj;have jl':=Lr (y:=[124]) (B:=8) [n1,n2] λp hp=>(nn p hp).2.1;have TZ:[n1,n2].length*(8+[124].length)=18:=rfl;rw[TZ]at jl';have z4:(S (Yl (Y7 qs))++S [123]).length+(S (jl [124] [n1,n2])).length<=PySem.sizeLine:=Zn (by rw[Wm,Z1,Z1];simp;omega);have z5:(S (Yl (Y7 qs))++S [123]++S (jl [124] [n1,n2])).length+(S [125]).length<=PySem.sizeLine:=Zn (by rw[Wm,Wm,Z1,Z1];simp;omega);have sa:S (Yl (Y7 (qs++[(Nv ([n1,n2].map S),[.br (jl [124] [n1,n2])])])))=S (Yl (Y7 qs))++S [123]++S (jl [124] [n1,n2])++S [125]:=by rw[Wm,Wm,Wm,O1,O2,Uq];congr 1;show Yl (Y7 qs)++(123::(jl [124] [n1,n2]++[125])++[])=_;simp
    refine⟨_,aA (.fz (.int u)),aA (.fz (.int v)),aA (.ol [D.str (S n1),D.str (S n2)]),h.pc (.inr (.inl ⟨[n1,n2],by simp,by simp,nn,rfl,rfl⟩)) (gX (by simp) nn) (sB λs hs=>by
     rcases ba.mp hs with z|z
     .rw[z];exact h1
     .rw[af.mp z];exact h2),?_⟩
    rw[sa];unfold xSt at key⊢;generalize S (Yl (Y7 qs))=T,S (jl [124] [n1,n2])=J,ms.map D.int=MS,F.map D.str=FS,13*(d:Int)=D13,(k:Int)=KK at*;generalize (d:Int)=DD at*;unfold Gen.Qn;generalize Ko _ _=TT at*;simp[a1,a2,mk,c0,key,c3,wu,ij,ii,e1,e2,z1,z2,z4,z5,jo,tj]
include hF hN hm in
theorem Sw(hc:c<=50)(hr:d<2->∃ps,TI F n k' c' ps/\0<k'/\k'+c'<=c/\r [.lst (ms.map D.int),.lst (F.map D.str),.int ((d:Int)+1)]=aA (.fz (.str (S (Yl (Y7 ps)))))):
  ∀(j k:Nat) (qs:List Q) (x5 x6 x7 x8:Option SV),TI F (n+1) k c qs->k+j<=6->13*d+2*(k+j)<39->
   ∃UI y5 y6 y7 y8,TI F (n+1) (k+j) c UI/\Yr (Zl 5) (Gen.Qn r) (E8 k j) (xSt ms F d (S (Yl (Y7 qs))) x5 x6 x7 x8)=aA (.nx (xSt ms F d (S (Yl (Y7 UI))) y5 y6 y7 y8))
 |0,k,qs,x5,x6,x7,x8,h,_,_=>⟨qs,x5,x6,x7,x8,h,rfl⟩
 |j+1,k,qs,x5,x6,x7,x8,h,h6,uj=>by obtain⟨q1,y6,y7,y8,T1,e1⟩:=kZ hF hN hm (by omega) (by omega) h hc hr x6 x7 x8;obtain⟨q2,z5,z6,z7,z8,T2,e2⟩:=Sw hc hr j (k+1) q1 (aA (.fz (.int (k:Int)))) y6 y7 y8 T1 (by omega) (by omega);refine⟨q2,z5,z6,z7,z8,?_,(Ys (ds:=E8 (k+1) j) (by simp) e1).trans e2⟩;rw[show k+(j+1)=k+1+j by omega];exact T2
end
section
variable{F:List Str}(hF:F.length=4)(hN:∀f∈F,Ii f){ms:List Int}(hm:ms.length=39){d:Nat}{n c k' c':Nat}{r:List D->Option SV}
include hF hN hm in
theorem Nc(hd:d<=2){m:Nat}(h0:1<=m)(h6:m<=6)(uj:13*d+2*m<39)(am:L2.atI [D.int 6,.int 3,.int 3] (d:Int)=aA (.int (m:Int)))(hc:c<=50)(hr:d<2->∃ps,TI F n k' c' ps/\0<k'/\k'+c'<=c/\r [.lst (ms.map D.int),.lst (F.map D.str),.int ((d:Int)+1)]=aA (.fz (.str (S (Yl (Y7 ps)))))):
  ∃k qs,TI F (n+1) k c qs/\0<k/\k<=m/\Yj (Gen.U1 r) 9 [.lst (ms.map D.int),.lst (F.map D.str),.int (d:Int)]=aA (.fz (.str (S (Yl (Y7 qs))))):=by
 have a1:=U3 (ms:=ms) (j:=13*d) (by omega);rw[show((13*d:Nat):Int)=13*(d:Int) by omega]at a1;generalize ms[13*d]'(by omega)=u at a1;have q0:0<=u % (m:Int):=f6 _ (by omega);have q1:u % (m:Int)<(m:Int):=fg _ (by omega);obtain⟨j,hj⟩:∃j:Nat,u % (m:Int)=(j:Int):=⟨(u % (m:Int)).toNat,by omega⟩
 obtain⟨qs,y5,y6,y7,y8,T,e⟩:=Sw hF hN hm hc hr (1+j) 0 [] aB aB aB aB (TI.start F (n+1) c) (by omega) (by omega);rw[Nat.zero_add]at T;refine⟨_,qs,T,by omega,by omega,?_⟩;have mk:=V7 (i:=13) (j:=(d:Int)) (by omega);have z3:3<=PySem.sizeLine:=Zn (by decide);have g1:Nl (1+(j:Int)):=by
  have:Nl ((1+j:Nat):Int):=Rq (by omega)
  rwa [show((1+j:Nat):Int)=1+(j:Int) by omega]at this
 have et:(1+(j:Int)).toNat=1+j:=by omega
 have nz:0<(m:Int):=by omega
 have e0:S (Yl (Y7 []))=az "":=by decide+kernel
 rw[e0]at e;generalize S (Yl (Y7 qs))=R at*;unfold xSt at e;generalize ms.map D.int=MS,F.map D.str=FS,13*(d:Int)=D13 at*;generalize (d:Int)=DD at*;generalize (m:Int)=MM at*;unfold Gen.U1;simp[-Yr,mk,a1,am,hj,g1,et,O4,z3,nz,e]
include hF hN hm in
theorem pR:∃qs,Tmp qs/\(∀s∈Bm qs,s∈F)/\wt (Y7 qs)<=500/\Gen.T7 [.lst (ms.map D.int),.lst (F.map D.str),.int 0]=aA (.fz (.str (S (Yl (Y7 qs))))):=by obtain⟨k2,p2,T2,a2,b2,e2⟩:=Nc (d:=2) (n:=1) (c:=0) (k':=0) (c':=0) (r:=Gen.U2 9) hF hN hm (by decide) (m:=3) (by decide) (by decide) (by decide) rfl (by decide) (λh=>bN h (by decide));obtain⟨k1,p1,T1,a1,b1,e1⟩:=Nc (d:=1) (n:=2) (c:=3) (k':=k2) (c':=0) (r:=Gen.U2 10) hF hN hm (by decide) (m:=3) (by decide) (by decide) (by decide) rfl (by decide) (λ_=>⟨p2,T2,a2,by omega,e2⟩);obtain⟨k0,qs,T0,a0,b0,e0⟩:=Nc (d:=0) (n:=3) (c:=6) (k':=k1) (c':=3) (r:=Gen.U2 11) hF hN hm (by decide) (m:=6) (by decide) (by decide) (by decide) rfl (by decide) (λ_=>⟨p1,T1,a1,by omega,e1⟩);have g:=HP (Y7 qs) 6;have f:=T0.few;have w:=T0.wt;have l:=T0.len;obtain⟨c1,c2⟩:=G5 qs λq hq=>Mw _ q.1 q.2 (T0.lev.pie q hq);refine⟨qs,⟨T0.lev,by omega,by omega,by omega⟩,λs hs=>?_,by omega,e0⟩;obtain⟨d,hd,hs⟩:=List.mem_flatMap.mp hs;obtain⟨q,hq,rfl⟩:=bd.mp hd;exact T0.own q hq 4 s hs
end
def Nh:D->List Str
 | .tup [.str k,.tup xs]=>if k=GRP then[]else(strs? xs).getD []
 | .tup [.str _,.str s,_,_]=>[s]
 |_=>[]
theorem X4(ns):Nh (Nv ns)=ns:=by unfold Nv;rw[Nh,bI Fe,W9];rfl
theorem X5(ds):Nh (Ix ds)=[]:=by unfold Ix;rw[Nh,bJ rfl]
theorem NZ:az "field"=FLD:=rfl
theorem NY:az "hands"=HDS:=rfl
theorem NX:az "group"=GRP:=rfl
theorem wf:∀n d ts,Cm n d ts->Gen.Y6 [d]=aA (.ol ((Nh d).map D.str))
 |0,_,_,h=>h.elim
 |n+1,d,ts,h=>by
  have z1:1<=PySem.sizeLine:=Zn (by decide);rcases h with⟨l,ok,rfl,rfl⟩|⟨ns,h0,h4,hn,rfl,rfl⟩|⟨nm,a,b,hn,h1,h2,h3,rfl,rfl⟩|⟨qs,h0,hc,hq,rfl,rfl⟩
  .unfold Gen.Y6 Gen.Qg Fb;simp[T8,Ls,NZ,NY,wz,vI,Nh]
  .rw[X4];unfold Gen.Y6 Gen.Qg Nv;have zl:(ns.map S).length<=PySem.sizeLine:=Zn (by rw[ay];omega);generalize ns.map S=NS at*;rw[<-ay (f:=D.str)]at zl;generalize NS.map D.str=DS at*;simp[T8,Ls,NZ,NY,zl]
  .unfold Gen.Y6 Gen.Qg Sd;simp[MR,HV,NZ,NY,IR,z1,Nh]
  .rw[X5];unfold Gen.Y6 Gen.Qg Ix;generalize qs.map (·.1)=DS at*;simp[T8,Ls,NZ,NY,IQ,IP]
def inn(es:PS)(ns:List Str):List Str:=ns.filter λs=>(Gb es s).isSome
def IM(es:PS):D->Option D
 | .str s=>if(Gb es s).isSome=aC then aA (.str s)else aB
 |_=>aB
theorem wH(es):∀ns,(ns.map D.str).filterMap (IM es)=(inn es ns).map D.str
 | []=>rfl
 |n::ns=>by
  have ih:=wH es ns;unfold inn at ih⊢;rw[bn,List.filter_cons];by_cases h:(Gb es n).isSome=aC
  .rw[dk (b:=.str n) (by show(if _ then _ else _)=_;rw[bJ h]),ih,bJ h];rfl
  .rw[dr (by show(if _ then _ else _)=_;rw[bI h]),ih,bI h]
theorem wG(es:PS)(ns)(hl:ns.length<=1000):Wl [.own,.cap 1,.acc] 2 (Zl 0) (Zq (Zg inZ (Za 0) (Za 1))) (Za 0) (ns.map D.str) [aB,aA (.fz (Qw es)),aA (.ol [])]=aA [aB,aA (.fz (Qw es)),aA (.ol ((inn es ns).map D.str))]:=by
 have:=A8 (src:=[.own,.cap 1,.acc]) (k:=2) (g:=Zl 0) (tt:=Zq (Zg inZ (Za 0) (Za 1))) (te:=Za 0) (st:=λzs=>[aB,aA (.fz (Qw es)),aA (.ol zs)]) (f:=IM es) (ns.map D.str) [] (λd hd zs RJ hz=>by
  obtain⟨s,_,rfl⟩:=bd.mp hd;have lk:=Ga (·.2) s es;unfold Qw Xt;generalize Z3 (es.map (·.1))=KS,(es.map λp=>D.str p.2)=VS at*;rw[Wl];unfold IM;cases hf:Gb es s with
  |none=>rw[hf]at lk;dsimp only[Option.map_none]at lk;simp[-Wl,-Z9,hz,lk,hf]
  |some p=>
   rw[hf]at lk;dsimp only[Option.map_some]at lk;simp[-Wl,-Z9,hz,lk,hf]) (by simp;omega)
 rw[cz,wH]at this;exact this
theorem kY(es:PS)(ns)(hl:ns.length<=1000):Wl [.own,.cap 1,.acc] 2 (Zl 0) Gen.Td Gen.Te (ns.map D.str) [aB,aA (.fz (Qw es)),aA (.ol [])]=aA [aB,aA (.fz (Qw es)),aA (.ol ((inn es ns).map D.str))]:=wG es ns hl
theorem Sx(r)(es:PS)(ns)(hl:ns.length<=1000):Wl [.own,.cap 1,.acc] 2 (Zl 0) (Gen.Ox r) (Gen.Oy r) (ns.map D.str) [aB,aA (.fz (Qw es)),aA (.ol [])]=aA [aB,aA (.fz (Qw es)),aA (.ol ((inn es ns).map D.str))]:=wG es ns hl
theorem Eo{es:PS}:∀ns:List Str,match inn es ns with
  | []=>pick es ns=aB
  |s::r=>∃p,pick es ns=aA p/\p.1=s/\Gb es s=aA p
 | []=>rfl
 |n::ns=>by
  have ih:=Eo (es:=es) ns;unfold inn at ih⊢;rw[List.filter_cons];unfold pick;cases hf:Gb es n with
  |none=>exact ih
  |some p=>exact⟨p,rfl,(Jd hf).2,hf⟩
theorem Fy(xs):Ab 48 (.lst xs) (.lst [])=aA (decide (xs=[])):=by
 cases xs with
 |nil=>rfl
 |cons x r=>simp
def lck(es:PS)(d:D):Bool:=decide (Nh d≠[])&&decide (inn es (Nh d)=[])
theorem xD:∀n d ts,Cm n d ts->(Nh d).length<=4
 |0,_,_,h=>h.elim
 |n+1,d,ts,h=>by
  rcases h with⟨l,ok,rfl,rfl⟩|⟨ns,h0,h4,hn,rfl,rfl⟩|⟨nm,a,b,hn,h1,h2,h3,rfl,rfl⟩|⟨qs,h0,hc,hq,rfl,rfl⟩
  .exact cr _
  .rw[X4,ay];exact h4
  .exact Nat.le_add_left 1 3
  .rw[X5];exact cr _
theorem gV{es:PS}(h:Cm n d ts):Gen.J3 [d,Qw es]=aA (.fz (.bl (lck es d))):=by
 have a:=wf n d ts h;have c:=kY es (Nh d) (by have:=xD n d ts h;omega);have e1:=Fy ((Nh d).map D.str);have e2:=Fy ((inn es (Nh d)).map D.str);rw[show decide ((Nh d).map D.str=[])=decide (Nh d=[])from by simp]at e1;rw[show decide ((inn es (Nh d)).map D.str=[])=decide (inn es (Nh d)=[])from by simp]at e2;unfold lck;by_cases h1:Nh d=[]
 .rw[bL h1]at e1;generalize Qw es=OD,(Nh d).map D.str=NS at*;unfold Gen.J3 Gen.B4;simp[-Wl,-Ab,a,e1,h1]
 .rw[bK h1]at e1;generalize decide (inn es (Nh d)=[])=B,Qw es=OD,(Nh d).map D.str=NS,(inn es (Nh d)).map D.str=IS at*;unfold Gen.J3 Gen.B4;simp[-Wl,-Ab,a,e1,h1,c,e2]
theorem zG:∀n d ts,Cm n d ts->lck es d=(Q8 es n d).isNone
 |0,_,_,h=>h.elim
 |n+1,d,ts,h=>by
  rcases h with⟨l,ok,rfl,rfl⟩|⟨ns,h0,h4,hn,rfl,rfl⟩|⟨nm,a,b,hn,h1,h2,h3,rfl,rfl⟩|⟨qs,h0,hc,hq,rfl,rfl⟩
  .unfold Fb;rw[Q8];rfl
  .have p:=Eo (es:=es) (ns.map S);unfold lck;rw[X4];unfold Nv;rw[Q8,bI Fe,W9];show _=((pick es (ns.map S)).map λp=>[Pt.mk p]).isNone;have uk:ns.map S≠[]:=by simpa using h0
   rw[bL uk];cases hi:inn es (ns.map S)with
   |nil=>rw[hi]at p;rw[p];simp
   |cons s r=>rw[hi]at p;obtain⟨q,e,_⟩:=p;rw[e];simp
  .have p:=Eo (es:=es) [S nm];unfold lck Sd;rw[Q8];show(decide ([S nm]≠[])&&decide (inn es [S nm]=[]))=_;cases hi:inn es [S nm]with
   |nil=>rw[hi]at p;rw[p];simp
   |cons s r=>rw[hi]at p;obtain⟨q,e,_⟩:=p;rw[e];simp
  .unfold lck;rw[X5];unfold Ix;rw[Q8,bJ rfl];split<;> rfl
theorem X6{α:Type}[DecidableEq α]:∀{l U:List α},l.Nodup->(∀x∈l,x∈U)->l.length<=U.length
 | [],_,_,_=>cr _
 |a::l,U,nd,h=>by obtain⟨n1,n2⟩:=cq.mp nd;have ha:=h a aa;have ih:=X6 (U:=U.erase a) n2 λx hx=>(List.mem_erase_of_ne (show x≠a from λz=>n1 (by rw[<-z];exact hx))).mpr (h x (ad _ hx));rw[List.length_erase_of_mem ha]at ih;have:=List.length_pos_of_mem ha;rw[bc];omega
structure Acc(es acc:PS):Prop where
 sub:∀p∈acc,p∈es
 nd:acc.Nodup
theorem Acc.one(h:Acc es acc)(hp:p∈es):Acc es (if p∈acc then acc else acc++[p]):=by
 by_cases c:p∈acc
 .rw[bJ c];exact h
 .rw[bI c];refine⟨λq hq=>?_,?_⟩
  .rcases bo.mp hq with z|z
   .exact h.sub q z
   .rw[af.mp z];exact hp
  .exact dm.mpr ⟨h.nd,by simp,λx hx y hy e=>c (by rw[<-af.mp hy,<-e];exact hx)⟩
theorem Acc.add:∀ps {acc:PS},Acc es acc->(∀p,Pt.mk p∈ps->p∈es)->Acc es (R51.addP acc ps)
 | [],_,h,_=>h
 | .sg _::r,_,h,k=>Acc.add r h λp hp=>k p (ad _ hp)
 | .mk p::r,_,h,k=>Acc.add r (h.one (k p aa)) λp hp=>k p (ad _ hp)
theorem X7:∀a b acc,R51.addP acc (a++b)=R51.addP (R51.addP acc a) b
 | [],_,_=>rfl
 | .sg _::a,b,acc=>X7 a b acc
 | .mk p::a,b,acc=>X7 a b _
noncomputable abbrev Ny(b:av)(A:D)(es acc:PS)(x3 x4 x5:Option SV):Wa:=[aA (.fz A),aA (.fz (Qw es)),aA (.oQ b (Yi acc) (Z0 acc)),x3,x4,x5]
section
variable{es:PS}(H:Fld es)
include H in
theorem Ik(r:WG)(b:av)(A:D){acc:PS}(ac:Acc es acc){k:Str}{xs:List D}(hk:¬k=GRP)(h0:L2.atI (D.str k::xs) 0=aA (.str k)){ns:List Str}(nm:Gen.Y6 [.tup (.str k::xs)]=aA (.ol (ns.map D.str)))(hl:ns.length<=1000)(x4 x5:Option SV):
  ∃y4,Gen.Wr r (Ny b A es acc (aA (.fz (.tup (.str k::xs)))) x4 x5)=aA (.nx (Ny b A es (R51.addP acc (((pick es ns).map λp=>[Pt.mk p]).getD [])) (aA (.fz (.tup (.str k::xs)))) y4 x5)):=by
 have c:=Sx r es ns hl;have pi:=Eo (es:=es) ns;have len:=X6 ac.nd ac.sub;have el:=H.len;have zl:(Z0 acc).length<PySem.sizeLine:=Y2 (by rw[ay,ay];omega);cases hi:inn es ns with
 |nil=>rw[hi]at pi c;rw[pi];have e1:Ab 48 (.lst []) (.lst [])=aA aC:=rfl;refine⟨aA (.ol []),?_⟩;show _=aA (Fl.nx (Ny b A es acc (aA (.fz (.tup (.str k::xs)))) (aA (.ol [])) x5));unfold Ny;generalize Yi acc=KA,Z0 acc=VA,Qw es=OD,ns.map D.str=NS at*;unfold Gen.Wr;simp[-Wl,-Ab,nm,c,e1,h0,NX,hk]
 |cons s l=>rw[hi]at pi c;obtain⟨p,ep,rfl,hf⟩:=pi;have hp:=(Jd hf).1;have lk:=Ga (·.2) p.1 es;rw[hf]at lk;dsimp only[Option.map_some]at lk;have pa:=R51.put_acc H.nd ac.sub hp;have pu:=Q3 p.1 (.str p.2) (acc.map (·.1)) (Z0 acc);rw[pa]at pu;dsimp only at pu;rw[ep];have e1:=Fy ((p.1::l).map D.str);have e1:Ab 48 (.lst (D.str p.1::l.map D.str)) (.lst [])=aA aD:=e1;have c:Wl [.own,.cap 1,.acc] 2 (Zl 0) (Gen.Ox r) (Gen.Oy r) (ns.map D.str) [aB,aA (.fz (Qw es)),aA (.ol [])]=aA [aB,aA (.fz (Qw es)),aA (.ol (D.str p.1::l.map D.str))]:=c;have a0:L2.atI (D.str p.1::l.map D.str) 0=aA (.str p.1):=Ce _ 0 _ rfl;refine⟨aA (.ol (D.str p.1::l.map D.str)),?_⟩;show _=aA (Fl.nx (Ny b A es (if p∈acc then acc else acc++[p]) (aA (.fz (.tup (.str k::xs)))) (aA (.ol (D.str p.1::l.map D.str))) x5));generalize (if p∈acc then acc else acc++[p])=XC at*;unfold Ny;unfold Qw Xt at*;unfold Yi;generalize Z3 (acc.map (·.1))=KA,Z0 acc=VA,Z3 (XC.map (·.1))=KA',Z0 XC=VA',Z3 (es.map (·.1))=KS,(es.map λp=>D.str p.2)=VS,ns.map D.str=NS,l.map D.str=LS at*;unfold Gen.Wr;simp[-Wl,-Ab,-Z9,-Yw,nm,c,e1,h0,NX,hk,a0,lk,pu,zl]
def Fh(es:PS)(d:D):Option D:=if lck es d=aC then aA d else aB
theorem mS(r)(qs:List (D×List Tk))(hq:∀q∈qs,Cm n q.1 q.2)(hl:qs.length<=1000):Wl [.own,.cap 1,.acc] 2 (Zl 0) (Gen.Oz r) (Gen.O0 r) (qs.map (·.1)) [aB,aA (.fz (Qw es)),aA (.ol [])]=aA [aB,aA (.fz (Qw es)),aA (.ol ((qs.map (·.1)).filterMap (Fh es)))]:=by
 have:=A8 (src:=[.own,.cap 1,.acc]) (k:=2) (g:=Zl 0) (tt:=Gen.Oz r) (te:=Gen.O0 r) (st:=λzs=>[aB,aA (.fz (Qw es)),aA (.ol zs)]) (f:=Fh es) (qs.map (·.1)) [] (λd hd zs RJ hz=>by
  obtain⟨q,hm,rfl⟩:=bd.mp hd;have lc:=gV (es:=es) (hq q hm);generalize Qw es=OD at*;rw[Wl];unfold Gen.Oz Gen.O0 Fh;generalize lck es q.1=B at*;cases B<;> simp[-Wl,hz,lc]) (by simp;omega)
 rwa [cz]at this
theorem pQ(qs:List (D×List Tk))(hq:∀q∈qs,Cm n q.1 q.2):(qs.map (·.1)).filterMap (Fh es)=[]↔¬((qs.map (·.1)).any λd=>(Q8 es n d).isNone)=aC:=by
 rw[List.filterMap_eq_nil_iff,List.any_eq_true];constructor
 .rintro h ⟨d,hd,e⟩;have:=h d hd;obtain⟨q,hm,rfl⟩:=bd.mp hd;unfold Fh at this;rw[zG n q.1 q.2 (hq q hm),bJ e]at this;cases this
 .intro h d hd;obtain⟨q,hm,rfl⟩:=bd.mp hd;unfold Fh;rw[zG n q.1 q.2 (hq q hm),bI λe=>h ⟨_,hd,e⟩]
abbrev flD(es:PS)(n:Nat)(ds:List D):List Pt:=ds.flatMap λd=>(Q8 es n d).getD []
include H in
theorem gU:∀(n:Nat) (d:D) (ts:List Tk),Cm n d ts->∀p,Pt.mk p∈(Q8 es n d).getD []->p∈es:=λn d ts h p hp=>(HQ H n d ts h).1 (.mk p) hp
include H in
theorem kX{n m:Nat}(ih:∀(qs:List (D×List Tk)),(∀q∈qs,Cm n q.1 q.2)->qs.length<=100->∀b acc,Acc es acc->Gen.Yu m b [.tup (qs.map (·.1)),Qw es] (Yi acc) (Z0 acc)=aA (Yi (R51.addP acc (flD es n (qs.map (·.1)))),Z0 (R51.addP acc (flD es n (qs.map (·.1))))))
  {d:D} {ts:List Tk} (h:Cm (n+1) d ts) (b:av) (A:D) {acc:PS} (ac:Acc es acc) (x4 x5:Option SV):
  ∃y4 y5,Gen.Wr (Gen.Yu m) (Ny b A es acc (aA (.fz d)) x4 x5)=aA (.nx (Ny b A es (R51.addP acc ((Q8 es (n+1) d).getD [])) (aA (.fz d)) y4 y5)):=by
 have nm:=wf (n+1) d ts h;have nl:=xD (n+1) d ts h;rcases h with⟨l,ok,rfl,rfl⟩|⟨ns,h0,h4,hn,rfl,rfl⟩|⟨nm',a,b',hn,h1,h2,h3,rfl,rfl⟩|⟨qs,h0,hc,hq,rfl,rfl⟩
 .obtain⟨y4,e⟩:=Ik H (Gen.Yu m) b A ac vH (T8 _ _) nm (by omega) x4 x5;refine⟨y4,x5,e.trans ?_⟩;unfold Fb;rw[Q8];rfl
 .obtain⟨y4,e⟩:=Ik H (Gen.Yu m) b A ac Fe (T8 _ _) nm (by omega) x4 x5;refine⟨y4,x5,e.trans ?_⟩;rw[X4];unfold Nv;rw[Q8,bI Fe,W9];rfl
 .obtain⟨y4,e⟩:=Ik H (Gen.Yu m) b A ac hZ (MR _ _ _ _) nm (by omega) x4 x5;refine⟨y4,x5,e.trans ?_⟩;unfold Sd;rw[Q8];rfl
 .have c:=mS (es:=es) (Gen.Yu m) qs hq (by omega);have al:=pQ (es:=es) qs hq;have e0:=Fy ((qs.map (·.1)).filterMap (Fh es));have c2:=Sx (Gen.Yu m) es [] (by decide);have c2:Wl [.own,.cap 1,.acc] 2 (Zl 0) (Gen.Ox (Gen.Yu m)) (Gen.Oy (Gen.Yu m)) [] [aB,aA (.fz (Qw es)),aA (.ol [])]=aA [aB,aA (.fz (Qw es)),aA (.ol [])]:=c2;have e1:Ab 48 (.lst []) (.lst [])=aA aC:=rfl;rw[X5]at nm;have ih:=ih qs hq hc b acc ac;unfold Ix at nm⊢;rw[Q8,bJ rfl];by_cases hl:(qs.map (·.1)).filterMap (Fh es)=[]
  .rw[bL hl]at e0;rw[bI (al.mp hl)];refine⟨aA (.ol []),aA (.ol ((qs.map (·.1)).filterMap (Fh es))),?_⟩;show _=aA (Fl.nx (Ny b A es (R51.addP acc (flD es n (qs.map (·.1)))) _ _ _));generalize R51.addP acc (flD es n (qs.map (·.1)))=XC at*;unfold Ny;generalize (qs.map (·.1)).filterMap (Fh es)=LK at*;clear al hl;generalize qs.map (·.1)=DS,Qw es=OD,Yi acc=KA,Z0 acc=VA,Yi XC=KA',Z0 XC=VA' at*;unfold Gen.Wr;simp[-Wl,-Ab,nm,c,c2,e0,e1,T8,Ls,NX,ih]
  .rw[bK hl]at e0;rw[bJ (Classical.byContradiction λz=>hl (al.mpr z))];refine⟨aA (.ol []),aA (.ol ((qs.map (·.1)).filterMap (Fh es))),?_⟩;show _=aA (Fl.nx (Ny b A es acc _ _ _));unfold Ny;generalize (qs.map (·.1)).filterMap (Fh es)=LK at*;clear al hl;generalize qs.map (·.1)=DS,Qw es=OD,Yi acc=KA,Z0 acc=VA at*;unfold Gen.Wr;simp[-Wl,-Ab,nm,c,c2,e0,e1,T8,Ls,NX]
include H in
theorem Sy{n m:Nat}(tn:∀(d:D) (ts:List Tk),Cm n d ts->∀(b:av) (A:D) (acc:PS),Acc es acc->∀x4 x5:Option SV,∃y4 y5,Gen.Wr (Gen.Yu m) (Ny b A es acc (aA (.fz d)) x4 x5)=aA (.nx (Ny b A es (R51.addP acc ((Q8 es n d).getD [])) (aA (.fz d)) y4 y5)))(b:av)(A:D):
  ∀(qs:List (D×List Tk)) (acc:PS) (x3 x4 x5:Option SV),(∀q∈qs,Cm n q.1 q.2)->Acc es acc->∃y3 y4 y5,Yr (Zl 3) (Gen.Wr (Gen.Yu m)) (qs.map (·.1)) (Ny b A es acc x3 x4 x5)=aA (.nx (Ny b A es (R51.addP acc (flD es n (qs.map (·.1)))) y3 y4 y5))
 | [],acc,x3,x4,x5,_,_=>⟨x3,x4,x5,rfl⟩
 |q::qs,acc,x3,x4,x5,hq,ac=>by have pq:=hq q aa;obtain⟨y4,y5,e⟩:=tn q.1 q.2 pq b A acc ac x4 x5;obtain⟨w3,w4,w5,e2⟩:=Sy tn b A qs _ (aA (.fz q.1)) y4 y5 (λx hx=>hq x (ad _ hx)) (ac.add _ (gU H n q.1 q.2 pq));refine⟨w3,w4,w5,?_⟩;rw[bn];show _=aA (Fl.nx (Ny b A es (R51.addP acc ((Q8 es n q.1).getD []++flD es n (qs.map (·.1)))) w3 w4 w5));rw[X7];exact(Ys (δ1:=Ny b A es acc (aA (.fz q.1)) x4 x5) rfl e).trans e2
include H in
theorem wF{n m:Nat}(tn:∀(d:D) (ts:List Tk),Cm n d ts->∀(b:av) (A:D) (acc:PS),Acc es acc->∀x4 x5:Option SV,∃y4 y5,Gen.Wr (Gen.Yu m) (Ny b A es acc (aA (.fz d)) x4 x5)=aA (.nx (Ny b A es (R51.addP acc ((Q8 es n d).getD [])) (aA (.fz d)) y4 y5)))(qs:List (D×List Tk))(hq:∀q∈qs,Cm n q.1 q.2)(b:av)(acc:PS)(ac:Acc es acc):Gen.Yu (m+1) b [.tup (qs.map (·.1)),Qw es] (Yi acc) (Z0 acc)=aA (Yi (R51.addP acc (flD es n (qs.map (·.1)))),Z0 (R51.addP acc (flD es n (qs.map (·.1))))):=by obtain⟨y3,y4,y5,e⟩:=Sy H tn b (.tup (qs.map (·.1))) qs acc aB aB aB hq ac;unfold Gen.Yu;generalize R51.addP acc (flD es n (qs.map (·.1)))=XC at*;unfold Ny at e;generalize qs.map (·.1)=DS,Qw es=OD,Yi acc=KA,Z0 acc=VA,Yi XC=KA',Z0 XC=VA' at*;unfold Gen.Bj;simp[-Yr,e,runs,Xc]
include H in
theorem kW(n:Nat):∀(m:Nat),n<=m->∀(qs:List (D×List Tk)),(∀q∈qs,Cm n q.1 q.2)->qs.length<=100->∀b acc,Acc es acc->Gen.Yu (m+1) b [.tup (qs.map (·.1)),Qw es] (Yi acc) (Z0 acc)=aA (Yi (R51.addP acc (flD es n (qs.map (·.1)))),Z0 (R51.addP acc (flD es n (qs.map (·.1))))):=by
 induction n with
 |zero=>exact λm hm qs hq hl b acc ac=>wF H (λd ts (h:Cm 0 d ts)=>False.elim h) qs hq b acc ac
 |succ n ih=>
  intro m hm qs hq hl b acc ac;obtain⟨m',rfl⟩:∃m',m=m'+1:=⟨m- 1,by omega⟩
  exact wF H (λd ts h b A acc ac x4 x5=>kX H (ih m' (by omega)) h b A ac x4 x5) qs hq b acc ac
end
theorem oB{es:PS}(H:Fld es)(ht:Tmp qs)(b):Gen.Bk b [.tup (Es qs),Qw es] [] []=aA (Yi (R51.addP [] (Qt es qs)),Z0 (R51.addP [] (Qt es qs))):=
 kW H 4 11 (by decide) qs ht.lev.pie ht.most b [] ⟨(λ_ h=>nomatch h),cx⟩
theorem Acc.keys(nd:(es.map (·.1)).Nodup)(h:Acc es acc):(acc.map (·.1)).Nodup:=by unfold List.Nodup;rw[List.pairwise_map];exact List.Pairwise.imp_of_mem (λha hb ne e=>ne (R51.key_inj nd (h.sub _ ha) (h.sub _ hb) e)) h.nd
theorem X8:∀ps acc p,p∈acc->p∈R51.addP acc ps
 | [],_,_,h=>h
 | .sg _::r,acc,p,h=>X8 r acc p h
 | .mk q::r,acc,p,h=>X8 r _ p (by
  by_cases c:q∈acc
  .rw[bJ c];exact h
  .rw[bI c];exact ci _ h)
theorem X9:∀ps acc p,Pt.mk p∈ps->p∈R51.addP acc ps
 | .sg _::r,acc,p,h=>X9 r acc p (by
  rcases ba.mp h with z|z
  .cases z
  .exact z)
 | .mk q::r,acc,p,h=>by
  show p∈R51.addP (if q∈acc then acc else acc++[q]) r;rcases ba.mp h with z|z
  .have z:=Pt.mk.inj z;rw[<-z];refine X8 r _ p ?_;by_cases c:p∈acc
   .rw[bJ c];exact c
   .rw[bI c];simp
  .exact X9 r _ p z
theorem tR{es:PS}(nd:(es.map (·.1)).Nodup)(hp:p∈es):Gb es p.1=aA p:=by
 cases e:Gb es p.1 with
 |none=>exact bN rfl (Nb e p hp)
 |some q=>rw[R51.key_inj nd (Jd e).1 hp (Jd e).2]
theorem GW(f):∀ks,k∈ks->wkO k ks (ks.map f)=aA (f k)
 |x::xs,h=>by
  rw[bn];unfold wkO;by_cases e:x=k
  .rw[bJ e,e]
  .rw[bI e];rcases ba.mp h with z|z
   .exact bN z.symm e
   .exact GW f xs z
theorem tQ(es g):Z9 (es.map (·.1)) (Z0 es) g=(Gb es g).map λp=>D.str p.2:=by have a:=Ga (·.2) g es;rw[Og]at a;rw[<-a];unfold Z0;rw[b6];rfl
section
variable{keys F:List Str}{ws:List WK}(Sh:Shelf keys F ws){T:TB}(hT:TOk F T){qs:List Q}(ht:Tmp qs)(hq:∀s∈Bm qs,s∈F)
include Sh hT ht hq in
theorem xC{i:Nat}{k:Str}(hk:keys[i]? =aA k):Acc (M5 keys ws T qs k) (Bp keys ws T qs k):=
 Acc.add _ ⟨(λ_ h=>nomatch h),cx⟩ λp hp=>(ht.told (El Sh hT ht hq hk)).1 (.mk p) hp
def wkR(keys:List Str)(ws:List WK)(T:TB)(qs:List Q)(k:Str):WK:=(Ua keys ws k,Bp keys ws T qs k)
include Sh hT ht hq in
theorem Nd(hF:F.length=4){ks:List Str}(hs:∀k∈ks,k∈keys)(nd:ks.Nodup)(hl:ks.length<=8):Shelf ks F (ks.map (wkR keys ws T qs)):=by
 refine⟨nd,λk hk=>Sh.nm k (hs k hk),Sh.fn,by rw[ay],hl,λi w hw=>?_⟩;rw[bz]at hw;obtain⟨k,hk,rfl⟩:=ez.mp hw;obtain⟨j,hj⟩:=List.getElem?_of_mem (hs k (cy hk));have H:=El Sh hT ht hq hj;have ac:=xC Sh hT ht hq hj;have pv:=zI Sh hT hq hj;have CB:∀p∈Bp keys ws T qs k,p.1∈F:=λp hp=>by
  rcases Mf [] _ _ (Q7.mp (ac.sub p hp)).1 with z|z
  .cases z
  .exact hq _ z
 obtain⟨w,JE,W⟩:=Sh.at hj;refine⟨ac.keys H.nd,?_,λp hp=>.inl ⟨CB p hp,pv p (ac.sub p hp)⟩,λp hp=>dw (Xo _ (pv p (ac.sub p hp))) (by decide),?_⟩
 .show Ua keys ws k=KB\/Ua keys ws k=KP;unfold Ua;rw[JE];exact W.knd
 .have:=X6 (U:=F) (ac.keys H.nd) λx hx=>by obtain⟨p,hp,rfl⟩:=bd.mp hx;exact CB p hp
  rw[ay]at this;show(Bp keys ws T qs k).length<=6;omega
theorem xB(hk:k∈ks)(g):hS ks (ks.map (wkR keys ws T qs)) [] k g=(Gb (Bp keys ws T qs k) g).map (·.2):=by
 have wk:=GW (wkR keys ws T qs) ks hk;have lk:=tQ (Bp keys ws T qs k) g;have nn:nx ks (ks.map (wkR keys ws T qs)) [] (k,g)=aB:=by
  unfold nx;rw[wk];show stp ks [] g (wkR keys ws T qs k)=aB;unfold stp;split
  .rfl
  .rfl
 have hr:Fc (nx ks (ks.map (wkR keys ws T qs)) []) 60 [] (k,g)=aA ([(k,g)],aB):=by rw[Fc,bI (by simp),nn];rfl
 have e:hd ks (ks.map (wkR keys ws T qs)) [] (k,g)=(Gb (Bp keys ws T qs k) g).map λp=>D.str p.2:=by unfold hd;rw[hr];show tx ks (ks.map (wkR keys ws T qs)) (OI [(k,g)])=_;show tx ks (ks.map (wkR keys ws T qs)) (k,g)=_;unfold tx;rw[wk];exact lk
 unfold hS;rw[e];cases Gb (Bp keys ws T qs k) g<;> rfl
include Sh hT ht hq in
theorem mf{ks:List Str}(hs:∀k∈ks,k∈keys){k:Str}(hk:k∈ks):Bo ks (ks.map (wkR keys ws T qs)) [] qs k=Bo keys ws T qs k:=by
 obtain⟨j,hj⟩:=List.getElem?_of_mem (hs k hk);have H:=El Sh hT ht hq hj;have ac:=xC Sh hT ht hq hj;have ek:Ua ks (ks.map (wkR keys ws T qs)) k=Ua keys ws k:=by
  conv=>lhs;unfold Ua
  rw[GW _ ks hk];rfl
 have ef:Qt (M5 ks (ks.map (wkR keys ws T qs)) [] qs k) qs=Qt (M5 keys ws T qs k) qs:=by
  refine jQ H.nd (λp hp=>?_) ht λp hp=>?_
  .obtain⟨_,b⟩:=Q7.mp hp;rw[xB hk]at b;obtain⟨q,e,e2⟩:=ez.mp b;have m:=Jd e;rw[show p=q from Prod.ext m.2.symm e2.symm];exact ac.sub q m.1
  .have pm:=(ht.told H).1 (.mk p) hp;have pt:p∈Bp keys ws T qs k:=X9 _ [] p hp;refine Q7.mpr ⟨(Q7.mp pm).1,?_⟩;rw[xB hk,tR (ac.keys H.nd) pt];rfl
 unfold Bo;rw[ek,ef]
include Sh hT ht hq in
theorem iA(hF:F.length=4){ks:List Str}(hs:∀k∈ks,k∈keys)(nd:ks.Nodup)(hl:ks.length<=8):Gen.Wv [Qo ks (ks.map (wkR keys ws T qs)),.dK [] [],.lst (ks.map D.str),.tup (Es qs)]=aA (.fz (.str (di NL (ks.map (Bo keys ws T qs))))):=by have a:=yj (Nd Sh hT ht hq hF hs nd hl) (T:=[]) (λ_ h=>nomatch h) ht hq (ks:=ks) (λ_ h=>h) hl;rw[dl λk hk=>mf Sh hT ht hq hs hk]at a;exact a
include Sh hT in
theorem oA(nF:F.Nodup)(hF:F.length=4){i:Nat}{k:Str}(hk:keys[i]? =aA k):Fld (Yq (hS keys ws T k) F):=by have fl:(Yq (hS keys ws T k) F).length<=F.length:=List.length_filterMap_le _ _;exact⟨(Ek _).nodup nF,by omega,λp hp=>Sh.fn _ (Q7.mp hp).1,λp hp=>BN (HS Sh hT hk (Q7.mp hp).1 (Q7.mp hp).2)⟩
include Sh hT ht hq in
theorem me(nF:F.Nodup)(hF:F.length=4){i:Nat}{k:Str}(hk:keys[i]? =aA k)(b:av):Gen.Bk b [.tup (Es qs),.dK (Yi (Yq (hS keys ws T k) F)) (Z0 (Yq (hS keys ws T k) F))] [] []=aA (Yi (Bp keys ws T qs k),Z0 (Bp keys ws T qs k)):=by rw[zO,oB (oA Sh hT nF hF hk) ht b,<-pT ht hq k];rfl
theorem Sz(SK SV' TD k h)(hh:∀g,Gen.B1 [.dK SK SV',TD,.str k,.str g]=aA (.fz (oD (h g))))(a0 a1 a2 a3 a6 a7 a8 a9 a10):∀gs ds WZ WY,(ds++gs).Nodup->ds.length+gs.length<=900->
  ∃WP WO,Yr (Zl 13) Gen.Fv (gs.map D.str) [a0,a1,a2,a3,aA (.fz TD),aA (.oK SK SV'),a6,a7,a8,a9,a10,aA (.fz (.str k)),aA (.oK (Yi (Yq h ds)) (Z0 (Yq h ds))),WZ,WY]=aA (.nx [a0,a1,a2,a3,aA (.fz TD),aA (.oK SK SV'),a6,a7,a8,a9,a10,aA (.fz (.str k)),aA (.oK (Yi (Yq h (ds++gs))) (Z0 (Yq h (ds++gs)))),WP,WO])
 | [],ds,x5,x6,_,_=>⟨x5,x6,by rw[de];rfl⟩
 |g::gs,ds,x5,x6,nd,hl=>by
  rw[bc]at hl;have e:=hh g;have zl:(Yq h ds).length<=ds.length:=List.length_filterMap_le _ _;have zv:(Z0 (Yq h ds)).length<PySem.sizeLine:=Y2 (by simp;omega);have fr:g∉(Yq h ds).map (·.1):=λz=>by obtain⟨p,hp,rfl⟩:=bd.mp z;exact(dm.mp nd).2.2 _ (Q7.mp hp).1 p.1 aa rfl
  have ap:Yq h (ds++[g])=Yq h ds++(match h g with|some t=>[(g,t)]|none=>[]):=by unfold Yq;rw[List.filterMap_append];cases e:h g<;> simp[e]
  obtain⟨y5,y6,ih⟩:=Sz SK SV' TD k h hh a0 a1 a2 a3 a6 a7 a8 a9 a10 gs (ds++[g]) (aA (.fz (.str g))) (aA (.fz (oD (h g)))) (by rw[cg];exact nd) (by rw[ao,b4];omega);rw[cg]at ih;refine⟨y5,y6,(Ys (δ1:=[a0,a1,a2,a3,aA (.fz TD),aA (.oK SK SV'),a6,a7,a8,a9,a10,aA (.fz (.str k)),aA (.oK (Yi (Yq h ds)) (Z0 (Yq h ds))),aA (.fz (.str g)),x6]) rfl ?_).trans ih⟩;rw[ap];cases hg:h g with
  |none=>rw[hg]at e;have e:Gen.B1 [.dK SK SV',TD,.str k,.str g]=aA (.fz .non):=e;rw[de];show _=aA (Fl.nx [a0,a1,a2,a3,aA (.fz TD),aA (.oK SK SV'),a6,a7,a8,a9,a10,aA (.fz (.str k)),aA (.oK (Yi (Yq h ds)) (Z0 (Yq h ds))),aA (.fz (.str g)),aA (.fz .non)]);generalize Yi (Yq h ds)=KA,Z0 (Yq h ds)=VA at*;unfold Gen.Fv;simp[e]
  |some t=>
   rw[hg]at e;have e:Gen.B1 [.dK SK SV',TD,.str k,.str g]=aA (.fz (.str t)):=e;have pp:Yw (Yi (Yq h ds)) (Z0 (Yq h ds)) (b7 g) (.str t)=(Yi (Yq h ds++[(g,t)]),Z0 (Yq h ds++[(g,t)])):=by unfold Yi Z0;rw[Q3,Uh fr];simp
   show _=aA (Fl.nx [a0,a1,a2,a3,aA (.fz TD),aA (.oK SK SV'),a6,a7,a8,a9,a10,aA (.fz (.str k)),aA (.oK (Yi (Yq h ds++[(g,t)])) (Z0 (Yq h ds++[(g,t)]))),aA (.fz (.str g)),aA (.fz (.str t))]);generalize Yi (Yq h ds++[(g,t)])=KB,Z0 (Yq h ds++[(g,t)])=VB at*;generalize Yi (Yq h ds)=KA,Z0 (Yq h ds)=VA at*;unfold Gen.Fv;simp[-Yw,e,zv,pp]
abbrev Ep(keys:List Str)(ws:List WK)(T:TB)(qs:List Q)(k:Str):D:=W4 (wkR keys ws T qs k)
abbrev vSt(keys F:List Str)(ws:List WK)(T:TB)(qs:List Q)(a0 a1 a2 a7 a8 a9:Option SV)(ks:List Str)(RW UH WZ WY:Option SV):Wa:=[a0,a1,a2,aA (.fz (.lst (F.map D.str))),aA (.fz (Wt T)),aA (.oK (Z3 keys) (ws.map W4)),aA (.fz (.tup (Es qs))),a7,a8,a9,aA (.oK (Z3 ks) (ks.map (Ep keys ws T qs))),RW,UH,WZ,WY]
include Sh hT ht hq in
theorem md(nF:F.Nodup)(hF:F.length=4){i:Nat}{k:Str}(hk:keys[i]? =aA k)(a0 a1 a2 a7 a8 a9:Option SV)(ks:List Str)(fr:k∉ks)(hl:ks.length<=100)(UH WZ WY:Option SV):
  ∃TC WP WO,Gen.Fw (vSt keys F ws T qs a0 a1 a2 a7 a8 a9 ks (aA (.fz (.str k))) UH WZ WY)=aA (.nx (vSt keys F ws T qs a0 a1 a2 a7 a8 a9 (ks++[k]) (aA (.fz (.str k))) TC WP WO)):=by
 obtain⟨WP,WO,lo⟩:=Sz (Z3 keys) (ws.map W4) (Wt T) k (hS keys ws T k) (λg=>zU Sh hk g) a0 a1 a2 (aA (.fz (.lst (F.map D.str)))) (aA (.fz (.tup (Es qs)))) a7 a8 a9 (aA (.oK (Z3 ks) (ks.map (Ep keys ws T qs)))) F [] WZ WY nF (by simp;omega);rw[cz,show Yi (Yq (hS keys ws T k) [])=[]from rfl,show Z0 (Yq (hS keys ws T k) [])=[]from rfl]at lo;have td:=me Sh hT ht hq nF hF hk;obtain⟨w,hw,W⟩:=Sh.at hk;have sl:=G7 k keys ws;rw[hw]at sl;have sl:Z9 (Z3 keys) (ws.map W4) (b7 k)=aA (.tup [.str w.1,.dK (Yi w.2) (Z0 w.2)]):=sl;have t0:=T8 (.str w.1) (.dK (Yi w.2) (Z0 w.2));have z2:2<=PySem.sizeLine:=Zn (by decide);have zv:(ks.map (Ep keys ws T qs)).length<PySem.sizeLine:=Y2 (by rw[ay];omega);have ek:Ua keys ws k=w.1:=by unfold Ua;rw[hw];rfl
 have pp:Yw (Z3 ks) (ks.map (Ep keys ws T qs)) (b7 k) (.tup [.str w.1,.dK (Yi (Bp keys ws T qs k)) (Z0 (Bp keys ws T qs k))])=(Z3 (ks++[k]),(ks++[k]).map (Ep keys ws T qs)):=by
  rw[Q3,Uh fr,cm];dsimp only;rw[show[k].map (Ep keys ws T qs)=[.tup [.str w.1,.dK (Yi (Bp keys ws T qs k)) (Z0 (Bp keys ws T qs k))]]from by
   show[D.tup [.str (Ua keys ws k),_]]=_;rw[ek];rfl]
 refine⟨aA (.fz (.dK (Yi (Yq (hS keys ws T k) F)) (Z0 (Yq (hS keys ws T k) F)))),WP,WO,?_⟩;unfold vSt;generalize Z3 (ks++[k])=K2,(ks++[k]).map (Ep keys ws T qs)=V2,ks.map (Ep keys ws T qs)=V1,Z3 ks=K1,Yi (Bp keys ws T qs k)=TK,Z0 (Bp keys ws T qs k)=TV,Yi (Yq (hS keys ws T k) F)=AK,Z0 (Yq (hS keys ws T k) F)=AV,(D.dK (Yi w.2) (Z0 w.2))=WD at*;unfold Qo at*;generalize Wt T=TD,ws.map W4=WS,Z3 keys=KS,Es qs=DS,F.map D.str=FS at*;have cw:=iH (n:=2) (g:=Gen.Bk) (fd:=Zm (Za 6) (Zm (Za 12) Zt)) (δ:=[a0,a1,a2,aA (.fz (.lst FS)),aA (.fz TD),aA (.oK KS WS),aA (.fz (.tup DS)),a7,a8,a9,aA (.oK K1 V1),aA (.fz (.str k)),aA (.oK AK AV),WP,WO]) (δ1:=[a0,a1,a2,aA (.fz (.lst FS)),aA (.fz TD),aA (.oK KS WS),aA (.fz (.tup DS)),a7,a8,a9,aA (.oK K1 V1),aA (.fz (.str k)),aA (.fz (.dK AK AV)),WP,WO]) (ds:=[.tup DS,.dK AK AV]) (r:=(TK,TV)) (by simp) rfl td;unfold Gen.Fw;simp[-Yr,-Z9,-Yw,lo,sl,t0,cw,z2,zv,pp]
include Sh hT ht hq in
theorem wE(nF:F.Nodup)(hF:F.length=4)(a0 a1 a2 a7 a8 a9:Option SV):∀(xs ks:List Str) (RW UH WZ WY:Option SV),(∀k∈xs,k∈keys)->(ks++xs).Nodup->ks.length+xs.length<=100->
  ∃O' TC WP WO,Yr (Zl 11) Gen.Fw (xs.map D.str) (vSt keys F ws T qs a0 a1 a2 a7 a8 a9 ks RW UH WZ WY)=aA (.nx (vSt keys F ws T qs a0 a1 a2 a7 a8 a9 (ks++xs) O' TC WP WO))
 | [],ks,RW,UH,WZ,WY,_,_,_=>⟨RW,UH,WZ,WY,by rw[de];rfl⟩
 |k::xs,ks,RW,UH,WZ,WY,hs,nd,hl=>by rw[bc]at hl;obtain⟨i,hi⟩:=List.getElem?_of_mem (hs k aa);have fr:k∉ks:=λz=>(dm.mp nd).2.2 _ z k aa rfl;obtain⟨TC,WP,WO,e⟩:=md Sh hT ht hq nF hF hi a0 a1 a2 a7 a8 a9 ks fr (by omega) UH WZ WY;obtain⟨vY,vX,vW,vV,e2⟩:=wE nF hF a0 a1 a2 a7 a8 a9 xs (ks++[k]) (aA (.fz (.str k))) TC WP WO (λx hx=>hs x (ad _ hx)) (by rw[cg];exact nd) (by rw[ao,b4];omega);rw[cg]at e2;exact⟨vY,vX,vW,vV,(Ys (δ1:=vSt keys F ws T qs a0 a1 a2 a7 a8 a9 ks (aA (.fz (.str k))) UH WZ WY) rfl e).trans e2⟩
end
theorem Ha(ns:List Int)(k:Nat)(i)(h:(k:Int)=i):∃c,Gen.Y5 [.lst (ns.map D.int),.int i]=aA (.fz (.int c)):=by subst h;exact yw ns k
theorem kU(ns:List Int):∃cs:List Int,I9 (ns.map D.int) (aA 6) (aA 14)=cs.map D.int/\cs.length<=8:=by
 refine⟨(ns.drop (HT.sIx ns.length 0 (aA 6))).take (HT.sIx ns.length ns.length (aA 14)- HT.sIx ns.length 0 (aA 6)),?_,?_⟩
 .unfold I9;rw[ay,List.map_take,List.map_drop]
 .rw[List.length_take];unfold HT.sIx;simp;omega
theorem turned(keys:List Str)(c):∃t,t<=keys.length/\c % (if(keys.length:Int) > 1 then(keys.length:Int)else 1)=(t:Int):=by
 obtain⟨M,hM⟩:∃M:Int,M=(if(keys.length:Int) > 1 then(keys.length:Int)else 1):=⟨_,rfl⟩
 rw[<-hM];have hp:0<M:=by rw[hM];split<;> omega
 have hc:M=(keys.length:Int)\/M=1:=by rw[hM];split<;> simp
 have h0:=f6 c (show M≠0 by omega);have h1:=fg c hp;exact⟨(c % M).toNat,by omega,by omega⟩
theorem law_true(ns:List Int)(XU:ns.length<=63):Gen.MT [.lst (ns.map D.int)]=aA (.fz (.bl aC)):=by
 obtain⟨c0,e0⟩:=Ha ns 0 0 rfl;obtain⟨c1,e1⟩:=Ha ns 1 1 rfl;obtain⟨c4,e4⟩:=Ha ns 4 4 rfl;obtain⟨c5,e5⟩:=Ha ns 5 5 rfl;have m0:=BS c0 16807;have m1:=BS c1 16807;obtain⟨cs,cc,cl⟩:=kU ns;obtain⟨keys,n0,kl,kn,kN⟩:=wT _ (yv c0 16807) cs.length (by omega);obtain⟨F,n1,fl,fn,fN⟩:=wT _ (yv c1 16807) 4 (by omega);generalize c0 % 2147483647*16807 % 2147483647=x0,c1 % 2147483647*16807 % 2147483647=x1 at*;have n1:Gen.Q4 [.int x1,.int 4]=_:=n1;obtain⟨T,hT,tl,et⟩:=mq ns F fl;obtain⟨ws,Sh,es⟩:=mj keys F kn kN fl fn fN cs (by omega) kl.symm;obtain⟨ms,en,_,ml⟩:=T9 c4 39 (by omega);have en:Gen.Y4 [.int c4,.int 39]=_:=en;obtain⟨qs,ht,hq,hw,ex⟩:=pR fl fN ml;have er:=ht.read;obtain⟨t,EU,ur⟩:=turned keys c5;have kp:(keys.drop t++keys.take t).Perm keys:=List.perm_append_comm.trans (by rw[List.take_append_drop]);obtain⟨ks,UT⟩:∃ks,ks=keys.drop t++keys.take t:=⟨_,rfl⟩
 rw[<-UT]at kp;have hs:∀k∈ks,k∈keys:=λk hk=>kp.mem_iff.mp hk;have nd:ks.Nodup:=kp.nodup_iff.mpr kn;have NO:ks.length<=8:=by rw[kp.length_eq];omega
 have uz:I9 (keys.map D.str) (aA (t:Int)) aB=(keys.drop t).map D.str:=by rw[wZ _ t (by rw[ay];exact EU),List.map_drop]
 have uy:I9 (keys.map D.str) aB (aA (t:Int))=(keys.take t).map D.str:=by rw[s_ _ t (by rw[ay];exact EU),List.map_take]
 have ka:(keys.drop t).map D.str++(keys.take t).map D.str=ks.map D.str:=by rw[UT,cm]
 have zk:((keys.drop t).map D.str).length+((keys.take t).map D.str).length<=PySem.sizeLine:=Zn (by simp;omega);have ER:(ks.map D.str).length<=PySem.sizeLine:=Zn (by rw[ay];omega);have wl:=yj Sh hT ht hq hs NO;have rb:=jR Sh hT ht hq hw hs nd NO;have ag:=iA Sh hT ht hq fl hs nd NO;have eb:(ks.map λk=>D.tup [.str (Ua keys ws k),.dK (Yi (Bp keys ws T qs k)) (Z0 (Bp keys ws T qs k))])=ks.map (Ep keys ws T qs):=rfl;rw[eb]at rb;have SB:=Nd Sh hT ht hq fl hs nd NO;have ut:Ab 48 (.dK (Z3 ks) (ks.map (Ep keys ws T qs))) (.dK (Z3 ks) (ks.map (Ep keys ws T qs)))=aA aC:=yC 47 ⟨nd,by simp⟩ λv hv=>by
  obtain⟨k,hk,rfl⟩:=bd.mp hv;obtain⟨i,hi⟩:=List.getElem?_of_mem hk;have W:=SB.wk i (wkR keys ws T qs k) (by rw[bz,hi];rfl);exact oo 46 _ λx hx=>by
   rcases ba.mp hx with z|z
   .rw[z];exact xj 45 _
   .rw[af.mp z];exact yC 45 ⟨W.nd,by simp⟩ λv hv=>by obtain⟨s,_,rfl⟩:=bd.mp hv;exact xj 44 _
 have CI:Gen.Wv [.dK (Z3 ks) (ks.map (Ep keys ws T qs)),.dK [] [],.lst (ks.map D.str),.tup (Es qs)]=aA (.fz (.str (di NL (ks.map (Bo keys ws T qs))))):=by rw[<-ag];show _=Gen.Wv [.dK (Z3 ks) ((ks.map (wkR keys ws T qs)).map W4),.dK [] [],.lst (ks.map D.str),.tup (Es qs)];rw[b6];rfl
 obtain⟨R,hR⟩:∃R,R=di NL (ks.map (Bo keys ws T qs)):=⟨_,rfl⟩
 rw[<-hR]at wl rb CI;obtain⟨O',TC,WP,WO,lo⟩:=wE Sh hT ht hq fn fl (aA (.fz (.lst (ns.map D.int)))) (aA (.fz (.lst (cs.map D.int)))) (aA (.fz (.lst (ks.map D.str)))) (aA (.fz (.int (t:Int)))) (aA (.fz (.str R))) (aA (.oK (Z3 ks) (ks.map (Ep keys ws T qs)))) ks [] aB aB aB aB hs nd (by simp;omega);rw[cz]at lo;have zc:(cs.map D.int).length<=PySem.sizeLine:=Zn (by rw[ay];omega);have vU:(keys.map D.str).length<=PySem.sizeLine:=Zn (by rw[ay];omega);have pos:0<(if(keys.length:Int) > 1 then(keys.length:Int)else 1):=by split<;> omega
 have mx:QI [.int 1,.int ((keys.map D.str).length:Int)]=aA (.fz (.int (if(keys.length:Int) > 1 then(keys.length:Int)else 1))):=by rw[ay];rfl
 rw[<-ay (as:=cs) (f:=D.int)]at n0;unfold vSt at lo;rw[show Z3 ([]:List Str)=[]from rfl,List.map_nil]at lo;generalize ks.map (Ep keys ws T qs)=DU at*;unfold Qo at*;unfold Wt at*;generalize tkS T=TK,(T.map λq=>D.lst (q.2.map Y9))=TV,ws.map W4=WS,Es qs=DS,S (Yl (Y7 qs))=TX,Z3 ks=IK,Z3 keys=KS,(if(keys.length:Int) > 1 then(keys.length:Int)else 1)=MX at*;clear ag UT;generalize cs.map D.int=CD,ns.map D.int=ND,(keys.drop t).map D.str=K1,(keys.take t).map D.str=K2,keys.map D.str=KD,ks.map D.str=KE,F.map D.str=FD,(t:Int)=TT at*;unfold Gen.MT Gen.H_;refine FH ?_;refine Q6 (δ1:=[aA (.fz (.lst ND)),aA (.ol CD),aB,aB,aB,aB,aB,aB,aB,aB,aB,aB,aB,aB,aB]) ?_ ?_
 .simp[cc]
 refine Q6 (δ1:=[aA (.fz (.lst ND)),aA (.ol CD),aA (.ol KD),aB,aB,aB,aB,aB,aB,aB,aB,aB,aB,aB,aB]) ?_ ?_
 .simp[e0,m0,zc,n0]
 refine Q6 (δ1:=[aA (.fz (.lst ND)),aA (.ol CD),aA (.ol KD),aA (.ol FD),aB,aB,aB,aB,aB,aB,aB,aB,aB,aB,aB]) ?_ ?_
 .simp[e1,m1,n1]
 refine Q6 (δ1:=[aA (.fz (.lst ND)),aA (.ol CD),aA (.ol KD),aA (.fz (.lst FD)),aA (.fz (.dK TK TV)),aB,aB,aB,aB,aB,aB,aB,aB,aB,aB]) ?_ ?_
 .simp[et]
 refine Q6 (δ1:=[aA (.fz (.lst ND)),aA (.fz (.lst CD)),aA (.fz (.lst KD)),aA (.fz (.lst FD)),aA (.fz (.dK TK TV)),aA (.oK KS WS),aB,aB,aB,aB,aB,aB,aB,aB,aB]) ?_ ?_
 .simp[es]
 refine Q6 (δ1:=[aA (.fz (.lst ND)),aA (.fz (.lst CD)),aA (.fz (.lst KD)),aA (.fz (.lst FD)),aA (.fz (.dK TK TV)),aA (.oK KS WS),aA (.fz (.tup DS)),aB,aB,aB,aB,aB,aB,aB,aB]) ?_ ?_
 .simp[e4,en,ex,er]
 refine Q6 (δ1:=[aA (.fz (.lst ND)),aA (.fz (.lst CD)),aA (.fz (.lst KD)),aA (.fz (.lst FD)),aA (.fz (.dK TK TV)),aA (.oK KS WS),aA (.fz (.tup DS)),aA (.fz (.int TT)),aB,aB,aB,aB,aB,aB,aB]) ?_ ?_
 .simp[-QI,e5,vU,mx,ur,pos]
 refine Q6 (δ1:=[aA (.fz (.lst ND)),aA (.fz (.lst CD)),aA (.ol KE),aA (.fz (.lst FD)),aA (.fz (.dK TK TV)),aA (.oK KS WS),aA (.fz (.tup DS)),aA (.fz (.int TT)),aB,aB,aB,aB,aB,aB,aB]) ?_ ?_
 .simp[uz,uy,ka,zk]
 refine Q6 (δ1:=[aA (.fz (.lst ND)),aA (.fz (.lst CD)),aA (.ol KE),aA (.fz (.lst FD)),aA (.fz (.dK TK TV)),aA (.oK KS WS),aA (.fz (.tup DS)),aA (.fz (.int TT)),aA (.fz (.str R)),aB,aB,aB,aB,aB,aB]) ?_ ?_
 .simp[wl,ER]
 refine Q6 (δ1:=[aA (.fz (.lst ND)),aA (.fz (.lst CD)),aA (.ol KE),aA (.fz (.lst FD)),aA (.fz (.dK TK TV)),aA (.oK KS WS),aA (.fz (.tup DS)),aA (.fz (.int TT)),aA (.fz (.str R)),aA (.oK IK DU),aB,aB,aB,aB,aB]) ?_ ?_
 .simp[rb]
 refine Q6 (δ1:=[aA (.fz (.lst ND)),aA (.fz (.lst CD)),aA (.ol KE),aA (.fz (.lst FD)),aA (.fz (.dK TK TV)),aA (.oK KS WS),aA (.fz (.tup DS)),aA (.fz (.int TT)),aA (.fz (.str R)),aA (.oK IK DU),aA (.oK [] []),aB,aB,aB,aB]) ?_ ?_
 .simp
 refine Q6 (δ1:=[aA (.fz (.lst ND)),aA (.fz (.lst CD)),aA (.fz (.lst KE)),aA (.fz (.lst FD)),aA (.fz (.dK TK TV)),aA (.oK KS WS),aA (.fz (.tup DS)),aA (.fz (.int TT)),aA (.fz (.str R)),aA (.oK IK DU),aA (.oK IK DU),O',TC,WP,WO]) ?_ ?_
 .simp[-Yr,lo]
 refine Q6 (δ1:=[aA (.fz (.lst ND)),aA (.fz (.lst CD)),aA (.fz (.lst KE)),aA (.fz (.lst FD)),aA (.fz (.dK TK TV)),aA (.oK KS WS),aA (.fz (.tup DS)),aA (.fz (.int TT)),aA (.fz (.str R)),aA (.oK IK DU),aA (.oK IK DU),O',TC,WP,WO]) ?_ ?_
 .simp[-Ab,ut]
 simp[-Ab,CI,ER]
end My
end
end Lake
open Lake
namespace PySem.W.Fast
def tw8791769945659778818:=()
def tw2518432231124380952:=()
def tw6932393857544779164:=()
def tw8919531625100424867:=()
def tw13556517539459972566:=()
def tw8439003378843144864:=()
def tw5153433525134997227:=()
def tw15780430164048300448:=()
def tw18392800902202889776:=()
def tw13100107435037059746:=()
def tw6484905595746962382:=()
def tw5077721257953659473:=()
def tw1828108377735475653:=()
def tw8851124140465557302:=()
def tw8780425245448448956:=()
def tw17843067587151640446:=()
def tw13326229617058331116:=()
def tw4570880640702420976:=()
def tw9168629815145307435:=()
def tw7233361182027821650:=()
def tw13792947287373633874:=()
def tw18363391668902267459:=()
def tw11814692694956816903:=()
def tw2343972728518173974:=()
def tw2958058015839462075:=()
def tw12206117177777008791:=()
def tw9123226615463753700:=()
def tw10275527134513285485:=()
def tw8344996572876617863:=()
def tw1643909524723203812:=()
def tw1683101195395593682:=()
def tw640811347932307783:=()
def tw6751155132006021875:=()
def tw12923841839193526389:=()
def tw9232496819000789787:=()
def tw2851401976994025245:=()
def tw2242624166004455078:=()
def tw3605029393214087968:=()
def tw3919480432633371335:=()
def tw10974518895107399997:=()
def tw17299419699948392629:=()
def tw12381573312803246130:=()
def tw7546061058171204922:=()
def tw47525028078747280:=()
def tw7778478041614757431:=()
def tw4245258094065154721:=()
def tw4968498721237696558:=()
def tw18109459553073699333:=()
def tw2646068661989260500:=()
def tw12865861618756951411:=()
def tw14851350996395943467:=()
def tw5924523904134760313:=()
def tw9682388375501843424:=()
def tw6905784582711602573:=()
def tw10938520632376442578:=()
def tw15622456693079429306:=()
def tw17943691593015239655:=()
def tw6908935658990556981:=()
def tw11158930025765929629:=()
def tw7821886817706604653:=()
def tw14196404347476533661:=()
def tw6376994535158641832:=()
def tw17111822753277607764:=()
def tw13659697162889557497:=()
def tw11889774774266216815:=()
def tw17274643011388165065:=()
def tw17195623034255524616:=()
def tw2479206975273351855:=()
def tw222632496408234582:=()
def tw10072414211917333911:=()
def tw9196352780731630360:=()
def tw7110174363073318351:=()
def tw5466400643948224403:=()
def tw12227876316857558377:=()
def tw12201961230947979234:=()
def tw15424057992528313173:=()
def tw3107539029500346651:=()
def tw15689027048514783721:=()
def tw7088391319795129339:=()
def tw14882488922039705745:=()
def tw4487123877986623027:=()
def tw14307029456261282179:=()
def tw10601775035371020923:=()
def tw8271495051287764705:=()
def tw5200855737267898162:=()
def tw5981598303532824795:=()
def tw15826542583753925569:=()
def tw8898119067506380532:=()
def tw971773280268345085:=()
def tw9835928049517875723:=()
def tw14280275825075622055:=()
def tw13263454107401124784:=()
def tw16602062074524919614:=()
def tw16003031121238822587:=()
def tw12218016397510661195:=()
def tw1259048612169999240:=()
def tw443445027127998235:=()
def tw3612511847570432933:=()
def tw54717335509253302:=()
def tw8346189393300475422:=()
def tw1470669533522166339:=()
def tw12732973780271096084:=()
def tw11970953709583202796:=()
def tw3188450531982496709:=()
def tw5460952822698727010:=()
def tw13529036541712843995:=()
def tw11733020799193631907:=()
def tw7444933809863866766:=()
def tw10359560577178446650:=()
def tw12403212454676309785:=()
def tw4303452471740271816:=()
def tw7664881885356373662:=()
def tw10046964437500765699:=()
def tw9801025365600828938:=()
def tw2880264281948362760:=()
def tw13601211747653171083:=()
def tw5552012824581980158:=()
def tw11243128937938489686:=()
def tw5679501756894670574:=()
def tw13404006243243605629:=()
def tw9900939654569714834:=()
def tw8057572987765744709:=()
def tw469983939920390758:=()
def tw7155330286441159061:=()
def tw12161906423791181384:=()
def tw10727611745356489005:=()
def tw12101249410549001949:=()
def tw694360758589572994:=()
def tw7338050146456764168:=()
def tw14611669982126034416:=()
def tw14482359218351884858:=()
def tw12821770429831849935:=()
def tw15617098736952699015:=()
def tw18381657325371120853:=()
def tw17879327825827353992:=()
def tw7533553233934484887:=()
def tw17281726221182511962:=()
def tw1311672902126361305:=()
def tw491839811726436826:=()
def tw8573308878528838829:=()
def tw6553842927289963445:=()
def tw11345590972329222495:=()
def tw1084086290454395251:=()
def tw16305783707245160485:=()
def tw8238540747519978162:=()
def tw7752839924504564013:=()
def tw13828524948904137388:=()
def tw4664444408111321767:=()
def tw16838264629797824141:=()
def tw16065649100184722465:=()
def tw6125979629433914381:=()
def tw2297293753007385040:=()
def tw7873019370932758510:=()
def tw7599233527987340433:=()
def tw15672257492143485010:=()
def tw1812069017388537619:=()
def tw6019827719138186787:=()
def tw14194222805645883587:=()
def tw11657303681645422379:=()
def tw9980268335480273702:=()
def tw11940252057467361670:=()
def tw17889215141768238831:=()
def tw11381470458361054046:=()
def tw7385652412781086082:=()
def tw2341462950468310288:=()
def tw8667432779791161536:=()
def tw8169384616186483906:=()
def tw9596703027669475833:=()
def tw2044846296906472106:=()
def tw1474928357297578793:=()
def tw7938785591236933419:=()
def tw7552644974322925085:=()
def tw6828516435696282563:=()
def tw5472553150801467972:=()
def tw14022452675121289244:=()
def tw9045882290398783131:=()
def tw12092890466856716934:=()
def tw18211626398741766971:=()
def tw3580115851891927599:=()
def tw4711569618135524146:=()
def tw12583702004779610561:=()
def tw4951829323616278577:=()
def tw3388385924178160396:=()
def tw13941797296244877207:=()
def tw1891315617786009898:=()
def tw12272227866001491885:=()
def tw14107692712518909703:=()
def tw8175393513786265208:=()
def tw9443694534627126838:=()
def tw7844813364801942582:=()
def tw3407109869817224519:=()
def tw5619053158565776708:=()
def tw18075047055036556132:=()
def tw4946708093055688640:=()
def tw16359242198211264750:=()
def tw8332881653499523653:=()
def tw1379950135175990495:=()
def tw3034142092548541459:=()
def tw12037624734071032550:=()
def tw15733971649515240198:=()
def tw4458167976502229274:=()
def tw15955980750945637485:=()
def tw344424857888294047:=()
def tw950455235123407771:=()
def tw2780687530504657481:=()
def tw17934306501222724300:=()
def tw16054701407194941385:=()
def tw14800531931207658196:=()
def tw2141665263312224814:=()
def tw617891413157598535:=()
def tw13011038605655781690:=()
def tw15645253131732351882:=()
def tw18092498975841551464:=()
def tw10784008121052794347:=()
def tw12036405357127154541:=()
def tw14693097586982035795:=()
def tw2431528388313499860:=()
def tw1835519225743160460:=()
def tw9800042152836782010:=()
def tw16316796577526642353:=()
def tw16525702826414418097:=()
def tw13581495229700060955:=()
def tw991681031507015058:=()
def tw11241587991966182957:=()
def tw13081179306092299685:=()
def tw14115768676138585235:=()
def tw11890879108601232329:=()
def tw10814176667256913960:=()
def tw3954668150789456552:=()
def tw12139076283608851272:=()
def tw558165689606992313:=()
end PySem.W.Fast
open PySem.W
set_option maxRecDepth 100000 in
set_option maxHeartbeats 0 in
theorem PySem.Challenge.cw_citeward_k53_whole_lists_read_back_holds : PySem.Challenge.rw_citeward_k53_whole_lists_read_back.Holds := by
  w_on; o_law; k_head; (case hw => w_witness2)
  k_fill
  refine' L2.cL (l := PySem.Challenge.rw_citeward_k53_whole_lists_read_back) rfl rfl (fun w h Y => PySem.W.kIn_of Y) ⟨rfl, by decide, by decide⟩ My.law_true fun w mg fa h X G m => Gen.dN ?E m
  case E => constructor <;> first | exact PySem.W.mg_of X G | k_is | k_exc | exact PySem.W.mg_none_of X G (by k_is) | exact ⟨_, _, by k_is, L2.dO (by k_is) (by k_is) (by k_is)⟩ | exact ⟨_, by k_is⟩
