import PyProof.Rows.All
import Wide.All
import OpenK.AllK
import Wide.FinOn
import Lean
import PyProof.EqAt
import PyProof.EqKinds
import PyProof.TupleCall
import PyProof.NeKinds
import PyProof.EnumMake
import PyProof.ConsumeWalk
import PyProof.StrWalks
import PyProof.WalksMore
import PyProof.StrLawsNeg
import PySem.Challenge.RW_citeward_k52_what_is_no_list
set_option Elab.async false
set_option linter.all false
set_option genSizeOf false
set_option genSizeOfSpec false
set_option maxRecDepth 100000
set_option maxHeartbeats 4000000
namespace L2
open PySem PySem.Spec PyProof.Rows
noncomputable abbrev Key:=Sum Int Str
noncomputable def Ze6:Key→Value→Bool
 | .inl k,v=>Value.isInt k v
 | .inr x,v=>Value.isStrOf x v
noncomputable def keyH(w:World):Key→Int
 | .inl k=>hashInt k
 | .inr x=>hashStr w x
theorem Z0:∀{k:Key} {v:Value},Ze6 k v=true→(∃i t,k=Sum.inl i∧v=Value.int i t)∨(∃x t,k=Sum.inr x∧v=Value.str x t)
 | .inl i,v,h=>by
  obtain⟨t,e⟩:=Value.isInt_shape (k:=i) (v:=v) h
  exact .inl ⟨i,t,rfl,e⟩
 | .inr x,v,h=>by
  obtain⟨t,e⟩:=Value.isStrOf_shape (x:=x) (v:=v) h
  exact .inr ⟨x,t,rfl,e⟩
theorem Zni(i:Int)(t:Tok):Ze6 (.inl i) (.int i t)=true:=by simp[Ze6,Value.isInt]
theorem Znj(x:Str)(t:Tok):Ze6 (.inr x) (.str x t)=true:=by simp[Ze6,Value.isStrOf]
theorem Zxh(a b:Int):decide ((Sum.inl a:Key)=Sum.inl b)=(a==b):=by
 by_cases e:a=b
 ·subst e;simp
 ·have h:¬(Sum.inl a:Key)=Sum.inl b:=fun q=>e (Sum.inl.inj q)
  rw[decide_eq_false h]
  exact(beq_eq_false_iff_ne.mpr e).symm
theorem Zxi(a b:Str):decide ((Sum.inr a:Key)=Sum.inr b)=decide (a=b):=by
 by_cases e:a=b
 ·subst e;simp
 ·have h:¬(Sum.inr a:Key)=Sum.inr b:=fun q=>e (Sum.inr.inj q)
  rw[decide_eq_false h,decide_eq_false e]
theorem Zxj(a:Int)(b:Str):decide ((Sum.inl a:Key)=Sum.inr b)=false:=decide_eq_false (fun q=>nomatch q)
theorem Zxk(a:Str)(b:Int):decide ((Sum.inr a:Key)=Sum.inl b)=false:=decide_eq_false (fun q=>nomatch q)
noncomputable def Zz(prog:Program)(w:World):PySem.KeyKind prog w Key where
 is:=Ze6
 hash:=keyH w
 inj:=fun v a b ha hb=>by
  rcases Z0 ha with⟨i,t,rfl,rfl⟩|⟨x,t,rfl,rfl⟩
  ·rcases Z0 hb with⟨j,u,rfl,e⟩|⟨y,u,rfl,e⟩
   ·injection e with e1 _;rw[e1]
   ·exact nomatch e
  ·rcases Z0 hb with⟨j,u,rfl,e⟩|⟨y,u,rfl,e⟩
   ·exact nomatch e
   ·injection e with e1 _;rw[e1]
 byValue:=fun k v h=>by
  rcases Z0 h with⟨i,t,rfl,rfl⟩|⟨x,t,rfl,rfl⟩<;> rfl
 pyHash:=fun hv h=>by
  rcases Z0 hv with⟨i,t,rfl,rfl⟩|⟨x,t,rfl,rfl⟩
  ·exact wpAny_pyHash_int h
  ·exact wpAny_pyHash_str h
 eqBool:=fun hu hv h=>by
  rcases Z0 hu with⟨i,t,rfl,rfl⟩|⟨x,t,rfl,rfl⟩
  ·rcases Z0 hv with⟨j,u,rfl,rfl⟩|⟨y,u,rfl,rfl⟩
   ·rw[Zxh]at h;exact wpAny_eqBool_int h
   ·rw[Zxj]at h;exact SeqAt.EqAt.int_str i t y u _ _ _ _ h
  ·rcases Z0 hv with⟨j,u,rfl,rfl⟩|⟨y,u,rfl,rfl⟩
   ·rw[Zxk]at h;exact SeqAt.EqAt.str_int x t j u _ _ _ _ h
   ·rw[Zxi]at h;exact wpAny_eqBool_str h
 «strs»:=fun k x t v h=>by
  rcases Z0 h with⟨i,u,rfl,e⟩|⟨y,u,rfl,e⟩
  ·exact nomatch e
  ·injection e with e1 _
   subst e1
   cases v<;> rfl
theorem Zxd(prog:Program)(w:World)(k:Key)(v:Value):(Zz prog w).is k v=Ze6 k v:=rfl
theorem Zjo(prog:Program)(w:World)(i:Int)(t:Tok):(Zz prog w).is (.inl i) (.int i t)=true:=Zni i t
theorem Zjp(prog:Program)(w:World)(x:Str)(t:Tok):(Zz prog w).is (.inr x) (.str x t)=true:=Znj x t
end L2
namespace L2
open PySem PySem.Spec PyProof.Rows
inductive V where
 |non|bl (b:Bool)|int (i:Int)|str (x:Str)|byt (b:Array UInt8)|flt (b:UInt64)|ref (a:Addr)|ty (n:String)
 deriving DecidableEq
noncomputable def RelV:V→Value→Prop
 | .non,u=>u=Value.none
 | .bl b,u=>u=Value.bool b
 | .int i,u=>∃t,u=Value.int i t
 | .str x,u=>∃t,u=Value.str x t
 | .byt b,u=>∃t,u=Value.bytes b t
 | .flt b,u=>∃t,u=Value.float b t
 | .ref a,u=>u=Value.ref a
 | .ty n,u=>u=Value.type n
noncomputable abbrev Vals:List V→List Value→Prop:=Paired RelV
theorem Vals.length{xs:List V}{us:List Value}(r:Vals xs us):xs.length=us.length:=Paired.length r
theorem Vals.get:∀{xs:List V} {us:List Value} {i:Nat} {x:V},Vals xs us→xs[i]? =some x→∃u,us[i]? =some u∧RelV x u
 |_,_,_,_,.nil,e=>by simp at e
 |_,_,0,_,.cons r _,e=>by simp at e;subst e;exact⟨_,rfl,r⟩
 |_,_,i+1,x,.cons _ t,e=>by
  obtain⟨u,h1,h2⟩:=Vals.get (i:=i) (x:=x) t (by simpa using e)
  exact⟨u,by simpa using h1,h2⟩
theorem Vals.append:∀{xs ys:List V} {us ws:List Value},Vals xs us→Vals ys ws→Vals (xs++ys) (us++ws)
 |_,_,_,_,.nil,s=>s
 |_,_,_,_,.cons r t,s=>.cons r (Vals.append t s)
theorem Vals.take:∀{xs:List V} {us:List Value} (n:Nat),Vals xs us→Vals (xs.take n) (us.take n)
 |_,_,0,_=>.nil
 |_,_,_+1,.nil=>.nil
 |_,_,n+1,.cons r t=>.cons r (Vals.take n t)
theorem Vals.drop:∀{xs:List V} {us:List Value} (n:Nat),Vals xs us→Vals (xs.drop n) (us.drop n)
 |_,_,0,r=>r
 |_,_,_+1,.nil=>.nil
 |_,_,n+1,.cons _ t=>Vals.drop n t
theorem Vals.none_of:∀{xs:List V} {us:List Value} {i:Nat},Vals xs us→xs[i]? =none→us[i]? =none:=fun{xs us i} r e=>by
 have h1:=r.length
 have h2:xs.length≤i:=List.getElem?_eq_none_iff.mp e
 exact List.getElem?_eq_none_iff.mpr (by omega)
noncomputable def RelO:Option V→Option Value→Prop
 |some v,some u=>RelV v u
 |none,none=>True
 |_,_=>False
noncomputable def KV{κ:Type}:List (κ×V)→List (κ×Value)→Prop:=Paired fun(p:κ×V) (q:κ×Value)=>p.1=q.1∧RelV p.2 q.2
noncomputable def kV:Key→V
 | .inl i=>.int i
 | .inr x=>.str x
inductive HO where
 |lst (xs:List V)
 |tup (xs:List V)
 |dK (kvs:List (Key×V)) (ep:Nat)|dT (kvs:List (List Key×V)) (ep:Nat) (bs:List Addr)
 |set (S:Int→Bool) (n:Nat)
 |ins (C dx:Addr) (fs:List (Str×V))
 |own (x:Addr)
 |xd (fs:List (Str×V))
 |met (f x:Addr)
 |rng (lo hi:Int)
 |frz (o:Obj) (u:HO)
 |tbl (ps:Array Value)
 |ext (φ:Heap→Prop)
noncomputable abbrev Hp:=Addr→Option HO
noncomputable def upd(H:Hp)(a:Addr)(o:HO):Hp:=fun b=>if b=a then some o else H b
theorem Zy{H:Hp}{a:Addr}{o:HO}:upd H a o a=some o:=by unfold upd;rw[if_pos rfl]
theorem Zr{H:Hp}{a b:Addr}{o:HO}(h:b≠a):upd H a o b=H b:=by unfold upd;rw[if_neg h]
theorem Z1z{H:Hp}{a b:Addr}{o u:HO}(h:H a=some o)(h':H b=some u)(d:o≠u):a≠b:=by
 intro e;subst e;rw[h]at h';exact d (Option.some.inj h')
theorem Zam{H:Hp}{a b:Addr}{o:HO}(h:H a=some o)(h':H b=none):a≠b:=by
 intro e;subst e;rw[h]at h';cases h'
section
variable(P:Program)(w:World)
noncomputable def Zbf(H:Hp)(h:Heap)(a:Addr):HO→Prop
 | .lst xs=>xs.length≤sizeLine∧∃(its:List Value) (n:Nat),Vals xs its∧h.get? a=some {cls:=.type "list",data:=.seq its.toArray n}
 | .tup xs=>xs.length≤sizeLine∧∃its:List Value,Vals xs its∧IsTup h a its.toArray
 | .dK kvs ep=>kvs.length≤sizeLine∧(a==sysModules)=false∧∃vs,KV kvs vs∧h.DictAt (Zz P w) a vs ep
 | .dT kvs ep bs=>kvs.length≤sizeLine∧(a==sysModules)=false∧∃xs:List (List Key×Addr×Value),
   Paired (fun(p:List Key×V) (q:List Key×Addr×Value)=>p.1=q.1∧H q.2.1=some (.tup (p.1.map kV))∧RelV p.2 q.2.2) kvs xs∧
   ∃o es,h.get? a=some o∧o.ExactDict∧o.data= .dict es ep∧es.toList=xs.map (entryOfKey (tupleKind (Zz P w)))∧(xs.map (·.1)).Nodup∧(xs.map fun x=>x.2.1)=bs
 | .set S n=>h.SetOf (intKind P w) a S n
 | .ins C dx fs=>H dx=some (.own a)∧fs.length≤1000∧dx≠a∧h.get? a=some (PySem.W.instObj C dx)∧
   ∃mA,h.Ns1 dx mA∧(∀f,RelO (fs.lookup f) (mA f))∧PySem.Within mA (fs.map (·.1))
 | .own _=>∃o,h.get? a=some o
 | .xd fs=>∃mA,h.Ns1 a mA∧∀f,RelO (fs.lookup f) (mA f)
 | .rng lo hi=>∃t u v,h.get? a=some {cls:=.type "range",data:=.fields #[.int lo t,.int hi u,.int 1 v]}
 | .frz o u=>h.get? a=some o∧Zbf H h a u
 | .tbl ps=>h.get? a=some {cls:=.none,data:=.fields ps}
 | .met f x=>h.get? a=some (PySem.W.methodObj (.ref f) (.ref x))
 | .ext φ=>φ h∧(∃o,h.get? a=some o)∧∀h1 h2:Heap,φ h1→(∀o,h1.get? a=some o→h2.get? a=some o)→φ h2
noncomputable def HOk(H:Hp)(h:Heap):Prop:=∀a o,H a=some o→Zbf P w H h a o
end
section
variable{P:Program}{w:World}{H H':Hp}{h h':Heap}{a:Addr}{o:HO}
theorem Zbf.lt(x:Zbf P w H h a o):a<h.objs.size:=by
 cases o with
 |lst xs=>obtain⟨_,_,_,_,e⟩:=x;exact Heap.lt_size e
 |tup xs=>obtain⟨_,_,_,p⟩:=x;exact p.lt
 |dK kvs ep=>obtain⟨_,_,_,_,o,_,e,_⟩:=x;exact Heap.lt_size e
 |dT kvs ep bs=>obtain⟨_,_,_,_,o,_,e,_⟩:=x;exact Heap.lt_size e
 |set S n=>obtain⟨o,_,_,_,e,_⟩:=x;exact Heap.lt_size e
 |ins C dx fs=>obtain⟨_,_,_,e,_⟩:=x;exact Heap.lt_size e
 |own y=>obtain⟨_,e⟩:=x;exact Heap.lt_size e
 |xd fs=>obtain⟨_,⟨_,_,_,e,_⟩,_⟩:=x;exact Heap.lt_size e
 |rng lo hi=>obtain⟨_,_,_,e⟩:=x;exact Heap.lt_size e
 |frz ob u=>obtain⟨e,_⟩:=x;exact Heap.lt_size e
 |tbl ps=>exact Heap.lt_size (show h.get? a=some _ from x)
 |met f y=>exact Heap.lt_size (show h.get? a=some _ from x)
 |ext φ=>obtain⟨_,⟨_,e⟩,_⟩:=x;exact Heap.lt_size e
theorem Paired.mapP{α β:Type}{F G:α→β→Prop}{l₁:List α}{l₂:List β}(h:Paired F l₁ l₂)(f:∀a b,F a b→G a b):Paired G l₁ l₂:=by
 induction h with
 |nil=>exact .nil
 |cons r _ ih=>exact .cons (f _ _ r) ih
theorem Zbf.stay(x:Zbf P w H h a o)(k:∀b u,(b=a∨H b=some (.own a))→h.get? b=some u→h'.get? b=some u)
  (ho:∀b,H b=some (.own a)→H' b=some (.own a)) (ht:∀b xs,H b=some (.tup xs)→H' b=some (.tup xs)):Zbf P w H' h' a o:=by
 induction o with
 |lst xs=>obtain⟨z,its,n,r,e⟩:=x;exact⟨z,its,n,r,k _ _ (.inl rfl) e⟩
 |tup xs=>obtain⟨z,its,r,ob,e,c⟩:=x;exact⟨z,its,r,ob,k _ _ (.inl rfl) e,c⟩
 |dK kvs ep=>obtain⟨z,y,vs,r,ob,es,e,c⟩:=x;exact⟨z,y,vs,r,ob,es,k _ _ (.inl rfl) e,c⟩
 |dT kvs ep bs=>
  obtain⟨z,y,xs,r,ob,es,e,c⟩:=x
  exact⟨z,y,xs,Paired.mapP r fun p q z=>⟨z.1,ht _ _ z.2.1,z.2.2⟩,ob,es,k _ _ (.inl rfl) e,c⟩
 |set S n=>obtain⟨ob,es,ep,t,e,c⟩:=x;exact⟨ob,es,ep,t,k _ _ (.inl rfl) e,c⟩
 |ins C dx fs=>
  obtain⟨d,z,ne,e,mA,⟨od,es,ep,e2,c⟩,r⟩:=x
  exact⟨ho _ d,z,ne,k _ _ (.inl rfl) e,mA,⟨od,es,ep,k _ _ (.inr d) e2,c⟩,r⟩
 |own y=>obtain⟨ob,e⟩:=x;exact⟨ob,k _ _ (.inl rfl) e⟩
 |xd fs=>obtain⟨mA,⟨od,es,ep,e,c⟩,r⟩:=x;exact⟨mA,⟨od,es,ep,k _ _ (.inl rfl) e,c⟩,r⟩
 |rng lo hi=>obtain⟨t,u,v,e⟩:=x;exact⟨t,u,v,k _ _ (.inl rfl) e⟩
 |frz ob u ih=>obtain⟨e,q⟩:=x;exact⟨k _ _ (.inl rfl) e,ih q⟩
 |tbl ps=>
  have e:h.get? a=some {cls:=.none,data:=.fields ps}:=x
  show h'.get? a=some {cls:=.none,data:=.fields ps}
  exact k a _ (.inl rfl) e
 |met f y=>
  have e:h.get? a=some (PySem.W.methodObj (.ref f) (.ref y)):=x
  show h'.get? a=some (PySem.W.methodObj (.ref f) (.ref y))
  exact k a _ (.inl rfl) e
 |ext φ=>obtain⟨p,⟨o,e⟩,st⟩:=x;exact⟨st _ _ p fun o q=>k _ _ (.inl rfl) q,⟨o,k _ _ (.inl rfl) e⟩,st⟩
theorem HOk.lt(x:HOk P w H h)(e:H a=some o):a<h.objs.size:=(x a o e).lt
theorem HOk.fresh(x:HOk P w H h)(e:h.objs.size≤a):H a=none:=by
 cases q:H a with
 |none=>rfl
 |some u=>exact absurd (Nat.lt_of_lt_of_le (x.lt q) e) (Nat.lt_irrefl _)
theorem HOk.kept(x:HOk P w H h)(k:∀b u,h.get? b=some u→h'.get? b=some u):HOk P w H h':=fun a o e=>
 (x a o e).stay (fun b u _ q=>k b u q) (fun _ q=>q) fun _ _ q=>q
theorem HOk.laid(x:HOk P w H h)(k:∀b u,h.get? b=some u→h'.get? b=some u)(hp:h.objs.size≤a)(new:Zbf P w (upd H a o) h' a o):HOk P w (upd H a o) h':=fun b u e=>by
 have hn:=x.fresh hp
 by_cases hb:b=a
 ·subst hb;rw[Zy]at e;cases e;exact new
 ·rw[Zr hb]at e
  exact(x b u e).stay (fun c v _ q=>k c v q) (fun c q=>by rw[Zr (Zam q hn)];exact q) fun c xs q=>by rw[Zr (Zam q hn)];exact q
end
noncomputable def Rd(H:Hp)(a:Addr)(u:HO):Prop:=H a=some u∨∃o,H a=some (.frz o u)
theorem Rd.ok{P:Program}{w:World}{H:Hp}{h:Heap}{a:Addr}{u:HO}(r:Rd H a u)(x:HOk P w H h):Zbf P w H h a u:=by
 rcases r with r|⟨o,r⟩
 ·exact x a u r
 ·obtain⟨_,q⟩:=x a _ r
  exact q
noncomputable def HK(H:Hp)(a:Addr)(kvs:List (Key×V)):Prop:=∃ep,H a=some (.dK kvs ep)
noncomputable def HTt(H:Hp)(a:Addr)(kvs:List (List Key×V)):Prop:=∃ep bs,H a=some (.dT kvs ep bs)
noncomputable def RdK(H:Hp)(a:Addr)(kvs:List (Key×V)):Prop:=∃ep,Rd H a (.dK kvs ep)
noncomputable def RdT(H:Hp)(a:Addr)(kvs:List (List Key×V)):Prop:=∃ep bs,Rd H a (.dT kvs ep bs)
theorem HK.rd{H:Hp}{a:Addr}{kvs:List (Key×V)}(h:HK H a kvs):RdK H a kvs:=let⟨ep,h⟩:=h;⟨ep,.inl h⟩
noncomputable def putB(kvs:List (List Key×V))(bs:List Addr)(k:List Key)(b:Addr):List Addr:=if(kvs.any fun kv=>decide (kv.1=k))=true then bs else bs++[b]
theorem HTt.rd{H:Hp}{a:Addr}{kvs:List (List Key×V)}(h:HTt H a kvs):RdT H a kvs:=let⟨ep,bs,h⟩:=h;⟨ep,bs,.inl h⟩
noncomputable def Mut:Option HO→Prop
 |some (.lst _)=>True
 |some (.dK _ _)=>True
 |some (.dT _ _ _)=>True
 |some (.set _ _)=>True
 |some (.ins _ _ _)=>True
 |some (.ext _)=>True
 |_=>False
section
variable{P:Program}{w:World}{H:Hp}{h h':Heap}{x e:Addr}{o':HO}
theorem HOk.write(ok:HOk P w H h)(mu:Mut (H x))(he:e=x∨H e=some (.own x))(k:∀b u,b≠e→h.get? b=some u→h'.get? b=some u)(heo:∃u,h'.get? e=some u)
  (new:Zbf P w (upd H x o') h' x o'):HOk P w (upd H x o') h':=fun b u q=>by
 have nown:∀c y,H c=some (.own y)→c≠x:=fun c y r z=>by subst z;rw[r]at mu;exact mu
 have ntup:∀c xs,H c=some (.tup xs)→c≠x:=fun c xs r z=>by subst z;rw[r]at mu;exact mu
 by_cases hb:b=x
 ·subst hb;rw[Zy]at q;cases q;exact new
 ·rw[Zr hb]at q
  by_cases hbe:b=e
  ·have q':H b=some (.own x):=by
    rcases he with z|z
    ·exact absurd (hbe.trans z) hb
    ·rw[hbe];exact z
   rw[q]at q';cases q'
   obtain⟨v,hv⟩:=heo
   exact⟨v,by rw[hbe];exact hv⟩
  ·refine(ok b u q).stay (fun c v hc r=>k c v ?_ r) (fun c r=>by rw[Zr (nown c b r)];exact r) fun c xs r=>by rw[Zr (ntup c xs r)];exact r
   rcases hc with rfl|hc
   ·exact hbe
   ·rintro rfl
    rcases he with z|z
    ·exact nown c b hc z
    ·rw[hc]at z;cases z;exact hb rfl
end
structure Un(fs ex:List Addr)(H H':Hp)(h h':Heap):Prop where
 keep:∀b o,h.get? b=some o→H b=none→b∉fs→b∉ex→h'.get? b=some o
 slot:∀b o,h.get? b=some o→H b=none→b∈fs→b∉ex→∃sl,h'.get? b=some {o with slots:=sl}
 free:∀b o,h.get? b=some o→H b=none→b∉ex→H' b=none
 there:∀b o,h.get? b=some o→b∉ex→∃o',h'.get? b=some o'
 tups:∀b xs,H b=some (.tup xs)→H' b=some (.tup xs)
 frzs:∀b o u,H b=some (.frz o u)→H' b=some (.frz o u)
 tbls:∀b ps,H b=some (.tbl ps)→∃more,H' b=some (.tbl (ps++more))
section
variable{fs fs' ex ex':List Addr}{H H1 H2:Hp}{h h1 h2 h':Heap}{a x e:Addr}{o:HO}
theorem Un.any(u:Un fs ex H H1 h h1){b:Addr}{ob:Obj}(q:h.get? b=some ob)(n:H b=none)(hx:b∉ex):∃sl,h1.get? b=some {ob with slots:=sl}:=by
 by_cases hb:b∈fs
 ·exact u.slot b ob q n hb hx
 ·exact⟨ob.slots,u.keep b ob q n hb hx⟩
theorem Un.kept(k:∀b u,h.get? b=some u→h'.get? b=some u):Un fs ex H H h h':=
 ⟨fun b ob q _ _ _=>k b ob q,fun b ob q _ _ _=>⟨ob.slots,k b ob q⟩,fun _ _ _ n _=>n,fun b ob q _=>⟨ob,k b ob q⟩,fun _ _ q=>q,fun _ _ _ q=>q,fun _ ps q=>⟨#[],by rw[q];simp⟩⟩
theorem Un.refl:Un fs ex H H h h:=Un.kept fun _ _ q=>q
theorem Un.laid(k:∀b u,h.get? b=some u→h'.get? b=some u)(hp:h.objs.size≤a)(hn:H a=none):Un fs ex H (upd H a o) h h' where
 keep:=fun b u q _ _ _=>k b u q
 slot:=fun b u q _ _ _=>⟨u.slots,k b u q⟩
 free:=fun b u q n _=>by rw[Zr (Nat.ne_of_lt (Nat.lt_of_lt_of_le (Heap.lt_size q) hp))];exact n
 there:=fun b u q _=>⟨u,k b u q⟩
 tups:=fun b xs q=>by rw[Zr (Zam q hn)];exact q
 frzs:=fun b u xs q=>by rw[Zr (Zam q hn)];exact q
 tbls:=fun b ps q=>⟨#[],by rw[Zr (Zam q hn),q];simp⟩
theorem Un.write(mu:Mut (H x))(he:e=x∨H e=some (.own x))(k:∀b u,b≠e→h.get? b=some u→h'.get? b=some u)(heo:∃u,h'.get? e=some u):Un fs ex H (upd H x o) h h':=by
 have hx:∀b,H b=none→b≠x:=fun b n z=>by subst z;rw[n]at mu;exact mu
 have hb:∀b,H b=none→b≠e:=fun b n z=>by
  subst z
  rcases he with r|r
  ·exact hx b n r
  ·rw[n]at r;cases r
 have hm:∀b u,H b=some u→¬Mut (some u)→b≠x:=fun b u q nm z=>by subst z;rw[q]at mu;exact nm mu
 refine⟨fun b u q n _ _=>k b u (hb b n) q,fun b u q n _ _=>⟨u.slots,k b u (hb b n) q⟩,fun b u q n _=>by rw[Zr (hx b n)];exact n,fun b u q _=>?_,
  fun b xs q=>by rw[Zr (hm b _ q fun z=>z)];exact q,fun b u xs q=>by rw[Zr (hm b _ q fun z=>z)];exact q,fun b ps q=>⟨#[],by rw[Zr (hm b _ q fun z=>z),q];simp⟩⟩
 by_cases hbe:b=e
 ·subst hbe;exact heo
 ·exact⟨u,k b u hbe q⟩
end
noncomputable def trk(h:Heap)(H:Hp):List Addr:=(List.range h.objs.size).filter fun a=>(H a).isSome
noncomputable def hidT(h:Heap)(H:Hp):Heap:=PySem.W.hideAll h (trk h H)
theorem Znk(h:Heap)(H:Hp):(hidT h H).objs.size=h.objs.size:=PySem.W.hideAll_size _ _
theorem Zq0{h:Heap}{H:Hp}{b:Addr}{o:Obj}(e:h.get? b=some o)(n:H b=none):(hidT h H).get? b=some o:=
 PySem.W.hideAll_get _ e fun hm=>by
  have q:(H b).isSome=true:=(List.mem_filter.mp hm).2
  rw[n]at q;simp at q
theorem Zui{h:Heap}{H:Hp}{b:Addr}{o:Obj}(e:(hidT h H).get? b=some o):h.get? b=some o∧H b=none:=by
 have e':h.get? b=some o:=PySem.W.of_hideAll (trk h H) e
 refine⟨e',?_⟩
 cases q:H b with
 |none=>rfl
 |some x=>
  have hm:b∈trk h H:=List.mem_filter.mpr ⟨List.mem_range.mpr (Heap.lt_size e'),by simp[q]⟩
  have z:(hidT h H).get? b=none:=PySem.W.hideAll_none (trk h H) hm
  rw[z]at e;cases e
noncomputable def Zuj(g h:Heap)(L:Addr):List (Addr×Obj):=(List.range h.objs.size).filterMap fun a=>if a=L∨(g.get? a).isSome=true then none else(h.get? a).map fun o=>(a,o)
noncomputable def rest(g h:Heap)(L d:Addr):List (Addr×Obj):=(Zuj g h L).filter fun p=>decide (p.1≠d)
end L2
namespace L2
open PySem PySem.Spec PyProof.Rows
structure Mod(K:PySem.W.Frag)(mg:Str→Option Value)(base:Heap):Prop where
 kin:K.In base
 glob:base.Ns mainGlobals mg
 blt:∃mb,base.Ns builtinsNs mb∧∀x:Str,x≠"__name__"→mb x=bootBuiltins x
 nolimit:base.NoLimit
set_option genInjectivity false in
structure Cx where
 prog:Program
 w:World
 K:PySem.W.Frag
 mg:Str→Option Value
 base:Heap
 A:Around
 N:List Str
 s₀:Shared
 H₀:Hp
 env:Env
 outer:List Env
 stack:List Env
 ex:List Addr
 fn:Str→Bool
 calm:Bool
 pn:List (Addr×Obj)
 xe:Value→Shared→Prop
noncomputable def frs(l:List Env):List Addr:=l.filterMap (·.frame)
noncomputable abbrev Cx.fs(X:Cx):List Addr:=frs X.outer
noncomputable def Vis(sc:Scope)(x:Str):Prop:=sc.names.lookup x=some .local∨sc.names.lookup x=some .cell∨sc.names.lookup x=some .free
noncomputable def Loc(sc:Scope)(x:Str):Prop:=sc.names.lookup x=some .local∨sc.names.lookup x=some .cell
noncomputable def Look(env:Env)(h:Heap)(m:Str→Option Value)(x:Str)(u:Value):Prop:=
 (env.kindOf x=some .local∧m x=some u)∨((env.kindOf x=some .cell∨env.kindOf x=some .free)∧∃c,env.cells.lookup x=some c∧h.IsCell c (some u))
set_option genInjectivity false in
structure Cx.Ok(X:Cx):Prop where
 mod:Mod X.K X.mg X.base
 kind:X.env.scope.kind= .function
 glob:X.env.globals=mainGlobals
 blt:X.env.builtins=builtinsNs
 above:X.s₀.heap.objs.size≤X.env.locals
 inj:∀x y c,X.env.cells.lookup x=some c→X.env.cells.lookup y=some c→x=y
 has:∀x,(X.env.kindOf x=some .cell∨X.env.kindOf x=some .free)→∃c,X.env.cells.lookup x=some c
 cab:∀x c,X.fn x=true→X.env.cells.lookup x=some c→X.s₀.heap.objs.size≤c
 hd:X.calm=true→X.A.handled=none
 frames:X.A.frames=some X.stack
 stk:X.stack=X.outer∨(X.stack=X.env::X.outer∧X.env.frame=some X.env.locals)
 exf:∀b∈X.ex,b≠X.env.locals∧∀x c,X.env.cells.lookup x=some c→c≠b
 bs:∀b o,X.base.get? b=some o→X.s₀.heap.get? b=some o∧X.H₀ b=none
 bsz:X.base.objs.size≤X.s₀.heap.objs.size
 noex:∀b o,X.base.get? b=some o→b∉X.ex
 exfs:∀b∈X.ex,b∉X.fs
 funs:X.s₀.heap.FunFrames X.base X.outer
 frf:∀b∈X.fs,X.H₀ b=none
structure Inv(X:Cx)(pins:List (Addr×Obj))(σ:List (Option V))(H:Hp)(s:Shared):Prop where
 ok:X.Ok
 os:s.os=X.s₀.os
 bare:AllBare s.gens
 base:Un X.fs X.ex X.H₀ H X.s₀.heap s.heap
 loc:∃m,s.heap.Ns X.env.locals m∧∀(i:Nat) (x:Str) (v:V),X.N[i]? =some x→σ[i]? =some (some v)→Vis X.env.scope x→∃u,RelV v u∧Look X.env s.heap m x u
 cell:∀x c,X.env.cells.lookup x=some c→∃v,s.heap.IsCell c v
 free:H X.env.locals=none
 freeC:∀x c,X.env.cells.lookup x=some c→H c=none
 pin:∀p∈X.pn++pins,s.heap.get? p.1=some p.2∧H p.1=none∧p.1≠X.env.locals∧p.1∉X.fs∧∀v,p.2.data≠.cell v
 hok:HOk X.prog X.w H s.heap
 len:σ.length=X.N.length
section
variable{X:Cx}{pins:List (Addr×Obj)}{σ:List (Option V)}{H H':Hp}{s:Shared}{h':Heap}
theorem Cx.Ok.nofr(ok:X.Ok){b:Addr}{o:Obj}(e:X.base.get? b=some o):b∉X.fs:=fun hb=>by
 have:=(ok.funs.mem hb).1
 rw[e]at this;cases this
theorem Inv.bs(I:Inv X pins σ H s):∀b o,X.base.get? b=some o→s.heap.get? b=some o∧H b=none:=fun b o e=>
 ⟨I.base.keep b o (I.ok.bs b o e).1 (I.ok.bs b o e).2 (I.ok.nofr e) (I.ok.noex b o e),I.base.free b o (I.ok.bs b o e).1 (I.ok.bs b o e).2 (I.ok.noex b o e)⟩
theorem Inv.bk(I:Inv X pins σ H s):∀b o,X.base.get? b=some o→s.heap.get? b=some o:=fun b o e=>(I.bs b o e).1
theorem Inv.mod(I:Inv X pins σ H s):Mod X.K X.mg X.base:=I.ok.mod
theorem Inv.kIn(I:Inv X pins σ H s):X.K.In s.heap:=I.ok.mod.kin.keeps I.bk
theorem Inv.lt(I:Inv X pins σ H s):X.env.locals<s.heap.objs.size:=let⟨_,hn,_⟩:=I.loc;hn.lt
theorem Inv.sz(I:Inv X pins σ H s):X.s₀.heap.objs.size≤s.heap.objs.size:=Nat.le_trans I.ok.above (Nat.le_of_lt I.lt)
theorem Inv.nofs(I:Inv X pins σ H s){a:Addr}(h:s.heap.objs.size≤a):a∉X.fs:=fun hb=>by
 obtain⟨_,o,ho,_⟩:=I.ok.funs.mem hb
 exact absurd (Nat.lt_of_lt_of_le (Heap.lt_size ho) (Nat.le_trans I.sz h)) (Nat.lt_irrefl _)
theorem Inv.cne(I:Inv X pins σ H s):∀x c,X.env.cells.lookup x=some c→c≠X.env.locals:=fun x c e z=>by
 obtain⟨v,o,ho,hd⟩:=I.cell x c e
 obtain⟨m,⟨o',es,ep,ho',hd',_⟩,_⟩:=I.loc
 rw[z,ho']at ho;cases ho;rw[hd']at hd;cases hd
theorem Inv.funs(I:Inv X pins σ H s):s.heap.FunFrames X.base X.outer:=by
 have all:∀(l:List Env),(∀b∈frs l,b∈X.fs)→X.s₀.heap.FunFrames X.base l→s.heap.FunFrames X.base l:=by
  intro l
  induction l with
  |nil=>intro _ _;trivial
  |cons env r ih=>
   intro hs hl
   obtain⟨hk,⟨L,o,hf,hn,ho,hd⟩,hr⟩:=hl
   have hL:L∈X.fs:=hs L (by unfold frs;rw[List.filterMap_cons,hf];exact List.mem_cons_self)
   obtain⟨sl,e⟩:=I.base.slot L o ho (I.ok.frf L hL) hL fun z=>I.ok.exfs L z hL
   exact⟨hk,⟨L,_,hf,hn,e,hd⟩,ih (fun b hb=>hs b (by unfold frs;rw[List.filterMap_cons,hf];exact List.mem_cons_of_mem _ hb)) hr⟩
 exact all X.outer (fun _ hb=>hb) I.ok.funs
theorem Inv.stack(I:Inv X pins σ H s):s.heap.FunFrames X.base X.stack:=by
 rcases I.ok.stk with e|⟨e,hf⟩
 ·rw[e];exact I.funs
 ·rw[e]
  obtain⟨m,hn,_⟩:=I.loc
  refine .cons (by rw[I.ok.kind];decide) hf hn ?_ I.funs
  exact Heap.get?_none_of_le (Nat.le_trans I.ok.bsz I.ok.above)
theorem Inv.stkSub(I:Inv X pins σ H s):∀b∈frs X.stack,b∈X.env.locals::X.fs:=fun b hb=>by
 rcases I.ok.stk with e|⟨e,hf⟩
 ·rw[e]at hb;exact List.mem_cons_of_mem _ hb
 ·rw[e]at hb
  unfold frs at hb
  rw[List.filterMap_cons,hf]at hb
  exact hb
theorem Inv.stkFree(I:Inv X pins σ H s):∀b∈frs X.stack,H b=none:=fun b hb=>by
 rcases List.mem_cons.mp (I.stkSub b hb)with e|hb
 ·rw[e];exact I.free
 ·obtain⟨_,o,ho,_⟩:=I.ok.funs.mem hb
  exact I.base.free b o ho (I.ok.frf b hb) fun z=>I.ok.exfs b z hb
theorem Inv.step{g':Array GenState}{t':Nat}{d':Drawn}{ch:List Addr}(I:Inv X pins σ H s)
  (hch:∀b∈ch,(b∈X.ex∨X.s₀.heap.objs.size≤b)∧b≠X.env.locals∧(∀x c,X.env.cells.lookup x=some c→c≠b)∧∀p∈X.pn++pins,p.1≠b)
  (keep:∀b o,b≠X.env.locals→b∉X.fs→b∉ch→s.heap.get? b=some o→H b=none→h'.get? b=some o)
  (slot:∀b o,b≠X.env.locals→b∈X.fs→b∉ch→s.heap.get? b=some o→H b=none→∃sl,h'.get? b=some {o with slots:=sl}) (free:∀b o,b∉ch→s.heap.get? b=some o→H b=none→H' b=none)
  (there:∀b o,b∉ch→s.heap.get? b=some o→∃o',h'.get? b=some o')
  (tups:∀b xs,H b=some (.tup xs)→H' b=some (.tup xs)) (frzs:∀b o u,H b=some (.frz o u)→H' b=some (.frz o u)) (tbls:∀b ps,H b=some (.tbl ps)→∃more,H' b=some (.tbl (ps++more)))
  (ns:∀m,s.heap.Ns X.env.locals m→h'.Ns X.env.locals m) (hok:HOk X.prog X.w H' h') (hg:AllBare g'):
  Inv X pins σ H' {s with heap:=h',gens:=g',drawn:=d',toks:=t'}:=by
 have neL:∀b o,X.s₀.heap.get? b=some o→b≠X.env.locals:=fun b o e=>Nat.ne_of_lt (Nat.lt_of_lt_of_le (Heap.lt_size e) I.ok.above)
 have neC:∀b o,X.s₀.heap.get? b=some o→b∉X.ex→b∉ch:=fun b o e hx hb=>by
  rcases(hch b hb).1 with z|z
  ·exact hx z
  ·exact absurd (Nat.lt_of_lt_of_le (Heap.lt_size e) z) (Nat.lt_irrefl _)
 have cellK:∀x c,X.env.cells.lookup x=some c→∀v,s.heap.IsCell c v→h'.IsCell c v:=fun x c e v ⟨o,ho,hd⟩=>by
  have nch:c∉ch:=fun z=>(hch c z).2.2.1 x c e rfl
  by_cases hc:c∈X.fs
  ·obtain⟨sl,q⟩:=slot c o (I.cne x c e) hc nch ho (I.freeC x c e)
   exact⟨_,q,hd⟩
  ·exact⟨o,keep c o (I.cne x c e) hc nch ho (I.freeC x c e),hd⟩
 refine⟨I.ok,I.os,hg,⟨fun b o e n hb hx=>?_,fun b o e n hb hx=>?_,fun b o e n hx=>?_,fun b o e hx=>?_,fun b xs e=>tups b xs (I.base.tups b xs e),fun b o xs e=>frzs b o xs (I.base.frzs b o xs e),fun b ps e=>?_⟩,?_,fun x c e=>?_,?_,fun x c e=>?_,fun p hp=>?_,hok,I.len⟩
 ·exact keep b o (neL b o e) hb (neC b o e hx) (I.base.keep b o e n hb hx) (I.base.free b o e n hx)
 ·obtain⟨sl,e1⟩:=I.base.slot b o e n hb hx
  obtain⟨sl',e2⟩:=slot b _ (neL b o e) hb (neC b o e hx) e1 (I.base.free b o e n hx)
  exact⟨sl',e2⟩
 ·obtain⟨o',e1⟩:=I.base.there b o e hx
  exact free b o' (neC b o e hx) e1 (I.base.free b o e n hx)
 ·obtain⟨o',e1⟩:=I.base.there b o e hx
  exact there b o' (neC b o e hx) e1
 ·obtain⟨m1,e1⟩:=I.base.tbls b ps e
  obtain⟨m2,e2⟩:=tbls b _ e1
  exact⟨m1++m2,by rw[e2,Array.append_assoc]⟩
 ·obtain⟨m,hn,hl⟩:=I.loc
  refine⟨m,ns m hn,fun i x v e1 e2 e3=>?_⟩
  obtain⟨u,r,l⟩:=hl i x v e1 e2 e3
  refine⟨u,r,?_⟩
  rcases l with l|⟨k,c,e,z⟩
  ·exact .inl l
  ·exact .inr ⟨k,c,e,cellK x c e _ z⟩
 ·obtain⟨v,z⟩:=I.cell x c e
  exact⟨v,cellK x c e v z⟩
 ·obtain⟨m,⟨o,_,_,ho,_⟩,_⟩:=I.loc
  exact free _ o (fun z=>(hch _ z).2.1 rfl) ho I.free
 ·obtain⟨v,o,ho,hd⟩:=I.cell x c e
  exact free c o (fun z=>(hch c z).2.2.1 x c e rfl) ho (I.freeC x c e)
 ·obtain⟨e,n,ne,nf,d⟩:=I.pin p hp
  have nch:p.1∉ch:=fun z=>(hch p.1 z).2.2.2 p hp rfl
  exact⟨keep p.1 p.2 ne nf nch e n,free p.1 p.2 nch e n,ne,nf,d⟩
theorem Inv.un{t':Nat}(I:Inv X pins σ H s)(u:Un X.fs [] H H' s.heap h')(hok:HOk X.prog X.w H' h'):Inv X pins σ H' {s with heap:=h',toks:=t'}:=by
 obtain⟨m,⟨o,es,ep,ho,r⟩,_⟩:=id I.loc
 obtain⟨sl,hL⟩:=u.any ho I.free (by simp)
 exact I.step (g':=s.gens) (d':=s.drawn) (ch:=[]) (fun _ z=>nomatch z) (fun b o _ hb _ e n=>u.keep b o e n hb (by simp)) (fun b o _ hb _ e n=>u.slot b o e n hb (by simp)) (fun b o _ e n=>u.free b o e n (by simp)) (fun b o _ e=>u.there b o e (by simp)) u.tups u.frzs u.tbls (fun m' hm=>by
  obtain⟨o',es',ep',ho',r'⟩:=hm
  rw[ho]at ho';cases ho'
  exact⟨_,es',ep',hL,r'⟩) hok I.bare
theorem Inv.call{g':Array GenState}{t':Nat}{d':Drawn}{ch:List Addr}(I:Inv X pins σ H s)(u:Un (frs X.stack) ch H H' s.heap h')(hok:HOk X.prog X.w H' h')(hg:AllBare g')
  (hch:∀b∈ch,(b∈X.ex∨X.s₀.heap.objs.size≤b)∧b≠X.env.locals∧(∀x c,X.env.cells.lookup x=some c→c≠b)∧∀p∈X.pn++pins,p.1≠b):
  Inv X pins σ H' {s with heap:=h',gens:=g',drawn:=d',toks:=t'}:=by
 obtain⟨m,⟨o,es,ep,ho,r⟩,_⟩:=id I.loc
 obtain⟨sl,hL⟩:=u.any ho I.free fun z=>(hch _ z).2.1 rfl
 exact I.step (ch:=ch) hch (fun b o hL hb hc e n=>u.keep b o e n (fun z=>(List.mem_cons.mp (I.stkSub b z)).elim hL hb) hc) (fun b o _ _ hc e n=>u.any e n hc) (fun b o hc e n=>u.free b o e n hc) (fun b o hc e=>u.there b o e hc) u.tups u.frzs u.tbls (fun m' hm=>by
  obtain⟨o',es',ep',ho',r'⟩:=hm
  rw[ho]at ho';cases ho'
  exact⟨_,es',ep',hL,r'⟩) hok hg
theorem Inv.turned{t':Nat}{it:Addr}(I:Inv X pins σ H s)(k:∀b o,b≠it→s.heap.get? b=some o→h'.get? b=some o)(hn:H it=none)(hL:it≠X.env.locals)
  (h1:it∈X.ex∨X.s₀.heap.objs.size≤it) (h2:∀x c,X.env.cells.lookup x=some c→c≠it) (h3:∀p∈X.pn++pins,p.1≠it):Inv X pins σ H {s with heap:=h',toks:=t'}:=by
 have nit:∀b u,H b=some u→b≠it:=fun b u e z=>by rw[z,hn]at e;cases e
 refine I.step (g':=s.gens) (d':=s.drawn) (ch:=[it]) (fun b hb=>?_) (fun b o _ _ hc e _=>k b o (fun z=>hc (by simp[z])) e) (fun b o _ _ hc e _=>⟨o.slots,k b o (fun z=>hc (by simp[z])) e⟩) (fun _ _ _ _ n=>n)
  (fun b o hc e=>⟨o,k b o (fun z=>hc (by simp[z])) e⟩) (fun _ _ e=>e) (fun _ _ _ e=>e) (fun b ps e=>⟨#[],by rw[e];simp⟩) (fun m hm=>?_) (fun b u e=>?_) I.bare
 ·have e:b=it:=by simpa using hb
  subst e
  exact⟨h1,hL,h2,h3⟩
 ·obtain⟨o,es,ep,ho,r⟩:=hm
  exact⟨o,es,ep,k _ o (Ne.symm hL) ho,r⟩
 ·refine(I.hok b u e).stay (fun c v hc q=>k c v ?_ q) (fun _ q=>q) fun _ _ q=>q
  rcases hc with z|z
  ·rw[z];exact nit b u e
  ·exact nit c _ z
theorem Inv.tok(I:Inv X pins σ H s)(t:Nat):Inv X pins σ H {s with toks:=t}:=I.un (h':=s.heap) (t':=t) Un.refl I.hok
theorem Inv.kept{t':Nat}(I:Inv X pins σ H s)(k:∀b u,s.heap.get? b=some u→h'.get? b=some u):Inv X pins σ H {s with heap:=h',toks:=t'}:=I.un (Un.kept k) (I.hok.kept k)
theorem Inv.laid{a:Addr}{o:HO}{t':Nat}(I:Inv X pins σ H s)(k:∀b u,s.heap.get? b=some u→h'.get? b=some u)(hp:s.heap.objs.size≤a)(new:Zbf X.prog X.w (upd H a o) h' a o):
  Inv X pins σ (upd H a o) {s with heap:=h',toks:=t'}:=I.un (Un.laid k hp (I.hok.fresh hp)) (I.hok.laid k hp new)
theorem Inv.write{x e:Addr}{o:HO}{t':Nat}(I:Inv X pins σ H s)(mu:Mut (H x))(he:e=x∨H e=some (.own x))(k:∀b u,b≠e→s.heap.get? b=some u→h'.get? b=some u)(heo:∃u,h'.get? e=some u)
  (new:Zbf X.prog X.w (upd H x o) h' x o):Inv X pins σ (upd H x o) {s with heap:=h',toks:=t'}:=I.un (Un.write mu he k heo) (I.hok.write mu he k heo new)
theorem Inv.pins_of{pins':List (Addr×Obj)}(I:Inv X pins σ H s)(h:∀p∈pins',s.heap.get? p.1=some p.2∧H p.1=none∧p.1≠X.env.locals∧p.1∉X.fs∧∀v,p.2.data≠.cell v):Inv X pins' σ H s:=
 ⟨I.ok,I.os,I.bare,I.base,I.loc,I.cell,I.free,I.freeC,fun p hp=>(List.mem_append.mp hp).elim (fun z=>I.pin p (List.mem_append_left _ z)) (h p),I.hok,I.len⟩
theorem Zgs{N:List Str}(hN:N.Nodup){i j:Nat}{x:Str}(a:N[i]? =some x)(b:N[j]? =some x):i=j:=by
 obtain⟨h1,e1⟩:=List.getElem?_eq_some_iff.mp a
 obtain⟨h2,e2⟩:=List.getElem?_eq_some_iff.mp b
 exact(List.getElem_inj hN).mp (e1.trans e2.symm)
theorem Znl{M:Model}{A:Around}{E:Value→Shared→Prop}{i:Nat}{x:Str}{v:V}{u:Value}{Q:Unit→Shared→Prop}(I:Inv X pins σ H s)(hN:X.N.Nodup)(hi:X.N[i]? =some x)(hx:Loc X.env.scope x)(r:RelV v u)
  (h:∀s',Inv X pins (σ.set i (some v)) H s'→(∃a,Heap.SameBut a s.heap s'.heap∧(a=X.env.locals∨X.env.cells.lookup x=some a))→Q () s') (hf:X.fn x=true∨X.env.scope.names.lookup x=some .local:=by first|exact .inl rfl|exact .inr rfl|assumption):wpAny M A (storeName X.env x u) Q E s:=by
 obtain⟨m,hn,hl⟩:=id I.loc
 have hcls:(X.env.scope.kind== .class|| (X.env.scope.kind== .module&&X.env.locals !=X.env.globals))=false:=by rw[I.ok.kind];rfl
 have hiσ:i<σ.length:=by rw[I.len];exact(List.getElem?_eq_some_iff.mp hi).1
 have cne:=I.cne
 have tracked:∀{a:Addr} {h':Heap},(∃o,s.heap.get? a=some o∧H a=none)→Heap.SameBut a s.heap h'→HOk X.prog X.w H h':=fun{a h'} ha hs b ob e=>by
  obtain⟨_,_,hfree⟩:=ha
  refine(I.hok b ob e).stay (fun c w' hc q=>(hs.2 c ?_).trans q) (fun _ q=>q) fun _ _ q=>q
  rintro rfl
  rcases hc with rfl|hc
  ·rw[hfree]at e;cases e
  ·rw[hfree]at hc;cases hc
 rcases hx with hk|hk
 ·refine wpAny_storeName_local hk hn (fun h' hn' hs=>?_) hcls
  obtain⟨oL,_,_,hoL,_⟩:=id hn
  refine h _ ⟨I.ok,I.os,I.bare,⟨fun b o e n hb hx=>?_,fun b o e n hb hx=>?_,I.base.free,fun b o e hx=>?_,I.base.tups,I.base.frzs,I.base.tbls⟩,⟨_,hn',fun j y v' e1 e2 e3=>?_⟩,fun y c e=>?_,I.free,I.freeC,fun p hp=>?_,tracked ⟨oL,hoL,I.free⟩ hs,by simpa using I.len⟩ ⟨_,hs,.inl rfl⟩
  ·exact(hs.2 b (Nat.ne_of_lt (Nat.lt_of_lt_of_le (Heap.lt_size e) I.ok.above))).trans (I.base.keep b o e n hb hx)
  ·obtain⟨sl,e1⟩:=I.base.slot b o e n hb hx
   exact⟨sl,(hs.2 b (Nat.ne_of_lt (Nat.lt_of_lt_of_le (Heap.lt_size e) I.ok.above))).trans e1⟩
  ·obtain⟨o',e1⟩:=I.base.there b o e hx
   exact⟨o',(hs.2 b (Nat.ne_of_lt (Nat.lt_of_lt_of_le (Heap.lt_size e) I.ok.above))).trans e1⟩
  ·by_cases hj:j=i
   ·subst hj
    rw[hi]at e1;cases e1
    rw[List.getElem?_set_self hiσ]at e2
    cases e2
    exact⟨u,r,.inl ⟨hk,by simp⟩⟩
   ·rw[List.getElem?_set_ne (Ne.symm hj)]at e2
    obtain⟨u',r',q⟩:=hl j y v' e1 e2 e3
    refine⟨u',r',?_⟩
    rcases q with⟨k,e⟩|⟨k,c,e,z⟩
    ·refine .inl ⟨k,?_⟩
     have:y≠x:=fun e=>hj (Zgs hN e1 (e▸hi))
     simp[this,e]
    ·exact .inr ⟨k,c,e,z.sameBut hs (cne y c e)⟩
  ·obtain⟨w',z⟩:=I.cell y c e
   exact⟨w',z.sameBut hs (cne y c e)⟩
  ·obtain⟨e,n,ne,nf,d⟩:=I.pin p hp
   exact⟨(hs.2 p.1 ne).trans e,n,ne,nf,d⟩
 ·have hfn:X.fn x=true:=by
   rcases hf with z|z
   ·exact z
   ·rw[z]at hk;cases hk
  obtain⟨c,hc⟩:=I.ok.has x (.inl hk)
  obtain⟨w',z⟩:=I.cell x c hc
  refine wpAny_storeName_cell I.ok.kind hk hc z (fun h' hc' hs=>?_)
  obtain⟨oc,hoc,hocd⟩:=id z
  refine h {s with heap:=h'} ⟨I.ok,I.os,I.bare,⟨fun b o e n hb hx=>?_,fun b o e n hb hx=>?_,I.base.free,fun b o e hx=>?_,I.base.tups,I.base.frzs,I.base.tbls⟩,⟨m,hn.sameBut hs (Ne.symm (cne x c hc)),fun j y v' e1 e2 e3=>?_⟩,fun y c' e=>?_,I.free,I.freeC,fun p hp=>?_,tracked ⟨oc,hoc,I.freeC x c hc⟩ hs,by simpa using I.len⟩ ⟨c,hs,.inr hc⟩
  ·exact(hs.2 b (Nat.ne_of_lt (Nat.lt_of_lt_of_le (Heap.lt_size e) (I.ok.cab x c hfn hc)))).trans (I.base.keep b o e n hb hx)
  ·obtain⟨sl,e1⟩:=I.base.slot b o e n hb hx
   exact⟨sl,(hs.2 b (Nat.ne_of_lt (Nat.lt_of_lt_of_le (Heap.lt_size e) (I.ok.cab x c hfn hc)))).trans e1⟩
  ·obtain⟨o',e1⟩:=I.base.there b o e hx
   exact⟨o',(hs.2 b (Nat.ne_of_lt (Nat.lt_of_lt_of_le (Heap.lt_size e) (I.ok.cab x c hfn hc)))).trans e1⟩
  ·by_cases hj:j=i
   ·subst hj
    rw[hi]at e1;cases e1
    rw[List.getElem?_set_self hiσ]at e2
    cases e2
    exact⟨u,r,.inr ⟨.inl hk,c,hc,hc'⟩⟩
   ·rw[List.getElem?_set_ne (Ne.symm hj)]at e2
    obtain⟨u',r',q⟩:=hl j y v' e1 e2 e3
    refine⟨u',r',?_⟩
    rcases q with q|⟨k,c',e,z'⟩
    ·exact .inl q
    ·refine .inr ⟨k,c',e,z'.sameBut hs ?_⟩
     rintro rfl
     exact hj (Zgs hN e1 (I.ok.inj _ _ _ e hc▸hi))
  ·by_cases hcc:c'=c
   ·subst hcc;exact⟨_,hc'⟩
   ·obtain⟨w2,z2⟩:=I.cell y c' e
    exact⟨w2,z2.sameBut hs hcc⟩
  ·obtain⟨e,n,ne,nf,d⟩:=I.pin p hp
   refine⟨(hs.2 p.1 ?_).trans e,n,ne,nf,d⟩
   intro q
   rw[q,hoc]at e
   have q':oc=p.2:=Option.some.inj e
   exact d w' (by rw[←q'];exact hocd)
theorem Zgt{M:Model}{A:Around}{E:Value→Shared→Prop}{i:Nat}{x:Str}{v:V}{u:Value}{Q:Unit→Shared→Prop}(I:Inv X pins σ H s)(hN:X.N.Nodup)(hi:X.N[i]? =some x)(hx:Loc X.env.scope x)(r:RelV v u)
  (h:∀s',Inv X pins (σ.set i (some v)) H s'→Q () s') (hf:X.fn x=true∨X.env.scope.names.lookup x=some .local:=by first|exact .inl rfl|exact .inr rfl|assumption):wpAny M A (storeName X.env x u) Q E s:=
 Znl I hN hi hx r (fun s' I' _=>h s' I') hf
theorem Inv.call'{s':Shared}{ch:List Addr}(I:Inv X pins σ H s)(ho:s'.os=s.os)(u:Un (frs X.stack) ch H H' s.heap s'.heap)(hok:HOk X.prog X.w H' s'.heap)(hg:AllBare s'.gens)
  (hch:∀b∈ch,(b∈X.ex∨X.s₀.heap.objs.size≤b)∧b≠X.env.locals∧(∀x c,X.env.cells.lookup x=some c→c≠b)∧∀p∈X.pn++pins,p.1≠b):Inv X pins σ H' s':=by
 obtain⟨h',g',d',t',o'⟩:=s'
 have e:o'=s.os:=ho
 subst e
 exact I.call (g':=g') (t':=t') (d':=d') u hok hg hch
end
noncomputable abbrev XK:=Value→Option Addr→Hp→Prop
noncomputable abbrev St:=List (Option V)
noncomputable abbrev VK:=V→Hp→Prop
noncomputable abbrev TE:=St→Hp→VK→Prop
noncomputable abbrev TT:=St→Hp→(Bool→Hp→Prop)→Prop
noncomputable abbrev TA:=St→Hp→(List V→Hp→Prop)→Prop
set_option genInjectivity false in
structure Ends where
 nx:St→Hp→Prop
 rt:VK
 bk:St→Hp→Prop:=fun _ _=>False
 ct:St→Hp→Prop:=fun _ _=>False
noncomputable abbrev TS:=Ends→St→Hp→Prop
noncomputable def EP(X:Cx)(pins:List (Addr×Obj))(σ:St)(Q:VK)(u:Value)(s':Shared):Prop:=∃v H',Inv X pins σ H' s'∧RelV v u∧Q v H'
noncomputable def TP(X:Cx)(pins:List (Addr×Obj))(σ:St)(Q:Bool→Hp→Prop)(b:Bool)(s':Shared):Prop:=∃H',Inv X pins σ H' s'∧Q b H'
noncomputable def AP(X:Cx)(pins:List (Addr×Obj))(σ:St)(Q:List V→Hp→Prop)(us:List Value)(s':Shared):Prop:=∃vs H',Inv X pins σ H' s'∧Vals vs us∧Q vs H'
noncomputable def SP(X:Cx)(pins:List (Addr×Obj))(D:Ends)(f:Flow)(s':Shared):Prop:=
 match f with
 | .next=>∃σ' H',Inv X pins σ' H' s'∧D.nx σ' H'
 | .brk=>∃σ' H',Inv X pins σ' H' s'∧D.bk σ' H'
 | .cont=>∃σ' H',Inv X pins σ' H' s'∧D.ct σ' H'
 | .ret u=>∃v σ' H',Inv X pins σ' H' s'∧RelV v u∧D.rt v H'
noncomputable def PE(X:Cx)(e:Expr)(t:TE):Prop:=
 ∀(pins:List (Addr×Obj)) (s:Shared) (σ:St) (H:Hp) (Q:VK),Inv X pins σ H s→t σ H Q→wpAny (model X.prog X.w) X.A (eval e X.env) (EP X pins σ Q) X.xe s
noncomputable def PT(X:Cx)(e:Expr)(t:TT):Prop:=
 ∀(pins:List (Addr×Obj)) (s:Shared) (σ:St) (H:Hp) (Q:Bool→Hp→Prop),Inv X pins σ H s→t σ H Q→wpAny (model X.prog X.w) X.A (isTrue e X.env (eval e X.env)) (TP X pins σ Q) X.xe s
noncomputable def PW(X:Cx)(e:Expr)(t:TT):Prop:=
 ∀(whole:Sem Value) (pins:List (Addr×Obj)) (s:Shared) (σ:St) (H:Hp) (Q:Bool→Hp→Prop),Inv X pins σ H s→t σ H Q→wpAny (model X.prog X.w) X.A (isTrue e X.env whole) (TP X pins σ Q) X.xe s
theorem PW.pt{X:Cx}{e:Expr}{t:TT}(h:PW X e t):PT X e t:=h _
noncomputable def PA(X:Cx)(es:List Expr)(t:TA):Prop:=
 ∀(pos:Pos) (pins:List (Addr×Obj)) (s:Shared) (σ:St) (H:Hp) (Q:List V→Hp→Prop),Inv X pins σ H s→t σ H Q→wpAny (model X.prog X.w) X.A (spliced (backTo pos (starEach es X.env))) (AP X pins σ Q) X.xe s
noncomputable def PS(X:Cx)(st:Stmt)(t:TS):Prop:=
 ∀(pins:List (Addr×Obj)) (s:Shared) (σ:St) (H:Hp) (D:Ends),Inv X pins σ H s→t D σ H→wpAny (model X.prog X.w) X.A (exec st X.env) (SP X pins D) X.xe s
noncomputable def PSs(X:Cx)(st:List Stmt)(t:TS):Prop:=
 ∀(pins:List (Addr×Obj)) (s:Shared) (σ:St) (H:Hp) (D:Ends),Inv X pins σ H s→t D σ H→wpAny (model X.prog X.w) X.A (execs st X.env) (SP X pins D) X.xe s
theorem thn{α:Type}{t:Sem α}{Q Q':α→Shared→Prop}{M:Model}{A:Around}{E:Value→Shared→Prop}{s:Shared}(h:wpAny M A t Q E s)(hQ:∀a s,Q a s→Q' a s):wpAny M A t Q' E s:=wpAny_mono h hQ fun _ _ x=>x
end L2
namespace L2
open PySem PySem.Spec PyProof.Rows
section
variable{X:Cx}
noncomputable def tVar(i:Nat):TE:=fun σ H Q=>∃v,σ[i]? =some (some v)∧Q v H
noncomputable def tC(v:V):TE:=fun _ H Q=>Q v H
theorem Zh0{i:Nat}{x:Str}{pos:Pos}(hN:X.N[i]? =some x)(hv:Vis X.env.scope x)(hd:(x==("__debug__":Str))=false:=by decide)(hcd:(x==("__classdict__":Str))=false:=by decide):PE X (.Name x pos) (tVar i):=by
 intro pins s σ H Q I h
 obtain⟨v,e,h⟩:=h
 obtain⟨m,hn,hl⟩:=I.loc
 obtain⟨u,r,l⟩:=hl i x v hN e hv
 have fin:EP X pins σ Q u s:=⟨v,H,I,r,h⟩
 rcases l with⟨hk,hm⟩|⟨hk,c,hc,hcell⟩
 ·exact wpAny_Name (wpAny_loadName_local I.ok.kind hk hn hm fin) hd
 ·rcases hk with hk|hk
  ·exact wpAny_Name (wpAny_loadName_cell I.ok.kind hk hc hcell fin) hd
  ·exact wpAny_Name (wpAny_loadName_free I.ok.kind hk hc hcell fin hcd) hd
theorem Zxl{i j pos}:PE X (.Constant (.int i) j pos) (tC (.int i)):=fun _ _ _ H _ I h=>wpAny_Constant_int ⟨.int i,H,I.tok _,⟨_,rfl⟩,h⟩
theorem Z10{b j pos}:PE X (.Constant (.bool b) j pos) (tC (.bl b)):=fun _ _ _ H _ I h=>Constant_bool ⟨.bl b,H,I,rfl,h⟩
theorem Zxm{j pos}:PE X (.Constant .none j pos) (tC .non):=fun _ _ _ H _ I h=>Constant_none ⟨.non,H,I,rfl,h⟩
theorem Zte{x j pos}:PE X (.Constant (.str x) j pos) (tC (.str x)):=fun _ _ _ H _ I h=>Calls.Constant_str ⟨.str x,H,I.tok _,⟨_,rfl⟩,h⟩
noncomputable def Gl(X:Cx)(x:Str):Prop:=X.env.kindOf x=some .globalImplicit
theorem Ze7{E:Value→Shared→Prop}{pins:List (Addr×Obj)}{s:Shared}{σ:St}{H:Hp}{x:Str}{u:Value}{pos:Pos}{Q:Value→Shared→Prop}(I:Inv X pins σ H s)(hg:Gl X x)(hm:X.mg x=some u)(h:Q u s)
  (hd:(x==("__debug__":Str))=false:=by decide):wpAny (model X.prog X.w) X.A (eval (.Name x pos) X.env) Q E s:=
 Calls.Name_function_global I.ok.kind hg (Calls.loadGlobal_global (by rw[I.ok.glob];exact I.mod.glob.keeps I.bk) hm h) hd
theorem Ze8{E:Value→Shared→Prop}{pins:List (Addr×Obj)}{s:Shared}{σ:St}{H:Hp}{x:Str}{u:Value}{pos:Pos}{Q:Value→Shared→Prop}(I:Inv X pins σ H s)(hg:Gl X x)(hm:X.mg x=none)(hv:bootBuiltins x=some u)(h:Q u s)
  (hn:x≠"__name__":=by decide) (hd:(x==("__debug__":Str))=false:=by decide):wpAny (model X.prog X.w) X.A (eval (.Name x pos) X.env) Q E s:=by
 obtain⟨mb,h1,h2⟩:=I.mod.blt
 exact Calls.Name_function_global I.ok.kind hg (Calls.loadGlobal_builtin (by rw[I.ok.glob];exact I.mod.glob.keeps I.bk) hm (by rw[I.ok.blt];exact h1.keeps I.bk) ((h2 x hn).trans hv) h) hd
theorem Zjq{x:Str}{v:V}{u:Value}{pos:Pos}(hg:Gl X x)(hm:X.mg x=some u)(r:RelV v u)(hd:(x==("__debug__":Str))=false:=by decide):PE X (.Name x pos) (tC v):=
 fun _ _ _ H _ I h=>Ze7 I hg hm ⟨v,H,I,r,h⟩ hd
theorem Znm{x:Str}{v:V}{u:Value}{pos:Pos}(hg:Gl X x)(hm:X.mg x=none)(hv:bootBuiltins x=some u)(r:RelV v u)(hn:x≠"__name__":=by decide)(hd:(x==("__debug__":Str))=false:=by decide):PE X (.Name x pos) (tC v):=
 fun _ _ _ H _ I h=>Ze8 I hg hm hv ⟨v,H,I,r,h⟩ hn hd
noncomputable def t2I(ta tb:TE)(k:Int→Int→Hp→Prop):St→Hp→Prop:=fun σ H=>ta σ H fun x H1=>tb σ H1 fun y H2=>∃i j,x= .int i∧y= .int j∧k i j H2
noncomputable def tAdd(ta tb:TE):TE:=fun σ H Q=>t2I ta tb (fun i j H2=>Q (.int (i+j)) H2) σ H
noncomputable def tSub(ta tb:TE):TE:=fun σ H Q=>t2I ta tb (fun i j H2=>Q (.int (i- j)) H2) σ H
noncomputable def tMul(ta tb:TE):TE:=fun σ H Q=>t2I ta tb (fun i j H2=>(-(2^64)<i∧i<2^64)∧Q (.int (i*j)) H2) σ H
variable{a b:Expr}{ta tb:TE}{pos:Pos}
noncomputable def PC(X:Cx)(op:CmpOp)(a b:Expr)(t:TE):Prop:=
 ∀(pins:List (Addr×Obj)) (s:Shared) (σ:St) (H:Hp) (Q:VK),Inv X pins σ H s→t σ H Q→
  wpAny (model X.prog X.w) X.A (eval a X.env) (fun v s₁=>wpAny (model X.prog X.w) X.A (eval b X.env) (fun u s₂=>wpAny (model X.prog X.w) X.A (compareOp op v u) (EP X pins σ Q) X.xe s₂) X.xe s₁) X.xe s
noncomputable def tCmp(p:Int→Int→Bool)(ta tb:TE):TE:=fun σ H Q=>t2I ta tb (fun i j H2=>Q (.bl (p i j)) H2) σ H
noncomputable abbrev tLt:TE→TE→TE:=tCmp fun i j=>decide (i<j)
noncomputable abbrev tLe:TE→TE→TE:=tCmp fun i j=>decide (i≤j)
noncomputable abbrev tGt:TE→TE→TE:=tCmp fun i j=>decide (j<i)
noncomputable abbrev tGe:TE→TE→TE:=tCmp fun i j=>decide (j≤i)
noncomputable abbrev tEqI:TE→TE→TE:=tCmp fun i j=>decide (i=j)
noncomputable abbrev tNeI:TE→TE→TE:=tCmp fun i j=>!decide (i=j)
noncomputable def tIsN(ta:TE):TE:=fun σ H Q=>ta σ H fun x H1=>Q (.bl (decide (x= .non))) H1
noncomputable def Z5n(ta:TE):TE:=fun σ H Q=>ta σ H fun x H1=>Q (.bl (!decide (x= .non))) H1
noncomputable def tB(t:TE):TT:=fun σ H Q=>t σ H fun x H1=>∃c,x= .bl c∧Q c H1
theorem Zxn{e:Expr}{t:TE}(h:PE X e t)(he:∀whole,isTrue e X.env whole=(do let v←whole;standAt e.pos;holding [v] (truthy v)):=by intro _;rfl):PT X e (tB t):=by
 intro pins s σ H Q I hw
 refine isTrue_plain (thn (h pins s σ H _ I hw) fun v s1 ⟨x,H1,I1,r1,q1⟩=>?_) (he _)
 obtain⟨d,rfl,q⟩:=q1
 cases r1
 exact wpAny_truthy_bool ⟨H1,I1,q⟩
variable{tA tB':TT}{rest:List Expr}
noncomputable def tAnd(t u:TT):TT:=fun σ H Q=>t σ H fun c H1=>if c=true then u σ H1 Q else Q false H1
noncomputable def tOr(t u:TT):TT:=fun σ H Q=>t σ H fun c H1=>if c=true then Q true H1 else u σ H1 Q
noncomputable def tNot(t:TT):TT:=fun σ H Q=>t σ H fun c H1=>Q (!c) H1
theorem Zxo(ha:PT X a tA):PW X (.BoolOp .Or [a] pos) tA:=by
 intro wh pins s σ H Q I h
 refine isTrue_or (thn (ha pins s σ H Q I h) fun c s1 e=>?_)
 cases c with
 |false=>exact isTrue_or_nil e
 |true=>exact e
theorem Z11(ha:PT X a tA)(hb:PW X (.BoolOp .Or (b::rest) pos) tB'):PW X (.BoolOp .Or (a::b::rest) pos) (tOr tA tB'):=by
 intro wh pins s σ H Q I h
 refine isTrue_or (thn (ha pins s σ H _ I h) fun c s1 zq9=>?_)
 obtain⟨H1,I1,q1⟩:=zq9
 cases c with
 |true=>exact⟨H1,I1,q1⟩
 |false=>exact hb wh pins s1 σ H1 Q I1 q1
theorem Zxp(ha:PT X a tA):PT X (.UnaryOp .Not a pos) (tNot tA):=by
 intro pins s σ H Q I h
 exact isTrue_not (ha pins s σ H (fun c H1=>Q (!c) H1) I h)
noncomputable def Zxq(ta tb:TE):TE:=fun σ H Q=>ta σ H fun x H1=>∃c,x= .bl c∧if c=true then tb σ H1 Q else Q (.bl false) H1
noncomputable def tOrV(ta tb:TE):TE:=fun σ H Q=>ta σ H fun x H1=>∃c,x= .bl c∧if c=true then Q (.bl true) H1 else tb σ H1 Q
noncomputable def Zxr(ta:TE):TE:=fun σ H Q=>ta σ H fun x H1=>∃c,x= .bl c∧Q (.bl (!c)) H1
theorem Zxs{op} {t:TE} (h:PE X a t):PE X (.BoolOp op [a] pos) t:=fun pins s σ H Q I hw=>BoolOp_one (h pins s σ H Q I hw)
theorem Zxt(ha:PE X a ta)(hb:PE X (.BoolOp .And (b::rest) pos) tb):PE X (.BoolOp .And (a::b::rest) pos) (Zxq ta tb):=by
 intro pins s σ H Q I h
 refine BoolOp_and (thn (ha pins s σ H _ I h) fun v s1 zq9=>?_)
 obtain⟨x,H1,I1,r1,q1⟩:=zq9
 obtain⟨c,rfl,q1⟩:=q1
 cases r1
 refine wpAny_truthy_bool ?_
 cases c with
 |true=>exact hb pins s1 σ H1 Q I1 q1
 |false=>exact⟨.bl false,H1,I1,rfl,q1⟩
theorem Zxu(ha:PE X a ta):PE X (.UnaryOp .Not a pos) (Zxr ta):=by
 intro pins s σ H Q I h
 refine UnaryOp_ (thn (ha pins s σ H _ I h) fun v s1 zq9=>?_)
 obtain⟨x,H1,I1,r1,q1⟩:=zq9
 obtain⟨c,rfl,q1⟩:=q1
 cases r1
 exact not_of (wpAny_truthy_bool ⟨.bl (!c),H1,I1,rfl,q1⟩)
noncomputable def tIf(t:TT)(ta tb:TE):TE:=fun σ H Q=>t σ H fun c H1=>if c=true then ta σ H1 Q else tb σ H1 Q
theorem Zq1{c:Expr}(hc:PT X c tA)(ha:PE X a ta)(hb:PE X b tb):PE X (.IfExp c a b pos) (tIf tA ta tb):=by
 intro pins s σ H Q I h
 refine wpAny_IfExp (thn (hc pins s σ H _ I h) fun d s1 zq9=>?_)
 obtain⟨H1,I1,q1⟩:=zq9
 cases d with
 |true=>exact ha pins s1 σ H1 Q I1 q1
 |false=>exact hb pins s1 σ H1 Q I1 q1
end
end L2
namespace L2
open PySem PySem.Spec PyProof.Rows
noncomputable def SqL(K:PySem.W.Frag)(H:Hp)(a:Addr)(xs:List V):Prop:=
 Rd H a (.lst xs)∨
  ∃(o:Obj) (its:Array Value) (n:Nat),K.lookup a=some o∧o.cls= .type "list"∧o.dict=none∧o.data= .seq its n∧its.size≤sizeLine∧Vals xs its.toList
noncomputable def SqT(K:PySem.W.Frag)(H:Hp)(a:Addr)(xs:List V):Prop:=
 Rd H a (.tup xs)∨
  ∃(o:Obj) (its:Array Value) (n:Nat),K.lookup a=some o∧o.cls= .type "tuple"∧o.data= .seq its n∧its.size≤sizeLine∧Vals xs its.toList
noncomputable def absV:Value→Option V
 | .none=>some .non
 | .bool b=>some (.bl b)
 | .int i _=>some (.int i)
 | .str x _=>some (.str x)
 | .bytes b _=>some (.byt b)
 | .float b _=>some (.flt b)
 | .ref a=>some (.ref a)
 | .type n=>some (.ty n)
 |_=>none
theorem RelV.abs{x:V}{u:Value}(r:RelV x u):absV u=some x:=by
 cases x with
 |non=>cases r;rfl
 |bl _=>cases r;rfl
 |int _=>obtain⟨t,rfl⟩:=r;rfl
 |str _=>obtain⟨t,rfl⟩:=r;rfl
 |byt _=>obtain⟨t,rfl⟩:=r;rfl
 |flt _=>obtain⟨t,rfl⟩:=r;rfl
 |ref _=>cases r;rfl
 |ty _=>cases r;rfl
theorem RelV.inj{x y:V}{u:Value}(r:RelV x u)(q:RelV y u):x=y:=Option.some.inj (r.abs.symm.trans q.abs)
theorem Vals.inj{xs:List V}:∀{ys:List V} {us:List Value},Vals xs us→Vals ys us→xs=ys:=by
 induction xs with
 |nil=>intro ys us h g;cases h;cases g;rfl
 |cons x xs ih=>
  intro ys us h g
  cases h with
  |cons r t=>
   cases g with
   |cons r' t'=>rw[r.inj r',ih t t']
section
variable{X:Cx}{pins:List (Addr×Obj)}{σ:St}{H:Hp}{s:Shared}{a:Addr}{xs ys:List V}
theorem Inv.list(I:Inv X pins σ H s)(h:SqL X.K H a xs):∃its:List Value,Vals xs its∧PlainL s.heap a its.toArray∧xs.length≤sizeLine:=by
 rcases h with h|⟨o,its,n,hk,hc,hd,hs,hz,r⟩
 ·obtain⟨z,its,n,r,e⟩:=h.ok I.hok
  exact⟨its,r,⟨_,n,e,rfl,rfl,rfl⟩,z⟩
 ·refine⟨its.toList,r,⟨o,n,I.kIn a o hk,hc,hd,by simpa using hs⟩,?_⟩
  have e:=r.length
  simp only[Array.length_toList]at e
  omega
theorem Inv.tuple(I:Inv X pins σ H s)(h:SqT X.K H a xs):∃its:List Value,Vals xs its∧IsTup s.heap a its.toArray∧xs.length≤sizeLine:=by
 rcases h with h|⟨o,its,n,hk,hc,hs,hz,r⟩
 ·obtain⟨z,its,r,p⟩:=h.ok I.hok
  exact⟨its,r,p,z⟩
 ·refine⟨its.toList,r,⟨o,I.kIn a o hk,hc,n,by simpa using hs⟩,?_⟩
  have e:=r.length
  simp only[Array.length_toList]at e
  omega
theorem Inv.list_inj(I:Inv X pins σ H s)(h:SqL X.K H a xs)(h':SqL X.K H a ys):xs=ys:=by
 obtain⟨its,r,⟨o,n,e,_,_,d⟩,_⟩:=I.list h
 obtain⟨its',r',⟨o',n',e',_,_,d'⟩,_⟩:=I.list h'
 rw[e]at e';cases e'
 rw[d]at d'
 injection d' with d1 _
 have:its=its':=by simpa using congrArg Array.toList d1
 subst this
 exact r.inj r'
theorem Inv.tuple_inj(I:Inv X pins σ H s)(h:SqT X.K H a xs)(h':SqT X.K H a ys):xs=ys:=by
 obtain⟨its,r,⟨o,e,_,n,d⟩,_⟩:=I.tuple h
 obtain⟨its',r',⟨o',e',_,n',d'⟩,_⟩:=I.tuple h'
 rw[e]at e';cases e'
 rw[d]at d'
 injection d' with d1 _
 have:its=its':=by simpa using congrArg Array.toList d1
 subst this
 exact r.inj r'
end
noncomputable abbrev Cx.wish(X:Cx)(E:Value→Shared→Prop):Cx:={X with xe:=E}
noncomputable abbrev Cx.nox(X:Cx):Cx:=X.wish fun _ _=>False
theorem Cx.Ok.wish{X:Cx}(ok:X.Ok)(E:Value→Shared→Prop):(X.wish E).Ok:=
 ⟨ok.mod,ok.kind,ok.glob,ok.blt,ok.above,ok.inj,ok.has,ok.cab,ok.hd,ok.frames,ok.stk,ok.exf,ok.bs,ok.bsz,ok.noex,ok.exfs,ok.funs,ok.frf⟩
theorem Cx.Ok.unwish{X:Cx}{E:Value→Shared→Prop}(ok:(X.wish E).Ok):X.Ok:=
 ⟨ok.mod,ok.kind,ok.glob,ok.blt,ok.above,ok.inj,ok.has,ok.cab,ok.hd,ok.frames,ok.stk,ok.exf,ok.bs,ok.bsz,ok.noex,ok.exfs,ok.funs,ok.frf⟩
section
variable{X:Cx}{pins:List (Addr×Obj)}{σ:St}{H:Hp}{s:Shared}{E:Value→Shared→Prop}
theorem Inv.wish(I:Inv X pins σ H s)(E:Value→Shared→Prop):Inv (X.wish E) pins σ H s:=⟨I.ok.wish E,I.os,I.bare,I.base,I.loc,I.cell,I.free,I.freeC,I.pin,I.hok,I.len⟩
theorem Inv.unwish(I:Inv (X.wish E) pins σ H s):Inv X pins σ H s:=⟨I.ok.unwish,I.os,I.bare,I.base,I.loc,I.cell,I.free,I.freeC,I.pin,I.hok,I.len⟩
theorem SP.unwish{D:Ends}{f:Flow}{s':Shared}(h:SP (X.wish E) pins D f s'):SP X pins D f s':=by
 cases f with
 |next=>obtain⟨σ',H',I,q⟩:=h;exact⟨σ',H',I.unwish,q⟩
 |brk=>obtain⟨σ',H',I,q⟩:=h;exact⟨σ',H',I.unwish,q⟩
 |cont=>obtain⟨σ',H',I,q⟩:=h;exact⟨σ',H',I.unwish,q⟩
 |ret u=>obtain⟨v,σ',H',I,r,q⟩:=h;exact⟨v,σ',H',I.unwish,r,q⟩
theorem PSs.nox{st:List Stmt}{t:TS}(h:PSs X.nox st t):PSs X st t:=fun pins s σ H D I hw=>
 wpAny_mono (h pins s σ H D (I.wish _) hw) (fun _ _ q=>q.unwish) fun _ _ z=>False.elim z
end
section
variable{X:Cx}{st:Stmt}{rest:List Stmt}{t u:TS}{e:Expr}{te:TE}{pos:Pos}
noncomputable def Zxv:TS:=fun D σ H=>D.nx σ H
noncomputable def tSeq(t u:TS):TS:=fun D σ H=>t {D with nx:=u D} σ H
theorem Zuk:PSs X [] Zxv:=fun _ _ σ H _ I h=>wpAny_execs_nil ⟨σ,H,I,h⟩
theorem Zq2(h1:PS X st t)(h2:PSs X rest u):PSs X (st::rest) (tSeq t u):=by
 intro pins s σ H D I h
 refine wpAny_execs_cons (thn (h1 pins s σ H {D with nx:=u D} I h) fun f s1 q=>?_)
 cases f with
 |next=>
  obtain⟨σ',H',I',q⟩:=q
  exact h2 pins s1 σ' H' D I' q
 |ret v=>exact q
 |brk=>exact q
 |cont=>exact q
theorem Znn(h1:PS X st t):PSs X [st] t:=by
 intro pins s σ H D I h
 refine wpAny_execs_cons (thn (h1 pins s σ H D I h) fun f s1 q=>?_)
 cases f with
 |next=>exact wpAny_execs_nil q
 |ret v=>exact q
 |brk=>exact q
 |cont=>exact q
noncomputable def Z4l:TS:=fun D σ H=>D.bk σ H
noncomputable def Z5o:TS:=fun D σ H=>D.ct σ H
theorem Inv.quiet{pins:List (Addr×Obj)}{σ:St}{H:Hp}{s:Shared}(I:Inv X pins σ H s):interactive X.env=false:=by simp[interactive,I.ok.kind]
noncomputable def Zul(te:TE):TS:=fun D σ H=>te σ H fun _ H1=>D.nx σ H1
theorem Zno(he:PE X e te)(hs:swapsWith e none pos.line X.env=pure false:=by rfl):PS X (.Expr e pos) (Zul te):=by
 intro pins s σ H D I h
 exact wpAny_Expr_any (thn (he pins s σ H _ I h) fun v s1 ⟨x,H1,I1,r1,q1⟩=>⟨σ,H1,I1,q1⟩) I.quiet hs
noncomputable def tRet(te:TE):TS:=fun D σ H=>te σ H D.rt
theorem Zxw(he:PE X e te):PS X (.Return (some e) pos) (tRet te):=by
 intro pins s σ H D I h
 exact wpAny_Return_some (thn (he pins s σ H _ I h) fun v s1 ⟨x,H1,I1,r1,q1⟩=>⟨x,σ,H1,I1,r1,q1⟩)
noncomputable def Z5p:TS:=fun D _ H=>D.rt .non H
noncomputable def tIfS(c:TT)(t u:TS):TS:=fun D σ H=>c σ H fun b H1=>if b=true then t D σ H1 else u D σ H1
theorem Z12{c:Expr}{a b:List Stmt}{tc:TT}(hc:PT X c tc)(ha:PSs X a t)(hb:PSs X b u):PS X (.If c a b pos) (tIfS tc t u):=by
 intro pins s σ H D I h
 refine wpAny_If (thn (hc pins s σ H _ I h) fun d s1 zq9=>?_)
 obtain⟨H1,I1,q1⟩:=zq9
 cases d with
 |true=>exact ha pins s1 σ H1 D I1 q1
 |false=>exact hb pins s1 σ H1 D I1 q1
noncomputable def Z4m:TS:=fun _ _ _=>False
end
noncomputable abbrev TG:=V→St→Hp→(St→Hp→Prop)→Prop
noncomputable abbrev TGs:=List V→St→Hp→(St→Hp→Prop)→Prop
noncomputable def PG(X:Cx)(target:Expr)(t:TG):Prop:=
 ∀(pins:List (Addr×Obj)) (s:Shared) (σ:St) (H:Hp) (v:V) (u:Value) (Q:St→Hp→Prop),Inv X pins σ H s→RelV v u→t v σ H Q→
  wpAny (model X.prog X.w) X.A (assign target X.env u) (fun _ s'=>∃σ' H',Inv X pins σ' H' s'∧Q σ' H') X.xe s
noncomputable def PGs(X:Cx)(ts:List Expr)(t:TGs):Prop:=
 ∀(pins:List (Addr×Obj)) (s:Shared) (σ:St) (H:Hp) (vs:List V) (us:List Value) (Q:St→Hp→Prop),Inv X pins σ H s→Vals vs us→t vs σ H Q→
  wpAny (model X.prog X.w) X.A (assignInOrder ((assignEach ts X.env).map (·.2)) us) (fun _ s'=>∃σ' H',Inv X pins σ' H' s'∧Q σ' H') X.xe s
noncomputable abbrev TSet:=V→V→V→Hp→(Hp→Prop)→Prop
noncomputable def PSet(X:Cx)(t:TSet):Prop:=
 ∀(pins:List (Addr×Obj)) (s:Shared) (σ:St) (H:Hp) (o i v:V) (ov iv u:Value) (Q:Hp→Prop),Inv X pins σ H s→RelV o ov→RelV i iv→RelV v u→t o i v H Q→
  wpAny (model X.prog X.w) X.A (setItem ov iv u) (fun _ s'=>∃H',Inv X pins σ H' s'∧Q H') X.xe s
noncomputable abbrev TIp:=V→V→Hp→VK→Prop
noncomputable def PIp(X:Cx)(op:Operator)(t:TIp):Prop:=
 ∀(pins:List (Addr×Obj)) (s:Shared) (σ:St) (H:Hp) (x y:V) (v u:Value) (Q:VK),Inv X pins σ H s→RelV x v→RelV y u→t x y H Q→
  wpAny (model X.prog X.w) X.A (inplaceOp op v u) (EP X pins σ Q) X.xe s
section
variable{X:Cx}{pos:Pos}
noncomputable def Znp(i:Nat):TG:=fun v σ H Q=>Q (σ.set i (some v)) H
theorem Zum{i:Nat}{x:Str}(hN:X.N.Nodup)(hi:X.N[i]? =some x)(hx:Loc X.env.scope x)(hf:X.fn x=true∨X.env.scope.names.lookup x=some .local:=by first|exact .inl rfl|exact .inr rfl|assumption):PG X (.Name x pos) (Znp i):=by
 intro pins s σ H v u Q I r h
 exact wpAny_assign_Name (Zgt I hN hi hx r (fun s' I'=>⟨_,H,I',h⟩) hf)
noncomputable def gNil:TGs:=fun vs σ H Q=>vs=[]∧Q σ H
noncomputable def Zxx(t:TG)(u:TGs):TGs:=fun vs σ H Q=>∃v r,vs=v::r∧t v σ H fun σ' H'=>u r σ' H' Q
theorem Zun:PGs X [] gNil:=by
 intro pins s σ H vs us Q I r h
 obtain⟨e,h⟩:=h
 subst e
 cases r
 exact assignInOrder_nil ⟨σ,H,I,h⟩
theorem Zq3{e:Expr}{es:List Expr}{t:TG}{u:TGs}(h1:PG X e t)(h2:PGs X es u)
  (hs:(assignEach (e::es) X.env).map (·.2)=assign e X.env::(assignEach es X.env).map (·.2):=by rfl):PGs X (e::es) (Zxx t u):=by
 intro pins s σ H vs us Q I r h
 obtain⟨v,vr,e1,h⟩:=h
 subst e1
 cases r with
 |cons r rr=>
  rw[hs]
  refine assignInOrder_cons (thn (h1 pins s σ H _ _ _ I r h) fun _ s1 zq9=>?_)
  obtain⟨σ1,H1,I1,q1⟩:=zq9
  exact h2 pins s1 σ1 H1 _ _ Q I1 rr q1
noncomputable def gTup(K:PySem.W.Frag)(n:Nat)(t:TGs):TG:=fun v σ H Q=>∃a xs,v= .ref a∧SqT K H a xs∧xs.length=n∧t xs σ H Q
theorem Zxy{es:List Expr}{k:Nat}{t:TGs}{n:Nat}(hc:X.calm=true)(h:PGs X es t)
  (hn:(assignEach es X.env).length=n:=by rfl) (hst:(assignEach es X.env).findIdx? (·.1)=none:=by rfl):PG X (.Tuple es k pos) (gTup X.K n t):=by
 intro pins s σ H v u Q I r hw
 obtain⟨a,xs,e1,hq,hl,hw⟩:=hw
 subst e1
 cases r
 obtain⟨its,rv,ht,hz⟩:=I.tuple hq
 refine assign_Tuple_tuple (I.ok.hd hc) ht (by simp[hn,←hl,rv.length]) hst fun h' hx=>?_
 have I1:Inv X pins σ H {s with heap:=h'}:=I.kept (t':=s.toks) fun b o e=>hx b o (Nat.ne_of_lt (Heap.lt_size e)) e
 exact h pins _ σ H xs _ Q I1 (by simpa using rv) hw
noncomputable def gSub(to ti:TE)(t:TSet):TG:=fun v σ H Q=>to σ H fun o H1=>ti σ H1 fun i H2=>t o i v H2 fun H3=>Q σ H3
noncomputable def tAsg(te:TE)(g:TG):TS:=fun D σ H=>te σ H fun x H1=>g x σ H1 D.nx
theorem Ztf{i:Nat}{x:Str}{e:Expr}{te:TE}{pos':Pos}(hN:X.N.Nodup)(hi:X.N[i]? =some x)(hx:Loc X.env.scope x)(he:PE X e te)(hs:swapsWith e (some (.Name x pos')) pos.line X.env=pure false:=by rfl)(hf:X.fn x=true∨X.env.scope.names.lookup x=some .local:=by first|exact .inl rfl|exact .inr rfl|assumption):
  PS X (.Assign [.Name x pos'] e pos) (tAsg te (Znp i)):=by
 intro pins s σ H D I h
 refine wpAny_Assign_Name (thn (he pins s σ H _ I h) fun v s1 ⟨y,H1,I1,r1,q1⟩=>?_) hs
 exact Zgt I1 hN hi hx r1 (fun s2 I2=>⟨_,H1,I2,q1⟩) hf
noncomputable def tPar(i j:Nat)(ta:TA):TS:=fun D σ H=>ta σ H fun vs H1=>∃v w,vs=[v,w]∧D.nx ((σ.set i (some v)).set j (some w)) H1
noncomputable def tAug(i:Nat)(te:TE)(ti:TIp):TS:=fun D σ H=>∃x,σ[i]? =some (some x)∧te σ H fun y H1=>ti x y H1 fun z H2=>D.nx (σ.set i (some z)) H2
noncomputable def Z5q(to ti te:TE)(tget:V→V→Hp→VK→Prop)(tip:TIp)(tset:TSet):TS:=fun D σ H=>to σ H fun o H1=>ti σ H1 fun i H2=>tget o i H2 fun x H3=>te σ H3 fun y H4=>tip x y H4 fun z H5=>tset o i z H5 fun H6=>D.nx σ H6
noncomputable def PGet(X:Cx)(t:V→V→Hp→VK→Prop):Prop:=
 ∀(pins:List (Addr×Obj)) (s:Shared) (σ:St) (H:Hp) (o i:V) (ov iv:Value) (Q:VK),Inv X pins σ H s→RelV o ov→RelV i iv→t o i H Q→
  wpAny (model X.prog X.w) X.A (getItem ov iv) (EP X pins σ Q) X.xe s
noncomputable def ipI(f:Int→Int→Int):TIp:=fun x y H Q=>∃i j,x= .int i∧y= .int j∧Q (.int (f i j)) H
end
section
variable{X:Cx}{pos:Pos}
noncomputable def Z4n(c:TT)(tb:TS):TS:=fun D σ H=>∃W:Nat→St→Hp→Prop,(∃m,W m σ H)∧∀m σ H,W m σ H→
 c σ H fun b H1=>if b=true then∃N:St→Hp→Prop,(∀σ' H',N σ' H'→∃m',m'<m∧W m' σ' H')∧tb {D with nx:=N,ct:=N,bk:=D.nx} σ H1 else D.nx σ H1
end
set_option genInjectivity false in
structure It where
 go:Nat→Hp→Prop
 yld:Nat→Hp→V→Hp→Prop
 stop:Nat→Hp→Prop
noncomputable def FpOk(X:Cx)(pins:List (Addr×Obj))(H:Hp)(b:Addr):Prop:=
 H b=none∧b≠X.env.locals∧b∉X.fs∧(b∈X.ex∨X.s₀.heap.objs.size≤b)∧(∀x c,X.env.cells.lookup x=some c→c≠b)∧∀p∈X.pn++pins,p.1≠b
theorem Inv.fpOk{X:Cx}{pins:List (Addr×Obj)}{σ:St}{H H':Hp}{s:Shared}{b:Addr}(I:Inv X pins σ H s)(hb:s.heap.objs.size≤b)(hn:H' b=none):FpOk X pins H' b:=by
 refine⟨hn,Nat.ne_of_gt (Nat.lt_of_lt_of_le I.lt hb),I.nofs hb,.inr (Nat.le_trans I.sz hb),fun x c e z=>?_,fun p hp z=>?_⟩
 ·obtain⟨v,q⟩:=I.cell x c e
  exact absurd (Nat.lt_of_lt_of_le q.lt (by rw[z];exact hb)) (Nat.lt_irrefl _)
 ·exact absurd (Nat.lt_of_lt_of_le (Heap.lt_size (I.pin p hp).1) (by rw[z];exact hb)) (Nat.lt_irrefl _)
structure Turn(P:Program)(w:World)(K:PySem.W.Frag)(tg:Expr)(J:It)(fp:List Addr)(it:Addr)(tn:Nat→Heap→Prop):Prop where
 mem:it∈fp
 obj:∀i h,tn i h→∀b∈fp,∃o,h.get? b=some o∧∀v,o.data≠.cell v
 keep:∀i h h',tn i h→(∀b∈fp,∀o,h.get? b=some o→h'.get? b=some o)→tn i h'
 item:∀(X:Cx),X.prog=P→X.w=w→X.K=K→X.calm=true→∀(i:Nat) (pins:List (Addr×Obj)) (s:Shared) (σ:St) (H:Hp) (E:Value→Shared→Prop),Inv X pins σ H s→(∀b∈fp,FpOk X pins H b)→tn i s.heap→J.go i H→
  wpAny (model P w) X.A (pyNext (.ref it)) (fun r s1=>∃u,r=some u∧
   wpAny (model P w) X.A (letOwnedTupleGo tg (.ref it) u) (fun _ s2=>∃x H',Inv X pins σ H' s2∧RelV x u∧J.yld i H x H'∧tn (i+1) s2.heap∧∀b∈fp,H' b=none) E s1) E s
 done:∀(X:Cx),X.prog=P→X.w=w→X.K=K→X.calm=true→∀(i:Nat) (pins:List (Addr×Obj)) (s:Shared) (σ:St) (H:Hp) (E:Value→Shared→Prop),Inv X pins σ H s→(∀b∈fp,FpOk X pins H b)→tn i s.heap→J.stop i H→
  wpAny (model P w) X.A (pyNext (.ref it)) (fun r s1=>r=none∧Inv X pins σ H s1) E s
 self:∀(A:Around) (i:Nat) (s:Shared) (Q:Value→Shared→Prop) (E:Value→Shared→Prop),tn i s.heap→Q (.ref it) s→wpAny (model P w) A (pyIter (.ref it)) Q E s
noncomputable abbrev TI:=St→Hp→(It→Hp→Prop)→Prop
noncomputable def PIE(X:Cx)(pins:List (Addr×Obj))(σ:St)(tg:Expr)(R:It→Hp→Prop)(itv:Value)(s2:Shared):Prop:=
 ∃(it:Addr) (fp:List Addr) (tn:Nat→Heap→Prop) (J:It) (H':Hp),itv= .ref it∧Inv X pins σ H' s2∧Turn X.prog X.w X.K tg J fp it tn∧tn 0 s2.heap∧(∀b∈fp,FpOk X pins H' b)∧R J H'
noncomputable def PI(X:Cx)(tg iter:Expr)(wi:TI):Prop:=
 ∀(pins:List (Addr×Obj)) (s:Shared) (σ:St) (H:Hp) (R:It→Hp→Prop),Inv X pins σ H s→wi σ H R→
  wpAny (model X.prog X.w) X.A (eval iter X.env) (fun v s1=>wpAny (model X.prog X.w) X.A (pyIter v) (PIE X pins σ tg R) X.xe s1) X.xe s
theorem Zq4{M:Model}{A:Around}{E:Value→Shared→Prop}{s:Shared}{tg:Expr}{it:Addr}{u:Value}{o:Obj}{n:String}{vs:Array Value}{Q:Unit→Shared→Prop}(ho:s.heap.get? it=some o)(hc:o.cls= .type n)(hd:o.data= .fields vs)
    (hn:["enumerate","zip","dict_itemiterator","dict_reverseitemiterator","odict_iterator","itertools.zip_longest","itertools.pairwise"].contains n=false) (hQ:Q () s):wpAny M A (letOwnedTupleGo tg (.ref it) u) Q E s:=by
  unfold letOwnedTupleGo
  cases tg<;> first
    |exact wpAny_pure hQ
    | (cases u<;> first
        |exact wpAny_pure hQ
        | (refine wpAny_bind (wpAny_load ho ?_)
           rw[hc,hd]
           show wpAny M A (if(["enumerate","zip","dict_itemiterator","dict_reverseitemiterator","odict_iterator","itertools.zip_longest","itertools.pairwise"].contains n&&vs[0]? ==some (rawInt _))=true then _ else _) Q E s
           rw[if_neg (by intro h;rw[hn,Bool.false_and]at h;cases h)]
           exact wpAny_pure hQ))
noncomputable def Itl(K:PySem.W.Frag)(a:Addr):It:=
 ⟨fun i H=>∃xs x,SqL K H a xs∧xs[i]? =some x,fun i H x H'=>H'=H∧∀xs,SqL K H a xs→xs[i]? =some x,fun i H=>∃xs,SqL K H a xs∧xs.length≤i⟩
noncomputable def Itt(K:PySem.W.Frag)(a:Addr):It:=
 ⟨fun i H=>∃xs x,SqT K H a xs∧xs[i]? =some x,fun i H x H'=>H'=H∧∀xs,SqT K H a xs→xs[i]? =some x,fun i H=>∃xs,SqT K H a xs∧xs.length≤i⟩
noncomputable def Itr(lo:Int)(n:Nat):It:=⟨fun i _=>i<n,fun i H x H'=>H'=H∧x= .int (lo+i),fun i _=>n≤i⟩
theorem Znq{P:Program}{w:World}{K:PySem.W.Frag}{tg:Expr}(a it:Addr):Turn P w K tg (Itl K a) [it] it (fun i h=>h.IsListIter it a i)where
 mem:=by simp
 obj:=fun i h st b hb=>by
  have e:b=it:=by simpa using hb
  subst e
  obtain⟨o,e,c,d⟩:=st
  exact⟨o,e,fun v z=>by rw[d]at z;cases z⟩
 keep:=fun i h h' st k=>st.at fun o e=>k it (by simp) o e
 item:=by
  intro X hP hw hK hc i pins s σ H E I hf st hg
  subst hP hw hK
  obtain⟨xs,x,hq,hx⟩:=hg
  obtain⟨its,rv,p,hz⟩:=I.list hq
  obtain⟨u,hu,ru⟩:=rv.get hx
  obtain⟨f0,f1,f2,f3,f4,f5⟩:=hf it (by simp)
  refine wpAny_pyNext_list_item st p.isList (x:=u) (by simpa using hu) fun h' st' sb=>?_
  have I1:Inv X pins σ H {s with heap:=h'}:=I.turned (t':=s.toks) (fun b o hb e=>(sb.2 b hb).trans e) f0 f1 f3 f4 f5
  obtain⟨o,e,c,d⟩:=id st'
  exact⟨u,rfl,Zq4 (s:={s with heap:=h'}) e c d (by decide) ⟨x,H,I1,ru,⟨rfl,fun ys hy=>by rw[I.list_inj hy hq];exact hx⟩,st',fun b hb=>(hf b hb).1⟩⟩
 done:=by
  intro X hP hw hK hc i pins s σ H E I hf st hg
  subst hP hw hK
  obtain⟨xs,hq,hx⟩:=hg
  obtain⟨its,rv,p,hz⟩:=I.list hq
  obtain⟨f0,f1,f2,f3,f4,f5⟩:=hf it (by simp)
  have hl:=rv.length
  exact wpAny_pyNext_list_end (I.ok.hd hc) st p.isList (by simp;omega) fun h' eb=>⟨rfl,I.turned (t':=s.toks) (fun b o hb e=>eb b o hb e) f0 f1 f3 f4 f5⟩
 self:=fun _ _ _ _ _ st h=>wpAny_pyIter_listiter st h
theorem Zmh{P:Program}{w:World}{K:PySem.W.Frag}{tg:Expr}(a it:Addr):Turn P w K tg (Itt K a) [it] it (fun i h=>h.IsTupleIter it a i)where
 mem:=by simp
 obj:=fun i h st b hb=>by
  have e:b=it:=by simpa using hb
  subst e
  obtain⟨o,e,c,d⟩:=st
  exact⟨o,e,fun v z=>by rw[d]at z;cases z⟩
 keep:=fun i h h' st k=>st.at fun o e=>k it (by simp) o e
 item:=by
  intro X hP hw hK hc i pins s σ H E I hf st hg
  subst hP hw hK
  obtain⟨xs,x,hq,hx⟩:=hg
  obtain⟨its,rv,p,hz⟩:=I.tuple hq
  obtain⟨u,hu,ru⟩:=rv.get hx
  obtain⟨f0,f1,f2,f3,f4,f5⟩:=hf it (by simp)
  refine wpAny_pyNext_tuple_item st (show s.heap.IsTuple a its.toArray from p) (x:=u) (by simpa using hu) fun h' st' sb=>?_
  have I1:Inv X pins σ H {s with heap:=h'}:=I.turned (t':=s.toks) (fun b o hb e=>(sb.2 b hb).trans e) f0 f1 f3 f4 f5
  obtain⟨o,e,c,d⟩:=id st'
  exact⟨u,rfl,Zq4 (s:={s with heap:=h'}) e c d (by decide) ⟨x,H,I1,ru,⟨rfl,fun ys hy=>by rw[I.tuple_inj hy hq];exact hx⟩,st',fun b hb=>(hf b hb).1⟩⟩
 done:=by
  intro X hP hw hK hc i pins s σ H E I hf st hg
  subst hP hw hK
  obtain⟨xs,hq,hx⟩:=hg
  obtain⟨its,rv,p,hz⟩:=I.tuple hq
  obtain⟨f0,f1,f2,f3,f4,f5⟩:=hf it (by simp)
  have hl:=rv.length
  exact wpAny_pyNext_tuple_end (I.ok.hd hc) st (show s.heap.IsTuple a its.toArray from p) (by simp;omega) fun h' eb=>⟨rfl,I.turned (t':=s.toks) (fun b o hb e=>eb b o hb e) f0 f1 f3 f4 f5⟩
 self:=fun _ _ _ _ _ st h=>wpAny_pyIter_tupleiter st h
theorem Zmi{P:Program}{w:World}{K:PySem.W.Frag}{tg:Expr}(it:Addr)(lo:Int)(n:Nat):Turn P w K tg (Itr lo n) [it] it (fun i h=>IsRangeIter h it (lo+(i:Nat)*1) ((n:Int)- (i:Nat)) 1)where
 mem:=by simp
 obj:=fun i h st b hb=>by
  have e:b=it:=by simpa using hb
  subst e
  exact⟨_,st,fun v z=>by
   have z':Data.fields _=Data.cell v:=z
   cases z'⟩
 keep:=fun i h h' st k=>k it (by simp) _ st
 item:=by
  intro X hP hw hK hc i pins s σ H E I hf st hg
  subst hP hw hK
  obtain⟨f0,f1,f2,f3,f4,f5⟩:=hf it (by simp)
  have W:=Walks.range (prog:=X.prog) (w:=X.w) (I.ok.hd hc) it lo 1 n
  refine W.item i s _ _ hg st fun v h' tk hv st' kk=>?_
  obtain⟨t,rfl⟩:=hv
  have I1:Inv X pins σ H {s with heap:=h',toks:=tk}:=I.turned (fun b o hb e=>kk b o (by simpa using hb) e) f0 f1 f3 f4 f5
  refine⟨_,rfl,Zq4 (s:={s with heap:=h',toks:=tk}) (n:="range_iterator") st' rfl rfl (by decide) ⟨.int (lo+i),H,I1,⟨t,?_⟩,⟨rfl,rfl⟩,st',fun b hb=>(hf b hb).1⟩⟩
  rw[Int.mul_one]
 done:=by
  intro X hP hw hK hc i pins s σ H E I hf st hg
  subst hP hw hK
  obtain⟨f0,f1,f2,f3,f4,f5⟩:=hf it (by simp)
  exact wpAny_pyNext_range_end (I.ok.hd hc) st (by have:n≤i:=hg;omega) fun h' eb=>⟨rfl,I.turned (t':=s.toks) (fun b o hb e=>eb b o hb e) f0 f1 f3 f4 f5⟩
 self:=fun _ _ _ _ _ st h=>wpAny_pyIter_rangeiter st h
end L2
namespace L2
open PySem PySem.Spec PyProof.Rows
section
variable{X:Cx}{tg:Expr}
noncomputable def Z5r(K:PySem.W.Frag)(tl:TE):TI:=fun σ H R=>tl σ H fun x H1=>∃a,x= .ref a∧(∃xs,SqL K H1 a xs)∧R (Itl K a) H1
noncomputable def iTup(K:PySem.W.Frag)(tl:TE):TI:=fun σ H R=>tl σ H fun x H1=>∃a,x= .ref a∧(∃xs,SqT K H1 a xs)∧R (Itt K a) H1
theorem Zq5{pins:List (Addr×Obj)}{σ:St}{H:Hp}{s:Shared}{R:It→Hp→Prop}{E:Value→Shared→Prop}{lo hi:Int}{t u v:Tok}{tk:Nat}(I:Inv X pins σ H s)(h1:-(2^62)≤lo)(h2:lo<2^62)(h3:-(2^62)≤hi)(h4:hi<2^62)
  (q:R (Itr lo (hi- lo).toNat) H):wpAny (model X.prog X.w) X.A (pyIter (.ref s.heap.objs.size)) (PIE X pins σ tg R) E {s with heap:=s.heap.push {cls:=.type "range",data:=.fields #[.int lo t,.int hi u,.int 1 v]},toks:=tk}:=by
 refine wpAny_pyIter_range (IsRange.new ..) (small_one h1 h2 h3 h4) ?_
 have I1:Inv X pins σ H {s with heap:=s.heap.push {cls:=.type "range",data:=.fields #[.int lo t,.int hi u,.int 1 v]},toks:=tk}:=I.kept fun b o e=>Heap.get?_push_of_some _ e
 refine⟨(s.heap.push {cls:=.type "range",data:=.fields #[.int lo t,.int hi u,.int 1 v]}).objs.size,[(s.heap.push {cls:=.type "range",data:=.fields #[.int lo t,.int hi u,.int 1 v]}).objs.size],_,_,H,rfl,
  I1.kept (t':=tk) fun b o e=>Heap.get?_push_of_some _ e,Zmi _ lo (hi- lo).toNat,?_,fun b hb=>?_,q⟩
 ·have e1:lo+((0:Nat):Int)*1=lo:=by simp
  have e2:(((hi- lo).toNat:Nat):Int)- ((0:Nat):Int)=Builtin.Range.rangeSize lo hi 1:=by rw[rangeSize_one];split<;> omega
  show IsRangeIter _ _ (lo+((0:Nat):Int)*1) ((((hi- lo).toNat:Nat):Int)- ((0:Nat):Int)) 1
  rw[e1,e2]
  exact Heap.get?_push_size _ rfl
 ·have e:b=(s.heap.push {cls:=.type "range",data:=.fields #[.int lo t,.int hi u,.int 1 v]}).objs.size:=by simpa using hb
  subst e
  exact I1.fpOk (Nat.le_refl _) (I1.hok.fresh (Nat.le_refl _))
noncomputable def Zxz(ta:TA):TI:=fun σ H R=>ta σ H fun vs H1=>∃j:Int,vs=[.int j]∧-(2^62)≤j∧j<2^62∧R (Itr 0 j.toNat) H1
noncomputable def Z5s(ta:TA):TI:=fun σ H R=>ta σ H fun vs H1=>∃i j:Int,vs=[.int i,.int j]∧(-(2^62)≤i∧i<2^62∧-(2^62)≤j∧j<2^62)∧R (Itr i (j- i).toNat) H1
theorem Znr{a:Expr}{ta:TA}{p pos:Pos}(hg:Gl X "range")(hm:X.mg "range"=none)(ha:PA X [a] ta)(hs:starEach [a] X.env=[(false,eval a X.env)]:=by rfl):PI X tg (.Call (.Name "range" p) [a] [] pos) (Zxz ta):=by
 intro pins s σ H R I h
 refine Call_ (Ze8 I hg hm boot_range (PyProof.Rows.callWith_type1 (thn (ha pos pins s σ H _ I h) fun us s1 ⟨vs,H1,I1,r1,q1⟩=>?_) hs rfl))
 obtain⟨j,e,q1,q2,q⟩:=q1
 subst e
 cases r1 with
 |cons r rr=>
  cases rr
  obtain⟨t,rfl⟩:=r
  exact call_range_1 (Zq5 I1 (by omega) (by omega) q1 q2 (by simpa using q))
noncomputable def tFor(wi:TI)(g:TG)(tb:TS):TS:=fun D σ H=>wi σ H fun J H1=>∃W:Nat→Nat→St→Hp→Prop,(∃m,W 0 m σ H1)∧∀i m σ H,W i m σ H→
 (J.stop i H∧D.nx σ H)∨(J.go i H∧∃N:St→Hp→Prop,(∀σ' H',N σ' H'→∃m',m'<m∧W (i+1) m' σ' H')∧∀x H',J.yld i H x H'→g x σ H' fun σ2 H2=>tb {D with nx:=N,ct:=N,bk:=D.nx} σ2 H2)
noncomputable def Zh1(fp:List Addr)(h:Heap):List (Addr×Obj):=fp.filterMap fun b=>(h.get? b).map fun o=>(b,o)
theorem Zc4{fp:List Addr}{h:Heap}{b:Addr}{o:Obj}(hb:b∈fp)(e:h.get? b=some o):(b,o)∈Zh1 fp h:=List.mem_filterMap.mpr ⟨b,hb,by rw[e];rfl⟩
theorem Zns{fp:List Addr}{h:Heap}{p:Addr×Obj}(hp:p∈Zh1 fp h):p.1∈fp∧h.get? p.1=some p.2:=by
 obtain⟨b,hb,e⟩:=List.mem_filterMap.mp hp
 cases q:h.get? b with
 |none=>rw[q]at e;cases e
 |some o=>
  rw[q]at e
  have e':(b,o)=p:=Option.some.inj e
  subst e'
  exact⟨hb,q⟩
theorem Inv.pinned{pins:List (Addr×Obj)}{σ:St}{H:Hp}{s:Shared}{fp:List Addr}(I:Inv X pins σ H s)(hf:∀b∈fp,FpOk X pins H b)(ho:∀b∈fp,∃o,s.heap.get? b=some o∧∀v,o.data≠.cell v):Inv X (pins++Zh1 fp s.heap) σ H s:=
 I.pins_of fun p hp=>(List.mem_append.mp hp).elim (fun z=>I.pin p (List.mem_append_right _ z)) fun z=>by
  obtain⟨hb,e⟩:=Zns z
  obtain⟨f0,f1,f2,_⟩:=hf p.1 hb
  obtain⟨o,e',d⟩:=ho p.1 hb
  rw[e]at e';cases e'
  exact⟨e,f0,f1,f2,d⟩
theorem Inv.unpinned{pins pl:List (Addr×Obj)}{σ:St}{H:Hp}{s:Shared}(I:Inv X (pins++pl) σ H s):Inv X pins σ H s:=I.pins_of fun p hp=>I.pin p (List.mem_append_right _ (List.mem_append_left _ hp))
theorem Zx0 {iter : Expr} {body : List Stmt} {wi : TI} {g : TG} {tb : TS} {pos : Pos} (hp : PassesOwn (model X.prog X.w) X.A X.env X.xe) (hc : X.calm = true) (hi : PI X tg iter wi) (hg : PG X tg g) (hb : PSs X body tb)
    (hs : ∀ x, foldedSetIterable iter X.env x = pure x := by intro _; rfl) : PS X (.For tg iter body [] pos) (tFor wi g tb) := by
  intro pins s σ H D I h
  refine wpAny_For (thn (hi pins s σ H _ I h) fun v s1 h1 => thn h1 fun itv s2 h2 => ?_) hs
  obtain ⟨it, fp, tn, J, H2, e, I2, T, st2, f2, W, ⟨m0, w0⟩, turn⟩ := h2
  subst e
  -- what stays true of the iterator's objects through the loop
  have stat : ∀ {H' : Hp}, (∀ b ∈ fp, H' b = none) → ∀ b ∈ fp, FpOk X pins H' b := fun hn b hb => ⟨hn b hb, (f2 b hb).2⟩
  refine codeAny_forLoop_any (fun n s' => ∃ i σ' H', Inv X pins σ' H' s' ∧ tn i s'.heap ∧ (∀ b ∈ fp, H' b = none) ∧ W i n σ' H') ?_ m0 ⟨0, σ, H2, I2, st2, fun b hb => (f2 b hb).1, w0⟩
  rintro n s3 ⟨i, σ3, H3, I3, st3, fr3, w3⟩
  rcases turn i n σ3 H3 w3 with ⟨stop, qn⟩ | ⟨go, N, hN, step⟩
  · refine wpAny_passesOwn hp (thn (T.done X rfl rfl rfl hc i pins s3 σ3 H3 X.xe I3 (stat fr3) st3 stop) fun r s4 ⟨hr, I4⟩ => ?_)
    subst hr
    exact wpAny_execs_nil ⟨σ3, H3, I4, qn⟩
  · refine wpAny_passesOwn hp (thn (T.item X rfl rfl rfl hc i pins s3 σ3 H3 X.xe I3 (stat fr3) st3 go) fun r s4 ⟨u, hr, h4⟩ => ?_)
    subst hr
    refine wpAny_passesOwn hp (thn h4 fun _ s5 zq9 => ?_)
    obtain ⟨x, H5, I5, r5, y5, st5, fr5⟩ := zq9
    have I5' := I5.pinned (stat fr5) (T.obj _ _ st5)
    refine wpAny_passesOwn hp (thn (hg _ s5 σ3 H5 x u _ I5' r5 (step x H5 y5)) fun _ s6 zq9 => ?_)
    obtain ⟨σ6, H6, I6, q6⟩ := zq9
    refine wpAny_passesOwn hp (thn (hb _ s6 σ6 H6 _ I6 q6) fun f s7 q7 => ?_)
    have again : ∀ {σ7 : St} {H7 : Hp}, Inv X (pins ++ Zh1 fp s5.heap) σ7 H7 s7 → N σ7 H7 → ∃ m, m < n ∧ ∃ i σ' H', Inv X pins σ' H' s7 ∧ tn i s7.heap ∧ (∀ b ∈ fp, H' b = none) ∧ W i m σ' H' := fun {σ7 H7} I7 n7 => by
      obtain ⟨m', hm, w7⟩ := hN σ7 H7 n7
      refine ⟨m', hm, i + 1, σ7, H7, I7.unpinned, T.keep _ _ _ st5 fun b hb o e => (I7.pin (b, o) (List.mem_append_right _ (List.mem_append_right _ (Zc4 hb e)))).1, fun b hb => ?_, w7⟩
      obtain ⟨o, e, d⟩ := T.obj _ _ st5 b hb
      exact (I7.pin (b, o) (List.mem_append_right _ (List.mem_append_right _ (Zc4 hb e)))).2.1
    cases f with
    | next => obtain ⟨σ7, H7, I7, n7⟩ := q7; exact again I7 n7
    | cont => obtain ⟨σ7, H7, I7, n7⟩ := q7; exact again I7 n7
    | brk => obtain ⟨σ7, H7, I7, q7⟩ := q7; exact ⟨σ7, H7, I7.unpinned, q7⟩
    | ret v => obtain ⟨x7, σ7, H7, I7, r7, q7⟩ := q7; exact ⟨x7, σ7, H7, I7.unpinned, r7, q7⟩
end
end L2
namespace L2
open PySem PySem.Spec PyProof.Rows
noncomputable abbrev R2:=V→V→Hp→VK→Prop
noncomputable def OpR(X:Cx)(f:Value→Value→Sem Value)(r:R2):Prop:=
 ∀(pins:List (Addr×Obj)) (s:Shared) (σ:St) (H:Hp) (x y:V) (v u:Value) (Q:VK),Inv X pins σ H s→RelV x v→RelV y u→r x y H Q→
  wpAny (model X.prog X.w) X.A (f v u) (EP X pins σ Q) X.xe s
noncomputable def UnR(X:Cx)(f:Value→Sem Value)(r:V→Hp→VK→Prop):Prop:=
 ∀(pins:List (Addr×Obj)) (s:Shared) (σ:St) (H:Hp) (x:V) (v:Value) (Q:VK),Inv X pins σ H s→RelV x v→r x H Q→
  wpAny (model X.prog X.w) X.A (f v) (EP X pins σ Q) X.xe s
noncomputable def Zdf(X:Cx)(f:Value)(r:List V→Hp→VK→Prop):Prop:=
 ∀(pins:List (Addr×Obj)) (s:Shared) (σ:St) (H:Hp) (xs:List V) (us:List Value) (Q:VK),Inv X pins σ H s→Vals xs us→r xs H Q→
  wpAny (model X.prog X.w) X.A (call f us) (EP X pins σ Q) X.xe s
noncomputable def TruR(X:Cx)(r:V→Hp→(Bool→Hp→Prop)→Prop):Prop:=
 ∀(pins:List (Addr×Obj)) (s:Shared) (σ:St) (H:Hp) (x:V) (v:Value) (Q:Bool→Hp→Prop),Inv X pins σ H s→RelV x v→r x H Q→
  wpAny (model X.prog X.w) X.A (truthy v) (TP X pins σ Q) X.xe s
noncomputable def tOp(r:R2)(ta tb:TE):TE:=fun σ H Q=>ta σ H fun x H1=>tb σ H1 fun y H2=>r x y H2 Q
noncomputable def tUn(r:V→Hp→VK→Prop)(ta:TE):TE:=fun σ H Q=>ta σ H fun x H1=>r x H1 Q
noncomputable def rI(C:Int→Int→Prop)(g:Int→Int→V):R2:=fun x y H Q=>∃i j,x= .int i∧y= .int j∧C i j∧Q (g i j) H
noncomputable def rI0(g:Int→Int→V):R2:=fun x y H Q=>∃i j,x= .int i∧y= .int j∧Q (g i j) H
noncomputable def rU(g:Int→V):V→Hp→VK→Prop:=fun x H Q=>∃i,x= .int i∧Q (g i) H
section
variable{X:Cx}{a b c:Expr}{ta tb tc:TE}{pos:Pos}
theorem binT(ha:PE X a ta)(hb:PE X b tb){pins:List (Addr×Obj)}{s:Shared}{σ:St}{H:Hp}{R:V→V→Hp→Prop}(I:Inv X pins σ H s)
  (h:ta σ H fun x H1=>tb σ H1 fun y H2=>R x y H2) {Q:Value→Shared→Prop} {f:Value→Value→Sem Value}
  (hf:∀v u s2 x y H2,Inv X pins σ H2 s2→RelV x v→RelV y u→R x y H2→wpAny (model X.prog X.w) X.A (f v u) Q X.xe s2):
  wpAny (model X.prog X.w) X.A (eval a X.env) (fun v s₁=>wpAny (model X.prog X.w) X.A (eval b X.env) (fun u s₂=>wpAny (model X.prog X.w) X.A (f v u) Q X.xe s₂) X.xe s₁) X.xe s:=by
 refine thn (ha pins s σ H _ I h) fun v s1 zq9=>?_
 obtain⟨x,H1,I1,r1,q1⟩:=zq9
 refine thn (hb pins s1 σ H1 _ I1 q1) fun u s2 zq9=>?_
 obtain⟨y,H2,I2,r2,q2⟩:=zq9
 exact hf v u s2 x y H2 I2 r1 r2 q2
theorem Z13{op:Operator}{r:R2}(ho:OpR X (binaryOp op) r)(ha:PE X a ta)(hb:PE X b tb):PE X (.BinOp a op b pos) (tOp r ta tb):=by
 intro pins s σ H Q I h
 exact wpAny_BinOp (binT ha hb I h fun v u s2 x y H2 I2 rx ry q=>ho pins s2 σ H2 x y v u Q I2 rx ry q)
theorem opI{f:Value→Value→Sem Value}{C:Int→Int→Prop}{g:Int→Int→Int}
  (rule:∀(i j:Int) (t u:Tok) (s:Shared) (Q:Value→Shared→Prop) (E:Value→Shared→Prop),C i j→Q (.int (g i j) s.toks) {s with toks:=s.toks+1}→wpAny (model X.prog X.w) X.A (f (.int i t) (.int j u)) Q E s):
  OpR X f (rI C fun i j=>.int (g i j)):=by
 intro pins s σ H x y v u Q I rx ry h
 obtain⟨i,j,rfl,rfl,hc,q⟩:=h
 obtain⟨t,rfl⟩:=rx
 obtain⟨t',rfl⟩:=ry
 exact rule i j t t' s _ _ hc ⟨.int (g i j),H,I.tok _,⟨_,rfl⟩,q⟩
theorem opI0{f:Value→Value→Sem Value}{g:Int→Int→Int}
  (rule:∀(i j:Int) (t u:Tok) (s:Shared) (Q:Value→Shared→Prop) (E:Value→Shared→Prop),Q (.int (g i j) s.toks) {s with toks:=s.toks+1}→wpAny (model X.prog X.w) X.A (f (.int i t) (.int j u)) Q E s):
  OpR X f (rI0 fun i j=>.int (g i j)):=by
 intro pins s σ H x y v u Q I rx ry h
 obtain⟨i,j,rfl,rfl,q⟩:=h
 obtain⟨t,rfl⟩:=rx
 obtain⟨t',rfl⟩:=ry
 exact rule i j t t' s _ _ ⟨.int (g i j),H,I.tok _,⟨_,rfl⟩,q⟩
theorem opB0{f:Value→Value→Sem Value}{g:Int→Int→Bool}
  (rule:∀(i j:Int) (t u:Tok) (s:Shared) (Q:Value→Shared→Prop) (E:Value→Shared→Prop),Q (.bool (g i j)) s→wpAny (model X.prog X.w) X.A (f (.int i t) (.int j u)) Q E s):
  OpR X f (rI0 fun i j=>.bl (g i j)):=by
 intro pins s σ H x y v u Q I rx ry h
 obtain⟨i,j,rfl,rfl,q⟩:=h
 obtain⟨t,rfl⟩:=rx
 obtain⟨t',rfl⟩:=ry
 exact rule i j t t' s _ _ ⟨.bl (g i j),H,I,rfl,q⟩
noncomputable def CDiv(i j:Int):Prop:=0<j∧j<1073741824
noncomputable def Z5t(i j:Int):Prop:=j≠0∧j.natAbs<1073741824
noncomputable def CPow(i j:Int):Prop:=0≤j∧j≤1000000∧i.natAbs<2^64
noncomputable def CMul(i j:Int):Prop:=(-(2^64)<i∧i<2^64)∨(-(2^64)<j∧j<2^64)
theorem CMul.ok{i j:Int}(h:CMul i j):IntMulOk i j:=by
 rcases h with⟨h1,h2⟩|⟨h1,h2⟩
 ·exact .of_left (intBits_le_64 h1 h2)
 ·exact .of_right (intBits_le_64 h1 h2)
theorem Zx1:OpR X (binaryOp .Add) (rI0 fun i j=>.int (i+j)):=opI0 fun _ _ _ _ _ _ _ q=>add_int q
theorem Zx2:OpR X (binaryOp .Sub) (rI0 fun i j=>.int (i- j)):=opI0 fun _ _ _ _ _ _ _ q=>sub_int q
theorem Zx3:OpR X (binaryOp .Mult) (rI CMul fun i j=>.int (i*j)):=opI fun _ _ _ _ _ _ _ hc q=>mul_int q hc.ok
theorem Zuo:OpR X (binaryOp .FloorDiv) (rI CDiv fun i j=>.int (i / j)):=opI fun i j _ _ _ _ _ hc q=>by
 have h1:(0:Int)<j:=hc.1
 have h2:j<1073741824:=hc.2
 exact floordiv_int (by omega) (by rw[Int.fdiv_eq_ediv_of_nonneg i (by omega)];exact q) (.inl (PyProof.noPylong_small (by omega)))
theorem Zx4:OpR X (binaryOp .Mod) (rI (fun _ j=>0<j) fun i j=>.int (i % j)):=opI fun i j _ _ _ _ _ hc q=>by
 have h1:(0:Int)<j:=hc
 exact mod_int' (by omega) (by rw[Int.fmod_eq_emod_of_nonneg i (by omega)];exact q)
end
noncomputable def scal:V→V→Bool
 | .non,.non=>true| .non,.int _=>true| .int _,.non=>true| .non,.bl _=>true| .bl _,.non=>true| .non,.str _=>true| .str _,.non=>true
 | .int _,.int _=>true| .bl _,.bl _=>true| .str _,.str _=>true| .byt _,.byt _=>true
 | .int _,.str _=>true| .str _,.int _=>true| .bl _,.str _=>true| .str _,.bl _=>true
 |_,_=>false
noncomputable def rEq:R2:=fun x y H Q=>scal x y=true∧Q (.bl (decide (x=y))) H
noncomputable def rNe:R2:=fun x y H Q=>scal x y=true∧Q (.bl (!decide (x=y))) H
theorem Znt{i j:Int}:decide (V.int i=V.int j)=(i==j):=by
 rw[Bool.eq_iff_iff]
 simp
theorem Ztg{i j:Bool}:decide (V.bl i=V.bl j)=(i==j):=by
 rw[Bool.eq_iff_iff]
 simp
theorem Znu{i j:Str}:decide (V.str i=V.str j)=(i==j):=by
 rw[Bool.eq_iff_iff]
 simp
theorem Znv{i j:Array UInt8}:decide (V.byt i=V.byt j)=(i.toList==j.toList):=by
 rw[Bool.eq_iff_iff]
 cases i
 cases j
 simp
section
variable{X:Cx}{a b c:Expr}{ta tb tc:TE}{pos:Pos}
theorem Z7{pins:List (Addr×Obj)}{σ:St}{H:Hp}{s:Shared}{Q:VK}{k k':Bool}(I:Inv X pins σ H s)(q:Q (.bl k) H)(e:k=k'):EP X pins σ Q (.bool k') s:=by
 subst e
 exact⟨.bl k,H,I,rfl,q⟩
theorem Zx5:OpR X (compareOp .Eq) rEq:=by
 intro pins s σ H x y v u Q I rx ry h
 obtain⟨hs,q⟩:=h
 cases x with
 |non=>
  cases rx
  cases y with
  |non=>cases ry;exact PySem.EqNone.eq_none_none (Z7 I q (by simp))
  |bl j=>cases ry;exact PySem.EqNone.eq_none_bool (Z7 I q (by simp))
  |int j=>obtain⟨t',rfl⟩:=ry;exact PySem.EqNone.eq_none_int (Z7 I q (by simp))
  |str j=>obtain⟨t',rfl⟩:=ry;exact PySem.EqNone.eq_none_str (Z7 I q (by simp))
  |_=>exact absurd (show false=true from hs) Bool.false_ne_true
 |bl i=>
  cases rx
  cases y with
  |non=>cases ry;exact PySem.EqNone.eq_bool_none (Z7 I q (by simp))
  |bl j=>cases ry;exact eq_bool (Z7 I q Ztg)
  |str j=>obtain⟨t',rfl⟩:=ry;exact PySem.EqMixed.eq_bool_str (Z7 I q (by simp))
  |_=>exact absurd (show false=true from hs) Bool.false_ne_true
 |int i=>
  obtain⟨t,rfl⟩:=rx
  cases y with
  |non=>cases ry;exact PySem.EqNone.eq_int_none (Z7 I q (by simp))
  |int j=>obtain⟨t',rfl⟩:=ry;exact eq_int (Z7 I q Znt)
  |str j=>obtain⟨t',rfl⟩:=ry;exact PySem.EqMixed.eq_int_str (Z7 I q (by simp))
  |_=>exact absurd (show false=true from hs) Bool.false_ne_true
 |str i=>
  obtain⟨t,rfl⟩:=rx
  cases y with
  |non=>cases ry;exact PySem.EqNone.eq_str_none (Z7 I q (by simp))
  |bl j=>cases ry;exact PySem.EqMixed.eq_str_bool (Z7 I q (by simp))
  |int j=>obtain⟨t',rfl⟩:=ry;exact PySem.EqMixed.eq_str_int (Z7 I q (by simp))
  |str j=>obtain⟨t',rfl⟩:=ry;exact eq_str (Z7 I q Znu)
  |_=>exact absurd (show false=true from hs) Bool.false_ne_true
 |byt i=>
  obtain⟨t,rfl⟩:=rx
  cases y with
  |byt j=>obtain⟨t',rfl⟩:=ry;exact PySem.W.eq_bytes (Z7 I q Znv)
  |_=>exact absurd (show false=true from hs) Bool.false_ne_true
 |_=>cases y<;> exact absurd (show false=true from hs) Bool.false_ne_true
theorem Z14:OpR X (compareOp .NotEq) rNe:=by
 intro pins s σ H x y v u Q I rx ry h
 obtain⟨hs,q⟩:=h
 cases x with
 |non=>
  cases rx
  cases y with
  |non=>cases ry;exact PySem.EqNone.ne_none_none (Z7 I q (by simp))
  |bl j=>cases ry;exact PySem.EqNone.ne_none_bool (Z7 I q (by simp))
  |int j=>obtain⟨t',rfl⟩:=ry;exact PySem.EqNone.ne_none_int (Z7 I q (by simp))
  |str j=>obtain⟨t',rfl⟩:=ry;exact PySem.EqNone.ne_none_str (Z7 I q (by simp))
  |_=>exact absurd (show false=true from hs) Bool.false_ne_true
 |bl i=>
  cases rx
  cases y with
  |non=>cases ry;exact PySem.EqNone.ne_bool_none (Z7 I q (by simp))
  |bl j=>cases ry;exact ne_bool (Z7 I q (congrArg not Ztg))
  |str j=>obtain⟨t',rfl⟩:=ry;exact PySem.EqMixed.ne_bool_str (Z7 I q (by simp))
  |_=>exact absurd (show false=true from hs) Bool.false_ne_true
 |int i=>
  obtain⟨t,rfl⟩:=rx
  cases y with
  |non=>cases ry;exact PySem.EqNone.ne_int_none (Z7 I q (by simp))
  |int j=>obtain⟨t',rfl⟩:=ry;exact ne_int (Z7 I q (congrArg not Znt))
  |str j=>obtain⟨t',rfl⟩:=ry;exact PySem.EqMixed.ne_int_str (Z7 I q (by simp))
  |_=>exact absurd (show false=true from hs) Bool.false_ne_true
 |str i=>
  obtain⟨t,rfl⟩:=rx
  cases y with
  |non=>cases ry;exact PySem.EqNone.ne_str_none (Z7 I q (by simp))
  |bl j=>cases ry;exact PySem.EqMixed.ne_str_bool (Z7 I q (by simp))
  |int j=>obtain⟨t',rfl⟩:=ry;exact PySem.EqMixed.ne_str_int (Z7 I q (by simp))
  |str j=>obtain⟨t',rfl⟩:=ry;exact ne_str (Z7 I q (congrArg not Znu))
  |_=>exact absurd (show false=true from hs) Bool.false_ne_true
 |byt i=>
  obtain⟨t,rfl⟩:=rx
  cases y with
  |byt j=>obtain⟨t',rfl⟩:=ry;exact PySem.W.ne_bytes (Z7 I q (congrArg not Znv))
  |_=>exact absurd (show false=true from hs) Bool.false_ne_true
 |_=>cases y<;> exact absurd (show false=true from hs) Bool.false_ne_true
theorem Z15:OpR X (compareOp .Lt) (rI0 fun i j=>.bl (decide (i<j))):=opB0 fun _ _ _ _ _ _ _ q=>lt_int q
theorem Zx6:OpR X (compareOp .LtE) (rI0 fun i j=>.bl (decide (i≤j))):=opB0 fun _ _ _ _ _ _ _ q=>le_int q
theorem Zh2:OpR X (compareOp .In) (fun x y H Q=>∃i j,x= .str i∧y= .str j∧Q (.bl (!(Builtin.Str.occurrences j i 0 j.length 1).isEmpty)) H):=by
 intro pins s σ H x y v u Q I rx ry h
 obtain⟨i,j,rfl,rfl,q⟩:=h
 obtain⟨t,rfl⟩:=rx
 obtain⟨t',rfl⟩:=ry
 exact in_str (Z7 I q rfl)
theorem Zx7:OpR X (compareOp .Is) (fun x y H Q=>y= .non∧Q (.bl (decide (x= .non))) H):=by
 intro pins s σ H x y v u Q I rx ry h
 obtain⟨rfl,q⟩:=h
 cases ry
 refine is_none_gen (Z7 I q ?_)
 cases x<;> first
  | (cases rx;rfl)
  | (obtain⟨t,rfl⟩:=rx;rfl)
noncomputable def Z5u:HO→Bool
 | .lst _=>true
 | .ins _ _ _=>true
 |_=>false
theorem OpR.or{f:Value→Value→Sem Value}{r r':R2}(h:OpR X f r)(h':OpR X f r'):OpR X f (fun x y H Q=>r x y H Q∨r' x y H Q):=by
 intro pins s σ H x y v u Q I rx ry q
 rcases q with q|q
 ·exact h pins s σ H x y v u Q I rx ry q
 ·exact h' pins s σ H x y v u Q I rx ry q
theorem Zh3(b:Expr){op:CmpOp}(h:op≠.In:=by decide)(h2:op≠.NotIn:=by decide):behindInMarks op b=false:=by
 have e1:(op==CmpOp.In)=false:=by cases op<;> first|rfl|exact absurd rfl h
 have e2:(op==CmpOp.NotIn)=false:=by cases op<;> first|rfl|exact absurd rfl h2
 cases b<;> simp[behindInMarks,e1,e2]
theorem Zup{op:CmpOp}{r:R2}(ho:OpR X (compareOp op) r)(ha:PE X a ta)(hb:PE X b tb)(hm:behindInMarks op b=false):PE X (.Compare a [op] [b] pos) (tOp r ta tb):=by
 intro pins s σ H Q I h
 exact wpAny_Compare1 (binT ha hb I h fun v u s2 x y H2 I2 rx ry q=>ho pins s2 σ H2 x y v u Q I2 rx ry q) hm
noncomputable def Zx8(t:TE):TT:=fun σ H Q=>t σ H fun x H'=>∃k,x= .bl k∧Q k H'
theorem Zuq{op:CmpOp}{r:R2}(ho:OpR X (compareOp op) r)(ha:PE X a ta)(hb:PE X b tb)(hm:behindInMarks op b=false):PT X (.Compare a [op] [b] pos) (Zx8 (tOp r ta tb)):=by
 intro pins s σ H Q I h
 refine wpAny_isTrue_Compare1 (thn (ha pins s σ H _ I h) fun v s1 ⟨x,H1,I1,r1,q1⟩=>thn (hb pins s1 σ H1 _ I1 q1) fun u s2 ⟨y,H2,I2,r2,q2⟩=>
  thn (ho pins s2 σ H2 x y v u _ I2 r1 r2 q2) fun c s3 ⟨z,H3,I3,r3,k,e,q3⟩=>?_) hm
 subst e
 cases r3
 exact wpAny_truthy_bool ⟨H3,I3,q3⟩
noncomputable def Zth(r r':R2)(ta tb tc:TE):TE:=fun σ H Q=>ta σ H fun x H1=>tb σ H1 fun y H2=>r x y H2 fun z H3=>∃k,z= .bl k∧
 (if k=true then tc σ H3 fun w' H4=>r' y w' H4 Q else Q (.bl false) H3)
theorem Zq6{op op':CmpOp}{r r':R2}(ho:OpR X (compareOp op) r)(ho':OpR X (compareOp op') r')(ha:PE X a ta)(hb:PE X b tb)(hc:PE X c tc)
  (hm:lastMarks [op,op'] [b,c]=false:=by with_unfolding_all rfl):PE X (.Compare a [op,op'] [b,c] pos) (Zth r r' ta tb tc):=by
 intro pins s σ H Q I h
 refine Compare_chain (thn (ha pins s σ H _ I h) fun v s1 ⟨x,H1,I1,r1,q1⟩=>chain_link (thn (hb pins s1 σ H1 _ I1 q1) fun u s2 ⟨y,H2,I2,r2,q2⟩=>
  thn (ho pins s2 σ H2 x y v u _ I2 r1 r2 q2) fun d s3 ⟨z,H3,I3,r3,k,e,q3⟩=>?_)) hm
 subst e
 cases r3
 refine wpAny_truthy_bool ?_
 cases k with
 |false=>exact ite_ff ⟨.bl false,H3,I3,rfl,q3⟩
 |true=>exact ite_tt (chain_last (thn (hc pins s3 σ H3 _ I3 q3) fun w' s4 ⟨z',H4,I4,r4,q4⟩=>ho' pins s4 σ H4 y z' u w' Q I4 r2 r4 q4))
noncomputable def TruV(K:PySem.W.Frag)(x:V)(H:Hp)(k:Bool):Prop:=
 match x with
 | .non=>k=false
 | .bl b=>k=b
 | .int i=>k=(i !=0)
 | .str y=>y.length≤sizeLine∧k=((y.length:Int) !=0)
 | .byt y=>y.size≤sizeLine∧k=((y.size:Int) !=0)
 | .ref p=>(∃xs,SqL K H p xs∧k= !xs.isEmpty)∨(∃xs,SqT K H p xs∧k= !xs.isEmpty)∨∃kvs,HK H p kvs∧k= !kvs.isEmpty
 |_=>False
theorem Zh4:(sizeLine:Nat)<2^63:=by rw[sizeLine_eq];decide
theorem Zmj:OpR X (binaryOp .Add) (fun x y H Q=>∃i j,x= .str i∧y= .str j∧i.length+j.length≤sizeLine∧Q (.str (i++j)) H):=by
 intro pins s σ H x y v u Q I rx ry h
 obtain⟨i,j,rfl,rfl,hz,q⟩:=h
 obtain⟨t,rfl⟩:=rx
 obtain⟨t',rfl⟩:=ry
 exact add_str (fun t' tk=>⟨.str (i++j),H,I.tok _,⟨_,rfl⟩,q⟩) hz
noncomputable def Z1j(b:Expr):Prop:=∀o i,subscripted b false o i=operate [o,i] (getItem o i)
theorem Zds{x:V}{us:List Value}(r:Vals [x] us):∃u,us=[u]∧RelV x u:=by
 cases r with
 |cons r1 r2=>cases r2;exact⟨_,rfl,r1⟩
theorem Zur{x y:V}{us:List Value}(r:Vals [x,y] us):∃u w',us=[u,w']∧RelV x u∧RelV y w':=by
 cases r with
 |cons r1 r2=>
  cases r2 with
  |cons r3 r4=>cases r4;exact⟨_,_,rfl,r1,r3⟩
theorem Znw:Zdf X (.type "int") (fun xs H Q=>(∃i,xs=[.int i]∧Q (.int i) H)∨∃k,xs=[.bl k]∧Q (.int (if k then 1 else 0)) H):=by
 intro pins s σ H xs us Q I r h
 rcases h with⟨i,rfl,q⟩|⟨k,rfl,q⟩
 ·obtain⟨u,rfl,t,rfl⟩:=Zds r
  exact call_int_int ⟨.int i,H,I,⟨_,rfl⟩,q⟩
 ·obtain⟨u,rfl,r1⟩:=Zds r
  cases r1
  exact call_int_bool ⟨.int (if k then 1 else 0),H,I.tok _,⟨_,rfl⟩,q⟩
noncomputable def LenV(K:PySem.W.Frag)(x:V)(H:Hp)(n:Nat):Prop:=
 match x with
 | .str y=>y.length≤sizeLine∧n=y.length
 | .byt y=>y.size≤sizeLine∧n=y.size
 | .ref p=>(∃xs,SqL K H p xs∧n=xs.length)∨∃xs,SqT K H p xs∧n=xs.length
 |_=>False
end
end L2
namespace L2
open PySem PySem.Spec PyProof.Rows
structure ObjM(h:Heap)(x dx C:Addr)(mA:Str→Option Value):Prop where
 obj:h.get? x=some (PySem.W.instObj C dx)
 ns:h.Ns1 dx mA
 ne:dx≠x
section
variable{prog:Program}{w:World}{A:Around}{E:Value→Shared→Prop}{s:Shared}{K:PySem.W.Frag}{x dx C f:Addr}{mA:Str→Option Value}{name:Str}{v:Value}
end
noncomputable def putF(f:Str)(v:V):List (Str×V)→List (Str×V)
  | []=>[(f,v)]
  | (g,x)::r=>if g=f then(g,v)::r else(g,x)::putF f v r
theorem RelO.some_of{v:V}{o:Option Value}(r:RelO (some v) o):∃u,o=some u∧RelV v u:=by
 cases o with
 |none=>exact(show False from r).elim
 |some u=>exact⟨u,rfl,r⟩
theorem Znx{v:V}{u:Value}(r:RelV v u):PySem.W.handedIn u=true:=by
 cases v with
 |non=>cases(show u=Value.none from r);rfl
 |bl b=>cases(show u=Value.bool b from r);rfl
 |int i=>obtain⟨t,e⟩:=(show∃t,u=Value.int i t from r);cases e;rfl
 |str x=>obtain⟨t,e⟩:=(show∃t,u=Value.str x t from r);cases e;rfl
 |byt b=>obtain⟨t,e⟩:=(show∃t,u=Value.bytes b t from r);cases e;rfl
 |flt b=>obtain⟨t,e⟩:=(show∃t,u=Value.float b t from r);cases e;rfl
 |ref a=>cases(show u=Value.ref a from r);rfl
 |ty n=>cases(show u=Value.type n from r);rfl
section
variable{P:Program}{w:World}{H H':Hp}{h h':Heap}{a C dx:Addr}{fs fs':List (Str×V)}
end
structure Cls(K:PySem.W.Frag)(C:Addr):Prop where
 pg:PySem.W.plainGet K C Str.empty=true
 hd:PySem.W.hasDictIn K C=true
 po:PySem.W.plainOver K C=true
 sa:PySem.W.findIn K (.ref C) "__setattr__"=some (some (.builtin "object.__setattr__"))
noncomputable def Zny(K:PySem.W.Frag)(C:Addr)(f:Str):Prop:=PySem.W.findIn K (.ref C) f=some none
structure Con(K:PySem.W.Frag)(C:Addr)(f:Str)(v:V)(u:Value):Prop where
 at_:PySem.W.findIn K (.ref C) f=some (some u)
 rel:RelV v u
 get:PySem.W.specialIn K u "__get__"=some none
 cp:PySem.W.copiedNames.contains f=false
structure Meth(K:PySem.W.Frag)(C:Addr)(m:Str)(f:Addr):Prop where
 at_:PySem.W.findIn K (.ref C) m=some (some (.ref f))
 fn:PySem.W.isFn K (.ref f)=true
 kp:PySem.W.keepIn K (.ref f)=true
section
variable{X:Cx}{pins:List (Addr×Obj)}{σ:St}{H:Hp}{s:Shared}{a C dx:Addr}{fs:List (Str×V)}{f:Str}{v:V}{A:Around}{E:Value→Shared→Prop}
theorem Zus{prog:Program}{w:World}{env:Env}{e:Expr}{f:Str}{pos:Pos}{s:Shared}{Q:Value→Shared→Prop}(hb:attributeBase e f env (eval e env)=eval e env)
  (h:wpAny (model prog w) A (eval e env) (fun o s₁=>wpAny (model prog w) A (getAttr o f true) Q E s₁) E s):wpAny (model prog w) A (eval (.Attribute e f pos) env) Q E s:=
 Attribute_any_ h (by rw[arm_eval_Attribute,hb])
end
noncomputable def tFld(K:PySem.W.Frag)(ta:TE)(f:Str):TE:=fun σ H Q=>ta σ H fun x H1=>∃a C dx fs v,x= .ref a∧H1 a=some (.ins C dx fs)∧Cls K C∧Zny K C f∧fs.lookup f=some v∧Q v H1
noncomputable def tCon(K:PySem.W.Frag)(ta:TE)(f:Str):TE:=fun σ H Q=>ta σ H fun x H1=>∃a C dx fs v u,x= .ref a∧H1 a=some (.ins C dx fs)∧Cls K C∧Con K C f v u∧fs.lookup f=none∧Q v H1
noncomputable def sFld(K:PySem.W.Frag)(ta tv:TE)(f:Str):TS:=fun D σ H=>tv σ H fun y H1=>ta σ H1 fun x H2=>∃a C dx fs,x= .ref a∧H2 a=some (.ins C dx fs)∧Cls K C∧Zny K C f∧fs.length<1000∧
 D.nx σ (upd H2 a (.ins C dx (putF f y fs)))
noncomputable def InOp(X:Cx)(op:Operator)(rd:V→V→Hp→VK→Prop):Prop:=
 ∀(pins:List (Addr×Obj)) (s:Shared) (σ:St) (H:Hp) (x y:V) (u v:Value) (Q:VK),Inv X pins σ H s→RelV x u→RelV y v→rd x y H Q→wpAny (model X.prog X.w) X.A (inplaceOp op u v) (EP X pins σ Q) X.xe s
noncomputable def Z16(K:PySem.W.Frag)(ta tv:TE)(rd:V→V→Hp→VK→Prop)(f:Str):TS:=fun D σ H=>ta σ H fun x H1=>∃a C dx fs v,x= .ref a∧H1 a=some (.ins C dx fs)∧Cls K C∧Zny K C f∧fs.lookup f=some v∧
 tv σ H1 fun y H2=>rd v y H2 fun z H3=>∃dx' fs',H3 a=some (.ins C dx' fs')∧fs'.length<1000∧D.nx σ (upd H3 a (.ins C dx' (putF f z fs')))
section
variable{X:Cx}{o e value:Expr}{f:Str}{pos pos' tpos:Pos}{ta tv:TE}
noncomputable def rAdd:V→V→Hp→VK→Prop:=fun x y H Q=>∃i j,x= .int i∧y= .int j∧Q (.int (i+j)) H
noncomputable def rSub:V→V→Hp→VK→Prop:=fun x y H Q=>∃i j,x= .int i∧y= .int j∧Q (.int (i- j)) H
end
section
variable{X:Cx}{pins:List (Addr×Obj)}{σ:St}{H:Hp}{s:Shared}{A:Around}{E:Value→Shared→Prop}{Q:Value→Shared→Prop}{c:Value}{b:Bool}
inductive TyOf(K:PySem.W.Frag)(H:Hp):V→Value→Prop where
 |non:TyOf K H .non (.type "NoneType")
 |bl (x:Bool):TyOf K H (.bl x) (.type "bool")
 |int (i:Int):TyOf K H (.int i) (.type "int")
 |str (x:Str):TyOf K H (.str x) (.type "str")
 |flt (x:UInt64):TyOf K H (.flt x) (.type "float")
 |lst {a:Addr} {xs:List V} (e:H a=some (.lst xs)):TyOf K H (.ref a) (.type "list")
 |frz {a:Addr} {o:Obj} {xs:List V} (e:H a=some (.frz o (.lst xs))):TyOf K H (.ref a) (.type "list")
 |tup {a:Addr} {xs:List V} (e:H a=some (.tup xs)):TyOf K H (.ref a) (.type "tuple")
 |dK {a:Addr} {kvs:List (Key×V)} {ep:Nat} (e:H a=some (.dK kvs ep)):TyOf K H (.ref a) (.type "dict")
 |dT {a:Addr} {kvs:List (List Key×V)} {ep:Nat} {bs:List Addr} (e:H a=some (.dT kvs ep bs)):TyOf K H (.ref a) (.type "dict")
 |ins {a C dx:Addr} {fs:List (Str×V)} (e:H a=some (.ins C dx fs)) (cl:Cls K C) (ha:PySem.W.findIn K (.ref C) "__class__"=some (some (.builtin "object.__class__")))
   (hn:PySem.W.specialIn K (.builtin "object.__class__") "__get__"=some (some (.builtin "getset_descriptor.__get__"))) (htk:PySem.W.takesIn K (.builtin "object.__class__")=some true)
   (hm:PySem.W.mroIn K C (.type "object")=some true):TyOf K H (.ref a) (.ref C)
end
end L2
namespace L2
open PySem PySem.Spec PyProof.Rows
structure Room(k:Nat)(A:Around):Prop where
 hd:A.handled=none
 dp:A.depth+3*k+5<recursionLimit
 un:A.units+16*k+200<cLine
theorem Room.mono{j k:Nat}{A:Around}(r:Room k A)(h:j≤k):Room j A:=⟨r.hd,by have:=r.dp;omega,by have:=r.un;omega⟩
theorem Room.deeper{k:Nat}{A:Around}(r:Room (k+1) A)(env:Env):Room k (A.deeper env):=
 ⟨r.hd,by have:=r.dp;show A.depth+1+3*k+5<_;omega,by have:=r.un;show A.units+3+16*k+200<_;omega⟩
theorem Zmk{A:Around}{C:Addr}{us:List Value}{kw:List (Str×Value)}:(A.under (.builtin "type.__call__" ⟨.ref C::us,kw⟩)).depth=A.depth+1:=by
 first|rfl|simp[Around.under,Code.weight,Code.isCreation,Code.isGuard,Code.isCaller,Code.frames,Code.isFrame,guardIds]
theorem Zml{A:Around}{C:Addr}{us:List Value}{kw:List (Str×Value)}:(A.under (.builtin "type.__call__" ⟨.ref C::us,kw⟩)).units=A.units+1:=by
 first|rfl|simp[Around.under,Code.cUnits,Code.frames,Code.isFrame]
theorem Room.make{k:Nat}{A:Around}(r:Room (k+1) A)(C:Addr)(us:List Value)(kw:List (Str×Value)):Room k (A.under (.builtin "type.__call__" ⟨.ref C::us,kw⟩)):=
 ⟨r.hd,by have:=r.dp;rw[Zmk];omega,by have:=r.un;rw[Zml];omega⟩
theorem Room.depth{k:Nat}{A:Around}(r:Room k A):A.depth<recursionLimit:=by have:=r.dp;omega
theorem Room.units{k:Nat}{A:Around}(r:Room k A):A.units+64<cLine:=by have:=r.un;omega
noncomputable def tNil:TA:=fun _ H Q=>Q [] H
noncomputable def Zjr(ta:TE)(tr:TA):TA:=fun σ H Q=>ta σ H fun x H1=>tr σ H1 fun xs H2=>Q (x::xs) H2
section
variable{X:Cx}{e:Expr}{es:List Expr}{te:TE}{t:TA}{pos:Pos}
theorem Zdt:PA X [] tNil:=fun _ _ _ _ H Q I h=>Calls.spliced_nil ⟨[],H,I,.nil,h⟩
theorem Za5(ha:PE X e te)(hr:PA X es t)(hs:starEach (e::es) X.env=(false,eval e X.env)::starEach es X.env:=by rfl):PA X (e::es) (Zjr te t):=by
 intro pos pins s σ H Q I h
 rw[hs]
 show wpAny _ _ (spliced ((false,eval e X.env)::backTo pos (starEach es X.env))) _ _ s
 refine Calls.spliced_cons (thn (ha pins s σ H _ I h) fun u s1 zq9=>?_)
 obtain⟨x,H1,I1,r1,q1⟩:=zq9
 exact thn (hr pos pins s1 σ H1 _ I1 q1) fun us s2 ⟨xs,H2,I2,r2,q2⟩=>⟨x::xs,H2,I2,.cons r1 r2,q2⟩
noncomputable def tTup(t:TA):TE:=fun σ H Q=>t σ H fun xs H1=>xs.length≤sizeLine∧∀p,H1 p=none→Q (.ref p) (upd H1 p (.tup xs))
noncomputable def tLst(t:TA):TE:=fun σ H Q=>t σ H fun xs H1=>xs.length≤sizeLine∧∀p,H1 p=none→Q (.ref p) (upd H1 p (.lst xs))
theorem Zx9{x1} (h:PA X es t):PE X (.Tuple es x1 pos) (tTup t):=by
 intro pins s σ H Q I hq
 refine wpAny_Tuple_spliced (thn (h pos pins s σ H _ I hq) fun us s1 ⟨xs,H1,I1,r,z,q⟩=>⟨by rw[←r.length];exact z,?_⟩)
 have hf:H1 s1.heap.objs.size=none:=I1.hok.fresh (Nat.le_refl _)
 refine⟨.ref s1.heap.objs.size,upd H1 s1.heap.objs.size (.tup xs),I1.laid (t':=s1.toks) (fun b u e=>Heap.get?_push_of_some _ e) (Nat.le_refl _) ?_,rfl,q _ hf⟩
 exact⟨z,us,r,⟨_,Heap.get?_push_size _ rfl,rfl,_,rfl⟩⟩
theorem Zya(h:PA X es t):PE X (.List es pos) (tLst t):=by
 intro pins s σ H Q I hq
 refine wpAny_List_spliced (thn (h pos pins s σ H _ I hq) fun us s1 ⟨xs,H1,I1,r,z,q⟩=>⟨by rw[←r.length];exact z,?_⟩)
 have hf:H1 s1.heap.objs.size=none:=I1.hok.fresh (Nat.le_refl _)
 refine⟨.ref s1.heap.objs.size,upd H1 s1.heap.objs.size (.lst xs),I1.laid (t':=s1.toks) (fun b u e=>Heap.get?_push_of_some _ e) (Nat.le_refl _) ?_,rfl,q _ hf⟩
 exact⟨z,us,0,r,Heap.get?_push_size _ rfl⟩
end
noncomputable abbrev Sp:=List V→Hp→VK→XK→Prop
noncomputable abbrev CXT:=List Env→Hp→Shared→XK→Value→Shared→Prop
structure Env0(P:Program)(w:World)(K:PySem.W.Frag)(mg:Str→Option Value)(base:Heap)(A:Around)(outer:List Env)(s:Shared)(H:Hp):Prop where
 frames:A.frames=some outer
 mod:Mod K mg base
 bs:∀b o,base.get? b=some o→s.heap.get? b=some o∧H b=none
 bsz:base.objs.size≤s.heap.objs.size
 funs:s.heap.FunFrames base outer
 frf:∀b∈frs outer,H b=none
 hok:HOk P w H s.heap
 bare:AllBare s.gens
noncomputable def CE(outer:List Env)(P:Program)(w:World)(H:Hp)(s:Shared)(Q:VK)(u:Value)(s':Shared):Prop:=
 ∃v H',s'.os=s.os∧AllBare s'.gens∧Un (frs outer) [] H H' s.heap s'.heap∧HOk P w H' s'.heap∧RelV v u∧Q v H'
noncomputable def CR(CX:CXT)(outer:List Env)(P:Program)(w:World)(H:Hp)(s:Shared)(Q:VK)(E:XK)(r:Result)(s':Shared):Prop:=
 match r with
 | .ok (.ret u)=>CE outer P w H s Q u s'
 | .ok _=>False
 | .error e=>CX outer H s E e s'
structure FnOk(P:Program)(w:World)(K:PySem.W.Frag)(mg:Str→Option Value)(base:Heap)(CX:CXT)(k:Nat)(f:Addr)(fd:FuncData)(ps:List Str)(sp:Sp):Prop where
 len:∀vs H Q E,sp vs H Q E→vs.length=ps.length
 run:∀(A:Around) (outer:List Env) (s:Shared) (H:Hp) (args:Args) (us:List Value) (vs:List V) (Q:VK) (E:XK),Room k A→Env0 P w K mg base A outer s H→BindsTo s fd args (ps.zip us)→Vals vs us→sp vs H Q E→
  codeAny (model P w) A (.call (.ref f) args) (CR CX outer P w H s Q E) s
theorem Env0.make{P:Program}{w:World}{K:PySem.W.Frag}{mg:Str→Option Value}{base:Heap}{A:Around}{outer:List Env}{s:Shared}{H:Hp}(e:Env0 P w K mg base A outer s H)(C:Addr)(us:List Value)(kw:List (Str×Value)):
  Env0 P w K mg base (A.under (.builtin "type.__call__" ⟨.ref C::us,kw⟩)) outer s H:=⟨by first|exact e.frames| (simpa[Around.under,Code.envs,Code.isFrame,pushEnvs]using e.frames),e.mod,e.bs,e.bsz,e.funs,e.frf,e.hok,e.bare⟩
section
variable{X:Cx}{pins:List (Addr×Obj)}{σ:St}{H:Hp}{s s':Shared}
theorem Inv.env0(I:Inv X pins σ H s):Env0 X.prog X.w X.K X.mg X.base X.A X.stack s H:=
 ⟨I.ok.frames,I.ok.mod,I.bs,Nat.le_trans I.ok.bsz I.sz,I.stack,I.stkFree,I.hok,I.bare⟩
theorem Inv.after{Q:VK}{u:Value}(I:Inv X pins σ H s)(h:CE X.stack X.prog X.w H s Q u s'):EP X pins σ Q u s':=by
 obtain⟨v,H',os,bare,un,hok,r,q⟩:=h
 obtain⟨hh,g,d,t,os'⟩:=s'
 obtain rfl:os'=s.os:=os
 exact⟨v,H',I.call (h':=hh) (g':=g) (d':=d) (t':=t) (ch:=[]) un hok bare (fun b z=>absurd z (by simp)),r,q⟩
end
noncomputable def Zyb(sp:Sp)(dvs:List V)(E:XK)(t:TA):TE:=fun σ H Q=>t σ H fun vs H1=>sp (vs++dvs) H1 Q E
noncomputable def Z5v(C:Addr)(m:Str)(sp:Sp)(dvs:List V)(E:XK)(ta:TE)(t:TA):TE:=fun σ H Q=>ta σ H fun x H1=>∃a dx fs,x= .ref a∧H1 a=some (.ins C dx fs)∧fs.lookup m=none∧
 t σ H1 fun vs H2=>sp (x::(vs++dvs)) H2 Q E
noncomputable def Z5w(C:Addr)(sp:Sp)(dvs:List V)(E:XK)(t:TA):TE:=fun σ H Q=>t σ H fun vs H1=>∀x dx,H1 x=none→H1 dx=none→dx≠x→
 sp (.ref x::(vs++dvs)) (upd (upd H1 dx (.own x)) x (.ins C dx [])) (fun v H2=>v= .non∧Q (.ref x) H2) E
noncomputable def Za3(K:PySem.W.Frag)(fd:FuncData)(ps:List Str)(ds:List Value):Prop:=
 ∀(s:Shared) (us:List Value),K.In s.heap→(us++ds).length=ps.length→BindsTo s fd ⟨us,[]⟩ (ps.zip (us++ds))
theorem Za3.all{K:PySem.W.Frag}{fd:FuncData}{ps:List Str}(h:∀us:List Value,us.length=ps.length→bindArgs fd ⟨us,[]⟩=pure (ps.zip us)):Za3 K fd ps []:=fun s us _ hl=>by
 rw[List.append_nil]at hl⊢
 exact .of_eq (h us hl)
noncomputable def Znz(CX:CXT)(X:Cx)(E:XK):Prop:=∀(pins:List (Addr×Obj)) (σ:St) (H:Hp) (s:Shared) (e:Value) (s':Shared),Inv X pins σ H s→CX X.stack H s E e s'→X.xe e s'
section
variable{X:Cx}{CX:CXT}{k:Nat}{f C:Addr}{fd:FuncData}{ps:List Str}{sp:Sp}{dvs:List V}{ds:List Value}{E:XK}{x m:Str}{p pos apos:Pos}{e o:Expr}{es:List Expr}{ta:TE}{t:TA}
theorem Zyc{pins:List (Addr×Obj)}{σ:St}{H:Hp}{s:Shared}{Q:VK}{us:List Value}{vs:List V}(F:FnOk X.prog X.w X.K X.mg X.base CX k f fd ps sp)(hr:Room k X.A)(hb:Za3 X.K fd ps ds)(hd:Vals dvs ds)(hx:Znz CX X E)
  (I:Inv X pins σ H s) (r:Vals vs us) (h:sp (vs++dvs) H Q E):wpAny (model X.prog X.w) X.A (call (.ref f) us) (EP X pins σ Q) X.xe s:=by
 have r2:Vals (vs++dvs) (us++ds):=r.append hd
 have hl:(us++ds).length=ps.length:=by rw[←r2.length];exact F.len _ _ _ _ h
 refine wpAny_call (codeAny_mono (F.run X.A X.stack s H ⟨us,[]⟩ (us++ds) (vs++dvs) Q E hr I.env0 (hb s us I.kIn hl) r2 h) fun r s' hq=>?_)
 cases r with
 |error e=>exact hx pins σ H s e s' I hq
 |ok fl=>
  cases fl with
  |ret u=>exact I.after hq
  |next=>exact False.elim hq
  |brk=>exact False.elim hq
  |cont=>exact False.elim hq
theorem Zut(F:FnOk X.prog X.w X.K X.mg X.base CX k f fd ps sp)(hr:Room k X.A)(hg:Gl X x)(hm:X.mg x=some (.ref f))(hk:PySem.W.keepIn X.K (.ref f)=true)(hb:Za3 X.K fd ps ds)(hd:Vals dvs ds)(hx:Znz CX X E)
  (ha:PA X (e::es) t) (hdb:(x==("__debug__":Str))=false:=by decide) (he:starEach (e::es) X.env=(false,eval e X.env)::starEach es X.env:=by rfl) (hpl:(backTo pos (starEach es X.env)).any (·.1)=false:=by rfl):
  PE X (.Call (.Name x p) (e::es) [] pos) (Zyb sp dvs E t):=by
 intro pins s σ H Q I h
 refine wpAny_Call_Name_kw (Ze7 I hg hm ?_ hdb)
 refine PySem.W.callWith_K (h₀:=X.base) I.ok.mod.kin hk (thn (ha pos pins s σ H _ I h) fun us s1 ⟨vs,H1,I1,r,q⟩=>⟨I1.kIn,?_⟩) he hpl
 exact Zyc F hr hb hd hx I1 r q
structure Mk(K:PySem.W.Frag)(C f:Addr):Prop where
 makes:PySem.W.makesIn K C=true
 init:PySem.W.findIn K (.ref C) "__init__"=some (some (.ref f))
 fn:PySem.W.isFn K (.ref f)=true
 kp:PySem.W.keepIn K (.ref C)=true
end
noncomputable def PK(X:Cx)(kws:List Keyword)(t:TA):Prop:=
 ∀(pos:Pos) (pins:List (Addr×Obj)) (s:Shared) (σ:St) (H:Hp) (Q:List V→Hp→Prop),Inv X pins σ H s→t σ H Q→wpAny (model X.prog X.w) X.A (evalAll ((backToKw pos (keywordEach kws X.env)).map (·.2))) (AP X pins σ Q) X.xe s
section
variable{X:Cx}{CX:CXT}{k:Nat}{f C:Addr}{fd:FuncData}{ps ks:List Str}{sp:Sp}{E:XK}{x m:Str}{p pos apos kpos:Pos}{e o:Expr}{es:List Expr}{kws:List Keyword}{te ta:TE}{t tk:TA}{nm:Option Str}
structure KBinds(K:PySem.W.Frag)(fd:FuncData)(ps ks:List Str)(g:List Value→List Value→List Value)(gV:List V→List V→List V):Prop where
 to:∀(s:Shared) (us ws:List Value),K.In s.heap→(g us ws).length=ps.length→BindsTo s fd ⟨us,ks.zip ws⟩ (ps.zip (g us ws))
 rel:∀{vs:List V} {us:List Value} {zs:List V} {ws:List Value},Vals vs us→Vals zs ws→Vals (gV vs zs) (g us ws)
noncomputable def Z4o(sp:Sp)(gV:List V→List V→List V)(E:XK)(t tk:TA):TE:=fun σ H Q=>t σ H fun vs H1=>tk σ H1 fun zs H2=>sp (gV vs zs) H2 Q E
variable{g:List Value→List Value→List Value}{gV:List V→List V→List V}
end
structure FnScope(N P:List Str)(sc:Scope):Prop where
 kind:sc.kind= .function
 co:sc.isCoroutine=false
 gen:sc.isGenerator=false
 nd:N.Nodup
 pre:N.take P.length=P
 par:∀x∈P,sc.names.lookup x=some .local∨sc.names.lookup x=some .cell
 nofree:∀y∈sc.names,y.2≠.free
theorem Zh5{kindOf:Str→Option NameKind}{x:Str}:∀{binds:List (Str×Value)} {m:Str→Option Value},(∀v,(x,v)∉binds)→bindL kindOf binds m x=m x
  | [],_,_=>rfl
  | (n,v)::r,m,h=>by
    unfold bindL
    rw[Zh5 fun w hw=>h w (List.mem_cons_of_mem _ hw)]
    split
    · have:x≠n:=by rintro rfl;exact h v List.mem_cons_self
      simp[this]
    · rfl
theorem Zh6{kindOf:Str→Option NameKind}{x:Str}:∀{binds:List (Str×Value)} {m:Str→Option Value},(∀v,(x,v)∉binds)→bindC kindOf binds m x=m x
  | [],_,_=>rfl
  | (n,v)::r,m,h=>by
    unfold bindC
    rw[Zh6 fun w hw=>h w (List.mem_cons_of_mem _ hw)]
    split
    · rfl
    · have:x≠n:=by rintro rfl;exact h v List.mem_cons_self
      simp[this]
theorem Zh7{kindOf:Str→Option NameKind}{x:Str}{v:Value}:∀{P:List Str} {vs:List Value} {i:Nat} {m:Str→Option Value},P.Nodup→P[i]? =some x→vs[i]? =some v→kindOf x=some .local→
  bindL kindOf (P.zip vs) m x=some v
 | [],_,_,_,_,h,_,_=>by simp at h
 |_::_,[],_,_,_,_,h,_=>by simp at h
 |p::P,w::vs,0,m,nd,h1,h2,hk=>by
  simp at h1 h2;subst h1;subst h2
  show bindL kindOf ((p,w)::P.zip vs) m p=_
  unfold bindL
  rw[Zh5 fun v hv=>(List.nodup_cons.mp nd).1 (List.of_mem_zip hv).1,if_pos hk]
  simp
 |p::P,w::vs,i+1,m,nd,h1,h2,hk=>by
  show bindL kindOf ((p,w)::P.zip vs) m x=_
  unfold bindL
  exact Zh7 (i:=i) (List.nodup_cons.mp nd).2 (by simpa using h1) (by simpa using h2) hk
theorem Zh8{kindOf:Str→Option NameKind}{x:Str}{v:Value}:∀{P:List Str} {vs:List Value} {i:Nat} {m:Str→Option Value},P.Nodup→P[i]? =some x→vs[i]? =some v→kindOf x≠some .local→
  bindC kindOf (P.zip vs) m x=some v
 | [],_,_,_,_,h,_,_=>by simp at h
 |_::_,[],_,_,_,_,h,_=>by simp at h
 |p::P,w::vs,0,m,nd,h1,h2,hk=>by
  simp at h1 h2;subst h1;subst h2
  show bindC kindOf ((p,w)::P.zip vs) m p=_
  unfold bindC
  rw[Zh6 fun v hv=>(List.nodup_cons.mp nd).1 (List.of_mem_zip hv).1,if_neg hk]
  simp
 |p::P,w::vs,i+1,m,nd,h1,h2,hk=>by
  show bindC kindOf ((p,w)::P.zip vs) m x=_
  unfold bindC
  exact Zh8 (i:=i) (List.nodup_cons.mp nd).2 (by simpa using h1) (by simpa using h2) hk
noncomputable def start(N:List Str)(vs:List V):St:=vs.map some++List.replicate (N.length- vs.length) none
noncomputable def cxOf(CX:CXT)(P:Program)(w:World)(K:PySem.W.Frag)(mg:Str→Option Value)(base:Heap)(N:List Str)(qual:Str)(scope:Scope)(f:Addr)(cd:Value)(A:Around)(outer:List Env)(s:Shared)(H:Hp)(E:XK):Cx where
 prog:=P
 w:=w
 K:=K
 mg:=mg
 base:=base
 A:=A.deeper (envOfC qual scope s.heap.objs.size f cd)
 N:=N
 s₀:=s
 H₀:=H
 env:=envOfC qual scope s.heap.objs.size f cd
 outer:=outer
 stack:=envOfC qual scope s.heap.objs.size f cd::outer
 ex:=[]
 calm:=true
 fn:=fun _=>true
 pn:=[]
 xe:=fun e s'=>wpAny (model P w) (A.deeper (envOfC qual scope s.heap.objs.size f cd)) (leaving (envOfC qual scope s.heap.objs.size f cd) e) (fun _ s''=>CX outer H s E e s'') (fun e' s''=>CX outer H s E e' s'') s'
theorem Zk3{sc:Scope}{n:Nat}{x:Str}(h:sc.names.lookup x=some .cell):∃c,(cellsFrom n sc.names []).lookup x=some c:=by
 have q:=PySem.W.cellsFrom_some sc.names n [] (.inl h)
 exact Option.isSome_iff_exists.mp q
theorem Zn0{CX:CXT}{P:Program}{w:World}{K:PySem.W.Frag}{mg:Str→Option Value}{base:Heap}{N ps:List Str}{qual:Str}{scope:Scope}{f:Addr}{cd:Value}{A:Around}{outer:List Env}{s s1:Shared}{H:Hp}{E:XK}{us:List Value}{vs:List V}
  (S:FnScope N ps scope) (hd:A.handled=none) (e0:Env0 P w K mg base A outer s H) (hl:vs.length=ps.length) (r:Vals vs us)
  (x:InCallC s s.heap.objs.size (bindL (envOfC qual scope s.heap.objs.size f cd).kindOf (ps.zip us) fun _=>none) (cellsFrom (s.heap.objs.size+1) scope.names []) (bindC (envOfC qual scope s.heap.objs.size f cd).kindOf (ps.zip us) fun _=>none) s1):
  Inv (cxOf CX P w K mg base N qual scope f cd A outer s H E) [] (start N vs) H s1:=by
 have hpl:ps.length≤N.length:=by have:=congrArg List.length S.pre;rw[List.length_take]at this;omega
 obtain⟨h1,tk,rfl,hk⟩:=x.done
 have noA:∀b:Addr,b∉(cxOf CX P w K mg base N qual scope f cd A outer s H E).ex:=fun b z=>absurd (show b∈([]:List Addr)from z) (by simp)
 refine⟨⟨e0.mod,S.kind,rfl,rfl,Nat.le_refl _,fun y z c h1 h2=>?_,fun y hy=>?_,fun y c _ h=>?_,fun _=>hd,Around.frames_deeper e0.frames,.inr ⟨rfl,rfl⟩,fun b z=>absurd z (noA b),e0.bs,e0.bsz,fun b _ _=>noA b,fun b z=>absurd z (noA b),e0.funs,e0.frf⟩,
  rfl,e0.bare,Un.kept hk,⟨_,x.toInCall.ns,fun i y v h1 h2 h3=>?_⟩,fun y c h=>⟨_,x.cell y c h⟩,e0.hok.fresh (Nat.le_refl _),fun y c h=>?_,fun p hp=>absurd (show p∈([]:List (Addr×Obj))from hp) (by simp),e0.hok.kept hk,?_⟩
 ·exact name_of_addr x.apart (PySem.mem_of_lookup h1) (PySem.mem_of_lookup h2)
 ·have hy:scope.names.lookup y=some .cell∨scope.names.lookup y=some .free:=hy
  rcases hy with hy|hy
  ·exact Zk3 hy
  ·exact absurd rfl (S.nofree _ (PySem.mem_of_lookup hy))
 ·exact Nat.le_of_lt (x.above y c (PySem.mem_of_lookup h))
 ·have hi:i<vs.length:=by
   unfold start at h2
   by_cases hi:i<vs.length
   ·exact hi
   ·rw[List.getElem?_append_right (by simpa using hi)]at h2
    rw[List.getElem?_replicate]at h2
    split at h2<;> cases h2
  have ha:vs[i]? =some v:=by
   unfold start at h2
   rw[List.getElem?_append_left (by simpa using hi),List.getElem?_map]at h2
   cases e:vs[i]? with
   |none=>rw[e]at h2;cases h2
   |some a=>rw[e]at h2;cases h2;rfl
  obtain⟨u,hu,rv⟩:=r.get ha
  have hp:ps[i]? =some y:=by
   rw[←S.pre,List.getElem?_take_of_lt (by omega)];exact h1
  have ndP:ps.Nodup:=by rw[←S.pre];exact S.nd.sublist (List.take_sublist _ _)
  refine⟨u,rv,?_⟩
  rcases S.par y (List.mem_of_getElem? hp)with k|k
  ·exact .inl ⟨k,Zh7 ndP hp hu k⟩
  ·obtain⟨c,e⟩:=Zk3 (n:=s.heap.objs.size+1) k
   refine .inr ⟨.inl k,c,e,?_⟩
   have q:=x.cell y c e
   rw[Zh8 ndP hp hu (by show scope.names.lookup y≠_;rw[k];decide)]at q
   exact q
 ·exact e0.hok.fresh (Nat.le_of_lt (x.above y c (PySem.mem_of_lookup h)))
 ·unfold start
  show _=N.length
  rw[List.length_append,List.length_map,List.length_replicate]
  omega
theorem Zyd{CX:CXT}{P:Program}{w:World}{K:PySem.W.Frag}{mg:Str→Option Value}{base:Heap}{k:Nat}{f:Addr}{name qual:Str}{params:Arguments}{body:List Stmt}{scope:Scope}{dV kV doc pm cdv ct oc:Value}{an od:Option Addr}
  {osl:Array (Option Value)} {N ps:List Str} {sp:Sp} (lk:K.lookup f=some ⟨oc,od,.func (PySem.W.fnOf name qual params body scope dV kV doc pm an cdv ct),osl⟩) (hcd:PySem.W.codeIn K cdv qual=true) (S:FnScope N ps scope)
  (len:∀vs H Q E,sp vs H Q E→vs.length=ps.length)
  (hbody:∀(A:Around) (outer:List Env) (s:Shared) (H:Hp) (vs:List V) (Q:VK) (E:XK),Room k (A.deeper (envOfC qual scope s.heap.objs.size f cdv))→sp vs H Q E→
   ∃t,PSs (cxOf CX P w K mg base N qual scope f cdv A outer s H E) body t∧t {nx:=fun _ H'=>Q .non H',rt:=Q} (start N vs) H):
  FnOk P w K mg base CX (k+1) f (PySem.W.fnOf name qual params body scope dV kV doc pm an cdv ct) ps sp:=by
 refine⟨len,fun A outer s H args us vs Q E hr e0 hb r hsp=>?_⟩
 have hl:=len _ _ _ _ hsp
 have KX:K.In s.heap:=e0.mod.kin.keeps fun b o e=>(e0.bs b o e).1
 have lim:s.heap.NoLimit:=e0.mod.nolimit.keeps fun b o e=>(e0.bs b o e).1
 have hkind:∀y∈ps.zip us,scope.names.lookup y.1=some .local∨(scope.names.lookup y.1=some .cell∧((cellsFrom (s.heap.objs.size+1) scope.names []).lookup y.1).isSome=true):=fun⟨n,v⟩ hy=>by
  rcases S.par n (List.of_mem_zip hy).1 with q|q
  ·exact .inl q
  ·exact .inr ⟨q,PySem.W.cellsFrom_some _ _ _ (.inl q)⟩
 refine codeAny_call_function hr.depth (KX _ _ lk) rfl S.co S.gen rfl (PySem.W.codeRec_of KX hcd) (hb _ _ _ _ ?_)
 refine wpAny_newFunctionEnv_cells S.kind hkind fun env he s1 x=>?_
 subst he
 refine⟨lim.keeps x.toInCall.keep,codeAny_func ?_⟩
 obtain⟨t,ht,hq⟩:=hbody A outer s H vs Q E (hr.deeper _) hsp
 have I:Inv (cxOf CX P w K mg base N qual scope f cdv A outer s H E) [] (start N vs) H s1:=Zn0 S hr.hd e0 hl r x
 refine wpAny_mono (ht [] s1 (start N vs) H _ I hq) (fun fl s' hs=>?_) fun e s' hs=>hs
 have fin:∀{σ':St} {H':Hp} {v:V} {u:Value},Inv (cxOf CX P w K mg base N qual scope f cdv A outer s H E) [] σ' H' s'→RelV v u→Q v H'→CE outer P w H s Q u s':=
  fun{σ' H' v u} J rv q=>⟨v,H',J.os,J.bare,J.base,J.hok,rv,q⟩
 cases fl with
 |ret u=>
  obtain⟨v,σ',H',J,rv,q⟩:=hs
  exact fin J rv q
 |next=>
  obtain⟨σ',H',J,q⟩:=hs
  exact fin (v:=V.non) (u:=Value.none) J rfl q
 |brk=>
  obtain⟨_,_,_,q⟩:=hs
  exact False.elim q
 |cont=>
  obtain⟨_,_,_,q⟩:=hs
  exact False.elim q
end L2
namespace L2
open PySem PySem.Spec PyProof.Rows
section
variable{X:Cx}{x:Str}{p pos:Pos}{e:Expr}{es:List Expr}{t:TA}{id T:String}{r:List V→Hp→VK→Prop}
noncomputable def tCB(r:List V→Hp→VK→Prop)(t:TA):TE:=fun σ H Q=>t σ H fun vs H1=>r vs H1 Q
theorem Zev(hc:Zdf X (.builtin id) r)(hg:Gl X x)(hm:X.mg x=none)(hv:bootBuiltins x=some (.builtin id))(ha:PA X (e::es) t)(hn:x≠"__name__":=by decide)(hdb:(x==("__debug__":Str))=false:=by decide)
  (he:starEach (e::es) X.env=(false,eval e X.env)::starEach es X.env:=by rfl) (hpl:(backTo pos (starEach es X.env)).any (·.1)=false:=by rfl):PE X (.Call (.Name x p) (e::es) [] pos) (tCB r t):=by
 intro pins s σ H Q I h
 refine wpAny_Call_Name_kw (Ze8 I hg hm hv ?_ hn hdb)
 exact PyProof.Rows.callWith_builtin1 (thn (ha pos pins s σ H _ I h) fun us s1 ⟨vs,H1,I1,r1,q1⟩=>hc pins s1 σ H1 vs us Q I1 r1 q1) he hpl
theorem Zn1(hc:Zdf X (.type T) r)(hg:Gl X x)(hm:X.mg x=none)(hv:bootBuiltins x=some (.type T))(ha:PA X (e::es) t)(hn:x≠"__name__":=by decide)(hdb:(x==("__debug__":Str))=false:=by decide)
  (he:starEach (e::es) X.env=(false,eval e X.env)::starEach es X.env:=by rfl) (hpl:(backTo pos (starEach es X.env)).any (·.1)=false:=by rfl):PE X (.Call (.Name x p) (e::es) [] pos) (tCB r t):=by
 intro pins s σ H Q I h
 refine wpAny_Call_Name_kw (Ze8 I hg hm hv ?_ hn hdb)
 exact PyProof.Rows.callWith_type1 (thn (ha pos pins s σ H _ I h) fun us s1 ⟨vs,H1,I1,r1,q1⟩=>hc pins s1 σ H1 vs us Q I1 r1 q1) he hpl
end
end L2
namespace HT
open PySem PyProof.Rows
noncomputable def lexLt:List Int→List Int→Bool
 | [],[]=>false
 | [],_::_=>true
 |_::_,[]=>false
 |x::xs,y::ys=>if x=y then lexLt xs ys else decide (x<y)
theorem Zxe(x y:Int)(xs ys:List Int):lexLt (x::xs) (y::ys)=if x=y then lexLt xs ys else decide (x<y):=rfl
theorem Zq7:lexLt [] []=false:=rfl
theorem Zqy(y:Int)(ys:List Int):lexLt [] (y::ys)=true:=rfl
theorem Zqz(x:Int)(xs:List Int):lexLt (x::xs) []=false:=rfl
section
open PySem.SeqAt
open PySem.AutoSeq1 (wpAny_loadPart')
open PySem.MeetsSeq PySem.MeetsSeq2 PySem.MeetsSeq3
end
section
variable{prog:Program}{w:World}{A:Around}{E:Value→Shared→Prop}{s:Shared}
noncomputable def sIx(n d:Nat):Option Int→Nat
 |none=>d
 |some v=>if v<0 then(v+(n:Int)).toNat else min v.toNat n
theorem Z1k(n d:Nat):sIx n d none=d:=rfl
end
end HT
namespace L2
open PySem PySem.Spec PyProof.Rows
noncomputable abbrev TO:=St→Hp→(Option Int→Hp→Prop)→Prop
noncomputable def PO(X:Cx)(e:Option Expr)(t:TO):Prop:=
 ∀(pins:List (Addr×Obj)) (s:Shared) (σ:St) (H:Hp) (Q:Option Int→Hp→Prop),Inv X pins σ H s→t σ H Q→
  wpAny (model X.prog X.w) X.A (evalPart e X.env) (fun u s'=>∃o H',Inv X pins σ H' s'∧IsPart u o∧Q o H') X.xe s
noncomputable def Zn2:TO:=fun _ H Q=>Q none H
noncomputable def Zye(t:TE):TO:=fun σ H Q=>t σ H fun x H1=>∃i,x= .int i∧Q (some i) H1
section
variable{X:Cx}{e:Expr}{te:TE}{lo hi:Option Expr}{tl th:TO}{pos p2:Pos}
theorem Zuu:PO X none Zn2:=by
 intro pins s σ H Q I h
 rw[evalPart_none]
 exact wpAny_pure ⟨none,H,I,.none,h⟩
theorem Zuv(h:PE X e te):PO X (some e) (Zye te):=by
 intro pins s σ H Q I hw
 rw[evalPart_some]
 refine thn (h pins s σ H _ I hw) fun u s1 zq9=>?_
 obtain⟨x,H1,I1,r1,q1⟩:=zq9
 obtain⟨i,rfl,q⟩:=q1
 obtain⟨t,rfl⟩:=r1
 exact⟨some i,H1,I1,.int i t,q⟩
noncomputable def SlR(X:Cx)(r:V→Option Int→Option Int→Hp→VK→Prop):Prop:=
 ∀(pins:List (Addr×Obj)) (s:Shared) (σ:St) (H:Hp) (x:V) (v vl vu:Value) (lo hi:Option Int) (sl:Addr) (Q:VK),Inv X pins σ H s→RelV x v→s.heap.IsSliceOf sl vl vu .none→IsPart vl lo→IsPart vu hi→r x lo hi H Q→
  ∃T id,typeLookup (.type T) "__getitem__"=pure (some (.builtin id))∧s.TypeIs v T∧wpAny (model X.prog X.w) X.A (getItem v (.ref sl)) (EP X pins σ Q) X.xe s
theorem SlR.or{r r':V→Option Int→Option Int→Hp→VK→Prop}(h:SlR X r)(h':SlR X r'):SlR X (fun x lo hi H Q=>r x lo hi H Q∨r' x lo hi H Q):=by
 intro pins s σ H x v vl vu lo hi sl Q I rx hs pl pu q
 rcases q with q|q
 ·exact h pins s σ H x v vl vu lo hi sl Q I rx hs pl pu q
 ·exact h' pins s σ H x v vl vu lo hi sl Q I rx hs pl pu q
noncomputable def tSl(r:V→Option Int→Option Int→Hp→VK→Prop)(te:TE)(tl th:TO):TE:=fun σ H Q=>te σ H fun x H1=>tl σ H1 fun l H2=>th σ H2 fun u H3=>r x l u H3 Q
theorem Zq8{r:V→Option Int→Option Int→Hp→VK→Prop}(hr:SlR X r)(he:PE X e te)(hl:PO X lo tl)(hu:PO X hi th):PE X (.Subscript e (.Slice lo hi none p2) pos) (tSl r te tl th):=by
 intro pins s σ H Q I h
 refine Subscript_ (thn (he pins s σ H _ I h) fun v s1 zq9=>?_)
 obtain⟨x,H1,I1,r1,q1⟩:=zq9
 refine wpAny_Slice (thn (hl pins s1 σ H1 _ I1 q1) fun vl s2 ⟨l,H2,I2,pl,q2⟩=>thn (hu pins s2 σ H2 _ I2 q2) fun vu s3 zq9=>?_)
 obtain⟨u,H3,I3,pu,q3⟩:=zq9
 rw[evalPart_none]
 refine wpAny_pure ?_
 have I4:Inv X pins σ H3 {s3 with heap:=s3.heap.push {cls:=.type "slice",data:=.fields #[vl,vu,.none]}}:=I3.kept (t':=s3.toks) fun b ob q=>Heap.get?_push_of_some _ q
 obtain⟨T,id,hT,ht,hg⟩:=hr pins {s3 with heap:=s3.heap.push {cls:=.type "slice",data:=.fields #[vl,vu,.none]}} σ H3 x v vl vu l u s3.heap.objs.size Q I4 r1 (Heap.IsSliceOf.new ..) pl pu q3
 show wpAny (model X.prog X.w) X.A (subscriptTail e (.Slice lo hi none p2) v (.ref s3.heap.objs.size)) (EP X pins σ Q) X.xe {s3 with heap:=s3.heap.push {cls:=.type "slice",data:=.fields #[vl,vu,.none]}}
 exact tail_any (ops:=[.ref s3.heap.objs.size,v]) ht hT hg (by with_unfolding_all rfl)
noncomputable def cutV(xs:List V)(lo hi:Option Int):List V:=(xs.drop (HT.sIx xs.length 0 lo)).take (HT.sIx xs.length xs.length hi- HT.sIx xs.length 0 lo)
theorem Zjs(xs:List V)(lo hi:Option Int):(cutV xs lo hi).length≤xs.length:=by
 unfold cutV
 rw[List.length_take,List.length_drop]
 omega
noncomputable def rSlT(K:PySem.W.Frag):V→Option Int→Option Int→Hp→VK→Prop:=fun x lo hi H Q=>∃a xs,x= .ref a∧SqT K H a xs∧
 ¬(HT.sIx xs.length 0 lo=0∧HT.sIx xs.length xs.length hi=xs.length)∧∀p,H p=none→Q (.ref p) (upd H p (.tup (cutV xs lo hi)))
noncomputable def rLtT(K:PySem.W.Frag):R2:=fun x y H Q=>∃a b ns ms,x= .ref a∧y= .ref b∧SqT K H a (ns.map V.int)∧SqT K H b (ms.map V.int)∧Q (.bl (HT.lexLt ns ms)) H
noncomputable def Z5x(K:PySem.W.Frag):R2:=fun x y H Q=>∃a b xs ys,x= .ref a∧y= .ref b∧SqT K H a xs∧SqT K H b ys∧xs≠[]∧xs.length+ys.length≤sizeLine∧
 (ys=[]→Q (.ref a) H)∧(ys≠[]→∀p,H p=none→Q (.ref p) (upd H p (.tup (xs++ys))))
end
end L2
namespace L2
open PySem PySem.Spec PyProof.Rows
noncomputable def ixN(n:Nat)(i:Int):Option Nat:=if 0≤i then(if i<n then some i.toNat else none)else if-(n:Int)≤i then some (i+n).toNat else none
noncomputable def atI{α:Type}(xs:List α)(i:Int):Option α:=(ixN xs.length i).bind fun j=>xs[j]?
theorem Zuw{n:Nat}{i:Int}{j:Nat}(h:ixN n i=some j):seqIndex? i n=some j∧j<n∧-(n:Int)≤i∧i<n:=by
 unfold ixN at h
 by_cases h0:0≤i
 ·rw[if_pos h0]at h
  by_cases h1:i<n
  ·rw[if_pos h1]at h
   have e:i.toNat=j:=Option.some.inj h
   exact⟨by rw[seqIndex_of h0 h1,e],by omega,by omega,h1⟩
  ·rw[if_neg h1]at h;cases h
 ·rw[if_neg h0]at h
  by_cases h1:-(n:Int)≤i
  ·rw[if_pos h1]at h
   have e:(i+n).toNat=j:=Option.some.inj h
   exact⟨by rw[seqIndex_neg (by omega) h1,e],by omega,h1,by omega⟩
  ·rw[if_neg h1]at h;cases h
theorem Zjt{α:Type}{xs:List α}{i:Int}{v:α}(h:atI xs i=some v):∃j,seqIndex? i xs.length=some j∧xs[j]? =some v∧j<xs.length∧-(xs.length:Int)≤i∧i<xs.length:=by
 unfold atI at h
 cases e:ixN xs.length i with
 |none=>rw[e]at h;cases h
 |some j=>
  rw[e]at h
  obtain⟨h1,h2,h3,h4⟩:=Zuw e
  exact⟨j,h1,h,h2,h3,h4⟩
noncomputable def Zn3(b:Expr):Prop:=∀o i,subscripted b false o i=operate [o,i] (getItem o i)
noncomputable def IxR(X:Cx)(r:R2):Prop:=
 ∀(value slice:Expr) (pins:List (Addr×Obj)) (s:Shared) (σ:St) (H:Hp) (x y:V) (v u:Value) (Q:VK),Inv X pins σ H s→RelV x v→RelV y u→r x y H Q→
  subscripted slice false v u=operate [v,u] (getItem v u)→wpAny (model X.prog X.w) X.A (subscriptTail value slice v u) (EP X pins σ Q) X.xe s
noncomputable def MtR(X:Cx)(id:String)(r:V→List V→Hp→VK→Prop):Prop:=
 ∀(pins:List (Addr×Obj)) (s:Shared) (σ:St) (H:Hp) (x:V) (xs:List V) (v:Value) (us:List Value) (Q:VK),Inv X pins σ H s→RelV x v→Vals xs us→r x xs H Q→
  wpAny (model X.prog X.w) X.A (call (.builtin id) (v::us)) (EP X pins σ Q) X.xe s
section
variable{X:Cx}{a b:Expr}{ta tb:TE}{pos:Pos}
theorem IxR.or{r r':R2}(h:IxR X r)(h':IxR X r'):IxR X (fun x y H Q=>r x y H Q∨r' x y H Q):=by
 intro value slice pins s σ H x y v u Q I rx ry q hs
 rcases q with q|q
 ·exact h value slice pins s σ H x y v u Q I rx ry q hs
 ·exact h' value slice pins s σ H x y v u Q I rx ry q hs
theorem Z17{r:R2}(hr:IxR X r)(ha:PE X a ta)(hb:PE X b tb)(hs:Zn3 b):PE X (.Subscript a b pos) (tOp r ta tb):=by
 intro pins s σ H Q I h
 exact Subscript_ (binT ha hb I h fun v u s2 x y H2 I2 rx ry q=>hr a b pins s2 σ H2 x y v u Q I2 rx ry q (hs _ _))
noncomputable def rIxL(K:PySem.W.Frag):R2:=fun x y H Q=>∃p xs i v,x= .ref p∧y= .int i∧SqL K H p xs∧atI xs i=some v∧Q v H
noncomputable def rIxT(K:PySem.W.Frag):R2:=fun x y H Q=>∃p xs i v,x= .ref p∧y= .int i∧SqT K H p xs∧atI xs i=some v∧Q v H
noncomputable def rIxS:R2:=fun x y H Q=>∃z i c,x= .str z∧y= .int i∧z.length≤sizeLine∧atI z.cps.toList i=some c∧Q (.str ⟨#[c]⟩) H
theorem Zux:IxR X (rIxL X.K):=by
 intro value slice pins s σ H x y v u Q I rx ry h hs
 obtain⟨p,xs,i,z,rfl,rfl,hq,he,q⟩:=h
 cases rx
 obtain⟨t,rfl⟩:=ry
 obtain⟨its,r,pl,hz⟩:=I.list hq
 obtain⟨j,h1,h2,h3,h4,h5⟩:=Zjt he
 obtain⟨w,ew,rw'⟩:=r.get h2
 have hl:=r.length
 have hn:=Zh4
 have fin:EP X pins σ Q w s:=⟨z,H,I,rw',q⟩
 by_cases h0:0≤i
 ·have hj:i.toNat=j:=by
   rw[seqIndex_of h0 h5]at h1
   exact Option.some.inj h1
  exact item_listR pl.isList h0 (by omega) (by rw[hj];simpa using ew) fin hs
 ·have hj:(i+(its.toArray.size:Int)).toNat=j:=by
   rw[seqIndex_neg (by omega) h4]at h1
   rw[List.size_toArray,←hl]
   exact Option.some.inj h1
  exact subscriptTail_builtinR (x:=w) pl.isList.typeIs slot_list_getitem.lookup
   (wpAny_getItem_list_neg (Q:=fun r s'=>r=w∧EP X pins σ Q r s') pl.isList (by omega) (by rw[List.size_toArray]<;> omega) (by omega) (by rw[hj];simpa using ew) ⟨rfl,fin⟩) hs
theorem Zyf:IxR X (rIxT X.K):=by
 intro value slice pins s σ H x y v u Q I rx ry h hs
 obtain⟨p,xs,i,z,rfl,rfl,hq,he,q⟩:=h
 cases rx
 obtain⟨t,rfl⟩:=ry
 obtain⟨its,r,pl,hz⟩:=I.tuple hq
 obtain⟨j,h1,h2,h3,h4,h5⟩:=Zjt he
 obtain⟨w,ew,rw'⟩:=r.get h2
 have hl:=r.length
 have hn:=Zh4
 have fin:EP X pins σ Q w s:=⟨z,H,I,rw',q⟩
 exact subscriptTail_builtinR (x:=w) pl.typeIs slot_tuple_getitem.lookup
  (getItem_tuple (j:=j) (Q:=fun r s'=>r=w∧EP X pins σ Q r s') pl (by omega) (by omega) (by rw[List.size_toArray,←hl];exact h1) (by simpa using ew) ⟨rfl,fin⟩) hs
theorem Zyg:IxR X rIxS:=by
 intro value slice pins s σ H x y v u Q I rx ry h hs
 obtain⟨z,i,c,rfl,rfl,hz,he,q⟩:=h
 obtain⟨t,rfl⟩:=rx
 obtain⟨t',rfl⟩:=ry
 obtain⟨j,h1,h2,h3,h4,h5⟩:=Zjt he
 have hl:z.cps.toList.length=z.length:=by simp[Str.length]
 rw[hl]at h1 h4 h5
 have hn:=Zh4
 exact tail_any (typeIs_str s z t) slot_str_getitem.lookup (getItem_str (c:=c) (by
  have e1:decide (i< -(2^63:Int))=false:=decide_eq_false (by omega)
  have e2:decide (i≥2^63)=false:=decide_eq_false (by omega)
  rw[e1,e2,Bool.or_false]) (by rw[h1];simpa using h2) ⟨.str ⟨#[c]⟩,H,I.tok _,⟨_,rfl⟩,q⟩) hs
noncomputable def rIx(K:PySem.W.Frag):R2:=fun x y H Q=>rIxL K x y H Q∨rIxT K x y H Q∨rIxS x y H Q
theorem Zyh:IxR X (rIx X.K):=Zux.or (Zyf.or Zyg)
noncomputable def Z5y:V→V→V→Hp→(Hp→Prop)→Prop:=fun o i v H Q=>∃p xs k j,o= .ref p∧i= .int k∧H p=some (.lst xs)∧ixN xs.length k=some j∧Q (upd H p (.lst (xs.set j v)))
theorem Zh9(lo hi:Option Int)(n:Nat):(sliceBounds lo hi none n).1=((HT.sIx n 0 lo:Nat):Int)∧(sliceBounds lo hi none n).2.1=((HT.sIx n n hi:Nat):Int)∧(sliceBounds lo hi none n).2.2=1:=by
 refine⟨?_,?_,rfl⟩
 ·cases lo with
  |none=>simp[sliceBounds,HT.sIx]
  |some i=>
   simp only[sliceBounds,HT.sIx,Option.getD_none,show(1:Int) > 0 by decide,if_true]
   by_cases h:i<0
   ·simp only[h,if_true]<;> omega
   ·simp only[h,if_false]<;> omega
 ·cases hi with
  |none=>simp[sliceBounds,HT.sIx]
  |some i=>
   simp only[sliceBounds,HT.sIx,Option.getD_none,show(1:Int) > 0 by decide,if_true]
   by_cases h:i<0
   ·simp only[h,if_true]<;> omega
   ·simp only[h,if_false]<;> omega
theorem Zgu(its:List Value)(lo hi:Option Int):slicePick its.toArray lo hi none=((its.drop (HT.sIx its.length 0 lo)).take (HT.sIx its.length its.length hi- HT.sIx its.length 0 lo)).toArray:=by
 obtain⟨h1,h2,h3⟩:=Zh9 lo hi its.toArray.size
 unfold slicePick
 rw[h1,h2,h3]
 simp only[sliceRange_one,pick_run,List.size_toArray]<;> rfl
noncomputable def rSlL(K:PySem.W.Frag):V→Option Int→Option Int→Hp→VK→Prop:=fun x lo hi H Q=>∃a xs,x= .ref a∧SqL K H a xs∧∀p,H p=none→Q (.ref p) (upd H p (.lst (cutV xs lo hi)))
theorem Zuy:SlR X (rSlL X.K):=by
 intro pins s σ H x v vl vu lo hi sl Q I rx hs pl pu h
 obtain⟨a,xs,rfl,hx,q⟩:=h
 cases rx
 obtain⟨its,r,ht,hz⟩:=I.list hx
 have hlen:=r.length
 refine⟨"list",_,slot_list_getitem.lookup,ht.isList.typeIs,?_⟩
 refine wpAny_getItem_list_slice ht.isList hs pl pu .none (by simp) ?_ (by rw[List.size_toArray]<;> omega)
 rw[Zgu,←hlen]
 refine⟨.ref s.heap.objs.size,_,I.laid (t':=s.toks) (o:=.lst (cutV xs lo hi)) (fun b ob q=>Heap.get?_push_of_some _ q) (Nat.le_refl _) ?_,rfl,q _ (I.hok.fresh (Nat.le_refl _))⟩
 exact⟨Nat.le_trans (Zjs xs lo hi) hz,_,0,(r.drop (HT.sIx xs.length 0 lo)).take (HT.sIx xs.length xs.length hi- HT.sIx xs.length 0 lo),Heap.get?_push_size _ rfl⟩
noncomputable def Zao:V→Bool
 | .non=>true
 | .bl _=>true
 | .int _=>true
 | .str _=>true
 |_=>false
noncomputable def eqV:V→V→Bool
 | .non,.non=>true
 | .bl a,.bl b=>a==b
 | .bl a,.int b=>(if a then 1 else 0)==b
 | .int a,.bl b=>a==(if b then 1 else 0)
 | .int a,.int b=>a==b
 | .str a,.str b=>a==b
 |_,_=>false
theorem Zti{A:Around}{s:Shared}{y x:V}{u v:Value}(ry:RelV y u)(rx:RelV x v)(fy:Zao y=true)(fx:Zao x=true):SeqAt.EqAt A s u v (eqV y x):=by
 cases y with
 |non=>
  cases ry
  cases x with
  |non=>cases rx;exact SeqAt.EqAt.same _
  |bl b=>cases rx;exact SeqAt.EqAt.none_bool b
  |int b=>obtain⟨t,rfl⟩:=rx;exact SeqAt.EqAt.none_int b t
  |str b=>obtain⟨t,rfl⟩:=rx;exact SeqAt.EqAt.none_str b t
  |_=>exact absurd (show false=true from fx) Bool.false_ne_true
 |bl a=>
  cases ry
  cases x with
  |non=>cases rx;exact SeqAt.EqAt.bool_none a
  |bl b=>cases rx;exact SeqAt.EqAt.bool_bool a b
  |int b=>obtain⟨t,rfl⟩:=rx;exact SeqAt.EqAt.bool_int a b t
  |str b=>obtain⟨t,rfl⟩:=rx;exact SeqAt.EqAt.bool_str a b t
  |_=>exact absurd (show false=true from fx) Bool.false_ne_true
 |int a=>
  obtain⟨t',rfl⟩:=ry
  cases x with
  |non=>cases rx;exact SeqAt.EqAt.int_none a t'
  |bl b=>cases rx;exact SeqAt.EqAt.int_bool a t' b
  |int b=>obtain⟨t,rfl⟩:=rx;exact SeqAt.EqAt.int_int a t' b t
  |str b=>obtain⟨t,rfl⟩:=rx;exact SeqAt.EqAt.int_str a t' b t
  |_=>exact absurd (show false=true from fx) Bool.false_ne_true
 |str a=>
  obtain⟨t',rfl⟩:=ry
  cases x with
  |non=>cases rx;exact SeqAt.EqAt.str_none a t'
  |bl b=>cases rx;exact SeqAt.EqAt.str_bool a t' b
  |int b=>obtain⟨t,rfl⟩:=rx;exact SeqAt.EqAt.str_int a t' b t
  |str b=>obtain⟨t,rfl⟩:=rx;exact SeqAt.EqAt.str_str a t' b t
  |_=>exact absurd (show false=true from fx) Bool.false_ne_true
 |_=>exact absurd (show false=true from fy) Bool.false_ne_true
noncomputable def eqU(x:V)(u:Value):Bool:=match u with
 | .none=>eqV .non x
 | .bool b=>eqV (.bl b) x
 | .int i _=>eqV (.int i) x
 | .str z _=>eqV (.str z) x
 |_=>false
theorem Ztj{x y:V}{u:Value}(r:RelV y u)(f:Zao y=true):eqU x u=eqV y x:=by
 cases y with
 |non=>cases r;rfl
 |bl b=>cases r;rfl
 |int i=>obtain⟨t,rfl⟩:=r;rfl
 |str z=>obtain⟨t,rfl⟩:=r;rfl
 |_=>exact absurd (show false=true from f) Bool.false_ne_true
theorem Ze9{x:V}:∀{xs:List V} {us:List Value},Vals xs us→xs.all Zao=true→us.any (eqU x)=xs.any fun y=>eqV y x
 |_,_,.nil,_=>rfl
 |y::xs,u::us,.cons r t,f=>by
  rw[List.all_cons,Bool.and_eq_true]at f
  rw[List.any_cons,List.any_cons,Ztj r f.1,Ze9 t f.2]
theorem Zdu{A:Around}{s:Shared}{x:V}{v:Value}(rx:RelV x v)(fx:Zao x=true):∀{xs:List V} {us:List Value},Vals xs us→xs.all Zao=true→∀u∈us,SeqAt.EqAt A s u v (eqU x u)
 |_,_,.nil,_=>fun u hu=>by cases hu
 |y::xs,u::us,.cons r t,f=>fun u' hu=>by
  rw[List.all_cons,Bool.and_eq_true]at f
  rcases List.mem_cons.mp hu with rfl|hu
  ·rw[Ztj r f.1];exact Zti r rx f.1 fx
  ·exact Zdu rx fx t f.2 u' hu
noncomputable def inV(x:V)(xs:List V):Bool:=xs.any fun y=>eqV y x
noncomputable def rIn(K:PySem.W.Frag)(neg:Bool):R2:=fun x y H Q=>∃p xs,y= .ref p∧(SqL K H p xs∨SqT K H p xs)∧Zao x=true∧xs.all Zao=true∧Q (.bl (if neg then !inV x xs else inV x xs)) H
theorem Zia:OpR X (compareOp .In) (rIn X.K false):=by
 intro pins s σ H x y v u Q I rx ry h
 obtain⟨p,xs,rfl,hq,fx,fs,q⟩:=h
 cases ry
 rcases hq with hq|hq
 ·obtain⟨its,r,pl,hz⟩:=I.list hq
  refine SeqAt.in_listAt (eqU x) pl.isList (fun w hw=>Zdu rx fx r fs w (by simpa using hw)) ⟨.bl _,H,I,rfl,?_⟩
  rw[show its.toArray.any (eqU x)=its.any (eqU x) by simp,Ze9 r fs]
  exact q
 ·obtain⟨its,r,pl,hz⟩:=I.tuple hq
  refine SeqAt.in_tupleAt (eqU x) pl (fun w hw=>Zdu rx fx r fs w (by simpa using hw)) ⟨.bl _,H,I,rfl,?_⟩
  rw[show its.toArray.any (eqU x)=its.any (eqU x) by simp,Ze9 r fs]
  exact q
theorem Zib:OpR X (compareOp .NotIn) (rIn X.K true):=by
 intro pins s σ H x y v u Q I rx ry h
 obtain⟨p,xs,rfl,hq,fx,fs,q⟩:=h
 cases ry
 rcases hq with hq|hq
 ·obtain⟨its,r,pl,hz⟩:=I.list hq
  refine SeqAt.notIn_listAt (eqU x) pl.isList (fun w hw=>Zdu rx fx r fs w (by simpa using hw)) ⟨.bl _,H,I,rfl,?_⟩
  rw[show its.toArray.any (eqU x)=its.any (eqU x) by simp,Ze9 r fs]
  exact q
 ·obtain⟨its,r,pl,hz⟩:=I.tuple hq
  refine SeqAt.notIn_tupleAt (eqU x) pl (fun w hw=>Zdu rx fx r fs w (by simpa using hw)) ⟨.bl _,H,I,rfl,?_⟩
  rw[show its.toArray.any (eqU x)=its.any (eqU x) by simp,Ze9 r fs]
  exact q
theorem Zic:OpR X (compareOp .NotIn) (fun x y H Q=>∃i j,x= .str i∧y= .str j∧Q (.bl (!(!(Builtin.Str.occurrences j i 0 j.length 1).isEmpty))) H):=by
 intro pins s σ H x y v u Q I rx ry h
 obtain⟨i,j,rfl,rfl,q⟩:=h
 obtain⟨t,rfl⟩:=rx
 obtain⟨t',rfl⟩:=ry
 exact notIn_str ⟨.bl _,H,I,rfl,q⟩
theorem Zid:Zdf X (.builtin "len") (fun xs H Q=>∃p ys,xs=[.ref p]∧(SqL X.K H p ys∨SqT X.K H p ys)∧Q (.int ys.length) H):=by
 intro pins s σ H xs us Q I r h
 obtain⟨p,ys,rfl,hq,q⟩:=h
 obtain⟨u,rfl,rx⟩:=Zds r
 cases rx
 have hn:=Zh4
 rcases hq with hq|hq
 ·obtain⟨its,r',pl,hz⟩:=I.list hq
  have hlen:=r'.length
  exact Calls.call_len_list pl.isList (by simp only[List.size_toArray]<;> omega) ⟨.int ys.length,H,I.tok _,⟨s.toks+1,by rw[List.size_toArray,hlen]⟩,q⟩
 ·obtain⟨its,r',pl,hz⟩:=I.tuple hq
  have hlen:=r'.length
  exact len_tuple pl (by simp only[List.size_toArray]<;> omega) ⟨.int ys.length,H,I.tok _,⟨s.toks+1,by rw[List.size_toArray,hlen]⟩,q⟩
theorem Zie:Zdf X (.builtin "len") (fun xs H Q=>∃z,xs=[.str z]∧z.length≤sizeLine∧Q (.int z.length) H):=by
 intro pins s σ H xs us Q I r h
 obtain⟨z,rfl,hz,q⟩:=h
 obtain⟨u,rfl,t,rfl⟩:=Zds r
 have hn:=Zh4
 exact len_str (by omega) ⟨.int z.length,H,I.tok _,⟨_,rfl⟩,q⟩
theorem Zdf.or{f:Value}{r r':List V→Hp→VK→Prop}(h:Zdf X f r)(h':Zdf X f r'):Zdf X f (fun xs H Q=>r xs H Q∨r' xs H Q):=by
 intro pins s σ H xs us Q I rs q
 rcases q with q|q
 ·exact h pins s σ H xs us Q I rs q
 ·exact h' pins s σ H xs us Q I rs q
noncomputable def tyV(K:PySem.W.Frag)(T:String)(x:V)(H:Hp):Prop:=match x with
 | .str _=>T="str"
 | .int _=>T="int"
 | .ref p=>(T="list"∧∃xs,SqL K H p xs)∨(T="tuple"∧∃o,K.lookup p=some o∧o.cls= .type "tuple"∧o.dict=none)∨
   (T="dict"∧((∃kvs,HK H p kvs)∨∃kvs,HTt H p kvs))∨(T="set"∧∃S n,H p=some (.set S n))
 |_=>False
theorem Zyi{pins:List (Addr×Obj)}{σ:St}{H:Hp}{s:Shared}{T:String}{x:V}{v:Value}(I:Inv X pins σ H s)(r:RelV x v)(ty:tyV X.K T x H):
  s.TypeIs v T∧∀a,v= .ref a→∃ob,s.heap.get? a=some ob∧ob.dict=none:=by
 cases x with
 |str z=>
  obtain⟨t,rfl⟩:=r
  cases(show T="str"from ty)
  exact⟨typeIs_str s z t,fun _ e=>nomatch e⟩
 |int i=>
  obtain⟨t,rfl⟩:=r
  cases(show T="int"from ty)
  exact⟨typeIs_int s i t,fun _ e=>nomatch e⟩
 |ref p=>
  cases r
  rcases ty with⟨rfl,xs,hq⟩|⟨rfl,o,hk,hc,hd⟩|⟨rfl,hk⟩|⟨rfl,S,n,hk⟩
  ·obtain⟨its,_,pl,_⟩:=I.list hq
   refine⟨pl.isList.typeIs,fun a e=>?_⟩
   cases e
   obtain⟨o,n,e,c,hd,_⟩:=pl
   exact⟨o,e,hd⟩
  ·refine⟨⟨o,I.kIn p o hk,hc⟩,fun a e=>?_⟩
   cases e
   exact⟨o,I.kIn _ o hk,hd⟩
  ·have z:∃o,s.heap.get? p=some o∧o.ExactDict:=by
    rcases hk with⟨kvs,ep,hk⟩|⟨kvs,ep,bs,hk⟩
    ·obtain⟨_,_,_,_,o,_,e,ex,_⟩:=I.hok p _ hk
     exact⟨o,e,ex⟩
    ·obtain⟨_,_,_,_,o,_,e,ex,_⟩:=I.hok p _ hk
     exact⟨o,e,ex⟩
   obtain⟨o,e,ex⟩:=z
   refine⟨⟨o,e,ex.1⟩,fun a e2=>?_⟩
   cases e2
   exact⟨o,e,ex.2.1⟩
  ·obtain⟨o,_,_,_,e,ex,_⟩:=I.hok p _ hk
   refine⟨⟨o,e,ex.1⟩,fun a e2=>?_⟩
   cases e2
   exact⟨o,e,ex.2.1⟩
 |_=>exact False.elim ty
noncomputable def tBM0(K:PySem.W.Frag)(T:String)(r:V→List V→Hp→VK→Prop)(to:TE):TE:=fun σ H Q=>to σ H fun x H1=>tyV K T x H1∧r x [] H1 Q
noncomputable def tBM(K:PySem.W.Frag)(T:String)(r:V→List V→Hp→VK→Prop)(to:TE)(t:TA):TE:=fun σ H Q=>to σ H fun x H1=>tyV K T x H1∧t σ H1 fun xs H2=>r x xs H2 Q
variable{o e:Expr}{es:List Expr}{to:TE}{t:TA}{name:Str}{apos cpos:Pos}{T id:String}{r:V→List V→Hp→VK→Prop}
theorem Zju(pa:PlainAttrs T)(slot:Slot T name id)(hty:typeOf (.builtin id)=pure (.type "method_descriptor"))(hm:MtR X id r)(ho:PE X o to)(ha:PA X (e::es) t)
  (hbase:attributeBase o name X.env (eval o X.env)=eval o X.env:=by rfl)
  (hfew:((backTo cpos (starEach (e::es) X.env)).all (fun x=>!x.1)&&(backToKw cpos (keywordEach [] X.env)).all (fun x=>x.1.isSome)
   &&decide ((e::es).length+([]:List Keyword).length+(if([]:List Keyword).isEmpty then 0 else 1)<30))=true:=by rfl)
  (hline:(apos.endLine==cpos.line)=true:=by rfl) (hs:starEach (e::es) X.env=(false,eval e X.env)::starEach es X.env:=by rfl) (hplain:(backTo cpos (starEach es X.env)).any (·.1)=false:=by rfl):
  PE X (.Call (.Attribute o name apos) (e::es) [] cpos) (tBM X.K T r to t):=by
 intro pins s σ H Q I h
 refine wpAny_Call_method_late hbase hfew hline rfl (thn (ho pins s σ H _ I h) fun v s1 zq9=>?_)
 obtain⟨x,H1,I1,r1,ty,q1⟩:=zq9
 obtain⟨h1,h2⟩:=Zyi I1 r1 ty
 refine⟨T,id,pa,slot,hty,h1,h2,?_⟩
 have hA:=ha cpos pins s1 σ H1 _ I1 q1
 rw[hs]at hA⊢
 refine Calls.callWith_builtin (by show(false|| (backTo cpos (starEach es X.env)).any (·.1))=false;rw[hplain]<;> rfl) (Calls.evalArgs_plain ?_)
 exact thn hA fun us s2 ⟨vs,H2,I2,r2,q2⟩=>hm pins s2 σ H2 x vs v us Q I2 r1 r2 q2
end
end L2
namespace L2
open PySem PySem.Spec PyProof.Rows
noncomputable def MtM(X:Cx)(id:String)(r:V→List V→Hp→VK→Prop):Prop:=
 ∀(pins:List (Addr×Obj)) (s:Shared) (σ:St) (H:Hp) (x:V) (xs:List V) (v:Value) (us:List Value) (Q:VK),Inv X pins σ H s→RelV x v→Vals xs us→r x xs H Q→
  wpAny (model X.prog X.w) X.A (call (.builtin id) (v::us)) (EP X pins σ Q) X.xe s
theorem Vals.one{x:V}{us:List Value}(h:Vals [x] us):∃u,us=[u]∧RelV x u:=by
 cases h with
 |cons r t=>cases t;exact⟨_,rfl,r⟩
section
variable{X:Cx}{pins:List (Addr×Obj)}{σ:St}{H:Hp}{s:Shared}{l b:Addr}{xs ys zs:List V}
theorem Inv.lset{its its':List Value}{n:Nat}{f:Array Value→Array Value}{t':Nat}(I:Inv X pins σ H s)(hH:H l=some (.lst xs))
  (e:s.heap.get? l=some {cls:=.type "list",data:=.seq its.toArray n}) (hf:f its.toArray=its'.toArray) (hv:Vals ys its') (hz:ys.length≤sizeLine):
  Inv X pins σ (upd H l (.lst ys)) {s with heap:=s.heap.update l (Obj.mapSeq f),toks:=t'}:=by
 have q:=PySem.IsL.update e f
 rw[hf]at q
 refine I.write (x:=l) (e:=l) (by rw[hH];exact trivial) (.inl rfl) (fun b' u hb hu=>(Heap.get?_update_other s.heap (Obj.mapSeq f) (Ne.symm hb)).trans hu) ⟨_,q⟩ ?_
 exact⟨hz,its',_,hv,q⟩
theorem Inv.lnew{its:List Value}{t':Nat}(I:Inv X pins σ H s)(hv:Vals ys its)(hz:ys.length≤sizeLine):
  Inv X pins σ (upd H s.heap.objs.size (.lst ys)) {s with heap:=s.heap.push {cls:=.type "list",data:=.seq its.toArray},toks:=t'}:=
 I.laid (fun _ _ q=>Heap.get?_push_of_some _ q) (Nat.le_refl _) ⟨hz,its,0,hv,Heap.get?_push_size _ rfl⟩
theorem Inv.fresh(I:Inv X pins σ H s):H s.heap.objs.size=none:=I.hok.fresh (Nat.le_refl _)
theorem Inv.lstM(I:Inv X pins σ H s)(hH:H l=some (.lst xs)):xs.length≤sizeLine∧∃(its:List Value) (n:Nat),Vals xs its∧xs.length=its.length∧s.heap.get? l=some {cls:=.type "list",data:=.seq its.toArray n}:=by
 obtain⟨z,its,n,r,e⟩:=I.hok l _ hH
 exact⟨z,its,n,r,r.length,e⟩
theorem Zq9{n:Nat}(h:n≤sizeLine):Builtin.List.listTooLong n=false:=by
 unfold Builtin.List.listTooLong
 exact decide_eq_false (by omega)
end
section
variable{X:Cx}
noncomputable def Zfa:V→List V→Hp→VK→Prop:=fun x vs H Q=>∃l xs y,x= .ref l∧vs=[y]∧H l=some (.lst xs)∧xs.length<sizeLine∧Q .non (upd H l (.lst (xs++[y])))
theorem Zif:MtM X "list.append" Zfa:=by
 intro pins s σ H x vs v us Q I rx rv h
 obtain⟨l,xs,y,rfl,rfl,hH,hz,q⟩:=h
 cases rx
 obtain⟨u,rfl,ru⟩:=rv.one
 obtain⟨z,its,n,r,hl,e⟩:=I.lstM hH
 refine call_meets F.slot_list_append ⟨_,e,rfl⟩ F.entry_list_append (F.args_list_append_2 _ _) (PySem.list_append l its.toArray n u (by rw[List.size_toArray];omega)) ⟨e,?_⟩
 refine⟨.non,_,I.lset (its':=its++[u]) hH e (by simp) (r.append (.cons ru .nil)) ?_,rfl,q⟩
 rw[List.length_append,List.length_singleton]
 omega
noncomputable def Zn4:V→List V→Hp→VK→Prop:=fun x vs H Q=>∃l b xs zs,x= .ref l∧vs=[.ref b]∧H l=some (.lst xs)∧H b=some (.lst zs)∧xs.length+zs.length≤sizeLine∧Q .non (upd H l (.lst (xs++zs)))
theorem Zn5:MtM X "list.extend" Zn4:=by
 intro pins s σ H x vs v us Q I rx rv h
 obtain⟨l,b,xs,zs,rfl,rfl,hH,hB,hz,q⟩:=h
 cases rx
 obtain⟨u,rfl,ru⟩:=rv.one
 cases ru
 obtain⟨z,its,n,r,hl,e⟩:=I.lstM hH
 obtain⟨z2,its2,n2,r2,hl2,e2⟩:=I.lstM hB
 have hsz:its.toArray.size+its2.toArray.size≤sizeLine:=by rw[List.size_toArray,List.size_toArray];omega
 have hlong:¬(!its.toArray.isEmpty&&Builtin.List.listTooLong (its.toArray.size+its2.toArray.size))=true:=by
  rw[Zq9 hsz,Bool.and_false]
  exact Bool.false_ne_true
 refine call_meets F.slot_list_extend ⟨_,e,rfl⟩ F.entry_list_extend (F.args_list_extend_2 _ _)
  (AutoSeq1.list_extend_list_list_0 l its.toArray n b its2.toArray n2 hlong (by rw[List.size_toArray];omega) (by omega)) ⟨e,e2,?_⟩
 refine⟨.non,_,I.lset (its':=its++its2) hH e (by simp) (r.append r2) ?_,rfl,q⟩
 rw[List.length_append]
 omega
noncomputable def rPop:V→List V→Hp→VK→Prop:=fun x vs H Q=>∃l xs y,x= .ref l∧vs=[]∧H l=some (.lst xs)∧xs[xs.length- 1]? =some y∧Q y (upd H l (.lst xs.dropLast))
noncomputable def Z4p:V→List V→Hp→VK→Prop:=fun x vs H Q=>∃l xs i k y,x= .ref l∧vs=[.int i]∧H l=some (.lst xs)∧-(2^63)≤i∧i<2^63∧seqIndex? i xs.length=some k∧xs[k]? =some y∧Q y (upd H l (.lst (xs.eraseIdx k)))
noncomputable def Z1l:V→List V→Hp→VK→Prop:=fun x vs H Q=>∃l xs,x= .ref l∧vs=[]∧H l=some (.lst xs)∧Q .non (upd H l (.lst xs.reverse))
noncomputable def Z4q:V→List V→Hp→VK→Prop:=fun x vs H Q=>∃l xs,x= .ref l∧vs=[]∧H l=some (.lst xs)∧Q .non (upd H l (.lst []))
noncomputable def rCat:R2:=fun x y H Q=>∃l b xs zs,x= .ref l∧y= .ref b∧H l=some (.lst xs)∧H b=some (.lst zs)∧xs.length+zs.length≤sizeLine∧∀p,H p=none→Q (.ref p) (upd H p (.lst (xs++zs)))
noncomputable def rRep:R2:=fun x y H Q=>∃l k xs,x= .ref l∧y= .int k∧H l=some (.lst xs)∧-(2^63)≤k∧k<2^63∧xs.length*k.toNat≤sizeLine∧
 ∀p,H p=none→Q (.ref p) (upd H p (.lst (List.replicate k.toNat xs).flatten))
end
section
variable{prog:Program}{w:World}{A:Around}{E:Value→Shared→Prop}{s:Shared}
end
section
variable{X:Cx}
end
end L2
namespace L2
open PySem PySem.Spec PyProof.Rows
section
variable{κ:Type}[DecidableEq κ]
noncomputable def valV(kvs:List (κ×V))(k:κ):Option V:=(kvs.find? fun kv=>decide (kv.1=k)).map (·.2)
noncomputable def putK(kvs:List (κ×V))(k:κ)(v:V):List (κ×V):=
 if(kvs.any fun kv=>decide (kv.1=k))=true then kvs.map (fun kv=>if kv.1=k then(kv.1,v)else kv)else kvs++[(k,v)]
noncomputable def Zuz(kvs:List (κ×V))(k:κ):List (κ×V):=kvs.filter fun kv=>decide (kv.1≠k)
theorem Zra{k:κ}:valV ([]:List (κ×V)) k=none:=rfl
theorem Zew{p:κ×V}{r:List (κ×V)}{k:κ}(e:p.1=k):valV (p::r) k=some p.2:=by simp[valV,List.find?_cons,e]
theorem Zex{p:κ×V}{r:List (κ×V)}{k:κ}(e:¬p.1=k):valV (p::r) k=valV r k:=by simp[valV,List.find?_cons,e]
theorem Zgv(k:κ):∀kvs:List (κ×V),(kvs.any fun kv=>decide (kv.1=k))=(valV kvs k).isSome
 | []=>rfl
 |p::r=>by
  rw[List.any_cons]
  by_cases e:p.1=k
  ·simp only[Zew e,decide_eq_true e,Bool.true_or,Option.isSome_some]
  ·rw[Zex e,decide_eq_false e,Bool.false_or];exact Zgv k r
theorem Zfb(kvs:List (κ×V))(k:κ)(v:V):(putK kvs k v).length≤kvs.length+1:=by
 unfold putK
 split
 ·rw[List.length_map];omega
 ·rw[List.length_append,List.length_cons,List.length_nil];omega
theorem RelO.isSome_eq{o:Option V}{u:Option Value}(r:RelO o u):o.isSome=u.isSome:=by
 cases o with
 |none=>cases u with
  |none=>rfl
  |some _=>exact(show False from r).elim
 |some _=>cases u with
  |none=>exact(show False from r).elim
  |some _=>rfl
theorem RelO.getD{o:Option V}{u:Option Value}{d:V}{d':Value}(r:RelO o u)(rd:RelV d d'):RelV (o.getD d) (u.getD d'):=by
 cases o with
 |none=>cases u with
  |none=>exact rd
  |some _=>exact(show False from r).elim
 |some _=>cases u with
  |none=>exact(show False from r).elim
  |some _=>exact r
theorem KV.val{kvs:List (κ×V)}{vs:List (κ×Value)}(r:KV kvs vs)(k:κ):RelO (valV kvs k) (valueAt vs k):=by
 unfold KV at r
 induction r with
 |nil=>exact True.intro
 | @cons p q ps qs h t ih=>
  obtain⟨h1,h2⟩:=h
  by_cases e:p.1=k
  ·have e':q.1=k:=h1.symm.trans e
   have b:valueAt (q::qs) k=some q.2:=by simp[valueAt,List.find?_cons,e']
   rw[Zew e,b];exact h2
  ·have e':¬q.1=k:=fun z=>e (h1.trans z)
   have b:valueAt (q::qs) k=valueAt qs k:=by simp[valueAt,List.find?_cons,e']
   rw[Zex e,b];exact ih
theorem KV.any{kvs:List (κ×V)}{vs:List (κ×Value)}(r:KV kvs vs)(k:κ):(kvs.any fun kv=>decide (kv.1=k))=vs.any fun kv=>decide (kv.1=k):=by
 unfold KV at r
 induction r with
 |nil=>rfl
 |cons h t ih=>rw[List.any_cons,List.any_cons,ih,h.1]
theorem KV.repl{kvs:List (κ×V)}{vs:List (κ×Value)}(r:KV kvs vs)(k:κ){y:V}{u:Value}(ry:RelV y u):
  KV (kvs.map fun kv=>if kv.1=k then(kv.1,y)else kv) (vs.map fun kv=>if kv.1=k then(kv.1,u)else kv):=by
 unfold KV at r⊢
 induction r with
 |nil=>exact .nil
 | @cons p q ps qs h t ih=>
  rw[List.map_cons,List.map_cons]
  refine .cons ?_ ih
  obtain⟨h1,h2⟩:=h
  by_cases e:p.1=k
  ·rw[if_pos e,if_pos (h1.symm.trans e)];exact⟨h1,ry⟩
  ·rw[if_neg e,if_neg (fun z=>e (h1.trans z))];exact⟨h1,h2⟩
theorem KV.put{kvs:List (κ×V)}{vs:List (κ×Value)}(r:KV kvs vs)(k:κ){y:V}{u:Value}(ry:RelV y u):KV (putK kvs k y) (stored vs k u):=by
 unfold putK stored
 rw[r.any k]
 by_cases e:(vs.any fun kv=>decide (kv.1=k))=true
 ·rw[if_pos e,if_pos e];exact r.repl k ry
 ·rw[if_neg e,if_neg e];exact Paired.snoc r ⟨rfl,ry⟩
theorem KV.length{kvs:List (κ×V)}{vs:List (κ×Value)}(r:KV kvs vs):kvs.length=vs.length:=Paired.length r
end
theorem Zjv{P:Program}{w:World}{k:Key}{u:Value}(r:RelV (kV k) u):(Zz P w).is k u=true:=by
 cases k with
 |inl i=>obtain⟨t,e⟩:=(show∃t,u=Value.int i t from r);subst e;exact Zjo P w i t
 |inr x=>obtain⟨t,e⟩:=(show∃t,u=Value.str x t from r);subst e;exact Zjp P w x t
theorem Zig{P:Program}{w:World}:∀{ks:List Key} {us:List Value},Vals (ks.map kV) us→ItemsAre (Zz P w) ks us
 | [],_,r=>by rw[List.map_nil]at r;cases r;exact .nil
 |k::ks,_,r=>by
  rw[List.map_cons]at r
  cases r with
  |cons h t=>exact .cons (Zjv h) (Zig t)
noncomputable abbrev KT(H:Hp):List (List Key×V)→List (List Key×Addr×Value)→Prop:=Paired fun p q=>p.1=q.1∧H q.2.1=some (.tup (p.1.map kV))∧RelV p.2 q.2.2
theorem KT.val{H:Hp}{kvs:List (List Key×V)}{xs:List (List Key×Addr×Value)}(r:KT H kvs xs)(k:List Key):RelO (valV kvs k) ((atKey xs k).map (·.2)):=by
 induction r with
 |nil=>exact True.intro
 | @cons p q ps qs h t ih=>
  obtain⟨h1,_,h2⟩:=h
  by_cases e:p.1=k
  ·have e':q.1=k:=h1.symm.trans e
   have b:atKey (q::qs) k=some q.2:=by simp[atKey,List.find?_cons,e']
   rw[Zew e,b];exact h2
  ·have e':¬q.1=k:=fun z=>e (h1.trans z)
   have b:atKey (q::qs) k=atKey qs k:=by simp[atKey,List.find?_cons,e']
   rw[Zex e,b];exact ih
theorem KT.repl{H:Hp}{kvs:List (List Key×V)}{xs:List (List Key×Addr×Value)}(r:KT H kvs xs)(k:List Key){y:V}{u:Value}(ry:RelV y u):
  KT H (kvs.map fun kv=>if kv.1=k then(kv.1,y)else kv) (xs.map (putAt k u)):=by
 induction r with
 |nil=>exact .nil
 | @cons p q ps qs h t ih=>
  rw[List.map_cons,List.map_cons]
  refine .cons ?_ ih
  obtain⟨h1,h2,h3⟩:=h
  unfold putAt
  by_cases e:p.1=k
  ·rw[if_pos e,if_pos (h1.symm.trans e)];exact⟨h1,h2,ry⟩
  ·rw[if_neg e,if_neg (fun z=>e (h1.trans z))];exact⟨h1,h2,h3⟩
theorem KT.put{H:Hp}{kvs:List (List Key×V)}{xs:List (List Key×Addr×Value)}(r:KT H kvs xs)(k:List Key){b:Addr}{y:V}{u:Value}(hb:H b=some (.tup (k.map kV)))(ry:RelV y u):
  KT H (putK kvs k y) (storedH xs k b u):=by
 have e:(kvs.any fun kv=>decide (kv.1=k))=(atKey xs k).isSome:=by
  rw[Zgv,(r.val k).isSome_eq,Option.isSome_map]
 unfold putK storedH
 rw[e]
 by_cases q:(atKey xs k).isSome=true
 ·rw[if_pos q,if_pos q];exact r.repl k ry
 ·rw[if_neg q,if_neg q];exact Paired.snoc r ⟨rfl,hb,ry⟩
theorem KT.keeps{H H':Hp}{kvs:List (List Key×V)}{xs:List (List Key×Addr×Value)}(r:KT H kvs xs)(ht:∀b ys,H b=some (.tup ys)→H' b=some (.tup ys)):KT H' kvs xs:=
 Paired.mapP r fun _ _ z=>⟨z.1,ht _ _ z.2.1,z.2.2⟩
section
variable{P:Program}{w:World}{H:Hp}{h:Heap}{a:Addr}
theorem Zyj{u:HO}(ok:HOk P w H h)(e:Rd H a u):Zbf P w H h a u:=e.ok ok
theorem Zga{kvs:List (Key×V)}(ok:HOk P w H h)(e:RdK H a kvs):kvs.length≤sizeLine∧(a==sysModules)=false∧∃vs,KV kvs vs∧h.DictOf (Zz P w) a vs:=
 let⟨ep,e⟩:=e;let⟨z,y,vs,r,d⟩:=(show Zbf P w H h a (.dK kvs ep)from Zyj ok e);⟨z,y,vs,r,d.dictOf⟩
theorem Zyk{kvs:List (Key×V)}(ok:HOk P w H h)(e:HK H a kvs):kvs.length≤sizeLine∧(a==sysModules)=false∧∃vs,KV kvs vs∧h.DictOf (Zz P w) a vs:=Zga ok e.rd
theorem Zfc{ks:List Key}(ok:HOk P w H h)(e:H a=some (.tup (ks.map kV))):(tupleKind (Zz P w)).is h ks a:=by
 obtain⟨_,its,r,o,h1,h2,n,h3⟩:=(show Zbf P w H h a (.tup (ks.map kV))from ok a _ e)
 exact⟨o,its.toArray,n,h1,h2,h3,by simpa using Zig r⟩
theorem Zjw{kvs:List (List Key×V)}(ok:HOk P w H h)(e:RdT H a kvs):kvs.length≤sizeLine∧(a==sysModules)=false∧
  ∃xs,KT H kvs xs∧h.DictOfH (tupleKind (Zz P w)) a xs:=by
 obtain⟨ep,bs,e⟩:=e
 obtain⟨z,y,xs,r,o,es,h1,h2,h3,h4,h5,_⟩:=(show Zbf P w H h a (.dT kvs ep bs)from Zyj ok e)
 refine⟨z,y,xs,r,o,es,ep,h1,h2,h3,h4,fun x hx=>?_,h5⟩
 have all:∀{l:List (List Key×V)} {m:List (List Key×Addr×Value)},KT H l m→∀x∈m,(tupleKind (Zz P w)).is h x.1 x.2.1:=by
  intro l m q
  induction q with
  |nil=>intro x hx;exact nomatch hx
  | @cons p q ps qs hq t ih=>
   intro x hx
   rcases List.mem_cons.mp hx with e|hx
   ·subst e
    exact Zfc ok (by rw[←hq.1];exact hq.2.1)
   ·exact ih x hx
 exact all r x hx
theorem Z18{kvs:List (List Key×V)}(ok:HOk P w H h)(e:HTt H a kvs):kvs.length≤sizeLine∧(a==sysModules)=false∧
  ∃xs,KT H kvs xs∧h.DictOfH (tupleKind (Zz P w)) a xs:=Zjw ok e.rd
end
noncomputable def DGet(H:Hp)(a:Addr)(y:V)(r:Option V):Prop:=
 (∃kvs k,RdK H a kvs∧y=kV k∧r=valV kvs k)∨∃kvs k b,RdT H a kvs∧y= .ref b∧H b=some (.tup (k.map kV))∧r=valV kvs k
noncomputable def DPut(H:Hp)(a:Addr)(y v:V)(R:Hp→Prop):Prop:=
 (∃kvs k,HK H a kvs∧y=kV k∧kvs.length<sizeLine∧∀ep,R (upd H a (.dK (putK kvs k v) ep)))∨
 ∃kvs k b,HTt H a kvs∧y= .ref b∧H b=some (.tup (k.map kV))∧kvs.length<sizeLine∧∀ep ep0 bs,H a=some (.dT kvs ep0 bs)→R (upd H a (.dT (putK kvs k v) ep (putB kvs bs k b)))
theorem DGet.k{H:Hp}{a:Addr}{kvs:List (Key×V)}{k:Key}(e:HK H a kvs):DGet H a (kV k) (valV kvs k):=.inl ⟨kvs,k,e.rd,rfl,rfl⟩
theorem DGet.t{H:Hp}{a b:Addr}{kvs:List (List Key×V)}{k:List Key}(e:HTt H a kvs)(eb:H b=some (.tup (k.map kV))):DGet H a (.ref b) (valV kvs k):=.inr ⟨kvs,k,b,e.rd,rfl,eb,rfl⟩
theorem DPut.k{H:Hp}{a:Addr}{kvs:List (Key×V)}{k:Key}{v:V}{R:Hp→Prop}(e:HK H a kvs)(hl:kvs.length<sizeLine)(h:∀ep,R (upd H a (.dK (putK kvs k v) ep))):DPut H a (kV k) v R:=.inl ⟨kvs,k,e,rfl,hl,h⟩
theorem DPut.t{H:Hp}{a b:Addr}{kvs:List (List Key×V)}{k:List Key}{v:V}{R:Hp→Prop}(e:HTt H a kvs)(eb:H b=some (.tup (k.map kV)))(hl:kvs.length<sizeLine)(h:∀ep ep0 bs,H a=some (.dT kvs ep0 bs)→R (upd H a (.dT (putK kvs k v) ep (putB kvs bs k b)))):
  DPut H a (.ref b) v R:=.inr ⟨kvs,k,b,e,rfl,eb,hl,h⟩
section
variable{X:Cx}{pins:List (Addr×Obj)}{σ:St}{H:Hp}{s:Shared}{a:Addr}{y v:V}{u r:Value}{o:Option V}{A:Around}{E:Value→Shared→Prop}
theorem Inv.big(I:Inv X pins σ H s):sysModules<s.heap.objs.size:=by
 have h:mainGlobals<s.heap.objs.size:=(I.mod.glob.keeps I.bk).lt
 exact Nat.lt_trans (by decide) h
theorem Zn6{Q:Value→Shared→Prop}(hu:A.units+1<cLine)(I:Inv X pins σ H s)(g:DGet H a y (some v))(ry:RelV y u)(h:∀w' s',Inv X pins σ H s'→RelV v w'→Q w' s'):
  wpAny (model X.prog X.w) A (getItem (.ref a) u) Q E s:=by
 rcases g with⟨kvs,k,e,ey,l⟩|⟨kvs,k,b,e,ey,eb,l⟩
 ·subst ey
  obtain⟨z,hd,vs,rel,dd⟩:=Zga I.hok e
  obtain⟨w',hw,rw'⟩:=RelO.some_of (v:=v) (o:=valueAt vs k) (by rw[l];exact rel.val k)
  exact wpAny_getItem_of (Zjv ry) dd.mapOf hw (h w' _ (I.tok _) rw')
 ·subst ey
  cases(show u=Value.ref b from ry)
  obtain⟨z,hd,xs,rel,dd⟩:=Zjw I.hok e
  obtain⟨w',hw,rw'⟩:=RelO.some_of (v:=v) (o:=(atKey xs k).map (·.2)) (by rw[l];exact rel.val k)
  obtain⟨p,hp,hp2⟩:=Option.map_eq_some_iff.mp hw
  refine wpAny_getItem_heap (tupleKind_room_in1 hu) (Zfc I.hok eb) dd hp ?_
  rw[hp2]
  exact h w' _ (I.tok _) rw'
theorem d_in{Q:Value→Shared→Prop}(hu:A.units+1<cLine)(I:Inv X pins σ H s)(g:DGet H a y o)(ry:RelV y u)(h:∀s',Inv X pins σ H s'→Q (.bool o.isSome) s'):
  wpAny (model X.prog X.w) A (compareOp .In u (.ref a)) Q E s:=by
 rcases g with⟨kvs,k,e,ey,l⟩|⟨kvs,k,b,e,ey,eb,l⟩
 ·subst ey
  obtain⟨z,hd,vs,rel,dd⟩:=Zga I.hok e
  refine wpAny_in_of (Zjv ry) hd dd.mapOf ?_
  rw[←(rel.val k).isSome_eq,←l]
  exact h _ (I.tok _)
 ·subst ey
  cases(show u=Value.ref b from ry)
  obtain⟨z,hd,xs,rel,dd⟩:=Zjw I.hok e
  refine wpAny_in_heap (tupleKind_room_in1 hu) (Zfc I.hok eb) hd dd ?_
  have q:=(rel.val k).isSome_eq
  rw[Option.isSome_map]at q
  rw[←q,←l]
  exact h _ (I.tok _)
theorem Zu0{Q:Value→Shared→Prop}(hu:A.units+1<cLine)(I:Inv X pins σ H s)(g:DGet H a y o)(ry:RelV y u)(h:∀s',Inv X pins σ H s'→Q (.bool (!o.isSome)) s'):
  wpAny (model X.prog X.w) A (compareOp .NotIn u (.ref a)) Q E s:=by
 rcases g with⟨kvs,k,e,ey,l⟩|⟨kvs,k,b,e,ey,eb,l⟩
 ·subst ey
  obtain⟨z,hd,vs,rel,dd⟩:=Zga I.hok e
  refine wpAny_notIn_of (Zjv ry) hd dd.mapOf ?_
  rw[←(rel.val k).isSome_eq,←l]
  exact h _ (I.tok _)
 ·subst ey
  cases(show u=Value.ref b from ry)
  obtain⟨z,hd,xs,rel,dd⟩:=Zjw I.hok e
  refine wpAny_notIn_heap (tupleKind_room_in1 hu) (Zfc I.hok eb) hd dd ?_
  have q:=(rel.val k).isSome_eq
  rw[Option.isSome_map]at q
  rw[←q,←l]
  exact h _ (I.tok _)
theorem Zn7{h':Heap}{t':Nat}{ob:HO}(I:Inv X pins σ H s)(mu:Mut (H a))(hs:Heap.SameBut a s.heap h')(he:∃q,h'.get? a=some q)(new:Zbf X.prog X.w (upd H a ob) h' a ob):
  Inv X pins σ (upd H a ob) {s with heap:=h',toks:=t'}:=
 I.write (x:=a) (e:=a) mu (.inl rfl) (fun b q hb z=>(hs.2 b hb).trans z) he new
theorem Zyl{P:Program}{w:World}{h':Heap}{kvs:List (Key×V)}{vs:List (Key×Value)}(z:kvs.length≤sizeLine)(hd:(a==sysModules)=false)(rel:KV kvs vs)(dd:h'.DictOf (Zz P w) a vs):
  ∃ep,∀H':Hp,Zbf P w H' h' a (.dK kvs ep):=let⟨ep,dd⟩:=dd.dictAt;⟨ep,fun _=>⟨z,hd,vs,rel,dd⟩⟩
theorem Zn8{R:Hp→Prop}{Q:Unit→Shared→Prop}(hu:A.units+1<cLine)(I:Inv X pins σ H s)(g:DPut H a y v R)(ry:RelV y u)(rv:RelV v r)(h:∀H' s',R H'→Inv X pins σ H' s'→Q () s'):
  wpAny (model X.prog X.w) A (setItem (.ref a) u r) Q E s:=by
 rcases g with⟨kvs,k,e,ey,l,eH⟩|⟨kvs,k,b,e,ey,eb,l,eH⟩
 ·subst ey
  obtain⟨z,hd,vs,rel,dd⟩:=Zyk I.hok e
  have hz:vs.length≤sizeLine:=by rw[←rel.length];exact z
  have hl:(putK kvs k v).length≤sizeLine:=by have:=Zfb kvs k v;omega
  refine wpAny_setItem_pairs (hsz:=hz) (Zjv ry) dd fun h' dd' hs=>?_
  have he:∃q,h'.get? a=some q:=let⟨q,_,_,hq,_⟩:=dd';⟨q,hq⟩
  obtain⟨ep,ok⟩:=Zyl hl hd (rel.put k rv) dd'
  exact h _ _ (eH ep) (Zn7 I (by obtain⟨e0,e⟩:=e;rw[e];exact True.intro) hs he (ok _))
 ·subst ey
  cases(show u=Value.ref b from ry)
  obtain⟨z,hd,xs,rel,dd⟩:=Z18 I.hok e
  have hz:xs.length≤sizeLine:=by rw[←Paired.length rel];exact z
  have hl:(putK kvs k v).length≤sizeLine:=by have:=Zfb kvs k v;omega
  refine wpAny_setItem_heap (hsz:=hz) (tupleKind_room_in1 hu) (Zfc I.hok eb) dd fun h' dd' hs=>?_
  obtain⟨q,es,ep,hq,h2,h3,h4,_,h5⟩:=dd'
  obtain⟨e0,bs,e⟩:=e
  have hb:(xs.map fun x=>x.2.1)=bs:=by
   obtain⟨_,_,xs',r',_,_,w1,_,w3,w4,_,w6⟩:=(show Zbf X.prog X.w H s.heap a (.dT kvs e0 bs)from I.hok a _ e)
   obtain⟨_,_,_,y1,_,y3,y4,_⟩:=dd
   rw[w1]at y1;cases y1
   rw[w3]at y3;cases y3
   have:xs'.map (fun x=>x.2.1)=xs.map fun x=>x.2.1:=by
    have z:=congrArg (List.map DictEntry.key) (w4.symm.trans y4)
    rw[List.map_map,List.map_map]at z
    have inj:∀{l m:List (List Key×Addr×Value)},l.map (DictEntry.key∘entryOfKey (tupleKind (Zz X.prog X.w)))=m.map (DictEntry.key∘entryOfKey (tupleKind (Zz X.prog X.w)))→(l.map fun x=>x.2.1)=m.map fun x=>x.2.1:=by
     intro l
     induction l with
     |nil=>intro m z;cases m with
      |nil=>rfl
      |cons _ _=>cases z
     |cons x l ih=>intro m z;cases m with
      |nil=>cases z
      |cons y m=>
       rw[List.map_cons,List.map_cons]at z⊢
       injection z with z1 z2
       have z1':Value.ref x.2.1=Value.ref y.2.1:=z1
       injection z1' with z1'
       rw[z1',ih z2]
    exact inj z
   rw[←this];exact w6
  have hb2:((storedH xs k b r).map fun x=>x.2.1)=putB kvs bs k b:=by
   have ee:(kvs.any fun kv=>decide (kv.1=k))=(atKey xs k).isSome:=by
    rw[Zgv,(rel.val k).isSome_eq,Option.isSome_map]
   unfold putB storedH
   rw[ee]
   by_cases qq:(atKey xs k).isSome=true
   ·rw[if_pos qq,if_pos qq,List.map_map,←hb]
    refine List.map_congr_left fun x _=>?_
    show(putAt k r x).2.1=x.2.1
    unfold putAt
    split<;> rfl
   ·rw[if_neg qq,if_neg qq,List.map_append,hb];rfl
  refine h _ _ (eH ep e0 bs e) (Zn7 I (by rw[e];exact True.intro) hs ⟨q,hq⟩ ⟨hl,hd,_,(rel.put k eb rv).keeps fun c ys ec=>?_,q,es,hq,h2,h3,h4,h5,hb2⟩)
  rw[Zr (Z1z ec e (fun z=>nomatch z))]
  exact ec
end
section
variable{X:Cx}{pins:List (Addr×Obj)}{σ:St}{H:Hp}{s:Shared}{a:Addr}{kvs:List (Key×V)}{k:Key}{u:Value}{A:Around}{E:Value→Shared→Prop}
theorem Z19{Q:Value→Shared→Prop}(I:Inv X pins σ H s)(e:RdK H a kvs)(h:∀t s',Inv X pins σ H s'→Q (.int kvs.length t) s'):wpAny (model X.prog X.w) A (call (.builtin "len") [.ref a]) Q E s:=by
 obtain⟨z,hd,vs,rel,dd⟩:=Zga I.hok e
 refine call_len_dict hd dd (by rw[←rel.length];rw[sizeLine_eq]at z;omega) ?_
 rw[←rel.length]
 exact h _ _ (I.tok _)
end
noncomputable def NoSl(i:Expr):Prop:=∀ov iv,subscripted i false ov iv=operate [ov,iv] (getItem ov iv)
theorem Zu1{prog:Program}{w:World}{A:Around}{E:Value→Shared→Prop}{s:Shared}{env:Env}{value slice:Expr}{pos:Pos}{T id:String}{Q:Value→Shared→Prop}
  (hl:typeLookup (.type T) "__getitem__"=pure (some (.builtin id))) (hs:NoSl slice)
  (h:wpAny (model prog w) A (eval value env) (fun o s₁=>wpAny (model prog w) A (eval slice env) (fun i s₂=>s₂.TypeIs o T∧wpAny (model prog w) A (getItem o i) Q E s₂) E s₁) E s):
  wpAny (model prog w) A (eval (.Subscript value slice pos) env) Q E s:=by
 refine Subscript_ (wpAny_mono h (fun o s₁ h₁=>wpAny_mono h₁ (fun i s₂ h₂=>?_) fun _ _ x=>x) fun _ _ x=>x)
 obtain⟨hT,h₂⟩:=h₂
 unfold subscriptTail
 refine wpAny_bind ?_
 rw[getitemInPython_of_ne hT.not_modules]
 refine wpAny_bind (wpAny_specialOf hT hl ?_)
 have fin:wpAny (model prog w) A (subscripted slice false o i) (fun r s₃=>wpAny (model prog w) A (letTemporaryGo value o r >>=fun _=>pure r) Q E s₃) E s₂:=by
  rw[hs o i]
  exact wpAny_operating (wpAny_mono h₂ (fun r s₃ h₃=>wpAny_bind (wpAny_letTemporaryGo (wpAny_pure h₃))) fun _ _ x=>x)
 first
  |exact wpAny_pure (wpAny_bind fin)
  |exact wpAny_bind (wpAny_pure (wpAny_bind fin))
  |exact wpAny_bind fin
theorem Zjx{X:Cx}{pins:List (Addr×Obj)}{σ:St}{H:Hp}{s:Shared}{a:Addr}{y:V}{o:Option V}(I:Inv X pins σ H s)(g:DGet H a y o):s.TypeIs (.ref a) "dict":=by
 rcases g with⟨kvs,k,e,_,_⟩|⟨kvs,k,b,e,_,_,_⟩
 ·obtain⟨_,_,vs,_,dd⟩:=Zga I.hok e
  exact dd.typeIs
 ·obtain⟨_,_,xs,_,dd⟩:=Zjw I.hok e
  exact dd.typeIs
noncomputable def Z2a(td ty:TE):TE:=fun σ H Q=>td σ H fun x H1=>ty σ H1 fun y H2=>∃a v,x= .ref a∧DGet H2 a y (some v)∧Q v H2
noncomputable def tDIn(ty td:TE):TE:=fun σ H Q=>ty σ H fun y H1=>td σ H1 fun x H2=>∃a o,x= .ref a∧DGet H2 a y o∧Q (.bl o.isSome) H2
noncomputable def Z2b(ty td:TE):TE:=fun σ H Q=>ty σ H fun y H1=>td σ H1 fun x H2=>∃a o,x= .ref a∧DGet H2 a y o∧Q (.bl (!o.isSome)) H2
noncomputable def Zym(td ty tv:TE):TS:=fun D σ H=>tv σ H fun v H1=>td σ H1 fun x H2=>ty σ H2 fun y H3=>∃a,x= .ref a∧DPut H3 a y v (D.nx σ)
noncomputable def Z5z(td ty tv:TE)(rd:V→V→Hp→VK→Prop):TS:=fun D σ H=>td σ H fun x H1=>ty σ H1 fun y H2=>∃a v,x= .ref a∧DGet H2 a y (some v)∧
 tv σ H2 fun y2 H3=>rd v y2 H3 fun z H4=>DPut H4 a y z (D.nx σ)
noncomputable def Z50(td ty:TE):TS:=fun D σ H=>td σ H fun x H1=>ty σ H1 fun y H2=>∃a kvs k,x= .ref a∧HK H2 a kvs∧y=kV k∧(valV kvs k).isSome=true∧∀ep,D.nx σ (upd H2 a (.dK (Zuz kvs k) ep))
section
variable{X:Cx}{o i e value:Expr}{pos pos' tpos:Pos}{td ty tv:TE}
theorem Zu2(hu:X.A.units+1<cLine)(ho:PE X o td)(hi:PE X i ty)(hs:NoSl i):PE X (.Subscript o i pos) (Z2a td ty):=by
 intro pins s σ H Q I h
 refine Zu1 PySem.F.slot_dict_getitem.lookup hs (thn (ho pins s σ H _ I h) fun u s1 ⟨x,H1,I1,rx,q1⟩=>thn (hi pins s1 σ H1 _ I1 q1) fun iv s2 zq9=>?_)
 obtain⟨y,H2,I2,ry,a,v,ex,g,q2⟩:=zq9
 subst ex
 obtain rfl:u=Value.ref a:=rx
 exact⟨Zjx I2 g,Zn6 hu I2 g ry fun w' s3 I3 rw'=>⟨v,H2,I3,rw',q2⟩⟩
theorem Zu3(hu:X.A.units+1<cLine)(ho:PE X o td)(hi:PE X i ty)(hv:PE X value tv)(hs:swapsWith value (some (.Subscript o i pos')) pos.line X.env=pure false):
  PS X (.Assign [.Subscript o i pos'] value pos) (Zym td ty tv):=by
 intro pins s σ H D I h
 refine wpAny_Assign_Subscript (thn (hv pins s σ H _ I h) fun r s1 ⟨v,H1,I1,rv,q1⟩=>thn (ho pins s1 σ H1 _ I1 q1) fun u s2 ⟨x,H2,I2,rx,q2⟩=>thn (hi pins s2 σ H2 _ I2 q2) fun iv s3 ⟨y,H3,I3,ry,a,ex,g⟩=>?_) hs
 subst ex
 obtain rfl:u=Value.ref a:=rx
 exact Zn8 hu I3 g ry rv fun H4 s4 q3 I4=>⟨σ,H4,I4,q3⟩
end
theorem Zrb{P:Program}{w:World}{H:Hp}(h:Heap)(hb:sysModules<h.objs.size):Zbf P w H (h.push {cls:=.type "dict",data:=.dict #[]}) h.objs.size (.dK [] 0):=
 ⟨Nat.zero_le _,beq_eq_false_iff_ne.mpr (Ne.symm (Nat.ne_of_lt hb)),[],.nil,_, #[],Heap.get?_push_size _ rfl,⟨rfl,rfl,rfl⟩,rfl,fun _ he=>by simp at he,Pairs.nil,List.nodup_nil⟩
noncomputable def Ztk:TE:=fun _ H Q=>∀p,H p=none→Q (.ref p) (upd H p (.dK [] 0))
noncomputable def Z4r:TE:=fun _ H Q=>∀p,H p=none→Q (.ref p) (upd H p (.dT [] 0 []))
section
variable{X:Cx}{pos:Pos}
theorem Zrc:PE X (.Dict [] [] pos) Ztk:=fun pins s σ H Q I h=>
 wpAny_Dict_empty ⟨.ref s.heap.objs.size,_,I.laid (a:=s.heap.objs.size) (o:=.dK [] 0) (t':=s.toks) (fun _ _ q=>Heap.get?_push_of_some _ q) (Nat.le_refl _) (Zrb s.heap I.big),rfl,h _ (I.hok.fresh (Nat.le_refl _))⟩
end
noncomputable def Zk4:List (TE×TE)→St→Hp→(List (V×V)→Hp→Prop)→Prop
  | [],_,H,Q=>Q [] H
  | (tk,tv)::r,σ,H,Q=>tk σ H fun x H1=>tv σ H1 fun y H2=>Zk4 r σ H2 fun ps H3=>Q ((x,y)::ps) H3
noncomputable abbrev VV:List (V×V)→List (Value×Value)→Prop:=Paired fun p q=>RelV p.1 q.1∧RelV p.2 q.2
noncomputable def PPs(X:Cx)(pos:Pos)(keys:List (Option Expr))(values:List Expr)(trs:List (TE×TE)):Prop:=
 ∀(pins:List (Addr×Obj)) (s:Shared) (σ:St) (H:Hp) (Q:List (V×V)→Hp→Prop),Inv X pins σ H s→Zk4 trs σ H Q→
  wpAny (model X.prog X.w) X.A (evalPairs (pairTrees keys values X.env pos)) (fun vs s'=>∃ps H',Inv X pins σ H' s'∧VV ps vs∧Q ps H') X.xe s
noncomputable def Ztl(kvs more:List (Key×V)):List (Key×V):=more.foldl (fun acc kv=>putK acc kv.1 kv.2) kvs
noncomputable def Z51(trs:List (TE×TE)):TE:=fun σ H Q=>∀p,H p=none→Zk4 trs σ (upd H p (.dK [] 0)) fun ps H2=>H2 p=some (.dK [] 0)∧∃kvs:List (Key×V),ps=kvs.map (fun kv=>(kV kv.1,kv.2))∧kvs.length≤15∧∀ep,Q (.ref p) (upd H2 p (.dK (Ztl [] kvs) ep))
structure M1(X:Cx)(o:Expr)(m:Str)(apos:Pos)(e:Expr)(cpos:Pos):Prop where
 base:attributeBase o m X.env (eval o X.env)=eval o X.env
 few:((backTo cpos (starEach [e] X.env)).all (fun x=>!x.1)&&(backToKw cpos (keywordEach [] X.env)).all (fun x=>x.1.isSome)
  &&decide (([e]:List Expr).length+([]:List Keyword).length+(if([]:List Keyword).isEmpty then 0 else 1)<30))=true
 line:(apos.endLine==cpos.line)=true
 trees:backTo cpos (starEach [e] X.env)=[(false,eval e X.env)]
structure M2(X:Cx)(o:Expr)(m:Str)(apos:Pos)(e f:Expr)(cpos:Pos):Prop where
 base:attributeBase o m X.env (eval o X.env)=eval o X.env
 few:((backTo cpos (starEach [e,f] X.env)).all (fun x=>!x.1)&&(backToKw cpos (keywordEach [] X.env)).all (fun x=>x.1.isSome)
  &&decide (([e,f]:List Expr).length+([]:List Keyword).length+(if([]:List Keyword).isEmpty then 0 else 1)<30))=true
 line:(apos.endLine==cpos.line)=true
 trees:backTo cpos (starEach [e,f] X.env)=[(false,eval e X.env),(false,eval f X.env)]
noncomputable def IsD(H:Hp)(a:Addr):Prop:=(∃kvs,RdK H a kvs)∨∃kvs,RdT H a kvs
section
variable{X:Cx}{pins:List (Addr×Obj)}{σ:St}{H:Hp}{s:Shared}{a:Addr}{y d:V}{u r:Value}{o:Option V}{A:Around}{E:Value→Shared→Prop}
theorem Zyn{Q:Value→Shared→Prop}(hu:A.units+1<cLine)(I:Inv X pins σ H s)(g:DGet H a y o)(ry:RelV y u)(h:∀w' s',Inv X pins σ H s'→RelV (o.getD .non) w'→Q w' s'):
  wpAny (model X.prog X.w) A (call (.builtin "dict.get") [.ref a,u]) Q E s:=by
 rcases g with⟨kvs,k,e,ey,l⟩|⟨kvs,k,b,e,ey,eb,l⟩
 ·subst ey
  obtain⟨z,hd,vs,rel,dd⟩:=Zga I.hok e
  refine call_meetsIn PySem.F.slot_dict_get dd.typeIs PySem.F.entry_dict_get (PySem.F.args_dict_get_2 _ _) (meets_dict_get (Zz X.prog X.w) a (Zjv ry) hd) ⟨_,dd.mapOf,h _ _ (I.tok _) ?_⟩
  rw[l]
  exact(rel.val k).getD rfl
 ·subst ey
  cases(show u=Value.ref b from ry)
  obtain⟨z,hd,xs,rel,dd⟩:=Zjw I.hok e
  refine call_meetsIn PySem.F.slot_dict_get dd.typeIs PySem.F.entry_dict_get (PySem.F.args_dict_get_2 _ _) (meetsH_dict_get (tupleKind (Zz X.prog X.w)) a b hd) ⟨tupleKind_room_in1 hu,k,xs,Zfc I.hok eb,dd,h _ _ (I.tok _) ?_⟩
  rw[l]
  exact(rel.val k).getD rfl
theorem Zyo{Q:Value→Shared→Prop}(hu:A.units+1<cLine)(I:Inv X pins σ H s)(g:DGet H a y o)(ry:RelV y u)(rd:RelV d r)(h:∀w' s',Inv X pins σ H s'→RelV (o.getD d) w'→Q w' s'):
  wpAny (model X.prog X.w) A (call (.builtin "dict.get") [.ref a,u,r]) Q E s:=by
 rcases g with⟨kvs,k,e,ey,l⟩|⟨kvs,k,b,e,ey,eb,l⟩
 ·subst ey
  obtain⟨z,hd,vs,rel,dd⟩:=Zga I.hok e
  refine call_meetsIn PySem.F.slot_dict_get dd.typeIs PySem.F.entry_dict_get (PySem.F.args_dict_get_3 _ _ _) (meets_dict_get_default (Zz X.prog X.w) a (Zjv ry) hd r) ⟨_,dd.mapOf,h _ _ (I.tok _) ?_⟩
  rw[l]
  exact(rel.val k).getD rd
 ·subst ey
  cases(show u=Value.ref b from ry)
  obtain⟨z,hd,xs,rel,dd⟩:=Zjw I.hok e
  refine call_meetsIn PySem.F.slot_dict_get dd.typeIs PySem.F.entry_dict_get (PySem.F.args_dict_get_3 _ _ _) (meetsH_dict_get_default (tupleKind (Zz X.prog X.w)) a b hd r) ⟨tupleKind_room_in1 hu,k,xs,Zfc I.hok eb,dd,h _ _ (I.tok _) ?_⟩
  rw[l]
  exact(rel.val k).getD rd
end
noncomputable def Z4s(td ty:TE):TE:=fun σ H Q=>td σ H fun x H1=>∃a,x= .ref a∧IsD H1 a∧ty σ H1 fun y H2=>∃o,DGet H2 a y o∧Q (o.getD .non) H2
noncomputable def Z4t(td ty tx:TE):TE:=fun σ H Q=>td σ H fun x H1=>∃a,x= .ref a∧IsD H1 a∧ty σ H1 fun y H2=>tx σ H2 fun z H3=>∃o,DGet H3 a y o∧Q (o.getD z) H3
noncomputable def Z4u(td ty:TE):TE:=fun σ H Q=>td σ H fun x H1=>∃a,x= .ref a∧IsD H1 a∧ty σ H1 fun y H2=>∃kvs k v,HK H2 a kvs∧y=kV k∧valV kvs k=some v∧∀ep,Q v (upd H2 a (.dK (Zuz kvs k) ep))
noncomputable def Z4v(td ty tx:TE):TE:=fun σ H Q=>td σ H fun x H1=>∃a,x= .ref a∧IsD H1 a∧ty σ H1 fun y H2=>tx σ H2 fun z H3=>∃kvs k,HK H3 a kvs∧y=kV k∧
 (∀v ep,valV kvs k=some v→Q v (upd H3 a (.dK (Zuz kvs k) ep)))∧(valV kvs k=none→Q z H3)
section
variable{X:Cx}{o e f:Expr}{apos cpos:Pos}{td ty tx:TE}
end
section
variable{X:Cx}{pins:List (Addr×Obj)}{σ:St}{H:Hp}{s:Shared}{a:Addr}{kvs:List (Key×V)}{A:Around}{E:Value→Shared→Prop}
end
section
variable{X:Cx}{pins:List (Addr×Obj)}{σ:St}{H:Hp}{s:Shared}{a:Addr}{y:V}{u:Value}{A:Around}{E:Value→Shared→Prop}
end
end L2
namespace Att
open PySem PySem.W PySem.Calls PyProof.Rows
theorem Zfd{P:Params}{h:Heap}:∀(ns:List Int) (vs:List Value),WellAll P h vs (ns.map WData.int)→IntsAre vs ns:=by
 intro ns
 induction ns with
 |nil=>
  intro vs w
  rw[List.map_nil]at w
  cases w
  exact .nil
 |cons n ns ih=>
  intro vs w
  rw[List.map_cons]at w
  cases w with
  |cons a b=>
   cases a
   exact .cons _ _ (ih _ b)
theorem Zn9{l:OpenLaw}{n:Nat}(hn:l.most=some n){P:Params}{h:Heap}{args:List WData}{vals:List Value}
  (hpre:l.row.toRowW.claim.pre args=true) (hwl:WellAll P h vals args):
  ∃a vs ns,vals=[Value.ref a]∧args=[WData.list (ns.map WData.int)]∧h.get? a=some {cls:=.type "list",data:=.seq vs.toArray}∧IntsAre vs ns∧ns.length≤n:=by
 have hsh:WShape.hasAll [] args [.list .int]=true:=(pre_splitW hpre).1
 have hc:l.pre.holds [] {args:=args}=true:=(pre_splitW hpre).2
 obtain⟨d,r,rfl,h1,h2⟩:=hasAllW_cons hsh
 obtain rfl:=hasAllW_nil h2
 obtain⟨xs,rfl,h3⟩:=hasW_list h1
 obtain⟨ns,rfl⟩:=items_int h3
 have hlen:ns.length≤n:=by
  unfold OpenLaw.pre at hc
  have h4:(WTm.not (.lt (.lit (.int (n:Int))) (.len (.arg 0)))).holds [] {args:=[.list (ns.map .int)]}=true:=by
   have h4:=(holds_andW hc).1
   rw[hn]at h4
   exact h4
  have h5:=condW_of h4 (w_not (w_lt w_lit (w_len_list (w_arg rfl))))
  rw[List.length_map]at h5
  refine Nat.le_of_not_lt fun q=>?_
  have q':(n:Int)<((ns.length:Nat):Int):=by omega
  first
   | (rw[decide_eq_true q']at h5;exact absurd h5 (by decide))
   | (simp at h5;omega)
 cases hwl with
 |cons w1 w2=>
  cases w2
  cases w1 with
  |list ho hall=>exact⟨_,_,ns,rfl,rfl,ho,Zfd ns _ hall,hlen⟩
theorem Zoa(l:OpenLaw)(args:List WData):l.row.toRowW.claim.post args (.bool true) args=true:=
 postW_of (r:=l.row.toRowW) (X:=(true==true))
  (show WShape.has [] (.bool true) .bool=true by first|rfl|decide|simp[WShape.has,WShape.arms,WShape.armsAll])
  (show(WTm.eq .res (.lit (.bool true))).value [] {args:=args,res:=some (.bool true),after:=args}=some (.bool (true==true))from w_eq_bool (w_res rfl) w_lit) rfl
theorem attach_call{l:OpenLaw}{n:Nat}{q:Program}{loose:List Str}{XP:(Str→Option Value)→Heap→Prop}{YP:World→Heap→Prop}{d:DefRec}
  (hn:l.most=some n) (hdf:d.params.defaults=[])
  (call:∀(w:World) (s₀ s₁:Shared) (mg mb:Str→Option Value) (fa:Addr) (o:Obj) (pm cd doc:Value) (a:Addr) (vs:List Value) (ns:List Int),
   Ground q loose [] XP w s₀ mg mb s₁.heap→YP w s₁.heap→
   s₁.heap.get? fa=some o→o.data= .func (docDef d.name d.params d.body d.scope pm cd doc)→s₁.heap.CodeRec cd d.name→mg d.name=some (.ref fa)→
   s₁.heap.get? a=some {cls:=.type "list",data:=.seq vs.toArray}→IntsAre vs ns→ns.length≤n→s₁.gens= #[]→
   codeAny (model l.prog w) callerA (.call (.ref fa) ⟨[.ref a],[]⟩) (fun r s'=>r= .ok (.ret (.bool true))∧OldK s₁.heap s'.heap∧s'.os=s₁.os∧AllBare s'.gens) s₁):
  WalkO q loose XP YP l.row.toRowW d [] (fun f vs=>PySem.call f vs):=by
 intro w s₀ s₁ mg mb G Y fa o pm cd doc dV kV ho hd hcd hD hmg hg args vals as hpre hlay hrd hwl hlo
 obtain rfl:dV= .none:=Dflts.none hD hdf
 obtain rfl:kV= .none:=Dflts.noKw hD
 obtain⟨a,vs,ns,rfl,rfl,hobj,hints,hlen⟩:=Zn9 hn hpre hwl
 refine enter_call (codeAny_mono (call w s₀ s₁ mg mb fa o pm cd doc a vs ns G Y ho (fd_plain hd) hcd hmg hobj hints hlen hg) fun r s' hq=>?_)
 obtain⟨rfl,h2,h3,h4⟩:=hq
 exact⟨.inl ⟨.bool true,.bool true,[],rfl,fun _=>rfl,.bool true,Zoa l _,fun _=>⟨List.Pairwise.nil,fun _ hm=>(nomatch hm)⟩⟩,h2,h3,h4⟩
section
variable{prog:Program}{w:World}{A:Around}{E:Value→Shared→Prop}{s:Shared}{K:Frag}
noncomputable def Z4w(h:Heap):Heap:={h with objs:= #[]}
noncomputable def Z4x(h:Heap)(L d:Addr):List (Addr×Obj):=(List.range h.objs.size).filterMap fun a=>if a=L∨a=d then none else(h.get? a).map fun o=>(a,o)
end
end Att
namespace L2
open PySem PySem.Spec PyProof.Rows
theorem Zih:∀{vs:List Value} {ns:List Int},IntsAre vs ns→Vals (ns.map V.int) vs
 |_,_,.nil=>.nil
 |_,_,.cons n t h=>.cons ⟨t,rfl⟩ (Zih h)
noncomputable def Only(H:Hp):Prop:=∀b,H b=none∨∃o xs,H b=some (.frz o (.lst xs))
theorem Zrd {P : Program} {w : World} {K : PySem.W.Frag} {mg mb : Str → Option Value} {CX : CXT} {k : Nat} {fa a : Addr} {fd : FuncData} {x : Str} {sp : Sp} {s₁ : Shared} {vs : List Value} {ns : List Int}
    (KX : K.In s₁.heap) (hns : s₁.heap.Ns mainGlobals mg) (hb : s₁.heap.Ns builtinsNs mb) (hbb : ∀ x : Str, x ≠ "__name__" → mb x = bootBuiltins x) (hlim : s₁.heap.NoLimit) (hg : s₁.gens = #[])
    (ha : s₁.heap.get? a = some { cls := .type "list", data := .seq vs.toArray }) (hi : IntsAre vs ns) (hl : ns.length ≤ sizeLine) (hr : Room k callerA)
    (F : ∀ base : Heap, K.In base → base.Ns mainGlobals mg → FnOk P w K mg base CX k fa fd [x] sp) (hbind : ∀ (s : Shared) (u : Value), BindsTo s fd ⟨[u], []⟩ [(x, u)])
    (hsp : ∀ H : Hp, Only H → SqL K H a (ns.map V.int) → sp [.ref a] H (fun v _ => v = .bl true) fun _ _ _ => False)
    (hCX : ∀ H e s', CX [] H s₁ (fun _ _ _ => False) e s' → False) :
    codeAny (model P w) callerA (.call (.ref fa) ⟨[.ref a], []⟩) (fun r s' => r = .ok (.ret (.bool true)) ∧ OldK s₁.heap s'.heap ∧ s'.os = s₁.os ∧ AllBare s'.gens) s₁ := by
  have rv := Zih hi
  have lenV := hi.length
  -- from an abstract heap in which nothing but the script may be tracked
  have core : ∀ H : Hp, Only H → SqL K H a (ns.map V.int) → HOk P w H s₁.heap → (∀ b, H b ≠ none → b = a) → (H a ≠ none → K.lookup a = none) →
      codeAny (model P w) callerA (.call (.ref fa) ⟨[.ref a], []⟩) (fun r s' => r = .ok (.ret (.bool true)) ∧ OldK s₁.heap s'.heap ∧ s'.os = s₁.os ∧ AllBare s'.gens) s₁ := by
    intro H hO hS hok hA hK
    have base_of : ∀ {b : Addr} {o : Obj}, s₁.heap.get? b = some o → H b = none → (hidT s₁.heap H).get? b = some o := fun e n => Zq0 e n
    have noA : ∀ {b : Addr} {o : Obj} {es : Array DictEntry} {ep : Nat}, s₁.heap.get? b = some o → o.data = .dict es ep → H b = none := fun {b o es ep} e d => by
      cases q : H b with
      | none => rfl
      | some u =>
        have e' : b = a := hA b (by rw [q]; simp)
        subst e'
        rw [ha] at e; cases e
        have d' : Data.seq vs.toArray _ = Data.dict es ep := d
        cases d'
    have nsK : ∀ {b : Addr} {m : Str → Option Value}, s₁.heap.Ns b m → (hidT s₁.heap H).Ns b m := fun {b m} ⟨o, es, ep, e, d, r⟩ => ⟨o, es, ep, base_of e (noA e d), d, r⟩
    have hKb : K.In (hidT s₁.heap H) := fun b o e => base_of (KX b o e) (by
      cases q : H b with
      | none => rfl
      | some u =>
        have e' : b = a := hA b (by rw [q]; simp)
        subst e'
        rw [hK (by rw [q]; simp)] at e; cases e)
    have hM : Mod K mg (hidT s₁.heap H) := ⟨hKb, nsK hns, ⟨mb, nsK hb, hbb⟩, let ⟨mc, h1, h2⟩ := hlim; ⟨mc, nsK h1, h2⟩⟩
    have e0 : Env0 P w K mg (hidT s₁.heap H) callerA [] s₁ H := ⟨rfl, hM, fun b o e => Zui e, Nat.le_of_eq (Znk _ _), trivial, fun b hb => absurd (show b ∈ ([] : List Addr) from hb) (by simp), hok, .of_eq hg⟩
    refine codeAny_mono ((F _ hKb (nsK hns)).run callerA [] s₁ H ⟨[.ref a], []⟩ [.ref a] [.ref a] _ _ hr e0 (hbind s₁ (.ref a)) (.cons rfl .nil) (hsp H hO hS)) fun r s' h => ?_
    cases r with
    | error e => exact (hCX H e s' h).elim
    | ok fl =>
      cases fl with
      | next => exact False.elim h
      | brk => exact False.elim h
      | cont => exact False.elim h
      | ret u =>
        obtain ⟨v, H', os, bare, un, hok', r', q⟩ := h
        have q' : v = .bl true := q
        subst q'
        obtain rfl : u = Value.bool true := r'
        refine ⟨rfl, OldK.of_keep fun b o e => ?_, os, bare⟩
        cases q : H b with
        | none => exact un.keep b o e q (by intro z; exact absurd (show b ∈ ([] : List Addr) from z) (by simp)) (by simp)
        | some u =>
          rcases hO b with z | ⟨ob, xs, z⟩
          · rw [q] at z; cases z
          · have z2 := un.frzs b ob _ z
            obtain ⟨e1, _⟩ := hok b _ z
            obtain ⟨e2, _⟩ := hok' b _ z2
            rw [e] at e1; cases e1
            exact e2
  cases hk : K.lookup a with
  | some o =>
    -- the script is one of the module's own objects
    have e := KX a o hk
    rw [ha] at e
    cases e
    refine core (fun _ => none) (fun _ => .inl rfl) (.inr ⟨_, vs.toArray, _, hk, rfl, rfl, rfl, by rw [List.size_toArray, lenV]; exact hl, by simpa using rv⟩) (fun b u z => by have z' : (none : Option HO) = some u := z; cases z') (fun b z => absurd rfl z) fun z => absurd rfl z
  | none =>
    refine core (fun b => if b = a then some (.frz { cls := .type "list", data := .seq vs.toArray } (.lst (ns.map V.int))) else none) (fun b => ?_) (.inl (.inr ⟨{ cls := .type "list", data := .seq vs.toArray }, if_pos rfl⟩)) (fun b u z => ?_) (fun b z => ?_) fun _ => hk
    · by_cases hb : b = a
      · exact .inr ⟨_, _, if_pos hb⟩
      · exact .inl (if_neg hb)
    · by_cases hb : b = a
      · have z' := (if_pos hb).symm.trans z
        cases z'
        subst hb
        exact ⟨ha, by rw [List.length_map]; exact hl, vs, _, rv, ha⟩
      · have z' := (if_neg hb).symm.trans z
        cases z'
    · by_cases hb : b = a
      · exact hb
      · exact absurd (if_neg hb) z
end L2
namespace L2
open PySem PySem.Spec PyProof.Rows
noncomputable abbrev KOf{K:PySem.W.Frag}{h:Heap}(_:K.In h):PySem.W.Frag:=K
theorem Zu4{l:PySem.W.OpenLaw}{n k:Nat}{q:Program}{loose:List Str}{XP:(Str→Option Value)→Heap→Prop}{YP:World→Heap→Prop}{d:DefRec}{K:Params→PySem.W.Frag}{CX:World→CXT}{sp:World→Sp}{x:Str}
  (hn:l.most=some n) (hn2:n≤sizeLine) (hdf:d.params.defaults=[]) (hr:Room k callerA)
  (hY:∀(w:World) (h:Heap),YP w h→(K w.params).In h)
  (F:∀(w:World) (mg:Str→Option Value) (fa:Addr) (h:Heap),(K w.params).In h→h.Ns mainGlobals mg→mg d.name=some (.ref fa)→
   ∃fd:FuncData,(∀(s:Shared) (u:Value),BindsTo s fd ⟨[u],[]⟩ [(x,u)])∧
    ∀base:Heap,(K w.params).In base→base.Ns mainGlobals mg→FnOk l.prog w (K w.params) mg base (CX w) k fa fd [x] (sp w))
  (hsp:∀(w:World) (H:Hp) (a:Addr) (ns:List Int),ns.length≤n→Only H→SqL (K w.params) H a (ns.map V.int)→sp w [.ref a] H (fun v _=>v= .bl true) fun _ _ _=>False)
  (hCX:∀(w:World) (H:Hp) (s:Shared) (e:Value) (s':Shared),CX w [] H s (fun _ _ _=>False) e s'→False):
  PySem.W.WalkO q loose XP YP l.row.toRowW d [] (fun f vs=>PySem.call f vs):=by
 refine Att.attach_call hn hdf fun w s₀ s₁ mg mb fa o pm cd doc a vs ns G Y ho hd hcd hmg hobj hints hlen hg=>?_
 have KX:=hY w _ Y
 obtain⟨fd,hb,hF⟩:=F w mg fa _ KX G.T.g hmg
 exact Zrd KX G.T.g G.T.b G.T.builtins G.T.nolimit hg hobj hints (Nat.le_trans hlen hn2) hr hF hb (fun H hO hS=>hsp w H a ns hlen hO hS) fun H e s'=>hCX w H s₁ e s'
theorem Zre{l:PySem.W.OpenLaw}{n k:Nat}{q:Program}{loose:List Str}{XP:(Str→Option Value)→Heap→Prop}{YP:World→Heap→Prop}{d:DefRec}{K:Params→PySem.W.Frag}{CX:CXT}{sp:PySem.W.Frag→Sp}{x:Str}
  (hn:l.most=some n) (hn2:n≤sizeLine) (hdf:d.params.defaults=[]) (hr:Room k callerA)
  (hY:∀(w:World) (h:Heap),YP w h→(K w.params).In h)
  (F:∀(w:World) (mg:Str→Option Value) (fa:Addr) (h:Heap),(K w.params).In h→h.Ns mainGlobals mg→mg d.name=some (.ref fa)→
   ∃fd:FuncData,(∀(s:Shared) (u:Value),BindsTo s fd ⟨[u],[]⟩ [(x,u)])∧
    ∀base:Heap,(K w.params).In base→base.Ns mainGlobals mg→FnOk l.prog w (K w.params) mg base CX k fa fd [x] (sp (K w.params)))
  (hsp:∀(K:PySem.W.Frag) (H:Hp) (a:Addr) (ns:List Int),ns.length≤n→Only H→SqL K H a (ns.map V.int)→sp K [.ref a] H (fun v _=>v= .bl true) fun _ _ _=>False)
  (hCX:∀(H:Hp) (s:Shared) (e:Value) (s':Shared),CX [] H s (fun _ _ _=>False) e s'→False):
  PySem.W.WalkO q loose XP YP l.row.toRowW d [] (fun f vs=>PySem.call f vs):=
 Zu4 (K:=K) (CX:=fun _=>CX) (sp:=fun w=>sp (K w.params)) hn hn2 hdf hr hY F (fun w H a ns h1 h2 h3=>hsp (K w.params) H a ns h1 h2 h3) fun _ H s e s'=>hCX H s e s'
end L2
namespace L2
open PySem PySem.Spec PyProof.Rows
noncomputable def Z2c(s:Stmt)(j:Nat):Stmt:=match s with
 | .ClassDef _ _ _ body _ _ _ _ _ _ _=>body.getD j (.Pass ⟨0,0,0,0⟩)
 |_=>.Pass ⟨0,0,0,0⟩
noncomputable def Zdg(s:Stmt):Arguments:=match s with
 | .FunctionDef _ a _ _ _ _ _ _ _ _=>a
 |_=>{posonlyargs:=[],args:=[],vararg:=none,kwonlyargs:=[],kw_defaults:=[],kwarg:=none,defaults:=[]}
noncomputable def Zbo(s:Stmt):List Stmt:=match s with
 | .FunctionDef _ _ b _ _ _ _ _ _ _=>b
 |_=>[]
noncomputable def Zi(s:Stmt):Scope:=match s with
 | .FunctionDef _ _ _ _ _ _ sc _ _ _=>sc
 |_=>{kind:=.function,names:=[],isGenerator:=false,isCoroutine:=false}
noncomputable abbrev CX0:CXT:=fun _ _ _ _ _ _=>False
noncomputable abbrev E0:XK:=fun _ _ _=>False
theorem Z2d{X:Cx}:Znz CX0 X E0:=fun _ _ _ _ _ _ _ h=>h.elim
structure Fun(K:PySem.W.Frag)(x qual:Str)(st:Stmt)(f:Addr)(fd:FuncData):Prop where
 ex:∃(oc:Value) (od:Option Addr) (kV doc pm:Value) (an:Option Addr) (cdv ct:Value) (osl:Array (Option Value)),
  fd=PySem.W.fnOf x qual (Zdg st) (Zbo st) (Zi st) .none kV doc pm an cdv ct∧K.lookup f=some ⟨oc,od,.func fd,osl⟩∧PySem.W.codeIn K cdv qual=true
 kp:PySem.W.keepIn K (.ref f)=true
section
variable{P:Program}{w:World}{K:PySem.W.Frag}{mg:Str→Option Value}{base:Heap}
theorem Fun.ok{x qual:Str}{st:Stmt}{f:Addr}{fd:FuncData}{N ps:List Str}{k:Nat}{sp:Sp}(F:Fun K x qual st f fd)(S:FnScope N ps (Zi st))(len:∀vs H Q E,sp vs H Q E→vs.length=ps.length)
  (hbody:∀(cdv:Value) (A:Around) (outer:List Env) (s:Shared) (H:Hp) (vs:List V) (Q:VK) (E:XK),Room k (A.deeper (envOfC qual (Zi st) s.heap.objs.size f cdv))→sp vs H Q E→
   ∃t,PSs (cxOf CX0 P w K mg base N qual (Zi st) f cdv A outer s H E).nox (Zbo st) t∧t {nx:=fun _ H'=>Q .non H',rt:=Q} (start N vs) H):FnOk P w K mg base CX0 (k+1) f fd ps sp:=by
 obtain⟨oc,od,kV,doc,pm,an,cdv,ct,osl,rfl,lk,hcd⟩:=F.ex
 refine Zyd lk hcd S len fun A outer s H vs Q E hr hsp=>?_
 obtain⟨t,h,q⟩:=hbody cdv A outer s H vs Q E hr hsp
 exact⟨t,h.nox,q⟩
theorem Fun.binds{x qual:Str}{st:Stmt}{f:Addr}{fd:FuncData}{ps:List Str}(F:Fun K x qual st f fd)
  (h:∀(kV doc pm:Value) (an:Option Addr) (cdv ct:Value) (us:List Value),us.length=ps.length→bindArgs (PySem.W.fnOf x qual (Zdg st) (Zbo st) (Zi st) .none kV doc pm an cdv ct) ⟨us,[]⟩=pure (ps.zip us)):Za3 K fd ps []:=by
 obtain⟨oc,od,kV,doc,pm,an,cdv,ct,osl,rfl,lk,hcd⟩:=F.ex
 exact .all (h kV doc pm an cdv ct)
theorem Za4{x qual:Str}{st:Stmt}{f:Addr}{oc:Value}{od an:Option Addr}{osl:Array (Option Value)}{kV doc pm cdv ct:Value}(l:K.lookup f=some ⟨oc,od,.func (PySem.W.fnOf x qual (Zdg st) (Zbo st) (Zi st) .none kV doc pm an cdv ct),osl⟩)
  (c:PySem.W.codeIn K cdv qual=true) (k:PySem.W.keepIn K (.ref f)=true):Fun K x qual st f (PySem.W.fnOf x qual (Zdg st) (Zbo st) (Zi st) .none kV doc pm an cdv ct):=⟨⟨oc,od,kV,doc,pm,an,cdv,ct,osl,rfl,l,c⟩,k⟩
end
theorem Zyp{A:Around}{k:Nat}(hr:Room k A):A.units+1<cLine:=Nat.lt_of_le_of_lt (Nat.add_le_add_left (by decide:1≤64) _) hr.units
section
variable{X:Cx}
theorem Zob:Zdf X (.builtin "len") (fun xs H Q=>∃a kvs,xs=[V.ref a]∧HK H a kvs∧Q (.int kvs.length) H):=by
 intro pins s σ H xs us Q I r h
 obtain⟨a,kvs,rfl,ha,q⟩:=h
 obtain⟨u,rfl,ru⟩:=Zds r
 cases ru
 exact Z19 I ha.rd fun t s' I'=>⟨.int kvs.length,H,I',⟨t,rfl⟩,q⟩
end
noncomputable def Same(H H':Hp):Prop:=∀b o,H b=some o→H' b=some o
theorem Same.refl(H:Hp):Same H H:=fun _ _ h=>h
theorem Same.trans{H H1 H2:Hp}(a:Same H H1)(b:Same H1 H2):Same H H2:=fun c o h=>b c o (a c o h)
theorem Same.free{H H':Hp}(e:Same H H'){l:Addr}(h:H' l=Option.none):H l=Option.none:=by
 cases q:H l with
 |none=>rfl
 |some o=>
  rw[e l o q]at h
  cases h
section
variable{κ:Type}[DecidableEq κ]
end
end L2
namespace L2
open PySem PySem.Spec PyProof.Rows
theorem PE.imp{X:Cx}{e:Expr}{t t':TE}(h:PE X e t)(w:∀σ H Q,t' σ H Q→t σ H Q):PE X e t':=fun pins s σ H Q I q=>h pins s σ H Q I (w σ H Q q)
theorem PT.imp{X:Cx}{e:Expr}{t t':TT}(h:PT X e t)(w:∀σ H Q,t' σ H Q→t σ H Q):PT X e t':=fun pins s σ H Q I q=>h pins s σ H Q I (w σ H Q q)
theorem PW.imp{X:Cx}{e:Expr}{t t':TT}(h:PW X e t)(w:∀σ H Q,t' σ H Q→t σ H Q):PW X e t':=fun wh pins s σ H Q I q=>h wh pins s σ H Q I (w σ H Q q)
theorem PA.imp{X:Cx}{e:List Expr}{t t':TA}(h:PA X e t)(w:∀σ H Q,t' σ H Q→t σ H Q):PA X e t':=fun pos pins s σ H Q I q=>h pos pins s σ H Q I (w σ H Q q)
theorem PS.imp{X:Cx}{e:Stmt}{t t':TS}(h:PS X e t)(w:∀D σ H,t' D σ H→t D σ H):PS X e t':=fun pins s σ H D I q=>h pins s σ H D I (w D σ H q)
theorem PSs.imp{X:Cx}{e:List Stmt}{t t':TS}(h:PSs X e t)(w:∀D σ H,t' D σ H→t D σ H):PSs X e t':=fun pins s σ H D I q=>h pins s σ H D I (w D σ H q)
theorem PG.imp{X:Cx}{e:Expr}{t t':TG}(h:PG X e t)(w:∀v σ H Q,t' v σ H Q→t v σ H Q):PG X e t':=fun pins s σ H v u Q I r q=>h pins s σ H v u Q I r (w v σ H Q q)
theorem PGs.imp{X:Cx}{e:List Expr}{t t':TGs}(h:PGs X e t)(w:∀v σ H Q,t' v σ H Q→t v σ H Q):PGs X e t':=fun pins s σ H vs us Q I r q=>h pins s σ H vs us Q I r (w vs σ H Q q)
theorem PI.imp{X:Cx}{tg e:Expr}{t t':TI}(h:PI X tg e t)(w:∀σ H R,t' σ H R→t σ H R):PI X tg e t':=fun pins s σ H R I q=>h pins s σ H R I (w σ H R q)
noncomputable def clOf(cells:List (Str×Addr)):List (Str×NameKind)→List (Str×Addr)→List (Str×Addr)
 | [],cs=>cs
 | (n,k)::r,cs=>clOf cells r (if k= .free then(n,(cells.lookup n).getD 0)::cs else cs)
theorem Zd6{env:Env}:∀(names:List (Str×NameKind)) (cs:List (Str×Addr)),(∀y∈names,y.2= .free→∃c,env.cells.lookup y.1=some c)→
    (forIn names cs (fun x r=>if(x.2==NameKind.free)=true then do let a←cellOf env x.1;pure (ForInStep.yield ((x.1,a)::r))else pure (ForInStep.yield r)):Sem (List (Str×Addr)))=pure (clOf env.cells names cs)
  | [],cs,_=>by rw[List.forIn_nil];rfl
  | (n,k)::r,cs,h=>by
    rw[List.forIn_cons]
    by_cases hk:k= .free
    · obtain⟨c,hc⟩:=h (n,k) List.mem_cons_self hk
      subst hk
      have e1:cellOf env n=pure c:=by unfold cellOf;rw[hc]
      show((if(NameKind.free==NameKind.free)=true then(cellOf env n >>=fun a=>pure (ForInStep.yield ((n,a)::cs)))else pure (ForInStep.yield cs)) >>=fun s=>_)=_
      rw[if_pos (show(NameKind.free==NameKind.free)=true by decide),e1]
      show(forIn r ((n,c)::cs) _:Sem (List (Str×Addr)))=_
      rw[Zd6 r _ fun y hy=>h y (List.mem_cons_of_mem _ hy)]
      show _=pure (clOf env.cells r (if NameKind.free=NameKind.free then(n,(env.cells.lookup n).getD 0)::cs else cs))
      rw[if_pos rfl,hc]
      rfl
    · have hb:(k==NameKind.free)=false:=by simpa using hk
      show((if(k==NameKind.free)=true then(cellOf env n >>=fun a=>pure (ForInStep.yield ((n,a)::cs)))else pure (ForInStep.yield cs)) >>=fun s=>_)=_
      rw[hb,if_neg Bool.false_ne_true]
      show(forIn r cs _:Sem (List (Str×Addr)))=_
      rw[Zd6 r _ fun y hy=>h y (List.mem_cons_of_mem _ hy)]
      show _=pure (clOf env.cells r (if k=NameKind.free then _ else cs))
      rw[if_neg hk]
theorem Zgw{scope:Scope}{env:Env}(h:∀y∈scope.names,y.2= .free→∃c,env.cells.lookup y.1=some c):closureFor scope env=pure (clOf env.cells scope.names []):=by
 simp only[closureFor]
 rw[Zd6 scope.names [] h]
 rfl
theorem Zk5{cells:List (Str×Addr)}{x:Str}{c:Addr}:∀{names:List (Str×NameKind)} {cs:List (Str×Addr)},(∀y∈names,y.2= .free→∃c,cells.lookup y.1=some c)→
    (cs.lookup x=some c→cells.lookup x=some c)→(clOf cells names cs).lookup x=some c→cells.lookup x=some c
  | [],_,_,h0,e=>h0 e
  | (n,k)::r,cs,h,h0,e=>by
    refine Zk5 (names:=r) (fun y hy=>h y (List.mem_cons_of_mem _ hy)) ?_ e
    intro e'
    by_cases hk:k= .free
    · rw[if_pos hk]at e'
      obtain⟨c',hc⟩:=h (n,k) List.mem_cons_self hk
      rw[hc]at e'
      by_cases hx:x==n
      · simp only[List.lookup_cons,hx]at e'
        cases e'
        have:x=n:=by simpa using hx
        rw[this];exact hc
      · have hx':(x==n)=false:=by simpa using hx
        simp only[List.lookup_cons,hx']at e'
        exact h0 e'
    · rw[if_neg hk]at e';exact h0 e'
theorem Zii{cells:List (Str×Addr)}{x:Str}:∀{names:List (Str×NameKind)} {cs:List (Str×Addr)},(∃c,cs.lookup x=some c)→∃c,(clOf cells names cs).lookup x=some c
  | [],_,h=>h
  | (n,k)::r,cs,⟨c,h⟩=>by
    refine Zii (names:=r) ?_
    by_cases hk:k= .free
    · rw[if_pos hk]
      by_cases hx:x==n
      · exact⟨(cells.lookup n).getD 0,by simp only[List.lookup_cons,hx]⟩
      · have hx':(x==n)=false:=by simpa using hx
        exact⟨c,by simp only[List.lookup_cons,hx'];exact h⟩
    · rw[if_neg hk];exact⟨c,h⟩
theorem Zey{cells:List (Str×Addr)}{x:Str}:∀{names:List (Str×NameKind)} {cs:List (Str×Addr)},(x,NameKind.free)∈names→∃c,(clOf cells names cs).lookup x=some c
  | [],_,h=>nomatch h
  | (n,k)::r,cs,h=>by
    rcases List.mem_cons.mp h with e|e
    · cases e
      refine Zii (names:=r) ⟨(cells.lookup x).getD 0,?_⟩
      rw[if_pos rfl]
      simp[List.lookup_cons]
    · exact Zey (names:=r) e
noncomputable def rlF(env:Env):Str×NameKind→Str×NameKind:=fun(n,k)=>if(k==NameKind.free&&env.scope.kind== .function&&env.kindOf n==some .cell)then(n,NameKind.cell)else(n,k)
theorem Zjy(env:Env)(p:Str×NameKind):(rlF env p).1=p.1:=by
 obtain⟨n,k⟩:=p
 unfold rlF
 dsimp only
 split<;> rfl
theorem Zb6{f:Str×NameKind→Str×NameKind}(h:∀p,(f p).1=p.1)(x:Str):∀names:List (Str×NameKind),(names.map f).lookup x=(names.lookup x).map fun k=>(f (x,k)).2
  | []=>rfl
  | (n,k)::r=>by
    have ih:=Zb6 h x r
    have e:f (n,k)=(n,(f (n,k)).2):=Prod.ext (h (n,k)) rfl
    rw[List.map_cons,e,List.lookup_cons,List.lookup_cons]
    cases hx:x==n with
    |true=>
      have:x=n:=by simpa using hx
      subst this
      rfl
    |false=>exact ih
theorem Zgi{x:Str}{k:NameKind}:∀{names:List (Str×NameKind)},names.lookup x=some k→(x,k)∈names
  | [],h=>by simp at h
  | (n,k')::r,h=>by
    rw[List.lookup_cons]at h
    cases hx:x==n with
    |true=>
      rw[hx]at h
      have:x=n:=by simpa using hx
      subst this
      cases h
      exact List.mem_cons_self
    |false=>rw[hx]at h;exact List.mem_cons_of_mem _ (Zgi h)
theorem Zco{env:Env}{names:List (Str×NameKind)}{x:Str}{kk:NameKind}(hn:∀y∈names,y.2≠.cell)(hk:kk= .cell∨kk= .free)(h:(names.map (rlF env)).lookup x=some kk):(x,NameKind.free)∈names:=by
 rw[Zb6 (Zjy env)]at h
 obtain⟨k,h1,h2⟩:=Option.map_eq_some_iff.mp h
 have hm:=Zgi h1
 have hc:k≠.cell:=hn _ hm
 by_cases hf:k= .free
 ·subst hf;exact hm
 ·exfalso
  have hb:(k==NameKind.free)=false:=by simpa using hf
  unfold rlF at h2
  simp only[hb,Bool.false_and,Bool.false_eq_true,if_false]at h2
  rcases hk with e|e
  ·exact hc (h2.trans e)
  ·exact hf (h2.trans e)
inductive BSrc where
 |own|cap (j:Nat)|acc
noncomputable def Zyq(σ:St)(acc:Addr):BSrc→Option V
 | .own=>none
 | .cap j=>(σ[j]?).join
 | .acc=>some (.ref acc)
noncomputable def bSt(src:List BSrc)(σ:St)(acc:Addr):St:=src.map (Zyq σ acc)
noncomputable abbrev Cx.block(X:Cx)(N':List Str)(scope:Scope)(C:Addr)(s₀:Shared)(H₀:Hp)(ex:List Addr):Cx:=
 {X with N:=N',env:=compEnvC scope (clOf X.env.cells scope.names []) C X.env,s₀:=s₀,H₀:=H₀,outer:=X.stack,stack:=X.stack,ex:=ex,fn:=fun _=>false,pn:=[],xe:=fun _ _=>False}
structure CompScope(X:Cx)(N':List Str)(scope:Scope)(src:List BSrc):Prop where
 kind:scope.kind= .function
 nocell:∀y∈scope.names,y.2≠.cell
 names:∀y∈scope.names,y.2= .local→scope.names.lookup y.1=some .local
 free:∀y∈scope.names,y.2= .free→X.env.kindOf y.1=some .cell∨X.env.kindOf y.1=some .free
 len:src.length=N'.length
 cap:∀(k j:Nat) (x:Str),src[k]? =some (.cap j)→N'[k]? =some x→X.N[j]? =some x∧(X.env.kindOf x=some .cell∨X.env.kindOf x=some .free)∧scope.names.lookup x=some .free
 acc:∀(k:Nat) (x:Str),src[k]? =some .acc→N'[k]? =some x→scope.names.lookup x=none
theorem Zdh{env:Env}{names:List (Str×NameKind)}{x:Str}(h:names.lookup x=none):(names.map (rlF env)).lookup x=none:=by
 rw[Zb6 (Zjy env),h];rfl
theorem Zdi{env:Env}{names:List (Str×NameKind)}{x:Str}(h:names.lookup x=some .free):(names.map (rlF env)).lookup x=some .cell∨(names.map (rlF env)).lookup x=some .free:=by
 rw[Zb6 (Zjy env),h]
 unfold rlF
 dsimp only[Option.map]
 split
 ·exact .inl rfl
 ·exact .inr rfl
section
variable{X:Cx}{N':List Str}{scope:Scope}{src:List BSrc}{pins:List (Addr×Obj)}{σ:St}{H:Hp}{s:Shared}{C acc:Addr}{fp:List Addr}
theorem Zjz{h1:Heap}{tk:Nat}(S:CompScope X N' scope src)(I:Inv X pins σ H s)(hC:C=s.heap.objs.size)(hf:∀b∈fp,FpOk X pins H b)(hfo:∀b∈fp,∃o,s.heap.get? b=some o)
  (hns:h1.Ns C fun _=>none) (hk:∀b o,s.heap.get? b=some o→h1.get? b=some o):
  Inv (X.block N' scope C s H fp) [] (bSt src σ acc) H {s with heap:=h1,toks:=tk}:=by
 have cellf:∀y∈scope.names,y.2= .free→∃c,X.env.cells.lookup y.1=some c:=fun y hy e=>I.ok.has y.1 (S.free y hy e)
 have sub:∀x c,(clOf X.env.cells scope.names []).lookup x=some c→X.env.cells.lookup x=some c:=fun x c e=>Zk5 cellf (fun h=>by simp at h) e
 have gt:∀b,b<s.heap.objs.size→b≠C:=fun b hb e=>by rw[e,hC]at hb;exact Nat.lt_irrefl _ hb
 refine⟨⟨I.ok.mod,S.kind,I.ok.glob,I.ok.blt,by rw[hC];exact Nat.le_refl _,fun x y c h1 h2=>I.ok.inj x y c (sub x c h1) (sub y c h2),fun x hx=>?_,fun x c h=>absurd h Bool.false_ne_true,I.ok.hd,I.ok.frames,.inl rfl,fun b hb=>?_,I.bs,
  Nat.le_trans I.ok.bsz I.sz,fun b o e hb=>?_,fun b hb hs=>?_,I.stack,I.stkFree⟩,rfl,I.bare,Un.kept hk,⟨_,hns,fun i x v e1 e2 e3=>?_⟩,fun x c e=>?_,?_,fun x c e=>I.freeC x c (sub x c e),fun p hp=>?_,I.hok.kept hk,?_⟩
 ·rcases hx with hx|hx
  ·exact Zey (Zco S.nocell (.inl rfl) hx)
  ·exact Zey (Zco S.nocell (.inr rfl) hx)
 ·obtain⟨f0,f1,f2,f3,f4,f5⟩:=hf b hb
  refine⟨?_,fun x c e=>f4 x c (sub x c e)⟩
  show b≠C
  obtain⟨o,ho⟩:=hfo b hb
  exact gt b (Heap.lt_size ho)
 ·obtain⟨f0,f1,f2,f3,f4,f5⟩:=hf b hb
  rcases f3 with z|z
  ·exact I.ok.noex b o e z
  ·exact absurd (Nat.lt_of_lt_of_le (Heap.lt_size e) (Nat.le_trans I.ok.bsz z)) (Nat.lt_irrefl _)
 ·obtain⟨f0,f1,f2,f3,f4,f5⟩:=hf b hb
  rcases List.mem_cons.mp (I.stkSub b hs)with z|z
  ·exact f1 z
  ·exact f2 z
 ·have hsrc:∃q,src[i]? =some q:=by
   cases q:src[i]? with
   |some q0=>exact⟨q0,rfl⟩
   |none=>
    have e2':(bSt src σ acc)[i]? =some (some v):=e2
    unfold bSt at e2'
    rw[List.getElem?_map,q]at e2';cases e2'
  obtain⟨q,hq⟩:=hsrc
  have e2':(bSt src σ acc)[i]? =some (some v):=e2
  unfold bSt at e2'
  rw[List.getElem?_map,hq]at e2'
  have e2'':Zyq σ acc q=some v:=Option.some.inj e2'
  cases q with
  |own=>cases e2''
  |acc=>
   exfalso
   have hno:=Zdh (env:=X.env) (S.acc i x hq e1)
   have hno':(relabel scope X.env).names.lookup x=none:=hno
   have e3':Vis (relabel scope X.env) x:=e3
   rcases e3' with z|z|z
   ·rw[hno']at z;cases z
   ·rw[hno']at z;cases z
   ·rw[hno']at z;cases z
  |cap j=>
   obtain⟨hj,hkind,hfr⟩:=S.cap i j x hq e1
   have hσ:σ[j]? =some (some v):=by
    have e4:(σ[j]?).join=some v:=e2''
    cases r:σ[j]? with
    |none=>rw[r]at e4;cases e4
    |some o=>rw[r]at e4;cases o with
     |none=>cases e4
     |some w'=>cases e4;rfl
   obtain⟨m,hn,hl⟩:=I.loc
   obtain⟨u,ru,l⟩:=hl j x v hj hσ (by rcases hkind with z|z;exact .inr (.inl z);exact .inr (.inr z))
   refine⟨u,ru,?_⟩
   rcases l with⟨z,_⟩|⟨_,c,hc,hcell⟩
   ·rcases hkind with y|y
    ·rw[y]at z;cases z
    ·rw[y]at z;cases z
   ·have e3':Vis (relabel scope X.env) x:=e3
    have fin:∀kk,kk= .cell∨kk= .free→(relabel scope X.env).names.lookup x=some kk→Look (X.block N' scope C s H fp).env h1 (fun _=>none) x u:=fun kk hkk hx=>by
     obtain⟨c',hc'⟩:=Zey (cells:=X.env.cells) (cs:=[]) (Zco S.nocell hkk hx)
     have:=sub x c' hc'
     rw[hc]at this;cases this
     obtain⟨oc,hoc,hocd⟩:=hcell
     refine .inr ⟨?_,c,hc',oc,hk c oc hoc,hocd⟩
     rcases hkk with y|y
     ·subst y;exact .inl hx
     ·subst y;exact .inr hx
    rcases e3' with z|z|z
    ·exfalso
     have z':(relabel scope X.env).names.lookup x=some .local:=z
     rcases Zdi (env:=X.env) hfr with y|y
     ·have y':(relabel scope X.env).names.lookup x=some .cell:=y
      rw[z']at y';cases y'
     ·have y':(relabel scope X.env).names.lookup x=some .free:=y
      rw[z']at y';cases y'
    ·exact fin .cell (.inl rfl) z
    ·exact fin .free (.inr rfl) z
 ·obtain⟨v,oc,hoc,hocd⟩:=I.cell x c (sub x c e)
  exact⟨v,oc,hk c oc hoc,hocd⟩
 ·show H C=none
  rw[hC];exact I.hok.fresh (Nat.le_refl _)
 ·have hp':p∈([]:List (Addr×Obj)):=by simpa using hp
  exact nomatch hp'
 ·show(bSt src σ acc).length=N'.length
  unfold bSt
  rw[List.length_map];exact S.len
noncomputable def Zyr(src:List BSrc)(wi:TI)(g:TG)(tt:TT)(te:TE):TE:=fun σ H Q=>wi σ H fun J H1=>∀acc,H1 acc=none→
 ∃W:Nat→Nat→St→Hp→Prop,(∃m,W 0 m (bSt src σ acc) (upd H1 acc (.lst [])))∧∀i m σ' H,W i m σ' H→(J.stop i H∧Q (.ref acc) H)∨
  (J.go i H∧∀x H',J.yld i H x H'→g x σ' H' fun σ2 H2=>tt σ2 H2 fun b H3=>if b=true then te σ2 H3 fun y H4=>Zfa (.ref acc) [y] H4 fun _ H5=>∃m',m'<m∧W (i+1) m' σ2 H5 else∃m',m'<m∧W (i+1) m' σ2 H3)
noncomputable def PTs(X:Cx)(ifs:List Expr)(t:TT):Prop:=
 ∀(pins:List (Addr×Obj)) (s:Shared) (σ:St) (H:Hp) (Q:Bool→Hp→Prop),Inv X pins σ H s→t σ H Q→
  wpAny (model X.prog X.w) X.A (forIn ifs true fun c r=>if r=true then do let ok←isTrue c X.env (eval c X.env);pure (ForInStep.yield ok)else pure (ForInStep.yield r)) (TP X pins σ Q) X.xe s
noncomputable def Z2e:TT:=fun _ H Q=>Q true H
theorem Zu5:PTs X [] Z2e:=fun _ s σ H Q I h=>wpAny_tests_nil ⟨H,I,h⟩
theorem Zoc{prog:Program}{w:World}{A:Around}{s:Shared}{elt target iter:Expr}{ifs:List Expr}{scope:Scope}{pos:Pos}{it acc:Value}{env:Env}{R:Result→Shared→Prop}(I:Nat→Shared→Prop)
  (turn:∀n s,I n s→wpAny (model prog w) A (pyNext it) (fun r s₁=>match r with
   |none=>R (.ok .next) s₁
   |some v=>wpAny (model prog w) A (letOwnedTupleGo target it v) (fun _ s₀=>wpAny (model prog w) A (assign target env v) (fun _ s₂=>
     wpAny (model prog w) A (forIn ifs true fun c r=>if r=true then do let ok←isTrue c env (eval c env);pure (ForInStep.yield ok)else pure (ForInStep.yield r)) (fun ok s₃=>if ok=true then wpAny (model prog w) A (eval elt env) (fun x s₄=>
      wpAny (model prog w) A (call (.builtin "list.append") [acc,x]) (fun _ s₅=>∃m,m<n∧I m s₅) (fun _ _=>False) s₄) (fun _ _=>False) s₃
      else∃m,m<n∧I m s₃) (fun _ _=>False) s₂)
     (fun _ _=>False) s₀) (fun _ _=>False) s₁) (fun _ _=>False) s)
  (n:Nat) (h:I n s):codeAny (model prog w) A (.compLoop (.ListComp elt [⟨target,iter,ifs,0⟩] scope pos) 0 it acc env) R s:=by
 refine codeAny_loop rfl I (fun n s hI=>?_) n h
 show wpAny _ A ((compTurn (.ListComp elt [⟨target,iter,ifs,0⟩] scope pos) 0 it acc env).onRaise (fun x=>do noteFrame x env;theTreesLotGoes x)) _ _ s
 refine wpAny_noted ?_
 rw[compTurn_list]
 refine wpAny_bind (wpAny_standAt (wpAny_bind (wpAny_mono (turn n s hI) (fun r s₁ h₁=>?_) fun _ _ f=>f.elim)))
 cases r with
 |none=>exact wpAny_pure h₁
 |some v=>
  refine wpAny_bind (wpAny_mono h₁ (fun _ s₀ h₀'=>?_) fun _ _ f=>f.elim)
  refine wpAny_bind (wpAny_mono h₀' (fun _ s₂ h₂=>?_) fun _ _ f=>f.elim)
  refine wpAny_bind (wpAny_mono h₂ (fun okb s₃ h₃=>?_) fun _ _ f=>f.elim)
  cases okb with
  |false=>exact wpAny_pure ⟨rfl,h₃⟩
  |true=>exact wpAny_bind (wpAny_bind (wpAny_mono h₃ (fun x s₄ h₄=>wpAny_bind (wpAny_mono h₄ (fun _ s₅ h₅=>wpAny_pure (wpAny_pure ⟨rfl,h₅⟩)) fun _ _ f=>f.elim)) fun _ _ f=>f.elim))
theorem Zmm{tg elt iter:Expr}{ifs:List Expr}{pos:Pos}{g:TG}{tt:TT}{te:TE}{it:Addr}{tn:Nat→Heap→Prop}{J:It}{Q:VK}{RR:Value→Addr→Result→Shared→Prop}{E:Value→Shared→Prop}
  (hc:X.calm=true) (S:CompScope X N' scope src)
  (hg:∀(C:Addr) (s₀:Shared) (H₀:Hp) (ex:List Addr),PG (X.block N' scope C s₀ H₀ ex) tg g)
  (ht:∀(C:Addr) (s₀:Shared) (H₀:Hp) (ex:List Addr),PTs (X.block N' scope C s₀ H₀ ex) ifs tt)
  (he:∀(C:Addr) (s₀:Shared) (H₀:Hp) (ex:List Addr),PE (X.block N' scope C s₀ H₀ ex) elt te)
  (I:Inv X pins σ H s) (T:Turn X.prog X.w X.K tg J fp it tn) (st:tn 0 s.heap) (hf:∀b∈fp,FpOk X pins H b)
  (q:∀acc,H acc=none→∃W:Nat→Nat→St→Hp→Prop,(∃m,W 0 m (bSt src σ acc) (upd H acc (.lst [])))∧∀i m σ' H,W i m σ' H→(J.stop i H∧Q (.ref acc) H)∨
   (J.go i H∧∀x H',J.yld i H x H'→g x σ' H' fun σ2 H2=>tt σ2 H2 fun b H3=>if b=true then te σ2 H3 fun y H4=>Zfa (.ref acc) [y] H4 fun _ H5=>∃m',m'<m∧W (i+1) m' σ2 H5 else∃m',m'<m∧W (i+1) m' σ2 H3))
  (hRR:∀(acc C:Addr) (s':Shared) (H':Hp) (m:Str→Option Value),Inv X pins σ H' s'→Q (.ref acc) H'→s'.heap.Ns C m→H' C=none→C≠X.env.locals→X.s₀.heap.objs.size≤C→(∀x c,X.env.cells.lookup x=some c→c≠C)→(∀p∈X.pn++pins,p.1≠C)→
   RR (.ref acc) C (.ok .next) s'):
  wpAny (model X.prog X.w) X.A (newList []) (fun acc s₃=>wpAny (model X.prog X.w) X.A (newFunctionEnv scope X.env.globals (clOf X.env.cells scope.names []) [] X.env.qual none .none (some X.env)) (fun cenv s₄=>
   codeAny (model X.prog X.w) X.A (.compStart (.ListComp elt [⟨tg,iter,ifs,0⟩] scope pos) 0 (.ref it) acc {cenv with scope:=relabel scope X.env}) (RR acc cenv.locals) s₄) E s₃) E s:=by
 have hfo:∀b∈fp,∃o,s.heap.get? b=some o:=fun b hb=>let⟨o,e,_⟩:=T.obj 0 _ st b hb;⟨o,e⟩
 refine wpAny_newObj_type (wpAny_newFunctionEnv S.nocell (by intro y hy;simp at hy) (fun h₁ hns₁ hsb₁=>?_) S.kind)
 dsimp only at hns₁ hsb₁⊢
 have hacc:H s.heap.objs.size=none:=I.hok.fresh (Nat.le_refl _)
 have I3:Inv X pins σ (upd H s.heap.objs.size (.lst [])) {s with heap:=s.heap.push {cls:=.type "list",dict:=none,data:=.seq ([]:List Value).toArray}}:=I.lnew (t':=s.toks) (its:=[]) (ys:=[]) .nil (Nat.zero_le _)
 have hf3:∀b∈fp,FpOk X pins (upd H s.heap.objs.size (.lst [])) b:=fun b hb=>by
  obtain⟨f0,f⟩:=hf b hb
  obtain⟨o,ho⟩:=hfo b hb
  exact⟨by rw[Zr (Nat.ne_of_lt (Heap.lt_size ho))];exact f0,f⟩
 have hfo3:∀b∈fp,∃o,(s.heap.push {cls:=.type "list",dict:=none,data:=.seq ([]:List Value).toArray}).get? b=some o:=fun b hb=>let⟨o,e⟩:=hfo b hb;⟨o,Heap.get?_push_of_some _ e⟩
 obtain⟨W,⟨m0,w0⟩,turn⟩:=q _ hacc
 generalize hH2:s.heap.push {cls:=.type "list",dict:=none,data:=.seq ([]:List Value).toArray}=H2 at hns₁ hsb₁ I3 hfo3⊢
 have keep:∀b o,H2.get? b=some o→h₁.get? b=some o:=fun b o e=>hsb₁.extBut b o (Nat.ne_of_lt (Heap.lt_size e)) (Heap.get?_push_of_some _ e)
 have J0:=Zjz (N':=N') (scope:=scope) (src:=src) (acc:=s.heap.objs.size) (tk:=s.toks+([]:List (Str×Value)).length) (C:=H2.objs.size) S I3 rfl hf3 hfo3 (show h₁.Ns H2.objs.size (fun _=>none)from hns₁) keep
 have st1:tn 0 h₁:=T.keep 0 s.heap h₁ st fun b hb o e=>keep b o (by rw[←hH2];exact Heap.get?_push_of_some _ e)
 have cne:H2.objs.size≠X.env.locals:=Nat.ne_of_gt I3.lt
 have csz:X.s₀.heap.objs.size≤H2.objs.size:=I3.sz
 have ccell:∀x c,X.env.cells.lookup x=some c→c≠H2.objs.size:=fun x c e z=>by
  obtain⟨v,oc,hoc,_⟩:=I3.cell x c e
  exact absurd (Heap.lt_size hoc) (by rw[z];exact Nat.lt_irrefl _)
 have cpin:∀p∈X.pn++pins,p.1≠H2.objs.size:=fun p hp z=>absurd (Heap.lt_size (I3.pin p hp).1) (by rw[z];exact Nat.lt_irrefl _)
 have loop:∀s₃:Shared,s₃={s with heap:=h₁,toks:=s.toks+([]:List (Str×Value)).length}→
   codeAny (model X.prog X.w) X.A (.compLoop (.ListComp elt [⟨tg,iter,ifs,0⟩] scope pos) 0 (.ref it) (.ref s.heap.objs.size) (compEnvC scope (clOf X.env.cells scope.names []) H2.objs.size X.env)) (RR (.ref s.heap.objs.size) H2.objs.size) s₃:=by
  rintro s₃ rfl
  refine Zoc (fun n s'=>∃i σ' H',Inv (X.block N' scope H2.objs.size {s with heap:=H2} (upd H s.heap.objs.size (.lst [])) fp) [] σ' H' s'∧tn i s'.heap∧(∀b∈fp,H' b=none)∧W i n σ' H') ?_ m0 ⟨0,_,_,J0,st1,fun b hb=>(hf3 b hb).1,w0⟩
  rintro n s4 ⟨i,σ4,H4,J4,st4,fr4,w4⟩
  have fok:∀{H':Hp},(∀b∈fp,H' b=none)→∀b∈fp,FpOk (X.block N' scope H2.objs.size {s with heap:=H2} (upd H s.heap.objs.size (.lst [])) fp) [] H' b:=fun{H'} hn b hb=>by
   obtain⟨f0,f1,f2,f3,f4,f5⟩:=hf3 b hb
   refine⟨hn b hb,?_,fun z=>J4.ok.exfs b hb z,.inl hb,fun x c e=>(J4.ok.exf b hb).2 x c e,fun p hp=>?_⟩
   ·exact(J4.ok.exf b hb).1
   ·have hp':p∈([]:List (Addr×Obj)):=by simpa using hp
    exact nomatch hp'
  rcases turn i n σ4 H4 w4 with⟨stop,qn⟩|⟨go,step⟩
  ·refine thn (T.done (X.block N' scope H2.objs.size {s with heap:=H2} (upd H s.heap.objs.size (.lst [])) fp) rfl rfl rfl hc i [] s4 σ4 H4 _ J4 (fok fr4) st4 stop) fun r s5 ⟨hr,J5⟩=>?_
   subst hr
   obtain⟨m5,hn5,_⟩:=J5.loc
   have I5:Inv X pins σ H4 s5:=I3.call' (ch:=fp) J5.os J5.base J5.hok J5.bare fun b hb=>by
    obtain⟨f0,f1,f2,f3,f4,f5⟩:=hf3 b hb
    exact⟨f3,f1,f4,f5⟩
   exact hRR _ _ s5 H4 m5 I5 qn hn5 J5.free cne csz ccell cpin
  ·refine thn (T.item (X.block N' scope H2.objs.size {s with heap:=H2} (upd H s.heap.objs.size (.lst [])) fp) rfl rfl rfl hc i [] s4 σ4 H4 _ J4 (fok fr4) st4 go) fun r s5 ⟨u,hr,h5⟩=>?_
   subst hr
   refine thn h5 fun _ s6 zq9=>?_
   obtain⟨x,H6,J6,r6,y6,st6,fr6⟩:=zq9
   have J6':=J6.pinned (fok fr6) (T.obj _ _ st6)
   have again:∀{σ7:St} {H7:Hp} {s7:Shared},Inv (X.block N' scope H2.objs.size {s with heap:=H2} (upd H s.heap.objs.size (.lst [])) fp) ([]++Zh1 fp s6.heap) σ7 H7 s7→(∃m',m'<n∧W (i+1) m' σ7 H7)→
     ∃m,m<n∧∃i σ' H',Inv (X.block N' scope H2.objs.size {s with heap:=H2} (upd H s.heap.objs.size (.lst [])) fp) [] σ' H' s7∧tn i s7.heap∧(∀b∈fp,H' b=none)∧W i m σ' H':=fun{σ7 H7 s7} J7 ⟨m',hm,w7⟩=>by
    refine⟨m',hm,i+1,σ7,H7,J7.unpinned,T.keep _ _ _ st6 fun b hb o e=>(J7.pin (b,o) (List.mem_append_right _ (List.mem_append_right _ (Zc4 hb e)))).1,fun b hb=>?_,w7⟩
    obtain⟨o,e,d⟩:=T.obj _ _ st6 b hb
    exact(J7.pin (b,o) (List.mem_append_right _ (List.mem_append_right _ (Zc4 hb e)))).2.1
   refine thn (hg _ _ _ _ _ s6 σ4 H6 x u _ J6' r6 (step x H6 y6)) fun _ s7 zq9=>?_
   obtain⟨σ7,H7,J7,q7⟩:=zq9
   refine thn (ht _ _ _ _ _ s7 σ7 H7 _ J7 q7) fun b s8 zq9=>?_
   obtain⟨H8,J8,q8⟩:=zq9
   cases b with
   |false=>rw[if_neg Bool.false_ne_true]at q8⊢;exact again J8 q8
   |true=>
    rw[if_pos rfl]at q8⊢
    refine thn (he _ _ _ _ _ s8 σ7 H8 _ J8 q8) fun y s9 zq9=>?_
    obtain⟨vy,H9,J9,r9,q9⟩:=zq9
    refine thn (Zif _ s9 σ7 H9 (.ref s.heap.objs.size) [vy] (.ref s.heap.objs.size) [y] _ J9 rfl (.cons r9 .nil) q9) fun _ s10 ⟨_,H10,J10,_,q10⟩=>again J10 q10
 exact codeAny_compStart_list (loop _ rfl) (T.self X.A 0 _ _ _ st1 (loop _ rfl))
theorem Zu6{tg elt iter:Expr}{ifs:List Expr}{pos:Pos}{wi:TI}{g:TG}{tt:TT}{te:TE}(hc:X.calm=true)(S:CompScope X N' scope src)(hi:PI X tg iter wi)
  (hg:∀(C:Addr) (s₀:Shared) (H₀:Hp) (ex:List Addr),PG (X.block N' scope C s₀ H₀ ex) tg g)
  (ht:∀(C:Addr) (s₀:Shared) (H₀:Hp) (ex:List Addr),PTs (X.block N' scope C s₀ H₀ ex) ifs tt)
  (he:∀(C:Addr) (s₀:Shared) (H₀:Hp) (ex:List Addr),PE (X.block N' scope C s₀ H₀ ex) elt te)
  (hs:∀x,foldedSetIterable iter X.env x=pure x:=by intro _;rfl):PE X (.ListComp elt [⟨tg,iter,ifs,0⟩] scope pos) (Zyr src wi g tt te):=by
 intro pins s σ H Q I h
 rw[eval_ListComp]
 refine wpAny_comprehension_free (use:=none) rfl hs (Zgw fun y hy e=>I.ok.has y.1 (S.free y hy e)) S.kind S.names (thn (hi pins s σ H _ I h) fun v s1 h1=>thn h1 fun itv s2 h2=>?_)
 obtain⟨it,fp,tn,J,H2,e,I2,T,st2,f2,q⟩:=h2
 subst e
 refine Zmm hc S hg ht he I2 T st2 f2 q fun acc C s' H' m I' q' hn hC c1 c2 c3 c4=>⟨m,hn,fun h' hs'=>?_⟩
 exact⟨.ref acc,H',I'.turned (t':=s'.toks) (fun b o hb e=>(hs'.2 b hb).trans e) hC c1 (.inr c2) c3 c4,rfl,q'⟩
end
end L2
namespace L2
open PySem PySem.Spec PyProof.Rows
noncomputable def Z2f(h:Heap)(xs:List Addr):Heap:={objs:=(Array.range h.objs.size).map fun a=>if a∈xs then{cls:=.none,data:=.freed}else(h.objs[a]?).getD {cls:=.none,data:=.freed}}
structure Raised(h:Heap)(e:Addr)(cls:Value)(dx tb:Option Addr):Prop where
 obj:∃oe vs,h.get? e=some oe∧oe.cls=cls∧oe.dict=dx∧oe.data= .fields vs∧vs[1]? =some (match tb with|none=>.none|some T=>.ref T)
 tr:∀T,tb=some T→T≠e∧∃oT ts fl,h.get? T=some oT∧oT.data= .fields ts∧ts[3]? =some fl
noncomputable def tbl':Option Addr→List Addr
 |none=>[]
 |some T=>[T]
structure Noted(l:List Addr)(h h':Heap)(e:Addr)(cls:Value)(dx tb:Option Addr)(T:Addr):Prop where
 keep:∀b o,b≠e→b∉tbl' tb→b∉l→h.get? b=some o→h'.get? b=some o
 slot:∀b o,b∈l→h.get? b=some o→∃sl,h'.get? b=some {o with slots:=sl}
 new:h.get? T=none∨some T=tb
 r:Raised h' e cls dx (some T)
section
variable{M:Model}{A:Around}{E:Value→Shared→Prop}{s:Shared}{base:Heap}{env:Env}{outer:List Env}{L e:Addr}{cls:Value}{dx tb:Option Addr}{Q:Unit→Shared→Prop}
theorem Zrf(o:Obj)(f:Array Value→Array Value):(o.mapFields f).dict=o.dict:=by
 obtain⟨c,d,dt,sl⟩:=o
 cases dt<;> rfl
theorem Zij{oe:Obj}{vs:Array Value}{head:Value}{hadNext:Bool}(hf:A.frames=some (env::outer))(ff:s.heap.FunFrames base (env::outer))(hL:env.frame=some L)
  (h1:s.heap.get? e=some oe) (h3:oe.data= .fields vs) (hz:1<vs.size) (he:e∉frs (env::outer))
  (h:∀h' T,(∀b o,b≠e→b∉frs (env::outer)→s.heap.get? b=some o→h'.get? b=some o)→(∀b o,b≠e→b∈frs (env::outer)→s.heap.get? b=some o→∃sl,h'.get? b=some {o with slots:=sl})→s.heap.get? T=none→T≠e→
   h'.get? e=some (oe.mapFields (·.setIfInBounds 1 (.ref T)))→(∃oT ts fl,h'.get? T=some oT∧oT.data= .fields ts∧ts[3]? =some fl)→Q () {s with heap:=h'}):
  wpAny M A (do let a←frameOf env;let pl←entryPlaceOf L hadNext;let b←EntryCells.newEntry head a .none (rawInt L) .none pl;setField (.ref e) 1 b) Q E s:=by
 refine wpAny_bind (wpAny_frameOf_fun hf ff hL fun g1 sl1=>wpAny_bind (wpAny_entryPlaceOf fun pl ip=>?_))
 unfold EntryCells.newEntry newFields
 have e1:g1.get? e=some oe:=(sl1.2.1 e he).trans h1
 refine wpAny_bind (wpAny_newObj_type (wpAny_setField (Heap.get?_push_of_some _ e1) h3 hz ?_) (ip.sizeOk5 _ _ _ _ _))
 have ne:g1.objs.size≠e:=Nat.ne_of_gt (Heap.lt_size e1)
 have kp:∀b o,b≠e→g1.get? b=some o→((g1.push {cls:=.type "traceback",dict:=none,data:=.fields ([head,.ref L,.none,rawInt L,.none]++(if pl.isEmpty then List.replicate 6 Value.none else pl)).toArray}).update e (Obj.mapFields (·.setIfInBounds 1 (Value.ref g1.objs.size)))).get? b=some o:=fun b o nb q=>by
  rw[Heap.get?_update_other _ _ (Ne.symm nb)]
  exact Heap.get?_push_of_some _ q
 refine h _ g1.objs.size (fun b o nb nf q=>kp b o nb ((sl1.2.1 b nf).trans q)) (fun b o nb hb q=>?_) (Heap.get?_none_of_le (by rw[sl1.1];exact Nat.le_refl _)) ne ?_ ?_
 ·obtain⟨sl,q1⟩:=sl1.2.2 b o q
  exact⟨sl,kp b _ nb q1⟩
 ·exact Heap.get?_update_self _ (Heap.get?_push_of_some _ e1) (Obj.isFreed_of_fields (Obj.data_mapFields h3 _))
 ·refine⟨_,_,rawInt L,(Heap.get?_update_other _ _ (Ne.symm ne)).trans (Heap.get?_push_size g1 rfl),rfl,?_⟩
  simp
theorem Zk6(hf:A.frames=some (env::outer))(ff:s.heap.FunFrames base (env::outer))(hL:env.frame=some L)(r:Raised s.heap e cls dx tb)
  (h:∀h' T,Noted (frs (env::outer)) s.heap h' e cls dx tb T→Q () {s with heap:=h'}):wpAny M A (noteFrame (.ref e) env) Q E s:=by
 obtain⟨oe,vs,h1,h2,hd,h3,h5⟩:=r.obj
 have norec:∀b o ws,s.heap.get? b=some o→o.data= .fields ws→b∉frs (env::outer):=fun b o ws q qd hm=>by
  obtain⟨_,o',q1,q2⟩:=ff.mem hm
  rw[q]at q1;cases q1
  exact q2 ws qd
 have he:=norec e oe vs h1 h3
 have hz:1<vs.size:=(Array.getElem?_eq_some_iff.mp h5).1
 have obj':∀(h':Heap) (T:Addr),h'.get? e=some (oe.mapFields (·.setIfInBounds 1 (.ref T)))→∃oe vs,h'.get? e=some oe∧oe.cls=cls∧oe.dict=dx∧oe.data= .fields vs∧vs[1]? =some (.ref T):=fun h' T q=>
  ⟨_,_,q,(Obj.cls_mapFields _ _).trans h2,(Zrf _ _).trans hd,Obj.data_mapFields h3 _,by simp[hz]⟩
 unfold noteFrame
 simp only[hL]
 refine wpAny_bind (wpAny_field h1 h3 h5 ?_)
 cases tb with
 |none=>
  rw[if_neg (by decide)]
  exact Zij hf ff hL h1 h3 hz he fun h' T k1 k2 k3 k4 k5 k6=>h h' T ⟨fun b o n1 _ n3 q=>k1 b o n1 n3 q,fun b o hb q=>k2 b o (fun z=>he (z▸hb)) hb q,.inl k3,obj' h' T k5,fun T' z=>by cases z;exact⟨k4,k6⟩⟩
 |some T0=>
  obtain⟨r1,oT,ts,fl,r2,r3,r4⟩:=r.tr T0 rfl
  have hT:=norec T0 oT ts r2 r3
  rw[if_pos (show(Value.ref T0 !=Value.none)=true from by simp)]
  refine wpAny_bind (wpAny_field r2 r3 r4 ?_)
  by_cases hfl:(fl==rawInt L)=true
  ·rw[if_pos hfl]
   exact wpAny_pure (h s.heap T0 ⟨fun _ _ _ _ _ q=>q,fun b o _ q=>⟨o.slots,q⟩,.inr rfl,r⟩)
  ·rw[if_neg hfl]
   have oth:∀b,b≠T0→(s.heap.update T0 (Obj.mapFields (·.setIfInBounds 3 Value.none))).get? b=s.heap.get? b:=fun b hb=>Heap.get?_update_other _ _ (Ne.symm hb)
   have sz3:=(Array.getElem?_eq_some_iff.mp r4).1
   have atT:(s.heap.update T0 (Obj.mapFields (·.setIfInBounds 3 Value.none))).get? T0=some (oT.mapFields (·.setIfInBounds 3 Value.none)):=Heap.get?_update_self _ r2 (Obj.isFreed_of_fields (Obj.data_mapFields r3 _))
   refine wpAny_bind (wpAny_setField r2 r3 sz3 (Zij (base:=base) hf (ff.of_keeps fun b o q nf=>⟨o,(oth b fun z=>nf ts (by rw[z,r2]at q;cases q;exact r3)).trans q,rfl⟩) hL ((oth e (Ne.symm r1)).trans h1) h3 hz he fun h' T k1 k2 k3 k4 k5 k6=>?_))
   refine h h' T ⟨fun b o n1 n2 n3 q=>k1 b o n1 n3 ((oth b fun z=>n2 (by rw[z];exact List.mem_singleton.mpr rfl)).trans q),fun b o hb q=>k2 b o (fun z=>he (z▸hb)) hb ((oth b fun z=>hT (z▸hb)).trans q),?_,obj' h' T k5,fun T' z=>by cases z;exact⟨k4,k6⟩⟩
   by_cases z:T=T0
   ·exact .inr (by rw[z])
   ·exact .inl ((oth T z).symm.trans k3)
theorem Zd7{T:Addr}{fr:Option Addr}{l:List Addr}(r:Raised s.heap e cls dx (some T))(hn:∀b o ws,s.heap.get? b=some o→o.data= .fields ws→b∉l)
  (h:∀h',Noted l s.heap h' e cls dx (some T) T→Q () {s with heap:=h'}):wpAny M A (setFlight (.ref e) fr) Q E s:=by
 obtain⟨oe,vs,h1,h2,hd,h3,h5⟩:=r.obj
 obtain⟨r1,oT,ts,fl,r2,r3,r4⟩:=r.tr T rfl
 have sz3:=(Array.getElem?_eq_some_iff.mp r4).1
 unfold setFlight
 refine wpAny_bind (wpAny_field h1 h3 h5 ?_)
 rw[if_pos (show(Value.ref T !=Value.none)=true from by simp)]
 have oth:∀b,b≠T→(s.heap.update T (Obj.mapFields (·.setIfInBounds 3 (fr.elim .none fun f=>rawInt f)))).get? b=s.heap.get? b:=fun b hb=>Heap.get?_update_other _ _ (Ne.symm hb)
 refine wpAny_setField r2 r3 sz3 (h _ ⟨fun b o n1 n2 n3 q=>(oth b fun z=>n2 (by rw[z];exact List.mem_singleton.mpr rfl)).trans q,fun b o hb q=>⟨o.slots,(oth b fun z=>hn T oT ts r2 r3 (z▸hb)).trans q⟩,.inr rfl,⟨oe,vs,(oth e (Ne.symm r1)).trans h1,h2,hd,h3,h5⟩,fun T' z=>?_⟩)
 cases z
 exact⟨r1,_,_,fr.elim .none fun f=>rawInt f,Heap.get?_update_self _ r2 (Obj.isFreed_of_fields (Obj.data_mapFields r3 _)),Obj.data_mapFields r3 _,by simp[sz3]⟩
theorem Noted.trans{l:List Addr}{h h1 h2:Heap}{T T':Addr}(a:Noted l h h1 e cls dx tb T)(b:Noted l h1 h2 e cls dx (some T) T')(hT:T∉l)(hT0:∀T0,tb=some T0→h.get? T=none∨T=T0):Noted l h h2 e cls dx tb T':=by
 have nT:∀b o,b∉tbl' tb→h.get? b=some o→b≠T:=fun b o n q z=>by
  rcases a.new with k|k
  ·rw[z,k]at q;cases q
  ·rw[←k]at n;exact n (by rw[z];exact List.mem_singleton.mpr rfl)
 refine⟨fun c o n1 n2 n3 q=>b.keep c o n1 (fun z=>nT c o n2 q (List.mem_singleton.mp z)) n3 (a.keep c o n1 n2 n3 q),fun c o hc q=>?_,?_,b.r⟩
 ·obtain⟨sl,q1⟩:=a.slot c o hc q
  obtain⟨sl',q2⟩:=b.slot c _ hc q1
  exact⟨sl',q2⟩
 ·rcases b.new with k|k
  ·by_cases hm:some T'=tb
   ·exact .inr hm
   ·refine .inl ?_
    cases z:h.get? T' with
    |none=>rfl
    |some o=>
     exfalso
     by_cases hl:T'∈l
     ·obtain⟨sl,q1⟩:=a.slot T' o hl z
      rw[k]at q1;cases q1
     ·by_cases he:T'=e
      ·obtain⟨oe,vs,q1,_⟩:=a.r.obj
       rw[←he,k]at q1;cases q1
      ·have:=a.keep T' o he (fun y=>hm (by cases tb with
        |none=>cases y
        |some T0=>rw[List.mem_singleton.mp y])) hl z
       rw[k]at this;cases this
  ·cases k
   rcases a.new with k|k
   ·exact .inl k
   ·exact .inr k
theorem Zgb(hf:A.frames=some (env::outer))(ff:s.heap.FunFrames base (env::outer))(hL:env.frame=some L)(r:Raised s.heap e cls dx tb)
  (h:∀h' T,Noted (frs (env::outer)) s.heap h' e cls dx tb T→Q () {s with heap:=h'}):wpAny M A (leaving env (.ref e)) Q E s:=by
 have norec:∀b o ws,s.heap.get? b=some o→o.data= .fields ws→b∉frs (env::outer):=fun b o ws q qd hm=>by
  obtain⟨_,o',q1,q2⟩:=ff.mem hm
  rw[q]at q1;cases q1
  exact q2 ws qd
 unfold leaving
 refine wpAny_bind (Zk6 hf ff hL r fun h1 T1 n1=>?_)
 have norec1:∀b o ws,h1.get? b=some o→o.data= .fields ws→b∉frs (env::outer):=fun b o ws q qd hm=>by
  obtain⟨_,o',q1,q2⟩:=ff.mem hm
  obtain⟨sl,q3⟩:=n1.slot b o' hm q1
  rw[q]at q3;cases q3
  exact q2 ws qd
 refine Zd7 (s:={s with heap:=h1}) n1.r norec1 fun h2 n2=>?_
 obtain⟨_,oT,ts,fl,r2,r3,_⟩:=n1.r.tr T1 rfl
 exact h h2 T1 (n1.trans n2 (norec1 T1 oT ts r2 r3) fun T0 z=>by
  rcases n1.new with k|k
  ·exact .inl k
  ·rw[z]at k;cases k;exact .inr rfl)
end
end L2
namespace L2
open PySem PySem.Spec PyProof.Rows
noncomputable def CX1(P:Program)(w:World):CXT:=fun outer H s E e s'=>∃(a:Addr) (cls:Value) (dx:Option Addr) (T:Addr) (H':Hp),e= .ref a∧s'.os=s.os∧AllBare s'.gens∧Un (frs outer) [] H H' s.heap s'.heap∧HOk P w H' s'.heap∧
 Raised s'.heap a cls dx (some T)∧s.heap.get? a=none∧s.heap.get? T=none∧H' a=none∧H' T=none∧E cls dx H'
noncomputable def Zod(X:Cx)(EX:XK):Prop:=∀(pins:List (Addr×Obj)) (σ:St) (H:Hp) (s:Shared) (e:Addr) (cls:Value) (dx tb:Option Addr),Inv X pins σ H s→Raised s.heap e cls dx tb→X.s₀.heap.get? e=none→H e=none→
 (∀T,tb=some T→X.s₀.heap.get? T=none∧H T=none)→EX cls dx H→X.xe (.ref e) s
theorem Zbf.has{P:Program}{w:World}{H:Hp}{h:Heap}{a:Addr}:∀{o:HO},Zbf P w H h a o→∃u,h.get? a=some u:=by
 intro o
 induction o with
 |lst xs=>intro⟨_,_,_,_,e⟩;exact⟨_,e⟩
 |tup xs=>intro⟨_,_,_,_,e,_⟩;exact⟨_,e⟩
 |dK kvs ep=>intro⟨_,_,_,_,o,_,e,_⟩;exact⟨_,e⟩
 |dT kvs ep bs=>intro⟨_,_,_,_,o,_,e,_⟩;exact⟨_,e⟩
 |set S n=>intro⟨o,_,_,_,e,_⟩;exact⟨_,e⟩
 |ins C dx fs=>intro⟨_,_,_,e,_⟩;exact⟨_,e⟩
 |own y=>intro⟨_,e⟩;exact⟨_,e⟩
 |xd fs=>intro⟨_,⟨_,_,_,e,_⟩,_⟩;exact⟨_,e⟩
 |rng lo hi=>intro⟨_,_,_,e⟩;exact⟨_,e⟩
 |frz ob u _=>intro⟨e,_⟩;exact⟨_,e⟩
 |tbl ps=>intro e;exact⟨_,(show h.get? a=some _ from e)⟩
 |met f y=>intro e;exact⟨_,(show h.get? a=some _ from e)⟩
 |ext φ=>intro⟨_,⟨_,e⟩,_⟩;exact⟨_,e⟩
theorem HOk.gone{P:Program}{w:World}{H:Hp}{h:Heap}(ok:HOk P w H h){a:Addr}(n:h.get? a=none):H a=none:=by
 cases e:H a with
 |none=>rfl
 |some o=>
  obtain⟨u,q⟩:=(ok a o e).has
  rw[n]at q;cases q
theorem Zoe{P:Program}{w:World}{H:Hp}{h h':Heap}(ok:HOk P w H h)(k:∀b o,H b≠none→h.get? b=some o→h'.get? b=some o):HOk P w H h':=fun a o e=>
 (ok a o e).stay (fun b u hb q=>k b u (by rcases hb with hb|hb<;> rw[hb]<;> simp[e]) q) (fun _ z=>z) fun _ _ z=>z
theorem Zrg{env:Env}{l:List Env}{b:Addr}(h:b∈frs l):b∈frs (env::l):=by
 unfold frs at h⊢
 obtain⟨x,hx,e⟩:=List.mem_filterMap.mp h
 exact List.mem_filterMap.mpr ⟨x,List.mem_cons_of_mem _ hx,e⟩
theorem Zik{P:Program}{w:World}{K:PySem.W.Frag}{mg:Str→Option Value}{base:Heap}{N:List Str}{qual:Str}{scope:Scope}{f:Addr}{cd:Value}{A:Around}{outer:List Env}{s:Shared}{H:Hp}{E:XK}:
  Zod (cxOf (CX1 P w) P w K mg base N qual scope f cd A outer s H E) E:=by
 intro pins σ H1 s1 e cls dx tb I r he heH hT q
 have hf:=I.ok.frames
 have ff:=I.stack
 have hfr:(cxOf (CX1 P w) P w K mg base N qual scope f cd A outer s H E).env.frame=some (cxOf (CX1 P w) P w K mg base N qual scope f cd A outer s H E).env.locals:=by
  rcases I.ok.stk with z|z
  ·have:=congrArg List.length z
   exact absurd this (by show outer.length+1≠outer.length;omega)
  ·exact z.2
 have sf:=I.stkFree
 have he':s.heap.get? e=none:=he
 have up:Un (frs outer) [] H H1 s.heap s1.heap:=I.base
 refine Zgb hf ff hfr r fun h' T zq9=>?_
 obtain⟨k1,k2,k3,r'⟩:=zq9
 have hT':s.heap.get? T=none∧H1 T=none:=by
  rcases k3 with k3|k3
  ·refine⟨?_,I.hok.gone k3⟩
   cases z:s.heap.get? T with
   |none=>rfl
   |some o=>
    obtain⟨o',q'⟩:=up.there T o z (by simp)
    rw[k3]at q';cases q'
  ·exact hT T k3.symm
 have old:∀b o,s.heap.get? b=some o→b≠e∧b∉tbl' tb:=fun b o qb=>by
  refine⟨(fun z=>by rw[z,he']at qb;cases qb),fun z=>?_⟩
  cases tb with
  |none=>cases z
  |some T0=>
   have:=(hT T0 rfl).1
   rw[List.mem_singleton.mp z]at qb
   have this':s.heap.get? T0=none:=this
   rw[this']at qb;cases qb
 have loc:∀b o,s.heap.get? b=some o→b∉frs outer→b∉frs ((cxOf (CX1 P w) P w K mg base N qual scope f cd A outer s H E).env::outer):=fun b o qb hb hm=>by
  unfold frs at hm
  rw[List.filterMap_cons,hfr]at hm
  rcases List.mem_cons.mp hm with z|z
  ·have:=I.ok.above
   have h2:=Heap.lt_size qb
   rw[z]at h2
   exact absurd h2 (Nat.not_lt.mpr this)
  ·exact hb z
 refine⟨e,cls,dx,T,H1,rfl,I.os,I.bare,⟨fun b o qb n hb hx=>?_,fun b o qb n hb hx=>?_,fun b o qb n hx=>up.free b o qb n hx,fun b o qb hx=>?_,up.tups,up.frzs,up.tbls⟩,?_,r',he',hT'.1,heH,hT'.2,q⟩
 ·obtain⟨o1,o2⟩:=old b o qb
  exact k1 b o o1 o2 (loc b o qb hb) (up.keep b o qb n hb hx)
 ·obtain⟨sl,q1⟩:=up.slot b o qb n hb hx
  obtain⟨sl',q2⟩:=k2 b _ (Zrg hb) q1
  exact⟨sl',q2⟩
 ·obtain⟨o',q1⟩:=up.there b o qb hx
  obtain⟨o1,o2⟩:=old b o qb
  by_cases b1:b∈frs ((cxOf (CX1 P w) P w K mg base N qual scope f cd A outer s H E).env::outer)
  ·obtain⟨sl,z⟩:=k2 b o' b1 q1;exact⟨_,z⟩
  ·exact⟨o',k1 b o' o1 o2 b1 q1⟩
 ·refine Zoe I.hok fun b o hb qb=>k1 b o (fun z=>hb (by rw[z];exact heH)) (fun z=>?_) (fun z=>hb (sf b z)) qb
  cases tb with
  |none=>cases z
  |some T0=>exact hb (by rw[List.mem_singleton.mp z];exact(hT T0 rfl).2)
end L2
namespace L2
open PySem PySem.Spec PyProof.Rows
abbrev VEB:List Value:=[.type "ValueError",.type "Exception",.type "BaseException",.type "object"]
theorem Zmn{h h':Heap}{bmB:List Value}(k:∀b o,h.get? b=some o→h'.get? b=some o):∀{bm:List Value},OwnTail h bmB bm→OwnTail h' bmB bm:=by
 intro bm t
 induction t with
 |base=>exact .base
 |own e n m _ ih=>exact .own (k _ _ e) (n.keeps k) m ih
noncomputable def Z4y(EX:XK)(C:Addr)(t:TA):TS:=fun _ σ H=>t σ H fun vs H1=>vs.length≤sizeLine∧EX (.ref C) none H1
end L2
namespace L2
open PySem PySem.Spec PyProof.Rows
noncomputable abbrev EXT:=Value→Option Addr→St→Hp→Prop
noncomputable def Zd8(X:Cx)(EX:EXT):Prop:=∀(pins:List (Addr×Obj)) (σ:St) (H:Hp) (s:Shared) (e:Addr) (cls:Value) (dx:Option Addr) (T:Addr),Inv X pins σ H s→Raised s.heap e cls dx (some T)→X.s₀.heap.get? e=none→H e=none→
 X.s₀.heap.get? T=none→H T=none→(∀p∈X.pn++pins,p.1≠e∧p.1≠T)→(e≠X.env.locals∧T≠X.env.locals)→(∀x c,X.env.cells.lookup x=some c→c≠e∧c≠T)→EX cls dx σ H→X.xe (.ref e) s
theorem Zu7{X:Cx}{EX:EXT}(th:Zd8 X EX)(hex:X.ex=[]){pins:List (Addr×Obj)}{σ:St}{H:Hp}{s s':Shared}{e:Value}(I:Inv X pins σ H s)(h:CX1 X.prog X.w X.stack H s (fun cls od H'=>EX cls od σ H') e s'):X.xe e s':=by
 obtain⟨a,cls,dx,T,H',he,os,bare,un,hok,r,n1,n2,n3,n4,q⟩:=h
 subst he
 have I':Inv X pins σ H' s':=I.call' (ch:=[]) os un hok bare (fun b hb=>nomatch hb)
 have old:∀b,s.heap.get? b=none→X.s₀.heap.get? b=none:=fun b hb=>by
  cases z:X.s₀.heap.get? b with
  |none=>rfl
  |some o=>
   obtain⟨o',z'⟩:=I.base.there b o z (by rw[hex];simp)
   rw[hb]at z';cases z'
 have pin:∀b,s.heap.get? b=none→∀p∈X.pn++pins,p.1≠b:=fun b hb p hp z=>by
  have:=(I.pin p hp).1
  rw[z,hb]at this;cases this
 have loc:∀b,s.heap.get? b=none→b≠X.env.locals:=fun b hb z=>by
  obtain⟨m,⟨o,es,ep,ho,_⟩,_⟩:=id I.loc
  rw[z,ho]at hb;cases hb
 have cel:∀b,s.heap.get? b=none→∀x c,X.env.cells.lookup x=some c→c≠b:=fun b hb x c hc z=>by
  obtain⟨v,o,ho,_⟩:=I.cell x c hc
  rw[z,hb]at ho;cases ho
 exact th pins σ H' s' a cls dx T I' r (old a n1) n3 (old T n2) n4 (fun p hp=>⟨pin a n1 p hp,pin T n2 p hp⟩) ⟨loc a n1,loc T n2⟩ (fun x c hc=>⟨cel a n1 x c hc,cel T n2 x c hc⟩) q
noncomputable def Zu8(X:Cx)(EX:EXT):Prop:=∀(pins:List (Addr×Obj)) (σ:St) (H:Hp) (s:Shared) (e:Value) (s':Shared),Inv X pins σ H s→CX1 X.prog X.w X.stack H s (fun cls od H'=>EX cls od σ H') e s'→X.xe e s'
theorem Zd8.pass{X:Cx}{EX:EXT}(th:Zd8 X EX)(hex:X.ex=[]):Zu8 X EX:=fun _ _ _ _ _ _ I h=>Zu7 th hex I h
noncomputable def Ztm(sp:Sp)(EX:EXT)(t:TA):TE:=fun σ H Q=>t σ H fun vs H1=>sp vs H1 Q fun cls od H'=>EX cls od σ H'
theorem Zrh{X:Cx}{EX:EXT}{k:Nat}{f:Addr}{fd:FuncData}{ps:List Str}{sp:Sp}{x:Str}{p pos:Pos}{e:Expr}{es:List Expr}{t:TA}(F:FnOk X.prog X.w X.K X.mg X.base (CX1 X.prog X.w) k f fd ps sp)(hr:Room k X.A)(hg:Gl X x)(hm:X.mg x=some (.ref f))(hk:PySem.W.keepIn X.K (.ref f)=true)(hb:Za3 X.K fd ps [])
  (th:Zu8 X EX) (ha:PA X (e::es) t) (hdb:(x==("__debug__":Str))=false:=by decide) (he:starEach (e::es) X.env=(false,eval e X.env)::starEach es X.env:=by rfl) (hpl:(backTo pos (starEach es X.env)).any (·.1)=false:=by rfl):
  PE X (.Call (.Name x p) (e::es) [] pos) (Ztm sp EX t):=by
 intro pins s σ H Q I h
 refine wpAny_Call_Name_kw (Ze7 I hg hm ?_ hdb)
 refine PySem.W.callWith_K (h₀:=X.base) I.ok.mod.kin hk (thn (ha pos pins s σ H _ I h) fun us s1 ⟨vs,H1,I1,r,q⟩=>⟨I1.kIn,?_⟩) he hpl
 have hl:(us++[]).length=ps.length:=by rw[List.append_nil,←r.length];exact F.len _ _ _ _ q
 have bb:=hb s1 us I1.kIn hl
 rw[List.append_nil]at bb
 refine wpAny_call (codeAny_mono (F.run X.A X.stack s1 H1 ⟨us,[]⟩ us vs Q _ hr I1.env0 bb r q) fun r' s' hq=>?_)
 cases r' with
 |error e=>exact th _ _ _ _ _ _ I1 hq
 |ok fl=>
  cases fl with
  |ret u=>exact I1.after hq
  |next=>exact False.elim hq
  |brk=>exact False.elim hq
  |cont=>exact False.elim hq
end L2
namespace L2
open PySem PySem.Spec PyProof.Rows
structure Air(X:Cx)(pins:List (Addr×Obj))(H:Hp)(s:Shared)(e:Addr)(cls:Value)(dx:Option Addr)(T:Addr):Prop where
 r:Raised s.heap e cls dx (some T)
 e0:X.s₀.heap.get? e=none
 eH:H e=none
 t0:X.s₀.heap.get? T=none
 tH:H T=none
 pe:∀p∈X.pn++pins,p.1≠e∧p.1≠T
 le:e≠X.env.locals∧T≠X.env.locals
 ce:∀x c,X.env.cells.lookup x=some c→c≠e∧c≠T
section
variable{X:Cx}{pins:List (Addr×Obj)}{σ:St}{H:Hp}{s:Shared}{e T:Addr}{cls:Value}{dx:Option Addr}
theorem Inv.air{h':Heap}{T':Addr}(I:Inv X pins σ H s)(a:Air X pins H s e cls dx T)(hex:X.ex=[])(k1:∀b o,b≠e→b≠T→b∉frs X.stack→s.heap.get? b=some o→h'.get? b=some o)
  (k2:∀b o,b∈frs X.stack→s.heap.get? b=some o→∃sl,h'.get? b=some {o with slots:=sl}) (r':Raised h' e cls dx (some T')) (hT:s.heap.get? T'=none∨T'=T):
  Inv X pins σ H {s with heap:=h'}∧Air X pins H {s with heap:=h'} e cls dx T':=by
 have old:∀b o,X.s₀.heap.get? b=some o→b≠e∧b≠T:=fun b o q=>⟨(fun z=>by rw[z,a.e0]at q;cases q),(fun z=>by rw[z,a.t0]at q;cases q)⟩
 have nl:∀b o,X.s₀.heap.get? b=some o→b≠X.env.locals:=fun b o q=>Nat.ne_of_lt (Nat.lt_of_lt_of_le (Heap.lt_size q) I.ok.above)
 have nst:∀b,b≠X.env.locals→b∉X.fs→b∉frs X.stack:=fun b h1 h2 z=>(List.mem_cons.mp (I.stkSub b z)).elim h1 h2
 have any:∀b o,b≠e→b≠T→s.heap.get? b=some o→∃sl,h'.get? b=some {o with slots:=sl}:=fun b o n1 n2 q=>by
  by_cases hb:b∈frs X.stack
  ·exact k2 b o hb q
  ·exact⟨o.slots,k1 b o n1 n2 hb q⟩
 have cellK:∀x c,X.env.cells.lookup x=some c→∀v,s.heap.IsCell c v→h'.IsCell c v:=fun x c ec v ⟨o,ho,hd⟩=>by
  obtain⟨sl,q⟩:=any c o (a.ce x c ec).1 (a.ce x c ec).2 ho
  exact⟨_,q,hd⟩
 refine⟨⟨I.ok,I.os,I.bare,⟨fun b o q n hb hx=>?_,fun b o q n hb hx=>?_,I.base.free,fun b o q hx=>?_,I.base.tups,I.base.frzs,I.base.tbls⟩,?_,fun x c ec=>?_,I.free,I.freeC,fun p hp=>?_,?_,I.len⟩,⟨r',a.e0,a.eH,?_,?_,fun p hp=>⟨(a.pe p hp).1,?_⟩,⟨a.le.1,?_⟩,fun x c ec=>⟨(a.ce x c ec).1,?_⟩⟩⟩
 ·exact k1 b o (old b o q).1 (old b o q).2 (nst b (nl b o q) hb) (I.base.keep b o q n hb hx)
 ·obtain⟨sl,q1⟩:=I.base.slot b o q n hb hx
  obtain⟨sl',q2⟩:=any b _ (old b o q).1 (old b o q).2 q1
  exact⟨sl',q2⟩
 ·obtain⟨o',q1⟩:=I.base.there b o q hx
  obtain⟨sl',q2⟩:=any b _ (old b o q).1 (old b o q).2 q1
  exact⟨_,q2⟩
 ·obtain⟨m,⟨o,es,ep,ho,rr⟩,hl⟩:=I.loc
  obtain⟨sl,q2⟩:=any _ o (Ne.symm a.le.1) (Ne.symm a.le.2) ho
  refine⟨m,⟨_,es,ep,q2,rr⟩,fun i x v e1 e2 e3=>?_⟩
  obtain⟨u,r,l⟩:=hl i x v e1 e2 e3
  refine⟨u,r,?_⟩
  rcases l with l|⟨k,c,ec,z⟩
  ·exact .inl l
  ·exact .inr ⟨k,c,ec,cellK x c ec _ z⟩
 ·obtain⟨v,z⟩:=I.cell x c ec
  exact⟨v,cellK x c ec v z⟩
 ·obtain⟨q,n,ne,nf,d⟩:=I.pin p hp
  exact⟨k1 p.1 p.2 (a.pe p hp).1 (a.pe p hp).2 (nst _ ne nf) q,n,ne,nf,d⟩
 ·exact Zoe I.hok fun b o hb q=>k1 b o (fun z=>hb (by rw[z];exact a.eH)) (fun z=>hb (by rw[z];exact a.tH)) (fun z=>hb (I.stkFree b z)) q
 ·rcases hT with hT|hT
  ·cases z:X.s₀.heap.get? T' with
   |none=>rfl
   |some o=>
    obtain⟨o',q⟩:=I.base.there T' o z (by rw[hex];simp)
    rw[hT]at q;cases q
  ·rw[hT];exact a.t0
 ·rcases hT with hT|hT
  ·exact I.hok.gone hT
  ·rw[hT];exact a.tH
 ·rcases hT with hT|hT
  ·intro z
   have:=(I.pin p hp).1
   rw[z,hT]at this;cases this
  ·rw[hT];exact(a.pe p hp).2
 ·rcases hT with hT|hT
  ·intro z
   obtain⟨m,⟨o,es,ep,ho,_⟩,_⟩:=I.loc
   rw[←z,hT]at ho;cases ho
  ·rw[hT];exact a.le.2
 ·rcases hT with hT|hT
  ·intro z
   obtain⟨v,o,ho,_⟩:=I.cell x c ec
   rw[z,hT]at ho;cases ho
  ·rw[hT];exact(a.ce x c ec).2
theorem Inv.noted{h':Heap}{T':Addr}(I:Inv X pins σ H s)(a:Air X pins H s e cls dx T)(hex:X.ex=[])(n:Noted (frs X.stack) s.heap h' e cls dx (some T) T'):Inv X pins σ H {s with heap:=h'}∧Air X pins H {s with heap:=h'} e cls dx T':=
 I.air a hex (fun b o n1 n2 n3 q=>n.keep b o n1 (fun z=>n2 (List.mem_singleton.mp z)) n3 q) n.slot n.r (by
  rcases n.new with k|k
  ·exact .inl k
  ·cases k;exact .inr rfl)
theorem Zb7{M:Model}{A:Around}{E:Value→Shared→Prop}{Q:Shared→Prop}(I:Inv X pins σ H s)(a:Air X pins H s e cls dx T)(hex:X.ex=[])(hA:A.frames=some X.stack)(hst:X.stack=X.env::X.outer)(hfr:X.env.frame=some X.env.locals)
  (k:∀h' T',Inv X pins σ H {s with heap:=h'}→Air X pins H {s with heap:=h'} e cls dx T'→Q {s with heap:=h'}):
  wpAny M A (noteFrame (.ref e) X.env) (fun _ s2=>wpAny M A (setFlight (.ref e) none) (fun _ s3=>Q s3) E s2) E s∧wpAny M A (setFlight (.ref e) none) (fun _ s3=>Q s3) E s:=by
 have nor:∀{σ:St} {H:Hp} {s:Shared},Inv X pins σ H s→∀b o ws,s.heap.get? b=some o→o.data= .fields ws→b∉frs X.stack:=fun{σ H s} I b o ws q qd hm=>by
  obtain⟨_,o',q1,q2⟩:=I.stack.mem hm
  rw[q]at q1;cases q1
  exact q2 ws qd
 constructor
 ·have ff:s.heap.FunFrames X.base (X.env::X.outer):=by rw[←hst];exact I.stack
  refine Zk6 (by rw[hA,hst]) ff hfr a.r fun h1 T1 n1=>?_
  rw[←hst]at n1
  obtain⟨I1,a1⟩:=I.noted a hex n1
  refine Zd7 (s:={s with heap:=h1}) a1.r (nor I1) fun h2 n2=>?_
  obtain⟨I2,a2⟩:=I1.noted a1 hex n2
  exact k h2 T1 I2 a2
 ·refine Zd7 a.r (nor I) fun h2 n2=>?_
  obtain⟨I2,a2⟩:=I.noted a hex n2
  exact k h2 T I2 a2
end
noncomputable abbrev Cx.inTry(X:Cx)(pn:List (Addr×Obj))(xe:Value→Shared→Prop):Cx:={X with pn:=pn,xe:=xe}
noncomputable abbrev Cx.inSuite(X:Cx)(a:Addr):Cx:={X with A:=X.A.mark (some (.ref a)),calm:=false,xe:=fun _ _=>False}
section
variable{X:Cx}{pins:List (Addr×Obj)}{σ:St}{H:Hp}{s:Shared}{e T:Addr}{cls:Value}{dx:Option Addr}{xe:Value→Shared→Prop}
theorem Cx.Ok.tryIn{pn:List (Addr×Obj)}(k:X.Ok):(X.inTry pn xe).Ok:=⟨k.mod,k.kind,k.glob,k.blt,k.above,k.inj,k.has,k.cab,k.hd,k.frames,k.stk,k.exf,k.bs,k.bsz,k.noex,k.exfs,k.funs,k.frf⟩
theorem Cx.Ok.suiteIn(k:X.Ok):(X.inSuite e).Ok:=⟨k.mod,k.kind,k.glob,k.blt,k.above,k.inj,k.has,k.cab,(fun h=>nomatch h),k.frames,k.stk,k.exf,k.bs,k.bsz,k.noex,k.exfs,k.funs,k.frf⟩
theorem Inv.tryIn(I:Inv X pins σ H s):Inv (X.inTry (X.pn++pins) xe) [] σ H s:=⟨I.ok.tryIn,I.os,I.bare,I.base,I.loc,I.cell,I.free,I.freeC,(fun p hp=>I.pin p (by simpa using hp)),I.hok,I.len⟩
theorem Inv.tryOut{pins':List (Addr×Obj)}(k:X.Ok)(I:Inv (X.inTry (X.pn++pins) xe) pins' σ H s):Inv X pins σ H s:=⟨k,I.os,I.bare,I.base,I.loc,I.cell,I.free,I.freeC,(fun p hp=>I.pin p (List.mem_append_left _ hp)),I.hok,I.len⟩
theorem Inv.suiteIn(I:Inv X pins σ H s):Inv (X.inSuite e) pins σ H s:=⟨I.ok.suiteIn,I.os,I.bare,I.base,I.loc,I.cell,I.free,I.freeC,I.pin,I.hok,I.len⟩
theorem Inv.suiteOut(k:X.Ok)(I:Inv (X.inSuite e) pins σ H s):Inv X pins σ H s:=⟨k,I.os,I.bare,I.base,I.loc,I.cell,I.free,I.freeC,I.pin,I.hok,I.len⟩
theorem SP.out{D:Ends}{f:Flow}(k:X.Ok)(h:SP (X.inSuite e) pins D f s):SP X pins D f s:=by
 cases f with
 |next=>obtain⟨σ',H',I,q⟩:=h;exact⟨σ',H',I.suiteOut k,q⟩
 |brk=>obtain⟨σ',H',I,q⟩:=h;exact⟨σ',H',I.suiteOut k,q⟩
 |cont=>obtain⟨σ',H',I,q⟩:=h;exact⟨σ',H',I.suiteOut k,q⟩
 |ret u=>obtain⟨v,σ',H',I,q⟩:=h;exact⟨v,σ',H',I.suiteOut k,q⟩
theorem SP.outT{D:Ends}{f:Flow}(k:X.Ok)(h:SP (X.inTry (X.pn++pins) xe) [] D f s):SP X pins D f s:=by
 cases f with
 |next=>obtain⟨σ',H',I,q⟩:=h;exact⟨σ',H',I.tryOut k,q⟩
 |brk=>obtain⟨σ',H',I,q⟩:=h;exact⟨σ',H',I.tryOut k,q⟩
 |cont=>obtain⟨σ',H',I,q⟩:=h;exact⟨σ',H',I.tryOut k,q⟩
 |ret u=>obtain⟨v,σ',H',I,q⟩:=h;exact⟨v,σ',H',I.tryOut k,q⟩
noncomputable def Zbg(a C:Addr)(dx:Option Addr):Heap→Prop:=fun h=>∃o,h.get? a=some o∧o.cls= .ref C∧o.dict=dx∧PySem.W.notCls o=true
theorem Inv.track{C:Addr}(I:Inv X pins σ H s)(a:Air X pins H s e (.ref C) dx T):Inv X pins σ (upd H e (.ext (Zbg e C dx))) s:=by
 obtain⟨oe,vs,h1,h2,hdx,h3,h5⟩:=a.r.obj
 have hnc:PySem.W.notCls oe=true:=by unfold PySem.W.notCls;rw[h3]
 refine⟨I.ok,I.os,I.bare,⟨I.base.keep,I.base.slot,fun b o q n hx=>?_,I.base.there,fun b xs q=>?_,fun b o u q=>?_,fun b ps q=>?_⟩,I.loc,I.cell,?_,fun x c ec=>?_,fun p hp=>?_,fun b u q=>?_,I.len⟩
 ·rw[Zr (fun z=>by rw[z,a.e0]at q;cases q)];exact I.base.free b o q n hx
 ·have:=I.base.tups b xs q
  rw[Zr (fun z=>by rw[z,a.eH]at this;cases this)];exact this
 ·have:=I.base.frzs b o u q
  rw[Zr (fun z=>by rw[z,a.eH]at this;cases this)];exact this
 ·obtain⟨m,this⟩:=I.base.tbls b ps q
  exact⟨m,by rw[Zr (fun z=>by rw[z,a.eH]at this;cases this)];exact this⟩
 ·rw[Zr (Ne.symm a.le.1)];exact I.free
 ·rw[Zr (a.ce x c ec).1];exact I.freeC x c ec
 ·obtain⟨q,n,r⟩:=I.pin p hp
  exact⟨q,by rw[Zr (a.pe p hp).1];exact n,r⟩
 ·by_cases hb:b=e
  ·subst hb
   rw[Zy]at q;cases q
   exact⟨⟨oe,h1,h2,hdx,hnc⟩,⟨oe,h1⟩,fun g1 g2 ⟨o,z1,z2⟩ k=>⟨o,k o z1,z2⟩⟩
  ·rw[Zr hb]at q
   exact(I.hok b u q).stay (fun c v _ z=>z) (fun c z=>by rw[Zr (fun y=>by rw[y,a.eH]at z;cases z)];exact z) fun c xs z=>by rw[Zr (fun y=>by rw[y,a.eH]at z;cases z)];exact z
theorem Zgx{M:Model}{A:Around}{E:Value→Shared→Prop}{i:Nat}{n:Str}{pos:Pos}{Q:Unit→Shared→Prop}(I:Inv X pins σ H s)(hN:X.N.Nodup)(hi:X.N[i]? =some n)(hk:X.env.kindOf n=some .local)
  (h:∀s',Inv X pins (σ.set i none) H s'→Q () s'):wpAny M A (do bindName X.env n .none;unbindBehindTheSuite X.env n pos) Q E s:=by
 obtain⟨m,hn,hl⟩:=id I.loc
 have hcls:(X.env.scope.kind== .class|| (X.env.scope.kind== .module&&X.env.locals !=X.env.globals))=false:=by rw[I.ok.kind];rfl
 refine wpAny_nameGoes_keeps hk hn hcls fun h' u hn' hs=>?_
 obtain⟨oL,_,_,hoL,_⟩:=id hn
 have cne:=I.cne
 have nl:∀b o,X.s₀.heap.get? b=some o→b≠X.env.locals:=fun b o q=>Nat.ne_of_lt (Nat.lt_of_lt_of_le (Heap.lt_size q) I.ok.above)
 refine h _ ⟨I.ok,I.os,I.bare,⟨fun b o q n hb hx=>?_,fun b o q n hb hx=>?_,I.base.free,fun b o q hx=>?_,I.base.tups,I.base.frzs,I.base.tbls⟩,⟨_,hn',fun j y v' e1 e2 e3=>?_⟩,fun y c ec=>?_,I.free,I.freeC,fun p hp=>?_,fun b ob q=>?_,by simpa using I.len⟩
 ·exact(hs.2 b (nl b o q)).trans (I.base.keep b o q n hb hx)
 ·obtain⟨sl,e1⟩:=I.base.slot b o q n hb hx
  exact⟨sl,(hs.2 b (nl b o q)).trans e1⟩
 ·obtain⟨o',e1⟩:=I.base.there b o q hx
  exact⟨o',(hs.2 b (nl b o q)).trans e1⟩
 ·by_cases hj:j=i
  ·subst hj
   have:j<σ.length:=by
    have:=(List.getElem?_eq_some_iff.mp e2).1
    simpa using this
   rw[List.getElem?_set_self this]at e2;cases e2
  ·rw[List.getElem?_set_ne (Ne.symm hj)]at e2
   obtain⟨u',r',q⟩:=hl j y v' e1 e2 e3
   refine⟨u',r',?_⟩
   rcases q with⟨k,z⟩|⟨k,c,z,z'⟩
   ·refine .inl ⟨k,?_⟩
    have:y≠n:=fun z=>hj (Zgs hN e1 (z▸hi))
    simp[this,z]
   ·exact .inr ⟨k,c,z,z'.sameBut hs (cne y c z)⟩
 ·obtain⟨w',z⟩:=I.cell y c ec
  exact⟨w',z.sameBut hs (cne y c ec)⟩
 ·obtain⟨q,n,ne,nf,d⟩:=I.pin p hp
  exact⟨(hs.2 p.1 ne).trans q,n,ne,nf,d⟩
 ·refine(I.hok b ob q).stay (fun c w' hc z=>(hs.2 c ?_).trans z) (fun _ z=>z) fun _ _ z=>z
  rintro rfl
  rcases hc with hc|hc
  ·rw[←hc,I.free]at q;cases q
  ·rw[I.free]at hc;cases hc
end
end L2
namespace L2
open PySem PySem.Spec PyProof.Rows
theorem Zil{M:Model}{A:Around}{E:Value→Shared→Prop}{s:Shared}{K:PySem.W.Frag}{e C B:Addr}{b:Bool}{Q:Bool→Shared→Prop}(X:K.In s.heap){dx:Option Addr}(he:Zbg e C dx s.heap)(hty:PySem.W.typeIn K (.ref B)=some (.type "type"))
  (hcl:PySem.W.isClsIn K B=true) (hB:PySem.W.mroIn K B (.type "BaseException")=some true) (hm:PySem.W.mroIn K C (.ref B)=some b) (h:Q b s):wpAny M A (excMatches (.ref e) (.ref B)) Q E s:=by
 obtain⟨hp,g,d,tk,os⟩:=s
 obtain⟨o,h1,h2,_⟩:=he
 have lt:PySem.W.Looks M hp (typeOf (.ref B)) (.type "type"):=PySem.W.looks_typeIn X hty
 have li:PySem.W.Looks M hp (isType (.ref B)) true:=by
  unfold PySem.W.isClsIn PySem.W.clsIn at hcl
  split at hcl
  ·rename_i ho
   intro A' Q' E' s' k q
   unfold isType loadHead
   exact wpAny_bind (wpAny_loadPart (k _ _ (X _ _ ho)) (wpAny_pure q))
  ·cases hcl
 have lb:=PySem.W.looks_mroIn (M:=M) X hB
 have lm:=PySem.W.looks_mroIn (M:=M) X hm
 have le:PySem.W.Looks M hp (typeOf (.ref e)) (.ref C):=h2▸(PySem.W.Looks.ld h1).andThen .now
 have lx:PySem.W.Looks M hp (isExcClass (.ref B)) true:=by
  unfold isExcClass
  exact li.andThen lb
 have l0:PySem.W.Looks M hp (isInstance (.ref B) (.type "tuple")) false:=by
  unfold isInstance
  exact lt.andThen (.of_pure tc_notTuple)
 unfold excMatches
 refine wpAny_bind (l0.at ?_)
 dsimp only
 rw[if_neg Bool.false_ne_true]
 refine wpAny_bind (wpAny_pure ?_)
 refine wpAny_bind ?_
 rw[List.forIn_cons]
 refine wpAny_bind (wpAny_bind (lx.at ?_))
 rw[if_neg (by decide)]
 refine wpAny_pure ?_
 dsimp only
 rw[List.forIn_nil]
 refine wpAny_pure ?_
 refine wpAny_bind (le.at ?_)
 refine wpAny_bind ?_
 rw[List.forIn_cons]
 refine wpAny_bind (wpAny_bind (lm.at ?_))
 cases b with
 |true=>
  rw[if_pos rfl]
  exact wpAny_pure (wpAny_pure (wpAny_pure h))
 |false=>
  rw[if_neg Bool.false_ne_true]
  refine wpAny_pure ?_
  dsimp only
  rw[List.forIn_nil]
  exact wpAny_pure (wpAny_pure h)
set_option genInjectivity false in
structure Hd where
 x:Str
 np:Pos
 nm:Option (Str×Nat)
 b0:Stmt
 suite:List Stmt
 pos:Pos
 B:Addr
 t:TS
noncomputable def Hd.ast(h:Hd):ExceptHandler:=.ExceptHandler (some (.Name h.x h.np)) (h.nm.map (·.1)) (h.b0::h.suite) h.pos
noncomputable def Ends.but(D:Ends)(i:Nat):Ends:={nx:=fun σ H=>D.nx (σ.set i none) H,bk:=fun σ H=>D.bk (σ.set i none) H,ct:=fun σ H=>D.ct (σ.set i none) H,rt:=D.rt}
noncomputable def Hd.run(h:Hd)(C:Addr)(dx:Option Addr)(D:Ends)(σ:St)(H:Hp):Prop:=match h.nm with
 |none=>h.t D σ H
 |some (_,i)=>∀a,H a=none→h.t (D.but i) (σ.set i (some (.ref a))) (upd H a (.ext (Zbg a C dx)))
noncomputable def Zmo(K:PySem.W.Frag)(C:Addr):List Hd→Option Hd
 | []=>none
 |h::r=>match PySem.W.mroIn K C (.ref h.B)with
  |some true=>some h
  |some false=>Zmo K C r
  |none=>none
set_option genInjectivity false in
structure Hd.Ok(X:Cx)(h:Hd):Prop where
 gl:Gl X h.x
 mg:X.mg h.x=some (.ref h.B)
 ty:PySem.W.typeIn X.K (.ref h.B)=some (.type "type")
 cl:PySem.W.isClsIn X.K h.B=true
 bs:PySem.W.mroIn X.K h.B (.type "BaseException")=some true
 db:(h.x==("__debug__":Str))=false
 nm:∀n i,h.nm=some (n,i)→X.N.Nodup∧X.N[i]? =some n∧Loc X.env.scope n∧X.env.kindOf n=some .local∧X.env.scope.names.lookup n=some .local
 su:∀a,PSs (X.inSuite a) (h.b0::h.suite) h.t
section
variable{X:Cx}{pins:List (Addr×Obj)}{σ:St}{H:Hp}{s:Shared}{e T C:Addr}{dx:Option Addr}{D:Ends}
theorem Air.at'(a:Air X pins H s e (.ref C) dx T):Zbg e C dx s.heap:=by
 obtain⟨oe,vs,h1,h2,h3,h4,_⟩:=a.r.obj
 exact⟨oe,h1,h2,h3,by unfold PySem.W.notCls;rw[h4]⟩
theorem Zim(hex:X.ex=[])(hst:X.stack=X.env::X.outer)(hfr:X.env.frame=some X.env.locals){h:Hd}(I:Inv X pins σ H s)(a:Air X pins H s e (.ref C) dx T)(q:h.run C dx D σ H):
  ∀{hs:List Hd},(∀h∈hs,h.Ok X)→Zmo X.K C hs=some h→wpAny (model X.prog X.w) X.A (handleBy (.ref e) X.env (hs.map Hd.ast)) (SP X pins D) X.xe s
 | [],_,p=>nomatch p
 |g::r,ok,p=>by
  have kg:=ok g List.mem_cons_self
  show wpAny _ _ (handleBy (.ref e) X.env (.ExceptHandler (some (.Name g.x g.np)) (g.nm.map (·.1)) (g.b0::g.suite) g.pos::r.map Hd.ast)) _ _ s
  have Is:Inv (X.inSuite e) pins σ H s:=I.suiteIn
  refine wpAny_handleBy_cons (codeAny_handlers_test (Ze7 (X:=X.inSuite e) Is kg.gl kg.mg ?_ kg.db)) (by intro z;cases z)
  unfold Zmo at p
  split at p
  ·rename_i hm
   cases p
   refine Zil I.kIn a.at' kg.ty kg.cl kg.bs hm ?_
   show codeAny _ _ _ _ s
   unfold Hd.run at q
   split at q
   ·rename_i hn
    rw[hn]
    refine codeAny_handlers_suite ?_
    refine(Zb7 (M:=model X.prog X.w) (A:=X.A.mark (some (.ref e))) I a hex I.ok.frames hst hfr fun h' T' I' a'=>?_).2
    refine wpAny_mono (kg.su e pins _ σ H D I'.suiteIn q) (fun f s2 z=>?_) fun _ _ z=>z.elim
    exact SP.out I.ok z
   ·rename_i n i hn
    rw[hn]
    obtain⟨n1,n2,n3,n4,n5⟩:=kg.nm n i hn
    refine codeAny_handlers_suite_as ?_
    refine(Zb7 (M:=model X.prog X.w) (A:=X.A.mark (some (.ref e))) I a hex I.ok.frames hst hfr fun h' T' I' a'=>?_).2
    refine Zgt (X:=X.inSuite e) (v:=.ref e) (i:=i) (I'.track a').suiteIn n1 n2 n3 rfl (fun s2 I2=>?_) (.inr n5)
    refine wpAny_mono (kg.su e pins _ _ _ (D.but i) I2 (q e a.eH)) (fun f s3 z=>?_) fun _ _ z=>z.elim
    show wpAny _ X.A _ _ _ s3
    cases f with
    |next=>
     obtain⟨σ',H',I3,z⟩:=z
     exact Zgx (I3.suiteOut I.ok) n1 n2 n4 fun s4 I4=>⟨_,H',I4,z⟩
    |brk=>
     obtain⟨σ',H',I3,z⟩:=z
     exact Zgx (I3.suiteOut I.ok) n1 n2 n4 fun s4 I4=>⟨_,H',I4,z⟩
    |cont=>
     obtain⟨σ',H',I3,z⟩:=z
     exact Zgx (I3.suiteOut I.ok) n1 n2 n4 fun s4 I4=>⟨_,H',I4,z⟩
    |ret u=>
     obtain⟨v,σ',H',I3,z⟩:=z
     exact Zgx (I3.suiteOut I.ok) n1 n2 n4 fun s4 I4=>⟨v,_,H',I4,z⟩
  ·rename_i hm
   refine Zil I.kIn a.at' kg.ty kg.cl kg.bs hm ?_
   exact Zim hex hst hfr I a q (fun h hh=>ok h (List.mem_cons_of_mem _ hh)) p
  ·cases p
noncomputable def tTry(K:PySem.W.Frag)(tb:EXT→TS)(hs:List Hd):TS:=fun D σ H=>tb (fun cls dx σ' H'=>∃C h,cls= .ref C∧Zmo K C hs=some h∧h.run C dx D σ' H') D σ H
theorem Zys{body:List Stmt}{tb:EXT→TS}{h0:Hd}{hs:List Hd}{pos:Pos}(hb:∀pn xe EX,Zd8 (X.inTry pn xe) EX→PSs (X.inTry pn xe) body (tb EX))(ok:∀h∈h0::hs,h.Ok X)(hex:X.ex=[])
  (hst:X.stack=X.env::X.outer) (hfr:X.env.frame=some X.env.locals):PS X (.Try body ((h0::hs).map Hd.ast) [] [] pos) (tTry X.K tb (h0::hs)):=by
 intro pins s σ H D I h
 refine wpAny_Try_except (h₀:=h0.ast) (hs:=hs.map Hd.ast) ?_
 refine wpAny_mono (hb (X.pn++pins) _ _ ?_ [] s σ H D I.tryIn h) (fun f s1 z=>?_) fun _ _ z=>z
 ·intro pins' σ' H' s' e cls dx T I' r e0 eH t0 tH pe le ce ⟨C,g,ec,hp,q⟩
  subst ec
  have I2:Inv X pins σ' H' s':=I'.tryOut I.ok
  have a:Air X pins H' s' e (.ref C) dx T:=⟨r,e0,eH,t0,tH,fun p hp=>pe p (List.mem_append_left _ hp),le,ce⟩
  exact(Zb7 (M:=model X.prog X.w) (A:=X.A) I2 a hex I.ok.frames hst hfr fun h' T' I3 a3=>Zim hex hst hfr I3 a3 q ok hp).1
 ·have z':=SP.outT I.ok z
  cases f with
  |next=>exact PySem.wpAny_execs_nil z'
  |brk=>exact z'
  |cont=>exact z'
  |ret u=>exact z'
end
end L2
namespace L2
open PySem PySem.Spec PySem.Calls PyProof.Rows Builtin.ObjectAttr Builtin.Getset_descriptor
structure ExcKit(K:PySem.W.Frag)(C:Addr):Prop where
 cl:PySem.W.isClsIn K C=true
 ga:PySem.W.findIn K (.ref C) "__getattribute__"=some (some (.builtin "BaseException.__getattribute__"))
 gt:PySem.W.findIn K (.ref C) "__getattr__"=some none
 ca:PySem.W.findIn K (.ref C) "__class__"=some (some (.builtin "object.__class__"))
 gs:PySem.W.specialIn K (.builtin "object.__class__") "__get__"=some (some (.builtin "getset_descriptor.__get__"))
 tk:PySem.W.takesIn K (.builtin "object.__class__")=some true
 ob:PySem.W.mroIn K C (.type "object")=some true
 be:PySem.W.mroIn K C (.type "BaseException")=some true
section
variable{prog:Program}{w:World}{A:Around}{E:Value→Shared→Prop}{s:Shared}{K:PySem.W.Frag}{x C:Addr}{dx:Option Addr}
theorem Zc5{M:Model}{h:Heap}(p:Zbg x C dx h):PySem.W.Looks M h (typeOf (.ref x)) (.ref C):=by
 obtain⟨o,h1,h2,_⟩:=p
 exact h2▸(PySem.W.Looks.ld h1).andThen .now
theorem Zri{M:Model}{h:Heap}(X:K.In h)(k:ExcKit K C):PySem.W.Looks M h (find (.ref x) (.ref C) "__class__") (.bind (.builtin "getset_descriptor.__get__") (.builtin "object.__class__")):=by
 have l1:=PySem.W.looks_findIn (M:=M) X k.ca
 have l2:PySem.W.Looks M h (getOf (some (.builtin "object.__class__"))) (some (.builtin "getset_descriptor.__get__")):=PySem.W.looks_specialIn X k.gs
 have l3:=PySem.W.looks_takesIn (M:=M) X k.tk
 have l4:PySem.W.Looks M h (dataDescriptor? (some (.builtin "object.__class__")) (some (.builtin "getset_descriptor.__get__"))) (some (.builtin "getset_descriptor.__get__",.builtin "object.__class__")):=l3.andThen .now
 exact l1.andThen (l2.andThen (l4.andThen (PySem.W.Looks.tag .now)))
theorem Zu9{R:Result→Shared→Prop}{tp:Value}(X:K.In s.heap)(p:Zbg x C dx s.heap)(k:ExcKit K C)(h:R (.ok (.ret (.ref C))) s):
  codeAny (model prog w) A (.call (.builtin "getset_descriptor.__get__") ⟨[.builtin "object.__class__",.ref x,tp],[]⟩) R s:=by
 obtain⟨hh,g,dr,t,os⟩:=s
 have l0:=Zc5 (M:=model prog w) p
 have l1:=PySem.W.looks_mroIn (M:=model prog w) X k.ob
 refine codeAny_call_builtin PySem.W.KF.slot_gs.plain
  PySem.W.KF.entry_gs (PySem.W.KF.slot_gs.check _ _ _ _ _ _ _ _
   PySem.W.KF.type_class (PySem.W.KF.args_gs _ _ _) ?_)
 unfold Builtin.«getset_descriptor.__get__» descrGet
 rw[PySem.W.dga_obj]
 refine wpAny_bind (wpAny_pure ?_)
 unfold descrGetter descrCheckInstance descrNameAndClass isInstance
 simp only[PySem.W.KF.owner_class]
 repeat lk
 refine⟨Code.quiet_builtin _ (by decide+kernel),
  codeAny_builtin PySem.W.KF.entry_class ?_⟩
 unfold Builtin.«object.__class__» shownTypeOf
 repeat lk
 exact h
theorem Zof{tk:Tok}{Q:Fin→Shared→Prop}(X:K.In s.heap)(p:Zbg x C dx s.heap)(k:ExcKit K C)(h:Q (.done (.ret (.ref C))) s):
  wpAny (model prog w) A (Builtin.«object.__getattribute__» ⟨[.ref x,.str "__class__" tk],[]⟩) Q E s:=by
 obtain⟨hh,g,dr,t,os⟩:=s
 have l0:=Zc5 (M:=model prog w) p
 have l1:=Zri (M:=model prog w) (x:=x) X k
 refine wpAny_bind (wpAny_pure (wpAny_bind (wpAny_pure (wpAny_bind (l0.at (wpAny_bind (l1.at ?_)))))))
 show wpAny _ _ (holding [.builtin "object.__class__"] (call (.builtin "getset_descriptor.__get__") [.builtin "object.__class__",.ref x,.ref C]) >>=ret) _ _ _
 exact wpAny_bind (wpAny_holding (wpAny_call (Zu9 (s:=⟨hh,g,dr,t,os⟩) X p k (wpAny_pure h))))
theorem Zin{M:Model}{nv:Value}{Q:Unit→Shared→Prop}(X:K.In s.heap)(p:Zbg x C dx s.heap)(k:ExcKit K C)(h:Q () s):wpAny M A (checkBuiltinCall "BaseException.__getattribute__" ⟨[.ref x,nv],[]⟩) Q E s:=by
 obtain⟨hh,g,dr,t,os⟩:=s
 have l0:=Zc5 (M:=M) p
 have l1:=PySem.W.looks_mroIn (M:=M) X k.be
 have li:PySem.W.Looks M hh (isInstance (.ref x) (.type "BaseException")) true:=l0.andThen l1
 have e1:builtinKind "BaseException.__getattribute__"=some .slot:=by decide+kernel
 have e2:splitId "BaseException.__getattribute__"=some ("BaseException","__getattribute__"):=by decide+kernel
 have e3:=PySem.F.args_bexc_ga (.ref x) nv
 simp only[checkBuiltinCall,e1,e2]
 refine wpAny_bind (li.at ?_)
 rw[if_neg (by decide)]
 unfold argsOk at e3
 split
 ·rename_i sig hs
  rw[hs]at e3
  have e4:Bind.checkArgs "BaseException.__getattribute__" sig {pos:=[Value.ref x,nv]}=pure ():=e3
  rw[e4]
  exact wpAny_pure h
 ·exact wpAny_pure h
theorem Zog{Q:Option Value→Shared→Prop}(X:K.In s.heap)(p:Zbg x C dx s.heap)(k:ExcKit K C)(h:Q (some (.ref C)) {s with toks:=s.toks+1}):wpAny (model prog w) A (getAttr? (.ref x) "__class__") Q E s:=by
 obtain⟨hh,g,d,t,os⟩:=s
 have l0:=Zc5 (M:=model prog w) p
 have l1:=PySem.W.looks_findIn (M:=model prog w) X k.ga
 have l2:=PySem.W.looks_findIn (M:=model prog w) X k.gt
 unfold getAttr? getAttrBy? getAttrBy
 refine wpAny_bind (wpAny_mkText (wpAny_bind (wpAny_attempt (wpAny_holding (wpAny_bind (l0.at (wpAny_bind (l1.at ?_))))))))
 dsimp only
 have hb:(Value.builtin "BaseException.__getattribute__"==Value.builtin "object.__getattribute__")=false:=by decide+kernel
 rw[if_neg (by rw[hb,Bool.and_false];exact Bool.false_ne_true)]
 unfold getAttrByItsOwn hookBefore
 refine wpAny_bind ?_
 rw[if_pos (show onTheHeap (Value.ref C)=true from rfl)]
 refine l2.at ?_
 refine wpAny_bind (wpAny_attempt (wpAny_holding ?_))
 unfold callGetattribute
 rw[if_neg (by decide)]
 unfold boundAndCalled
 rw[PySem.F.excAttr_ValueError.ga.bind (.ref x)]
 refine wpAny_bind (wpAny_pure ?_)
 refine wpAny_call (codeAny_call_builtin PySem.F.excAttr_ValueError.ga.plain PySem.F.entry_bexc_ga (Zin X p k (Zof (s:=⟨hh,g,d,t+1,os⟩) X p k ?_)))
 show wpAny (model prog w) A (handedOut (.ref C)) _ _ _
 exact wpAny_pure (wpAny_pure h)
theorem Zrj(k:ExcKit K C):PySem.W.KitX K (.ref x) (.ref C) (Zbg x C dx)where
 ty:=fun M h _ p=>Zc5 p
 it:=fun _ _ X _=>by
  have hc:=k.cl
  unfold PySem.W.isClsIn PySem.W.clsIn at hc
  split at hc
  ·rename_i ho
   intro A' Q' E' s' kk q
   unfold isType loadHead
   exact wpAny_bind (wpAny_loadPart (kk _ _ (X _ _ ho)) (wpAny_pure q))
  ·cases hc
 ne:=fun h tp dd its n sl X htp=>by
  have hc:=k.cl
  refine Bool.eq_false_iff.mpr fun q=>?_
  have e:C=tp:=Value.ref.inj (beq_iff_eq.mp q)
  subst e
  unfold PySem.W.isClsIn PySem.W.clsIn at hc
  split at hc
  ·rename_i ho
   have z:=(X _ _ ho).symm.trans htp
   cases z
  ·cases hc
 ca:=fun X p kk=>Zog X p k kk
end
section
variable{X:Cx}
noncomputable def rIsX(K:PySem.W.Frag)(c:V)(cv:Value):List V→Hp→VK→Prop:=fun xs H Q=>∃a C dx b,xs=[.ref a,c]∧H a=some (.ext (Zbg a C dx))∧ExcKit K C∧PySem.W.kitOne K (.ref C) cv=some b∧Q (.bl b) H
theorem Zk7{c:V}{cv:Value}(hc:∀u,RelV c u→u=cv):Zdf X (.builtin "isinstance") (rIsX X.K c cv):=by
 intro pins s σ H xs us Q I r h
 obtain⟨a,C,dx,b,rfl,ha,k,e,q⟩:=h
 obtain⟨u,w',rfl,r1,r2⟩:=Zur r
 cases r1
 cases hc _ r2
 have p:Zbg a C dx s.heap:=(I.hok a _ ha).1
 exact PySem.W.kia_one (Zrj k) I.kIn p e (fun z=>nomatch z) fun tk=>⟨.bl b,H,I.tok _,rfl,q⟩
noncomputable def Z52(K:PySem.W.Frag)(Bs:List Addr):List V→Hp→VK→Prop:=fun xs H Q=>∃a C dx p b,xs=[.ref a,.ref p]∧H a=some (.ext (Zbg a C dx))∧ExcKit K C∧H p=some (.tup (Bs.map V.ref))∧PySem.W.kitAny K (.ref C) (Bs.map Value.ref)=some b∧Q (.bl b) H
end
end L2
namespace L2
open PySem PySem.Spec PyProof.Rows
section
variable{X:Cx}{pins:List (Addr×Obj)}{σ:St}{H:Hp}{s s':Shared}
end
noncomputable abbrev Cx.blockX(X:Cx)(N':List Str)(scope:Scope)(C:Addr)(s₀:Shared)(H₀:Hp)(ex:List Addr)(xe:Value→Shared→Prop):Cx:=
 {X with N:=N',env:=compEnvC scope (clOf X.env.cells scope.names []) C X.env,s₀:=s₀,H₀:=H₀,outer:=X.stack,stack:=X.stack,ex:=ex,fn:=fun _=>false,pn:=[],xe:=xe}
section
variable{X:Cx}{N':List Str}{scope:Scope}{src:List BSrc}{pins:List (Addr×Obj)}{σ:St}{H:Hp}{s:Shared}{C acc:Addr}{fp:List Addr}
noncomputable def Z4z(src:List BSrc)(wi:TI)(g:TG)(tt:TT)(te:EXT→TE)(EX:EXT):TE:=fun σ H Q=>wi σ H fun J H1=>∀acc,H1 acc=none→
 ∃W:Nat→Nat→St→Hp→Prop,(∃m,W 0 m (bSt src σ acc) (upd H1 acc (.lst [])))∧∀i m σ' H,W i m σ' H→(J.stop i H∧Q (.ref acc) H)∨
  (J.go i H∧∀x H',J.yld i H x H'→g x σ' H' fun σ2 H2=>tt σ2 H2 fun b H3=>if b=true then te (fun cls od _ H'=>EX cls od σ H') σ2 H3 fun y H4=>Zfa (.ref acc) [y] H4 fun _ H5=>∃m',m'<m∧W (i+1) m' σ2 H5 else∃m',m'<m∧W (i+1) m' σ2 H3)
end
end L2
namespace PySem
open Sem (wp)
section
variable{prog:Program}{w:World}{A:Around}{E:Value→Shared→Prop}{h:Heap}{g:Array GenState}{d:Drawn}{t:Nat}{os:OsState}
variable{nm q:Str}{C N fI:Addr}{oI:Obj}{bs bm bmB bmN:List Value}{hdct:Bool}{sn:List Str}{sub:List Value}{ab:Bool}{col:Option Bool}{dd:Option Addr}{k0 k1 k2 k3 k5:Option Value}{B Bn newId nid initId inN:String}{mN:Str→Option Value}{rest:List Value}
theorem Zrk{Q:Fin→Shared→Prop}(Fn:ExcBaseFacts Bn newId inN bmN)(hBn:bmB.contains (.type Bn)=true)(F:ExcBaseFacts B nid initId bmB)(T:OwnTail h bmB bm)(hC:h.get? C=some (excClassObj nm q C N bs bm hdct sn sub ab col dd k0 k1 k2 k3 k5 newId))(hn:h.Ns N mN)(hi:mN "__init__"=some (.ref fI))(hfI:h.get? fI=some oI)(hfc:oI.cls= .type "function")(hl:rest.length≤sizeLine)
  (k:∀h' e,Heap.MadeExcOf h h' e (.ref C) rest→h.objs.size≤e→wpAny (model prog w) A (call (.ref fI) (.ref e::rest)) (fun r s'=>r= .none∧Q (.done (.ret (.ref e))) s') E ⟨h',g,d,t,os⟩):wpAny (model prog w) A (Builtin.«type.__call__» ⟨.ref C::rest,[]⟩) Q E ⟨h,g,d,t,os⟩:=by
 repeat (first|with_reducible refine wpAny_loadPart_at hC ?_|with_reducible refine wpAny_madeBy_exc hC ?_|wp_step)
 refine codeAny_call_builtin_code (Code.quiet_builtin _ Fn.quiet) (wpAny_check_new_subU Fn hBn T hC ?_);refine codeAny_exc_new_subU Fn hBn F T hC ?_ hl;show wpAny _ _ _ _ _ _
 let h2:Heap:=(h.push {cls:=.type "tuple",data:=.seq rest.toArray}).push {cls:=.ref C,data:=.fields #[.ref h.objs.size,.none,.none,.none,.bool false,.none]}
 have up:∀b o,h.get? b=some o→h2.get? b=some o:=fun b o z=>Heap.get?_push_of_some _ (Heap.get?_push_of_some _ z)
 have c2:h2.get? C=_:=up _ _ hC
 have f2:=up _ _ hfI
 have n2:h2.Ns N mN:=by obtain⟨o,es,ep,e,r⟩:=hn;exact⟨o,es,ep,up _ _ e,r⟩
 have T2:OwnTail h2 bmB bm:=T.keeps (h':=h2) up
 have at2:h2.get? (h.objs.size+1)=some {cls:=.ref C,data:=.fields #[.ref h.objs.size,.none,.none,.none,.bool false,.none]}:=by
  show Heap.get? ((h.push {cls:=.type "tuple",data:=.seq rest.toArray}).push {cls:=.ref C,data:=.fields #[.ref h.objs.size,.none,.none,.none,.bool false,.none]}) (h.objs.size+1)=_;heap_get
 have has:(Value.ref C::bm).contains (.ref C)=true:=by simp
 unfold isInstance
 repeat (first|with_reducible refine wpAny_loadPart_at at2 ?_| (with_reducible refine wpAny_isSubtype_exc c2 ?_;rw[has])|wp_step)
 show wpAny _ _ (typeLookup (.ref C) _) _ _ _
 refine wpAny_typeLookup_tail c2 n2 T2 F.mroIs F.init.lookup ?_
 rw[hi];refine wpAny_holding (wpAny_bind ?_);unfold bindSpecial
 refine wpAny_bind (wpAny_typeOf (T:="function") ⟨_,f2,hfc⟩ ?_);rw[if_pos (by decide)]
 refine wpAny_pure (wpAny_bind (wpAny_mono (k h2 (h.objs.size+1) ⟨up,Heap.get?_none_of_le (Nat.le_succ _),h.objs.size,at2,Heap.get?_none_of_le (Nat.le_refl _),?_⟩ (Nat.le_succ _)) (fun r s' hr=>?_) fun _ _ z=>z))
 ·exact Heap.get?_push_of_some _ (Heap.get?_push_at rfl rfl)
 ·obtain⟨rfl,z⟩:=hr;wp_walk;exact z
theorem Zmp{Q:Value→Shared→Prop}(Fn:ExcBaseFacts Bn newId inN bmN)(hBn:bmB.contains (.type Bn)=true)(F:ExcBaseFacts B nid initId bmB)(T:OwnTail h bmB bm)(hC:h.get? C=some (excClassObj nm q C N bs bm hdct sn sub ab col dd k0 k1 k2 k3 k5 newId))(hn:h.Ns N mN)(hi:mN "__init__"=some (.ref fI))(hfI:h.get? fI=some oI)(hfc:oI.cls= .type "function")(hl:rest.length≤sizeLine)
  (k:∀h' e,Heap.MadeExcOf h h' e (.ref C) rest→h.objs.size≤e→wpAny (model prog w) (A.under (.builtin "type.__call__" ⟨.ref C::rest,[]⟩)) (call (.ref fI) (.ref e::rest)) (fun r s'=>r= .none∧Q (.ref e) s') E ⟨h',g,d,t,os⟩):wpAny (model prog w) A (call (.ref C) rest) Q E ⟨h,g,d,t,os⟩:=by
 have z1:=tc_lookup;have z2:=tc_bind (.ref C);have hT:(⟨h,g,d,t,os⟩:Shared).TypeIs (.ref C) "type":=⟨_,hC,rfl⟩
 refine wpAny_call (codeAny_of_tree ?_);show wpAny _ _ (callAny (.ref C) _) _ _ _
 repeat (any_goals (first|assumption|with_reducible refine wpAny_loadPart_at hC ?_|wp_step))
 exact⟨rfl,codeAny_call_builtin_at (Code.quiet_builtin _ (by decide+kernel)) entry_typeCall (wpAny_check_type_call_sub hC (Zrk Fn hBn F T hC hn hi hfI hfc hl k))⟩
end
section
variable{prog:Program}{w:World}{A:Around}{E:Value→Shared→Prop}{s:Shared}{env:Env}
variable{nm q:Str}{C N fI:Addr}{bs bm bmB bmN:List Value}{hdct:Bool}{sn:List Str}{sub:List Value}{ab:Bool}{col:Option Bool}{dd:Option Addr}{k0 k1 k2 k3 k5:Option Value}{B Bn newId nid initId inN:String}{mN:Str→Option Value}
theorem Zmq{x:Sem Value}{Q:Flow→Shared→Prop}(hbase:bm.contains (.type "BaseException")=true)(hh:A.handled=none)
  (k:wpAny (model prog w) A x (fun v s₁=>∃e oe,v= .ref e∧s₁.heap.get? C=some (excClassObj nm q C N bs bm hdct sn sub ab col dd k0 k1 k2 k3 k5 newId)∧s₁.heap.get? e=some oe∧oe.cls= .ref C∧(∃vs,oe.data= .fields vs∧vs[1]? =some .none)∧E (.ref e) s₁) E s):wpAny (model prog w) A (raiseStmt env (some x) none) Q E s:=by
 have has:(Value.ref C::bm).contains (.type "BaseException")=true:=by rw[List.contains_cons,hbase,Bool.or_true]
 unfold raiseStmt
 refine wpAny_bind (wpAny_mono k (fun v s₁ h₁=>?_) fun _ _ z=>z);obtain⟨e,oe,rfl,hC,he,hc,⟨vs,hnc,hv⟩,hE⟩:=h₁
 obtain⟨hp,g,d,tk,os⟩:=s₁
 obtain⟨oc,od,oda,osl⟩:=oe
 dsimp only at hc hnc
 subst hc hnc
 repeat (first|with_reducible refine wpAny_loadPart_at he ?_|with_reducible refine wpAny_loadPart_at hC ?_| (with_reducible refine wpAny_isSubtype_exc hC ?_;rw[has])|wp_step)
 rw[hv]
 refine wpAny_pure ?_
 rw[if_neg (by decide)]
 exact wpAny_pure (wpAny_raiseNew_none hh hE)
theorem Zj0{x:Str}{np cpos pos:Pos}{args:List Expr}{Q:Flow→Shared→Prop}(Fn:ExcBaseFacts Bn newId inN bmN)(hBn:bmB.contains (.type Bn)=true)(F:ExcBaseFacts B nid initId bmB)(hbase:bm.contains (.type "BaseException")=true)(hh:A.handled=none)(hpl:(backTo cpos (starEach args env)).any (·.1)=false)(hi:mN "__init__"=some (.ref fI))
  (k:wpAny (model prog w) A (eval (.Name x np) env) (fun f s₁=>f= .ref C∧wpAny (model prog w) A (evalArgs (.ref C) true (backTo cpos (starEach args env)) []) (fun a s₂=>a.kw=[]∧a.pos.length≤sizeLine∧s₂.heap.get? C=some (excClassObj nm q C N bs bm hdct sn sub ab col dd k0 k1 k2 k3 k5 newId)∧s₂.heap.Ns N mN∧OwnTail s₂.heap bmB bm∧(∃oI,s₂.heap.get? fI=some oI∧oI.cls= .type "function")∧
    ∀h' e,Heap.MadeExcOf s₂.heap h' e (.ref C) a.pos→s₂.heap.objs.size≤e→wpAny (model prog w) (A.under (.builtin "type.__call__" ⟨.ref C::a.pos,[]⟩)) (call (.ref fI) (.ref e::a.pos)) (fun r s'=>r= .none∧s'.heap.get? C=some (excClassObj nm q C N bs bm hdct sn sub ab col dd k0 k1 k2 k3 k5 newId)∧(∃oe,s'.heap.get? e=some oe∧oe.cls= .ref C∧∃vs,oe.data= .fields vs∧vs[1]? =some .none)∧E (.ref e) s') E {s₂ with heap:=h'}) E s₁) E s):
  wpAny (model prog w) A (exec (.Raise (some (.Call (.Name x np) args [] cpos)) none pos) env) Q E s:=by
 rw[arm_exec_Raise]
 simp only[evalOpt,Option.map]
 refine wpAny_bind (wpAny_standAt (Zmq (C:=C) (nm:=nm) (q:=q) (N:=N) (bs:=bs) (bm:=bm) (hdct:=hdct) (sn:=sn) (sub:=sub) (ab:=ab) (col:=col) (dd:=dd) (k0:=k0) (k1:=k1) (k2:=k2) (k3:=k3) (k5:=k5) (newId:=newId) hbase hh ?_));refine wpAny_bind (wpAny_mono (wpAny_Call_ofName (wpAny_mono k (fun f s₁ h₁=>?_) fun _ _ z=>z)) (fun v s₃ h₃=>wpAny_bind (wpAny_standAt (wpAny_pure h₃))) fun _ _ z=>z)
 obtain⟨rfl,h₁⟩:=h₁;unfold callWith
 refine wpAny_bind (wpAny_holding (wpAny_mono h₁ (fun a s₂ h₂=>wpAny_bind (wpAny_standAt ?_)) fun _ _ z=>z));obtain⟨ap,akw⟩:=a
 obtain⟨hkw,hlen,hC,hn,T,⟨oI,hfI,hfc⟩,h₂⟩:=h₂;obtain rfl:akw=[]:=hkw
 obtain⟨hp,g,d,tk,os⟩:=s₂;simp only[hpl]
 refine wpAny_bind (wpAny_keeperOf_exc hC ?_)
 refine wpAny_bind (Zmp Fn hBn F T hC hn hi hfI hfc hlen fun h' e hm hz=>wpAny_mono (h₂ h' e hm hz) (fun r s' ⟨r1,r2,⟨oe,r3,r4,r5⟩,r6⟩=>⟨r1,wpAny_bind (wpAny_holding (wpAny_point (wpAny_pure ⟨e,oe,rfl,r2,r3,r4,r5,r6⟩)))⟩) fun _ _ z=>z)
end
end PySem
namespace L2
open PySem PySem.Spec PySem.Calls PyProof.Rows Builtin.ObjectAttr
noncomputable def Zk8:List Value→Bool
 | .ref _::r=>Zk8 r
 |l=>l==VEB
theorem Zmr(self:Value):∀{l:List Value},Zk8 l=true→refuseLoop self "__setattr__" l=pure ():=by
 intro l
 induction l with
 |nil=>intro e;exact absurd e (by decide)
 |cons v r ih=>
  intro e
  by_cases hv:∃c,v= .ref c
  ·obtain⟨c,rfl⟩:=hv
   rw[refuseLoop_ref];exact ih e
  ·have e':(v::r)=VEB:=by
    cases v<;> first|exact beq_iff_eq.mp e|exact absurd ⟨_,rfl⟩ hv
   rw[e'];exact PySem.F.store_ValueError.passes self
structure ExcSet(K:PySem.W.Frag)(C:Addr)(name:Str):Prop where
 sa:PySem.W.findIn K (.ref C) "__setattr__"=some (some (.builtin "object.__setattr__"))
 ob:PySem.W.mroIn K C (.type "object")=some true
 na:PySem.W.findIn K (.ref C) name=some none
 mr:((PySem.W.clsIn K C).any fun cd=>Zk8 cd.mro&&cd.hasDict)=true
noncomputable def Zba(a C:Addr)(dx:Option Addr):Heap→Prop:=fun h=>∃o t,h.get? a=some o∧o.cls= .ref C∧o.dict=dx∧o.data= .fields #[.ref t,.none,.none,.none,.bool false,.none]
section
variable{prog:Program}{w:World}{A:Around}{E:Value→Shared→Prop}{s:Shared}{K:PySem.W.Frag}{x C:Addr}{name:Str}{v:Value}
theorem Zrl{M:Model}{h:Heap}{dx:Option Addr}(p:Zba x C dx h):PySem.W.Looks M h (typeOf (.ref x)) (.ref C):=by
 obtain⟨o,t,h1,h2,_⟩:=p
 exact h2▸(PySem.W.Looks.ld h1).andThen .now
theorem Zva{Q:Unit→Shared→Prop}(X:K.In s.heap)(p:Zba x C none s.heap)(k:ExcSet K C name)
  (hq:∀h' dx tk,Zba x C (some dx) h'→h'.Ns1 dx (fun y=>if y=name then some v else none)→s.heap.objs.size≤dx→dx≠x→(∀b ob,b≠x→s.heap.get? b=some ob→h'.get? b=some ob)→Q () {s with heap:=h',toks:=tk}):wpAny (model prog w) A (setAttr (.ref x) name v) Q E s:=by
 obtain⟨h,g,d,t,os⟩:=s
 have l0:=Zrl (M:=model prog w) p
 have l1:=PySem.W.looks_findIn (M:=model prog w) X k.sa
 have SF:=PySem.F.store_object
 obtain⟨cd,hc,ho⟩:=PySem.W.any_some k.mr
 rw[Bool.and_eq_true]at ho
 have sub:PySem.W.Looks (model prog w) h (isInstance (.ref x) (.type "object")) true:=l0.andThen (PySem.W.looks_mroIn X k.ob)
 have hm:PySem.W.Looks (model prog w) h (mroOf (.ref C)) cd.mro:=(PySem.W.looks_clsIn X hc).andThen .now
 have l2:=PySem.W.looks_findIn (M:=model prog w) X k.na
 refine wpAny_bind (wpAny_mkText (wpAny_bind (wpAny_bind (wpAny_bind (l0 _ _ _ _ (fun _ _ e=>e) (l1 _ _ _ _ (fun _ _ e=>e) (wpAny_holding ?_)))))));rw[SF.slot.bind]
 refine wpAny_bind (wpAny_pure (wpAny_bind (wpAny_call (codeAny_call_builtin SF.slot.plain SF.entry (@PySem.W.check_slot (model prog w) _ _ ⟨h,g,d,t+1,os⟩ "object.__setattr__" "object" "__setattr__" (.ref x) [.str name t,v] [] _ SF.kind SF.split sub (SF.args (.ref x) (.str name t) v) ?_)))))
 show wpAny _ _ (Builtin.«object.__setattr__» ⟨[.ref x,.str name t,v],[]⟩) _ _ _
 rw[PySem.W.osa_eq,refuse_eq]
 refine wpAny_bind (wpAny_bind (l0.at (wpAny_bind (hm.at ?_))));rw[Zmr _ ho.1]
 refine wpAny_pure (wpAny_bind (l0.at (wpAny_bind (l2.at (wpAny_bind (wpAny_pure ?_))))))
 obtain⟨o,ta,hx,hcl,hdn,hda⟩:=p
 obtain⟨oc,od,oda,osl⟩:=o
 dsimp only at hcl hdn hda hx
 subst hcl hdn hda
 dsimp only
 unfold storeInOwnDict
 repeat (first|with_reducible refine wpAny_loadPart_at hx ?_|wp_step)
 have hC:∃oC,h.get? C=some oC∧oC.data= .cls cd:=by
  unfold PySem.W.clsIn at hc
  split at hc
  ·rename_i hl;cases hc;exact⟨_,X _ _ hl,rfl⟩
  ·cases hc
 obtain⟨oC,hC1,hC2⟩:=hC
 refine wpAny_load hC1 ?_
 rw[hC2]
 refine wpAny_pure ?_
 rw[ho.2]
 dsimp only
 rw[if_neg (by decide),if_neg (by simp[typeHasDict])]
 have hx1:(h.push {cls:=.type "dict",data:=.dict #[]}).get? x=_:=Heap.get?_push_of_some _ hx
 have hxs:x≠h.objs.size:=Nat.ne_of_lt (Heap.lt_size hx)
 refine wpAny_bind (wpAny_alloc' (wpAny_bind (wpAny_update' hx1 (wpAny_pure ?_))))
 have gd:((h.push {cls:=.type "dict",data:=.dict #[]}).update x fun o=>{cls:=o.cls,dict:=some h.objs.size,data:=o.data,slots:=o.slots}).get? h.objs.size=some {cls:=.type "dict",data:=.dict #[]}:=(Heap.get?_update_ne _ _ _ _ hxs.symm).trans (Heap.get?_push_at rfl rfl)
 have nd:((h.push {cls:=.type "dict",data:=.dict #[]}).update x fun o=>{cls:=o.cls,dict:=some h.objs.size,data:=o.data,slots:=o.slots}).Ns h.objs.size (fun _=>none):=⟨_, #[],_,gd,rfl,(fun e he=>absurd he (by simp)),fun _=>rfl⟩
 show wpAny _ _ (storeInDict h.objs.size (.str name t) name v) _ _ _
 unfold storeInDict newKeyGuard
 refine wpAny_bind (wpAny_pure (wpAny_bind (wpAny_nsSet1 (Heap.Ns1.of_empty nd) fun h' hn' hs=>?_)));obtain⟨oD,esD,epD,hoD,hdD,hcD⟩:=hn'.count (Within.cons name v Within.nil)
 refine wpAny_bind (wpAny_lookBehind hoD (by rw[hdD];exact pastItsLine_dict (Nat.le_trans hcD (by rw[List.length_cons,List.length_nil,sizeLine_eq];omega))) ?_)
 have hx2:h'.get? x=some {cls:=.ref C,dict:=some h.objs.size,data:=Data.fields #[Value.ref ta,Value.none,Value.none,Value.none,Value.bool false,Value.none],slots:=osl}:=(hs.2 x hxs).trans (Heap.get?_update_self _ hx1 rfl)
 refine wpAny_pure (wpAny_pure (wpAny_pure (hq h' h.objs.size _ ⟨_,ta,hx2,rfl,rfl,rfl⟩ ?_ (Nat.le_refl _) hxs.symm fun b ob hb hbo=>?_)))
 ·obtain⟨o',es,ep,e1,e2,e3,eu,e4⟩:=hn'
  exact⟨o',es,ep,e1,e2,e3,eu,fun y=>by rw[e4 y]⟩
 ·exact(hs.2 b (Nat.ne_of_lt (Heap.lt_size hbo))).trans ((Heap.get?_update_ne _ _ _ _ hb).trans (Heap.get?_push_of_some _ hbo))
theorem Zrm{M:Model}{h:Heap}{dx:Addr}{mA:Str→Option Value}(X:K.In h)(p:Zbg x C (some dx) h)(hn:h.Ns1 dx mA)(hv:mA name=some v)(na:PySem.W.findIn K (.ref C) name=some none)(mr:((PySem.W.clsIn K C).any fun cd=>cd.hasDict)=true):
  PySem.W.Looks M h (find (.ref x) (.ref C) name) (.value v):=by
 obtain⟨cd,hc,hd⟩:=PySem.W.any_some mr
 have l1:=PySem.W.looks_findIn (M:=M) X na
 obtain⟨o,h1,h2,h3,h4⟩:=p
 have l2:PySem.W.Looks M h (instanceDict x false) (some dx):=by
  refine(PySem.W.Looks.ld h1).andThen ?_
  rw[h2,h3]
  refine(PySem.W.looks_clsIn X hc).andThen ?_
  rw[hd]
  exact .now
 have l3:PySem.W.Looks M h (nsGet dx name) (some v):=fun A Q E s k q=>by
  obtain⟨od,es,ep,e,r⟩:=hn.ns
  exact wpAny_nsGet ⟨od,es,ep,k _ _ e,r⟩ (by rw[hv];exact q)
 have l4:PySem.W.Looks M h (ownDict x) (some dx):=by
  refine(PySem.W.Looks.ld h1).andThen ?_
  unfold PySem.W.notCls at h4
  cases hda:o.data with
  |cls cd'=>rw[hda]at h4;cases h4
  |_=>exact l2
 have l5:PySem.W.Looks M h (inOwnDict name (.ref x)) (some v):=l4.andThen l3
 have l6:PySem.W.Looks M h (ownThenClass (.ref x) name none none) (.value v):=l5.andThen (PySem.W.Looks.tag .now)
 exact l1.andThen ((show PySem.W.Looks M h (getOf none) none from .now).andThen ((show PySem.W.Looks M h (dataDescriptor? none none) none from .now).andThen l6))
theorem Zvb{dx:Addr}{mA:Str→Option Value}{Q:Value→Shared→Prop}(X:K.In s.heap)(p:Zbg x C (some dx) s.heap)(k:ExcKit K C)(hn:s.heap.Ns1 dx mA)(hv:mA name=some v)(na:PySem.W.findIn K (.ref C) name=some none)(mr:((PySem.W.clsIn K C).any fun cd=>cd.hasDict)=true)(hh:handedOut v=pure v)
  (hq:Q v {s with toks:=s.toks+1}):wpAny (model prog w) A (getAttr (.ref x) name true) Q E s:=by
 obtain⟨h,g,d,t,os⟩:=s
 have l0:=Zc5 (M:=model prog w) p
 have l1:=PySem.W.looks_findIn (M:=model prog w) X k.ga
 have l2:=PySem.W.looks_findIn (M:=model prog w) X k.gt
 have l3:=Zrm (M:=model prog w) X p hn hv na mr
 unfold getAttr getAttrBy
 refine wpAny_bind (wpAny_mkText (wpAny_holding (wpAny_bind (l0.at (wpAny_bind (l1.at ?_))))))
 dsimp only
 have hb:(Value.builtin "BaseException.__getattribute__"==Value.builtin "object.__getattribute__")=false:=by decide+kernel
 rw[if_neg (by rw[hb,Bool.and_false];exact Bool.false_ne_true)]
 unfold getAttrByItsOwn hookBefore
 refine wpAny_bind ?_
 rw[if_pos (show onTheHeap (Value.ref C)=true from rfl)]
 refine l2.at ?_
 refine wpAny_bind (wpAny_attempt (wpAny_holding ?_))
 unfold callGetattribute
 rw[if_neg (by rw[show onTheHeap (Value.builtin "BaseException.__getattribute__")=false from rfl,Bool.and_false];exact Bool.false_ne_true)]
 unfold boundAndCalled
 rw[PySem.F.excAttr_ValueError.ga.bind (.ref x)]
 refine wpAny_bind (wpAny_pure (wpAny_call (codeAny_call_builtin PySem.F.excAttr_ValueError.ga.plain PySem.F.entry_bexc_ga (Zin (s:=⟨h,g,d,t+1,os⟩) X p k ?_))))
 show wpAny (model prog w) _ (Builtin.«object.__getattribute__» ⟨[.ref x,.str name t],[]⟩) _ _ _
 refine wpAny_bind (wpAny_pure (wpAny_bind (wpAny_pure (wpAny_bind (l0.at (wpAny_bind (l3.at (wpAny_pure ?_))))))))
 show wpAny (model prog w) A (handedOut v) _ _ _
 rw[hh]
 exact wpAny_pure hq
end
end L2
namespace L2
open PySem PySem.Spec PyProof.Rows
theorem Zms{K:PySem.W.Frag}{h:Heap}{N:Addr}{m:Str→Option Value}{n:Str}{v:Value}(X:K.In h)(G:h.Ns N m)(e:PySem.W.nsIn K N n=some (some v)):m n=some v:=by
 obtain⟨ob,ee,ep,hob,hdd,_,hfd⟩:=G
 unfold PySem.W.nsIn at e
 split at e
 ·rename_i qq
  have z:=X _ _ qq
  rw[hob]at z;cases z;cases hdd
  split at e
  ·rename_i hee
   cases e;rw[←hfd];unfold nsFind findBy
   rw[←Array.find?_toList,hee];rfl
  ·split at e<;> cases e
 ·cases e
noncomputable def Zoh(K:PySem.W.Frag)(C f:Addr):Bool:=match K.lookup C with
 |some ⟨.type "type",_,.cls cd,sl⟩=>(match cd.mro,sl.toList with
  | .ref B::r,[_,_,_,_,some (.builtin i),_]=>B==C&&i=="ValueError.__new__" && !cd.hasDel&&PySem.W.tailIn K VEB r&&PySem.W.nsOkIn K cd.ns&&PySem.W.nsIn K cd.ns "__init__"==some (some (.ref f))
  |_,_=>false)
 |_=>false
noncomputable def Zgy(C f:Addr)(h:Heap):Prop:=∃(bm:List Value) (N:Addr) (nm q:Str) (bs:List Value) (hdct:Bool) (sn:List Str) (sub:List Value) (ab:Bool) (col:Option Bool) (dd:Option Addr) (k0 k1 k2 k3 k5:Option Value) (mN:Str→Option Value),
 h.get? C=some (excClassObj nm q C N bs bm hdct sn sub ab col dd k0 k1 k2 k3 k5 "ValueError.__new__")∧h.Ns N mN∧mN "__init__"=some (.ref f)∧OwnTail h VEB bm
theorem Zvc{K:PySem.W.Frag}{h:Heap}{C f:Addr}(X:K.In h)(q:Zoh K C f=true):Zgy C f h:=by
 unfold Zoh at q
 split at q
 ·rename_i dd cd sl ho
  split at q
  ·rename_i C2 bm s0 s1 s2 s3 id s5 hm hs
   simp only[Bool.and_eq_true,beq_iff_eq,Bool.not_eq_true']at q
   obtain⟨⟨⟨⟨⟨rfl,rfl⟩,hdl⟩,ht⟩,hok⟩,hin⟩:=q
   obtain⟨nm,bs,mro,ns,qn,hd,sn,sub,ab,col,del⟩:=cd
   dsimp only at hm hdl hok hin
   subst hm hdl
   obtain⟨l⟩:=sl
   simp only at hs
   subst hs
   have nz:h.Ns ns (h.nsMap ns):=.of_isNs (PySem.W.isNs_of_in X hok)
   exact⟨bm,ns,nm,qn,bs,hd,sn,sub,ab,col,dd,s0,s1,s2,s3,s5,_,X _ _ ho,nz,Zms X nz hin,PySem.W.tail_of_in X ht⟩
  ·cases q
 ·cases q
noncomputable def drop(H:Hp)(e:Addr):Hp:=fun b=>if b=e then none else H b
theorem Zj1{H:Hp}{e:Addr}:drop H e e=none:=if_pos rfl
theorem Zb8{H:Hp}{e b:Addr}(h:b≠e):drop H e b=H b:=if_neg h
section
variable{X:Cx}{pins:List (Addr×Obj)}{σ:St}{H:Hp}{s:Shared}{e C:Addr}
theorem Inv.untrack{φ:Heap→Prop}(I:Inv X pins σ H s)(he:H e=some (.ext φ)):Inv X pins σ (drop H e) s:=by
 have ne:∀{b:Addr} {o:HO},H b=some o→(∀ψ,o≠.ext ψ)→b≠e:=fun{b o} q n z=>by rw[z,he]at q;cases q;exact n _ rfl
 have no:∀{b:Addr},H b=none→drop H e b=none:=fun{b} q=>by
  by_cases z:b=e
  ·rw[z];exact Zj1
  ·rw[Zb8 z];exact q
 refine⟨I.ok,I.os,I.bare,⟨I.base.keep,I.base.slot,fun b o q n hx=>no (I.base.free b o q n hx),I.base.there,fun b xs q=>?_,fun b o u q=>?_,fun b ps q=>?_⟩,I.loc,I.cell,no I.free,fun x c ec=>no (I.freeC x c ec),fun p hp=>?_,fun b u q=>?_,I.len⟩
 ·have z:=I.base.tups b xs q
  rw[Zb8 (ne z fun ψ y=>nomatch y)];exact z
 ·have z:=I.base.frzs b o u q
  rw[Zb8 (ne z fun ψ y=>nomatch y)];exact z
 ·obtain⟨m,z⟩:=I.base.tbls b ps q
  exact⟨m,by rw[Zb8 (ne z fun ψ y=>nomatch y)];exact z⟩
 ·obtain⟨q,n,r⟩:=I.pin p hp
  exact⟨q,no n,r⟩
 ·by_cases hb:b=e
  ·rw[hb,Zj1]at q;cases q
  ·rw[Zb8 hb]at q
   exact(I.hok b u q).stay (fun c v _ z=>z) (fun c z=>by rw[Zb8 (ne z fun ψ y=>nomatch y)];exact z) fun c xs z=>by rw[Zb8 (ne z fun ψ y=>nomatch y)];exact z
end
structure ExcGet(K:PySem.W.Frag)(C:Addr)(f:Str):Prop where
 kit:ExcKit K C
 na:PySem.W.findIn K (.ref C) f=some none
 mr:((PySem.W.clsIn K C).any fun cd=>cd.hasDict)=true
noncomputable def Zyt(K:PySem.W.Frag)(ta:TE)(f:Str):TE:=fun σ H Q=>ta σ H fun x H1=>∃a C dx fs v,x= .ref a∧H1 a=some (.ext (Zbg a C (some dx)))∧H1 dx=some (.xd fs)∧ExcGet K C f∧fs.lookup f=some v∧Q v H1
section
variable{X:Cx}{e o value:Expr}{f:Str}{pos pos':Pos}{ta tv:TE}
theorem Zrn(he:PE X e ta)(hb:attributeBase e f X.env (eval e X.env)=eval e X.env):PE X (.Attribute e f pos) (Zyt X.K ta f):=by
 intro pins s σ H Q I h
 refine Zus hb (thn (he pins s σ H _ I h) fun u s1 zq9=>?_)
 obtain⟨x,H1,I1,rx,a,C,dx,fs,v,ex,ea,ed,k,l,q⟩:=zq9
 subst ex
 obtain rfl:u=Value.ref a:=rx
 obtain⟨mA,hn,r⟩:=(show Zbf X.prog X.w H1 s1.heap dx (.xd fs)from I1.hok dx _ ed)
 obtain⟨u,hu,ru⟩:=RelO.some_of (v:=v) (o:=mA f) (by rw[←l];exact r f)
 exact Zvb I1.kIn (I1.hok a _ ea).1 k.kit hn hu k.na k.mr (PySem.W.handedOut_of (Znx ru)) ⟨v,H1,I1.tok _,ru,q⟩
noncomputable def Zk9(K:PySem.W.Frag)(ta tv:TE)(f:Str):TS:=fun D σ H=>tv σ H fun y H1=>ta σ H1 fun x H2=>∃a C,x= .ref a∧H2 a=some (.ext (Zba a C none))∧ExcSet K C f∧
 ∀dx,H2 dx=none→D.nx σ (upd (upd H2 dx (.xd [(f,y)])) a (.ext (Zba a C (some dx))))
theorem Zla{a C:Addr}{dx:Option Addr}:∀h1 h2:Heap,Zba a C dx h1→(∀o,h1.get? a=some o→h2.get? a=some o)→Zba a C dx h2:=fun h1 h2 ⟨o,t,z1,z2⟩ k=>⟨o,t,k o z1,z2⟩
theorem Zro(ha:PE X o ta)(hv:PE X value tv)(hs:swapsWith value (some (.Attribute o f pos')) pos.line X.env=pure false):PS X (.Assign [.Attribute o f pos'] value pos) (Zk9 X.K ta tv f):=by
 intro pins s σ H D I h
 refine plainObj_wpAny_Assign_Attribute (thn (hv pins s σ H _ I h) fun u s1 ⟨y,H1,I1,ry,q⟩=>thn (ha pins s1 σ H1 _ I1 q) fun ov s2 ⟨x,H2,I2,rx,a,C,ex,ea,k,q2⟩=>?_) hs
 subst ex
 obtain rfl:ov=Value.ref a:=rx
 have p:=(I2.hok a _ ea).1
 refine Zva I2.kIn p k fun h' dx tk p' n' hz hne kp=>?_
 obtain⟨oa,ta',hoa,c1,c2,c3⟩:=id p
 obtain⟨ob,tb',hob,_⟩:=id p'
 have hdx:H2 dx=none:=I2.hok.fresh hz
 have g1:(h'.update a fun _=>oa).get? a=some oa:=Heap.get?_update_self _ hob (Obj.isFreed_of_fields c3)
 have g2:∀b,b≠a→(h'.update a fun _=>oa).get? b=h'.get? b:=fun b hb=>Heap.get?_update_other _ _ (Ne.symm hb)
 have n1:(h'.update a fun _=>oa).Ns1 dx (fun z=>if z=f then some u else none):=n'.at fun o z=>(g2 dx hne).trans z
 have I3:=I2.laid (a:=dx) (o:=.xd [(f,y)]) (h':=h'.update a fun _=>oa) (t':=tk) (fun b w z=>by
  by_cases hb:b=a
  ·rw[hb]at z⊢;rw[g1];rw[hoa]at z;exact z
  ·rw[g2 b hb];exact kp b w hb z) hz ⟨_,n1,fun z=>by
   show RelO (List.lookup z [(f,y)]) _
   by_cases hzf:z=f
   ·subst hzf;simp;exact ry
   ·have:(z==f)=false:=by simpa using hzf
    simp[List.lookup,this,hzf];exact True.intro⟩
 have I4:=I3.write (x:=a) (e:=a) (o:=.ext (Zba a C (some dx))) (h':=h') (t':=tk) (by rw[Zr hne.symm,ea];exact True.intro) (.inl rfl) (fun b w hb z=>by rw[←g2 b hb];exact z) ⟨_,hob⟩ ⟨p',⟨_,hob⟩,Zla⟩
 exact⟨σ,_,I4,q2 dx hdx⟩
end
noncomputable def Zoi(EX:XK)(C:Addr)(sp:Sp)(t:TA):TS:=fun _ σ H=>t σ H fun vs H1=>vs.length≤sizeLine∧∀e,H1 e=none→sp (.ref e::vs) (upd H1 e (.ext (Zba e C none))) (fun v H2=>v= .non∧∃dx,H2 e=some (.ext (Zba e C dx))∧EX (.ref C) dx (drop H2 e)) E0
theorem Zoj{X:Cx}{EX:XK}{x:Str}{C fI:Addr}{fd:FuncData}{ps:List Str}{sp:Sp}{k:Nat}{np cpos pos:Pos}{a:Expr}{t:TA}(th:Zod X EX)(hc:X.calm=true)(hex:X.ex=[])(hm:X.mg x=some (.ref C))(oc:Zgy C fI X.base)(fn:PySem.W.isFn X.K (.ref fI)=true)(F:FnOk X.prog X.w X.K X.mg X.base CX0 k fI fd ps sp)(hr:Room (k+1) X.A)(hb:Za3 X.K fd ps [])(hg:Gl X x)(ha:PA X [a] t)
  (he:starEach [a] X.env=(false,eval a X.env)::starEach [] X.env:=by rfl) (hpl:((backTo cpos (starEach [a] X.env)).any fun x=>x.1)=false:=by rfl)
  (hbk:∃y rest,backTo cpos (starEach [a] X.env)=(false,y)::rest:=by exact⟨_,_,rfl⟩) (hd:(x==("__debug__":Str))=false:=by decide):PS X (.Raise (some (.Call (.Name x np) [a] [] cpos)) none pos) (Zoi EX C sp t):=by
 intro pins s σ H D I h
 obtain⟨bm,N,nm,q,bs,hdct,sn,sub,ab,col,dd,k0,k1,k2,k3,k5,mN,o1,o2,o3,o4⟩:=oc
 have hbm:bm.contains (.type "BaseException")=true:=o4.hasType (by decide)
 refine Zj0 (C:=C) (fI:=fI) (Bn:="ValueError") (B:="ValueError") (nm:=nm) (q:=q) (N:=N) (bs:=bs) (bm:=bm) (hdct:=hdct) (sn:=sn) (sub:=sub) (ab:=ab) (col:=col) (dd:=dd) (k0:=k0) (k1:=k1) (k2:=k2) (k3:=k3) (k5:=k5) (mN:=mN) PySem.F.excBase_ValueError (by decide) PySem.F.excBase_ValueError hbm (I.ok.hd hc) hpl o3 ?_
 refine Ze7 I hg hm ⟨rfl,?_⟩ hd
 obtain⟨y,rest,hy⟩:=hbk
 rw[hy]
 refine Calls.evalArgs_plain ?_
 rw[←hy]
 refine thn (ha cpos pins s σ H _ I h) fun us s2 ⟨vs,H2,I2,r2,zl,q2⟩=>⟨rfl,(by rw[←r2.length];exact zl),I2.bk _ _ o1,o2.keeps I2.bk,Zmn I2.bk o4,?_,fun h' e m hz=>?_⟩
 ·have fn':=beq_iff_eq.mp fn
  unfold PySem.W.typeIn at fn'
  obtain⟨oI,z1,z2⟩:=Option.map_eq_some_iff.mp fn'
  exact⟨oI,I2.kIn _ _ z1,z2⟩
 ·obtain⟨T,m1,m2,m3⟩:=m.there
  have hH:H2 e=none:=I2.hok.fresh hz
  have I3:Inv X pins σ (upd H2 e (.ext (Zba e C none))) {s2 with heap:=h'}:=I2.laid (t':=s2.toks) m.keeps hz ⟨⟨_,T,m1,rfl,rfl,rfl⟩,⟨_,m1⟩,Zla⟩
  have hq:=q2 e hH
  have rr:Vals (V.ref e::vs) (Value.ref e::us):=.cons rfl r2
  have hl:(Value.ref e::us++[]).length=ps.length:=by
   have z:=rr.length
   rw[F.len _ _ _ _ hq]at z
   rw[List.append_nil];exact z.symm
  have hb':=hb _ (Value.ref e::us) I3.kIn hl
  rw[List.append_nil]at hb'
  refine wpAny_call (codeAny_mono (F.run _ X.stack _ _ ⟨Value.ref e::us,[]⟩ (Value.ref e::us) _ _ E0 (hr.make C us []) (I3.env0.make C us []) hb' rr hq) fun r s' hq'=>?_)
  cases r with
  |error z=>exact False.elim hq'
  |ok fl=>
   cases fl with
   |ret u=>
    obtain⟨v,H',I4,rv,ev,dx,hE,q3⟩:=I3.after hq'
    subst ev
    obtain⟨oe,te,e1,e2,e3,e4⟩:=(I4.hok e _ hE).1
    refine⟨rv,I4.bk _ _ o1,⟨oe,e1,e2,_,e4,rfl⟩,?_⟩
    refine th pins σ (drop H' e) s' e (.ref C) dx none (I4.untrack hE) ⟨⟨oe,_,e1,e2,e3,e4,rfl⟩,fun T' z=>nomatch z⟩ ?_ Zj1 (fun T' z=>nomatch z) q3
    cases z:X.s₀.heap.get? e with
    |none=>rfl
    |some o=>
     obtain⟨o',z'⟩:=I2.base.there e o z (by rw[hex];simp)
     rw[m.new]at z';cases z'
   |next=>exact False.elim hq'
   |brk=>exact False.elim hq'
   |cont=>exact False.elim hq'
end L2
namespace DL
open PySem L2
variable{K:PySem.W.Frag}
inductive D where
 |non|bl (b:Bool)|int (i:Int)|str (x:Str)
 |tup (xs:List D)|lst (xs:List D)
 |dK (ks:List Key) (vs:List D)|dT (ks:List (List Key)) (vs:List D)
 |exc (c:Str) (ks:List Str) (vs:List D)
noncomputable def Zbu(K:PySem.W.Frag)(c:Str)(C:Addr):Prop:=PySem.W.nsIn K mainGlobals c=some (some (.ref C))
noncomputable def KB(F:Hp)(kvs:List (List Key×V))(bs:List Addr):Prop:=Paired (fun(p:List Key×V) (b:Addr)=>F b=some (.tup (p.1.map kV))) kvs bs
mutual
inductive Rep(K:PySem.W.Frag)(F:Hp):D→V→Prop where
 |non:Rep K F .non .non
 |bl (b:Bool):Rep K F (.bl b) (.bl b)
 |int (i:Int):Rep K F (.int i) (.int i)
 |str (x:Str):Rep K F (.str x) (.str x)
 |tup {a:Addr} {xs:List D} {vs:List V} (h:F a=some (.tup vs)) (r:Reps K F xs vs):Rep K F (.tup xs) (.ref a)
 |lst {a:Addr} {xs:List D} {vs:List V} (h:SqL K F a vs) (r:Reps K F xs vs):Rep K F (.lst xs) (.ref a)
 |dK {a:Addr} {ks:List Key} {ds:List D} {kvs:List (Key×V)} {ep:Nat} (h:F a=some (.dK kvs ep)) (e:kvs.map (·.1)=ks) (r:Reps K F ds (kvs.map (·.2))):Rep K F (.dK ks ds) (.ref a)
 |dT {a:Addr} {ks:List (List Key)} {ds:List D} {kvs:List (List Key×V)} {ep:Nat} {bs:List Addr} (h:F a=some (.dT kvs ep bs)) (kb:KB F kvs bs) (e:kvs.map (·.1)=ks) (r:Reps K F ds (kvs.map (·.2))):Rep K F (.dT ks ds) (.ref a)
 |exc {a C:Addr} {c:Str} (cl:Zbu K c C) (h:F a=some (.ext (Zbg a C none))):Rep K F (.exc c [] []) (.ref a)
 |exd {a C dx:Addr} {c:Str} {ks:List Str} {ds:List D} {fs:List (Str×V)} (cl:Zbu K c C) (h:F a=some (.ext (Zbg a C (some dx)))) (hx:F dx=some (.xd fs)) (e:fs.map (·.1)=ks) (r:Reps K F ds (fs.map (·.2))):Rep K F (.exc c ks ds) (.ref a)
inductive Reps(K:PySem.W.Frag)(F:Hp):List D→List V→Prop where
 |nil:Reps K F [] []
 |cons {d:D} {v:V} {ds:List D} {vs:List V} (h:Rep K F d v) (t:Reps K F ds vs):Reps K F (d::ds) (v::vs)
end
theorem KB.mono{F F':Hp}(s:Same F F'){kvs:List (List Key×V)}{bs:List Addr}(h:KB F kvs bs):KB F' kvs bs:=Paired.mapP h fun _ _ z=>s _ _ z
theorem Ztn{F F':Hp}(s:Same F F'){a:Addr}{u:HO}(h:Rd F a u):Rd F' a u:=by
 rcases h with h|⟨o,h⟩
 ·exact .inl (s _ _ h)
 ·exact .inr ⟨o,s _ _ h⟩
theorem Zay{F F':Hp}(s:Same F F'){a:Addr}{xs:List V}(h:SqL K F a xs):SqL K F' a xs:=by
 rcases h with h|h
 ·exact .inl (Ztn s h)
 ·exact .inr h
theorem Za9{F F':Hp}(s:Same F F'){a:Addr}{xs:List V}(h:SqT K F a xs):SqT K F' a xs:=by
 rcases h with h|h
 ·exact .inl (Ztn s h)
 ·exact .inr h
theorem Zgc{F:Hp}{a:Addr}{vs:List V}(h:F a=some (.tup vs)):SqT K F a vs:=.inl (.inl h)
mutual
theorem Rep.mono{F F':Hp}(s:Same F F'):∀{d:D} {v:V},Rep K F d v→Rep K F' d v
 |_,_,.non=>.non
 |_,_,.bl b=>.bl b
 |_,_,.int i=>.int i
 |_,_,.str x=>.str x
 |_,_,.tup h r=>.tup (s _ _ h) (Reps.mono s r)
 |_,_,.lst h r=>.lst (Zay s h) (Reps.mono s r)
 |_,_,.dK h e r=>.dK (s _ _ h) e (Reps.mono s r)
 |_,_,.dT h kb e r=>.dT (s _ _ h) (kb.mono s) e (Reps.mono s r)
 |_,_,.exc cl h=>.exc cl (s _ _ h)
 |_,_,.exd cl h hx e r=>.exd cl (s _ _ h) (s _ _ hx) e (Reps.mono s r)
theorem Reps.mono{F F':Hp}(s:Same F F'):∀{ds:List D} {vs:List V},Reps K F ds vs→Reps K F' ds vs
 |_,_,.nil=>.nil
 |_,_,.cons h t=>.cons (Rep.mono s h) (Reps.mono s t)
end
theorem Reps.length{F:Hp}{ds:List D}:∀{vs:List V},Reps K F ds vs→ds.length=vs.length:=by
 induction ds with
 |nil=>intro vs h;cases h;rfl
 |cons d ds ih=>
  intro vs h
  cases h with
  |cons _ t=>rw[List.length_cons,List.length_cons,ih t]
theorem Reps.append{F:Hp}{ds es:List D}{vs us:List V}(h:Reps K F ds vs)(q:Reps K F es us):Reps K F (ds++es) (vs++us):=by
 induction ds generalizing vs with
 |nil=>cases h;exact q
 |cons d ds ih=>
  cases h with
  |cons h t=>exact .cons h (ih t)
theorem Reps.snoc{F:Hp}{ds:List D}{vs:List V}{d:D}{v:V}(r:Reps K F ds vs)(h:Rep K F d v):Reps K F (ds++[d]) (vs++[v]):=r.append (.cons h .nil)
theorem Reps.get{F:Hp}:∀{ds:List D} {vs:List V} {i:Nat} {d:D},Reps K F ds vs→ds[i]? =some d→∃v,vs[i]? =some v∧Rep K F d v
 |_,_,_,_,.nil,e=>by simp at e
 |_,_,0,_,.cons h t,e=>by simp at e;subst e;exact⟨_,rfl,h⟩
 |_,_,i+1,d,.cons h t,e=>by
  obtain⟨v,h1,h2⟩:=Reps.get (i:=i) (d:=d) t (by simpa using e)
  exact⟨v,by simpa using h1,h2⟩
theorem Reps.take{F:Hp}:∀{ds:List D} {vs:List V} (n:Nat),Reps K F ds vs→Reps K F (ds.take n) (vs.take n)
 |_,_,0,_=>.nil
 |_,_,_+1,.nil=>.nil
 |_,_,n+1,.cons h t=>.cons h (t.take n)
theorem Reps.drop{F:Hp}:∀{ds:List D} {vs:List V} (n:Nat),Reps K F ds vs→Reps K F (ds.drop n) (vs.drop n)
 |_,_,0,r=>r
 |_,_,_+1,.nil=>.nil
 |_,_,n+1,.cons h t=>t.drop n
inductive SV where
 |fz (d:D)|ol (xs:List D)|oK (ks:List Key) (vs:List D)|oT (ks:List (List Key)) (vs:List D)|oN (ks:List Key) (xss:List (List D))|oL (pin:Option Addr) (xss:List (List D))
@[simp] noncomputable def SV.toD:SV→D
 | .fz d=>d
 | .ol xs=>.lst xs
 | .oK ks vs=>.dK ks vs
 | .oT ks vs=>.dT ks vs
 | .oN ks xss=>.dK ks (xss.map D.lst)
 | .oL _ xss=>.lst (xss.map D.lst)
noncomputable abbrev Zw:=List (Addr×HO)
inductive Kids(K:PySem.W.Frag)(F:Hp):List (List D)→List V→Zw→Prop where
 |nil:Kids K F [] [] []
 |cons {xs:List D} {xss:List (List D)} {b:Addr} {vs:List V} {ws:List V} {ns:Zw} (r:Reps K F xs vs) (t:Kids K F xss ws ns):Kids K F (xs::xss) (.ref b::ws) ((b,.lst vs)::ns)
inductive Shape(K:PySem.W.Frag)(F:Hp):SV→V→Zw→Prop where
 |fz {d:D} {v:V} (h:Rep K F d v):Shape K F (.fz d) v []
 |ol {a:Addr} {xs:List D} {vs:List V} (r:Reps K F xs vs):Shape K F (.ol xs) (.ref a) [(a,.lst vs)]
 |oK {a:Addr} {ks:List Key} {ds:List D} {kvs:List (Key×V)} {ep:Nat} (e:kvs.map (·.1)=ks) (r:Reps K F ds (kvs.map (·.2))):Shape K F (.oK ks ds) (.ref a) [(a,.dK kvs ep)]
 |oT {a:Addr} {ks:List (List Key)} {ds:List D} {kvs:List (List Key×V)} {ep:Nat} {bs:List Addr} (kb:KB F kvs bs) (e:kvs.map (·.1)=ks) (r:Reps K F ds (kvs.map (·.2))):Shape K F (.oT ks ds) (.ref a) [(a,.dT kvs ep bs)]
 |oN {a:Addr} {ks:List Key} {xss:List (List D)} {kvs:List (Key×V)} {ns:Zw} {ep:Nat} (e:kvs.map (·.1)=ks) (r:Kids K F xss (kvs.map (·.2)) ns):Shape K F (.oN ks xss) (.ref a) ((a,.dK kvs ep)::ns)
 |oL {pin:Option Addr} {a:Addr} {xss:List (List D)} {ws:List V} {ns:Zw} (hp:∀b,pin=some b→b=a) (r:Kids K F xss ws ns):Shape K F (.oL pin xss) (.ref a) ((a,.lst ws)::ns)
theorem Kids.mono{F F':Hp}(s:Same F F'){xss:List (List D)}{ws:List V}{ns:Zw}(h:Kids K F xss ws ns):Kids K F' xss ws ns:=by
 induction h with
 |nil=>exact .nil
 |cons r _ ih=>exact .cons (r.mono s) ih
theorem Shape.mono{F F':Hp}(s:Same F F'){sv:SV}{v:V}{ns:Zw}(h:Shape K F sv v ns):Shape K F' sv v ns:=by
 cases h with
 |fz h=>exact .fz (h.mono s)
 |ol r=>exact .ol (r.mono s)
 |oK e r=>exact .oK e (r.mono s)
 |oT kb e r=>exact .oT (kb.mono s) e (r.mono s)
 |oN e r=>exact .oN e (r.mono s)
 |oL hp r=>exact .oL hp (r.mono s)
noncomputable def addL(F:Hp):Zw→Hp
 | []=>F
 |p::r=>upd (addL F r) p.1 p.2
noncomputable abbrev adr(ns:Zw):List Addr:=ns.map (·.1)
theorem Zc6{F:Hp}{b:Addr}:∀{ns:Zw},b∉adr ns→addL F ns b=F b
 | [],_=>rfl
 |p::r,h=>by
  have h1:b≠p.1:=fun e=>h (by rw[e];exact List.mem_cons_self)
  have h2:b∉adr r:=fun e=>h (List.mem_cons_of_mem _ e)
  show upd (addL F r) p.1 p.2 b=F b
  rw[Zr h1,Zc6 h2]
theorem Zgz{F:Hp}{p:Addr×HO}:∀{ns:Zw},(adr ns).Nodup→p∈ns→addL F ns p.1=some p.2
 | [],_,h=>nomatch h
 |q::r,nd,h=>by
  obtain⟨n1,n2⟩:=List.nodup_cons.mp nd
  show upd (addL F r) q.1 q.2 p.1=some p.2
  rcases List.mem_cons.mp h with e|e
  ·subst e;exact Zy
  ·rw[Zr fun z=>n1 (List.mem_map.mpr ⟨p,e,z⟩)]
   exact Zgz n2 e
theorem Zav{F:Hp}{ns:Zw}(h:∀p∈ns,F p.1=none):Same F (addL F ns):=fun b o e=>by
 by_cases hb:b∈adr ns
 ·obtain⟨p,hp,ep⟩:=List.mem_map.mp hb
  subst ep
  rw[h p hp]at e;cases e
 ·rw[Zc6 hb];exact e
theorem Zok{F H:Hp}{ns:Zw}(nd:(adr ns).Nodup)(le:Same F H)(h:∀p∈ns,H p.1=some p.2):Same (addL F ns) H:=fun b o e=>by
 by_cases hb:b∈adr ns
 ·obtain⟨p,hp,ep⟩:=List.mem_map.mp hb
  subst ep
  rw[Zgz nd hp]at e
  cases e
  exact h p hp
 ·rw[Zc6 hb]at e;exact le b o e
theorem Zlb{Z:Hp×Hp}{F:Hp}{ns:Zw}(nd:(adr ns).Nodup)(fro:∀(b:Addr) (o:HO),F b=some o→Z.2 b=some o∨Z.1 b=none)(hz:∀p∈ns,Z.1 p.1=none):∀(b:Addr) (o:HO),addL F ns b=some o→Z.2 b=some o∨Z.1 b=none:=fun b o e=>by
 by_cases hb:b∈adr ns
 ·obtain⟨p,hp,ep⟩:=List.mem_map.mp hb
  subst ep
  exact .inr (hz p hp)
 ·rw[Zc6 hb]at e;exact fro b o e
theorem Kids.rep{F F':Hp}(s:Same F F'):∀{xss:List (List D)} {ws:List V} {ns:Zw},Kids K F xss ws ns→(∀p∈ns,F' p.1=some p.2)→Reps K F' (xss.map D.lst) ws
 |_,_,_,.nil,_=>.nil
 |_,_,_,.cons r t,h=>.cons (.lst (.inl (.inl (h _ List.mem_cons_self))) (r.mono s)) (t.rep s fun p hp=>h p (List.mem_cons_of_mem _ hp))
theorem Shape.rep{F:Hp}{sv:SV}{v:V}{ns:Zw}(h:Shape K F sv v ns)(nd:(adr ns).Nodup)(hn:∀p∈ns,F p.1=none):Rep K (addL F ns) sv.toD v:=by
 have s:=Zav hn
 have a:∀p∈ns,addL F ns p.1=some p.2:=fun p hp=>Zgz nd hp
 cases h with
 |fz h=>exact h
 |ol r=>exact .lst (.inl (.inl (a (_,_) List.mem_cons_self))) (r.mono s)
 |oK e r=>exact .dK (a (_,_) List.mem_cons_self) e (r.mono s)
 |oT kb e r=>exact .dT (a (_,_) List.mem_cons_self) (kb.mono s) e (r.mono s)
 |oN e r=>exact .dK (a (_,_) List.mem_cons_self) e (r.rep s fun p hp=>a p (List.mem_cons_of_mem _ hp))
 |oL _ r=>exact .lst (.inl (.inl (a (_,_) List.mem_cons_self))) (r.rep s fun p hp=>a p (List.mem_cons_of_mem _ hp))
noncomputable abbrev DSt:=List (Option SV)
set_option genInjectivity false in
structure Ent(K:PySem.W.Frag)where
 h:Hp
 f:Hp
 x:EXT
noncomputable abbrev ent(H F:Hp):Ent K:=⟨H,F,fun _ _ _ _=>False⟩
set_option genInjectivity false in
structure Exn where
 c:Str
 ks:List Str:=[]
 vs:List D:=[]
noncomputable def Zlc(K:PySem.W.Frag)(F:Hp)(e:Exn)(cls:Value)(od:Option Addr):Prop:=∃C,Zbu K e.c C∧cls= .ref C∧match od with
 |none=>e.ks=[]∧e.vs=[]
 |some dx=>∃fs:List (Str×V),F dx=some (.xd fs)∧fs.map (·.1)=e.ks∧Reps K F e.vs (fs.map (·.2))
structure SR(Z:Ent K)(F H:Hp)(σ:St)(δ:DSt)(own:Nat→Zw):Prop where
 le:Same F H
 fro:∀(b:Addr) (o:HO),F b=some o→Z.f b=some o∨Z.h b=none
 old:Same Z.h H
 len:σ.length=δ.length
 at':∀(i:Nat) (sv:SV),δ[i]? =some (some sv)→∃v,σ[i]? =some (some v)∧Shape K F sv v (own i)
 nod:∀i:Nat,(adr (own i)).Nodup
 ok:∀(i:Nat) (p:Addr×HO),p∈own i→F p.1=none∧Z.h p.1=none∧H p.1=some p.2
 sep:∀(i j:Nat) (p q:Addr×HO),i≠j→p∈own i→q∈own j→p.1≠q.1
inductive RV where
 |tmp (sv:SV)|bw (i:Nat)
structure TmpOk(Z:Ent K)(F H:Hp)(own:Nat→Zw)(sv:SV)(v:V)(ns:Zw):Prop where
 sh:Shape K F sv v ns
 nd:(adr ns).Nodup
 ok:∀p∈ns,F p.1=none∧Z.h p.1=none∧H p.1=some p.2
 sep:∀(i:Nat) (p q:Addr×HO),p∈ns→q∈own i→p.1≠q.1
noncomputable def Zol(Z:Ent K)(F H:Hp)(σ:St)(own:Nat→Zw):RV→V→Prop
 | .tmp sv,v=>∃ns,TmpOk Z F H own sv v ns
 | .bw i,v=>σ[i]? =some (some v)
theorem TmpOk.fz{Z:Ent K}{F H:Hp}{own:Nat→Zw}{d:D}{v:V}(h:Rep K F d v):TmpOk Z F H own (.fz d) v []:=
 ⟨.fz h,List.nodup_nil,fun _ h=>(nomatch h),fun _ _ _ h=>(nomatch h)⟩
theorem Zbr{H:Hp}{p:Addr}{o:HO}(h:H p=none):Same H (upd H p o):=fun b u e=>by
 rw[Zr fun z=>by rw[z,h]at e;cases e];exact e
theorem SR.grow{Z:Ent K}{F H H':Hp}{σ:St}{δ:DSt}{own:Nat→Zw}(s:SR Z F H σ δ own)(h:Same H H'):SR Z F H' σ δ own:=
 ⟨s.le.trans h,s.fro,s.old.trans h,s.len,s.at',s.nod,fun i p hp=>let⟨a,b,c⟩:=s.ok i p hp;⟨a,b,h _ _ c⟩,s.sep⟩
theorem SR.addF{Z:Ent K}{F H:Hp}{σ:St}{δ:DSt}{own:Nat→Zw}{ns:Zw}(s:SR Z F H σ δ own)(nd:(adr ns).Nodup)(hn:∀p∈ns,F p.1=none)(hH:∀p∈ns,H p.1=some p.2)(hz:∀p∈ns,Z.h p.1=none)
  (hs:∀(i:Nat) (p q:Addr×HO),p∈ns→q∈own i→p.1≠q.1):SR Z (addL F ns) H σ δ own:=by
 have sm:=Zav hn
 refine⟨Zok nd s.le hH,Zlb (Z:=(Z.h,Z.f)) nd s.fro hz,s.old,s.len,fun i sv e=>?_,s.nod,fun i p hp=>?_,s.sep⟩
 ·obtain⟨v,h1,h2⟩:=s.at' i sv e
  exact⟨v,h1,h2.mono sm⟩
 ·obtain⟨a,b,c⟩:=s.ok i p hp
  refine⟨?_,b,c⟩
  rw[Zc6 fun hb=>?_]
  ·exact a
  ·obtain⟨q,hq,e⟩:=List.mem_map.mp hb
   exact hs i q p hq hp e
theorem SR.settle{Z:Ent K}{F H:Hp}{σ:St}{δ:DSt}{own:Nat→Zw}{sv:SV}{v:V}{ns:Zw}(s:SR Z F H σ δ own)(t:TmpOk Z F H own sv v ns):
  ∃F1,Same F F1∧SR Z F1 H σ δ own∧Rep K F1 sv.toD v:=
 ⟨addL F ns,Zav fun p hp=>(t.ok p hp).1,s.addF t.nd (fun p hp=>(t.ok p hp).1) (fun p hp=>(t.ok p hp).2.2) (fun p hp=>(t.ok p hp).2.1) t.sep,t.sh.rep t.nd fun p hp=>(t.ok p hp).1⟩
noncomputable def put(own:Nat→Zw)(i:Nat)(ns:Zw):Nat→Zw:=fun j=>if j=i then ns else own j
theorem Z5{own:Nat→Zw}{i:Nat}{ns:Zw}:put own i ns i=ns:=if_pos rfl
theorem Zan{own:Nat→Zw}{i j:Nat}{ns:Zw}(h:j≠i):put own i ns j=own j:=if_neg h
theorem SR.freeze{Z:Ent K}{F H:Hp}{σ:St}{δ:DSt}{own:Nat→Zw}{i:Nat}{sv:SV}(s:SR Z F H σ δ own)(e:δ[i]? =some (some sv)):
  ∃F1 v,Same F F1∧σ[i]? =some (some v)∧Rep K F1 sv.toD v∧SR Z F1 H σ (δ.set i (some (.fz sv.toD))) (put own i []):=by
 obtain⟨v,h1,h2⟩:=s.at' i sv e
 have hn:∀p∈own i,F p.1=none:=fun p hp=>(s.ok i p hp).1
 have sm:=Zav hn
 have hi:i<δ.length:=(List.getElem?_eq_some_iff.mp e).1
 refine⟨addL F (own i),v,sm,h1,h2.rep (s.nod i) hn,⟨Zok (s.nod i) s.le fun p hp=>(s.ok i p hp).2.2,Zlb (Z:=(Z.h,Z.f)) (s.nod i) s.fro fun p hp=>(s.ok i p hp).2.1,s.old,by rw[List.length_set];exact s.len,fun j sw ej=>?_,fun j=>?_,fun j p hp=>?_,fun j k p q hjk hp hq=>?_⟩⟩
 ·by_cases hj:j=i
  ·subst hj
   rw[List.getElem?_set_self hi]at ej
   cases ej
   rw[Z5]
   exact⟨v,h1,.fz (h2.rep (s.nod j) hn)⟩
  ·rw[List.getElem?_set_ne (Ne.symm hj)]at ej
   obtain⟨w,g1,g2⟩:=s.at' j sw ej
   rw[Zan hj]
   exact⟨w,g1,g2.mono sm⟩
 ·by_cases hj:j=i
  ·subst hj;rw[Z5];exact List.nodup_nil
  ·rw[Zan hj];exact s.nod j
 ·by_cases hj:j=i
  ·subst hj;rw[Z5]at hp;exact nomatch hp
  ·rw[Zan hj]at hp
   obtain⟨a,b,c⟩:=s.ok j p hp
   refine⟨?_,b,c⟩
   rw[Zc6 fun hb=>?_]
   ·exact a
   ·obtain⟨q,hq,z⟩:=List.mem_map.mp hb
    exact s.sep i j q p (Ne.symm hj) hq hp z
 ·by_cases hj:j=i
  ·subst hj;rw[Z5]at hp;exact nomatch hp
  ·by_cases hk:k=i
   ·subst hk;rw[Z5]at hq;exact nomatch hq
   ·rw[Zan hj]at hp
    rw[Zan hk]at hq
    exact s.sep j k p q hjk hp hq
theorem SR.store{Z:Ent K}{F H:Hp}{σ:St}{δ:DSt}{own:Nat→Zw}{i:Nat}{sv:SV}{v:V}{ns:Zw}(s:SR Z F H σ δ own)(t:TmpOk Z F H own sv v ns)(hi:i<σ.length):
  SR Z F H (σ.set i (some v)) (δ.set i (some sv)) (put own i ns):=by
 refine⟨s.le,s.fro,s.old,by rw[List.length_set,List.length_set];exact s.len,fun j sw ej=>?_,fun j=>?_,fun j p hp=>?_,fun j k p q hjk hp hq=>?_⟩
 ·by_cases hj:j=i
  ·subst hj
   have hd:j<δ.length:=by
    have:=(List.getElem?_eq_some_iff.mp ej).1
    simpa using this
   rw[List.getElem?_set_self hd]at ej
   cases ej
   rw[Z5,List.getElem?_set_self hi]
   exact⟨v,rfl,t.sh⟩
  ·rw[List.getElem?_set_ne (Ne.symm hj)]at ej
   rw[Zan hj,List.getElem?_set_ne (Ne.symm hj)]
   exact s.at' j sw ej
 ·by_cases hj:j=i
  ·subst hj;rw[Z5];exact t.nd
  ·rw[Zan hj];exact s.nod j
 ·by_cases hj:j=i
  ·subst hj;rw[Z5]at hp;exact t.ok p hp
  ·rw[Zan hj]at hp;exact s.ok j p hp
 ·by_cases hj:j=i
  ·subst hj
   rw[Z5]at hp
   rw[Zan (Ne.symm hjk)]at hq
   exact t.sep k p q hp hq
  ·by_cases hk:k=i
   ·subst hk
    rw[Z5]at hq
    rw[Zan hj]at hp
    exact Ne.symm (t.sep j q p hq hp)
   ·rw[Zan hj]at hp
    rw[Zan hk]at hq
    exact s.sep j k p q hjk hp hq
theorem SR.change{Z:Ent K}{F H:Hp}{σ:St}{δ:DSt}{own:Nat→Zw}{i:Nat}{sv sv':SV}{a:Addr}{o o':HO}{v:V}{ns':Zw}(s:SR Z F H σ δ own)(e:δ[i]? =some (some sv))(hv:σ[i]? =some (some v))
  (ha:(a,o)∈own i) (hs:Shape K F sv' v ns') (hns:∀p∈ns',p=(a,o')∨(p∈own i∧p.1≠a)) (nd:(adr ns').Nodup):SR Z F (upd H a o') σ (δ.set i (some sv')) (put own i ns'):=by
 obtain⟨fa,ha0,hHa⟩:=s.ok i (a,o) ha
 have hi:i<δ.length:=(List.getElem?_eq_some_iff.mp e).1
 refine⟨fun b u eb=>?_,s.fro,fun b u eb=>?_,by rw[List.length_set];exact s.len,fun j sw ej=>?_,fun j=>?_,fun j p hp=>?_,fun j k p q hjk hp hq=>?_⟩
 ·rw[Zr fun z=>by rw[z]at eb;rw[fa]at eb;cases eb];exact s.le b u eb
 ·rw[Zr fun z=>by rw[z]at eb;rw[ha0]at eb;cases eb];exact s.old b u eb
 ·by_cases hj:j=i
  ·subst hj
   rw[List.getElem?_set_self hi]at ej
   cases ej
   rw[Z5]
   exact⟨v,hv,hs⟩
  ·rw[List.getElem?_set_ne (Ne.symm hj)]at ej
   rw[Zan hj]
   exact s.at' j sw ej
 ·by_cases hj:j=i
  ·subst hj;rw[Z5];exact nd
  ·rw[Zan hj];exact s.nod j
 ·by_cases hj:j=i
  ·subst hj
   rw[Z5]at hp
   rcases hns p hp with z|⟨z,ne⟩
   ·subst z;exact⟨fa,ha0,Zy⟩
   ·obtain⟨x,y,w⟩:=s.ok j p z
    exact⟨x,y,by rw[Zr ne];exact w⟩
  ·rw[Zan hj]at hp
   obtain⟨x,y,w⟩:=s.ok j p hp
   exact⟨x,y,by rw[Zr (s.sep j i p (a,o) hj hp ha)];exact w⟩
 ·have own':∀r∈ns',∃r'∈own i,r.1=r'.1:=fun r hr=>by
   rcases hns r hr with z|⟨z,_⟩
   ·subst z;exact⟨(a,o),ha,rfl⟩
   ·exact⟨r,z,rfl⟩
  by_cases hj:j=i
  ·subst hj
   rw[Z5]at hp
   rw[Zan (Ne.symm hjk)]at hq
   obtain⟨r',hr',er⟩:=own' p hp
   rw[er]
   exact s.sep j k r' q hjk hr' hq
  ·by_cases hk:k=i
   ·subst hk
    rw[Z5]at hq
    rw[Zan hj]at hp
    obtain⟨r',hr',er⟩:=own' q hq
    rw[er]
    exact s.sep j k p r' hjk hp hr'
   ·rw[Zan hj]at hp
    rw[Zan hk]at hq
    exact s.sep j k p q hjk hp hq
end DL
namespace DL
open PySem L2
variable{K:PySem.W.Frag}
noncomputable abbrev FE:=DSt→Option (RV×DSt)
noncomputable abbrev FT:=DSt→Option (Bool×DSt)
noncomputable abbrev FA:=DSt→Option (List RV×DSt)
noncomputable abbrev FD:=DSt→Option (List D×DSt)
@[simp] noncomputable def SV.nested:SV→Bool
 | .oN _ _=>true
 | .oL _ _=>true
 |_=>false
@[simp] noncomputable def rdv:RV→DSt→Option D
 | .tmp sv,_=>some sv.toD
 | .bw i,δ=>(δ[i]?.join).bind fun sv=>if sv.nested then none else some sv.toD
@[simp] noncomputable def frz:RV→DSt→Option (D×DSt)
 | .tmp sv,δ=>some (sv.toD,δ)
 | .bw i,δ=>(δ[i]?.join).bind fun sv=>some (sv.toD,δ.set i (some (.fz sv.toD)))
theorem Zcp{δ:DSt}{i:Nat}{sv:SV}(h:δ[i]?.join=some sv):δ[i]? =some (some sv):=by
 cases e:δ[i]? with
 |none=>rw[e]at h;cases h
 |some o=>rw[e]at h;cases o with
  |none=>cases h
  |some s=>cases h;rfl
noncomputable def Ze(Z:Ent K)(f:FE):TE:=fun σ H Q=>∃F δ own rv δ',SR Z F H σ δ own∧f δ=some (rv,δ')∧
 ∀v H' F' own',Same H H'→Same F F'→SR Z F' H' σ δ' own'→Zol Z F' H' σ own' rv v→Q v H'
noncomputable def Zbb(Z:Ent K)(f:FT):TT:=fun σ H Q=>∃F δ own b δ',SR Z F H σ δ own∧f δ=some (b,δ')∧
 ∀H' F' own',Same H H'→Same F F'→SR Z F' H' σ δ' own'→Q b H'
noncomputable def RVS(K:PySem.W.Frag)(F:Hp)(σ:St):RV→V→Prop
 | .tmp sv,v=>Rep K F sv.toD v
 | .bw i,v=>σ[i]? =some (some v)
inductive RVSs(K:PySem.W.Frag)(F:Hp)(σ:St):List RV→List V→Prop where
 |nil:RVSs K F σ [] []
 |cons {rv:RV} {v:V} {rvs:List RV} {vs:List V} (h:RVS K F σ rv v) (t:RVSs K F σ rvs vs):RVSs K F σ (rv::rvs) (v::vs)
noncomputable def Zd9(Z:Ent K)(f:FA):TA:=fun σ H Q=>∃F δ own rvs δ',SR Z F H σ δ own∧f δ=some (rvs,δ')∧
 ∀vs H' F' own',Same H H'→Same F F'→SR Z F' H' σ δ' own'→RVSs K F' σ rvs vs→Q vs H'
noncomputable def Zbx(Z:Ent K)(f:FD):TA:=fun σ H Q=>∃F δ own ds δ',SR Z F H σ δ own∧f δ=some (ds,δ')∧
 ∀vs H' F' own',Same H H'→Same F F'→SR Z F' H' σ δ' own'→Reps K F' ds vs→Q vs H'
section
variable{Z:Ent K}{F H F' H':Hp}{σ:St}{δ δ':DSt}{own:Nat→Zw}{rv:RV}{v:V}{d:D}{Q:VK}
theorem RVS.mono(s:Same F F')(h:RVS K F σ rv v):RVS K F' σ rv v:=by
 cases rv with
 |tmp sv=>exact Rep.mono s h
 |bw i=>exact h
theorem SR.settleR(s:SR Z F H σ δ own)(h:Zol Z F H σ own rv v):∃F1,Same F F1∧SR Z F1 H σ δ own∧RVS K F1 σ rv v:=by
 cases rv with
 |tmp sv=>obtain⟨ns,t⟩:=h;exact s.settle t
 |bw i=>exact⟨F,Same.refl F,s,h⟩
theorem SR.frzR(s:SR Z F H σ δ own)(h:RVS K F σ rv v)(e:frz rv δ=some (d,δ')):∃F1 own1,Same F F1∧SR Z F1 H σ δ' own1∧Rep K F1 d v:=by
 cases rv with
 |tmp sv=>cases e;exact⟨F,own,Same.refl F,s,h⟩
 |bw i=>
  obtain⟨sv,e1,e2⟩:=Option.bind_eq_some_iff.mp e
  cases e2
  obtain⟨F1,w,h1,h2,h3,h4⟩:=s.freeze (Zcp e1)
  have h':σ[i]? =some (some v):=h
  rw[h']at h2;cases h2
  exact⟨F1,_,h1,h4,h3⟩
noncomputable def RepN(K:PySem.W.Frag)(F H:Hp)(d:D)(v:V):Prop:=∃sv ns,sv.toD=d∧sv.nested=false∧Shape K F sv v ns∧∀p∈ns,H p.1=some p.2
theorem RepN.of(h:Rep K F d v):RepN K F H d v:=⟨.fz d,[],rfl,rfl,.fz h,fun _ h=>nomatch h⟩
theorem SR.rd(s:SR Z F H σ δ own)(h:RVS K F σ rv v)(e:rdv rv δ=some d):RepN K F H d v:=by
 cases rv with
 |tmp sv=>cases e;exact RepN.of h
 |bw i=>
  obtain⟨sv,e1,e2⟩:=Option.bind_eq_some_iff.mp e
  cases hn:sv.nested with
  |true=>rw[hn]at e2;cases e2
  |false=>
   rw[hn]at e2
   cases e2
   obtain⟨w,h1,h2⟩:=s.at' i sv (Zcp e1)
   have h':σ[i]? =some (some v):=h
   rw[h']at h1;cases h1
   exact⟨sv,own i,rfl,hn,h2,fun p hp=>(s.ok i p hp).2.2⟩
inductive RepNs(K:PySem.W.Frag)(F H:Hp):List D→List V→Prop where
 |nil:RepNs K F H [] []
 |cons {d:D} {v:V} {ds:List D} {vs:List V} (h:RepN K F H d v) (t:RepNs K F H ds vs):RepNs K F H (d::ds) (v::vs)
theorem RepN.non(h:RepN K F H .non v):v= .non:=by
 obtain⟨sv,ns,e,n,sh,hp⟩:=h
 cases sh with
 |fz r=>cases e;cases r;rfl
 |ol r=>cases e
 |oK e' r=>cases e
 |oT kb e' r=>cases e
 |oN e' r=>cases n
 |oL _ r=>cases n
theorem RepN.bl{b:Bool}(h:RepN K F H (.bl b) v):v= .bl b:=by
 obtain⟨sv,ns,e,n,sh,hp⟩:=h
 cases sh with
 |fz r=>cases e;cases r;rfl
 |ol r=>cases e
 |oK e' r=>cases e
 |oT kb e' r=>cases e
 |oN e' r=>cases n
 |oL _ r=>cases n
theorem RepN.int{i:Int}(h:RepN K F H (.int i) v):v= .int i:=by
 obtain⟨sv,ns,e,n,sh,hp⟩:=h
 cases sh with
 |fz r=>cases e;cases r;rfl
 |ol r=>cases e
 |oK e' r=>cases e
 |oT kb e' r=>cases e
 |oN e' r=>cases n
 |oL _ r=>cases n
theorem RepN.str{x:Str}(h:RepN K F H (.str x) v):v= .str x:=by
 obtain⟨sv,ns,e,n,sh,hp⟩:=h
 cases sh with
 |fz r=>cases e;cases r;rfl
 |ol r=>cases e
 |oK e' r=>cases e
 |oT kb e' r=>cases e
 |oN e' r=>cases n
 |oL _ r=>cases n
theorem RepN.tup{xs:List D}(le:Same F H)(h:RepN K F H (.tup xs) v):∃a vs,v= .ref a∧SqT K H a vs∧Reps K F xs vs:=by
 obtain⟨sv,ns,e,n,sh,hp⟩:=h
 cases sh with
 |fz r=>cases e;cases r with|tup h r=>exact⟨_,_,rfl,Za9 le (Zgc h),r⟩
 |ol r=>cases e
 |oK e' r=>cases e
 |oT kb e' r=>cases e
 |oN e' r=>cases n
 |oL _ r=>cases n
theorem RepN.lst{xs:List D}(le:Same F H)(h:RepN K F H (.lst xs) v):∃a vs,v= .ref a∧SqL K H a vs∧Reps K F xs vs:=by
 obtain⟨sv,ns,e,n,sh,hp⟩:=h
 cases sh with
 |fz r=>cases e;cases r with|lst h r=>exact⟨_,_,rfl,Zay le h,r⟩
 |ol r=>cases e;exact⟨_,_,rfl,.inl (.inl (hp _ List.mem_cons_self)),r⟩
 |oK e' r=>cases e
 |oT kb e' r=>cases e
 |oN e' r=>cases n
 |oL _ r=>cases n
theorem RepN.dK{ks:List Key}{ds:List D}(le:Same F H)(h:RepN K F H (.dK ks ds) v):∃a kvs,v= .ref a∧HK H a kvs∧kvs.map (·.1)=ks∧Reps K F ds (kvs.map (·.2)):=by
 obtain⟨sv,ns,e,n,sh,hp⟩:=h
 cases sh with
 |fz r=>cases e;cases r with|dK h e r=>exact⟨_,_,rfl,⟨_,le _ _ h⟩,e,r⟩
 |ol r=>cases e
 |oK e' r=>cases e;exact⟨_,_,rfl,⟨_,hp _ List.mem_cons_self⟩,e',r⟩
 |oT kb e' r=>cases e
 |oN e' r=>cases n
 |oL _ r=>cases n
theorem RepN.dT{ks:List (List Key)}{ds:List D}(le:Same F H)(h:RepN K F H (.dT ks ds) v):∃a kvs,v= .ref a∧HTt H a kvs∧kvs.map (·.1)=ks∧Reps K F ds (kvs.map (·.2)):=by
 obtain⟨sv,ns,e,n,sh,hp⟩:=h
 cases sh with
 |fz r=>cases e;cases r with|dT h kb e r=>exact⟨_,_,rfl,⟨_,_,le _ _ h⟩,e,r⟩
 |ol r=>cases e
 |oK e' r=>cases e
 |oT kb e' r=>cases e;exact⟨_,_,rfl,⟨_,_,hp _ List.mem_cons_self⟩,e',r⟩
 |oN e' r=>cases n
 |oL _ r=>cases n
end
theorem nd1{a:Addr}:([a]:List Addr).Nodup:=List.nodup_cons.mpr ⟨fun h=>(nomatch h),List.nodup_nil⟩
noncomputable def Fin(Z:Ent K)(F H:Hp)(σ:St)(δ:DSt)(own:Nat→Zw)(sv:SV)(Q:VK):Prop:=
 ∀v H' F' ns,Same H H'→Same F F'→SR Z F' H' σ δ own→TmpOk Z F' H' own sv v ns→Q v H'
section
variable{Z:Ent K}{F H:Hp}{σ:St}{δ:DSt}{own:Nat→Zw}{Q:VK}
theorem Fin.fz{d:D}{v:V}(f:Fin Z F H σ δ own (.fz d) Q)(s:SR Z F H σ δ own)(h:Rep K F d v):Q v H:=f v H F [] (Same.refl H) (Same.refl F) s (.fz h)
theorem Fin.one{sv:SV}{o:HO}{p:Addr}(f:Fin Z F H σ δ own sv Q)(s:SR Z F H σ δ own)(sh:Shape K F sv (.ref p) [(p,o)])(hp:H p=none):Q (.ref p) (upd H p o):=by
 have sm:=Zbr (o:=o) hp
 refine f (.ref p) (upd H p o) F [(p,o)] sm (Same.refl F) (s.grow sm) ⟨sh,nd1,fun q hq=>?_,fun i q r hq hr=>?_⟩
 ·obtain rfl:=List.mem_singleton.mp hq
  exact⟨s.le.free hp,s.old.free hp,Zy⟩
 ·obtain rfl:=List.mem_singleton.mp hq
  intro e
  have e':p=r.1:=e
  have z:=(s.ok i r hr).2.2
  rw[←e',hp]at z;cases z
theorem Fin.lst{xs:List D}{vs:List V}{p:Addr}(f:Fin Z F H σ δ own (.ol xs) Q)(s:SR Z F H σ δ own)(r:Reps K F xs vs)(hp:H p=none):Q (.ref p) (upd H p (.lst vs)):=f.one s (.ol r) hp
theorem Fin.tup{xs:List D}{vs:List V}{p:Addr}(f:Fin Z F H σ δ own (.fz (.tup xs)) Q)(s:SR Z F H σ δ own)(r:Reps K F xs vs)(hp:H p=none):Q (.ref p) (upd H p (.tup vs)):=by
 have sm:=Zbr (o:=.tup vs) hp
 have sF:Same F (addL F [(p,.tup vs)]):=Zav fun q hq=>by obtain rfl:=List.mem_singleton.mp hq;exact s.le.free hp
 refine f (.ref p) (upd H p (.tup vs)) (addL F [(p,.tup vs)]) [] sm sF ?_ (.fz (.tup Zy (r.mono sF)))
 refine(s.grow sm).addF (nd1) (fun q hq=>?_) (fun q hq=>?_) (fun q hq=>?_) fun i q u hq hu=>?_
 ·obtain rfl:=List.mem_singleton.mp hq;exact s.le.free hp
 ·obtain rfl:=List.mem_singleton.mp hq;exact Zy
 ·obtain rfl:=List.mem_singleton.mp hq;exact s.old.free hp
 ·obtain rfl:=List.mem_singleton.mp hq
  intro e
  have e':p=u.1:=e
  have z:=(s.ok i u hu).2.2
  rw[←e',hp]at z;cases z
end
theorem Zb9{F:Hp}{d:D}{v:V}{ns:Zw}(h:Shape K F (.fz d) v ns):Rep K F d v:=by
 cases h with
 |fz r=>exact r
section
variable{Z:Ent K}{H:Hp}{σ:St}{Q:VK}
@[simp] noncomputable def Zb(i:Nat):FE:=fun δ=>match δ[i]? with
 |some (some (.fz d))=>some (.tmp (.fz d),δ)
 |some (some _)=>some (.bw i,δ)
 |_=>none
theorem Z2g{i:Nat}(h:Ze Z (Zb i) σ H Q):tVar i σ H Q:=by
 obtain⟨F,δ,own,rv,δ',s,e,k⟩:=h
 unfold Zb at e
 split at e
 ·rename_i d hd
  cases e
  obtain⟨v,h1,h2⟩:=s.at' i _ hd
  exact⟨v,h1,k v H F own (Same.refl H) (Same.refl F) s ⟨[],.fz (Zb9 h2)⟩⟩
 ·rename_i sv hsv hd
  cases e
  obtain⟨v,h1,h2⟩:=s.at' i _ hd
  exact⟨v,h1,k v H F own (Same.refl H) (Same.refl F) s h1⟩
 ·cases e
@[simp] noncomputable def Za(d:D):FE:=fun δ=>some (.tmp (.fz d),δ)
theorem Zea{d:D}{v:V}(hr:∀F,Rep K F d v)(h:Ze Z (Za d) σ H Q):tC v σ H Q:=by
 obtain⟨F,δ,own,rv,δ',s,e,k⟩:=h
 cases e
 exact k v H F own (Same.refl H) (Same.refl F) s ⟨[],.fz (hr F)⟩
@[simp] noncomputable def Zj:FA:=fun δ=>some ([],δ)
@[simp] noncomputable def Zd(fe:FE)(fa:FA):FA:=fun δ=>(fe δ).bind fun p=>(fa p.2).bind fun q=>some (p.1::q.1,q.2)
theorem Zrp{R:List V→Hp→Prop}(h:Zd9 Z Zj σ H R):tNil σ H R:=by
 obtain⟨F,δ,own,rvs,δ',s,e,k⟩:=h
 cases e
 exact k [] H F own (Same.refl H) (Same.refl F) s .nil
theorem Zom{fe:FE}{fa:FA}{R:List V→Hp→Prop}(h:Zd9 Z (Zd fe fa) σ H R):Zjr (Ze Z fe) (Zd9 Z fa) σ H R:=by
 obtain⟨F,δ,own,rvs,δ',s,e,k⟩:=h
 obtain⟨⟨rv,δ1⟩,e1,e2⟩:=Option.bind_eq_some_iff.mp e
 obtain⟨⟨rr,δ2⟩,e3,e4⟩:=Option.bind_eq_some_iff.mp e2
 cases e4
 refine⟨F,δ,own,rv,δ1,s,e1,fun v H1 F1 own1 sH sF s1 r1=>?_⟩
 obtain⟨F2,sF2,s2,r2⟩:=s1.settleR r1
 exact⟨F2,δ1,own1,rr,δ2,s2,e3,fun vs H3 F3 own3 sH3 sF3 s3 r3=>k _ H3 F3 own3 (sH.trans sH3) (sF.trans (sF2.trans sF3)) s3 (.cons (r2.mono sF3) r3)⟩
@[simp] noncomputable def Zdj:List RV→DSt→Option (List D)
 | [],_=>some []
 |rv::r,δ=>(rdv rv δ).bind fun d=>(Zdj r δ).bind fun ds=>some (d::ds)
theorem SR.rdAll{F:Hp}{δ:DSt}{own:Nat→Zw}(s:SR Z F H σ δ own):∀{rvs:List RV} {vs:List V} {ds:List D},RVSs K F σ rvs vs→Zdj rvs δ=some ds→RepNs K F H ds vs
 |_,_,_,.nil,e=>by cases e;exact .nil
 |_,_,_,.cons h t,e=>by
  obtain⟨d,e1,e2⟩:=Option.bind_eq_some_iff.mp e
  obtain⟨ds,e3,e4⟩:=Option.bind_eq_some_iff.mp e2
  cases e4
  exact .cons (s.rd h e1) (s.rdAll t e3)
@[simp] noncomputable def Zcl(g:List D→Option SV)(fa:FA):FE:=fun δ=>(fa δ).bind fun p=>(Zdj p.1 p.2).bind fun ds=>(g ds).bind fun sv=>some (.tmp sv,p.2)
noncomputable def Zg0(Z:Ent K)(r:List V→Hp→VK→Prop)(g:List D→Option SV):Prop:=
 ∀(F H:Hp) (σ:St) (δ:DSt) (own:Nat→Zw) (vs:List V) (ds:List D) (sv:SV) (Q:VK),SR Z F H σ δ own→RepNs K F H ds vs→g ds=some sv→Fin Z F H σ δ own sv Q→r vs H Q
theorem Zon{r:List V→Hp→VK→Prop}{g:List D→Option SV}{fa:FA}(hg:Zg0 Z r g)(h:Ze Z (Zcl g fa) σ H Q):tCB r (Zd9 Z fa) σ H Q:=by
 obtain⟨F,δ,own,rv,δ',s,e,k⟩:=h
 obtain⟨⟨rvs,δ1⟩,e1,e2⟩:=Option.bind_eq_some_iff.mp e
 obtain⟨ds,e3,e4⟩:=Option.bind_eq_some_iff.mp e2
 obtain⟨sv,e5,e6⟩:=Option.bind_eq_some_iff.mp e4
 cases e6
 refine⟨F,δ,own,rvs,δ1,s,e1,fun vs H1 F1 own1 sH sF s1 r1=>?_⟩
 exact hg F1 H1 σ δ1 own1 vs ds sv Q s1 (s1.rdAll r1 e3) e5 fun v H2 F2 ns sH2 sF2 s2 t=>k v H2 F2 own1 (sH.trans sH2) (sF.trans sF2) s2 ⟨ns,t⟩
@[simp] noncomputable def g2(g:D→D→Option SV):List D→Option SV
 | [x,y]=>g x y
 |_=>none
@[simp] noncomputable def binF(g:D→D→Option SV)(fa fb:FE):FE:=Zcl (g2 g) (Zd fa (Zd fb Zj))
noncomputable def Zaq(Z:Ent K)(r:R2)(g:D→D→Option SV):Prop:=
 ∀(F H:Hp) (σ:St) (δ:DSt) (own:Nat→Zw) (x y:V) (d1 d2:D) (sv:SV) (Q:VK),SR Z F H σ δ own→RepN K F H d1 x→RepN K F H d2 y→g d1 d2=some sv→Fin Z F H σ δ own sv Q→r x y H Q
theorem Zoo{r:R2}{g:D→D→Option SV}{fa fb:FE}(hg:Zaq Z r g)(h:Ze Z (binF g fa fb) σ H Q):tOp r (Ze Z fa) (Ze Z fb) σ H Q:=by
 have hN:Zg0 Z (fun vs H Q=>∃x y,vs=[x,y]∧r x y H Q) (g2 g):=by
  intro F H σ δ own vs ds sv Q s rs e f
  cases rs with
  |nil=>cases e
  |cons h1 t1=>
   cases t1 with
   |nil=>cases e
   |cons h2 t2=>
    cases t2 with
    |nil=>exact⟨_,_,rfl,hg F H σ δ own _ _ _ _ sv Q s h1 h2 e f⟩
    |cons h3 t3=>cases e
 obtain⟨F,δ,own,rv,δ',s,e,k⟩:=Zon hN h
 obtain⟨⟨rv1,δ1⟩,e1,e2⟩:=Option.bind_eq_some_iff.mp e
 obtain⟨⟨rr,δ2⟩,e3,e4⟩:=Option.bind_eq_some_iff.mp e2
 cases e4
 obtain⟨⟨rv2,δ3⟩,e5,e6⟩:=Option.bind_eq_some_iff.mp e3
 obtain⟨⟨rr',δ4⟩,e7,e8⟩:=Option.bind_eq_some_iff.mp e6
 cases e8
 cases e7
 refine⟨F,δ,own,rv1,δ1,s,e1,fun v H1 F1 own1 sH sF s1 r1=>?_⟩
 obtain⟨F2,sF2,s2,r2⟩:=s1.settleR r1
 refine⟨F2,δ1,own1,rv2,δ3,s2,e5,fun u H3 F3 own3 sH3 sF3 s3 r3=>?_⟩
 obtain⟨F4,sF4,s4,r4⟩:=s3.settleR r3
 obtain⟨x,y,exy,q⟩:=k [v,u] H3 F4 own3 (sH.trans sH3) (sF.trans (sF2.trans (sF3.trans sF4))) s4 (.cons (r2.mono (sF3.trans sF4)) (.cons r4 .nil))
 injection exy with ex ey
 injection ey with ey _
 subst ex ey
 exact q
@[simp] noncomputable def unF(g:D→Option SV)(fa:FE):FE:=Zcl (fun| [x]=>g x|_=>none) (Zd fa Zj)
noncomputable def Zrq(Z:Ent K)(r:V→Hp→VK→Prop)(g:D→Option SV):Prop:=
 ∀(F H:Hp) (σ:St) (δ:DSt) (own:Nat→Zw) (x:V) (d:D) (sv:SV) (Q:VK),SR Z F H σ δ own→RepN K F H d x→g d=some sv→Fin Z F H σ δ own sv Q→r x H Q
theorem l_un{r:V→Hp→VK→Prop}{g:D→Option SV}{fa:FE}(hg:Zrq Z r g)(h:Ze Z (unF g fa) σ H Q):tUn r (Ze Z fa) σ H Q:=by
 obtain⟨F,δ,own,rv,δ',s,e,k⟩:=h
 obtain⟨⟨rvs,δ1⟩,e1,e2⟩:=Option.bind_eq_some_iff.mp e
 obtain⟨ds,e3,e4⟩:=Option.bind_eq_some_iff.mp e2
 obtain⟨sv,e5,e6⟩:=Option.bind_eq_some_iff.mp e4
 cases e6
 obtain⟨⟨rv1,δ2⟩,e7,e8⟩:=Option.bind_eq_some_iff.mp e1
 obtain⟨⟨rr',δ4⟩,e9,e10⟩:=Option.bind_eq_some_iff.mp e8
 cases e10
 cases e9
 obtain⟨d,e11,e12⟩:=Option.bind_eq_some_iff.mp e3
 cases e12
 refine⟨F,δ,own,rv1,δ2,s,e7,fun v H1 F1 own1 sH sF s1 r1=>?_⟩
 obtain⟨F2,sF2,s2,r2⟩:=s1.settleR r1
 exact hg F2 H1 σ δ2 own1 v d sv Q s2 (s2.rd r2 e11) e5 fun v H2 F2' ns sH2 sF2' s2 t=>k v H2 F2' own1 (sH.trans sH2) (sF.trans (sF2.trans sF2')) s2 ⟨ns,t⟩
@[simp] noncomputable def Zs:FD:=fun δ=>some ([],δ)
@[simp] noncomputable def Zf(fe:FE)(fd:FD):FD:=fun δ=>(fe δ).bind fun p=>(frz p.1 p.2).bind fun q=>(fd q.2).bind fun r=>some (q.1::r.1,r.2)
theorem Zop{R:List V→Hp→Prop}(h:Zbx Z Zs σ H R):tNil σ H R:=by
 obtain⟨F,δ,own,rvs,δ',s,e,k⟩:=h
 cases e
 exact k [] H F own (Same.refl H) (Same.refl F) s .nil
theorem Zmt{fe:FE}{fd:FD}{R:List V→Hp→Prop}(h:Zbx Z (Zf fe fd) σ H R):Zjr (Ze Z fe) (Zbx Z fd) σ H R:=by
 obtain⟨F,δ,own,rvs,δ',s,e,k⟩:=h
 obtain⟨⟨rv,δ1⟩,e1,e2⟩:=Option.bind_eq_some_iff.mp e
 obtain⟨⟨d,δ2⟩,e3,e4⟩:=Option.bind_eq_some_iff.mp e2
 obtain⟨⟨ds,δ3⟩,e5,e6⟩:=Option.bind_eq_some_iff.mp e4
 cases e6
 refine⟨F,δ,own,rv,δ1,s,e1,fun v H1 F1 own1 sH sF s1 r1=>?_⟩
 obtain⟨F2,sF2,s2,r2⟩:=s1.settleR r1
 obtain⟨F3,own3,sF3,s3,r3⟩:=s2.frzR r2 e3
 exact⟨F3,δ2,own3,ds,δ3,s3,e5,fun vs H4 F4 own4 sH4 sF4 s4 r4=>k _ H4 F4 own4 (sH.trans sH4) (sF.trans (sF2.trans (sF3.trans sF4))) s4 (.cons (r3.mono sF4) r4)⟩
@[simp] noncomputable def tupF(fd:FD):FE:=fun δ=>(fd δ).bind fun p=>if p.1.length≤PySem.sizeLine then some (.tmp (.fz (.tup p.1)),p.2)else none
@[simp] noncomputable def lstF(fd:FD):FE:=fun δ=>(fd δ).bind fun p=>if p.1.length≤PySem.sizeLine then some (.tmp (.ol p.1),p.2)else none
theorem Z2h{fd:FD}(h:Ze Z (tupF fd) σ H Q):tTup (Zbx Z fd) σ H Q:=by
 obtain⟨F,δ,own,rv,δ',s,e,k⟩:=h
 obtain⟨⟨ds,δ1⟩,e1,e2⟩:=Option.bind_eq_some_iff.mp e
 by_cases hz:ds.length≤PySem.sizeLine
 ·rw[if_pos hz]at e2
  cases e2
  refine⟨F,δ,own,ds,δ1,s,e1,fun vs H1 F1 own1 sH sF s1 r1=>⟨by rw[←r1.length];exact hz,fun p hp=>?_⟩⟩
  exact Fin.tup (fun v H2 F2 ns a b c t=>k v H2 F2 own1 (sH.trans a) (sF.trans b) c ⟨ns,t⟩) s1 r1 hp
 ·rw[if_neg hz]at e2;cases e2
theorem Z2i{fd:FD}(h:Ze Z (lstF fd) σ H Q):tLst (Zbx Z fd) σ H Q:=by
 obtain⟨F,δ,own,rv,δ',s,e,k⟩:=h
 obtain⟨⟨ds,δ1⟩,e1,e2⟩:=Option.bind_eq_some_iff.mp e
 by_cases hz:ds.length≤PySem.sizeLine
 ·rw[if_pos hz]at e2
  cases e2
  refine⟨F,δ,own,ds,δ1,s,e1,fun vs H1 F1 own1 sH sF s1 r1=>⟨by rw[←r1.length];exact hz,fun p hp=>?_⟩⟩
  exact Fin.lst (fun v H2 F2 ns a b c t=>k v H2 F2 own1 (sH.trans a) (sF.trans b) c ⟨ns,t⟩) s1 r1 hp
 ·rw[if_neg hz]at e2;cases e2
end
@[simp] noncomputable def SV.scal:SV→Bool
 | .fz .non=>true
 | .fz (.bl _)=>true
 | .fz (.int _)=>true
 | .fz (.str _)=>true
 |_=>false
noncomputable def spOf(K:PySem.W.Frag)(n:Nat)(g:List D→Option SV):Sp:=fun vs H Q _=>∃F ds sv,Same F H∧Reps K F ds vs∧ds.length=n∧g ds=some sv∧
 ∀v H' F' ns,Same H H'→Same F F'→Same F' H'→(∀(b:Addr) (o:HO),F' b=some o→F b=some o∨H b=none)→Shape K F' sv v ns→(adr ns).Nodup→(∀p∈ns,F' p.1=none∧H p.1=none∧H' p.1=some p.2)→Q v H'
@[simp] noncomputable def frzAll:List RV→DSt→Option (List D×DSt)
 | [],δ=>some ([],δ)
 |rv::r,δ=>(frz rv δ).bind fun p=>(frzAll r p.2).bind fun q=>some (p.1::q.1,q.2)
theorem RVSs.mono{F F':Hp}{σ:St}(s:Same F F'){rvs:List RV}{vs:List V}(h:RVSs K F σ rvs vs):RVSs K F' σ rvs vs:=by
 induction h with
 |nil=>exact .nil
 |cons h _ ih=>exact .cons (h.mono s) ih
section
variable{Z:Ent K}{H:Hp}{σ:St}{Q:VK}
theorem SR.frzAll{F:Hp}{δ:DSt}{own:Nat→Zw}:∀{rvs:List RV} {vs:List V} {ds:List D} {δ':DSt} {F:Hp} {δ:DSt} {own:Nat→Zw},SR Z F H σ δ own→RVSs K F σ rvs vs→DL.frzAll rvs δ=some (ds,δ')→
  ∃F1 own1,Same F F1∧SR Z F1 H σ δ' own1∧Reps K F1 ds vs
 |_,_,_,_,F,_,own,s,.nil,e=>by cases e;exact⟨F,own,Same.refl F,s,.nil⟩
 |_,_,_,_,F,_,own,s,.cons h t,e=>by
  obtain⟨⟨d,δ1⟩,e1,e2⟩:=Option.bind_eq_some_iff.mp e
  obtain⟨⟨ds,δ2⟩,e3,e4⟩:=Option.bind_eq_some_iff.mp e2
  cases e4
  obtain⟨F1,own1,sF1,s1,r1⟩:=s.frzR h e1
  obtain⟨F2,own2,sF2,s2,r2⟩:=SR.frzAll (own:=own) (F:=F) (δ:=δ1) s1 (t.mono sF1) e3
  exact⟨F2,own2,sF1.trans sF2,s2,.cons (r1.mono sF2) r2⟩
@[simp] noncomputable def Zap(n:Nat)(g:List D→Option SV)(fa:FA):FE:=fun δ=>(fa δ).bind fun p=>(DL.frzAll p.1 p.2).bind fun q=>if q.1.length=n then(g q.1).bind fun sv=>some (.tmp sv,if sv.scal then p.2 else q.2)else none
theorem Zld{F F':Hp}{sv:SV}{v:V}{ns:Zw}(h:sv.scal=true)(sh:Shape K F sv v ns):ns=[]∧Shape K F' sv v []:=by
 cases sh with
 |fz r=>
  refine⟨rfl,.fz ?_⟩
  cases r with
  |non=>exact .non
  |bl b=>exact .bl b
  |int i=>exact .int i
  |str x=>exact .str x
  |tup _ _=>cases h
  |lst _ _=>cases h
  |dK _ _ _=>cases h
  |dT _ _ _ _=>cases h
  |exc _ _=>cases h
  |exd _ _ _ _ _=>cases h
 |ol _=>cases h
 |oK _ _=>cases h
 |oT _ _ _=>cases h
 |oN _ _=>cases h
 |oL _ _=>cases h
theorem Zyu{n:Nat}{g:List D→Option SV}{fa:FA}{E:XK}(h:Ze Z (Zap n g fa) σ H Q):Zyb (spOf K n g) [] E (Zd9 Z fa) σ H Q:=by
 obtain⟨F,δ,own,rv,δ',s,e,k⟩:=h
 obtain⟨⟨rvs,δ1⟩,e1,e2⟩:=Option.bind_eq_some_iff.mp e
 obtain⟨⟨ds,δ2⟩,e3,e4⟩:=Option.bind_eq_some_iff.mp e2
 by_cases hn:ds.length=n
 ·rw[if_pos hn]at e4
  obtain⟨sv,e5,e6⟩:=Option.bind_eq_some_iff.mp e4
  refine⟨F,δ,own,rvs,δ1,s,e1,fun vs H1 F1 own1 sH sF s1 r1=>?_⟩
  obtain⟨F2,own2,sF2,s2,r2⟩:=s1.frzAll (own:=own) (F:=F) (δ:=δ) r1 e3
  rw[List.append_nil]
  refine⟨F2,ds,sv,s2.le,r2,hn,e5,fun v H3 F3 ns sH3 sF3 le3 fro3 sh nd ok=>?_⟩
  by_cases hs:sv.scal=true
  ·rw[if_pos hs]at e6
   cases e6
   obtain⟨_,sh'⟩:=Zld (F':=F1) hs sh
   exact k v H3 F1 own1 (sH.trans sH3) sF (s1.grow sH3) ⟨[],sh',List.nodup_nil,fun _ h=>(nomatch h),fun _ _ _ h=>(nomatch h)⟩
  ·rw[if_neg hs]at e6
   cases e6
   have s3:SR Z F3 H3 σ δ2 own2:=by
    refine⟨le3,fun b o e=>?_,s2.old.trans sH3,s2.len,fun i sw ei=>?_,s2.nod,fun i p hp=>?_,s2.sep⟩
    ·rcases fro3 b o e with z|z
     ·exact s2.fro b o z
     ·exact .inr (s2.old.free z)
    ·obtain⟨w,h1,h2⟩:=s2.at' i sw ei
     exact⟨w,h1,h2.mono sF3⟩
    ·obtain⟨a,b,c⟩:=s2.ok i p hp
     refine⟨?_,b,sH3 _ _ c⟩
     cases z:F3 p.1 with
     |none=>rfl
     |some u=>
      rcases fro3 _ u z with y|y
      ·rw[a]at y;cases y
      ·rw[c]at y;cases y
   exact k v H3 F3 own2 (sH.trans sH3) (sF.trans (sF2.trans sF3)) s3 ⟨ns,sh,nd,fun p hp=>⟨(ok p hp).1,(s2.old).free (ok p hp).2.1,(ok p hp).2.2⟩,fun i p q hp hq e=>by
    have z:=(s2.ok i q hq).2.2
    rw[←e,(ok p hp).2.1]at z;cases z⟩
 ·rw[if_neg hn]at e4;cases e4
end
end DL
namespace DL
open PySem L2
variable{K:PySem.W.Frag}
section
variable{Z:Ent K}{H:Hp}{σ:St}{R:Bool→Hp→Prop}{Q:VK}
@[simp] noncomputable def Zal(fe:FE):FT:=fun δ=>(fe δ).bind fun p=>match p.1 with
 | .tmp (.fz (.bl b))=>some (b,p.2)
 |_=>none
theorem Zle{fe:FE}(h:Zbb Z (Zal fe) σ H R):Zx8 (Ze Z fe) σ H R:=by
 obtain⟨F,δ,own,b,δ',s,e,k⟩:=h
 obtain⟨⟨rv,δ1⟩,e1,e2⟩:=Option.bind_eq_some_iff.mp e
 refine⟨F,δ,own,rv,δ1,s,e1,fun v H1 F1 own1 sH sF s1 r1=>?_⟩
 dsimp only at e2
 split at e2
 ·cases e2
  obtain⟨ns,t⟩:=r1
  cases Zb9 t.sh
  exact⟨_,rfl,k H1 F1 own1 sH sF s1⟩
 ·cases e2
theorem Zvd{fe:FE}(h:Zbb Z (Zal fe) σ H R):tB (Ze Z fe) σ H R:=Zle h
@[simp] noncomputable def andF(f g:FT):FT:=fun δ=>(f δ).bind fun p=>if p.1=true then g p.2 else some (false,p.2)
@[simp] noncomputable def orF(f g:FT):FT:=fun δ=>(f δ).bind fun p=>if p.1=true then some (true,p.2)else g p.2
@[simp] noncomputable def notF(f:FT):FT:=fun δ=>(f δ).bind fun p=>some (!p.1,p.2)
theorem l_or{f g:FT}(h:Zbb Z (orF f g) σ H R):tOr (Zbb Z f) (Zbb Z g) σ H R:=by
 obtain⟨F,δ,own,b,δ',s,e,k⟩:=h
 obtain⟨⟨c,δ1⟩,e1,e2⟩:=Option.bind_eq_some_iff.mp e
 refine⟨F,δ,own,c,δ1,s,e1,fun H1 F1 own1 sH sF s1=>?_⟩
 cases c with
 |true=>
  rw[if_pos rfl]at e2⊢
  cases e2
  exact k H1 F1 own1 sH sF s1
 |false=>
  rw[if_neg Bool.false_ne_true]at e2⊢
  exact⟨F1,δ1,own1,b,δ',s1,e2,fun H2 F2 own2 a c d=>k H2 F2 own2 (sH.trans a) (sF.trans c) d⟩
theorem Z2j{f:FT}(h:Zbb Z (notF f) σ H R):tNot (Zbb Z f) σ H R:=by
 obtain⟨F,δ,own,b,δ',s,e,k⟩:=h
 obtain⟨⟨c,δ1⟩,e1,e2⟩:=Option.bind_eq_some_iff.mp e
 cases e2
 exact⟨F,δ,own,c,δ1,s,e1,k⟩
@[simp] noncomputable def andV(f g:FE):FE:=fun δ=>(Zal f δ).bind fun p=>if p.1=true then g p.2 else some (.tmp (.fz (.bl false)),p.2)
@[simp] noncomputable def orV(f g:FE):FE:=fun δ=>(Zal f δ).bind fun p=>if p.1=true then some (.tmp (.fz (.bl true)),p.2)else g p.2
@[simp] noncomputable def notV(f:FE):FE:=fun δ=>(Zal f δ).bind fun p=>some (.tmp (.fz (.bl (!p.1))),p.2)
theorem Zve{F:Hp}{own:Nat→Zw}{b:Bool}:Zol Z F H σ own (.tmp (.fz (.bl b))) (.bl b):=⟨[],.fz (.bl b)⟩
theorem Zyv{f g:FE}(h:Ze Z (andV f g) σ H Q):Zxq (Ze Z f) (Ze Z g) σ H Q:=by
 obtain⟨F,δ,own,rv,δ',s,e,k⟩:=h
 obtain⟨⟨c,δ1⟩,e1,e2⟩:=Option.bind_eq_some_iff.mp e
 refine Zle ⟨F,δ,own,c,δ1,s,e1,fun H1 F1 own1 sH sF s1=>?_⟩
 cases c with
 |true=>
  rw[if_pos rfl]at e2⊢
  exact⟨F1,δ1,own1,rv,δ',s1,e2,fun v H2 F2 own2 a c d=>k v H2 F2 own2 (sH.trans a) (sF.trans c) d⟩
 |false=>
  rw[if_neg Bool.false_ne_true]at e2⊢
  cases e2
  exact k _ H1 F1 own1 sH sF s1 Zve
theorem Zyw{f:FE}(h:Ze Z (notV f) σ H Q):Zxr (Ze Z f) σ H Q:=by
 obtain⟨F,δ,own,rv,δ',s,e,k⟩:=h
 obtain⟨⟨c,δ1⟩,e1,e2⟩:=Option.bind_eq_some_iff.mp e
 cases e2
 exact Zle ⟨F,δ,own,c,δ1,s,e1,fun H1 F1 own1 sH sF s1=>k _ H1 F1 own1 sH sF s1 Zve⟩
@[simp] noncomputable def ifF(t:FT)(f g:FE):FE:=fun δ=>(t δ).bind fun p=>if p.1=true then f p.2 else g p.2
theorem l_if{t:FT}{f g:FE}(h:Ze Z (ifF t f g) σ H Q):tIf (Zbb Z t) (Ze Z f) (Ze Z g) σ H Q:=by
 obtain⟨F,δ,own,rv,δ',s,e,k⟩:=h
 obtain⟨⟨c,δ1⟩,e1,e2⟩:=Option.bind_eq_some_iff.mp e
 refine⟨F,δ,own,c,δ1,s,e1,fun H1 F1 own1 sH sF s1=>?_⟩
 cases c with
 |true=>
  rw[if_pos rfl]at e2⊢
  exact⟨F1,δ1,own1,rv,δ',s1,e2,fun v H2 F2 own2 a c d=>k v H2 F2 own2 (sH.trans a) (sF.trans c) d⟩
 |false=>
  rw[if_neg Bool.false_ne_true]at e2⊢
  exact⟨F1,δ1,own1,rv,δ',s1,e2,fun v H2 F2 own2 a c d=>k v H2 F2 own2 (sH.trans a) (sF.trans c) d⟩
@[simp] noncomputable def Zoq(g g':D→D→Option SV)(fa fb fc:FE):FE:=fun δ=>(fa δ).bind fun p=>(fb p.2).bind fun q=>(rdv p.1 q.2).bind fun x=>(rdv q.1 q.2).bind fun y=>(g x y).bind fun
 | .fz (.bl true)=>(fc q.2).bind fun r=>(rdv q.1 r.2).bind fun y'=>(rdv r.1 r.2).bind fun z=>(g' y' z).bind fun sv=>some (.tmp sv,r.2)
 | .fz (.bl false)=>some (.tmp (.fz (.bl false)),q.2)
 |_=>none
theorem Zvf{r r':R2}{g g':D→D→Option SV}{fa fb fc:FE}(hg:Zaq Z r g)(hg':Zaq Z r' g')(h:Ze Z (Zoq g g' fa fb fc) σ H Q):Zth r r' (Ze Z fa) (Ze Z fb) (Ze Z fc) σ H Q:=by
 obtain⟨F,δ,own,rv,δ',s,e,k⟩:=h
 obtain⟨⟨rv1,δ1⟩,e1,e⟩:=Option.bind_eq_some_iff.mp e
 obtain⟨⟨rv2,δ2⟩,e2,e⟩:=Option.bind_eq_some_iff.mp e
 obtain⟨x,e3,e⟩:=Option.bind_eq_some_iff.mp e
 obtain⟨y,e4,e⟩:=Option.bind_eq_some_iff.mp e
 obtain⟨sv,e5,e⟩:=Option.bind_eq_some_iff.mp e
 refine⟨F,δ,own,rv1,δ1,s,e1,fun v H1 F1 own1 sH1 sF1 s1 r1=>?_⟩
 obtain⟨F1',sF1',s1',r1'⟩:=s1.settleR r1
 refine⟨F1',δ1,own1,rv2,δ2,s1',e2,fun u H2 F2 own2 sH2 sF2 s2 r2=>?_⟩
 obtain⟨F3,sF3,s3,r3⟩:=s2.settleR r2
 refine hg F3 H2 σ δ2 own2 v u x y sv _ s3 (s3.rd (r1'.mono (sF2.trans sF3)) e3) (s3.rd r3 e4) e5 fun z H4 F4 ns sH4 sF4 s4 t4=>?_
 dsimp only at e
 split at e
 ·cases Zb9 t4.sh
  refine⟨true,rfl,?_⟩
  rw[if_pos rfl]
  obtain⟨⟨rv5,δ5⟩,e6,e⟩:=Option.bind_eq_some_iff.mp e
  obtain⟨y',e7,e⟩:=Option.bind_eq_some_iff.mp e
  obtain⟨z',e8,e⟩:=Option.bind_eq_some_iff.mp e
  obtain⟨sv',e9,e⟩:=Option.bind_eq_some_iff.mp e
  cases e
  refine⟨F4,δ2,own2,rv5,δ5,s4,e6,fun w H5 F5 own5 sH5 sF5 s5 r5=>?_⟩
  obtain⟨F6,sF6,s6,r6⟩:=s5.settleR r5
  refine hg' F6 H5 σ δ5 own5 u w y' z' sv' _ s6 (s6.rd (r3.mono (sF4.trans (sF5.trans sF6))) e7) (s6.rd r6 e8) e9 fun q H7 F7 ns7 sH7 sF7 s7 t7=>?_
  exact k q H7 F7 own5 (sH1.trans (sH2.trans (sH4.trans (sH5.trans sH7)))) (sF1.trans (sF1'.trans (sF2.trans (sF3.trans (sF4.trans (sF5.trans (sF6.trans sF7))))))) s7 ⟨ns7,t7⟩
 ·cases Zb9 t4.sh
  cases e
  refine⟨false,rfl,?_⟩
  rw[if_neg Bool.false_ne_true]
  exact k _ H4 F4 own2 (sH1.trans (sH2.trans sH4)) (sF1.trans (sF1'.trans (sF2.trans (sF3.trans sF4)))) s4 Zve
 ·cases e
end
inductive Fl where
 |nx (δ:DSt)|bk (δ:DSt)|ct (δ:DSt)|rt (sv:SV)|ex (e:Exn) (δ:DSt)
noncomputable abbrev FS:=DSt→Option Fl
noncomputable def Zfe(Z:Ent K)(F:Hp)(D:Ends):Fl→Prop
 | .nx δ=>∀σ' H' F' own',Same F F'→SR Z F' H' σ' δ own'→D.nx σ' H'
 | .bk δ=>∀σ' H' F' own',Same F F'→SR Z F' H' σ' δ own'→D.bk σ' H'
 | .ct δ=>∀σ' H' F' own',Same F F'→SR Z F' H' σ' δ own'→D.ct σ' H'
 | .rt sv=>∀v H' F' ns,Same F F'→Same F' H'→(∀(b:Addr) (o:HO),F' b=some o→Z.f b=some o∨Z.h b=none)→Same Z.h H'→Shape K F' sv v ns→(adr ns).Nodup→
   (∀p∈ns,F' p.1=none∧Z.h p.1=none∧H' p.1=some p.2)→D.rt v H'
 | .ex x δ=>∀σ' H' F' own' cls od,Same F F'→SR Z F' H' σ' δ own'→Zlc K F' x cls od→Z.x cls od σ' H'
theorem Zfe.mono{Z:Ent K}{F F':Hp}{D:Ends}(s:Same F F'):∀{fl:Fl},Zfe Z F D fl→Zfe Z F' D fl
 | .nx _,h=>fun σ' H' F2 own' a b=>h σ' H' F2 own' (s.trans a) b
 | .bk _,h=>fun σ' H' F2 own' a b=>h σ' H' F2 own' (s.trans a) b
 | .ct _,h=>fun σ' H' F2 own' a b=>h σ' H' F2 own' (s.trans a) b
 | .rt _,h=>fun v H' F2 ns a=>h v H' F2 ns (s.trans a)
 | .ex _ _,h=>fun σ' H' F2 own' cls od a=>h σ' H' F2 own' cls od (s.trans a)
noncomputable def Z9(Z:Ent K)(f:FS):TS:=fun D σ H=>∃F δ own fl,SR Z F H σ δ own∧f δ=some fl∧Zfe Z F D fl
section
variable{Z:Ent K}{H:Hp}{σ:St}{E:Ends}
@[simp] noncomputable def Zca:FS:=fun δ=>some (.nx δ)
@[simp] noncomputable def Z40:FS:=fun δ=>some (.bk δ)
@[simp] noncomputable def Z53:FS:=fun δ=>some (.ct δ)
theorem Zyx(h:Z9 Z Zca E σ H):Zxv E σ H:=by
 obtain⟨F,δ,own,fl,s,e,k⟩:=h
 cases e
 exact k σ H F own (Same.refl F) s
@[simp] noncomputable def seqF(f g:FS):FS:=fun δ=>(f δ).bind fun
 | .nx δ'=>g δ'
 |fl=>some fl
theorem Z2k{f g:FS}(h:Z9 Z (seqF f g) E σ H):tSeq (Z9 Z f) (Z9 Z g) E σ H:=by
 obtain⟨F,δ,own,fl,s,e,k⟩:=h
 obtain⟨f1,e1,e2⟩:=Option.bind_eq_some_iff.mp e
 refine⟨F,δ,own,f1,s,e1,?_⟩
 cases f1 with
 |nx δ1=>exact fun σ' H' F' own' sF s'=>⟨F',δ1,own',fl,s',e2,k.mono sF⟩
 |bk δ1=>cases e2;exact k
 |ct δ1=>cases e2;exact k
 |rt sv=>cases e2;exact k
 |ex x δ1=>cases e2;exact k
@[simp] noncomputable def ifS(t:FT)(f g:FS):FS:=fun δ=>(t δ).bind fun p=>if p.1=true then f p.2 else g p.2
theorem Z2l{t:FT}{f g:FS}(h:Z9 Z (ifS t f g) E σ H):tIfS (Zbb Z t) (Z9 Z f) (Z9 Z g) E σ H:=by
 obtain⟨F,δ,own,fl,s,e,k⟩:=h
 obtain⟨⟨c,δ1⟩,e1,e2⟩:=Option.bind_eq_some_iff.mp e
 refine⟨F,δ,own,c,δ1,s,e1,fun H1 F1 own1 sH sF s1=>?_⟩
 cases c with
 |true=>rw[if_pos rfl]at e2⊢;exact⟨F1,δ1,own1,fl,s1,e2,k.mono sF⟩
 |false=>rw[if_neg Bool.false_ne_true]at e2⊢;exact⟨F1,δ1,own1,fl,s1,e2,k.mono sF⟩
@[simp] noncomputable def Z54(fe:FE):FS:=fun δ=>(fe δ).bind fun p=>some (.nx p.2)
@[simp] noncomputable def outF:RV→DSt→Option SV
 | .tmp sv,_=>some sv
 | .bw i,δ=>δ[i]?.join
@[simp] noncomputable def retF(fe:FE):FS:=fun δ=>(fe δ).bind fun p=>(outF p.1 p.2).bind fun sv=>some (.rt sv)
theorem Z2m{fe:FE}(h:Z9 Z (retF fe) E σ H):tRet (Ze Z fe) E σ H:=by
 obtain⟨F,δ,own,fl,s,e,k⟩:=h
 obtain⟨⟨rv,δ1⟩,e1,e2⟩:=Option.bind_eq_some_iff.mp e
 obtain⟨sv,e3,e4⟩:=Option.bind_eq_some_iff.mp e2
 cases e4
 refine⟨F,δ,own,rv,δ1,s,e1,fun v H1 F1 own1 sH sF s1 r1=>?_⟩
 cases rv with
 |tmp sw=>
  cases e3
  obtain⟨ns,t⟩:=r1
  exact k v H1 F1 ns sF s1.le s1.fro s1.old t.sh t.nd t.ok
 |bw i=>
  obtain⟨w,h1,h2⟩:=s1.at' i sv (Zcp e3)
  have r1':σ[i]? =some (some v):=r1
  rw[r1']at h1;cases h1
  exact k v H1 F1 (own1 i) sF s1.le s1.fro s1.old h2 (s1.nod i) (s1.ok i)
@[simp] noncomputable def retN:FS:=fun δ=>some (.rt (.fz .non))
@[simp] noncomputable def stow(i:Nat):RV→DSt→Option DSt
 | .tmp sv,δ=>if i<δ.length then some (δ.set i (some sv))else none
 | .bw j,δ=>(frz (.bw j) δ).bind fun p=>if i<p.2.length then some (p.2.set i (some (.fz p.1)))else none
theorem SR.stow{F:Hp}{δ δ':DSt}{own:Nat→Zw}{i:Nat}{rv:RV}{v:V}(s:SR Z F H σ δ own)(r:Zol Z F H σ own rv v)(e:DL.stow i rv δ=some δ'):∃F' own',Same F F'∧SR Z F' H (σ.set i (some v)) δ' own':=by
 cases rv with
 |tmp sv=>
  obtain⟨ns,t⟩:=r
  have e:(if i<δ.length then some (δ.set i (some sv))else none)=some δ':=e
  by_cases hi:i<δ.length
  ·rw[if_pos hi]at e;cases e
   exact⟨F,_,Same.refl F,s.store t (by rw[s.len];exact hi)⟩
  ·rw[if_neg hi]at e;cases e
 |bw j=>
  obtain⟨⟨d,δ1⟩,e1,e2⟩:=Option.bind_eq_some_iff.mp e
  obtain⟨F1,own1,sF,s1,r1⟩:=s.frzR (rv:=.bw j) (v:=v) r e1
  by_cases hi:i<δ1.length
  ·rw[if_pos hi]at e2;cases e2
   exact⟨F1,_,sF,s1.store (.fz r1) (by rw[s1.len];exact hi)⟩
  ·rw[if_neg hi]at e2;cases e2
@[simp] noncomputable def setF(i:Nat)(fe:FE):FS:=fun δ=>(fe δ).bind fun p=>(stow i p.1 p.2).bind fun δ'=>some (.nx δ')
theorem Zyy{i:Nat}{fe:FE}(h:Z9 Z (setF i fe) E σ H):tAsg (Ze Z fe) (Znp i) E σ H:=by
 obtain⟨F,δ,own,fl,s,e,k⟩:=h
 obtain⟨⟨rv,δ1⟩,e1,e2⟩:=Option.bind_eq_some_iff.mp e
 obtain⟨δ2,e3,e4⟩:=Option.bind_eq_some_iff.mp e2
 cases e4
 refine⟨F,δ,own,rv,δ1,s,e1,fun v H1 F1 own1 sH sF s1 r1=>?_⟩
 obtain⟨F2,own2,sF2,s2⟩:=s1.stow r1 e3
 exact k _ H1 F2 own2 (sF.trans sF2) s2
set_option genInjectivity false in
structure FG where
 run:D→DSt→Option DSt
 tch:List Nat
set_option genInjectivity false in
structure FGs where
 run:List D→DSt→Option DSt
 tch:List Nat
noncomputable def Zgd(Z:Ent K)(g:FG):TG:=fun v σ H Q=>∃F δ own d δ',SR Z F H σ δ own∧Rep K F d v∧g.run d δ=some δ'∧∀σ' own',SR Z F H σ' δ' own'→(∀j:Nat,j∉g.tch→σ'[j]? =σ[j]?)→Q σ' H
noncomputable def Zem(Z:Ent K)(g:FGs):TGs:=fun vs σ H Q=>∃F δ own ds δ',SR Z F H σ δ own∧Reps K F ds vs∧g.run ds δ=some δ'∧∀σ' own',SR Z F H σ' δ' own'→(∀j:Nat,j∉g.tch→σ'[j]? =σ[j]?)→Q σ' H
noncomputable def Zn(i:Nat):FG:=⟨fun d δ=>if i<δ.length then some (δ.set i (some (.fz d)))else none,[i]⟩
theorem Zvg{i:Nat}{v:V}{Q:St→Hp→Prop}(h:Zgd Z (Zn i) v σ H Q):Znp i v σ H Q:=by
 obtain⟨F,δ,own,d,δ',s,r,e,k⟩:=h
 have e:(if i<δ.length then some (δ.set i (some (.fz d)))else none)=some δ':=e
 by_cases hi:i<δ.length
 ·rw[if_pos hi]at e;cases e
  exact k _ _ (s.store (.fz r) (by rw[s.len];exact hi)) fun j hj=>List.getElem?_set_ne fun z=>hj (by rw[z];exact List.mem_cons_self)
 ·rw[if_neg hi]at e;cases e
noncomputable def Zcq:FGs:=⟨fun ds δ=>match ds with
 | []=>some δ
 |_=>none,[]⟩
noncomputable def Zaa(g:FG)(r:FGs):FGs:=⟨fun ds δ=>match ds with
 |d::t=>(g.run d δ).bind fun δ1=>r.run t δ1
 | []=>none,g.tch++r.tch⟩
@[simp] theorem Zyz(i:Nat)(d:D)(δ:DSt):(Zn i).run d δ=if i<δ.length then some (δ.set i (some (.fz d)))else none:=rfl
@[simp] theorem Z1m(δ:DSt):Zcq.run [] δ=some δ:=rfl
@[simp] theorem Zy0(g:FG)(r:FGs)(d:D)(t:List D)(δ:DSt):(Zaa g r).run (d::t) δ=(g.run d δ).bind fun δ1=>r.run t δ1:=rfl
theorem Zy1{vs:List V}{Q:St→Hp→Prop}(h:Zem Z Zcq vs σ H Q):gNil vs σ H Q:=by
 obtain⟨F,δ,own,ds,δ',s,r,e,k⟩:=h
 cases r with
 |nil=>cases e;exact⟨rfl,k σ own s fun _ _=>rfl⟩
 |cons h t=>cases e
theorem Zvh{g:FG}{r:FGs}{vs:List V}{Q:St→Hp→Prop}(h:Zem Z (Zaa g r) vs σ H Q):Zxx (Zgd Z g) (Zem Z r) vs σ H Q:=by
 obtain⟨F,δ,own,ds,δ',s,rr,e,k⟩:=h
 cases rr with
 |nil=>cases e
 |cons h t=>
  obtain⟨δ1,e1,e2⟩:=Option.bind_eq_some_iff.mp e
  exact⟨_,_,rfl,F,δ,own,_,δ1,s,h,e1,fun σ1 own1 s1 t1=>⟨F,δ1,own1,_,δ',s1,t,e2,fun σ2 own2 s2 t2=>k σ2 own2 s2 fun j hj=>(t2 j fun z=>hj (List.mem_append_right _ z)).trans (t1 j fun z=>hj (List.mem_append_left _ z))⟩⟩
noncomputable def Zcm(n:Nat)(g:FGs):FG:=⟨fun d δ=>match d with
 | .tup xs=>if xs.length=n then g.run xs δ else none
 |_=>none,g.tch⟩
@[simp] theorem Z1n(n:Nat)(g:FGs)(xs:List D)(δ:DSt):(Zcm n g).run (.tup xs) δ=if xs.length=n then g.run xs δ else none:=rfl
theorem Zy2{n:Nat}{g:FGs}{v:V}{Q:St→Hp→Prop}(h:Zgd Z (Zcm n g) v σ H Q):gTup K n (Zem Z g) v σ H Q:=by
 obtain⟨F,δ,own,d,δ',s,r,e,k⟩:=h
 dsimp only[Zcm]at e
 split at e
 ·rename_i xs
  by_cases hn:xs.length=n
  ·rw[if_pos hn]at e
   cases r with
   |tup h r=>exact⟨_,_,rfl,Za9 s.le (Zgc h),by rw[←r.length];exact hn,F,δ,own,_,δ',s,r,e,k⟩
  ·rw[if_neg hn]at e;cases e
 ·cases e
@[simp] noncomputable def Z2n(g:FG)(fe:FE):FS:=fun δ=>(fe δ).bind fun p=>(frz p.1 p.2).bind fun q=>(g.run q.1 q.2).bind fun δ'=>some (.nx δ')
@[simp] noncomputable def forD(tg:FG)(body:FS):List D→DSt→Option Fl
 | [],δ=>some (.nx δ)
 |d::ds,δ=>(tg.run d δ).bind fun δ1=>(body δ1).bind fun
  | .nx δ2=>forD tg body ds δ2
  | .ct δ2=>forD tg body ds δ2
  | .bk δ2=>some (.nx δ2)
  | .rt sv=>some (.rt sv)
  | .ex x δ2=>some (.ex x δ2)
noncomputable def Zen(K:PySem.W.Frag)(J:It)(F:Hp)(ds:List D):Prop:=∀F' H,Same F F'→Same F' H→∀i:Nat,
 (∀d,ds[i]? =some d→J.go i H∧∀x H',J.yld i H x H'→Same H H'∧∃ns,(adr ns).Nodup∧(∀p∈ns,H p.1=none∧H' p.1=some p.2)∧Rep K (addL F' ns) d x)∧(ds.length≤i→J.stop i H)
noncomputable def Zc9(Z:Ent K)(f:FD):TI:=fun σ H R=>∃F δ own ds δ',SR Z F H σ δ own∧f δ=some (ds,δ')∧
 ∀J H' F' own',Same H H'→Same F F'→SR Z F' H' σ δ' own'→Zen K J F' ds→R J H'
@[simp] noncomputable def forF(fi:FD)(tg:FG)(body:FS):FS:=fun δ=>(fi δ).bind fun p=>forD tg body p.1 p.2
theorem SR.fresh{F H':Hp}{δ:DSt}{own:Nat→Zw}{ns:Zw}(s:SR Z F H σ δ own)(sm:Same H H')(nd:(adr ns).Nodup)(h:∀p∈ns,H p.1=none∧H' p.1=some p.2):Same F (addL F ns)∧SR Z (addL F ns) H' σ δ own:=by
 refine⟨Zav fun p hp=>s.le.free (h p hp).1,(s.grow sm).addF nd (fun p hp=>s.le.free (h p hp).1) (fun p hp=>(h p hp).2) (fun p hp=>s.old.free (h p hp).1) fun i p q hp hq e=>?_⟩
 have z:=(s.ok i q hq).2.2
 rw[←e,(h p hp).1]at z;cases z
theorem Z2o{fi:FD}{tg:FG}{body:FS}(h:Z9 Z (forF fi tg body) E σ H):tFor (Zc9 Z fi) (Zgd Z tg) (Z9 Z body) E σ H:=by
 obtain⟨F,δ,own,fl,s,e,k⟩:=h
 obtain⟨⟨ds,δ1⟩,e1,e2⟩:=Option.bind_eq_some_iff.mp e
 refine⟨F,δ,own,ds,δ1,s,e1,fun J H1 F1 own1 sH sF s1 yl=>?_⟩
 refine⟨fun i m σ H=>m=ds.length- i∧i≤ds.length∧∃F δ own,Same F1 F∧SR Z F H σ δ own∧forD tg body (ds.drop i) δ=some fl,⟨ds.length,by simp,Nat.zero_le _,F1,δ1,own1,Same.refl F1,s1,e2⟩,?_⟩
 rintro i m σ' H' ⟨rfl,hi,F2,δ2,own2,sF2,s2,ef⟩
 by_cases hlt:i<ds.length
 ·have hd:ds[i]? =some ds[i]:=by simp[hlt]
  obtain⟨go,yy⟩:=(yl F2 H' sF2 s2.le i).1 _ hd
  rw[List.drop_eq_getElem_cons hlt]at ef
  obtain⟨δ3,e3,e4⟩:=Option.bind_eq_some_iff.mp ef
  obtain⟨f1,e5,e6⟩:=Option.bind_eq_some_iff.mp e4
  refine .inr ⟨go,fun σ4 H4=>∃F δ own,Same F1 F∧SR Z F H4 σ4 δ own∧forD tg body (ds.drop (i+1)) δ=some fl,fun σ4 H4 ⟨F4,δ4,own4,a,b,c⟩=>⟨ds.length- (i+1),by omega,rfl,hlt,F4,δ4,own4,a,b,c⟩,fun x H3 hy=>?_⟩
  obtain⟨sm,ns,nd,hn,rp⟩:=yy x H3 hy
  obtain⟨sFn,sn⟩:=s2.fresh sm nd hn
  refine⟨addL F2 ns,δ2,own2,_,δ3,sn,rp,e3,fun σ5 own5 s5 _=>⟨addL F2 ns,δ3,own5,f1,s5,e5,?_⟩⟩
  cases f1 with
  |nx δ6=>exact fun σ6 H6 F6 own6 a b=>⟨F6,δ6,own6,sF2.trans (sFn.trans a),b,e6⟩
  |ct δ6=>exact fun σ6 H6 F6 own6 a b=>⟨F6,δ6,own6,sF2.trans (sFn.trans a),b,e6⟩
  |bk δ6=>
   cases e6
   exact fun σ6 H6 F6 own6 a b=>k σ6 H6 F6 own6 (sF.trans (sF2.trans (sFn.trans a))) b
  |rt sv=>
   cases e6
   exact fun v H6 F6 ns6 a=>k v H6 F6 ns6 (sF.trans (sF2.trans (sFn.trans a)))
  |ex x δ6=>
   cases e6
   exact fun σ6 H6 F6 own6 cls od a=>k σ6 H6 F6 own6 cls od (sF.trans (sF2.trans (sFn.trans a)))
 ·have hz:i=ds.length:=by omega
  subst hz
  rw[List.drop_length]at ef
  cases ef
  exact .inl ⟨(yl F2 H' sF2 s2.le _).2 (Nat.le_refl _),k σ' H' F2 own2 (sF.trans sF2) s2⟩
noncomputable def Zto(t:FT)(body:FS):Nat→DSt→Option Fl
 |0,_=>none
 |n+1,δ=>(t δ).bind fun p=>if p.1=true then(body p.2).bind (fun
  | .nx δ2=>Zto t body n δ2
  | .ct δ2=>Zto t body n δ2
  | .bk δ2=>some (.nx δ2)
  | .rt sv=>some (.rt sv)
  | .ex x δ2=>some (.ex x δ2))else some (.nx p.2)
@[simp] noncomputable def seqI(fe:FE):FD:=fun δ=>(fe δ).bind fun p=>(frz p.1 p.2).bind fun q=>match q.1 with
 | .lst xs=>some (xs,q.2)
 | .tup xs=>some (xs,q.2)
 |_=>none
noncomputable def iSeq(K:PySem.W.Frag)(tl:TE):TI:=fun σ H R=>tl σ H fun x H1=>(∃a,x= .ref a∧(∃xs,SqL K H1 a xs)∧R (Itl K a) H1)∨(∃a,x= .ref a∧(∃xs,SqT K H1 a xs)∧R (Itt K a) H1)
theorem Zj2{F:Hp}{a:Addr}{xs:List D}{vs:List V}(h:SqL K F a vs)(r:Reps K F xs vs):Zen K (Itl K a) F xs:=fun F' H sF sH i=>by
 have q:SqL K H a vs:=Zay (sF.trans sH) h
 refine⟨fun d hd=>?_,fun hl=>⟨vs,q,by rw[←r.length];exact hl⟩⟩
 obtain⟨v,h1,h2⟩:=r.get hd
 refine⟨⟨vs,v,q,h1⟩,fun x H' zq9=>?_⟩
 obtain⟨e1,e2⟩:=zq9
 subst e1
 have e3:=e2 vs q
 rw[h1]at e3;cases e3
 exact⟨Same.refl _,[],List.nodup_nil,fun _ h=>(nomatch h),h2.mono sF⟩
theorem Zmu{F:Hp}{a:Addr}{xs:List D}{vs:List V}(h:SqT K F a vs)(r:Reps K F xs vs):Zen K (Itt K a) F xs:=fun F' H sF sH i=>by
 have q:SqT K H a vs:=Za9 (sF.trans sH) h
 refine⟨fun d hd=>?_,fun hl=>⟨vs,q,by rw[←r.length];exact hl⟩⟩
 obtain⟨v,h1,h2⟩:=r.get hd
 refine⟨⟨vs,v,q,h1⟩,fun x H' zq9=>?_⟩
 obtain⟨e1,e2⟩:=zq9
 subst e1
 have e3:=e2 vs q
 rw[h1]at e3;cases e3
 exact⟨Same.refl _,[],List.nodup_nil,fun _ h=>(nomatch h),h2.mono sF⟩
noncomputable def Zj3(lo:Int)(n:Nat):List D:=(List.range n).map fun i=>.int (lo+(i:Nat))
theorem Zio{lo:Int}{n:Nat}{F:Hp}:Zen K (Itr lo n) F (Zj3 lo n):=fun F' H sF sH i=>by
 have hl:(Zj3 lo n).length=n:=by unfold Zj3;rw[List.length_map,List.length_range]
 refine⟨fun d hd=>?_,fun h=>by rw[hl]at h;exact h⟩
 have hi:i<n:=by
  have:=(List.getElem?_eq_some_iff.mp hd).1
  rw[hl]at this;exact this
 refine⟨hi,fun x H' zq9=>?_⟩
 obtain⟨e1,e2⟩:=zq9
 subst e1 e2
 unfold Zj3 at hd
 rw[List.getElem?_map,List.getElem?_range hi]at hd
 cases hd
 exact⟨Same.refl _,[],List.nodup_nil,fun _ h=>(nomatch h),.int _⟩
noncomputable def rngP(j:Int):Prop:=-(2^62)≤j∧j<2^62
theorem Zvi{j:Int}(h0:0≤j)(h:j≤16777216):rngP j:=⟨by omega,by omega⟩
theorem Zg1{n:Nat}(h:n≤16777216):rngP (n:Int):=Zvi (by omega) (by omega)
open Classical in
@[simp] noncomputable def rngI(fa:FA):FD:=fun δ=>(fa δ).bind fun p=>match Zdj p.1 p.2 with
 |some [.int j]=>if rngP j then some (Zj3 0 j.toNat,p.2)else none
 |_=>none
theorem Zy3{fa:FA}{R:It→Hp→Prop}(h:Zc9 Z (rngI fa) σ H R):Zxz (Zd9 Z fa) σ H R:=by
 obtain⟨F,δ,own,ds,δ',s,e,k⟩:=h
 obtain⟨⟨rvs,δ1⟩,e1,e2⟩:=Option.bind_eq_some_iff.mp e
 refine⟨F,δ,own,rvs,δ1,s,e1,fun vs H1 F1 own1 sH sF s1 r1=>?_⟩
 dsimp only at e2
 split at e2
 ·rename_i j hj
  have rn:=s1.rdAll r1 hj
  cases rn with
  |cons h t=>
   cases t
   by_cases hb:rngP j
   ·rw[if_pos hb]at e2
    cases e2
    exact⟨j,by rw[h.int],hb.1,hb.2,k _ H1 F1 own1 sH sF s1 Zio⟩
   ·rw[if_neg hb]at e2;cases e2
 ·cases e2
@[simp] noncomputable def appF(i:Nat)(fe:FE):FS:=fun δ=>match δ[i]? with
 |some (some (.ol _))=>(fe δ).bind fun p=>(frz p.1 p.2).bind fun q=>match q.2[i]? with
  |some (some (.ol xs))=>if xs.length<PySem.sizeLine then some (.nx (q.2.set i (some (.ol (xs++[q.1])))))else none
  |_=>none
 |_=>none
theorem Zcb{F:Hp}{xs:List D}{v:V}{ns:Zw}(h:Shape K F (.ol xs) v ns):∃a vs,v= .ref a∧ns=[(a,.lst vs)]∧Reps K F xs vs:=by
 cases h with
 |ol r=>exact⟨_,_,rfl,rfl,r⟩
theorem Z2p{i:Nat}{fe:FE}(h:Z9 Z (appF i fe) E σ H):Zul (tBM K "list" Zfa (tVar i) (Zjr (Ze Z fe) tNil)) E σ H:=by
 obtain⟨F,δ,own,fl,s,e,k⟩:=h
 unfold appF at e
 split at e
 ·rename_i xs0 hx0
  obtain⟨⟨rv,δ1⟩,e1,e2⟩:=Option.bind_eq_some_iff.mp e
  obtain⟨⟨d,δ2⟩,e3,e4⟩:=Option.bind_eq_some_iff.mp e2
  obtain⟨v,hv,sh⟩:=s.at' i _ hx0
  obtain⟨a,vs0,ev,en,r0⟩:=Zcb sh
  refine⟨v,hv,?_,F,δ,own,rv,δ1,s,e1,fun y H1 F1 own1 sH sF s1 r1=>?_⟩
  ·subst ev
   exact .inl ⟨rfl,vs0,.inl (.inl (s.ok i (a,.lst vs0) (by rw[en];exact List.mem_cons_self)).2.2)⟩
  obtain⟨F2,sF2,s2,r2⟩:=s1.settleR r1
  obtain⟨F3,own3,sF3,s3,r3⟩:=s2.frzR r2 e3
  dsimp only at e4
  split at e4
  ·rename_i xs hx
   by_cases hz:xs.length<PySem.sizeLine
   ·rw[if_pos hz]at e4
    cases e4
    obtain⟨v',hv',sh'⟩:=s3.at' i _ hx
    rw[hv]at hv';cases hv'
    obtain⟨b,vs,eb,en',r'⟩:=Zcb sh'
    have mb:(b,HO.lst vs)∈own3 i:=by rw[en'];exact List.mem_cons_self
    subst eb
    refine⟨b,vs,y,rfl,rfl,(s3.ok i _ mb).2.2,by rw[←r'.length];exact hz,?_⟩
    exact k σ _ F3 _ (sF.trans (sF2.trans sF3)) (s3.change (sv':=.ol (xs++[d])) (o':=.lst (vs++[y])) (ns':=[(b,.lst (vs++[y]))]) hx hv mb (.ol (r'.snoc r3)) (fun p hp=>.inl (List.mem_singleton.mp hp)) nd1)
   ·rw[if_neg hz]at e4;cases e4
  ·cases e4
 ·cases e
end
@[simp] noncomputable def Zgj(n:Nat)(ds:List D):DSt:=ds.map (fun d=>some (.fz d))++List.replicate (n- ds.length) none
theorem Zg2{N:List Str}{F H:Hp}{ds:List D}{vs:List V}(le:Same F H)(r:Reps K F ds vs):SR (ent H F:Ent K) F H (L2.start N vs) (Zgj N.length ds) fun _=>[]:=by
 have hl:=r.length
 refine⟨le,fun b o e=>.inl e,Same.refl H,?_,fun i sv e=>?_,fun _=>List.nodup_nil,fun _ _ h=>(nomatch h),fun _ _ _ _ _ h=>(nomatch h)⟩
 ·unfold L2.start Zgj
  rw[List.length_append,List.length_append,List.length_map,List.length_map,List.length_replicate,List.length_replicate,hl]
 ·unfold Zgj at e
  by_cases hi:i<ds.length
  ·rw[List.getElem?_append_left (by simpa using hi),List.getElem?_map]at e
   cases hd:ds[i]? with
   |none=>rw[hd]at e;cases e
   |some d=>
    rw[hd]at e;cases e
    obtain⟨v,h1,h2⟩:=r.get hd
    refine⟨v,?_,.fz h2⟩
    unfold L2.start
    rw[List.getElem?_append_left (by rw[List.length_map];omega),List.getElem?_map,h1]
    rfl
  ·rw[List.getElem?_append_right (by simpa using hi),List.getElem?_replicate]at e
   split at e<;> cases e
theorem Zrr{n:Nat}{g:List D→Option SV}{vs:List V}{H:Hp}{Q:VK}{E:XK}(h:spOf K n g vs H Q E):vs.length=n:=by
 obtain⟨F,ds,sv,le,r,hn,e,k⟩:=h
 rw[←r.length];exact hn
end DL
namespace DL
open PySem L2
variable{K:PySem.W.Frag}
noncomputable def xG(K:PySem.W.Frag)(g:FG):TG:=fun v σ H Q=>∃Z:Ent K,Zgd Z g v σ H Q
noncomputable def xT(K:PySem.W.Frag)(f:FT):TT:=fun σ H Q=>∃Z:Ent K,Zbb Z f σ H Q
noncomputable def xE(K:PySem.W.Frag)(f:FE):TE:=fun σ H Q=>∃Z:Ent K,Ze Z f σ H Q
noncomputable def Zrs:FT:=fun δ=>some (true,δ)
@[simp] theorem Z1o(δ:DSt):Zrs δ=some (true,δ):=rfl
@[simp] noncomputable def caps(src:List BSrc):List RV:=src.filterMap fun
 | .cap j=>some (.bw j)
 |_=>none
@[simp] noncomputable def Zor(δ:DSt):BSrc→Option SV
 | .own=>none
 | .cap j=>match δ[j]?.join with
  |some (.fz d)=>some (.fz d)
  |_=>none
 | .acc=>some (.ol [])
@[simp] noncomputable def bD(src:List BSrc)(δ:DSt):DSt:=src.map (Zor δ)
@[simp] noncomputable def Zff:BSrc→Option SV→Option SV
 | .own,_=>none
 |_,o=>o
@[simp] noncomputable def Zeb:List BSrc→DSt→DSt
 |b::r,o::t=>Zff b o::Zeb r t
 |_,t=>t
@[simp] noncomputable def Zos(src:List BSrc)(k:Nat)(g:FG)(tt:FT)(te:FE):List D→DSt→Option DSt
 | [],δ=>some δ
 |d::ds,δ=>(g.run d δ).bind fun δ1=>(tt δ1).bind fun p=>if p.1=true then(te p.2).bind fun q=>(frz q.1 q.2).bind fun r=>match r.2[k]? with
   |some (some (.ol zs))=>if zs.length<PySem.sizeLine then Zos src k g tt te ds (Zeb src (r.2.set k (some (.ol (zs++[r.1])))))else none
   |_=>none
  else Zos src k g tt te ds (Zeb src p.2)
@[simp] noncomputable def Zvj(src:List BSrc)(k:Nat)(fi:FD)(g:FG)(tt:FT)(te:FE):FE:=fun δ=>(fi δ).bind fun p=>(frzAll (caps src) p.2).bind fun c=>(Zos src k g tt te p.1 (bD src c.2)).bind fun δb=>match δb[k]? with
 |some (some (.ol ys))=>some (.tmp (.ol ys),c.2)
 |_=>none
theorem Zfg:∀(src:List BSrc) (δ:DSt),(Zeb src δ).length=δ.length
 | [],t=>by unfold Zeb;rfl
 |_::_,[]=>by unfold Zeb;rfl
 |b::r,o::t=>by show(Zff b o::Zeb r t).length=_;rw[List.length_cons,List.length_cons,Zfg r t]
theorem Zfh:∀{src:List BSrc} {δ:DSt} {i:Nat} {sv:SV},(Zeb src δ)[i]? =some (some sv)→δ[i]? =some (some sv)
 | [],_,_,_,h=>h
 |_::_,[],_,_,h=>h
 |b::r,o::t,0,sv,h=>by
  have h:some (Zff b o)=some (some sv):=h
  cases b with
  |own=>cases h
  |cap j=>exact h
  |acc=>exact h
 |b::r,o::t,i+1,sv,h=>by
  have h:(Zeb r t)[i]? =some (some sv):=h
  show t[i]? =_
  exact Zfh h
section
variable{Z:Ent K}{F H:Hp}{σ:St}{δ δ':DSt}{own:Nat→Zw}
theorem SR.forget(s:SR Z F H σ δ own)(hl:δ'.length=δ.length)(h:∀(i:Nat) (sv:SV),δ'[i]? =some (some sv)→δ[i]? =some (some sv)):SR Z F H σ δ' own:=
 ⟨s.le,s.fro,s.old,s.len.trans hl.symm,fun i sv e=>s.at' i sv (h i sv e),s.nod,s.ok,s.sep⟩
theorem SR.caps:∀{rvs:List RV} {ds:List D} {δ δ':DSt} {F:Hp} {own:Nat→Zw},(∀rv∈rvs,∃j,rv= .bw j)→SR Z F H σ δ own→DL.frzAll rvs δ=some (ds,δ')→∃F1 own1,Same F F1∧SR Z F1 H σ δ' own1
 | [],_,_,_,F,own,_,s,e=>by cases e;exact⟨F,own,Same.refl F,s⟩
 |rv::r,_,_,_,F,own,hb,s,e=>by
  obtain⟨⟨d,δ1⟩,e1,e2⟩:=Option.bind_eq_some_iff.mp e
  obtain⟨⟨ds,δ2⟩,e3,e4⟩:=Option.bind_eq_some_iff.mp e2
  cases e4
  obtain⟨j,rfl⟩:=hb rv List.mem_cons_self
  obtain⟨sv,e5,e6⟩:=Option.bind_eq_some_iff.mp e1
  cases e6
  obtain⟨F1,v,sF,_,_,s1⟩:=s.freeze (Zcp e5)
  obtain⟨F2,own2,sF2,s2⟩:=SR.caps (fun rv h=>hb rv (List.mem_cons_of_mem _ h)) s1 e3
  exact⟨F2,own2,sF.trans sF2,s2⟩
theorem SR.after{F3 H3:Hp}(s2:SR Z F H σ δ own)(sH3:Same H H3)(sF3:Same F F3)(le3:Same F3 H3)(fro3:∀(b:Addr) (o:HO),F3 b=some o→F b=some o∨H b=none):SR Z F3 H3 σ δ own:=by
 refine⟨le3,fun b o e=>?_,s2.old.trans sH3,s2.len,fun i sw ei=>?_,s2.nod,fun i p hp=>?_,s2.sep⟩
 ·rcases fro3 b o e with z|z
  ·exact s2.fro b o z
  ·exact .inr (s2.old.free z)
 ·obtain⟨w,h1,h2⟩:=s2.at' i sw ei
  exact⟨w,h1,h2.mono sF3⟩
 ·obtain⟨a,b,c⟩:=s2.ok i p hp
  refine⟨?_,b,sH3 _ _ c⟩
  cases z:F3 p.1 with
  |none=>rfl
  |some u=>
   rcases fro3 _ u z with y|y
   ·rw[a]at y;cases y
   ·rw[c]at y;cases y
end
structure SrcOk(src:List BSrc)(k:Nat):Prop where
 acc:src[k]? =some .acc
 uni:∀i:Nat,src[i]? =some .acc→i=k
theorem Zrt{Z:Ent K}{F H:Hp}{σ:St}{δ:DSt}{own:Nat→Zw}{src:List BSrc}{k:Nat}{acc:Addr}(S:SrcOk src k)(s:SR Z F H σ δ own)(ha:H acc=none):
  SR (ent H F:Ent K) F (upd H acc (.lst [])) (bSt src σ acc) (bD src δ) (fun i=>if i=k then[(acc,.lst [])]else[]):=by
 have mem:∀{i:Nat} {p:Addr×HO},p∈(if i=k then[(acc,HO.lst [])]else[])→i=k∧p=(acc,.lst []):=fun{i p} h=>by
  by_cases hi:i=k
  ·rw[if_pos hi]at h;exact⟨hi,List.mem_singleton.mp h⟩
  ·rw[if_neg hi]at h;exact nomatch h
 refine⟨s.le.trans (Zbr ha),fun b o e=>.inl e,Zbr ha,by unfold bSt bD;rw[List.length_map,List.length_map],fun i sv e=>?_,fun i=>?_,fun i p hp=>?_,fun i j p q hij hp hq=>?_⟩
 ·unfold bD at e
  rw[List.getElem?_map]at e
  cases hq:src[i]? with
  |none=>rw[hq]at e;cases e
  |some q=>
   rw[hq]at e
   have e:Zor δ q=some sv:=Option.some.inj e
   cases q with
   |own=>cases e
   |acc=>
    cases e
    have hi:=S.uni i hq
    refine⟨.ref acc,by unfold bSt;rw[List.getElem?_map,hq];rfl,?_⟩
    show Shape K F (.ol []) (.ref acc) (if i=k then[(acc,.lst [])]else[])
    rw[if_pos hi]
    exact .ol .nil
   |cap j=>
    have hi:i≠k:=fun z=>by rw[z,S.acc]at hq;cases hq
    unfold Zor at e
    dsimp only at e
    split at e
    ·rename_i d hd
     cases e
     obtain⟨v,h1,h2⟩:=s.at' j _ (Zcp hd)
     refine⟨v,by unfold bSt;rw[List.getElem?_map,hq];show some (σ[j]?).join=_;rw[h1];rfl,?_⟩
     show Shape K F (.fz d) v (if i=k then[(acc,.lst [])]else[])
     rw[if_neg hi]
     exact .fz (Zb9 h2)
    ·cases e
 ·show(adr (if i=k then[(acc,HO.lst [])]else[])).Nodup
  by_cases hi:i=k
  ·rw[if_pos hi];exact nd1
  ·rw[if_neg hi];exact List.nodup_nil
 ·obtain⟨_,rfl⟩:=mem hp
  exact⟨s.le.free ha,ha,Zy⟩
 ·obtain⟨z,_⟩:=mem hp
  obtain⟨y,_⟩:=mem hq
  exact absurd (z.trans y.symm) hij
theorem Zy4{Z:Ent K}{H:Hp}{σ:St}{Q:VK}{src:List BSrc}{k:Nat}{fi:FD}{g:FG}{tt:FT}{te:FE}(S:SrcOk src k)(hk:k∉g.tch)(h:Ze Z (Zvj src k fi g tt te) σ H Q):
  Zyr src (Zc9 Z fi) (xG K g) (xT K tt) (xE K te) σ H Q:=by
 obtain⟨F,δ,own,rv,δ',s,e,k0⟩:=h
 obtain⟨⟨ds,δ1⟩,e1,e2⟩:=Option.bind_eq_some_iff.mp e
 obtain⟨⟨cs,δ2⟩,e3,e4⟩:=Option.bind_eq_some_iff.mp e2
 obtain⟨δf,e5,e6⟩:=Option.bind_eq_some_iff.mp e4
 refine⟨F,δ,own,ds,δ1,s,e1,fun J H1 F1 own1 sH sF s1 yl acc ha=>?_⟩
 obtain⟨F2,own2,sF2,s2⟩:=s1.caps (fun rv hr=>by
  unfold DL.caps at hr
  obtain⟨b,_,hb⟩:=List.mem_filterMap.mp hr
  cases b with
  |own=>cases hb
  |acc=>cases hb
  |cap j=>cases hb;exact⟨j,rfl⟩) e3
 have s3:=Zrt S s2 ha
 have hacc0:(bSt src σ acc)[k]? =some (some (.ref acc)):=by unfold bSt;rw[List.getElem?_map,S.acc];rfl
 refine⟨fun i m σ' H=>m=ds.length- i∧i≤ds.length∧σ'[k]? =some (some (.ref acc))∧∃F δ own,Same F2 F∧SR (ent H1 F2:Ent K) F H σ' δ own∧Zos src k g tt te (ds.drop i) δ=some δf,
  ⟨ds.length,by simp,Nat.zero_le _,hacc0,F2,_,_,Same.refl F2,s3,e5⟩,?_⟩
 rintro i m σ4 H4 ⟨rfl,hi,hacc,F4,δ4,own4,sF4,s4,ef⟩
 by_cases hlt:i<ds.length
 ·have hd:ds[i]? =some ds[i]:=by simp[hlt]
  obtain⟨go,yy⟩:=(yl F4 H4 (sF2.trans sF4) s4.le i).1 _ hd
  rw[List.drop_eq_getElem_cons hlt]at ef
  obtain⟨δ5,e7,e8⟩:=Option.bind_eq_some_iff.mp ef
  obtain⟨⟨b,δ6⟩,e9,e10⟩:=Option.bind_eq_some_iff.mp e8
  refine .inr ⟨go,fun x H5 hy=>?_⟩
  obtain⟨sm,ns,nd,hn,rp⟩:=yy x H5 hy
  obtain⟨sFn,sn⟩:=s4.fresh sm nd hn
  refine⟨(ent H1 F2:Ent K),addL F4 ns,δ4,own4,_,δ5,sn,rp,e7,fun σ6 own6 s6 t6=>⟨(ent H1 F2:Ent K),addL F4 ns,δ5,own6,b,δ6,s6,e9,fun H7 F7 own7 sH7 sF7 s7=>?_⟩⟩
  have hacc6:σ6[k]? =some (some (.ref acc)):=(t6 k hk).trans hacc
  cases b with
  |false=>
   dsimp only
   rw[if_neg Bool.false_ne_true]at e10⊢
   exact⟨ds.length- (i+1),by omega,rfl,hlt,hacc6,F7,_,own7,sF4.trans (sFn.trans sF7),s7.forget (Zfg src δ6) (fun j sv hj=>Zfh hj),e10⟩
  |true=>
   dsimp only
   rw[if_pos rfl]at e10⊢
   obtain⟨⟨rv8,δ8⟩,e11,e12⟩:=Option.bind_eq_some_iff.mp e10
   obtain⟨⟨d9,δ9⟩,e13,e14⟩:=Option.bind_eq_some_iff.mp e12
   refine⟨(ent H1 F2:Ent K),F7,δ6,own7,rv8,δ8,s7,e11,fun y H8 F8 own8 sH8 sF8 s8 r8=>?_⟩
   obtain⟨F9,sF9,s9,r9⟩:=s8.settleR r8
   obtain⟨F10,own10,sF10,s10,r10⟩:=s9.frzR r9 e13
   dsimp only at e14
   split at e14
   ·rename_i zs hz
    by_cases hzl:zs.length<PySem.sizeLine
    ·rw[if_pos hzl]at e14
     obtain⟨v',hv',sh'⟩:=s10.at' k _ hz
     rw[hacc6]at hv';cases hv'
     obtain⟨b,vs,eb,en',r'⟩:=Zcb sh'
     cases eb
     have mb:(acc,HO.lst vs)∈own10 k:=by rw[en'];exact List.mem_cons_self
     refine⟨acc,vs,y,rfl,rfl,(s10.ok k _ mb).2.2,by rw[←r'.length];exact hzl,?_⟩
     have s11:=s10.change (sv':=.ol (zs++[d9])) (o':=.lst (vs++[y])) (ns':=[(acc,.lst (vs++[y]))]) hz hacc6 mb (.ol (r'.snoc r10)) (fun p hp=>.inl (List.mem_singleton.mp hp)) nd1
     exact⟨ds.length- (i+1),by omega,rfl,hlt,hacc6,F10,_,_,sF4.trans (sFn.trans (sF7.trans (sF8.trans (sF9.trans sF10)))),s11.forget (Zfg src _) (fun j sv hj=>Zfh hj),e14⟩
    ·rw[if_neg hzl]at e14;cases e14
   ·cases e14
 ·have hz:i=ds.length:=by omega
  subst hz
  rw[List.drop_length]at ef
  cases ef
  refine .inl ⟨(yl F4 H4 (sF2.trans sF4) s4.le _).2 (Nat.le_refl _),?_⟩
  dsimp only at e6
  split at e6
  ·rename_i ys hys
   cases e6
   obtain⟨v',hv',sh'⟩:=s4.at' k _ hys
   rw[hacc]at hv';cases hv'
   obtain⟨b,vs,eb,en',r'⟩:=Zcb sh'
   cases eb
   have mb:(acc,HO.lst vs)∈own4 k:=by rw[en'];exact List.mem_cons_self
   obtain⟨o1,o2,o3⟩:=s4.ok k _ mb
   refine k0 (.ref acc) H4 F4 own2 (sH.trans s4.old) (sF.trans (sF2.trans sF4)) (s2.after s4.old sF4 s4.le fun b o e=>s4.fro b o e) ⟨[(acc,.lst vs)],.ol r',nd1,fun p hp=>?_,fun j p q hp hq e=>?_⟩
   ·obtain rfl:=List.mem_singleton.mp hp
    exact⟨o1,s2.old.free ha,o3⟩
   ·obtain rfl:=List.mem_singleton.mp hp
    have z:=(s2.ok j q hq).2.2
    have e':acc=q.1:=e
    rw[←e',ha]at z;cases z
  ·cases e6
end DL
namespace DL
open PySem PySem.Spec PyProof.Rows L2
variable{K:PySem.W.Frag}
variable{Z:Ent K}
@[simp] noncomputable def intI(f:Int→Int→D):D→D→Option SV
 | .int i,.int j=>some (.fz (f i j))
 |_,_=>none
@[simp] noncomputable def intC(C:Int→Int→Bool)(f:Int→Int→D):D→D→Option SV
 | .int i,.int j=>if C i j=true then some (.fz (f i j))else none
 |_,_=>none
theorem Zvk{g:Int→Int→V}{f:Int→Int→D}(hr:∀F i j,Rep K F (f i j) (g i j)):Zaq Z (rI0 g) (intI f):=by
 intro F H σ δ own x y d1 d2 sv Q s r1 r2 e k
 unfold intI at e
 split at e
 ·cases e
  exact⟨_,_,r1.int,r2.int,k.fz s (hr _ _ _)⟩
 ·cases e
theorem p_rI{C:Int→Int→Prop}{c:Int→Int→Bool}{g:Int→Int→V}{f:Int→Int→D}(hc:∀i j,c i j=true→C i j)(hr:∀F i j,Rep K F (f i j) (g i j)):Zaq Z (rI C g) (intC c f):=by
 intro F H σ δ own x y d1 d2 sv Q s r1 r2 e k
 unfold intC at e
 split at e
 ·split at e
  ·rename_i hcc
   cases e
   exact⟨_,_,r1.int,r2.int,hc _ _ hcc,k.fz s (hr _ _ _)⟩
  ·cases e
 ·cases e
@[simp] noncomputable def subD:D→D→Option SV:=intI fun i j=>.int (i- j)
noncomputable def cMul(i j:Int):Bool:=(decide (-(2^64)<i)&&decide (i<2^64))|| (decide (-(2^64)<j)&&decide (j<2^64))
@[simp] noncomputable def mulD:D→D→Option SV:=intC cMul fun i j=>.int (i*j)
@[simp] noncomputable def cDiv(i j:Int):Bool:=decide (0<j)&&decide (j<1073741824)
@[simp] noncomputable def Zes:D→D→Option SV:=intC cDiv fun i j=>.int (i / j)
@[simp] noncomputable def cMod(i j:Int):Bool:=decide (0<j)
@[simp] noncomputable def modD:D→D→Option SV:=intC cMod fun i j=>.int (i % j)
@[simp] noncomputable def cPow(i j:Int):Bool:=decide (0≤j)&&decide (j≤1000000)&&decide (i.natAbs<2^64)
@[simp] noncomputable def powD:D→D→Option SV:=intC cPow fun i j=>.int (i^j.toNat)
theorem Z2q:Zaq Z (rI0 fun i j=>V.int (i- j)) subD:=Zvk fun _ _ _=>.int _
theorem Z2r:Zaq Z (rI CMul fun i j=>V.int (i*j)) mulD:=p_rI (fun i j h=>by
 unfold cMul at h
 simp only[Bool.or_eq_true,Bool.and_eq_true,decide_eq_true_eq]at h
 exact h) fun _ _ _=>.int _
theorem Zy5:Zaq Z (rI CDiv fun i j=>V.int (i / j)) Zes:=p_rI (fun i j h=>by
 unfold cDiv at h
 simp only[Bool.and_eq_true,decide_eq_true_eq]at h
 exact h) fun _ _ _=>.int _
theorem Z2s:Zaq Z (rI (fun _ j=>0<j) fun i j=>V.int (i % j)) modD:=p_rI (fun i j h=>by
 unfold cMod at h
 simp only[decide_eq_true_eq]at h
 exact h) fun _ _ _=>.int _
@[simp] noncomputable def ltD:D→D→Option SV:=intI fun i j=>.bl (decide (i<j))
@[simp] noncomputable def leD:D→D→Option SV:=intI fun i j=>.bl (decide (i≤j))
@[simp] noncomputable def gtD:D→D→Option SV:=intI fun i j=>.bl (decide (j<i))
@[simp] noncomputable def geD:D→D→Option SV:=intI fun i j=>.bl (decide (j≤i))
theorem p_lt:Zaq Z (rI0 fun i j=>V.bl (decide (i<j))) ltD:=Zvk fun _ _ _=>.bl _
theorem p_le:Zaq Z (rI0 fun i j=>V.bl (decide (i≤j))) leD:=Zvk fun _ _ _=>.bl _
noncomputable def rStr:R2:=fun x y H Q=>∃i j,x= .str i∧y= .str j∧i.length+j.length≤PySem.sizeLine∧Q (.str (i++j)) H
noncomputable def Zy6(K:PySem.W.Frag):R2:=fun x y H Q=>∃l b xs zs,x= .ref l∧y= .ref b∧SqL K H l xs∧SqL K H b zs∧xs.length+zs.length≤PySem.sizeLine∧∀p,H p=none→Q (.ref p) (upd H p (.lst (xs++zs)))
theorem Zvl{X:Cx}:OpR X (binaryOp .Add) (Zy6 X.K):=by
 intro pins s σ H x y v u Q I rx ry h
 obtain⟨l,b,xs,zs,rfl,rfl,hH,hB,hz,q⟩:=h
 cases rx
 cases ry
 obtain⟨its,r,pl,z⟩:=I.list hH
 obtain⟨its2,r2,pl2,z2⟩:=I.list hB
 have hl:=r.length
 have hl2:=r2.length
 obtain⟨⟨cls,dd,data,sl⟩,ho,hc,n,hd⟩:=pl.isList
 obtain⟨⟨cls2,dd2,data2,sl2⟩,ho2,hc2,n2,hd2⟩:=pl2.isList
 simp only at hc hd hc2 hd2
 subst hc hd hc2 hd2
 have ea:its.toArray++its2.toArray=(its++its2).toArray:=by simp
 refine concat_meets ⟨_,ho,rfl⟩ ⟨_,ho2,rfl⟩ noFill_list_add seq_list_add PySem.F.slot_list_add PySem.F.entry_list_add (PySem.F.args_list_add_2 _ _) (list_addW l b its.toArray its2.toArray n n2 dd dd2 sl sl2 (by rw[List.size_toArray,List.size_toArray];omega)) ⟨ho,ho2,?_⟩
 rw[ea]
 exact⟨.ref _,_,I.lnew (t':=s.toks) (r.append r2) (by rw[List.length_append];omega),rfl,q _ I.fresh⟩
noncomputable def Zy7(K:PySem.W.Frag):R2:=fun x y H Q=>rI0 (fun i j=>V.int (i+j)) x y H Q∨(rStr x y H Q∨Zy6 K x y H Q)
theorem Zvm{X:Cx}:OpR X (binaryOp .Add) (Zy7 X.K):=Zx1.or (Zmj.or Zvl)
@[simp] noncomputable def addD:D→D→Option SV
 | .int i,.int j=>some (.fz (.int (i+j)))
 | .str x,.str y=>if x.length+y.length≤PySem.sizeLine then some (.fz (.str (x++y)))else none
 | .lst xs,.lst ys=>if xs.length+ys.length≤PySem.sizeLine then some (.ol (xs++ys))else none
 |_,_=>none
theorem Z2t:Zaq Z (Zy7 K) addD:=by
 intro F H σ δ own x y d1 d2 sv Q s r1 r2 e k
 unfold addD at e
 split at e
 ·cases e
  exact .inl ⟨_,_,r1.int,r2.int,k.fz s (.int _)⟩
 ·split at e
  ·rename_i hz
   cases e
   exact .inr (.inl ⟨_,_,r1.str,r2.str,hz,k.fz s (.str _)⟩)
  ·cases e
 ·split at e
  ·rename_i hz
   cases e
   obtain⟨a,vs,ex,ha,ra⟩:=r1.lst s.le
   obtain⟨b,us,ey,hb,rb⟩:=r2.lst s.le
   exact .inr (.inr ⟨a,b,vs,us,ex,ey,ha,hb,by rw[←ra.length,←rb.length];exact hz,fun p hp=>k.lst s (ra.append rb) hp⟩)
  ·cases e
 ·cases e
@[simp] noncomputable def eqS:D→D→Option Bool
 | .non,.non=>some true
 | .non,.int _=>some false
 | .int _,.non=>some false
 | .non,.bl _=>some false
 | .bl _,.non=>some false
 | .non,.str _=>some false
 | .str _,.non=>some false
 | .int i,.int j=>some (decide (i=j))
 | .bl i,.bl j=>some (decide (i=j))
 | .str i,.str j=>some (decide (i=j))
 | .int _,.str _=>some false
 | .str _,.int _=>some false
 | .bl _,.str _=>some false
 | .str _,.bl _=>some false
 |_,_=>none
theorem Ztp{F H:Hp}{d1 d2:D}{x y:V}{b:Bool}(e:eqS d1 d2=some b)(r1:RepN K F H d1 x)(r2:RepN K F H d2 y):scal x y=true∧b=decide (x=y):=by
 unfold eqS at e
 split at e<;> cases e
 ·rw[r1.non,r2.non];exact⟨rfl,by simp⟩
 ·rw[r1.non,r2.int];exact⟨rfl,by simp⟩
 ·rw[r1.int,r2.non];exact⟨rfl,by simp⟩
 ·rw[r1.non,r2.bl];exact⟨rfl,by simp⟩
 ·rw[r1.bl,r2.non];exact⟨rfl,by simp⟩
 ·rw[r1.non,r2.str];exact⟨rfl,by simp⟩
 ·rw[r1.str,r2.non];exact⟨rfl,by simp⟩
 ·rw[r1.int,r2.int];exact⟨rfl,by simp⟩
 ·rw[r1.bl,r2.bl];exact⟨rfl,by simp⟩
 ·rw[r1.str,r2.str];exact⟨rfl,by simp⟩
 ·rw[r1.int,r2.str];exact⟨rfl,by simp⟩
 ·rw[r1.str,r2.int];exact⟨rfl,by simp⟩
 ·rw[r1.bl,r2.str];exact⟨rfl,by simp⟩
 ·rw[r1.str,r2.bl];exact⟨rfl,by simp⟩
@[simp] noncomputable def eqD(d1 d2:D):Option SV:=(eqS d1 d2).bind fun b=>some (.fz (.bl b))
@[simp] noncomputable def neD(d1 d2:D):Option SV:=(eqS d1 d2).bind fun b=>some (.fz (.bl (!b)))
theorem p_eq:Zaq Z rEq eqD:=by
 intro F H σ δ own x y d1 d2 sv Q s r1 r2 e k
 obtain⟨b,e1,e2⟩:=Option.bind_eq_some_iff.mp e
 cases e2
 obtain⟨h1,h2⟩:=Ztp e1 r1 r2
 subst h2
 exact⟨h1,k.fz s (.bl _)⟩
theorem p_ne:Zaq Z rNe neD:=by
 intro F H σ δ own x y d1 d2 sv Q s r1 r2 e k
 obtain⟨b,e1,e2⟩:=Option.bind_eq_some_iff.mp e
 cases e2
 obtain⟨h1,h2⟩:=Ztp e1 r1 r2
 subst h2
 exact⟨h1,k.fz s (.bl _)⟩
@[simp] noncomputable def D.isNon:D→Bool
 | .non=>true
 |_=>false
theorem Zru{F H:Hp}{d:D}{x:V}(r:RepN K F H d x):decide (x= .non)=d.isNon:=by
 obtain⟨sv,ns,e,n,sh,hp⟩:=r
 subst e
 cases sh with
 |fz r=>cases r<;> rfl
 |_=>rfl
@[simp] noncomputable def isND(d1 d2:D):Option SV:=if d2.isNon=true then some (.fz (.bl d1.isNon))else none
@[simp] noncomputable def Z55(d1 d2:D):Option SV:=if d2.isNon=true then some (.fz (.bl (!d1.isNon)))else none
theorem Zrv{d:D}(h:d.isNon=true):d= .non:=by cases d<;> first|rfl|cases h
theorem Z2u:Zaq Z (fun x y H Q=>y=V.non∧Q (.bl (decide (x= .non))) H) isND:=by
 intro F H σ δ own x y d1 d2 sv Q s r1 r2 e k
 unfold isND at e
 split at e
 ·rename_i h
  cases e
  have:=Zrv h
  subst this
  exact⟨r2.non,by rw[Zru r1];exact k.fz s (.bl _)⟩
 ·cases e
theorem Reps.atI{F:Hp}{xs:List D}{vs:List V}{i:Int}{d:D}(r:Reps K F xs vs)(e:L2.atI xs i=some d):∃v,L2.atI vs i=some v∧Rep K F d v:=by
 unfold L2.atI at e⊢
 obtain⟨j,e1,e2⟩:=Option.bind_eq_some_iff.mp e
 obtain⟨v,h1,h2⟩:=r.get e2
 exact⟨v,Option.bind_eq_some_iff.mpr ⟨j,by rw[←r.length];exact e1,h1⟩,h2⟩
@[simp] noncomputable def ixD:D→D→Option SV
 | .lst xs,.int i=>(L2.atI xs i).bind fun d=>some (.fz d)
 | .tup xs,.int i=>(L2.atI xs i).bind fun d=>some (.fz d)
 | .str z,.int i=>if z.length≤PySem.sizeLine then(L2.atI z.cps.toList i).bind fun c=>some (.fz (.str ⟨#[c]⟩))else none
 |_,_=>none
theorem p_ix:Zaq Z (rIx K) ixD:=by
 intro F H σ δ own x y d1 d2 sv Q s r1 r2 e k
 unfold ixD at e
 split at e
 ·obtain⟨d,e1,e2⟩:=Option.bind_eq_some_iff.mp e
  cases e2
  obtain⟨a,vs,ex,ha,ra⟩:=r1.lst s.le
  obtain⟨v,h1,h2⟩:=ra.atI e1
  exact .inl ⟨a,vs,_,v,ex,r2.int,ha,h1,k.fz s h2⟩
 ·obtain⟨d,e1,e2⟩:=Option.bind_eq_some_iff.mp e
  cases e2
  obtain⟨a,vs,ex,ha,ra⟩:=r1.tup s.le
  obtain⟨v,h1,h2⟩:=ra.atI e1
  exact .inr (.inl ⟨a,vs,_,v,ex,r2.int,ha,h1,k.fz s h2⟩)
 ·split at e
  ·rename_i hz
   obtain⟨c,e1,e2⟩:=Option.bind_eq_some_iff.mp e
   cases e2
   exact .inr (.inr ⟨_,_,c,r1.str,r2.int,hz,e1,k.fz s (.str _)⟩)
  ·cases e
 ·cases e
noncomputable abbrev FO:=DSt→Option (Option Int×DSt)
noncomputable def Zdv(Z:Ent K)(f:FO):TO:=fun σ H Q=>∃F δ own o δ',SR Z F H σ δ own∧f δ=some (o,δ')∧∀H' F' own',Same H H'→Same F F'→SR Z F' H' σ δ' own'→Q o H'
@[simp] noncomputable def Zcj:FO:=fun δ=>some (none,δ)
@[simp] noncomputable def Zdw(fe:FE):FO:=fun δ=>(fe δ).bind fun p=>match p.1 with
 | .tmp (.fz (.int i))=>some (some i,p.2)
 |_=>none
section
variable{H:Hp}{σ:L2.St}{Q:VK}{R:Option Int→Hp→Prop}
theorem Zrw(h:Zdv Z Zcj σ H R):Zn2 σ H R:=by
 obtain⟨F,δ,own,o,δ',s,e,k⟩:=h
 cases e
 exact k H F own (Same.refl H) (Same.refl F) s
theorem Zy8{fe:FE}(h:Zdv Z (Zdw fe) σ H R):Zye (Ze Z fe) σ H R:=by
 obtain⟨F,δ,own,b,δ',s,e,k⟩:=h
 obtain⟨⟨rv,δ1⟩,e1,e2⟩:=Option.bind_eq_some_iff.mp e
 refine⟨F,δ,own,rv,δ1,s,e1,fun v H1 F1 own1 sH sF s1 r1=>?_⟩
 dsimp only at e2
 split at e2
 ·cases e2
  obtain⟨ns,t⟩:=r1
  cases Zb9 t.sh
  exact⟨_,rfl,k H1 F1 own1 sH sF s1⟩
 ·cases e2
@[simp] noncomputable def slF(g:D→Option Int→Option Int→Option SV)(fe:FE)(fl fh:FO):FE:=fun δ=>(fe δ).bind fun p=>(fl p.2).bind fun l=>(fh l.2).bind fun h=>(rdv p.1 h.2).bind fun d=>(g d l.1 h.1).bind fun sv=>some (.tmp sv,h.2)
noncomputable def Zy9(Z:Ent K)(r:V→Option Int→Option Int→Hp→VK→Prop)(g:D→Option Int→Option Int→Option SV):Prop:=
 ∀(F H:Hp) (σ:L2.St) (δ:DSt) (own:Nat→Zw) (x:V) (d:D) (lo hi:Option Int) (sv:SV) (Q:VK),SR Z F H σ δ own→RepN K F H d x→g d lo hi=some sv→Fin Z F H σ δ own sv Q→r x lo hi H Q
theorem l_sl{r:V→Option Int→Option Int→Hp→VK→Prop}{g:D→Option Int→Option Int→Option SV}{fe:FE}{fl fh:FO}(hg:Zy9 Z r g)(h:Ze Z (slF g fe fl fh) σ H Q):tSl r (Ze Z fe) (Zdv Z fl) (Zdv Z fh) σ H Q:=by
 obtain⟨F,δ,own,rv,δ',s,e,k⟩:=h
 obtain⟨⟨rv1,δ1⟩,e1,e⟩:=Option.bind_eq_some_iff.mp e
 obtain⟨⟨lo,δ2⟩,e2,e⟩:=Option.bind_eq_some_iff.mp e
 obtain⟨⟨hi,δ3⟩,e3,e⟩:=Option.bind_eq_some_iff.mp e
 obtain⟨d,e4,e⟩:=Option.bind_eq_some_iff.mp e
 obtain⟨sv,e5,e⟩:=Option.bind_eq_some_iff.mp e
 cases e
 refine⟨F,δ,own,rv1,δ1,s,e1,fun v H1 F1 own1 sH1 sF1 s1 r1=>?_⟩
 obtain⟨F1',sF1',s1',r1'⟩:=s1.settleR r1
 refine⟨F1',δ1,own1,lo,δ2,s1',e2,fun H2 F2 own2 sH2 sF2 s2=>⟨F2,δ2,own2,hi,δ3,s2,e3,fun H3 F3 own3 sH3 sF3 s3=>?_⟩⟩
 exact hg F3 H3 σ δ3 own3 v d lo hi sv Q s3 (s3.rd (r1'.mono (sF2.trans sF3)) e4) e5 fun q H4 F4 ns sH4 sF4 s4 t4=>
  k q H4 F4 own3 (sH1.trans (sH2.trans (sH3.trans sH4))) (sF1.trans (sF1'.trans (sF2.trans (sF3.trans sF4)))) s4 ⟨ns,t4⟩
end
noncomputable def cutD(xs:List D)(lo hi:Option Int):List D:=(xs.drop (HT.sIx xs.length 0 lo)).take (HT.sIx xs.length xs.length hi- HT.sIx xs.length 0 lo)
theorem Reps.cut{F:Hp}{xs:List D}{vs:List V}(r:Reps K F xs vs)(lo hi:Option Int):Reps K F (cutD xs lo hi) (cutV vs lo hi):=by
 unfold cutD cutV
 rw[r.length]
 exact(r.drop _).take _
noncomputable def rSlS:V→Option Int→Option Int→Hp→VK→Prop:=fun x lo hi H Q=>∃z,x= .str z∧z.length≤PySem.sizeLine∧Q (.str (Txt.slice z lo hi)) H
theorem Zza{X:Cx}:SlR X rSlS:=by
 intro pins s σ H x v vl vu lo hi sl Q I rx hs pl pu h
 obtain⟨z,rfl,hz,q⟩:=h
 obtain⟨t,rfl⟩:=rx
 refine⟨"str",_,F.slot_str_getitem.lookup,typeIs_str _ _ _,?_⟩
 have fin:∀(t':Tok) (k:Nat),EP X pins σ Q (.str (Txt.slice z lo hi) t') {s with toks:=k}:=fun t' k=>⟨.str (Txt.slice z lo hi),H,I.tok _,⟨_,rfl⟩,q⟩
 cases pl with
 |none=>cases pu with
  |none=>exact wpAny_getItem_str_slice (l:=none) (u:=none) (st:=none) hs rfl (post_val_or_str ⟨Nat.le_trans (Txt.slice_le z _ _) hz,fin⟩)
  |int j tj=>exact wpAny_getItem_str_slice (l:=none) (u:=some (j,tj)) (st:=none) hs rfl (post_val_or_str ⟨Nat.le_trans (Txt.slice_le z _ _) hz,fin⟩)
 |int i ti=>cases pu with
  |none=>exact wpAny_getItem_str_slice (l:=some (i,ti)) (u:=none) (st:=none) hs rfl (post_val_or_str ⟨Nat.le_trans (Txt.slice_le z _ _) hz,fin⟩)
  |int j tj=>exact wpAny_getItem_str_slice (l:=some (i,ti)) (u:=some (j,tj)) (st:=none) hs rfl (post_val_or_str ⟨Nat.le_trans (Txt.slice_le z _ _) hz,fin⟩)
@[simp] noncomputable def slD:D→Option Int→Option Int→Option SV
 | .lst xs,lo,hi=>some (.ol (cutD xs lo hi))
 | .str z,lo,hi=>if z.length≤PySem.sizeLine then some (.fz (.str (Txt.slice z lo hi)))else none
 |_,_,_=>none
theorem p_sl:Zy9 Z (fun x lo hi H Q=>rSlL K x lo hi H Q∨rSlS x lo hi H Q) slD:=by
 intro F H σ δ own x d lo hi sv Q s r1 e k
 unfold slD at e
 split at e
 ·cases e
  obtain⟨a,vs,ex,ha,ra⟩:=r1.lst s.le
  exact .inl ⟨a,vs,ex,ha,fun p hp=>k.lst s (ra.cut _ _) hp⟩
 ·split at e
  ·rename_i hz
   cases e
   exact .inr ⟨_,r1.str,hz,k.fz s (.str _)⟩
  ·cases e
 ·cases e
end DL
namespace L2
open PySem PySem.Spec PyProof.Rows
section
variable{X:Cx}{tg:Expr}
noncomputable def Ite(K:PySem.W.Frag)(a:Addr):It:=
 ⟨fun i H=>∃xs x,SqL K H a xs∧xs[i]? =some x,fun i H x H'=>∃p v,x= .ref p∧H p=none∧H'=upd H p (.tup [.int (i:Nat),v])∧∀xs,SqL K H a xs→xs[i]? =some v,fun i H=>∃xs,SqL K H a xs∧xs.length≤i⟩
theorem Inv.turnedT{pins:List (Addr×Obj)}{σ:L2.St}{H:Hp}{s:Shared}{h':Heap}{t':Nat}{e it T:Addr}{xs:List V}{its:List Value}(I:Inv X pins σ H s)(k:∀b o,b≠e→b≠it→s.heap.get? b=some o→h'.get? b=some o)
  (f1:FpOk X pins H e) (f2:FpOk X pins H it) (hT:T=s.heap.objs.size) (ht:IsTup h' T its.toArray) (rv:Vals xs its) (hz:xs.length≤sizeLine) (he:∃o,h'.get? e=some o) (hi:∃o,h'.get? it=some o):
  Inv X pins σ (upd H T (.tup xs)) {s with heap:=h',toks:=t'}:=by
 have hTn:H T=none:=by rw[hT];exact I.hok.fresh (Nat.le_refl _)
 have neT:∀b o,s.heap.get? b=some o→b≠T:=fun b o q=>by rw[hT];exact Nat.ne_of_lt (Heap.lt_size q)
 have ntr:∀b u,H b=some u→b≠e∧b≠it:=fun b u q=>⟨(fun z=>by rw[z,f1.1]at q;cases q),(fun z=>by rw[z,f2.1]at q;cases q)⟩
 refine I.step (g':=s.gens) (d':=s.drawn) (ch:=[e,it]) (fun b hb=>?_) (fun b o _ _ hc q _=>k b o (fun z=>hc (by simp[z])) (fun z=>hc (by simp[z])) q)
  (fun b o _ _ hc q _=>⟨o.slots,k b o (fun z=>hc (by simp[z])) (fun z=>hc (by simp[z])) q⟩) (fun b o _ q n=>by rw[Zr (neT b o q)];exact n)
  (fun b o hc q=>⟨o,k b o (fun z=>hc (by simp[z])) (fun z=>hc (by simp[z])) q⟩) (fun b ys q=>by rw[Zr (Zam q hTn)];exact q) (fun b o u q=>by rw[Zr (Zam q hTn)];exact q)
  (fun b ps q=>⟨#[],by rw[Zr (Zam q hTn),q];simp⟩) (fun m hm=>?_) (fun b u q=>?_) I.bare
 ·have hb':b=e∨b=it:=by simpa using hb
  rcases hb' with z|z
  ·subst z;obtain⟨_,a1,_,a3,a4,a5⟩:=f1;exact⟨a3,a1,a4,a5⟩
  ·subst z;obtain⟨_,a1,_,a3,a4,a5⟩:=f2;exact⟨a3,a1,a4,a5⟩
 ·obtain⟨o,es,ep,ho,r⟩:=hm
  exact⟨o,es,ep,k _ o (Ne.symm f1.2.1) (Ne.symm f2.2.1) ho,r⟩
 ·by_cases hb:b=T
  ·subst hb
   rw[Zy]at q;cases q
   exact⟨hz,its,rv,ht⟩
  ·rw[Zr hb]at q
   refine(I.hok b u q).stay (fun c v hc z=>?_) (fun c z=>by rw[Zr (Zam z hTn)];exact z) fun c ys z=>by rw[Zr (Zam z hTn)];exact z
   rcases hc with y|y
   ·rw[y]at z⊢;exact k _ _ (ntr b u q).1 (ntr b u q).2 z
   ·exact k _ _ (ntr c _ y).1 (ntr c _ y).2 z
theorem Zot{P:Program}{w:World}{K:PySem.W.Frag}{elts:List Expr}{kk:Nat}{tpos:Pos}(a e it:Addr)(hei:e≠it):Turn P w K (.Tuple elts kk tpos) (Ite K a) [e,it] e (fun i h=>(∃old,IsEnum h e it ((i:Nat):Int) old)∧h.IsListIter it a i)where
 mem:=by simp
 obj:=fun i h st b hb=>by
  have hb':b=e∨b=it:=by simpa using hb
  rcases hb' with z|z
  ·subst z
   obtain⟨old,q⟩:=st.1
   exact⟨_,q,fun v y=>by
    have y':Data.fields _=Data.cell v:=y
    cases y'⟩
  ·subst z
   obtain⟨o,q,c,d⟩:=st.2
   exact⟨o,q,fun v y=>by rw[d]at y;cases y⟩
 keep:=fun i h h' st k=>⟨let⟨old,q⟩:=st.1;⟨old,k e (by simp) _ q⟩,st.2.at fun o q=>k it (by simp) o q⟩
 item:=by
  intro X hP hw hK hc i pins s σ H E I hf st hg
  subst hP hw hK
  obtain⟨xs,x,hq,hx⟩:=hg
  obtain⟨its,rv,p,hz⟩:=I.list hq
  obtain⟨u,hu,ru⟩:=rv.get hx
  obtain⟨⟨old,he⟩,hit⟩:=st
  have hl:s.heap.IsList a its.toArray:=p.isList
  have ai:a≠it:=fun z=>by
   obtain⟨o1,q1,c1,_⟩:=hit
   obtain⟨o2,q2,c2,_⟩:=hl
   rw[z,q1]at q2;cases q2
   rw[c1]at c2;exact absurd c2 (by decide)
  have ae:e∉[it,a]:=fun z=>by
   have z':e=it∨e=a:=by simpa using z
   rcases z' with z|z
   ·exact hei z
   ·obtain⟨o2,q2,c2,_⟩:=hl
    rw[←z,he]at q2;cases q2;exact absurd (show Value.type "enumerate"=Value.type "list"from c2) (by decide)
  have D:=Draws.list (prog:=X.prog) (w:=X.w) (A:=X.A.in1) (by first|exact I.ok.hd hc| (rw[show X.A.in1.handled=X.A.handled from rfl];exact I.ok.hd hc)) it a ai its.toArray
  have hlt:i<its.toArray.size:=by
   have:=(List.getElem?_eq_some_iff.mp hu).1
   rw[List.size_toArray];exact this
  refine wpAny_pyNext_enum_itemD D he ⟨hit,hl⟩ hlt hei ae fun y h' tk hy hout st' hT hsz hk=>⟨.ref s.heap.objs.size,rfl,?_⟩
  refine wpAny_letOwnedTupleGo_enum hout fun h2 he2 hs2=>?_
  have hy':its.toArray[i]? =some y:=hy
  have ey:y=u:=by
   have:its[i]? =some y:=by simpa using hy'
   rw[hu]at this;cases this;rfl
  subst ey
  have kk:∀b o,b≠e→b≠it→s.heap.get? b=some o→h2.get? b=some o:=fun b o h1 h3 q=>(hs2.2 b h1).trans (hk b o h1 h3 q)
  have neT:s.heap.objs.size≠e:=Nat.ne_of_gt (Heap.lt_size he)
  have I2:=I.turnedT (h':=h2) (t':=tk+1) (e:=e) (it:=it) (T:=s.heap.objs.size) (xs:=[.int (i:Nat),x]) (its:=[.int i tk,y]) kk (hf e (by simp)) (hf it (by simp)) rfl ⟨_,(hs2.2 _ neT).trans hT,rfl,_,rfl⟩ (.cons ⟨tk,rfl⟩ (.cons ru .nil)) (by show 2≤sizeLine;decide)
   ⟨_,he2⟩ (let⟨o,q,_⟩:=st'.1;⟨o,(hs2.2 it (Ne.symm hei)).trans q⟩)
  refine⟨.ref s.heap.objs.size,_,I2,rfl,⟨s.heap.objs.size,x,rfl,I.hok.fresh (Nat.le_refl _),rfl,fun ys hy2=>by rw[I.list_inj hy2 hq];exact hx⟩,⟨⟨_,he2⟩,st'.1.at fun o q=>(hs2.2 it (Ne.symm hei)).trans q⟩,fun b hb=>?_⟩
  rw[Zr fun z=>?_]
  ·exact(hf b hb).1
  ·have hb':b=e∨b=it:=by simpa using hb
   rcases hb' with y|y
   ·rw[←z,y]at neT;exact neT rfl
   ·obtain⟨o,q,_⟩:=hit
    rw[y]at z
    exact absurd (Heap.lt_size q) (by rw[z];exact Nat.lt_irrefl _)
 done:=by
  intro X hP hw hK hc i pins s σ H E I hf st hg
  subst hP hw hK
  obtain⟨xs,hq,hx⟩:=hg
  obtain⟨its,rv,p,hz⟩:=I.list hq
  obtain⟨⟨old,he⟩,hit⟩:=st
  obtain⟨f0,f1,f2,f3,f4,f5⟩:=hf it (by simp)
  have hl:=rv.length
  exact wpAny_pyNext_enum_end (I.ok.hd hc) he hit p.isList (by simp;omega) fun h' eb=>⟨rfl,I.turned (t':=s.toks) (fun b o hb q=>eb b o hb q) f0 f1 f3 f4 f5⟩
 self:=fun _ _ _ _ _ st h=>let⟨⟨old,he⟩,_⟩:=st;wpAny_pyIter_enum he h
noncomputable def Zzb(K:PySem.W.Frag)(ta:TA):TI:=fun σ H R=>ta σ H fun vs H1=>∃a xs,vs=[.ref a]∧SqL K H1 a xs∧R (Ite K a) H1
theorem Zvn{l:Expr}{elts:List Expr}{kk:Nat}{tpos p pos:Pos}{ta:TA}(hg:Gl X "enumerate")(hm:X.mg "enumerate"=none)(ha:PA X [l] ta)(hs:starEach [l] X.env=[(false,eval l X.env)]:=by rfl):
  PI X (.Tuple elts kk tpos) (.Call (.Name "enumerate" p) [l] [] pos) (Zzb X.K ta):=by
 intro pins s σ H R I h
 refine Call_ (Ze8 I hg hm boot_enumerate (PyProof.Rows.callWith_type1 (thn (ha pos pins s σ H _ I h) fun us s1 ⟨vs,H1,I1,r1,q1⟩=>?_) hs rfl))
 obtain⟨a,xs,e,hq,q⟩:=q1
 subst e
 obtain⟨u,rfl,ru⟩:=Zds r1
 cases ru
 obtain⟨its,rv,p,hz⟩:=I1.list hq
 refine call_enumerate_list p.isList fun h' he hit hsz hk=>wpAny_pyIter_enum he ?_
 have I2:Inv X pins σ H1 {s1 with heap:=h'}:=I1.kept (t':=s1.toks) hk
 refine⟨s1.heap.objs.size+1,[s1.heap.objs.size+1,s1.heap.objs.size],_,_,H1,rfl,I2,Zot a _ _ (Nat.succ_ne_self _),⟨⟨.none,by simpa using he⟩,hit⟩,fun b hb=>?_,q⟩
 have hb':b=s1.heap.objs.size+1∨b=s1.heap.objs.size:=by simpa using hb
 rcases hb' with z|z
 ·subst z;exact I1.fpOk (Nat.le_succ _) (I1.hok.fresh (Nat.le_succ _))
 ·subst z;exact I1.fpOk (Nat.le_refl _) (I1.hok.fresh (Nat.le_refl _))
theorem Zj4:∀{xs:List Str} {us:List Value},Vals (xs.map V.str) us→∃l:List (Str×Tok),us=strValues l∧l.map (·.1)=xs
 | [],_,r=>by rw[List.map_nil]at r;cases r;exact⟨[],rfl,rfl⟩
 |x::xs,_,r=>by
  rw[List.map_cons]at r
  cases r with
  |cons h t=>
   obtain⟨tk,rfl⟩:=h
   obtain⟨l,e1,e2⟩:=Zj4 t
   exact⟨(x,tk)::l,by rw[e1];rfl,by rw[List.map_cons,e2]⟩
noncomputable def Z2v(K:PySem.W.Frag):V→List V→Hp→VK→Prop:=fun x xs H Q=>∃sep p ys,x= .str sep∧xs=[.ref p]∧SqL K H p (ys.map V.str)∧JoinOk sep ys=true∧Q (.str (Txt.join sep ys)) H
theorem Zvo:MtR X "str.join" (Z2v X.K):=by
 intro pins s σ H x xs v us Q I rx rs h
 obtain⟨sep,p,ys,rfl,rfl,hq,hok,q⟩:=h
 obtain⟨t,rfl⟩:=rx
 obtain⟨u,rfl,ru⟩:=Zds rs
 cases ru
 obtain⟨its,rv,pl,hz⟩:=I.list hq
 obtain⟨l,e1,e2⟩:=Zj4 rv
 subst e1
 exact SC.join pl.isList e2 hok fun t' k=>⟨.str (Txt.join sep ys),H,I.tok _,⟨_,rfl⟩,q⟩
inductive TyX(K:PySem.W.Frag)(H:Hp):V→String→Prop where
 |non:TyX K H .non "NoneType"
 |bl (x:Bool):TyX K H (.bl x) "bool"
 |int (i:Int):TyX K H (.int i) "int"
 |str (x:Str):TyX K H (.str x) "str"
 |lst {a:Addr} {xs:List V} (e:SqL K H a xs):TyX K H (.ref a) "list"
 |tup {a:Addr} {xs:List V} (e:SqT K H a xs):TyX K H (.ref a) "tuple"
 |dK {a:Addr} {kvs:List (Key×V)} {ep:Nat} (e:H a=some (.dK kvs ep)):TyX K H (.ref a) "dict"
 |dT {a:Addr} {kvs:List (List Key×V)} {ep:Nat} {bs:List Addr} (e:H a=some (.dT kvs ep bs)):TyX K H (.ref a) "dict"
theorem Zrx{pins:List (Addr×Obj)}{σ:L2.St}{H:Hp}{s:Shared}{A:Around}{E:Value→Shared→Prop}{Q:Value→Shared→Prop}{c:Value}{b:Bool}{x:V}{u:Value}{T:String}(I:Inv X pins σ H s)(rx:RelV x u)(ty:TyX X.K H x T)(e:PySem.W.kitOne X.K (.type T) c=some b)(h:∀tk,Q (.bool b) {s with toks:=tk}):
  wpAny (model X.prog X.w) A (call (.builtin "isinstance") [u,c]) Q E s:=by
 cases ty with
 |non=>cases(show u=Value.none from rx);exact PySem.W.kia_one PySem.W.kitx_none I.kIn True.intro e (fun z=>nomatch z) h
 |bl y=>cases(show u=Value.bool y from rx);exact PySem.W.kia_one PySem.W.kitx_bool I.kIn True.intro e (fun z=>nomatch z) h
 |int i=>obtain⟨t,q⟩:=(show∃t,u=Value.int i t from rx);cases q;exact PySem.W.kia_one PySem.W.kitx_int I.kIn True.intro e (fun z=>nomatch z) h
 |str y=>obtain⟨t,q⟩:=(show∃t,u=Value.str y t from rx);cases q;exact PySem.W.kia_one PySem.W.kitx_str I.kIn True.intro e (fun z=>nomatch z) h
 | @lst a xs ea=>
  cases(show u=Value.ref a from rx)
  obtain⟨its,_,pl,_⟩:=I.list ea
  obtain⟨o,h1,h2,_⟩:=pl.isList
  exact PySem.W.kia_one PySem.W.kitx_list I.kIn ⟨o,h1,h2⟩ e (fun z=>nomatch z) h
 | @tup a xs ea=>
  cases(show u=Value.ref a from rx)
  obtain⟨its,_,pl,_⟩:=I.tuple ea
  obtain⟨o,h1,h2,_⟩:=pl
  exact PySem.W.kia_one PySem.W.kitx_tuple I.kIn ⟨o,h1,h2⟩ e (fun z=>nomatch z) h
 | @dK a kvs ep ea=>
  cases(show u=Value.ref a from rx)
  obtain⟨_,_,vs,_,p⟩:=(show Zbf X.prog X.w H s.heap a (.dK kvs ep)from I.hok a _ ea)
  obtain⟨o,es,h1,h2,_⟩:=p
  exact PySem.W.kia_one PySem.W.kitx_dict I.kIn ⟨o,h1,h2.1⟩ e (fun z=>nomatch z) h
 | @dT a kvs ep bs ea=>
  cases(show u=Value.ref a from rx)
  obtain⟨_,_,xs,_,o,es,h1,h2,_⟩:=(show Zbf X.prog X.w H s.heap a (.dT kvs ep bs)from I.hok a _ ea)
  exact PySem.W.kia_one PySem.W.kitx_dict I.kIn ⟨o,h1,h2.1⟩ e (fun z=>nomatch z) h
noncomputable def rIsI(K:PySem.W.Frag)(c:String):List V→Hp→VK→Prop:=fun xs H Q=>∃x t b,xs=[x,.ty c]∧TyX K H x t∧PySem.W.kitOne K (.type t) (.type c)=some b∧Q (.bl b) H
theorem Zry{c:String}:Zdf X (.builtin "isinstance") (rIsI X.K c):=by
 intro pins s σ H xs us Q I r h
 obtain⟨x,t,b,rfl,ty,e,q⟩:=h
 obtain⟨u,w',rfl,r1,r2⟩:=Zur r
 cases r2
 exact Zrx I r1 ty e fun tk=>⟨.bl b,H,I.tok _,rfl,q⟩
end
end L2
namespace DL
open PySem PySem.Spec PyProof.Rows L2
variable{K:PySem.W.Frag}
noncomputable def Zfi(xs:List D):List D:=xs.zipIdx.map fun p=>.tup [.int (p.2:Nat),p.1]
theorem Zip{xs:List D}{i:Nat}{d:D}(h:(Zfi xs)[i]? =some d):∃x,xs[i]? =some x∧d= .tup [.int (i:Nat),x]:=by
 unfold Zfi at h
 rw[List.getElem?_map,List.getElem?_zipIdx]at h
 cases e:xs[i]? with
 |none=>rw[e]at h;cases h
 |some x=>rw[e]at h;cases h;exact⟨x,rfl,by simp⟩
theorem Ziq(xs:List D):(Zfi xs).length=xs.length:=by unfold Zfi;rw[List.length_map,List.length_zipIdx]
theorem Zj5{F:Hp}{a:Addr}{xs:List D}{vs:List V}(h:SqL K F a vs)(r:Reps K F xs vs):Zen K (Ite K a) F (Zfi xs):=fun F' H sF sH i=>by
 have q:SqL K H a vs:=Zay (sF.trans sH) h
 refine⟨fun d hd=>?_,fun hl=>⟨vs,q,by rw[←r.length,←Ziq];exact hl⟩⟩
 obtain⟨x,hx,rfl⟩:=Zip hd
 obtain⟨v,h1,h2⟩:=r.get hx
 refine⟨⟨vs,v,q,h1⟩,fun y H' zq9=>?_⟩
 obtain⟨p,w,e1,e2,e3,e4⟩:=zq9
 subst e1 e3
 have e5:=e4 vs q
 rw[h1]at e5;cases e5
 have hp:F' p=none:=sH.free e2
 have sm:Same F' (addL F' [(p,.tup [.int (i:Nat),v])]):=Zav fun z hz=>by obtain rfl:=List.mem_singleton.mp hz;exact hp
 refine⟨Zbr e2,[(p,.tup [.int (i:Nat),v])],nd1,fun z hz=>?_,.tup Zy (.cons (.int _) (.cons (h2.mono (sF.trans sm)) .nil))⟩
 obtain rfl:=List.mem_singleton.mp hz
 exact⟨e2,Zy⟩
section
variable{Z:Ent K}{H:Hp}{σ:L2.St}{Q:VK}
@[simp] noncomputable def Zzc(fd:FD):FD:=fun δ=>(fd δ).bind fun p=>match p.1 with
 | [.lst xs]=>some (Zfi xs,p.2)
 |_=>none
theorem Zvp{fd:FD}{R:It→Hp→Prop}(h:Zc9 Z (Zzc fd) σ H R):Zzb K (Zbx Z fd) σ H R:=by
 obtain⟨F,δ,own,ds,δ',s,e,k⟩:=h
 obtain⟨⟨ds1,δ1⟩,e1,e2⟩:=Option.bind_eq_some_iff.mp e
 refine⟨F,δ,own,ds1,δ1,s,e1,fun vs H1 F1 own1 sH sF s1 r1=>?_⟩
 dsimp only at e2
 split at e2
 ·rename_i xs
  cases e2
  cases r1 with
  |cons h t=>
   cases t
   cases h with
   |lst h r=>exact⟨_,_,rfl,Zay s1.le h,k _ H1 F1 own1 sH sF s1 (Zj5 h r)⟩
 ·cases e2
@[simp] noncomputable def D.ty:D→String
 | .str _=>"str"
 | .int _=>"int"
 | .lst _=>"list"
 | .dK _ _=>"dict"
 | .dT _ _=>"dict"
 |_=>"?"
@[simp] noncomputable def tyOk(T:String)(d:D):Bool:=T==d.ty&&(T=="str" ||T=="list" ||T=="dict")
theorem Zzd{F H:Hp}{d:D}{x:V}{T:String}(le:Same F H)(r:RepN K F H d x)(h:tyOk T d=true):tyV K T x H:=by
 unfold tyOk at h
 simp only[Bool.and_eq_true,beq_iff_eq]at h
 obtain⟨h1,h2⟩:=h
 subst h1
 cases d with
 |str y=>rw[r.str];rfl
 |lst xs=>
  obtain⟨a,vs,e,ha,_⟩:=r.lst le
  subst e
  exact .inl ⟨rfl,vs,ha⟩
 |dK ks vs=>
  obtain⟨a,kvs,e,⟨ep,ha⟩,_⟩:=r.dK le
  subst e
  exact .inr (.inr (.inl ⟨rfl,.inl ⟨kvs,ep,ha⟩⟩))
 |dT ks vs=>
  obtain⟨a,kvs,e,⟨ep,bs,ha⟩,_⟩:=r.dT le
  subst e
  exact .inr (.inr (.inl ⟨rfl,.inr ⟨kvs,ep,bs,ha⟩⟩))
 |non=>exact absurd (show("?"=="str" || "?"=="list" || "?"=="dict")=true from h2) (by decide)
 |bl b=>exact absurd (show("?"=="str" || "?"=="list" || "?"=="dict")=true from h2) (by decide)
 |int i=>exact absurd (show("int"=="str" || "int"=="list" || "int"=="dict")=true from h2) (by decide)
 |tup xs=>exact absurd (show("?"=="str" || "?"=="list" || "?"=="dict")=true from h2) (by decide)
 |exc C ks vs=>exact absurd (show("?"=="str" || "?"=="list" || "?"=="dict")=true from h2) (by decide)
@[simp] noncomputable def bmF(T:String)(g:List D→Option SV)(fo:FE)(fa:FA):FE:=fun δ=>(fo δ).bind fun p=>(rdv p.1 p.2).bind fun d0=>if tyOk T d0=true then(fa p.2).bind fun q=>(Zdj (p.1::q.1) q.2).bind fun ds=>(g ds).bind fun sv=>some (.tmp sv,q.2)else none
noncomputable def Zou(Z:Ent K)(r:V→List V→Hp→VK→Prop)(g:List D→Option SV):Prop:=Zg0 Z (fun vs H Q=>∃x xs,vs=x::xs∧r x xs H Q) g
theorem l_bm{T:String}{r:V→List V→Hp→VK→Prop}{g:List D→Option SV}{fo:FE}{fa:FA}(hg:Zou Z r g)(h:Ze Z (bmF T g fo fa) σ H Q):tBM K T r (Ze Z fo) (Zd9 Z fa) σ H Q:=by
 obtain⟨F,δ,own,rv,δ',s,e,k⟩:=h
 obtain⟨⟨rv1,δ1⟩,e1,e⟩:=Option.bind_eq_some_iff.mp e
 obtain⟨d0,e2,e⟩:=Option.bind_eq_some_iff.mp e
 dsimp only at e
 split at e
 ·rename_i ht
  obtain⟨⟨rvs,δ2⟩,e3,e⟩:=Option.bind_eq_some_iff.mp e
  obtain⟨ds,e4,e⟩:=Option.bind_eq_some_iff.mp e
  obtain⟨sv,e5,e⟩:=Option.bind_eq_some_iff.mp e
  cases e
  refine⟨F,δ,own,rv1,δ1,s,e1,fun v H1 F1 own1 sH1 sF1 s1 r1=>?_⟩
  obtain⟨F1',sF1',s1',r1'⟩:=s1.settleR r1
  refine⟨Zzd s1'.le (s1'.rd r1' e2) ht,F1',δ1,own1,rvs,δ2,s1',e3,fun vs H2 F2 own2 sH2 sF2 s2 r2=>?_⟩
  obtain⟨x,xs,ex,q⟩:=hg F2 H2 σ δ2 own2 (v::vs) ds sv Q s2 (s2.rdAll (.cons (r1'.mono sF2) r2) e4) e5 fun q H4 F4 ns sH4 sF4 s4 t4=>
   k q H4 F4 own2 (sH1.trans (sH2.trans sH4)) (sF1.trans (sF1'.trans (sF2.trans sF4))) s4 ⟨ns,t4⟩
  injection ex with ex1 ex2
  subst ex1 ex2
  exact q
 ·cases e
end
@[simp] noncomputable def strs?:List D→Option (List Str)
 | []=>some []
 | .str x::r=>(strs? r).bind fun t=>some (x::t)
 |_=>none
theorem Zj6{F:Hp}:∀{ds:List D} {xs:List Str} {vs:List V},strs? ds=some xs→Reps K F ds vs→vs=xs.map V.str
 | [],_,_,e,r=>by cases e;cases r;rfl
 |d::r,xs,vs,e,q=>by
  cases q with
  |cons h t=>
   unfold strs? at e
   split at e
   ·rename_i e0;cases e0
   ·rename_i x r' e0
    cases e0
    obtain⟨ys,e1,e2⟩:=Option.bind_eq_some_iff.mp e
    cases e2
    cases h
    rw[Zj6 e1 t];rfl
   ·cases e
@[simp] noncomputable def Z56:List D→Option SV
 | [.str sep,.lst xs]=>(strs? xs).bind fun ys=>if JoinOk sep ys=true then some (.fz (.str (Txt.join sep ys)))else none
 |_=>none
variable{Z:Ent K}
@[simp] noncomputable def D.pyTy:D→String
 | .non=>"NoneType"
 | .bl _=>"bool"
 | .int _=>"int"
 | .str _=>"str"
 | .tup _=>"tuple"
 | .lst _=>"list"
 | .dK _ _=>"dict"
 | .dT _ _=>"dict"
 | .exc _ _ _=>"?"
@[simp] noncomputable def D.isExc:D→Bool
 | .exc _ _ _=>true
 |_=>false
theorem Zvq{F H:Hp}{d:D}{x:V}(le:Same F H)(r:RepN K F H d x)(hx:d.isExc=false):TyX K H x d.pyTy:=by
 cases d with
 |exc C ks vs=>cases hx
 |non=>rw[r.non];exact .non
 |bl b=>rw[r.bl];exact .bl b
 |int i=>rw[r.int];exact .int i
 |str y=>rw[r.str];exact .str y
 |tup xs=>obtain⟨a,vs,e,ha,_⟩:=r.tup le;subst e;exact .tup ha
 |lst xs=>
  obtain⟨a,vs,e,ha,_⟩:=r.lst le
  subst e
  exact .lst ha
 |dK ks vs=>obtain⟨a,kvs,e,⟨ep,ha⟩,_⟩:=r.dK le;subst e;exact .dK ha
 |dT ks vs=>obtain⟨a,kvs,e,⟨ep,bs,ha⟩,_⟩:=r.dT le;subst e;exact .dT ha
@[simp] noncomputable def isiD(c:String)(d:D):Option SV:=if d.isExc=true then none else some (.fz (.bl (d.pyTy==c|| (c=="int" &&d.pyTy=="bool"))))
theorem Z2w{c:String}(hk:∀d:D,d.isExc=false→PySem.W.kitOne K (.type d.pyTy) (.type c)=some (d.pyTy==c|| (c=="int" &&d.pyTy=="bool"))):Zrq Z (fun x H Q=>rIsI K c [x,.ty c] H Q) (isiD c):=by
 intro F H σ δ own x d sv Q s r e k
 unfold isiD at e
 split at e
 ·cases e
 ·rename_i hx
  cases e
  have hx':d.isExc=false:=by cases z:d.isExc with
   |true=>exact absurd z hx
   |false=>rfl
  exact⟨x,_,_,rfl,Zvq s.le r hx',hk d hx',k.fz s (.bl _)⟩
@[simp] noncomputable def lenD:List D→Option SV
 | [.lst xs]=>some (.fz (.int (xs.length:Nat)))
 | [.tup xs]=>some (.fz (.int (xs.length:Nat)))
 | [.str x]=>if x.length≤PySem.sizeLine then some (.fz (.int (x.length:Nat)))else none
 |_=>none
theorem Zvr:Zg0 Z (fun xs H Q=>(∃p ys,xs=[V.ref p]∧(SqL K H p ys∨SqT K H p ys)∧Q (.int ys.length) H)∨(∃z,xs=[V.str z]∧z.length≤PySem.sizeLine∧Q (.int z.length) H)) lenD:=by
 intro F H σ δ own vs ds sv Q s r e k
 unfold lenD at e
 split at e
 ·cases e
  cases r with
  |cons h t=>
   cases t
   obtain⟨a,us,ex,ha,ra⟩:=h.lst s.le
   subst ex
   exact .inl ⟨a,us,rfl,.inl ha,by rw[←ra.length];exact k.fz s (.int _)⟩
 ·cases e
  cases r with
  |cons h t=>
   cases t
   obtain⟨a,us,ex,ha,ra⟩:=h.tup s.le
   subst ex
   exact .inl ⟨a,us,rfl,.inr ha,by rw[←ra.length];exact k.fz s (.int _)⟩
 ·split at e
  ·rename_i hz
   cases e
   cases r with
   |cons h t=>
    cases t
    exact .inr ⟨_,by rw[h.str],hz,k.fz s (.int _)⟩
  ·cases e
 ·cases e
@[simp] noncomputable def Z57:List D→Option SV
 | [.lst xs]=>some (.ol xs)
 | [.tup xs]=>some (.ol xs)
 |_=>none
@[simp] noncomputable def Z41:List D→Option SV
 | [.lst xs]=>some (.fz (.tup xs))
 |_=>none
@[simp] noncomputable def intD:List D→Option SV
 | [.int i]=>some (.fz (.int i))
 | [.bl b]=>some (.fz (.int (if b then 1 else 0)))
 |_=>none
theorem Z2x:Zg0 Z (fun xs H Q=>(∃i,xs=[V.int i]∧Q (.int i) H)∨∃k,xs=[V.bl k]∧Q (.int (if k then 1 else 0)) H) intD:=by
 intro F H σ δ own vs ds sv Q s r e k
 unfold intD at e
 split at e
 ·cases e
  cases r with
  |cons h t=>cases t;exact .inl ⟨_,by rw[h.int],k.fz s (.int _)⟩
 ·cases e
  cases r with
  |cons h t=>cases t;exact .inr ⟨_,by rw[h.bl],k.fz s (.int _)⟩
 ·cases e
section
variable{X:Cx}{Z:Ent X.K}{a b c:Expr}{fa fb fc:FE}{pos:Pos}
theorem Zc(i:Nat){x:Str}{pos:Pos}(hN:X.N[i]? =some x:=by rfl)(hv:Vis X.env.scope x:=by first|exact Or.inl rfl|exact Or.inr (Or.inl rfl)|exact Or.inr (Or.inr rfl))(hd:(x==("__debug__":Str))=false:=by decide)
  (hcd:(x==("__classdict__":Str))=false:=by decide):PE X (.Name x pos) (Ze Z (Zb i)):=(Zh0 hN hv hd hcd).imp fun _ _ _ h=>Z2g h
theorem Zm{i:Int}{j:Nat}:PE X (.Constant (.int i) j pos) (Ze Z (Za (.int i))):=Zxl.imp fun _ _ _ h=>Zea (fun _=>.int _) h
theorem e_bl{i:Bool}{j:Nat}:PE X (.Constant (.bool i) j pos) (Ze Z (Za (.bl i))):=Z10.imp fun _ _ _ h=>Zea (fun _=>.bl _) h
theorem Zg3{j:Nat}:PE X (.Constant .none j pos) (Ze Z (Za .non)):=Zxm.imp fun _ _ _ h=>Zea (fun _=>.non) h
theorem Zp{i:Str}{j:Nat}:PE X (.Constant (.str i) j pos) (Ze Z (Za (.str i))):=Zte.imp fun _ _ _ h=>Zea (fun _=>.str _) h
theorem Zj7{x:Str}{y:Str}{t:Tok}(hm:X.mg x=some (.str y t))(hg:Gl X x:=by rfl)(hd:(x==("__debug__":Str))=false:=by decide):PE X (.Name x pos) (Ze Z (Za (.str y))):=
 (Zjq (v:=.str y) hg hm ⟨t,rfl⟩ hd).imp fun _ _ _ h=>Zea (fun _=>.str _) h
theorem Zov{x:Str}{y:Int}{t:Tok}(hm:X.mg x=some (.int y t))(hg:Gl X x:=by rfl)(hd:(x==("__debug__":Str))=false:=by decide):PE X (.Name x pos) (Ze Z (Za (.int y))):=
 (Zjq (v:=.int y) hg hm ⟨t,rfl⟩ hd).imp fun _ _ _ h=>Zea (fun _=>.int _) h
theorem Zow{op:Operator}{r:R2}{g:D→D→Option SV}(ho:OpR X (binaryOp op) r)(hp:Zaq Z r g)(ha:PE X a (Ze Z fa))(hb:PE X b (Ze Z fb)):PE X (.BinOp a op b pos) (Ze Z (binF g fa fb)):=(Z13 ho ha hb).imp fun _ _ _ h=>Zoo hp h
theorem Zl(ha:PE X a (Ze Z fa))(hb:PE X b (Ze Z fb)):PE X (.BinOp a .Add b pos) (Ze Z (binF addD fa fb)):=Zow Zvm Z2t ha hb
theorem Z2y(ha:PE X a (Ze Z fa))(hb:PE X b (Ze Z fb)):PE X (.BinOp a .Sub b pos) (Ze Z (binF subD fa fb)):=Zow Zx2 Z2q ha hb
theorem Zda(ha:PE X a (Ze Z fa))(hb:PE X b (Ze Z fb)):PE X (.BinOp a .FloorDiv b pos) (Ze Z (binF Zes fa fb)):=Zow Zuo Zy5 ha hb
theorem Zby(ha:PE X a (Ze Z fa))(hb:PE X b (Ze Z fb)):PE X (.BinOp a .Mod b pos) (Ze Z (binF modD fa fb)):=Zow Zx4 Z2s ha hb
theorem Zvs{op:CmpOp}{r:R2}{g:D→D→Option SV}(ho:OpR X (compareOp op) r)(hp:Zaq Z r g)(ha:PE X a (Ze Z fa))(hb:PE X b (Ze Z fb))(hm:behindInMarks op b=false):PE X (.Compare a [op] [b] pos) (Ze Z (binF g fa fb)):=(Zup ho ha hb hm).imp fun _ _ _ h=>Zoo hp h
theorem Zox{op:CmpOp}{r:R2}{g:D→D→Option SV}(ho:OpR X (compareOp op) r)(hp:Zaq Z r g)(ha:PE X a (Ze Z fa))(hb:PE X b (Ze Z fb))(hm:behindInMarks op b=false):PT X (.Compare a [op] [b] pos) (Zbb Z (Zal (binF g fa fb))):=
 (Zuq ho ha hb hm).imp fun σ H Q h=>by
  obtain⟨F,δ,own,rv,δ',s,e,k⟩:=Zle h
  exact Zoo hp ⟨F,δ,own,rv,δ',s,e,k⟩
theorem t_lt(ha:PE X a (Ze Z fa))(hb:PE X b (Ze Z fb)):PT X (.Compare a [.Lt] [b] pos) (Zbb Z (Zal (binF ltD fa fb))):=Zox Z15 p_lt ha hb (Zh3 _)
theorem Zze(ha:PE X a (Ze Z fa))(hb:PE X b (Ze Z fb)):PT X (.Compare a [.Is] [b] pos) (Zbb Z (Zal (binF isND fa fb))):=Zox Zx7 Z2u ha hb (Zh3 _)
theorem Zoy{f:FT}(ha:PT X a (Zbb Z f)):PW X (.BoolOp .Or [a] pos) (Zbb Z f):=Zxo ha
theorem w_or{f g:FT}{rest:List Expr}(ha:PT X a (Zbb Z f))(hb:PW X (.BoolOp .Or (b::rest) pos) (Zbb Z g)):PW X (.BoolOp .Or (a::b::rest) pos) (Zbb Z (orF f g)):=(Z11 ha hb).imp fun _ _ _ h=>l_or h
theorem Zj8{f:FT}(ha:PT X a (Zbb Z f)):PT X (.UnaryOp .Not a pos) (Zbb Z (notF f)):=(Zxp ha).imp fun _ _ _ h=>Z2j h
theorem Zir(h:PE X a (Ze Z fa))(he:∀whole,isTrue a X.env whole=(do let v←whole;standAt a.pos;holding [v] (truthy v)):=by intro _;rfl):PT X a (Zbb Z (Zal fa)):=(Zxn h he).imp fun _ _ _ h=>Zvd h
theorem Zrz{op:BoolOp}(h:PE X a (Ze Z fa)):PE X (.BoolOp op [a] pos) (Ze Z fa):=Zxs h
theorem Zj9{rest:List Expr}(ha:PE X a (Ze Z fa))(hb:PE X (.BoolOp .And (b::rest) pos) (Ze Z fb)):PE X (.BoolOp .And (a::b::rest) pos) (Ze Z (andV fa fb)):=(Zxt ha hb).imp fun _ _ _ h=>Zyv h
theorem Zvt(ha:PE X a (Ze Z fa)):PE X (.UnaryOp .Not a pos) (Ze Z (notV fa)):=(Zxu ha).imp fun _ _ _ h=>Zyw h
theorem e_if{t:FT}(hc:PT X c (Zbb Z t))(ha:PE X a (Ze Z fa))(hb:PE X b (Ze Z fb)):PE X (.IfExp c a b pos) (Ze Z (ifF t fa fb)):=(Zq1 hc ha hb).imp fun _ _ _ h=>l_if h
theorem Zag:PA X [] (Zd9 Z Zj):=Zdt.imp fun _ _ _ h=>Zrp h
theorem Zh{es:List Expr}{fr:FA}(ha:PE X a (Ze Z fa))(hr:PA X es (Zd9 Z fr))(hs:starEach (a::es) X.env=(false,eval a X.env)::starEach es X.env:=by rfl):PA X (a::es) (Zd9 Z (Zd fa fr)):=(Za5 ha hr hs).imp fun _ _ _ h=>Zom h
theorem Zaz:PA X [] (Zbx Z Zs):=Zdt.imp fun _ _ _ h=>Zop h
theorem Zk{es:List Expr}{fr:FD}(ha:PE X a (Ze Z fa))(hr:PA X es (Zbx Z fr))(hs:starEach (a::es) X.env=(false,eval a X.env)::starEach es X.env:=by rfl):PA X (a::es) (Zbx Z (Zf fa fr)):=(Za5 ha hr hs).imp fun _ _ _ h=>Zmt h
theorem Zka{es:List Expr}{fd:FD}{k:Nat}(h:PA X es (Zbx Z fd)):PE X (.Tuple es k pos) (Ze Z (tupF fd)):=(Zx9 h).imp fun _ _ _ h=>Z2h h
theorem Zbz{es:List Expr}{fd:FD}(h:PA X es (Zbx Z fd)):PE X (.List es pos) (Ze Z (lstF fd)):=(Zya h).imp fun _ _ _ h=>Z2i h
theorem Zdb:PO X none (Zdv Z Zcj):=fun pins s σ H Q I h=>Zuu pins s σ H Q I (Zrw h)
theorem Zck(ha:PE X a (Ze Z fa)):PO X (some a) (Zdv Z (Zdw fa)):=fun pins s σ H Q I h=>Zuv ha pins s σ H Q I (Zy8 h)
theorem e_sl{lo hi:Option Expr}{fl fh:FO}{p2:Pos}(ha:PE X a (Ze Z fa))(hl:PO X lo (Zdv Z fl))(hh:PO X hi (Zdv Z fh)):PE X (.Subscript a (.Slice lo hi none p2) pos) (Ze Z (slF slD fa fl fh)):=
 (Zq8 (Zuy.or Zza) ha hl hh).imp fun _ _ _ h=>l_sl p_sl h
theorem Z2{k n:Nat}{f:Addr}{fd:FuncData}{ps:List Str}{g:List D→Option SV}{x:Str}{p:Pos}{es:List Expr}{fr:FA}(F:FnOk X.prog X.w X.K X.mg X.base CX0 k f fd ps (spOf X.K n g))(hr:Room k X.A)(hm:X.mg x=some (.ref f))(hk:PySem.W.keepIn X.K (.ref f)=true)(hb:Za3 X.K fd ps [])
  (ha:PA X (a::es) (Zd9 Z fr)) (hg:Gl X x:=by rfl) (hdb:(x==("__debug__":Str))=false:=by decide) (he:starEach (a::es) X.env=(false,eval a X.env)::starEach es X.env:=by rfl) (hpl:(backTo pos (starEach es X.env)).any (·.1)=false:=by rfl):
  PE X (.Call (.Name x p) (a::es) [] pos) (Ze Z (Zap n g fr)):=(Zut F hr hg hm hk hb .nil Z2d ha hdb he hpl).imp fun _ _ _ h=>Zyu h
theorem Zoz{id:String}{r:List V→Hp→VK→Prop}{g:List D→Option SV}{x:Str}{p:Pos}{es:List Expr}{fr:FA}(hc:Zdf X (.builtin id) r)(hp:Zg0 Z r g)(hm:X.mg x=none)(hv:bootBuiltins x=some (.builtin id))(ha:PA X (a::es) (Zd9 Z fr))(hg:Gl X x:=by rfl)(hn:x≠"__name__":=by decide)(hdb:(x==("__debug__":Str))=false:=by decide)
  (he:starEach (a::es) X.env=(false,eval a X.env)::starEach es X.env:=by rfl) (hpl:(backTo pos (starEach es X.env)).any (·.1)=false:=by rfl):PE X (.Call (.Name x p) (a::es) [] pos) (Ze Z (Zcl g fr)):=(Zev hc hg hm hv ha hn hdb he hpl).imp fun _ _ _ h=>Zon hp h
theorem Zvu{T:String}{r:List V→Hp→VK→Prop}{g:List D→Option SV}{x:Str}{p:Pos}{es:List Expr}{fr:FA}(hc:Zdf X (.type T) r)(hp:Zg0 Z r g)(hm:X.mg x=none)(hv:bootBuiltins x=some (.type T))(ha:PA X (a::es) (Zd9 Z fr))(hg:Gl X x:=by rfl)(hn:x≠"__name__":=by decide)(hdb:(x==("__debug__":Str))=false:=by decide)
  (he:starEach (a::es) X.env=(false,eval a X.env)::starEach es X.env:=by rfl) (hpl:(backTo pos (starEach es X.env)).any (·.1)=false:=by rfl):PE X (.Call (.Name x p) (a::es) [] pos) (Ze Z (Zcl g fr)):=(Zn1 hc hg hm hv ha hn hdb he hpl).imp fun _ _ _ h=>Zon hp h
theorem Zzf{p:Pos}(hm:X.mg "int"=none)(ha:PE X a (Ze Z fa))(hg:Gl X "int":=by rfl)(he:starEach [a] X.env=(false,eval a X.env)::starEach [] X.env:=by rfl)(hpl:(backTo pos (starEach [] X.env)).any (·.1)=false:=by rfl):PE X (.Call (.Name "int" p) [a] [] pos) (Ze Z (Zcl intD (Zd fa Zj))):=
 Zvu Znw Z2x hm boot_int (Zh ha Zag he) hg (by decide) (by decide) he hpl
theorem Zr0{x:Str}{c:String}{p p2:Pos}(hm:X.mg "isinstance"=none)(hmc:X.mg x=none)(hv:bootBuiltins x=some (.type c))(hk:∀d:D,d.isExc=false→PySem.W.kitOne X.K (.type d.pyTy) (.type c)=some (d.pyTy==c|| (c=="int" &&d.pyTy=="bool")))(ha:PE X a (Ze Z fa))(hg:Gl X "isinstance":=by rfl)(hgc:Gl X x:=by rfl)
  (hn:x≠"__name__":=by decide) (hdb:(x==("__debug__":Str))=false:=by decide)
  (he:starEach [a,.Name x p2] X.env=(false,eval a X.env)::starEach [.Name x p2] X.env:=by rfl) (he2:starEach [.Name x p2] X.env=(false,eval (.Name x p2) X.env)::starEach [] X.env:=by rfl) (hpl:(backTo pos (starEach [.Name x p2] X.env)).any (·.1)=false:=by rfl):
  PE X (.Call (.Name "isinstance" p) [a,.Name x p2] [] pos) (Ze Z (unF (isiD c) fa)):=
 (Zev Zry hg hm boot_isinstance (Za5 ha (Za5 (Znm (v:=.ty c) hgc hmc hv rfl hn hdb) Zdt he2) he) (by decide) (by decide) he hpl).imp fun σ H Q h=>by
  have h2:=l_un (Z2w hk) h
  exact h2
theorem Zvv{op op':CmpOp}{r r':R2}{g g':D→D→Option SV}(ho:OpR X (compareOp op) r)(hp:Zaq Z r g)(ho':OpR X (compareOp op') r')(hp':Zaq Z r' g')(ha:PE X a (Ze Z fa))(hb:PE X b (Ze Z fb))(hc:PE X c (Ze Z fc))(hm:lastMarks [op,op'] [b,c]=false:=by with_unfolding_all rfl):
  PE X (.Compare a [op,op'] [b,c] pos) (Ze Z (Zoq g g' fa fb fc)):=(Zq6 ho ho' ha hb hc hm).imp fun _ _ _ h=>Zvf hp hp' h
theorem Zb0(i:Nat){x:Str}(hN:X.N.Nodup)(hi:X.N[i]? =some x:=by rfl)(hx:Loc X.env.scope x:=by first|exact Or.inl rfl|exact Or.inr rfl)(hf:X.fn x=true∨X.env.scope.names.lookup x=some .local:=by first|exact .inl rfl|exact .inr rfl):PG X (.Name x pos) (Zgd Z (Zn i)):=(Zum hN hi hx hf).imp fun _ _ _ _ h=>Zvg h
theorem Zo0:PGs X [] (Zem Z Zcq):=Zun.imp fun _ _ _ _ h=>Zy1 h
theorem Zec{es:List Expr}{g:FG}{r:FGs}(h1:PG X a (Zgd Z g))(h2:PGs X es (Zem Z r))(hs:(assignEach (a::es) X.env).map (·.2)=assign a X.env::(assignEach es X.env).map (·.2):=by rfl):PGs X (a::es) (Zem Z (Zaa g r)):=(Zq3 h1 h2 hs).imp fun _ _ _ _ h=>Zvh h
theorem Zvw{es:List Expr}{k n:Nat}{g:FGs}(hc:X.calm=true)(h:PGs X es (Zem Z g))(hn:(assignEach es X.env).length=n:=by rfl)(hst:(assignEach es X.env).findIdx? (·.1)=none:=by rfl):PG X (.Tuple es k pos) (Zgd Z (Zcm n g)):=(Zxy hc h hn hst).imp fun _ _ _ _ h=>Zy2 h
theorem Zvx{tg:Expr}{p:Pos}(hm:X.mg "range"=none)(ha:PE X a (Ze Z fa))(hg:Gl X "range":=by rfl)(hs:starEach [a] X.env=[(false,eval a X.env)]:=by rfl):PI X tg (.Call (.Name "range" p) [a] [] pos) (Zc9 Z (rngI (Zd fa Zj))):=(Znr hg hm (Zh ha Zag hs) hs).imp fun _ _ _ h=>Zy3 h
theorem Zo1{N':List Str}{scope:Scope}{src:List BSrc}(kind:scope.kind= .function)(nocell:(scope.names.all fun y=>!(y.2== .cell))=true)(names:(scope.names.all fun y=>!(y.2== .local)|| (scope.names.lookup y.1==some .local))=true)
  (free:(scope.names.all fun y=>!(y.2== .free)|| (X.env.kindOf y.1==some .cell)|| (X.env.kindOf y.1==some .free))=true) (len:src.length=N'.length)
  (cap:((List.range src.length).all fun k=>match src[k]?,N'[k]? with
   |some (.cap j),some x=>(X.N[j]? ==some x)&&((X.env.kindOf x==some .cell)|| (X.env.kindOf x==some .free))&&(scope.names.lookup x==some .free)
   |some .acc,some x=>scope.names.lookup x==none
   |_,_=>true)=true):CompScope X N' scope src:=by
 have capk:∀(k:Nat) (q:BSrc) (x:Str),src[k]? =some q→N'[k]? =some x→(match some q,some x with
   |some (.cap j),some x=>(X.N[j]? ==some x)&&((X.env.kindOf x==some .cell)|| (X.env.kindOf x==some .free))&&(scope.names.lookup x==some .free)
   |some .acc,some x=>scope.names.lookup x==none
   |_,_=>true)=true:=fun k q x h1 h2=>by
  have hk:k<src.length:=(List.getElem?_eq_some_iff.mp h1).1
  have:=List.all_eq_true.mp cap k (List.mem_range.mpr hk)
  rw[h1,h2]at this
  exact this
 refine⟨kind,fun y hy e=>?_,fun y hy e=>?_,fun y hy e=>?_,len,fun k j x h1 h2=>?_,fun k x h1 h2=>?_⟩
 ·have:=List.all_eq_true.mp nocell y hy
  rw[e]at this;cases this
 ·have:=List.all_eq_true.mp names y hy
  rw[e]at this
  simpa using this
 ·have:=List.all_eq_true.mp free y hy
  rw[e]at this
  simpa using this
 ·have:=capk k (.cap j) x h1 h2
  simp only[Bool.and_eq_true,Bool.or_eq_true,beq_iff_eq]at this
  exact⟨this.1.1,this.1.2,this.2⟩
 ·have:=capk k .acc x h1 h2
  simpa using this
theorem Z2z{src:List BSrc}(k:Nat)(acc:src[k]? =some .acc)(uni:((List.range src.length).all fun i=>match src[i]? with
   |some .acc=>i==k
   |_=>true)=true):SrcOk src k:=⟨acc,fun i h=>by
  have hi:i<src.length:=(List.getElem?_eq_some_iff.mp h).1
  have:=List.all_eq_true.mp uni i (List.mem_range.mpr hi)
  rw[h]at this
  simpa using this⟩
theorem Zo2(K:PySem.W.Frag):∀d:D,d.isExc=false→PySem.W.kitOne K (.type d.pyTy) (.type "str")=some (d.pyTy=="str" || ("str"=="int" &&d.pyTy=="bool")):=by intro d h;cases d<;> first| (cases h;done)|with_unfolding_all rfl
theorem Zlf(K:PySem.W.Frag):∀d:D,d.isExc=false→PySem.W.kitOne K (.type d.pyTy) (.type "dict")=some (d.pyTy=="dict" || ("dict"=="int" &&d.pyTy=="bool")):=by intro d h;cases d<;> first| (cases h;done)|with_unfolding_all rfl
theorem xg{tg:Expr}{g:FG}(h:∀Z:Ent X.K,PG X tg (Zgd Z g)):PG X tg (xG X.K g):=fun pins s σ H v u Q I r ⟨Z,q⟩=>h Z pins s σ H v u Q I r q
theorem xe{e:Expr}{f:FE}(h:∀Z:Ent X.K,PE X e (Ze Z f)):PE X e (xE X.K f):=fun pins s σ H Q I ⟨Z,q⟩=>h Z pins s σ H Q I q
theorem xt0:PTs X [] (xT X.K Zrs):=fun pins s σ H Q I ⟨Z,q⟩=>by
 obtain⟨F,δ,own,b,δ',sr,e,k⟩:=q
 cases e
 exact Zu5 pins s σ H Q I (k H F own (Same.refl H) (Same.refl F) sr)
theorem Zzg{N':List Str}{scope:Scope}{src:List BSrc}{k:Nat}{tg elt iter:Expr}{ifs:List Expr}{fi:FD}{g:FG}{tt:FT}{te:FE}(hc:X.calm=true)(S:CompScope X N' scope src)(So:SrcOk src k)(hk:k∉g.tch)(hi:PI X tg iter (Zc9 Z fi))
  (hg:∀(C:Addr) (s₀:Shared) (H₀:Hp) (ex:List Addr),PG (X.block N' scope C s₀ H₀ ex) tg (xG X.K g)) (ht:∀(C:Addr) (s₀:Shared) (H₀:Hp) (ex:List Addr),PTs (X.block N' scope C s₀ H₀ ex) ifs (xT X.K tt)) (he:∀(C:Addr) (s₀:Shared) (H₀:Hp) (ex:List Addr),PE (X.block N' scope C s₀ H₀ ex) elt (xE X.K te))
  (hs:∀x,foldedSetIterable iter X.env x=pure x:=by intro _;rfl):PE X (.ListComp elt [⟨tg,iter,ifs,0⟩] scope pos) (Ze Z (Zvj src k fi g tt te)):=(Zu6 hc S hi hg ht he hs).imp fun _ _ _ h=>Zy4 So hk h
theorem Zbc:PSs X [] (Z9 Z Zca):=Zuk.imp fun _ _ _ h=>Zyx h
theorem Zg{st:Stmt}{rest:List Stmt}{f g:FS}(h1:PS X st (Z9 Z f))(h2:PSs X rest (Z9 Z g)):PSs X (st::rest) (Z9 Z (seqF f g)):=(Zq2 h1 h2).imp fun _ _ _ h=>Z2k h
theorem Zv{st:Stmt}{f:FS}(h:PS X st (Z9 Z f)):PSs X [st] (Z9 Z f):=Znn h
noncomputable def Z42:FS:=fun _=>none
theorem Zaw(h:PE X a (Ze Z fa)):PS X (.Return (some a) pos) (Z9 Z (retF fa)):=(Zxw h).imp fun _ _ _ h=>Z2m h
theorem s_if{t:FT}{f g:FS}{bt be:List Stmt}(hc:PT X c (Zbb Z t))(ha:PSs X bt (Z9 Z f))(hb:PSs X be (Z9 Z g)):PS X (.If c bt be pos) (Z9 Z (ifS t f g)):=(Z12 hc ha hb).imp fun _ _ _ h=>Z2l h
theorem Zah(i:Nat){x:Str}{pos':Pos}(hN:X.N.Nodup)(he:PE X a (Ze Z fa))(hi:X.N[i]? =some x:=by rfl)(hx:Loc X.env.scope x:=by first|exact Or.inl rfl|exact Or.inr rfl)(hs:swapsWith a (some (.Name x pos')) pos.line X.env=pure false:=by rfl)(hf:X.fn x=true∨X.env.scope.names.lookup x=some .local:=by first|exact .inl rfl|exact .inr rfl):
  PS X (.Assign [.Name x pos'] a pos) (Z9 Z (setF i fa)):=(Ztf hN hi hx he hs hf).imp fun _ _ _ h=>Zyy h
theorem Zg4{tg iter:Expr}{body:List Stmt}{fi:FD}{g:FG}{f:FS}(hp:PassesOwn (model X.prog X.w) X.A X.env X.xe)(hc:X.calm=true)(hi:PI X tg iter (Zc9 Z fi))(hg:PG X tg (Zgd Z g))(hb:PSs X body (Z9 Z f))(hs:∀x,foldedSetIterable iter X.env x=pure x:=by intro _;rfl):
  PS X (.For tg iter body [] pos) (Z9 Z (forF fi g f)):=(Zx0 hp hc hi hg hb hs).imp fun _ _ _ h=>Z2o h
theorem Zzh(i:Nat){x:Str}{px apos cpos:Pos}(hb:PE X b (Ze Z fb))(hN:X.N[i]? =some x:=by rfl)(hv:Vis X.env.scope x:=by first|exact Or.inl rfl|exact Or.inr (Or.inl rfl)|exact Or.inr (Or.inr rfl))(hd:(x==("__debug__":Str))=false:=by decide)
  (hcd:(x==("__classdict__":Str))=false:=by decide) (hbase:attributeBase (.Name x px) "append" X.env (eval (.Name x px) X.env)=eval (.Name x px) X.env:=by rfl)
  (hfew:((backTo cpos (starEach [b] X.env)).all (fun x=>!x.1)&&(backToKw cpos (keywordEach [] X.env)).all (fun x=>x.1.isSome)&&decide ([b].length+([]:List Keyword).length+(if([]:List Keyword).isEmpty then 0 else 1)<30))=true:=by rfl)
  (hline:(apos.endLine==cpos.line)=true:=by rfl) (hs:starEach [b] X.env=(false,eval b X.env)::starEach [] X.env:=by rfl) (hpl:(backTo cpos (starEach [] X.env)).any (·.1)=false:=by rfl) (hsw:swapsWith (.Call (.Attribute (.Name x px) "append" apos) [b] [] cpos) none pos.line X.env=pure false:=by rfl):
  PS X (.Expr (.Call (.Attribute (.Name x px) "append" apos) [b] [] cpos) pos) (Z9 Z (appF i fb)):=
 (Zno (Zju PySem.F.plainAttrs_list PySem.F.slot_list_append PySem.F.type_list_append Zif (Zh0 (i:=i) hN hv hd hcd) (Za5 hb Zdt hs) hbase hfew hline hs hpl) hsw).imp fun _ _ _ h=>Z2p h
end
@[simp] noncomputable def Zcc(f:FS)(n:Nat)(ds:List D):Option SV:=match f (Zgj n ds)with
 |some (.rt sv)=>some sv
 |some (.nx _)=>some (.fz .non)
 |_=>none
theorem Zr1{N:List Str}{n:Nat}{f:FS}{vs:List V}{H:Hp}{Q:VK}{E:XK}(h:spOf K n (Zcc f N.length) vs H Q E):∃F,Z9 (ent H F:Ent K) f {nx:=fun _ H'=>Q .non H',rt:=Q} (L2.start N vs) H:=by
 obtain⟨F,ds,sv,le,r,hn,e,k⟩:=h
 unfold Zcc at e
 split at e
 ·rename_i sw hf
  cases e
  exact⟨F,F,_,_,.rt sv,Zg2 (N:=N) le r,hf,fun v H' F' ns a b c d e' nd ok=>k v H' F' ns d a b c e' nd ok⟩
 ·rename_i δ hf
  cases e
  exact⟨F,F,_,_,.nx δ,Zg2 (N:=N) le r,hf,fun σ' H' F' own' a s'=>k .non H' F' [] s'.old a s'.le s'.fro (.fz .non) List.nodup_nil fun _ h=>(nomatch h)⟩
 ·cases e
noncomputable def Z58(K:PySem.W.Frag):Sp:=fun vs H Q _=>∃(a:Addr) (ns:List Int),vs=[.ref a]∧SqL K H a (ns.map V.int)∧ns.length≤63∧∀H',Q (.bl true) H'
theorem Zlg{F:Hp}:∀ns:List Int,Reps K F (ns.map D.int) (ns.map V.int)
 | []=>.nil
 |n::r=>.cons (.int n) (Zlg r)
end DL
namespace DL
open PySem PySem.Spec PyProof.Rows L2
variable{K:PySem.W.Frag}
@[simp] noncomputable def Zo3(f:D→D→Option Bool):List D→List D→Option Bool
 |x::xs,y::ys=>(f x y).bind fun b=>(Zo3 f xs ys).bind fun c=>some (b&&c)
 |_,_=>some true
@[simp] noncomputable def Zfj(f:D→D→Option Bool):D→D→Option Bool
 | .lst xs,.lst ys=>if xs.length=ys.length then Zo3 f xs ys else some false
 | .tup xs,.tup ys=>(Zo3 f xs ys).bind fun b=>some (b&&decide (xs.length=ys.length))
 | .lst _,.tup _=>some false
 | .tup _,.lst _=>some false
 |d1,d2=>eqS d1 d2
@[simp] noncomputable def eqN:Nat→D→D→Option Bool
 |0=>fun _ _=>none
 |n+1=>Zfj (eqN n)
theorem Zg5{F H:Hp}{d1 d2:D}{x y:V}{b:Bool}(e:eqS d1 d2=some b)(r1:RepN K F H d1 x)(r2:RepN K F H d2 y):Zao x=true∧Zao y=true∧b=eqV x y:=by
 unfold eqS at e
 split at e<;> cases e<;> (first|obtain rfl:=r1.non|obtain rfl:=r1.int|obtain rfl:=r1.bl|obtain rfl:=r1.str)<;> (first|obtain rfl:=r2.non|obtain rfl:=r2.int|obtain rfl:=r2.bl|obtain rfl:=r2.str)<;> refine⟨rfl,rfl,?_⟩<;> first|rfl|simp[eqV]
section
variable{X:Cx}{pins:List (Addr×Obj)}{σ:L2.St}{F H:Hp}{s:Shared}
theorem Zr2{x y:V}{v:Value}(rx:RelV x v)(ry:RelV y v)(fx:Zao x=true)(fy:Zao y=true):eqV x y=true:=by
 cases x with
 |non=>cases rx;cases y with
  |non=>rfl
  |bl b=>cases ry
  |int b=>obtain⟨t,e⟩:=ry;cases e
  |str b=>obtain⟨t,e⟩:=ry;cases e
  |_=>cases fy
 |bl a=>cases rx;cases y with
  |non=>cases ry
  |bl b=>cases ry;simp[eqV]
  |int b=>obtain⟨t,e⟩:=ry;cases e
  |str b=>obtain⟨t,e⟩:=ry;cases e
  |_=>cases fy
 |int a=>obtain⟨t,rfl⟩:=rx;cases y with
  |non=>cases ry
  |bl b=>cases ry
  |int b=>obtain⟨t,e⟩:=ry;cases e;simp[eqV]
  |str b=>obtain⟨t,e⟩:=ry;cases e
  |_=>cases fy
 |str a=>obtain⟨t,rfl⟩:=rx;cases y with
  |non=>cases ry
  |bl b=>cases ry
  |int b=>obtain⟨t,e⟩:=ry;cases e
  |str b=>obtain⟨t,e⟩:=ry;cases e;simp[eqV]
  |_=>cases fy
 |_=>cases fx
theorem Zmv{h:Heap}{a:Addr}{i1 i2:Array Value}(h1:h.IsList a i1)(h2:h.IsList a i2):i1=i2:=by
 obtain⟨o,e1,c1,n1,d1⟩:=h1
 obtain⟨o2,e2,c2,n2,d2⟩:=h2
 rw[e1]at e2;cases e2
 rw[d1]at d2;cases d2;rfl
theorem Zkb{h:Heap}{a:Addr}{i1 i2:Array Value}(h1:h.IsTuple a i1)(h2:h.IsTuple a i2):i1=i2:=by
 obtain⟨o,e1,c1,n1,d1⟩:=h1
 obtain⟨o2,e2,c2,n2,d2⟩:=h2
 rw[e1]at e2;cases e2
 rw[d1]at d2;cases d2;rfl
theorem Zo4{f:D→D→Option Bool}(hf:∀d1 d2 b x y v,Rep X.K F d1 x→RelV x v→Rep X.K F d2 y→RelV y v→f d1 d2=some b→b=true){xs:List D}:∀{ys:List D} {vs ws:List V} {us:List Value} {b:Bool},Reps X.K F xs vs→Vals vs us→Reps X.K F ys ws→Vals ws us→Zo3 f xs ys=some b→b=true:=by
 induction xs with
 |nil=>intro ys vs ws us b _ _ _ _ e;cases e;rfl
 |cons x xs ih=>
  intro ys vs ws us b r1 v1 r2 v2 e
  cases r1 with
  |cons h1 t1=>
   cases v1 with
   |cons a1 w1=>
    cases v2 with
    |cons a2 w2=>
     cases r2 with
     |cons h2 t2=>
      obtain⟨b,e1,e2⟩:=Option.bind_eq_some_iff.mp e
      obtain⟨c,e3,e4⟩:=Option.bind_eq_some_iff.mp e2
      cases e4
      rw[hf _ _ _ _ _ _ h1 a1 h2 a2 e1,ih t1 w1 t2 w2 e3];rfl
theorem Zo5(I:Inv X pins σ H s)(le:Same F H){f:D→D→Option Bool}(ih:∀(d1 d2:D) (b:Bool) (x y:V) (v:Value),Rep X.K F d1 x→RelV x v→Rep X.K F d2 y→RelV y v→f d1 d2=some b→b=true)(d1 d2:D)(b:Bool)(x y:V)(v:Value)(r1:Rep X.K F d1 x)(v1:RelV x v)(r2:Rep X.K F d2 y)(v2:RelV y v)(e:Zfj f d1 d2=some b):b=true:=by
  unfold Zfj at e
  split at e
  ·rename_i xs ys
   cases r1 with
   |lst q1 p1=>
   cases r2 with
   |lst q2 p2=>
   cases v1;cases v2
   obtain⟨i1,w1,l1,_⟩:=I.list (Zay le q1)
   obtain⟨i2,w2,l2,_⟩:=I.list (Zay le q2)
   have z:=Zmv l1.isList l2.isList
   have z:i1=i2:=by simpa using z
   subst z
   split at e
   ·exact Zo4 (ih) p1 w1 p2 w2 e
   ·rename_i hl
    have h1:=w1.length
    have h2:=w2.length
    have h3:=p1.length
    have h4:=p2.length
    exact absurd (by omega) hl
  ·rename_i xs ys
   cases r1 with
   |tup q1 p1=>
   cases r2 with
   |tup q2 p2=>
   cases v1;cases v2
   obtain⟨i1,w1,l1,_⟩:=I.tuple (Za9 le (Zgc q1))
   obtain⟨i2,w2,l2,_⟩:=I.tuple (Za9 le (Zgc q2))
   have z:=Zkb l1 l2
   have z:i1=i2:=by simpa using z
   subst z
   obtain⟨c,e1,e2⟩:=Option.bind_eq_some_iff.mp e
   cases e2
   have h1:=w1.length
   have h2:=w2.length
   have h3:=p1.length
   have h4:=p2.length
   rw[Zo4 (ih) p1 w1 p2 w2 e1,decide_eq_true (by omega)];rfl
  ·cases r1 with
   |lst q1 p1=>
   cases r2 with
   |tup q2 p2=>
   cases v1;cases v2
   obtain⟨i1,w1,l1,_⟩:=I.list (Zay le q1)
   obtain⟨i2,w2,l2,_⟩:=I.tuple (Za9 le (Zgc q2))
   exact absurd rfl (SeqAt.ne_of_list_tuple (s:=s) l1.isList l2)
  ·cases r1 with
   |tup q1 p1=>
   cases r2 with
   |lst q2 p2=>
   cases v1;cases v2
   obtain⟨i1,w1,l1,_⟩:=I.tuple (Za9 le (Zgc q1))
   obtain⟨i2,w2,l2,_⟩:=I.list (Zay le q2)
   exact absurd rfl (SeqAt.ne_of_list_tuple (s:=s) l2.isList l1)
  ·obtain⟨f1,f2,rfl⟩:=Zg5 (H:=H) e (RepN.of r1) (RepN.of r2)
   exact Zr2 v1 v2 f1 f2
theorem Zlh{A:Around}{f:D→D→Option Bool}(hf:∀d1 d2 b x y v u,Rep X.K F d1 x→RelV x v→Rep X.K F d2 y→RelV y u→f d1 d2=some b→SeqAt.EqAt A s v u b){xs:List D}:∀{ys:List D} {vs ws:List V} {us zs:List Value} {b:Bool},Reps X.K F xs vs→Vals vs us→Reps X.K F ys ws→Vals ws zs→Zo3 f xs ys=some b→
  ∃e:Nat→Bool,(∀j (h1:j<us.length) (h2:j<zs.length),SeqAt.EqAt A s us[j] zs[j] (e j))∧(List.range (min us.length zs.length)).all e=b:=by
 induction xs with
 |nil=>
  intro ys vs ws us zs b r1 v1 _ _ e
  cases r1
  cases v1
  cases e
  exact⟨fun _=>true,fun j h1=>absurd h1 (Nat.not_lt_zero _),by rw[List.length_nil,Nat.zero_min];rfl⟩
 |cons x xs ih=>
  intro ys vs ws us zs b r1 v1 r2 v2 e
  cases r1 with
  |cons h1 t1=>
   cases v1 with
   |cons a1 w1=>
    cases v2 with
    |nil=>
     cases r2
     cases e
     exact⟨fun _=>true,fun j _ h2=>absurd h2 (Nat.not_lt_zero _),by rw[List.length_nil,Nat.min_zero];rfl⟩
    |cons a2 w2=>
     cases r2 with
     |cons h2 t2=>
      obtain⟨b,e1,e2⟩:=Option.bind_eq_some_iff.mp e
      obtain⟨c,e3,e4⟩:=Option.bind_eq_some_iff.mp e2
      cases e4
      obtain⟨g,g1,g2⟩:=ih t1 w1 t2 w2 e3
      refine⟨fun j=>Nat.casesOn j b g,fun j h1 h2=>?_,?_⟩
      ·cases j with
       |zero=>exact hf _ _ _ _ _ _ _ ‹_› a1 ‹_› a2 e1
       |succ j=>exact g1 j (Nat.lt_of_succ_lt_succ h1) (Nat.lt_of_succ_lt_succ h2)
      ·rw[List.length_cons,List.length_cons,Nat.succ_min_succ,List.range_succ_eq_map,List.all_cons,List.all_map,←g2]
       rfl
theorem rcN(I:Inv X pins σ H s)(le:Same F H){A:Around}{f:D→D→Option Bool}{d1 d2:D}{b:Bool}{x y:V}{v u:Value}
  (ih:∀d1 d2 b x y v u,Rep X.K F d1 x→RelV x v→Rep X.K F d2 y→RelV y u→f d1 d2=some b→SeqAt.EqAt A.in1 s v u b) (r1:RepN X.K F H d1 x) (v1:RelV x v) (r2:RepN X.K F H d2 y) (v2:RelV y u)
  (e:Zfj f d1 d2=some b) (hu:A.units<cLine) (hr:Zao x=false∨Zao y=false):(∃a c,v= .ref a∧u= .ref c)∧SeqAt.RcAt A s v u b∧SeqAt.RcNeAt A s v u (!b):=by
 unfold Zfj at e
 split at e
 ·obtain⟨a1,vs1,rfl,q1,p1⟩:=r1.lst le
  obtain⟨a2,vs2,rfl,q2,p2⟩:=r2.lst le
  cases v1;cases v2
  obtain⟨i1,w1,l1,_⟩:=I.list q1
  obtain⟨i2,w2,l2,_⟩:=I.list q2
  have h1:=w1.length
  have h2:=w2.length
  have h3:=p1.length
  have h4:=p2.length
  refine⟨⟨_,_,rfl,rfl⟩,?_⟩
  split at e
  ·rename_i hl
   obtain⟨g,g1,g2⟩:=Zlh ih p1 w1 p2 w2 e
   have hm:min i1.length i2.length=i1.toArray.size:=by simp;omega
   rw[hm]at g2
   subst g2
   have hz:i1.toArray.size=i2.toArray.size:=by simp;omega
   exact⟨SeqAt.RcAt.lists l1.isList l2.isList hz hu (fun j j1 j2=>by simpa using g1 j (by simpa using j1) (by simpa using j2)),SeqAt.RcNeAt.lists l1.isList l2.isList hz hu (fun j j1 j2=>by simpa using g1 j (by simpa using j1) (by simpa using j2))⟩
  ·rename_i hl
   cases e
   have hz:(i1.toArray.size !=i2.toArray.size)=true:=by simp;omega
   exact⟨SeqAt.RcAt.lists_lengths l1.isList l2.isList hz hu,SeqAt.RcNeAt.lists_lengths l1.isList l2.isList hz hu⟩
 ·rename_i xs ys
  obtain⟨a1,vs1,rfl,q1,p1⟩:=r1.tup le
  obtain⟨a2,vs2,rfl,q2,p2⟩:=r2.tup le
  cases v1;cases v2
  obtain⟨i1,w1,l1,_⟩:=I.tuple q1
  obtain⟨i2,w2,l2,_⟩:=I.tuple q2
  have h1:=w1.length
  have h2:=w2.length
  have h3:=p1.length
  have h4:=p2.length
  obtain⟨c,e1,e2⟩:=Option.bind_eq_some_iff.mp e
  cases e2
  refine⟨⟨_,_,rfl,rfl⟩,?_⟩
  obtain⟨g,g1,g2⟩:=Zlh ih p1 w1 p2 w2 e1
  subst g2
  have e3:((List.range (min i1.length i2.length)).all g&&decide (xs.length=ys.length))=((List.range (min i1.toArray.size i2.toArray.size)).all g&&i1.toArray.size==i2.toArray.size):=by
   have:(i1.toArray.size==i2.toArray.size)=decide (xs.length=ys.length):=by
    rw[List.size_toArray,List.size_toArray,←h1,←h2,←h3,←h4];rfl
   rw[this];simp
  rw[e3]
  exact⟨SeqAt.RcAt.tuples l1 l2 hu (fun j j1 j2=>by simpa using g1 j (by simpa using j1) (by simpa using j2)),SeqAt.RcNeAt.tuples l1 l2 hu (fun j j1 j2=>by simpa using g1 j (by simpa using j1) (by simpa using j2))⟩
 ·obtain⟨a1,vs1,rfl,q1,p1⟩:=r1.lst le
  obtain⟨a2,vs2,rfl,q2,p2⟩:=r2.tup le
  cases v1;cases v2
  cases e
  obtain⟨i1,w1,l1,_⟩:=I.list q1
  obtain⟨i2,w2,l2,_⟩:=I.tuple q2
  exact⟨⟨_,_,rfl,rfl⟩,SeqAt.RcAt.list_tuple l1.isList l2 hu,SeqAt.RcNeAt.list_tuple l1.isList l2 hu⟩
 ·obtain⟨a1,vs1,rfl,q1,p1⟩:=r1.tup le
  obtain⟨a2,vs2,rfl,q2,p2⟩:=r2.lst le
  cases v1;cases v2
  cases e
  obtain⟨i1,w1,l1,_⟩:=I.tuple q1
  obtain⟨i2,w2,l2,_⟩:=I.list q2
  exact⟨⟨_,_,rfl,rfl⟩,SeqAt.RcAt.tuple_list l1 l2.isList hu,SeqAt.RcNeAt.tuple_list l1 l2.isList hu⟩
 ·obtain⟨f1,f2,_⟩:=Zg5 e r1 r2
  rcases hr with hr|hr
  ·rw[f1]at hr;cases hr
  ·rw[f2]at hr;cases hr
noncomputable def rEqN(K:PySem.W.Frag)(neg:Bool):R2:=fun x y H Q=>∃F d1 d2 b,Same F H∧RepN K F H d1 x∧RepN K F H d2 y∧eqN 48 d1 d2=some b∧(Zao x=false∨Zao y=false)∧Q (.bl (if neg then !b else b)) H
end
@[simp] noncomputable def D.isFlat:D→Bool
 | .non=>true| .bl _=>true| .int _=>true| .str _=>true|_=>false
@[simp] noncomputable def eqX(d1 d2:D):Option SV:=if d1.isFlat=true∧d2.isFlat=true then eqD d1 d2 else(eqN 48 d1 d2).bind fun b=>some (.fz (.bl b))
@[simp] noncomputable def neX(d1 d2:D):Option SV:=if d1.isFlat=true∧d2.isFlat=true then neD d1 d2 else(eqN 48 d1 d2).bind fun b=>some (.fz (.bl !b))
theorem Zgk{F H:Hp}{d:D}{x:V}(r:RepN K F H d x)(h:d.isFlat=false):Zao x=false:=by
 obtain⟨sv,ns,e,n,sh,hp⟩:=r
 cases sh with
 |fz r=>cases e;cases r<;> first|rfl|cases h
 |ol r=>rfl
 |oK e' r=>rfl
 |oT kb e' r=>rfl
 |oN e' r=>rfl
 |oL _ r=>rfl
section
variable{Z:Ent K}
@[simp] noncomputable def negD:D→Option SV
 | .int i=>some (.fz (.int (-i)))
 |_=>none
end
section
variable{X:Cx}{Z:Ent X.K}{a b c:Expr}{fa fb fc:FE}{pos:Pos}
end
end DL
namespace L2
open PySem PySem.Spec PyProof.Rows
section
variable{X:Cx}{tg:Expr}
noncomputable def Its(z:Str):It:=⟨fun i _=>i<z.length,fun i H x H'=>H'=H∧∃c,z.cps[i]? =some c∧x= .str ⟨#[c]⟩,fun i _=>z.length≤i⟩
theorem Zo6{P:Program}{w:World}{K:PySem.W.Frag}{tg:Expr}(z:Str)(t:Tok)(it:Addr):Turn P w K tg (Its z) [it] it (fun i h=>h.IsStrIter it (strIterType z) z t i)where
 mem:=by simp
 obj:=fun i h st b hb=>by
  have e:b=it:=by simpa using hb
  subst e
  obtain⟨o,e,c,d⟩:=st
  exact⟨o,e,fun v q=>by rw[d]at q;cases q⟩
 keep:=fun i h h' st k=>by
  obtain⟨o,e,c,d⟩:=st
  exact⟨o,k it (by simp) o e,c,d⟩
 item:=by
  intro X hP hw hK hc i pins s σ H E I hf st hg
  subst hP hw hK
  obtain⟨f0,f1,f2,f3,f4,f5⟩:=hf it (by simp)
  have hlt:i<z.cps.size:=hg
  have hx:z.cps[i]? =some z.cps[i]:=by simp[hlt]
  have fin:∀h',h'.IsStrIter it (strIterType z) z t (i+1)→Heap.SameBut it s.heap h'→∃u,some (Value.str ⟨#[z.cps[i]]⟩ s.toks)=some u∧wpAny (model X.prog X.w) X.A (letOwnedTupleGo tg (.ref it) u) (fun _ s2=>∃x H',Inv X pins σ H' s2∧RelV x u∧(Its z).yld i H x H'∧s2.heap.IsStrIter it (strIterType z) z t (i+1)∧∀b∈[it],H' b=none) E {s with heap:=h',toks:=s.toks+1}:=fun h' st' sb=>by
   have I1:Inv X pins σ H {s with heap:=h',toks:=s.toks+1}:=I.turned (t':=s.toks+1) (fun b o hb q=>(sb.2 b hb).trans q) f0 f1 f3 f4 f5
   obtain⟨o,e,c,d⟩:=id st'
   have hn:["enumerate","zip","dict_itemiterator","dict_reverseitemiterator","odict_iterator","itertools.zip_longest","itertools.pairwise"].contains (strIterType z)=false:=by
    unfold strIterType
    split<;> decide
   exact⟨_,rfl,Zq4 (s:={s with heap:=h',toks:=s.toks+1}) e c d hn ⟨.str ⟨#[z.cps[i]]⟩,H,I1,⟨_,rfl⟩,⟨rfl,_,hx,rfl⟩,st',fun b hb=>(hf b hb).1⟩⟩
  cases ha:z.cps.all (· <128)with
  |false=>
   have et:strIterType z="str_iterator":=by unfold strIterType;rw[ha];rfl
   rw[et]at st fin
   rw[et]
   exact wpAny_pyNext_wide_item st hx fin
  |true=>
   have et:strIterType z="str_ascii_iterator":=by unfold strIterType;rw[ha];rfl
   rw[et]at st fin
   rw[et]
   exact wpAny_pyNext_ascii_item st hx fin
 done:=by
  intro X hP hw hK hc i pins s σ H E I hf st hg
  subst hP hw hK
  obtain⟨f0,f1,f2,f3,f4,f5⟩:=hf it (by simp)
  have hge:z.cps.size≤i:=hg
  have hx:z.cps[i]? =none:=by simp[hge]
  cases ha:z.cps.all (· <128)with
  |false=>
   have et:strIterType z="str_iterator":=by unfold strIterType;rw[ha];rfl
   rw[et]at st
   exact wpAny_pyNext_wide_end (I.ok.hd hc) st hx fun h' eb=>⟨rfl,I.turned (t':=s.toks) (fun b o hb q=>eb b o hb q) f0 f1 f3 f4 f5⟩
  |true=>
   have et:strIterType z="str_ascii_iterator":=by unfold strIterType;rw[ha];rfl
   rw[et]at st
   exact wpAny_pyNext_ascii_end (I.ok.hd hc) st hx fun h' eb=>⟨rfl,I.turned (t':=s.toks) (fun b o hb q=>eb b o hb q) f0 f1 f3 f4 f5⟩
 self:=fun _ _ _ _ _ st h=>by
  cases ha:z.cps.all (· <128)with
  |false=>
   have et:strIterType z="str_iterator":=by unfold strIterType;rw[ha];rfl
   rw[et]at st
   exact wpAny_pyIter_striter_wide st h
  |true=>
   have et:strIterType z="str_ascii_iterator":=by unfold strIterType;rw[ha];rfl
   rw[et]at st
   exact wpAny_pyIter_striter_ascii st h
noncomputable def iAny(K:PySem.W.Frag)(tl:TE):TI:=fun σ H R=>tl σ H fun x H1=>(∃a,x= .ref a∧(∃xs,SqL K H1 a xs)∧R (Itl K a) H1)∨(∃a,x= .ref a∧(∃xs,SqT K H1 a xs)∧R (Itt K a) H1)∨(∃z,x= .str z∧R (Its z) H1)
theorem Zzi{l:Expr}{tl:TE}(hl:PE X l tl):PI X tg l (iAny X.K tl):=by
 intro pins s σ H R I h
 refine thn (hl pins s σ H _ I h) fun v s1 zq9=>?_
 obtain⟨x,H1,I1,r1,q1⟩:=zq9
 rcases q1 with⟨a,e,⟨xs,hq⟩,q⟩|⟨a,e,⟨xs,hq⟩,q⟩|⟨z,e,q⟩
 ·subst e
  cases r1
  obtain⟨its,rv,p,hz⟩:=I1.list hq
  refine wpAny_pyIter_list p.isList ?_
  refine⟨s1.heap.objs.size,[s1.heap.objs.size],_,_,H1,rfl,I1.kept (t':=s1.toks) fun b o e=>Heap.get?_push_of_some _ e,Znq a _,⟨_,Heap.get?_push_size _ rfl,rfl,rfl⟩,fun b hb=>?_,q⟩
  have e:b=s1.heap.objs.size:=by simpa using hb
  subst e
  exact I1.fpOk (Nat.le_refl _) (I1.hok.fresh (Nat.le_refl _))
 ·subst e
  cases r1
  obtain⟨its,rv,p,hz⟩:=I1.tuple hq
  refine wpAny_pyIter_tuple (show s1.heap.IsTuple a its.toArray from p) ?_
  refine⟨s1.heap.objs.size,[s1.heap.objs.size],_,_,H1,rfl,I1.kept (t':=s1.toks) fun b o e=>Heap.get?_push_of_some _ e,Zmh a _,⟨_,Heap.get?_push_size _ rfl,rfl,rfl⟩,fun b hb=>?_,q⟩
  have e:b=s1.heap.objs.size:=by simpa using hb
  subst e
  exact I1.fpOk (Nat.le_refl _) (I1.hok.fresh (Nat.le_refl _))
 ·subst e
  obtain⟨t,rfl⟩:=r1
  refine wpAny_pyIter_strU ?_
  refine⟨s1.heap.objs.size,[s1.heap.objs.size],_,_,H1,rfl,I1.kept (t':=s1.toks) fun b o e=>Heap.get?_push_of_some _ e,Zo6 z t _,⟨_,Heap.get?_push_size _ rfl,rfl,rfl⟩,fun b hb=>?_,q⟩
  have e:b=s1.heap.objs.size:=by simpa using hb
  subst e
  exact I1.fpOk (Nat.le_refl _) (I1.hok.fresh (Nat.le_refl _))
theorem Zfk:∀l:List (Str×Tok),Vals ((l.map (·.1)).map V.str) (strValues l)
 | []=>.nil
 | (x,t)::r=>.cons ⟨t,rfl⟩ (Zfk r)
noncomputable def Ztq:V→List V→Hp→VK→Prop:=fun x xs H Q=>∃a b,x= .str a∧xs=[.str b]∧(b.length==0)=false∧a.length≤sizeLine∧(Txt.split a b).length≤sizeLine∧∀p,H p=none→Q (.ref p) (upd H p (.lst ((Txt.split a b).map V.str)))
theorem Zr3:MtR X "str.split" Ztq:=by
 intro pins s σ H x xs v us Q I rx rs h
 obtain⟨a,b,rfl,rfl,hb,ha,hz,q⟩:=h
 obtain⟨t,rfl⟩:=rx
 obtain⟨u,rfl,ru⟩:=Zds rs
 obtain⟨t',rfl⟩:=ru
 have one:Txt.split a b=[a]→∀tk,EP X pins σ Q (.ref s.heap.objs.size) {s with toks:=tk,heap:=s.heap.push {cls:=.type "list",data:=.seq #[.str a t]}}:=fun e tk=>by
  rw[e]at q
  exact⟨.ref _,_,I.lnew (t':=tk) (ys:=[.str a]) (its:=[.str a t]) (.cons ⟨t,rfl⟩ .nil) (by show 1≤sizeLine;decide),rfl,q _ I.fresh⟩
 cases h1:(decide (a.length<b.length)||decide (Builtin.Str.strKind a<Builtin.Str.strKind b))
 ·cases hf:(Builtin.Str.occurrences a b 0 a.length (a.length+1)).isEmpty
  ·have e:Txt.split a b=Builtin.Str.partsBetween a (Builtin.Str.occurrences a b 0 a.length (a.length+1)) b.length:=(if_neg (ne_true_of_eq_false h1)).trans (if_neg (ne_true_of_eq_false hf))
   rw[e]at hz q
   refine call_meets F.slot_str_split (typeIs_str _ _ _) F.entry_str_split (F.args_str_split_2 _ _) (meets_str_split_sep a b t t' h1 hb hf ha hz) ?_
   rw[strsFrom_eq]
   have hv:=Zfk (numbered s.toks (Builtin.Str.partsBetween a (Builtin.Str.occurrences a b 0 a.length (a.length+1)) b.length))
   rw[numbered_texts]at hv
   exact⟨.ref _,_,I.lnew (t':=_) hv (by rw[List.length_map];exact hz),rfl,q _ I.fresh⟩
  ·exact call_meets F.slot_str_split (typeIs_str _ _ _) F.entry_str_split (F.args_str_split_2 _ _) (meets_str_split_not_found a b t t' h1 hb hf) (one ((if_neg (ne_true_of_eq_false h1)).trans (if_pos hf)) s.toks)
 ·exact call_meets F.slot_str_split (typeIs_str _ _ _) F.entry_str_split (F.args_str_split_2 _ _) (meets_str_split_cannot_occur a b t t' h1) (one (if_pos h1) s.toks)
noncomputable def Zzj:V→List V→Hp→VK→Prop:=fun x xs H Q=>∃a b,x= .str a∧xs=[.str b]∧(b.length==0)=false∧a.length≤sizeLine∧∀p,H p=none→Q (.ref p) (upd H p (.tup [.str (Txt.partition a b).1,.str (Txt.partition a b).2.1,.str (Txt.partition a b).2.2]))
theorem Inv.tnew{pins:List (Addr×Obj)}{σ:L2.St}{H:Hp}{s:Shared}{ys:List V}{its:List Value}{t':Nat}(I:Inv X pins σ H s)(hv:Vals ys its)(hz:ys.length≤sizeLine):
  Inv X pins σ (upd H s.heap.objs.size (.tup ys)) {s with heap:=s.heap.push {cls:=.type "tuple",data:=.seq its.toArray},toks:=t'}:=
 I.laid (fun _ _ q=>Heap.get?_push_of_some _ q) (Nat.le_refl _) ⟨hz,its,hv,⟨_,Heap.get?_push_size _ rfl,rfl,_,rfl⟩⟩
theorem Zvy:MtR X "str.partition" Zzj:=by
 intro pins s σ H x xs v us Q I rx rs h
 obtain⟨a,b,rfl,rfl,hb,ha,q⟩:=h
 obtain⟨t,rfl⟩:=rx
 obtain⟨u,rfl,ru⟩:=Zds rs
 obtain⟨t',rfl⟩:=ru
 refine call_meets F.slot_str_partition (typeIs_str _ _ _) F.entry_str_partition (F.args_str_partition_2 _ _) (meets_str_partition a b t t' hb ha) ?_
 unfold Txt.partition at q
 cases e:Builtin.Str.occurrences a b 0 a.length 1 with
 |nil=>
  rw[e]at q
  exact⟨.ref _,_,I.tnew (t':=s.toks+1) (ys:=[.str a,.str Str.empty,.str Str.empty]) (its:=[.str a t,.str Str.empty s.toks,.str Str.empty s.toks]) (.cons ⟨_,rfl⟩ (.cons ⟨_,rfl⟩ (.cons ⟨_,rfl⟩ .nil))) (by show 3≤sizeLine;decide),rfl,q _ I.fresh⟩
 |cons i r=>
  rw[e]at q
  exact⟨.ref _,_,I.tnew (t':=s.toks+1+1) (ys:=[.str (Builtin.Str.strSub a 0 i),.str b,.str (Builtin.Str.strSub a (i+b.length) a.length)]) (its:=[.str (Builtin.Str.strSub a 0 i) s.toks,.str b t',.str (Builtin.Str.strSub a (i+b.length) a.length) (s.toks+1)]) (.cons ⟨_,rfl⟩ (.cons ⟨_,rfl⟩ (.cons ⟨_,rfl⟩ .nil))) (by show 3≤sizeLine;decide),rfl,q _ I.fresh⟩
noncomputable def rAll(K:PySem.W.Frag):List V→Hp→VK→Prop:=fun xs H Q=>∃(p:Addr) (bs:List Bool),xs=[.ref p]∧SqL K H p (bs.map V.bl)∧Q (.bl (bs.all id)) H
theorem Zli:∀{bs:List Bool} {us:List Value},Vals (bs.map V.bl) us→us=bs.map Value.bool
 | [],_,r=>by rw[List.map_nil]at r;cases r;rfl
 |b::bs,_,r=>by
  rw[List.map_cons]at r
  cases r with
  |cons h t=>
   cases(show _=Value.bool b from h)
   rw[Zli t];rfl
theorem Zis:∀bs:List Bool,(List.range bs.length).all (fun i=>(bs[i]?).getD true)=bs.all id
 | []=>rfl
 |b::bs=>by
  rw[List.length_cons,List.range_succ_eq_map,List.all_cons,List.all_map,List.all_cons,←Zis bs]
  rfl
theorem Zr4(hc:X.calm=true):Zdf X (.builtin "all") (rAll X.K):=by
 intro pins s σ H xs us Q I rs h
 obtain⟨p,bs,rfl,hq,q⟩:=h
 obtain⟨u,rfl,ru⟩:=Zds rs
 cases ru
 obtain⟨its,rv,pl,hz⟩:=I.list hq
 have e:=Zli rv
 subst e
 refine call_all_walk (wpAny_pyIter_list pl.isList ?_)
 have hne:p≠s.heap.objs.size:=fun z=>by
  obtain⟨o,ho,_⟩:=pl.isList
  have:=Heap.lt_size ho
  rw[z]at this;exact Nat.lt_irrefl _ this
 refine⟨s.heap.objs.size,_,_,_,_,_,fun i=>(bs[i]?).getD true,rfl,Walks.list (by first|exact I.ok.hd hc| (rw[show X.A.in1.handled=X.A.handled from rfl];exact I.ok.hd hc)) _ p hne (bs.map Value.bool).toArray,⟨⟨_,Heap.get?_push_size _ rfl,rfl,rfl⟩,pl.isList.at fun o e=>Heap.get?_push_of_some _ e⟩,?_,fun h' tk hk=>?_⟩
 ·intro i v s' Q' E' hP hQ
  have hP':(bs.map Value.bool)[i]? =some v:=by simpa using hP
  rw[List.getElem?_map]at hP'
  cases hb:bs[i]? with
  |none=>rw[hb]at hP';cases hP'
  |some b=>
   rw[hb]at hP'
   cases hP'
   dsimp only at hQ
   rw[hb]at hQ
   exact wpAny_truthy_bool hQ
 ·have e:(List.range (bs.map Value.bool).toArray.size).all (fun i=>(bs[i]?).getD true)=bs.all id:=by
   rw[List.size_toArray,List.length_map];exact Zis bs
  rw[e]
  refine⟨.bl _,H,I.kept (t':=tk) fun b o hb=>hk b o (fun z=>?_) (Heap.get?_push_of_some _ hb),rfl,q⟩
  have z':b=s.heap.objs.size:=by simpa using z
  have:=Heap.lt_size hb
  rw[z']at this;exact Nat.lt_irrefl _ this
end
end L2
namespace DL
open PySem PySem.Spec PyProof.Rows L2
variable{K:PySem.W.Frag}
noncomputable def signs(z:Str):List D:=z.cps.toList.map fun c=>.str ⟨#[c]⟩
theorem Zkc{z:Str}{F:Hp}:Zen K (Its z) F (signs z):=fun F' H sF sH i=>by
 have hl:(signs z).length=z.length:=by unfold signs;rw[List.length_map];rfl
 refine⟨fun d hd=>?_,fun h=>by rw[hl]at h;exact h⟩
 have hi:i<z.length:=by
  have:=(List.getElem?_eq_some_iff.mp hd).1
  rw[hl]at this;exact this
 refine⟨hi,fun x H' zq9=>?_⟩
 obtain⟨e1,c,e2,e3⟩:=zq9
 subst e1 e3
 unfold signs at hd
 rw[List.getElem?_map]at hd
 have e4:z.cps.toList[i]? =some c:=by simpa using e2
 rw[e4]at hd
 cases hd
 exact⟨Same.refl _,[],List.nodup_nil,fun _ h=>(nomatch h),.str _⟩
section
variable{Z:Ent K}{H:Hp}{σ:L2.St}{Q:VK}{E:Ends}
@[simp] noncomputable def anyI(fe:FE):FD:=fun δ=>(fe δ).bind fun p=>(frz p.1 p.2).bind fun q=>match q.1 with
 | .lst xs=>some (xs,q.2)
 | .tup xs=>some (xs,q.2)
 | .str z=>some (signs z,q.2)
 |_=>none
theorem Zzk{fe:FE}{R:It→Hp→Prop}(h:Zc9 Z (anyI fe) σ H R):iAny K (Ze Z fe) σ H R:=by
 obtain⟨F,δ,own,ds,δ',s,e,k⟩:=h
 obtain⟨⟨rv,δ1⟩,e1,e2⟩:=Option.bind_eq_some_iff.mp e
 obtain⟨⟨d,δ2⟩,e3,e4⟩:=Option.bind_eq_some_iff.mp e2
 refine⟨F,δ,own,rv,δ1,s,e1,fun v H1 F1 own1 sH sF s1 r1=>?_⟩
 obtain⟨F2,sF2,s2,r2⟩:=s1.settleR r1
 obtain⟨F3,own3,sF3,s3,r3⟩:=s2.frzR r2 e3
 dsimp only at e4
 split at e4
 ·cases e4
  cases r3 with
  |lst h r=>exact .inl ⟨_,rfl,⟨_,Zay s3.le h⟩,k _ H1 F3 own3 sH (sF.trans (sF2.trans sF3)) s3 (Zj2 h r)⟩
 ·cases e4
  cases r3 with
  |tup h r=>exact .inr (.inl ⟨_,rfl,⟨_,Za9 s3.le (Zgc h)⟩,k _ H1 F3 own3 sH (sF.trans (sF2.trans sF3)) s3 (Zmu (Zgc h) r)⟩)
 ·cases e4
  cases r3 with
  |str x=>exact .inr (.inr ⟨_,rfl,k _ H1 F3 own3 sH (sF.trans (sF2.trans sF3)) s3 Zkc⟩)
 ·cases e4
@[simp] noncomputable def inS(i j:Str):Bool:=!(Builtin.Str.occurrences j i 0 j.length 1).isEmpty
@[simp] noncomputable def inD:D→D→Option SV
 | .str i,.str j=>some (.fz (.bl (inS i j)))
 |_,_=>none
@[simp] noncomputable def Zlj:D→D→Option SV
 | .str i,.str j=>some (.fz (.bl (!inS i j)))
 |_,_=>none
theorem p_in:Zaq Z (fun x y H Q=>∃i j,x= .str i∧y= .str j∧Q (.bl (!(Builtin.Str.occurrences j i 0 j.length 1).isEmpty)) H) inD:=by
 intro F H σ δ own x y d1 d2 sv Q s r1 r2 e k
 unfold inD at e
 split at e
 ·cases e;exact⟨_,_,r1.str,r2.str,k.fz s (.bl _)⟩
 ·cases e
theorem Zvz:Zaq Z (fun x y H Q=>∃i j,x= .str i∧y= .str j∧Q (.bl (!(!(Builtin.Str.occurrences j i 0 j.length 1).isEmpty))) H) Zlj:=by
 intro F H σ δ own x y d1 d2 sv Q s r1 r2 e k
 unfold Zlj at e
 split at e
 ·cases e;exact⟨_,_,r1.str,r2.str,k.fz s (.bl _)⟩
 ·cases e
@[simp] noncomputable def Zit:List D→Option SV
 | [.str a,.str b]=>if(b.length==0)=false∧a.length≤PySem.sizeLine∧(Txt.split a b).length≤PySem.sizeLine then some (.ol ((Txt.split a b).map D.str))else none
 |_=>none
theorem Zfl{F:Hp}:∀xs:List Str,Reps K F (xs.map D.str) (xs.map V.str)
 | []=>.nil
 |x::r=>.cons (.str x) (Zfl r)
theorem Zv0:Zou Z Ztq Zit:=by
 intro F H σ δ own vs ds sv Q s r e k
 unfold Zit at e
 split at e
 ·rename_i a b
  split at e
  ·rename_i h
   cases e
   cases r with
   |cons h1 t=>cases t with
    |cons h2 t=>cases t;exact⟨_,_,rfl,a,b,h1.str,by rw[h2.str],h.1,h.2.1,h.2.2,fun p hp=>k.lst s (Zfl _) hp⟩
  ·cases e
 ·cases e
@[simp] noncomputable def Zb1:List D→Option SV
 | [.str a,.str b]=>if(b.length==0)=false∧a.length≤PySem.sizeLine then some (.fz (.tup [.str (Txt.partition a b).1,.str (Txt.partition a b).2.1,.str (Txt.partition a b).2.2]))else none
 |_=>none
theorem Zkd:Zou Z Zzj Zb1:=by
 intro F H σ δ own vs ds sv Q s r e k
 unfold Zb1 at e
 split at e
 ·rename_i a b
  split at e
  ·rename_i h
   cases e
   cases r with
   |cons h1 t=>cases t with
    |cons h2 t=>cases t;exact⟨_,_,rfl,a,b,h1.str,by rw[h2.str],h.1,h.2,fun p hp=>k.tup s (.cons (.str _) (.cons (.str _) (.cons (.str _) .nil))) hp⟩
  ·cases e
 ·cases e
@[simp] noncomputable def bools?:List D→Option (List Bool)
 | []=>some []
 | .bl x::r=>(bools? r).bind fun t=>some (x::t)
 |_=>none
theorem Zlk{F:Hp}:∀{ds:List D} {xs:List Bool} {vs:List V},bools? ds=some xs→Reps K F ds vs→vs=xs.map V.bl
 | [],_,_,e,r=>by cases e;cases r;rfl
 |d::ds,_,_,e,r=>by
  cases r with
  |cons h t=>
   unfold bools? at e
   split at e
   ·rename_i e0;cases e0
   ·rename_i x r0 e0
    cases e0
    obtain⟨ys,e1,e2⟩:=Option.bind_eq_some_iff.mp e
    cases e2
    cases h
    rw[Zlk e1 t];rfl
   ·cases e
@[simp] noncomputable def allD:List D→Option SV
 | [.lst xs]=>(bools? xs).bind fun bs=>some (.fz (.bl (bs.all id)))
 |_=>none
theorem Z20:Zg0 Z (rAll K) allD:=by
 intro F H σ δ own vs ds sv Q s r e k
 unfold allD at e
 split at e
 ·obtain⟨bs,e1,e2⟩:=Option.bind_eq_some_iff.mp e
  cases e2
  cases r with
  |cons h1 t=>
   cases t
   obtain⟨a,vs,rfl,ha,ra⟩:=h1.lst s.le
   rw[Zlk e1 ra]at ha
   exact⟨a,bs,rfl,ha,k.fz s (.bl _)⟩
 ·cases e
@[simp] noncomputable def Z43(i:Nat):FS:=fun δ=>match δ[i]? with
 |some (some (.ol _))=>some (.nx (δ.set i (some (.ol []))))
 |_=>none
end
section
variable{X:Cx}{Z:Ent X.K}{a b c:Expr}{fa fb fc:FE}{pos:Pos}{tg:Expr}
theorem Zr5(ha:PE X a (Ze Z fa)):PI X tg a (Zc9 Z (anyI fa)):=fun pins s σ H R I h=>Zzi ha pins s σ H R I (Zzk h)
theorem Zo7{apos cpos:Pos}(ha:PE X a (Ze Z fa))(hb:PE X b (Ze Z fb))(hbase:attributeBase a "split" X.env (eval a X.env)=eval a X.env:=by rfl)
  (hfew:((backTo cpos (starEach [b] X.env)).all (fun x=>!x.1)&&(backToKw cpos (keywordEach [] X.env)).all (fun x=>x.1.isSome)&&decide ([b].length+([]:List Keyword).length+(if([]:List Keyword).isEmpty then 0 else 1)<30))=true:=by rfl)
  (hline:(apos.endLine==cpos.line)=true:=by rfl) (hs:starEach [b] X.env=(false,eval b X.env)::starEach [] X.env:=by rfl) (hpl:(backTo cpos (starEach [] X.env)).any (·.1)=false:=by rfl):
  PE X (.Call (.Attribute a "split" apos) [b] [] cpos) (Ze Z (bmF "str" Zit fa (Zd fb Zj))):=
 (Zju PySem.F.plainAttrs_str PySem.F.slot_str_split PySem.F.type_str_split Zr3 ha (Zh hb Zag hs) hbase hfew hline hs hpl).imp fun _ _ _ h=>l_bm Zv0 h
theorem Zfm{apos cpos:Pos}(ha:PE X a (Ze Z fa))(hb:PE X b (Ze Z fb))(hbase:attributeBase a "partition" X.env (eval a X.env)=eval a X.env:=by rfl)
  (hfew:((backTo cpos (starEach [b] X.env)).all (fun x=>!x.1)&&(backToKw cpos (keywordEach [] X.env)).all (fun x=>x.1.isSome)&&decide ([b].length+([]:List Keyword).length+(if([]:List Keyword).isEmpty then 0 else 1)<30))=true:=by rfl)
  (hline:(apos.endLine==cpos.line)=true:=by rfl) (hs:starEach [b] X.env=(false,eval b X.env)::starEach [] X.env:=by rfl) (hpl:(backTo cpos (starEach [] X.env)).any (·.1)=false:=by rfl):
  PE X (.Call (.Attribute a "partition" apos) [b] [] cpos) (Ze Z (bmF "str" Zb1 fa (Zd fb Zj))):=
 (Zju PySem.F.plainAttrs_str PySem.F.slot_str_partition PySem.F.type_str_partition Zvy ha (Zh hb Zag hs) hbase hfew hline hs hpl).imp fun _ _ _ h=>l_bm Zkd h
theorem Z21{p:Pos}(hm:X.mg "all"=none)(ha:PE X a (Ze Z fa))(hc:X.calm=true:=by rfl)(hg:Gl X "all":=by rfl)(he:starEach [a] X.env=(false,eval a X.env)::starEach [] X.env:=by rfl)(hpl:(backTo pos (starEach [] X.env)).any (·.1)=false:=by rfl):PE X (.Call (.Name "all" p) [a] [] pos) (Ze Z (Zcl allD (Zd fa Zj))):=
 Zoz (Zr4 hc) Z20 hm boot_all (Zh ha Zag he) hg (by decide) (by decide) he hpl
end
end DL
namespace L2
open PySem PySem.Spec PyProof.Rows
open AutoSeq1 (wpAny_loadPart')
section
variable{prog:Program}{w:World}{A:Around}{E:Value→Shared→Prop}{s:Shared}
theorem Zfn{it t:Addr}{i:Nat}{items:Array Value}{x:Value}{Q:Value→Shared→Prop}(hit:s.heap.IsTupleIter it t i)(ht:s.heap.IsTuple t items)(hx:items[i]? =some x)
  (hQ:∀h',h'.IsTupleIter it t (i+1)→Heap.SameBut it s.heap h'→Q x {s with heap:=h'}):wpAny (model prog w) A (Builtin.SmallTypes.nextOf (.ref it)) Q E s:=by
 obtain⟨o,ho,hc,hd⟩:=id hit;obtain⟨ol,hol,_,nl,hdl⟩:=ht;unfold Builtin.SmallTypes.nextOf
 refine wpAny_bind (wpAny_callSpecial?_slot (name:=Str.ofString "__next__") hit.typeIs F.slot_tuple_iterator_next (wpAny_call_entry F.slot_tuple_iterator_next hit.typeIs F.entry_tuple_iterator_next ?_ (F.args_tuple_iterator_next_1 _)))
 show wpAny _ _ (field (.ref it) 0 >>=_) _ _ s;refine wpAny_bind (wpAny_field ho hd (x:=.ref t) rfl ?_)
 show wpAny _ _ (if(Value.ref t==Value.none)=true then _ else _) _ _ s;rw[if_neg (show¬((Value.ref t==Value.none)=true)from Bool.false_ne_true)]
 show wpAny _ _ (field (.ref it) 1 >>=_) _ _ s;refine wpAny_bind (wpAny_field ho hd (x:=.int i 0) rfl ?_)
 show wpAny _ _ (seqItems? (.ref t) >>=_) _ _ s;refine wpAny_bind (wpAny_seqItems hol hdl ?_);simp only[Int.toNat_natCast,hx]
 refine wpAny_bind (wpAny_setField ho hd (by simp) (wpAny_pure ⟨x,rfl,wpAny_pure (hQ _ ⟨_,Heap.get?_update_self _ ho (Obj.isFreed_of_fields (Obj.data_mapFields hd _)),(Obj.cls_mapFields ..).trans hc,by rw[Obj.data_mapFields hd];simp[rawInt]⟩ (Heap.SameBut.update ..))⟩))
theorem Zdc{it t:Addr}{i:Nat}{items:Array Value}{Q:Value→Shared→Prop}(hh:A.handled=none)(hit:s.heap.IsTupleIter it t i)(ht:s.heap.IsTuple t items)(hx:items[i]? =none)
  (hE:∀h' e,Heap.ExtBut it s.heap h'→(∃o,h'.get? e=some o∧o.cls= .type "StopIteration")→E (.ref e) {s with heap:=h'}):wpAny (model prog w) A (Builtin.SmallTypes.nextOf (.ref it)) Q E s:=by
 obtain⟨o,ho,hc,hd⟩:=id hit;obtain⟨ol,hol,_,nl,hdl⟩:=ht;unfold Builtin.SmallTypes.nextOf
 refine wpAny_bind (wpAny_callSpecial?_slot (name:=Str.ofString "__next__") hit.typeIs F.slot_tuple_iterator_next (wpAny_call_entry F.slot_tuple_iterator_next hit.typeIs F.entry_tuple_iterator_next ?_ (F.args_tuple_iterator_next_1 _)))
 show wpAny _ _ (field (.ref it) 0 >>=_) _ _ s;refine wpAny_bind (wpAny_field ho hd (x:=.ref t) rfl ?_)
 show wpAny _ _ (if(Value.ref t==Value.none)=true then _ else _) _ _ s;rw[if_neg (show¬((Value.ref t==Value.none)=true)from Bool.false_ne_true)]
 show wpAny _ _ (field (.ref it) 1 >>=_) _ _ s;refine wpAny_bind (wpAny_field ho hd (x:=.int i 0) rfl ?_)
 show wpAny _ _ (seqItems? (.ref t) >>=_) _ _ s;refine wpAny_bind (wpAny_seqItems hol hdl ?_);simp only[Int.toNat_natCast,hx]
 refine wpAny_bind (wpAny_rule (wpAny_bind (wpAny_setField ho hd (by simp) ?_)));show wpAny _ _ (newExc (.type "StopIteration") [] >>=_) _ _ _
 refine wpAny_bind ?_;simp only[newExc,newTuple];refine wpAny_bind (wpAny_newObj_type ?_ (by size_fits))
 refine wpAny_bind (m:=firstArgMember _ _) (wpAny_of_eq (a:=Value.none) (by first|rfl| (simp only[firstArgMember];rfl)) ?_);refine wpAny_newObj_type ?_ (by size_fits)
 simp only[raiseNew];refine wpAny_bind (wpAny_handled ?_);first|rw[show A.in1.handled=none from hh]|rw[hh]
 refine wpAny_bind (wpAny_pure (wpAny_throw ?_));exact hE _ _ (((Heap.SameBut.update ..).extBut.push _).push _) ⟨_,Heap.get?_push_size _ rfl,rfl⟩
theorem Zke{h h':Heap}{t it:Addr}{items:Array Value}(x:h.IsTuple t items)(hs:Heap.ExtBut it h h')(hne:t≠it):h'.IsTuple t items:=let⟨o,ho,r⟩:=x;⟨o,hs t o hne ho,r⟩
theorem Zo8{prog:Program}{w:World}{A:Around}(hh:A.handled=none)(it l:Addr)(hne:l≠it)(items:Array Value):
  Draws prog w A it [it,l] items.size (fun i v=>items[i]? =some v) (fun i h=>h.IsTupleIter it l i∧h.IsTuple l items)where
 live:=fun _ _ st=>let⟨o,ho,_⟩:=st.1;⟨o,ho⟩
 frame:=fun _ _ _ st hk=>⟨st.1.at fun o e=>hk it (by simp) o e,let⟨o,ho,r⟩:=st.2;⟨o,hk l (by simp) o ho,r⟩⟩
 item:=fun i s Q E hi st hQ=>by
  refine Zfn st.1 st.2 (x:=items[i]) (by simp[hi]) fun h' hit' hs'=>?_
  exact hQ _ h' s.toks (by simp[hi]) ⟨hit',Zke st.2 hs'.extBut hne⟩ hs'
 done:=fun s Q E st hE=>Zdc hh st.1 st.2 (by simp) hE
theorem Ziu(l:Addr)(items:Array Value)(n:Nat)(dct:Option Addr)(sl:Array (Option Value)):
  Meets (Builtin.«enumerate.__new__» ⟨[.type "enumerate",.ref l],[]⟩) (fun _ R s=>s.heap.get? l=some {cls:=.type "tuple",dict:=dct,data:=.seq items n,slots:=sl}∧
   R (.ok (.ret (.ref (s.heap.push {cls:=.type "tuple_iterator",data:=.fields #[.ref l,.int 0 0]}).objs.size))) {s with heap:=(s.heap.push {cls:=.type "tuple_iterator",data:=.fields #[.ref l,.int 0 0]}).push {cls:=.type "enumerate",data:=.fields #[.none,.bool false,.ref s.heap.objs.size,rawInt 0,.none,.none]}}):=
 .of_wp fun prog w A R s h=>by
  obtain⟨hp,g,d,tk,os⟩:=s;obtain⟨hl,h⟩:=h;have hsub:=sub_enumerate
  have hL:Heap.IsTuple (Shared.heap ⟨hp,g,d,tk,os⟩) l items:=⟨_,hl,rfl,n,rfl⟩
  wp_walk using wpAny_loadPart' hl
  refine wpAny_stack_any fun st=>wpAny_pure ?_;split
  ·rename_i c _ _ _ _ _
   cases(c==Value.type "enumerate")
   ·wp_walk using wpAny_loadPart' hl,wpAny_pyIter_tuple hL
    exact⟨_,rfl,h⟩
   ·wp_walk using wpAny_loadPart' hl,wpAny_pyIter_tuple hL
    exact⟨_,rfl,h⟩
  ·wp_walk using wpAny_loadPart' hl,wpAny_pyIter_tuple hL
   exact⟨_,rfl,h⟩
theorem Zg6{l:Addr}{items:Array Value}{Q:Value→Shared→Prop}(hL:s.heap.IsTuple l items)
  (h:∀h',IsEnum h' (s.heap.objs.size+1) s.heap.objs.size 0 .none→h'.IsTupleIter s.heap.objs.size l 0→h'.objs.size=s.heap.objs.size+2→(∀b o,s.heap.get? b=some o→h'.get? b=some o)→Q (.ref (s.heap.objs.size+1)) {s with heap:=h'}):
  wpAny (model prog w) A (call (.type "enumerate") [.ref l]) Q E s:=by
 obtain⟨⟨c,dct,dt,sl⟩,hl,hc,n,hd⟩:=hL;replace hc:c= .type "tuple":=hc;replace hd:dt= .seq items n:=hd;subst hc hd
 refine callType_new F.called_enumerate (by decide) (F.typeCall_enumerate_1 _) (F.newCall_enumerate_1 _) (fun obj=>F.args_object_init_2 obj _) F.entry_enumerate_new (Ziu l items n dct sl) ⟨hl,?_⟩
 have hz:(s.heap.push {cls:=.type "tuple_iterator",data:=.fields #[.ref l,.int 0 0]}).objs.size=s.heap.objs.size+1:=Heap.size_push ..
 show _∧_;rw[hz]
 have he:IsEnum ((s.heap.push {cls:=.type "tuple_iterator",data:=.fields #[.ref l,.int 0 0]}).push {cls:=.type "enumerate",data:=.fields #[.none,.bool false,.ref s.heap.objs.size,rawInt 0,.none,.none]}) (s.heap.objs.size+1) s.heap.objs.size 0 .none:=by
  have:=Heap.get?_push_size (s.heap.push {cls:=.type "tuple_iterator",data:=.fields #[.ref l,.int 0 0]}) (o:={cls:=.type "enumerate",data:=.fields #[.none,.bool false,.ref s.heap.objs.size,rawInt 0,.none,.none]}) rfl
  rw[hz]at this;exact this
 exact⟨⟨_,he,rfl⟩,h _ he ⟨_,Heap.get?_push_of_some _ (Heap.get?_push_size _ rfl),rfl,rfl⟩ (by rw[Heap.size_push,hz]) fun b o x=>Heap.get?_push_of_some _ (Heap.get?_push_of_some _ x)⟩
theorem Ziv{e it l:Addr}{i:Nat}{items:Array Value}{old:Value}{Q:Option Value→Shared→Prop}(hh:A.handled=none)(he:IsEnum s.heap e it i old)(hit:s.heap.IsTupleIter it l i)(hl:s.heap.IsTuple l items)(hx:items[i]? =none)
  (hQ:∀h',Heap.ExtBut it s.heap h'→Q none {s with heap:=h'}):wpAny (model prog w) A (pyNext (.ref e)) Q E s:=by
 have hT:s.TypeIs (.ref e) "enumerate":=⟨_,he,rfl⟩;unfold pyNext
 refine wpAny_bind (wpAny_attempt (wpAny_callSpecial?_slot (name:=Str.ofString "__next__") hT F.slot_enumerate_next (wpAny_call_entry F.slot_enumerate_next hT F.entry_enumerate_next ?_ (F.args_enumerate_next_1 _))))
 show wpAny _ _ (field (.ref e) 2 >>=_) _ _ _;refine wpAny_bind (wpAny_field he rfl (x:=.ref it) rfl ?_)
 refine wpAny_bind (Zdc (by first|exact hh| (rw[show A.in1.handled=A.handled from rfl];exact hh)) hit hl hx fun h' x he' hx'=>?_);obtain⟨o,ho,hc⟩:=hx'
 refine wpAny_bind (wpAny_isInstance (T:="StopIteration") (b:=true) ⟨o,ho,hc⟩ isSubtype_stop ?_);exact wpAny_pure (hQ _ he')
end
section
variable{X:Cx}{tg:Expr}
noncomputable def IteT(K:PySem.W.Frag)(a:Addr):It:=
 ⟨fun i H=>∃xs x,SqT K H a xs∧xs[i]? =some x,fun i H x H'=>∃p v,x= .ref p∧H p=none∧H'=upd H p (.tup [.int (i:Nat),v])∧∀xs,SqT K H a xs→xs[i]? =some v,fun i H=>∃xs,SqT K H a xs∧xs.length≤i⟩
theorem Zmw{P:Program}{w:World}{K:PySem.W.Frag}{elts:List Expr}{kk:Nat}{tpos:Pos}(a e it:Addr)(hei:e≠it):Turn P w K (.Tuple elts kk tpos) (IteT K a) [e,it] e (fun i h=>(∃old,IsEnum h e it ((i:Nat):Int) old)∧h.IsTupleIter it a i)where
 mem:=by simp
 obj:=fun i h st b hb=>by
  have hb':b=e∨b=it:=by simpa using hb
  rcases hb' with z|z
  ·subst z
   obtain⟨old,q⟩:=st.1
   exact⟨_,q,fun v y=>by
    have y':Data.fields _=Data.cell v:=y
    cases y'⟩
  ·subst z
   obtain⟨o,q,c,d⟩:=st.2
   exact⟨o,q,fun v y=>by rw[d]at y;cases y⟩
 keep:=fun i h h' st k=>⟨let⟨old,q⟩:=st.1;⟨old,k e (by simp) _ q⟩,st.2.at fun o q=>k it (by simp) o q⟩
 item:=by
  intro X hP hw hK hc i pins s σ H E I hf st hg
  subst hP hw hK
  obtain⟨xs,x,hq,hx⟩:=hg
  obtain⟨its,rv,p,hz⟩:=I.tuple hq
  obtain⟨u,hu,ru⟩:=rv.get hx
  obtain⟨⟨old,he⟩,hit⟩:=st
  have hl:s.heap.IsTuple a its.toArray:=p
  have ai:a≠it:=fun z=>by
   obtain⟨o1,q1,c1,_⟩:=hit
   obtain⟨o2,q2,c2,_⟩:=hl
   rw[z,q1]at q2;cases q2
   rw[c1]at c2;exact absurd c2 (by decide)
  have ae:e∉[it,a]:=fun z=>by
   have z':e=it∨e=a:=by simpa using z
   rcases z' with z|z
   ·exact hei z
   ·obtain⟨o2,q2,c2,_⟩:=hl
    rw[←z,he]at q2;cases q2;exact absurd (show Value.type "enumerate"=Value.type "tuple"from c2) (by decide)
  have D:=Zo8 (prog:=X.prog) (w:=X.w) (A:=X.A.in1) (by first|exact I.ok.hd hc| (rw[show X.A.in1.handled=X.A.handled from rfl];exact I.ok.hd hc)) it a ai its.toArray
  have hlt:i<its.toArray.size:=by
   have:=(List.getElem?_eq_some_iff.mp hu).1
   rw[List.size_toArray];exact this
  refine wpAny_pyNext_enum_itemD D he ⟨hit,hl⟩ hlt hei ae fun y h' tk hy hout st' hT hsz hk=>⟨.ref s.heap.objs.size,rfl,?_⟩
  refine wpAny_letOwnedTupleGo_enum hout fun h2 he2 hs2=>?_
  have hy':its.toArray[i]? =some y:=hy
  have ey:y=u:=by
   have:its[i]? =some y:=by simpa using hy'
   rw[hu]at this;cases this;rfl
  subst ey
  have kk:∀b o,b≠e→b≠it→s.heap.get? b=some o→h2.get? b=some o:=fun b o h1 h3 q=>(hs2.2 b h1).trans (hk b o h1 h3 q)
  have neT:s.heap.objs.size≠e:=Nat.ne_of_gt (Heap.lt_size he)
  have I2:=I.turnedT (h':=h2) (t':=tk+1) (e:=e) (it:=it) (T:=s.heap.objs.size) (xs:=[.int (i:Nat),x]) (its:=[.int i tk,y]) kk (hf e (by simp)) (hf it (by simp)) rfl ⟨_,(hs2.2 _ neT).trans hT,rfl,_,rfl⟩ (.cons ⟨tk,rfl⟩ (.cons ru .nil)) (by show 2≤sizeLine;decide)
   ⟨_,he2⟩ (let⟨o,q,_⟩:=st'.1;⟨o,(hs2.2 it (Ne.symm hei)).trans q⟩)
  refine⟨.ref s.heap.objs.size,_,I2,rfl,⟨s.heap.objs.size,x,rfl,I.hok.fresh (Nat.le_refl _),rfl,fun ys hy2=>by rw[I.tuple_inj hy2 hq];exact hx⟩,⟨⟨_,he2⟩,st'.1.at fun o q=>(hs2.2 it (Ne.symm hei)).trans q⟩,fun b hb=>?_⟩
  rw[Zr fun z=>?_]
  ·exact(hf b hb).1
  ·have hb':b=e∨b=it:=by simpa using hb
   rcases hb' with y|y
   ·rw[←z,y]at neT;exact neT rfl
   ·obtain⟨o,q,_⟩:=hit
    rw[y]at z
    exact absurd (Heap.lt_size q) (by rw[z];exact Nat.lt_irrefl _)
 done:=by
  intro X hP hw hK hc i pins s σ H E I hf st hg
  subst hP hw hK
  obtain⟨xs,hq,hx⟩:=hg
  obtain⟨its,rv,p,hz⟩:=I.tuple hq
  obtain⟨⟨old,he⟩,hit⟩:=st
  obtain⟨f0,f1,f2,f3,f4,f5⟩:=hf it (by simp)
  have hl:=rv.length
  exact Ziv (I.ok.hd hc) he hit (show s.heap.IsTuple a its.toArray from p) (by simp;omega) fun h' eb=>⟨rfl,I.turned (t':=s.toks) (fun b o hb q=>eb b o hb q) f0 f1 f3 f4 f5⟩
 self:=fun _ _ _ _ _ st h=>let⟨⟨old,he⟩,_⟩:=st;wpAny_pyIter_enum he h
noncomputable def Ztr(K:PySem.W.Frag)(ta:TA):TI:=fun σ H R=>ta σ H fun vs H1=>∃a xs,vs=[.ref a]∧SqT K H1 a xs∧R (IteT K a) H1
theorem Zr6{l:Expr}{elts:List Expr}{kk:Nat}{tpos p pos:Pos}{ta:TA}(hg:Gl X "enumerate")(hm:X.mg "enumerate"=none)(ha:PA X [l] ta)(hs:starEach [l] X.env=[(false,eval l X.env)]:=by rfl):
  PI X (.Tuple elts kk tpos) (.Call (.Name "enumerate" p) [l] [] pos) (Ztr X.K ta):=by
 intro pins s σ H R I h
 refine Call_ (Ze8 I hg hm boot_enumerate (PyProof.Rows.callWith_type1 (thn (ha pos pins s σ H _ I h) fun us s1 ⟨vs,H1,I1,r1,q1⟩=>?_) hs rfl))
 obtain⟨a,xs,e,hq,q⟩:=q1
 subst e
 obtain⟨u,rfl,ru⟩:=Zds r1
 cases ru
 obtain⟨its,rv,p,hz⟩:=I1.tuple hq
 refine Zg6 (show s1.heap.IsTuple a its.toArray from p) fun h' he hit hsz hk=>wpAny_pyIter_enum he ?_
 have I2:Inv X pins σ H1 {s1 with heap:=h'}:=I1.kept (t':=s1.toks) hk
 refine⟨s1.heap.objs.size+1,[s1.heap.objs.size+1,s1.heap.objs.size],_,_,H1,rfl,I2,Zmw a _ _ (Nat.succ_ne_self _),⟨⟨.none,by simpa using he⟩,hit⟩,fun b hb=>?_,q⟩
 have hb':b=s1.heap.objs.size+1∨b=s1.heap.objs.size:=by simpa using hb
 rcases hb' with z|z
 ·subst z;exact I1.fpOk (Nat.le_succ _) (I1.hok.fresh (Nat.le_succ _))
 ·subst z;exact I1.fpOk (Nat.le_refl _) (I1.hok.fresh (Nat.le_refl _))
end
end L2
namespace DL
open PySem PySem.Spec PyProof.Rows L2
variable{K:PySem.W.Frag}
theorem Ziw{F:Hp}{a:Addr}{xs:List D}{vs:List V}(h:SqT K F a vs)(r:Reps K F xs vs):Zen K (IteT K a) F (Zfi xs):=fun F' H sF sH i=>by
 have q:SqT K H a vs:=Za9 (sF.trans sH) h
 refine⟨fun d hd=>?_,fun hl=>⟨vs,q,by rw[←r.length,←Ziq];exact hl⟩⟩
 obtain⟨x,hx,rfl⟩:=Zip hd
 obtain⟨v,h1,h2⟩:=r.get hx
 refine⟨⟨vs,v,q,h1⟩,fun y H' zq9=>?_⟩
 obtain⟨p,w,e1,e2,e3,e4⟩:=zq9
 subst e1 e3
 have e5:=e4 vs q
 rw[h1]at e5;cases e5
 have hp:F' p=none:=sH.free e2
 have sm:Same F' (addL F' [(p,.tup [.int (i:Nat),v])]):=Zav fun z hz=>by obtain rfl:=List.mem_singleton.mp hz;exact hp
 refine⟨Zbr e2,[(p,.tup [.int (i:Nat),v])],nd1,fun z hz=>?_,.tup Zy (.cons (.int _) (.cons (h2.mono (sF.trans sm)) .nil))⟩
 obtain rfl:=List.mem_singleton.mp hz
 exact⟨e2,Zy⟩
section
variable{Z:Ent K}{H:Hp}{σ:L2.St}{Q:VK}
@[simp] noncomputable def Zts(fd:FD):FD:=fun δ=>(fd δ).bind fun p=>match p.1 with
 | [.tup xs]=>some (Zfi xs,p.2)
 |_=>none
theorem Zr7{fd:FD}{R:It→Hp→Prop}(h:Zc9 Z (Zts fd) σ H R):Ztr K (Zbx Z fd) σ H R:=by
 obtain⟨F,δ,own,ds,δ',s,e,k⟩:=h
 obtain⟨⟨ds1,δ1⟩,e1,e2⟩:=Option.bind_eq_some_iff.mp e
 refine⟨F,δ,own,ds1,δ1,s,e1,fun vs H1 F1 own1 sH sF s1 r1=>?_⟩
 dsimp only at e2
 split at e2
 ·rename_i xs
  cases e2
  cases r1 with
  |cons h t=>
   cases t
   cases h with
   |tup h r=>exact⟨_,_,rfl,Za9 s1.le (Zgc h),k _ H1 F1 own1 sH sF s1 (Ziw (Zgc h) r)⟩
 ·cases e2
end
section
variable{X:Cx}{Z:Ent X.K}{a:Expr}{fa:FE}{pos:Pos}
@[simp] noncomputable def Zll(fd:FD):FD:=fun δ=>(fd δ).bind fun p=>match p.1 with
 | [.lst xs]=>some (Zfi xs,p.2)
 | [.tup xs]=>some (Zfi xs,p.2)
 |_=>none
theorem Zr8{H:Hp}{σ:L2.St}{fd:FD}{R:It→Hp→Prop}(h:Zc9 Z (Zll fd) σ H R):Zc9 Z (Zzc fd) σ H R∨Zc9 Z (Zts fd) σ H R:=by
 obtain⟨F,δ,own,ds,δ',s,e,k⟩:=h
 obtain⟨⟨ds1,δ1⟩,e1,e2⟩:=Option.bind_eq_some_iff.mp e
 dsimp only at e2
 split at e2
 ·rename_i xs
  exact .inl ⟨F,δ,own,ds,δ',s,Option.bind_eq_some_iff.mpr ⟨_,e1,e2⟩,k⟩
 ·rename_i xs
  exact .inr ⟨F,δ,own,ds,δ',s,Option.bind_eq_some_iff.mpr ⟨_,e1,e2⟩,k⟩
 ·cases e2
theorem Zo9{elts:List Expr}{kk:Nat}{tpos p:Pos}{fd:FD}(hm:X.mg "enumerate"=none)(ha:PA X [a] (Zbx Z fd))(hg:Gl X "enumerate":=by rfl)(hs:starEach [a] X.env=[(false,eval a X.env)]:=by rfl):
  PI X (.Tuple elts kk tpos) (.Call (.Name "enumerate" p) [a] [] pos) (Zc9 Z (Zll fd)):=fun pins s σ H R I h=>by
 rcases Zr8 h with h|h
 ·exact Zvn hg hm ha hs pins s σ H R I (Zvp h)
 ·exact Zr6 hg hm ha hs pins s σ H R I (Zr7 h)
end
end DL
namespace L2
open PySem PySem.Spec PyProof.Rows
variable{X:Cx}
noncomputable def Ztt(K:PySem.W.Frag):V→List V→Hp→VK→Prop:=fun x xs H Q=>∃sep p ys,x= .str sep∧xs=[.ref p]∧(SqL K H p (ys.map V.str)∨SqT K H p (ys.map V.str))∧JoinOk sep ys=true∧Q (.str (Txt.join sep ys)) H
theorem Zr9:MtR X "str.join" (Ztt X.K):=by
 intro pins s σ H x xs v us Q I rx rs h
 obtain⟨sep,p,ys,rfl,rfl,hq,hok,q⟩:=h
 rcases hq with hq|hq
 ·exact Zvo pins s σ H _ _ v us Q I rx rs ⟨sep,p,ys,rfl,rfl,hq,hok,q⟩
 ·obtain⟨t,rfl⟩:=rx
  obtain⟨u,rfl,ru⟩:=Zds rs
  cases ru
  obtain⟨its,rv,pl,hz⟩:=I.tuple hq
  obtain⟨l,e1,e2⟩:=Zj4 rv
  subst e1 e2
  have hok':=hok
  unfold JoinOk at hok'
  rw[Bool.not_eq_true']at hok'
  obtain⟨o,ho,hc,n,hd⟩:=(show s.heap.IsTuple p (strValues l).toArray from pl)
  exact call_meets F.slot_str_join (typeIs_str _ _ _) F.entry_str_join (F.args_str_join_2 _ _) (meets_str_join_tuple sep t p l hok') ⟨⟨o,n,ho,hc,hd⟩,post_join l ⟨joinFit_length hok',fun t' k=>⟨.str (Txt.join sep (l.map (·.1))),H,I.tok _,⟨_,rfl⟩,q⟩⟩⟩
end L2
namespace DL
open PySem PySem.Spec PyProof.Rows L2
variable{K:PySem.W.Frag}
@[simp] noncomputable def Zeo:List D→Option SV
 | [.str sep,.lst xs]=>(strs? xs).bind fun ys=>if JoinOk sep ys=true then some (.fz (.str (Txt.join sep ys)))else none
 | [.str sep,.tup xs]=>(strs? xs).bind fun ys=>if JoinOk sep ys=true then some (.fz (.str (Txt.join sep ys)))else none
 |_=>none
theorem Zv1{Z:Ent K}:Zou Z (Ztt K) Zeo:=by
 intro F H σ δ own vs ds sv Q s r e k
 unfold Zeo at e
 split at e
 ·obtain⟨ys,e1,e2⟩:=Option.bind_eq_some_iff.mp e
  split at e2
  ·rename_i hok
   cases e2
   cases r with
   |cons h1 t1=>
    cases t1 with
    |cons h2 t2=>
     cases t2
     obtain⟨a,us,ex,ha,ra⟩:=h2.lst s.le
     rw[Zj6 e1 ra]at ha
     exact⟨_,_,rfl,_,a,ys,h1.str,by rw[ex],.inl ha,hok,k.fz s (.str _)⟩
  ·cases e2
 ·obtain⟨ys,e1,e2⟩:=Option.bind_eq_some_iff.mp e
  split at e2
  ·rename_i hok
   cases e2
   cases r with
   |cons h1 t1=>
    cases t1 with
    |cons h2 t2=>
     cases t2
     obtain⟨a,us,ex,ha,ra⟩:=h2.tup s.le
     rw[Zj6 e1 ra]at ha
     exact⟨_,_,rfl,_,a,ys,h1.str,by rw[ex],.inr ha,hok,k.fz s (.str _)⟩
  ·cases e2
 ·cases e
section
variable{X:Cx}{Z:Ent X.K}{a b:Expr}{fa fb:FE}
theorem Zfo{apos cpos:Pos}(ha:PE X a (Ze Z fa))(hb:PE X b (Ze Z fb))(hbase:attributeBase a "join" X.env (eval a X.env)=eval a X.env:=by rfl)
  (hfew:((backTo cpos (starEach [b] X.env)).all (fun x=>!x.1)&&(backToKw cpos (keywordEach [] X.env)).all (fun x=>x.1.isSome)&&decide ([b].length+([]:List Keyword).length+(if([]:List Keyword).isEmpty then 0 else 1)<30))=true:=by rfl)
  (hline:(apos.endLine==cpos.line)=true:=by rfl) (hs:starEach [b] X.env=(false,eval b X.env)::starEach [] X.env:=by rfl) (hpl:(backTo cpos (starEach [] X.env)).any (·.1)=false:=by rfl):
  PE X (.Call (.Attribute a "join" apos) [b] [] cpos) (Ze Z (bmF "str" Zeo fa (Zd fb Zj))):=
 (Zju PySem.F.plainAttrs_str PySem.F.slot_str_join PySem.F.type_str_join Zr9 ha (Zh hb Zag hs) hbase hfew hline hs hpl).imp fun _ _ _ h=>l_bm Zv1 h
end
end DL
namespace L2
open PySem PySem.Spec PyProof.Rows
variable{X:Cx}
noncomputable def Z22:R2:=fun x y H Q=>∃a v,x= .ref a∧DGet H a y (some v)∧Q v H
noncomputable def rDIn:R2:=fun y x H Q=>∃a o,x= .ref a∧DGet H a y o∧Q (.bl o.isSome) H
noncomputable def Zfp:R2:=fun y x H Q=>∃a o,x= .ref a∧DGet H a y o∧Q (.bl (!o.isSome)) H
theorem Zgl(hu:X.A.units+1<cLine):OpR X (compareOp .In) rDIn:=by
 intro pins s σ H y x v u Q I ry rx h
 obtain⟨a,o,rfl,g,q⟩:=h
 cases rx
 exact d_in hu I g ry fun s' I'=>⟨.bl o.isSome,H,I',rfl,q⟩
theorem Zg7(hu:X.A.units+1<cLine):OpR X (compareOp .NotIn) Zfp:=by
 intro pins s σ H y x v u Q I ry rx h
 obtain⟨a,o,rfl,g,q⟩:=h
 cases rx
 exact Zu0 hu I g ry fun s' I'=>⟨.bl (!o.isSome),H,I',rfl,q⟩
end L2
namespace DL
open PySem PySem.Spec PyProof.Rows L2
variable{K:PySem.W.Frag}
@[simp] noncomputable def D.key?:D→Option Key
 | .int i=>some (.inl i)
 | .str x=>some (.inr x)
 |_=>none
@[simp] noncomputable def keys?:List D→Option (List Key)
 | []=>some []
 |d::r=>d.key?.bind fun k=>(keys? r).bind fun t=>some (k::t)
section
variable{κ:Type}[DecidableEq κ]
@[simp] noncomputable def look(ks:List κ)(vs:List D)(k:κ):Option D:=match ks,vs with
 |a::ks,v::vs=>if a=k then some v else look ks vs k
 |_,_=>none
theorem Zkf{F:Hp}(k:κ):∀(kvs:List (κ×V)) (ds:List D),Reps K F ds (kvs.map (·.2))→match look (kvs.map (·.1)) ds k with
  |some d=>∃v,valV kvs k=some v∧Rep K F d v
  |none=>valV kvs k=none
 | [],_,r=>by cases r;exact Zra
 |p::kvs,_,r=>by
  cases r with
  | @cons d v ds vs h t=>
   show match(if p.1=k then some d else look (kvs.map (·.1)) ds k)with
    |some d=>∃v,valV (p::kvs) k=some v∧Rep K F d v
    |none=>valV (p::kvs) k=none
   by_cases e:p.1=k
   ·rw[if_pos e]
    exact⟨p.2,Zew e,h⟩
   ·rw[if_neg e,Zex e]
    exact Zkf k kvs ds t
@[simp] noncomputable def putA(ks:List κ)(vs:List D)(k:κ)(v:D):List κ×List D:=
 if k∈ks then(ks,(ks.zip vs).map fun p=>if p.1=k then v else p.2)else(ks++[k],vs++[v])
theorem Reps.length_map{F:Hp}{α:Type}{ds:List D}{kvs:List (α×V)}(r:Reps K F ds (kvs.map (·.2))):ds.length=kvs.length:=by rw[r.length,List.length_map]
theorem Zpa{F:Hp}{k:κ}{d:D}{v:V}(hd:Rep K F d v):∀(kvs:List (κ×V)) (ds:List D),Reps K F ds (kvs.map (·.2))→
  Reps K F (((kvs.map (·.1)).zip ds).map fun p=>if p.1=k then d else p.2) ((kvs.map fun kv=>if kv.1=k then(kv.1,v)else kv).map (·.2))
 | [],_,r=>by cases r;exact .nil
 |p::kvs,_,r=>by
  cases r with
  | @cons d' v' ds vs h t=>
   have ih:=Zpa (k:=k) hd kvs ds t
   show Reps K F ((if p.1=k then d else d')::(((kvs.map (·.1)).zip ds).map fun p=>if p.1=k then d else p.2)) ((if p.1=k then(p.1,v)else p).2::((kvs.map fun kv=>if kv.1=k then(kv.1,v)else kv).map (·.2)))
   refine .cons ?_ ih
   by_cases e:p.1=k
   ·rw[if_pos e,if_pos e];exact hd
   ·rw[if_neg e,if_neg e];exact h
theorem Zsa{k:κ}{v:V}(kvs:List (κ×V)):(kvs.map fun kv=>if kv.1=k then(kv.1,v)else kv).map (·.1)=kvs.map (·.1):=by
 rw[List.map_map]
 refine List.map_congr_left fun p _=>?_
 show(if p.1=k then(p.1,v)else p).1=p.1
 split<;> rfl
theorem Zpb(k:κ)(kvs:List (κ×V)):(kvs.any fun kv=>decide (kv.1=k))=true↔k∈kvs.map (·.1):=by
 rw[List.any_eq_true,List.mem_map]
 constructor
 ·rintro⟨p,h1,h2⟩;exact⟨p,h1,of_decide_eq_true h2⟩
 ·rintro⟨p,h1,h2⟩;exact⟨p,h1,decide_eq_true h2⟩
theorem Ztu{F:Hp}{k:κ}{d:D}{v:V}(hd:Rep K F d v)(kvs:List (κ×V))(ds:List D)(r:Reps K F ds (kvs.map (·.2))):
  (putK kvs k v).map (·.1)=(putA (kvs.map (·.1)) ds k d).1∧Reps K F (putA (kvs.map (·.1)) ds k d).2 ((putK kvs k v).map (·.2)):=by
 unfold putK putA
 by_cases h:k∈kvs.map (·.1)
 ·rw[if_pos h,if_pos ((Zpb k kvs).mpr h)]
  exact⟨Zsa kvs,Zpa hd kvs ds r⟩
 ·rw[if_neg h,if_neg fun z=>h ((Zpb k kvs).mp z),List.map_append,List.map_append]
  exact⟨rfl,r.snoc hd⟩
end
theorem Zpc{F H:Hp}{d:D}{k:Key}{y:V}(e:d.key? =some k)(r:RepN K F H d y):y=kV k:=by
 cases d with
 |int i=>cases e;exact r.int
 |str x=>cases e;exact r.str
 |_=>cases e
theorem Zv2{F:Hp}{d:D}{k:Key}{y:V}(e:d.key? =some k)(r:Rep K F d y):y=kV k:=Zpc (H:=F) e (RepN.of r)
theorem Zkg{F:Hp}:∀{ds:List D} {ks:List Key} {vs:List V},keys? ds=some ks→Reps K F ds vs→vs=ks.map kV
 | [],_,_,e,r=>by cases e;cases r;rfl
 |d::ds,_,_,e,r=>by
  cases r with
  |cons h t=>
   obtain⟨k,e1,e2⟩:=Option.bind_eq_some_iff.mp e
   obtain⟨t',e3,e4⟩:=Option.bind_eq_some_iff.mp e2
   cases e4
   rw[Zv2 e1 h,Zkg e3 t];rfl
theorem RepN.tupH{F H:Hp}{xs:List D}{v:V}(le:Same F H)(h:RepN K F H (.tup xs) v):∃a vs,v= .ref a∧H a=some (.tup vs)∧Reps K F xs vs:=by
 obtain⟨sv,ns,e,n,sh,hp⟩:=h
 cases sh with
 |fz r=>cases e;cases r with|tup h r=>exact⟨_,_,rfl,le _ _ h,r⟩
 |ol r=>cases e
 |oK e' r=>cases e
 |oT kb e' r=>cases e
 |oN e' r=>cases n
 |oL _ r=>cases n
@[simp] noncomputable def getO:D→D→Option (Option D)
 | .dK ks vs,d=>d.key?.bind fun k=>some (look ks vs k)
 | .dT ks vs,.tup xs=>(keys? xs).bind fun k=>some (look ks vs k)
 |_,_=>none
theorem Zix{F H:Hp}{d1 d2:D}{x y:V}{o:Option D}(le:Same F H)(e:getO d1 d2=some o)(r1:RepN K F H d1 x)(r2:RepN K F H d2 y):
  ∃a,x= .ref a∧IsD H a∧match o with
   |some d=>∃v,DGet H a y (some v)∧Rep K F d v
   |none=>DGet H a y none:=by
 unfold getO at e
 split at e
 ·obtain⟨k,e1,e2⟩:=Option.bind_eq_some_iff.mp e
  obtain⟨a,kvs,rfl,ha,rfl,rr⟩:=r1.dK le
  refine⟨a,rfl,.inl ⟨kvs,ha.rd⟩,?_⟩
  rw[Zpc e1 r2]
  have z:=Zkf k kvs _ rr
  have g:=DGet.k (k:=k) ha
  rw[Option.some.inj e2]at z
  cases o with
  |none=>rw[show valV kvs k=none from z]at g;exact g
  |some d=>obtain⟨v,z1,z2⟩:=z;rw[z1]at g;exact⟨v,g,z2⟩
 ·obtain⟨k,e1,e2⟩:=Option.bind_eq_some_iff.mp e
  obtain⟨a,kvs,rfl,ha,rfl,rr⟩:=r1.dT le
  obtain⟨b,vs,rfl,hb,rb⟩:=r2.tupH le
  refine⟨a,rfl,.inr ⟨kvs,ha.rd⟩,?_⟩
  rw[Zkg e1 rb]at hb
  have z:=Zkf k kvs _ rr
  have g:=DGet.t ha hb
  rw[Option.some.inj e2]at z
  cases o with
  |none=>rw[show valV kvs k=none from z]at g;exact g
  |some d=>obtain⟨v,z1,z2⟩:=z;rw[z1]at g;exact⟨v,g,z2⟩
 ·cases e
section
variable{Z:Ent K}
@[simp] noncomputable def Zv3(d1 d2:D):Option SV:=(getO d1 d2).bind fun o=>o.bind fun d=>some (.fz d)
theorem Zzl:Zaq Z Z22 Zv3:=by
 intro F H σ δ own x y d1 d2 sv Q s r1 r2 e k
 obtain⟨o,e1,e2⟩:=Option.bind_eq_some_iff.mp e
 obtain⟨d,e3,e4⟩:=Option.bind_eq_some_iff.mp e2
 cases e4
 subst e3
 obtain⟨a,rfl,_,v,g,rv⟩:=Zix s.le e1 r1 r2
 exact⟨a,v,rfl,g,k.fz s rv⟩
@[simp] noncomputable def inDd(d1 d2:D):Option SV:=(getO d2 d1).bind fun o=>some (.fz (.bl o.isSome))
@[simp] noncomputable def Zpd(d1 d2:D):Option SV:=(getO d2 d1).bind fun o=>some (.fz (.bl (!o.isSome)))
theorem Zzm:Zaq Z rDIn inDd:=by
 intro F H σ δ own x y d1 d2 sv Q s r1 r2 e k
 obtain⟨o,e1,e2⟩:=Option.bind_eq_some_iff.mp e
 cases e2
 obtain⟨a,rfl,_,g⟩:=Zix s.le e1 r2 r1
 cases o with
 |none=>exact⟨a,none,rfl,g,k.fz s (.bl _)⟩
 |some d=>obtain⟨v,g,_⟩:=g;exact⟨a,some v,rfl,g,k.fz s (.bl _)⟩
theorem Zpe:Zaq Z Zfp Zpd:=by
 intro F H σ δ own x y d1 d2 sv Q s r1 r2 e k
 obtain⟨o,e1,e2⟩:=Option.bind_eq_some_iff.mp e
 cases e2
 obtain⟨a,rfl,_,g⟩:=Zix s.le e1 r2 r1
 cases o with
 |none=>exact⟨a,none,rfl,g,k.fz s (.bl _)⟩
 |some d=>obtain⟨v,g,_⟩:=g;exact⟨a,some v,rfl,g,k.fz s (.bl _)⟩
@[simp] noncomputable def D.isD:D→Bool
 | .dK _ _=>true| .dT _ _=>true|_=>false
@[simp] noncomputable def ixX(d1 d2:D):Option SV:=if d1.isD=true then Zv3 d1 d2 else ixD d1 d2
@[simp] noncomputable def inX(d1 d2:D):Option SV:=if d2.isD=true then inDd d1 d2 else inD d1 d2
@[simp] noncomputable def Zpf(d1 d2:D):Option SV:=if d2.isD=true then Zpd d1 d2 else Zlj d1 d2
theorem Zpg{H:Hp}{σ:L2.St}{Q:VK}{fa fb:FE}{g g1 g2':D→D→Option SV}(hg:∀d1 d2 sv,g d1 d2=some sv→g1 d1 d2=some sv∨g2' d1 d2=some sv)(h:Ze Z (binF g fa fb) σ H Q):Ze Z (binF g1 fa fb) σ H Q∨Ze Z (binF g2' fa fb) σ H Q:=by
 obtain⟨F,δ,own,rv,δ',s,e,k⟩:=h
 obtain⟨⟨rvs,δ1⟩,e1,e2⟩:=Option.bind_eq_some_iff.mp e
 obtain⟨ds,e3,e4⟩:=Option.bind_eq_some_iff.mp e2
 obtain⟨sv,e5,e6⟩:=Option.bind_eq_some_iff.mp e4
 have:(g2 g1) ds=some sv∨(g2 g2') ds=some sv:=by
  unfold g2 at e5⊢
  split at e5
  ·exact hg _ _ _ e5
  ·cases e5
 rcases this with z|z
 ·exact .inl ⟨F,δ,own,rv,δ',s,Option.bind_eq_some_iff.mpr ⟨_,e1,Option.bind_eq_some_iff.mpr ⟨_,e3,Option.bind_eq_some_iff.mpr ⟨_,z,e6⟩⟩⟩,k⟩
 ·exact .inr ⟨F,δ,own,rv,δ',s,Option.bind_eq_some_iff.mpr ⟨_,e1,Option.bind_eq_some_iff.mpr ⟨_,e3,Option.bind_eq_some_iff.mpr ⟨_,z,e6⟩⟩⟩,k⟩
theorem Z23:Zaq Z (fun x y H Q=>(∃i j,x= .str i∧y= .str j∧Q (.bl (!(Builtin.Str.occurrences j i 0 j.length 1).isEmpty)) H)∨rDIn x y H Q) inX:=by
 intro F H σ δ own x y d1 d2 sv Q s r1 r2 e k
 unfold inX at e
 split at e
 ·exact .inr (Zzm F H σ δ own x y d1 d2 sv Q s r1 r2 e k)
 ·exact .inl (p_in F H σ δ own x y d1 d2 sv Q s r1 r2 e k)
theorem Zsb:Zaq Z (fun x y H Q=>(∃i j,x= .str i∧y= .str j∧Q (.bl (!(!(Builtin.Str.occurrences j i 0 j.length 1).isEmpty))) H)∨Zfp x y H Q) Zpf:=by
 intro F H σ δ own x y d1 d2 sv Q s r1 r2 e k
 unfold Zpf at e
 split at e
 ·exact .inr (Zpe F H σ δ own x y d1 d2 sv Q s r1 r2 e k)
 ·exact .inl (Zvz F H σ δ own x y d1 d2 sv Q s r1 r2 e k)
end
section
variable{X:Cx}{Z:Ent X.K}{a b c:Expr}{fa fb fc:FE}{pos:Pos}
theorem Zau(hu:X.A.units+1<cLine)(ha:PE X a (Ze Z fa))(hb:PE X b (Ze Z fb))(hs:Zn3 b:=by intro _ _;rfl):PE X (.Subscript a b pos) (Ze Z (binF ixX fa fb)):=fun pins s σ H Q I h=>by
 rcases Zpg (g1:=Zv3) (g2':=ixD) (fun d1 d2 sv e=>by
  unfold ixX at e
  split at e
  ·exact .inl e
  ·exact .inr e) h with h|h
 ·exact Zu2 hu ha hb hs pins s σ H Q I (Zoo Zzl h)
 ·exact Z17 Zyh ha hb hs pins s σ H Q I (Zoo p_ix h)
end
end DL
namespace L2
open PySem PySem.Spec PyProof.Rows
variable{X:Cx}
noncomputable def Ztv:V→List V→Hp→VK→Prop:=fun x xs H Q=>∃a,x= .ref a∧((∃y o,xs=[y]∧DGet H a y o∧Q (o.getD .non) H)∨(∃y z o,xs=[y,z]∧DGet H a y o∧Q (o.getD z) H))
theorem Zv4(hu:X.A.units+1<cLine):MtR X "dict.get" Ztv:=by
 intro pins s σ H x xs v us Q I rx rs h
 obtain⟨a,rfl,h⟩:=h
 cases rx
 rcases h with⟨y,o,rfl,g,q⟩|⟨y,z,o,rfl,g,q⟩
 ·obtain⟨u,rfl,ru⟩:=Zds rs
  exact Zyn hu I g ru fun w' s' I' r'=>⟨_,H,I',r',q⟩
 ·obtain⟨u,w',rfl,r1,r2⟩:=Zur rs
  exact Zyo hu I g r1 r2 fun w' s' I' r'=>⟨_,H,I',r',q⟩
end L2
namespace DL
open PySem PySem.Spec PyProof.Rows L2
variable{K:PySem.W.Frag}
section
variable{Z:Ent K}{H:Hp}{σ:L2.St}{Q:VK}{E:Ends}
@[simp] noncomputable def Zsc:FE:=fun δ=>some (.tmp (.oK [] []),δ)
@[simp] noncomputable def Z59:FE:=fun δ=>some (.tmp (.oT [] []),δ)
theorem Zv5(h:Ze Z Zsc σ H Q):Ztk σ H Q:=by
 obtain⟨F,δ,own,rv,δ',s,e,k⟩:=h
 cases e
 intro p hp
 have f:Fin Z F H σ δ own (.oK [] []) Q:=fun v H' F' ns a b c t=>k v H' F' own a b c ⟨ns,t⟩
 exact f.one s (.oK (kvs:=[]) rfl .nil) hp
@[simp] noncomputable def SV.isOD:Option (Option SV)→Bool
 |some (some (.oK _ _))=>true
 |some (some (.oT _ _))=>true
 |_=>false
@[simp] noncomputable def putS(kd d:D):Option (Option SV)→Option SV
 |some (some (.oK ks vs))=>kd.key?.bind fun k=>if vs.length<PySem.sizeLine then some (.oK (putA ks vs k d).1 (putA ks vs k d).2)else none
 |some (some (.oT ks vs))=>match kd with
  | .tup xs=>(keys? xs).bind fun k=>if vs.length<PySem.sizeLine then some (.oT (putA ks vs k d).1 (putA ks vs k d).2)else none
  |_=>none
 |_=>none
@[simp] noncomputable def putF(i:Nat)(fk fv:FE):FS:=fun δ=>(fv δ).bind fun p=>(frz p.1 p.2).bind fun q=>if SV.isOD (q.2[i]?)=true then(fk q.2).bind fun r=>(rdv r.1 r.2).bind fun kd=>(putS kd q.1 (r.2[i]?)).bind fun sv=>some (.nx (r.2.set i (some sv)))else none
theorem Zsd{F:Hp}{ks:List Key}{ds:List D}{v:V}{ns:Zw}(h:Shape K F (.oK ks ds) v ns):∃a kvs ep,v= .ref a∧ns=[(a,.dK kvs ep)]∧kvs.map (·.1)=ks∧Reps K F ds (kvs.map (·.2)):=by
 cases h with
 |oK e r=>exact⟨_,_,_,rfl,rfl,e,r⟩
theorem Zse{F:Hp}{ks:List (List Key)}{ds:List D}{v:V}{ns:Zw}(h:Shape K F (.oT ks ds) v ns):∃a kvs ep bs,v= .ref a∧ns=[(a,.dT kvs ep bs)]∧KB F kvs bs∧kvs.map (·.1)=ks∧Reps K F ds (kvs.map (·.2)):=by
 cases h with
 |oT kb e r=>exact⟨_,_,_,_,rfl,rfl,kb,e,r⟩
theorem KB.put{F:Hp}{kvs:List (List Key×V)}{bs:List Addr}{k:List Key}{b:Addr}{v:V}(h:KB F kvs bs)(hb:F b=some (.tup (k.map kV))):KB F (putK kvs k v) (putB kvs bs k b):=by
 unfold putK putB
 split
 ·unfold KB at*
  clear hb
  rename_i hq
  clear hq
  induction h with
  |nil=>exact .nil
  | @cons p c ps cs h1 t ih=>
   rw[List.map_cons]
   refine .cons ?_ ih
   by_cases e:p.1=k
   ·rw[if_pos e];exact h1
   ·rw[if_neg e];exact h1
 ·exact Paired.snoc h hb
theorem RepN.tupF{F H:Hp}{xs:List D}{v:V}(h:RepN K F H (.tup xs) v):∃a vs,v= .ref a∧F a=some (.tup vs)∧Reps K F xs vs:=by
 obtain⟨sv,ns,e,n,sh,hp⟩:=h
 cases sh with
 |fz r=>cases e;cases r with|tup h r=>exact⟨_,_,rfl,h,r⟩
 |ol r=>cases e
 |oK e' r=>cases e
 |oT kb e' r=>cases e
 |oN e' r=>cases n
 |oL _ r=>cases n
theorem Zv6{o:Option (Option SV)}(h:SV.isOD o=true):∃sv,o=some (some sv):=by
 unfold SV.isOD at h
 split at h
 ·exact⟨_,rfl⟩
 ·exact⟨_,rfl⟩
 ·cases h
theorem Z24{i:Nat}{fk fv:FE}(h:Z9 Z (putF i fk fv) E σ H):Zym (tVar i) (Ze Z fk) (Ze Z fv) E σ H:=by
 obtain⟨F,δ,own,fl,s,e,k⟩:=h
 obtain⟨⟨rv,δ1⟩,e1,e⟩:=Option.bind_eq_some_iff.mp e
 obtain⟨⟨d,δ2⟩,e2,e⟩:=Option.bind_eq_some_iff.mp e
 dsimp only at e
 split at e
 ·rename_i hod
  obtain⟨⟨rk,δ3⟩,e3,e⟩:=Option.bind_eq_some_iff.mp e
  obtain⟨kd,e4,e⟩:=Option.bind_eq_some_iff.mp e
  obtain⟨sv,e5,e⟩:=Option.bind_eq_some_iff.mp e
  cases e
  refine⟨F,δ,own,rv,δ1,s,e1,fun v H1 F1 own1 sH1 sF1 s1 r1=>?_⟩
  obtain⟨F2,sF2,s2,r2⟩:=s1.settleR r1
  obtain⟨F3,own3,sF3,s3,r3⟩:=s2.frzR r2 e2
  obtain⟨sv0,hsv0⟩:=Zv6 hod
  obtain⟨x,hx,_⟩:=s3.at' i sv0 hsv0
  refine⟨x,hx,F3,δ2,own3,rk,δ3,s3,e3,fun y H4 F4 own4 sH4 sF4 s4 r4=>?_⟩
  obtain⟨F5,sF5,s5,r5⟩:=s4.settleR r4
  have rk':=s5.rd r5 e4
  have rd:Rep K F5 d v:=r3.mono (sF4.trans sF5)
  have sF:Same F F5:=sF1.trans (sF2.trans (sF3.trans (sF4.trans sF5)))
  dsimp only at e5
  generalize ho:δ3[i]? =o at e5
  unfold putS at e5
  split at e5
  ·rename_i ks vs
   obtain⟨kk,f1,f2⟩:=Option.bind_eq_some_iff.mp e5
   split at f2
   ·rename_i hz
    cases f2
    obtain⟨x',hx',sh⟩:=s5.at' i _ ho
    rw[hx]at hx';cases hx'
    obtain⟨a,kvs,ep0,ea,en,rfl,rr⟩:=Zsd sh
    subst ea
    have mb:(a,HO.dK kvs ep0)∈own4 i:=by rw[en];exact List.mem_cons_self
    have hH:=(s5.ok i _ mb).2.2
    have z:=Ztu (k:=kk) rd kvs vs rr
    refine⟨a,rfl,?_⟩
    rw[Zpc f1 rk']
    refine DPut.k ⟨_,hH⟩ (by rw[←rr.length_map];exact hz) fun ep=>?_
    exact k σ _ F5 _ sF (s5.change (sv':=.oK (putA (kvs.map (·.1)) vs kk d).1 (putA (kvs.map (·.1)) vs kk d).2) (o':=.dK (putK kvs kk v) ep) (ns':=[(a,.dK (putK kvs kk v) ep)]) ho hx mb (.oK z.1 z.2) (fun p hp=>.inl (List.mem_singleton.mp hp)) nd1)
   ·cases f2
  ·rename_i ks vs
   split at e5
   ·rename_i xs
    obtain⟨kk,f1,f2⟩:=Option.bind_eq_some_iff.mp e5
    split at f2
    ·rename_i hz
     cases f2
     obtain⟨x',hx',sh⟩:=s5.at' i _ ho
     rw[hx]at hx';cases hx'
     obtain⟨a,kvs,ep0,bs0,ea,en,kb,rfl,rr⟩:=Zse sh
     subst ea
     have mb:(a,HO.dT kvs ep0 bs0)∈own4 i:=by rw[en];exact List.mem_cons_self
     have hH:=(s5.ok i _ mb).2.2
     have z:=Ztu (k:=kk) rd kvs vs rr
     obtain⟨b,us,rfl,hbF,rb⟩:=rk'.tupF
     rw[Zkg f1 rb]at hbF
     refine⟨a,rfl,DPut.t ⟨_,_,hH⟩ (s5.le _ _ hbF) (by rw[←rr.length_map];exact hz) fun ep ep1 bs1 hq=>?_⟩
     rw[hH]at hq
     cases hq
     exact k σ _ F5 _ sF (s5.change (sv':=.oT (putA (kvs.map (·.1)) vs kk d).1 (putA (kvs.map (·.1)) vs kk d).2) (o':=.dT (putK kvs kk v) ep (putB kvs bs0 kk b)) (ns':=[(a,.dT (putK kvs kk v) ep (putB kvs bs0 kk b))]) ho hx mb (.oT (kb.put hbF) z.1 z.2) (fun p hp=>.inl (List.mem_singleton.mp hp)) nd1)
    ·cases f2
   ·cases e5
  ·cases e5
 ·cases e
@[simp] noncomputable def bmDF(T:String)(g:D→List D→Option SV)(fo:FE)(fd:FD):FE:=fun δ=>(fo δ).bind fun p=>(rdv p.1 p.2).bind fun d0=>if tyOk T d0=true then(fd p.2).bind fun q=>(rdv p.1 q.2).bind fun d1=>(g d1 q.1).bind fun sv=>some (.tmp sv,q.2)else none
noncomputable def Zzn(Z:Ent K)(r:V→List V→Hp→VK→Prop)(g:D→List D→Option SV):Prop:=
 ∀(F H:Hp) (σ:L2.St) (δ:DSt) (own:Nat→Zw) (x:V) (d:D) (vs:List V) (ds:List D) (sv:SV) (Q:VK),SR Z F H σ δ own→RepN K F H d x→Reps K F ds vs→g d ds=some sv→Fin Z F H σ δ own sv Q→r x vs H Q
theorem Z25{T:String}{r:V→List V→Hp→VK→Prop}{g:D→List D→Option SV}{fo:FE}{fd:FD}(hg:Zzn Z r g)(h:Ze Z (bmDF T g fo fd) σ H Q):tBM K T r (Ze Z fo) (Zbx Z fd) σ H Q:=by
 obtain⟨F,δ,own,rv,δ',s,e,k⟩:=h
 obtain⟨⟨rv1,δ1⟩,e1,e⟩:=Option.bind_eq_some_iff.mp e
 obtain⟨d0,e2,e⟩:=Option.bind_eq_some_iff.mp e
 dsimp only at e
 split at e
 ·rename_i ht
  obtain⟨⟨ds,δ2⟩,e3,e⟩:=Option.bind_eq_some_iff.mp e
  obtain⟨d1,e4,e⟩:=Option.bind_eq_some_iff.mp e
  obtain⟨sv,e5,e⟩:=Option.bind_eq_some_iff.mp e
  cases e
  refine⟨F,δ,own,rv1,δ1,s,e1,fun v H1 F1 own1 sH1 sF1 s1 r1=>?_⟩
  obtain⟨F1',sF1',s1',r1'⟩:=s1.settleR r1
  refine⟨Zzd s1'.le (s1'.rd r1' e2) ht,F1',δ1,own1,ds,δ2,s1',e3,fun vs H2 F2 own2 sH2 sF2 s2 r2=>?_⟩
  exact hg F2 H2 σ δ2 own2 v d1 vs ds sv Q s2 (s2.rd (r1'.mono sF2) e4) r2 e5 fun q H4 F4 ns sH4 sF4 s4 t4=>
   k q H4 F4 own2 (sH1.trans (sH2.trans sH4)) (sF1.trans (sF1'.trans (sF2.trans sF4))) s4 ⟨ns,t4⟩
 ·cases e
@[simp] noncomputable def Zlm:D→List D→Option SV
 |d,[y]=>(getO d y).bind fun o=>some (.fz (o.getD .non))
 |d,[y,z]=>(getO d y).bind fun o=>some (.fz (o.getD z))
 |_,_=>none
theorem Zv7:Zzn Z Ztv Zlm:=by
 intro F H σ δ own x d vs ds sv Q s r1 r2 e k
 unfold Zlm at e
 split at e
 ·obtain⟨o,e1,e2⟩:=Option.bind_eq_some_iff.mp e
  cases e2
  cases r2 with
  |cons h t=>
   cases t
   obtain⟨a,rfl,_,g⟩:=Zix s.le e1 r1 (RepN.of h)
   cases o with
   |none=>exact⟨a,rfl,.inl ⟨_,none,rfl,g,k.fz s .non⟩⟩
   |some d=>obtain⟨v,g,rv⟩:=g;exact⟨a,rfl,.inl ⟨_,some v,rfl,g,k.fz s rv⟩⟩
 ·obtain⟨o,e1,e2⟩:=Option.bind_eq_some_iff.mp e
  cases e2
  cases r2 with
  |cons h t=>
   cases t with
   |cons h2 t=>
    cases t
    obtain⟨a,rfl,_,g⟩:=Zix s.le e1 r1 (RepN.of h)
    cases o with
    |none=>exact⟨a,rfl,.inr ⟨_,_,none,rfl,g,k.fz s h2⟩⟩
    |some d=>obtain⟨v,g,rv⟩:=g;exact⟨a,rfl,.inr ⟨_,_,some v,rfl,g,k.fz s rv⟩⟩
 ·cases e
end
section
variable{X:Cx}{Z:Ent X.K}{a b c:Expr}{fa fb fc:FE}{pos:Pos}
theorem Zph:PE X (.Dict [] [] pos) (Ze Z Zsc):=Zrc.imp fun _ _ _ h=>Zv5 h
theorem Zzo{apos cpos:Pos}{es:List Expr}{fd:FD}(hu:X.A.units+1<cLine)(ha:PE X a (Ze Z fa))(hb:PA X (b::es) (Zbx Z fd))(hbase:attributeBase a "get" X.env (eval a X.env)=eval a X.env:=by rfl)
  (hfew:((backTo cpos (starEach (b::es) X.env)).all (fun x=>!x.1)&&(backToKw cpos (keywordEach [] X.env)).all (fun x=>x.1.isSome)&&decide ((b::es).length+([]:List Keyword).length+(if([]:List Keyword).isEmpty then 0 else 1)<30))=true:=by rfl)
  (hline:(apos.endLine==cpos.line)=true:=by rfl) (hs:starEach (b::es) X.env=(false,eval b X.env)::starEach es X.env:=by rfl) (hpl:(backTo cpos (starEach es X.env)).any (·.1)=false:=by rfl):
  PE X (.Call (.Attribute a "get" apos) (b::es) [] cpos) (Ze Z (bmDF "dict" Zlm fa fd)):=
 (Zju PySem.F.plainAttrs_dict PySem.F.slot_dict_get PySem.F.type_dict_get (Zv4 hu) ha hb hbase hfew hline hs hpl).imp fun _ _ _ h=>Z25 Zv7 h
theorem Zzp(i:Nat){x:Str}{px p1:Pos}(hu:X.A.units+1<cLine)(hb:PE X b (Ze Z fb))(hv':PE X a (Ze Z fa))(hN:X.N[i]? =some x:=by rfl)(hv:Vis X.env.scope x:=by first|exact Or.inl rfl|exact Or.inr (Or.inl rfl)|exact Or.inr (Or.inr rfl))(hd:(x==("__debug__":Str))=false:=by decide)
  (hcd:(x==("__classdict__":Str))=false:=by decide) (hs:swapsWith a (some (.Subscript (.Name x px) b p1)) pos.line X.env=pure false:=by rfl):
  PS X (.Assign [.Subscript (.Name x px) b p1] a pos) (Z9 Z (putF i fb fa)):=(Zu3 hu (Zh0 (i:=i) hN hv hd hcd) hb hv' hs).imp fun _ _ _ h=>Z24 h
end
end DL
namespace L2
open PySem PySem.Spec PyProof.Rows
variable{X:Cx}
noncomputable def Z26:List V→Hp→VK→Prop:=fun xs H Q=>∃a kvs,xs=[.ref a]∧RdK H a kvs∧∀p ep,H p=none→Q (.ref p) (upd H p (.dK kvs ep))
end L2
namespace DL
open PySem PySem.Spec PyProof.Rows L2
variable{K:PySem.W.Frag}
section
variable{Z:Ent K}{H:Hp}{σ:L2.St}{Q:VK}{E:Ends}
@[simp] noncomputable def Z6a:List D→Option SV
 | [.dK ks vs]=>some (.oK ks vs)
 |_=>none
@[simp] noncomputable def Z44(k:Str)(i:Nat):FE:=fun δ=>match δ[i]? with
 |some (some sv)=>some (.tmp (.oK [.inr k] [sv.toD]),δ.set i (some (.fz sv.toD)))
 |_=>none
@[simp] noncomputable def Zzq(ks:List Key)(vs:List D)(k:Key):List Key×List D:=(((ks.zip vs).filter fun p=>decide (p.1≠k)).map (·.1),((ks.zip vs).filter fun p=>decide (p.1≠k)).map (·.2))
@[simp] noncomputable def popF(i:Nat)(fk:FE):FS:=fun δ=>match δ[i]? with
 |some (some (.oK _ _))=>(fk δ).bind fun r=>(rdv r.1 r.2).bind fun kd=>kd.key?.bind fun k=>match r.2[i]? with
  |some (some (.oK ks vs))=>if(look ks vs k).isSome=true then some (.nx (r.2.set i (some (.oK (Zzq ks vs k).1 (Zzq ks vs k).2))))else none
  |_=>none
 |_=>none
end
section
variable{X:Cx}{Z:Ent X.K}{a b c:Expr}{fa fb fc:FE}{pos:Pos}
end
end DL
namespace L2
open PySem PySem.Spec PyProof.Rows
section
variable{prog:Program}{w:World}{A:Around}{E:Value→Shared→Prop}{s:Shared}
theorem Zmx{Q:Int→Shared→Prop}(h:Q 0xFCA86420 {s with toks:=s.toks+1}):wpAny (model prog w) A (pyHash .none) Q E s:=by
 have hT:s.TypeIs .none "NoneType":=rfl
 refine PySem.W.pyHash_slot (v:=.none) (Q:=Q) hT F.slot_NoneType_hash F.entry_NoneType_hash (F.args_NoneType_hash_1 _) rfl (.inl rfl) ?_
 show wpAny (model prog w) A.in1 (mkInt 0xFCA86420 >>=fun v=>ret v) _ E s
 refine wpAny_bind (wpAny_mkInt ?_)
 exact wpAny_pure ⟨_,_,rfl,h⟩
end
noncomputable def Zv8:Option Key→Value→Bool
 |none,.none=>true
 |none,_=>false
 |some k,v=>Ze6 k v
theorem Zae{k:Option Key}{v:Value}(h:Zv8 k v=true):(k=none∧v= .none)∨∃j,k=some j∧Ze6 j v=true:=by
 cases k with
 |none=>cases v<;> first|exact .inl ⟨rfl,rfl⟩|cases h
 |some j=>exact .inr ⟨j,rfl,h⟩
theorem Zg8{j:Key}(h:Ze6 j .none=true):False:=by
 rcases Z0 h with⟨i,t,_,e⟩|⟨x,t,_,e⟩<;> cases e
noncomputable def Zkh(prog:Program)(w:World):PySem.KeyKind prog w (Option Key)where
 is:=Zv8
 hash:=fun|none=>0xFCA86420|some k=>(Zz prog w).hash k
 inj:=fun v a b ha hb=>by
  rcases Zae ha with⟨rfl,rfl⟩|⟨i,rfl,hi⟩
  ·rcases Zae hb with⟨rfl,_⟩|⟨j,rfl,hj⟩
   ·rfl
   ·exact(Zg8 hj).elim
  ·rcases Zae hb with⟨rfl,rfl⟩|⟨j,rfl,hj⟩
   ·exact(Zg8 hi).elim
   ·rw[(Zz prog w).inj v i j hi hj]
 byValue:=fun k v h=>by
  rcases Zae h with⟨rfl,rfl⟩|⟨i,rfl,hi⟩
  ·rfl
  ·exact(Zz prog w).byValue i v hi
 pyHash:=fun{A E s k v Q} hv h=>by
  rcases Zae hv with⟨rfl,rfl⟩|⟨i,rfl,hi⟩
  ·exact Zmx h
  ·exact(Zz prog w).pyHash hi h
 eqBool:=fun{A E s a b u v Q} hu hv h=>by
  rcases Zae hu with⟨rfl,rfl⟩|⟨i,rfl,hi⟩
  ·rcases Zae hv with⟨rfl,rfl⟩|⟨j,rfl,hj⟩
   ·exact SeqAt.EqAt.same _ _ _ _ _ (by simpa using h)
   ·rw[decide_eq_false (fun z=>nomatch z)]at h
    rcases Z0 hj with⟨i,t,rfl,rfl⟩|⟨x,t,rfl,rfl⟩
    ·exact SeqAt.EqAt.none_int i t _ _ _ _ h
    ·exact SeqAt.EqAt.none_str x t _ _ _ _ h
  ·rcases Zae hv with⟨rfl,rfl⟩|⟨j,rfl,hj⟩
   ·rw[decide_eq_false (fun z=>nomatch z)]at h
    rcases Z0 hi with⟨i,t,rfl,rfl⟩|⟨x,t,rfl,rfl⟩
    ·exact SeqAt.EqAt.int_none i t _ _ _ _ h
    ·exact SeqAt.EqAt.str_none x t _ _ _ _ h
   ·refine(Zz prog w).eqBool hi hj ?_
    have e:decide (some i=some j)=decide (i=j):=by simp
    rw[←e];exact h
 «strs»:=fun k x t v h=>by
  rcases Zae h with⟨rfl,e⟩|⟨i,rfl,hi⟩
  ·cases e
  ·exact(Zz prog w).strs i x t v hi
variable{X:Cx}
theorem Zpi{P:Program}{w:World}{h:Heap}{a:Addr}{vs:List (Key×Value)}(d:h.DictOf (Zz P w) a vs):h.MapOf (Zkh P w) a (fun|none=>none|some k=>valueAt vs k):=by
 obtain⟨o,es,ep,ho,hc,hd,hk,hf⟩:=d.mapOf
 refine⟨o,es,ep,ho,hc,hd,fun e he=>?_,fun k=>?_⟩
 ·obtain⟨k,h1,h2⟩:=hk e he
  exact⟨some k,h1,h2⟩
 ·cases k with
  |some k=>exact hf k
  |none=>
   show(es.find? fun e=>Zv8 none e.key).map (·.val)=none
   rw[Array.find?_eq_none.mpr fun e he z=>?_]
   ·rfl
   ·obtain⟨k,h1,_⟩:=hk e he
    rcases Zae z with⟨_,e2⟩|⟨j,e2,_⟩
    ·rw[e2]at h1;exact Zg8 h1
    ·cases e2
noncomputable def Zgm(neg:Bool):R2:=fun y x H Q=>∃a kvs,y= .non∧x= .ref a∧RdK H a kvs∧Q (.bl neg) H
theorem Ziy:OpR X (compareOp .In) (Zgm false):=by
 intro pins s σ H y x v u Q I ry rx h
 obtain⟨a,kvs,rfl,rfl,e,q⟩:=h
 cases ry
 cases rx
 obtain⟨z,hd,vs,rel,dd⟩:=Zga I.hok e
 exact wpAny_in_of (knd:=Zkh X.prog X.w) (k:=none) rfl hd (Zpi dd) ⟨.bl false,H,I.tok _,rfl,q⟩
theorem Ziz:OpR X (compareOp .NotIn) (Zgm true):=by
 intro pins s σ H y x v u Q I ry rx h
 obtain⟨a,kvs,rfl,rfl,e,q⟩:=h
 cases ry
 cases rx
 obtain⟨z,hd,vs,rel,dd⟩:=Zga I.hok e
 exact wpAny_notIn_of (knd:=Zkh X.prog X.w) (k:=none) rfl hd (Zpi dd) ⟨.bl true,H,I.tok _,rfl,q⟩
end L2
namespace L2
open PySem PySem.Spec PyProof.Rows
noncomputable def Zln(es:Array DictEntry)(kvs:List (Str×Value)):Prop:=es.size=kvs.length∧∀(i:Nat) (p:Str×Value),kvs[i]? =some p→∃e t,es[i]? =some e∧e.key= .str p.1 t∧e.val=p.2
noncomputable def Zg9(h:Heap)(a:Addr)(kvs:List (Str×Value)):Prop:=∃o es ep,h.get? a=some o∧o.ExactDict∧o.data= .dict es ep∧Zln es kvs
noncomputable def Zb2(kvs:List (Str×Value))(x:Str):Option Nat:=kvs.findIdx? fun p=>decide (p.1=x)
theorem Zln.find{es:Array DictEntry}{kvs:List (Str×Value)}(h:Zln es kvs)(x:Str):(es.findIdx? fun e=>e.key.isStr x)=Zb2 kvs x:=by
 unfold Zb2
 have hA:(es.findIdx? fun e=>e.key.isStr x)=es.toList.findIdx? fun e=>e.key.isStr x:=by obtain⟨l⟩:=es;simp
 rw[hA]
 have:∀(es:List DictEntry) (kvs:List (Str×Value)),es.length=kvs.length→(∀(i:Nat) (p:Str×Value),kvs[i]? =some p→∃e t,es[i]? =some e∧e.key= .str p.1 t∧e.val=p.2)→
   es.findIdx? (fun e=>e.key.isStr x)=kvs.findIdx? fun p=>decide (p.1=x):=by
  intro es
  induction es with
  |nil=>intro kvs hl _;cases kvs with
   |nil=>rfl
   |cons p r=>cases hl
  |cons e es ih=>
   intro kvs hl hp
   cases kvs with
   |nil=>cases hl
   |cons p r=>
    obtain⟨e',t,h1,h2,h3⟩:=hp 0 p rfl
    obtain rfl:e=e':=by simpa using h1
    have hk:e.key.isStr x=decide (p.1=x):=by
     rw[h2]
     show(p.1==x)=_
     by_cases z:p.1=x
     ·rw[z];simp
     ·rw[decide_eq_false z];exact beq_eq_false_iff_ne.mpr z
    rw[List.findIdx?_cons,List.findIdx?_cons,hk,ih r (by simpa using hl) (fun i q hq=>hp (i+1) q (by simpa using hq))]
 exact this es.toList kvs (by rw[Array.length_toList];exact h.1) (fun i p hp=>by
  obtain⟨e,t,h1,h2⟩:=h.2 i p hp
  exact⟨e,t,by rw[Array.getElem?_toList];exact h1,h2⟩)
section
variable{prog:Program}{w:World}{A:Around}{E:Value→Shared→Prop}{s:Shared}
theorem Zpj{d:Addr}{o:Obj}{es:Array DictEntry}{ep:Nat}{kvs:List (Str×Value)}{x:Str}{t:Tok}{n:Int}{Q:Option Nat→Shared→Prop}(ho:s.heap.get? d=some o)(hd:o.data= .dict es ep)(hp:Zln es kvs)(q:Q (Zb2 kvs x) s):
  wpAny (model prog w) A (dictFind d (.str x t) n) Q E s:=by
 have hall:(es.all fun e=>isExactStrKey e.key)=true:=by
  rw[Array.all_eq_true]
  intro i hi
  have hi':i<kvs.length:=by rw[←hp.1];exact hi
  obtain⟨e,t',h1,h2,_⟩:=hp.2 i kvs[i] (by simp[hi'])
  rw[Array.getElem?_eq_getElem hi]at h1
  cases h1
  rw[h2];rfl
 unfold dictFind
 try with_reducible refine wpAny_holding ?_
 refine wpAny_bind (wpAny_dictEntries ho hd ?_)
 dsimp only
 rw[if_pos hall]
 unfold foundByValue
 rw[hp.find x]
 cases hj:Zb2 kvs x with
 |none=>rw[hj]at q;exact wpAny_pure q
 |some j=>
  rw[hj]at q
  obtain⟨hlt,hx,_⟩:=List.findIdx?_eq_some_iff_getElem.mp hj
  obtain⟨e,t',h1,h2,h3⟩:=hp.2 j kvs[j] (by simp[hlt])
  have hx':kvs[j].1=x:=of_decide_eq_true hx
  rw[hx']at h2
  dsimp only
  rw[h1]
  dsimp only
  refine wpAny_bind (wpAny_dictEpoch ho hd ?_)
  rw[h2]
  refine wpAny_bind (SeqAt.EqAt.str_str x t' x t prog w _ _ ?_)
  refine wpAny_bind (wpAny_dictEpoch ho hd ?_)
  rw[if_neg (by simp)]
  simp only[beq_self_eq_true,if_true]
  exact wpAny_bind (wpAny_rule (wpAny_pure q))
end
inductive SHits(A:Around)(s:Shared)(kb:List (Str×Value)):List (Str×Value)→Bool→Prop where
 |nil:SHits A s kb [] true
 |miss {k:Str} {v:Value} {r:List (Str×Value)}:Zb2 kb k=none→SHits A s kb ((k,v)::r) false
 |hit {k:Str} {v:Value} {r:List (Str×Value)} {j:Nat} {p:Str×Value} {e b:Bool}:Zb2 kb k=some j→kb[j]? =some p→SeqAt.EqAt A s v p.2 e→SHits A s kb r b→SHits A s kb ((k,v)::r) (e&&b)
section
variable{prog:Program}{w:World}{A:Around}{E:Value→Shared→Prop}{s:Shared}
theorem Zgn{nm:String}{a b:Addr}{ka kb:List (Str×Value)}{r:Bool}{Q:Bool→Shared→Prop}(ha:(a==sysModules)=false)(hb:(b==sysModules)=false)(da:Zg9 s.heap a ka)(db:Zg9 s.heap b kb)
  (hits:ka.length=kb.length→SHits A s kb ka r) (q:Q (ka.length==kb.length&&r) s):wpAny (model prog w) A (Builtin.Dict.samePairs nm a b) Q E s:=by
 obtain⟨oa,es,ep,ga,_,dta,pa⟩:=da
 obtain⟨ob,es',ep',gb,_,dtb,pb⟩:=db
 have la:=pa.1
 have lb:=pb.1
 unfold Builtin.Dict.samePairs Builtin.Dict.showsAll
 rw[if_neg (by rw[ha];exact Bool.false_ne_true),if_neg (by rw[hb];exact Bool.false_ne_true)]
 refine wpAny_bind (wpAny_pure (wpAny_bind (wpAny_pure (wpAny_bind (wpAny_dictEntries ga dta ?_)))))
 refine wpAny_bind (wpAny_dictEntries gb dtb ?_)
 by_cases hz:es.size=es'.size
 ·have hl:ka.length=kb.length:=by omega
  have q':Q r s:=by simpa[hl]using q
  have hh:=hits hl
  rw[if_neg (by rw[hz];simp)]
  refine wpAny_bind (wpAny_dictEpoch ga dta (wpAny_bind ?_))
  rw[Std.Legacy.Range.forIn_eq_forIn_range']
  simp only[Std.Legacy.Range.size,Nat.sub_zero,Nat.add_sub_cancel,Nat.div_one]
  refine wpAny_forIn_list _ (fun rest x s'=>s'=s∧x=(none,())∧∃i,rest=List.range' i (es.size- i)∧i≤es.size∧SHits A s kb (ka.drop i) r) _ ?_ ?_ _ _ ⟨rfl,rfl,0,by simp,Nat.zero_le _,hh⟩
  ·rintro x rest y s' ⟨rfl,rfl,i,hr,hi,hS⟩
   have hlt:i<es.size:=by
    rcases Nat.lt_or_ge i es.size with z|z
    ·exact z
    ·rw[Nat.sub_eq_zero_of_le z]at hr;cases hr
   rw[show es.size- i=(es.size- (i+1))+1 by omega,List.range'_succ]at hr
   injection hr with hx hrest
   subst hx
   have hlk:x<ka.length:=by omega
   obtain⟨e,t,h1,h2,h3⟩:=pa.2 x ka[x] (by simp[hlk])
   rw[List.drop_eq_getElem_cons hlk]at hS
   refine wpAny_bind (wpAny_dictEntries ga dta ?_)
   rw[h1]
   show wpAny _ _ (holding [e.key,e.val] _ >>=_) _ _ _
   rw[h2]
   refine wpAny_bind (wpAny_holding (wpAny_bind (Zpj gb dtb pb ?_)))
   generalize hk:ka[x]=p at hS h2 h3⊢
   obtain⟨k,v⟩:=p
   cases hS with
   |miss hn=>
    rw[hn]
    refine wpAny_pure ?_
    show wpAny _ _ (if(!false)=true then _ else _) _ _ _
    rw[if_pos (by decide)]
    exact wpAny_pure (wpAny_pure q')
   | @hit _ _ _ j p' eb bb hn hp he hr'=>
    rw[hn]
    obtain⟨f,t',g1,g2,g3⟩:=pb.2 j p' hp
    refine wpAny_bind (wpAny_dictEntries gb dtb ?_)
    rw[g1]
    rw[show e.val=v from h3]
    dsimp only
    rw[g3]
    refine wpAny_holding (he prog w _ _ ?_)
    cases eb with
    |false=>
     rw[Bool.false_and]at q'
     show wpAny _ _ (if(!false)=true then _ else _) _ _ _
     rw[if_pos (by decide)]
     exact wpAny_pure (wpAny_pure q')
    |true=>
     show wpAny _ _ (if(!true)=true then _ else _) _ _ _
     rw[if_neg (by decide)]
     refine wpAny_bind (wpAny_dictEpoch ga dta ?_)
     rw[if_neg (by simp)]
     exact wpAny_pure ⟨rfl,rfl,x+1,hrest,hlt,by rw[Bool.true_and];exact hr'⟩
  ·rintro x s' ⟨rfl,rfl,i,hr,hi,hS⟩
   have e:i=es.size:=by
    rcases Nat.lt_or_ge i es.size with z|z
    ·rw[show es.size- i=(es.size- (i+1))+1 by omega,List.range'_succ]at hr;cases hr
    ·omega
   rw[e,la,List.drop_length]at hS
   cases hS
   exact wpAny_pure q'
 ·rw[if_pos (by simpa using hz)]
  have hf:(ka.length==kb.length)=false:=by rw[←la,←lb];simpa using hz
  rw[hf,Bool.false_and]at q
  exact wpAny_bind (wpAny_rule (wpAny_pure q))
end
section
variable{A:Around}{s:Shared}{a b:Addr}{ka kb:List (Str×Value)}{r:Bool}
theorem Zg9.typeIs(d:Zg9 s.heap a ka):s.TypeIs (.ref a) "dict":=let⟨o,_,_,ho,hc,_⟩:=d;⟨o,ho,hc.1⟩
theorem Zlo(ha:(a==sysModules)=false)(hb:(b==sysModules)=false)(da:Zg9 s.heap a ka)(db:Zg9 s.heap b kb)(hu:A.units<cLine)(hits:ka.length=kb.length→SHits A.in1 s kb ka r):SeqAt.RcAt A s (.ref a) (.ref b) (ka.length==kb.length&&r):=fun prog w E Q q=>by
 refine wpAny_richCompare_same_room (op:=.Eq) da.typeIs db.typeIs PySem.F.slot_dict_eq (wpAny_call_entry PySem.F.slot_dict_eq da.typeIs PySem.F.entry_dict_eq ?_ (PySem.F.args_dict_eq_2 _ _)) hu;show wpAny _ _ (Builtin.Dict.dictSlotArgs "__eq__" ⟨[.ref a,.ref b],[]⟩>>=_) _ _ s
 refine wpAny_bind ?_;unfold Builtin.Dict.dictSlotArgs;refine wpAny_bind (wpAny_notOrdered_dict da.typeIs ?_);show wpAny _ _ (pure (Value.ref a,Value.ref b)) _ _ s
 refine wpAny_pure (wpAny_bind (wpAny_isInstance (T:="dict") db.typeIs PySem.F.sub_dict_dict ?_));simp only[Bool.not_true,Bool.false_eq_true,if_false]
 refine wpAny_bind (wpAny_pure (wpAny_bind (wpAny_pure (wpAny_bind (Zgn ha hb da db hits ?_)))))
 exact wpAny_pure ⟨_,rfl,(fun x=>nomatch x),by simpa using q⟩
theorem Zgo(ha:(a==sysModules)=false)(hb:(b==sysModules)=false)(da:Zg9 s.heap a ka)(db:Zg9 s.heap b kb)(hu:A.units<cLine)(hits:ka.length=kb.length→SHits A.in1 s kb ka r):SeqAt.RcNeAt A s (.ref a) (.ref b) (!(ka.length==kb.length&&r)):=fun prog w E Q q=>by
 refine wpAny_richCompare_same_room (op:=.NotEq) da.typeIs db.typeIs PySem.F.slot_dict_ne (wpAny_call_entry PySem.F.slot_dict_ne da.typeIs PySem.F.entry_dict_ne ?_ (PySem.F.args_dict_ne_2 _ _)) hu;show wpAny _ _ (Builtin.Dict.dictSlotArgs "__ne__" ⟨[.ref a,.ref b],[]⟩>>=_) _ _ s
 refine wpAny_bind ?_;unfold Builtin.Dict.dictSlotArgs;refine wpAny_bind (wpAny_notOrdered_dict da.typeIs ?_);show wpAny _ _ (pure (Value.ref a,Value.ref b)) _ _ s
 refine wpAny_pure (wpAny_bind (wpAny_isInstance (T:="dict") db.typeIs PySem.F.sub_dict_dict ?_));simp only[Bool.not_true,Bool.false_eq_true,if_false]
 refine wpAny_bind (wpAny_pure (wpAny_bind (wpAny_pure (wpAny_bind (Zgn ha hb da db hits ?_)))))
 exact wpAny_pure ⟨_,rfl,(fun x=>nomatch x),by simpa using q⟩
end
end L2
namespace DL
open PySem PySem.Spec PyProof.Rows L2
variable{K:PySem.W.Frag}
@[simp] noncomputable def strK?:List Key→Option (List Str)
 | []=>some []
 | .inr x::r=>(strK? r).bind fun t=>some (x::t)
 |_=>none
@[simp] noncomputable def eqKV(f:D→D→Option Bool)(ys:List Str)(us:List D):List Str→List D→Option Bool
 |x::xs,v::vs=>match look ys us x with
  |none=>some false
  |some u=>(f v u).bind fun b=>(eqKV f ys us xs vs).bind fun c=>some (b&&c)
 |_,_=>some true
@[simp] noncomputable def Zfq(f:D→D→Option Bool):D→D→Option Bool
 | .dK ks vs,.dK ks' vs'=>(strK? ks).bind fun xs=>(strK? ks').bind fun ys=>if xs.length=ys.length then eqKV f ys vs' xs vs else some false
 |d1,d2=>Zfj f d1 d2
@[simp] noncomputable def eqM:Nat→D→D→Option Bool
 |0=>fun _ _=>none
 |n+1=>Zfq (eqM n)
theorem Zpk{P:Program}{w:World}:∀{es:List DictEntry} {kvs:List (Key×Value)} {xs:List Str},Pairs (Zz P w) es kvs→strK? (kvs.map (·.1))=some xs→
  ∃skv:List (Str×Value),skv.map (·.1)=xs∧skv.map (·.2)=kvs.map (·.2)∧es.length=skv.length∧∀(i:Nat) (p:Str×Value),skv[i]? =some p→∃e t,es[i]? =some e∧e.key= .str p.1 t∧e.val=p.2
 |_,_,_,.nil,e=>by cases e;exact⟨[],rfl,rfl,rfl,fun i p h=>by simp at h⟩
 |_,_,_,@Pairs.cons _ _ _ _ _ en kv es kvs hi hv t,e=>by
  obtain⟨k,v⟩:=kv
  cases k with
  |inl i=>cases e
  |inr x=>
   have e:(strK? (kvs.map (·.1))).bind (fun t=>some (x::t))=some _:=e
   obtain⟨xs,e1,e2⟩:=Option.bind_eq_some_iff.mp e
   cases e2
   obtain⟨skv,h1,h2,h3,h4⟩:=Zpk t e1
   refine⟨(x,v)::skv,by rw[List.map_cons,h1],by rw[List.map_cons,List.map_cons,h2],by rw[List.length_cons,List.length_cons,h3],fun i p hp=>?_⟩
   cases i with
   |zero=>
    obtain rfl:(x,v)=p:=by simpa using hp
    rcases Z0 (show Ze6 (.inr x) en.key=true from hi)with⟨j,t',e3,_⟩|⟨y,t',e3,e4⟩
    ·cases e3
    ·cases e3;exact⟨en,t',rfl,e4,hv⟩
   |succ i=>exact h4 i p (by simpa using hp)
theorem Zki:∀{kvs:List (Key×V)} {vs:List (Key×Value)},KV kvs vs→vs.map (·.1)=kvs.map (·.1)∧Vals (kvs.map (·.2)) (vs.map (·.2))
 |_,_,.nil=>⟨rfl,.nil⟩
 |_,_,.cons h t=>⟨by rw[List.map_cons,List.map_cons,h.1,(Zki t).1],.cons h.2 (Zki t).2⟩
section
variable{X:Cx}{pins:List (Addr×Obj)}{σ:L2.St}{F H:Hp}{s:Shared}
theorem Zha(I:Inv X pins σ H s){a:Addr}{kvs:List (Key×V)}{xs:List Str}(ha:HK H a kvs)(e:strK? (kvs.map (·.1))=some xs):
  (a==sysModules)=false∧∃skv:List (Str×Value),Zg9 s.heap a skv∧skv.map (·.1)=xs∧Vals (kvs.map (·.2)) (skv.map (·.2))∧(kvs.map (·.1)).Nodup:=by
 obtain⟨z,hd,vs,rel,dd⟩:=Zyk I.hok ha
 obtain⟨k1,k2⟩:=Zki rel
 obtain⟨o,es,ep,ho,hc,hdt,_,hp,nd⟩:=dd
 rw[←k1]at e
 obtain⟨skv,h1,h2,h3,h4⟩:=Zpk hp e
 refine⟨hd,skv,⟨o,es,ep,ho,hc,hdt,by rw[←h3];simp,fun i p hpp=>?_⟩,h1,by rw[h2];exact k2,by rw[←k1];exact nd⟩
 obtain⟨en,t,g1,g2⟩:=h4 i p hpp
 exact⟨en,t,by rw[←Array.getElem?_toList];exact g1,g2⟩
theorem Zed(x:Str):∀(skv:List (Str×Value)) (us:List D) (Us:List V),Reps X.K F us Us→Vals Us (skv.map (·.2))→match look (skv.map (·.1)) us x with
  |none=>Zb2 skv x=none
  |some u=>∃j p U,Zb2 skv x=some j∧skv[j]? =some p∧Rep X.K F u U∧RelV U p.2
 | [],_,_,r,v=>by cases v;cases r;rfl
 |p::skv,_,_,r,v=>by
  cases v with
  | @cons U u' Us us' hU tU=>
  cases r with
  | @cons d v' ds vs' h t=>
   have ih:=Zed x skv ds Us t tU
   show match(if p.1=x then some d else look (skv.map (·.1)) ds x)with
    |none=>Zb2 (p::skv) x=none
    |some u=>∃j q U,Zb2 (p::skv) x=some j∧(p::skv)[j]? =some q∧Rep X.K F u U∧RelV U q.2
   have hpl:Zb2 (p::skv) x=if p.1=x then some 0 else(Zb2 skv x).map (· +1):=by
    unfold Zb2
    rw[List.findIdx?_cons]
    by_cases e:p.1=x<;> simp[e]
   by_cases e:p.1=x
   ·rw[if_pos e,hpl,if_pos e]
    exact⟨0,p,U,rfl,rfl,h,hU⟩
   ·rw[if_neg e,hpl,if_neg e]
    cases hl:look (skv.map (·.1)) ds x with
    |none=>rw[hl]at ih;dsimp only at ih⊢;rw[ih];rfl
    |some u=>
     rw[hl]at ih
     obtain⟨j,q,U',h1,h2,h3,h4⟩:=ih
     exact⟨j+1,q,U',by rw[h1];rfl,by simpa using h2,h3,h4⟩
theorem Zpl{A:Around}{f:D→D→Option Bool}(ih:∀d1 d2 b x y v u,Rep X.K F d1 x→RelV x v→Rep X.K F d2 y→RelV y u→f d1 d2=some b→SeqAt.EqAt A s v u b){skv2:List (Str×Value)}{us:List D}{Us:List V}(ru:Reps X.K F us Us)(vu:Vals Us (skv2.map (·.2))):
  ∀(skv:List (Str×Value)) (vs:List D) (Vs:List V) (r:Bool),Reps X.K F vs Vs→Vals Vs (skv.map (·.2))→eqKV f (skv2.map (·.1)) us (skv.map (·.1)) vs=some r→SHits A s skv2 skv r
 | [],_,_,_,r,v,e=>by cases v;cases r;cases e;exact .nil
 |p::skv,_,_,_,r,v,e=>by
  obtain⟨k,w⟩:=p
  cases v with
  | @cons V0 u' Vs us' hV tV=>
  cases r with
  | @cons d v' ds vs' h t=>
   have lp:=Zed (X:=X) (F:=F) k skv2 us Us ru vu
   have e:(match look (skv2.map (·.1)) us k with
    |none=>some false
    |some u=>(f d u).bind fun b=>(eqKV f (skv2.map (·.1)) us (skv.map (·.1)) ds).bind fun c=>some (b&&c))=some _:=e
   cases hl:look (skv2.map (·.1)) us k with
   |none=>
    rw[hl]at lp e
    cases e
    exact .miss lp
   |some u=>
    rw[hl]at lp e
    obtain⟨j,q,U,h1,h2,h3,h4⟩:=lp
    obtain⟨b,e1,e2⟩:=Option.bind_eq_some_iff.mp e
    obtain⟨c,e3,e4⟩:=Option.bind_eq_some_iff.mp e2
    cases e4
    exact .hit h1 h2 (ih _ _ _ _ _ _ _ h hV h3 h4 e1) (Zpl ih ru vu skv ds Vs c t tV e3)
end
end DL
namespace DL
open PySem PySem.Spec PyProof.Rows L2
variable{K:PySem.W.Frag}
theorem Zi0:∀(skv:List (Str×Value)),(skv.map (·.1)).Nodup→∀q∈skv,∃j,Zb2 skv q.1=some j∧skv[j]? =some q
 | [],_,_,h=>nomatch h
 |p::r,nd,q,h=>by
  obtain⟨n1,n2⟩:=List.nodup_cons.mp nd
  have hpl:Zb2 (p::r) q.1=if p.1=q.1 then some 0 else(Zb2 r q.1).map (· +1):=by
   unfold Zb2
   rw[List.findIdx?_cons]
   by_cases e:p.1=q.1<;> simp[e]
  rcases List.mem_cons.mp h with e|e
  ·subst e;exact⟨0,by rw[hpl,if_pos rfl],rfl⟩
  ·obtain⟨j,h1,h2⟩:=Zi0 r n2 q e
   have hne:¬p.1=q.1:=fun z=>n1 (List.mem_map.mpr ⟨q,e,z.symm⟩)
   exact⟨j+1,by rw[hpl,if_neg hne,h1];rfl,by simpa using h2⟩
theorem Zlp:∀{ks:List Key} {xs:List Str},strK? ks=some xs→ks=xs.map Sum.inr
 | [],_,e=>by cases e;rfl
 | .inr x::ks,_,e=>by
  obtain⟨t,e1,e2⟩:=Option.bind_eq_some_iff.mp e
  cases e2
  rw[Zlp e1];rfl
 | .inl i::ks,_,e=>by cases e
theorem Zmy{ks:List Key}{xs:List Str}(e:strK? ks=some xs)(nd:ks.Nodup):xs.Nodup:=by
 rw[Zlp e]at nd
 have z:(xs.map Sum.inr:List Key).Pairwise (· ≠ ·):=nd
 rw[List.pairwise_map]at z
 exact z.imp fun h e=>h (by rw[e])
section
variable{X:Cx}{pins:List (Addr×Obj)}{σ:L2.St}{F H:Hp}{s:Shared}
theorem Zi1{f:D→D→Option Bool}(ih:∀(d1 d2:D) (b:Bool) (x y:V) (v:Value),Rep X.K F d1 x→RelV x v→Rep X.K F d2 y→RelV y v→f d1 d2=some b→b=true){skv:List (Str×Value)}{us:List D}{Us:List V}(ru:Reps X.K F us Us)(vu:Vals Us (skv.map (·.2))):
  ∀(skv1:List (Str×Value)) (vs:List D) (Vs:List V) (r:Bool),(∀q∈skv1,∃j,Zb2 skv q.1=some j∧skv[j]? =some q)→Reps X.K F vs Vs→Vals Vs (skv1.map (·.2))→eqKV f (skv.map (·.1)) us (skv1.map (·.1)) vs=some r→r=true
 | [],_,_,_,_,r,v,e=>by cases v;cases r;cases e;rfl
 |p::skv1,_,_,_,hs,r,v,e=>by
  obtain⟨k,w⟩:=p
  cases v with
  | @cons V0 u' Vs us' hV tV=>
  cases r with
  | @cons d v' ds vs' h t=>
   have lp:=Zed (X:=X) (F:=F) k skv us Us ru vu
   obtain⟨j,hj1,hj2⟩:=hs (k,w) List.mem_cons_self
   have e:(match look (skv.map (·.1)) us k with
    |none=>some false
    |some u=>(f d u).bind fun b=>(eqKV f (skv.map (·.1)) us (skv1.map (·.1)) ds).bind fun c=>some (b&&c))=some _:=e
   cases hl:look (skv.map (·.1)) us k with
   |none=>
    rw[hl]at lp
    rw[show Zb2 skv k=some j from hj1]at lp
    cases lp
   |some u=>
    rw[hl]at lp e
    obtain⟨j',q,U,h1,h2,h3,h4⟩:=lp
    rw[show Zb2 skv k=some j from hj1]at h1
    cases h1
    rw[hj2]at h2
    cases h2
    obtain⟨b,e1,e2⟩:=Option.bind_eq_some_iff.mp e
    obtain⟨c,e3,e4⟩:=Option.bind_eq_some_iff.mp e2
    cases e4
    rw[ih _ _ _ _ _ _ h hV h3 h4 e1,Zi1 ih ru vu skv1 ds Vs c (fun q hq=>hs q (List.mem_cons_of_mem _ hq)) t tV e3];rfl
theorem Zhb(I:Inv X pins σ H s)(le:Same F H):∀(n:Nat) (d1 d2:D) (b:Bool) (x y:V) (v:Value),Rep X.K F d1 x→RelV x v→Rep X.K F d2 y→RelV y v→eqM n d1 d2=some b→b=true
 |0,_,_,_,_,_,_,_,_,_,_,e=>by cases e
 |n+1,d1,d2,b,x,y,v,r1,v1,r2,v2,e=>by
  unfold eqM Zfq at e
  split at e
  ·cases r1 with
   | @dK a ks ds kvs ep1 h1 e1 rr1=>
   cases r2 with
   | @dK a' ks' ds' kvs' ep2 h2 e2 rr2=>
   cases v1
   cases(show Value.ref a=Value.ref a' from v2)
   rw[h1]at h2
   cases h2
   subst e1 e2
   obtain⟨xs,f1,e⟩:=Option.bind_eq_some_iff.mp e
   obtain⟨ys,f2,e⟩:=Option.bind_eq_some_iff.mp e
   rw[f1]at f2
   cases f2
   rw[if_pos rfl]at e
   obtain⟨_,skv,_,hk,hv,nd⟩:=Zha I ⟨_,le _ _ h1⟩ f1
   have ndx:=Zmy f1 nd
   rw[←hk]at e ndx
   exact Zi1 (Zhb I le n) rr2 hv skv _ _ b (Zi0 skv ndx) rr1 hv e
  ·exact Zo5 I le (Zhb I le n) d1 d2 b x y v r1 v1 r2 v2 e
theorem rcM(I:Inv X pins σ H s)(le:Same F H){A:Around}{f:D→D→Option Bool}{d1 d2:D}{b:Bool}{x y:V}{v u:Value}
  (ih:∀d1 d2 b x y v u,Rep X.K F d1 x→RelV x v→Rep X.K F d2 y→RelV y u→f d1 d2=some b→SeqAt.EqAt A.in1 s v u b) (r1:RepN X.K F H d1 x) (v1:RelV x v) (r2:RepN X.K F H d2 y) (v2:RelV y u)
  (e:Zfq f d1 d2=some b) (hu:A.units<cLine) (hr:Zao x=false∨Zao y=false):(∃a c,v= .ref a∧u= .ref c)∧SeqAt.RcAt A s v u b∧SeqAt.RcNeAt A s v u (!b):=by
 unfold Zfq at e
 split at e
 ·obtain⟨a1,kvs1,rfl,ha1,rfl,rr1⟩:=r1.dK le
  obtain⟨a2,kvs2,rfl,ha2,rfl,rr2⟩:=r2.dK le
  cases v1;cases v2
  obtain⟨xs,f1,e⟩:=Option.bind_eq_some_iff.mp e
  obtain⟨ys,f2,e⟩:=Option.bind_eq_some_iff.mp e
  obtain⟨m1,skv1,sd1,hk1,hv1,_⟩:=Zha I ha1 f1
  obtain⟨m2,skv2,sd2,hk2,hv2,_⟩:=Zha I ha2 f2
  have l1:skv1.length=xs.length:=by rw[←hk1,List.length_map]
  have l2:skv2.length=ys.length:=by rw[←hk2,List.length_map]
  refine⟨⟨_,_,rfl,rfl⟩,?_⟩
  split at e
  ·rename_i hl
   rw[←hk1,←hk2]at e
   have hits:skv1.length=skv2.length→SHits A.in1 s skv2 skv1 b:=fun _=>Zpl ih rr2 hv2 skv1 _ _ b rr1 hv1 e
   have hb:b=(skv1.length==skv2.length&&b):=by rw[l1,l2,hl];simp
   rw[hb]
   exact⟨Zlo m1 m2 sd1 sd2 hu hits,Zgo m1 m2 sd1 sd2 hu hits⟩
  ·rename_i hl
   cases e
   have hits:skv1.length=skv2.length→SHits A.in1 s skv2 skv1 false:=fun z=>absurd (by omega) hl
   have hb:false=(skv1.length==skv2.length&&false):=by simp
   rw[hb]
   exact⟨Zlo m1 m2 sd1 sd2 hu hits,Zgo m1 m2 sd1 sd2 hu hits⟩
 ·exact rcN I le ih r1 v1 r2 v2 e hu hr
theorem Zpm(I:Inv X pins σ H s)(le:Same F H):∀(n:Nat) (A:Around) (d1 d2:D) (b:Bool) (x y:V) (v u:Value),A.units+n<cLine→Rep X.K F d1 x→RelV x v→Rep X.K F d2 y→RelV y u→eqM n d1 d2=some b→SeqAt.EqAt A s v u b
 |0,_,_,_,_,_,_,_,_,_,_,_,_,_,e=>by cases e
 |n+1,A,d1,d2,b,x,y,v,u,hu,r1,v1,r2,v2,e=>by
  by_cases hf:Zao x=true∧Zao y=true
  ·have e':eqS d1 d2=some b:=by
    unfold eqM Zfq at e
    split at e
    ·cases r1;cases hf.1
    ·unfold Zfj at e
     split at e
     ·cases r1;cases hf.1
     ·cases r1;cases hf.1
     ·cases r1;cases hf.1
     ·cases r1;cases hf.1
     ·exact e
   obtain⟨f1,f2,rfl⟩:=Zg5 (H:=H) e' (RepN.of r1) (RepN.of r2)
   exact Zti v1 v2 f1 f2
  ·have hf':Zao x=false∨Zao y=false:=by
    cases h1:Zao x with
    |false=>exact .inl rfl
    |true=>cases h2:Zao y with
     |false=>exact .inr rfl
     |true=>exact absurd ⟨h1,h2⟩ hf
   obtain⟨⟨a,c,rfl,rfl⟩,h1,_⟩:=rcM I le (A:=A) (f:=eqM n) (fun d1 d2 b x y v u q1 w1 q2 w2 e=>Zpm I le n A.in1 d1 d2 b x y v u (by have:A.in1.units=A.units+1:=rfl;omega) q1 w1 q2 w2 e) (RepN.of r1) v1 (RepN.of r2) v2 e (by omega) hf'
   by_cases hac:a=c
   ·subst hac
    rw[Zhb I le (n+1) d1 d2 b x y _ r1 v1 r2 v2 e]
    exact SeqAt.EqAt.same _
   ·exact SeqAt.EqAt.of_refs hac h1
noncomputable def rEqM(K:PySem.W.Frag)(neg:Bool):R2:=fun x y H Q=>∃F d1 d2 b,Same F H∧RepN K F H d1 x∧RepN K F H d2 y∧eqM 48 d1 d2=some b∧(Zao x=false∨Zao y=false)∧Q (.bl (if neg then !b else b)) H
theorem Ztw(hu:X.A.units+64<cLine):OpR X (compareOp .Eq) (rEqM X.K false):=by
 intro pins s σ H x y v u Q I rx ry h
 obtain⟨F,d1,d2,b,le,r1,r2,e,hf,q⟩:=h
 obtain⟨_,h1,_⟩:=rcM I le (A:=X.A) (f:=eqM 47) (fun d1 d2 b x y v u q1 w1 q2 w2 e=>Zpm I le 47 X.A.in1 d1 d2 b x y v u (by have:X.A.in1.units=X.A.units+1:=rfl;omega) q1 w1 q2 w2 e) r1 rx r2 ry e (by omega) hf
 exact h1 X.prog X.w X.xe _ ⟨.bl b,H,I,rfl,q⟩
theorem Zzr(hu:X.A.units+64<cLine):OpR X (compareOp .NotEq) (rEqM X.K true):=by
 intro pins s σ H x y v u Q I rx ry h
 obtain⟨F,d1,d2,b,le,r1,r2,e,hf,q⟩:=h
 obtain⟨_,_,h1⟩:=rcM I le (A:=X.A) (f:=eqM 47) (fun d1 d2 b x y v u q1 w1 q2 w2 e=>Zpm I le 47 X.A.in1 d1 d2 b x y v u (by have:X.A.in1.units=X.A.units+1:=rfl;omega) q1 w1 q2 w2 e) r1 rx r2 ry e (by omega) hf
 exact h1 X.prog X.w X.xe _ ⟨.bl !b,H,I,rfl,q⟩
end
end DL
namespace DL
open PySem PySem.Spec PyProof.Rows L2
variable{K:PySem.W.Frag}
@[simp] noncomputable def eqY(d1 d2:D):Option SV:=if d1.isFlat=true∧d2.isFlat=true then eqD d1 d2 else(eqM 48 d1 d2).bind fun b=>some (.fz (.bl b))
@[simp] noncomputable def neY(d1 d2:D):Option SV:=if d1.isFlat=true∧d2.isFlat=true then neD d1 d2 else(eqM 48 d1 d2).bind fun b=>some (.fz (.bl !b))
@[simp] noncomputable def inY(d1 d2:D):Option SV:=match d1,d2 with
 | .non,.dK _ _=>some (.fz (.bl false))
 |_,_=>inX d1 d2
@[simp] noncomputable def Zpn(d1 d2:D):Option SV:=match d1,d2 with
 | .non,.dK _ _=>some (.fz (.bl true))
 |_,_=>Zpf d1 d2
section
variable{Z:Ent K}
theorem Zpo{F H:Hp}{d1 d2:D}{x y:V}(r1:RepN K F H d1 x)(r2:RepN K F H d2 y)(hf:¬(d1.isFlat=true∧d2.isFlat=true)):Zao x=false∨Zao y=false:=by
 cases h1:d1.isFlat with
 |false=>exact .inl (Zgk r1 h1)
 |true=>cases h2:d2.isFlat with
  |false=>exact .inr (Zgk r2 h2)
  |true=>exact absurd ⟨h1,h2⟩ hf
theorem Zzs:Zaq Z (fun x y H Q=>rEq x y H Q∨rEqM K false x y H Q) eqY:=by
 intro F H σ δ own x y d1 d2 sv Q s r1 r2 e k
 unfold eqY at e
 split at e
 ·exact .inl (p_eq F H σ δ own x y d1 d2 sv Q s r1 r2 e k)
 ·rename_i hf
  obtain⟨b,e1,e2⟩:=Option.bind_eq_some_iff.mp e
  cases e2
  exact .inr ⟨F,d1,d2,b,s.le,r1,r2,e1,Zpo r1 r2 hf,k.fz s (.bl _)⟩
theorem Z27:Zaq Z (fun x y H Q=>rNe x y H Q∨rEqM K true x y H Q) neY:=by
 intro F H σ δ own x y d1 d2 sv Q s r1 r2 e k
 unfold neY at e
 split at e
 ·exact .inl (p_ne F H σ δ own x y d1 d2 sv Q s r1 r2 e k)
 ·rename_i hf
  obtain⟨b,e1,e2⟩:=Option.bind_eq_some_iff.mp e
  cases e2
  exact .inr ⟨F,d1,d2,b,s.le,r1,r2,e1,Zpo r1 r2 hf,k.fz s (.bl _)⟩
theorem Z28:Zaq Z (fun x y H Q=>((∃i j,x= .str i∧y= .str j∧Q (.bl (!(Builtin.Str.occurrences j i 0 j.length 1).isEmpty)) H)∨rDIn x y H Q)∨Zgm false x y H Q) inY:=by
 intro F H σ δ own x y d1 d2 sv Q s r1 r2 e k
 unfold inY at e
 split at e
 ·cases e
  obtain⟨a,kvs,rfl,ha,_,_⟩:=r2.dK s.le
  exact .inr ⟨a,kvs,r1.non,rfl,ha.rd,k.fz s (.bl _)⟩
 ·exact .inl (Z23 F H σ δ own x y d1 d2 sv Q s r1 r2 e k)
theorem Zsf:Zaq Z (fun x y H Q=>((∃i j,x= .str i∧y= .str j∧Q (.bl (!(!(Builtin.Str.occurrences j i 0 j.length 1).isEmpty))) H)∨Zfp x y H Q)∨Zgm true x y H Q) Zpn:=by
 intro F H σ δ own x y d1 d2 sv Q s r1 r2 e k
 unfold Zpn at e
 split at e
 ·cases e
  obtain⟨a,kvs,rfl,ha,_,_⟩:=r2.dK s.le
  exact .inr ⟨a,kvs,r1.non,rfl,ha.rd,k.fz s (.bl _)⟩
 ·exact .inl (Zsb F H σ δ own x y d1 d2 sv Q s r1 r2 e k)
end
section
variable{X:Cx}{Z:Ent X.K}{a b c:Expr}{fa fb fc:FE}{pos:Pos}
theorem Zzt(hv:X.A.units+64<cLine)(ha:PE X a (Ze Z fa))(hb:PE X b (Ze Z fb)):PE X (.Compare a [.Eq] [b] pos) (Ze Z (binF eqY fa fb)):=Zvs (Zx5.or (Ztw hv)) Zzs ha hb (Zh3 _)
theorem Zkj(hv:X.A.units+64<cLine)(ha:PE X a (Ze Z fa))(hb:PE X b (Ze Z fb)):PT X (.Compare a [.Eq] [b] pos) (Zbb Z (Zal (binF eqY fa fb))):=Zox (Zx5.or (Ztw hv)) Zzs ha hb (Zh3 _)
theorem Zmz(hv:X.A.units+64<cLine)(ha:PE X a (Ze Z fa))(hb:PE X b (Ze Z fb)):PT X (.Compare a [.NotEq] [b] pos) (Zbb Z (Zal (binF neY fa fb))):=Zox (Z14.or (Zzr hv)) Z27 ha hb (Zh3 _)
end
end DL
namespace DL
open PySem PySem.Spec PyProof.Rows L2
variable{K:PySem.W.Frag}
section
variable{Z:Ent K}{H:Hp}{σ:L2.St}{Q:VK}{E:Ends}
@[simp] noncomputable def Z6b:FE:=fun δ=>some (.tmp (.oN [] []),δ)
@[simp] noncomputable def Z6c(i j:Nat):FS:=fun δ=>match δ[i]?,δ[j]? with
 |some (some (.oN ks xss)),some (some (.fz kd))=>kd.key?.bind fun k=>if(ks.any fun x=>decide (x=k))=false∧xss.length<PySem.sizeLine then some (.nx (δ.set i (some (.oN (ks++[k]) (xss++[[]])))))else none
 |_,_=>none
end
@[simp] noncomputable def Ztx:List Key→Key→Option Nat
 | [],_=>none
 |a::r,k=>if a=k then some 0 else(Ztx r k).map (· +1)
section
variable{Z:Ent K}{H:Hp}{σ:L2.St}{Q:VK}{E:Ends}
@[simp] noncomputable def Z6d(i j:Nat)(fe:FE):FS:=fun δ=>match δ[i]?,δ[j]? with
 |some (some (.oN ks _)),some (some (.fz kd))=>kd.key?.bind fun k=>(Ztx ks k).bind fun p=>(fe δ).bind fun q=>(frz q.1 q.2).bind fun r=>match r.2[i]? with
  |some (some (.oN ks' xss))=>if ks'=ks then(xss[p]?).bind fun xs=>if xs.length<PySem.sizeLine then some (.nx (r.2.set i (some (.oN ks (xss.set p (xs++[r.1]))))))else none else none
  |_=>none
 |_,_=>none
end
end DL
namespace DL
open PySem PySem.Spec PyProof.Rows L2
variable{K:PySem.W.Frag}
section
variable{Z:Ent K}{H:Hp}{σ:L2.St}{E:Ends}
@[simp] noncomputable def retZ(fe:FE):FS:=fun δ=>(fe δ).bind fun p=>(frz p.1 p.2).bind fun q=>some (.rt (.fz q.1))
end
section
variable{X:Cx}{Z:Ent X.K}{a b c:Expr}{fa fb fc:FE}{pos:Pos}
end
end DL
namespace L2
open PySem PySem.Spec PyProof.Rows
variable{X:Cx}
noncomputable def Z29(K:PySem.W.Frag):V→List V→Hp→VK→Prop:=fun x xs H Q=>∃p ys y j,x= .ref p∧xs=[y]∧SqL K H p ys∧Zao y=true∧ys.all Zao=true∧(ys.findIdx? fun z=>eqV z y)=some j∧Q (.int (j:Nat)) H
noncomputable def Z3a:V→List V→Hp→VK→Prop:=fun x xs H Q=>∃a b i rest,x= .str a∧xs=[.str b]∧Builtin.Str.occurrences a b 0 a.length 1=i::rest∧Q (.int (i:Nat)) H
noncomputable def Z3b:V→List V→Hp→VK→Prop:=fun x xs H Q=>∃a b,x= .str a∧xs=[.str b]∧a.length≤sizeLine∧Q (.str (Txt.rstripChars a b)) H
noncomputable def Zzu:R2:=fun x y H Q=>∃a k,x= .str a∧y= .int k∧MulOk a k∧Q (.str (Txt.mul a k)) H
theorem Zv9:OpR X (binaryOp .Mult) Zzu:=by
 intro pins s σ H x y v u Q I rx ry h
 obtain⟨a,k,rfl,rfl,hm,q⟩:=h
 obtain⟨t,rfl⟩:=rx
 obtain⟨t',rfl⟩:=ry
 exact SB.mul hm fun t' k=>⟨.str _,H,I.tok _,⟨_,rfl⟩,q⟩
end L2
namespace DL
open PySem PySem.Spec PyProof.Rows L2
variable{K:PySem.W.Frag}
@[simp] noncomputable def D.fv:D→V
 | .bl b=>.bl b
 | .int i=>.int i
 | .str x=>.str x
 |_=>.non
theorem Zwa{F H:Hp}{d:D}{x:V}(r:RepN K F H d x)(h:d.isFlat=true):x=d.fv∧Zao x=true:=by
 cases d with
 |non=>rw[r.non];exact⟨rfl,rfl⟩
 |bl b=>rw[r.bl];exact⟨rfl,rfl⟩
 |int i=>rw[r.int];exact⟨rfl,rfl⟩
 |str y=>rw[r.str];exact⟨rfl,rfl⟩
 |_=>cases h
theorem Zpp{F:Hp}:∀{ds:List D} {vs:List V},Reps K F ds vs→ds.all D.isFlat=true→vs=ds.map D.fv∧vs.all Zao=true
 |_,_,.nil,_=>⟨rfl,rfl⟩
 |_,_,.cons h t,e=>by
  rw[List.all_cons,Bool.and_eq_true]at e
  obtain⟨a1,a2⟩:=Zwa (H:=F) (RepN.of h) e.1
  obtain⟨b1,b2⟩:=Zpp t e.2
  refine⟨by rw[List.map_cons,←a1,←b1],by rw[List.all_cons,a2,b2];rfl⟩
noncomputable def eqFl(y x:D):Bool:=eqV y.fv x.fv
@[simp] theorem Zlq(a b:Str):eqFl (.str a) (.str b)=decide (a=b):=by
 show(a==b)=decide (a=b)
 by_cases h:a=b
 ·subst h;simp
 ·rw[decide_eq_false h];exact beq_eq_false_iff_ne.mpr h
@[simp] theorem Z3c(a b:Bool):eqFl (.bl a) (.bl b)=decide (a=b):=by cases a<;> cases b<;> rfl
@[simp] theorem Z1p:eqFl .non .non=true:=rfl
@[simp] theorem Z3d(a:Str):eqFl (.str a) .non=false:=rfl
noncomputable def inFl(x:D)(xs:List D):Bool:=xs.any fun y=>eqFl y x
theorem Zpq{d:D}{ds:List D}:inV d.fv (ds.map D.fv)=inFl d ds:=by
 unfold inV inFl
 rw[List.any_map];rfl
noncomputable def D.seq?:D→Option (List D)
 | .lst xs=>some xs
 | .tup xs=>some xs
 |_=>none
@[simp] theorem Z3e(xs:List D):D.seq? (.lst xs)=some xs:=rfl
@[simp] theorem Z3f(xs:List D):D.seq? (.tup xs)=some xs:=rfl
@[simp] theorem Z3g(x:Str):D.seq? (.str x)=none:=rfl
@[simp] theorem Z45(ks:List Key)(vs:List D):D.seq? (.dK ks vs)=none:=rfl
@[simp] theorem Z46(ks:List (List Key))(vs:List D):D.seq? (.dT ks vs)=none:=rfl
@[simp] noncomputable def inZ(d1 d2:D):Option SV:=match d2.seq? with
 |some xs=>if d1.isFlat=true∧xs.all D.isFlat=true then some (.fz (.bl (inFl d1 xs)))else none
 |none=>inY d1 d2
@[simp] noncomputable def Zlr(d1 d2:D):Option SV:=match d2.seq? with
 |some xs=>if d1.isFlat=true∧xs.all D.isFlat=true then some (.fz (.bl (!inFl d1 xs)))else none
 |none=>Zpn d1 d2
section
variable{Z:Ent K}{H:Hp}{σ:L2.St}{Q:VK}{E:Ends}
theorem Zty{F:Hp}{d:D}{x:V}{xs:List D}(le:Same F H)(r:RepN K F H d x)(h:d.seq? =some xs):∃a vs,x= .ref a∧(SqL K H a vs∨SqT K H a vs)∧Reps K F xs vs:=by
 cases d with
 |lst ys=>cases h;obtain⟨a,vs,e,q,rr⟩:=r.lst le;exact⟨a,vs,e,.inl q,rr⟩
 |tup ys=>cases h;obtain⟨a,vs,e,q,rr⟩:=r.tup le;exact⟨a,vs,e,.inr q,rr⟩
 |_=>cases h
theorem Zzv:Zaq Z (fun x y H Q=>(((∃i j,x= .str i∧y= .str j∧Q (.bl (!(Builtin.Str.occurrences j i 0 j.length 1).isEmpty)) H)∨rDIn x y H Q)∨Zgm false x y H Q)∨rIn K false x y H Q) inZ:=by
 intro F H σ δ own x y d1 d2 sv Q s r1 r2 e k
 unfold inZ at e
 split at e
 ·rename_i xs hx
  split at e
  ·rename_i hf
   cases e
   obtain⟨a,vs,rfl,hq,rr⟩:=Zty s.le r2 hx
   obtain⟨e1,f1⟩:=Zwa r1 hf.1
   obtain⟨e2,f2⟩:=Zpp rr hf.2
   refine .inr ⟨a,vs,rfl,hq,f1,f2,?_⟩
   rw[e1,e2,Zpq]
   exact k.fz s (.bl _)
  ·cases e
 ·exact .inl (Z28 F H σ δ own x y d1 d2 sv Q s r1 r2 e k)
theorem Zsg:Zaq Z (fun x y H Q=>(((∃i j,x= .str i∧y= .str j∧Q (.bl (!(!(Builtin.Str.occurrences j i 0 j.length 1).isEmpty))) H)∨Zfp x y H Q)∨Zgm true x y H Q)∨rIn K true x y H Q) Zlr:=by
 intro F H σ δ own x y d1 d2 sv Q s r1 r2 e k
 unfold Zlr at e
 split at e
 ·rename_i xs hx
  split at e
  ·rename_i hf
   cases e
   obtain⟨a,vs,rfl,hq,rr⟩:=Zty s.le r2 hx
   obtain⟨e1,f1⟩:=Zwa r1 hf.1
   obtain⟨e2,f2⟩:=Zpp rr hf.2
   refine .inr ⟨a,vs,rfl,hq,f1,f2,?_⟩
   rw[e1,e2,Zpq]
   exact k.fz s (.bl _)
  ·cases e
 ·exact .inl (Zsf F H σ δ own x y d1 d2 sv Q s r1 r2 e k)
@[simp] noncomputable def Z47:List D→Option SV
 | [.lst xs,x]=>if x.isFlat=true∧xs.all D.isFlat=true then(xs.findIdx? fun y=>eqFl y x).bind fun j=>some (.fz (.int (j:Nat)))else none
 |_=>none
@[simp] noncomputable def Z3h:List D→Option SV
 | [.str a,.str b]=>match Builtin.Str.occurrences a b 0 a.length 1 with
  |i::_=>some (.fz (.int (i:Nat)))
  | []=>none
 |_=>none
@[simp] noncomputable def Z3i:List D→Option SV
 | [.str a,.str b]=>if a.length≤PySem.sizeLine then some (.fz (.str (Txt.rstripChars a b)))else none
 |_=>none
open Classical in
noncomputable def mulS(a:Str)(k:Int):Option SV:=if MulOk a k then some (.fz (.str (Txt.mul a k)))else none
theorem Zwb{a:Str}{k:Int}(h:MulOk a k):mulS a k=some (.fz (.str (Txt.mul a k))):=by unfold mulS;rw[if_pos h]
theorem Zwc{a:Str}{k:Int}{sv:SV}(h:mulS a k=some sv):MulOk a k∧sv= .fz (.str (Txt.mul a k)):=by
 unfold mulS at h
 split at h
 ·rename_i hm;cases h;exact⟨hm,rfl⟩
 ·cases h
noncomputable def Zwd(i j:Int):Prop:=cMul i j=true
open Classical in
noncomputable def mulI(i j:Int):Option SV:=if Zwd i j then some (.fz (.int (i*j)))else none
theorem Zwe{i j:Int}{sv:SV}(h:mulI i j=some sv):mulD (.int i) (.int j)=some sv:=by
 unfold mulI at h
 split at h
 ·rename_i hc
  cases h
  unfold Zwd at hc
  simp[hc]
 ·cases h
theorem Ztz{i j:Int}(h:-(2^64)<j∧j<2^64):mulI i j=some (.fz (.int (i*j))):=by
 unfold mulI
 rw[if_pos]
 unfold Zwd cMul
 rw[decide_eq_true h.1,decide_eq_true h.2];simp
noncomputable def mulZ:D→D→Option SV
 | .str a,.int k=>mulS a k
 | .int i,.int j=>mulI i j
 |_,_=>none
@[simp] theorem Z3j(a:Str)(k:Int):mulZ (.str a) (.int k)=mulS a k:=rfl
@[simp] theorem Z3k(i j:Int):mulZ (.int i) (.int j)=mulI i j:=rfl
theorem Zzw:Zaq Z (fun x y H Q=>rI CMul (fun i j=>V.int (i*j)) x y H Q∨Zzu x y H Q) mulZ:=by
 intro F H σ δ own x y d1 d2 sv Q s r1 r2 e k
 unfold mulZ at e
 split at e
 ·obtain⟨hm,rfl⟩:=Zwc e
  exact .inr ⟨_,_,r1.str,r2.int,hm,k.fz s (.str _)⟩
 ·exact .inl (Z2r F H σ δ own x y _ _ sv Q s r1 r2 (Zwe e) k)
 ·cases e
@[simp] noncomputable def strD:List D→Option SV
 | [.int i]=>if i.natAbs.log2<1920 then some (.fz (.str (toString i)))else none
 |_=>none
@[simp] noncomputable def Z3l(kd d:D):Option (Option SV)→Option SV
 |some (some (.ol xs))=>match kd with
  | .int i=>(ixN xs.length i).bind fun j=>some (.ol (xs.set j d))
  |_=>none
 |_=>none
@[simp] noncomputable def SV.isOL:Option (Option SV)→Bool
 |some (some (.ol _))=>true
 |_=>false
@[simp] noncomputable def Z6e(i:Nat)(fk fv:FE):FS:=fun δ=>(fv δ).bind fun p=>(frz p.1 p.2).bind fun q=>if SV.isOL (q.2[i]?)=true then(fk q.2).bind fun r=>(rdv r.1 r.2).bind fun kd=>(Z3l kd q.1 (r.2[i]?)).bind fun sv=>some (.nx (r.2.set i (some sv)))else none
@[simp] noncomputable def SV.ol?:RV→Option (List D)
 | .tmp (.ol ys)=>some ys
 |_=>none
@[simp] noncomputable def extF(i:Nat)(fe:FE):FS:=fun δ=>match δ[i]? with
 |some (some (.ol _))=>(fe δ).bind fun p=>(SV.ol? p.1).bind fun ys=>match p.2[i]? with
  |some (some (.ol xs))=>if xs.length+ys.length≤PySem.sizeLine then some (.nx (p.2.set i (some (.ol (xs++ys)))))else none
  |_=>none
 |_=>none
theorem ol?_ok{rv:RV}{ys:List D}(h:SV.ol? rv=some ys):rv= .tmp (.ol ys):=by
 unfold SV.ol? at h
 split at h
 ·cases h;rfl
 ·cases h
theorem Z3m{i:Nat}{fe:FE}(h:Z9 Z (extF i fe) E σ H):Zul (tBM K "list" Zn4 (tVar i) (Zjr (Ze Z fe) tNil)) E σ H:=by
 obtain⟨F,δ,own,fl,s,e,k⟩:=h
 unfold extF at e
 split at e
 ·rename_i xs0 hx0
  obtain⟨⟨rv,δ1⟩,e1,e2⟩:=Option.bind_eq_some_iff.mp e
  obtain⟨ys,e3,e4⟩:=Option.bind_eq_some_iff.mp e2
  obtain⟨v,hv,sh⟩:=s.at' i _ hx0
  obtain⟨a,vs0,ev,en,r0⟩:=Zcb sh
  refine⟨v,hv,?_,F,δ,own,rv,δ1,s,e1,fun y H1 F1 own1 sH sF s1 r1=>?_⟩
  ·subst ev
   exact .inl ⟨rfl,vs0,.inl (.inl (s.ok i (a,.lst vs0) (by rw[en];exact List.mem_cons_self)).2.2)⟩
  have e5:=ol?_ok e3
  dsimp only at e5 e4
  subst e5
  obtain⟨ns,t⟩:=r1
  obtain⟨c,us,ec,ens,ru⟩:=Zcb t.sh
  have hc:H1 c=some (.lst us):=(t.ok (c,.lst us) (by rw[ens];exact List.mem_cons_self)).2.2
  split at e4
  ·rename_i xs hx
   split at e4
   ·rename_i hz
    cases e4
    obtain⟨v',hv',sh'⟩:=s1.at' i _ hx
    rw[hv]at hv';cases hv'
    obtain⟨b,vs,eb,en',r'⟩:=Zcb sh'
    have mb:(b,HO.lst vs)∈own1 i:=by rw[en'];exact List.mem_cons_self
    subst eb
    refine⟨b,c,vs,us,rfl,by rw[ec],(s1.ok i _ mb).2.2,hc,by rw[←r'.length,←ru.length];exact hz,?_⟩
    exact k σ _ F1 _ sF (s1.change (sv':=.ol (xs++ys)) (o':=.lst (vs++us)) (ns':=[(b,.lst (vs++us))]) hx hv mb (.ol (r'.append ru)) (fun p hp=>.inl (List.mem_singleton.mp hp)) nd1)
   ·cases e4
  ·cases e4
 ·cases e
end
section
variable{X:Cx}{Z:Ent X.K}{a b c:Expr}{fa fb fc:FE}{pos:Pos}
theorem Z3n(hu:X.A.units+1<cLine)(ha:PE X a (Ze Z fa))(hb:PE X b (Ze Z fb))(hm:behindInMarks .In b=false:=by rfl):PE X (.Compare a [.In] [b] pos) (Ze Z (binF inZ fa fb)):=Zvs (((Zh2.or (Zgl hu)).or Ziy).or Zia) Zzv ha hb hm
theorem Zsh(hu:X.A.units+1<cLine)(ha:PE X a (Ze Z fa))(hb:PE X b (Ze Z fb))(hm:behindInMarks .NotIn b=false:=by rfl):PE X (.Compare a [.NotIn] [b] pos) (Ze Z (binF Zlr fa fb)):=Zvs (((Zic.or (Zg7 hu)).or Ziz).or Zib) Zsg ha hb hm
theorem Z3o(hu:X.A.units+1<cLine)(ha:PE X a (Ze Z fa))(hb:PE X b (Ze Z fb))(hm:behindInMarks .In b=false:=by rfl):PT X (.Compare a [.In] [b] pos) (Zbb Z (Zal (binF inZ fa fb))):=Zox (((Zh2.or (Zgl hu)).or Ziy).or Zia) Zzv ha hb hm
theorem Zpr(ha:PE X a (Ze Z fa))(hb:PE X b (Ze Z fb)):PE X (.BinOp a .Mult b pos) (Ze Z (binF mulZ fa fb)):=Zow (Zx3.or Zv9) Zzw ha hb
theorem Z3p(i:Nat){x:Str}{px apos cpos:Pos}(hb:PE X b (Ze Z fb))(hN:X.N[i]? =some x:=by rfl)(hv:Vis X.env.scope x:=by first|exact Or.inl rfl|exact Or.inr (Or.inl rfl)|exact Or.inr (Or.inr rfl))(hd:(x==("__debug__":Str))=false:=by decide)
  (hcd:(x==("__classdict__":Str))=false:=by decide) (hbase:attributeBase (.Name x px) "extend" X.env (eval (.Name x px) X.env)=eval (.Name x px) X.env:=by rfl)
  (hfew:((backTo cpos (starEach [b] X.env)).all (fun x=>!x.1)&&(backToKw cpos (keywordEach [] X.env)).all (fun x=>x.1.isSome)&&decide ([b].length+([]:List Keyword).length+(if([]:List Keyword).isEmpty then 0 else 1)<30))=true:=by rfl)
  (hline:(apos.endLine==cpos.line)=true:=by rfl) (hs:starEach [b] X.env=(false,eval b X.env)::starEach [] X.env:=by rfl) (hpl:(backTo cpos (starEach [] X.env)).any (·.1)=false:=by rfl) (hsw:swapsWith (.Call (.Attribute (.Name x px) "extend" apos) [b] [] cpos) none pos.line X.env=pure false:=by rfl):
  PS X (.Expr (.Call (.Attribute (.Name x px) "extend" apos) [b] [] cpos) pos) (Z9 Z (extF i fb)):=
 (Zno (Zju PySem.F.plainAttrs_list PySem.F.slot_list_extend PySem.F.type_list_extend Zn5 (Zh0 (i:=i) hN hv hd hcd) (Za5 hb Zdt hs) hbase hfew hline hs hpl) hsw).imp fun _ _ _ h=>Z3m h
end
end DL
namespace DL
open PySem PySem.Spec PyProof.Rows L2
end DL
namespace DL
open PySem PySem.Spec PyProof.Rows L2
variable{K:PySem.W.Frag}
section
variable{Z:Ent K}{H:Hp}{σ:L2.St}{Q:Bool→Hp→Prop}
@[simp] noncomputable def Z6f(f:FT):FT:=fun δ=>(f δ).bind fun p=>some (p.1,δ)
end
section
variable{X:Cx}{Z:Ent X.K}{a:Expr}{ft:FT}
end
end DL
namespace DL
open PySem PySem.Spec PyProof.Rows L2
variable{K:PySem.W.Frag}
noncomputable def repP(n:Nat)(k:Int):Prop:=-(2^63)≤k∧k<2^63∧n*k.toNat≤PySem.sizeLine
section
variable{Z:Ent K}{H:Hp}{σ:L2.St}{Q:VK}
open Classical in
noncomputable def repI(xs:List D):D→Option SV
 | .int k=>if repP xs.length k then some (.ol (List.replicate k.toNat xs).flatten)else none
 |_=>none
@[simp] theorem Z1q{xs:List D}{k:Int}(h:repP xs.length k):repI xs (.int k)=some (.ol (List.replicate k.toNat xs).flatten):=by
 unfold repI;dsimp only;rw[if_pos h]
@[simp] noncomputable def repF(fa fb:FE):FE:=fun δ=>(fa δ).bind fun p=>(SV.ol? p.1).bind fun xs=>(fb p.2).bind fun q=>(rdv q.1 q.2).bind fun d=>(repI xs d).bind fun sv=>some (.tmp sv,q.2)
end
section
variable{X:Cx}{Z:Ent X.K}{a b:Expr}{fa fb:FE}{pos:Pos}
end
end DL
namespace DL
open PySem PySem.Spec PyProof.Rows L2
variable{K:PySem.W.Frag}
section
variable{Z:Ent K}
@[simp] noncomputable def slT:D→Option Int→Option Int→Option SV
 | .tup xs,lo,hi=>if¬(HT.sIx xs.length 0 lo=0∧HT.sIx xs.length xs.length hi=xs.length)then some (.fz (.tup (cutD xs lo hi)))else none
 |_,_,_=>none
end
section
variable{X:Cx}{Z:Ent X.K}{a:Expr}{fa:FE}{pos:Pos}
end
end DL
namespace DL
open PySem L2
variable{K:PySem.W.Frag}
inductive RX where
 |v (rv:RV) (δ:DSt)|x (e:Exn) (δ:DSt)
inductive RL(α:Type)where
 |v (xs:List α) (δ:DSt)|x (e:Exn) (δ:DSt)
noncomputable abbrev FX:=DSt→Option RX
noncomputable abbrev FAX:=DSt→Option (RL RV)
noncomputable abbrev FDX:=DSt→Option (RL D)
noncomputable def XOk(Z:Ent K)(F:Hp)(σ:St)(e:Exn)(δ:DSt):Prop:=∀H' F' own' cls od,Same F F'→SR Z F' H' σ δ own'→Zlc K F' e cls od→Z.x cls od σ H'
theorem XOk.mono{Z:Ent K}{F F':Hp}{σ:St}{e:Exn}{δ:DSt}(s:Same F F')(h:XOk Z F σ e δ):XOk Z F' σ e δ:=fun H2 F2 own cls od a=>h H2 F2 own cls od (s.trans a)
noncomputable def Zfr(Z:Ent K)(f:FX):TE:=fun σ H Q=>∃F δ own r,SR Z F H σ δ own∧f δ=some r∧match r with
 | .v rv δ'=>∀v H' F' own',Same H H'→Same F F'→SR Z F' H' σ δ' own'→Zol Z F' H' σ own' rv v→Q v H'
 | .x e δ'=>XOk Z F σ e δ'
noncomputable def Zep(Z:Ent K)(f:FAX):TA:=fun σ H Q=>∃F δ own r,SR Z F H σ δ own∧f δ=some r∧match r with
 | .v rvs δ'=>∀vs H' F' own',Same H H'→Same F F'→SR Z F' H' σ δ' own'→RVSs K F' σ rvs vs→Q vs H'
 | .x e δ'=>XOk Z F σ e δ'
noncomputable def Z48(Z:Ent K)(f:FDX):TA:=fun σ H Q=>∃F δ own r,SR Z F H σ δ own∧f δ=some r∧match r with
 | .v ds δ'=>∀vs H' F' own',Same H H'→Same F F'→SR Z F' H' σ δ' own'→Reps K F' ds vs→Q vs H'
 | .x e δ'=>XOk Z F σ e δ'
@[simp] noncomputable def FX.val(f:FX):FE:=fun δ=>match f δ with
 |some (.v rv δ')=>some (rv,δ')
 |_=>none
section
variable{Z:Ent K}{H:Hp}{σ:St}{Q:VK}{E:Ends}
theorem Zsi{f:FX}(h:Ze Z f.val σ H Q):Zfr Z f σ H Q:=by
 obtain⟨F,δ,own,rv,δ',s,e,k⟩:=h
 unfold FX.val at e
 split at e
 ·rename_i rv' δ2 hf
  cases e
  exact⟨F,δ,own,_,s,hf,k⟩
 ·cases e
theorem Zsj{f:FX}{F:Hp}{δ δ':DSt}{own:Nat→Zw}{x:Exn}(s:SR Z F H σ δ own)(hf:f δ=some (.x x δ'))(k:XOk Z F σ x δ'):Zfr Z f σ H Q:=⟨F,δ,own,_,s,hf,k⟩
@[simp] noncomputable def Zwf(fe:FE):FX:=fun δ=>(fe δ).bind fun p=>some (.v p.1 p.2)
theorem Zwg{fe:FE}(h:Zfr Z (Zwf fe) σ H Q):Ze Z fe σ H Q:=by
 obtain⟨F,δ,own,r,s,e,k⟩:=h
 obtain⟨⟨rv,δ'⟩,e1,e2⟩:=Option.bind_eq_some_iff.mp e
 cases e2
 exact⟨F,δ,own,rv,δ',s,e1,k⟩
@[simp] noncomputable def Zkk:FAX:=fun δ=>some (.v [] δ)
@[simp] noncomputable def Zhc(fx:FX)(fa:FAX):FAX:=fun δ=>(fx δ).bind fun
 | .v rv δ1=>(fa δ1).bind fun
  | .v rvs δ2=>some (.v (rv::rvs) δ2)
  | .x e δ2=>some (.x e δ2)
 | .x e δ1=>some (.x e δ1)
theorem Zps{R:List V→Hp→Prop}(h:Zep Z Zkk σ H R):tNil σ H R:=by
 obtain⟨F,δ,own,r,s,e,k⟩:=h
 cases e
 exact k [] H F own (Same.refl H) (Same.refl F) s .nil
theorem Zm0{fx:FX}{fa:FAX}{R:List V→Hp→Prop}(h:Zep Z (Zhc fx fa) σ H R):Zjr (Zfr Z fx) (Zep Z fa) σ H R:=by
 obtain⟨F,δ,own,r,s,e,k⟩:=h
 obtain⟨r1,e1,e2⟩:=Option.bind_eq_some_iff.mp e
 cases r1 with
 |x x1 δ1=>cases e2;exact⟨F,δ,own,_,s,e1,k⟩
 |v rv δ1=>
  obtain⟨r2,e3,e4⟩:=Option.bind_eq_some_iff.mp e2
  refine⟨F,δ,own,_,s,e1,fun v H1 F1 own1 sH sF s1 r1=>?_⟩
  obtain⟨F2,sF2,s2,rr⟩:=s1.settleR r1
  cases r2 with
  |x x2 δ2=>cases e4;exact⟨F2,δ1,own1,_,s2,e3,XOk.mono (sF.trans sF2) k⟩
  |v rvs δ2=>
   cases e4
   exact⟨F2,δ1,own1,_,s2,e3,fun vs H3 F3 own3 sH3 sF3 s3 r3=>k _ H3 F3 own3 (sH.trans sH3) (sF.trans (sF2.trans sF3)) s3 (.cons (rr.mono sF3) r3)⟩
@[simp] noncomputable def Z1r:FDX:=fun δ=>some (.v [] δ)
@[simp] noncomputable def Zzx(fx:FX)(fd:FDX):FDX:=fun δ=>(fx δ).bind fun
 | .v rv δ1=>(frz rv δ1).bind fun q=>(fd q.2).bind fun
  | .v ds δ2=>some (.v (q.1::ds) δ2)
  | .x e δ2=>some (.x e δ2)
 | .x e δ1=>some (.x e δ1)
@[simp] noncomputable def tupX(fd:FDX):FX:=fun δ=>(fd δ).bind fun
 | .v ds δ1=>if ds.length≤PySem.sizeLine then some (.v (.tmp (.fz (.tup ds))) δ1)else none
 | .x e δ1=>some (.x e δ1)
@[simp] noncomputable def Z6g(g:List D→Option SV)(fa:FAX):FX:=fun δ=>(fa δ).bind fun
 | .v rvs δ1=>(Zdj rvs δ1).bind fun ds=>(g ds).bind fun sv=>some (.v (.tmp sv) δ1)
 | .x e δ1=>some (.x e δ1)
@[simp] noncomputable def binX(g:D→D→Option SV)(fa fb:FX):FX:=fun δ=>(fa δ).bind fun
 | .x e δ1=>some (.x e δ1)
 | .v r1 δ1=>(fb δ1).bind fun
  | .x e δ2=>some (.x e δ2)
  | .v r2 δ2=>(rdv r1 δ2).bind fun d1=>(rdv r2 δ2).bind fun d2=>(g d1 d2).bind fun sv=>some (.v (.tmp sv) δ2)
end
inductive XO where
 |v (sv:SV)|x (e:Exn)
noncomputable def spX(K:PySem.W.Frag)(n:Nat)(g:List D→Option XO):Sp:=fun vs H Q E=>∃F ds o,Same F H∧Reps K F ds vs∧ds.length=n∧g ds=some o∧match o with
 | .v sv=>∀v H' F' ns,Same H H'→Same F F'→Same F' H'→(∀(b:Addr) (o:HO),F' b=some o→F b=some o∨H b=none)→Shape K F' sv v ns→(adr ns).Nodup→(∀p∈ns,F' p.1=none∧H p.1=none∧H' p.1=some p.2)→Q v H'
 | .x e=>∀cls od H' F',Same H H'→Same F F'→Same F' H'→(∀(b:Addr) (o:HO),F' b=some o→F b=some o∨H b=none)→Zlc K F' e cls od→E cls od H'
theorem Zwh{n:Nat}{g:List D→Option XO}{vs:List V}{H:Hp}{Q:VK}{E:XK}(h:spX K n g vs H Q E):vs.length=n:=by
 obtain⟨F,ds,o,le,r,hn,e,k⟩:=h
 rw[←r.length];exact hn
@[simp] noncomputable def outX(f:FS)(n:Nat)(ds:List D):Option XO:=match f (Zgj n ds)with
 |some (.rt sv)=>some (.v sv)
 |some (.nx _)=>some (.v (.fz .non))
 |some (.ex e _)=>some (.x e)
 |_=>none
@[simp] noncomputable def valG(h:List D→Option XO)(ds:List D):Option SV:=match h ds with
 |some (.v sv)=>some sv
 |_=>none
noncomputable abbrev entX(H F:Hp)(E:XK):Ent K:=⟨H,F,fun cls od _ H'=>E cls od H'⟩
theorem SR.ent{Z Y:Ent K}{F H:Hp}{σ:St}{δ:DSt}{own:Nat→Zw}(s:SR Z F H σ δ own)(h1:Z.h=Y.h:=by rfl)(h2:Z.f=Y.f:=by rfl):SR Y F H σ δ own:=
 ⟨s.le,h1▸h2▸s.fro,h1▸s.old,s.len,s.at',s.nod,fun i p hp=>h1▸s.ok i p hp,s.sep⟩
theorem Zpt{N:List Str}{n:Nat}{f:FS}{vs:List V}{H:Hp}{Q:VK}{E:XK}(h:spX K n (outX f N.length) vs H Q E):∃F,Z9 (entX H F E:Ent K) f {nx:=fun _ H'=>Q .non H',rt:=Q} (L2.start N vs) H:=by
 obtain⟨F,ds,o,le,r,hn,e,k⟩:=h
 have s0:SR (entX H F E:Ent K) F H (L2.start N vs) (Zgj N.length ds) fun _=>[]:=(Zg2 (N:=N) le r).ent
 unfold outX at e
 split at e
 ·rename_i sw hf
  cases e
  exact⟨F,F,_,_,.rt sw,s0,hf,fun v H' F' ns a b c d e' nd ok=>k v H' F' ns d a b c e' nd ok⟩
 ·rename_i δ hf
  cases e
  exact⟨F,F,_,_,.nx δ,s0,hf,fun σ' H' F' own' a s'=>k .non H' F' [] s'.old a s'.le s'.fro (.fz .non) List.nodup_nil fun _ h=>(nomatch h)⟩
 ·rename_i x δ hf
  cases e
  exact⟨F,F,_,_,.ex x δ,s0,hf,fun σ' H' F' own' cls od a s' r'=>k cls od H' F' s'.old a s'.le s'.fro r'⟩
 ·cases e
section
variable{Z:Ent K}{H:Hp}{σ:St}{Q:VK}{E:Ends}
theorem SR.behind{F2 H1 F3 H3:Hp}{δ2:DSt}{own2:Nat→Zw}(s2:SR Z F2 H1 σ δ2 own2)(sH3:Same H1 H3)(sF3:Same F2 F3)(le3:Same F3 H3)(fro3:∀(b:Addr) (o:HO),F3 b=some o→F2 b=some o∨H1 b=none):SR Z F3 H3 σ δ2 own2:=by
 refine⟨le3,fun b o e=>?_,s2.old.trans sH3,s2.len,fun i sw ei=>?_,s2.nod,fun i p hp=>?_,s2.sep⟩
 ·rcases fro3 b o e with z|z
  ·exact s2.fro b o z
  ·exact .inr (s2.old.free z)
 ·obtain⟨w,h1,h2⟩:=s2.at' i sw ei
  exact⟨w,h1,h2.mono sF3⟩
 ·obtain⟨a,b,c⟩:=s2.ok i p hp
  refine⟨?_,b,sH3 _ _ c⟩
  cases z:F3 p.1 with
  |none=>rfl
  |some u=>
   rcases fro3 _ u z with y|y
   ·rw[a]at y;cases y
   ·rw[c]at y;cases y
@[simp] noncomputable def Zwi(n:Nat)(g:List D→Option XO)(fa:FAX):FX:=fun δ=>(fa δ).bind fun
 | .x e δ1=>some (.x e δ1)
 | .v rvs δ1=>(DL.frzAll rvs δ1).bind fun q=>if q.1.length=n then(g q.1).bind (fun
  | .v sv=>some (.v (.tmp sv) (if sv.scal then δ1 else q.2))
  | .x e=>some (.x e q.2))else none
theorem Zwj{n:Nat}{g:List D→Option XO}{fa:FAX}(h:Zfr Z (Zwi n g fa) σ H Q):Ztm (spX K n g) Z.x (Zep Z fa) σ H Q:=by
 obtain⟨F,δ,own,rx,s,e,k⟩:=h
 obtain⟨r1,e1,e2⟩:=Option.bind_eq_some_iff.mp e
 cases r1 with
 |x x1 δ1=>cases e2;exact⟨F,δ,own,_,s,e1,k⟩
 |v rvs δ1=>
  obtain⟨⟨ds,δ2⟩,e3,e4⟩:=Option.bind_eq_some_iff.mp e2
  refine⟨F,δ,own,_,s,e1,fun vs H1 F1 own1 sH sF s1 r1=>?_⟩
  obtain⟨F2,own2,sF2,s2,r2⟩:=s1.frzAll (own:=own) (F:=F) (δ:=δ) r1 e3
  by_cases hn:ds.length=n
  ·rw[if_pos hn]at e4
   obtain⟨o,e5,e6⟩:=Option.bind_eq_some_iff.mp e4
   refine⟨F2,ds,o,s2.le,r2,hn,e5,?_⟩
   cases o with
   |x x2=>
    cases e6
    exact fun cls od H3 F3 sH3 sF3 le3 fro3 rr=>k H3 F3 own2 cls od (sF.trans (sF2.trans sF3)) (s2.behind sH3 sF3 le3 fro3) rr
   |v sv=>
    cases e6
    intro v H3 F3 ns sH3 sF3 le3 fro3 sh nd ok
    by_cases hs:sv.scal=true
    ·rw[if_pos hs]at k
     obtain⟨_,sh'⟩:=Zld (F':=F1) hs sh
     exact k v H3 F1 own1 (sH.trans sH3) sF (s1.grow sH3) ⟨[],sh',List.nodup_nil,fun _ h=>(nomatch h),fun _ _ _ h=>(nomatch h)⟩
    ·rw[if_neg hs]at k
     exact k v H3 F3 own2 (sH.trans sH3) (sF.trans (sF2.trans sF3)) (s2.behind sH3 sF3 le3 fro3) ⟨ns,sh,nd,fun p hp=>⟨(ok p hp).1,(s2.old).free (ok p hp).2.1,(ok p hp).2.2⟩,fun i p q hp hq e=>by
      have z:=(s2.ok i q hq).2.2
      rw[←e,(ok p hp).2.1]at z;cases z⟩
  ·rw[if_neg hn]at e4;cases e4
@[simp] noncomputable def Z49(g:List D→Option SV)(ds:List D):Option XO:=(g ds).bind fun sv=>some (.v sv)
@[simp] noncomputable def setX(i:Nat)(fx:FX):FS:=fun δ=>(fx δ).bind fun
 | .v rv δ1=>(stow i rv δ1).bind fun δ'=>some (.nx δ')
 | .x e δ1=>some (.ex e δ1)
theorem XOk.of{F:Hp}{x:Exn}{δ:DSt}(k:Zfe Z F E (.ex x δ)):XOk Z F σ x δ:=fun H' F' own' cls od a b c=>k σ H' F' own' cls od a b c
theorem Zzy{i:Nat}{fx:FX}(h:Z9 Z (setX i fx) E σ H):tAsg (Zfr Z fx) (Znp i) E σ H:=by
 obtain⟨F,δ,own,fl,s,e,k⟩:=h
 obtain⟨r,e1,e2⟩:=Option.bind_eq_some_iff.mp e
 cases r with
 |x x1 δ1=>cases e2;exact Zsj s e1 (.of k)
 |v rv δ1=>exact Zsi (Zyy (Z:=Z) (E:=E) (i:=i) (fe:=fx.val) ⟨F,δ,own,fl,s,by unfold setF FX.val;rw[e1];exact e2,k⟩)
@[simp] noncomputable def retX(fx:FX):FS:=fun δ=>(fx δ).bind fun
 | .v rv δ1=>(outF rv δ1).bind fun sv=>some (.rt sv)
 | .x e δ1=>some (.ex e δ1)
@[simp] noncomputable def Z6h(fx:FX):FS:=fun δ=>(fx δ).bind fun
 | .v _ δ1=>some (.nx δ1)
 | .x e δ1=>some (.ex e δ1)
@[simp] noncomputable def appX(i:Nat)(fx:FX):FS:=fun δ=>match fx δ with
 |some (.x e δ1)=>(match δ[i]? with
  |some (some (.ol _))=>some (.ex e δ1)
  |_=>none)
 |_=>appF i fx.val δ
@[simp] noncomputable def extX(i:Nat)(fx:FX):FS:=fun δ=>match fx δ with
 |some (.x e δ1)=>(match δ[i]? with
  |some (some (.ol _))=>some (.ex e δ1)
  |_=>none)
 |_=>extF i fx.val δ
@[simp] noncomputable def Z5a(c:Str):FS:=fun δ=>some (.ex ⟨c,[],[]⟩ δ)
set_option genInjectivity false in
structure HX where
 x:Str
 np:Pos
 nm:Option (Str×Nat)
 b0:Stmt
 suite:List Stmt
 pos:Pos
 B:Addr
 yes:List Str
 no:List Str
 f:FS
set_option genInjectivity false in
structure HX.Sub(K:PySem.W.Frag)(h:HX):Prop where
 yes:∀c∈h.yes,∀C,Zbu K c C→PySem.W.mroIn K C (.ref h.B)=some true
 no:∀c∈h.no,∀C,Zbu K c C→PySem.W.mroIn K C (.ref h.B)=some false
noncomputable def HX.hd(Z:Ent K)(h:HX):Hd:=⟨h.x,h.np,h.nm,h.b0,h.suite,h.pos,h.B,Z9 Z h.f⟩
set_option genInjectivity false in
structure HF where
 i:Option Nat
 yes:List Str
 no:List Str
 f:FS
@[simp] noncomputable def HX.hf(h:HX):HF:=⟨h.nm.map (·.2),h.yes,h.no,h.f⟩
@[simp] noncomputable def Zsk(c:Str):List HF→Option HF
 | []=>none
 |h::r=>if c∈h.yes then some h else if c∈h.no then Zsk c r else none
theorem Zi2(Z:Ent K){c:Str}{C:Addr}(cl:Zbu K c C):∀(hs:List HX) {f:HF},(∀h∈hs,h.Sub K)→Zsk c (hs.map HX.hf)=some f→∃h:HX,h.hf=f∧Zmo K C (hs.map (HX.hd Z))=some (h.hd Z)
 | [],f,_,e=>nomatch e
 |h::r,f,ok,e=>by
  have e:(if c∈h.yes then some h.hf else if c∈h.no then Zsk c (r.map HX.hf)else none)=some f:=e
  show∃g:HX,g.hf=f∧(match PySem.W.mroIn K C (.ref h.B)with|some true=>some (h.hd Z)|some false=>Zmo K C (r.map (HX.hd Z))|none=>none)=some (g.hd Z)
  have kh:=ok h List.mem_cons_self
  by_cases q:c∈h.yes
  ·rw[if_pos q]at e;cases e;exact⟨h,rfl,by rw[kh.yes c q C cl]⟩
  ·rw[if_neg q]at e
   by_cases q2:c∈h.no
   ·rw[if_pos q2]at e
    obtain⟨g,g1,g2⟩:=Zi2 Z cl r (fun g hg=>ok g (List.mem_cons_of_mem _ hg)) e
    exact⟨g,g1,by rw[kh.no c q2 C cl];exact g2⟩
   ·rw[if_neg q2]at e;cases e
@[simp] noncomputable def Fl.but(i:Nat):Fl→Fl
 | .nx δ=>.nx (δ.set i none)
 | .bk δ=>.bk (δ.set i none)
 | .ct δ=>.ct (δ.set i none)
 | .ex e δ=>.ex e (δ.set i none)
 | .rt sv=>.rt sv
@[simp] noncomputable def Fl.isEx:Fl→Bool
 | .ex _ _=>true
 |_=>false
@[simp] noncomputable def HF.run(h:HF)(x:Exn)(δ:DSt):Option Fl:=match h.i with
 |none=>h.f δ
 |some i=>if i<δ.length then(h.f (δ.set i (some (.fz (.exc x.c x.ks x.vs))))).bind fun fl=>if fl.isEx=true then none else some (fl.but i)else none
@[simp] noncomputable def tryF(fb:FS)(hs:List HF):FS:=fun δ=>(fb δ).bind fun
 | .ex x δ1=>(Zsk x.c hs).bind fun h=>h.run x δ1
 |fl=>some fl
noncomputable abbrev Ent.wish(Z:Ent K)(EX:EXT):Ent K:=⟨Z.h,Z.f,EX⟩
theorem SR.unset{F:Hp}{δ:DSt}{own:Nat→Zw}(s:SR Z F H σ δ own)(i:Nat):SR Z F H (σ.set i none) (δ.set i none) (put own i []):=by
 refine⟨s.le,s.fro,s.old,by rw[List.length_set,List.length_set];exact s.len,fun j sw ej=>?_,fun j=>?_,fun j p hp=>?_,fun j k p q hjk hp hq=>?_⟩
 ·by_cases hj:j=i
  ·subst hj
   have hd:j<δ.length:=by
    have:=(List.getElem?_eq_some_iff.mp ej).1
    simpa using this
   rw[List.getElem?_set_self hd]at ej
   cases ej
  ·rw[List.getElem?_set_ne (Ne.symm hj)]at ej
   rw[Zan hj,List.getElem?_set_ne (Ne.symm hj)]
   exact s.at' j sw ej
 ·by_cases hj:j=i
  ·subst hj;rw[Z5];exact List.nodup_nil
  ·rw[Zan hj];exact s.nod j
 ·by_cases hj:j=i
  ·subst hj;rw[Z5]at hp;exact nomatch hp
  ·rw[Zan hj]at hp;exact s.ok j p hp
 ·by_cases hj:j=i
  ·subst hj;rw[Z5]at hp;exact nomatch hp
  ·by_cases hk:k=i
   ·subst hk;rw[Z5]at hq;exact nomatch hq
   ·rw[Zan hj]at hp
    rw[Zan hk]at hq
    exact s.sep j k p q hjk hp hq
theorem Zsl{F:Hp}{i:Nat}{fl:Fl}(hx:fl.isEx=false)(k:Zfe Z F E (fl.but i)):Zfe Z F (E.but i) fl:=by
 cases fl with
 |nx δ=>exact fun σ' H' F' own' a b=>k (σ'.set i none) H' F' _ a (b.unset i)
 |bk δ=>exact fun σ' H' F' own' a b=>k (σ'.set i none) H' F' _ a (b.unset i)
 |ct δ=>exact fun σ' H' F' own' a b=>k (σ'.set i none) H' F' _ a (b.unset i)
 |rt sv=>exact k
 |ex x δ=>cases hx
theorem Z3q{fb:FS}{hs:List HX}(hsub:∀h∈hs,h.Sub K)(h:Z9 Z (tryF fb (hs.map HX.hf)) E σ H):tTry K (fun EX=>Z9 (Z.wish EX) fb) (hs.map (HX.hd Z)) E σ H:=by
 obtain⟨F,δ,own,fl,s,e,k⟩:=h
 obtain⟨f1,e1,e2⟩:=Option.bind_eq_some_iff.mp e
 refine⟨F,δ,own,f1,s.ent,e1,?_⟩
 cases f1 with
 |nx δ1=>cases e2;exact fun σ' H' F' own' a b=>k σ' H' F' own' a b.ent
 |bk δ1=>cases e2;exact fun σ' H' F' own' a b=>k σ' H' F' own' a b.ent
 |ct δ1=>cases e2;exact fun σ' H' F' own' a b=>k σ' H' F' own' a b.ent
 |rt sv=>cases e2;exact k
 |ex x δ1=>
  obtain⟨hf,e3,e4⟩:=Option.bind_eq_some_iff.mp e2
  intro σ' H' F' own' cls od sF s' r
  obtain⟨C,cl,rc,r2⟩:=r
  obtain⟨g,g1,g2⟩:=Zi2 Z cl hs hsub e3
  subst g1
  refine⟨C,g.hd Z,rc,g2,?_⟩
  have s2:SR Z F' H' σ' δ1 own':=s'.ent
  obtain⟨gx,gnp,gnm,gb0,gsu,gpos,gB,gy,gn,gf⟩:=g
  cases gnm with
  |none=>exact⟨F',δ1,own',fl,s2,e4,k.mono sF⟩
  |some ni=>
   obtain⟨n,i⟩:=ni
   have e4:(if i<δ1.length then(gf (δ1.set i (some (.fz (.exc x.c x.ks x.vs))))).bind fun fl=>if fl.isEx=true then none else some (fl.but i)else none)=some fl:=e4
   by_cases hc:i<δ1.length
   ·rw[if_pos hc]at e4
    obtain⟨fl0,e5,e6⟩:=Option.bind_eq_some_iff.mp e4
    have hx0:fl0.isEx=false:=by
     cases z:fl0.isEx with
     |true=>rw[if_pos z]at e6;cases e6
     |false=>rfl
    rw[if_neg (by rw[hx0];exact Bool.false_ne_true)]at e6
    cases e6
    intro a ha
    have ha':H' a=none:=ha
    have sm:=Zbr (o:=.ext (Zbg a C od)) ha'
    have sF2:Same F' (addL F' [(a,.ext (Zbg a C od))]):=Zav fun q hq=>by obtain rfl:=List.mem_singleton.mp hq;exact s2.le.free ha'
    have s3:SR Z (addL F' [(a,.ext (Zbg a C od))]) (upd H' a (.ext (Zbg a C od))) σ' δ1 own':=by
     refine(s2.grow sm).addF nd1 (fun q hq=>?_) (fun q hq=>?_) (fun q hq=>?_) fun i q u hq hu=>?_
     ·obtain rfl:=List.mem_singleton.mp hq;exact s2.le.free ha'
     ·obtain rfl:=List.mem_singleton.mp hq;exact Zy
     ·obtain rfl:=List.mem_singleton.mp hq;exact s2.old.free ha'
     ·obtain rfl:=List.mem_singleton.mp hq
      intro e
      have e':a=u.1:=e
      have z:=(s2.ok i u hu).2.2
      rw[←e',ha']at z;cases z
    have rp:Rep K (addL F' [(a,.ext (Zbg a C od))]) (.exc x.c x.ks x.vs) (.ref a):=by
     cases od with
     |none=>obtain⟨r3,r4⟩:=r2;rw[r3,r4];exact .exc cl Zy
     |some dx=>obtain⟨fs,r3,r4,r5⟩:=r2;exact .exd cl Zy (sF2 _ _ r3) r4 (r5.mono sF2)
    have s4:=s3.store (i:=i) (sv:=.fz (.exc x.c x.ks x.vs)) (v:=.ref a) (ns:=[]) (.fz rp) (by rw[s3.len];exact hc)
    exact⟨_,_,_,fl0,s4,e5,Zsl hx0 (k.mono (sF.trans sF2))⟩
   ·rw[if_neg hc]at e4;cases e4
end
end DL
namespace DL
open PySem PySem.Spec PyProof.Rows L2
section
variable{X:Cx}{Z:Ent X.K}{a b c:Expr}{fa fb:FE}{fx fy:FX}{pos:Pos}
theorem Zzz(h:PE X a (Ze Z fa)):PE X a (Zfr Z (Zwf fa)):=h.imp fun _ _ _ q=>Zwg q
theorem Zz0:PA X [] (Zep Z Zkk):=Zdt.imp fun _ _ _ h=>Zps h
theorem Zwk{es:List Expr}{fr:FAX}(ha:PE X a (Zfr Z fx))(hr:PA X es (Zep Z fr))(hs:starEach (a::es) X.env=(false,eval a X.env)::starEach es X.env:=by rfl):PA X (a::es) (Zep Z (Zhc fx fr)):=(Za5 ha hr hs).imp fun _ _ _ h=>Zm0 h
theorem Zz1{k n:Nat}{f:Addr}{fd:FuncData}{ps:List Str}{g:List D→Option XO}{x:Str}{p:Pos}{es:List Expr}{fr:FAX}(F:FnOk X.prog X.w X.K X.mg X.base (CX1 X.prog X.w) k f fd ps (spX X.K n g))(hr:Room k X.A)(hm:X.mg x=some (.ref f))(hk:PySem.W.keepIn X.K (.ref f)=true)(hb:Za3 X.K fd ps [])
  (th:Zu8 X Z.x) (ha:PA X (a::es) (Zep Z fr)) (hg:Gl X x:=by rfl) (hdb:(x==("__debug__":Str))=false:=by decide) (he:starEach (a::es) X.env=(false,eval a X.env)::starEach es X.env:=by rfl) (hpl:(backTo pos (starEach es X.env)).any (·.1)=false:=by rfl):
  PE X (.Call (.Name x p) (a::es) [] pos) (Zfr Z (Zwi n g fr)):=(Zrh F hr hg hm hk hb th ha hdb he hpl).imp fun _ _ _ h=>Zwj h
theorem Fun.okX{P:Program}{w:World}{K:PySem.W.Frag}{mg:Str→Option Value}{base:Heap}{x qual:Str}{st:Stmt}{f:Addr}{fd:FuncData}{N ps:List Str}{k:Nat}{sp:Sp}(F:Fun K x qual st f fd)(S:FnScope N ps (Zi st))(len:∀vs H Q E,sp vs H Q E→vs.length=ps.length)
  (hbody:∀(cdv:Value) (A:Around) (outer:List Env) (s:Shared) (H:Hp) (vs:List V) (Q:VK) (E:XK),Room k (A.deeper (envOfC qual (Zi st) s.heap.objs.size f cdv))→sp vs H Q E→
   ∃t,PSs (cxOf (CX1 P w) P w K mg base N qual (Zi st) f cdv A outer s H E) (Zbo st) t∧t {nx:=fun _ H'=>Q .non H',rt:=Q} (L2.start N vs) H):FnOk P w K mg base (CX1 P w) (k+1) f fd ps sp:=by
 obtain⟨oc,od,kV,doc,pm,an,cdv,ct,osl,rfl,lk,hcd⟩:=F.ex
 exact Zyd lk hcd S len fun A outer s H vs Q E hr hsp=>hbody cdv A outer s H vs Q E hr hsp
theorem Zz2(i:Nat){x:Str}{pos':Pos}(hN:X.N.Nodup)(he:PE X a (Zfr Z fx))(hi:X.N[i]? =some x:=by rfl)(hx:Loc X.env.scope x:=by first|exact Or.inl rfl|exact Or.inr rfl)(hs:swapsWith a (some (.Name x pos')) pos.line X.env=pure false:=by rfl)(hf:X.fn x=true∨X.env.scope.names.lookup x=some .local:=by first|exact .inl rfl|exact .inr rfl):
  PS X (.Assign [.Name x pos'] a pos) (Z9 Z (setX i fx)):=(Ztf hN hi hx he hs hf).imp fun _ _ _ h=>Zzy h
theorem Z3r{body:List Stmt}{fb:FS}{h0:HX}{hs:List HX}(hb:∀pn xe EX,Zd8 (X.inTry pn xe) EX→PSs (X.inTry pn xe) body (Z9 (Z.wish EX) fb))(ok:∀h∈h0::hs,(h.hd Z).Ok X)(hsub:∀h∈h0::hs,h.Sub X.K)(hex:X.ex=[]:=by rfl)(hst:X.stack=X.env::X.outer:=by rfl)(hfr:X.env.frame=some X.env.locals:=by rfl):
  PS X (.Try body (((h0::hs).map (HX.hd Z)).map Hd.ast) [] [] pos) (Z9 Z (tryF fb ((h0::hs).map HX.hf))):=
 (Zys (tb:=fun EX=>Z9 (Z.wish EX) fb) (h0:=h0.hd Z) (hs:=hs.map (HX.hd Z)) hb (fun h hh=>by
  have hh':h∈(h0::hs).map (HX.hd Z):=hh
  obtain⟨g,hg,rfl⟩:=List.mem_map.mp hh'
  exact ok g hg) hex hst hfr).imp fun _ _ _ h=>Z3q (hs:=h0::hs) hsub h
theorem Zpu{α:Type}{P:α→Prop}{a:α}(h:P a):∀x∈[a],P x:=fun x hx=>by rw[List.mem_singleton.mp hx];exact h
theorem Za6{P:Addr→Prop}{K:PySem.W.Frag}:∀c∈([]:List Str),∀C,Zbu K c C→P C:=fun _ h=>nomatch h
theorem Zcd{P:Addr→Prop}{K:PySem.W.Frag}{c:Str}{a:Addr}{r:List Str}(x:Zbu K c a)(m:P a)(t:∀c∈r,∀C,Zbu K c C→P C):∀d∈c::r,∀C,Zbu K d C→P C:=fun d hd C cl=>by
 rcases List.mem_cons.mp hd with e|e
 ·subst e
  have z:=x.symm.trans cl
  cases z
  exact m
 ·exact t d e C cl
theorem Zwl{P:Str→Nat→Prop}{m:Str}{j:Nat}(h:P m j):∀n i,some (m,j)=some (n,i)→P n i:=fun _ _ e=>by cases e;exact h
@[simp] noncomputable def isxD(yes no:List Str):D→Option SV
 | .exc c _ _=>if c∈yes then some (.fz (.bl true))else if c∈no then some (.fz (.bl false))else none
 |_=>none
theorem RepN.exc{K:PySem.W.Frag}{F H:Hp}{c:Str}{ks:List Str}{vs:List D}{v:V}(le:Same F H)(h:RepN K F H (.exc c ks vs) v):∃a C dx,v= .ref a∧H a=some (.ext (Zbg a C dx))∧Zbu K c C:=by
 obtain⟨sv,ns,e,n,sh,hp⟩:=h
 cases sh with
 |fz r=>cases e;cases r with|exc cl h=>exact⟨_,_,_,rfl,le _ _ h,cl⟩|exd cl h _ _ _=>exact⟨_,_,_,rfl,le _ _ h,cl⟩
 |ol r=>cases e
 |oK e' r=>cases e
 |oT kb e' r=>cases e
 |oN e' r=>cases n
 |oL _ r=>cases n
theorem Zpv{yes no:List Str}{d:D}{sv:SV}(e:isxD yes no d=some sv):∃c ks vs b,d= .exc c ks vs∧sv= .fz (.bl b)∧(b=true→c∈yes)∧(b=false→c∈no):=by
 unfold isxD at e
 split at e
 ·rename_i c ks vs
  by_cases h1:c∈yes
  ·rw[if_pos h1]at e;cases e;exact⟨c,ks,vs,true,rfl,rfl,fun _=>h1,fun z=>nomatch z⟩
  ·rw[if_neg h1]at e
   by_cases h2:c∈no
   ·rw[if_pos h2]at e;cases e;exact⟨c,ks,vs,false,rfl,rfl,(fun z=>nomatch z),fun _=>h2⟩
   ·rw[if_neg h2]at e;cases e
 ·cases e
noncomputable def Kn(K:PySem.W.Frag)(r:Addr→Bool→Prop)(yes no:List Str):Prop:=(∀c∈yes,∀C,Zbu K c C→ExcKit K C∧r C true)∧∀c∈no,∀C,Zbu K c C→ExcKit K C∧r C false
theorem Kn.at'{K:PySem.W.Frag}{r:Addr→Bool→Prop}{yes no:List Str}(k:Kn K r yes no){c:Str}{C:Addr}{b:Bool}(h1:b=true→c∈yes)(h2:b=false→c∈no)(cl:Zbu K c C):ExcKit K C∧r C b:=by
 cases b with
 |true=>exact k.1 c (h1 rfl) C cl
 |false=>exact k.2 c (h2 rfl) C cl
theorem Zz3{c:V}{cv:Value}{yes no:List Str}(kn:Kn X.K (fun C b=>PySem.W.kitOne X.K (.ref C) cv=some b) yes no):Zrq Z (fun x H Q=>rIsX X.K c cv [x,c] H Q) (isxD yes no):=by
 intro F H σ δ own x d sv Q s r e k
 obtain⟨c',ks,vs,b,rfl,rfl,h1,h2⟩:=Zpv e
 obtain⟨a,C,dx,rfl,ha,cl⟩:=r.exc s.le
 obtain⟨q1,q2⟩:=kn.at' h1 h2 cl
 exact⟨a,C,dx,b,rfl,ha,q1,q2,k.fz s (.bl b)⟩
theorem Zsm{x:Str}{B:Addr}{p p2:Pos}{yes no:List Str}(hm:X.mg "isinstance"=none)(hmc:X.mg x=some (.ref B))(kn:Kn X.K (fun C b=>PySem.W.kitOne X.K (.ref C) (.ref B)=some b) yes no)(ha:PE X a (Ze Z fa))
  (hg:Gl X "isinstance":=by rfl) (hgc:Gl X x:=by rfl) (hdb:(x==("__debug__":Str))=false:=by decide) (he:starEach [a,.Name x p2] X.env=(false,eval a X.env)::starEach [.Name x p2] X.env:=by rfl) (he2:starEach [.Name x p2] X.env=(false,eval (.Name x p2) X.env)::starEach [] X.env:=by rfl) (hpl:(backTo pos (starEach [.Name x p2] X.env)).any (·.1)=false:=by rfl):
  PE X (.Call (.Name "isinstance" p) [a,.Name x p2] [] pos) (Ze Z (unF (isxD yes no) fa)):=
 (Zev (Zk7 (c:=.ref B) (cv:=.ref B) fun u h=>h) hg hm boot_isinstance (Za5 ha (Za5 (Zjq (v:=.ref B) hgc hmc rfl hdb) Zdt he2) he) (by decide) (by decide) he hpl).imp fun σ H Q h=>l_un (Zz3 (c:=.ref B) kn) h
theorem Zwm:bootBuiltins "ValueError"=some (.type "ValueError"):=by decide+kernel
theorem Zz4{x:Str}{t:String}{p p2:Pos}{yes no:List Str}(hm:X.mg "isinstance"=none)(hmc:X.mg x=none)(hv:bootBuiltins x=some (.type t))(kn:Kn X.K (fun C b=>PySem.W.kitOne X.K (.ref C) (.type t)=some b) yes no)(ha:PE X a (Ze Z fa))
  (hg:Gl X "isinstance":=by rfl) (hgc:Gl X x:=by rfl) (hn:x≠"__name__":=by decide) (hdb:(x==("__debug__":Str))=false:=by decide) (he:starEach [a,.Name x p2] X.env=(false,eval a X.env)::starEach [.Name x p2] X.env:=by rfl) (he2:starEach [.Name x p2] X.env=(false,eval (.Name x p2) X.env)::starEach [] X.env:=by rfl) (hpl:(backTo pos (starEach [.Name x p2] X.env)).any (·.1)=false:=by rfl):
  PE X (.Call (.Name "isinstance" p) [a,.Name x p2] [] pos) (Ze Z (unF (isxD yes no) fa)):=
 (Zev (Zk7 (c:=.ty t) (cv:=.type t) fun u h=>h) hg hm boot_isinstance (Za5 ha (Za5 (Znm (v:=.ty t) hgc hmc hv rfl hn hdb) Zdt he2) he) (by decide) (by decide) he hpl).imp fun σ H Q h=>l_un (Zz3 (c:=.ty t) kn) h
noncomputable def Z5b(Bs:List Addr):TA:=fun _ H R=>R (Bs.map V.ref) H
end
end DL
namespace DL
open PySem PySem.Spec PyProof.Rows L2
section
variable{X:Cx}{pins:List (Addr×Obj)}{σ:L2.St}{H:Hp}{s:Shared}
noncomputable def Z5c(trs:List (TE×TE)):TE:=fun σ H Q=>Zk4 trs σ H fun ps H2=>∃kvs:List (Key×V),ps=kvs.map (fun kv=>(kV kv.1,kv.2))∧kvs.length≤15∧∀p ep,H2 p=none→Q (.ref p) (upd H2 p (.dK (Ztl [] kvs) ep))
end
section
variable{K:PySem.W.Frag}{Z:Ent K}{σ:L2.St}{H:Hp}{Q:VK}
noncomputable def tPD(Z:Ent K)(l:List (Str×FE)):List (TE×TE):=l.map fun p=>(tC (.str p.1),Ze Z p.2)
@[simp] noncomputable def Zt0:List (Str×FE)→FD
 | []=>Zs
 |p::r=>Zf p.2 (Zt0 r)
@[simp] noncomputable def Z5d(l:List (Str×FE)):FE:=fun δ=>(Zt0 l δ).bind fun p=>if p.1.length=l.length then some (.tmp (.oK (l.map fun q=>.inr q.1) p.1),p.2)else none
@[simp] noncomputable def minD:List D→Option SV
 | [.int i,.int j]=>some (.fz (.int (if j<i then j else i)))
 |_=>none
end
section
variable{X:Cx}{Z:Ent X.K}{a b c:Expr}{fa fb fc:FE}{pos:Pos}
end
end DL
namespace DL
open PySem PySem.Spec PyProof.Rows L2
@[simp] noncomputable def Zdd(ss:List Str)(fd:FD):FD:=fun δ=>(fd δ).bind fun p=>some (ss.map D.str++p.1,p.2)
theorem Zwn{K:PySem.W.Frag}{Z:Ent K}{σ:L2.St}{H:Hp}{fd:FD}:∀(ss:List Str) {R:List V→Hp→Prop},Zbx Z (Zdd ss fd) σ H R→Zbx Z fd σ H fun vs H'=>R (ss.map V.str++vs) H'
 |ss,R,h=>by
  obtain⟨F,δ,own,ds,δ',s,e,k⟩:=h
  obtain⟨⟨ds1,δ1⟩,e1,e2⟩:=Option.bind_eq_some_iff.mp e
  cases e2
  refine⟨F,δ,own,ds1,δ1,s,e1,fun vs H' F' own' a b c r=>k _ H' F' own' a b c ?_⟩
  exact Reps.append (strs_rep ss) r
where strs_rep {F:Hp}:∀ss:List Str,Reps K F (ss.map D.str) (ss.map V.str)
 | []=>.nil
 |x::r=>.cons (.str x) (strs_rep r)
section
variable{X:Cx}{Z:Ent X.K}{pos:Pos}
noncomputable abbrev cst(x:Str×Nat×Pos):Expr:=.Constant (.str x.1) x.2.1 x.2.2
theorem Zls{es:List Expr}{t:TA}(h:PA X es t):∀l:List (Str×Nat×Pos),PA X (l.map cst++es) fun σ H R=>t σ H fun vs H'=>R ((l.map fun x=>V.str x.1)++vs) H'
 | []=>h
 |x::r=>(Za5 (e:=cst x) (es:=r.map cst++es) Zte (Zls h r) rfl).imp fun σ H R q=>q
theorem Zcr{es:List Expr}{fd:FD}(l:List (Str×Nat×Pos))(h:PA X es (Zbx Z fd)):PA X (l.map cst++es) (Zbx Z (Zdd (l.map (·.1)) fd)):=
 (Zls h l).imp fun σ H R q=>by
  have:=Zwn (l.map (·.1)) q
  rw[List.map_map]at this
  exact this
end
end DL
namespace DL
open PySem PySem.Spec PyProof.Rows L2
section
variable{K:PySem.W.Frag}
inductive RC where
 |v (δ:DSt)|x (e:Exn)
noncomputable def xX(K:PySem.W.Frag)(f:FX)(EX:EXT):TE:=fun σ H Q=>∃Z:Ent K,Z.x=EX∧Zfr Z f σ H Q
@[simp] noncomputable def Zpw(src:List BSrc)(k:Nat)(g:FG)(tt:FT)(te:FX):List D→DSt→Option RC
 | [],δ=>some (.v δ)
 |d::ds,δ=>(g.run d δ).bind fun δ1=>(tt δ1).bind fun p=>if p.1=true then(te p.2).bind (fun
  | .x e _=>some (.x e)
  | .v rv δ2=>(frz rv δ2).bind fun r=>match r.2[k]? with
   |some (some (.ol zs))=>if zs.length<PySem.sizeLine then Zpw src k g tt te ds (Zeb src (r.2.set k (some (.ol (zs++[r.1])))))else none
   |_=>none)
  else Zpw src k g tt te ds (Zeb src p.2)
@[simp] noncomputable def Z6i(src:List BSrc)(k:Nat)(fi:FD)(g:FG)(tt:FT)(te:FX):FX:=fun δ=>(fi δ).bind fun p=>(frzAll (caps src) p.2).bind fun c=>(Zpw src k g tt te p.1 (bD src c.2)).bind fun
 | .x e=>some (.x e c.2)
 | .v δb=>match δb[k]? with
  |some (some (.ol ys))=>some (.v (.tmp (.ol ys)) c.2)
  |_=>none
end
section
variable{X:Cx}{Z:Ent X.K}{pos:Pos}
theorem Zwo{body:List Stmt}{fb f:FS}{x n:Str}{i:Nat}{np hp:Pos}{b0:Stmt}{suite:List Stmt}{B:Addr}{yes no:List Str}(hb:∀pn xe EX,Zd8 (X.inTry pn xe) EX→PSs (X.inTry pn xe) body (Z9 (Z.wish EX) fb))(mg:X.mg x=some (.ref B))
  (ck:PySem.W.typeIn X.K (.ref B)=some (.type "type")∧PySem.W.isClsIn X.K B=true∧PySem.W.mroIn X.K B (.type "BaseException")=some true) (nd:X.N.Nodup) (su:∀a,PSs (X.inSuite a) (b0::suite) (Z9 Z f))
  (hy:∀c∈yes,∀C,Zbu X.K c C→PySem.W.mroIn X.K C (.ref B)=some true) (hn:∀c∈no,∀C,Zbu X.K c C→PySem.W.mroIn X.K C (.ref B)=some false)
  (ni:X.N[i]? =some n:=by rfl) (lc:X.env.scope.names.lookup n=some .local:=by rfl) (gl:Gl X x:=by rfl) (db:(x==("__debug__":Str))=false:=by decide) (hex:X.ex=[]:=by rfl) (hst:X.stack=X.env::X.outer:=by rfl) (hfr:X.env.frame=some X.env.locals:=by rfl):
  PS X (.Try body [.ExceptHandler (some (.Name x np)) (some n) (b0::suite) hp] [] [] pos) (Z9 Z (tryF fb [⟨some i,yes,no,f⟩])):=
 Z3r (h0:=⟨x,np,some (n,i),b0,suite,hp,B,yes,no,f⟩) (hs:=[]) hb (Zpu ⟨gl,mg,ck.1,ck.2.1,ck.2.2,db,Zwl ⟨nd,ni,.inl lc,lc,lc⟩,su⟩) (Zpu ⟨hy,hn⟩) hex hst hfr
end
end DL
namespace L2
open PySem PySem.Spec PyProof.Rows
noncomputable def Zcs{α:Type}(xs:List α)(lo hi st:Option Int):List α:=
 (sliceRange (sliceBounds lo hi st xs.length).1 (sliceBounds lo hi st xs.length).2.1 (sliceBounds lo hi st xs.length).2.2).filterMap (xs[·]?)
theorem Vals.pickI{xs:List V}{us:List Value}(r:Vals xs us):∀is:List Nat,Vals (is.filterMap (xs[·]?)) (is.filterMap (us[·]?))
 | []=>.nil
 |i::is=>by
  cases h:xs[i]? with
  |none=>rw[List.filterMap_cons_none h,List.filterMap_cons_none (r.none_of h)];exact Vals.pickI r is
  |some x=>
   obtain⟨u,hu,hr⟩:=r.get h
   rw[List.filterMap_cons_some h,List.filterMap_cons_some hu]
   exact .cons hr (Vals.pickI r is)
theorem Zsn(us:List Value)(lo hi st:Option Int):slicePick us.toArray lo hi st=(Zcs us lo hi st).toArray:=by
 unfold slicePick Zcs
 simp
section
variable{X:Cx}{e st:Expr}{te:TE}{lo hi:Option Expr}{tl th ts:TO}{pos p2:Pos}
noncomputable def SlR3(X:Cx)(r:V→Option Int→Option Int→Option Int→Hp→VK→Prop):Prop:=
 ∀(pins:List (Addr×Obj)) (s:Shared) (σ:St) (H:Hp) (x:V) (v vl vu vs:Value) (lo hi st:Option Int) (sl:Addr) (Q:VK),Inv X pins σ H s→RelV x v→s.heap.IsSliceOf sl vl vu vs→IsPart vl lo→IsPart vu hi→IsPart vs st→r x lo hi st H Q→
  ∃T id,typeLookup (.type T) "__getitem__"=pure (some (.builtin id))∧s.TypeIs v T∧wpAny (model X.prog X.w) X.A (getItem v (.ref sl)) (EP X pins σ Q) X.xe s
noncomputable def tSl3(r:V→Option Int→Option Int→Option Int→Hp→VK→Prop)(te:TE)(tl th ts:TO):TE:=fun σ H Q=>te σ H fun x H1=>tl σ H1 fun l H2=>th σ H2 fun u H3=>ts σ H3 fun w H4=>r x l u w H4 Q
theorem Zpx{r:V→Option Int→Option Int→Option Int→Hp→VK→Prop}(hr:SlR3 X r)(he:PE X e te)(hl:PO X lo tl)(hu:PO X hi th)(ht:PO X (some st) ts):PE X (.Subscript e (.Slice lo hi (some st) p2) pos) (tSl3 r te tl th ts):=by
 intro pins s σ H Q I h
 refine Subscript_ (thn (he pins s σ H _ I h) fun v s1 zq9=>?_)
 obtain⟨x,H1,I1,r1,q1⟩:=zq9
 refine wpAny_Slice (thn (hl pins s1 σ H1 _ I1 q1) fun vl s2 ⟨l,H2,I2,pl,q2⟩=>thn (hu pins s2 σ H2 _ I2 q2) fun vu s3 ⟨u,H3,I3,pu,q3⟩=>thn (ht pins s3 σ H3 _ I3 q3) fun vs s4 zq9=>?_)
 obtain⟨w,H4,I4,pw,q4⟩:=zq9
 have I5:Inv X pins σ H4 {s4 with heap:=s4.heap.push {cls:=.type "slice",data:=.fields #[vl,vu,vs]}}:=I4.kept (t':=s4.toks) fun b ob q=>Heap.get?_push_of_some _ q
 obtain⟨T,id,hT,ht,hg⟩:=hr pins {s4 with heap:=s4.heap.push {cls:=.type "slice",data:=.fields #[vl,vu,vs]}} σ H4 x v vl vu vs l u w s4.heap.objs.size Q I5 r1 (Heap.IsSliceOf.new ..) pl pu pw q4
 show wpAny (model X.prog X.w) X.A (subscriptTail e (.Slice lo hi (some st) p2) v (.ref s4.heap.objs.size)) (EP X pins σ Q) X.xe {s4 with heap:=s4.heap.push {cls:=.type "slice",data:=.fields #[vl,vu,vs]}}
 exact tail_any (ops:=[v,.ref s4.heap.objs.size]) ht hT hg (by with_unfolding_all rfl)
noncomputable def rSl3(K:PySem.W.Frag):V→Option Int→Option Int→Option Int→Hp→VK→Prop:=fun x lo hi st H Q=>∃a xs,x= .ref a∧SqL K H a xs∧st≠some 0∧∀p,H p=none→Q (.ref p) (upd H p (.lst (Zcs xs lo hi st)))
theorem Zso:SlR3 X (rSl3 X.K):=by
 intro pins s σ H x v vl vu vs lo hi st sl Q I rx hs pl pu pw h
 obtain⟨a,xs,rfl,hx,h0,q⟩:=h
 cases rx
 obtain⟨its,r,ht,hz⟩:=I.list hx
 have hlen:=r.length
 refine⟨"list",_,slot_list_getitem.lookup,ht.isList.typeIs,?_⟩
 refine wpAny_getItem_list_slice ht.isList hs pl pu pw h0 ?_ (by rw[List.size_toArray]<;> omega)
 have hsz:=slicePick_size_le its.toArray lo hi st
 rw[Zsn]at hsz⊢
 have rr:Vals (Zcs xs lo hi st) (Zcs its lo hi st):=by
  unfold Zcs
  rw[hlen]
  exact r.pickI _
 have hl2:=rr.length
 simp only[List.size_toArray]at hsz
 refine⟨.ref s.heap.objs.size,_,I.laid (t':=s.toks) (o:=.lst (Zcs xs lo hi st)) (fun b ob q=>Heap.get?_push_of_some _ q) (Nat.le_refl _) ?_,rfl,q _ (I.hok.fresh (Nat.le_refl _))⟩
 exact⟨by omega,_,0,rr,Heap.get?_push_size _ rfl⟩
end
end L2
namespace DL
open PySem PySem.Spec PyProof.Rows L2
theorem Reps.pickI{K:PySem.W.Frag}{F:Hp}{xs:List D}{us:List V}(r:Reps K F xs us):∀is:List Nat,Reps K F (is.filterMap (xs[·]?)) (is.filterMap (us[·]?))
 | []=>.nil
 |i::is=>by
  cases h:xs[i]? with
  |none=>
   have h2:us[i]? =none:=by
    rw[List.getElem?_eq_none_iff]at h⊢
    rw[←r.length];exact h
   rw[List.filterMap_cons_none h,List.filterMap_cons_none h2];exact Reps.pickI r is
  |some x=>
   obtain⟨u,hu,hr⟩:=r.get h
   rw[List.filterMap_cons_some h,List.filterMap_cons_some hu]
   exact .cons hr (Reps.pickI r is)
theorem Reps.pick{K:PySem.W.Frag}{F:Hp}{xs:List D}{us:List V}(r:Reps K F xs us)(lo hi st:Option Int):Reps K F (Zcs xs lo hi st) (Zcs us lo hi st):=by
 unfold Zcs
 rw[r.length]
 exact r.pickI _
@[simp] noncomputable def slF3(g:D→Option Int→Option Int→Option Int→Option SV)(fe:FE)(fl fh fs:FO):FE:=fun δ=>(fe δ).bind fun p=>(fl p.2).bind fun l=>(fh l.2).bind fun h=>(fs h.2).bind fun w=>(rdv p.1 w.2).bind fun d=>(g d l.1 h.1 w.1).bind fun sv=>some (.tmp sv,w.2)
section
variable{K:PySem.W.Frag}{Z:Ent K}{H:Hp}{σ:L2.St}{Q:VK}
noncomputable def Zt1(Z:Ent K)(r:V→Option Int→Option Int→Option Int→Hp→VK→Prop)(g:D→Option Int→Option Int→Option Int→Option SV):Prop:=
 ∀(F H:Hp) (σ:L2.St) (δ:DSt) (own:Nat→Zw) (x:V) (d:D) (lo hi st:Option Int) (sv:SV) (Q:VK),SR Z F H σ δ own→RepN K F H d x→g d lo hi st=some sv→Fin Z F H σ δ own sv Q→r x lo hi st H Q
theorem Z3s{r:V→Option Int→Option Int→Option Int→Hp→VK→Prop}{g:D→Option Int→Option Int→Option Int→Option SV}{fe:FE}{fl fh fs:FO}(hg:Zt1 Z r g)(h:Ze Z (slF3 g fe fl fh fs) σ H Q):tSl3 r (Ze Z fe) (Zdv Z fl) (Zdv Z fh) (Zdv Z fs) σ H Q:=by
 obtain⟨F,δ,own,rv,δ',s,e,k⟩:=h
 obtain⟨⟨rv1,δ1⟩,e1,e⟩:=Option.bind_eq_some_iff.mp e
 obtain⟨⟨lo,δ2⟩,e2,e⟩:=Option.bind_eq_some_iff.mp e
 obtain⟨⟨hi,δ3⟩,e3,e⟩:=Option.bind_eq_some_iff.mp e
 obtain⟨⟨st,δ4⟩,e3',e⟩:=Option.bind_eq_some_iff.mp e
 obtain⟨d,e4,e⟩:=Option.bind_eq_some_iff.mp e
 obtain⟨sv,e5,e⟩:=Option.bind_eq_some_iff.mp e
 cases e
 refine⟨F,δ,own,rv1,δ1,s,e1,fun v H1 F1 own1 sH1 sF1 s1 r1=>?_⟩
 obtain⟨F1',sF1',s1',r1'⟩:=s1.settleR r1
 refine⟨F1',δ1,own1,lo,δ2,s1',e2,fun H2 F2 own2 sH2 sF2 s2=>⟨F2,δ2,own2,hi,δ3,s2,e3,fun H3 F3 own3 sH3 sF3 s3=>⟨F3,δ3,own3,st,δ4,s3,e3',fun H5 F5 own5 sH5 sF5 s5=>?_⟩⟩⟩
 exact hg F5 H5 σ δ4 own5 v d lo hi st sv Q s5 (s5.rd (r1'.mono (sF2.trans (sF3.trans sF5))) e4) e5 fun q H4 F4 ns sH4 sF4 s4 t4=>
  k q H4 F4 own5 (sH1.trans (sH2.trans (sH3.trans (sH5.trans sH4)))) (sF1.trans (sF1'.trans (sF2.trans (sF3.trans (sF5.trans sF4))))) s4 ⟨ns,t4⟩
@[simp] noncomputable def slD3:D→Option Int→Option Int→Option Int→Option SV
 | .lst xs,lo,hi,st=>if st≠some 0 then some (.ol (Zcs xs lo hi st))else none
 |_,_,_,_=>none
theorem Z3t:Zt1 Z (rSl3 K) slD3:=by
 intro F H σ δ own x d lo hi st sv Q s r1 e k
 unfold slD3 at e
 split at e
 ·split at e
  ·rename_i h0
   cases e
   obtain⟨a,vs,ex,ha,ra⟩:=r1.lst s.le
   exact⟨a,vs,ex,ha,h0,fun p hp=>k.lst s (ra.pick _ _ _) hp⟩
  ·cases e
 ·cases e
end
theorem Zz5{X:Cx}{Z:Ent X.K}{a:Expr}{fa:FE}{pos:Pos}{st:Expr}{lo hi:Option Expr}{fl fh fs:FO}{p2:Pos}(ha:PE X a (Ze Z fa))(hl:PO X lo (Zdv Z fl))(hh:PO X hi (Zdv Z fh))(hs:PO X (some st) (Zdv Z fs)):PE X (.Subscript a (.Slice lo hi (some st) p2) pos) (Ze Z (slF3 slD3 fa fl fh fs)):=
 (Zpx Zso ha hl hh hs).imp fun _ _ _ h=>Z3s Z3t h
end DL
namespace DL
section
variable{α:Type}{P:List α→Prop}
@[elab_as_elim] theorem of0(h:P [])(us:List α)(hl:us.length=0):P us:=by
 have:us=[]:=List.eq_nil_of_length_eq_zero hl
 rw[this];exact h
@[elab_as_elim] theorem of1(h:∀a,P [a])(us:List α)(hl:us.length=1):P us:=by
 obtain⟨a,e⟩:=List.length_eq_one_iff.mp hl
 rw[e];exact h a
theorem ofC{n:Nat}(h:∀a (us:List α),us.length=n→P (a::us))(us:List α)(hl:us.length=n+1):P us:=by
 cases us with
 |nil=>exact absurd hl (by simp)
 |cons a r=>exact h a r (by simpa using hl)
@[elab_as_elim] theorem of2(h:∀a b,P [a,b])(us:List α)(hl:us.length=2):P us:=ofC (fun a=>of1 (P:=fun us=>P (a::us)) (h a)) us hl
@[elab_as_elim] theorem of3(h:∀a b c,P [a,b,c])(us:List α)(hl:us.length=3):P us:=ofC (fun a=>of2 (P:=fun us=>P (a::us)) (h a)) us hl
@[elab_as_elim] theorem of4(h:∀a b c d,P [a,b,c,d])(us:List α)(hl:us.length=4):P us:=ofC (fun a=>of3 (P:=fun us=>P (a::us)) (h a)) us hl
@[elab_as_elim] theorem of5(h:∀a b c d e,P [a,b,c,d,e])(us:List α)(hl:us.length=5):P us:=ofC (fun a=>of4 (P:=fun us=>P (a::us)) (h a)) us hl
@[elab_as_elim] theorem of6(h:∀a b c d e f,P [a,b,c,d,e,f])(us:List α)(hl:us.length=6):P us:=ofC (fun a=>of5 (P:=fun us=>P (a::us)) (h a)) us hl
end
end DL
namespace L2
open PySem PySem.Spec PyProof.Rows
section
variable{prog:Program}{w:World}{A:Around}{E:Value→Shared→Prop}{s:Shared}{q d:Addr}{i n ep:Nat}{od:Obj}{es:Array DictEntry}
end
noncomputable def Itk(a:Addr)(n ep:Nat):It:=
 ⟨fun i H=>∃kvs,H a=some (.dK kvs ep)∧kvs.length=n∧i<n,fun i H x H'=>H'=H∧∃kvs kv,H a=some (.dK kvs ep)∧kvs[i]? =some kv∧x=kV kv.1,fun i H=>∃kvs,H a=some (.dK kvs ep)∧kvs.length=n∧n≤i⟩
noncomputable def Itd(a:Addr)(n ep:Nat):It:=
 ⟨fun i H=>∃kvs bs,H a=some (.dT kvs ep bs)∧kvs.length=n∧i<n,fun i H x H'=>H'=H∧∃kvs bs b,H a=some (.dT kvs ep bs)∧bs[i]? =some b∧x= .ref b,fun i H=>∃kvs bs,H a=some (.dT kvs ep bs)∧kvs.length=n∧n≤i⟩
section
variable{X:Cx}{tg:Expr}
noncomputable def iDic(tl:TE):TI:=fun σ H R=>tl σ H fun x H1=>(∃a kvs ep,x= .ref a∧H1 a=some (.dK kvs ep)∧R (Itk a kvs.length ep) H1)∨(∃a kvs ep bs,x= .ref a∧H1 a=some (.dT kvs ep bs)∧R (Itd a kvs.length ep) H1)
end
end L2
namespace DL
open PySem PySem.Spec PyProof.Rows L2
variable{K:PySem.W.Frag}
@[simp] noncomputable def keyD:Key→D
 | .inl i=>.int i
 | .inr x=>.str x
section
variable{Z:Ent K}{H:Hp}{σ:L2.St}
@[simp] noncomputable def dicI(fe:FE):FD:=fun δ=>(fe δ).bind fun p=>(frz p.1 p.2).bind fun q=>match q.1 with
 | .dK ks _=>some (ks.map keyD,q.2)
 | .dT ks _=>some (ks.map fun k=>D.tup (k.map keyD),q.2)
 |_=>none
end
end DL
namespace DL
open PySem PySem.Spec PyProof.Rows L2
variable{K:PySem.W.Frag}
@[simp] noncomputable def inW(d1 d2:D):Option SV:=match d2.seq? with
 |some xs=>if d1.isFlat=true∧xs.all D.isFlat=true then some (.fz (.bl (inFl d1 xs)))else none
 |none=>inD d1 d2
@[simp] noncomputable def Z5e(d1 d2:D):Option SV:=match d2.seq? with
 |some xs=>if d1.isFlat=true∧xs.all D.isFlat=true then some (.fz (.bl (!inFl d1 xs)))else none
 |none=>Zlj d1 d2
section
variable{Z:Ent K}
end
section
variable{X:Cx}{Z:Ent X.K}{a b:Expr}{fa fb:FE}{pos:Pos}
end
end DL
namespace L2
open PySem PySem.Spec PyProof.Rows
section
variable{prog:Program}{w:World}{A:Around}{E:Value→Shared→Prop}{s:Shared}{a b:Addr}{xs ys:List (List Key×Addr×Value)}
end
section
variable{X:Cx}
noncomputable def rEqT:R2:=fun x y H Q=>∃a b kvs,x= .ref a∧y= .ref b∧HTt H a kvs∧HTt H b kvs∧(∀p∈kvs,Zao p.2=true)∧Q (.bl true) H
end
end L2
namespace DL
open PySem PySem.Spec PyProof.Rows L2
variable{K:PySem.W.Frag}
noncomputable def Z3u(ks ks':List (List Key))(vs vs':List D):Bool:=@decide (ks=ks'∧vs=vs'∧vs.all D.isFlat=true) (Classical.propDecidable _)
@[simp] noncomputable def eqTD(d1 d2:D):Option SV:=match d1,d2 with
 | .dT ks vs,.dT ks' vs'=>if Z3u ks ks' vs vs'=true then some (.fz (.bl true))else none
 |_,_=>none
section
variable{Z:Ent K}
end
section
variable{X:Cx}{Z:Ent X.K}{a b:Expr}{fa fb:FE}{pos:Pos}
end
end DL
namespace DL
open PySem PySem.Spec PyProof.Rows L2
end DL
namespace DL
open PySem PySem.Spec PyProof.Rows L2
variable{K:PySem.W.Frag}
@[simp] noncomputable def Zpy(src:List BSrc)(k:Nat)(g:FG)(tt:FT)(te:FE):List D→DSt→Option DSt
 | [],δ=>some δ
 |d::ds,δ=>(g.run d δ).bind fun δ1=>(tt δ1).bind fun p=>if p.1=true then(te p.2).bind fun q=>match q.1,q.2[k]? with
   | .tmp (.ol xs),some (some (.oL none zs))=>if zs.length<PySem.sizeLine then Zpy src k g tt te ds (Zeb src (q.2.set k (some (.oL none (zs++[xs])))))else none
   |_,_=>none
  else Zpy src k g tt te ds (Zeb src p.2)
@[simp] noncomputable def Z5f(src:List BSrc)(k:Nat)(fi:FD)(g:FG)(tt:FT)(te:FE):FE:=fun δ=>(fi δ).bind fun p=>(frzAll (caps src) p.2).bind fun c=>(Zpy src k g tt te p.1 ((bD src c.2).set k (some (.oL none [])))).bind fun δb=>match δb[k]? with
 |some (some (.oL none ys))=>some (.tmp (.oL none ys),c.2)
 |_=>none
section
variable{Z:Ent K}{H:Hp}{σ:L2.St}{Q:VK}{E:Ends}
noncomputable def Zz6(i p q:Nat):FE:=fun δ=>match δ[i]?,δ[p]?,δ[q]? with
 |some (some (.oL none xss)),some (some (.fz (.int n))),some (some (.fz (.lst xs)))=>if 0≤n∧n.toNat≤xss.length∧xss.length+1≤PySem.sizeLine then some (.tmp (.oL none (xss.take n.toNat++[xs]++xss.drop n.toNat)),δ.set i none)else none
 |_,_,_=>none
@[simp] theorem Z1s{i p q:Nat}{δ:DSt}{xss:List (List D)}{n:Nat}{xs:List D}(hi:δ[i]? =some (some (.oL none xss)))(hp:δ[p]? =some (some (.fz (.int (n:Nat)))))(hq:δ[q]? =some (some (.fz (.lst xs))))(hn:n≤xss.length)(hz:xss.length+1≤PySem.sizeLine):
  Zz6 i p q δ=some (.tmp (.oL none (xss.take n++[xs]++xss.drop n)),δ.set i none):=by
 unfold Zz6
 rw[hi,hp,hq]
 dsimp only
 rw[if_pos ⟨by omega,by omega,hz⟩,Int.toNat_natCast]
noncomputable abbrev rLst(K:PySem.W.Frag):List V→Hp→VK→Prop:=fun xs H Q=>∃p ys,xs=[V.ref p]∧(SqL K H p ys∨SqT K H p ys)∧∀l,H l=none→Q (.ref l) (upd H l (.lst ys))
@[simp] noncomputable def apT(c:Str)(n:Nat)(xss:List (List D)):List (List D):=(xss.take n).map (· ++[.str c])++xss.drop n
noncomputable def Zpz(i j:Nat)(c:Str):FS:=fun δ=>match δ[i]? with
 |some (some (.oL none xss))=>if i≠j∧j<δ.length∧(∀xs∈xss,xs.length<PySem.sizeLine)then some (.nx ((δ.set j none).set i (some (.oL none (xss.map (· ++[.str c]))))))else none
 |_=>none
@[simp] theorem Zxf{i j:Nat}{c:Str}{δ:DSt}{xss:List (List D)}(hi:δ[i]? =some (some (.oL none xss)))(hij:i≠j)(hj:j<δ.length)(hz:∀xs∈xss,xs.length<PySem.sizeLine):Zpz i j c δ=some (.nx ((δ.set j none).set i (some (.oL none (xss.map (· ++[.str c])))))):=by
 unfold Zpz
 rw[hi]
 dsimp only
 rw[if_pos ⟨hij,hj,hz⟩]
noncomputable def Zp0(i:Nat):FS:=fun δ=>match δ[i]? with
 |some (some (.oL none _))=>some (.nx (δ.set i (some (.ol []))))
 |_=>none
@[simp] theorem Zxg{i:Nat}{δ:DSt}{xss:List (List D)}(hi:δ[i]? =some (some (.oL none xss))):Zp0 i δ=some (.nx (δ.set i (some (.ol [])))):=by unfold Zp0;rw[hi]
end
end DL
namespace DL
open PySem PySem.Spec PyProof.Rows L2
section
variable{X:Cx}{Z:Ent X.K}{a b c:Expr}{fa fb fc:FE}{pos:Pos}
theorem Zz7(i:Nat){x:Str}{pos:Pos}(hN:X.N[i]? =some x:=by rfl)(hv:Vis X.env.scope x:=by first|exact Or.inl rfl|exact Or.inr (Or.inl rfl)|exact Or.inr (Or.inr rfl))(hd:(x==("__debug__":Str))=false:=by decide)
  (hcd:(x==("__classdict__":Str))=false:=by decide):PE X (.Name x pos) (tVar i):=Zh0 hN hv hd hcd
end
end DL
namespace DL
open PySem PySem.Spec PyProof.Rows L2
variable{K:PySem.W.Frag}
noncomputable def Z3v(K:PySem.W.Frag)(C:Addr)(f:Str):Sp:=fun vs H Q _=>∃e p ys,vs=[.ref e,.ref p]∧H e=some (.ext (Zba e C none))∧(SqL K H p ys∨SqT K H p ys)∧
 ∀l,H l=none→∀dx,upd H l (.lst ys) dx=none→Q .non (upd (upd (upd H l (.lst ys)) dx (.xd [(f,.ref l)])) e (.ext (Zba e C (some dx))))
noncomputable def Zee(C:Addr)(f:Str):Sp:=fun vs H Q _=>∃e v,vs=[.ref e,v]∧H e=some (.ext (Zba e C none))∧
 ∀dx,H dx=none→Q .non (upd (upd H dx (.xd [(f,v)])) e (.ext (Zba e C (some dx))))
section
variable{Z:Ent K}{H:Hp}{σ:L2.St}{E:Ends}{Q:VK}
@[simp] noncomputable def Z5g(c f:Str)(fe:FE):FS:=fun δ=>(fe δ).bind fun p=>(frz p.1 p.2).bind fun q=>match q.1 with
 | .lst ds=>some (.ex ⟨c,[f],[.lst ds]⟩ q.2)
 |_=>none
@[simp] noncomputable def Zlt(c f:Str)(fe:FE):FS:=fun δ=>(fe δ).bind fun p=>(frz p.1 p.2).bind fun q=>some (.ex ⟨c,[f],[q.1]⟩ q.2)
theorem Zsp{H:Hp}{a b:Addr}{o:HO}(h:upd H a o b=none):b≠a∧H b=none:=by
 have ne:b≠a:=fun z=>by rw[z,Zy]at h;cases h
 exact⟨ne,by rw[Zr ne]at h;exact h⟩
theorem Zsq{c f:Str}{C:Addr}{fe:FE}(cl:Zbu K c C)(hx:∀cls od σ H',Z.x cls od σ H'→Z.x cls od [] H')(h:Z9 Z (Zlt c f fe) E σ H):Zoi (fun cls od H'=>Z.x cls od [] H') C (Zee C f) (Zjr (Ze Z fe) tNil) E σ H:=by
 obtain⟨F,δ,own,fl,s,e,k⟩:=h
 obtain⟨⟨rv,δ1⟩,e1,e2⟩:=Option.bind_eq_some_iff.mp e
 obtain⟨⟨d,δ2⟩,e3,e4⟩:=Option.bind_eq_some_iff.mp e2
 cases e4
 refine⟨F,δ,own,rv,δ1,s,e1,fun v H1 F1 own1 sH sF s1 r1=>?_⟩
 obtain⟨F2,sF2,s2,r2⟩:=s1.settleR r1
 obtain⟨F3,own3,sF3,s3,r3⟩:=s2.frzR r2 e3
 refine⟨by show 1≤PySem.sizeLine;decide,fun e he=>⟨e,v,rfl,Zy,fun dx h2=>⟨rfl,some dx,Zy,?_⟩⟩⟩
 obtain⟨n2,a2⟩:=Zsp h2
 obtain⟨sFn,sn⟩:=s3.fresh (H':=drop (upd (upd (upd H1 e (.ext (Zba e C none))) dx (.xd [(f,v)])) e (.ext (Zba e C (some dx)))) e) (ns:=[(dx,.xd [(f,v)])]) (fun b o hb=>by
  have b1:b≠e:=fun z=>by rw[z,he]at hb;cases hb
  have b2:b≠dx:=fun z=>by rw[z,a2]at hb;cases hb
  rw[Zb8 b1,Zr b1,Zr b2,Zr b1];exact hb) nd1 (fun p hp=>by
  rw[List.mem_singleton.mp hp];exact⟨a2,by rw[Zb8 n2,Zr n2,Zy]⟩)
 exact hx _ _ _ _ (k σ _ _ own3 (.ref C) (some dx) (sF.trans (sF2.trans (sF3.trans sFn))) sn ⟨C,cl,rfl,[(f,v)],Zy,rfl,.cons (r3.mono sFn) .nil⟩)
@[simp] noncomputable def Zsr(cs:List Str)(f:Str):D→Option SV
 | .exc c ks vs=>if c∈cs then((ks.zip vs).lookup f).bind fun d=>some (.fz d)else none
 |_=>none
theorem Zlu{F:Hp}{f:Str}{d:D}:∀{fs:List (Str×V)} {ds:List D},Reps K F ds (fs.map (·.2))→((fs.map (·.1)).zip ds).lookup f=some d→∃v,fs.lookup f=some v∧Rep K F d v
 | [],_,_,e=>by simp at e
 |p::fs,_,.cons h t,e=>by
  rw[List.map_cons,List.zip_cons_cons,List.lookup_cons]at e
  rw[List.lookup_cons]
  cases z:f==p.1 with
  |true=>rw[z]at e;cases e;exact⟨p.2,rfl,h⟩
  |false=>rw[z]at e;exact Zlu t e
theorem Zz8{cs:List Str}{f:Str}(kn:∀c∈cs,∀C,Zbu K c C→ExcGet K C f):Zrq Z (fun x H Q=>∃a C dx fs v,x= .ref a∧H a=some (.ext (Zbg a C (some dx)))∧H dx=some (.xd fs)∧ExcGet K C f∧fs.lookup f=some v∧Q v H) (Zsr cs f):=by
 intro F H σ δ own x d sv Q s r e k
 unfold Zsr at e
 split at e
 ·rename_i c ks vs
  split at e
  ·rename_i hc
   obtain⟨d,e1,e2⟩:=Option.bind_eq_some_iff.mp e
   cases e2
   obtain⟨sv,ns,es,n,sh,hp⟩:=r
   cases sh with
   |fz r=>
    cases es
    cases r with
    |exc cl h=>simp at e1
    |exd cl h hx ek rr=>
     subst ek
     obtain⟨v,h1,h2⟩:=Zlu rr e1
     exact⟨_,_,_,_,v,rfl,s.le _ _ h,s.le _ _ hx,kn c hc _ cl,h1,k.fz s h2⟩
   |ol r=>cases es
   |oK e' r=>cases es
   |oT kb e' r=>cases es
   |oN e' r=>cases n
   |oL _ r=>cases n
  ·cases e
 ·cases e
end
section
variable{X:Cx}{Z:Ent X.K}{a b c:Expr}{fa fb fc:FE}{pos:Pos}
theorem Zlv{x f:Str}{C fI:Addr}{fd:FuncData}{ps:List Str}{k:Nat}{np cpos:Pos}(th:Zod X fun cls od H'=>Z.x cls od [] H')(hc:X.calm=true)(hm:X.mg x=some (.ref C))(oc:Zgy C fI X.base)(fn:PySem.W.isFn X.K (.ref fI)=true)(F:FnOk X.prog X.w X.K X.mg X.base CX0 k fI fd ps (Zee C f))(hr:Room (k+1) X.A)(hb:Za3 X.K fd ps [])(cl:Zbu X.K x C)(ha:PE X a (Ze Z fa))
  (hx:∀cls od σ H',Z.x cls od σ H'→Z.x cls od [] H':=by exact fun _ _ _ _ h=>h) (hex:X.ex=[]:=by rfl) (hg:Gl X x:=by rfl) (he:starEach [a] X.env=(false,eval a X.env)::starEach [] X.env:=by rfl) (hpl:((backTo cpos (starEach [a] X.env)).any fun x=>x.1)=false:=by rfl)
  (hbk:∃z rest,backTo cpos (starEach [a] X.env)=(false,z)::rest:=by exact⟨_,_,rfl⟩) (hd:(x==("__debug__":Str))=false:=by decide):PS X (.Raise (some (.Call (.Name x np) [a] [] cpos)) none pos) (Z9 Z (Zlt x f fa)):=
 (Zoj th hc hex hm oc fn F hr hb hg (Za5 ha Zdt he) he hpl hbk hd).imp fun _ _ _ h=>Zsq cl hx h
theorem Zz9{cs:List Str}{f:Str}(kn:∀c∈cs,∀C,Zbu X.K c C→ExcGet X.K C f)(ha:PE X a (Ze Z fa))(hb:attributeBase a f X.env (eval a X.env)=eval a X.env:=by rfl):PE X (.Attribute a f pos) (Ze Z (unF (Zsr cs f) fa)):=
 (Zrn ha hb).imp fun _ _ _ h=>l_un (Zz8 kn) h
theorem Zwp{i j:Nat}{f:Str}{p2:Pos}(ho:PE X a (tVar i))(hv:PE X b (tVar j))(hs:swapsWith b (some (.Attribute a f p2)) pos.line X.env=pure false:=by rfl):PS X (.Assign [.Attribute a f p2] b pos) (Zk9 X.K (tVar i) (tVar j) f):=Zro ho hv hs
end
theorem Zp1{C:Addr}{f n0 n1:Str}:∀vs H Q E,Zee C f vs H Q E→vs.length=[n0,n1].length:=fun vs H Q E h=>by obtain⟨e,v,rfl,_⟩:=h;rfl
theorem Zss{C:Addr}{f n0 n1:Str}{vs:List V}{H:Hp}{Q:VK}{E:XK}(k:ExcSet K C f)(h:Zee C f vs H Q E):Zk9 K (tVar 0) (tVar 1) f {nx:=fun _ H'=>Q .non H',rt:=Q} (L2.start [n0,n1] vs) H:=by
 obtain⟨e,v,rfl,he,q⟩:=h
 exact⟨v,rfl,.ref e,rfl,e,C,rfl,he,k,q⟩
end DL
namespace DL
open PySem PySem.Spec PyProof.Rows L2
variable{K:PySem.W.Frag}
noncomputable abbrev Zt2(H:Hp)(bs:List Addr)(xss:List (List Str)):Prop:=Paired (fun(b:Addr) (xs:List Str)=>H b=some (.tup (xs.map V.str))) bs xss
open Classical in
noncomputable def eqT(H:Hp)(ss:List Str):Value→Bool:=fun w=>decide (∃b,w= .ref b∧H b=some (.tup (ss.map V.str)))
section
variable{X:Cx}{pins:List (Addr×Obj)}{σ:L2.St}{H:Hp}{s:Shared}
noncomputable def rInP(K:PySem.W.Frag)(neg:Bool):R2:=fun x y H Q=>∃b ss a bs xss,x= .ref b∧H b=some (.tup (ss.map V.str))∧y= .ref a∧SqL K H a (bs.map V.ref)∧Zt2 H bs xss∧Q (.bl (if neg then !(xss.any fun xs=>decide (xs=ss))else xss.any fun xs=>decide (xs=ss))) H
noncomputable def Z3w(K:PySem.W.Frag):V→List V→Hp→VK→Prop:=fun x xs H Q=>∃b ss a bs xss j,xs=[.ref b]∧H b=some (.tup (ss.map V.str))∧x= .ref a∧SqL K H a (bs.map V.ref)∧Zt2 H bs xss∧(xss.findIdx? fun xs=>decide (xs=ss))=some j∧Q (.int (j:Nat)) H
end
@[simp] noncomputable def tl?:List D→Option (List (List Str))
 | []=>some []
 | .tup ds::r=>(strs? ds).bind fun x=>(tl? r).bind fun t=>some (x::t)
 |_=>none
@[simp] noncomputable def inP:D→D→Option SV
 | .tup a,.lst xs=>(strs? a).bind fun ss=>(tl? xs).bind fun xss=>some (.fz (.bl (xss.any fun x=>decide (x=ss))))
 |_,_=>none
@[simp] noncomputable def Z5h:D→D→Option SV
 | .tup a,.lst xs=>(strs? a).bind fun ss=>(tl? xs).bind fun xss=>some (.fz (.bl (!(xss.any fun x=>decide (x=ss)))))
 |_,_=>none
@[simp] noncomputable def Z5i:List D→Option SV
 | [.lst xs,.tup a]=>(strs? a).bind fun ss=>(tl? xs).bind fun xss=>(xss.findIdx? fun x=>decide (x=ss)).bind fun j=>some (.fz (.int (j:Nat)))
 |_=>none
section
variable{Z:Ent K}
end
section
variable{X:Cx}{Z:Ent X.K}{a b c:Expr}{fa fb fc:FE}{pos:Pos}
end
end DL
namespace DL
open PySem PySem.Spec PyProof.Rows L2
variable{K:PySem.W.Frag}
section
variable{Z:Ent K}{H:Hp}{σ:L2.St}{Q:VK}
@[simp] noncomputable def Z6j(k0:Str)(f0:FE)(j:Nat)(f1:FE):FE:=fun δ=>match δ[j]? with
 |some (some (.fz (.str x)))=>(Zf f0 (Zf f1 Zs) δ).bind fun p=>match p.1 with
  | [v0,v1]=>if k0=x then none else some (.tmp (.oK [.inr k0,.inr x] [v0,v1]),p.2)
  |_=>none
 |_=>none
end
section
variable{X:Cx}{Z:Ent X.K}{a b c:Expr}{fa fb fc:FE}{pos:Pos}
end
end DL
namespace L2
open PySem PySem.Spec PyProof.Rows
section
variable{X:Cx}
noncomputable def Z3x(K:PySem.W.Frag):V→List V→Hp→VK→Prop:=fun x xs H Q=>∃p ys y,x= .ref p∧xs=[y]∧SqL K H p ys∧Zao y=true∧ys.all Zao=true∧Q (.int ((ys.countP fun z=>eqV z y):Nat)) H
noncomputable def Z5j:V→List V→Hp→VK→Prop:=fun x xs H Q=>∃a b i,x= .str a∧xs=[.str b,.int i]∧Q (.int (Txt.find3 a b i)) H
end
end L2
namespace DL
open PySem PySem.Spec PyProof.Rows L2
variable{K:PySem.W.Frag}
section
variable{Z:Ent K}{H:Hp}{σ:L2.St}{Q:VK}{E:Ends}
@[simp] noncomputable def Z5k:List D→Option SV
 | [.lst xs,x]=>if x.isFlat=true∧xs.all D.isFlat=true then some (.fz (.int ((xs.countP fun y=>eqFl y x):Nat)))else none
 |_=>none
@[simp] noncomputable def Z5l:List D→Option SV
 | [.str a,.str b,.int i]=>some (.fz (.int (Txt.find3 a b i)))
 |_=>none
@[simp] noncomputable def augF(i:Nat)(j:Int):FS:=fun δ=>match δ[i]? with
 |some (some (.fz (.int x)))=>some (.nx (δ.set i (some (.fz (.int (x+j))))))
 |_=>none
@[simp] noncomputable def Z6k:FE:=fun δ=>some (.tmp (.oL none [[]]),δ)
noncomputable def Z0a(i:Nat):FS:=fun δ=>match δ[i]? with
 |some (some (.oL p xss))=>if xss.length<PySem.sizeLine then some (.nx (δ.set i (some (.oL p (xss++[[]])))))else none
 |_=>none
@[simp] theorem Z1t{i:Nat}{δ:DSt}{p:Option Addr}{xss:List (List D)}(hi:δ[i]? =some (some (.oL p xss)))(hz:xss.length<PySem.sizeLine):Z0a i δ=some (.nx (δ.set i (some (.oL p (xss++[[]]))))):=by
 unfold Z0a;rw[hi];exact if_pos hz
noncomputable abbrev tTop(K:PySem.W.Frag)(i:Nat):TE:=tOp (rIxL K) (tVar i) (tC (.int (-1)))
noncomputable def Z1u(i:Nat)(fe:FE):FS:=fun δ=>match δ[i]? with
 |some (some (.oL _ xss0))=>if xss0.length=0 then none else(fe δ).bind fun q=>(frz q.1 q.2).bind fun r=>match r.2[i]? with
  |some (some (.oL p xss))=>(xss[xss.length- 1]?).bind fun xs=>if xs.length<PySem.sizeLine then some (.nx (r.2.set i (some (.oL p (xss.set (xss.length- 1) (xs++[r.1]))))))else none
  |_=>none
 |_=>none
end
end DL
namespace DL
open PySem PySem.Spec PyProof.Rows L2
variable{K:PySem.W.Frag}
section
variable{Z:Ent K}{H:Hp}{σ:L2.St}{Q:VK}{E:Ends}
noncomputable def Z0b(i:Nat):FE:=fun δ=>match δ[i]? with
 |some (some (.oL _ xss))=>some (.tmp (.fz (.int (xss.length:Nat))),δ)
 |_=>none
@[simp] theorem Z1v{i:Nat}{δ:DSt}{p:Option Addr}{xss:List (List D)}(hi:δ[i]? =some (some (.oL p xss))):Z0b i δ=some (.tmp (.fz (.int (xss.length:Nat))),δ):=by unfold Z0b;rw[hi]
noncomputable abbrev Z6l(K:PySem.W.Frag):List V→Hp→VK→Prop:=fun xs H Q=>∃p ys,xs=[V.ref p]∧(SqL K H p ys∨SqT K H p ys)∧Q (.int ys.length) H
noncomputable def Z3y(i:Nat):FE:=fun δ=>match δ[i]? with
 |some (some (.oL _ xss))=>(xss[xss.length- 1]?).bind fun xs=>some (.tmp (.fz (.int (xs.length:Nat))),δ)
 |_=>none
noncomputable def Z3z(i:Nat):FE:=fun δ=>match δ[i]? with
 |some (some (.oL _ xss))=>(xss[xss.length- 1]?).bind fun xs=>(xs[xs.length- 1]?).bind fun d=>some (.tmp (.fz d),δ)
 |_=>none
noncomputable def Zlw(i:Nat):FE:=fun δ=>match δ[i]? with
 |some (some (.oL _ (xs::_)))=>some (.tmp (.fz (.tup xs)),δ)
 |_=>none
@[simp] theorem Zwq{i:Nat}{δ:DSt}{p:Option Addr}{xss:List (List D)}{xs:List D}(hi:δ[i]? =some (some (.oL p (xs::xss)))):Zlw i δ=some (.tmp (.fz (.tup xs)),δ):=by unfold Zlw;rw[hi]
noncomputable abbrev Z6m(K:PySem.W.Frag):List V→Hp→VK→Prop:=fun xs H Q=>∃p ys,xs=[V.ref p]∧((SqL K H p ys∧∀l,H l=none→Q (.ref l) (upd H l (.tup ys)))∨(SqT K H p ys∧Q (.ref p) H))
noncomputable def Z6n(j i:Nat):FS:=fun δ=>match δ[i]? with
 |some (some (.oL p xss))=>(xss[xss.length- 1]?).bind fun xs=>if i≠j∧j<δ.length then some (.nx ((δ.set i (some (.oL p xss.dropLast))).set j (some (.ol xs))))else none
 |_=>none
noncomputable def hole(H:Hp)(ns:Zw):Hp:=fun b=>if b∈adr ns then none else H b
noncomputable def spM(K:PySem.W.Frag)(g:Addr→List (List D)→Option (List (List D))):Sp:=fun vs H Q _=>∃F a xss ws ns yss,vs=[V.ref a]∧Same F H∧Kids K F xss ws ns∧(adr ((a,HO.lst ws)::ns)).Nodup∧(∀p∈(a,HO.lst ws)::ns,F p.1=none∧H p.1=some p.2)∧g a xss=some yss∧
 ∀H' F' ws' ns',Same (hole H ((a,.lst ws)::ns)) H'→Same F F'→Same F' H'→(∀(b:Addr) (o:HO),F' b=some o→F b=some o∨hole H ((a,.lst ws)::ns) b=none)→Kids K F' yss ws' ns'→(adr ((a,HO.lst ws')::ns')).Nodup→
  (∀p∈(a,HO.lst ws')::ns',F' p.1=none∧hole H ((a,.lst ws)::ns) p.1=none∧H' p.1=some p.2)→Q .non H'
@[simp] noncomputable def Zt3(n:Nat)(a:Addr)(xss:List (List D)):DSt:=some (.oL (some a) xss)::List.replicate (n- 1) none
@[simp] noncomputable def Z0c(a:Addr)(o:Option (Option SV)):Option (List (List D)):=match o with
 |some (some (.oL (some b) yss))=>if b=a then some yss else none
 |_=>none
@[simp] noncomputable def outM(f:FS)(n:Nat)(a:Addr)(xss:List (List D)):Option (List (List D)):=match f (Zt3 n a xss)with
 |some (.nx δ)=>Z0c a δ[0]?
 |_=>none
open Classical in
noncomputable def mutF(i:Nat)(g:Addr→List (List D)→Option (List (List D))):FS:=fun δ=>match δ[i]? with
 |some (some (.oL p xss))=>if h:∃o,∀a,g a xss=some o then some (.nx (δ.set i (some (.oL p h.choose))))else none
 |_=>none
end
end DL
namespace DL
open PySem PySem.Spec PyProof.Rows L2
section
variable{X:Cx}{Z:Ent X.K}{a b c:Expr}{fa fb fc:FE}{pos:Pos}
end
end DL
namespace L2
open PySem PySem.Spec PyProof.Rows
section
variable{X:Cx}
noncomputable abbrev Z6o:List V→Hp→VK→Prop:=fun xs H Q=>∃(x:Str) (n:Int),xs=[V.str x]∧PySem.intText? x=some n∧x.length≤640∧Q (.int n) H
end
end L2
namespace DL
open PySem PySem.Spec PyProof.Rows L2
variable{K:PySem.W.Frag}
noncomputable def Z6p:List D→Option SV
 | [.str x]=>if x.length≤640 then(PySem.intText? x).bind fun n=>some (.fz (.int n))else none
 |_=>none
section
variable{X:Cx}{Z:Ent X.K}{a:Expr}{fa:FE}{pos:Pos}
end
end DL
namespace L2
open PySem PySem.Spec PyProof.Rows
section
variable{X:Cx}
noncomputable def Z6q(K:PySem.W.Frag):V→List V→Hp→VK→Prop:=fun x vs H Q=>∃l b xs zs,x= .ref l∧vs=[.ref b]∧H l=some (.lst xs)∧SqT K H b zs∧xs.length+zs.length≤sizeLine∧Q .non (upd H l (.lst (xs++zs)))
noncomputable def Z5m:List V→Hp→VK→Prop:=fun xs H Q=>∃p kvs,xs=[.ref p]∧RdK H p kvs∧∀l,H l=none→Q (.ref l) (upd H l (.lst (kvs.map fun kv=>kV kv.1)))
end
end L2
namespace DL
open PySem PySem.Spec PyProof.Rows L2
variable{K:PySem.W.Frag}
noncomputable def Z30:List D→Option SV
 | [.dK ks _]=>some (.ol (ks.map keyD))
 |_=>none
@[simp] theorem Z1w(ks:List Key)(vs:List D):Z30 [.dK ks vs]=some (.ol (ks.map keyD)):=rfl
section
variable{Z:Ent K}{H:Hp}{σ:L2.St}{Q:VK}{E:Ends}
@[simp] noncomputable def SV.tup?:RV→Option (List D)
 | .tmp (.fz (.tup ys))=>some ys
 |_=>none
@[simp] noncomputable def Z6r(i:Nat)(fe:FE):FS:=fun δ=>match δ[i]? with
 |some (some (.ol _))=>(fe δ).bind fun p=>(SV.tup? p.1).bind fun ys=>match p.2[i]? with
  |some (some (.ol xs))=>if xs.length+ys.length≤PySem.sizeLine then some (.nx (p.2.set i (some (.ol (xs++ys)))))else none
  |_=>none
 |_=>none
end
section
variable{X:Cx}{Z:Ent X.K}{a b c:Expr}{fa fb fc:FE}{pos:Pos}
end
end DL
namespace DL
open PySem PySem.Spec PyProof.Rows L2
section
variable{K:PySem.W.Frag}{Z:Ent K}{H:Hp}{σ:L2.St}{Q:VK}
@[simp] noncomputable def bmX(T:String)(g:List D→Option SV)(fo:FE)(fa:FAX):FX:=fun δ=>(fo δ).bind fun p=>(rdv p.1 p.2).bind fun d0=>if tyOk T d0=true then(fa p.2).bind fun
 | .x e δ2=>some (.x e δ2)
 | .v rvs δ2=>(Zdj (p.1::rvs) δ2).bind fun ds=>(g ds).bind fun sv=>some (.v (.tmp sv) δ2)else none
end
section
variable{X:Cx}{Z:Ent X.K}{a b:Expr}{fa:FE}{fx:FX}
end
end DL
namespace DL
open PySem PySem.Spec PyProof.Rows L2
section
variable{K:PySem.W.Frag}{Z:Ent K}{H:Hp}{σ:L2.St}{Q:VK}{E:Ends}
inductive MR where
 |v (yss:List (List D))|x (e:Exn)
noncomputable def spMX(K:PySem.W.Frag)(g:Addr→List (List D)→Option MR):Sp:=fun vs H Q E=>∃F a xss ws ns r,vs=[V.ref a]∧Same F H∧Kids K F xss ws ns∧(adr ((a,HO.lst ws)::ns)).Nodup∧(∀p∈(a,HO.lst ws)::ns,F p.1=none∧H p.1=some p.2)∧g a xss=some r∧match r with
 | .v yss=>∀H' F' ws' ns',Same (hole H ((a,.lst ws)::ns)) H'→Same F F'→Same F' H'→(∀(b:Addr) (o:HO),F' b=some o→F b=some o∨hole H ((a,.lst ws)::ns) b=none)→Kids K F' yss ws' ns'→(adr ((a,HO.lst ws')::ns')).Nodup→
   (∀p∈(a,HO.lst ws')::ns',F' p.1=none∧hole H ((a,.lst ws)::ns) p.1=none∧H' p.1=some p.2)→Q .non H'
 | .x e=>∀cls od H' F',Same (hole H ((a,.lst ws)::ns)) H'→Same F F'→Same F' H'→(∀(b:Addr) (o:HO),F' b=some o→F b=some o∨hole H ((a,.lst ws)::ns) b=none)→Zlc K F' e cls od→E cls od H'
@[simp] noncomputable def Z6s(f:FS)(n:Nat)(a:Addr)(xss:List (List D)):Option MR:=match f (Zt3 n a xss)with
 |some (.nx δ)=>(Z0c a δ[0]?).map .v
 |some (.ex e _)=>some (.x e)
 |_=>none
open Classical in
noncomputable def Z6t(i:Nat)(g:Addr→List (List D)→Option MR):FS:=fun δ=>match δ[i]? with
 |some (some (.oL p xss))=>if h:∃o,∀a,g a xss=some o then(match h.choose with
  | .v yss=>some (.nx (δ.set i (some (.oL p yss))))
  | .x e=>some (.ex e (δ.set i none)))else none
 |_=>none
noncomputable def Z1x(i:Nat)(fx:FX):FS:=fun δ=>match δ[i]? with
 |some (some (.oL _ xss0))=>if xss0.length=0 then none else(fx δ).bind fun
  | .x e δ1=>some (.ex e δ1)
  | .v rv δ1=>(frz rv δ1).bind fun r=>match r.2[i]? with
   |some (some (.oL p xss))=>(xss[xss.length- 1]?).bind fun xs=>if xs.length<PySem.sizeLine then some (.nx (r.2.set i (some (.oL p (xss.set (xss.length- 1) (xs++[r.1]))))))else none
   |_=>none
 |_=>none
end
section
variable{X:Cx}{Z:Ent X.K}{a b c:Expr}{fa fb fc:FE}{fx:FX}{pos:Pos}
end
end DL
namespace L2
open PySem PySem.Spec PyProof.Rows
end L2
namespace L2
open PySem PySem.Spec PyProof.Rows
section
variable{X:Cx}
noncomputable def Z6u(K:PySem.W.Frag):R2:=fun x y H Q=>∃a k xs,x= .ref a∧y= .int k∧SqT K H a xs∧xs≠[]∧2≤k∧k≤1000∧xs.length≤1000∧∀p,H p=none→Q (.ref p) (upd H p (.tup (List.replicate k.toNat xs).flatten))
end
end L2
namespace DL
open PySem PySem.Spec PyProof.Rows L2
variable{K:PySem.W.Frag}
section
variable{Z:Ent K}
noncomputable def Z6v:D→D→Option SV
 | .tup xs,.int k=>if xs.isEmpty=false∧2≤k∧k≤1000∧xs.length≤1000 then some (.fz (.tup (List.replicate k.toNat xs).flatten))else none
 |_,_=>none
end
section
variable{X:Cx}{Z:Ent X.K}{a b:Expr}{fa fb:FE}{pos:Pos}
end
end DL
namespace L2
open PySem PySem.Spec PyProof.Rows
section
variable{X:Cx}
noncomputable def Zp2:V→List V→Hp→VK→Prop:=fun x xs H Q=>∃a b k,x= .str a∧xs=[.str b,.int k]∧(b.length==0)=false∧0≤k∧k≤1000∧a.length≤sizeLine∧(Txt.splitMax a b k).length≤sizeLine∧∀p,H p=none→Q (.ref p) (upd H p (.lst ((Txt.splitMax a b k).map V.str)))
theorem Zp3:MtR X "str.split" Zp2:=by
 intro pins s σ H x xs v us Q I rx rs h
 obtain⟨a,b,k,rfl,rfl,hb,k0,k1,ha,hz,q⟩:=h
 obtain⟨t,rfl⟩:=rx
 cases rs with
 |cons r1 rs=>
 cases rs with
 |cons r2 rs=>
 cases rs
 obtain⟨t1,rfl⟩:=r1
 obtain⟨t2,rfl⟩:=r2
 have hk:(decide (k< -(2^63:Int))||decide (k≥2^63))=false:=by
  rw[decide_eq_false (by omega),decide_eq_false (by omega)];rfl
 have one:Txt.splitMax a b k=[a]→∀tk,EP X pins σ Q (.ref s.heap.objs.size) {s with toks:=tk,heap:=s.heap.push {cls:=.type "list",data:=.seq #[.str a t]}}:=fun e tk=>by
  rw[e]at q
  exact⟨.ref _,_,I.lnew (t':=tk) (ys:=[.str a]) (its:=[.str a t]) (.cons ⟨t,rfl⟩ .nil) (by show 1≤sizeLine;decide),rfl,q _ I.fresh⟩
 cases h1:(decide (a.length<b.length)||decide (Builtin.Str.strKind a<Builtin.Str.strKind b))
 ·cases hf:(Builtin.Str.occurrences a b 0 a.length (PySem.limitOf a k)).isEmpty
  ·have e:Txt.splitMax a b k=Builtin.Str.partsBetween a (Builtin.Str.occurrences a b 0 a.length (PySem.limitOf a k)) b.length:=(if_neg (ne_true_of_eq_false h1)).trans (if_neg (ne_true_of_eq_false hf))
   rw[e]at hz q
   refine call_meets F.slot_str_split (typeIs_str _ _ _) F.entry_str_split (F.args_str_split_3 _ _ _) (meets_str_split_sep_max a b k t t1 t2 hk h1 hb hf ha hz) ?_
   rw[strsFrom_eq]
   have hv:=Zfk (numbered s.toks (Builtin.Str.partsBetween a (Builtin.Str.occurrences a b 0 a.length (PySem.limitOf a k)) b.length))
   rw[numbered_texts]at hv
   exact⟨.ref _,_,I.lnew (t':=_) hv (by rw[List.length_map];exact hz),rfl,q _ I.fresh⟩
  ·exact call_meets F.slot_str_split (typeIs_str _ _ _) F.entry_str_split (F.args_str_split_3 _ _ _) (meets_str_split_max_not_found a b k t t1 t2 hk h1 hb hf) (one ((if_neg (ne_true_of_eq_false h1)).trans (if_pos hf)) s.toks)
 ·exact call_meets F.slot_str_split (typeIs_str _ _ _) F.entry_str_split (F.args_str_split_3 _ _ _) (meets_str_split_max_cannot_occur a b k t t1 t2 hk h1) (one (if_pos h1) s.toks)
end
end L2
namespace DL
open PySem PySem.Spec PyProof.Rows L2
variable{K:PySem.W.Frag}
section
variable{Z:Ent K}
@[simp] noncomputable def Zhd:List D→Option SV
 | [.str a,.str b,.int k]=>if(b.length==0)=false∧0≤k∧k≤1000∧a.length≤PySem.sizeLine∧(Txt.splitMax a b k).length≤PySem.sizeLine then some (.ol ((Txt.splitMax a b k).map D.str))else none
 |_=>none
theorem Zst:Zou Z Zp2 Zhd:=by
 intro F H σ δ own vs ds sv Q s r e k
 unfold Zhd at e
 split at e
 ·rename_i a b n
  split at e
  ·rename_i h
   cases e
   cases r with
   |cons h1 t=>cases t with
    |cons h2 t=>cases t with
     |cons h3 t=>cases t;exact⟨_,_,rfl,a,b,n,h1.str,by rw[h2.str,h3.int],h.1,h.2.1,h.2.2.1,h.2.2.2.1,h.2.2.2.2,fun p hp=>k.lst s (Zfl _) hp⟩
  ·cases e
 ·cases e
end
section
variable{X:Cx}{Z:Ent X.K}{a b c:Expr}{fa fb fc:FE}
theorem Zsu{apos cpos:Pos}(ha:PE X a (Ze Z fa))(hb:PE X b (Ze Z fb))(hc:PE X c (Ze Z fc))(hbase:attributeBase a "split" X.env (eval a X.env)=eval a X.env:=by rfl)
  (hfew:((backTo cpos (starEach [b,c] X.env)).all (fun x=>!x.1)&&(backToKw cpos (keywordEach [] X.env)).all (fun x=>x.1.isSome)&&decide ([b,c].length+([]:List Keyword).length+(if([]:List Keyword).isEmpty then 0 else 1)<30))=true:=by rfl)
  (hline:(apos.endLine==cpos.line)=true:=by rfl) (hs:starEach [b,c] X.env=(false,eval b X.env)::starEach [c] X.env:=by rfl) (hs2:starEach [c] X.env=(false,eval c X.env)::starEach [] X.env:=by rfl) (hpl:(backTo cpos (starEach [c] X.env)).any (·.1)=false:=by rfl):
  PE X (.Call (.Attribute a "split" apos) [b,c] [] cpos) (Ze Z (bmF "str" Zhd fa (Zd fb (Zd fc Zj)))):=
 (Zju PySem.F.plainAttrs_str PySem.F.slot_str_split PySem.F.type_str_split Zp3 ha (Zh hb (Zh hc Zag hs2) hs) hbase hfew hline hs hpl).imp fun _ _ _ h=>l_bm Zst h
end
end DL
namespace L2
open PySem PySem.Spec PyProof.Rows
section
variable{M:Model}{A:Around}{E:Value→Shared→Prop}{s:Shared}{env:Env}
theorem cw_typeK{pos:Pos}{T:String}{xs:List (Bool×Sem Value)}{ks:List (Option Str×Sem Value)}{Q:Value→Shared→Prop}(h1:xs.any (·.1)=false)(h2:ks.any (·.1.isNone)=false)
  (k:wpAny M A (evalArgs (.type T) true xs ks) (fun z s1=>wpAny M A (call (.type T) z.pos z.kw) Q E s1) E s):wpAny M A (callWith pos (.type T) [] xs ks) Q E s:=by
 unfold callWith
 refine wpAny_bind (wpAny_holding (wpAny_mono k (fun z s1 k1=>wpAny_bind (wpAny_standAt ?_)) fun _ _ y=>y))
 simp only[h1,h2,Bool.or_false]
 refine wpAny_bind (wpAny_pure (wpAny_bind (wpAny_mono k1 (fun r s2 kr=>wpAny_bind (wpAny_holding (wpAny_point (wpAny_pure kr)))) fun _ _ y=>y)))
end
section
variable{prog:Program}{w:World}{A:Around}{E:Value→Shared→Prop}{s:Shared}
theorem Z31{T newId:String}{self x:Value}{ks:List (Str×Value)}(hl:typeLookup (.type T) "__init__"=pure (some (.builtin "object.__init__")))
  (hm:Bind.madeBy (.type T)=pure (some newId)) (hne:(some newId !=some "object.__new__")=true):Meets (Builtin.«object.__init__» ⟨[self,x],ks⟩) (fun _ R s=>s.TypeIs self T∧R (.ok (.ret .none)) s):=
 .of_wp fun P W B R s q=>by
  obtain⟨hT,q⟩:=q
  repeat (any_goals (first|assumption|wp_step))
  exact⟨_,rfl,q⟩
theorem ctK{T newId:String}{Bn:Builtin}{x:Value}{ks:List (Str×Value)}{S:PySem.Spec}{Q:Value→Shared→Prop}(ft:TypeCalled T newId "object.__init__")
  (hne:(some newId !=some "object.__new__")=true) (hct:checkTypeCall T ⟨[x],ks⟩=pure ()) (hcn:checkBuiltinCall newId ⟨[.type T,x],ks⟩=pure ())
  (hok:∀obj,argsOk "object.__init__" ⟨[obj,x],ks⟩) (en:entryFor table newId=some Bn) (g:Meets (Bn ⟨[.type T,x],ks⟩) S)
  (q:S A.in1 (wants (fun obj s1=>s1.TypeIs obj T∧Q obj s1) E) s):wpAny (model prog w) A (call (.type T) [x] ks) Q E s:=by
 obtain⟨c,tl,hmro⟩:=ft.mro
 have hmade:=ft.made;have hsub:=ft.sub;have hnt:=ft.notType;have hcc:=ft.canCreate
 refine wpAny_call (codeAny_of_tree (show wpAny _ _ (callAny (.type T) _) _ _ _ from wpAny_pure ⟨Code.quiet_builtin _ (by decide+kernel),codeAny_builtin F.entry_type_call ?_⟩))
 rw[Around.under_plain (weight_type_call_type T [x] ks) (units_type_call_type T [x] ks)]
 repeat (any_goals (first|assumption|wp_step))
 refine codeAny_mono (codeAny_call_builtin ft.plain en (wpAny_of_eq hcn (g prog w A.in1 _ s q))) fun r s1 hr=>?_
 match r,hr with
 | .error e,hr=>exact hr
 | .ok (.ret obj),hr=>
  obtain⟨hT,hq⟩:=hr
  have hli:=ft.init.lookup;have hbi:=ft.init.bind obj
  repeat (any_goals (first|assumption|wp_step))
  refine codeAny_mono (codeAny_call_builtin ft.init.plain F.entry_object_init (ft.init.check _ _ _ _ _ _ _ _ hT (hok obj) (Z31 (T:=T) (self:=obj) (x:=x) (ks:=ks) hli hmade hne prog w A.in1 (wants (fun y s2=>y= .none∧Q obj s2) E) s1 ⟨hT,rfl,hq⟩))) fun r2 s2 hr2=>?_
  match r2,hr2 with
  | .error e,hr2=>exact hr2
  | .ok (.ret y),hr2=>
   obtain⟨rfl,hq2⟩:=hr2
   repeat (any_goals (first|assumption|wp_step))
theorem Zp4(l:Addr)(us:Array Value)(n:Nat)(dct:Option Addr)(sl:Array (Option Value))(t:Tok):
  Meets (Builtin.«enumerate.__new__» ⟨[.type "enumerate",.ref l],[("start",.int 1 t)]⟩) (fun _ R s=>s.heap.get? l=some {cls:=.type "list",dict:=dct,data:=.seq us n,slots:=sl}∧
   R (.ok (.ret (.ref (s.heap.push {cls:=.type "list_iterator",data:=.fields #[.ref l,.int 0 0]}).objs.size))) {s with heap:=(s.heap.push {cls:=.type "list_iterator",data:=.fields #[.ref l,.int 0 0]}).push {cls:=.type "enumerate",data:=.fields #[.none,.bool false,.ref s.heap.objs.size,rawInt 1,.none,.none]}}):=
 .of_wp fun P W B R s q=>by
  obtain⟨x1,x2,x3,x4,x5⟩:=s;obtain⟨hl,q⟩:=q;have hsub:=sub_enumerate;have f1:=AutoSeq1.idx_int
  have hL:Heap.IsList (Shared.heap ⟨x1,x2,x3,x4,x5⟩) l us:=⟨_,hl,rfl,n,rfl⟩
  wp_walk using wpAny_loadPart' hl
  refine wpAny_stack_any fun st=>wpAny_pure ?_;split
  ·rename_i c _ _ _ _ _
   cases(c==Value.type "enumerate")
   ·wp_walk using wpAny_loadPart' hl,wpAny_pyIter_list hL
    exact⟨_,rfl,q⟩
   ·wp_walk using wpAny_loadPart' hl,wpAny_pyIter_list hL
    exact⟨_,rfl,q⟩
  ·wp_walk using wpAny_loadPart' hl,wpAny_pyIter_list hL
   exact⟨_,rfl,q⟩
theorem Zsv{it:Addr}{fp:List Addr}{n:Nat}{P:Nat→Value→Prop}{St:Nat→Heap→Prop}(D:Draws prog w A it fp n P St):Draws prog w A it fp (n+1) (fun i v=>∃j,i=j+1∧P j v) (fun i h=>∃j,i=j+1∧St j h)where
 live:=fun i h ⟨j,_,st⟩=>D.live j h st
 frame:=fun i h h' ⟨j,e,st⟩ k=>⟨j,e,D.frame j h h' st k⟩
 item:=fun i s Q E hi ⟨j,e,st⟩ hQ=>D.item j s Q E (by omega) st fun x h' tk hP st' hs=>hQ x h' tk ⟨j,e,hP⟩ ⟨j+1,by omega,st'⟩ hs
 done:=fun s Q E ⟨j,e,st⟩ hE=>D.done s Q E (Nat.succ.inj e▸st) hE
theorem Zcn{e it l:Addr}{i:Nat}{c:Int}{items:Array Value}{old:Value}{Q:Option Value→Shared→Prop}(hh:A.handled=none)(he:IsEnum s.heap e it c old)(hit:s.heap.IsListIter it l i)(hl:s.heap.IsList l items)(hx:items[i]? =none)
  (hQ:∀h',Heap.ExtBut it s.heap h'→Q none {s with heap:=h'}):wpAny (model prog w) A (pyNext (.ref e)) Q E s:=by
 have hT:s.TypeIs (.ref e) "enumerate":=⟨_,he,rfl⟩;unfold pyNext
 refine wpAny_bind (wpAny_attempt (wpAny_callSpecial?_slot (name:=Str.ofString "__next__") hT F.slot_enumerate_next (wpAny_call_entry F.slot_enumerate_next hT F.entry_enumerate_next ?_ (F.args_enumerate_next_1 _))))
 show wpAny _ _ (field (.ref e) 2 >>=_) _ _ _;refine wpAny_bind (wpAny_field he rfl (x:=.ref it) rfl ?_)
 refine wpAny_bind (wpAny_nextOf_list_end (by first|exact hh| (rw[show A.in1.handled=A.handled from rfl];exact hh)) hit hl hx fun h' x he' hx'=>?_);obtain⟨o,ho,hc⟩:=hx'
 refine wpAny_bind (wpAny_isInstance (T:="StopIteration") (b:=true) ⟨o,ho,hc⟩ isSubtype_stop ?_);exact wpAny_pure (hQ _ he')
theorem Zm1{l:Addr}{us:Array Value}{t:Tok}{Q:Value→Shared→Prop}(hL:s.heap.IsList l us)
  (h:∀h',IsEnum h' (s.heap.objs.size+1) s.heap.objs.size 1 .none→h'.IsListIter s.heap.objs.size l 0→h'.objs.size=s.heap.objs.size+2→(∀b o,s.heap.get? b=some o→h'.get? b=some o)→Q (.ref (s.heap.objs.size+1)) {s with heap:=h'}):
  wpAny (model prog w) A (call (.type "enumerate") [.ref l] [("start",.int 1 t)]) Q E s:=by
 obtain⟨⟨c,dct,dt,sl⟩,hl,hc,n,hd⟩:=hL;replace hc:c= .type "list":=hc;replace hd:dt= .seq us n:=hd;subst hc hd
 refine ctK F.called_enumerate (by decide) (by kernel_rfl) (by kernel_rfl) (fun obj=>by unfold argsOk;kernel_rfl) F.entry_enumerate_new (Zp4 l us n dct sl t) ⟨hl,?_⟩
 have hz:(s.heap.push {cls:=.type "list_iterator",data:=.fields #[.ref l,.int 0 0]}).objs.size=s.heap.objs.size+1:=Heap.size_push ..
 show _∧_;rw[hz]
 have he:IsEnum ((s.heap.push {cls:=.type "list_iterator",data:=.fields #[.ref l,.int 0 0]}).push {cls:=.type "enumerate",data:=.fields #[.none,.bool false,.ref s.heap.objs.size,rawInt 1,.none,.none]}) (s.heap.objs.size+1) s.heap.objs.size 1 .none:=by
  have:=Heap.get?_push_size (s.heap.push {cls:=.type "list_iterator",data:=.fields #[.ref l,.int 0 0]}) (o:={cls:=.type "enumerate",data:=.fields #[.none,.bool false,.ref s.heap.objs.size,rawInt 1,.none,.none]}) rfl
  rw[hz]at this;exact this
 exact⟨⟨_,he,rfl⟩,h _ he ⟨_,Heap.get?_push_of_some _ (Heap.get?_push_size _ rfl),rfl,rfl⟩ (by rw[Heap.size_push,hz]) fun b o x=>Heap.get?_push_of_some _ (Heap.get?_push_of_some _ x)⟩
end
section
variable{X:Cx}
noncomputable def Ite1(K:PySem.W.Frag)(a:Addr):It:=
 ⟨fun i H=>∃xs x,SqL K H a xs∧xs[i]? =some x,fun i H x H'=>∃p v,x= .ref p∧H p=none∧H'=upd H p (.tup [.int ((i+1:Nat):Int),v])∧∀xs,SqL K H a xs→xs[i]? =some v,fun i H=>∃xs,SqL K H a xs∧xs.length≤i⟩
theorem Zm2{P:Program}{w:World}{K:PySem.W.Frag}{elts:List Expr}{kk:Nat}{tpos:Pos}(a e it:Addr)(hei:e≠it):Turn P w K (.Tuple elts kk tpos) (Ite1 K a) [e,it] e (fun i h=>(∃old,IsEnum h e it ((i+1:Nat):Int) old)∧h.IsListIter it a i)where
 mem:=by simp
 obj:=fun i h st b hb=>by
  have hb':b=e∨b=it:=by simpa using hb
  rcases hb' with z|z
  ·subst z
   obtain⟨old,q⟩:=st.1
   exact⟨_,q,fun v y=>by
    have y':Data.fields _=Data.cell v:=y
    cases y'⟩
  ·subst z
   obtain⟨o,q,c,d⟩:=st.2
   exact⟨o,q,fun v y=>by rw[d]at y;cases y⟩
 keep:=fun i h h' st k=>⟨let⟨old,q⟩:=st.1;⟨old,k e (by simp) _ q⟩,st.2.at fun o q=>k it (by simp) o q⟩
 item:=by
  intro X hP hw hK hc i pins s σ H E I hf st hg
  subst hP hw hK
  obtain⟨xs,x,hq,hx⟩:=hg
  obtain⟨its,rv,p,hz⟩:=I.list hq
  obtain⟨u,hu,ru⟩:=rv.get hx
  obtain⟨⟨old,he⟩,hit⟩:=st
  have hl:s.heap.IsList a its.toArray:=p.isList
  have ai:a≠it:=fun z=>by
   obtain⟨o1,q1,c1,_⟩:=hit
   obtain⟨o2,q2,c2,_⟩:=hl
   rw[z,q1]at q2;cases q2
   rw[c1]at c2;exact absurd c2 (by decide)
  have ae:e∉[it,a]:=fun z=>by
   have z':e=it∨e=a:=by simpa using z
   rcases z' with z|z
   ·exact hei z
   ·obtain⟨o2,q2,c2,_⟩:=hl
    rw[←z,he]at q2;cases q2;exact absurd (show Value.type "enumerate"=Value.type "list"from c2) (by decide)
  have D:=Draws.list (prog:=X.prog) (w:=X.w) (A:=X.A.in1) (by first|exact I.ok.hd hc| (rw[show X.A.in1.handled=X.A.handled from rfl];exact I.ok.hd hc)) it a ai its.toArray
  have D1:=Zsv D
  have hlt:i<its.toArray.size:=by
   have:=(List.getElem?_eq_some_iff.mp hu).1
   rw[List.size_toArray];exact this
  refine wpAny_pyNext_enum_itemD (i:=i+1) D1 he ⟨i,rfl,hit,hl⟩ (Nat.succ_lt_succ hlt) hei ae fun y h' tk hy hout st' hT hsz hk=>⟨.ref s.heap.objs.size,rfl,?_⟩
  obtain⟨j,ej,hy⟩:=hy
  have ej:j=i:=by omega
  subst ej
  obtain⟨j',ej',st'⟩:=st'
  have ej':j'=j+1:=by omega
  subst ej'
  refine wpAny_letOwnedTupleGo_enum hout fun h2 he2 hs2=>?_
  have hy':its.toArray[j]? =some y:=hy
  have ey:y=u:=by
   have:its[j]? =some y:=by simpa using hy'
   rw[hu]at this;cases this;rfl
  subst ey
  have kk:∀b o,b≠e→b≠it→s.heap.get? b=some o→h2.get? b=some o:=fun b o h1 h3 q=>(hs2.2 b h1).trans (hk b o h1 h3 q)
  have neT:s.heap.objs.size≠e:=Nat.ne_of_gt (Heap.lt_size he)
  have I2:=I.turnedT (h':=h2) (t':=tk+1) (e:=e) (it:=it) (T:=s.heap.objs.size) (xs:=[.int ((j+1:Nat):Int),x]) (its:=[.int ((j+1:Nat):Int) tk,y]) kk (hf e (by simp)) (hf it (by simp)) rfl ⟨_,(hs2.2 _ neT).trans hT,rfl,_,rfl⟩ (.cons ⟨tk,rfl⟩ (.cons ru .nil)) (by show 2≤sizeLine;decide)
   ⟨_,he2⟩ (let⟨o,q,_⟩:=st'.1;⟨o,(hs2.2 it (Ne.symm hei)).trans q⟩)
  refine⟨.ref s.heap.objs.size,_,I2,rfl,⟨s.heap.objs.size,x,rfl,I.hok.fresh (Nat.le_refl _),rfl,fun ys hy2=>by rw[I.list_inj hy2 hq];exact hx⟩,⟨⟨_,he2⟩,st'.1.at fun o q=>(hs2.2 it (Ne.symm hei)).trans q⟩,fun b hb=>?_⟩
  rw[Zr fun z=>?_]
  ·exact(hf b hb).1
  ·have hb':b=e∨b=it:=by simpa using hb
   rcases hb' with y|y
   ·rw[←z,y]at neT;exact neT rfl
   ·obtain⟨o,q,_⟩:=hit
    rw[y]at z
    exact absurd (Heap.lt_size q) (by rw[z];exact Nat.lt_irrefl _)
 done:=by
  intro X hP hw hK hc i pins s σ H E I hf st hg
  subst hP hw hK
  obtain⟨xs,hq,hx⟩:=hg
  obtain⟨its,rv,p,hz⟩:=I.list hq
  obtain⟨⟨old,he⟩,hit⟩:=st
  obtain⟨f0,f1,f2,f3,f4,f5⟩:=hf it (by simp)
  have hl:=rv.length
  exact Zcn (I.ok.hd hc) he hit p.isList (by simp;omega) fun h' eb=>⟨rfl,I.turned (t':=s.toks) (fun b o hb q=>eb b o hb q) f0 f1 f3 f4 f5⟩
 self:=fun _ _ _ _ _ st h=>let⟨⟨old,he⟩,_⟩:=st;wpAny_pyIter_enum he h
noncomputable def Zt4(K:PySem.W.Frag)(ta:TA):TI:=fun σ H R=>ta σ H fun vs H1=>∃a xs,vs=[.ref a]∧SqL K H1 a xs∧R (Ite1 K a) H1
theorem Zsw{l:Expr}{elts:List Expr}{kk j:Nat}{tpos p pos kp q:Pos}{ta:TA}(hg:Gl X "enumerate")(hm:X.mg "enumerate"=none)(ha:PA X [l] ta)(hs:starEach [l] X.env=[(false,eval l X.env)]:=by rfl)
  (he:eval (.Call (.Name "enumerate" p) [l] [⟨some "start",.Constant (.int 1) j q,kp⟩] pos) X.env=(do callWith pos (←eval (.Name "enumerate" p) X.env) [] (backTo pos (starEach [l] X.env)) (backToKw pos (keywordEach [⟨some "start",.Constant (.int 1) j q,kp⟩] X.env))):=by rfl):
  PI X (.Tuple elts kk tpos) (.Call (.Name "enumerate" p) [l] [⟨some "start",.Constant (.int 1) j q,kp⟩] pos) (Zt4 X.K ta):=by
 intro pins s σ H R I h
 rw[he]
 refine wpAny_bind (Ze8 I hg hm boot_enumerate (cw_typeK (by rw[hs];rfl) rfl ?_))
 have hb:backTo pos (starEach [l] X.env)=[(false,eval l X.env)]:=by rw[hs];rfl
 rw[hb]
 refine evalArgs_kwB rfl ?_
 rw[←hb]
 refine thn (ha pos pins s σ H _ I h) fun us s1 zq9=>?_
 obtain⟨vs,H1,I1,r1,q1⟩:=zq9
 obtain⟨a,xs,e,hq,k⟩:=q1
 subst e
 obtain⟨u,rfl,ru⟩:=Zds r1
 cases ru
 refine kws_cons (wpAny_Constant_int (kws_nil ?_))
 have I2:Inv X pins σ H1 {s1 with toks:=s1.toks+1}:=I1.tok _
 show wpAny _ _ (call (.type "enumerate") [.ref a] [("start",.int 1 s1.toks)]) _ _ _
 obtain⟨its,rv,p',hz⟩:=I2.list hq
 refine Zm1 p'.isList fun h' he' hit hsz hk=>wpAny_pyIter_enum he' ?_
 have I3:Inv X pins σ H1 {s1 with heap:=h',toks:=s1.toks+1}:=I2.kept (t':=s1.toks+1) hk
 refine⟨s1.heap.objs.size+1,[s1.heap.objs.size+1,s1.heap.objs.size],_,_,H1,rfl,I3,Zm2 a _ _ (Nat.succ_ne_self _),⟨⟨.none,by simpa using he'⟩,hit⟩,fun b hb=>?_,k⟩
 have hb':b=s1.heap.objs.size+1∨b=s1.heap.objs.size:=by simpa using hb
 rcases hb' with z|z
 ·subst z;exact I1.fpOk (Nat.le_succ _) (I1.hok.fresh (Nat.le_succ _))
 ·subst z;exact I1.fpOk (Nat.le_refl _) (I1.hok.fresh (Nat.le_refl _))
end
end L2
namespace DL
open PySem PySem.Spec PyProof.Rows L2
variable{K:PySem.W.Frag}
noncomputable def Zde(xs:List D):List D:=(xs.zipIdx 1).map fun p=>.tup [.int (p.2:Nat),p.1]
theorem Zm3{xs:List D}{i:Nat}{d:D}(h:(Zde xs)[i]? =some d):∃x,xs[i]? =some x∧d= .tup [.int ((i+1:Nat):Int),x]:=by
 unfold Zde at h
 rw[List.getElem?_map,List.getElem?_zipIdx]at h
 cases e:xs[i]? with
 |none=>rw[e]at h;cases h
 |some x=>rw[e]at h;cases h;exact⟨x,rfl,by rw[Nat.add_comm i 1]⟩
theorem Zm4(xs:List D):(Zde xs).length=xs.length:=by unfold Zde;rw[List.length_map,List.length_zipIdx]
theorem Zi3{F:Hp}{a:Addr}{xs:List D}{vs:List V}(h:SqL K F a vs)(r:Reps K F xs vs):Zen K (Ite1 K a) F (Zde xs):=fun F' H sF sH i=>by
 have q:SqL K H a vs:=Zay (sF.trans sH) h
 refine⟨fun d hd=>?_,fun hl=>⟨vs,q,by rw[←r.length,←Zm4];exact hl⟩⟩
 obtain⟨x,hx,rfl⟩:=Zm3 hd
 obtain⟨v,h1,h2⟩:=r.get hx
 refine⟨⟨vs,v,q,h1⟩,fun y H' zq9=>?_⟩
 obtain⟨p,w,e1,e2,e3,e4⟩:=zq9
 subst e1 e3
 have e5:=e4 vs q
 rw[h1]at e5;cases e5
 have hp:F' p=none:=sH.free e2
 have sm:Same F' (addL F' [(p,.tup [.int ((i+1:Nat):Int),v])]):=Zav fun z hz=>by obtain rfl:=List.mem_singleton.mp hz;exact hp
 refine⟨Zbr e2,[(p,.tup [.int ((i+1:Nat):Int),v])],nd1,fun z hz=>?_,.tup Zy (.cons (.int _) (.cons (h2.mono (sF.trans sm)) .nil))⟩
 obtain rfl:=List.mem_singleton.mp hz
 exact⟨e2,Zy⟩
section
variable{Z:Ent K}{H:Hp}{σ:L2.St}{Q:VK}
@[simp] noncomputable def Zp5(fd:FD):FD:=fun δ=>(fd δ).bind fun p=>match p.1 with
 | [.lst xs]=>some (Zde xs,p.2)
 |_=>none
theorem Zsx{fd:FD}{R:It→Hp→Prop}(h:Zc9 Z (Zp5 fd) σ H R):Zt4 K (Zbx Z fd) σ H R:=by
 obtain⟨F,δ,own,ds,δ',s,e,k⟩:=h
 obtain⟨⟨ds1,δ1⟩,e1,e2⟩:=Option.bind_eq_some_iff.mp e
 refine⟨F,δ,own,ds1,δ1,s,e1,fun vs H1 F1 own1 sH sF s1 r1=>?_⟩
 dsimp only at e2
 split at e2
 ·rename_i xs
  cases e2
  cases r1 with
  |cons h t=>
   cases t
   cases h with
   |lst h r=>exact⟨_,_,rfl,Zay s1.le h,k _ H1 F1 own1 sH sF s1 (Zi3 h r)⟩
 ·cases e2
end
section
variable{X:Cx}{Z:Ent X.K}{a:Expr}{fa:FE}{pos:Pos}
theorem Zwr{elts:List Expr}{k j:Nat}{tp p kp q:Pos}(hm:X.mg "enumerate"=none)(ha:PE X a (Ze Z fa))(hg:Gl X "enumerate":=by rfl)(hs:starEach [a] X.env=[(false,eval a X.env)]:=by rfl)
  (he:eval (.Call (.Name "enumerate" p) [a] [⟨some "start",.Constant (.int 1) j q,kp⟩] pos) X.env=(do callWith pos (←eval (.Name "enumerate" p) X.env) [] (backTo pos (starEach [a] X.env)) (backToKw pos (keywordEach [⟨some "start",.Constant (.int 1) j q,kp⟩] X.env))):=by rfl):
  PI X (.Tuple elts k tp) (.Call (.Name "enumerate" p) [a] [⟨some "start",.Constant (.int 1) j q,kp⟩] pos) (Zc9 Z (Zp5 (Zf fa Zs))):=(Zsw hg hm (Zk ha Zaz hs) hs he).imp fun _ _ _ h=>Zsx h
end
end DL
namespace DL
open PySem PySem.Spec PyProof.Rows L2
variable{K:PySem.W.Frag}
section
variable{Z:Ent K}
@[simp] noncomputable def Zfs:List D→Option SV
 | [.lst xs]=>some (.fz (.int (xs.length:Nat)))
 | [.tup xs]=>some (.fz (.int (xs.length:Nat)))
 | [.str x]=>if x.length≤PySem.sizeLine then some (.fz (.int (x.length:Nat)))else none
 | [.dK ks _]=>some (.fz (.int (ks.length:Nat)))
 |_=>none
theorem Z0d:Zg0 Z (fun xs H Q=>((∃p ys,xs=[V.ref p]∧(SqL K H p ys∨SqT K H p ys)∧Q (.int ys.length) H)∨(∃z,xs=[V.str z]∧z.length≤PySem.sizeLine∧Q (.int z.length) H))∨(∃a kvs,xs=[V.ref a]∧HK H a kvs∧Q (.int kvs.length) H)) Zfs:=by
 intro F H σ δ own vs ds sv Q s r e k
 unfold Zfs at e
 split at e
 ·exact .inl (Zvr F H σ δ own vs _ sv Q s r e k)
 ·exact .inl (Zvr F H σ δ own vs _ sv Q s r e k)
 ·exact .inl (Zvr F H σ δ own vs _ sv Q s r e k)
 ·cases e
  cases r with
  |cons h t=>
   cases t
   obtain⟨a,kvs,ex,ha,ek,ra⟩:=h.dK s.le
   subst ex
   exact .inr ⟨a,kvs,rfl,ha,by rw[←List.length_map (f:=fun x=>x.1) (as:=kvs),ek];exact k.fz s (.int _)⟩
 ·cases e
end
section
variable{X:Cx}{Z:Ent X.K}{a:Expr}{fa:FE}{pos:Pos}
theorem Zeq{p:Pos}(hm:X.mg "len"=none)(ha:PE X a (Ze Z fa))(hg:Gl X "len":=by rfl)(he:starEach [a] X.env=(false,eval a X.env)::starEach [] X.env:=by rfl)(hpl:(backTo pos (starEach [] X.env)).any (·.1)=false:=by rfl):PE X (.Call (.Name "len" p) [a] [] pos) (Ze Z (Zcl Zfs (Zd fa Zj))):=
 Zoz ((Zid.or Zie).or Zob) Z0d hm PySem.boot_len (Zh ha Zag he) hg (by decide) (by decide) he hpl
end
end DL
namespace My
open DL PySem
theorem Zq{n:Nat}(h:n≤16777216):n≤PySem.sizeLine:=h
theorem Zft{n:Nat}(h:n<16777216):n<PySem.sizeLine:=h
noncomputable abbrev LET:Str:="ABCDEFGHIJKLMNOPQRSTUVWXYZabcdefghijklmnopqrstuvwxyz"
theorem Zkl(a b:Str):(a++b).length=a.length+b.length:=by
 show(a.cps++b.cps).size=a.cps.size+b.cps.size
 simp
theorem Z32(c:Nat):(⟨#[c]⟩:Str).length=1:=rfl
theorem Zhe:∀xs:List Str,strs? (xs.map D.str)=some xs
 | []=>rfl
 |x::r=>by simp[Zhe r]
theorem Zws(ns:List Int)(lo hi:Option Int):∃ms:List Int,cutD (ns.map D.int) lo hi=ms.map D.int∧ms.length≤ns.length:=by
 unfold cutD
 refine⟨(ns.drop _).take _,by rw[List.map_take,List.map_drop],?_⟩
 rw[List.length_take,List.length_drop];omega
noncomputable def cat:List Str→Str
 | []=>""
 |x::r=>x++cat r
theorem Zlx:∀xs:List Str,Str.join (Str.ofString "") xs=cat xs
 | []=>rfl
 | [x]=>by show x=x++Str.empty;rw[Str.append_empty]
 |x::y::r=>by
  show x++Str.empty++Str.join (Str.ofString "") (y::r)=x++cat (y::r)
  rw[Str.append_empty,Zlx (y::r)]
theorem Z0e(xs:List Str):Txt.join (Str.ofString "") xs=cat xs:=(StrLaws.glued_eq_join _ xs).trans (Zlx xs)
theorem Z33(sep:Str)(xs:List Str):Txt.join sep xs=Str.join sep xs:=StrLaws.glued_eq_join _ xs
theorem Zt5{sep:Str}{xs:List Str}{B:Nat}(h:∀x∈xs,x.length≤B)(hz:xs.length*B+xs.length*sep.length≤16777216):JoinOk sep xs=true:=by
 unfold JoinOk
 rw[StrLaws.joinFits h hz];rfl
theorem Zly{te:FE}{f:D→D}{c:Option SV}{j:Nat}:∀(xs ys:List D),(∀x∈xs,∀zs,te [some (.fz x),c,some (.ol zs)]=some (.tmp (.fz (f x)),[some (.fz x),c,some (.ol zs)]))→ys.length+xs.length≤16777216→
  Zos [.own,.cap j,.acc] 2 (Zn 0) Zrs te xs [none,c,some (.ol ys)]=some [none,c,some (.ol (ys++xs.map f))]
 | [],ys,_,_=>by simp
 |x::xs,ys,h,hl=>by
  rw[List.length_cons]at hl
  have ih:=Zly (te:=te) (f:=f) (c:=c) (j:=j) xs (ys++[f x]) (fun y hy=>h y (List.mem_cons_of_mem _ hy)) (by rw[List.length_append];simp;omega)
  have e1:=h x List.mem_cons_self ys
  have h4:ys.length<PySem.sizeLine:=Zft (by omega)
  simp[e1,h4]
  simpa using ih
end My
namespace My
open DL PySem StrLaws Builtin.Str
noncomputable def gap(n:Nat):Nat→List Nat→Prop
 |_,[]=>True
 |a,p::r=>a≤p∧gap n (p+n) r
theorem Zfu{n:Nat}:∀{a:Nat} {P:List Nat},gap n a P→∀i∈P,a≤i
 |_,[],_,i,h=>nomatch h
 |a,p::r,g,i,h=>by
  rcases List.mem_cons.mp h with e|e
  ·rw[e];exact g.1
  ·have:=Zfu g.2 i e
   have:=g.1
   omega
theorem Zp6(s sub:Str)(hi limit:Nat)(hn:1≤sub.length):∀(m a:Nat) (found:Array Nat) (free:Nat) (P:List Nat),gap sub.length free P→(∀i∈P,a≤i∧i<a+m)→
  (∀i,a≤i→((free≤i∧At s sub hi i)↔i∈P))→
  (forIn (List.range' a m) (found,free) (occBody s sub hi limit)).run.fst.toList=found.toList++P.take (limit- found.size)
 |0,a,found,free,P,g,hb,hm=>by
  have:P=[]:=by
   cases P with
   |nil=>rfl
   |cons p r=>have:=hb p List.mem_cons_self;omega
  subst this
  simp
 |m+1,a,found,free,P,g,hb,hm=>by
  rw[List.range'_succ,List.forIn_cons]
  unfold occBody
  by_cases hl:found.size<limit
  ·by_cases ha:a∈P
   ·obtain⟨h1,h2,h3⟩:=(hm a (Nat.le_refl _)).mpr ha
    rw[if_pos ⟨⟨⟨hl,h1⟩,h2⟩,h3⟩]
    obtain⟨P',rfl⟩:∃P',P=a::P':=by
     cases P with
     |nil=>cases ha
     |cons p r=>
      rcases List.mem_cons.mp ha with e|e
      ·exact⟨r,by rw[e]⟩
      ·have:=Zfu g.2 a e
       have:=(hb p List.mem_cons_self).1
       omega
    have ih:=Zp6 s sub hi limit hn m (a+1) (found.push a) (a+sub.length) P' g.2 (fun i hi'=>by
      have z1:=Zfu g.2 i hi'
      have z2:=(hb i (List.mem_cons_of_mem _ hi')).2
      omega) (fun i hi'=>by
      constructor
      ·rintro⟨z1,z2⟩
       have:=(hm i (by omega)).mp ⟨by omega,z2⟩
       rcases List.mem_cons.mp this with e|e
       ·omega
       ·exact e
      ·intro z
       have z1:=Zfu g.2 i z
       exact⟨z1,((hm i (by omega)).mpr (List.mem_cons_of_mem _ z)).2⟩)
    refine Eq.trans ih ?_
    rw[Array.toList_push,Array.size_push,show limit- found.size=(limit- (found.size+1))+1 by omega,List.take_succ_cons,List.append_assoc]
    rfl
   ·rw[if_neg fun z=>ha ((hm a (Nat.le_refl _)).mp ⟨z.1.1.2,z.1.2,z.2⟩)]
    refine Zp6 s sub hi limit hn m (a+1) found free P g (fun i hi'=>?_) (fun i hi'=>hm i (by omega))
    have z:=hb i hi'
    have:i≠a:=fun e=>ha (by rw[←e];exact hi')
    omega
  ·rw[if_neg fun z=>hl z.1.1.1]
   have e0:limit- found.size=0:=by omega
   have ih:∀(l:List Nat) (st:Array Nat×Nat),¬st.fst.size<limit→(forIn l st (occBody s sub hi limit)).run.fst=st.fst:=by
    intro l
    induction l with
    |nil=>intro st _;rfl
    |cons x l ih=>
     intro st hst
     rw[List.forIn_cons]
     unfold occBody
     rw[if_neg fun z=>hst z.1.1.1]
     exact ih _ hst
   have:=ih (List.range' (a+1) m) (found,free) hl
   refine Eq.trans (congrArg Array.toList this) ?_
   rw[e0];simp
theorem Z0f(x y:Str)(limit:Nat)(P:List Nat)(hn:1≤y.length)(g:gap y.length 0 P)(hm:∀i,At x y x.length i↔i∈P):occurrences x y 0 x.length limit=P.take limit:=by
 rw[occ_eq]
 have:=Zp6 x y x.length limit hn (x.length+1- 0) 0 #[] 0 P g (fun i hi=>by
  have:=((hm i).mpr hi).1
  omega) (fun i _=>by rw[←hm i];simp)
 simpa using this
noncomputable def jl(y:List Nat):List (List Nat)→List Nat
 | []=>[]
 | [p]=>p
 |p::q::r=>p++y++jl y (q::r)
noncomputable def pos(n:Nat):Nat→List (List Nat)→List Nat
 |_,[]=>[]
 |_,[_]=>[]
 |a,p::q::r=>(a+p.length)::pos n (a+p.length+n) (q::r)
theorem Zkm(n:Nat):∀(a:Nat) (ps:List (List Nat)),gap n a (pos n a ps)
 |_,[]=>True.intro
 |_,[_]=>True.intro
 |a,p::q::r=>⟨Nat.le_add_right _ _,Zkm n _ (q::r)⟩
theorem c_at{y:List Nat}{c o:Nat}(ho:∀j,y[j]? =some c→j=o):∀(ps:List (List Nat)) (a j:Nat),(∀p∈ps,c∉p)→(jl y ps)[j]? =some c→∃i∈pos y.length a ps,a+j=i+o
 | [],a,j,_,e=>by simp[jl]at e
 | [p],a,j,hp,e=>absurd (List.mem_of_getElem? e) (hp p List.mem_cons_self)
 |p::q::r,a,j,hp,e=>by
  have e:(p++y++jl y (q::r))[j]? =some c:=e
  by_cases h1:j<p.length
  ·rw[List.append_assoc,List.getElem?_append_left h1]at e
   exact absurd (List.mem_of_getElem? e) (hp p List.mem_cons_self)
  ·by_cases h2:j<p.length+y.length
   ·rw[List.append_assoc,List.getElem?_append_right (by omega),List.getElem?_append_left (by omega)]at e
    have:=ho _ e
    exact⟨a+p.length,List.mem_cons_self,by omega⟩
   ·rw[List.getElem?_append_right (by rw[List.length_append];omega),List.length_append]at e
    obtain⟨i,hi,ei⟩:=c_at ho (q::r) (a+p.length+y.length) _ (fun z hz=>hp z (List.mem_cons_of_mem _ hz)) e
    exact⟨i,List.mem_cons_of_mem _ hi,by omega⟩
theorem Zlz{y:List Nat}:∀(ps:List (List Nat)) (a i:Nat),i∈pos y.length a ps→a≤i∧i- a+y.length≤(jl y ps).length∧((jl y ps).drop (i- a)).take y.length=y
 | [],_,_,h=>nomatch h
 | [_],_,_,h=>nomatch h
 |p::q::r,a,i,h=>by
  show a≤i∧i- a+y.length≤(p++y++jl y (q::r)).length∧((p++y++jl y (q::r)).drop (i- a)).take y.length=y
  rcases List.mem_cons.mp h with e|e
  ·subst e
   rw[List.length_append,List.length_append,show a+p.length- a=p.length by omega]
   refine⟨by omega,by omega,?_⟩
   rw[List.append_assoc,List.drop_left,List.take_left]
  ·obtain⟨z1,z2,z3⟩:=Zlz (q::r) (a+p.length+y.length) i e
   rw[List.length_append,List.length_append]
   refine⟨by omega,by omega,?_⟩
   rw[show i- a=(p++y).length+(i- (a+p.length+y.length)) by rw[List.length_append];omega,←List.drop_drop,List.drop_left]
   exact z3
theorem Zdx(y:Str):∀ps:List Str,(Str.join y ps).cps.toList=jl y.cps.toList (ps.map fun p=>p.cps.toList)
 | []=>rfl
 | [p]=>rfl
 |p::q::r=>by
  show(p++y++Str.join y (q::r)).cps.toList=p.cps.toList++y.cps.toList++jl y.cps.toList ((q::r).map fun p=>p.cps.toList)
  rw[←Zdx y (q::r)]
  simp[Str.cps_append]
theorem Z3(x:Str):x.cps.toList.length=x.length:=by simp[Str.length]
structure Sep(y:Str)(c o:Nat):Prop where
 at':y.cps.toList[o]? =some c
 one:∀j,y.cps.toList[j]? =some c→j=o
theorem Sep.pos{y:Str}{c o:Nat}(S:Sep y c o):1≤y.length:=by
 have:=(List.getElem?_eq_some_iff.mp S.at').1
 rw[Z3]at this;omega
theorem Zt6{y:Str}{c o:Nat}(S:Sep y c o)(ps:List Str)(hp:∀p∈ps,c∉p.cps.toList)(i:Nat):At (Str.join y ps) y (Str.join y ps).length i↔i∈pos y.length 0 (ps.map fun p=>p.cps.toList):=by
 have hL:=Zdx y ps
 have hy:=Z3 y
 constructor
 ·rintro⟨h1,h2⟩
  rw[subAt_eq]at h2
  have h2:=eq_of_beq h2
  have hc:(jl y.cps.toList (ps.map fun p=>p.cps.toList))[i+o]? =some c:=by
   have z:=S.at'
   rw[←h2,List.getElem?_take]at z
   split at z
   ·rw[List.getElem?_drop]at z
    rw[←hL];exact z
   ·cases z
  obtain⟨j,hj,e⟩:=c_at S.one (ps.map fun p=>p.cps.toList) 0 (i+o) (fun q hq=>by
   obtain⟨p,h,rfl⟩:=List.mem_map.mp hq
   exact hp p h) hc
  have:i=j:=by omega
  rw[this,←hy];exact hj
 ·intro h
  rw[←hy]at h
  obtain⟨z1,z2,z3⟩:=Zlz _ 0 i h
  rw[←hL]at z2 z3
  have hz:=Z3 (Str.join y ps)
  refine⟨by omega,?_⟩
  rw[subAt_eq,←hy]
  simpa using z3
theorem Zez{y:Str}{c o:Nat}(S:Sep y c o)(ps:List Str)(hp:∀p∈ps,c∉p.cps.toList)(limit:Nat):
  occurrences (Str.join y ps) y 0 (Str.join y ps).length limit=(pos y.length 0 (ps.map fun p=>p.cps.toList)).take limit:=
 Z0f _ _ _ _ S.pos (Zkm _ _ _) (Zt6 S ps hp)
theorem Ze0(x:Str)(l:List Nat)(i j:Nat)(h:(x.cps.toList.drop i).take (j- i)=l):strSub x i j=⟨l.toArray⟩:=by
 apply Str.ext'
 apply Array.toList_inj.mp
 rw[strSub_toList,h]
theorem Ze1{y:List Nat}(x:Str):∀(ps:List (List Nat)) (a:Nat),ps≠[]→x.cps.toList.drop a=jl y ps→a≤x.length→partsFrom x y.length a (pos y.length a ps)=ps.map fun p=>⟨p.toArray⟩
 | [],_,h,_,_=>absurd rfl h
 | [p],a,_,e,ha=>by
  show[strSub x a x.length]=[⟨p.toArray⟩]
  rw[Ze0 x p a x.length (by
   rw[e]
   show p.take _=p
   have:=congrArg List.length e
   rw[List.length_drop,Z3]at this
   have e2:(jl y [p]).length=p.length:=rfl
   rw[e2]at this
   rw[this];exact List.take_length)]
 |p::q::r,a,_,e,ha=>by
  have e:x.cps.toList.drop a=p++y++jl y (q::r):=e
  show strSub x a (a+p.length)::partsFrom x y.length (a+p.length+y.length) (pos y.length (a+p.length+y.length) (q::r))=⟨p.toArray⟩::((q::r).map fun p=>⟨p.toArray⟩)
  have l1:=congrArg List.length e
  rw[List.length_drop,Z3,List.length_append,List.length_append]at l1
  rw[Ze0 x p a (a+p.length) (by rw[e,show a+p.length- a=p.length by omega,List.append_assoc,List.take_left])]
  rw[Ze1 x (q::r) (a+p.length+y.length) (by simp) (by
   rw[show a+p.length+y.length=a+(p++y).length by rw[List.length_append];omega,←List.drop_drop,e,List.drop_left]) (by omega)]
theorem back(ps:List Str):(ps.map fun p=>p.cps.toList).map (fun p=>(⟨p.toArray⟩:Str))=ps:=by
 rw[List.map_map]
 have:∀p:Str,((fun p=>(⟨p.toArray⟩:Str))∘fun p:Str=>p.cps.toList) p=p:=fun p=>rfl
 rw[List.map_congr_left (fun p _=>this p),List.map_id']
theorem Zhf(x:Str):1≤Builtin.Str.strKind x:=by unfold Builtin.Str.strKind;split<;> (try split)<;> decide
theorem Zkn{n a:Nat}:∀{ps:List (List Nat)},pos n a ps=[]→ps=[]∨∃p,ps=[p]
 | [],_=>.inl rfl
 | [p],_=>.inr ⟨p,rfl⟩
theorem Zm5{y:Str}{c o:Nat}(S:Sep y c o)(hk:Builtin.Str.strKind y=1)(ps:List Str)(h0:ps≠[])(hp:∀p∈ps,c∉p.cps.toList):Txt.split (Str.join y ps) y=ps:=by
 have hP:occurrences (Str.join y ps) y 0 (Str.join y ps).length ((Str.join y ps).length+1)=pos y.length 0 (ps.map fun p=>p.cps.toList):=by
  have h1:=Zez S ps hp ((Str.join y ps).length+1)
  have h2:=Zez S ps hp (((Str.join y ps).length+1)+(pos y.length 0 (ps.map fun p=>p.cps.toList)).length)
  rw[List.take_of_length_le (Nat.le_add_left _ _)]at h2
  have h3:=occ_length_le_len (Str.join y ps) y 0 (Str.join y ps).length (((Str.join y ps).length+1)+(pos y.length 0 (ps.map fun p=>p.cps.toList)).length)
  rw[h2]at h3
  rw[h1,List.take_of_length_le (by omega)]
 have one:pos y.length 0 (ps.map fun p=>p.cps.toList)=[]→Str.join y ps=ps.headD Str.empty∧[ps.headD Str.empty]=ps:=fun e=>by
  rcases Zkn e with z|⟨p,z⟩
  ·exact absurd (List.map_eq_nil_iff.mp z) h0
  ·match ps,z with
   | [q],_=>exact⟨rfl,rfl⟩
 unfold Txt.split
 by_cases hs:(decide ((Str.join y ps).length<y.length)||decide (Builtin.Str.strKind (Str.join y ps)<Builtin.Str.strKind y))=true
 ·rw[if_pos hs]
  have hlt:(Str.join y ps).length<y.length:=by
   rw[hk]at hs
   have:=Zhf (Str.join y ps)
   rcases Bool.or_eq_true_iff.mp hs with z|z
   ·exact of_decide_eq_true z
   ·have:=of_decide_eq_true z;omega
  have e:pos y.length 0 (ps.map fun p=>p.cps.toList)=[]:=by
   cases hq:pos y.length 0 (ps.map fun p=>p.cps.toList)with
   |nil=>rfl
   |cons i r=>
    have:=((Zt6 S ps hp i).mpr (by rw[hq];exact List.mem_cons_self)).1
    omega
  rw[(one e).1];exact(one e).2
 ·rw[if_neg hs,hP]
  by_cases he:(pos y.length 0 (ps.map fun p=>p.cps.toList)).isEmpty=true
  ·rw[if_pos he]
   have e:=List.isEmpty_iff.mp he
   rw[(one e).1];exact(one e).2
  ·rw[if_neg he,partsBetween_eq]
   have z:=Ze1 (y:=y.cps.toList) (Str.join y ps) (ps.map fun p=>p.cps.toList) 0 (by simpa using h0) (by rw[List.drop_zero];exact Zdx y ps) (Nat.zero_le _)
   rw[Z3,back]at z
   exact z
theorem Zsy{y:Str}{c o:Nat}(S:Sep y c o)(p:Str)(hp:c∉p.cps.toList):Txt.partition p y=(p,Str.empty,Str.empty):=by
 have h1:=Zez S [p] (fun q hq=>by rw[List.mem_singleton.mp hq];exact hp) 1
 unfold Txt.partition
 rw[show Str.join y [p]=p from rfl]at h1
 rw[h1];rfl
end My
namespace My
open DL PySem
theorem Za0{tg:FG}{body:FS}{d:D}{ds:List D}{δ δ1 δ2:DSt}(h1:tg.run d δ=some δ1)(h2:body δ1=some (.nx δ2)):forD tg body (d::ds) δ=forD tg body ds δ2:=by
 show(tg.run d δ).bind _=_
 rw[h1,Option.bind_some,h2,Option.bind_some]
theorem Zfv{tg:FG}{body:FS}{d:D}{ds:List D}{δ δ1:DSt}{sv:SV}(h1:tg.run d δ=some δ1)(h2:body δ1=some (.rt sv)):forD tg body (d::ds) δ=some (.rt sv):=by
 show(tg.run d δ).bind _=_
 rw[h1,Option.bind_some,h2,Option.bind_some]
noncomputable abbrev S(l:List Nat):Str:=⟨l.toArray⟩
theorem Zai(l:List Nat):(S l).length=l.length:=by show l.toArray.size=_;simp
theorem Zac(a b:List Nat):S a++S b=S (a++b):=by
 show(⟨a.toArray++b.toArray⟩:Str)=⟨(a++b).toArray⟩
 simp
theorem Zp7{a b:List Nat}(h:S a=S b):a=b:=by
 have:a.toArray=b.toArray:=congrArg Str.cps h
 simpa using this
theorem S_ne{a b:List Nat}(h:a≠b):S a≠S b:=fun e=>h (Zp7 e)
theorem S_of(x:Str):x=S x.cps.toList:=by cases x;simp
theorem Zbh(l:List Nat):(S l).cps.toList=l:=by simp
theorem Zfw{α:Type}(p:List α)(i:Nat)(c:α)(h:p[i]? =some c):L2.atI p (i:Int)=some c:=by
 have hl:=(List.getElem?_eq_some_iff.mp h).1
 unfold L2.atI L2.ixN
 rw[if_pos (by omega),if_pos (by omega)]
 simpa using h
section
variable{κ:Type}[DecidableEq κ]
theorem Zl0(k k':κ)(v:D):∀(ks:List κ) (vs:List D),k∈ks→ks.length=vs.length→look ks ((ks.zip vs).map fun p=>if p.1=k then v else p.2) k'=if k=k' then some v else look ks vs k'
 |a::ks,u::vs,hk,hl=>by
  rw[List.zip_cons_cons,List.map_cons]
  show(if a=k' then some (if a=k then v else u)else look ks ((ks.zip vs).map fun p=>if p.1=k then v else p.2) k')=if k=k' then some v else(if a=k' then some u else look ks vs k')
  by_cases ha:a=k'
  ·subst ha
   rw[if_pos rfl,if_pos rfl]
   by_cases hk2:a=k
   ·subst hk2;rw[if_pos rfl,if_pos rfl]
   ·rw[if_neg hk2,if_neg fun e=>hk2 e.symm]
  ·rw[if_neg ha,if_neg ha]
   by_cases hm:k∈ks
   ·exact Zl0 k k' v ks vs hm (by simpa using hl)
   ·have hak:k=a:=by
     rcases List.mem_cons.mp hk with e|e
     ·exact e
     ·exact absurd e hm
    rw[if_neg fun e=>ha (hak.symm.trans e)]
    have:((ks.zip vs).map fun p=>if p.1=k then v else p.2)=vs:=by
     have hl':ks.length=vs.length:=by simpa using hl
     clear hk hl ha
     induction ks generalizing vs with
     |nil=>cases vs with
      |nil=>rfl
      |cons _ _=>simp at hl'
     |cons b ks ih=>cases vs with
      |nil=>simp at hl'
      |cons w vs=>
       rw[List.zip_cons_cons,List.map_cons,if_neg fun e=>hm (by rw[←e];exact List.mem_cons_self),ih vs (fun h=>hm (List.mem_cons_of_mem _ h)) (by simpa using hl')]
    rw[this]
 | [],_,hk,_=>nomatch hk
theorem Zi4(k k':κ)(v:D):∀(ks:List κ) (vs:List D),k∉ks→ks.length=vs.length→look (ks++[k]) (vs++[v]) k'=if k=k' then some v else look ks vs k'
 | [],[],_,_=>by show(if k=k' then some v else none)=_;rfl
 |a::ks,u::vs,hk,hl=>by
  show(if a=k' then some u else look (ks++[k]) (vs++[v]) k')=if k=k' then some v else(if a=k' then some u else look ks vs k')
  by_cases ha:a=k'
  ·rw[if_pos ha,if_pos ha,if_neg fun e=>hk (by rw[e,←ha];exact List.mem_cons_self)]
  ·rw[if_neg ha,if_neg ha]
   exact Zi4 k k' v ks vs (fun h=>hk (List.mem_cons_of_mem _ h)) (by simpa using hl)
theorem Zhg(k k':κ)(v:D)(ks:List κ)(vs:List D)(hl:ks.length=vs.length):look (putA ks vs k v).1 (putA ks vs k v).2 k'=if k=k' then some v else look ks vs k':=by
 unfold putA
 split
 ·rename_i h;exact Zl0 k k' v ks vs h hl
 ·rename_i h;exact Zi4 k k' v ks vs h hl
theorem Zct(k:κ)(v:D)(ks:List κ)(vs:List D)(hl:ks.length=vs.length):(putA ks vs k v).1.length=(putA ks vs k v).2.length∧(putA ks vs k v).2.length≤vs.length+1:=by
 unfold putA
 split
 ·simp[hl]
 ·simp[hl]
end
end My
namespace My
open DL PySem
noncomputable abbrev nats(s n:Nat):List D:=(List.range' s n).map fun i:Nat=>D.int (i:Int)
theorem Zfx(n:Nat):Zj3 0 n=nats 0 n:=by
 unfold Zj3
 rw[List.range_eq_range']
 refine List.map_congr_left fun i _=>?_
 simp
theorem Zfy{tg:FG}{body:FS}{P:Nat→DSt→Prop}:∀(n s:Nat) (δ:DSt),P s δ→(∀i,s≤i→i<s+n→∀δ,P i δ→∃δ1 δ2,tg.run (.int (i:Int)) δ=some δ1∧body δ1=some (.nx δ2)∧P (i+1) δ2)→
  ∃δ',forD tg body (nats s n) δ=some (.nx δ')∧P (s+n) δ'
 |0,s,δ,h,_=>⟨δ,rfl,h⟩
 |n+1,s,δ,h,k=>by
  obtain⟨δ1,δ2,h1,h2,h3⟩:=k s (Nat.le_refl _) (by omega) δ h
  obtain⟨δ',e,h'⟩:=Zfy (tg:=tg) (body:=body) (P:=P) n (s+1) δ2 h3 fun i hi hj=>k i (by omega) (by omega)
  refine⟨δ',?_,by rw[show s+(n+1)=s+1+n by omega];exact h'⟩
  show forD tg body (.int (s:Int)::nats (s+1) n) δ=_
  rw[Za0 h1 h2];exact e
noncomputable def Zm6(i:Nat):List D→List D
 | []=>[]
 |x::r=>.tup [.int (i:Int),x]::Zm6 (i+1) r
theorem Z0g(xs:List D):∀i:Nat,((xs.zipIdx i).map fun p:D×Nat=>D.tup [.int (p.2:Nat),p.1])=Zm6 i xs:=by
 induction xs with
 |nil=>intro i;rfl
 |cons x r ih=>intro i;rw[List.zipIdx_cons,List.map_cons,ih];rfl
theorem Zwt(xs:List D):Zfi xs=Zm6 0 xs:=Z0g xs 0
theorem Z0h(xs:List D)(m:Nat)(h:m≤xs.length):cutD xs none (some (m:Int))=xs.take m:=by
 unfold cutD HT.sIx
 dsimp only
 rw[if_neg (by omega),List.drop_zero]
 congr 1
 omega
theorem Zl1(xs:List D)(m:Nat)(h:m≤xs.length):cutD xs (some (m:Int)) none=xs.drop m:=by
 unfold cutD HT.sIx
 dsimp only
 rw[if_neg (by omega),show min ((m:Int)).toNat xs.length=m by omega]
 rw[List.take_of_length_le (by rw[List.length_drop];omega)]
theorem Zl2{α:Type}(l:List α)(x n:Int)(hl:(l.length:Int)=n)(hn:0<n):∃c,c∈l∧L2.atI l (x % n)=some c:=by
 have h0:0≤x % n:=Int.emod_nonneg _ (by omega)
 have h1:x % n<n:=Int.emod_lt_of_pos _ hn
 obtain⟨j,hj⟩:=Int.eq_ofNat_of_zero_le h0
 have hjl:j<l.length:=by omega
 rw[hj]
 exact⟨l[j],List.getElem_mem hjl,Zfw _ _ _ (List.getElem?_eq_getElem hjl)⟩
end My
namespace My
open DL PySem StrLaws Builtin.Str
theorem Zfz(c:Nat):∀l:List Nat,∃qs:List Str,qs≠[]∧(∀p∈qs,c∉p.cps.toList)∧S l=Str.join (S [c]) qs
 | []=>⟨[S []],by simp,by simp,rfl⟩
 |d::l=>by
  obtain⟨qs,h1,h2,h3⟩:=Zfz c l
  have e:S (d::l)=S [d]++S l:=(Zac [d] l).symm
  cases qs with
  |nil=>exact absurd rfl h1
  |cons q r=>
   by_cases hd:d=c
   ·subst hd
    refine⟨S []::q::r,by simp,fun p hp=>?_,?_⟩
    ·rcases List.mem_cons.mp hp with hp|hp
     ·rw[hp];simp
     ·exact h2 p hp
    ·show S (d::l)=S []++S [d]++Str.join (S [d]) (q::r)
     rw[←h3,e,Zac [] [d]]
     rfl
   ·refine⟨(S [d]++q)::r,by simp,fun p hp=>?_,?_⟩
    ·rcases List.mem_cons.mp hp with hp|hp
     ·rw[hp]
      have:(S [d]++q).cps.toList=d::q.cps.toList:=by simp[Str.cps_append]
      rw[this,List.mem_cons]
      exact fun z=>z.elim (fun z=>hd z.symm) (h2 q List.mem_cons_self)
     ·exact h2 p (List.mem_cons_of_mem _ hp)
    ·rw[e,h3]
     cases r with
     |nil=>rfl
     |cons q2 r=>
      show S [d]++(q++S [c]++Str.join (S [c]) (q2::r))=(S [d]++q)++S [c]++Str.join (S [c]) (q2::r)
      simp only[Str.append_assoc]
theorem Zko(c:Nat):Sep (S [c]) c 0:=⟨by simp,fun j h=>by
 cases j with
 |zero=>rfl
 |succ j=>simp at h⟩
theorem Zm7(c:Nat)(p q:Str)(hp:c∉p.cps.toList):Txt.partition (p++S [c]++q) (S [c])=(p,S [c],q):=by
 have SS:=Zko c
 obtain⟨qs,hq1,hq2,hq3⟩:=Zfz c q.cps.toList
 rw[←S_of q]at hq3
 have h1:=Zez SS (p::qs) (fun z hz=>by
  rcases List.mem_cons.mp hz with e|e
  ·rw[e];exact hp
  ·exact hq2 z e) 1
 obtain⟨q1,r,hqr⟩:∃q1 r,qs=q1::r:=by
  cases qs with
  |nil=>exact absurd rfl hq1
  |cons q1 r=>exact⟨q1,r,rfl⟩
 have ej:Str.join (S [c]) (p::qs)=p++S [c]++q:=by
  rw[hq3,hqr];rfl
 rw[ej]at h1
 have e:(pos (S [c]).length 0 ((p::qs).map fun p=>p.cps.toList)).take 1=[p.length]:=by
  rw[hqr]
  show[0+p.cps.toList.length]=[p.length]
  rw[Z3,Nat.zero_add]
 rw[e]at h1
 have eL:(p++S [c]++q).cps.toList=p.cps.toList++(S [c]).cps.toList++q.cps.toList:=by simp[Str.cps_append]
 have hl:(p++S [c]++q).length=p.length+(S [c]).length+q.length:=by rw[Zkl,Zkl]
 unfold Txt.partition
 rw[h1]
 have a1:=Ze0 (p++S [c]++q) p.cps.toList 0 p.length (by rw[List.drop_zero,Nat.sub_zero,eL,List.append_assoc,←Z3 p,List.take_left])
 have a2:=Ze0 (p++S [c]++q) q.cps.toList (p.length+(S [c]).length) (p++S [c]++q).length (by
  rw[eL,hl,show p.length+(S [c]).length=(p.cps.toList++(S [c]).cps.toList).length by rw[List.length_append,Z3,Z3],List.drop_left]
  exact List.take_of_length_le (by rw[Z3];omega))
 show(strSub (p++S [c]++q) 0 p.length,S [c],strSub (p++S [c]++q) (p.length+(S [c]).length) (p++S [c]++q).length)=(p,S [c],q)
 rw[a1,a2]
theorem Zi5(y x:Str):∀xs:List Str,Str.join y (x::xs)=x++cat (xs.map fun z=>y++z)
 | []=>by show x=x++Str.empty;rw[Str.append_empty]
 |z::r=>by
  show x++y++Str.join y (z::r)=x++(y++z++cat (r.map fun z=>y++z))
  rw[Zi5 y z r]
  simp only[Str.append_assoc]
end My
namespace My
open DL PySem
noncomputable abbrev inrs(xs:List Str):List L2.Key:=xs.map Sum.inr
theorem Ze2(k:Str):∀(xs:List Str) (vs:List D),look (inrs xs) vs (Sum.inr k)=look xs vs k
 | [],[]=>rfl
 | [],_::_=>rfl
 |_::_,[]=>rfl
 |x::xs,v::vs=>by
  show(if(Sum.inr x:L2.Key)=Sum.inr k then some v else look (inrs xs) vs (Sum.inr k))=if x=k then some v else look xs vs k
  rw[Ze2 k xs vs]
  by_cases h:x=k
  ·rw[if_pos h,if_pos (by rw[h])]
  ·rw[if_neg h,if_neg fun e=>h (Sum.inr.inj e)]
theorem Zl3(k:Str)(v:D)(xs:List Str)(vs:List D):putA (inrs xs) vs (Sum.inr k) v=(inrs (putA xs vs k v).1,(putA xs vs k v).2):=by
 have hm:((Sum.inr k:L2.Key)∈inrs xs)↔k∈xs:=by
  constructor
  ·intro h
   obtain⟨y,hy,e⟩:=List.mem_map.mp h
   rw[←Sum.inr.inj e];exact hy
  ·exact fun h=>List.mem_map.mpr ⟨k,h,rfl⟩
 unfold putA
 by_cases h:k∈xs
 ·rw[if_pos h,if_pos (hm.mpr h)]
  congr 1
  have:∀(xs:List Str) (vs:List D),((inrs xs).zip vs).map (fun p=>if p.1=(Sum.inr k:L2.Key)then v else p.2)=(xs.zip vs).map fun p=>if p.1=k then v else p.2:=by
   intro xs
   induction xs with
   |nil=>intro vs;rfl
   |cons x xs ih=>
    intro vs
    cases vs with
    |nil=>rfl
    |cons u vs=>
     show(if(Sum.inr x:L2.Key)=Sum.inr k then v else u)::((inrs xs).zip vs).map (fun p=>if p.1=(Sum.inr k:L2.Key)then v else p.2)=(if x=k then v else u)::(xs.zip vs).map fun p=>if p.1=k then v else p.2
     rw[ih vs]
     by_cases hx:x=k
     ·rw[if_pos hx,if_pos (by rw[hx])]
     ·rw[if_neg hx,if_neg fun e=>hx (Sum.inr.inj e)]
  exact this xs vs
 ·rw[if_neg h,if_neg fun e=>h (hm.mp e)]
  simp[inrs]
theorem Zsz{k:Str}{v:D}{xs:List Str}{vs:List D}(h:k∉xs):putA xs vs k v=(xs++[k],vs++[v]):=by
 unfold putA;rw[if_neg h]
theorem Zm8(k:Str)(v:D)(xs:List Str)(vs:List D)(h:xs.Nodup):(putA xs vs k v).1.Nodup:=by
 unfold putA
 split
 ·exact h
 ·rename_i hk
  exact List.nodup_append.mpr ⟨h,by simp,fun a ha b hb e=>hk (by rw[List.mem_singleton.mp hb]at e;rw[←e];exact ha)⟩
theorem Zp8(k:Str)(v:D)(xs:List Str)(vs:List D):∀u∈(putA xs vs k v).2,u=v∨u∈vs:=by
 intro u hu
 unfold putA at hu
 split at hu
 ·obtain⟨p,hp,e⟩:=List.mem_map.mp hu
  split at e
  ·exact .inl e.symm
  ·exact .inr (by rw[←e];exact(List.of_mem_zip hp).2)
 ·rcases List.mem_append.mp hu with h|h
  ·exact .inr h
  ·exact .inl (List.mem_singleton.mp h)
structure Dic(xs:List Str)(vs:List D):Prop where
 nd:xs.Nodup
 len:xs.length=vs.length
theorem Dic.put{xs:List Str}{vs:List D}(h:Dic xs vs)(k:Str)(v:D):Dic (putA xs vs k v).1 (putA xs vs k v).2:=⟨Zm8 k v xs vs h.nd,(Zct k v xs vs h.len).1⟩
theorem Zs0{xs:List Str}:∀{vs:List D},xs.Nodup→xs.length=vs.length→∀(i:Nat) (x:Str) (v:D),xs[i]? =some x→vs[i]? =some v→look xs vs x=some v:=by
 induction xs with
 |nil=>intro vs _ _ i x v h;simp at h
 |cons y xs ih=>
  intro vs nd hl i x v hx hv
  cases vs with
  |nil=>simp at hv
  |cons u vs=>
   obtain⟨n1,n2⟩:=List.nodup_cons.mp nd
   show(if y=x then some u else look xs vs x)=some v
   cases i with
   |zero=>
    simp at hx hv
    rw[if_pos hx,hv]
   |succ i=>
    simp at hx hv
    have hm:=List.mem_of_getElem? hx
    rw[if_neg fun e=>n1 (by rw[e];exact hm)]
    exact ih n2 (by simpa using hl) i x v hx hv
theorem Zp9{xs:List Str}:∀{vs:List D} {x:Str},x∉xs→look xs vs x=none:=by
 induction xs with
 |nil=>intro vs x _;cases vs<;> rfl
 |cons y xs ih=>
  intro vs x h
  cases vs with
  |nil=>rfl
  |cons u vs=>
   show(if y=x then some u else look xs vs x)=none
   rw[if_neg fun e=>h (by rw[e];exact List.mem_cons_self)]
   exact ih fun hm=>h (List.mem_cons_of_mem _ hm)
theorem Zs1{xs:List Str}:∀{vs:List D} {x:Str} {v:D},look xs vs x=some v→v∈vs:=by
 induction xs with
 |nil=>intro vs x v h;cases vs<;> cases h
 |cons y xs ih=>
  intro vs x v h
  cases vs with
  |nil=>cases h
  |cons u vs=>
   have h:(if y=x then some u else look xs vs x)=some v:=h
   split at h
   ·cases h;exact List.mem_cons_self
   ·exact List.mem_cons_of_mem _ (ih h)
end My
namespace My
open DL PySem StrLaws Builtin.Str
theorem Zqa(s sub:Str)(hi limit:Nat)(hn:1≤sub.length):∀(m a:Nat) (found:Array Nat) (free:Nat) (P:List Nat),gap sub.length free P→(∀i∈P,a≤i∧i<a+m)→(∀i∈P,At s sub hi i)→
  (∀i,a≤i→free≤i→At s sub hi i→(i∈P∨∃p∈P,p<i∧i<p+sub.length))→
  (forIn (List.range' a m) (found,free) (occBody s sub hi limit)).run.fst.toList=found.toList++P.take (limit- found.size)
 |0,a,found,free,P,g,hb,hA,hm=>by
  have:P=[]:=by
   cases P with
   |nil=>rfl
   |cons p r=>have:=hb p List.mem_cons_self;omega
  subst this
  simp
 |m+1,a,found,free,P,g,hb,hA,hm=>by
  rw[List.range'_succ,List.forIn_cons]
  unfold occBody
  by_cases hl:found.size<limit
  ·by_cases ha:a∈P
   ·have h1:=Zfu g a ha
    obtain⟨h2,h3⟩:=hA a ha
    rw[if_pos ⟨⟨⟨hl,h1⟩,h2⟩,h3⟩]
    obtain⟨P',rfl⟩:∃P',P=a::P':=by
     cases P with
     |nil=>cases ha
     |cons p r=>
      rcases List.mem_cons.mp ha with e|e
      ·exact⟨r,by rw[e]⟩
      ·have:=Zfu g.2 a e
       have:=(hb p List.mem_cons_self).1
       omega
    have ih:=Zqa s sub hi limit hn m (a+1) (found.push a) (a+sub.length) P' g.2 (fun i hi'=>by
      have z1:=Zfu g.2 i hi'
      have z2:=(hb i (List.mem_cons_of_mem _ hi')).2
      omega) (fun i hi'=>hA i (List.mem_cons_of_mem _ hi')) (fun i hi' hf z=>by
      rcases hm i (by omega) (by omega) z with e|⟨p,hp,e⟩
      ·rcases List.mem_cons.mp e with e|e
       ·omega
       ·exact .inl e
      ·rcases List.mem_cons.mp hp with e1|e1
       ·omega
       ·exact .inr ⟨p,e1,e⟩)
    refine Eq.trans ih ?_
    rw[Array.toList_push,Array.size_push,show limit- found.size=(limit- (found.size+1))+1 by omega,List.take_succ_cons,List.append_assoc]
    rfl
   ·rw[if_neg fun z=>by
     rcases hm a (Nat.le_refl _) z.1.1.2 ⟨z.1.2,z.2⟩with e|⟨p,hp,e⟩
     ·exact ha e
     ·have:=(hb p hp).1;omega]
    refine Zqa s sub hi limit hn m (a+1) found free P g (fun i hi'=>?_) hA (fun i hi'=>hm i (by omega))
    have z:=hb i hi'
    have:i≠a:=fun e=>ha (by rw[←e];exact hi')
    omega
  ·rw[if_neg fun z=>hl z.1.1.1]
   have e0:limit- found.size=0:=by omega
   have ih:∀(l:List Nat) (st:Array Nat×Nat),¬st.fst.size<limit→(forIn l st (occBody s sub hi limit)).run.fst=st.fst:=by
    intro l
    induction l with
    |nil=>intro st _;rfl
    |cons x l ih=>
     intro st hst
     rw[List.forIn_cons]
     unfold occBody
     rw[if_neg fun z=>hst z.1.1.1]
     exact ih _ hst
   have:=ih (List.range' (a+1) m) (found,free) hl
   refine Eq.trans (congrArg Array.toList this) ?_
   rw[e0];simp
noncomputable def Zgp(y l:List Nat)(i:Nat):Prop:=i+y.length≤l.length∧(l.drop i).take y.length=y
noncomputable def Fits(y:List Nat):List (List Nat)→Prop
 | []=>False
 | [p]=>∀i,¬Zgp y p i
 |p::q::r=>(∀i,i<p.length→¬Zgp y (p++y++jl y (q::r)) i)∧Fits y (q::r)
theorem Zi6(x y:Str)(i:Nat):At x y x.length i↔Zgp y.cps.toList x.cps.toList i:=by
 unfold At Zgp
 rw[subAt_eq,Z3,Z3]
 constructor
 ·rintro⟨h1,h2⟩;exact⟨h1,eq_of_beq h2⟩
 ·rintro⟨h1,h2⟩;exact⟨h1,by rw[h2];exact beq_self_eq_true _⟩
theorem Zqb{y:List Nat}:∀(ps:List (List Nat)) (a i:Nat),Fits y ps→a≤i→Zgp y (jl y ps) (i- a)→(i∈pos y.length a ps∨∃p∈pos y.length a ps,p<i∧i<p+y.length)
 | [],_,_,h,_,_=>h.elim
 | [p],a,i,h,_,s=>(h _ s).elim
 |p::q::r,a,i,h,ha,s=>by
  have s:Zgp y (p++y++jl y (q::r)) (i- a):=s
  show i∈(a+p.length)::pos y.length (a+p.length+y.length) (q::r)∨_
  by_cases h1:i- a<p.length
  ·exact(h.1 _ h1 s).elim
  by_cases h2:i=a+p.length
  ·exact .inl (by rw[h2];exact List.mem_cons_self)
  by_cases h3:i<a+p.length+y.length
  ·exact .inr ⟨a+p.length,List.mem_cons_self,by omega,h3⟩
  ·have e:i- a=(p++y).length+(i- (a+p.length+y.length)):=by rw[List.length_append];omega
   obtain⟨s1,s2⟩:=s
   rw[e,←List.drop_drop,List.drop_left]at s2
   rw[List.length_append]at s1
   have:=Zqb (q::r) (a+p.length+y.length) i h.2 (by omega) ⟨by rw[e,List.length_append]at s1;omega,s2⟩
   rcases this with z|⟨p',hp,z⟩
   ·exact .inl (List.mem_cons_of_mem _ z)
   ·exact .inr ⟨p',List.mem_cons_of_mem _ hp,z⟩
theorem Zhh(x y:Str)(hn:1≤y.length)(ps:List (List Nat))(h:Fits y.cps.toList ps)(e:x.cps.toList=jl y.cps.toList ps)(limit:Nat):
  occurrences x y 0 x.length limit=(pos y.length 0 ps).take limit:=by
 rw[occ_eq]
 have hA:∀i∈pos y.length 0 ps,At x y x.length i:=fun i hi=>by
  rw[Zi6,e]
  rw[←Z3 y]at hi
  have:=Zlz ps 0 i hi
  exact⟨by simpa using this.2.1,by simpa using this.2.2⟩
 have:=Zqa x y x.length limit hn (x.length+1- 0) 0 #[] 0 (pos y.length 0 ps) (Zkm _ _ _) (fun i hi=>by
  have:=(hA i hi).1
  omega) hA (fun i _ _ z=>by
  rw[Zi6,e]at z
  have:=Zqb ps 0 i h (Nat.zero_le _) (by simpa using z)
  rwa [Z3]at this)
 simpa using this
theorem Zm9(x y:Str)(hn:1≤y.length)(hk:Builtin.Str.strKind y=1)(ps:List (List Nat))(h:Fits y.cps.toList ps)(e:x.cps.toList=jl y.cps.toList ps):Txt.split x y=ps.map S:=by
 have hP:occurrences x y 0 x.length (x.length+1)=pos y.length 0 ps:=by
  have h1:=Zhh x y hn ps h e (x.length+1)
  have h2:=Zhh x y hn ps h e ((x.length+1)+(pos y.length 0 ps).length)
  rw[List.take_of_length_le (Nat.le_add_left _ _)]at h2
  have h3:=occ_length_le_len x y 0 x.length ((x.length+1)+(pos y.length 0 ps).length)
  rw[h2]at h3
  rw[h1,List.take_of_length_le (by omega)]
 have h0:ps≠[]:=fun z=>by rw[z]at h;exact h
 have one:pos y.length 0 ps=[]→[x]=ps.map S:=fun z=>by
  rcases Zkn z with z|⟨p,z⟩
  ·exact absurd z h0
  ·rw[z]at e⊢
   rw[S_of x,e];rfl
 unfold Txt.split
 by_cases hs:(decide (x.length<y.length)||decide (Builtin.Str.strKind x<Builtin.Str.strKind y))=true
 ·rw[if_pos hs]
  have hlt:x.length<y.length:=by
   rw[hk]at hs
   have:=Zhf x
   rcases Bool.or_eq_true_iff.mp hs with z|z
   ·exact of_decide_eq_true z
   ·have:=of_decide_eq_true z;omega
  refine one ?_
  cases hq:pos y.length 0 ps with
  |nil=>rfl
  |cons i r=>
   have hi:i∈pos y.length 0 ps:=by rw[hq];exact List.mem_cons_self
   rw[←Z3 y]at hi
   have:=(Zlz ps 0 i hi).2.1
   rw[←e,Z3,Z3]at this
   omega
 ·rw[if_neg hs,hP]
  by_cases he:(pos y.length 0 ps).isEmpty=true
  ·rw[if_pos he]
   exact one (List.isEmpty_iff.mp he)
  ·rw[if_neg he,partsBetween_eq]
   have z:=Ze1 (y:=y.cps.toList) x ps 0 h0 (by rw[List.drop_zero];exact e) (Nat.zero_le _)
   rw[Z3]at z
   exact z
theorem Z1y(y p:List Nat)(q:List Nat)(r:List (List Nat)):jl y (p::q::r)=p++y++jl y (q::r):=rfl
theorem Zqc{y:List Nat}{c:Nat}{y':List Nat}(ey:y=c::y')(p:List Nat)(hp:c∉p)(q:List Nat)(r:List (List Nat))(h:Fits y (q::r)):Fits y (p::q::r):=by
 refine⟨fun i hi s=>?_,h⟩
 have z:=congrArg List.head? s.2
 rw[ey,List.head?_cons]at z
 rw[←ey,List.append_assoc,List.head?_take,List.head?_drop,List.getElem?_append_left hi]at z
 rw[if_neg (by rw[ey];simp)]at z
 exact hp (List.mem_of_getElem? z)
theorem Zs2{y:List Nat}{c:Nat}(hc:c∈y)(p:List Nat)(hp:c∉p):Fits y [p]:=fun i s=>by
 have:c∈(p.drop i).take y.length:=by rw[s.2];exact hc
 exact hp (List.mem_of_mem_drop (List.mem_of_mem_take this))
theorem Zef{c:Nat}:∀ps:List (List Nat),ps≠[]→(∀p∈ps,c∉p)→Fits [c] ps
 | [],h,_=>(h rfl).elim
 | [p],_,h=>Zs2 (c:=c) (by simp) p (h p List.mem_cons_self)
 |p::q::r,_,h=>Zqc (c:=c) rfl p (h p List.mem_cons_self) q r (Zef (q::r) (by simp) fun x hx=>h x (List.mem_cons_of_mem _ hx))
end My
namespace My
open DL PySem PySem.Spec PyProof.Rows L2
noncomputable def ev{α:Type}:List α→List α
 | []=>[]
 | [a]=>[a]
 |a::_::r=>a::ev r
theorem Zkp{α:Type}:∀(m:Nat) (xs:List α),xs.length≤2*m→((List.range m).map fun k=>2*k).filterMap (xs[·]?)=ev xs
 |0,xs,h=>by
  have:xs=[]:=List.eq_nil_of_length_eq_zero (by omega)
  subst this;rfl
 |m+1,xs,h=>by
  rw[List.range_succ_eq_map,List.map_cons,List.map_map]
  match xs,h with
  | [],_=>simp[ev]
  | [a],_=>
   show a::List.filterMap (fun x=>[a][x]?) (List.map ((fun k=>2*k)∘Nat.succ) (List.range m))=_
   have:List.filterMap (fun x=>[a][x]?) (List.map ((fun k=>2*k)∘Nat.succ) (List.range m))=[]:=by
    rw[List.filterMap_eq_nil_iff]
    intro x hx
    obtain⟨k,_,rfl⟩:=List.mem_map.mp hx
    show[a][2*(k+1)]? =none
    rw[List.getElem?_eq_none_iff];simp;omega
   rw[this];rfl
  |a::b::r,h=>
   show a::List.filterMap (fun x=>(a::b::r)[x]?) (List.map ((fun k=>2*k)∘Nat.succ) (List.range m))=_
   have ih:=Zkp m r (by simp at h;omega)
   have:List.filterMap (fun x=>(a::b::r)[x]?) (List.map ((fun k=>2*k)∘Nat.succ) (List.range m))=ev r:=by
    rw[←ih,List.filterMap_map,List.filterMap_map]
    congr 1
   rw[this];rfl
theorem Zs3{α:Type}(xs:List α):Zcs xs none none (some 2)=ev xs:=by
 unfold Zcs
 have e1:(sliceBounds none none (some 2) xs.length)=(0,(xs.length:Int),2):=rfl
 rw[e1]
 dsimp only
 have e2:sliceRange 0 (xs.length:Int) 2=(List.range ((xs.length+1) / 2)).map fun k=>2*k:=by
  unfold sliceRange
  rw[if_pos (by decide)]
  by_cases h:xs.length=0
  ·rw[h];rfl
  ·rw[if_pos (by omega)]
   dsimp only
   rw[show(((xs.length:Int)- 0+2- 1) / 2).toNat=(xs.length+1) / 2 by omega]
   refine List.map_congr_left fun k _=>?_
   omega
 rw[e2]
 exact Zkp _ xs (by omega)
theorem Zl4{α β:Type}(f g:α→β):∀xs:List α,ev (xs.flatMap fun x=>[f x,g x])=xs.map f
 | []=>rfl
 |x::xs=>by
  show f x::ev (xs.flatMap fun x=>[f x,g x])=_
  rw[Zl4 f g xs];rfl
theorem Zqd{α β:Type}(f g:α→β)(b:β):∀xs:List α,ev (b::xs.flatMap fun x=>[f x,g x])=b::xs.map g
 | []=>rfl
 |x::xs=>by
  show b::ev (g x::xs.flatMap fun x=>[f x,g x])=_
  rw[Zqd f g (g x) xs];rfl
end My
noncomputable section
local macro_rules| `(tactic|trivial)=> `(tactic|first|exact Or.inl rfl|exact Or.inr (Or.inl rfl)|exact Or.inr (Or.inr rfl)|exact Or.inr rfl)
namespace Gen
open PySem PySem.Spec PyProof.Rows L2 DL
noncomputable def top(i:Nat):Stmt:=PySem.Challenge.pw_citeward_k52_what_is_no_list.main.body.getD i (.Pass ⟨0,0,0,0⟩)
noncomputable abbrev FUEL:Nat:=1000
noncomputable abbrev Zcu:Stmt:=top 25
noncomputable abbrev Zcv:Stmt:=top 12
noncomputable abbrev Zf0:Stmt:=top 16
noncomputable abbrev Zce:Stmt:=top 13
noncomputable abbrev Zeg:Stmt:=top 14
noncomputable abbrev Zdk:Stmt:=top 15
noncomputable abbrev Zeh:Stmt:=top 21
noncomputable abbrev Zcf:Stmt:=top 20
noncomputable abbrev Zdl:Stmt:=top 19
noncomputable abbrev Zcw:Stmt:=top 18
noncomputable abbrev Zdm:Stmt:=top 29
noncomputable abbrev Zcx:Stmt:=top 24
noncomputable abbrev Zcy:Stmt:=top 27
noncomputable abbrev Zbv:Stmt:=top 28
noncomputable abbrev Zbw:Stmt:=top 23
noncomputable abbrev Zei:Stmt:=top 26
noncomputable abbrev Zdy:Stmt:=top 30
noncomputable def Zwu(s:Stmt):List Stmt:=match s with
 | .ClassDef _ _ _ b _ _ _ _ _ _ _=>b
 |_=>[]
noncomputable abbrev Za7:Stmt:=(Zwu (top 3)).getD 0 (.Pass ⟨0,0,0,0⟩)
noncomputable def Zaj:FS:=
 seqF (setF 9 (binF mulZ (Zb 6) (Zcl intD (Zd (binF eqY (Zb 8) (Zb 4)) Zj)))) (setF 7 (binF addD (Zb 7) (binF ixX (Zb 2) (binF modD (binF addD (binF Zes (Zb 0) (binF addD (Zb 8) (Za (.int 2)))) (Zb 9)) (Za (.int 22))))))
noncomputable def Zbk:FS:=
 seqF (setF 7 (Za (.str ""))) (seqF (forF (rngI (Zd (Zb 3) Zj)) (Zn 8) Zaj) (appF 5 (Zb 7)))
noncomputable def Zdn:FS:=
 seqF (setF 2 (Za (.str "abcdefghjlmpqrstuvwxyz"))) (seqF (setF 3 (binF addD (Za (.int 1)) (binF modD (Zb 0) (Za (.int 8))))) (seqF (setF 4 (binF modD (binF Zes (Zb 0) (Za (.int 8))) (Zb 3))) (seqF (setF 5 (lstF (Zs))) (seqF (forF (rngI (Zd (Zb 1) Zj)) (Zn 6) Zbk) (retF (Zb 5))))))
noncomputable def Zaf:List D→Option SV:=Zcc Zdn 10
noncomputable def Zcg:FE:=
 binF inZ (Zb 0) (Zb 1)
noncomputable def Zdo:FS:=
 retF (Zcl allD (Zd (Zvj [.own,.cap 1,.acc] 2 (anyI (Zb 0)) (Zn 0) (Zrs) Zcg) Zj))
noncomputable def Za1:List D→Option SV:=Zcc Zdo 2
noncomputable def Zbn:FS:=
 seqF (setF 5 (bmF "str" Zb1 (Zb 4) (Zd (Za (.str ">")) Zj))) (seqF (ifS (Zal (binF eqY (binF ixX (Zb 5) (Za (.int 1))) (Za (.str "")))) (retF (Za .non)) (Zca)) (extF 3 (lstF (Zf (binF ixX (Zb 5) (Za (.int 0))) (Zf (binF ixX (Zb 5) (Za (.int 2))) (Zs))))))
noncomputable def Zhi:FS:=
 seqF (setF 2 (bmF "str" Zit (Zb 0) (Zd (Za (.str "<")) Zj))) (seqF (setF 3 (lstF (Zf (binF ixX (Zb 2) (Za (.int 0))) (Zs)))) (seqF (forF (anyI (slF slD (Zb 2) (Zdw (Za (.int 1))) (Zcj))) (Zn 4) Zbn) (retF (ifF (Zal (Zap 2 Za1 (Zd (bmF "str" Zeo (Za (.str "")) (Zd (slF3 slD3 (Zb 3) (Zcj) (Zcj) (Zdw (Za (.int 2)))) Zj)) (Zd (Zb 1) (Zj))))) (Zb 3) (Za .non)))))
noncomputable def Zdz:List D→Option SV:=Zcc Zhi 6
noncomputable def Zcz:FS:=
 seqF (ifS (notF (Zal (unF (isiD "str") (Zb 0)))) (retF (Za (.bl false))) (Zca)) (retF (andV (Zoq leD leD (Za (.int 1)) (Zcl Zfs (Zd (Zb 0) Zj)) (Zb 2)) (Zap 2 Za1 (Zd (Zb 0) (Zd (Zb 1) (Zj))))))
noncomputable def Zar:List D→Option SV:=Zcc Zcz 3
noncomputable def Zf1:FS:=
 retF (Zap 3 Zar (Zd (Zb 0) (Zd (Za (.str "abcdefghijklmnopqrstuvwxyz")) (Zd (Za (.int 8)) (Zj)))))
noncomputable def Zbd:List D→Option SV:=Zcc Zf1 1
noncomputable def Zej : FS :=
  retF (Zap 3 Zar (Zd (Zb 0) (Zd (Za (.str "ABCDEFGHIJKLMNOPQRSTUVWXYZabcdefghijklmnopqrstuvwxyz0123456789 .,!?'-/()&+*=")) (Zd (Za (.int 80)) (Zj)))))
noncomputable def Zb3:List D→Option SV:=Zcc Zej 1
noncomputable def Zf2:FS:=
 retF (andV (Zap 1 Zbd (Zd (Zb 0) (Zj))) (andV (binF Zlr (Zb 0) (tupF (Zdd ["note","kind"] (Zs)))) (Zap 1 Zb3 (Zd (Zb 1) (Zj)))))
noncomputable def Zc0:List D→Option SV:=Zcc Zf2 2
noncomputable def Zt:FS:=
 seqF (setF 3 (bmF "str" Zb1 (Zb 2) (Zd (Za (.str "=")) Zj))) (seqF (ifS (orF (notF (Zal (Zap 2 Zc0 (Zd (binF ixX (Zb 3) (Za (.int 0))) (Zd (binF ixX (Zb 3) (Za (.int 2))) (Zj)))))) (Zal (binF neY (bmDF "dict" Zlm (Zb 1) (Zf (binF ixX (Zb 3) (Za (.int 0))) (Zf (binF ixX (Zb 3) (Za (.int 2))) (Zs)))) (binF ixX (Zb 3) (Za (.int 2)))))) (retF (Za .non)) (Zca)) (putF 1 (binF ixX (Zb 3) (Za (.int 0))) (binF ixX (Zb 3) (Za (.int 2)))))
noncomputable def Zbs:FS:=
 seqF (setF 1 (Zsc)) (seqF (forF (anyI (Zb 0)) (Zn 2) Zt) (retF (Zb 1)))
noncomputable def Zas:List D→Option SV:=Zcc Zbs 4
noncomputable def Za2 : FS :=
  seqF (ifS (orF (Zal (binF ltD (Zcl Zfs (Zd (Zb 0) Zj)) (Za (.int 3)))) (orF (notF (Zal (Zap 1 Zbd (Zd (binF ixX (Zb 0) (Za (.int 0))) (Zj))))) (notF (Zal (Zap 1 Zbd (Zd (binF ixX (Zb 0) (Za (.int 1))) (Zj))))))) (retF (Za .non)) (Zca)) (seqF (setF 1 (Zap 2 Zdz (Zd (binF ixX (Zb 0) (Za (.int 2))) (Zd (Za (.str "ABCDEFGHIJKLMNOPQRSTUVWXYZabcdefghijklmnopqrstuvwxyz0123456789 .,!?'-/()&+*=:;")) (Zj))))) (retF (ifF (Zal (binF isND (Zb 1) (Za .non))) (Za .non) (Zap 1 Zas (Zd (slF3 slD3 (Zb 1) (Zdw (Za (.int 1))) (Zcj) (Zdw (Za (.int 2)))) (Zj))))))
noncomputable def Zab:List D→Option SV:=Zcc Za2 2
noncomputable def Z1:FS:=
 seqF (setF 5 (bmF "str" Zhd (Zb 4) (Zd (Za (.str " ")) (Zd (Za (.int 2)) Zj)))) (seqF (setF 6 (Zap 1 Zab (Zd (Zb 5) (Zj)))) (seqF (ifS (orF (Zal (binF isND (Zb 6) (Za .non))) (Zal (binF inZ (binF ixX (Zb 5) (Za (.int 0))) (Zb 1)))) (Zlt "NoList" "row" (Zb 3)) (Zca)) (putF 1 (binF ixX (Zb 5) (Za (.int 0))) (tupF (Zf (binF ixX (Zb 5) (Za (.int 1))) (Zf (Zb 6) (Zs)))))))
noncomputable def Zbp:FS:=
 seqF (ifS (notF (Zal (unF (isiD "str") (Zb 0)))) (Zlt "NoList" "row" (Za (.int 1))) (Zca)) (seqF (setF 1 (Zsc)) (seqF (setF 2 (ifF (Zal (binF eqY (Zb 0) (Za (.str "")))) (lstF (Zs)) (bmF "str" Zit (Zb 0) (Zd (Za (.str "\n")) Zj)))) (seqF (forF (Zp5 (Zf (Zb 2) Zs)) (Zcm 2 (Zaa (Zn 3) (Zaa (Zn 4) (Zcq)))) Z1) (retF (Zb 1)))))
noncomputable def Zx:List D→Option XO:=outX Zbp 7
noncomputable def Zwv:List D→Option SV:=valG Zx
noncomputable def Zer:FS:=
 seqF (setF 3 (andV (unF (isxD ["NoList"] []) (Zb 2)) (andV (unF (isxD ["NoList"] []) (Zb 2)) (notV (unF (isxD [] ["NoList"]) (Zb 2)))))) (setF 1 (tupF (Zf (Za (.str "refused")) (Zf (unF (Zsr ["NoList"] "row") (Zb 2)) (Zf (andV (Zb 3) (andV (notV (unF (isxD [] ["NoList"]) (Zb 2))) (notV (unF (isxD [] ["NoList"]) (Zb 2))))) (Zs))))))
noncomputable def Zc7:FS:=
 seqF (setF 1 (Za .non)) (seqF (tryF (setX 1 (Zwi 1 Zx (Zhc (Zwf (Zb 0)) (Zkk)))) [⟨some 2,["NoList"],[],Zer⟩]) (retF (Zb 1)))
noncomputable def Zu:List D→Option SV:=Zcc Zc7 4
noncomputable def Zdp:FS:=
 retF (binF modD (binF mulZ (binF modD (Zb 0) (Za (.int 2147483647))) (Zb 1)) (Za (.int 2147483647)))
noncomputable def Zak:List D→Option SV:=Zcc Zdp 2
noncomputable def Zdq:FS:=
 seqF (setF 2 (binF addD (Za (.str "<")) (Zb 0))) (seqF (setF 3 (lstF (Zf (binF addD (Zb 2) (Za (.str "=ab"))) (Zf (binF addD (Zb 2) (Za (.str ">"))) (Zdd ["<note=ab>","<kind=ab>","<=ab>"] (Zf (binF addD (Zb 2) (Za (.str "X=ab>"))) (Zf (binF addD (Zb 2) (Za (.str "=>"))) (Zs)))))))) (seqF (setF 3 (binF addD (Zb 3) (lstF (Zf (binF addD (binF addD (binF addD (Zb 2) (Za (.str "="))) (binF mulZ (Za (.str "a")) (Za (.int 81)))) (Za (.str ">"))) (Zf (binF addD (Zb 2) (Za (.str "=a:b>"))) (Zf (binF addD (Zb 2) (Za (.str "=a<b>"))) (Zf (binF addD (Zb 2) (Za (.str "=a\tb>"))) (Zf (Za (.str ">")) (Zs))))))))) (seqF (setF 3 (binF addD (Zb 3) (lstF (Zf (binF addD (binF addD (binF addD (Zb 2) (Za (.str "=ab>"))) (Zb 2)) (Za (.str "=Ab>"))) (Zf (binF addD (Zb 2) (Za (.str " =ab>"))) (Zf (binF addD (binF addD (Za (.str "< ")) (Zb 0)) (Za (.str "=ab>"))) (Zdd ["<abcdefghi=ab>","<>"] (Zs)))))))) (retF (binF ixX (binF addD (Zb 3) (lstF (Zf (binF addD (binF addD (binF addD (Zb 2) (Za (.str "=ab>."))) (Zb 2)) (Za (.str "=ab >"))) (Zs)))) (binF modD (Zb 1) (Za (.int 18))))))))
noncomputable def Zbq:List D→Option SV:=Zcc Zdq 4
noncomputable def Zad:FS:=
 seqF (setF 5 (binF modD (Zb 4) (Za (.int 12)))) (seqF (setF 6 (binF Zes (Zb 4) (Za (.int 16)))) (seqF (ifS (Zal (binF eqY (Zb 5) (Za (.int 0)))) (retF (binF addD (binF addD (binF addD (binF ixX (lstF (Zf (binF addD (slF slD (Zb 0) (Zdw (Za (.int 1))) (Zcj)) (Za (.str "A"))) (Zf (Za (.str "")) (Zf (binF addD (Zb 0) (Za (.str "abcdefgh"))) (Zf (binF addD (Zb 0) (Za (.str "1"))) (Zf (binF addD (Za (.str "_")) (slF slD (Zb 0) (Zdw (Za (.int 1))) (Zcj))) (Zs))))))) (binF modD (Zb 6) (Za (.int 5)))) (Za (.str " "))) (Zb 1)) (Za (.str " ")))) (Zca)) (seqF (ifS (Zal (binF eqY (Zb 5) (Za (.int 1)))) (retF (binF addD (binF addD (binF addD (Zb 0) (Za (.str " "))) (binF ixX (lstF (Zf (binF addD (slF slD (Zb 1) (Zdw (Za (.int 1))) (Zcj)) (Za (.str "A"))) (Zf (Za (.str "")) (Zf (binF addD (Zb 1) (Za (.str "abcdefgh"))) (Zf (binF addD (Zb 1) (Za (.str "-"))) (Zs)))))) (binF modD (Zb 6) (Za (.int 4))))) (Za (.str " ")))) (Zca)) (seqF (ifS (Zal (binF eqY (Zb 5) (Za (.int 2)))) (retF (binF ixX (lstF (Zf (binF addD (binF addD (Zb 0) (Za (.str " "))) (Zb 1)) (Zf (Zb 0) (Zf (Za (.str "")) (Zf (binF addD (Zb 0) (Zb 1)) (Zf (binF addD (binF addD (binF addD (Zb 0) (Za (.str "  "))) (Zb 1)) (Za (.str " "))) (Zf (binF addD (binF addD (binF addD (binF addD (Za (.str " ")) (Zb 0)) (Za (.str " "))) (Zb 1)) (Za (.str " "))) (Zs)))))))) (binF modD (Zb 6) (Za (.int 6))))) (Zca)) (seqF (ifS (Zal (binF eqY (Zb 5) (Za (.int 3)))) (retF (binF addD (binF addD (binF addD (Zb 2) (Za (.str " "))) (Zb 1)) (Za (.str " ")))) (Zca)) (seqF (ifS (Zal (binF eqY (Zb 5) (Za (.int 4)))) (retF (binF addD (binF addD (binF addD (binF addD (binF addD (Zb 0) (Za (.str " "))) (Zb 1)) (Za (.str " a"))) (binF ixX (lstF (Zdd ["\t","^","{","[","\"","_","#","|"] (Zs))) (binF modD (Zb 6) (Za (.int 8))))) (Za (.str "b")))) (Zca)) (seqF (setF 7 (binF ixX (lstF (Zf (Za (.str "")) (Zf (binF addD (binF addD (Za (.str "<")) (Zb 3)) (Za (.str "=ab>"))) (Zdd [" (","1: "] (Zs))))) (binF modD (Zb 6) (Za (.int 4))))) (seqF (setF 8 (Zap 2 Zbq (Zd (Zb 3) (Zd (binF Zes (Zb 6) (Za (.int 4))) (Zj))))) (retF (binF addD (binF addD (binF addD (binF addD (binF addD (binF addD (Zb 0) (Za (.str " "))) (Zb 1)) (Za (.str " "))) (Zb 7)) (Zb 8)) (binF ixX (lstF (Zdd [""," "] (Zf (binF addD (binF addD (Za (.str "<")) (Zb 3)) (Za (.str "=ab>"))) (Zs)))) (binF modD (binF Zes (Zb 6) (Za (.int 128))) (Za (.int 3))))))))))))))
noncomputable def Zo:List D→Option SV:=Zcc Zad 9
noncomputable def Zch:FS:=
 seqF (ifS (Zal (binF ltD (Zb 1) (Zcl Zfs (Zd (Zb 0) Zj)))) (retF (binF ixX (Zb 0) (Zb 1))) (Zca)) (retF (Za (.int 0)))
noncomputable def Z6:List D→Option SV:=Zcc Zch 2
noncomputable def Zci:FS:=
 seqF (setF 6 (binF ixX (Zb 2) (binF modD (binF Zes (Zb 3) (binF addD (Za (.int 5)) (Zb 5))) (Za (.int 3))))) (setF 4 (binF addD (binF addD (binF addD (binF addD (binF addD (binF addD (Zb 4) (binF ixX (lstF (Zdd ["",": "," (","= "] (Zs))) (binF modD (binF Zes (Zb 3) (binF addD (Za (.int 16)) (Zb 5))) (Za (.int 4))))) (Za (.str "<"))) (Zb 6)) (Za (.str "=So it's "))) (Zb 6)) (Za (.str ">"))))
noncomputable def Zf3:FS:=
 seqF (setF 4 (binF addD (binF addD (binF addD (Zb 0) (Za (.str " "))) (Zb 1)) (Za (.str " ")))) (seqF (forF (rngI (Zd (binF modD (Zb 3) (Za (.int 4))) Zj)) (Zn 5) Zci) (retF (Zb 4)))
noncomputable def Zc1:List D→Option SV:=Zcc Zf3 7
noncomputable def Zf4:FS:=
 seqF (setF 7 (binF ixX (Zap 2 Zaf (Zd (Zap 2 Zak (Zd (Zb 6) (Zd (Za (.int 16807)) (Zj)))) (Zd (Za (.int 1)) (Zj)))) (Za (.int 0)))) (appF 4 (Zap 4 Zc1 (Zd (binF ixX (Zb 3) (Zb 5)) (Zd (Zb 7) (Zd (Zb 2) (Zd (Zap 2 Zak (Zd (binF addD (Zb 6) (Zb 5)) (Zd (Za (.int 48271)) (Zj)))) (Zj)))))))
noncomputable def Zhj:FS:=
 seqF (setF 9 (Zap 2 Zak (Zd (binF addD (Zb 6) (Zb 5)) (Zd (Za (.int 69621)) (Zj))))) (seqF (setF 10 (binF addD (Za (.int 1)) (binF modD (binF Zes (Zb 9) (Za (.int 4096))) (binF subD (Zcl Zfs (Zd (Zb 4) Zj)) (Za (.int 1)))))) (seqF (setF 11 (Zap 5 Zo (Zd (binF ixX (Zb 3) (Zb 10)) (Zd (Za (.str "book")) (Zd (binF ixX (Zb 3) (binF modD (binF Zes (Zb 9) (Za (.int 64))) (Zb 10))) (Zd (binF ixX (Zb 2) (binF modD (binF Zes (Zb 9) (Za (.int 32))) (Za (.int 3)))) (Zd (Zb 9) (Zj)))))))) (seqF (ifS (Zal (binF neY (Zap 1 Zu (Zd (bmF "str" Zeo (Za (.str "\n")) (Zd (binF addD (binF addD (slF slD (Zb 4) (Zcj) (Zdw (Zb 10))) (lstF (Zf (Zb 11) (Zs)))) (slF slD (Zb 4) (Zdw (binF addD (Zb 10) (Za (.int 1)))) (Zcj))) Zj)) (Zj))) (tupF (Zf (Za (.str "refused")) (Zf (binF addD (Zb 10) (Za (.int 1))) (Zf (Za (.bl true)) (Zs))))))) (retF (Za (.bl false))) (Zca)) (seqF (setF 12 (Zap 1 Zu (Zd (bmF "str" Zeo (Za (.str "\n")) (Zd (slF slD (Zb 4) (Zcj) (Zdw (Zb 10))) Zj)) (Zj)))) (ifS (orF (notF (Zal (unF (isiD "dict") (Zb 12)))) (Zal (binF neY (Zcl Zfs (Zd (Zb 12) Zj)) (Zb 10)))) (retF (Za (.bl false))) (Zca))))))
noncomputable def Zhk:FS:=
 ifS (Zal (binF neY (Zap 1 Zu (Zd (Zb 13) (Zj))) (tupF (Zf (Za (.str "refused")) (Zf (Za (.int 1)) (Zf (Za (.bl true)) (Zs))))))) (retF (Za (.bl false))) (Zca)
noncomputable def Zww:FS:=
 seqF (setF 1 (binF addD (lstF (Zf (Zap 2 Z6 (Zd (Zb 0) (Zd (Za (.int 1)) (Zj)))) (Zf (Zap 2 Z6 (Zd (Zb 0) (Zd (Za (.int 2)) (Zj)))) (Zs)))) (slF slD (Zb 0) (Zdw (Za (.int 3))) (Zdw (Za (.int 14)))))) (seqF (setF 2 (Zap 2 Zaf (Zd (Zap 2 Zak (Zd (Zap 2 Z6 (Zd (Zb 0) (Zd (Za (.int 0)) (Zj)))) (Zd (Za (.int 16807)) (Zj)))) (Zd (Za (.int 3)) (Zj))))) (seqF (setF 3 (Zap 2 Zaf (Zd (Zap 2 Zak (Zd (Zap 2 Z6 (Zd (Zb 0) (Zd (Za (.int 0)) (Zj)))) (Zd (Za (.int 39373)) (Zj)))) (Zd (Za (.int 14)) (Zj))))) (seqF (setF 4 (lstF (Zs))) (seqF (forF (Zll (Zf (Zb 1) Zs)) (Zcm 2 (Zaa (Zn 5) (Zaa (Zn 6) (Zcq)))) Zf4) (seqF (setF 8 (Zap 1 Zu (Zd (bmF "str" Zeo (Za (.str "\n")) (Zd (Zb 4) Zj)) (Zj)))) (seqF (ifS (orF (notF (Zal (unF (isiD "dict") (Zb 8)))) (Zal (binF neY (Zcl Zfs (Zd (Zb 8) Zj)) (Zcl Zfs (Zd (Zb 4) Zj))))) (retF (Za (.bl false))) (Zca)) (seqF (forF (Zll (Zf (Zb 1) Zs)) (Zcm 2 (Zaa (Zn 5) (Zaa (Zn 6) (Zcq)))) Zhj) (seqF (ifS (Zal (binF neY (Zap 1 Zu (Zd (binF addD (bmF "str" Zeo (Za (.str "\n")) (Zd (Zb 4) Zj)) (Za (.str "\n"))) (Zj))) (tupF (Zf (Za (.str "refused")) (Zf (binF addD (Zcl Zfs (Zd (Zb 4) Zj)) (Za (.int 1))) (Zf (Za (.bl true)) (Zs))))))) (retF (Za (.bl false))) (Zca)) (seqF (forF (anyI (lstF (Zf (Za .non) (Zf (Zb 4) (Zf (Za (.int 5)) (Zs)))))) (Zn 13) Zhk) (retF (binF eqY (Zap 1 Zu (Zd (binF ixX (lstF (Zdd ["x"," "] (Zs))) (binF modD (Zap 2 Z6 (Zd (Zb 0) (Zd (Za (.int 0)) (Zj)))) (Za (.int 2)))) (Zj))) (tupF (Zf (Za (.str "refused")) (Zf (Za (.int 1)) (Zf (Za (.bl true)) (Zs))))))))))))))))
noncomputable def Zhl:List D→Option SV:=Zcc Zww 14
end Gen
namespace Gen
open PySem PySem.Spec PyProof.Rows L2 DL
structure Txt (K : PySem.W.Frag) (mg : Str → Option Value) (tx0 : Tok) (tx1 : Tok) (tx2 : Tok) (tx3 : Tok) (tx4 : Tok) (fx0 fx1 fx2 fx3 fx4 fx5 fx6 fx7 fx8 fx9 fx10 fx11 fx12 fx13 fx14 fx15 fx16 aCiteError aNoList aNoName aNoPlain aNoText fxi0 : Addr) : Prop where
  x_CiteError : mg "CiteError" = some (.ref aCiteError)
  x_NoList : mg "NoList" = some (.ref aNoList)
  x_NoName : mg "NoName" = some (.ref aNoName)
  x_NoPlain : mg "NoPlain" = some (.ref aNoPlain)
  x_NoText : mg "NoText" = some (.ref aNoText)
  n_NoList : Zbu K "NoList" aNoList
  ek_NoList : ExcKit K aNoList
  if_NoList : PySem.W.isFn K (.ref fxi0) = true
  es_NoList : ExcSet K aNoList "row"
  eg_NoList : ExcGet K aNoList "row"
  ty_NoList : PySem.W.typeIn K (.ref aNoList) = some (.type "type")
  ic_NoList : PySem.W.isClsIn K aNoList = true
  be_NoList : PySem.W.mroIn K aNoList (.type "BaseException") = some true
  h_NoList_NoList : PySem.W.mroIn K aNoList (.ref aNoList) = some true
  q0_NoList : PySem.W.kitOne K (.ref aNoList) (.ref aCiteError) = some true
  q1_NoList : PySem.W.kitOne K (.ref aNoList) (.type "ValueError") = some true
  q2_NoList : PySem.W.kitOne K (.ref aNoList) (.ref aNoText) = some false
  q3_NoList : PySem.W.kitOne K (.ref aNoList) (.ref aNoPlain) = some false
  q4_NoList : PySem.W.kitOne K (.ref aNoList) (.ref aNoName) = some false
  z_ValueError : mg "ValueError" = none
  z_all : mg "all" = none
  z_dict : mg "dict" = none
  z_enumerate : mg "enumerate" = none
  z_int : mg "int" = none
  z_isinstance : mg "isinstance" = none
  z_len : mg "len" = none
  z_range : mg "range" = none
  z_str : mg "str" = none
  c_NAME_LENGTH : mg "NAME_LENGTH" = some (.int 8 tx0)
  c_PLAIN_LENGTH : mg "PLAIN_LENGTH" = some (.int 80 tx1)
  c_PLAIN_SIGNS : mg "PLAIN_SIGNS" = some (.str "ABCDEFGHIJKLMNOPQRSTUVWXYZabcdefghijklmnopqrstuvwxyz0123456789 .,!?'-/()&+*=" tx2)
  c_SMALL_LETTERS : mg "SMALL_LETTERS" = some (.str "abcdefghijklmnopqrstuvwxyz" tx3)
  c_STYLE_SIGNS : mg "STYLE_SIGNS" = some (.str "ABCDEFGHIJKLMNOPQRSTUVWXYZabcdefghijklmnopqrstuvwxyz0123456789 .,!?'-/()&+*=:;" tx4)
  m_0 : mg "_law_names" = some (.ref fx0)
  k_0 : PySem.W.keepIn K (.ref fx0) = true
  m_1 : mg "is_all_of" = some (.ref fx1)
  k_1 : PySem.W.keepIn K (.ref fx1) = true
  m_2 : mg "angled" = some (.ref fx2)
  k_2 : PySem.W.keepIn K (.ref fx2) = true
  m_3 : mg "is_text_of" = some (.ref fx3)
  k_3 : PySem.W.keepIn K (.ref fx3) = true
  m_4 : mg "is_name" = some (.ref fx4)
  k_4 : PySem.W.keepIn K (.ref fx4) = true
  m_5 : mg "is_plain" = some (.ref fx5)
  k_5 : PySem.W.keepIn K (.ref fx5) = true
  m_6 : mg "is_mark" = some (.ref fx6)
  k_6 : PySem.W.keepIn K (.ref fx6) = true
  m_7 : mg "read_marks" = some (.ref fx7)
  k_7 : PySem.W.keepIn K (.ref fx7) = true
  m_8 : mg "read_row" = some (.ref fx8)
  k_8 : PySem.W.keepIn K (.ref fx8) = true
  m_9 : mg "read_list" = some (.ref fx9)
  k_9 : PySem.W.keepIn K (.ref fx9) = true
  m_10 : mg "_law_told" = some (.ref fx10)
  k_10 : PySem.W.keepIn K (.ref fx10) = true
  m_11 : mg "_law_mixed" = some (.ref fx11)
  k_11 : PySem.W.keepIn K (.ref fx11) = true
  m_12 : mg "_law_marks" = some (.ref fx12)
  k_12 : PySem.W.keepIn K (.ref fx12) = true
  m_13 : mg "_law_spoiled" = some (.ref fx13)
  k_13 : PySem.W.keepIn K (.ref fx13) = true
  m_14 : mg "_law_cell_at" = some (.ref fx14)
  k_14 : PySem.W.keepIn K (.ref fx14) = true
  m_15 : mg "_law_row" = some (.ref fx15)
  k_15 : PySem.W.keepIn K (.ref fx15) = true
  m_16 : mg "law" = some (.ref fx16)
  k_16 : PySem.W.keepIn K (.ref fx16) = true
section
variable{P:Program}{w:World}{K:PySem.W.Frag}{mg:Str→Option Value}{base:Heap}{tx0:Tok}{tx1:Tok}{tx2:Tok}{tx3:Tok}{tx4:Tok}{fx0 fx1 fx2 fx3 fx4 fx5 fx6 fx7 fx8 fx9 fx10 fx11 fx12 fx13 fx14 fx15 fx16 aCiteError aNoList aNoName aNoPlain aNoText fxi0:Addr}
theorem Zkq:FnScope ["self","row"] ["self","row"] (Zi Za7):=⟨rfl,rfl,rfl,by decide+kernel,rfl,by decide+kernel,by decide+kernel⟩
theorem Z8:FnScope ["_law_number","_law_many","_law_letters","_law_size","_law_at","_law_names_here","_law_turn","_law_name","_law_k","_law_step"] ["_law_number","_law_many"] (Zi Zcu):=⟨rfl,rfl,rfl,by decide+kernel,rfl,by decide+kernel,by decide+kernel⟩
theorem Zi7:FnScope ["text","signs"] ["text","signs"] (Zi Zcv):=⟨rfl,rfl,rfl,by decide+kernel,rfl,by decide+kernel,by decide+kernel⟩
theorem Zc2:FnScope ["text","signs","runs","cuts","run","halves"] ["text","signs"] (Zi Zf0):=⟨rfl,rfl,rfl,by decide+kernel,rfl,by decide+kernel,by decide+kernel⟩
theorem Zhm:FnScope ["value","signs","most"] ["value","signs","most"] (Zi Zce):=⟨rfl,rfl,rfl,by decide+kernel,rfl,by decide+kernel,by decide+kernel⟩
theorem Zna:FnScope ["value"] ["value"] (Zi Zeg):=⟨rfl,rfl,rfl,by decide+kernel,rfl,by decide+kernel,by decide+kernel⟩
theorem Zkr:FnScope ["value"] ["value"] (Zi Zdk):=⟨rfl,rfl,rfl,by decide+kernel,rfl,by decide+kernel,by decide+kernel⟩
theorem Znb:FnScope ["name","text"] ["name","text"] (Zi Zeh):=⟨rfl,rfl,rfl,by decide+kernel,rfl,by decide+kernel,by decide+kernel⟩
theorem Zbl:FnScope ["marks","fields","mark","halves"] ["marks"] (Zi Zcf):=⟨rfl,rfl,rfl,by decide+kernel,rfl,by decide+kernel,by decide+kernel⟩
theorem Zf5:FnScope ["words","cuts"] ["words"] (Zi Zdl):=⟨rfl,rfl,rfl,by decide+kernel,rfl,by decide+kernel,by decide+kernel⟩
theorem Zat:FnScope ["text","shelf","rows","number","row","words","fields"] ["text"] (Zi Zcw):=⟨rfl,rfl,rfl,by decide+kernel,rfl,by decide+kernel,by decide+kernel⟩
theorem Za8:FnScope ["_law_text","_law_found","e","_law_kind"] ["_law_text"] (Zi Zdm):=⟨rfl,rfl,rfl,by decide+kernel,rfl,by decide+kernel,by decide+kernel⟩
theorem Zi8:FnScope ["_law_cell","_law_by"] ["_law_cell","_law_by"] (Zi Zcx):=⟨rfl,rfl,rfl,by decide+kernel,rfl,by decide+kernel,by decide+kernel⟩
theorem Zbe:FnScope ["_law_name","_law_number","_law_ahead","_law_some"] ["_law_name","_law_number"] (Zi Zcy):=⟨rfl,rfl,rfl,by decide+kernel,rfl,by decide+kernel,by decide+kernel⟩
theorem Zax:FnScope ["_law_key","_law_kind","_law_above","_law_name","_law_number","_law_how","_law_part","_law_ahead","_law_mark"] ["_law_key","_law_kind","_law_above","_law_name","_law_number"] (Zi Zbv):=⟨rfl,rfl,rfl,by decide+kernel,rfl,by decide+kernel,by decide+kernel⟩
theorem Zge:FnScope ["_law_script","_law_k"] ["_law_script","_law_k"] (Zi Zbw):=⟨rfl,rfl,rfl,by decide+kernel,rfl,by decide+kernel,by decide+kernel⟩
theorem Zb4:FnScope ["_law_key","_law_kind","_law_fields","_law_number","_law_text","_law_k","_law_name"] ["_law_key","_law_kind","_law_fields","_law_number"] (Zi Zei):=⟨rfl,rfl,rfl,by decide+kernel,rfl,by decide+kernel,by decide+kernel⟩
theorem Zbi:FnScope ["_law_script","_law_cells","_law_fields","_law_keys","_law_rows","_law_k","_law_cell","_law_kind","_law_right","_law_number","_law_at","_law_wrong","_law_ahead","_law_thing"] ["_law_script"] (Zi Zdy):=⟨rfl,rfl,rfl,by decide+kernel,rfl,by decide+kernel,by decide+kernel⟩
theorem okB{x qual:Str}{st:Stmt}{f:Addr}{fd:FuncData}{N ps:List Str}{k n:Nat}(F:Fun K x qual st f fd)(S:FnScope N ps (Zi st))(hn:n=ps.length)(f0:FS)(hb:∀(cdv:Value) (A:Around) (outer:List Env) (s:Shared) (H F0:Hp) (E:XK),Room k (A.deeper (envOfC qual (Zi st) s.heap.objs.size f cdv))→(A.deeper (envOfC qual (Zi st) s.heap.objs.size f cdv)).units+1<cLine→(A.deeper (envOfC qual (Zi st) s.heap.objs.size f cdv)).units+64<cLine→PSs (cxOf CX0 P w K mg base N qual (Zi st) f cdv A outer s H E).nox (Zbo st) (Z9 (ent H F0:Ent K) f0)):FnOk P w K mg base CX0 (k+1) f fd ps (spOf K n (Zcc f0 N.length)):=
 F.ok S (fun _ _ _ _ h=>(Zrr h).trans hn) fun cdv A outer s H vs Q E hr h=>by
  obtain⟨F0,h⟩:=Zr1 (N:=N) (f:=f0) h
  exact⟨_,hb cdv A outer s H F0 E hr (Zyp hr) hr.units,h⟩
theorem okBX{x qual:Str}{st:Stmt}{f:Addr}{fd:FuncData}{N ps:List Str}{k n:Nat}(F:Fun K x qual st f fd)(S:FnScope N ps (Zi st))(hn:n=ps.length)(f0:FS)(hb:∀(cdv:Value) (A:Around) (outer:List Env) (s:Shared) (H F0:Hp) (E:XK),Room k (A.deeper (envOfC qual (Zi st) s.heap.objs.size f cdv))→(A.deeper (envOfC qual (Zi st) s.heap.objs.size f cdv)).units+1<cLine→(A.deeper (envOfC qual (Zi st) s.heap.objs.size f cdv)).units+64<cLine→PSs (cxOf (CX1 P w) P w K mg base N qual (Zi st) f cdv A outer s H E) (Zbo st) (Z9 (entX H F0 E:Ent K) f0)):FnOk P w K mg base (CX1 P w) (k+1) f fd ps (spX K n (outX f0 N.length)):=
 Fun.okX F S (fun _ _ _ _ h=>(Zwh h).trans hn) fun cdv A outer s H vs Q E hr h=>by
  obtain⟨F0,h⟩:=Zpt (N:=N) (f:=f0) h
  exact⟨_,hb cdv A outer s H F0 E hr (Zyp hr) hr.units,h⟩
variable(T:Txt K mg tx0 tx1 tx2 tx3 tx4 fx0 fx1 fx2 fx3 fx4 fx5 fx6 fx7 fx8 fx9 fx10 fx11 fx12 fx13 fx14 fx15 fx16 aCiteError aNoList aNoName aNoPlain aNoText fxi0)
include T
theorem Zks{dxi0:FuncData}(F:Fun K "__init__" "NoList.__init__" Za7 fxi0 dxi0):
  FnOk P w K mg base CX0 1 fxi0 dxi0 ["self","row"] (Zee aNoList "row"):=by
 refine F.ok Zkq Zp1 (fun cdv A outer s H vs Q E hr h=>?_)
 refine⟨Zk9 K (tVar 0) (tVar 1) "row",?_,Zss T.es_NoList h⟩
 exact Znn (@Zwp _ _ _ _ _ _ _ _ (@Zz7 _ 0 _ _ (by rfl) (by trivial) (by decide) (by decide)) (@Zz7 _ 1 _ _ (by rfl) (by trivial) (by decide) (by decide)) (by rfl))
theorem Zi9{fd:FuncData}(F:Fun K "_law_names" "_law_names" Zcu fx0 fd):
  FnOk P w K mg base CX0 1 fx0 fd ["_law_number","_law_many"] (spOf K 2 Zaf):=by
 refine okB F Z8 rfl Zdn fun _ _ _ _ _ _ _ hr hu hv=>?_
 exact(@Zg _ _ _ _ _ _ (@Zah _ _ _ _ _ 2 _ _ Z8.nd Zp (by rfl) (by trivial) (by rfl) (by trivial)) (@Zg _ _ _ _ _ _ (@Zah _ _ _ _ _ 3 _ _ Z8.nd (@Zl _ _ _ _ _ _ _ Zm (@Zby _ _ _ _ _ _ _ (Zc 0) Zm)) (by rfl) (by trivial) (by rfl) (by trivial)) (@Zg _ _ _ _ _ _ (@Zah _ _ _ _ _ 4 _ _ Z8.nd (@Zby _ _ _ _ _ _ _ (@Zda _ _ _ _ _ _ _ (Zc 0) Zm) (Zc 3)) (by rfl) (by trivial) (by rfl) (by trivial)) (@Zg _ _ _ _ _ _ (@Zah _ _ _ _ _ 5 _ _ Z8.nd (@Zbz _ _ _ _ _ Zaz) (by rfl) (by trivial) (by rfl) (by trivial)) (@Zg _ _ _ _ _ _ (@Zg4 _ _ _ _ _ _ _ _ _ PassesOwn.never rfl (@Zvx _ _ _ _ _ _ _ T.z_range (Zc 1) (by rfl) (by rfl)) (@Zb0 _ _ _ 6 _ Z8.nd (by rfl) (by trivial) (by trivial)) (@Zg _ _ _ _ _ _ (@Zah _ _ _ _ _ 7 _ _ Z8.nd Zp (by rfl) (by trivial) (by rfl) (by trivial)) (@Zg _ _ _ _ _ _ (@Zg4 _ _ _ _ _ _ _ _ _ PassesOwn.never rfl (@Zvx _ _ _ _ _ _ _ T.z_range (Zc 3) (by rfl) (by rfl)) (@Zb0 _ _ _ 8 _ Z8.nd (by rfl) (by trivial) (by trivial)) (@Zg _ _ _ _ _ _ (@Zah _ _ _ _ _ 9 _ _ Z8.nd (@Zpr _ _ _ _ _ _ _ (Zc 6) (@Zzf _ _ _ _ _ _ T.z_int (@Zzt _ _ _ _ _ _ _ hv (Zc 8) (Zc 4)) (by rfl) (by rfl) (by rfl))) (by rfl) (by trivial) (by rfl) (by trivial)) (@Zv _ _ _ _ (@Zah _ _ _ _ _ 7 _ _ Z8.nd (@Zl _ _ _ _ _ _ _ (Zc 7) (@Zau _ _ _ _ _ _ _ hu (Zc 2) (@Zby _ _ _ _ _ _ _ (@Zl _ _ _ _ _ _ _ (@Zda _ _ _ _ _ _ _ (Zc 0) (@Zl _ _ _ _ _ _ _ (Zc 8) Zm)) (Zc 9)) Zm) (by intro _ _;rfl))) (by rfl) (by trivial) (by rfl) (by trivial)))) (by intro _;rfl)) (@Zv _ _ _ _ (@Zzh _ _ _ _ _ 5 _ _ _ _ (Zc 7) (by rfl) (by trivial) (by decide) (by decide) (by rfl) (by rfl) (by rfl) (by rfl) (by rfl) (by rfl))))) (by intro _;rfl)) (@Zv _ _ _ _ (@Zaw _ _ _ _ _ (Zc 5))))))))
theorem Zja{fd:FuncData}(F:Fun K "is_all_of" "is_all_of" Zcv fx1 fd):
  FnOk P w K mg base CX0 1 fx1 fd ["text","signs"] (spOf K 2 Za1):=by
 refine okB F Zi7 rfl Zdo fun _ _ _ _ _ _ _ hr hu hv=>?_
 exact(@Zv _ _ _ _ (@Zaw _ _ _ _ _ (@Z21 _ _ _ _ _ _ T.z_all (@Zzg _ _ _ _ _ _ _ _ _ _ _ _ _ _ _ rfl (Zo1 (N':=["sign","signs",".acc"]) (src:=[.own,.cap 1,.acc]) (by rfl) (by rfl) (by rfl) (by rfl) (by rfl) (by rfl)) (Z2z 2 (by rfl) (by rfl)) (by decide) (@Zr5 _ _ _ _ _ (Zc 0)) (fun _ _ _ _=>@xg _ _ _ (fun _=>(@Zb0 _ _ _ 0 _ (show(["sign","signs",".acc"]:List Str).Nodup by decide+kernel) (by rfl) (by trivial) (by trivial)))) (fun _ _ _ _=>xt0) (fun _ _ _ _=>@xe _ _ _ (fun _=>(@Z3n _ _ _ _ _ _ _ hu (Zc 0) (Zc 1) (by rfl)))) (by intro _;rfl)) (by rfl) (by rfl) (by rfl) (by rfl))))
theorem Zqe{fd:FuncData}(F:Fun K "angled" "angled" Zf0 fx2 fd){dx1:FuncData}(Vx1:FnOk P w K mg base CX0 1 fx1 dx1 ["text","signs"] (spOf K 2 Za1))(Wx1:Za3 K dx1 ["text","signs"] []):
  FnOk P w K mg base CX0 2 fx2 fd ["text","signs"] (spOf K 2 Zdz):=by
 refine okB F Zc2 rfl Zhi fun _ _ _ _ _ _ _ hr hu hv=>?_
 exact(@Zg _ _ _ _ _ _ (@Zah _ _ _ _ _ 2 _ _ Zc2.nd (@Zo7 _ _ _ _ _ _ _ _ (Zc 0) Zp (by rfl) (by rfl) (by rfl) (by rfl) (by rfl)) (by rfl) (by trivial) (by rfl) (by trivial)) (@Zg _ _ _ _ _ _ (@Zah _ _ _ _ _ 3 _ _ Zc2.nd (@Zbz _ _ _ _ _ (@Zk _ _ _ _ _ _ (@Zau _ _ _ _ _ _ _ hu (Zc 2) Zm (by intro _ _;rfl)) Zaz (by rfl))) (by rfl) (by trivial) (by rfl) (by trivial)) (@Zg _ _ _ _ _ _ (@Zg4 _ _ _ _ _ _ _ _ _ PassesOwn.never rfl (@Zr5 _ _ _ _ _ (@e_sl _ _ _ _ _ _ _ _ _ _ (Zc 2) (@Zck _ _ _ _ Zm) Zdb)) (@Zb0 _ _ _ 4 _ Zc2.nd (by rfl) (by trivial) (by trivial)) (@Zg _ _ _ _ _ _ (@Zah _ _ _ _ _ 5 _ _ Zc2.nd (@Zfm _ _ _ _ _ _ _ _ (Zc 4) Zp (by rfl) (by rfl) (by rfl) (by rfl) (by rfl)) (by rfl) (by trivial) (by rfl) (by trivial)) (@Zg _ _ _ _ _ _ (@s_if _ _ _ _ _ _ _ _ _ (@Zkj _ _ _ _ _ _ _ hv (@Zau _ _ _ _ _ _ _ hu (Zc 5) Zm (by intro _ _;rfl)) Zp) (@Zv _ _ _ _ (@Zaw _ _ _ _ _ Zg3)) Zbc) (@Zv _ _ _ _ (@Z3p _ _ _ _ _ 3 _ _ _ _ (@Zbz _ _ _ _ _ (@Zk _ _ _ _ _ _ (@Zau _ _ _ _ _ _ _ hu (Zc 5) Zm (by intro _ _;rfl)) (@Zk _ _ _ _ _ _ (@Zau _ _ _ _ _ _ _ hu (Zc 5) Zm (by intro _ _;rfl)) Zaz (by rfl)) (by rfl))) (by rfl) (by trivial) (by decide) (by decide) (by rfl) (by rfl) (by rfl) (by rfl) (by rfl) (by rfl))))) (by intro _;rfl)) (@Zv _ _ _ _ (@Zaw _ _ _ _ _ (@e_if _ _ _ _ _ _ _ _ _ (@Zir _ _ _ _ (@Z2 _ _ _ _ _ _ _ _ _ _ _ _ _ _ Vx1 (hr.mono (by decide)) T.m_1 T.k_1 Wx1 (@Zh _ _ _ _ _ _ (@Zfo _ _ _ _ _ _ _ _ Zp (@Zz5 _ _ _ _ _ _ _ _ _ _ _ _ (Zc 3) Zdb Zdb (@Zck _ _ _ _ Zm)) (by rfl) (by rfl) (by rfl) (by rfl) (by rfl)) (@Zh _ _ _ _ _ _ (Zc 1) Zag (by rfl)) (by rfl)) (by rfl) (by decide) (by rfl) (by rfl)) (by intro _;rfl)) (Zc 3) Zg3))))))
theorem Zhn{fd:FuncData}(F:Fun K "is_text_of" "is_text_of" Zce fx3 fd){dx1:FuncData}(Vx1:FnOk P w K mg base CX0 1 fx1 dx1 ["text","signs"] (spOf K 2 Za1))(Wx1:Za3 K dx1 ["text","signs"] []):
  FnOk P w K mg base CX0 2 fx3 fd ["value","signs","most"] (spOf K 3 Zar):=by
 refine okB F Zhm rfl Zcz fun _ _ _ _ _ _ _ hr hu hv=>?_
 exact(@Zg _ _ _ _ _ _ (@s_if _ _ _ _ _ _ _ _ _ (@Zj8 _ _ _ _ _ (@Zir _ _ _ _ (@Zr0 _ _ _ _ _ _ _ _ _ T.z_isinstance T.z_str boot_str (Zo2 _) (Zc 0) (by rfl) (by rfl) (by decide) (by decide) (by rfl) (by rfl) (by rfl)) (by intro _;rfl))) (@Zv _ _ _ _ (@Zaw _ _ _ _ _ e_bl)) Zbc) (@Zv _ _ _ _ (@Zaw _ _ _ _ _ (@Zj9 _ _ _ _ _ _ _ _ (@Zvv _ _ _ _ _ _ _ _ _ _ _ _ _ _ _ Zx6 p_le Zx6 p_le Zm (@Zeq _ _ _ _ _ _ T.z_len (Zc 0) (by rfl) (by rfl) (by rfl)) (Zc 2) (by with_unfolding_all rfl)) (@Zrz _ _ _ _ _ _ (@Z2 _ _ _ _ _ _ _ _ _ _ _ _ _ _ Vx1 (hr.mono (by decide)) T.m_1 T.k_1 Wx1 (@Zh _ _ _ _ _ _ (Zc 0) (@Zh _ _ _ _ _ _ (Zc 1) Zag (by rfl)) (by rfl)) (by rfl) (by decide) (by rfl) (by rfl)))))))
theorem Znc{fd:FuncData}(F:Fun K "is_name" "is_name" Zeg fx4 fd){dx3:FuncData}(Vx3:FnOk P w K mg base CX0 2 fx3 dx3 ["value","signs","most"] (spOf K 3 Zar))(Wx3:Za3 K dx3 ["value","signs","most"] []):
  FnOk P w K mg base CX0 3 fx4 fd ["value"] (spOf K 1 Zbd):=by
 refine okB F Zna rfl Zf1 fun _ _ _ _ _ _ _ hr hu hv=>?_
 exact(@Zv _ _ _ _ (@Zaw _ _ _ _ _ (@Z2 _ _ _ _ _ _ _ _ _ _ _ _ _ _ Vx3 (hr.mono (by decide)) T.m_3 T.k_3 Wx3 (@Zh _ _ _ _ _ _ (Zc 0) (@Zh _ _ _ _ _ _ (@Zj7 _ _ _ _ _ _ T.c_SMALL_LETTERS (by rfl) (by decide)) (@Zh _ _ _ _ _ _ (@Zov _ _ _ _ _ _ T.c_NAME_LENGTH (by rfl) (by decide)) Zag (by rfl)) (by rfl)) (by rfl)) (by rfl) (by decide) (by rfl) (by rfl))))
theorem Zkt{fd:FuncData}(F:Fun K "is_plain" "is_plain" Zdk fx5 fd){dx3:FuncData}(Vx3:FnOk P w K mg base CX0 2 fx3 dx3 ["value","signs","most"] (spOf K 3 Zar))(Wx3:Za3 K dx3 ["value","signs","most"] []):
  FnOk P w K mg base CX0 3 fx5 fd ["value"] (spOf K 1 Zb3):=by
 refine okB F Zkr rfl Zej fun _ _ _ _ _ _ _ hr hu hv=>?_
 exact(@Zv _ _ _ _ (@Zaw _ _ _ _ _ (@Z2 _ _ _ _ _ _ _ _ _ _ _ _ _ _ Vx3 (hr.mono (by decide)) T.m_3 T.k_3 Wx3 (@Zh _ _ _ _ _ _ (Zc 0) (@Zh _ _ _ _ _ _ (@Zj7 _ _ _ _ _ _ T.c_PLAIN_SIGNS (by rfl) (by decide)) (@Zh _ _ _ _ _ _ (@Zov _ _ _ _ _ _ T.c_PLAIN_LENGTH (by rfl) (by decide)) Zag (by rfl)) (by rfl)) (by rfl)) (by rfl) (by decide) (by rfl) (by rfl))))
theorem Znd{fd:FuncData}(F:Fun K "is_mark" "is_mark" Zeh fx6 fd){dx4:FuncData}(Vx4:FnOk P w K mg base CX0 3 fx4 dx4 ["value"] (spOf K 1 Zbd))(Wx4:Za3 K dx4 ["value"] []){dx5:FuncData}(Vx5:FnOk P w K mg base CX0 3 fx5 dx5 ["value"] (spOf K 1 Zb3))(Wx5:Za3 K dx5 ["value"] []):
  FnOk P w K mg base CX0 4 fx6 fd ["name","text"] (spOf K 2 Zc0):=by
 refine okB F Znb rfl Zf2 fun _ _ _ _ _ _ _ hr hu hv=>?_
 exact(@Zv _ _ _ _ (@Zaw _ _ _ _ _ (@Zj9 _ _ _ _ _ _ _ _ (@Z2 _ _ _ _ _ _ _ _ _ _ _ _ _ _ Vx4 (hr.mono (by decide)) T.m_4 T.k_4 Wx4 (@Zh _ _ _ _ _ _ (Zc 0) Zag (by rfl)) (by rfl) (by decide) (by rfl) (by rfl)) (@Zj9 _ _ _ _ _ _ _ _ (@Zsh _ _ _ _ _ _ _ hu (Zc 0) (@Zka _ _ _ _ _ _ (@Zcr _ _ _ _ [("note",_,_),("kind",_,_)] Zaz)) (by rfl)) (@Zrz _ _ _ _ _ _ (@Z2 _ _ _ _ _ _ _ _ _ _ _ _ _ _ Vx5 (hr.mono (by decide)) T.m_5 T.k_5 Wx5 (@Zh _ _ _ _ _ _ (Zc 1) Zag (by rfl)) (by rfl) (by decide) (by rfl) (by rfl)))))))
theorem Zho{fd:FuncData}(F:Fun K "read_marks" "read_marks" Zcf fx7 fd){dx6:FuncData}(Vx6:FnOk P w K mg base CX0 4 fx6 dx6 ["name","text"] (spOf K 2 Zc0))(Wx6:Za3 K dx6 ["name","text"] []):
  FnOk P w K mg base CX0 5 fx7 fd ["marks"] (spOf K 1 Zas):=by
 refine okB F Zbl rfl Zbs fun _ _ _ _ _ _ _ hr hu hv=>?_
 exact(@Zg _ _ _ _ _ _ (@Zah _ _ _ _ _ 1 _ _ Zbl.nd Zph (by rfl) (by trivial) (by rfl) (by trivial)) (@Zg _ _ _ _ _ _ (@Zg4 _ _ _ _ _ _ _ _ _ PassesOwn.never rfl (@Zr5 _ _ _ _ _ (Zc 0)) (@Zb0 _ _ _ 2 _ Zbl.nd (by rfl) (by trivial) (by trivial)) (@Zg _ _ _ _ _ _ (@Zah _ _ _ _ _ 3 _ _ Zbl.nd (@Zfm _ _ _ _ _ _ _ _ (Zc 2) Zp (by rfl) (by rfl) (by rfl) (by rfl) (by rfl)) (by rfl) (by trivial) (by rfl) (by trivial)) (@Zg _ _ _ _ _ _ (@s_if _ _ _ _ _ _ _ _ _ (@PW.pt _ _ _ (@w_or _ _ _ _ _ _ _ _ (@Zj8 _ _ _ _ _ (@Zir _ _ _ _ (@Z2 _ _ _ _ _ _ _ _ _ _ _ _ _ _ Vx6 (hr.mono (by decide)) T.m_6 T.k_6 Wx6 (@Zh _ _ _ _ _ _ (@Zau _ _ _ _ _ _ _ hu (Zc 3) Zm (by intro _ _;rfl)) (@Zh _ _ _ _ _ _ (@Zau _ _ _ _ _ _ _ hu (Zc 3) Zm (by intro _ _;rfl)) Zag (by rfl)) (by rfl)) (by rfl) (by decide) (by rfl) (by rfl)) (by intro _;rfl))) (@Zoy _ _ _ _ _ (@Zmz _ _ _ _ _ _ _ hv (@Zzo _ _ _ _ _ _ _ _ _ hu (Zc 1) (@Zk _ _ _ _ _ _ (@Zau _ _ _ _ _ _ _ hu (Zc 3) Zm (by intro _ _;rfl)) (@Zk _ _ _ _ _ _ (@Zau _ _ _ _ _ _ _ hu (Zc 3) Zm (by intro _ _;rfl)) Zaz (by rfl)) (by rfl)) (by rfl) (by rfl) (by rfl) (by rfl) (by rfl)) (@Zau _ _ _ _ _ _ _ hu (Zc 3) Zm (by intro _ _;rfl)))))) (@Zv _ _ _ _ (@Zaw _ _ _ _ _ Zg3)) Zbc) (@Zv _ _ _ _ (@Zzp _ _ _ _ _ _ _ 1 _ _ _ hu (@Zau _ _ _ _ _ _ _ hu (Zc 3) Zm (by intro _ _;rfl)) (@Zau _ _ _ _ _ _ _ hu (Zc 3) Zm (by intro _ _;rfl)) (by rfl) (by trivial) (by decide) (by decide) (by rfl))))) (by intro _;rfl)) (@Zv _ _ _ _ (@Zaw _ _ _ _ _ (Zc 1)))))
theorem Zku{fd:FuncData}(F:Fun K "read_row" "read_row" Zdl fx8 fd){dx2:FuncData}(Vx2:FnOk P w K mg base CX0 2 fx2 dx2 ["text","signs"] (spOf K 2 Zdz))(Wx2:Za3 K dx2 ["text","signs"] []){dx4:FuncData}(Vx4:FnOk P w K mg base CX0 3 fx4 dx4 ["value"] (spOf K 1 Zbd))(Wx4:Za3 K dx4 ["value"] []){dx7:FuncData}(Vx7:FnOk P w K mg base CX0 5 fx7 dx7 ["marks"] (spOf K 1 Zas))(Wx7:Za3 K dx7 ["marks"] []):
  FnOk P w K mg base CX0 6 fx8 fd ["words"] (spOf K 1 Zab):=by
 refine okB F Zf5 rfl Za2 fun _ _ _ _ _ _ _ hr hu hv=>?_
 exact(@Zg _ _ _ _ _ _ (@s_if _ _ _ _ _ _ _ _ _ (@PW.pt _ _ _ (@w_or _ _ _ _ _ _ _ _ (@t_lt _ _ _ _ _ _ _ (@Zeq _ _ _ _ _ _ T.z_len (Zc 0) (by rfl) (by rfl) (by rfl)) Zm) (@w_or _ _ _ _ _ _ _ _ (@Zj8 _ _ _ _ _ (@Zir _ _ _ _ (@Z2 _ _ _ _ _ _ _ _ _ _ _ _ _ _ Vx4 (hr.mono (by decide)) T.m_4 T.k_4 Wx4 (@Zh _ _ _ _ _ _ (@Zau _ _ _ _ _ _ _ hu (Zc 0) Zm (by intro _ _;rfl)) Zag (by rfl)) (by rfl) (by decide) (by rfl) (by rfl)) (by intro _;rfl))) (@Zoy _ _ _ _ _ (@Zj8 _ _ _ _ _ (@Zir _ _ _ _ (@Z2 _ _ _ _ _ _ _ _ _ _ _ _ _ _ Vx4 (hr.mono (by decide)) T.m_4 T.k_4 Wx4 (@Zh _ _ _ _ _ _ (@Zau _ _ _ _ _ _ _ hu (Zc 0) Zm (by intro _ _;rfl)) Zag (by rfl)) (by rfl) (by decide) (by rfl) (by rfl)) (by intro _;rfl))))))) (@Zv _ _ _ _ (@Zaw _ _ _ _ _ Zg3)) Zbc) (@Zg _ _ _ _ _ _ (@Zah _ _ _ _ _ 1 _ _ Zf5.nd (@Z2 _ _ _ _ _ _ _ _ _ _ _ _ _ _ Vx2 (hr.mono (by decide)) T.m_2 T.k_2 Wx2 (@Zh _ _ _ _ _ _ (@Zau _ _ _ _ _ _ _ hu (Zc 0) Zm (by intro _ _;rfl)) (@Zh _ _ _ _ _ _ (@Zj7 _ _ _ _ _ _ T.c_STYLE_SIGNS (by rfl) (by decide)) Zag (by rfl)) (by rfl)) (by rfl) (by decide) (by rfl) (by rfl)) (by rfl) (by trivial) (by rfl) (by trivial)) (@Zv _ _ _ _ (@Zaw _ _ _ _ _ (@e_if _ _ _ _ _ _ _ _ _ (@Zze _ _ _ _ _ _ _ (Zc 1) Zg3) Zg3 (@Z2 _ _ _ _ _ _ _ _ _ _ _ _ _ _ Vx7 (hr.mono (by decide)) T.m_7 T.k_7 Wx7 (@Zh _ _ _ _ _ _ (@Zz5 _ _ _ _ _ _ _ _ _ _ _ _ (Zc 1) (@Zck _ _ _ _ Zm) Zdb (@Zck _ _ _ _ Zm)) Zag (by rfl)) (by rfl) (by decide) (by rfl) (by rfl)))))))
theorem Zjb{fd:FuncData}(F:Fun K "read_list" "read_list" Zcw fx9 fd)(O_NoList:Zgy aNoList fxi0 base){dxi0:FuncData}(Vxi0:FnOk P w K mg base CX0 1 fxi0 dxi0 ["self","row"] (Zee aNoList "row"))(Wxi0:Za3 K dxi0 ["self","row"] []){dx8:FuncData}(Vx8:FnOk P w K mg base CX0 6 fx8 dx8 ["words"] (spOf K 1 Zab))(Wx8:Za3 K dx8 ["words"] []):
  FnOk P w K mg base (CX1 P w) 7 fx9 fd ["text"] (spX K 1 Zx):=by
 refine okBX F Zat rfl Zbp fun _ _ _ _ _ _ _ hr hu hv=>?_
 exact(@Zg _ _ _ _ _ _ (@s_if _ _ _ _ _ _ _ _ _ (@Zj8 _ _ _ _ _ (@Zir _ _ _ _ (@Zr0 _ _ _ _ _ _ _ _ _ T.z_isinstance T.z_str boot_str (Zo2 _) (Zc 0) (by rfl) (by rfl) (by decide) (by decide) (by rfl) (by rfl) (by rfl)) (by intro _;rfl))) (@Zv _ _ _ _ (@Zlv _ _ _ _ _ _ _ _ _ _ _ _ _ _ Zik rfl T.x_NoList O_NoList T.if_NoList Vxi0 (hr.mono (by decide)) Wxi0 T.n_NoList Zm (by exact fun _ _ _ _ h=>h) (by rfl) (by rfl) (by rfl) (by rfl) (by exact⟨_,_,rfl⟩) (by decide))) Zbc) (@Zg _ _ _ _ _ _ (@Zah _ _ _ _ _ 1 _ _ Zat.nd Zph (by rfl) (by trivial) (by rfl) (by trivial)) (@Zg _ _ _ _ _ _ (@Zah _ _ _ _ _ 2 _ _ Zat.nd (@e_if _ _ _ _ _ _ _ _ _ (@Zkj _ _ _ _ _ _ _ hv (Zc 0) Zp) (@Zbz _ _ _ _ _ Zaz) (@Zo7 _ _ _ _ _ _ _ _ (Zc 0) Zp (by rfl) (by rfl) (by rfl) (by rfl) (by rfl))) (by rfl) (by trivial) (by rfl) (by trivial)) (@Zg _ _ _ _ _ _ (@Zg4 _ _ _ _ _ _ _ _ _ PassesOwn.leaving rfl (@Zwr _ _ _ _ _ _ _ _ _ _ _ _ T.z_enumerate (Zc 2) (by rfl) (by rfl) (by rfl)) (@Zvw _ _ _ _ _ _ _ rfl (@Zec _ _ _ _ _ _ (@Zb0 _ _ _ 3 _ Zat.nd (by rfl) (by trivial) (by trivial)) (@Zec _ _ _ _ _ _ (@Zb0 _ _ _ 4 _ Zat.nd (by rfl) (by trivial) (by trivial)) Zo0 (by rfl)) (by rfl)) (by rfl) (by rfl)) (@Zg _ _ _ _ _ _ (@Zah _ _ _ _ _ 5 _ _ Zat.nd (@Zsu _ _ _ _ _ _ _ _ _ _ (Zc 4) Zp Zm (by rfl) (by rfl) (by rfl) (by rfl) (by rfl) (by rfl)) (by rfl) (by trivial) (by rfl) (by trivial)) (@Zg _ _ _ _ _ _ (@Zah _ _ _ _ _ 6 _ _ Zat.nd (@Z2 _ _ _ _ _ _ _ _ _ _ _ _ _ _ Vx8 (hr.mono (by decide)) T.m_8 T.k_8 Wx8 (@Zh _ _ _ _ _ _ (Zc 5) Zag (by rfl)) (by rfl) (by decide) (by rfl) (by rfl)) (by rfl) (by trivial) (by rfl) (by trivial)) (@Zg _ _ _ _ _ _ (@s_if _ _ _ _ _ _ _ _ _ (@PW.pt _ _ _ (@w_or _ _ _ _ _ _ _ _ (@Zze _ _ _ _ _ _ _ (Zc 6) Zg3) (@Zoy _ _ _ _ _ (@Z3o _ _ _ _ _ _ _ hu (@Zau _ _ _ _ _ _ _ hu (Zc 5) Zm (by intro _ _;rfl)) (Zc 1) (by rfl))))) (@Zv _ _ _ _ (@Zlv _ _ _ _ _ _ _ _ _ _ _ _ _ _ Zik rfl T.x_NoList O_NoList T.if_NoList Vxi0 (hr.mono (by decide)) Wxi0 T.n_NoList (Zc 3) (by exact fun _ _ _ _ h=>h) (by rfl) (by rfl) (by rfl) (by rfl) (by exact⟨_,_,rfl⟩) (by decide))) Zbc) (@Zv _ _ _ _ (@Zzp _ _ _ _ _ _ _ 1 _ _ _ hu (@Zau _ _ _ _ _ _ _ hu (Zc 5) Zm (by intro _ _;rfl)) (@Zka _ _ _ _ _ _ (@Zk _ _ _ _ _ _ (@Zau _ _ _ _ _ _ _ hu (Zc 5) Zm (by intro _ _;rfl)) (@Zk _ _ _ _ _ _ (Zc 6) Zaz (by rfl)) (by rfl))) (by rfl) (by trivial) (by decide) (by decide) (by rfl)))))) (by intro _;rfl)) (@Zv _ _ _ _ (@Zaw _ _ _ _ _ (Zc 1)))))))
theorem Zkv{fd:FuncData}(F:Fun K "_law_told" "_law_told" Zdm fx10 fd){dx9:FuncData}(Vx9:FnOk P w K mg base (CX1 P w) 7 fx9 dx9 ["text"] (spX K 1 Zx))(Wx9:Za3 K dx9 ["text"] []):
  FnOk P w K mg base CX0 8 fx10 fd ["_law_text"] (spOf K 1 Zu):=by
 refine okB F Za8 rfl Zc7 fun _ _ _ _ _ _ _ hr hu hv=>?_
 exact(@Zg _ _ _ _ _ _ (@Zah _ _ _ _ _ 1 _ _ Za8.nd Zg3 (by rfl) (by trivial) (by rfl) (by trivial)) (@Zg _ _ _ _ _ _ (@Zwo _ _ _ _ _ _ _ _ _ _ _ _ _ _ _ _ (fun _ _ _ tq=>(@Zv _ _ _ _ (@Zz2 _ _ _ _ _ 1 _ _ Za8.nd (@Zz1 _ _ _ _ _ _ _ _ _ _ _ _ _ _ Vx9 (hr.mono (by decide)) T.m_9 T.k_9 Wx9 (tq.pass rfl) (@Zwk _ _ _ _ _ _ (@Zzz _ _ _ _ (Zc 0)) Zz0 (by rfl)) (by rfl) (by decide) (by rfl) (by rfl)) (by rfl) (by trivial) (by rfl) (by trivial)))) T.x_NoList ⟨T.ty_NoList,T.ic_NoList,T.be_NoList⟩ Za8.nd (fun _=>(@Zg _ _ _ _ _ _ (@Zah _ _ _ _ _ 3 _ _ Za8.nd (@Zj9 _ _ _ _ _ _ _ _ (@Zsm _ _ _ _ _ _ _ _ _ _ _ T.z_isinstance T.x_CiteError ⟨(Zcd T.n_NoList ⟨T.ek_NoList,T.q0_NoList⟩ Za6),Za6⟩ (Zc 2) (by rfl) (by rfl) (by decide) (by rfl) (by rfl) (by rfl)) (@Zj9 _ _ _ _ _ _ _ _ (@Zz4 _ _ _ _ _ _ _ _ _ _ _ T.z_isinstance T.z_ValueError Zwm ⟨(Zcd T.n_NoList ⟨T.ek_NoList,T.q1_NoList⟩ Za6),Za6⟩ (Zc 2) (by rfl) (by rfl) (by decide) (by decide) (by rfl) (by rfl) (by rfl)) (@Zrz _ _ _ _ _ _ (@Zvt _ _ _ _ _ (@Zsm _ _ _ _ _ _ _ _ _ _ _ T.z_isinstance T.x_NoText ⟨Za6,(Zcd T.n_NoList ⟨T.ek_NoList,T.q2_NoList⟩ Za6)⟩ (Zc 2) (by rfl) (by rfl) (by decide) (by rfl) (by rfl) (by rfl)))))) (by rfl) (by trivial) (by rfl) (by trivial)) (@Zv _ _ _ _ (@Zah _ _ _ _ _ 1 _ _ Za8.nd (@Zka _ _ _ _ _ _ (@Zk _ _ _ _ _ _ Zp (@Zk _ _ _ _ _ _ (@Zz9 _ _ _ _ _ _ _ (Zcd T.n_NoList T.eg_NoList Za6) (Zc 2) (by rfl)) (@Zk _ _ _ _ _ _ (@Zj9 _ _ _ _ _ _ _ _ (Zc 3) (@Zj9 _ _ _ _ _ _ _ _ (@Zvt _ _ _ _ _ (@Zsm _ _ _ _ _ _ _ _ _ _ _ T.z_isinstance T.x_NoPlain ⟨Za6,(Zcd T.n_NoList ⟨T.ek_NoList,T.q3_NoList⟩ Za6)⟩ (Zc 2) (by rfl) (by rfl) (by decide) (by rfl) (by rfl) (by rfl))) (@Zrz _ _ _ _ _ _ (@Zvt _ _ _ _ _ (@Zsm _ _ _ _ _ _ _ _ _ _ _ T.z_isinstance T.x_NoName ⟨Za6,(Zcd T.n_NoList ⟨T.ek_NoList,T.q4_NoList⟩ Za6)⟩ (Zc 2) (by rfl) (by rfl) (by decide) (by rfl) (by rfl) (by rfl)))))) Zaz (by rfl)) (by rfl)) (by rfl))) (by rfl) (by trivial) (by rfl) (by trivial))))) (Zcd T.n_NoList T.h_NoList_NoList Za6) Za6 (by rfl) (by rfl) (by rfl) (by decide) (by rfl) (by rfl) (by rfl)) (@Zv _ _ _ _ (@Zaw _ _ _ _ _ (Zc 1)))))
theorem Zjc{fd:FuncData}(F:Fun K "_law_mixed" "_law_mixed" Zcx fx11 fd):
  FnOk P w K mg base CX0 1 fx11 fd ["_law_cell","_law_by"] (spOf K 2 Zak):=by
 refine okB F Zi8 rfl Zdp fun _ _ _ _ _ _ _ hr hu hv=>?_
 exact(@Zv _ _ _ _ (@Zaw _ _ _ _ _ (@Zby _ _ _ _ _ _ _ (@Zpr _ _ _ _ _ _ _ (@Zby _ _ _ _ _ _ _ (Zc 0) Zm) (Zc 1)) Zm)))
theorem Zjd{fd:FuncData}(F:Fun K "_law_marks" "_law_marks" Zcy fx12 fd):
  FnOk P w K mg base CX0 1 fx12 fd ["_law_name","_law_number"] (spOf K 2 Zbq):=by
 refine okB F Zbe rfl Zdq fun _ _ _ _ _ _ _ hr hu hv=>?_
 exact(@Zg _ _ _ _ _ _ (@Zah _ _ _ _ _ 2 _ _ Zbe.nd (@Zl _ _ _ _ _ _ _ Zp (Zc 0)) (by rfl) (by trivial) (by rfl) (by trivial)) (@Zg _ _ _ _ _ _ (@Zah _ _ _ _ _ 3 _ _ Zbe.nd (@Zbz _ _ _ _ _ (@Zk _ _ _ _ _ _ (@Zl _ _ _ _ _ _ _ (Zc 2) Zp) (@Zk _ _ _ _ _ _ (@Zl _ _ _ _ _ _ _ (Zc 2) Zp) (@Zcr _ _ _ _ [("<note=ab>",_,_),("<kind=ab>",_,_),("<=ab>",_,_)] (@Zk _ _ _ _ _ _ (@Zl _ _ _ _ _ _ _ (Zc 2) Zp) (@Zk _ _ _ _ _ _ (@Zl _ _ _ _ _ _ _ (Zc 2) Zp) Zaz (by rfl)) (by rfl))) (by rfl)) (by rfl))) (by rfl) (by trivial) (by rfl) (by trivial)) (@Zg _ _ _ _ _ _ (@Zah _ _ _ _ _ 3 _ _ Zbe.nd (@Zl _ _ _ _ _ _ _ (Zc 3) (@Zbz _ _ _ _ _ (@Zk _ _ _ _ _ _ (@Zl _ _ _ _ _ _ _ (@Zl _ _ _ _ _ _ _ (@Zl _ _ _ _ _ _ _ (Zc 2) Zp) (@Zpr _ _ _ _ _ _ _ Zp Zm)) Zp) (@Zk _ _ _ _ _ _ (@Zl _ _ _ _ _ _ _ (Zc 2) Zp) (@Zk _ _ _ _ _ _ (@Zl _ _ _ _ _ _ _ (Zc 2) Zp) (@Zk _ _ _ _ _ _ (@Zl _ _ _ _ _ _ _ (Zc 2) Zp) (@Zk _ _ _ _ _ _ Zp Zaz (by rfl)) (by rfl)) (by rfl)) (by rfl)) (by rfl)))) (by rfl) (by trivial) (by rfl) (by trivial)) (@Zg _ _ _ _ _ _ (@Zah _ _ _ _ _ 3 _ _ Zbe.nd (@Zl _ _ _ _ _ _ _ (Zc 3) (@Zbz _ _ _ _ _ (@Zk _ _ _ _ _ _ (@Zl _ _ _ _ _ _ _ (@Zl _ _ _ _ _ _ _ (@Zl _ _ _ _ _ _ _ (Zc 2) Zp) (Zc 2)) Zp) (@Zk _ _ _ _ _ _ (@Zl _ _ _ _ _ _ _ (Zc 2) Zp) (@Zk _ _ _ _ _ _ (@Zl _ _ _ _ _ _ _ (@Zl _ _ _ _ _ _ _ Zp (Zc 0)) Zp) (@Zcr _ _ _ _ [("<abcdefghi=ab>",_,_),("<>",_,_)] Zaz) (by rfl)) (by rfl)) (by rfl)))) (by rfl) (by trivial) (by rfl) (by trivial)) (@Zv _ _ _ _ (@Zaw _ _ _ _ _ (@Zau _ _ _ _ _ _ _ hu (@Zl _ _ _ _ _ _ _ (Zc 3) (@Zbz _ _ _ _ _ (@Zk _ _ _ _ _ _ (@Zl _ _ _ _ _ _ _ (@Zl _ _ _ _ _ _ _ (@Zl _ _ _ _ _ _ _ (Zc 2) Zp) (Zc 2)) Zp) Zaz (by rfl)))) (@Zby _ _ _ _ _ _ _ (Zc 1) Zm) (by intro _ _;rfl))))))))
theorem Zgf{fd:FuncData}(F:Fun K "_law_spoiled" "_law_spoiled" Zbv fx13 fd){dx12:FuncData}(Vx12:FnOk P w K mg base CX0 1 fx12 dx12 ["_law_name","_law_number"] (spOf K 2 Zbq))(Wx12:Za3 K dx12 ["_law_name","_law_number"] []):
  FnOk P w K mg base CX0 2 fx13 fd ["_law_key","_law_kind","_law_above","_law_name","_law_number"] (spOf K 5 Zo):=by
 refine okB F Zax rfl Zad fun _ _ _ _ _ _ _ hr hu hv=>?_
 exact(@Zg _ _ _ _ _ _ (@Zah _ _ _ _ _ 5 _ _ Zax.nd (@Zby _ _ _ _ _ _ _ (Zc 4) Zm) (by rfl) (by trivial) (by rfl) (by trivial)) (@Zg _ _ _ _ _ _ (@Zah _ _ _ _ _ 6 _ _ Zax.nd (@Zda _ _ _ _ _ _ _ (Zc 4) Zm) (by rfl) (by trivial) (by rfl) (by trivial)) (@Zg _ _ _ _ _ _ (@s_if _ _ _ _ _ _ _ _ _ (@Zkj _ _ _ _ _ _ _ hv (Zc 5) Zm) (@Zv _ _ _ _ (@Zaw _ _ _ _ _ (@Zl _ _ _ _ _ _ _ (@Zl _ _ _ _ _ _ _ (@Zl _ _ _ _ _ _ _ (@Zau _ _ _ _ _ _ _ hu (@Zbz _ _ _ _ _ (@Zk _ _ _ _ _ _ (@Zl _ _ _ _ _ _ _ (@e_sl _ _ _ _ _ _ _ _ _ _ (Zc 0) (@Zck _ _ _ _ Zm) Zdb) Zp) (@Zk _ _ _ _ _ _ Zp (@Zk _ _ _ _ _ _ (@Zl _ _ _ _ _ _ _ (Zc 0) Zp) (@Zk _ _ _ _ _ _ (@Zl _ _ _ _ _ _ _ (Zc 0) Zp) (@Zk _ _ _ _ _ _ (@Zl _ _ _ _ _ _ _ Zp (@e_sl _ _ _ _ _ _ _ _ _ _ (Zc 0) (@Zck _ _ _ _ Zm) Zdb)) Zaz (by rfl)) (by rfl)) (by rfl)) (by rfl)) (by rfl))) (@Zby _ _ _ _ _ _ _ (Zc 6) Zm) (by intro _ _;rfl)) Zp) (Zc 1)) Zp))) Zbc) (@Zg _ _ _ _ _ _ (@s_if _ _ _ _ _ _ _ _ _ (@Zkj _ _ _ _ _ _ _ hv (Zc 5) Zm) (@Zv _ _ _ _ (@Zaw _ _ _ _ _ (@Zl _ _ _ _ _ _ _ (@Zl _ _ _ _ _ _ _ (@Zl _ _ _ _ _ _ _ (Zc 0) Zp) (@Zau _ _ _ _ _ _ _ hu (@Zbz _ _ _ _ _ (@Zk _ _ _ _ _ _ (@Zl _ _ _ _ _ _ _ (@e_sl _ _ _ _ _ _ _ _ _ _ (Zc 1) (@Zck _ _ _ _ Zm) Zdb) Zp) (@Zk _ _ _ _ _ _ Zp (@Zk _ _ _ _ _ _ (@Zl _ _ _ _ _ _ _ (Zc 1) Zp) (@Zk _ _ _ _ _ _ (@Zl _ _ _ _ _ _ _ (Zc 1) Zp) Zaz (by rfl)) (by rfl)) (by rfl)) (by rfl))) (@Zby _ _ _ _ _ _ _ (Zc 6) Zm) (by intro _ _;rfl))) Zp))) Zbc) (@Zg _ _ _ _ _ _ (@s_if _ _ _ _ _ _ _ _ _ (@Zkj _ _ _ _ _ _ _ hv (Zc 5) Zm) (@Zv _ _ _ _ (@Zaw _ _ _ _ _ (@Zau _ _ _ _ _ _ _ hu (@Zbz _ _ _ _ _ (@Zk _ _ _ _ _ _ (@Zl _ _ _ _ _ _ _ (@Zl _ _ _ _ _ _ _ (Zc 0) Zp) (Zc 1)) (@Zk _ _ _ _ _ _ (Zc 0) (@Zk _ _ _ _ _ _ Zp (@Zk _ _ _ _ _ _ (@Zl _ _ _ _ _ _ _ (Zc 0) (Zc 1)) (@Zk _ _ _ _ _ _ (@Zl _ _ _ _ _ _ _ (@Zl _ _ _ _ _ _ _ (@Zl _ _ _ _ _ _ _ (Zc 0) Zp) (Zc 1)) Zp) (@Zk _ _ _ _ _ _ (@Zl _ _ _ _ _ _ _ (@Zl _ _ _ _ _ _ _ (@Zl _ _ _ _ _ _ _ (@Zl _ _ _ _ _ _ _ Zp (Zc 0)) Zp) (Zc 1)) Zp) Zaz (by rfl)) (by rfl)) (by rfl)) (by rfl)) (by rfl)) (by rfl))) (@Zby _ _ _ _ _ _ _ (Zc 6) Zm) (by intro _ _;rfl)))) Zbc) (@Zg _ _ _ _ _ _ (@s_if _ _ _ _ _ _ _ _ _ (@Zkj _ _ _ _ _ _ _ hv (Zc 5) Zm) (@Zv _ _ _ _ (@Zaw _ _ _ _ _ (@Zl _ _ _ _ _ _ _ (@Zl _ _ _ _ _ _ _ (@Zl _ _ _ _ _ _ _ (Zc 2) Zp) (Zc 1)) Zp))) Zbc) (@Zg _ _ _ _ _ _ (@s_if _ _ _ _ _ _ _ _ _ (@Zkj _ _ _ _ _ _ _ hv (Zc 5) Zm) (@Zv _ _ _ _ (@Zaw _ _ _ _ _ (@Zl _ _ _ _ _ _ _ (@Zl _ _ _ _ _ _ _ (@Zl _ _ _ _ _ _ _ (@Zl _ _ _ _ _ _ _ (@Zl _ _ _ _ _ _ _ (Zc 0) Zp) (Zc 1)) Zp) (@Zau _ _ _ _ _ _ _ hu (@Zbz _ _ _ _ _ (@Zcr _ _ _ _ [("\t",_,_),("^",_,_),("{",_,_),("[",_,_),("\"",_,_),("_",_,_),("#",_,_),("|",_,_)] Zaz)) (@Zby _ _ _ _ _ _ _ (Zc 6) Zm) (by intro _ _;rfl))) Zp))) Zbc) (@Zg _ _ _ _ _ _ (@Zah _ _ _ _ _ 7 _ _ Zax.nd (@Zau _ _ _ _ _ _ _ hu (@Zbz _ _ _ _ _ (@Zk _ _ _ _ _ _ Zp (@Zk _ _ _ _ _ _ (@Zl _ _ _ _ _ _ _ (@Zl _ _ _ _ _ _ _ Zp (Zc 3)) Zp) (@Zcr _ _ _ _ [(" (",_,_),("1: ",_,_)] Zaz) (by rfl)) (by rfl))) (@Zby _ _ _ _ _ _ _ (Zc 6) Zm) (by intro _ _;rfl)) (by rfl) (by trivial) (by rfl) (by trivial)) (@Zg _ _ _ _ _ _ (@Zah _ _ _ _ _ 8 _ _ Zax.nd (@Z2 _ _ _ _ _ _ _ _ _ _ _ _ _ _ Vx12 (hr.mono (by decide)) T.m_12 T.k_12 Wx12 (@Zh _ _ _ _ _ _ (Zc 3) (@Zh _ _ _ _ _ _ (@Zda _ _ _ _ _ _ _ (Zc 6) Zm) Zag (by rfl)) (by rfl)) (by rfl) (by decide) (by rfl) (by rfl)) (by rfl) (by trivial) (by rfl) (by trivial)) (@Zv _ _ _ _ (@Zaw _ _ _ _ _ (@Zl _ _ _ _ _ _ _ (@Zl _ _ _ _ _ _ _ (@Zl _ _ _ _ _ _ _ (@Zl _ _ _ _ _ _ _ (@Zl _ _ _ _ _ _ _ (@Zl _ _ _ _ _ _ _ (Zc 0) Zp) (Zc 1)) Zp) (Zc 7)) (Zc 8)) (@Zau _ _ _ _ _ _ _ hu (@Zbz _ _ _ _ _ (@Zcr _ _ _ _ [("",_,_),(" ",_,_)] (@Zk _ _ _ _ _ _ (@Zl _ _ _ _ _ _ _ (@Zl _ _ _ _ _ _ _ Zp (Zc 3)) Zp) Zaz (by rfl)))) (@Zby _ _ _ _ _ _ _ (@Zda _ _ _ _ _ _ _ (Zc 6) Zm) Zm) (by intro _ _;rfl))))))))))))))
theorem Zgg{fd:FuncData}(F:Fun K "_law_cell_at" "_law_cell_at" Zbw fx14 fd):
  FnOk P w K mg base CX0 1 fx14 fd ["_law_script","_law_k"] (spOf K 2 Z6):=by
 refine okB F Zge rfl Zch fun _ _ _ _ _ _ _ hr hu hv=>?_
 exact(@Zg _ _ _ _ _ _ (@s_if _ _ _ _ _ _ _ _ _ (@t_lt _ _ _ _ _ _ _ (Zc 1) (@Zeq _ _ _ _ _ _ T.z_len (Zc 0) (by rfl) (by rfl) (by rfl))) (@Zv _ _ _ _ (@Zaw _ _ _ _ _ (@Zau _ _ _ _ _ _ _ hu (Zc 0) (Zc 1) (by intro _ _;rfl)))) Zbc) (@Zv _ _ _ _ (@Zaw _ _ _ _ _ Zm)))
theorem Zne{fd:FuncData}(F:Fun K "_law_row" "_law_row" Zei fx15 fd):
  FnOk P w K mg base CX0 1 fx15 fd ["_law_key","_law_kind","_law_fields","_law_number"] (spOf K 4 Zc1):=by
 refine okB F Zb4 rfl Zf3 fun _ _ _ _ _ _ _ hr hu hv=>?_
 exact(@Zg _ _ _ _ _ _ (@Zah _ _ _ _ _ 4 _ _ Zb4.nd (@Zl _ _ _ _ _ _ _ (@Zl _ _ _ _ _ _ _ (@Zl _ _ _ _ _ _ _ (Zc 0) Zp) (Zc 1)) Zp) (by rfl) (by trivial) (by rfl) (by trivial)) (@Zg _ _ _ _ _ _ (@Zg4 _ _ _ _ _ _ _ _ _ PassesOwn.never rfl (@Zvx _ _ _ _ _ _ _ T.z_range (@Zby _ _ _ _ _ _ _ (Zc 3) Zm) (by rfl) (by rfl)) (@Zb0 _ _ _ 5 _ Zb4.nd (by rfl) (by trivial) (by trivial)) (@Zg _ _ _ _ _ _ (@Zah _ _ _ _ _ 6 _ _ Zb4.nd (@Zau _ _ _ _ _ _ _ hu (Zc 2) (@Zby _ _ _ _ _ _ _ (@Zda _ _ _ _ _ _ _ (Zc 3) (@Zl _ _ _ _ _ _ _ Zm (Zc 5))) Zm) (by intro _ _;rfl)) (by rfl) (by trivial) (by rfl) (by trivial)) (@Zv _ _ _ _ (@Zah _ _ _ _ _ 4 _ _ Zb4.nd (@Zl _ _ _ _ _ _ _ (@Zl _ _ _ _ _ _ _ (@Zl _ _ _ _ _ _ _ (@Zl _ _ _ _ _ _ _ (@Zl _ _ _ _ _ _ _ (@Zl _ _ _ _ _ _ _ (Zc 4) (@Zau _ _ _ _ _ _ _ hu (@Zbz _ _ _ _ _ (@Zcr _ _ _ _ [("",_,_),(": ",_,_),(" (",_,_),("= ",_,_)] Zaz)) (@Zby _ _ _ _ _ _ _ (@Zda _ _ _ _ _ _ _ (Zc 3) (@Zl _ _ _ _ _ _ _ Zm (Zc 5))) Zm) (by intro _ _;rfl))) Zp) (Zc 6)) Zp) (Zc 6)) Zp) (by rfl) (by trivial) (by rfl) (by trivial)))) (by intro _;rfl)) (@Zv _ _ _ _ (@Zaw _ _ _ _ _ (Zc 4)))))
theorem Z0i{fd:FuncData}(F:Fun K "law" "law" Zdy fx16 fd){dx0:FuncData}(Vx0:FnOk P w K mg base CX0 1 fx0 dx0 ["_law_number","_law_many"] (spOf K 2 Zaf))(Wx0:Za3 K dx0 ["_law_number","_law_many"] []){dx10:FuncData}(Vx10:FnOk P w K mg base CX0 8 fx10 dx10 ["_law_text"] (spOf K 1 Zu))(Wx10:Za3 K dx10 ["_law_text"] []){dx11:FuncData}(Vx11:FnOk P w K mg base CX0 1 fx11 dx11 ["_law_cell","_law_by"] (spOf K 2 Zak))(Wx11:Za3 K dx11 ["_law_cell","_law_by"] []){dx13:FuncData}(Vx13:FnOk P w K mg base CX0 2 fx13 dx13 ["_law_key","_law_kind","_law_above","_law_name","_law_number"] (spOf K 5 Zo))(Wx13:Za3 K dx13 ["_law_key","_law_kind","_law_above","_law_name","_law_number"] []){dx14:FuncData}(Vx14:FnOk P w K mg base CX0 1 fx14 dx14 ["_law_script","_law_k"] (spOf K 2 Z6))(Wx14:Za3 K dx14 ["_law_script","_law_k"] []){dx15:FuncData}(Vx15:FnOk P w K mg base CX0 1 fx15 dx15 ["_law_key","_law_kind","_law_fields","_law_number"] (spOf K 4 Zc1))(Wx15:Za3 K dx15 ["_law_key","_law_kind","_law_fields","_law_number"] []):
  FnOk P w K mg base CX0 9 fx16 fd ["_law_script"] (spOf K 1 Zhl):=by
 refine okB F Zbi rfl Zww fun _ _ _ _ _ _ _ hr hu hv=>?_
 exact(@Zg _ _ _ _ _ _ (@Zah _ _ _ _ _ 1 _ _ Zbi.nd (@Zl _ _ _ _ _ _ _ (@Zbz _ _ _ _ _ (@Zk _ _ _ _ _ _ (@Z2 _ _ _ _ _ _ _ _ _ _ _ _ _ _ Vx14 (hr.mono (by decide)) T.m_14 T.k_14 Wx14 (@Zh _ _ _ _ _ _ (Zc 0) (@Zh _ _ _ _ _ _ Zm Zag (by rfl)) (by rfl)) (by rfl) (by decide) (by rfl) (by rfl)) (@Zk _ _ _ _ _ _ (@Z2 _ _ _ _ _ _ _ _ _ _ _ _ _ _ Vx14 (hr.mono (by decide)) T.m_14 T.k_14 Wx14 (@Zh _ _ _ _ _ _ (Zc 0) (@Zh _ _ _ _ _ _ Zm Zag (by rfl)) (by rfl)) (by rfl) (by decide) (by rfl) (by rfl)) Zaz (by rfl)) (by rfl))) (@e_sl _ _ _ _ _ _ _ _ _ _ (Zc 0) (@Zck _ _ _ _ Zm) (@Zck _ _ _ _ Zm))) (by rfl) (by trivial) (by rfl) (by trivial)) (@Zg _ _ _ _ _ _ (@Zah _ _ _ _ _ 2 _ _ Zbi.nd (@Z2 _ _ _ _ _ _ _ _ _ _ _ _ _ _ Vx0 (hr.mono (by decide)) T.m_0 T.k_0 Wx0 (@Zh _ _ _ _ _ _ (@Z2 _ _ _ _ _ _ _ _ _ _ _ _ _ _ Vx11 (hr.mono (by decide)) T.m_11 T.k_11 Wx11 (@Zh _ _ _ _ _ _ (@Z2 _ _ _ _ _ _ _ _ _ _ _ _ _ _ Vx14 (hr.mono (by decide)) T.m_14 T.k_14 Wx14 (@Zh _ _ _ _ _ _ (Zc 0) (@Zh _ _ _ _ _ _ Zm Zag (by rfl)) (by rfl)) (by rfl) (by decide) (by rfl) (by rfl)) (@Zh _ _ _ _ _ _ Zm Zag (by rfl)) (by rfl)) (by rfl) (by decide) (by rfl) (by rfl)) (@Zh _ _ _ _ _ _ Zm Zag (by rfl)) (by rfl)) (by rfl) (by decide) (by rfl) (by rfl)) (by rfl) (by trivial) (by rfl) (by trivial)) (@Zg _ _ _ _ _ _ (@Zah _ _ _ _ _ 3 _ _ Zbi.nd (@Z2 _ _ _ _ _ _ _ _ _ _ _ _ _ _ Vx0 (hr.mono (by decide)) T.m_0 T.k_0 Wx0 (@Zh _ _ _ _ _ _ (@Z2 _ _ _ _ _ _ _ _ _ _ _ _ _ _ Vx11 (hr.mono (by decide)) T.m_11 T.k_11 Wx11 (@Zh _ _ _ _ _ _ (@Z2 _ _ _ _ _ _ _ _ _ _ _ _ _ _ Vx14 (hr.mono (by decide)) T.m_14 T.k_14 Wx14 (@Zh _ _ _ _ _ _ (Zc 0) (@Zh _ _ _ _ _ _ Zm Zag (by rfl)) (by rfl)) (by rfl) (by decide) (by rfl) (by rfl)) (@Zh _ _ _ _ _ _ Zm Zag (by rfl)) (by rfl)) (by rfl) (by decide) (by rfl) (by rfl)) (@Zh _ _ _ _ _ _ Zm Zag (by rfl)) (by rfl)) (by rfl) (by decide) (by rfl) (by rfl)) (by rfl) (by trivial) (by rfl) (by trivial)) (@Zg _ _ _ _ _ _ (@Zah _ _ _ _ _ 4 _ _ Zbi.nd (@Zbz _ _ _ _ _ Zaz) (by rfl) (by trivial) (by rfl) (by trivial)) (@Zg _ _ _ _ _ _ (@Zg4 _ _ _ _ _ _ _ _ _ PassesOwn.never rfl (@Zo9 _ _ _ _ _ _ _ _ _ T.z_enumerate (@Zk _ _ _ _ _ _ (Zc 1) Zaz (by rfl)) (by rfl) (by rfl)) (@Zvw _ _ _ _ _ _ _ rfl (@Zec _ _ _ _ _ _ (@Zb0 _ _ _ 5 _ Zbi.nd (by rfl) (by trivial) (by trivial)) (@Zec _ _ _ _ _ _ (@Zb0 _ _ _ 6 _ Zbi.nd (by rfl) (by trivial) (by trivial)) Zo0 (by rfl)) (by rfl)) (by rfl) (by rfl)) (@Zg _ _ _ _ _ _ (@Zah _ _ _ _ _ 7 _ _ Zbi.nd (@Zau _ _ _ _ _ _ _ hu (@Z2 _ _ _ _ _ _ _ _ _ _ _ _ _ _ Vx0 (hr.mono (by decide)) T.m_0 T.k_0 Wx0 (@Zh _ _ _ _ _ _ (@Z2 _ _ _ _ _ _ _ _ _ _ _ _ _ _ Vx11 (hr.mono (by decide)) T.m_11 T.k_11 Wx11 (@Zh _ _ _ _ _ _ (Zc 6) (@Zh _ _ _ _ _ _ Zm Zag (by rfl)) (by rfl)) (by rfl) (by decide) (by rfl) (by rfl)) (@Zh _ _ _ _ _ _ Zm Zag (by rfl)) (by rfl)) (by rfl) (by decide) (by rfl) (by rfl)) Zm (by intro _ _;rfl)) (by rfl) (by trivial) (by rfl) (by trivial)) (@Zv _ _ _ _ (@Zzh _ _ _ _ _ 4 _ _ _ _ (@Z2 _ _ _ _ _ _ _ _ _ _ _ _ _ _ Vx15 (hr.mono (by decide)) T.m_15 T.k_15 Wx15 (@Zh _ _ _ _ _ _ (@Zau _ _ _ _ _ _ _ hu (Zc 3) (Zc 5) (by intro _ _;rfl)) (@Zh _ _ _ _ _ _ (Zc 7) (@Zh _ _ _ _ _ _ (Zc 2) (@Zh _ _ _ _ _ _ (@Z2 _ _ _ _ _ _ _ _ _ _ _ _ _ _ Vx11 (hr.mono (by decide)) T.m_11 T.k_11 Wx11 (@Zh _ _ _ _ _ _ (@Zl _ _ _ _ _ _ _ (Zc 6) (Zc 5)) (@Zh _ _ _ _ _ _ Zm Zag (by rfl)) (by rfl)) (by rfl) (by decide) (by rfl) (by rfl)) Zag (by rfl)) (by rfl)) (by rfl)) (by rfl)) (by rfl) (by decide) (by rfl) (by rfl)) (by rfl) (by trivial) (by decide) (by decide) (by rfl) (by rfl) (by rfl) (by rfl) (by rfl) (by rfl)))) (by intro _;rfl)) (@Zg _ _ _ _ _ _ (@Zah _ _ _ _ _ 8 _ _ Zbi.nd (@Z2 _ _ _ _ _ _ _ _ _ _ _ _ _ _ Vx10 (hr.mono (by decide)) T.m_10 T.k_10 Wx10 (@Zh _ _ _ _ _ _ (@Zfo _ _ _ _ _ _ _ _ Zp (Zc 4) (by rfl) (by rfl) (by rfl) (by rfl) (by rfl)) Zag (by rfl)) (by rfl) (by decide) (by rfl) (by rfl)) (by rfl) (by trivial) (by rfl) (by trivial)) (@Zg _ _ _ _ _ _ (@s_if _ _ _ _ _ _ _ _ _ (@PW.pt _ _ _ (@w_or _ _ _ _ _ _ _ _ (@Zj8 _ _ _ _ _ (@Zir _ _ _ _ (@Zr0 _ _ _ _ _ _ _ _ _ T.z_isinstance T.z_dict boot_dict (Zlf _) (Zc 8) (by rfl) (by rfl) (by decide) (by decide) (by rfl) (by rfl) (by rfl)) (by intro _;rfl))) (@Zoy _ _ _ _ _ (@Zmz _ _ _ _ _ _ _ hv (@Zeq _ _ _ _ _ _ T.z_len (Zc 8) (by rfl) (by rfl) (by rfl)) (@Zeq _ _ _ _ _ _ T.z_len (Zc 4) (by rfl) (by rfl) (by rfl)))))) (@Zv _ _ _ _ (@Zaw _ _ _ _ _ e_bl)) Zbc) (@Zg _ _ _ _ _ _ (@Zg4 _ _ _ _ _ _ _ _ _ PassesOwn.never rfl (@Zo9 _ _ _ _ _ _ _ _ _ T.z_enumerate (@Zk _ _ _ _ _ _ (Zc 1) Zaz (by rfl)) (by rfl) (by rfl)) (@Zvw _ _ _ _ _ _ _ rfl (@Zec _ _ _ _ _ _ (@Zb0 _ _ _ 5 _ Zbi.nd (by rfl) (by trivial) (by trivial)) (@Zec _ _ _ _ _ _ (@Zb0 _ _ _ 6 _ Zbi.nd (by rfl) (by trivial) (by trivial)) Zo0 (by rfl)) (by rfl)) (by rfl) (by rfl)) (@Zg _ _ _ _ _ _ (@Zah _ _ _ _ _ 9 _ _ Zbi.nd (@Z2 _ _ _ _ _ _ _ _ _ _ _ _ _ _ Vx11 (hr.mono (by decide)) T.m_11 T.k_11 Wx11 (@Zh _ _ _ _ _ _ (@Zl _ _ _ _ _ _ _ (Zc 6) (Zc 5)) (@Zh _ _ _ _ _ _ Zm Zag (by rfl)) (by rfl)) (by rfl) (by decide) (by rfl) (by rfl)) (by rfl) (by trivial) (by rfl) (by trivial)) (@Zg _ _ _ _ _ _ (@Zah _ _ _ _ _ 10 _ _ Zbi.nd (@Zl _ _ _ _ _ _ _ Zm (@Zby _ _ _ _ _ _ _ (@Zda _ _ _ _ _ _ _ (Zc 9) Zm) (@Z2y _ _ _ _ _ _ _ (@Zeq _ _ _ _ _ _ T.z_len (Zc 4) (by rfl) (by rfl) (by rfl)) Zm))) (by rfl) (by trivial) (by rfl) (by trivial)) (@Zg _ _ _ _ _ _ (@Zah _ _ _ _ _ 11 _ _ Zbi.nd (@Z2 _ _ _ _ _ _ _ _ _ _ _ _ _ _ Vx13 (hr.mono (by decide)) T.m_13 T.k_13 Wx13 (@Zh _ _ _ _ _ _ (@Zau _ _ _ _ _ _ _ hu (Zc 3) (Zc 10) (by intro _ _;rfl)) (@Zh _ _ _ _ _ _ Zp (@Zh _ _ _ _ _ _ (@Zau _ _ _ _ _ _ _ hu (Zc 3) (@Zby _ _ _ _ _ _ _ (@Zda _ _ _ _ _ _ _ (Zc 9) Zm) (Zc 10)) (by intro _ _;rfl)) (@Zh _ _ _ _ _ _ (@Zau _ _ _ _ _ _ _ hu (Zc 2) (@Zby _ _ _ _ _ _ _ (@Zda _ _ _ _ _ _ _ (Zc 9) Zm) Zm) (by intro _ _;rfl)) (@Zh _ _ _ _ _ _ (Zc 9) Zag (by rfl)) (by rfl)) (by rfl)) (by rfl)) (by rfl)) (by rfl) (by decide) (by rfl) (by rfl)) (by rfl) (by trivial) (by rfl) (by trivial)) (@Zg _ _ _ _ _ _ (@s_if _ _ _ _ _ _ _ _ _ (@Zmz _ _ _ _ _ _ _ hv (@Z2 _ _ _ _ _ _ _ _ _ _ _ _ _ _ Vx10 (hr.mono (by decide)) T.m_10 T.k_10 Wx10 (@Zh _ _ _ _ _ _ (@Zfo _ _ _ _ _ _ _ _ Zp (@Zl _ _ _ _ _ _ _ (@Zl _ _ _ _ _ _ _ (@e_sl _ _ _ _ _ _ _ _ _ _ (Zc 4) Zdb (@Zck _ _ _ _ (Zc 10))) (@Zbz _ _ _ _ _ (@Zk _ _ _ _ _ _ (Zc 11) Zaz (by rfl)))) (@e_sl _ _ _ _ _ _ _ _ _ _ (Zc 4) (@Zck _ _ _ _ (@Zl _ _ _ _ _ _ _ (Zc 10) Zm)) Zdb)) (by rfl) (by rfl) (by rfl) (by rfl) (by rfl)) Zag (by rfl)) (by rfl) (by decide) (by rfl) (by rfl)) (@Zka _ _ _ _ _ _ (@Zk _ _ _ _ _ _ Zp (@Zk _ _ _ _ _ _ (@Zl _ _ _ _ _ _ _ (Zc 10) Zm) (@Zk _ _ _ _ _ _ e_bl Zaz (by rfl)) (by rfl)) (by rfl)))) (@Zv _ _ _ _ (@Zaw _ _ _ _ _ e_bl)) Zbc) (@Zg _ _ _ _ _ _ (@Zah _ _ _ _ _ 12 _ _ Zbi.nd (@Z2 _ _ _ _ _ _ _ _ _ _ _ _ _ _ Vx10 (hr.mono (by decide)) T.m_10 T.k_10 Wx10 (@Zh _ _ _ _ _ _ (@Zfo _ _ _ _ _ _ _ _ Zp (@e_sl _ _ _ _ _ _ _ _ _ _ (Zc 4) Zdb (@Zck _ _ _ _ (Zc 10))) (by rfl) (by rfl) (by rfl) (by rfl) (by rfl)) Zag (by rfl)) (by rfl) (by decide) (by rfl) (by rfl)) (by rfl) (by trivial) (by rfl) (by trivial)) (@Zv _ _ _ _ (@s_if _ _ _ _ _ _ _ _ _ (@PW.pt _ _ _ (@w_or _ _ _ _ _ _ _ _ (@Zj8 _ _ _ _ _ (@Zir _ _ _ _ (@Zr0 _ _ _ _ _ _ _ _ _ T.z_isinstance T.z_dict boot_dict (Zlf _) (Zc 12) (by rfl) (by rfl) (by decide) (by decide) (by rfl) (by rfl) (by rfl)) (by intro _;rfl))) (@Zoy _ _ _ _ _ (@Zmz _ _ _ _ _ _ _ hv (@Zeq _ _ _ _ _ _ T.z_len (Zc 12) (by rfl) (by rfl) (by rfl)) (Zc 10))))) (@Zv _ _ _ _ (@Zaw _ _ _ _ _ e_bl)) Zbc))))))) (by intro _;rfl)) (@Zg _ _ _ _ _ _ (@s_if _ _ _ _ _ _ _ _ _ (@Zmz _ _ _ _ _ _ _ hv (@Z2 _ _ _ _ _ _ _ _ _ _ _ _ _ _ Vx10 (hr.mono (by decide)) T.m_10 T.k_10 Wx10 (@Zh _ _ _ _ _ _ (@Zl _ _ _ _ _ _ _ (@Zfo _ _ _ _ _ _ _ _ Zp (Zc 4) (by rfl) (by rfl) (by rfl) (by rfl) (by rfl)) Zp) Zag (by rfl)) (by rfl) (by decide) (by rfl) (by rfl)) (@Zka _ _ _ _ _ _ (@Zk _ _ _ _ _ _ Zp (@Zk _ _ _ _ _ _ (@Zl _ _ _ _ _ _ _ (@Zeq _ _ _ _ _ _ T.z_len (Zc 4) (by rfl) (by rfl) (by rfl)) Zm) (@Zk _ _ _ _ _ _ e_bl Zaz (by rfl)) (by rfl)) (by rfl)))) (@Zv _ _ _ _ (@Zaw _ _ _ _ _ e_bl)) Zbc) (@Zg _ _ _ _ _ _ (@Zg4 _ _ _ _ _ _ _ _ _ PassesOwn.never rfl (@Zr5 _ _ _ _ _ (@Zbz _ _ _ _ _ (@Zk _ _ _ _ _ _ Zg3 (@Zk _ _ _ _ _ _ (Zc 4) (@Zk _ _ _ _ _ _ Zm Zaz (by rfl)) (by rfl)) (by rfl)))) (@Zb0 _ _ _ 13 _ Zbi.nd (by rfl) (by trivial) (by trivial)) (@Zv _ _ _ _ (@s_if _ _ _ _ _ _ _ _ _ (@Zmz _ _ _ _ _ _ _ hv (@Z2 _ _ _ _ _ _ _ _ _ _ _ _ _ _ Vx10 (hr.mono (by decide)) T.m_10 T.k_10 Wx10 (@Zh _ _ _ _ _ _ (Zc 13) Zag (by rfl)) (by rfl) (by decide) (by rfl) (by rfl)) (@Zka _ _ _ _ _ _ (@Zk _ _ _ _ _ _ Zp (@Zk _ _ _ _ _ _ Zm (@Zk _ _ _ _ _ _ e_bl Zaz (by rfl)) (by rfl)) (by rfl)))) (@Zv _ _ _ _ (@Zaw _ _ _ _ _ e_bl)) Zbc)) (by intro _;rfl)) (@Zv _ _ _ _ (@Zaw _ _ _ _ _ (@Zzt _ _ _ _ _ _ _ hv (@Z2 _ _ _ _ _ _ _ _ _ _ _ _ _ _ Vx10 (hr.mono (by decide)) T.m_10 T.k_10 Wx10 (@Zh _ _ _ _ _ _ (@Zau _ _ _ _ _ _ _ hu (@Zbz _ _ _ _ _ (@Zcr _ _ _ _ [("x",_,_),(" ",_,_)] Zaz)) (@Zby _ _ _ _ _ _ _ (@Z2 _ _ _ _ _ _ _ _ _ _ _ _ _ _ Vx14 (hr.mono (by decide)) T.m_14 T.k_14 Wx14 (@Zh _ _ _ _ _ _ (Zc 0) (@Zh _ _ _ _ _ _ Zm Zag (by rfl)) (by rfl)) (by rfl) (by decide) (by rfl) (by rfl)) Zm) (by intro _ _;rfl)) Zag (by rfl)) (by rfl) (by decide) (by rfl) (by rfl)) (@Zka _ _ _ _ _ _ (@Zk _ _ _ _ _ _ Zp (@Zk _ _ _ _ _ _ Zm (@Zk _ _ _ _ _ _ e_bl Zaz (by rfl)) (by rfl)) (by rfl))))))))))))))))
end
theorem Z0j {l : PySem.W.OpenLaw} {w : World} {K : PySem.W.Frag} {h : Heap} {mg : Str → Option Value} {tx0 : Tok} {tx1 : Tok} {tx2 : Tok} {tx3 : Tok} {tx4 : Tok} {fa fx0 fx1 fx2 fx3 fx4 fx5 fx6 fx7 fx8 fx9 fx10 fx11 fx12 fx13 fx14 fx15 fx16 aCiteError aNoList aNoName aNoPlain aNoText fxi0 : Addr} (X : K.In h) (G : h.Ns mainGlobals mg) (hfa : mg "law" = some (.ref fa))
    {odx16 anx16 : Option Addr} {slx16 : Array (Option Value)} {ocx16 kVx16 dcx16 pmx16 cdx16 ctx16 : Value}
    (ax0 : PySem.W.nsIn K mainGlobals "_law_names" = some (some (.ref fx0))) (Fx0 : ∃ fd, Fun K "_law_names" "_law_names" Zcu fx0 fd) (kx0 : PySem.W.keepIn K (.ref fx0) = true)
    (ax1 : PySem.W.nsIn K mainGlobals "is_all_of" = some (some (.ref fx1))) (Fx1 : ∃ fd, Fun K "is_all_of" "is_all_of" Zcv fx1 fd) (kx1 : PySem.W.keepIn K (.ref fx1) = true)
    (ax2 : PySem.W.nsIn K mainGlobals "angled" = some (some (.ref fx2))) (Fx2 : ∃ fd, Fun K "angled" "angled" Zf0 fx2 fd) (kx2 : PySem.W.keepIn K (.ref fx2) = true)
    (ax3 : PySem.W.nsIn K mainGlobals "is_text_of" = some (some (.ref fx3))) (Fx3 : ∃ fd, Fun K "is_text_of" "is_text_of" Zce fx3 fd) (kx3 : PySem.W.keepIn K (.ref fx3) = true)
    (ax4 : PySem.W.nsIn K mainGlobals "is_name" = some (some (.ref fx4))) (Fx4 : ∃ fd, Fun K "is_name" "is_name" Zeg fx4 fd) (kx4 : PySem.W.keepIn K (.ref fx4) = true)
    (ax5 : PySem.W.nsIn K mainGlobals "is_plain" = some (some (.ref fx5))) (Fx5 : ∃ fd, Fun K "is_plain" "is_plain" Zdk fx5 fd) (kx5 : PySem.W.keepIn K (.ref fx5) = true)
    (ax6 : PySem.W.nsIn K mainGlobals "is_mark" = some (some (.ref fx6))) (Fx6 : ∃ fd, Fun K "is_mark" "is_mark" Zeh fx6 fd) (kx6 : PySem.W.keepIn K (.ref fx6) = true)
    (ax7 : PySem.W.nsIn K mainGlobals "read_marks" = some (some (.ref fx7))) (Fx7 : ∃ fd, Fun K "read_marks" "read_marks" Zcf fx7 fd) (kx7 : PySem.W.keepIn K (.ref fx7) = true)
    (ax8 : PySem.W.nsIn K mainGlobals "read_row" = some (some (.ref fx8))) (Fx8 : ∃ fd, Fun K "read_row" "read_row" Zdl fx8 fd) (kx8 : PySem.W.keepIn K (.ref fx8) = true)
    (ax9 : PySem.W.nsIn K mainGlobals "read_list" = some (some (.ref fx9))) (Fx9 : ∃ fd, Fun K "read_list" "read_list" Zcw fx9 fd) (kx9 : PySem.W.keepIn K (.ref fx9) = true)
    (ax10 : PySem.W.nsIn K mainGlobals "_law_told" = some (some (.ref fx10))) (Fx10 : ∃ fd, Fun K "_law_told" "_law_told" Zdm fx10 fd) (kx10 : PySem.W.keepIn K (.ref fx10) = true)
    (ax11 : PySem.W.nsIn K mainGlobals "_law_mixed" = some (some (.ref fx11))) (Fx11 : ∃ fd, Fun K "_law_mixed" "_law_mixed" Zcx fx11 fd) (kx11 : PySem.W.keepIn K (.ref fx11) = true)
    (ax12 : PySem.W.nsIn K mainGlobals "_law_marks" = some (some (.ref fx12))) (Fx12 : ∃ fd, Fun K "_law_marks" "_law_marks" Zcy fx12 fd) (kx12 : PySem.W.keepIn K (.ref fx12) = true)
    (ax13 : PySem.W.nsIn K mainGlobals "_law_spoiled" = some (some (.ref fx13))) (Fx13 : ∃ fd, Fun K "_law_spoiled" "_law_spoiled" Zbv fx13 fd) (kx13 : PySem.W.keepIn K (.ref fx13) = true)
    (ax14 : PySem.W.nsIn K mainGlobals "_law_cell_at" = some (some (.ref fx14))) (Fx14 : ∃ fd, Fun K "_law_cell_at" "_law_cell_at" Zbw fx14 fd) (kx14 : PySem.W.keepIn K (.ref fx14) = true)
    (ax15 : PySem.W.nsIn K mainGlobals "_law_row" = some (some (.ref fx15))) (Fx15 : ∃ fd, Fun K "_law_row" "_law_row" Zei fx15 fd) (kx15 : PySem.W.keepIn K (.ref fx15) = true)
    (ax16 : PySem.W.nsIn K mainGlobals "law" = some (some (.ref fx16))) (lx16 : K.lookup fx16 = some ⟨ocx16, odx16, .func (PySem.W.fnOf "law" "law" (Zdg Zdy) (Zbo Zdy) (Zi Zdy) .none kVx16 dcx16 pmx16 anx16 cdx16 ctx16), slx16⟩) (cx16 : PySem.W.codeIn K cdx16 "law" = true) (kx16 : PySem.W.keepIn K (.ref fx16) = true)
    {odxi0 anxi0 : Option Addr} {slxi0 : Array (Option Value)} {ocxi0 kVxi0 dcxi0 pmxi0 cdxi0 ctxi0 : Value}
    (zValueError : PySem.W.nsIn K mainGlobals "ValueError" = some none)
    (zall : PySem.W.nsIn K mainGlobals "all" = some none)
    (zdict : PySem.W.nsIn K mainGlobals "dict" = some none)
    (zenumerate : PySem.W.nsIn K mainGlobals "enumerate" = some none)
    (zint : PySem.W.nsIn K mainGlobals "int" = some none)
    (zisinstance : PySem.W.nsIn K mainGlobals "isinstance" = some none)
    (zlen : PySem.W.nsIn K mainGlobals "len" = some none)
    (zrange : PySem.W.nsIn K mainGlobals "range" = some none)
    (zstr : PySem.W.nsIn K mainGlobals "str" = some none)
    (zx0 : PySem.W.nsIn K mainGlobals "NAME_LENGTH" = some (some (.int 8 tx0)))
    (zx1 : PySem.W.nsIn K mainGlobals "PLAIN_LENGTH" = some (some (.int 80 tx1)))
    (zx2 : PySem.W.nsIn K mainGlobals "PLAIN_SIGNS" = some (some (.str "ABCDEFGHIJKLMNOPQRSTUVWXYZabcdefghijklmnopqrstuvwxyz0123456789 .,!?'-/()&+*=" tx2)))
    (zx3 : PySem.W.nsIn K mainGlobals "SMALL_LETTERS" = some (some (.str "abcdefghijklmnopqrstuvwxyz" tx3)))
    (zx4 : PySem.W.nsIn K mainGlobals "STYLE_SIGNS" = some (some (.str "ABCDEFGHIJKLMNOPQRSTUVWXYZabcdefghijklmnopqrstuvwxyz0123456789 .,!?'-/()&+*=:;" tx4)))
    (zc_CiteError : PySem.W.nsIn K mainGlobals "CiteError" = some (some (.ref aCiteError)))
    (zc_NoList : PySem.W.nsIn K mainGlobals "NoList" = some (some (.ref aNoList)))
    (zc_NoName : PySem.W.nsIn K mainGlobals "NoName" = some (some (.ref aNoName)))
    (zc_NoPlain : PySem.W.nsIn K mainGlobals "NoPlain" = some (some (.ref aNoPlain)))
    (zc_NoText : PySem.W.nsIn K mainGlobals "NoText" = some (some (.ref aNoText)))
    (axi0 : PySem.W.findIn K (.ref aNoList) "__init__" = some (some (.ref fxi0))) (lxi0 : K.lookup fxi0 = some ⟨ocxi0, odxi0, .func (PySem.W.fnOf "__init__" "NoList.__init__" (Zdg Za7) (Zbo Za7) (Zi Za7) .none kVxi0 dcxi0 pmxi0 anxi0 cdxi0 ctxi0), slxi0⟩) (cxi0 : PySem.W.codeIn K cdxi0 "NoList.__init__" = true) (kxi0 : PySem.W.keepIn K (.ref fxi0) = true)
    (ty_NoList : PySem.W.typeIn K (.ref aNoList) = some (.type "type"))
    (ic_NoList : PySem.W.isClsIn K aNoList = true)
    (be_NoList : PySem.W.mroIn K aNoList (.type "BaseException") = some true)
    (h_NoList_NoList : PySem.W.mroIn K aNoList (.ref aNoList) = some true)
    (q0_NoList : PySem.W.kitOne K (.ref aNoList) (.ref aCiteError) = some true)
    (q1_NoList : PySem.W.kitOne K (.ref aNoList) (.type "ValueError") = some true)
    (q2_NoList : PySem.W.kitOne K (.ref aNoList) (.ref aNoText) = some false)
    (q3_NoList : PySem.W.kitOne K (.ref aNoList) (.ref aNoPlain) = some false)
    (q4_NoList : PySem.W.kitOne K (.ref aNoList) (.ref aNoName) = some false)
    (ecl_NoList : PySem.W.isClsIn K aNoList = true)
    (ega_NoList : PySem.W.findIn K (.ref aNoList) "__getattribute__" = some (some (.builtin "BaseException.__getattribute__")))
    (egt_NoList : PySem.W.findIn K (.ref aNoList) "__getattr__" = some none)
    (eca_NoList : PySem.W.findIn K (.ref aNoList) "__class__" = some (some (.builtin "object.__class__")))
    (egs_NoList : PySem.W.specialIn K (.builtin "object.__class__") "__get__" = some (some (.builtin "getset_descriptor.__get__")))
    (etk_NoList : PySem.W.takesIn K (.builtin "object.__class__") = some true)
    (eob_NoList : PySem.W.mroIn K aNoList (.type "object") = some true)
    (ebe_NoList : PySem.W.mroIn K aNoList (.type "BaseException") = some true)
    (if_NoList : PySem.W.isFn K (.ref fxi0) = true)
    (es1_NoList : PySem.W.findIn K (.ref aNoList) "__setattr__" = some (some (.builtin "object.__setattr__")))
    (es2_NoList : PySem.W.mroIn K aNoList (.type "object") = some true)
    (es3_NoList : PySem.W.findIn K (.ref aNoList) "row" = some none)
    (es4_NoList : ((PySem.W.clsIn K aNoList).any fun cd => Zk8 cd.mro && cd.hasDict) = true)
    (eg4_NoList : ((PySem.W.clsIn K aNoList).any fun cd => cd.hasDict) = true)
    (ow_NoList : Zoh K aNoList fxi0 = true)
    : ∃ fd : FuncData, (∀ (s : Shared) (v : Value), BindsTo s fd ⟨[v], []⟩ [("_law_script", v)]) ∧ ∀ base : Heap, K.In base → base.Ns mainGlobals mg → FnOk l.prog w K mg base CX0 9 fa fd ["_law_script"] (spOf K 1 Zhl) := by
  have e := hfa.symm.trans (PySem.W.mg_of X G ax16)
  cases e
  have T : Txt K mg tx0 tx1 tx2 tx3 tx4 fx0 fx1 fx2 fx3 fx4 fx5 fx6 fx7 fx8 fx9 fx10 fx11 fx12 fx13 fx14 fx15 _ aCiteError aNoList aNoName aNoPlain aNoText fxi0 := ⟨PySem.W.mg_of X G zc_CiteError, PySem.W.mg_of X G zc_NoList, PySem.W.mg_of X G zc_NoName, PySem.W.mg_of X G zc_NoPlain, PySem.W.mg_of X G zc_NoText, zc_NoList, ⟨ecl_NoList, ega_NoList, egt_NoList, eca_NoList, egs_NoList, etk_NoList, eob_NoList, ebe_NoList⟩, if_NoList, ⟨es1_NoList, es2_NoList, es3_NoList, es4_NoList⟩, ⟨⟨ecl_NoList, ega_NoList, egt_NoList, eca_NoList, egs_NoList, etk_NoList, eob_NoList, ebe_NoList⟩, es3_NoList, eg4_NoList⟩, ty_NoList, ic_NoList, be_NoList, h_NoList_NoList, q0_NoList, q1_NoList, q2_NoList, q3_NoList, q4_NoList, PySem.W.mg_none_of X G zValueError, PySem.W.mg_none_of X G zall, PySem.W.mg_none_of X G zdict, PySem.W.mg_none_of X G zenumerate, PySem.W.mg_none_of X G zint, PySem.W.mg_none_of X G zisinstance, PySem.W.mg_none_of X G zlen, PySem.W.mg_none_of X G zrange, PySem.W.mg_none_of X G zstr, PySem.W.mg_of X G zx0, PySem.W.mg_of X G zx1, PySem.W.mg_of X G zx2, PySem.W.mg_of X G zx3, PySem.W.mg_of X G zx4, PySem.W.mg_of X G ax0, kx0, PySem.W.mg_of X G ax1, kx1, PySem.W.mg_of X G ax2, kx2, PySem.W.mg_of X G ax3, kx3, PySem.W.mg_of X G ax4, kx4, PySem.W.mg_of X G ax5, kx5, PySem.W.mg_of X G ax6, kx6, PySem.W.mg_of X G ax7, kx7, PySem.W.mg_of X G ax8, kx8, PySem.W.mg_of X G ax9, kx9, PySem.W.mg_of X G ax10, kx10, PySem.W.mg_of X G ax11, kx11, PySem.W.mg_of X G ax12, kx12, PySem.W.mg_of X G ax13, kx13, PySem.W.mg_of X G ax14, kx14, PySem.W.mg_of X G ax15, kx15, PySem.W.mg_of X G ax16, kx16⟩
  obtain ⟨_, Fx0⟩ := Fx0
  obtain ⟨_, Fx1⟩ := Fx1
  obtain ⟨_, Fx2⟩ := Fx2
  obtain ⟨_, Fx3⟩ := Fx3
  obtain ⟨_, Fx4⟩ := Fx4
  obtain ⟨_, Fx5⟩ := Fx5
  obtain ⟨_, Fx6⟩ := Fx6
  obtain ⟨_, Fx7⟩ := Fx7
  obtain ⟨_, Fx8⟩ := Fx8
  obtain ⟨_, Fx9⟩ := Fx9
  obtain ⟨_, Fx10⟩ := Fx10
  obtain ⟨_, Fx11⟩ := Fx11
  obtain ⟨_, Fx12⟩ := Fx12
  obtain ⟨_, Fx13⟩ := Fx13
  obtain ⟨_, Fx14⟩ := Fx14
  obtain ⟨_, Fx15⟩ := Fx15
  have Fx16 := Za4 (st := Zdy) lx16 cx16 kx16
  have bx0 := Fx0.binds (ps := ["_law_number", "_law_many"]) fun _ _ _ _ _ _ us hl => of2 (fun _ _ => rfl) us hl
  have bx1 := Fx1.binds (ps := ["text", "signs"]) fun _ _ _ _ _ _ us hl => of2 (fun _ _ => rfl) us hl
  have bx2 := Fx2.binds (ps := ["text", "signs"]) fun _ _ _ _ _ _ us hl => of2 (fun _ _ => rfl) us hl
  have bx3 := Fx3.binds (ps := ["value", "signs", "most"]) fun _ _ _ _ _ _ us hl => of3 (fun _ _ _ => rfl) us hl
  have bx4 := Fx4.binds (ps := ["value"]) fun _ _ _ _ _ _ us hl => of1 (fun _ => rfl) us hl
  have bx5 := Fx5.binds (ps := ["value"]) fun _ _ _ _ _ _ us hl => of1 (fun _ => rfl) us hl
  have bx6 := Fx6.binds (ps := ["name", "text"]) fun _ _ _ _ _ _ us hl => of2 (fun _ _ => rfl) us hl
  have bx7 := Fx7.binds (ps := ["marks"]) fun _ _ _ _ _ _ us hl => of1 (fun _ => rfl) us hl
  have bx8 := Fx8.binds (ps := ["words"]) fun _ _ _ _ _ _ us hl => of1 (fun _ => rfl) us hl
  have bx9 := Fx9.binds (ps := ["text"]) fun _ _ _ _ _ _ us hl => of1 (fun _ => rfl) us hl
  have bx10 := Fx10.binds (ps := ["_law_text"]) fun _ _ _ _ _ _ us hl => of1 (fun _ => rfl) us hl
  have bx11 := Fx11.binds (ps := ["_law_cell", "_law_by"]) fun _ _ _ _ _ _ us hl => of2 (fun _ _ => rfl) us hl
  have bx12 := Fx12.binds (ps := ["_law_name", "_law_number"]) fun _ _ _ _ _ _ us hl => of2 (fun _ _ => rfl) us hl
  have bx13 := Fx13.binds (ps := ["_law_key", "_law_kind", "_law_above", "_law_name", "_law_number"]) fun _ _ _ _ _ _ us hl => of5 (fun _ _ _ _ _ => rfl) us hl
  have bx14 := Fx14.binds (ps := ["_law_script", "_law_k"]) fun _ _ _ _ _ _ us hl => of2 (fun _ _ => rfl) us hl
  have bx15 := Fx15.binds (ps := ["_law_key", "_law_kind", "_law_fields", "_law_number"]) fun _ _ _ _ _ _ us hl => of4 (fun _ _ _ _ => rfl) us hl
  have Fxi0 := Za4 (st := Za7) lxi0 cxi0 kxi0
  have bxi0 := Fxi0.binds (ps := ["self", "row"]) fun _ _ _ _ _ _ us hl => of2 (fun _ _ => rfl) us hl
  refine ⟨PySem.W.fnOf "law" "law" (Zdg Zdy) (Zbo Zdy) (Zi Zdy) .none kVx16 dcx16 pmx16 anx16 cdx16 ctx16, fun s v => .of_eq rfl, fun base kb nb => ?_⟩
  have Gxi0 := Zks (P := l.prog) (w := w) (base := base) T Fxi0
  have Gx0 := Zi9 (P := l.prog) (w := w) (base := base) T Fx0
  have Gx1 := Zja (P := l.prog) (w := w) (base := base) T Fx1
  have Gx2 := Zqe (P := l.prog) (w := w) (base := base) T Fx2 Gx1 bx1
  have Gx3 := Zhn (P := l.prog) (w := w) (base := base) T Fx3 Gx1 bx1
  have Gx4 := Znc (P := l.prog) (w := w) (base := base) T Fx4 Gx3 bx3
  have Gx5 := Zkt (P := l.prog) (w := w) (base := base) T Fx5 Gx3 bx3
  have Gx6 := Znd (P := l.prog) (w := w) (base := base) T Fx6 Gx4 bx4 Gx5 bx5
  have Gx7 := Zho (P := l.prog) (w := w) (base := base) T Fx7 Gx6 bx6
  have Gx8 := Zku (P := l.prog) (w := w) (base := base) T Fx8 Gx2 bx2 Gx4 bx4 Gx7 bx7
  have Gx9 := Zjb (P := l.prog) (w := w) (base := base) T Fx9 (Zvc kb ow_NoList) Gxi0 bxi0 Gx8 bx8
  have Gx10 := Zkv (P := l.prog) (w := w) (base := base) T Fx10 Gx9 bx9
  have Gx11 := Zjc (P := l.prog) (w := w) (base := base) T Fx11
  have Gx12 := Zjd (P := l.prog) (w := w) (base := base) T Fx12
  have Gx13 := Zgf (P := l.prog) (w := w) (base := base) T Fx13 Gx12 bx12
  have Gx14 := Zgg (P := l.prog) (w := w) (base := base) T Fx14
  have Gx15 := Zne (P := l.prog) (w := w) (base := base) T Fx15
  exact Z0i T Fx16 Gx0 bx0 Gx10 bx10 Gx11 bx11 Gx13 bx13 Gx14 bx14 Gx15 bx15
theorem Z0k{K:PySem.W.Frag}{H:Hp}{a:Addr}{ns:List Int}(hn:Zhl [.lst (ns.map D.int)]=some (.fz (.bl true)))(hO:Only H)(hS:SqL K H a (ns.map V.int)):spOf K 1 Zhl [.ref a] H (fun v _=>v= .bl true) fun _ _ _=>False:=by
 refine⟨H,[.lst (ns.map D.int)],.fz (.bl true),Same.refl H,.cons (.lst hS (Zlg ns)) .nil,rfl,hn,fun v H' F' ms _ _ _ _ sh _ _=>?_⟩
 cases Zb9 sh
 rfl
theorem walk{l:PySem.W.OpenLaw}{q:Program}{loose:List Str}{XP:(Str→Option Value)→Heap→Prop}{YP:World→Heap→Prop}{d:DefRec}{K:Params→PySem.W.Frag}(hn:l.most=some 63)(hdf:d.params.defaults=[])
  (hY:∀(w:World) (h:Heap),YP w h→(K w.params).In h)
  (F:∀(w:World) (mg:Str→Option Value) (fa:Addr) (h:Heap),(K w.params).In h→h.Ns mainGlobals mg→mg d.name=some (.ref fa)→
   ∃fd:FuncData,(∀(s:Shared) (u:Value),BindsTo s fd ⟨[u],[]⟩ [("_law_script",u)])∧∀base:Heap,(K w.params).In base→base.Ns mainGlobals mg→FnOk l.prog w (K w.params) mg base CX0 9 fa fd ["_law_script"] (spOf (K w.params) 1 Zhl))
  (hlaw:∀ns:List Int,ns.length≤63→Zhl [.lst (ns.map D.int)]=some (.fz (.bl true))):
  PySem.W.WalkO q loose XP YP l.row.toRowW d [] (fun f vs=>PySem.call f vs):=
 L2.Zre (n:=63) (k:=9) (x:="_law_script") (CX:=CX0) (sp:=fun K=>spOf K 1 Zhl) hn (by decide) hdf ⟨rfl,by decide,by decide⟩ hY F (fun _ _ _ ns hl hO hS=>Z0k (hlaw ns hl) hO hS) fun _ _ _ _ z=>z
end Gen
namespace My
open DL PySem
noncomputable abbrev LT22:Str:="abcdefghjlmpqrstuvwxyz"
theorem Zs4:LT22.cps.toList.length=22:=by decide+kernel
theorem Zje:LT22.length≤PySem.sizeLine:=by decide+kernel
noncomputable def LC(j:Nat):Nat:=LT22.cps.toList.getD j 0
theorem Z0l:∀i<22,∀j<22,LC i=LC j→i=j:=by decide+kernel
theorem Z34:∀i<22,97≤LC i∧LC i≤122∧LC i≠105∧LC i≠107∧LC i≠110∧LC i≠111:=by decide+kernel
theorem Z35(i:Int):L2.atI LT22.cps.toList (i % 22)=some (LC (i % 22).toNat):=by
 have h0:0≤i % 22:=Int.emod_nonneg _ (by decide)
 have h1:i % 22<22:=Int.emod_lt_of_pos _ (by decide)
 obtain⟨j,hj⟩:=Int.eq_ofNat_of_zero_le h0
 rw[hj]
 have hjl:j<LT22.cps.toList.length:=by rw[Zs4];omega
 refine Zfw _ _ _ ?_
 unfold LC
 rw[List.getD_eq_getElem?_getD,show((j:Int)).toNat=j by omega,List.getElem?_eq_getElem hjl]
 rfl
noncomputable def sgn(x:Int)(at':Int)(t:Nat)(k:Nat):Nat:=LC ((x / ((k:Int)+2)+(t:Int)*(if(k:Int)=at' then 1 else 0)) % 22).toNat
noncomputable def nmL(x at':Int)(size t:Nat):List Nat:=(List.range size).map (sgn x at' t)
theorem Zqf(a1 a3 a5:Option SV)(x at':Int)(t k:Nat)(hk:k≤100)(w:List Nat)(hw:w.length≤1000)(x9:Option SV):
  ∃y9,Gen.Zaj [some (.fz (.int x)),a1,some (.fz (.str LT22)),a3,some (.fz (.int at')),a5,some (.fz (.int (t:Int))),some (.fz (.str (S w))),some (.fz (.int (k:Int))),x9]=some (.nx [some (.fz (.int x)),a1,some (.fz (.str LT22)),a3,some (.fz (.int at')),a5,some (.fz (.int (t:Int))),some (.fz (.str (S (w++[sgn x at' t k])))),some (.fz (.int (k:Int))),y9]):=by
 have go:∀ki ti:Int,0≤ki→ki≤100→∀b:Int,(b=0∨b=1)→(if ki=at' then(1:Int)else 0)=b→∀ch,L2.atI LT22.cps.toList ((x / (ki+2)+ti*b) % 22)=some ch→
   Gen.Zaj [some (.fz (.int x)),a1,some (.fz (.str LT22)),a3,some (.fz (.int at')),a5,some (.fz (.int ti)),some (.fz (.str (S w))),some (.fz (.int ki)),x9]=some (.nx [some (.fz (.int x)),a1,some (.fz (.str LT22)),a3,some (.fz (.int at')),a5,some (.fz (.int ti)),some (.fz (.str (S (w++[ch])))),some (.fz (.int ki)),some (.fz (.int (ti*b)))]):=by
  intro ki ti h0 h1 b hb hif ch hch
  have hm:=Ztz (i:=ti) (j:=b) (by omega)
  have d1:0<ki+2:=by omega
  have d2:ki+2<1073741824:=by omega
  have z:(S w).length+(⟨#[ch]⟩:Str).length≤PySem.sizeLine:=Zq (by rw[Zai w];show w.length+1≤_;omega)
  have ea:S w++(⟨#[ch]⟩:Str)=S (w++[ch]):=Zac w [ch]
  by_cases hk:ki=at'
  ·rw[if_pos hk]at hif
   subst hif
   unfold Gen.Zaj
   simp[hk]at hm hch d1 d2⊢
   simp[hm,hch,d1,d2,Zje,z,ea]
  ·rw[if_neg hk]at hif
   subst hif
   unfold Gen.Zaj
   simp[hk]at hm hch⊢
   simp[hm,hch,d1,d2,Zje,z,ea]
 refine⟨_,go (k:Int) (t:Int) (by omega) (by omega) (if(k:Int)=at' then 1 else 0) (by split<;> simp) rfl (sgn x at' t k) (Z35 _)⟩
theorem Zqg(a1 a3 a5:Option SV)(x at':Int)(t size:Nat)(hs:size≤100)(x8 x9:Option SV):
  ∃y8 y9,forD (Zn 8) Gen.Zaj (nats 0 size) [some (.fz (.int x)),a1,some (.fz (.str LT22)),a3,some (.fz (.int at')),a5,some (.fz (.int (t:Int))),some (.fz (.str (S []))),x8,x9]=some (.nx [some (.fz (.int x)),a1,some (.fz (.str LT22)),a3,some (.fz (.int at')),a5,some (.fz (.int (t:Int))),some (.fz (.str (S (nmL x at' size t)))),y8,y9]):=by
 obtain⟨δ',e,y8,y9,hy⟩:=Zfy (tg:=Zn 8) (body:=Gen.Zaj) (P:=fun i δ=>∃y8 y9,δ=[some (.fz (.int x)),a1,some (.fz (.str LT22)),a3,some (.fz (.int at')),a5,some (.fz (.int (t:Int))),some (.fz (.str (S (nmL x at' i t)))),y8,y9]) size 0 [some (.fz (.int x)),a1,some (.fz (.str LT22)),a3,some (.fz (.int at')),a5,some (.fz (.int (t:Int))),some (.fz (.str (S []))),x8,x9] ⟨x8,x9,rfl⟩ (fun i _ hi δ ⟨y8,y9,hy⟩=>by
  subst hy
  obtain⟨z9,e⟩:=Zqf a1 a3 a5 x at' t i (by omega) (nmL x at' i t) (by unfold nmL;simp;omega) y9
  refine⟨[some (.fz (.int x)),a1,some (.fz (.str LT22)),a3,some (.fz (.int at')),a5,some (.fz (.int (t:Int))),some (.fz (.str (S (nmL x at' i t)))),some (.fz (.int (i:Int))),y9],_,by simp,e,some (.fz (.int (i:Int))),z9,?_⟩
  have:nmL x at' (i+1) t=nmL x at' i t++[sgn x at' t i]:=by unfold nmL;rw[List.range_succ,List.map_append];rfl
  rw[this])
 subst hy
 rw[Nat.zero_add]at e
 exact⟨y8,y9,e⟩
noncomputable def Zbt(x at':Int)(size m:Nat):List Str:=(List.range m).map fun t=>S (nmL x at' size t)
theorem Znf(a1:Option SV)(x at':Int)(size:Nat)(hs:size≤8)(m:Nat)(hm:m≤100):
  ∃δ,forD (Zn 6) Gen.Zbk (nats 0 m) [some (.fz (.int x)),a1,some (.fz (.str LT22)),some (.fz (.int (size:Int))),some (.fz (.int at')),some (.ol []),none,none,none,none]=some (.nx δ)∧δ[5]? =some (some (.ol ((Zbt x at' size m).map D.str))):=by
 obtain⟨δ',e,y6,y7,y8,y9,hy⟩:=Zfy (tg:=Zn 6) (body:=Gen.Zbk) (P:=fun i δ=>∃y6 y7 y8 y9,δ=[some (.fz (.int x)),a1,some (.fz (.str LT22)),some (.fz (.int (size:Int))),some (.fz (.int at')),some (.ol ((Zbt x at' size i).map D.str)),y6,y7,y8,y9]) m 0 [some (.fz (.int x)),a1,some (.fz (.str LT22)),some (.fz (.int (size:Int))),some (.fz (.int at')),some (.ol []),none,none,none,none] ⟨none,none,none,none,rfl⟩ (fun i _ hi δ ⟨y6,y7,y8,y9,hy⟩=>by
  subst hy
  obtain⟨z8,z9,e⟩:=Zqg a1 (some (.fz (.int (size:Int)))) (some (.ol ((Zbt x at' size i).map D.str))) x at' i size (by omega) y8 y9
  have g1:rngP (size:Int):=Zg1 (by omega)
  have et:((size:Int)).toNat=size:=by omega
  have z:(Zbt x at' size i).length<PySem.sizeLine:=Zft (by unfold Zbt;simp;omega)
  have he:Str.ofString ""=S []:=rfl
  have hr:Zbt x at' size (i+1)=Zbt x at' size i++[S (nmL x at' size i)]:=by unfold Zbt;rw[List.range_succ,List.map_append];rfl
  refine⟨[some (.fz (.int x)),a1,some (.fz (.str LT22)),some (.fz (.int (size:Int))),some (.fz (.int at')),some (.ol ((Zbt x at' size i).map D.str)),some (.fz (.int (i:Int))),y7,y8,y9],[some (.fz (.int x)),a1,some (.fz (.str LT22)),some (.fz (.int (size:Int))),some (.fz (.int at')),some (.ol ((Zbt x at' size (i+1)).map D.str)),some (.fz (.int (i:Int))),some (.fz (.str (S (nmL x at' size i)))),z8,z9],by simp,?_,_,_,_,_,rfl⟩
  rw[hr]
  generalize Zbt x at' size i=NL at*
  unfold Gen.Zbk
  simp[-forD,he,g1,et,Zfx,e,z])
 subst hy
 rw[Nat.zero_add]at e
 exact⟨_,e,rfl⟩
structure Nm(w:List Nat):Prop where
 one:1≤w.length
 most:w.length≤8
 is:∀c∈w,97≤c∧c≤122∧c≠105∧c≠107∧c≠110∧c≠111
theorem Zhp(x:Int)(h0:0≤x)(m:Nat)(hm:m≤20):∃ws:List (List Nat),Gen.Zaf [.int x,.int (m:Int)]=some (.ol (ws.map fun w=>D.str (S w)))∧ws.length=m∧ws.Nodup∧∀w∈ws,Nm w:=by
 have s0:0≤x % 8:=Int.emod_nonneg _ (by decide)
 have s1:x % 8<8:=Int.emod_lt_of_pos _ (by decide)
 obtain⟨size,hs⟩:∃n:Nat,(n:Int)=1+x % 8:=⟨(1+x % 8).toNat,by omega⟩
 have hs1:1≤size:=by omega
 have hs8:size≤8:=by omega
 have p0:(0:Int)<(size:Int):=by omega
 have a0:0≤x / 8 % (size:Int):=Int.emod_nonneg _ (by omega)
 have a1:x / 8 % (size:Int)<(size:Int):=Int.emod_lt_of_pos _ p0
 generalize hat:x / 8 % (size:Int)=at' at a0 a1
 obtain⟨δ,e,hδ⟩:=Znf (some (.fz (.int (m:Int)))) x at' size hs8 m (by omega)
 have g1:rngP (m:Int):=Zg1 (by omega)
 have et:((m:Int)).toNat=m:=by omega
 have en:(Zbt x at' size m).map D.str=((List.range m).map (nmL x at' size)).map fun w=>D.str (S w):=by
  unfold Zbt;rw[List.map_map,List.map_map];rfl
 refine⟨(List.range m).map (nmL x at' size),?_,by simp,?_,fun w hw=>?_⟩
 ·rw[←en]
  generalize Zbt x at' size m=NL at hδ
  unfold Gen.Zaf Gen.Zdn
  have hs0:0<size:=by omega
  simp[-forD,←hs,p0,hs0,hat,g1,et,Zfx,e,hδ]
 ·refine List.Pairwise.map _ (R:=fun a b=>a≠b∧a<m∧b<m) (fun a b h=>?_) ?_
  ·intro z
   obtain⟨hne,ha,hb⟩:=h
   have hl:=z
   obtain⟨k,hk⟩:=Int.eq_ofNat_of_zero_le a0
   have hks:k<size:=by omega
   have e1:(nmL x at' size a)[k]? =some (sgn x at' a k):=by unfold nmL;rw[List.getElem?_map,List.getElem?_range hks];rfl
   have e2:(nmL x at' size b)[k]? =some (sgn x at' b k):=by unfold nmL;rw[List.getElem?_map,List.getElem?_range hks];rfl
   rw[hl,e2]at e1
   have e3:=Option.some.inj e1
   unfold sgn at e3
   rw[if_pos hk.symm]at e3
   have q:=fun y:Int=>(Int.emod_nonneg y (show(22:Int)≠0 by decide))
   have q':=fun y:Int=>(Int.emod_lt_of_pos y (show(0:Int)<22 by decide))
   have r1:=q (x / ((k:Int)+2)+(a:Int)*1)
   have r2:=q' (x / ((k:Int)+2)+(a:Int)*1)
   have r3:=q (x / ((k:Int)+2)+(b:Int)*1)
   have r4:=q' (x / ((k:Int)+2)+(b:Int)*1)
   have e4:=Z0l _ (by omega) _ (by omega) e3
   generalize x / ((k:Int)+2)=y at*
   omega
  ·have nd:(List.range m).Pairwise (fun a b=>a<b):=List.pairwise_lt_range
   refine(List.Pairwise.and_mem.mp nd).imp fun{a b} h=>?_
   exact⟨Nat.ne_of_lt h.2.2,List.mem_range.mp h.1,List.mem_range.mp h.2.1⟩
 ·obtain⟨t,_,rfl⟩:=List.mem_map.mp hw
  have hl:(nmL x at' size t).length=size:=by unfold nmL;simp
  refine⟨by rw[hl];exact hs1,by rw[hl];exact hs8,fun c hc=>?_⟩
  unfold nmL at hc
  obtain⟨k,_,rfl⟩:=List.mem_map.mp hc
  have r1:=Int.emod_nonneg (x / ((k:Int)+2)+(t:Int)*(if(k:Int)=at' then 1 else 0)) (show(22:Int)≠0 by decide)
  have r2:=Int.emod_lt_of_pos (x / ((k:Int)+2)+(t:Int)*(if(k:Int)=at' then 1 else 0)) (show(0:Int)<22 by decide)
  exact Z34 _ (by omega)
theorem Zd0(c:Int)(b:Int)(hb:-(2^64)<b∧b<2^64):Gen.Zak [.int c,.int b]=some (.fz (.int (c % 2147483647*b % 2147483647))):=by
 have hm:=Ztz (i:=c % 2147483647) (j:=b) hb
 unfold Gen.Zak Gen.Zdp
 simp[hm]
theorem Ze3(c b:Int):0≤c % 2147483647*b % 2147483647:=Int.emod_nonneg _ (by decide)
end My
namespace My
open DL PySem
noncomputable abbrev PLS : Str := "ABCDEFGHIJKLMNOPQRSTUVWXYZabcdefghijklmnopqrstuvwxyz0123456789 .,!?'-/()&+*="
noncomputable abbrev STS : Str := "ABCDEFGHIJKLMNOPQRSTUVWXYZabcdefghijklmnopqrstuvwxyz0123456789 .,!?'-/()&+*=:;"
noncomputable abbrev ABC:Str:="abcdefghijklmnopqrstuvwxyz"
noncomputable def abc(c:Nat):Bool:=Nat.ble 97 c&&Nat.ble c 122
noncomputable def pls(c:Nat):Bool:=(Nat.ble 65 c&&Nat.ble c 90)||abc c|| (Nat.ble 39 c&&Nat.ble c 57)|| [32,33,38,61,63].contains c
noncomputable def sts(c:Nat):Bool:=pls c|| [58,59].contains c
theorem Z0m:∀c<128,inS ⟨#[c]⟩ ABC=abc c:=by decide+kernel
theorem Z0n:∀c<128,inS ⟨#[c]⟩ PLS=pls c:=by decide+kernel
theorem Z0o:∀c<128,inS ⟨#[c]⟩ STS=sts c:=by decide+kernel
noncomputable def Asc(l:List Nat):Prop:=∀c∈l,c<128
theorem Zjf(f:Nat→Bool):∀l:List Nat,bools? (l.map fun c=>D.bl (f c))=some (l.map f)
 | []=>rfl
 |x::r=>by simp[Zjf f r]
noncomputable def sgf(sg:Str)(d:D):D:=match d with
 | .str x=>.bl (inS x sg)
 |d=>d
theorem Z0p(sg:Str)(f:Nat→Bool)(l:List Nat)(hin:∀c<128,inS ⟨#[c]⟩ sg=f c)(ha:Asc l)(hl:l.length≤2000000):Gen.Za1 [.str (S l),.str sg]=some (.fz (.bl (l.all f))):=by
 have c:=Zly (te:=Gen.Zcg) (f:=sgf sg) (c:=some (.fz (.str sg))) (j:=1) (signs (S l)) [] (fun x hx zs=>by
  unfold signs at hx
  obtain⟨k,hk,rfl⟩:=List.mem_map.mp hx
  unfold Gen.Zcg sgf
  simp[-inS]) (by unfold signs;rw[List.length_map,Z3,Zai];simp;omega)
 rw[List.nil_append]at c
 have e:(signs (S l)).map (sgf sg)=l.map fun c=>D.bl (f c):=by
  unfold signs
  rw[List.map_map,Zbh]
  refine List.map_congr_left fun k hk=>?_
  show D.bl (inS ⟨#[k]⟩ sg)=_
  rw[hin k (ha k hk)]
 rw[e]at c
 have s:=Zjf f l
 have sa:(l.map f).all id=l.all f:=by simp
 unfold Gen.Za1 Gen.Zdo
 simp[c,s]
noncomputable abbrev NT:Exn:=⟨"NoText",[],[]⟩
noncomputable def rn(r:List Nat):List D:=if r=[]then[]else[.str (S r)]
theorem Z0q:S []=Str.empty:=rfl
theorem Zt7(sg:Str)(f:Nat→Bool)(l:List Nat)(m:Nat)(hin:∀c<128,inS ⟨#[c]⟩ sg=f c)(ha:Asc l)(hl:l.length≤100000):Gen.Zar [.str (S l),.str sg,.int (m:Int)]=some (.fz (.bl (decide (1≤l.length∧l.length≤m)&&l.all f))):=by
 have a:=Z0p sg f l hin ha (by omega)
 have z:(S l).length≤PySem.sizeLine:=Zq (by rw[Zai];omega)
 rw[Zai]at z
 generalize l.all f=b at*
 unfold Gen.Zar Gen.Zcz
 by_cases h1:1≤l.length
 ·by_cases h2:l.length≤m
  ·have a1:(1:Int)≤(l.length:Int):=by omega
   have a2:(l.length:Int)≤(m:Int):=by omega
   simp[Zai,z,a1,a2,h1,h2,a]
  ·have a1:(1:Int)≤(l.length:Int):=by omega
   have a2:¬(l.length:Int)≤(m:Int):=by omega
   simp[Zai,z,a1,a2,h1,h2,a]
 ·have a1:¬(1:Int)≤(l.length:Int):=by omega
  simp[Zai,z,a1,h1,a]
noncomputable def Zbm(l:List Nat):Bool:=decide (1≤l.length∧l.length≤8)&&l.all abc
noncomputable def Zd1(l:List Nat):Bool:=decide (1≤l.length∧l.length≤80)&&l.all pls
theorem Zjg(l:List Nat)(ha:Asc l)(hl:l.length≤100000):Gen.Zbd [.str (S l)]=some (.fz (.bl (Zbm l))):=by
 have a:=Zt7 ABC abc l 8 Z0m ha hl
 have i8:((8:Nat):Int)=8:=rfl
 rw[i8]at a
 unfold Gen.Zbd Gen.Zf1 Zbm
 generalize (decide (1≤l.length∧l.length≤8)&&l.all abc)=b at*
 simp[a]
theorem Zwx(l:List Nat)(ha:Asc l)(hl:l.length≤100000):Gen.Zb3 [.str (S l)]=some (.fz (.bl (Zd1 l))):=by
 have a:=Zt7 PLS pls l 80 Z0n ha hl
 have i8:((80:Nat):Int)=80:=rfl
 rw[i8]at a
 unfold Gen.Zb3 Gen.Zej Zd1
 generalize (decide (1≤l.length∧l.length≤80)&&l.all pls)=b at*
 simp[a]
noncomputable def cutC(c:Nat):List Nat→List Nat×Option (List Nat)
 | []=>([],none)
 |x::r=>if x=c then([],some r)else let p:=cutC c r;(x::p.1,p.2)
theorem Zhq(c:Nat):∀l:List Nat,c∉(cutC c l).1
 | []=>by simp[cutC]
 |x::r=>by
  unfold cutC
  by_cases h:x=c
  ·rw[if_pos h];simp
  ·rw[if_neg h]
   have:=Zhq c r
   show c∉x::(cutC c r).1
   rw[List.mem_cons,not_or]
   exact⟨fun e=>h e.symm,this⟩
theorem Zhr(c:Nat):∀l:List Nat,l=(cutC c l).1++(match(cutC c l).2 with|none=>[]|some r=>c::r)
 | []=>rfl
 |x::r=>by
  have ih:=Zhr c r
  unfold cutC
  by_cases h:x=c
  ·rw[if_pos h,h];rfl
  ·rw[if_neg h]
   show x::r=x::((cutC c r).1++(match(cutC c r).2 with|none=>[]|some r=>c::r))
   rw[←ih]
theorem Zl5(c:Nat)(l:List Nat):Txt.partition (S l) (S [c])=(S (cutC c l).1,(match(cutC c l).2 with|none=>S []|some _=>S [c]),(match(cutC c l).2 with|none=>S []|some r=>S r)):=by
 have h1:=Zhq c l
 have h2:=Zhr c l
 generalize cutC c l=p at*
 obtain⟨a,o⟩:=p
 cases o with
 |none=>
  rw[List.append_nil]at h2
  subst h2
  exact Zsy (Zko c) (S l) (by rw[Zbh];exact h1)
 |some r=>
  subst h2
  have:=Zm7 c (S a) (S r) (by rw[Zbh];exact h1)
  rw[Zac,Zac]at this
  rw[←this]
  simp
theorem Asc.app{a b:List Nat}(h:Asc (a++b)):Asc a∧Asc b:=⟨fun c hc=>h c (List.mem_append_left _ hc),fun c hc=>h c (List.mem_append_right _ hc)⟩
theorem Zkw{c:Nat}{l:List Nat}(h:Asc l):Asc (cutC c l).1∧(cutC c l).1.length≤l.length∧∀r,(cutC c l).2=some r→Asc r∧r.length≤l.length:=by
 have h2:=Zhr c l
 generalize cutC c l=p at*
 obtain⟨a,o⟩:=p
 cases o with
 |none=>
  rw[List.append_nil]at h2
  subst h2
  exact⟨h,Nat.le_refl _,fun r z=>nomatch z⟩
 |some r=>
  subst h2
  obtain⟨x,y⟩:=h.app
  refine⟨x,by simp,fun r' z=>?_⟩
  cases z
  exact⟨fun c hc=>y c (List.mem_cons_of_mem _ hc),by simp;omega⟩
end My
namespace My
open DL PySem
noncomputable def sp:List Nat→List Nat×List (List Nat)
 | []=>([],[])
 |c::t=>if c=60 then([],(sp t).1::(sp t).2)else(c::(sp t).1,(sp t).2)
theorem Z0r:∀t:List Nat,t=(sp t).1++(sp t).2.flatMap fun x=>60::x
 | []=>rfl
 |c::t=>by
  have ih:=Z0r t
  unfold sp
  by_cases h:c=60
  ·rw[if_pos h,h]
   show 60::t=[]++((sp t).1::(sp t).2).flatMap fun x=>60::x
   rw[List.flatMap_cons,List.nil_append,List.cons_append,←ih]
  ·rw[if_neg h]
   show c::t=c::(sp t).1++_
   rw[List.cons_append,←ih]
theorem Zt8:∀t:List Nat,60∉(sp t).1∧∀x∈(sp t).2,60∉x
 | []=>by simp[sp]
 |c::t=>by
  obtain⟨h1,h2⟩:=Zt8 t
  unfold sp
  by_cases h:c=60
  ·rw[if_pos h]
   refine⟨by simp,fun x hx=>?_⟩
   rcases List.mem_cons.mp hx with e|e
   ·rw[e];exact h1
   ·exact h2 x e
  ·rw[if_neg h]
   refine⟨?_,h2⟩
   show 60∉c::(sp t).1
   rw[List.mem_cons,not_or]
   exact⟨fun e=>h e.symm,h1⟩
theorem Zqh:∀t:List Nat,(sp t).1.length≤t.length∧(sp t).2.length≤t.length∧∀x∈(sp t).2,x.length≤t.length
 | []=>by simp[sp]
 |c::t=>by
  obtain⟨h1,h2,h3⟩:=Zqh t
  unfold sp
  by_cases h:c=60
  ·rw[if_pos h]
   refine⟨by simp,by simp;omega,fun x hx=>?_⟩
   rcases List.mem_cons.mp hx with e|e
   ·rw[e];simp;omega
   ·have:=h3 x e;simp;omega
  ·rw[if_neg h]
   exact⟨by simp;omega,by simp;omega,fun x hx=>by have:=h3 x hx;simp;omega⟩
theorem Zqi:∀{t:List Nat},Asc t→Asc (sp t).1∧∀x∈(sp t).2,Asc x
 | [],_=>by simp[sp,Asc]
 |c::t,ha=>by
  obtain⟨h1,h2⟩:=Zqi (t:=t) fun k hk=>ha k (List.mem_cons_of_mem _ hk)
  unfold sp
  by_cases h:c=60
  ·rw[if_pos h]
   refine⟨by simp[Asc],fun x hx=>?_⟩
   rcases List.mem_cons.mp hx with e|e
   ·rw[e];exact h1
   ·exact h2 x e
  ·rw[if_neg h]
   refine⟨fun k hk=>?_,h2⟩
   rcases List.mem_cons.mp hk with e|e
   ·rw[e];exact ha c List.mem_cons_self
   ·exact h1 k e
noncomputable abbrev LTS:Str:="<"
theorem Z0s:LTS=S [60]:=by decide+kernel
theorem Z0t:∀r:List (List Nat),cat (r.map fun x=>S [60]++S x)=S (r.flatMap fun x=>60::x)
 | []=>rfl
 |x::r=>by
  show(S [60]++S x)++cat _=_
  rw[Z0t r,Zac,Zac,List.flatMap_cons]
  simp
theorem Zs5(t:List Nat):Txt.split (S t) LTS=S (sp t).1::(sp t).2.map S:=by
 obtain⟨h1,h2⟩:=Zt8 t
 have e:S t=Str.join (S [60]) (S (sp t).1::(sp t).2.map S):=by
  rw[Zi5,List.map_map]
  show S t=S (sp t).1++cat ((sp t).2.map fun x=>S [60]++S x)
  rw[Z0t,Zac]
  exact congrArg S (Z0r t)
 have:=Zm5 (Zko 60) (by rw[←Z0s];decide+kernel) (S (sp t).1::(sp t).2.map S) (by simp) (fun p hp=>by
  rcases List.mem_cons.mp hp with e|hp
  ·rw[e,Zbh];exact h1
  ·obtain⟨y,hy,rfl⟩:=List.mem_map.mp hp
   rw[Zbh];exact h2 y hy)
 rw[←e]at this
 rw[Z0s];exact this
noncomputable def hdS(l:List Nat):List Nat:=(cutC 62 l).1
noncomputable def tlS(l:List Nat):List Nat:=(cutC 62 l).2.getD []
noncomputable def gtB(l:List Nat):Bool:=(cutC 62 l).2.isSome
theorem Zwy{l:List Nat}(ha:Asc l):Asc (tlS l)∧(tlS l).length≤l.length:=by
 obtain⟨_,_,a3⟩:=Zkw (c:=62) ha
 unfold tlS
 cases ho:(cutC 62 l).2 with
 |none=>exact⟨(fun c hc=>nomatch hc),Nat.zero_le _⟩
 |some r=>exact a3 r ho
theorem Zl6(a0 a1 a2:Option SV)(cs:List D)(l:List Nat)(x5:Option SV)(hl:l.length≤1000)(hp:cs.length≤100000):
  (gtB l=true→∃y5,Gen.Zbn [a0,a1,a2,some (.ol cs),some (.fz (.str (S l))),x5]=some (.nx [a0,a1,a2,some (.ol (cs++[.str (S (hdS l)),.str (S (tlS l))])),some (.fz (.str (S l))),y5]))∧
  (gtB l=false→Gen.Zbn [a0,a1,a2,some (.ol cs),some (.fz (.str (S l))),x5]=some (.rt (.fz .non))):=by
 have hbs:Str.ofString ">"=S [62]:=by decide+kernel
 have z:(S l).length≤PySem.sizeLine:=Zq (by rw[Zai];omega)
 rw[Zai]at z
 have hl0:¬(S [62]).length=0:=by decide+kernel
 have he:Str.ofString ""=Str.empty:=rfl
 have hne:¬S [62]=Str.empty:=by decide+kernel
 have z0:2≤PySem.sizeLine:=Zq (by decide)
 have z2:cs.length+2≤PySem.sizeLine:=Zq (by omega)
 have pc:=Zl5 62 l
 unfold gtB tlS hdS Gen.Zbn
 cases ho:(cutC 62 l).2 with
 |none=>
  rw[ho]at pc
  dsimp only at pc⊢
  generalize (cutC 62 l).1=a at*
  refine⟨(fun h=>absurd h (by decide)),fun _=>?_⟩
  simp[Z0q,L2.atI,L2.ixN,Zai,z,hl0,hbs,pc,he]
 |some r=>
  rw[ho]at pc
  dsimp only at pc⊢
  generalize (cutC 62 l).1=a at*
  refine⟨(fun _=>?_),fun h=>absurd h (by simp)⟩
  simp[Z0q,L2.atI,L2.ixN,Zai,z,hl0,hbs,pc,he,hne,z0,z2]
theorem Zwz{tg:FG}{body:FS}{d:D}{ds:List D}{δ δ1 δ2:DSt}{x:Exn}(h1:tg.run d δ=some δ1)(h2:body δ1=some (.ex x δ2)):forD tg body (d::ds) δ=some (.ex x δ2):=by
 simp[h1,h2]
noncomputable abbrev two(l:List Nat):List D:=[.str (S (hdS l)),.str (S (tlS l))]
theorem Zl7(a0 a1 a2:Option SV):∀(xs:List (List Nat)) (cs:List D) (x4 x5:Option SV),(∀x∈xs,x.length≤1000∧gtB x=true)→cs.length+2*xs.length≤100000→
  ∃y4 y5,forD (Zn 4) Gen.Zbn (xs.map fun x=>D.str (S x)) [a0,a1,a2,some (.ol cs),x4,x5]=some (.nx [a0,a1,a2,some (.ol (cs++xs.flatMap two)),y4,y5])
 | [],cs,x4,x5,_,_=>⟨x4,x5,by simp⟩
 |x::xs,cs,x4,x5,h,hl=>by
  rw[List.length_cons]at hl
  obtain⟨h2,h3⟩:=h x List.mem_cons_self
  obtain⟨y5,hb⟩:=(Zl6 a0 a1 a2 cs x x5 h2 (by omega)).1 h3
  obtain⟨y4,y5',e⟩:=Zl7 a0 a1 a2 xs (cs++two x) (some (.fz (.str (S x)))) y5 (fun y hy=>h y (List.mem_cons_of_mem _ hy)) (by rw[List.length_append];simp;omega)
  refine⟨y4,y5',?_⟩
  rw[List.map_cons]
  refine(Za0 (by simp) hb).trans (e.trans ?_)
  simp
theorem Zqj(a0 a1 a2:Option SV):∀(xs:List (List Nat)) (cs:List D) (x4 x5:Option SV),(∀x∈xs,x.length≤1000)→xs.all gtB=false→cs.length+2*xs.length≤100000→
  forD (Zn 4) Gen.Zbn (xs.map fun x=>D.str (S x)) [a0,a1,a2,some (.ol cs),x4,x5]=some (.rt (.fz .non))
 | [],cs,x4,x5,_,hb,_=>by simp at hb
 |x::xs,cs,x4,x5,h,hb,hl=>by
  rw[List.length_cons]at hl
  have h2:=h x List.mem_cons_self
  have st:=Zl6 a0 a1 a2 cs x x5 h2 (by omega)
  rw[List.map_cons]
  cases hx:gtB x with
  |false=>exact Zfv (by simp) (st.2 hx)
  |true=>
   obtain⟨y5,e1⟩:=st.1 hx
   have hb':xs.all gtB=false:=by rw[List.all_cons,hx]at hb;exact hb
   exact(Za0 (by simp) e1).trans (Zqj a0 a1 a2 xs (cs++two x) (some (.fz (.str (S x)))) y5 (fun y hy=>h y (List.mem_cons_of_mem _ hy)) hb' (by rw[List.length_append];simp;omega))
theorem Zl8:∀ls:List (List Nat),cat (ls.map S)=S ls.flatten
 | []=>rfl
 |l::ls=>by
  show S l++cat (ls.map S)=_
  rw[Zl8 ls,Zac];rfl
theorem Zl9(f:Nat→Bool):∀ls:List (List Nat),ls.flatten.all f=ls.all fun l=>l.all f
 | []=>rfl
 |l::ls=>by rw[List.flatten_cons,List.all_append,Zl9 f ls];rfl
noncomputable def okA(t:List Nat):Bool:=(sp t).2.all gtB&&((sp t).1::(sp t).2.map tlS).all fun l=>l.all sts
noncomputable abbrev Zkx(t:List Nat):List D:=.str (S (sp t).1)::(sp t).2.flatMap two
theorem Zqk{B:Nat}:∀ls:List (List Nat),(∀l∈ls,l.length≤B)→ls.flatten.length≤ls.length*B
 | [],_=>Nat.zero_le _
 |l::ls,h=>by
  have:=Zqk ls fun x hx=>h x (List.mem_cons_of_mem _ hx)
  have:=h l List.mem_cons_self
  rw[List.flatten_cons,List.length_append,List.length_cons,Nat.succ_mul];omega
theorem Zjh(t:List Nat)(ha:Asc t)(hl:t.length≤1000):Gen.Zdz [.str (S t),.str STS]=some (if okA t=true then .ol (Zkx t)else .fz .non):=by
 have spl:=Zs5 t
 obtain⟨l1,l2,l3⟩:=Zqh t
 obtain⟨c1,c2⟩:=Zqi ha
 have z:(S t).length≤PySem.sizeLine:=Zq (by rw[Zai];omega)
 rw[Zai]at z
 have hl0:¬LTS.length=0:=by decide+kernel
 have hh:Str.ofString "<"=LTS:=rfl
 have z1:1≤PySem.sizeLine:=Zq (by decide)
 have z1':(sp t).2.length+1≤PySem.sizeLine:=Zq (by omega)
 have mm:((sp t).2.map S).map D.str=(sp t).2.map fun x=>D.str (S x):=by rw[List.map_map];rfl
 have ag:=Zl7 (some (.fz (.str (S t)))) (some (.fz (.str STS))) (some (.ol (.str (S (sp t).1)::(sp t).2.map fun x=>D.str (S x)))) (sp t).2 [.str (S (sp t).1)] none none
 have ab:=Zqj (some (.fz (.str (S t)))) (some (.fz (.str STS))) (some (.ol (.str (S (sp t).1)::(sp t).2.map fun x=>D.str (S x)))) (sp t).2 [.str (S (sp t).1)] none none (fun x hx=>by have:=l3 x hx;omega)
 have gd:∀x∈(sp t).2,(sp t).2.all gtB=true→gtB x=true:=fun x hx h=>List.all_eq_true.mp h x hx
 have ac:∀x∈(sp t).2,Asc x∧x.length≤1000:=fun x hx=>⟨c2 x hx,by have:=l3 x hx;omega⟩
 have cu:cutD (.str (S (sp t).1)::(sp t).2.map fun x=>D.str (S x)) (some 1) none=(sp t).2.map fun x=>D.str (S x):=by
  have:=Zl1 (.str (S (sp t).1)::(sp t).2.map fun x=>D.str (S x)) 1 (by simp)
  exact this
 have a0:L2.atI (.str (S (sp t).1)::(sp t).2.map fun x=>D.str (S x)) 0=some (.str (S (sp t).1)):=Zfw _ 0 _ rfl
 have er:∀x∈(sp t).1::(sp t).2.map tlS,Asc x∧x.length≤1000:=fun x hx=>by
  rcases List.mem_cons.mp hx with e|hx
  ·rw[e];exact⟨c1,by omega⟩
  ·obtain⟨y,hy,rfl⟩:=List.mem_map.mp hx
   have h1:=Zwy (ac y hy).1
   have h2:=(ac y hy).2
   exact⟨h1.1,by omega⟩
 have pk:L2.Zcs (Zkx t) none none (some 2)=(((sp t).1::(sp t).2.map tlS).map S).map D.str:=by
  rw[Zs3]
  have:=Zqd (fun l=>D.str (S (hdS l))) (fun l=>D.str (S (tlS l))) (.str (S (sp t).1)) (sp t).2
  refine this.trans ?_
  simp
 have fl:=Zqk ((sp t).1::(sp t).2.map tlS) (fun x hx=>(er x hx).2)
 have al:=Z0p STS sts ((sp t).1::(sp t).2.map tlS).flatten Z0o (fun c hc=>by
  obtain⟨x,hx,hc⟩:=List.mem_flatten.mp hc
  exact(er x hx).1 c hc) (by simp only[List.length_cons,List.length_map]at fl;omega)
 rw[Zl9]at al
 have ss:=Zhe (((sp t).1::(sp t).2.map tlS).map S)
 have jo:JoinOk (Str.ofString "") (((sp t).1::(sp t).2.map tlS).map S)=true:=Zt5 (B:=1000) (fun x hx=>by
  obtain⟨y,hy,rfl⟩:=List.mem_map.mp hx
  rw[Zai];exact(er y hy).2) (by
  have e0:(Str.ofString "").length=0:=by decide+kernel
  rw[e0];simp only[List.length_cons,List.length_map];omega)
 have jn:Txt.join (Str.ofString "") (((sp t).1::(sp t).2.map tlS).map S)=S ((sp t).1::(sp t).2.map tlS).flatten:=(Z0e _).trans (Zl8 _)
 unfold okA
 have cc:[.str (S (sp t).1)]++(sp t).2.flatMap two=Zkx t:=rfl
 rw[cc]at ag
 generalize Zkx t=cs at*
 generalize (sp t).1::(sp t).2.map tlS=rs at*
 unfold Gen.Zdz Gen.Zhi
 generalize (sp t).2=segs at*
 generalize (sp t).1=r0 at*
 cases hs:segs.all gtB with
 |false=>
  have e:=ab hs (by simp;omega)
  simp[-forD,-List.map_map,mm,hh,spl,Zai,z,z1,z1',hl0,cu,a0,e]
 |true=>
  obtain⟨y4,y5,e⟩:=ag (fun x hx=>⟨(ac x hx).2,gd x hx hs⟩) (by simp;omega)
  generalize (rs.all fun l=>l.all sts)=b at*
  cases b with
  |true=>simp[-forD,-List.map_map,mm,hh,spl,Zai,z,z1,z1',hl0,cu,a0,e,pk,ss,jo,jn,al]
  |false=>simp[-forD,-List.map_map,mm,hh,spl,Zai,z,z1,z1',hl0,cu,a0,e,pk,ss,jo,jn,al]
end My
namespace My
open DL PySem
theorem Zs6{α:Type}(b:α)(ys:List α):L2.Zcs (b::ys) (some 1) none (some 2)=ev ys:=by
 unfold L2.Zcs
 have e1:(PySem.sliceBounds (some 1) none (some 2) (b::ys).length)=(1,((ys.length+1:Nat):Int),2):=by
  rw[List.length_cons]
  unfold PySem.sliceBounds
  simp
  omega
 rw[e1]
 dsimp only
 have e2:PySem.sliceRange 1 ((ys.length+1:Nat):Int) 2=((List.range ((ys.length+1) / 2)).map fun k=>2*k).map fun k=>k+1:=by
  unfold PySem.sliceRange
  rw[if_pos (by decide)]
  by_cases h:ys.length=0
  ·rw[h];rfl
  ·rw[if_pos (by omega)]
   dsimp only
   rw[show(((ys.length+1:Nat):Int)- 1+2- 1) / 2=(((ys.length+1) / 2:Nat):Int) by omega,Int.toNat_natCast,List.map_map]
   refine List.map_congr_left fun k _=>?_
   show(1+2*(k:Int)).toNat=2*k+1
   omega
 rw[e2,List.filterMap_map]
 have e3:((fun x:Nat=>(b::ys)[x]?)∘fun k=>k+1)=fun x=>ys[x]?:=by
  funext k;rfl
 rw[e3]
 exact Zkp _ ys (by omega)
noncomputable abbrev Zet:List Nat:=[110,111,116,101]
noncomputable abbrev Zeu:List Nat:=[107,105,110,100]
noncomputable def nmOf(m:List Nat):List Nat:=(cutC 61 m).1
noncomputable def txOf(m:List Nat):List Nat:=(cutC 61 m).2.getD []
noncomputable def mkB(a b:List Nat):Bool:=Zbm a&&(!(a==Zet||a==Zeu)&&Zd1 b)
theorem Zt9:Str.ofString "note"=S Zet:=by decide+kernel
theorem Zua:Str.ofString "kind"=S Zeu:=by decide+kernel
theorem z2:2≤PySem.sizeLine:=Zq (by decide)
theorem Z0u(a b:List Nat):decide (S a=S b)=(a==b):=by
 by_cases h:a=b
 ·rw[h];simp
 ·rw[decide_eq_false (S_ne h),beq_eq_false_iff_ne.mpr h]
theorem Z0v(a b:List Nat)(ha:Asc a)(hb:Asc b)(la:a.length≤1000)(lb:b.length≤1000):Gen.Zc0 [.str (S a),.str (S b)]=some (.fz (.bl (mkB a b))):=by
 have h1:=Zjg a ha (by omega)
 have h2:=Zwx b hb (by omega)
 have q:inFl (.str (S a)) [.str (S Zet),.str (S Zeu)]=(a==Zet||a==Zeu):=by
  show(eqFl (.str (S Zet)) (.str (S a))|| (eqFl (.str (S Zeu)) (.str (S a))||false))=_
  rw[Zlq,Zlq,Z0u,Z0u,Bool.or_false]
  rw[show(Zet==a)=(a==Zet)from BEq.comm,show(Zeu==a)=(a==Zeu)from BEq.comm]
 unfold mkB
 generalize (a==Zet||a==Zeu)=c at*
 generalize Zbm a=x at*
 generalize Zd1 b=y at*
 unfold Gen.Zc0 Gen.Zf2
 cases x with
 |false=>simp[-inFl,h1]
 |true=>
  cases c with
  |true=>simp[-inFl,h1,z2,Zt9,Zua,q,D.seq?]
  |false=>simp[-inFl,h1,h2,z2,Zt9,Zua,q,D.seq?]
theorem Zw0(m:List Nat):∃c,Txt.partition (S m) (S [61])=(S (nmOf m),c,S (txOf m)):=by
 have:=Zl5 61 m
 rw[this]
 unfold nmOf txOf
 cases(cutC 61 m).2 with
 |none=>exact⟨_,rfl⟩
 |some r=>exact⟨_,rfl⟩
theorem Z0w{m:List Nat}(h:Asc m)(hl:m.length≤1000):Asc (nmOf m)∧Asc (txOf m)∧(nmOf m).length≤1000∧(txOf m).length≤1000:=by
 obtain⟨a1,a2,a3⟩:=Zkw (c:=61) h
 unfold nmOf txOf
 cases ho:(cutC 61 m).2 with
 |none=>exact⟨a1,(fun c hc=>nomatch hc),by omega,Nat.zero_le _⟩
 |some r=>exact⟨a1,(a3 r ho).1,by omega,by have:=(a3 r ho).2;show r.length≤1000;omega⟩
structure Tx(xs:List Str)(vs:List D):Prop where
 dic:Dic xs vs
 txt:∀v∈vs,∃y,v= .str (S y)
 few:vs.length≤1000
theorem eq_S:Str.ofString "="=S [61]:=by decide+kernel
theorem t3a(x y z:D):L2.atI [x,y,z] 0=some x:=rfl
theorem t3c(x y z:D):L2.atI [x,y,z] 2=some z:=rfl
theorem Zc3(A:Option SV)(m:List Nat)(ha:Asc m)(hl:m.length≤1000)(xs:List Str)(vs:List D)(h:Tx xs vs)(hf:vs.length<1000)(x3:Option SV):
  (Gen.Zt [A,some (.oK (inrs xs) vs),some (.fz (.str (S m))),x3]=some (.rt (.fz .non))∧(mkB (nmOf m) (txOf m)=false∨∃y,look xs vs (S (nmOf m))=some (.str (S y))∧y≠txOf m))∨
  (mkB (nmOf m) (txOf m)=true∧(∀y,look xs vs (S (nmOf m))=some (.str (S y))→y=txOf m)∧∃y3,Gen.Zt [A,some (.oK (inrs xs) vs),some (.fz (.str (S m))),x3]=some (.nx [A,some (.oK (inrs (putA xs vs (S (nmOf m)) (.str (S (txOf m)))).1) (putA xs vs (S (nmOf m)) (.str (S (txOf m)))).2),some (.fz (.str (S m))),y3])):=by
 obtain⟨c,pe⟩:=Zw0 m
 obtain⟨q1,q2,q3,q4⟩:=Z0w ha hl
 have im:=Z0v (nmOf m) (txOf m) q1 q2 q3 q4
 have z:m.length≤PySem.sizeLine:=Zq (by omega)
 have h0:¬(S [61]).length=0:=by decide+kernel
 have li:=Ze2 (S (nmOf m)) xs vs
 have pi:=Zl3 (S (nmOf m)) (.str (S (txOf m))) xs vs
 have pl:=Zct (S (nmOf m)) (.str (S (txOf m))) xs vs h.dic.len
 have zl:vs.length<PySem.sizeLine:=Zft (by omega)
 generalize putA xs vs (S (nmOf m)) (.str (S (txOf m)))=P at*
 obtain⟨P1,P2⟩:=P
 cases hb:mkB (nmOf m) (txOf m)with
 |false=>
  rw[hb]at im
  refine .inl ⟨?_,.inl rfl⟩
  generalize S (nmOf m)=N at*
  generalize S (txOf m)=T at*
  unfold Gen.Zt
  simp[-look,-putA,Zai,z,eq_S,h0,pe,t3a,t3c,im]
 |true=>
  rw[hb]at im
  cases ho:look xs vs (S (nmOf m))with
  |none=>
   rw[ho]at li
   refine .inr ⟨rfl,(fun y hy=>nomatch hy),some (.fz (.tup [.str (S (nmOf m)),.str c,.str (S (txOf m))])),?_⟩
   generalize S (nmOf m)=N at*
   generalize S (txOf m)=T at*
   unfold Gen.Zt
   simp[-look,-putA,Zai,z,eq_S,h0,pe,t3a,t3c,im,li,pi,zl]
  |some d=>
   obtain⟨y,rfl⟩:=h.txt d (Zs1 ho)
   rw[ho]at li
   by_cases hy:y=txOf m
   ·refine .inr ⟨rfl,(fun y' hy'=>by injection hy' with hy';injection hy' with hy';rw[←Zp7 hy'];exact hy),some (.fz (.tup [.str (S (nmOf m)),.str c,.str (S (txOf m))])),?_⟩
    rw[hy]at li
    generalize S (nmOf m)=N at*
    generalize S (txOf m)=T at*
    unfold Gen.Zt
    simp[-look,-putA,Zai,z,eq_S,h0,pe,t3a,t3c,im,li,pi,zl]
   ·refine .inl ⟨?_,.inr ⟨y,rfl,hy⟩⟩
    have hne:¬S y=S (txOf m):=S_ne hy
    generalize S (nmOf m)=N at*
    generalize S (txOf m)=T at*
    unfold Gen.Zt
    simp[-look,-putA,Zai,z,eq_S,h0,pe,t3a,t3c,im,li,hne]
theorem Tx.put{xs:List Str}{vs:List D}(h:Tx xs vs)(hf:vs.length<1000)(k:Str)(y:List Nat):Tx (putA xs vs k (.str (S y))).1 (putA xs vs k (.str (S y))).2:=by
 refine⟨h.dic.put k _,fun v hv=>?_,by have:=(Zct k (.str (S y)) xs vs h.dic.len).2;omega⟩
 rcases Zp8 k _ xs vs v hv with z|z
 ·exact⟨y,z⟩
 ·exact h.txt v z
noncomputable abbrev mksD(ms:List (List Nat)):List D:=ms.map fun m=>D.str (S m)
section
variable(A:Option SV)
theorem Zji:∀(ms:List (List Nat)) (xs:List Str) (vs:List D) (x2 x3:Option SV),(∀m∈ms,Asc m∧m.length≤1000)→Tx xs vs→vs.length+ms.length≤900→(∃m∈ms,mkB (nmOf m) (txOf m)=false)→
  forD (Zn 2) Gen.Zt (mksD ms) [A,some (.oK (inrs xs) vs),x2,x3]=some (.rt (.fz .non))
 | [],_,_,_,_,_,_,_,h=>by obtain⟨m,hm,_⟩:=h;exact nomatch hm
 |m::ms,xs,vs,x2,x3,ha,ht,hl,hb=>by
  obtain⟨a1,a2⟩:=ha m List.mem_cons_self
  rw[List.length_cons]at hl
  have run:(Zn 2).run (.str (S m)) [A,some (.oK (inrs xs) vs),x2,x3]=some [A,some (.oK (inrs xs) vs),some (.fz (.str (S m))),x3]:=by simp
  rcases Zc3 A m a1 a2 xs vs ht (by omega) x3 with⟨e,_⟩|⟨g,_,y3,e⟩
  ·exact Zfv run e
  ·refine(Za0 run e).trans ?_
   have pl:=(Zct (S (nmOf m)) (.str (S (txOf m))) xs vs ht.dic.len).2
   refine Zji ms _ _ _ _ (fun x hx=>ha x (List.mem_cons_of_mem _ hx)) (ht.put (by omega) _ _) (by omega) ?_
   obtain⟨x,hx,hb⟩:=hb
   rcases List.mem_cons.mp hx with z|z
   ·rw[z,g]at hb;cases hb
   ·exact⟨x,z,hb⟩
theorem Zf6:∀(ms:List (List Nat)) (xs:List Str) (vs:List D) (x2 x3:Option SV),(∀m∈ms,Asc m∧m.length≤1000)→Tx xs vs→vs.length+ms.length≤900→(∃m∈ms,∃y,look xs vs (S (nmOf m))=some (.str (S y))∧y≠txOf m)→
  forD (Zn 2) Gen.Zt (mksD ms) [A,some (.oK (inrs xs) vs),x2,x3]=some (.rt (.fz .non))
 | [],_,_,_,_,_,_,_,h=>by obtain⟨m,hm,_⟩:=h;exact nomatch hm
 |m::ms,xs,vs,x2,x3,ha,ht,hl,hb=>by
  obtain⟨a1,a2⟩:=ha m List.mem_cons_self
  rw[List.length_cons]at hl
  have run:(Zn 2).run (.str (S m)) [A,some (.oK (inrs xs) vs),x2,x3]=some [A,some (.oK (inrs xs) vs),some (.fz (.str (S m))),x3]:=by simp
  rcases Zc3 A m a1 a2 xs vs ht (by omega) x3 with⟨e,_⟩|⟨g,g2,y3,e⟩
  ·exact Zfv run e
  ·refine(Za0 run e).trans ?_
   have pl:=(Zct (S (nmOf m)) (.str (S (txOf m))) xs vs ht.dic.len).2
   refine Zf6 ms _ _ _ _ (fun x hx=>ha x (List.mem_cons_of_mem _ hx)) (ht.put (by omega) _ _) (by omega) ?_
   obtain⟨x,hx,y,hy,hn⟩:=hb
   rcases List.mem_cons.mp hx with z|z
   ·rw[z]at hy hn;exact absurd (g2 y hy) hn
   ·refine⟨x,z,y,?_,hn⟩
    rw[Zhg _ _ _ _ _ ht.dic.len]
    by_cases hk:S (nmOf m)=S (nmOf x)
    ·rw[if_pos hk]
     rw[←hk]at hy
     rw[g2 y hy]
    ·rw[if_neg hk];exact hy
theorem Zf7(m1 m2:List Nat)(h1:nmOf m1=nmOf m2)(h2:txOf m1≠txOf m2)(q r:List (List Nat)):∀(p:List (List Nat)) (xs:List Str) (vs:List D) (x2 x3:Option SV),(∀m∈p++m1::(q++m2::r),Asc m∧m.length≤1000)→Tx xs vs→vs.length+(p++m1::(q++m2::r)).length≤900→
  forD (Zn 2) Gen.Zt (mksD (p++m1::(q++m2::r))) [A,some (.oK (inrs xs) vs),x2,x3]=some (.rt (.fz .non))
 | [],xs,vs,x2,x3,ha,ht,hl=>by
  rw[List.nil_append]at ha hl⊢
  obtain⟨a1,a2⟩:=ha m1 List.mem_cons_self
  rw[List.length_cons]at hl
  have run:(Zn 2).run (.str (S m1)) [A,some (.oK (inrs xs) vs),x2,x3]=some [A,some (.oK (inrs xs) vs),some (.fz (.str (S m1))),x3]:=by simp
  rcases Zc3 A m1 a1 a2 xs vs ht (by omega) x3 with⟨e,_⟩|⟨g,g2,y3,e⟩
  ·exact Zfv run e
  ·refine(Za0 run e).trans ?_
   have pl:=(Zct (S (nmOf m1)) (.str (S (txOf m1))) xs vs ht.dic.len).2
   refine Zf6 A _ _ _ _ _ (fun x hx=>ha x (List.mem_cons_of_mem _ hx)) (ht.put (by omega) _ _) (by omega) ⟨m2,List.mem_append_right _ List.mem_cons_self,txOf m1,?_,h2⟩
   rw[Zhg _ _ _ _ _ ht.dic.len,if_pos (by rw[h1])]
 |m::p,xs,vs,x2,x3,ha,ht,hl=>by
  rw[List.cons_append]at ha hl⊢
  obtain⟨a1,a2⟩:=ha m List.mem_cons_self
  rw[List.length_cons]at hl
  have run:(Zn 2).run (.str (S m)) [A,some (.oK (inrs xs) vs),x2,x3]=some [A,some (.oK (inrs xs) vs),some (.fz (.str (S m))),x3]:=by simp
  rcases Zc3 A m a1 a2 xs vs ht (by omega) x3 with⟨e,_⟩|⟨g,g2,y3,e⟩
  ·exact Zfv run e
  ·refine(Za0 run e).trans ?_
   have pl:=(Zct (S (nmOf m)) (.str (S (txOf m))) xs vs ht.dic.len).2
   exact Zf7 m1 m2 h1 h2 q r p _ _ _ _ (fun x hx=>ha x (List.mem_cons_of_mem _ hx)) (ht.put (by omega) _ _) (by omega)
theorem Zgq(G:List Nat→List Nat):∀(ms:List (List Nat)) (xs:List Str) (vs:List D) (x2 x3:Option SV),(∀m∈ms,Asc m∧m.length≤1000)→Tx xs vs→vs.length+ms.length≤900→(∀m∈ms,mkB (nmOf m) (txOf m)=true∧txOf m=G (nmOf m))→(∀k y,look xs vs (S k)=some (.str (S y))→y=G k)→
  ∃xs' vs' y2 y3,Tx xs' vs'∧forD (Zn 2) Gen.Zt (mksD ms) [A,some (.oK (inrs xs) vs),x2,x3]=some (.nx [A,some (.oK (inrs xs') vs'),y2,y3])
 | [],xs,vs,x2,x3,_,ht,_,_,_=>⟨xs,vs,x2,x3,ht,rfl⟩
 |m::ms,xs,vs,x2,x3,ha,ht,hl,hb,hG=>by
  obtain⟨a1,a2⟩:=ha m List.mem_cons_self
  obtain⟨b1,b2⟩:=hb m List.mem_cons_self
  rw[List.length_cons]at hl
  have run:(Zn 2).run (.str (S m)) [A,some (.oK (inrs xs) vs),x2,x3]=some [A,some (.oK (inrs xs) vs),some (.fz (.str (S m))),x3]:=by simp
  rcases Zc3 A m a1 a2 xs vs ht (by omega) x3 with⟨_,g|⟨y,hy,hn⟩⟩|⟨g,g2,y3,e⟩
  ·rw[b1]at g;cases g
  ·exact absurd (by rw[hG _ _ hy,b2]) hn
  ·have pl:=(Zct (S (nmOf m)) (.str (S (txOf m))) xs vs ht.dic.len).2
   obtain⟨xs',vs',y2,y3',k1,k2⟩:=Zgq G ms _ _ (some (.fz (.str (S m)))) y3 (fun x hx=>ha x (List.mem_cons_of_mem _ hx)) (ht.put (by omega) (S (nmOf m)) (txOf m)) (by omega) (fun x hx=>hb x (List.mem_cons_of_mem _ hx)) (fun k y hy=>by
    rw[Zhg _ _ _ _ _ ht.dic.len]at hy
    by_cases hk:S (nmOf m)=S k
    ·rw[if_pos hk]at hy
     injection hy with hy;injection hy with hy
     rw[←Zp7 hy,←Zp7 hk,b2]
    ·rw[if_neg hk]at hy;exact hG k y hy)
   exact⟨xs',vs',y2,y3',k1,(Za0 run e).trans k2⟩
end
theorem Tx.nil:Tx [] []:=⟨⟨List.nodup_nil,rfl⟩,(fun _ h=>nomatch h),Nat.zero_le _⟩
noncomputable def Tro(ms:List (List Nat)):Prop:=(∃m∈ms,mkB (nmOf m) (txOf m)=false)∨∃p m1 q m2 r,ms=p++m1::(q++m2::r)∧nmOf m1=nmOf m2∧txOf m1≠txOf m2
theorem Zhs{ms:List (List Nat)}(ha:∀m∈ms,Asc m∧m.length≤1000)(hl:ms.length≤900)(h:Tro ms):Gen.Zas [.lst (mksD ms)]=some (.fz .non):=by
 have e:forD (Zn 2) Gen.Zt (mksD ms) [some (.fz (.lst (mksD ms))),some (.oK (inrs []) []),none,none]=some (.rt (.fz .non)):=by
  rcases h with h|⟨p,m1,q,m2,r,rfl,h1,h2⟩
  ·exact Zji _ ms [] [] none none ha Tx.nil (by simpa using hl) h
  ·exact Zf7 _ m1 m2 h1 h2 q r p [] [] none none ha Tx.nil (by simpa using hl)
 have e0:(inrs []:List L2.Key)=[]:=rfl
 rw[e0]at e
 generalize mksD ms=C at*
 unfold Gen.Zas Gen.Zbs
 simp[-forD,e]
theorem Zgh(G:List Nat→List Nat){ms:List (List Nat)}(ha:∀m∈ms,Asc m∧m.length≤1000)(hl:ms.length≤900)(h:∀m∈ms,mkB (nmOf m) (txOf m)=true∧txOf m=G (nmOf m)):∃xs vs,Tx xs vs∧Gen.Zas [.lst (mksD ms)]=some (.oK (inrs xs) vs):=by
 obtain⟨xs,vs,y2,y3,k,e⟩:=Zgq (some (.fz (.lst (mksD ms)))) G ms [] [] none none ha Tx.nil (by simpa using hl) h (fun k y hy=>by simp at hy)
 have e0:(inrs []:List L2.Key)=[]:=rfl
 rw[e0]at e
 refine⟨xs,vs,k,?_⟩
 generalize mksD ms=C at*
 unfold Gen.Zas Gen.Zbs
 simp[-forD,e]
end My
namespace My
open DL PySem
noncomputable def spl(c:Nat):List Nat→List (List Nat)
 | []=>[[]]
 |a::l=>if a=c then[]::spl c l else match spl c l with
  |p::r=>(a::p)::r
  | []=>[[a]]
theorem Zht(c:Nat):∀p:List Nat,c∉p→spl c p=[p]
 | [],_=>rfl
 |a::p,h=>by
  have e:=Zht c p fun z=>h (List.mem_cons_of_mem _ z)
  have n:¬a=c:=fun z=>h (by rw[z];exact List.mem_cons_self)
  unfold spl
  rw[if_neg n,e]
theorem Zhu(c:Nat)(l:List Nat):∀p:List Nat,c∉p→spl c (p++c::l)=p::spl c l
 | [],_=>by
  show spl c (c::l)=_
  rw[spl,if_pos rfl]
 |a::p,h=>by
  have e:=Zhu c l p fun z=>h (List.mem_cons_of_mem _ z)
  have n:¬a=c:=fun z=>h (by rw[z];exact List.mem_cons_self)
  show spl c (a::(p++c::l))=_
  rw[spl,if_neg n,e]
theorem Zd2(c:Nat):∀l:List Nat,spl c l≠[]∧(∀p∈spl c l,c∉p)∧jl [c] (spl c l)=l
 | []=>⟨by simp[spl],by simp[spl],rfl⟩
 |a::l=>by
  obtain⟨h0,h1,h2⟩:=Zd2 c l
  unfold spl
  by_cases e:a=c
  ·rw[if_pos e]
   refine⟨by simp,fun p hp=>?_,?_⟩
   ·rcases List.mem_cons.mp hp with z|z
    ·rw[z];exact fun h=>nomatch h
    ·exact h1 p z
   ·cases hs:spl c l with
    |nil=>exact absurd hs h0
    |cons q r=>
     show[]++[c]++jl [c] (q::r)=a::l
     rw[←hs,h2,e];rfl
  ·rw[if_neg e]
   cases hs:spl c l with
   |nil=>exact absurd hs h0
   |cons q r=>
    rw[hs]at h1 h2
    refine⟨by simp,fun p hp=>?_,?_⟩
    ·rcases List.mem_cons.mp hp with z|z
     ·rw[z]
      intro h
      rcases List.mem_cons.mp h with y|y
      ·exact e y.symm
      ·exact h1 q List.mem_cons_self y
     ·exact h1 p (List.mem_cons_of_mem _ z)
    ·cases r with
     |nil=>show a::q=a::l;rw[show q=l from h2]
     |cons q' r=>
      have h2:q++[c]++jl [c] (q'::r)=l:=h2
      show(a::q)++[c]++jl [c] (q'::r)=a::l
      rw[←h2];rfl
noncomputable def top3:List (List Nat)→List (List Nat)
 |p::q::r::s=>[p,q,jl [32] (r::s)]
 |l=>l
theorem Zql:∀ps:List (List Nat),jl [32] (top3 ps)=jl [32] ps
 | []=>rfl
 | [_]=>rfl
 | [_,_]=>rfl
 |_::_::_::_=>rfl
theorem Zw1:∀{ps:List (List Nat)},ps≠[]→top3 ps≠[]
 | [],h=>absurd rfl h
 | [_],_=>by simp[top3]
 | [_,_],_=>by simp[top3]
 |_::_::_::_,_=>by simp[top3]
theorem Zs7:∀ps:List (List Nat),pos 1 0 (top3 ps)=(pos 1 0 ps).take 2
 | []=>rfl
 | [_]=>rfl
 | [_,_]=>rfl
 | [_,_,_]=>rfl
 |_::_::_::_::_=>rfl
noncomputable def Z4(t:List Nat):List (List Nat):=top3 (spl 32 t)
open PySem.StrLaws in
theorem Zub(t:List Nat):Txt.splitMax (S t) (S [32]) 2=(Z4 t).map S:=by
 obtain⟨h0,h1,h2⟩:=Zd2 32 t
 have hk:Builtin.Str.strKind (S [32])=1:=by decide+kernel
 have l1:(S [32]).length=1:=Zai _
 have c1:(S [32]).cps.toList=[32]:=Zbh _
 have fits:Fits (S [32]).cps.toList (spl 32 t):=by rw[c1];exact Zef _ h0 h1
 have ex:(S t).cps.toList=jl (S [32]).cps.toList (spl 32 t):=by rw[c1,h2,Zbh]
 have oc:=Zhh (S t) (S [32]) (by rw[l1];exact Nat.le_refl _) (spl 32 t) fits ex 2
 rw[l1,←Zs7]at oc
 have lim:PySem.limitOf (S t) 2=2:=rfl
 have e3:(S t).cps.toList=jl [32] (Z4 t):=by rw[Zbh];unfold Z4;rw[Zql,h2]
 have n3:Z4 t≠[]:=Zw1 h0
 have oc:Builtin.Str.occurrences (S t) (S [32]) 0 (S t).length 2=pos 1 0 (Z4 t):=oc
 have one:pos 1 0 (Z4 t)=[]→[S t]=(Z4 t).map S:=fun z=>by
  rcases Zkn z with z|⟨p,z⟩
  ·exact absurd z n3
  ·rw[z]at e3⊢
   rw[Zbh]at e3
   rw[e3];rfl
 unfold Txt.splitMax
 rw[lim,oc]
 by_cases hs:(decide ((S t).length<(S [32]).length)||decide (Builtin.Str.strKind (S t)<Builtin.Str.strKind (S [32])))=true
 ·rw[if_pos hs]
  have hlt:(S t).length<1:=by
   rw[hk]at hs
   have:=Zhf (S t)
   rcases Bool.or_eq_true_iff.mp hs with z|z
   ·have:=of_decide_eq_true z;omega
   ·have:=of_decide_eq_true z;omega
  rw[Zai]at hlt
  have ht:t=[]:=List.eq_nil_of_length_eq_zero (by omega)
  subst ht
  rfl
 ·rw[if_neg hs]
  by_cases he:(pos 1 0 (Z4 t)).isEmpty=true
  ·rw[if_pos he]
   exact one (List.isEmpty_iff.mp he)
  ·rw[if_neg he,partsBetween_eq]
   have z:=Ze1 (y:=[32]) (S t) (Z4 t) 0 n3 (by rw[List.drop_zero];exact e3) (Nat.zero_le _)
   rw[l1]
   exact z
theorem Zc8{t w:List Nat}(hw:w∈Z4 t):(∀c∈w,c∈t)∧w.length≤t.length:=by
 have e:jl [32] (Z4 t)=t:=by unfold Z4;rw[Zql];exact(Zd2 32 t).2.2
 have h:∀(ps:List (List Nat)),w∈ps→(∀c∈w,c∈jl [32] ps)∧w.length≤(jl [32] ps).length:=by
  intro ps
  induction ps with
  |nil=>intro h;exact nomatch h
  |cons q r ih=>
   intro h
   cases r with
   |nil=>rw[List.mem_singleton.mp h];exact⟨fun _ h=>h,Nat.le_refl _⟩
   |cons q' r=>
    show(∀c∈w,c∈q++[32]++jl [32] (q'::r))∧w.length≤(q++[32]++jl [32] (q'::r)).length
    rcases List.mem_cons.mp h with z|z
    ·rw[z]
     refine⟨fun c hc=>List.mem_append_left _ (List.mem_append_left _ hc),?_⟩
     rw[List.length_append,List.length_append];omega
    ·obtain⟨a,b⟩:=ih z
     refine⟨fun c hc=>List.mem_append_right _ (a c hc),?_⟩
     rw[List.length_append];omega
 have:=h _ hw
 rw[e]at this
 exact this
theorem Zjj(t:List Nat):1≤(Z4 t).length∧(Z4 t).length≤3:=by
 have h0:=(Zd2 32 t).1
 unfold Z4
 match h:spl 32 t,h0 with
 | [_],_=>simp[top3]
 | [_,_],_=>simp[top3]
 |_::_::_::_,_=>simp[top3]
noncomputable def mks(t:List Nat):List (List Nat):=(sp t).2.map hdS
theorem Zuc{t:List Nat}(ha:Asc t)(hl:t.length≤800):(∀m∈mks t,Asc m∧m.length≤1000)∧(mks t).length≤900:=by
 obtain⟨l1,l2,l3⟩:=Zqh t
 obtain⟨c1,c2⟩:=Zqi ha
 refine⟨fun m hm=>?_,by unfold mks;rw[List.length_map];omega⟩
 unfold mks at hm
 obtain⟨x,hx,rfl⟩:=List.mem_map.mp hm
 obtain⟨a1,a2,_⟩:=Zkw (c:=62) (c2 x hx)
 have:=l3 x hx
 exact⟨a1,by show(cutC 62 x).1.length≤1000;omega⟩
theorem Zqm(t:List Nat):L2.Zcs (Zkx t) (some 1) none (some 2)=mksD (mks t):=by
 rw[Zs6]
 have:=Zl4 (fun l=>D.str (S (hdS l))) (fun l=>D.str (S (tlS l))) (sp t).2
 refine this.trans ?_
 unfold mks mksD
 rw[List.map_map];rfl
noncomputable abbrev wsD(ws:List (List Nat)):List D:=ws.map fun w=>D.str (S w)
noncomputable def BadR(t:List Nat):Prop:=(Z4 t).length<3∨∃a b c,Z4 t=[a,b,c]∧(Zbm a=false∨Zbm b=false∨okA c=false∨Tro (mks c))
theorem w3a(x y z:D):L2.atI [x,y,z] 0=some x:=rfl
theorem w3b(x y z:D):L2.atI [x,y,z] 1=some y:=rfl
theorem w3c(x y z:D):L2.atI [x,y,z] 2=some z:=rfl
theorem Z6w : Str.ofString "ABCDEFGHIJKLMNOPQRSTUVWXYZabcdefghijklmnopqrstuvwxyz0123456789 .,!?'-/()&+*=:;" = STS := rfl
theorem Zs8{t:List Nat}(ha:Asc t)(hl:t.length≤800)(h:BadR t):Gen.Zab [.lst (wsD (Z4 t))]=some (.fz .non):=by
 rcases h with h|⟨a,b,c,e,h⟩
 ·have hw:=(Zjj t).1
  have hlt:((wsD (Z4 t)).length:Int)<3:=by rw[List.length_map];omega
  generalize wsD (Z4 t)=W at*
  unfold Gen.Zab Gen.Za2
  simp[hlt]
 ·have wa:=Zc8 (t:=t) (w:=a) (by rw[e];simp)
  have wb:=Zc8 (t:=t) (w:=b) (by rw[e];simp)
  have wc:=Zc8 (t:=t) (w:=c) (by rw[e];simp)
  have na:=Zjg a (fun x hx=>ha x (wa.1 x hx)) (by omega)
  have nb:=Zjg b (fun x hx=>ha x (wb.1 x hx)) (by omega)
  have ac:Asc c:=fun x hx=>ha x (wc.1 x hx)
  have an:=Zjh c ac (by omega)
  rw[e]
  show Gen.Zab [.lst [.str (S a),.str (S b),.str (S c)]]=_
  cases h1:Zbm a with
  |false=>
   rw[h1]at na
   generalize S a=SA at*
   unfold Gen.Zab Gen.Za2
   simp[w3a,w3b,w3c,na]
  |true=>
   rw[h1]at na
   cases h2:Zbm b with
   |false=>
    rw[h2]at nb
    generalize S a=SA at*
    generalize S b=SB at*
    unfold Gen.Zab Gen.Za2
    simp[w3a,w3b,w3c,na,nb]
   |true=>
    rw[h2]at nb
    cases h3:okA c with
    |false=>
     rw[h3,if_neg (by decide)]at an
     generalize S a=SA at*
     generalize S b=SB at*
     generalize S c=SC at*
     unfold Gen.Zab Gen.Za2
     simp[w3a,w3b,w3c,na,nb,an]
    |true=>
     rw[h3,if_pos rfl]at an
     have ht:Tro (mks c):=by
      rcases h with h|h|h|h
      ·rw[h1]at h;cases h
      ·rw[h2]at h;cases h
      ·rw[h3]at h;cases h
      ·exact h
     obtain⟨m1,m2⟩:=Zuc ac (by omega)
     have rm:=Zhs m1 m2 ht
     have od:=Zqm c
     generalize mksD (mks c)=MD at*
     generalize Zkx c=CT at*
     generalize S a=SA at*
     generalize S b=SB at*
     generalize S c=SC at*
     unfold Gen.Zab Gen.Za2
     simp[w3a,w3b,w3c,na,nb,an,od,rm]
theorem Zma(G:List Nat→List Nat){t a b c:List Nat}(ha:Asc t)(hl:t.length≤800)(e:Z4 t=[a,b,c])(h1:Zbm a=true)(h2:Zbm b=true)(h3:okA c=true)(h4:∀m∈mks c,mkB (nmOf m) (txOf m)=true∧txOf m=G (nmOf m)):
  ∃xs vs,Tx xs vs∧Gen.Zab [.lst [.str (S a),.str (S b),.str (S c)]]=some (.oK (inrs xs) vs):=by
 have wa:=Zc8 (t:=t) (w:=a) (by rw[e];simp)
 have wb:=Zc8 (t:=t) (w:=b) (by rw[e];simp)
 have wc:=Zc8 (t:=t) (w:=c) (by rw[e];simp)
 have na:=Zjg a (fun x hx=>ha x (wa.1 x hx)) (by omega)
 have nb:=Zjg b (fun x hx=>ha x (wb.1 x hx)) (by omega)
 have ac:Asc c:=fun x hx=>ha x (wc.1 x hx)
 have an:=Zjh c ac (by omega)
 rw[h1]at na
 rw[h2]at nb
 rw[h3,if_pos rfl]at an
 obtain⟨m1,m2⟩:=Zuc ac (by omega)
 obtain⟨xs,vs,tx,rm⟩:=Zgh G m1 m2 h4
 refine⟨xs,vs,tx,?_⟩
 have od:=Zqm c
 generalize mksD (mks c)=MD at*
 generalize Zkx c=CT at*
 generalize S a=SA at*
 generalize S b=SB at*
 generalize S c=SC at*
 unfold Gen.Zab Gen.Za2
 simp[w3a,w3b,w3c,na,nb,an,od,rm]
end My
namespace My
open DL PySem
structure GR(r k:List Nat):Prop where
 asc:Asc r
 len:r.length≤800
 ln:10∉r
 rd:∃(b c:List Nat) (G:List Nat→List Nat),Z4 r=[k,b,c]∧Zbm k=true∧Zbm b=true∧okA c=true∧∀m∈mks c,mkB (nmOf m) (txOf m)=true∧txOf m=G (nmOf m)
noncomputable abbrev NL(n:Int):Exn:=⟨"NoList",["row"],[.int n]⟩
theorem bl_S:Str.ofString " "=S [32]:=by decide+kernel
theorem z3:3≤PySem.sizeLine:=Zq (by decide)
theorem Zqn{k:Str}{xs:List Str}{vs:List D}(h:Dic xs vs)(hk:k∈xs):∃v,look xs vs k=some v:=by
 obtain⟨i,hi,e⟩:=List.getElem_of_mem hk
 have hv:i<vs.length:=by have:=h.len;omega
 exact⟨vs[i],Zs0 h.nd h.len i k vs[i] (by rw[List.getElem?_eq_getElem hi,e]) (List.getElem?_eq_getElem hv)⟩
section
variable(A B:Option SV)
theorem Zqo{r k:List Nat}(h:GR r k)(n:Int)(xs:List Str)(vs:List D)(hk:S k∉xs)(hd:xs.length=vs.length)(hl:vs.length≤500)(x5 x6:Option SV):
  ∃d y5 y6,Gen.Z1 [A,some (.oK (inrs xs) vs),B,some (.fz (.int n)),some (.fz (.str (S r))),x5,x6]=some (.nx [A,some (.oK (inrs (xs++[S k])) (vs++[d])),B,some (.fz (.int n)),some (.fz (.str (S r))),y5,y6]):=by
 obtain⟨b,c,G,e,h1,h2,h3,h4⟩:=h.rd
 obtain⟨ys,us,tx,rr⟩:=Zma G h.asc h.len e h1 h2 h3 h4
 have s2:=Zub r
 rw[e]at s2
 have s2:Txt.splitMax (S r) (S [32]) 2=[S k,S b,S c]:=s2
 have h0:¬(S [32]).length=0:=by decide+kernel
 have z:r.length≤PySem.sizeLine:=Zq (by have:=h.len;omega)
 have nm:look (inrs xs) vs (Sum.inr (S k))=none:=by rw[Ze2];exact Zp9 hk
 have pi:=Zl3 (S k) (.tup [.str (S b),.dK (inrs ys) us]) xs vs
 rw[Zsz hk]at pi
 have zl:vs.length<PySem.sizeLine:=Zft (by omega)
 refine⟨.tup [.str (S b),.dK (inrs ys) us],some (.fz (.lst [.str (S k),.str (S b),.str (S c)])),some (.fz (.dK (inrs ys) us)),?_⟩
 generalize S k=SK at*
 generalize S b=SB at*
 generalize S c=SC at*
 generalize inrs ys=YS at*
 generalize inrs (xs++[SK])=XS' at*
 generalize inrs xs=XS at*
 unfold Gen.Z1
 simp[-putA,-look,Zai,z,z2,z3,bl_S,h0,s2,rr,w3a,w3b,nm,pi,zl]
theorem Zs9{r:List Nat}(ha:Asc r)(hl:r.length≤800)(n:Int)(xs:List Str)(vs:List D)(hd:Dic xs vs)(h:BadR r∨∃k,GR r k∧S k∈xs)(x5 x6:Option SV):
  ∃δ,Gen.Z1 [A,some (.oK (inrs xs) vs),B,some (.fz (.int n)),some (.fz (.str (S r))),x5,x6]=some (.ex (NL n) δ):=by
 have s2:=Zub r
 have h0:¬(S [32]).length=0:=by decide+kernel
 have z:r.length≤PySem.sizeLine:=Zq (by omega)
 have wl:=Zjj r
 have zw:((Z4 r).map S).length≤PySem.sizeLine:=Zq (by rw[List.length_map];omega)
 rcases h with h|⟨k,h,hk⟩
 ·have rr:=Zs8 ha hl h
  have mm:((Z4 r).map S).map D.str=wsD (Z4 r):=by rw[List.map_map];rfl
  refine⟨[A,some (.oK (inrs xs) vs),B,some (.fz (.int n)),some (.fz (.str (S r))),some (.ol (wsD (Z4 r))),some (.fz .non)],?_⟩
  rw[←mm]at rr⊢
  generalize (Z4 r).map S=W at*
  generalize inrs xs=XS at*
  unfold Gen.Z1
  simp[Zai,z,zw,bl_S,h0,s2,rr]
 ·obtain⟨b,c,G,e,h1,h2,h3,h4⟩:=h.rd
  obtain⟨ys,us,tx,rr⟩:=Zma G h.asc h.len e h1 h2 h3 h4
  rw[e]at s2
  have s2:Txt.splitMax (S r) (S [32]) 2=[S k,S b,S c]:=s2
  obtain⟨v,nm⟩:=Zqn hd hk
  rw[←Ze2]at nm
  refine⟨[A,some (.oK (inrs xs) vs),B,some (.fz (.int n)),some (.fz (.str (S r))),some (.fz (.lst [.str (S k),.str (S b),.str (S c)])),some (.oK (inrs ys) us)],?_⟩
  generalize S k=SK at*
  generalize S b=SB at*
  generalize S c=SC at*
  generalize inrs ys=YS at*
  generalize inrs xs=XS at*
  unfold Gen.Z1
  simp[-look,Zai,z,z3,bl_S,h0,s2,rr,w3a,w3b,nm]
theorem Zf8:∀(ks rs:List (List Nat)) (n:Nat) (xs:List Str) (vs:List D) (x3 x4 x5 x6:Option SV) (rest:List D),rs.length=ks.length→(∀(i:Nat) (r k:List Nat),rs[i]? =some r→ks[i]? =some k→GR r k)→(xs++ks.map S).Nodup→xs.length=vs.length→vs.length+ks.length≤400→
  ∃vs' y3 y4 y5 y6,vs'.length=xs.length+ks.length∧forD (Zcm 2 (Zaa (Zn 3) (Zaa (Zn 4) (Zcq)))) Gen.Z1 (((rs.map fun r=>D.str (S r)).zipIdx n).map (fun p=>D.tup [.int (p.2:Nat),p.1])++rest) [A,some (.oK (inrs xs) vs),B,x3,x4,x5,x6]=forD (Zcm 2 (Zaa (Zn 3) (Zaa (Zn 4) (Zcq)))) Gen.Z1 rest [A,some (.oK (inrs (xs++ks.map S)) vs'),B,y3,y4,y5,y6]
 | [],[],n,xs,vs,x3,x4,x5,x6,rest,_,_,_,hd,_=>⟨vs,x3,x4,x5,x6,by simpa using hd.symm,by simp⟩
 | [],_::_,_,_,_,_,_,_,_,_,h,_,_,_,_=>by simp at h
 |_::_,[],_,_,_,_,_,_,_,_,h,_,_,_,_=>by simp at h
 |k::ks,r::rs,n,xs,vs,x3,x4,x5,x6,rest,hl,hg,nd,hd,hc=>by
  have g:=hg 0 r k rfl rfl
  rw[List.map_cons]at nd
  have nk:S k∉xs:=fun z=>(List.nodup_append.mp nd).2.2 _ z _ List.mem_cons_self rfl
  rw[List.length_cons]at hc
  obtain⟨d,y5,y6,e⟩:=Zqo A B g (n:Int) xs vs nk hd (by omega) x5 x6
  have ea:xs++S k::ks.map S=xs++[S k]++ks.map S:=by simp
  obtain⟨vs',z3,z4,z5,z6,l',ih⟩:=Zf8 ks rs (n+1) (xs++[S k]) (vs++[d]) (some (.fz (.int (n:Int)))) (some (.fz (.str (S r)))) y5 y6 rest (by simpa using hl) (fun i r' k' hr hk=>hg (i+1) r' k' hr hk) (by rw[←ea];exact nd) (by simp[hd]) (by rw[List.length_append,List.length_singleton];omega)
  refine⟨vs',z3,z4,z5,z6,by rw[l',List.length_append,List.length_singleton,List.length_cons];omega,?_⟩
  have run:(Zcm 2 (Zaa (Zn 3) (Zaa (Zn 4) (Zcq)))).run (.tup [.int (n:Int),.str (S r)]) [A,some (.oK (inrs xs) vs),B,x3,x4,x5,x6]=some [A,some (.oK (inrs xs) vs),B,some (.fz (.int (n:Int))),some (.fz (.str (S r))),x5,x6]:=by simp
  rw[List.map_cons,List.zipIdx_cons,List.map_cons,List.cons_append,List.map_cons,ea]
  exact(Za0 run e).trans ih
end
end My
namespace My
open DL PySem
theorem nl_S:Str.ofString "\n"=S [10]:=by decide+kernel
theorem Zng(rs:List (List Nat))(h0:rs≠[])(h:∀r∈rs,10∉r):Txt.split (S (jl [10] rs)) (S [10])=rs.map S:=
 Zm9 _ _ (by decide) (by decide+kernel) rs (by rw[Zbh];exact Zef rs h0 h) (by rw[Zbh,Zbh])
noncomputable abbrev Zek(rs:List (List Nat)):List D:=rs.map fun r=>D.str (S r)
structure Txt1(rs:List (List Nat)):Prop where
 ne:rs≠[]
 no:∀r∈rs,10∉r
 tx:jl [10] rs≠[]
 len:(jl [10] rs).length≤100000
 few:rs.length≤1000
theorem Zqp{rs:List (List Nat)}(h:Txt1 rs){X:XO}{A B:Option SV}(hA:A=some (.fz (.str (S (jl [10] rs)))))(hB:B=some (.fz (.lst (Zek rs))))(hg:(∃v y3 y4 y5 y6,X= .v v∧(∃ks vs,v= .oK ks vs)∧forD (Zcm 2 (Zaa (Zn 3) (Zaa (Zn 4) (Zcq)))) Gen.Z1 (Zde (Zek rs)) [A,some (.oK (inrs []) []),B,none,none,none,none]=some (.nx [A,some v,B,y3,y4,y5,y6]))∨
  (∃e δ,X= .x e∧forD (Zcm 2 (Zaa (Zn 3) (Zaa (Zn 4) (Zcq)))) Gen.Z1 (Zde (Zek rs)) [A,some (.oK (inrs []) []),B,none,none,none,none]=some (.ex e δ))):Gen.Zx [.str (S (jl [10] rs))]=some X:=by
 have sp:=Zng rs h.ne h.no
 have hne:¬S (jl [10] rs)=S []:=S_ne h.tx
 have he:Str.ofString ""=S []:=rfl
 have z:(jl [10] rs).length≤PySem.sizeLine:=Zq (by have:=h.len;omega)
 have h0:¬(S [10]).length=0:=by decide+kernel
 have zr:(rs.map S).length≤PySem.sizeLine:=Zq (by rw[List.length_map];have:=h.few;omega)
 have mm:(rs.map S).map D.str=Zek rs:=by rw[List.map_map];rfl
 have e0:(inrs []:List L2.Key)=[]:=rfl
 rw[e0]at hg
 rw[hA,hB]at hg
 rw[←mm]at hg
 generalize rs.map S=W at*
 generalize jl [10] rs=T at*
 rcases hg with⟨v,y3,y4,y5,y6,rfl,⟨ks,vs,rfl⟩,e⟩|⟨x,δ,rfl,e⟩
 ·unfold Gen.Zx Gen.Zbp
  simp[-forD,-List.map_map,Zai,z,he,hne,nl_S,h0,sp,zr,e]
 ·unfold Gen.Zx Gen.Zbp
  simp[-forD,-List.map_map,Zai,z,he,hne,nl_S,h0,sp,zr,e]
theorem Zqq{ks rs:List (List Nat)}(h:Txt1 rs)(hl:rs.length=ks.length)(hg:∀(i:Nat) (r k:List Nat),rs[i]? =some r→ks[i]? =some k→GR r k)(nd:(ks.map S).Nodup)(hc:ks.length≤400):∃vs,vs.length=ks.length∧Gen.Zx [.str (S (jl [10] rs))]=some (.v (.oK (inrs (ks.map S)) vs)):=by
 obtain⟨vs,y3,y4,y5,y6,l,e⟩:=Zf8 (some (.fz (.str (S (jl [10] rs))))) (some (.fz (.lst (Zek rs)))) ks rs 1 [] [] none none none none [] hl hg (by simpa using nd) rfl (by simpa using hc)
 rw[List.append_nil,List.nil_append]at e
 exact⟨vs,by simpa using l,Zqp h rfl rfl (.inl ⟨_,y3,y4,y5,y6,rfl,⟨_,_,rfl⟩,e⟩)⟩
theorem Zmb{ks p:List (List Nat)}{r:List Nat}{q:List (List Nat)}(h:Txt1 (p++r::q))(hl:p.length=ks.length)(hg:∀(i:Nat) (r k:List Nat),p[i]? =some r→ks[i]? =some k→GR r k)(nd:(ks.map S).Nodup)(hc:ks.length≤400)(ha:Asc r)(hr:r.length≤800)(hb:BadR r∨∃k,GR r k∧k∈ks):Gen.Zx [.str (S (jl [10] (p++r::q)))]=some (.x (NL ((p.length+1:Nat):Int))):=by
 generalize hA:(some (.fz (.str (S (jl [10] (p++r::q))))):Option SV)=A
 generalize hB:(some (.fz (.lst (Zek (p++r::q)))):Option SV)=B
 obtain⟨vs,y3,y4,y5,y6,l,e⟩:=Zf8 A B ks p 1 [] [] none none none none (((Zek (r::q)).zipIdx (1+p.length)).map fun x=>D.tup [.int (x.2:Nat),x.1]) hl hg (by simpa using nd) rfl (by simpa using hc)
 have en:Zde (Zek (p++r::q))=((Zek p).zipIdx 1).map (fun x=>D.tup [.int (x.2:Nat),x.1])++(((Zek (r::q)).zipIdx (1+p.length)).map fun x=>D.tup [.int (x.2:Nat),x.1]):=by
  unfold Zde Zek
  rw[List.map_append,List.zipIdx_append,List.map_append,List.length_map]
 rw[←en,List.nil_append]at e
 have hd:Dic (ks.map S) vs:=⟨nd,by simp at l;simp[l]⟩
 obtain⟨δ,eb⟩:=Zs9 A B ha hr ((1+p.length:Nat):Int) (ks.map S) vs hd (by
  rcases hb with z|⟨k,z1,z2⟩
  ·exact .inl z
  ·exact .inr ⟨k,z1,List.mem_map.mpr ⟨k,z2,rfl⟩⟩) y5 y6
 have run:(Zcm 2 (Zaa (Zn 3) (Zaa (Zn 4) (Zcq)))).run (.tup [.int ((1+p.length:Nat):Int),.str (S r)]) [A,some (.oK (inrs (ks.map S)) vs),B,y3,y4,y5,y6]=some [A,some (.oK (inrs (ks.map S)) vs),B,some (.fz (.int ((1+p.length:Nat):Int))),some (.fz (.str (S r))),y5,y6]:=by
  generalize ((1+p.length:Nat):Int)=N
  simp
 have er:Zek (r::q)= .str (S r)::Zek q:=rfl
 rw[er,List.zipIdx_cons,List.map_cons,Zwz run eb,Nat.add_comm 1 p.length]at e
 exact Zqp h hA.symm hB.symm (.inr ⟨_,δ,rfl,e⟩)
noncomputable abbrev REF(n:Int):D:=.tup [.str "refused",.int n,.bl true]
theorem Zgr{d:D}{n:Int}(h:Gen.Zx [d]=some (.x (NL n))):Gen.Zu [d]=some (.fz (REF n)):=by
 unfold Gen.Zu Gen.Zc7 Gen.Zer
 simp[h,z3]
theorem Zky(d:D)(h:d.pyTy≠"str")(hx:d.isExc=false):Gen.Zx [d]=some (.x (NL 1)):=by
 have h':(d.pyTy=="str")=false:=by simpa using h
 unfold Gen.Zx Gen.Zbp
 cases d<;> first| (exfalso;exact h rfl)| (exfalso;cases hx;done)|simp
end My
namespace My
open DL PySem
noncomputable def addS(p:List Nat):List (List Nat)→List Nat→List Nat×List (List Nat)
 | [],s=>(p++s,[])
 |r::rs,s=>(p,(addS r rs s).1::(addS r rs s).2)
theorem Zhv:∀s:List Nat,60∉s→sp s=(s,[])
 | [],_=>rfl
 |c::s,h=>by
  have n:¬c=60:=fun z=>h (by rw[z];exact List.mem_cons_self)
  rw[sp,if_neg n,Zhv s fun z=>h (List.mem_cons_of_mem _ z)]
theorem Zqr(c:Nat)(p:List Nat)(rs:List (List Nat))(s:List Nat):addS (c::p) rs s=(c::(addS p rs s).1,(addS p rs s).2):=by
 cases rs<;> rfl
theorem Zkz(s:List Nat)(h:60∉s):∀t:List Nat,sp (t++s)=addS (sp t).1 (sp t).2 s
 | []=>by
  show sp s=([]++s,[])
  rw[Zhv s h];rfl
 |c::t=>by
  have ih:=Zkz s h t
  show sp (c::(t++s))=_
  by_cases e:c=60
  ·rw[sp,if_pos e,ih]
   rw[sp,if_pos e];rfl
  ·rw[sp,if_neg e,ih]
   rw[sp,if_neg e]
   exact(Zqr c _ _ s).symm
theorem Zel(r:List Nat)(h:60∉r):∀t:List Nat,sp (t++60::r)=((sp t).1,(sp t).2++[r])
 | []=>by
  show sp (60::r)=([],[r])
  rw[sp,if_pos rfl,Zhv r h]
 |c::t=>by
  have ih:=Zel r h t
  show sp (c::(t++60::r))=_
  by_cases e:c=60
  ·rw[sp,if_pos e,ih]
   rw[sp,if_pos e];rfl
  ·rw[sp,if_neg e,ih]
   rw[sp,if_neg e]
theorem Ze4(p:List Nat)(rs:List (List Nat))(s:List Nat):(addS p rs s).1=p∨(addS p rs s).1=p++s:=by
 cases rs with
 |nil=>exact .inr rfl
 |cons r rs=>exact .inl rfl
theorem Ze5(s:List Nat):∀(rs:List (List Nat)) (p:List Nat) (i:Nat) (r:List Nat),rs[i]? =some r→∃r',(addS p rs s).2[i]? =some r'∧(r'=r∨r'=r++s)
 | [],_,_,_,h=>by simp at h
 |q::rs,p,0,r,h=>by
  cases h
  exact⟨(addS q rs s).1,rfl,Ze4 q rs s⟩
 |q::rs,p,i+1,r,h=>Ze5 s rs q i r h
theorem Zjk(s:List Nat):∀(rs:List (List Nat)) (p:List Nat),∀r'∈(addS p rs s).2,∃r∈rs,r'=r∨r'=r++s
 | [],_,_,h=>nomatch h
 |q::rs,p,r',h=>by
  have h:r'∈(addS q rs s).1::(addS q rs s).2:=h
  rcases List.mem_cons.mp h with z|z
  ·refine⟨q,List.mem_cons_self,?_⟩
   rw[z];exact Ze4 q rs s
  ·obtain⟨r,hr,e⟩:=Zjk s rs q r' z
   exact⟨r,List.mem_cons_of_mem _ hr,e⟩
theorem Zmc{c:Nat}(s:List Nat):∀{l r:List Nat},(cutC c l).2=some r→cutC c (l++s)=((cutC c l).1,some (r++s))
 | [],r,h=>by simp[cutC]at h
 |x::l,r,h=>by
  show cutC c (x::(l++s))=_
  unfold cutC at h⊢
  by_cases e:x=c
  ·rw[if_pos e]at h⊢
   rw[if_pos e]
   cases h;rfl
  ·rw[if_neg e]at h⊢
   rw[if_neg e]
   have:=Zmc s (l:=l) (r:=r) h
   dsimp only
   rw[this]
theorem Zhw{c:Nat}:∀{l:List Nat},c∉l→cutC c l=(l,none)
 | [],_=>rfl
 |x::l,h=>by
  have n:¬x=c:=fun z=>h (by rw[z];exact List.mem_cons_self)
  unfold cutC
  rw[if_neg n,Zhw fun z=>h (List.mem_cons_of_mem _ z)]
theorem Zhx{c:Nat}(r:List Nat):∀{l:List Nat},c∉l→cutC c (l++c::r)=(l,some r)
 | [],_=>by show cutC c (c::r)=_;unfold cutC;rw[if_pos rfl]
 |x::l,h=>by
  have n:¬x=c:=fun z=>h (by rw[z];exact List.mem_cons_self)
  show cutC c (x::(l++c::r))=_
  unfold cutC
  rw[if_neg n,Zhx r fun z=>h (List.mem_cons_of_mem _ z)]
theorem Zmd{l:List Nat}(s:List Nat)(h:gtB l=true):gtB (l++s)=true∧hdS (l++s)=hdS l∧tlS (l++s)=tlS l++s:=by
 unfold gtB at h
 cases ho:(cutC 62 l).2 with
 |none=>rw[ho]at h;cases h
 |some r=>
  have:=Zmc s ho
  unfold gtB hdS tlS
  rw[this,ho]
  exact⟨rfl,rfl,rfl⟩
theorem Z0x{l:List Nat}(h:gtB l=false):62∉l:=by
 have e:=Zhr 62 l
 have n:=Zhq 62 l
 unfold gtB at h
 cases ho:(cutC 62 l).2 with
 |some r=>rw[ho]at h;cases h
 |none=>
  rw[ho]at e
  dsimp only at e
  rw[List.append_nil]at e
  rw[e];exact n
theorem Zw2{l s:List Nat}(h:gtB l=false)(hs:62∉s):gtB (l++s)=false:=by
 unfold gtB
 rw[Zhw fun z=>(List.mem_append.mp z).elim (Z0x h) hs];rfl
noncomputable def bdR(r:List Nat):Bool:=!(gtB r)|| !((tlS r).all sts)|| !(mkB (nmOf (hdS r)) (txOf (hdS r)))
noncomputable def Bd(x:List Nat×List (List Nat)):Prop:=x.1.all sts=false∨(∃(i:Nat) (r:List Nat),x.2[i]? =some r∧bdR r=true)∨∃(i j:Nat) (r1 r2:List Nat),i<j∧x.2[i]? =some r1∧x.2[j]? =some r2∧gtB r1=true∧gtB r2=true∧nmOf (hdS r1)=nmOf (hdS r2)∧txOf (hdS r1)≠txOf (hdS r2)
theorem Zw3{r s:List Nat}(hs:62∉s)(h:bdR r=true):bdR (r++s)=true:=by
 unfold bdR at h⊢
 cases hg:gtB r with
 |false=>rw[Zw2 hg hs];rfl
 |true=>
  obtain⟨a1,a2,a3⟩:=Zmd s hg
  rw[a1,a2,a3]
  rw[hg]at h
  rw[List.all_append]
  cases hb:(tlS r).all sts with
  |false=>simp
  |true=>rw[hb]at h;simp at h;simp[h]
theorem Bd.add{x:List Nat×List (List Nat)}(h:Bd x){s:List Nat}(hs:62∉s):Bd (addS x.1 x.2 s):=by
 rcases h with h|⟨i,r,hr,hb⟩|⟨i,j,r1,r2,hij,h1,h2,g1,g2,hn,ht⟩
 ·refine .inl ?_
  rcases Ze4 x.1 x.2 s with z|z
  ·rw[z];exact h
  ·rw[z,List.all_append,h];rfl
 ·obtain⟨r',hr',e⟩:=Ze5 s x.2 x.1 i r hr
  refine .inr (.inl ⟨i,r',hr',?_⟩)
  rcases e with e|e
  ·rw[e];exact hb
  ·rw[e];exact Zw3 hs hb
 ·obtain⟨r1',q1,e1⟩:=Ze5 s x.2 x.1 i r1 h1
  obtain⟨r2',q2,e2⟩:=Ze5 s x.2 x.1 j r2 h2
  have k1:gtB r1'=true∧hdS r1'=hdS r1:=by
   rcases e1 with e|e
   ·rw[e];exact⟨g1,rfl⟩
   ·rw[e];have:=Zmd s g1;exact⟨this.1,this.2.1⟩
  have k2:gtB r2'=true∧hdS r2'=hdS r2:=by
   rcases e2 with e|e
   ·rw[e];exact⟨g2,rfl⟩
   ·rw[e];have:=Zmd s g2;exact⟨this.1,this.2.1⟩
  exact .inr (.inr ⟨i,j,r1',r2',hij,q1,q2,k1.1,k2.1,by rw[k1.2,k2.2];exact hn,by rw[k1.2,k2.2];exact ht⟩)
theorem Zk0{α:Type}{l:List α}{i:Nat}{a:α}(m:List α)(h:l[i]? =some a):(l++m)[i]? =some a:=by
 rw[List.getElem?_append_left (List.getElem?_eq_some_iff.mp h).1];exact h
theorem Bd.more{x:List Nat×List (List Nat)}(h:Bd x)(m:List (List Nat)):Bd (x.1,x.2++m):=by
 rcases h with h|⟨i,r,hr,hb⟩|⟨i,j,r1,r2,hij,h1,h2,k⟩
 ·exact .inl h
 ·exact .inr (.inl ⟨i,r,Zk0 m hr,hb⟩)
 ·exact .inr (.inr ⟨i,j,r1,r2,hij,Zk0 m h1,Zk0 m h2,k⟩)
theorem Zjl{α:Type}:∀{l:List α} {i j:Nat} {a b:α},i<j→l[i]? =some a→l[j]? =some b→∃p q r,l=p++a::(q++b::r)
 | [],_,_,_,_,_,h,_=>by simp at h
 |x::l,0,j+1,a,b,_,h1,h2=>by
  cases h1
  obtain⟨q,r,e⟩:=List.append_of_mem (List.mem_of_getElem? (l:=l) (i:=j) h2)
  exact⟨[],q,r,by rw[e];rfl⟩
 |x::l,i+1,j+1,a,b,h,h1,h2=>by
  obtain⟨p,q,r,e⟩:=Zjl (l:=l) (i:=i) (j:=j) (by omega) h1 h2
  exact⟨x::p,q,r,by rw[e];rfl⟩
theorem Bd.body{t:List Nat}(h:Bd (sp t)):okA t=false∨Tro (mks t):=by
 cases ho:okA t with
 |false=>exact .inl rfl
 |true=>
  refine .inr ?_
  unfold okA at ho
  rw[Bool.and_eq_true]at ho
  obtain⟨o1,o2⟩:=ho
  have o3:=List.all_eq_true.mp o2
  rcases h with h|⟨i,r,hr,hb⟩|⟨i,j,r1,r2,hij,h1,h2,_,_,hn,ht⟩
  ·rw[o3 _ List.mem_cons_self]at h;cases h
  ·have hm:=List.mem_of_getElem? hr
   have g:=List.all_eq_true.mp o1 r hm
   have tl:=o3 (tlS r) (List.mem_cons_of_mem _ (List.mem_map.mpr ⟨r,hm,rfl⟩))
   unfold bdR at hb
   rw[g,tl]at hb
   refine .inl ⟨hdS r,List.mem_map.mpr ⟨r,hm,rfl⟩,?_⟩
   simpa using hb
  ·obtain⟨p,q,r,e⟩:=Zjl hij h1 h2
   refine .inr ⟨p.map hdS,hdS r1,q.map hdS,hdS r2,r.map hdS,?_,hn,ht⟩
   unfold mks
   rw[e];simp
structure GdB(G:List Nat→List Nat)(t:List Nat):Prop where
 r0:(sp t).1.all sts=true
 rs:∀r∈(sp t).2,gtB r=true∧(tlS r).all sts=true∧mkB (nmOf (hdS r)) (txOf (hdS r))=true∧txOf (hdS r)=G (nmOf (hdS r))
theorem GdB.nil(G:List Nat→List Nat):GdB G []:=⟨rfl,fun _ h=>nomatch h⟩
theorem GdB.add{G:List Nat→List Nat}{t s:List Nat}(h:GdB G t)(h60:60∉s)(hs:s.all sts=true):GdB G (t++s):=by
 have e:=Zkz s h60 t
 refine⟨?_,fun r hr=>?_⟩
 ·rw[e]
  rcases Ze4 (sp t).1 (sp t).2 s with z|z
  ·rw[z];exact h.r0
  ·rw[z,List.all_append,h.r0,hs];rfl
 ·rw[e]at hr
  obtain⟨q,hq,z⟩:=Zjk s (sp t).2 (sp t).1 r hr
  obtain⟨a1,a2,a3,a4⟩:=h.rs q hq
  rcases z with z|z
  ·rw[z];exact⟨a1,a2,a3,a4⟩
  ·obtain⟨b1,b2,b3⟩:=Zmd s a1
   rw[z,b2,b3]
   exact⟨b1,by rw[List.all_append,a2,hs];rfl,a3,a4⟩
theorem GdB.mark{G:List Nat→List Nat}{t r:List Nat}(h:GdB G t)(h60:60∉r)(hr:gtB r=true∧(tlS r).all sts=true∧mkB (nmOf (hdS r)) (txOf (hdS r))=true∧txOf (hdS r)=G (nmOf (hdS r))):GdB G (t++60::r):=by
 have e:=Zel r h60 t
 refine⟨by rw[e];exact h.r0,fun q hq=>?_⟩
 rw[e]at hq
 rcases List.mem_append.mp hq with z|z
 ·exact h.rs q z
 ·rw[List.mem_singleton.mp z];exact hr
theorem GdB.ok{G:List Nat→List Nat}{t:List Nat}(h:GdB G t):okA t=true∧∀m∈mks t,mkB (nmOf m) (txOf m)=true∧txOf m=G (nmOf m):=by
 refine⟨?_,fun m hm=>?_⟩
 ·unfold okA
  rw[Bool.and_eq_true]
  refine⟨List.all_eq_true.mpr fun r hr=>(h.rs r hr).1,List.all_eq_true.mpr fun l hl=>?_⟩
  rcases List.mem_cons.mp hl with z|z
  ·rw[z];exact h.r0
  ·obtain⟨r,hr,rfl⟩:=List.mem_map.mp z
   exact(h.rs r hr).2.1
 ·obtain⟨r,hr,rfl⟩:=List.mem_map.mp hm
  exact⟨(h.rs r hr).2.2.1,(h.rs r hr).2.2.2⟩
theorem Zjm{a b c:List Nat}(ha:32∉a)(hb:32∉b):Z4 (a++32::(b++32::c))=[a,b,c]:=by
 unfold Z4
 rw[Zhu 32 _ a ha,Zhu 32 _ b hb]
 obtain⟨h0,_,h2⟩:=Zd2 32 c
 cases hs:spl 32 c with
 |nil=>exact absurd hs h0
 |cons p r=>
  rw[hs]at h2
  show[a,b,jl [32] (p::r)]=_
  rw[h2]
theorem Z0y{a b:List Nat}(ha:32∉a)(hb:32∉b):Z4 (a++32::b)=[a,b]:=by
 unfold Z4
 rw[Zhu 32 _ a ha,Zht 32 b hb];rfl
theorem Zud{a:List Nat}(ha:32∉a):Z4 a=[a]:=by
 unfold Z4
 rw[Zht 32 a ha];rfl
end My
namespace My
open DL PySem
class Sm (s:Str) (n:outParam Nat):Prop where
 le:s.length≤n
instance:Sm (Str.ofString "<") 20:=⟨by decide+kernel⟩
instance:Sm (Str.ofString "=ab") 20:=⟨by decide+kernel⟩
instance:Sm (Str.ofString ">") 20:=⟨by decide+kernel⟩
instance:Sm (Str.ofString "X=ab>") 20:=⟨by decide+kernel⟩
instance:Sm (Str.ofString "=>") 20:=⟨by decide+kernel⟩
instance:Sm (Str.ofString "=") 20:=⟨by decide+kernel⟩
instance:Sm (Str.ofString "=a:b>") 20:=⟨by decide+kernel⟩
instance:Sm (Str.ofString "=a<b>") 20:=⟨by decide+kernel⟩
instance:Sm (Str.ofString "=a\tb>") 20:=⟨by decide+kernel⟩
instance:Sm (Str.ofString "=ab>") 20:=⟨by decide+kernel⟩
instance:Sm (Str.ofString "=Ab>") 20:=⟨by decide+kernel⟩
instance:Sm (Str.ofString " =ab>") 20:=⟨by decide+kernel⟩
instance:Sm (Str.ofString "< ") 20:=⟨by decide+kernel⟩
instance:Sm (Str.ofString "=ab>.") 20:=⟨by decide+kernel⟩
instance:Sm (Str.ofString "=ab >") 20:=⟨by decide+kernel⟩
instance:Sm (Str.ofString "A") 20:=⟨by decide+kernel⟩
instance:Sm (Str.ofString "abcdefgh") 20:=⟨by decide+kernel⟩
instance:Sm (Str.ofString "1") 20:=⟨by decide+kernel⟩
instance:Sm (Str.ofString "_") 20:=⟨by decide+kernel⟩
instance:Sm (Str.ofString " ") 20:=⟨by decide+kernel⟩
instance:Sm (Str.ofString "-") 20:=⟨by decide+kernel⟩
instance:Sm (Str.ofString "  ") 20:=⟨by decide+kernel⟩
instance:Sm (Str.ofString " a") 20:=⟨by decide+kernel⟩
instance:Sm (Str.ofString "b") 20:=⟨by decide+kernel⟩
instance:Sm (Str.ofString "") 20:=⟨by decide+kernel⟩
instance:Sm (Str.ofString "book") 20:=⟨by decide+kernel⟩
instance:Sm (Str.ofString ": ") 20:=⟨by decide+kernel⟩
instance:Sm (Str.ofString " (") 20:=⟨by decide+kernel⟩
instance:Sm (Str.ofString "= ") 20:=⟨by decide+kernel⟩
instance:Sm (Str.ofString "=So it's ") 20:=⟨by decide+kernel⟩
instance:Sm (Str.ofString "1: ") 20:=⟨by decide+kernel⟩
instance:Sm (Str.ofString "\n") 20:=⟨by decide+kernel⟩
instance smApp {x y:Str} {m n:Nat} [a:Sm x m] [b:Sm y n]:Sm (x++y) (m+n):=⟨by rw[Zkl];have:=a.le;have:=b.le;omega⟩
theorem Zd3(x y:Str){m n:Nat}[a:Sm x m][b:Sm y n](h:m+n≤16777216):addD (.str x) (.str y)=some (.fz (.str (x++y))):=by
 show(if _ then _ else _)=_
 rw[if_pos (Zq (by have:=a.le;have:=b.le;omega))]
theorem Zd4(x y:Int):addD (.int x) (.int y)=some (.fz (.int (x+y))):=rfl
theorem Zd5(x y:List D):addD (.lst x) (.lst y)=if x.length+y.length≤PySem.sizeLine then some (.ol (x++y))else none:=rfl
noncomputable def A81:Str:=S (List.replicate 81 97)
instance:Sm A81 100:=⟨by unfold A81;rw[Zai,List.length_replicate];decide⟩
theorem Z36:mulS (Str.ofString "a") 81=some (.fz (.str A81)):=by
 rw[Zwb (by unfold MulOk;decide+kernel)]
 have:Txt.mul (Str.ofString "a") 81=A81:=by decide+kernel
 rw[this]
noncomputable abbrev L18(N:Str):List Str:=["<"++N++ "=ab","<"++N++ ">","<note=ab>","<kind=ab>","<=ab>","<"++N++ "X=ab>","<"++N++ "=>",
 "<"++N++ "="++A81++ ">","<"++N++ "=a:b>","<"++N++ "=a<b>","<"++N++ "=a\tb>",">",
 "<"++N++ "=ab>"++("<"++N)++ "=Ab>","<"++N++ " =ab>","< "++N++ "=ab>","<abcdefghi=ab>","<>","<"++N++ "=ab>."++("<"++N)++ "=ab >"]
theorem Zta(N:Str)[Sm N 8](c:Int)(M:Str)(h:L2.atI ((L18 N).map D.str) (c % 18)=some (.str M)):Gen.Zbq [.str N,.int c]=some (.fz (.str M)):=by
 have y1:1≤PySem.sizeLine:=Zq (by decide)
 have y5:5≤PySem.sizeLine:=Zq (by decide)
 have y7:7≤PySem.sizeLine:=Zq (by decide)
 have y12:12≤PySem.sizeLine:=Zq (by decide)
 have y17:17≤PySem.sizeLine:=Zq (by decide)
 have y18:18≤PySem.sizeLine:=Zq (by decide)
 simp only[L18,List.map_cons,List.map_nil]at h
 have m81:=Z36
 unfold Gen.Zbq Gen.Zdq
 simp[-addD,Zd3,Zd4,Zd5,m81,y1,y5,y7,y12,y17,y18,h]
noncomputable abbrev BK:Str:="book"
section
variable(K T1 Ab N X:Str)[Sm K 8][Sm T1 8][Sm Ab 8][Sm N 8][Sm X 40](c:Int)
noncomputable abbrev P5:List Str:=[T1++ "A","",K++ "abcdefgh",K++ "1","_"++T1]
theorem Z0z(zk:K.length≤PySem.sizeLine)(sl:Txt.slice K (some 1) none=T1)(h:c % 12=0)(e:L2.atI ((P5 K T1).map D.str) (c / 16 % 5)=some (.str X)):Gen.Zo [.str K,.str BK,.str Ab,.str N,.int c]=some (.fz (.str (X++ " "++BK++ " "))):=by
 have y5:5≤PySem.sizeLine:=Zq (by decide)
 simp only[P5,List.map_cons,List.map_nil]at e
 unfold Gen.Zo Gen.Zad
 simp[-addD,Zd3,Zd4,Zd5,y5,zk,sl,h,e]
noncomputable abbrev P4:List Str:=[Str.ofString "ook"++ "A","",BK++ "abcdefgh",BK++ "-"]
instance:Sm (Str.ofString "ook") 20:=⟨by decide+kernel⟩
theorem Z00(h:c % 12=1)(e:L2.atI (P4.map D.str) (c / 16 % 4)=some (.str X)):Gen.Zo [.str K,.str BK,.str Ab,.str N,.int c]=some (.fz (.str (K++ " "++X++ " "))):=by
 have y4:4≤PySem.sizeLine:=Zq (by decide)
 have zb:BK.length≤PySem.sizeLine:=Zq (by decide+kernel)
 have sl:Txt.slice BK (some 1) none=Str.ofString "ook":=by decide+kernel
 simp only[P4,List.map_cons,List.map_nil]at e
 unfold Gen.Zo Gen.Zad
 simp[-addD,Zd3,Zd4,Zd5,y4,zb,sl,h,e]
noncomputable abbrev P6:List Str:=[K++ " "++BK,K,"",K++BK,K++ "  "++BK++ " "," "++K++ " "++BK++ " "]
theorem Z01(h:c % 12=2)(e:L2.atI ((P6 K).map D.str) (c / 16 % 6)=some (.str X)):Gen.Zo [.str K,.str BK,.str Ab,.str N,.int c]=some (.fz (.str X)):=by
 have y6:6≤PySem.sizeLine:=Zq (by decide)
 simp only[P6,List.map_cons,List.map_nil]at e
 unfold Gen.Zo Gen.Zad
 simp[-addD,Zd3,Zd4,Zd5,y6,h,e]
theorem Z02(h:c % 12=3):Gen.Zo [.str K,.str BK,.str Ab,.str N,.int c]=some (.fz (.str (Ab++ " "++BK++ " "))):=by
 unfold Gen.Zo Gen.Zad
 simp[-addD,Zd3,Zd4,Zd5,h]
noncomputable abbrev P8:List Str:=["\t","^","{","[","\"","_","#","|"]
theorem Z03(h:c % 12=4)(e:L2.atI (P8.map D.str) (c / 16 % 8)=some (.str X)):Gen.Zo [.str K,.str BK,.str Ab,.str N,.int c]=some (.fz (.str (K++ " "++BK++ " a"++X++ "b"))):=by
 have y8:8≤PySem.sizeLine:=Zq (by decide)
 simp only[P8,List.map_cons,List.map_nil]at e
 unfold Gen.Zo Gen.Zad
 simp[-addD,Zd3,Zd4,Zd5,y8,h,e]
noncomputable abbrev PA:List Str:=["","<"++N++ "=ab>"," (","1: "]
noncomputable abbrev PT:List Str:=[""," ","<"++N++ "=ab>"]
theorem Z04(M T:Str)[Sm M 200][Sm T 40](h0:¬c % 12=0)(h1:¬c % 12=1)(h2:¬c % 12=2)(h3:¬c % 12=3)(h4:¬c % 12=4)(e1:L2.atI ((PA N).map D.str) (c / 16 % 4)=some (.str X))(e2:L2.atI ((L18 N).map D.str) (c / 16 / 4 % 18)=some (.str M))(e3:L2.atI ((PT N).map D.str) (c / 16 / 128 % 3)=some (.str T)):
  Gen.Zo [.str K,.str BK,.str Ab,.str N,.int c]=some (.fz (.str (K++ " "++BK++ " "++X++M++T))):=by
 have lm:=Zta N (c / 16 / 4) M e2
 have y4:4≤PySem.sizeLine:=Zq (by decide)
 have y3:3≤PySem.sizeLine:=Zq (by decide)
 simp only[PA,List.map_cons,List.map_nil]at e1
 simp only[PT,List.map_cons,List.map_nil]at e3
 unfold Gen.Zo Gen.Zad
 simp[-addD,Zd3,Zd4,Zd5,y4,y3,h0,h1,h2,h3,h4,e1,lm,e3]
end
end My
namespace My
open DL PySem
theorem Nm.no{w:List Nat}(h:Nm w)(c:Nat)(hc:c<97∨122<c∨c=105∨c=107∨c=110∨c=111):c∉w:=fun z=>by
 have:=h.is c z;omega
theorem Nm.asc{w:List Nat}(h:Nm w):Asc w:=fun c z=>by have:=h.is c z;omega
theorem Zue{c:Nat}(h1:97≤c)(h2:c≤122):abc c=true:=by
 unfold abc;rw[Nat.ble_eq_true_of_le h1,Nat.ble_eq_true_of_le h2];rfl
theorem Nm.abc{w:List Nat}(h:Nm w):w.all abc=true:=List.all_eq_true.mpr fun c z=>Zue (h.is c z).1 (h.is c z).2.1
theorem Nm.name{w:List Nat}(h:Nm w):Zbm w=true:=by
 unfold Zbm;rw[decide_eq_true ⟨h.one,h.most⟩,h.abc];rfl
theorem Nm.not{w:List Nat}(h:Nm w):(w==Zet||w==Zeu)=false:=by
 have h1:w≠Zet:=fun z=>h.no 110 (by omega) (by rw[z];decide)
 have h2:w≠Zeu:=fun z=>h.no 107 (by omega) (by rw[z];decide)
 rw[beq_eq_false_iff_ne.mpr h1,beq_eq_false_iff_ne.mpr h2];rfl
theorem Zw4{c:Nat}(h:My.abc c=true):pls c=true:=by
 unfold pls;rw[h];simp
theorem Nm.pls{w:List Nat}(h:Nm w):w.all pls=true:=List.all_eq_true.mpr fun c z=>Zw4 (Zue (h.is c z).1 (h.is c z).2.1)
theorem Zf9{nm tx tl:List Nat}(h1:62∉nm)(h2:62∉tx)(h3:61∉nm):gtB (nm++61::(tx++62::tl))=true∧hdS (nm++61::(tx++62::tl))=nm++61::tx∧tlS (nm++61::(tx++62::tl))=tl∧nmOf (nm++61::tx)=nm∧txOf (nm++61::tx)=tx:=by
 have e:nm++61::(tx++62::tl)=(nm++61::tx)++62::tl:=by simp
 have n:62∉nm++61::tx:=fun z=>by
  rcases List.mem_append.mp z with z|z
  ·exact h1 z
  rcases List.mem_cons.mp z with z|z
  ·exact absurd z (by decide)
  ·exact h2 z
 have c:=Zhx (c:=62) tl n
 have d:=Zhx (c:=61) tx h3
 unfold gtB hdS tlS nmOf txOf
 rw[e,c,d]
 exact⟨rfl,rfl,rfl,rfl,rfl⟩
theorem Zw5{nm tl:List Nat}(h1:62∉nm)(h3:61∉nm):gtB (nm++62::tl)=true∧hdS (nm++62::tl)=nm∧tlS (nm++62::tl)=tl∧nmOf nm=nm∧txOf nm=[]:=by
 have c:=Zhx (c:=62) tl h1
 have d:=Zhw (c:=61) h3
 unfold gtB hdS tlS nmOf txOf
 rw[c,d]
 exact⟨rfl,rfl,rfl,rfl,rfl⟩
noncomputable abbrev SOL:List Nat:=[83,111,32,105,116,39,115,32]
theorem Zw6:∀c∈SOL,c<128:=by decide
noncomputable def SOG(n:List Nat):List Nat:=SOL++n
noncomputable abbrev soR(n:List Nat):List Nat:=n++61::(SOG n++62::[])
theorem Ztb{n:List Nat}(h:Nm n):Zd1 (SOG n)=true:=by
 unfold Zd1 SOG
 rw[List.all_append,h.pls,decide_eq_true (by have:=h.one;have:=h.most;rw[List.length_append];simp;omega)]
 decide
theorem Z05{n:List Nat}(h:Nm n)(c:Nat)(hc:c=60∨c=62∨c=10):c∉SOG n:=fun z=>by
 unfold SOG at z
 rcases List.mem_append.mp z with z|z
 ·rcases hc with e|e|e<;> rw[e]at z<;> exact absurd z (by decide)
 ·exact h.no c (by omega) z
theorem Z06{n:List Nat}(h:Nm n):60∉soR n∧10∉soR n∧Asc (soR n)∧(soR n).length≤30∧(gtB (soR n)=true∧(tlS (soR n)).all sts=true∧mkB (nmOf (hdS (soR n))) (txOf (hdS (soR n)))=true∧txOf (hdS (soR n))=SOG (nmOf (hdS (soR n)))):=by
 obtain⟨a1,a2,a3,a4,a5⟩:=Zf9 (nm:=n) (tx:=SOG n) (tl:=[]) (h.no 62 (by omega)) (Z05 h 62 (by omega)) (h.no 61 (by omega))
 have no:∀c,c=60∨c=10→c∉soR n:=fun c hc z=>by
  rcases List.mem_append.mp z with z|z
  ·exact h.no c (by omega) z
  rcases List.mem_cons.mp z with z|z
  ·omega
  rcases List.mem_append.mp z with z|z
  ·exact Z05 h c (by omega) z
  ·have:=List.mem_singleton.mp z;omega
 refine⟨no 60 (.inl rfl),no 10 (.inr rfl),fun c z=>?_,?_,a1,by rw[a3];rfl,?_,by rw[a2,a4,a5]⟩
 ·rcases List.mem_append.mp z with z|z
  ·exact h.asc c z
  rcases List.mem_cons.mp z with z|z
  ·rw[z];decide
  rcases List.mem_append.mp z with z|z
  ·unfold SOG at z
   rcases List.mem_append.mp z with z|z
   ·exact Zw6 c z
   ·exact h.asc c z
  ·rw[List.mem_singleton.mp z];decide
 ·have:=h.most
  unfold soR SOG
  simp;omega
 ·rw[a2,a4,a5]
  unfold mkB
  rw[h.name,h.not,Ztb h];rfl
structure Bo(b:List Nat)(n:Nat):Prop where
 gd:GdB SOG b
 ln:10∉b
 asc:Asc b
 len:b.length≤n
theorem Bo.nil:Bo [] 0:=⟨GdB.nil _,(fun z=>nomatch z),(fun _ z=>nomatch z),Nat.le_refl _⟩
noncomputable abbrev SEP:List (List Nat):=[[],[58,32],[32,40],[61,32]]
theorem Zuf:∀s∈SEP,(60∉s∧s.all sts=true∧10∉s)∧(∀c∈s,c<128)∧s.length≤2:=by decide
theorem Bo.more{b s f:List Nat}{n:Nat}(h:Bo b n)(hs:s∈SEP)(hf:Nm f):Bo (b++(s++60::soR f)) (n+33):=by
 obtain⟨⟨s1,s2,s3⟩,s4,s5⟩:=Zuf s hs
 obtain⟨r1,r2,r3,r4,r5⟩:=Z06 hf
 have e:b++(s++60::soR f)=(b++s)++60::soR f:=by simp
 refine⟨by rw[e];exact(h.gd.add s1 s2).mark r1 r5,fun z=>?_,fun c z=>?_,?_⟩
 ·rcases List.mem_append.mp z with z|z
  ·exact h.ln z
  rcases List.mem_append.mp z with z|z
  ·exact s3 z
  rcases List.mem_cons.mp z with z|z
  ·exact absurd z (by decide)
  ·exact r2 z
 ·rcases List.mem_append.mp z with z|z
  ·exact h.asc c z
  rcases List.mem_append.mp z with z|z
  ·exact s4 c z
  rcases List.mem_cons.mp z with z|z
  ·rw[z];decide
  ·exact r3 c z
 ·rw[List.length_append,List.length_append,List.length_cons]
  have:=h.len
  omega
theorem Z37{k kd b:List Nat}{n:Nat}(hk:Nm k)(hd:Nm kd)(hb:Bo b n)(hn:n≤700):GR (k++32::(kd++32::b)) k:=by
 have m1:=hk.most
 have m2:=hd.most
 have l:=hb.len
 refine⟨fun c z=>?_,?_,fun z=>?_,kd,b,SOG,Zjm (hk.no 32 (by omega)) (hd.no 32 (by omega)),hk.name,hd.name,hb.gd.ok.1,hb.gd.ok.2⟩
 ·rcases List.mem_append.mp z with z|z
  ·exact hk.asc c z
  rcases List.mem_cons.mp z with z|z
  ·rw[z];decide
  rcases List.mem_append.mp z with z|z
  ·exact hd.asc c z
  rcases List.mem_cons.mp z with z|z
  ·rw[z];decide
  ·exact hb.asc c z
 ·rw[List.length_append,List.length_cons,List.length_append,List.length_cons];omega
 ·rcases List.mem_append.mp z with z|z
  ·exact hk.no 10 (by omega) z
  rcases List.mem_cons.mp z with z|z
  ·exact absurd z (by decide)
  rcases List.mem_append.mp z with z|z
  ·exact hd.no 10 (by omega) z
  rcases List.mem_cons.mp z with z|z
  ·exact absurd z (by decide)
  ·exact hb.ln z
noncomputable abbrev SEPS:List Str:=["",": "," (","= "]
theorem Z07:SEPS=SEP.map S:=by decide+kernel
theorem lt_S:Str.ofString "<"=S [60]:=by decide+kernel
theorem gt_S:Str.ofString ">"=S [62]:=by decide+kernel
theorem so_S:Str.ofString "=So it's "=S (61::SOL):=by decide+kernel
theorem Ztc(a0 a1:Option SV)(fs:List (List Nat))(hl:fs.length=3)(hf:∀f∈fs,Nm f)(n:Int)(k:Nat)(hk:k≤100)(hd b:List Nat)(hh:hd.length≤20)(hb:Bo b 200)(m:Nat)(hm:Bo b m)(x6:Option SV):
  ∃b' y6,Bo b' (m+33)∧Gen.Zci [a0,a1,some (.fz (.lst (wsD fs))),some (.fz (.int n)),some (.fz (.str (S (hd++b)))),some (.fz (.int (k:Int))),x6]=some (.nx [a0,a1,some (.fz (.lst (wsD fs))),some (.fz (.int n)),some (.fz (.str (S (hd++b')))),some (.fz (.int (k:Int))),y6]):=by
 obtain⟨d,hd1,e1⟩:=Zl2 (wsD fs) (n / (5+(k:Int))) 3 (by rw[List.length_map,hl];rfl) (by decide)
 obtain⟨f,hf1,rfl⟩:=List.mem_map.mp hd1
 obtain⟨d,hd2,e2⟩:=Zl2 (SEPS.map D.str) (n / (16+(k:Int))) 4 (by rw[List.length_map];decide) (by decide)
 rw[Z07,List.map_map]at hd2
 obtain⟨s,hs,rfl⟩:=List.mem_map.mp hd2
 have e2:L2.atI (SEPS.map D.str) (n / (16+(k:Int)) % 4)=some (.str (S s)):=e2
 have nf:=hf f hf1
 refine⟨b++(s++60::soR f),some (.fz (.str (S f))),hm.more hs nf,?_⟩
 have es:S (hd++b)++S s++S [60]++S f++S (61::SOL)++S f++S [62]=S (hd++(b++(s++60::soR f))):=by
  rw[Zac,Zac,Zac,Zac,Zac,Zac]
  unfold soR SOG
  simp
 haveI i1:Sm (S (hd++b)) 300:=⟨by rw[Zai,List.length_append];have:=hb.len;omega⟩
 haveI i2:Sm (S s) 2:=⟨by rw[Zai];exact(Zuf s hs).2.2⟩
 haveI i3:Sm (S f) 8:=⟨by rw[Zai];exact nf.most⟩
 have y4:4≤PySem.sizeLine:=Zq (by decide)
 rw[←es,←lt_S,←gt_S,←so_S]
 simp only[SEPS,List.map_cons,List.map_nil]at e2
 have d1:(0:Int)<5+(k:Int):=by omega
 have d2:(0:Int)<16+(k:Int):=by omega
 have d3:(5:Int)+(k:Int)<1073741824:=by omega
 have d4:(16:Int)+(k:Int)<1073741824:=by omega
 generalize hX:S (hd++b)=T at*
 generalize hY:S s=X at*
 generalize hZ:S f=F at*
 generalize (k:Int)=ki at*
 generalize wsD fs=W at*
 unfold Gen.Zci
 simp[-addD,Zd3,Zd4,Zd5,y4,e1,e2,d1,d2,d3,d4]
theorem Zme(a0 a1:Option SV)(fs:List (List Nat))(hl:fs.length=3)(hf:∀f∈fs,Nm f)(n:Int)(hd:List Nat)(hh:hd.length≤20):∀(j s:Nat) (b:List Nat) (x5 x6:Option SV),Bo b (33*s)→s+j≤4→
  ∃b' y5 y6,Bo b' (33*(s+j))∧forD (Zn 5) Gen.Zci (nats s j) [a0,a1,some (.fz (.lst (wsD fs))),some (.fz (.int n)),some (.fz (.str (S (hd++b)))),x5,x6]=some (.nx [a0,a1,some (.fz (.lst (wsD fs))),some (.fz (.int n)),some (.fz (.str (S (hd++b')))),y5,y6])
 |0,s,b,x5,x6,hb,_=>⟨b,x5,x6,hb,rfl⟩
 |j+1,s,b,x5,x6,hb,h=>by
  obtain⟨b1,y6,h1,e1⟩:=Ztc a0 a1 fs hl hf n s (by omega) hd b hh ⟨hb.gd,hb.ln,hb.asc,by have:=hb.len;omega⟩ (33*s) hb x6
  obtain⟨b2,z5,z6,h2,e2⟩:=Zme a0 a1 fs hl hf n hd hh j (s+1) b1 (some (.fz (.int (s:Int)))) y6 ⟨h1.gd,h1.ln,h1.asc,by have:=h1.len;omega⟩ (by omega)
  refine⟨b2,z5,z6,⟨h2.gd,h2.ln,h2.asc,by have:=h2.len;omega⟩,?_⟩
  have en:nats s (j+1)=D.int (s:Int)::nats (s+1) j:=by unfold nats;rw[List.range'_succ,List.map_cons]
  rw[en]
  exact(Za0 (by simp) e1).trans e2
theorem Zw7{k kd:List Nat}(hk:Nm k)(hd:Nm kd)(fs:List (List Nat))(hl:fs.length=3)(hf:∀f∈fs,Nm f)(n:Int):∃r,GR r k∧r≠[]∧r.length≤200∧Gen.Zc1 [.str (S k),.str (S kd),.lst (wsD fs),.int n]=some (.fz (.str (S r))):=by
 have h0:0≤n % 4:=Int.emod_nonneg _ (by decide)
 have h1:n % 4<4:=Int.emod_lt_of_pos _ (by decide)
 obtain⟨j,hj⟩:=Int.eq_ofNat_of_zero_le h0
 have m1:=hk.most
 have m2:=hd.most
 have o1:=hk.one
 obtain⟨b,y5,y6,hb,e⟩:=Zme (some (.fz (.str (S k)))) (some (.fz (.str (S kd)))) fs hl hf n (k++32::(kd++[32])) (by simp;omega) j 0 [] none none ⟨Bo.nil.gd,Bo.nil.ln,Bo.nil.asc,by simp⟩ (by omega)
 have er:k++32::(kd++[32])++b=k++32::(kd++32::b):=by simp
 rw[er,List.append_nil]at e
 have lb:=hb.len
 refine⟨k++32::(kd++32::b),Z37 hk hd hb (by omega),by simp,by rw[List.length_append,List.length_cons,List.length_append,List.length_cons];omega,?_⟩
 have g1:rngP (j:Int):=Zg1 (by omega)
 have et:((j:Int)).toNat=j:=by omega
 have es:S k++S [32]++S kd++S [32]=S (k++32::(kd++[32])):=by
  rw[Zac,Zac,Zac];simp
 haveI i1:Sm (S k) 8:=⟨by rw[Zai];exact m1⟩
 haveI i2:Sm (S kd) 8:=⟨by rw[Zai];exact m2⟩
 rw[←es,←bl_S]at e
 generalize S (k++32::(kd++32::b))=R at*
 generalize hX:S k=K at*
 generalize hY:S kd=KD at*
 generalize wsD fs=W at*
 unfold Gen.Zc1 Gen.Zf3
 simp[-forD,-addD,Zd3,Zd4,Zd5,hj,g1,et,Zfx,e]
end My
namespace My
open DL PySem
noncomputable def p10(c:Nat):Bool:=Nat.blt c 128&& !(c==10)
structure Pl(t:List Nat)(n:Nat):Prop where
 al:t.all p10=true
 le:t.length≤n
theorem Pl.app{a b:List Nat}{m n:Nat}(h:Pl a m)(k:Pl b n):Pl (a++b) (m+n):=⟨by rw[List.all_append,h.al,k.al];rfl,by rw[List.length_append];have:=h.le;have:=k.le;omega⟩
theorem Pl.asc{t:List Nat}{n:Nat}(h:Pl t n):Asc t:=fun c hc=>by
 have:=List.all_eq_true.mp h.al c hc
 unfold p10 at this
 rw[Bool.and_eq_true]at this
 exact Nat.le_of_ble_eq_true this.1
theorem Pl.ln{t:List Nat}{n:Nat}(h:Pl t n):10∉t:=fun hc=>by
 have:=List.all_eq_true.mp h.al 10 hc
 exact absurd this (by decide)
theorem Nm.pl{w:List Nat}(h:Nm w):Pl w 8:=⟨List.all_eq_true.mpr fun c hc=>by
 have:=h.is c hc
 unfold p10
 rw[Bool.and_eq_true]
 refine⟨Nat.ble_eq_true_of_le (by omega),?_⟩
 rw[Bool.not_eq_true',beq_eq_false_iff_ne]
 omega,h.most⟩
theorem Pl.drop{t:List Nat}{n:Nat}(h:Pl t n)(i:Nat):Pl (t.drop i) n:=⟨List.all_eq_true.mpr fun c hc=>List.all_eq_true.mp h.al c (List.mem_of_mem_drop hc),by rw[List.length_drop];have:=h.le;omega⟩
theorem Pl.mono{t:List Nat}{m n:Nat}(h:Pl t m)(hm:m≤n):Pl t n:=⟨h.al,by have:=h.le;omega⟩
noncomputable abbrev BKL:List Nat:=[98,111,111,107]
theorem Zhy:Pl BKL 4:=⟨by decide,by decide⟩
theorem b32:Pl [32] 1:=⟨by decide,by decide⟩
theorem bk_S:BK=S BKL:=by decide+kernel
theorem Zb5{x:List Nat}{c:Nat}(hc:c∈x)(h:abc c=false):Zbm x=false:=by
 unfold Zbm
 have:x.all abc=false:=by
  rw[List.all_eq_false]
  exact⟨c,hc,by rw[h];exact Bool.false_ne_true⟩
 rw[this,Bool.and_false]
theorem Zqs{x:List Nat}(h:8<x.length):Zbm x=false:=by
 unfold Zbm
 rw[decide_eq_false (by omega)];rfl
theorem Zhz:Zbm []=false:=by decide
structure Sp(ab t:List Nat):Prop where
 pl:Pl t 400
 bad:BadR t∨GR t ab
theorem Z08{a b c:List Nat}(ha:32∉a)(hb:32∉b)(h:Zbm a=false):BadR (a++32::(b++32::c)):=.inr ⟨a,b,c,Zjm ha hb,.inl h⟩
theorem Z09{a b c:List Nat}(ha:32∉a)(hb:32∉b)(h:Zbm b=false):BadR (a++32::(b++32::c)):=.inr ⟨a,b,c,Zjm ha hb,.inr (.inl h)⟩
theorem Z1a{a b c:List Nat}(ha:32∉a)(hb:32∉b)(h:Bd (sp c)):BadR (a++32::(b++32::c)):=.inr ⟨a,b,c,Zjm ha hb,.inr (.inr h.body)⟩
theorem bk32:32∉BKL:=by decide
theorem Zw8{ab:List Nat}(h:Nm ab):GR (ab++32::(BKL++32::[])) ab:=by
 have p:Pl (ab++([32]++(BKL++[32]))) 14:=h.pl.app (b32.app (Zhy.app b32))
 refine⟨p.asc,Nat.le_trans p.le (by decide),p.ln,BKL,[],SOG,Zjm (h.no 32 (by omega)) bk32,h.name,by decide,by decide,fun m hm=>nomatch hm⟩
theorem litA:Str.ofString "A"=S [65]:=by decide+kernel
theorem lit0:Str.ofString ""=S []:=by decide+kernel
theorem lit8:Str.ofString "abcdefgh"=S [97,98,99,100,101,102,103,104]:=by decide+kernel
theorem lit1:Str.ofString "1"=S [49]:=by decide+kernel
theorem litU:Str.ofString "_"=S [95]:=by decide+kernel
noncomputable abbrev p5(k:List Nat):List (List Nat):=[k.drop 1++[65],[],k++[97,98,99,100,101,102,103,104],k++[49],95::k.drop 1]
theorem P5_S(k:List Nat):P5 (S k) (S (k.drop 1))=(p5 k).map S:=by
 simp only[P5,p5,litA,lit0,lit8,lit1,litU,Zac,List.map_cons,List.map_nil,List.cons_append,List.nil_append]
theorem Z38{k:List Nat}(h:Nm k):∀x∈p5 k,Pl x 16∧32∉x∧Zbm x=false:=by
 have d32:32∉k.drop 1:=fun z=>h.no 32 (by omega) (List.mem_of_mem_drop z)
 have k32:32∉k:=h.no 32 (by omega)
 have pd:=h.pl.drop 1
 intro x hx
 simp only[p5,List.mem_cons,List.not_mem_nil,or_false]at hx
 rcases hx with rfl|rfl|rfl|rfl|rfl
 ·exact⟨(pd.app (b:=[65]) (n:=1) ⟨by decide,by decide⟩).mono (by decide),fun z=>(List.mem_append.mp z).elim d32 (by decide),Zb5 (c:=65) (by simp) (by decide)⟩
 ·exact⟨⟨by decide,by decide⟩,by decide,Zhz⟩
 ·exact⟨h.pl.app (n:=8) ⟨by decide,by decide⟩,fun z=>(List.mem_append.mp z).elim k32 (by decide),Zqs (by have:=h.one;rw[List.length_append];simp;omega)⟩
 ·exact⟨(h.pl.app (b:=[49]) (n:=1) ⟨by decide,by decide⟩).mono (by decide),fun z=>(List.mem_append.mp z).elim k32 (by decide),Zb5 (c:=49) (by simp) (by decide)⟩
 ·exact⟨(Pl.app (a:=[95]) (m:=1) ⟨by decide,by decide⟩ pd).mono (by decide),fun z=>(List.mem_cons.mp z).elim (by decide) d32,Zb5 (c:=95) (by simp) (by decide)⟩
noncomputable abbrev p4:List (List Nat):=[[111,111,107,65],[],BKL++[97,98,99,100,101,102,103,104],BKL++[45]]
theorem P4_S:P4=p4.map S:=by decide+kernel
theorem Z39:∀x∈p4,(x.all p10=true∧x.length≤16)∧32∉x∧Zbm x=false:=by decide
theorem lit2:Str.ofString "  "=S [32,32]:=by decide+kernel
noncomputable abbrev p6(k:List Nat):List (List Nat):=[k++32::BKL,k,[],k++BKL,k++32::([]++32::(BKL++[32])),[]++32::(k++32::(BKL++[32]))]
theorem P6_S(k:List Nat):P6 (S k)=(p6 k).map S:=by
 simp only[P6,p6,bk_S,lit0,lit2,bl_S,Zac,List.map_cons,List.map_nil,List.cons_append,List.nil_append,List.append_assoc]
theorem Z4a{k:List Nat}(h:Nm k):∀x∈p6 k,Pl x 30∧BadR x:=by
 have k32:32∉k:=h.no 32 (by omega)
 intro x hx
 simp only[p6,List.mem_cons,List.not_mem_nil,or_false]at hx
 rcases hx with rfl|rfl|rfl|rfl|rfl|rfl
 ·exact⟨(h.pl.app (b32.app Zhy)).mono (by decide),.inl (by rw[Z0y k32 bk32];show 2<3;decide)⟩
 ·exact⟨h.pl.mono (by decide),.inl (by rw[Zud k32];show 1<3;decide)⟩
 ·exact⟨⟨by decide,by decide⟩,.inl (by decide)⟩
 ·exact⟨(h.pl.app Zhy).mono (by decide),.inl (by rw[Zud fun z=>(List.mem_append.mp z).elim k32 bk32];show 1<3;decide)⟩
 ·exact⟨(h.pl.app (b32.app (b32.app (Zhy.app b32)))).mono (by decide),Z09 k32 (by decide) Zhz⟩
 ·exact⟨(b32.app (h.pl.app (b32.app (Zhy.app b32)))).mono (by decide),Z08 (by decide) k32 Zhz⟩
noncomputable abbrev p8:List (List Nat):=[[9],[94],[123],[91],[34],[95],[35],[124]]
theorem P8_S:P8=p8.map S:=by decide+kernel
theorem Z4b:∀x∈p8,(x.all p10=true∧x.length≤1)∧60∉x∧x.all sts=false:=by decide
noncomputable abbrev ab4:List Nat:=[61,97,98,62]
noncomputable abbrev okM(n:List Nat):List Nat:=60::(n++ab4)
theorem Zdr{n:List Nat}(h:Nm n)(s:List Nat){m:Nat}(hs:s.all p10=true)(hl:s.length≤m):Pl (60::(n++s)) (9+m):=Pl.mono (Pl.app (a:=[60]) (m:=1) ⟨by decide,by decide⟩ (h.pl.app ⟨hs,hl⟩)) (by omega)
theorem Zbj{t r:List Nat}(h60:60∉r)(h:bdR r=true):Bd (sp (t++60::r)):=by
 rw[Zel r h60 t]
 exact .inr (.inl ⟨(sp t).2.length,r,by simp,h⟩)
theorem Zug{t r1 r2:List Nat}(h1:60∉r1)(h2:60∉r2)(g1:gtB r1=true)(g2:gtB r2=true)(hn:nmOf (hdS r1)=nmOf (hdS r2))(ht:txOf (hdS r1)≠txOf (hdS r2)):Bd (sp (t++(60::r1++60::r2))):=by
 have e:t++(60::r1++60::r2)=(t++60::r1)++60::r2:=by simp
 rw[e,Zel r2 h2,Zel r1 h1]
 exact .inr (.inr ⟨(sp t).2.length,(sp t).2.length+1,r1,r2,by omega,by simp,by simp,g1,g2,hn,ht⟩)
theorem Zqt{t r:List Nat}(h60:60∉r)(h:Bd (sp t)):Bd (sp (t++60::r)):=by
 rw[Zel r h60 t];exact h.more [r]
theorem Z1b{t s:List Nat}(h60:60∉s)(h62:62∉s)(h:Bd (sp t)):Bd (sp (t++s)):=by
 rw[Zkz s h60 t];exact h.add h62
theorem Z1c{r:List Nat}(h:62∉r):bdR r=true:=by
 unfold bdR gtB
 rw[Zhw h];rfl
theorem Zk1{nm tx tl:List Nat}(h1:62∉nm)(h2:62∉tx)(h3:61∉nm)(h:mkB nm tx=false):bdR (nm++61::(tx++62::tl))=true:=by
 obtain⟨a1,a2,a3,a4,a5⟩:=Zf9 (tl:=tl) h1 h2 h3
 unfold bdR
 rw[a2,a4,a5,h];simp
theorem Z1d{nm tl:List Nat}(h1:62∉nm)(h3:61∉nm):bdR (nm++62::tl)=true:=by
 obtain⟨a1,a2,a3,a4,a5⟩:=Zw5 (tl:=tl) h1 h3
 unfold bdR
 rw[a2,a4,a5]
 have:mkB nm []=false:=by
  unfold mkB
  rw[show Zd1 []=false by decide,Bool.and_false,Bool.and_false]
 rw[this];simp
theorem Z4c{nm tx tl:List Nat}(h1:62∉nm)(h2:62∉tx)(h3:61∉nm)(h:tl.all sts=false):bdR (nm++61::(tx++62::tl))=true:=by
 obtain⟨a1,a2,a3,a4,a5⟩:=Zf9 (tl:=tl) h1 h2 h3
 unfold bdR
 rw[a3,h];simp
theorem Ztd{nm tx:List Nat}(h:Zd1 tx=false):mkB nm tx=false:=by
 unfold mkB;rw[h,Bool.and_false,Bool.and_false]
theorem Zw9{nm tx:List Nat}(h:Zbm nm=false):mkB nm tx=false:=by
 unfold mkB;rw[h];rfl
noncomputable abbrev m18(n:List Nat):List (List Nat):=[60::(n++[61,97,98]),60::(n++[62]),60::(Zet++ab4),60::(Zeu++ab4),60::([]++ab4),60::(n++88::ab4),60::(n++[61,62]),
 60::(n++61::(List.replicate 81 97++[62])),60::(n++[61,97,58,98,62]),60::(n++[61,97])++60::[98,62],60::(n++[61,97,9,98,62]),[62],
 60::(n++ab4)++60::(n++[61,65,98,62]),60::(n++32::ab4),60::(32::n++ab4),60::([97,98,99,100,101,102,103,104,105]++ab4),60::([]++[62]),60::(n++[61,97,98,62,46])++60::(n++[61,97,98,32,62])]
theorem q1:Str.ofString "=ab"=S [61,97,98]:=by decide+kernel
theorem q2:Str.ofString "X=ab>"=S (88::ab4):=by decide+kernel
theorem q3:Str.ofString "=>"=S [61,62]:=by decide+kernel
theorem q4:Str.ofString "="=S [61]:=by decide+kernel
theorem q5:Str.ofString "=a:b>"=S [61,97,58,98,62]:=by decide+kernel
theorem q6:Str.ofString "=a<b>"=S [61,97,60,98,62]:=by decide+kernel
theorem q7:Str.ofString "=a\tb>"=S [61,97,9,98,62]:=by decide+kernel
theorem q8:Str.ofString "=ab>"=S ab4:=by decide+kernel
theorem q9:Str.ofString "=Ab>"=S [61,65,98,62]:=by decide+kernel
theorem q10:Str.ofString " =ab>"=S (32::ab4):=by decide+kernel
theorem q11:Str.ofString "< "=S [60,32]:=by decide+kernel
theorem q12:Str.ofString "=ab>."=S [61,97,98,62,46]:=by decide+kernel
theorem q13:Str.ofString "=ab >"=S [61,97,98,32,62]:=by decide+kernel
theorem q14:Str.ofString "<note=ab>"=S (60::(Zet++ab4)):=by decide+kernel
theorem q15:Str.ofString "<kind=ab>"=S (60::(Zeu++ab4)):=by decide+kernel
theorem q16:Str.ofString "<=ab>"=S (60::ab4):=by decide+kernel
theorem q17:Str.ofString "<abcdefghi=ab>"=S (60::([97,98,99,100,101,102,103,104,105]++ab4)):=by decide+kernel
theorem q18:Str.ofString "<>"=S [60,62]:=by decide+kernel
theorem Z4d(n:List Nat):L18 (S n)=(m18 n).map S:=by
 have a:A81=S (List.replicate 81 97):=rfl
 simp only[L18,m18,a,q1,q2,q3,q4,q5,q6,q7,q8,q9,q10,q11,q12,q13,q14,q15,q16,q17,q18,lt_S,gt_S,Zac,List.map_cons,List.map_nil,List.cons_append,List.nil_append,List.append_assoc]
theorem tx81:Zd1 (List.replicate 81 97)=false:=by decide+kernel
theorem no81:62∉List.replicate 81 97∧60∉List.replicate 81 97:=by decide+kernel
noncomputable abbrev ah4(n:List Nat):List (List Nat):=[[],okM n,[32,40],[49,58,32]]
theorem PA_S(n:List Nat):PA (S n)=(ah4 n).map S:=by
 have e1:Str.ofString " ("=S [32,40]:=by decide+kernel
 have e2:Str.ofString "1: "=S [49,58,32]:=by decide+kernel
 simp only[PA,ah4,okM,e1,e2,lit0,q8,lt_S,Zac,List.map_cons,List.map_nil,List.cons_append,List.nil_append,List.append_assoc]
theorem Z4e{n:List Nat}(h:Nm n){a:List Nat}(ha:a∈ah4 n):∀m∈m18 n,Bd (sp (a++m)):=by
 have n62:62∉n:=h.no 62 (by omega)
 have n61:61∉n:=h.no 61 (by omega)
 have n60:60∉n:=h.no 60 (by omega)
 have no:∀(c:Nat) (s:List Nat),c∉n→c∉s→c∉n++s:=fun c s h1 h2 z=>(List.mem_append.mp z).elim h1 h2
 intro m hm
 simp only[m18,List.mem_cons,List.not_mem_nil,or_false]at hm
 rcases hm with rfl|rfl|rfl|rfl|rfl|rfl|rfl|rfl|rfl|rfl|rfl|rfl|rfl|rfl|rfl|rfl|rfl|rfl
 ·exact Zbj (no _ _ n60 (by decide)) (Z1c (no _ _ n62 (by decide)))
 ·exact Zbj (no _ _ n60 (by decide)) (Z1d n62 n61)
 ·exact Zbj (by decide) (by decide)
 ·exact Zbj (by decide) (by decide)
 ·exact Zbj (by decide) (by decide)
 ·exact Zbj (no _ _ n60 (by decide)) (by
   have e:n++88::ab4=(n++[88])++61::([97,98]++62::[]):=by simp
   rw[e]
   exact Zk1 (no _ _ n62 (by decide)) (by decide) (no _ _ n61 (by decide)) (Zw9 (Zb5 (c:=88) (by simp) (by decide))))
 ·exact Zbj (no _ _ n60 (by decide)) (Zk1 (tx:=[]) (tl:=[]) n62 (by decide) n61 (Ztd (by decide)))
 ·refine Zbj (no _ _ n60 fun z=>?_) (Zk1 (tl:=[]) n62 no81.1 n61 (Ztd tx81))
  rcases List.mem_cons.mp z with z|z
  ·exact absurd z (by decide)
  ·exact(List.mem_append.mp z).elim no81.2 (by decide)
 ·exact Zbj (no _ _ n60 (by decide)) (Zk1 (tx:=[97,58,98]) (tl:=[]) n62 (by decide) n61 (Ztd (by decide)))
 ·have e:a++(60::(n++[61,97])++60::[98,62])=(a++60::(n++[61,97]))++60::[98,62]:=by simp
  rw[e]
  exact Zqt (by decide) (Zbj (no _ _ n60 (by decide)) (Z1c (no _ _ n62 (by decide))))
 ·exact Zbj (no _ _ n60 (by decide)) (Zk1 (tx:=[97,9,98]) (tl:=[]) n62 (by decide) n61 (Ztd (by decide)))
 ·simp only[ah4,List.mem_cons,List.not_mem_nil,or_false]at ha
  rcases ha with rfl|rfl|rfl|rfl
  ·exact .inl (by decide)
  ·have e:okM n++[62]=[]++60::(n++61::([97,98]++62::[62])):=by simp[okM]
   rw[e]
   exact Zbj (no _ _ n60 (by decide)) (Z4c n62 (by decide) n61 (by decide))
  ·exact .inl (by decide)
  ·exact .inl (by decide)
 ·obtain⟨a1,a2,a3,a4,a5⟩:=Zf9 (tx:=[97,98]) (tl:=[]) n62 (by decide) n61
  obtain⟨b1,b2,b3,b4,b5⟩:=Zf9 (tx:=[65,98]) (tl:=[]) n62 (by decide) n61
  refine Zug (no _ _ n60 (by decide)) (no _ _ n60 (by decide)) a1 b1 ?_ ?_
  ·exact(congrArg nmOf a2).trans (a4.trans (b4.symm.trans (congrArg nmOf b2).symm))
  ·intro z
   have:=((congrArg txOf a2).trans a5).symm.trans (z.trans ((congrArg txOf b2).trans b5))
   exact absurd this (by decide)
 ·exact Zbj (no _ _ n60 (by decide)) (by
   have e:n++32::ab4=(n++[32])++61::([97,98]++62::[]):=by simp
   rw[e]
   exact Zk1 (no _ _ n62 (by decide)) (by decide) (no _ _ n61 (by decide)) (Zw9 (Zb5 (c:=32) (by simp) (by decide))))
 ·exact Zbj (fun z=>(List.mem_cons.mp z).elim (by decide) (no _ _ n60 (by decide))) (Zk1 (nm:=32::n) (tx:=[97,98]) (tl:=[]) (fun z=>(List.mem_cons.mp z).elim (by decide) n62) (by decide) (fun z=>(List.mem_cons.mp z).elim (by decide) n61) (Zw9 (Zb5 (c:=32) (by simp) (by decide))))
 ·exact Zbj (by decide) (by decide)
 ·exact Zbj (by decide) (by decide)
 ·obtain⟨a1,a2,a3,a4,a5⟩:=Zf9 (tx:=[97,98]) (tl:=[46]) n62 (by decide) n61
  obtain⟨b1,b2,b3,b4,b5⟩:=Zf9 (tx:=[97,98,32]) (tl:=[]) n62 (by decide) n61
  refine Zug (no _ _ n60 (by decide)) (no _ _ n60 (by decide)) a1 b1 ?_ ?_
  ·exact(congrArg nmOf a2).trans (a4.trans (b4.symm.trans (congrArg nmOf b2).symm))
  ·intro z
   have:=((congrArg txOf a2).trans a5).symm.trans (z.trans ((congrArg txOf b2).trans b5))
   exact absurd this (by decide)
noncomputable abbrev t3(n:List Nat):List (List Nat):=[[],[32],okM n]
theorem PT_S(n:List Nat):PT (S n)=(t3 n).map S:=by
 simp only[PT,t3,okM,bl_S,lit0,q8,lt_S,Zac,List.map_cons,List.map_nil,List.cons_append,List.nil_append,List.append_assoc]
theorem Z4f{n:List Nat}(h:Nm n){x:List Nat}(hx:Bd (sp x)):∀t∈t3 n,Bd (sp (x++t)):=by
 intro t ht
 simp only[t3,List.mem_cons,List.not_mem_nil,or_false]at ht
 rcases ht with rfl|rfl|rfl
 ·rw[List.append_nil];exact hx
 ·exact Z1b (by decide) (by decide) hx
 ·exact Zqt (fun z=>(List.mem_append.mp z).elim (h.no 60 (by omega)) (by decide)) hx
end My
namespace My
open DL PySem
theorem at_S{L:List Str}{l:List (List Nat)}(e:L=l.map S)(n:Int)(hl:(l.length:Int)=n)(hn:0<n)(x:Int):∃w∈l,L2.atI (L.map D.str) (x % n)=some (.str (S w)):=by
 obtain⟨d,hd,h⟩:=Zl2 (L.map D.str) x n (by rw[e,List.length_map,List.length_map];exact hl) hn
 rw[e,List.map_map]at hd
 obtain⟨w,hw,rfl⟩:=List.mem_map.mp hd
 exact⟨w,hw,h⟩
theorem Z1e(k:List Nat)(hk:1≤k.length):Txt.slice (S k) (some 1) none=S (k.drop 1):=by
 refine(StrLaws.sliceText_from ⟨by decide,by rw[Zbh];omega⟩).trans ?_
 rw[Zbh]
 have e:((k.length:Int)- 1).toNat=k.length- 1:=by omega
 rw[e,show((1:Int)).toNat=1 from rfl,List.take_of_length_le (by rw[List.length_drop];omega)]
theorem Pl.sm{t:List Nat}{n:Nat}(h:Pl t n):Sm (S t) n:=⟨by rw[Zai];exact h.le⟩
theorem Z4g{n:List Nat}(h:Nm n):∀a∈ah4 n,Pl a 40:=by
 intro a ha
 simp only[ah4,List.mem_cons,List.not_mem_nil,or_false]at ha
 rcases ha with rfl|rfl|rfl|rfl
 ·exact⟨by decide,by decide⟩
 ·exact(Zdr h ab4 (m:=4) (by decide) (by decide)).mono (by decide)
 ·exact⟨by decide,by decide⟩
 ·exact⟨by decide,by decide⟩
theorem Z4h{n:List Nat}(h:Nm n):∀a∈t3 n,Pl a 40:=by
 intro a ha
 simp only[t3,List.mem_cons,List.not_mem_nil,or_false]at ha
 rcases ha with rfl|rfl|rfl
 ·exact⟨by decide,by decide⟩
 ·exact⟨by decide,by decide⟩
 ·exact(Zdr h ab4 (m:=4) (by decide) (by decide)).mono (by decide)
theorem r81:(List.replicate 81 97++[62]).all p10=true:=by decide+kernel
theorem Z1f{n:List Nat}(h:Nm n):∀a∈m18 n,Pl a 200:=by
 intro a ha
 simp only[m18,List.mem_cons,List.not_mem_nil,or_false]at ha
 rcases ha with rfl|rfl|rfl|rfl|rfl|rfl|rfl|rfl|rfl|rfl|rfl|rfl|rfl|rfl|rfl|rfl|rfl|rfl
 ·exact(Zdr h _ (m:=3) (by decide) (by decide)).mono (by decide)
 ·exact(Zdr h _ (m:=1) (by decide) (by decide)).mono (by decide)
 ·exact⟨by decide,by decide⟩
 ·exact⟨by decide,by decide⟩
 ·exact⟨by decide,by decide⟩
 ·exact(Zdr h _ (m:=5) (by decide) (by decide)).mono (by decide)
 ·exact(Zdr h _ (m:=2) (by decide) (by decide)).mono (by decide)
 ·exact(Zdr h (61::(List.replicate 81 97++[62])) (m:=83) (by rw[List.all_cons,r81];decide) (by simp)).mono (by decide)
 ·exact(Zdr h _ (m:=5) (by decide) (by decide)).mono (by decide)
 ·exact((Zdr h _ (m:=2) (by decide) (by decide)).app (b:=60::[98,62]) (n:=3) ⟨by decide,by decide⟩).mono (by decide)
 ·exact(Zdr h _ (m:=5) (by decide) (by decide)).mono (by decide)
 ·exact⟨by decide,by decide⟩
 ·exact((Zdr h _ (m:=4) (by decide) (by decide)).app (Zdr h _ (m:=4) (by decide) (by decide))).mono (by decide)
 ·exact(Zdr h _ (m:=5) (by decide) (by decide)).mono (by decide)
 ·exact(Pl.app (a:=[60,32]) (m:=2) ⟨by decide,by decide⟩ (h.pl.app (b:=ab4) (n:=4) ⟨by decide,by decide⟩)).mono (by decide)
 ·exact⟨by decide,by decide⟩
 ·exact⟨by decide,by decide⟩
 ·exact((Zdr h _ (m:=5) (by decide) (by decide)).app (Zdr h _ (m:=5) (by decide) (by decide))).mono (by decide)
theorem Znh{k ab n:List Nat}(hk:Nm k)(ha:Nm ab)(hn:Nm n)(c:Int):∃t,Sp ab t∧Gen.Zo [.str (S k),.str BK,.str (S ab),.str (S n),.int c]=some (.fz (.str (S t))):=by
 haveI i1:Sm (S k) 8:=hk.pl.sm
 haveI i2:Sm (S ab) 8:=ha.pl.sm
 haveI i3:Sm (S n) 8:=hn.pl.sm
 haveI i4:Sm (S (k.drop 1)) 8:=(hk.pl.drop 1).sm
 have k32:32∉k:=hk.no 32 (by omega)
 have zk:(S k).length≤PySem.sizeLine:=Zq (by rw[Zai];have:=hk.most;omega)
 by_cases h0:c % 12=0
 ·obtain⟨x,hx,e⟩:=at_S (P5_S k) 5 rfl (by decide) (c / 16)
  obtain⟨p,x32,xn⟩:=Z38 hk x hx
  haveI:Sm (S x) 40:=(p.mono (by decide)).sm
  refine⟨x++32::(BKL++32::[]),⟨(p.app (b32.app (Zhy.app b32))).mono (by decide),.inl (Z08 x32 bk32 xn)⟩,?_⟩
  rw[Z0z (S k) (S (k.drop 1)) (S ab) (S n) (S x) c zk (Z1e k hk.one) h0 e,bk_S,bl_S,Zac,Zac,Zac]
  simp
 by_cases h1:c % 12=1
 ·obtain⟨x,hx,e⟩:=at_S P4_S 4 rfl (by decide) (c / 16)
  obtain⟨p,x32,xn⟩:=Z39 x hx
  have p:Pl x 16:=⟨p.1,p.2⟩
  haveI:Sm (S x) 40:=(p.mono (by decide)).sm
  refine⟨k++32::(x++32::[]),⟨(hk.pl.app (b32.app (p.app b32))).mono (by decide),.inl (Z09 k32 x32 xn)⟩,?_⟩
  rw[Z00 (S k) (S ab) (S n) (S x) c h1 e,bl_S,Zac,Zac,Zac]
  simp
 by_cases h2:c % 12=2
 ·obtain⟨x,hx,e⟩:=at_S (P6_S k) 6 rfl (by decide) (c / 16)
  obtain⟨p,xb⟩:=Z4a hk x hx
  haveI:Sm (S x) 40:=(p.mono (by decide)).sm
  exact⟨x,⟨p.mono (by decide),.inl xb⟩,Z01 (S k) (S ab) (S n) (S x) c h2 e⟩
 by_cases h3:c % 12=3
 ·refine⟨ab++32::(BKL++32::[]),⟨(ha.pl.app (b32.app (Zhy.app b32))).mono (by decide),.inr (Zw8 ha)⟩,?_⟩
  rw[Z02 (S k) (S ab) (S n) c h3,bk_S,bl_S,Zac,Zac,Zac]
  simp
 by_cases h4:c % 12=4
 ·obtain⟨x,hx,e⟩:=at_S P8_S 8 rfl (by decide) (c / 16)
  obtain⟨p,x60,xs⟩:=Z4b x hx
  have p:Pl x 1:=⟨p.1,p.2⟩
  haveI:Sm (S x) 40:=(p.mono (by decide)).sm
  have ea:Str.ofString " a"=S [32,97]:=by decide+kernel
  have eb:Str.ofString "b"=S [98]:=by decide+kernel
  refine⟨k++32::(BKL++32::(97::(x++[98]))),⟨(hk.pl.app (b32.app (Zhy.app (Pl.app (a:=[32,97]) (m:=2) ⟨by decide,by decide⟩ (p.app (b:=[98]) (n:=1) ⟨by decide,by decide⟩))))).mono (by decide),.inl (Z1a k32 bk32 (.inl ?_))⟩,?_⟩
  ·rw[Zhv (97::(x++[98])) fun z=>(List.mem_cons.mp z).elim (by decide) fun z=>(List.mem_append.mp z).elim x60 (by decide)]
   rw[List.all_cons,List.all_append,xs];rfl
  ·rw[Z03 (S k) (S ab) (S n) (S x) c h4 e,bk_S,bl_S,ea,eb,Zac,Zac,Zac,Zac,Zac]
   simp
 ·obtain⟨x,hx,e1⟩:=at_S (PA_S n) 4 rfl (by decide) (c / 16)
  obtain⟨m,hm,e2⟩:=at_S (Z4d n) 18 rfl (by decide) (c / 16 / 4)
  obtain⟨t,ht,e3⟩:=at_S (PT_S n) 3 rfl (by decide) (c / 16 / 128)
  have px:=Z4g hn x hx
  have pm:=Z1f hn m hm
  have pt:=Z4h hn t ht
  haveI:Sm (S x) 40:=px.sm
  haveI:Sm (S m) 200:=pm.sm
  haveI:Sm (S t) 40:=pt.sm
  have bd:=Z4f hn (Z4e hn hx m hm) t ht
  refine⟨k++32::(BKL++32::(x++m++t)),⟨(hk.pl.app (b32.app (Zhy.app (b32.app ((px.app pm).app pt))))).mono (by decide),.inl (Z1a k32 bk32 bd)⟩,?_⟩
  rw[Z04 (S k) (S ab) (S n) (S x) c (S m) (S t) h0 h1 h2 h3 h4 e1 e2 e3,bk_S,bl_S,Zac,Zac,Zac,Zac,Zac,Zac]
  simp
end My
namespace My
open DL PySem
theorem Zxa(y:List Nat)(ns:List (List Nat)):Str.join (S y) (ns.map S)=S (jl y ns):=by
 have e:=Zdx (S y) (ns.map S)
 rw[List.map_map]at e
 have e2:ns.map ((fun p=>p.cps.toList)∘S)=ns:=by
  conv=>rhs;rw[←List.map_id ns]
  refine List.map_congr_left fun a _=>?_
  show(S a).cps.toList=a
  rw[Zbh]
 rw[e2,Zbh]at e
 rw[S_of (Str.join (S y) (ns.map S)),e]
theorem Zqu{y:List Nat}{B:Nat}:∀ps:List (List Nat),(∀p∈ps,p.length≤B)→(jl y ps).length≤ps.length*(B+y.length)
 | [],_=>Nat.zero_le _
 | [p],h=>by
  have:=h p List.mem_cons_self
  show p.length≤_
  simp;omega
 |p::q::r,h=>by
  have h1:=h p List.mem_cons_self
  have h2:=Zqu (y:=y) (B:=B) (q::r) fun x hx=>h x (List.mem_cons_of_mem _ hx)
  show(p++y++jl y (q::r)).length≤_
  rw[List.length_append,List.length_append]
  have e:(p::q::r).length*(B+y.length)=(q::r).length*(B+y.length)+(B+y.length):=by
   rw[List.length_cons,Nat.succ_mul]
  omega
structure Rw(rs:List (List Nat)):Prop where
 few:rs.length≤20
 len:∀r∈rs,r.length≤400
 no:∀r∈rs,10∉r
theorem Rw.join{rs:List (List Nat)}(h:Rw rs):JoinOk (S [10]) (rs.map S)=true∧Txt.join (S [10]) (rs.map S)=S (jl [10] rs)∧strs? (wsD rs)=some (rs.map S):=by
 refine⟨Zt5 (B:=400) (fun x hx=>?_) ?_,(Z33 _ _).trans (Zxa _ _),?_⟩
 ·obtain⟨r,hr,rfl⟩:=List.mem_map.mp hx
  rw[Zai];exact h.len r hr
 ·have l1:(S [10]).length=1:=Zai _
  rw[l1,List.length_map];have:=h.few;omega
 ·have:=Zhe (rs.map S)
  rw[List.map_map]at this
  exact this
theorem Rw.txt{rs:List (List Nat)}(h:Rw rs)(h0:rs≠[])(h1:jl [10] rs≠[]):Txt1 rs:=by
 have l:=Zqu (y:=[10]) rs h.len
 have f:=h.few
 have m:rs.length*(400+[10].length)≤20*401:=Nat.mul_le_mul f (Nat.le_refl _)
 exact⟨h0,h.no,h1,by omega,by omega⟩
theorem Z1g{r:List Nat}{rs:List (List Nat)}(h:r≠[]):jl [10] (r::rs)≠[]:=by
 cases rs with
 |nil=>exact h
 |cons q t=>
  show r++[10]++jl [10] (q::t)≠[]
  intro z
  have:=congrArg List.length z
  rw[List.length_append,List.length_append]at this
  simp at this
structure Rows(ks rs:List (List Nat)):Prop where
 gr:∀(i:Nat) (r k:List Nat),rs[i]? =some r→ks[i]? =some k→GR r k
 ne:∀r∈rs,r≠[]
 len:∀r∈rs,r.length≤200
theorem Z4i(a0 a1:Option SV)(fs ks:List (List Nat))(hl:fs.length=3)(hf:∀f∈fs,Nm f)(hk:∀k∈ks,Nm k)(rs:List (List Nat))(h:Rows ks rs)(hr:rs.length≤100)(hi:rs.length<ks.length)(c:Int)(x7 x8 x9 x10 x11 x12 x13:Option SV):
  ∃r y7,Rows ks (rs++[r])∧Gen.Zf4 [a0,a1,some (.ol (wsD fs)),some (.ol (wsD ks)),some (.ol (wsD rs)),some (.fz (.int (rs.length:Int))),some (.fz (.int c)),x7,x8,x9,x10,x11,x12,x13]=some (.nx [a0,a1,some (.ol (wsD fs)),some (.ol (wsD ks)),some (.ol (wsD (rs++[r]))),some (.fz (.int (rs.length:Int))),some (.fz (.int c)),y7,x8,x9,x10,x11,x12,x13]):=by
 have m1:=Zd0 c 16807 (by decide)
 have m2:=Zd0 (c+(rs.length:Int)) 48271 (by decide)
 obtain⟨ws,e1,wl,_,wn⟩:=Zhp (c % 2147483647*16807 % 2147483647) (Ze3 c 16807) 1 (by decide)
 match ws,wl with
 | [w],_=>
  have nw:=wn w List.mem_cons_self
  have ek:ks[rs.length]? =some ks[rs.length]:=List.getElem?_eq_getElem hi
  have nk:=hk ks[rs.length] (List.getElem_mem hi)
  obtain⟨r,g,r0,r2,e2⟩:=Zw7 nk nw fs hl hf ((c+(rs.length:Int)) % 2147483647*48271 % 2147483647)
  refine⟨r,some (.fz (.str (S w))),⟨fun i r' k' h1 h2=>?_,fun x hx=>?_,fun x hx=>?_⟩,?_⟩
  ·by_cases hlt:i<rs.length
   ·rw[List.getElem?_append_left hlt]at h1;exact h.gr i r' k' h1 h2
   ·have:i=rs.length:=by
     have:=(List.getElem?_eq_some_iff.mp h1).1
     rw[List.length_append,List.length_singleton]at this;omega
    subst this
    rw[List.getElem?_append_right (Nat.le_refl _),Nat.sub_self]at h1
    cases h1
    rw[ek]at h2;cases h2
    exact g
  ·rcases List.mem_append.mp hx with z|z
   ·exact h.ne x z
   ·rw[List.mem_singleton.mp z];exact r0
  ·rcases List.mem_append.mp hx with z|z
   ·exact h.len x z
   ·rw[List.mem_singleton.mp z];exact r2
  ·have at1:L2.atI (wsD ks) (rs.length:Int)=some (.str (S ks[rs.length])):=Zfw _ _ _ (by rw[List.getElem?_map,ek];rfl)
   have at0:L2.atI [D.str (S w)] 0=some (.str (S w)):=rfl
   have i1:((1:Nat):Int)=1:=rfl
   rw[i1]at e1
   have e1:Gen.Zaf [.int (c % 2147483647*16807 % 2147483647),.int 1]=some (.ol [.str (S w)]):=e1
   have zr:(wsD rs).length<PySem.sizeLine:=Zft (by rw[List.length_map];omega)
   have ew:wsD (rs++[r])=wsD rs++[.str (S r)]:=List.map_append
   rw[ew]
   generalize S w=W at*
   generalize S r=R at*
   generalize S ks[rs.length]=KK at*
   generalize (rs.length:Int)=I at*
   generalize wsD rs=RS at*
   generalize wsD fs=FS at*
   generalize wsD ks=KS at*
   generalize c % 2147483647*16807 % 2147483647=C1 at*
   generalize (c+I) % 2147483647*48271 % 2147483647=C2 at*
   unfold Gen.Zf4
   simp[m1,m2,e1,e2,at0,at1,zr]
theorem Z1h(a0 a1:Option SV)(fs ks:List (List Nat))(hl:fs.length=3)(hf:∀f∈fs,Nm f)(hk:∀k∈ks,Nm k)(x8 x9 x10 x11 x12 x13:Option SV):∀(cs:List Int) (rs:List (List Nat)) (x5 x6 x7:Option SV),Rows ks rs→rs.length+cs.length≤ks.length→ks.length≤20→
  ∃rs' y5 y6 y7,Rows ks rs'∧rs'.length=rs.length+cs.length∧forD (Zcm 2 (Zaa (Zn 5) (Zaa (Zn 6) (Zcq)))) Gen.Zf4 (Zm6 rs.length (cs.map D.int)) [a0,a1,some (.ol (wsD fs)),some (.ol (wsD ks)),some (.ol (wsD rs)),x5,x6,x7,x8,x9,x10,x11,x12,x13]=some (.nx [a0,a1,some (.ol (wsD fs)),some (.ol (wsD ks)),some (.ol (wsD rs')),y5,y6,y7,x8,x9,x10,x11,x12,x13])
 | [],rs,x5,x6,x7,h,_,_=>⟨rs,x5,x6,x7,h,rfl,rfl⟩
 |c::cs,rs,x5,x6,x7,h,hn,h20=>by
  rw[List.length_cons]at hn
  obtain⟨r,y7,h1,e1⟩:=Z4i a0 a1 fs ks hl hf hk rs h (by omega) (by omega) c x7 x8 x9 x10 x11 x12 x13
  obtain⟨rs',z5,z6,z7,h2,l2,e2⟩:=Z1h a0 a1 fs ks hl hf hk x8 x9 x10 x11 x12 x13 cs (rs++[r]) (some (.fz (.int (rs.length:Int)))) (some (.fz (.int c))) y7 h1 (by rw[List.length_append,List.length_singleton];omega) h20
  refine⟨rs',z5,z6,z7,h2,by rw[l2,List.length_append,List.length_singleton,List.length_cons];omega,?_⟩
  rw[List.length_append,List.length_singleton]at e2
  have run:(Zcm 2 (Zaa (Zn 5) (Zaa (Zn 6) (Zcq)))).run (.tup [.int (rs.length:Int),.int c]) [a0,a1,some (.ol (wsD fs)),some (.ol (wsD ks)),some (.ol (wsD rs)),x5,x6,x7,x8,x9,x10,x11,x12,x13]=some [a0,a1,some (.ol (wsD fs)),some (.ol (wsD ks)),some (.ol (wsD rs)),some (.fz (.int (rs.length:Int))),some (.fz (.int c)),x7,x8,x9,x10,x11,x12,x13]:=by
   generalize (rs.length:Int)=I
   simp
  exact(Za0 run e1).trans e2
theorem Rows.rw{ks rs:List (List Nat)}(h:Rows ks rs)(hl:rs.length≤ks.length)(h20:ks.length≤19):Rw rs:=by
 refine⟨by omega,fun r hr=>by have:=h.len r hr;omega,fun r hr=>?_⟩
 obtain⟨i,hi,rfl⟩:=List.getElem_of_mem hr
 exact(h.gr i _ ks[i] (List.getElem?_eq_getElem hi) (List.getElem?_eq_getElem (by omega))).ln
theorem Zqv{ks:List (List Nat)}(h:ks.Nodup):(ks.map S).Nodup:=List.Pairwise.map S (fun a b hab e=>hab (Zp7 e)) h
theorem Rows.take{ks rs:List (List Nat)}(h:Rows ks rs)(m:Nat)(i:Nat)(r k:List Nat)(e1:(rs.take m)[i]? =some r)(e2:(ks.take m)[i]? =some k):GR r k:=by
 rw[List.getElem?_take]at e1 e2
 split at e1
 ·rename_i hi
  rw[if_pos hi]at e2
  exact h.gr i r k e1 e2
 ·cases e1
theorem Zjn{ks rs:List (List Nat)}(h:Rows ks rs)(nd:ks.Nodup)(hl:rs.length≤ks.length)(h20:ks.length≤19)(m:Nat)(h1:1≤m)(h2:m≤rs.length):∃vs,Gen.Zx [.str (S (jl [10] (rs.take m)))]=some (.v (.oK (inrs ((ks.take m).map S)) vs)):=by
 have hr:=h.rw hl h20
 have tl:(rs.take m).length=m:=by rw[List.length_take];omega
 have kl:(ks.take m).length=m:=by rw[List.length_take];omega
 have rw':Rw (rs.take m):=⟨by omega,fun r z=>hr.len r (List.mem_of_mem_take z),fun r z=>hr.no r (List.mem_of_mem_take z)⟩
 have ne:rs.take m≠[]:=fun z=>by rw[z]at tl;simp at tl;omega
 have nj:jl [10] (rs.take m)≠[]:=by
  cases hq:rs.take m with
  |nil=>exact absurd hq ne
  |cons q t=>exact Z1g (h.ne q (List.mem_of_mem_take (by rw[hq];exact List.mem_cons_self)))
 obtain⟨vs,_,e⟩:=Zqq (ks:=ks.take m) (rw'.txt ne nj) (by rw[tl,kl]) (h.take m) (Zqv (nd.sublist (List.take_sublist m ks))) (by omega)
 exact⟨vs,e⟩
theorem Zmf{ks rs:List (List Nat)}(h:Rows ks rs)(nd:ks.Nodup)(hl:rs.length≤ks.length)(h20:ks.length≤19)(m:Nat)(h1:1≤m)(h2:m≤rs.length)(t:List Nat)(q:List (List Nat))(hq:∀r∈q,r∈rs)(ql:q.length≤rs.length- m)(pt:Pl t 400)(hb:BadR t∨∃ab,GR t ab∧ab∈ks.take m):Gen.Zx [.str (S (jl [10] (rs.take m++t::q)))]=some (.x (NL ((m+1:Nat):Int))):=by
 have hr:=h.rw hl h20
 have tl:(rs.take m).length=m:=by rw[List.length_take];omega
 have kl:(ks.take m).length=m:=by rw[List.length_take];omega
 have rw':Rw (rs.take m++t::q):=by
  refine⟨by rw[List.length_append,List.length_cons,tl];have:=hr.few;omega,fun r z=>?_,fun r z=>?_⟩
  ·rcases List.mem_append.mp z with z|z
   ·exact hr.len r (List.mem_of_mem_take z)
   rcases List.mem_cons.mp z with z|z
   ·rw[z];exact pt.le
   ·exact hr.len r (hq r z)
  ·rcases List.mem_append.mp z with z|z
   ·exact hr.no r (List.mem_of_mem_take z)
   rcases List.mem_cons.mp z with z|z
   ·rw[z];exact pt.ln
   ·exact hr.no r (hq r z)
 have nj:jl [10] (rs.take m++t::q)≠[]:=by
  cases hz:rs.take m with
  |nil=>rw[hz]at tl;simp at tl;omega
  |cons x y=>exact Z1g (h.ne x (List.mem_of_mem_take (by rw[hz];exact List.mem_cons_self)))
 have:=Zmb (ks:=ks.take m) (p:=rs.take m) (r:=t) (q:=q) (rw'.txt (by simp) nj) (by rw[tl,kl]) (h.take m) (Zqv (nd.sublist (List.take_sublist m ks))) (by omega) pt.asc (Nat.le_trans pt.le (by decide)) hb
 rw[tl]at this
 exact this
end My
namespace My
open DL PySem
theorem Zqw{d:D}{ks:List L2.Key}{vs:List D}(h:Gen.Zx [d]=some (.v (.oK ks vs))):Gen.Zu [d]=some (.oK ks vs):=by
 unfold Gen.Zu Gen.Zc7
 simp[h]
theorem Zmg(n:Int):neY (REF n) (REF n)=some (.fz (.bl false)):=by
 unfold REF
 simp
theorem Zuh(n:Int):neY (.int n) (.int n)=some (.fz (.bl false)):=by simp
theorem Z4j(a0 a1:Option SV)(fs ks rs:List (List Nat))(hl:fs.length=3)(hf:∀f∈fs,Nm f)(hk:∀k∈ks,Nm k)(nd:ks.Nodup)(h:Rows ks rs)(hr2:2≤rs.length)(hrk:rs.length≤ks.length)(h20:ks.length≤19)(c i:Int)(x7 x8 x9 x10 x11 x12 x13:Option SV):
  ∃y9 y10 y11 y12,Gen.Zhj [a0,a1,some (.ol (wsD fs)),some (.ol (wsD ks)),some (.ol (wsD rs)),some (.fz (.int i)),some (.fz (.int c)),x7,x8,x9,x10,x11,x12,x13]=some (.nx [a0,a1,some (.ol (wsD fs)),some (.ol (wsD ks)),some (.ol (wsD rs)),some (.fz (.int i)),some (.fz (.int c)),x7,x8,y9,y10,y11,y12,x13]):=by
 have m1:=Zd0 (c+i) 69621 (by decide)
 have n0:=Ze3 (c+i) 69621
 generalize (c+i) % 2147483647*69621 % 2147483647=N at*
 have p0:(0:Int)<(rs.length:Int)- 1:=by omega
 have q0:0≤N / 4096 % ((rs.length:Int)- 1):=Int.emod_nonneg _ (by omega)
 have q1:N / 4096 % ((rs.length:Int)- 1)<(rs.length:Int)- 1:=Int.emod_lt_of_pos _ p0
 obtain⟨m,hm⟩:=Int.eq_ofNat_of_zero_le (show 0≤1+N / 4096 % ((rs.length:Int)- 1) by omega)
 have hm1:1≤m:=by omega
 have hm2:m<rs.length:=by omega
 have pm:(0:Int)<(m:Int):=by omega
 have mk:m<ks.length:=by omega
 have ek:ks[m]? =some ks[m]:=List.getElem?_eq_getElem mk
 have atk:L2.atI (wsD ks) (m:Int)=some (.str (S ks[m])):=Zfw _ _ _ (by rw[List.getElem?_map,ek];rfl)
 have nk:=hk ks[m] (List.getElem_mem mk)
 obtain⟨j,hj⟩:=Int.eq_ofNat_of_zero_le (Int.emod_nonneg (N / 64) (show(m:Int)≠0 by omega))
 have hjm:j<m:=by have:=Int.emod_lt_of_pos (N / 64) pm;omega
 have jk:j<ks.length:=by omega
 have ej:ks[j]? =some ks[j]:=List.getElem?_eq_getElem jk
 have atj:L2.atI (wsD ks) (N / 64 % (m:Int))=some (.str (S ks[j])):=by rw[hj];exact Zfw _ _ _ (by rw[List.getElem?_map,ej];rfl)
 have na:=hk ks[j] (List.getElem_mem jk)
 have jin:ks[j]∈ks.take m:=by
  rw[List.mem_take_iff_getElem]
  exact⟨j,by omega,rfl⟩
 obtain⟨d,hd,atf⟩:=Zl2 (wsD fs) (N / 32) 3 (by rw[List.length_map,hl];rfl) (by decide)
 obtain⟨f,hff,rfl⟩:=List.mem_map.mp hd
 obtain⟨t,sp,es⟩:=Znh nk na (hf f hff) N
 have tb:=Zgr (Zmf h nd hrk h20 m hm1 (by omega) t (rs.drop (m+1)) (fun r z=>List.mem_of_mem_drop z) (by rw[List.length_drop];omega) sp.pl (by
  rcases sp.bad with z|z
  ·exact .inl z
  ·exact .inr ⟨_,z,jin⟩))
 obtain⟨vs,tg⟩:=Zjn h nd hrk h20 m hm1 (by omega)
 have tg:=Zqw tg
 have hr:=h.rw hrk h20
 have rw1:Rw (rs.take m++t::rs.drop (m+1)):=by
  refine⟨by rw[List.length_append,List.length_cons,List.length_take,List.length_drop];have:=hr.few;omega,fun r z=>?_,fun r z=>?_⟩
  ·rcases List.mem_append.mp z with z|z
   ·exact hr.len r (List.mem_of_mem_take z)
   rcases List.mem_cons.mp z with z|z
   ·rw[z];exact sp.pl.le
   ·exact hr.len r (List.mem_of_mem_drop z)
  ·rcases List.mem_append.mp z with z|z
   ·exact hr.no r (List.mem_of_mem_take z)
   rcases List.mem_cons.mp z with z|z
   ·rw[z];exact sp.pl.ln
   ·exact hr.no r (List.mem_of_mem_drop z)
 have rw2:Rw (rs.take m):=⟨by rw[List.length_take];have:=hr.few;omega,fun r z=>hr.len r (List.mem_of_mem_take z),fun r z=>hr.no r (List.mem_of_mem_take z)⟩
 obtain⟨j1,j2,j3⟩:=rw1.join
 obtain⟨k1,k2,k3⟩:=rw2.join
 have c1:cutD (wsD rs) none (some (m:Int))=wsD (rs.take m):=by
  exact(Z0h _ _ (by rw[List.length_map];omega)).trans List.map_take.symm
 have c2:cutD (wsD rs) (some ((m:Int)+1)) none=wsD (rs.drop (m+1)):=by
  exact(Zl1 (wsD rs) (m+1) (by rw[List.length_map];omega)).trans List.map_drop.symm
 have c3:wsD (rs.take m++t::rs.drop (m+1))=wsD (rs.take m)++ .str (S t)::wsD (rs.drop (m+1)):=by simp
 rw[c3]at j3
 have kl:(inrs ((ks.take m).map S)).length=m:=by rw[List.length_map,List.length_map,List.length_take];omega
 have lr:((wsD rs).length:Int)=(rs.length:Int):=by rw[List.length_map]
 have z1:1≤PySem.sizeLine:=Zq (by decide)
 have zt:(wsD (rs.take m)).length+1≤PySem.sizeLine:=Zq (by rw[List.length_map,List.length_take];have:=hr.few;omega)
 have zd:(wsD (rs.take m)).length+1+(wsD (rs.drop (m+1))).length≤PySem.sizeLine:=Zq (by rw[List.length_map,List.length_map,List.length_take,List.length_drop];have:=hr.few;omega)
 have re:=Zmg ((m:Int)+1)
 have tb:Gen.Zu [.str (S (jl [10] (rs.take m++t::rs.drop (m+1))))]=some (.fz (REF ((m:Int)+1))):=tb
 refine⟨some (.fz (.int N)),some (.fz (.int (m:Int))),some (.fz (.str (S t))),some (.oK (inrs ((ks.take m).map S)) vs),?_⟩
 generalize inrs ((ks.take m).map S)=IK at*
 generalize S (jl [10] (rs.take m++t::rs.drop (m+1)))=J1 at*
 generalize S (jl [10] (rs.take m))=J2 at*
 generalize (rs.take m++t::rs.drop (m+1)).map S=M1 at*
 generalize (rs.take m).map S=M2 at*
 generalize wsD (rs.take m)=WT at*
 generalize wsD (rs.drop (m+1))=WD at*
 generalize wsD rs=WR at*
 generalize wsD ks=WK at*
 generalize wsD fs=WF at*
 generalize S ks[m]=KM at*
 generalize S ks[j]=KJ at*
 generalize S f=F at*
 generalize S t=T at*
 have ne1:¬(rs.length:Int)- 1=0:=by omega
 have g1:(1:Int)<(rs.length:Int):=by omega
 have ne2:¬(m:Int)=0:=by omega
 have u1:(rs.length:Int)- 1<1073741824:=by have:=hr.few;omega
 have u2:(m:Int)<1073741824:=by have:=hr.few;omega
 have lw:(WR.length:Int)=(rs.length:Int):=lr
 have kl':(IK.length:Int)=(m:Int):=by rw[kl]
 clear c3 hd hff sp jin na nk ej ek jk mk hm1 hm2 hjm q0 q1 rw1 rw2 hr h nd hk hf hl
 generalize (rs.length:Int)=RL at*
 generalize (m:Int)=MI at*
 unfold Gen.Zhj
 simp[-neY,Zuh,g1,m1,lw,hm,p0,ne1,ne2,pm,u1,u2,atk,atj,atf,es,c1,c2,z1,z3,zt,zd,nl_S,j1,j2,j3,tb,re,k1,k2,k3,tg,kl']
theorem Z1i(a0 a1:Option SV)(fs ks rs:List (List Nat))(hl:fs.length=3)(hf:∀f∈fs,Nm f)(hk:∀k∈ks,Nm k)(nd:ks.Nodup)(h:Rows ks rs)(hr2:2≤rs.length)(hrk:rs.length≤ks.length)(h20:ks.length≤19)(x7 x8 x13:Option SV):∀(cs:List Int) (s:Nat) (x5 x6 x9 x10 x11 x12:Option SV),
  ∃y5 y6 y9 y10 y11 y12,forD (Zcm 2 (Zaa (Zn 5) (Zaa (Zn 6) (Zcq)))) Gen.Zhj (Zm6 s (cs.map D.int)) [a0,a1,some (.ol (wsD fs)),some (.ol (wsD ks)),some (.ol (wsD rs)),x5,x6,x7,x8,x9,x10,x11,x12,x13]=some (.nx [a0,a1,some (.ol (wsD fs)),some (.ol (wsD ks)),some (.ol (wsD rs)),y5,y6,x7,x8,y9,y10,y11,y12,x13])
 | [],s,x5,x6,x9,x10,x11,x12=>⟨x5,x6,x9,x10,x11,x12,rfl⟩
 |c::cs,s,x5,x6,x9,x10,x11,x12=>by
  obtain⟨y9,y10,y11,y12,e1⟩:=Z4j a0 a1 fs ks rs hl hf hk nd h hr2 hrk h20 c (s:Int) x7 x8 x9 x10 x11 x12 x13
  obtain⟨z5,z6,z9,z10,z11,z12,e2⟩:=Z1i a0 a1 fs ks rs hl hf hk nd h hr2 hrk h20 x7 x8 x13 cs (s+1) (some (.fz (.int (s:Int)))) (some (.fz (.int c))) y9 y10 y11 y12
  refine⟨z5,z6,z9,z10,z11,z12,?_⟩
  have run:(Zcm 2 (Zaa (Zn 5) (Zaa (Zn 6) (Zcq)))).run (.tup [.int (s:Int),.int c]) [a0,a1,some (.ol (wsD fs)),some (.ol (wsD ks)),some (.ol (wsD rs)),x5,x6,x7,x8,x9,x10,x11,x12,x13]=some [a0,a1,some (.ol (wsD fs)),some (.ol (wsD ks)),some (.ol (wsD rs)),some (.fz (.int (s:Int))),some (.fz (.int c)),x7,x8,x9,x10,x11,x12,x13]:=by
   generalize (s:Int)=I
   simp
  exact(Za0 run e1).trans e2
theorem Zqx:∀rs:List (List Nat),rs≠[]→jl [10] (rs++[[]])=jl [10] rs++[10]
 | [],h=>absurd rfl h
 | [p],_=>by show p++[10]++[]=p++[10];simp
 |p::q::r,_=>by
  have ih:=Zqx (q::r) (by simp)
  show p++[10]++jl [10] (q::r++[[]])=p++[10]++jl [10] (q::r)++[10]
  rw[ih];simp
theorem Zk2(ns:List Int)(j:Nat):∃c:Int,Gen.Z6 [.lst (ns.map D.int),.int (j:Int)]=some (.fz (.int c)):=by
 unfold Gen.Z6 Gen.Zch
 by_cases h:j<ns.length
 ·have h1:(j:Int)<(ns.length:Int):=by omega
  have e:L2.atI (ns.map D.int) (j:Int)=some (.int ns[j]):=Zfw _ _ _ (by simp[h])
  exact⟨ns[j],by simp[e,h1,h]⟩
 ·have h1:¬(j:Int)<(ns.length:Int):=by omega
  exact⟨0,by simp[h1,h]⟩
theorem Zxb(t:List Nat)(ht:t∈[[120],[32]]):Gen.Zu [.str (S t)]=some (.fz (REF 1)):=by
 have key:BadR t∧Pl t 400∧t≠[]:=by
  simp only[List.mem_cons,List.not_mem_nil,or_false]at ht
  rcases ht with rfl|rfl
  ·exact⟨.inl (by decide),⟨by decide,by decide⟩,by decide⟩
  ·exact⟨.inl (by decide),⟨by decide,by decide⟩,by decide⟩
 have:=Zmb (ks:=[]) (p:=[]) (r:=t) (q:=[]) ⟨by simp,fun r hr=>by rw[List.mem_singleton.mp hr];exact key.2.1.ln,key.2.2,by show t.length≤_;have:=key.2.1.le;omega,by show 1≤1000;decide⟩ rfl (fun i r k e _=>by simp at e) List.nodup_nil (by decide) key.2.1.asc (by have:=key.2.1.le;omega) (.inl key.1)
 exact Zgr this
theorem ref1:neY (REF 1) (REF 1)=some (.fz (.bl false)):=Zmg 1
theorem Zxc{d:D}(h:Gen.Zu [d]=some (.fz (REF 1)))(a0 a1 a2 a3 a4 a5 a6 a7 a8 a9 a10 a11 a12:Option SV):Gen.Zhk [a0,a1,a2,a3,a4,a5,a6,a7,a8,a9,a10,a11,a12,some (.fz d)]=some (.nx [a0,a1,a2,a3,a4,a5,a6,a7,a8,a9,a10,a11,a12,some (.fz d)]):=by
 have r1:=ref1
 unfold REF at*
 unfold Gen.Zhk
 simp[-neY,h,z3,r1]
theorem Z4k{R:List D}(h1:Gen.Zu [.non]=some (.fz (REF 1)))(h2:Gen.Zu [.lst R]=some (.fz (REF 1)))(h3:Gen.Zu [.int 5]=some (.fz (REF 1)))(a0 a1 a2 a3 a4 a5 a6 a7 a8 a9 a10 a11 a12 x:Option SV):∃y,forD (Zn 13) Gen.Zhk [.non,.lst R,.int 5] [a0,a1,a2,a3,a4,a5,a6,a7,a8,a9,a10,a11,a12,x]=some (.nx [a0,a1,a2,a3,a4,a5,a6,a7,a8,a9,a10,a11,a12,y]):=by
 refine⟨some (.fz (.int 5)),?_⟩
 exact(Za0 (by simp) (Zxc h1 a0 a1 a2 a3 a4 a5 a6 a7 a8 a9 a10 a11 a12)).trans ((Za0 (by simp) (Zxc h2 a0 a1 a2 a3 a4 a5 a6 a7 a8 a9 a10 a11 a12)).trans ((Za0 (by simp) (Zxc h3 a0 a1 a2 a3 a4 a5 a6 a7 a8 a9 a10 a11 a12)).trans rfl))
theorem law_true(ns:List Int)(hns:ns.length≤63):Gen.Zhl [.lst (ns.map D.int)]=some (.fz (.bl true)):=by
 obtain⟨c0,e0⟩:=Zk2 ns 0
 obtain⟨c1,e1⟩:=Zk2 ns 1
 obtain⟨c2,e2⟩:=Zk2 ns 2
 have i0:((0:Nat):Int)=0:=rfl
 have i1:((1:Nat):Int)=1:=rfl
 have i2:((2:Nat):Int)=2:=rfl
 rw[i0]at e0
 rw[i1]at e1
 rw[i2]at e2
 obtain⟨ms,em,hm⟩:∃ms:List Int,cutD (ns.map D.int) (some 3) (some 14)=ms.map D.int∧ms.length≤11:=by
  obtain⟨ms,e,l⟩:=Zws ns (some 3) (some 14)
  refine⟨ms,e,?_⟩
  have:(cutD (ns.map D.int) (some 3) (some 14)).length≤11:=by
   unfold cutD HT.sIx
   simp
   omega
  rw[e,List.length_map]at this
  exact this
 have ec:D.int c1::D.int c2::ms.map D.int=(c1::c2::ms).map D.int:=rfl
 have x1:=Zd0 c0 16807 (by decide)
 have x2:=Zd0 c0 39373 (by decide)
 obtain⟨fs,ef,fl,_,fn⟩:=Zhp (c0 % 2147483647*16807 % 2147483647) (Ze3 c0 16807) 3 (by decide)
 obtain⟨ks,ek,kl,nd,kn⟩:=Zhp (c0 % 2147483647*39373 % 2147483647) (Ze3 c0 39373) 14 (by decide)
 have i3:((3:Nat):Int)=3:=rfl
 have i14:((14:Nat):Int)=14:=rfl
 rw[i3]at ef
 rw[i14]at ek
 have ef:Gen.Zaf [.int (c0 % 2147483647*16807 % 2147483647),.int 3]=some (.ol (wsD fs)):=ef
 have ek:Gen.Zaf [.int (c0 % 2147483647*39373 % 2147483647),.int 14]=some (.ol (wsD ks)):=ek
 have cl:(c1::c2::ms).length=ms.length+2:=rfl
 generalize hA:(some (.fz (.lst (ns.map D.int))):Option SV)=A
 generalize hB:(some (.fz (.lst ((c1::c2::ms).map D.int))):Option SV)=B
 obtain⟨rs,y5,y6,y7,hR,rl,l1⟩:=Z1h A B fs ks fl fn kn none none none none none none (c1::c2::ms) [] none none none ⟨fun i r k e _=>by simp at e,fun r z=>(nomatch z),fun r z=>(nomatch z)⟩ (by rw[cl,kl];simp;omega) (by omega)
 have rl:rs.length=ms.length+2:=by rw[rl,cl];simp
 have h19:ks.length≤19:=by omega
 have hrk:rs.length≤ks.length:=by omega
 obtain⟨vs,tg⟩:=Zjn hR nd hrk h19 rs.length (by omega) (Nat.le_refl _)
 rw[List.take_length]at tg
 have tg:=Zqw tg
 obtain⟨z5,z6,z9,z10,z11,z12,l2⟩:=Z1i A B fs ks rs fl fn kn nd hR (by omega) hrk h19 y7 (some (.oK (inrs ((ks.take rs.length).map S)) vs)) none (c1::c2::ms) 0 y5 y6 none none none none
 have hr:=hR.rw hrk h19
 obtain⟨j1,j2,j3⟩:=hr.join
 have rne:rs≠[]:=fun z=>by rw[z]at rl;simp at rl
 have tb:=Zgr (Zmf hR nd hrk h19 rs.length (by omega) (Nat.le_refl _) [] [] (fun r z=>(nomatch z)) (Nat.zero_le _) ⟨by decide,by decide⟩ (.inl (.inl (by decide))))
 rw[List.take_length,Zqx rs rne,←Zac]at tb
 have jlen:=Zqu (y:=[10]) rs hr.len
 have jm:rs.length*(400+[10].length)≤20*401:=Nat.mul_le_mul hr.few (Nat.le_refl _)
 have zj:(S (jl [10] rs)).length+(S [10]).length≤PySem.sizeLine:=Zq (by rw[Zai,Zai];show _+1≤_;omega)
 have klen:((inrs ((ks.take rs.length).map S)).length:Int)=(rs.length:Int):=by rw[List.length_map,List.length_map,List.length_take];omega
 have lw:((wsD rs).length:Int)=(rs.length:Int):=by rw[List.length_map]
 have t1:=Zgr (Zky .non (by decide) rfl)
 have t2:=Zgr (Zky (.lst (wsD rs)) (by show "list"≠"str";decide) rfl)
 have t3':=Zgr (Zky (.int 5) (by decide) rfl)
 obtain⟨w,hw,ew⟩:=at_S (L:=[Str.ofString "x",Str.ofString " "]) (l:=[[120],[32]]) (by decide+kernel) 2 rfl (by decide) c0
 have tw:=Zxb w hw
 have re:=Zmg
 have z1:1≤PySem.sizeLine:=Zq (by decide)
 have tb:Gen.Zu [.str (S (jl [10] rs)++S [10])]=some (.fz (REF ((rs.length:Int)+1))):=tb
 have zc:2+(ms.map D.int).length≤PySem.sizeLine:=Zq (by rw[List.length_map];omega)
 have enF:=Zwt ((c1::c2::ms).map D.int)
 have l1:forD (Zcm 2 (Zaa (Zn 5) (Zaa (Zn 6) (Zcq)))) Gen.Zf4 (Zm6 0 ((c1::c2::ms).map D.int)) [A,B,some (.ol (wsD fs)),some (.ol (wsD ks)),some (.ol []),none,none,none,none,none,none,none,none,none]=_:=l1
 rw[←enF]at l1 l2
 subst hA hB
 rw[←ec]at l1 l2
 obtain⟨y13,l3⟩:=Z4k t1 t2 t3' (some (.fz (.lst (ns.map D.int)))) (some (.fz (.lst (D.int c1::D.int c2::ms.map D.int)))) (some (.ol (wsD fs))) (some (.ol (wsD ks))) (some (.fz (.lst (wsD rs)))) z5 z6 y7 (some (.oK (inrs ((ks.take rs.length).map S)) vs)) z9 z10 z11 z12 none
 have rr:=Zmg ((rs.length:Int)+1)
 have eq1:eqY (REF 1) (REF 1)=some (.fz (.bl true)):=by unfold REF;simp
 simp only[List.map_cons,List.map_nil]at ew
 have ni:=Zuh (rs.length:Int)
 have z2':=z2
 have z3':=z3
 have jn:=nl_S
 generalize inrs ((ks.take rs.length).map S)=IK at*
 generalize S (jl [10] rs)=J at*
 generalize rs.map S=RM at*
 generalize wsD rs=WR at*
 generalize wsD ks=WK at*
 generalize wsD fs=WF at*
 generalize (rs.length:Int)=RL at*
 generalize c0 % 2147483647*16807 % 2147483647=C1 at*
 generalize c0 % 2147483647*39373 % 2147483647=C2 at*
 generalize ms.map D.int=MS at*
 generalize ns.map D.int=NS at*
 generalize S w=SW at*
 unfold REF at*
 unfold Gen.Zhl Gen.Zww
 simp[-forD,-neY,-eqY,e0,e1,e2,em,zc,x1,x2,ef,ek,l1,jn,j1,j2,j3,tg,klen,lw,ni,l2,zj,tb,rr,l3,ew,tw,eq1,z1,z2',z3']
end My
def PySem.W.Fast.tw4810543312588584523:=()
def PySem.W.Fast.tw8272402135916763241:=()
def PySem.W.Fast.tw4141666377799516673:=()
def PySem.W.Fast.tw8568816607965359328:=()
def PySem.W.Fast.tw18332151744952713417:=()
def PySem.W.Fast.tw8853006624279888458:=()
def PySem.W.Fast.tw6811193411546189193:=()
def PySem.W.Fast.tw4058553026632447863:=()
def PySem.W.Fast.tw10642680330143830491:=()
def PySem.W.Fast.tw6742464512589042202:=()
def PySem.W.Fast.tw9405699229247026255:=()
def PySem.W.Fast.tw13654421550926169637:=()
def PySem.W.Fast.tw13755594473746752457:=()
def PySem.W.Fast.tw13664837686925283257:=()
def PySem.W.Fast.tw7223155365719839917:=()
def PySem.W.Fast.tw6823040778345549535:=()
open PySem PySem.W PyProof.Rows
set_option maxRecDepth 100000 in
set_option maxHeartbeats 0 in
theorem PySem.Challenge.cw_citeward_k52_what_is_no_list_holds : PySem.Challenge.rw_citeward_k52_what_is_no_list.Holds := by
  w_on; o_law; k_head; (case hw => w_witness2)
  k_fill
  refine Gen.walk (l := PySem.Challenge.rw_citeward_k52_what_is_no_list) rfl rfl (fun w h Y => PySem.W.kIn_of Y) ?F My.law_true
  case F =>
    intro w mg fa h KX G hmg
    refine' Gen.Z0j KX G hmg ?ax0 ?Fx0 ?kx0 ?ax1 ?Fx1 ?kx1 ?ax2 ?Fx2 ?kx2 ?ax3 ?Fx3 ?kx3 ?ax4 ?Fx4 ?kx4 ?ax5 ?Fx5 ?kx5 ?ax6 ?Fx6 ?kx6 ?ax7 ?Fx7 ?kx7 ?ax8 ?Fx8 ?kx8 ?ax9 ?Fx9 ?kx9 ?ax10 ?Fx10 ?kx10 ?ax11 ?Fx11 ?kx11 ?ax12 ?Fx12 ?kx12 ?ax13 ?Fx13 ?kx13 ?ax14 ?Fx14 ?kx14 ?ax15 ?Fx15 ?kx15 ?ax16 ?lx16 ?cx16 ?kx16 ?zValueError ?zall ?zdict ?zenumerate ?zint ?zisinstance ?zlen ?zrange ?zstr ?zx0 ?zx1 ?zx2 ?zx3 ?zx4 ?zc_CiteError ?zc_NoList ?zc_NoName ?zc_NoPlain ?zc_NoText ?axi0 ?lxi0 ?cxi0 ?kxi0 ?ty_NoList ?ic_NoList ?be_NoList ?h_NoList_NoList ?q0_NoList ?q1_NoList ?q2_NoList ?q3_NoList ?q4_NoList ?ecl_NoList ?ega_NoList ?egt_NoList ?eca_NoList ?egs_NoList ?etk_NoList ?eob_NoList ?ebe_NoList ?if_NoList ?es1_NoList ?es2_NoList ?es3_NoList ?es4_NoList ?eg4_NoList ?ow_NoList
    (case ax0 => k_is)
    (case Fx0 => exact ⟨_, L2.Za4 (by k_is) (by k_is) (by k_is)⟩)
    (case kx0 => k_is)
    (case ax1 => k_is)
    (case Fx1 => exact ⟨_, L2.Za4 (by k_is) (by k_is) (by k_is)⟩)
    (case kx1 => k_is)
    (case ax2 => k_is)
    (case Fx2 => exact ⟨_, L2.Za4 (by k_is) (by k_is) (by k_is)⟩)
    (case kx2 => k_is)
    (case ax3 => k_is)
    (case Fx3 => exact ⟨_, L2.Za4 (by k_is) (by k_is) (by k_is)⟩)
    (case kx3 => k_is)
    (case ax4 => k_is)
    (case Fx4 => exact ⟨_, L2.Za4 (by k_is) (by k_is) (by k_is)⟩)
    (case kx4 => k_is)
    (case ax5 => k_is)
    (case Fx5 => exact ⟨_, L2.Za4 (by k_is) (by k_is) (by k_is)⟩)
    (case kx5 => k_is)
    (case ax6 => k_is)
    (case Fx6 => exact ⟨_, L2.Za4 (by k_is) (by k_is) (by k_is)⟩)
    (case kx6 => k_is)
    (case ax7 => k_is)
    (case Fx7 => exact ⟨_, L2.Za4 (by k_is) (by k_is) (by k_is)⟩)
    (case kx7 => k_is)
    (case ax8 => k_is)
    (case Fx8 => exact ⟨_, L2.Za4 (by k_is) (by k_is) (by k_is)⟩)
    (case kx8 => k_is)
    (case ax9 => k_is)
    (case Fx9 => exact ⟨_, L2.Za4 (by k_is) (by k_is) (by k_is)⟩)
    (case kx9 => k_is)
    (case ax10 => k_is)
    (case Fx10 => exact ⟨_, L2.Za4 (by k_is) (by k_is) (by k_is)⟩)
    (case kx10 => k_is)
    (case ax11 => k_is)
    (case Fx11 => exact ⟨_, L2.Za4 (by k_is) (by k_is) (by k_is)⟩)
    (case kx11 => k_is)
    (case ax12 => k_is)
    (case Fx12 => exact ⟨_, L2.Za4 (by k_is) (by k_is) (by k_is)⟩)
    (case kx12 => k_is)
    (case ax13 => k_is)
    (case Fx13 => exact ⟨_, L2.Za4 (by k_is) (by k_is) (by k_is)⟩)
    (case kx13 => k_is)
    (case ax14 => k_is)
    (case Fx14 => exact ⟨_, L2.Za4 (by k_is) (by k_is) (by k_is)⟩)
    (case kx14 => k_is)
    (case ax15 => k_is)
    (case Fx15 => exact ⟨_, L2.Za4 (by k_is) (by k_is) (by k_is)⟩)
    (case kx15 => k_is)
    (case ax16 => k_is)
    (case lx16 => k_is)
    (case cx16 => k_is)
    (case kx16 => k_is)
    (case zValueError => k_is)
    (case zall => k_is)
    (case zdict => k_is)
    (case zenumerate => k_is)
    (case zint => k_is)
    (case zisinstance => k_is)
    (case zlen => k_is)
    (case zrange => k_is)
    (case zstr => k_is)
    (case zx0 => k_is)
    (case zx1 => k_is)
    (case zx2 => k_is)
    (case zx3 => k_is)
    (case zx4 => k_is)
    (case zc_CiteError => k_is)
    (case zc_NoList => k_is)
    (case zc_NoName => k_is)
    (case zc_NoPlain => k_is)
    (case zc_NoText => k_is)
    (case axi0 => k_is)
    (case lxi0 => k_is)
    (case cxi0 => k_is)
    (case kxi0 => k_is)
    (case ty_NoList => k_is)
    (case ic_NoList => k_is)
    (case be_NoList => k_is)
    (case h_NoList_NoList => k_is)
    (case q0_NoList => kit_is)
    (case q1_NoList => kit_is)
    (case q2_NoList => kit_is)
    (case q3_NoList => kit_is)
    (case q4_NoList => kit_is)
    (case ecl_NoList => k_is)
    (case ega_NoList => k_is)
    (case egt_NoList => k_is)
    (case eca_NoList => k_is)
    (case egs_NoList => k_is)
    (case etk_NoList => k_is)
    (case eob_NoList => k_is)
    (case ebe_NoList => k_is)
    (case if_NoList => k_is)
    (case es1_NoList => k_is)
    (case es2_NoList => k_is)
    (case es3_NoList => k_is)
    (case es4_NoList => kernel_rfl)
    (case eg4_NoList => kernel_rfl)
    (case ow_NoList => kernel_rfl)
