import PyProof.Rows.All
import Wide.All
import OpenK.AllK
import Wide.FinOn
import Lean
import PyProof.EqAt
import PyProof.EqKinds
import PyProof.TupleCall
import PyProof.NeKinds
import PyProof.EnumMake
import PyProof.ConsumeWalk
import PyProof.StrWalks
import PyProof.WalksMore
import PyProof.StrLawsNeg
import KE.KLam
import KE.KSortTup
import PySem.Challenge.RW_citeward_k31_the_order_of_a_list
set_option Elab.async false
set_option linter.all false
set_option genSizeOf false
set_option genSizeOfSpec false
set_option maxRecDepth 100000
set_option maxHeartbeats 4000000
namespace L2
open PySem PySem.Spec PyProof.Rows
noncomputable abbrev Key:=Sum Int Str
noncomputable def Zd0:Key→Value→Bool
 | .inl k,v=>Value.isInt k v
 | .inr x,v=>Value.isStrOf x v
noncomputable def keyH(w:World):Key→Int
 | .inl k=>hashInt k
 | .inr x=>hashStr w x
theorem Zs:∀{k:Key} {v:Value},Zd0 k v=true→(∃i t,k=Sum.inl i∧v=Value.int i t)∨(∃x t,k=Sum.inr x∧v=Value.str x t)
 | .inl i,v,h=>by
  obtain⟨t,e⟩:=Value.isInt_shape (k:=i) (v:=v) h
  exact .inl ⟨i,t,rfl,e⟩
 | .inr x,v,h=>by
  obtain⟨t,e⟩:=Value.isStrOf_shape (x:=x) (v:=v) h
  exact .inr ⟨x,t,rfl,e⟩
theorem Zkr(i:Int)(t:Tok):Zd0 (.inl i) (.int i t)=true:=by simp[Zd0,Value.isInt]
theorem Zks(x:Str)(t:Tok):Zd0 (.inr x) (.str x t)=true:=by simp[Zd0,Value.isStrOf]
theorem Ztl(a b:Int):decide ((Sum.inl a:Key)=Sum.inl b)=(a==b):=by
 by_cases e:a=b
 ·subst e;simp
 ·have h:¬(Sum.inl a:Key)=Sum.inl b:=fun q=>e (Sum.inl.inj q)
  rw[decide_eq_false h]
  exact(beq_eq_false_iff_ne.mpr e).symm
theorem Ztm(a b:Str):decide ((Sum.inr a:Key)=Sum.inr b)=decide (a=b):=by
 by_cases e:a=b
 ·subst e;simp
 ·have h:¬(Sum.inr a:Key)=Sum.inr b:=fun q=>e (Sum.inr.inj q)
  rw[decide_eq_false h,decide_eq_false e]
theorem Ztn(a:Int)(b:Str):decide ((Sum.inl a:Key)=Sum.inr b)=false:=decide_eq_false (fun q=>nomatch q)
theorem Zto(a:Str)(b:Int):decide ((Sum.inr a:Key)=Sum.inl b)=false:=decide_eq_false (fun q=>nomatch q)
noncomputable def Zp(prog:Program)(w:World):PySem.KeyKind prog w Key where
 is:=Zd0
 hash:=keyH w
 inj:=fun v a b ha hb=>by
  rcases Zs ha with⟨i,t,rfl,rfl⟩|⟨x,t,rfl,rfl⟩
  ·rcases Zs hb with⟨j,u,rfl,e⟩|⟨y,u,rfl,e⟩
   ·injection e with e1 _;rw[e1]
   ·exact nomatch e
  ·rcases Zs hb with⟨j,u,rfl,e⟩|⟨y,u,rfl,e⟩
   ·exact nomatch e
   ·injection e with e1 _;rw[e1]
 byValue:=fun k v h=>by
  rcases Zs h with⟨i,t,rfl,rfl⟩|⟨x,t,rfl,rfl⟩<;> rfl
 pyHash:=fun hv h=>by
  rcases Zs hv with⟨i,t,rfl,rfl⟩|⟨x,t,rfl,rfl⟩
  ·exact wpAny_pyHash_int h
  ·exact wpAny_pyHash_str h
 eqBool:=fun hu hv h=>by
  rcases Zs hu with⟨i,t,rfl,rfl⟩|⟨x,t,rfl,rfl⟩
  ·rcases Zs hv with⟨j,u,rfl,rfl⟩|⟨y,u,rfl,rfl⟩
   ·rw[Ztl]at h;exact wpAny_eqBool_int h
   ·rw[Ztn]at h;exact SeqAt.EqAt.int_str i t y u _ _ _ _ h
  ·rcases Zs hv with⟨j,u,rfl,rfl⟩|⟨y,u,rfl,rfl⟩
   ·rw[Zto]at h;exact SeqAt.EqAt.str_int x t j u _ _ _ _ h
   ·rw[Ztm]at h;exact wpAny_eqBool_str h
 «strs»:=fun k x t v h=>by
  rcases Zs h with⟨i,u,rfl,e⟩|⟨y,u,rfl,e⟩
  ·exact nomatch e
  ·injection e with e1 _
   subst e1
   cases v<;> rfl
theorem Ztg(prog:Program)(w:World)(k:Key)(v:Value):(Zp prog w).is k v=Zd0 k v:=rfl
theorem Zhp(prog:Program)(w:World)(i:Int)(t:Tok):(Zp prog w).is (.inl i) (.int i t)=true:=Zkr i t
theorem Zhq(prog:Program)(w:World)(x:Str)(t:Tok):(Zp prog w).is (.inr x) (.str x t)=true:=Zks x t
end L2
namespace L2
open PySem PySem.Spec PyProof.Rows
inductive V where
 |non|bl (b:Bool)|int (i:Int)|str (x:Str)|byt (b:Array UInt8)|flt (b:UInt64)|ref (a:Addr)|ty (n:String)
 deriving DecidableEq
noncomputable def RelV:V→Value→Prop
 | .non,u=>u=Value.none
 | .bl b,u=>u=Value.bool b
 | .int i,u=>∃t,u=Value.int i t
 | .str x,u=>∃t,u=Value.str x t
 | .byt b,u=>∃t,u=Value.bytes b t
 | .flt b,u=>∃t,u=Value.float b t
 | .ref a,u=>u=Value.ref a
 | .ty n,u=>u=Value.type n
noncomputable abbrev Vals:List V→List Value→Prop:=Paired RelV
theorem Vals.length{xs:List V}{us:List Value}(r:Vals xs us):xs.length=us.length:=Paired.length r
theorem Vals.get:∀{xs:List V} {us:List Value} {i:Nat} {x:V},Vals xs us→xs[i]? =some x→∃u,us[i]? =some u∧RelV x u
 |_,_,_,_,.nil,e=>by simp at e
 |_,_,0,_,.cons r _,e=>by simp at e;subst e;exact⟨_,rfl,r⟩
 |_,_,i+1,x,.cons _ t,e=>by
  obtain⟨u,h1,h2⟩:=Vals.get (i:=i) (x:=x) t (by simpa using e)
  exact⟨u,by simpa using h1,h2⟩
theorem Vals.append:∀{xs ys:List V} {us ws:List Value},Vals xs us→Vals ys ws→Vals (xs++ys) (us++ws)
 |_,_,_,_,.nil,s=>s
 |_,_,_,_,.cons r t,s=>.cons r (Vals.append t s)
theorem Vals.take:∀{xs:List V} {us:List Value} (n:Nat),Vals xs us→Vals (xs.take n) (us.take n)
 |_,_,0,_=>.nil
 |_,_,_+1,.nil=>.nil
 |_,_,n+1,.cons r t=>.cons r (Vals.take n t)
theorem Vals.drop:∀{xs:List V} {us:List Value} (n:Nat),Vals xs us→Vals (xs.drop n) (us.drop n)
 |_,_,0,r=>r
 |_,_,_+1,.nil=>.nil
 |_,_,n+1,.cons _ t=>Vals.drop n t
noncomputable def RelO:Option V→Option Value→Prop
 |some v,some u=>RelV v u
 |none,none=>True
 |_,_=>False
noncomputable def KV{κ:Type}:List (κ×V)→List (κ×Value)→Prop:=Paired fun(p:κ×V) (q:κ×Value)=>p.1=q.1∧RelV p.2 q.2
noncomputable def kV:Key→V
 | .inl i=>.int i
 | .inr x=>.str x
inductive HO where
 |lst (xs:List V)
 |tup (xs:List V)
 |dK (kvs:List (Key×V)) (ep:Nat)|dT (kvs:List (List Key×V)) (ep:Nat) (bs:List Addr)
 |set (S:Int→Bool) (n:Nat)
 |ins (C dx:Addr) (fs:List (Str×V))
 |own (x:Addr)
 |xd (fs:List (Str×V))
 |met (f x:Addr)
 |rng (lo hi:Int)
 |frz (o:Obj) (u:HO)
 |tbl (ps:Array Value)
 |tab (q:Str)
 |ext (φ:Heap→Prop)
noncomputable abbrev Hp:=Addr→Option HO
noncomputable def upd(H:Hp)(a:Addr)(o:HO):Hp:=fun b=>if b=a then some o else H b
theorem Zu{H:Hp}{a:Addr}{o:HO}:upd H a o a=some o:=by unfold upd;rw[if_pos rfl]
theorem Zm{H:Hp}{a b:Addr}{o:HO}(h:b≠a):upd H a o b=H b:=by unfold upd;rw[if_neg h]
theorem Zqu{H:Hp}{a:Addr}{o u:HO}:upd (upd H a o) a u=upd H a u:=by
 funext b;unfold upd;split<;> rfl
theorem Zxn{H:Hp}{a b:Addr}{o u:HO}(h:H a=some o)(h':H b=some u)(d:o≠u):a≠b:=by
 intro e;subst e;rw[h]at h';exact d (Option.some.inj h')
theorem Zz{H:Hp}{a b:Addr}{o:HO}(h:H a=some o)(h':H b=none):a≠b:=by
 intro e;subst e;rw[h]at h';cases h'
section
variable(P:Program)(w:World)
noncomputable def Zaj(H:Hp)(h:Heap)(a:Addr):HO→Prop
 | .lst xs=>xs.length≤sizeLine∧∃(its:List Value) (n:Nat),Vals xs its∧h.get? a=some {cls:=.type "list",data:=.seq its.toArray n}
 | .tup xs=>xs.length≤sizeLine∧∃its:List Value,Vals xs its∧IsTup h a its.toArray
 | .dK kvs ep=>kvs.length≤sizeLine∧(a==sysModules)=false∧∃vs,KV kvs vs∧h.DictAt (Zp P w) a vs ep
 | .dT kvs ep bs=>kvs.length≤sizeLine∧(a==sysModules)=false∧∃xs:List (List Key×Addr×Value),
   Paired (fun(p:List Key×V) (q:List Key×Addr×Value)=>p.1=q.1∧H q.2.1=some (.tup (p.1.map kV))∧RelV p.2 q.2.2) kvs xs∧
   ∃o es,h.get? a=some o∧o.ExactDict∧o.data= .dict es ep∧es.toList=xs.map (entryOfKey (tupleKind (Zp P w)))∧(xs.map (·.1)).Nodup∧(xs.map fun x=>x.2.1)=bs
 | .set S n=>h.SetOf (intKind P w) a S n
 | .ins C dx fs=>H dx=some (.own a)∧fs.length≤1000∧dx≠a∧h.get? a=some (PySem.W.instObj C dx)∧
   ∃mA,h.Ns1 dx mA∧(∀f,RelO (fs.lookup f) (mA f))∧PySem.Within mA (fs.map (·.1))
 | .own _=>∃o,h.get? a=some o
 | .xd fs=>∃mA,h.Ns1 a mA∧∀f,RelO (fs.lookup f) (mA f)
 | .rng lo hi=>∃t u v,h.get? a=some {cls:=.type "range",data:=.fields #[.int lo t,.int hi u,.int 1 v]}
 | .frz o u=>h.get? a=some o∧Zaj H h a u
 | .tbl ps=>h.get? a=some {cls:=.none,data:=.fields ps}
 | .met f x=>h.get? a=some (PySem.W.methodObj (.ref f) (.ref x))
 | .tab q=>∃ps:Array Value,h.get? a=some {cls:=.none,data:=.fields ps}∧TriplesOk ps.toList∧∀pos cv,codeAmong pos ps.toList=some cv→∃c o vs t,cv= .ref c∧H c=some (.frz o (.own a))∧o.data= .fields vs∧vs[1]? =some (.str q t)
 | .ext φ=>φ h∧(∃o,h.get? a=some o)∧∀h1 h2:Heap,φ h1→(∀o,h1.get? a=some o→h2.get? a=some o)→φ h2
noncomputable def HOk(H:Hp)(h:Heap):Prop:=∀a o,H a=some o→Zaj P w H h a o
end
section
variable{P:Program}{w:World}{H H':Hp}{h h':Heap}{a:Addr}{o:HO}
theorem Zaj.lt(x:Zaj P w H h a o):a<h.objs.size:=by
 cases o with
 |lst xs=>obtain⟨_,_,_,_,e⟩:=x;exact Heap.lt_size e
 |tup xs=>obtain⟨_,_,_,p⟩:=x;exact p.lt
 |dK kvs ep=>obtain⟨_,_,_,_,o,_,e,_⟩:=x;exact Heap.lt_size e
 |dT kvs ep bs=>obtain⟨_,_,_,_,o,_,e,_⟩:=x;exact Heap.lt_size e
 |set S n=>obtain⟨o,_,_,_,e,_⟩:=x;exact Heap.lt_size e
 |ins C dx fs=>obtain⟨_,_,_,e,_⟩:=x;exact Heap.lt_size e
 |own y=>obtain⟨_,e⟩:=x;exact Heap.lt_size e
 |xd fs=>obtain⟨_,⟨_,_,_,e,_⟩,_⟩:=x;exact Heap.lt_size e
 |rng lo hi=>obtain⟨_,_,_,e⟩:=x;exact Heap.lt_size e
 |frz ob u=>obtain⟨e,_⟩:=x;exact Heap.lt_size e
 |tbl ps=>exact Heap.lt_size (show h.get? a=some _ from x)
 |met f y=>exact Heap.lt_size (show h.get? a=some _ from x)
 |tab q=>obtain⟨_,e,_⟩:=x;exact Heap.lt_size e
 |ext φ=>obtain⟨_,⟨_,e⟩,_⟩:=x;exact Heap.lt_size e
theorem Paired.mapP{α β:Type}{F G:α→β→Prop}{l₁:List α}{l₂:List β}(h:Paired F l₁ l₂)(f:∀a b,F a b→G a b):Paired G l₁ l₂:=by
 induction h with
 |nil=>exact .nil
 |cons r _ ih=>exact .cons (f _ _ r) ih
theorem Zaj.stay(x:Zaj P w H h a o)(k:∀b u,(b=a∨H b=some (.own a))→h.get? b=some u→h'.get? b=some u)
  (ho:∀b,H b=some (.own a)→H' b=some (.own a)) (ht:∀b xs,H b=some (.tup xs)→H' b=some (.tup xs))
  (hz:∀b o,H b=some (.frz o (.own a))→H' b=some (.frz o (.own a)):=by first|exact fun _ _ q=>q| (intro b o q;rw[Zm (Zz q (by assumption))];exact q)):Zaj P w H' h' a o:=by
 induction o with
 |lst xs=>obtain⟨z,its,n,r,e⟩:=x;exact⟨z,its,n,r,k _ _ (.inl rfl) e⟩
 |tup xs=>obtain⟨z,its,r,ob,e,c⟩:=x;exact⟨z,its,r,ob,k _ _ (.inl rfl) e,c⟩
 |dK kvs ep=>obtain⟨z,y,vs,r,ob,es,e,c⟩:=x;exact⟨z,y,vs,r,ob,es,k _ _ (.inl rfl) e,c⟩
 |dT kvs ep bs=>
  obtain⟨z,y,xs,r,ob,es,e,c⟩:=x
  exact⟨z,y,xs,Paired.mapP r fun p q z=>⟨z.1,ht _ _ z.2.1,z.2.2⟩,ob,es,k _ _ (.inl rfl) e,c⟩
 |set S n=>obtain⟨ob,es,ep,t,e,c⟩:=x;exact⟨ob,es,ep,t,k _ _ (.inl rfl) e,c⟩
 |ins C dx fs=>
  obtain⟨d,z,ne,e,mA,⟨od,es,ep,e2,c⟩,r⟩:=x
  exact⟨ho _ d,z,ne,k _ _ (.inl rfl) e,mA,⟨od,es,ep,k _ _ (.inr d) e2,c⟩,r⟩
 |own y=>obtain⟨ob,e⟩:=x;exact⟨ob,k _ _ (.inl rfl) e⟩
 |xd fs=>obtain⟨mA,⟨od,es,ep,e,c⟩,r⟩:=x;exact⟨mA,⟨od,es,ep,k _ _ (.inl rfl) e,c⟩,r⟩
 |rng lo hi=>obtain⟨t,u,v,e⟩:=x;exact⟨t,u,v,k _ _ (.inl rfl) e⟩
 |frz ob u ih=>obtain⟨e,q⟩:=x;exact⟨k _ _ (.inl rfl) e,ih q⟩
 |tbl ps=>
  have e:h.get? a=some {cls:=.none,data:=.fields ps}:=x
  show h'.get? a=some {cls:=.none,data:=.fields ps}
  exact k a _ (.inl rfl) e
 |met f y=>
  have e:h.get? a=some (PySem.W.methodObj (.ref f) (.ref y)):=x
  show h'.get? a=some (PySem.W.methodObj (.ref f) (.ref y))
  exact k a _ (.inl rfl) e
 |tab q=>
  obtain⟨ps,e,t,c⟩:=x
  refine⟨ps,k _ _ (.inl rfl) e,t,fun pos cv z=>?_⟩
  obtain⟨c1,o1,vs,tt,e1,e2,r⟩:=c pos cv z
  exact⟨c1,o1,vs,tt,e1,hz _ _ e2,r⟩
 |ext φ=>obtain⟨p,⟨o,e⟩,st⟩:=x;exact⟨st _ _ p fun o q=>k _ _ (.inl rfl) q,⟨o,k _ _ (.inl rfl) e⟩,st⟩
theorem HOk.lt(x:HOk P w H h)(e:H a=some o):a<h.objs.size:=(x a o e).lt
theorem HOk.fresh(x:HOk P w H h)(e:h.objs.size≤a):H a=none:=by
 cases q:H a with
 |none=>rfl
 |some u=>exact absurd (Nat.lt_of_lt_of_le (x.lt q) e) (Nat.lt_irrefl _)
theorem HOk.kept(x:HOk P w H h)(k:∀b u,h.get? b=some u→h'.get? b=some u):HOk P w H h':=fun a o e=>
 (x a o e).stay (fun b u _ q=>k b u q) (fun _ q=>q) fun _ _ q=>q
theorem HOk.laid(x:HOk P w H h)(k:∀b u,h.get? b=some u→h'.get? b=some u)(hp:h.objs.size≤a)(new:Zaj P w (upd H a o) h' a o):HOk P w (upd H a o) h':=fun b u e=>by
 have hn:=x.fresh hp
 by_cases hb:b=a
 ·subst hb;rw[Zu]at e;cases e;exact new
 ·rw[Zm hb]at e
  exact(x b u e).stay (fun c v _ q=>k c v q) (fun c q=>by rw[Zm (Zz q hn)];exact q) fun c xs q=>by rw[Zm (Zz q hn)];exact q
end
noncomputable def Rd(H:Hp)(a:Addr)(u:HO):Prop:=H a=some u∨∃o,H a=some (.frz o u)
theorem Rd.ok{P:Program}{w:World}{H:Hp}{h:Heap}{a:Addr}{u:HO}(r:Rd H a u)(x:HOk P w H h):Zaj P w H h a u:=by
 rcases r with r|⟨o,r⟩
 ·exact x a u r
 ·obtain⟨_,q⟩:=x a _ r
  exact q
noncomputable def HK(H:Hp)(a:Addr)(kvs:List (Key×V)):Prop:=∃ep,H a=some (.dK kvs ep)
noncomputable def HTt(H:Hp)(a:Addr)(kvs:List (List Key×V)):Prop:=∃ep bs,H a=some (.dT kvs ep bs)
noncomputable def RdK(H:Hp)(a:Addr)(kvs:List (Key×V)):Prop:=∃ep,Rd H a (.dK kvs ep)
noncomputable def RdT(H:Hp)(a:Addr)(kvs:List (List Key×V)):Prop:=∃ep bs,Rd H a (.dT kvs ep bs)
theorem HK.rd{H:Hp}{a:Addr}{kvs:List (Key×V)}(h:HK H a kvs):RdK H a kvs:=let⟨ep,h⟩:=h;⟨ep,.inl h⟩
noncomputable def putB(kvs:List (List Key×V))(bs:List Addr)(k:List Key)(b:Addr):List Addr:=if(kvs.any fun kv=>decide (kv.1=k))=true then bs else bs++[b]
theorem HTt.rd{H:Hp}{a:Addr}{kvs:List (List Key×V)}(h:HTt H a kvs):RdT H a kvs:=let⟨ep,bs,h⟩:=h;⟨ep,bs,.inl h⟩
noncomputable def Mut:Option HO→Prop
 |some (.lst _)=>True
 |some (.dK _ _)=>True
 |some (.dT _ _ _)=>True
 |some (.set _ _)=>True
 |some (.ins _ _ _)=>True
 |some (.ext _)=>True
 |_=>False
section
variable{P:Program}{w:World}{H:Hp}{h h':Heap}{x e:Addr}{o':HO}
theorem HOk.write(ok:HOk P w H h)(mu:Mut (H x))(he:e=x∨H e=some (.own x))(k:∀b u,b≠e→h.get? b=some u→h'.get? b=some u)(heo:∃u,h'.get? e=some u)
  (new:Zaj P w (upd H x o') h' x o'):HOk P w (upd H x o') h':=fun b u q=>by
 have nown:∀c y,H c=some (.own y)→c≠x:=fun c y r z=>by subst z;rw[r]at mu;exact mu
 have ntup:∀c xs,H c=some (.tup xs)→c≠x:=fun c xs r z=>by subst z;rw[r]at mu;exact mu
 by_cases hb:b=x
 ·subst hb;rw[Zu]at q;cases q;exact new
 ·rw[Zm hb]at q
  by_cases hbe:b=e
  ·have q':H b=some (.own x):=by
    rcases he with z|z
    ·exact absurd (hbe.trans z) hb
    ·rw[hbe];exact z
   rw[q]at q';cases q'
   obtain⟨v,hv⟩:=heo
   exact⟨v,by rw[hbe];exact hv⟩
  ·refine(ok b u q).stay (fun c v hc r=>k c v ?_ r) (fun c r=>by rw[Zm (nown c b r)];exact r) (fun c xs r=>by rw[Zm (ntup c xs r)];exact r) fun c o r=>by rw[Zm (fun z=>by subst z;rw[r]at mu;exact mu)];exact r
   rcases hc with rfl|hc
   ·exact hbe
   ·rintro rfl
    rcases he with z|z
    ·exact nown c b hc z
    ·rw[hc]at z;cases z;exact hb rfl
end
structure Un(fs ex:List Addr)(H H':Hp)(h h':Heap):Prop where
 keep:∀b o,h.get? b=some o→H b=none→b∉fs→b∉ex→h'.get? b=some o
 slot:∀b o,h.get? b=some o→H b=none→b∈fs→b∉ex→∃sl,h'.get? b=some {o with slots:=sl}
 free:∀b o,h.get? b=some o→H b=none→b∉ex→H' b=none
 there:∀b o,h.get? b=some o→b∉ex→∃o',h'.get? b=some o'
 tups:∀b xs,H b=some (.tup xs)→H' b=some (.tup xs)
 frzs:∀b o u,H b=some (.frz o u)→H' b=some (.frz o u)
 tbls:∀b ps,H b=some (.tbl ps)→∃more,H' b=some (.tbl (ps++more))
section
variable{fs fs' ex ex':List Addr}{H H1 H2:Hp}{h h1 h2 h':Heap}{a x e:Addr}{o:HO}
theorem Un.any(u:Un fs ex H H1 h h1){b:Addr}{ob:Obj}(q:h.get? b=some ob)(n:H b=none)(hx:b∉ex):∃sl,h1.get? b=some {ob with slots:=sl}:=by
 by_cases hb:b∈fs
 ·exact u.slot b ob q n hb hx
 ·exact⟨ob.slots,u.keep b ob q n hb hx⟩
theorem Un.kept(k:∀b u,h.get? b=some u→h'.get? b=some u):Un fs ex H H h h':=
 ⟨fun b ob q _ _ _=>k b ob q,fun b ob q _ _ _=>⟨ob.slots,k b ob q⟩,fun _ _ _ n _=>n,fun b ob q _=>⟨ob,k b ob q⟩,fun _ _ q=>q,fun _ _ _ q=>q,fun _ ps q=>⟨#[],by rw[q];simp⟩⟩
theorem Un.refl:Un fs ex H H h h:=Un.kept fun _ _ q=>q
theorem Un.laid(k:∀b u,h.get? b=some u→h'.get? b=some u)(hp:h.objs.size≤a)(hn:H a=none):Un fs ex H (upd H a o) h h' where
 keep:=fun b u q _ _ _=>k b u q
 slot:=fun b u q _ _ _=>⟨u.slots,k b u q⟩
 free:=fun b u q n _=>by rw[Zm (Nat.ne_of_lt (Nat.lt_of_lt_of_le (Heap.lt_size q) hp))];exact n
 there:=fun b u q _=>⟨u,k b u q⟩
 tups:=fun b xs q=>by rw[Zm (Zz q hn)];exact q
 frzs:=fun b u xs q=>by rw[Zm (Zz q hn)];exact q
 tbls:=fun b ps q=>⟨#[],by rw[Zm (Zz q hn),q];simp⟩
theorem Un.write(mu:Mut (H x))(he:e=x∨H e=some (.own x))(k:∀b u,b≠e→h.get? b=some u→h'.get? b=some u)(heo:∃u,h'.get? e=some u):Un fs ex H (upd H x o) h h':=by
 have hx:∀b,H b=none→b≠x:=fun b n z=>by subst z;rw[n]at mu;exact mu
 have hb:∀b,H b=none→b≠e:=fun b n z=>by
  subst z
  rcases he with r|r
  ·exact hx b n r
  ·rw[n]at r;cases r
 have hm:∀b u,H b=some u→¬Mut (some u)→b≠x:=fun b u q nm z=>by subst z;rw[q]at mu;exact nm mu
 refine⟨fun b u q n _ _=>k b u (hb b n) q,fun b u q n _ _=>⟨u.slots,k b u (hb b n) q⟩,fun b u q n _=>by rw[Zm (hx b n)];exact n,fun b u q _=>?_,
  fun b xs q=>by rw[Zm (hm b _ q fun z=>z)];exact q,fun b u xs q=>by rw[Zm (hm b _ q fun z=>z)];exact q,fun b ps q=>⟨#[],by rw[Zm (hm b _ q fun z=>z),q];simp⟩⟩
 by_cases hbe:b=e
 ·subst hbe;exact heo
 ·exact⟨u,k b u hbe q⟩
end
noncomputable def trk(h:Heap)(H:Hp):List Addr:=(List.range h.objs.size).filter fun a=>(H a).isSome
noncomputable def hidT(h:Heap)(H:Hp):Heap:=PySem.W.hideAll h (trk h H)
theorem Zkt(h:Heap)(H:Hp):(hidT h H).objs.size=h.objs.size:=PySem.W.hideAll_size _ _
theorem Zny{h:Heap}{H:Hp}{b:Addr}{o:Obj}(e:h.get? b=some o)(n:H b=none):(hidT h H).get? b=some o:=
 PySem.W.hideAll_get _ e fun hm=>by
  have q:(H b).isSome=true:=(List.mem_filter.mp hm).2
  rw[n]at q;simp at q
theorem Zqv{h:Heap}{H:Hp}{b:Addr}{o:Obj}(e:(hidT h H).get? b=some o):h.get? b=some o∧H b=none:=by
 have e':h.get? b=some o:=PySem.W.of_hideAll (trk h H) e
 refine⟨e',?_⟩
 cases q:H b with
 |none=>rfl
 |some x=>
  have hm:b∈trk h H:=List.mem_filter.mpr ⟨List.mem_range.mpr (Heap.lt_size e'),by simp[q]⟩
  have z:(hidT h H).get? b=none:=PySem.W.hideAll_none (trk h H) hm
  rw[z]at e;cases e
noncomputable def Zqw(g h:Heap)(L:Addr):List (Addr×Obj):=(List.range h.objs.size).filterMap fun a=>if a=L∨(g.get? a).isSome=true then none else(h.get? a).map fun o=>(a,o)
noncomputable def rest(g h:Heap)(L d:Addr):List (Addr×Obj):=(Zqw g h L).filter fun p=>decide (p.1≠d)
end L2
namespace L2
open PySem PySem.Spec PyProof.Rows
structure Mod(K:PySem.W.Frag)(mg:Str→Option Value)(base:Heap):Prop where
 kin:K.In base
 glob:base.Ns mainGlobals mg
 blt:∃mb,base.Ns builtinsNs mb∧∀x:Str,x≠"__name__"→mb x=bootBuiltins x
 nolimit:base.NoLimit
set_option genInjectivity false in
structure Cx where
 prog:Program
 w:World
 K:PySem.W.Frag
 mg:Str→Option Value
 base:Heap
 A:Around
 N:List Str
 s₀:Shared
 H₀:Hp
 env:Env
 outer:List Env
 stack:List Env
 ex:List Addr
 fn:Str→Bool
 calm:Bool
 pn:List (Addr×Obj)
 xe:Value→Shared→Prop
noncomputable def frs(l:List Env):List Addr:=l.filterMap (·.frame)
noncomputable abbrev Cx.fs(X:Cx):List Addr:=frs X.outer
noncomputable def Vis(sc:Scope)(x:Str):Prop:=sc.names.lookup x=some .local∨sc.names.lookup x=some .cell∨sc.names.lookup x=some .free
noncomputable def Loc(sc:Scope)(x:Str):Prop:=sc.names.lookup x=some .local∨sc.names.lookup x=some .cell
noncomputable def Look(env:Env)(h:Heap)(m:Str→Option Value)(x:Str)(u:Value):Prop:=
 (env.kindOf x=some .local∧m x=some u)∨((env.kindOf x=some .cell∨env.kindOf x=some .free)∧∃c,env.cells.lookup x=some c∧h.IsCell c (some u))
set_option genInjectivity false in
structure Cx.Ok(X:Cx):Prop where
 mod:Mod X.K X.mg X.base
 kind:X.env.scope.kind= .function
 glob:X.env.globals=mainGlobals
 blt:X.env.builtins=builtinsNs
 above:X.s₀.heap.objs.size≤X.env.locals
 inj:∀x y c,X.env.cells.lookup x=some c→X.env.cells.lookup y=some c→x=y
 has:∀x,(X.env.kindOf x=some .cell∨X.env.kindOf x=some .free)→∃c,X.env.cells.lookup x=some c
 cab:∀x c,X.fn x=true→X.env.cells.lookup x=some c→X.s₀.heap.objs.size≤c
 hd:X.calm=true→X.A.handled=none
 frames:X.A.frames=some X.stack
 stk:X.stack=X.outer∨(X.stack=X.env::X.outer∧X.env.frame=some X.env.locals)
 exf:∀b∈X.ex,b≠X.env.locals∧∀x c,X.env.cells.lookup x=some c→c≠b
 bs:∀b o,X.base.get? b=some o→X.s₀.heap.get? b=some o∧X.H₀ b=none
 bsz:X.base.objs.size≤X.s₀.heap.objs.size
 noex:∀b o,X.base.get? b=some o→b∉X.ex
 exfs:∀b∈X.ex,b∉X.fs
 funs:X.s₀.heap.FunFrames X.base X.outer
 frf:∀b∈X.fs,X.H₀ b=none
structure Inv(X:Cx)(pins:List (Addr×Obj))(σ:List (Option V))(H:Hp)(s:Shared):Prop where
 ok:X.Ok
 os:s.os=X.s₀.os
 bare:AllBare s.gens
 base:Un X.fs X.ex X.H₀ H X.s₀.heap s.heap
 loc:∃m,s.heap.Ns X.env.locals m∧∀(i:Nat) (x:Str) (v:V),X.N[i]? =some x→σ[i]? =some (some v)→Vis X.env.scope x→∃u,RelV v u∧Look X.env s.heap m x u
 cell:∀x c,X.env.cells.lookup x=some c→∃v,s.heap.IsCell c v
 free:H X.env.locals=none
 freeC:∀x c,X.env.cells.lookup x=some c→H c=none
 pin:∀p∈X.pn++pins,s.heap.get? p.1=some p.2∧H p.1=none∧p.1≠X.env.locals∧p.1∉X.fs∧∀v,p.2.data≠.cell v
 hok:HOk X.prog X.w H s.heap
 len:σ.length=X.N.length
section
variable{X:Cx}{pins:List (Addr×Obj)}{σ:List (Option V)}{H H':Hp}{s:Shared}{h':Heap}
theorem Cx.Ok.nofr(ok:X.Ok){b:Addr}{o:Obj}(e:X.base.get? b=some o):b∉X.fs:=fun hb=>by
 have:=(ok.funs.mem hb).1
 rw[e]at this;cases this
theorem Inv.bs(I:Inv X pins σ H s):∀b o,X.base.get? b=some o→s.heap.get? b=some o∧H b=none:=fun b o e=>
 ⟨I.base.keep b o (I.ok.bs b o e).1 (I.ok.bs b o e).2 (I.ok.nofr e) (I.ok.noex b o e),I.base.free b o (I.ok.bs b o e).1 (I.ok.bs b o e).2 (I.ok.noex b o e)⟩
theorem Inv.bk(I:Inv X pins σ H s):∀b o,X.base.get? b=some o→s.heap.get? b=some o:=fun b o e=>(I.bs b o e).1
theorem Inv.mod(I:Inv X pins σ H s):Mod X.K X.mg X.base:=I.ok.mod
theorem Inv.kIn(I:Inv X pins σ H s):X.K.In s.heap:=I.ok.mod.kin.keeps I.bk
theorem Inv.nolimit(I:Inv X pins σ H s):s.heap.NoLimit:=I.ok.mod.nolimit.keeps I.bk
theorem Inv.lt(I:Inv X pins σ H s):X.env.locals<s.heap.objs.size:=let⟨_,hn,_⟩:=I.loc;hn.lt
theorem Inv.sz(I:Inv X pins σ H s):X.s₀.heap.objs.size≤s.heap.objs.size:=Nat.le_trans I.ok.above (Nat.le_of_lt I.lt)
theorem Inv.nofs(I:Inv X pins σ H s){a:Addr}(h:s.heap.objs.size≤a):a∉X.fs:=fun hb=>by
 obtain⟨_,o,ho,_⟩:=I.ok.funs.mem hb
 exact absurd (Nat.lt_of_lt_of_le (Heap.lt_size ho) (Nat.le_trans I.sz h)) (Nat.lt_irrefl _)
theorem Inv.cne(I:Inv X pins σ H s):∀x c,X.env.cells.lookup x=some c→c≠X.env.locals:=fun x c e z=>by
 obtain⟨v,o,ho,hd⟩:=I.cell x c e
 obtain⟨m,⟨o',es,ep,ho',hd',_⟩,_⟩:=I.loc
 rw[z,ho']at ho;cases ho;rw[hd']at hd;cases hd
theorem Inv.funs(I:Inv X pins σ H s):s.heap.FunFrames X.base X.outer:=by
 have all:∀(l:List Env),(∀b∈frs l,b∈X.fs)→X.s₀.heap.FunFrames X.base l→s.heap.FunFrames X.base l:=by
  intro l
  induction l with
  |nil=>intro _ _;trivial
  |cons env r ih=>
   intro hs hl
   obtain⟨hk,⟨L,o,hf,hn,ho,hd⟩,hr⟩:=hl
   have hL:L∈X.fs:=hs L (by unfold frs;rw[List.filterMap_cons,hf];exact List.mem_cons_self)
   obtain⟨sl,e⟩:=I.base.slot L o ho (I.ok.frf L hL) hL fun z=>I.ok.exfs L z hL
   exact⟨hk,⟨L,_,hf,hn,e,hd⟩,ih (fun b hb=>hs b (by unfold frs;rw[List.filterMap_cons,hf];exact List.mem_cons_of_mem _ hb)) hr⟩
 exact all X.outer (fun _ hb=>hb) I.ok.funs
theorem Inv.stack(I:Inv X pins σ H s):s.heap.FunFrames X.base X.stack:=by
 rcases I.ok.stk with e|⟨e,hf⟩
 ·rw[e];exact I.funs
 ·rw[e]
  obtain⟨m,hn,_⟩:=I.loc
  refine .cons (by rw[I.ok.kind];decide) hf hn ?_ I.funs
  exact Heap.get?_none_of_le (Nat.le_trans I.ok.bsz I.ok.above)
theorem Inv.stkSub(I:Inv X pins σ H s):∀b∈frs X.stack,b∈X.env.locals::X.fs:=fun b hb=>by
 rcases I.ok.stk with e|⟨e,hf⟩
 ·rw[e]at hb;exact List.mem_cons_of_mem _ hb
 ·rw[e]at hb
  unfold frs at hb
  rw[List.filterMap_cons,hf]at hb
  exact hb
theorem Inv.stkFree(I:Inv X pins σ H s):∀b∈frs X.stack,H b=none:=fun b hb=>by
 rcases List.mem_cons.mp (I.stkSub b hb)with e|hb
 ·rw[e];exact I.free
 ·obtain⟨_,o,ho,_⟩:=I.ok.funs.mem hb
  exact I.base.free b o ho (I.ok.frf b hb) fun z=>I.ok.exfs b z hb
theorem Inv.step{g':Array GenState}{t':Nat}{d':Drawn}{ch:List Addr}(I:Inv X pins σ H s)
  (hch:∀b∈ch,(b∈X.ex∨X.s₀.heap.objs.size≤b)∧b≠X.env.locals∧(∀x c,X.env.cells.lookup x=some c→c≠b)∧∀p∈X.pn++pins,p.1≠b)
  (keep:∀b o,b≠X.env.locals→b∉X.fs→b∉ch→s.heap.get? b=some o→H b=none→h'.get? b=some o)
  (slot:∀b o,b≠X.env.locals→b∈X.fs→b∉ch→s.heap.get? b=some o→H b=none→∃sl,h'.get? b=some {o with slots:=sl}) (free:∀b o,b∉ch→s.heap.get? b=some o→H b=none→H' b=none)
  (there:∀b o,b∉ch→s.heap.get? b=some o→∃o',h'.get? b=some o')
  (tups:∀b xs,H b=some (.tup xs)→H' b=some (.tup xs)) (frzs:∀b o u,H b=some (.frz o u)→H' b=some (.frz o u)) (tbls:∀b ps,H b=some (.tbl ps)→∃more,H' b=some (.tbl (ps++more)))
  (ns:∀m,s.heap.Ns X.env.locals m→h'.Ns X.env.locals m) (hok:HOk X.prog X.w H' h') (hg:AllBare g'):
  Inv X pins σ H' {s with heap:=h',gens:=g',drawn:=d',toks:=t'}:=by
 have neL:∀b o,X.s₀.heap.get? b=some o→b≠X.env.locals:=fun b o e=>Nat.ne_of_lt (Nat.lt_of_lt_of_le (Heap.lt_size e) I.ok.above)
 have neC:∀b o,X.s₀.heap.get? b=some o→b∉X.ex→b∉ch:=fun b o e hx hb=>by
  rcases(hch b hb).1 with z|z
  ·exact hx z
  ·exact absurd (Nat.lt_of_lt_of_le (Heap.lt_size e) z) (Nat.lt_irrefl _)
 have cellK:∀x c,X.env.cells.lookup x=some c→∀v,s.heap.IsCell c v→h'.IsCell c v:=fun x c e v ⟨o,ho,hd⟩=>by
  have nch:c∉ch:=fun z=>(hch c z).2.2.1 x c e rfl
  by_cases hc:c∈X.fs
  ·obtain⟨sl,q⟩:=slot c o (I.cne x c e) hc nch ho (I.freeC x c e)
   exact⟨_,q,hd⟩
  ·exact⟨o,keep c o (I.cne x c e) hc nch ho (I.freeC x c e),hd⟩
 refine⟨I.ok,I.os,hg,⟨fun b o e n hb hx=>?_,fun b o e n hb hx=>?_,fun b o e n hx=>?_,fun b o e hx=>?_,fun b xs e=>tups b xs (I.base.tups b xs e),fun b o xs e=>frzs b o xs (I.base.frzs b o xs e),fun b ps e=>?_⟩,?_,fun x c e=>?_,?_,fun x c e=>?_,fun p hp=>?_,hok,I.len⟩
 ·exact keep b o (neL b o e) hb (neC b o e hx) (I.base.keep b o e n hb hx) (I.base.free b o e n hx)
 ·obtain⟨sl,e1⟩:=I.base.slot b o e n hb hx
  obtain⟨sl',e2⟩:=slot b _ (neL b o e) hb (neC b o e hx) e1 (I.base.free b o e n hx)
  exact⟨sl',e2⟩
 ·obtain⟨o',e1⟩:=I.base.there b o e hx
  exact free b o' (neC b o e hx) e1 (I.base.free b o e n hx)
 ·obtain⟨o',e1⟩:=I.base.there b o e hx
  exact there b o' (neC b o e hx) e1
 ·obtain⟨m1,e1⟩:=I.base.tbls b ps e
  obtain⟨m2,e2⟩:=tbls b _ e1
  exact⟨m1++m2,by rw[e2,Array.append_assoc]⟩
 ·obtain⟨m,hn,hl⟩:=I.loc
  refine⟨m,ns m hn,fun i x v e1 e2 e3=>?_⟩
  obtain⟨u,r,l⟩:=hl i x v e1 e2 e3
  refine⟨u,r,?_⟩
  rcases l with l|⟨k,c,e,z⟩
  ·exact .inl l
  ·exact .inr ⟨k,c,e,cellK x c e _ z⟩
 ·obtain⟨v,z⟩:=I.cell x c e
  exact⟨v,cellK x c e v z⟩
 ·obtain⟨m,⟨o,_,_,ho,_⟩,_⟩:=I.loc
  exact free _ o (fun z=>(hch _ z).2.1 rfl) ho I.free
 ·obtain⟨v,o,ho,hd⟩:=I.cell x c e
  exact free c o (fun z=>(hch c z).2.2.1 x c e rfl) ho (I.freeC x c e)
 ·obtain⟨e,n,ne,nf,d⟩:=I.pin p hp
  have nch:p.1∉ch:=fun z=>(hch p.1 z).2.2.2 p hp rfl
  exact⟨keep p.1 p.2 ne nf nch e n,free p.1 p.2 nch e n,ne,nf,d⟩
theorem Inv.un{t':Nat}(I:Inv X pins σ H s)(u:Un X.fs [] H H' s.heap h')(hok:HOk X.prog X.w H' h'):Inv X pins σ H' {s with heap:=h',toks:=t'}:=by
 obtain⟨m,⟨o,es,ep,ho,r⟩,_⟩:=id I.loc
 obtain⟨sl,hL⟩:=u.any ho I.free (by simp)
 exact I.step (g':=s.gens) (d':=s.drawn) (ch:=[]) (fun _ z=>nomatch z) (fun b o _ hb _ e n=>u.keep b o e n hb (by simp)) (fun b o _ hb _ e n=>u.slot b o e n hb (by simp)) (fun b o _ e n=>u.free b o e n (by simp)) (fun b o _ e=>u.there b o e (by simp)) u.tups u.frzs u.tbls (fun m' hm=>by
  obtain⟨o',es',ep',ho',r'⟩:=hm
  rw[ho]at ho';cases ho'
  exact⟨_,es',ep',hL,r'⟩) hok I.bare
theorem Inv.call{g':Array GenState}{t':Nat}{d':Drawn}{ch:List Addr}(I:Inv X pins σ H s)(u:Un (frs X.stack) ch H H' s.heap h')(hok:HOk X.prog X.w H' h')(hg:AllBare g')
  (hch:∀b∈ch,(b∈X.ex∨X.s₀.heap.objs.size≤b)∧b≠X.env.locals∧(∀x c,X.env.cells.lookup x=some c→c≠b)∧∀p∈X.pn++pins,p.1≠b):
  Inv X pins σ H' {s with heap:=h',gens:=g',drawn:=d',toks:=t'}:=by
 obtain⟨m,⟨o,es,ep,ho,r⟩,_⟩:=id I.loc
 obtain⟨sl,hL⟩:=u.any ho I.free fun z=>(hch _ z).2.1 rfl
 exact I.step (ch:=ch) hch (fun b o hL hb hc e n=>u.keep b o e n (fun z=>(List.mem_cons.mp (I.stkSub b z)).elim hL hb) hc) (fun b o _ _ hc e n=>u.any e n hc) (fun b o hc e n=>u.free b o e n hc) (fun b o hc e=>u.there b o e hc) u.tups u.frzs u.tbls (fun m' hm=>by
  obtain⟨o',es',ep',ho',r'⟩:=hm
  rw[ho]at ho';cases ho'
  exact⟨_,es',ep',hL,r'⟩) hok hg
theorem Inv.turned{t':Nat}{it:Addr}(I:Inv X pins σ H s)(k:∀b o,b≠it→s.heap.get? b=some o→h'.get? b=some o)(hn:H it=none)(hL:it≠X.env.locals)
  (h1:it∈X.ex∨X.s₀.heap.objs.size≤it) (h2:∀x c,X.env.cells.lookup x=some c→c≠it) (h3:∀p∈X.pn++pins,p.1≠it):Inv X pins σ H {s with heap:=h',toks:=t'}:=by
 have nit:∀b u,H b=some u→b≠it:=fun b u e z=>by rw[z,hn]at e;cases e
 refine I.step (g':=s.gens) (d':=s.drawn) (ch:=[it]) (fun b hb=>?_) (fun b o _ _ hc e _=>k b o (fun z=>hc (by simp[z])) e) (fun b o _ _ hc e _=>⟨o.slots,k b o (fun z=>hc (by simp[z])) e⟩) (fun _ _ _ _ n=>n)
  (fun b o hc e=>⟨o,k b o (fun z=>hc (by simp[z])) e⟩) (fun _ _ e=>e) (fun _ _ _ e=>e) (fun b ps e=>⟨#[],by rw[e];simp⟩) (fun m hm=>?_) (fun b u e=>?_) I.bare
 ·have e:b=it:=by simpa using hb
  subst e
  exact⟨h1,hL,h2,h3⟩
 ·obtain⟨o,es,ep,ho,r⟩:=hm
  exact⟨o,es,ep,k _ o (Ne.symm hL) ho,r⟩
 ·refine(I.hok b u e).stay (fun c v hc q=>k c v ?_ q) (fun _ q=>q) fun _ _ q=>q
  rcases hc with z|z
  ·rw[z];exact nit b u e
  ·exact nit c _ z
theorem Inv.tok(I:Inv X pins σ H s)(t:Nat):Inv X pins σ H {s with toks:=t}:=I.un (h':=s.heap) (t':=t) Un.refl I.hok
theorem Inv.kept{t':Nat}(I:Inv X pins σ H s)(k:∀b u,s.heap.get? b=some u→h'.get? b=some u):Inv X pins σ H {s with heap:=h',toks:=t'}:=I.un (Un.kept k) (I.hok.kept k)
theorem Inv.laid{a:Addr}{o:HO}{t':Nat}(I:Inv X pins σ H s)(k:∀b u,s.heap.get? b=some u→h'.get? b=some u)(hp:s.heap.objs.size≤a)(new:Zaj X.prog X.w (upd H a o) h' a o):
  Inv X pins σ (upd H a o) {s with heap:=h',toks:=t'}:=I.un (Un.laid k hp (I.hok.fresh hp)) (I.hok.laid k hp new)
theorem Inv.write{x e:Addr}{o:HO}{t':Nat}(I:Inv X pins σ H s)(mu:Mut (H x))(he:e=x∨H e=some (.own x))(k:∀b u,b≠e→s.heap.get? b=some u→h'.get? b=some u)(heo:∃u,h'.get? e=some u)
  (new:Zaj X.prog X.w (upd H x o) h' x o):Inv X pins σ (upd H x o) {s with heap:=h',toks:=t'}:=I.un (Un.write mu he k heo) (I.hok.write mu he k heo new)
theorem Inv.pins_of{pins':List (Addr×Obj)}(I:Inv X pins σ H s)(h:∀p∈pins',s.heap.get? p.1=some p.2∧H p.1=none∧p.1≠X.env.locals∧p.1∉X.fs∧∀v,p.2.data≠.cell v):Inv X pins' σ H s:=
 ⟨I.ok,I.os,I.bare,I.base,I.loc,I.cell,I.free,I.freeC,fun p hp=>(List.mem_append.mp hp).elim (fun z=>I.pin p (List.mem_append_left _ z)) (h p),I.hok,I.len⟩
theorem Zin{N:List Str}(hN:N.Nodup){i j:Nat}{x:Str}(a:N[i]? =some x)(b:N[j]? =some x):i=j:=by
 obtain⟨h1,e1⟩:=List.getElem?_eq_some_iff.mp a
 obtain⟨h2,e2⟩:=List.getElem?_eq_some_iff.mp b
 exact(List.getElem_inj hN).mp (e1.trans e2.symm)
theorem Zf8{M:Model}{A:Around}{E:Value→Shared→Prop}{i:Nat}{x:Str}{v:V}{u:Value}{Q:Unit→Shared→Prop}(I:Inv X pins σ H s)(hN:X.N.Nodup)(hi:X.N[i]? =some x)(hx:Loc X.env.scope x)(r:RelV v u)
  (h:∀s',Inv X pins (σ.set i (some v)) H s'→(∃a,Heap.SameBut a s.heap s'.heap∧(a=X.env.locals∨X.env.cells.lookup x=some a))→Q () s') (hf:X.fn x=true∨X.env.scope.names.lookup x=some .local:=by first|exact .inl rfl|exact .inr rfl|assumption):wpAny M A (storeName X.env x u) Q E s:=by
 obtain⟨m,hn,hl⟩:=id I.loc
 have hcls:(X.env.scope.kind== .class|| (X.env.scope.kind== .module&&X.env.locals !=X.env.globals))=false:=by rw[I.ok.kind];rfl
 have hiσ:i<σ.length:=by rw[I.len];exact(List.getElem?_eq_some_iff.mp hi).1
 have cne:=I.cne
 have tracked:∀{a:Addr} {h':Heap},(∃o,s.heap.get? a=some o∧H a=none)→Heap.SameBut a s.heap h'→HOk X.prog X.w H h':=fun{a h'} ha hs b ob e=>by
  obtain⟨_,_,hfree⟩:=ha
  refine(I.hok b ob e).stay (fun c w' hc q=>(hs.2 c ?_).trans q) (fun _ q=>q) fun _ _ q=>q
  rintro rfl
  rcases hc with rfl|hc
  ·rw[hfree]at e;cases e
  ·rw[hfree]at hc;cases hc
 rcases hx with hk|hk
 ·refine wpAny_storeName_local hk hn (fun h' hn' hs=>?_) hcls
  obtain⟨oL,_,_,hoL,_⟩:=id hn
  refine h _ ⟨I.ok,I.os,I.bare,⟨fun b o e n hb hx=>?_,fun b o e n hb hx=>?_,I.base.free,fun b o e hx=>?_,I.base.tups,I.base.frzs,I.base.tbls⟩,⟨_,hn',fun j y v' e1 e2 e3=>?_⟩,fun y c e=>?_,I.free,I.freeC,fun p hp=>?_,tracked ⟨oL,hoL,I.free⟩ hs,by simpa using I.len⟩ ⟨_,hs,.inl rfl⟩
  ·exact(hs.2 b (Nat.ne_of_lt (Nat.lt_of_lt_of_le (Heap.lt_size e) I.ok.above))).trans (I.base.keep b o e n hb hx)
  ·obtain⟨sl,e1⟩:=I.base.slot b o e n hb hx
   exact⟨sl,(hs.2 b (Nat.ne_of_lt (Nat.lt_of_lt_of_le (Heap.lt_size e) I.ok.above))).trans e1⟩
  ·obtain⟨o',e1⟩:=I.base.there b o e hx
   exact⟨o',(hs.2 b (Nat.ne_of_lt (Nat.lt_of_lt_of_le (Heap.lt_size e) I.ok.above))).trans e1⟩
  ·by_cases hj:j=i
   ·subst hj
    rw[hi]at e1;cases e1
    rw[List.getElem?_set_self hiσ]at e2
    cases e2
    exact⟨u,r,.inl ⟨hk,by simp⟩⟩
   ·rw[List.getElem?_set_ne (Ne.symm hj)]at e2
    obtain⟨u',r',q⟩:=hl j y v' e1 e2 e3
    refine⟨u',r',?_⟩
    rcases q with⟨k,e⟩|⟨k,c,e,z⟩
    ·refine .inl ⟨k,?_⟩
     have:y≠x:=fun e=>hj (Zin hN e1 (e▸hi))
     simp[this,e]
    ·exact .inr ⟨k,c,e,z.sameBut hs (cne y c e)⟩
  ·obtain⟨w',z⟩:=I.cell y c e
   exact⟨w',z.sameBut hs (cne y c e)⟩
  ·obtain⟨e,n,ne,nf,d⟩:=I.pin p hp
   exact⟨(hs.2 p.1 ne).trans e,n,ne,nf,d⟩
 ·have hfn:X.fn x=true:=by
   rcases hf with z|z
   ·exact z
   ·rw[z]at hk;cases hk
  obtain⟨c,hc⟩:=I.ok.has x (.inl hk)
  obtain⟨w',z⟩:=I.cell x c hc
  refine wpAny_storeName_cell I.ok.kind hk hc z (fun h' hc' hs=>?_)
  obtain⟨oc,hoc,hocd⟩:=id z
  refine h {s with heap:=h'} ⟨I.ok,I.os,I.bare,⟨fun b o e n hb hx=>?_,fun b o e n hb hx=>?_,I.base.free,fun b o e hx=>?_,I.base.tups,I.base.frzs,I.base.tbls⟩,⟨m,hn.sameBut hs (Ne.symm (cne x c hc)),fun j y v' e1 e2 e3=>?_⟩,fun y c' e=>?_,I.free,I.freeC,fun p hp=>?_,tracked ⟨oc,hoc,I.freeC x c hc⟩ hs,by simpa using I.len⟩ ⟨c,hs,.inr hc⟩
  ·exact(hs.2 b (Nat.ne_of_lt (Nat.lt_of_lt_of_le (Heap.lt_size e) (I.ok.cab x c hfn hc)))).trans (I.base.keep b o e n hb hx)
  ·obtain⟨sl,e1⟩:=I.base.slot b o e n hb hx
   exact⟨sl,(hs.2 b (Nat.ne_of_lt (Nat.lt_of_lt_of_le (Heap.lt_size e) (I.ok.cab x c hfn hc)))).trans e1⟩
  ·obtain⟨o',e1⟩:=I.base.there b o e hx
   exact⟨o',(hs.2 b (Nat.ne_of_lt (Nat.lt_of_lt_of_le (Heap.lt_size e) (I.ok.cab x c hfn hc)))).trans e1⟩
  ·by_cases hj:j=i
   ·subst hj
    rw[hi]at e1;cases e1
    rw[List.getElem?_set_self hiσ]at e2
    cases e2
    exact⟨u,r,.inr ⟨.inl hk,c,hc,hc'⟩⟩
   ·rw[List.getElem?_set_ne (Ne.symm hj)]at e2
    obtain⟨u',r',q⟩:=hl j y v' e1 e2 e3
    refine⟨u',r',?_⟩
    rcases q with q|⟨k,c',e,z'⟩
    ·exact .inl q
    ·refine .inr ⟨k,c',e,z'.sameBut hs ?_⟩
     rintro rfl
     exact hj (Zin hN e1 (I.ok.inj _ _ _ e hc▸hi))
  ·by_cases hcc:c'=c
   ·subst hcc;exact⟨_,hc'⟩
   ·obtain⟨w2,z2⟩:=I.cell y c' e
    exact⟨w2,z2.sameBut hs hcc⟩
  ·obtain⟨e,n,ne,nf,d⟩:=I.pin p hp
   refine⟨(hs.2 p.1 ?_).trans e,n,ne,nf,d⟩
   intro q
   rw[q,hoc]at e
   have q':oc=p.2:=Option.some.inj e
   exact d w' (by rw[←q'];exact hocd)
theorem Zio{M:Model}{A:Around}{E:Value→Shared→Prop}{i:Nat}{x:Str}{v:V}{u:Value}{Q:Unit→Shared→Prop}(I:Inv X pins σ H s)(hN:X.N.Nodup)(hi:X.N[i]? =some x)(hx:Loc X.env.scope x)(r:RelV v u)
  (h:∀s',Inv X pins (σ.set i (some v)) H s'→Q () s') (hf:X.fn x=true∨X.env.scope.names.lookup x=some .local:=by first|exact .inl rfl|exact .inr rfl|assumption):wpAny M A (storeName X.env x u) Q E s:=
 Zf8 I hN hi hx r (fun s' I' _=>h s' I') hf
theorem Inv.call'{s':Shared}{ch:List Addr}(I:Inv X pins σ H s)(ho:s'.os=s.os)(u:Un (frs X.stack) ch H H' s.heap s'.heap)(hok:HOk X.prog X.w H' s'.heap)(hg:AllBare s'.gens)
  (hch:∀b∈ch,(b∈X.ex∨X.s₀.heap.objs.size≤b)∧b≠X.env.locals∧(∀x c,X.env.cells.lookup x=some c→c≠b)∧∀p∈X.pn++pins,p.1≠b):Inv X pins σ H' s':=by
 obtain⟨h',g',d',t',o'⟩:=s'
 have e:o'=s.os:=ho
 subst e
 exact I.call (g':=g') (t':=t') (d':=d') u hok hg hch
end
noncomputable abbrev XK:=Value→Option Addr→Hp→Prop
noncomputable abbrev St:=List (Option V)
noncomputable abbrev VK:=V→Hp→Prop
noncomputable abbrev TE:=St→Hp→VK→Prop
noncomputable abbrev TT:=St→Hp→(Bool→Hp→Prop)→Prop
noncomputable abbrev TA:=St→Hp→(List V→Hp→Prop)→Prop
set_option genInjectivity false in
structure Ends where
 nx:St→Hp→Prop
 rt:VK
 bk:St→Hp→Prop:=fun _ _=>False
 ct:St→Hp→Prop:=fun _ _=>False
noncomputable abbrev TS:=Ends→St→Hp→Prop
noncomputable def EP(X:Cx)(pins:List (Addr×Obj))(σ:St)(Q:VK)(u:Value)(s':Shared):Prop:=∃v H',Inv X pins σ H' s'∧RelV v u∧Q v H'
noncomputable def TP(X:Cx)(pins:List (Addr×Obj))(σ:St)(Q:Bool→Hp→Prop)(b:Bool)(s':Shared):Prop:=∃H',Inv X pins σ H' s'∧Q b H'
noncomputable def AP(X:Cx)(pins:List (Addr×Obj))(σ:St)(Q:List V→Hp→Prop)(us:List Value)(s':Shared):Prop:=∃vs H',Inv X pins σ H' s'∧Vals vs us∧Q vs H'
noncomputable def SP(X:Cx)(pins:List (Addr×Obj))(D:Ends)(f:Flow)(s':Shared):Prop:=
 match f with
 | .next=>∃σ' H',Inv X pins σ' H' s'∧D.nx σ' H'
 | .brk=>∃σ' H',Inv X pins σ' H' s'∧D.bk σ' H'
 | .cont=>∃σ' H',Inv X pins σ' H' s'∧D.ct σ' H'
 | .ret u=>∃v σ' H',Inv X pins σ' H' s'∧RelV v u∧D.rt v H'
noncomputable def PE(X:Cx)(e:Expr)(t:TE):Prop:=
 ∀(pins:List (Addr×Obj)) (s:Shared) (σ:St) (H:Hp) (Q:VK),Inv X pins σ H s→t σ H Q→wpAny (model X.prog X.w) X.A (eval e X.env) (EP X pins σ Q) X.xe s
noncomputable def PT(X:Cx)(e:Expr)(t:TT):Prop:=
 ∀(pins:List (Addr×Obj)) (s:Shared) (σ:St) (H:Hp) (Q:Bool→Hp→Prop),Inv X pins σ H s→t σ H Q→wpAny (model X.prog X.w) X.A (isTrue e X.env (eval e X.env)) (TP X pins σ Q) X.xe s
noncomputable def PW(X:Cx)(e:Expr)(t:TT):Prop:=
 ∀(whole:Sem Value) (pins:List (Addr×Obj)) (s:Shared) (σ:St) (H:Hp) (Q:Bool→Hp→Prop),Inv X pins σ H s→t σ H Q→wpAny (model X.prog X.w) X.A (isTrue e X.env whole) (TP X pins σ Q) X.xe s
theorem PW.pt{X:Cx}{e:Expr}{t:TT}(h:PW X e t):PT X e t:=h _
noncomputable def PA(X:Cx)(es:List Expr)(t:TA):Prop:=
 ∀(pos:Pos) (pins:List (Addr×Obj)) (s:Shared) (σ:St) (H:Hp) (Q:List V→Hp→Prop),Inv X pins σ H s→t σ H Q→wpAny (model X.prog X.w) X.A (spliced (backTo pos (starEach es X.env))) (AP X pins σ Q) X.xe s
noncomputable def PS(X:Cx)(st:Stmt)(t:TS):Prop:=
 ∀(pins:List (Addr×Obj)) (s:Shared) (σ:St) (H:Hp) (D:Ends),Inv X pins σ H s→t D σ H→wpAny (model X.prog X.w) X.A (exec st X.env) (SP X pins D) X.xe s
noncomputable def PSs(X:Cx)(st:List Stmt)(t:TS):Prop:=
 ∀(pins:List (Addr×Obj)) (s:Shared) (σ:St) (H:Hp) (D:Ends),Inv X pins σ H s→t D σ H→wpAny (model X.prog X.w) X.A (execs st X.env) (SP X pins D) X.xe s
theorem thn{α:Type}{t:Sem α}{Q Q':α→Shared→Prop}{M:Model}{A:Around}{E:Value→Shared→Prop}{s:Shared}(h:wpAny M A t Q E s)(hQ:∀a s,Q a s→Q' a s):wpAny M A t Q' E s:=wpAny_mono h hQ fun _ _ x=>x
end L2
namespace L2
open PySem PySem.Spec PyProof.Rows
section
variable{X:Cx}
noncomputable def tVar(i:Nat):TE:=fun σ H Q=>∃v,σ[i]? =some (some v)∧Q v H
noncomputable def tC(v:V):TE:=fun _ H Q=>Q v H
theorem Zku{i:Nat}{x:Str}{pos:Pos}(hN:X.N[i]? =some x)(hv:Vis X.env.scope x)(hd:(x==("__debug__":Str))=false:=by decide)(hcd:(x==("__classdict__":Str))=false:=by decide):PE X (.Name x pos) (tVar i):=by
 intro pins s σ H Q I h
 obtain⟨v,e,h⟩:=h
 obtain⟨m,hn,hl⟩:=I.loc
 obtain⟨u,r,l⟩:=hl i x v hN e hv
 have fin:EP X pins σ Q u s:=⟨v,H,I,r,h⟩
 rcases l with⟨hk,hm⟩|⟨hk,c,hc,hcell⟩
 ·exact wpAny_Name (wpAny_loadName_local I.ok.kind hk hn hm fin) hd
 ·rcases hk with hk|hk
  ·exact wpAny_Name (wpAny_loadName_cell I.ok.kind hk hc hcell fin) hd
  ·exact wpAny_Name (wpAny_loadName_free I.ok.kind hk hc hcell fin hcd) hd
theorem Ztp{i j pos}:PE X (.Constant (.int i) j pos) (tC (.int i)):=fun _ _ _ H _ I h=>wpAny_Constant_int ⟨.int i,H,I.tok _,⟨_,rfl⟩,h⟩
theorem Zxo{b j pos}:PE X (.Constant (.bool b) j pos) (tC (.bl b)):=fun _ _ _ H _ I h=>Constant_bool ⟨.bl b,H,I,rfl,h⟩
theorem Ztq{j pos}:PE X (.Constant .none j pos) (tC .non):=fun _ _ _ H _ I h=>Constant_none ⟨.non,H,I,rfl,h⟩
theorem Zkv{x j pos}:PE X (.Constant (.str x) j pos) (tC (.str x)):=fun _ _ _ H _ I h=>Calls.Constant_str ⟨.str x,H,I.tok _,⟨_,rfl⟩,h⟩
noncomputable def Gl(X:Cx)(x:Str):Prop:=X.env.kindOf x=some .globalImplicit
theorem Zqx{E:Value→Shared→Prop}{pins:List (Addr×Obj)}{s:Shared}{σ:St}{H:Hp}{x:Str}{u:Value}{pos:Pos}{Q:Value→Shared→Prop}(I:Inv X pins σ H s)(hg:Gl X x)(hm:X.mg x=some u)(h:Q u s)
  (hd:(x==("__debug__":Str))=false:=by decide):wpAny (model X.prog X.w) X.A (eval (.Name x pos) X.env) Q E s:=
 Calls.Name_function_global I.ok.kind hg (Calls.loadGlobal_global (by rw[I.ok.glob];exact I.mod.glob.keeps I.bk) hm h) hd
theorem Zdn{E:Value→Shared→Prop}{pins:List (Addr×Obj)}{s:Shared}{σ:St}{H:Hp}{x:Str}{u:Value}{pos:Pos}{Q:Value→Shared→Prop}(I:Inv X pins σ H s)(hg:Gl X x)(hm:X.mg x=none)(hv:bootBuiltins x=some u)(h:Q u s)
  (hn:x≠"__name__":=by decide) (hd:(x==("__debug__":Str))=false:=by decide):wpAny (model X.prog X.w) X.A (eval (.Name x pos) X.env) Q E s:=by
 obtain⟨mb,h1,h2⟩:=I.mod.blt
 exact Calls.Name_function_global I.ok.kind hg (Calls.loadGlobal_builtin (by rw[I.ok.glob];exact I.mod.glob.keeps I.bk) hm (by rw[I.ok.blt];exact h1.keeps I.bk) ((h2 x hn).trans hv) h) hd
theorem Zqy{x:Str}{v:V}{u:Value}{pos:Pos}(hg:Gl X x)(hm:X.mg x=none)(hv:bootBuiltins x=some u)(r:RelV v u)(hn:x≠"__name__":=by decide)(hd:(x==("__debug__":Str))=false:=by decide):PE X (.Name x pos) (tC v):=
 fun _ _ _ H _ I h=>Zdn I hg hm hv ⟨v,H,I,r,h⟩ hn hd
noncomputable def t2I(ta tb:TE)(k:Int→Int→Hp→Prop):St→Hp→Prop:=fun σ H=>ta σ H fun x H1=>tb σ H1 fun y H2=>∃i j,x= .int i∧y= .int j∧k i j H2
noncomputable def tAdd(ta tb:TE):TE:=fun σ H Q=>t2I ta tb (fun i j H2=>Q (.int (i+j)) H2) σ H
noncomputable def tSub(ta tb:TE):TE:=fun σ H Q=>t2I ta tb (fun i j H2=>Q (.int (i- j)) H2) σ H
noncomputable def tMul(ta tb:TE):TE:=fun σ H Q=>t2I ta tb (fun i j H2=>(-(2^64)<i∧i<2^64)∧Q (.int (i*j)) H2) σ H
variable{a b:Expr}{ta tb:TE}{pos:Pos}
noncomputable def PC(X:Cx)(op:CmpOp)(a b:Expr)(t:TE):Prop:=
 ∀(pins:List (Addr×Obj)) (s:Shared) (σ:St) (H:Hp) (Q:VK),Inv X pins σ H s→t σ H Q→
  wpAny (model X.prog X.w) X.A (eval a X.env) (fun v s₁=>wpAny (model X.prog X.w) X.A (eval b X.env) (fun u s₂=>wpAny (model X.prog X.w) X.A (compareOp op v u) (EP X pins σ Q) X.xe s₂) X.xe s₁) X.xe s
noncomputable def tCmp(p:Int→Int→Bool)(ta tb:TE):TE:=fun σ H Q=>t2I ta tb (fun i j H2=>Q (.bl (p i j)) H2) σ H
noncomputable abbrev tLt:TE→TE→TE:=tCmp fun i j=>decide (i<j)
noncomputable abbrev tLe:TE→TE→TE:=tCmp fun i j=>decide (i≤j)
noncomputable abbrev tGt:TE→TE→TE:=tCmp fun i j=>decide (j<i)
noncomputable abbrev tGe:TE→TE→TE:=tCmp fun i j=>decide (j≤i)
noncomputable abbrev tEqI:TE→TE→TE:=tCmp fun i j=>decide (i=j)
noncomputable abbrev tNeI:TE→TE→TE:=tCmp fun i j=>!decide (i=j)
noncomputable def tIsN(ta:TE):TE:=fun σ H Q=>ta σ H fun x H1=>Q (.bl (decide (x= .non))) H1
noncomputable def Z1m(ta:TE):TE:=fun σ H Q=>ta σ H fun x H1=>Q (.bl (!decide (x= .non))) H1
noncomputable def tB(t:TE):TT:=fun σ H Q=>t σ H fun x H1=>∃c,x= .bl c∧Q c H1
theorem Ztr{e:Expr}{t:TE}(h:PE X e t)(he:∀whole,isTrue e X.env whole=(do let v←whole;standAt e.pos;holding [v] (truthy v)):=by intro _;rfl):PT X e (tB t):=by
 intro pins s σ H Q I hw
 refine isTrue_plain (thn (h pins s σ H _ I hw) fun v s1 ⟨x,H1,I1,r1,q1⟩=>?_) (he _)
 obtain⟨d,rfl,q⟩:=q1
 cases r1
 exact wpAny_truthy_bool ⟨H1,I1,q⟩
variable{tA tB':TT}{rest:List Expr}
noncomputable def tAnd(t u:TT):TT:=fun σ H Q=>t σ H fun c H1=>if c=true then u σ H1 Q else Q false H1
noncomputable def tOr(t u:TT):TT:=fun σ H Q=>t σ H fun c H1=>if c=true then Q true H1 else u σ H1 Q
noncomputable def tNot(t:TT):TT:=fun σ H Q=>t σ H fun c H1=>Q (!c) H1
theorem Zqz(ha:PT X a tA):PW X (.BoolOp .And [a] pos) tA:=by
 intro wh pins s σ H Q I h
 refine isTrue_and (thn (ha pins s σ H Q I h) fun c s1 e=>?_)
 cases c with
 |true=>exact isTrue_and_nil e
 |false=>exact e
theorem Zts(ha:PT X a tA):PW X (.BoolOp .Or [a] pos) tA:=by
 intro wh pins s σ H Q I h
 refine isTrue_or (thn (ha pins s σ H Q I h) fun c s1 e=>?_)
 cases c with
 |false=>exact isTrue_or_nil e
 |true=>exact e
theorem Ztt(ha:PT X a tA)(hb:PW X (.BoolOp .And (b::rest) pos) tB'):PW X (.BoolOp .And (a::b::rest) pos) (tAnd tA tB'):=by
 intro wh pins s σ H Q I h
 refine isTrue_and (thn (ha pins s σ H _ I h) fun c s1 zq9=>?_)
 obtain⟨H1,I1,q1⟩:=zq9
 cases c with
 |true=>exact hb wh pins s1 σ H1 Q I1 q1
 |false=>exact⟨H1,I1,q1⟩
theorem Zxp(ha:PT X a tA)(hb:PW X (.BoolOp .Or (b::rest) pos) tB'):PW X (.BoolOp .Or (a::b::rest) pos) (tOr tA tB'):=by
 intro wh pins s σ H Q I h
 refine isTrue_or (thn (ha pins s σ H _ I h) fun c s1 zq9=>?_)
 obtain⟨H1,I1,q1⟩:=zq9
 cases c with
 |true=>exact⟨H1,I1,q1⟩
 |false=>exact hb wh pins s1 σ H1 Q I1 q1
theorem Ztu(ha:PT X a tA):PT X (.UnaryOp .Not a pos) (tNot tA):=by
 intro pins s σ H Q I h
 exact isTrue_not (ha pins s σ H (fun c H1=>Q (!c) H1) I h)
noncomputable def Ztv(ta tb:TE):TE:=fun σ H Q=>ta σ H fun x H1=>∃c,x= .bl c∧if c=true then tb σ H1 Q else Q (.bl false) H1
noncomputable def tOrV(ta tb:TE):TE:=fun σ H Q=>ta σ H fun x H1=>∃c,x= .bl c∧if c=true then Q (.bl true) H1 else tb σ H1 Q
noncomputable def Z1n(ta:TE):TE:=fun σ H Q=>ta σ H fun x H1=>∃c,x= .bl c∧Q (.bl (!c)) H1
theorem Ztw{op} {t:TE} (h:PE X a t):PE X (.BoolOp op [a] pos) t:=fun pins s σ H Q I hw=>BoolOp_one (h pins s σ H Q I hw)
theorem Ztx(ha:PE X a ta)(hb:PE X (.BoolOp .And (b::rest) pos) tb):PE X (.BoolOp .And (a::b::rest) pos) (Ztv ta tb):=by
 intro pins s σ H Q I h
 refine BoolOp_and (thn (ha pins s σ H _ I h) fun v s1 zq9=>?_)
 obtain⟨x,H1,I1,r1,q1⟩:=zq9
 obtain⟨c,rfl,q1⟩:=q1
 cases r1
 refine wpAny_truthy_bool ?_
 cases c with
 |true=>exact hb pins s1 σ H1 Q I1 q1
 |false=>exact⟨.bl false,H1,I1,rfl,q1⟩
theorem Zxq(ha:PE X a ta)(hb:PE X (.BoolOp .Or (b::rest) pos) tb):PE X (.BoolOp .Or (a::b::rest) pos) (tOrV ta tb):=by
 intro pins s σ H Q I h
 refine BoolOp_or (thn (ha pins s σ H _ I h) fun v s1 zq9=>?_)
 obtain⟨x,H1,I1,r1,q1⟩:=zq9
 obtain⟨c,rfl,q1⟩:=q1
 cases r1
 refine wpAny_truthy_bool ?_
 cases c with
 |false=>exact hb pins s1 σ H1 Q I1 q1
 |true=>exact⟨.bl true,H1,I1,rfl,q1⟩
noncomputable def tIf(t:TT)(ta tb:TE):TE:=fun σ H Q=>t σ H fun c H1=>if c=true then ta σ H1 Q else tb σ H1 Q
theorem Znz{c:Expr}(hc:PT X c tA)(ha:PE X a ta)(hb:PE X b tb):PE X (.IfExp c a b pos) (tIf tA ta tb):=by
 intro pins s σ H Q I h
 refine wpAny_IfExp (thn (hc pins s σ H _ I h) fun d s1 zq9=>?_)
 obtain⟨H1,I1,q1⟩:=zq9
 cases d with
 |true=>exact ha pins s1 σ H1 Q I1 q1
 |false=>exact hb pins s1 σ H1 Q I1 q1
end
end L2
namespace L2
open PySem PySem.Spec PyProof.Rows
noncomputable def SqL(K:PySem.W.Frag)(H:Hp)(a:Addr)(xs:List V):Prop:=
 Rd H a (.lst xs)∨
  ∃(o:Obj) (its:Array Value) (n:Nat),K.lookup a=some o∧o.cls= .type "list"∧o.dict=none∧o.data= .seq its n∧its.size≤sizeLine∧Vals xs its.toList
noncomputable def SqT(K:PySem.W.Frag)(H:Hp)(a:Addr)(xs:List V):Prop:=
 Rd H a (.tup xs)∨
  ∃(o:Obj) (its:Array Value) (n:Nat),K.lookup a=some o∧o.cls= .type "tuple"∧o.data= .seq its n∧its.size≤sizeLine∧Vals xs its.toList
noncomputable def absV:Value→Option V
 | .none=>some .non
 | .bool b=>some (.bl b)
 | .int i _=>some (.int i)
 | .str x _=>some (.str x)
 | .bytes b _=>some (.byt b)
 | .float b _=>some (.flt b)
 | .ref a=>some (.ref a)
 | .type n=>some (.ty n)
 |_=>none
theorem RelV.abs{x:V}{u:Value}(r:RelV x u):absV u=some x:=by
 cases x with
 |non=>cases r;rfl
 |bl _=>cases r;rfl
 |int _=>obtain⟨t,rfl⟩:=r;rfl
 |str _=>obtain⟨t,rfl⟩:=r;rfl
 |byt _=>obtain⟨t,rfl⟩:=r;rfl
 |flt _=>obtain⟨t,rfl⟩:=r;rfl
 |ref _=>cases r;rfl
 |ty _=>cases r;rfl
theorem RelV.inj{x y:V}{u:Value}(r:RelV x u)(q:RelV y u):x=y:=Option.some.inj (r.abs.symm.trans q.abs)
theorem Vals.inj{xs:List V}:∀{ys:List V} {us:List Value},Vals xs us→Vals ys us→xs=ys:=by
 induction xs with
 |nil=>intro ys us h g;cases h;cases g;rfl
 |cons x xs ih=>
  intro ys us h g
  cases h with
  |cons r t=>
   cases g with
   |cons r' t'=>rw[r.inj r',ih t t']
section
variable{X:Cx}{pins:List (Addr×Obj)}{σ:St}{H:Hp}{s:Shared}{a:Addr}{xs ys:List V}
theorem Inv.list(I:Inv X pins σ H s)(h:SqL X.K H a xs):∃its:List Value,Vals xs its∧PlainL s.heap a its.toArray∧xs.length≤sizeLine:=by
 rcases h with h|⟨o,its,n,hk,hc,hd,hs,hz,r⟩
 ·obtain⟨z,its,n,r,e⟩:=h.ok I.hok
  exact⟨its,r,⟨_,n,e,rfl,rfl,rfl⟩,z⟩
 ·refine⟨its.toList,r,⟨o,n,I.kIn a o hk,hc,hd,by simpa using hs⟩,?_⟩
  have e:=r.length
  simp only[Array.length_toList]at e
  omega
theorem Inv.tuple(I:Inv X pins σ H s)(h:SqT X.K H a xs):∃its:List Value,Vals xs its∧IsTup s.heap a its.toArray∧xs.length≤sizeLine:=by
 rcases h with h|⟨o,its,n,hk,hc,hs,hz,r⟩
 ·obtain⟨z,its,r,p⟩:=h.ok I.hok
  exact⟨its,r,p,z⟩
 ·refine⟨its.toList,r,⟨o,I.kIn a o hk,hc,n,by simpa using hs⟩,?_⟩
  have e:=r.length
  simp only[Array.length_toList]at e
  omega
theorem Inv.list_inj(I:Inv X pins σ H s)(h:SqL X.K H a xs)(h':SqL X.K H a ys):xs=ys:=by
 obtain⟨its,r,⟨o,n,e,_,_,d⟩,_⟩:=I.list h
 obtain⟨its',r',⟨o',n',e',_,_,d'⟩,_⟩:=I.list h'
 rw[e]at e';cases e'
 rw[d]at d'
 injection d' with d1 _
 have:its=its':=by simpa using congrArg Array.toList d1
 subst this
 exact r.inj r'
theorem Inv.tuple_inj(I:Inv X pins σ H s)(h:SqT X.K H a xs)(h':SqT X.K H a ys):xs=ys:=by
 obtain⟨its,r,⟨o,e,_,n,d⟩,_⟩:=I.tuple h
 obtain⟨its',r',⟨o',e',_,n',d'⟩,_⟩:=I.tuple h'
 rw[e]at e';cases e'
 rw[d]at d'
 injection d' with d1 _
 have:its=its':=by simpa using congrArg Array.toList d1
 subst this
 exact r.inj r'
end
noncomputable abbrev Cx.wish(X:Cx)(E:Value→Shared→Prop):Cx:={X with xe:=E}
noncomputable abbrev Cx.nox(X:Cx):Cx:=X.wish fun _ _=>False
theorem Cx.Ok.wish{X:Cx}(ok:X.Ok)(E:Value→Shared→Prop):(X.wish E).Ok:=
 ⟨ok.mod,ok.kind,ok.glob,ok.blt,ok.above,ok.inj,ok.has,ok.cab,ok.hd,ok.frames,ok.stk,ok.exf,ok.bs,ok.bsz,ok.noex,ok.exfs,ok.funs,ok.frf⟩
theorem Cx.Ok.unwish{X:Cx}{E:Value→Shared→Prop}(ok:(X.wish E).Ok):X.Ok:=
 ⟨ok.mod,ok.kind,ok.glob,ok.blt,ok.above,ok.inj,ok.has,ok.cab,ok.hd,ok.frames,ok.stk,ok.exf,ok.bs,ok.bsz,ok.noex,ok.exfs,ok.funs,ok.frf⟩
section
variable{X:Cx}{pins:List (Addr×Obj)}{σ:St}{H:Hp}{s:Shared}{E:Value→Shared→Prop}
theorem Inv.wish(I:Inv X pins σ H s)(E:Value→Shared→Prop):Inv (X.wish E) pins σ H s:=⟨I.ok.wish E,I.os,I.bare,I.base,I.loc,I.cell,I.free,I.freeC,I.pin,I.hok,I.len⟩
theorem Inv.unwish(I:Inv (X.wish E) pins σ H s):Inv X pins σ H s:=⟨I.ok.unwish,I.os,I.bare,I.base,I.loc,I.cell,I.free,I.freeC,I.pin,I.hok,I.len⟩
theorem SP.unwish{D:Ends}{f:Flow}{s':Shared}(h:SP (X.wish E) pins D f s'):SP X pins D f s':=by
 cases f with
 |next=>obtain⟨σ',H',I,q⟩:=h;exact⟨σ',H',I.unwish,q⟩
 |brk=>obtain⟨σ',H',I,q⟩:=h;exact⟨σ',H',I.unwish,q⟩
 |cont=>obtain⟨σ',H',I,q⟩:=h;exact⟨σ',H',I.unwish,q⟩
 |ret u=>obtain⟨v,σ',H',I,r,q⟩:=h;exact⟨v,σ',H',I.unwish,r,q⟩
theorem PSs.nox{st:List Stmt}{t:TS}(h:PSs X.nox st t):PSs X st t:=fun pins s σ H D I hw=>
 wpAny_mono (h pins s σ H D (I.wish _) hw) (fun _ _ q=>q.unwish) fun _ _ z=>False.elim z
end
section
variable{X:Cx}{st:Stmt}{rest:List Stmt}{t u:TS}{e:Expr}{te:TE}{pos:Pos}
noncomputable def Zty:TS:=fun D σ H=>D.nx σ H
noncomputable def tSeq(t u:TS):TS:=fun D σ H=>t {D with nx:=u D} σ H
theorem Zq0:PSs X [] Zty:=fun _ _ σ H _ I h=>wpAny_execs_nil ⟨σ,H,I,h⟩
theorem Zn0(h1:PS X st t)(h2:PSs X rest u):PSs X (st::rest) (tSeq t u):=by
 intro pins s σ H D I h
 refine wpAny_execs_cons (thn (h1 pins s σ H {D with nx:=u D} I h) fun f s1 q=>?_)
 cases f with
 |next=>
  obtain⟨σ',H',I',q⟩:=q
  exact h2 pins s1 σ' H' D I' q
 |ret v=>exact q
 |brk=>exact q
 |cont=>exact q
theorem Zq1(h1:PS X st t):PSs X [st] t:=by
 intro pins s σ H D I h
 refine wpAny_execs_cons (thn (h1 pins s σ H D I h) fun f s1 q=>?_)
 cases f with
 |next=>exact wpAny_execs_nil q
 |ret v=>exact q
 |brk=>exact q
 |cont=>exact q
noncomputable def Zz7:TS:=fun D σ H=>D.bk σ H
noncomputable def Z1o:TS:=fun D σ H=>D.ct σ H
theorem Inv.quiet{pins:List (Addr×Obj)}{σ:St}{H:Hp}{s:Shared}(I:Inv X pins σ H s):interactive X.env=false:=by simp[interactive,I.ok.kind]
noncomputable def Ztz(te:TE):TS:=fun D σ H=>te σ H fun _ H1=>D.nx σ H1
theorem Zq2(he:PE X e te)(hs:swapsWith e none pos.line X.env=pure false:=by rfl):PS X (.Expr e pos) (Ztz te):=by
 intro pins s σ H D I h
 exact wpAny_Expr_any (thn (he pins s σ H _ I h) fun v s1 ⟨x,H1,I1,r1,q1⟩=>⟨σ,H1,I1,q1⟩) I.quiet hs
noncomputable def tRet(te:TE):TS:=fun D σ H=>te σ H D.rt
theorem Zt0(he:PE X e te):PS X (.Return (some e) pos) (tRet te):=by
 intro pins s σ H D I h
 exact wpAny_Return_some (thn (he pins s σ H _ I h) fun v s1 ⟨x,H1,I1,r1,q1⟩=>⟨x,σ,H1,I1,r1,q1⟩)
noncomputable def Z1p:TS:=fun D _ H=>D.rt .non H
noncomputable def tIfS(c:TT)(t u:TS):TS:=fun D σ H=>c σ H fun b H1=>if b=true then t D σ H1 else u D σ H1
theorem Zxr{c:Expr}{a b:List Stmt}{tc:TT}(hc:PT X c tc)(ha:PSs X a t)(hb:PSs X b u):PS X (.If c a b pos) (tIfS tc t u):=by
 intro pins s σ H D I h
 refine wpAny_If (thn (hc pins s σ H _ I h) fun d s1 zq9=>?_)
 obtain⟨H1,I1,q1⟩:=zq9
 cases d with
 |true=>exact ha pins s1 σ H1 D I1 q1
 |false=>exact hb pins s1 σ H1 D I1 q1
noncomputable def Zt1:TS:=fun _ _ _=>False
theorem Zn1:PS X st Zt1:=fun _ _ _ _ _ _ h=>h.elim
end
noncomputable abbrev TG:=V→St→Hp→(St→Hp→Prop)→Prop
noncomputable abbrev TGs:=List V→St→Hp→(St→Hp→Prop)→Prop
noncomputable def PG(X:Cx)(target:Expr)(t:TG):Prop:=
 ∀(pins:List (Addr×Obj)) (s:Shared) (σ:St) (H:Hp) (v:V) (u:Value) (Q:St→Hp→Prop),Inv X pins σ H s→RelV v u→t v σ H Q→
  wpAny (model X.prog X.w) X.A (assign target X.env u) (fun _ s'=>∃σ' H',Inv X pins σ' H' s'∧Q σ' H') X.xe s
noncomputable def PGs(X:Cx)(ts:List Expr)(t:TGs):Prop:=
 ∀(pins:List (Addr×Obj)) (s:Shared) (σ:St) (H:Hp) (vs:List V) (us:List Value) (Q:St→Hp→Prop),Inv X pins σ H s→Vals vs us→t vs σ H Q→
  wpAny (model X.prog X.w) X.A (assignInOrder ((assignEach ts X.env).map (·.2)) us) (fun _ s'=>∃σ' H',Inv X pins σ' H' s'∧Q σ' H') X.xe s
noncomputable abbrev TSet:=V→V→V→Hp→(Hp→Prop)→Prop
noncomputable def PSet(X:Cx)(t:TSet):Prop:=
 ∀(pins:List (Addr×Obj)) (s:Shared) (σ:St) (H:Hp) (o i v:V) (ov iv u:Value) (Q:Hp→Prop),Inv X pins σ H s→RelV o ov→RelV i iv→RelV v u→t o i v H Q→
  wpAny (model X.prog X.w) X.A (setItem ov iv u) (fun _ s'=>∃H',Inv X pins σ H' s'∧Q H') X.xe s
noncomputable abbrev TIp:=V→V→Hp→VK→Prop
noncomputable def PIp(X:Cx)(op:Operator)(t:TIp):Prop:=
 ∀(pins:List (Addr×Obj)) (s:Shared) (σ:St) (H:Hp) (x y:V) (v u:Value) (Q:VK),Inv X pins σ H s→RelV x v→RelV y u→t x y H Q→
  wpAny (model X.prog X.w) X.A (inplaceOp op v u) (EP X pins σ Q) X.xe s
section
variable{X:Cx}{pos:Pos}
noncomputable def Zju(i:Nat):TG:=fun v σ H Q=>Q (σ.set i (some v)) H
theorem Zq3{i:Nat}{x:Str}(hN:X.N.Nodup)(hi:X.N[i]? =some x)(hx:Loc X.env.scope x)(hf:X.fn x=true∨X.env.scope.names.lookup x=some .local:=by first|exact .inl rfl|exact .inr rfl|assumption):PG X (.Name x pos) (Zju i):=by
 intro pins s σ H v u Q I r h
 exact wpAny_assign_Name (Zio I hN hi hx r (fun s' I'=>⟨_,H,I',h⟩) hf)
noncomputable def gNil:TGs:=fun vs σ H Q=>vs=[]∧Q σ H
noncomputable def Zt2(t:TG)(u:TGs):TGs:=fun vs σ H Q=>∃v r,vs=v::r∧t v σ H fun σ' H'=>u r σ' H' Q
theorem Zq4:PGs X [] gNil:=by
 intro pins s σ H vs us Q I r h
 obtain⟨e,h⟩:=h
 subst e
 cases r
 exact assignInOrder_nil ⟨σ,H,I,h⟩
theorem Zn2{e:Expr}{es:List Expr}{t:TG}{u:TGs}(h1:PG X e t)(h2:PGs X es u)
  (hs:(assignEach (e::es) X.env).map (·.2)=assign e X.env::(assignEach es X.env).map (·.2):=by rfl):PGs X (e::es) (Zt2 t u):=by
 intro pins s σ H vs us Q I r h
 obtain⟨v,vr,e1,h⟩:=h
 subst e1
 cases r with
 |cons r rr=>
  rw[hs]
  refine assignInOrder_cons (thn (h1 pins s σ H _ _ _ I r h) fun _ s1 zq9=>?_)
  obtain⟨σ1,H1,I1,q1⟩:=zq9
  exact h2 pins s1 σ1 H1 _ _ Q I1 rr q1
noncomputable def gTup(K:PySem.W.Frag)(n:Nat)(t:TGs):TG:=fun v σ H Q=>∃a xs,v= .ref a∧SqT K H a xs∧xs.length=n∧t xs σ H Q
theorem Zt3{es:List Expr}{k:Nat}{t:TGs}{n:Nat}(hc:X.calm=true)(h:PGs X es t)
  (hn:(assignEach es X.env).length=n:=by rfl) (hst:(assignEach es X.env).findIdx? (·.1)=none:=by rfl):PG X (.Tuple es k pos) (gTup X.K n t):=by
 intro pins s σ H v u Q I r hw
 obtain⟨a,xs,e1,hq,hl,hw⟩:=hw
 subst e1
 cases r
 obtain⟨its,rv,ht,hz⟩:=I.tuple hq
 refine assign_Tuple_tuple (I.ok.hd hc) ht (by simp[hn,←hl,rv.length]) hst fun h' hx=>?_
 have I1:Inv X pins σ H {s with heap:=h'}:=I.kept (t':=s.toks) fun b o e=>hx b o (Nat.ne_of_lt (Heap.lt_size e)) e
 exact h pins _ σ H xs _ Q I1 (by simpa using rv) hw
noncomputable def gSub(to ti:TE)(t:TSet):TG:=fun v σ H Q=>to σ H fun o H1=>ti σ H1 fun i H2=>t o i v H2 fun H3=>Q σ H3
noncomputable def tAsg(te:TE)(g:TG):TS:=fun D σ H=>te σ H fun x H1=>g x σ H1 D.nx
theorem Zt4{tg e:Expr}{te:TE}{g:TG}(he:PE X e te)(hg:PG X tg g)(hs:swapsWithSole [tg] e pos.line X.env=pure false:=by rfl)(hw:swappedStores [tg] e X.env=pure none:=by rfl)
  (h1:(assignEach [tg] X.env).map (·.2)=[assign tg X.env]:=by rfl):PS X (.Assign [tg] e pos) (tAsg te g):=by
 intro pins s σ H D I h
 refine wpAny_Assign_stores (thn (he pins s σ H _ I h) fun v s1 ⟨x,H1,I1,r1,q1⟩=>?_) hs hw
 rw[h1]
 exact thn (hg pins s1 σ H1 x v _ I1 r1 q1) fun _ s2 q=>q
theorem Zt5{i:Nat}{x:Str}{e:Expr}{te:TE}{pos':Pos}(hN:X.N.Nodup)(hi:X.N[i]? =some x)(hx:Loc X.env.scope x)(he:PE X e te)(hs:swapsWith e (some (.Name x pos')) pos.line X.env=pure false:=by rfl)(hf:X.fn x=true∨X.env.scope.names.lookup x=some .local:=by first|exact .inl rfl|exact .inr rfl|assumption):
  PS X (.Assign [.Name x pos'] e pos) (tAsg te (Zju i)):=by
 intro pins s σ H D I h
 refine wpAny_Assign_Name (thn (he pins s σ H _ I h) fun v s1 ⟨y,H1,I1,r1,q1⟩=>?_) hs
 exact Zio I1 hN hi hx r1 (fun s2 I2=>⟨_,H1,I2,q1⟩) hf
noncomputable def tPar(i j:Nat)(ta:TA):TS:=fun D σ H=>ta σ H fun vs H1=>∃v w,vs=[v,w]∧D.nx ((σ.set i (some v)).set j (some w)) H1
noncomputable def tAug(i:Nat)(te:TE)(ti:TIp):TS:=fun D σ H=>∃x,σ[i]? =some (some x)∧te σ H fun y H1=>ti x y H1 fun z H2=>D.nx (σ.set i (some z)) H2
noncomputable def Z1q(to ti te:TE)(tget:V→V→Hp→VK→Prop)(tip:TIp)(tset:TSet):TS:=fun D σ H=>to σ H fun o H1=>ti σ H1 fun i H2=>tget o i H2 fun x H3=>te σ H3 fun y H4=>tip x y H4 fun z H5=>tset o i z H5 fun H6=>D.nx σ H6
noncomputable def PGet(X:Cx)(t:V→V→Hp→VK→Prop):Prop:=
 ∀(pins:List (Addr×Obj)) (s:Shared) (σ:St) (H:Hp) (o i:V) (ov iv:Value) (Q:VK),Inv X pins σ H s→RelV o ov→RelV i iv→t o i H Q→
  wpAny (model X.prog X.w) X.A (getItem ov iv) (EP X pins σ Q) X.xe s
noncomputable def ipI(f:Int→Int→Int):TIp:=fun x y H Q=>∃i j,x= .int i∧y= .int j∧Q (.int (f i j)) H
end
section
variable{X:Cx}{pos:Pos}
noncomputable def Zpn(c:TT)(tb:TS):TS:=fun D σ H=>∃W:Nat→St→Hp→Prop,(∃m,W m σ H)∧∀m σ H,W m σ H→
 c σ H fun b H1=>if b=true then∃N:St→Hp→Prop,(∀σ' H',N σ' H'→∃m',m'<m∧W m' σ' H')∧tb {D with nx:=N,ct:=N,bk:=D.nx} σ H1 else D.nx σ H1
theorem Zn3{c:Expr}{body:List Stmt}{tc:TT}{tb:TS}(hp:PassesOwn (model X.prog X.w) X.A X.env X.xe)(hc:PT X c tc)(hb:PSs X body tb):PS X (.While c body [] pos) (Zpn tc tb):=by
 intro pins s σ H D I h
 obtain⟨W,⟨m0,w0⟩,turn⟩:=h
 refine wpAny_While (codeAny_whileLoop (fun n s'=>∃σ' H',Inv X pins σ' H' s'∧W n σ' H') ?_ m0 ⟨σ,H,I,w0⟩)
 rintro n s1 ⟨σ1,H1,I1,w1⟩
 refine wpAny_passesOwn hp (thn (hc pins s1 σ1 H1 _ I1 (turn n σ1 H1 w1)) fun b s2 zq9=>?_)
 obtain⟨H2,I2,q2⟩:=zq9
 cases b with
 |true=>
  obtain⟨N,hN,q2⟩:=q2
  rw[if_pos rfl]
  refine wpAny_passesOwn hp (thn (hb pins s2 σ1 H2 _ I2 q2) fun f s3 q3=>?_)
  cases f with
  |next=>
   obtain⟨σ3,H3,I3,n3⟩:=q3
   obtain⟨m',hm,w3⟩:=hN σ3 H3 n3
   exact⟨m',hm,σ3,H3,I3,w3⟩
  |cont=>
   obtain⟨σ3,H3,I3,n3⟩:=q3
   obtain⟨m',hm,w3⟩:=hN σ3 H3 n3
   exact⟨m',hm,σ3,H3,I3,w3⟩
  |brk=>exact q3
  |ret v=>exact q3
 |false=>
  rw[if_neg Bool.false_ne_true]
  exact wpAny_execs_nil ⟨σ1,H2,I2,q2⟩
end
set_option genInjectivity false in
structure It where
 go:Nat→Hp→Prop
 yld:Nat→Hp→V→Hp→Prop
 stop:Nat→Hp→Prop
noncomputable def FpOk(X:Cx)(pins:List (Addr×Obj))(H:Hp)(b:Addr):Prop:=
 H b=none∧b≠X.env.locals∧b∉X.fs∧(b∈X.ex∨X.s₀.heap.objs.size≤b)∧(∀x c,X.env.cells.lookup x=some c→c≠b)∧∀p∈X.pn++pins,p.1≠b
theorem Inv.fpOk{X:Cx}{pins:List (Addr×Obj)}{σ:St}{H H':Hp}{s:Shared}{b:Addr}(I:Inv X pins σ H s)(hb:s.heap.objs.size≤b)(hn:H' b=none):FpOk X pins H' b:=by
 refine⟨hn,Nat.ne_of_gt (Nat.lt_of_lt_of_le I.lt hb),I.nofs hb,.inr (Nat.le_trans I.sz hb),fun x c e z=>?_,fun p hp z=>?_⟩
 ·obtain⟨v,q⟩:=I.cell x c e
  exact absurd (Nat.lt_of_lt_of_le q.lt (by rw[z];exact hb)) (Nat.lt_irrefl _)
 ·exact absurd (Nat.lt_of_lt_of_le (Heap.lt_size (I.pin p hp).1) (by rw[z];exact hb)) (Nat.lt_irrefl _)
structure Turn(P:Program)(w:World)(K:PySem.W.Frag)(tg:Expr)(J:It)(fp:List Addr)(it:Addr)(tn:Nat→Heap→Prop):Prop where
 mem:it∈fp
 obj:∀i h,tn i h→∀b∈fp,∃o,h.get? b=some o∧∀v,o.data≠.cell v
 keep:∀i h h',tn i h→(∀b∈fp,∀o,h.get? b=some o→h'.get? b=some o)→tn i h'
 item:∀(X:Cx),X.prog=P→X.w=w→X.K=K→X.calm=true→∀(i:Nat) (pins:List (Addr×Obj)) (s:Shared) (σ:St) (H:Hp) (E:Value→Shared→Prop),Inv X pins σ H s→(∀b∈fp,FpOk X pins H b)→tn i s.heap→J.go i H→
  wpAny (model P w) X.A (pyNext (.ref it)) (fun r s1=>∃u,r=some u∧
   wpAny (model P w) X.A (letOwnedTupleGo tg (.ref it) u) (fun _ s2=>∃x H',Inv X pins σ H' s2∧RelV x u∧J.yld i H x H'∧tn (i+1) s2.heap∧∀b∈fp,H' b=none) E s1) E s
 done:∀(X:Cx),X.prog=P→X.w=w→X.K=K→X.calm=true→∀(i:Nat) (pins:List (Addr×Obj)) (s:Shared) (σ:St) (H:Hp) (E:Value→Shared→Prop),Inv X pins σ H s→(∀b∈fp,FpOk X pins H b)→tn i s.heap→J.stop i H→
  wpAny (model P w) X.A (pyNext (.ref it)) (fun r s1=>r=none∧Inv X pins σ H s1) E s
 self:∀(A:Around) (i:Nat) (s:Shared) (Q:Value→Shared→Prop) (E:Value→Shared→Prop),tn i s.heap→Q (.ref it) s→wpAny (model P w) A (pyIter (.ref it)) Q E s
noncomputable abbrev TI:=St→Hp→(It→Hp→Prop)→Prop
noncomputable def PIE(X:Cx)(pins:List (Addr×Obj))(σ:St)(tg:Expr)(R:It→Hp→Prop)(itv:Value)(s2:Shared):Prop:=
 ∃(it:Addr) (fp:List Addr) (tn:Nat→Heap→Prop) (J:It) (H':Hp),itv= .ref it∧Inv X pins σ H' s2∧Turn X.prog X.w X.K tg J fp it tn∧tn 0 s2.heap∧(∀b∈fp,FpOk X pins H' b)∧R J H'
noncomputable def PI(X:Cx)(tg iter:Expr)(wi:TI):Prop:=
 ∀(pins:List (Addr×Obj)) (s:Shared) (σ:St) (H:Hp) (R:It→Hp→Prop),Inv X pins σ H s→wi σ H R→
  wpAny (model X.prog X.w) X.A (eval iter X.env) (fun v s1=>wpAny (model X.prog X.w) X.A (pyIter v) (PIE X pins σ tg R) X.xe s1) X.xe s
theorem Zn4{M:Model}{A:Around}{E:Value→Shared→Prop}{s:Shared}{tg:Expr}{it:Addr}{u:Value}{o:Obj}{n:String}{vs:Array Value}{Q:Unit→Shared→Prop}(ho:s.heap.get? it=some o)(hc:o.cls= .type n)(hd:o.data= .fields vs)
    (hn:["enumerate","zip","dict_itemiterator","dict_reverseitemiterator","odict_iterator","itertools.zip_longest","itertools.pairwise"].contains n=false) (hQ:Q () s):wpAny M A (letOwnedTupleGo tg (.ref it) u) Q E s:=by
  unfold letOwnedTupleGo
  cases tg<;> first
    |exact wpAny_pure hQ
    | (cases u<;> first
        |exact wpAny_pure hQ
        | (refine wpAny_bind (wpAny_load ho ?_)
           rw[hc,hd]
           show wpAny M A (if(["enumerate","zip","dict_itemiterator","dict_reverseitemiterator","odict_iterator","itertools.zip_longest","itertools.pairwise"].contains n&&vs[0]? ==some (rawInt _))=true then _ else _) Q E s
           rw[if_neg (by intro h;rw[hn,Bool.false_and]at h;cases h)]
           exact wpAny_pure hQ))
noncomputable def Itl(K:PySem.W.Frag)(a:Addr):It:=
 ⟨fun i H=>∃xs x,SqL K H a xs∧xs[i]? =some x,fun i H x H'=>H'=H∧∀xs,SqL K H a xs→xs[i]? =some x,fun i H=>∃xs,SqL K H a xs∧xs.length≤i⟩
noncomputable def Itt(K:PySem.W.Frag)(a:Addr):It:=
 ⟨fun i H=>∃xs x,SqT K H a xs∧xs[i]? =some x,fun i H x H'=>H'=H∧∀xs,SqT K H a xs→xs[i]? =some x,fun i H=>∃xs,SqT K H a xs∧xs.length≤i⟩
noncomputable def Itr(lo:Int)(n:Nat):It:=⟨fun i _=>i<n,fun i H x H'=>H'=H∧x= .int (lo+i),fun i _=>n≤i⟩
theorem Zkw{P:Program}{w:World}{K:PySem.W.Frag}{tg:Expr}(a it:Addr):Turn P w K tg (Itl K a) [it] it (fun i h=>h.IsListIter it a i)where
 mem:=by simp
 obj:=fun i h st b hb=>by
  have e:b=it:=by simpa using hb
  subst e
  obtain⟨o,e,c,d⟩:=st
  exact⟨o,e,fun v z=>by rw[d]at z;cases z⟩
 keep:=fun i h h' st k=>st.at fun o e=>k it (by simp) o e
 item:=by
  intro X hP hw hK hc i pins s σ H E I hf st hg
  subst hP hw hK
  obtain⟨xs,x,hq,hx⟩:=hg
  obtain⟨its,rv,p,hz⟩:=I.list hq
  obtain⟨u,hu,ru⟩:=rv.get hx
  obtain⟨f0,f1,f2,f3,f4,f5⟩:=hf it (by simp)
  refine wpAny_pyNext_list_item st p.isList (x:=u) (by simpa using hu) fun h' st' sb=>?_
  have I1:Inv X pins σ H {s with heap:=h'}:=I.turned (t':=s.toks) (fun b o hb e=>(sb.2 b hb).trans e) f0 f1 f3 f4 f5
  obtain⟨o,e,c,d⟩:=id st'
  exact⟨u,rfl,Zn4 (s:={s with heap:=h'}) e c d (by decide) ⟨x,H,I1,ru,⟨rfl,fun ys hy=>by rw[I.list_inj hy hq];exact hx⟩,st',fun b hb=>(hf b hb).1⟩⟩
 done:=by
  intro X hP hw hK hc i pins s σ H E I hf st hg
  subst hP hw hK
  obtain⟨xs,hq,hx⟩:=hg
  obtain⟨its,rv,p,hz⟩:=I.list hq
  obtain⟨f0,f1,f2,f3,f4,f5⟩:=hf it (by simp)
  have hl:=rv.length
  exact wpAny_pyNext_list_end (I.ok.hd hc) st p.isList (by simp;omega) fun h' eb=>⟨rfl,I.turned (t':=s.toks) (fun b o hb e=>eb b o hb e) f0 f1 f3 f4 f5⟩
 self:=fun _ _ _ _ _ st h=>wpAny_pyIter_listiter st h
theorem Zjv{P:Program}{w:World}{K:PySem.W.Frag}{tg:Expr}(a it:Addr):Turn P w K tg (Itt K a) [it] it (fun i h=>h.IsTupleIter it a i)where
 mem:=by simp
 obj:=fun i h st b hb=>by
  have e:b=it:=by simpa using hb
  subst e
  obtain⟨o,e,c,d⟩:=st
  exact⟨o,e,fun v z=>by rw[d]at z;cases z⟩
 keep:=fun i h h' st k=>st.at fun o e=>k it (by simp) o e
 item:=by
  intro X hP hw hK hc i pins s σ H E I hf st hg
  subst hP hw hK
  obtain⟨xs,x,hq,hx⟩:=hg
  obtain⟨its,rv,p,hz⟩:=I.tuple hq
  obtain⟨u,hu,ru⟩:=rv.get hx
  obtain⟨f0,f1,f2,f3,f4,f5⟩:=hf it (by simp)
  refine wpAny_pyNext_tuple_item st (show s.heap.IsTuple a its.toArray from p) (x:=u) (by simpa using hu) fun h' st' sb=>?_
  have I1:Inv X pins σ H {s with heap:=h'}:=I.turned (t':=s.toks) (fun b o hb e=>(sb.2 b hb).trans e) f0 f1 f3 f4 f5
  obtain⟨o,e,c,d⟩:=id st'
  exact⟨u,rfl,Zn4 (s:={s with heap:=h'}) e c d (by decide) ⟨x,H,I1,ru,⟨rfl,fun ys hy=>by rw[I.tuple_inj hy hq];exact hx⟩,st',fun b hb=>(hf b hb).1⟩⟩
 done:=by
  intro X hP hw hK hc i pins s σ H E I hf st hg
  subst hP hw hK
  obtain⟨xs,hq,hx⟩:=hg
  obtain⟨its,rv,p,hz⟩:=I.tuple hq
  obtain⟨f0,f1,f2,f3,f4,f5⟩:=hf it (by simp)
  have hl:=rv.length
  exact wpAny_pyNext_tuple_end (I.ok.hd hc) st (show s.heap.IsTuple a its.toArray from p) (by simp;omega) fun h' eb=>⟨rfl,I.turned (t':=s.toks) (fun b o hb e=>eb b o hb e) f0 f1 f3 f4 f5⟩
 self:=fun _ _ _ _ _ st h=>wpAny_pyIter_tupleiter st h
theorem Zjw{P:Program}{w:World}{K:PySem.W.Frag}{tg:Expr}(it:Addr)(lo:Int)(n:Nat):Turn P w K tg (Itr lo n) [it] it (fun i h=>IsRangeIter h it (lo+(i:Nat)*1) ((n:Int)- (i:Nat)) 1)where
 mem:=by simp
 obj:=fun i h st b hb=>by
  have e:b=it:=by simpa using hb
  subst e
  exact⟨_,st,fun v z=>by
   have z':Data.fields _=Data.cell v:=z
   cases z'⟩
 keep:=fun i h h' st k=>k it (by simp) _ st
 item:=by
  intro X hP hw hK hc i pins s σ H E I hf st hg
  subst hP hw hK
  obtain⟨f0,f1,f2,f3,f4,f5⟩:=hf it (by simp)
  have W:=Walks.range (prog:=X.prog) (w:=X.w) (I.ok.hd hc) it lo 1 n
  refine W.item i s _ _ hg st fun v h' tk hv st' kk=>?_
  obtain⟨t,rfl⟩:=hv
  have I1:Inv X pins σ H {s with heap:=h',toks:=tk}:=I.turned (fun b o hb e=>kk b o (by simpa using hb) e) f0 f1 f3 f4 f5
  refine⟨_,rfl,Zn4 (s:={s with heap:=h',toks:=tk}) (n:="range_iterator") st' rfl rfl (by decide) ⟨.int (lo+i),H,I1,⟨t,?_⟩,⟨rfl,rfl⟩,st',fun b hb=>(hf b hb).1⟩⟩
  rw[Int.mul_one]
 done:=by
  intro X hP hw hK hc i pins s σ H E I hf st hg
  subst hP hw hK
  obtain⟨f0,f1,f2,f3,f4,f5⟩:=hf it (by simp)
  exact wpAny_pyNext_range_end (I.ok.hd hc) st (by have:n≤i:=hg;omega) fun h' eb=>⟨rfl,I.turned (t':=s.toks) (fun b o hb e=>eb b o hb e) f0 f1 f3 f4 f5⟩
 self:=fun _ _ _ _ _ st h=>wpAny_pyIter_rangeiter st h
end L2
namespace L2
open PySem PySem.Spec PyProof.Rows
section
variable{X:Cx}{tg:Expr}
noncomputable def Z1r(K:PySem.W.Frag)(tl:TE):TI:=fun σ H R=>tl σ H fun x H1=>∃a,x= .ref a∧(∃xs,SqL K H1 a xs)∧R (Itl K a) H1
noncomputable def iTup(K:PySem.W.Frag)(tl:TE):TI:=fun σ H R=>tl σ H fun x H1=>∃a,x= .ref a∧(∃xs,SqT K H1 a xs)∧R (Itt K a) H1
theorem Zip{pins:List (Addr×Obj)}{σ:St}{H:Hp}{s:Shared}{R:It→Hp→Prop}{E:Value→Shared→Prop}{lo hi:Int}{t u v:Tok}{tk:Nat}(I:Inv X pins σ H s)(h1:-(2^62)≤lo)(h2:lo<2^62)(h3:-(2^62)≤hi)(h4:hi<2^62)
  (q:R (Itr lo (hi- lo).toNat) H):wpAny (model X.prog X.w) X.A (pyIter (.ref s.heap.objs.size)) (PIE X pins σ tg R) E {s with heap:=s.heap.push {cls:=.type "range",data:=.fields #[.int lo t,.int hi u,.int 1 v]},toks:=tk}:=by
 refine wpAny_pyIter_range (IsRange.new ..) (small_one h1 h2 h3 h4) ?_
 have I1:Inv X pins σ H {s with heap:=s.heap.push {cls:=.type "range",data:=.fields #[.int lo t,.int hi u,.int 1 v]},toks:=tk}:=I.kept fun b o e=>Heap.get?_push_of_some _ e
 refine⟨(s.heap.push {cls:=.type "range",data:=.fields #[.int lo t,.int hi u,.int 1 v]}).objs.size,[(s.heap.push {cls:=.type "range",data:=.fields #[.int lo t,.int hi u,.int 1 v]}).objs.size],_,_,H,rfl,
  I1.kept (t':=tk) fun b o e=>Heap.get?_push_of_some _ e,Zjw _ lo (hi- lo).toNat,?_,fun b hb=>?_,q⟩
 ·have e1:lo+((0:Nat):Int)*1=lo:=by simp
  have e2:(((hi- lo).toNat:Nat):Int)- ((0:Nat):Int)=Builtin.Range.rangeSize lo hi 1:=by rw[rangeSize_one];split<;> omega
  show IsRangeIter _ _ (lo+((0:Nat):Int)*1) ((((hi- lo).toNat:Nat):Int)- ((0:Nat):Int)) 1
  rw[e1,e2]
  exact Heap.get?_push_size _ rfl
 ·have e:b=(s.heap.push {cls:=.type "range",data:=.fields #[.int lo t,.int hi u,.int 1 v]}).objs.size:=by simpa using hb
  subst e
  exact I1.fpOk (Nat.le_refl _) (I1.hok.fresh (Nat.le_refl _))
noncomputable def Zt6(ta:TA):TI:=fun σ H R=>ta σ H fun vs H1=>∃j:Int,vs=[.int j]∧-(2^62)≤j∧j<2^62∧R (Itr 0 j.toNat) H1
noncomputable def Zt7(ta:TA):TI:=fun σ H R=>ta σ H fun vs H1=>∃i j:Int,vs=[.int i,.int j]∧(-(2^62)≤i∧i<2^62∧-(2^62)≤j∧j<2^62)∧R (Itr i (j- i).toNat) H1
theorem Zkx{a:Expr}{ta:TA}{p pos:Pos}(hg:Gl X "range")(hm:X.mg "range"=none)(ha:PA X [a] ta)(hs:starEach [a] X.env=[(false,eval a X.env)]:=by rfl):PI X tg (.Call (.Name "range" p) [a] [] pos) (Zt6 ta):=by
 intro pins s σ H R I h
 refine Call_ (Zdn I hg hm boot_range (PyProof.Rows.callWith_type1 (thn (ha pos pins s σ H _ I h) fun us s1 ⟨vs,H1,I1,r1,q1⟩=>?_) hs rfl))
 obtain⟨j,e,q1,q2,q⟩:=q1
 subst e
 cases r1 with
 |cons r rr=>
  cases rr
  obtain⟨t,rfl⟩:=r
  exact call_range_1 (Zip I1 (by omega) (by omega) q1 q2 (by simpa using q))
theorem Zky{a b:Expr}{ta:TA}{p pos:Pos}(hg:Gl X "range")(hm:X.mg "range"=none)(ha:PA X [a,b] ta)(hs:starEach [a,b] X.env=[(false,eval a X.env),(false,eval b X.env)]:=by rfl)(hs2:starEach [b] X.env=[(false,eval b X.env)]:=by rfl):
  PI X tg (.Call (.Name "range" p) [a,b] [] pos) (Zt7 ta):=by
 intro pins s σ H R I h
 refine Call_ (Zdn I hg hm boot_range (PyProof.Rows.callWith_type1 (thn (ha pos pins s σ H _ I h) fun us s1 ⟨vs,H1,I1,r1,q1⟩=>?_) (by rw[hs,hs2]) (by rw[hs2];rfl)))
 obtain⟨i,j,e,⟨q1,q2,q3,q4⟩,q⟩:=q1
 subst e
 cases r1 with
 |cons r rr=>
  cases rr with
  |cons r' rr=>
   cases rr
   obtain⟨t,rfl⟩:=r
   obtain⟨t',rfl⟩:=r'
   exact call_range_2 (Zip I1 q1 q2 q3 q4 q)
noncomputable def tFor(wi:TI)(g:TG)(tb:TS):TS:=fun D σ H=>wi σ H fun J H1=>∃W:Nat→Nat→St→Hp→Prop,(∃m,W 0 m σ H1)∧∀i m σ H,W i m σ H→
 (J.stop i H∧D.nx σ H)∨(J.go i H∧∃N:St→Hp→Prop,(∀σ' H',N σ' H'→∃m',m'<m∧W (i+1) m' σ' H')∧∀x H',J.yld i H x H'→g x σ H' fun σ2 H2=>tb {D with nx:=N,ct:=N,bk:=D.nx} σ2 H2)
noncomputable def Zf9(fp:List Addr)(h:Heap):List (Addr×Obj):=fp.filterMap fun b=>(h.get? b).map fun o=>(b,o)
theorem Zcb{fp:List Addr}{h:Heap}{b:Addr}{o:Obj}(hb:b∈fp)(e:h.get? b=some o):(b,o)∈Zf9 fp h:=List.mem_filterMap.mpr ⟨b,hb,by rw[e];rfl⟩
theorem Zkz{fp:List Addr}{h:Heap}{p:Addr×Obj}(hp:p∈Zf9 fp h):p.1∈fp∧h.get? p.1=some p.2:=by
 obtain⟨b,hb,e⟩:=List.mem_filterMap.mp hp
 cases q:h.get? b with
 |none=>rw[q]at e;cases e
 |some o=>
  rw[q]at e
  have e':(b,o)=p:=Option.some.inj e
  subst e'
  exact⟨hb,q⟩
theorem Inv.pinned{pins:List (Addr×Obj)}{σ:St}{H:Hp}{s:Shared}{fp:List Addr}(I:Inv X pins σ H s)(hf:∀b∈fp,FpOk X pins H b)(ho:∀b∈fp,∃o,s.heap.get? b=some o∧∀v,o.data≠.cell v):Inv X (pins++Zf9 fp s.heap) σ H s:=
 I.pins_of fun p hp=>(List.mem_append.mp hp).elim (fun z=>I.pin p (List.mem_append_right _ z)) fun z=>by
  obtain⟨hb,e⟩:=Zkz z
  obtain⟨f0,f1,f2,_⟩:=hf p.1 hb
  obtain⟨o,e',d⟩:=ho p.1 hb
  rw[e]at e';cases e'
  exact⟨e,f0,f1,f2,d⟩
theorem Inv.unpinned{pins pl:List (Addr×Obj)}{σ:St}{H:Hp}{s:Shared}(I:Inv X (pins++pl) σ H s):Inv X pins σ H s:=I.pins_of fun p hp=>I.pin p (List.mem_append_right _ (List.mem_append_left _ hp))
theorem Zt8 {iter : Expr} {body : List Stmt} {wi : TI} {g : TG} {tb : TS} {pos : Pos} (hp : PassesOwn (model X.prog X.w) X.A X.env X.xe) (hc : X.calm = true) (hi : PI X tg iter wi) (hg : PG X tg g) (hb : PSs X body tb)
    (hs : ∀ x, foldedSetIterable iter X.env x = pure x := by intro _; rfl) : PS X (.For tg iter body [] pos) (tFor wi g tb) := by
  intro pins s σ H D I h
  refine wpAny_For (thn (hi pins s σ H _ I h) fun v s1 h1 => thn h1 fun itv s2 h2 => ?_) hs
  obtain ⟨it, fp, tn, J, H2, e, I2, T, st2, f2, W, ⟨m0, w0⟩, turn⟩ := h2
  subst e
  -- what stays true of the iterator's objects through the loop
  have stat : ∀ {H' : Hp}, (∀ b ∈ fp, H' b = none) → ∀ b ∈ fp, FpOk X pins H' b := fun hn b hb => ⟨hn b hb, (f2 b hb).2⟩
  refine codeAny_forLoop_any (fun n s' => ∃ i σ' H', Inv X pins σ' H' s' ∧ tn i s'.heap ∧ (∀ b ∈ fp, H' b = none) ∧ W i n σ' H') ?_ m0 ⟨0, σ, H2, I2, st2, fun b hb => (f2 b hb).1, w0⟩
  rintro n s3 ⟨i, σ3, H3, I3, st3, fr3, w3⟩
  rcases turn i n σ3 H3 w3 with ⟨stop, qn⟩ | ⟨go, N, hN, step⟩
  · refine wpAny_passesOwn hp (thn (T.done X rfl rfl rfl hc i pins s3 σ3 H3 X.xe I3 (stat fr3) st3 stop) fun r s4 ⟨hr, I4⟩ => ?_)
    subst hr
    exact wpAny_execs_nil ⟨σ3, H3, I4, qn⟩
  · refine wpAny_passesOwn hp (thn (T.item X rfl rfl rfl hc i pins s3 σ3 H3 X.xe I3 (stat fr3) st3 go) fun r s4 ⟨u, hr, h4⟩ => ?_)
    subst hr
    refine wpAny_passesOwn hp (thn h4 fun _ s5 zq9 => ?_)
    obtain ⟨x, H5, I5, r5, y5, st5, fr5⟩ := zq9
    have I5' := I5.pinned (stat fr5) (T.obj _ _ st5)
    refine wpAny_passesOwn hp (thn (hg _ s5 σ3 H5 x u _ I5' r5 (step x H5 y5)) fun _ s6 zq9 => ?_)
    obtain ⟨σ6, H6, I6, q6⟩ := zq9
    refine wpAny_passesOwn hp (thn (hb _ s6 σ6 H6 _ I6 q6) fun f s7 q7 => ?_)
    have again : ∀ {σ7 : St} {H7 : Hp}, Inv X (pins ++ Zf9 fp s5.heap) σ7 H7 s7 → N σ7 H7 → ∃ m, m < n ∧ ∃ i σ' H', Inv X pins σ' H' s7 ∧ tn i s7.heap ∧ (∀ b ∈ fp, H' b = none) ∧ W i m σ' H' := fun {σ7 H7} I7 n7 => by
      obtain ⟨m', hm, w7⟩ := hN σ7 H7 n7
      refine ⟨m', hm, i + 1, σ7, H7, I7.unpinned, T.keep _ _ _ st5 fun b hb o e => (I7.pin (b, o) (List.mem_append_right _ (List.mem_append_right _ (Zcb hb e)))).1, fun b hb => ?_, w7⟩
      obtain ⟨o, e, d⟩ := T.obj _ _ st5 b hb
      exact (I7.pin (b, o) (List.mem_append_right _ (List.mem_append_right _ (Zcb hb e)))).2.1
    cases f with
    | next => obtain ⟨σ7, H7, I7, n7⟩ := q7; exact again I7 n7
    | cont => obtain ⟨σ7, H7, I7, n7⟩ := q7; exact again I7 n7
    | brk => obtain ⟨σ7, H7, I7, q7⟩ := q7; exact ⟨σ7, H7, I7.unpinned, q7⟩
    | ret v => obtain ⟨x7, σ7, H7, I7, r7, q7⟩ := q7; exact ⟨x7, σ7, H7, I7.unpinned, r7, q7⟩
end
end L2
namespace L2
open PySem PySem.Spec PyProof.Rows
noncomputable abbrev R2:=V→V→Hp→VK→Prop
noncomputable def OpR(X:Cx)(f:Value→Value→Sem Value)(r:R2):Prop:=
 ∀(pins:List (Addr×Obj)) (s:Shared) (σ:St) (H:Hp) (x y:V) (v u:Value) (Q:VK),Inv X pins σ H s→RelV x v→RelV y u→r x y H Q→
  wpAny (model X.prog X.w) X.A (f v u) (EP X pins σ Q) X.xe s
noncomputable def UnR(X:Cx)(f:Value→Sem Value)(r:V→Hp→VK→Prop):Prop:=
 ∀(pins:List (Addr×Obj)) (s:Shared) (σ:St) (H:Hp) (x:V) (v:Value) (Q:VK),Inv X pins σ H s→RelV x v→r x H Q→
  wpAny (model X.prog X.w) X.A (f v) (EP X pins σ Q) X.xe s
noncomputable def Zct(X:Cx)(f:Value)(r:List V→Hp→VK→Prop):Prop:=
 ∀(pins:List (Addr×Obj)) (s:Shared) (σ:St) (H:Hp) (xs:List V) (us:List Value) (Q:VK),Inv X pins σ H s→Vals xs us→r xs H Q→
  wpAny (model X.prog X.w) X.A (call f us) (EP X pins σ Q) X.xe s
noncomputable def TruR(X:Cx)(r:V→Hp→(Bool→Hp→Prop)→Prop):Prop:=
 ∀(pins:List (Addr×Obj)) (s:Shared) (σ:St) (H:Hp) (x:V) (v:Value) (Q:Bool→Hp→Prop),Inv X pins σ H s→RelV x v→r x H Q→
  wpAny (model X.prog X.w) X.A (truthy v) (TP X pins σ Q) X.xe s
noncomputable def tOp(r:R2)(ta tb:TE):TE:=fun σ H Q=>ta σ H fun x H1=>tb σ H1 fun y H2=>r x y H2 Q
noncomputable def tUn(r:V→Hp→VK→Prop)(ta:TE):TE:=fun σ H Q=>ta σ H fun x H1=>r x H1 Q
noncomputable def rI(C:Int→Int→Prop)(g:Int→Int→V):R2:=fun x y H Q=>∃i j,x= .int i∧y= .int j∧C i j∧Q (g i j) H
noncomputable def rI0(g:Int→Int→V):R2:=fun x y H Q=>∃i j,x= .int i∧y= .int j∧Q (g i j) H
noncomputable def rU(g:Int→V):V→Hp→VK→Prop:=fun x H Q=>∃i,x= .int i∧Q (g i) H
section
variable{X:Cx}{a b c:Expr}{ta tb tc:TE}{pos:Pos}
theorem binT(ha:PE X a ta)(hb:PE X b tb){pins:List (Addr×Obj)}{s:Shared}{σ:St}{H:Hp}{R:V→V→Hp→Prop}(I:Inv X pins σ H s)
  (h:ta σ H fun x H1=>tb σ H1 fun y H2=>R x y H2) {Q:Value→Shared→Prop} {f:Value→Value→Sem Value}
  (hf:∀v u s2 x y H2,Inv X pins σ H2 s2→RelV x v→RelV y u→R x y H2→wpAny (model X.prog X.w) X.A (f v u) Q X.xe s2):
  wpAny (model X.prog X.w) X.A (eval a X.env) (fun v s₁=>wpAny (model X.prog X.w) X.A (eval b X.env) (fun u s₂=>wpAny (model X.prog X.w) X.A (f v u) Q X.xe s₂) X.xe s₁) X.xe s:=by
 refine thn (ha pins s σ H _ I h) fun v s1 zq9=>?_
 obtain⟨x,H1,I1,r1,q1⟩:=zq9
 refine thn (hb pins s1 σ H1 _ I1 q1) fun u s2 zq9=>?_
 obtain⟨y,H2,I2,r2,q2⟩:=zq9
 exact hf v u s2 x y H2 I2 r1 r2 q2
theorem Zxs{op:Operator}{r:R2}(ho:OpR X (binaryOp op) r)(ha:PE X a ta)(hb:PE X b tb):PE X (.BinOp a op b pos) (tOp r ta tb):=by
 intro pins s σ H Q I h
 exact wpAny_BinOp (binT ha hb I h fun v u s2 x y H2 I2 rx ry q=>ho pins s2 σ H2 x y v u Q I2 rx ry q)
theorem Zxt{op:UnaryOp}{r:V→Hp→VK→Prop}(ho:UnR X (unaryOp op) r)(ha:PE X a ta):PE X (.UnaryOp op a pos) (tUn r ta):=by
 intro pins s σ H Q I h
 exact UnaryOp_ (thn (ha pins s σ H _ I h) fun v s1 ⟨x,H1,I1,r1,q1⟩=>ho pins s1 σ H1 x v Q I1 r1 q1)
theorem opI{f:Value→Value→Sem Value}{C:Int→Int→Prop}{g:Int→Int→Int}
  (rule:∀(i j:Int) (t u:Tok) (s:Shared) (Q:Value→Shared→Prop) (E:Value→Shared→Prop),C i j→Q (.int (g i j) s.toks) {s with toks:=s.toks+1}→wpAny (model X.prog X.w) X.A (f (.int i t) (.int j u)) Q E s):
  OpR X f (rI C fun i j=>.int (g i j)):=by
 intro pins s σ H x y v u Q I rx ry h
 obtain⟨i,j,rfl,rfl,hc,q⟩:=h
 obtain⟨t,rfl⟩:=rx
 obtain⟨t',rfl⟩:=ry
 exact rule i j t t' s _ _ hc ⟨.int (g i j),H,I.tok _,⟨_,rfl⟩,q⟩
theorem opI0{f:Value→Value→Sem Value}{g:Int→Int→Int}
  (rule:∀(i j:Int) (t u:Tok) (s:Shared) (Q:Value→Shared→Prop) (E:Value→Shared→Prop),Q (.int (g i j) s.toks) {s with toks:=s.toks+1}→wpAny (model X.prog X.w) X.A (f (.int i t) (.int j u)) Q E s):
  OpR X f (rI0 fun i j=>.int (g i j)):=by
 intro pins s σ H x y v u Q I rx ry h
 obtain⟨i,j,rfl,rfl,q⟩:=h
 obtain⟨t,rfl⟩:=rx
 obtain⟨t',rfl⟩:=ry
 exact rule i j t t' s _ _ ⟨.int (g i j),H,I.tok _,⟨_,rfl⟩,q⟩
theorem opB0{f:Value→Value→Sem Value}{g:Int→Int→Bool}
  (rule:∀(i j:Int) (t u:Tok) (s:Shared) (Q:Value→Shared→Prop) (E:Value→Shared→Prop),Q (.bool (g i j)) s→wpAny (model X.prog X.w) X.A (f (.int i t) (.int j u)) Q E s):
  OpR X f (rI0 fun i j=>.bl (g i j)):=by
 intro pins s σ H x y v u Q I rx ry h
 obtain⟨i,j,rfl,rfl,q⟩:=h
 obtain⟨t,rfl⟩:=rx
 obtain⟨t',rfl⟩:=ry
 exact rule i j t t' s _ _ ⟨.bl (g i j),H,I,rfl,q⟩
noncomputable def CDiv(i j:Int):Prop:=0<j∧j<1073741824
noncomputable def Z1s(i j:Int):Prop:=j≠0∧j.natAbs<1073741824
noncomputable def CPow(i j:Int):Prop:=0≤j∧j≤1000000∧i.natAbs<2^64
noncomputable def CMul(i j:Int):Prop:=(-(2^64)<i∧i<2^64)∨(-(2^64)<j∧j<2^64)
theorem CMul.ok{i j:Int}(h:CMul i j):IntMulOk i j:=by
 rcases h with⟨h1,h2⟩|⟨h1,h2⟩
 ·exact .of_left (intBits_le_64 h1 h2)
 ·exact .of_right (intBits_le_64 h1 h2)
theorem Zt9:OpR X (binaryOp .Add) (rI0 fun i j=>.int (i+j)):=opI0 fun _ _ _ _ _ _ _ q=>add_int q
theorem Zua:OpR X (binaryOp .Sub) (rI0 fun i j=>.int (i- j)):=opI0 fun _ _ _ _ _ _ _ q=>sub_int q
theorem Zub:OpR X (binaryOp .Mult) (rI CMul fun i j=>.int (i*j)):=opI fun _ _ _ _ _ _ _ hc q=>mul_int q hc.ok
theorem Zq5:OpR X (binaryOp .FloorDiv) (rI CDiv fun i j=>.int (i / j)):=opI fun i j _ _ _ _ _ hc q=>by
 have h1:(0:Int)<j:=hc.1
 have h2:j<1073741824:=hc.2
 exact floordiv_int (by omega) (by rw[Int.fdiv_eq_ediv_of_nonneg i (by omega)];exact q) (.inl (PyProof.noPylong_small (by omega)))
theorem Zuc:OpR X (binaryOp .Mod) (rI (fun _ j=>0<j) fun i j=>.int (i % j)):=opI fun i j _ _ _ _ _ hc q=>by
 have h1:(0:Int)<j:=hc
 exact mod_int' (by omega) (by rw[Int.fmod_eq_emod_of_nonneg i (by omega)];exact q)
theorem unI{f:Value→Sem Value}{g:Int→Int}
  (rule:∀(i:Int) (t:Tok) (s:Shared) (Q:Value→Shared→Prop) (E:Value→Shared→Prop),Q (.int (g i) s.toks) {s with toks:=s.toks+1}→wpAny (model X.prog X.w) X.A (f (.int i t)) Q E s):
  UnR X f (rU fun i=>.int (g i)):=by
 intro pins s σ H x v Q I rx h
 obtain⟨i,rfl,q⟩:=h
 obtain⟨t,rfl⟩:=rx
 exact rule i t s _ _ ⟨.int (g i),H,I.tok _,⟨_,rfl⟩,q⟩
theorem Zud:UnR X (unaryOp .USub) (rU fun i=>.int (-i)):=unI fun _ _ _ _ _ q=>neg_int q
end
noncomputable def scal:V→V→Bool
 | .non,.non=>true| .non,.int _=>true| .int _,.non=>true| .non,.bl _=>true| .bl _,.non=>true| .non,.str _=>true| .str _,.non=>true
 | .int _,.int _=>true| .bl _,.bl _=>true| .str _,.str _=>true| .byt _,.byt _=>true
 | .int _,.str _=>true| .str _,.int _=>true| .bl _,.str _=>true| .str _,.bl _=>true
 |_,_=>false
noncomputable def rEq:R2:=fun x y H Q=>scal x y=true∧Q (.bl (decide (x=y))) H
noncomputable def rNe:R2:=fun x y H Q=>scal x y=true∧Q (.bl (!decide (x=y))) H
theorem Zk0{i j:Int}:decide (V.int i=V.int j)=(i==j):=by
 rw[Bool.eq_iff_iff]
 simp
theorem Zpo{i j:Bool}:decide (V.bl i=V.bl j)=(i==j):=by
 rw[Bool.eq_iff_iff]
 simp
theorem Zk1{i j:Str}:decide (V.str i=V.str j)=(i==j):=by
 rw[Bool.eq_iff_iff]
 simp
theorem Zk2{i j:Array UInt8}:decide (V.byt i=V.byt j)=(i.toList==j.toList):=by
 rw[Bool.eq_iff_iff]
 cases i
 cases j
 simp
section
variable{X:Cx}{a b c:Expr}{ta tb tc:TE}{pos:Pos}
theorem Zv{pins:List (Addr×Obj)}{σ:St}{H:Hp}{s:Shared}{Q:VK}{k k':Bool}(I:Inv X pins σ H s)(q:Q (.bl k) H)(e:k=k'):EP X pins σ Q (.bool k') s:=by
 subst e
 exact⟨.bl k,H,I,rfl,q⟩
theorem Zue:OpR X (compareOp .Eq) rEq:=by
 intro pins s σ H x y v u Q I rx ry h
 obtain⟨hs,q⟩:=h
 cases x with
 |non=>
  cases rx
  cases y with
  |non=>cases ry;exact PySem.EqNone.eq_none_none (Zv I q (by simp))
  |bl j=>cases ry;exact PySem.EqNone.eq_none_bool (Zv I q (by simp))
  |int j=>obtain⟨t',rfl⟩:=ry;exact PySem.EqNone.eq_none_int (Zv I q (by simp))
  |str j=>obtain⟨t',rfl⟩:=ry;exact PySem.EqNone.eq_none_str (Zv I q (by simp))
  |_=>exact absurd (show false=true from hs) Bool.false_ne_true
 |bl i=>
  cases rx
  cases y with
  |non=>cases ry;exact PySem.EqNone.eq_bool_none (Zv I q (by simp))
  |bl j=>cases ry;exact eq_bool (Zv I q Zpo)
  |str j=>obtain⟨t',rfl⟩:=ry;exact PySem.EqMixed.eq_bool_str (Zv I q (by simp))
  |_=>exact absurd (show false=true from hs) Bool.false_ne_true
 |int i=>
  obtain⟨t,rfl⟩:=rx
  cases y with
  |non=>cases ry;exact PySem.EqNone.eq_int_none (Zv I q (by simp))
  |int j=>obtain⟨t',rfl⟩:=ry;exact eq_int (Zv I q Zk0)
  |str j=>obtain⟨t',rfl⟩:=ry;exact PySem.EqMixed.eq_int_str (Zv I q (by simp))
  |_=>exact absurd (show false=true from hs) Bool.false_ne_true
 |str i=>
  obtain⟨t,rfl⟩:=rx
  cases y with
  |non=>cases ry;exact PySem.EqNone.eq_str_none (Zv I q (by simp))
  |bl j=>cases ry;exact PySem.EqMixed.eq_str_bool (Zv I q (by simp))
  |int j=>obtain⟨t',rfl⟩:=ry;exact PySem.EqMixed.eq_str_int (Zv I q (by simp))
  |str j=>obtain⟨t',rfl⟩:=ry;exact eq_str (Zv I q Zk1)
  |_=>exact absurd (show false=true from hs) Bool.false_ne_true
 |byt i=>
  obtain⟨t,rfl⟩:=rx
  cases y with
  |byt j=>obtain⟨t',rfl⟩:=ry;exact PySem.W.eq_bytes (Zv I q Zk2)
  |_=>exact absurd (show false=true from hs) Bool.false_ne_true
 |_=>cases y<;> exact absurd (show false=true from hs) Bool.false_ne_true
theorem Zxu:OpR X (compareOp .NotEq) rNe:=by
 intro pins s σ H x y v u Q I rx ry h
 obtain⟨hs,q⟩:=h
 cases x with
 |non=>
  cases rx
  cases y with
  |non=>cases ry;exact PySem.EqNone.ne_none_none (Zv I q (by simp))
  |bl j=>cases ry;exact PySem.EqNone.ne_none_bool (Zv I q (by simp))
  |int j=>obtain⟨t',rfl⟩:=ry;exact PySem.EqNone.ne_none_int (Zv I q (by simp))
  |str j=>obtain⟨t',rfl⟩:=ry;exact PySem.EqNone.ne_none_str (Zv I q (by simp))
  |_=>exact absurd (show false=true from hs) Bool.false_ne_true
 |bl i=>
  cases rx
  cases y with
  |non=>cases ry;exact PySem.EqNone.ne_bool_none (Zv I q (by simp))
  |bl j=>cases ry;exact ne_bool (Zv I q (congrArg not Zpo))
  |str j=>obtain⟨t',rfl⟩:=ry;exact PySem.EqMixed.ne_bool_str (Zv I q (by simp))
  |_=>exact absurd (show false=true from hs) Bool.false_ne_true
 |int i=>
  obtain⟨t,rfl⟩:=rx
  cases y with
  |non=>cases ry;exact PySem.EqNone.ne_int_none (Zv I q (by simp))
  |int j=>obtain⟨t',rfl⟩:=ry;exact ne_int (Zv I q (congrArg not Zk0))
  |str j=>obtain⟨t',rfl⟩:=ry;exact PySem.EqMixed.ne_int_str (Zv I q (by simp))
  |_=>exact absurd (show false=true from hs) Bool.false_ne_true
 |str i=>
  obtain⟨t,rfl⟩:=rx
  cases y with
  |non=>cases ry;exact PySem.EqNone.ne_str_none (Zv I q (by simp))
  |bl j=>cases ry;exact PySem.EqMixed.ne_str_bool (Zv I q (by simp))
  |int j=>obtain⟨t',rfl⟩:=ry;exact PySem.EqMixed.ne_str_int (Zv I q (by simp))
  |str j=>obtain⟨t',rfl⟩:=ry;exact ne_str (Zv I q (congrArg not Zk1))
  |_=>exact absurd (show false=true from hs) Bool.false_ne_true
 |byt i=>
  obtain⟨t,rfl⟩:=rx
  cases y with
  |byt j=>obtain⟨t',rfl⟩:=ry;exact PySem.W.ne_bytes (Zv I q (congrArg not Zk2))
  |_=>exact absurd (show false=true from hs) Bool.false_ne_true
 |_=>cases y<;> exact absurd (show false=true from hs) Bool.false_ne_true
theorem Zxv:OpR X (compareOp .Lt) (rI0 fun i j=>.bl (decide (i<j))):=opB0 fun _ _ _ _ _ _ _ q=>lt_int q
theorem Zxw:OpR X (compareOp .Gt) (rI0 fun i j=>.bl (decide (j<i))):=opB0 fun _ _ _ _ _ _ _ q=>gt_int q
theorem Zk3:OpR X (compareOp .Lt) (fun x y H Q=>∃i j,x= .str i∧y= .str j∧Q (.bl (decide (i.cps.toList<j.cps.toList))) H):=by
 intro pins s σ H x y v u Q I rx ry h
 obtain⟨i,j,rfl,rfl,q⟩:=h
 obtain⟨t,rfl⟩:=rx
 obtain⟨t',rfl⟩:=ry
 exact lt_str (Zv I q rfl)
theorem Zk4:OpR X (compareOp .In) (fun x y H Q=>∃i j,x= .str i∧y= .str j∧Q (.bl (!(Builtin.Str.occurrences j i 0 j.length 1).isEmpty)) H):=by
 intro pins s σ H x y v u Q I rx ry h
 obtain⟨i,j,rfl,rfl,q⟩:=h
 obtain⟨t,rfl⟩:=rx
 obtain⟨t',rfl⟩:=ry
 exact in_str (Zv I q rfl)
theorem Zpp:OpR X (compareOp .Is) (fun x y H Q=>y= .non∧Q (.bl (decide (x= .non))) H):=by
 intro pins s σ H x y v u Q I rx ry h
 obtain⟨rfl,q⟩:=h
 cases ry
 refine is_none_gen (Zv I q ?_)
 cases x<;> first
  | (cases rx;rfl)
  | (obtain⟨t,rfl⟩:=rx;rfl)
theorem Zk5:OpR X (compareOp .IsNot) (fun x y H Q=>y= .non∧Q (.bl (!decide (x= .non))) H):=by
 intro pins s σ H x y v u Q I rx ry h
 obtain⟨rfl,q⟩:=h
 cases ry
 refine isnot_none_gen (Zv I q ?_)
 cases x<;> first
  | (cases rx;rfl)
  | (obtain⟨t,rfl⟩:=rx;rfl)
noncomputable def Z1t:HO→Bool
 | .lst _=>true
 | .ins _ _ _=>true
 |_=>false
theorem OpR.or{f:Value→Value→Sem Value}{r r':R2}(h:OpR X f r)(h':OpR X f r'):OpR X f (fun x y H Q=>r x y H Q∨r' x y H Q):=by
 intro pins s σ H x y v u Q I rx ry q
 rcases q with q|q
 ·exact h pins s σ H x y v u Q I rx ry q
 ·exact h' pins s σ H x y v u Q I rx ry q
theorem Zci(b:Expr){op:CmpOp}(h:op≠.In:=by decide)(h2:op≠.NotIn:=by decide):behindInMarks op b=false:=by
 have e1:(op==CmpOp.In)=false:=by cases op<;> first|rfl|exact absurd rfl h
 have e2:(op==CmpOp.NotIn)=false:=by cases op<;> first|rfl|exact absurd rfl h2
 cases b<;> simp[behindInMarks,e1,e2]
theorem Zq6{op:CmpOp}{r:R2}(ho:OpR X (compareOp op) r)(ha:PE X a ta)(hb:PE X b tb)(hm:behindInMarks op b=false):PE X (.Compare a [op] [b] pos) (tOp r ta tb):=by
 intro pins s σ H Q I h
 exact wpAny_Compare1 (binT ha hb I h fun v u s2 x y H2 I2 rx ry q=>ho pins s2 σ H2 x y v u Q I2 rx ry q) hm
noncomputable def Zuf(t:TE):TT:=fun σ H Q=>t σ H fun x H'=>∃k,x= .bl k∧Q k H'
theorem Zq7{op:CmpOp}{r:R2}(ho:OpR X (compareOp op) r)(ha:PE X a ta)(hb:PE X b tb)(hm:behindInMarks op b=false):PT X (.Compare a [op] [b] pos) (Zuf (tOp r ta tb)):=by
 intro pins s σ H Q I h
 refine wpAny_isTrue_Compare1 (thn (ha pins s σ H _ I h) fun v s1 ⟨x,H1,I1,r1,q1⟩=>thn (hb pins s1 σ H1 _ I1 q1) fun u s2 ⟨y,H2,I2,r2,q2⟩=>
  thn (ho pins s2 σ H2 x y v u _ I2 r1 r2 q2) fun c s3 ⟨z,H3,I3,r3,k,e,q3⟩=>?_) hm
 subst e
 cases r3
 exact wpAny_truthy_bool ⟨H3,I3,q3⟩
noncomputable def Zz8(r r':R2)(ta tb tc:TE):TE:=fun σ H Q=>ta σ H fun x H1=>tb σ H1 fun y H2=>r x y H2 fun z H3=>∃k,z= .bl k∧
 (if k=true then tc σ H3 fun w' H4=>r' y w' H4 Q else Q (.bl false) H3)
noncomputable def TruV(K:PySem.W.Frag)(x:V)(H:Hp)(k:Bool):Prop:=
 match x with
 | .non=>k=false
 | .bl b=>k=b
 | .int i=>k=(i !=0)
 | .str y=>y.length≤sizeLine∧k=((y.length:Int) !=0)
 | .byt y=>y.size≤sizeLine∧k=((y.size:Int) !=0)
 | .ref p=>(∃xs,SqL K H p xs∧k= !xs.isEmpty)∨(∃xs,SqT K H p xs∧k= !xs.isEmpty)∨∃kvs,HK H p kvs∧k= !kvs.isEmpty
 |_=>False
theorem Zga:(sizeLine:Nat)<2^63:=by rw[sizeLine_eq];decide
theorem Zjx:OpR X (binaryOp .Add) (fun x y H Q=>∃i j,x= .str i∧y= .str j∧i.length+j.length≤sizeLine∧Q (.str (i++j)) H):=by
 intro pins s σ H x y v u Q I rx ry h
 obtain⟨i,j,rfl,rfl,hz,q⟩:=h
 obtain⟨t,rfl⟩:=rx
 obtain⟨t',rfl⟩:=ry
 exact add_str (fun t' tk=>⟨.str (i++j),H,I.tok _,⟨_,rfl⟩,q⟩) hz
noncomputable def Zw7(b:Expr):Prop:=∀o i,subscripted b false o i=operate [o,i] (getItem o i)
theorem Zff{x:V}{us:List Value}(r:Vals [x] us):∃u,us=[u]∧RelV x u:=by
 cases r with
 |cons r1 r2=>cases r2;exact⟨_,rfl,r1⟩
theorem Zug{x y:V}{us:List Value}(r:Vals [x,y] us):∃u w',us=[u,w']∧RelV x u∧RelV y w':=by
 cases r with
 |cons r1 r2=>
  cases r2 with
  |cons r3 r4=>cases r4;exact⟨_,_,rfl,r1,r3⟩
theorem Zk6:Zct X (.type "int") (fun xs H Q=>(∃i,xs=[.int i]∧Q (.int i) H)∨∃k,xs=[.bl k]∧Q (.int (if k then 1 else 0)) H):=by
 intro pins s σ H xs us Q I r h
 rcases h with⟨i,rfl,q⟩|⟨k,rfl,q⟩
 ·obtain⟨u,rfl,t,rfl⟩:=Zff r
  exact call_int_int ⟨.int i,H,I,⟨_,rfl⟩,q⟩
 ·obtain⟨u,rfl,r1⟩:=Zff r
  cases r1
  exact call_int_bool ⟨.int (if k then 1 else 0),H,I.tok _,⟨_,rfl⟩,q⟩
noncomputable def LenV(K:PySem.W.Frag)(x:V)(H:Hp)(n:Nat):Prop:=
 match x with
 | .str y=>y.length≤sizeLine∧n=y.length
 | .byt y=>y.size≤sizeLine∧n=y.size
 | .ref p=>(∃xs,SqL K H p xs∧n=xs.length)∨∃xs,SqT K H p xs∧n=xs.length
 |_=>False
end
end L2
namespace L2
open PySem PySem.Spec PyProof.Rows
structure ObjM(h:Heap)(x dx C:Addr)(mA:Str→Option Value):Prop where
 obj:h.get? x=some (PySem.W.instObj C dx)
 ns:h.Ns1 dx mA
 ne:dx≠x
section
variable{prog:Program}{w:World}{A:Around}{E:Value→Shared→Prop}{s:Shared}{K:PySem.W.Frag}{x dx C f:Addr}{mA:Str→Option Value}{name:Str}{v:Value}
end
noncomputable def putF(f:Str)(v:V):List (Str×V)→List (Str×V)
  | []=>[(f,v)]
  | (g,x)::r=>if g=f then(g,v)::r else(g,x)::putF f v r
theorem RelO.some_of{v:V}{o:Option Value}(r:RelO (some v) o):∃u,o=some u∧RelV v u:=by
 cases o with
 |none=>exact(show False from r).elim
 |some u=>exact⟨u,rfl,r⟩
section
variable{P:Program}{w:World}{H H':Hp}{h h':Heap}{a C dx:Addr}{fs fs':List (Str×V)}
end
structure Cls(K:PySem.W.Frag)(C:Addr):Prop where
 pg:PySem.W.plainGet K C Str.empty=true
 hd:PySem.W.hasDictIn K C=true
 po:PySem.W.plainOver K C=true
 sa:PySem.W.findIn K (.ref C) "__setattr__"=some (some (.builtin "object.__setattr__"))
noncomputable def Zk7(K:PySem.W.Frag)(C:Addr)(f:Str):Prop:=PySem.W.findIn K (.ref C) f=some none
structure Con(K:PySem.W.Frag)(C:Addr)(f:Str)(v:V)(u:Value):Prop where
 at_:PySem.W.findIn K (.ref C) f=some (some u)
 rel:RelV v u
 get:PySem.W.specialIn K u "__get__"=some none
 cp:PySem.W.copiedNames.contains f=false
structure Meth(K:PySem.W.Frag)(C:Addr)(m:Str)(f:Addr):Prop where
 at_:PySem.W.findIn K (.ref C) m=some (some (.ref f))
 fn:PySem.W.isFn K (.ref f)=true
 kp:PySem.W.keepIn K (.ref f)=true
section
variable{X:Cx}{pins:List (Addr×Obj)}{σ:St}{H:Hp}{s:Shared}{a C dx:Addr}{fs:List (Str×V)}{f:Str}{v:V}{A:Around}{E:Value→Shared→Prop}
end
noncomputable def tFld(K:PySem.W.Frag)(ta:TE)(f:Str):TE:=fun σ H Q=>ta σ H fun x H1=>∃a C dx fs v,x= .ref a∧H1 a=some (.ins C dx fs)∧Cls K C∧Zk7 K C f∧fs.lookup f=some v∧Q v H1
noncomputable def tCon(K:PySem.W.Frag)(ta:TE)(f:Str):TE:=fun σ H Q=>ta σ H fun x H1=>∃a C dx fs v u,x= .ref a∧H1 a=some (.ins C dx fs)∧Cls K C∧Con K C f v u∧fs.lookup f=none∧Q v H1
noncomputable def sFld(K:PySem.W.Frag)(ta tv:TE)(f:Str):TS:=fun D σ H=>tv σ H fun y H1=>ta σ H1 fun x H2=>∃a C dx fs,x= .ref a∧H2 a=some (.ins C dx fs)∧Cls K C∧Zk7 K C f∧fs.length<1000∧
 D.nx σ (upd H2 a (.ins C dx (putF f y fs)))
noncomputable def InOp(X:Cx)(op:Operator)(rd:V→V→Hp→VK→Prop):Prop:=
 ∀(pins:List (Addr×Obj)) (s:Shared) (σ:St) (H:Hp) (x y:V) (u v:Value) (Q:VK),Inv X pins σ H s→RelV x u→RelV y v→rd x y H Q→wpAny (model X.prog X.w) X.A (inplaceOp op u v) (EP X pins σ Q) X.xe s
noncomputable def Zxx(K:PySem.W.Frag)(ta tv:TE)(rd:V→V→Hp→VK→Prop)(f:Str):TS:=fun D σ H=>ta σ H fun x H1=>∃a C dx fs v,x= .ref a∧H1 a=some (.ins C dx fs)∧Cls K C∧Zk7 K C f∧fs.lookup f=some v∧
 tv σ H1 fun y H2=>rd v y H2 fun z H3=>∃dx' fs',H3 a=some (.ins C dx' fs')∧fs'.length<1000∧D.nx σ (upd H3 a (.ins C dx' (putF f z fs')))
section
variable{X:Cx}{o e value:Expr}{f:Str}{pos pos' tpos:Pos}{ta tv:TE}
noncomputable def rAdd:V→V→Hp→VK→Prop:=fun x y H Q=>∃i j,x= .int i∧y= .int j∧Q (.int (i+j)) H
noncomputable def rSub:V→V→Hp→VK→Prop:=fun x y H Q=>∃i j,x= .int i∧y= .int j∧Q (.int (i- j)) H
end
section
variable{X:Cx}{pins:List (Addr×Obj)}{σ:St}{H:Hp}{s:Shared}{A:Around}{E:Value→Shared→Prop}{Q:Value→Shared→Prop}{c:Value}{b:Bool}
inductive TyOf(K:PySem.W.Frag)(H:Hp):V→Value→Prop where
 |non:TyOf K H .non (.type "NoneType")
 |bl (x:Bool):TyOf K H (.bl x) (.type "bool")
 |int (i:Int):TyOf K H (.int i) (.type "int")
 |str (x:Str):TyOf K H (.str x) (.type "str")
 |flt (x:UInt64):TyOf K H (.flt x) (.type "float")
 |lst {a:Addr} {xs:List V} (e:H a=some (.lst xs)):TyOf K H (.ref a) (.type "list")
 |frz {a:Addr} {o:Obj} {xs:List V} (e:H a=some (.frz o (.lst xs))):TyOf K H (.ref a) (.type "list")
 |tup {a:Addr} {xs:List V} (e:H a=some (.tup xs)):TyOf K H (.ref a) (.type "tuple")
 |dK {a:Addr} {kvs:List (Key×V)} {ep:Nat} (e:H a=some (.dK kvs ep)):TyOf K H (.ref a) (.type "dict")
 |dT {a:Addr} {kvs:List (List Key×V)} {ep:Nat} {bs:List Addr} (e:H a=some (.dT kvs ep bs)):TyOf K H (.ref a) (.type "dict")
 |ins {a C dx:Addr} {fs:List (Str×V)} (e:H a=some (.ins C dx fs)) (cl:Cls K C) (ha:PySem.W.findIn K (.ref C) "__class__"=some (some (.builtin "object.__class__")))
   (hn:PySem.W.specialIn K (.builtin "object.__class__") "__get__"=some (some (.builtin "getset_descriptor.__get__"))) (htk:PySem.W.takesIn K (.builtin "object.__class__")=some true)
   (hm:PySem.W.mroIn K C (.type "object")=some true):TyOf K H (.ref a) (.ref C)
end
end L2
namespace L2
open PySem PySem.Spec PyProof.Rows
structure Room(k:Nat)(A:Around):Prop where
 hd:A.handled=none
 dp:A.depth+3*k+5<recursionLimit
 un:A.units+16*k+200<cLine
theorem Room.mono{j k:Nat}{A:Around}(r:Room k A)(h:j≤k):Room j A:=⟨r.hd,by have:=r.dp;omega,by have:=r.un;omega⟩
theorem Room.deeper{k:Nat}{A:Around}(r:Room (k+1) A)(env:Env):Room k (A.deeper env):=
 ⟨r.hd,by have:=r.dp;show A.depth+1+3*k+5<_;omega,by have:=r.un;show A.units+3+16*k+200<_;omega⟩
theorem Room.in1{k:Nat}{A:Around}(r:Room (k+1) A):Room k A.in1:=
 ⟨r.hd,by have:=r.dp;show A.depth+3*k+5<_;omega,by have:=r.un;show A.units+1+16*k+200<_;omega⟩
theorem Room.depth{k:Nat}{A:Around}(r:Room k A):A.depth<recursionLimit:=by have:=r.dp;omega
theorem Room.units{k:Nat}{A:Around}(r:Room k A):A.units+64<cLine:=by have:=r.un;omega
noncomputable def tNil:TA:=fun _ H Q=>Q [] H
noncomputable def Zn5(ta:TE)(tr:TA):TA:=fun σ H Q=>ta σ H fun x H1=>tr σ H1 fun xs H2=>Q (x::xs) H2
section
variable{X:Cx}{e:Expr}{es:List Expr}{te:TE}{t:TA}{pos:Pos}
theorem Ziq:PA X [] tNil:=fun _ _ _ _ H Q I h=>Calls.spliced_nil ⟨[],H,I,.nil,h⟩
theorem Zda(ha:PE X e te)(hr:PA X es t)(hs:starEach (e::es) X.env=(false,eval e X.env)::starEach es X.env:=by rfl):PA X (e::es) (Zn5 te t):=by
 intro pos pins s σ H Q I h
 rw[hs]
 show wpAny _ _ (spliced ((false,eval e X.env)::backTo pos (starEach es X.env))) _ _ s
 refine Calls.spliced_cons (thn (ha pins s σ H _ I h) fun u s1 zq9=>?_)
 obtain⟨x,H1,I1,r1,q1⟩:=zq9
 exact thn (hr pos pins s1 σ H1 _ I1 q1) fun us s2 ⟨xs,H2,I2,r2,q2⟩=>⟨x::xs,H2,I2,.cons r1 r2,q2⟩
noncomputable def tTup(t:TA):TE:=fun σ H Q=>t σ H fun xs H1=>xs.length≤sizeLine∧∀p,H1 p=none→Q (.ref p) (upd H1 p (.tup xs))
noncomputable def tLst(t:TA):TE:=fun σ H Q=>t σ H fun xs H1=>xs.length≤sizeLine∧∀p,H1 p=none→Q (.ref p) (upd H1 p (.lst xs))
theorem Zuh{x1} (h:PA X es t):PE X (.Tuple es x1 pos) (tTup t):=by
 intro pins s σ H Q I hq
 refine wpAny_Tuple_spliced (thn (h pos pins s σ H _ I hq) fun us s1 ⟨xs,H1,I1,r,z,q⟩=>⟨by rw[←r.length];exact z,?_⟩)
 have hf:H1 s1.heap.objs.size=none:=I1.hok.fresh (Nat.le_refl _)
 refine⟨.ref s1.heap.objs.size,upd H1 s1.heap.objs.size (.tup xs),I1.laid (t':=s1.toks) (fun b u e=>Heap.get?_push_of_some _ e) (Nat.le_refl _) ?_,rfl,q _ hf⟩
 exact⟨z,us,r,⟨_,Heap.get?_push_size _ rfl,rfl,_,rfl⟩⟩
theorem Zui(h:PA X es t):PE X (.List es pos) (tLst t):=by
 intro pins s σ H Q I hq
 refine wpAny_List_spliced (thn (h pos pins s σ H _ I hq) fun us s1 ⟨xs,H1,I1,r,z,q⟩=>⟨by rw[←r.length];exact z,?_⟩)
 have hf:H1 s1.heap.objs.size=none:=I1.hok.fresh (Nat.le_refl _)
 refine⟨.ref s1.heap.objs.size,upd H1 s1.heap.objs.size (.lst xs),I1.laid (t':=s1.toks) (fun b u e=>Heap.get?_push_of_some _ e) (Nat.le_refl _) ?_,rfl,q _ hf⟩
 exact⟨z,us,0,r,Heap.get?_push_size _ rfl⟩
end
noncomputable abbrev Sp:=List V→Hp→VK→XK→Prop
noncomputable abbrev CXT:=List Env→Hp→Shared→XK→Value→Shared→Prop
structure Env0(P:Program)(w:World)(K:PySem.W.Frag)(mg:Str→Option Value)(base:Heap)(A:Around)(outer:List Env)(s:Shared)(H:Hp):Prop where
 frames:A.frames=some outer
 mod:Mod K mg base
 bs:∀b o,base.get? b=some o→s.heap.get? b=some o∧H b=none
 bsz:base.objs.size≤s.heap.objs.size
 funs:s.heap.FunFrames base outer
 frf:∀b∈frs outer,H b=none
 hok:HOk P w H s.heap
 bare:AllBare s.gens
noncomputable def CE(outer:List Env)(P:Program)(w:World)(H:Hp)(s:Shared)(Q:VK)(u:Value)(s':Shared):Prop:=
 ∃v H',s'.os=s.os∧AllBare s'.gens∧Un (frs outer) [] H H' s.heap s'.heap∧HOk P w H' s'.heap∧RelV v u∧Q v H'
noncomputable def CR(CX:CXT)(outer:List Env)(P:Program)(w:World)(H:Hp)(s:Shared)(Q:VK)(E:XK)(r:Result)(s':Shared):Prop:=
 match r with
 | .ok (.ret u)=>CE outer P w H s Q u s'
 | .ok _=>False
 | .error e=>CX outer H s E e s'
structure FnOk(P:Program)(w:World)(K:PySem.W.Frag)(mg:Str→Option Value)(base:Heap)(CX:CXT)(k:Nat)(f:Addr)(fd:FuncData)(ps:List Str)(sp:Sp):Prop where
 len:∀vs H Q E,sp vs H Q E→vs.length=ps.length
 run:∀(A:Around) (outer:List Env) (s:Shared) (H:Hp) (args:Args) (us:List Value) (vs:List V) (Q:VK) (E:XK),Room k A→Env0 P w K mg base A outer s H→BindsTo s fd args (ps.zip us)→Vals vs us→sp vs H Q E→
  codeAny (model P w) A (.call (.ref f) args) (CR CX outer P w H s Q E) s
section
variable{X:Cx}{pins:List (Addr×Obj)}{σ:St}{H:Hp}{s s':Shared}
theorem Inv.env0(I:Inv X pins σ H s):Env0 X.prog X.w X.K X.mg X.base X.A X.stack s H:=
 ⟨I.ok.frames,I.ok.mod,I.bs,Nat.le_trans I.ok.bsz I.sz,I.stack,I.stkFree,I.hok,I.bare⟩
theorem Inv.after{Q:VK}{u:Value}(I:Inv X pins σ H s)(h:CE X.stack X.prog X.w H s Q u s'):EP X pins σ Q u s':=by
 obtain⟨v,H',os,bare,un,hok,r,q⟩:=h
 obtain⟨hh,g,d,t,os'⟩:=s'
 obtain rfl:os'=s.os:=os
 exact⟨v,H',I.call (h':=hh) (g':=g) (d':=d) (t':=t) (ch:=[]) un hok bare (fun b z=>absurd z (by simp)),r,q⟩
end
noncomputable def Zq8(sp:Sp)(dvs:List V)(E:XK)(t:TA):TE:=fun σ H Q=>t σ H fun vs H1=>sp (vs++dvs) H1 Q E
noncomputable def Z1u(C:Addr)(m:Str)(sp:Sp)(dvs:List V)(E:XK)(ta:TE)(t:TA):TE:=fun σ H Q=>ta σ H fun x H1=>∃a dx fs,x= .ref a∧H1 a=some (.ins C dx fs)∧fs.lookup m=none∧
 t σ H1 fun vs H2=>sp (x::(vs++dvs)) H2 Q E
noncomputable def Z1v(C:Addr)(sp:Sp)(dvs:List V)(E:XK)(t:TA):TE:=fun σ H Q=>t σ H fun vs H1=>∀x dx,H1 x=none→H1 dx=none→dx≠x→
 sp (.ref x::(vs++dvs)) (upd (upd H1 dx (.own x)) x (.ins C dx [])) (fun v H2=>v= .non∧Q (.ref x) H2) E
noncomputable def Zbb(K:PySem.W.Frag)(fd:FuncData)(ps:List Str)(ds:List Value):Prop:=
 ∀(s:Shared) (us:List Value),K.In s.heap→(us++ds).length=ps.length→BindsTo s fd ⟨us,[]⟩ (ps.zip (us++ds))
theorem Zbb.all{K:PySem.W.Frag}{fd:FuncData}{ps:List Str}(h:∀us:List Value,us.length=ps.length→bindArgs fd ⟨us,[]⟩=pure (ps.zip us)):Zbb K fd ps []:=fun s us _ hl=>by
 rw[List.append_nil]at hl⊢
 exact .of_eq (h us hl)
noncomputable def Zk8(CX:CXT)(X:Cx)(E:XK):Prop:=∀(pins:List (Addr×Obj)) (σ:St) (H:Hp) (s:Shared) (e:Value) (s':Shared),Inv X pins σ H s→CX X.stack H s E e s'→X.xe e s'
section
variable{X:Cx}{CX:CXT}{k:Nat}{f C:Addr}{fd:FuncData}{ps:List Str}{sp:Sp}{dvs:List V}{ds:List Value}{E:XK}{x m:Str}{p pos apos:Pos}{e o:Expr}{es:List Expr}{ta:TE}{t:TA}
theorem Zuj{pins:List (Addr×Obj)}{σ:St}{H:Hp}{s:Shared}{Q:VK}{us:List Value}{vs:List V}(F:FnOk X.prog X.w X.K X.mg X.base CX k f fd ps sp)(hr:Room k X.A)(hb:Zbb X.K fd ps ds)(hd:Vals dvs ds)(hx:Zk8 CX X E)
  (I:Inv X pins σ H s) (r:Vals vs us) (h:sp (vs++dvs) H Q E):wpAny (model X.prog X.w) X.A (call (.ref f) us) (EP X pins σ Q) X.xe s:=by
 have r2:Vals (vs++dvs) (us++ds):=r.append hd
 have hl:(us++ds).length=ps.length:=by rw[←r2.length];exact F.len _ _ _ _ h
 refine wpAny_call (codeAny_mono (F.run X.A X.stack s H ⟨us,[]⟩ (us++ds) (vs++dvs) Q E hr I.env0 (hb s us I.kIn hl) r2 h) fun r s' hq=>?_)
 cases r with
 |error e=>exact hx pins σ H s e s' I hq
 |ok fl=>
  cases fl with
  |ret u=>exact I.after hq
  |next=>exact False.elim hq
  |brk=>exact False.elim hq
  |cont=>exact False.elim hq
theorem Zk9(F:FnOk X.prog X.w X.K X.mg X.base CX k f fd ps sp)(hr:Room k X.A)(hg:Gl X x)(hm:X.mg x=some (.ref f))(hk:PySem.W.keepIn X.K (.ref f)=true)(hb:Zbb X.K fd ps ds)(hd:Vals dvs ds)(hx:Zk8 CX X E)
  (ha:PA X (e::es) t) (hdb:(x==("__debug__":Str))=false:=by decide) (he:starEach (e::es) X.env=(false,eval e X.env)::starEach es X.env:=by rfl) (hpl:(backTo pos (starEach es X.env)).any (·.1)=false:=by rfl):
  PE X (.Call (.Name x p) (e::es) [] pos) (Zq8 sp dvs E t):=by
 intro pins s σ H Q I h
 refine wpAny_Call_Name_kw (Zqx I hg hm ?_ hdb)
 refine PySem.W.callWith_K (h₀:=X.base) I.ok.mod.kin hk (thn (ha pos pins s σ H _ I h) fun us s1 ⟨vs,H1,I1,r,q⟩=>⟨I1.kIn,?_⟩) he hpl
 exact Zuj F hr hb hd hx I1 r q
structure Mk(K:PySem.W.Frag)(C f:Addr):Prop where
 makes:PySem.W.makesIn K C=true
 init:PySem.W.findIn K (.ref C) "__init__"=some (some (.ref f))
 fn:PySem.W.isFn K (.ref f)=true
 kp:PySem.W.keepIn K (.ref C)=true
end
noncomputable def PK(X:Cx)(kws:List Keyword)(t:TA):Prop:=
 ∀(pos:Pos) (pins:List (Addr×Obj)) (s:Shared) (σ:St) (H:Hp) (Q:List V→Hp→Prop),Inv X pins σ H s→t σ H Q→wpAny (model X.prog X.w) X.A (evalAll ((backToKw pos (keywordEach kws X.env)).map (·.2))) (AP X pins σ Q) X.xe s
section
variable{X:Cx}{CX:CXT}{k:Nat}{f C:Addr}{fd:FuncData}{ps ks:List Str}{sp:Sp}{E:XK}{x m:Str}{p pos apos kpos:Pos}{e o:Expr}{es:List Expr}{kws:List Keyword}{te ta:TE}{t tk:TA}{nm:Option Str}
structure KBinds(K:PySem.W.Frag)(fd:FuncData)(ps ks:List Str)(g:List Value→List Value→List Value)(gV:List V→List V→List V):Prop where
 to:∀(s:Shared) (us ws:List Value),K.In s.heap→(g us ws).length=ps.length→BindsTo s fd ⟨us,ks.zip ws⟩ (ps.zip (g us ws))
 rel:∀{vs:List V} {us:List Value} {zs:List V} {ws:List Value},Vals vs us→Vals zs ws→Vals (gV vs zs) (g us ws)
noncomputable def Zz9(sp:Sp)(gV:List V→List V→List V)(E:XK)(t tk:TA):TE:=fun σ H Q=>t σ H fun vs H1=>tk σ H1 fun zs H2=>sp (gV vs zs) H2 Q E
variable{g:List Value→List Value→List Value}{gV:List V→List V→List V}
end
structure FnScope(N P:List Str)(sc:Scope):Prop where
 kind:sc.kind= .function
 co:sc.isCoroutine=false
 gen:sc.isGenerator=false
 nd:N.Nodup
 pre:N.take P.length=P
 par:∀x∈P,sc.names.lookup x=some .local∨sc.names.lookup x=some .cell
 nofree:∀y∈sc.names,y.2≠.free
theorem Zgb{kindOf:Str→Option NameKind}{x:Str}:∀{binds:List (Str×Value)} {m:Str→Option Value},(∀v,(x,v)∉binds)→bindL kindOf binds m x=m x
  | [],_,_=>rfl
  | (n,v)::r,m,h=>by
    unfold bindL
    rw[Zgb fun w hw=>h w (List.mem_cons_of_mem _ hw)]
    split
    · have:x≠n:=by rintro rfl;exact h v List.mem_cons_self
      simp[this]
    · rfl
theorem Zgc{kindOf:Str→Option NameKind}{x:Str}:∀{binds:List (Str×Value)} {m:Str→Option Value},(∀v,(x,v)∉binds)→bindC kindOf binds m x=m x
  | [],_,_=>rfl
  | (n,v)::r,m,h=>by
    unfold bindC
    rw[Zgc fun w hw=>h w (List.mem_cons_of_mem _ hw)]
    split
    · rfl
    · have:x≠n:=by rintro rfl;exact h v List.mem_cons_self
      simp[this]
theorem Zgd{kindOf:Str→Option NameKind}{x:Str}{v:Value}:∀{P:List Str} {vs:List Value} {i:Nat} {m:Str→Option Value},P.Nodup→P[i]? =some x→vs[i]? =some v→kindOf x=some .local→
  bindL kindOf (P.zip vs) m x=some v
 | [],_,_,_,_,h,_,_=>by simp at h
 |_::_,[],_,_,_,_,h,_=>by simp at h
 |p::P,w::vs,0,m,nd,h1,h2,hk=>by
  simp at h1 h2;subst h1;subst h2
  show bindL kindOf ((p,w)::P.zip vs) m p=_
  unfold bindL
  rw[Zgb fun v hv=>(List.nodup_cons.mp nd).1 (List.of_mem_zip hv).1,if_pos hk]
  simp
 |p::P,w::vs,i+1,m,nd,h1,h2,hk=>by
  show bindL kindOf ((p,w)::P.zip vs) m x=_
  unfold bindL
  exact Zgd (i:=i) (List.nodup_cons.mp nd).2 (by simpa using h1) (by simpa using h2) hk
theorem Zge{kindOf:Str→Option NameKind}{x:Str}{v:Value}:∀{P:List Str} {vs:List Value} {i:Nat} {m:Str→Option Value},P.Nodup→P[i]? =some x→vs[i]? =some v→kindOf x≠some .local→
  bindC kindOf (P.zip vs) m x=some v
 | [],_,_,_,_,h,_,_=>by simp at h
 |_::_,[],_,_,_,_,h,_=>by simp at h
 |p::P,w::vs,0,m,nd,h1,h2,hk=>by
  simp at h1 h2;subst h1;subst h2
  show bindC kindOf ((p,w)::P.zip vs) m p=_
  unfold bindC
  rw[Zgc fun v hv=>(List.nodup_cons.mp nd).1 (List.of_mem_zip hv).1,if_neg hk]
  simp
 |p::P,w::vs,i+1,m,nd,h1,h2,hk=>by
  show bindC kindOf ((p,w)::P.zip vs) m x=_
  unfold bindC
  exact Zge (i:=i) (List.nodup_cons.mp nd).2 (by simpa using h1) (by simpa using h2) hk
noncomputable def Zdb(N:List Str)(vs:List V):St:=vs.map some++List.replicate (N.length- vs.length) none
noncomputable def cxOf(CX:CXT)(P:Program)(w:World)(K:PySem.W.Frag)(mg:Str→Option Value)(base:Heap)(N:List Str)(qual:Str)(scope:Scope)(f:Addr)(cd:Value)(A:Around)(outer:List Env)(s:Shared)(H:Hp)(E:XK):Cx where
 prog:=P
 w:=w
 K:=K
 mg:=mg
 base:=base
 A:=A.deeper (envOfC qual scope s.heap.objs.size f cd)
 N:=N
 s₀:=s
 H₀:=H
 env:=envOfC qual scope s.heap.objs.size f cd
 outer:=outer
 stack:=envOfC qual scope s.heap.objs.size f cd::outer
 ex:=[]
 calm:=true
 fn:=fun _=>true
 pn:=[]
 xe:=fun e s'=>wpAny (model P w) (A.deeper (envOfC qual scope s.heap.objs.size f cd)) (leaving (envOfC qual scope s.heap.objs.size f cd) e) (fun _ s''=>CX outer H s E e s'') (fun e' s''=>CX outer H s E e' s'') s'
theorem Zir{sc:Scope}{n:Nat}{x:Str}(h:sc.names.lookup x=some .cell):∃c,(cellsFrom n sc.names []).lookup x=some c:=by
 have q:=PySem.W.cellsFrom_some sc.names n [] (.inl h)
 exact Option.isSome_iff_exists.mp q
theorem Zla{CX:CXT}{P:Program}{w:World}{K:PySem.W.Frag}{mg:Str→Option Value}{base:Heap}{N ps:List Str}{qual:Str}{scope:Scope}{f:Addr}{cd:Value}{A:Around}{outer:List Env}{s s1:Shared}{H:Hp}{E:XK}{us:List Value}{vs:List V}
  (S:FnScope N ps scope) (hd:A.handled=none) (e0:Env0 P w K mg base A outer s H) (hl:vs.length=ps.length) (r:Vals vs us)
  (x:InCallC s s.heap.objs.size (bindL (envOfC qual scope s.heap.objs.size f cd).kindOf (ps.zip us) fun _=>none) (cellsFrom (s.heap.objs.size+1) scope.names []) (bindC (envOfC qual scope s.heap.objs.size f cd).kindOf (ps.zip us) fun _=>none) s1):
  Inv (cxOf CX P w K mg base N qual scope f cd A outer s H E) [] (Zdb N vs) H s1:=by
 have hpl:ps.length≤N.length:=by have:=congrArg List.length S.pre;rw[List.length_take]at this;omega
 obtain⟨h1,tk,rfl,hk⟩:=x.done
 have noA:∀b:Addr,b∉(cxOf CX P w K mg base N qual scope f cd A outer s H E).ex:=fun b z=>absurd (show b∈([]:List Addr)from z) (by simp)
 refine⟨⟨e0.mod,S.kind,rfl,rfl,Nat.le_refl _,fun y z c h1 h2=>?_,fun y hy=>?_,fun y c _ h=>?_,fun _=>hd,Around.frames_deeper e0.frames,.inr ⟨rfl,rfl⟩,fun b z=>absurd z (noA b),e0.bs,e0.bsz,fun b _ _=>noA b,fun b z=>absurd z (noA b),e0.funs,e0.frf⟩,
  rfl,e0.bare,Un.kept hk,⟨_,x.toInCall.ns,fun i y v h1 h2 h3=>?_⟩,fun y c h=>⟨_,x.cell y c h⟩,e0.hok.fresh (Nat.le_refl _),fun y c h=>?_,fun p hp=>absurd (show p∈([]:List (Addr×Obj))from hp) (by simp),e0.hok.kept hk,?_⟩
 ·exact name_of_addr x.apart (PySem.mem_of_lookup h1) (PySem.mem_of_lookup h2)
 ·have hy:scope.names.lookup y=some .cell∨scope.names.lookup y=some .free:=hy
  rcases hy with hy|hy
  ·exact Zir hy
  ·exact absurd rfl (S.nofree _ (PySem.mem_of_lookup hy))
 ·exact Nat.le_of_lt (x.above y c (PySem.mem_of_lookup h))
 ·have hi:i<vs.length:=by
   unfold Zdb at h2
   by_cases hi:i<vs.length
   ·exact hi
   ·rw[List.getElem?_append_right (by simpa using hi)]at h2
    rw[List.getElem?_replicate]at h2
    split at h2<;> cases h2
  have ha:vs[i]? =some v:=by
   unfold Zdb at h2
   rw[List.getElem?_append_left (by simpa using hi),List.getElem?_map]at h2
   cases e:vs[i]? with
   |none=>rw[e]at h2;cases h2
   |some a=>rw[e]at h2;cases h2;rfl
  obtain⟨u,hu,rv⟩:=r.get ha
  have hp:ps[i]? =some y:=by
   rw[←S.pre,List.getElem?_take_of_lt (by omega)];exact h1
  have ndP:ps.Nodup:=by rw[←S.pre];exact S.nd.sublist (List.take_sublist _ _)
  refine⟨u,rv,?_⟩
  rcases S.par y (List.mem_of_getElem? hp)with k|k
  ·exact .inl ⟨k,Zgd ndP hp hu k⟩
  ·obtain⟨c,e⟩:=Zir (n:=s.heap.objs.size+1) k
   refine .inr ⟨.inl k,c,e,?_⟩
   have q:=x.cell y c e
   rw[Zge ndP hp hu (by show scope.names.lookup y≠_;rw[k];decide)]at q
   exact q
 ·exact e0.hok.fresh (Nat.le_of_lt (x.above y c (PySem.mem_of_lookup h)))
 ·unfold Zdb
  show _=N.length
  rw[List.length_append,List.length_map,List.length_replicate]
  omega
theorem Zuk{CX:CXT}{P:Program}{w:World}{K:PySem.W.Frag}{mg:Str→Option Value}{base:Heap}{k:Nat}{f:Addr}{name qual:Str}{params:Arguments}{body:List Stmt}{scope:Scope}{dV kV doc pm cdv ct oc:Value}{an od:Option Addr}
  {osl:Array (Option Value)} {N ps:List Str} {sp:Sp} (lk:K.lookup f=some ⟨oc,od,.func (PySem.W.fnOf name qual params body scope dV kV doc pm an cdv ct),osl⟩) (hcd:PySem.W.codeIn K cdv qual=true) (S:FnScope N ps scope)
  (len:∀vs H Q E,sp vs H Q E→vs.length=ps.length)
  (hbody:∀(A:Around) (outer:List Env) (s:Shared) (H:Hp) (vs:List V) (Q:VK) (E:XK),Room k (A.deeper (envOfC qual scope s.heap.objs.size f cdv))→sp vs H Q E→
   ∃t,PSs (cxOf CX P w K mg base N qual scope f cdv A outer s H E) body t∧t {nx:=fun _ H'=>Q .non H',rt:=Q} (Zdb N vs) H):
  FnOk P w K mg base CX (k+1) f (PySem.W.fnOf name qual params body scope dV kV doc pm an cdv ct) ps sp:=by
 refine⟨len,fun A outer s H args us vs Q E hr e0 hb r hsp=>?_⟩
 have hl:=len _ _ _ _ hsp
 have KX:K.In s.heap:=e0.mod.kin.keeps fun b o e=>(e0.bs b o e).1
 have lim:s.heap.NoLimit:=e0.mod.nolimit.keeps fun b o e=>(e0.bs b o e).1
 have hkind:∀y∈ps.zip us,scope.names.lookup y.1=some .local∨(scope.names.lookup y.1=some .cell∧((cellsFrom (s.heap.objs.size+1) scope.names []).lookup y.1).isSome=true):=fun⟨n,v⟩ hy=>by
  rcases S.par n (List.of_mem_zip hy).1 with q|q
  ·exact .inl q
  ·exact .inr ⟨q,PySem.W.cellsFrom_some _ _ _ (.inl q)⟩
 refine codeAny_call_function hr.depth (KX _ _ lk) rfl S.co S.gen rfl (PySem.W.codeRec_of KX hcd) (hb _ _ _ _ ?_)
 refine wpAny_newFunctionEnv_cells S.kind hkind fun env he s1 x=>?_
 subst he
 refine⟨lim.keeps x.toInCall.keep,codeAny_func ?_⟩
 obtain⟨t,ht,hq⟩:=hbody A outer s H vs Q E (hr.deeper _) hsp
 have I:Inv (cxOf CX P w K mg base N qual scope f cdv A outer s H E) [] (Zdb N vs) H s1:=Zla S hr.hd e0 hl r x
 refine wpAny_mono (ht [] s1 (Zdb N vs) H _ I hq) (fun fl s' hs=>?_) fun e s' hs=>hs
 have fin:∀{σ':St} {H':Hp} {v:V} {u:Value},Inv (cxOf CX P w K mg base N qual scope f cdv A outer s H E) [] σ' H' s'→RelV v u→Q v H'→CE outer P w H s Q u s':=
  fun{σ' H' v u} J rv q=>⟨v,H',J.os,J.bare,J.base,J.hok,rv,q⟩
 cases fl with
 |ret u=>
  obtain⟨v,σ',H',J,rv,q⟩:=hs
  exact fin J rv q
 |next=>
  obtain⟨σ',H',J,q⟩:=hs
  exact fin (v:=V.non) (u:=Value.none) J rfl q
 |brk=>
  obtain⟨_,_,_,q⟩:=hs
  exact False.elim q
 |cont=>
  obtain⟨_,_,_,q⟩:=hs
  exact False.elim q
end L2
namespace L2
open PySem PySem.Spec PyProof.Rows
section
variable{X:Cx}{x:Str}{p pos:Pos}{e:Expr}{es:List Expr}{t:TA}{id T:String}{r:List V→Hp→VK→Prop}
noncomputable def tCB(r:List V→Hp→VK→Prop)(t:TA):TE:=fun σ H Q=>t σ H fun vs H1=>r vs H1 Q
theorem Zis(hc:Zct X (.builtin id) r)(hg:Gl X x)(hm:X.mg x=none)(hv:bootBuiltins x=some (.builtin id))(ha:PA X (e::es) t)(hn:x≠"__name__":=by decide)(hdb:(x==("__debug__":Str))=false:=by decide)
  (he:starEach (e::es) X.env=(false,eval e X.env)::starEach es X.env:=by rfl) (hpl:(backTo pos (starEach es X.env)).any (·.1)=false:=by rfl):PE X (.Call (.Name x p) (e::es) [] pos) (tCB r t):=by
 intro pins s σ H Q I h
 refine wpAny_Call_Name_kw (Zdn I hg hm hv ?_ hn hdb)
 exact PyProof.Rows.callWith_builtin1 (thn (ha pos pins s σ H _ I h) fun us s1 ⟨vs,H1,I1,r1,q1⟩=>hc pins s1 σ H1 vs us Q I1 r1 q1) he hpl
theorem Zlb(hc:Zct X (.type T) r)(hg:Gl X x)(hm:X.mg x=none)(hv:bootBuiltins x=some (.type T))(ha:PA X (e::es) t)(hn:x≠"__name__":=by decide)(hdb:(x==("__debug__":Str))=false:=by decide)
  (he:starEach (e::es) X.env=(false,eval e X.env)::starEach es X.env:=by rfl) (hpl:(backTo pos (starEach es X.env)).any (·.1)=false:=by rfl):PE X (.Call (.Name x p) (e::es) [] pos) (tCB r t):=by
 intro pins s σ H Q I h
 refine wpAny_Call_Name_kw (Zdn I hg hm hv ?_ hn hdb)
 exact PyProof.Rows.callWith_type1 (thn (ha pos pins s σ H _ I h) fun us s1 ⟨vs,H1,I1,r1,q1⟩=>hc pins s1 σ H1 vs us Q I1 r1 q1) he hpl
end
end L2
namespace HT
open PySem PyProof.Rows
noncomputable def lexLt:List Int→List Int→Bool
 | [],[]=>false
 | [],_::_=>true
 |_::_,[]=>false
 |x::xs,y::ys=>if x=y then lexLt xs ys else decide (x<y)
theorem Zth(x y:Int)(xs ys:List Int):lexLt (x::xs) (y::ys)=if x=y then lexLt xs ys else decide (x<y):=rfl
theorem Zn6:lexLt [] []=false:=rfl
theorem Znw(y:Int)(ys:List Int):lexLt [] (y::ys)=true:=rfl
theorem Znx(x:Int)(xs:List Int):lexLt (x::xs) []=false:=rfl
section
open PySem.SeqAt
open PySem.AutoSeq1 (wpAny_loadPart')
open PySem.MeetsSeq PySem.MeetsSeq2 PySem.MeetsSeq3
end
section
variable{prog:Program}{w:World}{A:Around}{E:Value→Shared→Prop}{s:Shared}
noncomputable def sIx(n d:Nat):Option Int→Nat
 |none=>d
 |some v=>if v<0 then(v+(n:Int)).toNat else min v.toNat n
theorem Zw8(n d:Nat):sIx n d none=d:=rfl
end
end HT
namespace L2
open PySem PySem.Spec PyProof.Rows
noncomputable abbrev TO:=St→Hp→(Option Int→Hp→Prop)→Prop
noncomputable def PO(X:Cx)(e:Option Expr)(t:TO):Prop:=
 ∀(pins:List (Addr×Obj)) (s:Shared) (σ:St) (H:Hp) (Q:Option Int→Hp→Prop),Inv X pins σ H s→t σ H Q→
  wpAny (model X.prog X.w) X.A (evalPart e X.env) (fun u s'=>∃o H',Inv X pins σ H' s'∧IsPart u o∧Q o H') X.xe s
noncomputable def Zlc:TO:=fun _ H Q=>Q none H
noncomputable def Zul(t:TE):TO:=fun σ H Q=>t σ H fun x H1=>∃i,x= .int i∧Q (some i) H1
section
variable{X:Cx}{e:Expr}{te:TE}{lo hi:Option Expr}{tl th:TO}{pos p2:Pos}
theorem Zq9:PO X none Zlc:=by
 intro pins s σ H Q I h
 rw[evalPart_none]
 exact wpAny_pure ⟨none,H,I,.none,h⟩
theorem Zra(h:PE X e te):PO X (some e) (Zul te):=by
 intro pins s σ H Q I hw
 rw[evalPart_some]
 refine thn (h pins s σ H _ I hw) fun u s1 zq9=>?_
 obtain⟨x,H1,I1,r1,q1⟩:=zq9
 obtain⟨i,rfl,q⟩:=q1
 obtain⟨t,rfl⟩:=r1
 exact⟨some i,H1,I1,.int i t,q⟩
noncomputable def SlR(X:Cx)(r:V→Option Int→Option Int→Hp→VK→Prop):Prop:=
 ∀(pins:List (Addr×Obj)) (s:Shared) (σ:St) (H:Hp) (x:V) (v vl vu:Value) (lo hi:Option Int) (sl:Addr) (Q:VK),Inv X pins σ H s→RelV x v→s.heap.IsSliceOf sl vl vu .none→IsPart vl lo→IsPart vu hi→r x lo hi H Q→
  ∃T id,typeLookup (.type T) "__getitem__"=pure (some (.builtin id))∧s.TypeIs v T∧wpAny (model X.prog X.w) X.A (getItem v (.ref sl)) (EP X pins σ Q) X.xe s
theorem SlR.or{r r':V→Option Int→Option Int→Hp→VK→Prop}(h:SlR X r)(h':SlR X r'):SlR X (fun x lo hi H Q=>r x lo hi H Q∨r' x lo hi H Q):=by
 intro pins s σ H x v vl vu lo hi sl Q I rx hs pl pu q
 rcases q with q|q
 ·exact h pins s σ H x v vl vu lo hi sl Q I rx hs pl pu q
 ·exact h' pins s σ H x v vl vu lo hi sl Q I rx hs pl pu q
noncomputable def tSl(r:V→Option Int→Option Int→Hp→VK→Prop)(te:TE)(tl th:TO):TE:=fun σ H Q=>te σ H fun x H1=>tl σ H1 fun l H2=>th σ H2 fun u H3=>r x l u H3 Q
theorem Zn7{r:V→Option Int→Option Int→Hp→VK→Prop}(hr:SlR X r)(he:PE X e te)(hl:PO X lo tl)(hu:PO X hi th):PE X (.Subscript e (.Slice lo hi none p2) pos) (tSl r te tl th):=by
 intro pins s σ H Q I h
 refine Subscript_ (thn (he pins s σ H _ I h) fun v s1 zq9=>?_)
 obtain⟨x,H1,I1,r1,q1⟩:=zq9
 refine wpAny_Slice (thn (hl pins s1 σ H1 _ I1 q1) fun vl s2 ⟨l,H2,I2,pl,q2⟩=>thn (hu pins s2 σ H2 _ I2 q2) fun vu s3 zq9=>?_)
 obtain⟨u,H3,I3,pu,q3⟩:=zq9
 rw[evalPart_none]
 refine wpAny_pure ?_
 have I4:Inv X pins σ H3 {s3 with heap:=s3.heap.push {cls:=.type "slice",data:=.fields #[vl,vu,.none]}}:=I3.kept (t':=s3.toks) fun b ob q=>Heap.get?_push_of_some _ q
 obtain⟨T,id,hT,ht,hg⟩:=hr pins {s3 with heap:=s3.heap.push {cls:=.type "slice",data:=.fields #[vl,vu,.none]}} σ H3 x v vl vu l u s3.heap.objs.size Q I4 r1 (Heap.IsSliceOf.new ..) pl pu q3
 show wpAny (model X.prog X.w) X.A (subscriptTail e (.Slice lo hi none p2) v (.ref s3.heap.objs.size)) (EP X pins σ Q) X.xe {s3 with heap:=s3.heap.push {cls:=.type "slice",data:=.fields #[vl,vu,.none]}}
 exact tail_any (ops:=[.ref s3.heap.objs.size,v]) ht hT hg (by with_unfolding_all rfl)
noncomputable def cutV(xs:List V)(lo hi:Option Int):List V:=(xs.drop (HT.sIx xs.length 0 lo)).take (HT.sIx xs.length xs.length hi- HT.sIx xs.length 0 lo)
theorem Zhr(xs:List V)(lo hi:Option Int):(cutV xs lo hi).length≤xs.length:=by
 unfold cutV
 rw[List.length_take,List.length_drop]
 omega
noncomputable def rSlT(K:PySem.W.Frag):V→Option Int→Option Int→Hp→VK→Prop:=fun x lo hi H Q=>∃a xs,x= .ref a∧SqT K H a xs∧
 ¬(HT.sIx xs.length 0 lo=0∧HT.sIx xs.length xs.length hi=xs.length)∧∀p,H p=none→Q (.ref p) (upd H p (.tup (cutV xs lo hi)))
noncomputable def rLtT(K:PySem.W.Frag):R2:=fun x y H Q=>∃a b ns ms,x= .ref a∧y= .ref b∧SqT K H a (ns.map V.int)∧SqT K H b (ms.map V.int)∧Q (.bl (HT.lexLt ns ms)) H
noncomputable def Z1w(K:PySem.W.Frag):R2:=fun x y H Q=>∃a b xs ys,x= .ref a∧y= .ref b∧SqT K H a xs∧SqT K H b ys∧xs≠[]∧xs.length+ys.length≤sizeLine∧
 (ys=[]→Q (.ref a) H)∧(ys≠[]→∀p,H p=none→Q (.ref p) (upd H p (.tup (xs++ys))))
end
end L2
namespace L2
open PySem PySem.Spec PyProof.Rows
noncomputable def ixN(n:Nat)(i:Int):Option Nat:=if 0≤i then(if i<n then some i.toNat else none)else if-(n:Int)≤i then some (i+n).toNat else none
noncomputable def atI{α:Type}(xs:List α)(i:Int):Option α:=(ixN xs.length i).bind fun j=>xs[j]?
theorem Zrb{n:Nat}{i:Int}{j:Nat}(h:ixN n i=some j):seqIndex? i n=some j∧j<n∧-(n:Int)≤i∧i<n:=by
 unfold ixN at h
 by_cases h0:0≤i
 ·rw[if_pos h0]at h
  by_cases h1:i<n
  ·rw[if_pos h1]at h
   have e:i.toNat=j:=Option.some.inj h
   exact⟨by rw[seqIndex_of h0 h1,e],by omega,by omega,h1⟩
  ·rw[if_neg h1]at h;cases h
 ·rw[if_neg h0]at h
  by_cases h1:-(n:Int)≤i
  ·rw[if_pos h1]at h
   have e:(i+n).toNat=j:=Option.some.inj h
   exact⟨by rw[seqIndex_neg (by omega) h1,e],by omega,h1,by omega⟩
  ·rw[if_neg h1]at h;cases h
theorem Zhs{α:Type}{xs:List α}{i:Int}{v:α}(h:atI xs i=some v):∃j,seqIndex? i xs.length=some j∧xs[j]? =some v∧j<xs.length∧-(xs.length:Int)≤i∧i<xs.length:=by
 unfold atI at h
 cases e:ixN xs.length i with
 |none=>rw[e]at h;cases h
 |some j=>
  rw[e]at h
  obtain⟨h1,h2,h3,h4⟩:=Zrb e
  exact⟨j,h1,h,h2,h3,h4⟩
noncomputable def Zld(b:Expr):Prop:=∀o i,subscripted b false o i=operate [o,i] (getItem o i)
noncomputable def IxR(X:Cx)(r:R2):Prop:=
 ∀(value slice:Expr) (pins:List (Addr×Obj)) (s:Shared) (σ:St) (H:Hp) (x y:V) (v u:Value) (Q:VK),Inv X pins σ H s→RelV x v→RelV y u→r x y H Q→
  subscripted slice false v u=operate [v,u] (getItem v u)→wpAny (model X.prog X.w) X.A (subscriptTail value slice v u) (EP X pins σ Q) X.xe s
noncomputable def MtR(X:Cx)(id:String)(r:V→List V→Hp→VK→Prop):Prop:=
 ∀(pins:List (Addr×Obj)) (s:Shared) (σ:St) (H:Hp) (x:V) (xs:List V) (v:Value) (us:List Value) (Q:VK),Inv X pins σ H s→RelV x v→Vals xs us→r x xs H Q→
  wpAny (model X.prog X.w) X.A (call (.builtin id) (v::us)) (EP X pins σ Q) X.xe s
section
variable{X:Cx}{a b:Expr}{ta tb:TE}{pos:Pos}
theorem IxR.or{r r':R2}(h:IxR X r)(h':IxR X r'):IxR X (fun x y H Q=>r x y H Q∨r' x y H Q):=by
 intro value slice pins s σ H x y v u Q I rx ry q hs
 rcases q with q|q
 ·exact h value slice pins s σ H x y v u Q I rx ry q hs
 ·exact h' value slice pins s σ H x y v u Q I rx ry q hs
theorem Zxy{r:R2}(hr:IxR X r)(ha:PE X a ta)(hb:PE X b tb)(hs:Zld b):PE X (.Subscript a b pos) (tOp r ta tb):=by
 intro pins s σ H Q I h
 exact Subscript_ (binT ha hb I h fun v u s2 x y H2 I2 rx ry q=>hr a b pins s2 σ H2 x y v u Q I2 rx ry q (hs _ _))
noncomputable def rIxL(K:PySem.W.Frag):R2:=fun x y H Q=>∃p xs i v,x= .ref p∧y= .int i∧SqL K H p xs∧atI xs i=some v∧Q v H
noncomputable def rIxT(K:PySem.W.Frag):R2:=fun x y H Q=>∃p xs i v,x= .ref p∧y= .int i∧SqT K H p xs∧atI xs i=some v∧Q v H
noncomputable def rIxS:R2:=fun x y H Q=>∃z i c,x= .str z∧y= .int i∧z.length≤sizeLine∧atI z.cps.toList i=some c∧Q (.str ⟨#[c]⟩) H
theorem Zrc:IxR X (rIxL X.K):=by
 intro value slice pins s σ H x y v u Q I rx ry h hs
 obtain⟨p,xs,i,z,rfl,rfl,hq,he,q⟩:=h
 cases rx
 obtain⟨t,rfl⟩:=ry
 obtain⟨its,r,pl,hz⟩:=I.list hq
 obtain⟨j,h1,h2,h3,h4,h5⟩:=Zhs he
 obtain⟨w,ew,rw'⟩:=r.get h2
 have hl:=r.length
 have hn:=Zga
 have fin:EP X pins σ Q w s:=⟨z,H,I,rw',q⟩
 by_cases h0:0≤i
 ·have hj:i.toNat=j:=by
   rw[seqIndex_of h0 h5]at h1
   exact Option.some.inj h1
  exact item_listR pl.isList h0 (by omega) (by rw[hj];simpa using ew) fin hs
 ·have hj:(i+(its.toArray.size:Int)).toNat=j:=by
   rw[seqIndex_neg (by omega) h4]at h1
   rw[List.size_toArray,←hl]
   exact Option.some.inj h1
  exact subscriptTail_builtinR (x:=w) pl.isList.typeIs slot_list_getitem.lookup
   (wpAny_getItem_list_neg (Q:=fun r s'=>r=w∧EP X pins σ Q r s') pl.isList (by omega) (by rw[List.size_toArray]<;> omega) (by omega) (by rw[hj];simpa using ew) ⟨rfl,fin⟩) hs
theorem Zum:IxR X (rIxT X.K):=by
 intro value slice pins s σ H x y v u Q I rx ry h hs
 obtain⟨p,xs,i,z,rfl,rfl,hq,he,q⟩:=h
 cases rx
 obtain⟨t,rfl⟩:=ry
 obtain⟨its,r,pl,hz⟩:=I.tuple hq
 obtain⟨j,h1,h2,h3,h4,h5⟩:=Zhs he
 obtain⟨w,ew,rw'⟩:=r.get h2
 have hl:=r.length
 have hn:=Zga
 have fin:EP X pins σ Q w s:=⟨z,H,I,rw',q⟩
 exact subscriptTail_builtinR (x:=w) pl.typeIs slot_tuple_getitem.lookup
  (getItem_tuple (j:=j) (Q:=fun r s'=>r=w∧EP X pins σ Q r s') pl (by omega) (by omega) (by rw[List.size_toArray,←hl];exact h1) (by simpa using ew) ⟨rfl,fin⟩) hs
theorem Zun:IxR X rIxS:=by
 intro value slice pins s σ H x y v u Q I rx ry h hs
 obtain⟨z,i,c,rfl,rfl,hz,he,q⟩:=h
 obtain⟨t,rfl⟩:=rx
 obtain⟨t',rfl⟩:=ry
 obtain⟨j,h1,h2,h3,h4,h5⟩:=Zhs he
 have hl:z.cps.toList.length=z.length:=by simp[Str.length]
 rw[hl]at h1 h4 h5
 have hn:=Zga
 exact tail_any (typeIs_str s z t) slot_str_getitem.lookup (getItem_str (c:=c) (by
  have e1:decide (i< -(2^63:Int))=false:=decide_eq_false (by omega)
  have e2:decide (i≥2^63)=false:=decide_eq_false (by omega)
  rw[e1,e2,Bool.or_false]) (by rw[h1];simpa using h2) ⟨.str ⟨#[c]⟩,H,I.tok _,⟨_,rfl⟩,q⟩) hs
noncomputable def rIx(K:PySem.W.Frag):R2:=fun x y H Q=>rIxL K x y H Q∨rIxT K x y H Q∨rIxS x y H Q
theorem Zuo:IxR X (rIx X.K):=Zrc.or (Zum.or Zun)
noncomputable def Z1x:V→V→V→Hp→(Hp→Prop)→Prop:=fun o i v H Q=>∃p xs k j,o= .ref p∧i= .int k∧H p=some (.lst xs)∧ixN xs.length k=some j∧Q (upd H p (.lst (xs.set j v)))
theorem Zgf(lo hi:Option Int)(n:Nat):(sliceBounds lo hi none n).1=((HT.sIx n 0 lo:Nat):Int)∧(sliceBounds lo hi none n).2.1=((HT.sIx n n hi:Nat):Int)∧(sliceBounds lo hi none n).2.2=1:=by
 refine⟨?_,?_,rfl⟩
 ·cases lo with
  |none=>simp[sliceBounds,HT.sIx]
  |some i=>
   simp only[sliceBounds,HT.sIx,Option.getD_none,show(1:Int) > 0 by decide,if_true]
   by_cases h:i<0
   ·simp only[h,if_true]<;> omega
   ·simp only[h,if_false]<;> omega
 ·cases hi with
  |none=>simp[sliceBounds,HT.sIx]
  |some i=>
   simp only[sliceBounds,HT.sIx,Option.getD_none,show(1:Int) > 0 by decide,if_true]
   by_cases h:i<0
   ·simp only[h,if_true]<;> omega
   ·simp only[h,if_false]<;> omega
theorem Zfg(its:List Value)(lo hi:Option Int):slicePick its.toArray lo hi none=((its.drop (HT.sIx its.length 0 lo)).take (HT.sIx its.length its.length hi- HT.sIx its.length 0 lo)).toArray:=by
 obtain⟨h1,h2,h3⟩:=Zgf lo hi its.toArray.size
 unfold slicePick
 rw[h1,h2,h3]
 simp only[sliceRange_one,pick_run,List.size_toArray]<;> rfl
noncomputable def rSlL(K:PySem.W.Frag):V→Option Int→Option Int→Hp→VK→Prop:=fun x lo hi H Q=>∃a xs,x= .ref a∧SqL K H a xs∧∀p,H p=none→Q (.ref p) (upd H p (.lst (cutV xs lo hi)))
theorem Zrd:SlR X (rSlL X.K):=by
 intro pins s σ H x v vl vu lo hi sl Q I rx hs pl pu h
 obtain⟨a,xs,rfl,hx,q⟩:=h
 cases rx
 obtain⟨its,r,ht,hz⟩:=I.list hx
 have hlen:=r.length
 refine⟨"list",_,slot_list_getitem.lookup,ht.isList.typeIs,?_⟩
 refine wpAny_getItem_list_slice ht.isList hs pl pu .none (by simp) ?_ (by rw[List.size_toArray]<;> omega)
 rw[Zfg,←hlen]
 refine⟨.ref s.heap.objs.size,_,I.laid (t':=s.toks) (o:=.lst (cutV xs lo hi)) (fun b ob q=>Heap.get?_push_of_some _ q) (Nat.le_refl _) ?_,rfl,q _ (I.hok.fresh (Nat.le_refl _))⟩
 exact⟨Nat.le_trans (Zhr xs lo hi) hz,_,0,(r.drop (HT.sIx xs.length 0 lo)).take (HT.sIx xs.length xs.length hi- HT.sIx xs.length 0 lo),Heap.get?_push_size _ rfl⟩
noncomputable def Zaa:V→Bool
 | .non=>true
 | .bl _=>true
 | .int _=>true
 | .str _=>true
 |_=>false
noncomputable def eqV:V→V→Bool
 | .non,.non=>true
 | .bl a,.bl b=>a==b
 | .bl a,.int b=>(if a then 1 else 0)==b
 | .int a,.bl b=>a==(if b then 1 else 0)
 | .int a,.int b=>a==b
 | .str a,.str b=>a==b
 |_,_=>false
theorem Zpq{A:Around}{s:Shared}{y x:V}{u v:Value}(ry:RelV y u)(rx:RelV x v)(fy:Zaa y=true)(fx:Zaa x=true):SeqAt.EqAt A s u v (eqV y x):=by
 cases y with
 |non=>
  cases ry
  cases x with
  |non=>cases rx;exact SeqAt.EqAt.same _
  |bl b=>cases rx;exact SeqAt.EqAt.none_bool b
  |int b=>obtain⟨t,rfl⟩:=rx;exact SeqAt.EqAt.none_int b t
  |str b=>obtain⟨t,rfl⟩:=rx;exact SeqAt.EqAt.none_str b t
  |_=>exact absurd (show false=true from fx) Bool.false_ne_true
 |bl a=>
  cases ry
  cases x with
  |non=>cases rx;exact SeqAt.EqAt.bool_none a
  |bl b=>cases rx;exact SeqAt.EqAt.bool_bool a b
  |int b=>obtain⟨t,rfl⟩:=rx;exact SeqAt.EqAt.bool_int a b t
  |str b=>obtain⟨t,rfl⟩:=rx;exact SeqAt.EqAt.bool_str a b t
  |_=>exact absurd (show false=true from fx) Bool.false_ne_true
 |int a=>
  obtain⟨t',rfl⟩:=ry
  cases x with
  |non=>cases rx;exact SeqAt.EqAt.int_none a t'
  |bl b=>cases rx;exact SeqAt.EqAt.int_bool a t' b
  |int b=>obtain⟨t,rfl⟩:=rx;exact SeqAt.EqAt.int_int a t' b t
  |str b=>obtain⟨t,rfl⟩:=rx;exact SeqAt.EqAt.int_str a t' b t
  |_=>exact absurd (show false=true from fx) Bool.false_ne_true
 |str a=>
  obtain⟨t',rfl⟩:=ry
  cases x with
  |non=>cases rx;exact SeqAt.EqAt.str_none a t'
  |bl b=>cases rx;exact SeqAt.EqAt.str_bool a t' b
  |int b=>obtain⟨t,rfl⟩:=rx;exact SeqAt.EqAt.str_int a t' b t
  |str b=>obtain⟨t,rfl⟩:=rx;exact SeqAt.EqAt.str_str a t' b t
  |_=>exact absurd (show false=true from fx) Bool.false_ne_true
 |_=>exact absurd (show false=true from fy) Bool.false_ne_true
noncomputable def eqU(x:V)(u:Value):Bool:=match u with
 | .none=>eqV .non x
 | .bool b=>eqV (.bl b) x
 | .int i _=>eqV (.int i) x
 | .str z _=>eqV (.str z) x
 |_=>false
theorem Zpr{x y:V}{u:Value}(r:RelV y u)(f:Zaa y=true):eqU x u=eqV y x:=by
 cases y with
 |non=>cases r;rfl
 |bl b=>cases r;rfl
 |int i=>obtain⟨t,rfl⟩:=r;rfl
 |str z=>obtain⟨t,rfl⟩:=r;rfl
 |_=>exact absurd (show false=true from f) Bool.false_ne_true
theorem Zd1{x:V}:∀{xs:List V} {us:List Value},Vals xs us→xs.all Zaa=true→us.any (eqU x)=xs.any fun y=>eqV y x
 |_,_,.nil,_=>rfl
 |y::xs,u::us,.cons r t,f=>by
  rw[List.all_cons,Bool.and_eq_true]at f
  rw[List.any_cons,List.any_cons,Zpr r f.1,Zd1 t f.2]
theorem Zcu{A:Around}{s:Shared}{x:V}{v:Value}(rx:RelV x v)(fx:Zaa x=true):∀{xs:List V} {us:List Value},Vals xs us→xs.all Zaa=true→∀u∈us,SeqAt.EqAt A s u v (eqU x u)
 |_,_,.nil,_=>fun u hu=>by cases hu
 |y::xs,u::us,.cons r t,f=>fun u' hu=>by
  rw[List.all_cons,Bool.and_eq_true]at f
  rcases List.mem_cons.mp hu with rfl|hu
  ·rw[Zpr r f.1];exact Zpq r rx f.1 fx
  ·exact Zcu rx fx t f.2 u' hu
noncomputable def inV(x:V)(xs:List V):Bool:=xs.any fun y=>eqV y x
noncomputable def rIn(K:PySem.W.Frag)(neg:Bool):R2:=fun x y H Q=>∃p xs,y= .ref p∧(SqL K H p xs∨SqT K H p xs)∧Zaa x=true∧xs.all Zaa=true∧Q (.bl (if neg then !inV x xs else inV x xs)) H
theorem Zle:OpR X (compareOp .In) (rIn X.K false):=by
 intro pins s σ H x y v u Q I rx ry h
 obtain⟨p,xs,rfl,hq,fx,fs,q⟩:=h
 cases ry
 rcases hq with hq|hq
 ·obtain⟨its,r,pl,hz⟩:=I.list hq
  refine SeqAt.in_listAt (eqU x) pl.isList (fun w hw=>Zcu rx fx r fs w (by simpa using hw)) ⟨.bl _,H,I,rfl,?_⟩
  rw[show its.toArray.any (eqU x)=its.any (eqU x) by simp,Zd1 r fs]
  exact q
 ·obtain⟨its,r,pl,hz⟩:=I.tuple hq
  refine SeqAt.in_tupleAt (eqU x) pl (fun w hw=>Zcu rx fx r fs w (by simpa using hw)) ⟨.bl _,H,I,rfl,?_⟩
  rw[show its.toArray.any (eqU x)=its.any (eqU x) by simp,Zd1 r fs]
  exact q
theorem Zgg:OpR X (compareOp .NotIn) (rIn X.K true):=by
 intro pins s σ H x y v u Q I rx ry h
 obtain⟨p,xs,rfl,hq,fx,fs,q⟩:=h
 cases ry
 rcases hq with hq|hq
 ·obtain⟨its,r,pl,hz⟩:=I.list hq
  refine SeqAt.notIn_listAt (eqU x) pl.isList (fun w hw=>Zcu rx fx r fs w (by simpa using hw)) ⟨.bl _,H,I,rfl,?_⟩
  rw[show its.toArray.any (eqU x)=its.any (eqU x) by simp,Zd1 r fs]
  exact q
 ·obtain⟨its,r,pl,hz⟩:=I.tuple hq
  refine SeqAt.notIn_tupleAt (eqU x) pl (fun w hw=>Zcu rx fx r fs w (by simpa using hw)) ⟨.bl _,H,I,rfl,?_⟩
  rw[show its.toArray.any (eqU x)=its.any (eqU x) by simp,Zd1 r fs]
  exact q
theorem Zgh:OpR X (compareOp .NotIn) (fun x y H Q=>∃i j,x= .str i∧y= .str j∧Q (.bl (!(!(Builtin.Str.occurrences j i 0 j.length 1).isEmpty))) H):=by
 intro pins s σ H x y v u Q I rx ry h
 obtain⟨i,j,rfl,rfl,q⟩:=h
 obtain⟨t,rfl⟩:=rx
 obtain⟨t',rfl⟩:=ry
 exact notIn_str ⟨.bl _,H,I,rfl,q⟩
theorem Zgi:Zct X (.builtin "len") (fun xs H Q=>∃p ys,xs=[.ref p]∧(SqL X.K H p ys∨SqT X.K H p ys)∧Q (.int ys.length) H):=by
 intro pins s σ H xs us Q I r h
 obtain⟨p,ys,rfl,hq,q⟩:=h
 obtain⟨u,rfl,rx⟩:=Zff r
 cases rx
 have hn:=Zga
 rcases hq with hq|hq
 ·obtain⟨its,r',pl,hz⟩:=I.list hq
  have hlen:=r'.length
  exact Calls.call_len_list pl.isList (by simp only[List.size_toArray]<;> omega) ⟨.int ys.length,H,I.tok _,⟨s.toks+1,by rw[List.size_toArray,hlen]⟩,q⟩
 ·obtain⟨its,r',pl,hz⟩:=I.tuple hq
  have hlen:=r'.length
  exact len_tuple pl (by simp only[List.size_toArray]<;> omega) ⟨.int ys.length,H,I.tok _,⟨s.toks+1,by rw[List.size_toArray,hlen]⟩,q⟩
theorem Zgj:Zct X (.builtin "len") (fun xs H Q=>∃z,xs=[.str z]∧z.length≤sizeLine∧Q (.int z.length) H):=by
 intro pins s σ H xs us Q I r h
 obtain⟨z,rfl,hz,q⟩:=h
 obtain⟨u,rfl,t,rfl⟩:=Zff r
 have hn:=Zga
 exact len_str (by omega) ⟨.int z.length,H,I.tok _,⟨_,rfl⟩,q⟩
theorem Zct.or{f:Value}{r r':List V→Hp→VK→Prop}(h:Zct X f r)(h':Zct X f r'):Zct X f (fun xs H Q=>r xs H Q∨r' xs H Q):=by
 intro pins s σ H xs us Q I rs q
 rcases q with q|q
 ·exact h pins s σ H xs us Q I rs q
 ·exact h' pins s σ H xs us Q I rs q
theorem Zgk:Zct X (.type "list") (fun xs H Q=>∃p ys,xs=[.ref p]∧(SqL X.K H p ys∨SqT X.K H p ys)∧∀l,H l=none→Q (.ref l) (upd H l (.lst ys))):=by
 intro pins s σ H xs us Q I r h
 obtain⟨p,ys,rfl,hq,q⟩:=h
 obtain⟨u,rfl,rx⟩:=Zff r
 cases rx
 have fin:∀(its:List Value),Vals ys its→ys.length≤sizeLine→∀(h':Heap) (c':Nat),(∀b o',s.heap.get? b=some o'→h'.get? b=some o')→
   h'.get? s.heap.objs.size=some {cls:=.type "list",dict:=none,data:=.seq its.toArray c',slots:= #[]}→EP X pins σ Q (.ref s.heap.objs.size) {s with heap:=h'}:=fun its r' hz h' c' kp e=>
  ⟨.ref s.heap.objs.size,_,I.laid (t':=s.toks) kp (Nat.le_refl _) (show Zaj X.prog X.w _ h' _ (.lst ys)from⟨hz,its,c',r',e⟩),rfl,q _ (I.hok.fresh (Nat.le_refl _))⟩
 rcases hq with hq|hq
 ·obtain⟨its,r',pl,hz⟩:=I.list hq
  have hlen:=r'.length
  obtain⟨o,ho,hc,n,hd⟩:=pl.isList
  exact call_list_seq p (.inl rfl) ho hc hd (fun h' c' kp e=>fin its r' hz h' c' kp e) (by simp only[List.size_toArray]<;> omega)
 ·obtain⟨its,r',pl,hz⟩:=I.tuple hq
  have hlen:=r'.length
  obtain⟨o,ho,hc,n,hd⟩:=pl
  exact call_list_seq p (.inr rfl) ho hc hd (fun h' c' kp e=>fin its r' hz h' c' kp e) (by simp only[List.size_toArray]<;> omega)
noncomputable def tyV(K:PySem.W.Frag)(T:String)(x:V)(H:Hp):Prop:=match x with
 | .str _=>T="str"
 | .int _=>T="int"
 | .ref p=>(T="list"∧∃xs,SqL K H p xs)∨(T="tuple"∧∃o,K.lookup p=some o∧o.cls= .type "tuple"∧o.dict=none)∨
   (T="dict"∧((∃kvs,HK H p kvs)∨∃kvs,HTt H p kvs))∨(T="set"∧∃S n,H p=some (.set S n))
 |_=>False
theorem Zup{pins:List (Addr×Obj)}{σ:St}{H:Hp}{s:Shared}{T:String}{x:V}{v:Value}(I:Inv X pins σ H s)(r:RelV x v)(ty:tyV X.K T x H):
  s.TypeIs v T∧∀a,v= .ref a→∃ob,s.heap.get? a=some ob∧ob.dict=none:=by
 cases x with
 |str z=>
  obtain⟨t,rfl⟩:=r
  cases(show T="str"from ty)
  exact⟨typeIs_str s z t,fun _ e=>nomatch e⟩
 |int i=>
  obtain⟨t,rfl⟩:=r
  cases(show T="int"from ty)
  exact⟨typeIs_int s i t,fun _ e=>nomatch e⟩
 |ref p=>
  cases r
  rcases ty with⟨rfl,xs,hq⟩|⟨rfl,o,hk,hc,hd⟩|⟨rfl,hk⟩|⟨rfl,S,n,hk⟩
  ·obtain⟨its,_,pl,_⟩:=I.list hq
   refine⟨pl.isList.typeIs,fun a e=>?_⟩
   cases e
   obtain⟨o,n,e,c,hd,_⟩:=pl
   exact⟨o,e,hd⟩
  ·refine⟨⟨o,I.kIn p o hk,hc⟩,fun a e=>?_⟩
   cases e
   exact⟨o,I.kIn _ o hk,hd⟩
  ·have z:∃o,s.heap.get? p=some o∧o.ExactDict:=by
    rcases hk with⟨kvs,ep,hk⟩|⟨kvs,ep,bs,hk⟩
    ·obtain⟨_,_,_,_,o,_,e,ex,_⟩:=I.hok p _ hk
     exact⟨o,e,ex⟩
    ·obtain⟨_,_,_,_,o,_,e,ex,_⟩:=I.hok p _ hk
     exact⟨o,e,ex⟩
   obtain⟨o,e,ex⟩:=z
   refine⟨⟨o,e,ex.1⟩,fun a e2=>?_⟩
   cases e2
   exact⟨o,e,ex.2.1⟩
  ·obtain⟨o,_,_,_,e,ex,_⟩:=I.hok p _ hk
   refine⟨⟨o,e,ex.1⟩,fun a e2=>?_⟩
   cases e2
   exact⟨o,e,ex.2.1⟩
 |_=>exact False.elim ty
noncomputable def tBM0(K:PySem.W.Frag)(T:String)(r:V→List V→Hp→VK→Prop)(to:TE):TE:=fun σ H Q=>to σ H fun x H1=>tyV K T x H1∧r x [] H1 Q
noncomputable def tBM(K:PySem.W.Frag)(T:String)(r:V→List V→Hp→VK→Prop)(to:TE)(t:TA):TE:=fun σ H Q=>to σ H fun x H1=>tyV K T x H1∧t σ H1 fun xs H2=>r x xs H2 Q
variable{o e:Expr}{es:List Expr}{to:TE}{t:TA}{name:Str}{apos cpos:Pos}{T id:String}{r:V→List V→Hp→VK→Prop}
theorem Zuq(pa:PlainAttrs T)(slot:Slot T name id)(hty:typeOf (.builtin id)=pure (.type "method_descriptor"))(hm:MtR X id r)(ho:PE X o to)(ha:PA X (e::es) t)
  (hbase:attributeBase o name X.env (eval o X.env)=eval o X.env:=by rfl)
  (hfew:((backTo cpos (starEach (e::es) X.env)).all (fun x=>!x.1)&&(backToKw cpos (keywordEach [] X.env)).all (fun x=>x.1.isSome)
   &&decide ((e::es).length+([]:List Keyword).length+(if([]:List Keyword).isEmpty then 0 else 1)<30))=true:=by rfl)
  (hline:(apos.endLine==cpos.line)=true:=by rfl) (hs:starEach (e::es) X.env=(false,eval e X.env)::starEach es X.env:=by rfl) (hplain:(backTo cpos (starEach es X.env)).any (·.1)=false:=by rfl):
  PE X (.Call (.Attribute o name apos) (e::es) [] cpos) (tBM X.K T r to t):=by
 intro pins s σ H Q I h
 refine wpAny_Call_method_late hbase hfew hline rfl (thn (ho pins s σ H _ I h) fun v s1 zq9=>?_)
 obtain⟨x,H1,I1,r1,ty,q1⟩:=zq9
 obtain⟨h1,h2⟩:=Zup I1 r1 ty
 refine⟨T,id,pa,slot,hty,h1,h2,?_⟩
 have hA:=ha cpos pins s1 σ H1 _ I1 q1
 rw[hs]at hA⊢
 refine Calls.callWith_builtin (by show(false|| (backTo cpos (starEach es X.env)).any (·.1))=false;rw[hplain]<;> rfl) (Calls.evalArgs_plain ?_)
 exact thn hA fun us s2 ⟨vs,H2,I2,r2,q2⟩=>hm pins s2 σ H2 x vs v us Q I2 r1 r2 q2
end
end L2
namespace L2
open PySem PySem.Spec PyProof.Rows
noncomputable def MtM(X:Cx)(id:String)(r:V→List V→Hp→VK→Prop):Prop:=
 ∀(pins:List (Addr×Obj)) (s:Shared) (σ:St) (H:Hp) (x:V) (xs:List V) (v:Value) (us:List Value) (Q:VK),Inv X pins σ H s→RelV x v→Vals xs us→r x xs H Q→
  wpAny (model X.prog X.w) X.A (call (.builtin id) (v::us)) (EP X pins σ Q) X.xe s
theorem Vals.one{x:V}{us:List Value}(h:Vals [x] us):∃u,us=[u]∧RelV x u:=by
 cases h with
 |cons r t=>cases t;exact⟨_,rfl,r⟩
section
variable{X:Cx}{pins:List (Addr×Obj)}{σ:St}{H:Hp}{s:Shared}{l b:Addr}{xs ys zs:List V}
theorem Inv.lset{its its':List Value}{n:Nat}{f:Array Value→Array Value}{t':Nat}(I:Inv X pins σ H s)(hH:H l=some (.lst xs))
  (e:s.heap.get? l=some {cls:=.type "list",data:=.seq its.toArray n}) (hf:f its.toArray=its'.toArray) (hv:Vals ys its') (hz:ys.length≤sizeLine):
  Inv X pins σ (upd H l (.lst ys)) {s with heap:=s.heap.update l (Obj.mapSeq f),toks:=t'}:=by
 have q:=PySem.IsL.update e f
 rw[hf]at q
 refine I.write (x:=l) (e:=l) (by rw[hH];exact trivial) (.inl rfl) (fun b' u hb hu=>(Heap.get?_update_other s.heap (Obj.mapSeq f) (Ne.symm hb)).trans hu) ⟨_,q⟩ ?_
 exact⟨hz,its',_,hv,q⟩
theorem Inv.lnew{its:List Value}{t':Nat}(I:Inv X pins σ H s)(hv:Vals ys its)(hz:ys.length≤sizeLine):
  Inv X pins σ (upd H s.heap.objs.size (.lst ys)) {s with heap:=s.heap.push {cls:=.type "list",data:=.seq its.toArray},toks:=t'}:=
 I.laid (fun _ _ q=>Heap.get?_push_of_some _ q) (Nat.le_refl _) ⟨hz,its,0,hv,Heap.get?_push_size _ rfl⟩
theorem Inv.fresh(I:Inv X pins σ H s):H s.heap.objs.size=none:=I.hok.fresh (Nat.le_refl _)
theorem Inv.lstM(I:Inv X pins σ H s)(hH:H l=some (.lst xs)):xs.length≤sizeLine∧∃(its:List Value) (n:Nat),Vals xs its∧xs.length=its.length∧s.heap.get? l=some {cls:=.type "list",data:=.seq its.toArray n}:=by
 obtain⟨z,its,n,r,e⟩:=I.hok l _ hH
 exact⟨z,its,n,r,r.length,e⟩
end
section
variable{X:Cx}
noncomputable def Zd2:V→List V→Hp→VK→Prop:=fun x vs H Q=>∃l xs y,x= .ref l∧vs=[y]∧H l=some (.lst xs)∧xs.length<sizeLine∧Q .non (upd H l (.lst (xs++[y])))
theorem Zgl:MtM X "list.append" Zd2:=by
 intro pins s σ H x vs v us Q I rx rv h
 obtain⟨l,xs,y,rfl,rfl,hH,hz,q⟩:=h
 cases rx
 obtain⟨u,rfl,ru⟩:=rv.one
 obtain⟨z,its,n,r,hl,e⟩:=I.lstM hH
 refine call_meets F.slot_list_append ⟨_,e,rfl⟩ F.entry_list_append (F.args_list_append_2 _ _) (PySem.list_append l its.toArray n u (by rw[List.size_toArray];omega)) ⟨e,?_⟩
 refine⟨.non,_,I.lset (its':=its++[u]) hH e (by simp) (r.append (.cons ru .nil)) ?_,rfl,q⟩
 rw[List.length_append,List.length_singleton]
 omega
noncomputable def Zxz:V→List V→Hp→VK→Prop:=fun x vs H Q=>∃l b xs zs,x= .ref l∧vs=[.ref b]∧H l=some (.lst xs)∧H b=some (.lst zs)∧xs.length+zs.length≤sizeLine∧Q .non (upd H l (.lst (xs++zs)))
noncomputable def rPop:V→List V→Hp→VK→Prop:=fun x vs H Q=>∃l xs y,x= .ref l∧vs=[]∧H l=some (.lst xs)∧xs[xs.length- 1]? =some y∧Q y (upd H l (.lst xs.dropLast))
noncomputable def Z0a:V→List V→Hp→VK→Prop:=fun x vs H Q=>∃l xs i k y,x= .ref l∧vs=[.int i]∧H l=some (.lst xs)∧-(2^63)≤i∧i<2^63∧seqIndex? i xs.length=some k∧xs[k]? =some y∧Q y (upd H l (.lst (xs.eraseIdx k)))
noncomputable def Zw9:V→List V→Hp→VK→Prop:=fun x vs H Q=>∃l xs,x= .ref l∧vs=[]∧H l=some (.lst xs)∧Q .non (upd H l (.lst xs.reverse))
noncomputable def Z0b:V→List V→Hp→VK→Prop:=fun x vs H Q=>∃l xs,x= .ref l∧vs=[]∧H l=some (.lst xs)∧Q .non (upd H l (.lst []))
noncomputable def rCat:R2:=fun x y H Q=>∃l b xs zs,x= .ref l∧y= .ref b∧H l=some (.lst xs)∧H b=some (.lst zs)∧xs.length+zs.length≤sizeLine∧∀p,H p=none→Q (.ref p) (upd H p (.lst (xs++zs)))
noncomputable def rRep:R2:=fun x y H Q=>∃l k xs,x= .ref l∧y= .int k∧H l=some (.lst xs)∧-(2^63)≤k∧k<2^63∧xs.length*k.toNat≤sizeLine∧
 ∀p,H p=none→Q (.ref p) (upd H p (.lst (List.replicate k.toNat xs).flatten))
end
section
variable{prog:Program}{w:World}{A:Around}{E:Value→Shared→Prop}{s:Shared}
end
section
variable{X:Cx}
end
end L2
namespace L2
open PySem PySem.Spec PyProof.Rows
section
variable{κ:Type}[DecidableEq κ]
noncomputable def valV(kvs:List (κ×V))(k:κ):Option V:=(kvs.find? fun kv=>decide (kv.1=k)).map (·.2)
noncomputable def putK(kvs:List (κ×V))(k:κ)(v:V):List (κ×V):=
 if(kvs.any fun kv=>decide (kv.1=k))=true then kvs.map (fun kv=>if kv.1=k then(kv.1,v)else kv)else kvs++[(k,v)]
noncomputable def Zre(kvs:List (κ×V))(k:κ):List (κ×V):=kvs.filter fun kv=>decide (kv.1≠k)
theorem Zn8{k:κ}:valV ([]:List (κ×V)) k=none:=rfl
theorem Zdv{p:κ×V}{r:List (κ×V)}{k:κ}(e:p.1=k):valV (p::r) k=some p.2:=by simp[valV,List.find?_cons,e]
theorem Zdw{p:κ×V}{r:List (κ×V)}{k:κ}(e:¬p.1=k):valV (p::r) k=valV r k:=by simp[valV,List.find?_cons,e]
theorem Zfh(k:κ):∀kvs:List (κ×V),(kvs.any fun kv=>decide (kv.1=k))=(valV kvs k).isSome
 | []=>rfl
 |p::r=>by
  rw[List.any_cons]
  by_cases e:p.1=k
  ·simp only[Zdv e,decide_eq_true e,Bool.true_or,Option.isSome_some]
  ·rw[Zdw e,decide_eq_false e,Bool.false_or];exact Zfh k r
theorem Zcl(kvs:List (κ×V))(k:κ)(v:V):(putK kvs k v).length≤kvs.length+1:=by
 unfold putK
 split
 ·rw[List.length_map];omega
 ·rw[List.length_append,List.length_cons,List.length_nil];omega
theorem RelO.isSome_eq{o:Option V}{u:Option Value}(r:RelO o u):o.isSome=u.isSome:=by
 cases o with
 |none=>cases u with
  |none=>rfl
  |some _=>exact(show False from r).elim
 |some _=>cases u with
  |none=>exact(show False from r).elim
  |some _=>rfl
theorem RelO.getD{o:Option V}{u:Option Value}{d:V}{d':Value}(r:RelO o u)(rd:RelV d d'):RelV (o.getD d) (u.getD d'):=by
 cases o with
 |none=>cases u with
  |none=>exact rd
  |some _=>exact(show False from r).elim
 |some _=>cases u with
  |none=>exact(show False from r).elim
  |some _=>exact r
theorem KV.val{kvs:List (κ×V)}{vs:List (κ×Value)}(r:KV kvs vs)(k:κ):RelO (valV kvs k) (valueAt vs k):=by
 unfold KV at r
 induction r with
 |nil=>exact True.intro
 | @cons p q ps qs h t ih=>
  obtain⟨h1,h2⟩:=h
  by_cases e:p.1=k
  ·have e':q.1=k:=h1.symm.trans e
   have b:valueAt (q::qs) k=some q.2:=by simp[valueAt,List.find?_cons,e']
   rw[Zdv e,b];exact h2
  ·have e':¬q.1=k:=fun z=>e (h1.trans z)
   have b:valueAt (q::qs) k=valueAt qs k:=by simp[valueAt,List.find?_cons,e']
   rw[Zdw e,b];exact ih
theorem KV.any{kvs:List (κ×V)}{vs:List (κ×Value)}(r:KV kvs vs)(k:κ):(kvs.any fun kv=>decide (kv.1=k))=vs.any fun kv=>decide (kv.1=k):=by
 unfold KV at r
 induction r with
 |nil=>rfl
 |cons h t ih=>rw[List.any_cons,List.any_cons,ih,h.1]
theorem KV.repl{kvs:List (κ×V)}{vs:List (κ×Value)}(r:KV kvs vs)(k:κ){y:V}{u:Value}(ry:RelV y u):
  KV (kvs.map fun kv=>if kv.1=k then(kv.1,y)else kv) (vs.map fun kv=>if kv.1=k then(kv.1,u)else kv):=by
 unfold KV at r⊢
 induction r with
 |nil=>exact .nil
 | @cons p q ps qs h t ih=>
  rw[List.map_cons,List.map_cons]
  refine .cons ?_ ih
  obtain⟨h1,h2⟩:=h
  by_cases e:p.1=k
  ·rw[if_pos e,if_pos (h1.symm.trans e)];exact⟨h1,ry⟩
  ·rw[if_neg e,if_neg (fun z=>e (h1.trans z))];exact⟨h1,h2⟩
theorem KV.put{kvs:List (κ×V)}{vs:List (κ×Value)}(r:KV kvs vs)(k:κ){y:V}{u:Value}(ry:RelV y u):KV (putK kvs k y) (stored vs k u):=by
 unfold putK stored
 rw[r.any k]
 by_cases e:(vs.any fun kv=>decide (kv.1=k))=true
 ·rw[if_pos e,if_pos e];exact r.repl k ry
 ·rw[if_neg e,if_neg e];exact Paired.snoc r ⟨rfl,ry⟩
theorem KV.length{kvs:List (κ×V)}{vs:List (κ×Value)}(r:KV kvs vs):kvs.length=vs.length:=Paired.length r
end
theorem Zgm{P:Program}{w:World}{k:Key}{u:Value}(r:RelV (kV k) u):(Zp P w).is k u=true:=by
 cases k with
 |inl i=>obtain⟨t,e⟩:=(show∃t,u=Value.int i t from r);subst e;exact Zhp P w i t
 |inr x=>obtain⟨t,e⟩:=(show∃t,u=Value.str x t from r);subst e;exact Zhq P w x t
theorem Zgn{P:Program}{w:World}:∀{ks:List Key} {us:List Value},Vals (ks.map kV) us→ItemsAre (Zp P w) ks us
 | [],_,r=>by rw[List.map_nil]at r;cases r;exact .nil
 |k::ks,_,r=>by
  rw[List.map_cons]at r
  cases r with
  |cons h t=>exact .cons (Zgm h) (Zgn t)
noncomputable abbrev KT(H:Hp):List (List Key×V)→List (List Key×Addr×Value)→Prop:=Paired fun p q=>p.1=q.1∧H q.2.1=some (.tup (p.1.map kV))∧RelV p.2 q.2.2
theorem KT.val{H:Hp}{kvs:List (List Key×V)}{xs:List (List Key×Addr×Value)}(r:KT H kvs xs)(k:List Key):RelO (valV kvs k) ((atKey xs k).map (·.2)):=by
 induction r with
 |nil=>exact True.intro
 | @cons p q ps qs h t ih=>
  obtain⟨h1,_,h2⟩:=h
  by_cases e:p.1=k
  ·have e':q.1=k:=h1.symm.trans e
   have b:atKey (q::qs) k=some q.2:=by simp[atKey,List.find?_cons,e']
   rw[Zdv e,b];exact h2
  ·have e':¬q.1=k:=fun z=>e (h1.trans z)
   have b:atKey (q::qs) k=atKey qs k:=by simp[atKey,List.find?_cons,e']
   rw[Zdw e,b];exact ih
theorem KT.repl{H:Hp}{kvs:List (List Key×V)}{xs:List (List Key×Addr×Value)}(r:KT H kvs xs)(k:List Key){y:V}{u:Value}(ry:RelV y u):
  KT H (kvs.map fun kv=>if kv.1=k then(kv.1,y)else kv) (xs.map (putAt k u)):=by
 induction r with
 |nil=>exact .nil
 | @cons p q ps qs h t ih=>
  rw[List.map_cons,List.map_cons]
  refine .cons ?_ ih
  obtain⟨h1,h2,h3⟩:=h
  unfold putAt
  by_cases e:p.1=k
  ·rw[if_pos e,if_pos (h1.symm.trans e)];exact⟨h1,h2,ry⟩
  ·rw[if_neg e,if_neg (fun z=>e (h1.trans z))];exact⟨h1,h2,h3⟩
theorem KT.put{H:Hp}{kvs:List (List Key×V)}{xs:List (List Key×Addr×Value)}(r:KT H kvs xs)(k:List Key){b:Addr}{y:V}{u:Value}(hb:H b=some (.tup (k.map kV)))(ry:RelV y u):
  KT H (putK kvs k y) (storedH xs k b u):=by
 have e:(kvs.any fun kv=>decide (kv.1=k))=(atKey xs k).isSome:=by
  rw[Zfh,(r.val k).isSome_eq,Option.isSome_map]
 unfold putK storedH
 rw[e]
 by_cases q:(atKey xs k).isSome=true
 ·rw[if_pos q,if_pos q];exact r.repl k ry
 ·rw[if_neg q,if_neg q];exact Paired.snoc r ⟨rfl,hb,ry⟩
theorem KT.keeps{H H':Hp}{kvs:List (List Key×V)}{xs:List (List Key×Addr×Value)}(r:KT H kvs xs)(ht:∀b ys,H b=some (.tup ys)→H' b=some (.tup ys)):KT H' kvs xs:=
 Paired.mapP r fun _ _ z=>⟨z.1,ht _ _ z.2.1,z.2.2⟩
section
variable{P:Program}{w:World}{H:Hp}{h:Heap}{a:Addr}
theorem Zur{u:HO}(ok:HOk P w H h)(e:Rd H a u):Zaj P w H h a u:=e.ok ok
theorem Zfi{kvs:List (Key×V)}(ok:HOk P w H h)(e:RdK H a kvs):kvs.length≤sizeLine∧(a==sysModules)=false∧∃vs,KV kvs vs∧h.DictOf (Zp P w) a vs:=
 let⟨ep,e⟩:=e;let⟨z,y,vs,r,d⟩:=(show Zaj P w H h a (.dK kvs ep)from Zur ok e);⟨z,y,vs,r,d.dictOf⟩
theorem Zrf{kvs:List (Key×V)}(ok:HOk P w H h)(e:HK H a kvs):kvs.length≤sizeLine∧(a==sysModules)=false∧∃vs,KV kvs vs∧h.DictOf (Zp P w) a vs:=Zfi ok e.rd
theorem Zd3{ks:List Key}(ok:HOk P w H h)(e:H a=some (.tup (ks.map kV))):(tupleKind (Zp P w)).is h ks a:=by
 obtain⟨_,its,r,o,h1,h2,n,h3⟩:=(show Zaj P w H h a (.tup (ks.map kV))from ok a _ e)
 exact⟨o,its.toArray,n,h1,h2,h3,by simpa using Zgn r⟩
theorem Zht{kvs:List (List Key×V)}(ok:HOk P w H h)(e:RdT H a kvs):kvs.length≤sizeLine∧(a==sysModules)=false∧
  ∃xs,KT H kvs xs∧h.DictOfH (tupleKind (Zp P w)) a xs:=by
 obtain⟨ep,bs,e⟩:=e
 obtain⟨z,y,xs,r,o,es,h1,h2,h3,h4,h5,_⟩:=(show Zaj P w H h a (.dT kvs ep bs)from Zur ok e)
 refine⟨z,y,xs,r,o,es,ep,h1,h2,h3,h4,fun x hx=>?_,h5⟩
 have all:∀{l:List (List Key×V)} {m:List (List Key×Addr×Value)},KT H l m→∀x∈m,(tupleKind (Zp P w)).is h x.1 x.2.1:=by
  intro l m q
  induction q with
  |nil=>intro x hx;exact nomatch hx
  | @cons p q ps qs hq t ih=>
   intro x hx
   rcases List.mem_cons.mp hx with e|hx
   ·subst e
    exact Zd3 ok (by rw[←hq.1];exact hq.2.1)
   ·exact ih x hx
 exact all r x hx
theorem Zx0{kvs:List (List Key×V)}(ok:HOk P w H h)(e:HTt H a kvs):kvs.length≤sizeLine∧(a==sysModules)=false∧
  ∃xs,KT H kvs xs∧h.DictOfH (tupleKind (Zp P w)) a xs:=Zht ok e.rd
end
noncomputable def DGet(H:Hp)(a:Addr)(y:V)(r:Option V):Prop:=
 (∃kvs k,RdK H a kvs∧y=kV k∧r=valV kvs k)∨∃kvs k b,RdT H a kvs∧y= .ref b∧H b=some (.tup (k.map kV))∧r=valV kvs k
noncomputable def DPut(H:Hp)(a:Addr)(y v:V)(R:Hp→Prop):Prop:=
 (∃kvs k,HK H a kvs∧y=kV k∧kvs.length<sizeLine∧∀ep,R (upd H a (.dK (putK kvs k v) ep)))∨
 ∃kvs k b,HTt H a kvs∧y= .ref b∧H b=some (.tup (k.map kV))∧kvs.length<sizeLine∧∀ep ep0 bs,H a=some (.dT kvs ep0 bs)→R (upd H a (.dT (putK kvs k v) ep (putB kvs bs k b)))
theorem DGet.k{H:Hp}{a:Addr}{kvs:List (Key×V)}{k:Key}(e:HK H a kvs):DGet H a (kV k) (valV kvs k):=.inl ⟨kvs,k,e.rd,rfl,rfl⟩
theorem DGet.t{H:Hp}{a b:Addr}{kvs:List (List Key×V)}{k:List Key}(e:HTt H a kvs)(eb:H b=some (.tup (k.map kV))):DGet H a (.ref b) (valV kvs k):=.inr ⟨kvs,k,b,e.rd,rfl,eb,rfl⟩
theorem DPut.k{H:Hp}{a:Addr}{kvs:List (Key×V)}{k:Key}{v:V}{R:Hp→Prop}(e:HK H a kvs)(hl:kvs.length<sizeLine)(h:∀ep,R (upd H a (.dK (putK kvs k v) ep))):DPut H a (kV k) v R:=.inl ⟨kvs,k,e,rfl,hl,h⟩
theorem DPut.t{H:Hp}{a b:Addr}{kvs:List (List Key×V)}{k:List Key}{v:V}{R:Hp→Prop}(e:HTt H a kvs)(eb:H b=some (.tup (k.map kV)))(hl:kvs.length<sizeLine)(h:∀ep ep0 bs,H a=some (.dT kvs ep0 bs)→R (upd H a (.dT (putK kvs k v) ep (putB kvs bs k b)))):
  DPut H a (.ref b) v R:=.inr ⟨kvs,k,b,e,rfl,eb,hl,h⟩
section
variable{X:Cx}{pins:List (Addr×Obj)}{σ:St}{H:Hp}{s:Shared}{a:Addr}{y v:V}{u r:Value}{o:Option V}{A:Around}{E:Value→Shared→Prop}
theorem Inv.big(I:Inv X pins σ H s):sysModules<s.heap.objs.size:=by
 have h:mainGlobals<s.heap.objs.size:=(I.mod.glob.keeps I.bk).lt
 exact Nat.lt_trans (by decide) h
theorem Zlf{Q:Value→Shared→Prop}(hu:A.units+1<cLine)(I:Inv X pins σ H s)(g:DGet H a y (some v))(ry:RelV y u)(h:∀w' s',Inv X pins σ H s'→RelV v w'→Q w' s'):
  wpAny (model X.prog X.w) A (getItem (.ref a) u) Q E s:=by
 rcases g with⟨kvs,k,e,ey,l⟩|⟨kvs,k,b,e,ey,eb,l⟩
 ·subst ey
  obtain⟨z,hd,vs,rel,dd⟩:=Zfi I.hok e
  obtain⟨w',hw,rw'⟩:=RelO.some_of (v:=v) (o:=valueAt vs k) (by rw[l];exact rel.val k)
  exact wpAny_getItem_of (Zgm ry) dd.mapOf hw (h w' _ (I.tok _) rw')
 ·subst ey
  cases(show u=Value.ref b from ry)
  obtain⟨z,hd,xs,rel,dd⟩:=Zht I.hok e
  obtain⟨w',hw,rw'⟩:=RelO.some_of (v:=v) (o:=(atKey xs k).map (·.2)) (by rw[l];exact rel.val k)
  obtain⟨p,hp,hp2⟩:=Option.map_eq_some_iff.mp hw
  refine wpAny_getItem_heap (tupleKind_room_in1 hu) (Zd3 I.hok eb) dd hp ?_
  rw[hp2]
  exact h w' _ (I.tok _) rw'
theorem d_in{Q:Value→Shared→Prop}(hu:A.units+1<cLine)(I:Inv X pins σ H s)(g:DGet H a y o)(ry:RelV y u)(h:∀s',Inv X pins σ H s'→Q (.bool o.isSome) s'):
  wpAny (model X.prog X.w) A (compareOp .In u (.ref a)) Q E s:=by
 rcases g with⟨kvs,k,e,ey,l⟩|⟨kvs,k,b,e,ey,eb,l⟩
 ·subst ey
  obtain⟨z,hd,vs,rel,dd⟩:=Zfi I.hok e
  refine wpAny_in_of (Zgm ry) hd dd.mapOf ?_
  rw[←(rel.val k).isSome_eq,←l]
  exact h _ (I.tok _)
 ·subst ey
  cases(show u=Value.ref b from ry)
  obtain⟨z,hd,xs,rel,dd⟩:=Zht I.hok e
  refine wpAny_in_heap (tupleKind_room_in1 hu) (Zd3 I.hok eb) hd dd ?_
  have q:=(rel.val k).isSome_eq
  rw[Option.isSome_map]at q
  rw[←q,←l]
  exact h _ (I.tok _)
theorem Zrg{Q:Value→Shared→Prop}(hu:A.units+1<cLine)(I:Inv X pins σ H s)(g:DGet H a y o)(ry:RelV y u)(h:∀s',Inv X pins σ H s'→Q (.bool (!o.isSome)) s'):
  wpAny (model X.prog X.w) A (compareOp .NotIn u (.ref a)) Q E s:=by
 rcases g with⟨kvs,k,e,ey,l⟩|⟨kvs,k,b,e,ey,eb,l⟩
 ·subst ey
  obtain⟨z,hd,vs,rel,dd⟩:=Zfi I.hok e
  refine wpAny_notIn_of (Zgm ry) hd dd.mapOf ?_
  rw[←(rel.val k).isSome_eq,←l]
  exact h _ (I.tok _)
 ·subst ey
  cases(show u=Value.ref b from ry)
  obtain⟨z,hd,xs,rel,dd⟩:=Zht I.hok e
  refine wpAny_notIn_heap (tupleKind_room_in1 hu) (Zd3 I.hok eb) hd dd ?_
  have q:=(rel.val k).isSome_eq
  rw[Option.isSome_map]at q
  rw[←q,←l]
  exact h _ (I.tok _)
theorem Zhu{h':Heap}{t':Nat}{ob:HO}(I:Inv X pins σ H s)(mu:Mut (H a))(hs:Heap.SameBut a s.heap h')(he:∃q,h'.get? a=some q)(new:Zaj X.prog X.w (upd H a ob) h' a ob):
  Inv X pins σ (upd H a ob) {s with heap:=h',toks:=t'}:=
 I.write (x:=a) (e:=a) mu (.inl rfl) (fun b q hb z=>(hs.2 b hb).trans z) he new
theorem Zps{P:Program}{w:World}{h':Heap}{kvs:List (Key×V)}{vs:List (Key×Value)}(z:kvs.length≤sizeLine)(hd:(a==sysModules)=false)(rel:KV kvs vs)(dd:h'.DictOf (Zp P w) a vs):
  ∃ep,∀H':Hp,Zaj P w H' h' a (.dK kvs ep):=let⟨ep,dd⟩:=dd.dictAt;⟨ep,fun _=>⟨z,hd,vs,rel,dd⟩⟩
theorem Zlg{R:Hp→Prop}{Q:Unit→Shared→Prop}(hu:A.units+1<cLine)(I:Inv X pins σ H s)(g:DPut H a y v R)(ry:RelV y u)(rv:RelV v r)(h:∀H' s',R H'→Inv X pins σ H' s'→Q () s'):
  wpAny (model X.prog X.w) A (setItem (.ref a) u r) Q E s:=by
 rcases g with⟨kvs,k,e,ey,l,eH⟩|⟨kvs,k,b,e,ey,eb,l,eH⟩
 ·subst ey
  obtain⟨z,hd,vs,rel,dd⟩:=Zrf I.hok e
  have hz:vs.length≤sizeLine:=by rw[←rel.length];exact z
  have hl:(putK kvs k v).length≤sizeLine:=by have:=Zcl kvs k v;omega
  refine wpAny_setItem_pairs (hsz:=hz) (Zgm ry) dd fun h' dd' hs=>?_
  have he:∃q,h'.get? a=some q:=let⟨q,_,_,hq,_⟩:=dd';⟨q,hq⟩
  obtain⟨ep,ok⟩:=Zps hl hd (rel.put k rv) dd'
  exact h _ _ (eH ep) (Zhu I (by obtain⟨e0,e⟩:=e;rw[e];exact True.intro) hs he (ok _))
 ·subst ey
  cases(show u=Value.ref b from ry)
  obtain⟨z,hd,xs,rel,dd⟩:=Zx0 I.hok e
  have hz:xs.length≤sizeLine:=by rw[←Paired.length rel];exact z
  have hl:(putK kvs k v).length≤sizeLine:=by have:=Zcl kvs k v;omega
  refine wpAny_setItem_heap (hsz:=hz) (tupleKind_room_in1 hu) (Zd3 I.hok eb) dd fun h' dd' hs=>?_
  obtain⟨q,es,ep,hq,h2,h3,h4,_,h5⟩:=dd'
  obtain⟨e0,bs,e⟩:=e
  have hb:(xs.map fun x=>x.2.1)=bs:=by
   obtain⟨_,_,xs',r',_,_,w1,_,w3,w4,_,w6⟩:=(show Zaj X.prog X.w H s.heap a (.dT kvs e0 bs)from I.hok a _ e)
   obtain⟨_,_,_,y1,_,y3,y4,_⟩:=dd
   rw[w1]at y1;cases y1
   rw[w3]at y3;cases y3
   have:xs'.map (fun x=>x.2.1)=xs.map fun x=>x.2.1:=by
    have z:=congrArg (List.map DictEntry.key) (w4.symm.trans y4)
    rw[List.map_map,List.map_map]at z
    have inj:∀{l m:List (List Key×Addr×Value)},l.map (DictEntry.key∘entryOfKey (tupleKind (Zp X.prog X.w)))=m.map (DictEntry.key∘entryOfKey (tupleKind (Zp X.prog X.w)))→(l.map fun x=>x.2.1)=m.map fun x=>x.2.1:=by
     intro l
     induction l with
     |nil=>intro m z;cases m with
      |nil=>rfl
      |cons _ _=>cases z
     |cons x l ih=>intro m z;cases m with
      |nil=>cases z
      |cons y m=>
       rw[List.map_cons,List.map_cons]at z⊢
       injection z with z1 z2
       have z1':Value.ref x.2.1=Value.ref y.2.1:=z1
       injection z1' with z1'
       rw[z1',ih z2]
    exact inj z
   rw[←this];exact w6
  have hb2:((storedH xs k b r).map fun x=>x.2.1)=putB kvs bs k b:=by
   have ee:(kvs.any fun kv=>decide (kv.1=k))=(atKey xs k).isSome:=by
    rw[Zfh,(rel.val k).isSome_eq,Option.isSome_map]
   unfold putB storedH
   rw[ee]
   by_cases qq:(atKey xs k).isSome=true
   ·rw[if_pos qq,if_pos qq,List.map_map,←hb]
    refine List.map_congr_left fun x _=>?_
    show(putAt k r x).2.1=x.2.1
    unfold putAt
    split<;> rfl
   ·rw[if_neg qq,if_neg qq,List.map_append,hb];rfl
  refine h _ _ (eH ep e0 bs e) (Zhu I (by rw[e];exact True.intro) hs ⟨q,hq⟩ ⟨hl,hd,_,(rel.put k eb rv).keeps fun c ys ec=>?_,q,es,hq,h2,h3,h4,h5,hb2⟩)
  rw[Zm (Zxn ec e (fun z=>nomatch z))]
  exact ec
end
section
variable{X:Cx}{pins:List (Addr×Obj)}{σ:St}{H:Hp}{s:Shared}{a:Addr}{kvs:List (Key×V)}{k:Key}{u:Value}{A:Around}{E:Value→Shared→Prop}
end
noncomputable def NoSl(i:Expr):Prop:=∀ov iv,subscripted i false ov iv=operate [ov,iv] (getItem ov iv)
theorem Zrh{prog:Program}{w:World}{A:Around}{E:Value→Shared→Prop}{s:Shared}{env:Env}{value slice:Expr}{pos:Pos}{T id:String}{Q:Value→Shared→Prop}
  (hl:typeLookup (.type T) "__getitem__"=pure (some (.builtin id))) (hs:NoSl slice)
  (h:wpAny (model prog w) A (eval value env) (fun o s₁=>wpAny (model prog w) A (eval slice env) (fun i s₂=>s₂.TypeIs o T∧wpAny (model prog w) A (getItem o i) Q E s₂) E s₁) E s):
  wpAny (model prog w) A (eval (.Subscript value slice pos) env) Q E s:=by
 refine Subscript_ (wpAny_mono h (fun o s₁ h₁=>wpAny_mono h₁ (fun i s₂ h₂=>?_) fun _ _ x=>x) fun _ _ x=>x)
 obtain⟨hT,h₂⟩:=h₂
 unfold subscriptTail
 refine wpAny_bind ?_
 rw[getitemInPython_of_ne hT.not_modules]
 refine wpAny_bind (wpAny_specialOf hT hl ?_)
 have fin:wpAny (model prog w) A (subscripted slice false o i) (fun r s₃=>wpAny (model prog w) A (letTemporaryGo value o r >>=fun _=>pure r) Q E s₃) E s₂:=by
  rw[hs o i]
  exact wpAny_operating (wpAny_mono h₂ (fun r s₃ h₃=>wpAny_bind (wpAny_letTemporaryGo (wpAny_pure h₃))) fun _ _ x=>x)
 first
  |exact wpAny_pure (wpAny_bind fin)
  |exact wpAny_bind (wpAny_pure (wpAny_bind fin))
  |exact wpAny_bind fin
theorem Zhv{X:Cx}{pins:List (Addr×Obj)}{σ:St}{H:Hp}{s:Shared}{a:Addr}{y:V}{o:Option V}(I:Inv X pins σ H s)(g:DGet H a y o):s.TypeIs (.ref a) "dict":=by
 rcases g with⟨kvs,k,e,_,_⟩|⟨kvs,k,b,e,_,_,_⟩
 ·obtain⟨_,_,vs,_,dd⟩:=Zfi I.hok e
  exact dd.typeIs
 ·obtain⟨_,_,xs,_,dd⟩:=Zht I.hok e
  exact dd.typeIs
noncomputable def Zus(td ty:TE):TE:=fun σ H Q=>td σ H fun x H1=>ty σ H1 fun y H2=>∃a v,x= .ref a∧DGet H2 a y (some v)∧Q v H2
noncomputable def tDIn(ty td:TE):TE:=fun σ H Q=>ty σ H fun y H1=>td σ H1 fun x H2=>∃a o,x= .ref a∧DGet H2 a y o∧Q (.bl o.isSome) H2
noncomputable def Zx1(ty td:TE):TE:=fun σ H Q=>ty σ H fun y H1=>td σ H1 fun x H2=>∃a o,x= .ref a∧DGet H2 a y o∧Q (.bl (!o.isSome)) H2
noncomputable def Zut(td ty tv:TE):TS:=fun D σ H=>tv σ H fun v H1=>td σ H1 fun x H2=>ty σ H2 fun y H3=>∃a,x= .ref a∧DPut H3 a y v (D.nx σ)
noncomputable def Z1y(td ty tv:TE)(rd:V→V→Hp→VK→Prop):TS:=fun D σ H=>td σ H fun x H1=>ty σ H1 fun y H2=>∃a v,x= .ref a∧DGet H2 a y (some v)∧
 tv σ H2 fun y2 H3=>rd v y2 H3 fun z H4=>DPut H4 a y z (D.nx σ)
noncomputable def Z1z(td ty:TE):TS:=fun D σ H=>td σ H fun x H1=>ty σ H1 fun y H2=>∃a kvs k,x= .ref a∧HK H2 a kvs∧y=kV k∧(valV kvs k).isSome=true∧∀ep,D.nx σ (upd H2 a (.dK (Zre kvs k) ep))
section
variable{X:Cx}{o i e value:Expr}{pos pos' tpos:Pos}{td ty tv:TE}
theorem Zri(hu:X.A.units+1<cLine)(ho:PE X o td)(hi:PE X i ty)(hs:NoSl i):PE X (.Subscript o i pos) (Zus td ty):=by
 intro pins s σ H Q I h
 refine Zrh PySem.F.slot_dict_getitem.lookup hs (thn (ho pins s σ H _ I h) fun u s1 ⟨x,H1,I1,rx,q1⟩=>thn (hi pins s1 σ H1 _ I1 q1) fun iv s2 zq9=>?_)
 obtain⟨y,H2,I2,ry,a,v,ex,g,q2⟩:=zq9
 subst ex
 obtain rfl:u=Value.ref a:=rx
 exact⟨Zhv I2 g,Zlf hu I2 g ry fun w' s3 I3 rw'=>⟨v,H2,I3,rw',q2⟩⟩
theorem Zrj(hu:X.A.units+1<cLine)(ho:PE X o td)(hi:PE X i ty)(hv:PE X value tv)(hs:swapsWith value (some (.Subscript o i pos')) pos.line X.env=pure false):
  PS X (.Assign [.Subscript o i pos'] value pos) (Zut td ty tv):=by
 intro pins s σ H D I h
 refine wpAny_Assign_Subscript (thn (hv pins s σ H _ I h) fun r s1 ⟨v,H1,I1,rv,q1⟩=>thn (ho pins s1 σ H1 _ I1 q1) fun u s2 ⟨x,H2,I2,rx,q2⟩=>thn (hi pins s2 σ H2 _ I2 q2) fun iv s3 ⟨y,H3,I3,ry,a,ex,g⟩=>?_) hs
 subst ex
 obtain rfl:u=Value.ref a:=rx
 exact Zlg hu I3 g ry rv fun H4 s4 q3 I4=>⟨σ,H4,I4,q3⟩
end
theorem Zit{P:Program}{w:World}{H:Hp}(h:Heap)(hb:sysModules<h.objs.size):Zaj P w H (h.push {cls:=.type "dict",data:=.dict #[]}) h.objs.size (.dK [] 0):=
 ⟨Nat.zero_le _,beq_eq_false_iff_ne.mpr (Ne.symm (Nat.ne_of_lt hb)),[],.nil,_, #[],Heap.get?_push_size _ rfl,⟨rfl,rfl,rfl⟩,rfl,fun _ he=>by simp at he,Pairs.nil,List.nodup_nil⟩
theorem Zn9{P:Program}{w:World}{H:Hp}(h:Heap)(hb:sysModules<h.objs.size):Zaj P w H (h.push {cls:=.type "dict",data:=.dict #[]}) h.objs.size (.dT [] 0 []):=
 ⟨Nat.zero_le _,beq_eq_false_iff_ne.mpr (Ne.symm (Nat.ne_of_lt hb)),[],.nil,_, #[],Heap.get?_push_size _ rfl,⟨rfl,rfl,rfl⟩,rfl,rfl,List.nodup_nil,rfl⟩
noncomputable def Zpt:TE:=fun _ H Q=>∀p,H p=none→Q (.ref p) (upd H p (.dK [] 0))
noncomputable def Zpu:TE:=fun _ H Q=>∀p,H p=none→Q (.ref p) (upd H p (.dT [] 0 []))
section
variable{X:Cx}{pos:Pos}
theorem Zoa:PE X (.Dict [] [] pos) Zpt:=fun pins s σ H Q I h=>
 wpAny_Dict_empty ⟨.ref s.heap.objs.size,_,I.laid (a:=s.heap.objs.size) (o:=.dK [] 0) (t':=s.toks) (fun _ _ q=>Heap.get?_push_of_some _ q) (Nat.le_refl _) (Zit s.heap I.big),rfl,h _ (I.hok.fresh (Nat.le_refl _))⟩
theorem Zob:PE X (.Dict [] [] pos) Zpu:=fun pins s σ H Q I h=>
 wpAny_Dict_empty ⟨.ref s.heap.objs.size,_,I.laid (a:=s.heap.objs.size) (o:=.dT [] 0 []) (t':=s.toks) (fun _ _ q=>Heap.get?_push_of_some _ q) (Nat.le_refl _) (Zn9 s.heap I.big),rfl,h _ (I.hok.fresh (Nat.le_refl _))⟩
end
noncomputable def Zgo:List (TE×TE)→St→Hp→(List (V×V)→Hp→Prop)→Prop
  | [],_,H,Q=>Q [] H
  | (tk,tv)::r,σ,H,Q=>tk σ H fun x H1=>tv σ H1 fun y H2=>Zgo r σ H2 fun ps H3=>Q ((x,y)::ps) H3
noncomputable abbrev VV:List (V×V)→List (Value×Value)→Prop:=Paired fun p q=>RelV p.1 q.1∧RelV p.2 q.2
noncomputable def PPs(X:Cx)(pos:Pos)(keys:List (Option Expr))(values:List Expr)(trs:List (TE×TE)):Prop:=
 ∀(pins:List (Addr×Obj)) (s:Shared) (σ:St) (H:Hp) (Q:List (V×V)→Hp→Prop),Inv X pins σ H s→Zgo trs σ H Q→
  wpAny (model X.prog X.w) X.A (evalPairs (pairTrees keys values X.env pos)) (fun vs s'=>∃ps H',Inv X pins σ H' s'∧VV ps vs∧Q ps H') X.xe s
theorem Zrk{X:Cx}{pos:Pos}:PPs X pos [] [] []:=fun pins s σ H Q I h=>pairTrees_nil_walk ⟨[],H,I,.nil,h⟩
theorem Zoc{X:Cx}{pos:Pos}{k v:Expr}{ks:List (Option Expr)}{vs:List Expr}{tk tv:TE}{trs:List (TE×TE)}(hk:PE X k tk)(hv:PE X v tv)(hr:PPs X pos ks vs trs):
  PPs X pos (some k::ks) (v::vs) ((tk,tv)::trs):=fun pins s σ H Q I h=>
 pairTrees_cons_walk (thn (hk pins s σ H _ I h) fun u s1 ⟨x,H1,I1,rx,q1⟩=>thn (hv pins s1 σ H1 _ I1 q1) fun w2 s2 ⟨y,H2,I2,ry,q2⟩=>
  thn (hr pins s2 σ H2 _ I2 q2) fun ws s3 ⟨ps,H3,I3,rel,q3⟩=>⟨(x,y)::ps,H3,I3,.cons ⟨rx,ry⟩ rel,q3⟩)
noncomputable def Zcv(kvs more:List (Key×V)):List (Key×V):=more.foldl (fun acc kv=>putK acc kv.1 kv.2) kvs
theorem KV.merge:∀{more:List (Key×V)} {rs:List (Key×Value)} {kvs:List (Key×V)} {vs:List (Key×Value)},KV more rs→KV kvs vs→KV (Zcv kvs more) (merged vs rs):=by
 intro more rs kvs vs r
 unfold KV at r
 induction r generalizing kvs vs with
 |nil=>intro q;exact q
 | @cons p q ps qs h t ih=>
  intro r0
  have e:KV (putK kvs p.1 p.2) (stored vs q.1 q.2):=by
   have:=r0.put p.1 h.2
   rw[←h.1];exact this
  exact ih e
theorem Zcw:∀(more kvs:List (Key×V)),(Zcv kvs more).length≤kvs.length+more.length
 | [],kvs=>by show kvs.length≤kvs.length+0;omega
 |p::r,kvs=>by
  have h1:=Zcw r (putK kvs p.1 p.2)
  have h2:=Zcl kvs p.1 p.2
  show(Zcv (putK kvs p.1 p.2) r).length≤_
  rw[List.length_cons];omega
theorem Zev{P:Program}{w:World}:∀{kvs:List (Key×V)} {ws:List (Value×Value)},VV (kvs.map fun kv=>(kV kv.1,kv.2)) ws→∃rs,Carries (Zp P w) ws rs∧KV kvs rs
 | [],_,r=>by rw[List.map_nil]at r;cases r;exact⟨[],True.intro,.nil⟩
 |p::kvs,_,r=>by
  rw[List.map_cons]at r
  cases r with
  | @cons a b as bs h t=>
   obtain⟨rs,c,q⟩:=Zev (P:=P) (w:=w) t
   obtain⟨b1,b2⟩:=b
   exact⟨(p.1,b2)::rs,⟨Zgm h.1,rfl,c⟩,.cons ⟨rfl,h.2⟩ q⟩
noncomputable def Z10(trs:List (TE×TE)):TE:=fun σ H Q=>∀p,H p=none→Zgo trs σ (upd H p (.dK [] 0)) fun ps H2=>H2 p=some (.dK [] 0)∧∃kvs:List (Key×V),ps=kvs.map (fun kv=>(kV kv.1,kv.2))∧kvs.length≤15∧∀ep,Q (.ref p) (upd H2 p (.dK (Zcv [] kvs) ep))
structure M1(X:Cx)(o:Expr)(m:Str)(apos:Pos)(e:Expr)(cpos:Pos):Prop where
 base:attributeBase o m X.env (eval o X.env)=eval o X.env
 few:((backTo cpos (starEach [e] X.env)).all (fun x=>!x.1)&&(backToKw cpos (keywordEach [] X.env)).all (fun x=>x.1.isSome)
  &&decide (([e]:List Expr).length+([]:List Keyword).length+(if([]:List Keyword).isEmpty then 0 else 1)<30))=true
 line:(apos.endLine==cpos.line)=true
 trees:backTo cpos (starEach [e] X.env)=[(false,eval e X.env)]
structure M2(X:Cx)(o:Expr)(m:Str)(apos:Pos)(e f:Expr)(cpos:Pos):Prop where
 base:attributeBase o m X.env (eval o X.env)=eval o X.env
 few:((backTo cpos (starEach [e,f] X.env)).all (fun x=>!x.1)&&(backToKw cpos (keywordEach [] X.env)).all (fun x=>x.1.isSome)
  &&decide (([e,f]:List Expr).length+([]:List Keyword).length+(if([]:List Keyword).isEmpty then 0 else 1)<30))=true
 line:(apos.endLine==cpos.line)=true
 trees:backTo cpos (starEach [e,f] X.env)=[(false,eval e X.env),(false,eval f X.env)]
noncomputable def IsD(H:Hp)(a:Addr):Prop:=(∃kvs,RdK H a kvs)∨∃kvs,RdT H a kvs
section
variable{X:Cx}{pins:List (Addr×Obj)}{σ:St}{H:Hp}{s:Shared}{a:Addr}{y d:V}{u r:Value}{o:Option V}{A:Around}{E:Value→Shared→Prop}
theorem Zuu{Q:Value→Shared→Prop}(hu:A.units+1<cLine)(I:Inv X pins σ H s)(g:DGet H a y o)(ry:RelV y u)(h:∀w' s',Inv X pins σ H s'→RelV (o.getD .non) w'→Q w' s'):
  wpAny (model X.prog X.w) A (call (.builtin "dict.get") [.ref a,u]) Q E s:=by
 rcases g with⟨kvs,k,e,ey,l⟩|⟨kvs,k,b,e,ey,eb,l⟩
 ·subst ey
  obtain⟨z,hd,vs,rel,dd⟩:=Zfi I.hok e
  refine call_meetsIn PySem.F.slot_dict_get dd.typeIs PySem.F.entry_dict_get (PySem.F.args_dict_get_2 _ _) (meets_dict_get (Zp X.prog X.w) a (Zgm ry) hd) ⟨_,dd.mapOf,h _ _ (I.tok _) ?_⟩
  rw[l]
  exact(rel.val k).getD rfl
 ·subst ey
  cases(show u=Value.ref b from ry)
  obtain⟨z,hd,xs,rel,dd⟩:=Zht I.hok e
  refine call_meetsIn PySem.F.slot_dict_get dd.typeIs PySem.F.entry_dict_get (PySem.F.args_dict_get_2 _ _) (meetsH_dict_get (tupleKind (Zp X.prog X.w)) a b hd) ⟨tupleKind_room_in1 hu,k,xs,Zd3 I.hok eb,dd,h _ _ (I.tok _) ?_⟩
  rw[l]
  exact(rel.val k).getD rfl
theorem Zuv{Q:Value→Shared→Prop}(hu:A.units+1<cLine)(I:Inv X pins σ H s)(g:DGet H a y o)(ry:RelV y u)(rd:RelV d r)(h:∀w' s',Inv X pins σ H s'→RelV (o.getD d) w'→Q w' s'):
  wpAny (model X.prog X.w) A (call (.builtin "dict.get") [.ref a,u,r]) Q E s:=by
 rcases g with⟨kvs,k,e,ey,l⟩|⟨kvs,k,b,e,ey,eb,l⟩
 ·subst ey
  obtain⟨z,hd,vs,rel,dd⟩:=Zfi I.hok e
  refine call_meetsIn PySem.F.slot_dict_get dd.typeIs PySem.F.entry_dict_get (PySem.F.args_dict_get_3 _ _ _) (meets_dict_get_default (Zp X.prog X.w) a (Zgm ry) hd r) ⟨_,dd.mapOf,h _ _ (I.tok _) ?_⟩
  rw[l]
  exact(rel.val k).getD rd
 ·subst ey
  cases(show u=Value.ref b from ry)
  obtain⟨z,hd,xs,rel,dd⟩:=Zht I.hok e
  refine call_meetsIn PySem.F.slot_dict_get dd.typeIs PySem.F.entry_dict_get (PySem.F.args_dict_get_3 _ _ _) (meetsH_dict_get_default (tupleKind (Zp X.prog X.w)) a b hd r) ⟨tupleKind_room_in1 hu,k,xs,Zd3 I.hok eb,dd,h _ _ (I.tok _) ?_⟩
  rw[l]
  exact(rel.val k).getD rd
end
noncomputable def Z0c(td ty:TE):TE:=fun σ H Q=>td σ H fun x H1=>∃a,x= .ref a∧IsD H1 a∧ty σ H1 fun y H2=>∃o,DGet H2 a y o∧Q (o.getD .non) H2
noncomputable def Z0d(td ty tx:TE):TE:=fun σ H Q=>td σ H fun x H1=>∃a,x= .ref a∧IsD H1 a∧ty σ H1 fun y H2=>tx σ H2 fun z H3=>∃o,DGet H3 a y o∧Q (o.getD z) H3
noncomputable def Z0e(td ty:TE):TE:=fun σ H Q=>td σ H fun x H1=>∃a,x= .ref a∧IsD H1 a∧ty σ H1 fun y H2=>∃kvs k v,HK H2 a kvs∧y=kV k∧valV kvs k=some v∧∀ep,Q v (upd H2 a (.dK (Zre kvs k) ep))
noncomputable def Z0f(td ty tx:TE):TE:=fun σ H Q=>td σ H fun x H1=>∃a,x= .ref a∧IsD H1 a∧ty σ H1 fun y H2=>tx σ H2 fun z H3=>∃kvs k,HK H3 a kvs∧y=kV k∧
 (∀v ep,valV kvs k=some v→Q v (upd H3 a (.dK (Zre kvs k) ep)))∧(valV kvs k=none→Q z H3)
section
variable{X:Cx}{o e f:Expr}{apos cpos:Pos}{td ty tx:TE}
end
section
variable{X:Cx}{pins:List (Addr×Obj)}{σ:St}{H:Hp}{s:Shared}{a:Addr}{kvs:List (Key×V)}{A:Around}{E:Value→Shared→Prop}
end
section
variable{X:Cx}{pins:List (Addr×Obj)}{σ:St}{H:Hp}{s:Shared}{a:Addr}{y:V}{u:Value}{A:Around}{E:Value→Shared→Prop}
end
end L2
namespace Att
open PySem PySem.W PySem.Calls PyProof.Rows
theorem Zd4{P:Params}{h:Heap}:∀(ns:List Int) (vs:List Value),WellAll P h vs (ns.map WData.int)→IntsAre vs ns:=by
 intro ns
 induction ns with
 |nil=>
  intro vs w
  rw[List.map_nil]at w
  cases w
  exact .nil
 |cons n ns ih=>
  intro vs w
  rw[List.map_cons]at w
  cases w with
  |cons a b=>
   cases a
   exact .cons _ _ (ih _ b)
theorem Zlh{l:OpenLaw}{n:Nat}(hn:l.most=some n){P:Params}{h:Heap}{args:List WData}{vals:List Value}
  (hpre:l.row.toRowW.claim.pre args=true) (hwl:WellAll P h vals args):
  ∃a vs ns,vals=[Value.ref a]∧args=[WData.list (ns.map WData.int)]∧h.get? a=some {cls:=.type "list",data:=.seq vs.toArray}∧IntsAre vs ns∧ns.length≤n:=by
 have hsh:WShape.hasAll [] args [.list .int]=true:=(pre_splitW hpre).1
 have hc:l.pre.holds [] {args:=args}=true:=(pre_splitW hpre).2
 obtain⟨d,r,rfl,h1,h2⟩:=hasAllW_cons hsh
 obtain rfl:=hasAllW_nil h2
 obtain⟨xs,rfl,h3⟩:=hasW_list h1
 obtain⟨ns,rfl⟩:=items_int h3
 have hlen:ns.length≤n:=by
  unfold OpenLaw.pre at hc
  have h4:(WTm.not (.lt (.lit (.int (n:Int))) (.len (.arg 0)))).holds [] {args:=[.list (ns.map .int)]}=true:=by
   have h4:=(holds_andW hc).1
   rw[hn]at h4
   exact h4
  have h5:=condW_of h4 (w_not (w_lt w_lit (w_len_list (w_arg rfl))))
  rw[List.length_map]at h5
  refine Nat.le_of_not_lt fun q=>?_
  have q':(n:Int)<((ns.length:Nat):Int):=by omega
  first
   | (rw[decide_eq_true q']at h5;exact absurd h5 (by decide))
   | (simp at h5;omega)
 cases hwl with
 |cons w1 w2=>
  cases w2
  cases w1 with
  |list ho hall=>exact⟨_,_,ns,rfl,rfl,ho,Zd4 ns _ hall,hlen⟩
theorem Zli(l:OpenLaw)(args:List WData):l.row.toRowW.claim.post args (.bool true) args=true:=
 postW_of (r:=l.row.toRowW) (X:=(true==true))
  (show WShape.has [] (.bool true) .bool=true by first|rfl|decide|simp[WShape.has,WShape.arms,WShape.armsAll])
  (show(WTm.eq .res (.lit (.bool true))).value [] {args:=args,res:=some (.bool true),after:=args}=some (.bool (true==true))from w_eq_bool (w_res rfl) w_lit) rfl
theorem attach_call{l:OpenLaw}{n:Nat}{q:Program}{loose:List Str}{XP:(Str→Option Value)→Heap→Prop}{YP:World→Heap→Prop}{d:DefRec}
  (hn:l.most=some n) (hdf:d.params.defaults=[])
  (call:∀(w:World) (s₀ s₁:Shared) (mg mb:Str→Option Value) (fa:Addr) (o:Obj) (pm cd doc:Value) (a:Addr) (vs:List Value) (ns:List Int),
   Ground q loose [] XP w s₀ mg mb s₁.heap→YP w s₁.heap→
   s₁.heap.get? fa=some o→o.data= .func (docDef d.name d.params d.body d.scope pm cd doc)→s₁.heap.CodeRec cd d.name→mg d.name=some (.ref fa)→
   s₁.heap.get? a=some {cls:=.type "list",data:=.seq vs.toArray}→IntsAre vs ns→ns.length≤n→s₁.gens= #[]→
   codeAny (model l.prog w) callerA (.call (.ref fa) ⟨[.ref a],[]⟩) (fun r s'=>r= .ok (.ret (.bool true))∧OldK s₁.heap s'.heap∧s'.os=s₁.os∧AllBare s'.gens) s₁):
  WalkO q loose XP YP l.row.toRowW d [] (fun f vs=>PySem.call f vs):=by
 intro w s₀ s₁ mg mb G Y fa o pm cd doc dV kV ho hd hcd hD hmg hg args vals as hpre hlay hrd hwl hlo
 obtain rfl:dV= .none:=Dflts.none hD hdf
 obtain rfl:kV= .none:=Dflts.noKw hD
 obtain⟨a,vs,ns,rfl,rfl,hobj,hints,hlen⟩:=Zlh hn hpre hwl
 refine enter_call (codeAny_mono (call w s₀ s₁ mg mb fa o pm cd doc a vs ns G Y ho (fd_plain hd) hcd hmg hobj hints hlen hg) fun r s' hq=>?_)
 obtain⟨rfl,h2,h3,h4⟩:=hq
 exact⟨.inl ⟨.bool true,.bool true,[],rfl,fun _=>rfl,.bool true,Zli l _,fun _=>⟨List.Pairwise.nil,fun _ hm=>(nomatch hm)⟩⟩,h2,h3,h4⟩
section
variable{prog:Program}{w:World}{A:Around}{E:Value→Shared→Prop}{s:Shared}{K:Frag}
noncomputable def Z0g(h:Heap):Heap:={h with objs:= #[]}
noncomputable def Z0h(h:Heap)(L d:Addr):List (Addr×Obj):=(List.range h.objs.size).filterMap fun a=>if a=L∨a=d then none else(h.get? a).map fun o=>(a,o)
end
end Att
namespace L2
open PySem PySem.Spec PyProof.Rows
theorem Zgp:∀{vs:List Value} {ns:List Int},IntsAre vs ns→Vals (ns.map V.int) vs
 |_,_,.nil=>.nil
 |_,_,.cons n t h=>.cons ⟨t,rfl⟩ (Zgp h)
noncomputable def Only(H:Hp):Prop:=∀b,H b=none∨∃o xs,H b=some (.frz o (.lst xs))
end L2
namespace L2
open PySem PySem.Spec PyProof.Rows
noncomputable abbrev KOf{K:PySem.W.Frag}{h:Heap}(_:K.In h):PySem.W.Frag:=K
end L2
namespace L2
open PySem PySem.Spec PyProof.Rows
noncomputable def Zx2(s:Stmt)(j:Nat):Stmt:=match s with
 | .ClassDef _ _ _ body _ _ _ _ _ _ _=>body.getD j (.Pass ⟨0,0,0,0⟩)
 |_=>.Pass ⟨0,0,0,0⟩
noncomputable def Zbq(s:Stmt):Arguments:=match s with
 | .FunctionDef _ a _ _ _ _ _ _ _ _=>a
 |_=>{posonlyargs:=[],args:=[],vararg:=none,kwonlyargs:=[],kw_defaults:=[],kwarg:=none,defaults:=[]}
noncomputable def Zak(s:Stmt):List Stmt:=match s with
 | .FunctionDef _ _ b _ _ _ _ _ _ _=>b
 |_=>[]
noncomputable def Zg(s:Stmt):Scope:=match s with
 | .FunctionDef _ _ _ _ _ _ sc _ _ _=>sc
 |_=>{kind:=.function,names:=[],isGenerator:=false,isCoroutine:=false}
noncomputable abbrev CX0:CXT:=fun _ _ _ _ _ _=>False
noncomputable abbrev E0:XK:=fun _ _ _=>False
theorem Zuw{X:Cx}:Zk8 CX0 X E0:=fun _ _ _ _ _ _ _ h=>h.elim
structure Fun(K:PySem.W.Frag)(x qual:Str)(st:Stmt)(f:Addr)(fd:FuncData):Prop where
 ex:∃(oc:Value) (od:Option Addr) (kV doc pm:Value) (an:Option Addr) (cdv ct:Value) (osl:Array (Option Value)),
  fd=PySem.W.fnOf x qual (Zbq st) (Zak st) (Zg st) .none kV doc pm an cdv ct∧K.lookup f=some ⟨oc,od,.func fd,osl⟩∧PySem.W.codeIn K cdv qual=true
 kp:PySem.W.keepIn K (.ref f)=true
section
variable{P:Program}{w:World}{K:PySem.W.Frag}{mg:Str→Option Value}{base:Heap}
theorem Fun.ok{x qual:Str}{st:Stmt}{f:Addr}{fd:FuncData}{N ps:List Str}{k:Nat}{sp:Sp}(F:Fun K x qual st f fd)(S:FnScope N ps (Zg st))(len:∀vs H Q E,sp vs H Q E→vs.length=ps.length)
  (hbody:∀(cdv:Value) (A:Around) (outer:List Env) (s:Shared) (H:Hp) (vs:List V) (Q:VK) (E:XK),Room k (A.deeper (envOfC qual (Zg st) s.heap.objs.size f cdv))→sp vs H Q E→
   ∃t,PSs (cxOf CX0 P w K mg base N qual (Zg st) f cdv A outer s H E).nox (Zak st) t∧t {nx:=fun _ H'=>Q .non H',rt:=Q} (Zdb N vs) H):FnOk P w K mg base CX0 (k+1) f fd ps sp:=by
 obtain⟨oc,od,kV,doc,pm,an,cdv,ct,osl,rfl,lk,hcd⟩:=F.ex
 refine Zuk lk hcd S len fun A outer s H vs Q E hr hsp=>?_
 obtain⟨t,h,q⟩:=hbody cdv A outer s H vs Q E hr hsp
 exact⟨t,h.nox,q⟩
theorem Fun.binds{x qual:Str}{st:Stmt}{f:Addr}{fd:FuncData}{ps:List Str}(F:Fun K x qual st f fd)
  (h:∀(kV doc pm:Value) (an:Option Addr) (cdv ct:Value) (us:List Value),us.length=ps.length→bindArgs (PySem.W.fnOf x qual (Zbq st) (Zak st) (Zg st) .none kV doc pm an cdv ct) ⟨us,[]⟩=pure (ps.zip us)):Zbb K fd ps []:=by
 obtain⟨oc,od,kV,doc,pm,an,cdv,ct,osl,rfl,lk,hcd⟩:=F.ex
 exact .all (h kV doc pm an cdv ct)
theorem Zbz{x qual:Str}{st:Stmt}{f:Addr}{oc:Value}{od an:Option Addr}{osl:Array (Option Value)}{kV doc pm cdv ct:Value}(l:K.lookup f=some ⟨oc,od,.func (PySem.W.fnOf x qual (Zbq st) (Zak st) (Zg st) .none kV doc pm an cdv ct),osl⟩)
  (c:PySem.W.codeIn K cdv qual=true) (k:PySem.W.keepIn K (.ref f)=true):Fun K x qual st f (PySem.W.fnOf x qual (Zbq st) (Zak st) (Zg st) .none kV doc pm an cdv ct):=⟨⟨oc,od,kV,doc,pm,an,cdv,ct,osl,rfl,l,c⟩,k⟩
end
theorem Zrl{A:Around}{k:Nat}(hr:Room k A):A.units+1<cLine:=Nat.lt_of_le_of_lt (Nat.add_le_add_left (by decide:1≤64) _) hr.units
section
variable{X:Cx}
end
noncomputable def Same(H H':Hp):Prop:=∀b o,H b=some o→H' b=some o
theorem Same.refl(H:Hp):Same H H:=fun _ _ h=>h
theorem Same.trans{H H1 H2:Hp}(a:Same H H1)(b:Same H1 H2):Same H H2:=fun c o h=>b c o (a c o h)
theorem Same.free{H H':Hp}(e:Same H H'){l:Addr}(h:H' l=Option.none):H l=Option.none:=by
 cases q:H l with
 |none=>rfl
 |some o=>
  rw[e l o q]at h
  cases h
section
variable{κ:Type}[DecidableEq κ]
end
end L2
namespace L2
open PySem PySem.Spec PyProof.Rows
theorem PE.imp{X:Cx}{e:Expr}{t t':TE}(h:PE X e t)(w:∀σ H Q,t' σ H Q→t σ H Q):PE X e t':=fun pins s σ H Q I q=>h pins s σ H Q I (w σ H Q q)
theorem PT.imp{X:Cx}{e:Expr}{t t':TT}(h:PT X e t)(w:∀σ H Q,t' σ H Q→t σ H Q):PT X e t':=fun pins s σ H Q I q=>h pins s σ H Q I (w σ H Q q)
theorem PW.imp{X:Cx}{e:Expr}{t t':TT}(h:PW X e t)(w:∀σ H Q,t' σ H Q→t σ H Q):PW X e t':=fun wh pins s σ H Q I q=>h wh pins s σ H Q I (w σ H Q q)
theorem PA.imp{X:Cx}{e:List Expr}{t t':TA}(h:PA X e t)(w:∀σ H Q,t' σ H Q→t σ H Q):PA X e t':=fun pos pins s σ H Q I q=>h pos pins s σ H Q I (w σ H Q q)
theorem PS.imp{X:Cx}{e:Stmt}{t t':TS}(h:PS X e t)(w:∀D σ H,t' D σ H→t D σ H):PS X e t':=fun pins s σ H D I q=>h pins s σ H D I (w D σ H q)
theorem PSs.imp{X:Cx}{e:List Stmt}{t t':TS}(h:PSs X e t)(w:∀D σ H,t' D σ H→t D σ H):PSs X e t':=fun pins s σ H D I q=>h pins s σ H D I (w D σ H q)
theorem PG.imp{X:Cx}{e:Expr}{t t':TG}(h:PG X e t)(w:∀v σ H Q,t' v σ H Q→t v σ H Q):PG X e t':=fun pins s σ H v u Q I r q=>h pins s σ H v u Q I r (w v σ H Q q)
theorem PGs.imp{X:Cx}{e:List Expr}{t t':TGs}(h:PGs X e t)(w:∀v σ H Q,t' v σ H Q→t v σ H Q):PGs X e t':=fun pins s σ H vs us Q I r q=>h pins s σ H vs us Q I r (w vs σ H Q q)
theorem PI.imp{X:Cx}{tg e:Expr}{t t':TI}(h:PI X tg e t)(w:∀σ H R,t' σ H R→t σ H R):PI X tg e t':=fun pins s σ H R I q=>h pins s σ H R I (w σ H R q)
noncomputable def clOf(cells:List (Str×Addr)):List (Str×NameKind)→List (Str×Addr)→List (Str×Addr)
 | [],cs=>cs
 | (n,k)::r,cs=>clOf cells r (if k= .free then(n,(cells.lookup n).getD 0)::cs else cs)
theorem Zdc{env:Env}:∀(names:List (Str×NameKind)) (cs:List (Str×Addr)),(∀y∈names,y.2= .free→∃c,env.cells.lookup y.1=some c)→
    (forIn names cs (fun x r=>if(x.2==NameKind.free)=true then do let a←cellOf env x.1;pure (ForInStep.yield ((x.1,a)::r))else pure (ForInStep.yield r)):Sem (List (Str×Addr)))=pure (clOf env.cells names cs)
  | [],cs,_=>by rw[List.forIn_nil];rfl
  | (n,k)::r,cs,h=>by
    rw[List.forIn_cons]
    by_cases hk:k= .free
    · obtain⟨c,hc⟩:=h (n,k) List.mem_cons_self hk
      subst hk
      have e1:cellOf env n=pure c:=by unfold cellOf;rw[hc]
      show((if(NameKind.free==NameKind.free)=true then(cellOf env n >>=fun a=>pure (ForInStep.yield ((n,a)::cs)))else pure (ForInStep.yield cs)) >>=fun s=>_)=_
      rw[if_pos (show(NameKind.free==NameKind.free)=true by decide),e1]
      show(forIn r ((n,c)::cs) _:Sem (List (Str×Addr)))=_
      rw[Zdc r _ fun y hy=>h y (List.mem_cons_of_mem _ hy)]
      show _=pure (clOf env.cells r (if NameKind.free=NameKind.free then(n,(env.cells.lookup n).getD 0)::cs else cs))
      rw[if_pos rfl,hc]
      rfl
    · have hb:(k==NameKind.free)=false:=by simpa using hk
      show((if(k==NameKind.free)=true then(cellOf env n >>=fun a=>pure (ForInStep.yield ((n,a)::cs)))else pure (ForInStep.yield cs)) >>=fun s=>_)=_
      rw[hb,if_neg Bool.false_ne_true]
      show(forIn r cs _:Sem (List (Str×Addr)))=_
      rw[Zdc r _ fun y hy=>h y (List.mem_cons_of_mem _ hy)]
      show _=pure (clOf env.cells r (if k=NameKind.free then _ else cs))
      rw[if_neg hk]
theorem Zcx{scope:Scope}{env:Env}(h:∀y∈scope.names,y.2= .free→∃c,env.cells.lookup y.1=some c):closureFor scope env=pure (clOf env.cells scope.names []):=by
 simp only[closureFor]
 rw[Zdc scope.names [] h]
 rfl
theorem Ziu{cells:List (Str×Addr)}{x:Str}{c:Addr}:∀{names:List (Str×NameKind)} {cs:List (Str×Addr)},(∀y∈names,y.2= .free→∃c,cells.lookup y.1=some c)→
    (cs.lookup x=some c→cells.lookup x=some c)→(clOf cells names cs).lookup x=some c→cells.lookup x=some c
  | [],_,_,h0,e=>h0 e
  | (n,k)::r,cs,h,h0,e=>by
    refine Ziu (names:=r) (fun y hy=>h y (List.mem_cons_of_mem _ hy)) ?_ e
    intro e'
    by_cases hk:k= .free
    · rw[if_pos hk]at e'
      obtain⟨c',hc⟩:=h (n,k) List.mem_cons_self hk
      rw[hc]at e'
      by_cases hx:x==n
      · simp only[List.lookup_cons,hx]at e'
        cases e'
        have:x=n:=by simpa using hx
        rw[this];exact hc
      · have hx':(x==n)=false:=by simpa using hx
        simp only[List.lookup_cons,hx']at e'
        exact h0 e'
    · rw[if_neg hk]at e';exact h0 e'
theorem Zgq{cells:List (Str×Addr)}{x:Str}:∀{names:List (Str×NameKind)} {cs:List (Str×Addr)},(∃c,cs.lookup x=some c)→∃c,(clOf cells names cs).lookup x=some c
  | [],_,h=>h
  | (n,k)::r,cs,⟨c,h⟩=>by
    refine Zgq (names:=r) ?_
    by_cases hk:k= .free
    · rw[if_pos hk]
      by_cases hx:x==n
      · exact⟨(cells.lookup n).getD 0,by simp only[List.lookup_cons,hx]⟩
      · have hx':(x==n)=false:=by simpa using hx
        exact⟨c,by simp only[List.lookup_cons,hx'];exact h⟩
    · rw[if_neg hk];exact⟨c,h⟩
theorem Zdx{cells:List (Str×Addr)}{x:Str}:∀{names:List (Str×NameKind)} {cs:List (Str×Addr)},(x,NameKind.free)∈names→∃c,(clOf cells names cs).lookup x=some c
  | [],_,h=>nomatch h
  | (n,k)::r,cs,h=>by
    rcases List.mem_cons.mp h with e|e
    · cases e
      refine Zgq (names:=r) ⟨(cells.lookup x).getD 0,?_⟩
      rw[if_pos rfl]
      simp[List.lookup_cons]
    · exact Zdx (names:=r) e
noncomputable def rlF(env:Env):Str×NameKind→Str×NameKind:=fun(n,k)=>if(k==NameKind.free&&env.scope.kind== .function&&env.kindOf n==some .cell)then(n,NameKind.cell)else(n,k)
theorem Zhw(env:Env)(p:Str×NameKind):(rlF env p).1=p.1:=by
 obtain⟨n,k⟩:=p
 unfold rlF
 dsimp only
 split<;> rfl
theorem Zbr{f:Str×NameKind→Str×NameKind}(h:∀p,(f p).1=p.1)(x:Str):∀names:List (Str×NameKind),(names.map f).lookup x=(names.lookup x).map fun k=>(f (x,k)).2
  | []=>rfl
  | (n,k)::r=>by
    have ih:=Zbr h x r
    have e:f (n,k)=(n,(f (n,k)).2):=Prod.ext (h (n,k)) rfl
    rw[List.map_cons,e,List.lookup_cons,List.lookup_cons]
    cases hx:x==n with
    |true=>
      have:x=n:=by simpa using hx
      subst this
      rfl
    |false=>exact ih
theorem Zew{x:Str}{k:NameKind}:∀{names:List (Str×NameKind)},names.lookup x=some k→(x,k)∈names
  | [],h=>by simp at h
  | (n,k')::r,h=>by
    rw[List.lookup_cons]at h
    cases hx:x==n with
    |true=>
      rw[hx]at h
      have:x=n:=by simpa using hx
      subst this
      cases h
      exact List.mem_cons_self
    |false=>rw[hx]at h;exact List.mem_cons_of_mem _ (Zew h)
theorem Zb2{env:Env}{names:List (Str×NameKind)}{x:Str}{kk:NameKind}(hn:∀y∈names,y.2≠.cell)(hk:kk= .cell∨kk= .free)(h:(names.map (rlF env)).lookup x=some kk):(x,NameKind.free)∈names:=by
 rw[Zbr (Zhw env)]at h
 obtain⟨k,h1,h2⟩:=Option.map_eq_some_iff.mp h
 have hm:=Zew h1
 have hc:k≠.cell:=hn _ hm
 by_cases hf:k= .free
 ·subst hf;exact hm
 ·exfalso
  have hb:(k==NameKind.free)=false:=by simpa using hf
  unfold rlF at h2
  simp only[hb,Bool.false_and,Bool.false_eq_true,if_false]at h2
  rcases hk with e|e
  ·exact hc (h2.trans e)
  ·exact hf (h2.trans e)
inductive BSrc where
 |own|cap (j:Nat)|acc
noncomputable def Zux(σ:St)(acc:Addr):BSrc→Option V
 | .own=>none
 | .cap j=>(σ[j]?).join
 | .acc=>some (.ref acc)
noncomputable def bSt(src:List BSrc)(σ:St)(acc:Addr):St:=src.map (Zux σ acc)
noncomputable abbrev Cx.block(X:Cx)(N':List Str)(scope:Scope)(C:Addr)(s₀:Shared)(H₀:Hp)(ex:List Addr):Cx:=
 {X with N:=N',env:=compEnvC scope (clOf X.env.cells scope.names []) C X.env,s₀:=s₀,H₀:=H₀,outer:=X.stack,stack:=X.stack,ex:=ex,fn:=fun _=>false,pn:=[],xe:=fun _ _=>False}
structure CompScope(X:Cx)(N':List Str)(scope:Scope)(src:List BSrc):Prop where
 kind:scope.kind= .function
 nocell:∀y∈scope.names,y.2≠.cell
 names:∀y∈scope.names,y.2= .local→scope.names.lookup y.1=some .local
 free:∀y∈scope.names,y.2= .free→X.env.kindOf y.1=some .cell∨X.env.kindOf y.1=some .free
 len:src.length=N'.length
 cap:∀(k j:Nat) (x:Str),src[k]? =some (.cap j)→N'[k]? =some x→X.N[j]? =some x∧(X.env.kindOf x=some .cell∨X.env.kindOf x=some .free)∧scope.names.lookup x=some .free
 acc:∀(k:Nat) (x:Str),src[k]? =some .acc→N'[k]? =some x→scope.names.lookup x=none
theorem Zcm{env:Env}{names:List (Str×NameKind)}{x:Str}(h:names.lookup x=none):(names.map (rlF env)).lookup x=none:=by
 rw[Zbr (Zhw env),h];rfl
theorem Zcn{env:Env}{names:List (Str×NameKind)}{x:Str}(h:names.lookup x=some .free):(names.map (rlF env)).lookup x=some .cell∨(names.map (rlF env)).lookup x=some .free:=by
 rw[Zbr (Zhw env),h]
 unfold rlF
 dsimp only[Option.map]
 split
 ·exact .inl rfl
 ·exact .inr rfl
section
variable{X:Cx}{N':List Str}{scope:Scope}{src:List BSrc}{pins:List (Addr×Obj)}{σ:St}{H:Hp}{s:Shared}{C acc:Addr}{fp:List Addr}
theorem Zhx{h1:Heap}{tk:Nat}(S:CompScope X N' scope src)(I:Inv X pins σ H s)(hC:C=s.heap.objs.size)(hf:∀b∈fp,FpOk X pins H b)(hfo:∀b∈fp,∃o,s.heap.get? b=some o)
  (hns:h1.Ns C fun _=>none) (hk:∀b o,s.heap.get? b=some o→h1.get? b=some o):
  Inv (X.block N' scope C s H fp) [] (bSt src σ acc) H {s with heap:=h1,toks:=tk}:=by
 have cellf:∀y∈scope.names,y.2= .free→∃c,X.env.cells.lookup y.1=some c:=fun y hy e=>I.ok.has y.1 (S.free y hy e)
 have sub:∀x c,(clOf X.env.cells scope.names []).lookup x=some c→X.env.cells.lookup x=some c:=fun x c e=>Ziu cellf (fun h=>by simp at h) e
 have gt:∀b,b<s.heap.objs.size→b≠C:=fun b hb e=>by rw[e,hC]at hb;exact Nat.lt_irrefl _ hb
 refine⟨⟨I.ok.mod,S.kind,I.ok.glob,I.ok.blt,by rw[hC];exact Nat.le_refl _,fun x y c h1 h2=>I.ok.inj x y c (sub x c h1) (sub y c h2),fun x hx=>?_,fun x c h=>absurd h Bool.false_ne_true,I.ok.hd,I.ok.frames,.inl rfl,fun b hb=>?_,I.bs,
  Nat.le_trans I.ok.bsz I.sz,fun b o e hb=>?_,fun b hb hs=>?_,I.stack,I.stkFree⟩,rfl,I.bare,Un.kept hk,⟨_,hns,fun i x v e1 e2 e3=>?_⟩,fun x c e=>?_,?_,fun x c e=>I.freeC x c (sub x c e),fun p hp=>?_,I.hok.kept hk,?_⟩
 ·rcases hx with hx|hx
  ·exact Zdx (Zb2 S.nocell (.inl rfl) hx)
  ·exact Zdx (Zb2 S.nocell (.inr rfl) hx)
 ·obtain⟨f0,f1,f2,f3,f4,f5⟩:=hf b hb
  refine⟨?_,fun x c e=>f4 x c (sub x c e)⟩
  show b≠C
  obtain⟨o,ho⟩:=hfo b hb
  exact gt b (Heap.lt_size ho)
 ·obtain⟨f0,f1,f2,f3,f4,f5⟩:=hf b hb
  rcases f3 with z|z
  ·exact I.ok.noex b o e z
  ·exact absurd (Nat.lt_of_lt_of_le (Heap.lt_size e) (Nat.le_trans I.ok.bsz z)) (Nat.lt_irrefl _)
 ·obtain⟨f0,f1,f2,f3,f4,f5⟩:=hf b hb
  rcases List.mem_cons.mp (I.stkSub b hs)with z|z
  ·exact f1 z
  ·exact f2 z
 ·have hsrc:∃q,src[i]? =some q:=by
   cases q:src[i]? with
   |some q0=>exact⟨q0,rfl⟩
   |none=>
    have e2':(bSt src σ acc)[i]? =some (some v):=e2
    unfold bSt at e2'
    rw[List.getElem?_map,q]at e2';cases e2'
  obtain⟨q,hq⟩:=hsrc
  have e2':(bSt src σ acc)[i]? =some (some v):=e2
  unfold bSt at e2'
  rw[List.getElem?_map,hq]at e2'
  have e2'':Zux σ acc q=some v:=Option.some.inj e2'
  cases q with
  |own=>cases e2''
  |acc=>
   exfalso
   have hno:=Zcm (env:=X.env) (S.acc i x hq e1)
   have hno':(relabel scope X.env).names.lookup x=none:=hno
   have e3':Vis (relabel scope X.env) x:=e3
   rcases e3' with z|z|z
   ·rw[hno']at z;cases z
   ·rw[hno']at z;cases z
   ·rw[hno']at z;cases z
  |cap j=>
   obtain⟨hj,hkind,hfr⟩:=S.cap i j x hq e1
   have hσ:σ[j]? =some (some v):=by
    have e4:(σ[j]?).join=some v:=e2''
    cases r:σ[j]? with
    |none=>rw[r]at e4;cases e4
    |some o=>rw[r]at e4;cases o with
     |none=>cases e4
     |some w'=>cases e4;rfl
   obtain⟨m,hn,hl⟩:=I.loc
   obtain⟨u,ru,l⟩:=hl j x v hj hσ (by rcases hkind with z|z;exact .inr (.inl z);exact .inr (.inr z))
   refine⟨u,ru,?_⟩
   rcases l with⟨z,_⟩|⟨_,c,hc,hcell⟩
   ·rcases hkind with y|y
    ·rw[y]at z;cases z
    ·rw[y]at z;cases z
   ·have e3':Vis (relabel scope X.env) x:=e3
    have fin:∀kk,kk= .cell∨kk= .free→(relabel scope X.env).names.lookup x=some kk→Look (X.block N' scope C s H fp).env h1 (fun _=>none) x u:=fun kk hkk hx=>by
     obtain⟨c',hc'⟩:=Zdx (cells:=X.env.cells) (cs:=[]) (Zb2 S.nocell hkk hx)
     have:=sub x c' hc'
     rw[hc]at this;cases this
     obtain⟨oc,hoc,hocd⟩:=hcell
     refine .inr ⟨?_,c,hc',oc,hk c oc hoc,hocd⟩
     rcases hkk with y|y
     ·subst y;exact .inl hx
     ·subst y;exact .inr hx
    rcases e3' with z|z|z
    ·exfalso
     have z':(relabel scope X.env).names.lookup x=some .local:=z
     rcases Zcn (env:=X.env) hfr with y|y
     ·have y':(relabel scope X.env).names.lookup x=some .cell:=y
      rw[z']at y';cases y'
     ·have y':(relabel scope X.env).names.lookup x=some .free:=y
      rw[z']at y';cases y'
    ·exact fin .cell (.inl rfl) z
    ·exact fin .free (.inr rfl) z
 ·obtain⟨v,oc,hoc,hocd⟩:=I.cell x c (sub x c e)
  exact⟨v,oc,hk c oc hoc,hocd⟩
 ·show H C=none
  rw[hC];exact I.hok.fresh (Nat.le_refl _)
 ·have hp':p∈([]:List (Addr×Obj)):=by simpa using hp
  exact nomatch hp'
 ·show(bSt src σ acc).length=N'.length
  unfold bSt
  rw[List.length_map];exact S.len
noncomputable def Zrm(src:List BSrc)(wi:TI)(g:TG)(tt:TT)(te:TE):TE:=fun σ H Q=>wi σ H fun J H1=>∀acc,H1 acc=none→
 ∃W:Nat→Nat→St→Hp→Prop,(∃m,W 0 m (bSt src σ acc) (upd H1 acc (.lst [])))∧∀i m σ' H,W i m σ' H→(J.stop i H∧Q (.ref acc) H)∨
  (J.go i H∧∀x H',J.yld i H x H'→g x σ' H' fun σ2 H2=>tt σ2 H2 fun b H3=>if b=true then te σ2 H3 fun y H4=>Zd2 (.ref acc) [y] H4 fun _ H5=>∃m',m'<m∧W (i+1) m' σ2 H5 else∃m',m'<m∧W (i+1) m' σ2 H3)
noncomputable def PTs(X:Cx)(ifs:List Expr)(t:TT):Prop:=
 ∀(pins:List (Addr×Obj)) (s:Shared) (σ:St) (H:Hp) (Q:Bool→Hp→Prop),Inv X pins σ H s→t σ H Q→
  wpAny (model X.prog X.w) X.A (forIn ifs true fun c r=>if r=true then do let ok←isTrue c X.env (eval c X.env);pure (ForInStep.yield ok)else pure (ForInStep.yield r)) (TP X pins σ Q) X.xe s
noncomputable def Zx3:TT:=fun _ H Q=>Q true H
theorem Zrn:PTs X [] Zx3:=fun _ s σ H Q I h=>wpAny_tests_nil ⟨H,I,h⟩
theorem Zlj{prog:Program}{w:World}{A:Around}{s:Shared}{elt target iter:Expr}{ifs:List Expr}{scope:Scope}{pos:Pos}{it acc:Value}{env:Env}{R:Result→Shared→Prop}(I:Nat→Shared→Prop)
  (turn:∀n s,I n s→wpAny (model prog w) A (pyNext it) (fun r s₁=>match r with
   |none=>R (.ok .next) s₁
   |some v=>wpAny (model prog w) A (letOwnedTupleGo target it v) (fun _ s₀=>wpAny (model prog w) A (assign target env v) (fun _ s₂=>
     wpAny (model prog w) A (forIn ifs true fun c r=>if r=true then do let ok←isTrue c env (eval c env);pure (ForInStep.yield ok)else pure (ForInStep.yield r)) (fun ok s₃=>if ok=true then wpAny (model prog w) A (eval elt env) (fun x s₄=>
      wpAny (model prog w) A (call (.builtin "list.append") [acc,x]) (fun _ s₅=>∃m,m<n∧I m s₅) (fun _ _=>False) s₄) (fun _ _=>False) s₃
      else∃m,m<n∧I m s₃) (fun _ _=>False) s₂)
     (fun _ _=>False) s₀) (fun _ _=>False) s₁) (fun _ _=>False) s)
  (n:Nat) (h:I n s):codeAny (model prog w) A (.compLoop (.ListComp elt [⟨target,iter,ifs,0⟩] scope pos) 0 it acc env) R s:=by
 refine codeAny_loop rfl I (fun n s hI=>?_) n h
 show wpAny _ A ((compTurn (.ListComp elt [⟨target,iter,ifs,0⟩] scope pos) 0 it acc env).onRaise (fun x=>do noteFrame x env;theTreesLotGoes x)) _ _ s
 refine wpAny_noted ?_
 rw[compTurn_list]
 refine wpAny_bind (wpAny_standAt (wpAny_bind (wpAny_mono (turn n s hI) (fun r s₁ h₁=>?_) fun _ _ f=>f.elim)))
 cases r with
 |none=>exact wpAny_pure h₁
 |some v=>
  refine wpAny_bind (wpAny_mono h₁ (fun _ s₀ h₀'=>?_) fun _ _ f=>f.elim)
  refine wpAny_bind (wpAny_mono h₀' (fun _ s₂ h₂=>?_) fun _ _ f=>f.elim)
  refine wpAny_bind (wpAny_mono h₂ (fun okb s₃ h₃=>?_) fun _ _ f=>f.elim)
  cases okb with
  |false=>exact wpAny_pure ⟨rfl,h₃⟩
  |true=>exact wpAny_bind (wpAny_bind (wpAny_mono h₃ (fun x s₄ h₄=>wpAny_bind (wpAny_mono h₄ (fun _ s₅ h₅=>wpAny_pure (wpAny_pure ⟨rfl,h₅⟩)) fun _ _ f=>f.elim)) fun _ _ f=>f.elim))
theorem Zex{tg elt iter:Expr}{ifs:List Expr}{pos:Pos}{g:TG}{tt:TT}{te:TE}{it:Addr}{tn:Nat→Heap→Prop}{J:It}{Q:VK}{RR:Value→Addr→Result→Shared→Prop}{E:Value→Shared→Prop}
  (hc:X.calm=true) (S:CompScope X N' scope src)
  (hg:∀(C:Addr) (s₀:Shared) (H₀:Hp) (ex:List Addr),PG (X.block N' scope C s₀ H₀ ex) tg g)
  (ht:∀(C:Addr) (s₀:Shared) (H₀:Hp) (ex:List Addr),PTs (X.block N' scope C s₀ H₀ ex) ifs tt)
  (he:∀(C:Addr) (s₀:Shared) (H₀:Hp) (ex:List Addr),PE (X.block N' scope C s₀ H₀ ex) elt te)
  (I:Inv X pins σ H s) (T:Turn X.prog X.w X.K tg J fp it tn) (st:tn 0 s.heap) (hf:∀b∈fp,FpOk X pins H b)
  (q:∀acc,H acc=none→∃W:Nat→Nat→St→Hp→Prop,(∃m,W 0 m (bSt src σ acc) (upd H acc (.lst [])))∧∀i m σ' H,W i m σ' H→(J.stop i H∧Q (.ref acc) H)∨
   (J.go i H∧∀x H',J.yld i H x H'→g x σ' H' fun σ2 H2=>tt σ2 H2 fun b H3=>if b=true then te σ2 H3 fun y H4=>Zd2 (.ref acc) [y] H4 fun _ H5=>∃m',m'<m∧W (i+1) m' σ2 H5 else∃m',m'<m∧W (i+1) m' σ2 H3))
  (hRR:∀(acc C:Addr) (s':Shared) (H':Hp) (m:Str→Option Value),Inv X pins σ H' s'→Q (.ref acc) H'→s'.heap.Ns C m→H' C=none→C≠X.env.locals→X.s₀.heap.objs.size≤C→(∀x c,X.env.cells.lookup x=some c→c≠C)→(∀p∈X.pn++pins,p.1≠C)→
   RR (.ref acc) C (.ok .next) s'):
  wpAny (model X.prog X.w) X.A (newList []) (fun acc s₃=>wpAny (model X.prog X.w) X.A (newFunctionEnv scope X.env.globals (clOf X.env.cells scope.names []) [] X.env.qual none .none (some X.env)) (fun cenv s₄=>
   codeAny (model X.prog X.w) X.A (.compStart (.ListComp elt [⟨tg,iter,ifs,0⟩] scope pos) 0 (.ref it) acc {cenv with scope:=relabel scope X.env}) (RR acc cenv.locals) s₄) E s₃) E s:=by
 have hfo:∀b∈fp,∃o,s.heap.get? b=some o:=fun b hb=>let⟨o,e,_⟩:=T.obj 0 _ st b hb;⟨o,e⟩
 refine wpAny_newObj_type (wpAny_newFunctionEnv S.nocell (by intro y hy;simp at hy) (fun h₁ hns₁ hsb₁=>?_) S.kind)
 dsimp only at hns₁ hsb₁⊢
 have hacc:H s.heap.objs.size=none:=I.hok.fresh (Nat.le_refl _)
 have I3:Inv X pins σ (upd H s.heap.objs.size (.lst [])) {s with heap:=s.heap.push {cls:=.type "list",dict:=none,data:=.seq ([]:List Value).toArray}}:=I.lnew (t':=s.toks) (its:=[]) (ys:=[]) .nil (Nat.zero_le _)
 have hf3:∀b∈fp,FpOk X pins (upd H s.heap.objs.size (.lst [])) b:=fun b hb=>by
  obtain⟨f0,f⟩:=hf b hb
  obtain⟨o,ho⟩:=hfo b hb
  exact⟨by rw[Zm (Nat.ne_of_lt (Heap.lt_size ho))];exact f0,f⟩
 have hfo3:∀b∈fp,∃o,(s.heap.push {cls:=.type "list",dict:=none,data:=.seq ([]:List Value).toArray}).get? b=some o:=fun b hb=>let⟨o,e⟩:=hfo b hb;⟨o,Heap.get?_push_of_some _ e⟩
 obtain⟨W,⟨m0,w0⟩,turn⟩:=q _ hacc
 generalize hH2:s.heap.push {cls:=.type "list",dict:=none,data:=.seq ([]:List Value).toArray}=H2 at hns₁ hsb₁ I3 hfo3⊢
 have keep:∀b o,H2.get? b=some o→h₁.get? b=some o:=fun b o e=>hsb₁.extBut b o (Nat.ne_of_lt (Heap.lt_size e)) (Heap.get?_push_of_some _ e)
 have J0:=Zhx (N':=N') (scope:=scope) (src:=src) (acc:=s.heap.objs.size) (tk:=s.toks+([]:List (Str×Value)).length) (C:=H2.objs.size) S I3 rfl hf3 hfo3 (show h₁.Ns H2.objs.size (fun _=>none)from hns₁) keep
 have st1:tn 0 h₁:=T.keep 0 s.heap h₁ st fun b hb o e=>keep b o (by rw[←hH2];exact Heap.get?_push_of_some _ e)
 have cne:H2.objs.size≠X.env.locals:=Nat.ne_of_gt I3.lt
 have csz:X.s₀.heap.objs.size≤H2.objs.size:=I3.sz
 have ccell:∀x c,X.env.cells.lookup x=some c→c≠H2.objs.size:=fun x c e z=>by
  obtain⟨v,oc,hoc,_⟩:=I3.cell x c e
  exact absurd (Heap.lt_size hoc) (by rw[z];exact Nat.lt_irrefl _)
 have cpin:∀p∈X.pn++pins,p.1≠H2.objs.size:=fun p hp z=>absurd (Heap.lt_size (I3.pin p hp).1) (by rw[z];exact Nat.lt_irrefl _)
 have loop:∀s₃:Shared,s₃={s with heap:=h₁,toks:=s.toks+([]:List (Str×Value)).length}→
   codeAny (model X.prog X.w) X.A (.compLoop (.ListComp elt [⟨tg,iter,ifs,0⟩] scope pos) 0 (.ref it) (.ref s.heap.objs.size) (compEnvC scope (clOf X.env.cells scope.names []) H2.objs.size X.env)) (RR (.ref s.heap.objs.size) H2.objs.size) s₃:=by
  rintro s₃ rfl
  refine Zlj (fun n s'=>∃i σ' H',Inv (X.block N' scope H2.objs.size {s with heap:=H2} (upd H s.heap.objs.size (.lst [])) fp) [] σ' H' s'∧tn i s'.heap∧(∀b∈fp,H' b=none)∧W i n σ' H') ?_ m0 ⟨0,_,_,J0,st1,fun b hb=>(hf3 b hb).1,w0⟩
  rintro n s4 ⟨i,σ4,H4,J4,st4,fr4,w4⟩
  have fok:∀{H':Hp},(∀b∈fp,H' b=none)→∀b∈fp,FpOk (X.block N' scope H2.objs.size {s with heap:=H2} (upd H s.heap.objs.size (.lst [])) fp) [] H' b:=fun{H'} hn b hb=>by
   obtain⟨f0,f1,f2,f3,f4,f5⟩:=hf3 b hb
   refine⟨hn b hb,?_,fun z=>J4.ok.exfs b hb z,.inl hb,fun x c e=>(J4.ok.exf b hb).2 x c e,fun p hp=>?_⟩
   ·exact(J4.ok.exf b hb).1
   ·have hp':p∈([]:List (Addr×Obj)):=by simpa using hp
    exact nomatch hp'
  rcases turn i n σ4 H4 w4 with⟨stop,qn⟩|⟨go,step⟩
  ·refine thn (T.done (X.block N' scope H2.objs.size {s with heap:=H2} (upd H s.heap.objs.size (.lst [])) fp) rfl rfl rfl hc i [] s4 σ4 H4 _ J4 (fok fr4) st4 stop) fun r s5 ⟨hr,J5⟩=>?_
   subst hr
   obtain⟨m5,hn5,_⟩:=J5.loc
   have I5:Inv X pins σ H4 s5:=I3.call' (ch:=fp) J5.os J5.base J5.hok J5.bare fun b hb=>by
    obtain⟨f0,f1,f2,f3,f4,f5⟩:=hf3 b hb
    exact⟨f3,f1,f4,f5⟩
   exact hRR _ _ s5 H4 m5 I5 qn hn5 J5.free cne csz ccell cpin
  ·refine thn (T.item (X.block N' scope H2.objs.size {s with heap:=H2} (upd H s.heap.objs.size (.lst [])) fp) rfl rfl rfl hc i [] s4 σ4 H4 _ J4 (fok fr4) st4 go) fun r s5 ⟨u,hr,h5⟩=>?_
   subst hr
   refine thn h5 fun _ s6 zq9=>?_
   obtain⟨x,H6,J6,r6,y6,st6,fr6⟩:=zq9
   have J6':=J6.pinned (fok fr6) (T.obj _ _ st6)
   have again:∀{σ7:St} {H7:Hp} {s7:Shared},Inv (X.block N' scope H2.objs.size {s with heap:=H2} (upd H s.heap.objs.size (.lst [])) fp) ([]++Zf9 fp s6.heap) σ7 H7 s7→(∃m',m'<n∧W (i+1) m' σ7 H7)→
     ∃m,m<n∧∃i σ' H',Inv (X.block N' scope H2.objs.size {s with heap:=H2} (upd H s.heap.objs.size (.lst [])) fp) [] σ' H' s7∧tn i s7.heap∧(∀b∈fp,H' b=none)∧W i m σ' H':=fun{σ7 H7 s7} J7 ⟨m',hm,w7⟩=>by
    refine⟨m',hm,i+1,σ7,H7,J7.unpinned,T.keep _ _ _ st6 fun b hb o e=>(J7.pin (b,o) (List.mem_append_right _ (List.mem_append_right _ (Zcb hb e)))).1,fun b hb=>?_,w7⟩
    obtain⟨o,e,d⟩:=T.obj _ _ st6 b hb
    exact(J7.pin (b,o) (List.mem_append_right _ (List.mem_append_right _ (Zcb hb e)))).2.1
   refine thn (hg _ _ _ _ _ s6 σ4 H6 x u _ J6' r6 (step x H6 y6)) fun _ s7 zq9=>?_
   obtain⟨σ7,H7,J7,q7⟩:=zq9
   refine thn (ht _ _ _ _ _ s7 σ7 H7 _ J7 q7) fun b s8 zq9=>?_
   obtain⟨H8,J8,q8⟩:=zq9
   cases b with
   |false=>rw[if_neg Bool.false_ne_true]at q8⊢;exact again J8 q8
   |true=>
    rw[if_pos rfl]at q8⊢
    refine thn (he _ _ _ _ _ s8 σ7 H8 _ J8 q8) fun y s9 zq9=>?_
    obtain⟨vy,H9,J9,r9,q9⟩:=zq9
    refine thn (Zgl _ s9 σ7 H9 (.ref s.heap.objs.size) [vy] (.ref s.heap.objs.size) [y] _ J9 rfl (.cons r9 .nil) q9) fun _ s10 ⟨_,H10,J10,_,q10⟩=>again J10 q10
 exact codeAny_compStart_list (loop _ rfl) (T.self X.A 0 _ _ _ st1 (loop _ rfl))
theorem Zro{tg elt iter:Expr}{ifs:List Expr}{pos:Pos}{wi:TI}{g:TG}{tt:TT}{te:TE}(hc:X.calm=true)(S:CompScope X N' scope src)(hi:PI X tg iter wi)
  (hg:∀(C:Addr) (s₀:Shared) (H₀:Hp) (ex:List Addr),PG (X.block N' scope C s₀ H₀ ex) tg g)
  (ht:∀(C:Addr) (s₀:Shared) (H₀:Hp) (ex:List Addr),PTs (X.block N' scope C s₀ H₀ ex) ifs tt)
  (he:∀(C:Addr) (s₀:Shared) (H₀:Hp) (ex:List Addr),PE (X.block N' scope C s₀ H₀ ex) elt te)
  (hs:∀x,foldedSetIterable iter X.env x=pure x:=by intro _;rfl):PE X (.ListComp elt [⟨tg,iter,ifs,0⟩] scope pos) (Zrm src wi g tt te):=by
 intro pins s σ H Q I h
 rw[eval_ListComp]
 refine wpAny_comprehension_free (use:=none) rfl hs (Zcx fun y hy e=>I.ok.has y.1 (S.free y hy e)) S.kind S.names (thn (hi pins s σ H _ I h) fun v s1 h1=>thn h1 fun itv s2 h2=>?_)
 obtain⟨it,fp,tn,J,H2,e,I2,T,st2,f2,q⟩:=h2
 subst e
 refine Zex hc S hg ht he I2 T st2 f2 q fun acc C s' H' m I' q' hn hC c1 c2 c3 c4=>⟨m,hn,fun h' hs'=>?_⟩
 exact⟨.ref acc,H',I'.turned (t':=s'.toks) (fun b o hb e=>(hs'.2 b hb).trans e) hC c1 (.inr c2) c3 c4,rfl,q'⟩
theorem Zjy{tg elt iter:Expr}{ifs:List Expr}{pos spos py:Pos}{wi:TI}{g:TG}{tt:TT}{te:TE}{i:Nat}{y:Str}(hc:X.calm=true)(S:CompScope X N' scope src)(hi:PI X tg iter wi)
  (hg:∀(C:Addr) (s₀:Shared) (H₀:Hp) (ex:List Addr),PG (X.block N' scope C s₀ H₀ ex) tg g)
  (ht:∀(C:Addr) (s₀:Shared) (H₀:Hp) (ex:List Addr),PTs (X.block N' scope C s₀ H₀ ex) ifs tt)
  (he:∀(C:Addr) (s₀:Shared) (H₀:Hp) (ex:List Addr),PE (X.block N' scope C s₀ H₀ ex) elt te)
  (hN:X.N.Nodup) (hiy:X.N[i]? =some y) (hx:X.env.scope.names.lookup y=some .local)
  (hsw:swapsWith (.ListComp elt [⟨tg,iter,ifs,0⟩] scope pos) (some (.Name y py)) spos.line X.env=pure true)
  (hs:∀x,foldedSetIterable iter X.env x=pure x:=by intro _;rfl):PS X (.Assign [.Name y py] (.ListComp elt [⟨tg,iter,ifs,0⟩] scope pos) spos) (tAsg (Zrm src wi g tt te) (Zju i)):=by
 intro pins s σ H D I h
 rw[exec_Assign_Name_used _ _ _ _ hsw]
 refine wpAny_bind (wpAny_standAt (wpAny_bind ?_))
 show wpAny _ X.A (do let _←comprehension (.ListComp elt [⟨tg,iter,ifs,0⟩] scope pos) scope X.env _ (newList []) false (eval iter X.env) (some (assign (.Name y py) X.env))) _ _ s
 refine wpAny_bind (wpAny_mono (wpAny_comprehension_free (use:=some (assign (.Name y py) X.env)) (Q:=fun _ s'=>SP X pins D .next s') rfl hs (Zcx fun y hy e=>I.ok.has y.1 (S.free y hy e)) S.kind S.names
  (thn (hi pins s σ H _ I h) fun v s1 h1=>thn h1 fun itv s2 h2=>?_)) (fun _ s' hq=>wpAny_pure (wpAny_pure hq)) fun _ _ e=>e)
 obtain⟨it,fp,tn,J,H2,e,I2,T,st2,f2,q⟩:=h2
 subst e
 refine Zex (Q:=fun x H1=>Zju i x σ H1 D.nx) hc S hg ht he I2 T st2 f2 q fun acc C s' H' m I' q' hn hC c1 c2 c3 c4=>?_
 refine wpAny_assign_Name (Zf8 I' hN hiy (.inl hx) (v:=.ref acc) (u:=.ref acc) rfl (fun s'' I'' ⟨a,hsb,ha⟩=>?_) (.inr hx))
 have hCa:C≠a:=by
  rcases ha with z|z
  ·rw[z];exact c1
  ·exact Ne.symm (c3 _ _ z)
 refine⟨m,hn.sameBut hsb hCa,fun h' hs'=>?_⟩
 exact⟨_,H',I''.turned (t':=s''.toks) (fun b o hb e=>(hs'.2 b hb).trans e) hC c1 (.inr c2) c3 c4,q'⟩
end
end L2
namespace L2
open PySem PySem.Spec PyProof.Rows
noncomputable def Zx4(h:Heap)(xs:List Addr):Heap:={objs:=(Array.range h.objs.size).map fun a=>if a∈xs then{cls:=.none,data:=.freed}else(h.objs[a]?).getD {cls:=.none,data:=.freed}}
structure Raised(h:Heap)(e:Addr)(cls:Value)(dx tb:Option Addr):Prop where
 obj:∃oe vs,h.get? e=some oe∧oe.cls=cls∧oe.dict=dx∧oe.data= .fields vs∧vs[1]? =some (match tb with|none=>.none|some T=>.ref T)
 tr:∀T,tb=some T→T≠e∧∃oT ts fl,h.get? T=some oT∧oT.data= .fields ts∧ts[3]? =some fl
noncomputable def tbl':Option Addr→List Addr
 |none=>[]
 |some T=>[T]
structure Noted(l:List Addr)(h h':Heap)(e:Addr)(cls:Value)(dx tb:Option Addr)(T:Addr):Prop where
 keep:∀b o,b≠e→b∉tbl' tb→b∉l→h.get? b=some o→h'.get? b=some o
 slot:∀b o,b∈l→h.get? b=some o→∃sl,h'.get? b=some {o with slots:=sl}
 new:h.get? T=none∨some T=tb
 r:Raised h' e cls dx (some T)
section
variable{M:Model}{A:Around}{E:Value→Shared→Prop}{s:Shared}{base:Heap}{env:Env}{outer:List Env}{L e:Addr}{cls:Value}{dx tb:Option Addr}{Q:Unit→Shared→Prop}
end
end L2
namespace L2
open PySem PySem.Spec PyProof.Rows
noncomputable def CX1(P:Program)(w:World):CXT:=fun outer H s E e s'=>∃(a:Addr) (cls:Value) (dx:Option Addr) (T:Addr) (H':Hp),e= .ref a∧s'.os=s.os∧AllBare s'.gens∧Un (frs outer) [] H H' s.heap s'.heap∧HOk P w H' s'.heap∧
 Raised s'.heap a cls dx (some T)∧s.heap.get? a=none∧s.heap.get? T=none∧H' a=none∧H' T=none∧E cls dx H'
noncomputable def Z0i(X:Cx)(EX:XK):Prop:=∀(pins:List (Addr×Obj)) (σ:St) (H:Hp) (s:Shared) (e:Addr) (cls:Value) (dx tb:Option Addr),Inv X pins σ H s→Raised s.heap e cls dx tb→X.s₀.heap.get? e=none→H e=none→
 (∀T,tb=some T→X.s₀.heap.get? T=none∧H T=none)→EX cls dx H→X.xe (.ref e) s
end L2
namespace L2
open PySem PySem.Spec PyProof.Rows
abbrev VEB:List Value:=[.type "ValueError",.type "Exception",.type "BaseException",.type "object"]
noncomputable def Z0j(EX:XK)(C:Addr)(t:TA):TS:=fun _ σ H=>t σ H fun vs H1=>vs.length≤sizeLine∧EX (.ref C) none H1
end L2
namespace L2
open PySem PySem.Spec PyProof.Rows
noncomputable abbrev EXT:=Value→Option Addr→St→Hp→Prop
noncomputable def Zx5(X:Cx)(EX:EXT):Prop:=∀(pins:List (Addr×Obj)) (σ:St) (H:Hp) (s:Shared) (e:Addr) (cls:Value) (dx:Option Addr) (T:Addr),Inv X pins σ H s→Raised s.heap e cls dx (some T)→X.s₀.heap.get? e=none→H e=none→
 X.s₀.heap.get? T=none→H T=none→(∀p∈X.pn++pins,p.1≠e∧p.1≠T)→(e≠X.env.locals∧T≠X.env.locals)→(∀x c,X.env.cells.lookup x=some c→c≠e∧c≠T)→EX cls dx σ H→X.xe (.ref e) s
noncomputable def Z11(X:Cx)(EX:EXT):Prop:=∀(pins:List (Addr×Obj)) (σ:St) (H:Hp) (s:Shared) (e:Value) (s':Shared),Inv X pins σ H s→CX1 X.prog X.w X.stack H s (fun cls od H'=>EX cls od σ H') e s'→X.xe e s'
noncomputable def Z0k(sp:Sp)(EX:EXT)(t:TA):TE:=fun σ H Q=>t σ H fun vs H1=>sp vs H1 Q fun cls od H'=>EX cls od σ H'
end L2
namespace L2
open PySem PySem.Spec PyProof.Rows
structure Air(X:Cx)(pins:List (Addr×Obj))(H:Hp)(s:Shared)(e:Addr)(cls:Value)(dx:Option Addr)(T:Addr):Prop where
 r:Raised s.heap e cls dx (some T)
 e0:X.s₀.heap.get? e=none
 eH:H e=none
 t0:X.s₀.heap.get? T=none
 tH:H T=none
 pe:∀p∈X.pn++pins,p.1≠e∧p.1≠T
 le:e≠X.env.locals∧T≠X.env.locals
 ce:∀x c,X.env.cells.lookup x=some c→c≠e∧c≠T
section
variable{X:Cx}{pins:List (Addr×Obj)}{σ:St}{H:Hp}{s:Shared}{e T:Addr}{cls:Value}{dx:Option Addr}
end
noncomputable abbrev Cx.inTry(X:Cx)(pn:List (Addr×Obj))(xe:Value→Shared→Prop):Cx:={X with pn:=pn,xe:=xe}
noncomputable abbrev Cx.inSuite(X:Cx)(a:Addr):Cx:={X with A:=X.A.mark (some (.ref a)),calm:=false,xe:=fun _ _=>False}
section
variable{X:Cx}{pins:List (Addr×Obj)}{σ:St}{H:Hp}{s:Shared}{e T:Addr}{cls:Value}{dx:Option Addr}{xe:Value→Shared→Prop}
noncomputable def Zjz(a C:Addr)(dx:Option Addr):Heap→Prop:=fun h=>∃o,h.get? a=some o∧o.cls= .ref C∧o.dict=dx∧PySem.W.notCls o=true
end
end L2
namespace L2
open PySem PySem.Spec PyProof.Rows
set_option genInjectivity false in
structure Hd where
 x:Str
 np:Pos
 nm:Option (Str×Nat)
 b0:Stmt
 suite:List Stmt
 pos:Pos
 B:Addr
 t:TS
noncomputable def Hd.ast(h:Hd):ExceptHandler:=.ExceptHandler (some (.Name h.x h.np)) (h.nm.map (·.1)) (h.b0::h.suite) h.pos
noncomputable def Ends.but(D:Ends)(i:Nat):Ends:={nx:=fun σ H=>D.nx (σ.set i none) H,bk:=fun σ H=>D.bk (σ.set i none) H,ct:=fun σ H=>D.ct (σ.set i none) H,rt:=D.rt}
noncomputable def Hd.run(h:Hd)(C:Addr)(dx:Option Addr)(D:Ends)(σ:St)(H:Hp):Prop:=match h.nm with
 |none=>h.t D σ H
 |some (_,i)=>∀a,H a=none→h.t (D.but i) (σ.set i (some (.ref a))) (upd H a (.ext (Zjz a C dx)))
noncomputable def Zuy(K:PySem.W.Frag)(C:Addr):List Hd→Option Hd
 | []=>none
 |h::r=>match PySem.W.mroIn K C (.ref h.B)with
  |some true=>some h
  |some false=>Zuy K C r
  |none=>none
set_option genInjectivity false in
structure Hd.Ok(X:Cx)(h:Hd):Prop where
 gl:Gl X h.x
 mg:X.mg h.x=some (.ref h.B)
 ty:PySem.W.typeIn X.K (.ref h.B)=some (.type "type")
 cl:PySem.W.isClsIn X.K h.B=true
 bs:PySem.W.mroIn X.K h.B (.type "BaseException")=some true
 db:(h.x==("__debug__":Str))=false
 nm:∀n i,h.nm=some (n,i)→X.N.Nodup∧X.N[i]? =some n∧Loc X.env.scope n∧X.env.kindOf n=some .local∧X.env.scope.names.lookup n=some .local
 su:∀a,PSs (X.inSuite a) (h.b0::h.suite) h.t
section
variable{X:Cx}{pins:List (Addr×Obj)}{σ:St}{H:Hp}{s:Shared}{e T C:Addr}{dx:Option Addr}{D:Ends}
noncomputable def tTry(K:PySem.W.Frag)(tb:EXT→TS)(hs:List Hd):TS:=fun D σ H=>tb (fun cls dx σ' H'=>∃C h,cls= .ref C∧Zuy K C hs=some h∧h.run C dx D σ' H') D σ H
end
end L2
namespace L2
open PySem PySem.Spec PySem.Calls PyProof.Rows Builtin.ObjectAttr Builtin.Getset_descriptor
structure ExcKit(K:PySem.W.Frag)(C:Addr):Prop where
 cl:PySem.W.isClsIn K C=true
 ga:PySem.W.findIn K (.ref C) "__getattribute__"=some (some (.builtin "BaseException.__getattribute__"))
 gt:PySem.W.findIn K (.ref C) "__getattr__"=some none
 ca:PySem.W.findIn K (.ref C) "__class__"=some (some (.builtin "object.__class__"))
 gs:PySem.W.specialIn K (.builtin "object.__class__") "__get__"=some (some (.builtin "getset_descriptor.__get__"))
 tk:PySem.W.takesIn K (.builtin "object.__class__")=some true
 ob:PySem.W.mroIn K C (.type "object")=some true
 be:PySem.W.mroIn K C (.type "BaseException")=some true
section
variable{prog:Program}{w:World}{A:Around}{E:Value→Shared→Prop}{s:Shared}{K:PySem.W.Frag}{x C:Addr}{dx:Option Addr}
end
section
variable{X:Cx}
noncomputable def rIsX(K:PySem.W.Frag)(c:V)(cv:Value):List V→Hp→VK→Prop:=fun xs H Q=>∃a C dx b,xs=[.ref a,c]∧H a=some (.ext (Zjz a C dx))∧ExcKit K C∧PySem.W.kitOne K (.ref C) cv=some b∧Q (.bl b) H
noncomputable def Z12(K:PySem.W.Frag)(Bs:List Addr):List V→Hp→VK→Prop:=fun xs H Q=>∃a C dx p b,xs=[.ref a,.ref p]∧H a=some (.ext (Zjz a C dx))∧ExcKit K C∧H p=some (.tup (Bs.map V.ref))∧PySem.W.kitAny K (.ref C) (Bs.map Value.ref)=some b∧Q (.bl b) H
end
end L2
namespace L2
open PySem PySem.Spec PyProof.Rows
section
variable{X:Cx}{pins:List (Addr×Obj)}{σ:St}{H:Hp}{s s':Shared}
end
noncomputable abbrev Cx.blockX(X:Cx)(N':List Str)(scope:Scope)(C:Addr)(s₀:Shared)(H₀:Hp)(ex:List Addr)(xe:Value→Shared→Prop):Cx:=
 {X with N:=N',env:=compEnvC scope (clOf X.env.cells scope.names []) C X.env,s₀:=s₀,H₀:=H₀,outer:=X.stack,stack:=X.stack,ex:=ex,fn:=fun _=>false,pn:=[],xe:=xe}
section
variable{X:Cx}{N':List Str}{scope:Scope}{src:List BSrc}{pins:List (Addr×Obj)}{σ:St}{H:Hp}{s:Shared}{C acc:Addr}{fp:List Addr}
noncomputable def Z0l(src:List BSrc)(wi:TI)(g:TG)(tt:TT)(te:EXT→TE)(EX:EXT):TE:=fun σ H Q=>wi σ H fun J H1=>∀acc,H1 acc=none→
 ∃W:Nat→Nat→St→Hp→Prop,(∃m,W 0 m (bSt src σ acc) (upd H1 acc (.lst [])))∧∀i m σ' H,W i m σ' H→(J.stop i H∧Q (.ref acc) H)∨
  (J.go i H∧∀x H',J.yld i H x H'→g x σ' H' fun σ2 H2=>tt σ2 H2 fun b H3=>if b=true then te (fun cls od _ H'=>EX cls od σ H') σ2 H3 fun y H4=>Zd2 (.ref acc) [y] H4 fun _ H5=>∃m',m'<m∧W (i+1) m' σ2 H5 else∃m',m'<m∧W (i+1) m' σ2 H3)
end
end L2
namespace PySem
open Sem (wp)
section
variable{prog:Program}{w:World}{A:Around}{E:Value→Shared→Prop}{h:Heap}{g:Array GenState}{d:Drawn}{t:Nat}{os:OsState}
variable{nm q:Str}{C N fI:Addr}{oI:Obj}{bs bm bmB bmN:List Value}{hdct:Bool}{sn:List Str}{sub:List Value}{ab:Bool}{col:Option Bool}{dd:Option Addr}{k0 k1 k2 k3 k5:Option Value}{B Bn newId nid initId inN:String}{mN:Str→Option Value}{rest:List Value}
end
section
variable{prog:Program}{w:World}{A:Around}{E:Value→Shared→Prop}{s:Shared}{env:Env}
variable{nm q:Str}{C N fI:Addr}{bs bm bmB bmN:List Value}{hdct:Bool}{sn:List Str}{sub:List Value}{ab:Bool}{col:Option Bool}{dd:Option Addr}{k0 k1 k2 k3 k5:Option Value}{B Bn newId nid initId inN:String}{mN:Str→Option Value}
end
end PySem
namespace L2
open PySem PySem.Spec PySem.Calls PyProof.Rows Builtin.ObjectAttr
noncomputable def Zpv:List Value→Bool
 | .ref _::r=>Zpv r
 |l=>l==VEB
structure ExcSet(K:PySem.W.Frag)(C:Addr)(name:Str):Prop where
 sa:PySem.W.findIn K (.ref C) "__setattr__"=some (some (.builtin "object.__setattr__"))
 ob:PySem.W.mroIn K C (.type "object")=some true
 na:PySem.W.findIn K (.ref C) name=some none
 mr:((PySem.W.clsIn K C).any fun cd=>Zpv cd.mro&&cd.hasDict)=true
noncomputable def Zdo(a C:Addr)(dx:Option Addr):Heap→Prop:=fun h=>∃o t,h.get? a=some o∧o.cls= .ref C∧o.dict=dx∧o.data= .fields #[.ref t,.none,.none,.none,.bool false,.none]
section
variable{prog:Program}{w:World}{A:Around}{E:Value→Shared→Prop}{s:Shared}{K:PySem.W.Frag}{x C:Addr}{name:Str}{v:Value}
end
end L2
namespace L2
open PySem PySem.Spec PyProof.Rows
noncomputable def Z0m(K:PySem.W.Frag)(C f:Addr):Bool:=match K.lookup C with
 |some ⟨.type "type",_,.cls cd,sl⟩=>(match cd.mro,sl.toList with
  | .ref B::r,[_,_,_,_,some (.builtin i),_]=>B==C&&i=="ValueError.__new__" && !cd.hasDel&&PySem.W.tailIn K VEB r&&PySem.W.nsOkIn K cd.ns&&PySem.W.nsIn K cd.ns "__init__"==some (some (.ref f))
  |_,_=>false)
 |_=>false
noncomputable def Zx6(C f:Addr)(h:Heap):Prop:=∃(bm:List Value) (N:Addr) (nm q:Str) (bs:List Value) (hdct:Bool) (sn:List Str) (sub:List Value) (ab:Bool) (col:Option Bool) (dd:Option Addr) (k0 k1 k2 k3 k5:Option Value) (mN:Str→Option Value),
 h.get? C=some (excClassObj nm q C N bs bm hdct sn sub ab col dd k0 k1 k2 k3 k5 "ValueError.__new__")∧h.Ns N mN∧mN "__init__"=some (.ref f)∧OwnTail h VEB bm
noncomputable def drop(H:Hp)(e:Addr):Hp:=fun b=>if b=e then none else H b
section
variable{X:Cx}{pins:List (Addr×Obj)}{σ:St}{H:Hp}{s:Shared}{e C:Addr}
end
structure ExcGet(K:PySem.W.Frag)(C:Addr)(f:Str):Prop where
 kit:ExcKit K C
 na:PySem.W.findIn K (.ref C) f=some none
 mr:((PySem.W.clsIn K C).any fun cd=>cd.hasDict)=true
noncomputable def Z0n(K:PySem.W.Frag)(ta:TE)(f:Str):TE:=fun σ H Q=>ta σ H fun x H1=>∃a C dx fs v,x= .ref a∧H1 a=some (.ext (Zjz a C (some dx)))∧H1 dx=some (.xd fs)∧ExcGet K C f∧fs.lookup f=some v∧Q v H1
section
variable{X:Cx}{e o value:Expr}{f:Str}{pos pos':Pos}{ta tv:TE}
noncomputable def Z0o(K:PySem.W.Frag)(ta tv:TE)(f:Str):TS:=fun D σ H=>tv σ H fun y H1=>ta σ H1 fun x H2=>∃a C,x= .ref a∧H2 a=some (.ext (Zdo a C none))∧ExcSet K C f∧
 ∀dx,H2 dx=none→D.nx σ (upd (upd H2 dx (.xd [(f,y)])) a (.ext (Zdo a C (some dx))))
end
noncomputable def Zx7(EX:XK)(C:Addr)(sp:Sp)(t:TA):TS:=fun _ σ H=>t σ H fun vs H1=>vs.length≤sizeLine∧∀e,H1 e=none→sp (.ref e::vs) (upd H1 e (.ext (Zdo e C none))) (fun v H2=>v= .non∧∃dx,H2 e=some (.ext (Zdo e C dx))∧EX (.ref C) dx (drop H2 e)) E0
end L2
namespace DL
open PySem L2
variable{K:PySem.W.Frag}
inductive D where
 |non|bl (b:Bool)|int (i:Int)|str (x:Str)
 |tup (xs:List D)|lst (xs:List D)
 |dK (ks:List Key) (vs:List D)|dT (ks:List (List Key)) (vs:List D)
 |exc (c:Str) (ks:List Str) (vs:List D)
noncomputable def Zhy(K:PySem.W.Frag)(c:Str)(C:Addr):Prop:=PySem.W.nsIn K mainGlobals c=some (some (.ref C))
noncomputable def KB(F:Hp)(kvs:List (List Key×V))(bs:List Addr):Prop:=Paired (fun(p:List Key×V) (b:Addr)=>F b=some (.tup (p.1.map kV))) kvs bs
mutual
inductive Rep(K:PySem.W.Frag)(F:Hp):D→V→Prop where
 |non:Rep K F .non .non
 |bl (b:Bool):Rep K F (.bl b) (.bl b)
 |int (i:Int):Rep K F (.int i) (.int i)
 |str (x:Str):Rep K F (.str x) (.str x)
 |tup {a:Addr} {xs:List D} {vs:List V} (h:F a=some (.tup vs)) (r:Reps K F xs vs):Rep K F (.tup xs) (.ref a)
 |lst {a:Addr} {xs:List D} {vs:List V} (h:SqL K F a vs) (r:Reps K F xs vs):Rep K F (.lst xs) (.ref a)
 |dK {a:Addr} {ks:List Key} {ds:List D} {kvs:List (Key×V)} {ep:Nat} (h:F a=some (.dK kvs ep)) (e:kvs.map (·.1)=ks) (r:Reps K F ds (kvs.map (·.2))):Rep K F (.dK ks ds) (.ref a)
 |dT {a:Addr} {ks:List (List Key)} {ds:List D} {kvs:List (List Key×V)} {ep:Nat} {bs:List Addr} (h:F a=some (.dT kvs ep bs)) (kb:KB F kvs bs) (e:kvs.map (·.1)=ks) (r:Reps K F ds (kvs.map (·.2))):Rep K F (.dT ks ds) (.ref a)
 |exc {a C:Addr} {c:Str} (cl:Zhy K c C) (h:F a=some (.ext (Zjz a C none))):Rep K F (.exc c [] []) (.ref a)
 |exd {a C dx:Addr} {c:Str} {ks:List Str} {ds:List D} {fs:List (Str×V)} (cl:Zhy K c C) (h:F a=some (.ext (Zjz a C (some dx)))) (hx:F dx=some (.xd fs)) (e:fs.map (·.1)=ks) (r:Reps K F ds (fs.map (·.2))):Rep K F (.exc c ks ds) (.ref a)
inductive Reps(K:PySem.W.Frag)(F:Hp):List D→List V→Prop where
 |nil:Reps K F [] []
 |cons {d:D} {v:V} {ds:List D} {vs:List V} (h:Rep K F d v) (t:Reps K F ds vs):Reps K F (d::ds) (v::vs)
end
theorem KB.mono{F F':Hp}(s:Same F F'){kvs:List (List Key×V)}{bs:List Addr}(h:KB F kvs bs):KB F' kvs bs:=Paired.mapP h fun _ _ z=>s _ _ z
theorem Zpw{F F':Hp}(s:Same F F'){a:Addr}{u:HO}(h:Rd F a u):Rd F' a u:=by
 rcases h with h|⟨o,h⟩
 ·exact .inl (s _ _ h)
 ·exact .inr ⟨o,s _ _ h⟩
theorem Zal{F F':Hp}(s:Same F F'){a:Addr}{xs:List V}(h:SqL K F a xs):SqL K F' a xs:=by
 rcases h with h|h
 ·exact .inl (Zpw s h)
 ·exact .inr h
theorem Zaw{F F':Hp}(s:Same F F'){a:Addr}{xs:List V}(h:SqT K F a xs):SqT K F' a xs:=by
 rcases h with h|h
 ·exact .inl (Zpw s h)
 ·exact .inr h
theorem Zel{F:Hp}{a:Addr}{vs:List V}(h:F a=some (.tup vs)):SqT K F a vs:=.inl (.inl h)
mutual
theorem Rep.mono{F F':Hp}(s:Same F F'):∀{d:D} {v:V},Rep K F d v→Rep K F' d v
 |_,_,.non=>.non
 |_,_,.bl b=>.bl b
 |_,_,.int i=>.int i
 |_,_,.str x=>.str x
 |_,_,.tup h r=>.tup (s _ _ h) (Reps.mono s r)
 |_,_,.lst h r=>.lst (Zal s h) (Reps.mono s r)
 |_,_,.dK h e r=>.dK (s _ _ h) e (Reps.mono s r)
 |_,_,.dT h kb e r=>.dT (s _ _ h) (kb.mono s) e (Reps.mono s r)
 |_,_,.exc cl h=>.exc cl (s _ _ h)
 |_,_,.exd cl h hx e r=>.exd cl (s _ _ h) (s _ _ hx) e (Reps.mono s r)
theorem Reps.mono{F F':Hp}(s:Same F F'):∀{ds:List D} {vs:List V},Reps K F ds vs→Reps K F' ds vs
 |_,_,.nil=>.nil
 |_,_,.cons h t=>.cons (Rep.mono s h) (Reps.mono s t)
end
theorem Reps.length{F:Hp}{ds:List D}:∀{vs:List V},Reps K F ds vs→ds.length=vs.length:=by
 induction ds with
 |nil=>intro vs h;cases h;rfl
 |cons d ds ih=>
  intro vs h
  cases h with
  |cons _ t=>rw[List.length_cons,List.length_cons,ih t]
theorem Reps.append{F:Hp}{ds es:List D}{vs us:List V}(h:Reps K F ds vs)(q:Reps K F es us):Reps K F (ds++es) (vs++us):=by
 induction ds generalizing vs with
 |nil=>cases h;exact q
 |cons d ds ih=>
  cases h with
  |cons h t=>exact .cons h (ih t)
theorem Reps.snoc{F:Hp}{ds:List D}{vs:List V}{d:D}{v:V}(r:Reps K F ds vs)(h:Rep K F d v):Reps K F (ds++[d]) (vs++[v]):=r.append (.cons h .nil)
theorem Reps.get{F:Hp}:∀{ds:List D} {vs:List V} {i:Nat} {d:D},Reps K F ds vs→ds[i]? =some d→∃v,vs[i]? =some v∧Rep K F d v
 |_,_,_,_,.nil,e=>by simp at e
 |_,_,0,_,.cons h t,e=>by simp at e;subst e;exact⟨_,rfl,h⟩
 |_,_,i+1,d,.cons h t,e=>by
  obtain⟨v,h1,h2⟩:=Reps.get (i:=i) (d:=d) t (by simpa using e)
  exact⟨v,by simpa using h1,h2⟩
theorem Reps.take{F:Hp}:∀{ds:List D} {vs:List V} (n:Nat),Reps K F ds vs→Reps K F (ds.take n) (vs.take n)
 |_,_,0,_=>.nil
 |_,_,_+1,.nil=>.nil
 |_,_,n+1,.cons h t=>.cons h (t.take n)
theorem Reps.drop{F:Hp}:∀{ds:List D} {vs:List V} (n:Nat),Reps K F ds vs→Reps K F (ds.drop n) (vs.drop n)
 |_,_,0,r=>r
 |_,_,_+1,.nil=>.nil
 |_,_,n+1,.cons h t=>t.drop n
inductive SV where
 |fz (d:D)|ol (xs:List D)|oK (ks:List Key) (vs:List D)|oT (ks:List (List Key)) (vs:List D)|oN (ks:List Key) (xss:List (List D))|oL (pin:Option Addr) (xss:List (List D))|oQ (pin:Addr) (ks:List Key) (vs:List D)
@[simp] noncomputable def SV.toD:SV→D
 | .fz d=>d
 | .ol xs=>.lst xs
 | .oK ks vs=>.dK ks vs
 | .oT ks vs=>.dT ks vs
 | .oN ks xss=>.dK ks (xss.map D.lst)
 | .oL _ xss=>.lst (xss.map D.lst)
 | .oQ _ ks vs=>.dK ks vs
noncomputable abbrev Zn:=List (Addr×HO)
inductive Kids(K:PySem.W.Frag)(F:Hp):List (List D)→List V→Zn→Prop where
 |nil:Kids K F [] [] []
 |cons {xs:List D} {xss:List (List D)} {b:Addr} {vs:List V} {ws:List V} {ns:Zn} (r:Reps K F xs vs) (t:Kids K F xss ws ns):Kids K F (xs::xss) (.ref b::ws) ((b,.lst vs)::ns)
inductive Shape(K:PySem.W.Frag)(F:Hp):SV→V→Zn→Prop where
 |fz {d:D} {v:V} (h:Rep K F d v):Shape K F (.fz d) v []
 |ol {a:Addr} {xs:List D} {vs:List V} (r:Reps K F xs vs):Shape K F (.ol xs) (.ref a) [(a,.lst vs)]
 |oK {a:Addr} {ks:List Key} {ds:List D} {kvs:List (Key×V)} {ep:Nat} (e:kvs.map (·.1)=ks) (r:Reps K F ds (kvs.map (·.2))):Shape K F (.oK ks ds) (.ref a) [(a,.dK kvs ep)]
 |oT {a:Addr} {ks:List (List Key)} {ds:List D} {kvs:List (List Key×V)} {ep:Nat} {bs:List Addr} (kb:KB F kvs bs) (e:kvs.map (·.1)=ks) (r:Reps K F ds (kvs.map (·.2))):Shape K F (.oT ks ds) (.ref a) [(a,.dT kvs ep bs)]
 |oN {a:Addr} {ks:List Key} {xss:List (List D)} {kvs:List (Key×V)} {ns:Zn} {ep:Nat} (e:kvs.map (·.1)=ks) (r:Kids K F xss (kvs.map (·.2)) ns):Shape K F (.oN ks xss) (.ref a) ((a,.dK kvs ep)::ns)
 |oL {pin:Option Addr} {a:Addr} {xss:List (List D)} {ws:List V} {ns:Zn} (hp:∀b,pin=some b→b=a) (r:Kids K F xss ws ns):Shape K F (.oL pin xss) (.ref a) ((a,.lst ws)::ns)
 |oQ {a:Addr} {ks:List Key} {ds:List D} {kvs:List (Key×V)} {ep:Nat} (e:kvs.map (·.1)=ks) (r:Reps K F ds (kvs.map (·.2))):Shape K F (.oQ a ks ds) (.ref a) [(a,.dK kvs ep)]
theorem Kids.mono{F F':Hp}(s:Same F F'){xss:List (List D)}{ws:List V}{ns:Zn}(h:Kids K F xss ws ns):Kids K F' xss ws ns:=by
 induction h with
 |nil=>exact .nil
 |cons r _ ih=>exact .cons (r.mono s) ih
theorem Shape.mono{F F':Hp}(s:Same F F'){sv:SV}{v:V}{ns:Zn}(h:Shape K F sv v ns):Shape K F' sv v ns:=by
 cases h with
 |fz h=>exact .fz (h.mono s)
 |ol r=>exact .ol (r.mono s)
 |oK e r=>exact .oK e (r.mono s)
 |oT kb e r=>exact .oT (kb.mono s) e (r.mono s)
 |oN e r=>exact .oN e (r.mono s)
 |oL hp r=>exact .oL hp (r.mono s)
 |oQ e r=>exact .oQ e (r.mono s)
noncomputable def addL(F:Hp):Zn→Hp
 | []=>F
 |p::r=>upd (addL F r) p.1 p.2
noncomputable abbrev adr(ns:Zn):List Addr:=ns.map (·.1)
theorem Zcc{F:Hp}{b:Addr}:∀{ns:Zn},b∉adr ns→addL F ns b=F b
 | [],_=>rfl
 |p::r,h=>by
  have h1:b≠p.1:=fun e=>h (by rw[e];exact List.mem_cons_self)
  have h2:b∉adr r:=fun e=>h (List.mem_cons_of_mem _ e)
  show upd (addL F r) p.1 p.2 b=F b
  rw[Zm h1,Zcc h2]
theorem Zfj{F:Hp}{p:Addr×HO}:∀{ns:Zn},(adr ns).Nodup→p∈ns→addL F ns p.1=some p.2
 | [],_,h=>nomatch h
 |q::r,nd,h=>by
  obtain⟨n1,n2⟩:=List.nodup_cons.mp nd
  show upd (addL F r) q.1 q.2 p.1=some p.2
  rcases List.mem_cons.mp h with e|e
  ·subst e;exact Zu
  ·rw[Zm fun z=>n1 (List.mem_map.mpr ⟨p,e,z⟩)]
   exact Zfj n2 e
theorem Zax{F:Hp}{ns:Zn}(h:∀p∈ns,F p.1=none):Same F (addL F ns):=fun b o e=>by
 by_cases hb:b∈adr ns
 ·obtain⟨p,hp,ep⟩:=List.mem_map.mp hb
  subst ep
  rw[h p hp]at e;cases e
 ·rw[Zcc hb];exact e
theorem Zlk{F H:Hp}{ns:Zn}(nd:(adr ns).Nodup)(le:Same F H)(h:∀p∈ns,H p.1=some p.2):Same (addL F ns) H:=fun b o e=>by
 by_cases hb:b∈adr ns
 ·obtain⟨p,hp,ep⟩:=List.mem_map.mp hb
  subst ep
  rw[Zfj nd hp]at e
  cases e
  exact h p hp
 ·rw[Zcc hb]at e;exact le b o e
theorem Ziv{Z:Hp×Hp}{F:Hp}{ns:Zn}(nd:(adr ns).Nodup)(fro:∀(b:Addr) (o:HO),F b=some o→Z.2 b=some o∨Z.1 b=none)(hz:∀p∈ns,Z.1 p.1=none):∀(b:Addr) (o:HO),addL F ns b=some o→Z.2 b=some o∨Z.1 b=none:=fun b o e=>by
 by_cases hb:b∈adr ns
 ·obtain⟨p,hp,ep⟩:=List.mem_map.mp hb
  subst ep
  exact .inr (hz p hp)
 ·rw[Zcc hb]at e;exact fro b o e
theorem Kids.rep{F F':Hp}(s:Same F F'):∀{xss:List (List D)} {ws:List V} {ns:Zn},Kids K F xss ws ns→(∀p∈ns,F' p.1=some p.2)→Reps K F' (xss.map D.lst) ws
 |_,_,_,.nil,_=>.nil
 |_,_,_,.cons r t,h=>.cons (.lst (.inl (.inl (h _ List.mem_cons_self))) (r.mono s)) (t.rep s fun p hp=>h p (List.mem_cons_of_mem _ hp))
theorem Shape.rep{F:Hp}{sv:SV}{v:V}{ns:Zn}(h:Shape K F sv v ns)(nd:(adr ns).Nodup)(hn:∀p∈ns,F p.1=none):Rep K (addL F ns) sv.toD v:=by
 have s:=Zax hn
 have a:∀p∈ns,addL F ns p.1=some p.2:=fun p hp=>Zfj nd hp
 cases h with
 |fz h=>exact h
 |ol r=>exact .lst (.inl (.inl (a (_,_) List.mem_cons_self))) (r.mono s)
 |oK e r=>exact .dK (a (_,_) List.mem_cons_self) e (r.mono s)
 |oT kb e r=>exact .dT (a (_,_) List.mem_cons_self) (kb.mono s) e (r.mono s)
 |oN e r=>exact .dK (a (_,_) List.mem_cons_self) e (r.rep s fun p hp=>a p (List.mem_cons_of_mem _ hp))
 |oL _ r=>exact .lst (.inl (.inl (a (_,_) List.mem_cons_self))) (r.rep s fun p hp=>a p (List.mem_cons_of_mem _ hp))
 |oQ e r=>exact .dK (a (_,_) List.mem_cons_self) e (r.mono s)
noncomputable abbrev DSt:=List (Option SV)
set_option genInjectivity false in
structure Ent(K:PySem.W.Frag)where
 h:Hp
 f:Hp
 x:EXT
noncomputable abbrev ent(H F:Hp):Ent K:=⟨H,F,fun _ _ _ _=>False⟩
set_option genInjectivity false in
structure Exn where
 c:Str
 ks:List Str:=[]
 vs:List D:=[]
noncomputable def Ziw(K:PySem.W.Frag)(F:Hp)(e:Exn)(cls:Value)(od:Option Addr):Prop:=∃C,Zhy K e.c C∧cls= .ref C∧match od with
 |none=>e.ks=[]∧e.vs=[]
 |some dx=>∃fs:List (Str×V),F dx=some (.xd fs)∧fs.map (·.1)=e.ks∧Reps K F e.vs (fs.map (·.2))
structure SR(Z:Ent K)(F H:Hp)(σ:St)(δ:DSt)(own:Nat→Zn):Prop where
 le:Same F H
 fro:∀(b:Addr) (o:HO),F b=some o→Z.f b=some o∨Z.h b=none
 old:Same Z.h H
 len:σ.length=δ.length
 at':∀(i:Nat) (sv:SV),δ[i]? =some (some sv)→∃v,σ[i]? =some (some v)∧Shape K F sv v (own i)
 nod:∀i:Nat,(adr (own i)).Nodup
 ok:∀(i:Nat) (p:Addr×HO),p∈own i→F p.1=none∧Z.h p.1=none∧H p.1=some p.2
 sep:∀(i j:Nat) (p q:Addr×HO),i≠j→p∈own i→q∈own j→p.1≠q.1
inductive RV where
 |tmp (sv:SV)|bw (i:Nat)
structure TmpOk(Z:Ent K)(F H:Hp)(own:Nat→Zn)(sv:SV)(v:V)(ns:Zn):Prop where
 sh:Shape K F sv v ns
 nd:(adr ns).Nodup
 ok:∀p∈ns,F p.1=none∧Z.h p.1=none∧H p.1=some p.2
 sep:∀(i:Nat) (p q:Addr×HO),p∈ns→q∈own i→p.1≠q.1
noncomputable def Zj0(Z:Ent K)(F H:Hp)(σ:St)(own:Nat→Zn):RV→V→Prop
 | .tmp sv,v=>∃ns,TmpOk Z F H own sv v ns
 | .bw i,v=>σ[i]? =some (some v)
theorem TmpOk.fz{Z:Ent K}{F H:Hp}{own:Nat→Zn}{d:D}{v:V}(h:Rep K F d v):TmpOk Z F H own (.fz d) v []:=
 ⟨.fz h,List.nodup_nil,fun _ h=>(nomatch h),fun _ _ _ h=>(nomatch h)⟩
theorem Zbs{H:Hp}{p:Addr}{o:HO}(h:H p=none):Same H (upd H p o):=fun b u e=>by
 rw[Zm fun z=>by rw[z,h]at e;cases e];exact e
theorem SR.grow{Z:Ent K}{F H H':Hp}{σ:St}{δ:DSt}{own:Nat→Zn}(s:SR Z F H σ δ own)(h:Same H H'):SR Z F H' σ δ own:=
 ⟨s.le.trans h,s.fro,s.old.trans h,s.len,s.at',s.nod,fun i p hp=>let⟨a,b,c⟩:=s.ok i p hp;⟨a,b,h _ _ c⟩,s.sep⟩
theorem SR.addF{Z:Ent K}{F H:Hp}{σ:St}{δ:DSt}{own:Nat→Zn}{ns:Zn}(s:SR Z F H σ δ own)(nd:(adr ns).Nodup)(hn:∀p∈ns,F p.1=none)(hH:∀p∈ns,H p.1=some p.2)(hz:∀p∈ns,Z.h p.1=none)
  (hs:∀(i:Nat) (p q:Addr×HO),p∈ns→q∈own i→p.1≠q.1):SR Z (addL F ns) H σ δ own:=by
 have sm:=Zax hn
 refine⟨Zlk nd s.le hH,Ziv (Z:=(Z.h,Z.f)) nd s.fro hz,s.old,s.len,fun i sv e=>?_,s.nod,fun i p hp=>?_,s.sep⟩
 ·obtain⟨v,h1,h2⟩:=s.at' i sv e
  exact⟨v,h1,h2.mono sm⟩
 ·obtain⟨a,b,c⟩:=s.ok i p hp
  refine⟨?_,b,c⟩
  rw[Zcc fun hb=>?_]
  ·exact a
  ·obtain⟨q,hq,e⟩:=List.mem_map.mp hb
   exact hs i q p hq hp e
theorem SR.settle{Z:Ent K}{F H:Hp}{σ:St}{δ:DSt}{own:Nat→Zn}{sv:SV}{v:V}{ns:Zn}(s:SR Z F H σ δ own)(t:TmpOk Z F H own sv v ns):
  ∃F1,Same F F1∧SR Z F1 H σ δ own∧Rep K F1 sv.toD v:=
 ⟨addL F ns,Zax fun p hp=>(t.ok p hp).1,s.addF t.nd (fun p hp=>(t.ok p hp).1) (fun p hp=>(t.ok p hp).2.2) (fun p hp=>(t.ok p hp).2.1) t.sep,t.sh.rep t.nd fun p hp=>(t.ok p hp).1⟩
noncomputable def put(own:Nat→Zn)(i:Nat)(ns:Zn):Nat→Zn:=fun j=>if j=i then ns else own j
theorem Z4{own:Nat→Zn}{i:Nat}{ns:Zn}:put own i ns i=ns:=if_pos rfl
theorem Zam{own:Nat→Zn}{i j:Nat}{ns:Zn}(h:j≠i):put own i ns j=own j:=if_neg h
theorem SR.freeze{Z:Ent K}{F H:Hp}{σ:St}{δ:DSt}{own:Nat→Zn}{i:Nat}{sv:SV}(s:SR Z F H σ δ own)(e:δ[i]? =some (some sv)):
  ∃F1 v,Same F F1∧σ[i]? =some (some v)∧Rep K F1 sv.toD v∧SR Z F1 H σ (δ.set i (some (.fz sv.toD))) (put own i []):=by
 obtain⟨v,h1,h2⟩:=s.at' i sv e
 have hn:∀p∈own i,F p.1=none:=fun p hp=>(s.ok i p hp).1
 have sm:=Zax hn
 have hi:i<δ.length:=(List.getElem?_eq_some_iff.mp e).1
 refine⟨addL F (own i),v,sm,h1,h2.rep (s.nod i) hn,⟨Zlk (s.nod i) s.le fun p hp=>(s.ok i p hp).2.2,Ziv (Z:=(Z.h,Z.f)) (s.nod i) s.fro fun p hp=>(s.ok i p hp).2.1,s.old,by rw[List.length_set];exact s.len,fun j sw ej=>?_,fun j=>?_,fun j p hp=>?_,fun j k p q hjk hp hq=>?_⟩⟩
 ·by_cases hj:j=i
  ·subst hj
   rw[List.getElem?_set_self hi]at ej
   cases ej
   rw[Z4]
   exact⟨v,h1,.fz (h2.rep (s.nod j) hn)⟩
  ·rw[List.getElem?_set_ne (Ne.symm hj)]at ej
   obtain⟨w,g1,g2⟩:=s.at' j sw ej
   rw[Zam hj]
   exact⟨w,g1,g2.mono sm⟩
 ·by_cases hj:j=i
  ·subst hj;rw[Z4];exact List.nodup_nil
  ·rw[Zam hj];exact s.nod j
 ·by_cases hj:j=i
  ·subst hj;rw[Z4]at hp;exact nomatch hp
  ·rw[Zam hj]at hp
   obtain⟨a,b,c⟩:=s.ok j p hp
   refine⟨?_,b,c⟩
   rw[Zcc fun hb=>?_]
   ·exact a
   ·obtain⟨q,hq,z⟩:=List.mem_map.mp hb
    exact s.sep i j q p (Ne.symm hj) hq hp z
 ·by_cases hj:j=i
  ·subst hj;rw[Z4]at hp;exact nomatch hp
  ·by_cases hk:k=i
   ·subst hk;rw[Z4]at hq;exact nomatch hq
   ·rw[Zam hj]at hp
    rw[Zam hk]at hq
    exact s.sep j k p q hjk hp hq
theorem SR.store{Z:Ent K}{F H:Hp}{σ:St}{δ:DSt}{own:Nat→Zn}{i:Nat}{sv:SV}{v:V}{ns:Zn}(s:SR Z F H σ δ own)(t:TmpOk Z F H own sv v ns)(hi:i<σ.length):
  SR Z F H (σ.set i (some v)) (δ.set i (some sv)) (put own i ns):=by
 refine⟨s.le,s.fro,s.old,by rw[List.length_set,List.length_set];exact s.len,fun j sw ej=>?_,fun j=>?_,fun j p hp=>?_,fun j k p q hjk hp hq=>?_⟩
 ·by_cases hj:j=i
  ·subst hj
   have hd:j<δ.length:=by
    have:=(List.getElem?_eq_some_iff.mp ej).1
    simpa using this
   rw[List.getElem?_set_self hd]at ej
   cases ej
   rw[Z4,List.getElem?_set_self hi]
   exact⟨v,rfl,t.sh⟩
  ·rw[List.getElem?_set_ne (Ne.symm hj)]at ej
   rw[Zam hj,List.getElem?_set_ne (Ne.symm hj)]
   exact s.at' j sw ej
 ·by_cases hj:j=i
  ·subst hj;rw[Z4];exact t.nd
  ·rw[Zam hj];exact s.nod j
 ·by_cases hj:j=i
  ·subst hj;rw[Z4]at hp;exact t.ok p hp
  ·rw[Zam hj]at hp;exact s.ok j p hp
 ·by_cases hj:j=i
  ·subst hj
   rw[Z4]at hp
   rw[Zam (Ne.symm hjk)]at hq
   exact t.sep k p q hp hq
  ·by_cases hk:k=i
   ·subst hk
    rw[Z4]at hq
    rw[Zam hj]at hp
    exact Ne.symm (t.sep j q p hq hp)
   ·rw[Zam hj]at hp
    rw[Zam hk]at hq
    exact s.sep j k p q hjk hp hq
theorem SR.change{Z:Ent K}{F H:Hp}{σ:St}{δ:DSt}{own:Nat→Zn}{i:Nat}{sv sv':SV}{a:Addr}{o o':HO}{v:V}{ns':Zn}(s:SR Z F H σ δ own)(e:δ[i]? =some (some sv))(hv:σ[i]? =some (some v))
  (ha:(a,o)∈own i) (hs:Shape K F sv' v ns') (hns:∀p∈ns',p=(a,o')∨(p∈own i∧p.1≠a)) (nd:(adr ns').Nodup):SR Z F (upd H a o') σ (δ.set i (some sv')) (put own i ns'):=by
 obtain⟨fa,ha0,hHa⟩:=s.ok i (a,o) ha
 have hi:i<δ.length:=(List.getElem?_eq_some_iff.mp e).1
 refine⟨fun b u eb=>?_,s.fro,fun b u eb=>?_,by rw[List.length_set];exact s.len,fun j sw ej=>?_,fun j=>?_,fun j p hp=>?_,fun j k p q hjk hp hq=>?_⟩
 ·rw[Zm fun z=>by rw[z]at eb;rw[fa]at eb;cases eb];exact s.le b u eb
 ·rw[Zm fun z=>by rw[z]at eb;rw[ha0]at eb;cases eb];exact s.old b u eb
 ·by_cases hj:j=i
  ·subst hj
   rw[List.getElem?_set_self hi]at ej
   cases ej
   rw[Z4]
   exact⟨v,hv,hs⟩
  ·rw[List.getElem?_set_ne (Ne.symm hj)]at ej
   rw[Zam hj]
   exact s.at' j sw ej
 ·by_cases hj:j=i
  ·subst hj;rw[Z4];exact nd
  ·rw[Zam hj];exact s.nod j
 ·by_cases hj:j=i
  ·subst hj
   rw[Z4]at hp
   rcases hns p hp with z|⟨z,ne⟩
   ·subst z;exact⟨fa,ha0,Zu⟩
   ·obtain⟨x,y,w⟩:=s.ok j p z
    exact⟨x,y,by rw[Zm ne];exact w⟩
  ·rw[Zam hj]at hp
   obtain⟨x,y,w⟩:=s.ok j p hp
   exact⟨x,y,by rw[Zm (s.sep j i p (a,o) hj hp ha)];exact w⟩
 ·have own':∀r∈ns',∃r'∈own i,r.1=r'.1:=fun r hr=>by
   rcases hns r hr with z|⟨z,_⟩
   ·subst z;exact⟨(a,o),ha,rfl⟩
   ·exact⟨r,z,rfl⟩
  by_cases hj:j=i
  ·subst hj
   rw[Z4]at hp
   rw[Zam (Ne.symm hjk)]at hq
   obtain⟨r',hr',er⟩:=own' p hp
   rw[er]
   exact s.sep j k r' q hjk hr' hq
  ·by_cases hk:k=i
   ·subst hk
    rw[Z4]at hq
    rw[Zam hj]at hp
    obtain⟨r',hr',er⟩:=own' q hq
    rw[er]
    exact s.sep j k p r' hjk hp hr'
   ·rw[Zam hj]at hp
    rw[Zam hk]at hq
    exact s.sep j k p q hjk hp hq
end DL
namespace DL
open PySem L2
variable{K:PySem.W.Frag}
noncomputable abbrev FE:=DSt→Option (RV×DSt)
noncomputable abbrev FT:=DSt→Option (Bool×DSt)
noncomputable abbrev FA:=DSt→Option (List RV×DSt)
noncomputable abbrev FD:=DSt→Option (List D×DSt)
@[simp] noncomputable def SV.nested:SV→Bool
 | .oN _ _=>true
 | .oL _ _=>true
 |_=>false
@[simp] noncomputable def rdv:RV→DSt→Option D
 | .tmp sv,_=>some sv.toD
 | .bw i,δ=>(δ[i]?.join).bind fun sv=>if sv.nested then none else some sv.toD
@[simp] noncomputable def frz:RV→DSt→Option (D×DSt)
 | .tmp sv,δ=>some (sv.toD,δ)
 | .bw i,δ=>(δ[i]?.join).bind fun sv=>some (sv.toD,δ.set i (some (.fz sv.toD)))
theorem Zbm{δ:DSt}{i:Nat}{sv:SV}(h:δ[i]?.join=some sv):δ[i]? =some (some sv):=by
 cases e:δ[i]? with
 |none=>rw[e]at h;cases h
 |some o=>rw[e]at h;cases o with
  |none=>cases h
  |some s=>cases h;rfl
noncomputable def Ze(Z:Ent K)(f:FE):TE:=fun σ H Q=>∃F δ own rv δ',SR Z F H σ δ own∧f δ=some (rv,δ')∧
 ∀v H' F' own',Same H H'→Same F F'→SR Z F' H' σ δ' own'→Zj0 Z F' H' σ own' rv v→Q v H'
noncomputable def Z5(Z:Ent K)(f:FT):TT:=fun σ H Q=>∃F δ own b δ',SR Z F H σ δ own∧f δ=some (b,δ')∧
 ∀H' F' own',Same H H'→Same F F'→SR Z F' H' σ δ' own'→Q b H'
noncomputable def RVS(K:PySem.W.Frag)(F:Hp)(σ:St):RV→V→Prop
 | .tmp sv,v=>Rep K F sv.toD v
 | .bw i,v=>σ[i]? =some (some v)
inductive RVSs(K:PySem.W.Frag)(F:Hp)(σ:St):List RV→List V→Prop where
 |nil:RVSs K F σ [] []
 |cons {rv:RV} {v:V} {rvs:List RV} {vs:List V} (h:RVS K F σ rv v) (t:RVSs K F σ rvs vs):RVSs K F σ (rv::rvs) (v::vs)
noncomputable def Zcg(Z:Ent K)(f:FA):TA:=fun σ H Q=>∃F δ own rvs δ',SR Z F H σ δ own∧f δ=some (rvs,δ')∧
 ∀vs H' F' own',Same H H'→Same F F'→SR Z F' H' σ δ' own'→RVSs K F' σ rvs vs→Q vs H'
noncomputable def Zbg(Z:Ent K)(f:FD):TA:=fun σ H Q=>∃F δ own ds δ',SR Z F H σ δ own∧f δ=some (ds,δ')∧
 ∀vs H' F' own',Same H H'→Same F F'→SR Z F' H' σ δ' own'→Reps K F' ds vs→Q vs H'
section
variable{Z:Ent K}{F H F' H':Hp}{σ:St}{δ δ':DSt}{own:Nat→Zn}{rv:RV}{v:V}{d:D}{Q:VK}
theorem RVS.mono(s:Same F F')(h:RVS K F σ rv v):RVS K F' σ rv v:=by
 cases rv with
 |tmp sv=>exact Rep.mono s h
 |bw i=>exact h
theorem SR.settleR(s:SR Z F H σ δ own)(h:Zj0 Z F H σ own rv v):∃F1,Same F F1∧SR Z F1 H σ δ own∧RVS K F1 σ rv v:=by
 cases rv with
 |tmp sv=>obtain⟨ns,t⟩:=h;exact s.settle t
 |bw i=>exact⟨F,Same.refl F,s,h⟩
theorem SR.frzR(s:SR Z F H σ δ own)(h:RVS K F σ rv v)(e:frz rv δ=some (d,δ')):∃F1 own1,Same F F1∧SR Z F1 H σ δ' own1∧Rep K F1 d v:=by
 cases rv with
 |tmp sv=>cases e;exact⟨F,own,Same.refl F,s,h⟩
 |bw i=>
  obtain⟨sv,e1,e2⟩:=Option.bind_eq_some_iff.mp e
  cases e2
  obtain⟨F1,w,h1,h2,h3,h4⟩:=s.freeze (Zbm e1)
  have h':σ[i]? =some (some v):=h
  rw[h']at h2;cases h2
  exact⟨F1,_,h1,h4,h3⟩
noncomputable def RepN(K:PySem.W.Frag)(F H:Hp)(d:D)(v:V):Prop:=∃sv ns,sv.toD=d∧sv.nested=false∧Shape K F sv v ns∧∀p∈ns,H p.1=some p.2
theorem RepN.of(h:Rep K F d v):RepN K F H d v:=⟨.fz d,[],rfl,rfl,.fz h,fun _ h=>nomatch h⟩
theorem SR.rd(s:SR Z F H σ δ own)(h:RVS K F σ rv v)(e:rdv rv δ=some d):RepN K F H d v:=by
 cases rv with
 |tmp sv=>cases e;exact RepN.of h
 |bw i=>
  obtain⟨sv,e1,e2⟩:=Option.bind_eq_some_iff.mp e
  cases hn:sv.nested with
  |true=>rw[hn]at e2;cases e2
  |false=>
   rw[hn]at e2
   cases e2
   obtain⟨w,h1,h2⟩:=s.at' i sv (Zbm e1)
   have h':σ[i]? =some (some v):=h
   rw[h']at h1;cases h1
   exact⟨sv,own i,rfl,hn,h2,fun p hp=>(s.ok i p hp).2.2⟩
inductive RepNs(K:PySem.W.Frag)(F H:Hp):List D→List V→Prop where
 |nil:RepNs K F H [] []
 |cons {d:D} {v:V} {ds:List D} {vs:List V} (h:RepN K F H d v) (t:RepNs K F H ds vs):RepNs K F H (d::ds) (v::vs)
theorem RepN.non(h:RepN K F H .non v):v= .non:=by
 obtain⟨sv,ns,e,n,sh,hp⟩:=h
 cases sh with
 |fz r=>cases e;cases r;rfl
 |ol r=>cases e
 |oK e' r=>cases e
 |oT kb e' r=>cases e
 |oN e' r=>cases n
 |oL _ r=>cases n
 |oQ e' r=>cases e
theorem RepN.bl{b:Bool}(h:RepN K F H (.bl b) v):v= .bl b:=by
 obtain⟨sv,ns,e,n,sh,hp⟩:=h
 cases sh with
 |fz r=>cases e;cases r;rfl
 |ol r=>cases e
 |oK e' r=>cases e
 |oT kb e' r=>cases e
 |oN e' r=>cases n
 |oL _ r=>cases n
 |oQ e' r=>cases e
theorem RepN.int{i:Int}(h:RepN K F H (.int i) v):v= .int i:=by
 obtain⟨sv,ns,e,n,sh,hp⟩:=h
 cases sh with
 |fz r=>cases e;cases r;rfl
 |ol r=>cases e
 |oK e' r=>cases e
 |oT kb e' r=>cases e
 |oN e' r=>cases n
 |oL _ r=>cases n
 |oQ e' r=>cases e
theorem RepN.str{x:Str}(h:RepN K F H (.str x) v):v= .str x:=by
 obtain⟨sv,ns,e,n,sh,hp⟩:=h
 cases sh with
 |fz r=>cases e;cases r;rfl
 |ol r=>cases e
 |oK e' r=>cases e
 |oT kb e' r=>cases e
 |oN e' r=>cases n
 |oL _ r=>cases n
 |oQ e' r=>cases e
theorem RepN.tup{xs:List D}(le:Same F H)(h:RepN K F H (.tup xs) v):∃a vs,v= .ref a∧SqT K H a vs∧Reps K F xs vs:=by
 obtain⟨sv,ns,e,n,sh,hp⟩:=h
 cases sh with
 |fz r=>cases e;cases r with|tup h r=>exact⟨_,_,rfl,Zaw le (Zel h),r⟩
 |ol r=>cases e
 |oK e' r=>cases e
 |oT kb e' r=>cases e
 |oN e' r=>cases n
 |oL _ r=>cases n
 |oQ e' r=>cases e
theorem RepN.lst{xs:List D}(le:Same F H)(h:RepN K F H (.lst xs) v):∃a vs,v= .ref a∧SqL K H a vs∧Reps K F xs vs:=by
 obtain⟨sv,ns,e,n,sh,hp⟩:=h
 cases sh with
 |fz r=>cases e;cases r with|lst h r=>exact⟨_,_,rfl,Zal le h,r⟩
 |ol r=>cases e;exact⟨_,_,rfl,.inl (.inl (hp _ List.mem_cons_self)),r⟩
 |oK e' r=>cases e
 |oT kb e' r=>cases e
 |oN e' r=>cases n
 |oL _ r=>cases n
 |oQ e' r=>cases e
theorem RepN.dK{ks:List Key}{ds:List D}(le:Same F H)(h:RepN K F H (.dK ks ds) v):∃a kvs,v= .ref a∧HK H a kvs∧kvs.map (·.1)=ks∧Reps K F ds (kvs.map (·.2)):=by
 obtain⟨sv,ns,e,n,sh,hp⟩:=h
 cases sh with
 |fz r=>cases e;cases r with|dK h e r=>exact⟨_,_,rfl,⟨_,le _ _ h⟩,e,r⟩
 |ol r=>cases e
 |oK e' r=>cases e;exact⟨_,_,rfl,⟨_,hp _ List.mem_cons_self⟩,e',r⟩
 |oT kb e' r=>cases e
 |oN e' r=>cases n
 |oL _ r=>cases n
 |oQ e' r=>cases e;exact⟨_,_,rfl,⟨_,hp _ List.mem_cons_self⟩,e',r⟩
theorem RepN.dT{ks:List (List Key)}{ds:List D}(le:Same F H)(h:RepN K F H (.dT ks ds) v):∃a kvs,v= .ref a∧HTt H a kvs∧kvs.map (·.1)=ks∧Reps K F ds (kvs.map (·.2)):=by
 obtain⟨sv,ns,e,n,sh,hp⟩:=h
 cases sh with
 |fz r=>cases e;cases r with|dT h kb e r=>exact⟨_,_,rfl,⟨_,_,le _ _ h⟩,e,r⟩
 |ol r=>cases e
 |oK e' r=>cases e
 |oT kb e' r=>cases e;exact⟨_,_,rfl,⟨_,_,hp _ List.mem_cons_self⟩,e',r⟩
 |oN e' r=>cases n
 |oL _ r=>cases n
 |oQ e' r=>cases e
end
theorem nd1{a:Addr}:([a]:List Addr).Nodup:=List.nodup_cons.mpr ⟨fun h=>(nomatch h),List.nodup_nil⟩
noncomputable def Fin(Z:Ent K)(F H:Hp)(σ:St)(δ:DSt)(own:Nat→Zn)(sv:SV)(Q:VK):Prop:=
 ∀v H' F' ns,Same H H'→Same F F'→SR Z F' H' σ δ own→TmpOk Z F' H' own sv v ns→Q v H'
section
variable{Z:Ent K}{F H:Hp}{σ:St}{δ:DSt}{own:Nat→Zn}{Q:VK}
theorem Fin.fz{d:D}{v:V}(f:Fin Z F H σ δ own (.fz d) Q)(s:SR Z F H σ δ own)(h:Rep K F d v):Q v H:=f v H F [] (Same.refl H) (Same.refl F) s (.fz h)
theorem Fin.one{sv:SV}{o:HO}{p:Addr}(f:Fin Z F H σ δ own sv Q)(s:SR Z F H σ δ own)(sh:Shape K F sv (.ref p) [(p,o)])(hp:H p=none):Q (.ref p) (upd H p o):=by
 have sm:=Zbs (o:=o) hp
 refine f (.ref p) (upd H p o) F [(p,o)] sm (Same.refl F) (s.grow sm) ⟨sh,nd1,fun q hq=>?_,fun i q r hq hr=>?_⟩
 ·obtain rfl:=List.mem_singleton.mp hq
  exact⟨s.le.free hp,s.old.free hp,Zu⟩
 ·obtain rfl:=List.mem_singleton.mp hq
  intro e
  have e':p=r.1:=e
  have z:=(s.ok i r hr).2.2
  rw[←e',hp]at z;cases z
theorem Fin.lst{xs:List D}{vs:List V}{p:Addr}(f:Fin Z F H σ δ own (.ol xs) Q)(s:SR Z F H σ δ own)(r:Reps K F xs vs)(hp:H p=none):Q (.ref p) (upd H p (.lst vs)):=f.one s (.ol r) hp
theorem Fin.tup{xs:List D}{vs:List V}{p:Addr}(f:Fin Z F H σ δ own (.fz (.tup xs)) Q)(s:SR Z F H σ δ own)(r:Reps K F xs vs)(hp:H p=none):Q (.ref p) (upd H p (.tup vs)):=by
 have sm:=Zbs (o:=.tup vs) hp
 have sF:Same F (addL F [(p,.tup vs)]):=Zax fun q hq=>by obtain rfl:=List.mem_singleton.mp hq;exact s.le.free hp
 refine f (.ref p) (upd H p (.tup vs)) (addL F [(p,.tup vs)]) [] sm sF ?_ (.fz (.tup Zu (r.mono sF)))
 refine(s.grow sm).addF (nd1) (fun q hq=>?_) (fun q hq=>?_) (fun q hq=>?_) fun i q u hq hu=>?_
 ·obtain rfl:=List.mem_singleton.mp hq;exact s.le.free hp
 ·obtain rfl:=List.mem_singleton.mp hq;exact Zu
 ·obtain rfl:=List.mem_singleton.mp hq;exact s.old.free hp
 ·obtain rfl:=List.mem_singleton.mp hq
  intro e
  have e':p=u.1:=e
  have z:=(s.ok i u hu).2.2
  rw[←e',hp]at z;cases z
end
theorem Zcy{F:Hp}{d:D}{v:V}{ns:Zn}(h:Shape K F (.fz d) v ns):Rep K F d v:=by
 cases h with
 |fz r=>exact r
section
variable{Z:Ent K}{H:Hp}{σ:St}{Q:VK}
@[simp] noncomputable def Za(i:Nat):FE:=fun δ=>match δ[i]? with
 |some (some (.fz d))=>some (.tmp (.fz d),δ)
 |some (some _)=>some (.bw i,δ)
 |_=>none
theorem Zx8{i:Nat}(h:Ze Z (Za i) σ H Q):tVar i σ H Q:=by
 obtain⟨F,δ,own,rv,δ',s,e,k⟩:=h
 unfold Za at e
 split at e
 ·rename_i d hd
  cases e
  obtain⟨v,h1,h2⟩:=s.at' i _ hd
  exact⟨v,h1,k v H F own (Same.refl H) (Same.refl F) s ⟨[],.fz (Zcy h2)⟩⟩
 ·rename_i sv hsv hd
  cases e
  obtain⟨v,h1,h2⟩:=s.at' i _ hd
  exact⟨v,h1,k v H F own (Same.refl H) (Same.refl F) s h1⟩
 ·cases e
@[simp] noncomputable def Zb(d:D):FE:=fun δ=>some (.tmp (.fz d),δ)
theorem Zfk{d:D}{v:V}(hr:∀F,Rep K F d v)(h:Ze Z (Zb d) σ H Q):tC v σ H Q:=by
 obtain⟨F,δ,own,rv,δ',s,e,k⟩:=h
 cases e
 exact k v H F own (Same.refl H) (Same.refl F) s ⟨[],.fz (hr F)⟩
@[simp] noncomputable def Zk:FA:=fun δ=>some ([],δ)
@[simp] noncomputable def Zc(fe:FE)(fa:FA):FA:=fun δ=>(fe δ).bind fun p=>(fa p.2).bind fun q=>some (p.1::q.1,q.2)
theorem Zod{R:List V→Hp→Prop}(h:Zcg Z Zk σ H R):tNil σ H R:=by
 obtain⟨F,δ,own,rvs,δ',s,e,k⟩:=h
 cases e
 exact k [] H F own (Same.refl H) (Same.refl F) s .nil
theorem Zll{fe:FE}{fa:FA}{R:List V→Hp→Prop}(h:Zcg Z (Zc fe fa) σ H R):Zn5 (Ze Z fe) (Zcg Z fa) σ H R:=by
 obtain⟨F,δ,own,rvs,δ',s,e,k⟩:=h
 obtain⟨⟨rv,δ1⟩,e1,e2⟩:=Option.bind_eq_some_iff.mp e
 obtain⟨⟨rr,δ2⟩,e3,e4⟩:=Option.bind_eq_some_iff.mp e2
 cases e4
 refine⟨F,δ,own,rv,δ1,s,e1,fun v H1 F1 own1 sH sF s1 r1=>?_⟩
 obtain⟨F2,sF2,s2,r2⟩:=s1.settleR r1
 exact⟨F2,δ1,own1,rr,δ2,s2,e3,fun vs H3 F3 own3 sH3 sF3 s3 r3=>k _ H3 F3 own3 (sH.trans sH3) (sF.trans (sF2.trans sF3)) s3 (.cons (r2.mono sF3) r3)⟩
@[simp] noncomputable def Zb3:List RV→DSt→Option (List D)
 | [],_=>some []
 |rv::r,δ=>(rdv rv δ).bind fun d=>(Zb3 r δ).bind fun ds=>some (d::ds)
theorem SR.rdAll{F:Hp}{δ:DSt}{own:Nat→Zn}(s:SR Z F H σ δ own):∀{rvs:List RV} {vs:List V} {ds:List D},RVSs K F σ rvs vs→Zb3 rvs δ=some ds→RepNs K F H ds vs
 |_,_,_,.nil,e=>by cases e;exact .nil
 |_,_,_,.cons h t,e=>by
  obtain⟨d,e1,e2⟩:=Option.bind_eq_some_iff.mp e
  obtain⟨ds,e3,e4⟩:=Option.bind_eq_some_iff.mp e2
  cases e4
  exact .cons (s.rd h e1) (s.rdAll t e3)
@[simp] noncomputable def Zay(g:List D→Option SV)(fa:FA):FE:=fun δ=>(fa δ).bind fun p=>(Zb3 p.1 p.2).bind fun ds=>(g ds).bind fun sv=>some (.tmp sv,p.2)
noncomputable def Zfl(Z:Ent K)(r:List V→Hp→VK→Prop)(g:List D→Option SV):Prop:=
 ∀(F H:Hp) (σ:St) (δ:DSt) (own:Nat→Zn) (vs:List V) (ds:List D) (sv:SV) (Q:VK),SR Z F H σ δ own→RepNs K F H ds vs→g ds=some sv→Fin Z F H σ δ own sv Q→r vs H Q
theorem Zlm{r:List V→Hp→VK→Prop}{g:List D→Option SV}{fa:FA}(hg:Zfl Z r g)(h:Ze Z (Zay g fa) σ H Q):tCB r (Zcg Z fa) σ H Q:=by
 obtain⟨F,δ,own,rv,δ',s,e,k⟩:=h
 obtain⟨⟨rvs,δ1⟩,e1,e2⟩:=Option.bind_eq_some_iff.mp e
 obtain⟨ds,e3,e4⟩:=Option.bind_eq_some_iff.mp e2
 obtain⟨sv,e5,e6⟩:=Option.bind_eq_some_iff.mp e4
 cases e6
 refine⟨F,δ,own,rvs,δ1,s,e1,fun vs H1 F1 own1 sH sF s1 r1=>?_⟩
 exact hg F1 H1 σ δ1 own1 vs ds sv Q s1 (s1.rdAll r1 e3) e5 fun v H2 F2 ns sH2 sF2 s2 t=>k v H2 F2 own1 (sH.trans sH2) (sF.trans sF2) s2 ⟨ns,t⟩
@[simp] noncomputable def g2(g:D→D→Option SV):List D→Option SV
 | [x,y]=>g x y
 |_=>none
@[simp] noncomputable def binF(g:D→D→Option SV)(fa fb:FE):FE:=Zay (g2 g) (Zc fa (Zc fb Zk))
noncomputable def Zae(Z:Ent K)(r:R2)(g:D→D→Option SV):Prop:=
 ∀(F H:Hp) (σ:St) (δ:DSt) (own:Nat→Zn) (x y:V) (d1 d2:D) (sv:SV) (Q:VK),SR Z F H σ δ own→RepN K F H d1 x→RepN K F H d2 y→g d1 d2=some sv→Fin Z F H σ δ own sv Q→r x y H Q
theorem Zln{r:R2}{g:D→D→Option SV}{fa fb:FE}(hg:Zae Z r g)(h:Ze Z (binF g fa fb) σ H Q):tOp r (Ze Z fa) (Ze Z fb) σ H Q:=by
 have hN:Zfl Z (fun vs H Q=>∃x y,vs=[x,y]∧r x y H Q) (g2 g):=by
  intro F H σ δ own vs ds sv Q s rs e f
  cases rs with
  |nil=>cases e
  |cons h1 t1=>
   cases t1 with
   |nil=>cases e
   |cons h2 t2=>
    cases t2 with
    |nil=>exact⟨_,_,rfl,hg F H σ δ own _ _ _ _ sv Q s h1 h2 e f⟩
    |cons h3 t3=>cases e
 obtain⟨F,δ,own,rv,δ',s,e,k⟩:=Zlm hN h
 obtain⟨⟨rv1,δ1⟩,e1,e2⟩:=Option.bind_eq_some_iff.mp e
 obtain⟨⟨rr,δ2⟩,e3,e4⟩:=Option.bind_eq_some_iff.mp e2
 cases e4
 obtain⟨⟨rv2,δ3⟩,e5,e6⟩:=Option.bind_eq_some_iff.mp e3
 obtain⟨⟨rr',δ4⟩,e7,e8⟩:=Option.bind_eq_some_iff.mp e6
 cases e8
 cases e7
 refine⟨F,δ,own,rv1,δ1,s,e1,fun v H1 F1 own1 sH sF s1 r1=>?_⟩
 obtain⟨F2,sF2,s2,r2⟩:=s1.settleR r1
 refine⟨F2,δ1,own1,rv2,δ3,s2,e5,fun u H3 F3 own3 sH3 sF3 s3 r3=>?_⟩
 obtain⟨F4,sF4,s4,r4⟩:=s3.settleR r3
 obtain⟨x,y,exy,q⟩:=k [v,u] H3 F4 own3 (sH.trans sH3) (sF.trans (sF2.trans (sF3.trans sF4))) s4 (.cons (r2.mono (sF3.trans sF4)) (.cons r4 .nil))
 injection exy with ex ey
 injection ey with ey _
 subst ex ey
 exact q
@[simp] noncomputable def unF(g:D→Option SV)(fa:FE):FE:=Zay (fun| [x]=>g x|_=>none) (Zc fa Zk)
noncomputable def Zrp(Z:Ent K)(r:V→Hp→VK→Prop)(g:D→Option SV):Prop:=
 ∀(F H:Hp) (σ:St) (δ:DSt) (own:Nat→Zn) (x:V) (d:D) (sv:SV) (Q:VK),SR Z F H σ δ own→RepN K F H d x→g d=some sv→Fin Z F H σ δ own sv Q→r x H Q
theorem l_un{r:V→Hp→VK→Prop}{g:D→Option SV}{fa:FE}(hg:Zrp Z r g)(h:Ze Z (unF g fa) σ H Q):tUn r (Ze Z fa) σ H Q:=by
 obtain⟨F,δ,own,rv,δ',s,e,k⟩:=h
 obtain⟨⟨rvs,δ1⟩,e1,e2⟩:=Option.bind_eq_some_iff.mp e
 obtain⟨ds,e3,e4⟩:=Option.bind_eq_some_iff.mp e2
 obtain⟨sv,e5,e6⟩:=Option.bind_eq_some_iff.mp e4
 cases e6
 obtain⟨⟨rv1,δ2⟩,e7,e8⟩:=Option.bind_eq_some_iff.mp e1
 obtain⟨⟨rr',δ4⟩,e9,e10⟩:=Option.bind_eq_some_iff.mp e8
 cases e10
 cases e9
 obtain⟨d,e11,e12⟩:=Option.bind_eq_some_iff.mp e3
 cases e12
 refine⟨F,δ,own,rv1,δ2,s,e7,fun v H1 F1 own1 sH sF s1 r1=>?_⟩
 obtain⟨F2,sF2,s2,r2⟩:=s1.settleR r1
 exact hg F2 H1 σ δ2 own1 v d sv Q s2 (s2.rd r2 e11) e5 fun v H2 F2' ns sH2 sF2' s2 t=>k v H2 F2' own1 (sH.trans sH2) (sF.trans (sF2.trans sF2')) s2 ⟨ns,t⟩
@[simp] noncomputable def Zl:FD:=fun δ=>some ([],δ)
@[simp] noncomputable def Zi(fe:FE)(fd:FD):FD:=fun δ=>(fe δ).bind fun p=>(frz p.1 p.2).bind fun q=>(fd q.2).bind fun r=>some (q.1::r.1,r.2)
theorem Zgr{R:List V→Hp→Prop}(h:Zbg Z Zl σ H R):tNil σ H R:=by
 obtain⟨F,δ,own,rvs,δ',s,e,k⟩:=h
 cases e
 exact k [] H F own (Same.refl H) (Same.refl F) s .nil
theorem Zey{fe:FE}{fd:FD}{R:List V→Hp→Prop}(h:Zbg Z (Zi fe fd) σ H R):Zn5 (Ze Z fe) (Zbg Z fd) σ H R:=by
 obtain⟨F,δ,own,rvs,δ',s,e,k⟩:=h
 obtain⟨⟨rv,δ1⟩,e1,e2⟩:=Option.bind_eq_some_iff.mp e
 obtain⟨⟨d,δ2⟩,e3,e4⟩:=Option.bind_eq_some_iff.mp e2
 obtain⟨⟨ds,δ3⟩,e5,e6⟩:=Option.bind_eq_some_iff.mp e4
 cases e6
 refine⟨F,δ,own,rv,δ1,s,e1,fun v H1 F1 own1 sH sF s1 r1=>?_⟩
 obtain⟨F2,sF2,s2,r2⟩:=s1.settleR r1
 obtain⟨F3,own3,sF3,s3,r3⟩:=s2.frzR r2 e3
 exact⟨F3,δ2,own3,ds,δ3,s3,e5,fun vs H4 F4 own4 sH4 sF4 s4 r4=>k _ H4 F4 own4 (sH.trans sH4) (sF.trans (sF2.trans (sF3.trans sF4))) s4 (.cons (r3.mono sF4) r4)⟩
@[simp] noncomputable def tupF(fd:FD):FE:=fun δ=>(fd δ).bind fun p=>if p.1.length≤PySem.sizeLine then some (.tmp (.fz (.tup p.1)),p.2)else none
@[simp] noncomputable def lstF(fd:FD):FE:=fun δ=>(fd δ).bind fun p=>if p.1.length≤PySem.sizeLine then some (.tmp (.ol p.1),p.2)else none
theorem Zx9{fd:FD}(h:Ze Z (tupF fd) σ H Q):tTup (Zbg Z fd) σ H Q:=by
 obtain⟨F,δ,own,rv,δ',s,e,k⟩:=h
 obtain⟨⟨ds,δ1⟩,e1,e2⟩:=Option.bind_eq_some_iff.mp e
 by_cases hz:ds.length≤PySem.sizeLine
 ·rw[if_pos hz]at e2
  cases e2
  refine⟨F,δ,own,ds,δ1,s,e1,fun vs H1 F1 own1 sH sF s1 r1=>⟨by rw[←r1.length];exact hz,fun p hp=>?_⟩⟩
  exact Fin.tup (fun v H2 F2 ns a b c t=>k v H2 F2 own1 (sH.trans a) (sF.trans b) c ⟨ns,t⟩) s1 r1 hp
 ·rw[if_neg hz]at e2;cases e2
theorem Zya{fd:FD}(h:Ze Z (lstF fd) σ H Q):tLst (Zbg Z fd) σ H Q:=by
 obtain⟨F,δ,own,rv,δ',s,e,k⟩:=h
 obtain⟨⟨ds,δ1⟩,e1,e2⟩:=Option.bind_eq_some_iff.mp e
 by_cases hz:ds.length≤PySem.sizeLine
 ·rw[if_pos hz]at e2
  cases e2
  refine⟨F,δ,own,ds,δ1,s,e1,fun vs H1 F1 own1 sH sF s1 r1=>⟨by rw[←r1.length];exact hz,fun p hp=>?_⟩⟩
  exact Fin.lst (fun v H2 F2 ns a b c t=>k v H2 F2 own1 (sH.trans a) (sF.trans b) c ⟨ns,t⟩) s1 r1 hp
 ·rw[if_neg hz]at e2;cases e2
end
@[simp] noncomputable def SV.scal:SV→Bool
 | .fz .non=>true
 | .fz (.bl _)=>true
 | .fz (.int _)=>true
 | .fz (.str _)=>true
 |_=>false
noncomputable def spOf(K:PySem.W.Frag)(n:Nat)(g:List D→Option SV):Sp:=fun vs H Q _=>∃F ds sv,Same F H∧Reps K F ds vs∧ds.length=n∧g ds=some sv∧
 ∀v H' F' ns,Same H H'→Same F F'→Same F' H'→(∀(b:Addr) (o:HO),F' b=some o→F b=some o∨H b=none)→Shape K F' sv v ns→(adr ns).Nodup→(∀p∈ns,F' p.1=none∧H p.1=none∧H' p.1=some p.2)→Q v H'
@[simp] noncomputable def frzAll:List RV→DSt→Option (List D×DSt)
 | [],δ=>some ([],δ)
 |rv::r,δ=>(frz rv δ).bind fun p=>(frzAll r p.2).bind fun q=>some (p.1::q.1,q.2)
theorem RVSs.mono{F F':Hp}{σ:St}(s:Same F F'){rvs:List RV}{vs:List V}(h:RVSs K F σ rvs vs):RVSs K F' σ rvs vs:=by
 induction h with
 |nil=>exact .nil
 |cons h _ ih=>exact .cons (h.mono s) ih
section
variable{Z:Ent K}{H:Hp}{σ:St}{Q:VK}
theorem SR.frzAll{F:Hp}{δ:DSt}{own:Nat→Zn}:∀{rvs:List RV} {vs:List V} {ds:List D} {δ':DSt} {F:Hp} {δ:DSt} {own:Nat→Zn},SR Z F H σ δ own→RVSs K F σ rvs vs→DL.frzAll rvs δ=some (ds,δ')→
  ∃F1 own1,Same F F1∧SR Z F1 H σ δ' own1∧Reps K F1 ds vs
 |_,_,_,_,F,_,own,s,.nil,e=>by cases e;exact⟨F,own,Same.refl F,s,.nil⟩
 |_,_,_,_,F,_,own,s,.cons h t,e=>by
  obtain⟨⟨d,δ1⟩,e1,e2⟩:=Option.bind_eq_some_iff.mp e
  obtain⟨⟨ds,δ2⟩,e3,e4⟩:=Option.bind_eq_some_iff.mp e2
  cases e4
  obtain⟨F1,own1,sF1,s1,r1⟩:=s.frzR h e1
  obtain⟨F2,own2,sF2,s2,r2⟩:=SR.frzAll (own:=own) (F:=F) (δ:=δ1) s1 (t.mono sF1) e3
  exact⟨F2,own2,sF1.trans sF2,s2,.cons (r1.mono sF2) r2⟩
@[simp] noncomputable def Za1(n:Nat)(g:List D→Option SV)(fa:FA):FE:=fun δ=>(fa δ).bind fun p=>(DL.frzAll p.1 p.2).bind fun q=>if q.1.length=n then(g q.1).bind fun sv=>some (.tmp sv,if sv.scal then p.2 else q.2)else none
theorem Zoe{F F':Hp}{sv:SV}{v:V}{ns:Zn}(h:sv.scal=true)(sh:Shape K F sv v ns):ns=[]∧Shape K F' sv v []:=by
 cases sh with
 |fz r=>
  refine⟨rfl,.fz ?_⟩
  cases r with
  |non=>exact .non
  |bl b=>exact .bl b
  |int i=>exact .int i
  |str x=>exact .str x
  |tup _ _=>cases h
  |lst _ _=>cases h
  |dK _ _ _=>cases h
  |dT _ _ _ _=>cases h
  |exc _ _=>cases h
  |exd _ _ _ _ _=>cases h
 |ol _=>cases h
 |oK _ _=>cases h
 |oT _ _ _=>cases h
 |oN _ _=>cases h
 |oL _ _=>cases h
 |oQ _ _=>cases h
theorem Zpx{n:Nat}{g:List D→Option SV}{fa:FA}{E:XK}(h:Ze Z (Za1 n g fa) σ H Q):Zq8 (spOf K n g) [] E (Zcg Z fa) σ H Q:=by
 obtain⟨F,δ,own,rv,δ',s,e,k⟩:=h
 obtain⟨⟨rvs,δ1⟩,e1,e2⟩:=Option.bind_eq_some_iff.mp e
 obtain⟨⟨ds,δ2⟩,e3,e4⟩:=Option.bind_eq_some_iff.mp e2
 by_cases hn:ds.length=n
 ·rw[if_pos hn]at e4
  obtain⟨sv,e5,e6⟩:=Option.bind_eq_some_iff.mp e4
  refine⟨F,δ,own,rvs,δ1,s,e1,fun vs H1 F1 own1 sH sF s1 r1=>?_⟩
  obtain⟨F2,own2,sF2,s2,r2⟩:=s1.frzAll (own:=own) (F:=F) (δ:=δ) r1 e3
  rw[List.append_nil]
  refine⟨F2,ds,sv,s2.le,r2,hn,e5,fun v H3 F3 ns sH3 sF3 le3 fro3 sh nd ok=>?_⟩
  by_cases hs:sv.scal=true
  ·rw[if_pos hs]at e6
   cases e6
   obtain⟨_,sh'⟩:=Zoe (F':=F1) hs sh
   exact k v H3 F1 own1 (sH.trans sH3) sF (s1.grow sH3) ⟨[],sh',List.nodup_nil,fun _ h=>(nomatch h),fun _ _ _ h=>(nomatch h)⟩
  ·rw[if_neg hs]at e6
   cases e6
   have s3:SR Z F3 H3 σ δ2 own2:=by
    refine⟨le3,fun b o e=>?_,s2.old.trans sH3,s2.len,fun i sw ei=>?_,s2.nod,fun i p hp=>?_,s2.sep⟩
    ·rcases fro3 b o e with z|z
     ·exact s2.fro b o z
     ·exact .inr (s2.old.free z)
    ·obtain⟨w,h1,h2⟩:=s2.at' i sw ei
     exact⟨w,h1,h2.mono sF3⟩
    ·obtain⟨a,b,c⟩:=s2.ok i p hp
     refine⟨?_,b,sH3 _ _ c⟩
     cases z:F3 p.1 with
     |none=>rfl
     |some u=>
      rcases fro3 _ u z with y|y
      ·rw[a]at y;cases y
      ·rw[c]at y;cases y
   exact k v H3 F3 own2 (sH.trans sH3) (sF.trans (sF2.trans sF3)) s3 ⟨ns,sh,nd,fun p hp=>⟨(ok p hp).1,(s2.old).free (ok p hp).2.1,(ok p hp).2.2⟩,fun i p q hp hq e=>by
    have z:=(s2.ok i q hq).2.2
    rw[←e,(ok p hp).2.1]at z;cases z⟩
 ·rw[if_neg hn]at e4;cases e4
end
end DL
namespace DL
open PySem L2
variable{K:PySem.W.Frag}
section
variable{Z:Ent K}{H:Hp}{σ:St}{R:Bool→Hp→Prop}{Q:VK}
@[simp] noncomputable def Zy(fe:FE):FT:=fun δ=>(fe δ).bind fun p=>match p.1 with
 | .tmp (.fz (.bl b))=>some (b,p.2)
 |_=>none
theorem Zix{fe:FE}(h:Z5 Z (Zy fe) σ H R):Zuf (Ze Z fe) σ H R:=by
 obtain⟨F,δ,own,b,δ',s,e,k⟩:=h
 obtain⟨⟨rv,δ1⟩,e1,e2⟩:=Option.bind_eq_some_iff.mp e
 refine⟨F,δ,own,rv,δ1,s,e1,fun v H1 F1 own1 sH sF s1 r1=>?_⟩
 dsimp only at e2
 split at e2
 ·cases e2
  obtain⟨ns,t⟩:=r1
  cases Zcy t.sh
  exact⟨_,rfl,k H1 F1 own1 sH sF s1⟩
 ·cases e2
theorem Zrq{fe:FE}(h:Z5 Z (Zy fe) σ H R):tB (Ze Z fe) σ H R:=Zix h
@[simp] noncomputable def andF(f g:FT):FT:=fun δ=>(f δ).bind fun p=>if p.1=true then g p.2 else some (false,p.2)
@[simp] noncomputable def orF(f g:FT):FT:=fun δ=>(f δ).bind fun p=>if p.1=true then some (true,p.2)else g p.2
@[simp] noncomputable def notF(f:FT):FT:=fun δ=>(f δ).bind fun p=>some (!p.1,p.2)
theorem Zyb{f g:FT}(h:Z5 Z (andF f g) σ H R):tAnd (Z5 Z f) (Z5 Z g) σ H R:=by
 obtain⟨F,δ,own,b,δ',s,e,k⟩:=h
 obtain⟨⟨c,δ1⟩,e1,e2⟩:=Option.bind_eq_some_iff.mp e
 refine⟨F,δ,own,c,δ1,s,e1,fun H1 F1 own1 sH sF s1=>?_⟩
 cases c with
 |true=>
  rw[if_pos rfl]at e2⊢
  exact⟨F1,δ1,own1,b,δ',s1,e2,fun H2 F2 own2 a c d=>k H2 F2 own2 (sH.trans a) (sF.trans c) d⟩
 |false=>
  rw[if_neg Bool.false_ne_true]at e2⊢
  cases e2
  exact k H1 F1 own1 sH sF s1
theorem l_or{f g:FT}(h:Z5 Z (orF f g) σ H R):tOr (Z5 Z f) (Z5 Z g) σ H R:=by
 obtain⟨F,δ,own,b,δ',s,e,k⟩:=h
 obtain⟨⟨c,δ1⟩,e1,e2⟩:=Option.bind_eq_some_iff.mp e
 refine⟨F,δ,own,c,δ1,s,e1,fun H1 F1 own1 sH sF s1=>?_⟩
 cases c with
 |true=>
  rw[if_pos rfl]at e2⊢
  cases e2
  exact k H1 F1 own1 sH sF s1
 |false=>
  rw[if_neg Bool.false_ne_true]at e2⊢
  exact⟨F1,δ1,own1,b,δ',s1,e2,fun H2 F2 own2 a c d=>k H2 F2 own2 (sH.trans a) (sF.trans c) d⟩
theorem Zyc{f:FT}(h:Z5 Z (notF f) σ H R):tNot (Z5 Z f) σ H R:=by
 obtain⟨F,δ,own,b,δ',s,e,k⟩:=h
 obtain⟨⟨c,δ1⟩,e1,e2⟩:=Option.bind_eq_some_iff.mp e
 cases e2
 exact⟨F,δ,own,c,δ1,s,e1,k⟩
@[simp] noncomputable def andV(f g:FE):FE:=fun δ=>(Zy f δ).bind fun p=>if p.1=true then g p.2 else some (.tmp (.fz (.bl false)),p.2)
@[simp] noncomputable def orV(f g:FE):FE:=fun δ=>(Zy f δ).bind fun p=>if p.1=true then some (.tmp (.fz (.bl true)),p.2)else g p.2
@[simp] noncomputable def notV(f:FE):FE:=fun δ=>(Zy f δ).bind fun p=>some (.tmp (.fz (.bl (!p.1))),p.2)
theorem Zuz{F:Hp}{own:Nat→Zn}{b:Bool}:Zj0 Z F H σ own (.tmp (.fz (.bl b))) (.bl b):=⟨[],.fz (.bl b)⟩
theorem Zu0{f g:FE}(h:Ze Z (andV f g) σ H Q):Ztv (Ze Z f) (Ze Z g) σ H Q:=by
 obtain⟨F,δ,own,rv,δ',s,e,k⟩:=h
 obtain⟨⟨c,δ1⟩,e1,e2⟩:=Option.bind_eq_some_iff.mp e
 refine Zix ⟨F,δ,own,c,δ1,s,e1,fun H1 F1 own1 sH sF s1=>?_⟩
 cases c with
 |true=>
  rw[if_pos rfl]at e2⊢
  exact⟨F1,δ1,own1,rv,δ',s1,e2,fun v H2 F2 own2 a c d=>k v H2 F2 own2 (sH.trans a) (sF.trans c) d⟩
 |false=>
  rw[if_neg Bool.false_ne_true]at e2⊢
  cases e2
  exact k _ H1 F1 own1 sH sF s1 Zuz
theorem Zyd{f g:FE}(h:Ze Z (orV f g) σ H Q):tOrV (Ze Z f) (Ze Z g) σ H Q:=by
 obtain⟨F,δ,own,rv,δ',s,e,k⟩:=h
 obtain⟨⟨c,δ1⟩,e1,e2⟩:=Option.bind_eq_some_iff.mp e
 refine Zix ⟨F,δ,own,c,δ1,s,e1,fun H1 F1 own1 sH sF s1=>?_⟩
 cases c with
 |true=>
  rw[if_pos rfl]at e2⊢
  cases e2
  exact k _ H1 F1 own1 sH sF s1 Zuz
 |false=>
  rw[if_neg Bool.false_ne_true]at e2⊢
  exact⟨F1,δ1,own1,rv,δ',s1,e2,fun v H2 F2 own2 a c d=>k v H2 F2 own2 (sH.trans a) (sF.trans c) d⟩
@[simp] noncomputable def ifF(t:FT)(f g:FE):FE:=fun δ=>(t δ).bind fun p=>if p.1=true then f p.2 else g p.2
theorem l_if{t:FT}{f g:FE}(h:Ze Z (ifF t f g) σ H Q):tIf (Z5 Z t) (Ze Z f) (Ze Z g) σ H Q:=by
 obtain⟨F,δ,own,rv,δ',s,e,k⟩:=h
 obtain⟨⟨c,δ1⟩,e1,e2⟩:=Option.bind_eq_some_iff.mp e
 refine⟨F,δ,own,c,δ1,s,e1,fun H1 F1 own1 sH sF s1=>?_⟩
 cases c with
 |true=>
  rw[if_pos rfl]at e2⊢
  exact⟨F1,δ1,own1,rv,δ',s1,e2,fun v H2 F2 own2 a c d=>k v H2 F2 own2 (sH.trans a) (sF.trans c) d⟩
 |false=>
  rw[if_neg Bool.false_ne_true]at e2⊢
  exact⟨F1,δ1,own1,rv,δ',s1,e2,fun v H2 F2 own2 a c d=>k v H2 F2 own2 (sH.trans a) (sF.trans c) d⟩
@[simp] noncomputable def Z0p(g g':D→D→Option SV)(fa fb fc:FE):FE:=fun δ=>(fa δ).bind fun p=>(fb p.2).bind fun q=>(rdv p.1 q.2).bind fun x=>(rdv q.1 q.2).bind fun y=>(g x y).bind fun
 | .fz (.bl true)=>(fc q.2).bind fun r=>(rdv q.1 r.2).bind fun y'=>(rdv r.1 r.2).bind fun z=>(g' y' z).bind fun sv=>some (.tmp sv,r.2)
 | .fz (.bl false)=>some (.tmp (.fz (.bl false)),q.2)
 |_=>none
end
inductive Fl where
 |nx (δ:DSt)|bk (δ:DSt)|ct (δ:DSt)|rt (sv:SV)|ex (e:Exn) (δ:DSt)
noncomputable abbrev FS:=DSt→Option Fl
noncomputable def Ziy(Z:Ent K)(F:Hp)(D:Ends):Fl→Prop
 | .nx δ=>∀σ' H' F' own',Same F F'→SR Z F' H' σ' δ own'→D.nx σ' H'
 | .bk δ=>∀σ' H' F' own',Same F F'→SR Z F' H' σ' δ own'→D.bk σ' H'
 | .ct δ=>∀σ' H' F' own',Same F F'→SR Z F' H' σ' δ own'→D.ct σ' H'
 | .rt sv=>∀v H' F' ns,Same F F'→Same F' H'→(∀(b:Addr) (o:HO),F' b=some o→Z.f b=some o∨Z.h b=none)→Same Z.h H'→Shape K F' sv v ns→(adr ns).Nodup→
   (∀p∈ns,F' p.1=none∧Z.h p.1=none∧H' p.1=some p.2)→D.rt v H'
 | .ex x δ=>∀σ' H' F' own' cls od,Same F F'→SR Z F' H' σ' δ own'→Ziw K F' x cls od→Z.x cls od σ' H'
theorem Ziy.mono{Z:Ent K}{F F':Hp}{D:Ends}(s:Same F F'):∀{fl:Fl},Ziy Z F D fl→Ziy Z F' D fl
 | .nx _,h=>fun σ' H' F2 own' a b=>h σ' H' F2 own' (s.trans a) b
 | .bk _,h=>fun σ' H' F2 own' a b=>h σ' H' F2 own' (s.trans a) b
 | .ct _,h=>fun σ' H' F2 own' a b=>h σ' H' F2 own' (s.trans a) b
 | .rt _,h=>fun v H' F2 ns a=>h v H' F2 ns (s.trans a)
 | .ex _ _,h=>fun σ' H' F2 own' cls od a=>h σ' H' F2 own' cls od (s.trans a)
noncomputable def Z2(Z:Ent K)(f:FS):TS:=fun D σ H=>∃F δ own fl,SR Z F H σ δ own∧f δ=some fl∧Ziy Z F D fl
section
variable{Z:Ent K}{H:Hp}{σ:St}{E:Ends}
@[simp] noncomputable def Zbc:FS:=fun δ=>some (.nx δ)
@[simp] noncomputable def Z0q:FS:=fun δ=>some (.bk δ)
@[simp] noncomputable def Z13:FS:=fun δ=>some (.ct δ)
theorem Zu1(h:Z2 Z Zbc E σ H):Zty E σ H:=by
 obtain⟨F,δ,own,fl,s,e,k⟩:=h
 cases e
 exact k σ H F own (Same.refl F) s
@[simp] noncomputable def seqF(f g:FS):FS:=fun δ=>(f δ).bind fun
 | .nx δ'=>g δ'
 |fl=>some fl
theorem Zye{f g:FS}(h:Z2 Z (seqF f g) E σ H):tSeq (Z2 Z f) (Z2 Z g) E σ H:=by
 obtain⟨F,δ,own,fl,s,e,k⟩:=h
 obtain⟨f1,e1,e2⟩:=Option.bind_eq_some_iff.mp e
 refine⟨F,δ,own,f1,s,e1,?_⟩
 cases f1 with
 |nx δ1=>exact fun σ' H' F' own' sF s'=>⟨F',δ1,own',fl,s',e2,k.mono sF⟩
 |bk δ1=>cases e2;exact k
 |ct δ1=>cases e2;exact k
 |rt sv=>cases e2;exact k
 |ex x δ1=>cases e2;exact k
@[simp] noncomputable def ifS(t:FT)(f g:FS):FS:=fun δ=>(t δ).bind fun p=>if p.1=true then f p.2 else g p.2
theorem Zyf{t:FT}{f g:FS}(h:Z2 Z (ifS t f g) E σ H):tIfS (Z5 Z t) (Z2 Z f) (Z2 Z g) E σ H:=by
 obtain⟨F,δ,own,fl,s,e,k⟩:=h
 obtain⟨⟨c,δ1⟩,e1,e2⟩:=Option.bind_eq_some_iff.mp e
 refine⟨F,δ,own,c,δ1,s,e1,fun H1 F1 own1 sH sF s1=>?_⟩
 cases c with
 |true=>rw[if_pos rfl]at e2⊢;exact⟨F1,δ1,own1,fl,s1,e2,k.mono sF⟩
 |false=>rw[if_neg Bool.false_ne_true]at e2⊢;exact⟨F1,δ1,own1,fl,s1,e2,k.mono sF⟩
@[simp] noncomputable def Z14(fe:FE):FS:=fun δ=>(fe δ).bind fun p=>some (.nx p.2)
@[simp] noncomputable def outF:RV→DSt→Option SV
 | .tmp sv,_=>some sv
 | .bw i,δ=>δ[i]?.join
@[simp] noncomputable def retF(fe:FE):FS:=fun δ=>(fe δ).bind fun p=>(outF p.1 p.2).bind fun sv=>some (.rt sv)
theorem Zyg{fe:FE}(h:Z2 Z (retF fe) E σ H):tRet (Ze Z fe) E σ H:=by
 obtain⟨F,δ,own,fl,s,e,k⟩:=h
 obtain⟨⟨rv,δ1⟩,e1,e2⟩:=Option.bind_eq_some_iff.mp e
 obtain⟨sv,e3,e4⟩:=Option.bind_eq_some_iff.mp e2
 cases e4
 refine⟨F,δ,own,rv,δ1,s,e1,fun v H1 F1 own1 sH sF s1 r1=>?_⟩
 cases rv with
 |tmp sw=>
  cases e3
  obtain⟨ns,t⟩:=r1
  exact k v H1 F1 ns sF s1.le s1.fro s1.old t.sh t.nd t.ok
 |bw i=>
  obtain⟨w,h1,h2⟩:=s1.at' i sv (Zbm e3)
  have r1':σ[i]? =some (some v):=r1
  rw[r1']at h1;cases h1
  exact k v H1 F1 (own1 i) sF s1.le s1.fro s1.old h2 (s1.nod i) (s1.ok i)
@[simp] noncomputable def retN:FS:=fun δ=>some (.rt (.fz .non))
@[simp] noncomputable def stow(i:Nat):RV→DSt→Option DSt
 | .tmp sv,δ=>if i<δ.length then some (δ.set i (some sv))else none
 | .bw j,δ=>(frz (.bw j) δ).bind fun p=>if i<p.2.length then some (p.2.set i (some (.fz p.1)))else none
theorem SR.stow{F:Hp}{δ δ':DSt}{own:Nat→Zn}{i:Nat}{rv:RV}{v:V}(s:SR Z F H σ δ own)(r:Zj0 Z F H σ own rv v)(e:DL.stow i rv δ=some δ'):∃F' own',Same F F'∧SR Z F' H (σ.set i (some v)) δ' own':=by
 cases rv with
 |tmp sv=>
  obtain⟨ns,t⟩:=r
  have e:(if i<δ.length then some (δ.set i (some sv))else none)=some δ':=e
  by_cases hi:i<δ.length
  ·rw[if_pos hi]at e;cases e
   exact⟨F,_,Same.refl F,s.store t (by rw[s.len];exact hi)⟩
  ·rw[if_neg hi]at e;cases e
 |bw j=>
  obtain⟨⟨d,δ1⟩,e1,e2⟩:=Option.bind_eq_some_iff.mp e
  obtain⟨F1,own1,sF,s1,r1⟩:=s.frzR (rv:=.bw j) (v:=v) r e1
  by_cases hi:i<δ1.length
  ·rw[if_pos hi]at e2;cases e2
   exact⟨F1,_,sF,s1.store (.fz r1) (by rw[s1.len];exact hi)⟩
  ·rw[if_neg hi]at e2;cases e2
@[simp] noncomputable def setF(i:Nat)(fe:FE):FS:=fun δ=>(fe δ).bind fun p=>(stow i p.1 p.2).bind fun δ'=>some (.nx δ')
theorem Zu2{i:Nat}{fe:FE}(h:Z2 Z (setF i fe) E σ H):tAsg (Ze Z fe) (Zju i) E σ H:=by
 obtain⟨F,δ,own,fl,s,e,k⟩:=h
 obtain⟨⟨rv,δ1⟩,e1,e2⟩:=Option.bind_eq_some_iff.mp e
 obtain⟨δ2,e3,e4⟩:=Option.bind_eq_some_iff.mp e2
 cases e4
 refine⟨F,δ,own,rv,δ1,s,e1,fun v H1 F1 own1 sH sF s1 r1=>?_⟩
 obtain⟨F2,own2,sF2,s2⟩:=s1.stow r1 e3
 exact k _ H1 F2 own2 (sF.trans sF2) s2
set_option genInjectivity false in
structure FG where
 run:D→DSt→Option DSt
 tch:List Nat
set_option genInjectivity false in
structure FGs where
 run:List D→DSt→Option DSt
 tch:List Nat
noncomputable def Zds(Z:Ent K)(g:FG):TG:=fun v σ H Q=>∃F δ own d δ',SR Z F H σ δ own∧Rep K F d v∧g.run d δ=some δ'∧∀σ' own',SR Z F H σ' δ' own'→(∀j:Nat,j∉g.tch→σ'[j]? =σ[j]?)→Q σ' H
noncomputable def Zdp(Z:Ent K)(g:FGs):TGs:=fun vs σ H Q=>∃F δ own ds δ',SR Z F H σ δ own∧Reps K F ds vs∧g.run ds δ=some δ'∧∀σ' own',SR Z F H σ' δ' own'→(∀j:Nat,j∉g.tch→σ'[j]? =σ[j]?)→Q σ' H
noncomputable def Zq(i:Nat):FG:=⟨fun d δ=>if i<δ.length then some (δ.set i (some (.fz d)))else none,[i]⟩
theorem Zrr{i:Nat}{v:V}{Q:St→Hp→Prop}(h:Zds Z (Zq i) v σ H Q):Zju i v σ H Q:=by
 obtain⟨F,δ,own,d,δ',s,r,e,k⟩:=h
 have e:(if i<δ.length then some (δ.set i (some (.fz d)))else none)=some δ':=e
 by_cases hi:i<δ.length
 ·rw[if_pos hi]at e;cases e
  exact k _ _ (s.store (.fz r) (by rw[s.len];exact hi)) fun j hj=>List.getElem?_set_ne fun z=>hj (by rw[z];exact List.mem_cons_self)
 ·rw[if_neg hi]at e;cases e
noncomputable def Zj1:FGs:=⟨fun ds δ=>match ds with
 | []=>some δ
 |_=>none,[]⟩
noncomputable def Zcz(g:FG)(r:FGs):FGs:=⟨fun ds δ=>match ds with
 |d::t=>(g.run d δ).bind fun δ1=>r.run t δ1
 | []=>none,g.tch++r.tch⟩
@[simp] theorem Zu3(i:Nat)(d:D)(δ:DSt):(Zq i).run d δ=if i<δ.length then some (δ.set i (some (.fz d)))else none:=rfl
@[simp] theorem Zxa(δ:DSt):Zj1.run [] δ=some δ:=rfl
@[simp] theorem Zu4(g:FG)(r:FGs)(d:D)(t:List D)(δ:DSt):(Zcz g r).run (d::t) δ=(g.run d δ).bind fun δ1=>r.run t δ1:=rfl
theorem Zu5{vs:List V}{Q:St→Hp→Prop}(h:Zdp Z Zj1 vs σ H Q):gNil vs σ H Q:=by
 obtain⟨F,δ,own,ds,δ',s,r,e,k⟩:=h
 cases r with
 |nil=>cases e;exact⟨rfl,k σ own s fun _ _=>rfl⟩
 |cons h t=>cases e
theorem Zrs{g:FG}{r:FGs}{vs:List V}{Q:St→Hp→Prop}(h:Zdp Z (Zcz g r) vs σ H Q):Zt2 (Zds Z g) (Zdp Z r) vs σ H Q:=by
 obtain⟨F,δ,own,ds,δ',s,rr,e,k⟩:=h
 cases rr with
 |nil=>cases e
 |cons h t=>
  obtain⟨δ1,e1,e2⟩:=Option.bind_eq_some_iff.mp e
  exact⟨_,_,rfl,F,δ,own,_,δ1,s,h,e1,fun σ1 own1 s1 t1=>⟨F,δ1,own1,_,δ',s1,t,e2,fun σ2 own2 s2 t2=>k σ2 own2 s2 fun j hj=>(t2 j fun z=>hj (List.mem_append_right _ z)).trans (t1 j fun z=>hj (List.mem_append_left _ z))⟩⟩
noncomputable def Zhz(n:Nat)(g:FGs):FG:=⟨fun d δ=>match d with
 | .tup xs=>if xs.length=n then g.run xs δ else none
 |_=>none,g.tch⟩
@[simp] theorem Zxb(n:Nat)(g:FGs)(xs:List D)(δ:DSt):(Zhz n g).run (.tup xs) δ=if xs.length=n then g.run xs δ else none:=rfl
theorem Zu6{n:Nat}{g:FGs}{v:V}{Q:St→Hp→Prop}(h:Zds Z (Zhz n g) v σ H Q):gTup K n (Zdp Z g) v σ H Q:=by
 obtain⟨F,δ,own,d,δ',s,r,e,k⟩:=h
 dsimp only[Zhz]at e
 split at e
 ·rename_i xs
  by_cases hn:xs.length=n
  ·rw[if_pos hn]at e
   cases r with
   |tup h r=>exact⟨_,_,rfl,Zaw s.le (Zel h),by rw[←r.length];exact hn,F,δ,own,_,δ',s,r,e,k⟩
  ·rw[if_neg hn]at e;cases e
 ·cases e
@[simp] noncomputable def Zh0(g:FG)(fe:FE):FS:=fun δ=>(fe δ).bind fun p=>(frz p.1 p.2).bind fun q=>(g.run q.1 q.2).bind fun δ'=>some (.nx δ')
theorem Zof{g:FG}{fe:FE}(h:Z2 Z (Zh0 g fe) E σ H):tAsg (Ze Z fe) (Zds Z g) E σ H:=by
 obtain⟨F,δ,own,fl,s,e,k⟩:=h
 obtain⟨⟨rv,δ1⟩,e1,e2⟩:=Option.bind_eq_some_iff.mp e
 obtain⟨⟨d,δ2⟩,e3,e4⟩:=Option.bind_eq_some_iff.mp e2
 obtain⟨δ3,e5,e6⟩:=Option.bind_eq_some_iff.mp e4
 cases e6
 refine⟨F,δ,own,rv,δ1,s,e1,fun v H1 F1 own1 sH sF s1 r1=>?_⟩
 obtain⟨F2,sF2,s2,r2⟩:=s1.settleR r1
 obtain⟨F3,own3,sF3,s3,r3⟩:=s2.frzR r2 e3
 exact⟨F3,δ2,own3,d,δ3,s3,r3,e5,fun σ' own' s' _=>k σ' H1 F3 own' (sF.trans (sF2.trans sF3)) s'⟩
@[simp] noncomputable def forD(tg:FG)(body:FS):List D→DSt→Option Fl
 | [],δ=>some (.nx δ)
 |d::ds,δ=>(tg.run d δ).bind fun δ1=>(body δ1).bind fun
  | .nx δ2=>forD tg body ds δ2
  | .ct δ2=>forD tg body ds δ2
  | .bk δ2=>some (.nx δ2)
  | .rt sv=>some (.rt sv)
  | .ex x δ2=>some (.ex x δ2)
noncomputable def Zd5(K:PySem.W.Frag)(J:It)(F:Hp)(ds:List D):Prop:=∀F' H,Same F F'→Same F' H→∀i:Nat,
 (∀d,ds[i]? =some d→J.go i H∧∀x H',J.yld i H x H'→Same H H'∧∃ns,(adr ns).Nodup∧(∀p∈ns,H p.1=none∧H' p.1=some p.2)∧Rep K (addL F' ns) d x)∧(ds.length≤i→J.stop i H)
noncomputable def Zb0(Z:Ent K)(f:FD):TI:=fun σ H R=>∃F δ own ds δ',SR Z F H σ δ own∧f δ=some (ds,δ')∧
 ∀J H' F' own',Same H H'→Same F F'→SR Z F' H' σ δ' own'→Zd5 K J F' ds→R J H'
@[simp] noncomputable def forF(fi:FD)(tg:FG)(body:FS):FS:=fun δ=>(fi δ).bind fun p=>forD tg body p.1 p.2
theorem SR.fresh{F H':Hp}{δ:DSt}{own:Nat→Zn}{ns:Zn}(s:SR Z F H σ δ own)(sm:Same H H')(nd:(adr ns).Nodup)(h:∀p∈ns,H p.1=none∧H' p.1=some p.2):Same F (addL F ns)∧SR Z (addL F ns) H' σ δ own:=by
 refine⟨Zax fun p hp=>s.le.free (h p hp).1,(s.grow sm).addF nd (fun p hp=>s.le.free (h p hp).1) (fun p hp=>(h p hp).2) (fun p hp=>s.old.free (h p hp).1) fun i p q hp hq e=>?_⟩
 have z:=(s.ok i q hq).2.2
 rw[←e,(h p hp).1]at z;cases z
theorem Zyh{fi:FD}{tg:FG}{body:FS}(h:Z2 Z (forF fi tg body) E σ H):tFor (Zb0 Z fi) (Zds Z tg) (Z2 Z body) E σ H:=by
 obtain⟨F,δ,own,fl,s,e,k⟩:=h
 obtain⟨⟨ds,δ1⟩,e1,e2⟩:=Option.bind_eq_some_iff.mp e
 refine⟨F,δ,own,ds,δ1,s,e1,fun J H1 F1 own1 sH sF s1 yl=>?_⟩
 refine⟨fun i m σ H=>m=ds.length- i∧i≤ds.length∧∃F δ own,Same F1 F∧SR Z F H σ δ own∧forD tg body (ds.drop i) δ=some fl,⟨ds.length,by simp,Nat.zero_le _,F1,δ1,own1,Same.refl F1,s1,e2⟩,?_⟩
 rintro i m σ' H' ⟨rfl,hi,F2,δ2,own2,sF2,s2,ef⟩
 by_cases hlt:i<ds.length
 ·have hd:ds[i]? =some ds[i]:=by simp[hlt]
  obtain⟨go,yy⟩:=(yl F2 H' sF2 s2.le i).1 _ hd
  rw[List.drop_eq_getElem_cons hlt]at ef
  obtain⟨δ3,e3,e4⟩:=Option.bind_eq_some_iff.mp ef
  obtain⟨f1,e5,e6⟩:=Option.bind_eq_some_iff.mp e4
  refine .inr ⟨go,fun σ4 H4=>∃F δ own,Same F1 F∧SR Z F H4 σ4 δ own∧forD tg body (ds.drop (i+1)) δ=some fl,fun σ4 H4 ⟨F4,δ4,own4,a,b,c⟩=>⟨ds.length- (i+1),by omega,rfl,hlt,F4,δ4,own4,a,b,c⟩,fun x H3 hy=>?_⟩
  obtain⟨sm,ns,nd,hn,rp⟩:=yy x H3 hy
  obtain⟨sFn,sn⟩:=s2.fresh sm nd hn
  refine⟨addL F2 ns,δ2,own2,_,δ3,sn,rp,e3,fun σ5 own5 s5 _=>⟨addL F2 ns,δ3,own5,f1,s5,e5,?_⟩⟩
  cases f1 with
  |nx δ6=>exact fun σ6 H6 F6 own6 a b=>⟨F6,δ6,own6,sF2.trans (sFn.trans a),b,e6⟩
  |ct δ6=>exact fun σ6 H6 F6 own6 a b=>⟨F6,δ6,own6,sF2.trans (sFn.trans a),b,e6⟩
  |bk δ6=>
   cases e6
   exact fun σ6 H6 F6 own6 a b=>k σ6 H6 F6 own6 (sF.trans (sF2.trans (sFn.trans a))) b
  |rt sv=>
   cases e6
   exact fun v H6 F6 ns6 a=>k v H6 F6 ns6 (sF.trans (sF2.trans (sFn.trans a)))
  |ex x δ6=>
   cases e6
   exact fun σ6 H6 F6 own6 cls od a=>k σ6 H6 F6 own6 cls od (sF.trans (sF2.trans (sFn.trans a)))
 ·have hz:i=ds.length:=by omega
  subst hz
  rw[List.drop_length]at ef
  cases ef
  exact .inl ⟨(yl F2 H' sF2 s2.le _).2 (Nat.le_refl _),k σ' H' F2 own2 (sF.trans sF2) s2⟩
noncomputable def Za5(t:FT)(body:FS):Nat→DSt→Option Fl
 |0,_=>none
 |n+1,δ=>(t δ).bind fun p=>if p.1=true then(body p.2).bind (fun
  | .nx δ2=>Za5 t body n δ2
  | .ct δ2=>Za5 t body n δ2
  | .bk δ2=>some (.nx δ2)
  | .rt sv=>some (.rt sv)
  | .ex x δ2=>some (.ex x δ2))else some (.nx p.2)
theorem Zrt{n:Nat}{t:FT}{body:FS}(h:Z2 Z (Za5 t body n) E σ H):Zpn (Z5 Z t) (Z2 Z body) E σ H:=by
 obtain⟨F,δ,own,fl,s,e,k⟩:=h
 refine⟨fun m σ H=>∃F2 δ own,Same F F2∧SR Z F2 H σ δ own∧Za5 t body m δ=some fl,⟨n,F,δ,own,Same.refl F,s,e⟩,?_⟩
 rintro m σ1 H1 ⟨F1,δ1,own1,sF1,s1,e1⟩
 cases m with
 |zero=>cases e1
 |succ m=>
  obtain⟨⟨c,δ2⟩,e2,e3⟩:=Option.bind_eq_some_iff.mp e1
  refine⟨F1,δ1,own1,c,δ2,s1,e2,fun H2 F2 own2 sH sF2 s2=>?_⟩
  cases c with
  |false=>
   rw[if_neg Bool.false_ne_true]at e3⊢
   cases e3
   exact k σ1 H2 F2 own2 (sF1.trans sF2) s2
  |true=>
   rw[if_pos rfl]at e3⊢
   obtain⟨f1,e4,e5⟩:=Option.bind_eq_some_iff.mp e3
   refine⟨fun σ' H'=>∃F2 δ own,Same F F2∧SR Z F2 H' σ' δ own∧Za5 t body m δ=some fl,fun σ' H' w=>⟨m,Nat.lt_succ_self m,w⟩,F2,δ2,own2,f1,s2,e4,?_⟩
   cases f1 with
   |nx δ6=>exact fun σ6 H6 F6 own6 a b=>⟨F6,δ6,own6,sF1.trans (sF2.trans a),b,e5⟩
   |ct δ6=>exact fun σ6 H6 F6 own6 a b=>⟨F6,δ6,own6,sF1.trans (sF2.trans a),b,e5⟩
   |bk δ6=>
    cases e5
    exact fun σ6 H6 F6 own6 a b=>k σ6 H6 F6 own6 (sF1.trans (sF2.trans a)) b
   |rt sv=>
    cases e5
    exact fun v H6 F6 ns6 a=>k v H6 F6 ns6 (sF1.trans (sF2.trans a))
   |ex x δ6=>
    cases e5
    exact fun σ6 H6 F6 own6 cls od a=>k σ6 H6 F6 own6 cls od (sF1.trans (sF2.trans a))
@[simp] noncomputable def seqI(fe:FE):FD:=fun δ=>(fe δ).bind fun p=>(frz p.1 p.2).bind fun q=>match q.1 with
 | .lst xs=>some (xs,q.2)
 | .tup xs=>some (xs,q.2)
 |_=>none
noncomputable def iSeq(K:PySem.W.Frag)(tl:TE):TI:=fun σ H R=>tl σ H fun x H1=>(∃a,x= .ref a∧(∃xs,SqL K H1 a xs)∧R (Itl K a) H1)∨(∃a,x= .ref a∧(∃xs,SqT K H1 a xs)∧R (Itt K a) H1)
theorem Zh1{F:Hp}{a:Addr}{xs:List D}{vs:List V}(h:SqL K F a vs)(r:Reps K F xs vs):Zd5 K (Itl K a) F xs:=fun F' H sF sH i=>by
 have q:SqL K H a vs:=Zal (sF.trans sH) h
 refine⟨fun d hd=>?_,fun hl=>⟨vs,q,by rw[←r.length];exact hl⟩⟩
 obtain⟨v,h1,h2⟩:=r.get hd
 refine⟨⟨vs,v,q,h1⟩,fun x H' zq9=>?_⟩
 obtain⟨e1,e2⟩:=zq9
 subst e1
 have e3:=e2 vs q
 rw[h1]at e3;cases e3
 exact⟨Same.refl _,[],List.nodup_nil,fun _ h=>(nomatch h),h2.mono sF⟩
theorem Zj2{F:Hp}{a:Addr}{xs:List D}{vs:List V}(h:SqT K F a vs)(r:Reps K F xs vs):Zd5 K (Itt K a) F xs:=fun F' H sF sH i=>by
 have q:SqT K H a vs:=Zaw (sF.trans sH) h
 refine⟨fun d hd=>?_,fun hl=>⟨vs,q,by rw[←r.length];exact hl⟩⟩
 obtain⟨v,h1,h2⟩:=r.get hd
 refine⟨⟨vs,v,q,h1⟩,fun x H' zq9=>?_⟩
 obtain⟨e1,e2⟩:=zq9
 subst e1
 have e3:=e2 vs q
 rw[h1]at e3;cases e3
 exact⟨Same.refl _,[],List.nodup_nil,fun _ h=>(nomatch h),h2.mono sF⟩
noncomputable def Zem(lo:Int)(n:Nat):List D:=(List.range n).map fun i=>.int (lo+(i:Nat))
theorem Zdq{lo:Int}{n:Nat}{F:Hp}:Zd5 K (Itr lo n) F (Zem lo n):=fun F' H sF sH i=>by
 have hl:(Zem lo n).length=n:=by unfold Zem;rw[List.length_map,List.length_range]
 refine⟨fun d hd=>?_,fun h=>by rw[hl]at h;exact h⟩
 have hi:i<n:=by
  have:=(List.getElem?_eq_some_iff.mp hd).1
  rw[hl]at this;exact this
 refine⟨hi,fun x H' zq9=>?_⟩
 obtain⟨e1,e2⟩:=zq9
 subst e1 e2
 unfold Zem at hd
 rw[List.getElem?_map,List.getElem?_range hi]at hd
 cases hd
 exact⟨Same.refl _,[],List.nodup_nil,fun _ h=>(nomatch h),.int _⟩
noncomputable def rngP(j:Int):Prop:=-(2^62)≤j∧j<2^62
theorem Zlo{j:Int}(h0:0≤j)(h:j≤16777216):rngP j:=⟨by omega,by omega⟩
theorem Zc0{n:Nat}(h:n≤16777216):rngP (n:Int):=Zlo (by omega) (by omega)
open Classical in
@[simp] noncomputable def rngI(fa:FA):FD:=fun δ=>(fa δ).bind fun p=>match Zb3 p.1 p.2 with
 |some [.int j]=>if rngP j then some (Zem 0 j.toNat,p.2)else none
 |_=>none
theorem Zu7{fa:FA}{R:It→Hp→Prop}(h:Zb0 Z (rngI fa) σ H R):Zt6 (Zcg Z fa) σ H R:=by
 obtain⟨F,δ,own,ds,δ',s,e,k⟩:=h
 obtain⟨⟨rvs,δ1⟩,e1,e2⟩:=Option.bind_eq_some_iff.mp e
 refine⟨F,δ,own,rvs,δ1,s,e1,fun vs H1 F1 own1 sH sF s1 r1=>?_⟩
 dsimp only at e2
 split at e2
 ·rename_i j hj
  have rn:=s1.rdAll r1 hj
  cases rn with
  |cons h t=>
   cases t
   by_cases hb:rngP j
   ·rw[if_pos hb]at e2
    cases e2
    exact⟨j,by rw[h.int],hb.1,hb.2,k _ H1 F1 own1 sH sF s1 Zdq⟩
   ·rw[if_neg hb]at e2;cases e2
 ·cases e2
@[simp] noncomputable def appF(i:Nat)(fe:FE):FS:=fun δ=>match δ[i]? with
 |some (some (.ol _))=>(fe δ).bind fun p=>(frz p.1 p.2).bind fun q=>match q.2[i]? with
  |some (some (.ol xs))=>if xs.length<PySem.sizeLine then some (.nx (q.2.set i (some (.ol (xs++[q.1])))))else none
  |_=>none
 |_=>none
theorem Zdy{F:Hp}{xs:List D}{v:V}{ns:Zn}(h:Shape K F (.ol xs) v ns):∃a vs,v= .ref a∧ns=[(a,.lst vs)]∧Reps K F xs vs:=by
 cases h with
 |ol r=>exact⟨_,_,rfl,rfl,r⟩
theorem Zyi{i:Nat}{fe:FE}(h:Z2 Z (appF i fe) E σ H):Ztz (tBM K "list" Zd2 (tVar i) (Zn5 (Ze Z fe) tNil)) E σ H:=by
 obtain⟨F,δ,own,fl,s,e,k⟩:=h
 unfold appF at e
 split at e
 ·rename_i xs0 hx0
  obtain⟨⟨rv,δ1⟩,e1,e2⟩:=Option.bind_eq_some_iff.mp e
  obtain⟨⟨d,δ2⟩,e3,e4⟩:=Option.bind_eq_some_iff.mp e2
  obtain⟨v,hv,sh⟩:=s.at' i _ hx0
  obtain⟨a,vs0,ev,en,r0⟩:=Zdy sh
  refine⟨v,hv,?_,F,δ,own,rv,δ1,s,e1,fun y H1 F1 own1 sH sF s1 r1=>?_⟩
  ·subst ev
   exact .inl ⟨rfl,vs0,.inl (.inl (s.ok i (a,.lst vs0) (by rw[en];exact List.mem_cons_self)).2.2)⟩
  obtain⟨F2,sF2,s2,r2⟩:=s1.settleR r1
  obtain⟨F3,own3,sF3,s3,r3⟩:=s2.frzR r2 e3
  dsimp only at e4
  split at e4
  ·rename_i xs hx
   by_cases hz:xs.length<PySem.sizeLine
   ·rw[if_pos hz]at e4
    cases e4
    obtain⟨v',hv',sh'⟩:=s3.at' i _ hx
    rw[hv]at hv';cases hv'
    obtain⟨b,vs,eb,en',r'⟩:=Zdy sh'
    have mb:(b,HO.lst vs)∈own3 i:=by rw[en'];exact List.mem_cons_self
    subst eb
    refine⟨b,vs,y,rfl,rfl,(s3.ok i _ mb).2.2,by rw[←r'.length];exact hz,?_⟩
    exact k σ _ F3 _ (sF.trans (sF2.trans sF3)) (s3.change (sv':=.ol (xs++[d])) (o':=.lst (vs++[y])) (ns':=[(b,.lst (vs++[y]))]) hx hv mb (.ol (r'.snoc r3)) (fun p hp=>.inl (List.mem_singleton.mp hp)) nd1)
   ·rw[if_neg hz]at e4;cases e4
  ·cases e4
 ·cases e
end
@[simp] noncomputable def Zgs(n:Nat)(ds:List D):DSt:=ds.map (fun d=>some (.fz d))++List.replicate (n- ds.length) none
theorem Ziz{N:List Str}{F H:Hp}{ds:List D}{vs:List V}(le:Same F H)(r:Reps K F ds vs):SR (ent H F:Ent K) F H (L2.Zdb N vs) (Zgs N.length ds) fun _=>[]:=by
 have hl:=r.length
 refine⟨le,fun b o e=>.inl e,Same.refl H,?_,fun i sv e=>?_,fun _=>List.nodup_nil,fun _ _ h=>(nomatch h),fun _ _ _ _ _ h=>(nomatch h)⟩
 ·unfold L2.Zdb Zgs
  rw[List.length_append,List.length_append,List.length_map,List.length_map,List.length_replicate,List.length_replicate,hl]
 ·unfold Zgs at e
  by_cases hi:i<ds.length
  ·rw[List.getElem?_append_left (by simpa using hi),List.getElem?_map]at e
   cases hd:ds[i]? with
   |none=>rw[hd]at e;cases e
   |some d=>
    rw[hd]at e;cases e
    obtain⟨v,h1,h2⟩:=r.get hd
    refine⟨v,?_,.fz h2⟩
    unfold L2.Zdb
    rw[List.getElem?_append_left (by rw[List.length_map];omega),List.getElem?_map,h1]
    rfl
  ·rw[List.getElem?_append_right (by simpa using hi),List.getElem?_replicate]at e
   split at e<;> cases e
theorem Zfm{n:Nat}{g:List D→Option SV}{vs:List V}{H:Hp}{Q:VK}{E:XK}(h:spOf K n g vs H Q E):vs.length=n:=by
 obtain⟨F,ds,sv,le,r,hn,e,k⟩:=h
 rw[←r.length];exact hn
end DL
namespace DL
open PySem L2
variable{K:PySem.W.Frag}
noncomputable def xG(K:PySem.W.Frag)(g:FG):TG:=fun v σ H Q=>∃Z:Ent K,Zds Z g v σ H Q
noncomputable def xT(K:PySem.W.Frag)(f:FT):TT:=fun σ H Q=>∃Z:Ent K,Z5 Z f σ H Q
noncomputable def xE(K:PySem.W.Frag)(f:FE):TE:=fun σ H Q=>∃Z:Ent K,Ze Z f σ H Q
noncomputable def Zh2:FT:=fun δ=>some (true,δ)
@[simp] theorem Zxc(δ:DSt):Zh2 δ=some (true,δ):=rfl
@[simp] noncomputable def caps(src:List BSrc):List RV:=src.filterMap fun
 | .cap j=>some (.bw j)
 |_=>none
@[simp] noncomputable def Zlp(δ:DSt):BSrc→Option SV
 | .own=>none
 | .cap j=>match δ[j]?.join with
  |some (.fz d)=>some (.fz d)
  |_=>none
 | .acc=>some (.ol [])
@[simp] noncomputable def bD(src:List BSrc)(δ:DSt):DSt:=src.map (Zlp δ)
@[simp] noncomputable def Zd6:BSrc→Option SV→Option SV
 | .own,_=>none
 |_,o=>o
@[simp] noncomputable def Zdd:List BSrc→DSt→DSt
 |b::r,o::t=>Zd6 b o::Zdd r t
 |_,t=>t
@[simp] noncomputable def Zfn(src:List BSrc)(k:Nat)(g:FG)(tt:FT)(te:FE):List D→DSt→Option DSt
 | [],δ=>some δ
 |d::ds,δ=>(g.run d δ).bind fun δ1=>(tt δ1).bind fun p=>if p.1=true then(te p.2).bind fun q=>(frz q.1 q.2).bind fun r=>match r.2[k]? with
   |some (some (.ol zs))=>if zs.length<PySem.sizeLine then Zfn src k g tt te ds (Zdd src (r.2.set k (some (.ol (zs++[r.1])))))else none
   |_=>none
  else Zfn src k g tt te ds (Zdd src p.2)
@[simp] noncomputable def Zlq(src:List BSrc)(k:Nat)(fi:FD)(g:FG)(tt:FT)(te:FE):FE:=fun δ=>(fi δ).bind fun p=>(frzAll (caps src) p.2).bind fun c=>(Zfn src k g tt te p.1 (bD src c.2)).bind fun δb=>match δb[k]? with
 |some (some (.ol ys))=>some (.tmp (.ol ys),c.2)
 |_=>none
theorem Zd7:∀(src:List BSrc) (δ:DSt),(Zdd src δ).length=δ.length
 | [],t=>by unfold Zdd;rfl
 |_::_,[]=>by unfold Zdd;rfl
 |b::r,o::t=>by show(Zd6 b o::Zdd r t).length=_;rw[List.length_cons,List.length_cons,Zd7 r t]
theorem Zd8:∀{src:List BSrc} {δ:DSt} {i:Nat} {sv:SV},(Zdd src δ)[i]? =some (some sv)→δ[i]? =some (some sv)
 | [],_,_,_,h=>h
 |_::_,[],_,_,h=>h
 |b::r,o::t,0,sv,h=>by
  have h:some (Zd6 b o)=some (some sv):=h
  cases b with
  |own=>cases h
  |cap j=>exact h
  |acc=>exact h
 |b::r,o::t,i+1,sv,h=>by
  have h:(Zdd r t)[i]? =some (some sv):=h
  show t[i]? =_
  exact Zd8 h
section
variable{Z:Ent K}{F H:Hp}{σ:St}{δ δ':DSt}{own:Nat→Zn}
theorem SR.forget(s:SR Z F H σ δ own)(hl:δ'.length=δ.length)(h:∀(i:Nat) (sv:SV),δ'[i]? =some (some sv)→δ[i]? =some (some sv)):SR Z F H σ δ' own:=
 ⟨s.le,s.fro,s.old,s.len.trans hl.symm,fun i sv e=>s.at' i sv (h i sv e),s.nod,s.ok,s.sep⟩
theorem SR.caps:∀{rvs:List RV} {ds:List D} {δ δ':DSt} {F:Hp} {own:Nat→Zn},(∀rv∈rvs,∃j,rv= .bw j)→SR Z F H σ δ own→DL.frzAll rvs δ=some (ds,δ')→∃F1 own1,Same F F1∧SR Z F1 H σ δ' own1
 | [],_,_,_,F,own,_,s,e=>by cases e;exact⟨F,own,Same.refl F,s⟩
 |rv::r,_,_,_,F,own,hb,s,e=>by
  obtain⟨⟨d,δ1⟩,e1,e2⟩:=Option.bind_eq_some_iff.mp e
  obtain⟨⟨ds,δ2⟩,e3,e4⟩:=Option.bind_eq_some_iff.mp e2
  cases e4
  obtain⟨j,rfl⟩:=hb rv List.mem_cons_self
  obtain⟨sv,e5,e6⟩:=Option.bind_eq_some_iff.mp e1
  cases e6
  obtain⟨F1,v,sF,_,_,s1⟩:=s.freeze (Zbm e5)
  obtain⟨F2,own2,sF2,s2⟩:=SR.caps (fun rv h=>hb rv (List.mem_cons_of_mem _ h)) s1 e3
  exact⟨F2,own2,sF.trans sF2,s2⟩
theorem SR.after{F3 H3:Hp}(s2:SR Z F H σ δ own)(sH3:Same H H3)(sF3:Same F F3)(le3:Same F3 H3)(fro3:∀(b:Addr) (o:HO),F3 b=some o→F b=some o∨H b=none):SR Z F3 H3 σ δ own:=by
 refine⟨le3,fun b o e=>?_,s2.old.trans sH3,s2.len,fun i sw ei=>?_,s2.nod,fun i p hp=>?_,s2.sep⟩
 ·rcases fro3 b o e with z|z
  ·exact s2.fro b o z
  ·exact .inr (s2.old.free z)
 ·obtain⟨w,h1,h2⟩:=s2.at' i sw ei
  exact⟨w,h1,h2.mono sF3⟩
 ·obtain⟨a,b,c⟩:=s2.ok i p hp
  refine⟨?_,b,sH3 _ _ c⟩
  cases z:F3 p.1 with
  |none=>rfl
  |some u=>
   rcases fro3 _ u z with y|y
   ·rw[a]at y;cases y
   ·rw[c]at y;cases y
end
structure SrcOk(src:List BSrc)(k:Nat):Prop where
 acc:src[k]? =some .acc
 uni:∀i:Nat,src[i]? =some .acc→i=k
theorem Zog{Z:Ent K}{F H:Hp}{σ:St}{δ:DSt}{own:Nat→Zn}{src:List BSrc}{k:Nat}{acc:Addr}(S:SrcOk src k)(s:SR Z F H σ δ own)(ha:H acc=none):
  SR (ent H F:Ent K) F (upd H acc (.lst [])) (bSt src σ acc) (bD src δ) (fun i=>if i=k then[(acc,.lst [])]else[]):=by
 have mem:∀{i:Nat} {p:Addr×HO},p∈(if i=k then[(acc,HO.lst [])]else[])→i=k∧p=(acc,.lst []):=fun{i p} h=>by
  by_cases hi:i=k
  ·rw[if_pos hi]at h;exact⟨hi,List.mem_singleton.mp h⟩
  ·rw[if_neg hi]at h;exact nomatch h
 refine⟨s.le.trans (Zbs ha),fun b o e=>.inl e,Zbs ha,by unfold bSt bD;rw[List.length_map,List.length_map],fun i sv e=>?_,fun i=>?_,fun i p hp=>?_,fun i j p q hij hp hq=>?_⟩
 ·unfold bD at e
  rw[List.getElem?_map]at e
  cases hq:src[i]? with
  |none=>rw[hq]at e;cases e
  |some q=>
   rw[hq]at e
   have e:Zlp δ q=some sv:=Option.some.inj e
   cases q with
   |own=>cases e
   |acc=>
    cases e
    have hi:=S.uni i hq
    refine⟨.ref acc,by unfold bSt;rw[List.getElem?_map,hq];rfl,?_⟩
    show Shape K F (.ol []) (.ref acc) (if i=k then[(acc,.lst [])]else[])
    rw[if_pos hi]
    exact .ol .nil
   |cap j=>
    have hi:i≠k:=fun z=>by rw[z,S.acc]at hq;cases hq
    unfold Zlp at e
    dsimp only at e
    split at e
    ·rename_i d hd
     cases e
     obtain⟨v,h1,h2⟩:=s.at' j _ (Zbm hd)
     refine⟨v,by unfold bSt;rw[List.getElem?_map,hq];show some (σ[j]?).join=_;rw[h1];rfl,?_⟩
     show Shape K F (.fz d) v (if i=k then[(acc,.lst [])]else[])
     rw[if_neg hi]
     exact .fz (Zcy h2)
    ·cases e
 ·show(adr (if i=k then[(acc,HO.lst [])]else[])).Nodup
  by_cases hi:i=k
  ·rw[if_pos hi];exact nd1
  ·rw[if_neg hi];exact List.nodup_nil
 ·obtain⟨_,rfl⟩:=mem hp
  exact⟨s.le.free ha,ha,Zu⟩
 ·obtain⟨z,_⟩:=mem hp
  obtain⟨y,_⟩:=mem hq
  exact absurd (z.trans y.symm) hij
theorem Zpy{Z:Ent K}{H:Hp}{σ:St}{Q:VK}{src:List BSrc}{k:Nat}{fi:FD}{g:FG}{tt:FT}{te:FE}(S:SrcOk src k)(hk:k∉g.tch)(h:Ze Z (Zlq src k fi g tt te) σ H Q):
  Zrm src (Zb0 Z fi) (xG K g) (xT K tt) (xE K te) σ H Q:=by
 obtain⟨F,δ,own,rv,δ',s,e,k0⟩:=h
 obtain⟨⟨ds,δ1⟩,e1,e2⟩:=Option.bind_eq_some_iff.mp e
 obtain⟨⟨cs,δ2⟩,e3,e4⟩:=Option.bind_eq_some_iff.mp e2
 obtain⟨δf,e5,e6⟩:=Option.bind_eq_some_iff.mp e4
 refine⟨F,δ,own,ds,δ1,s,e1,fun J H1 F1 own1 sH sF s1 yl acc ha=>?_⟩
 obtain⟨F2,own2,sF2,s2⟩:=s1.caps (fun rv hr=>by
  unfold DL.caps at hr
  obtain⟨b,_,hb⟩:=List.mem_filterMap.mp hr
  cases b with
  |own=>cases hb
  |acc=>cases hb
  |cap j=>cases hb;exact⟨j,rfl⟩) e3
 have s3:=Zog S s2 ha
 have hacc0:(bSt src σ acc)[k]? =some (some (.ref acc)):=by unfold bSt;rw[List.getElem?_map,S.acc];rfl
 refine⟨fun i m σ' H=>m=ds.length- i∧i≤ds.length∧σ'[k]? =some (some (.ref acc))∧∃F δ own,Same F2 F∧SR (ent H1 F2:Ent K) F H σ' δ own∧Zfn src k g tt te (ds.drop i) δ=some δf,
  ⟨ds.length,by simp,Nat.zero_le _,hacc0,F2,_,_,Same.refl F2,s3,e5⟩,?_⟩
 rintro i m σ4 H4 ⟨rfl,hi,hacc,F4,δ4,own4,sF4,s4,ef⟩
 by_cases hlt:i<ds.length
 ·have hd:ds[i]? =some ds[i]:=by simp[hlt]
  obtain⟨go,yy⟩:=(yl F4 H4 (sF2.trans sF4) s4.le i).1 _ hd
  rw[List.drop_eq_getElem_cons hlt]at ef
  obtain⟨δ5,e7,e8⟩:=Option.bind_eq_some_iff.mp ef
  obtain⟨⟨b,δ6⟩,e9,e10⟩:=Option.bind_eq_some_iff.mp e8
  refine .inr ⟨go,fun x H5 hy=>?_⟩
  obtain⟨sm,ns,nd,hn,rp⟩:=yy x H5 hy
  obtain⟨sFn,sn⟩:=s4.fresh sm nd hn
  refine⟨(ent H1 F2:Ent K),addL F4 ns,δ4,own4,_,δ5,sn,rp,e7,fun σ6 own6 s6 t6=>⟨(ent H1 F2:Ent K),addL F4 ns,δ5,own6,b,δ6,s6,e9,fun H7 F7 own7 sH7 sF7 s7=>?_⟩⟩
  have hacc6:σ6[k]? =some (some (.ref acc)):=(t6 k hk).trans hacc
  cases b with
  |false=>
   dsimp only
   rw[if_neg Bool.false_ne_true]at e10⊢
   exact⟨ds.length- (i+1),by omega,rfl,hlt,hacc6,F7,_,own7,sF4.trans (sFn.trans sF7),s7.forget (Zd7 src δ6) (fun j sv hj=>Zd8 hj),e10⟩
  |true=>
   dsimp only
   rw[if_pos rfl]at e10⊢
   obtain⟨⟨rv8,δ8⟩,e11,e12⟩:=Option.bind_eq_some_iff.mp e10
   obtain⟨⟨d9,δ9⟩,e13,e14⟩:=Option.bind_eq_some_iff.mp e12
   refine⟨(ent H1 F2:Ent K),F7,δ6,own7,rv8,δ8,s7,e11,fun y H8 F8 own8 sH8 sF8 s8 r8=>?_⟩
   obtain⟨F9,sF9,s9,r9⟩:=s8.settleR r8
   obtain⟨F10,own10,sF10,s10,r10⟩:=s9.frzR r9 e13
   dsimp only at e14
   split at e14
   ·rename_i zs hz
    by_cases hzl:zs.length<PySem.sizeLine
    ·rw[if_pos hzl]at e14
     obtain⟨v',hv',sh'⟩:=s10.at' k _ hz
     rw[hacc6]at hv';cases hv'
     obtain⟨b,vs,eb,en',r'⟩:=Zdy sh'
     cases eb
     have mb:(acc,HO.lst vs)∈own10 k:=by rw[en'];exact List.mem_cons_self
     refine⟨acc,vs,y,rfl,rfl,(s10.ok k _ mb).2.2,by rw[←r'.length];exact hzl,?_⟩
     have s11:=s10.change (sv':=.ol (zs++[d9])) (o':=.lst (vs++[y])) (ns':=[(acc,.lst (vs++[y]))]) hz hacc6 mb (.ol (r'.snoc r10)) (fun p hp=>.inl (List.mem_singleton.mp hp)) nd1
     exact⟨ds.length- (i+1),by omega,rfl,hlt,hacc6,F10,_,_,sF4.trans (sFn.trans (sF7.trans (sF8.trans (sF9.trans sF10)))),s11.forget (Zd7 src _) (fun j sv hj=>Zd8 hj),e14⟩
    ·rw[if_neg hzl]at e14;cases e14
   ·cases e14
 ·have hz:i=ds.length:=by omega
  subst hz
  rw[List.drop_length]at ef
  cases ef
  refine .inl ⟨(yl F4 H4 (sF2.trans sF4) s4.le _).2 (Nat.le_refl _),?_⟩
  dsimp only at e6
  split at e6
  ·rename_i ys hys
   cases e6
   obtain⟨v',hv',sh'⟩:=s4.at' k _ hys
   rw[hacc]at hv';cases hv'
   obtain⟨b,vs,eb,en',r'⟩:=Zdy sh'
   cases eb
   have mb:(acc,HO.lst vs)∈own4 k:=by rw[en'];exact List.mem_cons_self
   obtain⟨o1,o2,o3⟩:=s4.ok k _ mb
   refine k0 (.ref acc) H4 F4 own2 (sH.trans s4.old) (sF.trans (sF2.trans sF4)) (s2.after s4.old sF4 s4.le fun b o e=>s4.fro b o e) ⟨[(acc,.lst vs)],.ol r',nd1,fun p hp=>?_,fun j p q hp hq e=>?_⟩
   ·obtain rfl:=List.mem_singleton.mp hp
    exact⟨o1,s2.old.free ha,o3⟩
   ·obtain rfl:=List.mem_singleton.mp hp
    have z:=(s2.ok j q hq).2.2
    have e':acc=q.1:=e
    rw[←e',ha]at z;cases z
  ·cases e6
end DL
namespace DL
open PySem PySem.Spec PyProof.Rows L2
variable{K:PySem.W.Frag}
variable{Z:Ent K}
@[simp] noncomputable def intI(f:Int→Int→D):D→D→Option SV
 | .int i,.int j=>some (.fz (f i j))
 |_,_=>none
@[simp] noncomputable def intC(C:Int→Int→Bool)(f:Int→Int→D):D→D→Option SV
 | .int i,.int j=>if C i j=true then some (.fz (f i j))else none
 |_,_=>none
theorem Zru{g:Int→Int→V}{f:Int→Int→D}(hr:∀F i j,Rep K F (f i j) (g i j)):Zae Z (rI0 g) (intI f):=by
 intro F H σ δ own x y d1 d2 sv Q s r1 r2 e k
 unfold intI at e
 split at e
 ·cases e
  exact⟨_,_,r1.int,r2.int,k.fz s (hr _ _ _)⟩
 ·cases e
theorem p_rI{C:Int→Int→Prop}{c:Int→Int→Bool}{g:Int→Int→V}{f:Int→Int→D}(hc:∀i j,c i j=true→C i j)(hr:∀F i j,Rep K F (f i j) (g i j)):Zae Z (rI C g) (intC c f):=by
 intro F H σ δ own x y d1 d2 sv Q s r1 r2 e k
 unfold intC at e
 split at e
 ·split at e
  ·rename_i hcc
   cases e
   exact⟨_,_,r1.int,r2.int,hc _ _ hcc,k.fz s (hr _ _ _)⟩
  ·cases e
 ·cases e
@[simp] noncomputable def subD:D→D→Option SV:=intI fun i j=>.int (i- j)
noncomputable def cMul(i j:Int):Bool:=(decide (-(2^64)<i)&&decide (i<2^64))|| (decide (-(2^64)<j)&&decide (j<2^64))
@[simp] noncomputable def mulD:D→D→Option SV:=intC cMul fun i j=>.int (i*j)
@[simp] noncomputable def cDiv(i j:Int):Bool:=decide (0<j)&&decide (j<1073741824)
@[simp] noncomputable def Zd9:D→D→Option SV:=intC cDiv fun i j=>.int (i / j)
@[simp] noncomputable def cMod(i j:Int):Bool:=decide (0<j)
@[simp] noncomputable def modD:D→D→Option SV:=intC cMod fun i j=>.int (i % j)
@[simp] noncomputable def cPow(i j:Int):Bool:=decide (0≤j)&&decide (j≤1000000)&&decide (i.natAbs<2^64)
@[simp] noncomputable def powD:D→D→Option SV:=intC cPow fun i j=>.int (i^j.toNat)
theorem Zyj:Zae Z (rI0 fun i j=>V.int (i- j)) subD:=Zru fun _ _ _=>.int _
theorem Zyk:Zae Z (rI CMul fun i j=>V.int (i*j)) mulD:=p_rI (fun i j h=>by
 unfold cMul at h
 simp only[Bool.or_eq_true,Bool.and_eq_true,decide_eq_true_eq]at h
 exact h) fun _ _ _=>.int _
theorem Zu8:Zae Z (rI CDiv fun i j=>V.int (i / j)) Zd9:=p_rI (fun i j h=>by
 unfold cDiv at h
 simp only[Bool.and_eq_true,decide_eq_true_eq]at h
 exact h) fun _ _ _=>.int _
theorem Zyl:Zae Z (rI (fun _ j=>0<j) fun i j=>V.int (i % j)) modD:=p_rI (fun i j h=>by
 unfold cMod at h
 simp only[decide_eq_true_eq]at h
 exact h) fun _ _ _=>.int _
@[simp] noncomputable def ltD:D→D→Option SV:=intI fun i j=>.bl (decide (i<j))
@[simp] noncomputable def leD:D→D→Option SV:=intI fun i j=>.bl (decide (i≤j))
@[simp] noncomputable def gtD:D→D→Option SV:=intI fun i j=>.bl (decide (j<i))
@[simp] noncomputable def geD:D→D→Option SV:=intI fun i j=>.bl (decide (j≤i))
theorem p_lt:Zae Z (rI0 fun i j=>V.bl (decide (i<j))) ltD:=Zru fun _ _ _=>.bl _
theorem p_gt:Zae Z (rI0 fun i j=>V.bl (decide (j<i))) gtD:=Zru fun _ _ _=>.bl _
noncomputable def rStr:R2:=fun x y H Q=>∃i j,x= .str i∧y= .str j∧i.length+j.length≤PySem.sizeLine∧Q (.str (i++j)) H
noncomputable def Zu9(K:PySem.W.Frag):R2:=fun x y H Q=>∃l b xs zs,x= .ref l∧y= .ref b∧SqL K H l xs∧SqL K H b zs∧xs.length+zs.length≤PySem.sizeLine∧∀p,H p=none→Q (.ref p) (upd H p (.lst (xs++zs)))
theorem Zrv{X:Cx}:OpR X (binaryOp .Add) (Zu9 X.K):=by
 intro pins s σ H x y v u Q I rx ry h
 obtain⟨l,b,xs,zs,rfl,rfl,hH,hB,hz,q⟩:=h
 cases rx
 cases ry
 obtain⟨its,r,pl,z⟩:=I.list hH
 obtain⟨its2,r2,pl2,z2⟩:=I.list hB
 have hl:=r.length
 have hl2:=r2.length
 obtain⟨⟨cls,dd,data,sl⟩,ho,hc,n,hd⟩:=pl.isList
 obtain⟨⟨cls2,dd2,data2,sl2⟩,ho2,hc2,n2,hd2⟩:=pl2.isList
 simp only at hc hd hc2 hd2
 subst hc hd hc2 hd2
 have ea:its.toArray++its2.toArray=(its++its2).toArray:=by simp
 refine concat_meets ⟨_,ho,rfl⟩ ⟨_,ho2,rfl⟩ noFill_list_add seq_list_add PySem.F.slot_list_add PySem.F.entry_list_add (PySem.F.args_list_add_2 _ _) (list_addW l b its.toArray its2.toArray n n2 dd dd2 sl sl2 (by rw[List.size_toArray,List.size_toArray];omega)) ⟨ho,ho2,?_⟩
 rw[ea]
 exact⟨.ref _,_,I.lnew (t':=s.toks) (r.append r2) (by rw[List.length_append];omega),rfl,q _ I.fresh⟩
noncomputable def Zva(K:PySem.W.Frag):R2:=fun x y H Q=>rI0 (fun i j=>V.int (i+j)) x y H Q∨(rStr x y H Q∨Zu9 K x y H Q)
theorem Zrw{X:Cx}:OpR X (binaryOp .Add) (Zva X.K):=Zt9.or (Zjx.or Zrv)
@[simp] noncomputable def addD:D→D→Option SV
 | .int i,.int j=>some (.fz (.int (i+j)))
 | .str x,.str y=>if x.length+y.length≤PySem.sizeLine then some (.fz (.str (x++y)))else none
 | .lst xs,.lst ys=>if xs.length+ys.length≤PySem.sizeLine then some (.ol (xs++ys))else none
 |_,_=>none
theorem Zym:Zae Z (Zva K) addD:=by
 intro F H σ δ own x y d1 d2 sv Q s r1 r2 e k
 unfold addD at e
 split at e
 ·cases e
  exact .inl ⟨_,_,r1.int,r2.int,k.fz s (.int _)⟩
 ·split at e
  ·rename_i hz
   cases e
   exact .inr (.inl ⟨_,_,r1.str,r2.str,hz,k.fz s (.str _)⟩)
  ·cases e
 ·split at e
  ·rename_i hz
   cases e
   obtain⟨a,vs,ex,ha,ra⟩:=r1.lst s.le
   obtain⟨b,us,ey,hb,rb⟩:=r2.lst s.le
   exact .inr (.inr ⟨a,b,vs,us,ex,ey,ha,hb,by rw[←ra.length,←rb.length];exact hz,fun p hp=>k.lst s (ra.append rb) hp⟩)
  ·cases e
 ·cases e
@[simp] noncomputable def eqS:D→D→Option Bool
 | .non,.non=>some true
 | .non,.int _=>some false
 | .int _,.non=>some false
 | .non,.bl _=>some false
 | .bl _,.non=>some false
 | .non,.str _=>some false
 | .str _,.non=>some false
 | .int i,.int j=>some (decide (i=j))
 | .bl i,.bl j=>some (decide (i=j))
 | .str i,.str j=>some (decide (i=j))
 | .int _,.str _=>some false
 | .str _,.int _=>some false
 | .bl _,.str _=>some false
 | .str _,.bl _=>some false
 |_,_=>none
theorem Zpz{F H:Hp}{d1 d2:D}{x y:V}{b:Bool}(e:eqS d1 d2=some b)(r1:RepN K F H d1 x)(r2:RepN K F H d2 y):scal x y=true∧b=decide (x=y):=by
 unfold eqS at e
 split at e<;> cases e
 ·rw[r1.non,r2.non];exact⟨rfl,by simp⟩
 ·rw[r1.non,r2.int];exact⟨rfl,by simp⟩
 ·rw[r1.int,r2.non];exact⟨rfl,by simp⟩
 ·rw[r1.non,r2.bl];exact⟨rfl,by simp⟩
 ·rw[r1.bl,r2.non];exact⟨rfl,by simp⟩
 ·rw[r1.non,r2.str];exact⟨rfl,by simp⟩
 ·rw[r1.str,r2.non];exact⟨rfl,by simp⟩
 ·rw[r1.int,r2.int];exact⟨rfl,by simp⟩
 ·rw[r1.bl,r2.bl];exact⟨rfl,by simp⟩
 ·rw[r1.str,r2.str];exact⟨rfl,by simp⟩
 ·rw[r1.int,r2.str];exact⟨rfl,by simp⟩
 ·rw[r1.str,r2.int];exact⟨rfl,by simp⟩
 ·rw[r1.bl,r2.str];exact⟨rfl,by simp⟩
 ·rw[r1.str,r2.bl];exact⟨rfl,by simp⟩
@[simp] noncomputable def eqD(d1 d2:D):Option SV:=(eqS d1 d2).bind fun b=>some (.fz (.bl b))
@[simp] noncomputable def neD(d1 d2:D):Option SV:=(eqS d1 d2).bind fun b=>some (.fz (.bl (!b)))
theorem p_eq:Zae Z rEq eqD:=by
 intro F H σ δ own x y d1 d2 sv Q s r1 r2 e k
 obtain⟨b,e1,e2⟩:=Option.bind_eq_some_iff.mp e
 cases e2
 obtain⟨h1,h2⟩:=Zpz e1 r1 r2
 subst h2
 exact⟨h1,k.fz s (.bl _)⟩
theorem p_ne:Zae Z rNe neD:=by
 intro F H σ δ own x y d1 d2 sv Q s r1 r2 e k
 obtain⟨b,e1,e2⟩:=Option.bind_eq_some_iff.mp e
 cases e2
 obtain⟨h1,h2⟩:=Zpz e1 r1 r2
 subst h2
 exact⟨h1,k.fz s (.bl _)⟩
@[simp] noncomputable def D.isNon:D→Bool
 | .non=>true
 |_=>false
theorem Zi0{F H:Hp}{d:D}{x:V}(r:RepN K F H d x):decide (x= .non)=d.isNon:=by
 obtain⟨sv,ns,e,n,sh,hp⟩:=r
 subst e
 cases sh with
 |fz r=>cases r<;> rfl
 |_=>rfl
@[simp] noncomputable def isND(d1 d2:D):Option SV:=if d2.isNon=true then some (.fz (.bl d1.isNon))else none
@[simp] noncomputable def Zj3(d1 d2:D):Option SV:=if d2.isNon=true then some (.fz (.bl (!d1.isNon)))else none
theorem Zi1{d:D}(h:d.isNon=true):d= .non:=by cases d<;> first|rfl|cases h
theorem Zvb:Zae Z (fun x y H Q=>y=V.non∧Q (.bl (decide (x= .non))) H) isND:=by
 intro F H σ δ own x y d1 d2 sv Q s r1 r2 e k
 unfold isND at e
 split at e
 ·rename_i h
  cases e
  have:=Zi1 h
  subst this
  exact⟨r2.non,by rw[Zi0 r1];exact k.fz s (.bl _)⟩
 ·cases e
theorem Zp0:Zae Z (fun x y H Q=>y=V.non∧Q (.bl (!decide (x= .non))) H) Zj3:=by
 intro F H σ δ own x y d1 d2 sv Q s r1 r2 e k
 unfold Zj3 at e
 split at e
 ·rename_i h
  cases e
  have:=Zi1 h
  subst this
  exact⟨r2.non,by rw[Zi0 r1];exact k.fz s (.bl _)⟩
 ·cases e
theorem Reps.atI{F:Hp}{xs:List D}{vs:List V}{i:Int}{d:D}(r:Reps K F xs vs)(e:L2.atI xs i=some d):∃v,L2.atI vs i=some v∧Rep K F d v:=by
 unfold L2.atI at e⊢
 obtain⟨j,e1,e2⟩:=Option.bind_eq_some_iff.mp e
 obtain⟨v,h1,h2⟩:=r.get e2
 exact⟨v,Option.bind_eq_some_iff.mpr ⟨j,by rw[←r.length];exact e1,h1⟩,h2⟩
@[simp] noncomputable def ixD:D→D→Option SV
 | .lst xs,.int i=>(L2.atI xs i).bind fun d=>some (.fz d)
 | .tup xs,.int i=>(L2.atI xs i).bind fun d=>some (.fz d)
 | .str z,.int i=>if z.length≤PySem.sizeLine then(L2.atI z.cps.toList i).bind fun c=>some (.fz (.str ⟨#[c]⟩))else none
 |_,_=>none
theorem p_ix:Zae Z (rIx K) ixD:=by
 intro F H σ δ own x y d1 d2 sv Q s r1 r2 e k
 unfold ixD at e
 split at e
 ·obtain⟨d,e1,e2⟩:=Option.bind_eq_some_iff.mp e
  cases e2
  obtain⟨a,vs,ex,ha,ra⟩:=r1.lst s.le
  obtain⟨v,h1,h2⟩:=ra.atI e1
  exact .inl ⟨a,vs,_,v,ex,r2.int,ha,h1,k.fz s h2⟩
 ·obtain⟨d,e1,e2⟩:=Option.bind_eq_some_iff.mp e
  cases e2
  obtain⟨a,vs,ex,ha,ra⟩:=r1.tup s.le
  obtain⟨v,h1,h2⟩:=ra.atI e1
  exact .inr (.inl ⟨a,vs,_,v,ex,r2.int,ha,h1,k.fz s h2⟩)
 ·split at e
  ·rename_i hz
   obtain⟨c,e1,e2⟩:=Option.bind_eq_some_iff.mp e
   cases e2
   exact .inr (.inr ⟨_,_,c,r1.str,r2.int,hz,e1,k.fz s (.str _)⟩)
  ·cases e
 ·cases e
noncomputable abbrev FO:=DSt→Option (Option Int×DSt)
noncomputable def Zgt(Z:Ent K)(f:FO):TO:=fun σ H Q=>∃F δ own o δ',SR Z F H σ δ own∧f δ=some (o,δ')∧∀H' F' own',Same H H'→Same F F'→SR Z F' H' σ δ' own'→Q o H'
@[simp] noncomputable def Zi2:FO:=fun δ=>some (none,δ)
@[simp] noncomputable def Zj4(fe:FE):FO:=fun δ=>(fe δ).bind fun p=>match p.1 with
 | .tmp (.fz (.int i))=>some (some i,p.2)
 |_=>none
section
variable{H:Hp}{σ:L2.St}{Q:VK}{R:Option Int→Hp→Prop}
theorem Zoh(h:Zgt Z Zi2 σ H R):Zlc σ H R:=by
 obtain⟨F,δ,own,o,δ',s,e,k⟩:=h
 cases e
 exact k H F own (Same.refl H) (Same.refl F) s
theorem Zvc{fe:FE}(h:Zgt Z (Zj4 fe) σ H R):Zul (Ze Z fe) σ H R:=by
 obtain⟨F,δ,own,b,δ',s,e,k⟩:=h
 obtain⟨⟨rv,δ1⟩,e1,e2⟩:=Option.bind_eq_some_iff.mp e
 refine⟨F,δ,own,rv,δ1,s,e1,fun v H1 F1 own1 sH sF s1 r1=>?_⟩
 dsimp only at e2
 split at e2
 ·cases e2
  obtain⟨ns,t⟩:=r1
  cases Zcy t.sh
  exact⟨_,rfl,k H1 F1 own1 sH sF s1⟩
 ·cases e2
@[simp] noncomputable def slF(g:D→Option Int→Option Int→Option SV)(fe:FE)(fl fh:FO):FE:=fun δ=>(fe δ).bind fun p=>(fl p.2).bind fun l=>(fh l.2).bind fun h=>(rdv p.1 h.2).bind fun d=>(g d l.1 h.1).bind fun sv=>some (.tmp sv,h.2)
noncomputable def Zvd(Z:Ent K)(r:V→Option Int→Option Int→Hp→VK→Prop)(g:D→Option Int→Option Int→Option SV):Prop:=
 ∀(F H:Hp) (σ:L2.St) (δ:DSt) (own:Nat→Zn) (x:V) (d:D) (lo hi:Option Int) (sv:SV) (Q:VK),SR Z F H σ δ own→RepN K F H d x→g d lo hi=some sv→Fin Z F H σ δ own sv Q→r x lo hi H Q
theorem l_sl{r:V→Option Int→Option Int→Hp→VK→Prop}{g:D→Option Int→Option Int→Option SV}{fe:FE}{fl fh:FO}(hg:Zvd Z r g)(h:Ze Z (slF g fe fl fh) σ H Q):tSl r (Ze Z fe) (Zgt Z fl) (Zgt Z fh) σ H Q:=by
 obtain⟨F,δ,own,rv,δ',s,e,k⟩:=h
 obtain⟨⟨rv1,δ1⟩,e1,e⟩:=Option.bind_eq_some_iff.mp e
 obtain⟨⟨lo,δ2⟩,e2,e⟩:=Option.bind_eq_some_iff.mp e
 obtain⟨⟨hi,δ3⟩,e3,e⟩:=Option.bind_eq_some_iff.mp e
 obtain⟨d,e4,e⟩:=Option.bind_eq_some_iff.mp e
 obtain⟨sv,e5,e⟩:=Option.bind_eq_some_iff.mp e
 cases e
 refine⟨F,δ,own,rv1,δ1,s,e1,fun v H1 F1 own1 sH1 sF1 s1 r1=>?_⟩
 obtain⟨F1',sF1',s1',r1'⟩:=s1.settleR r1
 refine⟨F1',δ1,own1,lo,δ2,s1',e2,fun H2 F2 own2 sH2 sF2 s2=>⟨F2,δ2,own2,hi,δ3,s2,e3,fun H3 F3 own3 sH3 sF3 s3=>?_⟩⟩
 exact hg F3 H3 σ δ3 own3 v d lo hi sv Q s3 (s3.rd (r1'.mono (sF2.trans sF3)) e4) e5 fun q H4 F4 ns sH4 sF4 s4 t4=>
  k q H4 F4 own3 (sH1.trans (sH2.trans (sH3.trans sH4))) (sF1.trans (sF1'.trans (sF2.trans (sF3.trans sF4)))) s4 ⟨ns,t4⟩
end
noncomputable def cutD(xs:List D)(lo hi:Option Int):List D:=(xs.drop (HT.sIx xs.length 0 lo)).take (HT.sIx xs.length xs.length hi- HT.sIx xs.length 0 lo)
theorem Reps.cut{F:Hp}{xs:List D}{vs:List V}(r:Reps K F xs vs)(lo hi:Option Int):Reps K F (cutD xs lo hi) (cutV vs lo hi):=by
 unfold cutD cutV
 rw[r.length]
 exact(r.drop _).take _
noncomputable def rSlS:V→Option Int→Option Int→Hp→VK→Prop:=fun x lo hi H Q=>∃z,x= .str z∧z.length≤PySem.sizeLine∧Q (.str (Txt.slice z lo hi)) H
theorem Zve{X:Cx}:SlR X rSlS:=by
 intro pins s σ H x v vl vu lo hi sl Q I rx hs pl pu h
 obtain⟨z,rfl,hz,q⟩:=h
 obtain⟨t,rfl⟩:=rx
 refine⟨"str",_,F.slot_str_getitem.lookup,typeIs_str _ _ _,?_⟩
 have fin:∀(t':Tok) (k:Nat),EP X pins σ Q (.str (Txt.slice z lo hi) t') {s with toks:=k}:=fun t' k=>⟨.str (Txt.slice z lo hi),H,I.tok _,⟨_,rfl⟩,q⟩
 cases pl with
 |none=>cases pu with
  |none=>exact wpAny_getItem_str_slice (l:=none) (u:=none) (st:=none) hs rfl (post_val_or_str ⟨Nat.le_trans (Txt.slice_le z _ _) hz,fin⟩)
  |int j tj=>exact wpAny_getItem_str_slice (l:=none) (u:=some (j,tj)) (st:=none) hs rfl (post_val_or_str ⟨Nat.le_trans (Txt.slice_le z _ _) hz,fin⟩)
 |int i ti=>cases pu with
  |none=>exact wpAny_getItem_str_slice (l:=some (i,ti)) (u:=none) (st:=none) hs rfl (post_val_or_str ⟨Nat.le_trans (Txt.slice_le z _ _) hz,fin⟩)
  |int j tj=>exact wpAny_getItem_str_slice (l:=some (i,ti)) (u:=some (j,tj)) (st:=none) hs rfl (post_val_or_str ⟨Nat.le_trans (Txt.slice_le z _ _) hz,fin⟩)
@[simp] noncomputable def slD:D→Option Int→Option Int→Option SV
 | .lst xs,lo,hi=>some (.ol (cutD xs lo hi))
 | .str z,lo,hi=>if z.length≤PySem.sizeLine then some (.fz (.str (Txt.slice z lo hi)))else none
 |_,_,_=>none
theorem p_sl:Zvd Z (fun x lo hi H Q=>rSlL K x lo hi H Q∨rSlS x lo hi H Q) slD:=by
 intro F H σ δ own x d lo hi sv Q s r1 e k
 unfold slD at e
 split at e
 ·cases e
  obtain⟨a,vs,ex,ha,ra⟩:=r1.lst s.le
  exact .inl ⟨a,vs,ex,ha,fun p hp=>k.lst s (ra.cut _ _) hp⟩
 ·split at e
  ·rename_i hz
   cases e
   exact .inr ⟨_,r1.str,hz,k.fz s (.str _)⟩
  ·cases e
 ·cases e
end DL
namespace L2
open PySem PySem.Spec PyProof.Rows
section
variable{X:Cx}{tg:Expr}
noncomputable def Ite(K:PySem.W.Frag)(a:Addr):It:=
 ⟨fun i H=>∃xs x,SqL K H a xs∧xs[i]? =some x,fun i H x H'=>∃p v,x= .ref p∧H p=none∧H'=upd H p (.tup [.int (i:Nat),v])∧∀xs,SqL K H a xs→xs[i]? =some v,fun i H=>∃xs,SqL K H a xs∧xs.length≤i⟩
theorem Inv.turnedT{pins:List (Addr×Obj)}{σ:L2.St}{H:Hp}{s:Shared}{h':Heap}{t':Nat}{e it T:Addr}{xs:List V}{its:List Value}(I:Inv X pins σ H s)(k:∀b o,b≠e→b≠it→s.heap.get? b=some o→h'.get? b=some o)
  (f1:FpOk X pins H e) (f2:FpOk X pins H it) (hT:T=s.heap.objs.size) (ht:IsTup h' T its.toArray) (rv:Vals xs its) (hz:xs.length≤sizeLine) (he:∃o,h'.get? e=some o) (hi:∃o,h'.get? it=some o):
  Inv X pins σ (upd H T (.tup xs)) {s with heap:=h',toks:=t'}:=by
 have hTn:H T=none:=by rw[hT];exact I.hok.fresh (Nat.le_refl _)
 have neT:∀b o,s.heap.get? b=some o→b≠T:=fun b o q=>by rw[hT];exact Nat.ne_of_lt (Heap.lt_size q)
 have ntr:∀b u,H b=some u→b≠e∧b≠it:=fun b u q=>⟨(fun z=>by rw[z,f1.1]at q;cases q),(fun z=>by rw[z,f2.1]at q;cases q)⟩
 refine I.step (g':=s.gens) (d':=s.drawn) (ch:=[e,it]) (fun b hb=>?_) (fun b o _ _ hc q _=>k b o (fun z=>hc (by simp[z])) (fun z=>hc (by simp[z])) q)
  (fun b o _ _ hc q _=>⟨o.slots,k b o (fun z=>hc (by simp[z])) (fun z=>hc (by simp[z])) q⟩) (fun b o _ q n=>by rw[Zm (neT b o q)];exact n)
  (fun b o hc q=>⟨o,k b o (fun z=>hc (by simp[z])) (fun z=>hc (by simp[z])) q⟩) (fun b ys q=>by rw[Zm (Zz q hTn)];exact q) (fun b o u q=>by rw[Zm (Zz q hTn)];exact q)
  (fun b ps q=>⟨#[],by rw[Zm (Zz q hTn),q];simp⟩) (fun m hm=>?_) (fun b u q=>?_) I.bare
 ·have hb':b=e∨b=it:=by simpa using hb
  rcases hb' with z|z
  ·subst z;obtain⟨_,a1,_,a3,a4,a5⟩:=f1;exact⟨a3,a1,a4,a5⟩
  ·subst z;obtain⟨_,a1,_,a3,a4,a5⟩:=f2;exact⟨a3,a1,a4,a5⟩
 ·obtain⟨o,es,ep,ho,r⟩:=hm
  exact⟨o,es,ep,k _ o (Ne.symm f1.2.1) (Ne.symm f2.2.1) ho,r⟩
 ·by_cases hb:b=T
  ·subst hb
   rw[Zu]at q;cases q
   exact⟨hz,its,rv,ht⟩
  ·rw[Zm hb]at q
   refine(I.hok b u q).stay (fun c v hc z=>?_) (fun c z=>by rw[Zm (Zz z hTn)];exact z) fun c ys z=>by rw[Zm (Zz z hTn)];exact z
   rcases hc with y|y
   ·rw[y]at z⊢;exact k _ _ (ntr b u q).1 (ntr b u q).2 z
   ·exact k _ _ (ntr c _ y).1 (ntr c _ y).2 z
theorem Zlr{P:Program}{w:World}{K:PySem.W.Frag}{elts:List Expr}{kk:Nat}{tpos:Pos}(a e it:Addr)(hei:e≠it):Turn P w K (.Tuple elts kk tpos) (Ite K a) [e,it] e (fun i h=>(∃old,IsEnum h e it ((i:Nat):Int) old)∧h.IsListIter it a i)where
 mem:=by simp
 obj:=fun i h st b hb=>by
  have hb':b=e∨b=it:=by simpa using hb
  rcases hb' with z|z
  ·subst z
   obtain⟨old,q⟩:=st.1
   exact⟨_,q,fun v y=>by
    have y':Data.fields _=Data.cell v:=y
    cases y'⟩
  ·subst z
   obtain⟨o,q,c,d⟩:=st.2
   exact⟨o,q,fun v y=>by rw[d]at y;cases y⟩
 keep:=fun i h h' st k=>⟨let⟨old,q⟩:=st.1;⟨old,k e (by simp) _ q⟩,st.2.at fun o q=>k it (by simp) o q⟩
 item:=by
  intro X hP hw hK hc i pins s σ H E I hf st hg
  subst hP hw hK
  obtain⟨xs,x,hq,hx⟩:=hg
  obtain⟨its,rv,p,hz⟩:=I.list hq
  obtain⟨u,hu,ru⟩:=rv.get hx
  obtain⟨⟨old,he⟩,hit⟩:=st
  have hl:s.heap.IsList a its.toArray:=p.isList
  have ai:a≠it:=fun z=>by
   obtain⟨o1,q1,c1,_⟩:=hit
   obtain⟨o2,q2,c2,_⟩:=hl
   rw[z,q1]at q2;cases q2
   rw[c1]at c2;exact absurd c2 (by decide)
  have ae:e∉[it,a]:=fun z=>by
   have z':e=it∨e=a:=by simpa using z
   rcases z' with z|z
   ·exact hei z
   ·obtain⟨o2,q2,c2,_⟩:=hl
    rw[←z,he]at q2;cases q2;exact absurd (show Value.type "enumerate"=Value.type "list"from c2) (by decide)
  have D:=Draws.list (prog:=X.prog) (w:=X.w) (A:=X.A.in1) (by first|exact I.ok.hd hc| (rw[show X.A.in1.handled=X.A.handled from rfl];exact I.ok.hd hc)) it a ai its.toArray
  have hlt:i<its.toArray.size:=by
   have:=(List.getElem?_eq_some_iff.mp hu).1
   rw[List.size_toArray];exact this
  refine wpAny_pyNext_enum_itemD D he ⟨hit,hl⟩ hlt hei ae fun y h' tk hy hout st' hT hsz hk=>⟨.ref s.heap.objs.size,rfl,?_⟩
  refine wpAny_letOwnedTupleGo_enum hout fun h2 he2 hs2=>?_
  have hy':its.toArray[i]? =some y:=hy
  have ey:y=u:=by
   have:its[i]? =some y:=by simpa using hy'
   rw[hu]at this;cases this;rfl
  subst ey
  have kk:∀b o,b≠e→b≠it→s.heap.get? b=some o→h2.get? b=some o:=fun b o h1 h3 q=>(hs2.2 b h1).trans (hk b o h1 h3 q)
  have neT:s.heap.objs.size≠e:=Nat.ne_of_gt (Heap.lt_size he)
  have I2:=I.turnedT (h':=h2) (t':=tk+1) (e:=e) (it:=it) (T:=s.heap.objs.size) (xs:=[.int (i:Nat),x]) (its:=[.int i tk,y]) kk (hf e (by simp)) (hf it (by simp)) rfl ⟨_,(hs2.2 _ neT).trans hT,rfl,_,rfl⟩ (.cons ⟨tk,rfl⟩ (.cons ru .nil)) (by show 2≤sizeLine;decide)
   ⟨_,he2⟩ (let⟨o,q,_⟩:=st'.1;⟨o,(hs2.2 it (Ne.symm hei)).trans q⟩)
  refine⟨.ref s.heap.objs.size,_,I2,rfl,⟨s.heap.objs.size,x,rfl,I.hok.fresh (Nat.le_refl _),rfl,fun ys hy2=>by rw[I.list_inj hy2 hq];exact hx⟩,⟨⟨_,he2⟩,st'.1.at fun o q=>(hs2.2 it (Ne.symm hei)).trans q⟩,fun b hb=>?_⟩
  rw[Zm fun z=>?_]
  ·exact(hf b hb).1
  ·have hb':b=e∨b=it:=by simpa using hb
   rcases hb' with y|y
   ·rw[←z,y]at neT;exact neT rfl
   ·obtain⟨o,q,_⟩:=hit
    rw[y]at z
    exact absurd (Heap.lt_size q) (by rw[z];exact Nat.lt_irrefl _)
 done:=by
  intro X hP hw hK hc i pins s σ H E I hf st hg
  subst hP hw hK
  obtain⟨xs,hq,hx⟩:=hg
  obtain⟨its,rv,p,hz⟩:=I.list hq
  obtain⟨⟨old,he⟩,hit⟩:=st
  obtain⟨f0,f1,f2,f3,f4,f5⟩:=hf it (by simp)
  have hl:=rv.length
  exact wpAny_pyNext_enum_end (I.ok.hd hc) he hit p.isList (by simp;omega) fun h' eb=>⟨rfl,I.turned (t':=s.toks) (fun b o hb q=>eb b o hb q) f0 f1 f3 f4 f5⟩
 self:=fun _ _ _ _ _ st h=>let⟨⟨old,he⟩,_⟩:=st;wpAny_pyIter_enum he h
noncomputable def Zvf(K:PySem.W.Frag)(ta:TA):TI:=fun σ H R=>ta σ H fun vs H1=>∃a xs,vs=[.ref a]∧SqL K H1 a xs∧R (Ite K a) H1
theorem Zrx{l:Expr}{elts:List Expr}{kk:Nat}{tpos p pos:Pos}{ta:TA}(hg:Gl X "enumerate")(hm:X.mg "enumerate"=none)(ha:PA X [l] ta)(hs:starEach [l] X.env=[(false,eval l X.env)]:=by rfl):
  PI X (.Tuple elts kk tpos) (.Call (.Name "enumerate" p) [l] [] pos) (Zvf X.K ta):=by
 intro pins s σ H R I h
 refine Call_ (Zdn I hg hm boot_enumerate (PyProof.Rows.callWith_type1 (thn (ha pos pins s σ H _ I h) fun us s1 ⟨vs,H1,I1,r1,q1⟩=>?_) hs rfl))
 obtain⟨a,xs,e,hq,q⟩:=q1
 subst e
 obtain⟨u,rfl,ru⟩:=Zff r1
 cases ru
 obtain⟨its,rv,p,hz⟩:=I1.list hq
 refine call_enumerate_list p.isList fun h' he hit hsz hk=>wpAny_pyIter_enum he ?_
 have I2:Inv X pins σ H1 {s1 with heap:=h'}:=I1.kept (t':=s1.toks) hk
 refine⟨s1.heap.objs.size+1,[s1.heap.objs.size+1,s1.heap.objs.size],_,_,H1,rfl,I2,Zlr a _ _ (Nat.succ_ne_self _),⟨⟨.none,by simpa using he⟩,hit⟩,fun b hb=>?_,q⟩
 have hb':b=s1.heap.objs.size+1∨b=s1.heap.objs.size:=by simpa using hb
 rcases hb' with z|z
 ·subst z;exact I1.fpOk (Nat.le_succ _) (I1.hok.fresh (Nat.le_succ _))
 ·subst z;exact I1.fpOk (Nat.le_refl _) (I1.hok.fresh (Nat.le_refl _))
noncomputable def Z15(K:PySem.W.Frag):V→List V→Hp→VK→Prop:=fun x xs H Q=>∃sep p ys,x= .str sep∧xs=[.ref p]∧SqL K H p (ys.map V.str)∧JoinOk sep ys=true∧Q (.str (Txt.join sep ys)) H
inductive TyX(K:PySem.W.Frag)(H:Hp):V→String→Prop where
 |non:TyX K H .non "NoneType"
 |bl (x:Bool):TyX K H (.bl x) "bool"
 |int (i:Int):TyX K H (.int i) "int"
 |str (x:Str):TyX K H (.str x) "str"
 |lst {a:Addr} {xs:List V} (e:SqL K H a xs):TyX K H (.ref a) "list"
 |tup {a:Addr} {xs:List V} (e:SqT K H a xs):TyX K H (.ref a) "tuple"
 |dK {a:Addr} {kvs:List (Key×V)} {ep:Nat} (e:H a=some (.dK kvs ep)):TyX K H (.ref a) "dict"
 |dT {a:Addr} {kvs:List (List Key×V)} {ep:Nat} {bs:List Addr} (e:H a=some (.dT kvs ep bs)):TyX K H (.ref a) "dict"
theorem Zoi{pins:List (Addr×Obj)}{σ:L2.St}{H:Hp}{s:Shared}{A:Around}{E:Value→Shared→Prop}{Q:Value→Shared→Prop}{c:Value}{b:Bool}{x:V}{u:Value}{T:String}(I:Inv X pins σ H s)(rx:RelV x u)(ty:TyX X.K H x T)(e:PySem.W.kitOne X.K (.type T) c=some b)(h:∀tk,Q (.bool b) {s with toks:=tk}):
  wpAny (model X.prog X.w) A (call (.builtin "isinstance") [u,c]) Q E s:=by
 cases ty with
 |non=>cases(show u=Value.none from rx);exact PySem.W.kia_one PySem.W.kitx_none I.kIn True.intro e (fun z=>nomatch z) h
 |bl y=>cases(show u=Value.bool y from rx);exact PySem.W.kia_one PySem.W.kitx_bool I.kIn True.intro e (fun z=>nomatch z) h
 |int i=>obtain⟨t,q⟩:=(show∃t,u=Value.int i t from rx);cases q;exact PySem.W.kia_one PySem.W.kitx_int I.kIn True.intro e (fun z=>nomatch z) h
 |str y=>obtain⟨t,q⟩:=(show∃t,u=Value.str y t from rx);cases q;exact PySem.W.kia_one PySem.W.kitx_str I.kIn True.intro e (fun z=>nomatch z) h
 | @lst a xs ea=>
  cases(show u=Value.ref a from rx)
  obtain⟨its,_,pl,_⟩:=I.list ea
  obtain⟨o,h1,h2,_⟩:=pl.isList
  exact PySem.W.kia_one PySem.W.kitx_list I.kIn ⟨o,h1,h2⟩ e (fun z=>nomatch z) h
 | @tup a xs ea=>
  cases(show u=Value.ref a from rx)
  obtain⟨its,_,pl,_⟩:=I.tuple ea
  obtain⟨o,h1,h2,_⟩:=pl
  exact PySem.W.kia_one PySem.W.kitx_tuple I.kIn ⟨o,h1,h2⟩ e (fun z=>nomatch z) h
 | @dK a kvs ep ea=>
  cases(show u=Value.ref a from rx)
  obtain⟨_,_,vs,_,p⟩:=(show Zaj X.prog X.w H s.heap a (.dK kvs ep)from I.hok a _ ea)
  obtain⟨o,es,h1,h2,_⟩:=p
  exact PySem.W.kia_one PySem.W.kitx_dict I.kIn ⟨o,h1,h2.1⟩ e (fun z=>nomatch z) h
 | @dT a kvs ep bs ea=>
  cases(show u=Value.ref a from rx)
  obtain⟨_,_,xs,_,o,es,h1,h2,_⟩:=(show Zaj X.prog X.w H s.heap a (.dT kvs ep bs)from I.hok a _ ea)
  exact PySem.W.kia_one PySem.W.kitx_dict I.kIn ⟨o,h1,h2.1⟩ e (fun z=>nomatch z) h
noncomputable def rIsI(K:PySem.W.Frag)(c:String):List V→Hp→VK→Prop:=fun xs H Q=>∃x t b,xs=[x,.ty c]∧TyX K H x t∧PySem.W.kitOne K (.type t) (.type c)=some b∧Q (.bl b) H
theorem Zoj{c:String}:Zct X (.builtin "isinstance") (rIsI X.K c):=by
 intro pins s σ H xs us Q I r h
 obtain⟨x,t,b,rfl,ty,e,q⟩:=h
 obtain⟨u,w',rfl,r1,r2⟩:=Zug r
 cases r2
 exact Zoi I r1 ty e fun tk=>⟨.bl b,H,I.tok _,rfl,q⟩
end
end L2
namespace DL
open PySem PySem.Spec PyProof.Rows L2
variable{K:PySem.W.Frag}
noncomputable def Zea(xs:List D):List D:=xs.zipIdx.map fun p=>.tup [.int (p.2:Nat),p.1]
theorem Zgu{xs:List D}{i:Nat}{d:D}(h:(Zea xs)[i]? =some d):∃x,xs[i]? =some x∧d= .tup [.int (i:Nat),x]:=by
 unfold Zea at h
 rw[List.getElem?_map,List.getElem?_zipIdx]at h
 cases e:xs[i]? with
 |none=>rw[e]at h;cases h
 |some x=>rw[e]at h;cases h;exact⟨x,rfl,by simp⟩
theorem Zgv(xs:List D):(Zea xs).length=xs.length:=by unfold Zea;rw[List.length_map,List.length_zipIdx]
theorem Zh3{F:Hp}{a:Addr}{xs:List D}{vs:List V}(h:SqL K F a vs)(r:Reps K F xs vs):Zd5 K (Ite K a) F (Zea xs):=fun F' H sF sH i=>by
 have q:SqL K H a vs:=Zal (sF.trans sH) h
 refine⟨fun d hd=>?_,fun hl=>⟨vs,q,by rw[←r.length,←Zgv];exact hl⟩⟩
 obtain⟨x,hx,rfl⟩:=Zgu hd
 obtain⟨v,h1,h2⟩:=r.get hx
 refine⟨⟨vs,v,q,h1⟩,fun y H' zq9=>?_⟩
 obtain⟨p,w,e1,e2,e3,e4⟩:=zq9
 subst e1 e3
 have e5:=e4 vs q
 rw[h1]at e5;cases e5
 have hp:F' p=none:=sH.free e2
 have sm:Same F' (addL F' [(p,.tup [.int (i:Nat),v])]):=Zax fun z hz=>by obtain rfl:=List.mem_singleton.mp hz;exact hp
 refine⟨Zbs e2,[(p,.tup [.int (i:Nat),v])],nd1,fun z hz=>?_,.tup Zu (.cons (.int _) (.cons (h2.mono (sF.trans sm)) .nil))⟩
 obtain rfl:=List.mem_singleton.mp hz
 exact⟨e2,Zu⟩
section
variable{Z:Ent K}{H:Hp}{σ:L2.St}{Q:VK}
@[simp] noncomputable def Zvg(fd:FD):FD:=fun δ=>(fd δ).bind fun p=>match p.1 with
 | [.lst xs]=>some (Zea xs,p.2)
 |_=>none
theorem Zry{fd:FD}{R:It→Hp→Prop}(h:Zb0 Z (Zvg fd) σ H R):Zvf K (Zbg Z fd) σ H R:=by
 obtain⟨F,δ,own,ds,δ',s,e,k⟩:=h
 obtain⟨⟨ds1,δ1⟩,e1,e2⟩:=Option.bind_eq_some_iff.mp e
 refine⟨F,δ,own,ds1,δ1,s,e1,fun vs H1 F1 own1 sH sF s1 r1=>?_⟩
 dsimp only at e2
 split at e2
 ·rename_i xs
  cases e2
  cases r1 with
  |cons h t=>
   cases t
   cases h with
   |lst h r=>exact⟨_,_,rfl,Zal s1.le h,k _ H1 F1 own1 sH sF s1 (Zh3 h r)⟩
 ·cases e2
@[simp] noncomputable def D.ty:D→String
 | .str _=>"str"
 | .int _=>"int"
 | .lst _=>"list"
 | .dK _ _=>"dict"
 | .dT _ _=>"dict"
 |_=>"?"
@[simp] noncomputable def tyOk(T:String)(d:D):Bool:=T==d.ty&&(T=="str" ||T=="list" ||T=="dict")
theorem Zyn{F H:Hp}{d:D}{x:V}{T:String}(le:Same F H)(r:RepN K F H d x)(h:tyOk T d=true):tyV K T x H:=by
 unfold tyOk at h
 simp only[Bool.and_eq_true,beq_iff_eq]at h
 obtain⟨h1,h2⟩:=h
 subst h1
 cases d with
 |str y=>rw[r.str];rfl
 |lst xs=>
  obtain⟨a,vs,e,ha,_⟩:=r.lst le
  subst e
  exact .inl ⟨rfl,vs,ha⟩
 |dK ks vs=>
  obtain⟨a,kvs,e,⟨ep,ha⟩,_⟩:=r.dK le
  subst e
  exact .inr (.inr (.inl ⟨rfl,.inl ⟨kvs,ep,ha⟩⟩))
 |dT ks vs=>
  obtain⟨a,kvs,e,⟨ep,bs,ha⟩,_⟩:=r.dT le
  subst e
  exact .inr (.inr (.inl ⟨rfl,.inr ⟨kvs,ep,bs,ha⟩⟩))
 |non=>exact absurd (show("?"=="str" || "?"=="list" || "?"=="dict")=true from h2) (by decide)
 |bl b=>exact absurd (show("?"=="str" || "?"=="list" || "?"=="dict")=true from h2) (by decide)
 |int i=>exact absurd (show("int"=="str" || "int"=="list" || "int"=="dict")=true from h2) (by decide)
 |tup xs=>exact absurd (show("?"=="str" || "?"=="list" || "?"=="dict")=true from h2) (by decide)
 |exc C ks vs=>exact absurd (show("?"=="str" || "?"=="list" || "?"=="dict")=true from h2) (by decide)
@[simp] noncomputable def bmF(T:String)(g:List D→Option SV)(fo:FE)(fa:FA):FE:=fun δ=>(fo δ).bind fun p=>(rdv p.1 p.2).bind fun d0=>if tyOk T d0=true then(fa p.2).bind fun q=>(Zb3 (p.1::q.1) q.2).bind fun ds=>(g ds).bind fun sv=>some (.tmp sv,q.2)else none
noncomputable def Z16(Z:Ent K)(r:V→List V→Hp→VK→Prop)(g:List D→Option SV):Prop:=Zfl Z (fun vs H Q=>∃x xs,vs=x::xs∧r x xs H Q) g
end
@[simp] noncomputable def strs?:List D→Option (List Str)
 | []=>some []
 | .str x::r=>(strs? r).bind fun t=>some (x::t)
 |_=>none
@[simp] noncomputable def Z17:List D→Option SV
 | [.str sep,.lst xs]=>(strs? xs).bind fun ys=>if JoinOk sep ys=true then some (.fz (.str (Txt.join sep ys)))else none
 |_=>none
variable{Z:Ent K}
@[simp] noncomputable def D.pyTy:D→String
 | .non=>"NoneType"
 | .bl _=>"bool"
 | .int _=>"int"
 | .str _=>"str"
 | .tup _=>"tuple"
 | .lst _=>"list"
 | .dK _ _=>"dict"
 | .dT _ _=>"dict"
 | .exc _ _ _=>"?"
@[simp] noncomputable def D.isExc:D→Bool
 | .exc _ _ _=>true
 |_=>false
theorem Zrz{F H:Hp}{d:D}{x:V}(le:Same F H)(r:RepN K F H d x)(hx:d.isExc=false):TyX K H x d.pyTy:=by
 cases d with
 |exc C ks vs=>cases hx
 |non=>rw[r.non];exact .non
 |bl b=>rw[r.bl];exact .bl b
 |int i=>rw[r.int];exact .int i
 |str y=>rw[r.str];exact .str y
 |tup xs=>obtain⟨a,vs,e,ha,_⟩:=r.tup le;subst e;exact .tup ha
 |lst xs=>
  obtain⟨a,vs,e,ha,_⟩:=r.lst le
  subst e
  exact .lst ha
 |dK ks vs=>obtain⟨a,kvs,e,⟨ep,ha⟩,_⟩:=r.dK le;subst e;exact .dK ha
 |dT ks vs=>obtain⟨a,kvs,e,⟨ep,bs,ha⟩,_⟩:=r.dT le;subst e;exact .dT ha
@[simp] noncomputable def isiD(c:String)(d:D):Option SV:=if d.isExc=true then none else some (.fz (.bl (d.pyTy==c|| (c=="int" &&d.pyTy=="bool"))))
theorem Zyo{c:String}(hk:∀d:D,d.isExc=false→PySem.W.kitOne K (.type d.pyTy) (.type c)=some (d.pyTy==c|| (c=="int" &&d.pyTy=="bool"))):Zrp Z (fun x H Q=>rIsI K c [x,.ty c] H Q) (isiD c):=by
 intro F H σ δ own x d sv Q s r e k
 unfold isiD at e
 split at e
 ·cases e
 ·rename_i hx
  cases e
  have hx':d.isExc=false:=by cases z:d.isExc with
   |true=>exact absurd z hx
   |false=>rfl
  exact⟨x,_,_,rfl,Zrz s.le r hx',hk d hx',k.fz s (.bl _)⟩
@[simp] noncomputable def lenD:List D→Option SV
 | [.lst xs]=>some (.fz (.int (xs.length:Nat)))
 | [.tup xs]=>some (.fz (.int (xs.length:Nat)))
 | [.str x]=>if x.length≤PySem.sizeLine then some (.fz (.int (x.length:Nat)))else none
 |_=>none
theorem Zyp:Zfl Z (fun xs H Q=>(∃p ys,xs=[V.ref p]∧(SqL K H p ys∨SqT K H p ys)∧Q (.int ys.length) H)∨(∃z,xs=[V.str z]∧z.length≤PySem.sizeLine∧Q (.int z.length) H)) lenD:=by
 intro F H σ δ own vs ds sv Q s r e k
 unfold lenD at e
 split at e
 ·cases e
  cases r with
  |cons h t=>
   cases t
   obtain⟨a,us,ex,ha,ra⟩:=h.lst s.le
   subst ex
   exact .inl ⟨a,us,rfl,.inl ha,by rw[←ra.length];exact k.fz s (.int _)⟩
 ·cases e
  cases r with
  |cons h t=>
   cases t
   obtain⟨a,us,ex,ha,ra⟩:=h.tup s.le
   subst ex
   exact .inl ⟨a,us,rfl,.inr ha,by rw[←ra.length];exact k.fz s (.int _)⟩
 ·split at e
  ·rename_i hz
   cases e
   cases r with
   |cons h t=>
    cases t
    exact .inr ⟨_,by rw[h.str],hz,k.fz s (.int _)⟩
  ·cases e
 ·cases e
@[simp] noncomputable def Zls:List D→Option SV
 | [.lst xs]=>some (.ol xs)
 | [.tup xs]=>some (.ol xs)
 |_=>none
theorem Zvh:Zfl Z (fun xs H Q=>∃p ys,xs=[V.ref p]∧(SqL K H p ys∨SqT K H p ys)∧∀l,H l=none→Q (.ref l) (upd H l (.lst ys))) Zls:=by
 intro F H σ δ own vs ds sv Q s r e k
 unfold Zls at e
 split at e
 ·cases e
  cases r with
  |cons h t=>
   cases t
   obtain⟨a,us,ex,ha,ra⟩:=h.lst s.le
   subst ex
   exact⟨a,us,rfl,.inl ha,fun l hl=>k.lst s ra hl⟩
 ·cases e
  cases r with
  |cons h t=>
   cases t
   obtain⟨a,us,ex,ha,ra⟩:=h.tup s.le
   subst ex
   exact⟨a,us,rfl,.inr ha,fun l hl=>k.lst s ra hl⟩
 ·cases e
@[simp] noncomputable def Z0r:List D→Option SV
 | [.lst xs]=>some (.fz (.tup xs))
 |_=>none
@[simp] noncomputable def intD:List D→Option SV
 | [.int i]=>some (.fz (.int i))
 | [.bl b]=>some (.fz (.int (if b then 1 else 0)))
 |_=>none
theorem Zyq:Zfl Z (fun xs H Q=>(∃i,xs=[V.int i]∧Q (.int i) H)∨∃k,xs=[V.bl k]∧Q (.int (if k then 1 else 0)) H) intD:=by
 intro F H σ δ own vs ds sv Q s r e k
 unfold intD at e
 split at e
 ·cases e
  cases r with
  |cons h t=>cases t;exact .inl ⟨_,by rw[h.int],k.fz s (.int _)⟩
 ·cases e
  cases r with
  |cons h t=>cases t;exact .inr ⟨_,by rw[h.bl],k.fz s (.int _)⟩
 ·cases e
section
variable{X:Cx}{Z:Ent X.K}{a b c:Expr}{fa fb fc:FE}{pos:Pos}
theorem Zd(i:Nat){x:Str}{pos:Pos}(hN:X.N[i]? =some x:=by rfl)(hv:Vis X.env.scope x:=by first|exact Or.inl rfl|exact Or.inr (Or.inl rfl)|exact Or.inr (Or.inr rfl))(hd:(x==("__debug__":Str))=false:=by decide)
  (hcd:(x==("__classdict__":Str))=false:=by decide):PE X (.Name x pos) (Ze Z (Za i)):=(Zku hN hv hd hcd).imp fun _ _ _ h=>Zx8 h
theorem Zj{i:Int}{j:Nat}:PE X (.Constant (.int i) j pos) (Ze Z (Zb (.int i))):=Ztp.imp fun _ _ _ h=>Zfk (fun _=>.int _) h
theorem e_bl{i:Bool}{j:Nat}:PE X (.Constant (.bool i) j pos) (Ze Z (Zb (.bl i))):=Zxo.imp fun _ _ _ h=>Zfk (fun _=>.bl _) h
theorem Zeb{j:Nat}:PE X (.Constant .none j pos) (Ze Z (Zb .non)):=Ztq.imp fun _ _ _ h=>Zfk (fun _=>.non) h
theorem Zdt{i:Str}{j:Nat}:PE X (.Constant (.str i) j pos) (Ze Z (Zb (.str i))):=Zkv.imp fun _ _ _ h=>Zfk (fun _=>.str _) h
theorem Zlt{op:Operator}{r:R2}{g:D→D→Option SV}(ho:OpR X (binaryOp op) r)(hp:Zae Z r g)(ha:PE X a (Ze Z fa))(hb:PE X b (Ze Z fb)):PE X (.BinOp a op b pos) (Ze Z (binF g fa fb)):=(Zxs ho ha hb).imp fun _ _ _ h=>Zln hp h
theorem Zdu(ha:PE X a (Ze Z fa))(hb:PE X b (Ze Z fb)):PE X (.BinOp a .Add b pos) (Ze Z (binF addD fa fb)):=Zlt Zrw Zym ha hb
theorem Zr0(ha:PE X a (Ze Z fa))(hb:PE X b (Ze Z fb)):PE X (.BinOp a .Sub b pos) (Ze Z (binF subD fa fb)):=Zlt Zua Zyj ha hb
theorem Zez(ha:PE X a (Ze Z fa))(hb:PE X b (Ze Z fb)):PE X (.BinOp a .FloorDiv b pos) (Ze Z (binF Zd9 fa fb)):=Zlt Zq5 Zu8 ha hb
theorem Zbh(ha:PE X a (Ze Z fa))(hb:PE X b (Ze Z fb)):PE X (.BinOp a .Mod b pos) (Ze Z (binF modD fa fb)):=Zlt Zuc Zyl ha hb
theorem Zok{op:CmpOp}{r:R2}{g:D→D→Option SV}(ho:OpR X (compareOp op) r)(hp:Zae Z r g)(ha:PE X a (Ze Z fa))(hb:PE X b (Ze Z fb))(hm:behindInMarks op b=false):PE X (.Compare a [op] [b] pos) (Ze Z (binF g fa fb)):=(Zq6 ho ha hb hm).imp fun _ _ _ h=>Zln hp h
theorem Zgw{op:CmpOp}{r:R2}{g:D→D→Option SV}(ho:OpR X (compareOp op) r)(hp:Zae Z r g)(ha:PE X a (Ze Z fa))(hb:PE X b (Ze Z fb))(hm:behindInMarks op b=false):PT X (.Compare a [op] [b] pos) (Z5 Z (Zy (binF g fa fb))):=
 (Zq7 ho ha hb hm).imp fun σ H Q h=>by
  obtain⟨F,δ,own,rv,δ',s,e,k⟩:=Zix h
  exact Zln hp ⟨F,δ,own,rv,δ',s,e,k⟩
theorem Zyr(ha:PE X a (Ze Z fa))(hb:PE X b (Ze Z fb)):PE X (.Compare a [.Is] [b] pos) (Ze Z (binF isND fa fb)):=Zok Zpp Zvb ha hb (Zci _)
theorem Zvi(ha:PE X a (Ze Z fa))(hb:PE X b (Ze Z fb)):PE X (.Compare a [.IsNot] [b] pos) (Ze Z (binF Zj3 fa fb)):=Zok Zk5 Zp0 ha hb (Zci _)
theorem t_lt(ha:PE X a (Ze Z fa))(hb:PE X b (Ze Z fb)):PT X (.Compare a [.Lt] [b] pos) (Z5 Z (Zy (binF ltD fa fb))):=Zgw Zxv p_lt ha hb (Zci _)
theorem t_gt(ha:PE X a (Ze Z fa))(hb:PE X b (Ze Z fb)):PT X (.Compare a [.Gt] [b] pos) (Z5 Z (Zy (binF gtD fa fb))):=Zgw Zxw p_gt ha hb (Zci _)
theorem Zr1(ha:PE X a (Ze Z fa))(hb:PE X b (Ze Z fb)):PT X (.Compare a [.Is] [b] pos) (Z5 Z (Zy (binF isND fa fb))):=Zgw Zpp Zvb ha hb (Zci _)
theorem Zvj(ha:PE X a (Ze Z fa))(hb:PE X b (Ze Z fb)):PT X (.Compare a [.IsNot] [b] pos) (Z5 Z (Zy (binF Zj3 fa fb))):=Zgw Zk5 Zp0 ha hb (Zci _)
theorem Zvk{f:FT}(ha:PT X a (Z5 Z f)):PW X (.BoolOp .And [a] pos) (Z5 Z f):=Zqz ha
theorem Zol{f:FT}(ha:PT X a (Z5 Z f)):PW X (.BoolOp .Or [a] pos) (Z5 Z f):=Zts ha
theorem Zys{f g:FT}{rest:List Expr}(ha:PT X a (Z5 Z f))(hb:PW X (.BoolOp .And (b::rest) pos) (Z5 Z g)):PW X (.BoolOp .And (a::b::rest) pos) (Z5 Z (andF f g)):=(Ztt ha hb).imp fun _ _ _ h=>Zyb h
theorem w_or{f g:FT}{rest:List Expr}(ha:PT X a (Z5 Z f))(hb:PW X (.BoolOp .Or (b::rest) pos) (Z5 Z g)):PW X (.BoolOp .Or (a::b::rest) pos) (Z5 Z (orF f g)):=(Zxp ha hb).imp fun _ _ _ h=>l_or h
theorem Zvl{f:FT}(ha:PT X a (Z5 Z f)):PT X (.UnaryOp .Not a pos) (Z5 Z (notF f)):=(Ztu ha).imp fun _ _ _ h=>Zyc h
theorem Zvm(h:PE X a (Ze Z fa))(he:∀whole,isTrue a X.env whole=(do let v←whole;standAt a.pos;holding [v] (truthy v)):=by intro _;rfl):PT X a (Z5 Z (Zy fa)):=(Ztr h he).imp fun _ _ _ h=>Zrq h
theorem Zvn{op:BoolOp}(h:PE X a (Ze Z fa)):PE X (.BoolOp op [a] pos) (Ze Z fa):=Ztw h
theorem Zyt{rest:List Expr}(ha:PE X a (Ze Z fa))(hb:PE X (.BoolOp .And (b::rest) pos) (Ze Z fb)):PE X (.BoolOp .And (a::b::rest) pos) (Ze Z (andV fa fb)):=(Ztx ha hb).imp fun _ _ _ h=>Zu0 h
theorem e_or{rest:List Expr}(ha:PE X a (Ze Z fa))(hb:PE X (.BoolOp .Or (b::rest) pos) (Ze Z fb)):PE X (.BoolOp .Or (a::b::rest) pos) (Ze Z (orV fa fb)):=(Zxq ha hb).imp fun _ _ _ h=>Zyd h
theorem e_if{t:FT}(hc:PT X c (Z5 Z t))(ha:PE X a (Ze Z fa))(hb:PE X b (Ze Z fb)):PE X (.IfExp c a b pos) (Ze Z (ifF t fa fb)):=(Znz hc ha hb).imp fun _ _ _ h=>l_if h
theorem Zaz:PA X [] (Zcg Z Zk):=Ziq.imp fun _ _ _ h=>Zod h
theorem Zh{es:List Expr}{fr:FA}(ha:PE X a (Ze Z fa))(hr:PA X es (Zcg Z fr))(hs:starEach (a::es) X.env=(false,eval a X.env)::starEach es X.env:=by rfl):PA X (a::es) (Zcg Z (Zc fa fr)):=(Zda ha hr hs).imp fun _ _ _ h=>Zll h
theorem Zan:PA X [] (Zbg Z Zl):=Ziq.imp fun _ _ _ h=>Zgr h
theorem Z9{es:List Expr}{fr:FD}(ha:PE X a (Ze Z fa))(hr:PA X es (Zbg Z fr))(hs:starEach (a::es) X.env=(false,eval a X.env)::starEach es X.env:=by rfl):PA X (a::es) (Zbg Z (Zi fa fr)):=(Zda ha hr hs).imp fun _ _ _ h=>Zey h
theorem Zgx{es:List Expr}{fd:FD}{k:Nat}(h:PA X es (Zbg Z fd)):PE X (.Tuple es k pos) (Ze Z (tupF fd)):=(Zuh h).imp fun _ _ _ h=>Zx9 h
theorem Zb4{es:List Expr}{fd:FD}(h:PA X es (Zbg Z fd)):PE X (.List es pos) (Ze Z (lstF fd)):=(Zui h).imp fun _ _ _ h=>Zya h
theorem Zp1:PO X none (Zgt Z Zi2):=fun pins s σ H Q I h=>Zq9 pins s σ H Q I (Zoh h)
theorem Zi3(ha:PE X a (Ze Z fa)):PO X (some a) (Zgt Z (Zj4 fa)):=fun pins s σ H Q I h=>Zra ha pins s σ H Q I (Zvc h)
theorem e_sl{lo hi:Option Expr}{fl fh:FO}{p2:Pos}(ha:PE X a (Ze Z fa))(hl:PO X lo (Zgt Z fl))(hh:PO X hi (Zgt Z fh)):PE X (.Subscript a (.Slice lo hi none p2) pos) (Ze Z (slF slD fa fl fh)):=
 (Zn7 (Zrd.or Zve) ha hl hh).imp fun _ _ _ h=>l_sl p_sl h
theorem Zao{k n:Nat}{f:Addr}{fd:FuncData}{ps:List Str}{g:List D→Option SV}{x:Str}{p:Pos}{es:List Expr}{fr:FA}(F:FnOk X.prog X.w X.K X.mg X.base CX0 k f fd ps (spOf X.K n g))(hr:Room k X.A)(hm:X.mg x=some (.ref f))(hk:PySem.W.keepIn X.K (.ref f)=true)(hb:Zbb X.K fd ps [])
  (ha:PA X (a::es) (Zcg Z fr)) (hg:Gl X x:=by rfl) (hdb:(x==("__debug__":Str))=false:=by decide) (he:starEach (a::es) X.env=(false,eval a X.env)::starEach es X.env:=by rfl) (hpl:(backTo pos (starEach es X.env)).any (·.1)=false:=by rfl):
  PE X (.Call (.Name x p) (a::es) [] pos) (Ze Z (Za1 n g fr)):=(Zk9 F hr hg hm hk hb .nil Zuw ha hdb he hpl).imp fun _ _ _ h=>Zpx h
theorem Zlu{id:String}{r:List V→Hp→VK→Prop}{g:List D→Option SV}{x:Str}{p:Pos}{es:List Expr}{fr:FA}(hc:Zct X (.builtin id) r)(hp:Zfl Z r g)(hm:X.mg x=none)(hv:bootBuiltins x=some (.builtin id))(ha:PA X (a::es) (Zcg Z fr))(hg:Gl X x:=by rfl)(hn:x≠"__name__":=by decide)(hdb:(x==("__debug__":Str))=false:=by decide)
  (he:starEach (a::es) X.env=(false,eval a X.env)::starEach es X.env:=by rfl) (hpl:(backTo pos (starEach es X.env)).any (·.1)=false:=by rfl):PE X (.Call (.Name x p) (a::es) [] pos) (Ze Z (Zay g fr)):=(Zis hc hg hm hv ha hn hdb he hpl).imp fun _ _ _ h=>Zlm hp h
theorem Zlv{T:String}{r:List V→Hp→VK→Prop}{g:List D→Option SV}{x:Str}{p:Pos}{es:List Expr}{fr:FA}(hc:Zct X (.type T) r)(hp:Zfl Z r g)(hm:X.mg x=none)(hv:bootBuiltins x=some (.type T))(ha:PA X (a::es) (Zcg Z fr))(hg:Gl X x:=by rfl)(hn:x≠"__name__":=by decide)(hdb:(x==("__debug__":Str))=false:=by decide)
  (he:starEach (a::es) X.env=(false,eval a X.env)::starEach es X.env:=by rfl) (hpl:(backTo pos (starEach es X.env)).any (·.1)=false:=by rfl):PE X (.Call (.Name x p) (a::es) [] pos) (Ze Z (Zay g fr)):=(Zlb hc hg hm hv ha hn hdb he hpl).imp fun _ _ _ h=>Zlm hp h
theorem Zen{p:Pos}(hm:X.mg "len"=none)(ha:PE X a (Ze Z fa))(hg:Gl X "len":=by rfl)(he:starEach [a] X.env=(false,eval a X.env)::starEach [] X.env:=by rfl)(hpl:(backTo pos (starEach [] X.env)).any (·.1)=false:=by rfl):PE X (.Call (.Name "len" p) [a] [] pos) (Ze Z (Zay lenD (Zc fa Zk))):=
 Zlu (Zgi.or Zgj) Zyp hm PySem.boot_len (Zh ha Zaz he) hg (by decide) (by decide) he hpl
theorem Zp2{p:Pos}(hm:X.mg "list"=none)(ha:PE X a (Ze Z fa))(hg:Gl X "list":=by rfl)(he:starEach [a] X.env=(false,eval a X.env)::starEach [] X.env:=by rfl)(hpl:(backTo pos (starEach [] X.env)).any (·.1)=false:=by rfl):PE X (.Call (.Name "list" p) [a] [] pos) (Ze Z (Zay Zls (Zc fa Zk))):=
 Zlv Zgk Zvh hm boot_list (Zh ha Zaz he) hg (by decide) (by decide) he hpl
theorem Zvo{p:Pos}(hm:X.mg "int"=none)(ha:PE X a (Ze Z fa))(hg:Gl X "int":=by rfl)(he:starEach [a] X.env=(false,eval a X.env)::starEach [] X.env:=by rfl)(hpl:(backTo pos (starEach [] X.env)).any (·.1)=false:=by rfl):PE X (.Call (.Name "int" p) [a] [] pos) (Ze Z (Zay intD (Zc fa Zk))):=
 Zlv Zk6 Zyq hm boot_int (Zh ha Zaz he) hg (by decide) (by decide) he hpl
theorem Zyu{x:Str}{c:String}{p p2:Pos}(hm:X.mg "isinstance"=none)(hmc:X.mg x=none)(hv:bootBuiltins x=some (.type c))(hk:∀d:D,d.isExc=false→PySem.W.kitOne X.K (.type d.pyTy) (.type c)=some (d.pyTy==c|| (c=="int" &&d.pyTy=="bool")))(ha:PE X a (Ze Z fa))(hg:Gl X "isinstance":=by rfl)(hgc:Gl X x:=by rfl)
  (hn:x≠"__name__":=by decide) (hdb:(x==("__debug__":Str))=false:=by decide)
  (he:starEach [a,.Name x p2] X.env=(false,eval a X.env)::starEach [.Name x p2] X.env:=by rfl) (he2:starEach [.Name x p2] X.env=(false,eval (.Name x p2) X.env)::starEach [] X.env:=by rfl) (hpl:(backTo pos (starEach [.Name x p2] X.env)).any (·.1)=false:=by rfl):
  PE X (.Call (.Name "isinstance" p) [a,.Name x p2] [] pos) (Ze Z (unF (isiD c) fa)):=
 (Zis Zoj hg hm boot_isinstance (Zda ha (Zda (Zqy (v:=.ty c) hgc hmc hv rfl hn hdb) Ziq he2) he) (by decide) (by decide) he hpl).imp fun σ H Q h=>by
  have h2:=l_un (Zyo hk) h
  exact h2
theorem Za6(i:Nat){x:Str}(hN:X.N.Nodup)(hi:X.N[i]? =some x:=by rfl)(hx:Loc X.env.scope x:=by first|exact Or.inl rfl|exact Or.inr rfl)(hf:X.fn x=true∨X.env.scope.names.lookup x=some .local:=by first|exact .inl rfl|exact .inr rfl):PG X (.Name x pos) (Zds Z (Zq i)):=(Zq3 hN hi hx hf).imp fun _ _ _ _ h=>Zrr h
theorem Zp3:PGs X [] (Zdp Z Zj1):=Zq4.imp fun _ _ _ _ h=>Zu5 h
theorem Zfo{es:List Expr}{g:FG}{r:FGs}(h1:PG X a (Zds Z g))(h2:PGs X es (Zdp Z r))(hs:(assignEach (a::es) X.env).map (·.2)=assign a X.env::(assignEach es X.env).map (·.2):=by rfl):PGs X (a::es) (Zdp Z (Zcz g r)):=(Zn2 h1 h2 hs).imp fun _ _ _ _ h=>Zrs h
theorem Zvp{es:List Expr}{k n:Nat}{g:FGs}(hc:X.calm=true)(h:PGs X es (Zdp Z g))(hn:(assignEach es X.env).length=n:=by rfl)(hst:(assignEach es X.env).findIdx? (·.1)=none:=by rfl):PG X (.Tuple es k pos) (Zds Z (Zhz n g)):=(Zt3 hc h hn hst).imp fun _ _ _ _ h=>Zu6 h
theorem Zom{tg:Expr}{p:Pos}(hm:X.mg "range"=none)(ha:PE X a (Ze Z fa))(hg:Gl X "range":=by rfl)(hs:starEach [a] X.env=[(false,eval a X.env)]:=by rfl):PI X tg (.Call (.Name "range" p) [a] [] pos) (Zb0 Z (rngI (Zc fa Zk))):=(Zkx hg hm (Zh ha Zaz hs) hs).imp fun _ _ _ h=>Zu7 h
theorem Zgy{N':List Str}{scope:Scope}{src:List BSrc}(kind:scope.kind= .function)(nocell:(scope.names.all fun y=>!(y.2== .cell))=true)(names:(scope.names.all fun y=>!(y.2== .local)|| (scope.names.lookup y.1==some .local))=true)
  (free:(scope.names.all fun y=>!(y.2== .free)|| (X.env.kindOf y.1==some .cell)|| (X.env.kindOf y.1==some .free))=true) (len:src.length=N'.length)
  (cap:((List.range src.length).all fun k=>match src[k]?,N'[k]? with
   |some (.cap j),some x=>(X.N[j]? ==some x)&&((X.env.kindOf x==some .cell)|| (X.env.kindOf x==some .free))&&(scope.names.lookup x==some .free)
   |some .acc,some x=>scope.names.lookup x==none
   |_,_=>true)=true):CompScope X N' scope src:=by
 have capk:∀(k:Nat) (q:BSrc) (x:Str),src[k]? =some q→N'[k]? =some x→(match some q,some x with
   |some (.cap j),some x=>(X.N[j]? ==some x)&&((X.env.kindOf x==some .cell)|| (X.env.kindOf x==some .free))&&(scope.names.lookup x==some .free)
   |some .acc,some x=>scope.names.lookup x==none
   |_,_=>true)=true:=fun k q x h1 h2=>by
  have hk:k<src.length:=(List.getElem?_eq_some_iff.mp h1).1
  have:=List.all_eq_true.mp cap k (List.mem_range.mpr hk)
  rw[h1,h2]at this
  exact this
 refine⟨kind,fun y hy e=>?_,fun y hy e=>?_,fun y hy e=>?_,len,fun k j x h1 h2=>?_,fun k x h1 h2=>?_⟩
 ·have:=List.all_eq_true.mp nocell y hy
  rw[e]at this;cases this
 ·have:=List.all_eq_true.mp names y hy
  rw[e]at this
  simpa using this
 ·have:=List.all_eq_true.mp free y hy
  rw[e]at this
  simpa using this
 ·have:=capk k (.cap j) x h1 h2
  simp only[Bool.and_eq_true,Bool.or_eq_true,beq_iff_eq]at this
  exact⟨this.1.1,this.1.2,this.2⟩
 ·have:=capk k .acc x h1 h2
  simpa using this
theorem Zvq{src:List BSrc}(k:Nat)(acc:src[k]? =some .acc)(uni:((List.range src.length).all fun i=>match src[i]? with
   |some .acc=>i==k
   |_=>true)=true):SrcOk src k:=⟨acc,fun i h=>by
  have hi:i<src.length:=(List.getElem?_eq_some_iff.mp h).1
  have:=List.all_eq_true.mp uni i (List.mem_range.mpr hi)
  rw[h]at this
  simpa using this⟩
theorem Zon(K:PySem.W.Frag):∀d:D,d.isExc=false→PySem.W.kitOne K (.type d.pyTy) (.type "list")=some (d.pyTy=="list" || ("list"=="int" &&d.pyTy=="bool")):=by intro d h;cases d<;> first| (cases h;done)|with_unfolding_all rfl
theorem xg{tg:Expr}{g:FG}(h:∀Z:Ent X.K,PG X tg (Zds Z g)):PG X tg (xG X.K g):=fun pins s σ H v u Q I r ⟨Z,q⟩=>h Z pins s σ H v u Q I r q
theorem xe{e:Expr}{f:FE}(h:∀Z:Ent X.K,PE X e (Ze Z f)):PE X e (xE X.K f):=fun pins s σ H Q I ⟨Z,q⟩=>h Z pins s σ H Q I q
theorem xt0:PTs X [] (xT X.K Zh2):=fun pins s σ H Q I ⟨Z,q⟩=>by
 obtain⟨F,δ,own,b,δ',sr,e,k⟩:=q
 cases e
 exact Zrn pins s σ H Q I (k H F own (Same.refl H) (Same.refl F) sr)
theorem Zvr{N':List Str}{scope:Scope}{src:List BSrc}{k:Nat}{tg elt iter:Expr}{ifs:List Expr}{fi:FD}{g:FG}{tt:FT}{te:FE}(hc:X.calm=true)(S:CompScope X N' scope src)(So:SrcOk src k)(hk:k∉g.tch)(hi:PI X tg iter (Zb0 Z fi))
  (hg:∀(C:Addr) (s₀:Shared) (H₀:Hp) (ex:List Addr),PG (X.block N' scope C s₀ H₀ ex) tg (xG X.K g)) (ht:∀(C:Addr) (s₀:Shared) (H₀:Hp) (ex:List Addr),PTs (X.block N' scope C s₀ H₀ ex) ifs (xT X.K tt)) (he:∀(C:Addr) (s₀:Shared) (H₀:Hp) (ex:List Addr),PE (X.block N' scope C s₀ H₀ ex) elt (xE X.K te))
  (hs:∀x,foldedSetIterable iter X.env x=pure x:=by intro _;rfl):PE X (.ListComp elt [⟨tg,iter,ifs,0⟩] scope pos) (Ze Z (Zlq src k fi g tt te)):=(Zro hc S hi hg ht he hs).imp fun _ _ _ h=>Zpy So hk h
theorem Za0:PSs X [] (Z2 Z Zbc):=Zq0.imp fun _ _ _ h=>Zu1 h
theorem Zf{st:Stmt}{rest:List Stmt}{f g:FS}(h1:PS X st (Z2 Z f))(h2:PSs X rest (Z2 Z g)):PSs X (st::rest) (Z2 Z (seqF f g)):=(Zn0 h1 h2).imp fun _ _ _ h=>Zye h
theorem Zo{st:Stmt}{f:FS}(h:PS X st (Z2 Z f)):PSs X [st] (Z2 Z f):=Zq1 h
noncomputable def Zp4:FS:=fun _=>none
theorem Zr2{st:Stmt}:PS X st (Z2 Z Zp4):=Zn1.imp fun _ _ _ h=>by obtain⟨F,δ,own,fl,s,e,k⟩:=h;cases e
theorem Za7(h:PE X a (Ze Z fa)):PS X (.Return (some a) pos) (Z2 Z (retF fa)):=(Zt0 h).imp fun _ _ _ h=>Zyg h
theorem s_if{t:FT}{f g:FS}{bt be:List Stmt}(hc:PT X c (Z5 Z t))(ha:PSs X bt (Z2 Z f))(hb:PSs X be (Z2 Z g)):PS X (.If c bt be pos) (Z2 Z (ifS t f g)):=(Zxr hc ha hb).imp fun _ _ _ h=>Zyf h
theorem Z7(i:Nat){x:Str}{pos':Pos}(hN:X.N.Nodup)(he:PE X a (Ze Z fa))(hi:X.N[i]? =some x:=by rfl)(hx:Loc X.env.scope x:=by first|exact Or.inl rfl|exact Or.inr rfl)(hs:swapsWith a (some (.Name x pos')) pos.line X.env=pure false:=by rfl)(hf:X.fn x=true∨X.env.scope.names.lookup x=some .local:=by first|exact .inl rfl|exact .inr rfl):
  PS X (.Assign [.Name x pos'] a pos) (Z2 Z (setF i fa)):=(Zt5 hN hi hx he hs hf).imp fun _ _ _ h=>Zu2 h
theorem Zlw(i:Nat){N':List Str}{scope:Scope}{src:List BSrc}{k:Nat}{tg elt iter:Expr}{ifs:List Expr}{fi:FD}{g:FG}{tt:FT}{te:FE}{y:Str}{py spos:Pos}(hc:X.calm=true)(S:CompScope X N' scope src)(So:SrcOk src k)(hk:k∉g.tch)(hi:PI X tg iter (Zb0 Z fi))
  (hg:∀(C:Addr) (s₀:Shared) (H₀:Hp) (ex:List Addr),PG (X.block N' scope C s₀ H₀ ex) tg (xG X.K g)) (ht:∀(C:Addr) (s₀:Shared) (H₀:Hp) (ex:List Addr),PTs (X.block N' scope C s₀ H₀ ex) ifs (xT X.K tt)) (he:∀(C:Addr) (s₀:Shared) (H₀:Hp) (ex:List Addr),PE (X.block N' scope C s₀ H₀ ex) elt (xE X.K te))
  (hN:X.N.Nodup) (hiy:X.N[i]? =some y:=by rfl) (hx:X.env.scope.names.lookup y=some .local:=by rfl) (hsw:swapsWith (.ListComp elt [⟨tg,iter,ifs,0⟩] scope pos) (some (.Name y py)) spos.line X.env=pure true:=by rfl)
  (hs:∀x,foldedSetIterable iter X.env x=pure x:=by intro _;rfl):PS X (.Assign [.Name y py] (.ListComp elt [⟨tg,iter,ifs,0⟩] scope pos) spos) (Z2 Z (setF i (Zlq src k fi g tt te))):=
 (Zjy hc S hi hg ht he hN hiy hx hsw hs).imp fun D σ H h=>by
  obtain⟨F,δ,own,rv,δ',s,e,q⟩:=Zu2 h
  exact Zpy So hk ⟨F,δ,own,rv,δ',s,e,q⟩
theorem Zoo{tg:Expr}{g:FG}(he:PE X a (Ze Z fa))(hg:PG X tg (Zds Z g))(hs:swapsWithSole [tg] a pos.line X.env=pure false:=by rfl)(hw:swappedStores [tg] a X.env=pure none:=by rfl)(h1:(assignEach [tg] X.env).map (·.2)=[assign tg X.env]:=by rfl):
  PS X (.Assign [tg] a pos) (Z2 Z (Zh0 g fa)):=(Zt4 he hg hs hw h1).imp fun _ _ _ h=>Zof h
theorem Zeo{tg iter:Expr}{body:List Stmt}{fi:FD}{g:FG}{f:FS}(hp:PassesOwn (model X.prog X.w) X.A X.env X.xe)(hc:X.calm=true)(hi:PI X tg iter (Zb0 Z fi))(hg:PG X tg (Zds Z g))(hb:PSs X body (Z2 Z f))(hs:∀x,foldedSetIterable iter X.env x=pure x:=by intro _;rfl):
  PS X (.For tg iter body [] pos) (Z2 Z (forF fi g f)):=(Zt8 hp hc hi hg hb hs).imp fun _ _ _ h=>Zyh h
theorem Zlx(n:Nat){t:FT}{body:List Stmt}{f:FS}(hp:PassesOwn (model X.prog X.w) X.A X.env X.xe)(hc:PT X c (Z5 Z t))(hb:PSs X body (Z2 Z f)):PS X (.While c body [] pos) (Z2 Z (Za5 t f n)):=(Zn3 hp hc hb).imp fun _ _ _ h=>Zrt h
theorem Zop(i:Nat){x:Str}{px apos cpos:Pos}(hb:PE X b (Ze Z fb))(hN:X.N[i]? =some x:=by rfl)(hv:Vis X.env.scope x:=by first|exact Or.inl rfl|exact Or.inr (Or.inl rfl)|exact Or.inr (Or.inr rfl))(hd:(x==("__debug__":Str))=false:=by decide)
  (hcd:(x==("__classdict__":Str))=false:=by decide) (hbase:attributeBase (.Name x px) "append" X.env (eval (.Name x px) X.env)=eval (.Name x px) X.env:=by rfl)
  (hfew:((backTo cpos (starEach [b] X.env)).all (fun x=>!x.1)&&(backToKw cpos (keywordEach [] X.env)).all (fun x=>x.1.isSome)&&decide ([b].length+([]:List Keyword).length+(if([]:List Keyword).isEmpty then 0 else 1)<30))=true:=by rfl)
  (hline:(apos.endLine==cpos.line)=true:=by rfl) (hs:starEach [b] X.env=(false,eval b X.env)::starEach [] X.env:=by rfl) (hpl:(backTo cpos (starEach [] X.env)).any (·.1)=false:=by rfl) (hsw:swapsWith (.Call (.Attribute (.Name x px) "append" apos) [b] [] cpos) none pos.line X.env=pure false:=by rfl):
  PS X (.Expr (.Call (.Attribute (.Name x px) "append" apos) [b] [] cpos) pos) (Z2 Z (appF i fb)):=
 (Zq2 (Zuq PySem.F.plainAttrs_list PySem.F.slot_list_append PySem.F.type_list_append Zgl (Zku (i:=i) hN hv hd hcd) (Zda hb Ziq hs) hbase hfew hline hs hpl) hsw).imp fun _ _ _ h=>Zyi h
end
@[simp] noncomputable def Zb1(f:FS)(n:Nat)(ds:List D):Option SV:=match f (Zgs n ds)with
 |some (.rt sv)=>some sv
 |some (.nx _)=>some (.fz .non)
 |_=>none
theorem Zfp{N:List Str}{n:Nat}{f:FS}{vs:List V}{H:Hp}{Q:VK}{E:XK}(h:spOf K n (Zb1 f N.length) vs H Q E):∃F,Z2 (ent H F:Ent K) f {nx:=fun _ H'=>Q .non H',rt:=Q} (L2.Zdb N vs) H:=by
 obtain⟨F,ds,sv,le,r,hn,e,k⟩:=h
 unfold Zb1 at e
 split at e
 ·rename_i sw hf
  cases e
  exact⟨F,F,_,_,.rt sv,Ziz (N:=N) le r,hf,fun v H' F' ns a b c d e' nd ok=>k v H' F' ns d a b c e' nd ok⟩
 ·rename_i δ hf
  cases e
  exact⟨F,F,_,_,.nx δ,Ziz (N:=N) le r,hf,fun σ' H' F' own' a s'=>k .non H' F' [] s'.old a s'.le s'.fro (.fz .non) List.nodup_nil fun _ h=>(nomatch h)⟩
 ·cases e
noncomputable def Z18(K:PySem.W.Frag):Sp:=fun vs H Q _=>∃(a:Addr) (ns:List Int),vs=[.ref a]∧SqL K H a (ns.map V.int)∧ns.length≤63∧∀H',Q (.bl true) H'
theorem Zi4{F:Hp}:∀ns:List Int,Reps K F (ns.map D.int) (ns.map V.int)
 | []=>.nil
 |n::r=>.cons (.int n) (Zi4 r)
end DL
namespace DL
open PySem PySem.Spec PyProof.Rows L2
variable{K:PySem.W.Frag}
@[simp] noncomputable def Zfq(f:D→D→Option Bool):List D→List D→Option Bool
 |x::xs,y::ys=>(f x y).bind fun b=>(Zfq f xs ys).bind fun c=>some (b&&c)
 |_,_=>some true
@[simp] noncomputable def Zec(f:D→D→Option Bool):D→D→Option Bool
 | .lst xs,.lst ys=>if xs.length=ys.length then Zfq f xs ys else some false
 | .tup xs,.tup ys=>(Zfq f xs ys).bind fun b=>some (b&&decide (xs.length=ys.length))
 | .lst _,.tup _=>some false
 | .tup _,.lst _=>some false
 |d1,d2=>eqS d1 d2
@[simp] noncomputable def eqN:Nat→D→D→Option Bool
 |0=>fun _ _=>none
 |n+1=>Zec (eqN n)
theorem Zfr{F H:Hp}{d1 d2:D}{x y:V}{b:Bool}(e:eqS d1 d2=some b)(r1:RepN K F H d1 x)(r2:RepN K F H d2 y):Zaa x=true∧Zaa y=true∧b=eqV x y:=by
 unfold eqS at e
 split at e<;> cases e<;> (first|obtain rfl:=r1.non|obtain rfl:=r1.int|obtain rfl:=r1.bl|obtain rfl:=r1.str)<;> (first|obtain rfl:=r2.non|obtain rfl:=r2.int|obtain rfl:=r2.bl|obtain rfl:=r2.str)<;> refine⟨rfl,rfl,?_⟩<;> first|rfl|simp[eqV]
section
variable{X:Cx}{pins:List (Addr×Obj)}{σ:L2.St}{F H:Hp}{s:Shared}
theorem Zoq{x y:V}{v:Value}(rx:RelV x v)(ry:RelV y v)(fx:Zaa x=true)(fy:Zaa y=true):eqV x y=true:=by
 cases x with
 |non=>cases rx;cases y with
  |non=>rfl
  |bl b=>cases ry
  |int b=>obtain⟨t,e⟩:=ry;cases e
  |str b=>obtain⟨t,e⟩:=ry;cases e
  |_=>cases fy
 |bl a=>cases rx;cases y with
  |non=>cases ry
  |bl b=>cases ry;simp[eqV]
  |int b=>obtain⟨t,e⟩:=ry;cases e
  |str b=>obtain⟨t,e⟩:=ry;cases e
  |_=>cases fy
 |int a=>obtain⟨t,rfl⟩:=rx;cases y with
  |non=>cases ry
  |bl b=>cases ry
  |int b=>obtain⟨t,e⟩:=ry;cases e;simp[eqV]
  |str b=>obtain⟨t,e⟩:=ry;cases e
  |_=>cases fy
 |str a=>obtain⟨t,rfl⟩:=rx;cases y with
  |non=>cases ry
  |bl b=>cases ry
  |int b=>obtain⟨t,e⟩:=ry;cases e
  |str b=>obtain⟨t,e⟩:=ry;cases e;simp[eqV]
  |_=>cases fy
 |_=>cases fx
theorem Zj5{h:Heap}{a:Addr}{i1 i2:Array Value}(h1:h.IsList a i1)(h2:h.IsList a i2):i1=i2:=by
 obtain⟨o,e1,c1,n1,d1⟩:=h1
 obtain⟨o2,e2,c2,n2,d2⟩:=h2
 rw[e1]at e2;cases e2
 rw[d1]at d2;cases d2;rfl
theorem Zh4{h:Heap}{a:Addr}{i1 i2:Array Value}(h1:h.IsTuple a i1)(h2:h.IsTuple a i2):i1=i2:=by
 obtain⟨o,e1,c1,n1,d1⟩:=h1
 obtain⟨o2,e2,c2,n2,d2⟩:=h2
 rw[e1]at e2;cases e2
 rw[d1]at d2;cases d2;rfl
theorem Zly{f:D→D→Option Bool}(hf:∀d1 d2 b x y v,Rep X.K F d1 x→RelV x v→Rep X.K F d2 y→RelV y v→f d1 d2=some b→b=true){xs:List D}:∀{ys:List D} {vs ws:List V} {us:List Value} {b:Bool},Reps X.K F xs vs→Vals vs us→Reps X.K F ys ws→Vals ws us→Zfq f xs ys=some b→b=true:=by
 induction xs with
 |nil=>intro ys vs ws us b _ _ _ _ e;cases e;rfl
 |cons x xs ih=>
  intro ys vs ws us b r1 v1 r2 v2 e
  cases r1 with
  |cons h1 t1=>
   cases v1 with
   |cons a1 w1=>
    cases v2 with
    |cons a2 w2=>
     cases r2 with
     |cons h2 t2=>
      obtain⟨b,e1,e2⟩:=Option.bind_eq_some_iff.mp e
      obtain⟨c,e3,e4⟩:=Option.bind_eq_some_iff.mp e2
      cases e4
      rw[hf _ _ _ _ _ _ h1 a1 h2 a2 e1,ih t1 w1 t2 w2 e3];rfl
theorem Zlz(I:Inv X pins σ H s)(le:Same F H){f:D→D→Option Bool}(ih:∀(d1 d2:D) (b:Bool) (x y:V) (v:Value),Rep X.K F d1 x→RelV x v→Rep X.K F d2 y→RelV y v→f d1 d2=some b→b=true)(d1 d2:D)(b:Bool)(x y:V)(v:Value)(r1:Rep X.K F d1 x)(v1:RelV x v)(r2:Rep X.K F d2 y)(v2:RelV y v)(e:Zec f d1 d2=some b):b=true:=by
  unfold Zec at e
  split at e
  ·rename_i xs ys
   cases r1 with
   |lst q1 p1=>
   cases r2 with
   |lst q2 p2=>
   cases v1;cases v2
   obtain⟨i1,w1,l1,_⟩:=I.list (Zal le q1)
   obtain⟨i2,w2,l2,_⟩:=I.list (Zal le q2)
   have z:=Zj5 l1.isList l2.isList
   have z:i1=i2:=by simpa using z
   subst z
   split at e
   ·exact Zly (ih) p1 w1 p2 w2 e
   ·rename_i hl
    have h1:=w1.length
    have h2:=w2.length
    have h3:=p1.length
    have h4:=p2.length
    exact absurd (by omega) hl
  ·rename_i xs ys
   cases r1 with
   |tup q1 p1=>
   cases r2 with
   |tup q2 p2=>
   cases v1;cases v2
   obtain⟨i1,w1,l1,_⟩:=I.tuple (Zaw le (Zel q1))
   obtain⟨i2,w2,l2,_⟩:=I.tuple (Zaw le (Zel q2))
   have z:=Zh4 l1 l2
   have z:i1=i2:=by simpa using z
   subst z
   obtain⟨c,e1,e2⟩:=Option.bind_eq_some_iff.mp e
   cases e2
   have h1:=w1.length
   have h2:=w2.length
   have h3:=p1.length
   have h4:=p2.length
   rw[Zly (ih) p1 w1 p2 w2 e1,decide_eq_true (by omega)];rfl
  ·cases r1 with
   |lst q1 p1=>
   cases r2 with
   |tup q2 p2=>
   cases v1;cases v2
   obtain⟨i1,w1,l1,_⟩:=I.list (Zal le q1)
   obtain⟨i2,w2,l2,_⟩:=I.tuple (Zaw le (Zel q2))
   exact absurd rfl (SeqAt.ne_of_list_tuple (s:=s) l1.isList l2)
  ·cases r1 with
   |tup q1 p1=>
   cases r2 with
   |lst q2 p2=>
   cases v1;cases v2
   obtain⟨i1,w1,l1,_⟩:=I.tuple (Zaw le (Zel q1))
   obtain⟨i2,w2,l2,_⟩:=I.list (Zal le q2)
   exact absurd rfl (SeqAt.ne_of_list_tuple (s:=s) l2.isList l1)
  ·obtain⟨f1,f2,rfl⟩:=Zfr (H:=H) e (RepN.of r1) (RepN.of r2)
   exact Zoq v1 v2 f1 f2
theorem Zi5{A:Around}{f:D→D→Option Bool}(hf:∀d1 d2 b x y v u,Rep X.K F d1 x→RelV x v→Rep X.K F d2 y→RelV y u→f d1 d2=some b→SeqAt.EqAt A s v u b){xs:List D}:∀{ys:List D} {vs ws:List V} {us zs:List Value} {b:Bool},Reps X.K F xs vs→Vals vs us→Reps X.K F ys ws→Vals ws zs→Zfq f xs ys=some b→
  ∃e:Nat→Bool,(∀j (h1:j<us.length) (h2:j<zs.length),SeqAt.EqAt A s us[j] zs[j] (e j))∧(List.range (min us.length zs.length)).all e=b:=by
 induction xs with
 |nil=>
  intro ys vs ws us zs b r1 v1 _ _ e
  cases r1
  cases v1
  cases e
  exact⟨fun _=>true,fun j h1=>absurd h1 (Nat.not_lt_zero _),by rw[List.length_nil,Nat.zero_min];rfl⟩
 |cons x xs ih=>
  intro ys vs ws us zs b r1 v1 r2 v2 e
  cases r1 with
  |cons h1 t1=>
   cases v1 with
   |cons a1 w1=>
    cases v2 with
    |nil=>
     cases r2
     cases e
     exact⟨fun _=>true,fun j _ h2=>absurd h2 (Nat.not_lt_zero _),by rw[List.length_nil,Nat.min_zero];rfl⟩
    |cons a2 w2=>
     cases r2 with
     |cons h2 t2=>
      obtain⟨b,e1,e2⟩:=Option.bind_eq_some_iff.mp e
      obtain⟨c,e3,e4⟩:=Option.bind_eq_some_iff.mp e2
      cases e4
      obtain⟨g,g1,g2⟩:=ih t1 w1 t2 w2 e3
      refine⟨fun j=>Nat.casesOn j b g,fun j h1 h2=>?_,?_⟩
      ·cases j with
       |zero=>exact hf _ _ _ _ _ _ _ ‹_› a1 ‹_› a2 e1
       |succ j=>exact g1 j (Nat.lt_of_succ_lt_succ h1) (Nat.lt_of_succ_lt_succ h2)
      ·rw[List.length_cons,List.length_cons,Nat.succ_min_succ,List.range_succ_eq_map,List.all_cons,List.all_map,←g2]
       rfl
theorem rcN(I:Inv X pins σ H s)(le:Same F H){A:Around}{f:D→D→Option Bool}{d1 d2:D}{b:Bool}{x y:V}{v u:Value}
  (ih:∀d1 d2 b x y v u,Rep X.K F d1 x→RelV x v→Rep X.K F d2 y→RelV y u→f d1 d2=some b→SeqAt.EqAt A.in1 s v u b) (r1:RepN X.K F H d1 x) (v1:RelV x v) (r2:RepN X.K F H d2 y) (v2:RelV y u)
  (e:Zec f d1 d2=some b) (hu:A.units<cLine) (hr:Zaa x=false∨Zaa y=false):(∃a c,v= .ref a∧u= .ref c)∧SeqAt.RcAt A s v u b∧SeqAt.RcNeAt A s v u (!b):=by
 unfold Zec at e
 split at e
 ·obtain⟨a1,vs1,rfl,q1,p1⟩:=r1.lst le
  obtain⟨a2,vs2,rfl,q2,p2⟩:=r2.lst le
  cases v1;cases v2
  obtain⟨i1,w1,l1,_⟩:=I.list q1
  obtain⟨i2,w2,l2,_⟩:=I.list q2
  have h1:=w1.length
  have h2:=w2.length
  have h3:=p1.length
  have h4:=p2.length
  refine⟨⟨_,_,rfl,rfl⟩,?_⟩
  split at e
  ·rename_i hl
   obtain⟨g,g1,g2⟩:=Zi5 ih p1 w1 p2 w2 e
   have hm:min i1.length i2.length=i1.toArray.size:=by simp;omega
   rw[hm]at g2
   subst g2
   have hz:i1.toArray.size=i2.toArray.size:=by simp;omega
   exact⟨SeqAt.RcAt.lists l1.isList l2.isList hz hu (fun j j1 j2=>by simpa using g1 j (by simpa using j1) (by simpa using j2)),SeqAt.RcNeAt.lists l1.isList l2.isList hz hu (fun j j1 j2=>by simpa using g1 j (by simpa using j1) (by simpa using j2))⟩
  ·rename_i hl
   cases e
   have hz:(i1.toArray.size !=i2.toArray.size)=true:=by simp;omega
   exact⟨SeqAt.RcAt.lists_lengths l1.isList l2.isList hz hu,SeqAt.RcNeAt.lists_lengths l1.isList l2.isList hz hu⟩
 ·rename_i xs ys
  obtain⟨a1,vs1,rfl,q1,p1⟩:=r1.tup le
  obtain⟨a2,vs2,rfl,q2,p2⟩:=r2.tup le
  cases v1;cases v2
  obtain⟨i1,w1,l1,_⟩:=I.tuple q1
  obtain⟨i2,w2,l2,_⟩:=I.tuple q2
  have h1:=w1.length
  have h2:=w2.length
  have h3:=p1.length
  have h4:=p2.length
  obtain⟨c,e1,e2⟩:=Option.bind_eq_some_iff.mp e
  cases e2
  refine⟨⟨_,_,rfl,rfl⟩,?_⟩
  obtain⟨g,g1,g2⟩:=Zi5 ih p1 w1 p2 w2 e1
  subst g2
  have e3:((List.range (min i1.length i2.length)).all g&&decide (xs.length=ys.length))=((List.range (min i1.toArray.size i2.toArray.size)).all g&&i1.toArray.size==i2.toArray.size):=by
   have:(i1.toArray.size==i2.toArray.size)=decide (xs.length=ys.length):=by
    rw[List.size_toArray,List.size_toArray,←h1,←h2,←h3,←h4];rfl
   rw[this];simp
  rw[e3]
  exact⟨SeqAt.RcAt.tuples l1 l2 hu (fun j j1 j2=>by simpa using g1 j (by simpa using j1) (by simpa using j2)),SeqAt.RcNeAt.tuples l1 l2 hu (fun j j1 j2=>by simpa using g1 j (by simpa using j1) (by simpa using j2))⟩
 ·obtain⟨a1,vs1,rfl,q1,p1⟩:=r1.lst le
  obtain⟨a2,vs2,rfl,q2,p2⟩:=r2.tup le
  cases v1;cases v2
  cases e
  obtain⟨i1,w1,l1,_⟩:=I.list q1
  obtain⟨i2,w2,l2,_⟩:=I.tuple q2
  exact⟨⟨_,_,rfl,rfl⟩,SeqAt.RcAt.list_tuple l1.isList l2 hu,SeqAt.RcNeAt.list_tuple l1.isList l2 hu⟩
 ·obtain⟨a1,vs1,rfl,q1,p1⟩:=r1.tup le
  obtain⟨a2,vs2,rfl,q2,p2⟩:=r2.lst le
  cases v1;cases v2
  cases e
  obtain⟨i1,w1,l1,_⟩:=I.tuple q1
  obtain⟨i2,w2,l2,_⟩:=I.list q2
  exact⟨⟨_,_,rfl,rfl⟩,SeqAt.RcAt.tuple_list l1 l2.isList hu,SeqAt.RcNeAt.tuple_list l1 l2.isList hu⟩
 ·obtain⟨f1,f2,_⟩:=Zfr e r1 r2
  rcases hr with hr|hr
  ·rw[f1]at hr;cases hr
  ·rw[f2]at hr;cases hr
noncomputable def rEqN(K:PySem.W.Frag)(neg:Bool):R2:=fun x y H Q=>∃F d1 d2 b,Same F H∧RepN K F H d1 x∧RepN K F H d2 y∧eqN 48 d1 d2=some b∧(Zaa x=false∨Zaa y=false)∧Q (.bl (if neg then !b else b)) H
end
@[simp] noncomputable def D.isFlat:D→Bool
 | .non=>true| .bl _=>true| .int _=>true| .str _=>true|_=>false
@[simp] noncomputable def eqX(d1 d2:D):Option SV:=if d1.isFlat=true∧d2.isFlat=true then eqD d1 d2 else(eqN 48 d1 d2).bind fun b=>some (.fz (.bl b))
@[simp] noncomputable def neX(d1 d2:D):Option SV:=if d1.isFlat=true∧d2.isFlat=true then neD d1 d2 else(eqN 48 d1 d2).bind fun b=>some (.fz (.bl !b))
theorem Ze0{F H:Hp}{d:D}{x:V}(r:RepN K F H d x)(h:d.isFlat=false):Zaa x=false:=by
 obtain⟨sv,ns,e,n,sh,hp⟩:=r
 cases sh with
 |fz r=>cases e;cases r<;> first|rfl|cases h
 |ol r=>rfl
 |oK e' r=>rfl
 |oT kb e' r=>rfl
 |oN e' r=>rfl
 |oL _ r=>rfl
 |oQ e' r=>rfl
section
variable{Z:Ent K}
@[simp] noncomputable def negD:D→Option SV
 | .int i=>some (.fz (.int (-i)))
 |_=>none
theorem Zyv:Zrp Z (rU fun i=>.int (-i)) negD:=by
 intro F H σ δ own x d sv Q s r e k
 unfold negD at e
 split at e
 ·cases e;exact⟨_,r.int,k.fz s (.int _)⟩
 ·cases e
end
section
variable{X:Cx}{Z:Ent X.K}{a b c:Expr}{fa fb fc:FE}{pos:Pos}
theorem Zyw(ha:PE X a (Ze Z fa)):PE X (.UnaryOp .USub a pos) (Ze Z (unF negD fa)):=(Zxt Zud ha).imp fun _ _ _ h=>l_un Zyv h
end
end DL
namespace L2
open PySem PySem.Spec PyProof.Rows
section
variable{X:Cx}{tg:Expr}
noncomputable def Its(z:Str):It:=⟨fun i _=>i<z.length,fun i H x H'=>H'=H∧∃c,z.cps[i]? =some c∧x= .str ⟨#[c]⟩,fun i _=>z.length≤i⟩
theorem Zl0{P:Program}{w:World}{K:PySem.W.Frag}{tg:Expr}(z:Str)(t:Tok)(it:Addr):Turn P w K tg (Its z) [it] it (fun i h=>h.IsStrIter it (strIterType z) z t i)where
 mem:=by simp
 obj:=fun i h st b hb=>by
  have e:b=it:=by simpa using hb
  subst e
  obtain⟨o,e,c,d⟩:=st
  exact⟨o,e,fun v q=>by rw[d]at q;cases q⟩
 keep:=fun i h h' st k=>by
  obtain⟨o,e,c,d⟩:=st
  exact⟨o,k it (by simp) o e,c,d⟩
 item:=by
  intro X hP hw hK hc i pins s σ H E I hf st hg
  subst hP hw hK
  obtain⟨f0,f1,f2,f3,f4,f5⟩:=hf it (by simp)
  have hlt:i<z.cps.size:=hg
  have hx:z.cps[i]? =some z.cps[i]:=by simp[hlt]
  have fin:∀h',h'.IsStrIter it (strIterType z) z t (i+1)→Heap.SameBut it s.heap h'→∃u,some (Value.str ⟨#[z.cps[i]]⟩ s.toks)=some u∧wpAny (model X.prog X.w) X.A (letOwnedTupleGo tg (.ref it) u) (fun _ s2=>∃x H',Inv X pins σ H' s2∧RelV x u∧(Its z).yld i H x H'∧s2.heap.IsStrIter it (strIterType z) z t (i+1)∧∀b∈[it],H' b=none) E {s with heap:=h',toks:=s.toks+1}:=fun h' st' sb=>by
   have I1:Inv X pins σ H {s with heap:=h',toks:=s.toks+1}:=I.turned (t':=s.toks+1) (fun b o hb q=>(sb.2 b hb).trans q) f0 f1 f3 f4 f5
   obtain⟨o,e,c,d⟩:=id st'
   have hn:["enumerate","zip","dict_itemiterator","dict_reverseitemiterator","odict_iterator","itertools.zip_longest","itertools.pairwise"].contains (strIterType z)=false:=by
    unfold strIterType
    split<;> decide
   exact⟨_,rfl,Zn4 (s:={s with heap:=h',toks:=s.toks+1}) e c d hn ⟨.str ⟨#[z.cps[i]]⟩,H,I1,⟨_,rfl⟩,⟨rfl,_,hx,rfl⟩,st',fun b hb=>(hf b hb).1⟩⟩
  cases ha:z.cps.all (· <128)with
  |false=>
   have et:strIterType z="str_iterator":=by unfold strIterType;rw[ha];rfl
   rw[et]at st fin
   rw[et]
   exact wpAny_pyNext_wide_item st hx fin
  |true=>
   have et:strIterType z="str_ascii_iterator":=by unfold strIterType;rw[ha];rfl
   rw[et]at st fin
   rw[et]
   exact wpAny_pyNext_ascii_item st hx fin
 done:=by
  intro X hP hw hK hc i pins s σ H E I hf st hg
  subst hP hw hK
  obtain⟨f0,f1,f2,f3,f4,f5⟩:=hf it (by simp)
  have hge:z.cps.size≤i:=hg
  have hx:z.cps[i]? =none:=by simp[hge]
  cases ha:z.cps.all (· <128)with
  |false=>
   have et:strIterType z="str_iterator":=by unfold strIterType;rw[ha];rfl
   rw[et]at st
   exact wpAny_pyNext_wide_end (I.ok.hd hc) st hx fun h' eb=>⟨rfl,I.turned (t':=s.toks) (fun b o hb q=>eb b o hb q) f0 f1 f3 f4 f5⟩
  |true=>
   have et:strIterType z="str_ascii_iterator":=by unfold strIterType;rw[ha];rfl
   rw[et]at st
   exact wpAny_pyNext_ascii_end (I.ok.hd hc) st hx fun h' eb=>⟨rfl,I.turned (t':=s.toks) (fun b o hb q=>eb b o hb q) f0 f1 f3 f4 f5⟩
 self:=fun _ _ _ _ _ st h=>by
  cases ha:z.cps.all (· <128)with
  |false=>
   have et:strIterType z="str_iterator":=by unfold strIterType;rw[ha];rfl
   rw[et]at st
   exact wpAny_pyIter_striter_wide st h
  |true=>
   have et:strIterType z="str_ascii_iterator":=by unfold strIterType;rw[ha];rfl
   rw[et]at st
   exact wpAny_pyIter_striter_ascii st h
noncomputable def iAny(K:PySem.W.Frag)(tl:TE):TI:=fun σ H R=>tl σ H fun x H1=>(∃a,x= .ref a∧(∃xs,SqL K H1 a xs)∧R (Itl K a) H1)∨(∃a,x= .ref a∧(∃xs,SqT K H1 a xs)∧R (Itt K a) H1)∨(∃z,x= .str z∧R (Its z) H1)
theorem Zvs{l:Expr}{tl:TE}(hl:PE X l tl):PI X tg l (iAny X.K tl):=by
 intro pins s σ H R I h
 refine thn (hl pins s σ H _ I h) fun v s1 zq9=>?_
 obtain⟨x,H1,I1,r1,q1⟩:=zq9
 rcases q1 with⟨a,e,⟨xs,hq⟩,q⟩|⟨a,e,⟨xs,hq⟩,q⟩|⟨z,e,q⟩
 ·subst e
  cases r1
  obtain⟨its,rv,p,hz⟩:=I1.list hq
  refine wpAny_pyIter_list p.isList ?_
  refine⟨s1.heap.objs.size,[s1.heap.objs.size],_,_,H1,rfl,I1.kept (t':=s1.toks) fun b o e=>Heap.get?_push_of_some _ e,Zkw a _,⟨_,Heap.get?_push_size _ rfl,rfl,rfl⟩,fun b hb=>?_,q⟩
  have e:b=s1.heap.objs.size:=by simpa using hb
  subst e
  exact I1.fpOk (Nat.le_refl _) (I1.hok.fresh (Nat.le_refl _))
 ·subst e
  cases r1
  obtain⟨its,rv,p,hz⟩:=I1.tuple hq
  refine wpAny_pyIter_tuple (show s1.heap.IsTuple a its.toArray from p) ?_
  refine⟨s1.heap.objs.size,[s1.heap.objs.size],_,_,H1,rfl,I1.kept (t':=s1.toks) fun b o e=>Heap.get?_push_of_some _ e,Zjv a _,⟨_,Heap.get?_push_size _ rfl,rfl,rfl⟩,fun b hb=>?_,q⟩
  have e:b=s1.heap.objs.size:=by simpa using hb
  subst e
  exact I1.fpOk (Nat.le_refl _) (I1.hok.fresh (Nat.le_refl _))
 ·subst e
  obtain⟨t,rfl⟩:=r1
  refine wpAny_pyIter_strU ?_
  refine⟨s1.heap.objs.size,[s1.heap.objs.size],_,_,H1,rfl,I1.kept (t':=s1.toks) fun b o e=>Heap.get?_push_of_some _ e,Zl0 z t _,⟨_,Heap.get?_push_size _ rfl,rfl,rfl⟩,fun b hb=>?_,q⟩
  have e:b=s1.heap.objs.size:=by simpa using hb
  subst e
  exact I1.fpOk (Nat.le_refl _) (I1.hok.fresh (Nat.le_refl _))
noncomputable def Z0s:V→List V→Hp→VK→Prop:=fun x xs H Q=>∃a b,x= .str a∧xs=[.str b]∧(b.length==0)=false∧a.length≤sizeLine∧(Txt.split a b).length≤sizeLine∧∀p,H p=none→Q (.ref p) (upd H p (.lst ((Txt.split a b).map V.str)))
noncomputable def Z19:V→List V→Hp→VK→Prop:=fun x xs H Q=>∃a b,x= .str a∧xs=[.str b]∧(b.length==0)=false∧a.length≤sizeLine∧∀p,H p=none→Q (.ref p) (upd H p (.tup [.str (Txt.partition a b).1,.str (Txt.partition a b).2.1,.str (Txt.partition a b).2.2]))
noncomputable def rAll(K:PySem.W.Frag):List V→Hp→VK→Prop:=fun xs H Q=>∃(p:Addr) (bs:List Bool),xs=[.ref p]∧SqL K H p (bs.map V.bl)∧Q (.bl (bs.all id)) H
end
end L2
namespace DL
open PySem PySem.Spec PyProof.Rows L2
variable{K:PySem.W.Frag}
noncomputable def Zl1(z:Str):List D:=z.cps.toList.map fun c=>.str ⟨#[c]⟩
theorem Zh5{z:Str}{F:Hp}:Zd5 K (Its z) F (Zl1 z):=fun F' H sF sH i=>by
 have hl:(Zl1 z).length=z.length:=by unfold Zl1;rw[List.length_map];rfl
 refine⟨fun d hd=>?_,fun h=>by rw[hl]at h;exact h⟩
 have hi:i<z.length:=by
  have:=(List.getElem?_eq_some_iff.mp hd).1
  rw[hl]at this;exact this
 refine⟨hi,fun x H' zq9=>?_⟩
 obtain⟨e1,c,e2,e3⟩:=zq9
 subst e1 e3
 unfold Zl1 at hd
 rw[List.getElem?_map]at hd
 have e4:z.cps.toList[i]? =some c:=by simpa using e2
 rw[e4]at hd
 cases hd
 exact⟨Same.refl _,[],List.nodup_nil,fun _ h=>(nomatch h),.str _⟩
section
variable{Z:Ent K}{H:Hp}{σ:L2.St}{Q:VK}{E:Ends}
@[simp] noncomputable def anyI(fe:FE):FD:=fun δ=>(fe δ).bind fun p=>(frz p.1 p.2).bind fun q=>match q.1 with
 | .lst xs=>some (xs,q.2)
 | .tup xs=>some (xs,q.2)
 | .str z=>some (Zl1 z,q.2)
 |_=>none
theorem Zvt{fe:FE}{R:It→Hp→Prop}(h:Zb0 Z (anyI fe) σ H R):iAny K (Ze Z fe) σ H R:=by
 obtain⟨F,δ,own,ds,δ',s,e,k⟩:=h
 obtain⟨⟨rv,δ1⟩,e1,e2⟩:=Option.bind_eq_some_iff.mp e
 obtain⟨⟨d,δ2⟩,e3,e4⟩:=Option.bind_eq_some_iff.mp e2
 refine⟨F,δ,own,rv,δ1,s,e1,fun v H1 F1 own1 sH sF s1 r1=>?_⟩
 obtain⟨F2,sF2,s2,r2⟩:=s1.settleR r1
 obtain⟨F3,own3,sF3,s3,r3⟩:=s2.frzR r2 e3
 dsimp only at e4
 split at e4
 ·cases e4
  cases r3 with
  |lst h r=>exact .inl ⟨_,rfl,⟨_,Zal s3.le h⟩,k _ H1 F3 own3 sH (sF.trans (sF2.trans sF3)) s3 (Zh1 h r)⟩
 ·cases e4
  cases r3 with
  |tup h r=>exact .inr (.inl ⟨_,rfl,⟨_,Zaw s3.le (Zel h)⟩,k _ H1 F3 own3 sH (sF.trans (sF2.trans sF3)) s3 (Zj2 (Zel h) r)⟩)
 ·cases e4
  cases r3 with
  |str x=>exact .inr (.inr ⟨_,rfl,k _ H1 F3 own3 sH (sF.trans (sF2.trans sF3)) s3 Zh5⟩)
 ·cases e4
@[simp] noncomputable def inS(i j:Str):Bool:=!(Builtin.Str.occurrences j i 0 j.length 1).isEmpty
@[simp] noncomputable def inD:D→D→Option SV
 | .str i,.str j=>some (.fz (.bl (inS i j)))
 |_,_=>none
@[simp] noncomputable def Zi6:D→D→Option SV
 | .str i,.str j=>some (.fz (.bl (!inS i j)))
 |_,_=>none
theorem p_in:Zae Z (fun x y H Q=>∃i j,x= .str i∧y= .str j∧Q (.bl (!(Builtin.Str.occurrences j i 0 j.length 1).isEmpty)) H) inD:=by
 intro F H σ δ own x y d1 d2 sv Q s r1 r2 e k
 unfold inD at e
 split at e
 ·cases e;exact⟨_,_,r1.str,r2.str,k.fz s (.bl _)⟩
 ·cases e
theorem Zr3:Zae Z (fun x y H Q=>∃i j,x= .str i∧y= .str j∧Q (.bl (!(!(Builtin.Str.occurrences j i 0 j.length 1).isEmpty))) H) Zi6:=by
 intro F H σ δ own x y d1 d2 sv Q s r1 r2 e k
 unfold Zi6 at e
 split at e
 ·cases e;exact⟨_,_,r1.str,r2.str,k.fz s (.bl _)⟩
 ·cases e
@[simp] noncomputable def Z0t:List D→Option SV
 | [.str a,.str b]=>if(b.length==0)=false∧a.length≤PySem.sizeLine∧(Txt.split a b).length≤PySem.sizeLine then some (.ol ((Txt.split a b).map D.str))else none
 |_=>none
@[simp] noncomputable def Zti:List D→Option SV
 | [.str a,.str b]=>if(b.length==0)=false∧a.length≤PySem.sizeLine then some (.fz (.tup [.str (Txt.partition a b).1,.str (Txt.partition a b).2.1,.str (Txt.partition a b).2.2]))else none
 |_=>none
@[simp] noncomputable def bools?:List D→Option (List Bool)
 | []=>some []
 | .bl x::r=>(bools? r).bind fun t=>some (x::t)
 |_=>none
@[simp] noncomputable def allD:List D→Option SV
 | [.lst xs]=>(bools? xs).bind fun bs=>some (.fz (.bl (bs.all id)))
 |_=>none
@[simp] noncomputable def Z0u(i:Nat):FS:=fun δ=>match δ[i]? with
 |some (some (.ol _))=>some (.nx (δ.set i (some (.ol []))))
 |_=>none
end
section
variable{X:Cx}{Z:Ent X.K}{a b c:Expr}{fa fb fc:FE}{pos:Pos}{tg:Expr}
theorem Zj6(ha:PE X a (Ze Z fa)):PI X tg a (Zb0 Z (anyI fa)):=fun pins s σ H R I h=>Zvs ha pins s σ H R I (Zvt h)
end
end DL
namespace L2
open PySem PySem.Spec PyProof.Rows
open AutoSeq1 (wpAny_loadPart')
section
variable{prog:Program}{w:World}{A:Around}{E:Value→Shared→Prop}{s:Shared}
theorem Zed{it t:Addr}{i:Nat}{items:Array Value}{x:Value}{Q:Value→Shared→Prop}(hit:s.heap.IsTupleIter it t i)(ht:s.heap.IsTuple t items)(hx:items[i]? =some x)
  (hQ:∀h',h'.IsTupleIter it t (i+1)→Heap.SameBut it s.heap h'→Q x {s with heap:=h'}):wpAny (model prog w) A (Builtin.SmallTypes.nextOf (.ref it)) Q E s:=by
 obtain⟨o,ho,hc,hd⟩:=id hit;obtain⟨ol,hol,_,nl,hdl⟩:=ht;unfold Builtin.SmallTypes.nextOf
 refine wpAny_bind (wpAny_callSpecial?_slot (name:=Str.ofString "__next__") hit.typeIs F.slot_tuple_iterator_next (wpAny_call_entry F.slot_tuple_iterator_next hit.typeIs F.entry_tuple_iterator_next ?_ (F.args_tuple_iterator_next_1 _)))
 show wpAny _ _ (field (.ref it) 0 >>=_) _ _ s;refine wpAny_bind (wpAny_field ho hd (x:=.ref t) rfl ?_)
 show wpAny _ _ (if(Value.ref t==Value.none)=true then _ else _) _ _ s;rw[if_neg (show¬((Value.ref t==Value.none)=true)from Bool.false_ne_true)]
 show wpAny _ _ (field (.ref it) 1 >>=_) _ _ s;refine wpAny_bind (wpAny_field ho hd (x:=.int i 0) rfl ?_)
 show wpAny _ _ (seqItems? (.ref t) >>=_) _ _ s;refine wpAny_bind (wpAny_seqItems hol hdl ?_);simp only[Int.toNat_natCast,hx]
 refine wpAny_bind (wpAny_setField ho hd (by simp) (wpAny_pure ⟨x,rfl,wpAny_pure (hQ _ ⟨_,Heap.get?_update_self _ ho (Obj.isFreed_of_fields (Obj.data_mapFields hd _)),(Obj.cls_mapFields ..).trans hc,by rw[Obj.data_mapFields hd];simp[rawInt]⟩ (Heap.SameBut.update ..))⟩))
theorem Zcj{it t:Addr}{i:Nat}{items:Array Value}{Q:Value→Shared→Prop}(hh:A.handled=none)(hit:s.heap.IsTupleIter it t i)(ht:s.heap.IsTuple t items)(hx:items[i]? =none)
  (hE:∀h' e,Heap.ExtBut it s.heap h'→(∃o,h'.get? e=some o∧o.cls= .type "StopIteration")→E (.ref e) {s with heap:=h'}):wpAny (model prog w) A (Builtin.SmallTypes.nextOf (.ref it)) Q E s:=by
 obtain⟨o,ho,hc,hd⟩:=id hit;obtain⟨ol,hol,_,nl,hdl⟩:=ht;unfold Builtin.SmallTypes.nextOf
 refine wpAny_bind (wpAny_callSpecial?_slot (name:=Str.ofString "__next__") hit.typeIs F.slot_tuple_iterator_next (wpAny_call_entry F.slot_tuple_iterator_next hit.typeIs F.entry_tuple_iterator_next ?_ (F.args_tuple_iterator_next_1 _)))
 show wpAny _ _ (field (.ref it) 0 >>=_) _ _ s;refine wpAny_bind (wpAny_field ho hd (x:=.ref t) rfl ?_)
 show wpAny _ _ (if(Value.ref t==Value.none)=true then _ else _) _ _ s;rw[if_neg (show¬((Value.ref t==Value.none)=true)from Bool.false_ne_true)]
 show wpAny _ _ (field (.ref it) 1 >>=_) _ _ s;refine wpAny_bind (wpAny_field ho hd (x:=.int i 0) rfl ?_)
 show wpAny _ _ (seqItems? (.ref t) >>=_) _ _ s;refine wpAny_bind (wpAny_seqItems hol hdl ?_);simp only[Int.toNat_natCast,hx]
 refine wpAny_bind (wpAny_rule (wpAny_bind (wpAny_setField ho hd (by simp) ?_)));show wpAny _ _ (newExc (.type "StopIteration") [] >>=_) _ _ _
 refine wpAny_bind ?_;simp only[newExc,newTuple];refine wpAny_bind (wpAny_newObj_type ?_ (by size_fits))
 refine wpAny_bind (m:=firstArgMember _ _) (wpAny_of_eq (a:=Value.none) (by first|rfl| (simp only[firstArgMember];rfl)) ?_);refine wpAny_newObj_type ?_ (by size_fits)
 simp only[raiseNew];refine wpAny_bind (wpAny_handled ?_);first|rw[show A.in1.handled=none from hh]|rw[hh]
 refine wpAny_bind (wpAny_pure (wpAny_throw ?_));exact hE _ _ (((Heap.SameBut.update ..).extBut.push _).push _) ⟨_,Heap.get?_push_size _ rfl,rfl⟩
theorem Zh6{h h':Heap}{t it:Addr}{items:Array Value}(x:h.IsTuple t items)(hs:Heap.ExtBut it h h')(hne:t≠it):h'.IsTuple t items:=let⟨o,ho,r⟩:=x;⟨o,hs t o hne ho,r⟩
theorem Zl2{prog:Program}{w:World}{A:Around}(hh:A.handled=none)(it l:Addr)(hne:l≠it)(items:Array Value):
  Draws prog w A it [it,l] items.size (fun i v=>items[i]? =some v) (fun i h=>h.IsTupleIter it l i∧h.IsTuple l items)where
 live:=fun _ _ st=>let⟨o,ho,_⟩:=st.1;⟨o,ho⟩
 frame:=fun _ _ _ st hk=>⟨st.1.at fun o e=>hk it (by simp) o e,let⟨o,ho,r⟩:=st.2;⟨o,hk l (by simp) o ho,r⟩⟩
 item:=fun i s Q E hi st hQ=>by
  refine Zed st.1 st.2 (x:=items[i]) (by simp[hi]) fun h' hit' hs'=>?_
  exact hQ _ h' s.toks (by simp[hi]) ⟨hit',Zh6 st.2 hs'.extBut hne⟩ hs'
 done:=fun s Q E st hE=>Zcj hh st.1 st.2 (by simp) hE
theorem Zgz(l:Addr)(items:Array Value)(n:Nat)(dct:Option Addr)(sl:Array (Option Value)):
  Meets (Builtin.«enumerate.__new__» ⟨[.type "enumerate",.ref l],[]⟩) (fun _ R s=>s.heap.get? l=some {cls:=.type "tuple",dict:=dct,data:=.seq items n,slots:=sl}∧
   R (.ok (.ret (.ref (s.heap.push {cls:=.type "tuple_iterator",data:=.fields #[.ref l,.int 0 0]}).objs.size))) {s with heap:=(s.heap.push {cls:=.type "tuple_iterator",data:=.fields #[.ref l,.int 0 0]}).push {cls:=.type "enumerate",data:=.fields #[.none,.bool false,.ref s.heap.objs.size,rawInt 0,.none,.none]}}):=
 .of_wp fun prog w A R s h=>by
  obtain⟨hp,g,d,tk,os⟩:=s;obtain⟨hl,h⟩:=h;have hsub:=sub_enumerate
  have hL:Heap.IsTuple (Shared.heap ⟨hp,g,d,tk,os⟩) l items:=⟨_,hl,rfl,n,rfl⟩
  wp_walk using wpAny_loadPart' hl
  refine wpAny_stack_any fun st=>wpAny_pure ?_;split
  ·rename_i c _ _ _ _ _
   cases(c==Value.type "enumerate")
   ·wp_walk using wpAny_loadPart' hl,wpAny_pyIter_tuple hL
    exact⟨_,rfl,h⟩
   ·wp_walk using wpAny_loadPart' hl,wpAny_pyIter_tuple hL
    exact⟨_,rfl,h⟩
  ·wp_walk using wpAny_loadPart' hl,wpAny_pyIter_tuple hL
   exact⟨_,rfl,h⟩
theorem Zfs{l:Addr}{items:Array Value}{Q:Value→Shared→Prop}(hL:s.heap.IsTuple l items)
  (h:∀h',IsEnum h' (s.heap.objs.size+1) s.heap.objs.size 0 .none→h'.IsTupleIter s.heap.objs.size l 0→h'.objs.size=s.heap.objs.size+2→(∀b o,s.heap.get? b=some o→h'.get? b=some o)→Q (.ref (s.heap.objs.size+1)) {s with heap:=h'}):
  wpAny (model prog w) A (call (.type "enumerate") [.ref l]) Q E s:=by
 obtain⟨⟨c,dct,dt,sl⟩,hl,hc,n,hd⟩:=hL;replace hc:c= .type "tuple":=hc;replace hd:dt= .seq items n:=hd;subst hc hd
 refine callType_new F.called_enumerate (by decide) (F.typeCall_enumerate_1 _) (F.newCall_enumerate_1 _) (fun obj=>F.args_object_init_2 obj _) F.entry_enumerate_new (Zgz l items n dct sl) ⟨hl,?_⟩
 have hz:(s.heap.push {cls:=.type "tuple_iterator",data:=.fields #[.ref l,.int 0 0]}).objs.size=s.heap.objs.size+1:=Heap.size_push ..
 show _∧_;rw[hz]
 have he:IsEnum ((s.heap.push {cls:=.type "tuple_iterator",data:=.fields #[.ref l,.int 0 0]}).push {cls:=.type "enumerate",data:=.fields #[.none,.bool false,.ref s.heap.objs.size,rawInt 0,.none,.none]}) (s.heap.objs.size+1) s.heap.objs.size 0 .none:=by
  have:=Heap.get?_push_size (s.heap.push {cls:=.type "tuple_iterator",data:=.fields #[.ref l,.int 0 0]}) (o:={cls:=.type "enumerate",data:=.fields #[.none,.bool false,.ref s.heap.objs.size,rawInt 0,.none,.none]}) rfl
  rw[hz]at this;exact this
 exact⟨⟨_,he,rfl⟩,h _ he ⟨_,Heap.get?_push_of_some _ (Heap.get?_push_size _ rfl),rfl,rfl⟩ (by rw[Heap.size_push,hz]) fun b o x=>Heap.get?_push_of_some _ (Heap.get?_push_of_some _ x)⟩
theorem Zg0{e it l:Addr}{i:Nat}{items:Array Value}{old:Value}{Q:Option Value→Shared→Prop}(hh:A.handled=none)(he:IsEnum s.heap e it i old)(hit:s.heap.IsTupleIter it l i)(hl:s.heap.IsTuple l items)(hx:items[i]? =none)
  (hQ:∀h',Heap.ExtBut it s.heap h'→Q none {s with heap:=h'}):wpAny (model prog w) A (pyNext (.ref e)) Q E s:=by
 have hT:s.TypeIs (.ref e) "enumerate":=⟨_,he,rfl⟩;unfold pyNext
 refine wpAny_bind (wpAny_attempt (wpAny_callSpecial?_slot (name:=Str.ofString "__next__") hT F.slot_enumerate_next (wpAny_call_entry F.slot_enumerate_next hT F.entry_enumerate_next ?_ (F.args_enumerate_next_1 _))))
 show wpAny _ _ (field (.ref e) 2 >>=_) _ _ _;refine wpAny_bind (wpAny_field he rfl (x:=.ref it) rfl ?_)
 refine wpAny_bind (Zcj (by first|exact hh| (rw[show A.in1.handled=A.handled from rfl];exact hh)) hit hl hx fun h' x he' hx'=>?_);obtain⟨o,ho,hc⟩:=hx'
 refine wpAny_bind (wpAny_isInstance (T:="StopIteration") (b:=true) ⟨o,ho,hc⟩ isSubtype_stop ?_);exact wpAny_pure (hQ _ he')
end
section
variable{X:Cx}{tg:Expr}
noncomputable def IteT(K:PySem.W.Frag)(a:Addr):It:=
 ⟨fun i H=>∃xs x,SqT K H a xs∧xs[i]? =some x,fun i H x H'=>∃p v,x= .ref p∧H p=none∧H'=upd H p (.tup [.int (i:Nat),v])∧∀xs,SqT K H a xs→xs[i]? =some v,fun i H=>∃xs,SqT K H a xs∧xs.length≤i⟩
theorem Zj7{P:Program}{w:World}{K:PySem.W.Frag}{elts:List Expr}{kk:Nat}{tpos:Pos}(a e it:Addr)(hei:e≠it):Turn P w K (.Tuple elts kk tpos) (IteT K a) [e,it] e (fun i h=>(∃old,IsEnum h e it ((i:Nat):Int) old)∧h.IsTupleIter it a i)where
 mem:=by simp
 obj:=fun i h st b hb=>by
  have hb':b=e∨b=it:=by simpa using hb
  rcases hb' with z|z
  ·subst z
   obtain⟨old,q⟩:=st.1
   exact⟨_,q,fun v y=>by
    have y':Data.fields _=Data.cell v:=y
    cases y'⟩
  ·subst z
   obtain⟨o,q,c,d⟩:=st.2
   exact⟨o,q,fun v y=>by rw[d]at y;cases y⟩
 keep:=fun i h h' st k=>⟨let⟨old,q⟩:=st.1;⟨old,k e (by simp) _ q⟩,st.2.at fun o q=>k it (by simp) o q⟩
 item:=by
  intro X hP hw hK hc i pins s σ H E I hf st hg
  subst hP hw hK
  obtain⟨xs,x,hq,hx⟩:=hg
  obtain⟨its,rv,p,hz⟩:=I.tuple hq
  obtain⟨u,hu,ru⟩:=rv.get hx
  obtain⟨⟨old,he⟩,hit⟩:=st
  have hl:s.heap.IsTuple a its.toArray:=p
  have ai:a≠it:=fun z=>by
   obtain⟨o1,q1,c1,_⟩:=hit
   obtain⟨o2,q2,c2,_⟩:=hl
   rw[z,q1]at q2;cases q2
   rw[c1]at c2;exact absurd c2 (by decide)
  have ae:e∉[it,a]:=fun z=>by
   have z':e=it∨e=a:=by simpa using z
   rcases z' with z|z
   ·exact hei z
   ·obtain⟨o2,q2,c2,_⟩:=hl
    rw[←z,he]at q2;cases q2;exact absurd (show Value.type "enumerate"=Value.type "tuple"from c2) (by decide)
  have D:=Zl2 (prog:=X.prog) (w:=X.w) (A:=X.A.in1) (by first|exact I.ok.hd hc| (rw[show X.A.in1.handled=X.A.handled from rfl];exact I.ok.hd hc)) it a ai its.toArray
  have hlt:i<its.toArray.size:=by
   have:=(List.getElem?_eq_some_iff.mp hu).1
   rw[List.size_toArray];exact this
  refine wpAny_pyNext_enum_itemD D he ⟨hit,hl⟩ hlt hei ae fun y h' tk hy hout st' hT hsz hk=>⟨.ref s.heap.objs.size,rfl,?_⟩
  refine wpAny_letOwnedTupleGo_enum hout fun h2 he2 hs2=>?_
  have hy':its.toArray[i]? =some y:=hy
  have ey:y=u:=by
   have:its[i]? =some y:=by simpa using hy'
   rw[hu]at this;cases this;rfl
  subst ey
  have kk:∀b o,b≠e→b≠it→s.heap.get? b=some o→h2.get? b=some o:=fun b o h1 h3 q=>(hs2.2 b h1).trans (hk b o h1 h3 q)
  have neT:s.heap.objs.size≠e:=Nat.ne_of_gt (Heap.lt_size he)
  have I2:=I.turnedT (h':=h2) (t':=tk+1) (e:=e) (it:=it) (T:=s.heap.objs.size) (xs:=[.int (i:Nat),x]) (its:=[.int i tk,y]) kk (hf e (by simp)) (hf it (by simp)) rfl ⟨_,(hs2.2 _ neT).trans hT,rfl,_,rfl⟩ (.cons ⟨tk,rfl⟩ (.cons ru .nil)) (by show 2≤sizeLine;decide)
   ⟨_,he2⟩ (let⟨o,q,_⟩:=st'.1;⟨o,(hs2.2 it (Ne.symm hei)).trans q⟩)
  refine⟨.ref s.heap.objs.size,_,I2,rfl,⟨s.heap.objs.size,x,rfl,I.hok.fresh (Nat.le_refl _),rfl,fun ys hy2=>by rw[I.tuple_inj hy2 hq];exact hx⟩,⟨⟨_,he2⟩,st'.1.at fun o q=>(hs2.2 it (Ne.symm hei)).trans q⟩,fun b hb=>?_⟩
  rw[Zm fun z=>?_]
  ·exact(hf b hb).1
  ·have hb':b=e∨b=it:=by simpa using hb
   rcases hb' with y|y
   ·rw[←z,y]at neT;exact neT rfl
   ·obtain⟨o,q,_⟩:=hit
    rw[y]at z
    exact absurd (Heap.lt_size q) (by rw[z];exact Nat.lt_irrefl _)
 done:=by
  intro X hP hw hK hc i pins s σ H E I hf st hg
  subst hP hw hK
  obtain⟨xs,hq,hx⟩:=hg
  obtain⟨its,rv,p,hz⟩:=I.tuple hq
  obtain⟨⟨old,he⟩,hit⟩:=st
  obtain⟨f0,f1,f2,f3,f4,f5⟩:=hf it (by simp)
  have hl:=rv.length
  exact Zg0 (I.ok.hd hc) he hit (show s.heap.IsTuple a its.toArray from p) (by simp;omega) fun h' eb=>⟨rfl,I.turned (t':=s.toks) (fun b o hb q=>eb b o hb q) f0 f1 f3 f4 f5⟩
 self:=fun _ _ _ _ _ st h=>let⟨⟨old,he⟩,_⟩:=st;wpAny_pyIter_enum he h
noncomputable def Zp5(K:PySem.W.Frag)(ta:TA):TI:=fun σ H R=>ta σ H fun vs H1=>∃a xs,vs=[.ref a]∧SqT K H1 a xs∧R (IteT K a) H1
theorem Zor{l:Expr}{elts:List Expr}{kk:Nat}{tpos p pos:Pos}{ta:TA}(hg:Gl X "enumerate")(hm:X.mg "enumerate"=none)(ha:PA X [l] ta)(hs:starEach [l] X.env=[(false,eval l X.env)]:=by rfl):
  PI X (.Tuple elts kk tpos) (.Call (.Name "enumerate" p) [l] [] pos) (Zp5 X.K ta):=by
 intro pins s σ H R I h
 refine Call_ (Zdn I hg hm boot_enumerate (PyProof.Rows.callWith_type1 (thn (ha pos pins s σ H _ I h) fun us s1 ⟨vs,H1,I1,r1,q1⟩=>?_) hs rfl))
 obtain⟨a,xs,e,hq,q⟩:=q1
 subst e
 obtain⟨u,rfl,ru⟩:=Zff r1
 cases ru
 obtain⟨its,rv,p,hz⟩:=I1.tuple hq
 refine Zfs (show s1.heap.IsTuple a its.toArray from p) fun h' he hit hsz hk=>wpAny_pyIter_enum he ?_
 have I2:Inv X pins σ H1 {s1 with heap:=h'}:=I1.kept (t':=s1.toks) hk
 refine⟨s1.heap.objs.size+1,[s1.heap.objs.size+1,s1.heap.objs.size],_,_,H1,rfl,I2,Zj7 a _ _ (Nat.succ_ne_self _),⟨⟨.none,by simpa using he⟩,hit⟩,fun b hb=>?_,q⟩
 have hb':b=s1.heap.objs.size+1∨b=s1.heap.objs.size:=by simpa using hb
 rcases hb' with z|z
 ·subst z;exact I1.fpOk (Nat.le_succ _) (I1.hok.fresh (Nat.le_succ _))
 ·subst z;exact I1.fpOk (Nat.le_refl _) (I1.hok.fresh (Nat.le_refl _))
end
end L2
namespace DL
open PySem PySem.Spec PyProof.Rows L2
variable{K:PySem.W.Frag}
theorem Zg1{F:Hp}{a:Addr}{xs:List D}{vs:List V}(h:SqT K F a vs)(r:Reps K F xs vs):Zd5 K (IteT K a) F (Zea xs):=fun F' H sF sH i=>by
 have q:SqT K H a vs:=Zaw (sF.trans sH) h
 refine⟨fun d hd=>?_,fun hl=>⟨vs,q,by rw[←r.length,←Zgv];exact hl⟩⟩
 obtain⟨x,hx,rfl⟩:=Zgu hd
 obtain⟨v,h1,h2⟩:=r.get hx
 refine⟨⟨vs,v,q,h1⟩,fun y H' zq9=>?_⟩
 obtain⟨p,w,e1,e2,e3,e4⟩:=zq9
 subst e1 e3
 have e5:=e4 vs q
 rw[h1]at e5;cases e5
 have hp:F' p=none:=sH.free e2
 have sm:Same F' (addL F' [(p,.tup [.int (i:Nat),v])]):=Zax fun z hz=>by obtain rfl:=List.mem_singleton.mp hz;exact hp
 refine⟨Zbs e2,[(p,.tup [.int (i:Nat),v])],nd1,fun z hz=>?_,.tup Zu (.cons (.int _) (.cons (h2.mono (sF.trans sm)) .nil))⟩
 obtain rfl:=List.mem_singleton.mp hz
 exact⟨e2,Zu⟩
section
variable{Z:Ent K}{H:Hp}{σ:L2.St}{Q:VK}
@[simp] noncomputable def Zp6(fd:FD):FD:=fun δ=>(fd δ).bind fun p=>match p.1 with
 | [.tup xs]=>some (Zea xs,p.2)
 |_=>none
theorem Zos{fd:FD}{R:It→Hp→Prop}(h:Zb0 Z (Zp6 fd) σ H R):Zp5 K (Zbg Z fd) σ H R:=by
 obtain⟨F,δ,own,ds,δ',s,e,k⟩:=h
 obtain⟨⟨ds1,δ1⟩,e1,e2⟩:=Option.bind_eq_some_iff.mp e
 refine⟨F,δ,own,ds1,δ1,s,e1,fun vs H1 F1 own1 sH sF s1 r1=>?_⟩
 dsimp only at e2
 split at e2
 ·rename_i xs
  cases e2
  cases r1 with
  |cons h t=>
   cases t
   cases h with
   |tup h r=>exact⟨_,_,rfl,Zaw s1.le (Zel h),k _ H1 F1 own1 sH sF s1 (Zg1 (Zel h) r)⟩
 ·cases e2
end
section
variable{X:Cx}{Z:Ent X.K}{a:Expr}{fa:FE}{pos:Pos}
@[simp] noncomputable def Zl3(fd:FD):FD:=fun δ=>(fd δ).bind fun p=>match p.1 with
 | [.lst xs]=>some (Zea xs,p.2)
 | [.tup xs]=>some (Zea xs,p.2)
 |_=>none
theorem Zot{H:Hp}{σ:L2.St}{fd:FD}{R:It→Hp→Prop}(h:Zb0 Z (Zl3 fd) σ H R):Zb0 Z (Zvg fd) σ H R∨Zb0 Z (Zp6 fd) σ H R:=by
 obtain⟨F,δ,own,ds,δ',s,e,k⟩:=h
 obtain⟨⟨ds1,δ1⟩,e1,e2⟩:=Option.bind_eq_some_iff.mp e
 dsimp only at e2
 split at e2
 ·rename_i xs
  exact .inl ⟨F,δ,own,ds,δ',s,Option.bind_eq_some_iff.mpr ⟨_,e1,e2⟩,k⟩
 ·rename_i xs
  exact .inr ⟨F,δ,own,ds,δ',s,Option.bind_eq_some_iff.mpr ⟨_,e1,e2⟩,k⟩
 ·cases e2
theorem Zr4{elts:List Expr}{kk:Nat}{tpos p:Pos}{fd:FD}(hm:X.mg "enumerate"=none)(ha:PA X [a] (Zbg Z fd))(hg:Gl X "enumerate":=by rfl)(hs:starEach [a] X.env=[(false,eval a X.env)]:=by rfl):
  PI X (.Tuple elts kk tpos) (.Call (.Name "enumerate" p) [a] [] pos) (Zb0 Z (Zl3 fd)):=fun pins s σ H R I h=>by
 rcases Zot h with h|h
 ·exact Zrx hg hm ha hs pins s σ H R I (Zry h)
 ·exact Zor hg hm ha hs pins s σ H R I (Zos h)
end
end DL
namespace L2
open PySem PySem.Spec PyProof.Rows
variable{X:Cx}
noncomputable def Z0v(K:PySem.W.Frag):V→List V→Hp→VK→Prop:=fun x xs H Q=>∃sep p ys,x= .str sep∧xs=[.ref p]∧(SqL K H p (ys.map V.str)∨SqT K H p (ys.map V.str))∧JoinOk sep ys=true∧Q (.str (Txt.join sep ys)) H
end L2
namespace DL
open PySem PySem.Spec PyProof.Rows L2
variable{K:PySem.W.Frag}
@[simp] noncomputable def Z0w:List D→Option SV
 | [.str sep,.lst xs]=>(strs? xs).bind fun ys=>if JoinOk sep ys=true then some (.fz (.str (Txt.join sep ys)))else none
 | [.str sep,.tup xs]=>(strs? xs).bind fun ys=>if JoinOk sep ys=true then some (.fz (.str (Txt.join sep ys)))else none
 |_=>none
section
variable{X:Cx}{Z:Ent X.K}{a b:Expr}{fa fb:FE}
end
end DL
namespace L2
open PySem PySem.Spec PyProof.Rows
variable{X:Cx}
noncomputable def Zyx:R2:=fun x y H Q=>∃a v,x= .ref a∧DGet H a y (some v)∧Q v H
noncomputable def rDIn:R2:=fun y x H Q=>∃a o,x= .ref a∧DGet H a y o∧Q (.bl o.isSome) H
noncomputable def Zee:R2:=fun y x H Q=>∃a o,x= .ref a∧DGet H a y o∧Q (.bl (!o.isSome)) H
theorem Zj8(hu:X.A.units+1<cLine):OpR X (compareOp .In) rDIn:=by
 intro pins s σ H y x v u Q I ry rx h
 obtain⟨a,o,rfl,g,q⟩:=h
 cases rx
 exact d_in hu I g ry fun s' I'=>⟨.bl o.isSome,H,I',rfl,q⟩
theorem Zft(hu:X.A.units+1<cLine):OpR X (compareOp .NotIn) Zee:=by
 intro pins s σ H y x v u Q I ry rx h
 obtain⟨a,o,rfl,g,q⟩:=h
 cases rx
 exact Zrg hu I g ry fun s' I'=>⟨.bl (!o.isSome),H,I',rfl,q⟩
end L2
namespace DL
open PySem PySem.Spec PyProof.Rows L2
variable{K:PySem.W.Frag}
@[simp] noncomputable def D.key?:D→Option Key
 | .int i=>some (.inl i)
 | .str x=>some (.inr x)
 |_=>none
@[simp] noncomputable def keys?:List D→Option (List Key)
 | []=>some []
 |d::r=>d.key?.bind fun k=>(keys? r).bind fun t=>some (k::t)
section
variable{κ:Type}[DecidableEq κ]
@[simp] noncomputable def look(ks:List κ)(vs:List D)(k:κ):Option D:=match ks,vs with
 |a::ks,v::vs=>if a=k then some v else look ks vs k
 |_,_=>none
theorem Zh7{F:Hp}(k:κ):∀(kvs:List (κ×V)) (ds:List D),Reps K F ds (kvs.map (·.2))→match look (kvs.map (·.1)) ds k with
  |some d=>∃v,valV kvs k=some v∧Rep K F d v
  |none=>valV kvs k=none
 | [],_,r=>by cases r;exact Zn8
 |p::kvs,_,r=>by
  cases r with
  | @cons d v ds vs h t=>
   show match(if p.1=k then some d else look (kvs.map (·.1)) ds k)with
    |some d=>∃v,valV (p::kvs) k=some v∧Rep K F d v
    |none=>valV (p::kvs) k=none
   by_cases e:p.1=k
   ·rw[if_pos e]
    exact⟨p.2,Zdv e,h⟩
   ·rw[if_neg e,Zdw e]
    exact Zh7 k kvs ds t
@[simp] noncomputable def putA(ks:List κ)(vs:List D)(k:κ)(v:D):List κ×List D:=
 if k∈ks then(ks,(ks.zip vs).map fun p=>if p.1=k then v else p.2)else(ks++[k],vs++[v])
theorem Reps.length_map{F:Hp}{α:Type}{ds:List D}{kvs:List (α×V)}(r:Reps K F ds (kvs.map (·.2))):ds.length=kvs.length:=by rw[r.length,List.length_map]
theorem Zl4{F:Hp}{k:κ}{d:D}{v:V}(hd:Rep K F d v):∀(kvs:List (κ×V)) (ds:List D),Reps K F ds (kvs.map (·.2))→
  Reps K F (((kvs.map (·.1)).zip ds).map fun p=>if p.1=k then d else p.2) ((kvs.map fun kv=>if kv.1=k then(kv.1,v)else kv).map (·.2))
 | [],_,r=>by cases r;exact .nil
 |p::kvs,_,r=>by
  cases r with
  | @cons d' v' ds vs h t=>
   have ih:=Zl4 (k:=k) hd kvs ds t
   show Reps K F ((if p.1=k then d else d')::(((kvs.map (·.1)).zip ds).map fun p=>if p.1=k then d else p.2)) ((if p.1=k then(p.1,v)else p).2::((kvs.map fun kv=>if kv.1=k then(kv.1,v)else kv).map (·.2)))
   refine .cons ?_ ih
   by_cases e:p.1=k
   ·rw[if_pos e,if_pos e];exact hd
   ·rw[if_neg e,if_neg e];exact h
theorem Zou{k:κ}{v:V}(kvs:List (κ×V)):(kvs.map fun kv=>if kv.1=k then(kv.1,v)else kv).map (·.1)=kvs.map (·.1):=by
 rw[List.map_map]
 refine List.map_congr_left fun p _=>?_
 show(if p.1=k then(p.1,v)else p).1=p.1
 split<;> rfl
theorem Zl5(k:κ)(kvs:List (κ×V)):(kvs.any fun kv=>decide (kv.1=k))=true↔k∈kvs.map (·.1):=by
 rw[List.any_eq_true,List.mem_map]
 constructor
 ·rintro⟨p,h1,h2⟩;exact⟨p,h1,of_decide_eq_true h2⟩
 ·rintro⟨p,h1,h2⟩;exact⟨p,h1,decide_eq_true h2⟩
theorem Zl6{F:Hp}{k:κ}{d:D}{v:V}(hd:Rep K F d v)(kvs:List (κ×V))(ds:List D)(r:Reps K F ds (kvs.map (·.2))):
  (putK kvs k v).map (·.1)=(putA (kvs.map (·.1)) ds k d).1∧Reps K F (putA (kvs.map (·.1)) ds k d).2 ((putK kvs k v).map (·.2)):=by
 unfold putK putA
 by_cases h:k∈kvs.map (·.1)
 ·rw[if_pos h,if_pos ((Zl5 k kvs).mpr h)]
  exact⟨Zou kvs,Zl4 hd kvs ds r⟩
 ·rw[if_neg h,if_neg fun z=>h ((Zl5 k kvs).mp z),List.map_append,List.map_append]
  exact⟨rfl,r.snoc hd⟩
end
theorem Zi7{F H:Hp}{d:D}{k:Key}{y:V}(e:d.key? =some k)(r:RepN K F H d y):y=kV k:=by
 cases d with
 |int i=>cases e;exact r.int
 |str x=>cases e;exact r.str
 |_=>cases e
theorem Zr5{F:Hp}{d:D}{k:Key}{y:V}(e:d.key? =some k)(r:Rep K F d y):y=kV k:=Zi7 (H:=F) e (RepN.of r)
theorem Zef{F:Hp}:∀{ds:List D} {ks:List Key} {vs:List V},keys? ds=some ks→Reps K F ds vs→vs=ks.map kV
 | [],_,_,e,r=>by cases e;cases r;rfl
 |d::ds,_,_,e,r=>by
  cases r with
  |cons h t=>
   obtain⟨k,e1,e2⟩:=Option.bind_eq_some_iff.mp e
   obtain⟨t',e3,e4⟩:=Option.bind_eq_some_iff.mp e2
   cases e4
   rw[Zr5 e1 h,Zef e3 t];rfl
theorem RepN.tupH{F H:Hp}{xs:List D}{v:V}(le:Same F H)(h:RepN K F H (.tup xs) v):∃a vs,v= .ref a∧H a=some (.tup vs)∧Reps K F xs vs:=by
 obtain⟨sv,ns,e,n,sh,hp⟩:=h
 cases sh with
 |fz r=>cases e;cases r with|tup h r=>exact⟨_,_,rfl,le _ _ h,r⟩
 |ol r=>cases e
 |oK e' r=>cases e
 |oT kb e' r=>cases e
 |oN e' r=>cases n
 |oL _ r=>cases n
 |oQ e' r=>cases e
@[simp] noncomputable def getO:D→D→Option (Option D)
 | .dK ks vs,d=>d.key?.bind fun k=>some (look ks vs k)
 | .dT ks vs,.tup xs=>(keys? xs).bind fun k=>some (look ks vs k)
 |_,_=>none
theorem Zg2{F H:Hp}{d1 d2:D}{x y:V}{o:Option D}(le:Same F H)(e:getO d1 d2=some o)(r1:RepN K F H d1 x)(r2:RepN K F H d2 y):
  ∃a,x= .ref a∧IsD H a∧match o with
   |some d=>∃v,DGet H a y (some v)∧Rep K F d v
   |none=>DGet H a y none:=by
 unfold getO at e
 split at e
 ·obtain⟨k,e1,e2⟩:=Option.bind_eq_some_iff.mp e
  obtain⟨a,kvs,rfl,ha,rfl,rr⟩:=r1.dK le
  refine⟨a,rfl,.inl ⟨kvs,ha.rd⟩,?_⟩
  rw[Zi7 e1 r2]
  have z:=Zh7 k kvs _ rr
  have g:=DGet.k (k:=k) ha
  rw[Option.some.inj e2]at z
  cases o with
  |none=>rw[show valV kvs k=none from z]at g;exact g
  |some d=>obtain⟨v,z1,z2⟩:=z;rw[z1]at g;exact⟨v,g,z2⟩
 ·obtain⟨k,e1,e2⟩:=Option.bind_eq_some_iff.mp e
  obtain⟨a,kvs,rfl,ha,rfl,rr⟩:=r1.dT le
  obtain⟨b,vs,rfl,hb,rb⟩:=r2.tupH le
  refine⟨a,rfl,.inr ⟨kvs,ha.rd⟩,?_⟩
  rw[Zef e1 rb]at hb
  have z:=Zh7 k kvs _ rr
  have g:=DGet.t ha hb
  rw[Option.some.inj e2]at z
  cases o with
  |none=>rw[show valV kvs k=none from z]at g;exact g
  |some d=>obtain⟨v,z1,z2⟩:=z;rw[z1]at g;exact⟨v,g,z2⟩
 ·cases e
section
variable{Z:Ent K}
@[simp] noncomputable def Zr6(d1 d2:D):Option SV:=(getO d1 d2).bind fun o=>o.bind fun d=>some (.fz d)
theorem Zvu:Zae Z Zyx Zr6:=by
 intro F H σ δ own x y d1 d2 sv Q s r1 r2 e k
 obtain⟨o,e1,e2⟩:=Option.bind_eq_some_iff.mp e
 obtain⟨d,e3,e4⟩:=Option.bind_eq_some_iff.mp e2
 cases e4
 subst e3
 obtain⟨a,rfl,_,v,g,rv⟩:=Zg2 s.le e1 r1 r2
 exact⟨a,v,rfl,g,k.fz s rv⟩
@[simp] noncomputable def inDd(d1 d2:D):Option SV:=(getO d2 d1).bind fun o=>some (.fz (.bl o.isSome))
@[simp] noncomputable def Zl7(d1 d2:D):Option SV:=(getO d2 d1).bind fun o=>some (.fz (.bl (!o.isSome)))
theorem Zvv:Zae Z rDIn inDd:=by
 intro F H σ δ own x y d1 d2 sv Q s r1 r2 e k
 obtain⟨o,e1,e2⟩:=Option.bind_eq_some_iff.mp e
 cases e2
 obtain⟨a,rfl,_,g⟩:=Zg2 s.le e1 r2 r1
 cases o with
 |none=>exact⟨a,none,rfl,g,k.fz s (.bl _)⟩
 |some d=>obtain⟨v,g,_⟩:=g;exact⟨a,some v,rfl,g,k.fz s (.bl _)⟩
theorem Zl8:Zae Z Zee Zl7:=by
 intro F H σ δ own x y d1 d2 sv Q s r1 r2 e k
 obtain⟨o,e1,e2⟩:=Option.bind_eq_some_iff.mp e
 cases e2
 obtain⟨a,rfl,_,g⟩:=Zg2 s.le e1 r2 r1
 cases o with
 |none=>exact⟨a,none,rfl,g,k.fz s (.bl _)⟩
 |some d=>obtain⟨v,g,_⟩:=g;exact⟨a,some v,rfl,g,k.fz s (.bl _)⟩
@[simp] noncomputable def D.isD:D→Bool
 | .dK _ _=>true| .dT _ _=>true|_=>false
@[simp] noncomputable def ixX(d1 d2:D):Option SV:=if d1.isD=true then Zr6 d1 d2 else ixD d1 d2
@[simp] noncomputable def inX(d1 d2:D):Option SV:=if d2.isD=true then inDd d1 d2 else inD d1 d2
@[simp] noncomputable def Zl9(d1 d2:D):Option SV:=if d2.isD=true then Zl7 d1 d2 else Zi6 d1 d2
theorem Zma{H:Hp}{σ:L2.St}{Q:VK}{fa fb:FE}{g g1 g2':D→D→Option SV}(hg:∀d1 d2 sv,g d1 d2=some sv→g1 d1 d2=some sv∨g2' d1 d2=some sv)(h:Ze Z (binF g fa fb) σ H Q):Ze Z (binF g1 fa fb) σ H Q∨Ze Z (binF g2' fa fb) σ H Q:=by
 obtain⟨F,δ,own,rv,δ',s,e,k⟩:=h
 obtain⟨⟨rvs,δ1⟩,e1,e2⟩:=Option.bind_eq_some_iff.mp e
 obtain⟨ds,e3,e4⟩:=Option.bind_eq_some_iff.mp e2
 obtain⟨sv,e5,e6⟩:=Option.bind_eq_some_iff.mp e4
 have:(g2 g1) ds=some sv∨(g2 g2') ds=some sv:=by
  unfold g2 at e5⊢
  split at e5
  ·exact hg _ _ _ e5
  ·cases e5
 rcases this with z|z
 ·exact .inl ⟨F,δ,own,rv,δ',s,Option.bind_eq_some_iff.mpr ⟨_,e1,Option.bind_eq_some_iff.mpr ⟨_,e3,Option.bind_eq_some_iff.mpr ⟨_,z,e6⟩⟩⟩,k⟩
 ·exact .inr ⟨F,δ,own,rv,δ',s,Option.bind_eq_some_iff.mpr ⟨_,e1,Option.bind_eq_some_iff.mpr ⟨_,e3,Option.bind_eq_some_iff.mpr ⟨_,z,e6⟩⟩⟩,k⟩
theorem Zyy:Zae Z (fun x y H Q=>(∃i j,x= .str i∧y= .str j∧Q (.bl (!(Builtin.Str.occurrences j i 0 j.length 1).isEmpty)) H)∨rDIn x y H Q) inX:=by
 intro F H σ δ own x y d1 d2 sv Q s r1 r2 e k
 unfold inX at e
 split at e
 ·exact .inr (Zvv F H σ δ own x y d1 d2 sv Q s r1 r2 e k)
 ·exact .inl (p_in F H σ δ own x y d1 d2 sv Q s r1 r2 e k)
theorem Zov:Zae Z (fun x y H Q=>(∃i j,x= .str i∧y= .str j∧Q (.bl (!(!(Builtin.Str.occurrences j i 0 j.length 1).isEmpty))) H)∨Zee x y H Q) Zl9:=by
 intro F H σ δ own x y d1 d2 sv Q s r1 r2 e k
 unfold Zl9 at e
 split at e
 ·exact .inr (Zl8 F H σ δ own x y d1 d2 sv Q s r1 r2 e k)
 ·exact .inl (Zr3 F H σ δ own x y d1 d2 sv Q s r1 r2 e k)
end
section
variable{X:Cx}{Z:Ent X.K}{a b c:Expr}{fa fb fc:FE}{pos:Pos}
theorem Zw(hu:X.A.units+1<cLine)(ha:PE X a (Ze Z fa))(hb:PE X b (Ze Z fb))(hs:Zld b:=by intro _ _;rfl):PE X (.Subscript a b pos) (Ze Z (binF ixX fa fb)):=fun pins s σ H Q I h=>by
 rcases Zma (g1:=Zr6) (g2':=ixD) (fun d1 d2 sv e=>by
  unfold ixX at e
  split at e
  ·exact .inl e
  ·exact .inr e) h with h|h
 ·exact Zri hu ha hb hs pins s σ H Q I (Zln Zvu h)
 ·exact Zxy Zuo ha hb hs pins s σ H Q I (Zln p_ix h)
end
end DL
namespace L2
open PySem PySem.Spec PyProof.Rows
variable{X:Cx}
noncomputable def Zp7:V→List V→Hp→VK→Prop:=fun x xs H Q=>∃a,x= .ref a∧((∃y o,xs=[y]∧DGet H a y o∧Q (o.getD .non) H)∨(∃y z o,xs=[y,z]∧DGet H a y o∧Q (o.getD z) H))
theorem Zr7(hu:X.A.units+1<cLine):MtR X "dict.get" Zp7:=by
 intro pins s σ H x xs v us Q I rx rs h
 obtain⟨a,rfl,h⟩:=h
 cases rx
 rcases h with⟨y,o,rfl,g,q⟩|⟨y,z,o,rfl,g,q⟩
 ·obtain⟨u,rfl,ru⟩:=Zff rs
  exact Zuu hu I g ru fun w' s' I' r'=>⟨_,H,I',r',q⟩
 ·obtain⟨u,w',rfl,r1,r2⟩:=Zug rs
  exact Zuv hu I g r1 r2 fun w' s' I' r'=>⟨_,H,I',r',q⟩
end L2
namespace DL
open PySem PySem.Spec PyProof.Rows L2
variable{K:PySem.W.Frag}
section
variable{Z:Ent K}{H:Hp}{σ:L2.St}{Q:VK}{E:Ends}
@[simp] noncomputable def Zmb:FE:=fun δ=>some (.tmp (.oK [] []),δ)
@[simp] noncomputable def Zr8:FE:=fun δ=>some (.tmp (.oT [] []),δ)
theorem Zr9(h:Ze Z Zmb σ H Q):Zpt σ H Q:=by
 obtain⟨F,δ,own,rv,δ',s,e,k⟩:=h
 cases e
 intro p hp
 have f:Fin Z F H σ δ own (.oK [] []) Q:=fun v H' F' ns a b c t=>k v H' F' own a b c ⟨ns,t⟩
 exact f.one s (.oK (kvs:=[]) rfl .nil) hp
theorem Zsa(h:Ze Z Zr8 σ H Q):Zpu σ H Q:=by
 obtain⟨F,δ,own,rv,δ',s,e,k⟩:=h
 cases e
 intro p hp
 have f:Fin Z F H σ δ own (.oT [] []) Q:=fun v H' F' ns a b c t=>k v H' F' own a b c ⟨ns,t⟩
 exact f.one s (.oT (kvs:=[]) .nil rfl .nil) hp
@[simp] noncomputable def SV.isOD:Option (Option SV)→Bool
 |some (some (.oK _ _))=>true
 |some (some (.oT _ _))=>true
 |some (some (.oQ _ _ _))=>true
 |_=>false
@[simp] noncomputable def putS(kd d:D):Option (Option SV)→Option SV
 |some (some (.oK ks vs))=>kd.key?.bind fun k=>if vs.length<PySem.sizeLine then some (.oK (putA ks vs k d).1 (putA ks vs k d).2)else none
 |some (some (.oT ks vs))=>match kd with
  | .tup xs=>(keys? xs).bind fun k=>if vs.length<PySem.sizeLine then some (.oT (putA ks vs k d).1 (putA ks vs k d).2)else none
  |_=>none
 |some (some (.oQ q ks vs))=>kd.key?.bind fun k=>if vs.length<PySem.sizeLine then some (.oQ q (putA ks vs k d).1 (putA ks vs k d).2)else none
 |_=>none
@[simp] noncomputable def putF(i:Nat)(fk fv:FE):FS:=fun δ=>(fv δ).bind fun p=>(frz p.1 p.2).bind fun q=>if SV.isOD (q.2[i]?)=true then(fk q.2).bind fun r=>(rdv r.1 r.2).bind fun kd=>(putS kd q.1 (r.2[i]?)).bind fun sv=>some (.nx (r.2.set i (some sv)))else none
theorem Zow{F:Hp}{ks:List Key}{ds:List D}{v:V}{ns:Zn}(h:Shape K F (.oK ks ds) v ns):∃a kvs ep,v= .ref a∧ns=[(a,.dK kvs ep)]∧kvs.map (·.1)=ks∧Reps K F ds (kvs.map (·.2)):=by
 cases h with
 |oK e r=>exact⟨_,_,_,rfl,rfl,e,r⟩
theorem Zox{F:Hp}{q:Addr}{ks:List Key}{ds:List D}{v:V}{ns:Zn}(h:Shape K F (.oQ q ks ds) v ns):∃kvs ep,v= .ref q∧ns=[(q,.dK kvs ep)]∧kvs.map (·.1)=ks∧Reps K F ds (kvs.map (·.2)):=by
 cases h with
 |oQ e r=>exact⟨_,_,rfl,rfl,e,r⟩
theorem Zoy{F:Hp}{ks:List (List Key)}{ds:List D}{v:V}{ns:Zn}(h:Shape K F (.oT ks ds) v ns):∃a kvs ep bs,v= .ref a∧ns=[(a,.dT kvs ep bs)]∧KB F kvs bs∧kvs.map (·.1)=ks∧Reps K F ds (kvs.map (·.2)):=by
 cases h with
 |oT kb e r=>exact⟨_,_,_,_,rfl,rfl,kb,e,r⟩
theorem KB.put{F:Hp}{kvs:List (List Key×V)}{bs:List Addr}{k:List Key}{b:Addr}{v:V}(h:KB F kvs bs)(hb:F b=some (.tup (k.map kV))):KB F (putK kvs k v) (putB kvs bs k b):=by
 unfold putK putB
 split
 ·unfold KB at*
  clear hb
  rename_i hq
  clear hq
  induction h with
  |nil=>exact .nil
  | @cons p c ps cs h1 t ih=>
   rw[List.map_cons]
   refine .cons ?_ ih
   by_cases e:p.1=k
   ·rw[if_pos e];exact h1
   ·rw[if_neg e];exact h1
 ·exact Paired.snoc h hb
theorem RepN.tupF{F H:Hp}{xs:List D}{v:V}(h:RepN K F H (.tup xs) v):∃a vs,v= .ref a∧F a=some (.tup vs)∧Reps K F xs vs:=by
 obtain⟨sv,ns,e,n,sh,hp⟩:=h
 cases sh with
 |fz r=>cases e;cases r with|tup h r=>exact⟨_,_,rfl,h,r⟩
 |ol r=>cases e
 |oK e' r=>cases e
 |oT kb e' r=>cases e
 |oN e' r=>cases n
 |oL _ r=>cases n
 |oQ e' r=>cases e
theorem Zsb{o:Option (Option SV)}(h:SV.isOD o=true):∃sv,o=some (some sv):=by
 unfold SV.isOD at h
 split at h
 ·exact⟨_,rfl⟩
 ·exact⟨_,rfl⟩
 ·exact⟨_,rfl⟩
 ·cases h
theorem Zyz{i:Nat}{fk fv:FE}(h:Z2 Z (putF i fk fv) E σ H):Zut (tVar i) (Ze Z fk) (Ze Z fv) E σ H:=by
 obtain⟨F,δ,own,fl,s,e,k⟩:=h
 obtain⟨⟨rv,δ1⟩,e1,e⟩:=Option.bind_eq_some_iff.mp e
 obtain⟨⟨d,δ2⟩,e2,e⟩:=Option.bind_eq_some_iff.mp e
 dsimp only at e
 split at e
 ·rename_i hod
  obtain⟨⟨rk,δ3⟩,e3,e⟩:=Option.bind_eq_some_iff.mp e
  obtain⟨kd,e4,e⟩:=Option.bind_eq_some_iff.mp e
  obtain⟨sv,e5,e⟩:=Option.bind_eq_some_iff.mp e
  cases e
  refine⟨F,δ,own,rv,δ1,s,e1,fun v H1 F1 own1 sH1 sF1 s1 r1=>?_⟩
  obtain⟨F2,sF2,s2,r2⟩:=s1.settleR r1
  obtain⟨F3,own3,sF3,s3,r3⟩:=s2.frzR r2 e2
  obtain⟨sv0,hsv0⟩:=Zsb hod
  obtain⟨x,hx,_⟩:=s3.at' i sv0 hsv0
  refine⟨x,hx,F3,δ2,own3,rk,δ3,s3,e3,fun y H4 F4 own4 sH4 sF4 s4 r4=>?_⟩
  obtain⟨F5,sF5,s5,r5⟩:=s4.settleR r4
  have rk':=s5.rd r5 e4
  have rd:Rep K F5 d v:=r3.mono (sF4.trans sF5)
  have sF:Same F F5:=sF1.trans (sF2.trans (sF3.trans (sF4.trans sF5)))
  dsimp only at e5
  generalize ho:δ3[i]? =o at e5
  unfold putS at e5
  split at e5
  ·rename_i ks vs
   obtain⟨kk,f1,f2⟩:=Option.bind_eq_some_iff.mp e5
   split at f2
   ·rename_i hz
    cases f2
    obtain⟨x',hx',sh⟩:=s5.at' i _ ho
    rw[hx]at hx';cases hx'
    obtain⟨a,kvs,ep0,ea,en,rfl,rr⟩:=Zow sh
    subst ea
    have mb:(a,HO.dK kvs ep0)∈own4 i:=by rw[en];exact List.mem_cons_self
    have hH:=(s5.ok i _ mb).2.2
    have z:=Zl6 (k:=kk) rd kvs vs rr
    refine⟨a,rfl,?_⟩
    rw[Zi7 f1 rk']
    refine DPut.k ⟨_,hH⟩ (by rw[←rr.length_map];exact hz) fun ep=>?_
    exact k σ _ F5 _ sF (s5.change (sv':=.oK (putA (kvs.map (·.1)) vs kk d).1 (putA (kvs.map (·.1)) vs kk d).2) (o':=.dK (putK kvs kk v) ep) (ns':=[(a,.dK (putK kvs kk v) ep)]) ho hx mb (.oK z.1 z.2) (fun p hp=>.inl (List.mem_singleton.mp hp)) nd1)
   ·cases f2
  ·rename_i ks vs
   split at e5
   ·rename_i xs
    obtain⟨kk,f1,f2⟩:=Option.bind_eq_some_iff.mp e5
    split at f2
    ·rename_i hz
     cases f2
     obtain⟨x',hx',sh⟩:=s5.at' i _ ho
     rw[hx]at hx';cases hx'
     obtain⟨a,kvs,ep0,bs0,ea,en,kb,rfl,rr⟩:=Zoy sh
     subst ea
     have mb:(a,HO.dT kvs ep0 bs0)∈own4 i:=by rw[en];exact List.mem_cons_self
     have hH:=(s5.ok i _ mb).2.2
     have z:=Zl6 (k:=kk) rd kvs vs rr
     obtain⟨b,us,rfl,hbF,rb⟩:=rk'.tupF
     rw[Zef f1 rb]at hbF
     refine⟨a,rfl,DPut.t ⟨_,_,hH⟩ (s5.le _ _ hbF) (by rw[←rr.length_map];exact hz) fun ep ep1 bs1 hq=>?_⟩
     rw[hH]at hq
     cases hq
     exact k σ _ F5 _ sF (s5.change (sv':=.oT (putA (kvs.map (·.1)) vs kk d).1 (putA (kvs.map (·.1)) vs kk d).2) (o':=.dT (putK kvs kk v) ep (putB kvs bs0 kk b)) (ns':=[(a,.dT (putK kvs kk v) ep (putB kvs bs0 kk b))]) ho hx mb (.oT (kb.put hbF) z.1 z.2) (fun p hp=>.inl (List.mem_singleton.mp hp)) nd1)
    ·cases f2
   ·cases e5
  ·rename_i q ks vs
   obtain⟨kk,f1,f2⟩:=Option.bind_eq_some_iff.mp e5
   split at f2
   ·rename_i hz
    cases f2
    obtain⟨x',hx',sh⟩:=s5.at' i _ ho
    rw[hx]at hx';cases hx'
    obtain⟨kvs,ep0,ea,en,rfl,rr⟩:=Zox sh
    subst ea
    have mb:(q,HO.dK kvs ep0)∈own4 i:=by rw[en];exact List.mem_cons_self
    have hH:=(s5.ok i _ mb).2.2
    have z:=Zl6 (k:=kk) rd kvs vs rr
    refine⟨q,rfl,?_⟩
    rw[Zi7 f1 rk']
    refine DPut.k ⟨_,hH⟩ (by rw[←rr.length_map];exact hz) fun ep=>?_
    exact k σ _ F5 _ sF (s5.change (sv':=.oQ q (putA (kvs.map (·.1)) vs kk d).1 (putA (kvs.map (·.1)) vs kk d).2) (o':=.dK (putK kvs kk v) ep) (ns':=[(q,.dK (putK kvs kk v) ep)]) ho hx mb (.oQ z.1 z.2) (fun p hp=>.inl (List.mem_singleton.mp hp)) nd1)
   ·cases f2
  ·cases e5
 ·cases e
@[simp] noncomputable def bmDF(T:String)(g:D→List D→Option SV)(fo:FE)(fd:FD):FE:=fun δ=>(fo δ).bind fun p=>(rdv p.1 p.2).bind fun d0=>if tyOk T d0=true then(fd p.2).bind fun q=>(rdv p.1 q.2).bind fun d1=>(g d1 q.1).bind fun sv=>some (.tmp sv,q.2)else none
noncomputable def Zvw(Z:Ent K)(r:V→List V→Hp→VK→Prop)(g:D→List D→Option SV):Prop:=
 ∀(F H:Hp) (σ:L2.St) (δ:DSt) (own:Nat→Zn) (x:V) (d:D) (vs:List V) (ds:List D) (sv:SV) (Q:VK),SR Z F H σ δ own→RepN K F H d x→Reps K F ds vs→g d ds=some sv→Fin Z F H σ δ own sv Q→r x vs H Q
theorem Zy0{T:String}{r:V→List V→Hp→VK→Prop}{g:D→List D→Option SV}{fo:FE}{fd:FD}(hg:Zvw Z r g)(h:Ze Z (bmDF T g fo fd) σ H Q):tBM K T r (Ze Z fo) (Zbg Z fd) σ H Q:=by
 obtain⟨F,δ,own,rv,δ',s,e,k⟩:=h
 obtain⟨⟨rv1,δ1⟩,e1,e⟩:=Option.bind_eq_some_iff.mp e
 obtain⟨d0,e2,e⟩:=Option.bind_eq_some_iff.mp e
 dsimp only at e
 split at e
 ·rename_i ht
  obtain⟨⟨ds,δ2⟩,e3,e⟩:=Option.bind_eq_some_iff.mp e
  obtain⟨d1,e4,e⟩:=Option.bind_eq_some_iff.mp e
  obtain⟨sv,e5,e⟩:=Option.bind_eq_some_iff.mp e
  cases e
  refine⟨F,δ,own,rv1,δ1,s,e1,fun v H1 F1 own1 sH1 sF1 s1 r1=>?_⟩
  obtain⟨F1',sF1',s1',r1'⟩:=s1.settleR r1
  refine⟨Zyn s1'.le (s1'.rd r1' e2) ht,F1',δ1,own1,ds,δ2,s1',e3,fun vs H2 F2 own2 sH2 sF2 s2 r2=>?_⟩
  exact hg F2 H2 σ δ2 own2 v d1 vs ds sv Q s2 (s2.rd (r1'.mono sF2) e4) r2 e5 fun q H4 F4 ns sH4 sF4 s4 t4=>
   k q H4 F4 own2 (sH1.trans (sH2.trans sH4)) (sF1.trans (sF1'.trans (sF2.trans sF4))) s4 ⟨ns,t4⟩
 ·cases e
@[simp] noncomputable def Ze1:D→List D→Option SV
 |d,[y]=>(getO d y).bind fun o=>some (.fz (o.getD .non))
 |d,[y,z]=>(getO d y).bind fun o=>some (.fz (o.getD z))
 |_,_=>none
theorem Zsc:Zvw Z Zp7 Ze1:=by
 intro F H σ δ own x d vs ds sv Q s r1 r2 e k
 unfold Ze1 at e
 split at e
 ·obtain⟨o,e1,e2⟩:=Option.bind_eq_some_iff.mp e
  cases e2
  cases r2 with
  |cons h t=>
   cases t
   obtain⟨a,rfl,_,g⟩:=Zg2 s.le e1 r1 (RepN.of h)
   cases o with
   |none=>exact⟨a,rfl,.inl ⟨_,none,rfl,g,k.fz s .non⟩⟩
   |some d=>obtain⟨v,g,rv⟩:=g;exact⟨a,rfl,.inl ⟨_,some v,rfl,g,k.fz s rv⟩⟩
 ·obtain⟨o,e1,e2⟩:=Option.bind_eq_some_iff.mp e
  cases e2
  cases r2 with
  |cons h t=>
   cases t with
   |cons h2 t=>
    cases t
    obtain⟨a,rfl,_,g⟩:=Zg2 s.le e1 r1 (RepN.of h)
    cases o with
    |none=>exact⟨a,rfl,.inr ⟨_,_,none,rfl,g,k.fz s h2⟩⟩
    |some d=>obtain⟨v,g,rv⟩:=g;exact⟨a,rfl,.inr ⟨_,_,some v,rfl,g,k.fz s rv⟩⟩
 ·cases e
end
section
variable{X:Cx}{Z:Ent X.K}{a b c:Expr}{fa fb fc:FE}{pos:Pos}
theorem Zh8:PE X (.Dict [] [] pos) (Ze Z Zmb):=Zoa.imp fun _ _ _ h=>Zr9 h
theorem Zsd:PE X (.Dict [] [] pos) (Ze Z Zr8):=Zob.imp fun _ _ _ h=>Zsa h
theorem Zmc{apos cpos:Pos}{es:List Expr}{fd:FD}(hu:X.A.units+1<cLine)(ha:PE X a (Ze Z fa))(hb:PA X (b::es) (Zbg Z fd))(hbase:attributeBase a "get" X.env (eval a X.env)=eval a X.env:=by rfl)
  (hfew:((backTo cpos (starEach (b::es) X.env)).all (fun x=>!x.1)&&(backToKw cpos (keywordEach [] X.env)).all (fun x=>x.1.isSome)&&decide ((b::es).length+([]:List Keyword).length+(if([]:List Keyword).isEmpty then 0 else 1)<30))=true:=by rfl)
  (hline:(apos.endLine==cpos.line)=true:=by rfl) (hs:starEach (b::es) X.env=(false,eval b X.env)::starEach es X.env:=by rfl) (hpl:(backTo cpos (starEach es X.env)).any (·.1)=false:=by rfl):
  PE X (.Call (.Attribute a "get" apos) (b::es) [] cpos) (Ze Z (bmDF "dict" Ze1 fa fd)):=
 (Zuq PySem.F.plainAttrs_dict PySem.F.slot_dict_get PySem.F.type_dict_get (Zr7 hu) ha hb hbase hfew hline hs hpl).imp fun _ _ _ h=>Zy0 Zsc h
theorem Zg3(i:Nat){x:Str}{px p1:Pos}(hu:X.A.units+1<cLine)(hb:PE X b (Ze Z fb))(hv':PE X a (Ze Z fa))(hN:X.N[i]? =some x:=by rfl)(hv:Vis X.env.scope x:=by first|exact Or.inl rfl|exact Or.inr (Or.inl rfl)|exact Or.inr (Or.inr rfl))(hd:(x==("__debug__":Str))=false:=by decide)
  (hcd:(x==("__classdict__":Str))=false:=by decide) (hs:swapsWith a (some (.Subscript (.Name x px) b p1)) pos.line X.env=pure false:=by rfl):
  PS X (.Assign [.Subscript (.Name x px) b p1] a pos) (Z2 Z (putF i fb fa)):=(Zrj hu (Zku (i:=i) hN hv hd hcd) hb hv' hs).imp fun _ _ _ h=>Zyz h
end
end DL
namespace L2
open PySem PySem.Spec PyProof.Rows
variable{X:Cx}
noncomputable def Zy1:List V→Hp→VK→Prop:=fun xs H Q=>∃a kvs,xs=[.ref a]∧RdK H a kvs∧∀p ep,H p=none→Q (.ref p) (upd H p (.dK kvs ep))
end L2
namespace DL
open PySem PySem.Spec PyProof.Rows L2
variable{K:PySem.W.Frag}
section
variable{Z:Ent K}{H:Hp}{σ:L2.St}{Q:VK}{E:Ends}
@[simp] noncomputable def Z2a:List D→Option SV
 | [.dK ks vs]=>some (.oK ks vs)
 |_=>none
@[simp] noncomputable def Z0x(k:Str)(i:Nat):FE:=fun δ=>match δ[i]? with
 |some (some sv)=>some (.tmp (.oK [.inr k] [sv.toD]),δ.set i (some (.fz sv.toD)))
 |_=>none
@[simp] noncomputable def Zvx(ks:List Key)(vs:List D)(k:Key):List Key×List D:=(((ks.zip vs).filter fun p=>decide (p.1≠k)).map (·.1),((ks.zip vs).filter fun p=>decide (p.1≠k)).map (·.2))
@[simp] noncomputable def popF(i:Nat)(fk:FE):FS:=fun δ=>match δ[i]? with
 |some (some (.oK _ _))=>(fk δ).bind fun r=>(rdv r.1 r.2).bind fun kd=>kd.key?.bind fun k=>match r.2[i]? with
  |some (some (.oK ks vs))=>if(look ks vs k).isSome=true then some (.nx (r.2.set i (some (.oK (Zvx ks vs k).1 (Zvx ks vs k).2))))else none
  |_=>none
 |_=>none
end
section
variable{X:Cx}{Z:Ent X.K}{a b c:Expr}{fa fb fc:FE}{pos:Pos}
end
end DL
namespace L2
open PySem PySem.Spec PyProof.Rows
section
variable{prog:Program}{w:World}{A:Around}{E:Value→Shared→Prop}{s:Shared}
theorem Zj9{Q:Int→Shared→Prop}(h:Q 0xFCA86420 {s with toks:=s.toks+1}):wpAny (model prog w) A (pyHash .none) Q E s:=by
 have hT:s.TypeIs .none "NoneType":=rfl
 refine PySem.W.pyHash_slot (v:=.none) (Q:=Q) hT F.slot_NoneType_hash F.entry_NoneType_hash (F.args_NoneType_hash_1 _) rfl (.inl rfl) ?_
 show wpAny (model prog w) A.in1 (mkInt 0xFCA86420 >>=fun v=>ret v) _ E s
 refine wpAny_bind (wpAny_mkInt ?_)
 exact wpAny_pure ⟨_,_,rfl,h⟩
end
noncomputable def Zse:Option Key→Value→Bool
 |none,.none=>true
 |none,_=>false
 |some k,v=>Zd0 k v
theorem Z0{k:Option Key}{v:Value}(h:Zse k v=true):(k=none∧v= .none)∨∃j,k=some j∧Zd0 j v=true:=by
 cases k with
 |none=>cases v<;> first|exact .inl ⟨rfl,rfl⟩|cases h
 |some j=>exact .inr ⟨j,rfl,h⟩
theorem Zfu{j:Key}(h:Zd0 j .none=true):False:=by
 rcases Zs h with⟨i,t,_,e⟩|⟨x,t,_,e⟩<;> cases e
noncomputable def Zh9(prog:Program)(w:World):PySem.KeyKind prog w (Option Key)where
 is:=Zse
 hash:=fun|none=>0xFCA86420|some k=>(Zp prog w).hash k
 inj:=fun v a b ha hb=>by
  rcases Z0 ha with⟨rfl,rfl⟩|⟨i,rfl,hi⟩
  ·rcases Z0 hb with⟨rfl,_⟩|⟨j,rfl,hj⟩
   ·rfl
   ·exact(Zfu hj).elim
  ·rcases Z0 hb with⟨rfl,rfl⟩|⟨j,rfl,hj⟩
   ·exact(Zfu hi).elim
   ·rw[(Zp prog w).inj v i j hi hj]
 byValue:=fun k v h=>by
  rcases Z0 h with⟨rfl,rfl⟩|⟨i,rfl,hi⟩
  ·rfl
  ·exact(Zp prog w).byValue i v hi
 pyHash:=fun{A E s k v Q} hv h=>by
  rcases Z0 hv with⟨rfl,rfl⟩|⟨i,rfl,hi⟩
  ·exact Zj9 h
  ·exact(Zp prog w).pyHash hi h
 eqBool:=fun{A E s a b u v Q} hu hv h=>by
  rcases Z0 hu with⟨rfl,rfl⟩|⟨i,rfl,hi⟩
  ·rcases Z0 hv with⟨rfl,rfl⟩|⟨j,rfl,hj⟩
   ·exact SeqAt.EqAt.same _ _ _ _ _ (by simpa using h)
   ·rw[decide_eq_false (fun z=>nomatch z)]at h
    rcases Zs hj with⟨i,t,rfl,rfl⟩|⟨x,t,rfl,rfl⟩
    ·exact SeqAt.EqAt.none_int i t _ _ _ _ h
    ·exact SeqAt.EqAt.none_str x t _ _ _ _ h
  ·rcases Z0 hv with⟨rfl,rfl⟩|⟨j,rfl,hj⟩
   ·rw[decide_eq_false (fun z=>nomatch z)]at h
    rcases Zs hi with⟨i,t,rfl,rfl⟩|⟨x,t,rfl,rfl⟩
    ·exact SeqAt.EqAt.int_none i t _ _ _ _ h
    ·exact SeqAt.EqAt.str_none x t _ _ _ _ h
   ·refine(Zp prog w).eqBool hi hj ?_
    have e:decide (some i=some j)=decide (i=j):=by simp
    rw[←e];exact h
 «strs»:=fun k x t v h=>by
  rcases Z0 h with⟨rfl,e⟩|⟨i,rfl,hi⟩
  ·cases e
  ·exact(Zp prog w).strs i x t v hi
variable{X:Cx}
theorem Zmd{P:Program}{w:World}{h:Heap}{a:Addr}{vs:List (Key×Value)}(d:h.DictOf (Zp P w) a vs):h.MapOf (Zh9 P w) a (fun|none=>none|some k=>valueAt vs k):=by
 obtain⟨o,es,ep,ho,hc,hd,hk,hf⟩:=d.mapOf
 refine⟨o,es,ep,ho,hc,hd,fun e he=>?_,fun k=>?_⟩
 ·obtain⟨k,h1,h2⟩:=hk e he
  exact⟨some k,h1,h2⟩
 ·cases k with
  |some k=>exact hf k
  |none=>
   show(es.find? fun e=>Zse none e.key).map (·.val)=none
   rw[Array.find?_eq_none.mpr fun e he z=>?_]
   ·rfl
   ·obtain⟨k,h1,_⟩:=hk e he
    rcases Z0 z with⟨_,e2⟩|⟨j,e2,_⟩
    ·rw[e2]at h1;exact Zfu h1
    ·cases e2
noncomputable def Ze2(neg:Bool):R2:=fun y x H Q=>∃a kvs,y= .non∧x= .ref a∧RdK H a kvs∧Q (.bl neg) H
theorem Zme:OpR X (compareOp .In) (Ze2 false):=by
 intro pins s σ H y x v u Q I ry rx h
 obtain⟨a,kvs,rfl,rfl,e,q⟩:=h
 cases ry
 cases rx
 obtain⟨z,hd,vs,rel,dd⟩:=Zfi I.hok e
 exact wpAny_in_of (knd:=Zh9 X.prog X.w) (k:=none) rfl hd (Zmd dd) ⟨.bl false,H,I.tok _,rfl,q⟩
theorem Zg4:OpR X (compareOp .NotIn) (Ze2 true):=by
 intro pins s σ H y x v u Q I ry rx h
 obtain⟨a,kvs,rfl,rfl,e,q⟩:=h
 cases ry
 cases rx
 obtain⟨z,hd,vs,rel,dd⟩:=Zfi I.hok e
 exact wpAny_notIn_of (knd:=Zh9 X.prog X.w) (k:=none) rfl hd (Zmd dd) ⟨.bl true,H,I.tok _,rfl,q⟩
end L2
namespace L2
open PySem PySem.Spec PyProof.Rows
noncomputable def Zi8(es:Array DictEntry)(kvs:List (Str×Value)):Prop:=es.size=kvs.length∧∀(i:Nat) (p:Str×Value),kvs[i]? =some p→∃e t,es[i]? =some e∧e.key= .str p.1 t∧e.val=p.2
noncomputable def Zfv(h:Heap)(a:Addr)(kvs:List (Str×Value)):Prop:=∃o es ep,h.get? a=some o∧o.ExactDict∧o.data= .dict es ep∧Zi8 es kvs
noncomputable def place(kvs:List (Str×Value))(x:Str):Option Nat:=kvs.findIdx? fun p=>decide (p.1=x)
theorem Zi8.find{es:Array DictEntry}{kvs:List (Str×Value)}(h:Zi8 es kvs)(x:Str):(es.findIdx? fun e=>e.key.isStr x)=place kvs x:=by
 unfold place
 have hA:(es.findIdx? fun e=>e.key.isStr x)=es.toList.findIdx? fun e=>e.key.isStr x:=by obtain⟨l⟩:=es;simp
 rw[hA]
 have:∀(es:List DictEntry) (kvs:List (Str×Value)),es.length=kvs.length→(∀(i:Nat) (p:Str×Value),kvs[i]? =some p→∃e t,es[i]? =some e∧e.key= .str p.1 t∧e.val=p.2)→
   es.findIdx? (fun e=>e.key.isStr x)=kvs.findIdx? fun p=>decide (p.1=x):=by
  intro es
  induction es with
  |nil=>intro kvs hl _;cases kvs with
   |nil=>rfl
   |cons p r=>cases hl
  |cons e es ih=>
   intro kvs hl hp
   cases kvs with
   |nil=>cases hl
   |cons p r=>
    obtain⟨e',t,h1,h2,h3⟩:=hp 0 p rfl
    obtain rfl:e=e':=by simpa using h1
    have hk:e.key.isStr x=decide (p.1=x):=by
     rw[h2]
     show(p.1==x)=_
     by_cases z:p.1=x
     ·rw[z];simp
     ·rw[decide_eq_false z];exact beq_eq_false_iff_ne.mpr z
    rw[List.findIdx?_cons,List.findIdx?_cons,hk,ih r (by simpa using hl) (fun i q hq=>hp (i+1) q (by simpa using hq))]
 exact this es.toList kvs (by rw[Array.length_toList];exact h.1) (fun i p hp=>by
  obtain⟨e,t,h1,h2⟩:=h.2 i p hp
  exact⟨e,t,by rw[Array.getElem?_toList];exact h1,h2⟩)
section
variable{prog:Program}{w:World}{A:Around}{E:Value→Shared→Prop}{s:Shared}
theorem Zmf{d:Addr}{o:Obj}{es:Array DictEntry}{ep:Nat}{kvs:List (Str×Value)}{x:Str}{t:Tok}{n:Int}{Q:Option Nat→Shared→Prop}(ho:s.heap.get? d=some o)(hd:o.data= .dict es ep)(hp:Zi8 es kvs)(q:Q (place kvs x) s):
  wpAny (model prog w) A (dictFind d (.str x t) n) Q E s:=by
 have hall:(es.all fun e=>isExactStrKey e.key)=true:=by
  rw[Array.all_eq_true]
  intro i hi
  have hi':i<kvs.length:=by rw[←hp.1];exact hi
  obtain⟨e,t',h1,h2,_⟩:=hp.2 i kvs[i] (by simp[hi'])
  rw[Array.getElem?_eq_getElem hi]at h1
  cases h1
  rw[h2];rfl
 unfold dictFind
 try with_reducible refine wpAny_holding ?_
 refine wpAny_bind (wpAny_dictEntries ho hd ?_)
 dsimp only
 rw[if_pos hall]
 unfold foundByValue
 rw[hp.find x]
 cases hj:place kvs x with
 |none=>rw[hj]at q;exact wpAny_pure q
 |some j=>
  rw[hj]at q
  obtain⟨hlt,hx,_⟩:=List.findIdx?_eq_some_iff_getElem.mp hj
  obtain⟨e,t',h1,h2,h3⟩:=hp.2 j kvs[j] (by simp[hlt])
  have hx':kvs[j].1=x:=of_decide_eq_true hx
  rw[hx']at h2
  dsimp only
  rw[h1]
  dsimp only
  refine wpAny_bind (wpAny_dictEpoch ho hd ?_)
  rw[h2]
  refine wpAny_bind (SeqAt.EqAt.str_str x t' x t prog w _ _ ?_)
  refine wpAny_bind (wpAny_dictEpoch ho hd ?_)
  rw[if_neg (by simp)]
  simp only[beq_self_eq_true,if_true]
  exact wpAny_bind (wpAny_rule (wpAny_pure q))
end
inductive SHits(A:Around)(s:Shared)(kb:List (Str×Value)):List (Str×Value)→Bool→Prop where
 |nil:SHits A s kb [] true
 |miss {k:Str} {v:Value} {r:List (Str×Value)}:place kb k=none→SHits A s kb ((k,v)::r) false
 |hit {k:Str} {v:Value} {r:List (Str×Value)} {j:Nat} {p:Str×Value} {e b:Bool}:place kb k=some j→kb[j]? =some p→SeqAt.EqAt A s v p.2 e→SHits A s kb r b→SHits A s kb ((k,v)::r) (e&&b)
section
variable{prog:Program}{w:World}{A:Around}{E:Value→Shared→Prop}{s:Shared}
theorem Ze3{nm:String}{a b:Addr}{ka kb:List (Str×Value)}{r:Bool}{Q:Bool→Shared→Prop}(ha:(a==sysModules)=false)(hb:(b==sysModules)=false)(da:Zfv s.heap a ka)(db:Zfv s.heap b kb)
  (hits:ka.length=kb.length→SHits A s kb ka r) (q:Q (ka.length==kb.length&&r) s):wpAny (model prog w) A (Builtin.Dict.samePairs nm a b) Q E s:=by
 obtain⟨oa,es,ep,ga,_,dta,pa⟩:=da
 obtain⟨ob,es',ep',gb,_,dtb,pb⟩:=db
 have la:=pa.1
 have lb:=pb.1
 unfold Builtin.Dict.samePairs Builtin.Dict.showsAll
 rw[if_neg (by rw[ha];exact Bool.false_ne_true),if_neg (by rw[hb];exact Bool.false_ne_true)]
 refine wpAny_bind (wpAny_pure (wpAny_bind (wpAny_pure (wpAny_bind (wpAny_dictEntries ga dta ?_)))))
 refine wpAny_bind (wpAny_dictEntries gb dtb ?_)
 by_cases hz:es.size=es'.size
 ·have hl:ka.length=kb.length:=by omega
  have q':Q r s:=by simpa[hl]using q
  have hh:=hits hl
  rw[if_neg (by rw[hz];simp)]
  refine wpAny_bind (wpAny_dictEpoch ga dta (wpAny_bind ?_))
  rw[Std.Legacy.Range.forIn_eq_forIn_range']
  simp only[Std.Legacy.Range.size,Nat.sub_zero,Nat.add_sub_cancel,Nat.div_one]
  refine wpAny_forIn_list _ (fun rest x s'=>s'=s∧x=(none,())∧∃i,rest=List.range' i (es.size- i)∧i≤es.size∧SHits A s kb (ka.drop i) r) _ ?_ ?_ _ _ ⟨rfl,rfl,0,by simp,Nat.zero_le _,hh⟩
  ·rintro x rest y s' ⟨rfl,rfl,i,hr,hi,hS⟩
   have hlt:i<es.size:=by
    rcases Nat.lt_or_ge i es.size with z|z
    ·exact z
    ·rw[Nat.sub_eq_zero_of_le z]at hr;cases hr
   rw[show es.size- i=(es.size- (i+1))+1 by omega,List.range'_succ]at hr
   injection hr with hx hrest
   subst hx
   have hlk:x<ka.length:=by omega
   obtain⟨e,t,h1,h2,h3⟩:=pa.2 x ka[x] (by simp[hlk])
   rw[List.drop_eq_getElem_cons hlk]at hS
   refine wpAny_bind (wpAny_dictEntries ga dta ?_)
   rw[h1]
   show wpAny _ _ (holding [e.key,e.val] _ >>=_) _ _ _
   rw[h2]
   refine wpAny_bind (wpAny_holding (wpAny_bind (Zmf gb dtb pb ?_)))
   generalize hk:ka[x]=p at hS h2 h3⊢
   obtain⟨k,v⟩:=p
   cases hS with
   |miss hn=>
    rw[hn]
    refine wpAny_pure ?_
    show wpAny _ _ (if(!false)=true then _ else _) _ _ _
    rw[if_pos (by decide)]
    exact wpAny_pure (wpAny_pure q')
   | @hit _ _ _ j p' eb bb hn hp he hr'=>
    rw[hn]
    obtain⟨f,t',g1,g2,g3⟩:=pb.2 j p' hp
    refine wpAny_bind (wpAny_dictEntries gb dtb ?_)
    rw[g1]
    rw[show e.val=v from h3]
    dsimp only
    rw[g3]
    refine wpAny_holding (he prog w _ _ ?_)
    cases eb with
    |false=>
     rw[Bool.false_and]at q'
     show wpAny _ _ (if(!false)=true then _ else _) _ _ _
     rw[if_pos (by decide)]
     exact wpAny_pure (wpAny_pure q')
    |true=>
     show wpAny _ _ (if(!true)=true then _ else _) _ _ _
     rw[if_neg (by decide)]
     refine wpAny_bind (wpAny_dictEpoch ga dta ?_)
     rw[if_neg (by simp)]
     exact wpAny_pure ⟨rfl,rfl,x+1,hrest,hlt,by rw[Bool.true_and];exact hr'⟩
  ·rintro x s' ⟨rfl,rfl,i,hr,hi,hS⟩
   have e:i=es.size:=by
    rcases Nat.lt_or_ge i es.size with z|z
    ·rw[show es.size- i=(es.size- (i+1))+1 by omega,List.range'_succ]at hr;cases hr
    ·omega
   rw[e,la,List.drop_length]at hS
   cases hS
   exact wpAny_pure q'
 ·rw[if_pos (by simpa using hz)]
  have hf:(ka.length==kb.length)=false:=by rw[←la,←lb];simpa using hz
  rw[hf,Bool.false_and]at q
  exact wpAny_bind (wpAny_rule (wpAny_pure q))
end
section
variable{A:Around}{s:Shared}{a b:Addr}{ka kb:List (Str×Value)}{r:Bool}
theorem Zfv.typeIs(d:Zfv s.heap a ka):s.TypeIs (.ref a) "dict":=let⟨o,_,_,ho,hc,_⟩:=d;⟨o,ho,hc.1⟩
theorem Zi9(ha:(a==sysModules)=false)(hb:(b==sysModules)=false)(da:Zfv s.heap a ka)(db:Zfv s.heap b kb)(hu:A.units<cLine)(hits:ka.length=kb.length→SHits A.in1 s kb ka r):SeqAt.RcAt A s (.ref a) (.ref b) (ka.length==kb.length&&r):=fun prog w E Q q=>by
 refine wpAny_richCompare_same_room (op:=.Eq) da.typeIs db.typeIs PySem.F.slot_dict_eq (wpAny_call_entry PySem.F.slot_dict_eq da.typeIs PySem.F.entry_dict_eq ?_ (PySem.F.args_dict_eq_2 _ _)) hu;show wpAny _ _ (Builtin.Dict.dictSlotArgs "__eq__" ⟨[.ref a,.ref b],[]⟩>>=_) _ _ s
 refine wpAny_bind ?_;unfold Builtin.Dict.dictSlotArgs;refine wpAny_bind (wpAny_notOrdered_dict da.typeIs ?_);show wpAny _ _ (pure (Value.ref a,Value.ref b)) _ _ s
 refine wpAny_pure (wpAny_bind (wpAny_isInstance (T:="dict") db.typeIs PySem.F.sub_dict_dict ?_));simp only[Bool.not_true,Bool.false_eq_true,if_false]
 refine wpAny_bind (wpAny_pure (wpAny_bind (wpAny_pure (wpAny_bind (Ze3 ha hb da db hits ?_)))))
 exact wpAny_pure ⟨_,rfl,(fun x=>nomatch x),by simpa using q⟩
theorem Ze4(ha:(a==sysModules)=false)(hb:(b==sysModules)=false)(da:Zfv s.heap a ka)(db:Zfv s.heap b kb)(hu:A.units<cLine)(hits:ka.length=kb.length→SHits A.in1 s kb ka r):SeqAt.RcNeAt A s (.ref a) (.ref b) (!(ka.length==kb.length&&r)):=fun prog w E Q q=>by
 refine wpAny_richCompare_same_room (op:=.NotEq) da.typeIs db.typeIs PySem.F.slot_dict_ne (wpAny_call_entry PySem.F.slot_dict_ne da.typeIs PySem.F.entry_dict_ne ?_ (PySem.F.args_dict_ne_2 _ _)) hu;show wpAny _ _ (Builtin.Dict.dictSlotArgs "__ne__" ⟨[.ref a,.ref b],[]⟩>>=_) _ _ s
 refine wpAny_bind ?_;unfold Builtin.Dict.dictSlotArgs;refine wpAny_bind (wpAny_notOrdered_dict da.typeIs ?_);show wpAny _ _ (pure (Value.ref a,Value.ref b)) _ _ s
 refine wpAny_pure (wpAny_bind (wpAny_isInstance (T:="dict") db.typeIs PySem.F.sub_dict_dict ?_));simp only[Bool.not_true,Bool.false_eq_true,if_false]
 refine wpAny_bind (wpAny_pure (wpAny_bind (wpAny_pure (wpAny_bind (Ze3 ha hb da db hits ?_)))))
 exact wpAny_pure ⟨_,rfl,(fun x=>nomatch x),by simpa using q⟩
end
end L2
namespace DL
open PySem PySem.Spec PyProof.Rows L2
variable{K:PySem.W.Frag}
@[simp] noncomputable def strK?:List Key→Option (List Str)
 | []=>some []
 | .inr x::r=>(strK? r).bind fun t=>some (x::t)
 |_=>none
@[simp] noncomputable def eqKV(f:D→D→Option Bool)(ys:List Str)(us:List D):List Str→List D→Option Bool
 |x::xs,v::vs=>match look ys us x with
  |none=>some false
  |some u=>(f v u).bind fun b=>(eqKV f ys us xs vs).bind fun c=>some (b&&c)
 |_,_=>some true
@[simp] noncomputable def Zeg(f:D→D→Option Bool):D→D→Option Bool
 | .dK ks vs,.dK ks' vs'=>(strK? ks).bind fun xs=>(strK? ks').bind fun ys=>if xs.length=ys.length then eqKV f ys vs' xs vs else some false
 |d1,d2=>Zec f d1 d2
@[simp] noncomputable def eqM:Nat→D→D→Option Bool
 |0=>fun _ _=>none
 |n+1=>Zeg (eqM n)
theorem Zmg{P:Program}{w:World}:∀{es:List DictEntry} {kvs:List (Key×Value)} {xs:List Str},Pairs (Zp P w) es kvs→strK? (kvs.map (·.1))=some xs→
  ∃skv:List (Str×Value),skv.map (·.1)=xs∧skv.map (·.2)=kvs.map (·.2)∧es.length=skv.length∧∀(i:Nat) (p:Str×Value),skv[i]? =some p→∃e t,es[i]? =some e∧e.key= .str p.1 t∧e.val=p.2
 |_,_,_,.nil,e=>by cases e;exact⟨[],rfl,rfl,rfl,fun i p h=>by simp at h⟩
 |_,_,_,@Pairs.cons _ _ _ _ _ en kv es kvs hi hv t,e=>by
  obtain⟨k,v⟩:=kv
  cases k with
  |inl i=>cases e
  |inr x=>
   have e:(strK? (kvs.map (·.1))).bind (fun t=>some (x::t))=some _:=e
   obtain⟨xs,e1,e2⟩:=Option.bind_eq_some_iff.mp e
   cases e2
   obtain⟨skv,h1,h2,h3,h4⟩:=Zmg t e1
   refine⟨(x,v)::skv,by rw[List.map_cons,h1],by rw[List.map_cons,List.map_cons,h2],by rw[List.length_cons,List.length_cons,h3],fun i p hp=>?_⟩
   cases i with
   |zero=>
    obtain rfl:(x,v)=p:=by simpa using hp
    rcases Zs (show Zd0 (.inr x) en.key=true from hi)with⟨j,t',e3,_⟩|⟨y,t',e3,e4⟩
    ·cases e3
    ·cases e3;exact⟨en,t',rfl,e4,hv⟩
   |succ i=>exact h4 i p (by simpa using hp)
theorem Zia:∀{kvs:List (Key×V)} {vs:List (Key×Value)},KV kvs vs→vs.map (·.1)=kvs.map (·.1)∧Vals (kvs.map (·.2)) (vs.map (·.2))
 |_,_,.nil=>⟨rfl,.nil⟩
 |_,_,.cons h t=>⟨by rw[List.map_cons,List.map_cons,h.1,(Zia t).1],.cons h.2 (Zia t).2⟩
section
variable{X:Cx}{pins:List (Addr×Obj)}{σ:L2.St}{F H:Hp}{s:Shared}
theorem Zfw(I:Inv X pins σ H s){a:Addr}{kvs:List (Key×V)}{xs:List Str}(ha:HK H a kvs)(e:strK? (kvs.map (·.1))=some xs):
  (a==sysModules)=false∧∃skv:List (Str×Value),Zfv s.heap a skv∧skv.map (·.1)=xs∧Vals (kvs.map (·.2)) (skv.map (·.2))∧(kvs.map (·.1)).Nodup:=by
 obtain⟨z,hd,vs,rel,dd⟩:=Zrf I.hok ha
 obtain⟨k1,k2⟩:=Zia rel
 obtain⟨o,es,ep,ho,hc,hdt,_,hp,nd⟩:=dd
 rw[←k1]at e
 obtain⟨skv,h1,h2,h3,h4⟩:=Zmg hp e
 refine⟨hd,skv,⟨o,es,ep,ho,hc,hdt,by rw[←h3];simp,fun i p hpp=>?_⟩,h1,by rw[h2];exact k2,by rw[←k1];exact nd⟩
 obtain⟨en,t,g1,g2⟩:=h4 i p hpp
 exact⟨en,t,by rw[←Array.getElem?_toList];exact g1,g2⟩
theorem Zde(x:Str):∀(skv:List (Str×Value)) (us:List D) (Us:List V),Reps X.K F us Us→Vals Us (skv.map (·.2))→match look (skv.map (·.1)) us x with
  |none=>place skv x=none
  |some u=>∃j p U,place skv x=some j∧skv[j]? =some p∧Rep X.K F u U∧RelV U p.2
 | [],_,_,r,v=>by cases v;cases r;rfl
 |p::skv,_,_,r,v=>by
  cases v with
  | @cons U u' Us us' hU tU=>
  cases r with
  | @cons d v' ds vs' h t=>
   have ih:=Zde x skv ds Us t tU
   show match(if p.1=x then some d else look (skv.map (·.1)) ds x)with
    |none=>place (p::skv) x=none
    |some u=>∃j q U,place (p::skv) x=some j∧(p::skv)[j]? =some q∧Rep X.K F u U∧RelV U q.2
   have hpl:place (p::skv) x=if p.1=x then some 0 else(place skv x).map (· +1):=by
    unfold place
    rw[List.findIdx?_cons]
    by_cases e:p.1=x<;> simp[e]
   by_cases e:p.1=x
   ·rw[if_pos e,hpl,if_pos e]
    exact⟨0,p,U,rfl,rfl,h,hU⟩
   ·rw[if_neg e,hpl,if_neg e]
    cases hl:look (skv.map (·.1)) ds x with
    |none=>rw[hl]at ih;dsimp only at ih⊢;rw[ih];rfl
    |some u=>
     rw[hl]at ih
     obtain⟨j,q,U',h1,h2,h3,h4⟩:=ih
     exact⟨j+1,q,U',by rw[h1];rfl,by simpa using h2,h3,h4⟩
theorem Zmh{A:Around}{f:D→D→Option Bool}(ih:∀d1 d2 b x y v u,Rep X.K F d1 x→RelV x v→Rep X.K F d2 y→RelV y u→f d1 d2=some b→SeqAt.EqAt A s v u b){skv2:List (Str×Value)}{us:List D}{Us:List V}(ru:Reps X.K F us Us)(vu:Vals Us (skv2.map (·.2))):
  ∀(skv:List (Str×Value)) (vs:List D) (Vs:List V) (r:Bool),Reps X.K F vs Vs→Vals Vs (skv.map (·.2))→eqKV f (skv2.map (·.1)) us (skv.map (·.1)) vs=some r→SHits A s skv2 skv r
 | [],_,_,_,r,v,e=>by cases v;cases r;cases e;exact .nil
 |p::skv,_,_,_,r,v,e=>by
  obtain⟨k,w⟩:=p
  cases v with
  | @cons V0 u' Vs us' hV tV=>
  cases r with
  | @cons d v' ds vs' h t=>
   have lp:=Zde (X:=X) (F:=F) k skv2 us Us ru vu
   have e:(match look (skv2.map (·.1)) us k with
    |none=>some false
    |some u=>(f d u).bind fun b=>(eqKV f (skv2.map (·.1)) us (skv.map (·.1)) ds).bind fun c=>some (b&&c))=some _:=e
   cases hl:look (skv2.map (·.1)) us k with
   |none=>
    rw[hl]at lp e
    cases e
    exact .miss lp
   |some u=>
    rw[hl]at lp e
    obtain⟨j,q,U,h1,h2,h3,h4⟩:=lp
    obtain⟨b,e1,e2⟩:=Option.bind_eq_some_iff.mp e
    obtain⟨c,e3,e4⟩:=Option.bind_eq_some_iff.mp e2
    cases e4
    exact .hit h1 h2 (ih _ _ _ _ _ _ _ h hV h3 h4 e1) (Zmh ih ru vu skv ds Vs c t tV e3)
end
end DL
namespace DL
open PySem PySem.Spec PyProof.Rows L2
variable{K:PySem.W.Frag}
theorem Zg5:∀(skv:List (Str×Value)),(skv.map (·.1)).Nodup→∀q∈skv,∃j,place skv q.1=some j∧skv[j]? =some q
 | [],_,_,h=>nomatch h
 |p::r,nd,q,h=>by
  obtain⟨n1,n2⟩:=List.nodup_cons.mp nd
  have hpl:place (p::r) q.1=if p.1=q.1 then some 0 else(place r q.1).map (· +1):=by
   unfold place
   rw[List.findIdx?_cons]
   by_cases e:p.1=q.1<;> simp[e]
  rcases List.mem_cons.mp h with e|e
  ·subst e;exact⟨0,by rw[hpl,if_pos rfl],rfl⟩
  ·obtain⟨j,h1,h2⟩:=Zg5 r n2 q e
   have hne:¬p.1=q.1:=fun z=>n1 (List.mem_map.mpr ⟨q,e,z.symm⟩)
   exact⟨j+1,by rw[hpl,if_neg hne,h1];rfl,by simpa using h2⟩
theorem Zja:∀{ks:List Key} {xs:List Str},strK? ks=some xs→ks=xs.map Sum.inr
 | [],_,e=>by cases e;rfl
 | .inr x::ks,_,e=>by
  obtain⟨t,e1,e2⟩:=Option.bind_eq_some_iff.mp e
  cases e2
  rw[Zja e1];rfl
 | .inl i::ks,_,e=>by cases e
theorem Zka{ks:List Key}{xs:List Str}(e:strK? ks=some xs)(nd:ks.Nodup):xs.Nodup:=by
 rw[Zja e]at nd
 have z:(xs.map Sum.inr:List Key).Pairwise (· ≠ ·):=nd
 rw[List.pairwise_map]at z
 exact z.imp fun h e=>h (by rw[e])
section
variable{X:Cx}{pins:List (Addr×Obj)}{σ:L2.St}{F H:Hp}{s:Shared}
theorem Zg6{f:D→D→Option Bool}(ih:∀(d1 d2:D) (b:Bool) (x y:V) (v:Value),Rep X.K F d1 x→RelV x v→Rep X.K F d2 y→RelV y v→f d1 d2=some b→b=true){skv:List (Str×Value)}{us:List D}{Us:List V}(ru:Reps X.K F us Us)(vu:Vals Us (skv.map (·.2))):
  ∀(skv1:List (Str×Value)) (vs:List D) (Vs:List V) (r:Bool),(∀q∈skv1,∃j,place skv q.1=some j∧skv[j]? =some q)→Reps X.K F vs Vs→Vals Vs (skv1.map (·.2))→eqKV f (skv.map (·.1)) us (skv1.map (·.1)) vs=some r→r=true
 | [],_,_,_,_,r,v,e=>by cases v;cases r;cases e;rfl
 |p::skv1,_,_,_,hs,r,v,e=>by
  obtain⟨k,w⟩:=p
  cases v with
  | @cons V0 u' Vs us' hV tV=>
  cases r with
  | @cons d v' ds vs' h t=>
   have lp:=Zde (X:=X) (F:=F) k skv us Us ru vu
   obtain⟨j,hj1,hj2⟩:=hs (k,w) List.mem_cons_self
   have e:(match look (skv.map (·.1)) us k with
    |none=>some false
    |some u=>(f d u).bind fun b=>(eqKV f (skv.map (·.1)) us (skv1.map (·.1)) ds).bind fun c=>some (b&&c))=some _:=e
   cases hl:look (skv.map (·.1)) us k with
   |none=>
    rw[hl]at lp
    rw[show place skv k=some j from hj1]at lp
    cases lp
   |some u=>
    rw[hl]at lp e
    obtain⟨j',q,U,h1,h2,h3,h4⟩:=lp
    rw[show place skv k=some j from hj1]at h1
    cases h1
    rw[hj2]at h2
    cases h2
    obtain⟨b,e1,e2⟩:=Option.bind_eq_some_iff.mp e
    obtain⟨c,e3,e4⟩:=Option.bind_eq_some_iff.mp e2
    cases e4
    rw[ih _ _ _ _ _ _ h hV h3 h4 e1,Zg6 ih ru vu skv1 ds Vs c (fun q hq=>hs q (List.mem_cons_of_mem _ hq)) t tV e3];rfl
theorem Zfx(I:Inv X pins σ H s)(le:Same F H):∀(n:Nat) (d1 d2:D) (b:Bool) (x y:V) (v:Value),Rep X.K F d1 x→RelV x v→Rep X.K F d2 y→RelV y v→eqM n d1 d2=some b→b=true
 |0,_,_,_,_,_,_,_,_,_,_,e=>by cases e
 |n+1,d1,d2,b,x,y,v,r1,v1,r2,v2,e=>by
  unfold eqM Zeg at e
  split at e
  ·cases r1 with
   | @dK a ks ds kvs ep1 h1 e1 rr1=>
   cases r2 with
   | @dK a' ks' ds' kvs' ep2 h2 e2 rr2=>
   cases v1
   cases(show Value.ref a=Value.ref a' from v2)
   rw[h1]at h2
   cases h2
   subst e1 e2
   obtain⟨xs,f1,e⟩:=Option.bind_eq_some_iff.mp e
   obtain⟨ys,f2,e⟩:=Option.bind_eq_some_iff.mp e
   rw[f1]at f2
   cases f2
   rw[if_pos rfl]at e
   obtain⟨_,skv,_,hk,hv,nd⟩:=Zfw I ⟨_,le _ _ h1⟩ f1
   have ndx:=Zka f1 nd
   rw[←hk]at e ndx
   exact Zg6 (Zfx I le n) rr2 hv skv _ _ b (Zg5 skv ndx) rr1 hv e
  ·exact Zlz I le (Zfx I le n) d1 d2 b x y v r1 v1 r2 v2 e
theorem rcM(I:Inv X pins σ H s)(le:Same F H){A:Around}{f:D→D→Option Bool}{d1 d2:D}{b:Bool}{x y:V}{v u:Value}
  (ih:∀d1 d2 b x y v u,Rep X.K F d1 x→RelV x v→Rep X.K F d2 y→RelV y u→f d1 d2=some b→SeqAt.EqAt A.in1 s v u b) (r1:RepN X.K F H d1 x) (v1:RelV x v) (r2:RepN X.K F H d2 y) (v2:RelV y u)
  (e:Zeg f d1 d2=some b) (hu:A.units<cLine) (hr:Zaa x=false∨Zaa y=false):(∃a c,v= .ref a∧u= .ref c)∧SeqAt.RcAt A s v u b∧SeqAt.RcNeAt A s v u (!b):=by
 unfold Zeg at e
 split at e
 ·obtain⟨a1,kvs1,rfl,ha1,rfl,rr1⟩:=r1.dK le
  obtain⟨a2,kvs2,rfl,ha2,rfl,rr2⟩:=r2.dK le
  cases v1;cases v2
  obtain⟨xs,f1,e⟩:=Option.bind_eq_some_iff.mp e
  obtain⟨ys,f2,e⟩:=Option.bind_eq_some_iff.mp e
  obtain⟨m1,skv1,sd1,hk1,hv1,_⟩:=Zfw I ha1 f1
  obtain⟨m2,skv2,sd2,hk2,hv2,_⟩:=Zfw I ha2 f2
  have l1:skv1.length=xs.length:=by rw[←hk1,List.length_map]
  have l2:skv2.length=ys.length:=by rw[←hk2,List.length_map]
  refine⟨⟨_,_,rfl,rfl⟩,?_⟩
  split at e
  ·rename_i hl
   rw[←hk1,←hk2]at e
   have hits:skv1.length=skv2.length→SHits A.in1 s skv2 skv1 b:=fun _=>Zmh ih rr2 hv2 skv1 _ _ b rr1 hv1 e
   have hb:b=(skv1.length==skv2.length&&b):=by rw[l1,l2,hl];simp
   rw[hb]
   exact⟨Zi9 m1 m2 sd1 sd2 hu hits,Ze4 m1 m2 sd1 sd2 hu hits⟩
  ·rename_i hl
   cases e
   have hits:skv1.length=skv2.length→SHits A.in1 s skv2 skv1 false:=fun z=>absurd (by omega) hl
   have hb:false=(skv1.length==skv2.length&&false):=by simp
   rw[hb]
   exact⟨Zi9 m1 m2 sd1 sd2 hu hits,Ze4 m1 m2 sd1 sd2 hu hits⟩
 ·exact rcN I le ih r1 v1 r2 v2 e hu hr
theorem Zg7(I:Inv X pins σ H s)(le:Same F H):∀(n:Nat) (A:Around) (d1 d2:D) (b:Bool) (x y:V) (v u:Value),A.units+n<cLine→Rep X.K F d1 x→RelV x v→Rep X.K F d2 y→RelV y u→eqM n d1 d2=some b→SeqAt.EqAt A s v u b
 |0,_,_,_,_,_,_,_,_,_,_,_,_,_,e=>by cases e
 |n+1,A,d1,d2,b,x,y,v,u,hu,r1,v1,r2,v2,e=>by
  by_cases hf:Zaa x=true∧Zaa y=true
  ·have e':eqS d1 d2=some b:=by
    unfold eqM Zeg at e
    split at e
    ·cases r1;cases hf.1
    ·unfold Zec at e
     split at e
     ·cases r1;cases hf.1
     ·cases r1;cases hf.1
     ·cases r1;cases hf.1
     ·cases r1;cases hf.1
     ·exact e
   obtain⟨f1,f2,rfl⟩:=Zfr (H:=H) e' (RepN.of r1) (RepN.of r2)
   exact Zpq v1 v2 f1 f2
  ·have hf':Zaa x=false∨Zaa y=false:=by
    cases h1:Zaa x with
    |false=>exact .inl rfl
    |true=>cases h2:Zaa y with
     |false=>exact .inr rfl
     |true=>exact absurd ⟨h1,h2⟩ hf
   obtain⟨⟨a,c,rfl,rfl⟩,h1,_⟩:=rcM I le (A:=A) (f:=eqM n) (fun d1 d2 b x y v u q1 w1 q2 w2 e=>Zg7 I le n A.in1 d1 d2 b x y v u (by have:A.in1.units=A.units+1:=rfl;omega) q1 w1 q2 w2 e) (RepN.of r1) v1 (RepN.of r2) v2 e (by omega) hf'
   by_cases hac:a=c
   ·subst hac
    rw[Zfx I le (n+1) d1 d2 b x y _ r1 v1 r2 v2 e]
    exact SeqAt.EqAt.same _
   ·exact SeqAt.EqAt.of_refs hac h1
noncomputable def rEqM(K:PySem.W.Frag)(neg:Bool):R2:=fun x y H Q=>∃F d1 d2 b,Same F H∧RepN K F H d1 x∧RepN K F H d2 y∧eqM 48 d1 d2=some b∧(Zaa x=false∨Zaa y=false)∧Q (.bl (if neg then !b else b)) H
theorem Zp8(hu:X.A.units+64<cLine):OpR X (compareOp .Eq) (rEqM X.K false):=by
 intro pins s σ H x y v u Q I rx ry h
 obtain⟨F,d1,d2,b,le,r1,r2,e,hf,q⟩:=h
 obtain⟨_,h1,_⟩:=rcM I le (A:=X.A) (f:=eqM 47) (fun d1 d2 b x y v u q1 w1 q2 w2 e=>Zg7 I le 47 X.A.in1 d1 d2 b x y v u (by have:X.A.in1.units=X.A.units+1:=rfl;omega) q1 w1 q2 w2 e) r1 rx r2 ry e (by omega) hf
 exact h1 X.prog X.w X.xe _ ⟨.bl b,H,I,rfl,q⟩
theorem Zvy(hu:X.A.units+64<cLine):OpR X (compareOp .NotEq) (rEqM X.K true):=by
 intro pins s σ H x y v u Q I rx ry h
 obtain⟨F,d1,d2,b,le,r1,r2,e,hf,q⟩:=h
 obtain⟨_,_,h1⟩:=rcM I le (A:=X.A) (f:=eqM 47) (fun d1 d2 b x y v u q1 w1 q2 w2 e=>Zg7 I le 47 X.A.in1 d1 d2 b x y v u (by have:X.A.in1.units=X.A.units+1:=rfl;omega) q1 w1 q2 w2 e) r1 rx r2 ry e (by omega) hf
 exact h1 X.prog X.w X.xe _ ⟨.bl !b,H,I,rfl,q⟩
end
end DL
namespace DL
open PySem PySem.Spec PyProof.Rows L2
variable{K:PySem.W.Frag}
@[simp] noncomputable def eqY(d1 d2:D):Option SV:=if d1.isFlat=true∧d2.isFlat=true then eqD d1 d2 else(eqM 48 d1 d2).bind fun b=>some (.fz (.bl b))
@[simp] noncomputable def neY(d1 d2:D):Option SV:=if d1.isFlat=true∧d2.isFlat=true then neD d1 d2 else(eqM 48 d1 d2).bind fun b=>some (.fz (.bl !b))
@[simp] noncomputable def inY(d1 d2:D):Option SV:=match d1,d2 with
 | .non,.dK _ _=>some (.fz (.bl false))
 |_,_=>inX d1 d2
@[simp] noncomputable def Zmi(d1 d2:D):Option SV:=match d1,d2 with
 | .non,.dK _ _=>some (.fz (.bl true))
 |_,_=>Zl9 d1 d2
section
variable{Z:Ent K}
theorem Zmj{F H:Hp}{d1 d2:D}{x y:V}(r1:RepN K F H d1 x)(r2:RepN K F H d2 y)(hf:¬(d1.isFlat=true∧d2.isFlat=true)):Zaa x=false∨Zaa y=false:=by
 cases h1:d1.isFlat with
 |false=>exact .inl (Ze0 r1 h1)
 |true=>cases h2:d2.isFlat with
  |false=>exact .inr (Ze0 r2 h2)
  |true=>exact absurd ⟨h1,h2⟩ hf
theorem Zvz:Zae Z (fun x y H Q=>rEq x y H Q∨rEqM K false x y H Q) eqY:=by
 intro F H σ δ own x y d1 d2 sv Q s r1 r2 e k
 unfold eqY at e
 split at e
 ·exact .inl (p_eq F H σ δ own x y d1 d2 sv Q s r1 r2 e k)
 ·rename_i hf
  obtain⟨b,e1,e2⟩:=Option.bind_eq_some_iff.mp e
  cases e2
  exact .inr ⟨F,d1,d2,b,s.le,r1,r2,e1,Zmj r1 r2 hf,k.fz s (.bl _)⟩
theorem Zy2:Zae Z (fun x y H Q=>rNe x y H Q∨rEqM K true x y H Q) neY:=by
 intro F H σ δ own x y d1 d2 sv Q s r1 r2 e k
 unfold neY at e
 split at e
 ·exact .inl (p_ne F H σ δ own x y d1 d2 sv Q s r1 r2 e k)
 ·rename_i hf
  obtain⟨b,e1,e2⟩:=Option.bind_eq_some_iff.mp e
  cases e2
  exact .inr ⟨F,d1,d2,b,s.le,r1,r2,e1,Zmj r1 r2 hf,k.fz s (.bl _)⟩
theorem Zy3:Zae Z (fun x y H Q=>((∃i j,x= .str i∧y= .str j∧Q (.bl (!(Builtin.Str.occurrences j i 0 j.length 1).isEmpty)) H)∨rDIn x y H Q)∨Ze2 false x y H Q) inY:=by
 intro F H σ δ own x y d1 d2 sv Q s r1 r2 e k
 unfold inY at e
 split at e
 ·cases e
  obtain⟨a,kvs,rfl,ha,_,_⟩:=r2.dK s.le
  exact .inr ⟨a,kvs,r1.non,rfl,ha.rd,k.fz s (.bl _)⟩
 ·exact .inl (Zyy F H σ δ own x y d1 d2 sv Q s r1 r2 e k)
theorem Zoz:Zae Z (fun x y H Q=>((∃i j,x= .str i∧y= .str j∧Q (.bl (!(!(Builtin.Str.occurrences j i 0 j.length 1).isEmpty))) H)∨Zee x y H Q)∨Ze2 true x y H Q) Zmi:=by
 intro F H σ δ own x y d1 d2 sv Q s r1 r2 e k
 unfold Zmi at e
 split at e
 ·cases e
  obtain⟨a,kvs,rfl,ha,_,_⟩:=r2.dK s.le
  exact .inr ⟨a,kvs,r1.non,rfl,ha.rd,k.fz s (.bl _)⟩
 ·exact .inl (Zov F H σ δ own x y d1 d2 sv Q s r1 r2 e k)
end
section
variable{X:Cx}{Z:Ent X.K}{a b c:Expr}{fa fb fc:FE}{pos:Pos}
theorem Zy4(hv:X.A.units+64<cLine)(ha:PE X a (Ze Z fa))(hb:PE X b (Ze Z fb)):PE X (.Compare a [.Eq] [b] pos) (Ze Z (binF eqY fa fb)):=Zok (Zue.or (Zp8 hv)) Zvz ha hb (Zci _)
theorem Zo0(hv:X.A.units+64<cLine)(ha:PE X a (Ze Z fa))(hb:PE X b (Ze Z fb)):PT X (.Compare a [.Eq] [b] pos) (Z5 Z (Zy (binF eqY fa fb))):=Zgw (Zue.or (Zp8 hv)) Zvz ha hb (Zci _)
theorem Zmk(hv:X.A.units+64<cLine)(ha:PE X a (Ze Z fa))(hb:PE X b (Ze Z fb)):PT X (.Compare a [.NotEq] [b] pos) (Z5 Z (Zy (binF neY fa fb))):=Zgw (Zxu.or (Zvy hv)) Zy2 ha hb (Zci _)
end
end DL
namespace DL
open PySem PySem.Spec PyProof.Rows L2
variable{K:PySem.W.Frag}
section
variable{Z:Ent K}{H:Hp}{σ:L2.St}{Q:VK}{E:Ends}
@[simp] noncomputable def Z2b:FE:=fun δ=>some (.tmp (.oN [] []),δ)
@[simp] noncomputable def Z2c(i j:Nat):FS:=fun δ=>match δ[i]?,δ[j]? with
 |some (some (.oN ks xss)),some (some (.fz kd))=>kd.key?.bind fun k=>if(ks.any fun x=>decide (x=k))=false∧xss.length<PySem.sizeLine then some (.nx (δ.set i (some (.oN (ks++[k]) (xss++[[]])))))else none
 |_,_=>none
end
@[simp] noncomputable def Zp9:List Key→Key→Option Nat
 | [],_=>none
 |a::r,k=>if a=k then some 0 else(Zp9 r k).map (· +1)
section
variable{Z:Ent K}{H:Hp}{σ:L2.St}{Q:VK}{E:Ends}
@[simp] noncomputable def Z2d(i j:Nat)(fe:FE):FS:=fun δ=>match δ[i]?,δ[j]? with
 |some (some (.oN ks _)),some (some (.fz kd))=>kd.key?.bind fun k=>(Zp9 ks k).bind fun p=>(fe δ).bind fun q=>(frz q.1 q.2).bind fun r=>match r.2[i]? with
  |some (some (.oN ks' xss))=>if ks'=ks then(xss[p]?).bind fun xs=>if xs.length<PySem.sizeLine then some (.nx (r.2.set i (some (.oN ks (xss.set p (xs++[r.1]))))))else none else none
  |_=>none
 |_,_=>none
end
end DL
namespace DL
open PySem PySem.Spec PyProof.Rows L2
variable{K:PySem.W.Frag}
section
variable{Z:Ent K}{H:Hp}{σ:L2.St}{E:Ends}
@[simp] noncomputable def retZ(fe:FE):FS:=fun δ=>(fe δ).bind fun p=>(frz p.1 p.2).bind fun q=>some (.rt (.fz q.1))
end
section
variable{X:Cx}{Z:Ent X.K}{a b c:Expr}{fa fb fc:FE}{pos:Pos}
end
end DL
namespace L2
open PySem PySem.Spec PyProof.Rows
variable{X:Cx}
noncomputable def Zy5(K:PySem.W.Frag):V→List V→Hp→VK→Prop:=fun x xs H Q=>∃p ys y j,x= .ref p∧xs=[y]∧SqL K H p ys∧Zaa y=true∧ys.all Zaa=true∧(ys.findIdx? fun z=>eqV z y)=some j∧Q (.int (j:Nat)) H
noncomputable def Zy6:V→List V→Hp→VK→Prop:=fun x xs H Q=>∃a b i rest,x= .str a∧xs=[.str b]∧Builtin.Str.occurrences a b 0 a.length 1=i::rest∧Q (.int (i:Nat)) H
noncomputable def Zy7:V→List V→Hp→VK→Prop:=fun x xs H Q=>∃a b,x= .str a∧xs=[.str b]∧a.length≤sizeLine∧Q (.str (Txt.rstripChars a b)) H
noncomputable def Zv0:R2:=fun x y H Q=>∃a k,x= .str a∧y= .int k∧MulOk a k∧Q (.str (Txt.mul a k)) H
theorem Zsf:OpR X (binaryOp .Mult) Zv0:=by
 intro pins s σ H x y v u Q I rx ry h
 obtain⟨a,k,rfl,rfl,hm,q⟩:=h
 obtain⟨t,rfl⟩:=rx
 obtain⟨t',rfl⟩:=ry
 exact SB.mul hm fun t' k=>⟨.str _,H,I.tok _,⟨_,rfl⟩,q⟩
end L2
namespace DL
open PySem PySem.Spec PyProof.Rows L2
variable{K:PySem.W.Frag}
@[simp] noncomputable def D.fv:D→V
 | .bl b=>.bl b
 | .int i=>.int i
 | .str x=>.str x
 |_=>.non
theorem Zsg{F H:Hp}{d:D}{x:V}(r:RepN K F H d x)(h:d.isFlat=true):x=d.fv∧Zaa x=true:=by
 cases d with
 |non=>rw[r.non];exact⟨rfl,rfl⟩
 |bl b=>rw[r.bl];exact⟨rfl,rfl⟩
 |int i=>rw[r.int];exact⟨rfl,rfl⟩
 |str y=>rw[r.str];exact⟨rfl,rfl⟩
 |_=>cases h
theorem Zml{F:Hp}:∀{ds:List D} {vs:List V},Reps K F ds vs→ds.all D.isFlat=true→vs=ds.map D.fv∧vs.all Zaa=true
 |_,_,.nil,_=>⟨rfl,rfl⟩
 |_,_,.cons h t,e=>by
  rw[List.all_cons,Bool.and_eq_true]at e
  obtain⟨a1,a2⟩:=Zsg (H:=F) (RepN.of h) e.1
  obtain⟨b1,b2⟩:=Zml t e.2
  refine⟨by rw[List.map_cons,←a1,←b1],by rw[List.all_cons,a2,b2];rfl⟩
noncomputable def eqFl(y x:D):Bool:=eqV y.fv x.fv
@[simp] theorem Zo1(a b:Str):eqFl (.str a) (.str b)=decide (a=b):=by
 show(a==b)=decide (a=b)
 by_cases h:a=b
 ·subst h;simp
 ·rw[decide_eq_false h];exact beq_eq_false_iff_ne.mpr h
@[simp] theorem Zy8(a b:Bool):eqFl (.bl a) (.bl b)=decide (a=b):=by cases a<;> cases b<;> rfl
@[simp] theorem Zxd:eqFl .non .non=true:=rfl
@[simp] theorem Zy9(a:Str):eqFl (.str a) .non=false:=rfl
noncomputable def inFl(x:D)(xs:List D):Bool:=xs.any fun y=>eqFl y x
theorem Zmm{d:D}{ds:List D}:inV d.fv (ds.map D.fv)=inFl d ds:=by
 unfold inV inFl
 rw[List.any_map];rfl
noncomputable def D.seq?:D→Option (List D)
 | .lst xs=>some xs
 | .tup xs=>some xs
 |_=>none
@[simp] theorem Zza(xs:List D):D.seq? (.lst xs)=some xs:=rfl
@[simp] theorem Zzb(xs:List D):D.seq? (.tup xs)=some xs:=rfl
@[simp] theorem Zzc(x:Str):D.seq? (.str x)=none:=rfl
@[simp] theorem Z0y(ks:List Key)(vs:List D):D.seq? (.dK ks vs)=none:=rfl
@[simp] theorem Z0z(ks:List (List Key))(vs:List D):D.seq? (.dT ks vs)=none:=rfl
@[simp] noncomputable def inZ(d1 d2:D):Option SV:=match d2.seq? with
 |some xs=>if d1.isFlat=true∧xs.all D.isFlat=true then some (.fz (.bl (inFl d1 xs)))else none
 |none=>inY d1 d2
@[simp] noncomputable def Ze5(d1 d2:D):Option SV:=match d2.seq? with
 |some xs=>if d1.isFlat=true∧xs.all D.isFlat=true then some (.fz (.bl (!inFl d1 xs)))else none
 |none=>Zmi d1 d2
section
variable{Z:Ent K}{H:Hp}{σ:L2.St}{Q:VK}{E:Ends}
theorem Zqa{F:Hp}{d:D}{x:V}{xs:List D}(le:Same F H)(r:RepN K F H d x)(h:d.seq? =some xs):∃a vs,x= .ref a∧(SqL K H a vs∨SqT K H a vs)∧Reps K F xs vs:=by
 cases d with
 |lst ys=>cases h;obtain⟨a,vs,e,q,rr⟩:=r.lst le;exact⟨a,vs,e,.inl q,rr⟩
 |tup ys=>cases h;obtain⟨a,vs,e,q,rr⟩:=r.tup le;exact⟨a,vs,e,.inr q,rr⟩
 |_=>cases h
theorem Zzd:Zae Z (fun x y H Q=>(((∃i j,x= .str i∧y= .str j∧Q (.bl (!(Builtin.Str.occurrences j i 0 j.length 1).isEmpty)) H)∨rDIn x y H Q)∨Ze2 false x y H Q)∨rIn K false x y H Q) inZ:=by
 intro F H σ δ own x y d1 d2 sv Q s r1 r2 e k
 unfold inZ at e
 split at e
 ·rename_i xs hx
  split at e
  ·rename_i hf
   cases e
   obtain⟨a,vs,rfl,hq,rr⟩:=Zqa s.le r2 hx
   obtain⟨e1,f1⟩:=Zsg r1 hf.1
   obtain⟨e2,f2⟩:=Zml rr hf.2
   refine .inr ⟨a,vs,rfl,hq,f1,f2,?_⟩
   rw[e1,e2,Zmm]
   exact k.fz s (.bl _)
  ·cases e
 ·exact .inl (Zy3 F H σ δ own x y d1 d2 sv Q s r1 r2 e k)
theorem Zo2:Zae Z (fun x y H Q=>(((∃i j,x= .str i∧y= .str j∧Q (.bl (!(!(Builtin.Str.occurrences j i 0 j.length 1).isEmpty))) H)∨Zee x y H Q)∨Ze2 true x y H Q)∨rIn K true x y H Q) Ze5:=by
 intro F H σ δ own x y d1 d2 sv Q s r1 r2 e k
 unfold Ze5 at e
 split at e
 ·rename_i xs hx
  split at e
  ·rename_i hf
   cases e
   obtain⟨a,vs,rfl,hq,rr⟩:=Zqa s.le r2 hx
   obtain⟨e1,f1⟩:=Zsg r1 hf.1
   obtain⟨e2,f2⟩:=Zml rr hf.2
   refine .inr ⟨a,vs,rfl,hq,f1,f2,?_⟩
   rw[e1,e2,Zmm]
   exact k.fz s (.bl _)
  ·cases e
 ·exact .inl (Zoz F H σ δ own x y d1 d2 sv Q s r1 r2 e k)
@[simp] noncomputable def Z00:List D→Option SV
 | [.lst xs,x]=>if x.isFlat=true∧xs.all D.isFlat=true then(xs.findIdx? fun y=>eqFl y x).bind fun j=>some (.fz (.int (j:Nat)))else none
 |_=>none
@[simp] noncomputable def Zze:List D→Option SV
 | [.str a,.str b]=>match Builtin.Str.occurrences a b 0 a.length 1 with
  |i::_=>some (.fz (.int (i:Nat)))
  | []=>none
 |_=>none
@[simp] noncomputable def Zzf:List D→Option SV
 | [.str a,.str b]=>if a.length≤PySem.sizeLine then some (.fz (.str (Txt.rstripChars a b)))else none
 |_=>none
open Classical in
noncomputable def mulS(a:Str)(k:Int):Option SV:=if MulOk a k then some (.fz (.str (Txt.mul a k)))else none
theorem Zsh{a:Str}{k:Int}{sv:SV}(h:mulS a k=some sv):MulOk a k∧sv= .fz (.str (Txt.mul a k)):=by
 unfold mulS at h
 split at h
 ·rename_i hm;cases h;exact⟨hm,rfl⟩
 ·cases h
noncomputable def Zo3(i j:Int):Prop:=cMul i j=true
open Classical in
noncomputable def mulI(i j:Int):Option SV:=if Zo3 i j then some (.fz (.int (i*j)))else none
theorem Zsi{i j:Int}{sv:SV}(h:mulI i j=some sv):mulD (.int i) (.int j)=some sv:=by
 unfold mulI at h
 split at h
 ·rename_i hc
  cases h
  unfold Zo3 at hc
  simp[hc]
 ·cases h
theorem Zqb{i j:Int}(h:-(2^64)<j∧j<2^64):mulI i j=some (.fz (.int (i*j))):=by
 unfold mulI
 rw[if_pos]
 unfold Zo3 cMul
 rw[decide_eq_true h.1,decide_eq_true h.2];simp
theorem Zv1{i j:Int}(h:-(2^64)<i∧i<2^64):mulI i j=some (.fz (.int (i*j))):=by
 unfold mulI
 rw[if_pos]
 unfold Zo3 cMul
 rw[decide_eq_true h.1,decide_eq_true h.2];simp
noncomputable def mulZ:D→D→Option SV
 | .str a,.int k=>mulS a k
 | .int i,.int j=>mulI i j
 |_,_=>none
@[simp] theorem Zzg(a:Str)(k:Int):mulZ (.str a) (.int k)=mulS a k:=rfl
@[simp] theorem Zzh(i j:Int):mulZ (.int i) (.int j)=mulI i j:=rfl
theorem Zv2:Zae Z (fun x y H Q=>rI CMul (fun i j=>V.int (i*j)) x y H Q∨Zv0 x y H Q) mulZ:=by
 intro F H σ δ own x y d1 d2 sv Q s r1 r2 e k
 unfold mulZ at e
 split at e
 ·obtain⟨hm,rfl⟩:=Zsh e
  exact .inr ⟨_,_,r1.str,r2.int,hm,k.fz s (.str _)⟩
 ·exact .inl (Zyk F H σ δ own x y _ _ sv Q s r1 r2 (Zsi e) k)
 ·cases e
@[simp] noncomputable def strD:List D→Option SV
 | [.int i]=>if i.natAbs.log2<1920 then some (.fz (.str (toString i)))else none
 |_=>none
@[simp] noncomputable def Zzi(kd d:D):Option (Option SV)→Option SV
 |some (some (.ol xs))=>match kd with
  | .int i=>(ixN xs.length i).bind fun j=>some (.ol (xs.set j d))
  |_=>none
 |_=>none
@[simp] noncomputable def SV.isOL:Option (Option SV)→Bool
 |some (some (.ol _))=>true
 |_=>false
@[simp] noncomputable def Z2e(i:Nat)(fk fv:FE):FS:=fun δ=>(fv δ).bind fun p=>(frz p.1 p.2).bind fun q=>if SV.isOL (q.2[i]?)=true then(fk q.2).bind fun r=>(rdv r.1 r.2).bind fun kd=>(Zzi kd q.1 (r.2[i]?)).bind fun sv=>some (.nx (r.2.set i (some sv)))else none
@[simp] noncomputable def SV.ol?:RV→Option (List D)
 | .tmp (.ol ys)=>some ys
 |_=>none
@[simp] noncomputable def extF(i:Nat)(fe:FE):FS:=fun δ=>match δ[i]? with
 |some (some (.ol _))=>(fe δ).bind fun p=>(SV.ol? p.1).bind fun ys=>match p.2[i]? with
  |some (some (.ol xs))=>if xs.length+ys.length≤PySem.sizeLine then some (.nx (p.2.set i (some (.ol (xs++ys)))))else none
  |_=>none
 |_=>none
end
section
variable{X:Cx}{Z:Ent X.K}{a b c:Expr}{fa fb fc:FE}{pos:Pos}
theorem Zo4(hu:X.A.units+1<cLine)(ha:PE X a (Ze Z fa))(hb:PE X b (Ze Z fb))(hm:behindInMarks .In b=false:=by rfl):PT X (.Compare a [.In] [b] pos) (Z5 Z (Zy (binF inZ fa fb))):=Zgw (((Zk4.or (Zj8 hu)).or Zme).or Zle) Zzd ha hb hm
theorem Zfy(hu:X.A.units+1<cLine)(ha:PE X a (Ze Z fa))(hb:PE X b (Ze Z fb))(hm:behindInMarks .NotIn b=false:=by rfl):PT X (.Compare a [.NotIn] [b] pos) (Z5 Z (Zy (binF Ze5 fa fb))):=Zgw (((Zgh.or (Zft hu)).or Zg4).or Zgg) Zo2 ha hb hm
theorem Zmn(ha:PE X a (Ze Z fa))(hb:PE X b (Ze Z fb)):PE X (.BinOp a .Mult b pos) (Ze Z (binF mulZ fa fb)):=Zlt (Zub.or Zsf) Zv2 ha hb
end
end DL
namespace DL
open PySem PySem.Spec PyProof.Rows L2
end DL
namespace DL
open PySem PySem.Spec PyProof.Rows L2
variable{K:PySem.W.Frag}
section
variable{Z:Ent K}{H:Hp}{σ:L2.St}{Q:Bool→Hp→Prop}
@[simp] noncomputable def Z2f(f:FT):FT:=fun δ=>(f δ).bind fun p=>some (p.1,δ)
end
section
variable{X:Cx}{Z:Ent X.K}{a:Expr}{ft:FT}
end
end DL
namespace DL
open PySem PySem.Spec PyProof.Rows L2
variable{K:PySem.W.Frag}
noncomputable def repP(n:Nat)(k:Int):Prop:=-(2^63)≤k∧k<2^63∧n*k.toNat≤PySem.sizeLine
section
variable{Z:Ent K}{H:Hp}{σ:L2.St}{Q:VK}
open Classical in
noncomputable def repI(xs:List D):D→Option SV
 | .int k=>if repP xs.length k then some (.ol (List.replicate k.toNat xs).flatten)else none
 |_=>none
@[simp] theorem Zxe{xs:List D}{k:Int}(h:repP xs.length k):repI xs (.int k)=some (.ol (List.replicate k.toNat xs).flatten):=by
 unfold repI;dsimp only;rw[if_pos h]
@[simp] noncomputable def repF(fa fb:FE):FE:=fun δ=>(fa δ).bind fun p=>(SV.ol? p.1).bind fun xs=>(fb p.2).bind fun q=>(rdv q.1 q.2).bind fun d=>(repI xs d).bind fun sv=>some (.tmp sv,q.2)
end
section
variable{X:Cx}{Z:Ent X.K}{a b:Expr}{fa fb:FE}{pos:Pos}
end
end DL
namespace DL
open PySem PySem.Spec PyProof.Rows L2
variable{K:PySem.W.Frag}
section
variable{Z:Ent K}
@[simp] noncomputable def slT:D→Option Int→Option Int→Option SV
 | .tup xs,lo,hi=>if¬(HT.sIx xs.length 0 lo=0∧HT.sIx xs.length xs.length hi=xs.length)then some (.fz (.tup (cutD xs lo hi)))else none
 |_,_,_=>none
end
section
variable{X:Cx}{Z:Ent X.K}{a:Expr}{fa:FE}{pos:Pos}
end
end DL
namespace DL
open PySem L2
variable{K:PySem.W.Frag}
inductive RX where
 |v (rv:RV) (δ:DSt)|x (e:Exn) (δ:DSt)
inductive RL(α:Type)where
 |v (xs:List α) (δ:DSt)|x (e:Exn) (δ:DSt)
noncomputable abbrev FX:=DSt→Option RX
noncomputable abbrev FAX:=DSt→Option (RL RV)
noncomputable abbrev FDX:=DSt→Option (RL D)
noncomputable def XOk(Z:Ent K)(F:Hp)(σ:St)(e:Exn)(δ:DSt):Prop:=∀H' F' own' cls od,Same F F'→SR Z F' H' σ δ own'→Ziw K F' e cls od→Z.x cls od σ H'
noncomputable def Zzj(Z:Ent K)(f:FX):TE:=fun σ H Q=>∃F δ own r,SR Z F H σ δ own∧f δ=some r∧match r with
 | .v rv δ'=>∀v H' F' own',Same H H'→Same F F'→SR Z F' H' σ δ' own'→Zj0 Z F' H' σ own' rv v→Q v H'
 | .x e δ'=>XOk Z F σ e δ'
noncomputable def Z01(Z:Ent K)(f:FAX):TA:=fun σ H Q=>∃F δ own r,SR Z F H σ δ own∧f δ=some r∧match r with
 | .v rvs δ'=>∀vs H' F' own',Same H H'→Same F F'→SR Z F' H' σ δ' own'→RVSs K F' σ rvs vs→Q vs H'
 | .x e δ'=>XOk Z F σ e δ'
noncomputable def Z02(Z:Ent K)(f:FDX):TA:=fun σ H Q=>∃F δ own r,SR Z F H σ δ own∧f δ=some r∧match r with
 | .v ds δ'=>∀vs H' F' own',Same H H'→Same F F'→SR Z F' H' σ δ' own'→Reps K F' ds vs→Q vs H'
 | .x e δ'=>XOk Z F σ e δ'
@[simp] noncomputable def FX.val(f:FX):FE:=fun δ=>match f δ with
 |some (.v rv δ')=>some (rv,δ')
 |_=>none
section
variable{Z:Ent K}{H:Hp}{σ:St}{Q:VK}{E:Ends}
@[simp] noncomputable def Z2g(fe:FE):FX:=fun δ=>(fe δ).bind fun p=>some (.v p.1 p.2)
@[simp] noncomputable def Zzk:FAX:=fun δ=>some (.v [] δ)
@[simp] noncomputable def Zxf(fx:FX)(fa:FAX):FAX:=fun δ=>(fx δ).bind fun
 | .v rv δ1=>(fa δ1).bind fun
  | .v rvs δ2=>some (.v (rv::rvs) δ2)
  | .x e δ2=>some (.x e δ2)
 | .x e δ1=>some (.x e δ1)
@[simp] noncomputable def Zxg:FDX:=fun δ=>some (.v [] δ)
@[simp] noncomputable def Zv3(fx:FX)(fd:FDX):FDX:=fun δ=>(fx δ).bind fun
 | .v rv δ1=>(frz rv δ1).bind fun q=>(fd q.2).bind fun
  | .v ds δ2=>some (.v (q.1::ds) δ2)
  | .x e δ2=>some (.x e δ2)
 | .x e δ1=>some (.x e δ1)
@[simp] noncomputable def tupX(fd:FDX):FX:=fun δ=>(fd δ).bind fun
 | .v ds δ1=>if ds.length≤PySem.sizeLine then some (.v (.tmp (.fz (.tup ds))) δ1)else none
 | .x e δ1=>some (.x e δ1)
@[simp] noncomputable def Z2h(g:List D→Option SV)(fa:FAX):FX:=fun δ=>(fa δ).bind fun
 | .v rvs δ1=>(Zb3 rvs δ1).bind fun ds=>(g ds).bind fun sv=>some (.v (.tmp sv) δ1)
 | .x e δ1=>some (.x e δ1)
@[simp] noncomputable def binX(g:D→D→Option SV)(fa fb:FX):FX:=fun δ=>(fa δ).bind fun
 | .x e δ1=>some (.x e δ1)
 | .v r1 δ1=>(fb δ1).bind fun
  | .x e δ2=>some (.x e δ2)
  | .v r2 δ2=>(rdv r1 δ2).bind fun d1=>(rdv r2 δ2).bind fun d2=>(g d1 d2).bind fun sv=>some (.v (.tmp sv) δ2)
end
inductive XO where
 |v (sv:SV)|x (e:Exn)
noncomputable def spX(K:PySem.W.Frag)(n:Nat)(g:List D→Option XO):Sp:=fun vs H Q E=>∃F ds o,Same F H∧Reps K F ds vs∧ds.length=n∧g ds=some o∧match o with
 | .v sv=>∀v H' F' ns,Same H H'→Same F F'→Same F' H'→(∀(b:Addr) (o:HO),F' b=some o→F b=some o∨H b=none)→Shape K F' sv v ns→(adr ns).Nodup→(∀p∈ns,F' p.1=none∧H p.1=none∧H' p.1=some p.2)→Q v H'
 | .x e=>∀cls od H' F',Same H H'→Same F F'→Same F' H'→(∀(b:Addr) (o:HO),F' b=some o→F b=some o∨H b=none)→Ziw K F' e cls od→E cls od H'
@[simp] noncomputable def outX(f:FS)(n:Nat)(ds:List D):Option XO:=match f (Zgs n ds)with
 |some (.rt sv)=>some (.v sv)
 |some (.nx _)=>some (.v (.fz .non))
 |some (.ex e _)=>some (.x e)
 |_=>none
@[simp] noncomputable def valG(h:List D→Option XO)(ds:List D):Option SV:=match h ds with
 |some (.v sv)=>some sv
 |_=>none
noncomputable abbrev entX(H F:Hp)(E:XK):Ent K:=⟨H,F,fun cls od _ H'=>E cls od H'⟩
section
variable{Z:Ent K}{H:Hp}{σ:St}{Q:VK}{E:Ends}
@[simp] noncomputable def Z2i(n:Nat)(g:List D→Option XO)(fa:FAX):FX:=fun δ=>(fa δ).bind fun
 | .x e δ1=>some (.x e δ1)
 | .v rvs δ1=>(DL.frzAll rvs δ1).bind fun q=>if q.1.length=n then(g q.1).bind (fun
  | .v sv=>some (.v (.tmp sv) (if sv.scal then δ1 else q.2))
  | .x e=>some (.x e q.2))else none
@[simp] noncomputable def Z03(g:List D→Option SV)(ds:List D):Option XO:=(g ds).bind fun sv=>some (.v sv)
@[simp] noncomputable def setX(i:Nat)(fx:FX):FS:=fun δ=>(fx δ).bind fun
 | .v rv δ1=>(stow i rv δ1).bind fun δ'=>some (.nx δ')
 | .x e δ1=>some (.ex e δ1)
@[simp] noncomputable def retX(fx:FX):FS:=fun δ=>(fx δ).bind fun
 | .v rv δ1=>(outF rv δ1).bind fun sv=>some (.rt sv)
 | .x e δ1=>some (.ex e δ1)
@[simp] noncomputable def Z2j(fx:FX):FS:=fun δ=>(fx δ).bind fun
 | .v _ δ1=>some (.nx δ1)
 | .x e δ1=>some (.ex e δ1)
@[simp] noncomputable def appX(i:Nat)(fx:FX):FS:=fun δ=>match fx δ with
 |some (.x e δ1)=>(match δ[i]? with
  |some (some (.ol _))=>some (.ex e δ1)
  |_=>none)
 |_=>appF i fx.val δ
@[simp] noncomputable def extX(i:Nat)(fx:FX):FS:=fun δ=>match fx δ with
 |some (.x e δ1)=>(match δ[i]? with
  |some (some (.ol _))=>some (.ex e δ1)
  |_=>none)
 |_=>extF i fx.val δ
@[simp] noncomputable def Z04(c:Str):FS:=fun δ=>some (.ex ⟨c,[],[]⟩ δ)
set_option genInjectivity false in
structure HX where
 x:Str
 np:Pos
 nm:Option (Str×Nat)
 b0:Stmt
 suite:List Stmt
 pos:Pos
 B:Addr
 yes:List Str
 no:List Str
 f:FS
set_option genInjectivity false in
structure HX.Sub(K:PySem.W.Frag)(h:HX):Prop where
 yes:∀c∈h.yes,∀C,Zhy K c C→PySem.W.mroIn K C (.ref h.B)=some true
 no:∀c∈h.no,∀C,Zhy K c C→PySem.W.mroIn K C (.ref h.B)=some false
noncomputable def HX.hd(Z:Ent K)(h:HX):Hd:=⟨h.x,h.np,h.nm,h.b0,h.suite,h.pos,h.B,Z2 Z h.f⟩
set_option genInjectivity false in
structure HF where
 i:Option Nat
 yes:List Str
 no:List Str
 f:FS
@[simp] noncomputable def HX.hf(h:HX):HF:=⟨h.nm.map (·.2),h.yes,h.no,h.f⟩
@[simp] noncomputable def Zv4(c:Str):List HF→Option HF
 | []=>none
 |h::r=>if c∈h.yes then some h else if c∈h.no then Zv4 c r else none
@[simp] noncomputable def Fl.but(i:Nat):Fl→Fl
 | .nx δ=>.nx (δ.set i none)
 | .bk δ=>.bk (δ.set i none)
 | .ct δ=>.ct (δ.set i none)
 | .ex e δ=>.ex e (δ.set i none)
 | .rt sv=>.rt sv
@[simp] noncomputable def Fl.isEx:Fl→Bool
 | .ex _ _=>true
 |_=>false
@[simp] noncomputable def HF.run(h:HF)(x:Exn)(δ:DSt):Option Fl:=match h.i with
 |none=>h.f δ
 |some i=>if i<δ.length then(h.f (δ.set i (some (.fz (.exc x.c x.ks x.vs))))).bind fun fl=>if fl.isEx=true then none else some (fl.but i)else none
@[simp] noncomputable def tryF(fb:FS)(hs:List HF):FS:=fun δ=>(fb δ).bind fun
 | .ex x δ1=>(Zv4 x.c hs).bind fun h=>h.run x δ1
 |fl=>some fl
noncomputable abbrev Ent.wish(Z:Ent K)(EX:EXT):Ent K:=⟨Z.h,Z.f,EX⟩
end
end DL
namespace DL
open PySem PySem.Spec PyProof.Rows L2
section
variable{X:Cx}{Z:Ent X.K}{a b c:Expr}{fa fb:FE}{fx fy:FX}{pos:Pos}
@[simp] noncomputable def isxD(yes no:List Str):D→Option SV
 | .exc c _ _=>if c∈yes then some (.fz (.bl true))else if c∈no then some (.fz (.bl false))else none
 |_=>none
noncomputable def Kn(K:PySem.W.Frag)(r:Addr→Bool→Prop)(yes no:List Str):Prop:=(∀c∈yes,∀C,Zhy K c C→ExcKit K C∧r C true)∧∀c∈no,∀C,Zhy K c C→ExcKit K C∧r C false
noncomputable def Z05(Bs:List Addr):TA:=fun _ H R=>R (Bs.map V.ref) H
end
end DL
namespace DL
open PySem PySem.Spec PyProof.Rows L2
section
variable{X:Cx}{pins:List (Addr×Obj)}{σ:L2.St}{H:Hp}{s:Shared}
theorem Inv.trackO{a:Addr}{o:HO}(I:Inv X pins σ H s)(e0:X.s₀.heap.get? a=none)(eH:H a=none)(le:a≠X.env.locals)(ce:∀x c,X.env.cells.lookup x=some c→c≠a)(pe:∀p∈X.pn++pins,p.1≠a)(new:Zaj X.prog X.w (upd H a o) s.heap a o):Inv X pins σ (upd H a o) s:=by
 refine⟨I.ok,I.os,I.bare,⟨I.base.keep,I.base.slot,fun b o q n hx=>?_,I.base.there,fun b xs q=>?_,fun b o u q=>?_,fun b ps q=>?_⟩,I.loc,I.cell,?_,fun x c ec=>?_,fun p hp=>?_,fun b u q=>?_,I.len⟩
 ·rw[Zm (fun z=>by rw[z,e0]at q;cases q)];exact I.base.free b o q n hx
 ·have:=I.base.tups b xs q
  rw[Zm (fun z=>by rw[z,eH]at this;cases this)];exact this
 ·have:=I.base.frzs b o u q
  rw[Zm (fun z=>by rw[z,eH]at this;cases this)];exact this
 ·obtain⟨m,this⟩:=I.base.tbls b ps q
  exact⟨m,by rw[Zm (fun z=>by rw[z,eH]at this;cases this)];exact this⟩
 ·rw[Zm (Ne.symm le)];exact I.free
 ·rw[Zm (ce x c ec)];exact I.freeC x c ec
 ·obtain⟨q,n,r⟩:=I.pin p hp
  exact⟨q,by rw[Zm (pe p hp)];exact n,r⟩
 ·by_cases hb:b=a
  ·subst hb
   rw[Zu]at q;cases q
   exact new
  ·rw[Zm hb]at q
   exact(I.hok b u q).stay (fun c v _ z=>z) (fun c z=>by rw[Zm (fun y=>by rw[y,eH]at z;cases z)];exact z) (fun c xs z=>by rw[Zm (fun y=>by rw[y,eH]at z;cases z)];exact z) fun c o z=>by rw[Zm (fun y=>by rw[y,eH]at z;cases z)];exact z
noncomputable def Zqc(trs:List (TE×TE)):TE:=fun σ H Q=>Zgo trs σ H fun ps H2=>∃kvs:List (Key×V),ps=kvs.map (fun kv=>(kV kv.1,kv.2))∧kvs.length≤15∧∀p ep,H2 p=none→Q (.ref p) (upd H2 p (.dK (Zcv [] kvs) ep))
theorem Zo5{pos:Pos}{keys:List (Option Expr)}{values:List Expr}{trs:List (TE×TE)}(h:PPs X pos keys values trs)(hall:keys.all (·.isSome)=true)(hl:keys.length=values.length)(h0:keys≠[])
  (h15:keys.length≤15):PE X (.Dict keys values pos) (Zqc trs):=by
 intro pins s σ H Q I q
 have hn:=I.hok.fresh (Nat.le_refl s.heap.objs.size)
 have I0:=I.kept (h':=s.heap.push {cls:=.type "dict",data:=.dict #[]}) (t':=s.toks) (fun _ _ q=>Heap.get?_push_of_some _ q)
 have hob:(s.heap.push {cls:=.type "dict",data:=.dict #[]}).get? s.heap.objs.size=some {cls:=.type "dict",data:=.dict #[]}:=Heap.get?_push_size _ rfl
 have old:∀b o,s.heap.get? b=some o→b≠s.heap.objs.size:=fun b o z=>Nat.ne_of_lt (Heap.lt_size z)
 have apart:∀p∈X.pn++pins,p.1≠s.heap.objs.size:=fun p hp=>old _ _ (I.pin p hp).1
 have hloc:s.heap.objs.size≠X.env.locals:=fun z=>Nat.lt_irrefl _ (Nat.lt_of_lt_of_le (z▸I.lt) (Nat.le_refl _))
 have hcel:∀x c,X.env.cells.lookup x=some c→c≠s.heap.objs.size:=fun x c ec=>by
  obtain⟨v,o,ho,_⟩:=I.cell x c ec
  exact old _ _ ho
 have hs0:X.s₀.heap.get? s.heap.objs.size=none:=Heap.get?_none_of_le I.sz
 have I1:=I0.pins_of (pins':=(s.heap.objs.size,{cls:=.type "dict",data:=.dict #[]})::pins) fun p hp=>by
  rcases List.mem_cons.mp hp with z|z
  ·subst z
   exact⟨hob,hn,hloc,I.nofs (Nat.le_refl _),fun v z=>nomatch z⟩
  ·exact I0.pin p (List.mem_append_right _ z)
 refine wpAny_Dict_walk (knd:=Zp X.prog X.w) hall hl h0 h15 (thn (h _ _ σ _ _ I1 q) fun ws s2 zq9=>?_)
 obtain⟨ps,H2,I2,rel,kvs,ep,lk,q2⟩:=zq9
 subst ep
 obtain⟨rs,c,rk⟩:=Zev (P:=X.prog) (w:=X.w) rel
 obtain⟨p1,p2,p3,p4,p5⟩:=I2.pin (s.heap.objs.size,{cls:=.type "dict",data:=.dict #[]}) (List.mem_append_right _ List.mem_cons_self)
 have new0:Zaj X.prog X.w (upd H2 s.heap.objs.size (.dK [] 0)) s2.heap s.heap.objs.size (.dK [] 0):=(show Zaj X.prog X.w (fun _=>none) _ _ (.dK [] 0)from Zit s.heap I.big).stay (fun b u hb z=>by
  rcases hb with rfl|hb
  ·rw[hob]at z;cases z;exact p1
  ·cases hb) (fun _ z=>nomatch z) (fun _ _ z=>nomatch z) fun _ _ z=>nomatch z
 have I3:Inv X pins σ (upd H2 s.heap.objs.size (.dK [] 0)) s2:=Inv.trackO (I2.pins_of (pins':=pins) fun p hp=>I2.pin p (List.mem_append_right _ (List.mem_cons_of_mem _ hp))) hs0 p2 hloc hcel apart new0
 obtain⟨z,hd,vs0,r0,dd⟩:=Zrf I3.hok ⟨_,(show upd H2 s.heap.objs.size (.dK [] 0) s.heap.objs.size=some (.dK [] 0)from Zu)⟩
 cases r0
 refine⟨rs,c,dd,fun h' dd' hs=>?_⟩
 have hz:(Zcv [] kvs).length≤sizeLine:=by
  have h1:=Zcw kvs []
  rw[List.length_nil]at h1
  rw[sizeLine_eq];omega
 have he:∃q,h'.get? s.heap.objs.size=some q:=let⟨q,_,_,hq,_⟩:=dd';⟨q,hq⟩
 obtain⟨ep,ok⟩:=Zps hz hd (rk.merge .nil) dd'
 have I4:L2.Inv X pins σ (upd (upd H2 s.heap.objs.size (.dK [] 0)) s.heap.objs.size (.dK (Zcv [] kvs) ep)) {s2 with heap:=h',toks:=s2.toks+ws.length}:=Zhu I3 (by rw[Zu];exact True.intro) hs he (ok _)
 rw[Zqu]at I4
 exact⟨.ref s.heap.objs.size,_,I4,rfl,q2 _ ep p2⟩
end
section
variable{K:PySem.W.Frag}{Z:Ent K}{σ:L2.St}{H:Hp}{Q:VK}
theorem Zkb{f:FE}{Q':VK}(m:∀v H,Q v H→Q' v H)(h:Ze Z f σ H Q):Ze Z f σ H Q':=by
 obtain⟨F,δ,own,rv,δ',s,e,k⟩:=h
 exact⟨F,δ,own,rv,δ',s,e,fun v H' F' own' a b c d=>m _ _ (k v H' F' own' a b c d)⟩
noncomputable def tPD(Z:Ent K)(l:List (Str×FE)):List (TE×TE):=l.map fun p=>(tC (.str p.1),Ze Z p.2)
@[simp] noncomputable def Zjb:List (Str×FE)→FD
 | []=>Zl
 |p::r=>Zi p.2 (Zjb r)
theorem Zmo:∀(l:List (Str×FE)) {σ:L2.St} {H:Hp} {R:List (V×V)→Hp→Prop},Zbg Z (Zjb l) σ H (fun vs H'=>R ((l.map fun p=>V.str p.1).zip vs) H')→Zgo (tPD Z l) σ H R
 | [],σ,H,R,h=>by
  have:=Zgr h
  exact this
 |p::r,σ,H,R,h=>by
  have h2:=Zey (fe:=p.2) (fd:=Zjb r) h
  exact Zkb (fun v H1 q=>Zmo r (R:=fun ps H3=>R ((.str p.1,v)::ps) H3) q) h2
@[simp] noncomputable def Zmp(l:List (Str×FE)):FE:=fun δ=>(Zjb l δ).bind fun p=>if p.1.length=l.length then some (.tmp (.oK (l.map fun q=>.inr q.1) p.1),p.2)else none
theorem Zg8:∀(more acc:List (Key×V)),((acc++more).map (·.1)).Nodup→Zcv acc more=acc++more
 | [],acc,_=>by show acc=acc++[];rw[List.append_nil]
 |p::r,acc,h=>by
  have e:putK acc p.1 p.2=acc++[p]:=by
   unfold putK
   rw[if_neg]
   intro z
   obtain⟨q,hq,z⟩:=List.any_eq_true.mp z
   rw[List.map_append,List.nodup_append]at h
   exact h.2.2 p.1 (List.mem_map.mpr ⟨q,hq,of_decide_eq_true z⟩) p.1 (by simp) rfl
  show Zcv (putK acc p.1 p.2) r=_
  rw[e,Zg8 r (acc++[p]) (by simpa using h)]
  simp
theorem Zkc{l:List (Str×FE)}(h:(l.map (·.1)).Nodup):(l.map fun q=>(Sum.inr q.1:Key)).Nodup:=by
 have:(l.map fun q=>(Sum.inr q.1:Key))=(l.map (·.1)).map Sum.inr:=by rw[List.map_map];rfl
 rw[this]
 exact List.Pairwise.map _ (fun a b hab z=>hab (Sum.inr.inj z)) h
theorem Zqd:∀(l:List (Str×FE)) (vs:List V),(l.map fun p=>V.str p.1).zip vs=((l.map fun q=>(Sum.inr q.1:Key)).zip vs).map fun kv=>(kV kv.1,kv.2)
 | [],_=>rfl
 |_::_,[]=>rfl
 |p::r,v::vs=>by
  rw[List.map_cons,List.map_cons,List.zip_cons_cons,List.zip_cons_cons,List.map_cons,Zqd r vs]
  rfl
theorem Zsj{l:List (Str×FE)}(hnd:(l.map (·.1)).Nodup)(h15:l.length≤15)(h:Ze Z (Zmp l) σ H Q):Zqc (tPD Z l) σ H Q:=by
 obtain⟨F,δ,own,rv,δ',s,e,k⟩:=h
 obtain⟨⟨ds,δ1⟩,e1,e2⟩:=Option.bind_eq_some_iff.mp e
 by_cases hlen:ds.length=l.length
 ·rw[if_pos hlen]at e2
  cases e2
  refine Zmo l ⟨F,δ,own,ds,δ1,s,e1,fun vs H1 F1 own1 sH sF s1 r1=>?_⟩
  have hv:vs.length=l.length:=by rw[←r1.length];exact hlen
  have hk:(((l.map fun q=>(Sum.inr q.1:Key)).zip vs).map (·.1))=l.map fun q=>(Sum.inr q.1:Key):=List.map_fst_zip (by rw[List.length_map,hv];exact Nat.le_refl _)
  have hs:(((l.map fun q=>(Sum.inr q.1:Key)).zip vs).map (·.2))=vs:=List.map_snd_zip (by rw[List.length_map,hv];exact Nat.le_refl _)
  refine⟨(l.map fun q=>(Sum.inr q.1:Key)).zip vs,?_,?_,fun p ep hp=>?_⟩
  ·exact Zqd l vs
  ·rw[List.length_zip,List.length_map,hv,Nat.min_self];exact h15
  ·rw[Zg8 _ [] (by rw[List.nil_append,hk];exact Zkc hnd),List.nil_append]
   exact Fin.one (fun w H' F' ns a b c t=>k w H' F' own1 (sH.trans a) (sF.trans b) c ⟨ns,t⟩) s1 (.oK hk (by rw[hs];exact r1)) hp
 ·rw[if_neg hlen]at e2;cases e2
@[simp] noncomputable def minD:List D→Option SV
 | [.int i,.int j]=>some (.fz (.int (if j<i then j else i)))
 |_=>none
end
section
variable{X:Cx}{Z:Ent X.K}{a b c:Expr}{fa fb fc:FE}{pos:Pos}
theorem Zv5:PPs X pos [] [] (tPD Z []):=Zrk
theorem Zsk{k:Str}{j:Nat}{p:Pos}{ks:List (Option Expr)}{vs:List Expr}{l:List (Str×FE)}(hv:PE X a (Ze Z fa))(hr:PPs X pos ks vs (tPD Z l)):PPs X pos (some (.Constant (.str k) j p)::ks) (a::vs) (tPD Z ((k,fa)::l)):=Zoc Zkv hv hr
theorem Zsl{keys:List (Option Expr)}{values:List Expr}{l:List (Str×FE)}{ks:List Str}(h:PPs X pos keys values (tPD Z l))(hnd:ks.Nodup)(hks:l.map (·.1)=ks:=by rfl)(h15:l.length≤15:=by decide)(hall:keys.all (·.isSome)=true:=by rfl)(hl:keys.length=values.length:=by rfl)(h0:keys≠[]:=by exact List.cons_ne_nil _ _)
  (hk:keys.length=l.length:=by rfl):PE X (.Dict keys values pos) (Ze Z (Zmp l)):=(Zo5 h hall hl h0 (by rw[hk];exact h15)).imp fun _ _ _ q=>Zsj (by rw[hks];exact hnd) h15 q
end
end DL
namespace DL
open PySem PySem.Spec PyProof.Rows L2
@[simp] noncomputable def Zbd(ss:List Str)(fd:FD):FD:=fun δ=>(fd δ).bind fun p=>some (ss.map D.str++p.1,p.2)
theorem Zsm{K:PySem.W.Frag}{Z:Ent K}{σ:L2.St}{H:Hp}{fd:FD}:∀(ss:List Str) {R:List V→Hp→Prop},Zbg Z (Zbd ss fd) σ H R→Zbg Z fd σ H fun vs H'=>R (ss.map V.str++vs) H'
 |ss,R,h=>by
  obtain⟨F,δ,own,ds,δ',s,e,k⟩:=h
  obtain⟨⟨ds1,δ1⟩,e1,e2⟩:=Option.bind_eq_some_iff.mp e
  cases e2
  refine⟨F,δ,own,ds1,δ1,s,e1,fun vs H' F' own' a b c r=>k _ H' F' own' a b c ?_⟩
  exact Reps.append (strs_rep ss) r
where strs_rep {F:Hp}:∀ss:List Str,Reps K F (ss.map D.str) (ss.map V.str)
 | []=>.nil
 |x::r=>.cons (.str x) (strs_rep r)
section
variable{X:Cx}{Z:Ent X.K}{pos:Pos}
noncomputable abbrev cst(x:Str×Nat×Pos):Expr:=.Constant (.str x.1) x.2.1 x.2.2
theorem Zjc{es:List Expr}{t:TA}(h:PA X es t):∀l:List (Str×Nat×Pos),PA X (l.map cst++es) fun σ H R=>t σ H fun vs H'=>R ((l.map fun x=>V.str x.1)++vs) H'
 | []=>h
 |x::r=>(Zda (e:=cst x) (es:=r.map cst++es) Zkv (Zjc h r) rfl).imp fun σ H R q=>q
theorem Zbt{es:List Expr}{fd:FD}(l:List (Str×Nat×Pos))(h:PA X es (Zbg Z fd)):PA X (l.map cst++es) (Zbg Z (Zbd (l.map (·.1)) fd)):=
 (Zjc h l).imp fun σ H R q=>by
  have:=Zsm (l.map (·.1)) q
  rw[List.map_map]at this
  exact this
end
end DL
namespace DL
open PySem PySem.Spec PyProof.Rows L2
section
variable{K:PySem.W.Frag}
inductive RC where
 |v (δ:DSt)|x (e:Exn)
noncomputable def xX(K:PySem.W.Frag)(f:FX)(EX:EXT):TE:=fun σ H Q=>∃Z:Ent K,Z.x=EX∧Zzj Z f σ H Q
@[simp] noncomputable def Zmq(src:List BSrc)(k:Nat)(g:FG)(tt:FT)(te:FX):List D→DSt→Option RC
 | [],δ=>some (.v δ)
 |d::ds,δ=>(g.run d δ).bind fun δ1=>(tt δ1).bind fun p=>if p.1=true then(te p.2).bind (fun
  | .x e _=>some (.x e)
  | .v rv δ2=>(frz rv δ2).bind fun r=>match r.2[k]? with
   |some (some (.ol zs))=>if zs.length<PySem.sizeLine then Zmq src k g tt te ds (Zdd src (r.2.set k (some (.ol (zs++[r.1])))))else none
   |_=>none)
  else Zmq src k g tt te ds (Zdd src p.2)
@[simp] noncomputable def Z2k(src:List BSrc)(k:Nat)(fi:FD)(g:FG)(tt:FT)(te:FX):FX:=fun δ=>(fi δ).bind fun p=>(frzAll (caps src) p.2).bind fun c=>(Zmq src k g tt te p.1 (bD src c.2)).bind fun
 | .x e=>some (.x e c.2)
 | .v δb=>match δb[k]? with
  |some (some (.ol ys))=>some (.v (.tmp (.ol ys)) c.2)
  |_=>none
end
section
variable{X:Cx}{Z:Ent X.K}{pos:Pos}
end
end DL
namespace L2
open PySem PySem.Spec PyProof.Rows
noncomputable def Zv6{α:Type}(xs:List α)(lo hi st:Option Int):List α:=
 (sliceRange (sliceBounds lo hi st xs.length).1 (sliceBounds lo hi st xs.length).2.1 (sliceBounds lo hi st xs.length).2.2).filterMap (xs[·]?)
section
variable{X:Cx}{e st:Expr}{te:TE}{lo hi:Option Expr}{tl th ts:TO}{pos p2:Pos}
noncomputable def SlR3(X:Cx)(r:V→Option Int→Option Int→Option Int→Hp→VK→Prop):Prop:=
 ∀(pins:List (Addr×Obj)) (s:Shared) (σ:St) (H:Hp) (x:V) (v vl vu vs:Value) (lo hi st:Option Int) (sl:Addr) (Q:VK),Inv X pins σ H s→RelV x v→s.heap.IsSliceOf sl vl vu vs→IsPart vl lo→IsPart vu hi→IsPart vs st→r x lo hi st H Q→
  ∃T id,typeLookup (.type T) "__getitem__"=pure (some (.builtin id))∧s.TypeIs v T∧wpAny (model X.prog X.w) X.A (getItem v (.ref sl)) (EP X pins σ Q) X.xe s
noncomputable def tSl3(r:V→Option Int→Option Int→Option Int→Hp→VK→Prop)(te:TE)(tl th ts:TO):TE:=fun σ H Q=>te σ H fun x H1=>tl σ H1 fun l H2=>th σ H2 fun u H3=>ts σ H3 fun w H4=>r x l u w H4 Q
noncomputable def rSl3(K:PySem.W.Frag):V→Option Int→Option Int→Option Int→Hp→VK→Prop:=fun x lo hi st H Q=>∃a xs,x= .ref a∧SqL K H a xs∧st≠some 0∧∀p,H p=none→Q (.ref p) (upd H p (.lst (Zv6 xs lo hi st)))
end
end L2
namespace DL
open PySem PySem.Spec PyProof.Rows L2
@[simp] noncomputable def slF3(g:D→Option Int→Option Int→Option Int→Option SV)(fe:FE)(fl fh fs:FO):FE:=fun δ=>(fe δ).bind fun p=>(fl p.2).bind fun l=>(fh l.2).bind fun h=>(fs h.2).bind fun w=>(rdv p.1 w.2).bind fun d=>(g d l.1 h.1 w.1).bind fun sv=>some (.tmp sv,w.2)
section
variable{K:PySem.W.Frag}{Z:Ent K}{H:Hp}{σ:L2.St}{Q:VK}
noncomputable def Z06(Z:Ent K)(r:V→Option Int→Option Int→Option Int→Hp→VK→Prop)(g:D→Option Int→Option Int→Option Int→Option SV):Prop:=
 ∀(F H:Hp) (σ:L2.St) (δ:DSt) (own:Nat→Zn) (x:V) (d:D) (lo hi st:Option Int) (sv:SV) (Q:VK),SR Z F H σ δ own→RepN K F H d x→g d lo hi st=some sv→Fin Z F H σ δ own sv Q→r x lo hi st H Q
@[simp] noncomputable def slD3:D→Option Int→Option Int→Option Int→Option SV
 | .lst xs,lo,hi,st=>if st≠some 0 then some (.ol (Zv6 xs lo hi st))else none
 |_,_,_,_=>none
end
end DL
namespace DL
section
variable{α:Type}{P:List α→Prop}
@[elab_as_elim] theorem of0(h:P [])(us:List α)(hl:us.length=0):P us:=by
 have:us=[]:=List.eq_nil_of_length_eq_zero hl
 rw[this];exact h
@[elab_as_elim] theorem of1(h:∀a,P [a])(us:List α)(hl:us.length=1):P us:=by
 obtain⟨a,e⟩:=List.length_eq_one_iff.mp hl
 rw[e];exact h a
theorem ofC{n:Nat}(h:∀a (us:List α),us.length=n→P (a::us))(us:List α)(hl:us.length=n+1):P us:=by
 cases us with
 |nil=>exact absurd hl (by simp)
 |cons a r=>exact h a r (by simpa using hl)
@[elab_as_elim] theorem of2(h:∀a b,P [a,b])(us:List α)(hl:us.length=2):P us:=ofC (fun a=>of1 (P:=fun us=>P (a::us)) (h a)) us hl
@[elab_as_elim] theorem of3(h:∀a b c,P [a,b,c])(us:List α)(hl:us.length=3):P us:=ofC (fun a=>of2 (P:=fun us=>P (a::us)) (h a)) us hl
@[elab_as_elim] theorem of4(h:∀a b c d,P [a,b,c,d])(us:List α)(hl:us.length=4):P us:=ofC (fun a=>of3 (P:=fun us=>P (a::us)) (h a)) us hl
@[elab_as_elim] theorem of5(h:∀a b c d e,P [a,b,c,d,e])(us:List α)(hl:us.length=5):P us:=ofC (fun a=>of4 (P:=fun us=>P (a::us)) (h a)) us hl
@[elab_as_elim] theorem of6(h:∀a b c d e f,P [a,b,c,d,e,f])(us:List α)(hl:us.length=6):P us:=ofC (fun a=>of5 (P:=fun us=>P (a::us)) (h a)) us hl
end
end DL
namespace L2
open PySem PySem.Spec PyProof.Rows
section
variable{prog:Program}{w:World}{A:Around}{E:Value→Shared→Prop}{s:Shared}{q d:Addr}{i n ep:Nat}{od:Obj}{es:Array DictEntry}
end
noncomputable def Itk(a:Addr)(n ep:Nat):It:=
 ⟨fun i H=>∃kvs,H a=some (.dK kvs ep)∧kvs.length=n∧i<n,fun i H x H'=>H'=H∧∃kvs kv,H a=some (.dK kvs ep)∧kvs[i]? =some kv∧x=kV kv.1,fun i H=>∃kvs,H a=some (.dK kvs ep)∧kvs.length=n∧n≤i⟩
noncomputable def Itd(a:Addr)(n ep:Nat):It:=
 ⟨fun i H=>∃kvs bs,H a=some (.dT kvs ep bs)∧kvs.length=n∧i<n,fun i H x H'=>H'=H∧∃kvs bs b,H a=some (.dT kvs ep bs)∧bs[i]? =some b∧x= .ref b,fun i H=>∃kvs bs,H a=some (.dT kvs ep bs)∧kvs.length=n∧n≤i⟩
section
variable{X:Cx}{tg:Expr}
noncomputable def iDic(tl:TE):TI:=fun σ H R=>tl σ H fun x H1=>(∃a kvs ep,x= .ref a∧H1 a=some (.dK kvs ep)∧R (Itk a kvs.length ep) H1)∨(∃a kvs ep bs,x= .ref a∧H1 a=some (.dT kvs ep bs)∧R (Itd a kvs.length ep) H1)
end
end L2
namespace DL
open PySem PySem.Spec PyProof.Rows L2
variable{K:PySem.W.Frag}
@[simp] noncomputable def keyD:Key→D
 | .inl i=>.int i
 | .inr x=>.str x
section
variable{Z:Ent K}{H:Hp}{σ:L2.St}
@[simp] noncomputable def dicI(fe:FE):FD:=fun δ=>(fe δ).bind fun p=>(frz p.1 p.2).bind fun q=>match q.1 with
 | .dK ks _=>some (ks.map keyD,q.2)
 | .dT ks _=>some (ks.map fun k=>D.tup (k.map keyD),q.2)
 |_=>none
end
end DL
namespace DL
open PySem PySem.Spec PyProof.Rows L2
variable{K:PySem.W.Frag}
@[simp] noncomputable def inW(d1 d2:D):Option SV:=match d2.seq? with
 |some xs=>if d1.isFlat=true∧xs.all D.isFlat=true then some (.fz (.bl (inFl d1 xs)))else none
 |none=>inD d1 d2
@[simp] noncomputable def Z07(d1 d2:D):Option SV:=match d2.seq? with
 |some xs=>if d1.isFlat=true∧xs.all D.isFlat=true then some (.fz (.bl (!inFl d1 xs)))else none
 |none=>Zi6 d1 d2
section
variable{Z:Ent K}
end
section
variable{X:Cx}{Z:Ent X.K}{a b:Expr}{fa fb:FE}{pos:Pos}
end
end DL
namespace L2
open PySem PySem.Spec PyProof.Rows
section
variable{prog:Program}{w:World}{A:Around}{E:Value→Shared→Prop}{s:Shared}{a b:Addr}{xs ys:List (List Key×Addr×Value)}
end
section
variable{X:Cx}
noncomputable def rEqT:R2:=fun x y H Q=>∃a b kvs,x= .ref a∧y= .ref b∧HTt H a kvs∧HTt H b kvs∧(∀p∈kvs,Zaa p.2=true)∧Q (.bl true) H
end
end L2
namespace DL
open PySem PySem.Spec PyProof.Rows L2
variable{K:PySem.W.Frag}
noncomputable def Zzl(ks ks':List (List Key))(vs vs':List D):Bool:=@decide (ks=ks'∧vs=vs'∧vs.all D.isFlat=true) (Classical.propDecidable _)
@[simp] noncomputable def eqTD(d1 d2:D):Option SV:=match d1,d2 with
 | .dT ks vs,.dT ks' vs'=>if Zzl ks ks' vs vs'=true then some (.fz (.bl true))else none
 |_,_=>none
section
variable{Z:Ent K}
end
section
variable{X:Cx}{Z:Ent X.K}{a b:Expr}{fa fb:FE}{pos:Pos}
end
end DL
namespace DL
open PySem PySem.Spec PyProof.Rows L2
end DL
namespace DL
open PySem PySem.Spec PyProof.Rows L2
variable{K:PySem.W.Frag}
@[simp] noncomputable def Zmr(src:List BSrc)(k:Nat)(g:FG)(tt:FT)(te:FE):List D→DSt→Option DSt
 | [],δ=>some δ
 |d::ds,δ=>(g.run d δ).bind fun δ1=>(tt δ1).bind fun p=>if p.1=true then(te p.2).bind fun q=>match q.1,q.2[k]? with
   | .tmp (.ol xs),some (some (.oL none zs))=>if zs.length<PySem.sizeLine then Zmr src k g tt te ds (Zdd src (q.2.set k (some (.oL none (zs++[xs])))))else none
   |_,_=>none
  else Zmr src k g tt te ds (Zdd src p.2)
@[simp] noncomputable def Z08(src:List BSrc)(k:Nat)(fi:FD)(g:FG)(tt:FT)(te:FE):FE:=fun δ=>(fi δ).bind fun p=>(frzAll (caps src) p.2).bind fun c=>(Zmr src k g tt te p.1 ((bD src c.2).set k (some (.oL none [])))).bind fun δb=>match δb[k]? with
 |some (some (.oL none ys))=>some (.tmp (.oL none ys),c.2)
 |_=>none
section
variable{Z:Ent K}{H:Hp}{σ:L2.St}{Q:VK}{E:Ends}
noncomputable def Zv7(i p q:Nat):FE:=fun δ=>match δ[i]?,δ[p]?,δ[q]? with
 |some (some (.oL none xss)),some (some (.fz (.int n))),some (some (.fz (.lst xs)))=>if 0≤n∧n.toNat≤xss.length∧xss.length+1≤PySem.sizeLine then some (.tmp (.oL none (xss.take n.toNat++[xs]++xss.drop n.toNat)),δ.set i none)else none
 |_,_,_=>none
@[simp] theorem Zxh{i p q:Nat}{δ:DSt}{xss:List (List D)}{n:Nat}{xs:List D}(hi:δ[i]? =some (some (.oL none xss)))(hp:δ[p]? =some (some (.fz (.int (n:Nat)))))(hq:δ[q]? =some (some (.fz (.lst xs))))(hn:n≤xss.length)(hz:xss.length+1≤PySem.sizeLine):
  Zv7 i p q δ=some (.tmp (.oL none (xss.take n++[xs]++xss.drop n)),δ.set i none):=by
 unfold Zv7
 rw[hi,hp,hq]
 dsimp only
 rw[if_pos ⟨by omega,by omega,hz⟩,Int.toNat_natCast]
noncomputable abbrev rLst(K:PySem.W.Frag):List V→Hp→VK→Prop:=fun xs H Q=>∃p ys,xs=[V.ref p]∧(SqL K H p ys∨SqT K H p ys)∧∀l,H l=none→Q (.ref l) (upd H l (.lst ys))
@[simp] noncomputable def apT(c:Str)(n:Nat)(xss:List (List D)):List (List D):=(xss.take n).map (· ++[.str c])++xss.drop n
noncomputable def Zms(i j:Nat)(c:Str):FS:=fun δ=>match δ[i]? with
 |some (some (.oL none xss))=>if i≠j∧j<δ.length∧(∀xs∈xss,xs.length<PySem.sizeLine)then some (.nx ((δ.set j none).set i (some (.oL none (xss.map (· ++[.str c]))))))else none
 |_=>none
@[simp] theorem Ztj{i j:Nat}{c:Str}{δ:DSt}{xss:List (List D)}(hi:δ[i]? =some (some (.oL none xss)))(hij:i≠j)(hj:j<δ.length)(hz:∀xs∈xss,xs.length<PySem.sizeLine):Zms i j c δ=some (.nx ((δ.set j none).set i (some (.oL none (xss.map (· ++[.str c])))))):=by
 unfold Zms
 rw[hi]
 dsimp only
 rw[if_pos ⟨hij,hj,hz⟩]
noncomputable def Zmt(i:Nat):FS:=fun δ=>match δ[i]? with
 |some (some (.oL none _))=>some (.nx (δ.set i (some (.ol []))))
 |_=>none
@[simp] theorem Ztk{i:Nat}{δ:DSt}{xss:List (List D)}(hi:δ[i]? =some (some (.oL none xss))):Zmt i δ=some (.nx (δ.set i (some (.ol [])))):=by unfold Zmt;rw[hi]
end
end DL
namespace DL
open PySem PySem.Spec PyProof.Rows L2
section
variable{X:Cx}{Z:Ent X.K}{a b c:Expr}{fa fb fc:FE}{pos:Pos}
end
end DL
namespace DL
open PySem PySem.Spec PyProof.Rows L2
variable{K:PySem.W.Frag}
noncomputable def Zzm(K:PySem.W.Frag)(C:Addr)(f:Str):Sp:=fun vs H Q _=>∃e p ys,vs=[.ref e,.ref p]∧H e=some (.ext (Zdo e C none))∧(SqL K H p ys∨SqT K H p ys)∧
 ∀l,H l=none→∀dx,upd H l (.lst ys) dx=none→Q .non (upd (upd (upd H l (.lst ys)) dx (.xd [(f,.ref l)])) e (.ext (Zdo e C (some dx))))
noncomputable def Zzn(C:Addr)(f:Str):Sp:=fun vs H Q _=>∃e v,vs=[.ref e,v]∧H e=some (.ext (Zdo e C none))∧
 ∀dx,H dx=none→Q .non (upd (upd H dx (.xd [(f,v)])) e (.ext (Zdo e C (some dx))))
section
variable{Z:Ent K}{H:Hp}{σ:L2.St}{E:Ends}{Q:VK}
@[simp] noncomputable def Z09(c f:Str)(fe:FE):FS:=fun δ=>(fe δ).bind fun p=>(frz p.1 p.2).bind fun q=>match q.1 with
 | .lst ds=>some (.ex ⟨c,[f],[.lst ds]⟩ q.2)
 |_=>none
@[simp] noncomputable def Z1a(c f:Str)(fe:FE):FS:=fun δ=>(fe δ).bind fun p=>(frz p.1 p.2).bind fun q=>some (.ex ⟨c,[f],[q.1]⟩ q.2)
@[simp] noncomputable def Z2l(cs:List Str)(f:Str):D→Option SV
 | .exc c ks vs=>if c∈cs then((ks.zip vs).lookup f).bind fun d=>some (.fz d)else none
 |_=>none
end
section
variable{X:Cx}{Z:Ent X.K}{a b c:Expr}{fa fb fc:FE}{pos:Pos}
end
end DL
namespace DL
open PySem PySem.Spec PyProof.Rows L2
variable{K:PySem.W.Frag}
noncomputable abbrev Zqe(H:Hp)(bs:List Addr)(xss:List (List Str)):Prop:=Paired (fun(b:Addr) (xs:List Str)=>H b=some (.tup (xs.map V.str))) bs xss
open Classical in
noncomputable def eqT(H:Hp)(ss:List Str):Value→Bool:=fun w=>decide (∃b,w= .ref b∧H b=some (.tup (ss.map V.str)))
section
variable{X:Cx}{pins:List (Addr×Obj)}{σ:L2.St}{H:Hp}{s:Shared}
noncomputable def rInP(K:PySem.W.Frag)(neg:Bool):R2:=fun x y H Q=>∃b ss a bs xss,x= .ref b∧H b=some (.tup (ss.map V.str))∧y= .ref a∧SqL K H a (bs.map V.ref)∧Zqe H bs xss∧Q (.bl (if neg then !(xss.any fun xs=>decide (xs=ss))else xss.any fun xs=>decide (xs=ss))) H
noncomputable def Zzo(K:PySem.W.Frag):V→List V→Hp→VK→Prop:=fun x xs H Q=>∃b ss a bs xss j,xs=[.ref b]∧H b=some (.tup (ss.map V.str))∧x= .ref a∧SqL K H a (bs.map V.ref)∧Zqe H bs xss∧(xss.findIdx? fun xs=>decide (xs=ss))=some j∧Q (.int (j:Nat)) H
end
@[simp] noncomputable def tl?:List D→Option (List (List Str))
 | []=>some []
 | .tup ds::r=>(strs? ds).bind fun x=>(tl? r).bind fun t=>some (x::t)
 |_=>none
@[simp] noncomputable def inP:D→D→Option SV
 | .tup a,.lst xs=>(strs? a).bind fun ss=>(tl? xs).bind fun xss=>some (.fz (.bl (xss.any fun x=>decide (x=ss))))
 |_,_=>none
@[simp] noncomputable def Z1b:D→D→Option SV
 | .tup a,.lst xs=>(strs? a).bind fun ss=>(tl? xs).bind fun xss=>some (.fz (.bl (!(xss.any fun x=>decide (x=ss)))))
 |_,_=>none
@[simp] noncomputable def Z1c:List D→Option SV
 | [.lst xs,.tup a]=>(strs? a).bind fun ss=>(tl? xs).bind fun xss=>(xss.findIdx? fun x=>decide (x=ss)).bind fun j=>some (.fz (.int (j:Nat)))
 |_=>none
section
variable{Z:Ent K}
end
section
variable{X:Cx}{Z:Ent X.K}{a b c:Expr}{fa fb fc:FE}{pos:Pos}
end
end DL
namespace DL
open PySem PySem.Spec PyProof.Rows L2
variable{K:PySem.W.Frag}
section
variable{Z:Ent K}{H:Hp}{σ:L2.St}{Q:VK}
@[simp] noncomputable def Z2m(k0:Str)(f0:FE)(j:Nat)(f1:FE):FE:=fun δ=>match δ[j]? with
 |some (some (.fz (.str x)))=>(Zi f0 (Zi f1 Zl) δ).bind fun p=>match p.1 with
  | [v0,v1]=>if k0=x then none else some (.tmp (.oK [.inr k0,.inr x] [v0,v1]),p.2)
  |_=>none
 |_=>none
end
section
variable{X:Cx}{Z:Ent X.K}{a b c:Expr}{fa fb fc:FE}{pos:Pos}
end
end DL
namespace L2
open PySem PySem.Spec PyProof.Rows
section
variable{X:Cx}
noncomputable def Zzp(K:PySem.W.Frag):V→List V→Hp→VK→Prop:=fun x xs H Q=>∃p ys y,x= .ref p∧xs=[y]∧SqL K H p ys∧Zaa y=true∧ys.all Zaa=true∧Q (.int ((ys.countP fun z=>eqV z y):Nat)) H
noncomputable def Z1d:V→List V→Hp→VK→Prop:=fun x xs H Q=>∃a b i,x= .str a∧xs=[.str b,.int i]∧Q (.int (Txt.find3 a b i)) H
end
end L2
namespace DL
open PySem PySem.Spec PyProof.Rows L2
variable{K:PySem.W.Frag}
section
variable{Z:Ent K}{H:Hp}{σ:L2.St}{Q:VK}{E:Ends}
@[simp] noncomputable def Z1e:List D→Option SV
 | [.lst xs,x]=>if x.isFlat=true∧xs.all D.isFlat=true then some (.fz (.int ((xs.countP fun y=>eqFl y x):Nat)))else none
 |_=>none
@[simp] noncomputable def Z1f:List D→Option SV
 | [.str a,.str b,.int i]=>some (.fz (.int (Txt.find3 a b i)))
 |_=>none
@[simp] noncomputable def augF(i:Nat)(j:Int):FS:=fun δ=>match δ[i]? with
 |some (some (.fz (.int x)))=>some (.nx (δ.set i (some (.fz (.int (x+j))))))
 |_=>none
@[simp] noncomputable def Z2n:FE:=fun δ=>some (.tmp (.oL none [[]]),δ)
noncomputable def Zv8(i:Nat):FS:=fun δ=>match δ[i]? with
 |some (some (.oL p xss))=>if xss.length<PySem.sizeLine then some (.nx (δ.set i (some (.oL p (xss++[[]])))))else none
 |_=>none
@[simp] theorem Zxi{i:Nat}{δ:DSt}{p:Option Addr}{xss:List (List D)}(hi:δ[i]? =some (some (.oL p xss)))(hz:xss.length<PySem.sizeLine):Zv8 i δ=some (.nx (δ.set i (some (.oL p (xss++[[]]))))):=by
 unfold Zv8;rw[hi];exact if_pos hz
noncomputable abbrev tTop(K:PySem.W.Frag)(i:Nat):TE:=tOp (rIxL K) (tVar i) (tC (.int (-1)))
noncomputable def Zxj(i:Nat)(fe:FE):FS:=fun δ=>match δ[i]? with
 |some (some (.oL _ xss0))=>if xss0.length=0 then none else(fe δ).bind fun q=>(frz q.1 q.2).bind fun r=>match r.2[i]? with
  |some (some (.oL p xss))=>(xss[xss.length- 1]?).bind fun xs=>if xs.length<PySem.sizeLine then some (.nx (r.2.set i (some (.oL p (xss.set (xss.length- 1) (xs++[r.1]))))))else none
  |_=>none
 |_=>none
end
end DL
namespace DL
open PySem PySem.Spec PyProof.Rows L2
variable{K:PySem.W.Frag}
section
variable{Z:Ent K}{H:Hp}{σ:L2.St}{Q:VK}{E:Ends}
noncomputable def Zv9(i:Nat):FE:=fun δ=>match δ[i]? with
 |some (some (.oL _ xss))=>some (.tmp (.fz (.int (xss.length:Nat))),δ)
 |_=>none
@[simp] theorem Zxk{i:Nat}{δ:DSt}{p:Option Addr}{xss:List (List D)}(hi:δ[i]? =some (some (.oL p xss))):Zv9 i δ=some (.tmp (.fz (.int (xss.length:Nat))),δ):=by unfold Zv9;rw[hi]
noncomputable abbrev Z2o(K:PySem.W.Frag):List V→Hp→VK→Prop:=fun xs H Q=>∃p ys,xs=[V.ref p]∧(SqL K H p ys∨SqT K H p ys)∧Q (.int ys.length) H
noncomputable def Zzq(i:Nat):FE:=fun δ=>match δ[i]? with
 |some (some (.oL _ xss))=>(xss[xss.length- 1]?).bind fun xs=>some (.tmp (.fz (.int (xs.length:Nat))),δ)
 |_=>none
noncomputable def Zzr(i:Nat):FE:=fun δ=>match δ[i]? with
 |some (some (.oL _ xss))=>(xss[xss.length- 1]?).bind fun xs=>(xs[xs.length- 1]?).bind fun d=>some (.tmp (.fz d),δ)
 |_=>none
noncomputable def Zjd(i:Nat):FE:=fun δ=>match δ[i]? with
 |some (some (.oL _ (xs::_)))=>some (.tmp (.fz (.tup xs)),δ)
 |_=>none
@[simp] theorem Zsn{i:Nat}{δ:DSt}{p:Option Addr}{xss:List (List D)}{xs:List D}(hi:δ[i]? =some (some (.oL p (xs::xss)))):Zjd i δ=some (.tmp (.fz (.tup xs)),δ):=by unfold Zjd;rw[hi]
noncomputable abbrev Z2p(K:PySem.W.Frag):List V→Hp→VK→Prop:=fun xs H Q=>∃p ys,xs=[V.ref p]∧((SqL K H p ys∧∀l,H l=none→Q (.ref l) (upd H l (.tup ys)))∨(SqT K H p ys∧Q (.ref p) H))
noncomputable def Z2q(j i:Nat):FS:=fun δ=>match δ[i]? with
 |some (some (.oL p xss))=>(xss[xss.length- 1]?).bind fun xs=>if i≠j∧j<δ.length then some (.nx ((δ.set i (some (.oL p xss.dropLast))).set j (some (.ol xs))))else none
 |_=>none
noncomputable def hole(H:Hp)(ns:Zn):Hp:=fun b=>if b∈adr ns then none else H b
noncomputable def spM(K:PySem.W.Frag)(g:Addr→List (List D)→Option (List (List D))):Sp:=fun vs H Q _=>∃F a xss ws ns yss,vs=[V.ref a]∧Same F H∧Kids K F xss ws ns∧(adr ((a,HO.lst ws)::ns)).Nodup∧(∀p∈(a,HO.lst ws)::ns,F p.1=none∧H p.1=some p.2)∧g a xss=some yss∧
 ∀H' F' ws' ns',Same (hole H ((a,.lst ws)::ns)) H'→Same F F'→Same F' H'→(∀(b:Addr) (o:HO),F' b=some o→F b=some o∨hole H ((a,.lst ws)::ns) b=none)→Kids K F' yss ws' ns'→(adr ((a,HO.lst ws')::ns')).Nodup→
  (∀p∈(a,HO.lst ws')::ns',F' p.1=none∧hole H ((a,.lst ws)::ns) p.1=none∧H' p.1=some p.2)→Q .non H'
@[simp] noncomputable def Zqf(n:Nat)(a:Addr)(xss:List (List D)):DSt:=some (.oL (some a) xss)::List.replicate (n- 1) none
@[simp] noncomputable def Zwa(a:Addr)(o:Option (Option SV)):Option (List (List D)):=match o with
 |some (some (.oL (some b) yss))=>if b=a then some yss else none
 |_=>none
@[simp] noncomputable def outM(f:FS)(n:Nat)(a:Addr)(xss:List (List D)):Option (List (List D)):=match f (Zqf n a xss)with
 |some (.nx δ)=>Zwa a δ[0]?
 |_=>none
open Classical in
noncomputable def mutF(i:Nat)(g:Addr→List (List D)→Option (List (List D))):FS:=fun δ=>match δ[i]? with
 |some (some (.oL p xss))=>if h:∃o,∀a,g a xss=some o then some (.nx (δ.set i (some (.oL p h.choose))))else none
 |_=>none
end
end DL
namespace DL
open PySem PySem.Spec PyProof.Rows L2
section
variable{X:Cx}{Z:Ent X.K}{a b c:Expr}{fa fb fc:FE}{pos:Pos}
end
end DL
namespace L2
open PySem PySem.Spec PyProof.Rows
section
variable{X:Cx}
noncomputable abbrev Z2r:List V→Hp→VK→Prop:=fun xs H Q=>∃(x:Str) (n:Int),xs=[V.str x]∧PySem.intText? x=some n∧x.length≤640∧Q (.int n) H
end
end L2
namespace DL
open PySem PySem.Spec PyProof.Rows L2
variable{K:PySem.W.Frag}
noncomputable def Z2s:List D→Option SV
 | [.str x]=>if x.length≤640 then(PySem.intText? x).bind fun n=>some (.fz (.int n))else none
 |_=>none
section
variable{X:Cx}{Z:Ent X.K}{a:Expr}{fa:FE}{pos:Pos}
end
end DL
namespace L2
open PySem PySem.Spec PyProof.Rows
section
variable{X:Cx}
noncomputable def Z2t(K:PySem.W.Frag):V→List V→Hp→VK→Prop:=fun x vs H Q=>∃l b xs zs,x= .ref l∧vs=[.ref b]∧H l=some (.lst xs)∧SqT K H b zs∧xs.length+zs.length≤sizeLine∧Q .non (upd H l (.lst (xs++zs)))
noncomputable def Z1g:List V→Hp→VK→Prop:=fun xs H Q=>∃p kvs,xs=[.ref p]∧RdK H p kvs∧∀l,H l=none→Q (.ref l) (upd H l (.lst (kvs.map fun kv=>kV kv.1)))
end
end L2
namespace DL
open PySem PySem.Spec PyProof.Rows L2
variable{K:PySem.W.Frag}
noncomputable def Zzs:List D→Option SV
 | [.dK ks _]=>some (.ol (ks.map keyD))
 |_=>none
@[simp] theorem Zxl(ks:List Key)(vs:List D):Zzs [.dK ks vs]=some (.ol (ks.map keyD)):=rfl
section
variable{Z:Ent K}{H:Hp}{σ:L2.St}{Q:VK}{E:Ends}
@[simp] noncomputable def SV.tup?:RV→Option (List D)
 | .tmp (.fz (.tup ys))=>some ys
 |_=>none
@[simp] noncomputable def Z2u(i:Nat)(fe:FE):FS:=fun δ=>match δ[i]? with
 |some (some (.ol _))=>(fe δ).bind fun p=>(SV.tup? p.1).bind fun ys=>match p.2[i]? with
  |some (some (.ol xs))=>if xs.length+ys.length≤PySem.sizeLine then some (.nx (p.2.set i (some (.ol (xs++ys)))))else none
  |_=>none
 |_=>none
end
section
variable{X:Cx}{Z:Ent X.K}{a b c:Expr}{fa fb fc:FE}{pos:Pos}
end
end DL
namespace DL
open PySem PySem.Spec PyProof.Rows L2
section
variable{K:PySem.W.Frag}{Z:Ent K}{H:Hp}{σ:L2.St}{Q:VK}
@[simp] noncomputable def bmX(T:String)(g:List D→Option SV)(fo:FE)(fa:FAX):FX:=fun δ=>(fo δ).bind fun p=>(rdv p.1 p.2).bind fun d0=>if tyOk T d0=true then(fa p.2).bind fun
 | .x e δ2=>some (.x e δ2)
 | .v rvs δ2=>(Zb3 (p.1::rvs) δ2).bind fun ds=>(g ds).bind fun sv=>some (.v (.tmp sv) δ2)else none
end
section
variable{X:Cx}{Z:Ent X.K}{a b:Expr}{fa:FE}{fx:FX}
end
end DL
namespace DL
open PySem PySem.Spec PyProof.Rows L2
section
variable{K:PySem.W.Frag}{Z:Ent K}{H:Hp}{σ:L2.St}{Q:VK}{E:Ends}
inductive MR where
 |v (yss:List (List D))|x (e:Exn)
noncomputable def spMX(K:PySem.W.Frag)(g:Addr→List (List D)→Option MR):Sp:=fun vs H Q E=>∃F a xss ws ns r,vs=[V.ref a]∧Same F H∧Kids K F xss ws ns∧(adr ((a,HO.lst ws)::ns)).Nodup∧(∀p∈(a,HO.lst ws)::ns,F p.1=none∧H p.1=some p.2)∧g a xss=some r∧match r with
 | .v yss=>∀H' F' ws' ns',Same (hole H ((a,.lst ws)::ns)) H'→Same F F'→Same F' H'→(∀(b:Addr) (o:HO),F' b=some o→F b=some o∨hole H ((a,.lst ws)::ns) b=none)→Kids K F' yss ws' ns'→(adr ((a,HO.lst ws')::ns')).Nodup→
   (∀p∈(a,HO.lst ws')::ns',F' p.1=none∧hole H ((a,.lst ws)::ns) p.1=none∧H' p.1=some p.2)→Q .non H'
 | .x e=>∀cls od H' F',Same (hole H ((a,.lst ws)::ns)) H'→Same F F'→Same F' H'→(∀(b:Addr) (o:HO),F' b=some o→F b=some o∨hole H ((a,.lst ws)::ns) b=none)→Ziw K F' e cls od→E cls od H'
@[simp] noncomputable def Z2v(f:FS)(n:Nat)(a:Addr)(xss:List (List D)):Option MR:=match f (Zqf n a xss)with
 |some (.nx δ)=>(Zwa a δ[0]?).map .v
 |some (.ex e _)=>some (.x e)
 |_=>none
open Classical in
noncomputable def Z2w(i:Nat)(g:Addr→List (List D)→Option MR):FS:=fun δ=>match δ[i]? with
 |some (some (.oL p xss))=>if h:∃o,∀a,g a xss=some o then(match h.choose with
  | .v yss=>some (.nx (δ.set i (some (.oL p yss))))
  | .x e=>some (.ex e (δ.set i none)))else none
 |_=>none
noncomputable def Zxm(i:Nat)(fx:FX):FS:=fun δ=>match δ[i]? with
 |some (some (.oL _ xss0))=>if xss0.length=0 then none else(fx δ).bind fun
  | .x e δ1=>some (.ex e δ1)
  | .v rv δ1=>(frz rv δ1).bind fun r=>match r.2[i]? with
   |some (some (.oL p xss))=>(xss[xss.length- 1]?).bind fun xs=>if xs.length<PySem.sizeLine then some (.nx (r.2.set i (some (.oL p (xss.set (xss.length- 1) (xs++[r.1]))))))else none
   |_=>none
 |_=>none
end
section
variable{X:Cx}{Z:Ent X.K}{a b c:Expr}{fa fb fc:FE}{fx:FX}{pos:Pos}
end
end DL
namespace L2
open PySem PySem.Spec PyProof.Rows
end L2
namespace L2
open PySem PySem.Spec PyProof.Rows
section
variable{X:Cx}
noncomputable def Z2x(K:PySem.W.Frag):R2:=fun x y H Q=>∃a k xs,x= .ref a∧y= .int k∧SqT K H a xs∧xs≠[]∧2≤k∧k≤1000∧xs.length≤1000∧∀p,H p=none→Q (.ref p) (upd H p (.tup (List.replicate k.toNat xs).flatten))
end
end L2
namespace DL
open PySem PySem.Spec PyProof.Rows L2
variable{K:PySem.W.Frag}
section
variable{Z:Ent K}
noncomputable def Z2y:D→D→Option SV
 | .tup xs,.int k=>if xs.isEmpty=false∧2≤k∧k≤1000∧xs.length≤1000 then some (.fz (.tup (List.replicate k.toNat xs).flatten))else none
 |_,_=>none
end
section
variable{X:Cx}{Z:Ent X.K}{a b:Expr}{fa fb:FE}{pos:Pos}
end
end DL
namespace L2
open PySem PySem.Spec PyProof.Rows
section
variable{X:Cx}
noncomputable def Zzt:V→List V→Hp→VK→Prop:=fun x xs H Q=>∃a b k,x= .str a∧xs=[.str b,.int k]∧(b.length==0)=false∧0≤k∧k≤1000∧a.length≤sizeLine∧(Txt.splitMax a b k).length≤sizeLine∧∀p,H p=none→Q (.ref p) (upd H p (.lst ((Txt.splitMax a b k).map V.str)))
end
end L2
namespace DL
open PySem PySem.Spec PyProof.Rows L2
variable{K:PySem.W.Frag}
section
variable{Z:Ent K}
@[simp] noncomputable def Zzu:List D→Option SV
 | [.str a,.str b,.int k]=>if(b.length==0)=false∧0≤k∧k≤1000∧a.length≤PySem.sizeLine∧(Txt.splitMax a b k).length≤PySem.sizeLine then some (.ol ((Txt.splitMax a b k).map D.str))else none
 |_=>none
end
section
variable{X:Cx}{Z:Ent X.K}{a b c:Expr}{fa fb fc:FE}
end
end DL
namespace L2
open PySem PySem.Spec PyProof.Rows
section
variable{M:Model}{A:Around}{E:Value→Shared→Prop}{s:Shared}{env:Env}
end
section
variable{prog:Program}{w:World}{A:Around}{E:Value→Shared→Prop}{s:Shared}
end
section
variable{X:Cx}
noncomputable def Ite1(K:PySem.W.Frag)(a:Addr):It:=
 ⟨fun i H=>∃xs x,SqL K H a xs∧xs[i]? =some x,fun i H x H'=>∃p v,x= .ref p∧H p=none∧H'=upd H p (.tup [.int ((i+1:Nat):Int),v])∧∀xs,SqL K H a xs→xs[i]? =some v,fun i H=>∃xs,SqL K H a xs∧xs.length≤i⟩
noncomputable def Z1h(K:PySem.W.Frag)(ta:TA):TI:=fun σ H R=>ta σ H fun vs H1=>∃a xs,vs=[.ref a]∧SqL K H1 a xs∧R (Ite1 K a) H1
end
end L2
namespace DL
open PySem PySem.Spec PyProof.Rows L2
variable{K:PySem.W.Frag}
noncomputable def Zwb(xs:List D):List D:=(xs.zipIdx 1).map fun p=>.tup [.int (p.2:Nat),p.1]
section
variable{Z:Ent K}{H:Hp}{σ:L2.St}{Q:VK}
@[simp] noncomputable def Z1i(fd:FD):FD:=fun δ=>(fd δ).bind fun p=>match p.1 with
 | [.lst xs]=>some (Zwb xs,p.2)
 |_=>none
end
section
variable{X:Cx}{Z:Ent X.K}{a:Expr}{fa:FE}{pos:Pos}
end
end DL
namespace DL
open PySem PySem.Spec PyProof.Rows L2
variable{K:PySem.W.Frag}
section
variable{Z:Ent K}
@[simp] noncomputable def Z2z:List D→Option SV
 | [.lst xs]=>some (.fz (.int (xs.length:Nat)))
 | [.tup xs]=>some (.fz (.int (xs.length:Nat)))
 | [.str x]=>if x.length≤PySem.sizeLine then some (.fz (.int (x.length:Nat)))else none
 | [.dK ks _]=>some (.fz (.int (ks.length:Nat)))
 |_=>none
end
section
variable{X:Cx}{Z:Ent X.K}{a:Expr}{fa:FE}{pos:Pos}
end
end DL
namespace DL
open PySem PySem.Spec PyProof.Rows L2
variable{K:PySem.W.Frag}
section
variable{Z:Ent K}{H:Hp}{σ:L2.St}{Q:VK}{E:Ends}
noncomputable abbrev UR:=D×List Key×List D
noncomputable abbrev UG:=Addr→List D→List Key→List D→Option UR
noncomputable def spU(K:PySem.W.Frag)(n:Nat)(g:UG):Sp:=fun vs H Q _=>∃F a us ds kvs ep es r,vs=us++[V.ref a]∧Same F H∧Reps K F ds us∧ds.length=n∧Reps K F es (kvs.map (·.2))∧F a=none∧H a=some (.dK kvs ep)∧g a ds (kvs.map (·.1)) es=some r∧
 ∀v H' F' kvs' ep',Same (hole H [(a,.dK kvs ep)]) H'→Same F F'→Same F' H'→(∀(b:Addr) (o:HO),F' b=some o→F b=some o∨hole H [(a,.dK kvs ep)] b=none)→Rep K F' r.1 v→kvs'.map (·.1)=r.2.1→Reps K F' r.2.2 (kvs'.map (·.2))→F' a=none→H' a=some (.dK kvs' ep')→Q v H'
@[simp] noncomputable def runs:List FS→DSt→Option DSt
 | [],δ=>some δ
 |f::r,δ=>match f δ with
  |some (.nx δ1)=>runs r δ1
  |_=>none
noncomputable def Zzv(Z:Ent K):List FS→TS→TS
 | [],t=>t
 |f::r,t=>tSeq (Z2 Z f) (Zzv Z r t)
@[simp] noncomputable def Zwc(n:Nat)(a:Addr)(ds:List D)(ks:List Key)(es:List D):DSt:=ds.map (fun d=>some (.fz d))++some (.oQ a ks es)::List.replicate (n- ds.length- 1) none
@[simp] noncomputable def Zzw(a:Addr)(d:D):Option (Option SV)→Option UR
 |some (some (.oQ b ks es))=>if b=a then some (d,ks,es)else none
 |_=>none
@[simp] noncomputable def outU(fs:List FS)(fe:FE)(n:Nat):UG:=fun a ds ks es=>(runs fs (Zwc n a ds ks es)).bind fun δ=>(fe δ).bind fun p=>(frz p.1 p.2).bind fun q=>Zzw a q.1 (q.2[ds.length]?)
noncomputable def Z20(Z:Ent K)(f:FE):TE:=fun σ H Q=>∃F δ own rv δ',SR Z F H σ δ own∧f δ=some (rv,δ')∧
 ∀v H' F' own',Same F F'→SR Z F' H' σ δ' own'→RVS K F' σ rv v→Q v H'
noncomputable def Z1j(Z:Ent K)(i:Nat)(fd:FD):TA:=fun σ H R=>Zbg Z fd σ H fun vs H1=>∃x,σ[i]? =some (some x)∧R (vs++[x]) H1
open Classical in
noncomputable def Z1k(i n:Nat)(g:UG)(fd:FD):FE:=fun δ=>(fd δ).bind fun p=>if p.1.length=n then match p.2[i]? with
 |some (some (.oK ks es))=>if h:∃r,∀a,g a p.1 ks es=some r then some (.tmp (.fz h.choose.1),p.2.set i (some (.oK h.choose.2.1 h.choose.2.2)))else none
 |_=>none else none
@[simp] noncomputable def Z21(g:D→D→Option SV)(fa fb:FE):FE:=fun δ=>(fa δ).bind fun p=>(frz p.1 p.2).bind fun q=>(fb q.2).bind fun r=>(rdv r.1 r.2).bind fun d2=>(g q.1 d2).bind fun sv=>if sv.scal then some (.tmp sv,r.2)else none
@[simp] noncomputable def Z22(i:Nat)(fe:FE):FS:=fun δ=>match δ[i]? with
 |some (some (.ol _))=>(fe δ).bind fun p=>(frz p.1 p.2).bind fun q=>match q.2[i]? with
  |some (some (.ol xs))=>if xs.length<PySem.sizeLine then some (.nx (q.2.set i (some (.ol (xs++[q.1])))))else none
  |_=>none
 |_=>none
end
section
variable{X:Cx}{Z:Ent X.K}{a b c:Expr}{fa fb fc:FE}{pos:Pos}
end
end DL
namespace DL
open PySem PySem.Spec PyProof.Rows L2
variable{K:PySem.W.Frag}
noncomputable def SkD(ks:List Key)(m:Nat)(d:D):Prop:=∃vs,d= .dK ks vs∧ks.length=vs.length∧∀v∈vs,∃(x:Str) (ks2:List Key) (ys:List Str),v= .tup [.str x,.dK ks2 (ys.map D.str)]∧ys.length≤m
noncomputable def Skel(W:Addr→Prop)(H:Hp)(ks:List Key)(m:Nat)(v:V):Prop:=∃a kvs ep,v= .ref a∧W a∧H a=some (.dK kvs ep)∧kvs.map (·.1)=ks∧∀p∈kvs,∃t x b kvs2 ep2,p.2= .ref t∧W t∧H t=some (.tup [.str x,.ref b])∧W b∧H b=some (.dK kvs2 ep2)∧kvs2.length≤m∧∀q∈kvs2,∃y,q.2= .str y
noncomputable def Z23(Z:Ent K)(F:Hp)(own:Nat→Zn)(W:Addr→Prop):Prop:=∀b,W b→F b=none∧Z.h b=none∧∀i p,p∈own i→p.1≠b
section
variable{Z:Ent K}{F H:Hp}{σ:L2.St}{δ:DSt}{own:Nat→Zn}{W:Addr→Prop}
open Classical in
noncomputable def wH(W:Addr→Prop)(H F:Hp):Hp:=fun b=>if W b then H b else F b
noncomputable def entW(Z:Ent K)(W:Addr→Prop)(H F:Hp):Ent K:=⟨wH W H Z.h,F,Z.x⟩
end
section
variable{Z:Ent K}{H:Hp}{σ:L2.St}{Q:VK}{E:Ends}
noncomputable def Zzx(i j n:Nat)(ds:List D)(δ1:DSt)(sv:SV)(T1 T2:FT)(is:List D)(δ3:DSt):Prop:=
 ds.length=n∧(∀d∈ds,SV.scal (.fz d)=true)∧i≠j∧i<δ1.length∧j<δ1.length∧∃(ks:List Key) (m:Nat) (ks':List Key),SkD ks m sv.toD∧(∃δ2,T1 (δ1.set i (some (.fz sv.toD)))=some (false,δ2))∧is=ks'.map keyD∧(∀k∈ks',k∈ks)∧m+ks'.length<PySem.sizeLine∧
  ∀k∈ks',∀m' d,SkD ks m' d→∃δ4,T2 ((δ3.set i (some (.fz d))).set j (some (.fz (keyD k))))=some (false,δ4)
open Classical in
noncomputable def Z24(i j n:Nat)(g:List D→Option SV)(fd:FD)(T1:FT)(fi:FE)(T2:FT):FS:=fun δ=>(fd δ).bind fun p=>(g p.1).bind fun sv=>(dicI fi (p.2.set i none)).bind fun q=>
 if Zzx i j n p.1 p.2 sv T1 T2 q.1 q.2 then some (.nx ((q.2.set i none).set j none))else none
noncomputable abbrev tWay(i j:Nat)(K:PySem.W.Frag):TE:=tOp (rIx K) (Zus (tVar i) (tVar j)) (tC (.int 1))
noncomputable def allI(K:PySem.W.Frag)(fi:FE):TI:=fun σ H R=>∃Z':Ent K,Zb0 Z' (dicI fi) σ H R
end
section
variable{X:Cx}{Z:Ent X.K}{a b c:Expr}{fa fb fc:FE}{pos:Pos}
end
end DL
namespace SX
open PySem
noncomputable def Rise(l:List Nat):Prop:=l.Pairwise (· < ·)
noncomputable def At(xs:Array Nat)(j p:Nat):Prop:=p≤xs.size∧(∀i y,i<p→xs[i]? =some y→y<j)∧∀i y,p≤i→xs[i]? =some y→j≤y
structure Tab(B:Bool)(t:SetTable):Prop where
 led:t.led= !B
 dum:t.dummies= #[]
 rise:t.plain=true→Rise t.place.toList
end SX
namespace SX
open PySem PyProof.Rows
variable{prog:Program}{w:World}{A:Around}{E:Value→Shared→Prop}{s:Shared}
noncomputable abbrev nums(l:List (Int×Value)):List Int:=l.map fun e=>numOf e.2
noncomputable def Own(prog:Program)(w:World)(B:Bool)(o:Obj)(ks:List Int):Prop:=∃es ep t,o.ExactSet∧o.data= .set es ep t∧ElemsOf (intKind prog w) es.toList∧(nums es.toList).Perm ks∧t.fits es.size=true∧Tab B t∧es.size<scanBound
end SX
namespace SX
open PySem PySem.Spec PyProof.Rows
noncomputable def dd(val:Nat→Int):Nat→List Int
 |0=>[]
 |i+1=>if val i∈dd val i then dd val i else dd val i++[val i]
section
variable{prog:Program}{w:World}{A:Around}{R:Result→Shared→Prop}{I:Addr}{fp wr:List Addr}{G:Array GenState→Array GenState→Prop}{n:Nat}{P:Nat→Value→Prop}{St:Nat→Shared→Prop}
end
noncomputable abbrev By(w:World):Bool:=w.params.followText "set-order"
noncomputable abbrev setO(w:World):Obj:={cls:=.type "set",dict:=none,data:=.set #[] 0 (.fresh 0 0 (!By w))}
section
variable{prog:Program}{w:World}{A:Around}{E:Value→Shared→Prop}{s:Shared}
end
end SX
namespace SX
open PySem PySem.Spec PyProof.Rows
section
variable{prog:Program}{w:World}{A:Around}{E:Value→Shared→Prop}{s:Shared}
end
noncomputable abbrev itO(first:Value)(i:Nat)(r:Addr)(n ep:Nat):Obj:={cls:=.type "set_iterator",dict:=none,data:=.fields #[first,.int (i:Int) 0,.ref r,.int (n:Int) 0,.int (ep:Int) 0],slots:= #[]}
noncomputable abbrev tupO(ps:List Nat):Obj:={cls:=.type "tuple",data:=.seq (ps.map fun i:Nat=>rawInt i).toArray}
section
variable{prog:Program}{w:World}{A:Around}{E:Value→Shared→Prop}{s:Shared}{r:Addr}{o:Obj}{es:Array (Int×Value)}{ep:Nat}{t:SetTable}
end
end SX
namespace SX
open PySem PySem.Spec PyProof.Rows
section
variable{prog:Program}{w:World}{A:Around}{E:Value→Shared→Prop}{s:Shared}{I r:Addr}{o:Obj}{es:Array (Int×Value)}{ep:Nat}{t:SetTable}{slot i nx:Nat}{x:Value}{Q:Option Value→Shared→Prop}
noncomputable abbrev Z1l(prog:Program)(w:World)(A:Around)(s:Shared)(r:Addr)(slot i ep:Nat)(y:Option (Value×Nat)):Prop:=∀(R:Option (Value×Nat)→Shared→Prop) (E':Value→Shared→Prop),R y s→wpAny (model prog w) A (setNext r slot i ep) R E' s
variable{T:Addr}{ps:List Nat}
end
end SX
namespace SX
open PySem PySem.Spec PyProof.Rows
noncomputable abbrev lstO(acc:Array Value)(c:Nat):Obj:={cls:=.type "list",dict:=none,data:=.seq acc c,slots:= #[]}
structure Tells(prog:Program)(w:World)(A:Around)(I:Addr)(fp:List Addr)(ord:List Value)(St:Nat→Heap→Prop):Prop where
 mem:I∈fp
 keep:∀i h h',St i h→(∀b∈fp,∀o,h.get? b=some o→h'.get? b=some o)→St i h'
 step:∀i (s:Shared) x (Q:Option Value→Shared→Prop) (E:Value→Shared→Prop),St i s.heap→ord[i]? =some x→(∀h',St (i+1) h'→Heap.SameBut I s.heap h'→Q (some x) {s with heap:=h'})→wpAny (model prog w) A (pyNext (.ref I)) Q E s
 stop:∀(s:Shared) (Q:Option Value→Shared→Prop) (E:Value→Shared→Prop),St ord.length s.heap→(∀h',Heap.ExtBut I s.heap h'→Q none {s with heap:=h'})→wpAny (model prog w) A (pyNext (.ref I)) Q E s
section
variable{prog:Program}{w:World}{A:Around}{E:Value→Shared→Prop}{R:Result→Shared→Prop}{I S:Addr}{fp:List Addr}{ord:List Value}{St:Nat→Heap→Prop}
end
end SX
namespace SX
open PySem PySem.Spec PyProof.Rows
section
variable{prog:Program}{w:World}{A:Around}{E:Value→Shared→Prop}{s:Shared}{I r T:Addr}{o:Obj}{es:Array (Int×Value)}{ep:Nat}{t:SetTable}
noncomputable def sl(t:SetTable):Nat→Nat
 |0=>0
 |i+1=>t.place.getD i 0+1
end
end SX
namespace SX
open PySem PySem.Spec PyProof.Rows
section
variable{prog:Program}{w:World}{A:Around}{E:Value→Shared→Prop}{s:Shared}{I r S:Addr}{o:Obj}{ks:List Int}
end
end SX
namespace SX
open PySem PySem.Spec PyProof.Rows
section
variable{prog:Program}{w:World}{A:Around}{E:Value→Shared→Prop}{s:Shared}{r:Addr}{o:Obj}{ks:List Int}
end
end SX
namespace SX
open PySem PySem.Spec PyProof.Rows
noncomputable def srt(ns:List Int):List Int:=(dd (fun i=>ns.getD i 0) ns.length).mergeSort fun a b=>decide (a≤b)
end SX
namespace L2
open PySem PySem.Spec PyProof.Rows SX
section
variable{X:Cx}
noncomputable def rSS(K:PySem.W.Frag):List V→Hp→VK→Prop:=fun xs H Q=>∃l ns,xs=[.ref l]∧SqL K H l (ns.map V.int)∧ns.length<64∧∀q,H q=none→Q (.ref q) (upd H q (.lst ((srt ns).map V.int)))
theorem Zeh:bootBuiltins "sorted"=some (.builtin "sorted"):=by kernel_rfl
end
end L2
namespace DL
open PySem PySem.Spec PyProof.Rows L2 SX
variable{K:PySem.W.Frag}
@[simp] noncomputable def ints?:List D→Option (List Int)
 | []=>some []
 | .int i::r=>(ints? r).bind fun l=>some (i::l)
 |_=>none
noncomputable def srtD:List D→Option SV
 | [.lst xs]=>(ints? xs).bind fun ns=>if ns.length<64 then some (.ol ((srt ns).map D.int))else none
 |_=>none
section
variable{Z:Ent K}{H:Hp}{σ:L2.St}{Q:VK}{E:Ends}
end
section
variable{X:Cx}{Z:Ent X.K}{a b c:Expr}{fa fb fc:FE}{pos:Pos}
end
end DL
namespace TX
open PySem PySem.W PyProof.Rows
noncomputable def Good{α:Type}(lt:Nat→Nat→Bool)(n:Nat)(R:α→Prop):KasT α→Prop
 | .ret a=>R a
 | .ask i j k=>i<n∧j<n∧Good lt n R (k (lt i j))
theorem Good.bind{α β:Type}{lt:Nat→Nat→Bool}{n:Nat}{R:α→Prop}{S:β→Prop}{f:α→KasT β}(h:∀a,R a→Good lt n S (f a)):∀{t:KasT α},Good lt n R t→Good lt n S (t.bind f)
 | .ret a,g=>h a g
 | .ask i j k,g=>⟨g.1,g.2.1,Good.bind h (t:=k (lt i j)) g.2.2⟩
theorem Good.mono{α:Type}{lt:Nat→Nat→Bool}{n:Nat}{R S:α→Prop}(h:∀a,R a→S a):∀{t:KasT α},Good lt n R t→Good lt n S t
 | .ret a,g=>h a g
 | .ask i j k,g=>⟨g.1,g.2.1,Good.mono h (t:=k (lt i j)) g.2.2⟩
theorem Good.wp{α:Type}{lt:Nat→Nat→Bool}{n:Nat}{R:α→Prop}{cmp:Nat→Nat→(Bool→Shared→Prop)→Shared→Prop}{I:Shared→Prop}{Q:α→Shared→Prop}
  (hc:∀i j C s,i<n→j<n→I s→(∀s',I s'→C (lt i j) s')→cmp i j C s) (hq:∀a s,R a→I s→Q a s):∀{t:KasT α} {s:Shared},Good lt n R t→I s→t.kasWp cmp Q s
 | .ret a,s,g,i=>hq a s g i
 | .ask i j k,s,g,x=>hc i j _ s g.1 g.2.1 x fun s' x'=>Good.wp hc hq (t:=k (lt i j)) g.2.2 x'
section
variable{O:KeyOrd}{key:Nat→O.α}{n:Nat}
noncomputable abbrev ltOf(O:KeyOrd)(key:Nat→O.α)(i j:Nat):Bool:=O.blt (key i) (key j)
noncomputable def Kp(key:Nat→O.α)(p:Array Nat)(i:Nat):O.α:=key (p.getD i 0)
noncomputable def Srt(key:Nat→O.α)(p:Array Nat)(k:Nat):Prop:=∀i j,i≤j→j<k→O.kle (Kp key p i) (Kp key p j)
noncomputable def Dec(key:Nat→O.α)(p:Array Nat)(k:Nat):Prop:=∀i j,i≤j→j<k→O.kle (Kp key p j) (Kp key p i)
noncomputable def Pm(n:Nat)(p:Array Nat):Prop:=p.Perm (List.toArray (List.range n))
theorem Pm.size{p:Array Nat}(h:Pm n p):p.size=n:=by
 have:=(Array.perm_iff_toList_perm.mp h).length_eq
 simpa using this
theorem Pm.lt{p:Array Nat}(h:Pm n p){i:Nat}(hi:i<n):p.getD i 0<n:=by
 have hs:i<p.size:=by rw[h.size];exact hi
 have hm:p[i]∈(List.range n):=(Array.perm_iff_toList_perm.mp h).mem_iff.mp (by simp)
 rw[Array.getD_eq_getD_getElem?,getElem?_pos p i hs]
 exact List.mem_range.mp hm
theorem Zc1{p q:Array Nat}{i j:Nat}(h:p[i]? =q[j]?):Kp key p i=Kp key q j:=by
 unfold Kp
 rw[Array.getD_eq_getD_getElem?,Array.getD_eq_getD_getElem?,h]
theorem Zg9{p:Array Nat}{i j:Nat}(hj:j≤p.size)(k:Nat):Kp key (kas_rev p i j) k=if i≤k∧k<j then Kp key p (i+j- 1- k)else Kp key p k:=by
 have e:=getElem?_mirror_all (xs:=p) (i:=i) hj k
 unfold kas_rev
 by_cases h:i≤k∧k<j
 ·rw[if_pos h]at e⊢;exact Zc1 e
 ·rw[if_neg h]at e⊢;exact Zc1 e
theorem Zqg{p:Array Nat}{src d:Nat}(hs:src<p.size)(hd:d≤src)(k:Nat):Kp key (bubble p src d) k=if k=src- d then Kp key p src else if src- d<k∧k≤src then Kp key p (k- 1)else Kp key p k:=by
 have e:=getElem?_bubble hs d hd k
 by_cases h1:k=src- d
 ·rw[if_pos h1]at e⊢;exact Zc1 e
 ·rw[if_neg h1]at e⊢
  by_cases h2:src- d<k∧k≤src
  ·rw[if_pos h2]at e⊢;exact Zc1 e
  ·rw[if_neg h2]at e⊢;exact Zc1 e
theorem Pm.rev{p:Array Nat}(h:Pm n p)(i j:Nat):Pm n (kas_rev p i j):=(mirror_perm p i j _).trans h
theorem Pm.bub{p:Array Nat}(h:Pm n p)(i j:Nat):Pm n (bubble p i j):=(bubble_perm p i j).trans h
theorem Zfz{p:Array Nat}(hp:Pm n p):∀(f m:Nat),1≤m→m+f≤n→Srt key p m→
  Good (ltOf O key) n (fun r=>m≤r∧r≤m+f∧Srt key p r∧(r=m+f∨O.klt (Kp key p r) (Kp key p (r- 1)))) (kas_asc p f m)
 |0,m,_,_,hs=>⟨Nat.le_refl _,Nat.le_refl _,hs,.inl rfl⟩
 |f+1,m,h1,hm,hs=>by
  refine⟨hp.lt (by omega),hp.lt (by omega),?_⟩
  show Good _ _ _ (if O.blt (Kp key p m) (Kp key p (m- 1))=true then _ else _)
  by_cases c:O.blt (Kp key p m) (Kp key p (m- 1))=true
  ·rw[if_pos c]
   exact⟨Nat.le_refl _,by omega,hs,.inr c⟩
  ·rw[if_neg c]
   refine(Zfz hp f (m+1) (by omega) (by omega) fun i j hij hj=>?_).mono fun r ⟨a,b,d,e⟩=>⟨by omega,by omega,d,by rcases e with e|e;exact .inl (by omega);exact .inr e⟩
   by_cases hjm:j<m
   ·exact hs i j hij hjm
   ·have:j=m:=by omega
    subst this
    by_cases hi:i=j
    ·subst hi;exact KeyOrd.kle_refl _
    ·exact KeyOrd.kle_trans (hs i (j- 1) (by omega) (by omega)) (KeyOrd.kle_of_not_klt c)
theorem Zc2:∀(f:Nat) (p:Array Nat) (m q:Nat),Pm n p→1≤m→m+f≤n→Dec key p m→q+1≤m→(∀i,m- (q+1)≤i→i<m→Kp key p i=Kp key p (m- 1))→
  Good (ltOf O key) n (fun r=>Pm n r.1∧m≤r.2.1∧r.2.1≤m+f∧Dec key r.1 r.2.1∧r.2.2+1≤r.2.1∧∀i,r.2.1- (r.2.2+1)≤i→i<r.2.1→Kp key r.1 i=Kp key r.1 (r.2.1- 1)) (kas_desc f p m q)
 |0,p,m,q,hp,_,_,hs,hq,he=>⟨hp,Nat.le_refl _,Nat.le_refl _,hs,hq,he⟩
 |f+1,p,m,q,hp,h1,hm,hs,hq,he=>by
  have hsz:m≤p.size:=by rw[hp.size];omega
  refine⟨hp.lt (by omega),hp.lt (by omega),?_⟩
  show Good _ _ _ (if O.blt (Kp key p m) (Kp key p (m- 1))=true then _ else _)
  have up:∀{r:Array Nat×Nat×Nat},(Pm n r.1∧m+1≤r.2.1∧r.2.1≤m+1+f∧Dec key r.1 r.2.1∧r.2.2+1≤r.2.1∧∀i,r.2.1- (r.2.2+1)≤i→i<r.2.1→Kp key r.1 i=Kp key r.1 (r.2.1- 1))→
    (Pm n r.1∧m≤r.2.1∧r.2.1≤m+(f+1)∧Dec key r.1 r.2.1∧r.2.2+1≤r.2.1∧∀i,r.2.1- (r.2.2+1)≤i→i<r.2.1→Kp key r.1 i=Kp key r.1 (r.2.1- 1)):=
   fun⟨a,b,c,d⟩=>⟨a,by omega,by omega,d⟩
  have step1:∀x:Array Nat,O.blt (Kp key p m) (Kp key p (m- 1))=true→(∀k,Kp key x k=Kp key p k)→Dec key x (m+1):=by
   intro x c hk i j hij hj
   rw[hk,hk]
   by_cases hjx:j<m
   ·exact hs i j hij hjx
   ·have hj':j=m:=by omega
    subst hj'
    by_cases hi':i=j
    ·subst hi';exact KeyOrd.kle_refl _
    ·exact KeyOrd.kle_trans (KeyOrd.kle_of_klt c) (hs i (j- 1) (by omega) (by omega))
  have one:∀x:Array Nat,∀i,m+1- (0+1)≤i→i<m+1→Kp key x i=Kp key x (m+1- 1):=fun x i a b=>by congr 1;omega
  by_cases c:O.blt (Kp key p m) (Kp key p (m- 1))=true
  ·rw[if_pos c]
   by_cases hq0:q > 0
   ·rw[if_pos hq0]
    refine(Zc2 f (kas_rev p (m- (q+1)) m) (m+1) 0 (hp.rev _ _) (by omega) (by omega) (step1 _ c fun k=>?_) (by omega) (one _)).mono fun r=>up
    rw[Zg9 hsz]
    by_cases hk:m- (q+1)≤k∧k<m
    ·rw[if_pos hk,he _ (by omega) (by omega),he k hk.1 hk.2]
    ·rw[if_neg hk]
   ·rw[if_neg hq0]
    exact(Zc2 f p (m+1) 0 hp (by omega) (by omega) (step1 _ c fun _=>rfl) (by omega) (one _)).mono fun r=>up
  ·rw[if_neg c]
   refine⟨hp.lt (by omega),hp.lt (by omega),?_⟩
   show Good _ _ _ (if O.blt (Kp key p (m- 1)) (Kp key p m)=true then _ else _)
   by_cases d:O.blt (Kp key p (m- 1)) (Kp key p m)=true
   ·rw[if_pos d]
    exact⟨hp,Nat.le_refl _,Nat.le_add_right _ _,hs,hq,he⟩
   ·rw[if_neg d]
    have ex:Kp key p m=Kp key p (m- 1):=KeyOrd.kle_antisymm (by simpa[KeyOrd.kle]using d) (by simpa[KeyOrd.kle]using c)
    refine(Zc2 f p (m+1) (q+1) hp (by omega) (by omega) (fun i j hij hj=>?_) (by omega) fun i a b=>?_).mono fun r=>up
    ·by_cases hjx:j<m
     ·exact hs i j hij hjx
     ·have hj':j=m:=by omega
      subst hj'
      by_cases hi':i=j
      ·subst hi';exact KeyOrd.kle_refl _
      ·rw[ex];exact hs i (j- 1) (by omega) (by omega)
    ·rw[show m+1- 1=m by omega]
     by_cases hix:i=m
     ·subst hix;rfl
     ·rw[ex];exact he i (by omega) (by omega)
noncomputable abbrev Ct(key:Nat→O.α)(n:Nat)(r:Nat×Array Nat):Prop:=Pm n r.2∧1≤r.1∧r.1≤n∧Srt key r.2 r.1
theorem Ze6{p:Array Nat}(hp:Pm n p){m:Nat}(h1:1≤m)(hm:m≤n)(hs:Dec key p m):Good (ltOf O key) n (Ct key n) (kas_tail3 m n p):=by
 have hsz:m≤p.size:=by rw[hp.size];exact hm
 refine Good.bind (R:=fun r=>m≤r∧r≤m+(n- m)∧Srt key (kas_rev p 0 m) r∧_) (fun r ⟨a,b,c,_⟩=>⟨hp.rev _ _,by show 1≤r;omega,by show r≤n;omega,c⟩) (Zfz (hp.rev 0 m) (n- m) m h1 (by omega) fun i j hij hj=>?_)
 rw[Zg9 hsz,Zg9 hsz,if_pos (by omega),if_pos (by omega)]
 exact hs _ _ (by omega) (by omega)
theorem Zc3{p:Array Nat}(hp:Pm n p){m:Nat}(hm:m+1≤n)(hs:Dec key p (m+1)):Good (ltOf O key) n (Ct key n) (kas_descPart m n p):=by
 refine Good.bind (fun r h=>?_) (Zc2 (n- (m+1)) p (m+1) 0 hp (by omega) (by omega) hs (by omega) fun i a b=>by congr 1;omega)
 obtain⟨a,b,c,d,e,g⟩:=h
 have hsz:r.2.1≤r.1.size:=by rw[a.size];omega
 by_cases hq:r.2.2 > 0
 ·rw[if_pos hq]
  refine Ze6 (a.rev _ _) (by omega) (by omega) fun i j hij hj=>?_
  have k:∀x,Kp key (kas_rev r.1 (r.2.1- (r.2.2+1)) r.2.1) x=Kp key r.1 x:=fun x=>by
   rw[Zg9 hsz]
   by_cases hk:r.2.1- (r.2.2+1)≤x∧x<r.2.1
   ·rw[if_pos hk,g _ (by omega) (by omega),g x hk.1 hk.2]
   ·rw[if_neg hk]
  rw[k,k]
  exact d i j hij hj
 ·rw[if_neg hq]
  exact Ze6 a (by omega) (by omega) d
theorem Zkd{p:Array Nat}(hp:Pm n p)(h1:1≤n):Good (ltOf O key) n (Ct key n) (kas_count n p):=by
  refine Good.bind (fun m h=>?_) (Zfz (key:=key) hp (n- 1) 1 (Nat.le_refl _) (by omega) fun i j hij hj=>by (have:i=j:=by omega);subst this;exact KeyOrd.kle_refl _)
  obtain⟨a,b,c,d⟩:=h
  by_cases hm:(m==n)=true
  · rw[if_pos hm]
    exact⟨hp,a,by show m≤n;omega,c⟩
  · rw[if_neg hm]
    have hne:m≠n:=fun z=>hm (by rw[z];exact beq_self_eq_true n)
    have br:O.klt (Kp key p m) (Kp key p (m- 1)):=by
      rcases d with d|d
      · omega
      · exact d
    by_cases h2:m > 1
    · rw[if_pos h2]
      refine⟨hp.lt (by omega),hp.lt (by omega),?_⟩
      show Good _ _ _ (if O.blt (Kp key p 0) (Kp key p (m- 1))=true then _ else _)
      by_cases c0:O.blt (Kp key p 0) (Kp key p (m- 1))=true
      · rw[if_pos c0]
        exact⟨hp,a,by show m≤n;omega,c⟩
      · rw[if_neg c0]
        have hsz:m≤p.size:=by rw[hp.size];omega
        have eq:∀i,i<m→Kp key p i=Kp key p (m- 1):=fun i hi=>
          KeyOrd.kle_antisymm (c i (m- 1) (by omega) (by omega)) (KeyOrd.kle_trans (by simpa[KeyOrd.kle]using c0) (c 0 i (by omega) hi))
        have k:∀x,Kp key (kas_rev p 0 m) x=Kp key p x:=fun x=>by
          rw[Zg9 hsz]
          by_cases hk:0≤x∧x<m
          · rw[if_pos hk,eq _ (by omega),eq x hk.2]
          · rw[if_neg hk]
        refine Zc3 (hp.rev 0 m) (by omega) fun i j hij hj=>?_
        rw[k,k]
        by_cases hjm:j=m
        · subst hjm
          by_cases hi:i=j
          · subst hi;exact KeyOrd.kle_refl _
          · rw[eq i (by omega)];exact KeyOrd.kle_of_klt br
        · rw[eq i (by omega),eq j (by omega)];exact KeyOrd.kle_refl _
    · rw[if_neg h2]
      have:m=1:=by omega
      subst this
      refine Zc3 hp (by omega) fun i j hij hj=>?_
      by_cases hi:i=j
      · subst hi;exact KeyOrd.kle_refl _
      · have:i=0:=by omega
        subst this
        have:j=1:=by omega
        subst this
        exact KeyOrd.kle_of_klt br
theorem Zdf{p:Array Nat}(hp:Pm n p){k:Nat}(hk:k<n)(hs:Srt key p k):∀(f l r:Nat),l≤r→r≤k→r- l≤f→(∀i,i<l→O.kle (Kp key p i) (Kp key p k))→(∀i,r≤i→i<k→O.kle (Kp key p k) (Kp key p i))→
  Good (ltOf O key) n (fun m=>m≤k∧(∀i,i<m→O.kle (Kp key p i) (Kp key p k))∧∀i,m≤i→i<k→O.kle (Kp key p k) (Kp key p i)) (kas_place p k f l r)
 |0,l,r,hlr,hr,hf,h1,h2=>⟨by omega,h1,fun i a b=>h2 i (by omega) b⟩
 |f+1,l,r,hlr,hr,hf,h1,h2=>by
  show Good _ _ _ (if l≥r then _ else _)
  by_cases c:l≥r
  ·rw[if_pos c]
   exact⟨by omega,h1,fun i a b=>h2 i (by omega) b⟩
  ·rw[if_neg c]
   refine⟨hp.lt hk,hp.lt (by omega),?_⟩
   show Good _ _ _ (if O.blt (Kp key p k) (Kp key p ((l+r) / 2))=true then _ else _)
   by_cases d:O.blt (Kp key p k) (Kp key p ((l+r) / 2))=true
   ·rw[if_pos d]
    exact Zdf hp hk hs f l ((l+r) / 2) (by omega) (by omega) (by omega) h1 fun i a b=>KeyOrd.kle_trans (KeyOrd.kle_of_klt d) (hs _ i a b)
   ·rw[if_neg d]
    exact Zdf hp hk hs f ((l+r) / 2+1) r (by omega) hr (by omega) (fun i a=>KeyOrd.kle_trans (hs i ((l+r) / 2) (by omega) (by omega)) (KeyOrd.kle_of_not_klt d)) h2
theorem Zje:∀(f:Nat) (p:Array Nat) (k:Nat),Pm n p→k+f=n→Srt key p k→Good (ltOf O key) n (fun q=>Pm n q∧Srt key q n) (kas_bin f p k)
  |0,p,k,hp,hk,hs=>⟨hp,by (have:k=n:=hk);rw[←this];exact hs⟩
  |f+1,p,k,hp,hk,hs=>by
    refine Good.bind (fun l h=>?_) (Zdf hp (by omega) hs k 0 k (Nat.zero_le _) (Nat.le_refl _) (by omega) (fun i hi=>absurd hi (Nat.not_lt_zero _)) fun i a b=>absurd b (by omega))
    obtain⟨hl,a,b⟩:=h
    have hsz:k<p.size:=by rw[hp.size];omega
    refine Zje f (bubble p k (k- l)) (k+1) (hp.bub _ _) (by omega) fun i j hij hj=>?_
    rw[Zqg hsz (by omega),Zqg hsz (by omega)]
    have e:k- (k- l)=l:=by omega
    rw[e]
    by_cases i1:i=l
    · rw[if_pos i1]
      by_cases j1:j=l
      · rw[if_pos j1];exact KeyOrd.kle_refl _
      · rw[if_neg j1,if_pos (by omega)]
        exact b (j- 1) (by omega) (by omega)
    · rw[if_neg i1]
      by_cases i2:l<i∧i≤k
      · rw[if_pos i2,if_neg (by omega),if_pos (by omega)]
        exact hs _ _ (by omega) (by omega)
      · rw[if_neg i2]
        by_cases j1:j=l
        · rw[if_pos j1];exact a i (by omega)
        · rw[if_neg j1]
          by_cases j2:l<j∧j≤k
          · rw[if_pos j2];exact hs _ _ (by omega) (by omega)
          · rw[if_neg j2];exact hs _ _ hij (by omega)
theorem Zmu(h1:1≤n):Good (ltOf O key) n (fun q=>Pm n q∧Srt key q n) (kas_sort n):=by
 refine Good.bind (fun r h=>?_) (Zkd (key:=key) (Array.Perm.refl _) h1)
 obtain⟨a,b,c,d⟩:=h
 by_cases hr:r.1<n
 ·rw[if_pos hr]
  have e:max r.1 1=r.1:=by omega
  rw[e]
  exact Zje _ _ _ a (by omega) d
 ·rw[if_neg hr]
  have:r.1=n:=by omega
  exact⟨a,by rw[this]at d;exact d⟩
end
end TX
namespace TX
open PySem PySem.SeqAt
open AutoSeq1 (wpAny_loadPart')
open MeetsSeq MeetsSeq2 MeetsSeq3 SeqRoads2
noncomputable def LtAt(A:Around)(s:Shared)(y x:Value)(b:Bool):Prop:=
 ∀(prog:Program) (w:World) (E:Value→Shared→Prop) (Q:Value→Shared→Prop),Q (.bool b) s→wpAny (model prog w) A (richCompare .Lt y x) Q E s
noncomputable def lexA(fin:Bool)(e l:Nat→Bool):Nat→Nat→Bool
 |0,_=>fin
 |k+1,i=>if e i=true then lexA fin e l k (i+1)else l i
theorem Zmv(l b:Addr)(items items2:Array Value)(n n2:Nat)(dd dd2:Option Addr)(sl sl2:Array (Option Value))(e lt:Nat→Bool)(k:Nat):
  ∀i:Nat,(∀j,j<i→e j=true)→min items.size items2.size- i=k→Meets (Builtin.«list.__eq__.loop» ⟨[.ref l,.ref b,rawInt i,rawInt 0],[]⟩)
   (fun A R s=>s.heap.get? l=some {cls:=.type "list",dict:=dd,data:=.seq items n,slots:=sl}∧s.heap.get? b=some {cls:=.type "list",dict:=dd2,data:=.seq items2 n2,slots:=sl2}∧
    (∀j (h1:j<items.size) (h2:j<items2.size),(∀i,i<j→e i=true)→EqAt A.in1 s items[j] items2[j] (e j))∧(∀j (h1:j<items.size) (h2:j<items2.size),(∀i,i<j→e i=true)→e j=false→LtAt A.in1 s items[j] items2[j] (lt j))∧
    R (.ok (.ret (.bool (lexA (decide (items.size<items2.size)) e lt k i)))) s):=by
 induction k with
 |zero=>
  intro i hpre hk prog w A R s h
  obtain⟨hp,g,d,tk,os⟩:=s;obtain⟨hl,hb,he,ht,h⟩:=h
  wp_walk using wpAny_loadPart' hl,wpAny_loadPart' hb
  have hi:items[((i:Nat):Int).toNat]? =none∨items2[((i:Nat):Int).toNat]? =none:=by
   rcases Nat.lt_or_ge i items.size with z|z
   ·right;simp;omega
   ·left;simp;omega
  rcases h1:items[((i:Nat):Int).toNat]? with _|x
  ·wp_walk using wpAny_loadPart' hl,wpAny_loadPart' hb
   exact h
  ·rcases hi with hi|hi
   ·rw[h1]at hi;cases hi
   ·rw[hi]
    wp_walk using wpAny_loadPart' hl,wpAny_loadPart' hb
    exact h
 |succ k ih=>
  intro i hpre hk prog w A R s h
  obtain⟨hp,g,d,tk,os⟩:=s;obtain⟨hl,hb,he,ht,h⟩:=h
  wp_walk using wpAny_loadPart' hl,wpAny_loadPart' hb
  have hlt:i<items.size:=by omega
  have hlt2:i<items2.size:=by omega
  have hi1:items[((i:Nat):Int).toNat]? =some items[i]:=by simp[hlt]
  have hi2:items2[((i:Nat):Int).toNat]? =some items2[i]:=by simp[hlt2]
  have hc:((i:Int)+1)=((i+1:Nat):Int):=by push_cast;rfl
  rw[hi1,hi2]
  refine wpAny_bind (he i hlt hlt2 hpre prog w _ _ ?_)
  cases hb':e i with
  |true=>
   have h':R (.ok (.ret (.bool (lexA (decide (items.size<items2.size)) e lt k (i+1))))) ⟨hp,g,d,tk,os⟩:=by
    have z:=h
    unfold lexA at z
    rw[if_pos hb']at z
    exact z
   wp_walk
   rw[hc]
   exact⟨plainId_quiet plain_eq_loop _,codeAny_builtin entry_eq_loop (by
    rw[Around.under_plainId plain_eq_loop _]
    exact ih (i+1) (fun j hj=>by
     rcases Nat.lt_or_ge j i with z|z
     ·exact hpre j z
     ·have:j=i:=by omega
      rw[this];exact hb') (by omega) prog w A R _ ⟨hl,hb,he,ht,h'⟩)⟩
  |false=>
   have h':R (.ok (.ret (.bool (lt i)))) ⟨hp,g,d,tk,os⟩:=by
    have z:=h
    unfold lexA at z
    rw[if_neg (by rw[hb'];simp)]at z
    exact z
   wp_walk using wpAny_loadPart' hl,wpAny_loadPart' hb
   rw[hi1,hi2]
   refine wpAny_bind (ht i hlt hlt2 hpre hb' prog w _ _ ?_)
   wp_walk
   exact h'
theorem Zha(l b:Addr)(items items2:Array Value)(n n2:Nat)(dd dd2:Option Addr)(sl sl2:Array (Option Value))(e lt:Nat→Bool):
  Meets (Builtin.«list.__lt__» ⟨[.ref l,.ref b],[]⟩)
   (fun A R s=>s.heap.get? l=some {cls:=.type "list",dict:=dd,data:=.seq items n,slots:=sl}∧s.heap.get? b=some {cls:=.type "list",dict:=dd2,data:=.seq items2 n2,slots:=sl2}∧
    (∀j (h1:j<items.size) (h2:j<items2.size),(∀i,i<j→e i=true)→EqAt A.in1 s items[j] items2[j] (e j))∧(∀j (h1:j<items.size) (h2:j<items2.size),(∀i,i<j→e i=true)→e j=false→LtAt A.in1 s items[j] items2[j] (lt j))∧
    R (.ok (.ret (.bool (lexA (decide (items.size<items2.size)) e lt (min items.size items2.size) 0)))) s):=by
 intro prog w A R s h
 obtain⟨hp,g,d,tk,os⟩:=s;obtain⟨hl,hb,he,ht,h⟩:=h
 have f3:=AutoSeq1.sub_list_list
 wp_walk using wpAny_loadPart' hl,wpAny_loadPart' hb
 exact⟨plainId_quiet plain_eq_loop _,codeAny_builtin entry_eq_loop (by
  rw[Around.under_plainId plain_eq_loop _]
  exact Zmv l b items items2 n n2 dd dd2 sl sl2 e lt _ 0 (fun j hj=>absurd hj (Nat.not_lt_zero _)) rfl prog w A R _ ⟨hl,hb,he,ht,h⟩)⟩
theorem Zke(l b:Addr)(items items2:Array Value)(n n2:Nat)(dd dd2:Option Addr)(sl sl2:Array (Option Value))(e lt:Nat→Bool):
  Meets (Builtin.«tuple.__lt__» ⟨[.ref l,.ref b],[]⟩)
   (fun A R s=>s.heap.get? l=some {cls:=.type "tuple",dict:=dd,data:=.seq items n,slots:=sl}∧s.heap.get? b=some {cls:=.type "tuple",dict:=dd2,data:=.seq items2 n2,slots:=sl2}∧
    (∀j (h1:j<items.size) (h2:j<items2.size),(∀i,i<j→e i=true)→EqAt A.in1 s items[j] items2[j] (e j))∧(∀j (h1:j<items.size) (h2:j<items2.size),(∀i,i<j→e i=true)→e j=false→LtAt A.in1 s items[j] items2[j] (lt j))∧
    R (.ok (.ret (.bool (lexA (decide (items.size<items2.size)) e lt (min items.size items2.size) 0)))) s):=
 .of_wp fun prog w A R s h=>by
  obtain⟨hp,g,d,tk,os⟩:=s;obtain⟨hl,hb,he,ht,h⟩:=h
  have f2:=AutoSeq1.sub_tuple_tuple
  have hZ:(items.toList.zip items2.toList).length=min items.size items2.size:=by simp
  wp_walk using wpAny_loadPart' hl,wpAny_loadPart' hb,wpAny_forIn_list _ (fun rest b s'=>b.1=none∧s'=⟨hp,g,d,tk,os⟩∧∃i,rest=(items.toList.zip items2.toList).drop i∧(∀j,j<i→e j=true)∧
   R (.ok (.ret (.bool (lexA (decide (items.size<items2.size)) e lt (min items.size items2.size- i) i)))) ⟨hp,g,d,tk,os⟩) _
  case turn=>
   rintro⟨y,x⟩ rest b s' ⟨hb',rfl,i,hz,hpre,hR⟩
   have hlt:i<(items.toList.zip items2.toList).length:=by
    rcases Nat.lt_or_ge i (items.toList.zip items2.toList).length with h'|h'
    ·exact h'
    ·rw[List.drop_of_length_le h']at hz;cases hz
   have hm:i<min items.size items2.size:=hZ▸hlt
   have h1:i<items.size:=Nat.lt_of_lt_of_le hm (Nat.min_le_left _ _)
   have h2:i<items2.size:=Nat.lt_of_lt_of_le hm (Nat.min_le_right _ _)
   rw[List.drop_eq_getElem_cons hlt]at hz
   injection hz with hyx hrest
   have hy:y=items[i]:=by have:=congrArg Prod.fst hyx;simpa using this
   have hx:x=items2[i]:=by have:=congrArg Prod.snd hyx;simpa using this
   subst hy hx
   have hk:min items.size items2.size- i=(min items.size items2.size- (i+1))+1:=by omega
   rw[hk]at hR
   unfold lexA at hR
   refine wpAny_bind (he i h1 h2 hpre prog w _ _ ?_)
   cases hy:e i with
   |true=>
    rw[if_pos hy]at hR
    wp_walk
    exact⟨rfl,rfl,i+1,hrest,fun j hj=>by
     rcases Nat.lt_or_ge j i with z|z
     ·exact hpre j z
     ·have:j=i:=by omega
      rw[this];exact hy,hR⟩
   |false=>
    rw[if_neg (by rw[hy];simp)]at hR
    simp only[Bool.not_false,if_true]
    refine wpAny_bind (wpAny_rule (wpAny_bind (ht i h1 h2 hpre hy prog w _ _ ?_)))
    wp_walk
    exact⟨_,rfl,hR⟩
  case fin=>
   rintro⟨b1,b2⟩ s' ⟨hb',rfl,i,hz,hpre,hR⟩
   simp only at hb'
   subst hb'
   have hge:min items.size items2.size≤i:=by
    rcases Nat.lt_or_ge i (items.toList.zip items2.toList).length with h'|h'
    ·rw[List.drop_eq_getElem_cons h']at hz;cases hz
    ·exact hZ▸h'
   have hk:min items.size items2.size- i=0:=by omega
   rw[hk]at hR
   wp_walk
   exact⟨_,rfl,hR⟩
  case h=>
   exact⟨rfl,rfl,0,rfl,fun j hj=>absurd hj (Nat.not_lt_zero _),by simpa using h⟩
section
variable{A:Around}{s:Shared}
theorem LtAt.lists{l b:Addr}{items items2:Array Value}{e lt:Nat→Bool}(hl:s.heap.IsList l items)(hb:s.heap.IsList b items2)(hu:A.units<cLine)
  (he:∀j (h1:j<items.size) (h2:j<items2.size),(∀i,i<j→e i=true)→EqAt A.in1 s items[j] items2[j] (e j)) (ht:∀j (h1:j<items.size) (h2:j<items2.size),(∀i,i<j→e i=true)→e j=false→LtAt A.in1 s items[j] items2[j] (lt j)):
  LtAt A s (.ref l) (.ref b) (lexA (decide (items.size<items2.size)) e lt (min items.size items2.size) 0):=fun prog w E Q h=>by
 obtain⟨⟨cls,dd,data,sl⟩,ho,hc,n,hd⟩:=id hl
 obtain⟨⟨cls2,dd2,data2,sl2⟩,ho2,hc2,n2,hd2⟩:=id hb
 simp only at hc hd hc2 hd2
 subst hc hd hc2 hd2
 exact richCompare_meets_room (op:=.Lt) ⟨_,ho,rfl⟩ ⟨_,ho2,rfl⟩ F.slot_list_lt F.entry_list_lt (F.args_list_lt_2 _ _) (Zha l b items items2 n n2 dd dd2 sl sl2 e lt)
  ⟨ho,ho2,he,ht,show Value.bool (lexA (decide (items.size<items2.size)) e lt (min items.size items2.size) 0)≠Value.notImplemented∧Q (.bool (lexA (decide (items.size<items2.size)) e lt (min items.size items2.size) 0)) s from⟨(fun x=>nomatch x),h⟩⟩ hu
theorem LtAt.tuples{l b:Addr}{items items2:Array Value}{e lt:Nat→Bool}(hl:s.heap.IsTuple l items)(hb:s.heap.IsTuple b items2)(hu:A.units<cLine)
  (he:∀j (h1:j<items.size) (h2:j<items2.size),(∀i,i<j→e i=true)→EqAt A.in1 s items[j] items2[j] (e j)) (ht:∀j (h1:j<items.size) (h2:j<items2.size),(∀i,i<j→e i=true)→e j=false→LtAt A.in1 s items[j] items2[j] (lt j)):
  LtAt A s (.ref l) (.ref b) (lexA (decide (items.size<items2.size)) e lt (min items.size items2.size) 0):=fun prog w E Q h=>by
 obtain⟨⟨cls,dd,data,sl⟩,ho,hc,n,hd⟩:=id hl
 obtain⟨⟨cls2,dd2,data2,sl2⟩,ho2,hc2,n2,hd2⟩:=id hb
 simp only at hc hd hc2 hd2
 subst hc hd hc2 hd2
 exact richCompare_meets_room (op:=.Lt) ⟨_,ho,rfl⟩ ⟨_,ho2,rfl⟩ F.slot_tuple_lt F.entry_tuple_lt (F.args_tuple_lt_2 _ _) (Zke l b items items2 n n2 dd dd2 sl sl2 e lt)
  ⟨ho,ho2,he,ht,show Value.bool (lexA (decide (items.size<items2.size)) e lt (min items.size items2.size) 0)≠Value.notImplemented∧Q (.bool (lexA (decide (items.size<items2.size)) e lt (min items.size items2.size) 0)) s from⟨(fun x=>nomatch x),h⟩⟩ hu
noncomputable def Zep(A:Around)(s:Shared)(y x:Value)(b:Bool):Prop:=
 ∀(prog:Program) (w:World) (E:Value→Shared→Prop) (Q:Bool→Shared→Prop),Q b s→wpAny (model prog w) A (PyProof.Rows.oneLt' true y x) Q E s
theorem Zep.lists{l b:Addr}{items items2:Array Value}{e lt:Nat→Bool}(hl:s.heap.IsList l items)(hb:s.heap.IsList b items2)(hu:A.units<cLine)
  (he:∀j (h1:j<items.size) (h2:j<items2.size),(∀i,i<j→e i=true)→EqAt A.in1 s items[j] items2[j] (e j)) (ht:∀j (h1:j<items.size) (h2:j<items2.size),(∀i,i<j→e i=true)→e j=false→LtAt A.in1 s items[j] items2[j] (lt j)):
  Zep A s (.ref l) (.ref b) (lexA (decide (items.size<items2.size)) e lt (min items.size items2.size) 0):=fun prog w E Q h=>by
 obtain⟨⟨cls,dd,data,sl⟩,ho,hc,n,hd⟩:=id hl
 obtain⟨⟨cls2,dd2,data2,sl2⟩,ho2,hc2,n2,hd2⟩:=id hb
 simp only at hc hd hc2 hd2
 subst hc hd hc2 hd2
 rw[PyProof.Rows.oneLt'_eq]
 simp only[if_true]
 refine wpAny_bind (wpAny_cRoomFor hu ?_)
 refine wpAny_bind (wpAny_callSpecialIfBound?_slot ⟨_,ho,rfl⟩ F.slot_list_lt (call_meets F.slot_list_lt ⟨_,ho,rfl⟩ F.entry_list_lt (F.args_list_lt_2 _ _) (Zha l b items items2 n n2 dd dd2 sl sl2 e lt) ⟨ho,ho2,he,ht,?_⟩))
 exact wpAny_truthy_bool h
theorem Zep.int(a:Int)(t:Tok)(b:Int)(u:Tok):Zep A s (.int a t) (.int b u) (decide (a<b)):=fun prog w E Q h=>PyProof.Rows.oneLt_int h
theorem Zep.str(a:Str)(t:Tok)(b:Str)(u:Tok):Zep A s (.str a t) (.str b u) (decide (a.cps.toList<b.cps.toList)):=fun prog w E Q h=>PyProof.Rows.oneLt_str h
theorem LtAt.int(a:Int)(t:Tok)(b:Int)(u:Tok):LtAt A s (.int a t) (.int b u) (decide (a<b)):=fun prog w E Q h=>wpAny_lt_int h
theorem LtAt.str(a:Str)(t:Tok)(b:Str)(u:Tok):LtAt A s (.str a t) (.str b u) (decide (a.cps.toList<b.cps.toList)):=fun prog w E Q h=>PySem.P.lt_str h
end
end TX
namespace TX
open PySem PySem.Spec PyProof.Rows L2
open PySem.W (kla_fn kla_obj kla_callFunE kla_codeExpr envX)
structure LamS(x:Str)(fs:List Str)(sc:Scope):Prop where
 kind:sc.kind= .function
 co:sc.isCoroutine=false
 gen:sc.isGenerator=false
 par:sc.names.lookup x=some .local
 nocell:∀y∈sc.names,y.2≠.cell
 nd:x∉fs
noncomputable abbrev envL(qual:Str)(sc:Scope)(L f:Addr)(c:Addr)(cl:List (Str×Addr)):Env:=envX qual sc L f (.ref c) cl
noncomputable def cxL(X:Cx)(N:List Str)(qual:Str)(sc:Scope)(f c:Addr)(cl:List (Str×Addr))(A:Around)(s:Shared)(H:Hp):Cx where
 prog:=X.prog
 w:=X.w
 K:=X.K
 mg:=X.mg
 base:=X.base
 A:=A.deeper (envL qual sc s.heap.objs.size f c cl)
 N:=N
 s₀:=s
 H₀:=H
 env:=envL qual sc s.heap.objs.size f c cl
 outer:=X.stack
 stack:=envL qual sc s.heap.objs.size f c cl::X.stack
 ex:=[]
 calm:=true
 fn:=fun _=>false
 pn:=[]
 xe:=fun _ _=>False
section
variable{X:Cx}{pins:List (Addr×Obj)}{σ:L2.St}{H:Hp}{s:Shared}
theorem Zso{x:Str}{fs:List Str}{qual:Str}{sc:Scope}{f c:Addr}{cl:List (Str×Addr)}{A:Around}{h1:Heap}{tk:Nat}{v:V}{u:Value}{ws:List (Option V)}
  (S:LamS x fs sc) (hd:A.handled=none) (hA:A.frames=some X.stack) (I:Inv X pins σ H s) (hcl:∀y c,cl.lookup y=some c→X.env.cells.lookup y=some c) (has:∀y,sc.names.lookup y=some .free→∃c,cl.lookup y=some c)
  (hws:ws.length=fs.length) (hσ:∀(i:Nat) (y:Str) (w:V),fs[i]? =some y→ws[i]? =some (some w)→∃j:Nat,X.N[j]? =some y∧σ[j]? =some (some w)∧X.env.scope.names.lookup y=some .cell∧sc.names.lookup y=some .free) (r:RelV v u)
  (hns:h1.Ns s.heap.objs.size (fun y=>[(x,u)].reverse.lookup y)) (hsb:Heap.SameBut s.heap.objs.size (s.heap.push {cls:=.type "frame",data:=.dict #[]}) h1):
  Inv (cxL X (x::fs) qual sc f c cl A s H) [] (some v::ws) H {s with heap:=h1,toks:=tk}:=by
 have hk:∀b o,s.heap.get? b=some o→h1.get? b=some o:=fun b o e=>(hsb.2 b (Nat.ne_of_lt (Heap.lt_size e))).trans (Heap.get?_push_of_some _ e)
 have noA:∀b:Addr,b∉(cxL X (x::fs) qual sc f c cl A s H).ex:=fun b z=>absurd (show b∈([]:List Addr)from z) (by simp)
 have e0:=I.env0
 refine⟨⟨e0.mod,S.kind,rfl,rfl,Nat.le_refl _,fun y z c h1 h2=>I.ok.inj y z c (hcl y c h1) (hcl z c h2),fun y hy=>?_,(fun y c h=>nomatch h),fun _=>hd,Around.frames_deeper hA,.inr ⟨rfl,rfl⟩,fun b z=>absurd z (noA b),e0.bs,e0.bsz,fun b _ _=>noA b,fun b z=>absurd z (noA b),e0.funs,e0.frf⟩,
  rfl,e0.bare,Un.kept hk,⟨_,hns,fun i y w h1 h2 h3=>?_⟩,fun y c h=>?_,e0.hok.fresh (Nat.le_refl _),fun y c h=>I.freeC y c (hcl y c h),fun p hp=>absurd (show p∈([]:List (Addr×Obj))from hp) (by simp),e0.hok.kept hk,by show(some v::ws).length=(x::fs).length;rw[List.length_cons,List.length_cons,hws]⟩
 ·have hy:sc.names.lookup y=some .cell∨sc.names.lookup y=some .free:=hy
  rcases hy with hy|hy
  ·exact absurd rfl (S.nocell _ (PySem.mem_of_lookup hy))
  ·exact has y hy
 ·cases i with
  |zero=>
   obtain rfl:x=y:=by simpa[cxL]using h1
   obtain rfl:v=w:=by simpa using h2
   exact⟨u,r,.inl ⟨S.par,by simp⟩⟩
  |succ i=>
   have h1:fs[i]? =some y:=by simpa[cxL]using h1
   have h2:ws[i]? =some (some w):=by simpa using h2
   obtain⟨j,a1,a2,a3,a4⟩:=hσ i y w h1 h2
   obtain⟨m,_,hl⟩:=I.loc
   obtain⟨u',r',lk⟩:=hl j y w a1 a2 (.inr (.inl a3))
   obtain⟨cc,ec⟩:=has y a4
   refine⟨u',r',.inr ⟨.inr a4,cc,ec,?_⟩⟩
   rcases lk with⟨k,_⟩|⟨_,c',e1,z⟩
   ·have k:X.env.scope.names.lookup y=some .local:=k
    rw[a3]at k;cases k
   ·rw[hcl y cc ec]at e1
    cases e1
    obtain⟨o,z1,z2⟩:=z
    exact⟨o,hk _ _ z1,z2⟩
 ·obtain⟨w,o,z1,z2⟩:=I.cell y c (hcl y c h)
  exact⟨w,o,hk _ _ z1,z2⟩
theorem Zo6{x:Str}{fs:List Str}{name qual:Str}{params:Arguments}{body:Expr}{sc:Scope}{f c:Addr}{cl:List (Str×Addr)}{pm ctv:Value}{A:Around}{v:V}{u:Value}{ws:List (Option V)}{Q:VK}{t:TE}
  (S:LamS x fs sc) (hr:Room 1 A) (hA:A.frames=some X.stack) (I:Inv X pins σ H s) (ho:s.heap.get? f=some (kla_obj name qual params body sc cl pm c ctv)) (hcd:s.heap.CodeRec (.ref c) qual)
  (hbind:bindArgs (kla_fn name qual params body sc cl pm (.ref c) ctv) ⟨[u],[]⟩=pure [(x,u)])
  (hcl:∀y c,cl.lookup y=some c→X.env.cells.lookup y=some c) (has:∀y,sc.names.lookup y=some .free→∃c,cl.lookup y=some c)
  (hws:ws.length=fs.length) (hσ:∀(i:Nat) (y:Str) (w:V),fs[i]? =some y→ws[i]? =some (some w)→∃j:Nat,X.N[j]? =some y∧σ[j]? =some (some w)∧X.env.scope.names.lookup y=some .cell∧sc.names.lookup y=some .free) (r:RelV v u)
  (hb:PE (cxL X (x::fs) qual sc f c cl A s H) body t) (ht:t (some v::ws) H Q):
  wpAny (model X.prog X.w) A (call (.ref f) [u]) (fun u' s'=>CE X.stack X.prog X.w H s Q u' s') (fun _ _=>False) s:=by
 refine wpAny_call ?_
 refine kla_callFunE hr.depth ho rfl S.co S.gen rfl hcd ?_
 rw[hbind]
 refine wpAny_pure (wpAny_newFunctionEnv (fun y hy=>S.nocell y hy) (fun y hy=>?_) (fun h1 hns hsb=>⟨?_,?_⟩) S.kind)
 ·have hy:y=(x,u):=by simpa using hy
  subst hy
  exact S.par
 ·exact(I.nolimit).fresh _ hsb
 ·show codeAny _ _ (.expr body (envL qual sc s.heap.objs.size f c cl)) _ _
  refine kla_codeExpr ?_
  have J:=Zso (tk:=s.toks+[(x,u)].length) (f:=f) (c:=c) (qual:=qual) S hr.hd hA I hcl has hws hσ r hns hsb
  refine wpAny_mono (hb [] _ _ H Q J ht) (fun u' s' hs=>?_) fun e s' hs=>hs.elim
  obtain⟨v',H',J',rv,q⟩:=hs
  exact⟨v',H',J'.os,J'.bare,J'.base,J'.hok,rv,q⟩
end
end TX
namespace TX
open PySem PySem.Spec PyProof.Rows L2
open PySem.W (kla_fn kla_obj kla_eval kla_makeFunction kla_makeFunctionHit CodeHd tabObj)
theorem Zkf{p:Pos}{a b:Int}{c cv:Value}(l:List Value)(h:TriplesOk l)(e:codeAmong p (l++[rawInt a,rawInt b,c])=some cv):codeAmong p l=some cv∨cv=c:=by
 fun_induction TriplesOk l with
 |case1=>
  right
  simp only[List.nil_append,codeAmong,rawInt]at e
  split at e
  ·exact(Option.some.inj e).symm
  ·cases e
 |case2 a t b u x rest ih=>
  simp only[List.cons_append,codeAmong]at e⊢
  split at e
  ·rename_i z;rw[if_pos z];exact .inl e
  ·rename_i z;rw[if_neg z];exact ih h e
 |case3=>exact h.elim
noncomputable def BMain(mg:Str→Option Value)(h:Heap):Prop:=∃bm ob,mg "__builtins__"=some (.ref bm)∧bm≠builtinsNs∧h.get? bm=some ob∧ob.cls= .type "module"∧ob.dict=some builtinsNs∧ob.data= .plain
noncomputable def IsCd(o:Obj)(q:Str):Prop:=∃vs t,o.data= .fields vs∧vs[1]? =some (.str q t)
theorem Zwd{P:Program}{w:World}{H:Hp}{h:Heap}(ok:HOk P w H h){c p:Addr}{o:Obj}{q:Str}(e:H c=some (.frz o (.own p)))(x:IsCd o q):h.CodeRec (.ref c) q:=
 let⟨vs,t,a,b⟩:=x;⟨c,o,vs,t,rfl,(ok c _ e).1,a,b⟩
section
variable{X:Cx}{pins:List (Addr×Obj)}{σ:L2.St}{H:Hp}{s:Shared}
theorem Zo7{M:Model}{A:Around}{E:Value→Shared→Prop}{Q:Value→Shared→Prop}{params:Arguments}{body:Expr}{sc:Scope}{pos:Pos}{clos:List (Str×Addr)}{c P:Addr}{q:Str}
  (I:Inv X pins σ H s) (hcode:X.env.code= .ref c) (C:CodeHd X.base c P) (hT:H P=some (.tab q)) (hq:X.env.qual++ "<lambda>"=q) (B:BMain X.mg X.base) (hcl:closureFor sc X.env=pure clos) (hdef:defaultsOf params X.env=([],[]))
  (h:∀f c' pm ctv oc H' s',Same H H'→FpOk X pins H' f→Inv X pins σ H' s'→s'.heap.get? f=some (kla_obj "<lambda>" q params body sc clos pm c' ctv)→H' c'=some (.frz oc (.own P))→IsCd oc q→Q (.ref f) s'):
  wpAny M A (eval (.Lambda params body sc pos) X.env) Q E s:=by
 refine kla_eval hdef ?_
 rw[hq]
 obtain⟨ps,e,t,cs⟩:=I.hok P _ hT
 have hgs:s.heap.Ns mainGlobals X.mg:=I.ok.mod.glob.keeps I.bk
 have hgP:mainGlobals≠P:=fun z=>by
  obtain⟨o,es,ep,eo,hd,_⟩:=hgs
  rw[z,e]at eo;cases eo;cases hd
 obtain⟨bm,ob,b1,b2,b3,b4,b5,b6⟩:=B
 have hbP:bm≠P:=fun z=>by
  have eo:=I.bk _ _ b3
  rw[z,e]at eo;cases eo;cases b4
 have hbG:bm≠mainGlobals:=fun z=>by
  obtain⟨o,es,ep,eo,hd,_⟩:=I.ok.mod.glob
  rw[z,eo]at b3;cases b3;rw[hd]at b6;cases b6
 have hB:s.heap.BuiltinsAt X.mg P:=⟨bm,ob,b1,b2,hbG,hbP,I.bk _ _ b3,b4,b5,b6⟩
 have C':CodeHd s.heap c P:=C.keeps I.bk
 cases hf:codeAmong pos ps.toList with
 |some cv=>
  obtain⟨c',oc,vs',tc,rfl,ho,hod,hov⟩:=cs pos cv hf
  refine kla_makeFunctionHit (mg:=X.mg) hcl I.ok.glob hgs hcode C' e t hf hB fun ctv h' tk hk hsz=>?_
  exact h _ c' _ ctv oc H _ (Same.refl H) (I.fpOk hsz (I.hok.fresh hsz)) (I.kept fun b u z=>Heap.get?_push_of_some _ (hk b u z)) (Heap.get?_push_size _ rfl) ho ⟨vs',tc,hod,hov⟩
 |none=>
  refine kla_makeFunction (mg:=X.mg) hcl I.ok.glob hgs hcode C' e t hf hgP hB fun c' ctv h' tk hx hge hlt hrec htb=>?_
  have hn:H c'=none:=I.hok.fresh hge
  have hPc:P≠c':=Nat.ne_of_lt (Nat.lt_of_lt_of_le (Heap.lt_size e) hge)
  obtain⟨c2,oc,vsc,tc,e1,e2,e3,e4⟩:=hrec
  cases e1
  have sm:Same H (upd H c' (.frz oc (.own P))):=fun b o z=>by rw[Zm (Zz z hn)];exact z
  have neP:∀b,H b=none→b≠P:=fun b z y=>by rw[y,hT]at z;cases z
  have kp:∀b o,b≠P→s.heap.get? b=some o→(h'.push (kla_obj "<lambda>" q params body sc clos ((X.mg "__name__").getD .none) c' ctv)).get? b=some o:=fun b o nb z=>Heap.get?_push_of_some _ (hx b o nb z)
  have hP':(h'.push (kla_obj "<lambda>" q params body sc clos ((X.mg "__name__").getD .none) c' ctv)).get? P=some (tabObj (ps++ #[rawInt pos.line,rawInt pos.col,.ref c'])):=Heap.get?_push_of_some _ htb
  have hoc:(h'.push (kla_obj "<lambda>" q params body sc clos ((X.mg "__name__").getD .none) c' ctv)).get? c'=some oc:=Heap.get?_push_of_some _ e2
  refine h _ c' _ ctv oc (upd H c' (.frz oc (.own P))) _ sm ?_ (I.un (t':=tk) ⟨fun b o z n _ _=>kp b o (neP b n) z,fun b o z n _ _=>⟨o.slots,kp b o (neP b n) z⟩,fun b o z n _=>?_,fun b o z _=>?_,fun b xs z=>sm _ _ z,fun b o u z=>sm _ _ z,fun b qs z=>⟨#[],by rw[sm _ _ z];simp⟩⟩ fun b u z=>?_) (Heap.get?_push_size _ rfl) Zu ⟨vsc,tc,e3,e4⟩
  ·refine I.fpOk (Nat.le_of_lt (Nat.lt_of_le_of_lt hge hlt)) ?_
   rw[Zm (Nat.ne_of_gt hlt)]
   exact I.hok.fresh (Nat.le_of_lt (Nat.lt_of_le_of_lt hge hlt))
  ·rw[Zm (Nat.ne_of_lt (Nat.lt_of_lt_of_le (Heap.lt_size z) hge))]
   exact n
  ·by_cases hb:b=P
   ·subst hb;exact⟨_,hP'⟩
   ·exact⟨o,kp b o hb z⟩
  ·by_cases hbc:b=c'
   ·subst hbc
    rw[Zu]at z
    cases z
    exact⟨hoc,oc,hoc⟩
   ·rw[Zm hbc]at z
    by_cases hbP:b=P
    ·subst hbP
     rw[hT]at z
     cases z
     refine⟨_,hP',?_,fun p2 cv z=>?_⟩
     ·have:=TriplesOk_snoc pos.line pos.col (.ref c') _ t
      simpa using this
     ·have z:codeAmong p2 (ps.toList++[rawInt pos.line,rawInt pos.col,.ref c'])=some cv:=by simpa using z
      rcases Zkf _ t z with y|y
      ·obtain⟨c1,o1,vs1,t1,a1,a2,a3⟩:=cs p2 cv y
       exact⟨c1,o1,vs1,t1,a1,sm _ _ a2,a3⟩
      ·exact⟨c',oc,vsc,tc,y,Zu,e3,e4⟩
    ·refine(I.hok b u z).stay (fun d w hd y=>kp d w ?_ y) (fun d y=>sm _ _ y) (fun d xs y=>sm _ _ y) fun d o y=>sm _ _ y
     rcases hd with hd|hd
     ·rw[hd];exact hbP
     ·intro y;rw[y,hT]at hd;cases hd
end
end TX
namespace TX
open PySem PySem.Spec PyProof.Rows L2 DL
open PySem.SeqAt (EqAt)
variable{K:PySem.W.Frag}
@[simp] noncomputable def lexD(eq lt:D→D→Option Bool):List D→List D→Option Bool
 | [],ys=>some (!ys.isEmpty)
 |_::_,[]=>some false
 |x::xs,y::ys=>(eq x y).bind fun b=>if b=true then lexD eq lt xs ys else lt x y
@[simp] noncomputable def Zmw(eq lt:D→D→Option Bool):D→D→Option Bool
 | .int i,.int j=>some (decide (i<j))
 | .str a,.str b=>some (decide (a.cps.toList<b.cps.toList))
 | .lst xs,.lst ys=>lexD eq lt xs ys
 | .tup xs,.tup ys=>lexD eq lt xs ys
 |_,_=>none
@[simp] noncomputable def ltD:Nat→D→D→Option Bool
 |0=>fun _ _=>none
 |n+1=>Zmw (eqM n) (ltD n)
noncomputable def isT:Option Bool→Bool
 |some true=>true
 |_=>false
noncomputable abbrev eJ(f:D→D→Option Bool)(xs ys:List D)(j:Nat):Bool:=isT (f (xs.getD j .non) (ys.getD j .non))
theorem Ze7{fin:Bool}{e l:Nat→Bool}:∀(k i:Nat),lexA fin e l k (i+1)=lexA fin (fun j=>e (j+1)) (fun j=>l (j+1)) k i
 |0,_=>rfl
 |k+1,i=>by
  show(if e (i+1)=true then lexA fin e l k (i+1+1)else l (i+1))=(if e (i+1)=true then _ else _)
  rw[Ze7 k (i+1)]
theorem Zhb{eq lt:D→D→Option Bool}:∀{xs ys:List D} {b:Bool},lexD eq lt xs ys=some b→
  lexA (decide (xs.length<ys.length)) (eJ eq xs ys) (eJ lt xs ys) (min xs.length ys.length) 0=b∧
  ∀j,j<xs.length→j<ys.length→(∀i,i<j→eJ eq xs ys i=true)→eq (xs.getD j .non) (ys.getD j .non)=some (eJ eq xs ys j)∧(eJ eq xs ys j=false→lt (xs.getD j .non) (ys.getD j .non)=some (eJ lt xs ys j))
 | [],ys,b,h=>by
  refine⟨?_,fun j hj=>absurd hj (Nat.not_lt_zero _)⟩
  obtain rfl:(!ys.isEmpty)=b:=by simpa using h
  cases ys<;> simp[lexA]
 |x::xs,[],b,h=>by
  refine⟨?_,fun j _ hj=>absurd hj (Nat.not_lt_zero _)⟩
  obtain rfl:false=b:=by simpa using h
  simp[lexA]
 |x::xs,y::ys,b,h=>by
  have h:(eq x y).bind (fun b=>if b=true then lexD eq lt xs ys else lt x y)=some b:=h
  obtain⟨c,hc,h2⟩:=Option.bind_eq_some_iff.mp h
  have e0:eJ eq (x::xs) (y::ys) 0=c:=by show isT (eq x y)=c;rw[hc];cases c<;> rfl
  have hm:min (x::xs).length (y::ys).length=min xs.length ys.length+1:=by simp only[List.length_cons];omega
  have hfin:decide ((x::xs).length<(y::ys).length)=decide (xs.length<ys.length):=by simp
  rw[hm,hfin]
  cases c with
  |false=>
   have h2:lt x y=some b:=by simpa using h2
   refine⟨?_,fun j hj1 hj2 hp=>?_⟩
   ·show(if eJ eq (x::xs) (y::ys) 0=true then _ else eJ lt (x::xs) (y::ys) 0)=b
    rw[e0,if_neg (by simp)]
    show isT (lt x y)=b
    rw[h2];cases b<;> rfl
   ·cases j with
    |zero=>
     refine⟨by rw[e0];exact hc,fun _=>?_⟩
     show lt x y=some (isT (lt x y))
     rw[h2];cases b<;> rfl
    |succ j=>
     have:=hp 0 (Nat.succ_pos _)
     rw[e0]at this;cases this
  |true=>
   have h2:lexD eq lt xs ys=some b:=by simpa using h2
   obtain⟨i1,i2⟩:=Zhb h2
   refine⟨?_,fun j hj1 hj2 hp=>?_⟩
   ·show(if eJ eq (x::xs) (y::ys) 0=true then lexA _ _ _ _ (0+1)else eJ lt (x::xs) (y::ys) 0)=b
    rw[e0,if_pos rfl,Ze7]
    exact i1
   ·cases j with
    |zero=>
     refine⟨by rw[e0];exact hc,fun z=>?_⟩
     rw[e0]at z;cases z
    |succ j=>
     exact i2 j (by simpa using hj1) (by simpa using hj2) fun i hi=>hp (i+1) (by omega)
theorem Reps.getD{F:Hp}:∀{ds:List D} {vs:List V} {its:List Value},Reps K F ds vs→Vals vs its→∀(j:Nat) (hj:j<its.length),∃v,Rep K F (ds.getD j .non) v∧RelV v its[j]∧j<ds.length
 |_,_,_,.nil,.nil,j,hj=>absurd hj (Nat.not_lt_zero _)
 |_,_,_,.cons h t,.cons q qs,0,_=>⟨_,h,q,Nat.succ_pos _⟩
 |_,_,_,.cons h t,.cons q qs,j+1,hj=>by
  obtain⟨v,a,b,c⟩:=Reps.getD t qs j (Nat.lt_of_succ_lt_succ hj)
  exact⟨v,a,b,Nat.succ_lt_succ c⟩
theorem Reps.lenV{F:Hp}:∀{ds:List D} {vs:List V} {its:List Value},Reps K F ds vs→Vals vs its→ds.length=its.length
 |_,_,_,.nil,.nil=>rfl
 |_,_,_,.cons h t,.cons q qs=>congrArg (· +1) (Reps.lenV t qs)
section
variable{X:Cx}{pins:List (Addr×Obj)}{σ:L2.St}{F H:Hp}{s:Shared}
theorem Za4(I:Inv X pins σ H s)(le:Same F H){a:Addr}{vs:List V}(h:SqL X.K F a vs):∃its:List Value,Vals vs its∧s.heap.IsList a its.toArray:=by
 obtain⟨its,rv,⟨o,n,ho,hcl,_,hd⟩,_⟩:=I.list (Zal le h)
 exact⟨its,rv,o,ho,hcl,n,hd⟩
theorem Zb5(I:Inv X pins σ H s)(le:Same F H){a:Addr}{vs:List V}(h:F a=some (.tup vs)):∃its:List Value,Vals vs its∧s.heap.IsTuple a its.toArray:=by
 obtain⟨_,its,rv,p⟩:=I.hok a _ (le _ _ h)
 obtain⟨o,ho,hc,n,hd⟩:=p
 exact⟨its,rv,o,ho,hc,n,hd⟩
theorem Zf0(I:Inv X pins σ H s)(le:Same F H){n:Nat}{A:Around}(hu:A.units+n<cLine)(ih:∀(d1 d2:D) (b:Bool) (x y:V) (v u:Value),Rep X.K F d1 x→RelV x v→Rep X.K F d2 y→RelV y u→ltD n d1 d2=some b→LtAt A s v u b)
  {ds es:List D} {vs ws:List V} {its jts:List Value} (r1:Reps X.K F ds vs) (rv1:Vals vs its) (r2:Reps X.K F es ws) (rv2:Vals ws jts) {b:Bool} (h:lexD (eqM n) (ltD n) ds es=some b):
  lexA (decide (its.toArray.size<jts.toArray.size)) (eJ (eqM n) ds es) (eJ (ltD n) ds es) (min its.toArray.size jts.toArray.size) 0=b∧
  (∀j (h1:j<its.toArray.size) (h2:j<jts.toArray.size),(∀i,i<j→eJ (eqM n) ds es i=true)→EqAt A s its.toArray[j] jts.toArray[j] (eJ (eqM n) ds es j))∧
  (∀j (h1:j<its.toArray.size) (h2:j<jts.toArray.size),(∀i,i<j→eJ (eqM n) ds es i=true)→eJ (eqM n) ds es j=false→LtAt A s its.toArray[j] jts.toArray[j] (eJ (ltD n) ds es j)):=by
 obtain⟨a,c⟩:=Zhb h
 rw[Reps.lenV r1 rv1,Reps.lenV r2 rv2]at a
 refine⟨by simpa using a,fun j h1 h2 hp=>?_,fun j h1 h2 hp hf=>?_⟩
 ·have h1':j<its.length:=by simpa using h1
  have h2':j<jts.length:=by simpa using h2
  obtain⟨v,p1,p2,p3⟩:=Reps.getD r1 rv1 j h1'
  obtain⟨w,q1,q2,q3⟩:=Reps.getD r2 rv2 j h2'
  exact Zg7 I le n A _ _ _ _ _ _ _ hu p1 (by simpa using p2) q1 (by simpa using q2) (c j p3 q3 hp).1
 ·have h1':j<its.length:=by simpa using h1
  have h2':j<jts.length:=by simpa using h2
  obtain⟨v,p1,p2,p3⟩:=Reps.getD r1 rv1 j h1'
  obtain⟨w,q1,q2,q3⟩:=Reps.getD r2 rv2 j h2'
  exact ih _ _ _ _ _ _ _ p1 (by simpa using p2) q1 (by simpa using q2) ((c j p3 q3 hp).2 hf)
theorem Zmx(I:Inv X pins σ H s)(le:Same F H):∀(n:Nat) (A:Around) (d1 d2:D) (b:Bool) (x y:V) (v u:Value),A.units+n<cLine→Rep X.K F d1 x→RelV x v→Rep X.K F d2 y→RelV y u→ltD n d1 d2=some b→LtAt A s v u b
 |0,_,_,_,_,_,_,_,_,_,_,_,_,_,e=>by cases e
 |n+1,A,d1,d2,b,x,y,v,u,hu,r1,v1,r2,v2,e=>by
  have e:Zmw (eqM n) (ltD n) d1 d2=some b:=e
  have hi:A.in1.units+n<cLine:=by have:A.in1.units=A.units+1:=rfl;omega
  have ih:=fun(d1 d2:D) (b:Bool) (x y:V) (v u:Value)=>Zmx I le n A.in1 d1 d2 b x y v u hi
  cases r1 with
  |int i=>cases r2 with
   |int j=>
    obtain⟨t1,rfl⟩:=v1;obtain⟨t2,rfl⟩:=v2
    obtain rfl:decide (i<j)=b:=by simpa using e
    exact LtAt.int i t1 j t2
   |_=>cases e
  |str i=>cases r2 with
   |str j=>
    obtain⟨t1,rfl⟩:=v1;obtain⟨t2,rfl⟩:=v2
    obtain rfl:decide (i.cps.toList<j.cps.toList)=b:=by simpa using e
    exact LtAt.str i t1 j t2
   |_=>cases e
  |lst h r=>cases r2 with
   |lst h' r'=>
    cases v1;cases v2
    obtain⟨its,rv,hl⟩:=Za4 I le h
    obtain⟨jts,rv',hl'⟩:=Za4 I le h'
    obtain⟨a,c,d⟩:=Zf0 I le hi ih r rv r' rv' e
    rw[←a]
    exact LtAt.lists hl hl' (by omega) c d
   |_=>cases e
  |tup h r=>cases r2 with
   |tup h' r'=>
    cases v1;cases v2
    obtain⟨its,rv,hl⟩:=Zb5 I le h
    obtain⟨jts,rv',hl'⟩:=Zb5 I le h'
    obtain⟨a,c,d⟩:=Zf0 I le hi ih r rv r' rv' e
    rw[←a]
    exact LtAt.tuples hl hl' (by omega) c d
   |_=>cases e
  |_=>cases e
theorem Zwe(I:Inv X pins σ H s)(le:Same F H){n:Nat}{A:Around}{d1 d2:D}{b:Bool}{x y:V}{v u:Value}(hu:A.units+(n+1)<cLine)(r1:Rep X.K F d1 x)(v1:RelV x v)(r2:Rep X.K F d2 y)(v2:RelV y u)
  (e:ltD (n+1) d1 d2=some b) (hn:∀xs,d1≠.tup xs):Zep A s v u b:=by
 have e:Zmw (eqM n) (ltD n) d1 d2=some b:=e
 have hi:A.in1.units+n<cLine:=by have:A.in1.units=A.units+1:=rfl;omega
 have ih:=fun(d1 d2:D) (b:Bool) (x y:V) (v u:Value)=>Zmx I le n A.in1 d1 d2 b x y v u hi
 cases r1 with
 |int i=>cases r2 with
  |int j=>
   obtain⟨t1,rfl⟩:=v1;obtain⟨t2,rfl⟩:=v2
   obtain rfl:decide (i<j)=b:=by simpa using e
   exact Zep.int i t1 j t2
  |_=>cases e
 |str i=>cases r2 with
  |str j=>
   obtain⟨t1,rfl⟩:=v1;obtain⟨t2,rfl⟩:=v2
   obtain rfl:decide (i.cps.toList<j.cps.toList)=b:=by simpa using e
   exact Zep.str i t1 j t2
  |_=>cases e
 |lst h r=>cases r2 with
  |lst h' r'=>
   cases v1;cases v2
   obtain⟨its,rv,hl⟩:=Za4 I le h
   obtain⟨jts,rv',hl'⟩:=Za4 I le h'
   obtain⟨a,c,d⟩:=Zf0 I le hi ih r rv r' rv' e
   rw[←a]
   exact Zep.lists hl hl' (by omega) c d
  |_=>cases e
 |tup h r=>exact absurd rfl (hn _)
 |_=>cases e
end
end TX
namespace TX
open PySem PySem.Spec PyProof.Rows L2 DL
open PySem.W (kas_sort kas_ask kas_item kat_run kat_snds)
section
variable{X:Cx}{pins:List (Addr×Obj)}{σ:L2.St}{H:Hp}{s:Shared}{E:Value→Shared→Prop}
theorem Zib{D:Addr}{o:Obj}{xs ys:Array Value}{n t':Nat}{g:Array Value→Array Value}(I:Inv X pins σ H s)(fD:FpOk X pins H D):Inv X pins σ H {s with heap:=s.heap.update D (Obj.mapSeq g),toks:=t'}:=
 I.turned (fun b o hb e=>by rw[Heap.get?_update_ne _ _ _ _ hb];exact e) fD.1 fD.2.1 fD.2.2.2.1 fD.2.2.2.2.1 fD.2.2.2.2.2
theorem Inv.notStk(I:Inv X pins σ H s){D:Addr}(fD:FpOk X pins H D):D∉frs X.stack:=fun z=>by
 rcases List.mem_cons.mp (I.stkSub D z)with z|z
 ·exact fD.2.1 z
 ·exact fD.2.2.1 z
theorem fpAt{H':Hp}{D:Addr}(fD:FpOk X pins H D)(h:H' D=none):FpOk X pins H' D:=⟨h,fD.2⟩
noncomputable def KS(X:Cx)(pins:List (Addr×Obj))(σ:L2.St)(H0:Hp)(f:Addr)(fo:Obj)(D kS:Addr)(e1:Nat)(KeyOk:Nat→V→Hp→Prop)(i:Nat)(s:Shared):Prop:=
 ∃H ks kvs e,Same H0 H∧Inv X pins σ H s∧FpOk X pins H D∧FpOk X pins H kS∧FpOk X pins H f∧s.heap.get? D=some (seqObj "list" #[] e1)∧s.heap.get? kS=some (seqObj "list" (List.toArray ks) e)∧s.heap.get? f=some fo∧
  Vals kvs ks∧ks.length=i∧∀j kv,kvs[j]? =some kv→KeyOk j kv H
theorem Zo8{its:List Value}{f D kS:Addr}{fo:Obj}{e1:Nat}{KeyOk:Nat→V→Hp→Prop}{A:Around}{Q:PUnit→Shared→Prop}{body:Value→PUnit→Sem (ForInStep PUnit)}(hne:D≠kS)(hfD:f≠D)(hfk:f≠kS)(h64:its.length<64)
  (mono:∀j kv H1 H2,Same H1 H2→KeyOk j kv H1→KeyOk j kv H2)
  (hcall:∀(j:Nat) (u:Value) (H1:Hp) (s1:Shared),its[j]? =some u→Same H H1→Inv X pins σ H1 s1→s1.heap.get? f=some fo→FpOk X pins H1 f→wpAny (model X.prog X.w) A (call (.ref f) [u]) (fun k s2=>∃kv H2,Same H1 H2∧Inv X pins σ H2 s2∧Un (frs X.stack) [] H1 H2 s1.heap s2.heap∧RelV kv k∧KeyOk j kv H2) (fun _ _=>False) s1)
  (hb:∀(x:Value) (ks:List Value) (s1:Shared) (R:Shared→Prop),ks.length<64→wpAny (model X.prog X.w) A (call (.ref f) [x]) (fun k s2=>∃e',s2.heap.get? kS=some (seqObj "list" (List.toArray ks) e')∧R {s2 with heap:=s2.heap.update kS (Obj.mapSeq (·.push k))}) (fun _ _=>False) s1→wpAny (model X.prog X.w) A (body x ⟨⟩) (fun r s2=>r= .yield ⟨⟩∧R s2) E s1)
  (h0:KS X pins σ H f fo D kS e1 KeyOk 0 s) (hq:∀s',KS X pins σ H f fo D kS e1 KeyOk its.length s'→Q ⟨⟩ s'):wpAny (model X.prog X.w) A (forIn its PUnit.unit body) Q E s:=by
 refine ksk_fold (fun i s'=>KS X pins σ H f fo D kS e1 KeyOk i s') its 0 s h0 (fun j x s' hx hs=>?_) fun s' hs=>hq s' (by rw[Nat.zero_add]at hs;exact hs)
 rw[Nat.zero_add]at hs⊢
 have hj:j<its.length:=(List.getElem?_eq_some_iff.mp hx).1
 obtain⟨H1,ks,kvs,e,sm,I1,fD,fk,ff,gD,gk,gf,rv,hl,hk⟩:=hs
 refine hb x ks s' _ (by omega) (wpAny_mono (hcall j x H1 s' hx sm I1 gf ff) (fun k s2 h2=>?_) fun _ _ z=>z)
 obtain⟨kv,H2,sm2,I2,un,rk,ok⟩:=h2
 have nD:=un.free D _ gD fD.1 (by simp)
 have nk:=un.free kS _ gk fk.1 (by simp)
 have nf:=un.free f _ gf ff.1 (by simp)
 have gD2:=un.keep D _ gD fD.1 (Inv.notStk I1 fD) (by simp)
 have gk2:=un.keep kS _ gk fk.1 (Inv.notStk I1 fk) (by simp)
 have gf2:=un.keep f _ gf ff.1 (Inv.notStk I1 ff) (by simp)
 have ea:(List.toArray ks).push k=List.toArray (ks++[k]):=by simp
 obtain⟨c2,hc2⟩:∃c2,(s2.heap.update kS (Obj.mapSeq (·.push k))).get? kS=some (seqObj "list" (List.toArray (ks++[k])) c2):=⟨_,by rw[←ea];exact get?_update_seq gk2 (·.push k)⟩
 refine⟨e,gk2,H2,ks++[k],kvs++[kv],c2,sm.trans sm2,Zib (o:=seqObj "list" #[] 0) (xs:= #[]) (ys:= #[]) (n:=0) I2 (fpAt fk nk),fpAt fD nD,fpAt fk nk,fpAt ff nf,?_,?_,?_,rv.append (.cons rk .nil),by simp[hl],fun i kv' hi=>?_⟩
 ·show(s2.heap.update kS _).get? D=_
  rw[Heap.get?_update_ne _ _ _ _ hne];exact gD2
 ·exact hc2
 ·show(s2.heap.update kS _).get? f=_
  rw[Heap.get?_update_ne _ _ _ _ hfk];exact gf2
 ·have hlk:kvs.length=ks.length:=rv.length
  by_cases hi2:i<kvs.length
  ·rw[List.getElem?_append_left hi2]at hi
   exact mono i kv' H1 H2 sm2 (hk i kv' hi)
  ·have hi3:i=kvs.length:=by
    have:=(List.getElem?_eq_some_iff.mp hi).1
    rw[List.length_append,List.length_singleton]at this
    omega
   subst hi3
   rw[List.getElem?_append_right (Nat.le_refl _),Nat.sub_self]at hi
   obtain rfl:kv=kv':=by simpa using hi
   rw[hlk,hl]
   exact ok
end
end TX
namespace TX
open PySem PySem.Spec PyProof.Rows L2 DL
open PySem.W (kas_sort kas_ask kas_item kat_run kat_snds)
section
variable{X:Cx}{pins:List (Addr×Obj)}{σ:L2.St}{H:Hp}{s:Shared}{E:Value→Shared→Prop}{its:List Value}{f D kS:Addr}{fo:Obj}{e1:Nat}{KeyOk:Nat→V→Hp→Prop}{A:Around}{P:PySem.Fin→Shared→Prop}
noncomputable def Out(X:Cx)(pins:List (Addr×Obj))(σ:L2.St)(H0:Hp)(D:Addr)(out:List Value)(s:Shared):Prop:=
 ∃H c,Same H0 H∧Inv X pins σ H s∧FpOk X pins H D∧s.heap.get? D=some (seqObj "list" (List.toArray out) c)
theorem Zjf{st:SortSt}{out:List Value}(hne:D≠kS)(h64:its.length<64)(hz:out.length<64)(hout:(arrOf st).map (·.2)=List.toArray out)(hf:failedOf st=none)(hs:KS X pins σ H f fo D kS e1 KeyOk its.length s)
  (hP:∀s',Out X pins σ H D out s'→P (.done (.ret .none)) s'):wpAny (model X.prog X.w) A (ksk_tail D false e1 (.ref kS) st) P E s:=by
 obtain⟨H1,ks,kvs,e,sm,I1,fD,fk,ff,gD,gk,gf,rv,hl,hk⟩:=hs
 unfold ksk_tail
 try dsimp only
 rw[hout]
 have I2:=Zib (o:=seqObj "list" #[] 0) (xs:= #[]) (ys:= #[]) (n:=0) (t':=s.toks) (g:=fun _=>(#[]:Array Value)) I1 fk
 have gD2:(s.heap.update kS (Obj.mapSeq fun _=>(#[]:Array Value))).get? D=some (seqObj "list" #[] e1):=by rw[Heap.get?_update_ne _ _ _ _ hne];exact gD
 refine wpAny_bind (listUpdate_at gk rfl ?_ (by rw[List.size_toArray,sizeLine_eq];omega) (Nat.zero_le _))
 refine wpAny_bind (wpAny_letGo ?_)
 refine wpAny_bind (seqEpoch_at gD2 rfl ?_)
 refine wpAny_bind (listUpdate_at gD2 rfl ?_ (Nat.zero_le _) (by simp only[Bool.false_eq_true,if_false];rw[List.size_toArray,sizeLine_eq];omega))
 rw[hf]
 simp only[bne_self_eq_false,Bool.false_eq_true,if_false]
 refine wpAny_pure (hP _ ⟨H1,_,sm,Zib (o:=seqObj "list" #[] 0) (xs:= #[]) (ys:= #[]) (n:=0) I2 fD,fD,get?_update_seq gD2 fun _=>List.toArray out⟩)
variable{O:KeyOrd}{key:Nat→O.α}
noncomputable def Cmp(X:Cx)(pins:List (Addr×Obj))(σ:L2.St)(H0:Hp)(A:Around)(KeyOk:Nat→V→Hp→Prop)(O:KeyOrd)(key:Nat→O.α)(n:Nat):Prop:=
 ∀H2 s2 ks kvs,Same H0 H2→Inv X pins σ H2 s2→Vals kvs ks→ks.length=n→(∀j kv,kvs[j]? =some kv→KeyOk j kv H2)→2≤n→
  ∃κ,(∀Q:SortKind→Shared→Prop,Q κ s2→wpAny (model X.prog X.w) A (keyKind' (List.toArray ks)) Q (fun _ _=>False) s2)∧
   ∀i j (Q:Bool→Shared→Prop),i<n→j<n→Q (O.blt (key i) (key j)) s2→wpAny (model X.prog X.w) A (keyLt' κ (ks.getD i .none) (ks.getD j .none)) Q (fun _ _=>False) s2
theorem Zsp(hne:D≠kS)(h64:its.length<64)(hc:Cmp X pins σ H A KeyOk O key its.length){ks:List Value}{kvs:List V}{e:Nat}{H1:Hp}(sm:Same H H1)(I1:Inv X pins σ H1 s)(fD:FpOk X pins H1 D)(fk:FpOk X pins H1 kS)(ff:FpOk X pins H1 f)
    (gD:s.heap.get? D=some (seqObj "list" #[] e1)) (gk:s.heap.get? kS=some (seqObj "list" (List.toArray ks) e)) (gf:s.heap.get? f=some fo) (rv:Vals kvs ks) (hl:ks.length=its.length) (hk:∀j kv,kvs[j]? =some kv→KeyOk j kv H1)
    (hP:∀p s',Pm its.length p→Srt key p its.length→Out X pins σ H D (p.toList.map fun i=>its.getD i Value.none) s'→P (.done (.ret .none)) s'):
    wpAny (model X.prog X.w) A (ksk_end D false its.toArray e1 (.ref kS) (List.toArray ks)) P E s:=by
  have hs:KS X pins σ H f fo D kS e1 KeyOk its.length s:=⟨H1,ks,kvs,e,sm,I1,fD,fk,ff,gD,gk,gf,rv,hl,hk⟩
  unfold ksk_end
  try dsimp only
  simp only[Bool.false_eq_true,if_false]
  by_cases h2:its.toArray.size<2
  · rw[if_pos h2,if_pos h2]
    have h2':its.length<2:=by simpa using h2
    refine wpAny_bind (wpAny_pure ?_)
    rw[StateT.run_pure]
    refine wpAny_bind (wpAny_pure ?_)
    try dsimp only
    refine Zjf (out:=(List.toArray (List.range its.length)).toList.map fun i=>its.getD i Value.none) hne h64 (by simpa using h64) ?_ rfl hs fun s' ho=>hP _ s' (Array.Perm.refl _) (fun i j hij hj=>?_) ho
    · show((List.toArray ks).zip its.toArray).map (·.2)=_
      apply Array.toList_inj.mp
      rw[Array.toList_map,ksk_zip]
      simp only[List.toList_toArray]
      have e3:(ks.zip its).map Prod.snd=its:=by
        rw[List.map_snd_zip];omega
      rw[e3]
      apply List.ext_getElem
      · simp
      · intro i a b;simp[a]
    · have:i=j:=by omega
      subst this
      exact KeyOrd.kle_refl _
  · rw[if_neg h2,if_neg h2]
    have h2':2≤its.length:=Nat.le_of_not_lt (by simpa using h2)
    obtain⟨κ,hκ,hlt⟩:=hc H1 s ks kvs sm I1 rv hl hk h2'
    refine wpAny_bind (wpAny_mono (hκ (fun κ' s'=>κ'=κ∧s'=s) ⟨rfl,rfl⟩) (fun κ' s' z=>?_) fun _ _ z=>z.elim)
    obtain⟨rfl,rfl⟩:=z
    have g:=Good.wp (lt:=ltOf O key) (n:=its.length) (R:=fun q=>Pm its.length q∧Srt key q its.length) (cmp:=kas_ask X.prog X.w A κ' ks) (I:=fun s''=>s''=s') (Q:=fun q s''=>s''=s'∧Pm its.length q∧Srt key q its.length)
      (fun i j C s'' hi hj z hC=>by subst z;exact hlt i j C hi hj (hC _ rfl)) (fun q s'' z1 z2=>⟨z2,z1⟩) (Zmu (key:=key) (by omega)) rfl
    refine wpAny_bind (wpAny_mono (kat_run (Q:=fun st s''=>∃p:Array Nat,s''=s'∧Pm its.length p∧Srt key p its.length∧arrOf st=p.map (kas_item ((List.toArray ks).zip its.toArray))∧failedOf st=none) hl h2' h64
      (fun p st s'' _ a1 a2 z=>⟨p,z.1,z.2.1,z.2.2,a1,a2⟩) g) (fun r s'' z=>?_) fun _ _ z=>z)
    obtain⟨⟨⟩,st⟩:=r
    obtain⟨p,rfl,z1,z2,z3,z4⟩:=z
    try dsimp only
    exact Zjf hne h64 (by rw[List.length_map,Array.length_toList,z1.size];exact h64) (kat_snds hl z3) z4 hs fun s' ho=>hP p s' z1 z2 ho
theorem Zo9(hne:D≠kS)(hfD:f≠D)(hfk:f≠kS)(h64:its.length<64)(mono:∀j kv H1 H2,Same H1 H2→KeyOk j kv H1→KeyOk j kv H2)(hc:Cmp X pins σ H A KeyOk O key its.length)
  (hcall:∀(j:Nat) (u:Value) (H1:Hp) (s1:Shared),its[j]? =some u→Same H H1→Inv X pins σ H1 s1→s1.heap.get? f=some fo→FpOk X pins H1 f→wpAny (model X.prog X.w) A (call (.ref f) [u]) (fun k s2=>∃kv H2,Same H1 H2∧Inv X pins σ H2 s2∧Un (frs X.stack) [] H1 H2 s1.heap s2.heap∧RelV kv k∧KeyOk j kv H2) (fun _ _=>False) s1)
  (h0:KS X pins σ H f fo D kS e1 KeyOk 0 s) (hP:∀p s',Pm its.length p→Srt key p its.length→Out X pins σ H D (p.toList.map fun i=>its.getD i Value.none) s'→P (.done (.ret .none)) s'):
  wpAny (model X.prog X.w) A (ksk_rest D (.ref f) false its.toArray e1 (.ref kS)) P E s:=by
 unfold ksk_rest
 refine wpAny_bind (wpAny_rule ?_)
 first
  |rw[List.forIn_toArray]
  | (rw[←Array.forIn_toList];simp only[List.toList_toArray])
  |rw[←Array.forIn_toList]
 refine wpAny_bind (Zo8 (H:=H) (KeyOk:=KeyOk) hne hfD hfk h64 mono hcall (fun x ks s1 R hz hx=>?_) h0 fun s' hs=>?_)
 ·refine wpAny_bind (wpAny_attempt (wpAny_mono hx (fun k s'' hk=>?_) fun _ _ hF=>hF.elim))
  obtain⟨e',gk,r⟩:=hk
  try dsimp only
  refine wpAny_bind (listUpdate_at gk rfl ?_ (by rw[List.size_toArray,sizeLine_eq];omega) (Nat.le_trans (Nat.le_of_eq (Array.size_push ..)) (by rw[List.size_toArray,sizeLine_eq];omega)))
  exact wpAny_pure ⟨rfl,r⟩
 ·obtain⟨H1,ks,kvs,e,sm,I1,fD,fk,ff,gD,gk,gf,rv,hl,hk⟩:=hs
  try dsimp only
  refine wpAny_bind (listItems_at gk rfl ?_)
  exact Zsp hne h64 hc sm I1 fD fk ff gD gk gf rv hl hk hP
end
end TX
namespace TX
open PySem PySem.Spec PySem.Calls PyProof.Rows L2 DL
section
variable{X:Cx}{pins:List (Addr×Obj)}{σ:L2.St}{H:Hp}{s:Shared}{E:Value→Shared→Prop}{its:List Value}{f l:Addr}{fo:Obj}{KeyOk:Nat→V→Hp→Prop}{Q:Value→Shared→Prop}{O:KeyOrd}{key:Nat→O.α}
theorem Zmy(I:Inv X pins σ H s)(hl:s.heap.IsList l its.toArray)(h64:its.length<64)(gf:s.heap.get? f=some fo)(ff:FpOk X pins H f)(mono:∀j kv H1 H2,Same H1 H2→KeyOk j kv H1→KeyOk j kv H2)(hc:Cmp X pins σ H X.A.in1.in1 KeyOk O key its.length)
  (hcall:∀(j:Nat) (u:Value) (H1:Hp) (s1:Shared),its[j]? =some u→Same H H1→Inv X pins σ H1 s1→s1.heap.get? f=some fo→FpOk X pins H1 f→wpAny (model X.prog X.w) X.A.in1.in1 (call (.ref f) [u]) (fun k s2=>∃kv H2,Same H1 H2∧Inv X pins σ H2 s2∧Un (frs X.stack) [] H1 H2 s1.heap s2.heap∧RelV kv k∧KeyOk j kv H2) (fun _ _=>False) s1)
  (hQ:∀p D s',Pm its.length p→Srt key p its.length→X.s₀.heap.get? D=none→Out X pins σ H D (p.toList.map fun i=>its.getD i Value.none) s'→Q (.ref D) s'):
  wpAny (model X.prog X.w) X.A (call (.builtin "sorted") [.ref l] [(Str.ofString "key",.ref f)]) Q E s:=by
 refine call_function_entry_kw kind_sorted plain_sorted entry_sorted (ksk_s1 _ _) ?_
 unfold Builtin.«sorted»
 refine wpAny_bind (m:=checkCount "sorted" 1 1 _) (wpAny_pure ?_)
 refine wpAny_bind (collect_list hl ?_ (by rw[sizeLine_eq];omega))
 refine wpAny_bind (wpAny_newList ?_ (by rw[sizeLine_eq];omega))
 have hsz:((s.heap.push (seqObj "list" #[] 0)).update s.heap.objs.size (Obj.mapSeq (· ++its.toArray))).objs.size=s.heap.objs.size+1:=by
  rw[Heap.size_update,size_push']
 have hoL:(((s.heap.push (seqObj "list" #[] 0)).update s.heap.objs.size (Obj.mapSeq (· ++its.toArray))).push (seqObj "list" its.toArray 0)).get? (s.heap.objs.size+1)=some (seqObj "list" its.toArray 0):=by
  rw[←hsz];exact Heap.get?_push_size _ rfl
 have keep:∀b o,s.heap.get? b=some o→(((s.heap.push (seqObj "list" #[] 0)).update s.heap.objs.size (Obj.mapSeq (· ++its.toArray))).push (seqObj "list" its.toArray 0)).get? b=some o:=fun b o q=>by
  have hlt: @LT.lt Nat _ b s.heap.objs.size:=Heap.lt_size q
  rw[Heap.get?_push_ne _ _ _ (by rw[hsz];exact Nat.ne_of_lt (Nat.lt_succ_of_lt hlt)),Heap.get?_update_ne _ _ _ _ (Nat.ne_of_lt hlt),Heap.get?_push_ne _ _ _ (Nat.ne_of_lt hlt)]
  exact q
 show wpAny _ _ _ _ _ {s with heap:=((s.heap.push (seqObj "list" #[] 0)).update s.heap.objs.size (Obj.mapSeq (· ++its.toArray))).push (seqObj "list" its.toArray 0)}
 rw[hsz]
 refine wpAny_bind (wpAny_holding (wpAny_call_entry_kw slot_list_sort ⟨_,hoL,rfl⟩ entry_list_sort ?body (ksk_l1 _ _)))
 case body=>
  show wpAny (model X.prog X.w) X.A.in1.in1 (Builtin.«list.sort» ⟨[.ref (s.heap.objs.size+1)],[(Str.ofString "key",.ref f)]⟩) _ _ _
  rw[ksk_t1]
  have hs2:(((s.heap.push (seqObj "list" #[] 0)).update s.heap.objs.size (Obj.mapSeq (· ++its.toArray))).push (seqObj "list" its.toArray 0)).objs.size=s.heap.objs.size+2:=by rw[size_push',hsz]
  generalize hh:(((s.heap.push (seqObj "list" #[] 0)).update s.heap.objs.size (Obj.mapSeq (· ++its.toArray))).push (seqObj "list" its.toArray 0))=h1 at hoL keep hs2⊢
  generalize hD:s.heap.objs.size+1=D at hoL⊢
  have hDn: @Eq Nat D (s.heap.objs.size+1):=hD.symm
  obtain⟨e1,ho1⟩:∃e1,(h1.update D (Obj.mapSeq fun _=>(#[]:Array Value))).get? D=some (seqObj "list" #[] e1):=⟨_,get?_update_seq hoL fun _=> #[]⟩
  have hkS:((h1.update D (Obj.mapSeq fun _=>(#[]:Array Value))).push (seqObj "tuple" its.toArray 0)).objs.size=s.heap.objs.size+3:=by rw[size_push',Heap.size_update,hs2]
  unfold ksk_tree
  refine wpAny_bind (listItems_at hoL rfl ?_)
  refine wpAny_bind (listUpdate_at hoL rfl ?_ (by rw[List.size_toArray,sizeLine_eq];omega) (Nat.zero_le _))
  refine wpAny_bind (seqEpoch_at ho1 rfl ?_)
  refine wpAny_bind (wpAny_newTuple ?_ (by show its.length≤_;rw[sizeLine_eq];omega))
  refine wpAny_bind (wpAny_newList ?_ (Nat.zero_le _))
  refine wpAny_holding ?_
  have kp:∀b o,s.heap.get? b=some o→(((h1.update D (Obj.mapSeq fun _=>(#[]:Array Value))).push (seqObj "tuple" its.toArray 0)).push (seqObj "list" #[] 0)).get? b=some o:=fun b o q=>by
   have hlt: @LT.lt Nat _ b s.heap.objs.size:=Heap.lt_size q
   have:=keep b o q
   refine Heap.get?_push_of_some _ (Heap.get?_push_of_some _ ?_)
   rw[Heap.get?_update_ne _ _ _ _ (Nat.ne_of_lt (show @LT.lt Nat _ b D by omega))]
   exact this
  show wpAny (model X.prog X.w) X.A.in1.in1 (ksk_rest D (.ref f) false its.toArray e1 (.ref ((h1.update D (Obj.mapSeq fun _=>(#[]:Array Value))).push (seqObj "tuple" its.toArray 0)).objs.size)) _ _ _
  have gk:(((h1.update D (Obj.mapSeq fun _=>(#[]:Array Value))).push (seqObj "tuple" its.toArray 0)).push (seqObj "list" #[] 0)).get? (((h1.update D (Obj.mapSeq fun _=>(#[]:Array Value))).push (seqObj "tuple" its.toArray 0)).objs.size)=some (seqObj "list" #[] 0):=Heap.get?_push_size _ rfl
  rw[hkS]at gk⊢
  have hf1: @LT.lt Nat _ f s.heap.objs.size:=Heap.lt_size gf
  have nD:H D=none:=I.hok.fresh (by omega)
  have nk:H (s.heap.objs.size+3)=none:=I.hok.fresh (by omega)
  refine Zo9 (s:={s with heap:=((h1.update D (Obj.mapSeq fun _=>(#[]:Array Value))).push (seqObj "tuple" its.toArray 0)).push (seqObj "list" #[] 0)}) (H:=H) (KeyOk:=KeyOk) (fo:=fo) (key:=key) (Nat.ne_of_lt (show @LT.lt Nat _ D (s.heap.objs.size+3) by omega)) (Nat.ne_of_lt (show @LT.lt Nat _ f D by omega)) (Nat.ne_of_lt (show @LT.lt Nat _ f (s.heap.objs.size+3) by omega)) h64 mono hc hcall ?_ fun p s' z1 z2 ho=>⟨_,rfl,wpAny_pure ⟨_,rfl,hQ p D s' z1 z2 ?_ ho⟩⟩
  ·exact⟨H,[],[],0,Same.refl H,I.kept kp,I.fpOk (by omega) nD,I.fpOk (by omega) nk,ff,Heap.get?_push_of_some _ (Heap.get?_push_of_some _ ho1),gk,kp _ _ gf,.nil,rfl,fun j kv z=>by simp at z⟩
  ·exact Heap.get?_none_of_le (Nat.le_trans I.sz (by omega))
end
end TX
namespace TX
open PySem PySem.Spec PySem.Calls PyProof.Rows L2 DL
open PySem.W (KatLex kat_lt kat_kind KatTups kat_one kat_nil kat_cons kat_yes kat_no)
section
variable{X:Cx}{pins:List (Addr×Obj)}{σ:L2.St}{F H:Hp}{s:Shared}
theorem Zqh(I:Inv X pins σ H s)(le:Same F H){n:Nat}{A:Around}(hu:A.units+(n+1)<cLine){Q:Bool→Shared→Prop}{fin:Bool}:∀{ds es:List D} {vs ws:List V} {its jts:List Value} {b:Bool} (i:Nat),
  Reps X.K F ds vs→Vals vs its→Reps X.K F es ws→Vals ws jts→(i=0→∀d,ds.head? =some d→∀xs,d≠.tup xs)→lexD (eqM (n+1)) (ltD (n+1)) ds es=some b→(its.length=jts.length→fin=false)→(its.length<jts.length→fin=true)→(jts.length<its.length→fin=false)→Q b s→
  KatLex X.prog X.w A true fin Q (its.zip jts) i s
 |_,_,_,_,_,_,b,i,.nil,.nil,.nil,.nil,_,e,f1,_,_,q=>by
  obtain rfl:false=b:=by simpa using e
  show Q fin s
  rw[f1 rfl];exact q
 |_,_,_,_,_,_,b,i,.nil,.nil,.cons _ _,.cons _ _,_,e,_,f2,_,q=>by
  obtain rfl:true=b:=by simpa using e
  show Q fin s
  rw[f2 (by simp)];exact q
 |_,_,_,_,_,_,b,i,.cons _ _,.cons _ _,.nil,.nil,_,e,_,_,f3,q=>by
  obtain rfl:false=b:=by simpa using e
  show Q fin s
  rw[f3 (by simp)];exact q
 |d::ds,d'::es,_,_,_,_,b,i,.cons h t,.cons r rs,.cons h' t',.cons r' rs',hd,e,f1,f2,f3,q=>by
  have e:(eqM (n+1) d d').bind (fun b=>if b=true then lexD (eqM (n+1)) (ltD (n+1)) ds es else ltD (n+1) d d')=some b:=e
  obtain⟨c,hc,e2⟩:=Option.bind_eq_some_iff.mp e
  refine kat_cons (Zg7 I le (n+1) A _ _ _ _ _ _ _ (by omega) h r h' r' hc X.prog X.w _ _ ?_)
  cases c with
  |true=>
   have e2:lexD (eqM (n+1)) (ltD (n+1)) ds es=some b:=by simpa using e2
   exact kat_yes (Zqh I le hu (i+1) t rs t' rs' (fun z=>absurd z (Nat.succ_ne_zero i)) e2 (fun z=>f1 (by simp[z])) (fun z=>f2 (by simpa using z)) (fun z=>f3 (by simpa using z)) q)
  |false=>
   have e2:ltD (n+1) d d'=some b:=by simpa using e2
   refine kat_no ?_
   cases i with
   |zero=>exact Zwe I le hu h r h' r' e2 (hd rfl d rfl) X.prog X.w _ _ q
   |succ i=>
    have:(true&&(i+1==0))=false:=by simp
    rw[this]
    refine kat_one _ _ (Zmx I le (n+1) A _ _ _ _ _ _ _ (by omega) h r h' r' e2 X.prog X.w _ _ ?_)
    exact q
inductive IsKey:D→Prop where
 |lst (xs:List D) (r:List D):IsKey (.tup (.lst xs::r))
theorem Zwf(I:Inv X pins σ H s)(le:Same F H){n:Nat}{A:Around}(hu:A.units+(n+2)<cLine){d1 d2:D}{x y:V}{v u:Value}{b:Bool}{E:Value→Shared→Prop}{Q:Bool→Shared→Prop}(k1:IsKey d1)(k2:IsKey d2)
  (r1:Rep X.K F d1 x) (v1:RelV x v) (r2:Rep X.K F d2 y) (v2:RelV y u) (e:ltD (n+2) d1 d2=some b) (q:Q b s):wpAny (model X.prog X.w) A (keyLt' (tuples' true) v u) Q E s:=by
 cases k1 with
 |lst xs1 rs1=>cases k2 with
  |lst xs2 rs2=>
   cases r1 with
   |tup h1 p1=>cases r2 with
    |tup h2 p2=>
     cases v1;cases v2
     obtain⟨its,rv,o,ho,hc,m,hd⟩:=Zb5 I le h1
     obtain⟨jts,rw',o',ho',hc',m',hd'⟩:=Zb5 I le h2
     have e:lexD (eqM (n+1)) (ltD (n+1)) (.lst xs1::rs1) (.lst xs2::rs2)=some b:=e
     refine kat_lt ho hd ho' hd' ?_
     refine Zqh I le (by omega) 0 p1 rv p2 rw' (fun _ d z xs=>?_) e (fun z=>?_) (fun z=>?_) (fun z=>?_) q
     ·obtain rfl:D.lst xs1=d:=by simpa using z
      intro y;cases y
     ·simp[z]
     ·simpa using z
     ·have z:jts.length<its.length:=by simpa using z
      simp;omega
theorem Zhc(I:Inv X pins σ H s)(le:Same F H):∀{ds:List D} {vs:List V} {its:List Value},(∀d∈ds,IsKey d)→Reps X.K F ds vs→Vals vs its→∃fs,KatTups s.heap its fs∧fs.length=its.length∧∀v∈fs,∃a o,v= .ref a∧s.heap.get? a=some o∧o.cls= .type "list"
 |_,_,_,_,.nil,.nil=>⟨[],trivial,rfl,fun _ z=>nomatch z⟩
 |d::ds,_,_,hk,.cons h t,.cons r rs=>by
  obtain⟨fs,a,b,c⟩:=Zhc I le (fun d z=>hk d (List.mem_cons_of_mem _ z)) t rs
  cases hk d List.mem_cons_self with
  |lst xs rr=>cases h with
   |tup h1 p1=>
    cases r
    obtain⟨its,rv,o,ho,hc,m,hd⟩:=Zb5 I le h1
    cases p1 with
    |cons q1 q2=>cases rv with
     |cons w1 w2=>cases q1 with
      |lst g1 g2=>
       cases w1
       obtain⟨jts,_,o2,ho2,hc2,_⟩:=Za4 I le g1
       refine⟨_::fs,KatTups.cons ho hc hd rfl a,by simp[b],fun v z=>?_⟩
       rcases List.mem_cons.mp z with z|z
       ·subst z;exact⟨_,o2,rfl,ho2,hc2⟩
       ·exact c v z
theorem Zpa(I:Inv X pins σ H s)(le:Same F H){A:Around}{E:Value→Shared→Prop}{ds:List D}{vs:List V}{its:List Value}(hk:∀d∈ds,IsKey d)(r:Reps X.K F ds vs)(rv:Vals vs its)(h2:0<its.length){Q:SortKind→Shared→Prop}(q:Q (tuples' true) s):
  wpAny (model X.prog X.w) A (keyKind' (List.toArray its)) Q E s:=by
 obtain⟨fs,a,b,c⟩:=Zhc I le hk r rv
 exact kat_kind (T:=.type "list") a (by omega) (fun v z=>by
  obtain⟨a1,o1,rfl,g1,g2⟩:=c v z
  exact fun A Q E s' k q=>wpAny_typeOf (T:="list") ⟨o1,k _ _ g1,g2⟩ q) (by decide) (by exact q)
end
end TX
namespace TX
open PySem PySem.Spec PySem.Calls PyProof.Rows L2 DL
structure KeysOk(ks:List D):Prop where
 key:∀d∈ks,IsKey d
 ord:∃enc:D→List Nat,(∀a∈ks,∀b∈ks,ltD 16 a b=some (decide (enc a<enc b)))∧∀i j:Nat,i<ks.length→j<ks.length→enc (ks.getD i .non)=enc (ks.getD j .non)→i=j
noncomputable def Zkg(ks:List D)(p:List Nat):Prop:=p.Perm (List.range ks.length)∧p.Pairwise fun i j=>ltD 16 (ks.getD j .non) (ks.getD i .non)=some false
theorem Zkh{ks:List D}(h:KeysOk ks){p q:List Nat}(hp:Zkg ks p)(hq:Zkg ks q):p=q:=by
 obtain⟨enc,he,hd⟩:=h.ord
 have get:∀i,i<ks.length→ks.getD i .non∈ks:=fun i hi=>by
  rw[List.getD_eq_getElem?_getD,List.getElem?_eq_getElem hi];exact List.getElem_mem hi
 have mp:∀i∈p,i<ks.length:=fun i hi=>List.mem_range.mp (hp.1.mem_iff.mp hi)
 have mq:∀i∈q,i<ks.length:=fun i hi=>List.mem_range.mp (hq.1.mem_iff.mp hi)
 refine List.Perm.eq_of_pairwise (le:=fun i j=>ltD 16 (ks.getD j .non) (ks.getD i .non)=some false) (fun a b ha hb h1 h2=>?_) hp.2 hq.2 (hp.1.trans hq.1.symm)
 rw[he _ (get _ (mq b hb)) _ (get _ (mp a ha))]at h1
 rw[he _ (get _ (mp a ha)) _ (get _ (mq b hb))]at h2
 have h1:¬enc (ks.getD b .non)<enc (ks.getD a .non):=by simpa using h1
 have h2:¬enc (ks.getD a .non)<enc (ks.getD b .non):=by simpa using h2
 exact hd a b (mp a ha) (mq b hb) (List.le_antisymm (List.not_lt.mp h1) (List.not_lt.mp h2))
theorem Zdg{ks:List D}(h:KeysOk ks):∃p,Zkg ks p:=by
 obtain⟨enc,he,hd⟩:=h.ord
 have get:∀i,i<ks.length→ks.getD i .non∈ks:=fun i hi=>by
  rw[List.getD_eq_getElem?_getD,List.getElem?_eq_getElem hi];exact List.getElem_mem hi
 refine⟨(List.range ks.length).mergeSort fun i j=>decide (¬enc (ks.getD j .non)<enc (ks.getD i .non)),List.mergeSort_perm _ _,?_⟩
 have pw:=List.pairwise_mergeSort (le:=fun i j:Nat=>decide (¬enc (ks.getD j .non)<enc (ks.getD i .non)))
  (fun a b c h1 h2=>by
   simp only[decide_eq_true_eq]at*
   exact List.not_lt.mpr (List.le_trans (List.not_lt.mp h1) (List.not_lt.mp h2)))
  (fun a b=>by
   simp only[Bool.or_eq_true,decide_eq_true_eq]
   rcases List.le_total (enc (ks.getD a .non)) (enc (ks.getD b .non))with z|z
   ·exact .inl (List.not_lt.mpr z)
   ·exact .inr (List.not_lt.mpr z)) (List.range ks.length)
 refine(List.Pairwise.imp_of_mem ?_ pw)
 intro i j hi hj z
 have hi:i<ks.length:=List.mem_range.mp ((List.mergeSort_perm _ _).mem_iff.mp hi)
 have hj:j<ks.length:=List.mem_range.mp ((List.mergeSort_perm _ _).mem_iff.mp hj)
 rw[he _ (get j hj) _ (get i hi)]
 simpa using z
open Classical in
noncomputable def srtK(ks xs:List D):Option SV:=
 if h:ks.length=xs.length∧xs.length<64∧KeysOk ks then some (.ol ((Classical.choose (Zdg h.2.2)).map fun i=>xs.getD i .non))else none
theorem Zsq{ks xs:List D}{sv:SV}(e:srtK ks xs=some sv):ks.length=xs.length∧xs.length<64∧KeysOk ks∧∃p,Zkg ks p∧sv= .ol (p.map fun i=>xs.getD i .non):=by
 unfold srtK at e
 split at e
 ·rename_i h
  cases e
  exact⟨h.1,h.2.1,h.2.2,_,Classical.choose_spec (Zdg h.2.2),rfl⟩
 ·cases e
theorem srtK_of{ks xs:List D}(h1:ks.length=xs.length)(h2:xs.length<64)(h3:KeysOk ks):∃p,Zkg ks p∧srtK ks xs=some (.ol (p.map fun i=>xs.getD i .non)):=by
 refine⟨_,Classical.choose_spec (Zdg h3),?_⟩
 unfold srtK
 rw[dif_pos ⟨h1,h2,h3⟩]
@[simp] noncomputable def keyF(fb:FE)(cs:List D)(d:D):Option D:=(fb (some (.fz d)::cs.map fun c=>some (.fz c))).bind fun p=>(frz p.1 p.2).bind fun q=>some q.1
@[simp] noncomputable def keysF(fb:FE)(cs:List D):List D→Option (List D)
 | []=>some []
 |d::ds=>(keyF fb cs d).bind fun k=>(keysF fb cs ds).bind fun ks=>some (k::ks)
@[simp] noncomputable def Zzy(fb:FE)(js:List Nat)(d:D)(δ:DSt):Option (RV×DSt):=match d with
 | .lst xs=>(frzAll (js.map RV.bw) δ).bind fun r=>(keysF fb r.1 xs).bind fun ks=>(srtK ks xs).bind fun sv=>some (.tmp sv,r.2)
 |_=>none
@[simp] noncomputable def sortLF(fa:FE)(js:List Nat)(fb:FE):FE:=fun δ=>(fa δ).bind fun p=>(frz p.1 p.2).bind fun q=>Zzy fb js q.1 q.2
theorem Zjg{fb:FE}{cs:List D}:∀{xs ks:List D},keysF fb cs xs=some ks→ks.length=xs.length∧∀(j:Nat) (d:D),xs[j]? =some d→∃k,ks[j]? =some k∧keyF fb cs d=some k
 | [],ks,e=>by
  obtain rfl:[]=ks:=by simpa using e
  exact⟨rfl,fun j d z=>by simp at z⟩
 |x::xs,ks,e=>by
  have e:(keyF fb cs x).bind (fun k=>(keysF fb cs xs).bind fun ks=>some (k::ks))=some ks:=e
  obtain⟨k,e1,e2⟩:=Option.bind_eq_some_iff.mp e
  obtain⟨ks',e3,e4⟩:=Option.bind_eq_some_iff.mp e2
  cases e4
  obtain⟨a,b⟩:=Zjg e3
  refine⟨by simp[a],fun j d z=>?_⟩
  cases j with
  |zero=>
   obtain rfl:x=d:=by simpa using z
   exact⟨k,rfl,e1⟩
  |succ j=>exact b j d (by simpa using z)
section
variable{K:PySem.W.Frag}{Z:Ent K}{H:Hp}{σ:L2.St}
theorem Zqi:∀{js:List Nat} {F:Hp} {δ δ':DSt} {own:Nat→Zn} {ds:List D},SR Z F H σ δ own→frzAll (js.map RV.bw) δ=some (ds,δ')→
  ∃F1 own1 vs,Same F F1∧SR Z F1 H σ δ' own1∧Reps K F1 ds vs∧vs.length=js.length∧∀(i j:Nat) (v:V),js[i]? =some j→vs[i]? =some v→σ[j]? =some (some v)
 | [],F,δ,δ',own,ds,s,e=>by
  have e:some (([]:List D),δ)=some (ds,δ'):=e
  cases e
  exact⟨F,own,[],Same.refl F,s,.nil,rfl,fun i j v z=>by simp at z⟩
 |j::js,F,δ,δ',own,ds,s,e=>by
  have e:(frz (.bw j) δ).bind (fun p=>(frzAll (js.map RV.bw) p.2).bind fun q=>some (p.1::q.1,q.2))=some (ds,δ'):=e
  obtain⟨⟨d,δ1⟩,e1,e2⟩:=Option.bind_eq_some_iff.mp e
  obtain⟨⟨ds',δ2⟩,e3,e4⟩:=Option.bind_eq_some_iff.mp e2
  cases e4
  obtain⟨sv,e5,e6⟩:=Option.bind_eq_some_iff.mp e1
  cases e6
  obtain⟨F1,v,sm1,h1,h2,s1⟩:=s.freeze (Zbm e5)
  obtain⟨F2,own2,vs,sm2,s2,r2,l2,g2⟩:=Zqi s1 e3
  refine⟨F2,own2,v::vs,sm1.trans sm2,s2,.cons (h2.mono sm2) r2,by simp[l2],fun i k w z1 z2=>?_⟩
  cases i with
  |zero=>
   obtain rfl:j=k:=by simpa using z1
   obtain rfl:v=w:=by simpa using z2
   exact h1
  |succ i=>exact g2 i k w (by simpa using z1) (by simpa using z2)
theorem Reps.getI{F:Hp}:∀{ds:List D} {vs:List V} {i:Nat} {d:D},Reps K F ds vs→ds[i]? =some d→∃v,vs[i]? =some v∧Rep K F d v:=fun r e=>DL.Reps.get r e
theorem Reps.len2{F:Hp}:∀{ds:List D} {vs:List V},Reps K F ds vs→ds.length=vs.length
 |_,_,.nil=>rfl
 |_,_,.cons _ t=>congrArg (· +1) (Reps.len2 t)
theorem Zwg{F:Hp}{H1:Hp}(le:Same F H1){d:D}{v:V}(r:Rep K F d v){cs:List D}{vs:List V}(rs:Reps K F cs vs):
  SR (ent H1 F:Ent K) F H1 (some v::vs.map some) (some (.fz d)::cs.map fun c=>some (.fz c)) (fun _=>[]):=by
 refine⟨le,fun b o e=>.inl e,Same.refl H1,by simp[Reps.len2 rs],fun i sv e=>?_,fun _=>List.nodup_nil,fun _ _ z=>(nomatch z),fun _ _ _ _ _ z=>(nomatch z)⟩
 cases i with
 |zero=>
  have e:sv=SV.fz d:=by simpa using e.symm
  subst e
  exact⟨v,rfl,.fz r⟩
 |succ i=>
  have e:(cs.map fun c=>some (SV.fz c))[i]? =some (some sv):=by simpa using e
  rw[List.getElem?_map]at e
  cases hc:cs[i]? with
  |none=>rw[hc]at e;cases e
  |some c=>
   rw[hc]at e
   have e:sv=SV.fz c:=by simpa using e.symm
   subst e
   obtain⟨w,h1,h2⟩:=Reps.getI rs hc
   exact⟨w,by simp[h1],.fz h2⟩
end
end TX
namespace TX
open PySem PySem.Spec PySem.Calls PyProof.Rows L2 DL
open PySem.W (CodeHd kla_fn kla_obj)
section
variable{X:Cx}{pins:List (Addr×Obj)}{σ:L2.St}{H:Hp}{s:Shared}
theorem Zmz{K:PySem.W.Frag}{F:Hp}:∀{ks:List D} {kvs:List V},kvs.length=ks.length→(∀(j:Nat) kv,kvs[j]? =some kv→Rep K F (ks.getD j .non) kv)→Reps K F ks kvs
 | [],[],_,_=>.nil
 |k::ks,v::kvs,hl,h=>.cons (h 0 v rfl) (Zmz (by simpa using hl) fun j kv e=>h (j+1) kv (by simpa using e))
theorem Zm0:∀{ws:List V} {its:List Value},Vals ws its→∀{p:List Nat},(∀i∈p,i<its.length)→Vals (p.map fun i=>ws.getD i .non) (p.map fun i=>its.getD i Value.none):=by
 intro ws its h p hp
 have at':∀{ws:List V} {its:List Value},Vals ws its→∀i,i<its.length→RelV (ws.getD i .non) (its.getD i Value.none):=by
  intro ws its h
  induction h with
  |nil=>intro i hi;simp at hi
  |cons r t ih=>intro i hi;cases i with
   |zero=>exact r
   |succ i=>exact ih i (by simpa using hi)
 induction p with
 |nil=>exact .nil
 |cons i r ih=>exact .cons (at' h i (hp i List.mem_cons_self)) (ih fun j hj=>hp j (List.mem_cons_of_mem _ hj))
theorem Zm1{K:PySem.W.Frag}{F:Hp}:∀{xs:List D} {ws:List V},Reps K F xs ws→∀(i:Nat),i<xs.length→Rep K F (xs.getD i .non) (ws.getD i .non)
 |_,_,.nil,i,hi=>absurd hi (Nat.not_lt_zero _)
 |_,_,.cons h t,0,_=>h
 |_,_,.cons h t,i+1,hi=>Zm1 t i (Nat.lt_of_succ_lt_succ hi)
theorem Zhd{K:PySem.W.Frag}{F:Hp}{xs:List D}{ws:List V}(h:Reps K F xs ws):∀{p:List Nat},(∀i∈p,i<xs.length)→Reps K F (p.map fun i=>xs.getD i .non) (p.map fun i=>ws.getD i .non)
 | [],_=>.nil
 |i::r,hp=>.cons (Zm1 h i (hp i List.mem_cons_self)) (Zhd h fun j hj=>hp j (List.mem_cons_of_mem _ hj))
noncomputable abbrev Zsr(enc:D→List Nat)(ks:List D)(i:Nat):strKind.toKeyOrd.α:=enc (ks.getD i .non)
theorem Zwh{ks:List D}{enc:D→List Nat}{A:Around}(hu:A.units+16<cLine)(hk:∀d∈ks,IsKey d)(he:∀a∈ks,∀b∈ks,ltD 16 a b=some (decide (enc a<enc b))){n:Nat}(hn:ks.length=n):
  Cmp X pins σ H A (fun j kv H=>Rep X.K H (ks.getD j .non) kv) strKind.toKeyOrd (Zsr enc ks) n:=by
 intro H2 s2 ksV kvs sm I2 rv hl hkv h2
 have hlk:kvs.length=ks.length:=by have:=rv.length;omega
 have rr:=Zmz hlk hkv
 have get:∀i,i<ks.length→ks.getD i .non∈ks:=fun i hi=>by
  rw[List.getD_eq_getElem?_getD,List.getElem?_eq_getElem hi];exact List.getElem_mem hi
 refine⟨tuples' true,fun Q q=>Zpa I2 (Same.refl H2) hk rr rv (by omega) q,fun i j Q hi hj q=>?_⟩
 obtain⟨v,a1,a2,a3⟩:=Reps.getD rr rv i (by omega)
 obtain⟨w,b1,b2,b3⟩:=Reps.getD rr rv j (by omega)
 have e1:ksV.getD i Value.none=ksV[i]:=by simp[List.getD_eq_getElem?_getD,List.getElem?_eq_getElem (show i<ksV.length by omega)]
 have e2:ksV.getD j Value.none=ksV[j]:=by simp[List.getD_eq_getElem?_getD,List.getElem?_eq_getElem (show j<ksV.length by omega)]
 rw[e1,e2]
 exact Zwf I2 (Same.refl H2) (n:=14) hu (hk _ (get i a3)) (hk _ (get j b3)) a1 a2 b1 b2 (he _ (get i a3) _ (get j b3)) q
theorem Zwi{ks:List D}{enc:D→List Nat}(he:∀a∈ks,∀b∈ks,ltD 16 a b=some (decide (enc a<enc b))){p:Array Nat}{n:Nat}(hn:ks.length=n)(hp:Pm n p)(hs:Srt (O:=strKind.toKeyOrd) (Zsr enc ks) p n):Zkg ks p.toList:=by
 subst hn
 have pt:p.toList.Perm (List.range ks.length):=Array.perm_iff_toList_perm.mp hp
 have get:∀i,i<ks.length→ks.getD i .non∈ks:=fun i hi=>by
  rw[List.getD_eq_getElem?_getD,List.getElem?_eq_getElem hi];exact List.getElem_mem hi
 refine⟨pt,List.pairwise_iff_getElem.mpr fun i j hi hj hij=>?_⟩
 have hj':j<ks.length:=by have:=pt.length_eq;rw[List.length_range]at this;omega
 have mi:p.toList[i]<ks.length:=List.mem_range.mp (pt.mem_iff.mp (List.getElem_mem hi))
 have mj:p.toList[j]<ks.length:=List.mem_range.mp (pt.mem_iff.mp (List.getElem_mem hj))
 rw[he _ (get _ mj) _ (get _ mi)]
 have z:=hs i j (Nat.le_of_lt hij) hj'
 unfold Kp at z
 have ei:p.getD i 0=p.toList[i]:=by rw[Array.getD_eq_getD_getElem?];simp at hi⊢;simp[hi]
 have ej:p.getD j 0=p.toList[j]:=by rw[Array.getD_eq_getD_getElem?];simp at hj⊢;simp[hj]
 rw[ei,ej]at z
 have z:decide (enc (ks.getD p.toList[j] .non)<enc (ks.getD p.toList[i] .non))=false:=z
 rw[z]
theorem e_sortL{Z:Ent X.K}{a:Expr}{fa fb:FE}{x:Str}{fs:List Str}{js:List Nat}{params:Arguments}{body:Expr}{sc:Scope}{c P:Addr}{q:Str}{p1 p2 lp kp:Pos}{clos:List (Str×Addr)}
  (hr:Room 3 X.A) (hv:X.A.units+64<cLine) (h1:X.mg "sorted"=none) (hcode:X.env.code= .ref c) (C:CodeHd X.base c P) (hT:Z.h P=some (.tab q)) (hq:X.env.qual++ "<lambda>"=q) (B:BMain X.mg X.base) (S:LamS x fs sc)
  (hcl:closureFor sc X.env=pure clos) (hdef:defaultsOf params X.env=([],[])) (hbind:∀cl pm c ctv u,bindArgs (kla_fn "<lambda>" q params body sc cl pm (.ref c) ctv) ⟨[u],[]⟩=pure [(x,u)])
  (hc2:∀y c,clos.lookup y=some c→X.env.cells.lookup y=some c) (has:∀y,sc.names.lookup y=some .free→∃c,clos.lookup y=some c)
  (hjl:js.length=fs.length) (hjs:∀(i j:Nat) (y:Str),js[i]? =some j→fs[i]? =some y→X.N[j]? =some y∧X.env.scope.names.lookup y=some .cell∧sc.names.lookup y=some .free)
  (ha:PE X a (Ze Z fa)) (hb:∀(f c:Addr) (A:Around) (s1:Shared) (H1 F1:Hp),(cxL X (x::fs) q sc f c clos A s1 H1).A.units+1<cLine→PE (cxL X (x::fs) q sc f c clos A s1 H1) body (Ze (ent H1 F1:Ent X.K) fb))
  (g1:Gl X "sorted":=by rfl) (he1:starEach [a] X.env=(false,eval a X.env)::starEach [] X.env:=by rfl) (hp1:(backTo p2 (starEach [] X.env)).any (·.1)=false:=by rfl):
  PE X (.Call (.Name "sorted" p1) [a] [⟨some "key",.Lambda params body sc lp,kp⟩] p2) (Ze Z (sortLF fa js fb)):=by
 intro pins s σ H Q I h
 obtain⟨F,δ,own,rv,δ',sr,e,k⟩:=h
 obtain⟨⟨rv1,δ1⟩,e1,e2⟩:=Option.bind_eq_some_iff.mp e
 obtain⟨⟨d,δ2⟩,e3,e4⟩:=Option.bind_eq_some_iff.mp e2
 refine wpAny_Call_Name_kw (Zdn I g1 h1 L2.Zeh ?_)
 refine callWith_builtin_kwB (by rw[he1];show(false|| (backTo p2 (starEach [] X.env)).any (·.1))=false;rw[hp1];rfl) rfl ?_
 rw[he1]
 show wpAny _ _ (evalArgs (.builtin "sorted") true ((false,eval a X.env)::backTo p2 (starEach [] X.env)) _) _ _ s
 refine evalArgs_kwB rfl (Calls.spliced_cons (wpAny_mono (ha pins s σ H (fun v H'=>∃F' own',Same H H'∧Same F F'∧SR Z F' H' σ δ1 own'∧Zj0 Z F' H' σ own' rv1 v) I ⟨F,δ,own,rv1,δ1,sr,e1,fun v H' F' own' a1 a2 a3 a4=>⟨F',own',a1,a2,a3,a4⟩⟩) (fun u s1 z=>?_) fun _ _ z=>z))
 obtain⟨v,H1,I1,ru,F1,own1,sm1,sf1,sr1,rr1⟩:=z
 show wpAny _ _ (spliced []) _ _ _
 refine Calls.spliced_nil ?_
 obtain⟨F2,sf2,sr2,rr2⟩:=sr1.settleR rr1
 obtain⟨F3,own3,sf3,sr3,rep3⟩:=sr2.frzR rr2 e3
 cases d with
 |lst xs=>
  have e4:(frzAll (js.map RV.bw) δ2).bind (fun r=>(keysF fb r.1 xs).bind fun ks=>(srtK ks xs).bind fun sv=>some (RV.tmp sv,r.2))=some (rv,δ'):=e4
  obtain⟨⟨cs,δ3⟩,e5,e6⟩:=Option.bind_eq_some_iff.mp e4
  obtain⟨ks,e7,e8⟩:=Option.bind_eq_some_iff.mp e6
  obtain⟨sv,e9,e10⟩:=Option.bind_eq_some_iff.mp e8
  cases e10
  obtain⟨F4,own4,vs,sf4,sr4,r4,l4,g4⟩:=Zqi sr3 e5
  have rep4:=rep3.mono sf4
  obtain⟨hkl,hz,ko,p0,hp0,rfl⟩:=Zsq e9
  obtain⟨enc,he,hdis⟩:=id ko.ord
  refine kws_cons ?_
  have hT1:H1 P=some (.tab q):=sr4.old _ _ hT
  refine Zo7 I1 hcode C hT1 hq B hcl hdef fun f c' pm ctv oc H2 s2 sm2 nf I2 gf hcd icd=>?_
  refine kws_nil ?_
  have sr5:=sr4.grow sm2
  cases rep4 with
  | @lst al xs' ws hsq rws=>
   cases ru
   obtain⟨its,rvi,hil⟩:=Za4 I2 sr5.le hsq
   have hlen:xs.length=its.length:=Reps.lenV rws rvi
   have hi64:its.length<64:=by omega
   have hr1:Room 1 X.A.in1.in1:=hr.in1.in1
   have hu2:X.A.in1.in1.units+16<cLine:=by show X.A.units+1+1+16<cLine;omega
   have keyfact:∀(j:Nat) (dj:D),xs[j]? =some dj→∃kd,ks.getD j .non=kd∧keyF fb cs dj=some kd:=fun j dj hj=>by
    obtain⟨kd,a1,a2⟩:=(Zjg e7).2 j dj hj
    exact⟨kd,by rw[List.getD_eq_getElem?_getD,a1];rfl,a2⟩
   show wpAny _ _ (call (.builtin "sorted") [.ref al] [(Str.ofString "key",.ref f)]) _ _ s2
   refine Zmy (KeyOk:=fun j kv H=>Rep X.K H (ks.getD j .non) kv) (O:=strKind.toKeyOrd) (key:=Zsr enc ks) I2 hil hi64 gf nf (fun j kv Ha Hb sm r=>r.mono sm) (Zwh hu2 ko.key he (by omega)) ?hcall ?hQ
   case hcall=>
    intro j u H3 s3 hj sm3 I3 gf3 ff3
    have hjd:j<its.length:=(List.getElem?_eq_some_iff.mp hj).1
    obtain⟨w,rw1,rw2,hjx⟩:=Reps.getD rws rvi j hjd
    have eu:its[j]=u:=by have:=List.getElem?_eq_getElem hjd;rw[this]at hj;exact Option.some.inj hj
    rw[eu]at rw2
    have hxj:xs[j]? =some (xs.getD j .non):=by rw[List.getD_eq_getElem?_getD,List.getElem?_eq_getElem hjx];rfl
    obtain⟨kd,ek,ekf⟩:=keyfact j _ hxj
    have ekf:(fb (some (.fz (xs.getD j .non))::cs.map fun c=>some (.fz c))).bind (fun p=>(frz p.1 p.2).bind fun q=>some q.1)=some kd:=ekf
    obtain⟨⟨rvk,δk⟩,f1,f2⟩:=Option.bind_eq_some_iff.mp ekf
    obtain⟨⟨dk,δk2⟩,f3,f4⟩:=Option.bind_eq_some_iff.mp f2
    cases f4
    have le3:Same F4 H3:=(sr5.le).trans sm3
    have hcr:=Zwd I3.hok (sm3 _ _ hcd) icd
    refine wpAny_mono (Zo6 (ws:=vs.map some) S hr1 I3.ok.frames I3 gf3 hcr (hbind _ _ _ _ _) hc2 has (by rw[List.length_map,l4,hjl]) (fun i y w' z1 z2=>?_) rw2 (hb f c' X.A.in1.in1 s3 H3 F4 (by show X.A.units+1+1+3+1<cLine;omega)) (Q:=fun kv H4=>Same H3 H4∧Rep X.K H4 dk kv) ⟨F4,_,_,rvk,δk,Zwg le3 rw1 r4,f1,fun kv H4 F5 own5 a1 a2 a3 a4=>?_⟩) (fun k s4 z=>?_) fun _ _ z=>z
    ·have z2':(vs.map some)[i]? =some (some w'):=z2
     rw[List.getElem?_map]at z2'
     have hiv:i<vs.length:=by
      rcases Nat.lt_or_ge i vs.length with zz|zz
      ·exact zz
      ·rw[List.getElem?_eq_none zz]at z2';cases z2'
     obtain⟨jj,hjj⟩:∃jj,js[i]? =some jj:=⟨_,List.getElem?_eq_getElem (by omega)⟩
     obtain⟨b1,b2,b3⟩:=hjs i jj y hjj z1
     have hvi:vs[i]? =some w':=by
      cases hq:vs[i]? with
      |none=>rw[hq]at z2';cases z2'
      |some v2=>rw[hq]at z2';simp at z2';rw[z2']
     exact⟨jj,b1,g4 i jj w' hjj hvi,b2,b3⟩
    ·obtain⟨F6,sf6,sr6,rr6⟩:=a3.settleR a4
     obtain⟨F7,own7,sf7,sr7,rep7⟩:=sr6.frzR rr6 f3
     exact⟨a1,rep7.mono sr7.le⟩
    ·obtain⟨kv,H4,os,bare,un,hok,rk,sm4,rep⟩:=z
     refine⟨kv,H4,sm4,?_,un,rk,by rw[ek];exact rep⟩
     obtain⟨hh,gg,dd,tt,os'⟩:=s4
     obtain rfl:os'=s3.os:=os
     exact I3.call (h':=hh) (g':=gg) (d':=dd) (t':=tt) (ch:=[]) un hok bare (fun b z=>absurd z (by simp))
   case hQ=>
    intro p D s3 hp hs hD0 ho
    obtain⟨H3,cc,sm3,I3,fD,gD⟩:=ho
    have ep:p.toList=p0:=Zkh ko (Zwi he (by omega) hp hs) hp0
    rw[ep]at gD
    have bnd:∀i∈p0,i<xs.length:=fun i hi=>by have:=List.mem_range.mp (hp0.1.mem_iff.mp hi);omega
    have new:Zaj X.prog X.w (upd H3 D (.lst (p0.map fun i=>ws.getD i .non))) s3.heap D (.lst (p0.map fun i=>ws.getD i .non)):=by
     refine⟨?_,p0.map fun i=>its.getD i Value.none,cc,Zm0 rvi fun i hi=>by have:=bnd i hi;omega,gD⟩
     have:=hp0.1.length_eq
     rw[List.length_range]at this
     rw[List.length_map,this,sizeLine_eq]
     omega
    have I4:=Inv.trackO I3 hD0 fD.1 fD.2.1 fD.2.2.2.2.1 fD.2.2.2.2.2 new
    have smn:Same H3 (upd H3 D (.lst (p0.map fun i=>ws.getD i .non))):=Zbs fD.1
    have sr6:=(sr5.grow sm3).grow smn
    refine⟨.ref D,_,I4,rfl,k (.ref D) _ F4 own4 (((sm1.trans sm2).trans sm3).trans smn) (((sf1.trans sf2).trans sf3).trans sf4) sr6 ⟨[(D,.lst (p0.map fun i=>ws.getD i .non))],.ol (Zhd rws bnd),by simp,fun pp hp=>?_,fun i pp qq hp hq=>?_⟩⟩
    ·obtain rfl:pp=(D,.lst (p0.map fun i=>ws.getD i .non)):=by simpa using hp
     refine⟨?_,?_,Zu⟩
     ·cases z:F4 D with
      |none=>rfl
      |some o=>have:=(sr5.grow sm3).le _ _ z;rw[fD.1]at this;cases this
     ·cases z:Z.h D with
      |none=>rfl
      |some o=>have:=(sr5.grow sm3).old _ _ z;rw[fD.1]at this;cases this
    ·obtain rfl:pp=(D,.lst (p0.map fun i=>ws.getD i .non)):=by simpa using hp
     intro z
     have:=((sr5.grow sm3).ok i qq hq).2.2
     rw[←z,fD.1]at this;cases this
 |_=>cases e4
end
end TX
namespace TX
open PySem PySem.Spec PySem.Calls PyProof.Rows L2 DL
open PySem.W (CodeHd tabObj)
noncomputable abbrev spT(P:Addr)(q:Str)(sp:Sp):Sp:=fun vs H Q E=>H P=some (.tab q)∧sp vs H Q E
section
variable{K:PySem.W.Frag}{Z:Ent K}{H:Hp}{σ:L2.St}{Q:VK}
theorem Zss{n:Nat}{g:List D→Option SV}{fa:FA}{E:XK}{P:Addr}{q:Str}(hT:Z.h P=some (.tab q))(h:Ze Z (Za1 n g fa) σ H Q):Zq8 (spT P q (spOf K n g)) [] E (Zcg Z fa) σ H Q:=by
 obtain⟨F,δ,own,rvs,δ',s,e,k⟩:=Zpx (E:=E) h
 exact⟨F,δ,own,rvs,δ',s,e,fun vs H' F' own' a b c d=>⟨c.old _ _ hT,k vs H' F' own' a b c d⟩⟩
end
section
variable{X:Cx}{Z:Ent X.K}{a:Expr}{pos:Pos}
theorem e_callH{k n:Nat}{f:Addr}{fd:FuncData}{ps:List Str}{g:List D→Option SV}{x:Str}{p:Pos}{es:List Expr}{fr:FA}{P:Addr}{q:Str}(hT:Z.h P=some (.tab q))(F:FnOk X.prog X.w X.K X.mg X.base CX0 k f fd ps (spT P q (spOf X.K n g)))(hr:Room k X.A)(hm:X.mg x=some (.ref f))(hk:PySem.W.keepIn X.K (.ref f)=true)(hb:Zbb X.K fd ps [])
  (ha:PA X (a::es) (Zcg Z fr)) (hg:Gl X x:=by rfl) (hdb:(x==("__debug__":Str))=false:=by decide) (he:starEach (a::es) X.env=(false,eval a X.env)::starEach es X.env:=by rfl) (hpl:(backTo pos (starEach es X.env)).any (·.1)=false:=by rfl):
  PE X (.Call (.Name x p) (a::es) [] pos) (Ze Z (Za1 n g fr)):=(Zk9 F hr hg hm hk hb .nil Zuw ha hdb he hpl).imp fun _ _ _ h=>Zss hT h
end
structure FunC(K:PySem.W.Frag)(x qual:Str)(st:Stmt)(f:Addr)(fd:FuncData)(c:Addr):Prop where
 ex:∃(oc:Value) (od:Option Addr) (kV doc pm:Value) (an:Option Addr) (ct:Value) (osl:Array (Option Value)),
  fd=PySem.W.fnOf x qual (Zbq st) (Zak st) (Zg st) .none kV doc pm an (.ref c) ct∧K.lookup f=some ⟨oc,od,.func fd,osl⟩∧PySem.W.codeIn K (.ref c) qual=true
 kp:PySem.W.keepIn K (.ref f)=true
theorem FunC.fn{K:PySem.W.Frag}{x qual:Str}{st:Stmt}{f:Addr}{fd:FuncData}{c:Addr}(F:FunC K x qual st f fd c):Fun K x qual st f fd:=by
 obtain⟨oc,od,kV,doc,pm,an,ct,osl,a,b,d⟩:=F.ex
 exact⟨⟨oc,od,kV,doc,pm,an,.ref c,ct,osl,a,b,d⟩,F.kp⟩
theorem funC_mk{K:PySem.W.Frag}{x qual:Str}{st:Stmt}{f c:Addr}{oc:Value}{od an:Option Addr}{osl:Array (Option Value)}{kV doc pm ct:Value}(l:K.lookup f=some ⟨oc,od,.func (PySem.W.fnOf x qual (Zbq st) (Zak st) (Zg st) .none kV doc pm an (.ref c) ct),osl⟩)
  (h:PySem.W.codeIn K (.ref c) qual=true) (k:PySem.W.keepIn K (.ref f)=true):FunC K x qual st f (PySem.W.fnOf x qual (Zbq st) (Zak st) (Zg st) .none kV doc pm an (.ref c) ct) c:=⟨⟨oc,od,kV,doc,pm,an,ct,osl,rfl,l,h⟩,k⟩
section
variable{P:Program}{w:World}{K:PySem.W.Frag}{mg:Str→Option Value}{base:Heap}
theorem FunC.ok{x qual:Str}{st:Stmt}{f:Addr}{fd:FuncData}{c:Addr}{N ps:List Str}{k:Nat}{sp:Sp}(F:FunC K x qual st f fd c)(S:FnScope N ps (Zg st))(len:∀vs H Q E,sp vs H Q E→vs.length=ps.length)
  (hbody:∀(A:Around) (outer:List Env) (s:Shared) (H:Hp) (vs:List V) (Q:VK) (E:XK),Room k (A.deeper (envOfC qual (Zg st) s.heap.objs.size f (.ref c)))→sp vs H Q E→
   ∃t,PSs (cxOf CX0 P w K mg base N qual (Zg st) f (.ref c) A outer s H E).nox (Zak st) t∧t {nx:=fun _ H'=>Q .non H',rt:=Q} (Zdb N vs) H):FnOk P w K mg base CX0 (k+1) f fd ps sp:=by
 obtain⟨oc,od,kV,doc,pm,an,ct,osl,rfl,lk,hcd⟩:=F.ex
 refine Zuk lk hcd S len fun A outer s H vs Q E hr hsp=>?_
 obtain⟨t,h,q⟩:=hbody A outer s H vs Q E hr hsp
 exact⟨t,h.nox,q⟩
end
theorem Zm2{P:Program}{w:World}{K:PySem.W.Frag}{mg mb:Str→Option Value}{CX:CXT}{k:Nat}{fa a:Addr}{fd:FuncData}{x:Str}{sp:Sp}{s₁:Shared}{vs:List Value}{ns:List Int}{c T:Addr}{q:Str}
  (KX:K.In s₁.heap) (hns:s₁.heap.Ns mainGlobals mg) (hb:s₁.heap.Ns builtinsNs mb) (hbb:∀x:Str,x≠"__name__"→mb x=bootBuiltins x) (hlim:s₁.heap.NoLimit) (hbm:BMain mg s₁.heap) (hg:s₁.gens= #[])
  (hcd:CodeHd s₁.heap c T) (hT:s₁.heap.get? T=some (tabObj #[])) (hKT:K.lookup T=none)
  (ha:s₁.heap.get? a=some {cls:=.type "list",data:=.seq vs.toArray}) (hi:IntsAre vs ns) (hl:ns.length≤sizeLine) (hr:Room k callerA)
  (F:∀base:Heap,K.In base→base.Ns mainGlobals mg→BMain mg base→FnOk P w K mg base CX k fa fd [x] (spT T q sp)) (hbind:∀(s:Shared) (u:Value),BindsTo s fd ⟨[u],[]⟩ [(x,u)])
  (hsp:∀H:Hp,SqL K H a (ns.map V.int)→sp [.ref a] H (fun v H'=>v= .bl true∧Same H H') fun _ _ _=>False)
  (hCX:∀H e s',CX [] H s₁ (fun _ _ _=>False) e s'→False):
  codeAny (model P w) callerA (.call (.ref fa) ⟨[.ref a],[]⟩) (fun r s'=>r= .ok (.ret (.bool true))∧OldK s₁.heap s'.heap∧s'.os=s₁.os∧AllBare s'.gens) s₁:=by
 have rv:=Zgp hi
 have lenV:=hi.length
 have aT:a≠T:=fun z=>by rw[z,hT]at ha;cases ha
 have core:∀H:Hp,(∀b,b≠T→H b=none∨∃o xs,H b=some (.frz o (.lst xs)))→H T=some (.tab q)→SqL K H a (ns.map V.int)→HOk P w H s₁.heap→(∀b,H b≠none→b=a∨b=T)→(H a≠none→K.lookup a=none)→
   codeAny (model P w) callerA (.call (.ref fa) ⟨[.ref a],[]⟩) (fun r s'=>r= .ok (.ret (.bool true))∧OldK s₁.heap s'.heap∧s'.os=s₁.os∧AllBare s'.gens) s₁:=by
  intro H hO hHT hS hok hA hK
  have base_of:∀{b:Addr} {o:Obj},s₁.heap.get? b=some o→H b=none→(hidT s₁.heap H).get? b=some o:=fun e n=>Zny e n
  have noA:∀{b:Addr} {o:Obj},s₁.heap.get? b=some o→o.cls≠.none→o.cls≠.type "list"→H b=none:=fun{b o} e d1 d2=>by
   cases q:H b with
   |none=>rfl
   |some u=>
    rcases hA b (by rw[q];simp)with e'|e'
    ·subst e';rw[ha]at e;cases e;exact absurd rfl d2
    ·subst e';rw[hT]at e;cases e;exact absurd rfl d1
  have noD:∀{b:Addr} {o:Obj} {es:Array DictEntry} {ep:Nat},s₁.heap.get? b=some o→o.data= .dict es ep→H b=none:=fun{b o es ep} e d=>by
   cases q:H b with
   |none=>rfl
   |some u=>
    rcases hA b (by rw[q];simp)with e'|e'
    ·subst e';rw[ha]at e;cases e;cases d
    ·subst e';rw[hT]at e;cases e;cases d
  have nsK:∀{b:Addr} {m:Str→Option Value},s₁.heap.Ns b m→(hidT s₁.heap H).Ns b m:=fun{b m} ⟨o,es,ep,e,d,r⟩=>⟨o,es,ep,base_of e (noD e d),d,r⟩
  have hKb:K.In (hidT s₁.heap H):=fun b o e=>base_of (KX b o e) (by
   cases q:H b with
   |none=>rfl
   |some u=>
    rcases hA b (by rw[q];simp)with e'|e'
    ·subst e'
     rw[hK (by rw[q];simp)]at e;cases e
    ·subst e'
     rw[hKT]at e;cases e)
  have hBb:BMain mg (hidT s₁.heap H):=by
   obtain⟨bm,ob,b1,b2,b3,b4,b5,b6⟩:=hbm
   exact⟨bm,ob,b1,b2,base_of b3 (noA b3 (by rw[b4];intro z;cases z) (by rw[b4];decide)),b4,b5,b6⟩
  have hM:Mod K mg (hidT s₁.heap H):=⟨hKb,nsK hns,⟨mb,nsK hb,hbb⟩,let⟨mc,h1,h2⟩:=hlim;⟨mc,nsK h1,h2⟩⟩
  have e0:Env0 P w K mg (hidT s₁.heap H) callerA [] s₁ H:=⟨rfl,hM,fun b o e=>Zqv e,Nat.le_of_eq (Zkt _ _),trivial,fun b hb=>absurd (show b∈([]:List Addr)from hb) (by simp),hok,.of_eq hg⟩
  refine codeAny_mono ((F _ hKb (nsK hns) hBb).run callerA [] s₁ H ⟨[.ref a],[]⟩ [.ref a] [.ref a] _ _ hr e0 (hbind s₁ (.ref a)) (.cons rfl .nil) ⟨hHT,hsp H hS⟩) fun r s' h=>?_
  cases r with
  |error e=>exact(hCX H e s' h).elim
  |ok fl=>
   cases fl with
   |next=>exact False.elim h
   |brk=>exact False.elim h
   |cont=>exact False.elim h
   |ret u=>
    obtain⟨v,H',os,bare,un,hok',r',rfl,sm⟩:=h
    obtain rfl:u=Value.bool true:=r'
    have kept:∀b o,b≠T→s₁.heap.get? b=some o→s'.heap.get? b=some o:=fun b o hb e=>by
     cases q:H b with
     |none=>exact un.keep b o e q (by intro z;exact absurd (show b∈([]:List Addr)from z) (by simp)) (by simp)
     |some u=>
      rcases hO b hb with z|⟨ob,xs,z⟩
      ·rw[q]at z;cases z
      ·obtain⟨e1,_⟩:=hok b _ z
       obtain⟨e2,_⟩:=hok' b _ (sm _ _ z)
       rw[e]at e1;cases e1
       exact e2
    obtain⟨ps,hps,_⟩:=hok' T _ (sm _ _ hHT)
    refine⟨rfl,⟨fun b o e=>?_,fun b o e=>?_⟩,os,bare⟩
    ·by_cases hbT:b=T
     ·subst hbT
      rw[hT]at e
      cases e
      exact .inr (.inl ⟨(hcd.tab hT).isCodeTable,rfl, #[],ps,rfl,by rw[hps];simp⟩)
     ·exact .inl (kept b o hbT e)
    ·by_cases hbT:b=T
     ·subst hbT;exact⟨_,hps⟩
     ·exact⟨o,kept b o hbT e⟩
 have tabOk:∀H:Hp,Zaj P w H s₁.heap T (.tab q):=fun H=>⟨#[],hT,trivial,fun pos cv z=>by cases z⟩
 cases hk:K.lookup a with
 |some o=>
  have e:=KX a o hk
  rw[ha]at e
  cases e
  refine core (fun b=>if b=T then some (.tab q)else none) (fun b hb=>.inl (if_neg hb)) (if_pos rfl) (.inr ⟨_,vs.toArray,_,hk,rfl,rfl,rfl,by rw[List.size_toArray,lenV];exact hl,by simpa using rv⟩) (fun b u z=>?_) (fun b z=>?_) fun z=>absurd (if_neg aT) z
  ·by_cases hb:b=T
   ·have z':=(if_pos hb).symm.trans z
    cases z'
    subst hb
    exact tabOk _
   ·have z':=(if_neg hb).symm.trans z
    cases z'
  ·by_cases hb:b=T
   ·exact .inr hb
   ·exact absurd (if_neg hb) z
 |none=>
  refine core (fun b=>if b=T then some (.tab q)else if b=a then some (.frz {cls:=.type "list",data:=.seq vs.toArray} (.lst (ns.map V.int)))else none) (fun b hb=>?_) (if_pos rfl) (.inl (.inr ⟨{cls:=.type "list",data:=.seq vs.toArray},by simp[aT]⟩)) (fun b u z=>?_) (fun b z=>?_) fun _=>hk
  ·by_cases hb2:b=a
   ·exact .inr ⟨_,_,by simp only[if_neg hb];exact if_pos hb2⟩
   ·exact .inl (by simp only[if_neg hb];exact if_neg hb2)
  ·by_cases hb:b=T
   ·have z':=(if_pos hb).symm.trans z
    cases z'
    subst hb
    exact tabOk _
   ·have z:=(if_neg hb).symm.trans z
    by_cases hb2:b=a
    ·have z':=(if_pos hb2).symm.trans z
     cases z'
     subst hb2
     exact⟨ha,by rw[List.length_map];exact hl,vs,_,rv,ha⟩
    ·have z':=(if_neg hb2).symm.trans z
     cases z'
  ·by_cases hb:b=T
   ·exact .inr hb
   ·by_cases hb2:b=a
    ·exact .inl hb2
    ·exact absurd (by simp[hb,hb2]) z
end TX
namespace TX
open PySem PySem.Spec PySem.Calls PyProof.Rows L2 DL
noncomputable def leS(a b:Str):Bool:=decide (¬b.cps.toList<a.cps.toList)
noncomputable def srtS(ss:List Str):List Str:=ss.mergeSort leS
theorem Zc4(ss:List Str):(srtS ss).Perm ss:=List.mergeSort_perm _ _
theorem Zic(ss:List Str):(srtS ss).Pairwise fun a b=>leS a b=true:=
 List.pairwise_mergeSort (le:=leS) (fun a b c h1 h2=>by
   simp only[leS,decide_eq_true_eq]at*
   exact List.not_lt.mpr (List.le_trans (List.not_lt.mp h1) (List.not_lt.mp h2)))
  (fun a b=>by
   simp only[leS,Bool.or_eq_true,decide_eq_true_eq]
   rcases List.le_total a.cps.toList b.cps.toList with z|z
   ·exact .inl (List.not_lt.mpr z)
   ·exact .inr (List.not_lt.mpr z)) ss
theorem Zpb{a b:Str}(h1:leS a b=true)(h2:leS b a=true):a=b:=by
 simp only[leS,decide_eq_true_eq]at*
 have e:a.cps.toList=b.cps.toList:=List.le_antisymm (List.not_lt.mp h1) (List.not_lt.mp h2)
 have e2:a.cps=b.cps:=Array.toList_inj.mp e
 cases a;cases b
 simp only at e2
 subst e2
 rfl
theorem Zhe{a b:List Str}(hp:a.Perm b)(ha:a.Pairwise fun a b=>leS a b=true)(hb:b.Pairwise fun a b=>leS a b=true):a=b:=
 List.Perm.eq_of_pairwise (fun x y _ _ h1 h2=>Zpb h1 h2) ha hb hp
theorem srtS_same{a b:List Str}(hp:a.Perm b):srtS a=srtS b:=Zhe (((Zc4 a).trans hp).trans (Zc4 b).symm) (Zic a) (Zic b)
theorem Zhf:∀(l:List Str) (p:Str),risingS p l=true→(p::l).Pairwise fun a b=>leS a b=true
 | [],p,_=>by simp
 |x::l,p,h=>by
  unfold risingS at h
  rw[Bool.and_eq_true]at h
  have ih:=Zhf l x h.2
  have hpx:leS p x=true:=by
   have:=h.1
   rw[ltCps_eq]at this
   simp only[leS,decide_eq_true_eq]
   simpa using this
  refine List.pairwise_cons.mpr ⟨fun y hy=>?_,ih⟩
  rcases List.mem_cons.mp hy with z|z
  ·rw[z];exact hpx
  ·have hxy:=(List.pairwise_cons.mp ih).1 y z
   simp only[leS,decide_eq_true_eq]at*
   exact List.not_lt.mpr (List.le_trans (List.not_lt.mp hpx) (List.not_lt.mp hxy))
theorem Zm3:∀{l:List Str},sortedS l=true→l.Pairwise fun a b=>leS a b=true
 | [],_=>.nil
 |p::l,h=>Zhf l p h
end TX
namespace L2
open PySem PySem.Spec PySem.Calls PyProof.Rows TX
section
variable{X:Cx}
theorem Ze8:∀{ss:List Str} {vs:List Value},Vals (ss.map V.str) vs→StrsAre vs ss
 | [],_,h=>by cases h;exact .nil
 |n::ns,_,h=>by
  cases h with
  |cons r t=>
   obtain⟨tk,rfl⟩:=r
   exact .cons n tk (Ze8 t)
theorem Ze9:∀{ss:List Str} {vs:List Value},StrsAre vs ss→Vals (ss.map V.str) vs
 |_,_,.nil=>.nil
 |_,_,.cons n t h=>.cons ⟨t,rfl⟩ (Ze9 h)
noncomputable def Zwj(K:PySem.W.Frag):List V→Hp→VK→Prop:=fun xs H Q=>∃l ss,xs=[.ref l]∧SqL K H l (ss.map V.str)∧ss.length<64∧∀q,H q=none→Q (.ref q) (upd H q (.lst ((srtS ss).map V.str)))
theorem Zm4:Zct X (.builtin "sorted") (Zwj X.K):=by
 intro pins s σ H xs us Q I r h
 obtain⟨l,ss,rfl,hl,hz,q⟩:=h
 obtain⟨u,rfl,ru⟩:=Zff r
 cases ru
 obtain⟨its,rv,⟨o,n,ho,hcl,_,hd⟩,_⟩:=I.list hl
 have hS:=Ze8 rv
 have li:its.length=ss.length:=by have:=rv.length;simpa using this.symm
 refine sorted_strs ⟨o,ho,hcl,n,hd⟩ hS (by omega) fun out ss' a1 a2 a3=>?_
 have e:ss'=srtS ss:=Zhe (a2.trans (Zc4 ss).symm) (Zm3 a3) (Zic ss)
 subst e
 obtain⟨c,hc⟩:=sortedAll_at s.heap its out
 have ok:Zaj X.prog X.w (upd H (s.heap.objs.size+1) (.lst ((srtS ss).map V.str))) (sortedAll s.heap its out) (s.heap.objs.size+1) (.lst ((srtS ss).map V.str)):=by
  refine⟨?_,out.toList,c,Ze9 a1,by simpa using hc⟩
  rw[List.length_map,(Zc4 ss).length_eq,sizeLine_eq]
  omega
 exact⟨.ref _,_,I.laid (t':=s.toks) (fun b x e=>sortedAll_old e) (Nat.le_succ _) ok,rfl,q _ (I.hok.fresh (Nat.le_succ _))⟩
end
end L2
namespace DL
open PySem PySem.Spec PySem.Calls PyProof.Rows L2 TX
variable{K:PySem.W.Frag}
@[simp] noncomputable def txs?:List D→Option (List Str)
 | []=>some []
 | .str i::r=>(txs? r).bind fun l=>some (i::l)
 |_=>none
theorem Zm5:∀ns:List Str,txs? (ns.map D.str)=some ns
 | []=>rfl
 |n::ns=>by rw[List.map_cons,txs?,Zm5 ns];rfl
theorem Zqj:∀{xs:List D} {ns:List Str},txs? xs=some ns→xs=ns.map D.str
 | [],_,h=>by cases h;rfl
 |x::xs,ns,h=>by
  unfold txs? at h
  split at h
  ·rename_i e;cases e
  ·rename_i i r e
   cases e
   obtain⟨l,h1,h2⟩:=Option.bind_eq_some_iff.mp h
   cases h2
   rw[Zqj h1];rfl
  ·cases h
theorem Zjh{F:Hp}:∀{ns:List Str} {vs:List V},Reps K F (ns.map D.str) vs→vs=ns.map V.str
 | [],_,h=>by cases h;rfl
 |n::ns,_,h=>by
  cases h with
  |cons h t=>cases h;rw[Zjh t];rfl
theorem Zji{F:Hp}:∀(ns:List Str),Reps K F (ns.map D.str) (ns.map V.str)
 | []=>.nil
 |n::ns=>.cons (.str n) (Zji ns)
noncomputable def Zki:List D→Option SV
 | [.lst xs]=>(txs? xs).bind fun ns=>if ns.length<64 then some (.ol ((srtS ns).map D.str))else none
 |_=>none
theorem Zjj{ns:List Str}(h:ns.length<64):Zki [.lst (ns.map D.str)]=some (.ol ((srtS ns).map D.str)):=by
 show(txs? (ns.map D.str)).bind _=_
 rw[Zm5]
 show(if ns.length<64 then _ else _)=_
 rw[if_pos h]
@[simp] noncomputable def ltS:D→D→Option SV
 | .str a,.str b=>some (.fz (.bl (decide (a.cps.toList<b.cps.toList))))
 |_,_=>none
section
variable{Z:Ent K}{H:Hp}{σ:L2.St}{Q:VK}{E:Ends}
theorem Zwk:Zfl Z (Zwj K) Zki:=by
 intro F H σ δ own vs ds sv Q s r e k
 unfold Zki at e
 split at e
 ·obtain⟨ns,e1,e2⟩:=Option.bind_eq_some_iff.mp e
  split at e2
  ·rename_i hz
   cases e2
   have:=Zqj e1
   subst this
   cases r with
   |cons h t=>
    cases t
    obtain⟨a,us,rfl,ha,ru⟩:=h.lst s.le
    have eu:=Zjh ru
    subst eu
    exact⟨a,ns,rfl,ha,hz,fun q hq=>k.lst s (Zji _) hq⟩
  ·cases e2
 ·cases e
theorem Zzz:Zae Z (fun x y H Q=>∃i j,x= .str i∧y= .str j∧Q (.bl (decide (i.cps.toList<j.cps.toList))) H) ltS:=by
 intro F H σ δ own x y d1 d2 sv Q s r1 r2 e k
 unfold ltS at e
 split at e
 ·cases e
  exact⟨_,_,r1.str,r2.str,k.fz s (.bl _)⟩
 ·cases e
end
section
variable{X:Cx}{Z:Ent X.K}{a b c:Expr}{fa fb fc:FE}{pos:Pos}
theorem Zwl(ha:PE X a (Ze Z fa))(hb:PE X b (Ze Z fb)):PE X (.Compare a [.Lt] [b] pos) (Ze Z (binF ltS fa fb)):=Zok Zk3 Zzz ha hb (Zci _)
theorem Zqk{p:Pos}(hm:X.mg "sorted"=none)(ha:PE X a (Ze Z fa))(hg:Gl X "sorted":=by rfl)(he:starEach [a] X.env=(false,eval a X.env)::starEach [] X.env:=by rfl)(hpl:(backTo pos (starEach [] X.env)).any (·.1)=false:=by rfl):
  PE X (.Call (.Name "sorted" p) [a] [] pos) (Ze Z (Zay Zki (Zc fa Zk))):=Zlu Zm4 Zwk hm L2.Zeh (Zh ha Zaz he) hg (by decide) (by decide) he hpl
end
end DL
namespace TX
open PySem PySem.Spec PySem.Calls PyProof.Rows L2 DL
open PySem.W (CodeHd tabObj)
noncomputable def hasB(names:List (Str×NameKind))(cl:List (Str×Addr)):Bool:=names.all fun p=>p.2 != .free|| (cl.lookup p.1).isSome
theorem Zwm{names:List (Str×NameKind)}{cl:List (Str×Addr)}(h:hasB names cl=true)(y:Str)(e:names.lookup y=some .free):∃c,cl.lookup y=some c:=by
 have:=List.all_eq_true.mp h (y,.free) (PySem.mem_of_lookup e)
 have z:((NameKind.free !=NameKind.free)|| (cl.lookup y).isSome)=true:=this
 rw[show(NameKind.free !=NameKind.free)=false by decide,Bool.false_or]at z
 exact Option.isSome_iff_exists.mp z
noncomputable def jsB(N:List Str)(sc lc:List (Str×NameKind)):List Nat→List Str→Bool
 |j::js,y::fs=>N[j]? ==some y&&sc.lookup y==some .cell&&lc.lookup y==some .free&&jsB N sc lc js fs
 | [],[]=>true
 |_,_=>false
theorem Zql{N:List Str}{sc lc:List (Str×NameKind)}:∀{js:List Nat} {fs:List Str},jsB N sc lc js fs=true→js.length=fs.length
 | [],[],_=>rfl
 |j::js,y::fs,h=>by
  unfold jsB at h
  simp only[Bool.and_eq_true]at h
  simp[Zql h.2]
 | [],_::_,h=>by cases h
 |_::_,[],h=>by cases h
theorem Zwn{N:List Str}{sc lc:List (Str×NameKind)}:∀{js:List Nat} {fs:List Str},jsB N sc lc js fs=true→∀(i j:Nat) (y:Str),js[i]? =some j→fs[i]? =some y→N[j]? =some y∧sc.lookup y=some .cell∧lc.lookup y=some .free
 | [],_,_,i,j,y,z,_=>by simp at z
 |j::js,[],h,_,_,_,_,_=>by cases h
 |j::js,w::fs,h,i,j',y,z1,z2=>by
  unfold jsB at h
  simp only[Bool.and_eq_true,beq_iff_eq]at h
  cases i with
  |zero=>
   obtain rfl:j=j':=by simpa using z1
   obtain rfl:w=y:=by simpa using z2
   exact⟨h.1.1.1,h.1.1.2,h.1.2⟩
  |succ i=>exact Zwn h.2 i j' y (by simpa using z1) (by simpa using z2)
section
variable{P:Program}{w:World}{K:PySem.W.Frag}{mg:Str→Option Value}{base:Heap}{tq:Addr}{q:Str}
theorem okT{x qual:Str}{st:Stmt}{f:Addr}{fd:FuncData}{N ps:List Str}{k n:Nat}(F:Fun K x qual st f fd)(S:FnScope N ps (Zg st))(hn:n=ps.length)(f0:FS)
  (hb:∀(cdv:Value) (A:Around) (outer:List Env) (s:Shared) (H F0:Hp) (E:XK),H tq=some (.tab q)→Room k (A.deeper (envOfC qual (Zg st) s.heap.objs.size f cdv))→(A.deeper (envOfC qual (Zg st) s.heap.objs.size f cdv)).units+1<cLine→(A.deeper (envOfC qual (Zg st) s.heap.objs.size f cdv)).units+64<cLine→
   PSs (cxOf CX0 P w K mg base N qual (Zg st) f cdv A outer s H E).nox (Zak st) (Z2 (ent H F0:Ent K) f0)):FnOk P w K mg base CX0 (k+1) f fd ps (spT tq q (spOf K n (Zb1 f0 N.length))):=
 F.ok S (fun _ _ _ _ h=>(Zfm h.2).trans hn) fun cdv A outer s H vs Q E hr h=>by
  obtain⟨F0,h'⟩:=Zfp (N:=N) (f:=f0) h.2
  exact⟨_,hb cdv A outer s H F0 E h.1 hr (Zrl hr) hr.units,h'⟩
theorem okC{x qual:Str}{st:Stmt}{f c:Addr}{fd:FuncData}{N ps:List Str}{k n:Nat}(F:FunC K x qual st f fd c)(S:FnScope N ps (Zg st))(hn:n=ps.length)(f0:FS)
  (hb:∀(A:Around) (outer:List Env) (s:Shared) (H F0:Hp) (E:XK),H tq=some (.tab q)→Room k (A.deeper (envOfC qual (Zg st) s.heap.objs.size f (.ref c)))→(A.deeper (envOfC qual (Zg st) s.heap.objs.size f (.ref c))).units+1<cLine→(A.deeper (envOfC qual (Zg st) s.heap.objs.size f (.ref c))).units+64<cLine→
   PSs (cxOf CX0 P w K mg base N qual (Zg st) f (.ref c) A outer s H E).nox (Zak st) (Z2 (ent H F0:Ent K) f0)):FnOk P w K mg base CX0 (k+1) f fd ps (spT tq q (spOf K n (Zb1 f0 N.length))):=
 F.ok S (fun _ _ _ _ h=>(Zfm h.2).trans hn) fun A outer s H vs Q E hr h=>by
  obtain⟨F0,h'⟩:=Zfp (N:=N) (f:=f0) h.2
  exact⟨_,hb A outer s H F0 E h.1 hr (Zrl hr) hr.units,h'⟩
end
theorem walk_ofT{l:PySem.W.OpenLaw}{n k:Nat}{qp:Program}{loose:List Str}{XP:(Str→Option Value)→Heap→Prop}{YP:World→Heap→Prop}{d:DefRec}{K:Params→PySem.W.Frag}{CX:CXT}{sp:PySem.W.Frag→Sp}{x:Str}{c T:Addr}{q:Str}
  (hn:l.most=some n) (hn2:n≤sizeLine) (hdf:d.params.defaults=[]) (hr:Room k callerA)
  (hY:∀(w:World) (h:Heap),YP w h→(K w.params).In h∧h.get? T=some (tabObj #[])) (hcT:∀p:Params,PySem.W.codeHdIn (K p) c T=true) (hKT:∀p:Params,(K p).lookup T=none)
  (F:∀(w:World) (mg:Str→Option Value) (fa:Addr) (h:Heap),(K w.params).In h→h.Ns mainGlobals mg→mg d.name=some (.ref fa)→
   ∃fd:FuncData,(∀(s:Shared) (u:Value),BindsTo s fd ⟨[u],[]⟩ [(x,u)])∧
    ∀base:Heap,(K w.params).In base→base.Ns mainGlobals mg→BMain mg base→FnOk l.prog w (K w.params) mg base CX k fa fd [x] (spT T q (sp (K w.params))))
  (hsp:∀(K:PySem.W.Frag) (H:Hp) (a:Addr) (ns:List Int),ns.length≤n→SqL K H a (ns.map V.int)→sp K [.ref a] H (fun v H'=>v= .bl true∧Same H H') fun _ _ _=>False)
  (hCX:∀(H:Hp) (s:Shared) (e:Value) (s':Shared),CX [] H s (fun _ _ _=>False) e s'→False):
  PySem.W.WalkO qp loose XP YP l.row.toRowW d [] (fun f vs=>PySem.call f vs):=by
 refine Att.attach_call hn hdf fun w s₀ s₁ mg mb fa o pm cd doc a vs ns G Y ho hd hcd hmg hobj hints hlen hg=>?_
 obtain⟨KX,hT⟩:=hY w _ Y
 obtain⟨fd,hb,hF⟩:=F w mg fa _ KX G.T.g hmg
 exact Zm2 KX G.T.g G.T.b G.T.builtins G.T.nolimit G.T.bmain hg (PySem.W.codeHd_of_K KX (hcT w.params)) hT (hKT w.params) hobj hints (Nat.le_trans hlen hn2) hr hF hb (fun H hS=>hsp _ H a ns hlen hS) fun H e s'=>hCX H s₁ e s'
end TX
namespace DL
open PySem PySem.Spec PySem.Calls PyProof.Rows L2 TX
section
variable{X:Cx}{Z:Ent X.K}{a b:Expr}{fa fb:FE}{pos:Pos}
theorem Zst(x:Str)(fs:List Str)(js:List Nat){params:Arguments}{body:Expr}{sc:Scope}{c P:Addr}{q:Str}{p1 lp kp:Pos}
  (hr:Room 3 X.A) (hv:X.A.units+64<cLine) (h1:X.mg "sorted"=none) (C:PySem.W.CodeHd X.base c P) (hT:Z.h P=some (.tab q)) (B:BMain X.mg X.base)
  (ha:PE X a (Ze Z fa)) (hb:∀(f c:Addr) (A:Around) (s1:Shared) (H1 F1:Hp),(cxL X (x::fs) q sc f c X.env.cells A s1 H1).A.units+1<cLine→PE (cxL X (x::fs) q sc f c X.env.cells A s1 H1) body (Ze (ent H1 F1:Ent X.K) fb))
  (hcode:X.env.code= .ref c:=by rfl) (hq:X.env.qual++ "<lambda>"=q:=by rfl) (S:LamS x fs sc:=by exact⟨rfl,rfl,rfl,rfl,by decide+kernel,by decide⟩) (hcl:closureFor sc X.env=pure X.env.cells:=by rfl) (hdef:defaultsOf params X.env=([],[]):=by rfl)
  (hbind:∀cl pm c ctv u,bindArgs (PySem.W.kla_fn "<lambda>" q params body sc cl pm (.ref c) ctv) ⟨[u],[]⟩=pure [(x,u)]:=by intro _ _ _ _ _;rfl) (has:hasB sc.names X.env.cells=true:=by rfl) (hjs:jsB X.N X.env.scope.names sc.names js fs=true:=by rfl)
  (g1:Gl X "sorted":=by rfl) (he1:starEach [a] X.env=(false,eval a X.env)::starEach [] X.env:=by rfl) (hp1:(backTo pos (starEach [] X.env)).any (·.1)=false:=by rfl):
  PE X (.Call (.Name "sorted" p1) [a] [⟨some "key",.Lambda params body sc lp,kp⟩] pos) (Ze Z (sortLF fa js fb)):=
 TX.e_sortL hr hv h1 hcode C hT hq B S hcl hdef hbind (fun _ _ h=>h) (fun y e=>Zwm has y e) (Zql hjs) (Zwn hjs) ha hb g1 he1 hp1
theorem e_callH{k n:Nat}{f:Addr}{fd:FuncData}{ps:List Str}{g:List D→Option SV}{x:Str}{p:Pos}{es:List Expr}{fr:FA}{P:Addr}{q:Str}(hT:Z.h P=some (.tab q))(F:FnOk X.prog X.w X.K X.mg X.base CX0 k f fd ps (spT P q (spOf X.K n g)))(hr:Room k X.A)(hm:X.mg x=some (.ref f))(hk:PySem.W.keepIn X.K (.ref f)=true)(hb:Zbb X.K fd ps [])
  (ha:PA X (a::es) (Zcg Z fr)) (hg:Gl X x:=by rfl) (hdb:(x==("__debug__":Str))=false:=by decide) (he:starEach (a::es) X.env=(false,eval a X.env)::starEach es X.env:=by rfl) (hpl:(backTo pos (starEach es X.env)).any (·.1)=false:=by rfl):
  PE X (.Call (.Name x p) (a::es) [] pos) (Ze Z (Za1 n g fr)):=TX.e_callH hT F hr hm hk hb ha hg hdb he hpl
end
end DL
namespace DL
open PySem PySem.Spec PySem.Calls PyProof.Rows L2
section
variable{K:PySem.W.Frag}{Z:Ent K}{H:Hp}{σ:L2.St}
open Classical in
@[simp] noncomputable def Zsu(fa:FA):FD:=fun δ=>(fa δ).bind fun p=>match Zb3 p.1 p.2 with
 |some [.int i,.int j]=>if rngP i∧rngP j then some (Zem i (j- i).toNat,p.2)else none
 |_=>none
theorem Zsv{fa:FA}{R:It→Hp→Prop}(h:Zb0 Z (Zsu fa) σ H R):Zt7 (Zcg Z fa) σ H R:=by
 obtain⟨F,δ,own,ds,δ',s,e,k⟩:=h
 obtain⟨⟨rvs,δ1⟩,e1,e2⟩:=Option.bind_eq_some_iff.mp e
 refine⟨F,δ,own,rvs,δ1,s,e1,fun vs H1 F1 own1 sH sF s1 r1=>?_⟩
 dsimp only at e2
 split at e2
 ·rename_i i j hj
  have rn:=s1.rdAll r1 hj
  cases rn with
  |cons h t=>
   cases t with
   |cons h' t=>
    cases t
    by_cases hb:rngP i∧rngP j
    ·rw[if_pos hb]at e2
     cases e2
     exact⟨i,j,by rw[h.int,h'.int],⟨hb.1.1,hb.1.2,hb.2.1,hb.2.2⟩,k _ H1 F1 own1 sH sF s1 Zdq⟩
    ·rw[if_neg hb]at e2;cases e2
 ·cases e2
end
section
variable{X:Cx}{Z:Ent X.K}{a b:Expr}{fa fb:FE}{pos:Pos}
theorem Zwo{tg:Expr}{p:Pos}(hm:X.mg "range"=none)(ha:PE X a (Ze Z fa))(hb:PE X b (Ze Z fb))(hg:Gl X "range":=by rfl)(hs:starEach [a,b] X.env=[(false,eval a X.env),(false,eval b X.env)]:=by rfl)(hs2:starEach [b] X.env=[(false,eval b X.env)]:=by rfl):
  PI X tg (.Call (.Name "range" p) [a,b] [] pos) (Zb0 Z (Zsu (Zc fa (Zc fb Zk)))):=(Zky hg hm (Zh ha (Zh hb Zaz hs2) (by rw[hs,hs2])) hs hs2).imp fun _ _ _ h=>Zsv h
end
end DL
namespace My
open DL PySem
theorem Zaf{n:Nat}(h:n≤16777216):n≤PySem.sizeLine:=h
theorem Zat{n:Nat}(h:n<16777216):n<PySem.sizeLine:=h
noncomputable abbrev LET:Str:="ABCDEFGHIJKLMNOPQRSTUVWXYZabcdefghijklmnopqrstuvwxyz"
theorem Zz0(c:Nat):(⟨#[c]⟩:Str).length=1:=rfl
theorem Zsw(ns:List Int)(lo hi:Option Int):∃ms:List Int,cutD (ns.map D.int) lo hi=ms.map D.int∧ms.length≤ns.length:=by
 unfold cutD
 refine⟨(ns.drop _).take _,by rw[List.map_take,List.map_drop],?_⟩
 rw[List.length_take,List.length_drop];omega
noncomputable def cat:List Str→Str
 | []=>""
 |x::r=>x++cat r
theorem Zjk{te:FE}{f:D→D}:∀(xs ys:List D),(∀x∈xs,∀zs,te [some (.fz x),some (.ol zs)]=some (.tmp (.fz (f x)),[some (.fz x),some (.ol zs)]))→ys.length+xs.length≤16777216→
  Zfn [.own,.acc] 1 (Zq 0) Zh2 te xs [none,some (.ol ys)]=some [none,some (.ol (ys++xs.map f))]
 | [],ys,_,_=>by simp
 |x::xs,ys,h,hl=>by
  rw[List.length_cons]at hl
  have ih:=Zjk (te:=te) (f:=f) xs (ys++[f x]) (fun y hy=>h y (List.mem_cons_of_mem _ hy)) (by rw[List.length_append];simp;omega)
  have e1:=h x List.mem_cons_self ys
  have h4:ys.length<PySem.sizeLine:=Zat (by omega)
  simp[e1,h4]
  simpa using ih
theorem Zdh{f:D→D→Option Bool}:∀xs:List D,(∀x∈xs,f x x=some true)→Zfq f xs xs=some true
 | [],_=>rfl
 |x::r,h=>by simp[h x List.mem_cons_self,Zdh r fun y hy=>h y (List.mem_cons_of_mem _ hy)]
end My
namespace My
open DL PySem StrLaws Builtin.Str
noncomputable def gap(n:Nat):Nat→List Nat→Prop
 |_,[]=>True
 |a,p::r=>a≤p∧gap n (p+n) r
noncomputable def jl(y:List Nat):List (List Nat)→List Nat
 | []=>[]
 | [p]=>p
 |p::q::r=>p++y++jl y (q::r)
noncomputable def pos(n:Nat):Nat→List (List Nat)→List Nat
 |_,[]=>[]
 |_,[_]=>[]
 |a,p::q::r=>(a+p.length)::pos n (a+p.length+n) (q::r)
structure Sep(y:Str)(c o:Nat):Prop where
 at':y.cps.toList[o]? =some c
 one:∀j,y.cps.toList[j]? =some c→j=o
end My
namespace My
open DL PySem
theorem Zbu{tg:FG}{body:FS}{d:D}{ds:List D}{δ δ1 δ2:DSt}(h1:tg.run d δ=some δ1)(h2:body δ1=some (.nx δ2)):forD tg body (d::ds) δ=forD tg body ds δ2:=by
 show(tg.run d δ).bind _=_
 rw[h1,Option.bind_some,h2,Option.bind_some]
theorem Zm6{tg:FG}{body:FS}{d:D}{ds:List D}{δ δ1:DSt}{sv:SV}(h1:tg.run d δ=some δ1)(h2:body δ1=some (.rt sv)):forD tg body (d::ds) δ=some (.rt sv):=by
 show(tg.run d δ).bind _=_
 rw[h1,Option.bind_some,h2,Option.bind_some]
theorem Zhg{t:FT}{b:FS}{n:Nat}{δ δ1 δ2:DSt}(h1:t δ=some (true,δ1))(h2:b δ1=some (.nx δ2)):Za5 t b (n+1) δ=Za5 t b n δ2:=by
 show(t δ).bind _=_
 rw[h1,Option.bind_some]
 show(if true=true then(b δ1).bind _ else _)=_
 rw[if_pos rfl,h2,Option.bind_some]
theorem Zkj{t:FT}{b:FS}{n:Nat}{δ δ1:DSt}(h1:t δ=some (false,δ1)):Za5 t b (n+1) δ=some (.nx δ1):=by
 show(t δ).bind _=_
 rw[h1,Option.bind_some]
 rfl
noncomputable abbrev S(l:List Nat):Str:=⟨l.toArray⟩
theorem Zwp(l:List Nat):(S l).length=l.length:=by show l.toArray.size=_;simp
theorem Zz1(a b:List Nat):S a++S b=S (a++b):=by
 show(⟨a.toArray++b.toArray⟩:Str)=⟨(a++b).toArray⟩
 simp
theorem Zz2{a b:List Nat}(h:S a=S b):a=b:=by
 have:a.toArray=b.toArray:=congrArg Str.cps h
 simpa using this
theorem Zsx{α:Type}(p:List α)(c:α):L2.atI (p++[c]) (-1)=some c:=by
 unfold L2.atI L2.ixN
 rw[List.length_append,List.length_singleton,if_neg (by decide),if_pos (by omega)]
 have e:(-1+((p.length+1:Nat):Int)).toNat=p.length:=by omega
 rw[e]
 simp
theorem Zb6{α:Type}(p:List α)(i:Nat)(c:α)(h:p[i]? =some c):L2.atI p (i:Int)=some c:=by
 have hl:=(List.getElem?_eq_some_iff.mp h).1
 unfold L2.atI L2.ixN
 rw[if_pos (by omega),if_pos (by omega)]
 simpa using h
section
variable{κ:Type}[DecidableEq κ]
theorem Zjl(k k':κ)(v:D):∀(ks:List κ) (vs:List D),k∈ks→ks.length=vs.length→look ks ((ks.zip vs).map fun p=>if p.1=k then v else p.2) k'=if k=k' then some v else look ks vs k'
 |a::ks,u::vs,hk,hl=>by
  rw[List.zip_cons_cons,List.map_cons]
  show(if a=k' then some (if a=k then v else u)else look ks ((ks.zip vs).map fun p=>if p.1=k then v else p.2) k')=if k=k' then some v else(if a=k' then some u else look ks vs k')
  by_cases ha:a=k'
  ·subst ha
   rw[if_pos rfl,if_pos rfl]
   by_cases hk2:a=k
   ·subst hk2;rw[if_pos rfl,if_pos rfl]
   ·rw[if_neg hk2,if_neg fun e=>hk2 e.symm]
  ·rw[if_neg ha,if_neg ha]
   by_cases hm:k∈ks
   ·exact Zjl k k' v ks vs hm (by simpa using hl)
   ·have hak:k=a:=by
     rcases List.mem_cons.mp hk with e|e
     ·exact e
     ·exact absurd e hm
    rw[if_neg fun e=>ha (hak.symm.trans e)]
    have:((ks.zip vs).map fun p=>if p.1=k then v else p.2)=vs:=by
     have hl':ks.length=vs.length:=by simpa using hl
     clear hk hl ha
     induction ks generalizing vs with
     |nil=>cases vs with
      |nil=>rfl
      |cons _ _=>simp at hl'
     |cons b ks ih=>cases vs with
      |nil=>simp at hl'
      |cons w vs=>
       rw[List.zip_cons_cons,List.map_cons,if_neg fun e=>hm (by rw[←e];exact List.mem_cons_self),ih vs (fun h=>hm (List.mem_cons_of_mem _ h)) (by simpa using hl')]
    rw[this]
 | [],_,hk,_=>nomatch hk
theorem Zhh(k k':κ)(v:D):∀(ks:List κ) (vs:List D),k∉ks→ks.length=vs.length→look (ks++[k]) (vs++[v]) k'=if k=k' then some v else look ks vs k'
 | [],[],_,_=>by show(if k=k' then some v else none)=_;rfl
 |a::ks,u::vs,hk,hl=>by
  show(if a=k' then some u else look (ks++[k]) (vs++[v]) k')=if k=k' then some v else(if a=k' then some u else look ks vs k')
  by_cases ha:a=k'
  ·rw[if_pos ha,if_pos ha,if_neg fun e=>hk (by rw[e,←ha];exact List.mem_cons_self)]
  ·rw[if_neg ha,if_neg ha]
   exact Zhh k k' v ks vs (fun h=>hk (List.mem_cons_of_mem _ h)) (by simpa using hl)
theorem Zf1(k k':κ)(v:D)(ks:List κ)(vs:List D)(hl:ks.length=vs.length):look (putA ks vs k v).1 (putA ks vs k v).2 k'=if k=k' then some v else look ks vs k':=by
 unfold putA
 split
 ·rename_i h;exact Zjl k k' v ks vs h hl
 ·rename_i h;exact Zhh k k' v ks vs h hl
theorem Zsy(k:κ)(v:D)(ks:List κ)(vs:List D)(hl:ks.length=vs.length):(putA ks vs k v).1.length=(putA ks vs k v).2.length∧(putA ks vs k v).2.length≤vs.length+1:=by
 unfold putA
 split
 ·simp[hl]
 ·simp[hl]
end
end My
namespace My
open DL PySem
noncomputable abbrev nats(s n:Nat):List D:=(List.range' s n).map fun i:Nat=>D.int (i:Int)
theorem Zc5(n:Nat):Zem 0 n=nats 0 n:=by
 unfold Zem
 rw[List.range_eq_range']
 refine List.map_congr_left fun i _=>?_
 simp
theorem Zb7{tg:FG}{body:FS}{P:Nat→DSt→Prop}:∀(n s:Nat) (δ:DSt),P s δ→(∀i,s≤i→i<s+n→∀δ,P i δ→∃δ1 δ2,tg.run (.int (i:Int)) δ=some δ1∧body δ1=some (.nx δ2)∧P (i+1) δ2)→
  ∃δ',forD tg body (nats s n) δ=some (.nx δ')∧P (s+n) δ'
 |0,s,δ,h,_=>⟨δ,rfl,h⟩
 |n+1,s,δ,h,k=>by
  obtain⟨δ1,δ2,h1,h2,h3⟩:=k s (Nat.le_refl _) (by omega) δ h
  obtain⟨δ',e,h'⟩:=Zb7 (tg:=tg) (body:=body) (P:=P) n (s+1) δ2 h3 fun i hi hj=>k i (by omega) (by omega)
  refine⟨δ',?_,by rw[show s+(n+1)=s+1+n by omega];exact h'⟩
  show forD tg body (.int (s:Int)::nats (s+1) n) δ=_
  rw[Zbu h1 h2];exact e
noncomputable def Zm7(i:Nat):List D→List D
 | []=>[]
 |x::r=>.tup [.int (i:Int),x]::Zm7 (i+1) r
theorem Zwq(xs:List D):∀i:Nat,((xs.zipIdx i).map fun p:D×Nat=>D.tup [.int (p.2:Nat),p.1])=Zm7 i xs:=by
 induction xs with
 |nil=>intro i;rfl
 |cons x r ih=>intro i;rw[List.zipIdx_cons,List.map_cons,ih];rfl
theorem Zsz(xs:List D):Zea xs=Zm7 0 xs:=Zwq xs 0
theorem Zs0(t:Str)(r:List Str):inFl (.str t) (r.map D.str)=decide (t∈r):=by
 unfold inFl
 induction r with
 |nil=>rfl
 |cons x r ih=>
  rw[List.map_cons,List.any_cons,ih,Zo1]
  by_cases h:x=t
  ·subst h;simp
  ·have h':¬t=x:=fun e=>h e.symm
   simp[h,h']
theorem Zm8(n:Nat)(xs:List D)(h:∀x∈xs,eqM n x x=some true):eqM (n+1) (.lst xs) (.lst xs)=some true:=by
 simp[Zdh xs h]
theorem Zs1(n:Nat)(xs:List D)(h:∀x∈xs,eqM n x x=some true):eqM (n+1) (.tup xs) (.tup xs)=some true:=by
 simp[Zdh xs h]
theorem Zid(n:Nat)(x:Str):eqM (n+1) (.str x) (.str x)=some true:=by simp
theorem Zf2(n:Nat)(r:List Str):eqM (n+2) (.lst (r.map D.str)) (.lst (r.map D.str))=some true:=Zm8 _ _ fun x hx=>by
 obtain⟨t,_,rfl⟩:=List.mem_map.mp hx
 exact Zid n t
theorem Zwr(xs:List D)(m:Nat)(h:m≤xs.length):cutD xs none (some (m:Int))=xs.take m:=by
 unfold cutD HT.sIx
 dsimp only
 rw[if_neg (by omega),List.drop_zero]
 congr 1
 omega
theorem Zpc(xs:List D)(m:Nat)(h:m≤xs.length):cutD xs (some (m:Int)) none=xs.drop m:=by
 unfold cutD HT.sIx
 dsimp only
 rw[if_neg (by omega),show min ((m:Int)).toNat xs.length=m by omega]
 rw[List.take_of_length_le (by rw[List.length_drop];omega)]
theorem Zjm{α:Type}(l:List α)(x n:Int)(hl:(l.length:Int)=n)(hn:0<n):∃c,c∈l∧L2.atI l (x % n)=some c:=by
 have h0:0≤x % n:=Int.emod_nonneg _ (by omega)
 have h1:x % n<n:=Int.emod_lt_of_pos _ hn
 obtain⟨j,hj⟩:=Int.eq_ofNat_of_zero_le h0
 have hjl:j<l.length:=by omega
 rw[hj]
 exact⟨l[j],List.getElem_mem hjl,Zb6 _ _ _ (List.getElem?_eq_getElem hjl)⟩
end My
namespace My
open DL PySem StrLaws Builtin.Str
end My
namespace My
open DL PySem
noncomputable abbrev inrs(xs:List Str):List L2.Key:=xs.map Sum.inr
theorem Zcd(k:Str):∀(xs:List Str) (vs:List D),look (inrs xs) vs (Sum.inr k)=look xs vs k
 | [],[]=>rfl
 | [],_::_=>rfl
 |_::_,[]=>rfl
 |x::xs,v::vs=>by
  show(if(Sum.inr x:L2.Key)=Sum.inr k then some v else look (inrs xs) vs (Sum.inr k))=if x=k then some v else look xs vs k
  rw[Zcd k xs vs]
  by_cases h:x=k
  ·rw[if_pos h,if_pos (by rw[h])]
  ·rw[if_neg h,if_neg fun e=>h (Sum.inr.inj e)]
theorem Zc6(k:Str)(v:D)(xs:List Str)(vs:List D):putA (inrs xs) vs (Sum.inr k) v=(inrs (putA xs vs k v).1,(putA xs vs k v).2):=by
 have hm:((Sum.inr k:L2.Key)∈inrs xs)↔k∈xs:=by
  constructor
  ·intro h
   obtain⟨y,hy,e⟩:=List.mem_map.mp h
   rw[←Sum.inr.inj e];exact hy
  ·exact fun h=>List.mem_map.mpr ⟨k,h,rfl⟩
 unfold putA
 by_cases h:k∈xs
 ·rw[if_pos h,if_pos (hm.mpr h)]
  congr 1
  have:∀(xs:List Str) (vs:List D),((inrs xs).zip vs).map (fun p=>if p.1=(Sum.inr k:L2.Key)then v else p.2)=(xs.zip vs).map fun p=>if p.1=k then v else p.2:=by
   intro xs
   induction xs with
   |nil=>intro vs;rfl
   |cons x xs ih=>
    intro vs
    cases vs with
    |nil=>rfl
    |cons u vs=>
     show(if(Sum.inr x:L2.Key)=Sum.inr k then v else u)::((inrs xs).zip vs).map (fun p=>if p.1=(Sum.inr k:L2.Key)then v else p.2)=(if x=k then v else u)::(xs.zip vs).map fun p=>if p.1=k then v else p.2
     rw[ih vs]
     by_cases hx:x=k
     ·rw[if_pos hx,if_pos (by rw[hx])]
     ·rw[if_neg hx,if_neg fun e=>hx (Sum.inr.inj e)]
  exact this xs vs
 ·rw[if_neg h,if_neg fun e=>h (hm.mp e)]
  simp[inrs]
theorem Zjn{k:Str}{v:D}{xs:List Str}{vs:List D}(h:k∉xs):putA xs vs k v=(xs++[k],vs++[v]):=by
 unfold putA;rw[if_neg h]
theorem Zkk(k:Str)(v:D)(xs:List Str)(vs:List D)(h:xs.Nodup):(putA xs vs k v).1.Nodup:=by
 unfold putA
 split
 ·exact h
 ·rename_i hk
  exact List.nodup_append.mpr ⟨h,by simp,fun a ha b hb e=>hk (by rw[List.mem_singleton.mp hb]at e;rw[←e];exact ha)⟩
theorem Zm9(k:Str)(v:D)(xs:List Str)(vs:List D):∀u∈(putA xs vs k v).2,u=v∨u∈vs:=by
 intro u hu
 unfold putA at hu
 split at hu
 ·obtain⟨p,hp,e⟩:=List.mem_map.mp hu
  split at e
  ·exact .inl e.symm
  ·exact .inr (by rw[←e];exact(List.of_mem_zip hp).2)
 ·rcases List.mem_append.mp hu with h|h
  ·exact .inr h
  ·exact .inl (List.mem_singleton.mp h)
structure Dic(xs:List Str)(vs:List D):Prop where
 nd:xs.Nodup
 len:xs.length=vs.length
theorem Dic.nil:Dic [] []:=⟨List.nodup_nil,rfl⟩
theorem Dic.put{xs:List Str}{vs:List D}(h:Dic xs vs)(k:Str)(v:D):Dic (putA xs vs k v).1 (putA xs vs k v).2:=⟨Zkk k v xs vs h.nd,(Zsy k v xs vs h.len).1⟩
theorem Zpd{xs:List Str}:∀{vs:List D},xs.Nodup→xs.length=vs.length→∀(i:Nat) (x:Str) (v:D),xs[i]? =some x→vs[i]? =some v→look xs vs x=some v:=by
 induction xs with
 |nil=>intro vs _ _ i x v h;simp at h
 |cons y xs ih=>
  intro vs nd hl i x v hx hv
  cases vs with
  |nil=>simp at hv
  |cons u vs=>
   obtain⟨n1,n2⟩:=List.nodup_cons.mp nd
   show(if y=x then some u else look xs vs x)=some v
   cases i with
   |zero=>
    simp at hx hv
    rw[if_pos hx,hv]
   |succ i=>
    simp at hx hv
    have hm:=List.mem_of_getElem? hx
    rw[if_neg fun e=>n1 (by rw[e];exact hm)]
    exact ih n2 (by simpa using hl) i x v hx hv
theorem Zf3{xs:List Str}:∀{vs:List D} {x:Str} {v:D},look xs vs x=some v→v∈vs:=by
 induction xs with
 |nil=>intro vs x v h;cases vs<;> cases h
 |cons y xs ih=>
  intro vs x v h
  cases vs with
  |nil=>cases h
  |cons u vs=>
   have h:(if y=x then some u else look xs vs x)=some v:=h
   split at h
   ·cases h;exact List.mem_cons_self
   ·exact List.mem_cons_of_mem _ (ih h)
theorem Zjo:∀xs:List Str,strK? (inrs xs)=some xs
 | []=>rfl
 |x::xs=>by
  show(strK? (inrs xs)).bind (fun t=>some (x::t))=some (x::xs)
  rw[Zjo xs];rfl
theorem Zhi{f:D→D→Option Bool}{ys:List Str}{us:List D}:∀(xs:List Str) (vs:List D),(∀(i:Nat) (x:Str) (v:D),xs[i]? =some x→vs[i]? =some v→look ys us x=some v∧f v v=some true)→eqKV f ys us xs vs=some true
 | [],_,_=>rfl
 |_::_,[],_=>rfl
 |x::xs,v::vs,h=>by
  obtain⟨h1,h2⟩:=h 0 x v rfl rfl
  have ih:=Zhi xs vs fun i x v hx hv=>h (i+1) x v (by simpa using hx) (by simpa using hv)
  show(match look ys us x with
   |none=>some false
   |some u=>(f v u).bind fun b=>(eqKV f ys us xs vs).bind fun c=>some (b&&c))=some true
  rw[h1]
  dsimp only
  rw[h2,ih];rfl
theorem Zqm(n:Nat){xs:List Str}{vs:List D}(h:Dic xs vs)(hv:∀v∈vs,eqM n v v=some true):eqM (n+1) (.dK (inrs xs) vs) (.dK (inrs xs) vs)=some true:=by
 show(strK? (inrs xs)).bind (fun xs'=>(strK? (inrs xs)).bind fun ys=>if xs'.length=ys.length then eqKV (eqM n) ys vs xs' vs else some false)=some true
 rw[Zjo]
 dsimp only[Option.bind]
 rw[if_pos rfl]
 exact Zhi xs vs fun i x v hx hv'=>⟨Zpd h.nd h.len i x v hx hv',hv v (List.mem_of_getElem? hv')⟩
end My
noncomputable section
local macro_rules| `(tactic|trivial)=> `(tactic|first|exact Or.inl rfl|exact Or.inr (Or.inl rfl)|exact Or.inr (Or.inr rfl)|exact Or.inr rfl)
namespace Gen
open PySem PySem.Spec PyProof.Rows L2 DL
noncomputable def top(i:Nat):Stmt:=PySem.Challenge.pw_citeward_k31_the_order_of_a_list.main.body.getD i (.Pass ⟨0,0,0,0⟩)
noncomputable abbrev FUEL:Nat:=1000
noncomputable abbrev Zbi:Stmt:=top 13
noncomputable abbrev Zco:Stmt:=top 14
noncomputable abbrev Zb8:Stmt:=top 15
noncomputable abbrev Zbj:Stmt:=top 6
noncomputable abbrev Zbk:Stmt:=top 5
noncomputable abbrev Zna:Stmt:=top 4
noncomputable abbrev Znb:Stmt:=top 7
noncomputable abbrev Zie:Stmt:=top 10
noncomputable abbrev Zcp:Stmt:=top 9
noncomputable abbrev Zbl:Stmt:=top 12
noncomputable abbrev Zdi:Stmt:=top 16
noncomputable abbrev Zb9:Stmt:=top 17
noncomputable abbrev Zc7:Stmt:=top 18
noncomputable def Zap:FS:=
 seqF (setF 3 (binF modD (binF mulZ (binF addD (binF addD (Za 3) (Za 4)) (Zb (.int 1))) (Zb (.int 48271))) (Zb (.int 2147483647)))) (appF 2 (Za 3))
noncomputable def Zbv:FS:=
 seqF (setF 2 (lstF (Zl))) (seqF (setF 3 (binF modD (Za 0) (Zb (.int 2147483647)))) (seqF (forF (rngI (Zc (Za 1) Zk)) (Zq 4) Zap) (retF (Za 2))))
noncomputable def Zt:List D→Option SV:=Zb1 Zbv 5
noncomputable def Zab:FS:=
 setF 8 (binF addD (Za 8) (binF ixX (Za 2) (binF modD (binF addD (binF ixX (Za 3) (Za 9)) (binF mulZ (binF mulZ (Zb (.int 7)) (Za 7)) (Zay intD (Zc (binF eqY (Za 9) (Za 5)) Zk)))) (Zb (.int 26)))))
noncomputable def Zbe:FS:=
 seqF (setF 8 (Zb (.str ""))) (seqF (forF (rngI (Zc (Za 4) Zk)) (Zq 9) Zab) (appF 6 (Za 8)))
noncomputable def Zdj:FS:=
 seqF (setF 2 (Zb (.str "abcdefghijklmnopqrstuvwxyz"))) (seqF (setF 3 (Za1 2 Zt (Zc (Za 0) (Zc (Zb (.int 10)) (Zk))))) (seqF (setF 4 (binF addD (Zb (.int 1)) (binF modD (binF ixX (Za 3) (Zb (.int 8))) (Zb (.int 8))))) (seqF (setF 5 (binF modD (binF ixX (Za 3) (Zb (.int 9))) (Za 4))) (seqF (setF 6 (lstF (Zl))) (seqF (forF (rngI (Zc (Za 1) Zk)) (Zq 7) Zbe) (retF (Za 6)))))))
noncomputable def Zbn:List D→Option SV:=Zb1 Zdj 10
noncomputable def Zaq:FS:=
 seqF (setF 5 (Za1 2 Zt (Zc (Za 4) (Zc (Zb (.int 6)) (Zk))))) (seqF (setF 6 (Zmb)) (seqF (ifS (Zy (binF gtD (binF modD (binF ixX (Za 5) (Zb (.int 0))) (Zb (.int 3))) (Zb (.int 0)))) (putF 6 (Zb (.str "title")) (binF ixX (lstF (Zbd ["So","so","It","10","9"] (Zl))) (binF modD (binF Zd9 (binF ixX (Za 5) (Zb (.int 0))) (Zb (.int 3))) (Zb (.int 5))))) (Zbc)) (seqF (ifS (Zy (binF gtD (binF modD (binF ixX (Za 5) (Zb (.int 1))) (Zb (.int 3))) (Zb (.int 0)))) (putF 6 (Zb (.str "year")) (binF ixX (lstF (Zbd ["2001","1999","2001 b"] (Zl))) (binF modD (binF Zd9 (binF ixX (Za 5) (Zb (.int 1))) (Zb (.int 3))) (Zb (.int 3))))) (Zbc)) (seqF (ifS (Zy (binF gtD (binF modD (binF ixX (Za 5) (Zb (.int 2))) (Zb (.int 3))) (Zb (.int 0)))) (putF 6 (Zb (.str "hands")) (binF ixX (lstF (Zbd ["Lee, Ann","Lee","Kim & Lee"] (Zl))) (binF modD (binF Zd9 (binF ixX (Za 5) (Zb (.int 2))) (Zb (.int 3))) (Zb (.int 3))))) (Zbc)) (seqF (ifS (Zy (binF eqY (binF modD (binF Zd9 (binF ixX (Za 5) (Zb (.int 5))) (Zb (.int 2))) (Zb (.int 3))) (Zb (.int 0)))) (putF 6 (Zb (.str "note")) (binF ixX (lstF (Zbd ["","so"] (Zl))) (binF modD (binF Zd9 (binF ixX (Za 5) (Zb (.int 5))) (Zb (.int 6))) (Zb (.int 2))))) (Zbc)) (seqF (ifS (andF (Zy (binF eqY (binF modD (binF ixX (Za 5) (Zb (.int 3))) (Zb (.int 2))) (Zb (.int 0)))) (Zy (binF ltD (binF addD (Za 3) (Zb (.int 1))) (Zay lenD (Zc (Za 0) Zk))))) (putF 6 (Zb (.str "in")) (binF ixX (Za 0) (binF addD (binF addD (Za 3) (Zb (.int 1))) (binF modD (binF ixX (Za 5) (Zb (.int 4))) (binF subD (binF subD (Zay lenD (Zc (Za 0) Zk)) (Za 3)) (Zb (.int 1))))))) (Zbc)) (putF 2 (binF ixX (Za 0) (Za 3)) (tupF (Zi (binF ixX (lstF (Zbd ["part","book"] (Zl))) (binF modD (binF ixX (Za 5) (Zb (.int 5))) (Zb (.int 2)))) (Zi (Za 6) (Zl)))))))))))
noncomputable def Zcq:FS:=
 seqF (setF 2 (Zmb)) (seqF (forF (Zl3 (Zi (Za 1) Zl)) (Zhz 2 (Zcz (Zq 3) (Zcz (Zq 4) (Zj1)))) Zaq) (retF (Za 2)))
noncomputable def Zau:List D→Option SV:=Zb1 Zcq 7
noncomputable def Z3:FS:=
 ifS (Zy (binF eqY (binF ixX (Za 3) (Zb (.int 0))) (Za 2))) (retF (binF ixX (Za 3) (Zb (.int 1)))) (Zbc)
noncomputable def Zbw:FS:=
 seqF (forF (anyI (bmDF "dict" Ze1 (Za 0) (Zi (Za 1) (Zi (lstF (Zl)) (Zl))))) (Zq 3) Z3) (retF (Zb .non))
noncomputable def Zar:List D→Option SV:=Zb1 Zbw 4
noncomputable def Zbx:FS:=
 seqF (setF 3 (binF ixX (Za 0) (binF ixX (Za 2) (Zb (.int 0))))) (seqF (setF 4 (binF ixX (Za 3) (Zb (.int 1)))) (seqF (ifS (Zy (binF inZ (binF ixX (Za 2) (Zb (.int 1))) (Za 4))) (retF (Zb .non)) (Zbc)) (seqF (setF 5 (Za1 3 Zar (Zc (Za 1) (Zc (binF ixX (Za 3) (Zb (.int 0))) (Zc (binF ixX (Za 2) (Zb (.int 1))) (Zk)))))) (seqF (setF 6 (bmDF "dict" Ze1 (Za 4) (Zi (Zb (.str "in")) (Zl)))) (seqF (ifS (orF (Zy (binF isND (Za 5) (Zb .non))) (orF (Zy (binF isND (Za 6) (Zb .non))) (Zy (binF Ze5 (Za 6) (Za 0))))) (retF (Zb .non)) (Zbc)) (retF (tupF (Zi (Za 6) (Zi (Za 5) (Zl))))))))))
noncomputable def Zas:List D→Option SV:=Zb1 Zbx 7
noncomputable def Zdk:FT:=
 Zy (binF Zj3 (Za 6) (Zb .non))
noncomputable def Zf4:FS:=
 seqF (ifS (Zy (binF inZ (Za 6) (Za 5))) (Zp4) (Zbc)) (seqF (putF 5 (Za 6) (Zay lenD (Zc (Za 4) Zk))) (seqF (appF 4 (Za 6)) (setF 6 (Za1 3 Zas (Zc (Za 0) (Zc (Za 1) (Zc (Za 6) (Zk))))))))
noncomputable def Zs2:FS:=
 seqF (setF 4 (lstF (Zl))) (seqF (setF 5 (Zr8)) (seqF (setF 6 (tupF (Zi (Za 2) (Zi (Za 3) (Zl))))) (seqF (Za5 Zdk Zf4 FUEL) (retF (Za 4)))))
noncomputable def Znc:List D→Option SV:=Zb1 Zs2 7
noncomputable def Zs3:FS:=
 seqF (setF 4 (binF ixX (Za1 4 Znc (Zc (Za 0) (Zc (Za 1) (Zc (Za 2) (Zc (Za 3) (Zk)))))) (unF negD (Zb (.int 1))))) (retF (bmDF "dict" Ze1 (binF ixX (binF ixX (Za 0) (binF ixX (Za 4) (Zb (.int 0)))) (Zb (.int 1))) (Zi (binF ixX (Za 4) (Zb (.int 1))) (Zl))))
noncomputable def Zkl:List D→Option SV:=Zb1 Zs3 5
noncomputable def Zdz:FE:=
 Za1 4 Zkl (Zc (Za 1) (Zc (Za 2) (Zc (Za 3) (Zc (Za 0) (Zk)))))
noncomputable def Zc8:FE:=
 ifF (Zy (binF isND (Za 0) (Zb .non))) (tupF (Zi (Zb (.int 0)) (Zi (Zb (.str "")) (Zl)))) (tupF (Zi (Zb (.int 1)) (Zi (Za 0) (Zl))))
noncomputable def Znd:FS:=
 seqF (setF 4 (Zlq [.own,.cap 0,.cap 1,.cap 2,.acc] 4 (anyI (Za 3)) (Zq 0) (Zh2) Zdz)) (retF (tupF (Zi (Zlq [.own,.acc] 1 (anyI (Za 4)) (Zq 0) (Zh2) Zc8) (Zi (Za 2) (Zl)))))
noncomputable def Zhj:List D→Option SV:=Zb1 Znd 5
noncomputable def Zca:FS:=
 putF 4 (Za 5) (Za1 4 Zhj (Zc (Za 0) (Zc (Za 1) (Zc (Za 5) (Zc (Za 3) (Zk))))))
noncomputable def Zdl:FS:=
 seqF (setF 4 (Zmb)) (seqF (forF (anyI (Za 2)) (Zq 5) Zca) (retF (TX.sortLF (Za 2) [4] (binF ixX (Za 1) (Za 0)))))
noncomputable def Zbo:List D→Option SV:=Zb1 Zdl 6
noncomputable def Za3:FS:=
 seqF (ifS (Zy (binF ltD (Za 1) (Zay lenD (Zc (Za 0) Zk)))) (retF (binF ixX (Za 0) (Za 1))) (Zbc)) (retF (Zb (.int 0)))
noncomputable def Zx:List D→Option SV:=Zb1 Za3 2
noncomputable def Zby:FT:=
 Zy (binF inZ (Za 1) (Za 0))
noncomputable def Za8:FS:=
 seqF (Zh0 (Zhz 2 (Zcz (Zq 3) (Zcz (Zq 4) (Zj1)))) (binF ixX (Za 0) (Za 1))) (seqF (ifS (Zy (binF inZ (Za 2) (Za 4))) (retF (binF ixX (Za 4) (Za 2))) (Zbc)) (seqF (ifS (orF (Zy (binF neY (Za 3) (Zb (.str "part")))) (orF (Zy (binF Ze5 (Za 2) (lstF (Zbd ["title","year"] (Zl))))) (Zy (binF Ze5 (Zb (.str "in")) (Za 4))))) (retF (Zb .non)) (Zbc)) (setF 1 (binF ixX (Za 4) (Zb (.str "in"))))))
noncomputable def Zei:FS:=
 seqF (Za5 Zby Za8 FUEL) (retF (Zb .non))
noncomputable def Zbp:List D→Option SV:=Zb1 Zei 5
noncomputable def Zac:FS:=
 seqF (setF 5 (Za1 3 Zbp (Zc (Za 0) (Zc (Za 1) (Zc (Za 4) (Zk)))))) (seqF (setF 6 (Za1 3 Zbp (Zc (Za 0) (Zc (Za 2) (Zc (Za 4) (Zk)))))) (ifS (Zy (binF neY (Za 5) (Za 6))) (retF (orV (binF isND (Za 5) (Zb .non)) (andV (binF Zj3 (Za 6) (Zb .non)) (binF ltS (Za 5) (Za 6))))) (Zbc)))
noncomputable def Zcr:FS:=
 seqF (forF (anyI (Za 3)) (Zq 4) Zac) (retF (binF ltS (Za 1) (Za 2)))
noncomputable def Za9:List D→Option SV:=Zb1 Zcr 7
noncomputable def Zdm:FS:=
 ifS (orF (Zy (binF eqY (binF modD (binF ixX (Za 5) (Zay lenD (Zc (Za 2) Zk))) (Zb (.int 2))) (Zb (.int 0)))) (Zy (binF gtD (binF modD (binF ixX (Za 5) (Za 7)) (Zb (.int 3))) (Zb (.int 0))))) (seqF (setF 8 (binF modD (binF Zd9 (binF ixX (Za 5) (Za 7)) (Zb (.int 3))) (binF addD (Zay lenD (Zc (Za 6) Zk)) (Zb (.int 1))))) (setF 6 (binF addD (binF addD (slF slD (Za 6) (Zi2) (Zj4 (Za 8))) (lstF (Zi (binF ixX (Za 2) (Za 7)) (Zl)))) (slF slD (Za 6) (Zj4 (Za 8)) (Zi2))))) (Zbc)
noncomputable def Zif:FS:=
 appF 9 (binF ixX (lstF (Zbd ["title","year","hands","in","none","kind","note"] (Zl))) (binF modD (Za 10) (Zb (.int 7))))
noncomputable def Zf5:FS:=
 ifS (notF (Zy (Za1 4 Za9 (Zc (Za 3) (Zc (binF ixX (Za 12) (binF subD (Za 7) (Zb (.int 1)))) (Zc (binF ixX (Za 12) (Za 7)) (Zc (Za 9) (Zk)))))))) (retF (Zb (.bl false))) (Zbc)
noncomputable def Zs4:FS:=
 seqF (setF 1 (slF slD (Za 0) (Zj4 (Zb (.int 3))) (Zj4 (Zb (.int 15))))) (seqF (setF 2 (Za1 2 Zbn (Zc (Za1 2 Zx (Zc (Za 0) (Zc (Zb (.int 0)) (Zk)))) (Zc (Zay lenD (Zc (Za 1) Zk)) (Zk))))) (seqF (setF 3 (Za1 2 Zau (Zc (Za 2) (Zc (Za 1) (Zk))))) (seqF (setF 4 (Zmp [("part",lstF (Zi (tupF (Zbd ["title","title"] (Zl))) (Zi (tupF (Zbd ["year","year"] (Zl))) (Zl))))])) (seqF (setF 5 (Za1 2 Zt (Zc (Za1 2 Zx (Zc (Za 0) (Zc (Zb (.int 1)) (Zk)))) (Zc (binF addD (Zay lenD (Zc (Za 2) Zk)) (Zb (.int 1))) (Zk))))) (seqF (setF 6 (lstF (Zl))) (seqF (forF (rngI (Zc (Zay lenD (Zc (Za 2) Zk)) Zk)) (Zq 7) Zdm) (seqF (setF 9 (lstF (Zl))) (seqF (forF (anyI (Za1 2 Zt (Zc (Za1 2 Zx (Zc (Za 0) (Zc (Zb (.int 2)) (Zk)))) (Zc (binF modD (Za1 2 Zx (Zc (Za 0) (Zc (Zb (.int 2)) (Zk)))) (Zb (.int 5))) (Zk))))) (Zq 10) Zif) (seqF (setF 11 (lstF (Zi (Zay Zls (Zc (Za 6) Zk)) (Zi (Zay Zls (Zc (Za 9) Zk)) (Zl))))) (seqF (setF 12 (Za1 4 Zbo (Zc (Za 3) (Zc (Za 4) (Zc (binF ixX (Za 11) (Zb (.int 0))) (Zc (binF ixX (Za 11) (Zb (.int 1))) (Zk))))))) (seqF (ifS (orF (notF (Zy (unF (isiD "list") (Za 12)))) (orF (Zy (binF neY (Zay Zki (Zc (Za 12) Zk)) (Zay Zki (Zc (Za 6) Zk)))) (Zy (binF neY (Za 11) (lstF (Zi (Za 6) (Zi (Za 9) (Zl)))))))) (retF (Zb (.bl false))) (Zbc)) (seqF (ifS (Zy (binF neY (Za 3) (Za1 2 Zau (Zc (Za 2) (Zc (Za 1) (Zk)))))) (retF (Zb (.bl false))) (Zbc)) (seqF (forF (Zsu (Zc (Zb (.int 1)) (Zc (Zay lenD (Zc (Za 12) Zk)) Zk))) (Zq 7) Zf5) (retF (Zb (.bl true))))))))))))))))
noncomputable def Zf6:List D→Option SV:=Zb1 Zs4 13
end Gen
namespace Gen
open PySem PySem.Spec PyProof.Rows L2 DL
structure Txt(K:PySem.W.Frag)(mg:Str→Option Value)(fx0 fx1 fx2 fx3 fx4 fx5 fx6 fx7 fx8 fx9 fx10 fx11 fx12:Addr):Prop where
 z_enumerate:mg "enumerate"=none
 z_int:mg "int"=none
 z_isinstance:mg "isinstance"=none
 z_len:mg "len"=none
 z_list:mg "list"=none
 z_range:mg "range"=none
 z_sorted:mg "sorted"=none
 m_0:mg "_law_numbers"=some (.ref fx0)
 k_0:PySem.W.keepIn K (.ref fx0)=true
 m_1:mg "_law_keys"=some (.ref fx1)
 k_1:PySem.W.keepIn K (.ref fx1)=true
 m_2:mg "_law_shelf"=some (.ref fx2)
 k_2:PySem.W.keepIn K (.ref fx2)=true
 m_3:mg "other_field"=some (.ref fx3)
 k_3:PySem.W.keepIn K (.ref fx3)=true
 m_4:mg "pair_behind"=some (.ref fx4)
 k_4:PySem.W.keepIn K (.ref fx4)=true
 m_5:mg "way"=some (.ref fx5)
 k_5:PySem.W.keepIn K (.ref fx5)=true
 m_6:mg "had"=some (.ref fx6)
 k_6:PySem.W.keepIn K (.ref fx6)=true
 m_7:mg "rank"=some (.ref fx7)
 k_7:PySem.W.keepIn K (.ref fx7)=true
 m_8:mg "in_order"=some (.ref fx8)
 k_8:PySem.W.keepIn K (.ref fx8)=true
 m_9:mg "_law_cell_at"=some (.ref fx9)
 k_9:PySem.W.keepIn K (.ref fx9)=true
 m_10:mg "_law_had"=some (.ref fx10)
 k_10:PySem.W.keepIn K (.ref fx10)=true
 m_11:mg "_law_comes"=some (.ref fx11)
 k_11:PySem.W.keepIn K (.ref fx11)=true
 m_12:mg "law"=some (.ref fx12)
 k_12:PySem.W.keepIn K (.ref fx12)=true
section
variable{P:Program}{w:World}{K:PySem.W.Frag}{mg:Str→Option Value}{base:Heap}{fx0 fx1 fx2 fx3 fx4 fx5 fx6 fx7 fx8 fx9 fx10 fx11 fx12 tq c0:Addr}
theorem Zag:FnScope ["_law_cell","_law_many","_law_found","_law_number","_law_k"] ["_law_cell","_law_many"] (Zg Zbi):=⟨rfl,rfl,rfl,by decide+kernel,rfl,by decide+kernel,by decide+kernel⟩
theorem Z1:FnScope ["_law_cell","_law_many","_law_letters","_law_some","_law_size","_law_at","_law_keys_here","_law_turn","_law_key","_law_k"] ["_law_cell","_law_many"] (Zg Zco):=⟨rfl,rfl,rfl,by decide+kernel,rfl,by decide+kernel,by decide+kernel⟩
theorem Zai:FnScope ["_law_keys_here","_law_cells","_law_shelf_here","_law_k","_law_cell","_law_some","_law_fields"] ["_law_keys_here","_law_cells"] (Zg Zb8):=⟨rfl,rfl,rfl,by decide+kernel,rfl,by decide+kernel,by decide+kernel⟩
theorem Zck:FnScope ["table","kind","field","pair"] ["table","kind","field"] (Zg Zbj):=⟨rfl,rfl,rfl,by decide+kernel,rfl,by decide+kernel,by decide+kernel⟩
theorem Zah:FnScope ["shelf","table","pair","work","fields","other","key"] ["shelf","table","pair"] (Zg Zbk):=⟨rfl,rfl,rfl,by decide+kernel,rfl,by decide+kernel,by decide+kernel⟩
theorem Zhk:FnScope ["shelf","table","key","field","pairs","places","pair"] ["shelf","table","key","field"] (Zg Zna):=⟨rfl,rfl,rfl,by decide+kernel,rfl,by decide+kernel,by decide+kernel⟩
theorem Zqn:FnScope ["shelf","table","key","field","last"] ["shelf","table","key","field"] (Zg Znb):=⟨rfl,rfl,rfl,by decide+kernel,rfl,by decide+kernel,by decide+kernel⟩
theorem Zne:FnScope ["shelf","table","key","fields","texts"] ["shelf","table","key","fields"] (Zg Zie):=⟨rfl,rfl,rfl,by decide+kernel,rfl,by decide+kernel,by decide+kernel⟩
theorem Zcs:FnScope ["shelf","table","keys","fields","ranks","key"] ["shelf","table","keys","fields"] (Zg Zcp):=⟨rfl,rfl,rfl,by decide+kernel,rfl,by decide+kernel,by decide+kernel⟩
theorem Zeq:FnScope ["_law_script","_law_k"] ["_law_script","_law_k"] (Zg Zbl):=⟨rfl,rfl,rfl,by decide+kernel,rfl,by decide+kernel,by decide+kernel⟩
theorem Zce:FnScope ["_law_shelf_here","_law_key","_law_field","_law_kind","_law_fields"] ["_law_shelf_here","_law_key","_law_field"] (Zg Zdi):=⟨rfl,rfl,rfl,by decide+kernel,rfl,by decide+kernel,by decide+kernel⟩
theorem Zbf:FnScope ["_law_shelf_here","_law_one","_law_other","_law_fields","_law_field","_law_here","_law_there"] ["_law_shelf_here","_law_one","_law_other","_law_fields"] (Zg Zb9):=⟨rfl,rfl,rfl,by decide+kernel,rfl,by decide+kernel,by decide+kernel⟩
theorem Zba:FnScope ["_law_script","_law_cells","_law_keys_here","_law_shelf_here","_law_table","_law_some","_law_asked_for","_law_k","_law_at","_law_fields","_law_number","_law_handed","_law_told"] ["_law_script"] (Zg Zc7):=⟨rfl,rfl,rfl,by decide+kernel,rfl,by decide+kernel,by decide+kernel⟩
theorem okB{x qual:Str}{st:Stmt}{f:Addr}{fd:FuncData}{N ps:List Str}{k n:Nat}(F:Fun K x qual st f fd)(S:FnScope N ps (Zg st))(hn:n=ps.length)(f0:FS)(hb:∀(cdv:Value) (A:Around) (outer:List Env) (s:Shared) (H F0:Hp) (E:XK),Room k (A.deeper (envOfC qual (Zg st) s.heap.objs.size f cdv))→(A.deeper (envOfC qual (Zg st) s.heap.objs.size f cdv)).units+1<cLine→(A.deeper (envOfC qual (Zg st) s.heap.objs.size f cdv)).units+64<cLine→PSs (cxOf CX0 P w K mg base N qual (Zg st) f cdv A outer s H E).nox (Zak st) (Z2 (ent H F0:Ent K) f0)):FnOk P w K mg base CX0 (k+1) f fd ps (spOf K n (Zb1 f0 N.length)):=
 F.ok S (fun _ _ _ _ h=>(Zfm h).trans hn) fun cdv A outer s H vs Q E hr h=>by
  obtain⟨F0,h⟩:=Zfp (N:=N) (f:=f0) h
  exact⟨_,hb cdv A outer s H F0 E hr (Zrl hr) hr.units,h⟩
variable(T:Txt K mg fx0 fx1 fx2 fx3 fx4 fx5 fx6 fx7 fx8 fx9 fx10 fx11 fx12)
include T
theorem Zer{fd:FuncData}(F:Fun K "_law_numbers" "_law_numbers" Zbi fx0 fd):
  FnOk P w K mg base CX0 1 fx0 fd ["_law_cell","_law_many"] (spOf K 2 Zt):=by
 refine okB F Zag rfl Zbv fun _ _ _ _ _ _ _ hr hu hv=>?_
 exact(@Zf _ _ _ _ _ _ (@Z7 _ _ _ _ _ 2 _ _ Zag.nd (@Zb4 _ _ _ _ _ Zan) (by rfl) (by trivial) (by rfl) (by trivial)) (@Zf _ _ _ _ _ _ (@Z7 _ _ _ _ _ 3 _ _ Zag.nd (@Zbh _ _ _ _ _ _ _ (Zd 0) Zj) (by rfl) (by trivial) (by rfl) (by trivial)) (@Zf _ _ _ _ _ _ (@Zeo _ _ _ _ _ _ _ _ _ PassesOwn.never rfl (@Zom _ _ _ _ _ _ _ T.z_range (Zd 1) (by rfl) (by rfl)) (@Za6 _ _ _ 4 _ Zag.nd (by rfl) (by trivial) (by trivial)) (@Zf _ _ _ _ _ _ (@Z7 _ _ _ _ _ 3 _ _ Zag.nd (@Zbh _ _ _ _ _ _ _ (@Zmn _ _ _ _ _ _ _ (@Zdu _ _ _ _ _ _ _ (@Zdu _ _ _ _ _ _ _ (Zd 3) (Zd 4)) Zj) Zj) Zj) (by rfl) (by trivial) (by rfl) (by trivial)) (@Zo _ _ _ _ (@Zop _ _ _ _ _ 2 _ _ _ _ (Zd 3) (by rfl) (by trivial) (by decide) (by decide) (by rfl) (by rfl) (by rfl) (by rfl) (by rfl) (by rfl)))) (by intro _;rfl)) (@Zo _ _ _ _ (@Za7 _ _ _ _ _ (Zd 2))))))
theorem Zig{fd:FuncData}(F:Fun K "_law_keys" "_law_keys" Zco fx1 fd){dx0:FuncData}(Vx0:FnOk P w K mg base CX0 1 fx0 dx0 ["_law_cell","_law_many"] (spOf K 2 Zt))(Wx0:Zbb K dx0 ["_law_cell","_law_many"] []):
  FnOk P w K mg base CX0 2 fx1 fd ["_law_cell","_law_many"] (spOf K 2 Zbn):=by
 refine okB F Z1 rfl Zdj fun _ _ _ _ _ _ _ hr hu hv=>?_
 exact(@Zf _ _ _ _ _ _ (@Z7 _ _ _ _ _ 2 _ _ Z1.nd Zdt (by rfl) (by trivial) (by rfl) (by trivial)) (@Zf _ _ _ _ _ _ (@Z7 _ _ _ _ _ 3 _ _ Z1.nd (@Zao _ _ _ _ _ _ _ _ _ _ _ _ _ _ Vx0 (hr.mono (by decide)) T.m_0 T.k_0 Wx0 (@Zh _ _ _ _ _ _ (Zd 0) (@Zh _ _ _ _ _ _ Zj Zaz (by rfl)) (by rfl)) (by rfl) (by decide) (by rfl) (by rfl)) (by rfl) (by trivial) (by rfl) (by trivial)) (@Zf _ _ _ _ _ _ (@Z7 _ _ _ _ _ 4 _ _ Z1.nd (@Zdu _ _ _ _ _ _ _ Zj (@Zbh _ _ _ _ _ _ _ (@Zw _ _ _ _ _ _ _ hu (Zd 3) Zj (by intro _ _;rfl)) Zj)) (by rfl) (by trivial) (by rfl) (by trivial)) (@Zf _ _ _ _ _ _ (@Z7 _ _ _ _ _ 5 _ _ Z1.nd (@Zbh _ _ _ _ _ _ _ (@Zw _ _ _ _ _ _ _ hu (Zd 3) Zj (by intro _ _;rfl)) (Zd 4)) (by rfl) (by trivial) (by rfl) (by trivial)) (@Zf _ _ _ _ _ _ (@Z7 _ _ _ _ _ 6 _ _ Z1.nd (@Zb4 _ _ _ _ _ Zan) (by rfl) (by trivial) (by rfl) (by trivial)) (@Zf _ _ _ _ _ _ (@Zeo _ _ _ _ _ _ _ _ _ PassesOwn.never rfl (@Zom _ _ _ _ _ _ _ T.z_range (Zd 1) (by rfl) (by rfl)) (@Za6 _ _ _ 7 _ Z1.nd (by rfl) (by trivial) (by trivial)) (@Zf _ _ _ _ _ _ (@Z7 _ _ _ _ _ 8 _ _ Z1.nd Zdt (by rfl) (by trivial) (by rfl) (by trivial)) (@Zf _ _ _ _ _ _ (@Zeo _ _ _ _ _ _ _ _ _ PassesOwn.never rfl (@Zom _ _ _ _ _ _ _ T.z_range (Zd 4) (by rfl) (by rfl)) (@Za6 _ _ _ 9 _ Z1.nd (by rfl) (by trivial) (by trivial)) (@Zo _ _ _ _ (@Z7 _ _ _ _ _ 8 _ _ Z1.nd (@Zdu _ _ _ _ _ _ _ (Zd 8) (@Zw _ _ _ _ _ _ _ hu (Zd 2) (@Zbh _ _ _ _ _ _ _ (@Zdu _ _ _ _ _ _ _ (@Zw _ _ _ _ _ _ _ hu (Zd 3) (Zd 9) (by intro _ _;rfl)) (@Zmn _ _ _ _ _ _ _ (@Zmn _ _ _ _ _ _ _ Zj (Zd 7)) (@Zvo _ _ _ _ _ _ T.z_int (@Zy4 _ _ _ _ _ _ _ hv (Zd 9) (Zd 5)) (by rfl) (by rfl) (by rfl)))) Zj) (by intro _ _;rfl))) (by rfl) (by trivial) (by rfl) (by trivial))) (by intro _;rfl)) (@Zo _ _ _ _ (@Zop _ _ _ _ _ 6 _ _ _ _ (Zd 8) (by rfl) (by trivial) (by decide) (by decide) (by rfl) (by rfl) (by rfl) (by rfl) (by rfl) (by rfl))))) (by intro _;rfl)) (@Zo _ _ _ _ (@Za7 _ _ _ _ _ (Zd 6)))))))))
theorem Zhl{fd:FuncData}(F:Fun K "_law_shelf" "_law_shelf" Zb8 fx2 fd){dx0:FuncData}(Vx0:FnOk P w K mg base CX0 1 fx0 dx0 ["_law_cell","_law_many"] (spOf K 2 Zt))(Wx0:Zbb K dx0 ["_law_cell","_law_many"] []):
  FnOk P w K mg base CX0 2 fx2 fd ["_law_keys_here","_law_cells"] (spOf K 2 Zau):=by
 refine okB F Zai rfl Zcq fun _ _ _ _ _ _ _ hr hu hv=>?_
 exact(@Zf _ _ _ _ _ _ (@Z7 _ _ _ _ _ 2 _ _ Zai.nd Zh8 (by rfl) (by trivial) (by rfl) (by trivial)) (@Zf _ _ _ _ _ _ (@Zeo _ _ _ _ _ _ _ _ _ PassesOwn.never rfl (@Zr4 _ _ _ _ _ _ _ _ _ T.z_enumerate (@Z9 _ _ _ _ _ _ (Zd 1) Zan (by rfl)) (by rfl) (by rfl)) (@Zvp _ _ _ _ _ _ _ rfl (@Zfo _ _ _ _ _ _ (@Za6 _ _ _ 3 _ Zai.nd (by rfl) (by trivial) (by trivial)) (@Zfo _ _ _ _ _ _ (@Za6 _ _ _ 4 _ Zai.nd (by rfl) (by trivial) (by trivial)) Zp3 (by rfl)) (by rfl)) (by rfl) (by rfl)) (@Zf _ _ _ _ _ _ (@Z7 _ _ _ _ _ 5 _ _ Zai.nd (@Zao _ _ _ _ _ _ _ _ _ _ _ _ _ _ Vx0 (hr.mono (by decide)) T.m_0 T.k_0 Wx0 (@Zh _ _ _ _ _ _ (Zd 4) (@Zh _ _ _ _ _ _ Zj Zaz (by rfl)) (by rfl)) (by rfl) (by decide) (by rfl) (by rfl)) (by rfl) (by trivial) (by rfl) (by trivial)) (@Zf _ _ _ _ _ _ (@Z7 _ _ _ _ _ 6 _ _ Zai.nd Zh8 (by rfl) (by trivial) (by rfl) (by trivial)) (@Zf _ _ _ _ _ _ (@s_if _ _ _ _ _ _ _ _ _ (@t_gt _ _ _ _ _ _ _ (@Zbh _ _ _ _ _ _ _ (@Zw _ _ _ _ _ _ _ hu (Zd 5) Zj (by intro _ _;rfl)) Zj) Zj) (@Zo _ _ _ _ (@Zg3 _ _ _ _ _ _ _ 6 _ _ _ hu Zdt (@Zw _ _ _ _ _ _ _ hu (@Zb4 _ _ _ _ _ (@Zbt _ _ _ _ [("So",_,_),("so",_,_),("It",_,_),("10",_,_),("9",_,_)] Zan)) (@Zbh _ _ _ _ _ _ _ (@Zez _ _ _ _ _ _ _ (@Zw _ _ _ _ _ _ _ hu (Zd 5) Zj (by intro _ _;rfl)) Zj) Zj) (by intro _ _;rfl)) (by rfl) (by trivial) (by decide) (by decide) (by rfl))) Za0) (@Zf _ _ _ _ _ _ (@s_if _ _ _ _ _ _ _ _ _ (@t_gt _ _ _ _ _ _ _ (@Zbh _ _ _ _ _ _ _ (@Zw _ _ _ _ _ _ _ hu (Zd 5) Zj (by intro _ _;rfl)) Zj) Zj) (@Zo _ _ _ _ (@Zg3 _ _ _ _ _ _ _ 6 _ _ _ hu Zdt (@Zw _ _ _ _ _ _ _ hu (@Zb4 _ _ _ _ _ (@Zbt _ _ _ _ [("2001",_,_),("1999",_,_),("2001 b",_,_)] Zan)) (@Zbh _ _ _ _ _ _ _ (@Zez _ _ _ _ _ _ _ (@Zw _ _ _ _ _ _ _ hu (Zd 5) Zj (by intro _ _;rfl)) Zj) Zj) (by intro _ _;rfl)) (by rfl) (by trivial) (by decide) (by decide) (by rfl))) Za0) (@Zf _ _ _ _ _ _ (@s_if _ _ _ _ _ _ _ _ _ (@t_gt _ _ _ _ _ _ _ (@Zbh _ _ _ _ _ _ _ (@Zw _ _ _ _ _ _ _ hu (Zd 5) Zj (by intro _ _;rfl)) Zj) Zj) (@Zo _ _ _ _ (@Zg3 _ _ _ _ _ _ _ 6 _ _ _ hu Zdt (@Zw _ _ _ _ _ _ _ hu (@Zb4 _ _ _ _ _ (@Zbt _ _ _ _ [("Lee, Ann",_,_),("Lee",_,_),("Kim & Lee",_,_)] Zan)) (@Zbh _ _ _ _ _ _ _ (@Zez _ _ _ _ _ _ _ (@Zw _ _ _ _ _ _ _ hu (Zd 5) Zj (by intro _ _;rfl)) Zj) Zj) (by intro _ _;rfl)) (by rfl) (by trivial) (by decide) (by decide) (by rfl))) Za0) (@Zf _ _ _ _ _ _ (@s_if _ _ _ _ _ _ _ _ _ (@Zo0 _ _ _ _ _ _ _ hv (@Zbh _ _ _ _ _ _ _ (@Zez _ _ _ _ _ _ _ (@Zw _ _ _ _ _ _ _ hu (Zd 5) Zj (by intro _ _;rfl)) Zj) Zj) Zj) (@Zo _ _ _ _ (@Zg3 _ _ _ _ _ _ _ 6 _ _ _ hu Zdt (@Zw _ _ _ _ _ _ _ hu (@Zb4 _ _ _ _ _ (@Zbt _ _ _ _ [("",_,_),("so",_,_)] Zan)) (@Zbh _ _ _ _ _ _ _ (@Zez _ _ _ _ _ _ _ (@Zw _ _ _ _ _ _ _ hu (Zd 5) Zj (by intro _ _;rfl)) Zj) Zj) (by intro _ _;rfl)) (by rfl) (by trivial) (by decide) (by decide) (by rfl))) Za0) (@Zf _ _ _ _ _ _ (@s_if _ _ _ _ _ _ _ _ _ (@PW.pt _ _ _ (@Zys _ _ _ _ _ _ _ _ (@Zo0 _ _ _ _ _ _ _ hv (@Zbh _ _ _ _ _ _ _ (@Zw _ _ _ _ _ _ _ hu (Zd 5) Zj (by intro _ _;rfl)) Zj) Zj) (@Zvk _ _ _ _ _ (@t_lt _ _ _ _ _ _ _ (@Zdu _ _ _ _ _ _ _ (Zd 3) Zj) (@Zen _ _ _ _ _ _ T.z_len (Zd 0) (by rfl) (by rfl) (by rfl)))))) (@Zo _ _ _ _ (@Zg3 _ _ _ _ _ _ _ 6 _ _ _ hu Zdt (@Zw _ _ _ _ _ _ _ hu (Zd 0) (@Zdu _ _ _ _ _ _ _ (@Zdu _ _ _ _ _ _ _ (Zd 3) Zj) (@Zbh _ _ _ _ _ _ _ (@Zw _ _ _ _ _ _ _ hu (Zd 5) Zj (by intro _ _;rfl)) (@Zr0 _ _ _ _ _ _ _ (@Zr0 _ _ _ _ _ _ _ (@Zen _ _ _ _ _ _ T.z_len (Zd 0) (by rfl) (by rfl) (by rfl)) (Zd 3)) Zj))) (by intro _ _;rfl)) (by rfl) (by trivial) (by decide) (by decide) (by rfl))) Za0) (@Zo _ _ _ _ (@Zg3 _ _ _ _ _ _ _ 2 _ _ _ hu (@Zw _ _ _ _ _ _ _ hu (Zd 0) (Zd 3) (by intro _ _;rfl)) (@Zgx _ _ _ _ _ _ (@Z9 _ _ _ _ _ _ (@Zw _ _ _ _ _ _ _ hu (@Zb4 _ _ _ _ _ (@Zbt _ _ _ _ [("part",_,_),("book",_,_)] Zan)) (@Zbh _ _ _ _ _ _ _ (@Zw _ _ _ _ _ _ _ hu (Zd 5) Zj (by intro _ _;rfl)) Zj) (by intro _ _;rfl)) (@Z9 _ _ _ _ _ _ (Zd 6) Zan (by rfl)) (by rfl))) (by rfl) (by trivial) (by decide) (by decide) (by rfl)))))))))) (by intro _;rfl)) (@Zo _ _ _ _ (@Za7 _ _ _ _ _ (Zd 2)))))
theorem Zes{fd:FuncData}(F:Fun K "other_field" "other_field" Zbj fx3 fd):
  FnOk P w K mg base CX0 1 fx3 fd ["table","kind","field"] (spOf K 3 Zar):=by
 refine okB F Zck rfl Zbw fun _ _ _ _ _ _ _ hr hu hv=>?_
 exact(@Zf _ _ _ _ _ _ (@Zeo _ _ _ _ _ _ _ _ _ PassesOwn.never rfl (@Zj6 _ _ _ _ _ (@Zmc _ _ _ _ _ _ _ _ _ hu (Zd 0) (@Z9 _ _ _ _ _ _ (Zd 1) (@Z9 _ _ _ _ _ _ (@Zb4 _ _ _ _ _ Zan) Zan (by rfl)) (by rfl)) (by rfl) (by rfl) (by rfl) (by rfl) (by rfl))) (@Za6 _ _ _ 3 _ Zck.nd (by rfl) (by trivial) (by trivial)) (@Zo _ _ _ _ (@s_if _ _ _ _ _ _ _ _ _ (@Zo0 _ _ _ _ _ _ _ hv (@Zw _ _ _ _ _ _ _ hu (Zd 3) Zj (by intro _ _;rfl)) (Zd 2)) (@Zo _ _ _ _ (@Za7 _ _ _ _ _ (@Zw _ _ _ _ _ _ _ hu (Zd 3) Zj (by intro _ _;rfl)))) Za0)) (by intro _;rfl)) (@Zo _ _ _ _ (@Za7 _ _ _ _ _ Zeb)))
theorem Zet{fd:FuncData}(F:Fun K "pair_behind" "pair_behind" Zbk fx4 fd){dx3:FuncData}(Vx3:FnOk P w K mg base CX0 1 fx3 dx3 ["table","kind","field"] (spOf K 3 Zar))(Wx3:Zbb K dx3 ["table","kind","field"] []):
  FnOk P w K mg base CX0 2 fx4 fd ["shelf","table","pair"] (spOf K 3 Zas):=by
 refine okB F Zah rfl Zbx fun _ _ _ _ _ _ _ hr hu hv=>?_
 exact(@Zf _ _ _ _ _ _ (@Z7 _ _ _ _ _ 3 _ _ Zah.nd (@Zw _ _ _ _ _ _ _ hu (Zd 0) (@Zw _ _ _ _ _ _ _ hu (Zd 2) Zj (by intro _ _;rfl)) (by intro _ _;rfl)) (by rfl) (by trivial) (by rfl) (by trivial)) (@Zf _ _ _ _ _ _ (@Z7 _ _ _ _ _ 4 _ _ Zah.nd (@Zw _ _ _ _ _ _ _ hu (Zd 3) Zj (by intro _ _;rfl)) (by rfl) (by trivial) (by rfl) (by trivial)) (@Zf _ _ _ _ _ _ (@s_if _ _ _ _ _ _ _ _ _ (@Zo4 _ _ _ _ _ _ _ hu (@Zw _ _ _ _ _ _ _ hu (Zd 2) Zj (by intro _ _;rfl)) (Zd 4) (by rfl)) (@Zo _ _ _ _ (@Za7 _ _ _ _ _ Zeb)) Za0) (@Zf _ _ _ _ _ _ (@Z7 _ _ _ _ _ 5 _ _ Zah.nd (@Zao _ _ _ _ _ _ _ _ _ _ _ _ _ _ Vx3 (hr.mono (by decide)) T.m_3 T.k_3 Wx3 (@Zh _ _ _ _ _ _ (Zd 1) (@Zh _ _ _ _ _ _ (@Zw _ _ _ _ _ _ _ hu (Zd 3) Zj (by intro _ _;rfl)) (@Zh _ _ _ _ _ _ (@Zw _ _ _ _ _ _ _ hu (Zd 2) Zj (by intro _ _;rfl)) Zaz (by rfl)) (by rfl)) (by rfl)) (by rfl) (by decide) (by rfl) (by rfl)) (by rfl) (by trivial) (by rfl) (by trivial)) (@Zf _ _ _ _ _ _ (@Z7 _ _ _ _ _ 6 _ _ Zah.nd (@Zmc _ _ _ _ _ _ _ _ _ hu (Zd 4) (@Z9 _ _ _ _ _ _ Zdt Zan (by rfl)) (by rfl) (by rfl) (by rfl) (by rfl) (by rfl)) (by rfl) (by trivial) (by rfl) (by trivial)) (@Zf _ _ _ _ _ _ (@s_if _ _ _ _ _ _ _ _ _ (@PW.pt _ _ _ (@w_or _ _ _ _ _ _ _ _ (@Zr1 _ _ _ _ _ _ _ (Zd 5) Zeb) (@w_or _ _ _ _ _ _ _ _ (@Zr1 _ _ _ _ _ _ _ (Zd 6) Zeb) (@Zol _ _ _ _ _ (@Zfy _ _ _ _ _ _ _ hu (Zd 6) (Zd 0) (by rfl)))))) (@Zo _ _ _ _ (@Za7 _ _ _ _ _ Zeb)) Za0) (@Zo _ _ _ _ (@Za7 _ _ _ _ _ (@Zgx _ _ _ _ _ _ (@Z9 _ _ _ _ _ _ (Zd 6) (@Z9 _ _ _ _ _ _ (Zd 5) Zan (by rfl)) (by rfl)))))))))))
theorem Zws{fd:FuncData}(F:Fun K "way" "way" Zna fx5 fd){dx4:FuncData}(Vx4:FnOk P w K mg base CX0 2 fx4 dx4 ["shelf","table","pair"] (spOf K 3 Zas))(Wx4:Zbb K dx4 ["shelf","table","pair"] []):
  FnOk P w K mg base CX0 3 fx5 fd ["shelf","table","key","field"] (spOf K 4 Znc):=by
 refine okB F Zhk rfl Zs2 fun _ _ _ _ _ _ _ hr hu hv=>?_
 exact(@Zf _ _ _ _ _ _ (@Z7 _ _ _ _ _ 4 _ _ Zhk.nd (@Zb4 _ _ _ _ _ Zan) (by rfl) (by trivial) (by rfl) (by trivial)) (@Zf _ _ _ _ _ _ (@Z7 _ _ _ _ _ 5 _ _ Zhk.nd Zsd (by rfl) (by trivial) (by rfl) (by trivial)) (@Zf _ _ _ _ _ _ (@Z7 _ _ _ _ _ 6 _ _ Zhk.nd (@Zgx _ _ _ _ _ _ (@Z9 _ _ _ _ _ _ (Zd 2) (@Z9 _ _ _ _ _ _ (Zd 3) Zan (by rfl)) (by rfl))) (by rfl) (by trivial) (by rfl) (by trivial)) (@Zf _ _ _ _ _ _ (@Zlx _ _ _ _ FUEL _ _ _ PassesOwn.never (@Zvj _ _ _ _ _ _ _ (Zd 6) Zeb) (@Zf _ _ _ _ _ _ (@s_if _ _ _ _ _ _ _ _ _ (@Zo4 _ _ _ _ _ _ _ hu (Zd 6) (Zd 5) (by rfl)) (@Zo _ _ _ _ Zr2) Za0) (@Zf _ _ _ _ _ _ (@Zg3 _ _ _ _ _ _ _ 5 _ _ _ hu (Zd 6) (@Zen _ _ _ _ _ _ T.z_len (Zd 4) (by rfl) (by rfl) (by rfl)) (by rfl) (by trivial) (by decide) (by decide) (by rfl)) (@Zf _ _ _ _ _ _ (@Zop _ _ _ _ _ 4 _ _ _ _ (Zd 6) (by rfl) (by trivial) (by decide) (by decide) (by rfl) (by rfl) (by rfl) (by rfl) (by rfl) (by rfl)) (@Zo _ _ _ _ (@Z7 _ _ _ _ _ 6 _ _ Zhk.nd (@Zao _ _ _ _ _ _ _ _ _ _ _ _ _ _ Vx4 (hr.mono (by decide)) T.m_4 T.k_4 Wx4 (@Zh _ _ _ _ _ _ (Zd 0) (@Zh _ _ _ _ _ _ (Zd 1) (@Zh _ _ _ _ _ _ (Zd 6) Zaz (by rfl)) (by rfl)) (by rfl)) (by rfl) (by decide) (by rfl) (by rfl)) (by rfl) (by trivial) (by rfl) (by trivial))))))) (@Zo _ _ _ _ (@Za7 _ _ _ _ _ (Zd 4)))))))
theorem Zwt{fd:FuncData}(F:Fun K "had" "had" Znb fx6 fd){dx5:FuncData}(Vx5:FnOk P w K mg base CX0 3 fx5 dx5 ["shelf","table","key","field"] (spOf K 4 Znc))(Wx5:Zbb K dx5 ["shelf","table","key","field"] []):
  FnOk P w K mg base CX0 4 fx6 fd ["shelf","table","key","field"] (spOf K 4 Zkl):=by
 refine okB F Zqn rfl Zs3 fun _ _ _ _ _ _ _ hr hu hv=>?_
 exact(@Zf _ _ _ _ _ _ (@Z7 _ _ _ _ _ 4 _ _ Zqn.nd (@Zw _ _ _ _ _ _ _ hu (@Zao _ _ _ _ _ _ _ _ _ _ _ _ _ _ Vx5 (hr.mono (by decide)) T.m_5 T.k_5 Wx5 (@Zh _ _ _ _ _ _ (Zd 0) (@Zh _ _ _ _ _ _ (Zd 1) (@Zh _ _ _ _ _ _ (Zd 2) (@Zh _ _ _ _ _ _ (Zd 3) Zaz (by rfl)) (by rfl)) (by rfl)) (by rfl)) (by rfl) (by decide) (by rfl) (by rfl)) (@Zyw _ _ _ _ _ Zj) (by intro _ _;rfl)) (by rfl) (by trivial) (by rfl) (by trivial)) (@Zo _ _ _ _ (@Za7 _ _ _ _ _ (@Zmc _ _ _ _ _ _ _ _ _ hu (@Zw _ _ _ _ _ _ _ hu (@Zw _ _ _ _ _ _ _ hu (Zd 0) (@Zw _ _ _ _ _ _ _ hu (Zd 4) Zj (by intro _ _;rfl)) (by intro _ _;rfl)) Zj (by intro _ _;rfl)) (@Z9 _ _ _ _ _ _ (@Zw _ _ _ _ _ _ _ hu (Zd 4) Zj (by intro _ _;rfl)) Zan (by rfl)) (by rfl) (by rfl) (by rfl) (by rfl) (by rfl)))))
theorem Zs5{fd:FuncData}(F:Fun K "rank" "rank" Zie fx7 fd){dx6:FuncData}(Vx6:FnOk P w K mg base CX0 4 fx6 dx6 ["shelf","table","key","field"] (spOf K 4 Zkl))(Wx6:Zbb K dx6 ["shelf","table","key","field"] []):
  FnOk P w K mg base CX0 5 fx7 fd ["shelf","table","key","fields"] (spOf K 4 Zhj):=by
 refine okB F Zne rfl Znd fun _ _ _ _ _ _ _ hr hu hv=>?_
 exact(@Zf _ _ _ _ _ _ (@Zlw _ _ _ 4 _ _ _ _ _ _ _ _ _ _ _ _ _ _ _ rfl (Zgy (N':=["field","shelf","table","key",".acc"]) (src:=[.own,.cap 0,.cap 1,.cap 2,.acc]) (by rfl) (by rfl) (by rfl) (by rfl) (by rfl) (by rfl)) (Zvq 4 (by rfl) (by rfl)) (by decide) (@Zj6 _ _ _ _ _ (Zd 3)) (fun _ _ _ _=>@xg _ _ _ (fun _=>(@Za6 _ _ _ 0 _ (show(["field","shelf","table","key",".acc"]:List Str).Nodup by decide+kernel) (by rfl) (by trivial) (by trivial)))) (fun _ _ _ _=>xt0) (fun _ _ _ _=>@xe _ _ _ (fun _=>(@Zao _ _ _ _ _ _ _ _ _ _ _ _ _ _ Vx6 (hr.mono (by decide)) T.m_6 T.k_6 Wx6 (@Zh _ _ _ _ _ _ (Zd 1) (@Zh _ _ _ _ _ _ (Zd 2) (@Zh _ _ _ _ _ _ (Zd 3) (@Zh _ _ _ _ _ _ (Zd 0) Zaz (by rfl)) (by rfl)) (by rfl)) (by rfl)) (by rfl) (by decide) (by rfl) (by rfl)))) Zne.nd (by rfl) (by rfl) (by rfl) (by intro _;rfl)) (@Zo _ _ _ _ (@Za7 _ _ _ _ _ (@Zgx _ _ _ _ _ _ (@Z9 _ _ _ _ _ _ (@Zvr _ _ _ _ _ _ _ _ _ _ _ _ _ _ _ rfl (Zgy (N':=["text",".acc"]) (src:=[.own,.acc]) (by rfl) (by rfl) (by rfl) (by rfl) (by rfl) (by rfl)) (Zvq 1 (by rfl) (by rfl)) (by decide) (@Zj6 _ _ _ _ _ (Zd 4)) (fun _ _ _ _=>@xg _ _ _ (fun _=>(@Za6 _ _ _ 0 _ (show(["text",".acc"]:List Str).Nodup by decide+kernel) (by rfl) (by trivial) (by trivial)))) (fun _ _ _ _=>xt0) (fun _ _ _ _=>@xe _ _ _ (fun _=>(@e_if _ _ _ _ _ _ _ _ _ (@Zr1 _ _ _ _ _ _ _ (Zd 0) Zeb) (@Zgx _ _ _ _ _ _ (@Z9 _ _ _ _ _ _ Zj (@Z9 _ _ _ _ _ _ Zdt Zan (by rfl)) (by rfl))) (@Zgx _ _ _ _ _ _ (@Z9 _ _ _ _ _ _ Zj (@Z9 _ _ _ _ _ _ (Zd 0) Zan (by rfl)) (by rfl)))))) (by intro _;rfl)) (@Z9 _ _ _ _ _ _ (Zd 2) Zan (by rfl)) (by rfl))))))
theorem Zih{fd:FuncData}(F:TX.FunC K "in_order" "in_order" Zcp fx8 fd c0)(CT:PySem.W.CodeHd base c0 tq)(BM:TX.BMain mg base){dx7:FuncData}(Vx7:FnOk P w K mg base CX0 5 fx7 dx7 ["shelf","table","key","fields"] (spOf K 4 Zhj))(Wx7:Zbb K dx7 ["shelf","table","key","fields"] []):
  FnOk P w K mg base CX0 6 fx8 fd ["shelf","table","keys","fields"] (TX.spT tq (Str.ofString "in_order"++ ".<locals>."++ "<lambda>") (spOf K 4 Zbo)):=by
 refine TX.okC F Zcs rfl Zdl fun _ _ _ _ _ _ hT hr hu hv=>?_
 exact(@Zf _ _ _ _ _ _ (@Z7 _ _ _ _ _ 4 _ _ Zcs.nd Zh8 (by rfl) (by trivial) (by rfl) (by trivial)) (@Zf _ _ _ _ _ _ (@Zeo _ _ _ _ _ _ _ _ _ PassesOwn.never rfl (@Zj6 _ _ _ _ _ (Zd 2)) (@Za6 _ _ _ 5 _ Zcs.nd (by rfl) (by trivial) (by trivial)) (@Zo _ _ _ _ (@Zg3 _ _ _ _ _ _ _ 4 _ _ _ hu (Zd 5) (@Zao _ _ _ _ _ _ _ _ _ _ _ _ _ _ Vx7 (hr.mono (by decide)) T.m_7 T.k_7 Wx7 (@Zh _ _ _ _ _ _ (Zd 0) (@Zh _ _ _ _ _ _ (Zd 1) (@Zh _ _ _ _ _ _ (Zd 5) (@Zh _ _ _ _ _ _ (Zd 3) Zaz (by rfl)) (by rfl)) (by rfl)) (by rfl)) (by rfl) (by decide) (by rfl) (by rfl)) (by rfl) (by trivial) (by decide) (by decide) (by rfl))) (by intro _;rfl)) (@Zo _ _ _ _ (@Za7 _ _ _ _ _ (@Zst _ _ _ _ _ _ "one" ["ranks"] [4] _ _ _ _ _ _ _ _ _ (hr.mono (by decide)) hv T.z_sorted CT hT BM (Zd 2) (fun _ _ _ _ _ _ hu=>(@Zw _ _ _ _ _ _ _ hu (Zd 1) (Zd 0) (by intro _ _;rfl))) (by rfl) (by rfl) (by exact⟨rfl,rfl,rfl,rfl,by decide+kernel,by decide⟩) (by rfl) (by rfl) (by intro _ _ _ _ _;rfl) (by rfl) (by rfl) (by rfl) (by rfl) (by rfl))))))
theorem Zeu{fd:FuncData}(F:Fun K "_law_cell_at" "_law_cell_at" Zbl fx9 fd):
  FnOk P w K mg base CX0 1 fx9 fd ["_law_script","_law_k"] (spOf K 2 Zx):=by
 refine okB F Zeq rfl Za3 fun _ _ _ _ _ _ _ hr hu hv=>?_
 exact(@Zf _ _ _ _ _ _ (@s_if _ _ _ _ _ _ _ _ _ (@t_lt _ _ _ _ _ _ _ (Zd 1) (@Zen _ _ _ _ _ _ T.z_len (Zd 0) (by rfl) (by rfl) (by rfl))) (@Zo _ _ _ _ (@Za7 _ _ _ _ _ (@Zw _ _ _ _ _ _ _ hu (Zd 0) (Zd 1) (by intro _ _;rfl)))) Za0) (@Zo _ _ _ _ (@Za7 _ _ _ _ _ Zj)))
theorem Zkm{fd:FuncData}(F:Fun K "_law_had" "_law_had" Zdi fx10 fd):
  FnOk P w K mg base CX0 1 fx10 fd ["_law_shelf_here","_law_key","_law_field"] (spOf K 3 Zbp):=by
 refine okB F Zce rfl Zei fun _ _ _ _ _ _ _ hr hu hv=>?_
 exact(@Zf _ _ _ _ _ _ (@Zlx _ _ _ _ FUEL _ _ _ PassesOwn.never (@Zo4 _ _ _ _ _ _ _ hu (Zd 1) (Zd 0) (by rfl)) (@Zf _ _ _ _ _ _ (@Zoo _ _ _ _ _ _ _ (@Zw _ _ _ _ _ _ _ hu (Zd 0) (Zd 1) (by intro _ _;rfl)) (@Zvp _ _ _ _ _ _ _ rfl (@Zfo _ _ _ _ _ _ (@Za6 _ _ _ 3 _ Zce.nd (by rfl) (by trivial) (by trivial)) (@Zfo _ _ _ _ _ _ (@Za6 _ _ _ 4 _ Zce.nd (by rfl) (by trivial) (by trivial)) Zp3 (by rfl)) (by rfl)) (by rfl) (by rfl)) (by rfl) (by rfl) (by rfl)) (@Zf _ _ _ _ _ _ (@s_if _ _ _ _ _ _ _ _ _ (@Zo4 _ _ _ _ _ _ _ hu (Zd 2) (Zd 4) (by rfl)) (@Zo _ _ _ _ (@Za7 _ _ _ _ _ (@Zw _ _ _ _ _ _ _ hu (Zd 4) (Zd 2) (by intro _ _;rfl)))) Za0) (@Zf _ _ _ _ _ _ (@s_if _ _ _ _ _ _ _ _ _ (@PW.pt _ _ _ (@w_or _ _ _ _ _ _ _ _ (@Zmk _ _ _ _ _ _ _ hv (Zd 3) Zdt) (@w_or _ _ _ _ _ _ _ _ (@Zfy _ _ _ _ _ _ _ hu (Zd 2) (@Zb4 _ _ _ _ _ (@Zbt _ _ _ _ [("title",_,_),("year",_,_)] Zan)) (by rfl)) (@Zol _ _ _ _ _ (@Zfy _ _ _ _ _ _ _ hu Zdt (Zd 4) (by rfl)))))) (@Zo _ _ _ _ (@Za7 _ _ _ _ _ Zeb)) Za0) (@Zo _ _ _ _ (@Z7 _ _ _ _ _ 1 _ _ Zce.nd (@Zw _ _ _ _ _ _ _ hu (Zd 4) Zdt (by intro _ _;rfl)) (by rfl) (by trivial) (by rfl) (by trivial))))))) (@Zo _ _ _ _ (@Za7 _ _ _ _ _ Zeb)))
theorem Zhm{fd:FuncData}(F:Fun K "_law_comes" "_law_comes" Zb9 fx11 fd){dx10:FuncData}(Vx10:FnOk P w K mg base CX0 1 fx10 dx10 ["_law_shelf_here","_law_key","_law_field"] (spOf K 3 Zbp))(Wx10:Zbb K dx10 ["_law_shelf_here","_law_key","_law_field"] []):
  FnOk P w K mg base CX0 2 fx11 fd ["_law_shelf_here","_law_one","_law_other","_law_fields"] (spOf K 4 Za9):=by
 refine okB F Zbf rfl Zcr fun _ _ _ _ _ _ _ hr hu hv=>?_
 exact(@Zf _ _ _ _ _ _ (@Zeo _ _ _ _ _ _ _ _ _ PassesOwn.never rfl (@Zj6 _ _ _ _ _ (Zd 3)) (@Za6 _ _ _ 4 _ Zbf.nd (by rfl) (by trivial) (by trivial)) (@Zf _ _ _ _ _ _ (@Z7 _ _ _ _ _ 5 _ _ Zbf.nd (@Zao _ _ _ _ _ _ _ _ _ _ _ _ _ _ Vx10 (hr.mono (by decide)) T.m_10 T.k_10 Wx10 (@Zh _ _ _ _ _ _ (Zd 0) (@Zh _ _ _ _ _ _ (Zd 1) (@Zh _ _ _ _ _ _ (Zd 4) Zaz (by rfl)) (by rfl)) (by rfl)) (by rfl) (by decide) (by rfl) (by rfl)) (by rfl) (by trivial) (by rfl) (by trivial)) (@Zf _ _ _ _ _ _ (@Z7 _ _ _ _ _ 6 _ _ Zbf.nd (@Zao _ _ _ _ _ _ _ _ _ _ _ _ _ _ Vx10 (hr.mono (by decide)) T.m_10 T.k_10 Wx10 (@Zh _ _ _ _ _ _ (Zd 0) (@Zh _ _ _ _ _ _ (Zd 2) (@Zh _ _ _ _ _ _ (Zd 4) Zaz (by rfl)) (by rfl)) (by rfl)) (by rfl) (by decide) (by rfl) (by rfl)) (by rfl) (by trivial) (by rfl) (by trivial)) (@Zo _ _ _ _ (@s_if _ _ _ _ _ _ _ _ _ (@Zmk _ _ _ _ _ _ _ hv (Zd 5) (Zd 6)) (@Zo _ _ _ _ (@Za7 _ _ _ _ _ (@e_or _ _ _ _ _ _ _ _ (@Zyr _ _ _ _ _ _ _ (Zd 5) Zeb) (@Zvn _ _ _ _ _ _ (@Zyt _ _ _ _ _ _ _ _ (@Zvi _ _ _ _ _ _ _ (Zd 6) Zeb) (@Zvn _ _ _ _ _ _ (@Zwl _ _ _ _ _ _ _ (Zd 5) (Zd 6)))))))) Za0)))) (by intro _;rfl)) (@Zo _ _ _ _ (@Za7 _ _ _ _ _ (@Zwl _ _ _ _ _ _ _ (Zd 1) (Zd 2)))))
theorem Zwu{fd:FuncData}(F:Fun K "law" "law" Zc7 fx12 fd){dx0:FuncData}(Vx0:FnOk P w K mg base CX0 1 fx0 dx0 ["_law_cell","_law_many"] (spOf K 2 Zt))(Wx0:Zbb K dx0 ["_law_cell","_law_many"] []){dx1:FuncData}(Vx1:FnOk P w K mg base CX0 2 fx1 dx1 ["_law_cell","_law_many"] (spOf K 2 Zbn))(Wx1:Zbb K dx1 ["_law_cell","_law_many"] []){dx2:FuncData}(Vx2:FnOk P w K mg base CX0 2 fx2 dx2 ["_law_keys_here","_law_cells"] (spOf K 2 Zau))(Wx2:Zbb K dx2 ["_law_keys_here","_law_cells"] []){dx8:FuncData}(Vx8:FnOk P w K mg base CX0 6 fx8 dx8 ["shelf","table","keys","fields"] (TX.spT tq (Str.ofString "in_order"++ ".<locals>."++ "<lambda>") (spOf K 4 Zbo)))(Wx8:Zbb K dx8 ["shelf","table","keys","fields"] []){dx9:FuncData}(Vx9:FnOk P w K mg base CX0 1 fx9 dx9 ["_law_script","_law_k"] (spOf K 2 Zx))(Wx9:Zbb K dx9 ["_law_script","_law_k"] []){dx11:FuncData}(Vx11:FnOk P w K mg base CX0 2 fx11 dx11 ["_law_shelf_here","_law_one","_law_other","_law_fields"] (spOf K 4 Za9))(Wx11:Zbb K dx11 ["_law_shelf_here","_law_one","_law_other","_law_fields"] []):
  FnOk P w K mg base CX0 7 fx12 fd ["_law_script"] (TX.spT tq (Str.ofString "in_order"++ ".<locals>."++ "<lambda>") (spOf K 1 Zf6)):=by
 refine TX.okT F Zba rfl Zs4 fun _ _ _ _ _ _ _ hT hr hu hv=>?_
 exact(@Zf _ _ _ _ _ _ (@Z7 _ _ _ _ _ 1 _ _ Zba.nd (@e_sl _ _ _ _ _ _ _ _ _ _ (Zd 0) (@Zi3 _ _ _ _ Zj) (@Zi3 _ _ _ _ Zj)) (by rfl) (by trivial) (by rfl) (by trivial)) (@Zf _ _ _ _ _ _ (@Z7 _ _ _ _ _ 2 _ _ Zba.nd (@Zao _ _ _ _ _ _ _ _ _ _ _ _ _ _ Vx1 (hr.mono (by decide)) T.m_1 T.k_1 Wx1 (@Zh _ _ _ _ _ _ (@Zao _ _ _ _ _ _ _ _ _ _ _ _ _ _ Vx9 (hr.mono (by decide)) T.m_9 T.k_9 Wx9 (@Zh _ _ _ _ _ _ (Zd 0) (@Zh _ _ _ _ _ _ Zj Zaz (by rfl)) (by rfl)) (by rfl) (by decide) (by rfl) (by rfl)) (@Zh _ _ _ _ _ _ (@Zen _ _ _ _ _ _ T.z_len (Zd 1) (by rfl) (by rfl) (by rfl)) Zaz (by rfl)) (by rfl)) (by rfl) (by decide) (by rfl) (by rfl)) (by rfl) (by trivial) (by rfl) (by trivial)) (@Zf _ _ _ _ _ _ (@Z7 _ _ _ _ _ 3 _ _ Zba.nd (@Zao _ _ _ _ _ _ _ _ _ _ _ _ _ _ Vx2 (hr.mono (by decide)) T.m_2 T.k_2 Wx2 (@Zh _ _ _ _ _ _ (Zd 2) (@Zh _ _ _ _ _ _ (Zd 1) Zaz (by rfl)) (by rfl)) (by rfl) (by decide) (by rfl) (by rfl)) (by rfl) (by trivial) (by rfl) (by trivial)) (@Zf _ _ _ _ _ _ (@Z7 _ _ _ _ _ 4 _ _ Zba.nd (@Zsl _ _ _ _ _ _ _ (@Zsk _ _ _ _ _ _ _ _ _ _ _ (@Zb4 _ _ _ _ _ (@Z9 _ _ _ _ _ _ (@Zgx _ _ _ _ _ _ (@Zbt _ _ _ _ [("title",_,_),("title",_,_)] Zan)) (@Z9 _ _ _ _ _ _ (@Zgx _ _ _ _ _ _ (@Zbt _ _ _ _ [("year",_,_),("year",_,_)] Zan)) Zan (by rfl)) (by rfl))) Zv5) (show(["part"]:List Str).Nodup by decide+kernel) (by rfl) (by decide) (by rfl) (by rfl) (by exact List.cons_ne_nil _ _) (by rfl)) (by rfl) (by trivial) (by rfl) (by trivial)) (@Zf _ _ _ _ _ _ (@Z7 _ _ _ _ _ 5 _ _ Zba.nd (@Zao _ _ _ _ _ _ _ _ _ _ _ _ _ _ Vx0 (hr.mono (by decide)) T.m_0 T.k_0 Wx0 (@Zh _ _ _ _ _ _ (@Zao _ _ _ _ _ _ _ _ _ _ _ _ _ _ Vx9 (hr.mono (by decide)) T.m_9 T.k_9 Wx9 (@Zh _ _ _ _ _ _ (Zd 0) (@Zh _ _ _ _ _ _ Zj Zaz (by rfl)) (by rfl)) (by rfl) (by decide) (by rfl) (by rfl)) (@Zh _ _ _ _ _ _ (@Zdu _ _ _ _ _ _ _ (@Zen _ _ _ _ _ _ T.z_len (Zd 2) (by rfl) (by rfl) (by rfl)) Zj) Zaz (by rfl)) (by rfl)) (by rfl) (by decide) (by rfl) (by rfl)) (by rfl) (by trivial) (by rfl) (by trivial)) (@Zf _ _ _ _ _ _ (@Z7 _ _ _ _ _ 6 _ _ Zba.nd (@Zb4 _ _ _ _ _ Zan) (by rfl) (by trivial) (by rfl) (by trivial)) (@Zf _ _ _ _ _ _ (@Zeo _ _ _ _ _ _ _ _ _ PassesOwn.never rfl (@Zom _ _ _ _ _ _ _ T.z_range (@Zen _ _ _ _ _ _ T.z_len (Zd 2) (by rfl) (by rfl) (by rfl)) (by rfl) (by rfl)) (@Za6 _ _ _ 7 _ Zba.nd (by rfl) (by trivial) (by trivial)) (@Zo _ _ _ _ (@s_if _ _ _ _ _ _ _ _ _ (@PW.pt _ _ _ (@w_or _ _ _ _ _ _ _ _ (@Zo0 _ _ _ _ _ _ _ hv (@Zbh _ _ _ _ _ _ _ (@Zw _ _ _ _ _ _ _ hu (Zd 5) (@Zen _ _ _ _ _ _ T.z_len (Zd 2) (by rfl) (by rfl) (by rfl)) (by intro _ _;rfl)) Zj) Zj) (@Zol _ _ _ _ _ (@t_gt _ _ _ _ _ _ _ (@Zbh _ _ _ _ _ _ _ (@Zw _ _ _ _ _ _ _ hu (Zd 5) (Zd 7) (by intro _ _;rfl)) Zj) Zj)))) (@Zf _ _ _ _ _ _ (@Z7 _ _ _ _ _ 8 _ _ Zba.nd (@Zbh _ _ _ _ _ _ _ (@Zez _ _ _ _ _ _ _ (@Zw _ _ _ _ _ _ _ hu (Zd 5) (Zd 7) (by intro _ _;rfl)) Zj) (@Zdu _ _ _ _ _ _ _ (@Zen _ _ _ _ _ _ T.z_len (Zd 6) (by rfl) (by rfl) (by rfl)) Zj)) (by rfl) (by trivial) (by rfl) (by trivial)) (@Zo _ _ _ _ (@Z7 _ _ _ _ _ 6 _ _ Zba.nd (@Zdu _ _ _ _ _ _ _ (@Zdu _ _ _ _ _ _ _ (@e_sl _ _ _ _ _ _ _ _ _ _ (Zd 6) Zp1 (@Zi3 _ _ _ _ (Zd 8))) (@Zb4 _ _ _ _ _ (@Z9 _ _ _ _ _ _ (@Zw _ _ _ _ _ _ _ hu (Zd 2) (Zd 7) (by intro _ _;rfl)) Zan (by rfl)))) (@e_sl _ _ _ _ _ _ _ _ _ _ (Zd 6) (@Zi3 _ _ _ _ (Zd 8)) Zp1)) (by rfl) (by trivial) (by rfl) (by trivial)))) Za0)) (by intro _;rfl)) (@Zf _ _ _ _ _ _ (@Z7 _ _ _ _ _ 9 _ _ Zba.nd (@Zb4 _ _ _ _ _ Zan) (by rfl) (by trivial) (by rfl) (by trivial)) (@Zf _ _ _ _ _ _ (@Zeo _ _ _ _ _ _ _ _ _ PassesOwn.never rfl (@Zj6 _ _ _ _ _ (@Zao _ _ _ _ _ _ _ _ _ _ _ _ _ _ Vx0 (hr.mono (by decide)) T.m_0 T.k_0 Wx0 (@Zh _ _ _ _ _ _ (@Zao _ _ _ _ _ _ _ _ _ _ _ _ _ _ Vx9 (hr.mono (by decide)) T.m_9 T.k_9 Wx9 (@Zh _ _ _ _ _ _ (Zd 0) (@Zh _ _ _ _ _ _ Zj Zaz (by rfl)) (by rfl)) (by rfl) (by decide) (by rfl) (by rfl)) (@Zh _ _ _ _ _ _ (@Zbh _ _ _ _ _ _ _ (@Zao _ _ _ _ _ _ _ _ _ _ _ _ _ _ Vx9 (hr.mono (by decide)) T.m_9 T.k_9 Wx9 (@Zh _ _ _ _ _ _ (Zd 0) (@Zh _ _ _ _ _ _ Zj Zaz (by rfl)) (by rfl)) (by rfl) (by decide) (by rfl) (by rfl)) Zj) Zaz (by rfl)) (by rfl)) (by rfl) (by decide) (by rfl) (by rfl))) (@Za6 _ _ _ 10 _ Zba.nd (by rfl) (by trivial) (by trivial)) (@Zo _ _ _ _ (@Zop _ _ _ _ _ 9 _ _ _ _ (@Zw _ _ _ _ _ _ _ hu (@Zb4 _ _ _ _ _ (@Zbt _ _ _ _ [("title",_,_),("year",_,_),("hands",_,_),("in",_,_),("none",_,_),("kind",_,_),("note",_,_)] Zan)) (@Zbh _ _ _ _ _ _ _ (Zd 10) Zj) (by intro _ _;rfl)) (by rfl) (by trivial) (by decide) (by decide) (by rfl) (by rfl) (by rfl) (by rfl) (by rfl) (by rfl))) (by intro _;rfl)) (@Zf _ _ _ _ _ _ (@Z7 _ _ _ _ _ 11 _ _ Zba.nd (@Zb4 _ _ _ _ _ (@Z9 _ _ _ _ _ _ (@Zp2 _ _ _ _ _ _ T.z_list (Zd 6) (by rfl) (by rfl) (by rfl)) (@Z9 _ _ _ _ _ _ (@Zp2 _ _ _ _ _ _ T.z_list (Zd 9) (by rfl) (by rfl) (by rfl)) Zan (by rfl)) (by rfl))) (by rfl) (by trivial) (by rfl) (by trivial)) (@Zf _ _ _ _ _ _ (@Z7 _ _ _ _ _ 12 _ _ Zba.nd (@e_callH _ _ _ _ _ _ _ _ _ _ _ _ _ _ _ _ hT Vx8 (hr.mono (by decide)) T.m_8 T.k_8 Wx8 (@Zh _ _ _ _ _ _ (Zd 3) (@Zh _ _ _ _ _ _ (Zd 4) (@Zh _ _ _ _ _ _ (@Zw _ _ _ _ _ _ _ hu (Zd 11) Zj (by intro _ _;rfl)) (@Zh _ _ _ _ _ _ (@Zw _ _ _ _ _ _ _ hu (Zd 11) Zj (by intro _ _;rfl)) Zaz (by rfl)) (by rfl)) (by rfl)) (by rfl)) (by rfl) (by decide) (by rfl) (by rfl)) (by rfl) (by trivial) (by rfl) (by trivial)) (@Zf _ _ _ _ _ _ (@s_if _ _ _ _ _ _ _ _ _ (@PW.pt _ _ _ (@w_or _ _ _ _ _ _ _ _ (@Zvl _ _ _ _ _ (@Zvm _ _ _ _ (@Zyu _ _ _ _ _ _ _ _ _ T.z_isinstance T.z_list boot_list (Zon _) (Zd 12) (by rfl) (by rfl) (by decide) (by decide) (by rfl) (by rfl) (by rfl)) (by intro _;rfl))) (@w_or _ _ _ _ _ _ _ _ (@Zmk _ _ _ _ _ _ _ hv (@Zqk _ _ _ _ _ _ T.z_sorted (Zd 12) (by rfl) (by rfl) (by rfl)) (@Zqk _ _ _ _ _ _ T.z_sorted (Zd 6) (by rfl) (by rfl) (by rfl))) (@Zol _ _ _ _ _ (@Zmk _ _ _ _ _ _ _ hv (Zd 11) (@Zb4 _ _ _ _ _ (@Z9 _ _ _ _ _ _ (Zd 6) (@Z9 _ _ _ _ _ _ (Zd 9) Zan (by rfl)) (by rfl)))))))) (@Zo _ _ _ _ (@Za7 _ _ _ _ _ e_bl)) Za0) (@Zf _ _ _ _ _ _ (@s_if _ _ _ _ _ _ _ _ _ (@Zmk _ _ _ _ _ _ _ hv (Zd 3) (@Zao _ _ _ _ _ _ _ _ _ _ _ _ _ _ Vx2 (hr.mono (by decide)) T.m_2 T.k_2 Wx2 (@Zh _ _ _ _ _ _ (Zd 2) (@Zh _ _ _ _ _ _ (Zd 1) Zaz (by rfl)) (by rfl)) (by rfl) (by decide) (by rfl) (by rfl))) (@Zo _ _ _ _ (@Za7 _ _ _ _ _ e_bl)) Za0) (@Zf _ _ _ _ _ _ (@Zeo _ _ _ _ _ _ _ _ _ PassesOwn.never rfl (@Zwo _ _ _ _ _ _ _ _ _ T.z_range Zj (@Zen _ _ _ _ _ _ T.z_len (Zd 12) (by rfl) (by rfl) (by rfl)) (by rfl) (by rfl) (by rfl)) (@Za6 _ _ _ 7 _ Zba.nd (by rfl) (by trivial) (by trivial)) (@Zo _ _ _ _ (@s_if _ _ _ _ _ _ _ _ _ (@Zvl _ _ _ _ _ (@Zvm _ _ _ _ (@Zao _ _ _ _ _ _ _ _ _ _ _ _ _ _ Vx11 (hr.mono (by decide)) T.m_11 T.k_11 Wx11 (@Zh _ _ _ _ _ _ (Zd 3) (@Zh _ _ _ _ _ _ (@Zw _ _ _ _ _ _ _ hu (Zd 12) (@Zr0 _ _ _ _ _ _ _ (Zd 7) Zj) (by intro _ _;rfl)) (@Zh _ _ _ _ _ _ (@Zw _ _ _ _ _ _ _ hu (Zd 12) (Zd 7) (by intro _ _;rfl)) (@Zh _ _ _ _ _ _ (Zd 9) Zaz (by rfl)) (by rfl)) (by rfl)) (by rfl)) (by rfl) (by decide) (by rfl) (by rfl)) (by intro _;rfl))) (@Zo _ _ _ _ (@Za7 _ _ _ _ _ e_bl)) Za0)) (by intro _;rfl)) (@Zo _ _ _ _ (@Za7 _ _ _ _ _ e_bl))))))))))))))))
end
theorem Zwv{l:PySem.W.OpenLaw}{w:World}{K:PySem.W.Frag}{h:Heap}{mg:Str→Option Value}{fa fx0 fx1 fx2 fx3 fx4 fx5 fx6 fx7 fx8 fx9 fx10 fx11 fx12 tq c0:Addr}(X:K.In h)(G:h.Ns mainGlobals mg)(hfa:mg "law"=some (.ref fa))(hct:PySem.W.codeHdIn K c0 tq=true)
  {odx12 anx12:Option Addr} {slx12:Array (Option Value)} {ocx12 kVx12 dcx12 pmx12 cdx12 ctx12:Value}
  (ax0:PySem.W.nsIn K mainGlobals "_law_numbers"=some (some (.ref fx0))) (Fx0:∃fd,Fun K "_law_numbers" "_law_numbers" Zbi fx0 fd) (kx0:PySem.W.keepIn K (.ref fx0)=true)
  (ax1:PySem.W.nsIn K mainGlobals "_law_keys"=some (some (.ref fx1))) (Fx1:∃fd,Fun K "_law_keys" "_law_keys" Zco fx1 fd) (kx1:PySem.W.keepIn K (.ref fx1)=true)
  (ax2:PySem.W.nsIn K mainGlobals "_law_shelf"=some (some (.ref fx2))) (Fx2:∃fd,Fun K "_law_shelf" "_law_shelf" Zb8 fx2 fd) (kx2:PySem.W.keepIn K (.ref fx2)=true)
  (ax3:PySem.W.nsIn K mainGlobals "other_field"=some (some (.ref fx3))) (Fx3:∃fd,Fun K "other_field" "other_field" Zbj fx3 fd) (kx3:PySem.W.keepIn K (.ref fx3)=true)
  (ax4:PySem.W.nsIn K mainGlobals "pair_behind"=some (some (.ref fx4))) (Fx4:∃fd,Fun K "pair_behind" "pair_behind" Zbk fx4 fd) (kx4:PySem.W.keepIn K (.ref fx4)=true)
  (ax5:PySem.W.nsIn K mainGlobals "way"=some (some (.ref fx5))) (Fx5:∃fd,Fun K "way" "way" Zna fx5 fd) (kx5:PySem.W.keepIn K (.ref fx5)=true)
  (ax6:PySem.W.nsIn K mainGlobals "had"=some (some (.ref fx6))) (Fx6:∃fd,Fun K "had" "had" Znb fx6 fd) (kx6:PySem.W.keepIn K (.ref fx6)=true)
  (ax7:PySem.W.nsIn K mainGlobals "rank"=some (some (.ref fx7))) (Fx7:∃fd,Fun K "rank" "rank" Zie fx7 fd) (kx7:PySem.W.keepIn K (.ref fx7)=true)
  (ax8:PySem.W.nsIn K mainGlobals "in_order"=some (some (.ref fx8))) (Fx8:∃fd,TX.FunC K "in_order" "in_order" Zcp fx8 fd c0) (kx8:PySem.W.keepIn K (.ref fx8)=true)
  (ax9:PySem.W.nsIn K mainGlobals "_law_cell_at"=some (some (.ref fx9))) (Fx9:∃fd,Fun K "_law_cell_at" "_law_cell_at" Zbl fx9 fd) (kx9:PySem.W.keepIn K (.ref fx9)=true)
  (ax10:PySem.W.nsIn K mainGlobals "_law_had"=some (some (.ref fx10))) (Fx10:∃fd,Fun K "_law_had" "_law_had" Zdi fx10 fd) (kx10:PySem.W.keepIn K (.ref fx10)=true)
  (ax11:PySem.W.nsIn K mainGlobals "_law_comes"=some (some (.ref fx11))) (Fx11:∃fd,Fun K "_law_comes" "_law_comes" Zb9 fx11 fd) (kx11:PySem.W.keepIn K (.ref fx11)=true)
  (ax12:PySem.W.nsIn K mainGlobals "law"=some (some (.ref fx12))) (lx12:K.lookup fx12=some ⟨ocx12,odx12,.func (PySem.W.fnOf "law" "law" (Zbq Zc7) (Zak Zc7) (Zg Zc7) .none kVx12 dcx12 pmx12 anx12 cdx12 ctx12),slx12⟩) (cx12:PySem.W.codeIn K cdx12 "law"=true) (kx12:PySem.W.keepIn K (.ref fx12)=true)
  (zenumerate:PySem.W.nsIn K mainGlobals "enumerate"=some none)
  (zint:PySem.W.nsIn K mainGlobals "int"=some none)
  (zisinstance:PySem.W.nsIn K mainGlobals "isinstance"=some none)
  (zlen:PySem.W.nsIn K mainGlobals "len"=some none)
  (zlist:PySem.W.nsIn K mainGlobals "list"=some none)
  (zrange:PySem.W.nsIn K mainGlobals "range"=some none)
  (zsorted:PySem.W.nsIn K mainGlobals "sorted"=some none)
  :∃fd:FuncData,(∀(s:Shared) (v:Value),BindsTo s fd ⟨[v],[]⟩ [("_law_script",v)])∧∀base:Heap,K.In base→base.Ns mainGlobals mg→TX.BMain mg base→FnOk l.prog w K mg base CX0 7 fa fd ["_law_script"] (TX.spT tq (Str.ofString "in_order"++ ".<locals>."++ "<lambda>") (spOf K 1 Zf6)):=by
 have e:=hfa.symm.trans (PySem.W.mg_of X G ax12)
 cases e
 have T:Txt K mg fx0 fx1 fx2 fx3 fx4 fx5 fx6 fx7 fx8 fx9 fx10 fx11 _:=⟨PySem.W.mg_none_of X G zenumerate,PySem.W.mg_none_of X G zint,PySem.W.mg_none_of X G zisinstance,PySem.W.mg_none_of X G zlen,PySem.W.mg_none_of X G zlist,PySem.W.mg_none_of X G zrange,PySem.W.mg_none_of X G zsorted,PySem.W.mg_of X G ax0,kx0,PySem.W.mg_of X G ax1,kx1,PySem.W.mg_of X G ax2,kx2,PySem.W.mg_of X G ax3,kx3,PySem.W.mg_of X G ax4,kx4,PySem.W.mg_of X G ax5,kx5,PySem.W.mg_of X G ax6,kx6,PySem.W.mg_of X G ax7,kx7,PySem.W.mg_of X G ax8,kx8,PySem.W.mg_of X G ax9,kx9,PySem.W.mg_of X G ax10,kx10,PySem.W.mg_of X G ax11,kx11,PySem.W.mg_of X G ax12,kx12⟩
 obtain⟨_,Fx0⟩:=Fx0
 obtain⟨_,Fx1⟩:=Fx1
 obtain⟨_,Fx2⟩:=Fx2
 obtain⟨_,Fx3⟩:=Fx3
 obtain⟨_,Fx4⟩:=Fx4
 obtain⟨_,Fx5⟩:=Fx5
 obtain⟨_,Fx6⟩:=Fx6
 obtain⟨_,Fx7⟩:=Fx7
 obtain⟨_,Fx8⟩:=Fx8
 obtain⟨_,Fx9⟩:=Fx9
 obtain⟨_,Fx10⟩:=Fx10
 obtain⟨_,Fx11⟩:=Fx11
 have Fx12:=Zbz (st:=Zc7) lx12 cx12 kx12
 have bx0:=Fx0.binds (ps:=["_law_cell","_law_many"]) fun _ _ _ _ _ _ us hl=>of2 (fun _ _=>rfl) us hl
 have bx1:=Fx1.binds (ps:=["_law_cell","_law_many"]) fun _ _ _ _ _ _ us hl=>of2 (fun _ _=>rfl) us hl
 have bx2:=Fx2.binds (ps:=["_law_keys_here","_law_cells"]) fun _ _ _ _ _ _ us hl=>of2 (fun _ _=>rfl) us hl
 have bx3:=Fx3.binds (ps:=["table","kind","field"]) fun _ _ _ _ _ _ us hl=>of3 (fun _ _ _=>rfl) us hl
 have bx4:=Fx4.binds (ps:=["shelf","table","pair"]) fun _ _ _ _ _ _ us hl=>of3 (fun _ _ _=>rfl) us hl
 have bx5:=Fx5.binds (ps:=["shelf","table","key","field"]) fun _ _ _ _ _ _ us hl=>of4 (fun _ _ _ _=>rfl) us hl
 have bx6:=Fx6.binds (ps:=["shelf","table","key","field"]) fun _ _ _ _ _ _ us hl=>of4 (fun _ _ _ _=>rfl) us hl
 have bx7:=Fx7.binds (ps:=["shelf","table","key","fields"]) fun _ _ _ _ _ _ us hl=>of4 (fun _ _ _ _=>rfl) us hl
 have bx8:=Fx8.fn.binds (ps:=["shelf","table","keys","fields"]) fun _ _ _ _ _ _ us hl=>of4 (fun _ _ _ _=>rfl) us hl
 have bx9:=Fx9.binds (ps:=["_law_script","_law_k"]) fun _ _ _ _ _ _ us hl=>of2 (fun _ _=>rfl) us hl
 have bx10:=Fx10.binds (ps:=["_law_shelf_here","_law_key","_law_field"]) fun _ _ _ _ _ _ us hl=>of3 (fun _ _ _=>rfl) us hl
 have bx11:=Fx11.binds (ps:=["_law_shelf_here","_law_one","_law_other","_law_fields"]) fun _ _ _ _ _ _ us hl=>of4 (fun _ _ _ _=>rfl) us hl
 refine⟨PySem.W.fnOf "law" "law" (Zbq Zc7) (Zak Zc7) (Zg Zc7) .none kVx12 dcx12 pmx12 anx12 cdx12 ctx12,fun s v=>.of_eq rfl,fun base kb nb bb=>?_⟩
 have Gx0:=Zer (P:=l.prog) (w:=w) (base:=base) T Fx0
 have Gx1:=Zig (P:=l.prog) (w:=w) (base:=base) T Fx1 Gx0 bx0
 have Gx2:=Zhl (P:=l.prog) (w:=w) (base:=base) T Fx2 Gx0 bx0
 have Gx3:=Zes (P:=l.prog) (w:=w) (base:=base) T Fx3
 have Gx4:=Zet (P:=l.prog) (w:=w) (base:=base) T Fx4 Gx3 bx3
 have Gx5:=Zws (P:=l.prog) (w:=w) (base:=base) T Fx5 Gx4 bx4
 have Gx6:=Zwt (P:=l.prog) (w:=w) (base:=base) T Fx6 Gx5 bx5
 have Gx7:=Zs5 (P:=l.prog) (w:=w) (base:=base) T Fx7 Gx6 bx6
 have Gx8:=Zih (P:=l.prog) (w:=w) (base:=base) T Fx8 (PySem.W.codeHd_of_K kb hct) bb Gx7 bx7
 have Gx9:=Zeu (P:=l.prog) (w:=w) (base:=base) T Fx9
 have Gx10:=Zkm (P:=l.prog) (w:=w) (base:=base) T Fx10
 have Gx11:=Zhm (P:=l.prog) (w:=w) (base:=base) T Fx11 Gx10 bx10
 exact Zwu T Fx12 Gx0 bx0 Gx1 bx1 Gx2 bx2 Gx8 bx8 Gx9 bx9 Gx11 bx11
theorem Zww{K:PySem.W.Frag}{H:Hp}{a:Addr}{ns:List Int}(hn:Zf6 [.lst (ns.map D.int)]=some (.fz (.bl true)))(hS:SqL K H a (ns.map V.int)):spOf K 1 Zf6 [.ref a] H (fun v H'=>v= .bl true∧Same H H') fun _ _ _=>False:=by
 refine⟨H,[.lst (ns.map D.int)],.fz (.bl true),Same.refl H,.cons (.lst hS (Zi4 ns)) .nil,rfl,hn,fun v H' F' ms sm _ _ _ sh _ _=>?_⟩
 cases Zcy sh
 exact⟨rfl,sm⟩
theorem walk{l:PySem.W.OpenLaw}{q:Program}{loose:List Str}{XP:(Str→Option Value)→Heap→Prop}{YP:World→Heap→Prop}{d:DefRec}{K:Params→PySem.W.Frag}{tq c0:Addr}(hn:l.most=some 63)(hdf:d.params.defaults=[])
  (hY:∀(w:World) (h:Heap),YP w h→(K w.params).In h∧h.get? tq=some (PySem.W.tabObj #[])) (hcT:∀p:Params,PySem.W.codeHdIn (K p) c0 tq=true) (hKT:∀p:Params,(K p).lookup tq=none)
  (F:∀(w:World) (mg:Str→Option Value) (fa:Addr) (h:Heap),(K w.params).In h→h.Ns mainGlobals mg→mg d.name=some (.ref fa)→
   ∃fd:FuncData,(∀(s:Shared) (u:Value),BindsTo s fd ⟨[u],[]⟩ [("_law_script",u)])∧∀base:Heap,(K w.params).In base→base.Ns mainGlobals mg→TX.BMain mg base→FnOk l.prog w (K w.params) mg base CX0 7 fa fd ["_law_script"] (TX.spT tq (Str.ofString "in_order"++ ".<locals>."++ "<lambda>") (spOf (K w.params) 1 Zf6)))
  (hlaw:∀ns:List Int,ns.length≤63→Zf6 [.lst (ns.map D.int)]=some (.fz (.bl true))):
  PySem.W.WalkO q loose XP YP l.row.toRowW d [] (fun f vs=>PySem.call f vs):=
 TX.walk_ofT (n:=63) (k:=7) (x:="_law_script") (CX:=CX0) (sp:=fun K=>spOf K 1 Zf6) hn (by decide) hdf ⟨rfl,by decide,by decide⟩ hY hcT hKT F (fun _ _ _ ns hl hS=>Zww (hlaw ns hl) hS) fun _ _ _ _ z=>z
end Gen
namespace My
open DL PySem
noncomputable def Num(x:Int):Prop:=0≤x∧x<2147483647
theorem Zs6(x:Int):Num (x % 2147483647):=⟨Int.emod_nonneg _ (by decide),Int.emod_lt_of_pos _ (by decide)⟩
theorem Zdr(a b:Option SV):∀(n s:Nat) (ms:List Int) (x:Int) (y:Option SV),(∀m∈ms,Num m)→ms.length+n≤1000→
  ∃(ms':List Int) (x':Int) (y':Option SV),forD (Zq 4) Gen.Zap (nats s n) [a,b,some (.ol (ms.map D.int)),some (.fz (.int x)),y]=some (.nx [a,b,some (.ol (ms'.map D.int)),some (.fz (.int x')),y'])∧(∀m∈ms',Num m)∧ms'.length=ms.length+n
 |0,s,ms,x,y,h,_=>⟨ms,x,y,rfl,h,rfl⟩
 |n+1,s,ms,x,y,h,hl=>by
  have z:ms.length<PySem.sizeLine:=Zat (by omega)
  have hb:Gen.Zap [a,b,some (.ol (ms.map D.int)),some (.fz (.int x)),some (.fz (.int (s:Int)))]=some (.nx [a,b,some (.ol ((ms++[(x+(s:Int)+1)*48271 % 2147483647]).map D.int)),some (.fz (.int ((x+(s:Int)+1)*48271 % 2147483647))),some (.fz (.int (s:Int)))]):=by
   have hm:=Zqb (i:=x+(s:Int)+1) (j:=48271) (by omega)
   unfold Gen.Zap
   simp[hm,z]
  obtain⟨ms',x',y',e,h1,h2⟩:=Zdr a b n (s+1) (ms++[(x+(s:Int)+1)*48271 % 2147483647]) ((x+(s:Int)+1)*48271 % 2147483647) (some (.fz (.int (s:Int)))) (fun m hm=>by
   rcases List.mem_append.mp hm with hm|hm
   ·exact h m hm
   ·rw[List.mem_singleton.mp hm];exact Zs6 _) (by rw[List.length_append,List.length_singleton];omega)
  refine⟨ms',x',y',(Zbu (ds:=nats (s+1) n) (by simp) hb).trans e,h1,by rw[h2,List.length_append,List.length_singleton];omega⟩
theorem Zcf(c:Int)(n:Nat)(h:n≤1000):∃ms:List Int,Gen.Zt [.int c,.int (n:Int)]=some (.ol (ms.map D.int))∧(∀m∈ms,Num m)∧ms.length=n:=by
 obtain⟨ms,x',y',e,h1,h2⟩:=Zdr (some (.fz (.int c))) (some (.fz (.int (n:Int)))) n 0 [] (c % 2147483647) none (fun _ h=>nomatch h) (by simpa using h)
 refine⟨ms,?_,h1,by simpa using h2⟩
 have g1:rngP (n:Int):=Zc0 (by omega)
 have et:((n:Int)).toNat=n:=by omega
 have z0:0≤PySem.sizeLine:=Nat.zero_le _
 simp only[List.map_nil]at e
 unfold Gen.Zt Gen.Zbv
 simp[-forD,g1,et,Zc5,e]
noncomputable abbrev L26:Str:="abcdefghijklmnopqrstuvwxyz"
theorem Zs7:L26.cps.toList.length=26:=by decide+kernel
theorem Zjp:L26.length≤PySem.sizeLine:=by decide+kernel
noncomputable def LC(j:Nat):Nat:=L26.cps.toList.getD j 0
theorem Zwx:∀i<26,∀j<26,LC i=LC j→i=j:=by decide+kernel
theorem Zz3(i:Int):L2.atI L26.cps.toList (i % 26)=some (LC (i % 26).toNat):=by
 have h0:0≤i % 26:=Int.emod_nonneg _ (by decide)
 have h1:i % 26<26:=Int.emod_lt_of_pos _ (by decide)
 obtain⟨j,hj⟩:=Int.eq_ofNat_of_zero_le h0
 rw[hj]
 have hjl:j<L26.cps.toList.length:=by rw[Zs7];omega
 refine Zb6 _ _ _ ?_
 unfold LC
 rw[List.getD_eq_getElem?_getD,show((j:Int)).toNat=j by omega,List.getElem?_eq_getElem hjl]
 rfl
noncomputable def sgn(f:Nat→Int)(at':Int)(t k:Nat):Nat:=LC ((f k+7*(t:Int)*(if(k:Int)=at' then 1 else 0)) % 26).toNat
noncomputable def nmL(f:Nat→Int)(at':Int)(size t:Nat):List Nat:=(List.range size).map (sgn f at' t)
theorem Znf(a0 a1 a3 a5:Option SV)(xs:List D)(y at':Int)(t k:Nat)(hy:L2.atI xs (k:Int)=some (.int y))(w:List Nat)(hw:w.length≤1000):
  Gen.Zab [a0,a1,some (.fz (.str L26)),some (.ol xs),a3,some (.fz (.int at')),a5,some (.fz (.int (t:Int))),some (.fz (.str (S w))),some (.fz (.int (k:Int)))]=some (.nx [a0,a1,some (.fz (.str L26)),some (.ol xs),a3,some (.fz (.int at')),a5,some (.fz (.int (t:Int))),some (.fz (.str (S (w++[LC ((y+7*(t:Int)*(if(k:Int)=at' then 1 else 0)) % 26).toNat])))),some (.fz (.int (k:Int)))]):=by
 have go:∀ki ti:Int,L2.atI xs ki=some (.int y)→∀b:Int,(b=0∨b=1)→(if ki=at' then(1:Int)else 0)=b→∀ch,L2.atI L26.cps.toList ((y+7*ti*b) % 26)=some ch→
   Gen.Zab [a0,a1,some (.fz (.str L26)),some (.ol xs),a3,some (.fz (.int at')),a5,some (.fz (.int ti)),some (.fz (.str (S w))),some (.fz (.int ki))]=some (.nx [a0,a1,some (.fz (.str L26)),some (.ol xs),a3,some (.fz (.int at')),a5,some (.fz (.int ti)),some (.fz (.str (S (w++[ch])))),some (.fz (.int ki))]):=by
  intro ki ti hy b hb hif ch hch
  have hm:=Zqb (i:=7*ti) (j:=b) (by omega)
  have h7:=Zv1 (i:=7) (j:=ti) (by omega)
  have z:(S w).length+(⟨#[ch]⟩:Str).length≤PySem.sizeLine:=Zaf (by rw[Zwp w];show w.length+1≤_;omega)
  have ea:S w++(⟨#[ch]⟩:Str)=S (w++[ch]):=Zz1 w [ch]
  by_cases hk:ki=at'
  ·rw[if_pos hk]at hif
   subst hif
   unfold Gen.Zab
   simp[hk]at hm hch hy⊢
   simp[h7,hm,hch,hy,Zjp,z,ea]
  ·rw[if_neg hk]at hif
   subst hif
   unfold Gen.Zab
   simp[hk]at hm hch⊢
   simp[hk,h7,hm,hch,hy,Zjp,z,ea]
 exact go (k:Int) (t:Int) hy (if(k:Int)=at' then 1 else 0) (by split<;> simp) rfl _ (Zz3 _)
theorem Zng(a0 a1 a3 a5:Option SV)(xs:List D)(f:Nat→Int)(at':Int)(t size:Nat)(hf:∀k,k<size→L2.atI xs (k:Int)=some (.int (f k)))(hs:size≤100)(x8:Option SV):
  ∃y8,forD (Zq 9) Gen.Zab (nats 0 size) [a0,a1,some (.fz (.str L26)),some (.ol xs),a3,some (.fz (.int at')),a5,some (.fz (.int (t:Int))),some (.fz (.str (S []))),x8]=some (.nx [a0,a1,some (.fz (.str L26)),some (.ol xs),a3,some (.fz (.int at')),a5,some (.fz (.int (t:Int))),some (.fz (.str (S (nmL f at' size t)))),y8]):=by
 obtain⟨δ',e,y8,hy⟩:=Zb7 (tg:=Zq 9) (body:=Gen.Zab) (P:=fun i δ=>∃y8,δ=[a0,a1,some (.fz (.str L26)),some (.ol xs),a3,some (.fz (.int at')),a5,some (.fz (.int (t:Int))),some (.fz (.str (S (nmL f at' i t)))),y8]) size 0 [a0,a1,some (.fz (.str L26)),some (.ol xs),a3,some (.fz (.int at')),a5,some (.fz (.int (t:Int))),some (.fz (.str (S []))),x8] ⟨x8,rfl⟩ (fun i _ hi δ ⟨y8,hy⟩=>by
  subst hy
  have e:=Znf a0 a1 a3 a5 xs (f i) at' t i (hf i (by omega)) (nmL f at' i t) (by unfold nmL;simp;omega)
  refine⟨[a0,a1,some (.fz (.str L26)),some (.ol xs),a3,some (.fz (.int at')),a5,some (.fz (.int (t:Int))),some (.fz (.str (S (nmL f at' i t)))),some (.fz (.int (i:Int)))],_,by simp,e,some (.fz (.int (i:Int))),?_⟩
  have:nmL f at' (i+1) t=nmL f at' i t++[sgn f at' t i]:=by unfold nmL;rw[List.range_succ,List.map_append];rfl
  rw[this];rfl)
 subst hy
 rw[Nat.zero_add]at e
 exact⟨y8,e⟩
noncomputable def Za2(f:Nat→Int)(at':Int)(size m:Nat):List (List Nat):=(List.range m).map fun t=>nmL f at' size t
theorem Zii(a0 a1:Option SV)(xs:List D)(f:Nat→Int)(at':Int)(size:Nat)(hf:∀k,k<size→L2.atI xs (k:Int)=some (.int (f k)))(hs:size≤8)(m:Nat)(hm:m≤100):
  ∃δ,forD (Zq 7) Gen.Zbe (nats 0 m) [a0,a1,some (.fz (.str L26)),some (.ol xs),some (.fz (.int (size:Int))),some (.fz (.int at')),some (.ol []),none,none,none]=some (.nx δ)∧δ[6]? =some (some (.ol (((Za2 f at' size m).map S).map D.str))):=by
 obtain⟨δ',e,y6,y7,y8,hy⟩:=Zb7 (tg:=Zq 7) (body:=Gen.Zbe) (P:=fun i δ=>∃y6 y7 y8,δ=[a0,a1,some (.fz (.str L26)),some (.ol xs),some (.fz (.int (size:Int))),some (.fz (.int at')),some (.ol (((Za2 f at' size i).map S).map D.str)),y6,y7,y8]) m 0 [a0,a1,some (.fz (.str L26)),some (.ol xs),some (.fz (.int (size:Int))),some (.fz (.int at')),some (.ol []),none,none,none] ⟨none,none,none,rfl⟩ (fun i _ hi δ ⟨y6,y7,y8,hy⟩=>by
  subst hy
  obtain⟨z8,e⟩:=Zng a0 a1 (some (.fz (.int (size:Int)))) (some (.ol (((Za2 f at' size i).map S).map D.str))) xs f at' i size hf (by omega) y8
  have g1:rngP (size:Int):=Zc0 (by omega)
  have et:((size:Int)).toNat=size:=by omega
  have z:((Za2 f at' size i).map S).length<PySem.sizeLine:=Zat (by unfold Za2;simp;omega)
  have he:Str.ofString ""=S []:=rfl
  have hr:(Za2 f at' size (i+1)).map S=(Za2 f at' size i).map S++[S (nmL f at' size i)]:=by unfold Za2;rw[List.range_succ,List.map_append,List.map_append];rfl
  refine⟨[a0,a1,some (.fz (.str L26)),some (.ol xs),some (.fz (.int (size:Int))),some (.fz (.int at')),some (.ol (((Za2 f at' size i).map S).map D.str)),some (.fz (.int (i:Int))),y7,y8],[a0,a1,some (.fz (.str L26)),some (.ol xs),some (.fz (.int (size:Int))),some (.fz (.int at')),some (.ol (((Za2 f at' size (i+1)).map S).map D.str)),some (.fz (.int (i:Int))),some (.fz (.str (S (nmL f at' size i)))),z8],by simp,?_,_,_,_,rfl⟩
  rw[hr]
  generalize (Za2 f at' size i).map S=NL at*
  unfold Gen.Zbe
  simp[-forD,he,g1,et,Zc5,e,z])
 subst hy
 rw[Nat.zero_add]at e
 exact⟨_,e,rfl⟩
theorem Zef(c:Int)(m:Nat)(hm:m≤20):∃ws:List Str,Gen.Zbn [.int c,.int (m:Int)]=some (.ol (ws.map D.str))∧ws.length=m∧ws.Nodup∧∀w∈ws,w.length≤8:=by
 obtain⟨ms,e1,_,e3⟩:=Zcf c 10 (by decide)
 have i10:((10:Nat):Int)=10:=rfl
 rw[i10]at e1
 have hf:∀k:Nat,k<10→L2.atI (ms.map D.int) (k:Int)=some (.int (ms.getD k 0)):=fun k hk=>Zb6 _ _ _ (by rw[List.getElem?_map,List.getD_eq_getElem?_getD,List.getElem?_eq_getElem (by omega)];rfl)
 generalize hg:(fun k:Nat=>ms.getD k 0)=f at*
 have hf:∀k:Nat,k<10→L2.atI (ms.map D.int) (k:Int)=some (.int (f k)):=fun k hk=>by rw[←hg];exact hf k hk
 have a8:L2.atI (ms.map D.int) 8=some (.int (f 8)):=hf 8 (by decide)
 have a9:L2.atI (ms.map D.int) 9=some (.int (f 9)):=hf 9 (by decide)
 have s0:0≤f 8 % 8:=Int.emod_nonneg _ (by decide)
 have s1:f 8 % 8<8:=Int.emod_lt_of_pos _ (by decide)
 obtain⟨size,hs⟩:∃n:Nat,(n:Int)=1+f 8 % 8:=⟨(1+f 8 % 8).toNat,by omega⟩
 have hs1:1≤size:=by omega
 have hs8:size≤8:=by omega
 have p0:(0:Int)<(size:Int):=by omega
 have b0:0≤f 9 % (size:Int):=Int.emod_nonneg _ (by omega)
 have b1:f 9 % (size:Int)<(size:Int):=Int.emod_lt_of_pos _ p0
 generalize hat:f 9 % (size:Int)=at' at b0 b1
 obtain⟨δ,e,hδ⟩:=Zii (some (.fz (.int c))) (some (.fz (.int (m:Int)))) (ms.map D.int) f at' size (fun k hk=>hf k (by omega)) hs8 m (by omega)
 refine⟨(Za2 f at' size m).map S,?_,by unfold Za2;simp,?_,fun w hw=>?_⟩
 ·generalize (Za2 f at' size m).map S=NL at hδ⊢
  generalize ms.map D.int=MS at*
  have g1:rngP (m:Int):=Zc0 (by omega)
  have et:((m:Int)).toNat=m:=by omega
  have hs0:0<size:=by omega
  unfold Gen.Zbn Gen.Zdj
  simp[-forD,e1,a8,a9,←hs,p0,hs0,hat,g1,et,Zc5,e,hδ]
 ·unfold Za2
  rw[List.map_map]
  refine List.Pairwise.map _ (R:=fun a b=>a≠b∧a<m∧b<m) (fun a b h=>?_) ?_
  ·intro hl
   obtain⟨hne,ha,hb⟩:=h
   obtain⟨k,hk⟩:=Int.eq_ofNat_of_zero_le b0
   have hks:k<size:=by omega
   have e1:(nmL f at' size a)[k]? =some (sgn f at' a k):=by unfold nmL;rw[List.getElem?_map,List.getElem?_range hks];rfl
   have e2:(nmL f at' size b)[k]? =some (sgn f at' b k):=by unfold nmL;rw[List.getElem?_map,List.getElem?_range hks];rfl
   have hl:nmL f at' size a=nmL f at' size b:=Zz2 hl
   rw[hl,e2]at e1
   have e3:=Option.some.inj e1
   unfold sgn at e3
   rw[if_pos hk.symm]at e3
   have q:=fun y:Int=>(Int.emod_nonneg y (show(26:Int)≠0 by decide))
   have q':=fun y:Int=>(Int.emod_lt_of_pos y (show(0:Int)<26 by decide))
   have r1:=q (f k+7*(a:Int)*1)
   have r2:=q' (f k+7*(a:Int)*1)
   have r3:=q (f k+7*(b:Int)*1)
   have r4:=q' (f k+7*(b:Int)*1)
   have e4:=Zwx _ (by omega) _ (by omega) e3
   generalize f k=y at*
   omega
  ·have nd:(List.range m).Pairwise (fun a b=>a<b):=List.pairwise_lt_range
   refine(List.Pairwise.and_mem.mp nd).imp fun{a b} h=>?_
   exact⟨Nat.ne_of_lt h.2.2,List.mem_range.mp h.1,List.mem_range.mp h.2.1⟩
 ·obtain⟨l,hl,rfl⟩:=List.mem_map.mp hw
  unfold Za2 at hl
  obtain⟨t,_,rfl⟩:=List.mem_map.mp hl
  rw[Zwp];unfold nmL;simp;omega
theorem Zij(ns:List Int)(k:Nat):∃c:Int,Gen.Zx [.lst (ns.map D.int),.int (k:Int)]=some (.fz (.int c)):=by
 by_cases h:k<ns.length
 ·have a:L2.atI (ns.map D.int) (k:Int)=some (.int ns[k]):=Zb6 _ _ _ (by rw[List.getElem?_map,List.getElem?_eq_getElem h];rfl)
  refine⟨ns[k],?_⟩
  have h':(k:Int)<(ns.length:Int):=by omega
  unfold Gen.Zx Gen.Za3
  simp[h',h,a]
 ·refine⟨0,?_⟩
  have h':¬(k:Int)<(ns.length:Int):=by omega
  unfold Gen.Zx Gen.Za3
  simp[h',h]
end My
namespace My
open DL PySem
theorem Zej{f g:FS}{δ δ1:DSt}{r:Option Fl}(h:f δ=some (.nx δ1))(h2:g δ1=r):seqF f g δ=r:=by
 show(f δ).bind _=r
 rw[h];exact h2
noncomputable abbrev TI:Str:="title"
noncomputable abbrev YR:Str:="year"
noncomputable abbrev HN:Str:="hands"
noncomputable abbrev IN:Str:="in"
noncomputable abbrev NT:Str:="note"
noncomputable abbrev BK:Str:="book"
noncomputable abbrev KP:Str:="part"
noncomputable abbrev NO:Str:="none"
noncomputable abbrev KD:Str:="kind"
noncomputable abbrev HT:List Str:=["Lee, Ann","Lee","Kim & Lee"]
noncomputable abbrev F5:List Str:=[TI,YR,HN,IN,NT]
structure Own(xs:List Str)(vs:List D):Prop where
 dic:Dic xs vs
 len:vs.length≤xs.length
 key:∀x∈xs,x∈F5
 str:∀v∈vs,∃s:Str,v= .str s∧s.length≤100
theorem Zpe{k x:Str}{v:D}{xs:List Str}{vs:List D}(h:x∈(putA xs vs k v).1):x=k∨x∈xs:=by
 unfold putA at h
 split at h
 ·exact .inr h
 ·rcases List.mem_append.mp h with h|h
  ·exact .inr h
  ·exact .inl (List.mem_singleton.mp h)
theorem Own.put{xs:List Str}{vs:List D}(h:Own xs vs){k s:Str}(hk:k∈F5)(hs:s.length≤100):Own (putA xs vs k (.str s)).1 (putA xs vs k (.str s)).2:=
 ⟨h.dic.put k _,Nat.le_of_eq (h.dic.put k _).len.symm,fun x hx=>(Zpe hx).elim (fun e=>e▸hk) (h.key x),fun v hv=>(Zm9 k _ xs vs v hv).elim (fun e=>⟨s,e,hs⟩) (h.str v)⟩
theorem Znh:∀{l U:List Str},l.Nodup→(∀x∈l,x∈U)→l.length≤U.length
 | [],_,_,_=>Nat.zero_le _
 |a::l,U,nd,h=>by
  obtain⟨n1,n2⟩:=List.nodup_cons.mp nd
  have ha:=h a List.mem_cons_self
  have ih:=Znh (U:=U.erase a) n2 fun x hx=>(List.mem_erase_of_ne (show x≠a from fun z=>n1 (by rw[←z];exact hx))).mpr (h x (List.mem_cons_of_mem _ hx))
  have h1:=List.length_erase_of_mem ha
  have h2:=List.length_pos_of_mem ha
  rw[List.length_cons];omega
theorem Own.few{xs:List Str}{vs:List D}(h:Own xs vs):vs.length≤5:=by
 have:xs.length≤F5.length:=Znh h.dic.nd h.key
 have e:F5.length=5:=rfl
 have:=h.len
 omega
theorem f_ne:TI≠IN∧YR≠IN∧HN≠IN∧NT≠IN:=by decide+kernel
theorem Zik(a0 a1 a2 a3 a4:Option SV)(ms:List D){xs:List Str}{vs:List D}(ho:Own xs vs)(c x:Int)(hx:L2.atI ms c=some (.int x))(f:Str)(ts:List Str)(n:Int)(hn:(ts.length:Int)=n)(n0:0<n)(n1:n<100)(hf:f∈F5)(hts:∀t∈ts,t.length≤100)(hfi:f≠IN):
  ∃xs' vs',Own xs' vs'∧look xs' vs' IN=look xs vs IN∧ifS (Zy (binF gtD (binF modD (binF ixX (Za 5) (Zb (.int c))) (Zb (.int 3))) (Zb (.int 0)))) (putF 6 (Zb (.str f)) (binF ixX (lstF (Zbd ts (Zl))) (binF modD (binF Zd9 (binF ixX (Za 5) (Zb (.int c))) (Zb (.int 3))) (Zb (.int n))))) (Zbc) [a0,a1,a2,a3,a4,some (.ol ms),some (.oK (inrs xs) vs)]=some (.nx [a0,a1,a2,a3,a4,some (.ol ms),some (.oK (inrs xs') vs')]):=by
 have few:=ho.few
 have zv:vs.length<PySem.sizeLine:=Zat (by omega)
 by_cases hv:0<x % 3
 ·obtain⟨d,hd,e⟩:=Zjm (ts.map D.str) (x / 3) n (by rw[List.length_map];exact hn) n0
  obtain⟨s,hs,rfl⟩:=List.mem_map.mp hd
  have zt:ts.length≤PySem.sizeLine:=Zaf (by omega)
  have n2:n<1073741824:=by omega
  have n3:¬n=0:=by omega
  refine⟨(putA xs vs f (.str s)).1,(putA xs vs f (.str s)).2,ho.put hf (hts s hs),by rw[Zf1 f IN _ xs vs ho.dic.len,if_neg hfi],?_⟩
  have pi:=Zc6 f (.str s) xs vs
  simp[-putA,hx,hv,e,zt,n0,n2,n3,zv,pi]
 ·refine⟨xs,vs,ho,rfl,?_⟩
  simp[hx,hv]
theorem Zpf(a0 a1 a2 a3 a4:Option SV)(ms:List D){xs:List Str}{vs:List D}(ho:Own xs vs)(x:Int)(hx:L2.atI ms 5=some (.int x)):
  ∃xs' vs',Own xs' vs'∧look xs' vs' IN=look xs vs IN∧ifS (Zy (binF eqY (binF modD (binF Zd9 (binF ixX (Za 5) (Zb (.int 5))) (Zb (.int 2))) (Zb (.int 3))) (Zb (.int 0)))) (putF 6 (Zb (.str "note")) (binF ixX (lstF (Zbd ["","so"] (Zl))) (binF modD (binF Zd9 (binF ixX (Za 5) (Zb (.int 5))) (Zb (.int 6))) (Zb (.int 2))))) (Zbc) [a0,a1,a2,a3,a4,some (.ol ms),some (.oK (inrs xs) vs)]=some (.nx [a0,a1,a2,a3,a4,some (.ol ms),some (.oK (inrs xs') vs')]):=by
 have few:=ho.few
 have zv:vs.length<PySem.sizeLine:=Zat (by omega)
 have hnt:Str.ofString "note"=NT:=rfl
 by_cases hv:x / 2 % 3=0
 ·obtain⟨d,hd,e⟩:=Zjm [D.str (Str.ofString ""),D.str (Str.ofString "so")] (x / 6) 2 rfl (by decide)
  obtain⟨s,hs,rfl⟩:∃s:Str,s.length≤100∧d= .str s:=by
   rcases List.mem_cons.mp hd with h|h
   ·exact⟨_,by decide+kernel,h⟩
   ·exact⟨_,by decide+kernel,List.mem_singleton.mp h⟩
  have z2:2≤PySem.sizeLine:=Zaf (by decide)
  refine⟨(putA xs vs NT (.str s)).1,(putA xs vs NT (.str s)).2,ho.put (by simp) hs,by rw[Zf1 NT IN _ xs vs ho.dic.len,if_neg f_ne.2.2.2],?_⟩
  have pi:=Zc6 NT (.str s) xs vs
  simp[-putA,hx,hv,e,z2,zv,pi,hnt]
 ·refine⟨xs,vs,ho,rfl,?_⟩
  simp[hx,hv]
theorem Zni{xs:List Str}(nd:xs.Nodup){i j:Nat}{a:Str}(hi:xs[i]? =some a)(hj:xs[j]? =some a):i=j:=by
 obtain⟨h1,e1⟩:=List.getElem?_eq_some_iff.mp hi
 obtain⟨h2,e2⟩:=List.getElem?_eq_some_iff.mp hj
 have p:=List.pairwise_iff_getElem.mp nd
 rcases Nat.lt_trichotomy i j with h|h|h
 ·exact absurd (e1.trans e2.symm) (p i j h1 h2 h)
 ·exact h
 ·exact absurd (e2.trans e1.symm) (p j i h2 h1 h)
noncomputable abbrev WK:=Str×List Str×List D
noncomputable abbrev Zav(w:WK):D:=.tup [.str w.1,.dK (inrs w.2.1) w.2.2]
structure Work(keys:List Str)(i:Nat)(w:WK):Prop where
 own:Own w.2.1 w.2.2
 inn:look w.2.1 w.2.2 IN=none∨∃j b,i<j∧keys[j]? =some b∧look w.2.1 w.2.2 IN=some (.str b)
structure Shelf(keys:List Str)(ws:List WK):Prop where
 nd:keys.Nodup
 len:ws.length=keys.length
 most:keys.length≤20
 k8:∀k∈keys,k.length≤8
 wk:∀(i:Nat) (w:WK),ws[i]? =some w→Work keys i w
noncomputable abbrev Zr(keys:List Str)(ws:List WK):D:=.dK (inrs keys) (ws.map Zav)
theorem own0:Own [] []:=⟨Dic.nil,Nat.le_refl _,(fun x hx=>nomatch hx),(fun v hv=>nomatch hv)⟩
theorem in0:look ([]:List Str) ([]:List D) IN=none:=rfl
theorem Znj(keys:List Str)(hk8:∀k∈keys,k.length≤8)(hkl:keys.length≤20)(a1:Option SV)(ks:List Str)(ws:List D)(i:Nat)(key:Str)(hkey:keys[i]? =some key)(hws:ws.length≤100)(c:Int)(x5 x6:Option SV):
  ∃w y5 y6,Work keys i w∧Gen.Zaq [some (.fz (.lst (keys.map D.str))),a1,some (.oK (inrs ks) ws),some (.fz (.int (i:Int))),some (.fz (.int c)),x5,x6]=some (.nx [some (.fz (.lst (keys.map D.str))),a1,some (.oK (inrs (putA ks ws key (Zav w)).1) (putA ks ws key (Zav w)).2),some (.fz (.int (i:Int))),some (.fz (.int c)),y5,y6]):=by
 obtain⟨ms,em,_,ml⟩:=Zcf c 6 (by decide)
 have i6:((6:Nat):Int)=6:=rfl
 rw[i6]at em
 have hil:=(List.getElem?_eq_some_iff.mp hkey).1
 have at6:∀k:Nat,k<6→∃x,L2.atI (ms.map D.int) (k:Int)=some (.int x):=fun k hk=>⟨ms[k],Zb6 _ _ _ (by rw[List.getElem?_map,List.getElem?_eq_getElem (by omega)];rfl)⟩
 obtain⟨m0,h0⟩:=at6 0 (by decide)
 obtain⟨m1,h1⟩:=at6 1 (by decide)
 obtain⟨m2,h2⟩:=at6 2 (by decide)
 obtain⟨m3,h3⟩:=at6 3 (by decide)
 obtain⟨m4,h4⟩:=at6 4 (by decide)
 obtain⟨m5,h5⟩:=at6 5 (by decide)
 have c0:((0:Nat):Int)=0:=rfl
 have c1:((1:Nat):Int)=1:=rfl
 have c2:((2:Nat):Int)=2:=rfl
 have c3:((3:Nat):Int)=3:=rfl
 have c4:((4:Nat):Int)=4:=rfl
 have c5:((5:Nat):Int)=5:=rfl
 rw[c0]at h0;rw[c1]at h1;rw[c2]at h2;rw[c3]at h3;rw[c4]at h4;rw[c5]at h5
 obtain⟨n1,n2,n3,n4⟩:=f_ne
 generalize ms.map D.int=MS at*
 have l100:∀ts:List Str,ts.all (fun t=>decide (t.length≤100))=true→∀t∈ts,t.length≤100:=fun ts h t ht=>of_decide_eq_true (List.all_eq_true.mp h t ht)
 obtain⟨xs1,vs1,o1,k1,e1⟩:=Zik (some (.fz (.lst (keys.map D.str)))) a1 (some (.oK (inrs ks) ws)) (some (.fz (.int (i:Int)))) (some (.fz (.int c))) MS own0 0 m0 h0 TI ["So","so","It","10","9"] 5 rfl (by decide) (by decide) (by simp) (l100 _ (by decide+kernel)) n1
 obtain⟨xs2,vs2,o2,k2,e2⟩:=Zik (some (.fz (.lst (keys.map D.str)))) a1 (some (.oK (inrs ks) ws)) (some (.fz (.int (i:Int)))) (some (.fz (.int c))) MS o1 1 m1 h1 YR ["2001","1999","2001 b"] 3 rfl (by decide) (by decide) (by simp) (l100 _ (by decide+kernel)) n2
 obtain⟨xs0,vs0,o0,k0,e0⟩:=Zik (some (.fz (.lst (keys.map D.str)))) a1 (some (.oK (inrs ks) ws)) (some (.fz (.int (i:Int)))) (some (.fz (.int c))) MS o2 2 m2 h2 HN HT 3 rfl (by decide) (by decide) (by simp) (l100 _ (by decide+kernel)) n3
 obtain⟨xs3,vs3,o3,k3,e3⟩:=Zpf (some (.fz (.lst (keys.map D.str)))) a1 (some (.oK (inrs ks) ws)) (some (.fz (.int (i:Int)))) (some (.fz (.int c))) MS o0 m5 h5
 have hl3:look xs3 vs3 IN=none:=k3.trans (k0.trans (k2.trans (k1.trans in0)))
 have few3:=o3.few
 have zv3:vs3.length<PySem.sizeLine:=Zat (by omega)
 have zw:ws.length<PySem.sizeLine:=Zat (by omega)
 obtain⟨dk,hdk,ek⟩:=Zjm [D.str (Str.ofString "part"),D.str (Str.ofString "book")] m5 2 rfl (by decide)
 obtain⟨kind,rfl⟩:∃kind,dk= .str kind:=by
  rcases List.mem_cons.mp hdk with h|h
  ·exact⟨_,h⟩
  ·exact⟨_,List.mem_singleton.mp h⟩
 have ki:L2.atI (keys.map D.str) (i:Int)=some (.str key):=Zb6 _ _ _ (by rw[List.getElem?_map,hkey];rfl)
 have z2:2≤PySem.sizeLine:=Zaf (by decide)
 have pw:=fun d=>Zc6 key d ks ws
 have hin:Str.ofString "in"=IN:=rfl
 have fin:∀(xs:List Str) (vs:List D),putF 2 (binF ixX (Za 0) (Za 3)) (tupF (Zi (binF ixX (lstF (Zbd ["part","book"] (Zl))) (binF modD (binF ixX (Za 5) (Zb (.int 5))) (Zb (.int 2)))) (Zi (Za 6) (Zl)))) [some (.fz (.lst (keys.map D.str))),a1,some (.oK (inrs ks) ws),some (.fz (.int (i:Int))),some (.fz (.int c)),some (.ol MS),some (.oK (inrs xs) vs)]=some (.nx [some (.fz (.lst (keys.map D.str))),a1,some (.oK (inrs (putA ks ws key (.tup [.str kind,.dK (inrs xs) vs])).1) (putA ks ws key (.tup [.str kind,.dK (inrs xs) vs])).2),some (.fz (.int (i:Int))),some (.fz (.int c)),some (.ol MS),some (.fz (.dK (inrs xs) vs))]):=fun xs vs=>by
  generalize keys.map D.str=KK at*
  generalize inrs xs=XS at*
  simp[-putA,ki,h5,ek,z2,zw,pw]
 have st:∀(xs':List Str) (vs':List D) (P:Prop),ifS (andF (Zy (binF eqY (binF modD (binF ixX (Za 5) (Zb (.int 3))) (Zb (.int 2))) (Zb (.int 0)))) (Zy (binF ltD (binF addD (Za 3) (Zb (.int 1))) (Zay lenD (Zc (Za 0) Zk))))) (putF 6 (Zb (.str "in")) (binF ixX (Za 0) (binF addD (binF addD (Za 3) (Zb (.int 1))) (binF modD (binF ixX (Za 5) (Zb (.int 4))) (binF subD (binF subD (Zay lenD (Zc (Za 0) Zk)) (Za 3)) (Zb (.int 1))))))) (Zbc) [some (.fz (.lst (keys.map D.str))),a1,some (.oK (inrs ks) ws),some (.fz (.int (i:Int))),some (.fz (.int c)),some (.ol MS),some (.oK (inrs xs3) vs3)]=some (.nx [some (.fz (.lst (keys.map D.str))),a1,some (.oK (inrs ks) ws),some (.fz (.int (i:Int))),some (.fz (.int c)),some (.ol MS),some (.oK (inrs xs') vs')])→Work keys i (kind,xs',vs')→∃w y5 y6,Work keys i w∧Gen.Zaq [some (.fz (.lst (keys.map D.str))),a1,some (.oK (inrs ks) ws),some (.fz (.int (i:Int))),some (.fz (.int c)),x5,x6]=some (.nx [some (.fz (.lst (keys.map D.str))),a1,some (.oK (inrs (putA ks ws key (Zav w)).1) (putA ks ws key (Zav w)).2),some (.fz (.int (i:Int))),some (.fz (.int c)),y5,y6]):=fun xs' vs' _ e4 hw=>by
  refine⟨(kind,xs',vs'),some (.ol MS),some (.fz (.dK (inrs xs') vs')),hw,?_⟩
  unfold Gen.Zaq
  refine Zej (δ1:=[some (.fz (.lst (keys.map D.str))),a1,some (.oK (inrs ks) ws),some (.fz (.int (i:Int))),some (.fz (.int c)),some (.ol MS),x6]) (by simp[em]) ?_
  refine Zej (δ1:=[some (.fz (.lst (keys.map D.str))),a1,some (.oK (inrs ks) ws),some (.fz (.int (i:Int))),some (.fz (.int c)),some (.ol MS),some (.oK (inrs []) [])]) (by simp[inrs]) ?_
  exact Zej e1 (Zej e2 (Zej e0 (Zej e3 (Zej e4 (fin xs' vs')))))
 by_cases hc:m3 % 2=0∧i+1<keys.length
 ·obtain⟨hc1,hc2⟩:=hc
  have d0:0<(keys.length:Int)- (i:Int)- 1:=by omega
  have d1:(keys.length:Int)- (i:Int)- 1<1073741824:=by omega
  have d2:¬(keys.length:Int)- (i:Int)- 1=0:=by omega
  have d3:1<(keys.length:Int)- (i:Int):=by omega
  have q0:0≤m4 % ((keys.length:Int)- (i:Int)- 1):=Int.emod_nonneg _ (by omega)
  have q1:m4 % ((keys.length:Int)- (i:Int)- 1)<(keys.length:Int)- (i:Int)- 1:=Int.emod_lt_of_pos _ d0
  obtain⟨j,hj⟩:∃j:Nat,(i:Int)+1+m4 % ((keys.length:Int)- (i:Int)- 1)=(j:Int):=⟨((i:Int)+1+m4 % ((keys.length:Int)- (i:Int)- 1)).toNat,by omega⟩
  have hjl:j<keys.length:=by omega
  have hb:keys[j]? =some keys[j]:=List.getElem?_eq_getElem hjl
  have kb:L2.atI (keys.map D.str) (j:Int)=some (.str keys[j]):=Zb6 _ _ _ (by rw[List.getElem?_map,hb];rfl)
  have b8:=hk8 _ (List.getElem_mem hjl)
  generalize keys[j]=b at*
  have po:=Zc6 IN (.str b) xs3 vs3
  refine st (putA xs3 vs3 IN (.str b)).1 (putA xs3 vs3 IN (.str b)).2 True ?_ ⟨o3.put (by simp) (by omega),.inr ⟨j,b,by omega,hb,by rw[Zf1 IN IN _ xs3 vs3 o3.dic.len,if_pos rfl]⟩⟩
  have hc3:(i:Int)+1<(keys.length:Int):=by omega
  have kl:(keys.map D.str).length=keys.length:=List.length_map ..
  generalize keys.map D.str=KK at*
  simp[-putA,h3,h4,hc1,hc2,hc3,kl,d0,d1,d2,d3,hj,kb,hin,zv3,po]
 ·refine st xs3 vs3 True ?_ ⟨o3,.inl hl3⟩
  have kl:(keys.map D.str).length=keys.length:=List.length_map ..
  generalize keys.map D.str=KK at*
  by_cases hc1:m3 % 2=0
  ·have hc2:¬i+1<keys.length:=fun z=>hc ⟨hc1,z⟩
   have hc3:¬(i:Int)+1<(keys.length:Int):=by omega
   simp[h3,hc1,hc2,hc3,kl]
  ·simp[h3,hc1,kl]
theorem Zfa(keys:List Str)(hk8:∀k∈keys,k.length≤8)(hkl:keys.length≤20)(nd:keys.Nodup)(a1:Option SV):∀(cs:List Int) (i:Nat) (ws:List WK) (x3 x4 x5 x6:Option SV),i+cs.length=keys.length→ws.length=i→(∀(j:Nat) (w:WK),ws[j]? =some w→Work keys j w)→
  ∃(ws':List WK) (δ:DSt),forD (Zhz 2 (Zcz (Zq 3) (Zcz (Zq 4) (Zj1)))) Gen.Zaq (Zm7 i (cs.map D.int)) [some (.fz (.lst (keys.map D.str))),a1,some (.oK (inrs (keys.take i)) (ws.map Zav)),x3,x4,x5,x6]=some (.nx δ)∧δ[2]? =some (some (.oK (inrs keys) (ws'.map Zav)))∧ws'.length=keys.length∧∀(j:Nat) (w:WK),ws'[j]? =some w→Work keys j w
 | [],i,ws,x3,x4,x5,x6,h,hw,hW=>by
  refine⟨ws,_,rfl,?_,by simpa[hw]using h,hW⟩
  rw[List.take_of_length_le (by simp at h;omega)];rfl
 |c::cs,i,ws,x3,x4,x5,x6,h,hw,hW=>by
  rw[List.length_cons]at h
  have hi:i<keys.length:=by omega
  have hk:keys[i]? =some keys[i]:=List.getElem?_eq_getElem hi
  have hnew:keys[i]∉keys.take i:=fun hm=>by
   obtain⟨j,hj⟩:=List.getElem?_of_mem hm
   have hji:j<i:=by
    have:=(List.getElem?_eq_some_iff.mp hj).1
    rw[List.length_take]at this;omega
   rw[List.getElem?_take_of_lt hji]at hj
   have:=Zni nd hj hk
   omega
  obtain⟨w,y5,y6,wk,e⟩:=Znj keys hk8 hkl a1 (keys.take i) (ws.map Zav) i keys[i] hk (by rw[List.length_map];omega) c x5 x6
  rw[Zjn hnew]at e
  have e1:keys.take i++[keys[i]]=keys.take (i+1):=by rw[List.take_succ,hk];rfl
  have e2:ws.map Zav++[Zav w]=(ws++[w]).map Zav:=by rw[List.map_append];rfl
  dsimp only at e
  rw[e1,e2]at e
  obtain⟨ws',δ,g1,g2,g3,g4⟩:=Zfa keys hk8 hkl nd a1 cs (i+1) (ws++[w]) (some (.fz (.int (i:Int)))) (some (.fz (.int c))) y5 y6 (by omega) (by rw[List.length_append,List.length_singleton];omega) (fun j u hj=>by
   by_cases hjl:j<ws.length
   ·rw[List.getElem?_append_left hjl]at hj;exact hW j u hj
   ·have hjl':=(List.getElem?_eq_some_iff.mp hj).1
    rw[List.length_append,List.length_singleton]at hjl'
    have hje:j=i:=by omega
    subst hje
    rw[List.getElem?_append_right (by omega),show j- ws.length=0 by omega]at hj
    cases hj
    exact wk)
  refine⟨ws',δ,?_,g2,g3,g4⟩
  rw[List.map_cons]
  exact(Zbu (d:=.tup [.int (i:Int),.int c]) (ds:=Zm7 (i+1) (cs.map D.int)) (by simp) e).trans g1
theorem Zpg(keys:List Str)(hk8:∀k∈keys,k.length≤8)(hkl:keys.length≤20)(nd:keys.Nodup)(cs:List Int)(hc:cs.length=keys.length):∃ws,Shelf keys ws∧Gen.Zau [.lst (keys.map D.str),.lst (cs.map D.int)]=some (.oK (inrs keys) (ws.map Zav)):=by
 obtain⟨ws,δ,e,h1,h2,h3⟩:=Zfa keys hk8 hkl nd (some (.fz (.lst (cs.map D.int)))) cs 0 [] none none none none (by omega) rfl (fun j w h=>by simp at h)
 refine⟨ws,⟨nd,h2,hkl,hk8,h3⟩,?_⟩
 rw[List.take_zero]at e
 rw[show inrs []=([]:List L2.Key)from rfl,List.map_nil]at e
 unfold Gen.Zau Gen.Zcq
 simp[-forD,Zsz,e,h1]
theorem Zph{keys:List Str}{ws:List WK}(Sh:Shelf keys ws)(n:Nat):eqM (n+5) (Zr keys ws) (Zr keys ws)=some true:=by
 refine Zqm (n+4) ⟨Sh.nd,by rw[List.length_map];exact Sh.len.symm⟩ fun v hv=>?_
 obtain⟨w,hw,rfl⟩:=List.mem_map.mp hv
 obtain⟨i,hi⟩:=List.getElem?_of_mem hw
 have W:=Sh.wk i w hi
 refine Zs1 (n+3) _ fun d hd=>?_
 rcases List.mem_cons.mp hd with h|hd
 ·rw[h];exact Zid (n+2) _
 ·rw[List.mem_singleton.mp hd]
  refine Zqm (n+2) W.own.dic fun u hu=>?_
  obtain⟨s,rfl,_⟩:=W.own.str u hu
  exact Zid (n+1) s
end My
namespace My
open DL PySem
noncomputable abbrev Zad(p:Str×Str):D:=.tup [.str p.1,.str p.2]
noncomputable abbrev TB:=List (Str×List (Str×Str))
noncomputable abbrev tkS(T:TB):List L2.Key:=T.map fun q=>.inr q.1
noncomputable abbrev Z6(T:TB):D:=.dK (tkS T) (T.map fun q=>.lst (q.2.map Zad))
noncomputable def other(ps:List (Str×Str))(f:Str):Option Str:=(ps.find? fun p=>decide (p.1=f)).map (·.2)
noncomputable def tabO(T:TB)(kind:Str):Option (List (Str×Str)):=(T.find? fun q=>decide (q.1=kind)).map (·.2)
noncomputable def Zil(T:TB)(kind:Str):List (Str×Str):=(tabO T kind).getD []
theorem Zjq(kind:Str):∀T:TB,look (tkS T) (T.map fun q=>D.lst (q.2.map Zad)) (Sum.inr kind)=(tabO T kind).map fun ps=>.lst (ps.map Zad)
 | []=>rfl
 |q::T=>by
  have ih:=Zjq kind T
  unfold tabO at ih⊢
  rw[List.find?_cons]
  show(if(Sum.inr q.1:L2.Key)=Sum.inr kind then _ else look (tkS T) (T.map fun q=>D.lst (q.2.map Zad)) (Sum.inr kind))=_
  by_cases h:q.1=kind
  ·rw[if_pos (by rw[h]),decide_eq_true h];rfl
  ·rw[if_neg (fun z=>h (Sum.inr.inj z)),decide_eq_false h];exact ih
noncomputable def wkO(k:Str):List Str→List WK→Option WK
 |x::xs,w::ws=>if x=k then some w else wkO k xs ws
 |_,_=>none
theorem Zek(k:Str):∀(keys:List Str) (ws:List WK),look (inrs keys) (ws.map Zav) (Sum.inr k)=(wkO k keys ws).map Zav
 | [],_=>rfl
 |_::_,[]=>rfl
 |x::xs,w::ws=>by
  have ih:=Zek k xs ws
  show(if(Sum.inr x:L2.Key)=Sum.inr k then _ else look (inrs xs) (ws.map Zav) (Sum.inr k))=_
  unfold wkO
  by_cases h:x=k
  ·rw[if_pos (by rw[h]),if_pos h];rfl
  ·rw[if_neg (fun z=>h (Sum.inr.inj z)),if_neg h];exact ih
theorem Zwy{k:Str}:∀{keys:List Str} {ws:List WK} {i:Nat},keys.Nodup→ws.length=keys.length→keys[i]? =some k→∃w,ws[i]? =some w∧wkO k keys ws=some w
 | [],_,_,_,_,h=>by simp at h
 |_::_,[],_,_,e,_=>by simp at e
 |x::xs,w::ws,0,nd,e,h=>by
  have h:x=k:=by simpa using h
  unfold wkO
  rw[if_pos h]
  exact⟨w,rfl,rfl⟩
 |x::xs,w::ws,i+1,nd,e,h=>by
  have h:xs[i]? =some k:=by simpa using h
  have hx:x≠k:=fun z=>(List.nodup_cons.mp nd).1 (by rw[z];exact List.mem_of_getElem? h)
  obtain⟨w',h1,h2⟩:=Zwy (List.nodup_cons.mp nd).2 (by simpa using e) h
  unfold wkO
  rw[if_neg hx]
  exact⟨w',by simpa using h1,h2⟩
theorem Shelf.at{keys:List Str}{ws:List WK}(Sh:Shelf keys ws){i:Nat}{k:Str}(h:keys[i]? =some k):∃w,wkO k keys ws=some w∧Work keys i w:=by
 obtain⟨w,h1,h2⟩:=Zwy Sh.nd Sh.len h
 exact⟨w,h2,Sh.wk i w h1⟩
noncomputable def stp(T:TB)(f:Str)(w:WK):Option (Str×Str):=
 if(look w.2.1 w.2.2 f).isSome=true then none else(other (Zil T w.1) f).bind fun o=>match look w.2.1 w.2.2 IN with
  |some (.str b)=>some (b,o)
  |_=>none
noncomputable def nx(keys:List Str)(ws:List WK)(T:TB)(p:Str×Str):Option (Str×Str):=(wkO p.1 keys ws).bind (stp T p.2)
noncomputable def ptD:Option (Str×Str)→D
 |none=>.non
 |some p=>Zad p
noncomputable def oD:Option Str→D
 |none=>.non
 |some o=>.str o
theorem Zfb(a0 a1:Option SV)(f:Str):∀(ps:List (Str×Str)) (x3:Option SV),
  match other ps f with
  |some o=>forD (Zq 3) Gen.Z3 (ps.map Zad) [a0,a1,some (.fz (.str f)),x3]=some (.rt (.fz (.str o)))
  |none=>∃δ,forD (Zq 3) Gen.Z3 (ps.map Zad) [a0,a1,some (.fz (.str f)),x3]=some (.nx δ)
 | [],x3=>⟨_,rfl⟩
 |p::ps,x3=>by
  have run:(Zq 3).run (Zad p) [a0,a1,some (.fz (.str f)),x3]=some [a0,a1,some (.fz (.str f)),some (.fz (Zad p))]:=by simp
  rw[List.map_cons]
  unfold other
  rw[List.find?_cons]
  by_cases h:p.1=f
  ·rw[decide_eq_true h]
   dsimp only
   refine Zm6 run ?_
   unfold Gen.Z3
   simp[L2.atI,L2.ixN,h]
  ·rw[decide_eq_false h]
   have hb:Gen.Z3 [a0,a1,some (.fz (.str f)),some (.fz (Zad p))]=some (.nx [a0,a1,some (.fz (.str f)),some (.fz (Zad p))]):=by
    unfold Gen.Z3
    simp[L2.atI,L2.ixN,h]
   have ih:=Zfb a0 a1 f ps (some (.fz (Zad p)))
   unfold other at ih
   dsimp only
   generalize Option.map (fun x=>x.snd) (List.find? (fun p=>decide (p.fst=f)) ps)=o at ih⊢
   cases o with
   |none=>obtain⟨δ,e⟩:=ih;exact⟨δ,(Zbu run hb).trans e⟩
   |some q=>exact(Zbu run hb).trans ih
theorem Zkn(T:TB)(kind f:Str):Gen.Zar [Z6 T,.str kind,.str f]=some (.fz (oD (other (Zil T kind) f))):=by
 have tl:=Zjq kind T
 have l:=Zfb (some (.fz (Z6 T))) (some (.fz (.str kind))) f (Zil T kind) none
 have z0:0≤PySem.sizeLine:=Nat.zero_le _
 unfold Zil at l⊢
 unfold Z6 at l⊢
 unfold Gen.Zar Gen.Zbw
 generalize tkS T=KS at*
 generalize (T.map fun q=>D.lst (q.2.map Zad))=VS at*
 cases ht:tabO T kind with
 |none=>
  rw[ht]at tl l
  simp only[Option.map_none]at tl
  simp only[Option.getD_none]at l⊢
  have eo:other [] f=none:=rfl
  rw[eo]at l⊢
  obtain⟨δ,e⟩:=l
  simp[-look,tl,oD,z0]
 |some ps=>
  rw[ht]at tl l
  simp only[Option.map_some]at tl
  simp only[Option.getD_some]at l⊢
  generalize other ps f=o at l⊢
  generalize ps.map Zad=PS at*
  cases o with
  |none=>
   obtain⟨δ,e⟩:=l
   simp[-forD,-look,tl,e,oD,z0]
  |some o=>simp[-forD,-look,tl,l,oD,z0]
theorem Zko{keys:List Str}{ws:List WK}(Sh:Shelf keys ws)(T:TB){i:Nat}{k f:Str}(hk:keys[i]? =some k):
  Gen.Zas [Zr keys ws,Z6 T,.tup [.str k,.str f]]=some (.fz (ptD (nx keys ws T (k,f)))):=by
 obtain⟨w,hw,W⟩:=Sh.at hk
 have sl:=Zek k keys ws
 rw[hw]at sl
 have of:=Zkn T w.1 f
 have en:nx keys ws T (k,f)=stp T f w:=by unfold nx;rw[show wkO (k,f).1 keys ws=some w from hw];rfl
 rw[en]
 have lf:look (inrs w.2.1) w.2.2 (Sum.inr f)=look w.2.1 w.2.2 f:=Zcd f _ _
 have li:look (inrs w.2.1) w.2.2 (Sum.inr IN)=look w.2.1 w.2.2 IN:=Zcd IN _ _
 have hin:Str.ofString "in"=IN:=rfl
 have z2:2≤PySem.sizeLine:=Zaf (by decide)
 obtain⟨kind,xs,vs⟩:=w
 dsimp only at*
 replace sl:look (inrs keys) (ws.map Zav) (Sum.inr k)=some (.tup [.str kind,.dK (inrs xs) vs]):=sl
 have sy:∀(j:Nat) (b:Str),keys[j]? =some b→∃w',look (inrs keys) (ws.map Zav) (Sum.inr b)=some (Zav w'):=fun j b hb=>by
  obtain⟨w',h1,_⟩:=Sh.at hb
  exact⟨w',by rw[Zek,h1];rfl⟩
 unfold stp
 dsimp only
 generalize Z6 T=TD at of⊢
 generalize other (Zil T kind) f=ot at of⊢
 unfold Zr
 generalize inrs keys=KS at sl sy⊢
 generalize ws.map Zav=WS at sl sy⊢
 generalize inrs xs=XS at sl lf li⊢
 unfold Gen.Zas Gen.Zbx
 cases hlf:look xs vs f with
 |some v=>
  rw[hlf]at lf
  simp[-look,L2.atI,L2.ixN,sl,lf,ptD]
 |none=>
  rw[hlf]at lf
  cases ot with
  |none=>
   simp only[oD]at of
   rcases W.inn with e|⟨j,b,hij,hb,e⟩
   ·rw[e]at li
    simp[-look,L2.atI,L2.ixN,sl,lf,of,hin,li,ptD]
   ·rw[e]at li
    simp[-look,L2.atI,L2.ixN,sl,lf,of,hin,li,ptD]
  |some o=>
   simp only[oD]at of
   rcases W.inn with e|⟨j,b,hij,hb,e⟩
   ·rw[e]at li
    rw[e]
    simp[-look,L2.atI,L2.ixN,sl,lf,of,hin,li,ptD]
   ·rw[e]at li
    rw[e]
    obtain⟨w',s0⟩:=sy j b hb
    simp[-look,L2.atI,L2.ixN,sl,lf,of,hin,li,s0,ptD,z2]
noncomputable abbrev PR:=Str×Str
noncomputable def plc(done:List PR)(p:PR):Nat:=done.findIdx fun x=>decide (x=p)
noncomputable def run(f:PR→Option PR):Nat→List PR→PR→Option (List PR×Option PR)
 |0,_,_=>none
 |n+1,done,p=>if p∈done then some (done,some p)else match f p with
  |none=>some (done++[p],none)
  |some q=>run f n (done++[p]) q
noncomputable abbrev kf(p:PR):List L2.Key:=[.inr p.1,.inr p.2]
theorem Zqo{a b:PR}(h:kf a=kf b):a=b:=by
 simp only[List.cons.injEq,and_true]at h
 exact Prod.ext (Sum.inr.inj h.1) (Sum.inr.inj h.2)
noncomputable def Zch:Nat→Nat→List D
 |_,0=>[]
 |s,n+1=>.int (s:Int)::Zch (s+1) n
theorem Zhn:∀(n s:Nat),(Zch s n).length=n
 |0,_=>rfl
 |n+1,s=>by show(Zch (s+1) n).length+1=_;rw[Zhn n]
theorem Zfc:∀(n s:Nat),Zch s n++[.int ((s+n:Nat):Int)]=Zch s (n+1)
 |0,s=>rfl
 |n+1,s=>by
  show D.int (s:Int)::(Zch (s+1) n++[.int ((s+(n+1):Nat):Int)])=D.int (s:Int)::Zch (s+1) (n+1)
  rw[←Zfc n (s+1),show s+(n+1)=s+1+n by omega]
theorem Znk(p:PR):∀(done:List PR) (s:Nat),look (done.map kf) (Zch s done.length) (kf p)=if p∈done then some (.int ((s+plc done p:Nat):Int))else none
 | [],s=>by simp
 |a::done,s=>by
  have ih:=Znk p done (s+1)
  show(if kf a=kf p then some (D.int (s:Int))else look (done.map kf) (Zch (s+1) done.length) (kf p))=_
  unfold plc
  rw[List.findIdx_cons]
  by_cases h:a=p
  ·subst h;simp
  ·rw[if_neg (fun z=>h (Zqo z)),ih,decide_eq_false h]
   have h':¬p=a:=fun z=>h z.symm
   by_cases hm:p∈done
   ·rw[if_pos hm,if_pos (List.mem_cons_of_mem _ hm)]
    simp only[cond_false]
    unfold plc
    congr 3;omega
   ·rw[if_neg hm,if_neg (by simp[h',hm])]
theorem Zwz{p:PR}{done:List PR}(h:p∉done)(vs:List D)(v:D):putA (done.map kf) vs (kf p) v=((done++[p]).map kf,vs++[v]):=by
 have hm:kf p∉done.map kf:=fun z=>by
  obtain⟨a,ha,e⟩:=List.mem_map.mp z
  exact h (by rw[←Zqo e];exact ha)
 unfold putA
 simp[hm]
theorem Znl{α β:Type}(g:α→β)(l:List α):(l.map g).length=l.length:=List.length_map ..
section
variable{keys:List Str}{ws:List WK}(Sh:Shelf keys ws){T:TB}
noncomputable abbrev stW(keys:List Str)(ws:List WK)(T:TB)(a2 a3:Option SV)(done:List PR)(cur:D):DSt:=[some (.fz (Zr keys ws)),some (.fz (Z6 T)),a2,a3,some (.ol (done.map Zad)),some (.oT (done.map kf) (Zch 0 done.length)),some (.fz cur)]
include Sh in
theorem Zs8(a2 a3:Option SV){i:Nat}{done:List PR}{p:PR}(hp:keys[i]? =some p.1)(hm:p∉done)(hl:done.length≤1000):
  Gen.Zf4 (stW keys ws T a2 a3 done (Zad p))=some (.nx (stW keys ws T a2 a3 (done++[p]) (ptD (nx keys ws T p)))):=by
 have pb:=Zko Sh T (f:=p.2) hp
 have lk:=Znk p done 0
 rw[if_neg hm]at lk
 have pk:=Zwz hm (Zch 0 done.length) (.int (done.length:Int))
 have is:=Zfc done.length 0
 rw[Nat.zero_add]at is
 rw[is]at pk
 have zv:(Zch 0 done.length).length<PySem.sizeLine:=Zat (by rw[Zhn];omega)
 have zd:(done.map Zad).length<PySem.sizeLine:=Zat (by rw[Znl];omega)
 have hdl:(done.map Zad).length=done.length:=Znl _ _
 have zd0:done.length<PySem.sizeLine:=Zat (by omega)
 have e1:(done++[p]).map Zad=done.map Zad++[Zad p]:=by rw[List.map_append];rfl
 have e2:Zch 0 (done++[p]).length=Zch 0 (done.length+1):=by rw[List.length_append];rfl
 unfold stW
 rw[e1,e2]
 obtain⟨k,f⟩:=p
 have en:nx keys ws T (k,f)=nx keys ws T ((k,f).1,(k,f).2):=rfl
 dsimp only at pb lk pk⊢
 generalize nx keys ws T (k,f)=q at pb⊢
 generalize Zr keys ws=SD at pb⊢
 generalize Z6 T=TD at pb⊢
 generalize done.map Zad=DM at*
 generalize done.map kf=DK at*
 generalize (done++[(k,f)]).map kf=DK2 at*
 generalize Zch 0 done.length=VS at*
 unfold Gen.Zf4
 cases q with
 |none=>
  simp only[ptD]at pb
  simp[-look,-putA,lk,pk,zv,zd,hdl,zd0,pb,ptD]
 |some q=>
  obtain⟨j,o⟩:=q
  simp only[ptD]at pb
  simp[-look,-putA,lk,pk,zv,zd,hdl,zd0,pb,ptD]
theorem Zpi(a2 a3:Option SV)(done:List PR)(p:PR):Gen.Zdk (stW keys ws T a2 a3 done (Zad p))=some (true,stW keys ws T a2 a3 done (Zad p)):=by
 unfold Gen.Zdk stW
 simp
theorem Zpj(a2 a3:Option SV)(done:List PR):Gen.Zdk (stW keys ws T a2 a3 done .non)=some (false,stW keys ws T a2 a3 done .non):=by
 unfold Gen.Zdk stW
 simp
theorem Zim{i:Nat}{p q:PR}(Sh:Shelf keys ws)(hp:keys[i]? =some p.1)(h:nx keys ws T p=some q):∃j,i<j∧keys[j]? =some q.1:=by
 unfold nx at h
 obtain⟨w,hw,h⟩:=Option.bind_eq_some_iff.mp h
 obtain⟨w',h1,W⟩:=Sh.at hp
 rw[hw]at h1;cases h1
 unfold stp at h
 split at h
 ·cases h
 ·obtain⟨o,ho,h⟩:=Option.bind_eq_some_iff.mp h
  rcases W.inn with e|⟨j,b,hij,hb,e⟩
  ·rw[e]at h;cases h
  ·rw[e]at h;cases h
   exact⟨j,hij,hb⟩
include Sh in
theorem Znm:∀(n i:Nat) (done:List PR) (p:PR),keys[i]? =some p.1→(∀d∈done,∃a,a<i∧keys[a]? =some d.1)→keys.length<n+i→∃l q,run (nx keys ws T) n done p=some (l++[q],none)∧∃j:Nat,keys[j]? =some q.1
 |0,i,done,p,hp,_,h=>by have:=(List.getElem?_eq_some_iff.mp hp).1;omega
 |n+1,i,done,p,hp,hd,h=>by
  have hm:p∉done:=fun z=>by
   obtain⟨a,ha,hk⟩:=hd p z
   have:=Zni Sh.nd hk hp
   omega
  unfold run
  rw[if_neg hm]
  cases e:nx keys ws T p with
  |none=>exact⟨done,p,rfl,i,hp⟩
  |some q=>
   obtain⟨j,hij,hq⟩:=Zim Sh hp e
   exact Znm n j (done++[p]) q hq (fun d hd'=>by
    rcases List.mem_append.mp hd' with z|z
    ·obtain⟨a,ha,hk⟩:=hd d z
     exact⟨a,by omega,hk⟩
    ·rw[List.mem_singleton.mp z];exact⟨i,hij,hp⟩) (by omega)
include Sh in
theorem Zho(a2 a3:Option SV):∀(n fuel i:Nat) (done:List PR) (p:PR) (l:List PR),run (nx keys ws T) n done p=some (l,none)→keys[i]? =some p.1→n+2≤fuel→done.length+n≤500→
  ∃δ,Za5 Gen.Zdk Gen.Zf4 fuel (stW keys ws T a2 a3 done (Zad p))=some (.nx δ)∧δ[4]? =some (some (.ol (l.map Zad)))
 |0,_,_,_,_,_,h,_,_,_=>by cases h
 |n+1,0,_,_,_,_,_,_,h,_=>by omega
 |n+1,fuel+1,i,done,p,l,h,hp,hf,hl=>by
  unfold run at h
  by_cases hm:p∈done
  ·rw[if_pos hm]at h;cases h
  ·rw[if_neg hm]at h
   have hs:=Zs8 Sh (T:=T) a2 a3 hp hm (by omega)
   rw[Zhg (Zpi a2 a3 done p) hs]
   cases e:nx keys ws T p with
   |none=>
    rw[e]at h
    cases h
    obtain⟨fuel',rfl⟩:∃m,fuel=m+1:=⟨fuel- 1,by omega⟩
    exact⟨_,Zkj (Zpj a2 a3 _),rfl⟩
   |some q=>
    rw[e]at h
    obtain⟨j,_,hq⟩:=Zim Sh hp e
    exact Zho a2 a3 n fuel j (done++[p]) q l h hq (by omega) (by rw[List.length_append,List.length_singleton];omega)
noncomputable def tx(keys:List Str)(ws:List WK)(p:PR):Option D:=(wkO p.1 keys ws).bind fun w=>look w.2.1 w.2.2 p.2
noncomputable def lst1(l:List PR):PR:=l.getLast?.getD ("","")
theorem Znn(l:List PR)(q:PR):lst1 (l++[q])=q:=by unfold lst1;simp
noncomputable def hd(keys:List Str)(ws:List WK)(T:TB)(p:PR):Option D:=(run (nx keys ws T) 60 [] p).bind fun r=>tx keys ws (lst1 r.1)
include Sh in
theorem Zno{i:Nat}{p:PR}(hp:keys[i]? =some p.1):∃l q,run (nx keys ws T) 60 [] p=some (l++[q],none)∧(∃j:Nat,keys[j]? =some q.1)∧hd keys ws T p=tx keys ws q:=by
 have:=Sh.most
 obtain⟨l,q,h,hq⟩:=Znm Sh (T:=T) 60 i [] p hp (fun _ h=>nomatch h) (by omega)
 refine⟨l,q,h,hq,?_⟩
 unfold hd
 rw[h]
 show tx keys ws (lst1 (l++[q]))=_
 rw[Znn]
include Sh in
theorem Zs9{j:Nat}{q:PR}(hq:keys[j]? =some q.1):∃kind xs vs,look (inrs keys) (ws.map Zav) (Sum.inr q.1)=some (.tup [.str kind,.dK (inrs xs) vs])∧Own xs vs∧tx keys ws q=look xs vs q.2:=by
 obtain⟨w,hw,W⟩:=Sh.at hq
 have sl:=Zek q.1 keys ws
 rw[hw]at sl
 refine⟨w.1,w.2.1,w.2.2,sl,W.own,?_⟩
 unfold tx;rw[hw];rfl
include Sh in
theorem Zw0{i:Nat}{p:PR}(hp:keys[i]? =some p.1){d:D}(h:hd keys ws T p=some d):∃s:Str,d= .str s∧s.length≤100:=by
 obtain⟨l,q,_,⟨j,hq⟩,e⟩:=Zno Sh (T:=T) hp
 obtain⟨kind,xs,vs,_,ow,ht⟩:=Zs9 Sh hq
 rw[e,ht]at h
 exact ow.str d (Zf3 h)
include Sh in
theorem Zw1{i:Nat}{p:PR}(hp:keys[i]? =some p.1){l:List PR}(h:run (nx keys ws T) 60 [] p=some (l,none)):Gen.Znc [Zr keys ws,Z6 T,.str p.1,.str p.2]=some (.ol (l.map Zad)):=by
 obtain⟨δ,e,h4⟩:=Zho Sh (T:=T) (some (.fz (.str p.1))) (some (.fz (.str p.2))) 60 1000 i [] p l h hp (by decide) (by decide)
 have z2:2≤PySem.sizeLine:=Zaf (by decide)
 unfold stW at e
 rw[show([]:List PR).map Zad=[]from rfl,show([]:List PR).map kf=[]from rfl,show Zch 0 ([]:List PR).length=[]from rfl]at e
 generalize Zr keys ws=SD at e⊢
 generalize Z6 T=TD at e⊢
 unfold Gen.Znc Gen.Zs2
 simp[z2,e,h4]
include Sh in
theorem Zw2{i:Nat}{p:PR}(hp:keys[i]? =some p.1):Gen.Zkl [Zr keys ws,Z6 T,.str p.1,.str p.2]=some (.fz ((hd keys ws T p).getD .non)):=by
 obtain⟨l,q,h,⟨j,hq⟩,e⟩:=Zno Sh (T:=T) hp
 have wo:=Zw1 Sh (T:=T) hp h
 obtain⟨kind,xs,vs,sl,ow,ht⟩:=Zs9 Sh hq
 rw[e,ht]
 have al:L2.atI ((l++[q]).map Zad) (-1)=some (Zad q):=by rw[List.map_append];exact Zsx _ _
 have lf:look (inrs xs) vs (Sum.inr q.2)=look xs vs q.2:=Zcd q.2 _ _
 have a0:L2.atI [D.str q.1,.str q.2] 0=some (.str q.1):=rfl
 have a1:L2.atI [D.str q.1,.str q.2] 1=some (.str q.2):=rfl
 have a2:L2.atI [D.str kind,.dK (inrs xs) vs] 1=some (.dK (inrs xs) vs):=rfl
 unfold Zr at wo⊢
 generalize (l++[q]).map Zad=DM at*
 generalize Z6 T=TD at wo⊢
 generalize inrs keys=KS at*
 generalize ws.map Zav=WS at*
 generalize inrs xs=XS at*
 unfold Gen.Zkl Gen.Zs3
 cases hl:look xs vs q.2 with
 |none=>
  rw[hl]at lf
  simp[-look,wo,al,a0,a1,a2,sl,lf]
 |some v=>
  rw[hl]at lf
  obtain⟨s,rfl,_⟩:=ow.str v (Zf3 hl)
  simp[-look,wo,al,a0,a1,a2,sl,lf]
end
end My
namespace My
open DL PySem
noncomputable abbrev T0:TB:=[(KP,[(TI,TI),(YR,YR)])]
noncomputable def tb(f:Str):Option Str:=if f=TI then some TI else if f=YR then some YR else none
theorem Zz4(kind f:Str):other (Zil T0 kind) f=if kind=KP then tb f else none:=by
 unfold Zil tabO
 by_cases h:kind=KP
 ·subst h
  rw[if_pos rfl]
  unfold tb other
  by_cases h1:f=TI
  ·subst h1;simp
  ·by_cases h2:f=YR
   ·subst h2;simp[show¬TI=YR by decide+kernel,h1]
   ·simp[h1,h2,Ne.symm h1,Ne.symm h2]
 ·rw[if_neg h]
  simp[Ne.symm h,other]
theorem Znp{t:FT}{b:FS}{n:Nat}{δ δ1:DSt}{sv:SV}(h1:t δ=some (true,δ1))(h2:b δ1=some (.rt sv)):Za5 t b (n+1) δ=some (.rt sv):=by
 unfold Za5
 rw[h1]
 simp[h2]
section
variable{keys:List Str}{ws:List WK}(Sh:Shelf keys ws)
noncomputable abbrev nx0(keys:List Str)(ws:List WK):PR→Option PR:=nx keys ws T0
include Sh in
theorem Znq{i:Nat}{p:PR}(hp:keys[i]? =some p.1)(x3 x4:Option SV):Gen.Zby [some (.fz (Zr keys ws)),some (.fz (.str p.1)),some (.fz (.str p.2)),x3,x4]=some (true,[some (.fz (Zr keys ws)),some (.fz (.str p.1)),some (.fz (.str p.2)),x3,x4]):=by
 obtain⟨kind,xs,vs,sl,_,_⟩:=Zs9 Sh hp
 unfold Zr
 generalize inrs keys=KS at*
 generalize ws.map Zav=WS at*
 unfold Gen.Zby
 simp[-look,sl]
include Sh in
theorem Zta{i:Nat}{p:PR}(hp:keys[i]? =some p.1)(x3 x4:Option SV):
  (nx0 keys ws p=none→Gen.Za8 [some (.fz (Zr keys ws)),some (.fz (.str p.1)),some (.fz (.str p.2)),x3,x4]=some (.rt (.fz ((tx keys ws p).getD .non))))∧
  (∀q,nx0 keys ws p=some q→∃y3 y4,Gen.Za8 [some (.fz (Zr keys ws)),some (.fz (.str p.1)),some (.fz (.str p.2)),x3,x4]=some (.nx [some (.fz (Zr keys ws)),some (.fz (.str q.1)),some (.fz (.str q.2)),y3,y4])):=by
 obtain⟨w,hw,W⟩:=Sh.at hp
 have sl:=Zek p.1 keys ws
 rw[hw]at sl
 have ht:tx keys ws p=look w.2.1 w.2.2 p.2:=by unfold tx;rw[hw];rfl
 have en:nx0 keys ws p=stp T0 p.2 w:=by unfold nx0 nx;rw[hw];rfl
 rw[en,ht]
 unfold stp
 rw[Zz4]
 have own:=W.own
 have inn:=W.inn
 obtain⟨kind,xs,vs⟩:=w
 obtain⟨k,f⟩:=p
 dsimp only at*
 replace sl:look (inrs keys) (ws.map Zav) (Sum.inr k)=some (.tup [.str kind,.dK (inrs xs) vs]):=sl
 have lf:look (inrs xs) vs (Sum.inr f)=look xs vs f:=Zcd f _ _
 have li:look (inrs xs) vs (Sum.inr IN)=look xs vs IN:=Zcd IN _ _
 have hin:Str.ofString "in"=IN:=rfl
 have hp':Str.ofString "part"=KP:=rfl
 have h1':Str.ofString "title"=TI:=rfl
 have h2':Str.ofString "year"=YR:=rfl
 have z3:2≤PySem.sizeLine:=Zaf (by decide)
 have im:inFl (.str f) [.str TI,.str YR]=decide (f∈[TI,YR]):=Zs0 f [TI,YR]
 unfold Zr
 generalize inrs keys=KS at*
 generalize ws.map Zav=WS at*
 generalize inrs xs=XS at*
 unfold Gen.Za8
 cases hl:look xs vs f with
 |some v=>
  rw[hl]at lf
  obtain⟨s,rfl,_⟩:=own.str v (Zf3 hl)
  exact⟨fun _=>by simp[-look,sl,lf],fun q h=>by simp at h⟩
 |none=>
  rw[hl]at lf
  by_cases hk:kind=KP
  ·subst hk
   rw[if_pos rfl]
   unfold tb
   by_cases h1:f=TI
   ·subst h1
    rcases inn with e|⟨j,b,_,hb,e⟩
    ·rw[e]at li
     exact⟨fun _=>by simp[-look,sl,lf,li,hin,hp',h1',h2',z3,im,e],fun q h=>by simp[e]at h⟩
    ·rw[e]at li
     refine⟨fun h=>by simp[e]at h,fun q h=>?_⟩
     simp[e]at h
     subst h
     refine⟨some (.fz (.str KP)),some (.fz (.dK XS vs)),?_⟩
     simp[-look,sl,lf,li,hin,hp',h1',h2',z3,im]
   ·by_cases h2:f=YR
    ·subst h2
     rcases inn with e|⟨j,b,_,hb,e⟩
     ·rw[e]at li
      exact⟨fun _=>by simp[-look,sl,lf,li,hin,hp',h1',h2',z3,im,e],fun q h=>by simp[h1,e]at h⟩
     ·rw[e]at li
      refine⟨fun h=>by simp[h1,e]at h,fun q h=>?_⟩
      simp[h1,e]at h
      subst h
      refine⟨some (.fz (.str KP)),some (.fz (.dK XS vs)),?_⟩
      simp[-look,sl,lf,li,hin,hp',h1',h2',z3,im]
    ·exact⟨fun _=>by simp[-look,sl,lf,hp',h1',h2',z3,im,h1,h2],fun q h=>by simp[h1,h2]at h⟩
  ·rw[if_neg hk]
   exact⟨fun _=>by simp[-look,sl,lf,hp',hk],fun q h=>by simp at h⟩
include Sh in
theorem Zjr:∀(n fuel i:Nat) (done:List PR) (p:PR) (l:List PR) (q:PR) (x3 x4:Option SV),run (nx0 keys ws) n done p=some (l++[q],none)→keys[i]? =some p.1→n+1≤fuel→
  Za5 Gen.Zby Gen.Za8 fuel [some (.fz (Zr keys ws)),some (.fz (.str p.1)),some (.fz (.str p.2)),x3,x4]=some (.rt (.fz ((tx keys ws q).getD .non)))
 |0,_,_,_,_,_,_,_,_,h,_,_=>by cases h
 |n+1,0,_,_,_,_,_,_,_,_,_,h=>by omega
 |n+1,fuel+1,i,done,p,l,q,x3,x4,h,hp,hf=>by
  obtain⟨s1,s2⟩:=Zta Sh hp x3 x4
  unfold run at h
  by_cases hm:p∈done
  ·rw[if_pos hm]at h;cases h
  ·rw[if_neg hm]at h
   cases e:nx0 keys ws p with
   |none=>
    rw[e]at h
    have h:done++[p]=l++[q]:=by simpa using h
    have hq:p=q:=by
     have:=congrArg List.getLast? h
     simpa using this
    subst hq
    exact Znp (Znq Sh hp x3 x4) (s1 e)
   |some r=>
    rw[e]at h
    obtain⟨y3,y4,hb⟩:=s2 r e
    obtain⟨j,_,hj⟩:=Zim Sh hp e
    rw[Zhg (Znq Sh hp x3 x4) hb]
    exact Zjr n fuel j (done++[p]) r l q y3 y4 h hj (by omega)
noncomputable abbrev hd0(keys:List Str)(ws:List WK)(k f:Str):Option D:=hd keys ws T0 (k,f)
include Sh in
theorem Zqp{i:Nat}{k:Str}(hk:keys[i]? =some k)(f:Str):Gen.Zbp [Zr keys ws,.str k,.str f]=some (.fz ((hd0 keys ws k f).getD .non)):=by
 obtain⟨l,q,h,_,e⟩:=Zno Sh (T:=T0) (p:=(k,f)) hk
 have w:=Zjr Sh 60 1000 i [] (k,f) l q none none h hk (by decide)
 unfold hd0
 rw[e]
 generalize Zr keys ws=SD at*
 generalize tx keys ws q=X at*
 unfold Gen.Zbp Gen.Zei
 simp[w]
include Sh in
theorem Zw3{i:Nat}{k:Str}(hk:keys[i]? =some k):∀g d,hd0 keys ws k g=some d→∃s:Str,d= .str s∧s.length≤100:=fun g d h=>Zw0 Sh (T:=T0) (p:=(k,g)) hk h
end
end My
namespace My
open DL PySem
noncomputable def tE(s:List Nat):List Nat:=s.map (· +1)++[0]
theorem Ztb:∀(s t u v:List Nat),(tE s++u<tE t++v)↔(s<t∨(s=t∧u<v))
 | [],[],u,v=>by
  show(0::u<0::v)↔_
  rw[List.cons_lt_cons_iff]
  simp
 | [],b::t,u,v=>by
  show(0::u<(b+1)::(tE t++v))↔_
  rw[List.cons_lt_cons_iff]
  simp
 |a::s,[],u,v=>by
  show((a+1)::(tE s++u)<0::v)↔_
  rw[List.cons_lt_cons_iff]
  simp
 |a::s,b::t,u,v=>by
  show((a+1)::(tE s++u)<(b+1)::(tE t++v))↔_
  rw[List.cons_lt_cons_iff,Ztb s t u v,List.cons_lt_cons_iff]
  constructor
  ·rintro(h|⟨h1,h2|⟨h2,h3⟩⟩)
   ·exact .inl (.inl (by omega))
   ·exact .inl (.inr ⟨by omega,h2⟩)
   ·exact .inr ⟨by rw[h2,show a=b by omega],h3⟩
  ·rintro((h|⟨h1,h2⟩)|⟨h1,h2⟩)
   ·exact .inl (by omega)
   ·exact .inr ⟨by omega,.inl h2⟩
   ·cases h1;exact .inr ⟨rfl,.inr ⟨rfl,h2⟩⟩
noncomputable abbrev PP:=Bool×Str
noncomputable abbrev bI(b:Bool):Int:=if b=true then 1 else 0
noncomputable abbrev ppD(p:PP):D:=.tup [.int (bI p.1),.str p.2]
noncomputable abbrev KKy:=List PP×Str
noncomputable abbrev kkD(x:KKy):D:=.tup [.lst (x.1.map ppD),.str x.2]
noncomputable def ltT(a b:Str):Bool:=decide (a.cps.toList<b.cps.toList)
noncomputable def ltP(p q:PP):Bool:=(!p.1&&q.1)|| (p.1==q.1&&ltT p.2 q.2)
noncomputable def ltR:List PP→List PP→Bool
 |p::xs,q::ys=>if p=q then ltR xs ys else ltP p q
 |_,_=>false
theorem Zc9(p q:PP)(xs ys:List PP):ltR (p::xs) (q::ys)=if p=q then ltR xs ys else ltP p q:=rfl
noncomputable def ltK(a b:KKy):Bool:=if a.1=b.1 then ltT a.2 b.2 else ltR a.1 b.1
noncomputable def eP(p:PP):List Nat:=(bI p.1).toNat::tE p.2.cps.toList
noncomputable def eK(x:KKy):List Nat:=x.1.flatMap eP++(tE x.2.cps.toList++[])
theorem Znr{a b:Str}(h:a.cps.toList=b.cps.toList):a=b:=by
 have e2:a.cps=b.cps:=Array.toList_inj.mp h
 cases a;cases b
 simp only at e2
 subst e2
 rfl
theorem Zz5(p q:PP)(u v:List Nat):(eP p++u<eP q++v)↔(ltP p q=true∨(p=q∧u<v)):=by
 obtain⟨a,s⟩:=p
 obtain⟨b,t⟩:=q
 show((bI a).toNat::(tE s.cps.toList++u)<(bI b).toNat::(tE t.cps.toList++v))↔_
 rw[List.cons_lt_cons_iff,Ztb]
 have e:s.cps.toList=t.cps.toList↔s=t:=⟨Znr,fun h=>by rw[h]⟩
 rw[e]
 cases a<;> cases b<;> simp[ltP,ltT,bI]
theorem Zqq:∀(xs ys:List PP) (u v:List Nat),xs.length=ys.length→((xs.flatMap eP++u<ys.flatMap eP++v)↔(ltR xs ys=true∨(xs=ys∧u<v)))
 | [],[],u,v,_=>by simp[ltR]
 |p::xs,q::ys,u,v,h=>by
  rw[List.flatMap_cons,List.flatMap_cons,List.append_assoc,List.append_assoc,Zz5,Zqq xs ys u v (by simpa using h)]
  rw[Zc9]
  by_cases e:p=q
  ·subst e
   have hn:ltP p p=false:=by obtain⟨a,s⟩:=p;cases a<;> simp[ltP,ltT,List.lt_irrefl]
   simp[hn]
  ·simp[e]
 | [],_::_,_,_,h=>by simp at h
 |_::_,[],_,_,h=>by simp at h
theorem Ztc(a b:KKy)(h:a.1.length=b.1.length):(eK a<eK b)↔ltK a b=true:=by
 unfold eK
 rw[Zqq _ _ _ _ h,Ztb]
 unfold ltK
 by_cases e:a.1=b.1
 ·rw[if_pos e,e]
  have hn:∀ys:List PP,ltR ys ys=false:=fun ys=>by
   induction ys with
   |nil=>rfl
   |cons p ys ih=>rw[Zc9,if_pos rfl];exact ih
  simp[hn,ltT]
 ·rw[if_neg e]
  simp[e]
theorem Zqr{a b:KKy}(h:a.1.length=b.1.length)(e:eK a=eK b):a=b:=by
 have i1:¬eK a<eK b:=by rw[e];exact List.lt_irrefl _
 have i2:¬eK b<eK a:=by rw[e];exact List.lt_irrefl _
 unfold eK at e
 have:a.1=b.1∧a.2=b.2:=by
  have tinj:∀(s t u v:List Nat),tE s++u=tE t++v→s=t∧u=v:=by
   intro s
   induction s with
   |nil=>intro t u v z;cases t with
    |nil=>exact⟨rfl,by simpa[tE]using z⟩
    |cons b t=>simp[tE]at z
   |cons a s ih=>intro t u v z;cases t with
    |nil=>simp[tE]at z
    |cons b t=>
     have z:(a+1)::(tE s++u)=(b+1)::(tE t++v):=z
     obtain⟨z1,z2⟩:=List.cons.inj z
     obtain⟨i1,i2⟩:=ih t u v z2
     exact⟨by rw[i1,show a=b by omega],i2⟩
  have rinj:∀(xs ys:List PP) (u v:List Nat),xs.length=ys.length→xs.flatMap eP++u=ys.flatMap eP++v→xs=ys∧u=v:=by
   intro xs
   induction xs with
   |nil=>intro ys u v hl z;cases ys with
    |nil=>exact⟨rfl,by simpa using z⟩
    |cons q ys=>simp at hl
   |cons p xs ih=>intro ys u v hl z;cases ys with
    |nil=>simp at hl
    |cons q ys=>
     rw[List.flatMap_cons,List.flatMap_cons,List.append_assoc,List.append_assoc]at z
     have z:(bI p.1).toNat::(tE p.2.cps.toList++(xs.flatMap eP++u))=(bI q.1).toNat::(tE q.2.cps.toList++(ys.flatMap eP++v)):=z
     obtain⟨z1,z2⟩:=List.cons.inj z
     obtain⟨z3,z4⟩:=tinj _ _ _ _ z2
     obtain⟨z5,z6⟩:=ih ys u v (by simpa using hl) z4
     have:p=q:=by
      obtain⟨a,s⟩:=p
      obtain⟨b,t⟩:=q
      have hs:s=t:=Znr z3
      subst hs
      cases a<;> cases b<;> simp[bI]at z1⊢
     exact⟨by rw[this,z5],z6⟩
  obtain⟨y1,y2⟩:=rinj _ _ _ _ h e
  exact⟨y1,Znr (tinj _ _ _ _ y2).1⟩
 exact Prod.ext this.1 this.2
theorem Zw4(n:Nat)(p q:PP):eqM (n+2) (ppD p) (ppD q)=some (decide (p=q)):=by
 obtain⟨a,s⟩:=p
 obtain⟨b,t⟩:=q
 have e:decide ((a,s)=(b,t))=(decide (a=b)&&decide (s=t)):=by
  by_cases h1:a=b<;> by_cases h2:s=t<;> simp[h1,h2]
 rw[e]
 cases a<;> cases b<;> simp[bI]
theorem Zqs(n:Nat):∀(xs ys:List PP),xs.length=ys.length→Zfq (eqM (n+2)) (xs.map ppD) (ys.map ppD)=some (decide (xs=ys))
 | [],[],_=>by simp
 |p::xs,q::ys,h=>by
  have ih:=Zqs n xs ys (by simpa using h)
  rw[List.map_cons,List.map_cons]
  show(eqM (n+2) (ppD p) (ppD q)).bind (fun b=>(Zfq (eqM (n+2)) (xs.map ppD) (ys.map ppD)).bind fun c=>some (b&&c))=_
  rw[Zw4,ih]
  by_cases h1:p=q<;> by_cases h2:xs=ys<;> simp[h1,h2]
 | [],_::_,h=>by simp at h
 |_::_,[],h=>by simp at h
theorem Zz6(n:Nat)(p q:PP):TX.ltD (n+2) (ppD p) (ppD q)=some (ltP p q):=by
 obtain⟨a,s⟩:=p
 obtain⟨b,t⟩:=q
 have hs:(if s=t then some false else some (decide (s.cps.toList<t.cps.toList)))=some (decide (s.cps.toList<t.cps.toList)):=by
  by_cases h:s=t
  ·subst h;simp[List.lt_irrefl]
  ·rw[if_neg h]
 cases a<;> cases b<;> simp[ltP,ltT,bI]<;> (by_cases h:s=t<;> simp[h,List.lt_irrefl])
theorem Zqt(n:Nat):∀(xs ys:List PP),xs.length=ys.length→TX.lexD (eqM (n+2)) (TX.ltD (n+2)) (xs.map ppD) (ys.map ppD)=some (ltR xs ys)
 | [],[],_=>by simp[ltR]
 |p::xs,q::ys,h=>by
  have ih:=Zqt n xs ys (by simpa using h)
  rw[List.map_cons,List.map_cons]
  show(eqM (n+2) (ppD p) (ppD q)).bind (fun b=>if b=true then TX.lexD (eqM (n+2)) (TX.ltD (n+2)) (xs.map ppD) (ys.map ppD)else TX.ltD (n+2) (ppD p) (ppD q))=_
  rw[Zw4,ih,Zz6]
  rw[Zc9]
  by_cases h1:p=q<;> simp[h1]
 | [],_::_,h=>by simp at h
 |_::_,[],h=>by simp at h
theorem Zw5(a b:KKy)(h:a.1.length=b.1.length):TX.ltD 16 (kkD a) (kkD b)=some (ltK a b):=by
 have e1:eqM 15 (.lst (a.1.map ppD)) (.lst (b.1.map ppD))=some (decide (a.1=b.1)):=by
  show(if(a.1.map ppD).length=(b.1.map ppD).length then Zfq (eqM 14) (a.1.map ppD) (b.1.map ppD)else some false)=_
  rw[if_pos (by rw[List.length_map,List.length_map];exact h)]
  exact Zqs 12 _ _ h
 have e2:TX.ltD 15 (.lst (a.1.map ppD)) (.lst (b.1.map ppD))=some (ltR a.1 b.1):=Zqt 12 _ _ h
 have e3:eqM 15 (.str a.2) (.str b.2)=some (decide (a.2=b.2)):=by simp
 show(eqM 15 (.lst (a.1.map ppD)) (.lst (b.1.map ppD))).bind (fun c=>if c=true then(eqM 15 (.str a.2) (.str b.2)).bind (fun c=>if c=true then some false else TX.ltD 15 (.str a.2) (.str b.2))else TX.ltD 15 (.lst (a.1.map ppD)) (.lst (b.1.map ppD)))=_
 rw[e1,e2,e3]
 unfold ltK ltT
 by_cases h1:a.1=b.1
 ·by_cases h2:a.2=b.2
  ·simp[h1,h2,List.lt_irrefl]
  ·simp[h1,h2]
 ·simp[h1]
noncomputable def encD:D→List Nat
 | .tup [.lst xs,.str k]=>xs.flatMap (fun d=>match d with| .tup [.int i,.str s]=>i.toNat::tE s.cps.toList|_=>[])++(tE k.cps.toList++[])
 |_=>[]
theorem Zf7(a:KKy):encD (kkD a)=eK a:=by
 unfold encD eK
 dsimp only
 rw[List.flatMap_map]
 rfl
theorem Zw6(n:Nat)(ks:List KKy)(hl:∀k∈ks,k.1.length=n)(nd:ks.Nodup):TX.KeysOk (ks.map kkD):=by
 refine⟨fun d hd=>?_,encD,fun a ha b hb=>?_,fun i j hi hj e=>?_⟩
 ·obtain⟨k,_,rfl⟩:=List.mem_map.mp hd
  exact .lst _ _
 ·obtain⟨k,hk,rfl⟩:=List.mem_map.mp ha
  obtain⟨l,hl',rfl⟩:=List.mem_map.mp hb
  have hkl:k.1.length=l.1.length:=(hl k hk).trans (hl l hl').symm
  rw[Zw5 k l hkl,Zf7,Zf7]
  have:=Ztc k l hkl
  cases e:ltK k l with
  |true=>rw[decide_eq_true (this.mpr e)]
  |false=>rw[decide_eq_false fun z=>by rw[this.mp z]at e;cases e]
 ·rw[List.length_map]at hi hj
  have ei:(ks.map kkD).getD i .non=kkD ks[i]:=by rw[List.getD_eq_getElem?_getD,List.getElem?_map,List.getElem?_eq_getElem hi];rfl
  have ej:(ks.map kkD).getD j .non=kkD ks[j]:=by rw[List.getD_eq_getElem?_getD,List.getElem?_map,List.getElem?_eq_getElem hj];rfl
  rw[ei,ej,Zf7,Zf7]at e
  have:=Zqr ((hl _ (List.getElem_mem hi)).trans (hl _ (List.getElem_mem hj)).symm) e
  exact(List.getElem_inj nd).mp this
end My
namespace My
open DL PySem
noncomputable def rkD:D→PP
 | .str s=>(true,s)
 |_=>(false,"")
section
variable{keys:List Str}{ws:List WK}(Sh:Shelf keys ws)
noncomputable def Z8(keys:List Str)(ws:List WK)(fs:List Str)(k:Str):KKy:=(fs.map fun f=>rkD ((hd0 keys ws k f).getD .non),k)
include Sh in
theorem Zjs{i:Nat}{k:Str}(hk:keys[i]? =some k)(f:Str):(hd0 keys ws k f).getD .non= .non∨∃s:Str,(hd0 keys ws k f).getD .non= .str s:=by
 cases e:hd0 keys ws k f with
 |none=>exact .inl rfl
 |some d=>obtain⟨s,rfl,_⟩:=Zw3 Sh hk f d e;exact .inr ⟨s,rfl⟩
include Sh in
theorem Zns{i:Nat}{k:Str}(hk:keys[i]? =some k):∀(fs:List Str) (ys:List D),ys.length+fs.length≤1000→
  Zfn [.own,.cap 0,.cap 1,.cap 2,.acc] 4 (Zq 0) Zh2 Gen.Zdz (fs.map D.str) [none,some (.fz (Zr keys ws)),some (.fz (Z6 T0)),some (.fz (.str k)),some (.ol ys)]=some [none,some (.fz (Zr keys ws)),some (.fz (Z6 T0)),some (.fz (.str k)),some (.ol (ys++fs.map fun f=>(hd0 keys ws k f).getD .non))]
 | [],ys,_=>by simp
 |f::fs,ys,hl=>by
  rw[List.length_cons]at hl
  have h:Gen.Zkl [Zr keys ws,Z6 T0,.str k,.str f]=some (.fz ((hd0 keys ws k f).getD .non)):=Zw2 Sh (T:=T0) (p:=(k,f)) hk
  have ih:=Zns hk fs (ys++[(hd0 keys ws k f).getD .non]) (by rw[List.length_append,List.length_singleton];omega)
  have h4:ys.length<PySem.sizeLine:=Zat (by omega)
  have hv:=Zjs Sh hk f
  rw[List.map_cons,List.map_cons]
  generalize (hd0 keys ws k f).getD .non=v at*
  generalize (fs.map fun f=>(hd0 keys ws k f).getD .non)=R at*
  generalize Zr keys ws=SD at*
  generalize Z6 T0=TD at*
  rcases hv with hv|⟨s,hv⟩
  ·subst hv
   simp[Gen.Zdz,h,h4]at ih⊢
   exact ih
  ·subst hv
   simp[Gen.Zdz,h,h4]at ih⊢
   exact ih
theorem Ztd(ds:List D)(hd:∀d∈ds,d= .non∨∃s:Str,d= .str s)(hl:ds.length≤1000):Zfn [.own,.acc] 1 (Zq 0) Zh2 Gen.Zc8 ds [none,some (.ol [])]=some [none,some (.ol (ds.map fun d=>ppD (rkD d)))]:=by
 have c:=Zjk (te:=Gen.Zc8) (f:=fun d=>ppD (rkD d)) ds [] (fun x hx zs=>by
  have z2:2≤PySem.sizeLine:=Zaf (by decide)
  rcases hd x hx with h|⟨s,h⟩
  ·subst h;simp[Gen.Zc8,z2,rkD,bI]
  ·subst h;simp[Gen.Zc8,z2,rkD,bI]) (by simpa using(show ds.length≤16777216 by omega))
 simpa using c
include Sh in
theorem Zte{i:Nat}{k:Str}(hk:keys[i]? =some k)(fs:List Str)(hl:fs.length≤100):Gen.Zhj [Zr keys ws,Z6 T0,.str k,.lst (fs.map D.str)]=some (.fz (kkD (Z8 keys ws fs k))):=by
 have c1:=Zns Sh hk fs [] (by simpa using(show fs.length≤1000 by omega))
 have c2:=Ztd (fs.map fun f=>(hd0 keys ws k f).getD .non) (fun d hd=>by
  obtain⟨f,_,rfl⟩:=List.mem_map.mp hd
  exact Zjs Sh hk f) (by rw[List.length_map];omega)
 rw[List.nil_append]at c1
 have e:(fs.map fun f=>(hd0 keys ws k f).getD .non).map (fun d=>ppD (rkD d))=(Z8 keys ws fs k).1.map ppD:=by unfold Z8;rw[List.map_map,List.map_map];rfl
 rw[e]at c2
 have e2:(Z8 keys ws fs k).2=k:=rfl
 have z2:2≤PySem.sizeLine:=Zaf (by decide)
 unfold kkD
 rw[e2]
 generalize (Z8 keys ws fs k).1.map ppD=R at*
 generalize (fs.map fun f=>(hd0 keys ws k f).getD .non)=V at*
 generalize Zr keys ws=SD at*
 generalize Z6 T0=TD at*
 generalize fs.map D.str=FS at*
 unfold Gen.Zhj Gen.Znd
 simp[-Zfn,c1,c2,z2]
noncomputable abbrev rkL(keys:List Str)(ws:List WK)(fs as:List Str):List D:=as.map fun a=>kkD (Z8 keys ws fs a)
include Sh in
theorem Zfd(fs:List Str)(hl:fs.length≤100)(a2:Option SV):∀(as done:List Str) (x5:Option SV),(∀a∈as,a∈keys)→(done++as).Nodup→done.length+as.length≤100→
  ∃y5,forD (Zq 5) Gen.Zca (as.map D.str) [some (.fz (Zr keys ws)),some (.fz (Z6 T0)),a2,some (.fz (.lst (fs.map D.str))),some (.oK (inrs done) (rkL keys ws fs done)),x5]=some (.nx [some (.fz (Zr keys ws)),some (.fz (Z6 T0)),a2,some (.fz (.lst (fs.map D.str))),some (.oK (inrs (done++as)) (rkL keys ws fs (done++as))),y5])
 | [],done,x5,_,_,_=>⟨x5,by rw[List.append_nil];rfl⟩
 |a::as,done,x5,hk,nd,hn=>by
  rw[List.length_cons]at hn
  obtain⟨i,hi⟩:=List.getElem?_of_mem (hk a List.mem_cons_self)
  have r:=Zte Sh hi fs hl
  have hnew:a∉done:=fun z=>by
   have:=(List.nodup_append.mp nd).2.2 a z a List.mem_cons_self
   exact this rfl
  have hd:done++a::as=done++[a]++as:=by simp
  obtain⟨y5,ih⟩:=Zfd fs hl a2 as (done++[a]) (some (.fz (.str a))) (fun b hb=>hk b (List.mem_cons_of_mem _ hb)) (by rw[←hd];exact nd) (by rw[List.length_append,List.length_singleton];omega)
  refine⟨y5,?_⟩
  rw[hd,←ih,List.map_cons]
  refine Zbu (δ1:=[some (.fz (Zr keys ws)),some (.fz (Z6 T0)),a2,some (.fz (.lst (fs.map D.str))),some (.oK (inrs done) (rkL keys ws fs done)),some (.fz (.str a))]) (by simp) ?_
  have zv:(rkL keys ws fs done).length<PySem.sizeLine:=Zat (by rw[List.length_map];omega)
  have pi:=Zc6 a (kkD (Z8 keys ws fs a)) done (rkL keys ws fs done)
  rw[Zjn hnew]at pi
  have e1:rkL keys ws fs (done++[a])=rkL keys ws fs done++[kkD (Z8 keys ws fs a)]:=by unfold rkL;rw[List.map_append];rfl
  rw[e1]
  generalize rkL keys ws fs done=RL at*
  generalize Z8 keys ws fs a=KA at*
  generalize Zr keys ws=SD at*
  generalize Z6 T0=TD at*
  generalize fs.map D.str=FS at*
  unfold Gen.Zca
  simp[-putA,r,zv,pi]
theorem Znt(keys:List Str)(ws:List WK)(fs:List Str){a:Str}:∀{as:List Str},a∈as→look (inrs as) (rkL keys ws fs as) (Sum.inr a)=some (kkD (Z8 keys ws fs a))
 |b::as,h=>by
  show(if(Sum.inr b:L2.Key)=Sum.inr a then some (kkD (Z8 keys ws fs b))else look (inrs as) (rkL keys ws fs as) (Sum.inr a))=_
  by_cases e:b=a
  ·rw[if_pos (by rw[e]),e]
  ·rw[if_neg (fun z=>e (Sum.inr.inj z))]
   rcases List.mem_cons.mp h with z|z
   ·exact absurd z.symm e
   ·exact Znt keys ws fs z
theorem Znu(keys:List Str)(ws:List WK)(fs as:List Str):∀{bs:List Str},(∀b∈bs,b∈as)→TX.keysF (binF ixX (Za 1) (Za 0)) [.dK (inrs as) (rkL keys ws fs as)] (bs.map D.str)=some (rkL keys ws fs bs)
 | [],_=>rfl
 |b::bs,h=>by
  have ih:=Znu keys ws fs as (bs:=bs) fun c hc=>h c (List.mem_cons_of_mem _ hc)
  have lk:=Znt keys ws fs (h b List.mem_cons_self)
  have k1:TX.keyF (binF ixX (Za 1) (Za 0)) [.dK (inrs as) (rkL keys ws fs as)] (.str b)=some (kkD (Z8 keys ws fs b)):=by
   generalize inrs as=IA at*
   generalize rkL keys ws fs as=RA at*
   generalize kkD (Z8 keys ws fs b)=KB at*
   simp[-look,lk]
  rw[List.map_cons]
  show(TX.keyF (binF ixX (Za 1) (Za 0)) [.dK (inrs as) (rkL keys ws fs as)] (.str b)).bind (fun k=>(TX.keysF (binF ixX (Za 1) (Za 0)) [.dK (inrs as) (rkL keys ws fs as)] (bs.map D.str)).bind fun ks=>some (k::ks))=_
  rw[k1,ih]
  rfl
include Sh in
theorem Ztf(fs as:List Str)(hl:fs.length≤100)(hk:∀a∈as,a∈keys)(nd:as.Nodup)(hn:as.length<64):
  ∃out:List Str,Gen.Zbo [Zr keys ws,Z6 T0,.lst (as.map D.str),.lst (fs.map D.str)]=some (.ol (out.map D.str))∧out.Perm as∧out.Pairwise fun a b=>ltK (Z8 keys ws fs a) (Z8 keys ws fs b)=true:=by
 obtain⟨y5,e⟩:=Zfd Sh fs hl (some (.fz (.lst (as.map D.str)))) as [] none hk (by simpa using nd) (by simp;omega)
 rw[List.nil_append]at e
 rw[show inrs []=([]:List L2.Key)from rfl,show rkL keys ws fs []=[]from rfl]at e
 have kf:=Znu keys ws fs as (bs:=as) fun _ h=>h
 have km:rkL keys ws fs as=(as.map (Z8 keys ws fs)).map kkD:=by unfold rkL;rw[List.map_map];rfl
 have ndk:(as.map (Z8 keys ws fs)).Nodup:=List.Pairwise.map (R:=fun a b:Str=>a≠b) _ (fun a b h z=>h (congrArg Prod.snd z)) nd
 have ko:TX.KeysOk (rkL keys ws fs as):=by
  rw[km]
  exact Zw6 fs.length _ (fun k hk=>by obtain⟨a,_,rfl⟩:=List.mem_map.mp hk;unfold Z8;rw[List.length_map]) ndk
 obtain⟨p,⟨hp1,hp2⟩,es⟩:=TX.srtK_of (ks:=rkL keys ws fs as) (xs:=as.map D.str) (by rw[List.length_map,List.length_map]) (by rw[List.length_map];exact hn) ko
 have hlen:(rkL keys ws fs as).length=as.length:=List.length_map ..
 rw[hlen]at hp1
 have eo:(p.map fun i=>(as.map D.str).getD i .non)=(p.map fun i=>as.getD i "").map D.str:=by
  rw[List.map_map]
  refine List.map_congr_left fun i hi=>?_
  have hil:i<as.length:=List.mem_range.mp (hp1.mem_iff.mp hi)
  rw[List.getD_eq_getElem?_getD,List.getElem?_map,List.getElem?_eq_getElem hil]
  show D.str as[i]=D.str (as.getD i "")
  rw[List.getD_eq_getElem?_getD,List.getElem?_eq_getElem hil];rfl
 rw[eo]at es
 refine⟨p.map fun i=>as.getD i "",?_,?_,?_⟩
 ·generalize (p.map fun i=>as.getD i "").map D.str=OUT at*
  generalize rkL keys ws fs as=RL at*
  generalize inrs as=IA at*
  generalize Zr keys ws=SD at*
  generalize Z6 T0=TD at*
  generalize fs.map D.str=FS at*
  generalize as.map D.str=AS at*
  unfold Gen.Zbo Gen.Zdl
  generalize (binF ixX (Za 1) (Za 0):FE)=FB at kf⊢
  simp[-forD,-TX.keysF,e,kf,es]
 ·have h1:(p.map fun i=>as.getD i "").Perm ((List.range as.length).map fun i=>as.getD i ""):=hp1.map _
  have h2:((List.range as.length).map fun i=>as.getD i "")=as:=by
   apply List.ext_getElem
   ·simp
   ·intro i a b;simp[b]
  rw[h2]at h1
  exact h1
 ·refine List.Pairwise.map _ (R:=fun i j=>i≠j∧i<as.length∧j<as.length∧TX.ltD 16 ((rkL keys ws fs as).getD j .non) ((rkL keys ws fs as).getD i .non)=some false) (fun i j h=>?_) ?_
  ·obtain⟨hne,hi,hj,h⟩:=h
   have ei:(rkL keys ws fs as).getD i .non=kkD (Z8 keys ws fs as[i]):=by unfold rkL;rw[List.getD_eq_getElem?_getD,List.getElem?_map,List.getElem?_eq_getElem hi];rfl
   have ej:(rkL keys ws fs as).getD j .non=kkD (Z8 keys ws fs as[j]):=by unfold rkL;rw[List.getD_eq_getElem?_getD,List.getElem?_map,List.getElem?_eq_getElem hj];rfl
   have hll:(Z8 keys ws fs as[j]).1.length=(Z8 keys ws fs as[i]).1.length:=by unfold Z8;rw[List.length_map,List.length_map]
   rw[ei,ej,Zw5 _ _ hll]at h
   have h:ltK (Z8 keys ws fs as[j]) (Z8 keys ws fs as[i])=false:=Option.some.inj h
   have gi:as.getD i ""=as[i]:=by rw[List.getD_eq_getElem?_getD,List.getElem?_eq_getElem hi];rfl
   have gj:as.getD j ""=as[j]:=by rw[List.getD_eq_getElem?_getD,List.getElem?_eq_getElem hj];rfl
   rw[gi,gj]
   have l1:=Ztc _ _ hll
   have l2:=Ztc _ _ hll.symm
   have n1:¬eK (Z8 keys ws fs as[j])<eK (Z8 keys ws fs as[i]):=fun z=>by rw[l1.mp z]at h;cases h
   refine l2.mp ?_
   by_cases z:eK (Z8 keys ws fs as[i])<eK (Z8 keys ws fs as[j])
   ·exact z
   ·have:=Zqr hll.symm (List.le_antisymm (List.not_lt.mp n1) (List.not_lt.mp z))
    have:as[i]=as[j]:=congrArg Prod.snd this
    exact absurd ((List.getElem_inj nd).mp this) hne
  ·have ndp:p.Nodup:=hp1.nodup_iff.mpr List.nodup_range
   have both:=List.Pairwise.and ndp hp2
   refine(List.Pairwise.and_mem.mp both).imp fun{i j} h=>?_
   exact⟨h.2.2.1,List.mem_range.mp (hp1.mem_iff.mp h.1),List.mem_range.mp (hp1.mem_iff.mp h.2.1),h.2.2.2⟩
end
end My
namespace My
open DL PySem
section
variable{keys:List Str}{ws:List WK}(Sh:Shelf keys ws)
noncomputable abbrev rO(keys:List Str)(ws:List WK)(k f:Str):PP:=rkD ((hd0 keys ws k f).getD .non)
noncomputable abbrev sC(keys:List Str)(ws:List WK)(a b:Str)(a3 x4 x5 x6:Option SV):DSt:=[some (.fz (Zr keys ws)),some (.fz (.str a)),some (.fz (.str b)),a3,x4,x5,x6]
include Sh in
theorem Zkp{i j:Nat}{a b:Str}(ha:keys[i]? =some a)(hb:keys[j]? =some b)(f:Str)(a3 x5 x6:Option SV):
  (rO keys ws a f=rO keys ws b f→∃y5 y6,Gen.Zac (sC keys ws a b a3 (some (.fz (.str f))) x5 x6)=some (.nx (sC keys ws a b a3 (some (.fz (.str f))) y5 y6)))∧
  (rO keys ws a f≠rO keys ws b f→Gen.Zac (sC keys ws a b a3 (some (.fz (.str f))) x5 x6)=some (.rt (.fz (.bl (ltP (rO keys ws a f) (rO keys ws b f)))))):=by
 have h1:=Zqp Sh ha f
 have h2:=Zqp Sh hb f
 have g1:=Zjs Sh ha f
 have g2:=Zjs Sh hb f
 unfold rO sC
 generalize (hd0 keys ws a f).getD .non=va at*
 generalize (hd0 keys ws b f).getD .non=vb at*
 generalize Zr keys ws=SD at*
 unfold Gen.Zac
 rcases g1 with e1|⟨s,e1⟩
 ·subst e1
  rcases g2 with e2|⟨t,e2⟩
  ·subst e2
   exact⟨fun _=>⟨some (.fz .non),some (.fz .non),by simp[h1,h2]⟩,fun h=>absurd rfl h⟩
  ·subst e2
   refine⟨fun h=>by simp[rkD]at h,fun _=>?_⟩
   simp[h1,h2,rkD,ltP]
 ·subst e1
  rcases g2 with e2|⟨t,e2⟩
  ·subst e2
   refine⟨fun h=>by simp[rkD]at h,fun _=>?_⟩
   simp[h1,h2,rkD,ltP]
  ·subst e2
   by_cases hs:s=t
   ·subst hs
    exact⟨fun _=>⟨some (.fz (.str s)),some (.fz (.str s)),by simp[h1,h2]⟩,fun h=>absurd rfl h⟩
   ·refine⟨fun h=>by simp[rkD,hs]at h,fun _=>?_⟩
    simp[h1,h2,rkD,ltP,ltT,hs]
include Sh in
theorem Zfe{i j:Nat}{a b:Str}(ha:keys[i]? =some a)(hb:keys[j]? =some b)(a3:Option SV):∀(fs:List Str) (x4 x5 x6:Option SV),
  (fs.map (rO keys ws a)=fs.map (rO keys ws b)→∃y4 y5 y6,forD (Zq 4) Gen.Zac (fs.map D.str) (sC keys ws a b a3 x4 x5 x6)=some (.nx (sC keys ws a b a3 y4 y5 y6)))∧
  (fs.map (rO keys ws a)≠fs.map (rO keys ws b)→forD (Zq 4) Gen.Zac (fs.map D.str) (sC keys ws a b a3 x4 x5 x6)=some (.rt (.fz (.bl (ltR (fs.map (rO keys ws a)) (fs.map (rO keys ws b)))))))
 | [],x4,x5,x6=>⟨fun _=>⟨x4,x5,x6,rfl⟩,fun h=>absurd rfl h⟩
 |f::fs,x4,x5,x6=>by
  obtain⟨t1,t2⟩:=Zkp Sh ha hb f a3 x5 x6
  have run:(Zq 4).run (.str f) (sC keys ws a b a3 x4 x5 x6)=some (sC keys ws a b a3 (some (.fz (.str f))) x5 x6):=by unfold sC;simp
  rw[List.map_cons,List.map_cons,List.map_cons]
  by_cases e:rO keys ws a f=rO keys ws b f
  ·obtain⟨y5,y6,hb1⟩:=t1 e
   obtain⟨i1,i2⟩:=Zfe ha hb a3 fs (some (.fz (.str f))) y5 y6
   refine⟨fun h=>?_,fun h=>?_⟩
   ·obtain⟨z4,z5,z6,ih⟩:=i1 (List.cons.inj h).2
    exact⟨z4,z5,z6,(Zbu run hb1).trans ih⟩
   ·rw[Zc9,if_pos e]
    exact(Zbu run hb1).trans (i2 fun z=>h (by rw[e,z]))
  ·refine⟨fun h=>absurd (List.cons.inj h).1 e,fun _=>?_⟩
   rw[Zc9,if_neg e]
   exact Zm6 run (t2 e)
include Sh in
theorem Zpk{i j:Nat}{a b:Str}(ha:keys[i]? =some a)(hb:keys[j]? =some b)(fs:List Str):Gen.Za9 [Zr keys ws,.str a,.str b,.lst (fs.map D.str)]=some (.fz (.bl (ltK (Z8 keys ws fs a) (Z8 keys ws fs b)))):=by
 obtain⟨i1,i2⟩:=Zfe Sh ha hb (some (.fz (.lst (fs.map D.str)))) fs none none none
 unfold ltK
 have e1:(Z8 keys ws fs a).1=fs.map (rO keys ws a):=rfl
 have e2:(Z8 keys ws fs b).1=fs.map (rO keys ws b):=rfl
 have e3:(Z8 keys ws fs a).2=a:=rfl
 have e4:(Z8 keys ws fs b).2=b:=rfl
 rw[e1,e2,e3,e4]
 unfold sC at i1 i2
 generalize fs.map (rO keys ws a)=RA at*
 generalize fs.map (rO keys ws b)=RB at*
 generalize Zr keys ws=SD at*
 generalize fs.map D.str=FS at*
 unfold Gen.Za9 Gen.Zcr
 by_cases e:RA=RB
 ·obtain⟨y4,y5,y6,h⟩:=i1 e
  rw[if_pos e]
  simp[-forD,h,ltT]
 ·have h:=i2 e
  rw[if_neg e]
  simp[-forD,h]
end
noncomputable abbrev s13(a0 a1:Option SV)(keys:List Str)(a3 a4:Option SV)(ms:List D)(as:List Str)(x7 x8:Option SV):DSt:=[a0,a1,some (.fz (.lst (keys.map D.str))),a3,a4,some (.ol ms),some (.ol (as.map D.str)),x7,x8,none,none,none,none]
theorem Zpl(a0 a1 a3 a4:Option SV)(keys:List Str)(ms:List D)(as:List Str)(k:Nat)(key:Str)(x y:Int)(hx:L2.atI ms (k:Int)=some (.int x))(hy:L2.atI ms (keys.length:Int)=some (.int y))(hk:keys[k]? =some key)(hl:as.length≤100)(x8:Option SV):
  ∃as' y8,Gen.Zdm (s13 a0 a1 keys a3 a4 ms as (some (.fz (.int (k:Int)))) x8)=some (.nx (s13 a0 a1 keys a3 a4 ms as' (some (.fz (.int (k:Int)))) y8))∧(as'=as∨as'.Perm (key::as)):=by
 have hkn:(keys.map D.str).length=keys.length:=List.length_map ..
 have ki:L2.atI (keys.map D.str) (k:Int)=some (.str key):=Zb6 _ _ _ (by rw[List.getElem?_map,hk];rfl)
 have hal:(as.map D.str).length=as.length:=List.length_map ..
 unfold s13
 by_cases hc:y % 2=0∨0<x % 3
 ·have q0:0≤x / 3 % ((as.length:Int)+1):=Int.emod_nonneg _ (by omega)
  have q1:x / 3 % ((as.length:Int)+1)<(as.length:Int)+1:=Int.emod_lt_of_pos _ (by omega)
  obtain⟨p,hp⟩:∃p:Nat,x / 3 % ((as.length:Int)+1)=(p:Int):=⟨(x / 3 % ((as.length:Int)+1)).toNat,by omega⟩
  have hpl:p≤as.length:=by omega
  have c1:cutD (as.map D.str) none (some (p:Int))=(as.take p).map D.str:=by rw[Zwr _ _ (by rw[List.length_map];exact hpl),List.map_take]
  have c2:cutD (as.map D.str) (some (p:Int)) none=(as.drop p).map D.str:=by rw[Zpc _ _ (by rw[List.length_map];exact hpl),List.map_drop]
  refine⟨as.take p++[key]++as.drop p,some (.fz (.int (p:Int))),?_,.inr ?_⟩
  ·have d0:0<(as.length:Int)+1:=by omega
   have d1:(as.length:Int)+1<1073741824:=by omega
   have d2:¬(as.length:Int)+1=0:=by omega
   have zt:((as.take p).map D.str).length+1≤PySem.sizeLine:=Zaf (by rw[List.length_map,List.length_take];omega)
   have zt2:(((as.take p).map D.str)++[D.str key]).length+((as.drop p).map D.str).length≤PySem.sizeLine:=Zaf (by rw[List.length_append,List.length_map,List.length_map,List.length_take,List.length_drop,List.length_singleton];omega)
   have em:(as.take p++[key]++as.drop p).map D.str=(as.take p).map D.str++[D.str key]++(as.drop p).map D.str:=by rw[List.map_append,List.map_append];rfl
   rw[em]
   have z1:1≤PySem.sizeLine:=Zaf (by decide)
   generalize (as.take p).map D.str=TA at*
   generalize (as.drop p).map D.str=DA at*
   generalize as.map D.str=AS at*
   generalize keys.map D.str=KK at*
   unfold Gen.Zdm
   by_cases hy2:y % 2=0
   ·simp at zt2
    simp[hx,hy,hkn,hal,hy2,ki,hp,c1,c2,d0,d1,d2,zt,zt2,z1]
   ·have hx3:0<x % 3:=by omega
    simp at zt2
    simp[hx,hy,hkn,hal,hy2,hx3,ki,hp,c1,c2,d0,d1,d2,zt,zt2,z1]
  ·have h1:(as.take p++[key]++as.drop p).Perm (key::(as.take p++as.drop p)):=by
    rw[List.append_assoc]
    exact List.perm_middle
   rw[List.take_append_drop]at h1
   exact h1
 ·refine⟨as,x8,?_,.inl rfl⟩
  have hy2:¬y % 2=0:=fun z=>hc (.inl z)
  have hx3:¬0<x % 3:=fun z=>hc (.inr z)
  generalize as.map D.str=AS at*
  generalize keys.map D.str=KK at*
  unfold Gen.Zdm
  simp[hx,hy,hkn,hy2,hx3]
theorem Zpm(a0 a1 a3 a4:Option SV)(keys:List Str)(nd:keys.Nodup)(hl:keys.length≤20)(ms:List D)(hm:∀k:Nat,k≤keys.length→∃x,L2.atI ms (k:Int)=some (.int x)):
  ∃as x7 x8,forD (Zq 7) Gen.Zdm (nats 0 keys.length) (s13 a0 a1 keys a3 a4 ms [] none none)=some (.nx (s13 a0 a1 keys a3 a4 ms as x7 x8))∧as.Nodup∧(∀a∈as,a∈keys)∧as.length≤20:=by
 obtain⟨y,hy⟩:=hm keys.length (Nat.le_refl _)
 obtain⟨δ',e,as,x7,x8,rfl,h1,h2,h3⟩:=Zb7 (tg:=Zq 7) (body:=Gen.Zdm) (P:=fun i δ=>∃as x7 x8,δ=s13 a0 a1 keys a3 a4 ms as x7 x8∧as.Nodup∧(∀a∈as,a∈keys.take i)∧as.length≤i) keys.length 0 (s13 a0 a1 keys a3 a4 ms [] none none) ⟨[],none,none,rfl,List.nodup_nil,fun _ h=>(nomatch h),Nat.zero_le _⟩ (fun i _ hi δ ⟨as,x7,x8,hδ,h1,h2,h3⟩=>by
  subst hδ
  rw[Nat.zero_add]at hi
  obtain⟨x,hx⟩:=hm i (by omega)
  have hk:keys[i]? =some keys[i]:=List.getElem?_eq_getElem hi
  obtain⟨as',y8,eb,h⟩:=Zpl a0 a1 a3 a4 keys ms as i keys[i] x y hx hy hk (by omega) x8
  have tk:keys.take (i+1)=keys.take i++[keys[i]]:=by rw[List.take_succ,hk];rfl
  refine⟨_,_,by unfold s13;simp,eb,as',_,y8,rfl,?_⟩
  rcases h with h|h
  ·subst h
   exact⟨h1,fun a ha=>by rw[tk];exact List.mem_append_left _ (h2 a ha),by omega⟩
  ·have hnew:keys[i]∉keys.take i:=fun hm'=>by
    obtain⟨j,hj⟩:=List.getElem?_of_mem hm'
    have hji:j<i:=by
     have:=(List.getElem?_eq_some_iff.mp hj).1
     rw[List.length_take]at this;omega
    rw[List.getElem?_take_of_lt hji]at hj
    have:=Zni nd hj hk
    omega
   refine⟨h.nodup_iff.mpr (List.nodup_cons.mpr ⟨fun z=>hnew (h2 _ z),h1⟩),fun a ha=>?_,?_⟩
   ·rw[tk]
    rcases List.mem_cons.mp (h.mem_iff.mp ha)with z|z
    ·rw[z];exact List.mem_append_right _ List.mem_cons_self
    ·exact List.mem_append_left _ (h2 a z)
   ·rw[h.length_eq,List.length_cons];omega)
 exact⟨as,x7,x8,by simpa using e,h1,fun a ha=>List.mem_of_mem_take (h2 a ha),by omega⟩
noncomputable abbrev F7:List Str:=["title","year","hands","in","none","kind","note"]
noncomputable abbrev s13f(p:List (Option SV))(fs:List Str)(x10:Option SV):DSt:=p++[some (.ol (fs.map D.str)),x10,none,none]
theorem Zjt(p:List (Option SV))(hp:p.length=9):∀(ms:List Int) (fs:List Str) (x10:Option SV),fs.length+ms.length≤100→
  ∃fs' y10,forD (Zq 10) Gen.Zif (ms.map D.int) (s13f p fs x10)=some (.nx (s13f p fs' y10))∧fs'.length=fs.length+ms.length
 | [],fs,x10,_=>⟨fs,x10,rfl,rfl⟩
 |m::ms,fs,x10,hl=>by
  rw[List.length_cons]at hl
  obtain⟨d,hd,e⟩:=Zjm (F7.map D.str) m 7 rfl (by decide)
  obtain⟨s,_,rfl⟩:=List.mem_map.mp hd
  have z7:7≤PySem.sizeLine:=Zaf (by decide)
  have zf:fs.length<PySem.sizeLine:=Zat (by omega)
  obtain⟨fs',y10,ih,h2⟩:=Zjt p hp ms (fs++[s]) (some (.fz (.int m))) (by rw[List.length_append,List.length_singleton];omega)
  refine⟨fs',y10,?_,by rw[h2,List.length_append,List.length_singleton,List.length_cons];omega⟩
  rw[List.map_cons,←ih]
  obtain⟨p0,p1,p2,p3,p4,p5,p6,p7,p8,rfl⟩:∃p0 p1 p2 p3 p4 p5 p6 p7 p8,p=[p0,p1,p2,p3,p4,p5,p6,p7,p8]:=by
   match p,hp with
   | [p0,p1,p2,p3,p4,p5,p6,p7,p8],_=>exact⟨p0,p1,p2,p3,p4,p5,p6,p7,p8,rfl⟩
  refine Zbu (δ1:=s13f [p0,p1,p2,p3,p4,p5,p6,p7,p8] fs (some (.fz (.int m)))) (by unfold s13f;simp) ?_
  have e:L2.atI [D.str (Str.ofString "title"),.str (Str.ofString "year"),.str (Str.ofString "hands"),.str (Str.ofString "in"),.str (Str.ofString "none"),.str (Str.ofString "kind"),.str (Str.ofString "note")] (m % 7)=some (.str s):=e
  unfold s13f Gen.Zif
  simp[e,z7,zf]
end My
namespace My
open DL PySem
theorem Zkq(n:Nat):Zem 1 n=nats 1 n:=by
 unfold Zem nats
 rw[List.range'_eq_map_range,List.map_map]
 refine List.map_congr_left fun i _=>?_
 simp
section
variable{keys:List Str}{ws:List WK}(Sh:Shelf keys ws)
noncomputable abbrev s13t(a0 a1 a2:Option SV)(keys:List Str)(ws:List WK)(a4 a5 a6 x7 a8:Option SV)(fs:List Str)(a10 a11:Option SV)(out:List Str):DSt:=[a0,a1,a2,some (.fz (Zr keys ws)),a4,a5,a6,x7,a8,some (.fz (.lst (fs.map D.str))),a10,a11,some (.ol (out.map D.str))]
include Sh in
theorem Znv(a0 a1 a2 a4 a5 a6 x7 a8:Option SV)(fs:List Str)(a10 a11:Option SV)(out:List Str)(hk:∀a∈out,a∈keys)(pw:out.Pairwise fun a b=>ltK (Z8 keys ws fs a) (Z8 keys ws fs b)=true):
  ∃y7,forD (Zq 7) Gen.Zf5 (nats 1 (out.length- 1)) (s13t a0 a1 a2 keys ws a4 a5 a6 x7 a8 fs a10 a11 out)=some (.nx (s13t a0 a1 a2 keys ws a4 a5 a6 y7 a8 fs a10 a11 out)):=by
 obtain⟨δ',e,y7,rfl⟩:=Zb7 (tg:=Zq 7) (body:=Gen.Zf5) (P:=fun i δ=>∃x7,δ=s13t a0 a1 a2 keys ws a4 a5 a6 x7 a8 fs a10 a11 out) (out.length- 1) 1 (s13t a0 a1 a2 keys ws a4 a5 a6 x7 a8 fs a10 a11 out) ⟨x7,rfl⟩ (fun i hi1 hi2 δ ⟨x7,hδ⟩=>by
  subst hδ
  have hil:i<out.length:=by omega
  have hil0:i- 1<out.length:=by omega
  have h0:out[i- 1]? =some out[i- 1]:=List.getElem?_eq_getElem hil0
  have h1:out[i]? =some out[i]:=List.getElem?_eq_getElem hil
  obtain⟨u,hu⟩:=List.getElem?_of_mem (hk _ (List.getElem_mem hil0))
  obtain⟨v,hv⟩:=List.getElem?_of_mem (hk _ (List.getElem_mem hil))
  have c:=Zpk Sh hu hv fs
  rw[List.pairwise_iff_getElem.mp pw (i- 1) i hil0 hil (by omega)]at c
  have t0:L2.atI (out.map D.str) ((i:Int)- 1)=some (.str out[i- 1]):=by
   rw[show(i:Int)- 1=((i- 1:Nat):Int) by omega]
   exact Zb6 _ _ _ (by rw[List.getElem?_map,h0];rfl)
  have t1:L2.atI (out.map D.str) (i:Int)=some (.str out[i]):=Zb6 _ _ _ (by rw[List.getElem?_map,h1];rfl)
  refine⟨s13t a0 a1 a2 keys ws a4 a5 a6 (some (.fz (.int (i:Int)))) a8 fs a10 a11 out,s13t a0 a1 a2 keys ws a4 a5 a6 (some (.fz (.int (i:Int)))) a8 fs a10 a11 out,by unfold s13t;simp,?_,_,rfl⟩
  unfold s13t
  generalize out[i- 1]=oa at*
  generalize out[i]=ob at*
  generalize Zr keys ws=SD at*
  generalize fs.map D.str=FS at*
  generalize out.map D.str=OO at*
  unfold Gen.Zf5
  simp[t0,t1,c])
 exact⟨y7,e⟩
end
theorem law_true(ns:List Int)(hns:ns.length≤63):Gen.Zf6 [.lst (ns.map D.int)]=some (.fz (.bl true)):=by
 obtain⟨c0,e0⟩:=Zij ns 0
 obtain⟨c1,e1⟩:=Zij ns 1
 obtain⟨c2,e2⟩:=Zij ns 2
 have i0:((0:Nat):Int)=0:=rfl
 have i1:((1:Nat):Int)=1:=rfl
 have i2:((2:Nat):Int)=2:=rfl
 rw[i0]at e0
 rw[i1]at e1
 rw[i2]at e2
 obtain⟨cs,ec,cl⟩:∃cs:List Int,cutD (ns.map D.int) (some 3) (some 15)=cs.map D.int∧cs.length≤12:=by
  obtain⟨ms,e,_⟩:=Zsw ns (some 3) (some 15)
  refine⟨ms,e,?_⟩
  have:(cutD (ns.map D.int) (some 3) (some 15)).length≤12:=by
   unfold cutD HT.sIx
   simp
   omega
  rw[e,List.length_map]at this
  exact this
 obtain⟨keys,ek,kl,knd,k8⟩:=Zef c0 cs.length (by omega)
 obtain⟨ws,Sh,es⟩:=Zpg keys k8 (by omega) knd cs kl.symm
 obtain⟨ms,em,_,ml⟩:=Zcf c1 (keys.length+1) (by omega)
 have i3:((keys.length+1:Nat):Int)=(keys.length:Int)+1:=by omega
 rw[i3]at em
 have hm:∀k:Nat,k≤keys.length→∃x,L2.atI (ms.map D.int) (k:Int)=some (.int x):=fun k hk=>⟨ms[k],Zb6 _ _ _ (by rw[List.getElem?_map,List.getElem?_eq_getElem (by omega)];rfl)⟩
 have m0:0≤c2 % 5:=Int.emod_nonneg _ (by decide)
 have m1:c2 % 5<5:=Int.emod_lt_of_pos _ (by decide)
 obtain⟨nf,hnf⟩:∃nf:Nat,c2 % 5=(nf:Int):=⟨(c2 % 5).toNat,by omega⟩
 obtain⟨gs,eg,_,gl⟩:=Zcf c2 nf (by omega)
 obtain⟨as,x7,x8,la,and',ask,asl⟩:=Zpm (some (.fz (.lst (ns.map D.int)))) (some (.fz (.lst (cs.map D.int)))) (some (.oK (inrs keys) (ws.map Zav))) (some (.oK (tkS T0) (T0.map fun q=>.lst (q.2.map Zad)))) keys knd (by omega) (ms.map D.int) hm
 obtain⟨fs,y10,lf,fl⟩:=Zjt [some (.fz (.lst (ns.map D.int))),some (.fz (.lst (cs.map D.int))),some (.fz (.lst (keys.map D.str))),some (.oK (inrs keys) (ws.map Zav)),some (.oK (tkS T0) (T0.map fun q=>.lst (q.2.map Zad))),some (.ol (ms.map D.int)),some (.ol (as.map D.str)),x7,x8] rfl gs [] none (by simp;omega)
 rw[List.length_nil,Nat.zero_add]at fl
 obtain⟨out,eo,op,opw⟩:=Ztf Sh fs as (by omega) ask and' (by omega)
 have olen:out.length=as.length:=op.length_eq
 obtain⟨y7,lt⟩:=Znv Sh (some (.fz (.lst (ns.map D.int)))) (some (.fz (.lst (cs.map D.int)))) (some (.fz (.lst (keys.map D.str)))) (some (.fz (Z6 T0))) (some (.ol (ms.map D.int))) (some (.fz (.lst (as.map D.str)))) x7 x8 fs y10 (some (.ol [.lst (as.map D.str),.lst (fs.map D.str)])) out (fun a ha=>ask a (op.mem_iff.mp ha)) opw
 have s1:=Zjj (ns:=out) (by omega)
 have s2:=Zjj (ns:=as) (by omega)
 rw[TX.srtS_same op]at s1
 have q1:eqM 48 (.lst ((TX.srtS as).map D.str)) (.lst ((TX.srtS as).map D.str))=some true:=Zf2 46 _
 have q2:eqM 48 (.lst [.lst (as.map D.str),.lst (fs.map D.str)]) (.lst [.lst (as.map D.str),.lst (fs.map D.str)])=some true:=Zm8 47 _ fun x hx=>by
  rcases List.mem_cons.mp hx with rfl|hx
  ·exact Zf2 45 as
  rw[List.mem_singleton.mp hx]
  exact Zf2 45 fs
 have se:=Zph Sh 43
 have g1:rngP (keys.length:Int):=Zc0 (by omega)
 have g2:rngP (out.length:Int):=Zc0 (by omega)
 have g3:rngP 1:=Zlo (by decide) (by decide)
 have et:((keys.length:Int)).toNat=keys.length:=by omega
 have et2:((out.length:Int)- 1).toNat=out.length- 1:=by omega
 have kn:(keys.map D.str).length=keys.length:=List.length_map ..
 have cn:(cs.map D.int).length=cs.length:=List.length_map ..
 have on:(out.map D.str).length=out.length:=List.length_map ..
 have za:(as.map D.str).length≤PySem.sizeLine:=Zaf (by rw[List.length_map];omega)
 have zf:(fs.map D.str).length≤PySem.sizeLine:=Zaf (by rw[List.length_map];omega)
 have z2:2≤PySem.sizeLine:=Zaf (by decide)
 have t0:∀x y:D,L2.atI [x,y] 0=some x:=fun _ _=>rfl
 have t1:∀x y:D,L2.atI [x,y] 1=some y:=fun _ _=>rfl
 have tt:Z6 T0= .dK [.inr (Str.ofString "part")] [.lst [.tup [.str (Str.ofString "title"),.str (Str.ofString "title")],.tup [.str (Str.ofString "year"),.str (Str.ofString "year")]]]:=rfl
 have tk:(tkS T0)=[.inr (Str.ofString "part")]:=rfl
 have tv:(T0.map fun q=>D.lst (q.2.map Zad))=[.lst [.tup [.str (Str.ofString "title"),.str (Str.ofString "title")],.tup [.str (Str.ofString "year"),.str (Str.ofString "year")]]]:=rfl
 rw[tt]at eo lt
 rw[tk,tv]at la lf
 unfold s13 at la
 unfold s13f at lf
 simp only[List.cons_append,List.nil_append]at lf
 unfold s13t at lt
 rw[List.map_nil]at la lf
 unfold Zr at*
 rw[hnf.symm]at eg
 have n3:(keys.length:Int)+1=(keys.length:Int)+1:=rfl
 generalize (TX.srtS as).map D.str=SA at*
 generalize out.map D.str=OO at*
 generalize as.map D.str=AA at*
 generalize fs.map D.str=FF at*
 generalize keys.map D.str=KK at*
 generalize cs.map D.int=CC at*
 generalize gs.map D.int=GG at*
 generalize ms.map D.int=MM at*
 generalize inrs keys=KS at*
 generalize ws.map Zav=WS at*
 generalize ns.map D.int=NS at*
 unfold Gen.Zf6 Gen.Zs4
 simp[-forD,-Zfn,-eqM,ec,e0,e1,e2,cn,ek,es,kn,em,g1,et,Zc5,la,eg,lf,za,zf,z2,t0,t1,eo,s1,s2,q1,q2,se,on,g2,g3,et2,Zkq,lt]
end My
def PySem.W.Fast.tw3061043436139054036:=()
def PySem.W.Fast.tw10229565883756835946:=()
def PySem.W.Fast.tw558578524426913966:=()
def PySem.W.Fast.tw915018039486450608:=()
def PySem.W.Fast.tw17796618697393259839:=()
def PySem.W.Fast.tw11472332980374781544:=()
def PySem.W.Fast.tw5464962803217872111:=()
def PySem.W.Fast.tw9866387140546335401:=()
def PySem.W.Fast.tw18158734430760647920:=()
def PySem.W.Fast.tw13396771426464472432:=()
open PySem PySem.W PyProof.Rows
set_option maxRecDepth 100000 in
set_option maxHeartbeats 0 in
theorem PySem.Challenge.cw_citeward_k31_the_order_of_a_list_holds : PySem.Challenge.rw_citeward_k31_the_order_of_a_list.Holds := by
  w_on; o_law; k_head; (case hw => w_witness2)
  k_fill
  refine Gen.walk (l := PySem.Challenge.rw_citeward_k31_the_order_of_a_list) (tq := 76) (c0 := 80) rfl rfl (fun w h Y => ⟨PySem.W.km_in_of Y, PySem.W.km_tabs_of Y 76 (by simp)⟩) (fun _ => by kernel_rfl) (fun _ => by kernel_rfl) ?F My.law_true
  case F =>
    intro w mg fa h KX G hmg
    refine' Gen.Zwv KX G hmg ?hct ?ax0 ?Fx0 ?kx0 ?ax1 ?Fx1 ?kx1 ?ax2 ?Fx2 ?kx2 ?ax3 ?Fx3 ?kx3 ?ax4 ?Fx4 ?kx4 ?ax5 ?Fx5 ?kx5 ?ax6 ?Fx6 ?kx6 ?ax7 ?Fx7 ?kx7 ?ax8 ?Fx8 ?kx8 ?ax9 ?Fx9 ?kx9 ?ax10 ?Fx10 ?kx10 ?ax11 ?Fx11 ?kx11 ?ax12 ?lx12 ?cx12 ?kx12 ?zenumerate ?zint ?zisinstance ?zlen ?zlist ?zrange ?zsorted
    (case ax0 => k_is)
    (case Fx0 => exact ⟨_, L2.Zbz (by k_is) (by k_is) (by k_is)⟩)
    (case kx0 => k_is)
    (case ax1 => k_is)
    (case Fx1 => exact ⟨_, L2.Zbz (by k_is) (by k_is) (by k_is)⟩)
    (case kx1 => k_is)
    (case ax2 => k_is)
    (case Fx2 => exact ⟨_, L2.Zbz (by k_is) (by k_is) (by k_is)⟩)
    (case kx2 => k_is)
    (case ax3 => k_is)
    (case Fx3 => exact ⟨_, L2.Zbz (by k_is) (by k_is) (by k_is)⟩)
    (case kx3 => k_is)
    (case ax4 => k_is)
    (case Fx4 => exact ⟨_, L2.Zbz (by k_is) (by k_is) (by k_is)⟩)
    (case kx4 => k_is)
    (case ax5 => k_is)
    (case Fx5 => exact ⟨_, L2.Zbz (by k_is) (by k_is) (by k_is)⟩)
    (case kx5 => k_is)
    (case ax6 => k_is)
    (case Fx6 => exact ⟨_, L2.Zbz (by k_is) (by k_is) (by k_is)⟩)
    (case kx6 => k_is)
    (case ax7 => k_is)
    (case Fx7 => exact ⟨_, L2.Zbz (by k_is) (by k_is) (by k_is)⟩)
    (case kx7 => k_is)
    (case ax8 => k_is)
    (case Fx8 => exact ⟨_, TX.funC_mk (by k_is) (by k_is) (by k_is)⟩)
    (case kx8 => k_is)
    (case ax9 => k_is)
    (case Fx9 => exact ⟨_, L2.Zbz (by k_is) (by k_is) (by k_is)⟩)
    (case kx9 => k_is)
    (case ax10 => k_is)
    (case Fx10 => exact ⟨_, L2.Zbz (by k_is) (by k_is) (by k_is)⟩)
    (case kx10 => k_is)
    (case ax11 => k_is)
    (case Fx11 => exact ⟨_, L2.Zbz (by k_is) (by k_is) (by k_is)⟩)
    (case kx11 => k_is)
    (case ax12 => k_is)
    (case lx12 => k_is)
    (case cx12 => k_is)
    (case kx12 => k_is)
    (case zenumerate => k_is)
    (case zint => k_is)
    (case zisinstance => k_is)
    (case zlen => k_is)
    (case zlist => k_is)
    (case zrange => k_is)
    (case zsorted => k_is)
    (case hct => kernel_rfl)
